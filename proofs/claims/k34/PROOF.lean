import PyProof.Rows.All
import Wide.All
import OpenK.AllK
import Wide.FinOn
import Lean
import PyProof.EqAt
import PyProof.EqKinds
import PyProof.TupleCall
import PySem.Challenge.RW_cornerpiles_k34_refused_between
open PySem renaming Value->Ae,Shared->Ah,sizeLine->An,starEach->Ax,wpAny_bind->AS,Program->A3,wpAny_pure->Bw,model->Ap,wpAny->Aq,World->Az,compareOp->Cp,Around->AW,cellsFrom->CG,wpAny_truthy_bool->FR,FuncData->C0,mainGlobals->DF,wpAny_mono->DE,assignEach->DD,NameKind->CO,Scope->AX,binaryOp->Dz,mem_of_lookup->JQ,backTo->Cz,intItems->DT,wpAny_newObj_type->JP,wpAny_loadPart_at->JO,sysModules->FQ,bootBuiltins->HA,behindInMarks->IP,wpAny_passesOwn->JN,wpAny_execs_nil->JM,sliceBounds->Hz,numAt->Cj,wpAny_Call_Name_kw->LP,foldedSetIterable->LO,cLine->Cy,letOwnedTupleGo->LN,wpAny_holding->LL,tupleKind_room_in1->NG,PyData->ED,PassesOwn->IL,ExceptHandler->LK,relabel->GP,codeAny->GO,call_meets->JI,codeAny_mono->LJ,noFill_tuple_add->N8,tupleKind->JG,pushCells_keeps->N7,intItems_at->LG,importedModules->N6,callerA->Hy,assign->FO,Keyword->Hx,CmpOp->DS,newFunctionEnv->N4
open PySem.Heap renaming lt_size->AZ,get?_push_of_some->CP,get?_push_size->DX,size_push->JK,FlyingW->JJ,SameBut->LH
open PySem.W renaming findIn->D1,kia_one->DW,kitOne->DV,mroIn->Fg,boot_heap->D0,keepIn->GQ,fnOf->IM,looks_findIn->NI,kitAny->LM,hideAll_get->NH,methodObj->NC,kitx_none->NB,boot_heap->NA,instObj->N5,lookIn->N3,codeIn->N2
open Ne renaming symm->Bv
open False renaming elim->DC
open PySem.PyData renaming eqv->DU,depthAll->HB,canLay0->IQ,canLayAll0->N9
open PySem.F renaming plainAttrs_list->JR,args_tuple_add_2->NM,entry_tuple_add->NK,slot_tuple_add->NJ
open PySem.Builtin.Slice renaming slicePlaces->LR,sliceAdjust->NN,sliceApplied->Q2
open PySem.Builtin.Tuple renaming tupleExact->LQ
open PySem.SeqAt.EqAt renaming same->JL,of_refs->ND
open PyProof.Rows renaming callWith_type1->NO,AllBare->Eo,slot_tuple_getitem->Q4,envOfC->FP
open PySem.Builtin.List renaming listTooLong->NL
open PySem.Obj renaming mapSeq->JH
open PySem.SeqAt renaming RcNeAt->LI
open PySem.Calls renaming Name_function_global->Q3
open List renaming mem_cons_of_mem->AA,mem_append_right->AR,mem_cons_self->AI,length_map->A9,replicate->A6,mem_append_left->AY,getElem?_eq_some_iff->ja7,getD_eq_getElem?_getD->BR,length_append->Bn,getElem?_set_ne->BJ,mem_cons->jb3,size_toArray->BA,getElem?_append_left->CU,mem_singleton->jb6,getElem?_set_self->CH,mem_append->jb8,getElem?_eq_getElem->Dn,length_cons->BP,getElem?_map->Cs,all_eq_true->jc4,range->Bb,length_set->C1,map_cons->C8,getElem?_append_right->Gn,getElem?_replicate->Fl,lookup_cons->DH,length_replicate->Fj,mem_range->jd5,replicate_succ->Gk,length_take->EM,mem_map->je0,length_singleton->Ia,getElem?_take_of_lt->K1,all_cons->Fi,flatten_cons->HZ,getElem_of_mem->Ji,getElem_mem->HY,set_cons_zero->Jh,set_cons_succ->Jg,getElem?_eq_none->K0,length_dropLast->Kz,length_drop->Jf,append_nil->Jd,find?_cons->Jc,length_range->Kw,getElem?_eq_none_iff->jg2,filterMap_cons->MC,filter_eq_self->jg6,nil_append->Ku,getElem?_cons_succ->OT,findIdx?_eq_some_iff_getElem->jh1,map_append->Ks,append_assoc->MB,reverse_cons->M9,eq_nil_iff_forall_not_mem->jh8,map_map->Ja,mem_of_getElem?->OR,mem_filter->ji3,nodup_cons->ji4,take_succ_cons->OQ,getElem?_range->OP,getElem?_concat_length->T8,mem_filterMap->ji8,map_nil->Kq,findIdx?_cons->OO,drop_eq_getElem_cons->T7,mem_or_eq_of_mem_set->T6,any_cons->M7,range'->Ko,filter_cons_of_neg->T5,filter_cons_of_pos->T4,not_mem_nil->OL,drop_eq_nil_of_le->T2,take_of_length_le->T1,of_mem_zip->OK,set_nil->M5,map_set->M3,getElem?_of_mem->Tx,mem_of_mem_take->Tw,mem_of_mem_drop->Tv,dropLast_subset->Tu,take_zero->OJ,replicate_zero->Tt,take_nil->OH,mem_range'_1->jm4,all_eq_false->jm5,flatten_nil->Tp,cons_append->Tn,cons_ne_nil->Tj,foldl_cons->Ti,forIn_cons->Th,foldl->OC,drop_nil->Tf,getD->OB,sum_nil->Tc,all_nil->Tb
open Bool renaming and_eq_true->AL,false_ne_true->C2,or_eq_true->EL,eq_iff_iff->Je,not_eq_true'->Kx,false_xor->Jb,false_or->Kr,and_eq_false_iff->Tz,and_eq_true_iff->jl2,and_false->OI,and_true->OG,true_xor->OE
open Option renaming map_eq_some_iff->jb0,map_some->Kt,isSome_iff_exists->jj3,isSome_map->ON,isSome_some->Tr,getD_none->Tq,map->SY
open Nat renaming lt_of_lt_of_le->Br,le_refl->Bc,ne_of_lt->Cc,le_trans->CT,le_of_succ_le->GY,lt_irrefl->EK,lt_of_succ_lt_succ->MD,succ_ne_zero->Kv,ne_of_gt->HX,lt_succ_of_lt->MA,zero_le->HW,lt_succ_self->M8,min_le_right->OM,zero_add->M6,le_of_lt->OD,succ_le_succ->To,min_le_left->Tg,mul_comm->Td
open Int renaming emod_lt_of_pos->DI,emod_nonneg->Dm,toNat_natCast->EN,le_refl->Kp,le_trans->M4,zero_add->Ta
open Array renaming length_toList->Ky,getElem?_toList->OS,toList_eq_nil_iff->jj6,append_assoc->Ts,toList->Te
set_option Elab.async false
set_option linter.all false
set_option maxRecDepth 100000
set_option autoImplicit false
set_option maxHeartbeats 2000000
namespace L2
open PySem PySem.Spec PyProof.Rows
def J8 (s:Stmt):Arguments:=match s with
 | .FunctionDef _ a _ _ _ _ _ _ _ _=>a
 | _=>{ posonlyargs:=[],args:=[],vararg:=none,kwonlyargs:=[],kw_defaults:=[],kwarg:=none,defaults:=[] }
def Bp (s:Stmt):List Stmt:=match s with
 | .FunctionDef _ _ b _ _ _ _ _ _ _=>b
 | _=>[]
def A2 (s:Stmt):AX:=match s with
 | .FunctionDef _ _ _ _ _ _ sc _ _ _=>sc
 | _=>{ kind:=.function,names:=[],isGenerator:=false,isCoroutine:=false }
end L2
namespace QQ
open PySem PySem.Spec PySem.W PySem.Calls PyProof.Rows L2
abbrev Frag:=PySem.W.Frag
def XN:List Str:=["PileError","NoBox","NoPile","NoStairs","NoWays","NoRoad","NoNumber","NoPlace","TooMany","NoText","NoName","NoRow"]
def BC (K:Frag) (c:Nat):Option Addr:=match XN[c]? with
 | some x=>(match PySem.W.nsIn K DF x with
  | some (some (.ref C))=>some C
  | _=>none)
 | none=>none
def bmV:List Ae:=[.type "ValueError",.type "Exception",.type "BaseException",.type "object"]
def Gj (K:Frag) (C:Addr):List Ae:=match K.lookup C with
 | some ⟨_,_,.cls cd,_⟩=>cd.mro
 | _=>[]
def CI (c d:Nat):Bool:=c == d || d == 0
def Dh (K:Frag):Bool:=(Bb 12).all λ c=>match BC K c with
 | some C=>PySem.W.excIn K C bmV "ValueError.__new__" && (Bb 12).all λ d=>(match BC K d with
  | some D=>(Gj K C).contains (.ref D) == CI c d
  | none=>true)
 | none=>true
def Iq (K:Frag) (C:Addr):Bool:=(PySem.W.clsIn K C).isSome && Fg K C (.type "object") == some true && Fg K C (.type "BaseException") == some true && D1 K (.ref C) "__class__" == some (some (.builtin "object.__class__")) &&
 D1 K (.ref C) "__getattribute__" == some (some (.builtin "BaseException.__getattribute__")) && D1 K (.ref C) "__getattr__" == some none
def By (K:Frag):Bool:=DV K (.type "NoneType") (.type "ValueError") == some false && (Bb 12).all λ c=>match BC K c with
 | some C=>Iq K C && DV K (.type "NoneType") (.ref C) == some false && DV K (.ref C) (.type "ValueError") == some true && (Bb 12).all λ d=>(match BC K d with
  | some D=>DV K (.ref C) (.ref D) == some (CI c d)
  | none=>true)
 | none=>true
def zvg:List Str:=["len","isinstance","all","max","min","tuple","list","range","int","bool","str","dict","sum","enumerate","zip","reversed","set","ValueError","sorted","abs"]
def ID (tb:String->Option Builtin) (p:A3) (w:Az) (n₀:Nat) (ann:Option Ae):Nat->SharedT->Thread->Option SharedT
 | 0,_,_=>none
 | n + 1,s,t=>match through t with
  | true=>some s
  | false=>match stepOk n₀ ann t with
   | false=>none
   | true=>match stepT (denote tb) p w s t with
    | some (s',t')=>ID tb p w n₀ ann n s' t'
    | none=>none
def SX:List Obj->Nat->BT->BT
 | [],_,t=>t
 | o::r,n,t=>SX r (n + 1) (t.ins n o)
noncomputable def bootT (P:Params):BT:=SX (D0 P).objs.toList 0 .nil
noncomputable def bootS (P:Params) (os:OsState):SharedT:=⟨bootT P,(D0 P).objs.size,(D0 P).life,#[],boot_drawn,boot_toks,os⟩
def Nj {α:Type} (p q:A3) (loose:List Str) (Xt:Ah->Bool) (Yf:Ah->α) (H:Heap) (s:Ah):=
 ((staticsOk (N6 p.main.body) H s.heap && namesBound p s.heap && gensDone s && laidKept H s.heap),openSeen q loose (N6 p.main.body) Xt true s,Yf s)
def Kn (h:Heap):Frag:=(Bb h.objs.size).filterMap λ a=>(h.get? a).map λ o=>(a,o)
structure DefSeen where
 name:Str
 qual:Str
 params:Arguments
 body:FuncBody
 scope:AX
 globals:Addr
 closure:List (Str×Addr)
 defaults:Ae
 builtins:Addr
 code:Bool
def Nh (K:Frag) (x:Str):Option DefSeen:=match nsIn K DF x with
 | some (some (.ref g))=>(match K.lookup g with
  | some ⟨_,_,.func fd,_⟩=>some ⟨fd.name,fd.qualname,fd.params,fd.body,fd.scope,fd.globals,fd.closure,fd.defaults,fd.builtins,codeIn K fd.code x⟩
  | _=>none)
 | _=>none
def Om (x:Str) (st:Stmt):DefSeen:=⟨x,x,J8 st,.stmts (Bp st),A2 st,mainNs,[],.none,0,true⟩
def JA (ds:List (Str×Stmt)) (xc:List Nat) (K:Frag):List (Option DefSeen)×List (Option (Option Ae))×Bool:=
 (ds.map λ d=>Nh K d.1,zvg.map λ x=>nsIn K DF x,xc.isEmpty || (Dh K && By K && xc.all λ c=>(BC K c).isSome && match XN[c]? with
  | some x=>!(x == ("__debug__" : Str))
  | none=>false))
def JE (ds:List (Str×Stmt)):List (Option DefSeen)×List (Option (Option Ae))×Bool:=(ds.map λ d=>some (Om d.1 d.2),zvg.map λ _=>some none,true)
end QQ
namespace K34
open PySem PySem.Spec PyProof.Rows L2 QQ
def top (i:Nat):Stmt:=PySem.Challenge.pw_cornerpiles_k34_refused_between.main.body.getD i (.Pass ⟨0,0,0,0⟩)
abbrev t0:Stmt:=top 7
abbrev t1:Stmt:=top 8
abbrev t2:Stmt:=top 9
abbrev t3:Stmt:=top 10
abbrev t4:Stmt:=top 11
abbrev t5:Stmt:=top 12
abbrev t6:Stmt:=top 13
abbrev t7:Stmt:=top 14
abbrev t8:Stmt:=top 16
abbrev t9:Stmt:=top 18
abbrev Mj:Stmt:=top 29
abbrev Mi:Stmt:=top 32
abbrev Mh:Stmt:=top 34
abbrev Mg:Stmt:=top 35
abbrev Mf:Stmt:=top 38
abbrev Me:Stmt:=top 40
abbrev Md:Stmt:=top 41
abbrev Mc:Stmt:=top 42
abbrev Mb:Stmt:=top 43
abbrev LZ:Stmt:=top 45
abbrev LY:Stmt:=top 46
abbrev Ma:Stmt:=top 44
abbrev LX:Stmt:=top 47
abbrev LW:Stmt:=top 48
abbrev JV:Stmt:=top 49
def dfs:List (Str×Stmt):=[(("is_whole_number" : Str),t0),(("is_box" : Str),t1),(("must_be_box" : Str),t2),(("is_row_of_heights" : Str),t3),(("never_rises" : Str),t4),(("column_of" : Str),t5),(("is_pile" : Str),t6),(("must_be_pile" : Str),t7),(("must_be_two_piles" : Str),t8),(("is_place" : Str),t9),(("how_many_between" : Str),Mj),(("nth_between" : Str),Mi),(("number_between" : Str),Mh),(("must_be_told_heights" : Str),Mg),(("bounds_with" : Str),Mf),(("_law_cell_at" : Str),Me),(("_law_mixed" : Str),Md),(("_law_box" : Str),Mc),(("_law_pile" : Str),Mb),(("_law_spoilt" : Str),Ma),(("_law_falls" : Str),LZ),(("_law_risen" : Str),LY),(("_law_kinds" : Str),LX),(("_law_put_in" : Str),LW),(("law" : Str),JV)]
def view:A3:={ PySem.Challenge.pw_cornerpiles_k34_refused_between with main:={ PySem.Challenge.pw_cornerpiles_k34_refused_between.main with body:=[JV] } }
def loose:List Str:=(PySem.Challenge.pw_cornerpiles_k34_refused_between.main.scope.names.map λ x=>x.1).filter λ x=>!(x == ("law" : Str))
def run:∀ (w:PySem.World) (os:PySem.OsState),(ID PySem.treeTable PySem.Challenge.rw_cornerpiles_k34_refused_between.prog w (NA w.params).objs.size ((NA w.params).nsMap DF "__annotations__") 20000 (bootS w.params os) (PySem.W.topStub PySem.Challenge.rw_cornerpiles_k34_refused_between.prog)).map (λ s=>Nj PySem.Challenge.rw_cornerpiles_k34_refused_between.prog view loose (λ s=>PySem.W.xlAt view [] s && PySem.W.recOk (PySem.W.RowW.records PySem.Challenge.rw_cornerpiles_k34_refused_between.row.toRowW) s) (λ s=>JA dfs [0,1,2,6,7] (Kn s.heap)) (NA w.params) s.abs)=some (true,PySem.W.openGood view loose,JE dfs):=λ w os=>by kernel_rfl
end K34
namespace L2
open PySem PySem.Spec PyProof.Rows
abbrev AK:=Sum Int Str
def IZ:AK->Ae->Bool
 | .inl k,v=>Value.isInt k v
 | .inr x,v=>Value.isStrOf x v
def O9 (w:Az):AK->Int
 | .inl k=>hashInt k
 | .inr x=>hashStr w x
theorem FA:∀ {k:AK}{v:Ae},IZ k v=true->(∃ i t,k=Sum.inl i/\v=Value.int i t)\/(∃ x t,k=Sum.inr x/\v=Value.str x t)
 | .inl i,v,h=>by
  obtain ⟨t,e⟩:=Value.isInt_shape (k:=i) (v:=v) h;exact .inl ⟨i,t,rfl,e⟩
 | .inr x,v,h=>by
  obtain ⟨t,e⟩:=Value.isStrOf_shape (x:=x) (v:=v) h;exact .inr ⟨x,t,rfl,e⟩
def Zj (i:Int) (t:Tok):IZ (.inl i) (.int i t)=true:=by simp [IZ,Value.isInt]
def Zk (x:Str) (t:Tok):IZ (.inr x) (.str x t)=true:=by simp [IZ,Value.isStrOf]
def Vj (a b:Int):decide ((Sum.inl a:AK)=Sum.inl b)=(a == b):=by
 by_cases e:a=b
 ·subst e;simp
 ·have h:¬ (Sum.inl a:AK)=Sum.inl b:=λ q=>e (Sum.inl.inj q);rw [decide_eq_false h];exact (beq_eq_false_iff_ne.mpr e).symm
def Vm (a b:Str):decide ((Sum.inr a:AK)=Sum.inr b)=decide (a=b):=by
 by_cases e:a=b
 ·subst e;simp
 ·have h:¬ (Sum.inr a:AK)=Sum.inr b:=λ q=>e (Sum.inr.inj q);rw [decide_eq_false h,decide_eq_false e]
def Vk (a:Int) (b:Str):decide ((Sum.inl a:AK)=Sum.inr b)=false:=decide_eq_false (λ q=>nomatch q)
def Vl (a:Str) (b:Int):decide ((Sum.inr a:AK)=Sum.inl b)=false:=decide_eq_false (λ q=>nomatch q)
def Dc (prog:A3) (w:Az):PySem.KeyKind prog w AK where
 is:=IZ
 hash:=O9 w
 inj:=λ v a b ha hb=>by
  rcases FA ha with ⟨i,t,rfl,rfl⟩ | ⟨x,t,rfl,rfl⟩
  ·rcases FA hb with ⟨j,u,rfl,e⟩ | ⟨y,u,rfl,e⟩
   ·injection e with e1 _;rw [e1]
   ·exact nomatch e
  ·rcases FA hb with ⟨j,u,rfl,e⟩ | ⟨y,u,rfl,e⟩
   ·exact nomatch e
   ·injection e with e1 _;rw [e1]
 byValue:=λ k v h=>by
  rcases FA h with ⟨i,t,rfl,rfl⟩ | ⟨x,t,rfl,rfl⟩ <;> rfl
 pyHash:=λ hv h=>by
  rcases FA hv with ⟨i,t,rfl,rfl⟩ | ⟨x,t,rfl,rfl⟩
  ·exact wpAny_pyHash_int h
  ·exact wpAny_pyHash_str h
 eqBool:=λ hu hv h=>by
  rcases FA hu with ⟨i,t,rfl,rfl⟩ | ⟨x,t,rfl,rfl⟩
  ·rcases FA hv with ⟨j,u,rfl,rfl⟩ | ⟨y,u,rfl,rfl⟩
   ·rw [Vj] at h;exact wpAny_eqBool_int h
   ·rw [Vk] at h;exact SeqAt.EqAt.int_str i t y u _ _ _ _ h
  ·rcases FA hv with ⟨j,u,rfl,rfl⟩ | ⟨y,u,rfl,rfl⟩
   ·rw [Vl] at h;exact SeqAt.EqAt.str_int x t j u _ _ _ _ h
   ·rw [Vm] at h;exact wpAny_eqBool_str h
 «strs»:=λ k x t v h=>by
  rcases FA h with ⟨i,u,rfl,e⟩ | ⟨y,u,rfl,e⟩
  ·exact nomatch e
  ·injection e with e1 _
   subst e1;cases v <;> rfl
def Uj (prog:A3) (w:Az) (i:Int) (t:Tok):(Dc prog w).is (.inl i) (.int i t)=true:=Zj i t
def Uk (prog:A3) (w:Az) (x:Str) (t:Tok):(Dc prog w).is (.inr x) (.str x t)=true:=Zk x t
inductive V where
 | non | bl (b:Bool) | int (i:Int) | str (x:Str) | byt (b:Array UInt8) | flt (b:UInt64) | ref (a:Addr) | ty (n:String)
 deriving DecidableEq
def RelV:V->Ae->Prop
 | .non,u=>u=Value.none
 | .bl b,u=>u=Value.bool b
 | .int i,u=>∃ t,u=Value.int i t
 | .str x,u=>∃ t,u=Value.str x t
 | .byt b,u=>∃ t,u=Value.bytes b t
 | .flt b,u=>∃ t,u=Value.float b t
 | .ref a,u=>u=Value.ref a
 | .ty n,u=>u=Value.type n
abbrev Vals:List V->List Ae->Prop:=Paired RelV
def Vals.length {xs:List V}{us:List Ae} (r:Vals xs us):xs.length=us.length:=Paired.length r
theorem Vals.get:∀ {xs:List V}{us:List Ae}{i:Nat}{x:V},Vals xs us->xs[i]?=some x->∃ u,us[i]?=some u/\RelV x u
 | _,_,_,_,.nil,e=>by simp at e
 | _,_,0,_,.cons r _,e=>by simp at e;subst e;exact ⟨_,rfl,r⟩
 | _,_,i + 1,x,.cons _ t,e=>by
  obtain ⟨u,h1,h2⟩:=Vals.get (i:=i) (x:=x) t (by simpa using e);exact ⟨u,by simpa using h1,h2⟩
theorem Vals.set {x:V}{u:Ae} (r:RelV x u):∀ {xs:List V}{us:List Ae} (i:Nat),Vals xs us->Vals (xs.set i x) (us.set i u)
 | _,_,_,.nil=>.nil
 | _,_,0,.cons _ t=>.cons r t
 | _,_,i + 1,.cons q t=>.cons q (Vals.set r i t)
theorem Vals.append:∀ {xs ys:List V}{us ws:List Ae},Vals xs us->Vals ys ws->Vals (xs++ys) (us++ws)
 | _,_,_,_,.nil,s=>s
 | _,_,_,_,.cons r t,s=>.cons r (Vals.append t s)
theorem Vals.take:∀ {xs:List V}{us:List Ae} (n:Nat),Vals xs us->Vals (xs.take n) (us.take n)
 | _,_,0,_=>.nil
 | _,_,_ + 1,.nil=>.nil
 | _,_,n + 1,.cons r t=>.cons r (Vals.take n t)
theorem Vals.drop:∀ {xs:List V}{us:List Ae} (n:Nat),Vals xs us->Vals (xs.drop n) (us.drop n)
 | _,_,0,r=>r
 | _,_,_ + 1,.nil=>.nil
 | _,_,n + 1,.cons _ t=>Vals.drop n t
def RelO:Option V->Option Ae->Prop
 | some v,some u=>RelV v u
 | none,none=>True
 | _,_=>False
def KV {κ:Type}:List (κ×V)->List (κ×Ae)->Prop:=Paired λ (p:κ×V) (q:κ×Ae)=>p.1=q.1/\RelV p.2 q.2
def kV:AK->V
 | .inl i=>.int i
 | .inr x=>.str x
inductive HO where
 | lst (xs:List V)
 | tup (xs:List V)
 | dK (kvs:List (AK×V)) | dT (kvs:List (List AK×V))
 | set (S:Int->Bool) (n:Nat)
 | ins (C dx:Addr) (fs:List (Str×V))
 | own (x:Addr)
 | xd (fs:List (Str×V))
 | met (f x:Addr)
 | rng (lo hi:Int)
 | frz (o:Obj) (u:HO)
 | tbl (ps:Array Ae)
 | ext (φ:Heap->Prop)
abbrev Hp:=Addr->Option HO
def Ao (H:Hp) (a:Addr) (o:HO):Hp:=λ b=>if b=a then some o else H b
def Bx {H:Hp}{a:Addr}{o:HO}:Ao H a o a=some o:=by unfold Ao;rw [if_pos rfl]
def AE {H:Hp}{a b:Addr}{o:HO} (h:b≠a):Ao H a o b=H b:=by unfold Ao;rw [if_neg h]
def U2 {H:Hp}{a b:Addr}{o u:HO} (h:H a=some o) (h':H b=some u) (d:o≠u):a≠b:=by
 intro e;subst e;rw [h] at h';exact d (Option.some.inj h')
def Hf {H:Hp}{a b:Addr}{o:HO} (h:H a=some o) (h':H b=none):a≠b:=by
 intro e;subst e;rw [h] at h';cases h'
section
variable (P:A3) (w:Az)
def zxx (H:Hp) (h:Heap) (a:Addr):HO->Prop
 | .lst xs=>xs.length<=An/\∃ (its:List Ae) (n:Nat),Vals xs its/\h.get? a=some { cls:=.type "list",data:=.seq its.toArray n }
 | .tup xs=>xs.length<=An/\∃ its:List Ae,Vals xs its/\IsTup h a its.toArray
 | .dK kvs=>kvs.length<=An/\(a == FQ)=false/\∃ vs,KV kvs vs/\h.DictOf (Dc P w) a vs
 | .dT kvs=>kvs.length<=An/\(a == FQ)=false/\∃ xs:List (List AK×Addr×Ae),
   Paired (λ (p:List AK×V) (q:List AK×Addr×Ae)=>p.1=q.1/\H q.2.1=some (.tup (p.1.map kV))/\RelV p.2 q.2.2) kvs xs /\
   ∃ o es ep,h.get? a=some o/\o.ExactDict/\o.data=.dict es ep/\es.toList=xs.map (entryOfKey (JG (Dc P w)))/\(xs.map (·.1)).Nodup
 | .set S n=>h.SetOf (intKind P w) a S n
 | .ins C dx fs=>H dx=some (.own a)/\fs.length<=1000/\dx≠a/\h.get? a=some (N5 C dx) /\
   ∃ mA,h.Ns1 dx mA/\(∀ f,RelO (fs.lookup f) (mA f))/\PySem.Within mA (fs.map (·.1))
 | .own _=>∃ o,h.get? a=some o
 | .xd fs=>∃ mA,h.Ns1 a mA/\∀ f,RelO (fs.lookup f) (mA f)
 | .rng lo hi=>∃ t u v,h.get? a=some { cls:=.type "range",data:=.fields #[.int lo t,.int hi u,.int 1 v] }
 | .frz o u=>h.get? a=some o/\zxx H h a u
 | .tbl ps=>h.get? a=some { cls:=.none,data:=.fields ps }
 | .met f x=>h.get? a=some (NC (.ref f) (.ref x))
 | .ext φ=>φ h/\(∃ o,h.get? a=some o)/\∀ h1 h2:Heap,φ h1->(∀ o,h1.get? a=some o->h2.get? a=some o)->φ h2
def HOk (H:Hp) (h:Heap):Prop:=∀ a o,H a=some o->zxx P w H h a o
end
section
variable {P:A3}{w:Az}{H H':Hp}{h h':Heap}{a:Addr}{o:HO}
theorem zxx.lt (x:zxx P w H h a o):a < h.objs.size:=by
 cases o with
 | lst xs=>obtain ⟨_,_,_,_,e⟩:=x;exact AZ e
 | tup xs=>obtain ⟨_,_,_,p⟩:=x;exact p.lt
 | dK kvs=>obtain ⟨_,_,_,_,o,_,_,e,_⟩:=x;exact AZ e
 | dT kvs=>obtain ⟨_,_,_,_,o,_,_,e,_⟩:=x;exact AZ e
 | set S n=>obtain ⟨o,_,_,_,e,_⟩:=x;exact AZ e
 | ins C dx fs=>obtain ⟨_,_,_,e,_⟩:=x;exact AZ e
 | own y=>obtain ⟨_,e⟩:=x;exact AZ e
 | xd fs=>obtain ⟨_,⟨_,_,_,e,_⟩,_⟩:=x;exact AZ e
 | rng lo hi=>obtain ⟨_,_,_,e⟩:=x;exact AZ e
 | frz ob u=>obtain ⟨e,_⟩:=x;exact AZ e
 | tbl ps=>exact AZ (show h.get? a=some _ from x)
 | met f y=>exact AZ (show h.get? a=some _ from x)
 | ext φ=>obtain ⟨_,⟨_,e⟩,_⟩:=x;exact AZ e
theorem Paired.mapP {α β:Type}{F G:α->β->Prop}:∀ {l₁:List α}{l₂:List β},Paired F l₁ l₂->(∀ a b,F a b->G a b)->Paired G l₁ l₂
 | _,_,.nil,_=>.nil
 | _,_,.cons r t,f=>.cons (f _ _ r) (Paired.mapP t f)
theorem zxx.stay (x:zxx P w H h a o) (k:∀ b u,(b=a\/H b=some (.own a))->h.get? b=some u->h'.get? b=some u)
  (ho:∀ b,H b=some (.own a)->H' b=some (.own a)) (ht:∀ b xs,H b=some (.tup xs)->H' b=some (.tup xs)):zxx P w H' h' a o:=by
 induction o with
 | lst xs=>obtain ⟨z,its,n,r,e⟩:=x;exact ⟨z,its,n,r,k _ _ (.inl rfl) e⟩
 | tup xs=>obtain ⟨z,its,r,ob,e,c⟩:=x;exact ⟨z,its,r,ob,k _ _ (.inl rfl) e,c⟩
 | dK kvs=>obtain ⟨z,y,vs,r,ob,es,ep,e,c⟩:=x;exact ⟨z,y,vs,r,ob,es,ep,k _ _ (.inl rfl) e,c⟩
 | dT kvs=>
  obtain ⟨z,y,xs,r,ob,es,ep,e,c⟩:=x;exact ⟨z,y,xs,Paired.mapP r λ p q z=>⟨z.1,ht _ _ z.2.1,z.2.2⟩,ob,es,ep,k _ _ (.inl rfl) e,c⟩
 | set S n=>obtain ⟨ob,es,ep,t,e,c⟩:=x;exact ⟨ob,es,ep,t,k _ _ (.inl rfl) e,c⟩
 | ins C dx fs=>
  obtain ⟨d,z,ne,e,mA,⟨od,es,ep,e2,c⟩,r⟩:=x;exact ⟨ho _ d,z,ne,k _ _ (.inl rfl) e,mA,⟨od,es,ep,k _ _ (.inr d) e2,c⟩,r⟩
 | own y=>obtain ⟨ob,e⟩:=x;exact ⟨ob,k _ _ (.inl rfl) e⟩
 | xd fs=>obtain ⟨mA,⟨od,es,ep,e,c⟩,r⟩:=x;exact ⟨mA,⟨od,es,ep,k _ _ (.inl rfl) e,c⟩,r⟩
 | rng lo hi=>obtain ⟨t,u,v,e⟩:=x;exact ⟨t,u,v,k _ _ (.inl rfl) e⟩
 | frz ob u ih=>obtain ⟨e,q⟩:=x;exact ⟨k _ _ (.inl rfl) e,ih q⟩
 | tbl ps=>
  have e:h.get? a=some { cls:=.none,data:=.fields ps }:=x;show h'.get? a=some { cls:=.none,data:=.fields ps };exact k a _ (.inl rfl) e
 | met f y=>
  have e:h.get? a=some (NC (.ref f) (.ref y)):=x;show h'.get? a=some (NC (.ref f) (.ref y));exact k a _ (.inl rfl) e
 | ext φ=>obtain ⟨p,⟨o,e⟩,st⟩:=x;exact ⟨st _ _ p λ o q=>k _ _ (.inl rfl) q,⟨o,k _ _ (.inl rfl) e⟩,st⟩
def HOk.lt (x:HOk P w H h) (e:H a=some o):a < h.objs.size:=(x a o e).lt
theorem HOk.fresh (x:HOk P w H h) (e:h.objs.size<=a):H a=none:=by
 cases q:H a with
 | none=>rfl
 | some u=>exact absurd (Br (x.lt q) e) (EK _)
def HOk.kept (x:HOk P w H h) (k:∀ b u,h.get? b=some u->h'.get? b=some u):HOk P w H h':=λ a o e=>
 (x a o e).stay (λ b u _ q=>k b u q) (λ _ q=>q) λ _ _ q=>q
def HOk.laid (x:HOk P w H h) (k:∀ b u,h.get? b=some u->h'.get? b=some u) (hp:h.objs.size<=a) (new:zxx P w (Ao H a o) h' a o):HOk P w (Ao H a o) h':=λ b u e=>by
 have hn:=x.fresh hp;by_cases hb:b=a
 ·subst hb;rw [Bx] at e;cases e;exact new
 ·rw [AE hb] at e;exact (x b u e).stay (λ c v _ q=>k c v q) (λ c q=>by rw [AE (Hf q hn)];exact q) λ c xs q=>by rw [AE (Hf q hn)];exact q
end
def Rd (H:Hp) (a:Addr) (u:HO):Prop:=H a=some u\/∃ o,H a=some (.frz o u)
def Rd.ok {P:A3}{w:Az}{H:Hp}{h:Heap}{a:Addr}{u:HO} (r:Rd H a u) (x:HOk P w H h):zxx P w H h a u:=by
 rcases r with r | ⟨o,r⟩
 ·exact x a u r
 ·obtain ⟨_,q⟩:=x a _ r;exact q
def KC:Option HO->Prop
 | some (.lst _)=>True
 | some (.dK _)=>True
 | some (.dT _)=>True
 | some (.set _ _)=>True
 | some (.ins _ _ _)=>True
 | some (.ext _)=>True
 | _=>False
section
variable {P:A3}{w:Az}{H:Hp}{h h':Heap}{x e:Addr}{o':HO}
def HOk.write (ok:HOk P w H h) (mu:KC (H x)) (he:e=x\/H e=some (.own x)) (k:∀ b u,b≠e->h.get? b=some u->h'.get? b=some u) (heo:∃ u,h'.get? e=some u)
  (new:zxx P w (Ao H x o') h' x o'):HOk P w (Ao H x o') h':=λ b u q=>by
 have nown:∀ c y,H c=some (.own y)->c≠x:=λ c y r z=>by subst z;rw [r] at mu;exact mu
 have ntup:∀ c xs,H c=some (.tup xs)->c≠x:=λ c xs r z=>by subst z;rw [r] at mu;exact mu
 by_cases hb:b=x
 ·subst hb;rw [Bx] at q;cases q;exact new
 ·rw [AE hb] at q;by_cases hbe:b=e
  ·have q':H b=some (.own x):=by
    rcases he with z | z
    ·exact absurd (hbe.trans z) hb
    ·rw [hbe];exact z
   rw [q] at q';cases q';obtain ⟨v,hv⟩:=heo;exact ⟨v,by rw [hbe];exact hv⟩
  ·refine (ok b u q).stay (λ c v hc r=>k c v ?_ r) (λ c r=>by rw [AE (nown c b r)];exact r) λ c xs r=>by rw [AE (ntup c xs r)];exact r
   rcases hc with rfl | hc
   ·exact hbe
   ·rintro rfl;rcases he with z | z
    ·exact nown c b hc z
    ·rw [hc] at z;cases z;exact hb rfl
end
structure Un (fs ex:List Addr) (H H':Hp) (h h':Heap):Prop where
 keep:∀ b o,h.get? b=some o->H b=none->b∉fs->b∉ex->h'.get? b=some o
 slot:∀ b o,h.get? b=some o->H b=none->b∈fs->b∉ex->∃ sl,h'.get? b=some { o with slots:=sl }
 free:∀ b o,h.get? b=some o->H b=none->b∉ex->H' b=none
 there:∀ b o,h.get? b=some o->b∉ex->∃ o',h'.get? b=some o'
 tups:∀ b xs,H b=some (.tup xs)->H' b=some (.tup xs)
 frzs:∀ b o u,H b=some (.frz o u)->H' b=some (.frz o u)
 tbls:∀ b ps,H b=some (.tbl ps)->∃ more,H' b=some (.tbl (ps++more))
section
variable {fs fs' ex ex':List Addr}{H H1 H2:Hp}{h h1 h2 h':Heap}{a x e:Addr}{o:HO}
def Un.any (u:Un fs ex H H1 h h1) {b:Addr}{ob:Obj} (q:h.get? b=some ob) (n:H b=none) (hx:b∉ex):∃ sl,h1.get? b=some { ob with slots:=sl }:=by
 by_cases hb:b∈fs
 ·exact u.slot b ob q n hb hx
 ·exact ⟨ob.slots,u.keep b ob q n hb hx⟩
def Un.kept (k:∀ b u,h.get? b=some u->h'.get? b=some u):Un fs ex H H h h':=
 ⟨λ b ob q _ _ _=>k b ob q,λ b ob q _ _ _=>⟨ob.slots,k b ob q⟩,λ _ _ _ n _=>n,λ b ob q _=>⟨ob,k b ob q⟩,λ _ _ q=>q,λ _ _ _ q=>q,λ _ ps q=>⟨#[],by rw [q];simp⟩⟩
def Un.refl:Un fs ex H H h h:=Un.kept λ _ _ q=>q
def Un.laid (k:∀ b u,h.get? b=some u->h'.get? b=some u) (hp:h.objs.size<=a) (hn:H a=none):Un fs ex H (Ao H a o) h h' where
 keep:=λ b u q _ _ _=>k b u q
 slot:=λ b u q _ _ _=>⟨u.slots,k b u q⟩
 free:=λ b u q n _=>by rw [AE (Cc (Br (AZ q) hp))];exact n
 there:=λ b u q _=>⟨u,k b u q⟩
 tups:=λ b xs q=>by rw [AE (Hf q hn)];exact q
 frzs:=λ b u xs q=>by rw [AE (Hf q hn)];exact q
 tbls:=λ b ps q=>⟨#[],by rw [AE (Hf q hn),q];simp⟩
def Un.write (mu:KC (H x)) (he:e=x\/H e=some (.own x)) (k:∀ b u,b≠e->h.get? b=some u->h'.get? b=some u) (heo:∃ u,h'.get? e=some u):Un fs ex H (Ao H x o) h h':=by
 have hx:∀ b,H b=none->b≠x:=λ b n z=>by subst z;rw [n] at mu;exact mu
 have hb:∀ b,H b=none->b≠e:=λ b n z=>by
  subst z;rcases he with r | r
  ·exact hx b n r
  ·rw [n] at r;cases r
 have hm:∀ b u,H b=some u->¬ KC (some u)->b≠x:=λ b u q nm z=>by subst z;rw [q] at mu;exact nm mu
 refine ⟨λ b u q n _ _=>k b u (hb b n) q,λ b u q n _ _=>⟨u.slots,k b u (hb b n) q⟩,λ b u q n _=>by rw [AE (hx b n)];exact n,λ b u q _=>?_,
  λ b xs q=>by rw [AE (hm b _ q λ z=>z)];exact q,λ b u xs q=>by rw [AE (hm b _ q λ z=>z)];exact q,λ b ps q=>⟨#[],by rw [AE (hm b _ q λ z=>z),q];simp⟩⟩
 by_cases hbe:b=e
 ·subst hbe;exact heo
 ·exact ⟨u,k b u hbe q⟩
end
def DY (h:Heap) (H:Hp):List Addr:=(Bb h.objs.size).filter λ a=>(H a).isSome
def CV (h:Heap) (H:Hp):Heap:=PySem.W.hideAll h (DY h H)
def Ze (h:Heap) (H:Hp):(CV h H).objs.size=h.objs.size:=PySem.W.hideAll_size _ _
def Y7 {h:Heap}{H:Hp}{b:Addr}{o:Obj} (e:h.get? b=some o) (n:H b=none):(CV h H).get? b=some o:=
 NH _ e λ hm=>by
  have q:(H b).isSome=true:=(ji3.mp hm).2;rw [n] at q;simp at q
theorem WD {h:Heap}{H:Hp}{b:Addr}{o:Obj} (e:(CV h H).get? b=some o):h.get? b=some o/\H b=none:=by
 have e':h.get? b=some o:=PySem.W.of_hideAll (DY h H) e;refine ⟨e',?_⟩;cases q:H b with
 | none=>rfl
 | some x=>
  have hm:b∈DY h H:=ji3.mpr ⟨jd5.mpr (AZ e'),by simp [q]⟩;have z:(CV h H).get? b=none:=PySem.W.hideAll_none (DY h H) hm;rw [z] at e;cases e
def Wl (g h:Heap) (L:Addr):List (Addr×Obj):=(Bb h.objs.size).filterMap λ a=>if a=L\/(g.get? a).isSome=true then none else (h.get? a).map λ o=>(a,o)
def Cb (g h:Heap) (L d:Addr):List (Addr×Obj):=(Wl g h L).filter λ p=>decide (p.1≠d)
structure Mod (K:PySem.W.Frag) (mg:Str->Option Ae) (base:Heap):Prop where
 kin:K.In base
 glob:base.Ns DF mg
 blt:∃ mb,base.Ns builtinsNs mb/\∀ x:Str,x ≠ "__name__" -> mb x=HA x
 nolimit:base.NoLimit
structure Cx where
 prog:A3
 w:Az
 K:PySem.W.Frag
 mg:Str->Option Ae
 base:Heap
 A:AW
 N:List Str
 s₀:Ah
 H₀:Hp
 env:Env
 outer:List Env
 stack:List Env
 ex:List Addr
 fn:Str->Bool
 calm:Bool
 pn:List (Addr×Obj)
 xe:Ae->Ah->Prop
def BS (l:List Env):List Addr:=l.filterMap (·.frame)
abbrev Cx.fs (X:Cx):List Addr:=BS X.outer
def Hb (sc:AX) (x:Str):Prop:=sc.names.lookup x=some .local\/sc.names.lookup x=some .cell\/sc.names.lookup x=some .free
def DJ (sc:AX) (x:Str):Prop:=sc.names.lookup x=some .local\/sc.names.lookup x=some .cell
def Pj (env:Env) (h:Heap) (m:Str->Option Ae) (x:Str) (u:Ae):Prop:=
 (env.kindOf x=some .local/\m x=some u)\/((env.kindOf x=some .cell\/env.kindOf x=some .free)/\∃ c,env.cells.lookup x=some c/\h.IsCell c (some u))
structure Cx.Ok (X:Cx):Prop where
 mod:Mod X.K X.mg X.base
 kind:X.env.scope.kind=.function
 glob:X.env.globals=DF
 blt:X.env.builtins=builtinsNs
 above:X.s₀.heap.objs.size<=X.env.locals
 inj:∀ x y c,X.env.cells.lookup x=some c->X.env.cells.lookup y=some c->x=y
 has:∀ x,(X.env.kindOf x=some .cell\/X.env.kindOf x=some .free)->∃ c,X.env.cells.lookup x=some c
 cab:∀ x c,X.fn x=true->X.env.cells.lookup x=some c->X.s₀.heap.objs.size<=c
 hd:X.calm=true->X.A.handled=none
 frames:X.A.frames=some X.stack
 stk:X.stack=X.outer\/(X.stack=X.env::X.outer/\X.env.frame=some X.env.locals)
 exf:∀ b∈X.ex,b≠X.env.locals/\∀ x c,X.env.cells.lookup x=some c->c≠b
 bs:∀ b o,X.base.get? b=some o->X.s₀.heap.get? b=some o/\X.H₀ b=none
 bsz:X.base.objs.size<=X.s₀.heap.objs.size
 noex:∀ b o,X.base.get? b=some o->b∉X.ex
 exfs:∀ b∈X.ex,b∉X.fs
 funs:X.s₀.heap.FunFrames X.base X.outer
 frf:∀ b∈X.fs,X.H₀ b=none
structure Inv (X:Cx) (pins:List (Addr×Obj)) (σ:List (Option V)) (H:Hp) (s:Ah):Prop where
 ok:X.Ok
 os:s.os=X.s₀.os
 bare:Eo s.gens
 base:Un X.fs X.ex X.H₀ H X.s₀.heap s.heap
 loc:∃ m,s.heap.Ns X.env.locals m/\∀ (i:Nat) (x:Str) (v:V),X.N[i]?=some x->σ[i]?=some (some v)->Hb X.env.scope x->∃ u,RelV v u/\Pj X.env s.heap m x u
 cell:∀ x c,X.env.cells.lookup x=some c->∃ v,s.heap.IsCell c v
 free:H X.env.locals=none
 freeC:∀ x c,X.env.cells.lookup x=some c->H c=none
 pin:∀ p∈X.pn++pins,s.heap.get? p.1=some p.2/\H p.1=none/\p.1≠X.env.locals/\p.1∉X.fs/\∀ v,p.2.data≠.cell v
 hok:HOk X.prog X.w H s.heap
 len:σ.length=X.N.length
section
variable {X:Cx}{pins:List (Addr×Obj)}{σ:List (Option V)}{H H':Hp}{s:Ah}{h':Heap}
def Cx.Ok.nofr (ok:X.Ok) {b:Addr}{o:Obj} (e:X.base.get? b=some o):b∉X.fs:=λ hb=>by
 have:=(ok.funs.mem hb).1
 rw [e] at this;cases this
def Inv.bs (I:Inv X pins σ H s):∀ b o,X.base.get? b=some o->s.heap.get? b=some o/\H b=none:=λ b o e=>
 ⟨I.base.keep b o (I.ok.bs b o e).1 (I.ok.bs b o e).2 (I.ok.nofr e) (I.ok.noex b o e),I.base.free b o (I.ok.bs b o e).1 (I.ok.bs b o e).2 (I.ok.noex b o e)⟩
def Inv.bk (I:Inv X pins σ H s):∀ b o,X.base.get? b=some o->s.heap.get? b=some o:=λ b o e=>(I.bs b o e).1
def Inv.mod (I:Inv X pins σ H s):Mod X.K X.mg X.base:=I.ok.mod
def Inv.kIn (I:Inv X pins σ H s):X.K.In s.heap:=I.ok.mod.kin.keeps I.bk
def Inv.lt (I:Inv X pins σ H s):X.env.locals < s.heap.objs.size:=let ⟨_,hn,_⟩:=I.loc;hn.lt
def Inv.sz (I:Inv X pins σ H s):X.s₀.heap.objs.size<=s.heap.objs.size:=CT I.ok.above (OD I.lt)
def Inv.nofs (I:Inv X pins σ H s) {a:Addr} (h:s.heap.objs.size<=a):a∉X.fs:=λ hb=>by
 obtain ⟨_,o,ho,_⟩:=I.ok.funs.mem hb;exact absurd (Br (AZ ho) (CT I.sz h)) (EK _)
def Inv.cne (I:Inv X pins σ H s):∀ x c,X.env.cells.lookup x=some c->c≠X.env.locals:=λ x c e z=>by
 obtain ⟨v,o,ho,hd⟩:=I.cell x c e;obtain ⟨m,⟨o',es,ep,ho',hd',_⟩,_⟩:=I.loc;rw [z,ho'] at ho;cases ho;rw [hd'] at hd;cases hd
def Inv.funs (I:Inv X pins σ H s):s.heap.FunFrames X.base X.outer:=by
 have all:∀ (l:List Env),(∀ b∈BS l,b∈X.fs)->X.s₀.heap.FunFrames X.base l->s.heap.FunFrames X.base l:=by
  intro l;induction l with
  | nil=>intro _ _;trivial
  | cons env r ih=>
   intro hs hl;obtain ⟨hk,⟨L,o,hf,hn,ho,hd⟩,hr⟩:=hl;have hL:L∈X.fs:=hs L (by unfold BS;rw [MC,hf];exact AI);obtain ⟨sl,e⟩:=I.base.slot L o ho (I.ok.frf L hL) hL λ z=>I.ok.exfs L z hL;exact ⟨hk,⟨L,_,hf,hn,e,hd⟩,ih (λ b hb=>hs b (by unfold BS;rw [MC,hf];exact AA _ hb)) hr⟩
 exact all X.outer (λ _ hb=>hb) I.ok.funs
def Inv.stack (I:Inv X pins σ H s):s.heap.FunFrames X.base X.stack:=by
 rcases I.ok.stk with e | ⟨e,hf⟩
 ·rw [e];exact I.funs
 ·rw [e];obtain ⟨m,hn,_⟩:=I.loc;refine .cons (by rw [I.ok.kind];decide) hf hn ?_ I.funs;exact Heap.get?_none_of_le (CT I.ok.bsz I.ok.above)
def Inv.stkSub (I:Inv X pins σ H s):∀ b∈BS X.stack,b∈X.env.locals::X.fs:=λ b hb=>by
 rcases I.ok.stk with e | ⟨e,hf⟩
 ·rw [e] at hb;exact AA _ hb
 ·rw [e] at hb;unfold BS at hb;rw [MC,hf] at hb;exact hb
def Inv.stkFree (I:Inv X pins σ H s):∀ b∈BS X.stack,H b=none:=λ b hb=>by
 rcases jb3.mp (I.stkSub b hb) with e | hb
 ·rw [e];exact I.free
 ·obtain ⟨_,o,ho,_⟩:=I.ok.funs.mem hb;exact I.base.free b o ho (I.ok.frf b hb) λ z=>I.ok.exfs b z hb
def Inv.step {g':Array GenState}{t':Nat}{d':Drawn}{ch:List Addr} (I:Inv X pins σ H s)
  (hch:∀ b∈ch,(b∈X.ex\/X.s₀.heap.objs.size<=b)/\b≠X.env.locals/\(∀ x c,X.env.cells.lookup x=some c->c≠b)/\∀ p∈X.pn++pins,p.1≠b)
  (keep:∀ b o,b≠X.env.locals->b∉X.fs->b∉ch->s.heap.get? b=some o->H b=none->h'.get? b=some o)
  (slot:∀ b o,b≠X.env.locals->b∈X.fs->b∉ch->s.heap.get? b=some o->H b=none->∃ sl,h'.get? b=some { o with slots:=sl }) (free:∀ b o,b∉ch->s.heap.get? b=some o->H b=none->H' b=none)
  (there:∀ b o,b∉ch->s.heap.get? b=some o->∃ o',h'.get? b=some o')
  (tups:∀ b xs,H b=some (.tup xs)->H' b=some (.tup xs)) (frzs:∀ b o u,H b=some (.frz o u)->H' b=some (.frz o u)) (tbls:∀ b ps,H b=some (.tbl ps)->∃ more,H' b=some (.tbl (ps++more)))
  (ns:∀ m,s.heap.Ns X.env.locals m->h'.Ns X.env.locals m) (hok:HOk X.prog X.w H' h') (hg:Eo g'):
  Inv X pins σ H' { s with heap:=h',gens:=g',drawn:=d',toks:=t' }:=by
 have neL:∀ b o,X.s₀.heap.get? b=some o->b≠X.env.locals:=λ b o e=>Cc (Br (AZ e) I.ok.above);have neC:∀ b o,X.s₀.heap.get? b=some o->b∉X.ex->b∉ch:=λ b o e hx hb=>by
  rcases (hch b hb).1 with z | z
  ·exact hx z
  ·exact absurd (Br (AZ e) z) (EK _)
 have cellK:∀ x c,X.env.cells.lookup x=some c->∀ v,s.heap.IsCell c v->h'.IsCell c v:=λ x c e v ⟨o,ho,hd⟩=>by
  have nch:c∉ch:=λ z=>(hch c z).2.2.1 x c e rfl;by_cases hc:c∈X.fs
  ·obtain ⟨sl,q⟩:=slot c o (I.cne x c e) hc nch ho (I.freeC x c e);exact ⟨_,q,hd⟩
  ·exact ⟨o,keep c o (I.cne x c e) hc nch ho (I.freeC x c e),hd⟩
 refine ⟨I.ok,I.os,hg,⟨λ b o e n hb hx=>?_,λ b o e n hb hx=>?_,λ b o e n hx=>?_,λ b o e hx=>?_,λ b xs e=>tups b xs (I.base.tups b xs e),λ b o xs e=>frzs b o xs (I.base.frzs b o xs e),λ b ps e=>?_⟩,?_,λ x c e=>?_,?_,λ x c e=>?_,λ p hp=>?_,hok,I.len⟩
 ·exact keep b o (neL b o e) hb (neC b o e hx) (I.base.keep b o e n hb hx) (I.base.free b o e n hx)
 ·obtain ⟨sl,e1⟩:=I.base.slot b o e n hb hx;obtain ⟨sl',e2⟩:=slot b _ (neL b o e) hb (neC b o e hx) e1 (I.base.free b o e n hx);exact ⟨sl',e2⟩
 ·obtain ⟨o',e1⟩:=I.base.there b o e hx;exact free b o' (neC b o e hx) e1 (I.base.free b o e n hx)
 ·obtain ⟨o',e1⟩:=I.base.there b o e hx;exact there b o' (neC b o e hx) e1
 ·obtain ⟨m1,e1⟩:=I.base.tbls b ps e;obtain ⟨m2,e2⟩:=tbls b _ e1;exact ⟨m1++m2,by rw [e2,Ts]⟩
 ·obtain ⟨m,hn,hl⟩:=I.loc;refine ⟨m,ns m hn,λ i x v e1 e2 e3=>?_⟩;obtain ⟨u,r,l⟩:=hl i x v e1 e2 e3;refine ⟨u,r,?_⟩;rcases l with l | ⟨k,c,e,z⟩
  ·exact .inl l
  ·exact .inr ⟨k,c,e,cellK x c e _ z⟩
 ·obtain ⟨v,z⟩:=I.cell x c e;exact ⟨v,cellK x c e v z⟩
 ·obtain ⟨m,⟨o,_,_,ho,_⟩,_⟩:=I.loc;exact free _ o (λ z=>(hch _ z).2.1 rfl) ho I.free
 ·obtain ⟨v,o,ho,hd⟩:=I.cell x c e;exact free c o (λ z=>(hch c z).2.2.1 x c e rfl) ho (I.freeC x c e)
 ·obtain ⟨e,n,ne,nf,d⟩:=I.pin p hp;have nch:p.1∉ch:=λ z=>(hch p.1 z).2.2.2 p hp rfl;exact ⟨keep p.1 p.2 ne nf nch e n,free p.1 p.2 nch e n,ne,nf,d⟩
def Inv.un {t':Nat} (I:Inv X pins σ H s) (u:Un X.fs [] H H' s.heap h') (hok:HOk X.prog X.w H' h'):Inv X pins σ H' { s with heap:=h',toks:=t' }:=by
 obtain ⟨m,⟨o,es,ep,ho,r⟩,_⟩:=id I.loc;obtain ⟨sl,hL⟩:=u.any ho I.free (by simp);exact I.step (g':=s.gens) (d':=s.drawn) (ch:=[]) (λ _ z=>nomatch z) (λ b o _ hb _ e n=>u.keep b o e n hb (by simp)) (λ b o _ hb _ e n=>u.slot b o e n hb (by simp)) (λ b o _ e n=>u.free b o e n (by simp)) (λ b o _ e=>u.there b o e (by simp)) u.tups u.frzs u.tbls (λ m' hm=>by
  obtain ⟨o',es',ep',ho',r'⟩:=hm;rw [ho] at ho';cases ho';exact ⟨_,es',ep',hL,r'⟩) hok I.bare
def Inv.call {g':Array GenState}{t':Nat}{d':Drawn}{ch:List Addr} (I:Inv X pins σ H s) (u:Un (BS X.stack) ch H H' s.heap h') (hok:HOk X.prog X.w H' h') (hg:Eo g')
  (hch:∀ b∈ch,(b∈X.ex\/X.s₀.heap.objs.size<=b)/\b≠X.env.locals/\(∀ x c,X.env.cells.lookup x=some c->c≠b)/\∀ p∈X.pn++pins,p.1≠b):
  Inv X pins σ H' { s with heap:=h',gens:=g',drawn:=d',toks:=t' }:=by
 obtain ⟨m,⟨o,es,ep,ho,r⟩,_⟩:=id I.loc;obtain ⟨sl,hL⟩:=u.any ho I.free λ z=>(hch _ z).2.1 rfl;exact I.step (ch:=ch) hch (λ b o hL hb hc e n=>u.keep b o e n (λ z=>(jb3.mp (I.stkSub b z)).elim hL hb) hc) (λ b o _ _ hc e n=>u.any e n hc) (λ b o hc e n=>u.free b o e n hc) (λ b o hc e=>u.there b o e hc) u.tups u.frzs u.tbls (λ m' hm=>by
  obtain ⟨o',es',ep',ho',r'⟩:=hm;rw [ho] at ho';cases ho';exact ⟨_,es',ep',hL,r'⟩) hok hg
def Inv.turned {t':Nat}{it:Addr} (I:Inv X pins σ H s) (k:∀ b o,b≠it->s.heap.get? b=some o->h'.get? b=some o) (hn:H it=none) (hL:it≠X.env.locals)
  (h1:it∈X.ex\/X.s₀.heap.objs.size<=it) (h2:∀ x c,X.env.cells.lookup x=some c->c≠it) (h3:∀ p∈X.pn++pins,p.1≠it):Inv X pins σ H { s with heap:=h',toks:=t' }:=by
 have nit:∀ b u,H b=some u->b≠it:=λ b u e z=>by rw [z,hn] at e;cases e
 refine I.step (g':=s.gens) (d':=s.drawn) (ch:=[it]) (λ b hb=>?_) (λ b o _ _ hc e _=>k b o (λ z=>hc (by simp [z])) e) (λ b o _ _ hc e _=>⟨o.slots,k b o (λ z=>hc (by simp [z])) e⟩) (λ _ _ _ _ n=>n)
  (λ b o hc e=>⟨o,k b o (λ z=>hc (by simp [z])) e⟩) (λ _ _ e=>e) (λ _ _ _ e=>e) (λ b ps e=>⟨#[],by rw [e];simp⟩) (λ m hm=>?_) (λ b u e=>?_) I.bare
 ·have e:b=it:=by simpa using hb
  subst e;exact ⟨h1,hL,h2,h3⟩
 ·obtain ⟨o,es,ep,ho,r⟩:=hm;exact ⟨o,es,ep,k _ o (Bv hL) ho,r⟩
 ·refine (I.hok b u e).stay (λ c v hc q=>k c v ?_ q) (λ _ q=>q) λ _ _ q=>q;rcases hc with z | z
  ·rw [z];exact nit b u e
  ·exact nit c _ z
def Inv.tok (I:Inv X pins σ H s) (t:Nat):Inv X pins σ H { s with toks:=t }:=I.un (h':=s.heap) (t':=t) Un.refl I.hok
def Inv.kept {t':Nat} (I:Inv X pins σ H s) (k:∀ b u,s.heap.get? b=some u->h'.get? b=some u):Inv X pins σ H { s with heap:=h',toks:=t' }:=I.un (Un.kept k) (I.hok.kept k)
def Inv.laid {a:Addr}{o:HO}{t':Nat} (I:Inv X pins σ H s) (k:∀ b u,s.heap.get? b=some u->h'.get? b=some u) (hp:s.heap.objs.size<=a) (new:zxx X.prog X.w (Ao H a o) h' a o):
  Inv X pins σ (Ao H a o) { s with heap:=h',toks:=t' }:=I.un (Un.laid k hp (I.hok.fresh hp)) (I.hok.laid k hp new)
def Inv.write {x e:Addr}{o:HO}{t':Nat} (I:Inv X pins σ H s) (mu:KC (H x)) (he:e=x\/H e=some (.own x)) (k:∀ b u,b≠e->s.heap.get? b=some u->h'.get? b=some u) (heo:∃ u,h'.get? e=some u)
  (new:zxx X.prog X.w (Ao H x o) h' x o):Inv X pins σ (Ao H x o) { s with heap:=h',toks:=t' }:=I.un (Un.write mu he k heo) (I.hok.write mu he k heo new)
def Inv.pins_of {pins':List (Addr×Obj)} (I:Inv X pins σ H s) (h:∀ p∈pins',s.heap.get? p.1=some p.2/\H p.1=none/\p.1≠X.env.locals/\p.1∉X.fs/\∀ v,p.2.data≠.cell v):Inv X pins' σ H s:=
 ⟨I.ok,I.os,I.bare,I.base,I.loc,I.cell,I.free,I.freeC,λ p hp=>(jb8.mp hp).elim (λ z=>I.pin p (AY _ z)) (h p),I.hok,I.len⟩
def MN {N:List Str} (hN:N.Nodup) {i j:Nat}{x:Str} (a:N[i]?=some x) (b:N[j]?=some x):i=j:=by
 obtain ⟨h1,e1⟩:=ja7.mp a;obtain ⟨h2,e2⟩:=ja7.mp b;exact (List.getElem_inj hN).mp (e1.trans e2.symm)
def Pw {M:Model}{A:AW}{E:Ae->Ah->Prop}{i:Nat}{x:Str}{v:V}{u:Ae}{Q:Unit->Ah->Prop} (I:Inv X pins σ H s) (hN:X.N.Nodup) (hi:X.N[i]?=some x) (hx:DJ X.env.scope x) (r:RelV v u)
  (h:∀ s',Inv X pins (σ.set i (some v)) H s'->(∃ a,LH a s.heap s'.heap/\(a=X.env.locals\/X.env.cells.lookup x=some a))->Q () s') (hf:X.fn x=true\/X.env.scope.names.lookup x=some .local:=by first | exact .inl rfl | exact .inr rfl | assumption):Aq M A (storeName X.env x u) Q E s:=by
 obtain ⟨m,hn,hl⟩:=id I.loc;have hcls:(X.env.scope.kind == .class || (X.env.scope.kind == .module && X.env.locals != X.env.globals))=false:=by rw [I.ok.kind];rfl
 have hiσ:i < σ.length:=by rw [I.len];exact (ja7.mp hi).1
 have cne:=I.cne;have tracked:∀ {a:Addr}{h':Heap},(∃ o,s.heap.get? a=some o/\H a=none)->LH a s.heap h'->HOk X.prog X.w H h':=λ {a h'} ha hs b ob e=>by
  obtain ⟨_,_,hfree⟩:=ha;refine (I.hok b ob e).stay (λ c w' hc q=>(hs.2 c ?_).trans q) (λ _ q=>q) λ _ _ q=>q;rintro rfl;rcases hc with rfl | hc
  ·rw [hfree] at e;cases e
  ·rw [hfree] at hc;cases hc
 rcases hx with hk | hk
 ·refine wpAny_storeName_local hk hn (λ h' hn' hs=>?_) hcls;obtain ⟨oL,_,_,hoL,_⟩:=id hn;refine h _ ⟨I.ok,I.os,I.bare,⟨λ b o e n hb hx=>?_,λ b o e n hb hx=>?_,I.base.free,λ b o e hx=>?_,I.base.tups,I.base.frzs,I.base.tbls⟩,⟨_,hn',λ j y v' e1 e2 e3=>?_⟩,λ y c e=>?_,I.free,I.freeC,λ p hp=>?_,tracked ⟨oL,hoL,I.free⟩ hs,by simpa using I.len⟩ ⟨_,hs,.inl rfl⟩
  ·exact (hs.2 b (Cc (Br (AZ e) I.ok.above))).trans (I.base.keep b o e n hb hx)
  ·obtain ⟨sl,e1⟩:=I.base.slot b o e n hb hx;exact ⟨sl,(hs.2 b (Cc (Br (AZ e) I.ok.above))).trans e1⟩
  ·obtain ⟨o',e1⟩:=I.base.there b o e hx;exact ⟨o',(hs.2 b (Cc (Br (AZ e) I.ok.above))).trans e1⟩
  ·by_cases hj:j=i
   ·subst hj;rw [hi] at e1;cases e1;rw [CH hiσ] at e2;cases e2;exact ⟨u,r,.inl ⟨hk,by simp⟩⟩
   ·rw [BJ (Bv hj)] at e2;obtain ⟨u',r',q⟩:=hl j y v' e1 e2 e3;refine ⟨u',r',?_⟩;rcases q with ⟨k,e⟩ | ⟨k,c,e,z⟩
    ·refine .inl ⟨k,?_⟩
     have:y≠x:=λ e=>hj (MN hN e1 (e ▸ hi))
     simp [this,e]
    ·exact .inr ⟨k,c,e,z.sameBut hs (cne y c e)⟩
  ·obtain ⟨w',z⟩:=I.cell y c e;exact ⟨w',z.sameBut hs (cne y c e)⟩
  ·obtain ⟨e,n,ne,nf,d⟩:=I.pin p hp;exact ⟨(hs.2 p.1 ne).trans e,n,ne,nf,d⟩
 ·have hfn:X.fn x=true:=by
   rcases hf with z | z
   ·exact z
   ·rw [z] at hk;cases hk
  obtain ⟨c,hc⟩:=I.ok.has x (.inl hk);obtain ⟨w',z⟩:=I.cell x c hc;refine wpAny_storeName_cell I.ok.kind hk hc z (λ h' hc' hs=>?_);obtain ⟨oc,hoc,hocd⟩:=id z;refine h { s with heap:=h' } ⟨I.ok,I.os,I.bare,⟨λ b o e n hb hx=>?_,λ b o e n hb hx=>?_,I.base.free,λ b o e hx=>?_,I.base.tups,I.base.frzs,I.base.tbls⟩,⟨m,hn.sameBut hs (Bv (cne x c hc)),λ j y v' e1 e2 e3=>?_⟩,λ y c' e=>?_,I.free,I.freeC,λ p hp=>?_,tracked ⟨oc,hoc,I.freeC x c hc⟩ hs,by simpa using I.len⟩ ⟨c,hs,.inr hc⟩
  ·exact (hs.2 b (Cc (Br (AZ e) (I.ok.cab x c hfn hc)))).trans (I.base.keep b o e n hb hx)
  ·obtain ⟨sl,e1⟩:=I.base.slot b o e n hb hx;exact ⟨sl,(hs.2 b (Cc (Br (AZ e) (I.ok.cab x c hfn hc)))).trans e1⟩
  ·obtain ⟨o',e1⟩:=I.base.there b o e hx;exact ⟨o',(hs.2 b (Cc (Br (AZ e) (I.ok.cab x c hfn hc)))).trans e1⟩
  ·by_cases hj:j=i
   ·subst hj;rw [hi] at e1;cases e1;rw [CH hiσ] at e2;cases e2;exact ⟨u,r,.inr ⟨.inl hk,c,hc,hc'⟩⟩
   ·rw [BJ (Bv hj)] at e2;obtain ⟨u',r',q⟩:=hl j y v' e1 e2 e3;refine ⟨u',r',?_⟩;rcases q with q | ⟨k,c',e,z'⟩
    ·exact .inl q
    ·refine .inr ⟨k,c',e,z'.sameBut hs ?_⟩;rintro rfl;exact hj (MN hN e1 (I.ok.inj _ _ _ e hc ▸ hi))
  ·by_cases hcc:c'=c
   ·subst hcc;exact ⟨_,hc'⟩
   ·obtain ⟨w2,z2⟩:=I.cell y c' e;exact ⟨w2,z2.sameBut hs hcc⟩
  ·obtain ⟨e,n,ne,nf,d⟩:=I.pin p hp;refine ⟨(hs.2 p.1 ?_).trans e,n,ne,nf,d⟩;intro q;rw [q,hoc] at e;have q':oc=p.2:=Option.some.inj e;exact d w' (by rw [<- q'];exact hocd)
def Ny {M:Model}{A:AW}{E:Ae->Ah->Prop}{i:Nat}{x:Str}{v:V}{u:Ae}{Q:Unit->Ah->Prop} (I:Inv X pins σ H s) (hN:X.N.Nodup) (hi:X.N[i]?=some x) (hx:DJ X.env.scope x) (r:RelV v u)
  (h:∀ s',Inv X pins (σ.set i (some v)) H s'->Q () s') (hf:X.fn x=true\/X.env.scope.names.lookup x=some .local:=by first | exact .inl rfl | exact .inr rfl | assumption):Aq M A (storeName X.env x u) Q E s:=
 Pw I hN hi hx r (λ s' I' _=>h s' I') hf
def Inv.call' {s':Ah}{ch:List Addr} (I:Inv X pins σ H s) (ho:s'.os=s.os) (u:Un (BS X.stack) ch H H' s.heap s'.heap) (hok:HOk X.prog X.w H' s'.heap) (hg:Eo s'.gens)
  (hch:∀ b∈ch,(b∈X.ex\/X.s₀.heap.objs.size<=b)/\b≠X.env.locals/\(∀ x c,X.env.cells.lookup x=some c->c≠b)/\∀ p∈X.pn++pins,p.1≠b):Inv X pins σ H' s':=by
 obtain ⟨h',g',d',t',o'⟩:=s';have e:o'=s.os:=ho;subst e;exact I.call (g':=g') (t':=t') (d':=d') u hok hg hch
end
abbrev XK:=Ae->Option Addr->Hp->Prop
abbrev St:=List (Option V)
abbrev VK:=V->Hp->Prop
abbrev TE:=St->Hp->VK->Prop
abbrev TT:=St->Hp->(Bool->Hp->Prop)->Prop
abbrev TA:=St->Hp->(List V->Hp->Prop)->Prop
structure Ends where
 nx:St->Hp->Prop
 rt:VK
 bk:St->Hp->Prop:=λ _ _=>False
 ct:St->Hp->Prop:=λ _ _=>False
abbrev TS:=Ends->St->Hp->Prop
def EP (X:Cx) (pins:List (Addr×Obj)) (σ:St) (Q:VK) (u:Ae) (s':Ah):Prop:=∃ v H',Inv X pins σ H' s'/\RelV v u/\Q v H'
def TP (X:Cx) (pins:List (Addr×Obj)) (σ:St) (Q:Bool->Hp->Prop) (b:Bool) (s':Ah):Prop:=∃ H',Inv X pins σ H' s'/\Q b H'
def AP (X:Cx) (pins:List (Addr×Obj)) (σ:St) (Q:List V->Hp->Prop) (us:List Ae) (s':Ah):Prop:=∃ vs H',Inv X pins σ H' s'/\Vals vs us/\Q vs H'
def SP (X:Cx) (pins:List (Addr×Obj)) (D:Ends) (f:Flow) (s':Ah):Prop:=
 match f with
 | .next=>∃ σ' H',Inv X pins σ' H' s'/\D.nx σ' H'
 | .brk=>∃ σ' H',Inv X pins σ' H' s'/\D.bk σ' H'
 | .cont=>∃ σ' H',Inv X pins σ' H' s'/\D.ct σ' H'
 | .ret u=>∃ v σ' H',Inv X pins σ' H' s'/\RelV v u/\D.rt v H'
def PE (X:Cx) (e:Expr) (t:TE):Prop:=
 ∀ (pins:List (Addr×Obj)) (s:Ah) (σ:St) (H:Hp) (Q:VK),Inv X pins σ H s->t σ H Q->Aq (Ap X.prog X.w) X.A (eval e X.env) (EP X pins σ Q) X.xe s
def PT (X:Cx) (e:Expr) (t:TT):Prop:=
 ∀ (pins:List (Addr×Obj)) (s:Ah) (σ:St) (H:Hp) (Q:Bool->Hp->Prop),Inv X pins σ H s->t σ H Q->Aq (Ap X.prog X.w) X.A (isTrue e X.env (eval e X.env)) (TP X pins σ Q) X.xe s
def PW (X:Cx) (e:Expr) (t:TT):Prop:=
 ∀ (whole:Sem Ae) (pins:List (Addr×Obj)) (s:Ah) (σ:St) (H:Hp) (Q:Bool->Hp->Prop),Inv X pins σ H s->t σ H Q->Aq (Ap X.prog X.w) X.A (isTrue e X.env whole) (TP X pins σ Q) X.xe s
def PW.pt {X:Cx}{e:Expr}{t:TT} (h:PW X e t):PT X e t:=h _
def PA (X:Cx) (es:List Expr) (t:TA):Prop:=
 ∀ (pos:Pos) (pins:List (Addr×Obj)) (s:Ah) (σ:St) (H:Hp) (Q:List V->Hp->Prop),Inv X pins σ H s->t σ H Q->Aq (Ap X.prog X.w) X.A (spliced (Cz pos (Ax es X.env))) (AP X pins σ Q) X.xe s
def PS (X:Cx) (st:Stmt) (t:TS):Prop:=
 ∀ (pins:List (Addr×Obj)) (s:Ah) (σ:St) (H:Hp) (D:Ends),Inv X pins σ H s->t D σ H->Aq (Ap X.prog X.w) X.A (exec st X.env) (SP X pins D) X.xe s
def Dt (X:Cx) (st:List Stmt) (t:TS):Prop:=
 ∀ (pins:List (Addr×Obj)) (s:Ah) (σ:St) (H:Hp) (D:Ends),Inv X pins σ H s->t D σ H->Aq (Ap X.prog X.w) X.A (execs st X.env) (SP X pins D) X.xe s
def Ay {α:Type}{t:Sem α}{Q Q':α->Ah->Prop}{M:Model}{A:AW}{E:Ae->Ah->Prop}{s:Ah} (h:Aq M A t Q E s) (hQ:∀ a s,Q a s->Q' a s):Aq M A t Q' E s:=DE h hQ λ _ _ x=>x
section
variable {X:Cx}
def qH {a b:Expr}{ta tb:TE} (ha:PE X a ta) (hb:PE X b tb) {pins:List (Addr×Obj)}{s:Ah}{σ:St}{H:Hp}{R:V->V->Hp->Prop} (I:Inv X pins σ H s) (h:ta σ H λ x H1=>tb σ H1 λ y H2=>R x y H2)
  {α:Type}{Q:α->Ah->Prop}{f:Ae->Ae->Sem α}
  (hf:∀ v u s2 x y H2,Inv X pins σ H2 s2->RelV x v->RelV y u->R x y H2->Aq (Ap X.prog X.w) X.A (f v u) Q X.xe s2):
  Aq (Ap X.prog X.w) X.A (eval a X.env) (λ v s₁=>Aq (Ap X.prog X.w) X.A (eval b X.env) (λ u s₂=>Aq (Ap X.prog X.w) X.A (f v u) Q X.xe s₂) X.xe s₁) X.xe s:=by
 refine Ay (ha pins s σ H _ I h) λ v s1 ⟨x,H1,I1,r1,q1⟩=>?_;refine Ay (hb pins s1 σ H1 _ I1 q1) λ u s2 ⟨y,H2,I2,r2,q2⟩=>?_;exact hf v u s2 x y H2 I2 r1 r2 q2
def Bm (i:Nat):TE:=λ σ H Q=>∃ v,σ[i]?=some (some v)/\Q v H
def tC (v:V):TE:=λ _ H Q=>Q v H
def RM {i:Nat}{x:Str}{pos:Pos} (hN:X.N[i]?=some x) (hv:Hb X.env.scope x) (hd:(x == ("__debug__" : Str))=false:=by decide) (hcd:(x == ("__classdict__" : Str))=false:=by decide):PE X (.Name x pos) (Bm i):=by
 intro pins s σ H Q I h;obtain ⟨v,e,h⟩:=h;obtain ⟨m,hn,hl⟩:=I.loc;obtain ⟨u,r,l⟩:=hl i x v hN e hv;have fin:EP X pins σ Q u s:=⟨v,H,I,r,h⟩
 rcases l with ⟨hk,hm⟩ | ⟨hk,c,hc,hcell⟩
 ·exact wpAny_Name (wpAny_loadName_local I.ok.kind hk hn hm fin) hd
 ·rcases hk with hk | hk
  ·exact wpAny_Name (wpAny_loadName_cell I.ok.kind hk hc hcell fin) hd
  ·exact wpAny_Name (wpAny_loadName_free I.ok.kind hk hc hcell fin hcd) hd
def Oy {i j pos}:PE X (.Constant (.int i) j pos) (tC (.int i)):=λ _ _ _ H _ I h=>wpAny_Constant_int ⟨.int i,H,I.tok _,⟨_,rfl⟩,h⟩
def U9 {b j pos}:PE X (.Constant (.bool b) j pos) (tC (.bl b)):=λ _ _ _ H _ I h=>Constant_bool ⟨.bl b,H,I,rfl,h⟩
def RI {j pos}:PE X (.Constant .none j pos) (tC .non):=λ _ _ _ H _ I h=>Constant_none ⟨.non,H,I,rfl,h⟩
def RK {x j pos}:PE X (.Constant (.str x) j pos) (tC (.str x)):=λ _ _ _ H _ I h=>Calls.Constant_str ⟨.str x,H,I.tok _,⟨_,rfl⟩,h⟩
def Gl (X:Cx) (x:Str):Prop:=X.env.kindOf x=some .globalImplicit
def IB {E:Ae->Ah->Prop}{pins:List (Addr×Obj)}{s:Ah}{σ:St}{H:Hp}{x:Str}{u:Ae}{pos:Pos}{Q:Ae->Ah->Prop} (I:Inv X pins σ H s) (hg:Gl X x) (hm:X.mg x=some u) (h:Q u s)
  (hd:(x == ("__debug__" : Str))=false:=by decide):Aq (Ap X.prog X.w) X.A (eval (.Name x pos) X.env) Q E s:=
 Q3 I.ok.kind hg (Calls.loadGlobal_global (by rw [I.ok.glob];exact I.mod.glob.keeps I.bk) hm h) hd
def JF {E:Ae->Ah->Prop}{pins:List (Addr×Obj)}{s:Ah}{σ:St}{H:Hp}{x:Str}{u:Ae}{pos:Pos}{Q:Ae->Ah->Prop} (I:Inv X pins σ H s) (hg:Gl X x) (hm:X.mg x=none) (hv:HA x=some u) (h:Q u s)
  (hn:x ≠ "__name__" := by decide) (hd:(x == ("__debug__" : Str))=false:=by decide):Aq (Ap X.prog X.w) X.A (eval (.Name x pos) X.env) Q E s:=by
 obtain ⟨mb,h1,h2⟩:=I.mod.blt;exact Q3 I.ok.kind hg (Calls.loadGlobal_builtin (by rw [I.ok.glob];exact I.mod.glob.keeps I.bk) hm (by rw [I.ok.blt];exact h1.keeps I.bk) ((h2 x hn).trans hv) h) hd
def WM {x:Str}{v:V}{u:Ae}{pos:Pos} (hg:Gl X x) (hm:X.mg x=some u) (r:RelV v u) (hd:(x == ("__debug__" : Str))=false:=by decide):PE X (.Name x pos) (tC v):=
 λ _ _ _ H _ I h=>IB I hg hm ⟨v,H,I,r,h⟩ hd
def Sn {x:Str}{v:V}{u:Ae}{pos:Pos} (hg:Gl X x) (hm:X.mg x=none) (hv:HA x=some u) (r:RelV v u) (hn:x ≠ "__name__" := by decide) (hd:(x == ("__debug__" : Str))=false:=by decide):PE X (.Name x pos) (tC v):=
 λ _ _ _ H _ I h=>JF I hg hm hv ⟨v,H,I,r,h⟩ hn hd
variable {a b:Expr}{ta tb:TE}{pos:Pos}
def PC (X:Cx) (op:DS) (a b:Expr) (t:TE):Prop:=
 ∀ (pins:List (Addr×Obj)) (s:Ah) (σ:St) (H:Hp) (Q:VK),Inv X pins σ H s->t σ H Q ->
  Aq (Ap X.prog X.w) X.A (eval a X.env) (λ v s₁=>Aq (Ap X.prog X.w) X.A (eval b X.env) (λ u s₂=>Aq (Ap X.prog X.w) X.A (Cp op v u) (EP X pins σ Q) X.xe s₂) X.xe s₁) X.xe s
def Gz (b:Expr) {op:DS} (h:op≠.In) (h2:op≠.NotIn):IP op b=false:=by
 have e1:(op == CmpOp.In)=false:=by cases op <;> first | rfl | exact absurd rfl h
 have e2:(op == CmpOp.NotIn)=false:=by cases op <;> first | rfl | exact absurd rfl h2
 cases b <;> simp [IP,e1,e2]
def tB (t:TE):TT:=λ σ H Q=>t σ H λ x H1=>∃ c,x=.bl c/\Q c H1
def V9 {e:Expr}{t:TE} (h:PE X e t) (he:∀ whole,isTrue e X.env whole=(do let v<-whole;standAt e.pos;holding [v] (truthy v)):=by intro _;rfl):PT X e (tB t):=by
 intro pins s σ H Q I hw;refine isTrue_plain (Ay (h pins s σ H _ I hw) λ v s1 ⟨x,H1,I1,r1,q1⟩=>?_) (he _);obtain ⟨d,rfl,q⟩:=q1;cases r1;exact FR ⟨H1,I1,q⟩
variable {tA tB':TT}{Cb:List Expr}
def HI (t u:TT):TT:=λ σ H Q=>t σ H λ c H1=>if c=true then u σ H1 Q else Q false H1
def NQ (t u:TT):TT:=λ σ H Q=>t σ H λ c H1=>if c=true then Q true H1 else u σ H1 Q
def HE (t:TT):TT:=λ σ H Q=>t σ H λ c H1=>Q (!c) H1
theorem Xy (ha:PT X a tA):PW X (.BoolOp .And [a] pos) tA:=by
 intro wh pins s σ H Q I h;refine isTrue_and (Ay (ha pins s σ H Q I h) λ c s1 e=>?_);cases c with
 | true=>exact isTrue_and_nil e
 | false=>exact e
theorem VB (ha:PT X a tA):PW X (.BoolOp .Or [a] pos) tA:=by
 intro wh pins s σ H Q I h;refine isTrue_or (Ay (ha pins s σ H Q I h) λ c s1 e=>?_);cases c with
 | false=>exact isTrue_or_nil e
 | true=>exact e
theorem VA (ha:PT X a tA) (hb:PW X (.BoolOp .And (b::Cb) pos) tB'):PW X (.BoolOp .And (a::b::Cb) pos) (HI tA tB'):=by
 intro wh pins s σ H Q I h;refine isTrue_and (Ay (ha pins s σ H _ I h) λ c s1 ⟨H1,I1,q1⟩=>?_);cases c with
 | true=>exact hb wh pins s1 σ H1 Q I1 q1
 | false=>exact ⟨H1,I1,q1⟩
theorem UD (ha:PT X a tA) (hb:PW X (.BoolOp .Or (b::Cb) pos) tB'):PW X (.BoolOp .Or (a::b::Cb) pos) (NQ tA tB'):=by
 intro wh pins s σ H Q I h;refine isTrue_or (Ay (ha pins s σ H _ I h) λ c s1 ⟨H1,I1,q1⟩=>?_);cases c with
 | true=>exact ⟨H1,I1,q1⟩
 | false=>exact hb wh pins s1 σ H1 Q I1 q1
def V8 (ha:PT X a tA):PT X (.UnaryOp .Not a pos) (HE tA):=by
 intro pins s σ H Q I h;exact isTrue_not (ha pins s σ H (λ c H1=>Q (!c) H1) I h)
def Rl (ta tb:TE):TE:=λ σ H Q=>ta σ H λ x H1=>∃ c,x=.bl c/\if c=true then tb σ H1 Q else Q (.bl false) H1
def JU (ta tb:TE):TE:=λ σ H Q=>ta σ H λ x H1=>∃ c,x=.bl c/\if c=true then Q (.bl true) H1 else tb σ H1 Q
def Ri (ta:TE):TE:=λ σ H Q=>ta σ H λ x H1=>∃ c,x=.bl c/\Q (.bl (!c)) H1
def RJ {op}{t:TE} (h:PE X a t):PE X (.BoolOp op [a] pos) t:=λ pins s σ H Q I hw=>BoolOp_one (h pins s σ H Q I hw)
theorem V4 (ha:PE X a ta) (hb:PE X (.BoolOp .And (b::Cb) pos) tb):PE X (.BoolOp .And (a::b::Cb) pos) (Rl ta tb):=by
 intro pins s σ H Q I h;refine BoolOp_and (Ay (ha pins s σ H _ I h) λ v s1 ⟨x,H1,I1,r1,q1⟩=>?_);obtain ⟨c,rfl,q1⟩:=q1;cases r1;refine FR ?_;cases c with
 | true=>exact hb pins s1 σ H1 Q I1 q1
 | false=>exact ⟨.bl false,H1,I1,rfl,q1⟩
theorem UA (ha:PE X a ta) (hb:PE X (.BoolOp .Or (b::Cb) pos) tb):PE X (.BoolOp .Or (a::b::Cb) pos) (JU ta tb):=by
 intro pins s σ H Q I h;refine BoolOp_or (Ay (ha pins s σ H _ I h) λ v s1 ⟨x,H1,I1,r1,q1⟩=>?_);obtain ⟨c,rfl,q1⟩:=q1;cases r1;refine FR ?_;cases c with
 | false=>exact hb pins s1 σ H1 Q I1 q1
 | true=>exact ⟨.bl true,H1,I1,rfl,q1⟩
def V5 (ha:PE X a ta):PE X (.UnaryOp .Not a pos) (Ri ta):=by
 intro pins s σ H Q I h;refine UnaryOp_ (Ay (ha pins s σ H _ I h) λ v s1 ⟨x,H1,I1,r1,q1⟩=>?_);obtain ⟨c,rfl,q1⟩:=q1;cases r1;exact not_of (FR ⟨.bl (!c),H1,I1,rfl,q1⟩)
end
def BU (K:PySem.W.Frag) (H:Hp) (a:Addr) (xs:List V):Prop:=
 Rd H a (.lst xs) \/
  ∃ (o:Obj) (its:Array Ae) (n:Nat),K.lookup a=some o/\o.cls=.type "list" /\ o.dict=none/\o.data=.seq its n/\its.size<=An/\Vals xs its.toList
def CA (K:PySem.W.Frag) (H:Hp) (a:Addr) (xs:List V):Prop:=
 Rd H a (.tup xs) \/
  ∃ (o:Obj) (its:Array Ae) (n:Nat),K.lookup a=some o/\o.cls=.type "tuple" /\ o.data=.seq its n/\its.size<=An/\Vals xs its.toList
def Pf:Ae->Option V
 | .none=>some .non
 | .bool b=>some (.bl b)
 | .int i _=>some (.int i)
 | .str x _=>some (.str x)
 | .bytes b _=>some (.byt b)
 | .float b _=>some (.flt b)
 | .ref a=>some (.ref a)
 | .type n=>some (.ty n)
 | _=>none
theorem RelV.abs {x:V}{u:Ae} (r:RelV x u):Pf u=some x:=by
 cases x with
 | non=>cases r;rfl
 | bl _=>cases r;rfl
 | int _=>obtain ⟨t,rfl⟩:=r;rfl
 | str _=>obtain ⟨t,rfl⟩:=r;rfl
 | byt _=>obtain ⟨t,rfl⟩:=r;rfl
 | flt _=>obtain ⟨t,rfl⟩:=r;rfl
 | ref _=>cases r;rfl
 | ty _=>cases r;rfl
def RelV.inj {x y:V}{u:Ae} (r:RelV x u) (q:RelV y u):x=y:=Option.some.inj (r.abs.symm.trans q.abs)
theorem Vals.inj:∀ {xs ys:List V}{us:List Ae},Vals xs us->Vals ys us->xs=ys
 | _,_,_,.nil,.nil=>rfl
 | _,_,_,.cons r t,.cons r' t'=>by rw [r.inj r',Vals.inj t t']
section
variable {X:Cx}{pins:List (Addr×Obj)}{σ:St}{H:Hp}{s:Ah}{a:Addr}{xs ys:List V}
def Inv.list (I:Inv X pins σ H s) (h:BU X.K H a xs):∃ its:List Ae,Vals xs its/\PlainL s.heap a its.toArray/\xs.length<=An:=by
 rcases h with h | ⟨o,its,n,hk,hc,hd,hs,hz,r⟩
 ·obtain ⟨z,its,n,r,e⟩:=h.ok I.hok;exact ⟨its,r,⟨_,n,e,rfl,rfl,rfl⟩,z⟩
 ·refine ⟨its.toList,r,⟨o,n,I.kIn a o hk,hc,hd,by simpa using hs⟩,?_⟩;have e:=r.length;simp only [Ky] at e;omega
def Inv.tuple (I:Inv X pins σ H s) (h:CA X.K H a xs):∃ its:List Ae,Vals xs its/\IsTup s.heap a its.toArray/\xs.length<=An:=by
 rcases h with h | ⟨o,its,n,hk,hc,hs,hz,r⟩
 ·obtain ⟨z,its,r,p⟩:=h.ok I.hok;exact ⟨its,r,p,z⟩
 ·refine ⟨its.toList,r,⟨o,I.kIn a o hk,hc,n,by simpa using hs⟩,?_⟩;have e:=r.length;simp only [Ky] at e;omega
def Inv.list_inj (I:Inv X pins σ H s) (h:BU X.K H a xs) (h':BU X.K H a ys):xs=ys:=by
 obtain ⟨its,r,⟨o,n,e,_,_,d⟩,_⟩:=I.list h;obtain ⟨its',r',⟨o',n',e',_,_,d'⟩,_⟩:=I.list h';rw [e] at e';cases e';rw [d] at d';injection d' with d1 _
 have:its=its':=by simpa using congrArg Te d1
 subst this;exact r.inj r'
def Inv.tuple_inj (I:Inv X pins σ H s) (h:CA X.K H a xs) (h':CA X.K H a ys):xs=ys:=by
 obtain ⟨its,r,⟨o,e,_,n,d⟩,_⟩:=I.tuple h;obtain ⟨its',r',⟨o',e',_,n',d'⟩,_⟩:=I.tuple h';rw [e] at e';cases e';rw [d] at d';injection d' with d1 _
 have:its=its':=by simpa using congrArg Te d1
 subst this;exact r.inj r'
end
section
variable {X:Cx}{pins:List (Addr×Obj)}{σ:St}{H:Hp}{s:Ah}{E:Ae->Ah->Prop}
end
section
variable {X:Cx}{st:Stmt}{Cb:List Stmt}{t u:TS}{e:Expr}{te:TE}{pos:Pos}
def Rh:TS:=λ D σ H=>D.nx σ H
def JT (t u:TS):TS:=λ D σ H=>t { D with nx:=u D } σ H
def Xu:Dt X [] Rh:=λ _ _ σ H _ I h=>JM ⟨σ,H,I,h⟩
theorem Yr (h1:PS X st t) (h2:Dt X Cb u):Dt X (st::Cb) (JT t u):=by
 intro pins s σ H D I h;refine wpAny_execs_cons (Ay (h1 pins s σ H { D with nx:=u D } I h) λ f s1 q=>?_);cases f with
 | next=>
  obtain ⟨σ',H',I',q⟩:=q;exact h2 pins s1 σ' H' D I' q
 | ret v=>exact q
 | brk=>exact q
 | cont=>exact q
theorem IC (h1:PS X st t):Dt X [st] t:=by
 intro pins s σ H D I h;refine wpAny_execs_cons (Ay (h1 pins s σ H D I h) λ f s1 q=>?_);cases f with
 | next=>exact JM q
 | ret v=>exact q
 | brk=>exact q
 | cont=>exact q
def Inv.quiet {pins:List (Addr×Obj)}{σ:St}{H:Hp}{s:Ah} (I:Inv X pins σ H s):interactive X.env=false:=by simp [interactive,I.ok.kind]
def GK (te:TE):TS:=λ D σ H=>te σ H λ _ H1=>D.nx σ H1
def Hl (he:PE X e te) (hs:swapsWith e none pos.line X.env=pure false:=by rfl):PS X (.Expr e pos) (GK te):=by
 intro pins s σ H D I h;exact wpAny_Expr_any (Ay (he pins s σ H _ I h) λ v s1 ⟨x,H1,I1,r1,q1⟩=>⟨σ,H1,I1,q1⟩) I.quiet hs
def FU (te:TE):TS:=λ D σ H=>te σ H D.rt
def O5 (he:PE X e te):PS X (.Return (some e) pos) (FU te):=by
 intro pins s σ H D I h;exact wpAny_Return_some (Ay (he pins s σ H _ I h) λ v s1 ⟨x,H1,I1,r1,q1⟩=>⟨x,σ,H1,I1,r1,q1⟩)
def HG (c:TT) (t u:TS):TS:=λ D σ H=>c σ H λ b H1=>if b=true then t D σ H1 else u D σ H1
theorem QT {c:Expr}{a b:List Stmt}{tc:TT} (hc:PT X c tc) (ha:Dt X a t) (hb:Dt X b u):PS X (.If c a b pos) (HG tc t u):=by
 intro pins s σ H D I h;refine wpAny_If (Ay (hc pins s σ H _ I h) λ d s1 ⟨H1,I1,q1⟩=>?_);cases d with
 | true=>exact ha pins s1 σ H1 D I1 q1
 | false=>exact hb pins s1 σ H1 D I1 q1
def LC:TS:=λ _ _ _=>False
def MR:PS X st LC:=λ _ _ _ _ _ _ h=>h.elim
end
abbrev TG:=V->St->Hp->(St->Hp->Prop)->Prop
abbrev Hc:=List V->St->Hp->(St->Hp->Prop)->Prop
def PG (X:Cx) (target:Expr) (t:TG):Prop:=
 ∀ (pins:List (Addr×Obj)) (s:Ah) (σ:St) (H:Hp) (v:V) (u:Ae) (Q:St->Hp->Prop),Inv X pins σ H s->RelV v u->t v σ H Q ->
  Aq (Ap X.prog X.w) X.A (FO target X.env u) (λ _ s'=>∃ σ' H',Inv X pins σ' H' s'/\Q σ' H') X.xe s
def Jk (X:Cx) (ts:List Expr) (t:Hc):Prop:=
 ∀ (pins:List (Addr×Obj)) (s:Ah) (σ:St) (H:Hp) (vs:List V) (us:List Ae) (Q:St->Hp->Prop),Inv X pins σ H s->Vals vs us->t vs σ H Q ->
  Aq (Ap X.prog X.w) X.A (assignInOrder ((DD ts X.env).map (·.2)) us) (λ _ s'=>∃ σ' H',Inv X pins σ' H' s'/\Q σ' H') X.xe s
abbrev Eh:=V->V->V->Hp->(Hp->Prop)->Prop
def PSet (X:Cx) (t:Eh):Prop:=
 ∀ (pins:List (Addr×Obj)) (s:Ah) (σ:St) (H:Hp) (o i v:V) (ov iv u:Ae) (Q:Hp->Prop),Inv X pins σ H s->RelV o ov->RelV i iv->RelV v u->t o i v H Q ->
  Aq (Ap X.prog X.w) X.A (setItem ov iv u) (λ _ s'=>∃ H',Inv X pins σ H' s'/\Q H') X.xe s
section
variable {X:Cx}{pos:Pos}
def DO (i:Nat):TG:=λ v σ H Q=>Q (σ.set i (some v)) H
def Lv {i:Nat}{x:Str} (hN:X.N.Nodup) (hi:X.N[i]?=some x) (hx:DJ X.env.scope x) (hf:X.fn x=true\/X.env.scope.names.lookup x=some .local:=by first | exact .inl rfl | exact .inr rfl | assumption):PG X (.Name x pos) (DO i):=by
 intro pins s σ H v u Q I r h;exact wpAny_assign_Name (Ny I hN hi hx r (λ s' I'=>⟨_,H,I',h⟩) hf)
def K3:Hc:=λ vs σ H Q=>vs=[]/\Q σ H
def QD (t:TG) (u:Hc):Hc:=λ vs σ H Q=>∃ v r,vs=v::r/\t v σ H λ σ' H'=>u r σ' H' Q
def Sq:Jk X [] K3:=by
 intro pins s σ H vs us Q I r h;obtain ⟨e,h⟩:=h;subst e;cases r;exact assignInOrder_nil ⟨σ,H,I,h⟩
theorem PU {e:Expr}{es:List Expr}{t:TG}{u:Hc} (h1:PG X e t) (h2:Jk X es u)
  (hs:(DD (e::es) X.env).map (·.2)=FO e X.env::(DD es X.env).map (·.2):=by rfl):Jk X (e::es) (QD t u):=by
 intro pins s σ H vs us Q I r h;obtain ⟨v,vr,e1,h⟩:=h;subst e1;cases r with
 | cons r rr=>
  rw [hs];refine assignInOrder_cons (Ay (h1 pins s σ H _ _ _ I r h) λ _ s1 ⟨σ1,H1,I1,q1⟩=>?_);exact h2 pins s1 σ1 H1 _ _ Q I1 rr q1
def Ie (K:PySem.W.Frag) (n:Nat) (t:Hc):TG:=λ v σ H Q=>∃ a xs,v=.ref a/\CA K H a xs/\xs.length=n/\t xs σ H Q
def Oz {es:List Expr}{k:Nat}{t:Hc}{n:Nat} (hc:X.calm=true) (h:Jk X es t)
  (hn:(DD es X.env).length=n:=by rfl) (hst:(DD es X.env).findIdx? (·.1)=none:=by rfl):PG X (.Tuple es k pos) (Ie X.K n t):=by
 intro pins s σ H v u Q I r hw;obtain ⟨a,xs,e1,hq,hl,hw⟩:=hw;subst e1;cases r;obtain ⟨its,rv,ht,hz⟩:=I.tuple hq;refine assign_Tuple_tuple (I.ok.hd hc) ht (by simp [hn,<- hl,rv.length]) hst λ h' hx=>?_;have I1:Inv X pins σ H { s with heap:=h' }:=I.kept (t':=s.toks) λ b o e=>hx b o (Cc (AZ e)) e;exact h pins _ σ H xs _ Q I1 (by simpa using rv) hw
def ET (to ti:TE) (t:Eh):TG:=λ v σ H Q=>to σ H λ o H1=>ti σ H1 λ i H2=>t o i v H2 λ H3=>Q σ H3
def LA {o i:Expr}{to ti:TE}{t:Eh} (ho:PE X o to) (hi:PE X i ti) (hs:PSet X t)
  (ha:∀ v,FO (.Subscript o i pos) X.env v=(do
   let ov<-holding [v] (eval o X.env);let iv<-holding [v,ov] (eval i X.env)
   standAt pos
   holding [v,ov,iv] (setItem ov iv v)
   release [v,ov,iv] []):=by intro _;rfl):PG X (.Subscript o i pos) (ET to ti t):=by
 intro pins s σ H v u Q I r h;rw [ha];refine AS (LL (Ay (ho pins s σ H _ I h) λ ov s1 ⟨x,H1,I1,r1,q1⟩=>?_));refine AS (LL (Ay (hi pins s1 σ H1 _ I1 q1) λ iv s2 ⟨y,H2,I2,r2,q2⟩=>?_));refine AS (wpAny_standAt (AS (LL (Ay (hs pins s2 σ H2 x y v ov iv u _ I2 r1 r2 r q2) λ _ s3 ⟨H3,I3,q3⟩=>?_))));exact wpAny_release ⟨σ,H3,I3,q3⟩
def BZ (te:TE) (g:TG):TS:=λ D σ H=>te σ H λ x H1=>g x σ H1 D.nx
def Jy {tg e:Expr}{te:TE}{g:TG} (he:PE X e te) (hg:PG X tg g) (hs:swapsWithSole [tg] e pos.line X.env=pure false:=by rfl) (hw:swappedStores [tg] e X.env=pure none:=by rfl)
  (h1:(DD [tg] X.env).map (·.2)=[FO tg X.env]:=by rfl):PS X (.Assign [tg] e pos) (BZ te g):=by
 intro pins s σ H D I h;refine wpAny_Assign_stores (Ay (he pins s σ H _ I h) λ v s1 ⟨x,H1,I1,r1,q1⟩=>?_) hs hw;rw [h1];exact Ay (hg pins s1 σ H1 x v _ I1 r1 q1) λ _ s2 q=>q
def Jz {i:Nat}{x:Str}{e:Expr}{te:TE}{pos':Pos} (hN:X.N.Nodup) (hi:X.N[i]?=some x) (hx:DJ X.env.scope x) (he:PE X e te) (hs:swapsWith e (some (.Name x pos')) pos.line X.env=pure false:=by rfl) (hf:X.fn x=true\/X.env.scope.names.lookup x=some .local:=by first | exact .inl rfl | exact .inr rfl | assumption):
  PS X (.Assign [.Name x pos'] e pos) (BZ te (DO i)):=by
 intro pins s σ H D I h;refine wpAny_Assign_Name (Ay (he pins s σ H _ I h) λ v s1 ⟨y,H1,I1,r1,q1⟩=>?_) hs;exact Ny I1 hN hi hx r1 (λ s2 I2=>⟨_,H1,I2,q1⟩) hf
end
section
variable {X:Cx}{pos:Pos}
end
structure It where
 go:Nat->Hp->Prop
 yld:Nat->Hp->V->Hp->Prop
 stop:Nat->Hp->Prop
def Cf (X:Cx) (pins:List (Addr×Obj)) (H:Hp) (b:Addr):Prop:=
 H b=none/\b≠X.env.locals/\b∉X.fs/\(b∈X.ex\/X.s₀.heap.objs.size<=b)/\(∀ x c,X.env.cells.lookup x=some c->c≠b)/\∀ p∈X.pn++pins,p.1≠b
def Inv.fpOk {X:Cx}{pins:List (Addr×Obj)}{σ:St}{H H':Hp}{s:Ah}{b:Addr} (I:Inv X pins σ H s) (hb:s.heap.objs.size<=b) (hn:H' b=none):Cf X pins H' b:=by
 refine ⟨hn,HX (Br I.lt hb),I.nofs hb,.inr (CT I.sz hb),λ x c e z=>?_,λ p hp z=>?_⟩
 ·obtain ⟨v,q⟩:=I.cell x c e;exact absurd (Br q.lt (by rw [z];exact hb)) (EK _)
 ·exact absurd (Br (AZ (I.pin p hp).1) (by rw [z];exact hb)) (EK _)
structure Turn (P:A3) (w:Az) (K:PySem.W.Frag) (tg:Expr) (J:It) (fp:List Addr) (it:Addr) (tn:Nat->Heap->Prop):Prop where
 mem:it∈fp
 obj:∀ i h,tn i h->∀ b∈fp,∃ o,h.get? b=some o/\∀ v,o.data≠.cell v
 keep:∀ i h h',tn i h->(∀ b∈fp,∀ o,h.get? b=some o->h'.get? b=some o)->tn i h'
 item:∀ (X:Cx),X.prog=P->X.w=w->X.K=K->X.calm=true->∀ (i:Nat) (pins:List (Addr×Obj)) (s:Ah) (σ:St) (H:Hp) (E:Ae->Ah->Prop),Inv X pins σ H s->(∀ b∈fp,Cf X pins H b)->tn i s.heap->J.go i H ->
  Aq (Ap P w) X.A (pyNext (.ref it)) (λ r s1=>∃ u,r=some u /\
   Aq (Ap P w) X.A (LN tg (.ref it) u) (λ _ s2=>∃ x H',Inv X pins σ H' s2/\RelV x u/\J.yld i H x H'/\tn (i + 1) s2.heap/\∀ b∈fp,H' b=none) E s1) E s
 done:∀ (X:Cx),X.prog=P->X.w=w->X.K=K->X.calm=true->∀ (i:Nat) (pins:List (Addr×Obj)) (s:Ah) (σ:St) (H:Hp) (E:Ae->Ah->Prop),Inv X pins σ H s->(∀ b∈fp,Cf X pins H b)->tn i s.heap->J.stop i H ->
  Aq (Ap P w) X.A (pyNext (.ref it)) (λ r s1=>r=none/\Inv X pins σ H s1) E s
 self:∀ (A:AW) (i:Nat) (s:Ah) (Q:Ae->Ah->Prop) (E:Ae->Ah->Prop),tn i s.heap->Q (.ref it) s->Aq (Ap P w) A (pyIter (.ref it)) Q E s
abbrev TI:=St->Hp->(It->Hp->Prop)->Prop
def TU (X:Cx) (pins:List (Addr×Obj)) (σ:St) (tg:Expr) (R:It->Hp->Prop) (itv:Ae) (s2:Ah):Prop:=
 ∃ (it:Addr) (fp:List Addr) (tn:Nat->Heap->Prop) (J:It) (H':Hp),itv=.ref it/\Inv X pins σ H' s2/\Turn X.prog X.w X.K tg J fp it tn/\tn 0 s2.heap/\(∀ b∈fp,Cf X pins H' b)/\R J H'
def PI (X:Cx) (tg iter:Expr) (wi:TI):Prop:=
 ∀ (pins:List (Addr×Obj)) (s:Ah) (σ:St) (H:Hp) (R:It->Hp->Prop),Inv X pins σ H s->wi σ H R ->
  Aq (Ap X.prog X.w) X.A (eval iter X.env) (λ v s1=>Aq (Ap X.prog X.w) X.A (pyIter v) (TU X pins σ tg R) X.xe s1) X.xe s
def Mp {M:Model}{A:AW}{E:Ae->Ah->Prop}{s:Ah}{tg:Expr}{it:Addr}{u:Ae}{o:Obj}{n:String}{vs:Array Ae}{Q:Unit->Ah->Prop} (ho:s.heap.get? it=some o) (hc:o.cls=.type n) (hd:o.data=.fields vs)
  (hn:["enumerate","zip","dict_itemiterator","dict_reverseitemiterator","odict_iterator","itertools.zip_longest","itertools.pairwise"].contains n=false) (hQ:Q () s):Aq M A (LN tg (.ref it) u) Q E s:=by
 unfold LN;cases tg <;> first
  | exact Bw hQ
  | (cases u <;> first
    | exact Bw hQ
    | (refine AS (wpAny_load ho ?_);rw [hc,hd];show Aq M A (if (["enumerate","zip","dict_itemiterator","dict_reverseitemiterator","odict_iterator","itertools.zip_longest","itertools.pairwise"].contains n && vs[0]? == some (rawInt _))=true then _ else _) Q E s;rw [if_neg (by intro h;rw [hn,Bool.false_and] at h;cases h)];exact Bw hQ))
def TY (K:PySem.W.Frag) (a:Addr):It:=
 ⟨λ i H=>∃ xs x,BU K H a xs/\xs[i]?=some x,λ i H x H'=>H'=H/\∀ xs,BU K H a xs->xs[i]?=some x,λ i H=>∃ xs,BU K H a xs/\xs.length<=i⟩
def TX (K:PySem.W.Frag) (a:Addr):It:=
 ⟨λ i H=>∃ xs x,CA K H a xs/\xs[i]?=some x,λ i H x H'=>H'=H/\∀ xs,CA K H a xs->xs[i]?=some x,λ i H=>∃ xs,CA K H a xs/\xs.length<=i⟩
def Fp (lo:Int) (n:Nat):It:=⟨λ i _=>i < n,λ i H x H'=>H'=H/\x=.int (lo + i),λ i _=>n<=i⟩
def Zu {P:A3}{w:Az}{K:PySem.W.Frag}{tg:Expr} (a it:Addr):Turn P w K tg (TY K a) [it] it (λ i h=>h.IsListIter it a i) where
 mem:=by simp
 obj:=λ i h st b hb=>by
  have e:b=it:=by simpa using hb
  subst e;obtain ⟨o,e,c,d⟩:=st;exact ⟨o,e,λ v z=>by rw [d] at z;cases z⟩
 keep:=λ i h h' st k=>st.at λ o e=>k it (by simp) o e
 item:=by
  intro X hP hw hK hc i pins s σ H E I hf st hg;subst hP hw hK;obtain ⟨xs,x,hq,hx⟩:=hg;obtain ⟨its,rv,p,hz⟩:=I.list hq;obtain ⟨u,hu,ru⟩:=rv.get hx;obtain ⟨f0,f1,f2,f3,f4,f5⟩:=hf it (by simp);refine wpAny_pyNext_list_item st p.isList (x:=u) (by simpa using hu) λ h' st' sb=>?_;have I1:Inv X pins σ H { s with heap:=h' }:=I.turned (t':=s.toks) (λ b o hb e=>(sb.2 b hb).trans e) f0 f1 f3 f4 f5;obtain ⟨o,e,c,d⟩:=id st';exact ⟨u,rfl,Mp (s:={ s with heap:=h' }) e c d (by decide) ⟨x,H,I1,ru,⟨rfl,λ ys hy=>by rw [I.list_inj hy hq];exact hx⟩,st',λ b hb=>(hf b hb).1⟩⟩
 done:=by
  intro X hP hw hK hc i pins s σ H E I hf st hg;subst hP hw hK;obtain ⟨xs,hq,hx⟩:=hg;obtain ⟨its,rv,p,hz⟩:=I.list hq;obtain ⟨f0,f1,f2,f3,f4,f5⟩:=hf it (by simp);have hl:=rv.length;exact wpAny_pyNext_list_end (I.ok.hd hc) st p.isList (by simp;omega) λ h' eb=>⟨rfl,I.turned (t':=s.toks) (λ b o hb e=>eb b o hb e) f0 f1 f3 f4 f5⟩
 self:=λ _ _ _ _ _ st h=>wpAny_pyIter_listiter st h
def Z9 {P:A3}{w:Az}{K:PySem.W.Frag}{tg:Expr} (a it:Addr):Turn P w K tg (TX K a) [it] it (λ i h=>h.IsTupleIter it a i) where
 mem:=by simp
 obj:=λ i h st b hb=>by
  have e:b=it:=by simpa using hb
  subst e;obtain ⟨o,e,c,d⟩:=st;exact ⟨o,e,λ v z=>by rw [d] at z;cases z⟩
 keep:=λ i h h' st k=>st.at λ o e=>k it (by simp) o e
 item:=by
  intro X hP hw hK hc i pins s σ H E I hf st hg;subst hP hw hK;obtain ⟨xs,x,hq,hx⟩:=hg;obtain ⟨its,rv,p,hz⟩:=I.tuple hq;obtain ⟨u,hu,ru⟩:=rv.get hx;obtain ⟨f0,f1,f2,f3,f4,f5⟩:=hf it (by simp);refine wpAny_pyNext_tuple_item st (show s.heap.IsTuple a its.toArray from p) (x:=u) (by simpa using hu) λ h' st' sb=>?_;have I1:Inv X pins σ H { s with heap:=h' }:=I.turned (t':=s.toks) (λ b o hb e=>(sb.2 b hb).trans e) f0 f1 f3 f4 f5;obtain ⟨o,e,c,d⟩:=id st';exact ⟨u,rfl,Mp (s:={ s with heap:=h' }) e c d (by decide) ⟨x,H,I1,ru,⟨rfl,λ ys hy=>by rw [I.tuple_inj hy hq];exact hx⟩,st',λ b hb=>(hf b hb).1⟩⟩
 done:=by
  intro X hP hw hK hc i pins s σ H E I hf st hg;subst hP hw hK;obtain ⟨xs,hq,hx⟩:=hg;obtain ⟨its,rv,p,hz⟩:=I.tuple hq;obtain ⟨f0,f1,f2,f3,f4,f5⟩:=hf it (by simp);have hl:=rv.length;exact wpAny_pyNext_tuple_end (I.ok.hd hc) st (show s.heap.IsTuple a its.toArray from p) (by simp;omega) λ h' eb=>⟨rfl,I.turned (t':=s.toks) (λ b o hb e=>eb b o hb e) f0 f1 f3 f4 f5⟩
 self:=λ _ _ _ _ _ st h=>wpAny_pyIter_tupleiter st h
def Z8 {P:A3}{w:Az}{K:PySem.W.Frag}{tg:Expr} (it:Addr) (lo:Int) (n:Nat):Turn P w K tg (Fp lo n) [it] it (λ i h=>IsRangeIter h it (lo + (i:Nat) * 1) ((n:Int) - (i:Nat)) 1) where
 mem:=by simp
 obj:=λ i h st b hb=>by
  have e:b=it:=by simpa using hb
  subst e;exact ⟨_,st,λ v z=>by
   have z':Data.fields _=Data.cell v:=z;cases z'⟩
 keep:=λ i h h' st k=>k it (by simp) _ st
 item:=by
  intro X hP hw hK hc i pins s σ H E I hf st hg;subst hP hw hK;obtain ⟨f0,f1,f2,f3,f4,f5⟩:=hf it (by simp);have W:=Walks.range (prog:=X.prog) (w:=X.w) (I.ok.hd hc) it lo 1 n;refine W.item i s _ _ hg st λ v h' tk hv st' kk=>?_;obtain ⟨t,rfl⟩:=hv;have I1:Inv X pins σ H { s with heap:=h',toks:=tk }:=I.turned (λ b o hb e=>kk b o (by simpa using hb) e) f0 f1 f3 f4 f5;refine ⟨_,rfl,Mp (s:={ s with heap:=h',toks:=tk }) (n := "range_iterator") st' rfl rfl (by decide) ⟨.int (lo + i),H,I1,⟨t,?_⟩,⟨rfl,rfl⟩,st',λ b hb=>(hf b hb).1⟩⟩;rw [Int.mul_one]
 done:=by
  intro X hP hw hK hc i pins s σ H E I hf st hg;subst hP hw hK;obtain ⟨f0,f1,f2,f3,f4,f5⟩:=hf it (by simp);exact wpAny_pyNext_range_end (I.ok.hd hc) st (by have:n<=i:=hg;omega) λ h' eb=>⟨rfl,I.turned (t':=s.toks) (λ b o hb e=>eb b o hb e) f0 f1 f3 f4 f5⟩
 self:=λ _ _ _ _ _ st h=>wpAny_pyIter_rangeiter st h
section
variable {X:Cx}{tg:Expr}
def PY {pins:List (Addr×Obj)}{σ:St}{H:Hp}{s:Ah}{R:It->Hp->Prop}{E:Ae->Ah->Prop}{lo hi:Int}{t u v:Tok}{tk:Nat} (I:Inv X pins σ H s) (h1:-(2 ^ 62)<=lo) (h2:lo < 2 ^ 62) (h3:-(2 ^ 62)<=hi) (h4:hi < 2 ^ 62)
  (q:R (Fp lo (hi - lo).toNat) H):Aq (Ap X.prog X.w) X.A (pyIter (.ref s.heap.objs.size)) (TU X pins σ tg R) E { s with heap:=s.heap.push { cls:=.type "range",data:=.fields #[.int lo t,.int hi u,.int 1 v] },toks:=tk }:=by
 refine wpAny_pyIter_range (IsRange.new ..) (small_one h1 h2 h3 h4) ?_;have I1:Inv X pins σ H { s with heap:=s.heap.push { cls:=.type "range",data:=.fields #[.int lo t,.int hi u,.int 1 v] },toks:=tk }:=I.kept λ b o e=>CP _ e;refine ⟨(s.heap.push { cls:=.type "range",data:=.fields #[.int lo t,.int hi u,.int 1 v] }).objs.size,[(s.heap.push { cls:=.type "range",data:=.fields #[.int lo t,.int hi u,.int 1 v] }).objs.size],_,_,H,rfl,
  I1.kept (t':=tk) λ b o e=>CP _ e,Z8 _ lo (hi - lo).toNat,?_,λ b hb=>?_,q⟩
 ·have e1:lo + ((0:Nat):Int) * 1=lo:=by simp
  have e2:(((hi - lo).toNat:Nat):Int) - ((0:Nat):Int)=Builtin.Range.rangeSize lo hi 1:=by rw [rangeSize_one];split <;> omega
  show IsRangeIter _ _ (lo + ((0:Nat):Int) * 1) ((((hi - lo).toNat:Nat):Int) - ((0:Nat):Int)) 1;rw [e1,e2];exact DX _ rfl
 ·have e:b=(s.heap.push { cls:=.type "range",data:=.fields #[.int lo t,.int hi u,.int 1 v] }).objs.size:=by simpa using hb
  subst e;exact I1.fpOk (Bc _) (I1.hok.fresh (Bc _))
def Mr (ta:TA):TI:=λ σ H R=>ta σ H λ vs H1=>∃ j:Int,vs=[.int j]/\-(2 ^ 62)<=j/\j < 2 ^ 62/\R (Fp 0 j.toNat) H1
def Mt (ta:TA):TI:=λ σ H R=>ta σ H λ vs H1=>∃ i j:Int,vs=[.int i,.int j]/\(-(2 ^ 62)<=i/\i < 2 ^ 62/\-(2 ^ 62)<=j/\j < 2 ^ 62)/\R (Fp i (j - i).toNat) H1
theorem Zw {a:Expr}{ta:TA}{p pos:Pos} (hg:Gl X "range") (hm:X.mg "range" = none) (ha:PA X [a] ta) (hs:Ax [a] X.env=[(false,eval a X.env)]:=by rfl):PI X tg (.Call (.Name "range" p) [a] [] pos) (Mr ta):=by
 intro pins s σ H R I h;refine Call_ (JF I hg hm boot_range (NO (Ay (ha pos pins s σ H _ I h) λ us s1 ⟨vs,H1,I1,r1,q1⟩=>?_) hs rfl));obtain ⟨j,e,q1,q2,q⟩:=q1;subst e;cases r1 with
 | cons r rr=>
  cases rr;obtain ⟨t,rfl⟩:=r;exact call_range_1 (PY I1 (by omega) (by omega) q1 q2 (by simpa using q))
theorem Zx {a b:Expr}{ta:TA}{p pos:Pos} (hg:Gl X "range") (hm:X.mg "range" = none) (ha:PA X [a,b] ta) (hs:Ax [a,b] X.env=[(false,eval a X.env),(false,eval b X.env)]:=by rfl) (hs2:Ax [b] X.env=[(false,eval b X.env)]:=by rfl):
  PI X tg (.Call (.Name "range" p) [a,b] [] pos) (Mt ta):=by
 intro pins s σ H R I h;refine Call_ (JF I hg hm boot_range (NO (Ay (ha pos pins s σ H _ I h) λ us s1 ⟨vs,H1,I1,r1,q1⟩=>?_) (by rw [hs,hs2]) (by rw [hs2];rfl)));obtain ⟨i,j,e,⟨q1,q2,q3,q4⟩,q⟩:=q1;subst e;cases r1 with
 | cons r rr=>
  cases rr with
  | cons r' rr=>
   cases rr;obtain ⟨t,rfl⟩:=r;obtain ⟨t',rfl⟩:=r';exact call_range_2 (PY I1 q1 q2 q3 q4 q)
def FW (wi:TI) (g:TG) (tb:TS):TS:=λ D σ H=>wi σ H λ J H1=>∃ W:Nat->Nat->St->Hp->Prop,(∃ m,W 0 m σ H1)/\∀ i m σ H,W i m σ H ->
 (J.stop i H/\D.nx σ H)\/(J.go i H/\∃ N:St->Hp->Prop,(∀ σ' H',N σ' H'->∃ m',m' < m/\W (i + 1) m' σ' H')/\∀ x H',J.yld i H x H'->g x σ H' λ σ2 H2=>tb { D with nx:=N,ct:=N,bk:=D.nx } σ2 H2)
def Jx (fp:List Addr) (h:Heap):List (Addr×Obj):=fp.filterMap λ b=>(h.get? b).map λ o=>(b,o)
def Li {fp:List Addr}{h:Heap}{b:Addr}{o:Obj} (hb:b∈fp) (e:h.get? b=some o):(b,o)∈Jx fp h:=ji8.mpr ⟨b,hb,by rw [e];rfl⟩
theorem YZ {fp:List Addr}{h:Heap}{p:Addr×Obj} (hp:p∈Jx fp h):p.1∈fp/\h.get? p.1=some p.2:=by
 obtain ⟨b,hb,e⟩:=ji8.mp hp;cases q:h.get? b with
 | none=>rw [q] at e;cases e
 | some o=>
  rw [q] at e;have e':(b,o)=p:=Option.some.inj e;subst e';exact ⟨hb,q⟩
def Inv.pinned {pins:List (Addr×Obj)}{σ:St}{H:Hp}{s:Ah}{fp:List Addr} (I:Inv X pins σ H s) (hf:∀ b∈fp,Cf X pins H b) (ho:∀ b∈fp,∃ o,s.heap.get? b=some o/\∀ v,o.data≠.cell v):Inv X (pins++Jx fp s.heap) σ H s:=
 I.pins_of λ p hp=>(jb8.mp hp).elim (λ z=>I.pin p (AR _ z)) λ z=>by
  obtain ⟨hb,e⟩:=YZ z;obtain ⟨f0,f1,f2,_⟩:=hf p.1 hb;obtain ⟨o,e',d⟩:=ho p.1 hb;rw [e] at e';cases e';exact ⟨e,f0,f1,f2,d⟩
def Inv.unpinned {pins pl:List (Addr×Obj)}{σ:St}{H:Hp}{s:Ah} (I:Inv X (pins++pl) σ H s):Inv X pins σ H s:=I.pins_of λ p hp=>I.pin p (AR _ (AY _ hp))
def IK {iter:Expr}{body:List Stmt}{wi:TI}{g:TG}{tb:TS}{pos:Pos} (hp:IL (Ap X.prog X.w) X.A X.env X.xe) (hc:X.calm=true) (hi:PI X tg iter wi) (hg:PG X tg g) (hb:Dt X body tb)
  (hs:∀ x,LO iter X.env x=pure x:=by intro _;rfl):PS X (.For tg iter body [] pos) (FW wi g tb):=by
 intro pins s σ H D I h;refine wpAny_For (Ay (hi pins s σ H _ I h) λ v s1 h1=>Ay h1 λ itv s2 h2=>?_) hs;obtain ⟨it,fp,tn,J,H2,e,I2,T,st2,f2,W,⟨m0,w0⟩,turn⟩:=h2;subst e;have stat:∀ {H':Hp},(∀ b∈fp,H' b=none)->∀ b∈fp,Cf X pins H' b:=λ hn b hb=>⟨hn b hb,(f2 b hb).2⟩
 refine codeAny_forLoop_any (λ n s'=>∃ i σ' H',Inv X pins σ' H' s'/\tn i s'.heap/\(∀ b∈fp,H' b=none)/\W i n σ' H') ?_ m0 ⟨0,σ,H2,I2,st2,λ b hb=>(f2 b hb).1,w0⟩;rintro n s3 ⟨i,σ3,H3,I3,st3,fr3,w3⟩;rcases turn i n σ3 H3 w3 with ⟨stop,qn⟩ | ⟨go,N,hN,step⟩
 ·refine JN hp (Ay (T.done X rfl rfl rfl hc i pins s3 σ3 H3 X.xe I3 (stat fr3) st3 stop) λ r s4 ⟨hr,I4⟩=>?_);subst hr;exact JM ⟨σ3,H3,I4,qn⟩
 ·refine JN hp (Ay (T.item X rfl rfl rfl hc i pins s3 σ3 H3 X.xe I3 (stat fr3) st3 go) λ r s4 ⟨u,hr,h4⟩=>?_);subst hr;refine JN hp (Ay h4 λ _ s5 ⟨x,H5,I5,r5,y5,st5,fr5⟩=>?_);have I5':=I5.pinned (stat fr5) (T.obj _ _ st5);refine JN hp (Ay (hg _ s5 σ3 H5 x u _ I5' r5 (step x H5 y5)) λ _ s6 ⟨σ6,H6,I6,q6⟩=>?_);refine JN hp (Ay (hb _ s6 σ6 H6 _ I6 q6) λ f s7 q7=>?_);have again:∀ {σ7:St}{H7:Hp},Inv X (pins++Jx fp s5.heap) σ7 H7 s7->N σ7 H7->∃ m,m < n/\∃ i σ' H',Inv X pins σ' H' s7/\tn i s7.heap/\(∀ b∈fp,H' b=none)/\W i m σ' H':=λ {σ7 H7} I7 n7=>by
   obtain ⟨m',hm,w7⟩:=hN σ7 H7 n7;refine ⟨m',hm,i + 1,σ7,H7,I7.unpinned,T.keep _ _ _ st5 λ b hb o e=>(I7.pin (b,o) (AR _ (AR _ (Li hb e)))).1,λ b hb=>?_,w7⟩;obtain ⟨o,e,d⟩:=T.obj _ _ st5 b hb;exact (I7.pin (b,o) (AR _ (AR _ (Li hb e)))).2.1
  cases f with
  | next=>obtain ⟨σ7,H7,I7,n7⟩:=q7;exact again I7 n7
  | cont=>obtain ⟨σ7,H7,I7,n7⟩:=q7;exact again I7 n7
  | brk=>obtain ⟨σ7,H7,I7,q7⟩:=q7;exact ⟨σ7,H7,I7.unpinned,q7⟩
  | ret v=>obtain ⟨x7,σ7,H7,I7,r7,q7⟩:=q7;exact ⟨x7,σ7,H7,I7.unpinned,r7,q7⟩
end
abbrev R2:=V->V->Hp->VK->Prop
def OpR (X:Cx) (f:Ae->Ae->Sem Ae) (r:R2):Prop:=
 ∀ (pins:List (Addr×Obj)) (s:Ah) (σ:St) (H:Hp) (x y:V) (v u:Ae) (Q:VK),Inv X pins σ H s->RelV x v->RelV y u->r x y H Q ->
  Aq (Ap X.prog X.w) X.A (f v u) (EP X pins σ Q) X.xe s
def Pg (X:Cx) (f:Ae->Sem Ae) (r:V->Hp->VK->Prop):Prop:=
 ∀ (pins:List (Addr×Obj)) (s:Ah) (σ:St) (H:Hp) (x:V) (v:Ae) (Q:VK),Inv X pins σ H s->RelV x v->r x H Q ->
  Aq (Ap X.prog X.w) X.A (f v) (EP X pins σ Q) X.xe s
def zzh (X:Cx) (f:Ae) (r:List V->Hp->VK->Prop):Prop:=
 ∀ (pins:List (Addr×Obj)) (s:Ah) (σ:St) (H:Hp) (xs:List V) (us:List Ae) (Q:VK),Inv X pins σ H s->Vals xs us->r xs H Q ->
  Aq (Ap X.prog X.w) X.A (call f us) (EP X pins σ Q) X.xe s
def FV (r:R2) (ta tb:TE):TE:=λ σ H Q=>ta σ H λ x H1=>tb σ H1 λ y H2=>r x y H2 Q
def Q6 (r:V->Hp->VK->Prop) (ta:TE):TE:=λ σ H Q=>ta σ H λ x H1=>r x H1 Q
def rI (C:Int->Int->Prop) (g:Int->Int->V):R2:=λ x y H Q=>∃ i j,x=.int i/\y=.int j/\C i j/\Q (g i j) H
def Es (g:Int->Int->V):R2:=λ x y H Q=>∃ i j,x=.int i/\y=.int j/\Q (g i j) H
def rU (g:Int->V):V->Hp->VK->Prop:=λ x H Q=>∃ i,x=.int i/\Q (g i) H
section
variable {X:Cx}{a b c:Expr}{ta tb tc:TE}{pos:Pos}
def Ii (ha:PE X a ta) (hb:PE X b tb) {pins:List (Addr×Obj)}{s:Ah}{σ:St}{H:Hp}{R:V->V->Hp->Prop} (I:Inv X pins σ H s)
  (h:ta σ H λ x H1=>tb σ H1 λ y H2=>R x y H2) {Q:Ae->Ah->Prop}{f:Ae->Ae->Sem Ae}
  (hf:∀ v u s2 x y H2,Inv X pins σ H2 s2->RelV x v->RelV y u->R x y H2->Aq (Ap X.prog X.w) X.A (f v u) Q X.xe s2):
  Aq (Ap X.prog X.w) X.A (eval a X.env) (λ v s₁=>Aq (Ap X.prog X.w) X.A (eval b X.env) (λ u s₂=>Aq (Ap X.prog X.w) X.A (f v u) Q X.xe s₂) X.xe s₁) X.xe s:=by
 refine Ay (ha pins s σ H _ I h) λ v s1 ⟨x,H1,I1,r1,q1⟩=>?_;refine Ay (hb pins s1 σ H1 _ I1 q1) λ u s2 ⟨y,H2,I2,r2,q2⟩=>?_;exact hf v u s2 x y H2 I2 r1 r2 q2
def Mq {op:Operator}{r:R2} (ho:OpR X (Dz op) r) (ha:PE X a ta) (hb:PE X b tb):PE X (.BinOp a op b pos) (FV r ta tb):=by
 intro pins s σ H Q I h;exact wpAny_BinOp (Ii ha hb I h λ v u s2 x y H2 I2 rx ry q=>ho pins s2 σ H2 x y v u Q I2 rx ry q)
def UB {op:UnaryOp}{r:V->Hp->VK->Prop} (ho:Pg X (unaryOp op) r) (ha:PE X a ta):PE X (.UnaryOp op a pos) (Q6 r ta):=by
 intro pins s σ H Q I h;exact UnaryOp_ (Ay (ha pins s σ H _ I h) λ v s1 ⟨x,H1,I1,r1,q1⟩=>ho pins s1 σ H1 x v Q I1 r1 q1)
def Kk {f:Ae->Ae->Sem Ae}{C:Int->Int->Prop}{g:Int->Int->Int}
  (rule:∀ (i j:Int) (t u:Tok) (s:Ah) (Q:Ae->Ah->Prop) (E:Ae->Ah->Prop),C i j->Q (.int (g i j) s.toks) { s with toks:=s.toks + 1 }->Aq (Ap X.prog X.w) X.A (f (.int i t) (.int j u)) Q E s):
  OpR X f (rI C λ i j=>.int (g i j)):=by
 intro pins s σ H x y v u Q I rx ry h;obtain ⟨i,j,rfl,rfl,hc,q⟩:=h;obtain ⟨t,rfl⟩:=rx;obtain ⟨t',rfl⟩:=ry;exact rule i j t t' s _ _ hc ⟨.int (g i j),H,I.tok _,⟨_,rfl⟩,q⟩
def O6 {f:Ae->Ae->Sem Ae}{g:Int->Int->Int}
  (rule:∀ (i j:Int) (t u:Tok) (s:Ah) (Q:Ae->Ah->Prop) (E:Ae->Ah->Prop),Q (.int (g i j) s.toks) { s with toks:=s.toks + 1 }->Aq (Ap X.prog X.w) X.A (f (.int i t) (.int j u)) Q E s):
  OpR X f (Es λ i j=>.int (g i j)):=by
 intro pins s σ H x y v u Q I rx ry h;obtain ⟨i,j,rfl,rfl,q⟩:=h;obtain ⟨t,rfl⟩:=rx;obtain ⟨t',rfl⟩:=ry;exact rule i j t t' s _ _ ⟨.int (g i j),H,I.tok _,⟨_,rfl⟩,q⟩
def Gi {f:Ae->Ae->Sem Ae}{g:Int->Int->Bool}
  (rule:∀ (i j:Int) (t u:Tok) (s:Ah) (Q:Ae->Ah->Prop) (E:Ae->Ah->Prop),Q (.bool (g i j)) s->Aq (Ap X.prog X.w) X.A (f (.int i t) (.int j u)) Q E s):
  OpR X f (Es λ i j=>.bl (g i j)):=by
 intro pins s σ H x y v u Q I rx ry h;obtain ⟨i,j,rfl,rfl,q⟩:=h;obtain ⟨t,rfl⟩:=rx;obtain ⟨t',rfl⟩:=ry;exact rule i j t t' s _ _ ⟨.bl (g i j),H,I,rfl,q⟩
def KR (i j:Int):Prop:=0<=j/\j<=1000000/\i.natAbs < 2 ^ 64
def CMul (i j:Int):Prop:=(-(2 ^ 64) < i/\i < 2 ^ 64)\/(-(2 ^ 64) < j/\j < 2 ^ 64)
def CMul.ok {i j:Int} (h:CMul i j):IntMulOk i j:=by
 rcases h with ⟨h1,h2⟩ | ⟨h1,h2⟩
 ·exact .of_left (intBits_le_64 h1 h2)
 ·exact .of_right (intBits_le_64 h1 h2)
def qk9:OpR X (Dz .Add) (Es λ i j=>.int (i + j)):=O6 λ _ _ _ _ _ _ _ q=>add_int q
def qk0:OpR X (Dz .Mult) (rI CMul λ i j=>.int (i * j)):=Kk λ _ _ _ _ _ _ _ hc q=>mul_int q hc.ok
def VQ:OpR X (Dz .Mod) (rI (λ _ j=>0 < j) λ i j=>.int (i % j)):=Kk λ i j _ _ _ _ _ hc q=>by
 have h1:(0:Int) < j:=hc;exact mod_int' (by omega) (by rw [Int.fmod_eq_emod_of_nonneg i (by omega)];exact q)
def V2:OpR X (Dz .Pow) (rI KR λ i j=>.int (i ^ j.toNat)):=Kk λ _ _ _ _ _ _ _ hc q=>pow_int_small hc.1 hc.2.1 hc.2.2 q
def Us {f:Ae->Sem Ae}{g:Int->Int}
  (rule:∀ (i:Int) (t:Tok) (s:Ah) (Q:Ae->Ah->Prop) (E:Ae->Ah->Prop),Q (.int (g i) s.toks) { s with toks:=s.toks + 1 }->Aq (Ap X.prog X.w) X.A (f (.int i t)) Q E s):
  Pg X f (rU λ i=>.int (g i)):=by
 intro pins s σ H x v Q I rx h;obtain ⟨i,rfl,q⟩:=h;obtain ⟨t,rfl⟩:=rx;exact rule i t s _ _ ⟨.int (g i),H,I.tok _,⟨_,rfl⟩,q⟩
def Wh:Pg X (unaryOp .USub) (rU λ i=>.int (-i)):=Us λ _ _ _ _ _ q=>neg_int q
end
def NT:V->V->Bool
 | .non,.non=>true | .non,.int _=>true | .int _,.non=>true | .non,.bl _=>true | .bl _,.non=>true | .non,.str _=>true | .str _,.non=>true
 | .int _,.int _=>true | .bl _,.bl _=>true | .str _,.str _=>true | .byt _,.byt _=>true
 | .int _,.str _=>true | .str _,.int _=>true | .bl _,.str _=>true | .str _,.bl _=>true
 | _,_=>false
def Uv:R2:=λ x y H Q=>NT x y=true/\Q (.bl (decide (x=y))) H
def RX {i j:Int}:decide (V.int i=V.int j)=(i == j):=by
 rw [Je];simp
def Vy {i j:Bool}:decide (V.bl i=V.bl j)=(i == j):=by
 rw [Je];simp
def WV {i j:Str}:decide (V.str i=V.str j)=(i == j):=by
 rw [Je];simp
def WU {i j:Array UInt8}:decide (V.byt i=V.byt j)=(i.toList == j.toList):=by
 rw [Je];cases i;cases j;simp
section
variable {X:Cx}{a b c:Expr}{ta tb tc:TE}{pos:Pos}
def Du {pins:List (Addr×Obj)}{σ:St}{H:Hp}{s:Ah}{Q:VK}{k k':Bool} (I:Inv X pins σ H s) (q:Q (.bl k) H) (e:k=k'):EP X pins σ Q (.bool k') s:=by
 subst e;exact ⟨.bl k,H,I,rfl,q⟩
theorem U5:OpR X (Cp .Eq) Uv:=by
 intro pins s σ H x y v u Q I rx ry h;obtain ⟨hs,q⟩:=h;cases x with
 | non=>
  cases rx;cases y with
  | non=>cases ry;exact PySem.EqNone.eq_none_none (Du I q (by simp))
  | bl j=>cases ry;exact PySem.EqNone.eq_none_bool (Du I q (by simp))
  | int j=>obtain ⟨t',rfl⟩:=ry;exact PySem.EqNone.eq_none_int (Du I q (by simp))
  | str j=>obtain ⟨t',rfl⟩:=ry;exact PySem.EqNone.eq_none_str (Du I q (by simp))
  | _=>exact absurd (show false=true from hs) C2
 | bl i=>
  cases rx;cases y with
  | non=>cases ry;exact PySem.EqNone.eq_bool_none (Du I q (by simp))
  | bl j=>cases ry;exact eq_bool (Du I q Vy)
  | str j=>obtain ⟨t',rfl⟩:=ry;exact PySem.EqMixed.eq_bool_str (Du I q (by simp))
  | _=>exact absurd (show false=true from hs) C2
 | int i=>
  obtain ⟨t,rfl⟩:=rx;cases y with
  | non=>cases ry;exact PySem.EqNone.eq_int_none (Du I q (by simp))
  | int j=>obtain ⟨t',rfl⟩:=ry;exact eq_int (Du I q RX)
  | str j=>obtain ⟨t',rfl⟩:=ry;exact PySem.EqMixed.eq_int_str (Du I q (by simp))
  | _=>exact absurd (show false=true from hs) C2
 | str i=>
  obtain ⟨t,rfl⟩:=rx;cases y with
  | non=>cases ry;exact PySem.EqNone.eq_str_none (Du I q (by simp))
  | bl j=>cases ry;exact PySem.EqMixed.eq_str_bool (Du I q (by simp))
  | int j=>obtain ⟨t',rfl⟩:=ry;exact PySem.EqMixed.eq_str_int (Du I q (by simp))
  | str j=>obtain ⟨t',rfl⟩:=ry;exact eq_str (Du I q WV)
  | _=>exact absurd (show false=true from hs) C2
 | byt i=>
  obtain ⟨t,rfl⟩:=rx;cases y with
  | byt j=>obtain ⟨t',rfl⟩:=ry;exact PySem.W.eq_bytes (Du I q WU)
  | _=>exact absurd (show false=true from hs) C2
 | _=>cases y <;> exact absurd (show false=true from hs) C2
def Rg:OpR X (Cp .Lt) (Es λ i j=>.bl (decide (i < j))):=Gi λ _ _ _ _ _ _ _ q=>lt_int q
def Rf:OpR X (Cp .LtE) (Es λ i j=>.bl (decide (i<=j))):=Gi λ _ _ _ _ _ _ _ q=>le_int q
def Rc:OpR X (Cp .Gt) (Es λ i j=>.bl (decide (j < i))):=Gi λ _ _ _ _ _ _ _ q=>gt_int q
def Rb:OpR X (Cp .GtE) (Es λ i j=>.bl (decide (j<=i))):=Gi λ _ _ _ _ _ _ _ q=>ge_int q
def OpR.or {f:Ae->Ae->Sem Ae}{r r':R2} (h:OpR X f r) (h':OpR X f r'):OpR X f (λ x y H Q=>r x y H Q\/r' x y H Q):=by
 intro pins s σ H x y v u Q I rx ry q;rcases q with q | q
 ·exact h pins s σ H x y v u Q I rx ry q
 ·exact h' pins s σ H x y v u Q I rx ry q
def WL {op:DS}{r:R2} (ho:OpR X (Cp op) r) (ha:PE X a ta) (hb:PE X b tb) (hm:IP op b=false):PE X (.Compare a [op] [b] pos) (FV r ta tb):=by
 intro pins s σ H Q I h;exact wpAny_Compare1 (Ii ha hb I h λ v u s2 x y H2 I2 rx ry q=>ho pins s2 σ H2 x y v u Q I2 rx ry q) hm
def Rk (t:TE):TT:=λ σ H Q=>t σ H λ x H'=>∃ k,x=.bl k/\Q k H'
def Xv {op:DS}{r:R2} (ho:OpR X (Cp op) r) (ha:PE X a ta) (hb:PE X b tb) (hm:IP op b=false):PT X (.Compare a [op] [b] pos) (Rk (FV r ta tb)):=by
 intro pins s σ H Q I h;refine wpAny_isTrue_Compare1 (Ay (ha pins s σ H _ I h) λ v s1 ⟨x,H1,I1,r1,q1⟩=>Ay (hb pins s1 σ H1 _ I1 q1) λ u s2 ⟨y,H2,I2,r2,q2⟩=>
  Ay (ho pins s2 σ H2 x y v u _ I2 r1 r2 q2) λ c s3 ⟨z,H3,I3,r3,k,e,q3⟩=>?_) hm
 subst e;cases r3;exact FR ⟨H3,I3,q3⟩
def O1 (r r':R2) (ta tb tc:TE):TE:=λ σ H Q=>ta σ H λ x H1=>tb σ H1 λ y H2=>r x y H2 λ z H3=>∃ k,z=.bl k /\
 (if k=true then tc σ H3 λ w' H4=>r' y w' H4 Q else Q (.bl false) H3)
theorem Yk {op op':DS}{r r':R2} (ho:OpR X (Cp op) r) (ho':OpR X (Cp op') r') (ha:PE X a ta) (hb:PE X b tb) (hc:PE X c tc)
  (hm:lastMarks [op,op'] [b,c]=false:=by with_unfolding_all rfl):PE X (.Compare a [op,op'] [b,c] pos) (O1 r r' ta tb tc):=by
 intro pins s σ H Q I h;refine Compare_chain (Ay (ha pins s σ H _ I h) λ v s1 ⟨x,H1,I1,r1,q1⟩=>chain_link (Ay (hb pins s1 σ H1 _ I1 q1) λ u s2 ⟨y,H2,I2,r2,q2⟩=>
  Ay (ho pins s2 σ H2 x y v u _ I2 r1 r2 q2) λ d s3 ⟨z,H3,I3,r3,k,e,q3⟩=>?_)) hm
 subst e;cases r3;refine FR ?_;cases k with
 | false=>exact ite_ff ⟨.bl false,H3,I3,rfl,q3⟩
 | true=>exact ite_tt (chain_last (Ay (hc pins s3 σ H3 _ I3 q3) λ w' s4 ⟨z',H4,I4,r4,q4⟩=>ho' pins s4 σ H4 y z' u w' Q I4 r2 r4 q4))
theorem Ys {op op':DS}{r r':R2} (ho:OpR X (Cp op) r) (ho':OpR X (Cp op') r') (ha:PE X a ta) (hb:PE X b tb) (hc:PE X c tc)
  (hm:lastMarks [op,op'] [b,c]=false:=by with_unfolding_all rfl):PT X (.Compare a [op,op'] [b,c] pos) (Rk (O1 r r' ta tb tc)):=by
 intro pins s σ H Q I h;refine isTrue_chain (Ay (ha pins s σ H _ I h) λ v s1 ⟨x,H1,I1,r1,q1⟩=>test_link (Ay (hb pins s1 σ H1 _ I1 q1) λ u s2 ⟨y,H2,I2,r2,q2⟩=>
  Ay (ho pins s2 σ H2 x y v u _ I2 r1 r2 q2) λ d s3 ⟨z,H3,I3,r3,k,e,q3⟩=>?_)) hm
 subst e;cases r3;refine FR ?_;cases k with
 | false=>
  obtain ⟨k',e',q'⟩:=q3;cases e';exact ite_ff ⟨H3,I3,q'⟩
 | true=>
  refine ite_tt (test_last (Ay (hc pins s3 σ H3 _ I3 q3) λ w' s4 ⟨z',H4,I4,r4,q4⟩=>Ay (ho' pins s4 σ H4 y z' u w' _ I4 r2 r4 q4) λ d' s5 ⟨z2,H5,I5,r5,k2,e2,q5⟩=>?_));subst e2;cases r5;exact FR ⟨H5,I5,q5⟩
def Ho:(An:Nat) < 2 ^ 63:=by rw [sizeLine_eq];decide
def Z2:OpR X (Dz .Add) (λ x y H Q=>∃ i j,x=.str i/\y=.str j/\i.length + j.length<=An/\Q (.str (i++j)) H):=by
 intro pins s σ H x y v u Q I rx ry h;obtain ⟨i,j,rfl,rfl,hz,q⟩:=h;obtain ⟨t,rfl⟩:=rx;obtain ⟨t',rfl⟩:=ry;exact add_str (λ t' tk=>⟨.str (i++j),H,I.tok _,⟨_,rfl⟩,q⟩) hz
theorem Ey {x:V}{us:List Ae} (r:Vals [x] us):∃ u,us=[u]/\RelV x u:=by
 cases r with
 | cons r1 r2=>cases r2;exact ⟨_,rfl,r1⟩
theorem IX {x y:V}{us:List Ae} (r:Vals [x,y] us):∃ u w',us=[u,w']/\RelV x u/\RelV y w':=by
 cases r with
 | cons r1 r2=>
  cases r2 with
  | cons r3 r4=>cases r4;exact ⟨_,_,rfl,r1,r3⟩
def YE (hc:X.calm=true):zzh X (.builtin "max") (λ xs H Q=>∃ i j,xs=[.int i,.int j]/\Q (.int (if j > i then j else i)) H):=by
 intro pins s σ H xs us Q I r h;obtain ⟨i,j,rfl,q⟩:=h;obtain ⟨u,w',rfl,⟨t,rfl⟩,⟨t',rfl⟩⟩:=IX r;refine max_two_ints (I.ok.hd hc) λ h' tk k=>⟨_,H,I.kept k,?_,q⟩
 by_cases hj:j > i
 ·rw [if_pos hj,if_pos hj];exact ⟨_,rfl⟩
 ·rw [if_neg hj,if_neg hj];exact ⟨_,rfl⟩
def YG (hc:X.calm=true):zzh X (.builtin "min") (λ xs H Q=>∃ i j,xs=[.int i,.int j]/\Q (.int (if j < i then j else i)) H):=by
 intro pins s σ H xs us Q I r h;obtain ⟨i,j,rfl,q⟩:=h;obtain ⟨u,w',rfl,⟨t,rfl⟩,⟨t',rfl⟩⟩:=IX r;refine min_two_ints (I.ok.hd hc) λ h' tk k=>⟨_,H,I.kept k,?_,q⟩
 by_cases hj:j < i
 ·rw [if_pos hj,if_pos hj];exact ⟨_,rfl⟩
 ·rw [if_neg hj,if_neg hj];exact ⟨_,rfl⟩
def YC:zzh X (.type "int") (λ xs H Q=>(∃ i,xs=[.int i]/\Q (.int i) H)\/∃ k,xs=[.bl k]/\Q (.int (if k then 1 else 0)) H):=by
 intro pins s σ H xs us Q I r h;rcases h with ⟨i,rfl,q⟩ | ⟨k,rfl,q⟩
 ·obtain ⟨u,rfl,t,rfl⟩:=Ey r;exact call_int_int ⟨.int i,H,I,⟨_,rfl⟩,q⟩
 ·obtain ⟨u,rfl,r1⟩:=Ey r;cases r1;exact call_int_bool ⟨.int (if k then 1 else 0),H,I.tok _,⟨_,rfl⟩,q⟩
end
structure ObjM (h:Heap) (x dx C:Addr) (mA:Str->Option Ae):Prop where
 obj:h.get? x=some (N5 C dx)
 ns:h.Ns1 dx mA
 ne:dx≠x
def YX {h:Heap}{dx:Addr}{mA:Str->Option Ae} (n:h.Ns1 dx mA):∃ od,h.get? dx=some od/\∀ name,N3 name od=some (mA name):=by
 obtain ⟨o,es,ep,ho,hd,hk,_,hm⟩:=n;refine ⟨o,ho,λ name=>?_⟩;have e:=hm name;unfold nsFind findBy at e;rw [<- Array.find?_toList] at e;unfold N3;rw [hd];dsimp only;split
 ·rename_i y q;rw [q] at e;exact congrArg some e
 ·rename_i q;rw [q] at e;have a:es.toList.any (·.refKey)=false:=by
   rw [List.any_eq_false];intro y hy;obtain ⟨z,t,hkey⟩:=hk y (Array.mem_toList_iff.mp hy);simp [DictEntry.refKey,hkey]
  have a':¬ es.toList.any (·.refKey)=true:=by rw [a];exact C2
  rw [if_neg a'];exact congrArg some e
def ObjM.look {h:Heap}{x dx C:Addr}{mA:Str->Option Ae} (I:ObjM h x dx C mA):∃ od,PySem.W.InstAt h x (N5 C dx) C (some od)/\∀ name,N3 name od=some (mA name):=
 let ⟨od,ho,hl⟩:=YX I.ns
 ⟨od,⟨I.obj,rfl,rfl,ho⟩,hl⟩
section
variable {prog:A3}{w:Az}{A:AW}{E:Ae->Ah->Prop}{s:Ah}{K:PySem.W.Frag}{x dx C f:Addr}{mA:Str->Option Ae}{name:Str}{v:Ae}
end
section
variable {P:A3}{w:Az}{H H':Hp}{h h':Heap}{a C dx:Addr}{fs fs':List (Str×V)}
def W6 (hok:HOk P w H h) (e:H a=some (.ins C dx fs)):∃ mA,ObjM h a dx C mA/\(∀ f,RelO (fs.lookup f) (mA f))/\PySem.Within mA (fs.map (·.1))/\fs.length<=1000/\H dx=some (.own a):=by
 obtain ⟨d,z,ne,ob,mA,n,r,q⟩:=(show zxx P w H h a (.ins C dx fs) from hok a _ e)
 exact ⟨mA,⟨ob,n,ne⟩,r,q,z,d⟩
end
structure Cls (K:PySem.W.Frag) (C:Addr):Prop where
 pg:PySem.W.plainGet K C Str.empty=true
 hd:PySem.W.hasDictIn K C=true
 po:PySem.W.plainOver K C=true
 sa:D1 K (.ref C) "__setattr__" = some (some (.builtin "object.__setattr__"))
def Cls.get {K:PySem.W.Frag}{C:Addr} (c:Cls K C) (f:Str):PySem.W.plainGet K C f=true:=c.pg
structure Con (K:PySem.W.Frag) (C:Addr) (f:Str) (v:V) (u:Ae):Prop where
 at_:D1 K (.ref C) f=some (some u)
 rel:RelV v u
 get:PySem.W.specialIn K u "__get__" = some none
 cp:PySem.W.copiedNames.contains f=false
structure Meth (K:PySem.W.Frag) (C:Addr) (m:Str) (f:Addr):Prop where
 at_:D1 K (.ref C) m=some (some (.ref f))
 fn:PySem.W.isFn K (.ref f)=true
 kp:GQ K (.ref f)=true
section
variable {X:Cx}{pins:List (Addr×Obj)}{σ:St}{H:Hp}{s:Ah}{a C dx:Addr}{fs:List (Str×V)}{f:Str}{v:V}{A:AW}{E:Ae->Ah->Prop}
end
section
variable {X:Cx}{o e value:Expr}{f:Str}{pos pos' tpos:Pos}{ta tv:TE}
end
section
variable {X:Cx}{pins:List (Addr×Obj)}{σ:St}{H:Hp}{s:Ah}{A:AW}{E:Ae->Ah->Prop}{Q:Ae->Ah->Prop}{c:Ae}{b:Bool}
inductive TyOf (K:PySem.W.Frag) (H:Hp):V->Ae->Prop where
 | non:TyOf K H .non (.type "NoneType")
 | bl (x:Bool):TyOf K H (.bl x) (.type "bool")
 | int (i:Int):TyOf K H (.int i) (.type "int")
 | str (x:Str):TyOf K H (.str x) (.type "str")
 | flt (x:UInt64):TyOf K H (.flt x) (.type "float")
 | lst {a:Addr}{xs:List V} (e:H a=some (.lst xs)):TyOf K H (.ref a) (.type "list")
 | frz {a:Addr}{o:Obj}{xs:List V} (e:H a=some (.frz o (.lst xs))):TyOf K H (.ref a) (.type "list")
 | tup {a:Addr}{xs:List V} (e:H a=some (.tup xs)):TyOf K H (.ref a) (.type "tuple")
 | dK {a:Addr}{kvs:List (AK×V)} (e:H a=some (.dK kvs)):TyOf K H (.ref a) (.type "dict")
 | dT {a:Addr}{kvs:List (List AK×V)} (e:H a=some (.dT kvs)):TyOf K H (.ref a) (.type "dict")
 | ins {a C dx:Addr}{fs:List (Str×V)} (e:H a=some (.ins C dx fs)) (cl:Cls K C) (ha:D1 K (.ref C) "__class__" = some (some (.builtin "object.__class__")))
   (hn:PySem.W.specialIn K (.builtin "object.__class__") "__get__" = some (some (.builtin "getset_descriptor.__get__"))) (htk:PySem.W.takesIn K (.builtin "object.__class__")=some true)
   (hm:Fg K C (.type "object")=some true):TyOf K H (.ref a) (.ref C)
theorem Zi {x:V}{u t:Ae} (I:Inv X pins σ H s) (rx:RelV x u) (ty:TyOf X.K H x t) (e:DV X.K t c=some b) (h:∀ tk,Q (.bool b) { s with toks:=tk }):
  Aq (Ap X.prog X.w) A (call (.builtin "isinstance") [u,c]) Q E s:=by
 cases ty with
 | non=>cases (show u=Value.none from rx);exact DW NB I.kIn True.intro e (λ z=>nomatch z) h
 | bl y=>cases (show u=Value.bool y from rx);exact DW PySem.W.kitx_bool I.kIn True.intro e (λ z=>nomatch z) h
 | int i=>obtain ⟨t,q⟩:=(show ∃ t,u=Value.int i t from rx);cases q;exact DW PySem.W.kitx_int I.kIn True.intro e (λ z=>nomatch z) h
 | str y=>obtain ⟨t,q⟩:=(show ∃ t,u=Value.str y t from rx);cases q;exact DW PySem.W.kitx_str I.kIn True.intro e (λ z=>nomatch z) h
 | flt y=>obtain ⟨t,q⟩:=(show ∃ t,u=Value.float y t from rx);cases q;exact DW PySem.W.kitx_float I.kIn True.intro e (λ z=>nomatch z) h
 | @lst a xs ea=>
  cases (show u=Value.ref a from rx);obtain ⟨_,_,n,_,h1⟩:=(show zxx X.prog X.w H s.heap a (.lst xs) from I.hok a _ ea)
  exact DW PySem.W.kitx_list I.kIn ⟨_,h1,rfl⟩ e (λ z=>nomatch z) h
 | @frz a ob xs ea=>
  cases (show u=Value.ref a from rx);obtain ⟨_,_,_,n,_,h1⟩:=(show zxx X.prog X.w H s.heap a (.frz ob (.lst xs)) from I.hok a _ ea)
  exact DW PySem.W.kitx_list I.kIn ⟨_,h1,rfl⟩ e (λ z=>nomatch z) h
 | @tup a xs ea=>
  cases (show u=Value.ref a from rx);obtain ⟨_,_,_,p⟩:=(show zxx X.prog X.w H s.heap a (.tup xs) from I.hok a _ ea)
  obtain ⟨o,h1,h2,_⟩:=p;exact DW PySem.W.kitx_tuple I.kIn ⟨o,h1,h2⟩ e (λ z=>nomatch z) h
 | @dK a kvs ea=>
  cases (show u=Value.ref a from rx);obtain ⟨_,_,vs,_,p⟩:=(show zxx X.prog X.w H s.heap a (.dK kvs) from I.hok a _ ea)
  obtain ⟨o,es,ep,h1,h2,_⟩:=p;exact DW PySem.W.kitx_dict I.kIn ⟨o,h1,h2.1⟩ e (λ z=>nomatch z) h
 | @dT a kvs ea=>
  cases (show u=Value.ref a from rx);obtain ⟨_,_,xs,_,o,es,ep,h1,h2,_⟩:=(show zxx X.prog X.w H s.heap a (.dT kvs) from I.hok a _ ea)
  exact DW PySem.W.kitx_dict I.kIn ⟨o,h1,h2.1⟩ e (λ z=>nomatch z) h
 | @ins a C dx fs ea cl ha hn htk hm=>
  cases (show u=Value.ref a from rx);obtain ⟨mA,O,_⟩:=W6 I.hok ea;obtain ⟨od,J,_⟩:=O.look;exact DW (PySem.W.kitx_own (cl.get _) cl.hd ha hn htk hm) I.kIn J e (λ z=>nomatch z) h
end
structure Room (k:Nat) (A:AW):Prop where
 hd:A.handled=none
 dp:A.depth + 3 * k + 5 < recursionLimit
 un:A.units + 16 * k + 200 < Cy
 gd:A.guards=some []
def Room.mono {j k:Nat}{A:AW} (r:Room k A) (h:j<=k):Room j A:=⟨r.hd,by have:=r.dp;omega,by have:=r.un;omega,r.gd⟩
def Room.deeper {k:Nat}{A:AW} (r:Room (k + 1) A) (env:Env):Room k (A.deeper env):=
 ⟨r.hd,by have:=r.dp;show A.depth + 1 + 3 * k + 5 < _;omega,by have:=r.un;show A.units + 3 + 16 * k + 200 < _;omega,r.gd⟩
def Room.depth {k:Nat}{A:AW} (r:Room k A):A.depth < recursionLimit:=by have:=r.dp;omega
def Room.units {k:Nat}{A:AW} (r:Room k A):A.units + 64 < Cy:=by have:=r.un;omega
def EE:TA:=λ _ H Q=>Q [] H
def GJ (ta:TE) (tr:TA):TA:=λ σ H Q=>ta σ H λ x H1=>tr σ H1 λ xs H2=>Q (x::xs) H2
section
variable {X:Cx}{e:Expr}{es:List Expr}{te:TE}{t:TA}{pos:Pos}
def FK:PA X [] EE:=λ _ _ _ _ H Q I h=>Calls.spliced_nil ⟨[],H,I,.nil,h⟩
def Dp (ha:PE X e te) (hr:PA X es t) (hs:Ax (e::es) X.env=(false,eval e X.env)::Ax es X.env:=by rfl):PA X (e::es) (GJ te t):=by
 intro pos pins s σ H Q I h;rw [hs];show Aq _ _ (spliced ((false,eval e X.env)::Cz pos (Ax es X.env))) _ _ s;refine Calls.spliced_cons (Ay (ha pins s σ H _ I h) λ u s1 ⟨x,H1,I1,r1,q1⟩=>?_);exact Ay (hr pos pins s1 σ H1 _ I1 q1) λ us s2 ⟨xs,H2,I2,r2,q2⟩=>⟨x::xs,H2,I2,.cons r1 r2,q2⟩
def NP (t:TA):TE:=λ σ H Q=>t σ H λ xs H1=>xs.length<=An/\∀ p,H1 p=none->Q (.ref p) (Ao H1 p (.tup xs))
def NR (t:TA):TE:=λ σ H Q=>t σ H λ xs H1=>xs.length<=An/\∀ p,H1 p=none->Q (.ref p) (Ao H1 p (.lst xs))
def RL {x1} (h:PA X es t):PE X (.Tuple es x1 pos) (NP t):=by
 intro pins s σ H Q I hq;refine wpAny_Tuple_spliced (Ay (h pos pins s σ H _ I hq) λ us s1 ⟨xs,H1,I1,r,z,q⟩=>⟨by rw [<- r.length];exact z,?_⟩);have hf:H1 s1.heap.objs.size=none:=I1.hok.fresh (Bc _);refine ⟨.ref s1.heap.objs.size,Ao H1 s1.heap.objs.size (.tup xs),I1.laid (t':=s1.toks) (λ b u e=>CP _ e) (Bc _) ?_,rfl,q _ hf⟩;exact ⟨z,us,r,⟨_,DX _ rfl,rfl,_,rfl⟩⟩
def RE (h:PA X es t):PE X (.List es pos) (NR t):=by
 intro pins s σ H Q I hq;refine wpAny_List_spliced (Ay (h pos pins s σ H _ I hq) λ us s1 ⟨xs,H1,I1,r,z,q⟩=>⟨by rw [<- r.length];exact z,?_⟩);have hf:H1 s1.heap.objs.size=none:=I1.hok.fresh (Bc _);refine ⟨.ref s1.heap.objs.size,Ao H1 s1.heap.objs.size (.lst xs),I1.laid (t':=s1.toks) (λ b u e=>CP _ e) (Bc _) ?_,rfl,q _ hf⟩;exact ⟨z,us,0,r,DX _ rfl⟩
end
abbrev Sp:=List V->Hp->VK->XK->Prop
abbrev Ej:=List Env->Hp->Ah->XK->Ae->Ah->Prop
structure Env0 (P:A3) (w:Az) (K:PySem.W.Frag) (mg:Str->Option Ae) (base:Heap) (A:AW) (outer:List Env) (s:Ah) (H:Hp):Prop where
 frames:A.frames=some outer
 mod:Mod K mg base
 bs:∀ b o,base.get? b=some o->s.heap.get? b=some o/\H b=none
 bsz:base.objs.size<=s.heap.objs.size
 funs:s.heap.FunFrames base outer
 frf:∀ b∈BS outer,H b=none
 hok:HOk P w H s.heap
 bare:Eo s.gens
def CE (outer:List Env) (P:A3) (w:Az) (H:Hp) (s:Ah) (Q:VK) (u:Ae) (s':Ah):Prop:=
 ∃ v H',s'.os=s.os/\Eo s'.gens/\Un (BS outer) [] H H' s.heap s'.heap/\HOk P w H' s'.heap/\RelV v u/\Q v H'
def CR (CX:Ej) (outer:List Env) (P:A3) (w:Az) (H:Hp) (s:Ah) (Q:VK) (E:XK) (r:Result) (s':Ah):Prop:=
 match r with
 | .ok (.ret u)=>CE outer P w H s Q u s'
 | .ok _=>False
 | .error e=>CX outer H s E e s'
structure FnOk (P:A3) (w:Az) (K:PySem.W.Frag) (mg:Str->Option Ae) (base:Heap) (CX:Ej) (k:Nat) (f:Addr) (fd:C0) (ps:List Str) (sp:Sp):Prop where
 len:∀ vs H Q E,sp vs H Q E->vs.length=ps.length
 run:∀ (A:AW) (outer:List Env) (s:Ah) (H:Hp) (args:Args) (us:List Ae) (vs:List V) (Q:VK) (E:XK),Room k A->Env0 P w K mg base A outer s H->BindsTo s fd args (ps.zip us)->Vals vs us->sp vs H Q E ->
  GO (Ap P w) A (.call (.ref f) args) (CR CX outer P w H s Q E) s
def FnOk.mono {P:A3}{w:Az}{K:PySem.W.Frag}{mg:Str->Option Ae}{base:Heap}{CX:Ej}{j k:Nat}{f:Addr}{fd:C0}{ps:List Str}{sp:Sp} (F:FnOk P w K mg base CX j f fd ps sp) (h:j<=k):
  FnOk P w K mg base CX k f fd ps sp:=⟨F.len,λ A outer s H args us vs Q E hr=>F.run A outer s H args us vs Q E (hr.mono h)⟩
section
variable {X:Cx}{pins:List (Addr×Obj)}{σ:St}{H:Hp}{s s':Ah}
def Inv.env0 (I:Inv X pins σ H s):Env0 X.prog X.w X.K X.mg X.base X.A X.stack s H:=
 ⟨I.ok.frames,I.ok.mod,I.bs,CT I.ok.bsz I.sz,I.stack,I.stkFree,I.hok,I.bare⟩
def Inv.after {Q:VK}{u:Ae} (I:Inv X pins σ H s) (h:CE X.stack X.prog X.w H s Q u s'):EP X pins σ Q u s':=by
 obtain ⟨v,H',os,bare,un,hok,r,q⟩:=h;obtain ⟨hh,g,d,t,os'⟩:=s';obtain rfl:os'=s.os:=os;exact ⟨v,H',I.call (h':=hh) (g':=g) (d':=d) (t':=t) (ch:=[]) un hok bare (λ b z=>absurd z (by simp)),r,q⟩
end
def Rm (sp:Sp) (dvs:List V) (E:XK) (t:TA):TE:=λ σ H Q=>t σ H λ vs H1=>sp (vs++dvs) H1 Q E
def zjy (K:PySem.W.Frag) (fd:C0) (ps:List Str) (ds:List Ae):Prop:=
 ∀ (s:Ah) (us:List Ae),K.In s.heap->(us++ds).length=ps.length->BindsTo s fd ⟨us,[]⟩ (ps.zip (us++ds))
def zjy.all {K:PySem.W.Frag}{fd:C0}{ps:List Str} (h:∀ us:List Ae,us.length=ps.length->bindArgs fd ⟨us,[]⟩=pure (ps.zip us)):zjy K fd ps []:=λ s us _ hl=>by
 rw [Jd] at hl ⊢;exact .of_eq (h us hl)
def Oo (CX:Ej) (X:Cx) (E:XK):Prop:=∀ (pins:List (Addr×Obj)) (σ:St) (H:Hp) (s:Ah) (e:Ae) (s':Ah),Inv X pins σ H s->CX X.stack H s E e s'->X.xe e s'
section
variable {X:Cx}{CX:Ej}{k:Nat}{f C:Addr}{fd:C0}{ps:List Str}{sp:Sp}{dvs:List V}{ds:List Ae}{E:XK}{x m:Str}{p pos apos:Pos}{e o:Expr}{es:List Expr}{ta:TE}{t:TA}
theorem VD {pins:List (Addr×Obj)}{σ:St}{H:Hp}{s:Ah}{Q:VK}{us:List Ae}{vs:List V} (F:FnOk X.prog X.w X.K X.mg X.base CX k f fd ps sp) (hr:Room k X.A) (hb:zjy X.K fd ps ds) (hd:Vals dvs ds) (hx:Oo CX X E)
  (I:Inv X pins σ H s) (r:Vals vs us) (h:sp (vs++dvs) H Q E):Aq (Ap X.prog X.w) X.A (call (.ref f) us) (EP X pins σ Q) X.xe s:=by
 have r2:Vals (vs++dvs) (us++ds):=r.append hd;have hl:(us++ds).length=ps.length:=by rw [<- r2.length];exact F.len _ _ _ _ h
 refine wpAny_call (LJ (F.run X.A X.stack s H ⟨us,[]⟩ (us++ds) (vs++dvs) Q E hr I.env0 (hb s us I.kIn hl) r2 h) λ r s' hq=>?_);cases r with
 | error e=>exact hx pins σ H s e s' I hq
 | ok fl=>
  cases fl with
  | ret u=>exact I.after hq
  | next=>exact DC hq
  | brk=>exact DC hq
  | cont=>exact DC hq
def WK (F:FnOk X.prog X.w X.K X.mg X.base CX k f fd ps sp) (hr:Room k X.A) (hg:Gl X x) (hm:X.mg x=some (.ref f)) (hk:GQ X.K (.ref f)=true) (hb:zjy X.K fd ps ds) (hd:Vals dvs ds) (hx:Oo CX X E)
  (ha:PA X (e::es) t) (hdb:(x == ("__debug__" : Str))=false:=by decide) (he:Ax (e::es) X.env=(false,eval e X.env)::Ax es X.env:=by rfl) (hpl:(Cz pos (Ax es X.env)).any (·.1)=false:=by rfl):
  PE X (.Call (.Name x p) (e::es) [] pos) (Rm sp dvs E t):=by
 intro pins s σ H Q I h;refine LP (IB I hg hm ?_ hdb);refine PySem.W.callWith_K (h₀:=X.base) I.ok.mod.kin hk (Ay (ha pos pins s σ H _ I h) λ us s1 ⟨vs,H1,I1,r,q⟩=>⟨I1.kIn,?_⟩) he hpl;exact VD F hr hb hd hx I1 r q
structure Mk (K:PySem.W.Frag) (C f:Addr):Prop where
 makes:PySem.W.makesIn K C=true
 init:D1 K (.ref C) "__init__" = some (some (.ref f))
 fn:PySem.W.isFn K (.ref f)=true
 kp:GQ K (.ref C)=true
end
section
variable {X:Cx}{CX:Ej}{k:Nat}{f C:Addr}{fd:C0}{ps ks:List Str}{sp:Sp}{E:XK}{x m:Str}{p pos apos kpos:Pos}{e o:Expr}{es:List Expr}{kws:List Hx}{te ta:TE}{t tk:TA}{nm:Option Str}
structure KBinds (K:PySem.W.Frag) (fd:C0) (ps ks:List Str) (g:List Ae->List Ae->List Ae) (gV:List V->List V->List V):Prop where
 to:∀ (s:Ah) (us ws:List Ae),K.In s.heap->(g us ws).length=ps.length->BindsTo s fd ⟨us,ks.zip ws⟩ (ps.zip (g us ws))
 rel:∀ {vs:List V}{us:List Ae}{zs:List V}{ws:List Ae},Vals vs us->Vals zs ws->Vals (gV vs zs) (g us ws)
variable {g:List Ae->List Ae->List Ae}{gV:List V->List V->List V}
end
structure FnScope (N P:List Str) (sc:AX):Prop where
 kind:sc.kind=.function:=by rfl
 co:sc.isCoroutine=false:=by rfl
 gen:sc.isGenerator=false:=by rfl
 nd:N.Nodup:=by decide +kernel
 pre:N.take P.length=P:=by rfl
 par:∀ x∈P,sc.names.lookup x=some .local\/sc.names.lookup x=some .cell:=by decide +kernel
 nofree:∀ y∈sc.names,y.2≠.free:=by decide +kernel
theorem Qk {kindOf:Str->Option CO}{x:Str}:∀ {binds:List (Str×Ae)}{m:Str->Option Ae},(∀ v,(x,v)∉binds)->bindL kindOf binds m x=m x
 | [],_,_=>rfl
 | (n,v)::r,m,h=>by
  unfold bindL;rw [Qk λ w hw=>h w (AA _ hw)];split
  ·have:x≠n:=by rintro rfl;exact h v AI
   simp [this]
  ·rfl
theorem Qi {kindOf:Str->Option CO}{x:Str}:∀ {binds:List (Str×Ae)}{m:Str->Option Ae},(∀ v,(x,v)∉binds)->bindC kindOf binds m x=m x
 | [],_,_=>rfl
 | (n,v)::r,m,h=>by
  unfold bindC;rw [Qi λ w hw=>h w (AA _ hw)];split
  ·rfl
  ·have:x≠n:=by rintro rfl;exact h v AI
   simp [this]
theorem Qj {kindOf:Str->Option CO}{x:Str}{v:Ae}:∀ {P:List Str}{vs:List Ae}{i:Nat}{m:Str->Option Ae},P.Nodup->P[i]?=some x->vs[i]?=some v->kindOf x=some .local ->
  bindL kindOf (P.zip vs) m x=some v
 | [],_,_,_,_,h,_,_=>by simp at h
 | _::_,[],_,_,_,_,h,_=>by simp at h
 | p::P,w::vs,0,m,nd,h1,h2,hk=>by
  simp at h1 h2;subst h1;subst h2;show bindL kindOf ((p,w)::P.zip vs) m p=_;unfold bindL;rw [Qk λ v hv=>(ji4.mp nd).1 (OK hv).1,if_pos hk];simp
 | p::P,w::vs,i + 1,m,nd,h1,h2,hk=>by
  show bindL kindOf ((p,w)::P.zip vs) m x=_;unfold bindL;exact Qj (i:=i) (ji4.mp nd).2 (by simpa using h1) (by simpa using h2) hk
theorem Qh {kindOf:Str->Option CO}{x:Str}{v:Ae}:∀ {P:List Str}{vs:List Ae}{i:Nat}{m:Str->Option Ae},P.Nodup->P[i]?=some x->vs[i]?=some v->kindOf x≠some .local ->
  bindC kindOf (P.zip vs) m x=some v
 | [],_,_,_,_,h,_,_=>by simp at h
 | _::_,[],_,_,_,_,h,_=>by simp at h
 | p::P,w::vs,0,m,nd,h1,h2,hk=>by
  simp at h1 h2;subst h1;subst h2;show bindC kindOf ((p,w)::P.zip vs) m p=_;unfold bindC;rw [Qi λ v hv=>(ji4.mp nd).1 (OK hv).1,if_neg hk];simp
 | p::P,w::vs,i + 1,m,nd,h1,h2,hk=>by
  show bindC kindOf ((p,w)::P.zip vs) m x=_;unfold bindC;exact Qh (i:=i) (ji4.mp nd).2 (by simpa using h1) (by simpa using h2) hk
def start (N:List Str) (vs:List V):St:=vs.map some++A6 (N.length - vs.length) none
def Be (CX:Ej) (P:A3) (w:Az) (K:PySem.W.Frag) (mg:Str->Option Ae) (base:Heap) (N:List Str) (qual:Str) (scope:AX) (f:Addr) (cd:Ae) (A:AW) (outer:List Env) (s:Ah) (H:Hp) (E:XK):Cx where
 prog:=P
 w:=w
 K:=K
 mg:=mg
 base:=base
 A:=A.deeper (FP qual scope s.heap.objs.size f cd)
 N:=N
 s₀:=s
 H₀:=H
 env:=FP qual scope s.heap.objs.size f cd
 outer:=outer
 stack:=FP qual scope s.heap.objs.size f cd::outer
 ex:=[]
 calm:=true
 fn:=λ _=>true
 pn:=[]
 xe:=λ e s'=>Aq (Ap P w) (A.deeper (FP qual scope s.heap.objs.size f cd)) (leaving (FP qual scope s.heap.objs.size f cd) e) (λ _ s''=>CX outer H s E e s'') (λ e' s''=>CX outer H s E e' s'') s'
def SS {sc:AX}{n:Nat}{x:Str} (h:sc.names.lookup x=some .cell):∃ c,(CG n sc.names []).lookup x=some c:=by
 have q:=PySem.W.cellsFrom_some sc.names n [] (.inl h);exact jj3.mp q
def Zg {CX:Ej}{P:A3}{w:Az}{K:PySem.W.Frag}{mg:Str->Option Ae}{base:Heap}{N ps:List Str}{qual:Str}{scope:AX}{f:Addr}{cd:Ae}{A:AW}{outer:List Env}{s s1:Ah}{H:Hp}{E:XK}{us:List Ae}{vs:List V}
  (S:FnScope N ps scope) (hd:A.handled=none) (e0:Env0 P w K mg base A outer s H) (hl:vs.length=ps.length) (r:Vals vs us)
  (x:InCallC s s.heap.objs.size (bindL (FP qual scope s.heap.objs.size f cd).kindOf (ps.zip us) λ _=>none) (CG (s.heap.objs.size + 1) scope.names []) (bindC (FP qual scope s.heap.objs.size f cd).kindOf (ps.zip us) λ _=>none) s1):
  Inv (Be CX P w K mg base N qual scope f cd A outer s H E) [] (start N vs) H s1:=by
 have hpl:ps.length<=N.length:=by have:=congrArg List.length S.pre;rw [EM] at this;omega
 obtain ⟨h1,tk,rfl,hk⟩:=x.done;have noA:∀ b:Addr,b∉(Be CX P w K mg base N qual scope f cd A outer s H E).ex:=λ b z=>absurd (show b∈([]:List Addr) from z) (by simp);refine ⟨⟨e0.mod,S.kind,rfl,rfl,Bc _,λ y z c h1 h2=>?_,λ y hy=>?_,λ y c _ h=>?_,λ _=>hd,Around.frames_deeper e0.frames,.inr ⟨rfl,rfl⟩,λ b z=>absurd z (noA b),e0.bs,e0.bsz,λ b _ _=>noA b,λ b z=>absurd z (noA b),e0.funs,e0.frf⟩,
  rfl,e0.bare,Un.kept hk,⟨_,x.toInCall.ns,λ i y v h1 h2 h3=>?_⟩,λ y c h=>⟨_,x.cell y c h⟩,e0.hok.fresh (Bc _),λ y c h=>?_,λ p hp=>absurd (show p∈([]:List (Addr×Obj)) from hp) (by simp),e0.hok.kept hk,?_⟩
 ·exact name_of_addr x.apart (JQ h1) (JQ h2)
 ·have hy:scope.names.lookup y=some .cell\/scope.names.lookup y=some .free:=hy;rcases hy with hy | hy
  ·exact SS hy
  ·exact absurd rfl (S.nofree _ (JQ hy))
 ·exact OD (x.above y c (JQ h))
 ·have hi:i < vs.length:=by
   unfold start at h2;by_cases hi:i < vs.length
   ·exact hi
   ·rw [Gn (by simpa using hi)] at h2;rw [Fl] at h2;split at h2 <;> cases h2
  have ha:vs[i]?=some v:=by
   unfold start at h2;rw [CU (by simpa using hi),Cs] at h2;cases e:vs[i]? with
   | none=>rw [e] at h2;cases h2
   | some a=>rw [e] at h2;cases h2;rfl
  obtain ⟨u,hu,rv⟩:=r.get ha;have hp:ps[i]?=some y:=by
   rw [<- S.pre,K1 (by omega)];exact h1
  have ndP:ps.Nodup:=by rw [<- S.pre];exact S.nd.sublist (List.take_sublist _ _)
  refine ⟨u,rv,?_⟩;rcases S.par y (OR hp) with k | k
  ·exact .inl ⟨k,Qj ndP hp hu k⟩
  ·obtain ⟨c,e⟩:=SS (n:=s.heap.objs.size + 1) k;refine .inr ⟨.inl k,c,e,?_⟩;have q:=x.cell y c e;rw [Qh ndP hp hu (by show scope.names.lookup y≠_;rw [k];decide)] at q;exact q
 ·exact e0.hok.fresh (OD (x.above y c (JQ h)))
 ·unfold start;show _=N.length;rw [Bn,A9,Fj];omega
theorem UW {CX:Ej}{P:A3}{w:Az}{K:PySem.W.Frag}{mg:Str->Option Ae}{base:Heap}{k:Nat}{f:Addr}{name qual:Str}{params:Arguments}{body:List Stmt}{scope:AX}{dV kV doc pm cdv ct oc:Ae}{an od:Option Addr}
  {osl:Array (Option Ae)}{N ps:List Str}{sp:Sp} (lk:K.lookup f=some ⟨oc,od,.func (IM name qual params body scope dV kV doc pm an cdv ct),osl⟩) (hcd:N2 K cdv qual=true) (S:FnScope N ps scope)
  (len:∀ vs H Q E,sp vs H Q E->vs.length=ps.length)
  (hbody:∀ (A:AW) (outer:List Env) (s:Ah) (H:Hp) (vs:List V) (Q:VK) (E:XK),Room k (A.deeper (FP qual scope s.heap.objs.size f cdv))->sp vs H Q E ->
   ∃ t,Dt (Be CX P w K mg base N qual scope f cdv A outer s H E) body t/\t { nx:=λ _ H'=>Q .non H',rt:=Q } (start N vs) H):
  FnOk P w K mg base CX (k + 1) f (IM name qual params body scope dV kV doc pm an cdv ct) ps sp:=by
 refine ⟨len,λ A outer s H args us vs Q E hr e0 hb r hsp=>?_⟩;have hl:=len _ _ _ _ hsp;have KX:K.In s.heap:=e0.mod.kin.keeps λ b o e=>(e0.bs b o e).1;have lim:s.heap.NoLimit:=e0.mod.nolimit.keeps λ b o e=>(e0.bs b o e).1;have hkind:∀ y∈ps.zip us,scope.names.lookup y.1=some .local\/(scope.names.lookup y.1=some .cell/\((CG (s.heap.objs.size + 1) scope.names []).lookup y.1).isSome=true):=λ ⟨n,v⟩ hy=>by
  rcases S.par n (OK hy).1 with q | q
  ·exact .inl q
  ·exact .inr ⟨q,PySem.W.cellsFrom_some _ _ _ (.inl q)⟩
 refine codeAny_call_function hr.depth (KX _ _ lk) rfl S.co S.gen rfl (PySem.W.codeRec_of KX hcd) (hb _ _ _ _ ?_);refine wpAny_newFunctionEnv_cells S.kind hkind λ env he s1 x=>?_;subst he;refine ⟨lim.keeps x.toInCall.keep,codeAny_func ?_⟩;obtain ⟨t,ht,hq⟩:=hbody A outer s H vs Q E (hr.deeper _) hsp;have I:Inv (Be CX P w K mg base N qual scope f cdv A outer s H E) [] (start N vs) H s1:=Zg S hr.hd e0 hl r x;refine DE (ht [] s1 (start N vs) H _ I hq) (λ fl s' hs=>?_) λ e s' hs=>hs;have fin:∀ {σ':St}{H':Hp}{v:V}{u:Ae},Inv (Be CX P w K mg base N qual scope f cdv A outer s H E) [] σ' H' s'->RelV v u->Q v H'->CE outer P w H s Q u s':=
  λ {σ' H' v u} J rv q=>⟨v,H',J.os,J.bare,J.base,J.hok,rv,q⟩
 cases fl with
 | ret u=>
  obtain ⟨v,σ',H',J,rv,q⟩:=hs;exact fin J rv q
 | next=>
  obtain ⟨σ',H',J,q⟩:=hs;exact fin (v:=V.non) (u:=Value.none) J rfl q
 | brk=>
  obtain ⟨_,_,_,q⟩:=hs;exact DC q
 | cont=>
  obtain ⟨_,_,_,q⟩:=hs;exact DC q
section
variable {X:Cx}{x:Str}{p pos:Pos}{e:Expr}{es:List Expr}{t:TA}{id T:String}{r:List V->Hp->VK->Prop}
def NS (r:List V->Hp->VK->Prop) (t:TA):TE:=λ σ H Q=>t σ H λ vs H1=>r vs H1 Q
def GB (hc:zzh X (.builtin id) r) (hg:Gl X x) (hm:X.mg x=none) (hv:HA x=some (.builtin id)) (ha:PA X (e::es) t) (hn:x ≠ "__name__" := by decide) (hdb:(x == ("__debug__" : Str))=false:=by decide)
  (he:Ax (e::es) X.env=(false,eval e X.env)::Ax es X.env:=by rfl) (hpl:(Cz pos (Ax es X.env)).any (·.1)=false:=by rfl):PE X (.Call (.Name x p) (e::es) [] pos) (NS r t):=by
 intro pins s σ H Q I h;refine LP (JF I hg hm hv ?_ hn hdb);exact PyProof.Rows.callWith_builtin1 (Ay (ha pos pins s σ H _ I h) λ us s1 ⟨vs,H1,I1,r1,q1⟩=>hc pins s1 σ H1 vs us Q I1 r1 q1) he hpl
def Nb (hc:zzh X (.type T) r) (hg:Gl X x) (hm:X.mg x=none) (hv:HA x=some (.type T)) (ha:PA X (e::es) t) (hn:x ≠ "__name__" := by decide) (hdb:(x == ("__debug__" : Str))=false:=by decide)
  (he:Ax (e::es) X.env=(false,eval e X.env)::Ax es X.env:=by rfl) (hpl:(Cz pos (Ax es X.env)).any (·.1)=false:=by rfl):PE X (.Call (.Name x p) (e::es) [] pos) (NS r t):=by
 intro pins s σ H Q I h;refine LP (JF I hg hm hv ?_ hn hdb);exact NO (Ay (ha pos pins s σ H _ I h) λ us s1 ⟨vs,H1,I1,r1,q1⟩=>hc pins s1 σ H1 vs us Q I1 r1 q1) he hpl
end
end L2
namespace HT
open PySem PyProof.Rows
section
open PySem.SeqAt
open PySem.AutoSeq1 (wpAny_loadPart')
open PySem.MeetsSeq PySem.MeetsSeq2 PySem.MeetsSeq3
end
section
variable {prog:A3}{w:Az}{A:AW}{E:Ae->Ah->Prop}{s:Ah}
def cat_tup {t b:Addr}{vs ws:List Ae}{Q:Ae->Ah->Prop} (ht:IsTup s.heap t vs.toArray) (hb:IsTup s.heap b ws.toArray) (hv:vs≠[])
  (h1:ws=[]->Q (.ref t) s) (h2:ws≠[]->Q (.ref s.heap.objs.size) { s with heap:=s.heap.push { cls:=.type "tuple",data:=.seq (vs++ws).toArray } })
  (hsz:vs.length + ws.length<=An):Aq (Ap prog w) A (Dz .Add (.ref t) (.ref b)) Q E s:=by
 obtain ⟨⟨cls,dd,data,sl⟩,ho,hc,n,hd⟩:=id ht;obtain ⟨⟨cls2,dd2,data2,sl2⟩,ho2,hc2,n2,hd2⟩:=id hb;simp only at hc hd hc2 hd2;subst hc hd hc2 hd2;have e:vs.toArray++ws.toArray=(vs++ws).toArray:=by simp
 by_cases hw:ws=[]
 ·exact concat_meets ⟨_,ho,rfl⟩ ⟨_,ho2,rfl⟩ N8 seq_tuple_add NJ NK (NM _ _)
   (tuple_addW1 t b vs.toArray ws.toArray n n2 dd dd2 sl sl2 (by simpa using hv) (by simp [hw])) ⟨ho,ho2,h1 hw⟩
 ·refine concat_meets ⟨_,ho,rfl⟩ ⟨_,ho2,rfl⟩ N8 seq_tuple_add NJ NK (NM _ _)
   (tuple_addW2 t b vs.toArray ws.toArray n n2 dd dd2 sl sl2 (by simpa using hv) (by simpa using hw) (by rw [BA,BA];exact hsz)) ⟨ho,ho2,?_⟩
  rw [e];exact h2 hw
def sIx (n d:Nat):Option Int->Nat
 | none=>d
 | some v=>if v < 0 then (v + (n:Int)).toNat else min v.toNat n
theorem VF (n d:Nat) (hd:d<=n) (o:Option Int):sIx n d o<=n:=by
 cases o with
 | none=>exact hd
 | some v=>
  show (if v < 0 then (v + (n:Int)).toNat else min v.toNat n)<=n;by_cases hv:v < 0
  ·rw [if_pos hv];omega
  ·rw [if_neg hv];exact OM _ _
def RT (v:Int) (n d:Nat):(if v < 0 then max (v + (n:Int)) 0 else min v (n:Int))=((sIx n d (some v):Nat):Int):=by
 show (if v < 0 then max (v + (n:Int)) 0 else min v (n:Int))=(((if v < 0 then (v + (n:Int)).toNat else min v.toNat n):Nat):Int);by_cases hv:v < 0
 ·simp only [if_pos hv];omega
 ·simp only [if_neg hv];omega
def ZC (lo hi:Option Int) (n:Nat):NN lo hi 1 (n:Int)=(((sIx n 0 lo:Nat):Int),((sIx n n hi:Nat):Int)):=by
 have h1:¬ ((1:Int) < 0):=by omega
 unfold NN;simp only [h1,if_false];refine Prod.ext ?_ ?_
 ·cases lo with
  | none=>rfl
  | some v=>exact RT v n 0
 ·cases hi with
  | none=>rfl
  | some v=>exact RT v n n
def Z4 (i j:Nat):LR (i:Int) (j:Int) 1=j - i:=by
 unfold LR;have h1:(1:Int) > 0:=by omega
 simp only [h1,if_true,Int.ediv_one];split <;> omega
theorem Q0 {v:Ae}{o:Option Int}{Q:Option Int->Ah->Prop} (p:IsPart v o) (h:Q o s):Aq (Ap prog w) A (Builtin.Slice.slicePartIndex v) Q E s:=by
 cases p with
 | none=>exact slicePart_none h
 | int i t=>exact slicePart_int h
def Ua {sl:Addr}{vl vu:Ae}{lo hi:Option Int}{n:Nat}{Q:Int×Int×Nat->Ah->Prop} (hs:s.heap.IsSliceOf sl vl vu .none) (pl:IsPart vl lo) (pu:IsPart vu hi)
  (h:Q (((sIx n 0 lo:Nat):Int),1,sIx n n hi - sIx n 0 lo) s):Aq (Ap prog w) A (Q2 (.ref sl) (pure (n:Int))) Q E s:=by
 obtain ⟨os,hos,hcs,hds⟩:=id hs;unfold Q2 Builtin.Slice.sliceFields;refine AS (AS (wpAny_field hos hds (x:=vl) rfl (AS (wpAny_field hos hds (x:=vu) rfl (AS (wpAny_field hos hds (x:=.none) rfl (Bw ?_)))))));refine AS (slicePart_none ?_);show Aq _ _ (if ((1:Int) == 0)=true then _ else _) _ _ s;rw [if_neg (by decide)];refine AS (Q0 pl (AS (Q0 pu (AS (Bw ?_)))));show Aq _ _ (match NN lo hi 1 (n:Int) with | (lo,hi)=>pure (lo,(1:Int),LR lo hi 1)) _ _ s;rw [ZC lo hi n];show Aq _ _ (pure (((sIx n 0 lo:Nat):Int),(1:Int),LR ((sIx n 0 lo:Nat):Int) ((sIx n n hi:Nat):Int) 1)) _ _ s;rw [Z4];exact Bw h
def Ym (xs:Array Ae) (i k:Nat):((Bb k).filterMap λ (m:Nat)=>xs[((i:Int) + (m:Int) * 1).toNat]?).toArray=((xs.toList.drop i).take k).toArray:=by
 have e:(λ (m:Nat)=>xs[((i:Int) + (m:Int) * 1).toNat]?)=λ m=>xs[i + m]?:=by
  funext m
  have:((i:Int) + (m:Int) * 1).toNat=i + m:=by omega
  rw [this]
 rw [e]
 have:=pick_run xs i k
 rw [List.filterMap_map] at this;have e2:((λ x=>xs[x]?) ∘ λ x=>i + x)=λ m=>xs[i + m]?:=rfl;rw [e2] at this;rw [this]
def getItem_tuple_cut {t sl:Addr}{items:Array Ae}{vl vu:Ae}{lo hi:Option Int}{Q:Ae->Ah->Prop} (ht:IsTup s.heap t items) (hs:s.heap.IsSliceOf sl vl vu .none) (pl:IsPart vl lo) (pu:IsPart vu hi)
  (hw:¬ (sIx items.size 0 lo=0/\sIx items.size items.size hi=items.size))
  (h:Q (.ref s.heap.objs.size) { s with heap:=s.heap.push { cls:=.type "tuple",data:=.seq ((items.toList.drop (sIx items.size 0 lo)).take (sIx items.size items.size hi - sIx items.size 0 lo)).toArray } })
  (hsz:items.size<=An):Aq (Ap prog w) A (getItem (.ref t) (.ref sl)) Q E s:=by
 have htake:sizeOk (.seq ((items.toList.drop (sIx items.size 0 lo)).take (sIx items.size items.size hi - sIx items.size 0 lo)).toArray):=by
  show ((items.toList.drop (sIx items.size 0 lo)).take (sIx items.size items.size hi - sIx items.size 0 lo)).toArray.size<=An;rw [BA,EM,Jf,Ky];omega
 have hj:sIx items.size items.size hi<=items.size:=VF _ _ (Bc _) hi;obtain ⟨os,hos,hcs,hds⟩:=id hs;have hTs:s.TypeIs (.ref sl) "slice" := ⟨os,hos,hcs⟩
 unfold getItem
 try with_reducible refine LL ?_
 first | refine AS (Bw ?_) | skip
 refine AS (wpAny_sequenceKey ht.typeIs (by decide) ?_);refine AS (wpAny_callSpecial?_slot (name:=Str.ofString "__getitem__") ht.typeIs Q4
  (wpAny_call_entry Q4 ht.typeIs entry_tuple_getitem ?_ (args_tuple_getitem _ _)))
 show Aq _ _ (Builtin.Tuple.tupleItemsOf (.ref t) >>= _) _ _ s;refine AS (tupleItemsOf_ ht ?_);refine AS (wpAny_typeOf hTs ?_);rw [if_pos (by decide)];refine AS (Ua hs pl pu ?_);have hno:¬ ((((sIx items.size 0 lo:Nat):Int) == 0 && (1:Int) == 1 && (sIx items.size items.size hi - sIx items.size 0 lo) == items.size)=true):=by
  intro q;rw [AL,AL] at q;have q1:((sIx items.size 0 lo:Nat):Int)=0:=eq_of_beq q.1.1;have q2:sIx items.size items.size hi - sIx items.size 0 lo=items.size:=eq_of_beq q.2;exact hw ⟨by omega,by omega⟩
 show Aq _ _ (if (((sIx items.size 0 lo:Nat):Int) == 0 && (1:Int) == 1 && (sIx items.size items.size hi - sIx items.size 0 lo) == items.size)=true then _ else _) _ _ s;rw [if_neg hno,Ym]
 first
  | exact AS (m:=LQ _) (JP (Bw ⟨_,rfl,Bw h⟩) htake)
  | exact AS (m:=LQ _) (JP (AS (Bw (Bw ⟨_,rfl,Bw h⟩))) htake)
  | exact AS (AS (m:=LQ _) (JP (Bw (Bw ⟨_,rfl,Bw h⟩)) htake))
  | exact AS (AS (m:=LQ _) (JP (Bw ⟨_,rfl,Bw h⟩) htake))
end
end HT
namespace L2
open PySem PySem.Spec PyProof.Rows
abbrev TO:=St->Hp->(Option Int->Hp->Prop)->Prop
def PO (X:Cx) (e:Option Expr) (t:TO):Prop:=
 ∀ (pins:List (Addr×Obj)) (s:Ah) (σ:St) (H:Hp) (Q:Option Int->Hp->Prop),Inv X pins σ H s->t σ H Q ->
  Aq (Ap X.prog X.w) X.A (evalPart e X.env) (λ u s'=>∃ o H',Inv X pins σ H' s'/\IsPart u o/\Q o H') X.xe s
def Sz:TO:=λ _ H Q=>Q none H
def Rj (t:TE):TO:=λ σ H Q=>t σ H λ x H1=>∃ i,x=.int i/\Q (some i) H1
section
variable {X:Cx}{e:Expr}{te:TE}{lo hi:Option Expr}{tl th:TO}{pos p2:Pos}
def SN:PO X none Sz:=by
 intro pins s σ H Q I h;rw [evalPart_none];exact Bw ⟨none,H,I,.none,h⟩
def Lw (h:PE X e te):PO X (some e) (Rj te):=by
 intro pins s σ H Q I hw;rw [evalPart_some];refine Ay (h pins s σ H _ I hw) λ u s1 ⟨x,H1,I1,r1,q1⟩=>?_;obtain ⟨i,rfl,q⟩:=q1;obtain ⟨t,rfl⟩:=r1;exact ⟨some i,H1,I1,.int i t,q⟩
def SlR (X:Cx) (r:V->Option Int->Option Int->Hp->VK->Prop):Prop:=
 ∀ (pins:List (Addr×Obj)) (s:Ah) (σ:St) (H:Hp) (x:V) (v vl vu:Ae) (lo hi:Option Int) (sl:Addr) (Q:VK),Inv X pins σ H s->RelV x v->s.heap.IsSliceOf sl vl vu .none->IsPart vl lo->IsPart vu hi->r x lo hi H Q ->
  ∃ T id,typeLookup (.type T) "__getitem__" = pure (some (.builtin id))/\s.TypeIs v T/\Aq (Ap X.prog X.w) X.A (getItem v (.ref sl)) (EP X pins σ Q) X.xe s
def SlR.or {r r':V->Option Int->Option Int->Hp->VK->Prop} (h:SlR X r) (h':SlR X r'):SlR X (λ x lo hi H Q=>r x lo hi H Q\/r' x lo hi H Q):=by
 intro pins s σ H x v vl vu lo hi sl Q I rx hs pl pu q;rcases q with q | q
 ·exact h pins s σ H x v vl vu lo hi sl Q I rx hs pl pu q
 ·exact h' pins s σ H x v vl vu lo hi sl Q I rx hs pl pu q
def Q7 (r:V->Option Int->Option Int->Hp->VK->Prop) (te:TE) (tl th:TO):TE:=λ σ H Q=>te σ H λ x H1=>tl σ H1 λ l H2=>th σ H2 λ u H3=>r x l u H3 Q
def MQ {r:V->Option Int->Option Int->Hp->VK->Prop} (hr:SlR X r) (he:PE X e te) (hl:PO X lo tl) (hu:PO X hi th):PE X (.Subscript e (.Slice lo hi none p2) pos) (Q7 r te tl th):=by
 intro pins s σ H Q I h;refine Subscript_ (Ay (he pins s σ H _ I h) λ v s1 ⟨x,H1,I1,r1,q1⟩=>?_);refine wpAny_Slice (Ay (hl pins s1 σ H1 _ I1 q1) λ vl s2 ⟨l,H2,I2,pl,q2⟩=>Ay (hu pins s2 σ H2 _ I2 q2) λ vu s3 ⟨u,H3,I3,pu,q3⟩=>?_);rw [evalPart_none];refine Bw ?_;have I4:Inv X pins σ H3 { s3 with heap:=s3.heap.push { cls:=.type "slice",data:=.fields #[vl,vu,.none] } }:=I3.kept (t':=s3.toks) λ b ob q=>CP _ q;obtain ⟨T,id,hT,ht,hg⟩:=hr pins { s3 with heap:=s3.heap.push { cls:=.type "slice",data:=.fields #[vl,vu,.none] } } σ H3 x v vl vu l u s3.heap.objs.size Q I4 r1 (Heap.IsSliceOf.new ..) pl pu q3;show Aq (Ap X.prog X.w) X.A (subscriptTail e (.Slice lo hi none p2) v (.ref s3.heap.objs.size)) (EP X pins σ Q) X.xe { s3 with heap:=s3.heap.push { cls:=.type "slice",data:=.fields #[vl,vu,.none] } };exact tail_any (ops:=[.ref s3.heap.objs.size,v]) ht hT hg (by with_unfolding_all rfl)
def C9 (xs:List V) (lo hi:Option Int):List V:=(xs.drop (HT.sIx xs.length 0 lo)).take (HT.sIx xs.length xs.length hi - HT.sIx xs.length 0 lo)
def P5 (xs:List V) (lo hi:Option Int):(C9 xs lo hi).length<=xs.length:=by
 unfold C9;rw [EM,Jf];omega
def JW (K:PySem.W.Frag):V->Option Int->Option Int->Hp->VK->Prop:=λ x lo hi H Q=>∃ a xs,x=.ref a/\CA K H a xs /\
 ¬ (HT.sIx xs.length 0 lo=0/\HT.sIx xs.length xs.length hi=xs.length)/\∀ p,H p=none->Q (.ref p) (Ao H p (.tup (C9 xs lo hi)))
def qbs:SlR X (JW X.K):=by
 intro pins s σ H x v vl vu lo hi sl Q I rx hs pl pu h;obtain ⟨a,xs,rfl,hx,hw,q⟩:=h;cases rx;obtain ⟨its,r,ht,hz⟩:=I.tuple hx;have hlen:its.toArray.size=xs.length:=by rw [BA];exact r.length.symm
 refine ⟨"tuple",_,PyProof.Rows.slot_tuple_getitem.lookup,ht.typeIs,?_⟩;refine HT.getItem_tuple_cut ht hs pl pu (by rw [hlen];exact hw) ?_ (by rw [hlen];exact hz);rw [hlen];refine ⟨.ref s.heap.objs.size,_,I.laid (t':=s.toks) (o:=.tup (C9 xs lo hi)) (λ b ob q=>CP _ q) (Bc _) ?_,rfl,q _ (I.hok.fresh (Bc _))⟩;exact ⟨CT (P5 xs lo hi) hz,_,(r.drop (HT.sIx xs.length 0 lo)).take (HT.sIx xs.length xs.length hi - HT.sIx xs.length 0 lo),IsTup.new _ _⟩
def UE (K:PySem.W.Frag):R2:=λ x y H Q=>∃ a b xs ys,x=.ref a/\y=.ref b/\CA K H a xs/\CA K H b ys/\xs≠[]/\xs.length + ys.length<=An /\
 (ys=[]->Q (.ref a) H)/\(ys≠[]->∀ p,H p=none->Q (.ref p) (Ao H p (.tup (xs++ys))))
theorem Vals.nil_iff {xs:List V}{us:List Ae} (r:Vals xs us):us=[]↔xs=[]:=by
 cases r with
 | nil=>simp
 | cons _ _=>simp
def qii:OpR X (Dz .Add) (UE X.K):=by
 intro pins s σ H x y v u Q I rx ry h;obtain ⟨a,b,xs,ys,rfl,rfl,ha,hb,hx,hz,q1,q2⟩:=h;cases rx;cases ry;obtain ⟨its,r1,p1,_⟩:=I.tuple ha;obtain ⟨its2,r2,p2,_⟩:=I.tuple hb;refine HT.cat_tup p1 p2 (λ z=>hx (r1.nil_iff.mp z)) (λ z=>⟨.ref a,H,I,rfl,q1 (r2.nil_iff.mp z)⟩) (λ z=>?_) (by rw [<- r1.length,<- r2.length];exact hz);refine ⟨.ref s.heap.objs.size,_,I.laid (t':=s.toks) (o:=.tup (xs++ys)) (λ b ob q=>CP _ q) (Bc _) ?_,rfl,q2 (λ w=>z (r2.nil_iff.mpr w)) _ (I.hok.fresh (Bc _))⟩;exact ⟨by rw [Bn];exact hz,_,r1.append r2,IsTup.new _ _⟩
end
def Bh (n:Nat) (i:Int):Option Nat:=if 0<=i then (if i < n then some i.toNat else none) else if -(n:Int)<=i then some (i + n).toNat else none
def Bj {α:Type} (xs:List α) (i:Int):Option α:=(Bh xs.length i).bind λ j=>xs[j]?
def Su {n:Nat}{i:Int}{j:Nat} (h:Bh n i=some j):seqIndex? i n=some j/\j < n/\-(n:Int)<=i/\i < n:=by
 unfold Bh at h;by_cases h0:0<=i
 ·rw [if_pos h0] at h;by_cases h1:i < n
  ·rw [if_pos h1] at h;have e:i.toNat=j:=Option.some.inj h;exact ⟨by rw [seqIndex_of h0 h1,e],by omega,by omega,h1⟩
  ·rw [if_neg h1] at h;cases h
 ·rw [if_neg h0] at h;by_cases h1:-(n:Int)<=i
  ·rw [if_pos h1] at h;have e:(i + n).toNat=j:=Option.some.inj h;exact ⟨by rw [seqIndex_neg (by omega) h1,e],by omega,h1,by omega⟩
  ·rw [if_neg h1] at h;cases h
theorem Nf {α:Type}{xs:List α}{i:Int}{v:α} (h:Bj xs i=some v):∃ j,seqIndex? i xs.length=some j/\xs[j]?=some v/\j < xs.length/\-(xs.length:Int)<=i/\i < xs.length:=by
 unfold Bj at h;cases e:Bh xs.length i with
 | none=>rw [e] at h;cases h
 | some j=>
  rw [e] at h;obtain ⟨h1,h2,h3,h4⟩:=Su e;exact ⟨j,h1,h,h2,h3,h4⟩
def Lz (b:Expr):Prop:=∀ o i,subscripted b false o i=operate [o,i] (getItem o i)
def IxR (X:Cx) (r:R2):Prop:=
 ∀ (value slice:Expr) (pins:List (Addr×Obj)) (s:Ah) (σ:St) (H:Hp) (x y:V) (v u:Ae) (Q:VK),Inv X pins σ H s->RelV x v->RelV y u->r x y H Q ->
  subscripted slice false v u=operate [v,u] (getItem v u)->Aq (Ap X.prog X.w) X.A (subscriptTail value slice v u) (EP X pins σ Q) X.xe s
def TV (X:Cx) (id:String) (r:V->List V->Hp->VK->Prop):Prop:=
 ∀ (pins:List (Addr×Obj)) (s:Ah) (σ:St) (H:Hp) (x:V) (xs:List V) (v:Ae) (us:List Ae) (Q:VK),Inv X pins σ H s->RelV x v->Vals xs us->r x xs H Q ->
  Aq (Ap X.prog X.w) X.A (call (.builtin id) (v::us)) (EP X pins σ Q) X.xe s
section
variable {X:Cx}{a b:Expr}{ta tb:TE}{pos:Pos}
def IxR.or {r r':R2} (h:IxR X r) (h':IxR X r'):IxR X (λ x y H Q=>r x y H Q\/r' x y H Q):=by
 intro value slice pins s σ H x y v u Q I rx ry q hs;rcases q with q | q
 ·exact h value slice pins s σ H x y v u Q I rx ry q hs
 ·exact h' value slice pins s σ H x y v u Q I rx ry q hs
def Kf {r:R2} (hr:IxR X r) (ha:PE X a ta) (hb:PE X b tb) (hs:Lz b):PE X (.Subscript a b pos) (FV r ta tb):=by
 intro pins s σ H Q I h;exact Subscript_ (Ii ha hb I h λ v u s2 x y H2 I2 rx ry q=>hr a b pins s2 σ H2 x y v u Q I2 rx ry q (hs _ _))
def EF (K:PySem.W.Frag):R2:=λ x y H Q=>∃ p xs i v,x=.ref p/\y=.int i/\BU K H p xs/\Bj xs i=some v/\Q v H
def JZ (K:PySem.W.Frag):R2:=λ x y H Q=>∃ p xs i v,x=.ref p/\y=.int i/\CA K H p xs/\Bj xs i=some v/\Q v H
def Ka:R2:=λ x y H Q=>∃ z i c,x=.str z/\y=.int i/\z.length<=An/\Bj z.cps.toList i=some c/\Q (.str ⟨#[c]⟩) H
def zpq:IxR X (EF X.K):=by
 intro value slice pins s σ H x y v u Q I rx ry h hs;obtain ⟨p,xs,i,z,rfl,rfl,hq,he,q⟩:=h;cases rx;obtain ⟨t,rfl⟩:=ry;obtain ⟨its,r,pl,hz⟩:=I.list hq;obtain ⟨j,h1,h2,h3,h4,h5⟩:=Nf he;obtain ⟨w,ew,rw'⟩:=r.get h2;have hl:=r.length;have hn:=Ho;have fin:EP X pins σ Q w s:=⟨z,H,I,rw',q⟩
 by_cases h0:0<=i
 ·have hj:i.toNat=j:=by
   rw [seqIndex_of h0 h5] at h1;exact Option.some.inj h1
  exact item_listR pl.isList h0 (by omega) (by rw [hj];simpa using ew) fin hs
 ·have hj:(i + (its.toArray.size:Int)).toNat=j:=by
   rw [seqIndex_neg (by omega) h4] at h1;rw [BA,<- hl];exact Option.some.inj h1
  exact subscriptTail_builtinR (x:=w) pl.isList.typeIs slot_list_getitem.lookup
   (wpAny_getItem_list_neg (Q:=λ r s'=>r=w/\EP X pins σ Q r s') pl.isList (by omega) (by rw [BA] <;> omega) (by omega) (by rw [hj];simpa using ew) ⟨rfl,fin⟩) hs
def qlj:IxR X (JZ X.K):=by
 intro value slice pins s σ H x y v u Q I rx ry h hs;obtain ⟨p,xs,i,z,rfl,rfl,hq,he,q⟩:=h;cases rx;obtain ⟨t,rfl⟩:=ry;obtain ⟨its,r,pl,hz⟩:=I.tuple hq;obtain ⟨j,h1,h2,h3,h4,h5⟩:=Nf he;obtain ⟨w,ew,rw'⟩:=r.get h2;have hl:=r.length;have hn:=Ho;have fin:EP X pins σ Q w s:=⟨z,H,I,rw',q⟩
 exact subscriptTail_builtinR (x:=w) pl.typeIs slot_tuple_getitem.lookup
  (getItem_tuple (j:=j) (Q:=λ r s'=>r=w/\EP X pins σ Q r s') pl (by omega) (by omega) (by rw [BA,<- hl];exact h1) (by simpa using ew) ⟨rfl,fin⟩) hs
def Vi:IxR X Ka:=by
 intro value slice pins s σ H x y v u Q I rx ry h hs;obtain ⟨z,i,c,rfl,rfl,hz,he,q⟩:=h;obtain ⟨t,rfl⟩:=rx;obtain ⟨t',rfl⟩:=ry;obtain ⟨j,h1,h2,h3,h4,h5⟩:=Nf he;have hl:z.cps.toList.length=z.length:=by simp [Str.length]
 rw [hl] at h1 h4 h5;have hn:=Ho;exact tail_any (typeIs_str s z t) slot_str_getitem.lookup (getItem_str (c:=c) (by
  have e1:decide (i < -(2 ^ 63:Int))=false:=decide_eq_false (by omega);have e2:decide (i ≥ 2 ^ 63)=false:=decide_eq_false (by omega);rw [e1,e2,Bool.or_false]) (by rw [h1];simpa using h2) ⟨.str ⟨#[c]⟩,H,I.tok _,⟨_,rfl⟩,q⟩) hs
def Uu (K:PySem.W.Frag):R2:=λ x y H Q=>EF K x y H Q\/JZ K x y H Q\/Ka x y H Q
def R7:IxR X (Uu X.K):=zpq.or (qlj.or Vi)
def ZG (its:List Ae) (n j:Nat) (u:Ae):JH (·.setIfInBounds j u) { cls:=.type "list",data:=.seq its.toArray n }={ cls:=.type "list",data:=.seq (its.set j u).toArray n }:=by
 simp [JH]
def Inv.lst {pins:List (Addr×Obj)}{σ:St}{H:Hp}{s:Ah}{p:Addr}{xs:List V} (I:Inv X pins σ H s) (h:H p=some (.lst xs)):
  ∃ (its:List Ae) (n:Nat),Vals xs its/\s.heap.get? p=some { cls:=.type "list",data:=.seq its.toArray n }/\xs.length<=An:=by
 obtain ⟨z,its,n,r,e⟩:=I.hok p _ h;exact ⟨its,n,r,e,z⟩
def Inv.lstUpd {pins:List (Addr×Obj)}{σ:St}{H:Hp}{s:Ah}{p:Addr}{xs ys:List V}{its its':List Ae}{n n':Nat}{f:Obj->Obj} (I:Inv X pins σ H s) (h:H p=some (.lst xs))
  (ho:s.heap.get? p=some { cls:=.type "list",data:=.seq its.toArray n }) (hf:f { cls:=.type "list",data:=.seq its.toArray n }={ cls:=.type "list",data:=.seq its'.toArray n' }) (r:Vals ys its') (hz:ys.length<=An) (t:Nat):
  Inv X pins σ (Ao H p (.lst ys)) { s with heap:=s.heap.update p f,toks:=t }:=by
 have e:(s.heap.update p f).get? p=some { cls:=.type "list",data:=.seq its'.toArray n' }:=by
  rw [Heap.get?_update_self f ho (by rw [hf] <;> rfl),hf]
 refine I.write (x:=p) (e:=p) (by rw [h];trivial) (.inl rfl) (λ b u hb q=>(Heap.get?_update_other _ _ (Bv hb)).trans q) ⟨_,e⟩ ?_;exact ⟨hz,its',n',r,e⟩
def Kg:V->V->V->Hp->(Hp->Prop)->Prop:=λ o i v H Q=>∃ p xs k j,o=.ref p/\i=.int k/\H p=some (.lst xs)/\Bh xs.length k=some j/\Q (Ao H p (.lst (xs.set j v)))
def Lg:PSet X Kg:=by
 intro pins s σ H o i v ov iv u Q I ro ri rv h;obtain ⟨p,xs,k,j,rfl,rfl,hp,hj,q⟩:=h;cases ro;obtain ⟨t,rfl⟩:=ri;obtain ⟨its,n,r,ho,hz⟩:=I.lst hp;obtain ⟨h1,h2,h3,h4⟩:=Su hj;have hl:=r.length;have hn:=Ho;have I':Inv X pins σ (Ao H p (.lst (xs.set j v))) { s with heap:=s.heap.update p (JH (·.setIfInBounds j u)) }:=
  I.lstUpd hp ho (ZG its n j u) (r.set rv j) (by rw [C1];exact hz) s.toks
 by_cases h0:0<=k
 ·have hk:k.toNat=j:=by
   rw [seqIndex_of h0 h4] at h1;exact Option.some.inj h1
  exact PySem.W.ki_setAt ho h0 (by omega) (by rw [BA,<- hl];exact h4) (by rw [hk];exact ⟨_,I',q⟩)
 ·have hk:(k + (its.toArray.size:Int)).toNat=j:=by
   rw [seqIndex_neg (by omega) h3] at h1;rw [BA,<- hl];exact Option.some.inj h1
  exact PySem.W.ki_setBack ho (by omega) (by rw [BA,<- hl];exact h3) (by omega) (by rw [hk];exact ⟨_,I',q⟩)
def Ug (lo hi:Option Int) (n:Nat):(Hz lo hi none n).1=((HT.sIx n 0 lo:Nat):Int)/\(Hz lo hi none n).2.1=((HT.sIx n n hi:Nat):Int)/\(Hz lo hi none n).2.2=1:=by
 refine ⟨?_,?_,rfl⟩
 ·cases lo with
  | none=>simp [Hz,HT.sIx]
  | some i=>
   simp only [Hz,HT.sIx,Tq,show (1:Int) > 0 by decide,if_true];by_cases h:i < 0
   ·simp only [h,if_true] <;> omega
   ·simp only [h,if_false] <;> omega
 ·cases hi with
  | none=>simp [Hz,HT.sIx]
  | some i=>
   simp only [Hz,HT.sIx,Tq,show (1:Int) > 0 by decide,if_true];by_cases h:i < 0
   ·simp only [h,if_true] <;> omega
   ·simp only [h,if_false] <;> omega
def Ur (its:List Ae) (lo hi:Option Int):slicePick its.toArray lo hi none=((its.drop (HT.sIx its.length 0 lo)).take (HT.sIx its.length its.length hi - HT.sIx its.length 0 lo)).toArray:=by
 obtain ⟨h1,h2,h3⟩:=Ug lo hi its.toArray.size;unfold slicePick;rw [h1,h2,h3];simp only [sliceRange_one,pick_run,BA] <;> rfl
def JY (K:PySem.W.Frag):V->Option Int->Option Int->Hp->VK->Prop:=λ x lo hi H Q=>∃ a xs,x=.ref a/\BU K H a xs/\∀ p,H p=none->Q (.ref p) (Ao H p (.lst (C9 xs lo hi)))
def zfy:SlR X (JY X.K):=by
 intro pins s σ H x v vl vu lo hi sl Q I rx hs pl pu h;obtain ⟨a,xs,rfl,hx,q⟩:=h;cases rx;obtain ⟨its,r,ht,hz⟩:=I.list hx;have hlen:=r.length;refine ⟨"list",_,slot_list_getitem.lookup,ht.isList.typeIs,?_⟩;refine wpAny_getItem_list_slice ht.isList hs pl pu .none (by simp) ?_ (by rw [BA] <;> omega);rw [Ur,<- hlen];refine ⟨.ref s.heap.objs.size,_,I.laid (t':=s.toks) (o:=.lst (C9 xs lo hi)) (λ b ob q=>CP _ q) (Bc _) ?_,rfl,q _ (I.hok.fresh (Bc _))⟩;exact ⟨CT (P5 xs lo hi) hz,_,0,(r.drop (HT.sIx xs.length 0 lo)).take (HT.sIx xs.length xs.length hi - HT.sIx xs.length 0 lo),DX _ rfl⟩
def zfq:zzh X (.builtin "len") (λ xs H Q=>∃ p ys,xs=[.ref p]/\(BU X.K H p ys\/CA X.K H p ys)/\Q (.int ys.length) H):=by
 intro pins s σ H xs us Q I r h;obtain ⟨p,ys,rfl,hq,q⟩:=h;obtain ⟨u,rfl,rx⟩:=Ey r;cases rx;have hn:=Ho;rcases hq with hq | hq
 ·obtain ⟨its,r',pl,hz⟩:=I.list hq;have hlen:=r'.length;exact Calls.call_len_list pl.isList (by simp only [BA] <;> omega) ⟨.int ys.length,H,I.tok _,⟨s.toks + 1,by rw [BA,hlen]⟩,q⟩
 ·obtain ⟨its,r',pl,hz⟩:=I.tuple hq;have hlen:=r'.length;exact len_tuple pl (by simp only [BA] <;> omega) ⟨.int ys.length,H,I.tok _,⟨s.toks + 1,by rw [BA,hlen]⟩,q⟩
def Uo:zzh X (.builtin "len") (λ xs H Q=>∃ z,xs=[.str z]/\z.length<=An/\Q (.int z.length) H):=by
 intro pins s σ H xs us Q I r h;obtain ⟨z,rfl,hz,q⟩:=h;obtain ⟨u,rfl,t,rfl⟩:=Ey r;have hn:=Ho;exact len_str (by omega) ⟨.int z.length,H,I.tok _,⟨_,rfl⟩,q⟩
def zzh.or {f:Ae}{r r':List V->Hp->VK->Prop} (h:zzh X f r) (h':zzh X f r'):zzh X f (λ xs H Q=>r xs H Q\/r' xs H Q):=by
 intro pins s σ H xs us Q I rs q;rcases q with q | q
 ·exact h pins s σ H xs us Q I rs q
 ·exact h' pins s σ H xs us Q I rs q
def Up:zzh X (.type "list") (λ xs H Q=>∃ p ys,xs=[.ref p]/\(BU X.K H p ys\/CA X.K H p ys)/\∀ l,H l=none->Q (.ref l) (Ao H l (.lst ys))):=by
 intro pins s σ H xs us Q I r h;obtain ⟨p,ys,rfl,hq,q⟩:=h;obtain ⟨u,rfl,rx⟩:=Ey r;cases rx;have fin:∀ (its:List Ae),Vals ys its->ys.length<=An->∀ (h':Heap) (c':Nat),(∀ b o',s.heap.get? b=some o'->h'.get? b=some o') ->
   h'.get? s.heap.objs.size=some { cls:=.type "list",dict:=none,data:=.seq its.toArray c',slots:=#[] }->EP X pins σ Q (.ref s.heap.objs.size) { s with heap:=h' }:=λ its r' hz h' c' kp e=>
  ⟨.ref s.heap.objs.size,_,I.laid (t':=s.toks) kp (Bc _) (show zxx X.prog X.w _ h' _ (.lst ys) from ⟨hz,its,c',r',e⟩),rfl,q _ (I.hok.fresh (Bc _))⟩
 rcases hq with hq | hq
 ·obtain ⟨its,r',pl,hz⟩:=I.list hq;have hlen:=r'.length;obtain ⟨o,ho,hc,n,hd⟩:=pl.isList;exact call_list_seq p (.inl rfl) ho hc hd (λ h' c' kp e=>fin its r' hz h' c' kp e) (by simp only [BA] <;> omega)
 ·obtain ⟨its,r',pl,hz⟩:=I.tuple hq;have hlen:=r'.length;obtain ⟨o,ho,hc,n,hd⟩:=pl;exact call_list_seq p (.inr rfl) ho hc hd (λ h' c' kp e=>fin its r' hz h' c' kp e) (by simp only [BA] <;> omega)
def Uc:zzh X (.type "tuple") (λ xs H Q=>∃ p ys,xs=[.ref p]/\((BU X.K H p ys/\∀ l,H l=none->Q (.ref l) (Ao H l (.tup ys)))\/(CA X.K H p ys/\Q (.ref p) H))):=by
 intro pins s σ H xs us Q I r h;obtain ⟨p,ys,rfl,h⟩:=h;obtain ⟨u,rfl,rx⟩:=Ey r;cases rx;rcases h with ⟨hq,q⟩ | ⟨hq,q⟩
 ·obtain ⟨its,r',pl,hz⟩:=I.list hq;have hlen:=r'.length;refine call_tuple_list pl.isList (λ h' kp=>?_) (by simp only [BA] <;> omega);have I1:Inv X pins σ H { s with heap:=h' }:=I.kept (t':=s.toks) kp;have I2:Inv X pins σ (Ao H h'.objs.size (.tup ys)) { s with heap:=h'.push { cls:=.type "tuple",data:=.seq its.toArray } }:=
   I1.laid (t':=s.toks) (λ b o e=>CP _ e) (Bc _) (show zxx X.prog X.w _ _ _ (.tup ys) from ⟨hz,its,r',IsTup.new _ _⟩)
  exact ⟨.ref h'.objs.size,_,I2,rfl,q _ (I1.hok.fresh (Bc _))⟩
 ·obtain ⟨its,r',pl,hz⟩:=I.tuple hq;exact call_tuple_same pl ⟨.ref p,H,I,rfl,q⟩
def LS (K:PySem.W.Frag) (T:String) (x:V) (H:Hp):Prop:=match x with
 | .str _=>T = "str"
 | .int _=>T = "int"
 | .ref p=>(T = "list" /\ ∃ xs,BU K H p xs)\/(T = "tuple" /\ ∃ o,K.lookup p=some o/\o.cls=.type "tuple" /\ o.dict=none) \/
   (T = "dict" /\ ((∃ kvs,H p=some (.dK kvs))\/∃ kvs,H p=some (.dT kvs)))\/(T = "set" /\ ∃ S n,H p=some (.set S n))
 | _=>False
theorem RG {pins:List (Addr×Obj)}{σ:St}{H:Hp}{s:Ah}{T:String}{x:V}{v:Ae} (I:Inv X pins σ H s) (r:RelV x v) (ty:LS X.K T x H):
  s.TypeIs v T/\∀ a,v=.ref a->∃ ob,s.heap.get? a=some ob/\ob.dict=none:=by
 cases x with
 | str z=>
  obtain ⟨t,rfl⟩:=r;cases (show T = "str" from ty);exact ⟨typeIs_str s z t,λ _ e=>nomatch e⟩
 | int i=>
  obtain ⟨t,rfl⟩:=r;cases (show T = "int" from ty);exact ⟨typeIs_int s i t,λ _ e=>nomatch e⟩
 | ref p=>
  cases r;rcases ty with ⟨rfl,xs,hq⟩ | ⟨rfl,o,hk,hc,hd⟩ | ⟨rfl,hk⟩ | ⟨rfl,S,n,hk⟩
  ·obtain ⟨its,_,pl,_⟩:=I.list hq;refine ⟨pl.isList.typeIs,λ a e=>?_⟩;cases e;obtain ⟨o,n,e,c,hd,_⟩:=pl;exact ⟨o,e,hd⟩
  ·refine ⟨⟨o,I.kIn p o hk,hc⟩,λ a e=>?_⟩;cases e;exact ⟨o,I.kIn _ o hk,hd⟩
  ·have z:∃ o,s.heap.get? p=some o/\o.ExactDict:=by
    rcases hk with ⟨kvs,hk⟩ | ⟨kvs,hk⟩
    ·obtain ⟨_,_,_,_,o,_,_,e,ex,_⟩:=I.hok p _ hk;exact ⟨o,e,ex⟩
    ·obtain ⟨_,_,_,_,o,_,_,e,ex,_⟩:=I.hok p _ hk;exact ⟨o,e,ex⟩
   obtain ⟨o,e,ex⟩:=z;refine ⟨⟨o,e,ex.1⟩,λ a e2=>?_⟩;cases e2;exact ⟨o,e,ex.2.1⟩
  ·obtain ⟨o,_,_,_,e,ex,_⟩:=I.hok p _ hk;refine ⟨⟨o,e,ex.1⟩,λ a e2=>?_⟩;cases e2;exact ⟨o,e,ex.2.1⟩
 | _=>exact DC ty
def HH (K:PySem.W.Frag) (T:String) (r:V->List V->Hp->VK->Prop) (to:TE):TE:=λ σ H Q=>to σ H λ x H1=>LS K T x H1/\r x [] H1 Q
def LV (K:PySem.W.Frag) (T:String) (r:V->List V->Hp->VK->Prop) (to:TE) (t:TA):TE:=λ σ H Q=>to σ H λ x H1=>LS K T x H1/\t σ H1 λ xs H2=>r x xs H2 Q
variable {o e:Expr}{es:List Expr}{to:TE}{t:TA}{name:Str}{apos cpos:Pos}{T id:String}{r:V->List V->Hp->VK->Prop}
def RC (pa:PlainAttrs T) (slot:Slot T name id) (hty:typeOf (.builtin id)=pure (.type "method_descriptor")) (hm:TV X id r) (ho:PE X o to)
  (hbase:attributeBase o name X.env (eval o X.env)=eval o X.env:=by rfl) (hline:(apos.endLine == cpos.line)=true:=by rfl):PE X (.Call (.Attribute o name apos) [] [] cpos) (HH X.K T r to):=by
 intro pins s σ H Q I h;refine wpAny_Call_method0_late hbase hline (Ay (ho pins s σ H _ I h) λ v s1 ⟨x,H1,I1,r1,ty,q1⟩=>?_);obtain ⟨h1,h2⟩:=RG I1 r1 ty;exact ⟨T,id,pa,slot,hty,h1,h2,Calls.callWith_builtin rfl (PySem.evalArgs_none (hm pins s1 σ H1 x [] v [] Q I1 r1 .nil q1))⟩
def Oc (pa:PlainAttrs T) (slot:Slot T name id) (hty:typeOf (.builtin id)=pure (.type "method_descriptor")) (hm:TV X id r) (ho:PE X o to) (ha:PA X (e::es) t)
  (hbase:attributeBase o name X.env (eval o X.env)=eval o X.env:=by rfl)
  (hfew:((Cz cpos (Ax (e::es) X.env)).all (λ x=>!x.1) && (backToKw cpos (keywordEach [] X.env)).all (λ x=>x.1.isSome)
   && decide ((e::es).length + ([]:List Hx).length + (if ([]:List Hx).isEmpty then 0 else 1) < 30))=true:=by rfl)
  (hline:(apos.endLine == cpos.line)=true:=by rfl) (hs:Ax (e::es) X.env=(false,eval e X.env)::Ax es X.env:=by rfl) (hplain:(Cz cpos (Ax es X.env)).any (·.1)=false:=by rfl):
  PE X (.Call (.Attribute o name apos) (e::es) [] cpos) (LV X.K T r to t):=by
 intro pins s σ H Q I h;refine wpAny_Call_method_late hbase hfew hline rfl (Ay (ho pins s σ H _ I h) λ v s1 ⟨x,H1,I1,r1,ty,q1⟩=>?_);obtain ⟨h1,h2⟩:=RG I1 r1 ty;refine ⟨T,id,pa,slot,hty,h1,h2,?_⟩;have hA:=ha cpos pins s1 σ H1 _ I1 q1;rw [hs] at hA ⊢;refine Calls.callWith_builtin (by show (false || (Cz cpos (Ax es X.env)).any (·.1))=false;rw [hplain] <;> rfl) (Calls.evalArgs_plain ?_);exact Ay hA λ us s2 ⟨vs,H2,I2,r2,q2⟩=>hm pins s2 σ H2 x vs v us Q I2 r1 r2 q2
end
def Ph (X:Cx) (id:String) (r:V->List V->Hp->VK->Prop):Prop:=
 ∀ (pins:List (Addr×Obj)) (s:Ah) (σ:St) (H:Hp) (x:V) (xs:List V) (v:Ae) (us:List Ae) (Q:VK),Inv X pins σ H s->RelV x v->Vals xs us->r x xs H Q ->
  Aq (Ap X.prog X.w) X.A (call (.builtin id) (v::us)) (EP X pins σ Q) X.xe s
theorem Vals.one:∀ {x:V}{us:List Ae},Vals [x] us->∃ u,us=[u]/\RelV x u
 | _,_,.cons r .nil=>⟨_,rfl,r⟩
theorem Vals.zero:∀ {us:List Ae},Vals [] us->us=[]
 | _,.nil=>rfl
theorem Vals.dropLast {xs:List V}{us:List Ae} (h:Vals xs us):Vals xs.dropLast us.dropLast:=by
 induction h with
 | nil=>exact .nil
 | cons r t ih=>
  cases t with
  | nil=>exact .nil
  | cons q t'=>exact .cons r ih
theorem Vals.rep {xs:List V}{us:List Ae} (h:Vals xs us):∀ k:Nat,Vals (A6 k xs).flatten (A6 k us).flatten
 | 0=>.nil
 | k + 1=>by
  rw [Gk,Gk,HZ,HZ];exact Vals.append h (Vals.rep h k)
theorem Jp {α:Type} (l:List α):l.eraseIdx (l.length - 1)=l.dropLast:=by
 induction l with
 | nil=>rfl
 | cons a r ih=>
  cases r with
  | nil=>rfl
  | cons b r=>
   have e:(a::b::r).length - 1=((b::r).length - 1) + 1:=by
    have h1:(a::b::r).length=r.length + 2:=rfl;have h2:(b::r).length=r.length + 1:=rfl;omega
   rw [e,List.eraseIdx_cons_succ,ih]
   all_goals rfl
theorem Qq (its:List Ae):∀ (k:Nat) (acc:List Ae),
  OC (λ x1 x2=>x1++x2) acc.toArray (A6 k its.toArray)=(acc++(A6 k its).flatten).toArray
 | 0,acc=>by simp
 | k + 1,acc=>by
  have e:acc.toArray++its.toArray=(acc++its).toArray:=by simp
  have e2:(acc++its)++(A6 k its).flatten=acc++(A6 (k + 1) its).flatten:=by
   rw [Gk,HZ,MB]
  rw [<- e2,<- Qq its k (acc++its),<- e,Gk,Ti]
section
variable {X:Cx}{pins:List (Addr×Obj)}{σ:St}{H:Hp}{s:Ah}{l b:Addr}{xs ys zs:List V}
def Inv.lset {its its':List Ae}{n:Nat}{f:Array Ae->Array Ae}{t':Nat} (I:Inv X pins σ H s) (hH:H l=some (.lst xs))
  (e:s.heap.get? l=some { cls:=.type "list",data:=.seq its.toArray n }) (hf:f its.toArray=its'.toArray) (hv:Vals ys its') (hz:ys.length<=An):
  Inv X pins σ (Ao H l (.lst ys)) { s with heap:=s.heap.update l (JH f),toks:=t' }:=by
 have q:=PySem.IsL.update e f;rw [hf] at q;refine I.write (x:=l) (e:=l) (by rw [hH];exact trivial) (.inl rfl) (λ b' u hb hu=>(Heap.get?_update_other s.heap (JH f) (Bv hb)).trans hu) ⟨_,q⟩ ?_;exact ⟨hz,its',_,hv,q⟩
def Inv.lnew {its:List Ae}{t':Nat} (I:Inv X pins σ H s) (hv:Vals ys its) (hz:ys.length<=An):
  Inv X pins σ (Ao H s.heap.objs.size (.lst ys)) { s with heap:=s.heap.push { cls:=.type "list",data:=.seq its.toArray },toks:=t' }:=
 I.laid (λ _ _ q=>CP _ q) (Bc _) ⟨hz,its,0,hv,DX _ rfl⟩
def Inv.fresh (I:Inv X pins σ H s):H s.heap.objs.size=none:=I.hok.fresh (Bc _)
def Inv.lstM (I:Inv X pins σ H s) (hH:H l=some (.lst xs)):xs.length<=An/\∃ (its:List Ae) (n:Nat),Vals xs its/\xs.length=its.length/\s.heap.get? l=some { cls:=.type "list",data:=.seq its.toArray n }:=by
 obtain ⟨z,its,n,r,e⟩:=I.hok l _ hH;exact ⟨z,its,n,r,r.length,e⟩
def YB {n:Nat} (h:n<=An):NL n=false:=by
 unfold NL;exact decide_eq_false (by omega)
end
section
variable {X:Cx}
def Nq:V->List V->Hp->VK->Prop:=λ x vs H Q=>∃ l xs y,x=.ref l/\vs=[y]/\H l=some (.lst xs)/\xs.length < An/\Q .non (Ao H l (.lst (xs++[y])))
def Na:Ph X "list.append" Nq:=by
 intro pins s σ H x vs v us Q I rx rv h;obtain ⟨l,xs,y,rfl,rfl,hH,hz,q⟩:=h;cases rx;obtain ⟨u,rfl,ru⟩:=rv.one;obtain ⟨z,its,n,r,hl,e⟩:=I.lstM hH;refine JI F.slot_list_append ⟨_,e,rfl⟩ F.entry_list_append (F.args_list_append_2 _ _) (PySem.list_append l its.toArray n u (by rw [BA];omega)) ⟨e,?_⟩;refine ⟨.non,_,I.lset (its':=its++[u]) hH e (by simp) (r.append (.cons ru .nil)) ?_,rfl,q⟩;rw [Bn,Ia];omega
def HM:V->List V->Hp->VK->Prop:=λ x vs H Q=>∃ l xs y,x=.ref l/\vs=[]/\H l=some (.lst xs)/\xs[xs.length - 1]?=some y/\Q y (Ao H l (.lst xs.dropLast))
def R9:Ph X "list.pop" HM:=by
 intro pins s σ H x vs v us Q I rx rv h;obtain ⟨l,xs,y,rfl,rfl,hH,hy,q⟩:=h;cases rx;have hus:=rv.zero;subst hus;obtain ⟨z,its,n,r,hl,e⟩:=I.lstM hH;obtain ⟨u,hu,ru⟩:=r.get hy;have hy':its.toArray[its.toArray.size - 1]?=some u:=by
  show its.toArray[its.length - 1]?=some u;rw [<- OS,<- hl];exact hu
 refine JI F.slot_list_pop ⟨_,e,rfl⟩ F.entry_list_pop (F.args_list_pop_1 _) (MeetsSeq.list_pop_last l its.toArray n u hy' (by rw [BA];omega)) ⟨e,?_⟩;refine ⟨y,_,I.lset (its':=its.dropLast) hH e ?_ r.dropLast ?_,ru,q⟩
 ·show its.toArray.eraseIdxIfInBounds (its.toArray.size - 1)=its.dropLast.toArray;rw [BA,List.eraseIdxIfInBounds_toArray,Jp]
 ·rw [Kz];omega
def NX:R2:=λ x y H Q=>∃ l b xs zs,x=.ref l/\y=.ref b/\H l=some (.lst xs)/\H b=some (.lst zs)/\xs.length + zs.length<=An/\∀ p,H p=none->Q (.ref p) (Ao H p (.lst (xs++zs)))
def qgf:OpR X (Dz .Add) NX:=by
 intro pins s σ H x y v u Q I rx ry h;obtain ⟨l,b,xs,zs,rfl,rfl,hH,hB,hz,q⟩:=h;cases rx;cases ry;obtain ⟨z,its,n,r,hl,e⟩:=I.lstM hH;obtain ⟨z2,its2,n2,r2,hl2,e2⟩:=I.lstM hB;refine PySem.P.add_list e e2 ?_ (by rw [BA,BA];omega);have ea:its.toArray++its2.toArray=(its++its2).toArray:=by simp
 rw [ea];exact ⟨.ref _,_,I.lnew (t':=s.toks) (r.append r2) (by rw [Bn];omega),rfl,q _ I.fresh⟩
def NW:R2:=λ x y H Q=>∃ l k xs,x=.ref l/\y=.int k/\H l=some (.lst xs)/\-(2 ^ 63)<=k/\k < 2 ^ 63/\xs.length * k.toNat<=An /\
 ∀ p,H p=none->Q (.ref p) (Ao H p (.lst (A6 k.toNat xs).flatten))
theorem W8 {α:Type} (xs:List α) (k:Nat):(A6 k xs).flatten.length=k * xs.length:=by
 induction k with
 | zero=>simp
 | succ k ih=>rw [Gk,HZ,Bn,ih,Nat.succ_mul,Nat.add_comm]
def qkx:OpR X (Dz .Mult) NW:=by
 intro pins s σ H x y v u Q I rx ry h;obtain ⟨l,k,xs,rfl,rfl,hH,h1,h2,hz,q⟩:=h;cases rx;obtain ⟨t,rfl⟩:=ry;obtain ⟨z,its,n,r,hl,e⟩:=I.lstM hH;have hlen:its.toArray.size * k.toNat<=An:=by rw [BA,<- hl];exact hz
 have hcap:¬ its.toArray.size * k.toNat > (2 ^ 63 - 1) / 8:=by
  have:(An:Nat)<=(2 ^ 63 - 1) / 8:=by decide
  omega
 have hfit:¬ (!Builtin.List.listFitsIndex k)=true:=by
  rw [fitsIndex_both h1 h2];exact C2
 have hlong:¬ NL (its.toArray.size * k.toNat)=true:=by
  rw [YB hlen];exact C2
 have hnew:OC (λ x1 x2=>x1++x2) #[] (A6 (if its.toArray.isEmpty=true then 0 else k.toNat) its.toArray)=(A6 k.toNat its).flatten.toArray:=by
  have f0:∀ m:Nat,OC (λ x1 x2=>x1++x2) #[] (A6 m its.toArray)=(A6 m its).flatten.toArray:=λ m=>by
   have:=Qq its m []
   rw [Ku] at this;exact this
  rw [f0];cases its with
  | nil=>simp
  | cons a r'=>rw [if_neg (by simp)]
 refine wpAny_binaryOp_repeat_ref (T := "list") (U := "int") (by decide) ⟨_,e,rfl⟩ (λ s'=>typeIs_int s' k t) noFill_list_mul F.fills_int_mul F.slot_int_rmul repeat_list F.slot_int_index.lookup
  (JI F.slot_int_rmul (typeIs_int s k t) F.entry_int_rmul (F.args_int_rmul_2 _ _) (int___rmul___int_list k t l its.toArray n)
   ⟨e,rfl,⟨_,e,rfl⟩,JI F.slot_list_mul ⟨_,e,rfl⟩ F.entry_list_mul (F.args_list_mul_2 _ _) (AutoListH.list___mul___list_int_3 l its.toArray n k t hfit hcap hlong) ⟨e,?_⟩⟩)
 rw [hnew];exact ⟨.ref _,_,I.lnew (t':=s.toks) (r.rep k.toNat) (by rw [W8,Td];exact hz),rfl,q _ I.fresh⟩
end
section
variable {prog:A3}{w:Az}{A:AW}{E:Ae->Ah->Prop}{s:Ah}
end
section
variable {X:Cx}
end
end L2
namespace Att
open PySem PySem.W PySem.Calls PyProof.Rows
theorem Uh {P:Params}{h:Heap}:∀ (ns:List Int) (vs:List Ae),WellAll P h vs (ns.map WData.int)->IntsAre vs ns:=by
 intro ns;induction ns with
 | nil=>
  intro vs w;rw [Kq] at w;cases w;exact .nil
 | cons n ns ih=>
  intro vs w;rw [C8] at w;cases w with
  | cons a b=>
   cases a;exact .cons _ _ (ih _ b)
theorem Zp {l:OpenLaw}{n:Nat} (hn:l.most=some n) {P:Params}{h:Heap}{args:List WData}{vals:List Ae}
  (hpre:l.row.toRowW.claim.pre args=true) (hwl:WellAll P h vals args):
  ∃ a vs ns,vals=[Value.ref a]/\args=[WData.list (ns.map WData.int)]/\h.get? a=some { cls:=.type "list",data:=.seq vs.toArray }/\IntsAre vs ns/\ns.length<=n:=by
 have hsh:WShape.hasAll [] args [.list .int]=true:=(pre_splitW hpre).1;have hc:l.pre.holds [] { args:=args }=true:=(pre_splitW hpre).2;obtain ⟨d,r,rfl,h1,h2⟩:=hasAllW_cons hsh;obtain rfl:=hasAllW_nil h2;obtain ⟨xs,rfl,h3⟩:=hasW_list h1;obtain ⟨ns,rfl⟩:=items_int h3;have hlen:ns.length<=n:=by
  unfold OpenLaw.pre at hc;have h4:(WTm.not (.lt (.lit (.int (n:Int))) (.len (.arg 0)))).holds [] { args:=[.list (ns.map .int)] }=true:=by
   have h4:=(holds_andW hc).1;rw [hn] at h4;exact h4
  have h5:=condW_of h4 (w_not (w_lt w_lit (w_len_list (w_arg rfl))));rw [A9] at h5;refine Nat.le_of_not_lt λ q=>?_;have q':(n:Int) < ((ns.length:Nat):Int):=by omega
  first
   | (rw [decide_eq_true q'] at h5;exact absurd h5 (by decide))
   | (simp at h5;omega)
 cases hwl with
 | cons w1 w2=>
  cases w2;cases w1 with
  | list ho hall=>exact ⟨_,_,ns,rfl,rfl,ho,Uh ns _ hall,hlen⟩
def Z0 (l:OpenLaw) (args:List WData):l.row.toRowW.claim.post args (.bool true) args=true:=
 postW_of (r:=l.row.toRowW) (X:=(true == true))
  (show WShape.has [] (.bool true) .bool=true by first | rfl | decide | simp [WShape.has,WShape.arms,WShape.armsAll])
  (show (WTm.eq .res (.lit (.bool true))).value [] { args:=args,res:=some (.bool true),after:=args }=some (.bool (true == true)) from w_eq_bool (w_res rfl) w_lit) rfl
def attach_call {l:OpenLaw}{n:Nat}{q:A3}{loose:List Str}{XP:(Str->Option Ae)->Heap->Prop}{YP:Az->Heap->Prop}{d:DefRec}
  (hn:l.most=some n) (hdf:d.params.defaults=[])
  (call:∀ (w:Az) (s₀ s₁:Ah) (mg mb:Str->Option Ae) (fa:Addr) (o:Obj) (pm cd doc:Ae) (a:Addr) (vs:List Ae) (ns:List Int),
   Ground q loose [] XP w s₀ mg mb s₁.heap->YP w s₁.heap ->
   s₁.heap.get? fa=some o->o.data=.func (docDef d.name d.params d.body d.scope pm cd doc)->s₁.heap.CodeRec cd d.name->mg d.name=some (.ref fa) ->
   s₁.heap.get? a=some { cls:=.type "list",data:=.seq vs.toArray }->IntsAre vs ns->ns.length<=n->s₁.gens=#[] ->
   GO (Ap l.prog w) Hy (.call (.ref fa) ⟨[.ref a],[]⟩) (λ r s'=>r=.ok (.ret (.bool true))/\OldK s₁.heap s'.heap/\s'.os=s₁.os/\Eo s'.gens) s₁):
  WalkO q loose XP YP l.row.toRowW d [] (λ f vs=>PySem.call f vs):=by
 intro w s₀ s₁ mg mb G Y fa o pm cd doc dV kV ho hd hcd hD hmg hg args vals as hpre hlay hrd hwl hlo;obtain rfl:dV=.none:=Dflts.none hD hdf;obtain rfl:kV=.none:=Dflts.noKw hD;obtain ⟨a,vs,ns,rfl,rfl,hobj,hints,hlen⟩:=Zp hn hpre hwl;refine enter_call (LJ (call w s₀ s₁ mg mb fa o pm cd doc a vs ns G Y ho (fd_plain hd) hcd hmg hobj hints hlen hg) λ r s' hq=>?_);obtain ⟨rfl,h2,h3,h4⟩:=hq;exact ⟨.inl ⟨.bool true,.bool true,[],rfl,λ _=>rfl,.bool true,Z0 l _,λ _=>⟨List.Pairwise.nil,λ _ hm=>(nomatch hm)⟩⟩,h2,h3,h4⟩
section
variable {prog:A3}{w:Az}{A:AW}{E:Ae->Ah->Prop}{s:Ah}{K:Frag}
end
end Att
namespace L2
open PySem PySem.Spec PyProof.Rows
theorem Py:∀ {vs:List Ae}{ns:List Int},IntsAre vs ns->Vals (ns.map V.int) vs
 | _,_,.nil=>.nil
 | _,_,.cons n t h=>.cons ⟨t,rfl⟩ (Py h)
def Gw (H:Hp):Prop:=∀ b,H b=none\/∃ o xs,H b=some (.frz o (.lst xs))
theorem Y8 {P:A3}{w:Az}{K:PySem.W.Frag}{mg mb:Str->Option Ae}{CX:Ej}{k:Nat}{fa a:Addr}{fd:C0}{x:Str}{sp:Sp}{s₁:Ah}{vs:List Ae}{ns:List Int}
  (KX:K.In s₁.heap) (hns:s₁.heap.Ns DF mg) (hb:s₁.heap.Ns builtinsNs mb) (hbb:∀ x:Str,x ≠ "__name__" -> mb x=HA x) (hlim:s₁.heap.NoLimit) (hg:s₁.gens=#[])
  (ha:s₁.heap.get? a=some { cls:=.type "list",data:=.seq vs.toArray }) (hi:IntsAre vs ns) (hl:ns.length<=An) (hr:Room k Hy)
  (F:∀ base:Heap,K.In base->base.Ns DF mg->FnOk P w K mg base CX k fa fd [x] sp) (hbind:∀ (s:Ah) (u:Ae),BindsTo s fd ⟨[u],[]⟩ [(x,u)])
  (hsp:∀ H:Hp,Gw H->BU K H a (ns.map V.int)->sp [.ref a] H (λ v _=>v=.bl true) λ _ _ _=>False)
  (hCX:∀ H e s',CX [] H s₁ (λ _ _ _=>False) e s'->False):
  GO (Ap P w) Hy (.call (.ref fa) ⟨[.ref a],[]⟩) (λ r s'=>r=.ok (.ret (.bool true))/\OldK s₁.heap s'.heap/\s'.os=s₁.os/\Eo s'.gens) s₁:=by
 have rv:=Py hi;have lenV:=hi.length;have core:∀ H:Hp,Gw H->BU K H a (ns.map V.int)->HOk P w H s₁.heap->(∀ b,H b≠none->b=a)->(H a≠none->K.lookup a=none) ->
   GO (Ap P w) Hy (.call (.ref fa) ⟨[.ref a],[]⟩) (λ r s'=>r=.ok (.ret (.bool true))/\OldK s₁.heap s'.heap/\s'.os=s₁.os/\Eo s'.gens) s₁:=by
  intro H hO hS hok hA hK;have base_of:∀ {b:Addr}{o:Obj},s₁.heap.get? b=some o->H b=none->(CV s₁.heap H).get? b=some o:=λ e n=>Y7 e n;have noA:∀ {b:Addr}{o:Obj}{es:Array DictEntry}{ep:Nat},s₁.heap.get? b=some o->o.data=.dict es ep->H b=none:=λ {b o es ep} e d=>by
   cases q:H b with
   | none=>rfl
   | some u=>
    have e':b=a:=hA b (by rw [q];simp);subst e';rw [ha] at e;cases e;have d':Data.seq vs.toArray _=Data.dict es ep:=d;cases d'
  have nsK:∀ {b:Addr}{m:Str->Option Ae},s₁.heap.Ns b m->(CV s₁.heap H).Ns b m:=λ {b m} ⟨o,es,ep,e,d,r⟩=>⟨o,es,ep,base_of e (noA e d),d,r⟩
  have hKb:K.In (CV s₁.heap H):=λ b o e=>base_of (KX b o e) (by
   cases q:H b with
   | none=>rfl
   | some u=>
    have e':b=a:=hA b (by rw [q];simp);subst e';rw [hK (by rw [q];simp)] at e;cases e)
  have hM:Mod K mg (CV s₁.heap H):=⟨hKb,nsK hns,⟨mb,nsK hb,hbb⟩,let ⟨mc,h1,h2⟩:=hlim;⟨mc,nsK h1,h2⟩⟩
  have e0:Env0 P w K mg (CV s₁.heap H) Hy [] s₁ H:=⟨rfl,hM,λ b o e=>WD e,Nat.le_of_eq (Ze _ _),trivial,λ b hb=>absurd (show b∈([]:List Addr) from hb) (by simp),hok,.of_eq hg⟩
  refine LJ ((F _ hKb (nsK hns)).run Hy [] s₁ H ⟨[.ref a],[]⟩ [.ref a] [.ref a] _ _ hr e0 (hbind s₁ (.ref a)) (.cons rfl .nil) (hsp H hO hS)) λ r s' h=>?_;cases r with
  | error e=>exact (hCX H e s' h).elim
  | ok fl=>
   cases fl with
   | next=>exact DC h
   | brk=>exact DC h
   | cont=>exact DC h
   | ret u=>
    obtain ⟨v,H',os,bare,un,hok',r',q⟩:=h;have q':v=.bl true:=q;subst q';obtain rfl:u=Value.bool true:=r';refine ⟨rfl,OldK.of_keep λ b o e=>?_,os,bare⟩;cases q:H b with
    | none=>exact un.keep b o e q (by intro z;exact absurd (show b∈([]:List Addr) from z) (by simp)) (by simp)
    | some u=>
     rcases hO b with z | ⟨ob,xs,z⟩
     ·rw [q] at z;cases z
     ·have z2:=un.frzs b ob _ z;obtain ⟨e1,_⟩:=hok b _ z;obtain ⟨e2,_⟩:=hok' b _ z2;rw [e] at e1;cases e1;exact e2
 cases hk:K.lookup a with
 | some o=>
  have e:=KX a o hk;rw [ha] at e;cases e;refine core (λ _=>none) (λ _=>.inl rfl) (.inr ⟨_,vs.toArray,_,hk,rfl,rfl,rfl,by rw [BA,lenV];exact hl,by simpa using rv⟩) (λ b u z=>by have z':(none:Option HO)=some u:=z;cases z') (λ b z=>absurd rfl z) λ z=>absurd rfl z
 | none=>
  refine core (λ b=>if b=a then some (.frz { cls:=.type "list",data:=.seq vs.toArray } (.lst (ns.map V.int))) else none) (λ b=>?_) (.inl (.inr ⟨{ cls:=.type "list",data:=.seq vs.toArray },if_pos rfl⟩)) (λ b u z=>?_) (λ b z=>?_) λ _=>hk
  ·by_cases hb:b=a
   ·exact .inr ⟨_,_,if_pos hb⟩
   ·exact .inl (if_neg hb)
  ·by_cases hb:b=a
   ·have z':=(if_pos hb).symm.trans z;cases z';subst hb;exact ⟨ha,by rw [A9];exact hl,vs,_,rv,ha⟩
   ·have z':=(if_neg hb).symm.trans z;cases z'
  ·by_cases hb:b=a
   ·exact hb
   ·exact absurd (if_neg hb) z
abbrev E0:XK:=λ _ _ _=>False
structure Fun (K:PySem.W.Frag) (x qual:Str) (st:Stmt) (f:Addr) (fd:C0):Prop where
 ex:∃ (oc:Ae) (od:Option Addr) (kV doc pm:Ae) (an:Option Addr) (cdv ct:Ae) (osl:Array (Option Ae)),
  fd=IM x qual (J8 st) (Bp st) (A2 st) .none kV doc pm an cdv ct/\K.lookup f=some ⟨oc,od,.func fd,osl⟩/\N2 K cdv qual=true
 kp:GQ K (.ref f)=true
section
variable {P:A3}{w:Az}{K:PySem.W.Frag}{mg:Str->Option Ae}{base:Heap}
def Fun.binds {x qual:Str}{st:Stmt}{f:Addr}{fd:C0}{ps:List Str} (F:Fun K x qual st f fd)
  (h:∀ (kV doc pm:Ae) (an:Option Addr) (cdv ct:Ae) (us:List Ae),us.length=ps.length->bindArgs (IM x qual (J8 st) (Bp st) (A2 st) .none kV doc pm an cdv ct) ⟨us,[]⟩=pure (ps.zip us)):zjy K fd ps []:=by
 obtain ⟨oc,od,kV,doc,pm,an,cdv,ct,osl,rfl,lk,hcd⟩:=F.ex;exact .all (h kV doc pm an cdv ct)
def Vg {x qual:Str}{st:Stmt}{f:Addr}{oc:Ae}{od an:Option Addr}{osl:Array (Option Ae)}{kV doc pm cdv ct:Ae} (l:K.lookup f=some ⟨oc,od,.func (IM x qual (J8 st) (Bp st) (A2 st) .none kV doc pm an cdv ct),osl⟩)
  (c:N2 K cdv qual=true) (k:GQ K (.ref f)=true):Fun K x qual st f (IM x qual (J8 st) (Bp st) (A2 st) .none kV doc pm an cdv ct):=⟨⟨oc,od,kV,doc,pm,an,cdv,ct,osl,rfl,l,c⟩,k⟩
end
section
variable {X:Cx}
end
end L2
namespace QQ
open PySem PySem.Spec PyProof.Rows L2
abbrev St:=L2.St
def KL (K:Frag) (a:Addr) (xs:List V):Prop:=∃ (o:Obj) (its:Array Ae) (n:Nat),K.lookup a=some o/\o.cls=.type "list" /\ o.dict=none/\o.data=.seq its n/\its.size<=An/\Vals xs its.toList
def Ju {K:Frag}{H:Hp}{a:Addr}{xs:List V} (h:BU K H a xs):LS K "list" (.ref a) H:=.inl ⟨rfl,xs,h⟩
def TZ (z:Str):It:=⟨λ i _=>i < z.cps.size,λ i H v H'=>H'=H/\∃ c,z.cps[i]?=some c/\v=.str ⟨#[c]⟩,λ i _=>z.cps.size<=i⟩
def Mw (z:Str):Bool:=z.cps.all (·< 128)
def ES (K:Frag) (tl:TE):TI:=λ σ H R=>tl σ H λ x H1=>(∃ a,x=.ref a/\(((∃ xs,BU K H1 a xs)/\R (TY K a) H1)\/((∃ xs,CA K H1 a xs)/\R (TX K a) H1)))\/∃ z,x=.str z/\Mw z=true/\R (TZ z) H1
def IW (k:Nat) (wi:TI) (g:TG) (tc:TT) (te:TE):TE:=λ σ H Q=>wi σ H λ J H1=>∀ D,H1 D=none->∃ W:Nat->Nat->List V->Hp->Prop,(∃ m,W 0 m [] (Ao H1 D (.lst [])))/\∀ i m ys H,W i m ys H->H D=some (.lst ys) /\
 ((J.stop i H/\Q (.ref D) H)\/(J.go i H/\∀ x H',J.yld i H x H'->g x (σ++A6 k none) H' λ σ2 H2=>tc σ2 H2 λ b H3=>if b=true then te σ2 H3 λ y H4=>H4 D=some (.lst ys)/\ys.length < An/\∃ m',m' < m/\W (i + 1) m' (ys++[y]) (Ao H4 D (.lst (ys++[y]))) else ∃ m',m' < m/\W (i + 1) m' ys H3))
inductive PV where
 | non | bl (b:Bool) | int (i:Int) | str (x:Str) | lst (xs:List PV) | tup (xs:List PV) | emp | dko | scr (ns:List Int) | dct (kvs:List (List AK×V)) | exn (c:Nat)
 deriving Inhabited
inductive MO where
 | l (xs:List V) | d (kvs:List (List AK×V))
def MO.ho:MO->HO
 | .l xs=>.lst xs
 | .d kvs=>.dT kvs
def Dy (a C:Addr) (h:Heap):Prop:=∃ o vs,h.get? a=some o/\o.cls=.ref C/\o.data=.fields vs
def om:Nat:=1000
def pd (d:Nat):Nat:=if d=om then om else d - 1
def DQ:pd om=om:=rfl
def WJ:pd 0=0:=rfl
mutual
def Own (K:Frag) (H:Hp) (Z:Addr->Prop):PV->Nat->V->List Addr->Prop
 | .non,_,v,fp=>v=.non/\fp=[]
 | .bl b,_,v,fp=>v=.bl b/\fp=[]
 | .int i,_,v,fp=>v=.int i/\fp=[]
 | .str x,_,v,fp=>v=.str x/\fp=[]
 | .emp,_,v,fp=>fp=[]/\∃ a,v=.ref a/\H a=some (.dK [])
 | .dko,_,v,fp=>fp=[]/\∃ a,v=.ref a/\∃ kvs,H a=some (.dK kvs)
 | .scr ns,_,v,fp=>fp=[]/\∃ a,v=.ref a/\((∃ o,H a=some (.frz o (.lst (ns.map V.int))))\/KL K a (ns.map V.int))
 | .exn c,_,v,fp=>fp=[]/\∃ a C,v=.ref a/\BC K c=some C/\H a=some (.ext (Dy a C))
 | .dct kvs,d,v,fp=>∃ a,v=.ref a/\((d=0/\(H a=some (.dT kvs)/\¬ Z a)/\fp=[])\/(d≠0/\H a=some (.dT kvs)/\fp=[a]))
 | .lst xs,d,v,fp=>∃ a vs,v=.ref a/\((d=0/\(H a=some (.lst vs)/\¬ Z a)/\fp=[]/\OwnL K H Z xs 0 vs [])\/(d≠0/\∃ f,H a=some (.lst vs)/\fp=a::f/\a∉f/\OwnL K H Z xs (pd d) vs f))
 | .tup xs,d,v,fp=>∃ a vs,v=.ref a/\H a=some (.tup vs)/\OwnL K H Z xs (pd d) vs fp
def OwnL (K:Frag) (H:Hp) (Z:Addr->Prop):List PV->Nat->List V->List Addr->Prop
 | [],_,vs,fp=>vs=[]/\fp=[]
 | x::xs,d,vs,fp=>∃ v r f1 f2,vs=v::r/\fp=f1++f2/\(∀ a∈f1,a∉f2)/\Own K H Z x d v f1/\OwnL K H Z xs d r f2
end
def Ce (S:Addr->Prop) (H H':Hp):Prop:=∀ a o,H a=some o->¬ S a->H' a=some o
section
variable {K:Frag}{H H':Hp}{Z Z' S:Addr->Prop}
mutual
theorem Own.lsts:∀ (x:PV) (d:Nat) (v:V) (fp:List Addr),Own K H Z x d v fp->∀ a∈fp,∃ o:MO,H a=some o.ho
 | .non,_,_,_,h,a,ha=>by rw [Own] at h;rw [h.2] at ha;cases ha
 | .bl _,_,_,_,h,a,ha=>by rw [Own] at h;rw [h.2] at ha;cases ha
 | .int _,_,_,_,h,a,ha=>by rw [Own] at h;rw [h.2] at ha;cases ha
 | .str _,_,_,_,h,a,ha=>by rw [Own] at h;rw [h.2] at ha;cases ha
 | .emp,_,_,_,h,a,ha=>by rw [Own] at h;rw [h.1] at ha;cases ha
 | .dko,_,_,_,h,a,ha=>by rw [Own] at h;rw [h.1] at ha;cases ha
 | .scr _,_,_,_,h,a,ha=>by rw [Own] at h;rw [h.1] at ha;cases ha
 | .exn _,_,_,_,h,a,ha=>by rw [Own] at h;rw [h.1] at ha;cases ha
 | .dct kvs,d,v,fp,h,a,ha=>by
  rw [Own] at h;obtain ⟨b,_,⟨_,_,e⟩ | ⟨_,hb,e⟩⟩:=h
  ·rw [e] at ha;cases ha
  ·rw [e] at ha;rw [jb6.mp ha];exact ⟨.d kvs,hb⟩
 | .lst xs,d,v,fp,h,a,ha=>by
  rw [Own] at h;obtain ⟨b,vs,_,⟨_,_,e,_⟩ | ⟨_,f,hb,e,_,hl⟩⟩:=h
  ·rw [e] at ha;cases ha
  ·rw [e] at ha;rcases jb3.mp ha with z | z
   ·exact ⟨.l vs,by rw [z];exact hb⟩
   ·exact OwnL.lsts xs _ vs f hl a z
 | .tup xs,d,v,fp,h,a,ha=>by
  rw [Own] at h;obtain ⟨b,vs,_,_,hl⟩:=h;exact OwnL.lsts xs _ vs fp hl a ha
theorem OwnL.lsts:∀ (xs:List PV) (d:Nat) (vs:List V) (fp:List Addr),OwnL K H Z xs d vs fp->∀ a∈fp,∃ o:MO,H a=some o.ho
 | [],_,_,_,h,a,ha=>by rw [OwnL] at h;rw [h.2] at ha;cases ha
 | x::xs,d,vs,fp,h,a,ha=>by
  rw [OwnL] at h;obtain ⟨v,r,f1,f2,_,e,_,h1,h2⟩:=h;rw [e] at ha;rcases jb8.mp ha with z | z
  ·exact Own.lsts x d v f1 h1 a z
  ·exact OwnL.lsts xs d r f2 h2 a z
end
mutual
theorem Own.move (k:Ce S H H') (hS:∀ a,S a->Z a/\∃ o:MO,H a=some o.ho) (hz:∀ a,H a≠none->¬ Z a->¬ Z' a):
  ∀ (x:PV) (d:Nat) (v:V) (fp:List Addr),(∀ a∈fp,¬ S a)->Own K H Z x d v fp->Own K H' Z' x d v fp
 | .non,_,_,_,_,h=>by rw [Own] at h ⊢;exact h
 | .bl _,_,_,_,_,h=>by rw [Own] at h ⊢;exact h
 | .int _,_,_,_,_,h=>by rw [Own] at h ⊢;exact h
 | .str _,_,_,_,_,h=>by rw [Own] at h ⊢;exact h
 | .emp,_,_,_,_,h=>by
  rw [Own] at h ⊢;obtain ⟨e,a,ev,ha⟩:=h;exact ⟨e,a,ev,k a _ ha λ s=>by obtain ⟨_,o,e⟩:=hS a s;rw [ha] at e;cases o <;> cases e⟩
 | .dko,_,_,_,_,h=>by
  rw [Own] at h ⊢;obtain ⟨e,a,ev,kvs,ha⟩:=h;exact ⟨e,a,ev,kvs,k a _ ha λ s=>by obtain ⟨_,o,e⟩:=hS a s;rw [ha] at e;cases o <;> cases e⟩
 | .scr ns,_,_,_,_,h=>by
  rw [Own] at h ⊢;obtain ⟨e,a,ev,⟨o,ha⟩ | ha⟩:=h
  ·exact ⟨e,a,ev,.inl ⟨o,k a _ ha λ s=>by obtain ⟨_,q,e⟩:=hS a s;rw [ha] at e;cases q <;> cases e⟩⟩
  ·exact ⟨e,a,ev,.inr ha⟩
 | .exn c,_,_,_,_,h=>by
  rw [Own] at h ⊢;obtain ⟨e,a,C,ev,hc,ha⟩:=h;exact ⟨e,a,C,ev,hc,k a _ ha λ s=>by obtain ⟨_,q,e⟩:=hS a s;rw [ha] at e;cases q <;> cases e⟩
 | .dct kvs,d,v,fp,hf,h=>by
  rw [Own] at h ⊢;obtain ⟨b,ev,⟨d0,hr,e⟩ | ⟨d0,hb,e⟩⟩:=h
  ·exact ⟨b,ev,.inl ⟨d0,⟨k b _ hr.1 λ s=>hr.2 (hS b s).1,hz b (by rw [hr.1];simp) hr.2⟩,e⟩⟩
  ·exact ⟨b,ev,.inr ⟨d0,k b _ hb (hf b (by rw [e];exact AI)),e⟩⟩
 | .lst xs,d,v,fp,hf,h=>by
  rw [Own] at h ⊢;obtain ⟨b,vs,ev,⟨d0,hr,e,hl⟩ | ⟨d0,f,hb,e,nb,hl⟩⟩:=h
  ·refine ⟨b,vs,ev,.inl ⟨d0,?_,e,OwnL.move k hS hz xs 0 vs [] (λ _ z=>nomatch z) hl⟩⟩;exact ⟨k b _ hr.1 λ s=>hr.2 (hS b s).1,hz b (by rw [hr.1];simp) hr.2⟩
  ·refine ⟨b,vs,ev,.inr ⟨d0,f,k b _ hb (hf b (by rw [e];exact AI)),e,nb,?_⟩⟩;exact OwnL.move k hS hz xs _ vs f (λ a ha=>hf a (by rw [e];exact AA _ ha)) hl
 | .tup xs,d,v,fp,hf,h=>by
  rw [Own] at h ⊢;obtain ⟨b,vs,ev,hr,hl⟩:=h;exact ⟨b,vs,ev,k b _ hr (λ s=>by obtain ⟨_,o,e⟩:=hS b s;rw [hr] at e;cases o <;> cases e),OwnL.move k hS hz xs _ vs fp hf hl⟩
theorem OwnL.move (k:Ce S H H') (hS:∀ a,S a->Z a/\∃ o:MO,H a=some o.ho) (hz:∀ a,H a≠none->¬ Z a->¬ Z' a):
  ∀ (xs:List PV) (d:Nat) (vs:List V) (fp:List Addr),(∀ a∈fp,¬ S a)->OwnL K H Z xs d vs fp->OwnL K H' Z' xs d vs fp
 | [],_,_,_,_,h=>by rw [OwnL] at h ⊢;exact h
 | x::xs,d,vs,fp,hf,h=>by
  rw [OwnL] at h ⊢;obtain ⟨v,r,f1,f2,e1,e,dj,h1,h2⟩:=h;exact ⟨v,r,f1,f2,e1,e,dj,Own.move k hS hz x d v f1 (λ a ha=>hf a (by rw [e];exact AY _ ha)) h1,OwnL.move k hS hz xs d r f2 (λ a ha=>hf a (by rw [e];exact AR _ ha)) h2⟩
end
mutual
theorem Own.freeze (hz:∀ a,Z' a->Z a):∀ (x:PV) (d:Nat) (v:V) (fp:List Addr),(∀ a∈fp,¬ Z' a)->Own K H Z x d v fp->Own K H Z' x 0 v []
 | .non,_,_,_,_,h=>by rw [Own] at h ⊢;exact ⟨h.1,rfl⟩
 | .bl _,_,_,_,_,h=>by rw [Own] at h ⊢;exact ⟨h.1,rfl⟩
 | .int _,_,_,_,_,h=>by rw [Own] at h ⊢;exact ⟨h.1,rfl⟩
 | .str _,_,_,_,_,h=>by rw [Own] at h ⊢;exact ⟨h.1,rfl⟩
 | .emp,_,_,_,_,h=>by rw [Own] at h ⊢;exact ⟨rfl,h.2⟩
 | .dko,_,_,_,_,h=>by rw [Own] at h ⊢;exact ⟨rfl,h.2⟩
 | .scr _,_,_,_,_,h=>by rw [Own] at h ⊢;exact ⟨rfl,h.2⟩
 | .exn _,_,_,_,_,h=>by rw [Own] at h ⊢;exact ⟨rfl,h.2⟩
 | .dct kvs,d,v,fp,hf,h=>by
  rw [Own] at h ⊢;obtain ⟨b,ev,⟨d0,hr,e⟩ | ⟨d0,hb,e⟩⟩:=h
  ·exact ⟨b,ev,.inl ⟨rfl,⟨hr.1,λ z=>hr.2 (hz b z)⟩,rfl⟩⟩
  ·exact ⟨b,ev,.inl ⟨rfl,⟨hb,hf b (by rw [e];exact AI)⟩,rfl⟩⟩
 | .lst xs,d,v,fp,hf,h=>by
  rw [Own] at h ⊢;obtain ⟨b,vs,ev,⟨d0,hr,e,hl⟩ | ⟨d0,f,hb,e,nb,hl⟩⟩:=h
  ·refine ⟨b,vs,ev,.inl ⟨rfl,?_,rfl,OwnL.freeze hz xs 0 vs [] (λ _ z=>nomatch z) hl⟩⟩;exact ⟨hr.1,λ z=>hr.2 (hz b z)⟩
  ·exact ⟨b,vs,ev,.inl ⟨rfl,⟨hb,hf b (by rw [e];exact AI)⟩,rfl,OwnL.freeze hz xs _ vs f (λ a ha=>hf a (by rw [e];exact AA _ ha)) hl⟩⟩
 | .tup xs,d,v,fp,hf,h=>by
  rw [Own] at h ⊢;obtain ⟨b,vs,ev,hr,hl⟩:=h;exact ⟨b,vs,ev,hr,OwnL.freeze hz xs _ vs fp hf hl⟩
theorem OwnL.freeze (hz:∀ a,Z' a->Z a):∀ (xs:List PV) (d:Nat) (vs:List V) (fp:List Addr),(∀ a∈fp,¬ Z' a)->OwnL K H Z xs d vs fp->OwnL K H Z' xs 0 vs []
 | [],_,_,_,_,h=>by rw [OwnL] at h ⊢;exact ⟨h.1,rfl⟩
 | x::xs,d,vs,fp,hf,h=>by
  rw [OwnL] at h ⊢;obtain ⟨v,r,f1,f2,e1,e,dj,h1,h2⟩:=h;exact ⟨v,r,[],[],e1,rfl,λ _ z=>(nomatch z),Own.freeze hz x d v f1 (λ a ha=>hf a (by rw [e];exact AY _ ha)) h1,OwnL.freeze hz xs d r f2 (λ a ha=>hf a (by rw [e];exact AR _ ha)) h2⟩
end
mutual
theorem Own.full:∀ (x:PV) (v:V) (fp:List Addr),Own K H Z x om v fp->Own K H Z' x om v fp
 | .non,_,_,h=>by rw [Own] at h ⊢;exact h
 | .bl _,_,_,h=>by rw [Own] at h ⊢;exact h
 | .int _,_,_,h=>by rw [Own] at h ⊢;exact h
 | .str _,_,_,h=>by rw [Own] at h ⊢;exact h
 | .emp,_,_,h=>by rw [Own] at h ⊢;exact h
 | .dko,_,_,h=>by rw [Own] at h ⊢;exact h
 | .scr _,_,_,h=>by rw [Own] at h ⊢;exact h
 | .exn _,_,_,h=>by rw [Own] at h ⊢;exact h
 | .dct kvs,v,fp,h=>by
  rw [Own] at h ⊢;obtain ⟨b,ev,⟨d0,_⟩ | ⟨d0,hb,e⟩⟩:=h
  ·exact absurd d0 (by decide)
  ·exact ⟨b,ev,.inr ⟨d0,hb,e⟩⟩
 | .lst xs,v,fp,h=>by
  rw [Own] at h ⊢;obtain ⟨b,vs,ev,⟨d0,_⟩ | ⟨d0,f,hb,e,nb,hl⟩⟩:=h
  ·exact absurd d0 (by decide)
  ·exact ⟨b,vs,ev,.inr ⟨d0,f,hb,e,nb,OwnL.full xs vs f hl⟩⟩
 | .tup xs,v,fp,h=>by
  rw [Own] at h ⊢;obtain ⟨b,vs,ev,hr,hl⟩:=h;exact ⟨b,vs,ev,hr,OwnL.full xs vs fp hl⟩
theorem OwnL.full:∀ (xs:List PV) (vs:List V) (fp:List Addr),OwnL K H Z xs om vs fp->OwnL K H Z' xs om vs fp
 | [],_,_,h=>by rw [OwnL] at h ⊢;exact h
 | x::xs,vs,fp,h=>by
  rw [OwnL] at h ⊢;obtain ⟨v,r,f1,f2,e1,e,dj,h1,h2⟩:=h;exact ⟨v,r,f1,f2,e1,e,dj,Own.full x v f1 h1,OwnL.full xs r f2 h2⟩
end
def Own.weak (hz:∀ a,Z' a->Z a) {x:PV}{d:Nat}{v:V}{fp:List Addr} (h:Own K H Z x d v fp):Own K H Z' x d v fp:=
 Own.move (S:=λ _=>False) (λ _ _ h _=>h) (λ _ z=>z.elim) (λ a _ n z=>n (hz a z)) x d v fp (λ _ _ z=>z) h
def OwnL.weak (hz:∀ a,Z' a->Z a) {xs:List PV}{d:Nat}{vs:List V}{fp:List Addr} (h:OwnL K H Z xs d vs fp):OwnL K H Z' xs d vs fp:=
 OwnL.move (S:=λ _=>False) (λ _ _ h _=>h) (λ _ z=>z.elim) (λ a _ n z=>n (hz a z)) xs d vs fp (λ _ _ z=>z) h
end
abbrev Slot:=Option (PV×Nat)
abbrev Ag:=List Slot
inductive Rz (α:Type) where
 | ok (a:α) | exc (c:Nat) | no
def Rz.bind {α β:Type} (r:Rz α) (f:α->Rz β):Rz β:=match r with
 | .ok a=>f a
 | .exc c=>.exc c
 | .no=>.no
abbrev Fx:=Ag->Rz (PV×Nat×Ag)
abbrev Fa:=Ag->Rz (List (PV×Nat)×Ag)
abbrev Fb:=Ag->Rz (Bool×Ag)
structure Fm where
 K:Frag
 Ms:Nat->Bool
 Zo:Addr->Prop
 H₀:Hp
 W:St->Nat->Hp->Prop
 io:Option V
 al:Nat->List Nat
 pn:List (Nat×V):=[]
abbrev AB:=Nat->List Addr
def Fm.Fre (M:Fm) (i:Nat):Prop:=(M.io≠none->i≠0)/\∀ p∈M.pn,p.1≠i
def Zf (M:Fm) (fps:AB):Addr->Prop:=λ a=>M.Zo a\/∃ i,a∈fps i
def Zv (M:Fm) (vs:List Nat) (fps:AB):Addr->Prop:=λ a=>M.Zo a\/∃ i,i∉vs/\a∈fps i
def Za (M:Fm) (fps:AB) (i:Nat):Addr->Prop:=λ a=>M.Zo a\/∃ j,j∉M.al i/\a∈fps j
def Zt (M:Fm) (vs:List Nat) (fps:AB) (fp:List Addr):Addr->Prop:=λ a=>Zv M vs fps a\/a∈fp
def Fm.plus (M:Fm) (fp:List Addr):Fm:={ M with Zo:=λ a=>M.Zo a\/a∈fp }
structure Rep (M:Fm) (ρ:Ag) (σ:St) (H:Hp) (fps:AB):Prop where
 own:∀ i x d,ρ[i]?=some (some (x,d))->∃ v,σ[i]?=some (some v)/\Own M.K H (Za M fps i) x d v (fps i)
 non:∀ i,(∀ p,ρ[i]?≠some (some p))->fps i=[]
 dj:∀ i j,i≠j->∀ a∈fps i,a∉fps j
 zo:∀ i,∀ a∈fps i,¬ M.Zo a
 fr:∀ i,M.Ms i=false->∀ a∈fps i,M.H₀ a=none
 zd:∀ a,M.Zo a->H a≠none
 len:ρ.length=σ.length
 msf:∀ i x d,M.Ms i=true->ρ[i]?=some (some (x,d))->d=om
 h0:∀ a,M.H₀ a≠none->H a≠none
 iov:(∀ v,M.io=some v->σ[0]?=some (some v)/\M.Ms 0=true)/\∀ p∈M.pn,σ[p.1]?=some (some p.2)
def Agr (M:Fm) (ρ ρ':Ag):Prop:=(∀ i,M.Ms i=false->ρ'[i]?=ρ[i]?)/\ρ'.length=ρ.length
structure KD (M:Fm) (H:Hp) (fps:AB) (H':Hp) (fps':AB):Prop where
 keep:Ce (λ a=>∃ i,M.Ms i=true/\a∈fps i) H H'
 dom:∀ a,H a≠none->H' a≠none
 sub:∀ i,∀ a∈fps' i,a∈fps i\/H a=none
 same:∀ i,M.Ms i=false->fps' i=fps i
def Tmps (K:Frag) (H:Hp) (Z:Addr->Prop):List (PV×Nat)->List V->List Addr->Prop
 | [],vs,fp=>vs=[]/\fp=[]
 | (x,d)::xs,vs,fp=>∃ v r f1 f2,vs=v::r/\fp=f1++f2/\(∀ a∈f1,a∉f2)/\Own K H (λ a=>Z a\/a∈f1) x d v f1/\Tmps K H Z xs r f2
structure Temp (M:Fm) (vs:List Nat) (H:Hp) (H':Hp) (fps':AB) (fp:List Addr):Prop where
 new:∀ a∈fp,H a=none
 ndj:∀ a∈fp,¬ Zf M fps' a
section
variable {M:Fm}{ρ ρ':Ag}{σ:St}{H H' H'':Hp}{fps fps' fps'':AB}{vs vs':List Nat}
def Agr.refl:Agr M ρ ρ:=⟨λ _ _=>rfl,rfl⟩
def Agr.trans {ρ'':Ag} (a:Agr M ρ ρ') (b:Agr M ρ' ρ''):Agr M ρ ρ'':=⟨λ i hi=>(b.1 i hi).trans (a.1 i hi),b.2.trans a.2⟩
def KD.refl:KD M H fps H fps:=⟨λ _ _ h _=>h,λ _ h=>h,λ _ _ h=>.inl h,λ _ _=>rfl⟩
def KD.trans (a:KD M H fps H' fps') (b:KD M H' fps' H'' fps''):KD M H fps H'' fps'' where
 keep:=λ x o h n=>b.keep x o (a.keep x o h n) λ ⟨i,hi,hx⟩=>(a.sub i x hx).elim (λ z=>n ⟨i,hi,z⟩) λ z=>by rw [z] at h;cases h
 dom:=λ x h=>b.dom x (a.dom x h)
 sub:=λ i x hx=>(b.sub i x hx).elim (λ z=>a.sub i x z) λ z=>.inr (by
  cases e:H x with
  | none=>rfl
  | some o=>exact absurd z (a.dom x (by rw [e];simp)))
 same:=λ i hi=>(b.same i hi).trans (a.same i hi)
def Za.zf {i:Nat}{a:Addr} (h:Za M fps i a):Zf M fps a:=h.elim .inl λ ⟨j,_,h⟩=>.inr ⟨j,h⟩
def Za.of {i:Nat} (hal:M.al i=[]) {a:Addr} (h:Zf M fps a):Za M fps i a:=h.elim .inl λ ⟨j,h⟩=>.inr ⟨j,(by rw [hal];simp),h⟩
def Rep.own0 (r:Rep M ρ σ H fps) (hal:∀ i,M.al i=[]) (i:Nat) (x:PV) (d:Nat) (e:ρ[i]?=some (some (x,d))):∃ v,σ[i]?=some (some v)/\Own M.K H (Zf M fps) x d v (fps i):=
 let ⟨v,h1,h2⟩:=r.own i x d e;⟨v,h1,h2.weak λ _ h=>Za.of (hal i) h⟩
def Rep.lsts (r:Rep M ρ σ H fps) {i:Nat}{a:Addr} (h:a∈fps i):∃ o:MO,H a=some o.ho:=by
 by_cases hp:∃ p,ρ[i]?=some (some p)
 ·obtain ⟨⟨x,d⟩,e⟩:=hp;obtain ⟨v,_,o⟩:=r.own i x d e;exact Own.lsts x d v _ o a h
 ·rw [r.non i λ p e=>hp ⟨p,e⟩] at h;cases h
def Rep.zdom (r:Rep M ρ σ H fps) {a:Addr} (h:Zf M fps a):H a≠none:=by
 rcases h with h | ⟨i,h⟩
 ·exact r.zd a h
 ·obtain ⟨xs,e⟩:=r.lsts h;rw [e];simp
def Rep.nz (r:Rep M ρ σ H fps) {a:Addr} (h:H a=none):¬ Zf M fps a:=λ z=>r.zdom z h
def Zv.zf {a:Addr} (h:Zv M vs fps a):Zf M fps a:=h.elim .inl λ ⟨i,_,h⟩=>.inr ⟨i,h⟩
def Zv.mono (hv:∀ i∈vs',i∈vs) {a:Addr} (h:Zv M vs fps a):Zv M vs' fps a:=h.elim .inl λ ⟨i,n,h⟩=>.inr ⟨i,λ z=>n (hv i z),h⟩
def Zt.mono (hv:∀ i∈vs',i∈vs) {a:Addr}{fp:List Addr} (h:Zt M vs fps fp a):Zt M vs' fps fp a:=h.elim (λ h=>.inl (h.mono hv)) .inr
def KD.stay (k:KD M H fps H' fps') (r:Rep M ρ σ H fps) (hv:∀ i∈vs,M.Ms i=false) {x:PV}{d:Nat}{v:V}{fp:List Addr} (h:Own M.K H (Zt M vs fps fp) x d v fp) (hf:∀ a∈fp,¬ Zf M fps a):Own M.K H' (Zt M vs fps' fp) x d v fp:=by
 have h1:∀ a,(∃ i,M.Ms i=true/\a∈fps i)->Zt M vs fps fp a/\∃ o:MO,H a=some o.ho:=by
  rintro a ⟨i,hi,ha⟩;exact ⟨.inl (.inr ⟨i,λ z=>(by rw [hv i z] at hi;cases hi),ha⟩),r.lsts ha⟩
 have h2:∀ a,H a≠none->¬ Zt M vs fps fp a->¬ Zt M vs fps' fp a:=by
  intro a hd nz z;rcases z with (z | ⟨i,ni,hx⟩) | z
  ·exact nz (.inl (.inl z))
  ·rcases k.sub i a hx with z | z
   ·exact nz (.inl (.inr ⟨i,ni,z⟩))
   ·exact hd z
  ·exact nz (.inr z)
 exact Own.move k.keep h1 h2 x d v fp (λ a ha ⟨i,_,hx⟩=>hf a ha (.inr ⟨i,hx⟩)) h
theorem KD.stays (k:KD M H fps H' fps') (r:Rep M ρ σ H fps) (hv:∀ i∈vs,M.Ms i=false):∀ {xs:List (PV×Nat)}{ws:List V}{fp:List Addr},Tmps M.K H (Zv M vs fps) xs ws fp->(∀ a∈fp,¬ Zf M fps a)->Tmps M.K H' (Zv M vs fps') xs ws fp
 | [],_,_,h,_=>h
 | (x,d)::xs,ws,fp,h,hf=>by
  obtain ⟨v,s,f1,f2,e1,e2,dj,h1,h2⟩:=h;exact ⟨v,s,f1,f2,e1,e2,dj,k.stay r hv h1 λ a ha=>hf a (by rw [e2];exact AY _ ha),k.stays r hv h2 λ a ha=>hf a (by rw [e2];exact AR _ ha)⟩
theorem Tmps.weak {K:Frag}{Z Z':Addr->Prop} (hz:∀ a,Z' a->Z a):∀ {xs:List (PV×Nat)}{ws:List V}{fp:List Addr},Tmps K H Z xs ws fp->Tmps K H Z' xs ws fp
 | [],_,_,h=>h
 | (x,d)::xs,ws,fp,h=>by
  obtain ⟨v,s,f1,f2,e1,e2,dj,h1,h2⟩:=h;exact ⟨v,s,f1,f2,e1,e2,dj,h1.weak λ a h=>h.elim (λ h=>.inl (hz a h)) .inr,h2.weak hz⟩
theorem KD.grow (k:∀ a o,H a=some o->H' a=some o):KD M H fps H' fps:=⟨λ a o h _=>k a o h,λ a h=>by
 cases e:H a with
 | none=>exact absurd e h
 | some o=>rw [k a o e];simp,λ _ _ h=>.inl h,λ _ _=>rfl⟩
def Rep.grow (r:Rep M ρ σ H fps) (k:∀ a o,H a=some o->H' a=some o):Rep M ρ σ H' fps where
 own:=λ i x d e=>by
  obtain ⟨v,hv,o⟩:=r.own i x d e;exact ⟨v,hv,Own.move (S:=λ _=>False) (λ a o h _=>k a o h) (λ _ z=>z.elim) (λ _ _ n=>n) x d v _ (λ _ _ z=>z) o⟩
 non:=r.non
 dj:=r.dj
 zo:=r.zo
 fr:=r.fr
 zd:=λ a h=>(KD.grow (M:=M) (fps:=fps) k).dom a (r.zd a h)
 len:=r.len
 msf:=r.msf
 h0:=λ a h=>(KD.grow (M:=M) (fps:=fps) k).dom a (r.h0 a h)
 iov:=r.iov
end
def tE (M:Fm) (f:Fx) (vs:List Nat):TE:=λ σ H Q=>∃ ρ fps,Rep M ρ σ H fps/\(match f ρ with
 | .ok (x,d,ρ')=>∀ v H' fps' fp,KD M H fps H' fps'->Agr M ρ ρ'->Rep M ρ' σ H' fps'->Own M.K H' (Zt M vs fps' fp) x d v fp->Temp M vs H H' fps' fp->Q v H'
 | .exc c=>∀ H' fps',KD M H fps H' fps'->M.W σ c H'
 | .no=>False)
def tL (M:Fm) (f:Fa) (vs:List Nat):TA:=λ σ H Q=>∃ ρ fps,Rep M ρ σ H fps/\(match f ρ with
 | .ok (xs,ρ')=>∀ ws H' fps' fp,KD M H fps H' fps'->Agr M ρ ρ'->Rep M ρ' σ H' fps'->Tmps M.K H' (Zv M vs fps') xs ws fp->Temp M vs H H' fps' fp->Q ws H'
 | .exc c=>∀ H' fps',KD M H fps H' fps'->M.W σ c H'
 | .no=>False)
def tT (M:Fm) (f:Fb):TT:=λ σ H Q=>∃ ρ fps,Rep M ρ σ H fps/\(match f ρ with
 | .ok (b,ρ')=>∀ H' fps',KD M H fps H' fps'->Agr M ρ ρ'->Rep M ρ' σ H' fps'->Q b H'
 | .exc c=>∀ H' fps',KD M H fps H' fps'->M.W σ c H'
 | .no=>False)
def Bf (M:Fm) (H:Hp) (fps:AB) (vs:List Nat) (F:List Addr) (z:PV) (d:Nat) (Q:VK):Prop:=
 ∀ u H' fp,(∀ a o,H a=some o->H' a=some o)->Own M.K H' (Zt M vs fps fp) z d u fp->(∀ a∈fp,a∈F\/H a=none)->Q u H'
section
variable {M:Fm}{ρ ρ':Ag}{σ:St}{H H' H'':Hp}{fps fps' fps'':AB}{vs vs':List Nat}{f g:Fx}{fa:Fa}{fb:Fb}{Q:VK}
def bC (x:PV):Fx:=λ ρ=>.ok (x,om,ρ)
def Jt {x:PV}{v:V} (h:∀ K H Z,Own K H Z x om v []) {σ:St}{H:Hp}{Q:VK} (hq:tE M (bC x) [] σ H Q):tC v σ H Q:=by
 obtain ⟨ρ,fps,rep,q⟩:=hq;exact q v H fps [] KD.refl Agr.refl rep (h _ _ _) ⟨λ _ z=>(nomatch z),λ _ z=>nomatch z⟩
def dv:PV->Nat
 | .lst _=>0
 | .tup _=>0
 | .dct _=>0
 | _=>om
def Aa (i:Nat):Fx:=λ ρ=>match ρ[i]? with
 | some (some (x,_))=>.ok (x,dv x,ρ)
 | _=>.no
theorem Own.view {K:Frag}{Z Z':Addr->Prop}{x:PV}{d:Nat}{v:V}{fp:List Addr} (hz:∀ a,Z' a->Z a) (hf:∀ a∈fp,¬ Z' a) (h:Own K H Z x d v fp):Own K H Z' x (dv x) v []:=by
 have q:=Own.freeze hz x d v fp hf h;cases x with
 | lst xs=>exact q
 | tup xs=>exact q
 | dct kvs=>exact q
 | exn _=>rw [Own] at q ⊢;exact q
 | non=>rw [Own] at q ⊢;exact q
 | bl _=>rw [Own] at q ⊢;exact q
 | int _=>rw [Own] at q ⊢;exact q
 | str _=>rw [Own] at q ⊢;exact q
 | emp=>rw [Own] at q ⊢;exact q
 | dko=>rw [Own] at q ⊢;exact q
 | scr _=>rw [Own] at q ⊢;exact q
theorem RS {i:Nat}{σ:St}{H:Hp}{Q:VK} (hq:tE M (Aa i) (i::M.al i) σ H Q):Bm i σ H Q:=by
 obtain ⟨ρ,fps,rep,q⟩:=hq;unfold Aa at q;cases e0:ρ[i]? with
 | none=>rw [e0] at q;exact q.elim
 | some sl=>
  cases sl with
  | none=>rw [e0] at q;exact q.elim
  | some p=>
   obtain ⟨x0,d0⟩:=p;rw [e0] at q;obtain ⟨v,hv,o⟩:=rep.own i x0 d0 e0;refine ⟨v,hv,q v H fps [] KD.refl Agr.refl rep ((o.view (Z':=Zv M (i::M.al i) fps) (λ a h=>h.elim .inl λ ⟨j,n,h⟩=>.inr ⟨j,λ z=>n (AA _ z),h⟩) λ a ha z=>?_).weak λ a h=>h.elim id λ z=>nomatch z) ⟨λ _ z=>(nomatch z),λ _ z=>nomatch z⟩⟩;rcases z with z | ⟨j,nj,hj⟩
   ·exact rep.zo i a ha z
   ·exact rep.dj i j (λ e=>nj (by simp [e])) a ha hj
def Ab (op:PV->Nat->PV->Nat->Option (PV×Nat)) (f g:Fx):Fx:=λ ρ=>(f ρ).bind λ (x,d,ρ1)=>(g ρ1).bind λ (y,e,ρ2)=>match op x d y e with
 | some (z,c)=>.ok (z,c,ρ2)
 | none=>.no
theorem DA {op:PV->Nat->PV->Nat->Option (PV×Nat)}{r:R2} (hv:∀ i∈vs,M.Ms i=false)
  (leaf:∀ x d y e z c v w H fps f1 f2 Q,op x d y e=some (z,c)->Own M.K H (Zt M (vs++vs') fps f1) x d v f1->Own M.K H (Zt M (vs++vs') fps f2) y e w f2->(∀ a∈f1,a∉f2)->(∀ a∈f1++f2,¬ Zf M fps a)->(∀ a,Zf M fps a->H a≠none)->Bf M H fps (vs++vs') (f1++f2) z c Q->r v w H Q)
  {σ:St}{H:Hp}{Q:VK} (hq:tE M (Ab op f g) (vs++vs') σ H Q):FV r (tE M f vs) (tE M g vs') σ H Q:=by
 obtain ⟨ρ,fps,rep,q⟩:=hq;refine ⟨ρ,fps,rep,?_⟩;unfold Ab at q;cases ef:f ρ with
 | no=>rw [ef] at q;exact q
 | exc c=>rw [ef] at q;exact q
 | ok p=>
  obtain ⟨x,d,ρ1⟩:=p;rw [ef] at q;intro v H1 fps1 f1 k1 g1 rep1 o1 t1;refine ⟨ρ1,fps1,rep1,?_⟩;dsimp only [Rz.bind] at q;cases eg:g ρ1 with
  | no=>rw [eg] at q;exact q
  | exc c=>rw [eg] at q;exact λ H' fps' k=>q H' fps' (k1.trans k)
  | ok p2=>
   obtain ⟨y,e,ρ2⟩:=p2;rw [eg] at q;intro w H2 fps2 f2 k2 g2 rep2 o2 t2;dsimp only at q;cases eo:op x d y e with
   | none=>rw [eo] at q;exact q.elim
   | some zc=>
    obtain ⟨z,c⟩:=zc;rw [eo] at q;have o1':=k2.stay rep1 hv o1 t1.ndj;have n1:∀ a∈f1,¬ Zf M fps2 a:=λ a ha z=>by
     rcases z with z | ⟨i,z⟩
     ·exact t1.ndj a ha (.inl z)
     ·rcases k2.sub i a z with z | z
      ·exact t1.ndj a ha (.inr ⟨i,z⟩)
      ·obtain ⟨xs,e⟩:=Own.lsts x d v f1 o1 a ha;rw [z] at e;cases e
    refine leaf x d y e z c v w H2 fps2 f1 f2 Q eo (o1'.weak λ a h=>Zt.mono (λ i hi=>AY _ hi) h) (o2.weak λ a h=>Zt.mono (λ i hi=>AR _ hi) h) (λ a h1 h2=>?_) (λ a ha=>?_) (λ a h=>rep2.zdom h) λ u H3 fp k3 o3 hfp=>?_
    ·obtain ⟨xs,e⟩:=Own.lsts x d v f1 o1 a h1;rw [t2.new a h2] at e;cases e
    ·rcases jb8.mp ha with z | z
     ·exact n1 a z
     ·exact t2.ndj a z
    ·have new:∀ a∈fp,H a=none:=λ a ha=>by
      have back:H1 a=none->H a=none:=λ e=>by
       cases e':H a with
       | none=>rfl
       | some o=>exact absurd e (k1.dom a (by rw [e'];simp))
      have back2:H2 a=none->H1 a=none:=λ e=>by
       cases e':H1 a with
       | none=>rfl
       | some o=>exact absurd e (k2.dom a (by rw [e'];simp))
      rcases hfp a ha with z | z
      ·rcases jb8.mp z with z | z
       ·exact t1.new a z
       ·exact back (t2.new a z)
      ·exact back (back2 z)
     refine q u H3 fps2 fp ((k1.trans k2).trans (KD.grow k3)) (g1.trans g2) (rep2.grow k3) o3 ⟨new,λ a ha=>?_⟩;rcases hfp a ha with z | z
     ·rcases jb8.mp z with z | z
      ·exact n1 a z
      ·exact t2.ndj a z
     ·exact rep2.nz z
end
section
variable {M:Fm}{vs vs':List Nat}{f g:Fx}{fa:Fa}{fb gb:Fb}
def Au (op:PV->Nat->Option (PV×Nat)) (f:Fx):Fx:=λ ρ=>(f ρ).bind λ (x,d,ρ1)=>match op x d with
 | some (z,c)=>.ok (z,c,ρ1)
 | none=>.no
theorem Kh {op:PV->Nat->Option (PV×Nat)}{r:V->Hp->VK->Prop}
  (leaf:∀ x d z c v H fps f1 Q,op x d=some (z,c)->Own M.K H (Zt M vs fps f1) x d v f1->(∀ a∈f1,¬ Zf M fps a)->(∀ a,Zf M fps a->H a≠none)->Bf M H fps vs f1 z c Q->r v H Q)
  {σ:St}{H:Hp}{Q:VK} (hq:tE M (Au op f) vs σ H Q):Q6 r (tE M f vs) σ H Q:=by
 obtain ⟨ρ,fps,rep,q⟩:=hq;refine ⟨ρ,fps,rep,?_⟩;unfold Au at q;cases ef:f ρ with
 | no=>rw [ef] at q;exact q
 | exc c=>rw [ef] at q;exact q
 | ok p=>
  obtain ⟨x,d,ρ1⟩:=p;rw [ef] at q;intro v H1 fps1 f1 k1 g1 rep1 o1 t1;dsimp only [Rz.bind] at q;cases eo:op x d with
  | none=>rw [eo] at q;exact q.elim
  | some zc=>
   obtain ⟨z,c⟩:=zc;rw [eo] at q;refine leaf x d z c v H1 fps1 f1 Q eo o1 t1.ndj (λ a h=>rep1.zdom h) λ u H3 fp k3 o3 hfp=>?_;have back:∀ a,H1 a=none->H a=none:=λ a e=>by
    cases e':H a with
    | none=>rfl
    | some o=>exact absurd e (k1.dom a (by rw [e'];simp))
   refine q u H3 fps1 fp (k1.trans (KD.grow k3)) g1 (rep1.grow k3) o3 ⟨λ a ha=>(hfp a ha).elim (t1.new a) (back a),λ a ha=>(hfp a ha).elim (t1.ndj a) λ z=>rep1.nz z⟩
def Ac:Fa:=λ ρ=>.ok ([],ρ)
def Ad (f:Fx) (fa:Fa):Fa:=λ ρ=>(f ρ).bind λ (x,d,ρ1)=>(fa ρ1).bind λ (xs,ρ2)=>.ok ((x,d)::xs,ρ2)
def VS {σ:St}{H:Hp}{Q:List V->Hp->Prop} (hq:tL M Ac [] σ H Q):EE σ H Q:=by
 obtain ⟨ρ,fps,rep,q⟩:=hq;exact q [] H fps [] KD.refl Agr.refl rep ⟨rfl,rfl⟩ ⟨λ _ z=>(nomatch z),λ _ z=>nomatch z⟩
theorem Xn (hv:∀ i∈vs,M.Ms i=false) {σ:St}{H:Hp}{Q:List V->Hp->Prop} (hq:tL M (Ad f fa) (vs++vs') σ H Q):GJ (tE M f vs) (tL M fa vs') σ H Q:=by
 obtain ⟨ρ,fps,rep,q⟩:=hq;refine ⟨ρ,fps,rep,?_⟩;unfold Ad at q;cases ef:f ρ with
 | no=>rw [ef] at q;exact q
 | exc c=>rw [ef] at q;exact q
 | ok p=>
  obtain ⟨x,d,ρ1⟩:=p;rw [ef] at q;intro v H1 fps1 f1 k1 g1 rep1 o1 t1;refine ⟨ρ1,fps1,rep1,?_⟩;dsimp only [Rz.bind] at q;cases eg:fa ρ1 with
  | no=>rw [eg] at q;exact q
  | exc c=>rw [eg] at q;exact λ H' fps' k=>q H' fps' (k1.trans k)
  | ok p2=>
   obtain ⟨ys,ρ2⟩:=p2;rw [eg] at q;intro ws H2 fps2 f2 k2 g2 rep2 o2 t2;dsimp only at q;have o1':=k2.stay rep1 hv o1 t1.ndj;have n1:∀ a∈f1,¬ Zf M fps2 a:=λ a ha z=>by
    rcases z with z | ⟨i,z⟩
    ·exact t1.ndj a ha (.inl z)
    ·rcases k2.sub i a z with z | z
     ·exact t1.ndj a ha (.inr ⟨i,z⟩)
     ·obtain ⟨xs,e⟩:=Own.lsts x d v f1 o1 a ha;rw [z] at e;cases e
   have back:∀ a,H1 a=none->H a=none:=λ a e=>by
    cases e':H a with
    | none=>rfl
    | some o=>exact absurd e (k1.dom a (by rw [e'];simp))
   refine q (v::ws) H2 fps2 (f1++f2) (k1.trans k2) (g1.trans g2) rep2 ⟨v,ws,f1,f2,rfl,rfl,λ a h1 h2=>?_,o1'.weak λ a h=>Zt.mono (λ i hi=>AY _ hi) h,o2.weak λ a h=>h.mono λ i hi=>AR _ hi⟩ ⟨λ a ha=>?_,λ a ha=>?_⟩
   ·obtain ⟨xs,e⟩:=Own.lsts x d v f1 o1 a h1;rw [t2.new a h2] at e;cases e
   ·rcases jb8.mp ha with z | z
    ·exact t1.new a z
    ·exact back a (t2.new a z)
   ·rcases jb8.mp ha with z | z
    ·exact n1 a z
    ·exact t2.ndj a z
def Aj (op:List (PV×Nat)->Option (PV×Nat)) (fa:Fa):Fx:=λ ρ=>(fa ρ).bind λ (xs,ρ1)=>match op xs with
 | some (z,c)=>.ok (z,c,ρ1)
 | none=>.no
theorem LD {op:List (PV×Nat)->Option (PV×Nat)}{r:List V->Hp->VK->Prop}
  (leaf:∀ xs z c ws H fps fp Q,op xs=some (z,c)->Tmps M.K H (Zv M vs fps) xs ws fp->(∀ a∈fp,¬ Zf M fps a)->(∀ a,Zf M fps a->H a≠none)->Bf M H fps vs fp z c Q->r ws H Q)
  {σ:St}{H:Hp}{Q:VK} (hq:tE M (Aj op fa) vs σ H Q):tL M fa vs σ H λ ws H1=>r ws H1 Q:=by
 obtain ⟨ρ,fps,rep,q⟩:=hq;refine ⟨ρ,fps,rep,?_⟩;unfold Aj at q;cases ef:fa ρ with
 | no=>rw [ef] at q;exact q
 | exc c=>rw [ef] at q;exact q
 | ok p=>
  obtain ⟨xs,ρ1⟩:=p;rw [ef] at q;intro ws H1 fps1 f1 k1 g1 rep1 o1 t1;dsimp only [Rz.bind] at q;cases eo:op xs with
  | none=>rw [eo] at q;exact q.elim
  | some zc=>
   obtain ⟨z,c⟩:=zc;rw [eo] at q;refine leaf xs z c ws H1 fps1 f1 Q eo o1 t1.ndj (λ a h=>rep1.zdom h) λ u H3 fp k3 o3 hfp=>?_;have back:∀ a,H1 a=none->H a=none:=λ a e=>by
    cases e':H a with
    | none=>rfl
    | some o=>exact absurd e (k1.dom a (by rw [e'];simp))
   refine q u H3 fps1 fp (k1.trans (KD.grow k3)) g1 (rep1.grow k3) o3 ⟨λ a ha=>(hfp a ha).elim (t1.new a) (back a),λ a ha=>(hfp a ha).elim (t1.ndj a) λ z=>rep1.nz z⟩
def bT (f:Fx):Fb:=λ ρ=>(f ρ).bind λ (x,_,ρ1)=>match x with
 | .bl b=>.ok (b,ρ1)
 | _=>.no
theorem O3 {σ:St}{H:Hp}{Q:Bool->Hp->Prop} (hq:tT M (bT f) σ H Q):tB (tE M f vs) σ H Q:=by
 obtain ⟨ρ,fps,rep,q⟩:=hq;refine ⟨ρ,fps,rep,?_⟩;unfold bT at q;cases ef:f ρ with
 | no=>rw [ef] at q;exact q
 | exc c=>rw [ef] at q;exact q
 | ok p=>
  obtain ⟨x,d,ρ1⟩:=p;rw [ef] at q;intro v H1 fps1 f1 k1 g1 rep1 o1 t1;dsimp only [Rz.bind] at q;cases x with
  | bl b=>
   rw [Own] at o1;exact ⟨b,o1.1,q H1 fps1 k1 g1 rep1⟩
  | _=>exact q.elim
def Gs (f g:Fb):Fb:=λ ρ=>(f ρ).bind λ (b,ρ1)=>if b=true then g ρ1 else .ok (false,ρ1)
def MF (f g:Fb):Fb:=λ ρ=>(f ρ).bind λ (b,ρ1)=>if b=true then .ok (true,ρ1) else g ρ1
def Gr (f:Fb):Fb:=λ ρ=>(f ρ).bind λ (b,ρ1)=>.ok (!b,ρ1)
theorem We {σ:St}{H:Hp}{Q:Bool->Hp->Prop} (hq:tT M (Gs fb gb) σ H Q):HI (tT M fb) (tT M gb) σ H Q:=by
 obtain ⟨ρ,fps,rep,q⟩:=hq;refine ⟨ρ,fps,rep,?_⟩;unfold Gs at q;cases ef:fb ρ with
 | no=>rw [ef] at q;exact q
 | exc c=>rw [ef] at q;exact q
 | ok p=>
  obtain ⟨b,ρ1⟩:=p;rw [ef] at q;intro H1 fps1 k1 g1 rep1;dsimp only [Rz.bind] at q;cases b with
  | false=>exact (q H1 fps1 k1 g1 rep1)
  | true=>
   refine ⟨ρ1,fps1,rep1,?_⟩;rw [if_pos rfl] at q;cases eg:gb ρ1 with
   | no=>rw [eg] at q;exact q
   | exc c=>rw [eg] at q;exact λ H' fps' k=>q H' fps' (k1.trans k)
   | ok p2=>rw [eg] at q;exact λ H' fps' k g r=>q H' fps' (k1.trans k) (g1.trans g) r
theorem UO {σ:St}{H:Hp}{Q:Bool->Hp->Prop} (hq:tT M (MF fb gb) σ H Q):NQ (tT M fb) (tT M gb) σ H Q:=by
 obtain ⟨ρ,fps,rep,q⟩:=hq;refine ⟨ρ,fps,rep,?_⟩;unfold MF at q;cases ef:fb ρ with
 | no=>rw [ef] at q;exact q
 | exc c=>rw [ef] at q;exact q
 | ok p=>
  obtain ⟨b,ρ1⟩:=p;rw [ef] at q;intro H1 fps1 k1 g1 rep1;dsimp only [Rz.bind] at q;cases b with
  | true=>exact (q H1 fps1 k1 g1 rep1)
  | false=>
   refine ⟨ρ1,fps1,rep1,?_⟩;rw [if_neg C2] at q;cases eg:gb ρ1 with
   | no=>rw [eg] at q;exact q
   | exc c=>rw [eg] at q;exact λ H' fps' k=>q H' fps' (k1.trans k)
   | ok p2=>rw [eg] at q;exact λ H' fps' k g r=>q H' fps' (k1.trans k) (g1.trans g) r
theorem Wf {σ:St}{H:Hp}{Q:Bool->Hp->Prop} (hq:tT M (Gr fb) σ H Q):HE (tT M fb) σ H Q:=by
 obtain ⟨ρ,fps,rep,q⟩:=hq;refine ⟨ρ,fps,rep,?_⟩;unfold Gr at q;cases ef:fb ρ with
 | no=>rw [ef] at q;exact q
 | exc c=>rw [ef] at q;exact q
 | ok p=>obtain ⟨b,ρ1⟩:=p;rw [ef] at q;exact q
theorem Tmps.all {K:Frag}{H:Hp}{Z:Addr->Prop}:∀ {xs:List (PV×Nat)}{ws:List V}{fp:List Addr},Tmps K H Z xs ws fp->(∀ p∈xs,p.2=om)->OwnL K H Z (xs.map (·.1)) om ws fp
 | [],_,_,h,_=>by rw [Kq,OwnL];exact h
 | (x,d)::xs,ws,fp,h,ha=>by
  obtain ⟨v,s,f1,f2,e1,e2,dj,h1,h2⟩:=h;have e:d=om:=ha (x,d) AI;subst e;rw [C8,OwnL];exact ⟨v,s,f1,f2,e1,e2,dj,Own.full x v f1 h1,h2.all λ p hp=>ha p (AA _ hp)⟩
theorem Tmps.cold {K:Frag}{H:Hp}{Z:Addr->Prop}:∀ {xs:List (PV×Nat)}{ws:List V}{fp:List Addr},Tmps K H Z xs ws fp->(∀ a∈fp,¬ Z a)->OwnL K H Z (xs.map (·.1)) 0 ws []
 | [],_,_,h,_=>by rw [Kq,OwnL];exact ⟨h.1,rfl⟩
 | (x,d)::xs,ws,fp,h,ha=>by
  obtain ⟨v,s,f1,f2,e1,e2,dj,h1,h2⟩:=h;rw [C8,OwnL];exact ⟨v,s,[],[],e1,rfl,λ _ z=>(nomatch z),Own.freeze (λ _ z=>.inl z) x d v f1 (λ a z=>ha a (by rw [e2];exact AY _ z)) h1,h2.cold λ a z=>ha a (by rw [e2];exact AR _ z)⟩
theorem Tmps.length {K:Frag}{H:Hp}{Z:Addr->Prop}:∀ {xs:List (PV×Nat)}{ws:List V}{fp:List Addr},Tmps K H Z xs ws fp->ws.length=xs.length
 | [],_,_,h=>by rw [h.1];rfl
 | (x,d)::xs,ws,fp,h=>by
  obtain ⟨v,s,f1,f2,e1,e2,dj,h1,h2⟩:=h;rw [e1,BP,BP,h2.length]
theorem OwnL.length {K:Frag}{H:Hp}{Z:Addr->Prop}:∀ {xs:List PV}{d:Nat}{ws:List V}{fp:List Addr},OwnL K H Z xs d ws fp->ws.length=xs.length
 | [],_,_,_,h=>by rw [OwnL] at h;rw [h.1];rfl
 | x::xs,d,ws,fp,h=>by
  rw [OwnL] at h;obtain ⟨v,s,f1,f2,e1,e2,dj,h1,h2⟩:=h;rw [e1,BP,BP,h2.length]
end
inductive Rs where
 | nx (ρ:Ag) | rt (x:PV) (d:Nat) (ρ:Ag) | bk (ρ:Ag) | ct (ρ:Ag) | exc (c:Nat) | no
abbrev Fs:=Ag->Rs
structure KS (M:Fm) (H:Hp) (fps:AB) (H':Hp) (fps':AB):Prop where
 keep:Ce (λ a=>∃ i,a∈fps i) H H'
 dom:∀ a,H a≠none->H' a≠none
 sub:∀ i,∀ a∈fps' i,(∃ j,a∈fps j)\/H a=none
def Zr (M:Fm) (fps:AB):Addr->Prop:=λ a=>M.Zo a\/(M.io≠none/\a∈fps 0)
def RsOk (M:Fm) (D:Ends) (H:Hp) (fps:AB):Rs->Prop
 | .nx ρ'=>∀ σ' H' fps',KS M H fps H' fps'->Rep M ρ' σ' H' fps'->D.nx σ' H'
 | .bk ρ'=>∀ σ' H' fps',KS M H fps H' fps'->Rep M ρ' σ' H' fps'->D.bk σ' H'
 | .ct ρ'=>∀ σ' H' fps',KS M H fps H' fps'->Rep M ρ' σ' H' fps'->D.ct σ' H'
 | .rt x d ρ'=>∀ v σ' H' fps' fp,KS M H fps H' fps'->Rep M ρ' σ' H' fps'->Own M.K H' (λ a=>Zr M fps' a\/a∈fp) x d v fp->(∀ a∈fp,M.H₀ a=none/\¬ Zr M fps' a)->D.rt v H'
 | .exc c=>∀ σ' H' fps',KS M H fps H' fps'->M.W σ' c H'
 | .no=>False
def tS (M:Fm) (f:Fs):TS:=λ D σ H=>∃ ρ fps,Rep M ρ σ H fps/\RsOk M D H fps (f ρ)
section
variable {M:Fm}{ρ ρ':Ag}{σ σ':St}{H H' H'':Hp}{fps fps' fps'':AB}{vs vs':List Nat}
def KS.refl:KS M H fps H fps:=⟨λ _ _ h _=>h,λ _ h=>h,λ i _ h=>.inl ⟨i,h⟩⟩
def KD.ks (k:KD M H fps H' fps'):KS M H fps H' fps':=⟨λ a o h n=>k.keep a o h λ ⟨i,_,z⟩=>n ⟨i,z⟩,k.dom,λ i a h=>(k.sub i a h).elim (λ z=>.inl ⟨i,z⟩) .inr⟩
def KS.trans (a:KS M H fps H' fps') (b:KS M H' fps' H'' fps''):KS M H fps H'' fps'' where
 keep:=λ x o h n=>b.keep x o (a.keep x o h n) λ ⟨i,hx⟩=>(a.sub i x hx).elim (λ z=>n z) λ z=>by rw [z] at h;cases h
 dom:=λ x h=>b.dom x (a.dom x h)
 sub:=λ i x hx=>(b.sub i x hx).elim (λ ⟨j,z⟩=>a.sub j x z) λ z=>.inr (by
  cases e:H x with
  | none=>rfl
  | some o=>exact absurd z (a.dom x (by rw [e];simp)))
def KS.stay0 (k:KS M H fps H' fps') (r:Rep M ρ σ H fps) {x:PV}{v:V} (h:Own M.K H (Zf M fps) x 0 v []):Own M.K H' (Zf M fps') x 0 v []:=by
 refine Own.move k.keep (λ a ⟨i,ha⟩=>⟨.inr ⟨i,ha⟩,r.lsts ha⟩) ?_ x 0 v [] (λ _ z=>nomatch z) h;intro a hd nz z;rcases z with z | ⟨i,hx⟩
 ·exact nz (.inl z)
 ·rcases k.sub i a hx with z | z
  ·exact nz (.inr z)
  ·exact hd z
def Al:Fs:=λ ρ=>.nx ρ
def Af (f g:Fs):Fs:=λ ρ=>match f ρ with
 | .nx ρ1=>g ρ1
 | r=>r
def VY {D:Ends} (hq:tS M Al D σ H):Rh D σ H:=by
 obtain ⟨ρ,fps,rep,q⟩:=hq;exact q σ H fps KS.refl rep
def A0 (c:Fb) (f g:Fs):Fs:=λ ρ=>match c ρ with
 | .ok (b,ρ1)=>if b=true then f ρ1 else g ρ1
 | .exc e=>.exc e
 | .no=>.no
theorem RsOk.from {D:Ends}{r:Rs} (k1:KS M H fps H' fps') (q:RsOk M D H fps r):RsOk M D H' fps' r:=by
 cases r with
 | no=>exact q
 | exc c=>exact λ σ' H' fps' k=>q σ' H' fps' (k1.trans k)
 | rt x d ρ2=>exact λ v σ' H' fps' fp k=>q v σ' H' fps' fp (k1.trans k)
 | bk ρ2=>exact λ σ' H' fps' k=>q σ' H' fps' (k1.trans k)
 | ct ρ2=>exact λ σ' H' fps' k=>q σ' H' fps' (k1.trans k)
 | nx ρ2=>exact λ σ' H' fps' k=>q σ' H' fps' (k1.trans k)
theorem Wb {f g:Fs}{D:Ends} (hq:tS M (Af f g) D σ H):JT (tS M f) (tS M g) D σ H:=by
 obtain ⟨ρ,fps,rep,q⟩:=hq;refine ⟨ρ,fps,rep,?_⟩;unfold Af at q;cases ef:f ρ with
 | no=>rw [ef] at q;exact q
 | exc c=>rw [ef] at q;exact q
 | rt x d ρ1=>rw [ef] at q;exact q
 | bk ρ1=>rw [ef] at q;exact q
 | ct ρ1=>rw [ef] at q;exact q
 | nx ρ1=>
  rw [ef] at q;exact λ σ1 H1 fps1 k1 rep1=>⟨ρ1,fps1,rep1,RsOk.from k1 q⟩
theorem UN {c:Fb}{f g:Fs}{D:Ends} (hq:tS M (A0 c f g) D σ H):HG (tT M c) (tS M f) (tS M g) D σ H:=by
 obtain ⟨ρ,fps,rep,q⟩:=hq;refine ⟨ρ,fps,rep,?_⟩;unfold A0 at q;cases ef:c ρ with
 | no=>rw [ef] at q;exact q
 | exc c=>rw [ef] at q;exact λ H' fps' k=>q _ H' fps' k.ks
 | ok p=>
  obtain ⟨b,ρ1⟩:=p;rw [ef] at q;intro H1 fps1 k1 g1 rep1;dsimp only at q;cases b with
  | true=>
   rw [if_pos rfl] at q ⊢;exact ⟨ρ1,fps1,rep1,RsOk.from k1.ks q⟩
  | false=>
   rw [if_neg C2] at q ⊢;exact ⟨ρ1,fps1,rep1,RsOk.from k1.ks q⟩
def cool (vs:List Nat):Nat->Ag->Ag
 | _,[]=>[]
 | k,s::r=>(if vs.contains k then s.map λ p=>(p.1,0) else s)::cool vs (k + 1) r
def Bk (d:Nat) (vs:List Nat) (ρ:Ag):Ag:=if d=om then ρ else cool vs 0 ρ
theorem Iz (vs:List Nat):∀ (ρ:Ag) (k i:Nat),(cool vs k ρ)[i]?=(ρ[i]?).map λ s=>if vs.contains (k + i) then s.map λ p=>(p.1,0) else s
 | [],k,i=>by simp [cool]
 | s::r,k,0=>by simp [cool]
 | s::r,k,i + 1=>by
  rw [cool,OT,Iz vs r (k + 1) i,OT]
  have:k + 1 + i=k + (i + 1):=by omega
  rw [this]
theorem KZ (vs:List Nat):∀ (ρ:Ag) (k:Nat),(cool vs k ρ).length=ρ.length
 | [],_=>rfl
 | s::r,k=>by rw [cool,BP,KZ vs r (k + 1),BP]
def DB (vs:List Nat) (fps:AB):AB:=λ i=>if vs.contains i then [] else fps i
def EZ {a:Addr}{i:Nat} (h:a∈DB vs fps i):a∈fps i/\i∉vs:=by
 unfold DB at h;split at h
 ·cases h
 ·rename_i n;exact ⟨h,λ z=>n (by simpa using z)⟩
def Hg {a:Addr} (h:Zf M (DB vs fps) a):Zv M vs fps a:=h.elim .inl λ ⟨i,z⟩=>.inr ⟨i,(EZ z).2,(EZ z).1⟩
def Rep.cool (r:Rep M ρ σ H fps) (hal:∀ i,M.al i=[]) (hv:∀ i∈vs,M.Ms i=false):Rep M (cool vs 0 ρ) σ H (DB vs fps) where
 own:=λ i x d e=>by
  rw [Iz] at e;cases e1:ρ[i]? with
  | none=>rw [e1] at e;cases e
  | some s=>
   rw [e1] at e;simp only [Kt,M6] at e;by_cases hc:vs.contains i=true
   ·rw [if_pos hc] at e;cases s with
    | none=>cases e
    | some p=>
     obtain ⟨x0,d0⟩:=p;simp only [Kt,Option.some.injEq,Prod.mk.injEq] at e;obtain ⟨rfl,rfl⟩:=e;obtain ⟨v,hσ,o⟩:=r.own0 hal i x0 d0 e1;refine ⟨v,hσ,Own.weak (Z:=Zf M (DB vs fps)) (λ a h=>h.zf) ?_⟩
     have:DB vs fps i=[]:=by unfold DB;rw [if_pos hc]
     rw [this];exact Own.freeze (λ a h=>Zv.zf (Hg h)) x0 d0 v _ (λ a ha z=>by
      rcases z with z | ⟨j,z⟩
      ·exact r.zo i a ha z
      ·obtain ⟨z1,z2⟩:=EZ z;exact r.dj i j (λ e=>z2 (by rw [<- e];simpa using hc)) a ha z1) o
   ·rw [if_neg hc] at e;cases e;obtain ⟨v,hσ,o⟩:=r.own0 hal i x d e1;refine ⟨v,hσ,Own.weak (Z:=Zf M (DB vs fps)) (λ a h=>h.zf) ?_⟩
    have:DB vs fps i=fps i:=by unfold DB;rw [if_neg hc]
    rw [this];exact o.weak λ a h=>Zv.zf (Hg h)
 non:=λ i h=>by
  unfold DB;split
  ·rfl
  ·rename_i hc;refine r.non i λ p e=>h p ?_;rw [Iz,e];simp only [Kt,M6];rw [if_neg hc]
 dj:=λ i j hij a ha hb=>r.dj i j hij a (EZ ha).1 (EZ hb).1
 zo:=λ i a ha=>r.zo i a (EZ ha).1
 fr:=λ i hi a ha=>r.fr i hi a (EZ ha).1
 zd:=r.zd
 len:=by rw [KZ];exact r.len
 msf:=λ i x d hi e=>by
  rw [Iz] at e;cases e1:ρ[i]? with
  | none=>rw [e1] at e;cases e
  | some s=>
   rw [e1] at e;simp only [Kt,M6] at e;have hc:¬ vs.contains i=true:=λ z=>by rw [hv i (by simpa using z)] at hi;cases hi
   rw [if_neg hc] at e;cases e;exact r.msf i x d hi e1
 h0:=r.h0
 iov:=r.iov
def KS.cool (k:KS M H fps H' fps'):KS M H fps H' (DB vs fps'):=⟨k.keep,k.dom,λ i a h=>k.sub i a (EZ h).1⟩
def Rep.wide {fp:List Addr} (hal:∀ i,∀ j∈M.al i,M.Ms j=false) (r:Rep M ρ σ H fps) (k:KD M H fps H' fps') (g:Agr M ρ ρ') (r':Rep M ρ' σ H' fps') (hf:∀ a∈fp,H a=none/\H' a≠none/\¬ Zf M fps' a):Rep (M.plus fp) ρ' σ H' fps' where
 own:=λ i x d e=>by
  by_cases hm:M.Ms i=true
  ·obtain ⟨v,hv,o⟩:=r'.own i x d e;have hd:=r'.msf i x d hm e;subst hd;exact ⟨v,hv,Own.full x v _ o⟩
  ·have hm':M.Ms i=false:=by simpa using hm
   rw [g.1 i hm'] at e;obtain ⟨v,hv,o⟩:=r.own i x d e;refine ⟨v,hv,?_⟩;rw [k.same i hm'];refine Own.move k.keep (λ a ⟨j,hj,ha⟩=>⟨.inr ⟨j,λ z=>(by rw [hal i j z] at hj;cases hj),ha⟩,r.lsts ha⟩) ?_ x d v _ ?_ o
   ·intro a hd nz z;rcases z with (z | z) | ⟨j,nj,z⟩
    ·exact nz (.inl z)
    ·exact hd (hf a z).1
    ·rcases k.sub j a z with z | z
     ·exact nz (.inr ⟨j,nj,z⟩)
     ·exact hd z
   ·rintro a ha ⟨j,hj,hx⟩;exact r.dj i j (λ e=>by rw [e,hj] at hm';cases hm') a ha hx
 non:=r'.non
 dj:=r'.dj
 zo:=λ i a ha z=>z.elim (r'.zo i a ha) λ z=>(hf a z).2.2 (.inr ⟨i,ha⟩)
 fr:=r'.fr
 zd:=λ a z=>z.elim (r'.zd a) λ z=>(hf a z).2.1
 len:=r'.len
 msf:=r'.msf
 h0:=r'.h0
 iov:=r'.iov
def Rep.put {i:Nat}{x:PV}{d:Nat}{v:V}{fp:List Addr} (r:Rep (M.plus fp) ρ σ H fps) (h:Own M.K H (λ a=>Za M fps i a\/a∈fp) x d v fp) (hf:∀ a∈fp,M.H₀ a=none/\¬ M.Zo a) (hi:i < ρ.length) (hm:M.Ms i=true->d=om) (hio:M.Fre i):
  Rep M (ρ.set i (some (x,d))) (σ.set i (some v)) H (λ j=>if j=i then fp else fps j):=by
 have zz:∀ a,Zf M (λ j=>if j=i then fp else fps j) a->Zf M fps a\/a∈fp:=λ a h=>by
  rcases h with z | ⟨j,z⟩
  ·exact .inl (.inl z)
  ·by_cases e:j=i
   ·simp only [if_pos e] at z;exact .inr z
   ·simp only [if_neg e] at z;exact .inl (.inr ⟨j,z⟩)
 have zz2:∀ a,Zf M fps a\/a∈fp->Zf (M.plus fp) fps a:=λ a h=>h.elim (λ h=>h.elim (λ z=>.inl (.inl z)) λ z=>.inr z) λ z=>.inl (.inr z);refine ⟨λ j y e hj=>?_,λ j hj=>?_,λ j k hjk a ha hb=>?_,λ j a ha z=>?_,λ j hj a ha=>?_,λ a z=>r.zd a (.inl z),?_,λ j y e hj he=>?_,r.h0,?_⟩
 ·by_cases e:j=i
  ·subst e;rw [CH hi] at hj;cases hj;refine ⟨v,by rw [CH (by rw [<- r.len];exact hi)],?_⟩;rw [if_pos rfl];refine h.weak λ a h=>?_;rcases h with z | ⟨k,nk,z⟩
   ·exact .inl (.inl z)
   ·by_cases ek:k=j
    ·simp only [if_pos ek] at z;exact .inr z
    ·simp only [if_neg ek] at z;exact .inl (.inr ⟨k,nk,z⟩)
  ·rw [BJ (Bv e)] at hj;obtain ⟨w,hw,o⟩:=r.own j y _ hj;refine ⟨w,by rw [BJ (Bv e)];exact hw,?_⟩;rw [if_neg e];refine o.weak λ a h=>?_;rcases h with z | ⟨k,nk,z⟩
   ·exact .inl (.inl z)
   ·by_cases ek:k=i
    ·simp only [if_pos ek] at z;exact .inl (.inr z)
    ·simp only [if_neg ek] at z;exact .inr ⟨k,nk,z⟩
 ·by_cases e:j=i
  ·subst e;exact absurd (CH hi) (hj _)
  ·rw [if_neg e];exact r.non j λ p hp=>hj p (by rw [BJ (Bv e)];exact hp)
 ·by_cases e1:j=i
  ·by_cases e2:k=i
   ·exact hjk (e1.trans e2.symm)
   ·rw [if_pos e1] at ha;rw [if_neg e2] at hb;exact r.zo k a hb (.inr ha)
  ·rw [if_neg e1] at ha;by_cases e2:k=i
   ·rw [if_pos e2] at hb;exact r.zo j a ha (.inr hb)
   ·rw [if_neg e2] at hb;exact r.dj j k hjk a ha hb
 ·by_cases e:j=i
  ·rw [if_pos e] at ha;exact (hf a ha).2 z
  ·rw [if_neg e] at ha;exact r.zo j a ha (.inl z)
 ·by_cases e:j=i
  ·rw [if_pos e] at ha;exact (hf a ha).1
  ·rw [if_neg e] at ha;exact r.fr j hj a ha
 ·rw [C1,C1];exact r.len
 ·by_cases e:j=i
  ·subst e;rw [CH hi] at he;cases he;exact hm hj
  ·rw [BJ (Bv e)] at he;exact r.msf j y _ hj he
 ·refine ⟨λ w hw=>?_,λ p hp=>?_⟩
  ·have h0:i≠0:=hio.1 (by rw [hw];simp);rw [BJ h0];exact r.iov.1 w hw
  ·rw [BJ (hio.2 p hp).symm];exact r.iov.2 p hp
def Ai (ms:Bool) (i:Nat) (f:Fx) (vs:List Nat):Fs:=λ ρ=>match f ρ with
 | .ok (x,d,ρ1)=>if i < ρ1.length/\(ms=true->d=om) then .nx ((Bk d vs ρ1).set i (some (x,d))) else .no
 | .exc c=>.exc c
 | .no=>.no
def Rep.store {i:Nat}{x:PV}{d:Nat}{v:V}{fp:List Addr} (rep:Rep M ρ σ H fps) (k:KD M H fps H' fps') (g:Agr M ρ ρ') (r':Rep M ρ' σ H' fps') (o:Own M.K H' (Zt M vs fps' fp) x d v fp) (t:Temp M vs H H' fps' fp)
  (hal:∀ i,M.al i=[]) (hv:∀ i∈vs,M.Ms i=false) (hi:i < ρ'.length) (hm:M.Ms i=true->d=om) (hio:M.Fre i):
  ∃ fps2,KS M H fps H' fps2/\Rep M ((Bk d vs ρ').set i (some (x,d))) (σ.set i (some v)) H' fps2:=by
 have back:∀ a,H a=none->M.H₀ a=none:=λ a e=>by
  cases e':M.H₀ a with
  | none=>rfl
  | some o=>exact absurd e (rep.h0 a (by rw [e'];simp))
 have w:Rep (M.plus fp) ρ' σ H' fps':=rep.wide (λ i j hj=>by rw [hal i] at hj;cases hj) k g r' λ a ha=>⟨t.new a ha,by obtain ⟨xs,e⟩:=Own.lsts x d v fp o a ha;rw [e];simp,t.ndj a ha⟩
 have hf:∀ a∈fp,M.H₀ a=none/\¬ M.Zo a:=λ a ha=>⟨back a (t.new a ha),λ z=>t.ndj a ha (.inl z)⟩
 have ks2:∀ {fps2:AB},(∀ i a,a∈fps2 i->a∈fps' i)->KS M H fps H' (λ j=>if j=i then fp else fps2 j):=λ {fps2} h2=>⟨k.ks.keep,k.dom,λ j a ha=>by
  by_cases e:j=i
  ·simp only [if_pos e] at ha;exact .inr (t.new a ha)
  ·simp only [if_neg e] at ha;exact k.ks.sub j a (h2 j a ha)⟩
 unfold Bk;by_cases hd:d=om
 ·rw [if_pos hd];refine ⟨_,ks2 λ _ _ h=>h,w.put (i:=i) (x:=x) (d:=d) (v:=v) ?_ hf hi hm hio⟩;rw [hd] at o ⊢;exact Own.full x v fp o
 ·rw [if_neg hd];refine ⟨_,ks2 λ _ _ h=>(EZ h).1,(w.cool (vs:=vs) hal hv).put (i:=i) (x:=x) (d:=d) (v:=v) ?_ hf (by rw [KZ];exact hi) hm hio⟩;exact o.weak λ a h=>h.elim (λ h=>.inl (Hg h.zf)) .inr
theorem O2 {f:Fx}{i:Nat}{ms:Bool}{D:Ends} (hal:∀ i,M.al i=[]) (hv:∀ i∈vs,M.Ms i=false) (hms:M.Ms i=ms) (hio:M.Fre i) (hq:tS M (Ai ms i f vs) D σ H):BZ (tE M f vs) (DO i) D σ H:=by
 obtain ⟨ρ,fps,rep,q⟩:=hq;refine ⟨ρ,fps,rep,?_⟩;unfold Ai at q;cases ef:f ρ with
 | no=>rw [ef] at q;exact q
 | exc c=>rw [ef] at q;exact λ H' fps' k=>q _ H' fps' k.ks
 | ok p=>
  obtain ⟨x,d,ρ1⟩:=p;rw [ef] at q;intro v H1 fps1 f1 k1 g1 rep1 o1 t1;dsimp only at q;by_cases hc:i < ρ1.length/\(ms=true->d=om)
  ·rw [if_pos hc] at q;obtain ⟨fps2,k2,r2⟩:=Rep.store rep k1 g1 rep1 o1 t1 hal hv hc.1 (λ h=>hc.2 (by rw [<- hms];exact h)) hio;exact q _ _ _ k2 r2
  ·rw [if_neg hc] at q;exact q.elim
end
section
variable {M:Fm}{ρ ρ':Ag}{σ σ':St}{H H' H'':Hp}{fps fps' fps'':AB}{vs vs':List Nat}
def Zr.zf {a:Addr} (h:Zr M fps a):Zf M fps a:=h.elim .inl λ h=>.inr ⟨0,h.2⟩
def Rep.zr (r:Rep M ρ σ H fps) (hv:∀ i∈vs,M.Ms i=false) {a:Addr} (h:Zr M fps a):Zv M vs fps a:=by
 rcases h with h | ⟨h1,h2⟩
 ·exact .inl h
 ·refine .inr ⟨0,λ z=>?_,h2⟩;cases e:M.io with
  | none=>exact h1 e
  | some v=>have:=(r.iov.1 v e).2;rw [hv 0 z] at this;cases this
theorem Rep.h0' (r:Rep M ρ σ H fps) {a:Addr} (e:H a=none):M.H₀ a=none:=by
 cases e':M.H₀ a with
 | none=>rfl
 | some o=>exact absurd e (r.h0 a (by rw [e'];simp))
def As (f:Fx):Fs:=λ ρ=>match f ρ with
 | .ok (x,d,ρ1)=>.rt x d ρ1
 | .exc c=>.exc c
 | .no=>.no
theorem Wa {f:Fx}{D:Ends} (hv:∀ i∈vs,M.Ms i=false) (hq:tS M (As f) D σ H):FU (tE M f vs) D σ H:=by
 obtain ⟨ρ,fps,rep,q⟩:=hq;refine ⟨ρ,fps,rep,?_⟩;unfold As at q;cases ef:f ρ with
 | no=>rw [ef] at q;exact q
 | exc c=>rw [ef] at q;exact λ H' fps' k=>q _ H' fps' k.ks
 | ok p=>
  obtain ⟨x,d,ρ1⟩:=p;rw [ef] at q;intro v H1 fps1 f1 k1 g1 rep1 o1 t1;exact q v σ H1 fps1 f1 k1.ks rep1 (o1.weak λ a h=>h.elim (λ h=>.inl (rep1.zr hv h)) .inr) λ a ha=>⟨rep.h0' (t1.new a ha),λ z=>t1.ndj a ha z.zf⟩
def CZ (i:Nat):Fs:=λ ρ=>match ρ[i]? with
 | some (some (x,d))=>.rt x d ρ
 | _=>.no
theorem X8 {i:Nat}{D:Ends} (hal:∀ i,M.al i=[]) (hm:M.Ms i=false) (hq:tS M (CZ i) D σ H):FU (Bm i) D σ H:=by
 obtain ⟨ρ,fps,rep,q⟩:=hq;unfold CZ at q;cases e0:ρ[i]? with
 | none=>rw [e0] at q;exact q.elim
 | some sl=>
  cases sl with
  | none=>rw [e0] at q;exact q.elim
  | some p=>
   obtain ⟨x,d⟩:=p;rw [e0] at q;obtain ⟨v,hv,o⟩:=rep.own0 hal i x d e0;refine ⟨v,hv,q v σ H fps (fps i) KS.refl rep (o.weak λ a h=>h.elim Zr.zf λ z=>.inr ⟨i,z⟩) λ a ha=>⟨rep.fr i hm a ha,λ z=>?_⟩⟩;rcases z with z | ⟨z1,z2⟩
   ·exact rep.zo i a ha z
   ·cases e:M.io with
    | none=>exact z1 e
    | some w=>exact rep.dj i 0 (λ e'=>by rw [e',(rep.iov.1 w e).2] at hm;cases hm) a ha z2
def Bz (f:Fx):Fs:=λ ρ=>match f ρ with
 | .ok (_,_,ρ1)=>.nx ρ1
 | .exc c=>.exc c
 | .no=>.no
theorem SD {f:Fx}{D:Ends} (hq:tS M (Bz f) D σ H):GK (tE M f vs) D σ H:=by
 obtain ⟨ρ,fps,rep,q⟩:=hq;refine ⟨ρ,fps,rep,?_⟩;unfold Bz at q;cases ef:f ρ with
 | no=>rw [ef] at q;exact q
 | exc c=>rw [ef] at q;exact λ H' fps' k=>q _ H' fps' k.ks
 | ok p=>
  obtain ⟨x,d,ρ1⟩:=p;rw [ef] at q;intro v H1 fps1 f1 k1 g1 rep1 o1 t1;exact q σ H1 fps1 k1.ks rep1
theorem OwnL.snoc {K:Frag}{Z:Addr->Prop}{y:PV}{d:Nat}{w:V}{fy:List Addr}:∀ {xs:List PV}{ws:List V}{f:List Addr},OwnL K H Z xs d ws f->Own K H Z y d w fy->(∀ a∈f,a∉fy)->OwnL K H Z (xs++[y]) d (ws++[w]) (f++fy)
 | [],ws,f,h,hy,_=>by
  rw [OwnL] at h;obtain ⟨rfl,rfl⟩:=h;show OwnL K H Z [y] d [w] fy;rw [OwnL];refine ⟨w,[],fy,[],rfl,by simp,λ _ _ z=>(nomatch z),hy,?_⟩;rw [OwnL];exact ⟨rfl,rfl⟩
 | x::xs,ws,f,h,hy,hd=>by
  rw [OwnL] at h;obtain ⟨v,s,f1,f2,rfl,rfl,dj,h1,h2⟩:=h;show OwnL K H Z (x::(xs++[y])) d (v::(s++[w])) (f1++f2++fy);rw [OwnL];refine ⟨v,s++[w],f1,f2++fy,rfl,by rw [MB],λ a ha hb=>?_,h1,h2.snoc hy λ a ha=>hd a (AR _ ha)⟩;rcases jb8.mp hb with z | z
  ·exact dj a ha z
  ·exact hd a (AY _ ha) z
def Own.at {K:Frag}{Z Z':Addr->Prop}{a:Addr}{o:HO}{x:PV}{d:Nat}{v:V}{fp:List Addr} (h:Own K H Z x d v fp) (hZ:Z a) (hl:∃ o:MO,H a=some o.ho) (hf:a∉fp) (hz:∀ b,H b≠none->¬ Z b->¬ Z' b):Own K (Ao H a o) Z' x d v fp:=
 Own.move (S:=λ b=>b=a) (λ b u hb n=>by rw [AE n];exact hb) (λ b e=>by rw [e];exact ⟨hZ,hl⟩) hz x d v fp (λ b hb e=>hf (by rw [<- e];exact hb)) h
def OwnL.at {K:Frag}{Z Z':Addr->Prop}{a:Addr}{o:HO}{x:List PV}{d:Nat}{v:List V}{fp:List Addr} (h:OwnL K H Z x d v fp) (hZ:Z a) (hl:∃ o:MO,H a=some o.ho) (hf:a∉fp) (hz:∀ b,H b≠none->¬ Z b->¬ Z' b):OwnL K (Ao H a o) Z' x d v fp:=
 OwnL.move (S:=λ b=>b=a) (λ b u hb n=>by rw [AE n];exact hb) (λ b e=>by rw [e];exact ⟨hZ,hl⟩) hz x d v fp (λ b hb e=>hf (by rw [<- e];exact hb)) h
def Rep.rewrite {i:Nat}{xs:List PV}{d:Nat}{a:Addr}{ws:List V}{zs:List PV}{us:List V}{e:Nat}{f f' fp:List Addr} (hal:∀ i,M.al i=[]) (r:Rep (M.plus fp) ρ σ H fps) (hi:ρ[i]?=some (some (.lst xs,d))) (hσ:σ[i]?=some (some (.ref a)))
  (ha:H a=some (.lst ws)) (hfp:fps i=a::f) (hn:a∉f') (hsub:∀ b∈f',b∈f\/b∈fp) (he:e≠0) (hm:M.Ms i=true->e=om) (hH:∀ b∈fp,M.H₀ b=none/\¬ M.Zo b)
  (hnew:OwnL M.K (Ao H a (.lst us)) (Zf M (λ j=>if j=i then a::f' else fps j)) zs (pd e) us f'):
  Rep M (ρ.set i (some (.lst zs,e))) σ (Ao H a (.lst us)) (λ j=>if j=i then a::f' else fps j):=by
 have hlen:i < ρ.length:=(ja7.mp hi).1;have hai:a∈fps i:=by rw [hfp];exact AI
 have zz:∀ b,Zf M (λ j=>if j=i then a::f' else fps j) b->Zf (M.plus fp) fps b:=λ b h=>by
  rcases h with z | ⟨j,z⟩
  ·exact .inl (.inl z)
  ·by_cases ej:j=i
   ·simp only [if_pos ej] at z;rcases jb3.mp z with z | z
    ·exact .inr ⟨i,by rw [z];exact hai⟩
    ·rcases hsub b z with z | z
     ·exact .inr ⟨i,by rw [hfp];exact AA _ z⟩
     ·exact .inl (.inr z)
   ·simp only [if_neg ej] at z;exact .inr ⟨j,z⟩
 have dm:∀ b,H b≠none->(Ao H a (.lst us)) b≠none:=λ b h=>by
  by_cases eb:b=a
  ·rw [eb,Bx];simp
  ·rw [AE eb];exact h
 have inI:∀ b,b∈a::f'->b∈fps i\/b∈fp:=λ b hb=>by
  rcases jb3.mp hb with z | z
  ·exact .inl (by rw [z];exact hai)
  ·rcases hsub b z with z | z
   ·exact .inl (by rw [hfp];exact AA _ z)
   ·exact .inr z
 refine ⟨λ j y c hj=>?_,λ j hj=>?_,λ j k hjk b hb hc=>?_,λ j b hb z=>?_,λ j hj b hb=>?_,λ b z=>dm b (r.zd b (.inl z)),by rw [C1];exact r.len,λ j y c hj hc=>?_,λ b z=>dm b (r.h0 b z),r.iov⟩
 ·by_cases ej:j=i
  ·subst ej;rw [CH hlen] at hj;cases hj;refine ⟨_,hσ,?_⟩;rw [if_pos rfl,Own];exact ⟨a,us,rfl,.inr ⟨he,f',Bx,rfl,hn,hnew.weak λ _ h=>h.zf⟩⟩
  ·rw [BJ (Bv ej)] at hj;obtain ⟨w,hw,ow⟩:=r.own0 hal j y c hj;refine ⟨w,hw,?_⟩;rw [if_neg ej];exact ow.at (.inr ⟨i,hai⟩) ⟨.l ws,ha⟩ (λ z=>r.dj j i ej a z hai) λ b _ nz z=>nz (zz b z.zf)
 ·by_cases ej:j=i
  ·subst ej;exact absurd (CH hlen) (hj _)
  ·rw [if_neg ej];exact r.non j λ p hp=>hj p (by rw [BJ (Bv ej)];exact hp)
 ·have one:∀ k,k≠i->∀ b,b∈a::f'->b∈fps k->False:=λ k hk b h1 h2=>(inI b h1).elim (λ z=>r.dj i k (Bv hk) b z h2) λ z=>r.zo k b h2 (.inr z);by_cases e1:j=i
  ·by_cases e2:k=i
   ·exact hjk (e1.trans e2.symm)
   ·rw [if_pos e1] at hb;rw [if_neg e2] at hc;exact one k e2 b hb hc
  ·rw [if_neg e1] at hb;by_cases e2:k=i
   ·rw [if_pos e2] at hc;exact one j e1 b hc hb
   ·rw [if_neg e2] at hc;exact r.dj j k hjk b hb hc
 ·by_cases ej:j=i
  ·rw [if_pos ej] at hb;rcases inI b hb with y | y
   ·exact r.zo i b y (.inl z)
   ·exact (hH b y).2 z
  ·rw [if_neg ej] at hb;exact r.zo j b hb (.inl z)
 ·by_cases ej:j=i
  ·rw [if_pos ej] at hb;rcases inI b hb with y | y
   ·exact r.fr i (by rw [<- ej];exact hj) b y
   ·exact (hH b y).1
  ·rw [if_neg ej] at hb;exact r.fr j hj b hb
 ·by_cases ej:j=i
  ·subst ej;rw [CH hlen] at hc;cases hc;exact hm hj
  ·rw [BJ (Bv ej)] at hc;exact r.msf j y c hj hc
end
section
variable {M:Fm}{ρ ρ':Ag}{σ σ':St}{H H' H'':Hp}{fps fps' fps'':AB}{vs vs':List Nat}
def KS.write {a:Addr}{o:HO}{i:Nat}{f' fp:List Addr} (k:KS M H fps H' fps') (ha:∃ j,a∈fps j) (hs:∀ b∈a::f',b∈fps' i\/H b=none):
  KS M H fps (Ao H' a o) (λ j=>if j=i then a::f' else fps' j) where
 keep:=λ b u hb n=>by rw [AE (λ e=>n (by rw [e];exact ha))];exact k.keep b u hb n
 dom:=λ b hb=>by
  by_cases e:b=a
  ·rw [e,Bx];simp
  ·rw [AE e];exact k.dom b hb
 sub:=λ j b hb=>by
  by_cases e:j=i
  ·simp only [if_pos e] at hb;rcases hs b hb with z | z
   ·exact k.sub i b z
   ·exact .inr z
  ·simp only [if_neg e] at hb;exact k.sub j b hb
def Rep.behind {x:PV}{d:Nat}{v:V}{fp:List Addr} (rep:Rep M ρ σ H fps) (k:KD M H fps H' fps') (g:Agr M ρ ρ') (r':Rep M ρ' σ H' fps') (o:Own M.K H' (Zt M vs fps' fp) x d v fp) (t:Temp M vs H H' fps' fp)
  (hal:∀ i,M.al i=[]) (hv:∀ i∈vs,M.Ms i=false):∃ fps2,KS M H fps H' fps2/\Rep (M.plus fp) (Bk d vs ρ') σ H' fps2/\Own M.K H' (λ a=>Zf M fps2 a\/a∈fp) x d v fp/\(∀ a∈fp,¬ Zf M fps2 a)/\(∀ i a,a∈fps2 i->a∈fps' i)/\(∀ a∈fp,M.H₀ a=none/\¬ M.Zo a):=by
 have w:Rep (M.plus fp) ρ' σ H' fps':=rep.wide (λ i j hj=>by rw [hal i] at hj;cases hj) k g r' λ a ha=>⟨t.new a ha,by obtain ⟨xs,e⟩:=Own.lsts x d v fp o a ha;rw [e];simp,t.ndj a ha⟩
 have hf:∀ a∈fp,M.H₀ a=none/\¬ M.Zo a:=λ a ha=>⟨rep.h0' (t.new a ha),λ z=>t.ndj a ha (.inl z)⟩
 unfold Bk;by_cases hd:d=om
 ·rw [if_pos hd];refine ⟨fps',k.ks,w,?_,t.ndj,λ _ _ h=>h,hf⟩;rw [hd] at o ⊢;exact Own.full x v fp o
 ·rw [if_neg hd];exact ⟨DB vs fps',k.ks.cool,w.cool hal hv,o.weak λ a h=>h.elim (λ h=>.inl (Hg h)) .inr,λ a ha z=>t.ndj a ha (Hg z).zf,λ _ _ h=>(EZ h).1,hf⟩
def BE (i:Nat) (f:Fx) (vs:List Nat):Fs:=λ ρ=>match ρ[i]? with
 | some (some (.lst _,0))=>.no
 | some (some (.lst _,_ + 1))=>(match f ρ with
  | .ok (y,e,ρ1)=>(match (Bk e vs ρ1)[i]? with
   | some (some (.lst xs,d))=>if d≠0/\xs.length < An then .nx ((Bk e vs ρ1).set i (some (.lst (xs++[y]),if d=om/\e=om then om else 1))) else .no
   | _=>.no)
  | .exc c=>.exc c
  | .no=>.no)
 | _=>.no
def Jw:pd 1=0:=by decide
def Own.list {K:Frag}{Z:Addr->Prop}{xs:List PV}{d:Nat}{v:V}{fp:List Addr} (h:Own K H Z (.lst xs) d v fp) (hd:d≠0):∃ a ws f,v=.ref a/\H a=some (.lst ws)/\fp=a::f/\a∉f/\OwnL K H Z xs (pd d) ws f:=by
 rw [Own] at h;obtain ⟨a,ws,e,⟨d0,_⟩ | ⟨_,f,h1,h2,h3,h4⟩⟩:=h
 ·exact absurd d0 hd
 ·exact ⟨a,ws,f,e,h1,h2,h3,h4⟩
def VU {f:Fx}{i:Nat}{D:Ends} (hal:∀ i,M.al i=[]) (hv:∀ i∈vs,M.Ms i=false) (hm:M.Ms i=false) (hq:tS M (BE i f vs) D σ H):GK (LV M.K "list" Nq (Bm i) (GJ (tE M f vs) EE)) D σ H:=by
 obtain ⟨ρ,fps,rep,q⟩:=hq;unfold BE at q;split at q
 ·exact q.elim
 ·rename_i xs0 d0 e0;obtain ⟨v,hσ,o⟩:=rep.own0 hal i _ _ e0;obtain ⟨a,ws0,fc0,rfl,ha0,hfp0,_,_⟩:=o.list (Kv _);refine ⟨_,hσ,Ju (.inl (.inl ha0)),ρ,fps,rep,?_⟩;cases ef:f ρ with
  | no=>rw [ef] at q;exact q
  | exc c=>rw [ef] at q;exact λ H' fps' k=>q _ H' fps' k.ks
  | ok p=>
   obtain ⟨y,e,ρ1⟩:=p;rw [ef] at q;intro w H1 fps1 fp k1 g1 rep1 o1 t1;dsimp only at q;split at q
   ·rename_i xs d es;split at q
    ·rename_i hc;obtain ⟨fps2,k2,r2,o2,n2,s2,h2⟩:=Rep.behind rep k1 g1 rep1 o1 t1 hal hv;obtain ⟨v',hσ',ol⟩:=r2.own0 hal i _ _ es;rw [hσ] at hσ';cases hσ';obtain ⟨a',ws,fc,ev,ha,hfp,nac,hol⟩:=ol.list hc.1;cases ev;have hai:a∈fps2 i:=by rw [hfp];exact AI
     have hafp:a∉fp:=λ z=>n2 a z (.inr ⟨i,hai⟩);have hst:∃ j,a∈fps j:=⟨i,by have:=s2 i a hai;rw [k1.same i hm] at this;exact this⟩
     refine ⟨a,ws,w,rfl,rfl,ha,by rw [hol.length];exact hc.2,?_⟩;by_cases ho:d=om/\e=om
     ·rw [if_pos ho] at q;obtain ⟨rfl,rfl⟩:=ho;refine q σ _ _ (k2.write (i:=i) (f':=fc++fp) (fp:=fp) hst λ b hb=>?_) (r2.rewrite hal es hσ ha hfp (λ z=>(jb8.mp z).elim nac hafp) (λ b hb=>jb8.mp hb) (by decide) (λ _=>rfl) h2 ?_)
      ·rcases jb3.mp hb with z | z
       ·exact .inl (by rw [z];exact hai)
       ·rcases jb8.mp z with z | z
        ·exact .inl (by rw [hfp];exact AA _ z)
        ·exact .inr (t1.new b z)
      ·have u1:OwnL M.K (Ao H1 a (.lst (ws++[w]))) (λ _=>True) xs om ws fc:=(OwnL.full (Z':=λ _=>True) xs ws fc hol).at trivial ⟨.l ws,ha⟩ nac λ _ _ n=>absurd trivial n;have u2:Own M.K (Ao H1 a (.lst (ws++[w]))) (λ _=>True) y om w fp:=(Own.full (Z':=λ _=>True) y w fp o2).at trivial ⟨.l ws,ha⟩ hafp λ _ _ n=>absurd trivial n;exact OwnL.full _ _ _ (u1.snoc u2 λ b hb z=>n2 b z (.inr ⟨i,by rw [hfp];exact AA _ hb⟩))
     ·rw [if_neg ho] at q;refine q σ _ _ (k2.write (i:=i) (f':=[]) (fp:=fp) hst λ b hb=>?_) (r2.rewrite hal es hσ ha hfp (λ z=>nomatch z) (λ b hb=>nomatch hb) (by decide) (λ h=>by rw [hm] at h;cases h) h2 ?_)
      ·rcases jb3.mp hb with z | z
       ·exact .inl (by rw [z];exact hai)
       ·cases z
      ·rw [Jw];have zsub:∀ b,Zf M (λ j=>if j=i then [a] else fps2 j) b->Zf (M.plus fp) fps2 b:=λ b h=>by
        rcases h with z | ⟨j,z⟩
        ·exact .inl (.inl z)
        ·by_cases ej:j=i
         ·simp only [if_pos ej] at z;rw [jb6.mp z];exact .inr ⟨i,hai⟩
         ·simp only [if_neg ej] at z;exact .inr ⟨j,z⟩
       have nf:∀ b∈fc,¬ Zf M (λ j=>if j=i then [a] else fps2 j) b:=λ b hb z=>by
        have hbi:b∈fps2 i:=by rw [hfp];exact AA _ hb
        rcases z with z | ⟨j,z⟩
        ·exact r2.zo i b hbi (.inl z)
        ·by_cases ej:j=i
         ·simp only [if_pos ej] at z;rw [jb6.mp z] at hb;exact nac hb
         ·simp only [if_neg ej] at z;exact r2.dj i j (Bv ej) b hbi z
       have nfp:∀ b∈fp,¬ Zf M (λ j=>if j=i then [a] else fps2 j) b:=λ b hb z=>by
        rcases z with z | ⟨j,z⟩
        ·exact n2 b hb (.inl z)
        ·by_cases ej:j=i
         ·simp only [if_pos ej] at z;rw [jb6.mp z] at hb;exact hafp hb
         ·simp only [if_neg ej] at z;exact n2 b hb (.inr ⟨j,z⟩)
       have za:Zf M (λ j=>if j=i then [a] else fps2 j) a:=.inr ⟨i,by simp⟩;have u1:=(OwnL.freeze (Z':=Zf M (λ j=>if j=i then [a] else fps2 j)) zsub xs _ ws fc nf hol)
       have u2:=(Own.freeze (Z':=Zf M (λ j=>if j=i then [a] else fps2 j)) (λ b h=>by
        rcases h with z | ⟨j,z⟩
        ·exact .inl (.inl z)
        ·by_cases ej:j=i
         ·simp only [if_pos ej] at z;rw [jb6.mp z];exact .inl (.inr ⟨i,hai⟩)
         ·simp only [if_neg ej] at z;exact .inl (.inr ⟨j,z⟩)) y _ w fp nfp o2)
       exact (u1.at za ⟨.l ws,ha⟩ (λ z=>nomatch z) λ _ _ n=>n).snoc (u2.at za ⟨.l ws,ha⟩ (λ z=>nomatch z) λ _ _ n=>n) λ _ z=>nomatch z
    ·exact q.elim
   ·exact q.elim
 ·exact q.elim
def Hm:PV->Bool
 | .lst _=>false
 | .tup _=>false
 | .dct _=>false
 | _=>true
theorem OwnL.set {K:Frag}{Z:Addr->Prop}{y:PV}{d:Nat}{w:V} (hy:Own K H Z y d w []):∀ {xs:List PV}{ws:List V}{f:List Addr} (k:Nat),OwnL K H Z xs d ws f->∃ f',(∀ b∈f',b∈f)/\OwnL K H Z (xs.set k y) d (ws.set k w) f'
 | [],ws,f,k,h=>by
  rw [OwnL] at h;obtain ⟨rfl,rfl⟩:=h;refine ⟨[],λ _ z=>z,?_⟩;rw [M5,M5,OwnL];exact ⟨rfl,rfl⟩
 | x::xs,ws,f,0,h=>by
  rw [OwnL] at h;obtain ⟨v,s,f1,f2,rfl,rfl,dj,h1,h2⟩:=h;refine ⟨f2,λ b hb=>AR _ hb,?_⟩;rw [Jh,Jh,OwnL];exact ⟨w,s,[],f2,rfl,rfl,λ _ z=>(nomatch z),hy,h2⟩
 | x::xs,ws,f,k + 1,h=>by
  rw [OwnL] at h;obtain ⟨v,s,f1,f2,rfl,rfl,dj,h1,h2⟩:=h;obtain ⟨f',hs,h'⟩:=h2.set hy k;refine ⟨f1++f',λ b hb=>(jb8.mp hb).elim (λ z=>AY _ z) λ z=>AR _ (hs b z),?_⟩;rw [Jg,Jg,OwnL];exact ⟨v,s.set k w,f1,f',rfl,rfl,λ b hb hc=>dj b hb (hs b hc),h1,h'⟩
theorem Own.atom {K:Frag}{Z Z':Addr->Prop}{y:PV}{d d':Nat}{w:V}{fp:List Addr} (hy:Hm y=true) (h:Own K H Z y d w fp):fp=[]/\Own K H Z' y d' w []:=by
 cases y with
 | lst _=>cases hy
 | tup _=>cases hy
 | dct _=>cases hy
 | exn _=>rw [Own] at h ⊢;exact ⟨h.1,rfl,h.2⟩
 | emp=>rw [Own] at h ⊢;exact ⟨h.1,rfl,h.2⟩
 | dko=>rw [Own] at h ⊢;exact ⟨h.1,rfl,h.2⟩
 | scr _=>rw [Own] at h ⊢;exact ⟨h.1,rfl,h.2⟩
 | non=>rw [Own] at h ⊢;exact ⟨h.2,h.1,rfl⟩
 | bl _=>rw [Own] at h ⊢;exact ⟨h.2,h.1,rfl⟩
 | int _=>rw [Own] at h ⊢;exact ⟨h.2,h.1,rfl⟩
 | str _=>rw [Own] at h ⊢;exact ⟨h.2,h.1,rfl⟩
def HK (i:Nat) (k:Int) (f:Fx):Fs:=λ ρ=>match f ρ with
 | .ok (y,_,ρ1)=>(match ρ1[i]? with
  | some (some (.lst xs,d))=>(match Bh xs.length k with
   | some j=>if d≠0/\Hm y=true then .nx (ρ1.set i (some (.lst (xs.set j y),d))) else .no
   | none=>.no)
  | _=>.no)
 | .exc c=>.exc c
 | .no=>.no
theorem VZ {f:Fx}{i:Nat}{k:Int}{D:Ends} (hal:∀ i,M.al i=[]) (hv:∀ i∈vs,M.Ms i=false) (hq:tS M (HK i k f) D σ H):BZ (tE M f vs) (ET (Bm i) (tC (.int k)) Kg) D σ H:=by
 obtain ⟨ρ,fps,rep,q⟩:=hq;refine ⟨ρ,fps,rep,?_⟩;unfold HK at q;cases ef:f ρ with
 | no=>rw [ef] at q;exact q
 | exc c=>rw [ef] at q;exact λ H' fps' k=>q _ H' fps' k.ks
 | ok p=>
  obtain ⟨y,e,ρ1⟩:=p;rw [ef] at q;intro w H1 fps1 fp k1 g1 rep1 o1 t1;dsimp only at q;split at q
  ·rename_i xs d es;split at q
   ·rename_i j ej;split at q
    ·rename_i hc;obtain ⟨rfl,_⟩:=Own.atom (Z':=λ _=>True) (d':=0) hc.2 o1;obtain ⟨v',hσ',ol⟩:=rep1.own0 hal i _ _ es;obtain ⟨a,ws,fc,rfl,ha,hfp,nac,hol⟩:=ol.list hc.1;have hai:a∈fps1 i:=by rw [hfp];exact AI
     refine ⟨_,hσ',a,ws,k,j,rfl,rfl,ha,by rw [hol.length];exact ej,?_⟩;have rp:Rep (M.plus []) ρ1 σ H1 fps1:=rep.wide (λ i j hj=>by rw [hal i] at hj;cases hj) k1 g1 rep1 λ b hb=>nomatch hb
     obtain ⟨fc',hs',hset⟩:=hol.set (Own.atom (d':=pd d) hc.2 o1).2 j;have inI:∀ b,b∈a::fc'->b∈fps1 i:=λ b hb=>(jb3.mp hb).elim (λ z=>by rw [z];exact hai) λ z=>by rw [hfp];exact AA _ (hs' b z)
     have hst:KS M H fps (Ao H1 a (.lst (ws.set j w))) (λ j=>if j=i then a::fc' else fps1 j):=by
      refine ⟨λ b u hb n=>?_,λ b hb=>?_,λ j b hb=>?_⟩
      ·have hb1:=k1.ks.keep b u hb n;rw [AE]
       ·exact hb1
       ·rintro rfl;rcases k1.ks.sub i b hai with z | z
        ·exact n z
        ·rw [z] at hb;cases hb
      ·by_cases eb:b=a
       ·rw [eb,Bx];simp
       ·rw [AE eb];exact k1.dom b hb
      ·by_cases ej:j=i
       ·simp only [if_pos ej] at hb;exact k1.ks.sub i b (inI b hb)
       ·simp only [if_neg ej] at hb;exact k1.ks.sub j b hb
     refine q σ _ _ hst (rp.rewrite hal es hσ' ha hfp (λ z=>nac (hs' a z)) (λ b hb=>.inl (hs' b hb)) hc.1 (λ h=>rep1.msf i _ _ h es) (λ b hb=>nomatch hb) ?_);have nz:∀ b,Zf M (λ j=>if j=i then a::fc' else fps1 j) b->Zf M fps1 b:=λ b h=>by
      rcases h with z | ⟨j,z⟩
      ·exact .inl z
      ·by_cases ej:j=i
       ·simp only [if_pos ej] at z;exact .inr ⟨i,inI b z⟩
       ·simp only [if_neg ej] at z;exact .inr ⟨j,z⟩
     exact hset.at (.inr ⟨i,hai⟩) ⟨.l ws,ha⟩ (λ z=>nac (hs' a z)) λ b _ n z=>n (nz b z)
    ·exact q.elim
   ·exact q.elim
  ·exact q.elim
end
section
variable {is:List Nat}{M:Fm}{ρ ρ':Ag}{σ σ':St}{H H' H'':Hp}{fps fps' fps'':AB}{vs vs':List Nat}
def Rep.plus0 (hal:∀ i,∀ j∈M.al i,M.Ms j=false) (r:Rep M ρ σ H fps):Rep (M.plus []) ρ σ H fps:=r.wide hal KD.refl Agr.refl r (λ _ z=>nomatch z)
def D7 (M:Fm) (al is:List Nat) (g:TG) (asg:PV->Ag->Option Ag):Prop:=∀ y v ρ σ H fps ρ' (Q:St->Hp->Prop),Rep M ρ σ H fps->Own M.K H (Zv M al fps) y 0 v []->asg y ρ=some ρ'->(∀ σ' fps',(∀ i,∀ a∈fps' i,a∈fps i)->(∀ i,i∉is->ρ'[i]?=ρ[i]?/\fps' i=fps i/\σ'[i]?=σ[i]?)->ρ'.length=ρ.length->Rep M ρ' σ' H fps'->Q σ' H)->g v σ H Q
def asgN (i:Nat):PV->Ag->Option Ag:=λ y ρ=>if i < ρ.length then some (ρ.set i (some (y,dv y))) else none
def Own.dv {K:Frag}{Z:Addr->Prop}{x:PV}{v:V} (h:Own K H Z x 0 v []):Own K H Z x (dv x) v []:=Own.view (fp:=[]) (λ _ z=>z) (λ _ z=>nomatch z) h
structure Bd (M:Fm) (al:List Nat) (i:Nat):Prop where
 ms:M.Ms i=false
 io:M.Fre i
 al:M.al i=al
 als:∀ i,∀ j∈M.al i,M.Ms j=false
def Rep.bind1 {al:List Nat}{i:Nat}{y:PV}{v:V} (r:Rep M ρ σ H fps) (o:Own M.K H (Zv M al fps) y 0 v []) (hi:i < ρ.length) (b:Bd M al i):
  Rep M (ρ.set i (some (y,dv y))) (σ.set i (some v)) H (λ j=>if j=i then [] else fps j):=by
 refine (r.plus0 b.als).put (o.dv.weak λ a h=>h.elim (λ h=>?_) λ z=>nomatch z) (λ _ z=>nomatch z) hi (λ h=>by rw [b.ms] at h;cases h) b.io;rcases h with h | ⟨j,nj,h⟩
 ·exact .inl h
 ·exact .inr ⟨j,by rw [b.al] at nj;exact nj,h⟩
def R3 {al:List Nat}{i:Nat} (b:Bd M al i):D7 M al [i] (DO i) (asgN i):=by
 intro y v ρ σ H fps ρ' Q r o e q;unfold asgN at e;split at e
 ·rename_i hi;cases e;refine q _ _ (λ j a ha=>?_) (λ j nj=>?_) (by rw [C1]) (r.bind1 o hi b)
  ·by_cases e:j=i
   ·simp only [if_pos e] at ha;cases ha
   ·simp only [if_neg e] at ha;exact ha
  ·have e:j≠i:=λ e=>nj (by simp [e]);exact ⟨BJ (Bv e),if_neg e,BJ (Bv e)⟩
 ·cases e
def IG:List Nat->Hc
 | []=>K3
 | i::is=>QD (DO i) (IG is)
def Cd:List Nat->List PV->Ag->Option Ag
 | [],[],ρ=>some ρ
 | i::is,y::ys,ρ=>(asgN i y ρ).bind (Cd is ys)
 | _,_,_=>none
def asgT (is:List Nat):PV->Ag->Option Ag:=λ y ρ=>match y with
 | .tup ys=>Cd is ys ρ
 | _=>none
theorem Sr {al:List Nat}:∀ (is:List Nat) (ys:List PV) (ws:List V) (ρ:Ag) (σ:St) (H:Hp) (fps:AB) (ρ':Ag) (Q:St->Hp->Prop),(∀ i∈is,Bd M al i)->Rep M ρ σ H fps->OwnL M.K H (Zv M al fps) ys 0 ws []->Cd is ys ρ=some ρ' ->
  (∀ σ' fps',(∀ i,∀ a∈fps' i,a∈fps i)->(∀ i,i∉is->ρ'[i]?=ρ[i]?/\fps' i=fps i/\σ'[i]?=σ[i]?)->ρ'.length=ρ.length->Rep M ρ' σ' H fps'->Q σ' H)->ws.length=is.length/\IG is ws σ H Q
 | [],[],ws,ρ,σ,H,fps,ρ',Q,_,r,o,e,q=>by
  rw [OwnL] at o;obtain ⟨rfl,_⟩:=o;cases e;exact ⟨rfl,rfl,q σ fps (λ _ _ h=>h) (λ _ _=>⟨rfl,rfl,rfl⟩) rfl r⟩
 | [],_::_,_,_,_,_,_,_,_,_,_,_,e,_=>by cases e
 | _::_,[],_,_,_,_,_,_,_,_,_,_,e,_=>by cases e
 | i::is,y::ys,ws,ρ,σ,H,fps,ρ',Q,hs,r,o,e,q=>by
  rw [OwnL] at o;obtain ⟨v,s,f1,f2,rfl,ef,_,o1,o2⟩:=o;obtain ⟨rfl,rfl⟩:f1=[]/\f2=[]:=by simpa using ef.symm
  unfold Cd at e;cases e1:asgN i y ρ with
  | none=>rw [e1] at e;cases e
  | some ρ1=>
   rw [e1] at e;unfold asgN at e1;split at e1
   ·rename_i hi;cases e1;have bi:=hs i AI;have r':=r.bind1 o1 hi bi;have sub:∀ j a,a∈(λ j=>if j=i then [] else fps j) j->a∈fps j:=λ j a z=>by
     by_cases ej:j=i
     ·simp only [if_pos ej] at z;cases z
     ·simp only [if_neg ej] at z;exact z
    have o2':OwnL M.K H (Zv M al (λ j=>if j=i then [] else fps j)) ys 0 s []:=o2.weak λ a h=>h.elim .inl λ ⟨j,nj,z⟩=>.inr ⟨j,nj,sub j a z⟩;obtain ⟨hl,hg⟩:=Sr is ys s _ _ H _ ρ' Q (λ j hj=>hs j (AA _ hj)) r' o2' e λ σ' fps' k' a' l' r''=>q σ' fps' (λ j a ha=>sub j a (k' j a ha)) (λ j hj=>by
     have ej:j≠i:=λ e=>hj (by rw [e];exact AI);obtain ⟨z1,z2,z3⟩:=a' j λ z=>hj (AA _ z);rw [if_neg ej] at z2;exact ⟨z1.trans (BJ (Bv ej)),z2,z3.trans (BJ (Bv ej))⟩) (l'.trans (by rw [C1])) r''
    exact ⟨by rw [BP,BP,hl],v,s,rfl,hg⟩
   ·cases e1
def Oa {al:List Nat}{is:List Nat} (hs:∀ i∈is,Bd M al i):D7 M al is (Ie M.K is.length (IG is)) (asgT is):=by
 intro y v ρ σ H fps ρ' Q r o e q;unfold asgT at e;split at e
 ·rename_i ys;rw [Own] at o;obtain ⟨a,ws,rfl,hr,ol⟩:=o;obtain ⟨hl,hg⟩:=Sr is ys ws ρ σ H fps ρ' Q hs r ol e q;exact ⟨a,ws,rfl,.inl (.inl hr),hl,hg⟩
 ·cases e
def BQ (asg:PV->Ag->Option Ag) (body:Fs):List PV->Ag->Rs
 | [],ρ=>.nx ρ
 | x::xs,ρ=>match asg x ρ with
  | none=>.no
  | some ρ1=>match body ρ1 with
   | .nx ρ2=>BQ asg body xs ρ2
   | .ct ρ2=>BQ asg body xs ρ2
   | .bk ρ2=>.nx ρ2
   | .rt x d ρ2=>.rt x d ρ2
   | .exc c=>.exc c
   | .no=>.no
def Lp {g:TG}{asg:PV->Ag->Option Ag}{body:Fs}{D:Ends}{J:It}{els:List PV}{Pq:Hp->AB->Prop} (hg:D7 M [] is g asg)
  (hP:∀ {ρ σ H fps H' fps'},Rep M ρ σ H fps->KS M H fps H' fps'->Pq H fps->Pq H' fps') (hgo:∀ {H fps i},Pq H fps->i < els.length->J.go i H) (hst:∀ {H fps i},Pq H fps->els.length<=i->J.stop i H)
  (hy:∀ {ρ σ H fps i x H'},Rep M ρ σ H fps->Pq H fps->i < els.length->J.yld i H x H'->(∀ a o,H a=some o->H' a=some o)/\∃ y,els[i]?=some y/\Own M.K H' (Zf M fps) y 0 x [])
  (rep:Rep M ρ σ H fps) (p:Pq H fps) (q:RsOk M D H fps (BQ asg body els ρ)):
  ∃ W:Nat->Nat->St->Hp->Prop,(∃ m,W 0 m σ H)/\∀ i m σ H,W i m σ H ->
   (J.stop i H/\D.nx σ H)\/(J.go i H/\∃ N:St->Hp->Prop,(∀ σ' H',N σ' H'->∃ m',m' < m/\W (i + 1) m' σ' H')/\∀ x H',J.yld i H x H'->g x σ H' λ σ2 H2=>(tS M body) { D with nx:=N,ct:=N,bk:=D.nx } σ2 H2):=by
 let W:Nat->Nat->St->Hp->Prop:=λ i m σ H=>m=els.length - i/\∃ ρ fps,Rep M ρ σ H fps/\Pq H fps/\RsOk M D H fps (BQ asg body (els.drop i) ρ);refine ⟨W,⟨els.length,by simp,ρ,fps,rep,p,by simpa using q⟩,?_⟩;rintro i m σ H ⟨rfl,ρ,fps,r,p,q⟩;by_cases hi:i < els.length
 ·right
  refine ⟨hgo p hi,W (i + 1) (els.length - (i + 1)),λ σ' H' w=>⟨_,by omega,w⟩,λ x H' y=>?_⟩;obtain ⟨kx,z,ez,oz⟩:=hy r p hi y;have k0:KS M H fps H' fps:=(KD.grow kx).ks;have p:=hP r k0 p;have r:=r.grow kx;have q:=RsOk.from k0 q;have ed:els.drop i=z::els.drop (i + 1):=by
   obtain ⟨h1,h2⟩:=ja7.mp ez;rw [<- h2];exact T7 h1
  rw [ed] at q;unfold BQ at q;cases ea:asg z ρ with
  | none=>rw [ea] at q;exact q.elim
  | some ρ1=>
   rw [ea] at q;dsimp only at q;refine hg z x ρ σ _ fps ρ1 _ r (oz.weak λ a h=>h.zf) ea λ σ1 fps1 s1 _ _ r1=>⟨ρ1,fps1,r1,?_⟩
   have k1:KS M H' fps H' fps1:=⟨λ _ _ h _=>h,λ _ h=>h,λ j a ha=>.inl ⟨j,s1 j a ha⟩⟩
   have p1:=hP r k1 p;cases eb:body ρ1 with
   | no=>rw [eb] at q;exact q
   | exc c=>rw [eb] at q;exact RsOk.from (r:=.exc c) k1 q
   | rt x d ρ2=>rw [eb] at q;exact RsOk.from (r:=.rt x d ρ2) k1 q
   | bk ρ2=>rw [eb] at q;exact λ σ' H' fps' k=>q σ' H' fps' (k1.trans k)
   | nx ρ2=>rw [eb] at q;exact λ σ' H' fps' k r'=>⟨rfl,ρ2,fps',r',hP r1 k p1,RsOk.from (k1.trans k) q⟩
   | ct ρ2=>rw [eb] at q;exact λ σ' H' fps' k r'=>⟨rfl,ρ2,fps',r',hP r1 k p1,RsOk.from (k1.trans k) q⟩
 ·left
  have ed:els.drop i=[]:=T2 (by omega);rw [ed] at q;exact ⟨hst p (by omega),q σ H fps KS.refl r⟩
def E6 (lo:Int) (n:Nat):List PV:=(Bb n).map λ (i:Nat)=>PV.int (lo + (i:Int))
def Iv (lo:Int) (n:Nat):(E6 lo n).length=n:=by simp [E6]
def BL:List (PV×Nat)->Option (Int×Int)
 | [(.int j,_)]=>if -(2 ^ 62)<=j/\j < 2 ^ 62 then some (0,j) else none
 | _=>none
def EB:List (PV×Nat)->Option (Int×Int)
 | [(.int i,_),(.int j,_)]=>if -(2 ^ 62)<=i/\i < 2 ^ 62/\-(2 ^ 62)<=j/\j < 2 ^ 62 then some (i,j) else none
 | _=>none
def CK (en:List (PV×Nat)->Option (Int×Int)) (fa:Fa) (asg:PV->Ag->Option Ag) (body:Fs):Fs:=λ ρ=>match fa ρ with
 | .ok (xs,ρ1)=>(match en xs with
  | some (i,j)=>BQ asg body (E6 i (j - i).toNat) ρ1
  | none=>.no)
 | .exc c=>.exc c
 | .no=>.no
def P0 {g:TG}{asg:PV->Ag->Option Ag}{body:Fs}{D:Ends}{lo:Int}{n:Nat} (hg:D7 M [] is g asg) (rep:Rep M ρ σ H fps) (q:RsOk M D H fps (BQ asg body (E6 lo n) ρ)):
  ∃ W:Nat->Nat->St->Hp->Prop,(∃ m,W 0 m σ H)/\∀ i m σ H,W i m σ H ->
   ((Fp lo n).stop i H/\D.nx σ H)\/((Fp lo n).go i H/\∃ N:St->Hp->Prop,(∀ σ' H',N σ' H'->∃ m',m' < m/\W (i + 1) m' σ' H')/\∀ x H',(Fp lo n).yld i H x H'->g x σ H' λ σ2 H2=>(tS M body) { D with nx:=N,ct:=N,bk:=D.nx } σ2 H2):=by
 refine Lp (Pq:=λ _ _=>True) hg (λ _ _ _=>trivial) (λ {H fps i} _ h=>?_) (λ {H fps i} _ h=>?_) (λ {ρ σ H fps i x H'} _ _ h y=>?_) rep trivial q
 ·rw [Iv] at h;exact h
 ·rw [Iv] at h;exact h
 ·rw [Iv] at h;obtain ⟨e1,e2⟩:=y;subst e1;exact ⟨λ _ _ h=>h,.int (lo + i),by simp [E6,h],by rw [e2,Own];exact ⟨rfl,rfl⟩⟩
theorem SE {g:TG}{asg:PV->Ag->Option Ag}{body:Fs}{fa:Fa}{D:Ends} (hg:D7 M [] is g asg) (hq:tS M (CK BL fa asg body) D σ H):FW (Mr (tL M fa vs)) g (tS M body) D σ H:=by
 obtain ⟨ρ,fps,rep,q⟩:=hq;refine ⟨ρ,fps,rep,?_⟩;unfold CK at q;cases ef:fa ρ with
 | no=>rw [ef] at q;exact q
 | exc c=>rw [ef] at q;exact λ H' fps' k=>q _ H' fps' k.ks
 | ok p=>
  obtain ⟨xs,ρ1⟩:=p;rw [ef] at q;intro ws H1 fps1 f1 k1 g1 rep1 o1 t1;dsimp only at q;cases ee:BL xs with
  | none=>rw [ee] at q;exact q.elim
  | some ij=>
   obtain ⟨i,j⟩:=ij;rw [ee] at q;unfold BL at ee;split at ee
   ·rename_i j' d;split at ee
    ·rename_i hb;cases ee;obtain ⟨v,r,f1,f2,rfl,_,_,h1,h2⟩:=o1;obtain ⟨rfl,_⟩:=h2;rw [Own] at h1;obtain ⟨rfl,_⟩:=h1;refine ⟨j,rfl,hb.1,hb.2,?_⟩;have e:(j - 0).toNat=j.toNat:=by omega
     dsimp only at q;rw [e] at q;exact P0 hg rep1 (RsOk.from k1.ks q)
    ·cases ee
   ·cases ee
theorem SG {g:TG}{asg:PV->Ag->Option Ag}{body:Fs}{fa:Fa}{D:Ends} (hg:D7 M [] is g asg) (hq:tS M (CK EB fa asg body) D σ H):FW (Mt (tL M fa vs)) g (tS M body) D σ H:=by
 obtain ⟨ρ,fps,rep,q⟩:=hq;refine ⟨ρ,fps,rep,?_⟩;unfold CK at q;cases ef:fa ρ with
 | no=>rw [ef] at q;exact q
 | exc c=>rw [ef] at q;exact λ H' fps' k=>q _ H' fps' k.ks
 | ok p=>
  obtain ⟨xs,ρ1⟩:=p;rw [ef] at q;intro ws H1 fps1 f1 k1 g1 rep1 o1 t1;dsimp only at q;cases ee:EB xs with
  | none=>rw [ee] at q;exact q.elim
  | some ij=>
   obtain ⟨i,j⟩:=ij;rw [ee] at q;unfold EB at ee;split at ee
   ·rename_i i' d j' d';split at ee
    ·rename_i hb;cases ee;obtain ⟨v,r,f1,f2,rfl,_,_,h1,h2⟩:=o1;obtain ⟨v2,r2,f3,f4,rfl,_,_,h3,h4⟩:=h2;obtain ⟨rfl,_⟩:=h4;rw [Own] at h1 h3;obtain ⟨rfl,_⟩:=h1;obtain ⟨rfl,_⟩:=h3;exact ⟨i,j,rfl,hb,P0 hg rep1 (RsOk.from k1.ks q)⟩
    ·cases ee
   ·cases ee
def Ex (z:Str):List PV:=z.cps.toList.map λ c=>.str ⟨#[c]⟩
def El (f:Fx) (vs:List Nat) (asg:PV->Ag->Option Ag) (body:Fs):Fs:=λ ρ=>match f ρ with
 | .ok (.str z,d,ρ1)=>if Mw z=true then BQ asg body (Ex z) (Bk d vs ρ1) else .no
 | .ok (.lst xs,d,ρ1)=>BQ asg body xs (Bk d vs ρ1)
 | .ok (.tup xs,d,ρ1)=>BQ asg body xs (Bk d vs ρ1)
 | .ok _=>.no
 | .exc c=>.exc c
 | .no=>.no
theorem OwnL.get {K:Frag}{Z:Addr->Prop}:∀ {xs:List PV}{ws:List V}{i:Nat}{w:V},OwnL K H Z xs 0 ws []->ws[i]?=some w->∃ x,xs[i]?=some x/\Own K H Z x 0 w []
 | [],ws,i,w,h,e=>by
  rw [OwnL] at h;obtain ⟨rfl,_⟩:=h;simp at e
 | x::xs,ws,i,w,h,e=>by
  rw [OwnL] at h;obtain ⟨v,s,f1,f2,rfl,ef,_,o1,o2⟩:=h;obtain ⟨rfl,rfl⟩:f1=[]/\f2=[]:=by simpa using ef.symm
  cases i with
  | zero=>simp at e;subst e;exact ⟨x,by simp,o1⟩
  | succ i=>obtain ⟨y,e1,e2⟩:=o2.get (i:=i) (w:=w) (by simpa using e);exact ⟨y,by simpa using e1,e2⟩
def Rep.seen {x:PV}{d:Nat}{v:V}{fp:List Addr} (rep:Rep M ρ σ H fps) (k:KD M H fps H' fps') (g:Agr M ρ ρ') (r':Rep M ρ' σ H' fps') (o:Own M.K H' (Zt M vs fps' fp) x d v fp) (t:Temp M vs H H' fps' fp)
  (hal:∀ i,M.al i=[]) (hv:∀ i∈vs,M.Ms i=false):∃ fps2,KS M H fps H' fps2/\Rep M (Bk d vs ρ') σ H' fps2/\Own M.K H' (Zf M fps2) x 0 v []:=by
 unfold Bk;by_cases hd:d=om
 ·rw [if_pos hd];rw [hd] at o;exact ⟨fps',k.ks,r',Own.freeze (λ _ z=>z) x om v fp (λ a ha=>t.ndj a ha) (Own.full x v fp o)⟩
 ·rw [if_neg hd];exact ⟨DB vs fps',k.ks.cool,r'.cool hal hv,Own.freeze (λ a h=>.inl (Hg h)) x d v fp (λ a ha z=>t.ndj a ha (Hg z).zf) o⟩
theorem SH {g:TG}{asg:PV->Ag->Option Ag}{body:Fs}{f:Fx}{D:Ends} (hal:∀ i,M.al i=[]) (hv:∀ i∈vs,M.Ms i=false) (hg:D7 M [] is g asg) (hq:tS M (El f vs asg body) D σ H):FW (ES M.K (tE M f vs)) g (tS M body) D σ H:=by
 obtain ⟨ρ,fps,rep,q⟩:=hq;refine ⟨ρ,fps,rep,?_⟩;unfold El at q;cases ef:f ρ with
 | no=>rw [ef] at q;exact q
 | exc c=>rw [ef] at q;exact λ H' fps' k=>q _ H' fps' k.ks
 | ok p=>
  obtain ⟨x,d,ρ1⟩:=p;rw [ef] at q;intro v H1 fps1 f1 k1 g1 rep1 o1 t1;obtain ⟨fps2,k2,r2,o2⟩:=Rep.seen rep k1 g1 rep1 o1 t1 hal hv;cases x with
  | lst xs=>
   have o2':=o2;rw [Own] at o2';obtain ⟨a,ws,rfl,⟨_,hr,_,ol⟩ | ⟨h,_⟩⟩:=o2'
   ·have sq:BU M.K H1 a ws:=.inl (.inl hr.1);refine .inl ⟨a,rfl,.inl ⟨⟨ws,sq⟩,?_⟩⟩;have one:∀ {H:Hp}{fps:AB},Own M.K H (Zf M fps) (.lst xs) 0 (.ref a) []->∃ ws,BU M.K H a ws/\OwnL M.K H (Zf M fps) xs 0 ws []:=λ o=>by
     rw [Own] at o;obtain ⟨b,ws,e,⟨_,hr,_,ol⟩ | ⟨h,_⟩⟩:=o
     ·cases e;exact ⟨ws,.inl (.inl hr.1),ol⟩
     ·exact absurd rfl h
    refine Lp (Pq:=λ H fps=>Own M.K H (Zf M fps) (.lst xs) 0 (.ref a) []) (els:=xs) hg (λ r k o=>k.stay0 r o) (λ {H fps i} o h=>?_) (λ {H fps i} o h=>?_) (λ {ρ σ H fps i x H'} _ o h y=>?_) r2 o2 (RsOk.from k2 q)
    ·obtain ⟨ws,s,ol⟩:=one o;exact ⟨ws,ws[i]'(by rw [ol.length];exact h),s,by simp⟩
    ·obtain ⟨ws,s,ol⟩:=one o;exact ⟨ws,s,by rw [ol.length];exact h⟩
    ·obtain ⟨ws,s,ol⟩:=one o;obtain ⟨e1,e2⟩:=y;subst e1;exact ⟨λ _ _ h=>h,ol.get (e2 ws s)⟩
   ·exact absurd rfl h
  | tup xs=>
   have o2':=o2;rw [Own] at o2';obtain ⟨a,ws,rfl,hr,ol⟩:=o2';refine .inl ⟨a,rfl,.inr ⟨⟨ws,.inl (.inl hr)⟩,?_⟩⟩;have one:∀ {H:Hp}{fps:AB},Own M.K H (Zf M fps) (.tup xs) 0 (.ref a) []->∃ ws,CA M.K H a ws/\OwnL M.K H (Zf M fps) xs 0 ws []:=λ o=>by
    rw [Own] at o;obtain ⟨b,ws,e,hr,ol⟩:=o;cases e;exact ⟨ws,.inl (.inl hr),ol⟩
   refine Lp (Pq:=λ H fps=>Own M.K H (Zf M fps) (.tup xs) 0 (.ref a) []) (els:=xs) hg (λ r k o=>k.stay0 r o) (λ {H fps i} o h=>?_) (λ {H fps i} o h=>?_) (λ {ρ σ H fps i x H'} _ o h y=>?_) r2 o2 (RsOk.from k2 q)
   ·obtain ⟨ws,s,ol⟩:=one o;exact ⟨ws,ws[i]'(by rw [ol.length];exact h),s,by simp⟩
   ·obtain ⟨ws,s,ol⟩:=one o;exact ⟨ws,s,by rw [ol.length];exact h⟩
   ·obtain ⟨ws,s,ol⟩:=one o;obtain ⟨e1,e2⟩:=y;subst e1;exact ⟨λ _ _ h=>h,ol.get (e2 ws s)⟩
  | str z=>
   have o2':=o2;rw [Own] at o2';obtain ⟨rfl,_⟩:=o2';dsimp only at q;split at q
   ·rename_i ha;refine .inr ⟨z,rfl,ha,?_⟩;have hl:(Ex z).length=z.cps.size:=by unfold Ex;rw [A9,Ky]
    refine Lp (Pq:=λ _ _=>True) (els:=Ex z) hg (λ _ _ _=>trivial) (λ {H fps i} _ h=>?_) (λ {H fps i} _ h=>?_) (λ {ρ σ H fps i x H'} _ _ h y=>?_) r2 trivial (RsOk.from k2 q)
    ·show i < z.cps.size;omega
    ·show z.cps.size<=i;omega
    ·obtain ⟨rfl,c,hc,rfl⟩:=y;refine ⟨λ _ _ h=>h,.str ⟨#[c]⟩,?_,by rw [Own];exact ⟨rfl,rfl⟩⟩;unfold Ex;rw [Cs,OS,hc];rfl
   ·exact q.elim
  | _=>exact q.elim
end
section
variable {M:Fm}{ρ ρ':Ag}{σ σ':St}{H H' H'':Hp}{fps fps' fps'':AB}{vs vs':List Nat}
def Fm.comp (M:Fm) (D:Addr) (n:Nat) (vI:List Nat):Fm:={ M.plus [D] with W:=λ _ _ _=>False,al:=λ j=>if j < n then M.al j else vI }
def Rep.minus {fp:List Addr} (r:Rep (M.plus fp) ρ σ H fps):Rep M ρ σ H fps where
 own:=λ i x d e=>let ⟨v,h1,h2⟩:=r.own i x d e;⟨v,h1,h2.weak λ a h=>h.elim (λ h=>.inl (.inl h)) .inr⟩
 non:=r.non
 dj:=r.dj
 zo:=λ i a ha z=>r.zo i a ha (.inl z)
 fr:=r.fr
 zd:=λ a z=>r.zd a (.inl z)
 len:=r.len
 msf:=r.msf
 h0:=r.h0
 iov:=r.iov
def Rep.far (r:Rep M ρ σ H fps) {j:Nat} (h:ρ.length<=j):fps j=[]:=r.non j λ p e=>by
 rw [jg2.mpr h] at e;cases e
def Rep.ext {D:Addr}{k:Nat}{vI:List Nat} (r:Rep (M.plus [D]) ρ σ H fps):Rep (M.comp D ρ.length vI) (ρ++A6 k none) (σ++A6 k none) H fps where
 own:=λ i x d e=>by
  by_cases hi:i < ρ.length
  ·rw [CU hi] at e;obtain ⟨v,h1,h2⟩:=r.own i x d e;refine ⟨v,by rw [CU (by rw [<- r.len];exact hi)];exact h1,h2.weak λ a h=>?_⟩;rcases h with h | ⟨j,nj,h⟩
   ·exact .inl h
   ·refine .inr ⟨j,?_,h⟩
    have:(M.comp D ρ.length vI).al i=M.al i:=if_pos hi
    rw [this] at nj;exact nj
  ·rw [Gn (by omega),Fl] at e;split at e <;> cases e
 non:=λ i h=>by
  by_cases hi:i < ρ.length
  ·exact r.non i λ p e=>h p (by rw [CU hi];exact e)
  ·exact r.far (by omega)
 dj:=r.dj
 zo:=r.zo
 fr:=r.fr
 zd:=r.zd
 len:=by simp [r.len]
 msf:=λ i x d hm e=>by
  by_cases hi:i < ρ.length
  ·rw [CU hi] at e;exact r.msf i x d hm e
  ·rw [Gn (by omega),Fl] at e;split at e <;> cases e
 h0:=r.h0
 iov:=⟨λ v hv=>by
  have h:=r.iov.1 v hv;refine ⟨?_,h.2⟩
  have:0 < σ.length:=(ja7.mp h.1).1
  rw [CU this];exact h.1,λ p hp=>by
  have h:=r.iov.2 p hp;rw [CU (ja7.mp h).1];exact h⟩
def Dr (n:Nat) (fps:AB):AB:=λ j=>if j < n then fps j else []
def Ft {n i:Nat}{a:Addr} (h:a∈Dr n fps i):a∈fps i/\i < n:=by
 unfold Dr at h;split at h
 ·rename_i hi;exact ⟨h,hi⟩
 ·cases h
def Rep.take {D:Addr}{n:Nat}{vI:List Nat} (r:Rep (M.comp D n vI) ρ σ H fps) (hσ:∀ i,i < n->σ[i]?=σ'[i]?) (hl:σ'.length=n) (hn:n<=ρ.length) (hio:(M.io≠none->0 < n)/\∀ p∈M.pn,p.1 < n):Rep (M.plus [D]) (ρ.take n) σ' H (Dr n fps) where
 own:=λ i x d e=>by
  have hi:i < n:=by
   have:=(ja7.mp e).1
   rw [EM] at this;omega
  rw [K1 hi] at e;obtain ⟨v,h1,h2⟩:=r.own i x d e;refine ⟨v,by rw [<- hσ i hi];exact h1,?_⟩
  have:Dr n fps i=fps i:=if_pos hi
  rw [this];refine h2.weak λ a h=>?_;rcases h with h | ⟨j,nj,h⟩
  ·exact .inl h
  ·refine .inr ⟨j,?_,(Ft h).1⟩
   have:(M.comp D n vI).al i=M.al i:=if_pos hi
   rw [this];exact nj
 non:=λ i h=>by
  unfold Dr;split
  ·rename_i hi;exact r.non i λ p e=>h p (by rw [K1 hi];exact e)
  ·rfl
 dj:=λ i j hij a ha hb=>r.dj i j hij a (Ft ha).1 (Ft hb).1
 zo:=λ i a ha=>r.zo i a (Ft ha).1
 fr:=λ i hi a ha=>r.fr i hi a (Ft ha).1
 zd:=r.zd
 len:=by rw [EM,hl];omega
 msf:=λ i x d hm e=>by
  have hi:i < n:=by
   have:=(ja7.mp e).1
   rw [EM] at this;omega
  rw [K1 hi] at e;exact r.msf i x d hm e
 h0:=r.h0
 iov:=⟨λ v hv=>by
  have h:=r.iov.1 v hv;refine ⟨?_,h.2⟩;have h0:0 < n:=hio.1 (by
   have hv':M.io=some v:=hv;rw [hv'];simp)
  rw [<- hσ 0 h0];exact h.1,λ p hp=>by rw [<- hσ p.1 (hio.2 p hp)];exact r.iov.2 p hp⟩
def Rep.touch {D:Addr}{us ws:List V} (r:Rep (M.plus [D]) ρ σ H fps) (hD:H D=some (.lst ws)):Rep (M.plus [D]) ρ σ (Ao H D (.lst us)) fps:=by
 have zD:(M.plus [D]).Zo D:=.inr (by simp);have dm:∀ b,H b≠none->(Ao H D (.lst us)) b≠none:=λ b h=>by
  by_cases eb:b=D
  ·rw [eb,Bx];simp
  ·rw [AE eb];exact h
 exact ⟨λ i x d e=>let ⟨v,h1,h2⟩:=r.own i x d e;⟨v,h1,h2.at (.inl zD) ⟨.l ws,hD⟩ (λ z=>r.zo i D z zD) λ _ _ n=>n⟩,r.non,r.dj,r.zo,r.fr,λ a z=>dm a (r.zd a z),r.len,r.msf,λ a z=>dm a (r.h0 a z),r.iov⟩
theorem Tmps.snoc {K:Frag}{Z:Addr->Prop}{y:PV}{e:Nat}{w:V}{fe:List Addr} (hy:Own K H (λ a=>Z a\/a∈fe) y e w fe):∀ {xs:List (PV×Nat)}{ws:List V}{fp:List Addr},Tmps K H Z xs ws fp->(∀ a∈fp,a∉fe)->Tmps K H Z (xs++[(y,e)]) (ws++[w]) (fp++fe)
 | [],ws,fp,h,_=>by
  obtain ⟨rfl,rfl⟩:=h;exact ⟨w,[],fe,[],rfl,by simp,λ _ _ z=>(nomatch z),hy,rfl,rfl⟩
 | (x,d)::xs,ws,fp,h,hd=>by
  obtain ⟨v,s,f1,f2,rfl,rfl,dj,h1,h2⟩:=h;refine ⟨v,s++[w],f1,f2++fe,rfl,by rw [MB],λ a ha hb=>?_,h1,h2.snoc hy λ a ha=>hd a (AR _ ha)⟩;rcases jb8.mp hb with z | z
  ·exact dj a ha z
  ·exact hd a (AY _ ha) z
theorem Tmps.at {K:Frag}{Z:Addr->Prop}{a:Addr}{o:HO} (hZ:Z a) (hl:∃ o:MO,H a=some o.ho):∀ {xs:List (PV×Nat)}{ws:List V}{fp:List Addr},Tmps K H Z xs ws fp->a∉fp->Tmps K (Ao H a o) Z xs ws fp
 | [],_,_,h,_=>h
 | (x,d)::xs,ws,fp,h,hf=>by
  obtain ⟨v,s,f1,f2,e1,rfl,dj,h1,h2⟩:=h;exact ⟨v,s,f1,f2,e1,rfl,dj,h1.at (.inl hZ) hl (λ z=>hf (AY _ z)) λ _ _ n=>n,h2.at hZ hl λ z=>hf (AR _ z)⟩
theorem Tmps.lsts {K:Frag}{Z:Addr->Prop}:∀ {xs:List (PV×Nat)}{ws:List V}{fp:List Addr},Tmps K H Z xs ws fp->∀ a∈fp,∃ o:MO,H a=some o.ho
 | [],_,_,h,a,ha=>by rw [h.2] at ha;cases ha
 | (x,d)::xs,ws,fp,h,a,ha=>by
  obtain ⟨v,s,f1,f2,e1,rfl,dj,h1,h2⟩:=h;rcases jb8.mp ha with z | z
  ·exact Own.lsts x d v f1 h1 a z
  ·exact h2.lsts a z
def Rz.bindN {α β:Type} (r:Rz α) (f:α->Rz β):Rz β:=match r with
 | .ok a=>f a
 | _=>.no
def BX (k:Nat) (asg:PV->Ag->Option Ag) (test:Fb) (elt:Fx):List PV->Ag->List (PV×Nat)->Rz (List (PV×Nat)×Ag)
 | [],ρ,acc=>.ok (acc,ρ)
 | x::xs,ρ,acc=>match asg x (ρ++A6 k none) with
  | none=>.no
  | some ρ1=>(test ρ1).bindN λ (b,ρ2)=>if b=true then (elt ρ2).bindN λ (y,e,ρ3)=>(if acc.length < An then BX k asg test elt xs (ρ3.take ρ.length) (acc++[(y,e)]) else .no) else BX k asg test elt xs (ρ2.take ρ.length) acc
def KD.seen {D:Addr}{x:PV}{v:V} (r:Rep M ρ σ H fps) (k:KD M H fps H' fps') (hD:H D=none) (hv:∀ i∈vs,M.Ms i=false) (o:Own M.K H (Zv M vs fps) x 0 v []):Own M.K H' (Zv (M.plus [D]) vs fps') x 0 v []:=by
 refine Own.move k.keep ?_ ?_ x 0 v [] (λ _ z=>nomatch z) o
 ·rintro a ⟨i,hi,ha⟩;exact ⟨.inr ⟨i,λ z=>(by rw [hv i z] at hi;cases hi),ha⟩,r.lsts ha⟩
 ·intro a hd nz z;rcases z with (z | z) | ⟨i,ni,hx⟩
  ·exact nz (.inl z)
  ·rw [jb6.mp z] at hd;exact hd hD
  ·rcases k.sub i a hx with z | z
   ·exact nz (.inr ⟨i,ni,z⟩)
   ·exact hd z
def KY {g:TG}{is vI vE vo:List Nat}{asg:PV->Ag->Option Ag}{test:Fb}{elt:Fx}{k:Nat}{J:It}{els:List PV}{Q:VK}{n:Nat}{P:Fm->Prop}
  (hP:∀ D,P (M.comp D n vI)) (hn:n=ρ.length) (hal:∀ i,∀ j∈M.al i,M.Ms j=false) (hvI:∀ i∈vI,M.Ms i=false) (hvE:∀ i∈vE,M.Ms i=false) (his:∀ i∈is,n<=i) (hg:∀ D,D7 (M.comp D n vI) vI is g asg) (hvo:∀ i,i∈vE->i < n->i∈vo) (hvo2:∀ i∈vo,M.Ms i=false)
  (rep:Rep M ρ σ H fps)
  (hgo:∀ {D H' fps' i},H D=none->KD M H fps H' fps'->i < els.length->J.go i H') (hst:∀ {D H' fps' i},H D=none->KD M H fps H' fps'->els.length<=i->J.stop i H')
  (hy:∀ {D H' fps' i x H''},H D=none->KD M H fps H' fps'->i < els.length->J.yld i H' x H''->(∀ a o,H' a=some o->H'' a=some o)/\∃ z,els[i]?=some z/\Own M.K H'' (Zv (M.plus [D]) vI fps') z 0 x [])
  (q:match BX k asg test elt els ρ [] with
   | .ok (acc,ρ')=>∀ D ws H' fps' fpl,KD M H fps H' fps'->Agr M ρ ρ'->Rep (M.plus [D]) ρ' σ H' fps'->H D=none->H' D=some (.lst ws)->Tmps M.K H' (Zv (M.plus [D]) vo fps') acc ws fpl->(∀ a∈fpl,H a=none/\¬ Zf (M.plus [D]) fps' a)->Q (.ref D) H'
   | _=>False):
  ∀ D,H D=none->∃ W:Nat->Nat->List V->Hp->Prop,(∃ m,W 0 m [] (Ao H D (.lst [])))/\∀ i m ys H1,W i m ys H1->H1 D=some (.lst ys) /\
   ((J.stop i H1/\Q (.ref D) H1)\/(J.go i H1/\∀ x H',J.yld i H1 x H'->g x (σ++A6 k none) H' λ σ2 H2=>∃ M',P M'/\tT M' test σ2 H2 λ b H3=>if b=true then ∃ M',P M'/\tE M' elt vE σ2 H3 λ y H4=>H4 D=some (.lst ys)/\ys.length < An/\∃ m',m' < m/\W (i + 1) m' (ys++[y]) (Ao H4 D (.lst (ys++[y]))) else ∃ m',m' < m/\W (i + 1) m' ys H3)):=by
 intro D hD;subst hn;let W:Nat->Nat->List V->Hp->Prop:=λ i m ys H1=>m=els.length - i/\∃ ρ1 fps1 acc fpl,Rep (M.plus [D]) ρ1 σ H1 fps1/\KD M H fps H1 fps1/\Agr M ρ ρ1/\Tmps M.K H1 (Zv (M.plus [D]) vo fps1) acc ys fpl/\(∀ a∈fpl,H a=none/\¬ Zf (M.plus [D]) fps1 a)/\H1 D=some (.lst ys)/\BX k asg test elt (els.drop i) ρ1 acc=BX k asg test elt els ρ [];have k0:KD M H fps (Ao H D (.lst [])) fps:=KD.grow λ a o h=>by rw [AE (λ e=>by rw [e,hD] at h;cases h)];exact h
 have r0:Rep (M.plus [D]) ρ σ (Ao H D (.lst [])) fps:=by
  refine rep.wide hal k0 Agr.refl (rep.grow λ a o h=>by rw [AE (λ e=>by rw [e,hD] at h;cases h)];exact h) λ a ha=>?_;rw [jb6.mp ha];exact ⟨hD,by rw [Bx];simp,rep.nz hD⟩
 refine ⟨W,⟨els.length,by simp,ρ,fps,[],[],r0,k0,Agr.refl,⟨rfl,rfl⟩,λ _ z=>(nomatch z),Bx,by simp⟩,?_⟩;rintro i m ys H1 ⟨rfl,ρ1,fps1,acc,fpl,r1,k1,g1,tm,hf,h1D,ec⟩;refine ⟨h1D,?_⟩;have hlen:ρ1.length=ρ.length:=g1.2;by_cases hi:i < els.length
 ·right
  refine ⟨hgo hD k1 hi,λ x H' hyl=>?_⟩;obtain ⟨kx,z,ez,oz⟩:=hy hD k1 hi hyl;have tm:=KD.stays (M:=M.plus [D]) (KD.grow kx) r1 hvo2 tm λ a ha=>(hf a ha).2;have r1:=r1.grow kx;have k1:=k1.trans (KD.grow (M:=M) (fps:=fps1) kx);have h1D:=kx D _ h1D;have ed:els.drop i=z::els.drop (i + 1):=by
   obtain ⟨h1,h2⟩:=ja7.mp ez;rw [<- h2];exact T7 h1
  rw [ed] at ec;have good:∃ a r,BX k asg test elt els ρ []=.ok (a,r):=by
   cases e:BX k asg test elt els ρ [] with
   | ok p=>exact ⟨p.1,p.2,rfl⟩
   | exc c=>rw [e] at q;exact q.elim
   | no=>rw [e] at q;exact q.elim
  obtain ⟨accF,ρF,eF⟩:=good;rw [eF] at ec;unfold BX at ec;cases ea:asg z (ρ1++A6 k none) with
  | none=>rw [ea] at ec;cases ec
  | some ρ2=>
   rw [ea] at ec;dsimp only at ec;have rx:Rep (M.comp D ρ.length vI) (ρ1++A6 k none) (σ++A6 k none) H' fps1:=by rw [<- hlen];exact r1.ext
   refine hg D z x _ _ H' fps1 ρ2 _ rx oz ea λ σ2 fps2 s2 a2 l2 r2=>⟨_,hP D,ρ2,fps2,r2,?_⟩
   have hl2:ρ2.length=ρ.length + k:=by rw [l2,Bn,Fj,hlen]
   have same2:∀ j,j < ρ.length->ρ2[j]?=ρ1[j]?/\fps2 j=fps1 j/\σ2[j]?=σ[j]?:=λ j hj=>by
    obtain ⟨z1,z2,z3⟩:=a2 j λ z=>absurd (his j z) (by omega);rw [CU (by omega)] at z1;rw [CU (by rw [<- rep.len];omega)] at z3;exact ⟨z1,z2,z3⟩
   have kd2:KD (M.comp D ρ.length vI) H' fps1 H' fps2->True:=λ _=>trivial;cases et:test ρ2 with
   | exc c=>rw [et] at ec;cases ec
   | no=>rw [et] at ec;cases ec
   | ok p=>
    obtain ⟨b,ρ3⟩:=p;rw [et] at ec;intro H3 fps3 k3 g3 r3;dsimp only [Rz.bindN] at ec;have far:∀ {ρ4:Ag}{H4:Hp}{fps4:AB},KD (M.comp D ρ.length vI) H' fps2 H4 fps4->Agr (M.comp D ρ.length vI) ρ2 ρ4->Rep (M.comp D ρ.length vI) ρ4 σ2 H4 fps4 ->
      KD M H fps H4 (Dr ρ.length fps4)/\KD M H' fps1 H4 (Dr ρ.length fps4)/\Agr M ρ (ρ4.take ρ.length)/\Rep (M.plus [D]) (ρ4.take ρ.length) σ H4 (Dr ρ.length fps4)/\H4 D=some (.lst ys):=λ {ρ4 H4 fps4} k4 g4 r4=>by
     have kk:KD M H' fps1 H4 (Dr ρ.length fps4):=by
      refine ⟨λ a o ha hn=>k4.keep a o ha λ ⟨j,hj,hx⟩=>hn ⟨j,hj,s2 j a hx⟩,k4.dom,λ j a ha=>?_,λ j hj=>?_⟩
      ·rcases k4.sub j a (Ft ha).1 with z | z
       ·exact .inl (s2 j a z)
       ·exact .inr z
      ·unfold Dr;by_cases hjl:j < ρ.length
       ·rw [if_pos hjl,k4.same j hj];exact (same2 j hjl).2.1
       ·rw [if_neg hjl];exact (r1.far (by omega)).symm
     refine ⟨k1.trans kk,kk,?_,r4.take (σ':=σ) (λ j hj=>(same2 j hj).2.2) rep.len.symm (by rw [g4.2,hl2];omega) ⟨λ hio=>?_,λ p hp=>by rw [rep.len];exact (ja7.mp (rep.iov.2 p hp)).1⟩,?_⟩
     ·refine ⟨λ j hj=>?_,by rw [EM,g4.2,hl2];omega⟩;by_cases hjl:j < ρ.length
      ·rw [K1 hjl,g4.1 j hj,(same2 j hjl).1];exact g1.1 j hj
      ·rw [jg2.mpr (by rw [EM];omega),jg2.mpr (by omega)]
     ·cases e:M.io with
      | none=>exact absurd e hio
      | some v=>
       have:=(ja7.mp (rep.iov.1 v e).1).1
       rw [rep.len];exact this
     ·exact k4.keep D _ h1D λ ⟨j,_,hx⟩=>r2.zo j D hx (.inr (by simp))
    have notZ:∀ {H4:Hp}{fps4:AB},KD M H' fps1 H4 fps4->∀ {a},a∈fpl->¬ Zf (M.plus [D]) fps4 a:=λ {H4 fps4} k4 a ha z=>by
     rcases z with z | ⟨j,z⟩
     ·exact (hf a ha).2 (.inl z)
     ·rcases k4.sub j a z with z | z
      ·exact (hf a ha).2 (.inr ⟨j,z⟩)
      ·obtain ⟨xs,e⟩:=tm.lsts a ha;rw [z] at e;cases e
    cases b with
    | false=>
     rw [if_neg C2] at ec ⊢;obtain ⟨f1,f2,f3,f4,f5⟩:=far k3 g3 r3;refine ⟨els.length - (i + 1),by omega,rfl,ρ3.take ρ.length,Dr ρ.length fps3,acc,fpl,f4,f1,f3,?_,λ a ha=>⟨(hf a ha).1,λ z=>?_⟩,f5,by rw [eF,<- hlen];exact ec⟩
     ·exact KD.stays (M:=M.plus [D]) (σ:=σ) (ρ:=ρ1) ⟨f2.keep,f2.dom,f2.sub,f2.same⟩ r1 hvo2 tm λ a ha=>(hf a ha).2
     ·exact notZ f2 ha z
    | true=>
     rw [if_pos rfl] at ec ⊢;refine ⟨_,hP D,ρ3,fps3,r3,?_⟩;cases ee:elt ρ3 with
     | exc c=>rw [ee] at ec;cases ec
     | no=>rw [ee] at ec;cases ec
     | ok p=>
      obtain ⟨y,e,ρ4⟩:=p;rw [ee] at ec;intro w H4 fps4 fe k4 g4 r4 o4 t4;dsimp only at ec;by_cases hz:acc.length < An
      ·rw [if_pos hz] at ec;obtain ⟨f1,f2,f3,f4,f5⟩:=far (k3.trans k4) (g3.trans g4) r4;have tm4:Tmps M.K H4 (Zv (M.plus [D]) vo (Dr ρ.length fps4)) acc ys fpl:=KD.stays (M:=M.plus [D]) (σ:=σ) (ρ:=ρ1) ⟨f2.keep,f2.dom,f2.sub,f2.same⟩ r1 hvo2 tm λ a ha=>(hf a ha).2;have zD:Zv (M.plus [D]) vo (Dr ρ.length fps4) D:=.inl (.inr (by simp));have hDe:D∉fe:=λ z=>t4.ndj D z (.inl (.inr (by simp)));have hDl:D∉fpl:=λ z=>(hf D z).2 (.inl (.inr (by simp)));have oy:Own M.K H4 (λ a=>Zv (M.plus [D]) vo (Dr ρ.length fps4) a\/a∈fe) y e w fe:=o4.weak λ a h=>h.elim (λ h=>.inl (h.elim .inl λ ⟨j,nj,hx⟩=>.inr ⟨j,λ z=>nj (hvo j z (Ft hx).2),(Ft hx).1⟩)) .inr;have back3:∀ a,H3 a=none->H' a=none:=λ a e=>by
        cases e':H' a with
        | none=>rfl
        | some o=>exact absurd e (k3.dom a (by rw [e'];simp))
       have back1:∀ a,H' a=none->H a=none:=λ a e=>by
        cases e':H a with
        | none=>rfl
        | some o=>exact absurd e (k1.dom a (by rw [e'];simp))
       have kt:KD M H fps (Ao H4 D (.lst (ys++[w]))) (Dr ρ.length fps4):=⟨λ a o ha hn=>by rw [AE (λ e=>by rw [e,hD] at ha;cases ha)];exact f1.keep a o ha hn,λ a ha=>by
        by_cases eb:a=D
        ·rw [eb,Bx];simp
        ·rw [AE eb];exact f1.dom a ha,f1.sub,f1.same⟩
       refine ⟨f5,by rw [tm.length];exact hz,els.length - (i + 1),by omega,rfl,ρ4.take ρ.length,Dr ρ.length fps4,acc++[(y,e)],fpl++fe,f4.touch f5,kt,f3,?_,λ a ha=>?_,Bx,by rw [eF,<- hlen];exact ec⟩
       ·exact (tm4.at zD ⟨.l ys,f5⟩ hDl).snoc (oy.at (.inl zD) ⟨.l ys,f5⟩ hDe λ _ _ n=>n) λ a ha hb=>by
         obtain ⟨xs,e⟩:=tm.lsts a ha;rw [back3 a (t4.new a hb)] at e;cases e
       ·rcases jb8.mp ha with z | z
        ·exact ⟨(hf a z).1,notZ f2 z⟩
        ·refine ⟨back1 a (back3 a (t4.new a z)),λ hz=>t4.ndj a z ?_⟩;rcases hz with hz | ⟨j,hz⟩
         ·exact .inl hz
         ·exact .inr ⟨j,(Ft hz).1⟩
      ·rw [if_neg hz] at ec;cases ec
 ·left
  have ed:els.drop i=[]:=T2 (by omega);rw [ed] at ec;rw [<- ec] at q;unfold BX at q;exact ⟨hst hD k1 (by omega),q D ys H1 fps1 fpl k1 g1 r1 hD h1D tm hf⟩
end
section
variable {M:Fm}{ρ ρ':Ag}{σ σ':St}{H H' H'':Hp}{fps fps' fps'':AB}{vs vs':List Nat}
def DM:List (PV×Nat)->Bool
 | []=>true
 | p::r=>(p.2 == om) && DM r
theorem L4:∀ {xs:List (PV×Nat)},DM xs=true->∀ p∈xs,p.2=om
 | [],_,_,h=>nomatch h
 | p::r,h,q,hq=>by
  unfold DM at h;rw [AL] at h;rcases jb3.mp hq with e | e
  ·rw [e];exact eq_of_beq h.1
  ·exact L4 h.2 q e
def Dx (acc:List (PV×Nat)) (ρ:Ag):Rz (PV×Nat×Ag):=.ok (.lst (acc.map (·.1)),if DM acc then om else 1,ρ)
def CL (f:Fx) (k:Nat) (asg:PV->Ag->Option Ag) (test:Fb) (elt:Fx):Fx:=λ ρ=>match f ρ with
 | .ok (.lst xs,_,ρ1)=>(BX k asg test elt xs ρ1 []).bindN λ (acc,ρ2)=>Dx acc ρ2
 | .ok (.tup xs,_,ρ1)=>(BX k asg test elt xs ρ1 []).bindN λ (acc,ρ2)=>Dx acc ρ2
 | .ok (.str z,_,ρ1)=>if Mw z=true then (BX k asg test elt (Ex z) ρ1 []).bindN λ (acc,ρ2)=>Dx acc ρ2 else .no
 | .ok _=>.no
 | .exc c=>.exc c
 | .no=>.no
def Ek (en:List (PV×Nat)->Option (Int×Int)) (fa:Fa) (k:Nat) (asg:PV->Ag->Option Ag) (test:Fb) (elt:Fx):Fx:=λ ρ=>match fa ρ with
 | .ok (xs,ρ1)=>(match en xs with
  | some (i,j)=>(BX k asg test elt (E6 i (j - i).toNat) ρ1 []).bindN λ (acc,ρ2)=>Dx acc ρ2
  | none=>.no)
 | .exc c=>.exc c
 | .no=>.no
theorem SW {D:Addr}{acc:List (PV×Nat)}{ws:List V}{fpl:List Addr}{vo:List Nat}{Q:VK}{H0:Hp}{fps0:AB}{ρ0:Ag}
  (rep0:Rep M ρ σ H fps) (k0:KD M H0 fps0 H fps) (g0:Agr M ρ0 ρ) (q:∀ v H' fps' fp,KD M H0 fps0 H' fps'->Agr M ρ0 ρ'->Rep M ρ' σ H' fps'->Own M.K H' (Zt M vo fps' fp) (.lst (acc.map (·.1))) (if DM acc then om else 1) v fp->Temp M vo H0 H' fps' fp->Q v H')
  (k:KD M H fps H' fps') (g:Agr M ρ ρ') (r:Rep (M.plus [D]) ρ' σ H' fps') (hD:H D=none) (hD':H' D=some (.lst ws)) (tm:Tmps M.K H' (Zv (M.plus [D]) vo fps') acc ws fpl) (hf:∀ a∈fpl,H a=none/\¬ Zf (M.plus [D]) fps' a):Q (.ref D) H':=by
 have back:∀ a,H a=none->H0 a=none:=λ a e=>by
  cases e':H0 a with
  | none=>rfl
  | some o=>exact absurd e (k0.dom a (by rw [e'];simp))
 have nD:¬ Zf M fps' D:=λ z=>by
  rcases z with z | ⟨j,z⟩
  ·exact rep0.zd D z hD
  ·exact r.zo j D z (.inr (by simp))
 have hDl:D∉fpl:=λ z=>(hf D z).2 (.inl (.inr (by simp)));have zt:∀ a,Zt M vo fps' [D] a->Zv (M.plus [D]) vo fps' a:=λ a h=>h.elim (λ h=>h.elim (λ h=>.inl (.inl h)) .inr) λ h=>.inl (.inr h);cases ho:DM acc with
 | true=>
  rw [ho] at q;refine q (.ref D) H' fps' (D::fpl) (k0.trans k) (g0.trans g) r.minus ?_ ⟨λ a ha=>?_,λ a ha=>?_⟩
  ·rw [Own];exact ⟨D,ws,rfl,.inr ⟨(by decide),fpl,hD',rfl,hDl,OwnL.full _ ws fpl (tm.all (L4 ho))⟩⟩
  ·rcases jb3.mp ha with z | z
   ·rw [z];exact back D hD
   ·exact back a (hf a z).1
  ·rcases jb3.mp ha with z | z
   ·rw [z];exact nD
   ·exact λ y=>(hf a z).2 (y.elim (λ y=>.inl (.inl y)) .inr)
 | false=>
  rw [ho] at q;refine q (.ref D) H' fps' [D] (k0.trans k) (g0.trans g) r.minus ?_ ⟨λ a ha=>?_,λ a ha=>?_⟩
  ·show Own M.K H' (Zt M vo fps' [D]) (.lst (acc.map (·.1))) 1 (.ref D) [D];rw [Own];refine ⟨D,ws,rfl,.inr ⟨(by decide),[],hD',rfl,(λ z=>nomatch z),?_⟩⟩;rw [Jw];exact (tm.cold λ a ha z=>(hf a ha).2 z.zf).weak zt
  ·rw [jb6.mp ha];exact back D hD
  ·rw [jb6.mp ha];exact nD
theorem Y4 {g:TG}{is vI vE vo:List Nat}{asg:PV->Ag->Option Ag}{test:Fb}{elt f:Fx}{k n:Nat}{Q:VK}{P:Fm->Prop}
  (hn:σ.length=n) (hP:∀ D,P (M.comp D n vI)) (hal:∀ i,∀ j∈M.al i,M.Ms j=false) (hvI:∀ i∈vI,M.Ms i=false) (hvE:∀ i∈vE,M.Ms i=false) (his:∀ i∈is,n<=i) (hg:∀ D,D7 (M.comp D n vI) vI is g asg)
  (hvo:∀ i,i∈vE->i < n->i∈vo) (hvo2:∀ i∈vo,M.Ms i=false) (hq:tE M (CL f k asg test elt) vo σ H Q):
  IW k (ES M.K (tE M f vI)) g (λ σ H Q=>∃ M',P M'/\tT M' test σ H Q) (λ σ H Q=>∃ M',P M'/\tE M' elt vE σ H Q) σ H Q:=by
 obtain ⟨ρ,fps,rep,q⟩:=hq;refine ⟨ρ,fps,rep,?_⟩;unfold CL at q;cases ef:f ρ with
 | no=>rw [ef] at q;exact q
 | exc c=>rw [ef] at q;exact q
 | ok p=>
  obtain ⟨x,d,ρ1⟩:=p;rw [ef] at q;intro v H1 fps1 f1 k1 g1 rep1 o1 t1;have o0:Own M.K H1 (Zv M vI fps1) x 0 v []:=Own.freeze (λ _ z=>.inl z) x d v f1 (λ a ha z=>t1.ndj a ha z.zf) o1;have hl:n=ρ1.length:=by rw [rep1.len];exact hn.symm
  have fin:∀ (els:List PV),(match (BX k asg test elt els ρ1 []).bindN λ (acc,ρ2)=>Dx acc ρ2 with
    | .ok (x,d,ρ')=>∀ v H' fps' fp,KD M H fps H' fps'->Agr M ρ ρ'->Rep M ρ' σ H' fps'->Own M.K H' (Zt M vo fps' fp) x d v fp->Temp M vo H H' fps' fp->Q v H'
    | .exc c=>∀ H' fps',KD M H fps H' fps'->M.W σ c H'
    | .no=>False)->(match BX k asg test elt els ρ1 [] with
    | .ok (acc,ρ')=>∀ D ws H' fps' fpl,KD M H1 fps1 H' fps'->Agr M ρ1 ρ'->Rep (M.plus [D]) ρ' σ H' fps'->H1 D=none->H' D=some (.lst ws)->Tmps M.K H' (Zv (M.plus [D]) vo fps') acc ws fpl->(∀ a∈fpl,H1 a=none/\¬ Zf (M.plus [D]) fps' a)->Q (.ref D) H'
    | _=>False):=λ els q=>by
   cases ec:BX k asg test elt els ρ1 [] with
   | no=>rw [ec] at q;exact q.elim
   | exc c=>rw [ec] at q;exact q.elim
   | ok p=>
    obtain ⟨acc,ρ2⟩:=p;rw [ec] at q;exact λ D ws H' fps' fpl k g r hD hD' tm hf=>SW rep1 k1 g1 q k g r hD hD' tm hf
  cases x with
  | lst xs=>
   have one:∀ {Z:Addr->Prop}{H:Hp},Own M.K H Z (.lst xs) 0 v []->∃ a ws,v=.ref a/\BU M.K H a ws/\OwnL M.K H Z xs 0 ws []:=λ o=>by
    rw [Own] at o;obtain ⟨b,ws,e,⟨_,hr,_,ol⟩ | ⟨h,_⟩⟩:=o
    ·exact ⟨b,ws,e,.inl (.inl hr.1),ol⟩
    ·exact absurd rfl h
   obtain ⟨a,ws,rfl,sq,ol⟩:=one o0;refine .inl ⟨a,rfl,.inl ⟨⟨ws,sq⟩,?_⟩⟩;refine KY (els:=xs) hP hl hal hvI hvE his hg hvo hvo2 rep1 (λ {D H' fps' i} hD k' h=>?_) (λ {D H' fps' i} hD k' h=>?_) (λ {D H' fps' i x H''} hD k' h y=>?_) (fin xs q)
   ·obtain ⟨a',ws,e,s,ol⟩:=one (KD.seen rep1 k' hD hvI o0);cases e;exact ⟨ws,ws[i]'(by rw [ol.length];exact h),s,by simp⟩
   ·obtain ⟨a',ws,e,s,ol⟩:=one (KD.seen rep1 k' hD hvI o0);cases e;exact ⟨ws,s,by rw [ol.length];exact h⟩
   ·obtain ⟨a',ws,e,s,ol⟩:=one (KD.seen rep1 k' hD hvI o0);cases e;obtain ⟨e1,e2⟩:=y;subst e1;exact ⟨λ _ _ h=>h,ol.get (e2 ws s)⟩
  | tup xs=>
   have one:∀ {Z:Addr->Prop}{H:Hp},Own M.K H Z (.tup xs) 0 v []->∃ a ws,v=.ref a/\CA M.K H a ws/\OwnL M.K H Z xs 0 ws []:=λ o=>by
    rw [Own] at o;obtain ⟨a,ws,e,hr,ol⟩:=o;exact ⟨a,ws,e,.inl (.inl hr),ol⟩
   obtain ⟨a,ws,rfl,sq,ol⟩:=one o0;refine .inl ⟨a,rfl,.inr ⟨⟨ws,sq⟩,?_⟩⟩;refine KY (els:=xs) hP hl hal hvI hvE his hg hvo hvo2 rep1 (λ {D H' fps' i} hD k' h=>?_) (λ {D H' fps' i} hD k' h=>?_) (λ {D H' fps' i x H''} hD k' h y=>?_) (fin xs q)
   ·obtain ⟨a',ws,e,s,ol⟩:=one (KD.seen rep1 k' hD hvI o0);cases e;exact ⟨ws,ws[i]'(by rw [ol.length];exact h),s,by simp⟩
   ·obtain ⟨a',ws,e,s,ol⟩:=one (KD.seen rep1 k' hD hvI o0);cases e;exact ⟨ws,s,by rw [ol.length];exact h⟩
   ·obtain ⟨a',ws,e,s,ol⟩:=one (KD.seen rep1 k' hD hvI o0);cases e;obtain ⟨e1,e2⟩:=y;subst e1;exact ⟨λ _ _ h=>h,ol.get (e2 ws s)⟩
  | str z=>
   have o0':=o0;rw [Own] at o0';obtain ⟨rfl,_⟩:=o0';dsimp only at q;by_cases ha:Mw z=true
   ·rw [if_pos ha] at q;refine .inr ⟨z,rfl,ha,?_⟩;have hl':(Ex z).length=z.cps.size:=by unfold Ex;rw [A9,Ky]
    refine KY (els:=Ex z) hP hl hal hvI hvE his hg hvo hvo2 rep1 (λ {D H' fps' i} hD k' h=>?_) (λ {D H' fps' i} hD k' h=>?_) (λ {D H' fps' i x H''} hD k' h y=>?_) (fin (Ex z) q)
    ·show i < z.cps.size;omega
    ·show z.cps.size<=i;omega
    ·obtain ⟨rfl,c,hc,rfl⟩:=y;refine ⟨λ _ _ h=>h,.str ⟨#[c]⟩,?_,by rw [Own];exact ⟨rfl,rfl⟩⟩;unfold Ex;rw [Cs,OS,hc];rfl
   ·rw [if_neg ha] at q;exact q.elim
  | _=>exact q.elim
def Qv {g:TG}{is vI vE vo:List Nat}{asg:PV->Ag->Option Ag}{test:Fb}{elt:Fx}{k n:Nat}{Q:VK}{P:Fm->Prop}{lo:Int}{m:Nat}{H0:Hp}{fps0:AB}{ρ0:Ag}
  (hn:σ.length=n) (hP:∀ D,P (M.comp D n vI)) (hal:∀ i,∀ j∈M.al i,M.Ms j=false) (hvI:∀ i∈vI,M.Ms i=false) (hvE:∀ i∈vE,M.Ms i=false) (his:∀ i∈is,n<=i) (hg:∀ D,D7 (M.comp D n vI) vI is g asg)
  (hvo:∀ i,i∈vE->i < n->i∈vo) (hvo2:∀ i∈vo,M.Ms i=false) (k0:KD M H0 fps0 H fps) (g0:Agr M ρ0 ρ) (rep:Rep M ρ σ H fps)
  (q:match (BX k asg test elt (E6 lo m) ρ []).bindN λ (acc,ρ2)=>Dx acc ρ2 with
    | .ok (x,d,ρ')=>∀ v H' fps' fp,KD M H0 fps0 H' fps'->Agr M ρ0 ρ'->Rep M ρ' σ H' fps'->Own M.K H' (Zt M vo fps' fp) x d v fp->Temp M vo H0 H' fps' fp->Q v H'
    | .exc c=>∀ H' fps',KD M H0 fps0 H' fps'->M.W σ c H'
    | .no=>False):
  ∀ D,H D=none->∃ W:Nat->Nat->List V->Hp->Prop,(∃ m,W 0 m [] (Ao H D (.lst [])))/\∀ i j ys H1,W i j ys H1->H1 D=some (.lst ys) /\
   (((Fp lo m).stop i H1/\Q (.ref D) H1)\/((Fp lo m).go i H1/\∀ x H',(Fp lo m).yld i H1 x H'->g x (σ++A6 k none) H' λ σ2 H2=>∃ M',P M'/\tT M' test σ2 H2 λ b H3=>if b=true then ∃ M',P M'/\tE M' elt vE σ2 H3 λ y H4=>H4 D=some (.lst ys)/\ys.length < An/\∃ m',m' < j/\W (i + 1) m' (ys++[y]) (Ao H4 D (.lst (ys++[y]))) else ∃ m',m' < j/\W (i + 1) m' ys H3)):=by
 have hl:n=ρ.length:=by rw [rep.len];exact hn.symm
 refine KY (els:=E6 lo m) hP hl hal hvI hvE his hg hvo hvo2 rep (λ {D H' fps' i} hD k' h=>?_) (λ {D H' fps' i} hD k' h=>?_) (λ {D H' fps' i x H''} hD k' h y=>?_) ?_
 ·rw [Iv] at h;exact h
 ·rw [Iv] at h;exact h
 ·rw [Iv] at h;obtain ⟨e1,e2⟩:=y;subst e1;exact ⟨λ _ _ h=>h,.int (lo + i),by simp [E6,h],by rw [e2,Own];exact ⟨rfl,rfl⟩⟩
 ·cases ec:BX k asg test elt (E6 lo m) ρ [] with
  | no=>rw [ec] at q;exact q.elim
  | exc c=>rw [ec] at q;exact q.elim
  | ok p=>
   obtain ⟨acc,ρ2⟩:=p;rw [ec] at q;exact λ D ws H' fps' fpl k g r hD hD' tm hf=>SW rep k0 g0 q k g r hD hD' tm hf
theorem Y2 {g:TG}{is vI vE vo:List Nat}{asg:PV->Ag->Option Ag}{test:Fb}{elt:Fx}{fa:Fa}{k n:Nat}{Q:VK}{P:Fm->Prop}
  (hn:σ.length=n) (hP:∀ D,P (M.comp D n vI)) (hal:∀ i,∀ j∈M.al i,M.Ms j=false) (hvI:∀ i∈vI,M.Ms i=false) (hvE:∀ i∈vE,M.Ms i=false) (his:∀ i∈is,n<=i) (hg:∀ D,D7 (M.comp D n vI) vI is g asg)
  (hvo:∀ i,i∈vE->i < n->i∈vo) (hvo2:∀ i∈vo,M.Ms i=false) (hq:tE M (Ek BL fa k asg test elt) vo σ H Q):
  IW k (Mr (tL M fa vs)) g (λ σ H Q=>∃ M',P M'/\tT M' test σ H Q) (λ σ H Q=>∃ M',P M'/\tE M' elt vE σ H Q) σ H Q:=by
 obtain ⟨ρ,fps,rep,q⟩:=hq;refine ⟨ρ,fps,rep,?_⟩;unfold Ek at q;cases ef:fa ρ with
 | no=>rw [ef] at q;exact q
 | exc c=>rw [ef] at q;exact q
 | ok p=>
  obtain ⟨xs,ρ1⟩:=p;rw [ef] at q;intro ws H1 fps1 f1 k1 g1 rep1 o1 t1;dsimp only at q;cases ee:BL xs with
  | none=>rw [ee] at q;exact q.elim
  | some ij=>
   obtain ⟨i,j⟩:=ij;rw [ee] at q;unfold BL at ee;split at ee
   ·rename_i j' d;split at ee
    ·rename_i hb;cases ee;obtain ⟨v,r,f1,f2,rfl,_,_,h1,h2⟩:=o1;obtain ⟨rfl,_⟩:=h2;rw [Own] at h1;obtain ⟨rfl,_⟩:=h1;refine ⟨j,rfl,hb.1,hb.2,?_⟩;have e:(j - 0).toNat=j.toNat:=by omega
     dsimp only at q;rw [e] at q;exact Qv hn hP hal hvI hvE his hg hvo hvo2 k1 g1 rep1 q
    ·cases ee
   ·cases ee
theorem Y3 {g:TG}{is vI vE vo:List Nat}{asg:PV->Ag->Option Ag}{test:Fb}{elt:Fx}{fa:Fa}{k n:Nat}{Q:VK}{P:Fm->Prop}
  (hn:σ.length=n) (hP:∀ D,P (M.comp D n vI)) (hal:∀ i,∀ j∈M.al i,M.Ms j=false) (hvI:∀ i∈vI,M.Ms i=false) (hvE:∀ i∈vE,M.Ms i=false) (his:∀ i∈is,n<=i) (hg:∀ D,D7 (M.comp D n vI) vI is g asg)
  (hvo:∀ i,i∈vE->i < n->i∈vo) (hvo2:∀ i∈vo,M.Ms i=false) (hq:tE M (Ek EB fa k asg test elt) vo σ H Q):
  IW k (Mt (tL M fa vs)) g (λ σ H Q=>∃ M',P M'/\tT M' test σ H Q) (λ σ H Q=>∃ M',P M'/\tE M' elt vE σ H Q) σ H Q:=by
 obtain ⟨ρ,fps,rep,q⟩:=hq;refine ⟨ρ,fps,rep,?_⟩;unfold Ek at q;cases ef:fa ρ with
 | no=>rw [ef] at q;exact q
 | exc c=>rw [ef] at q;exact q
 | ok p=>
  obtain ⟨xs,ρ1⟩:=p;rw [ef] at q;intro ws H1 fps1 f1 k1 g1 rep1 o1 t1;dsimp only at q;cases ee:EB xs with
  | none=>rw [ee] at q;exact q.elim
  | some ij=>
   obtain ⟨i,j⟩:=ij;rw [ee] at q;unfold EB at ee;split at ee
   ·rename_i i' d j' d';split at ee
    ·rename_i hb;cases ee;obtain ⟨v,r,f1,f2,rfl,_,_,h1,h2⟩:=o1;obtain ⟨v2,r2,f3,f4,rfl,_,_,h3,h4⟩:=h2;obtain ⟨rfl,_⟩:=h4;rw [Own] at h1 h3;obtain ⟨rfl,_⟩:=h1;obtain ⟨rfl,_⟩:=h3;exact ⟨i,j,rfl,hb,Qv hn hP hal hvI hvE his hg hvo hvo2 k1 g1 rep1 q⟩
    ·cases ee
   ·cases ee
end
def KW {K:Frag}{c:Nat}{C:Addr} (e:BC K c=some C):c < 12:=by
 unfold BC at e;split at e
 ·rename_i x h;exact (ja7.mp h).1
 ·cases e
structure XC (h:Heap) (K:Frag) (c:Nat) (C:Addr):Prop where
 obj:∃ bm N nm q bs hdct sn sub ab col dd k0 k1 k2 k3 k5 mN,h.get? C=some (excClassObj nm q C N bs bm hdct sn sub ab col dd k0 k1 k2 k3 k5 "ValueError.__new__")/\h.Ns N mN/\mN "__init__" = none/\OwnTail h bmV bm/\∀ d D,BC K d=some D->(Value.ref C::bm).contains (.ref D)=CI c d
def X4 {K:Frag}{c:Nat}{C:Addr} (t:Dh K=true) (e:BC K c=some C):PySem.W.excIn K C bmV "ValueError.__new__" = true/\∀ d D,BC K d=some D->(Gj K C).contains (.ref D)=CI c d:=by
 unfold Dh at t;have h:=jc4.mp t c (jd5.mpr (KW e));rw [e] at h;dsimp only at h;rw [AL] at h;refine ⟨h.1,λ d D ed=>?_⟩;have h2:=jc4.mp h.2 d (jd5.mpr (KW ed));rw [ed] at h2;exact eq_of_beq h2
def Ki {K:Frag}{h:Heap}{c:Nat}{C:Addr} (X:K.In h) (t:Dh K=true) (e:BC K c=some C):XC h K c C:=by
 obtain ⟨q,ht⟩:=X4 t e;refine ⟨?_⟩;unfold PySem.W.excIn at q;split at q
 ·rename_i dd cd sl ho;split at q
  ·rename_i C' bm k0 k1 k2 k3 n k5 hm hs;simp only [AL,beq_iff_eq,Kx] at q;obtain ⟨⟨⟨⟨⟨rfl,rfl⟩,hdel⟩,htl⟩,hok⟩,hni⟩:=q;have hmro:Gj K C'=.ref C'::bm:=by unfold Gj;rw [ho];exact hm
   rw [hmro] at ht;obtain ⟨nm,bs,mro,ns,qn,hd,sn,sub,ab,col,del⟩:=cd;dsimp only at hm hdel hok hni;subst hm hdel;have hsl:sl=#[k0,k1,k2,k3,some (.builtin "ValueError.__new__"),k5]:=by
    obtain ⟨l⟩:=sl;simp only at hs;rw [hs]
   subst hsl;exact ⟨bm,ns,nm,qn,bs,hd,sn,sub,ab,col,dd,k0,k1,k2,k3,k5,_,X _ _ ho,.of_isNs (PySem.W.isNs_of_in X hok),PySem.W.nsMap_none_of_in X hok hni,PySem.W.tail_of_in X htl,ht⟩
  ·cases q
 ·cases q
def EW (W:Nat->Hp->Prop):XK:=λ v _ H'=>match v with
 | .int c _=>W c.toNat H'
 | _=>False
def AG (P:A3) (w:Az) (K:Frag):Ej:=λ outer H s E e s'=>∃ (a C:Addr) (c:Nat) (H':Hp) (B:Heap) (a0:Ae),e=.ref a/\BC K c=some C/\s'.os=s.os/\Eo s'.gens/\Un (BS outer) [] H H' s.heap s'.heap/\HOk P w H' s'.heap/\H' a=none/\s.heap.get? a=none /\
 JJ B outer a (.ref C) a0 s'.heap/\(∀ b o,s'.heap.get? b=some o->H' b≠none->B.get? b=some o)/\(∀ b o,s.heap.get? b=some o->H b=none->b∉BS outer->B.get? b=some o)/\(∀ b,H b≠none->H' b≠none)/\E (.int (c:Int) 0) none H'
theorem MP {P:A3}{w:Az}{H:Hp}{h:Heap}{a:Addr}{o:HO} (x:zxx P w H h a o):∃ u,h.get? a=some u:=by
 cases o with
 | lst xs=>obtain ⟨_,_,_,_,e⟩:=x;exact ⟨_,e⟩
 | tup xs=>obtain ⟨_,_,_,o,e,_⟩:=x;exact ⟨_,e⟩
 | dK kvs=>obtain ⟨_,_,_,_,o,_,_,e,_⟩:=x;exact ⟨_,e⟩
 | dT kvs=>obtain ⟨_,_,_,_,o,_,_,e,_⟩:=x;exact ⟨_,e⟩
 | set S n=>obtain ⟨o,_,_,_,e,_⟩:=x;exact ⟨_,e⟩
 | ins C dx fs=>obtain ⟨_,_,_,e,_⟩:=x;exact ⟨_,e⟩
 | own y=>exact x
 | xd fs=>obtain ⟨_,⟨_,_,_,e,_⟩,_⟩:=x;exact ⟨_,e⟩
 | rng lo hi=>obtain ⟨_,_,_,e⟩:=x;exact ⟨_,e⟩
 | frz ob u=>obtain ⟨e,_⟩:=x;exact ⟨_,e⟩
 | tbl ps=>exact ⟨_,(show h.get? a=some _ from x)⟩
 | met f y=>exact ⟨_,(show h.get? a=some _ from x)⟩
 | ext φ=>exact x.2.1
section
variable {X:Cx}{pins:List (Addr×Obj)}{σ:St}{H H1:Hp}{s s2:Ah}{h1 B:Heap}{a C:Addr}{a0:Ae}{c:Nat}{E:XK}{P:A3}{w:Az}{K:Frag}
def PB (I:L2.Inv X pins σ H s) (hex:X.ex=[]) (u:Un (BS X.stack) [] H H1 s.heap h1) (hok:HOk X.prog X.w H1 h1) (fl:JJ B X.outer a (.ref C) a0 s2.heap) (up:h1.UpToSlots s2.heap)
  (i1:∀ b o,h1.get? b=some o->H1 b≠none->B.get? b=some o) (i2:∀ b o,s.heap.get? b=some o->H b=none->b∉BS X.stack->B.get? b=some o) (ha:H1 a=none) (hn:s.heap.get? a=none)
  (hE:E (.int (c:Int) 0) none H1) (hd:∀ b,X.H₀ b≠none->H1 b≠none) (hc:BC X.K c=some C) (ho:s2.os=s.os) (hg:Eo s2.gens):AG X.prog X.w X.K X.outer X.H₀ X.s₀ E (.ref a) s2:=by
 have nx:∀ b:Addr,b∉X.ex:=λ b z=>by rw [hex] at z;cases z
 have key:∀ b o,X.s₀.heap.get? b=some o->X.H₀ b=none->b∉BS X.outer->B.get? b=some o:=λ b o e n hb=>by
  refine i2 b o (I.base.keep b o e n hb (nx b)) (I.base.free b o e n (nx b)) λ z=>?_;rcases jb3.mp (I.stkSub b z) with z | z
  ·exact absurd (Br (AZ e) I.ok.above) (by rw [z];exact EK _)
  ·exact hb z
 have fr:∀ b o,X.s₀.heap.get? b=some o->X.H₀ b=none->b∈BS X.outer->∃ sl,s2.heap.get? b=some { o with slots:=sl }:=λ b o e n hb=>by
  obtain ⟨sl,e1⟩:=I.base.slot b o e n hb (nx b);obtain ⟨sl',e2⟩:=u.any e1 (I.base.free b o e n (nx b)) (by simp);obtain ⟨_,o',ho',hnf⟩:=I.ok.funs.mem hb;rw [e] at ho';cases ho';obtain ⟨sl2,e3⟩:=up b _ e2 hnf;exact ⟨sl2,e3⟩
 have DY:∀ b v,H1 b≠none->h1.get? b=some v->s2.heap.get? b=some v:=λ b v hb e=>fl.1 b v (i1 b v e hb);have un:Un (BS X.outer) [] X.H₀ H1 X.s₀.heap s2.heap:=by
  refine ⟨λ b o e n hb _=>fl.1 b o (key b o e n hb),λ b o e n hb _=>fr b o e n hb,λ b o e n _=>?_,λ b o e _=>?_,λ b xs e=>u.tups b xs (I.base.tups b xs e),λ b o xs e=>u.frzs b o xs (I.base.frzs b o xs e),λ b ps e=>?_⟩
  ·obtain ⟨o',e'⟩:=I.base.there b o e (nx b);exact u.free b o' e' (I.base.free b o e n (nx b)) (by simp)
  ·by_cases h0:X.H₀ b=none
   ·by_cases hb:b∈BS X.outer
    ·obtain ⟨sl,e2⟩:=fr b o e h0 hb;exact ⟨_,e2⟩
    ·exact ⟨o,fl.1 b o (key b o e h0 hb)⟩
   ·obtain ⟨o',e'⟩:=I.base.there b o e (nx b);obtain ⟨o2,e2⟩:=u.there b o' e' (by simp);exact ⟨o2,DY b o2 (hd b h0) e2⟩
  ·obtain ⟨m1,e1⟩:=I.base.tbls b ps e;obtain ⟨m2,e2⟩:=u.tbls b _ e1;exact ⟨m1++m2,by rw [e2,Ts]⟩
 refine ⟨a,C,c,H1,B,a0,rfl,hc,ho.trans I.os,hg,un,λ b o e=>?_,ha,?_,fl,λ b o e hb=>?_,key,hd,hE⟩
 ·refine (hok b o e).stay (λ d v hd q=>DY d v ?_ q) (λ _ q=>q) λ _ _ q=>q;rcases hd with rfl | hd
  ·rw [e];simp
  ·rw [hd];simp
 ·cases q:X.s₀.heap.get? a with
  | none=>rfl
  | some o=>
   obtain ⟨o',e'⟩:=I.base.there a o q (nx a);rw [hn] at e';cases e'
 ·cases q:H1 b with
  | none=>exact absurd q hb
  | some o1=>
   obtain ⟨v,hv⟩:=MP (hok b o1 q);have e2:=DY b v hb hv;rw [e] at e2;cases e2;exact i1 b o hv hb
end
def Ip (CX:Ej) (X:Cx) (W:St->Nat->Hp->Prop):Prop:=∀ (pins:List (Addr×Obj)) (σ:St) (H:Hp) (s:Ah) (e:Ae) (s':Ah),L2.Inv X pins σ H s->CX X.stack H s (EW (W σ)) e s'->X.xe e s'
def Nd (X:Cx) (W:St->Nat->Hp->Prop):Prop:=∀ (pins:List (Addr×Obj)) (σ:St) (H:Hp) (s:Ah) (c:Nat) (C a:Addr) (h':Heap) (args:List Ae),L2.Inv X pins σ H s->BC X.K c=some C->Heap.MadeExcOf s.heap h' a (.ref C) args->W σ c H->X.xe (.ref a) { s with heap:=h' }
abbrev W0:St->Nat->Hp->Prop:=λ _ _ _=>False
def RB {P:A3}{w:Az}{K:Frag}{X:Cx}:Ip (AG P w K) X W0:=λ _ _ _ _ _ _ _ h=>by
 obtain ⟨a,C,c,H',B,a0,_,_,_,_,_,_,_,_,_,_,_,_,hE⟩:=h;exact DC hE
def WE (E:XK) (H:Hp):St->Nat->Hp->Prop:=λ _ c H'=>E (.int (c:Int) 0) none H'/\∀ b,H b≠none->H' b≠none
section
variable {P:A3}{w:Az}{K:Frag}{mg:Str->Option Ae}{base:Heap}{N:List Str}{qual:Str}{scope:AX}{f:Addr}{cd:Ae}{A:AW}{outer:List Env}{s:Ah}{H:Hp}{E:XK}
def Yi:Ip (AG P w K) (Be (AG P w K) P w K mg base N qual scope f cd A outer s H E) (WE E H):=by
 intro pins σ H1 s1 e s' I h;obtain ⟨a,C,c,H',B,a0,rfl,hc,ho,hg,un,hok,ha,hn,fl,i1,i2,hd,hE⟩:=h;have hE':WE E H σ c H':=hE;refine wpAny_leaves_onW (by exact I.ok.frames) rfl fl λ h2 f2 up=>?_;exact PB (s2:={ s' with heap:=h2 }) I rfl un hok f2 up i1 i2 ha hn hE'.1 hE'.2 hc ho hg
def Zn:Nd (Be (AG P w K) P w K mg base N qual scope f cd A outer s H E) (WE E H):=by
 intro pins σ H1 s1 c C a h' args I hc hx hW;have hin:∀ env∈(Be (AG P w K) P w K mg base N qual scope f cd A outer s H E).stack,∀ b,env.frame=some b->b∈BS (Be (AG P w K) P w K mg base N qual scope f cd A outer s H E).stack:=λ env he b hb=>ji8.mpr ⟨env,he,hb⟩;have DY:∀ b,H1 b≠none->∃ o,s1.heap.get? b=some o:=λ b hb=>by
  cases q:H1 b with
  | none=>exact absurd q hb
  | some u=>exact MP (I.hok b u q)
 have nfr:∀ b,H1 b≠none->b∉BS (Be (AG P w K) P w K mg base N qual scope f cd A outer s H E).stack:=λ b hb z=>hb (I.stkFree b z);refine wpAny_leaves_madeW (base:=PySem.W.hideAll s1.heap (BS (Be (AG P w K) P w K mg base N qual scope f cd A outer s H E).stack)) (h:=s1.heap) (by exact I.ok.frames) rfl (λ b o q=>PySem.W.of_hideAll _ q) (PySem.W.funFrames_hide I.stack hin) hx λ h2 t f2 _ _ up=>?_;refine PB (s2:={ s1 with heap:=h2 }) I rfl (Un.kept hx.keeps) (I.hok.kept hx.keeps) f2 up (λ b o e hb=>?_) (λ b o e _ hb=>NH _ e hb) ?_ hx.new hW.1 hW.2 hc rfl I.bare
 ·obtain ⟨o1,e1⟩:=DY b hb;have e2:=hx.keeps b o1 e1;rw [e] at e2;cases e2;exact NH _ e1 (nfr b hb)
 ·cases q:H1 a with
  | none=>rfl
  | some u=>
   obtain ⟨o,e⟩:=MP (I.hok a u q);rw [hx.new] at e;cases e
def Sm:IL (Ap P w) (Be (AG P w K) P w K mg base N qual scope f cd A outer s H E).A (Be (AG P w K) P w K mg base N qual scope f cd A outer s H E).env (Be (AG P w K) P w K mg base N qual scope f cd A outer s H E).xe:=PassesOwn.leaving
end
section
variable {X:Cx}{CX:Ej}{k:Nat}{f:Addr}{fd:C0}{ps:List Str}{sp:Sp}{x:Str}{p pos:Pos}{e:Expr}{es:List Expr}{t:TA}{W:St->Nat->Hp->Prop}
def RQ (sp:Sp) (W:St->Nat->Hp->Prop) (t:TA):TE:=λ σ H Q=>t σ H λ vs H1=>sp vs H1 Q (EW (W σ))
theorem Yj (F:FnOk X.prog X.w X.K X.mg X.base CX k f fd ps sp) (hr:Room k X.A) (hg:Gl X x) (hm:X.mg x=some (.ref f)) (hk:GQ X.K (.ref f)=true) (hb:zjy X.K fd ps []) (hx:Ip CX X W) (ha:PA X (e::es) t) (hdb:(x == ("__debug__" : Str))=false)
  (he:Ax (e::es) X.env=(false,eval e X.env)::Ax es X.env) (hpl:(Cz pos (Ax es X.env)).any (·.1)=false):PE X (.Call (.Name x p) (e::es) [] pos) (RQ sp W t):=by
 intro pins s σ H Q I h;refine LP (IB I hg hm ?_ hdb);refine PySem.W.callWith_K (h₀:=X.base) I.ok.mod.kin hk (Ay (ha pos pins s σ H _ I h) λ us s1 ⟨vs,H1,I1,r,q⟩=>⟨I1.kIn,?_⟩) he hpl;have q':sp vs H1 Q (EW (W σ)):=q;have hl:(us++[]).length=ps.length:=by rw [Jd,<- r.length];exact F.len _ _ _ _ q'
 have hbd:=hb s1 us I1.kIn hl;rw [Jd] at hbd;refine wpAny_call (LJ (F.run X.A X.stack s1 H1 ⟨us,[]⟩ us vs Q (EW (W σ)) hr I1.env0 hbd r q') λ r s' hq=>?_);cases r with
 | error e=>exact hx pins σ H1 s1 e s' I1 hq
 | ok fl=>
  cases fl with
  | ret u=>exact I1.after hq
  | next=>exact DC hq
  | brk=>exact DC hq
  | cont=>exact DC hq
def U8 {P:A3}{w:Az}{K:Frag}:Oo (AG P w K) X E0:=λ _ _ _ _ _ _ _ h=>by
 obtain ⟨a,C,c,H',B,a0,_,_,_,_,_,_,_,_,_,_,_,_,hE⟩:=h;exact DC hE
end
def CJ (cells:List (Str×Addr)):List (Str×CO)->List (Str×Addr)->List (Str×Addr)
 | [],cs=>cs
 | (n,k)::r,cs=>if k == .free then CJ cells r ((n,(cells.lookup n).getD 0)::cs) else CJ cells r cs
def Pz {scope:AX}{env:Env} (h:∀ x∈scope.names,x.2=.free->∃ c,env.cells.lookup x.1=some c):closureFor scope env=pure (CJ env.cells scope.names []):=by
 unfold closureFor;have all:∀ (l:List (Str×CO)) (cs:List (Str×Addr)),(∀ x∈l,x.2=.free->∃ c,env.cells.lookup x.1=some c) ->
   (forIn l cs λ (x:Str×CO) (cs:List (Str×Addr))=>if (x.2 == NameKind.free)=true then (do let a<-cellOf env x.1;pure (ForInStep.yield ((x.1,a)::cs))) else pure (ForInStep.yield cs):Sem (List (Str×Addr)))=pure (CJ env.cells l cs):=by
  intro l;induction l with
  | nil=>intro cs _;rfl
  | cons x r ih=>
   intro cs hl;obtain ⟨n,k⟩:=x;rw [Th];have ih':=λ cs=>ih cs λ y hy=>hl y (AA _ hy);by_cases hk:(k == NameKind.free)=true
   ·obtain ⟨c,hc⟩:=hl (n,k) AI (by simpa using hk);have e1:cellOf env n=pure c:=by unfold cellOf;rw [hc]
    rw [if_pos hk,e1];simp only [pure_bind];rw [ih',CJ,if_pos hk,hc];rfl
   ·rw [if_neg hk];simp only [pure_bind];rw [ih',CJ,if_neg hk]
 have:=all scope.names [] h
 simp only [bind_pure] at this ⊢;exact this
theorem FF (cells:List (Str×Addr)) (x:Str) (c:Addr):∀ (l:List (Str×CO)) (cs:List (Str×Addr)),(∀ y∈l,y.2=.free->∃ c,cells.lookup y.1=some c)->(cs.lookup x=some c->cells.lookup x=some c)->(CJ cells l cs).lookup x=some c->cells.lookup x=some c
 | [],cs,_,h,e=>h e
 | (n,k)::r,cs,hl,h,e=>by
  unfold CJ at e;split at e
  ·rename_i hk;refine FF cells x c r _ (λ y hy=>hl y (AA _ hy)) (λ e'=>?_) e;rw [DH] at e';split at e'
   ·rename_i hx;obtain ⟨c',hc⟩:=hl (n,k) AI (by simpa using hk);rw [hc] at e';cases e';rw [eq_of_beq hx];exact hc
   ·exact h e'
  ·exact FF cells x c r cs (λ y hy=>hl y (AA _ hy)) h e
theorem MI (cells:List (Str×Addr)) (x:Str):∀ (l:List (Str×CO)) (cs:List (Str×Addr)),(∃ c,cs.lookup x=some c)->∃ c,(CJ cells l cs).lookup x=some c
 | [],cs,h=>h
 | (n,k)::r,cs,h=>by
  unfold CJ;split
  ·refine MI cells x r _ ?_;rw [DH];split
   ·exact ⟨_,rfl⟩
   ·exact h
  ·exact MI cells x r cs h
theorem MX (cells:List (Str×Addr)) (x:Str):∀ (l:List (Str×CO)) (cs:List (Str×Addr)),(x,NameKind.free)∈l->∃ c,(CJ cells l cs).lookup x=some c
 | [],_,h=>nomatch h
 | (n,k)::r,cs,h=>by
  unfold CJ;rcases jb3.mp h with e | e
  ·cases e;rw [if_pos (show (NameKind.free == NameKind.free)=true by decide)];exact MI cells x r _ ⟨_,by rw [DH,beq_self_eq_true]⟩
  ·split
   ·exact MX cells x r _ e
   ·exact MX cells x r cs e
theorem MW:∀ (names:List (Str×CO)) (n:Nat) (acc:List (Str×Addr)) (x:Str) (c:Addr),(CG n names acc).lookup x=some c->acc.lookup x=some c\/(n<=c/\(x,NameKind.cell)∈names)
 | [],n,acc,x,c,h=>.inl h
 | (m,k)::r,n,acc,x,c,h=>by
  unfold CG at h;split at h
  ·rename_i hk;have hk':k=.cell:=by simpa using hk
   rcases MW r _ _ x c h with z | ⟨z,y⟩
   ·rw [DH] at z;split at z
    ·rename_i hx;cases z;exact .inr ⟨Bc _,by rw [eq_of_beq hx,hk'];exact AI⟩
    ·exact .inl z
   ·exact .inr ⟨GY z,AA _ y⟩
  ·rcases MW r _ _ x c h with z | ⟨z,y⟩
   ·exact .inl z
   ·exact .inr ⟨z,AA _ y⟩
theorem Lj:∀ (names:List (Str×CO)) (n:Nat) (acc:List (Str×Addr)) (x:Str),(x,NameKind.cell)∉names->(CG n names acc).lookup x=acc.lookup x
 | [],n,acc,x,h=>rfl
 | (m,k)::r,n,acc,x,h=>by
  unfold CG;split
  ·rename_i hk;have hk':k=.cell:=by simpa using hk
   rw [Lj r _ _ x λ z=>h (AA _ z),DH];split
   ·rename_i hx;exact absurd (by rw [eq_of_beq hx,hk'];exact AI) h
   ·rfl
  ·exact Lj r _ _ x λ z=>h (AA _ z)
theorem Mx:∀ (names:List (Str×CO)) (n:Nat) (acc:List (Str×Addr)) (x:Str),(x,NameKind.cell)∈names->∃ c,(CG n names acc).lookup x=some c/\n<=c
 | [],n,acc,x,h=>nomatch h
 | (m,k)::r,n,acc,x,h=>by
  by_cases hr:(x,NameKind.cell)∈r
  ·unfold CG;split
   ·obtain ⟨c,e,l⟩:=Mx r (n + 1) ((m,n)::acc) x hr;exact ⟨c,e,GY l⟩
   ·exact Mx r n acc x hr
  ·rcases jb3.mp h with e | e
   ·cases e;unfold CG;rw [if_pos (by decide),Lj r _ _ _ hr,DH,beq_self_eq_true];exact ⟨n,rfl,Bc _⟩
   ·exact absurd e hr
theorem Ol:∀ (names:List (Str×CO)) (n:Nat) (acc:List (Str×Addr)),(∀ x y c,acc.lookup x=some c->acc.lookup y=some c->x=y)->(∀ x c,acc.lookup x=some c->c < n)->∀ x y c,(CG n names acc).lookup x=some c->(CG n names acc).lookup y=some c->x=y
 | [],n,acc,hi,_,x,y,c,h1,h2=>hi x y c h1 h2
 | (m,k)::r,n,acc,hi,hl,x,y,c,h1,h2=>by
  unfold CG at h1 h2;split at h1
  ·rename_i hk;rw [if_pos hk] at h2;refine Ol r (n + 1) ((m,n)::acc) (λ x y c h1 h2=>?_) (λ x c h=>?_) x y c h1 h2
   ·rw [DH] at h1 h2;split at h1
    ·rename_i e1;cases h1;split at h2
     ·rename_i e2;rw [eq_of_beq e1,eq_of_beq e2]
     ·exact absurd (hl y _ h2) (EK _)
    ·split at h2
     ·cases h2;exact absurd (hl x _ h1) (EK _)
     ·exact hi x y c h1 h2
   ·rw [DH] at h;split at h
    ·cases h;exact M8 _
    ·exact MA (hl x c h)
  ·rename_i hk;rw [if_neg hk] at h2;exact Ol r n acc hi hl x y c h1 h2
theorem Np:∀ (names:List (Str×CO)) (h:Heap) (acc:List (Str×Addr)) (x:Str) (c:Addr),(CG h.objs.size names acc).lookup x=some c->acc.lookup x=some c\/(pushCells h names).IsCell c none
 | [],h,acc,x,c,e=>.inl e
 | (m,k)::r,h,acc,x,c,e=>by
  unfold CG at e;unfold pushCells;split at e
  ·rename_i hk;rw [if_pos hk];have hs:(h.push { cls:=.type "cell",data:=.cell none }).objs.size=h.objs.size + 1:=JK ..;have e':(CG (h.push { cls:=.type "cell",data:=.cell none }).objs.size r ((m,h.objs.size)::acc)).lookup x=some c:=by rw [hs];exact e
   rcases Np r _ _ x c e' with z | z
   ·rw [DH] at z;split at z
    ·cases z;exact .inr ⟨_,N7 _ _ _ _ (DX _ rfl),rfl⟩
    ·exact .inl z
   ·exact .inr z
  ·rename_i hk;rw [if_neg hk];exact Np r h acc x c e
def Ue {M:Model}{A:AW}{E:Ae->Ah->Prop}{s:Ah}{scope:AX}{globals:Addr}{cl:List (Str×Addr)}{qual:Str}{func:Option Addr}{code:Ae}{around:Env}{builtins:Addr}{Q:Env->Ah->Prop}
  (hQ:Q (newEnv scope s.heap.objs.size globals (CG (s.heap.objs.size + 1) scope.names cl) qual func code (some around) builtins) { s with heap:=pushCells (s.heap.push { cls:=.type "dict",data:=.dict #[] }) scope.names }):
  Aq M A (N4 scope globals cl [] qual func code (some around) builtins) Q E s:=by
 simp only [N4,Tr,if_true];refine AS (wpAny_alloc ?_);refine AS (wpAny_layCells _ (λ name kind cells=>by cases hkc:kind == NameKind.cell <;> simp [hkc]) _ _ _ _ ?_);rw [show ({ s with heap:=s.heap.push { cls:=.type "dict",data:=.dict #[] } }:Ah).heap.objs.size=s.heap.objs.size + 1 from JK ..];exact AS (Bw (Bw hQ))
def JC (X:Cx) (scope:AX) (C:Addr):List (Str×Addr):=CG (C + 1) scope.names (CJ X.env.cells scope.names [])
def Ba (X:Cx) (s2:Ah) (H2:Hp) (scope:AX) (C:Addr) (N':List Str) (fp:List Addr) (pins:List (Addr×Obj)):Cx:=
 { X with N:=N',s₀:=s2,H₀:=H2,env:=compEnvC scope (JC X scope C) C X.env,outer:=X.stack,stack:=X.stack,ex:=fp,fn:=λ x=>scope.names.contains (x,NameKind.cell),pn:=X.pn++pins,xe:=λ _ _=>False }
structure CompOk (X:Cx) (scope:AX) (N':List Str) (k:Nat):Prop where
 kind:scope.kind=.function
 dis:∀ x,(x,NameKind.free)∈scope.names->(x,NameKind.cell)∉scope.names
 names:∀ x∈scope.names,x.2=.local->scope.names.lookup x.1=some .local
 len:N'.length=X.N.length + k
 free:∀ x∈scope.names,x.2=.free->X.env.kindOf x.1=some .cell\/X.env.kindOf x.1=some .free
 kinds:∀ x,(GP scope X.env).names.lookup x=some .cell\/(GP scope X.env).names.lookup x=some .free->(x,NameKind.free)∈scope.names\/(x,NameKind.cell)∈scope.names
 capt:∀ (i:Nat) (x:Str),i < X.N.length->N'[i]?=some x->Hb (GP scope X.env) x->X.N[i]?=some x/\Hb X.env.scope x/\(x,NameKind.free)∈scope.names/\(GP scope X.env).names.lookup x≠some .local
section
variable {X:Cx}{scope:AX}{N':List Str}{k:Nat}{pins:List (Addr×Obj)}{σ:St}{H2:Hp}{s2:Ah}{fp:List Addr}{C:Addr}
def CompOk.cells (c:CompOk X scope N' k) (I:Inv X pins σ H2 s2):∀ x∈scope.names,x.2=.free->∃ a,X.env.cells.lookup x.1=some a:=λ x hx hf=>I.ok.has x.1 (c.free x hx hf)
def CompOk.cl (c:CompOk X scope N' k) (I:Inv X pins σ H2 s2) {x:Str}{a:Addr} (h:(JC X scope C).lookup x=some a):X.env.cells.lookup x=some a\/(C + 1<=a/\(x,NameKind.cell)∈scope.names):=
 (MW _ _ _ x a h).imp (λ z=>FF _ x a _ [] (c.cells I) (λ z=>nomatch z) z) id
def CompOk.old (c:CompOk X scope N' k) (I:Inv X pins σ H2 s2) {x:Str}{a:Addr} (h:X.env.cells.lookup x=some a):a < s2.heap.objs.size:=by
 obtain ⟨v,o,ho,_⟩:=I.cell x a h;exact AZ ho
def CompOk.cap (c:CompOk X scope N' k) {x:Str} (h:(x,NameKind.free)∈scope.names):∃ a,(JC X scope C).lookup x=some a/\(CJ X.env.cells scope.names []).lookup x=some a:=by
 obtain ⟨a,ha⟩:=MX X.env.cells x scope.names [] h;exact ⟨a,(Lj _ _ _ x (c.dis x h)).trans ha,ha⟩
def CompOk.ok (c:CompOk X scope N' k) (I:Inv X pins σ H2 s2) (hf:∀ b∈fp,Cf X pins H2 b) (hC:s2.heap.objs.size<=C) (hfp:∀ b∈fp,b < s2.heap.objs.size):(Ba X s2 H2 scope C N' fp pins).Ok where
 mod:=I.ok.mod
 kind:=c.kind
 glob:=I.ok.glob
 blt:=I.ok.blt
 above:=hC
 inj:=λ x y a h1 h2=>Ol scope.names (C + 1) _ (λ x y a h1 h2=>I.ok.inj x y a (FF _ x a _ [] (c.cells I) (λ z=>nomatch z) h1) (FF _ y a _ [] (c.cells I) (λ z=>nomatch z) h2))
  (λ x a h=>MA (Br (c.old I (FF _ x a _ [] (c.cells I) (λ z=>nomatch z) h)) hC)) x y a h1 h2
 has:=λ x hx=>(c.kinds x hx).elim (λ z=>let ⟨a,h,_⟩:=c.cap (C:=C) z;⟨a,h⟩) λ z=>let ⟨a,h,_⟩:=Mx scope.names (C + 1) (CJ X.env.cells scope.names []) x z;⟨a,h⟩
 cab:=λ x a h e=>by
  have hx:(x,NameKind.cell)∈scope.names:=by
   have h':scope.names.contains (x,NameKind.cell)=true:=h;simpa using h'
  obtain ⟨a',e',l⟩:=Mx scope.names (C + 1) (CJ X.env.cells scope.names []) x hx;have e2:(CG (C + 1) scope.names (CJ X.env.cells scope.names [])).lookup x=some a:=e;rw [e'] at e2;cases e2;exact CT hC (GY l)
 hd:=I.ok.hd
 frames:=I.ok.frames
 stk:=.inl rfl
 exf:=λ b hb=>⟨Cc (Br (hfp b hb) hC),λ x a h=>(c.cl I h).elim (λ z=>(hf b hb).2.2.2.2.1 x a z) λ z=>HX (Br (hfp b hb) (CT hC (GY z.1)))⟩
 bs:=I.bs
 bsz:=CT I.ok.bsz I.sz
 noex:=λ b o e hb=>by
  rcases (hf b hb).2.2.2.1 with z | z
  ·exact I.ok.noex b o e z
  ·exact absurd (Br (AZ e) (CT I.ok.bsz z)) (EK _)
 exfs:=λ b hb hz=>by
  rcases jb3.mp (I.stkSub b hz) with z | z
  ·exact (hf b hb).2.1 z
  ·exact (hf b hb).2.2.1 z
 funs:=I.stack
 frf:=I.stkFree
def CompOk.inv (c:CompOk X scope N' k) (I:Inv X pins σ H2 s2) (hf:∀ b∈fp,Cf X pins H2 b) (hfp:∀ b∈fp,b < s2.heap.objs.size) {H3:Hp}{h':Heap}{t':Nat}{m:Str->Option Ae}{D:Addr} (hCD:D≠C) (hD:s2.heap.objs.size<=D) (hC:s2.heap.objs.size<=C)
  (keep:∀ b o,s2.heap.get? b=some o->h'.get? b=some o) (ns:h'.Ns C m) (hH:∀ b,b≠D->H3 b=H2 b) (hok:HOk X.prog X.w H3 h') (hC3:H3 C=none) (hDC:D < C) (hcN:∀ x a,(JC X scope C).lookup x=some a->C + 1<=a->h'.IsCell a none):
  Inv (Ba X s2 H2 scope C N' fp pins) [] (σ++A6 k none) H3 { s2 with heap:=h',toks:=t' } where
 ok:=c.ok I hf hC hfp
 os:=rfl
 bare:=I.bare
 base:=by
  have nD:∀ b o,s2.heap.get? b=some o->b≠D:=λ b o e=>Cc (Br (AZ e) hD);refine ⟨λ b o e _ _ _=>keep b o e,λ b o e _ _ _=>⟨o.slots,keep b o e⟩,λ b o e n _=>by rw [hH b (nD b o e)];exact n,λ b o e _=>⟨o,keep b o e⟩,λ b xs e=>?_,λ b o u e=>?_,λ b ps e=>⟨#[],?_⟩⟩
  ·have e:H2 b=some (.tup xs):=e;rw [hH b (λ z=>by rw [z,I.hok.fresh hD] at e;cases e)];exact e
  ·have e:H2 b=some (.frz o u):=e;rw [hH b (λ z=>by rw [z,I.hok.fresh hD] at e;cases e)];exact e
  ·have e:H2 b=some (.tbl ps):=e;rw [hH b (λ z=>by rw [z,I.hok.fresh hD] at e;cases e)];simpa using e
 loc:=by
  refine ⟨m,ns,λ i x v e1 e2 e3=>?_⟩;have hi:i < σ.length:=by
   by_cases hi:i < σ.length
   ·exact hi
   ·rw [Gn (by omega),Fl] at e2;split at e2 <;> cases e2
  rw [CU hi] at e2;obtain ⟨n1,n2,n3,n4⟩:=c.capt i x (by rw [<- I.len];exact hi) e1 e3;obtain ⟨m0,ns0,hl⟩:=I.loc;obtain ⟨u,r,lk⟩:=hl i x v n1 e2 n2;refine ⟨u,r,.inr ⟨?_,?_⟩⟩
  ·rcases e3 with z | z | z
   ·exact absurd z n4
   ·exact .inl z
   ·exact .inr z
  ·obtain ⟨a,ha,hb⟩:=c.cap (C:=C) n3;have ha':=FF _ x a _ [] (c.cells I) (λ z=>nomatch z) hb;refine ⟨a,ha,?_⟩;rcases lk with ⟨hk,_⟩ | ⟨hk,a2,ha2,hc⟩
   ·rcases c.free _ n3 rfl with z | z <;> rw [hk] at z <;> cases z
   ·rw [ha'] at ha2;cases ha2;obtain ⟨o,ho,hd⟩:=hc;exact ⟨o,keep _ _ ho,hd⟩
 cell:=λ x a h=>by
  rcases c.cl I h with z | z
  ·obtain ⟨v,o,ho,hd⟩:=I.cell x a z;exact ⟨v,o,keep _ _ ho,hd⟩
  ·exact ⟨none,hcN x a h z.1⟩
 free:=hC3
 freeC:=λ x a h=>by
  rcases c.cl I h with ha | z
  ·obtain ⟨v,o,ho,hd⟩:=I.cell x a ha;rw [hH a (Cc (Br (AZ ho) hD))];exact I.freeC x a ha
  ·rw [hH a (HX (Br hDC (GY z.1)))];exact I.hok.fresh (CT hC (GY z.1))
 pin:=λ p hp=>by
  have hp':p∈X.pn++pins:=by simpa [Ba] using hp
  obtain ⟨e,n,ne,nf,d⟩:=I.pin p hp';have hlt:=AZ e;exact ⟨keep _ _ e,by rw [hH p.1 (Cc (Br hlt hD))];exact n,Cc (Br hlt hC),λ z=>(jb3.mp (I.stkSub p.1 z)).elim ne nf,d⟩
 hok:=hok
 len:=by
  show (σ++A6 k none).length=N'.length;rw [Bn,Fj,c.len,I.len]
def Gu (X:Cx) (ifs:List Expr) (t:TT):Prop:=
 ∀ (pins:List (Addr×Obj)) (s:Ah) (σ:St) (H:Hp) (Q:Bool->Hp->Prop),Inv X pins σ H s->t σ H Q ->
  Aq (Ap X.prog X.w) X.A (forIn ifs true λ c r=>if r=true then do let ok<-isTrue c X.env (eval c X.env);pure (ForInStep.yield ok) else pure (ForInStep.yield r)) (TP X pins σ Q) X.xe s
def Xw {X:Cx}:Gu X [] (λ _ H Q=>Q true H):=λ _ _ _ H _ I h=>Bw ⟨H,I,h⟩
def Xx {X:Cx}{c:Expr}{t:TT} (hc:PT X c t):Gu X [c] t:=by
 intro pins s σ H Q I h;rw [Th];refine AS ?_;rw [if_pos rfl];refine AS (Ay (hc pins s σ H Q I h) λ b s1 q=>Bw ?_);exact Bw q
def CompOk.again (c:CompOk X scope N' k) (I:Inv X pins σ H2 s2) {σ':St}{H':Hp}{s':Ah}{ps:List (Addr×Obj)} (hfp:∀ b∈fp,Cf X pins H2 b) (J:Inv (Ba X s2 H2 scope C N' fp pins) ps σ' H' s'):Inv (Ba X s2 H2 scope C N' fp pins) ps (σ++A6 k none) H' s' where
 ok:=J.ok
 os:=J.os
 bare:=J.bare
 base:=J.base
 loc:=by
  obtain ⟨m,ns,_⟩:=J.loc;refine ⟨m,ns,λ i x v e1 e2 e3=>?_⟩;have hi:i < σ.length:=by
   by_cases hi:i < σ.length
   ·exact hi
   ·rw [Gn (by omega),Fl] at e2;split at e2 <;> cases e2
  rw [CU hi] at e2;obtain ⟨n1,n2,n3,n4⟩:=c.capt i x (by rw [<- I.len];exact hi) e1 e3;obtain ⟨m0,ns0,hl⟩:=I.loc;obtain ⟨u,r,lk⟩:=hl i x v n1 e2 n2;refine ⟨u,r,.inr ⟨?_,?_⟩⟩
  ·rcases e3 with z | z | z
   ·exact absurd z n4
   ·exact .inl z
   ·exact .inr z
  ·obtain ⟨a,ha,hb⟩:=c.cap (C:=C) n3;have ha':=FF _ x a _ [] (c.cells I) (λ z=>nomatch z) hb;refine ⟨a,ha,?_⟩;rcases lk with ⟨hk,_⟩ | ⟨hk,a2,ha2,hc⟩
   ·rcases c.free _ n3 rfl with z | z <;> rw [hk] at z <;> cases z
   ·rw [ha'] at ha2;cases ha2;obtain ⟨o,ho,hd⟩:=hc;obtain ⟨sl,ho'⟩:=J.base.any (b:=a) (ob:=o) ho (I.freeC x a ha') λ z=>(hfp a z).2.2.2.2.1 x a ha' rfl;exact ⟨_,ho',hd⟩
 cell:=J.cell
 free:=J.free
 freeC:=J.freeC
 pin:=J.pin
 hok:=J.hok
 len:=by
  show (σ++A6 k none).length=N'.length;rw [Bn,Fj,c.len,I.len]
theorem Ub {prog:A3}{w:Az}{A:AW}{R:Result->Ah->Prop}{s:Ah}{elt target iter:Expr}{ifs:List Expr}{scope:AX}{pos:Pos}{it acc:Ae}{env:Env} (I:Nat->Ah->Prop)
  (turn:∀ n s,I n s->Aq (Ap prog w) A (pyNext it) (λ r s₁=>match r with
   | none=>R (.ok .next) s₁
   | some v=>Aq (Ap prog w) A (LN target it v) (λ _ s₁'=>Aq (Ap prog w) A (FO target env v) (λ _ s₂=>
     Aq (Ap prog w) A (forIn ifs true λ c r=>if r=true then do let ok<-isTrue c env (eval c env);pure (ForInStep.yield ok) else pure (ForInStep.yield r)) (λ ok s₃=>
      if ok=true then Aq (Ap prog w) A (eval elt env) (λ x s₄=>
       Aq (Ap prog w) A (call (.builtin "list.append") [acc,x]) (λ _ s₅=>∃ m,m < n/\I m s₅) (λ _ _=>False) s₄) (λ _ _=>False) s₃
      else ∃ m,m < n/\I m s₃) (λ _ _=>False) s₂) (λ _ _=>False) s₁') (λ _ _=>False) s₁) (λ _ _=>False) s)
  (n:Nat) (h:I n s):
  GO (Ap prog w) A (.compLoop (.ListComp elt [⟨target,iter,ifs,0⟩] scope pos) 0 it acc env) R s:=by
 refine codeAny_loop rfl I (λ n s hI=>?_) n h;show Aq _ A ((compTurn (.ListComp elt [⟨target,iter,ifs,0⟩] scope pos) 0 it acc env).onRaise (λ x=>do noteFrame x env;theTreesLotGoes x)) _ _ s;refine wpAny_noted ?_;rw [compTurn_list];refine AS (wpAny_standAt (AS (DE (turn n s hI) (λ r s₁ h₁=>?_) λ _ _ h'=>h'.elim)));cases r with
 | none=>exact Bw h₁
 | some v=>
  refine AS (DE h₁ (λ _ s₁' h₁'=>?_) λ _ _ h'=>h'.elim);refine AS (DE h₁' (λ _ s₂ h₂=>AS (DE h₂ (λ ok s₃ h₃=>?_) λ _ _ h'=>h'.elim)) λ _ _ h'=>h'.elim);cases ok with
  | false=>exact Bw ⟨rfl,h₃⟩
  | true=>
   exact AS (AS (DE h₃ (λ x s₄ h₄=>AS (DE h₄ (λ _ s₅ h₅=>Bw (Bw ⟨rfl,h₅⟩)) λ _ _ h'=>h'.elim)) λ _ _ h'=>h'.elim))
def Qt {elt iter tg:Expr}{ifs:List Expr}{pos:Pos}{J:It}{it:Addr}{tn:Nat->Heap->Prop}{g:TG}{tc:TT}{te:TE}{RR:Ae->Addr->Result->Ah->Prop}{Q:VK}{E:Ae->Ah->Prop}
  (c:CompOk X scope N' k) (hcalm:X.calm=true) (I:Inv X pins σ H2 s2) (T:Turn X.prog X.w X.K tg J fp it tn) (st:tn 0 s2.heap) (hf:∀ b∈fp,Cf X pins H2 b)
  (hg:∀ C fp,PG (Ba X s2 H2 scope C N' fp pins) tg g) (hc:∀ C fp,Gu (Ba X s2 H2 scope C N' fp pins) ifs tc) (he:∀ C fp,PE (Ba X s2 H2 scope C N' fp pins) elt te)
  (h:∀ D,H2 D=none->∃ W:Nat->Nat->List V->Hp->Prop,(∃ m,W 0 m [] (Ao H2 D (.lst [])))/\∀ i m ys H,W i m ys H->H D=some (.lst ys) /\
   ((J.stop i H/\Q (.ref D) H)\/(J.go i H/\∀ x H',J.yld i H x H'->g x (σ++A6 k none) H' λ σ2 H2=>tc σ2 H2 λ b H3=>if b=true then te σ2 H3 λ y H4=>H4 D=some (.lst ys)/\ys.length < An/\∃ m',m' < m/\W (i + 1) m' (ys++[y]) (Ao H4 D (.lst (ys++[y]))) else ∃ m',m' < m/\W (i + 1) m' ys H3)))
  (hRR:∀ D C σ' H' s',s2.heap.objs.size<=C->Inv (Ba X s2 H2 scope C N' fp pins) [] σ' H' s'->Q (.ref D) H'->RR (.ref D) C (.ok .next) s')
  :
  Aq (Ap X.prog X.w) X.A (newList []) (λ acc s₃=>Aq (Ap X.prog X.w) X.A (N4 scope X.env.globals (CJ X.env.cells scope.names []) [] X.env.qual none .none (some X.env)) (λ cenv s₄=>
   GO (Ap X.prog X.w) X.A (.compStart (.ListComp elt [⟨tg,iter,ifs,0⟩] scope pos) 0 (.ref it) acc { cenv with scope:=GP scope X.env }) (RR acc cenv.locals) s₄) E s₃) E s2:=by
 refine JP (Ue ?_);dsimp only;generalize hH2:s2.heap.push { cls:=.type "list",dict:=none,data:=.seq ([]:List Ae).toArray }=HP;obtain ⟨h₁,hh₁⟩:∃ h₁,h₁=pushCells (HP.push { cls:=.type "dict",data:=.dict #[] }) scope.names:=⟨_,rfl⟩
 rw [<- hh₁];have kk:∀ b o,HP.get? b=some o->h₁.get? b=some o:=λ b o e=>by rw [hh₁];exact N7 _ _ b o (CP _ e)
 have hns₁:h₁.Ns HP.objs.size (λ _=>none):=by rw [hh₁];exact (Heap.Ns.new HP (.type "dict")).keeps (N7 _ _)
 have hC:HP.objs.size=s2.heap.objs.size + 1:=by rw [<- hH2,JK]
 have hDC:s2.heap.objs.size≠HP.objs.size:=by rw [hC];exact Cc (M8 _)
 have hCle:s2.heap.objs.size<=HP.objs.size:=by rw [hC];exact Nat.le_succ _
 have hfp:∀ b∈fp,b < s2.heap.objs.size:=λ b hb=>by
  obtain ⟨o,e,_⟩:=T.obj 0 _ st b hb;exact AZ e
 have below:∀ b,b < s2.heap.objs.size->b≠HP.objs.size:=λ b hb=>by rw [hC];exact Cc (MA hb)
 have old:∀ b o,s2.heap.get? b=some o->h₁.get? b=some o:=λ b o e=>kk b o (hH2 ▸ CP _ e);have hacc:h₁.get? s2.heap.objs.size=some { cls:=.type "list",dict:=none,data:=.seq ([]:List Ae).toArray }:=kk _ _ (hH2 ▸ DX _ rfl);have fD:H2 s2.heap.objs.size=none:=I.hok.fresh (Bc _);obtain ⟨W,⟨m0,w0⟩,hW⟩:=h _ fD;have hok3:HOk X.prog X.w (Ao H2 s2.heap.objs.size (.lst [])) h₁:=I.hok.laid old (Bc _) ⟨HW _,[],0,.nil,hacc⟩;have st1:tn 0 h₁:=T.keep _ _ _ st λ b hb o e=>old b o e;have I3:Inv (Ba X s2 H2 scope HP.objs.size N' fp pins) [] (σ++A6 k none) (Ao H2 s2.heap.objs.size (.lst [])) { s2 with heap:=h₁ }:=
  c.inv I hf hfp (t':=s2.toks) hDC (Bc _) hCle old hns₁ (λ b hb=>AE hb) hok3 (by rw [AE (Bv hDC)];exact I.hok.fresh hCle) (by rw [hC];exact M8 _) (λ x a h l=>by
   have hs:(HP.push { cls:=.type "dict",data:=.dict #[] }).objs.size=HP.objs.size + 1:=JK ..;have h':(CG (HP.push { cls:=.type "dict",data:=.dict #[] }).objs.size scope.names (CJ X.env.cells scope.names [])).lookup x=some a:=by rw [hs];exact h
   rcases Np scope.names _ _ x a h' with z | z
   ·exact absurd (Br (c.old I (FF _ x a _ [] (c.cells I) (λ z=>nomatch z) z)) (CT hCle (GY l))) (EK _)
   ·rw [hh₁];exact z)
 have fx:∀ {H':Hp},(∀ b∈fp,H' b=none)->∀ b∈fp,Cf (Ba X s2 H2 scope HP.objs.size N' fp pins) [] H' b:=λ hn b hb=>by
  obtain ⟨f0,f1,f2,f3,f4,f5⟩:=hf b hb;refine ⟨hn b hb,Cc (Br (hfp b hb) hCle),λ hz=>?_,.inl hb,λ x a h=>(c.cl I h).elim (λ z=>f4 x a z) λ z=>HX (Br (hfp b hb) (CT hCle (GY z.1))),λ p hp=>f5 p (by simpa [Ba] using hp)⟩;rcases jb3.mp (I.stkSub b hz) with z | z
  ·exact f1 z
  ·exact f2 z
 have f0:∀ b∈fp,(Ao H2 s2.heap.objs.size (.lst [])) b=none:=λ b hb=>by rw [AE (Cc (hfp b hb))];exact (hf b hb).1
 have loop:∀ s₃:Ah,s₃={ s2 with heap:=h₁ } ->
   GO (Ap X.prog X.w) X.A (.compLoop (.ListComp elt [⟨tg,iter,ifs,0⟩] scope pos) 0 (.ref it) (.ref s2.heap.objs.size) (compEnvC scope (JC X scope HP.objs.size) HP.objs.size X.env))
    (RR (.ref s2.heap.objs.size) HP.objs.size) s₃:=by
  rintro s₃ rfl;refine Ub (λ n s'=>∃ i H' ys,Inv (Ba X s2 H2 scope HP.objs.size N' fp pins) [] (σ++A6 k none) H' s'/\tn i s'.heap/\(∀ b∈fp,H' b=none)/\W i n ys H') ?_ m0 ⟨0,_,[],I3,st1,f0,w0⟩;rintro n s4 ⟨i,H4,ys,I4,st4,fr4,w4⟩;obtain ⟨hD4,hcase⟩:=hW i n ys H4 w4;rcases hcase with ⟨stop,qn⟩ | ⟨go,step⟩
  ·refine Ay (T.done (Ba X s2 H2 scope HP.objs.size N' fp pins) rfl rfl rfl hcalm i [] s4 _ H4 (λ _ _=>False) I4 (fx fr4) st4 stop) λ r s5 ⟨hr,I5⟩=>?_;subst hr;exact hRR _ _ _ _ _ hCle I5 qn
  ·refine Ay (T.item (Ba X s2 H2 scope HP.objs.size N' fp pins) rfl rfl rfl hcalm i [] s4 _ H4 (λ _ _=>False) I4 (fx fr4) st4 go) λ r s5 ⟨u,hr,h5⟩=>?_;subst hr;refine Ay h5 λ _ s6 ⟨x,H6,I6,r6,y6,st6,fr6⟩=>?_;have I6':=I6.pinned (fx fr6) (T.obj _ _ st6);have stays:∀ {σ':St}{H':Hp}{s':Ah},Inv (Ba X s2 H2 scope HP.objs.size N' fp pins) ([]++Jx fp s6.heap) σ' H' s'->Inv (Ba X s2 H2 scope HP.objs.size N' fp pins) [] (σ++A6 k none) H' s'/\tn (i + 1) s'.heap/\∀ b∈fp,H' b=none:=λ {σ' H' s'} J=>by
    refine ⟨c.again I hf J.unpinned,T.keep _ _ _ st6 λ b hb o e=>(J.pin (b,o) (AR _ (AR _ (Li hb e)))).1,λ b hb=>?_⟩;obtain ⟨o,e,d⟩:=T.obj _ _ st6 b hb;exact (J.pin (b,o) (AR _ (AR _ (Li hb e)))).2.1
   refine Ay (hg _ _ _ s6 _ H6 x u _ I6' r6 (step x H6 y6)) λ _ s7 ⟨σ7,H7,I7,q7⟩=>?_;refine Ay (hc _ _ _ s7 σ7 H7 _ I7 q7) λ b s8 ⟨H8,I8,q8⟩=>?_;cases b with
   | false=>
    rw [if_neg C2] at q8 ⊢;obtain ⟨m',hm,w'⟩:=q8;obtain ⟨j1,j2,j3⟩:=stays I8;exact ⟨m',hm,i + 1,H8,ys,j1,j2,j3,w'⟩
   | true=>
    rw [if_pos rfl] at q8 ⊢;refine Ay (he _ _ _ s8 σ7 H8 _ I8 q8) λ y s9 ⟨z,H9,I9,r9,hD9,hz9,m',hm,w'⟩=>?_;refine Ay (Na (X:=Ba X s2 H2 scope HP.objs.size N' fp pins) _ s9 σ7 H9 (.ref s2.heap.objs.size) [z] (.ref s2.heap.objs.size) [y] (λ _ H'=>H'=Ao H9 s2.heap.objs.size (.lst (ys++[z]))) I9 rfl (.cons r9 .nil) ⟨_,ys,z,rfl,rfl,hD9,hz9,rfl⟩) λ _ s10 ⟨_,H10,I10,_,e10⟩=>?_;subst e10;obtain ⟨j1,j2,j3⟩:=stays I10;exact ⟨m',hm,i + 1,_,_,j1,j2,j3,w'⟩
 exact codeAny_compStart_list (loop _ rfl) (T.self _ 0 _ _ _ st1 (loop _ rfl))
def CompOk.out (I:Inv X pins σ H2 s2) (hf:∀ b∈fp,Cf X pins H2 b) {σ':St}{H':Hp}{s':Ah} (J:Inv (Ba X s2 H2 scope C N' fp pins) [] σ' H' s'):Inv X pins σ H' s':=
 I.call' (ch:=fp) J.os J.base J.hok J.bare λ b hb=>⟨(hf b hb).2.2.2.1,(hf b hb).2.1,(hf b hb).2.2.2.2.1,(hf b hb).2.2.2.2.2⟩
def CompOk.away (I:Inv X pins σ H2 s2) (hC:s2.heap.objs.size<=C) {σ':St}{H':Hp}{s':Ah} (J:Inv X pins σ' H' s') (hC':H' C=none) {h':Heap} (sb:LH C s'.heap h'):Inv X pins σ' H' { s' with heap:=h' }:=by
 have lt:∀ b o,s2.heap.get? b=some o->b≠C:=λ b o e=>Cc (Br (AZ e) hC);refine J.turned (t':=s'.toks) (it:=C) (λ b o hb e=>(sb.2 b hb).trans e) hC' (HX (Br I.lt hC)) (.inr (CT I.sz hC)) (λ x c h=>?_) λ p hp=>?_
 ·obtain ⟨v,o,ho,_⟩:=I.cell x c h;exact lt c o ho
 ·exact lt p.1 p.2 (I.pin p hp).1
variable {elt iter tg:Expr}{ifs:List Expr}{pos:Pos}{wi:TI}{g:TG}{tc:TT}{te:TE}
def So (c:CompOk X scope N' k) (hcalm:X.calm=true) (hi:PI X tg iter wi) (hg:∀ s2 H2 C fp pins,PG (Ba X s2 H2 scope C N' fp pins) tg g) (hc:∀ s2 H2 C fp pins,Gu (Ba X s2 H2 scope C N' fp pins) ifs tc)
  (he:∀ s2 H2 C fp pins,PE (Ba X s2 H2 scope C N' fp pins) elt te) (hs:∀ x,LO iter X.env x=pure x):PE X (.ListComp elt [⟨tg,iter,ifs,0⟩] scope pos) (IW k wi g tc te):=by
 intro pins s σ H Q I h;rw [eval_ListComp];refine wpAny_comprehension_free (use:=none) rfl hs (Pz (c.cells I)) c.kind c.names ?_;refine Ay (hi pins s σ H _ I h) λ v s1 h1=>Ay h1 λ itv s2 h2=>?_;obtain ⟨it,fp,tn,J,H',e,I2,T,st2,f2,W⟩:=h2;subst e;refine Qt (RR:=λ acc C=>compPost (Ap X.prog X.w) X.A X.xe none (EP X pins σ Q) acc C) c hcalm I2 T st2 f2 (λ C fp=>hg s2 H' C fp pins) (λ C fp=>hc s2 H' C fp pins) (λ C fp=>he s2 H' C fp pins) W λ D C σ' H3 s' hC J3 q=>?_;obtain ⟨m,ns,_⟩:=J3.loc;exact ⟨m,ns,λ h' sb=>⟨.ref D,H3,CompOk.away I2 hC (CompOk.out I2 f2 J3) J3.free sb,rfl,q⟩⟩
theorem Z5 {i:Nat}{x:Str}{pos' spos:Pos} (hN:X.N.Nodup) (hi':X.N[i]?=some x) (hx:DJ X.env.scope x) (hfn:X.fn x=true\/X.env.scope.names.lookup x=some .local) (c:CompOk X scope N' k) (hcalm:X.calm=true) (hi:PI X tg iter wi) (hg:∀ s2 H2 C fp pins,PG (Ba X s2 H2 scope C N' fp pins) tg g) (hc:∀ s2 H2 C fp pins,Gu (Ba X s2 H2 scope C N' fp pins) ifs tc)
  (he:∀ s2 H2 C fp pins,PE (Ba X s2 H2 scope C N' fp pins) elt te) (hs:∀ x,LO iter X.env x=pure x):PS X (.Assign [.Name x pos'] (.ListComp elt [⟨tg,iter,ifs,0⟩] scope pos) spos) (BZ (IW k wi g tc te) (DO i)):=by
 have hsw:∃ b,swapsWith (.ListComp elt [⟨tg,iter,ifs,0⟩] scope pos) (some (.Name x pos')) spos.line X.env=pure b:=⟨_,rfl⟩
 obtain ⟨b,hsw⟩:=hsw;cases b with
 | false=>exact Jz hN hi' hx (So c hcalm hi hg hc he hs) hsw hfn
 | true=>
  intro pins s σ H D I h;rw [exec_Assign_Name_used _ _ _ _ hsw];refine AS (wpAny_standAt (AS ?_));show Aq _ X.A (do let _<-comprehension (.ListComp elt [⟨tg,iter,ifs,0⟩] scope pos) scope X.env _ (newList []) false (eval iter X.env) (some (FO (.Name x pos') X.env))) _ _ s;refine AS (DE (wpAny_comprehension_free (use:=some (FO (.Name x pos') X.env)) (Q:=λ _ s'=>SP X pins D .next s') rfl hs (Pz (c.cells I)) c.kind c.names ?_) (λ _ s' hq=>Bw (Bw hq)) λ _ _ e=>e);refine Ay (hi pins s σ H _ I h) λ v s1 h1=>Ay h1 λ itv s2 h2=>?_;obtain ⟨it,fp,tn,J,H',e,I2,T,st2,f2,W⟩:=h2;subst e;refine Qt (Q:=λ x H1=>DO i x σ H1 D.nx) (RR:=λ acc C=>compPost (Ap X.prog X.w) X.A X.xe (some (FO (.Name x pos') X.env)) (λ _ s'=>SP X pins D .next s') acc C) c hcalm I2 T st2 f2 (λ C fp=>hg s2 H' C fp pins) (λ C fp=>hc s2 H' C fp pins) (λ C fp=>he s2 H' C fp pins) W λ E C σ' H3 s' hC J3 q=>?_;obtain ⟨m,ns,_⟩:=J3.loc;have I3:=CompOk.out I2 f2 J3;show Aq _ X.A (FO (.Name x pos') X.env (.ref E)) _ _ _;refine wpAny_assign_Name (Pw I3 hN hi' hx (v:=.ref E) rfl (λ s'' I4 hsb=>?_) hfn);obtain ⟨a,sb,ha⟩:=hsb;have hCa:C≠a:=by
   rcases ha with z | z
   ·rw [z];exact HX (Br I2.lt hC)
   ·obtain ⟨v,o,ho,_⟩:=I2.cell x a z;exact HX (Br (AZ ho) hC)
  exact ⟨m,ns.sameBut sb hCa,λ h' sb'=>⟨_,H3,CompOk.away I2 hC I4 J3.free sb',q⟩⟩
def YR {P:A3}{w:Az}{K:Frag}{tg:Expr} (z:Str) (tk:Tok) (it:Addr):Turn P w K tg (TZ z) [it] it (λ i h=>h.IsStrIter it "str_ascii_iterator" z tk i) where
 mem:=by simp
 obj:=λ i h st b hb=>by
  have e:b=it:=by simpa using hb
  subst e;obtain ⟨o,e,c,d⟩:=st;exact ⟨o,e,λ v z=>by rw [d] at z;cases z⟩
 keep:=λ i h h' st k=>by
  obtain ⟨o,e,r⟩:=st;exact ⟨o,k it (by simp) o e,r⟩
 item:=by
  intro X hP hw hK hc i pins s σ H E I hf st hg;subst hP hw hK;have hi:i < z.cps.size:=hg;obtain ⟨f0,f1,f2,f3,f4,f5⟩:=hf it (by simp);refine wpAny_pyNext_ascii_item st (c:=z.cps[i]) (by simp [hi]) λ h' st' sb=>?_;have I1:Inv X pins σ H { s with heap:=h',toks:=s.toks + 1 }:=I.turned (t':=s.toks + 1) (λ b o hb e=>(sb.2 b hb).trans e) f0 f1 f3 f4 f5;obtain ⟨o,e,c,d⟩:=id st';exact ⟨_,rfl,Mp (s:={ s with heap:=h',toks:=s.toks + 1 }) e c d (by decide) ⟨.str ⟨#[z.cps[i]]⟩,H,I1,⟨_,rfl⟩,⟨rfl,z.cps[i],by simp [hi],rfl⟩,st',λ b hb=>(hf b hb).1⟩⟩
 done:=by
  intro X hP hw hK hc i pins s σ H E I hf st hg;subst hP hw hK;have hi:z.cps.size<=i:=hg;obtain ⟨f0,f1,f2,f3,f4,f5⟩:=hf it (by simp);exact wpAny_pyNext_ascii_end (I.ok.hd hc) st (by simp;omega) λ h' eb=>⟨rfl,I.turned (t':=s.toks) (λ b o hb e=>eb b o hb e) f0 f1 f3 f4 f5⟩
 self:=λ _ _ _ _ _ st h=>wpAny_pyIter_striter_ascii st h
def V6 {l:Expr}{tl:TE} (hl:PE X l tl):PI X tg l (ES X.K tl):=by
 intro pins s σ H R I h;refine Ay (hl pins s σ H _ I h) λ v s1 ⟨x,H1,I1,r1,q1⟩=>?_;obtain ⟨a,e,⟨⟨xs,hq⟩,q⟩ | ⟨⟨xs,hq⟩,q⟩⟩ | ⟨z,e,ha,q⟩:=q1
 ·subst e;cases r1;obtain ⟨its,rv,p,hz⟩:=I1.list hq;refine wpAny_pyIter_list p.isList ?_;refine ⟨s1.heap.objs.size,[s1.heap.objs.size],_,_,H1,rfl,I1.kept (t':=s1.toks) λ b o e=>CP _ e,Zu a _,⟨_,DX _ rfl,rfl,rfl⟩,λ b hb=>?_,q⟩;have e:b=s1.heap.objs.size:=by simpa using hb
  subst e;exact I1.fpOk (Bc _) (I1.hok.fresh (Bc _))
 ·subst e;cases r1;obtain ⟨its,rv,p,hz⟩:=I1.tuple hq;refine wpAny_pyIter_tuple (show s1.heap.IsTuple a its.toArray from p) ?_;refine ⟨s1.heap.objs.size,[s1.heap.objs.size],_,_,H1,rfl,I1.kept (t':=s1.toks) λ b o e=>CP _ e,Z9 a _,⟨_,DX _ rfl,rfl,rfl⟩,λ b hb=>?_,q⟩;have e:b=s1.heap.objs.size:=by simpa using hb
  subst e;exact I1.fpOk (Bc _) (I1.hok.fresh (Bc _))
 ·subst e;obtain ⟨tk,rfl⟩:=r1;refine wpAny_pyIter_ascii ha ?_;refine ⟨s1.heap.objs.size,[s1.heap.objs.size],_,_,H1,rfl,I1.kept (t':=s1.toks) λ b o e=>CP _ e,YR z tk _,⟨_,DX _ rfl,rfl,rfl⟩,λ b hb=>?_,q⟩;have e:b=s1.heap.objs.size:=by simpa using hb
  subst e;exact I1.fpOk (Bc _) (I1.hok.fresh (Bc _))
end
end QQ
namespace L2
open PySem PySem.Spec PyProof.Rows
section
variable {κ:Type} [DecidableEq κ]
def BY (kvs:List (κ×V)) (k:κ):Option V:=(kvs.find? λ kv=>decide (kv.1=k)).map (·.2)
def BG (kvs:List (κ×V)) (k:κ) (v:V):List (κ×V):=
 if (kvs.any λ kv=>decide (kv.1=k))=true then kvs.map (λ kv=>if kv.1=k then (kv.1,v) else kv) else kvs++[(k,v)]
def N0 {p:κ×V}{r:List (κ×V)}{k:κ} (e:p.1=k):BY (p::r) k=some p.2:=by simp [BY,Jc,e]
def Nz {p:κ×V}{r:List (κ×V)}{k:κ} (e:¬ p.1=k):BY (p::r) k=BY r k:=by simp [BY,Jc,e]
theorem Qf (k:κ):∀ kvs:List (κ×V),(kvs.any λ kv=>decide (kv.1=k))=(BY kvs k).isSome
 | []=>rfl
 | p::r=>by
  rw [M7];by_cases e:p.1=k
  ·simp only [N0 e,decide_eq_true e,Bool.true_or,Tr]
  ·rw [Nz e,decide_eq_false e,Kr];exact Qf k r
def P6 (kvs:List (κ×V)) (k:κ) (v:V):(BG kvs k v).length<=kvs.length + 1:=by
 unfold BG;split
 ·rw [A9];omega
 ·rw [Bn,BP,List.length_nil];omega
theorem RelO.isSome_eq {o:Option V}{u:Option Ae} (r:RelO o u):o.isSome=u.isSome:=by
 cases o with
 | none=>cases u with
  | none=>rfl
  | some _=>exact (show False from r).elim
 | some _=>cases u with
  | none=>exact (show False from r).elim
  | some _=>rfl
theorem KV.val {kvs:List (κ×V)}{vs:List (κ×Ae)} (r:KV kvs vs) (k:κ):RelO (BY kvs k) (valueAt vs k):=by
 unfold KV at r;induction r with
 | nil=>exact True.intro
 | @cons p q ps qs h t ih=>
  obtain ⟨h1,h2⟩:=h;by_cases e:p.1=k
  ·have e':q.1=k:=h1.symm.trans e;have b:valueAt (q::qs) k=some q.2:=by simp [valueAt,Jc,e']
   rw [N0 e,b];exact h2
  ·have e':¬ q.1=k:=λ z=>e (h1.trans z);have b:valueAt (q::qs) k=valueAt qs k:=by simp [valueAt,Jc,e']
   rw [Nz e,b];exact ih
theorem KV.any {kvs:List (κ×V)}{vs:List (κ×Ae)} (r:KV kvs vs) (k:κ):(kvs.any λ kv=>decide (kv.1=k))=vs.any λ kv=>decide (kv.1=k):=by
 unfold KV at r;induction r with
 | nil=>rfl
 | cons h t ih=>rw [M7,M7,ih,h.1]
theorem KV.repl {kvs:List (κ×V)}{vs:List (κ×Ae)} (r:KV kvs vs) (k:κ) {y:V}{u:Ae} (ry:RelV y u):
  KV (kvs.map λ kv=>if kv.1=k then (kv.1,y) else kv) (vs.map λ kv=>if kv.1=k then (kv.1,u) else kv):=by
 unfold KV at r ⊢;induction r with
 | nil=>exact .nil
 | @cons p q ps qs h t ih=>
  rw [C8,C8];refine .cons ?_ ih;obtain ⟨h1,h2⟩:=h;by_cases e:p.1=k
  ·rw [if_pos e,if_pos (h1.symm.trans e)];exact ⟨h1,ry⟩
  ·rw [if_neg e,if_neg (λ z=>e (h1.trans z))];exact ⟨h1,h2⟩
def KV.put {kvs:List (κ×V)}{vs:List (κ×Ae)} (r:KV kvs vs) (k:κ) {y:V}{u:Ae} (ry:RelV y u):KV (BG kvs k y) (stored vs k u):=by
 unfold BG stored;rw [r.any k];by_cases e:(vs.any λ kv=>decide (kv.1=k))=true
 ·rw [if_pos e,if_pos e];exact r.repl k ry
 ·rw [if_neg e,if_neg e];exact Paired.snoc r ⟨rfl,ry⟩
def KV.length {kvs:List (κ×V)}{vs:List (κ×Ae)} (r:KV kvs vs):kvs.length=vs.length:=Paired.length r
end
theorem Mu {P:A3}{w:Az}{k:AK}{u:Ae} (r:RelV (kV k) u):(Dc P w).is k u=true:=by
 cases k with
 | inl i=>obtain ⟨t,e⟩:=(show ∃ t,u=Value.int i t from r);subst e;exact Uj P w i t
 | inr x=>obtain ⟨t,e⟩:=(show ∃ t,u=Value.str x t from r);subst e;exact Uk P w x t
theorem Qs {P:A3}{w:Az}:∀ {ks:List AK}{us:List Ae},Vals (ks.map kV) us->ItemsAre (Dc P w) ks us
 | [],_,r=>by rw [Kq] at r;cases r;exact .nil
 | k::ks,_,r=>by
  rw [C8] at r;cases r with
  | cons h t=>exact .cons (Mu h) (Qs t)
abbrev KT (H:Hp):List (List AK×V)->List (List AK×Addr×Ae)->Prop:=Paired λ p q=>p.1=q.1/\H q.2.1=some (.tup (p.1.map kV))/\RelV p.2 q.2.2
theorem KT.val {H:Hp}{kvs:List (List AK×V)}{xs:List (List AK×Addr×Ae)} (r:KT H kvs xs) (k:List AK):RelO (BY kvs k) ((atKey xs k).map (·.2)):=by
 induction r with
 | nil=>exact True.intro
 | @cons p q ps qs h t ih=>
  obtain ⟨h1,_,h2⟩:=h;by_cases e:p.1=k
  ·have e':q.1=k:=h1.symm.trans e;have b:atKey (q::qs) k=some q.2:=by simp [atKey,Jc,e']
   rw [N0 e,b];exact h2
  ·have e':¬ q.1=k:=λ z=>e (h1.trans z);have b:atKey (q::qs) k=atKey qs k:=by simp [atKey,Jc,e']
   rw [Nz e,b];exact ih
theorem KT.repl {H:Hp}{kvs:List (List AK×V)}{xs:List (List AK×Addr×Ae)} (r:KT H kvs xs) (k:List AK) {y:V}{u:Ae} (ry:RelV y u):
  KT H (kvs.map λ kv=>if kv.1=k then (kv.1,y) else kv) (xs.map (putAt k u)):=by
 induction r with
 | nil=>exact .nil
 | @cons p q ps qs h t ih=>
  rw [C8,C8];refine .cons ?_ ih;obtain ⟨h1,h2,h3⟩:=h;unfold putAt;by_cases e:p.1=k
  ·rw [if_pos e,if_pos (h1.symm.trans e)];exact ⟨h1,h2,ry⟩
  ·rw [if_neg e,if_neg (λ z=>e (h1.trans z))];exact ⟨h1,h2,h3⟩
def KT.put {H:Hp}{kvs:List (List AK×V)}{xs:List (List AK×Addr×Ae)} (r:KT H kvs xs) (k:List AK) {b:Addr}{y:V}{u:Ae} (hb:H b=some (.tup (k.map kV))) (ry:RelV y u):
  KT H (BG kvs k y) (storedH xs k b u):=by
 have e:(kvs.any λ kv=>decide (kv.1=k))=(atKey xs k).isSome:=by
  rw [Qf,(r.val k).isSome_eq,ON]
 unfold BG storedH;rw [e];by_cases q:(atKey xs k).isSome=true
 ·rw [if_pos q,if_pos q];exact r.repl k ry
 ·rw [if_neg q,if_neg q];exact Paired.snoc r ⟨rfl,hb,ry⟩
def KT.keeps {H H':Hp}{kvs:List (List AK×V)}{xs:List (List AK×Addr×Ae)} (r:KT H kvs xs) (ht:∀ b ys,H b=some (.tup ys)->H' b=some (.tup ys)):KT H' kvs xs:=
 Paired.mapP r λ _ _ z=>⟨z.1,ht _ _ z.2.1,z.2.2⟩
section
variable {P:A3}{w:Az}{H:Hp}{h:Heap}{a:Addr}
def QY {u:HO} (ok:HOk P w H h) (e:Rd H a u):zxx P w H h a u:=e.ok ok
def NY {kvs:List (AK×V)} (ok:HOk P w H h) (e:Rd H a (.dK kvs)):kvs.length<=An/\(a == FQ)=false/\∃ vs,KV kvs vs/\h.DictOf (Dc P w) a vs:=
 show zxx P w H h a (.dK kvs) from QY ok e
def Ke {kvs:List (AK×V)} (ok:HOk P w H h) (e:H a=some (.dK kvs)):kvs.length<=An/\(a == FQ)=false/\∃ vs,KV kvs vs/\h.DictOf (Dc P w) a vs:=NY ok (.inl e)
def L9 {ks:List AK} (ok:HOk P w H h) (e:H a=some (.tup (ks.map kV))):(JG (Dc P w)).is h ks a:=by
 obtain ⟨_,its,r,o,h1,h2,n,h3⟩:=(show zxx P w H h a (.tup (ks.map kV)) from ok a _ e)
 exact ⟨o,its.toArray,n,h1,h2,h3,by simpa using Qs r⟩
def NZ {kvs:List (List AK×V)} (ok:HOk P w H h) (e:Rd H a (.dT kvs)):kvs.length<=An/\(a == FQ)=false /\
  ∃ xs,KT H kvs xs/\h.DictOfH (JG (Dc P w)) a xs:=by
 obtain ⟨z,y,xs,r,o,es,ep,h1,h2,h3,h4,h5⟩:=(show zxx P w H h a (.dT kvs) from QY ok e)
 refine ⟨z,y,xs,r,o,es,ep,h1,h2,h3,h4,λ x hx=>?_,h5⟩;have all:∀ {l:List (List AK×V)}{m:List (List AK×Addr×Ae)},KT H l m->∀ x∈m,(JG (Dc P w)).is h x.1 x.2.1:=by
  intro l m q;induction q with
  | nil=>intro x hx;exact nomatch hx
  | @cons p q ps qs hq t ih=>
   intro x hx;rcases jb3.mp hx with e | hx
   ·subst e;exact L9 ok (by rw [<- hq.1];exact hq.2.1)
   ·exact ih x hx
 exact all r x hx
def UQ {kvs:List (List AK×V)} (ok:HOk P w H h) (e:H a=some (.dT kvs)):kvs.length<=An/\(a == FQ)=false /\
  ∃ xs,KT H kvs xs/\h.DictOfH (JG (Dc P w)) a xs:=NZ ok (.inl e)
end
def DGet (H:Hp) (a:Addr) (y:V) (r:Option V):Prop:=
 (∃ kvs k,Rd H a (.dK kvs)/\y=kV k/\r=BY kvs k)\/∃ kvs k b,Rd H a (.dT kvs)/\y=.ref b/\H b=some (.tup (k.map kV))/\r=BY kvs k
def DPut (H:Hp) (a:Addr) (y v:V) (H':Hp):Prop:=
 (∃ kvs k,H a=some (.dK kvs)/\y=kV k/\kvs.length < An/\H'=Ao H a (.dK (BG kvs k v))) \/
 ∃ kvs k b,H a=some (.dT kvs)/\y=.ref b/\H b=some (.tup (k.map kV))/\kvs.length < An/\H'=Ao H a (.dT (BG kvs k v))
def DGet.t {H:Hp}{a b:Addr}{kvs:List (List AK×V)}{k:List AK} (e:H a=some (.dT kvs)) (eb:H b=some (.tup (k.map kV))):DGet H a (.ref b) (BY kvs k):=.inr ⟨kvs,k,b,.inl e,rfl,eb,rfl⟩
def DPut.t {H:Hp}{a b:Addr}{kvs:List (List AK×V)}{k:List AK}{v:V} (e:H a=some (.dT kvs)) (eb:H b=some (.tup (k.map kV))) (hl:kvs.length < An):
  DPut H a (.ref b) v (Ao H a (.dT (BG kvs k v))):=.inr ⟨kvs,k,b,e,rfl,eb,hl,rfl⟩
section
variable {X:Cx}{pins:List (Addr×Obj)}{σ:St}{H:Hp}{s:Ah}{a:Addr}{y v:V}{u r:Ae}{o:Option V}{A:AW}{E:Ae->Ah->Prop}
def Inv.big (I:Inv X pins σ H s):FQ < s.heap.objs.size:=by
 have h:DF < s.heap.objs.size:=(I.mod.glob.keeps I.bk).lt;exact Nat.lt_trans (by decide) h
def OV {Q:Ae->Ah->Prop} (hu:A.units + 1 < Cy) (I:Inv X pins σ H s) (g:DGet H a y o) (ry:RelV y u) (h:∀ s',Inv X pins σ H s'->Q (.bool o.isSome) s'):
  Aq (Ap X.prog X.w) A (Cp .In u (.ref a)) Q E s:=by
 rcases g with ⟨kvs,k,e,ey,l⟩ | ⟨kvs,k,b,e,ey,eb,l⟩
 ·subst ey;obtain ⟨z,hd,vs,rel,dd⟩:=NY I.hok e;refine wpAny_in_of (Mu ry) hd dd.mapOf ?_;rw [<- (rel.val k).isSome_eq,<- l];exact h _ (I.tok _)
 ·subst ey;cases (show u=Value.ref b from ry);obtain ⟨z,hd,xs,rel,dd⟩:=NZ I.hok e;refine wpAny_in_heap (NG hu) (L9 I.hok eb) hd dd ?_;have q:=(rel.val k).isSome_eq;rw [ON] at q;rw [<- q,<- l];exact h _ (I.tok _)
def WS {Q:Ae->Ah->Prop} (hu:A.units + 1 < Cy) (I:Inv X pins σ H s) (g:DGet H a y o) (ry:RelV y u) (h:∀ s',Inv X pins σ H s'->Q (.bool (!o.isSome)) s'):
  Aq (Ap X.prog X.w) A (Cp .NotIn u (.ref a)) Q E s:=by
 rcases g with ⟨kvs,k,e,ey,l⟩ | ⟨kvs,k,b,e,ey,eb,l⟩
 ·subst ey;obtain ⟨z,hd,vs,rel,dd⟩:=NY I.hok e;refine wpAny_notIn_of (Mu ry) hd dd.mapOf ?_;rw [<- (rel.val k).isSome_eq,<- l];exact h _ (I.tok _)
 ·subst ey;cases (show u=Value.ref b from ry);obtain ⟨z,hd,xs,rel,dd⟩:=NZ I.hok e;refine wpAny_notIn_heap (NG hu) (L9 I.hok eb) hd dd ?_;have q:=(rel.val k).isSome_eq;rw [ON] at q;rw [<- q,<- l];exact h _ (I.tok _)
def RW {h':Heap}{t':Nat}{ob:HO} (I:Inv X pins σ H s) (mu:KC (H a)) (hs:LH a s.heap h') (he:∃ q,h'.get? a=some q) (new:zxx X.prog X.w (Ao H a ob) h' a ob):
  Inv X pins σ (Ao H a ob) { s with heap:=h',toks:=t' }:=
 I.write (x:=a) (e:=a) mu (.inl rfl) (λ b q hb z=>(hs.2 b hb).trans z) he new
def Vb {P:A3}{w:Az}{H':Hp}{h':Heap}{kvs:List (AK×V)}{vs:List (AK×Ae)} (z:kvs.length<=An) (hd:(a == FQ)=false) (rel:KV kvs vs) (dd:h'.DictOf (Dc P w) a vs):
  zxx P w H' h' a (.dK kvs):=⟨z,hd,vs,rel,dd⟩
def YM {H':Hp}{Q:Unit->Ah->Prop} (hu:A.units + 1 < Cy) (I:Inv X pins σ H s) (g:DPut H a y v H') (ry:RelV y u) (rv:RelV v r) (h:∀ s',Inv X pins σ H' s'->Q () s'):
  Aq (Ap X.prog X.w) A (setItem (.ref a) u r) Q E s:=by
 rcases g with ⟨kvs,k,e,ey,l,eH⟩ | ⟨kvs,k,b,e,ey,eb,l,eH⟩
 ·subst ey eH;obtain ⟨z,hd,vs,rel,dd⟩:=Ke I.hok e;have hz:vs.length<=An:=by rw [<- rel.length];exact z
  have hl:(BG kvs k v).length<=An:=by have:=P6 kvs k v;omega
  refine wpAny_setItem_pairs (hsz:=hz) (Mu ry) dd λ h' dd' hs=>h _ ?_;have he:∃ q,h'.get? a=some q:=let ⟨q,_,_,hq,_⟩:=dd';⟨q,hq⟩;exact RW I (by rw [e];exact True.intro) hs he (Vb hl hd (rel.put k rv) dd')
 ·subst ey eH;cases (show u=Value.ref b from ry);obtain ⟨z,hd,xs,rel,dd⟩:=UQ I.hok e;have hz:xs.length<=An:=by rw [<- Paired.length rel];exact z
  have hl:(BG kvs k v).length<=An:=by have:=P6 kvs k v;omega
  refine wpAny_setItem_heap (hsz:=hz) (NG hu) (L9 I.hok eb) dd λ h' dd' hs=>h _ ?_;obtain ⟨q,es,ep,hq,h2,h3,h4,_,h5⟩:=dd';refine RW I (by rw [e];exact True.intro) hs ⟨q,hq⟩ ⟨hl,hd,_,(rel.put k eb rv).keeps λ c ys ec=>?_,q,es,ep,hq,h2,h3,h4,h5⟩;rw [AE (U2 ec e (λ z=>nomatch z))];exact ec
end
section
variable {X:Cx}{pins:List (Addr×Obj)}{σ:St}{H:Hp}{s:Ah}{a:Addr}{kvs:List (AK×V)}{k:AK}{u:Ae}{A:AW}{E:Ae->Ah->Prop}
end
section
variable {X:Cx}{o i e value:Expr}{pos pos' tpos:Pos}{td ty tv:TE}
end
def XY {P:A3}{w:Az}{H:Hp} (h:Heap) (hb:FQ < h.objs.size):zxx P w H (h.push { cls:=.type "dict",data:=.dict #[] }) h.objs.size (.dT []):=
 ⟨HW _,beq_eq_false_iff_ne.mpr (Bv (Cc hb)),[],.nil,_,#[],0,DX _ rfl,⟨rfl,rfl,rfl⟩,rfl,rfl,List.nodup_nil⟩
def Wy:TE:=λ _ H Q=>∀ p,H p=none->Q (.ref p) (Ao H p (.dT []))
section
variable {X:Cx}{pos:Pos}
def Yl:PE X (.Dict [] [] pos) Wy:=λ pins s σ H Q I h=>
 wpAny_Dict_empty ⟨.ref s.heap.objs.size,_,I.laid (a:=s.heap.objs.size) (o:=.dT []) (t':=s.toks) (λ _ _ q=>CP _ q) (Bc _) (XY s.heap I.big),rfl,h _ (I.hok.fresh (Bc _))⟩
end
end L2
namespace QQ
open PySem PySem.Spec PyProof.Rows L2
section
variable {M:Fm}{vs:List Nat}{H:Hp}{fps:AB}{F:List Addr}{Q:VK}
def Dq {k:Int}{d:Nat} (h:Bf M H fps vs F (.int k) d Q):Q (.int k) H:=h (.int k) H [] (λ _ _ h=>h) (by rw [Own];exact ⟨rfl,rfl⟩) (λ _ z=>nomatch z)
def D8 {k:Bool}{d:Nat} (h:Bf M H fps vs F (.bl k) d Q):Q (.bl k) H:=h (.bl k) H [] (λ _ _ h=>h) (by rw [Own];exact ⟨rfl,rfl⟩) (λ _ z=>nomatch z)
def Ld {k:Str}{d:Nat} (h:Bf M H fps vs F (.str k) d Q):Q (.str k) H:=h (.str k) H [] (λ _ _ h=>h) (by rw [Own];exact ⟨rfl,rfl⟩) (λ _ z=>nomatch z)
def Io {x:PV}{v:V} (h:Bf M H fps vs F x (dv x) Q) (o:Own M.K H (Zv M vs fps) x 0 v []):Q v H:=h v H [] (λ _ _ h=>h) (o.dv.weak λ a z=>z.elim id λ z=>nomatch z) (λ _ z=>nomatch z)
def En {p:Addr}{o:HO} (hp:H p=none):∀ a u,H a=some u->Ao H p o a=some u:=λ a u h=>by rw [AE (λ e=>by rw [e,hp] at h;cases h)];exact h
def MY {xs:List PV}{ws:List V} (h:Bf M H fps vs F (.lst xs) 1 Q) (o:OwnL M.K H (Zv M vs fps) xs 0 ws []) {p:Addr} (hp:H p=none):Q (.ref p) (Ao H p (.lst ws)):=by
 refine h (.ref p) _ [p] (En hp) ?_ λ a ha=>.inr (by rw [jb6.mp ha];exact hp);rw [Own];refine ⟨p,ws,rfl,.inr ⟨(by decide),[],Bx,rfl,(λ z=>nomatch z),?_⟩⟩;rw [Jw];exact OwnL.move (S:=λ _=>False) (λ a u ha _=>En hp a u ha) (λ _ z=>z.elim) (λ a hd nz z=>z.elim nz λ z=>hd (by rw [jb6.mp z];exact hp)) xs 0 ws [] (λ _ z=>nomatch z) o
def atoms:List PV->Bool
 | []=>true
 | x::xs=>Hm x && atoms xs
def DN:PV->Bool
 | .tup xs=>atoms xs
 | x=>Hm x
def E7:List PV->Bool
 | []=>true
 | x::xs=>DN x && E7 xs
def d1 (xs:List PV):Nat:=if E7 xs=true then om else 1
theorem OwnL.ats {K:Frag}{H:Hp}{Z Z':Addr->Prop}:∀ {xs:List PV}{ws:List V}{d d':Nat},QQ.atoms xs=true->OwnL K H Z xs d' ws []->OwnL K H Z' xs d ws []
 | [],ws,d,_,_,h=>by rw [OwnL] at h ⊢;exact h
 | x::xs,ws,d,_,ha,h=>by
  unfold QQ.atoms at ha;rw [AL] at ha;rw [OwnL] at h ⊢;obtain ⟨v,s,f1,f2,rfl,ef,dj,h1,h2⟩:=h;obtain ⟨rfl,rfl⟩:f1=[]/\f2=[]:=by simpa using ef.symm
  exact ⟨v,s,[],[],rfl,rfl,dj,(Own.atom ha.1 h1).2,h2.ats ha.2⟩
theorem Own.flat {K:Frag}{H:Hp}{Z Z':Addr->Prop}{x:PV}{v:V}{d d':Nat} (hx:DN x=true) (h:Own K H Z x d' v []):Own K H Z' x d v []:=by
 cases x with
 | tup xs=>
  rw [Own] at h ⊢;obtain ⟨a,vs,e,ha,hl⟩:=h;exact ⟨a,vs,e,ha,hl.ats hx⟩
 | lst _=>cases hx
 | dct _=>cases hx
 | exn _=>exact (Own.atom rfl h).2
 | emp=>exact (Own.atom rfl h).2
 | dko=>exact (Own.atom rfl h).2
 | scr _=>exact (Own.atom rfl h).2
 | non=>exact (Own.atom rfl h).2
 | bl _=>exact (Own.atom rfl h).2
 | int _=>exact (Own.atom rfl h).2
 | str _=>exact (Own.atom rfl h).2
theorem OwnL.ats0 {K:Frag}{H:Hp}{Z:Addr->Prop}:∀ {xs:List PV}{ws:List V}{d:Nat}{f:List Addr},QQ.atoms xs=true->OwnL K H Z xs d ws f->f=[]
 | [],ws,d,f,_,h=>by rw [OwnL] at h;exact h.2
 | x::xs,ws,d,f,ha,h=>by
  unfold QQ.atoms at ha;rw [AL] at ha;rw [OwnL] at h;obtain ⟨v,s,f1,f2,rfl,rfl,dj,h1,h2⟩:=h;rw [(Own.atom (Z':=Z) (d':=d) ha.1 h1).1,h2.ats0 ha.2];rfl
def Own.flatA {K:Frag}{H:Hp}{Z Z':Addr->Prop}{x:PV}{v:V}{d d':Nat}{f:List Addr} (hx:DN x=true) (h:Own K H Z x d v f):f=[]/\Own K H Z' x d' v []:=by
 have e:f=[]:=by
  cases x with
  | tup xs=>
   rw [Own] at h;obtain ⟨a,vs,e,ha,hl⟩:=h;exact hl.ats0 hx
  | lst _=>cases hx
  | dct _=>cases hx
  | exn _=>exact (Own.atom (Z':=Z) (d':=d) rfl h).1
  | emp=>exact (Own.atom (Z':=Z) (d':=d) rfl h).1
  | dko=>exact (Own.atom (Z':=Z) (d':=d) rfl h).1
  | scr _=>exact (Own.atom (Z':=Z) (d':=d) rfl h).1
  | non=>exact (Own.atom (Z':=Z) (d':=d) rfl h).1
  | bl _=>exact (Own.atom (Z':=Z) (d':=d) rfl h).1
  | int _=>exact (Own.atom (Z':=Z) (d':=d) rfl h).1
  | str _=>exact (Own.atom (Z':=Z) (d':=d) rfl h).1
 subst e;exact ⟨rfl,h.flat hx⟩
theorem OwnL.atoms {K:Frag}{H:Hp}{Z Z':Addr->Prop}:∀ {xs:List PV}{ws:List V}{d:Nat},E7 xs=true->OwnL K H Z xs 0 ws []->OwnL K H Z' xs d ws []
 | [],ws,d,_,h=>by rw [OwnL] at h ⊢;exact h
 | x::xs,ws,d,ha,h=>by
  unfold E7 at ha;rw [AL] at ha;rw [OwnL] at h ⊢;obtain ⟨v,s,f1,f2,rfl,ef,dj,h1,h2⟩:=h;obtain ⟨rfl,rfl⟩:f1=[]/\f2=[]:=by simpa using ef.symm
  exact ⟨v,s,[],[],rfl,rfl,dj,h1.flat ha.1,h2.atoms ha.2⟩
def Ir {xs:List PV}{ws:List V} (h:Bf M H fps vs F (.lst xs) (d1 xs) Q) (o:OwnL M.K H (Zv M vs fps) xs 0 ws []) {p:Addr} (hp:H p=none):Q (.ref p) (Ao H p (.lst ws)):=by
 unfold d1 at h;split at h
 ·rename_i ha;refine h (.ref p) _ [p] (En hp) ?_ λ a ha=>.inr (by rw [jb6.mp ha];exact hp);rw [Own];refine ⟨p,ws,rfl,.inr ⟨(by decide),[],Bx,rfl,(λ z=>nomatch z),?_⟩⟩;have o':OwnL M.K (Ao H p (.lst ws)) (Zv M vs fps) xs 0 ws []:=OwnL.move (S:=λ _=>False) (λ a u ha _=>En hp a u ha) (λ _ z=>z.elim) (λ _ _ n=>n) xs 0 ws [] (λ _ z=>nomatch z) o;exact o'.atoms ha
 ·exact MY h o hp
def Le {xs:List PV}{ws:List V} (h:Bf M H fps vs F (.tup xs) 0 Q) (o:OwnL M.K H (Zv M vs fps) xs 0 ws []) {p:Addr} (hp:H p=none):Q (.ref p) (Ao H p (.tup ws)):=by
 refine h (.ref p) _ [] (En hp) ?_ λ a ha=>nomatch ha
 rw [Own];refine ⟨p,ws,rfl,Bx,?_⟩;rw [WJ];exact OwnL.move (S:=λ _=>False) (λ a u ha _=>En hp a u ha) (λ _ z=>z.elim) (λ a hd nz z=>z.elim nz λ z=>nomatch z) xs 0 ws [] (λ _ z=>nomatch z) o
def MU {xs:List PV}{ws:List V} (h:Bf M H fps vs F (.lst xs) om Q) {Z:Addr->Prop} (o:OwnL M.K H Z xs om ws F) {p:Addr} (hp:H p=none):Q (.ref p) (Ao H p (.lst ws)):=by
 refine h (.ref p) _ (p::F) (En hp) ?_ λ a ha=>(jb3.mp ha).elim (λ e=>.inr (by rw [e];exact hp)) .inl;rw [Own];refine ⟨p,ws,rfl,.inr ⟨(by decide),F,Bx,rfl,λ z=>?_,?_⟩⟩
 ·obtain ⟨ys,e⟩:=OwnL.lsts xs om ws F o p z;rw [hp] at e;cases e
 ·exact OwnL.full xs ws F (OwnL.move (S:=λ _=>False) (Z':=Z) (λ a u ha _=>En hp a u ha) (λ _ z=>z.elim) (λ _ _ n=>n) xs om ws F (λ _ _ z=>z) o)
def YW {xs:List PV}{ws:List V} (h:Bf M H fps vs F (.tup xs) om Q) {Z:Addr->Prop} (o:OwnL M.K H Z xs om ws F) {p:Addr} (hp:H p=none):Q (.ref p) (Ao H p (.tup ws)):=by
 refine h (.ref p) _ F (En hp) ?_ λ a ha=>.inl ha;rw [Own];exact ⟨p,ws,rfl,Bx,OwnL.full xs ws F (OwnL.move (S:=λ _=>False) (Z':=Z) (λ a u ha _=>En hp a u ha) (λ _ z=>z.elim) (λ _ _ n=>n) xs om ws F (λ _ _ z=>z) o)⟩
end
def Own.seqL {K:Frag}{H:Hp}{Z:Addr->Prop}{xs:List PV}{d:Nat}{v:V}{fp:List Addr} (h:Own K H Z (.lst xs) d v fp):∃ a ws,v=.ref a/\BU K H a ws/\ws.length=xs.length:=by
 rw [Own] at h;obtain ⟨a,ws,e,⟨_,hr,_,ol⟩ | ⟨_,f,ha,_,_,ol⟩⟩:=h
 ·exact ⟨a,ws,e,.inl (.inl hr.1),ol.length⟩
 ·exact ⟨a,ws,e,.inl (.inl ha),ol.length⟩
def Own.seqT {K:Frag}{H:Hp}{Z:Addr->Prop}{xs:List PV}{d:Nat}{v:V}{fp:List Addr} (h:Own K H Z (.tup xs) d v fp):∃ a ws,v=.ref a/\CA K H a ws/\ws.length=xs.length:=by
 rw [Own] at h;obtain ⟨a,ws,e,hr,ol⟩:=h;exact ⟨a,ws,e,.inl (.inl hr),ol.length⟩
def Own.coldL {K:Frag}{H:Hp}{Z:Addr->Prop}{xs:List PV}{v:V} (h:Own K H Z (.lst xs) 0 v []):∃ a ws,v=.ref a/\H a=some (.lst ws)/\OwnL K H Z xs 0 ws []:=by
 rw [Own] at h;obtain ⟨a,ws,e,⟨_,hr,_,ol⟩ | ⟨h,_⟩⟩:=h
 ·exact ⟨a,ws,e,hr.1,ol⟩
 ·exact absurd rfl h
def Own.coldT {K:Frag}{H:Hp}{Z:Addr->Prop}{xs:List PV}{v:V} (h:Own K H Z (.tup xs) 0 v []):∃ a ws,v=.ref a/\H a=some (.tup ws)/\OwnL K H Z xs 0 ws []:=by
 rw [Own] at h;exact h
theorem OwnL.app {K:Frag}{H:Hp}{Z:Addr->Prop}:∀ {xs ys:List PV}{ws us:List V},OwnL K H Z xs 0 ws []->OwnL K H Z ys 0 us []->OwnL K H Z (xs++ys) 0 (ws++us) []
 | [],ys,ws,us,h,h'=>by rw [OwnL] at h;obtain ⟨rfl,_⟩:=h;exact h'
 | x::xs,ys,ws,us,h,h'=>by
  rw [OwnL] at h;obtain ⟨v,s,f1,f2,rfl,ef,dj,h1,h2⟩:=h;obtain ⟨rfl,rfl⟩:f1=[]/\f2=[]:=by simpa using ef.symm
  show OwnL K H Z (x::(xs++ys)) 0 (v::(s++us)) [];rw [OwnL];exact ⟨v,s++us,[],[],rfl,rfl,λ _ z=>(nomatch z),h1,h2.app h'⟩
theorem OwnL.drop {K:Frag}{H:Hp}{Z:Addr->Prop}:∀ {xs:List PV}{ws:List V} (n:Nat),OwnL K H Z xs 0 ws []->OwnL K H Z (xs.drop n) 0 (ws.drop n) []
 | xs,ws,0,h=>h
 | [],ws,n + 1,h=>by rw [OwnL] at h;obtain ⟨rfl,_⟩:=h;rw [Tf,Tf,OwnL];exact ⟨rfl,rfl⟩
 | x::xs,ws,n + 1,h=>by
  rw [OwnL] at h;obtain ⟨v,s,f1,f2,rfl,ef,dj,h1,h2⟩:=h;obtain ⟨rfl,rfl⟩:f1=[]/\f2=[]:=by simpa using ef.symm
  exact h2.drop n
theorem OwnL.take {K:Frag}{H:Hp}{Z:Addr->Prop}:∀ {xs:List PV}{ws:List V} (n:Nat),OwnL K H Z xs 0 ws []->OwnL K H Z (xs.take n) 0 (ws.take n) []
 | xs,ws,0,h=>by rw [OJ,OJ,OwnL];exact ⟨rfl,rfl⟩
 | [],ws,n + 1,h=>by rw [OwnL] at h;obtain ⟨rfl,_⟩:=h;rw [OH,OH,OwnL];exact ⟨rfl,rfl⟩
 | x::xs,ws,n + 1,h=>by
  rw [OwnL] at h;obtain ⟨v,s,f1,f2,rfl,ef,dj,h1,h2⟩:=h;obtain ⟨rfl,rfl⟩:f1=[]/\f2=[]:=by simpa using ef.symm
  rw [OQ,OQ,OwnL];exact ⟨v,s.take n,[],[],rfl,rfl,λ _ z=>(nomatch z),h1,h2.take n⟩
def OwnL.nth {K:Frag}{H:Hp}{Z:Addr->Prop}{xs:List PV}{ws:List V}{j:Nat}{x:PV} (h:OwnL K H Z xs 0 ws []) (e:xs[j]?=some x):∃ w,ws[j]?=some w/\Own K H Z x 0 w []:=by
 have hj:j < ws.length:=by rw [h.length];exact (ja7.mp e).1
 obtain ⟨y,e1,e2⟩:=h.get (i:=j) (w:=ws[j]) (by simp [hj]);rw [e] at e1;cases e1;exact ⟨_,by simp [hj],e2⟩
def cold {M:Fm}{vs:List Nat}{H:Hp}{fps:AB}{x:PV}{d:Nat}{v:V}{fp:List Addr} (o:Own M.K H (Zt M vs fps fp) x d v fp) (hf:∀ a∈fp,¬ Zf M fps a):Own M.K H (Zv M vs fps) x 0 v []:=
 Own.freeze (λ _ z=>.inl z) x d v fp (λ a ha z=>hf a ha z.zf) o
def AJ:PV->Nat->PV->Nat->Option (PV×Nat)
 | .int i,_,.int j,_=>some (.int (i + j),om)
 | .lst xs,_,.lst ys,_=>if xs.length + ys.length<=An then some (.lst (xs++ys),d1 (xs++ys)) else none
 | .tup xs,_,.tup ys,_=>if xs.length + ys.length<=An then some (.tup (xs++ys),0) else none
 | .str x,_,.str y,_=>if x.length + y.length<=An then some (.str (x++y),om) else none
 | _,_,_,_=>none
def IS (p:Int->Int->Bool) (g:Int->Int->Int):PV->Nat->PV->Nat->Option (PV×Nat)
 | .int i,_,.int j,_=>if p i j then some (.int (g i j),om) else none
 | _,_,_,_=>none
def EH (i j:Int):Bool:=(decide (-(2 ^ 64) < i) && decide (i < 2 ^ 64)) || (decide (-(2 ^ 64) < j) && decide (j < 2 ^ 64))
def EI (_ j:Int):Bool:=decide (0 < j) && decide (j < 2 ^ 128)
def Gh (_ j:Int):Bool:=decide (0 < j)
def HS (i j:Int):Bool:=decide (0<=j) && decide (j<=1000) && decide (i.natAbs < 2 ^ 64)
def Ci:=IS (λ _ _=>true) (λ i j=>i - j)
def D3 (n:Nat) (xs:List PV):List PV:=(A6 n xs).flatten
def Di (x:Str) (n:Nat):Str:=⟨(A6 n x.cps.toList).flatten.toArray⟩
def AV:PV->Nat->PV->Nat->Option (PV×Nat)
 | .str x,_,.int n,_=>if -(2 ^ 62)<=n/\n < 2 ^ 62/\x.length * n.toNat<=An then some (.str (Di x n.toNat),om) else none
 | .int i,_,.int j,_=>if EH i j then some (.int (i * j),om) else none
 | .lst xs,_,.int k,_=>if 0<=k/\k < 2 ^ 62/\xs.length * k.toNat<=An then some (.lst (D3 k.toNat xs),d1 (D3 k.toNat xs)) else none
 | _,_,_,_=>none
def AH:=IS EI (λ i j=>i / j)
def A4:=IS Gh (λ i j=>i % j)
def GI:=IS HS (λ i j=>i ^ j.toNat)
section
variable {X:Cx}
def Yh:OpR X (Dz .FloorDiv) (rI (λ _ j=>0 < j/\j < 2 ^ 128) λ i j=>.int (i / j)):=Kk λ i j _ _ _ _ _ hc q=>by
 have h1:(0:Int) < j:=hc.1;have h2:j < 2 ^ 128:=hc.2;refine floordiv_int (by omega) (by rw [Int.fdiv_eq_ediv_of_nonneg i (by omega)];exact q) (.inl (PyProof.noPylong_of_log2 ?_));have h3:j.natAbs < 2 ^ 128:=by omega
 have h4:j.natAbs≠0:=by omega
 have:=(Nat.log2_lt h4).mpr h3
 omega
end
def Bg {X:Cx}{e:Expr}{t t':TE} (h:PE X e t) (i:∀ σ H Q,t' σ H Q->t σ H Q):PE X e t':=λ pins s σ H Q I q=>h pins s σ H Q I (i σ H Q q)
def J0 {X:Cx}{e:Expr}{t t':TT} (h:PT X e t) (i:∀ σ H Q,t' σ H Q->t σ H Q):PT X e t':=λ pins s σ H Q I q=>h pins s σ H Q I (i σ H Q q)
def RN {X:Cx}{e:Expr}{t t':TT} (h:PW X e t) (i:∀ σ H Q,t' σ H Q->t σ H Q):PW X e t':=λ wh pins s σ H Q I q=>h wh pins s σ H Q I (i σ H Q q)
def RA {X:Cx}{e:List Expr}{t t':TA} (h:PA X e t) (i:∀ σ H Q,t' σ H Q->t σ H Q):PA X e t':=λ p pins s σ H Q I q=>h p pins s σ H Q I (i σ H Q q)
def BI {X:Cx}{e:Stmt}{t t':TS} (h:PS X e t) (i:∀ D σ H,t' D σ H->t D σ H):PS X e t':=λ pins s σ H D I q=>h pins s σ H D I (i D σ H q)
def SO {X:Cx}{e:List Stmt}{t t':TS} (h:Dt X e t) (i:∀ D σ H,t' D σ H->t D σ H):Dt X e t':=λ pins s σ H D I q=>h pins s σ H D I (i D σ H q)
section
variable {X:Cx}{M:Fm}{a b:Expr}{f g:Fx}{vs vs':List Nat}{pos:Pos}{σ:St}{H:Hp}{Q:VK}
def qez:OpR X (Dz .Add) (λ x y H Q=>∃ a b ys,x=.ref a/\y=.ref b/\CA X.K H a []/\CA X.K H b ys/\Q (.ref b) H):=by
 intro pins s σ H x y v u Q I rx ry h;obtain ⟨a,b,ys,rfl,rfl,ha,hb,q⟩:=h;cases rx;cases ry;obtain ⟨its,r1,p1,_⟩:=I.tuple ha;obtain ⟨its2,r2,p2,_⟩:=I.tuple hb;cases r1;obtain ⟨⟨cls,dd,data,sl⟩,ho,hc,n,hd⟩:=id p1;obtain ⟨⟨cls2,dd2,data2,sl2⟩,ho2,hc2,n2,hd2⟩:=id p2;simp only at hc hd hc2 hd2;subst hc hd hc2 hd2;exact concat_meets ⟨_,ho,rfl⟩ ⟨_,ho2,rfl⟩ N8 seq_tuple_add NJ NK (NM _ _)
  (tuple_addW0 a b _ its2.toArray n n2 dd dd2 sl sl2 rfl) ⟨ho,ho2,⟨.ref b,H,I,rfl,q⟩⟩
theorem VJ (hv:∀ i∈vs,M.Ms i=false) (hK:M.K=X.K) (ha:PE X a (tE M f vs)) (hb:PE X b (tE M g vs')):PE X (.BinOp a .Add b pos) (tE M (Ab AJ f g) (vs++vs')):=by
 refine Bg (Mq (qk9.or (qgf.or (qii.or (qez.or Z2)))) ha hb) λ σ H Q h=>DA hv (λ x d y e z c v w H fps f1 f2 Q ho o1 o2 dj nz zd lf=>?_) h;cases x with
 | int i=>
  cases y with
  | int j=>
   cases ho;rw [Own] at o1 o2;exact .inl ⟨i,j,o1.1,o2.1,Dq lf⟩
  | _=>cases ho
 | lst xs=>
  cases y with
  | lst ys=>
   dsimp only [AJ] at ho;split at ho
   ·rename_i hl;cases ho;obtain ⟨p,ws,rfl,hp,ol⟩:=(cold o1 λ a ha=>nz a (AY _ ha)).coldL;obtain ⟨p2,us,rfl,hp2,ol2⟩:=(cold o2 λ a ha=>nz a (AR _ ha)).coldL;exact .inr (.inl ⟨p,p2,ws,us,rfl,rfl,hp,hp2,by rw [ol.length,ol2.length];exact hl,λ q hq=>Ir lf (ol.app ol2) hq⟩)
   ·cases ho
  | _=>cases ho
 | tup xs=>
  cases y with
  | tup ys=>
   dsimp only [AJ] at ho;split at ho
   ·rename_i hl;cases ho;obtain ⟨p,ws,rfl,hp,ol⟩:=(cold o1 λ a ha=>nz a (AY _ ha)).coldT;obtain ⟨p2,us,rfl,hp2,ol2⟩:=(cold o2 λ a ha=>nz a (AR _ ha)).coldT;by_cases hw:ws=[]
    ·subst hw;refine .inr (.inr (.inr (.inl ⟨p,p2,us,rfl,rfl,.inl (.inl hp),.inl (.inl hp2),?_⟩)));have ex:xs=[]:=by
      have:=ol.length
      cases xs with
      | nil=>rfl
      | cons _ _=>simp at this
     subst ex;exact Io (x:=.tup ys) lf (by rw [Own];exact ⟨p2,us,rfl,hp2,ol2⟩)
    ·refine .inr (.inr (.inl ⟨p,p2,ws,us,rfl,rfl,.inl (.inl hp),.inl (.inl hp2),hw,by rw [ol.length,ol2.length];exact hl,λ hu=>?_,λ hu q hq=>Le lf (ol.app ol2) hq⟩));subst hu;have ey:ys=[]:=by
      have:=ol2.length
      cases ys with
      | nil=>rfl
      | cons _ _=>simp at this
     subst ey;rw [Jd] at lf;exact Io (x:=.tup xs) lf (by rw [Own];exact ⟨p,ws,rfl,hp,ol⟩)
   ·cases ho
  | _=>cases ho
 | str i=>
  cases y with
  | str j=>
   dsimp only [AJ] at ho;split at ho
   ·rename_i hl;cases ho;rw [Own] at o1 o2;exact .inr (.inr (.inr (.inr ⟨i,j,o1.1,o2.1,hl,Ld lf⟩)))
   ·cases ho
  | _=>cases ho
 | _=>cases ho
def Ou:PV->Nat->PV->Nat->Option (PV×Nat)
 | .lst xs,_,.lst ys,e=>if xs.length + ys.length<=An then some (.lst (xs++ys),if E7 xs=true/\e=om then om else d1 (xs++ys)) else none
 | _,_,_,_=>none
theorem OwnL.appF {K:Frag}{H:Hp}{Z:Addr->Prop}{ys:List PV}{us:List V}{fc:List Addr} (h':OwnL K H Z ys om us fc):∀ {xs:List PV}{ws:List V},OwnL K H Z xs om ws []->OwnL K H Z (xs++ys) om (ws++us) fc
 | [],ws,h=>by rw [OwnL] at h;obtain ⟨rfl,_⟩:=h;exact h'
 | x::xs,ws,h=>by
  rw [OwnL] at h;obtain ⟨v,s,f1,f2,rfl,ef,dj,h1,h2⟩:=h;obtain ⟨rfl,rfl⟩:f1=[]/\f2=[]:=by simpa using ef.symm
  show OwnL K H Z (x::(xs++ys)) om (v::(s++us)) fc;rw [OwnL];exact ⟨v,s++us,[],fc,rfl,rfl,λ _ z=>(nomatch z),h1,OwnL.appF h' h2⟩
theorem Xa (hv:∀ i∈vs,M.Ms i=false) (hK:M.K=X.K) (ha:PE X a (tE M f vs)) (hb:PE X b (tE M g vs')):PE X (.BinOp a .Add b pos) (tE M (Ab Ou f g) (vs++vs')):=by
 refine Bg (Mq qgf ha hb) λ σ H Q h=>DA hv (λ x d y e z c v w H fps f1 f2 Q ho o1 o2 dj nz zd lf=>?_) h;cases x with
 | lst xs=>
  cases y with
  | lst ys=>
   dsimp only [Ou] at ho;split at ho
   ·rename_i hl;cases ho;obtain ⟨p,ws,rfl,hp,ol⟩:=(cold o1 λ a ha=>nz a (AY _ ha)).coldL;split at lf
    ·rename_i hc;obtain ⟨ht,rfl⟩:=hc;obtain ⟨p2,us,fc,rfl,hp2,ef,na,ol2⟩:=o2.list (by decide);refine ⟨p,p2,ws,us,rfl,rfl,hp,hp2,by rw [ol.length,ol2.length];exact hl,λ q hq=>?_⟩;have lf':Bf M H fps (vs++vs') fc (.lst (xs++ys)) om Q:=λ u H' fp h1 h2 h3=>lf u H' fp h1 h2 λ a ha=>(h3 a ha).elim (λ z=>.inl (AR _ (by rw [ef];exact AA _ z))) .inr;exact MU lf' (OwnL.appF ol2 (ol.atoms ht)) hq
    ·obtain ⟨p2,us,rfl,hp2,ol2⟩:=(cold o2 λ a ha=>nz a (AR _ ha)).coldL;exact ⟨p,p2,ws,us,rfl,rfl,hp,hp2,by rw [ol.length,ol2.length];exact hl,λ q hq=>Ir lf (ol.app ol2) hq⟩
   ·cases ho
  | _=>cases ho
 | _=>cases ho
theorem LB {op:Operator}{p:Int->Int->Bool}{k:Int->Int->Int}{C:Int->Int->Prop} (hop:OpR X (Dz op) (rI C λ i j=>.int (k i j))) (hC:∀ i j,p i j=true->C i j) (hv:∀ i∈vs,M.Ms i=false) (ha:PE X a (tE M f vs)) (hb:PE X b (tE M g vs')):
  PE X (.BinOp a op b pos) (tE M (Ab (IS p k) f g) (vs++vs')):=by
 refine Bg (Mq hop ha hb) λ σ H Q h=>DA hv (λ x d y e z c v w H fps f1 f2 Q ho o1 o2 dj nz zd lf=>?_) h;cases x with
 | int i=>
  cases y with
  | int j=>
   dsimp only [IS] at ho;split at ho
   ·rename_i hp;cases ho;rw [Own] at o1 o2;exact ⟨i,j,o1.1,o2.1,hC i j hp,Dq lf⟩
   ·cases ho
  | _=>cases ho
 | _=>cases ho
theorem OwnL.rep {K:Frag}{H:Hp}{Z:Addr->Prop}{xs:List PV}{ws:List V} (h:OwnL K H Z xs 0 ws []):∀ n,OwnL K H Z (D3 n xs) 0 (A6 n ws).flatten []
 | 0=>by
  unfold D3;rw [Tt,Tt,Tp,Tp,OwnL];exact ⟨rfl,rfl⟩
 | n + 1=>by
  have:=h.rep n
  unfold D3 at this ⊢;rw [Gk,Gk,HZ,HZ];exact h.app this
def WH:OpR X (Dz .Sub) (rI (λ _ _=>True) λ i j=>.int (i - j)):=Kk λ _ _ _ _ _ _ _ _ q=>sub_int q
def OX {i j:Int} (h:EH i j=true):CMul i j:=by
 unfold EH at h;simp only [EL,AL,decide_eq_true_eq] at h;exact h
theorem Nc (a:Array Nat):∀ (n:Nat) (b:Array Nat),(A6 n a).foldl (·++·) b=⟨b.toList++(A6 n a.toList).flatten⟩
 | 0,b=>by simp
 | n + 1,b=>by
  rw [Gk,Ti,Nc a n,Gk,HZ];simp
def Z3:OpR X (Dz .Mult) (λ x y H Q=>∃ z n,x=.str z/\y=.int n/\-(2 ^ 62)<=n/\n < 2 ^ 62/\z.length * n.toNat<=An/\Q (.str (Di z n.toNat)) H):=by
 intro pins s σ H x y v u Q I rx ry h;obtain ⟨z,n,rfl,rfl,h1,h2,h3,q⟩:=h;obtain ⟨t1,rfl⟩:=rx;obtain ⟨t2,rfl⟩:=ry;have hz:Builtin.Str.tooLong (z.length * n.toNat)=false:=by
  unfold Builtin.Str.tooLong;have h40:An<=2 ^ 40:=by decide
  exact decide_eq_false (by omega)
 refine PySem.P.mul_str (by rw [decide_eq_false (by omega),decide_eq_false (by omega)];rfl) (λ _ _ hc=>?_) (λ _ _=>hz) ?_
 ·have hn:(1:Int)<=n:=by omega
  have hl:z.length * n.toNat<=2 ^ 62:=CT h3 (by decide);have h4:(z.length:Int) * n<=2 ^ 62:=by
   have:((z.length * n.toNat:Nat):Int)<=((2 ^ 62:Nat):Int):=Int.ofNat_le.mpr hl
   rw [Int.natCast_mul,show ((n.toNat:Nat):Int)=n by omega] at this;exact this
  have h5:(2 ^ 63 - 1) / n < (z.length:Int):=hc;have h6:=Int.lt_mul_of_ediv_lt (by omega:(0:Int) < n) h5;omega
 ·by_cases c1:n < 1
  ·rw [if_pos c1];refine ⟨by decide,.str (Di z n.toNat),H,I.tok _,⟨s.toks,?_⟩,q⟩;rw [show n.toNat=0 by omega];rfl
  ·rw [if_neg c1];split
   ·rename_i c2;refine ⟨.str (Di z n.toNat),H,I,⟨t1,?_⟩,q⟩;have e:Di z n.toNat=z:=by
     unfold Di;rcases EL _ _ ▸ c2 with c | c
     ·have:n=1:=by simpa using c
      subst this;show (⟨([z.cps.toList].flatten).toArray⟩:Str)=z;simp
     ·have e0:z.cps.toList=[]:=by
       have:z.cps.size=0:=eq_of_beq c
       exact jj6.mpr (Array.eq_empty_of_size_eq_zero this)
      rw [e0]
      have:(A6 n.toNat ([]:List Nat)).flatten=[]:=by simp
      rw [this];cases z with
      | mk a=>simp at e0;subst e0;rfl
    rw [e]
   ·refine ⟨?_,.str (Di z n.toNat),H,I.tok _,⟨s.toks,?_⟩,q⟩
    ·rw [Nc];show (#[].toList++(A6 n.toNat z.cps.toList).flatten).length<=An;simp only [Ku,Bn,List.length_flatten,List.map_replicate,List.sum_replicate_nat];have h4:n.toNat * z.cps.size<=An:=by rw [Td];exact h3
     simpa using h4
    ·unfold Di;rw [Nc];simp
theorem Wu (hv:∀ i∈vs,M.Ms i=false) (ha:PE X a (tE M f vs)) (hb:PE X b (tE M g vs')):PE X (.BinOp a .Mult b pos) (tE M (Ab AV f g) (vs++vs')):=by
 refine Bg (Mq (qk0.or (qkx.or Z3)) ha hb) λ σ H Q h=>DA hv (λ x d y e z c v w H fps f1 f2 Q ho o1 o2 dj nz zd lf=>?_) h;cases x with
 | int i=>
  cases y with
  | int j=>
   dsimp only [AV] at ho;split at ho
   ·rename_i hp;cases ho;rw [Own] at o1 o2;exact .inl ⟨i,j,o1.1,o2.1,OX hp,Dq lf⟩
   ·cases ho
  | _=>cases ho
 | lst xs=>
  cases y with
  | int k=>
   dsimp only [AV] at ho;split at ho
   ·rename_i hl;cases ho;obtain ⟨p,ws,rfl,hp,ol⟩:=(cold o1 λ a ha=>nz a (AY _ ha)).coldL;rw [Own] at o2;exact .inr (.inl ⟨p,k,ws,rfl,o2.1,hp,by omega,by omega,by rw [ol.length];exact hl.2.2,λ q hq=>Ir lf (ol.rep k.toNat) hq⟩)
   ·cases ho
  | _=>cases ho
 | str z=>
  cases y with
  | int k=>
   dsimp only [AV] at ho;split at ho
   ·rename_i hl;cases ho;rw [Own] at o1;rw [Own] at o2;exact .inr (.inr ⟨z,k,o1.1,o2.1,hl.1,hl.2.1,hl.2.2,Ld lf⟩)
   ·cases ho
  | _=>cases ho
 | _=>cases ho
def OZ {i j:Int} (h:EI i j=true):0 < j/\j < 2 ^ 128:=by
 unfold EI at h;simp only [AL,decide_eq_true_eq] at h;exact h
def OY {i j:Int} (h:Gh i j=true):0 < j:=by
 unfold Gh at h;simpa using h
def OW {i j:Int} (h:HS i j=true):KR i j:=by
 unfold HS at h;simp only [AL,decide_eq_true_eq] at h;exact ⟨h.1.1,by omega,h.2⟩
def BN:PV->Nat->Option (PV×Nat)
 | .int i,_=>some (.int (-i),om)
 | _,_=>none
theorem Wv (ha:PE X a (tE M f vs)):PE X (.UnaryOp .USub a pos) (tE M (Au BN f) vs):=by
 refine Bg (UB Wh ha) λ σ H Q h=>Kh (λ x d z c v H fps f1 Q ho o1 nz zd lf=>?_) h;cases x with
 | int i=>cases ho;rw [Own] at o1;exact ⟨i,o1.1,Dq lf⟩
 | _=>cases ho
def BH (p:Int->Int->Bool):PV->Nat->PV->Nat->Option (PV×Nat)
 | .int i,_,.int j,_=>some (.bl (p i j),om)
 | _,_,_,_=>none
theorem Lc {p:Int->Int->Bool}{x y z:PV}{d e c:Nat}{v w:V}{fps:AB}{f1 f2 F:List Addr}{Z Z':Addr->Prop} (ho:BH p x d y e=some (z,c)) (o1:Own M.K H Z x d v f1) (o2:Own M.K H Z' y e w f2) (lf:Bf M H fps vs F z c Q):Es (λ i j=>.bl (p i j)) v w H Q:=by
 cases x with
 | int i=>
  cases y with
  | int j=>
   cases ho;rw [Own] at o1 o2;exact ⟨i,j,o1.1,o2.1,D8 lf⟩
  | _=>cases ho
 | _=>cases ho
def sV:PV->Option V
 | .non=>some .non
 | .bl b=>some (.bl b)
 | .int i=>some (.int i)
 | .str x=>some (.str x)
 | _=>none
def Bt (f:PV->Option ED):List PV->Option (List ED)
 | []=>some []
 | x::xs=>match f x,Bt f xs with
  | some a,some r=>some (a::r)
  | _,_=>none
def Ck:Nat->PV->Option ED
 | 0,_=>none
 | n + 1,x=>match x with
  | .non=>some .none
  | .bl b=>some (.bool b)
  | .int i=>some (.int i)
  | .str z=>if PyData.strOk z=true then some (.str z) else none
  | .lst xs=>(Bt (Ck n) xs).map .list
  | .tup xs=>(Bt (Ck n) xs).map .tuple
  | _=>none
def DR (f:PV->PV->Bool):List PV->List PV->Bool
 | [],[]=>true
 | x::xs,y::ys=>f x y && DR f xs ys
 | _,_=>false
def Ew:Nat->PV->PV->Bool
 | 0,_,_=>false
 | n + 1,x,y=>match x,y with
  | .non,.non=>true
  | .bl a,.bl b=>a == b
  | .int a,.int b=>a == b
  | .str a,.str b=>a == b
  | .emp,.emp=>true
  | .lst xs,.lst ys=>DR (Ew n) xs ys
  | .tup xs,.tup ys=>DR (Ew n) xs ys
  | _,_=>false
def Am (neg:Bool) (x:PV) (_:Nat) (y:PV) (_:Nat):Option (PV×Nat):=match Ck 20 x,Ck 20 y with
 | some a,some b=>some (.bl (neg^^DU a b),om)
 | _,_=>match x,y with
  | .lst xs,.lst ys=>if DR (Ew 20) xs ys=true then some (.bl (neg^^true),om) else if xs.length≠ys.length then some (.bl (neg^^false),om) else none
  | .str a,.str b=>some (.bl (neg^^(a == b)),om)
  | .emp,.emp=>some (.bl (neg^^true),om)
  | .tup xs,.tup ys=>if DR (Ew 20) xs ys=true then some (.bl (neg^^true),om) else none
  | _,_=>none
theorem J7 {f:PV->Option ED}{n:Nat} (hf:∀ x D,f x=some D->D.canLay0=true/\D.depth<=n):∀ {xs:List PV}{Ds:List ED},Bt f xs=some Ds->N9 Ds=true/\HB Ds<=n
 | [],Ds,h=>by cases h;rw [N9,HB];exact ⟨rfl,HW _⟩
 | x::xs,Ds,h=>by
  unfold Bt at h;split at h
  ·rename_i a r h1 h2;cases h;have h3:=hf x a h1;have h4:=J7 hf h2;rw [N9,HB,h3.1,h4.1];exact ⟨rfl,Nat.max_le.mpr ⟨h3.2,h4.2⟩⟩
  ·cases h
theorem EY:∀ (n:Nat) (x:PV) (D:ED),Ck n x=some D->D.canLay0=true/\D.depth<=n
 | 0,_,_,h=>by cases h
 | n + 1,x,D,h=>by
  unfold Ck at h;cases x with
  | non=>cases h;rw [IQ,PyData.depth] <;> first | exact ⟨rfl,HW _⟩ | (intros;contradiction)
  | bl b=>cases h;rw [IQ,PyData.depth] <;> first | exact ⟨rfl,HW _⟩ | (intros;contradiction)
  | int i=>cases h;rw [IQ,PyData.depth] <;> first | exact ⟨rfl,HW _⟩ | (intros;contradiction)
  | str z=>
   dsimp only at h;split at h
   ·rename_i hz;cases h;rw [IQ,PyData.depth] <;> first | exact ⟨hz,HW _⟩ | (intros;contradiction)
   ·cases h
  | lst xs=>
   obtain ⟨Ds,e,rfl⟩:=jb0.mp h
   have:=J7 (EY n) e
   rw [IQ,PyData.depth];exact ⟨this.1,To this.2⟩
  | tup xs=>
   obtain ⟨Ds,e,rfl⟩:=jb0.mp h
   have:=J7 (EY n) e
   rw [IQ,PyData.depth];exact ⟨this.1,To this.2⟩
  | emp=>cases h
  | dko=>cases h
  | scr ns=>cases h
  | dct _=>cases h
  | exn _=>cases h
theorem FE {pins:List (Addr×Obj)}{s:Ah}{Z:Addr->Prop} (I:L2.Inv X pins σ H s):∀ (n:Nat) (x:PV) (d:Nat) (v:V) (fp:List Addr) (u:Ae) (D:ED),Ck n x=some D->Own X.K H Z x d v fp->RelV v u->∃ as,Reads s.heap u D as
 | 0,_,_,_,_,_,_,h,_,_=>by cases h
 | n + 1,x,d,v,fp,u,D,h,o,r=>by
  have all:∀ (xs:List PV) (d:Nat) (ws:List V) (fp:List Addr) (us:List Ae) (Ds:List ED),Bt (Ck n) xs=some Ds->OwnL X.K H Z xs d ws fp->Vals ws us->∃ as,ReadsAll s.heap us Ds as:=λ xs=>by
   induction xs with
   | nil=>
    intro d ws fp us Ds h o r;cases h;rw [OwnL] at o;obtain ⟨rfl,_⟩:=o;cases r;exact ⟨_,.nil⟩
   | cons y ys ih=>
    intro d ws fp us Ds h o r;unfold Bt at h;split at h
    ·rename_i a rr h1 h2;cases h;rw [OwnL] at o;obtain ⟨v,s,f1,f2,rfl,_,_,o1,o2⟩:=o;cases r with
     | cons r1 r2=>
      obtain ⟨as,ra⟩:=FE I n y d v f1 _ a h1 o1 r1;obtain ⟨bs,rb⟩:=ih d s f2 _ rr h2 o2 r2;exact ⟨_,.cons ra rb⟩
    ·cases h
  unfold Ck at h;cases x with
  | non=>cases h;rw [Own] at o;obtain ⟨rfl,_⟩:=o;cases r;exact ⟨_,.none⟩
  | bl b=>cases h;rw [Own] at o;obtain ⟨rfl,_⟩:=o;cases r;exact ⟨_,.bool b⟩
  | int i=>cases h;rw [Own] at o;obtain ⟨rfl,_⟩:=o;obtain ⟨t,rfl⟩:=r;exact ⟨_,.int i t⟩
  | str z=>
   dsimp only at h;split at h
   ·cases h;rw [Own] at o;obtain ⟨rfl,_⟩:=o;obtain ⟨t,rfl⟩:=r;exact ⟨_,.str z t⟩
   ·cases h
  | lst xs=>
   obtain ⟨Ds,e,rfl⟩:=jb0.mp h;have hh:∃ a ws d' f,v=.ref a/\H a=some (.lst ws)/\OwnL X.K H Z xs d' ws f:=by
    rw [Own] at o;obtain ⟨a,ws,ev,⟨_,hr,_,ol⟩ | ⟨_,f,ha,_,_,ol⟩⟩:=o
    ·exact ⟨a,ws,_,_,ev,hr.1,ol⟩
    ·exact ⟨a,ws,_,_,ev,ha,ol⟩
   obtain ⟨a,ws,d',f,rfl,ha,ol⟩:=hh;cases r;obtain ⟨its,rv,⟨ob,nn,e1,e2,e3,e4⟩,_⟩:=I.list (.inl (.inl ha));obtain ⟨as,ra⟩:=all xs d' ws f its Ds e ol rv;exact ⟨_,.list e1 e2 e4 ra⟩
  | tup xs=>
   obtain ⟨Ds,e,rfl⟩:=jb0.mp h;rw [Own] at o;obtain ⟨a,ws,rfl,ha,ol⟩:=o;cases r;obtain ⟨its,rv,⟨ob,e1,e2,nn,e4⟩,_⟩:=I.tuple (.inl (.inl ha));obtain ⟨as,ra⟩:=all xs _ ws fp its Ds e ol rv;exact ⟨_,.tuple e1 e2 e4 ra⟩
  | emp=>cases h
  | dko=>cases h
  | scr ns=>cases h
  | dct _=>cases h
  | exn _=>cases h
def IE {K':Type} [DecidableEq K'] {prog:A3}{w:Az}{knd:KeyKind prog w K'}{P:A3}{w0:Az}{h:Heap}{a:Addr} (x:h.DictOf (Dc P w0) a []):h.DictOf knd a []:=by
 obtain ⟨o,es,ep,h1,h2,h3,h4,h5,h6⟩:=x;generalize hes:es.toList=l at h5;cases h5;have e:es=#[]:=jj6.mp hes;subst e;exact ⟨o,#[],ep,h1,h2,h3,by intro z hz;simp at hz,.nil,.nil⟩
def Vd {pins:List (Addr×Obj)}{s:Ah} (I:L2.Inv X pins σ H s) {a b:Addr}{A:AW} (ha:H a=some (.dK [])) (hb:H b=some (.dK [])) (hu:A.units < Cy):SeqAt.EqAt A s (.ref a) (.ref b) true:=by
 by_cases e:a=b
 ·subst e;exact JL _
 ·refine ND e λ prog w E Q hq=>?_;obtain ⟨_,z1,vs,k1,d1⟩:=Ke I.hok ha;obtain ⟨_,z2,ws,k2,d2⟩:=Ke I.hok hb;cases k1;cases k2;exact PySem.W.keq_eq (knd:=Dc prog w) (r:=true) z1 z2 (IE d1) (IE d2) hu (λ _=>.nil) (by simpa using hq)
def IA {Z:Addr->Prop}{xs:List PV}{d:Nat}{v:V}{fp:List Addr}{K:Frag} (o:Own K H Z (.lst xs) d v fp):∃ a ws d' f,v=.ref a/\H a=some (.lst ws)/\OwnL K H Z xs d' ws f:=by
 rw [Own] at o;obtain ⟨a,ws,ev,⟨_,hr,_,ol⟩ | ⟨_,f,ha,_,_,ol⟩⟩:=o
 ·exact ⟨a,ws,_,_,ev,hr.1,ol⟩
 ·exact ⟨a,ws,_,_,ev,ha,ol⟩
def L5 {n:Nat}{e:Nat->Bool} (h:∀ j,j < n->e j=true):(Bb n).all e=true:=jc4.mpr λ j hj=>h j (jd5.mp hj)
theorem Sv {pins:List (Addr×Obj)}{s:Ah}{Z Z':Addr->Prop} (I:L2.Inv X pins σ H s):∀ (n:Nat) (x y:PV) (d e:Nat) (v w:V) (f1 f2:List Addr) (u u':Ae) (A:AW),A.units + n < Cy->Ew n x y=true->Own X.K H Z x d v f1->Own X.K H Z' y e w f2->RelV v u->RelV w u'->SeqAt.EqAt A s u u' true
 | 0,_,_,_,_,_,_,_,_,_,_,_,_,h,_,_,_,_=>by cases h
 | n + 1,x,y,d,e,v,w,f1,f2,u,u',A,hu,h,o1,o2,r1,r2=>by
  have all:∀ (xs ys:List PV) (d e:Nat) (vs ws:List V) (f1 f2:List Addr) (us us':List Ae),DR (Ew n) xs ys=true->OwnL X.K H Z xs d vs f1->OwnL X.K H Z' ys e ws f2->Vals vs us->Vals ws us'->us.length=us'.length/\∀ j (h1:j < us.length) (h2:j < us'.length),SeqAt.EqAt A.in1 s us[j] us'[j] true:=λ xs=>by
   induction xs with
   | nil=>
    intro ys d e vs ws f1 f2 us us' h o1 o2 r1 r2;cases ys with
    | cons _ _=>cases h
    | nil=>
     rw [OwnL] at o1 o2;obtain ⟨rfl,_⟩:=o1;obtain ⟨rfl,_⟩:=o2;cases r1;cases r2;exact ⟨rfl,λ j h1 _=>nomatch h1⟩
   | cons x xs ih=>
    intro ys d e vs ws f1 f2 us us' h o1 o2 r1 r2;cases ys with
    | nil=>cases h
    | cons y ys=>
     unfold DR at h;rw [AL] at h;rw [OwnL] at o1 o2;obtain ⟨_,_,g1,g2,rfl,_,_,p1,p2⟩:=o1;obtain ⟨_,_,k1,k2,rfl,_,_,q1,q2⟩:=o2;cases r1 with
     | cons a1 a2=>
      cases r2 with
      | cons b1 b2=>
       have t:=ih ys d e _ _ g2 k2 _ _ h.2 p2 q2 a2 b2;refine ⟨congrArg (·+ 1) t.1,λ j h1 h2=>?_⟩;cases j with
       | zero=>exact Sv I n x y d e _ _ g1 k1 _ _ A.in1 (by have e:A.in1.units=A.units + 1:=rfl;omega) h.1 p1 q1 a1 b1
       | succ j=>exact t.2 j (MD h1) (MD h2)
  cases x with
  | non=>cases y <;> first | (cases h;done) | (rw [Own] at o1 o2;obtain ⟨rfl,_⟩:=o1;obtain ⟨rfl,_⟩:=o2;cases r1;cases r2;exact JL _)
  | bl b=>cases y <;> first | (cases h;done) | (rw [Own] at o1 o2;obtain ⟨rfl,_⟩:=o1;obtain ⟨rfl,_⟩:=o2;cases r1;cases r2;have e:=eq_of_beq (show (b == _)=true from h);subst e;exact JL _)
  | int i=>cases y <;> first | (cases h;done) | (rw [Own] at o1 o2;obtain ⟨rfl,_⟩:=o1;obtain ⟨rfl,_⟩:=o2;obtain ⟨t,rfl⟩:=r1;obtain ⟨t',rfl⟩:=r2;have e:=eq_of_beq (show (i == _)=true from h);subst e;have z:=SeqAt.EqAt.int_int (A:=A) (s:=s) i t i t';rwa [beq_self_eq_true] at z)
  | str i=>cases y <;> first | (cases h;done) | (rw [Own] at o1 o2;obtain ⟨rfl,_⟩:=o1;obtain ⟨rfl,_⟩:=o2;obtain ⟨t,rfl⟩:=r1;obtain ⟨t',rfl⟩:=r2;have e:=eq_of_beq (show (i == _)=true from h);subst e;have z:=SeqAt.EqAt.str_str (A:=A) (s:=s) i t i t';rwa [beq_self_eq_true] at z)
  | emp=>cases y <;> first | (cases h;done) | (rw [Own] at o1 o2;obtain ⟨_,a,rfl,ha⟩:=o1;obtain ⟨_,b,rfl,hb⟩:=o2;cases r1;cases r2;exact Vd I ha hb (by omega))
  | dko=>cases h
  | lst xs=>
   cases y with
   | lst ys=>
    obtain ⟨a,ws,d',f,rfl,ha,ol⟩:=IA o1;obtain ⟨b,ws',e',f',rfl,hb,ol'⟩:=IA o2;cases r1;cases r2;obtain ⟨its,rv,p,_⟩:=I.list (.inl (.inl ha));obtain ⟨its',rv',p',_⟩:=I.list (.inl (.inl hb));have t:=all xs ys d' e' ws ws' f f' its its' h ol ol' rv rv';obtain ⟨ob,nn,e1,e2,e3,e4⟩:=p;obtain ⟨ob',nn',e1',e2',e3',e4'⟩:=p';by_cases e:a=b
    ·subst e;exact JL _
    ·refine ND e ?_;have z:=SeqAt.RcAt.lists (A:=A) (s:=s) (l:=a) (b:=b) (items:=its.toArray) (items2:=its'.toArray) (e:=λ _=>true) ⟨ob,e1,e2,nn,e4⟩ ⟨ob',e1',e2',nn',e4'⟩ (by simpa using t.1) (by omega) (λ j h1 h2=>by simpa using t.2 j (by simpa using h1) (by simpa using h2));rwa [L5 λ _ _=>rfl] at z
   | _=>cases h
  | tup xs=>
   cases y with
   | tup ys=>
    rw [Own] at o1 o2;obtain ⟨a,ws,rfl,ha,ol⟩:=o1;obtain ⟨b,ws',rfl,hb,ol'⟩:=o2;cases r1;cases r2;obtain ⟨its,rv,⟨ob,e1,e2,nn,e4⟩,_⟩:=I.tuple (.inl (.inl ha));obtain ⟨its',rv',⟨ob',e1',e2',nn',e4'⟩,_⟩:=I.tuple (.inl (.inl hb));have t:=all xs ys _ _ ws ws' _ _ its its' h ol ol' rv rv';by_cases e:a=b
    ·subst e;exact JL _
    ·refine ND e ?_;have z:=SeqAt.RcAt.tuples (A:=A) (s:=s) (l:=a) (b:=b) (items:=its.toArray) (items2:=its'.toArray) (e:=λ _=>true) ⟨ob,e1,e2,nn,e4⟩ ⟨ob',e1',e2',nn',e4'⟩ (by omega) (λ j h1 h2=>by simpa using t.2 j (by simpa using h1) (by simpa using h2));have z2:((its.toArray.size == its'.toArray.size):Bool)=true:=by simpa using t.1
     rwa [L5 λ _ _=>rfl,z2] at z
   | _=>cases h
  | scr ns=>cases y <;> cases h
  | dct _=>cases y <;> cases h
  | exn _=>cases y <;> cases h
theorem Qb {pins:List (Addr×Obj)}{s:Ah}{Z Z':Addr->Prop} (I:L2.Inv X pins σ H s) {A:AW} (hu:A.units + 64 < Cy):∀ (xs ys:List PV) (d e:Nat) (vs ws:List V) (f1 f2:List Addr) (us us':List Ae),DR (Ew 20) xs ys=true->OwnL X.K H Z xs d vs f1->OwnL X.K H Z' ys e ws f2->Vals vs us->Vals ws us'->us.length=us'.length/\∀ j (h1:j < us.length) (h2:j < us'.length),SeqAt.EqAt A.in1 s us[j] us'[j] true:=λ xs=>by
 induction xs with
 | nil=>
  intro ys d e vs ws f1 f2 us us' h o1 o2 r1 r2;cases ys with
  | cons _ _=>cases h
  | nil=>
   rw [OwnL] at o1 o2;obtain ⟨rfl,_⟩:=o1;obtain ⟨rfl,_⟩:=o2;cases r1;cases r2;exact ⟨rfl,λ j h1 _=>nomatch h1⟩
 | cons x xs ih=>
  intro ys d e vs ws f1 f2 us us' h o1 o2 r1 r2;cases ys with
  | nil=>cases h
  | cons y ys=>
   unfold DR at h;rw [AL] at h;rw [OwnL] at o1 o2;obtain ⟨_,_,g1,g2,rfl,_,_,p1,p2⟩:=o1;obtain ⟨_,_,k1,k2,rfl,_,_,q1,q2⟩:=o2;cases r1 with
   | cons a1 a2=>
    cases r2 with
    | cons b1 b2=>
     have t:=ih ys d e _ _ g2 k2 _ _ h.2 p2 q2 a2 b2;refine ⟨congrArg (·+ 1) t.1,λ j h1 h2=>?_⟩;cases j with
     | zero=>exact Sv I 20 x y d e _ _ g1 k1 _ _ A.in1 (by have e:A.in1.units=A.units + 1:=rfl;omega) h.1 p1 q1 a1 b1
     | succ j=>exact t.2 j (MD h1) (MD h2)
def Qc {pins:List (Addr×Obj)}{s:Ah}{Z Z':Addr->Prop} (I:L2.Inv X pins σ H s) {xs ys:List PV}{d e:Nat}{v w:V}{f1 f2:List Addr}{u u':Ae}{A:AW} (hu:A.units + 64 < Cy) (h:DR (Ew 20) xs ys=true) (o1:Own X.K H Z (.lst xs) d v f1) (o2:Own X.K H Z' (.lst ys) e w f2) (r1:RelV v u) (r2:RelV w u'):SeqAt.RcAt A s u u' true/\LI A s u u' false:=by
 obtain ⟨a,ws,d',f,rfl,ha,ol⟩:=IA o1;obtain ⟨b,ws',e',f',rfl,hb,ol'⟩:=IA o2;cases r1;cases r2;obtain ⟨its,rv,⟨ob,nn,e1,e2,e3,e4⟩,_⟩:=I.list (.inl (.inl ha));obtain ⟨its',rv',⟨ob',nn',e1',e2',e3',e4'⟩,_⟩:=I.list (.inl (.inl hb));have t:=Qb I hu xs ys d' e' ws ws' f f' its its' h ol ol' rv rv';have z:=SeqAt.RcAt.lists (A:=A) (s:=s) (l:=a) (b:=b) (items:=its.toArray) (items2:=its'.toArray) (e:=λ _=>true) ⟨ob,e1,e2,nn,e4⟩ ⟨ob',e1',e2',nn',e4'⟩ (by simpa using t.1) (by omega) (λ j h1 h2=>by simpa using t.2 j (by simpa using h1) (by simpa using h2));have z':=SeqAt.RcNeAt.lists (A:=A) (s:=s) (l:=a) (b:=b) (items:=its.toArray) (items2:=its'.toArray) (e:=λ _=>true) ⟨ob,e1,e2,nn,e4⟩ ⟨ob',e1',e2',nn',e4'⟩ (by simpa using t.1) (by omega) (λ j h1 h2=>by simpa using t.2 j (by simpa using h1) (by simpa using h2));rw [L5 λ _ _=>rfl] at z z';exact ⟨z,z'⟩
def Pu {pins:List (Addr×Obj)}{s:Ah}{Z Z':Addr->Prop} (I:L2.Inv X pins σ H s) {xs ys:List PV}{d e:Nat}{v w:V}{f1 f2:List Addr}{u u':Ae}{A:AW} (hu:A.units + 64 < Cy) (h:DR (Ew 20) xs ys=true) (o1:Own X.K H Z (.tup xs) d v f1) (o2:Own X.K H Z' (.tup ys) e w f2) (r1:RelV v u) (r2:RelV w u'):SeqAt.RcAt A s u u' true/\LI A s u u' false:=by
 rw [Own] at o1;rw [Own] at o2;obtain ⟨a,ws,rfl,ha,ol⟩:=o1;obtain ⟨b,ws',rfl,hb,ol'⟩:=o2;cases r1;cases r2;obtain ⟨its,rv,⟨ob,e1,e2,nn,e4⟩,_⟩:=I.tuple (.inl (.inl ha));obtain ⟨its',rv',⟨ob',e1',e2',nn',e4'⟩,_⟩:=I.tuple (.inl (.inl hb));have t:=Qb I hu xs ys _ _ ws ws' _ _ its its' h ol ol' rv rv';have z:=SeqAt.RcAt.tuples (A:=A) (s:=s) (l:=a) (b:=b) (items:=its.toArray) (items2:=its'.toArray) (e:=λ _=>true) ⟨ob,e1,e2,nn,e4⟩ ⟨ob',e1',e2',nn',e4'⟩ (by omega) (λ j h1 h2=>by simpa using t.2 j (by simpa using h1) (by simpa using h2));have z':=SeqAt.RcNeAt.tuples (A:=A) (s:=s) (l:=a) (b:=b) (items:=its.toArray) (items2:=its'.toArray) (e:=λ _=>true) ⟨ob,e1,e2,nn,e4⟩ ⟨ob',e1',e2',nn',e4'⟩ (by omega) (λ j h1 h2=>by simpa using t.2 j (by simpa using h1) (by simpa using h2));have z2:((its.toArray.size == its'.toArray.size):Bool)=true:=by simpa using t.1
 rw [L5 λ _ _=>rfl,z2] at z z';exact ⟨z,z'⟩
def Si {pins:List (Addr×Obj)}{s:Ah}{Z Z':Addr->Prop} (I:L2.Inv X pins σ H s) {xs ys:List PV}{d e:Nat}{v w:V}{f1 f2:List Addr}{u u':Ae}{A:AW} (hu:A.units + 64 < Cy) (h:xs.length≠ys.length) (o1:Own X.K H Z (.lst xs) d v f1) (o2:Own X.K H Z' (.lst ys) e w f2) (r1:RelV v u) (r2:RelV w u'):SeqAt.RcAt A s u u' false/\LI A s u u' true:=by
 obtain ⟨a,ws,d',f,rfl,ha,ol⟩:=IA o1;obtain ⟨b,ws',e',f',rfl,hb,ol'⟩:=IA o2;cases r1;cases r2;obtain ⟨its,rv,⟨ob,nn,e1,e2,e3,e4⟩,_⟩:=I.list (.inl (.inl ha));obtain ⟨its',rv',⟨ob',nn',e1',e2',e3',e4'⟩,_⟩:=I.list (.inl (.inl hb));have hl:(its.toArray.size != its'.toArray.size)=true:=by
  have h1:=rv.length;have h2:=rv'.length;rw [ol.length] at h1;rw [ol'.length] at h2;simp only [BA,bne_iff_ne];omega
 exact ⟨SeqAt.RcAt.lists_lengths ⟨ob,e1,e2,nn,e4⟩ ⟨ob',e1',e2',nn',e4'⟩ hl (by omega),SeqAt.RcNeAt.lists_lengths ⟨ob,e1,e2,nn,e4⟩ ⟨ob',e1',e2',nn',e4'⟩ hl (by omega)⟩
def RZ {pins:List (Addr×Obj)}{s:Ah}{Z Z':Addr->Prop} (I:L2.Inv X pins σ H s) {d e:Nat}{v w:V}{f1 f2:List Addr}{u u':Ae}{A:AW} (hu:A.units < Cy) (o1:Own X.K H Z .emp d v f1) (o2:Own X.K H Z' .emp e w f2) (r1:RelV v u) (r2:RelV w u'):SeqAt.RcAt A s u u' true/\LI A s u u' false:=by
 rw [Own] at o1;rw [Own] at o2;obtain ⟨_,a,rfl,ha⟩:=o1;obtain ⟨_,b,rfl,hb⟩:=o2;cases r1;cases r2;obtain ⟨_,z1,vs,k1,d1⟩:=Ke I.hok ha;obtain ⟨_,z2,ws,k2,d2⟩:=Ke I.hok hb;cases k1;cases k2;exact ⟨λ prog w E Q hq=>PySem.W.keq_eq (knd:=Dc prog w) (r:=true) z1 z2 (IE d1) (IE d2) hu (λ _=>.nil) (by simpa using hq),λ prog w E Q hq=>PySem.W.keq_ne (knd:=Dc prog w) (r:=true) z1 z2 (IE d1) (IE d2) hu (λ _=>.nil) (by simpa using hq)⟩
def HQ (K:Frag) (neg:Bool):R2:=λ v w H Q=>∃ x y d e Z Z' f1 f2,Own K H Z x d v f1/\Own K H Z' y e w f2/\((∃ a b,Ck 20 x=some a/\Ck 20 y=some b/\Q (.bl (neg^^DU a b)) H)\/(∃ xs ys,x=.lst xs/\y=.lst ys/\DR (Ew 20) xs ys=true/\Q (.bl (neg^^true)) H)\/(∃ xs ys,x=.lst xs/\y=.lst ys/\xs.length≠ys.length/\Q (.bl (neg^^false)) H)\/(∃ a b,x=.str a/\y=.str b/\Q (.bl (neg^^(a == b))) H)\/(x=.emp/\y=.emp/\Q (.bl (neg^^true)) H)\/∃ xs ys,x=.tup xs/\y=.tup ys/\DR (Ew 20) xs ys=true/\Q (.bl (neg^^true)) H)
def VO (hu:X.A.units + 64 < Cy):OpR X (Cp .Eq) (HQ X.K false):=by
 intro pins s σ H v w u u' Q I rx ry h;obtain ⟨x,y,d,e,Z,Z',f1,f2,o1,o2,⟨a,b,h1,h2,q⟩ | ⟨xs,ys,rfl,rfl,h,q⟩ | ⟨xs,ys,rfl,rfl,h,q⟩ | ⟨a,b,rfl,rfl,q⟩ | ⟨rfl,rfl,q⟩ | ⟨xs,ys,rfl,rfl,h,q⟩⟩:=h
 ·obtain ⟨as,ra⟩:=FE I 20 x d v f1 u a h1 o1 rx;obtain ⟨bs,rb⟩:=FE I 20 y e w f2 u' b h2 o2 ry;have l1:=EY 20 x a h1;have l2:=EY 20 y b h2;exact SeqAt.compareEq_reads ra rb l1.1 l2.1 (by have:=Tg a.depth b.depth;omega) ⟨.bl _,H,I,rfl,by simpa using q⟩
 ·exact (Qc I hu h o1 o2 rx ry).1 _ _ _ _ ⟨.bl _,H,I,rfl,q⟩
 ·exact (Si I hu h o1 o2 rx ry).1 _ _ _ _ ⟨.bl _,H,I,rfl,q⟩
 ·rw [Own] at o1 o2;obtain ⟨rfl,_⟩:=o1;obtain ⟨rfl,_⟩:=o2;obtain ⟨t,rfl⟩:=rx;obtain ⟨t',rfl⟩:=ry;exact SeqAt.RcAt.str_str a t b t' _ _ _ _ ⟨.bl _,H,I,rfl,by simpa using q⟩
 ·exact (RZ I (by omega) o1 o2 rx ry).1 _ _ _ _ ⟨.bl _,H,I,rfl,q⟩
 ·exact (Pu I hu h o1 o2 rx ry).1 _ _ _ _ ⟨.bl _,H,I,rfl,q⟩
def V1 (hu:X.A.units + 64 < Cy):OpR X (Cp .NotEq) (HQ X.K true):=by
 intro pins s σ H v w u u' Q I rx ry h;obtain ⟨x,y,d,e,Z,Z',f1,f2,o1,o2,⟨a,b,h1,h2,q⟩ | ⟨xs,ys,rfl,rfl,h,q⟩ | ⟨xs,ys,rfl,rfl,h,q⟩ | ⟨a,b,rfl,rfl,q⟩ | ⟨rfl,rfl,q⟩ | ⟨xs,ys,rfl,rfl,h,q⟩⟩:=h
 ·obtain ⟨as,ra⟩:=FE I 20 x d v f1 u a h1 o1 rx;obtain ⟨bs,rb⟩:=FE I 20 y e w f2 u' b h2 o2 ry;have l1:=EY 20 x a h1;have l2:=EY 20 y b h2;exact SeqAt.compareNe_reads ra rb l1.1 l2.1 (by have:=Tg a.depth b.depth;omega) ⟨.bl _,H,I,rfl,by simpa using q⟩
 ·exact (Qc I hu h o1 o2 rx ry).2 _ _ _ _ ⟨.bl _,H,I,rfl,q⟩
 ·exact (Si I hu h o1 o2 rx ry).2 _ _ _ _ ⟨.bl _,H,I,rfl,q⟩
 ·rw [Own] at o1 o2;obtain ⟨rfl,_⟩:=o1;obtain ⟨rfl,_⟩:=o2;obtain ⟨t,rfl⟩:=rx;obtain ⟨t',rfl⟩:=ry;exact SeqAt.RcNeAt.str_str a t b t' _ _ _ _ ⟨.bl _,H,I,rfl,by simpa using q⟩
 ·exact (RZ I (by omega) o1 o2 rx ry).2 _ _ _ _ ⟨.bl _,H,I,rfl,q⟩
 ·exact (Pu I hu h o1 o2 rx ry).2 _ _ _ _ ⟨.bl _,H,I,rfl,q⟩
def PL {neg:Bool}{x y z:PV}{d e c:Nat}{v w:V}{fps:AB}{f1 f2 F:List Addr}{Z Z':Addr->Prop} (hK:M.K=X.K) (ho:Am neg x d y e=some (z,c)) (o1:Own M.K H Z x d v f1) (o2:Own M.K H Z' y e w f2) (lf:Bf M H fps vs F z c Q):HQ X.K neg v w H Q:=by
 rw [hK] at o1 o2;refine ⟨x,y,d,e,Z,Z',f1,f2,o1,o2,?_⟩;unfold Am at ho;split at ho
 ·rename_i a b ea eb;cases ho;exact .inl ⟨a,b,ea,eb,D8 lf⟩
 ·split at ho
  ·rename_i xs ys _;split at ho
   ·rename_i hc;cases ho;exact .inr (.inl ⟨xs,ys,rfl,rfl,hc,D8 lf⟩)
   ·split at ho
    ·rename_i hc;cases ho;exact .inr (.inr (.inl ⟨xs,ys,rfl,rfl,hc,D8 lf⟩))
    ·cases ho
  ·rename_i a b _;cases ho;exact .inr (.inr (.inr (.inl ⟨a,b,rfl,rfl,D8 lf⟩)))
  ·cases ho;exact .inr (.inr (.inr (.inr (.inl ⟨rfl,rfl,D8 lf⟩))))
  ·rename_i xs ys _;split at ho
   ·rename_i hc;cases ho;exact .inr (.inr (.inr (.inr (.inr ⟨xs,ys,rfl,rfl,hc,D8 lf⟩))))
   ·cases ho
  ·cases ho
def Ak:PV->Nat->PV->Nat->Option (PV×Nat)
 | .lst xs,_,.int i,_=>(Bj xs i).map λ z=>(z,dv z)
 | .tup xs,_,.int i,_=>(Bj xs i).map λ z=>(z,dv z)
 | .scr ns,_,.int i,_=>(Bj ns i).map λ z=>(.int z,om)
 | .str z,_,.int i,_=>if z.length<=An then (Bj z.cps.toList i).map λ c=>(.str ⟨#[c]⟩,om) else none
 | _,_,_,_=>none
theorem Ng {K:Frag}{Z:Addr->Prop}{xs:List PV}{ws:List V}{i:Int}{z:PV} (ol:OwnL K H Z xs 0 ws []) (e:Bj xs i=some z):∃ w,Bj ws i=some w/\Own K H Z z 0 w []:=by
 unfold Bj at e ⊢;rw [ol.length];cases ej:Bh xs.length i with
 | none=>rw [ej] at e;cases e
 | some j=>rw [ej] at e;exact ol.nth e
theorem RP (hv:∀ i∈vs,M.Ms i=false) (hK:M.K=X.K) (hs:Lz b) (ha:PE X a (tE M f vs)) (hb:PE X b (tE M g vs')):PE X (.Subscript a b pos) (tE M (Ab Ak f g) (vs++vs')):=by
 refine Bg (Kf R7 ha hb hs) λ σ H Q h=>DA hv (λ x d y e z c v w H fps f1 f2 Q ho o1 o2 dj nz zd lf=>?_) h;cases y with
 | int i=>
  rw [Own] at o2;cases x with
  | lst xs=>
   dsimp only [Ak] at ho;obtain ⟨z',ez,e2⟩:=jb0.mp ho;cases e2;obtain ⟨p,ws,rfl,hp,ol⟩:=(cold o1 λ a ha=>nz a (AY _ ha)).coldL;obtain ⟨w',e1,ow⟩:=Ng ol ez;exact .inl ⟨p,ws,i,w',rfl,o2.1,.inl (.inl hp),e1,Io lf ow⟩
  | tup xs=>
   dsimp only [Ak] at ho;obtain ⟨z',ez,e2⟩:=jb0.mp ho;cases e2;obtain ⟨p,ws,rfl,hp,ol⟩:=(cold o1 λ a ha=>nz a (AY _ ha)).coldT;obtain ⟨w',e1,ow⟩:=Ng ol ez;exact .inr (.inl ⟨p,ws,i,w',rfl,o2.1,.inl (.inl hp),e1,Io lf ow⟩)
  | scr ns=>
   dsimp only [Ak] at ho;obtain ⟨z',ez,e2⟩:=jb0.mp ho;cases e2;rw [Own] at o1;obtain ⟨_,p,rfl,hp⟩:=o1;refine .inl ⟨p,ns.map V.int,i,.int z',rfl,o2.1,?_,?_,Dq lf⟩
   ·rw [<- hK];exact hp.elim (λ h=>.inl (.inr h)) .inr
   ·unfold Bj at ez ⊢;rw [A9];cases ej:Bh ns.length i with
    | none=>rw [ej] at ez;cases ez
    | some j=>
     rw [ej] at ez;show (ns.map V.int)[j]?=_;rw [Cs]
     have:ns[j]?=some z':=ez
     rw [this];rfl
  | str z=>
   dsimp only [Ak] at ho;split at ho
   ·rename_i hl;obtain ⟨c',ez,e2⟩:=jb0.mp ho;cases e2;rw [Own] at o1;exact .inr (.inr ⟨z,i,c',o1.1,o2.1,hl,ez,Ld lf⟩)
   ·cases ho
  | _=>cases ho
 | _=>cases x <;> cases ho
def Jj:Option Fx->Ag->Rz (Option Int×Ag)
 | none,ρ=>.ok (none,ρ)
 | some f,ρ=>(f ρ).bind λ (x,_,ρ1)=>match x with
  | .int i=>.ok (some i,ρ1)
  | _=>.no
def D5 (xs:List PV) (lo hi:Option Int):List PV:=(xs.drop (HT.sIx xs.length 0 lo)).take (HT.sIx xs.length xs.length hi - HT.sIx xs.length 0 lo)
def HU (x:PV) (lo hi:Option Int):Option (PV×Nat):=match x with
 | .lst xs=>some (.lst (D5 xs lo hi),d1 (D5 xs lo hi))
 | .tup xs=>if HT.sIx xs.length 0 lo=0/\HT.sIx xs.length xs.length hi=xs.length then none else some (.tup (D5 xs lo hi),0)
 | .str z=>if z.length<=An then some (.str (Txt.slice z lo hi),om) else none
 | _=>none
def K7 (f:Fx) (lo hi:Option Fx):Fx:=λ ρ=>(f ρ).bind λ (x,_,ρ1)=>(Jj lo ρ1).bind λ (l,ρ2)=>(Jj hi ρ2).bind λ (u,ρ3)=>match HU x l u with
 | some (z,c)=>.ok (z,c,ρ3)
 | none=>.no
def tO (M:Fm):Option (Fx×List Nat)->TO
 | none=>Sz
 | some (f,vs)=>Rj (tE M f vs)
theorem SA {o:Option (Fx×List Nat)}{ρ:Ag}{fps:AB}{R:Option Int->Hp->Prop} (rep:Rep M ρ σ H fps)
  (q:match Jj (o.map (·.1)) ρ with
   | .ok (l,ρ')=>∀ H' fps',KD M H fps H' fps'->Agr M ρ ρ'->Rep M ρ' σ H' fps'->R l H'
   | .exc c=>∀ H' fps',KD M H fps H' fps'->M.W σ c H'
   | .no=>False):tO M o σ H R:=by
 cases o with
 | none=>exact q H fps KD.refl Agr.refl rep
 | some p=>
  obtain ⟨f,vs⟩:=p;refine ⟨ρ,fps,rep,?_⟩;dsimp only [SY,Jj] at q;cases ef:f ρ with
  | no=>rw [ef] at q;exact q
  | exc c=>rw [ef] at q;exact q
  | ok p=>
   obtain ⟨x,d,ρ1⟩:=p;rw [ef] at q;intro v H1 fps1 f1 k1 g1 rep1 o1 t1;dsimp only [Rz.bind] at q;cases x with
   | int i=>rw [Own] at o1;exact ⟨i,o1.1,q H1 fps1 k1 g1 rep1⟩
   | _=>exact q.elim
def JX:V->Option Int->Option Int->Hp->VK->Prop:=λ x lo hi H Q=>∃ z,x=.str z/\z.length<=An/\Q (.str (Txt.slice z lo hi)) H
theorem O0:SlR X JX:=by
 intro pins s σ H x v vl vu lo hi sl Q I rx hs pl pu h;obtain ⟨z,rfl,hz,q⟩:=h;obtain ⟨t,rfl⟩:=rx;have go:∀ (l u:Option (Int×Tok)),vl=partValue l->vu=partValue u->l.map (·.1)=lo->u.map (·.1)=hi->∃ T id,typeLookup (.type T) "__getitem__" = pure (some (.builtin id))/\s.TypeIs (.str z t) T/\Aq (Ap X.prog X.w) X.A (getItem (.str z t) (.ref sl)) (EP X pins σ Q) X.xe s:=by
  rintro l u rfl rfl rfl rfl;refine ⟨"str",_,F.slot_str_getitem.lookup,typeIs_str _ _ _,wpAny_getItem_str_slice (l:=l) (u:=u) (st:=none) hs rfl (post_val_or_str ⟨CT (Txt.slice_le z _ _) hz,λ t' k=>⟨.str _,H,I.tok _,⟨_,rfl⟩,q⟩⟩)⟩
 cases pl with
 | none=>
  cases pu with
  | none=>exact go none none rfl rfl rfl rfl
  | int j uj=>exact go none (some (j,uj)) rfl rfl rfl rfl
 | int i ui=>
  cases pu with
  | none=>exact go (some (i,ui)) none rfl rfl rfl rfl
  | int j uj=>exact go (some (i,ui)) (some (j,uj)) rfl rfl rfl rfl
theorem Oi {lo hi:Option (Fx×List Nat)} (hv:∀ i∈vs,M.Ms i=false) (hK:M.K=X.K) {σ:St}{H:Hp}{Q:VK} (hq:tE M (K7 f (lo.map (·.1)) (hi.map (·.1))) vs σ H Q):Q7 (λ x lo hi H Q=>JY X.K x lo hi H Q\/(JW X.K x lo hi H Q\/JX x lo hi H Q)) (tE M f vs) (tO M lo) (tO M hi) σ H Q:=by
 obtain ⟨ρ,fps,rep,q⟩:=hq;refine ⟨ρ,fps,rep,?_⟩;unfold K7 at q;cases ef:f ρ with
 | no=>rw [ef] at q;exact q
 | exc c=>rw [ef] at q;exact q
 | ok p=>
  obtain ⟨x,d,ρ1⟩:=p;rw [ef] at q;intro v H1 fps1 f1 k1 g1 rep1 o1 t1;dsimp only [Rz.bind] at q;refine SA rep1 ?_;cases el:Jj (lo.map (·.1)) ρ1 with
  | no=>rw [el] at q;exact q
  | exc c=>rw [el] at q;exact λ H' fps' k=>q H' fps' (k1.trans k)
  | ok p2=>
   obtain ⟨l,ρ2⟩:=p2;rw [el] at q;intro H2 fps2 k2 g2 rep2;refine SA rep2 ?_;dsimp only at q;cases eh:Jj (hi.map (·.1)) ρ2 with
   | no=>rw [eh] at q;exact q
   | exc c=>rw [eh] at q;exact λ H' fps' k=>q H' fps' ((k1.trans k2).trans k)
   | ok p3=>
    obtain ⟨u,ρ3⟩:=p3;rw [eh] at q;intro H3 fps3 k3 g3 rep3;dsimp only at q;have kk:=k2.trans k3;have o3:=kk.stay rep1 hv o1 t1.ndj;have n3:∀ a∈f1,¬ Zf M fps3 a:=λ a ha z=>by
     rcases z with z | ⟨i,z⟩
     ·exact t1.ndj a ha (.inl z)
     ·rcases kk.sub i a z with z | z
      ·exact t1.ndj a ha (.inr ⟨i,z⟩)
      ·obtain ⟨xs,e⟩:=Own.lsts x d v f1 o1 a ha;rw [z] at e;cases e
    have back:∀ a,H3 a=none->H a=none:=λ a e=>by
     cases e':H a with
     | none=>rfl
     | some o=>exact absurd e ((k1.trans kk).dom a (by rw [e'];simp))
    cases eo:HU x l u with
    | none=>rw [eo] at q;exact q.elim
    | some zc=>
     obtain ⟨z,c⟩:=zc;rw [eo] at q;have lf:Bf M H3 fps3 vs f1 z c Q:=λ w H4 fp k4 o4 hfp=>q w H4 fps3 fp ((k1.trans kk).trans (KD.grow k4)) (g1.trans (g2.trans g3)) (rep3.grow k4) o4 ⟨λ a ha=>(hfp a ha).elim (t1.new a) (back a),λ a ha=>(hfp a ha).elim (n3 a) λ z=>rep3.nz z⟩;have c0:=cold o3 n3;unfold HU at eo;cases x with
     | lst xs=>
      cases eo;obtain ⟨p,ws,rfl,hp,ol⟩:=c0.coldL;refine .inl ⟨p,ws,rfl,.inl (.inl hp),λ q hq=>?_⟩;have e:OwnL M.K H3 (Zv M vs fps3) (D5 xs l u) 0 (C9 ws l u) []:=by
       unfold D5 C9;rw [ol.length];exact (ol.drop _).take _
      exact Ir lf e hq
     | tup xs=>
      dsimp only at eo;split at eo
      ·cases eo
      ·rename_i hw;cases eo;obtain ⟨p,ws,rfl,hp,ol⟩:=c0.coldT;refine .inr (.inl ⟨p,ws,rfl,.inl (.inl hp),by rw [ol.length];exact hw,λ q hq=>?_⟩);have e:OwnL M.K H3 (Zv M vs fps3) (D5 xs l u) 0 (C9 ws l u) []:=by
        unfold D5 C9;rw [ol.length];exact (ol.drop _).take _
       exact Le lf e hq
     | str z=>
      dsimp only at eo;split at eo
      ·rename_i hz;cases eo;rw [Own] at o3;exact .inr (.inr ⟨z,o3.1,hz,Ld lf⟩)
      ·cases eo
     | _=>cases eo
def J1:PV->String
 | .non => "NoneType"
 | .bl _ => "bool"
 | .int _ => "int"
 | .str _ => "str"
 | .lst _ => "list"
 | .tup _ => "tuple"
 | .emp => "dict"
 | .dko => "dict"
 | .dct _ => "dict"
 | _ => ""
def Ic (t T:String):Bool:=t == T || (t == "bool" && T == "int")
def Gp:List String:=["int","bool","str","list","tuple","dict"]
def EC (T:String) (x:PV) (_:Nat):Option (PV×Nat):=match x with
 | .scr _=>none
 | .exn _=>none
 | _=>some (.bl (Ic (J1 x) T),om)
theorem Own.ty {K:Frag}{Z:Addr->Prop}{x:PV}{d:Nat}{v:V}{fp:List Addr} (h:Own K H Z x d v fp) (hs:∀ ns,x≠.scr ns) (hx:∀ c,x≠.exn c):TyOf K H v (.type (J1 x)):=by
 cases x with
 | non=>rw [Own] at h;rw [h.1];exact .non
 | bl b=>rw [Own] at h;rw [h.1];exact .bl b
 | int i=>rw [Own] at h;rw [h.1];exact .int i
 | str s=>rw [Own] at h;rw [h.1];exact .str s
 | emp=>rw [Own] at h;obtain ⟨_,a,e,ha⟩:=h;rw [e];exact .dK ha
 | dko=>rw [Own] at h;obtain ⟨_,a,e,_,ha⟩:=h;rw [e];exact .dK ha
 | scr ns=>exact absurd rfl (hs ns)
 | exn c=>exact absurd rfl (hx c)
 | dct kvs=>
  rw [Own] at h;obtain ⟨a,e,⟨_,hr,_⟩ | ⟨_,ha,_⟩⟩:=h
  ·rw [e];exact .dT hr.1
  ·rw [e];exact .dT ha
 | lst xs=>
  rw [Own] at h;obtain ⟨a,ws,e,⟨_,hr,_,_⟩ | ⟨_,f,ha,_⟩⟩:=h
  ·rw [e];exact .lst hr.1
  ·rw [e];exact .lst ha
 | tup xs=>
  rw [Own] at h;obtain ⟨a,ws,e,hr,_⟩:=h;rw [e];exact .tup hr
end
section
variable {X:Cx}{M:Fm}{a b:Expr}{f g:Fx}{fa:Fa}{vs vs':List Nat}{pos p:Pos}{σ:St}{H:Hp}{Q:VK}{e:Expr}{es:List Expr}
def VH:PA X [] (tL M Ac []):=RA FK λ σ H Q h=>VS h
def WZ (hv:∀ i∈vs,M.Ms i=false) (ha:PE X e (tE M f vs)) (hr:PA X es (tL M fa vs')) (hs:Ax (e::es) X.env=(false,eval e X.env)::Ax es X.env):PA X (e::es) (tL M (Ad f fa) (vs++vs')):=
 RA (Dp ha hr hs) λ σ H Q h=>Xn hv h
def GD {op:List (PV×Nat)->Option (PV×Nat)}{r:List V->Hp->VK->Prop}
  (leaf:∀ xs z c ws H fps fp Q,op xs=some (z,c)->Tmps M.K H (Zv M vs fps) xs ws fp->(∀ a∈fp,¬ Zf M fps a)->(∀ a,Zf M fps a->H a≠none)->Bf M H fps vs fp z c Q->r ws H Q)
  {σ:St}{H:Hp}{Q:VK} (hq:tE M (Aj op fa) vs σ H Q):NS r (tL M fa vs) σ H Q:=LD leaf hq
def AM (xs:List (PV×Nat)):Option (PV×Nat):=if xs.length<=An then some (.lst (xs.map (·.1)),if DM xs then om else 1) else none
def Bu (xs:List (PV×Nat)):Option (PV×Nat):=if xs.length<=An then some (.tup (xs.map (·.1)),if DM xs then om else 0) else none
def Wt (h:PA X es (tL M fa vs)):PE X (.List es pos) (tE M (Aj AM fa) vs):=by
 refine Bg (RE h) λ σ H Q h=>LD (r:=λ xs H1 Q=>xs.length<=An/\∀ p,H1 p=none->Q (.ref p) (Ao H1 p (.lst xs))) (λ xs z c ws H fps fp Q ho tm nz zd lf=>?_) h;unfold AM at ho;split at ho
 ·rename_i hl;refine ⟨by rw [tm.length];exact hl,λ q hq=>?_⟩;cases eo:DM xs with
  | true=>rw [eo] at ho;cases ho;exact MU lf (tm.all (L4 eo)) hq
  | false=>rw [eo] at ho;cases ho;exact MY lf (tm.cold λ a ha z=>nz a ha z.zf) hq
 ·cases ho
def Ww {x1:_} (h:PA X es (tL M fa vs)):PE X (.Tuple es x1 pos) (tE M (Aj Bu fa) vs):=by
 refine Bg (RL h) λ σ H Q h=>LD (r:=λ xs H1 Q=>xs.length<=An/\∀ p,H1 p=none->Q (.ref p) (Ao H1 p (.tup xs))) (λ xs z c ws H fps fp Q ho tm nz zd lf=>?_) h;unfold Bu at ho;split at ho
 ·rename_i hl;refine ⟨by rw [tm.length];exact hl,λ q hq=>?_⟩;cases eo:DM xs with
  | true=>rw [eo] at ho;cases ho;exact YW lf (tm.all (L4 eo)) hq
  | false=>rw [eo] at ho;cases ho;exact Le lf (tm.cold λ a ha z=>nz a ha z.zf) hq
 ·cases ho
def XJ:zzh X (.builtin "isinstance") (λ xs H Q=>∃ x t T k,xs=[x,.ty T]/\TyOf X.K H x t/\DV X.K t (.type T)=some k/\Q (.bl k) H):=by
 intro pins s σ H xs us Q I r h;obtain ⟨x,t,T,k,rfl,ty,hk,q⟩:=h;obtain ⟨u,w,rfl,r1,r2⟩:=IX r;cases r2;exact Zi I r1 ty hk λ tk=>⟨.bl k,H,I.tok _,rfl,q⟩
theorem Vn (K:Frag) {T:String} (hT:T∈Gp) (x:PV) (hs:∀ ns,x≠.scr ns) (hx:∀ c,x≠.exn c):DV K (.type (J1 x)) (.type T)=some (Ic (J1 x) T):=by
 simp only [Gp,jb3,OL,or_false] at hT;cases x with
 | scr ns=>exact absurd rfl (hs ns)
 | exn c=>exact absurd rfl (hx c)
 | _=>rcases hT with h | h | h | h | h | h <;> subst h <;> rfl
def Wr {T:String}{x T':Str}{p1 p2:Pos} (hT:T∈Gp) (hK:M.K=X.K) (ha:PE X e (tE M f vs)) (hg:Gl X "isinstance") (hm:X.mg "isinstance" = none) (hT':PE X (.Name T' p2) (tC (.ty T)))
  (hs1:Ax [e,.Name T' p2] X.env=[(false,eval e X.env),(false,eval (.Name T' p2) X.env)]) (hs2:Ax [Expr.Name T' p2] X.env=[(false,eval (.Name T' p2) X.env)]):
  PE X (.Call (.Name "isinstance" p1) [e,.Name T' p2] [] pos) (tE M (Au (EC T) f) vs):=by
 refine Bg (GB XJ hg hm rfl (Dp ha (Dp hT' FK hs2) (by rw [hs1,hs2])) (he:=by rw [hs1,hs2]) (hpl:=by rw [hs2];rfl)) λ σ H Q h=>?_;refine Kh (r:=λ v H Q=>∃ x t T' k,[v,.ty T]=[x,.ty T']/\TyOf X.K H x t/\DV X.K t (.type T')=some k/\Q (.bl k) H) (λ x d z c v H fps f1 Q ho o1 nz zd lf=>?_) h;have hs:∀ ns,x≠.scr ns:=λ ns e=>by subst e;cases ho
 have hx:∀ c,x≠.exn c:=λ c e=>by subst e;cases ho
 have e2:z=.bl (Ic (J1 x) T):=by
  cases x with
  | scr ns=>cases ho
  | exn c=>cases ho
  | _=>cases ho;rfl
 subst e2;exact ⟨v,_,T,_,rfl,by rw [<- hK];exact o1.ty hs hx,Vn X.K hT x hs hx,D8 lf⟩
def BM:List (PV×Nat)->Option (PV×Nat)
 | [(.lst xs,_)]=>some (.int xs.length,om)
 | [(.tup xs,_)]=>some (.int xs.length,om)
 | [(.scr ns,_)]=>some (.int ns.length,om)
 | [(.str z,_)]=>if z.length<=An then some (.int z.length,om) else none
 | _=>none
def Ws (hK:M.K=X.K) (hg:Gl X "len") (hm:X.mg "len" = none) (ha:PA X (e::es) (tL M fa vs)) (he:Ax (e::es) X.env=(false,eval e X.env)::Ax es X.env) (hpl:(Cz pos (Ax es X.env)).any (·.1)=false):
  PE X (.Call (.Name "len" p) (e::es) [] pos) (tE M (Aj BM fa) vs):=by
 refine Bg (GB (zfq.or Uo) hg hm PySem.boot_len ha (he:=he) (hpl:=hpl)) λ σ H Q h=>GD (λ xs z c ws H fps fp Q ho tm nz zd lf=>?_) h;unfold BM at ho;split at ho
 ·rename_i xs d;cases ho;obtain ⟨v,r,f1,f2,rfl,_,_,o1,h2⟩:=tm;obtain ⟨rfl,_⟩:=h2;obtain ⟨q,us,rfl,hs,hl⟩:=o1.seqL;exact .inl ⟨q,us,rfl,.inl (by rw [<- hK];exact hs),by rw [hl];exact Dq lf⟩
 ·rename_i xs d;cases ho;obtain ⟨v,r,f1,f2,rfl,_,_,o1,h2⟩:=tm;obtain ⟨rfl,_⟩:=h2;obtain ⟨q,us,rfl,hs,hl⟩:=o1.seqT;exact .inl ⟨q,us,rfl,.inr (by rw [<- hK];exact hs),by rw [hl];exact Dq lf⟩
 ·rename_i ns d;cases ho;obtain ⟨v,r,f1,f2,rfl,_,_,o1,h2⟩:=tm;obtain ⟨rfl,_⟩:=h2;rw [Own] at o1;obtain ⟨_,q,rfl,hp⟩:=o1;refine .inl ⟨q,ns.map V.int,rfl,.inl ?_,by rw [A9];exact Dq lf⟩;rw [<- hK];exact hp.elim (λ h=>.inl (.inr h)) .inr
 ·rename_i z d;split at ho
  ·rename_i hl;cases ho;obtain ⟨v,r,f1,f2,rfl,_,_,o1,h2⟩:=tm;obtain ⟨rfl,_⟩:=h2;rw [Own] at o1;obtain ⟨rfl,_⟩:=o1;exact .inr ⟨_,rfl,hl,Dq lf⟩
  ·cases ho
 ·cases ho
def M1 (k:Int->Int->Int):List (PV×Nat)->Option (PV×Nat)
 | [(.int i,_),(.int j,_)]=>some (.int (k i j),om)
 | _=>none
def PM {k:Int->Int->Int}{xs:List (PV×Nat)}{z:PV}{c:Nat}{ws:List V}{fps:AB}{fp F:List Addr}{Z:Addr->Prop} (ho:M1 k xs=some (z,c)) (tm:Tmps M.K H Z xs ws fp) (lf:Bf M H fps vs F z c Q):∃ i j,ws=[.int i,.int j]/\Q (.int (k i j)) H:=by
 unfold M1 at ho;split at ho
 ·rename_i i d j e;cases ho;obtain ⟨v,r,f1,f2,rfl,_,_,o1,h2⟩:=tm;obtain ⟨v2,r2,f3,f4,rfl,_,_,o2,h3⟩:=h2;obtain ⟨rfl,_⟩:=h3;rw [Own] at o1 o2;obtain ⟨rfl,_⟩:=o1;obtain ⟨rfl,_⟩:=o2;exact ⟨_,_,rfl,Dq lf⟩
 ·cases ho
def Fd:List (PV×Nat)->Option (PV×Nat)
 | [(.lst xs,_)]=>some (.tup xs,0)
 | [(.tup xs,_)]=>some (.tup xs,0)
 | _=>none
def IJ:List (PV×Nat)->Option (PV×Nat)
 | [(.lst xs,_)]=>some (.lst xs,d1 xs)
 | [(.tup xs,_)]=>some (.lst xs,d1 xs)
 | _=>none
def Xj (hK:M.K=X.K) (hg:Gl X "tuple") (hm:X.mg "tuple" = none) (ha:PA X (e::es) (tL M fa vs)) (he:Ax (e::es) X.env=(false,eval e X.env)::Ax es X.env) (hpl:(Cz pos (Ax es X.env)).any (·.1)=false):
  PE X (.Call (.Name "tuple" p) (e::es) [] pos) (tE M (Aj Fd fa) vs):=by
 refine Bg (Nb Uc hg hm rfl ha (he:=he) (hpl:=hpl)) λ σ H Q h=>GD (λ xs z c ws H fps fp Q ho tm nz zd lf=>?_) h;unfold Fd at ho;split at ho
 ·rename_i xs d;cases ho;obtain ⟨v,r,f1,f2,rfl,rfl,_,o1,h2⟩:=tm;obtain ⟨rfl,rfl⟩:=h2;obtain ⟨q,us,rfl,hs,ol⟩:=(cold (fp:=f1) o1 λ a ha=>nz a (AY _ ha)).coldL;exact ⟨q,us,rfl,.inl ⟨.inl (.inl hs),λ l hl=>Le lf ol hl⟩⟩
 ·rename_i xs d;cases ho;obtain ⟨v,r,f1,f2,rfl,rfl,_,o1,h2⟩:=tm;obtain ⟨rfl,rfl⟩:=h2;have c0:=cold (fp:=f1) o1 λ a ha=>nz a (AY _ ha);obtain ⟨q,us,rfl,hs,ol⟩:=c0.coldT;exact ⟨q,us,rfl,.inr ⟨.inl (.inl hs),Io (x:=.tup xs) lf c0⟩⟩
 ·cases ho
def Xe (hK:M.K=X.K) (hg:Gl X "list") (hm:X.mg "list" = none) (ha:PA X (e::es) (tL M fa vs)) (he:Ax (e::es) X.env=(false,eval e X.env)::Ax es X.env) (hpl:(Cz pos (Ax es X.env)).any (·.1)=false):
  PE X (.Call (.Name "list" p) (e::es) [] pos) (tE M (Aj IJ fa) vs):=by
 refine Bg (Nb Up hg hm rfl ha (he:=he) (hpl:=hpl)) λ σ H Q h=>GD (λ xs z c ws H fps fp Q ho tm nz zd lf=>?_) h;unfold IJ at ho;split at ho
 ·rename_i xs d;cases ho;obtain ⟨v,r,f1,f2,rfl,rfl,_,o1,h2⟩:=tm;obtain ⟨rfl,rfl⟩:=h2;obtain ⟨q,us,rfl,hs,ol⟩:=(cold (fp:=f1) o1 λ a ha=>nz a (AY _ ha)).coldL;exact ⟨q,us,rfl,.inl (.inl (.inl hs)),λ l hl=>Ir lf ol hl⟩
 ·rename_i xs d;cases ho;obtain ⟨v,r,f1,f2,rfl,rfl,_,o1,h2⟩:=tm;obtain ⟨rfl,rfl⟩:=h2;obtain ⟨q,us,rfl,hs,ol⟩:=(cold (fp:=f1) o1 λ a ha=>nz a (AY _ ha)).coldT;exact ⟨q,us,rfl,.inr (.inl (.inl hs)),λ l hl=>Ir lf ol hl⟩
 ·cases ho
end
section
variable {X:Cx}{M:Fm}{a b:Expr}{f g:Fx}{fa:Fa}{vs vs':List Nat}{pos p:Pos}{σ:St}{H:Hp}{Q:VK}{e:Expr}{es:List Expr}
def XI (hc:X.calm=true):zzh X (.builtin "all") (λ xs H Q=>∃ (p:Addr) (bs:List Bool),xs=[.ref p]/\BU X.K H p (bs.map V.bl)/\Q (.bl (bs.all id)) H):=by
 intro pins s σ H xs us Q I r h;obtain ⟨p,bs,rfl,hq,q⟩:=h;obtain ⟨u,rfl,rx⟩:=Ey r;cases rx;obtain ⟨its,rv,pl,hz⟩:=I.list hq;have hl:=rv.length;rw [A9] at hl;refine call_all_walk (wpAny_pyIter_list pl.isList ?_);have hlt:p < s.heap.objs.size:=by obtain ⟨o,n,e,_⟩:=pl;exact AZ e
 have hne:p≠s.heap.objs.size:=Cc hlt;refine ⟨s.heap.objs.size,_,_,its.toArray.size,_,_,λ i=>bs.getD i true,rfl,Walks.list (A:=X.A.in1) (show X.A.in1.handled=none from I.ok.hd hc) s.heap.objs.size p hne its.toArray,⟨⟨_,DX _ rfl,rfl,rfl⟩,?_⟩,?_,λ h' tk k=>?_⟩
 ·exact pl.isList.at λ o e=>CP _ e
 ·intro i v s' Q' E' hv hq';have hv':its[i]?=some v:=by simpa using hv
  have hi:i < bs.length:=by rw [hl];exact (ja7.mp hv').1
  obtain ⟨w,e1,e2⟩:=rv.get (i:=i) (x:=.bl bs[i]) (by simp [hi]);rw [hv'] at e1;cases e1;cases e2;refine FR ?_
  have:bs.getD i true=bs[i]:=by simp [OB,hi]
  dsimp only at hq';rw [this] at hq';exact hq'
 ·have I1:L2.Inv X pins σ H { s with heap:=s.heap.push { cls:=.type "list_iterator",data:=.fields #[.ref p,rawInt 0] } }:=I.kept (t':=s.toks) λ b o e=>CP _ e;obtain ⟨f0,f1,f2,f3,f4,f5⟩:=I.fpOk (H':=H) (Bc s.heap.objs.size) (I.hok.fresh (Bc _));have I2:L2.Inv X pins σ H { s with heap:=h',toks:=tk }:=I1.turned (t':=tk) (λ b o hb e=>k b o (by simpa using hb) e) f0 f1 f3 f4 f5;refine ⟨.bl _,H,I2,rfl,?_⟩;have e:(Bb its.toArray.size).all (λ i=>bs.getD i true)=bs.all id:=by
   rw [BA,<- hl];rw [Je];simp only [jc4,jd5,id];constructor
   ·intro h x hx;obtain ⟨i,hi,rfl⟩:=Ji hx
    have:=h i hi
    simpa [OB,hi] using this
   ·intro h i hi;simp [OB,hi];exact h _ (HY hi)
  rw [e];exact q
def allB:List PV->Option (List Bool)
 | []=>some []
 | .bl b::r=>(allB r).map (b::·)
 | _=>none
def DP:List (PV×Nat)->Option (PV×Nat)
 | [(.lst xs,_)]=>(allB xs).map λ bs=>(.bl (bs.all id),om)
 | _=>none
theorem SQ {K:Frag}{Z:Addr->Prop}:∀ {xs:List PV}{ws:List V}{bs:List Bool},allB xs=some bs->OwnL K H Z xs 0 ws []->ws=bs.map V.bl
 | [],ws,bs,e,h=>by cases e;rw [OwnL] at h;exact h.1
 | .bl b::r,ws,bs,e,h=>by
  obtain ⟨bs',e1,rfl⟩:=jb0.mp e;rw [OwnL] at h;obtain ⟨v,s,f1,f2,rfl,ef,dj,h1,h2⟩:=h;obtain ⟨rfl,rfl⟩:f1=[]/\f2=[]:=by simpa using ef.symm
  rw [Own] at h1;rw [h1.1,SQ e1 h2];rfl
 | .non::_,_,_,e,_=>by cases e
 | .int _::_,_,_,e,_=>by cases e
 | .str _::_,_,_,e,_=>by cases e
 | .lst _::_,_,_,e,_=>by cases e
 | .tup _::_,_,_,e,_=>by cases e
 | .emp::_,_,_,e,_=>by cases e
 | .dko::_,_,_,e,_=>by cases e
 | .scr _::_,_,_,e,_=>by cases e
 | .dct _::_,_,_,e,_=>by cases e
 | .exn _::_,_,_,e,_=>by cases e
def VL (hc:X.calm=true) (hg:Gl X "all") (hm:X.mg "all" = none) (ha:PA X (e::es) (tL M fa vs)) (he:Ax (e::es) X.env=(false,eval e X.env)::Ax es X.env) (hpl:(Cz pos (Ax es X.env)).any (·.1)=false):
  PE X (.Call (.Name "all" p) (e::es) [] pos) (tE M (Aj DP fa) vs):=by
 refine Bg (GB (XI hc) hg hm rfl ha (he:=he) (hpl:=hpl)) λ σ H Q h=>GD (λ xs z c ws H fps fp Q ho tm nz zd lf=>?_) h;unfold DP at ho;split at ho
 ·rename_i xs d;obtain ⟨bs,eb,e2⟩:=jb0.mp ho;cases e2;obtain ⟨v,r,f1,f2,rfl,rfl,_,o1,h2⟩:=tm;obtain ⟨rfl,rfl⟩:=h2;obtain ⟨q,us,rfl,hs,ol⟩:=(cold (fp:=f1) o1 λ a ha=>nz a (AY _ ha)).coldL
  have:=SQ eb ol
  subst this;exact ⟨q,bs,rfl,.inl (.inl hs),D8 lf⟩
 ·cases ho
def IH:List PV->Option (List Int)
 | []=>some []
 | .int i::r=>(IH r).map (i::·)
 | _=>none
theorem Jq {K:Frag}{Z:Addr->Prop}:∀ {xs:List PV}{ws:List V}{ns:List Int},IH xs=some ns->OwnL K H Z xs 0 ws []->ws=ns.map V.int
 | [],ws,ns,e,h=>by cases e;rw [OwnL] at h;exact h.1
 | .int b::r,ws,ns,e,h=>by
  obtain ⟨ns',e1,rfl⟩:=jb0.mp e;rw [OwnL] at h;obtain ⟨v,s,f1,f2,rfl,ef,dj,h1,h2⟩:=h;obtain ⟨rfl,rfl⟩:f1=[]/\f2=[]:=by simpa using ef.symm
  rw [Own] at h1;rw [h1.1,Jq e1 h2];rfl
 | .non::_,_,_,e,_=>by cases e
 | .bl _::_,_,_,e,_=>by cases e
 | .str _::_,_,_,e,_=>by cases e
 | .lst _::_,_,_,e,_=>by cases e
 | .tup _::_,_,_,e,_=>by cases e
 | .emp::_,_,_,e,_=>by cases e
 | .dko::_,_,_,e,_=>by cases e
 | .scr _::_,_,_,e,_=>by cases e
 | .dct _::_,_,_,e,_=>by cases e
 | .exn _::_,_,_,e,_=>by cases e
theorem Jr:∀ {ns:List Int}{its:List Ae},Vals (ns.map V.int) its->∃ xs:List (Int×Tok),its=xs.map (λ p=>Value.int p.1 p.2)/\xs.map (·.1)=ns
 | [],its,h=>by cases h;exact ⟨[],rfl,rfl⟩
 | n::ns,its,h=>by
  cases h with
  | cons r rr=>
   obtain ⟨t,rfl⟩:=r;obtain ⟨xs,rfl,rfl⟩:=Jr rr;exact ⟨(n,t)::xs,rfl,rfl⟩
def YH (hc:X.calm=true):zzh X (.builtin "min") (λ xs H Q=>∃ (p:Addr) (ns:List Int),xs=[.ref p]/\BU X.K H p (ns.map V.int)/\ns≠[]/\∀ m,m∈ns->(∀ a∈ns,m<=a)->Q (.int m) H):=by
 intro pins s σ H xs us Q I r h;obtain ⟨p,ns,rfl,hq,hn,q⟩:=h;obtain ⟨u,rfl,rx⟩:=Ey r;cases rx;obtain ⟨its,rv,pl,hz⟩:=I.list hq;obtain ⟨zs,rfl,rfl⟩:=Jr rv;have e:(zs.map λ p=>Value.int p.1 p.2).toArray=DT zs.toArray:=by simp [DT]
 rw [e] at pl;have h0:0 < zs.length:=by
  cases zs with
  | nil=>exact absurd rfl hn
  | cons _ _=>simp
 refine min_intList (I.ok.hd hc) pl.isList (by simpa using h0) λ v h' tk hv k=>?_;obtain ⟨l1,l2⟩:=argBest_lt (Cj zs.toArray) (zs.toArray.size - 1);have hv':=hv;obtain ⟨t,rfl⟩:=LG hv;have at':∀ j,j < zs.length->Cj zs.toArray j∈zs.map (·.1):=λ j hj=>by
  unfold Cj;simp [hj];exact ⟨_,HY hj⟩
 refine ⟨.int _,H,I.kept (t':=tk) k,⟨t,rfl⟩,q _ (at' _ ?_) λ a ha=>?_⟩
 ·have:zs.toArray.size=zs.length:=by simp
  omega
 ·obtain ⟨z,hz,rfl⟩:=je0.mp ha;obtain ⟨j,hj,rfl⟩:=Ji hz;have hzs:zs.toArray.size=zs.length:=by simp
  have:=l2 j (by omega)
  have e:Cj zs.toArray j=zs[j].1:=by unfold Cj;simp [hj]
  rw [e] at this;exact this
def ZH {prog:A3}{w:Az}{A:AW}{E:Ae->Ah->Prop}{s:Ah}{l:Addr}{xs:Array (Int×Tok)}{Q:Ae->Ah->Prop} (hh:A.handled=none) (hl:s.heap.IsTuple l (DT xs)) (hne:0 < xs.size)
  (h:∀ v h' tk,(DT xs)[argBest (λ i j=>decide (Cj xs i < Cj xs j)) (xs.size - 1)]?=some v->(∀ b o,s.heap.get? b=some o->h'.get? b=some o)->Q v { s with heap:=h',toks:=tk }):
  Aq (Ap prog w) A (call (.builtin "min") [.ref l]) Q E s:=by
 have hlt:l < s.heap.objs.size:=by obtain ⟨_,e,_⟩:=hl;exact AZ e
 refine call_min_walk (wpAny_pyIter_tuple hl ?_);refine ⟨_,[_,l],[_],_,_,_,_,rfl,Walks.tuple (A:=A.in1) hh _ l (Cc hlt) (DT xs),⟨⟨_,DX _ rfl,rfl,rfl⟩,hl.push _⟩,λ c hc=>?_,by simpa [DT] using hne,CmpOf.ints_lt (Cj xs) (λ _ _=>LG),λ v h' tk hP hk=>?_⟩
 ·show c < (s.heap.push _).objs.size;rw [JK];rcases jb3.mp hc with rfl | hc
  ·exact M8 _
  ·rcases jb3.mp hc with rfl | hc
   ·exact MA hlt
   ·cases hc
 ·exact h v h' tk (by simpa [DT] using hP) λ c o e=>by
   refine hk c o (λ hm=>?_) (CP _ e);rcases jb3.mp hm with e1 | hm
   ·exact absurd (e1 ▸ AZ e) (EK _)
   ·cases hm
def YI (hc:X.calm=true):zzh X (.builtin "min") (λ xs H Q=>∃ (p:Addr) (ns:List Int),xs=[.ref p]/\CA X.K H p (ns.map V.int)/\ns≠[]/\∀ m,m∈ns->(∀ a∈ns,m<=a)->Q (.int m) H):=by
 intro pins s σ H xs us Q I r h;obtain ⟨p,ns,rfl,hq,hn,q⟩:=h;obtain ⟨u,rfl,rx⟩:=Ey r;cases rx;obtain ⟨its,rv,pl,hz⟩:=I.tuple hq;obtain ⟨zs,rfl,rfl⟩:=Jr rv;have e:(zs.map λ p=>Value.int p.1 p.2).toArray=DT zs.toArray:=by simp [DT]
 rw [e] at pl;have h0:0 < zs.length:=by
  cases zs with
  | nil=>exact absurd rfl hn
  | cons _ _=>simp
 refine ZH (I.ok.hd hc) pl (by simpa using h0) λ v h' tk hv k=>?_;obtain ⟨l1,l2⟩:=argBest_lt (Cj zs.toArray) (zs.toArray.size - 1);have hv':=hv;obtain ⟨t,rfl⟩:=LG hv;have at':∀ j,j < zs.length->Cj zs.toArray j∈zs.map (·.1):=λ j hj=>by
  unfold Cj;simp [hj];exact ⟨_,HY hj⟩
 refine ⟨.int _,H,I.kept (t':=tk) k,⟨t,rfl⟩,q _ (at' _ ?_) λ a ha=>?_⟩
 ·have:zs.toArray.size=zs.length:=by simp
  omega
 ·obtain ⟨z,hz,rfl⟩:=je0.mp ha;obtain ⟨j,hj,rfl⟩:=Ji hz;have hzs:zs.toArray.size=zs.length:=by simp
  have:=l2 j (by omega)
  have e:Cj zs.toArray j=zs[j].1:=by unfold Cj;simp [hj]
  rw [e] at this;exact this
def Oh (ns:List Int):Bool:=decide (ns.length<=2 ^ 20) && ns.all λ i=>decide (-(2 ^ 40)<=i) && decide (i<=2 ^ 40)
theorem Zs {ns:List Int} (h:∀ i∈ns,-(2 ^ 40)<=i/\i<=2 ^ 40):∀ j:Nat,-(2 ^ 40) * (j:Int)<=(ns.take j).sum/\(ns.take j).sum<=2 ^ 40 * (j:Int):=by
 induction ns with
 | nil=>intro j;rw [OH,Tc];omega
 | cons n ns ih=>
  intro j;cases j with
  | zero=>rw [OJ,Tc];omega
  | succ j=>
   have:=ih (λ i hi=>h i (AA _ hi)) j
   have hn:=h n AI;rw [OQ,List.sum_cons];omega
def YJ (hc:X.calm=true):zzh X (.builtin "sum") (λ xs H Q=>∃ (p:Addr) (ns:List Int),xs=[.ref p]/\BU X.K H p (ns.map V.int)/\Oh ns=true/\Q (.int ns.sum) H):=by
 intro pins s σ H xs us Q I r h;obtain ⟨p,ns,rfl,hq,hn,q⟩:=h;obtain ⟨u,rfl,rx⟩:=Ey r;cases rx;obtain ⟨its,rv,pl,hz⟩:=I.list hq;obtain ⟨zs,rfl,rfl⟩:=Jr rv;have e:(zs.map λ p=>Value.int p.1 p.2).toArray=DT zs.toArray:=by simp [DT]
 rw [e] at pl;unfold Oh at hn;rw [AL] at hn;have hl:(zs.map (·.1)).length<=2 ^ 20:=by simpa using hn.1
 have hb:∀ i∈zs.map (·.1),-(2 ^ 40)<=i/\i<=2 ^ 40:=λ i hi=>by
  have:=jc4.mp hn.2 i hi
  rw [AL] at this;exact ⟨of_decide_eq_true this.1,of_decide_eq_true this.2⟩
 have sz:zs.toArray.size=zs.length:=by simp
 rw [A9] at hl;have pre:∀ j,preSum (Cj zs.toArray) j=((zs.map (·.1)).take j).sum:=λ j=>by
  rw [preSum_eq]
 refine sum_intList (I.ok.hd hc) pl.isList (λ j hj=>⟨?_,?_⟩) λ h' tk t' k=>⟨.int _,H,I.kept (t':=tk) k,⟨t',rfl⟩,?_⟩
 ·have e1:Cj zs.toArray j=zs[j].1:=by unfold Cj;simp [show j < zs.length by omega]
  have:=hb (zs[j]'(by omega)).1 (je0.mpr ⟨_,HY _,rfl⟩)
  rw [e1];unfold InLong;omega
 ·have:=Zs hb (j + 1)
  rw [pre];unfold InLong;omega
 ·rw [pre,sz]
  have:((zs.map (·.1)).take zs.length)=zs.map (·.1):=by
   rw [T1];simp
  rw [this];exact q
def D4:Int->List Int->Int
 | n,[]=>n
 | n,m::r=>D4 (if m < n then m else n) r
theorem MM:∀ (r:List Int) (n:Int),D4 n r∈n::r
 | [],n=>AI
 | m::r,n=>by
  unfold D4
  have:=MM r (if m < n then m else n)
  rcases jb3.mp this with h | h
  ·rw [h];split
   ·exact AA _ AI
   ·exact AI
  ·exact AA _ (AA _ h)
theorem Nn:∀ (r:List Int) (n:Int),∀ a∈n::r,D4 n r<=a
 | [],n,a,h=>by
  have:a=n:=by simpa using h
  rw [this];exact Kp _
 | m::r,n,a,h=>by
  unfold D4;have ih:=Nn r (if m < n then m else n);have h1:=ih _ AI;have h2:(if m < n then m else n)<=n/\(if m < n then m else n)<=m:=by split <;> omega
  rcases jb3.mp h with e | h
  ·rw [e];omega
  ·rcases jb3.mp h with e | h
   ·rw [e];omega
   ·exact ih a (AA _ h)
def Qy {ns:List Int}{m m':Int} (h1:m∈ns) (h2:∀ a∈ns,m<=a) (h3:m'∈ns) (h4:∀ a∈ns,m'<=a):m=m':=by
 have:=h2 m' h3
 have:=h4 m h1
 omega
def GH:List (PV×Nat)->Option (PV×Nat)
 | [(.lst xs,_)]=>match IH xs with
  | some (n::r)=>some (.int (D4 n r),om)
  | _=>none
 | [(.tup xs,_)]=>match IH xs with
  | some (n::r)=>some (.int (D4 n r),om)
  | _=>none
 | xs=>M1 (λ i j=>if j < i then j else i) xs
def Ob:List (PV×Nat)->Option (PV×Nat)
 | [(.lst xs,_)]=>match IH xs with
  | some ns=>if Oh ns=true then some (.int ns.sum,om) else none
  | none=>none
 | _=>none
def Xh (hc:X.calm=true) (hg:Gl X "min") (hm:X.mg "min" = none) (ha:PA X (e::es) (tL M fa vs)) (he:Ax (e::es) X.env=(false,eval e X.env)::Ax es X.env) (hpl:(Cz pos (Ax es X.env)).any (·.1)=false):
  PE X (.Call (.Name "min" p) (e::es) [] pos) (tE M (Aj GH fa) vs):=by
 refine Bg (GB (((YG hc).or (YH hc)).or (YI hc)) hg hm rfl ha (he:=he) (hpl:=hpl)) λ σ H Q h=>GD (λ xs z c ws H fps fp Q ho tm nz zd lf=>?_) h;unfold GH at ho;split at ho
 ·rename_i xs d;split at ho
  ·rename_i n r eb;cases ho;obtain ⟨v,r',f1,f2,rfl,rfl,_,o1,h2⟩:=tm;obtain ⟨rfl,rfl⟩:=h2;obtain ⟨q,us,rfl,hs,ol⟩:=(cold (fp:=f1) o1 λ a ha=>nz a (AY _ ha)).coldL
   have:=Jq eb ol
   subst this;refine .inl (.inr ⟨q,n::r,rfl,.inl (.inl hs),by simp,λ m h1 h2=>?_⟩);rw [Qy h1 h2 (MM r n) (Nn r n)];exact Dq lf
  ·cases ho
 ·rename_i xs d;split at ho
  ·rename_i n r eb;cases ho;obtain ⟨v,r',f1,f2,rfl,rfl,_,o1,h2⟩:=tm;obtain ⟨rfl,rfl⟩:=h2;obtain ⟨q,us,rfl,hs,ol⟩:=(cold (fp:=f1) o1 λ a ha=>nz a (AY _ ha)).coldT
   have:=Jq eb ol
   subst this;refine .inr ⟨q,n::r,rfl,.inl (.inl hs),by simp,λ m h1 h2=>?_⟩;rw [Qy h1 h2 (MM r n) (Nn r n)];exact Dq lf
  ·cases ho
 ·exact .inl (.inl (PM ho tm lf))
def Xi (hc:X.calm=true) (hg:Gl X "sum") (hm:X.mg "sum" = none) (ha:PA X (e::es) (tL M fa vs)) (he:Ax (e::es) X.env=(false,eval e X.env)::Ax es X.env) (hpl:(Cz pos (Ax es X.env)).any (·.1)=false):
  PE X (.Call (.Name "sum" p) (e::es) [] pos) (tE M (Aj Ob fa) vs):=by
 refine Bg (GB (YJ hc) hg hm rfl ha (he:=he) (hpl:=hpl)) λ σ H Q h=>GD (λ xs z c ws H fps fp Q ho tm nz zd lf=>?_) h;unfold Ob at ho;split at ho
 ·rename_i xs d;split at ho
  ·rename_i ns eb;split at ho
   ·rename_i hk;cases ho;obtain ⟨v,r',f1,f2,rfl,rfl,_,o1,h2⟩:=tm;obtain ⟨rfl,rfl⟩:=h2;obtain ⟨q,us,rfl,hs,ol⟩:=(cold (fp:=f1) o1 λ a ha=>nz a (AY _ ha)).coldL
    have:=Jq eb ol
    subst this;exact ⟨q,ns,rfl,.inl (.inl hs),hk,Dq lf⟩
   ·cases ho
  ·cases ho
 ·cases ho
abbrev Fn:=List PV->Rz (PV×Nat×PV)
def Bq (K:Frag) (io:Bool) (n:Nat) (F:Fn):Sp:=λ ws H Q E=>ws.length=n/\∃ (xs:List PV) (Zo:Addr->Prop) (x0:PV) (v0:V) (fp0:List Addr),
 (∀ a,Zo a->H a≠none)/\(∀ a∈fp0,¬ Zo a)/\(io=false->fp0=[]/\OwnL K H Zo xs 0 ws []) /\
 (io=true->∃ xr wr,xs=x0::xr/\ws=v0::wr/\Own K H (λ _=>True) x0 om v0 fp0/\OwnL K H (λ a=>Zo a\/a∈fp0) xr 0 wr []) /\
 (match F xs with
  | .ok (y,d,z0)=>∀ v H' fp fp0',Ce (λ a=>a∈fp0) H H'->(∀ a,H a≠none->H' a≠none)->(∀ a∈fp0',a∈fp0\/H a=none)->(∀ a∈fp0',¬ Zo a)->(io=false->fp0'=[])->(io=true->Own K H' (λ _=>True) z0 om v0 fp0') ->
    Own K H' (λ a=>(Zo a\/a∈fp0')\/a∈fp) y d v fp->(∀ a∈fp,H a=none/\¬ (Zo a\/a∈fp0'))->Q v H'
  | .exc c=>∀ H',Ce (λ a=>a∈fp0) H H'->(∀ a,H a≠none->H' a≠none)->E (.int (c:Int) 0) none H'
  | .no=>False)
def Aw (F:Fn) (fa:Fa):Fx:=λ ρ=>(fa ρ).bind λ (xs,ρ1)=>match F (xs.map (·.1)) with
 | .ok (y,d,_)=>.ok (y,d,ρ1)
 | .exc c=>.exc c
 | .no=>.no
theorem Xl {F:Fn}{n:Nat} (hF:∀ xs,xs.length≠n->F xs=.no) {σ:St}{H:Hp}{Q:VK} (hq:tE M (Aw F fa) vs σ H Q):RQ (Bq M.K false n F) M.W (tL M fa vs) σ H Q:=by
 obtain ⟨ρ,fps,rep,q⟩:=hq;refine ⟨ρ,fps,rep,?_⟩;unfold Aw at q;cases ef:fa ρ with
 | no=>rw [ef] at q;exact q
 | exc c=>rw [ef] at q;exact q
 | ok p=>
  obtain ⟨xs,ρ1⟩:=p;rw [ef] at q;intro ws H1 fps1 f1 k1 g1 rep1 o1 t1;dsimp only [Rz.bind] at q;have back:∀ a,H1 a=none->H a=none:=λ a e=>by
   cases e':H a with
   | none=>rfl
   | some o=>exact absurd e (k1.dom a (by rw [e'];simp))
  show Bq M.K false n F ws H1 Q (EW (M.W σ));have hlen:xs.length=n:=by
   by_cases e:xs.length=n
   ·exact e
   ·rw [hF (xs.map (·.1)) (by rw [A9];exact e)] at q;exact q.elim
  refine ⟨by rw [o1.length,hlen],xs.map (·.1),Zv M vs fps1,.non,.non,[],λ a z=>rep1.zdom z.zf,λ _ z=>(nomatch z),λ _=>⟨rfl,o1.cold λ a ha z=>t1.ndj a ha z.zf⟩,(λ h=>nomatch h),?_⟩;cases eF:F (xs.map (·.1)) with
  | no=>rw [eF] at q;exact q
  | exc c=>
   rw [eF] at q;exact λ H' kp _=>q H' fps1 (k1.trans (KD.grow λ a o h=>kp a o h λ z=>nomatch z))
  | ok r=>
   obtain ⟨y,d,z0⟩:=r;rw [eF] at q;intro v H' fp fp0' kp dm _ _ h0 _ oy hf;have e0:=h0 rfl;subst e0;have kk:∀ a o,H1 a=some o->H' a=some o:=λ a o h=>kp a o h λ z=>nomatch z
   refine q v H' fps1 fp (k1.trans (KD.grow kk)) g1 (rep1.grow kk) (oy.weak λ a h=>h.elim (λ h=>.inl (.inl h)) .inr) ⟨λ a ha=>back a (hf a ha).1,λ a ha=>rep1.nz (hf a ha).1⟩
end
section
variable {prog:A3}{w:Az}{A:AW}{E:Ae->Ah->Prop}{s:Ah}
structure ZApart (zz ti to p1 p2 q1 q2:Addr):Prop where
 ne1:ti≠zz
 ne2:to≠zz
 ne3:p1≠zz
 ne4:p2≠zz
 ne5:ti≠to
 ne6:ti≠p1
 ne7:ti≠p2
 ne8:to≠p1
 ne9:to≠p2
 nea:p1≠p2
 neb:q1≠zz
 nec:q1≠to
 ned:q1≠p1
 nee:q1≠p2
 nef:q2≠zz
 neg:q2≠to
 neh:q2≠p1
 nei:q2≠p2
section
variable {zz ti to p1 p2 q1 q2:Addr}{n1 n2:Nat}{us vs:Array Ae}{u v a b:Ae}
end
end
section
variable {X:Cx}{pins:List (Addr×Obj)}{σ:St}{H:Hp}{s:Ah}{h':Heap}
end
section
variable {X:Cx}{tg:Expr}
end
inductive Vw where
 | rev | enm | zp
def QA:Nat->List PV->List PV
 | _,[]=>[]
 | i,x::xs=>.tup [.int (i:Int),x]::QA (i + 1) xs
def Hr:List PV->List PV->List PV
 | x::xs,y::ys=>.tup [x,y]::Hr xs ys
 | _,_=>[]
def SK:Vw->List PV->Option (List PV)
 | .rev,[.lst xs]=>some xs.reverse
 | .enm,[.lst xs]=>some (QA 0 xs)
 | .zp,[.lst xs,.lst ys]=>some (Hr xs ys)
 | .zp,[.tup xs,.tup ys]=>some (Hr xs ys)
 | _,_=>none
section
variable {is:List Nat}{M:Fm}{ρ ρ':Ag}{σ σ':St}{H H' H'':Hp}{fps fps' fps'':AB}{vs vs':List Nat}
def UJ (v:Vw) (fa:Fa) (vs:List Nat) (asg:PV->Ag->Option Ag) (body:Fs):Fs:=λ ρ=>match fa ρ with
 | .ok (xs,ρ1)=>(match SK v (xs.map (·.1)) with
  | some els=>BQ asg body els (Bk (if DM xs=true then om else 0) vs ρ1)
  | none=>.no)
 | .exc c=>.exc c
 | .no=>.no
def Vu (v:Vw) (fa:Fa) (k:Nat) (asg:PV->Ag->Option Ag) (test:Fb) (elt:Fx):Fx:=λ ρ=>match fa ρ with
 | .ok (xs,ρ1)=>(match SK v (xs.map (·.1)) with
  | some els=>(BX k asg test elt els ρ1 []).bindN λ (acc,ρ2)=>Dx acc ρ2
  | none=>.no)
 | .exc c=>.exc c
 | .no=>.no
end
section
variable {X:Cx}{M:Fm}{f g:Fx}{fa:Fa}{vs vs':List Nat}{a b e:Expr}{es:List Expr}{pos p p2:Pos}{σ:St}{H:Hp}{Q:VK}
theorem YU:∀ {xs:List V}{us:List Ae},Vals xs us->Vals xs.reverse us.reverse
 | _,_,.nil=>.nil
 | _,_,.cons r rr=>by rw [M9,M9];exact (YU rr).append (.cons r .nil)
theorem OwnL.snoc0 {K:Frag}{H:Hp}{Z:Addr->Prop}{x:PV}{v:V}:∀ {xs:List PV}{ws:List V},OwnL K H Z xs 0 ws []->Own K H Z x 0 v []->OwnL K H Z (xs++[x]) 0 (ws++[v]) []
 | [],ws,h,o=>by
  rw [OwnL] at h;obtain ⟨rfl,_⟩:=h;rw [Ku,Ku,OwnL];exact ⟨v,[],[],[],rfl,rfl,(λ _ z=>nomatch z),o,by rw [OwnL];exact ⟨rfl,rfl⟩⟩
 | y::xs,ws,h,o=>by
  rw [OwnL] at h;obtain ⟨u,r,f1,f2,rfl,ef,_,o1,o2⟩:=h;obtain ⟨rfl,rfl⟩:f1=[]/\f2=[]:=by simpa using ef.symm
  rw [Tn,Tn,OwnL];exact ⟨u,r++[v],[],[],rfl,rfl,(λ _ z=>nomatch z),o1,OwnL.snoc0 o2 o⟩
theorem OwnL.rev {K:Frag}{H:Hp}{Z:Addr->Prop}:∀ {xs:List PV}{ws:List V},OwnL K H Z xs 0 ws []->OwnL K H Z xs.reverse 0 ws.reverse []
 | [],ws,h=>by
  rw [OwnL] at h;obtain ⟨rfl,_⟩:=h;rw [List.reverse_nil,OwnL];exact ⟨rfl,rfl⟩
 | y::xs,ws,h=>by
  rw [OwnL] at h;obtain ⟨u,r,f1,f2,rfl,ef,_,o1,o2⟩:=h;obtain ⟨rfl,rfl⟩:f1=[]/\f2=[]:=by simpa using ef.symm
  rw [M9,M9];exact OwnL.snoc0 (OwnL.rev o2) o1
def Ow:List (PV×Nat)->Option (PV×Nat)
 | [(.bl b,_)]=>some (.int (if b then 1 else 0),om)
 | [(.int i,_)]=>some (.int i,om)
 | _=>none
def Xc (hg:Gl X "int") (hm:X.mg "int" = none) (ha:PA X (e::es) (tL M fa vs)) (he:Ax (e::es) X.env=(false,eval e X.env)::Ax es X.env) (hpl:(Cz pos (Ax es X.env)).any (·.1)=false):
  PE X (.Call (.Name "int" p) (e::es) [] pos) (tE M (Aj Ow fa) vs):=by
 refine Bg (Nb YC hg hm rfl ha (he:=he) (hpl:=hpl)) λ σ H Q h=>GD (λ xs z c ws H fps fp Q ho tm nz zd lf=>?_) h;unfold Ow at ho;split at ho
 ·cases ho;obtain ⟨v,r,f1,f2,rfl,rfl,_,o1,h2⟩:=tm;obtain ⟨rfl,rfl⟩:=h2;rw [Own] at o1;exact .inr ⟨_,by rw [o1.1],Dq lf⟩
 ·cases ho;obtain ⟨v,r,f1,f2,rfl,rfl,_,o1,h2⟩:=tm;obtain ⟨rfl,rfl⟩:=h2;rw [Own] at o1;exact .inl ⟨_,by rw [o1.1],Dq lf⟩
 ·cases ho
end
section
variable {M:Fm}{fa:Fa}{vs:List Nat}
def HJ (K:Frag) (F:Fn):Sp:=λ ws H Q _=>∃ (xs:List PV) (fp1:List Addr) (Zo:Addr->Prop),ws.length=xs.length/\2<=xs.length/\(∀ (i:Nat) (x:PV),xs[i]?=some x->∃ v,ws[i]?=some v/\Own K H (λ _=>True) x om v (if i=1 then fp1 else []))/\(∀ a,Zo a->H a≠none/\a∉fp1)/\(match F xs with
 | .ok (y,d,_)=>∀ v H' fp,Ce (λ a=>a∈fp1) H H'->(∀ a,H a≠none->H' a≠none)->Own K H' (λ a=>Zo a\/a∈fp) y d v fp->(∀ a∈fp,(a∈fp1\/H a=none)/\¬ Zo a)->Q v H'
 | _=>False)
def GC (F:Fn) (j i:Nat) (fa:Fa):Fs:=λ ρ=>match ρ[j]?,ρ[i]? with
 | some (some _),some (some _)=>(match fa ρ with
  | .ok (xs,ρ1)=>(match ρ1[j]?,ρ1[i]? with
   | some (some (xj,_)),some (some (xi,di))=>if DN xj=true/\di=om/\E7 (xs.map (·.1))=true then (match F (xj::xi::xs.map (·.1)) with
    | .ok (y,d,_)=>.rt y d (A6 ρ1.length none)
    | _=>.no) else .no
   | _,_=>.no)
  | .exc c=>.exc c
  | .no=>.no)
 | _,_=>.no
theorem Tmps.flats {K:Frag}{H:Hp}{Z:Addr->Prop}:∀ {xs:List (PV×Nat)}{ws:List V}{fp:List Addr},Tmps K H Z xs ws fp->E7 (xs.map (·.1))=true->∀ (i:Nat) (x:PV),(xs.map (·.1))[i]?=some x->∃ v,ws[i]?=some v/\Own K H (λ _=>True) x om v []
 | [],ws,fp,h,_,i,x,e=>by simp at e
 | (x0,d0)::xs,ws,fp,h,ha,i,x,e=>by
  unfold Tmps at h;obtain ⟨v,r,f1,f2,rfl,_,_,h1,h2⟩:=h;have ha':(DN x0 && E7 (xs.map (·.1)))=true:=ha;rw [AL] at ha';cases i with
  | zero=>cases e;exact ⟨v,rfl,(Own.flatA ha'.1 h1).2⟩
  | succ i=>exact Tmps.flats h2 ha'.2 i x e
def YN {F:Fn}{j i:Nat}{E:XK}{D:Ends} (hal:∀ i,M.al i=[]) (hm:M.Ms i=false) {σ:St}{H:Hp} (hq:tS M (GC F j i fa) D σ H):FU (Rm (HJ M.K F) [] E (GJ (Bm j) (GJ (Bm i) (tL M fa vs)))) D σ H:=by
 obtain ⟨ρ,fps,rep,q⟩:=hq;unfold GC at q;split at q
 ·rename_i pj pi ej ei;obtain ⟨xj0,dj0⟩:=pj;obtain ⟨xi0,di0⟩:=pi;obtain ⟨vj,hσj,_⟩:=rep.own j _ _ ej;obtain ⟨vi,hσi,_⟩:=rep.own i _ _ ei;refine ⟨vj,hσj,vi,hσi,ρ,fps,rep,?_⟩;cases ef:fa ρ with
  | no=>rw [ef] at q;exact q
  | exc c=>rw [ef] at q;exact λ H' fps' k=>q _ H' fps' k.ks
  | ok p=>
   obtain ⟨xs,ρ1⟩:=p;rw [ef] at q;intro ws H1 fps1 f1 k1 g1 rep1 o1 t1;dsimp only at q;split at q
   ·rename_i xj dj xi di ej1 ei1;split at q
    ·rename_i hc;obtain ⟨hfj,rfl,hfl⟩:=hc;obtain ⟨vj',hσj',oj⟩:=rep1.own j _ _ ej1;rw [hσj] at hσj';cases hσj';obtain ⟨vi',hσi',oi⟩:=rep1.own i _ _ ei1;rw [hσi] at hσi';cases hσi';show HJ M.K F ((vj::vi::ws)++[]) H1 D.rt E;rw [Jd];refine ⟨xj::xi::xs.map (·.1),fps1 i,M.Zo,by simp [o1.length],by simp,λ k x e=>?_,λ a z=>⟨rep1.zd a z,λ h=>rep1.zo i a h z⟩,?_⟩
     ·match k,e with
      | 0,e=>cases e;exact ⟨vj,rfl,(Own.flatA hfj oj).2⟩
      | 1,e=>cases e;exact ⟨vi,rfl,Own.full _ _ _ oi⟩
      | k + 2,e=>
       rw [if_neg (by omega)];exact o1.flats hfl k x e
     ·cases eF:F (xj::xi::xs.map (·.1)) with
      | no=>rw [eF] at q;exact q
      | exc c=>rw [eF] at q;exact q
      | ok r=>
       obtain ⟨y,d,z0⟩:=r;rw [eF] at q;intro v H' fp kp dm oy hf;refine q v σ H' (λ _=>[]) fp (k1.ks.trans ⟨λ a o h n=>kp a o h λ z=>n ⟨i,z⟩,dm,λ _ _ z=>(nomatch z)⟩) ?_ (oy.weak λ a h=>?_) λ a ha=>⟨?_,λ z=>?_⟩
       ·refine ⟨λ k x d e=>?_,λ _ _=>rfl,(λ _ _ _ _ z=>nomatch z),(λ _ _ z=>nomatch z),(λ _ _ _ z=>nomatch z),λ a z=>dm a (rep1.zd a z),by rw [Fj];exact rep1.len,λ k x d _ e=>?_,λ a z=>dm a (rep1.h0 a z),rep1.iov⟩
        ·rw [Fl] at e;split at e <;> cases e
        ·rw [Fl] at e;split at e <;> cases e
       ·rcases h with (h | ⟨_,h⟩) | h
        ·exact .inl h
        ·cases h
        ·exact .inr h
       ·rcases (hf a ha).1 with h | h
        ·exact rep1.fr i hm a h
        ·cases e0:M.H₀ a with
         | none=>rfl
         | some o=>exact absurd h (rep1.h0 a (by rw [e0];simp))
       ·rcases z with z | ⟨_,z⟩
        ·exact (hf a ha).2 z
        ·cases z
    ·exact q.elim
   ·exact q.elim
 ·exact q.elim
end
section
variable {X:Cx}{M:Fm}{f g:Fx}{vs vs':List Nat}{σ:St}{H:Hp}{Q:VK}
end
section
variable {pg:A3}{wd:Az}{Ar:AW}{Er:Ae->Ah->Prop}{st:Ah}
end
section
variable {X:Cx}{M:Fm}{f:Fx}{vs:List Nat}{a:Expr}{pos p p2 pos2:Pos}
end
section
variable {prog:A3}{w:Az}{A:AW}{E:Ae->Ah->Prop}{s:Ah}{a₀:Array Keyed}
end
section
variable {prog:A3}{w:Az}{A:AW}{E:Ae->Ah->Prop}{s:Ah}
end
section
variable {X:Cx}{M:Fm}{fa:Fa}{vs:List Nat}{e:Expr}{es:List Expr}{pos p:Pos}
def Uw (ns:List Int):Prop:=ns.length < 64\/(ns.Pairwise (·<=·)/\ns.length<=An)
instance (ns:List Int):Decidable (Uw ns):=inferInstanceAs (Decidable (_\/_))
def Dk:Int->List Int->Int
 | n,[]=>n
 | n,m::r=>Dk (if m > n then m else n) r
theorem PQ:∀ (r:List Int) (n:Int),Dk n r∈n::r
 | [],n=>AI
 | m::r,n=>by
  have q:=PQ r (if m > n then m else n);show Dk (if m > n then m else n) r∈_;rcases jb3.mp q with z | z
  ·rw [z];split <;> simp
  ·simp [z]
theorem Sj:∀ (r:List Int) (n:Int),∀ a∈n::r,a<=Dk n r
 | [],n,a,h=>by
  have e:a=n:=by simpa using h
  rw [e];exact Kp _
 | m::r,n,a,h=>by
  show a<=Dk (if m > n then m else n) r;have q:=Sj r (if m > n then m else n);have q1:=q _ AI;have q2:n<=(if m > n then m else n)/\m<=(if m > n then m else n):=by split <;> omega
  simp only [jb3] at h;rcases h with z | z | z
  ·omega
  ·omega
  ·exact q a (AA _ z)
def YF (hc:X.calm=true):zzh X (.builtin "max") (λ xs H Q=>∃ (q:Addr) (n:Int) (r:List Int),xs=[.ref q]/\BU X.K H q ((n::r).map V.int)/\Q (.int (Dk n r)) H):=by
 intro pins s σ H xs us Q I rv h;obtain ⟨q,n,r,rfl,hq,k0⟩:=h;obtain ⟨u,rfl,rx⟩:=Ey rv;cases rx;obtain ⟨its,rv2,pl,hz⟩:=I.list hq;obtain ⟨zs,rfl,ez⟩:=Jr rv2;have e:(zs.map λ p=>Value.int p.1 p.2).toArray=DT zs.toArray:=by simp [DT]
 rw [e] at pl;have hsz:zs.toArray.size=zs.length:=by simp
 have h0:0 < zs.length:=by
  cases zs with
  | nil=>cases ez
  | cons _ _=>simp
 refine max_intList (I.ok.hd hc) pl.isList (by simpa using h0) λ v h' tk hv k=>?_;obtain ⟨l1,l2⟩:=argBest_gt (Cj zs.toArray) (zs.toArray.size - 1);obtain ⟨t,rfl⟩:=LG hv;generalize argBest (λ i j=>decide (Cj zs.toArray i > Cj zs.toArray j)) (zs.toArray.size - 1)=b at *;have num:∀ j,(hj:j < zs.length)->Cj zs.toArray j=zs[j].1:=λ j hj=>by unfold Cj;simp [hj]
 have hm:Cj zs.toArray b∈n::r:=by
  rw [num b (by omega),<- ez];exact je0.mpr ⟨_,HY _,rfl⟩
 have hg:∀ a∈n::r,a<=Cj zs.toArray b:=λ a ha=>by
  rw [<- ez] at ha;obtain ⟨z,hz',rfl⟩:=je0.mp ha;obtain ⟨j,hj,rfl⟩:=Ji hz';rw [<- num j hj];exact l2 j (by omega)
 have eb:Cj zs.toArray b=Dk n r:=Int.le_antisymm (Sj r n _ hm) (hg _ (PQ r n));exact ⟨.int _,H,I.kept (t':=tk) k,⟨t,rfl⟩,by rw [eb];exact k0⟩
def IT:List (PV×Nat)->Option (PV×Nat)
 | [(.lst xs,_)]=>match IH xs with
  | some (n::r)=>some (.int (Dk n r),om)
  | _=>none
 | xs=>M1 (λ i j=>if j > i then j else i) xs
def Xg (hc:X.calm=true) (hg:Gl X "max") (hm:X.mg "max" = none) (ha:PA X (e::es) (tL M fa vs)) (he:Ax (e::es) X.env=(false,eval e X.env)::Ax es X.env) (hpl:(Cz pos (Ax es X.env)).any (·.1)=false):
  PE X (.Call (.Name "max" p) (e::es) [] pos) (tE M (Aj IT fa) vs):=by
 refine Bg (GB ((YE hc).or (YF hc)) hg hm rfl ha (he:=he) (hpl:=hpl)) λ σ H Q h=>GD (λ xs z c ws H fps fp Q ho tm nz zd lf=>?_) h;unfold IT at ho;split at ho
 ·rename_i xs d;split at ho
  ·rename_i n r eb;cases ho;obtain ⟨v,r',f1,f2,rfl,rfl,_,o1,h2⟩:=tm;obtain ⟨rfl,rfl⟩:=h2;obtain ⟨q,us,rfl,hs,ol⟩:=(cold (fp:=f1) o1 λ a ha=>nz a (AY _ ha)).coldL
   have:=Jq eb ol
   subst this;exact .inr ⟨q,n,r,rfl,.inl (.inl hs),Dq lf⟩
  ·cases ho
 ·exact .inl (PM ho tm lf)
end
section
variable {X:Cx}{M:Fm}{H:Hp}{σ:St}
variable {e:Expr}{es:List Expr}{fa:Fa}{vs:List Nat}{p pos:Pos}
end
open PySem PySem.Spec PyProof.Rows L2 PySem.Builtin PySem.Builtin.ObjectAttr PySem.Builtin.Getset_descriptor
section
variable {prog:A3}{w:Az}{A:AW}{E:Ae->Ah->Prop}{K:Frag}{h:Heap}{g:Array GenState}{d:Drawn}{t:Nat}{os:OsState}{a C:Addr}{oe:Obj}
def Vx {R:Result->Ah->Prop} (X:K.In h) (he:h.get? a=some oe) (hc:oe.cls=.ref C) (hm:Fg K C (.type "object")=some true) (hq:R (.ok (.ret (.ref C))) ⟨h,g,d,t,os⟩):
  GO (Ap prog w) A (.call (.builtin "getset_descriptor.__get__") ⟨[.builtin "object.__class__",.ref a,.ref C],[]⟩) R ⟨h,g,d,t,os⟩:=by
 have ty:PySem.W.Looks (Ap prog w) h (typeOf (.ref a)) (.ref C):=hc ▸ (PySem.W.Looks.ld he).andThen .now;have mr:=PySem.W.looks_mroIn (M:=Ap prog w) X hm;have pl:=PySem.W.KF.slot_gs.plain;have en:=PySem.W.KF.entry_gs;refine codeAny_call_builtin pl en (PySem.W.KF.slot_gs.check _ _ _ _ _ _ _ _
  PySem.W.KF.type_class (PySem.W.KF.args_gs _ _ _) ?_)
 unfold Builtin.«getset_descriptor.__get__»;unfold descrGet;rw [PySem.W.dga_obj];refine AS (Bw ?_);unfold descrGetter descrCheckInstance;unfold descrNameAndClass isInstance;simp only [PySem.W.KF.owner_class]
 repeat lk
 refine ⟨Code.quiet_builtin _ (by decide +kernel),codeAny_builtin PySem.W.KF.entry_class ?_⟩;unfold Builtin.«object.__class__»;unfold shownTypeOf
 repeat lk
 exact hq
def XO {tk:Tok}{Q:Fin->Ah->Prop} (X:K.In h) (he:h.get? a=some oe) (hc:oe.cls=.ref C) (hm:Fg K C (.type "object")=some true) (hl:D1 K (.ref C) "__class__" = some (some (.builtin "object.__class__")))
  (hq:Q (.done (.ret (.ref C))) ⟨h,g,d,t,os⟩):Aq (Ap prog w) A (Builtin.«object.__getattribute__» ⟨[.ref a,.str "__class__" tk],[]⟩) Q E ⟨h,g,d,t,os⟩:=by
 have hT5:(⟨h,g,d,t,os⟩:Ah).TypeIs (.builtin "object.__class__") "getset_descriptor" := F.typeOf_object_class;have f5:=F.typeOf_object_class;have f6:=F.slot_gs_get.lookup;have f7:=F.slot_gs_set.lookup;have L1:=NI (M:=Ap prog w) X hl
 repeat (any_goals (first | assumption | (with_reducible refine JO he ?_;rw [hc]) | with_reducible refine L1.at ?_ | wp_step))
 refine Vx X he hc hm ?_
 repeat (any_goals (first | assumption | wp_step))
def XM {nameV:Ae}{Q:Unit->Ah->Prop}{M:Model} (X:K.In h) (he:h.get? a=some oe) (hc:oe.cls=.ref C) (hb:Fg K C (.type "BaseException")=some true) (hq:Q () ⟨h,g,d,t,os⟩):
  Aq M A (checkBuiltinCall "BaseException.__getattribute__" ⟨[.ref a,nameV],[]⟩) Q E ⟨h,g,d,t,os⟩:=by
 have hk:builtinKind "BaseException.__getattribute__" = some .slot:=by decide +kernel
 have hsp:splitId "BaseException.__getattribute__" = some ("BaseException","__getattribute__"):=by decide +kernel
 have ha:=F.args_bexc_ga (.ref a) nameV;have L1:=PySem.W.looks_mroIn (M:=M) X hb;simp only [checkBuiltinCall,hk,hsp];refine AS ?_;unfold isInstance
 repeat (first | (with_reducible refine JO he ?_;rw [hc]) | with_reducible refine L1.at ?_ | wp_step)
 exact hq
def Uy {tk:Tok}{Q:Ae->Ah->Prop} (X:K.In h) (he:h.get? a=some oe) (hc:oe.cls=.ref C) (hm:Fg K C (.type "object")=some true) (hb:Fg K C (.type "BaseException")=some true)
  (hl:D1 K (.ref C) "__class__" = some (some (.builtin "object.__class__"))) (hga:D1 K (.ref C) "__getattribute__" = some (some (.builtin "BaseException.__getattribute__"))) (hgh:D1 K (.ref C) "__getattr__" = some none)
  (hq:Q (.ref C) ⟨h,g,d,t,os⟩):Aq (Ap prog w) A (getAttrBy (.ref a) (.str "__class__" tk) false) Q E ⟨h,g,d,t,os⟩:=by
 have f3:=PySem.F.attrBase_ValueError.ga.bind (.ref a);have L1:=NI (M:=Ap prog w) X hga;have L2':=NI (M:=Ap prog w) X hgh;have hx2:(Value.builtin "BaseException.__getattribute__" == Value.builtin "object.__getattribute__")=false:=by decide +kernel
 have hx1:(onTheHeap (Value.ref C) && Value.builtin "BaseException.__getattribute__" == Value.builtin "object.__getattribute__")=false:=by rw [hx2];rfl
 repeat (any_goals (first | assumption | (with_reducible refine JO he ?_;rw [hc]) | with_reducible refine L1.at ?_ | with_reducible refine L2'.at ?_ | wp_step))
 refine codeAny_call_builtin PySem.F.attrBase_ValueError.ga.plain F.entry_bexc_ga (XM X he hc hb (XO X he hc hm hl ?_))
 repeat (any_goals (first | assumption | wp_step))
def WO {Q:Option Ae->Ah->Prop} (X:K.In h) (he:h.get? a=some oe) (hc:oe.cls=.ref C) (hm:Fg K C (.type "object")=some true) (hb:Fg K C (.type "BaseException")=some true)
  (hl:D1 K (.ref C) "__class__" = some (some (.builtin "object.__class__"))) (hga:D1 K (.ref C) "__getattribute__" = some (some (.builtin "BaseException.__getattribute__"))) (hgh:D1 K (.ref C) "__getattr__" = some none)
  (hq:Q (some (.ref C)) ⟨h,g,d,t + 1,os⟩):Aq (Ap prog w) A (getAttr? (.ref a) "__class__") Q E ⟨h,g,d,t,os⟩:=by
 unfold getAttr?;unfold getAttrBy?
 repeat (any_goals (first | assumption | with_reducible apply Uy X he hc hm hb hl hga hgh | wp_step))
end
def Cu (K:Frag) (d:Nat) (u:Ae):Bool:=(u == .type "ValueError" && d == 0) || (match BC K d with
 | some D=>u == .ref D
 | none=>false)
section
variable {K:Frag}{a C:Addr}{c d:Nat}{u:Ae}
def LF (t:By K=true) (e:BC K c=some C):Iq K C=true/\DV K (.type "NoneType") (.ref C)=some false/\DV K (.ref C) (.type "ValueError")=some true/\∀ d D,BC K d=some D->DV K (.ref C) (.ref D)=some (CI c d):=by
 unfold By at t;rw [AL] at t;have h:=jc4.mp t.2 c (jd5.mpr (KW e));rw [e] at h;dsimp only at h;simp only [AL] at h;refine ⟨h.1.1.1,eq_of_beq h.1.1.2,eq_of_beq h.1.2,λ d D ed=>?_⟩;have h2:=jc4.mp h.2 d (jd5.mpr (KW ed));rw [ed] at h2;exact eq_of_beq h2
def Sf (t:By K=true) (e:BC K c=some C) (hu:Cu K d u=true):DV K (.ref C) u=some (CI c d):=by
 obtain ⟨_,_,h3,h4⟩:=LF t e;unfold Cu at hu;rw [EL] at hu;rcases hu with hu | hu
 ·rw [AL] at hu;rw [eq_of_beq hu.1,h3,eq_of_beq hu.2];simp [CI]
 ·split at hu
  ·rename_i D hD;rw [eq_of_beq hu];exact h4 d D hD
  ·cases hu
def Sg (t:By K=true) (hu:Cu K d u=true):DV K (.type "NoneType") u=some false:=by
 unfold Cu at hu;rw [EL] at hu;rcases hu with hu | hu
 ·rw [AL] at hu;rw [eq_of_beq hu.1];unfold By at t;rw [AL] at t;exact eq_of_beq t.1
 ·split at hu
  ·rename_i D hD;rw [eq_of_beq hu];exact (LF t hD).2.1
  ·cases hu
def E8 (K:Frag):List Nat->List Ae->Bool
 | [],[]=>true
 | d::ds,u::us=>Cu K d u && E8 K ds us
 | _,_=>false
theorem PF (t:By K=true) (e:BC K c=some C):∀ {ds:List Nat}{us:List Ae},E8 K ds us=true->LM K (.ref C) us=some (ds.any (CI c))
 | [],[],_=>rfl
 | [],_::_,h=>by cases h
 | _::_,[],h=>by cases h
 | d::ds,u::us,h=>by
  unfold E8 at h;rw [AL] at h;unfold LM;rw [Sf t e h.1,M7];cases CI c d with
  | true=>rfl
  | false=>exact PF t e h.2
theorem PH (t:By K=true):∀ {ds:List Nat}{us:List Ae},E8 K ds us=true->LM K (.type "NoneType") us=some false
 | [],[],_=>rfl
 | [],_::_,h=>by cases h
 | _::_,[],h=>by cases h
 | d::ds,u::us,h=>by
  unfold E8 at h;rw [AL] at h;unfold LM;rw [Sg t h.1];exact PH t h.2
def YK (g:Iq K C=true):∃ c0 dd cd sl,K.lookup C=some ⟨c0,dd,.cls cd,sl⟩:=by
 unfold Iq at g;simp only [AL] at g;have h:=g.1.1.1.1.1;unfold PySem.W.clsIn at h;split at h
 ·rename_i q;exact ⟨_,_,_,_,q⟩
 ·cases h
def PD (g:Iq K C=true):PySem.W.KitX K (.ref a) (.ref C) (Dy a C):=by
 obtain ⟨c0,dd,cd,sl,hl⟩:=YK g;unfold Iq at g;simp only [AL] at g;obtain ⟨⟨⟨⟨⟨_,g1⟩,g2⟩,g3⟩,g4⟩,g5⟩:=g;refine ⟨λ M h _ p=>?_,λ M h X _=>?_,λ h tp dd' its n sl' X htp=>?_,λ {prog w A E Q s} X p k=>?_⟩
 ·obtain ⟨o,vs,h1,h2,_⟩:=p;exact h2 ▸ (PySem.W.Looks.ld h1).andThen .now
 ·intro A' Q' E' s' kp q;unfold isType;unfold loadHead;exact AS (wpAny_loadPart (kp _ _ (X _ _ hl)) (Bw q))
 ·cases hb:(Value.ref C == Value.ref tp) with
  | false=>rfl
  | true=>
   have ec:C=tp:=Value.ref.inj (eq_of_beq hb);have z:=X _ _ hl;rw [ec,htp] at z;cases z
 ·obtain ⟨o,vs,h1,h2,_⟩:=p;obtain ⟨hp,gg,dr,tt,oo⟩:=s;exact WO X h1 h2 (eq_of_beq g1) (eq_of_beq g2) (eq_of_beq g3) (eq_of_beq g4) (eq_of_beq g5) k
end
section
variable {X:Cx}
def KG (K:Frag) (v:V) (H:Hp) (Q:VK) (ds:List Nat):Prop:=(v=.non/\Q (.bl false) H)\/∃ a C c,v=.ref a/\BC K c=some C/\H a=some (.ext (Dy a C))/\Q (.bl (ds.any (CI c))) H
def P9 {pins:List (Addr×Obj)}{σ:St}{H:Hp}{s:Ah}{a C:Addr} (I:L2.Inv X pins σ H s) (h:H a=some (.ext (Dy a C))):Dy a C s.heap:=(I.hok a _ h).1
def YD (t:By X.K=true):zzh X (.builtin "isinstance") (λ xs H Q=>∃ v cv d,xs=[v,cv]/\(∀ u,RelV cv u->Cu X.K d u=true)/\KG X.K v H Q [d]):=by
 intro pins s σ H xs us Q I r h;obtain ⟨v,cv,d,rfl,hcv,h⟩:=h;obtain ⟨u,w,rfl,r1,r2⟩:=IX r;have hw:=hcv w r2;rcases h with ⟨rfl,q⟩ | ⟨a,C,c,rfl,hC,ha,q⟩
 ·cases r1;exact DW NB I.kIn True.intro (Sg t hw) (λ z=>nomatch z) λ tk=>⟨.bl false,H,I.tok _,rfl,q⟩
 ·obtain rfl:u=Value.ref a:=r1;exact DW (PD (LF t hC).1) I.kIn (P9 I ha) (Sf t hC hw) (λ z=>nomatch z) λ tk=>⟨.bl (CI c d),H,I.tok _,rfl,by simpa using q⟩
def ZE (t:By X.K=true):zzh X (.builtin "isinstance") (λ xs H Q=>∃ v p cvs ds,xs=[v,.ref p]/\H p=some (.tup cvs)/\(∀ us,Vals cvs us->E8 X.K ds us=true)/\KG X.K v H Q ds):=by
 intro pins s σ H xs us Q I r h;obtain ⟨v,p,cvs,ds,rfl,hp,hcv,h⟩:=h;obtain ⟨u,w,rfl,r1,r2⟩:=IX r;obtain rfl:w=Value.ref p:=r2;obtain ⟨_,its,rv,o,ho,hc,n,hd⟩:=I.hok p _ hp;have hi:=hcv its rv;have ho':s.heap.get? p=some ⟨.type "tuple",o.dict,.seq its.toArray n,o.slots⟩:=by
  rw [ho];obtain ⟨oc,od,oda,os⟩:=o;dsimp only at hc hd;rw [hc,hd]
 rcases h with ⟨rfl,q⟩ | ⟨a,C,c,rfl,hC,ha,q⟩
 ·cases r1;exact PySem.W.kia_tup NB I.kIn True.intro ho' (PH t hi) (λ z=>nomatch z) λ tk=>⟨.bl false,H,I.tok _,rfl,q⟩
 ·obtain rfl:u=Value.ref a:=r1;exact PySem.W.kia_tup (PD (LF t hC).1) I.kIn (P9 I ha) ho' (PF t hC hi) (λ z=>nomatch z) λ tk=>⟨.bl (ds.any (CI c)),H,I.tok _,rfl,q⟩
end
section
variable {X:Cx}{M:Fm}{f g:Fx}{vs vs':List Nat}{e:Expr}{es:List Expr}{pos p:Pos}{σ:St}{H:Hp}{Q:VK}
def E5 (ds:List Nat) (x:PV) (_:Nat):Option (PV×Nat):=match x with
 | .exn c=>some (.bl (ds.any (CI c)),om)
 | .non=>some (.bl false,om)
 | _=>none
theorem R5 {K:Frag}{x z:PV}{ds:List Nat}{d c:Nat}{v:V}{Z:Addr->Prop}{H H':Hp}{f1:List Addr} (ho:E5 ds x d=some (z,c)) (o1:Own K H Z x d v f1) (k:∀ a o,H a=some o->H' a=some o) (q:∀ b,z=.bl b->Q (.bl b) H'):KG K v H' Q ds:=by
 cases x with
 | exn n=>
  cases ho;rw [Own] at o1;obtain ⟨_,a,C,rfl,hC,ha⟩:=o1;exact .inr ⟨a,C,n,rfl,hC,k _ _ ha,q _ rfl⟩
 | non=>
  cases ho;rw [Own] at o1;obtain ⟨rfl,_⟩:=o1;exact .inl ⟨rfl,q _ rfl⟩
 | _=>cases ho
theorem Po {ds:List Nat}{x z:PV}{d c:Nat} (ho:E5 ds x d=some (z,c)):∃ b,z=.bl b/\c=om:=by
 cases x with
 | exn n=>cases ho;exact ⟨_,rfl,rfl⟩
 | non=>cases ho;exact ⟨_,rfl,rfl⟩
 | _=>cases ho
def Xd {cv:V}{d:Nat}{T':Str}{p1 p2:Pos} (t:By X.K=true) (hK:M.K=X.K) (ha:PE X e (tE M f vs)) (hg:Gl X "isinstance") (hm:X.mg "isinstance" = none) (hc:PE X (.Name T' p2) (tC cv)) (hcv:∀ u,RelV cv u->Cu X.K d u=true)
  (hs1:Ax [e,.Name T' p2] X.env=[(false,eval e X.env),(false,eval (.Name T' p2) X.env)]) (hs2:Ax [Expr.Name T' p2] X.env=[(false,eval (.Name T' p2) X.env)]):
  PE X (.Call (.Name "isinstance" p1) [e,.Name T' p2] [] pos) (tE M (Au (E5 [d]) f) vs):=by
 refine Bg (GB (YD t) hg hm rfl (Dp ha (Dp hc FK hs2) (by rw [hs1,hs2])) (he:=by rw [hs1,hs2]) (hpl:=by rw [hs2];rfl)) λ σ H Q h=>?_;refine Kh (r:=λ v H Q=>∃ x c n,[v,cv]=[x,c]/\(∀ u,RelV c u->Cu X.K n u=true)/\KG X.K x H Q [n]) (λ x d' z c v H fps f1 Q ho o1 nz zd lf=>?_) h;obtain ⟨b,rfl,rfl⟩:=Po ho;exact ⟨v,cv,d,rfl,hcv,by rw [<- hK];exact R5 ho o1 (λ _ _ h=>h) λ b' e=>by cases e;exact D8 lf⟩
def Q5 (cvs:List V):TA:=λ _ H Q=>Q cvs H
def Y0 {cvs:List V}{ds:List Nat}{p1 p2:Pos}{k:Nat} (t:By X.K=true) (hK:M.K=X.K) (ha:PE X e (tE M f vs)) (hg:Gl X "isinstance") (hm:X.mg "isinstance" = none) (hc:PA X es (Q5 cvs)) (hl:cvs.length<=An) (hcv:∀ us,Vals cvs us->E8 X.K ds us=true)
  (hs1:Ax [e,.Tuple es k p2] X.env=[(false,eval e X.env),(false,eval (.Tuple es k p2) X.env)]) (hs2:Ax [Expr.Tuple es k p2] X.env=[(false,eval (.Tuple es k p2) X.env)]):
  PE X (.Call (.Name "isinstance" p1) [e,.Tuple es k p2] [] pos) (tE M (Au (E5 ds) f) vs):=by
 refine Bg (GB (ZE t) hg hm rfl (Dp ha (Dp (RL hc) FK hs2) (by rw [hs1,hs2])) (he:=by rw [hs1,hs2]) (hpl:=by rw [hs2];rfl)) λ σ H Q h=>?_;refine Kh (r:=λ v H Q=>cvs.length<=An/\∀ q,H q=none->∃ x p' cvs' ds',[v,V.ref q]=[x,.ref p']/\Ao H q (.tup cvs) p'=some (.tup cvs')/\(∀ us,Vals cvs' us->E8 X.K ds' us=true)/\KG X.K x (Ao H q (.tup cvs)) Q ds') (λ x d' z c v H fps f1 Q ho o1 nz zd lf=>?_) h;obtain ⟨b,rfl,rfl⟩:=Po ho;refine ⟨hl,λ q hq=>⟨v,q,cvs,ds,rfl,Bx,hcv,?_⟩⟩;have kk:∀ a o,H a=some o->Ao H q (.tup cvs) a=some o:=λ a o h=>by rw [AE (λ z=>by rw [z,hq] at h;cases h)];exact h
 rw [<- hK];exact R5 ho o1 kk λ b' e=>by cases e;exact lf (.bl b) _ [] kk (by rw [Own];exact ⟨rfl,rfl⟩) (λ _ z=>nomatch z)
end
section
variable {X:Cx}{M:Fm}{a b:Expr}{f g:Fx}{fa:Fa}{vs vs':List Nat}{pos p:Pos}{σ:St}{H:Hp}{Q:VK}{e:Expr}{es:List Expr}
def EJ:List PV->Option (List AK)
 | []=>some []
 | .int i::r=>(EJ r).map (.inl i::·)
 | .str x::r=>(EJ r).map (.inr x::·)
 | _=>none
theorem Lb {K:Frag}{Z:Addr->Prop}:∀ {xs:List PV}{ws:List V}{d:Nat}{fp:List Addr}{k:List AK},EJ xs=some k->OwnL K H Z xs d ws fp->ws=k.map kV
 | [],ws,d,fp,k,e,h=>by cases e;rw [OwnL] at h;exact h.1
 | .int i::r,ws,d,fp,k,e,h=>by
  obtain ⟨k',e1,rfl⟩:=jb0.mp e;rw [OwnL] at h;obtain ⟨v,s,f1,f2,rfl,ef,dj,h1,h2⟩:=h;rw [Own] at h1;rw [h1.1,Lb e1 h2];rfl
 | .str i::r,ws,d,fp,k,e,h=>by
  obtain ⟨k',e1,rfl⟩:=jb0.mp e;rw [OwnL] at h;obtain ⟨v,s,f1,f2,rfl,ef,dj,h1,h2⟩:=h;rw [Own] at h1;rw [h1.1,Lb e1 h2];rfl
 | .non::_,_,_,_,_,e,_=>by cases e
 | .bl _::_,_,_,_,_,e,_=>by cases e
 | .lst _::_,_,_,_,_,e,_=>by cases e
 | .tup _::_,_,_,_,_,e,_=>by cases e
 | .emp::_,_,_,_,_,e,_=>by cases e
 | .dko::_,_,_,_,_,e,_=>by cases e
 | .scr _::_,_,_,_,_,e,_=>by cases e
 | .dct _::_,_,_,_,_,e,_=>by cases e
 | .exn _::_,_,_,_,_,e,_=>by cases e
def BO (neg:Bool) (x:PV) (_:Nat) (y:PV) (_:Nat):Option (PV×Nat):=match x,y with
 | .tup ks,.dct kvs=>(EJ ks).map λ k=>(.bl (neg^^(BY kvs k).isSome),om)
 | x,.lst ys=>(match Ck 20 x,Bt (Ck 20) ys with
  | some a,some bs=>some (.bl (neg^^bs.any λ b=>DU b a),om)
  | _,_=>none)
 | x,.tup ys=>(match Ck 20 x,Bt (Ck 20) ys with
  | some a,some bs=>some (.bl (neg^^bs.any λ b=>DU b a),om)
  | _,_=>none)
 | _,_=>none
def HR (neg:Bool):R2:=λ v w H Q=>∃ a o,w=.ref a/\DGet H a v o/\Q (.bl (neg^^o.isSome)) H
def VN (hu:X.A.units + 1 < Cy):OpR X (Cp .In) (HR false):=by
 intro pins s σ H x y v u Q I rx ry h;obtain ⟨a,o,rfl,g,q⟩:=h;obtain rfl:u=Value.ref a:=ry;exact OV hu I g rx λ s3 I3=>⟨.bl o.isSome,H,I3,rfl,by simpa using q⟩
def Zb (hu:X.A.units + 1 < Cy):OpR X (Cp .NotIn) (HR true):=by
 intro pins s σ H x y v u Q I rx ry h;obtain ⟨a,o,rfl,g,q⟩:=h;obtain rfl:u=Value.ref a:=ry;exact WS hu I g rx λ s3 I3=>⟨.bl (!o.isSome),H,I3,rfl,by simpa using q⟩
def Ml (tp:Bool) (ys:List PV):PV:=match tp with
 | true=>.tup ys
 | false=>.lst ys
def Ut (tp:Bool) (ys:List ED):ED:=match tp with
 | true=>.tuple ys
 | false=>.list ys
def HN (K:Frag) (neg:Bool):R2:=λ v w H Q=>∃ tp x ys d e Z Z' f1 f2 a bs,Ck 20 x=some a/\Bt (Ck 20) ys=some bs/\Own K H Z x d v f1/\Own K H Z' (Ml tp ys) e w f2/\Q (.bl (neg^^bs.any λ b=>DU b a)) H
theorem RF {tp:Bool}{ys:List PV}{bs:List ED} (h:Bt (Ck 20) ys=some bs):Ck 21 (Ml tp ys)=some (Ut tp bs):=by
 cases tp with
 | true=>
  show (Bt (Ck 20) ys).map PyData.tuple=_;rw [h];rfl
 | false=>
  show (Bt (Ck 20) ys).map PyData.list=_;rw [h];rfl
theorem VP (hu:X.A.units + 64 < Cy):OpR X (Cp .In) (HN X.K false):=by
 intro pins s σ H v w u u' Q I rx ry h;obtain ⟨tp,x,ys,d,e,Z,Z',f1,f2,a,bs,h1,h2,o1,o2,q⟩:=h;obtain ⟨as,ra⟩:=FE I 20 x d v f1 u a h1 o1 rx;obtain ⟨bs',rb⟩:=FE I 21 (Ml tp ys) e w f2 u' _ (RF h2) o2 ry;have l1:=EY 20 x a h1;have l2:=J7 (λ x D h=>EY 20 x D h) h2;have hm:X.A.units + 1 + min (HB bs) a.depth < Cy:=by have:=OM (HB bs) a.depth;omega
 cases tp with
 | false=>exact SeqAt.in_list_reads rb ra l2.1 l1.1 hm ⟨.bl _,H,I,rfl,by simpa using q⟩
 | true=>exact SeqAt.in_tuple_reads rb ra l2.1 l1.1 hm ⟨.bl _,H,I,rfl,by simpa using q⟩
theorem Zc (hu:X.A.units + 64 < Cy):OpR X (Cp .NotIn) (HN X.K true):=by
 intro pins s σ H v w u u' Q I rx ry h;obtain ⟨tp,x,ys,d,e,Z,Z',f1,f2,a,bs,h1,h2,o1,o2,q⟩:=h;obtain ⟨as,ra⟩:=FE I 20 x d v f1 u a h1 o1 rx;obtain ⟨bs',rb⟩:=FE I 21 (Ml tp ys) e w f2 u' _ (RF h2) o2 ry;have l1:=EY 20 x a h1;have l2:=J7 (λ x D h=>EY 20 x D h) h2;have hm:X.A.units + 1 + min (HB bs) a.depth < Cy:=by have:=OM (HB bs) a.depth;omega
 cases tp with
 | false=>exact SeqAt.notIn_list_reads rb ra l2.1 l1.1 hm ⟨.bl _,H,I,rfl,by simpa using q⟩
 | true=>exact SeqAt.notIn_tuple_reads rb ra l2.1 l1.1 hm ⟨.bl _,H,I,rfl,by simpa using q⟩
def PJ {x y z:PV}{d e c:Nat}{v w:V}{fps:AB}{f1 f2 F:List Addr}{Z Z':Addr->Prop}{neg:Bool} (hK:M.K=X.K) (ho:BO neg x d y e=some (z,c)) (o1:Own M.K H Z x d v f1) (o2:Own M.K H Z' y e w f2) (lf:Bf M H fps vs F z c Q):HR neg v w H Q\/HN X.K neg v w H Q:=by
 unfold BO at ho;split at ho
 ·rename_i ks kvs;obtain ⟨k,ek,e2⟩:=jb0.mp ho;cases e2;rw [Own] at o1;rw [Own] at o2;obtain ⟨b,ws,rfl,hb,ol⟩:=o1
  have:=Lb ek ol
  subst this;have h2:∃ a,w=.ref a/\H a=some (.dT kvs):=by
   obtain ⟨a,ea,⟨_,hr,_⟩ | ⟨_,ha,_⟩⟩:=o2
   ·exact ⟨a,ea,hr.1⟩
   ·exact ⟨a,ea,ha⟩
  obtain ⟨a,rfl,ha⟩:=h2;exact .inl ⟨a,_,rfl,DGet.t ha hb,D8 lf⟩
 ·rename_i ys;split at ho
  ·rename_i a bs ea eb;cases ho;rw [hK] at o1;rw [hK] at o2;exact .inr ⟨false,_,ys,d,e,Z,Z',f1,f2,a,bs,ea,eb,o1,o2,D8 lf⟩
  ·cases ho
 ·rename_i ys;split at ho
  ·rename_i a bs ea eb;cases ho;rw [hK] at o1;rw [hK] at o2;exact .inr ⟨true,_,ys,d,e,Z,Z',f1,f2,a,bs,ea,eb,o1,o2,D8 lf⟩
  ·cases ho
 ·cases ho
def K8:Fx:=λ ρ=>.ok (.dct [],om,ρ)
def Wq:PE X (.Dict [] [] pos) (tE M K8 []):=by
 refine Bg Yl λ σ H Q h p hp=>?_;obtain ⟨ρ,fps,rep,q⟩:=h;refine q (.ref p) _ fps [p] (KD.grow (En hp)) Agr.refl (rep.grow (En hp)) ?_ ⟨λ a ha=>by rw [jb6.mp ha];exact hp,λ a ha=>by rw [jb6.mp ha];exact rep.nz hp⟩;rw [Own];exact ⟨p,rfl,.inr ⟨by decide,Bx,rfl⟩⟩
end
structure Sx where
 N:List Str
 sc:AX
 ms:List Nat
 al:List (List Nat)
 Γ:List (Str×(Bool×Nat×Fn))
 Γm:List (Str×Fn)
 rz:Bool
 xc:List Nat
 pn:List Nat
def Sx.alF (S:Sx) (i:Nat):List Nat:=S.al.getD i []
def Sx.msF (S:Sx) (i:Nat):Bool:=S.ms.contains i
def CW (sc:AX) (x:Str) (k:CO):Bool:=sc.names.lookup x == some k
def CN (sc:AX) (x:Str):Bool:=CW sc x .local || CW sc x .cell || CW sc x .free
def Ib (N:List Str) (x:Str):Option Nat:=N.findIdx? (·== x)
def Sx.slot (S:Sx) (x:Str):Option Nat:=if CN S.sc x && !(x == ("__debug__" : Str)) && !(x == ("__classdict__" : Str)) then Ib S.N x else none
def Sx.glob (S:Sx) (x:Str):Bool:=CW S.sc x .globalImplicit
structure XS (X:Cx) (P:A3) (w:Az) (K:Frag) (mg:Str->Option Ae) (base:Heap) (lvl:Nat) (S:Sx) (Wx:St->Nat->Hp->Prop):Prop where
 prog:X.prog=P
 w:X.w=w
 K:X.K=K
 mg:X.mg=mg
 base:X.base=base
 N:X.N=S.N
 sc:X.env.scope=S.sc
 calm:X.calm=true
 room:Room lvl X.A
 po:IL (Ap X.prog X.w) X.A X.env X.xe
 ps:Ip (AG X.prog X.w X.K) X Wx
 rs:S.rz=true->Nd X Wx
structure MS (M:Fm) (K:Frag) (S:Sx) (Wx:St->Nat->Hp->Prop):Prop where
 K:M.K=K
 ms:M.Ms=S.msF
 al:∀ i,i < S.N.length->M.al i=S.alF i
 als:∀ i,∀ j∈M.al i,M.Ms j=false
 W:M.W=Wx
 pn:∀ p∈M.pn,p.1 < S.N.length
def Ei (P:A3) (w:Az) (K:Frag) (mg:Str->Option Ae) (base:Heap) (lvl:Nat) (Γm:List (Str×Fn)):Prop:=
 ∀ x F,Γm.lookup x=some F->(x == ("__debug__" : Str))=false/\∃ fa fd ps,mg x=some (.ref fa)/\GQ K (.ref fa)=true/\zjy K fd ps []/\FnOk P w K mg base (AG P w K) lvl fa fd ps (HJ K F)
def GX (K:Frag) (mg:Str->Option Ae) (xc:List Nat):Prop:=xc≠[]->Dh K=true/\By K=true/\∀ c∈xc,∃ x C,XN[c]?=some x/\BC K c=some C/\mg x=some (.ref C)/\(x == ("__debug__" : Str))=false
def GS (P:A3) (w:Az) (K:Frag) (mg:Str->Option Ae) (base:Heap) (lvl:Nat) (Γ:List (Str×(Bool×Nat×Fn))):Prop:=
 (∀ x∈zvg,mg x=none)/\∀ x io n F,Γ.lookup x=some (io,n,F)->(x == ("__debug__" : Str))=false/\(∀ xs,xs.length≠n->F xs=.no) /\
  ∃ fa fd ps,mg x=some (.ref fa)/\GQ K (.ref fa)=true/\zjy K fd ps []/\ps.length=n/\FnOk P w K mg base (AG P w K) lvl fa fd ps (Bq K io n F)
section
variable {X:Cx}{P:A3}{w:Az}{K:Frag}{mg:Str->Option Ae}{base:Heap}{lvl:Nat}{S:Sx}{Wx:St->Nat->Hp->Prop}{M:Fm}
def Fz {sc:AX}{x:Str}{k:CO} (h:CW sc x k=true):sc.names.lookup x=some k:=by
 unfold CW at h;exact eq_of_beq h
def RH {sc:AX}{x:Str} (h:CN sc x=true):Hb sc x:=by
 unfold CN at h;rw [EL,EL] at h;rcases h with (h | h) | h
 ·exact .inl (Fz h)
 ·exact .inr (.inl (Fz h))
 ·exact .inr (.inr (Fz h))
def La {N:List Str}{x:Str}{i:Nat} (h:Ib N x=some i):N[i]?=some x:=by
 unfold Ib at h;rw [jh1] at h;obtain ⟨hi,e,_⟩:=h
 have:N[i]=x:=eq_of_beq e
 rw [Dn hi,this]
def XS.var (xs:XS X P w K mg base lvl S Wx) {x:Str}{i:Nat}{pos:Pos} (h:S.slot x=some i):PE X (.Name x pos) (Bm i):=by
 unfold Sx.slot at h;split at h
 ·rename_i hc;simp only [AL,Kx] at hc;exact RM (by rw [xs.N];exact La h) (by rw [xs.sc];exact RH hc.1.1) hc.1.2 hc.2
 ·cases h
def XS.gl (xs:XS X P w K mg base lvl S Wx) {x:Str} (h:S.glob x=true):Gl X x:=by
 show X.env.scope.names.lookup x=_;rw [xs.sc];exact Fz h
theorem CD {e:Expr}{es:List Expr}{env:Env} (h:∀ x p,e≠.Starred x p):Ax (e::es) env=(false,eval e env)::Ax es env:=by
 cases e with
 | Starred x p=>exact absurd rfl (h x p)
 | _=>rfl
def FJ:Expr->Bool
 | .Starred _ _=>false
 | _=>true
def CF {e:Expr} (h:FJ e=true):∀ x p,e≠.Starred x p:=λ x p z=>by rw [z] at h;cases h
theorem J6 {env:Env}{pos:Pos}:∀ {es:List Expr},es.all FJ=true->(Cz pos (Ax es env)).any (·.1)=false
 | [],_=>rfl
 | e::es,h=>by
  rw [Fi,AL] at h;rw [CD (CF h.1)];show (false || (Cz pos (Ax es env)).any (·.1))=false;rw [J6 h.2];rfl
def GG:Expr->Bool
 | .Slice _ _ _ _=>false
 | _=>true
theorem Iu {b:Expr} (h:GG b=true):Lz b:=by
 intro o i;cases b with
 | Slice _ _ _ _=>cases h
 | _=>rfl
def UX:Expr->Bool
 | .List _ _=>true
 | _=>false
def U3:Expr->Bool
 | .List es _=>es.any UX
 | _=>false
def QR (b:Expr):Operator->Option (PV->Nat->PV->Nat->Option (PV×Nat))
 | .Add=>some (if U3 b=true then Ou else AJ)
 | .Sub=>some Ci
 | .Mult=>some AV
 | .FloorDiv=>some AH
 | .Mod=>some A4
 | .Pow=>some GI
 | _=>none
def UK {a b:Expr}{op:Operator}{o:PV->Nat->PV->Nat->Option (PV×Nat)}{f g:Fx}{vs vs':List Nat}{pos:Pos} (h:QR b op=some o) (hv:∀ i∈vs,M.Ms i=false) (hK:M.K=X.K) (ha:PE X a (tE M f vs)) (hb:PE X b (tE M g vs')):PE X (.BinOp a op b pos) (tE M (Ab o f g) (vs++vs')):=by
 cases op <;> cases h
 ·split
  ·exact Xa hv hK ha hb
  ·exact VJ hv hK ha hb
 ·exact LB WH (λ _ _ _=>trivial) hv ha hb
 ·exact Wu hv ha hb
 ·exact LB VQ (λ _ _=>OY) hv ha hb
 ·exact LB V2 (λ _ _=>OW) hv ha hb
 ·exact LB Yh (λ _ _=>OZ) hv ha hb
def EO:Expr->Bool
 | .Set _ _ _=>false
 | _=>true
def Oe (b:Expr):DS->Option (PV->Nat->PV->Nat->Option (PV×Nat))
 | .Lt=>some (BH λ i j=>decide (i < j))
 | .LtE=>some (BH λ i j=>decide (i<=j))
 | .Gt=>some (BH λ i j=>decide (j < i))
 | .GtE=>some (BH λ i j=>decide (j<=i))
 | .Eq=>some (Am false)
 | .NotEq=>some (Am true)
 | .In=>if EO b=true then some (BO false) else none
 | .NotIn=>if EO b=true then some (BO true) else none
 | _=>none
theorem Ss {op:DS}{b:Expr} (h:EO b=true):IP op b=false:=by
 cases b with
 | Set _ _ _=>cases h
 | _=>rfl
def XQ {op:DS}{o:PV->Nat->PV->Nat->Option (PV×Nat)}{f g:Fx}{vs vs':List Nat}{b:Expr} (h:Oe b op=some o) (hu:X.A.units + 64 < Cy) (hv:∀ i∈vs,M.Ms i=false) (hK:M.K=X.K):
  ∃ r,OpR X (Cp op) r/\IP op b=false/\∀ σ H Q,tE M (Ab o f g) (vs++vs') σ H Q->FV r (tE M f vs) (tE M g vs') σ H Q:=by
 cases op
 ·cases h;exact ⟨_,VO hu,Gz _ (by decide) (by decide),λ σ H Q h=>DA hv (λ x d y e z c v w H fps f1 f2 Q ho o1 o2 dj nz zd lf=>PL hK ho o1 o2 lf) h⟩
 ·cases h;exact ⟨_,V1 hu,Gz _ (by decide) (by decide),λ σ H Q h=>DA hv (λ x d y e z c v w H fps f1 f2 Q ho o1 o2 dj nz zd lf=>PL hK ho o1 o2 lf) h⟩
 ·cases h;exact ⟨_,Rg,Gz _ (by decide) (by decide),λ σ H Q h=>DA hv (λ x d y e z c v w H fps f1 f2 Q ho o1 o2 dj nz zd lf=>Lc ho o1 o2 lf) h⟩
 ·cases h;exact ⟨_,Rf,Gz _ (by decide) (by decide),λ σ H Q h=>DA hv (λ x d y e z c v w H fps f1 f2 Q ho o1 o2 dj nz zd lf=>Lc ho o1 o2 lf) h⟩
 ·cases h;exact ⟨_,Rc,Gz _ (by decide) (by decide),λ σ H Q h=>DA hv (λ x d y e z c v w H fps f1 f2 Q ho o1 o2 dj nz zd lf=>Lc ho o1 o2 lf) h⟩
 ·cases h;exact ⟨_,Rb,Gz _ (by decide) (by decide),λ σ H Q h=>DA hv (λ x d y e z c v w H fps f1 f2 Q ho o1 o2 dj nz zd lf=>Lc ho o1 o2 lf) h⟩
 ·cases h
 ·cases h
 ·replace h:(if EO b=true then some (BO false) else none)=some o:=h;split at h
  ·rename_i hb;cases h;exact ⟨_,(VN (by omega)).or (VP hu),Ss hb,λ σ H Q h=>DA hv (λ x d y e z c v w H fps f1 f2 Q ho o1 o2 dj nz zd lf=>PJ hK ho o1 o2 lf) h⟩
  ·cases h
 ·replace h:(if EO b=true then some (BO true) else none)=some o:=h;split at h
  ·rename_i hb;cases h;exact ⟨_,(Zb (by omega)).or (Zc hu),Ss hb,λ σ H Q h=>DA hv (λ x d y e z c v w H fps f1 f2 Q ho o1 o2 dj nz zd lf=>PJ hK ho o1 o2 lf) h⟩
  ·cases h
def ER:DS->Option (Int->Int->Bool)
 | .Lt=>some λ i j=>decide (i < j)
 | .LtE=>some λ i j=>decide (i<=j)
 | .Gt=>some λ i j=>decide (j < i)
 | .GtE=>some λ i j=>decide (j<=i)
 | .Eq=>some λ i j=>decide (i=j)
 | _=>none
def WG:OpR X (Cp .Eq) (Es λ i j=>.bl (decide (i=j))):=λ pins s σ H x y v u Q I rx ry h=>U5 pins s σ H x y v u Q I rx ry (by
 obtain ⟨i,j,rfl,rfl,q⟩:=h;refine ⟨rfl,?_⟩;rw [RX];exact q)
def Qr {op:DS}{p:Int->Int->Bool} (h:ER op=some p):OpR X (Cp op) (Es λ i j=>.bl (p i j))/\op≠.In/\op≠.NotIn:=by
 cases op <;> cases h
 ·exact ⟨WG,by decide,by decide⟩
 ·exact ⟨Rg,by decide,by decide⟩
 ·exact ⟨Rf,by decide,by decide⟩
 ·exact ⟨Rc,by decide,by decide⟩
 ·exact ⟨Rb,by decide,by decide⟩
def DK (p q:Int->Int->Bool) (f g h:Fx):Fx:=λ ρ=>(f ρ).bind λ (x,_,ρ1)=>(g ρ1).bind λ (y,_,ρ2)=>match x,y with
 | .int i,.int j=>if p i j=true then (h ρ2).bind λ (z,_,ρ3)=>(match z with
  | .int k=>.ok (.bl (q j k),om,ρ3)
  | _=>.no) else .ok (.bl false,om,ρ2)
 | _,_=>.no
theorem Qd {p q:Int->Int->Bool}{f g h:Fx}{vs v1 v2 v3:List Nat}{σ:St}{H:Hp}{Q:VK} (hq:tE M (DK p q f g h) vs σ H Q):O1 (Es λ i j=>.bl (p i j)) (Es λ i j=>.bl (q i j)) (tE M f v1) (tE M g v2) (tE M h v3) σ H Q:=by
 obtain ⟨ρ,fps,rep,qq⟩:=hq;refine ⟨ρ,fps,rep,?_⟩;unfold DK at qq;cases ef:f ρ with
 | no=>rw [ef] at qq;exact qq
 | exc c=>rw [ef] at qq;exact qq
 | ok p0=>
  obtain ⟨x,d,ρ1⟩:=p0;rw [ef] at qq;intro v H1 fps1 f1 k1 g1 rep1 o1 t1;refine ⟨ρ1,fps1,rep1,?_⟩;dsimp only [Rz.bind] at qq;cases eg:g ρ1 with
  | no=>rw [eg] at qq;exact qq
  | exc c=>rw [eg] at qq;exact λ H' fps' k=>qq H' fps' (k1.trans k)
  | ok p2=>
   obtain ⟨y,e,ρ2⟩:=p2;rw [eg] at qq;intro w H2 fps2 f2 k2 g2 rep2 o2 t2;cases x with
   | int i=>
    cases y with
    | int j=>
     dsimp only at qq;rw [Own] at o1 o2;obtain ⟨rfl,rfl⟩:=o1;obtain ⟨rfl,rfl⟩:=o2;refine ⟨i,j,rfl,rfl,p i j,rfl,?_⟩;by_cases hp:p i j=true
     ·rw [if_pos hp] at qq ⊢;refine ⟨ρ2,fps2,rep2,?_⟩;cases eh:h ρ2 with
      | no=>rw [eh] at qq;exact qq
      | exc c=>rw [eh] at qq;exact λ H' fps' k=>qq H' fps' ((k1.trans k2).trans k)
      | ok p3=>
       obtain ⟨z,c,ρ3⟩:=p3;rw [eh] at qq;intro u H3 fps3 f3 k3 g3 rep3 o3 t3;cases z with
       | int k=>
        dsimp only at qq;rw [Own] at o3;obtain ⟨rfl,rfl⟩:=o3;exact ⟨j,k,rfl,rfl,qq _ H3 fps3 [] ((k1.trans k2).trans k3) ((g1.trans g2).trans g3) rep3 (by rw [Own];exact ⟨rfl,rfl⟩) ⟨λ _ z=>(nomatch z),λ _ z=>nomatch z⟩⟩
       | _=>exact qq.elim
     ·rw [if_neg hp] at qq ⊢;exact qq _ H2 fps2 [] (k1.trans k2) (g1.trans g2) rep2 (by rw [Own];exact ⟨rfl,rfl⟩) ⟨λ _ z=>(nomatch z),λ _ z=>nomatch z⟩
    | _=>exact qq.elim
   | _=>exact qq.elim
def Cn (f g:Fx):Fx:=λ ρ=>(f ρ).bind λ (x,_,ρ1)=>match x with
 | .bl true=>g ρ1
 | .bl false=>.ok (.bl false,om,ρ1)
 | _=>.no
def AU (f g:Fx):Fx:=λ ρ=>(f ρ).bind λ (x,_,ρ1)=>match x with
 | .bl true=>.ok (.bl true,om,ρ1)
 | .bl false=>g ρ1
 | _=>.no
def BK:PV->Nat->Option (PV×Nat)
 | .bl b,_=>some (.bl (!b),om)
 | _,_=>none
variable {f g:Fx}{vs vs':List Nat}{σ:St}{H:Hp}{Q:VK}
theorem Sy {f:Fx}{ρ ρ1:Ag}{fps fps1:AB}{H H1:Hp} (k1:KD M H fps H1 fps1) (g1:Agr M ρ ρ1) (rep1:Rep M ρ1 σ H1 fps1) (hs:∀ i∈vs,i∈vs')
  (q:match f ρ1 with
   | .ok (x,d,ρ')=>∀ v H' fps' fp,KD M H fps H' fps'->Agr M ρ ρ'->Rep M ρ' σ H' fps'->Own M.K H' (Zt M vs' fps' fp) x d v fp->Temp M vs' H H' fps' fp->Q v H'
   | .exc c=>∀ H' fps',KD M H fps H' fps'->M.W σ c H'
   | .no=>False):tE M f vs σ H1 Q:=by
 refine ⟨ρ1,fps1,rep1,?_⟩;cases eg:f ρ1 with
 | no=>rw [eg] at q;exact q
 | exc c=>rw [eg] at q;exact λ H' fps' k=>q H' fps' (k1.trans k)
 | ok p2=>
  obtain ⟨x,d,ρ2⟩:=p2;rw [eg] at q;exact λ v H' fps' fp k g r o t=>q v H' fps' fp (k1.trans k) (g1.trans g) r (o.weak λ a h=>Zt.mono hs h) ⟨λ a ha=>(by
   have e:=t.new a ha;cases e':H a with
   | none=>rfl
   | some o=>exact absurd e (k1.dom a (by rw [e'];simp))),t.ndj⟩
theorem Xk (hq:tE M (Cn f g) (vs++vs') σ H Q):Rl (tE M f vs) (tE M g vs') σ H Q:=by
 obtain ⟨ρ,fps,rep,q⟩:=hq;refine ⟨ρ,fps,rep,?_⟩;unfold Cn at q;cases ef:f ρ with
 | no=>rw [ef] at q;exact q
 | exc c=>rw [ef] at q;exact q
 | ok p=>
  obtain ⟨x,d,ρ1⟩:=p;rw [ef] at q;intro v H1 fps1 f1 k1 g1 rep1 o1 t1;dsimp only [Rz.bind] at q;cases x with
  | bl b=>
   rw [Own] at o1;refine ⟨b,o1.1,?_⟩;cases b with
   | true=>exact Sy k1 g1 rep1 (λ i hi=>AR _ hi) q
   | false=>exact q (.bl false) H1 fps1 [] k1 g1 rep1 (by rw [Own];exact ⟨rfl,rfl⟩) ⟨λ _ z=>(nomatch z),λ _ z=>nomatch z⟩
  | _=>exact q.elim
theorem VR (hq:tE M (AU f g) (vs++vs') σ H Q):JU (tE M f vs) (tE M g vs') σ H Q:=by
 obtain ⟨ρ,fps,rep,q⟩:=hq;refine ⟨ρ,fps,rep,?_⟩;unfold AU at q;cases ef:f ρ with
 | no=>rw [ef] at q;exact q
 | exc c=>rw [ef] at q;exact q
 | ok p=>
  obtain ⟨x,d,ρ1⟩:=p;rw [ef] at q;intro v H1 fps1 f1 k1 g1 rep1 o1 t1;dsimp only [Rz.bind] at q;cases x with
  | bl b=>
   rw [Own] at o1;refine ⟨b,o1.1,?_⟩;cases b with
   | false=>exact Sy k1 g1 rep1 (λ i hi=>AR _ hi) q
   | true=>exact q (.bl true) H1 fps1 [] k1 g1 rep1 (by rw [Own];exact ⟨rfl,rfl⟩) ⟨λ _ z=>(nomatch z),λ _ z=>nomatch z⟩
  | _=>exact q.elim
theorem Xm (hq:tE M (Au BK f) vs σ H Q):Ri (tE M f vs) σ H Q:=by
 refine Kh (r:=λ x H1 Q=>∃ c,x=.bl c/\Q (.bl (!c)) H1) (λ x d z c v H fps f1 Q ho o1 nz zd lf=>?_) hq;cases x with
 | bl b=>cases ho;rw [Own] at o1;exact ⟨b,o1.1,D8 lf⟩
 | _=>cases ho
end
abbrev D2:=Fx×List Nat
def EA (d:Expr->Option D2):List Expr->Option (Fa×List Nat)
 | []=>some (Ac,[])
 | e::es=>match d e,EA d es with
  | some (f,v),some (fa,u)=>some (Ad f fa,v++u)
  | _,_=>none
def Mz (d:Expr->Option D2):List Expr->Option D2
 | []=>none
 | [e]=>d e
 | e::es=>match d e,Mz d es with
  | some (f,v),some (g,u)=>some (Cn f g,v++u)
  | _,_=>none
def Mn (d:Expr->Option D2):List Expr->Option D2
 | []=>none
 | [e]=>d e
 | e::es=>match d e,Mn d es with
  | some (f,v),some (g,u)=>some (AU f g,v++u)
  | _,_=>none
def K6:Const->Option D2
 | .int i=>some (bC (.int i),[])
 | .bool b=>some (bC (.bl b),[])
 | .none=>some (bC .non,[])
 | .str x=>some (bC (.str x),[])
 | _=>none
def HC (x:Str):Option String:=if x = "int" then some "int" else if x = "bool" then some "bool" else if x = "str" then some "str" else if x = "list" then some "list" else if x = "tuple" then some "tuple" else if x = "dict" then some "dict" else none
def Od (x:Str):Option (List (PV×Nat)->Option (PV×Nat)):=
 if x = "len" then some BM else if x = "all" then some DP else if x = "max" then some IT else if x = "min" then some GH else if x = "sum" then some Ob
 else if x = "tuple" then some Fd else if x = "list" then some IJ else if x = "int" then some Ow else none
def Em (scope sc:AX):AX:={ scope with names:=scope.names.map λ (n,k)=>if (k == .free && sc.kind == .function && sc.names.lookup n == some .cell) then (n,.cell) else (n,k) }
def OA (i:Nat):Str:=⟨#[2000000 + i]⟩
def GN (sc':AX):Nat->List Str->List Str
 | _,[]=>[]
 | i,x::r=>(if CW sc' x .cell || CW sc' x .free then x else OA i)::GN sc' (i + 1) r
def Ls:List Expr->Option (List Str)
 | []=>some []
 | .Name x _::r=>(Ls r).map (x::·)
 | _=>none
def LU (n:Nat):Expr->Option (List Str×(PV->Ag->Option Ag))
 | .Name x _=>some ([x],asgN n)
 | .Tuple es _ _=>(Ls es).map λ xs=>(xs,asgT (Ko n xs.length))
 | _=>none
def K2:Expr->Bool
 | .Tuple _ _ _=>true
 | _=>false
def AO (S:Sx) (scope:AX) (xs:List Str) (vI:List Nat):Sx:=⟨GN (Em scope S.sc) 0 S.N++xs,Em scope S.sc,S.ms,(Bb S.N.length).map S.alF++A6 xs.length vI,S.Γ,S.Γm,false,S.xc,S.pn⟩
def Ll (S:Sx) (scope:AX) (xs:List Str) (vI:List Nat):Bool:=
 let S':=AO S scope xs vI;decide (scope.kind=.function) && scope.names.all (λ x=>x.2 != .free || !(scope.names.contains (x.1,.cell))) && scope.names.all (λ x=>x.2 != .local || scope.names.lookup x.1 == some .local)
 && scope.names.all (λ x=>x.2 != .free || (S.sc.names.lookup x.1 == some .cell || S.sc.names.lookup x.1 == some .free))
 && (Bb S.N.length).all (λ i=>match S'.N[i]? with
  | some x=>!CN S'.sc x || (decide (S.N[i]?=some x) && CN S.sc x && scope.names.contains (x,.free) && !CW S'.sc x .local)
  | none=>true)
 && decide S'.N.Nodup && xs.all (λ x=>CW S'.sc x .local || (CW S'.sc x .cell && scope.names.contains (x,.cell))) && decide (S.N.length≠0) && (S.ms.all λ i=>decide (i < S.N.length))
inductive Iw where
 | rng (en:List (PV×Nat)->Option (Int×Int)) (fa:Fa) (vs:List Nat)
 | seq (f:Fx) (vs:List Nat)
 | vw (v:Vw) (fa:Fa) (vs:List Nat)
def Iw.vs:Iw->List Nat
 | .rng _ _ _=>[]
 | .seq _ vs=>vs
 | .vw _ _ vs=>vs
def FT (tg:Expr):Iw->Bool
 | .vw .enm _ _=>K2 tg
 | .vw .zp _ _=>K2 tg
 | _=>true
def Ef (d:Expr->Option D2) (S:Sx) (it:Expr):Option Iw:=match it with
 | .Call (.Name x _) [a] [] _=>if x = "range" /\ S.glob "range" = true then (match EA d [a] with
   | some (fa,vs)=>some (.rng BL fa vs)
   | none=>none) else (match d it with
   | some (f,vs)=>some (.seq f vs)
   | none=>none)
 | .Call (.Name x _) [a,b] [] _=>if x = "range" /\ S.glob "range" = true then (match EA d [a,b] with
   | some (fa,vs)=>some (.rng EB fa vs)
   | none=>none) else (match d it with
   | some (f,vs)=>some (.seq f vs)
   | none=>none)
 | _=>match d it with
   | some (f,vs)=>some (.seq f vs)
   | none=>none
def Kc (iw:Iw) (k:Nat) (asg:PV->Ag->Option Ag) (test:Fb) (elt:Fx):Fx:=match iw with
 | .rng en fa _=>Ek en fa k asg test elt
 | .seq f _=>CL f k asg test elt
 | .vw v fa _=>Vu v fa k asg test elt
def Cv:Fb:=λ ρ=>.ok (true,ρ)
def M0 (d:Expr->Option D2):List Expr->Option Fb
 | []=>some Cv
 | [c]=>(d c).map λ p=>bT p.1
 | _=>none
def R4:Expr->Bool
 | .UnaryOp .USub c _=>(match c with
  | .Constant k _ _=>(match k with
   | .int i=>i == 1
   | _=>false)
  | _=>false)
 | _=>false
def qG {e:Expr} (h:R4 e=true):∃ k p3 p4,e=.UnaryOp .USub (.Constant (.int 1) k p3) p4:=by
 unfold R4 at h;split at h
 ·split at h
  ·split at h
   ·rename_i i
    have:i=1:=eq_of_beq h
    subst this;exact ⟨_,_,_,rfl⟩
   ·cases h
  ·cases h
 ·cases h
def CY:Expr->Option Str
 | .Name x _=>some x
 | _=>none
def Df {e:Expr}{x:Str} (h:CY e=some x):∃ p,e=.Name x p:=by
 cases e <;> first | (cases h;exact ⟨_,rfl⟩) | (cases h)
def ME:Expr->Option Int
 | .Constant c _ _=>(match c with
  | .int i=>some i
  | _=>none)
 | _=>none
def R6 {e:Expr}{i:Int} (h:ME e=some i):∃ k p,e=.Constant (.int i) k p:=by
 unfold ME at h;split at h
 ·split at h
  ·cases h;exact ⟨_,_,rfl⟩
  ·cases h
 ·cases h
def Rw (d:Sx->Expr->Option D2) (S:Sx) (a:Expr):Option Expr->Option Expr->Option Expr->Option D2
 | none,some hi,none=>match d S a,d S hi with
  | some (f,v),some (g,_)=>some (K7 f none (some g),v)
  | _,_=>none
 | some lo,none,none=>match d S a,d S lo with
  | some (f,v),some (g,_)=>some (K7 f (some g) none,v)
  | _,_=>none
 | some lo,some hi,none=>match d S a,d S lo,d S hi with
  | some (f,v),some (g,_),some (h,_)=>some (K7 f (some g) (some h),v)
  | _,_,_=>none
 | _,_,_=>none
def Rx (d:Sx->Expr->Option D2) (S:Sx) (a b:Expr):Option D2:=match b with
 | .Slice lo hi st _=>Rw d S a lo hi st
 | b=>match CY a,ME b with
  | some x,some i=>(match S.slot x with
   | some j=>if S.msF j=true then none else some (Ab Ak (Aa j) (bC (.int i)),(j::S.alF j)++[])
   | none=>none)
  | _,_=>match d S a,d S b with
   | some (f,v),some (g,u)=>if GG b=true then some (Ab Ak f g,v++u) else none
   | _,_=>none
def Mm (S:Sx) (T:Str):Option Nat:=if S.glob T=true/\S.xc≠[] then (if T = "ValueError" then some 0 else match XN.findIdx? (·== T) with
 | some c=>if S.xc.contains c=true then some c else none
 | none=>none) else none
def My (S:Sx):List Expr->Option (List Nat)
 | []=>some []
 | e::r=>match CY e,My S r with
  | some T,some ds=>(Mm S T).map (·::ds)
  | _,_=>none
def Rt (d:Expr->Option D2) (S:Sx) (e c:Expr):Option D2:=match d e with
 | some (f,v)=>if S.glob "isinstance" = true then (match c with
  | .Name T _=>(match HC T with
   | some t=>if S.glob T=true then some (Au (EC t) f,v) else none
   | none=>(Mm S T).map λ n=>(Au (E5 [n]) f,v))
  | .Tuple es _ _=>if es.length<=100/\es≠[] then (My S es).map λ ns=>(Au (E5 ns) f,v) else none
  | _=>none) else none
 | none=>none
def Fv (d:Sx->Expr->Option D2) (S:Sx):Expr->Option D2
 | .Constant c _ _=>K6 c
 | .Name x _=>match S.slot x with
  | some i=>if S.msF i=true then none else some (Aa i,i::S.alF i)
  | none=>none
 | .BinOp a op b _=>match d S a,d S b,QR b op with
  | some (f,v),some (g,u),some o=>some (Ab o f g,v++u)
  | _,_,_=>none
 | .UnaryOp .USub a _=>match d S a with
  | some (f,v)=>some (Au BN f,v)
  | none=>none
 | .UnaryOp .Not a _=>match d S a with
  | some (f,v)=>some (Au BK f,v)
  | none=>none
 | .BoolOp .And es _=>Mz (d S) es
 | .BoolOp .Or es _=>Mn (d S) es
 | .Compare a [op] [b] _=>match d S a,d S b,Oe b op with
  | some (f,v),some (g,u),some o=>some (Ab o f g,v++u)
  | _,_,_=>none
 | .Compare a [op,op'] [b,c] _=>match d S a,d S b,d S c,ER op,ER op' with
  | some (f,_),some (g,_),some (h,_),some p,some q=>some (DK p q f g h,[])
  | _,_,_,_,_=>none
 | .List es _=>match EA (d S) es with
  | some (fa,v)=>some (Aj AM fa,v)
  | none=>none
 | .Tuple es _ _=>match EA (d S) es with
  | some (fa,v)=>some (Aj Bu fa,v)
  | none=>none
 | .Subscript a b _=>Rx d S a b
 | .Call (.Name x _) args [] _=>
  if x = "isinstance" then (match args with
   | [e,c]=>Rt (d S) S e c
   | _=>none)
  else match Od x with
  | some o=>(match args with
   | e::es=>(match EA (d S) (e::es) with
    | some (fa,v)=>if S.glob x=true then some (Aj o fa,v) else none
    | none=>none)
   | []=>none)
  | none=>match S.Γ.lookup x with
   | some (false,_,F)=>(match args with
    | e::es=>(match EA (d S) (e::es) with
     | some (fa,v)=>if S.glob x=true then some (Aw F fa,v) else none
     | none=>none)
    | []=>none)
   | some (true,_,F)=>none
   | none=>none
 | .ListComp elt [⟨tg,it,ifs,0⟩] scope _=>match LU S.N.length tg,Ef (d S) S it with
  | some (xs,asg),some iw=>if Ll S scope xs iw.vs=true/\FT tg iw=true then (match M0 (d (AO S scope xs iw.vs)) ifs,d (AO S scope xs iw.vs) elt with
   | some t,some (g,vE)=>some (Kc iw xs.length asg t g,iw.vs++vE.filter (λ i=>decide (i < S.N.length)))
   | _,_=>none) else none
  | _,_=>none
 | _=>none
def AN:Nat->Sx->Expr->Option D2
 | 0,_,_=>none
 | n + 1,S,e=>Fv (AN n) S e
section
variable {X:Cx}{P:A3}{w:Az}{K:Frag}{mg:Str->Option Ae}{base:Heap}{lvl:Nat}{S:Sx}{Wx:St->Nat->Hp->Prop}{M:Fm}{f g:Fx}{vs vs':List Nat}{σ:St}{H:Hp}{Q:VK}
def XA {Q:Bool->Hp->Prop} (hq:tT M (bT (Cn f g)) σ H Q):HI (tT M (bT f)) (tT M (bT g)) σ H Q:=by
 refine We ?_;have e:bT (Cn f g)=Gs (bT f) (bT g):=by
  funext ρ;unfold bT Cn Gs;dsimp only;cases f ρ with
  | no=>rfl
  | exc c=>rfl
  | ok p=>
   obtain ⟨x,d,ρ1⟩:=p;cases x with
   | bl b=>cases b <;> rfl
   | _=>rfl
 rw [<- e];exact hq
def Wg {Q:Bool->Hp->Prop} (hq:tT M (bT (AU f g)) σ H Q):NQ (tT M (bT f)) (tT M (bT g)) σ H Q:=by
 refine UO ?_;have e:bT (AU f g)=MF (bT f) (bT g):=by
  funext ρ;unfold bT AU MF;dsimp only;cases f ρ with
  | no=>rfl
  | exc c=>rfl
  | ok p=>
   obtain ⟨x,d,ρ1⟩:=p;cases x with
   | bl b=>cases b <;> rfl
   | _=>rfl
 rw [<- e];exact hq
def XD {Q:Bool->Hp->Prop} (hq:tT M (bT (Au BK f)) σ H Q):HE (tT M (bT f)) σ H Q:=by
 refine Wf ?_;have e:bT (Au BK f)=Gr (bT f):=by
  funext ρ;unfold bT Au Gr;dsimp only;cases f ρ with
  | no=>rfl
  | exc c=>rfl
  | ok p=>
   obtain ⟨x,d,ρ1⟩:=p;cases x with
   | bl b=>cases b <;> rfl
   | _=>rfl
 rw [<- e];exact hq
def A8 (P:A3) (w:Az) (K:Frag) (mg:Str->Option Ae) (base:Heap) (lvl:Nat) (S:Sx) (e:Expr) (f:Fx) (vs:List Nat):Prop:=
 (∀ i∈vs,S.msF i=false)/\FJ e=true/\∀ {Wx} X M,XS X P w K mg base lvl S Wx->MS M K S Wx->PE X e (tE M f vs)/\PT X e (tT M (bT f))
def MS.v (m:MS M K S Wx) (h:∀ i∈vs,S.msF i=false):∀ i∈vs,M.Ms i=false:=λ i hi=>by rw [m.ms];exact h i hi
def MS.k (m:MS M K S Wx) (xs:XS X P w K mg base lvl S Wx):M.K=X.K:=m.K.trans xs.K.symm
def Cw {e:Expr} (h1:∀ i∈vs,S.msF i=false) (h2:FJ e=true) (h3:∀ env whole,isTrue e env whole=(do let v<-whole;standAt e.pos;holding [v] (truthy v)))
  (h:∀ {Wx} X M,XS X P w K mg base lvl S Wx->MS M K S Wx->PE X e (tE M f vs)):A8 P w K mg base lvl S e f vs:=
 ⟨h1,h2,λ X M xs m=>⟨h X M xs m,J0 (V9 (h X M xs m) λ wh=>h3 _ wh) λ σ H Q q=>O3 q⟩⟩
def Fy {vs vs':List Nat} (h1:∀ i∈vs,S.msF i=false) (h2:∀ i∈vs',S.msF i=false):∀ i∈vs++vs',S.msF i=false:=λ i hi=>(jb8.mp hi).elim (h1 i) (h2 i)
def Ye {a b:Expr}{op:DS}{o:PV->Nat->PV->Nat->Option (PV×Nat)}{pos:Pos} (ho:Oe b op=some o) (ga:A8 P w K mg base lvl S a f vs) (gb:A8 P w K mg base lvl S b g vs'):A8 P w K mg base lvl S (.Compare a [op] [b] pos) (Ab o f g) (vs++vs'):=by
 refine ⟨Fy ga.1 gb.1,rfl,λ X M xs m=>?_⟩;obtain ⟨r,hr,hn,hi⟩:=XQ (X:=X) (M:=M) (f:=f) (g:=g) (vs:=vs) (vs':=vs') ho xs.room.units (m.v ga.1) (m.k xs);have ha:=(ga.2.2 X M xs m).1;have hb:=(gb.2.2 X M xs m).1;exact ⟨Bg (WL hr ha hb hn) hi,J0 (Xv hr ha hb hn) λ σ H Q q=>hi σ H _ (O3 q)⟩
def ZF {a b c:Expr}{op op':DS}{p q:Int->Int->Bool}{h:Fx}{v3:List Nat}{pos:Pos} (h1:ER op=some p) (h2:ER op'=some q) (ga:A8 P w K mg base lvl S a f vs) (gb:A8 P w K mg base lvl S b g vs') (gc:A8 P w K mg base lvl S c h v3):A8 P w K mg base lvl S (.Compare a [op,op'] [b,c] pos) (DK p q f g h) []:=by
 refine ⟨λ _ z=>(nomatch z),rfl,λ X M xs m=>?_⟩;have r1:=Qr (X:=X) h1;have r2:=Qr (X:=X) h2;have ha:=(ga.2.2 X M xs m).1;have hb:=(gb.2.2 X M xs m).1;have hc:=(gc.2.2 X M xs m).1;exact ⟨Bg (Yk r1.1 r2.1 ha hb hc (Gz _ r2.2.1 r2.2.2)) λ σ H Q q=>Qd q,J0 (Ys r1.1 r2.1 ha hb hc (Gz _ r2.2.1 r2.2.2)) λ σ H Q q=>Qd (vs:=[]) (O3 q)⟩
def Yg {a:Expr}{pos:Pos} (ga:A8 P w K mg base lvl S a f vs):A8 P w K mg base lvl S (.UnaryOp .Not a pos) (Au BK f) vs:=
 ⟨ga.1,rfl,λ X M xs m=>⟨Bg (V5 (ga.2.2 X M xs m).1) λ σ H Q q=>Xm q,J0 (V8 (ga.2.2 X M xs m).2) λ σ H Q q=>XD q⟩⟩
theorem Qn {d:Expr->Option D2} (hd:∀ e f vs,d e=some (f,vs)->A8 P w K mg base lvl S e f vs) {pos:Pos}:∀ (es:List Expr) (f:Fx) (vs:List Nat),Mz d es=some (f,vs)->(∀ i∈vs,S.msF i=false)/\∀ {Wx} X M,XS X P w K mg base lvl S Wx->MS M K S Wx->PE X (.BoolOp .And es pos) (tE M f vs)/\PW X (.BoolOp .And es pos) (tT M (bT f))
 | [],f,vs,h=>by cases h
 | [e],f,vs,h=>by
  have g:=hd e f vs h;exact ⟨g.1,λ X M xs m=>⟨RJ (g.2.2 X M xs m).1,Xy (g.2.2 X M xs m).2⟩⟩
 | e::e'::es,f,vs,h=>by
  unfold Mz at h;split at h
  ·rename_i f1 v1 f2 v2 h1 h2;cases h;have g1:=hd e f1 v1 h1;have g2:=Qn hd (pos:=pos) (e'::es) f2 v2 h2;exact ⟨Fy g1.1 g2.1,λ X M xs m=>⟨Bg (V4 (g1.2.2 X M xs m).1 (g2.2 X M xs m).1) λ σ H Q q=>Xk q,RN (VA (g1.2.2 X M xs m).2 (g2.2 X M xs m).2) λ σ H Q q=>XA q⟩⟩
  ·cases h
theorem P7 {d:Expr->Option D2} (hd:∀ e f vs,d e=some (f,vs)->A8 P w K mg base lvl S e f vs) {pos:Pos}:∀ (es:List Expr) (f:Fx) (vs:List Nat),Mn d es=some (f,vs)->(∀ i∈vs,S.msF i=false)/\∀ {Wx} X M,XS X P w K mg base lvl S Wx->MS M K S Wx->PE X (.BoolOp .Or es pos) (tE M f vs)/\PW X (.BoolOp .Or es pos) (tT M (bT f))
 | [],f,vs,h=>by cases h
 | [e],f,vs,h=>by
  have g:=hd e f vs h;exact ⟨g.1,λ X M xs m=>⟨RJ (g.2.2 X M xs m).1,VB (g.2.2 X M xs m).2⟩⟩
 | e::e'::es,f,vs,h=>by
  unfold Mn at h;split at h
  ·rename_i f1 v1 f2 v2 h1 h2;cases h;have g1:=hd e f1 v1 h1;have g2:=P7 hd (pos:=pos) (e'::es) f2 v2 h2;exact ⟨Fy g1.1 g2.1,λ X M xs m=>⟨Bg (UA (g1.2.2 X M xs m).1 (g2.2 X M xs m).1) λ σ H Q q=>VR q,RN (UD (g1.2.2 X M xs m).2 (g2.2 X M xs m).2) λ σ H Q q=>Wg q⟩⟩
  ·cases h
theorem FC {d:Expr->Option D2} (hd:∀ e f vs,d e=some (f,vs)->A8 P w K mg base lvl S e f vs):∀ (es:List Expr) (fa:Fa) (vs:List Nat),EA d es=some (fa,vs)->(∀ i∈vs,S.msF i=false)/\es.all FJ=true/\∀ {Wx} X M,XS X P w K mg base lvl S Wx->MS M K S Wx->PA X es (tL M fa vs)
 | [],fa,vs,h=>by cases h;exact ⟨λ _ z=>(nomatch z),rfl,λ X M _ _=>VH⟩
 | e::es,fa,vs,h=>by
  unfold EA at h;split at h
  ·rename_i f1 v1 f2 v2 h1 h2;cases h;have g1:=hd e f1 v1 h1;have g2:=FC hd es f2 v2 h2;exact ⟨Fy g1.1 g2.1,by rw [Fi,g1.2.1,g2.2.1];rfl,λ X M xs m=>WZ (m.v g1.1) (g1.2.2 X M xs m).1 (g2.2.2 X M xs m) (CD (CF g1.2.1))⟩
  ·cases h
def MV (scope:AX) (env:Env):GP scope env=Em scope env.scope:=rfl
theorem MK {x:Str}{k:CO}{sc:AX}:∀ (l:List (Str×CO)),(k=.cell\/k=.free)->(l.map λ (n,k)=>if (k == NameKind.free && sc.kind == .function && sc.names.lookup n == some .cell) then (n,NameKind.cell) else (n,k)).lookup x=some k->(x,NameKind.free)∈l\/(x,NameKind.cell)∈l
 | [],_,h=>by simp at h
 | (n,j)::r,hk,h=>by
  rw [C8] at h;have ih:=MK (x:=x) (k:=k) (sc:=sc) r hk;dsimp only at h;by_cases hj:(j == NameKind.free && sc.kind == .function && sc.names.lookup n == some .cell)=true
  ·rw [if_pos hj,DH] at h;split at h
   ·rename_i hx;rw [AL,AL] at hj;have e1:x=n:=eq_of_beq hx;have e2:j=.free:=eq_of_beq hj.1.1;rw [e1,e2];exact .inl AI
   ·exact (ih h).imp (AA _) (AA _)
  ·rw [if_neg hj,DH] at h;split at h
   ·rename_i hx;have e1:x=n:=eq_of_beq hx;have e2:j=k:=Option.some.inj h;rcases hk with z | z
    ·rw [e1,e2,z];exact .inr AI
    ·rw [e1,e2,z];exact .inl AI
   ·exact (ih h).imp (AA _) (AA _)
theorem Im (sc':AX):∀ (N:List Str) (i:Nat),(GN sc' i N).length=N.length
 | [],_=>rfl
 | x::r,i=>by rw [GN,BP,Im sc' r (i + 1),BP]
structure ChkOk (S:Sx) (scope:AX) (xs:List Str) (vI:List Nat):Prop where
 kind:scope.kind=.function
 dis:∀ x,(x,NameKind.free)∈scope.names->(x,NameKind.cell)∉scope.names
 names:∀ x∈scope.names,x.2=.local->scope.names.lookup x.1=some .local
 free:∀ x∈scope.names,x.2=.free->S.sc.names.lookup x.1=some .cell\/S.sc.names.lookup x.1=some .free
 capt:∀ (i:Nat) (x:Str),i < S.N.length->(AO S scope xs vI).N[i]?=some x->Hb (Em scope S.sc) x->S.N[i]?=some x/\Hb S.sc x/\(x,NameKind.free)∈scope.names/\(Em scope S.sc).names.lookup x≠some .local
 nd:(AO S scope xs vI).N.Nodup
 loc:∀ x∈xs,(Em scope S.sc).names.lookup x=some .local\/((Em scope S.sc).names.lookup x=some .cell/\(x,NameKind.cell)∈scope.names)
 pos:S.N.length≠0
 ms:∀ i∈S.ms,i < S.N.length
def X3 {sc:AX}{x:Str} (h:Hb sc x):CN sc x=true:=by
 unfold CN CW;rcases h with h | h | h <;> rw [h] <;> simp
def Rn {scope:AX}{xs:List Str}{vI:List Nat} (h:Ll S scope xs vI=true):ChkOk S scope xs vI:=by
 unfold Ll at h;simp only [AL,decide_eq_true_eq,jc4,bne_iff_ne,ne_eq,EL] at h;obtain ⟨⟨⟨⟨⟨⟨⟨⟨h1,h2⟩,h3⟩,h4⟩,h5⟩,h6⟩,h7⟩,h8⟩,h9⟩:=h;refine ⟨h1,λ x hx hz=>(h2 (x,.free) hx).elim (λ z=>z rfl) λ z=>?_,λ x hx he=>(h3 x hx).elim (λ z=>absurd he z) λ z=>eq_of_beq z,λ x hx he=>(h4 x hx).elim (λ z=>absurd he z) λ z=>z.elim (λ z=>.inl (eq_of_beq z)) λ z=>.inr (eq_of_beq z),λ i x hi e hv=>?_,h6,λ x hx=>(h7 x hx).imp Fz λ z=>⟨Fz z.1,by simpa using z.2⟩,h8,h9⟩
 ·have z':(!(scope.names.contains (x,NameKind.cell)))=true:=z
  have:scope.names.contains (x,NameKind.cell)=true:=by simpa using hz
  rw [this] at z';cases z'
 have q:=h5 i (jd5.mpr hi);rw [e] at q;dsimp only at q;rw [EL] at q;rcases q with q | q
 ·have:CN (Em scope S.sc) x=true:=X3 hv
  have q':(!CN (Em scope S.sc) x)=true:=q;rw [this] at q';cases q'
 ·simp only [AL,decide_eq_true_eq,Kx] at q;obtain ⟨⟨⟨q1,q2⟩,q3⟩,q4⟩:=q;refine ⟨q1,RH q2,by simpa using q3,λ z=>?_⟩
  have:CW (Em scope S.sc) x .local=true:=by unfold CW;rw [z];simp
  have q4':CW (Em scope S.sc) x .local=false:=q4;rw [this] at q4';cases q4'
def ChkOk.comp {scope:AX}{ys:List Str}{vI:List Nat} (c:ChkOk S scope ys vI) (xs:XS X P w K mg base lvl S Wx):CompOk X scope (AO S scope ys vI).N ys.length where
 kind:=c.kind
 dis:=c.dis
 names:=c.names
 len:=by
  show (GN _ 0 S.N++ys).length=_;rw [Bn,Im,xs.N]
 free:=λ x hx he=>by
  show X.env.scope.names.lookup x.1=_\/X.env.scope.names.lookup x.1=_;rw [xs.sc];exact c.free x hx he
 kinds:=λ x h=>by
  rcases h with h | h
  ·exact MK (sc:=X.env.scope) scope.names (.inl rfl) h
  ·exact MK (sc:=X.env.scope) scope.names (.inr rfl) h
 capt:=λ i x hi e hv=>by
  rw [MV,xs.sc] at hv ⊢;rw [xs.N] at hi ⊢;exact c.capt i x hi e hv
def ChkOk.xs {scope:AX}{ys:List Str}{vI:List Nat} (c:ChkOk S scope ys vI) (xs:XS X P w K mg base lvl S Wx) (s2:Ah) (H2:Hp) (C:Addr) (fp:List Addr) (pins:List (Addr×Obj)):XS (Ba X s2 H2 scope C (AO S scope ys vI).N fp pins) P w K mg base lvl (AO S scope ys vI) W0:=
 ⟨xs.prog,xs.w,xs.K,xs.mg,xs.base,rfl,by show GP scope X.env=_;rw [MV,xs.sc];rfl,xs.calm,xs.room,PassesOwn.never,RB,λ h=>nomatch h⟩
def MT {scope:AX}{ys:List Str}{vI:List Nat} (i:Nat):(AO S scope ys vI).alF i=if i < S.N.length then S.alF i else if i < S.N.length + ys.length then vI else []:=by
 unfold Sx.alF AO;dsimp only;rw [BR];by_cases h:i < S.N.length
 ·rw [CU (by simpa using h),if_pos h];simp [h,Sx.alF,BR]
 ·rw [Gn (by simpa using h),if_neg h,Fl];simp only [A9,Kw];by_cases h2:i < S.N.length + ys.length
  ·rw [if_pos h2,if_pos (by omega)];rfl
  ·rw [if_neg h2,if_neg (by omega)];rfl
def ChkOk.ms' {scope:AX}{ys:List Str}{vI:List Nat} (c:ChkOk S scope ys vI) (m:MS M K S Wx) (hv:∀ i∈vI,S.msF i=false) (D:Addr):MS (M.comp D S.N.length vI) K (AO S scope ys vI) W0 where
 W:=rfl
 K:=m.K
 ms:=m.ms
 al:=λ i hi=>by
  rw [MT];show (if i < S.N.length then M.al i else vI)=_;have hl:(AO S scope ys vI).N.length=S.N.length + ys.length:=by
   show (GN _ 0 S.N++ys).length=_;rw [Bn,Im]
  rw [hl] at hi;by_cases h:i < S.N.length
  ·rw [if_pos h,if_pos h];exact m.al i h
  ·rw [if_neg h,if_neg h,if_pos hi]
 pn:=λ p hp=>by
  have h:=m.pn p hp;show p.1 < (GN _ 0 S.N++ys).length;rw [Bn,Im];omega
 als:=λ i j hj=>by
  have hj':j∈(if i < S.N.length then M.al i else vI):=hj;show M.Ms j=false;by_cases h:i < S.N.length
  ·rw [if_pos h] at hj';exact m.als i j hj'
  ·rw [if_neg h] at hj';rw [m.ms];exact hv j hj'
theorem Lo {n:Nat}{iter:Expr}{env:Env}{f:Fx}{vs:List Nat} (h:(∀ a b c,iter≠.Set a b c)):∀ x,LO iter env x=pure x:=by
 intro x;cases iter with
 | Set a b c=>exact absurd rfl (h a b c)
 | _=>rfl
end
section
variable {X:Cx}{P:A3}{w:Az}{K:Frag}{mg:Str->Option Ae}{base:Heap}{lvl:Nat}{S:Sx}{Wx:St->Nat->Hp->Prop}{M:Fm}{f g:Fx}{vs vs':List Nat}{σ:St}{H:Hp}{Q:VK}
def XF {T:Str}{t:String} (h:HC T=some t):t∈Gp/\T∈zvg/\HA T=some (.type t)/\(T == ("__debug__" : Str))=false/\T ≠ "__name__" := by
 unfold HC at h;split at h
 ·rename_i e;cases h;rw [e];exact ⟨by decide,by decide +kernel,rfl,by decide +kernel,by decide +kernel⟩
 ·split at h
  ·rename_i e;cases h;rw [e];exact ⟨by decide,by decide +kernel,rfl,by decide +kernel,by decide +kernel⟩
  ·split at h
   ·rename_i e;cases h;rw [e];exact ⟨by decide,by decide +kernel,rfl,by decide +kernel,by decide +kernel⟩
   ·split at h
    ·rename_i e;cases h;rw [e];exact ⟨by decide,by decide +kernel,rfl,by decide +kernel,by decide +kernel⟩
    ·split at h
     ·rename_i e;cases h;rw [e];exact ⟨by decide,by decide +kernel,rfl,by decide +kernel,by decide +kernel⟩
     ·split at h
      ·rename_i e;cases h;rw [e];exact ⟨by decide,by decide +kernel,rfl,by decide +kernel,by decide +kernel⟩
      ·cases h
def VM {x:Str}{o:List (PV×Nat)->Option (PV×Nat)}{e:Expr}{es:List Expr}{fa:Fa}{p pos:Pos} (h:Od x=some o) (xs:XS X P w K mg base lvl S Wx) (m:MS M K S Wx) (hb:∀ x∈zvg,mg x=none) (hg:S.glob x=true) (hs:(e::es).all FJ=true) (ha:PA X (e::es) (tL M fa vs)):
  PE X (.Call (.Name x p) (e::es) [] pos) (tE M (Aj o fa) vs):=by
 rw [Fi,AL] at hs;have h1:Ax (e::es) X.env=(false,eval e X.env)::Ax es X.env:=CD (CF hs.1);have h2:(Cz pos (Ax es X.env)).any (·.1)=false:=J6 hs.2;have hm:∀ x∈zvg,X.mg x=none:=λ x hx=>by rw [xs.mg];exact hb x hx
 unfold Od at h;split at h
 ·rename_i ex;cases h;subst ex;exact Ws (m.k xs) (xs.gl hg) (hm _ (by decide +kernel)) ha h1 h2
 ·split at h
  ·rename_i ex;cases h;subst ex;exact VL xs.calm (xs.gl hg) (hm _ (by decide +kernel)) ha h1 h2
  ·split at h
   ·rename_i ex;cases h;subst ex;exact Xg xs.calm (xs.gl hg) (hm _ (by decide +kernel)) ha h1 h2
   ·split at h
    ·rename_i ex;cases h;subst ex;exact Xh xs.calm (xs.gl hg) (hm _ (by decide +kernel)) ha h1 h2
    ·split at h
     ·rename_i ex;cases h;subst ex;exact Xi xs.calm (xs.gl hg) (hm _ (by decide +kernel)) ha h1 h2
     ·split at h
      ·rename_i ex;cases h;subst ex;exact Xj (m.k xs) (xs.gl hg) (hm _ (by decide +kernel)) ha h1 h2
      ·split at h
       ·rename_i ex;cases h;subst ex;exact Xe (m.k xs) (xs.gl hg) (hm _ (by decide +kernel)) ha h1 h2
       ·split at h
        ·rename_i ex;cases h;subst ex;exact Xc (xs.gl hg) (hm _ (by decide +kernel)) ha h1 h2
        ·cases h
def Gx (P:A3) (w:Az) (K:Frag) (mg:Str->Option Ae) (base:Heap) (lvl:Nat) (S:Sx) (it:Expr) (iw:Iw):Prop:=
 (∀ i∈iw.vs,S.msF i=false)/\(∀ a b c,it≠.Set a b c)/\∀ {Wx} X M,XS X P w K mg base lvl S Wx->MS M K S Wx->∀ tg,(match iw with
  | .rng en fa vs=>(en=BL/\PI X tg it (Mr (tL M fa vs)))\/(en=EB/\PI X tg it (Mt (tL M fa vs)))
  | .seq f vs=>PI X tg it (ES M.K (tE M f vs))
  | .vw v fa vs=>False)
def Y5 {it:Expr} (g:A8 P w K mg base lvl S it f vs) (hs:∀ a b c,it≠.Set a b c):Gx P w K mg base lvl S it (.seq f vs):=
 ⟨g.1,hs,λ X M xs m tg=>by
  show PI X tg it (ES M.K (tE M f vs));rw [m.k xs];exact V6 (g.2.2 X M xs m).1⟩
def Lm {d:Expr->Option D2} (hd:∀ e f vs,d e=some (f,vs)->A8 P w K mg base lvl S e f vs) (hset:∀ a b c,d (.Set a b c)=none) (hb:∀ x∈zvg,mg x=none) {it:Expr}{iw:Iw} (h:Ef d S it=some iw):Gx P w K mg base lvl S it iw:=by
 have seq:∀ {it:Expr}{iw:Iw},(match d it with
   | some (f,vs)=>some (Iw.seq f vs)
   | none=>none)=some iw->Gx P w K mg base lvl S it iw:=λ {it iw} h=>by
  cases e:d it with
  | none=>rw [e] at h;cases h
  | some p=>
   obtain ⟨f,vs⟩:=p;rw [e] at h;cases h;exact Y5 (hd _ _ _ e) λ a b c z=>by rw [z,hset] at e;cases e
 unfold Ef at h;split at h
 ·rename_i x p a pos;split at h
  ·rename_i hc;obtain ⟨rfl,hg⟩:=hc;split at h
   ·rename_i fa vs e;cases h;have g:=FC hd _ _ _ e;refine ⟨λ _ z=>(nomatch z),λ _ _ _ z=>(nomatch z),λ X M xs m tg=>.inl ⟨rfl,?_⟩⟩;have hs:=g.2.1;simp only [Fi,Tb,OG] at hs;exact Zw (xs.gl hg) (by rw [xs.mg];exact hb _ (by decide +kernel)) (g.2.2 X M xs m) (CD (CF hs))
   ·cases h
  ·exact seq h
 ·rename_i x p a b pos;split at h
  ·rename_i hc;obtain ⟨rfl,hg⟩:=hc;split at h
   ·rename_i fa vs e;cases h;have g:=FC hd _ _ _ e;refine ⟨λ _ z=>(nomatch z),λ _ _ _ z=>(nomatch z),λ X M xs m tg=>.inr ⟨rfl,?_⟩⟩;have hs:=g.2.1;simp only [Fi,Tb,OG,AL] at hs;have s2:Ax [b] X.env=[(false,eval b X.env)]:=CD (CF hs.2);exact Zx (xs.gl hg) (by rw [xs.mg];exact hb _ (by decide +kernel)) (g.2.2 X M xs m) (by rw [CD (CF hs.1),s2]) s2
   ·cases h
  ·exact seq h
 ·exact seq h
def YO {σ:St}{H:Hp}{Q:Bool->Hp->Prop} (h:∃ M',MS M' K S Wx/\tT M' Cv σ H Q):Q true H:=by
 obtain ⟨M',_,ρ,fps,rep,q⟩:=h;exact q H fps KD.refl Agr.refl rep
structure CompParts (P:A3) (w:Az) (K:Frag) (mg:Str->Option Ae) (base:Heap) (lvl:Nat) (S:Sx) (scope:AX) (tg:Expr) (ys:List Str) (asg:PV->Ag->Option Ag) (it elt:Expr) (ifs:List Expr) (iw:Iw) (t:Fb) (g:Fx) (vE:List Nat):Prop where
 tga:LU S.N.length tg=some (ys,asg)
 two:FT tg iw=true
 chk:ChkOk S scope ys iw.vs
 iwo:Gx P w K mg base lvl S it iw
 elt:A8 P w K mg base lvl (AO S scope ys iw.vs) elt g vE
 ifs:∀ {Wx} X M,XS X P w K mg base lvl (AO S scope ys iw.vs) Wx->MS M K (AO S scope ys iw.vs) Wx->Gu X ifs (λ σ H Q=>∃ M',MS M' K (AO S scope ys iw.vs) Wx/\tT M' t σ H Q)
def RV {scope:AX}{tg:Expr}{ys:List Str}{asg:PV->Ag->Option Ag}{it elt:Expr}{ifs:List Expr}{iw:Iw}{t:Fb}{vE:List Nat} (c:CompParts P w K mg base lvl S scope tg ys asg it elt ifs iw t g vE):∀ i∈iw.vs++vE.filter (λ i=>decide (i < S.N.length)),S.msF i=false:=
 Fy c.iwo.1 λ i hi=>c.elt.1 i (ji3.mp hi).1
theorem Pp {X':Cx}:∀ {es:List Expr}{ys:List Str}{n:Nat},Ls es=some ys->X'.N.Nodup->(∀ j y,ys[j]?=some y->X'.N[n + j]?=some y)->(∀ y∈ys,DJ X'.env.scope y/\(X'.fn y=true\/X'.env.scope.names.lookup y=some .local))->Jk X' es (IG (Ko n ys.length))/\(DD es X'.env).length=ys.length/\(DD es X'.env).findIdx? (·.1)=none
 | [],ys,n,h,_,_,_=>by cases h;exact ⟨Sq,rfl,rfl⟩
 | e::es,ys,n,h,hN,hi,hl=>by
  unfold Ls at h;split at h
  ·cases ‹_::_=[]›
  ·rename_i x px r heq;cases heq;obtain ⟨zs,h2,rfl⟩:=jb0.mp h;have hx:=hl x AI;obtain ⟨h1,h3,h4⟩:=Pp (n:=n + 1) h2 hN (λ j y e=>by rw [show n + 1 + j=n + (j + 1) by omega];exact hi (j + 1) y (by simpa using e)) λ y hy=>hl y (AA _ hy);rw [BP,List.range'_succ];refine ⟨PU (Lv hN (by have:=hi 0 x rfl;simpa using this) hx.1 hx.2) h1 rfl,by rw [DD,BP,h3] <;> (intros;contradiction),?_⟩;rw [DD,OO,h4] <;> first | rfl | (intros;contradiction)
  ·cases h
theorem Qu {scope:AX}{tg:Expr}{ys:List Str}{asg:PV->Ag->Option Ag}{pos:Pos}{it elt:Expr}{ifs:List Expr}{iw:Iw}{t:Fb}{vE:List Nat} (c:CompParts P w K mg base lvl S scope tg ys asg it elt ifs iw t g vE) (xs:XS X P w K mg base lvl S Wx) (m:MS M K S Wx):
  ∃ wi gg,PI X tg it wi/\CompOk X scope (AO S scope ys iw.vs).N ys.length/\(∀ s2 H2 C fp pins,PG (Ba X s2 H2 scope C (AO S scope ys iw.vs).N fp pins) tg gg) /\
   (∀ s2 H2 C fp pins,Gu (Ba X s2 H2 scope C (AO S scope ys iw.vs).N fp pins) ifs (λ σ H Q=>∃ M',MS M' K (AO S scope ys iw.vs) W0/\tT M' t σ H Q)) /\
   (∀ s2 H2 C fp pins,PE (Ba X s2 H2 scope C (AO S scope ys iw.vs).N fp pins) elt (λ σ H Q=>∃ M',MS M' K (AO S scope ys iw.vs) W0/\tE M' g vE σ H Q)) /\
   ∀ σ H Q,σ.length=S.N.length->tE M (Kc iw ys.length asg t g) (iw.vs++vE.filter (λ i=>decide (i < S.N.length))) σ H Q ->
    IW ys.length wi gg (λ σ H Q=>∃ M',MS M' K (AO S scope ys iw.vs) W0/\tT M' t σ H Q) (λ σ H Q=>∃ M',MS M' K (AO S scope ys iw.vs) W0/\tE M' g vE σ H Q) σ H Q:=by
 have hvI:=m.v c.iwo.1;have hP:∀ D,MS (M.comp D S.N.length iw.vs) K (AO S scope ys iw.vs) W0:=λ D=>c.chk.ms' m c.iwo.1 D;have hvE:∀ i∈vE,M.Ms i=false:=λ i hi=>by rw [m.ms];exact c.elt.1 i hi
 have hvo:∀ i,i∈vE->i < S.N.length->i∈iw.vs++vE.filter (λ i=>decide (i < S.N.length)):=λ i h1 h2=>AR _ (ji3.mpr ⟨h1,by simpa using h2⟩);have hvo2:=m.v (RV c);have bd:∀ D i,S.N.length<=i->Bd (M.comp D S.N.length iw.vs) iw.vs i:=λ D i hi=>⟨by
   show M.Ms i=false;rw [m.ms];unfold Sx.msF;cases e:S.ms.contains i with
   | false=>rfl
   | true=>exact absurd (c.chk.ms _ (by simpa using e)) (by omega),⟨λ _=>by have:=c.chk.pos;omega,λ p hp=>by have:=m.pn p hp;omega⟩,if_neg (by omega),(hP D).als⟩
 have hix:∀ j y,ys[j]?=some y->(AO S scope ys iw.vs).N[S.N.length + j]?=some y:=λ j y e=>by
  show (GN _ 0 S.N++ys)[S.N.length + j]?=some y;rw [Gn (by rw [Im];omega),Im];simpa using e
 have hloc:∀ s2 H2 C fp pins,∀ y∈ys,DJ (Ba X s2 H2 scope C (AO S scope ys iw.vs).N fp pins).env.scope y/\((Ba X s2 H2 scope C (AO S scope ys iw.vs).N fp pins).fn y=true\/(Ba X s2 H2 scope C (AO S scope ys iw.vs).N fp pins).env.scope.names.lookup y=some .local):=λ s2 H2 C fp pins y hy=>by
  have e:(Ba X s2 H2 scope C (AO S scope ys iw.vs).N fp pins).env.scope=Em scope S.sc:=by
   show GP scope X.env=_;rw [MV,xs.sc]
  rw [e];rcases c.chk.loc y hy with z | z
  ·exact ⟨.inl z,.inr z⟩
  ·exact ⟨.inr z.1,.inl (by show scope.names.contains (y,NameKind.cell)=true;simpa using z.2)⟩
 have hpe:∀ s2 H2 C fp pins,PE (Ba X s2 H2 scope C (AO S scope ys iw.vs).N fp pins) elt (λ σ H Q=>∃ M',MS M' K (AO S scope ys iw.vs) W0/\tE M' g vE σ H Q):=λ s2 H2 C fp pins pi s σ H Q I ⟨M',m',q⟩=>
  (c.elt.2.2 _ M' (c.chk.xs xs s2 H2 C fp pins) m').1 pi s σ H Q I q
 have hpt:∀ s2 H2 C fp pins,Gu (Ba X s2 H2 scope C (AO S scope ys iw.vs).N fp pins) ifs (λ σ H Q=>∃ M',MS M' K (AO S scope ys iw.vs) W0/\tT M' t σ H Q):=λ s2 H2 C fp pins=>c.ifs _ (M.comp 0 S.N.length iw.vs) (c.chk.xs xs s2 H2 C fp pins) (hP 0);have tgp:∃ is gg,(∀ i∈is,S.N.length<=i)/\(∀ D,D7 (M.comp D S.N.length iw.vs) iw.vs is gg asg)/\∀ s2 H2 C fp pins,PG (Ba X s2 H2 scope C (AO S scope ys iw.vs).N fp pins) tg gg:=by
  have ht:=c.tga;unfold LU at ht;split at ht
  ·rename_i y py;cases ht;refine ⟨[S.N.length],DO S.N.length,λ i hi=>by rw [jb6.mp hi];exact Bc _,λ D=>R3 (bd D _ (Bc _)),λ s2 H2 C fp pins=>?_⟩;exact Lv c.chk.nd (hix 0 y rfl) (hloc s2 H2 C fp pins y (by simp)).1 (hloc s2 H2 C fp pins y (by simp)).2
  ·rename_i es k tp;obtain ⟨zs,h2,e⟩:=jb0.mp ht;cases e;refine ⟨Ko S.N.length ys.length,Ie M.K ys.length (IG (Ko S.N.length ys.length)),λ i hi=>(jm4.mp hi).1,λ D=>?_,λ s2 H2 C fp pins=>?_⟩
   ·have:=Oa (M:=M.comp D S.N.length iw.vs) (al:=iw.vs) (is:=Ko S.N.length ys.length) λ i hi=>bd D i (jm4.mp hi).1
    rw [List.length_range'] at this;exact this
   ·obtain ⟨h1,h3,h4⟩:=Pp (X':=Ba X s2 H2 scope C (AO S scope ys iw.vs).N fp pins) (n:=S.N.length) h2 c.chk.nd hix (hloc s2 H2 C fp pins)
    have:=Oz (X:=Ba X s2 H2 scope C (AO S scope ys iw.vs).N fp pins) (pos:=tp) (k:=k) xs.calm h1 h3 h4
    have e:(Ba X s2 H2 scope C (AO S scope ys iw.vs).N fp pins).K=M.K:=(m.k xs).symm;rw [e] at this;exact this
  ·cases ht
 obtain ⟨is,gg,his,hg,hpg⟩:=tgp;have hw:=c.iwo.2.2 X M xs m tg;have htw:=c.two;cases iw with
 | rng en fa vs=>
  rcases hw with ⟨rfl,hw⟩ | ⟨rfl,hw⟩
  ·exact ⟨_,gg,hw,c.chk.comp xs,hpg,hpt,hpe,λ σ H Q hl hq=>Y2 hl hP m.als hvI hvE his hg hvo hvo2 hq⟩
  ·exact ⟨_,gg,hw,c.chk.comp xs,hpg,hpt,hpe,λ σ H Q hl hq=>Y3 hl hP m.als hvI hvE his hg hvo hvo2 hq⟩
 | seq f vs=>exact ⟨_,gg,hw,c.chk.comp xs,hpg,hpt,hpe,λ σ H Q hl hq=>Y4 hl hP m.als hvI hvE his hg hvo hvo2 hq⟩
 | vw v fa vs=>exact hw.elim
def RD {e:Expr}{t t':TE} (h:PE X e t) (i:∀ σ H Q,σ.length=X.N.length->t' σ H Q->t σ H Q):PE X e t':=λ pins s σ H Q I q=>h pins s σ H Q I (i σ H Q I.len q)
def V7 {e:Stmt}{t t':TS} (h:PS X e t) (i:∀ D σ H,σ.length=X.N.length->t' D σ H->t D σ H):PS X e t':=λ pins s σ H D I q=>h pins s σ H D I (i D σ H I.len q)
def Zd {scope:AX}{tg:Expr}{ys:List Str}{asg:PV->Ag->Option Ag}{pos:Pos}{it elt:Expr}{ifs:List Expr}{iw:Iw}{t:Fb}{vE:List Nat} (c:CompParts P w K mg base lvl S scope tg ys asg it elt ifs iw t g vE):A8 P w K mg base lvl S (.ListComp elt [⟨tg,it,ifs,0⟩] scope pos) (Kc iw ys.length asg t g) (iw.vs++vE.filter (λ i=>decide (i < S.N.length))):=by
 refine Cw (RV c) rfl (λ _ _=>rfl) λ X M xs m=>?_;obtain ⟨wi,gg,h1,h2,h3,h4,h5,h6⟩:=Qu (pos:=pos) c xs m;exact RD (So h2 xs.calm h1 h3 h4 h5 (Lo (n:=0) (f:=g) (vs:=[]) c.iwo.2.1)) λ σ H Q hl q=>h6 σ H Q (by rw [hl,xs.N]) q
def Qo {d:Expr->Option D2} (hd:∀ e f vs,d e=some (f,vs)->A8 P w K mg base lvl S e f vs) {ifs:List Expr}{t:Fb} (h:M0 d ifs=some t) (X:Cx) (M:Fm) (xs:XS X P w K mg base lvl S Wx) (m:MS M K S Wx):Gu X ifs (λ σ H Q=>∃ M',MS M' K S Wx/\tT M' t σ H Q):=by
 unfold M0 at h;split at h
 ·cases h;intro pins s σ H Q I q;exact Xw pins s σ H Q I (YO q)
 ·obtain ⟨p,e,rfl⟩:=jb0.mp h;obtain ⟨f,vs⟩:=p;have g:=hd _ _ _ e;intro pins s σ H Q I ⟨M',m',q⟩;exact Xx (g.2.2 X M' xs m').2 pins s σ H Q I q
 ·cases h
def Ln (n:Nat) (S:Sx) (a:List Expr) (b:Nat) (c:Pos):AN n S (.Set a b c)=none:=by
 cases n <;> rfl
def Qz {e:Expr} (h:FJ e=true) (env:Env) (cpos:Pos):((Cz cpos (Ax [e] env)).all (λ x=>!x.1) && (backToKw cpos (keywordEach [] env)).all (λ x=>x.1.isSome)
   && decide (([e]:List Expr).length + ([]:List Hx).length + (if ([]:List Hx).isEmpty then 0 else 1) < 30))=true:=by
 have:Ax [e] env=[(false,eval e env)]:=CD (CF h)
 rw [this];rfl
def Uq {T:Str}{c:Nat} (h:XN.findIdx? (·== T)=some c):XN[c]?=some T:=by
 obtain ⟨hlt,h1,_⟩:=jh1.mp h;rw [Dn hlt];exact congrArg some (eq_of_beq h1)
def SU {T:Str}{n:Nat} (GX:GX K mg S.xc) (hb:∀ x∈zvg,mg x=none) (h:Mm S T=some n) (xs:XS X P w K mg base lvl S Wx):By X.K=true/\∃ cv,(∀ p2,PE X (.Name T p2) (tC cv))/\∀ u,RelV cv u->Cu X.K n u=true:=by
 unfold Mm at h;split at h
 ·rename_i hc;obtain ⟨hg,hx⟩:=hc;obtain ⟨_,hk,hcs⟩:=GX hx;refine ⟨by rw [xs.K];exact hk,?_⟩;split at h
  ·rename_i eT;subst eT;cases h;refine ⟨.ty "ValueError",λ p2=>Sn (xs.gl hg) (by rw [xs.mg];exact hb _ (by decide +kernel)) (u:=.type "ValueError") rfl rfl (by decide) (by decide),λ u r=>?_⟩;cases r;unfold Cu;rfl
  ·split at h
   ·rename_i hc;split at h
    ·rename_i hm;cases h;obtain ⟨x',C,h1,h2,h3,h4⟩:=hcs n (by simpa using hm);have ex:x'=T:=by
      have:=Uq hc
      rw [h1] at this;exact Option.some.inj this
     subst ex;refine ⟨.ref C,λ p2=>WM (xs.gl hg) (by rw [xs.mg];exact h3) rfl h4,λ u r=>?_⟩;cases r;unfold Cu;rw [xs.K,h2];simp
    ·cases h
   ·cases h
 ·cases h
theorem Ql (GX:GX K mg S.xc) (hb:∀ x∈zvg,mg x=none) (xs:XS X P w K mg base lvl S Wx):∀ {es:List Expr}{ns:List Nat},My S es=some ns->es≠[]->By X.K=true/\∃ cvs,cvs.length=es.length/\PA X es (Q5 cvs)/\∀ us,Vals cvs us->E8 X.K ns us=true
 | [],_,_,hn=>absurd rfl hn
 | e::r,ns,h,_=>by
  unfold My at h;split at h
  ·rename_i T ds h1 h2;obtain ⟨n,h3,rfl⟩:=jb0.mp h;obtain ⟨p2,rfl⟩:=Df h1;obtain ⟨hk,cv,c1,c2⟩:=SU GX hb h3 xs;refine ⟨hk,?_⟩;have st:Ax (Expr.Name T p2::r) X.env=(false,eval (.Name T p2) X.env)::Ax r X.env:=rfl;by_cases hr:r=[]
   ·subst hr;cases h2;refine ⟨[cv],rfl,λ a b c d e f g h=>(Dp (c1 p2) FK st) a b c d e f g h,λ us v=>?_⟩;cases v with
    | cons r rr=>
     cases rr;unfold E8;rw [c2 _ r];rfl
   ·obtain ⟨_,cvs,l1,pa,l2⟩:=Ql GX hb xs h2 hr;refine ⟨cv::cvs,by rw [BP,BP,l1],λ a b c d e f g h=>(Dp (c1 p2) pa st) a b c d e f g h,λ us v=>?_⟩;cases v with
    | cons r rr=>
     unfold E8;rw [c2 _ r,l2 _ rr];rfl
  ·cases h
theorem IF (GX:GX K mg S.xc) (G:GS P w K mg base lvl S.Γ) (Gm:Ei P w K mg base lvl S.Γm):∀ (n:Nat) (S':Sx) (e:Expr) (f:Fx) (vs:List Nat),S'.Γ=S.Γ->S'.Γm=S.Γm->S'.xc=S.xc->(∀ i,∀ j∈S'.alF i,S'.msF j=false)->AN n S' e=some (f,vs)->A8 P w K mg base lvl S' e f vs:=by
 intro n;induction n with
 | zero=>intro S' e f vs _ _ _ _ h;cases h
 | succ n ih=>
  intro S' e f vs hΓ hΓm hX hS h;have hd:∀ e f vs,AN n S' e=some (f,vs)->A8 P w K mg base lvl S' e f vs:=λ e f vs h=>ih S' e f vs hΓ hΓm hX hS h;replace h:Fv (AN n) S' e=some (f,vs):=h;unfold Fv at h;split at h
  ·unfold K6 at h;split at h
   ·cases h;exact Cw (λ _ z=>(nomatch z)) rfl (λ _ _=>rfl) λ X M xs m=>Bg Oy λ σ H Q q=>Jt (λ K H Z=>by rw [Own];exact ⟨rfl,rfl⟩) q
   ·cases h;exact Cw (λ _ z=>(nomatch z)) rfl (λ _ _=>rfl) λ X M xs m=>Bg U9 λ σ H Q q=>Jt (λ K H Z=>by rw [Own];exact ⟨rfl,rfl⟩) q
   ·cases h;exact Cw (λ _ z=>(nomatch z)) rfl (λ _ _=>rfl) λ X M xs m=>Bg RI λ σ H Q q=>Jt (λ K H Z=>by rw [Own];exact ⟨rfl,rfl⟩) q
   ·cases h;exact Cw (λ _ z=>(nomatch z)) rfl (λ _ _=>rfl) λ X M xs m=>Bg RK λ σ H Q q=>Jt (λ K H Z=>by rw [Own];exact ⟨rfl,rfl⟩) q
   ·cases h
  ·split at h
   ·rename_i i hi;split at h
    ·cases h
    ·rename_i hm;cases h;refine Cw (λ j hj=>?_) rfl (λ _ _=>rfl) λ X M xs m=>RD (xs.var hi) λ σ H Q hl q=>?_
     ·rcases jb3.mp hj with z | z
      ·rw [z];simpa using hm
      ·exact hS i j z
     ·have hlt:i < S'.N.length:=by
       unfold Sx.slot at hi;split at hi
       ·exact (ja7.mp (La hi)).1
       ·cases hi
      rw [<- m.al i hlt] at q;exact RS q
   ·cases h
  ·split at h
   ·rename_i f1 v1 f2 v2 o h1 h2 h3;cases h;have g1:=hd _ _ _ h1;have g2:=hd _ _ _ h2;exact Cw (Fy g1.1 g2.1) rfl (λ _ _=>rfl) λ X M xs m=>UK h3 (m.v g1.1) (m.k xs) (g1.2.2 X M xs m).1 (g2.2.2 X M xs m).1
   ·cases h
  ·split at h
   ·rename_i f1 v1 h1;cases h;have g1:=hd _ _ _ h1;exact Cw g1.1 rfl (λ _ _=>rfl) λ X M xs m=>Wv (g1.2.2 X M xs m).1
   ·cases h
  ·split at h
   ·rename_i f1 v1 h1;cases h;exact Yg (hd _ _ _ h1)
   ·cases h
  ·rename_i es pos;have g:=Qn hd (pos:=pos) _ _ _ h;exact ⟨g.1,rfl,λ X M xs m=>⟨(g.2 X M xs m).1,(g.2 X M xs m).2.pt⟩⟩
  ·rename_i es pos;have g:=P7 hd (pos:=pos) _ _ _ h;exact ⟨g.1,rfl,λ X M xs m=>⟨(g.2 X M xs m).1,(g.2 X M xs m).2.pt⟩⟩
  ·split at h
   ·rename_i f1 v1 f2 v2 o h1 h2 h3;cases h;exact Ye h3 (hd _ _ _ h1) (hd _ _ _ h2)
   ·cases h
  ·split at h
   ·rename_i f1 v1 f2 v2 f3 v3 p q h1 h2 h3 h4 h5;cases h;exact ZF h4 h5 (hd _ _ _ h1) (hd _ _ _ h2) (hd _ _ _ h3)
   ·cases h
  ·split at h
   ·rename_i fa v h1;cases h;have g:=FC hd _ _ _ h1;exact Cw g.1 rfl (λ _ _=>rfl) λ X M xs m=>Wt (g.2.2 X M xs m)
   ·cases h
  ·split at h
   ·rename_i fa v h1;cases h;have g:=FC hd _ _ _ h1;exact Cw g.1 rfl (λ _ _=>rfl) λ X M xs m=>Ww (g.2.2 X M xs m)
   ·cases h
  ·rename_i a b pos;unfold Rx at h;split at h
   ·rename_i lo hi st p2;unfold Rw at h;split at h
    ·split at h
     ·rename_i f1 v1 f2 v2 h1 h2;cases h;have g1:=hd _ _ _ h1;have g2:=hd _ _ _ h2;exact Cw g1.1 rfl (λ _ _=>rfl) λ X M xs m=>Bg (MQ (zfy.or (qbs.or O0)) (g1.2.2 X M xs m).1 SN (Lw (g2.2.2 X M xs m).1)) λ σ H Q q=>Oi (lo:=none) (hi:=some (f2,v2)) (m.v g1.1) (m.k xs) q
     ·cases h
    ·split at h
     ·rename_i f1 v1 f2 v2 h1 h2;cases h;have g1:=hd _ _ _ h1;have g2:=hd _ _ _ h2;exact Cw g1.1 rfl (λ _ _=>rfl) λ X M xs m=>Bg (MQ (zfy.or (qbs.or O0)) (g1.2.2 X M xs m).1 (Lw (g2.2.2 X M xs m).1) SN) λ σ H Q q=>Oi (lo:=some (f2,v2)) (hi:=none) (m.v g1.1) (m.k xs) q
     ·cases h
    ·split at h
     ·rename_i f1 v1 f2 v2 f3 v3 h1 h2 h3;cases h;have g1:=hd _ _ _ h1;have g2:=hd _ _ _ h2;have g3:=hd _ _ _ h3;exact Cw g1.1 rfl (λ _ _=>rfl) λ X M xs m=>Bg (MQ (zfy.or (qbs.or O0)) (g1.2.2 X M xs m).1 (Lw (g2.2.2 X M xs m).1) (Lw (g3.2.2 X M xs m).1)) λ σ H Q q=>Oi (lo:=some (f2,v2)) (hi:=some (f3,v3)) (m.v g1.1) (m.k xs) q
     ·cases h
    ·cases h
   ·split at h
    ·rename_i x i hx hi;obtain ⟨px,rfl⟩:=Df hx;obtain ⟨k,pi,rfl⟩:=R6 hi;split at h
     ·rename_i j hj;split at h
      ·cases h
      ·rename_i hm;cases h;have hlt:j < S'.N.length:=by
        unfold Sx.slot at hj;split at hj
        ·exact (ja7.mp (La hj)).1
        ·cases hj
       have hv:∀ i∈j::S'.alF j,S'.msF i=false:=λ i hi=>by
        rcases jb3.mp hi with z | z
        ·rw [z];simpa using hm
        ·exact hS j i z
       refine Cw (Fy hv λ _ z=>(nomatch z)) rfl (λ _ _=>rfl) λ X M xs m=>RP (m.v hv) (m.k xs) (Iu rfl) (Bg (xs.var hj) λ σ H Q q=>?_) (Bg Oy λ σ H Q q=>Jt (λ K H Z=>by rw [Own];exact ⟨rfl,rfl⟩) q);rw [<- m.al j hlt] at q;exact RS q
     ·cases h
    ·split at h
     ·rename_i f1 v1 f2 v2 h1 h2;split at h
      ·rename_i hn;cases h;have g1:=hd _ _ _ h1;have g2:=hd _ _ _ h2;exact Cw (Fy g1.1 g2.1) rfl (λ _ _=>rfl) λ X M xs m=>RP (m.v g1.1) (m.k xs) (Iu hn) (g1.2.2 X M xs m).1 (g2.2.2 X M xs m).1
      ·cases h
     ·cases h
  ·split at h
   ·rename_i x p args pos _ hx;subst hx;split at h
    ·rename_i e c;unfold Rt at h;split at h
     ·rename_i f1 v1 h1;split at h
      ·rename_i hgi;have g1:=hd _ _ _ h1;split at h
       ·rename_i T pT;have s2:∀ {X:Cx},Ax [Expr.Name T pT] X.env=[(false,eval (.Name T pT) X.env)]:=rfl;split at h
        ·rename_i t h2;split at h
         ·rename_i hg;cases h;obtain ⟨t1,t2,t3,t4,t5⟩:=XF h2;refine Cw g1.1 rfl (λ _ _=>rfl) λ X M xs m=>?_;exact Wr (x:=T) t1 (m.k xs) (g1.2.2 X M xs m).1 (xs.gl hgi) (by rw [xs.mg];exact G.1 _ (by decide +kernel)) (Sn (xs.gl hg) (by rw [xs.mg];exact G.1 _ t2) t3 rfl t5 t4) (by rw [CD (CF g1.2.1),s2]) s2
         ·cases h
        ·obtain ⟨n,h3,e2⟩:=jb0.mp h;cases e2;refine Cw g1.1 rfl (λ _ _=>rfl) λ X M xs m=>?_;obtain ⟨hk,cv,c1,c2⟩:=SU (by rw [hX];exact GX) G.1 h3 xs;exact Xd hk (m.k xs) (g1.2.2 X M xs m).1 (xs.gl hgi) (by rw [xs.mg];exact G.1 _ (by decide +kernel)) (c1 pT) c2 (by rw [CD (CF g1.2.1),s2]) s2
       ·rename_i es k p2;split at h
        ·rename_i hl;obtain ⟨ns,h3,e2⟩:=jb0.mp h;cases e2;obtain ⟨hl,hne⟩:=hl;refine Cw g1.1 rfl (λ _ _=>rfl) λ X M xs m=>?_;have s2:Ax [Expr.Tuple es k p2] X.env=[(false,eval (.Tuple es k p2) X.env)]:=rfl;obtain ⟨hk,cvs,l1,pa,l2⟩:=Ql (by rw [hX];exact GX) G.1 xs h3 hne;exact Y0 hk (m.k xs) (g1.2.2 X M xs m).1 (xs.gl hgi) (by rw [xs.mg];exact G.1 _ (by decide +kernel)) pa (by rw [l1];exact CT hl (by decide)) l2 (by rw [CD (CF g1.2.1),s2]) s2
        ·cases h
       ·cases h
      ·cases h
     ·cases h
    ·cases h
   ·split at h
    ·rename_i o ho;split at h
     ·rename_i e es;split at h
      ·rename_i fa v h1;split at h
       ·rename_i hg;cases h;have g:=FC hd _ _ _ h1;exact Cw g.1 rfl (λ _ _=>rfl) λ X M xs m=>VM ho xs m G.1 hg g.2.1 (g.2.2 X M xs m)
       ·cases h
      ·cases h
     ·cases h
    ·split at h
     ·rename_i x p args pos _ _ _ _ nn F hF;split at h
      ·rename_i e es;split at h
       ·rename_i fa v h1;split at h
        ·rename_i hg;cases h;have g:=FC hd _ _ _ h1;rw [hΓ] at hF;obtain ⟨d1,d2,fa',fd,ps,d3,d4,d5,d6,d7⟩:=G.2 _ _ _ _ hF;refine Cw g.1 rfl (λ _ _=>rfl) λ X M xs m=>?_;have hs:=g.2.1;rw [Fi,AL] at hs;obtain ⟨xp,xw,xK,xm,xb,_,_,_,xr,_⟩:=id xs;subst xp xw xK xm xb;have mk:M.K=X.K:=m.K;have hps:=xs.ps;rw [<- m.W] at hps;refine Bg (Yj d7 xr (xs.gl hg) d3 d4 d5 hps (g.2.2 X M xs m) d1 (CD (CF hs.1)) (J6 hs.2)) λ σ H Q q=>?_
         have:=Xl d2 q
         rw [mk] at this;exact this
        ·cases h
       ·cases h
      ·cases h
     ·cases h
     ·cases h
  ·split at h
   ·rename_i elt tg it ifs scope pos _ _ ys asg iw ht hi;split at h
    ·rename_i hc;split at h
     ·rename_i t g vE h1 h2;cases h;have ck:=Rn hc.1;have giw:=Lm hd (Ln n S') G.1 hi;have hS2:∀ i,∀ j∈(AO S' scope ys iw.vs).alF i,(AO S' scope ys iw.vs).msF j=false:=λ i j hj=>by
       rw [MT] at hj;show S'.msF j=false;split at hj
       ·exact hS i j hj
       ·split at hj
        ·exact giw.1 j hj
        ·cases hj
      have hd2:∀ e f vs,AN n (AO S' scope ys iw.vs) e=some (f,vs)->A8 P w K mg base lvl (AO S' scope ys iw.vs) e f vs:=λ e f vs h=>ih _ e f vs hΓ hΓm hX hS2 h;exact Zd ⟨ht,hc.2,ck,giw,hd2 _ _ _ h2,Qo hd2 h1⟩
     ·cases h
    ·cases h
   ·cases h
  ·cases h
end
section
variable {is:List Nat}{M:Fm}{ρ ρ':Ag}{σ σ':St}{H H' H'':Hp}{fps fps' fps'':AB}{vs vs':List Nat}
def Ep:Fs:=λ _=>.no
def Oj {t:TS}{D:Ends} (hq:tS M Ep D σ H):t D σ H:=by
 obtain ⟨ρ,fps,rep,q⟩:=hq;exact q.elim
def CQ (asg:PV->Ag->Option Ag) (f:Fx) (vs:List Nat):Fs:=λ ρ=>match f ρ with
 | .ok (x,d,ρ1)=>(match asg x (Bk d vs ρ1) with
  | some ρ2=>.nx ρ2
  | none=>.no)
 | .exc c=>.exc c
 | .no=>.no
theorem Wd {g:TG}{asg:PV->Ag->Option Ag}{f:Fx}{D:Ends} (hal:∀ i,M.al i=[]) (hv:∀ i∈vs,M.Ms i=false) (hg:D7 M [] is g asg) (hq:tS M (CQ asg f vs) D σ H):BZ (tE M f vs) g D σ H:=by
 obtain ⟨ρ,fps,rep,q⟩:=hq;refine ⟨ρ,fps,rep,?_⟩;unfold CQ at q;cases ef:f ρ with
 | no=>rw [ef] at q;exact q
 | exc c=>rw [ef] at q;exact λ H' fps' k=>q _ H' fps' k.ks
 | ok p=>
  obtain ⟨x,d,ρ1⟩:=p;rw [ef] at q;intro v H1 fps1 f1 k1 g1 rep1 o1 t1;obtain ⟨fps2,k2,r2,o2⟩:=Rep.seen rep k1 g1 rep1 o1 t1 hal hv;dsimp only at q;cases ea:asg x (Bk d vs ρ1) with
  | none=>rw [ea] at q;exact q.elim
  | some ρ2=>
   rw [ea] at q;refine hg x v _ σ H1 fps2 ρ2 _ r2 (o2.weak λ a h=>h.zf) ea λ σ' fps' s1 _ _ r'=>q σ' H1 fps' (k2.trans ⟨λ _ _ h _=>h,λ _ h=>h,λ j a ha=>.inl ⟨j,s1 j a ha⟩⟩) r'
def Rep.change {i:Nat}{x x':PV}{d d':Nat}{v:V}{f':List Addr} (hal:∀ i,M.al i=[]) (r:Rep M ρ σ H fps) (hi:ρ[i]?=some (some (x,d))) (hσ:σ[i]?=some (some v)) (k:Ce (λ a=>a∈fps i) H H') (dm:∀ a,H a≠none->H' a≠none) (hs:∀ b∈f',b∈fps i)
  (hm:M.Ms i=true->d'=om) (o:Own M.K H' (Zf M (λ j=>if j=i then f' else fps j)) x' d' v f'):Rep M (ρ.set i (some (x',d'))) σ H' (λ j=>if j=i then f' else fps j):=by
 have hlen:i < ρ.length:=(ja7.mp hi).1;have inI:∀ j,∀ b∈(if j=i then f' else fps j),b∈fps j:=λ j b hb=>by
  by_cases e:j=i
  ·rw [if_pos e] at hb;rw [e];exact hs b hb
  ·rw [if_neg e] at hb;exact hb
 refine ⟨λ j y c hj=>?_,λ j hj=>?_,λ j k hjk b hb hc=>r.dj j k hjk b (inI j b hb) (inI k b hc),λ j b hb z=>r.zo j b (inI j b hb) z,λ j hj b hb=>r.fr j hj b (inI j b hb),λ b z=>dm b (r.zd b z),by rw [C1];exact r.len,λ j y c hj hc=>?_,λ b z=>dm b (r.h0 b z),r.iov⟩
 ·by_cases ej:j=i
  ·subst ej;rw [CH hlen] at hj;cases hj;refine ⟨v,hσ,?_⟩;rw [if_pos rfl];exact o.weak λ a h=>h.zf
  ·rw [BJ (Bv ej)] at hj;obtain ⟨u,hu,ou⟩:=r.own j y c hj;refine ⟨u,hu,?_⟩;rw [if_neg ej];refine Own.move (S:=λ a=>a∈fps i) k (λ a ha=>⟨.inr ⟨i,(by rw [hal j];intro z;cases z),ha⟩,r.lsts ha⟩) (λ a _ nz z=>nz ?_) y c u (fps j) (λ a ha z=>r.dj j i ej a ha z) ou;rcases z with z | ⟨l,nl,z⟩
   ·exact .inl z
   ·exact .inr ⟨l,nl,inI l a z⟩
 ·by_cases ej:j=i
  ·subst ej;exact absurd (CH hlen) (hj (x',d'))
  ·rw [if_neg ej];exact r.non j λ p hp=>hj p (by rw [BJ (Bv ej)];exact hp)
 ·by_cases ej:j=i
  ·subst ej;rw [CH hlen] at hc;cases hc;exact hm hj
  ·rw [BJ (Bv ej)] at hc;exact r.msf j y c hj hc
def OwnL.full' {K:Frag}{Z Z':Addr->Prop}{xs:List PV}{ws:List V}{f:List Addr} (h:OwnL K H Z xs om ws f):OwnL K H Z' xs om ws f:=OwnL.full xs ws f h
theorem OwnL.row {K:Frag}{Z:Addr->Prop}:∀ {xs:List PV}{ws:List V}{f:List Addr}{p:Nat}{cells:List PV},OwnL K H Z xs om ws f->xs[p]?=some (.lst cells)->∃ a us fc,ws[p]?=some (.ref a)/\H a=some (.lst us)/\a∈f/\OwnL K H Z cells om us fc/\(∀ b∈fc,b∈f)/\a∉fc /\
  ∀ (cells':List PV) (us':List V) (fc':List Addr),OwnL K (Ao H a (.lst us')) (λ _=>True) cells' om us' fc'->(∀ b∈fc',b∈fc)->∃ f',(∀ b∈f',b∈f)/\OwnL K (Ao H a (.lst us')) (λ _=>True) (xs.set p (.lst cells')) om ws f'
 | [],ws,f,p,cells,h,e=>by cases e
 | x::xs,ws,f,0,cells,h,e=>by
  cases e;rw [OwnL] at h;obtain ⟨v,s,f1,f2,rfl,rfl,dj,h1,h2⟩:=h;obtain ⟨a,us,fc,rfl,ha,rfl,na,ol⟩:=h1.list (by decide:om≠0);rw [DQ] at ol;refine ⟨a,us,fc,rfl,ha,by simp,ol,λ b hb=>by simp [hb],na,λ cells' us' fc' o hs=>⟨(a::fc')++f2,λ b hb=>?_,?_⟩⟩
  ·rcases jb8.mp hb with z | z
   ·rcases jb3.mp z with z | z
    ·simp [z]
    ·exact AY _ (AA _ (hs b z))
   ·exact AR _ z
  ·have n2:a∉f2:=dj a AI;rw [Jh,OwnL];refine ⟨.ref a,s,a::fc',f2,rfl,rfl,λ b hb=>?_,?_,?_⟩
   ·rcases jb3.mp hb with z | z
    ·rw [z];exact n2
    ·exact dj b (AA _ (hs b z))
   ·rw [Own];exact ⟨a,us',rfl,.inr ⟨by decide,fc',Bx,rfl,λ z=>na (hs a z),by rw [DQ];exact o⟩⟩
   ·exact (h2.full' (Z':=λ _=>True)).at trivial ⟨.l us,ha⟩ n2 λ _ _ n=>absurd trivial n
 | x::xs,ws,f,p + 1,cells,h,e=>by
  rw [OwnL] at h;obtain ⟨v,s,f1,f2,rfl,rfl,dj,h1,h2⟩:=h;obtain ⟨a,us,fc,e1,ha,hf,ol,hs,na,nx⟩:=h2.row (by simpa using e);refine ⟨a,us,fc,by simpa using e1,ha,AR _ hf,ol,λ b hb=>AR _ (hs b hb),na,λ cells' us' fc' o hs'=>?_⟩;obtain ⟨f',s',o'⟩:=nx cells' us' fc' o hs';refine ⟨f1++f',λ b hb=>(jb8.mp hb).elim (λ z=>AY _ z) λ z=>AR _ (s' b z),?_⟩;rw [Jg,OwnL];refine ⟨v,s,f1,f',rfl,rfl,λ b hb z=>dj b hb (s' b z),?_,o'⟩;exact (Own.full (Z':=λ _=>True) x v f1 h1).at trivial ⟨.l us,ha⟩ (λ z=>dj a z hf) λ _ _ n=>absurd trivial n
theorem OwnL.setF {K:Frag}{Z:Addr->Prop}{y:PV}{d:Nat}{w:V}{fy:List Addr} (hy:Own K H Z y d w fy):∀ {xs:List PV}{ws:List V}{f:List Addr} (k:Nat),OwnL K H Z xs d ws f->(∀ b∈fy,b∉f)->∃ f',(∀ b∈f',b∈f\/b∈fy)/\OwnL K H Z (xs.set k y) d (ws.set k w) f'
 | [],ws,f,k,h,_=>by
  rw [OwnL] at h;obtain ⟨rfl,rfl⟩:=h;refine ⟨[],λ _ z=>(nomatch z),?_⟩;rw [M5,M5,OwnL];exact ⟨rfl,rfl⟩
 | x::xs,ws,f,0,h,hd=>by
  rw [OwnL] at h;obtain ⟨v,s,f1,f2,rfl,rfl,dj,h1,h2⟩:=h;refine ⟨fy++f2,λ b hb=>(jb8.mp hb).elim .inr λ z=>.inl (AR _ z),?_⟩;rw [Jh,Jh,OwnL];exact ⟨w,s,fy,f2,rfl,rfl,λ b hb z=>hd b hb (AR _ z),hy,h2⟩
 | x::xs,ws,f,k + 1,h,hd=>by
  rw [OwnL] at h;obtain ⟨v,s,f1,f2,rfl,rfl,dj,h1,h2⟩:=h;obtain ⟨f',hs,h'⟩:=h2.setF hy k λ b hb z=>hd b hb (AR _ z);refine ⟨f1++f',λ b hb=>(jb8.mp hb).elim (λ z=>.inl (AY _ z)) λ z=>(hs b z).elim (λ z=>.inl (AR _ z)) .inr,?_⟩;rw [Jg,Jg,OwnL];exact ⟨v,s.set k w,f1,f',rfl,rfl,λ b hb hc=>(hs b hc).elim (dj b hb) λ z=>hd b z (AY _ hb),h1,h'⟩
theorem OwnL.rowP {K:Frag}{Z:Addr->Prop}:∀ {xs:List PV}{ws:List V}{f:List Addr}{p:Nat}{cells:List PV},OwnL K H Z xs om ws f->xs[p]?=some (.lst cells)->∃ a us fc,ws[p]?=some (.ref a)/\H a=some (.lst us)/\a∈f/\OwnL K H Z cells om us fc/\(∀ b∈fc,b∈f)/\a∉fc /\
  ∀ (cells':List PV) (us':List V) (fc' fy:List Addr),OwnL K (Ao H a (.lst us')) (λ _=>True) cells' om us' fc'->(∀ b∈fc',b∈fc\/b∈fy)->(∀ b∈fy,b∉f)->∃ f',(∀ b∈f',b∈f\/b∈fy)/\OwnL K (Ao H a (.lst us')) (λ _=>True) (xs.set p (.lst cells')) om ws f'
 | [],ws,f,p,cells,h,e=>by cases e
 | x::xs,ws,f,0,cells,h,e=>by
  cases e;rw [OwnL] at h;obtain ⟨v,s,f1,f2,rfl,rfl,dj,h1,h2⟩:=h;obtain ⟨a,us,fc,rfl,ha,rfl,na,ol⟩:=h1.list (by decide:om≠0);rw [DQ] at ol;refine ⟨a,us,fc,rfl,ha,by simp,ol,λ b hb=>by simp [hb],na,λ cells' us' fc' fy o hs hy=>⟨(a::fc')++f2,λ b hb=>?_,?_⟩⟩
  ·rcases jb8.mp hb with z | z
   ·rcases jb3.mp z with z | z
    ·simp [z]
    ·exact (hs b z).elim (λ z=>.inl (AY _ (AA _ z))) .inr
   ·exact .inl (AR _ z)
  ·have n2:a∉f2:=dj a AI;rw [Jh,OwnL];refine ⟨.ref a,s,a::fc',f2,rfl,rfl,λ b hb=>?_,?_,?_⟩
   ·rcases jb3.mp hb with z | z
    ·rw [z];exact n2
    ·exact (hs b z).elim (λ z=>dj b (AA _ z)) λ z w=>hy b z (AR _ w)
   ·rw [Own];exact ⟨a,us',rfl,.inr ⟨by decide,fc',Bx,rfl,λ z=>(hs a z).elim na λ z=>hy a z (AY _ AI),by rw [DQ];exact o⟩⟩
   ·exact (h2.full' (Z':=λ _=>True)).at trivial ⟨.l us,ha⟩ n2 λ _ _ n=>absurd trivial n
 | x::xs,ws,f,p + 1,cells,h,e=>by
  rw [OwnL] at h;obtain ⟨v,s,f1,f2,rfl,rfl,dj,h1,h2⟩:=h;obtain ⟨a,us,fc,e1,ha,hf,ol,hs,na,nx⟩:=h2.rowP (by simpa using e);refine ⟨a,us,fc,by simpa using e1,ha,AR _ hf,ol,λ b hb=>AR _ (hs b hb),na,λ cells' us' fc' fy o hs' hy=>?_⟩;obtain ⟨f',s',o'⟩:=nx cells' us' fc' fy o hs' λ b hb z=>hy b hb (AR _ z);refine ⟨f1++f',λ b hb=>(jb8.mp hb).elim (λ z=>.inl (AY _ z)) λ z=>(s' b z).elim (λ z=>.inl (AR _ z)) .inr,?_⟩;rw [Jg,OwnL];refine ⟨v,s,f1,f',rfl,rfl,λ b hb z=>(s' b z).elim (dj b hb) λ z=>hy b z (AY _ hb),?_,o'⟩;exact (Own.full (Z':=λ _=>True) x v f1 h1).at trivial ⟨.l us,ha⟩ (λ z=>dj a z hf) λ _ _ n=>absurd trivial n
def Cr (x:PV) (a b:Int) (y:PV):Option PV:=match x with
 | .lst rows=>(match Bh rows.length a with
  | some p=>(match rows[p]? with
   | some (.lst cells)=>(match Bh cells.length b with
    | some q=>some (.lst (rows.set p (.lst (cells.set q y))))
    | none=>none)
   | _=>none)
  | none=>none)
 | _=>none
def CB (i:Nat) (fi fj f:Fx):Fs:=λ ρ=>match f ρ with
 | .ok (y,e,ρ1)=>(match ρ1[i]? with
  | some (some (x,d))=>(match fi ρ1 with
   | .ok (.int a,_,ρ2)=>(match fj ρ2 with
    | .ok (.int b,_,ρ3)=>(match Cr x a b y with
     | some x'=>if d=om/\DN y=true then .nx (ρ3.set i (some (x',om))) else if d=om/\e=om then .nx (ρ3.set i (some (x',0))) else .no
     | none=>.no)
    | _=>.no)
   | _=>.no)
  | _=>.no)
 | _=>.no
def Zl {x x' y:PV}{a b:Int} (h:Cr x a b y=some x'):∃ rows p cells q,x=.lst rows/\Bh rows.length a=some p/\rows[p]?=some (.lst cells)/\Bh cells.length b=some q/\x'=.lst (rows.set p (.lst (cells.set q y))):=by
 unfold Cr at h;split at h
 ·rename_i rows;split at h
  ·rename_i p ep;split at h
   ·rename_i cells er;split at h
    ·rename_i q eq;cases h;exact ⟨rows,p,cells,q,rfl,ep,er,eq,rfl⟩
    ·cases h
   ·cases h
  ·cases h
 ·cases h
def KD.top (k:KD M H fps H' fps') (r:Rep M ρ σ H fps) {i:Nat}{a:Addr}{o:HO} (hm:M.Ms i=false) (ha:a∈fps i) (h:H a=some o):H' a=some o:=
 k.keep a o h λ ⟨j,hj,hb⟩=>r.dj i j (λ e=>by rw [e,hj] at hm;cases hm) a ha hb
theorem X5 {f fi fj:Fx}{vi vj:List Nat}{i:Nat}{D:Ends} (hal:∀ i,M.al i=[]) (hm:M.Ms i=false) (hq:tS M (CB i fi fj f) D σ H):BZ (tE M f vs) (ET (FV (EF M.K) (Bm i) (tE M fi vi)) (tE M fj vj) Kg) D σ H:=by
 obtain ⟨ρ,fps,rep,q⟩:=hq;refine ⟨ρ,fps,rep,?_⟩;unfold CB at q;cases ef:f ρ with
 | no=>rw [ef] at q;exact q
 | exc c=>rw [ef] at q;exact q.elim
 | ok p0=>
  obtain ⟨y,e,ρ1⟩:=p0;rw [ef] at q;intro w H1 fps1 fp k1 g1 rep1 o1 t1;dsimp only at q;cases ei:ρ1[i]? with
  | none=>rw [ei] at q;exact q.elim
  | some s1=>
   rw [ei] at q;cases s1 with
   | none=>exact q.elim
   | some s1=>
    obtain ⟨x1,dx1⟩:=s1;obtain ⟨v,hσ,_⟩:=rep1.own0 hal i _ _ ei;dsimp only at q;refine ⟨v,hσ,ρ1,fps1,rep1,?_⟩;split at q
    ·rename_i a da ρ2 e1;rw [e1];intro va H2 fps2 fpa k2 g2 rep2 oa ta;rw [Own] at oa;obtain ⟨rfl,rfl⟩:=oa;split at q
     ·rename_i b db ρ3 e2;split at q
      ·rename_i x' ex;obtain ⟨rows,p,cells,jq,rfl,ep,er,eq,rfl⟩:=Zl ex;split at q
       ·rename_i hc;obtain ⟨rfl,hy⟩:=hc;obtain ⟨rfl,oy⟩:=Own.flatA (Z':=λ _=>True) (d':=om) hy o1;have e2i:ρ2[i]?=some (some (.lst rows,om)):=by rw [g2.1 i hm];exact ei
        obtain ⟨v2,hσ2,ol2⟩:=rep2.own0 hal i _ _ e2i;rw [hσ] at hσ2;cases hσ2;obtain ⟨a0,ws,f2,rfl,ha2,hf2,na2,hol2⟩:=ol2.list (by decide:om≠0);rw [DQ] at hol2;obtain ⟨r,us,fc,ew,hr,hrf,oc,sc,nrc,_⟩:=hol2.row er;have hai:a0∈fps2 i:=by rw [hf2];exact AI
        have hri2:r∈fps2 i:=by rw [hf2];exact AA _ hrf
        refine ⟨a0,ws,a,.ref r,rfl,rfl,.inl (.inl ha2),?_,ρ2,fps2,rep2,?_⟩
        ·unfold Bj;rw [hol2.length,ep];exact ew
        rw [e2];intro vb H3 fps3 fpb k3 g3 rep3 ob tb;rw [Own] at ob;obtain ⟨rfl,rfl⟩:=ob;have e3:ρ3[i]?=some (some (.lst rows,om)):=by rw [g3.1 i hm];exact e2i
        obtain ⟨v3,hσ3,ol3⟩:=rep3.own0 hal i _ _ e3;rw [hσ] at hσ3;cases hσ3;obtain ⟨a',ws3,f3,ev,ha3,hf3,na3,hol3⟩:=ol3.list (by decide:om≠0);cases ev;have hai3:a0∈fps3 i:=by rw [hf3];exact AI
        have ht:=k3.top rep2 hm hai ha2;rw [ha3] at ht;cases ht;rw [DQ] at hol3;obtain ⟨r',us3,fc3,ew3,hr3,hrf3,oc3,sc3,nrc3,nx⟩:=hol3.row er;rw [ew] at ew3;cases ew3;have hri:r∈fps3 i:=by rw [hf3];exact AA _ hrf3
        refine ⟨r,us3,b,jq,rfl,rfl,hr3,by rw [oc3.length];exact eq,?_⟩;have oy2:Own M.K H2 (λ _=>True) y om w []:=Own.move k2.keep (λ a ⟨_,_,h⟩=>⟨trivial,rep1.lsts h⟩) (λ _ _ n=>absurd trivial n) y om w [] (λ _ z=>nomatch z) oy;have oy3:Own M.K H3 (λ _=>True) y om w []:=Own.move k3.keep (λ a ⟨_,_,h⟩=>⟨trivial,rep2.lsts h⟩) (λ _ _ n=>absurd trivial n) y om w [] (λ _ z=>nomatch z) oy2;obtain ⟨fc',sc',oc'⟩:=(oc3.full' (Z':=λ _=>True)).set oy3 jq;have oc2:OwnL M.K (Ao H3 r (.lst (us3.set jq w))) (λ _=>True) (cells.set jq y) om (us3.set jq w) fc':=oc'.at trivial ⟨.l us3,hr3⟩ (λ z=>nrc3 (sc' r z)) λ _ _ n=>absurd trivial n;obtain ⟨f',s',o'⟩:=nx _ _ fc' oc2 sc';have nea:a0≠r:=λ e=>na3 (by rw [e];exact hrf3);have dm:∀ b,H3 b≠none->(Ao H3 r (.lst (us3.set jq w))) b≠none:=λ b h=>by
         by_cases eb:b=r
         ·rw [eb,Bx];simp
         ·rw [AE eb];exact h
        have hsub:∀ b∈a0::f',b∈fps3 i:=λ b hb=>by
         rw [hf3];exact (jb3.mp hb).elim (λ z=>by rw [z];exact AI) λ z=>AA _ (s' b z)
        have kw:KS M H3 fps3 (Ao H3 r (.lst (us3.set jq w))) (λ j=>if j=i then a0::f' else fps3 j):=⟨λ b u hb n=>by rw [AE (λ e=>n ⟨i,by rw [e];exact hri⟩)];exact hb,dm,λ j b hb=>by
         by_cases ej:j=i
         ·simp only [if_pos ej] at hb;exact .inl ⟨i,hsub b hb⟩
         ·simp only [if_neg ej] at hb;exact .inl ⟨j,hb⟩⟩
        refine q σ _ _ (((k1.ks.trans k2.ks).trans k3.ks).trans kw) (rep3.change hal e3 hσ (λ b u hb n=>by rw [AE (λ e=>n (by rw [e];exact hri))];exact hb) dm hsub (λ _=>rfl) ?_);rw [Own];exact ⟨a0,ws,rfl,.inr ⟨by decide,f',by rw [AE nea];exact ha3,rfl,λ z=>na3 (s' a0 z),o'.full'⟩⟩
       ·split at q
        ·rename_i hc;obtain ⟨rfl,rfl⟩:=hc;have oy:Own M.K H1 (λ _=>True) y om w fp:=Own.full _ _ _ o1;have e2i:ρ2[i]?=some (some (.lst rows,om)):=by rw [g2.1 i hm];exact ei
         obtain ⟨v2,hσ2,ol2⟩:=rep2.own0 hal i _ _ e2i;rw [hσ] at hσ2;cases hσ2;obtain ⟨a0,ws,f2,rfl,ha2,hf2,na2,hol2⟩:=ol2.list (by decide:om≠0);rw [DQ] at hol2;obtain ⟨r,us,fc,ew,hr,hrf,oc,sc,nrc,_⟩:=hol2.row er;have hai:a0∈fps2 i:=by rw [hf2];exact AI
         refine ⟨a0,ws,a,.ref r,rfl,rfl,.inl (.inl ha2),?_,ρ2,fps2,rep2,?_⟩
         ·unfold Bj;rw [hol2.length,ep];exact ew
         rw [e2];intro vb H3 fps3 fpb k3 g3 rep3 ob tb;rw [Own] at ob;obtain ⟨rfl,rfl⟩:=ob;have e3:ρ3[i]?=some (some (.lst rows,om)):=by rw [g3.1 i hm];exact e2i
         obtain ⟨v3,hσ3,ol3⟩:=rep3.own0 hal i _ _ e3;rw [hσ] at hσ3;cases hσ3;obtain ⟨a',ws3,f3,ev,ha3,hf3,na3,hol3⟩:=ol3.list (by decide:om≠0);cases ev;have hai3:a0∈fps3 i:=by rw [hf3];exact AI
         have ht:=k3.top rep2 hm hai ha2;rw [ha3] at ht;cases ht;rw [DQ] at hol3;obtain ⟨r',us3,fc3,ew3,hr3,hrf3,oc3,sc3,nrc3,nx⟩:=hol3.rowP er;rw [ew] at ew3;cases ew3;have hri:r∈fps3 i:=by rw [hf3];exact AA _ hrf3
         refine ⟨r,us3,b,jq,rfl,rfl,hr3,by rw [oc3.length];exact eq,?_⟩;have n2:∀ b∈fp,¬ Zf M fps2 b:=λ b hb z=>by
          rcases z with z | ⟨j,z⟩
          ·exact t1.ndj b hb (.inl z)
          ·rcases k2.sub j b z with z | z
           ·exact t1.ndj b hb (.inr ⟨j,z⟩)
           ·obtain ⟨o,ho⟩:=Own.lsts y _ w fp oy b hb;rw [ho] at z;cases z
         have oy2:Own M.K H2 (λ _=>True) y om w fp:=Own.move k2.keep (λ a ⟨_,_,h⟩=>⟨trivial,rep1.lsts h⟩) (λ _ _ n=>absurd trivial n) y om w fp (λ a ha ⟨j,_,hj⟩=>t1.ndj a ha (.inr ⟨j,hj⟩)) oy;have n3:∀ b∈fp,¬ Zf M fps3 b:=λ b hb z=>by
          rcases z with z | ⟨j,z⟩
          ·exact n2 b hb (.inl z)
          ·rcases k3.sub j b z with z | z
           ·exact n2 b hb (.inr ⟨j,z⟩)
           ·obtain ⟨o,ho⟩:=Own.lsts y _ w fp oy2 b hb;rw [ho] at z;cases z
         have oy3:Own M.K H3 (λ _=>True) y om w fp:=Own.move k3.keep (λ a ⟨_,_,h⟩=>⟨trivial,rep2.lsts h⟩) (λ _ _ n=>absurd trivial n) y om w fp (λ a ha ⟨j,_,hj⟩=>n2 a ha (.inr ⟨j,hj⟩)) oy2;have nfp:∀ b∈fp,b∉f3:=λ b hb z=>n3 b hb (.inr ⟨i,by rw [hf3];exact AA _ z⟩);obtain ⟨fc',sc',oc'⟩:=(oc3.full' (Z':=λ _=>True)).setF oy3 jq λ b hb z=>nfp b hb (sc3 b z);have oc2:OwnL M.K (Ao H3 r (.lst (us3.set jq w))) (λ _=>True) (cells.set jq y) om (us3.set jq w) fc':=oc'.at trivial ⟨.l us3,hr3⟩ (λ z=>(sc' r z).elim nrc3 λ z=>nfp r z hrf3) λ _ _ n=>absurd trivial n;obtain ⟨f',s',o'⟩:=nx _ _ fc' fp oc2 sc' nfp;have nea:a0≠r:=λ e=>na3 (by rw [e];exact hrf3);have dm:∀ b,H3 b≠none->(Ao H3 r (.lst (us3.set jq w))) b≠none:=λ b h=>by
          by_cases eb:b=r
          ·rw [eb,Bx];simp
          ·rw [AE eb];exact h
         have oF:Own M.K (Ao H3 r (.lst (us3.set jq w))) (λ _=>True) (.lst (rows.set p (.lst (cells.set jq y)))) om (.ref a0) (a0::f'):=by
          rw [Own];exact ⟨a0,ws,rfl,.inr ⟨by decide,f',by rw [AE nea];exact ha3,rfl,λ z=>(s' a0 z).elim na3 λ z=>n3 a0 z (.inr ⟨i,hai3⟩),by rw [DQ];exact o'⟩⟩
         have nz:∀ b∈a0::f',¬ Zf M (λ j=>if j=i then [] else fps3 j) b:=λ b hb z=>by
          have hz:Zf M fps3 b:=by
           rcases z with z | ⟨j,z⟩
           ·exact .inl z
           ·by_cases ej:j=i
            ·simp only [if_pos ej] at z;cases z
            ·simp only [if_neg ej] at z;exact .inr ⟨j,z⟩
          have hin:b∈fps3 i:=by
           rw [hf3];rcases jb3.mp hb with e | hb
           ·rw [e];exact AI
           ·exact (s' b hb).elim (λ z=>AA _ z) λ z=>absurd hz (n3 b z)
          rcases z with z | ⟨j,z⟩
          ·exact rep3.zo i b hin z
          ·by_cases ej:j=i
           ·simp only [if_pos ej] at z;cases z
           ·simp only [if_neg ej] at z;exact rep3.dj i j (Bv ej) b hin z
         have kw:KS M H3 fps3 (Ao H3 r (.lst (us3.set jq w))) (λ j=>if j=i then [] else fps3 j):=⟨λ b u hb n=>by rw [AE (λ e=>n ⟨i,by rw [e];exact hri⟩)];exact hb,dm,λ j b hb=>by
          by_cases ej:j=i
          ·simp only [if_pos ej] at hb;cases hb
          ·simp only [if_neg ej] at hb;exact .inl ⟨j,hb⟩⟩
         refine q σ _ _ (((k1.ks.trans k2.ks).trans k3.ks).trans kw) (rep3.change (f':=[]) hal e3 hσ (λ b u hb n=>by rw [AE (λ e=>n (by rw [e];exact hri))];exact hb) dm (λ _ z=>nomatch z) (λ h=>by rw [hm] at h;cases h) ?_);exact Own.freeze (λ _ _=>trivial) _ _ _ _ nz oF
        ·exact q.elim
      ·exact q.elim
     ·exact q.elim
    ·exact q.elim
end
section
variable {M:Fm}{ρ ρ':Ag}{σ σ':St}{H H' H'':Hp}{fps fps' fps'':AB}{vs vs':List Nat}
def WI {i p:Nat}{rows cells:List PV}{v:V} (hal:∀ i,M.al i=[]) (rep:Rep M ρ σ H fps) (e:ρ[i]?=some (some (.lst rows,om))) (hσ:σ[i]?=some (some v)) (er:rows[p]?=some (.lst cells)):
  ∃ a0 ws f r us fc,v=.ref a0/\H a0=some (.lst ws)/\fps i=a0::f/\a0∉f/\OwnL M.K H (Zf M fps) rows om ws f/\ws[p]?=some (.ref r)/\H r=some (.lst us)/\r∈f/\OwnL M.K H (Zf M fps) cells om us fc:=by
 obtain ⟨v2,hσ2,ol⟩:=rep.own0 hal i _ _ e;rw [hσ] at hσ2;cases hσ2;obtain ⟨a0,ws,f,rfl,ha,hf,na,hol⟩:=ol.list (by decide:om≠0);rw [DQ] at hol;obtain ⟨r,us,fc,ew,hr,hrf,oc,_⟩:=hol.row er;exact ⟨a0,ws,f,r,us,fc,rfl,ha,hf,na,hol,ew,hr,hrf,oc⟩
def Eg (x:PV) (a:Int) (y:PV):Option PV:=match x with
 | .lst rows=>(match Bh rows.length a with
  | some p=>(match rows[p]? with
   | some (.lst cells)=>if cells.length < An then some (.lst (rows.set p (.lst (cells++[y])))) else none
   | _=>none)
  | none=>none)
 | _=>none
def YV {x x' y:PV}{a:Int} (h:Eg x a y=some x'):∃ rows p cells,x=.lst rows/\Bh rows.length a=some p/\rows[p]?=some (.lst cells)/\cells.length < An/\x'=.lst (rows.set p (.lst (cells++[y]))):=by
 unfold Eg at h;split at h
 ·rename_i rows;split at h
  ·rename_i p ep;split at h
   ·rename_i cells er;split at h
    ·rename_i hl;cases h;exact ⟨rows,p,cells,rfl,ep,er,hl,rfl⟩
    ·cases h
   ·cases h
  ·cases h
 ·cases h
def Fe (i:Nat) (fi f:Fx):Fs:=λ ρ=>match ρ[i]?,fi ρ with
 | some (some (x,d)),.ok (.int a,_,ρ1)=>(match f ρ1 with
  | .ok (y,_,ρ2)=>(match Eg x a y with
   | some x'=>if d=om/\Hm y=true then .nx (ρ2.set i (some (x',om))) else .no
   | none=>.no)
  | _=>.no)
 | _,_=>.no
def Xp {f fi:Fx}{vi:List Nat}{i:Nat}{D:Ends} (hal:∀ i,M.al i=[]) (hm:M.Ms i=false) (hq:tS M (Fe i fi f) D σ H):GK (LV M.K "list" Nq (FV (EF M.K) (Bm i) (tE M fi vi)) (GJ (tE M f vs) EE)) D σ H:=by
 obtain ⟨ρ,fps,rep,q⟩:=hq;unfold Fe at q;split at q
 ·rename_i x d a da ρ1 ei e1;split at q
  ·rename_i y dy ρ2 e2;split at q
   ·rename_i x' ex;split at q
    ·rename_i hc;obtain ⟨rfl,hy⟩:=hc;obtain ⟨rows,p,cells,rfl,ep,er,hl,rfl⟩:=YV ex;obtain ⟨v,hσ,_⟩:=rep.own0 hal i _ _ ei;refine ⟨v,hσ,ρ,fps,rep,?_⟩;rw [e1];intro va H1 fps1 fpa k1 g1 rep1 oa ta;rw [Own] at oa;obtain ⟨rfl,rfl⟩:=oa;have ei1:ρ1[i]?=some (some (.lst rows,om)):=by rw [g1.1 i hm];exact ei
     obtain ⟨a0,ws,f1,r,us,fc,rfl,ha1,hf1,na1,hol1,ew,hr1,hrf1,oc1⟩:=WI hal rep1 ei1 hσ er;refine ⟨a0,ws,a,.ref r,rfl,rfl,.inl (.inl ha1),(by unfold Bj;rw [hol1.length,ep];exact ew),Ju (.inl (.inl hr1)),ρ1,fps1,rep1,?_⟩;rw [e2];intro w H2 fps2 fp k2 g2 rep2 oy ty;obtain ⟨rfl,oy2⟩:=Own.atom (Z':=λ _=>True) (d':=om) hy oy;have ei2:ρ2[i]?=some (some (.lst rows,om)):=by rw [g2.1 i hm];exact ei1
     obtain ⟨v3,hσ3,ol3⟩:=rep2.own0 hal i _ _ ei2;rw [hσ] at hσ3;cases hσ3;obtain ⟨a',ws3,f3,ev,ha3,hf3,na3,hol3⟩:=ol3.list (by decide:om≠0);cases ev;have ht:=k2.top rep1 hm (show a0∈fps1 i by rw [hf1];exact AI) ha1;rw [ha3] at ht;cases ht;rw [DQ] at hol3;obtain ⟨r',us3,fc3,ew3,hr3,hrf3,oc3,sc3,nrc3,nx⟩:=hol3.row er;rw [ew] at ew3;cases ew3;have hri:r∈fps2 i:=by rw [hf3];exact AA _ hrf3
     refine ⟨r,us3,w,rfl,rfl,hr3,by rw [oc3.length];exact hl,?_⟩;have oc':OwnL M.K H2 (λ _=>True) (cells++[y]) om (us3++[w]) (fc3++[]):=(oc3.full' (Z':=λ _=>True)).snoc oy2 λ _ _ z=>nomatch z
     rw [Jd] at oc';have oc4:OwnL M.K (Ao H2 r (.lst (us3++[w]))) (λ _=>True) (cells++[y]) om (us3++[w]) fc3:=oc'.at trivial ⟨.l us3,hr3⟩ nrc3 λ _ _ n=>absurd trivial n;obtain ⟨f',s',o'⟩:=nx _ _ fc3 oc4 λ _ z=>z;have nea:a0≠r:=λ e=>na3 (by rw [e];exact hrf3);have dm:∀ b,H2 b≠none->(Ao H2 r (.lst (us3++[w]))) b≠none:=λ b h=>by
      by_cases eb:b=r
      ·rw [eb,Bx];simp
      ·rw [AE eb];exact h
     have hsub:∀ b∈a0::f',b∈fps2 i:=λ b hb=>by
      rw [hf3];exact (jb3.mp hb).elim (λ z=>by rw [z];exact AI) λ z=>AA _ (s' b z)
     have kw:KS M H2 fps2 (Ao H2 r (.lst (us3++[w]))) (λ j=>if j=i then a0::f' else fps2 j):=⟨λ b u hb n=>by rw [AE (λ e=>n ⟨i,by rw [e];exact hri⟩)];exact hb,dm,λ j b hb=>by
      by_cases ej:j=i
      ·simp only [if_pos ej] at hb;exact .inl ⟨i,hsub b hb⟩
      ·simp only [if_neg ej] at hb;exact .inl ⟨j,hb⟩⟩
     refine q σ _ _ ((k1.ks.trans k2.ks).trans kw) (rep2.change hal ei2 hσ (λ b u hb n=>by rw [AE (λ e=>n (by rw [e];exact hri))];exact hb) dm hsub (λ _=>rfl) ?_);rw [Own];exact ⟨a0,ws,rfl,.inr ⟨by decide,f',by rw [AE nea];exact ha3,rfl,λ z=>na3 (s' a0 z),o'.full'⟩⟩
    ·exact q.elim
   ·exact q.elim
  ·exact q.elim
 ·exact q.elim
end
section
variable {is:List Nat}{M:Fm}{ρ ρ':Ag}{σ σ':St}{H H' H'':Hp}{fps fps' fps'':AB}{vs vs':List Nat}{D:Ends}
end
section
variable {is:List Nat}{M:Fm}{ρ ρ':Ag}{σ σ':St}{H H' H'':Hp}{fps fps' fps'':AB}{vs vs':List Nat}{D:Ends}
end
section
variable {is:List Nat}{X:Cx}{M:Fm}{ρ ρ':Ag}{σ σ':St}{H H' H'':Hp}{fps fps' fps'':AB}{vs vs':List Nat}{D:Ends}
def QU:Eh:=λ o i v H Q=>∃ a H',o=.ref a/\DPut H a i v H'/\Q H'
def UG:Eh:=λ o i v H Q=>Kg o i v H Q\/QU o i v H Q
def UL (hu:X.A.units + 1 < Cy):PSet X QU:=by
 intro pins s σ H o i v ov iv u Q I ro ri rv h;obtain ⟨a,H',rfl,g,q⟩:=h;obtain rfl:ov=Value.ref a:=ro;exact YM hu I g ri rv λ s' I'=>⟨H',I',q⟩
def PSet.or {t t':Eh} (h:PSet X t) (h':PSet X t'):PSet X (λ o i v H Q=>t o i v H Q\/t' o i v H Q):=by
 intro pins s σ H o i v ov iv u Q I ro ri rv q;rcases q with q | q
 ·exact h pins s σ H o i v ov iv u Q I ro ri rv q
 ·exact h' pins s σ H o i v ov iv u Q I ro ri rv q
def VG {K:Frag}{Z:Addr->Prop}{y:PV}{u:V}{d:Nat}{w:V}{fp:List Addr} (h:sV y=some u) (o:Own K H Z y d w fp):w=u/\Hm y=true:=by
 cases y <;> cases h <;> (rw [Own] at o;exact ⟨o.1,rfl⟩)
def Eb (x:PV) (k y:PV):Option PV:=match x,k with
 | .lst xs,.int i=>(match Bh xs.length i with
  | some j=>some (.lst (xs.set j y))
  | none=>none)
 | .dct kvs,.tup ks=>(match EJ ks,sV y with
  | some k,some u=>if kvs.length < An then some (.dct (BG kvs k u)) else none
  | _,_=>none)
 | _,_=>none
def ZI:PV->Bool
 | .lst _=>true
 | _=>false
def Hw (i:Nat) (fk f:Fx):Fs:=λ ρ=>match f ρ with
 | .ok (y,e,ρ1)=>(match ρ1[i]? with
  | some (some _)=>(match fk ρ1 with
   | .ok (k,_,ρ2)=>(match ρ2[i]? with
    | some (some (x,d))=>(match Eb x k y with
     | some x'=>if d≠0/\DN y=true then .nx (ρ2.set i (some (x',d))) else if d≠0/\e=om/\ZI x=true then .nx (ρ2.set i (some (x',1))) else .no
     | none=>.no)
    | _=>.no)
   | _=>.no)
  | _=>.no)
 | .exc c=>.exc c
 | .no=>.no
def Rep.poke {i:Nat}{x x':PV}{d:Nat}{a:Addr}{o':HO}{f':List Addr}{H0:Hp}{fps0:AB} (hal:∀ i,M.al i=[]) (k0:KS M H0 fps0 H fps) (r:Rep M ρ σ H fps) (hi:ρ[i]?=some (some (x,d))) (hσ:σ[i]?=some (some (.ref a))) (ha:a∈fps i) (hs:∀ b∈f',b∈fps i)
  (o:Own M.K (Ao H a o') (Zf M (λ j=>if j=i then f' else fps j)) x' d (.ref a) f'):KS M H0 fps0 (Ao H a o') (λ j=>if j=i then f' else fps j)/\Rep M (ρ.set i (some (x',d))) σ (Ao H a o') (λ j=>if j=i then f' else fps j):=by
 have dm:∀ b,H b≠none->Ao H a o' b≠none:=λ b hb=>by
  by_cases eb:b=a
  ·rw [eb,Bx];simp
  ·rw [AE eb];exact hb
 refine ⟨⟨λ b u hb n=>?_,λ b hb=>dm b (k0.dom b hb),λ j b hb=>?_⟩,r.change hal hi hσ (λ b u hb n=>?_) dm hs (λ h=>r.msf i _ _ h hi) o⟩
 ·have hb1:=k0.keep b u hb n;rw [AE]
  ·exact hb1
  ·rintro rfl;rcases k0.sub i b ha with z | z
   ·exact n z
   ·rw [z] at hb;cases hb
 ·by_cases ej:j=i
  ·simp only [if_pos ej] at hb;exact k0.sub i b (hs b hb)
  ·simp only [if_neg ej] at hb;exact k0.sub j b hb
 ·rw [AE]
  ·exact hb
  ·rintro rfl;exact n ha
theorem X7 {f fk:Fx}{vk:List Nat}{i:Nat} (hal:∀ i,M.al i=[]) (hm:M.Ms i=false) (hv:∀ i∈vs,M.Ms i=false) (hq:tS M (Hw i fk f) D σ H):BZ (tE M f vs) (ET (Bm i) (tE M fk vk) UG) D σ H:=by
 obtain ⟨ρ,fps,rep,q⟩:=hq;refine ⟨ρ,fps,rep,?_⟩;unfold Hw at q;cases ef:f ρ with
 | no=>rw [ef] at q;exact q
 | exc c=>rw [ef] at q;exact λ H' fps' k=>q _ H' fps' k.ks
 | ok p=>
  obtain ⟨y,e,ρ1⟩:=p;rw [ef] at q;intro w H1 fps1 fp k1 g1 rep1 o1 t1;dsimp only at q;cases e1:ρ1[i]? with
  | none=>rw [e1] at q;exact q.elim
  | some s1=>
   rw [e1] at q;cases s1 with
   | none=>exact q.elim
   | some p1=>
   obtain ⟨x1,d1⟩:=p1;dsimp only at q;obtain ⟨v0,hσ,_⟩:=rep1.own i _ _ e1;refine ⟨v0,hσ,ρ1,fps1,rep1,?_⟩;cases ek:fk ρ1 with
   | no=>rw [ek] at q;exact q.elim
   | exc c=>rw [ek] at q;exact q.elim
   | ok p2=>
    obtain ⟨k,ek',ρ2⟩:=p2;rw [ek] at q;intro kv H2 fps2 f2 k2 g2 rep2 o2 t2;dsimp only at q;cases e2:ρ2[i]? with
    | none=>rw [e2] at q;exact q.elim
    | some s2=>
     rw [e2] at q;cases s2 with
     | none=>exact q.elim
     | some p3=>
      obtain ⟨x,d⟩:=p3;dsimp only at q;cases ep:Eb x k y with
      | none=>rw [ep] at q;exact q.elim
      | some x'=>
       rw [ep] at q;dsimp only at q;split at q
       ·rename_i hc;obtain ⟨hd,hy⟩:=hc;obtain ⟨v1,hσ1,ox⟩:=rep2.own0 hal i _ _ e2;rw [hσ] at hσ1;cases hσ1;have k12:KS M H fps H2 fps2:=k1.ks.trans k2.ks;unfold Eb at ep;split at ep
        ·rename_i xs n;split at ep
         ·rename_i j ej;cases ep;rw [Own] at o2;obtain ⟨rfl,_⟩:=o2;obtain ⟨a,ws,fc,rfl,ha,hfp,nac,hol⟩:=ox.list hd;have hai:a∈fps2 i:=by rw [hfp];exact AI
          have ow:Own M.K H2 (Zf M fps2) y (pd d) w []:=(Own.flatA (d':=pd d) hy (k2.stay rep1 hv o1 t1.ndj)).2;obtain ⟨fc',hs',hset⟩:=hol.set ow j;have inI:∀ b,b∈a::fc'->b∈fps2 i:=λ b hb=>(jb3.mp hb).elim (λ z=>by rw [z];exact hai) λ z=>by rw [hfp];exact AA _ (hs' b z)
          have nz:∀ b,Zf M (λ j=>if j=i then a::fc' else fps2 j) b->Zf M fps2 b:=λ b h=>by
           rcases h with z | ⟨j,z⟩
           ·exact .inl z
           ·by_cases ej:j=i
            ·simp only [if_pos ej] at z;exact .inr ⟨i,inI b z⟩
            ·simp only [if_neg ej] at z;exact .inr ⟨j,z⟩
          refine .inl ⟨a,ws,n,j,rfl,rfl,ha,by rw [hol.length];exact ej,?_⟩;have pk:=rep2.poke (o':=.lst (ws.set j w)) (x':=.lst (xs.set j y)) (f':=a::fc') hal k12 e2 hσ hai inI (by
           rw [Own];exact ⟨a,_,rfl,.inr ⟨hd,fc',Bx,rfl,λ z=>nac (hs' a z),hset.at (.inr ⟨i,hai⟩) ⟨.l ws,ha⟩ (λ z=>nac (hs' a z)) λ b _ n z=>n (nz b z)⟩⟩)
          exact q σ _ _ pk.1 pk.2
         ·cases ep
        ·rename_i kvs ks;split at ep
         ·rename_i kk u ekk eu;split at ep
          ·rename_i hl;cases ep;obtain ⟨rfl,_⟩:=VG eu o1;rw [Own] at o2;obtain ⟨b,ws,rfl,hb,ol⟩:=o2
           have:=Lb ekk ol
           subst this;have hx:∃ a,v0=.ref a/\H2 a=some (.dT kvs)/\fps2 i=[a]:=by
            rw [Own] at ox;obtain ⟨a,ea,⟨d0,_⟩ | ⟨_,ha,hf⟩⟩:=ox
            ·exact absurd d0 hd
            ·exact ⟨a,ea,ha,hf⟩
           obtain ⟨a,rfl,ha,hf⟩:=hx;have hai:a∈fps2 i:=by rw [hf];exact AI
           refine .inr ⟨a,_,rfl,DPut.t ha hb hl,?_⟩;have pk:=rep2.poke (o':=.dT (BG kvs kk w)) (x':=.dct (BG kvs kk w)) (f':=[a]) hal k12 e2 hσ hai (λ b hb=>by rw [jb6.mp hb];exact hai) (by
            rw [Own];exact ⟨a,rfl,.inr ⟨hd,Bx,rfl⟩⟩)
           exact q σ _ _ pk.1 pk.2
          ·cases ep
         ·cases ep
        ·cases ep
       ·split at q
        ·rename_i hc;obtain ⟨hd,rfl,hx⟩:=hc;obtain ⟨v1,hσ1,ox⟩:=rep2.own0 hal i _ _ e2;rw [hσ] at hσ1;cases hσ1;cases x with
         | lst xs=>
          unfold Eb at ep;cases k with
          | int n=>
           dsimp only at ep;split at ep
           ·rename_i j ej;cases ep;rw [Own] at o2;obtain ⟨rfl,_⟩:=o2;obtain ⟨a,ws,fc,rfl,ha,hfp,nac,hol⟩:=ox.list hd;have hai:a∈fps2 i:=by rw [hfp];exact AI
            have oy:=k2.stay rep1 hv o1 t1.ndj;have n2:∀ b∈fp,¬ Zf M fps2 b:=λ b hb z=>by
             rcases z with z | ⟨j,z⟩
             ·exact t1.ndj b hb (.inl z)
             ·rcases k2.sub j b z with z | z
              ·exact t1.ndj b hb (.inr ⟨j,z⟩)
              ·obtain ⟨o,ho⟩:=Own.lsts y _ w fp o1 b hb;rw [ho] at z;cases z
            have hafp:a∉fp:=λ z=>n2 a z (.inr ⟨i,hai⟩);have hst:∃ j,a∈fps j:=⟨i,by have:=(k1.trans k2).same i hm;rw [<- this];exact hai⟩
            have rw2:Rep (M.plus fp) ρ2 σ H2 fps2:=rep.wide (λ i j hj=>by rw [hal i] at hj;cases hj) (k1.trans k2) (g1.trans g2) rep2 λ b hb=>⟨t1.new b hb,by obtain ⟨o,ho⟩:=Own.lsts y _ w fp oy b hb;rw [ho];simp,n2 b hb⟩
            have h2:∀ b∈fp,M.H₀ b=none/\¬ M.Zo b:=λ b hb=>⟨rep.h0' (t1.new b hb),λ z=>n2 b hb (.inl z)⟩
            let Z:Addr->Prop:=Zf M (λ j=>if j=i then [a] else fps2 j);have zsub:∀ b,Z b->Zf M fps2 b:=λ b h=>by
             rcases h with z | ⟨j,z⟩
             ·exact .inl z
             ·by_cases ej:j=i
              ·simp only [if_pos ej] at z;rw [jb6.mp z];exact .inr ⟨i,hai⟩
              ·simp only [if_neg ej] at z;exact .inr ⟨j,z⟩
            have nf:∀ b∈fc,¬ Z b:=λ b hb z=>by
             have hbi:b∈fps2 i:=by rw [hfp];exact AA _ hb
             rcases z with z | ⟨j,z⟩
             ·exact rep2.zo i b hbi z
             ·by_cases ej:j=i
              ·simp only [if_pos ej] at z;rw [jb6.mp z] at hb;exact nac hb
              ·simp only [if_neg ej] at z;exact rep2.dj i j (Bv ej) b hbi z
            have za:Z a:=.inr ⟨i,by simp⟩;have u1:=OwnL.freeze (Z':=Z) zsub xs _ ws fc nf hol;have u2:=Own.freeze (Z':=Z) (λ b _=>trivial) y _ w fp (λ b hb z=>n2 b hb (zsub b z)) (Own.full (Z':=λ _=>True) y w fp oy);obtain ⟨f',hs',u3⟩:=(u1.at za ⟨.l ws,ha⟩ (λ z=>nomatch z) λ _ _ n=>n).set (u2.at (o:=.lst (ws.set j w)) za ⟨.l ws,ha⟩ (λ z=>nomatch z) λ _ _ n=>n) j;obtain rfl:f'=[]:=jh8.mpr λ b hb=>nomatch hs' b hb
            refine .inl ⟨a,ws,n,j,rfl,rfl,ha,by rw [hol.length];exact ej,?_⟩;refine q σ _ _ ((k1.ks.trans k2.ks).write (i:=i) (f':=[]) (fp:=fp) hst λ b hb=>?_) (rw2.rewrite hal e2 hσ ha hfp (λ z=>nomatch z) (λ b hb=>nomatch hb) (by decide) (λ h=>by rw [hm] at h;cases h) h2 ?_)
            ·rcases jb3.mp hb with z | z
             ·exact .inl (by rw [z];exact hai)
             ·cases z
            ·rw [Jw];exact u3
           ·cases ep
          | _=>cases ep
         | _=>cases hx
        ·exact q.elim
def Of (i j:Nat) (f:Fx) (vs:List Nat):Fs:=λ ρ=>match f ρ with
 | .ok (y,e,ρ1)=>(match (Bk e vs ρ1)[i]? with
  | some (some (.lst xs,d))=>(match (Bk e vs ρ1)[j]? with
   | some (some (.int k,_))=>(match Bh xs.length k with
    | some n=>if d≠0 then .nx ((Bk e vs ρ1).set i (some (.lst (xs.set n y),1))) else .no
    | none=>.no)
   | _=>.no)
  | _=>.no)
 | .exc c=>.exc c
 | .no=>.no
theorem X6 {f:Fx}{i j:Nat} (hal:∀ i,M.al i=[]) (hv:∀ i∈vs,M.Ms i=false) (hm:M.Ms i=false) (hq:tS M (Of i j f vs) D σ H):BZ (tE M f vs) (ET (Bm i) (Bm j) Kg) D σ H:=by
 obtain ⟨ρ,fps,rep,q⟩:=hq;refine ⟨ρ,fps,rep,?_⟩;unfold Of at q;cases ef:f ρ with
 | no=>rw [ef] at q;exact q
 | exc c=>rw [ef] at q;exact λ H' fps' k=>q _ H' fps' k.ks
 | ok p=>
  obtain ⟨y,e,ρ1⟩:=p;rw [ef] at q;intro w H1 fps1 fp k1 g1 rep1 o1 t1;dsimp only at q;split at q
  ·rename_i xs d es;split at q
   ·rename_i k dk ek;split at q
    ·rename_i n en;split at q
     ·rename_i hd;obtain ⟨fps2,k2,r2,o2,n2,s2,h2⟩:=Rep.behind rep k1 g1 rep1 o1 t1 hal hv;obtain ⟨v',hσ,ol⟩:=r2.own0 hal i _ _ es;obtain ⟨a,ws,fc,rfl,ha,hfp,nac,hol⟩:=ol.list hd;obtain ⟨vk,hσk,ok⟩:=r2.own0 hal j _ _ ek;rw [Own] at ok;obtain ⟨rfl,_⟩:=ok;have hai:a∈fps2 i:=by rw [hfp];exact AI
      have hafp:a∉fp:=λ z=>n2 a z (.inr ⟨i,hai⟩);have hst:∃ j,a∈fps j:=⟨i,by have:=s2 i a hai;rw [k1.same i hm] at this;exact this⟩
      refine ⟨_,hσ,_,hσk,a,ws,k,n,rfl,rfl,ha,by rw [hol.length];exact en,?_⟩;refine q σ _ _ (k2.write (i:=i) (f':=[]) (fp:=fp) hst λ b hb=>?_) (r2.rewrite hal es hσ ha hfp (λ z=>nomatch z) (λ b hb=>nomatch hb) (by decide) (λ h=>by rw [hm] at h;cases h) h2 ?_)
      ·rcases jb3.mp hb with z | z
       ·exact .inl (by rw [z];exact hai)
       ·cases z
      ·rw [Jw];have zsub:∀ b,Zf M (λ j=>if j=i then [a] else fps2 j) b->Zf (M.plus fp) fps2 b:=λ b h=>by
        rcases h with z | ⟨j,z⟩
        ·exact .inl (.inl z)
        ·by_cases ej:j=i
         ·simp only [if_pos ej] at z;rw [jb6.mp z];exact .inr ⟨i,hai⟩
         ·simp only [if_neg ej] at z;exact .inr ⟨j,z⟩
       have nf:∀ b∈fc,¬ Zf M (λ j=>if j=i then [a] else fps2 j) b:=λ b hb z=>by
        have hbi:b∈fps2 i:=by rw [hfp];exact AA _ hb
        rcases z with z | ⟨j,z⟩
        ·exact r2.zo i b hbi (.inl z)
        ·by_cases ej:j=i
         ·simp only [if_pos ej] at z;rw [jb6.mp z] at hb;exact nac hb
         ·simp only [if_neg ej] at z;exact r2.dj i j (Bv ej) b hbi z
       have nfp:∀ b∈fp,¬ Zf M (λ j=>if j=i then [a] else fps2 j) b:=λ b hb z=>by
        rcases z with z | ⟨j,z⟩
        ·exact n2 b hb (.inl z)
        ·by_cases ej:j=i
         ·simp only [if_pos ej] at z;rw [jb6.mp z] at hb;exact hafp hb
         ·simp only [if_neg ej] at z;exact n2 b hb (.inr ⟨j,z⟩)
       have za:Zf M (λ j=>if j=i then [a] else fps2 j) a:=.inr ⟨i,by simp⟩;have u1:=(OwnL.freeze (Z':=Zf M (λ j=>if j=i then [a] else fps2 j)) zsub xs _ ws fc nf hol)
       have u2:=(Own.freeze (Z':=Zf M (λ j=>if j=i then [a] else fps2 j)) (λ b h=>by
        rcases h with z | ⟨j,z⟩
        ·exact .inl (.inl z)
        ·by_cases ej:j=i
         ·simp only [if_pos ej] at z;rw [jb6.mp z];exact .inl (.inr ⟨i,hai⟩)
         ·simp only [if_neg ej] at z;exact .inl (.inr ⟨j,z⟩)) y _ w fp nfp o2)
       obtain ⟨f',hs',u3⟩:=(u1.at za ⟨.l ws,ha⟩ (λ z=>nomatch z) λ _ _ n=>n).set (u2.at (o:=.lst (ws.set n w)) za ⟨.l ws,ha⟩ (λ z=>nomatch z) λ _ _ n=>n) n;obtain rfl:f'=[]:=jh8.mpr λ b hb=>nomatch hs' b hb
       exact u3
     ·exact q.elim
    ·exact q.elim
   ·exact q.elim
  ·exact q.elim
end
section
variable {X:Cx}{W:St->Nat->Hp->Prop}
def Yp (hr:Nd X W) (t:Dh X.K=true) (hcalm:X.calm=true) {c:Nat}{C:Addr}{x m:Str}{np cpos pos p:Pos}{j:_} (e:BC X.K c=some C) (hg:Gl X x) (hm:X.mg x=some (.ref C)) (hdb:(x == ("__debug__" : Str))=false):
  PS X (.Raise (some (.Call (.Name x np) [.Constant (.str m) j p] [] cpos)) none pos) (λ D σ H=>W σ c H):=by
 intro pins s σ H D I h;obtain ⟨bm,N,nm,q,bs,hdct,sn,sub,ab,col,dd,k0,k1,k2,k3,k5,mN,hC,hN,hni,T,_⟩:=(Ki I.ok.mod.kin t e).obj;have FB:=PySem.F.excBase_ValueError;have he:Ax [Expr.Constant (.str m) j p] X.env=(false,eval (.Constant (.str m) j p) X.env)::Ax [] X.env:=rfl;refine wpAny_Raise_call_subU (C:=C) (nm:=nm) (q:=q) (N:=N) (bs:=bs) (bm:=bm) (hdct:=hdct) (sn:=sn) (sub:=sub) (ab:=ab) (col:=col) (dd:=dd) (k0:=k0) (k1:=k1) (k2:=k2) (k3:=k3) (k5:=k5)
  FB (show bmV.contains (.type "ValueError")=true by decide +kernel) FB (mN:=mN) (T.hasType FB.hasBase) (I.ok.hd hcalm) rfl hni (IB I hg hm ⟨rfl,?_⟩ hdb)
 rw [he];refine Calls.evalArgs_plain (DE ((Dp RK FK (by rfl)) cpos pins s σ H (λ vs H'=>H'=H/\vs.length=1) I ⟨rfl,rfl⟩) (λ us s2 hu=>?_) λ _ _ y=>y);obtain ⟨vs,H2,I2,rv,eH,hl⟩:=hu;subst eH;refine ⟨rfl,?_,I2.bk _ _ hC,hN.keeps I2.bk,T.keeps I2.bk,λ h' a hx=>hr pins σ H2 s2 c C a h' us I2 e hx h⟩;show us.length<=An;rw [<- rv.length,hl];decide
end
section
variable {X:Cx}{pins pins1:List (Addr×Obj)}{σ:St}{H:Hp}{s:Ah}{e:Ae->Ah->Prop}
def Cx.Ok.wish2 {p:List (Addr×Obj)} (o:X.Ok):L2.Cx.Ok { X with pn:=p,xe:=e }:=⟨o.mod,o.kind,o.glob,o.blt,o.above,o.inj,o.has,o.cab,o.hd,o.frames,o.stk,o.exf,o.bs,o.bsz,o.noex,o.exfs,o.funs,o.frf⟩
def Inv.into (I:L2.Inv X pins σ H s):L2.Inv { X with pn:=X.pn++pins,xe:=e } [] σ H s:=
 ⟨Cx.Ok.wish2 I.ok,I.os,I.bare,I.base,I.loc,I.cell,I.free,I.freeC,λ p hp=>I.pin p (by simpa using hp),I.hok,I.len⟩
def Inv.outof (ok:X.Ok) (I:L2.Inv { X with pn:=X.pn++pins,xe:=e } pins1 σ H s):L2.Inv X pins σ H s:=
 ⟨ok,I.os,I.bare,I.base,I.loc,I.cell,I.free,I.freeC,λ p hp=>I.pin p (AY _ hp),I.hok,I.len⟩
abbrev Cx.inh (X:Cx) (v:Ae):Cx:={ X with A:=X.A.mark (some v),calm:=false,xe:=λ _ _=>False }
def Inv.inh (v:Ae) (I:L2.Inv X pins σ H s):L2.Inv (Cx.inh X v) pins σ H s:=
 ⟨⟨I.ok.mod,I.ok.kind,I.ok.glob,I.ok.blt,I.ok.above,I.ok.inj,I.ok.has,I.ok.cab,(λ h=>nomatch h),I.ok.frames,I.ok.stk,I.ok.exf,I.ok.bs,I.ok.bsz,I.ok.noex,I.ok.exfs,I.ok.funs,I.ok.frf⟩,I.os,I.bare,I.base,I.loc,I.cell,I.free,I.freeC,I.pin,I.hok,I.len⟩
def Inv.outh {v:Ae} (ok:X.Ok) (I:L2.Inv (Cx.inh X v) pins σ H s):L2.Inv X pins σ H s:=
 ⟨ok,I.os,I.bare,I.base,I.loc,I.cell,I.free,I.freeC,I.pin,I.hok,I.len⟩
def W2 {M:Model}{A:AW}{E:Ae->Ah->Prop}{i:Nat}{x:Str}{pos:Pos}{Q:Unit->Ah->Prop} (I:L2.Inv X pins σ H s) (hN:X.N.Nodup) (hi:X.N[i]?=some x) (hk:X.env.kindOf x=some .local)
  (h:∀ s',L2.Inv X pins (σ.set i none) H s'->Q () s'):Aq M A (do bindName X.env x .none;unbindBehindTheSuite X.env x pos) Q E s:=by
 obtain ⟨m,hn,hl⟩:=id I.loc;have hcls:(X.env.scope.kind == .class || (X.env.scope.kind == .module && X.env.locals != X.env.globals))=false:=by rw [I.ok.kind];rfl
 have hiσ:i < σ.length:=by rw [I.len];exact (ja7.mp hi).1
 have cne:=I.cne;refine wpAny_nameGoes_keeps hk hn hcls λ h' v hn' hs=>?_;have tracked:HOk X.prog X.w H h':=λ b ob e=>by
  refine (I.hok b ob e).stay (λ c w' hc q=>(hs.2 c ?_).trans q) (λ _ q=>q) λ _ _ q=>q;rintro rfl;rcases hc with rfl | hc
  ·rw [I.free] at e;cases e
  ·rw [I.free] at hc;cases hc
 refine h _ ⟨I.ok,I.os,I.bare,⟨λ b o e n hb hx=>?_,λ b o e n hb hx=>?_,I.base.free,λ b o e hx=>?_,I.base.tups,I.base.frzs,I.base.tbls⟩,⟨_,hn',λ j y v' e1 e2 e3=>?_⟩,λ y c e=>?_,I.free,I.freeC,λ p hp=>?_,tracked,by simpa using I.len⟩
 ·exact (hs.2 b (Cc (Br (AZ e) I.ok.above))).trans (I.base.keep b o e n hb hx)
 ·obtain ⟨sl,e1⟩:=I.base.slot b o e n hb hx;exact ⟨sl,(hs.2 b (Cc (Br (AZ e) I.ok.above))).trans e1⟩
 ·obtain ⟨o',e1⟩:=I.base.there b o e hx;exact ⟨o',(hs.2 b (Cc (Br (AZ e) I.ok.above))).trans e1⟩
 ·by_cases hj:j=i
  ·subst hj;rw [CH hiσ] at e2;cases e2
  ·rw [BJ (Bv hj)] at e2;obtain ⟨u',r',q⟩:=hl j y v' e1 e2 e3;refine ⟨u',r',?_⟩;rcases q with ⟨k,e⟩ | ⟨k,c,e,z⟩
   ·refine .inl ⟨k,?_⟩
    have:y≠x:=λ e=>hj (MN hN e1 (e ▸ hi))
    simp [this,e]
   ·exact .inr ⟨k,c,e,z.sameBut hs (cne y c e)⟩
 ·obtain ⟨w',z⟩:=I.cell y c e;exact ⟨w',z.sameBut hs (cne y c e)⟩
 ·obtain ⟨e,n,ne,nf,d⟩:=I.pin p hp;exact ⟨(hs.2 p.1 ne).trans e,n,ne,nf,d⟩
end
section
variable {M:Model}{A:AW}{E:Ae->Ah->Prop}{K:Frag}
def Qp {s:Ah}{a C D:Addr}{c d:Nat}{Q:Bool->Ah->Prop} (xc:XC s.heap K c C) (xd:XC s.heap K d D) (ed:BC K d=some D) (he:Dy a C s.heap) (hq:Q (CI c d) s):Aq M A (excMatches (.ref a) (.ref D)) Q E s:=by
 obtain ⟨bm,N,nm,q,bs,hdct,sn,sub,ab,col,dd,k0,k1,k2,k3,k5,mN,hC,hN,hni,T,hin⟩:=xc.obj;obtain ⟨bm',N',nm',q',bs',hdct',sn',sub',ab',col',dd',k0',k1',k2',k3',k5',mN',hD,hN',hni',T',_⟩:=xd.obj;obtain ⟨oe,vs,hoe,hcls,hdt⟩:=he;have hcB:(Value.ref D::bm').contains (.type "BaseException")=true:=by rw [List.contains_cons,T'.hasType PySem.F.excBase_ValueError.hasBase,Bool.or_true]
 have hcC:=hin d D ed;have f:=tc_notTuple;obtain ⟨h,g,dr,t,os⟩:=s;unfold excMatches
 repeat (first | (with_reducible refine JO hoe ?_;rw [hcls]) | with_reducible refine JO hD ?_ | (with_reducible refine wpAny_isSubtype_exc hD ?_;rw [hcB]) | (with_reducible refine wpAny_isSubtype_exc hC ?_;rw [hcC]) | wp_step)
 cases hb:CI c d <;> (rw [hb] at hq;wp_walk;exact hq)
end
section
variable {X:Cx}{pins:List (Addr×Obj)}{σ:St}{H H1:Hp}{s:Ah}{B:Heap}{a C:Addr}{a0:Ae}{c:Nat}
def Lh {s':Ah}{h:Heap} (I:L2.Inv X pins σ H s) (un:Un (BS X.stack) [] H H1 s.heap s'.heap) (hok:HOk X.prog X.w H1 s'.heap) (fl:JJ B X.stack a (.ref C) a0 h) (up:s'.heap.UpToSlots h)
  (i1:∀ b o,s'.heap.get? b=some o->H1 b≠none->B.get? b=some o) (i2:∀ b o,s.heap.get? b=some o->H b=none->b∉BS X.stack->B.get? b=some o) (ha:H1 a=none) (hn:s.heap.get? a=none) (hd:∀ b,H b≠none->H1 b≠none) (ho:s'.os=s.os) (hg:Eo s'.gens):
  L2.Inv X pins σ (Ao H1 a (.ext (Dy a C))) { s' with heap:=h }/\Dy a C h:=by
 have ex:Dy a C h:=by
  obtain ⟨oe,vs,e1,e2,e3,_⟩:=fl.first;exact ⟨oe,vs,e1,e2,e3⟩
 have DY:∀ b v,H1 b≠none->s'.heap.get? b=some v->h.get? b=some v:=λ b v hb e=>fl.1 b v (i1 b v e hb);have nea:∀ b o,s.heap.get? b=some o->b≠a:=λ b o e z=>by rw [z,hn] at e;cases e
 have nea1:∀ b o,H1 b=some o->b≠a:=λ b o e z=>by rw [z,ha] at e;cases e
 have fr:∀ b o,s.heap.get? b=some o->H b=none->b∈BS X.stack->∃ sl,h.get? b=some { o with slots:=sl }:=λ b o e n hb=>by
  obtain ⟨sl,e2⟩:=un.any e n (by simp);obtain ⟨_,o',ho',hnf⟩:=I.stack.mem hb;rw [e] at ho';cases ho';obtain ⟨sl2,e3⟩:=up b _ e2 hnf;exact ⟨sl2,e3⟩
 refine ⟨I.call' (s':={ s' with heap:=h }) (ch:=[]) ho ⟨λ b o e n hb _=>fl.1 b o (i2 b o e n hb),λ b o e n hb _=>fr b o e n hb,λ b o e n _=>?_,λ b o e _=>?_,λ b xs e=>?_,λ b o xs e=>?_,λ b ps e=>?_⟩ (λ b o e=>?_) hg (λ b z=>absurd z (by simp)),ex⟩
 ·rw [AE (nea b o e)];exact un.free b o e n (by simp)
 ·by_cases h0:H b=none
  ·by_cases hb:b∈BS X.stack
   ·obtain ⟨sl,e2⟩:=fr b o e h0 hb;exact ⟨_,e2⟩
   ·exact ⟨o,fl.1 b o (i2 b o e h0 hb)⟩
  ·obtain ⟨o2,e2⟩:=un.there b o e (by simp);exact ⟨o2,DY b o2 (hd b h0) e2⟩
 ·have:=un.tups b xs e
  rw [AE (nea1 b _ this)];exact this
 ·have:=un.frzs b o xs e
  rw [AE (nea1 b _ this)];exact this
 ·obtain ⟨m,e1⟩:=un.tbls b ps e;exact ⟨m,by rw [AE (nea1 b _ e1)];exact e1⟩
 ·by_cases eb:b=a
  ·subst eb;rw [Bx] at e;cases e;refine ⟨ex,?_,λ h1 h2 x k=>?_⟩
   ·obtain ⟨o,_,e1,_⟩:=ex;exact ⟨o,e1⟩
   ·obtain ⟨o,vs,e1,e2⟩:=x;exact ⟨o,vs,k o e1,e2⟩
  ·rw [AE eb] at e;refine (hok b o e).stay (λ d v hd q=>DY d v ?_ q) (λ d q=>?_) λ d xs q=>?_
   ·rcases hd with rfl | hd
    ·rw [e];simp
    ·rw [hd];simp
   ·rw [AE (nea1 d _ q)];exact q
   ·rw [AE (nea1 d _ q)];exact q
def WT (K:Frag) (d i j:Nat) (D:Ends) (σ₀:St):St->Nat->Hp->Prop:=λ σ c H'=>σ=σ₀/\CI c d=true/\∀ a C,H' a=none->BC K c=some C->D.nx (((σ.set j (some (.ref a))).set i (some (.ref a))).set j none) (Ao H' a (.ext (Dy a C)))
def Yq {tb:(St->Nat->Hp->Prop)->TS}{body:List Stmt}{y n x:Str}{np hpos px pn pa pos:Pos}{d:Nat}{Dd:Addr}{i j:Nat} (t:Dh X.K=true) (hst:X.stack=X.env::X.outer) (hfr:X.env.frame=some X.env.locals) (hN:X.N.Nodup) (hi:X.N[i]?=some x) (hj:X.N[j]?=some n) (hij:i≠j)
  (hx:DJ X.env.scope x) (hn:X.env.kindOf n=some .local) (hfn:∀ z,X.fn z=true) (ed:BC X.K d=some Dd) (hg:Gl X y) (hm:X.mg y=some (.ref Dd)) (hdb:(y == ("__debug__" : Str))=false) (hdn:(n == ("__debug__" : Str))=false) (hcn:(n == ("__classdict__" : Str))=false)
  (hb:∀ pn' xe' W',Ip (AG X.prog X.w X.K) { X with pn:=pn',xe:=xe' } W'->IL (Ap X.prog X.w) X.A X.env xe'->Dt { X with pn:=pn',xe:=xe' } body (tb W')):
  PS X (.Try body [.ExceptHandler (some (.Name y np)) (some n) [.Assign [.Name x px] (.Name n pn) pa] hpos] [] [] pos) (λ D σ H=>tb (WT X.K d i j D σ) D σ H):=by
 intro pins s σ H D I h;refine wpAny_Try_except (DE (hb (X.pn++pins) _ (WT X.K d i j D σ) ?_ PassesOwn.looking [] s σ H D (Inv.into I) h) (λ f s1 hs=>?_) λ e s1 he=>he)
 ·
  intro pins1 σ1 H1 s1 e s' I1 hx';obtain ⟨a,C,c,H',B,a0,rfl,hc,ho,hg',un,hok,ha,hn',fl,i1,i2,hd,hE⟩:=hx';obtain ⟨rfl,hcd,hD⟩:WT X.K d i j D σ σ1 c H':=hE;have I2:L2.Inv X pins σ1 H1 s1:=Inv.outof I.ok I1;have fl':JJ B (X.env::X.outer) a (.ref C) a0 s'.heap:=by rw [<- hst];exact fl
  refine wpAny_looks_onW (by rw [I.ok.frames,hst]) hfr fl' λ h4 held4 up4=>?_;refine wpAny_landsW held4 λ h5 fl5 up5=>?_;have up45:=up4.trans up5;obtain ⟨I5,x5⟩:=Lh I2 un hok (by rw [hst];exact fl5) up45 i1 i2 ha hn' hd ho hg';have I5':=Inv.inh (.ref a) I5;refine wpAny_handleBy_cons (codeAny_handlers_test (IB I5' hg hm ?_ hdb)) (by intro q;cases q);refine Qp (Ki I5.kIn t hc) (Ki I5.kIn t ed) ed x5 ?_;rw [hcd];refine codeAny_handlers_suite_as ?_;refine lands_againW fl5 λ h6 fl6 up6=>?_;obtain ⟨I6,x6⟩:=Lh I2 un hok (by rw [hst];exact fl6) (up45.trans up6) i1 i2 ha hn' hd ho hg';refine Ny (v:=.ref a) I6 hN hj (.inl hn) rfl (λ s7 I7=>?_) (.inl (hfn n));have hjl:j < σ1.length:=by rw [I2.len];exact (ja7.mp hj).1
  have pse:PS (Cx.inh X (.ref a)) (.Assign [.Name x px] (.Name n pn) pa) (BZ (Bm j) (DO i)):=Jz hN hi hx (RM hj (.inl hn) hdn hcn) rfl (.inl (hfn x));have run:=(IC pse) pins s7 _ _ { nx:=λ σ' H''=>σ'=(σ1.set j (some (.ref a))).set i (some (.ref a))/\H''=Ao H' a (.ext (Dy a C)),rt:=λ _ _=>False } (Inv.inh (.ref a) I7) ⟨.ref a,by rw [CH hjl],rfl,rfl⟩;refine DE run (λ f s8 hs=>?_) λ _ _ z=>z.elim;cases f with
  | next=>
   obtain ⟨σ',H'',I8,rfl,rfl⟩:=hs;refine W2 (Inv.outh I.ok I8) hN hj hn λ s9 I9=>?_;exact ⟨_,_,I9,hD a C ha hc⟩
  | brk=>obtain ⟨_,_,_,z⟩:=hs;exact z.elim
  | cont=>obtain ⟨_,_,_,z⟩:=hs;exact z.elim
  | ret u=>obtain ⟨_,_,_,_,_,z⟩:=hs;exact z.elim
 ·cases f with
  | next=>
   obtain ⟨σ',H',I',q⟩:=hs;exact JM ⟨σ',H',Inv.outof I.ok I',q⟩
  | brk=>
   obtain ⟨σ',H',I',q⟩:=hs;exact ⟨σ',H',Inv.outof I.ok I',q⟩
  | cont=>
   obtain ⟨σ',H',I',q⟩:=hs;exact ⟨σ',H',Inv.outof I.ok I',q⟩
  | ret u=>
   obtain ⟨v,σ',H',I',r,q⟩:=hs;exact ⟨v,σ',H',Inv.outof I.ok I',r,q⟩
def KA (K:Frag) (d i:Nat) (D:Ends) (σ₀:St):St->Nat->Hp->Prop:=λ σ c H'=>σ=σ₀/\CI c d=true/\∀ a C,H' a=none->BC K c=some C->D.nx (σ.set i (some .non)) (Ao H' a (.ext (Dy a C)))
def Xs {tb:(St->Nat->Hp->Prop)->TS}{body:List Stmt}{y x:Str}{np hpos px pn pa pos:Pos}{jc:_}{d:Nat}{Dd:Addr}{i:Nat} (t:Dh X.K=true) (hst:X.stack=X.env::X.outer) (hfr:X.env.frame=some X.env.locals) (hN:X.N.Nodup) (hi:X.N[i]?=some x)
  (hx:DJ X.env.scope x) (hfn:∀ z,X.fn z=true) (ed:BC X.K d=some Dd) (hg:Gl X y) (hm:X.mg y=some (.ref Dd)) (hdb:(y == ("__debug__" : Str))=false)
  (hb:∀ pn' xe' W',Ip (AG X.prog X.w X.K) { X with pn:=pn',xe:=xe' } W'->IL (Ap X.prog X.w) X.A X.env xe'->Dt { X with pn:=pn',xe:=xe' } body (tb W')):
  PS X (.Try body [.ExceptHandler (some (.Name y np)) none [.Assign [.Name x px] (.Constant .none jc pn) pa] hpos] [] [] pos) (λ D σ H=>tb (KA X.K d i D σ) D σ H):=by
 intro pins s σ H D I h;refine wpAny_Try_except (DE (hb (X.pn++pins) _ (KA X.K d i D σ) ?_ PassesOwn.looking [] s σ H D (Inv.into I) h) (λ f s1 hs=>?_) λ e s1 he=>he)
 ·intro pins1 σ1 H1 s1 e s' I1 hx';obtain ⟨a,C,c,H',B,a0,rfl,hc,ho,hg',un,hok,ha,hn',fl,i1,i2,hd,hE⟩:=hx';obtain ⟨rfl,hcd,hD⟩:KA X.K d i D σ σ1 c H':=hE;have I2:L2.Inv X pins σ1 H1 s1:=Inv.outof I.ok I1;have fl':JJ B (X.env::X.outer) a (.ref C) a0 s'.heap:=by rw [<- hst];exact fl
  refine wpAny_looks_onW (by rw [I.ok.frames,hst]) hfr fl' λ h4 held4 up4=>?_;refine wpAny_landsW held4 λ h5 fl5 up5=>?_;have up45:=up4.trans up5;obtain ⟨I5,x5⟩:=Lh I2 un hok (by rw [hst];exact fl5) up45 i1 i2 ha hn' hd ho hg';have I5':=Inv.inh (.ref a) I5;refine wpAny_handleBy_cons (codeAny_handlers_test (IB I5' hg hm ?_ hdb)) (by intro q;cases q);refine Qp (Ki I5.kIn t hc) (Ki I5.kIn t ed) ed x5 ?_;rw [hcd];refine codeAny_handlers_suite ?_;refine lands_againW fl5 λ h6 fl6 up6=>?_;obtain ⟨I6,x6⟩:=Lh I2 un hok (by rw [hst];exact fl6) (up45.trans up6) i1 i2 ha hn' hd ho hg';have pse:PS (Cx.inh X (.ref a)) (.Assign [.Name x px] (.Constant .none jc pn) pa) (BZ (tC .non) (DO i)):=Jz hN hi hx RI rfl (.inl (hfn x));have run:=(IC pse) pins _ _ _ { nx:=λ σ' H''=>σ'=σ1.set i (some .non)/\H''=Ao H' a (.ext (Dy a C)),rt:=λ _ _=>False } (Inv.inh (.ref a) I6) ⟨rfl,rfl⟩;refine DE run (λ f s8 hs=>?_) λ _ _ z=>z.elim;cases f with
  | next=>
   obtain ⟨σ',H'',I8,rfl,rfl⟩:=hs;exact ⟨_,_,Inv.outh I.ok I8,hD a C ha hc⟩
  | brk=>obtain ⟨_,_,_,z⟩:=hs;exact z.elim
  | cont=>obtain ⟨_,_,_,z⟩:=hs;exact z.elim
  | ret u=>obtain ⟨_,_,_,_,_,z⟩:=hs;exact z.elim
 ·cases f with
  | next=>
   obtain ⟨σ',H',I',q⟩:=hs;exact JM ⟨σ',H',Inv.outof I.ok I',q⟩
  | brk=>
   obtain ⟨σ',H',I',q⟩:=hs;exact ⟨σ',H',Inv.outof I.ok I',q⟩
  | cont=>
   obtain ⟨σ',H',I',q⟩:=hs;exact ⟨σ',H',Inv.outof I.ok I',q⟩
  | ret u=>
   obtain ⟨v,σ',H',I',r,q⟩:=hs;exact ⟨v,σ',H',Inv.outof I.ok I',r,q⟩
end
section
variable {is:List Nat}{X:Cx}{M:Fm}{ρ ρ':Ag}{σ σ':St}{H H' H'':Hp}{fps fps' fps'':AB}{vs vs':List Nat}{D:Ends}
def C6 (c:Nat):Fs:=λ _=>.exc c
def VW {c:Nat} (hq:tS M (C6 c) D σ H):M.W σ c H:=by
 obtain ⟨ρ,fps,rep,q⟩:=hq;exact q σ H fps KS.refl
def RrOk (M:Fm) (D:Ends) (σ:St) (H:Hp) (fps:AB):Rs->Prop
 | .exc c=>∀ H' fps',KD M H fps H' fps'->M.W σ c H'
 | .nx ρ'=>RsOk M D H fps (.nx ρ')
 | .rt x d ρ'=>RsOk M D H fps (.rt x d ρ')
 | _=>False
def tR (M:Fm) (f:Fs):TS:=λ D σ H=>∃ ρ fps,Rep M ρ σ H fps/\RrOk M D σ H fps (f ρ)
theorem RrOk.from {r:Rs} (k1:KD M H fps H' fps') (q:RrOk M D σ H fps r):RrOk M D σ H' fps' r:=by
 cases r with
 | no=>exact q
 | exc c=>exact λ H2 fps2 k=>q H2 fps2 (k1.trans k)
 | rt x d ρ2=>exact RsOk.from (r:=.rt x d ρ2) k1.ks q
 | nx ρ2=>exact RsOk.from (r:=.nx ρ2) k1.ks q
 | bk ρ2=>exact q
 | ct ρ2=>exact q
theorem Xo {f:Fx} (hq:tR M (Bz f) D σ H):GK (tE M f vs) D σ H:=by
 obtain ⟨ρ,fps,rep,q⟩:=hq;cases ef:f ρ with
 | ok p=>
  refine SD (M:=M) ⟨ρ,fps,rep,?_⟩;unfold Bz at q ⊢;rw [ef] at q ⊢;exact q
 | no=>
  unfold Bz at q;rw [ef] at q;exact q.elim
 | exc c=>
  unfold Bz at q;rw [ef] at q;refine ⟨ρ,fps,rep,?_⟩;rw [ef];exact q
theorem VT {f:Fx}{i:Nat}{ms:Bool} (hal:∀ i,M.al i=[]) (hv:∀ i∈vs,M.Ms i=false) (hms:M.Ms i=ms) (hio:M.Fre i) (hq:tR M (Ai ms i f vs) D σ H):BZ (tE M f vs) (DO i) D σ H:=by
 obtain ⟨ρ,fps,rep,q⟩:=hq;cases ef:f ρ with
 | ok p=>
  refine O2 hal hv hms hio ⟨ρ,fps,rep,?_⟩;cases er:Ai ms i f vs ρ with
  | nx ρ'=>rw [er] at q;exact q
  | rt x d ρ'=>rw [er] at q;exact q
  | exc c=>
   obtain ⟨x,d,ρ1⟩:=p;unfold Ai at er;rw [ef] at er;dsimp only at er;split at er <;> cases er
  | no=>rw [er] at q;exact q.elim
  | bk ρ'=>rw [er] at q;exact q.elim
  | ct ρ'=>rw [er] at q;exact q.elim
 | no=>
  unfold Ai at q;rw [ef] at q;exact q.elim
 | exc c=>
  unfold Ai at q;rw [ef] at q;refine ⟨ρ,fps,rep,?_⟩;rw [ef];exact q
theorem UM {c:Fb}{f g:Fs} (hq:tR M (A0 c f g) D σ H):HG (tT M c) (tR M f) (tR M g) D σ H:=by
 obtain ⟨ρ,fps,rep,q⟩:=hq;refine ⟨ρ,fps,rep,?_⟩;unfold A0 at q;cases ec:c ρ with
 | no=>rw [ec] at q;exact q
 | exc c=>rw [ec] at q;exact q
 | ok p=>
  obtain ⟨b,ρ1⟩:=p;rw [ec] at q;intro H1 fps1 k1 g1 rep1;dsimp only at q;cases b with
  | true=>exact ⟨ρ1,fps1,rep1,RrOk.from k1 q⟩
  | false=>exact ⟨ρ1,fps1,rep1,RrOk.from k1 q⟩
def TB (ms:List Nat) (ρ:Ag):Bool:=ms.all λ k=>match ρ[k]? with
 | some (some (.non,_))=>true
 | some (some _)=>false
 | _=>true
def DZ (d i j:Nat) (ms:List Nat) (b:Fs):Fs:=λ ρ=>match b ρ with
 | .nx ρ'=>.nx ρ'
 | .rt y e ρ'=>.rt y e ρ'
 | .exc c=>if CI c d=true/\i < ρ.length/\TB ms ρ=true then .nx ((ρ.set i (some (.exn c,om))).set j none) else .no
 | _=>.no
def Fm.want (M:Fm) (W':St->Nat->Hp->Prop):Fm:={ M with W:=W' }
def Rep.want {W':St->Nat->Hp->Prop} (r:Rep M ρ σ H fps):Rep (M.want W') ρ σ H fps:=⟨r.own,r.non,r.dj,r.zo,r.fr,r.zd,r.len,r.msf,r.h0,r.iov⟩
def Rep.unwant {W':St->Nat->Hp->Prop} (r:Rep (M.want W') ρ σ H fps):Rep M ρ σ H fps:=⟨r.own,r.non,r.dj,r.zo,r.fr,r.zd,r.len,r.msf,r.h0,r.iov⟩
def Rep.gone {j:Nat} (hal:∀ i,M.al i=[]) (r:Rep M ρ σ H fps) (hio:M.Fre j):Rep M (ρ.set j none) (σ.set j none) H (λ k=>if k=j then [] else fps k):=by
 have sub:∀ k,∀ a∈(if k=j then [] else fps k),a∈fps k:=λ k a h=>by
  by_cases e:k=j
  ·rw [if_pos e] at h;cases h
  ·rw [if_neg e] at h;exact h
 have get:∀ k p,(ρ.set j none)[k]?=some (some p)->k≠j/\ρ[k]?=some (some p):=λ k p e=>by
  by_cases ek:k=j
  ·subst ek;by_cases hl:k < ρ.length
   ·rw [CH hl] at e;cases e
   ·rw [List.set_eq_of_length_le (by omega)] at e;rw [K0 (by omega)] at e;cases e
  ·rw [BJ (Bv ek)] at e;exact ⟨ek,e⟩
 refine ⟨λ k x d e=>?_,λ k h=>?_,λ k l hkl a ha hb=>r.dj k l hkl a (sub k a ha) (sub l a hb),λ k a ha=>r.zo k a (sub k a ha),λ k hk a ha=>r.fr k hk a (sub k a ha),r.zd,by rw [C1,C1];exact r.len,λ k x d hk e=>r.msf k x d hk (get k _ e).2,r.h0,?_⟩
 ·obtain ⟨ek,e'⟩:=get k _ e;obtain ⟨v,hv,o⟩:=r.own k x d e';refine ⟨v,by rw [BJ (Bv ek)];exact hv,?_⟩;rw [if_neg ek];refine o.weak λ a h=>?_;rcases h with h | ⟨l,nl,h⟩
  ·exact .inl h
  ·exact .inr ⟨l,nl,sub l a h⟩
 ·by_cases ek:k=j
  ·rw [if_pos ek]
  ·rw [if_neg ek];exact r.non k λ p e=>h p (by rw [BJ (Bv ek)];exact e)
 ·refine ⟨λ v hv=>?_,λ p hp=>?_⟩
  ·have:=r.iov.1 v hv
   have h0:=hio.1 (by rw [hv];simp);rw [BJ h0];exact this
  ·rw [BJ (hio.2 p hp).symm];exact r.iov.2 p hp
theorem Wc {d i j:Nat}{ms:List Nat}{b:Fs} (hal:∀ i,M.al i=[]) (hms:∀ i,M.Ms i=ms.contains i) (hmi:M.Ms i=false) (hij:i≠j) (hoi:M.Fre i) (hoj:M.Fre j) (hq:tS M (DZ d i j ms b) D σ H):tR (M.want (WT M.K d i j D σ)) b D σ H:=by
 obtain ⟨ρ,fps,rep,q⟩:=hq;refine ⟨ρ,fps,rep.want,?_⟩;unfold DZ at q;have ks:∀ {H':Hp}{fps':AB},KS (M.want (WT M.K d i j D σ)) H fps H' fps'->KS M H fps H' fps':=λ k=>⟨k.keep,k.dom,k.sub⟩
 cases eb:b ρ with
 | no=>rw [eb] at q;exact q
 | bk ρ'=>rw [eb] at q;exact q
 | ct ρ'=>rw [eb] at q;exact q
 | nx ρ'=>rw [eb] at q;exact λ σ' H' fps' k r=>q σ' H' fps' (ks k) r.unwant
 | rt x e ρ'=>rw [eb] at q;exact λ v σ' H' fps' fp k r o hf=>q v σ' H' fps' fp (ks k) r.unwant o hf
 | exc c=>
  rw [eb] at q;dsimp only at q;split at q
  ·rename_i hc;intro H' fps' k;refine ⟨rfl,hc.1,λ a C ha hC=>?_⟩;have kk:∀ b o,H b=some o->H' b=some o:=λ b o h=>k.keep b o h λ ⟨l,hl,hb⟩=>by
    have hl:M.Ms l=true:=hl;rw [hms l] at hl;have hm:l∈ms:=by simpa using hl
    have hc3:=jc4.mp hc.2.2 l hm;have e:fps l=[]:=by
     cases el:ρ[l]? with
     | none=>exact rep.non l λ p z=>by rw [el] at z;cases z
     | some q=>
      cases q with
      | none=>exact rep.non l λ p z=>by rw [el] at z;cases z
      | some p=>
       obtain ⟨x,dx⟩:=p;rw [el] at hc3;cases x <;> first | (obtain ⟨v,_,o⟩:=rep.own l _ _ el;rw [Own] at o;exact o.2) | exact nomatch hc3
    rw [e] at hb;cases hb
   have k2:∀ b o,H b=some o->Ao H' a (.ext (Dy a C)) b=some o:=λ b o h=>by
    rw [AE (Hf (kk b o h) ha)];exact kk b o h
   have r2:=(rep.grow k2).bind1 (al:=[]) (i:=i) (y:=.exn c) (v:=.ref a) (by rw [Own];exact ⟨rfl,a,C,rfl,hC,Bx⟩) hc.2.1 ⟨hmi,hoi,hal i,λ l m hm=>by rw [hal l] at hm;cases hm⟩;have r3:=r2.gone (j:=j) hal hoj;have es:((σ.set j (some (V.ref a))).set i (some (V.ref a))).set j none=(σ.set i (some (V.ref a))).set j none:=by
    rw [List.set_comm _ _ (Bv hij),List.set_set]
   rw [es];refine q _ _ _ ⟨λ b o h _=>k2 b o h,λ b h=>?_,λ l b hb=>?_⟩ r3
   ·cases e:H b with
    | none=>exact absurd e h
    | some o=>rw [k2 b o e];simp
   ·by_cases e1:l=j
    ·simp only [if_pos e1] at hb;cases hb
    ·simp only [if_neg e1] at hb;by_cases e2:l=i
     ·simp only [if_pos e2] at hb;cases hb
     ·simp only [if_neg e2] at hb;exact .inl ⟨l,hb⟩
  ·exact q.elim
def Og (d i:Nat) (ms:List Nat) (b:Fs):Fs:=λ ρ=>match b ρ with
 | .nx ρ'=>.nx ρ'
 | .rt y e ρ'=>.rt y e ρ'
 | .exc c=>if CI c d=true/\i < ρ.length/\TB ms ρ=true then .nx (ρ.set i (some (.non,om))) else .no
 | _=>.no
theorem X9 {d i:Nat}{ms:List Nat}{b:Fs} (hal:∀ i,M.al i=[]) (hms:∀ i,M.Ms i=ms.contains i) (hmi:M.Ms i=false) (hoi:M.Fre i) (hq:tS M (Og d i ms b) D σ H):tR (M.want (KA M.K d i D σ)) b D σ H:=by
 obtain ⟨ρ,fps,rep,q⟩:=hq;refine ⟨ρ,fps,rep.want,?_⟩;unfold Og at q;have ks:∀ {H':Hp}{fps':AB},KS (M.want (KA M.K d i D σ)) H fps H' fps'->KS M H fps H' fps':=λ k=>⟨k.keep,k.dom,k.sub⟩
 cases eb:b ρ with
 | no=>rw [eb] at q;exact q
 | bk ρ'=>rw [eb] at q;exact q
 | ct ρ'=>rw [eb] at q;exact q
 | nx ρ'=>rw [eb] at q;exact λ σ' H' fps' k r=>q σ' H' fps' (ks k) r.unwant
 | rt x e ρ'=>rw [eb] at q;exact λ v σ' H' fps' fp k r o hf=>q v σ' H' fps' fp (ks k) r.unwant o hf
 | exc c=>
  rw [eb] at q;dsimp only at q;split at q
  ·rename_i hc;intro H' fps' k;refine ⟨rfl,hc.1,λ a C ha hC=>?_⟩;have kk:∀ b o,H b=some o->H' b=some o:=λ b o h=>k.keep b o h λ ⟨l,hl,hb⟩=>by
    have hl:M.Ms l=true:=hl;rw [hms l] at hl;have hm:l∈ms:=by simpa using hl
    have hc3:=jc4.mp hc.2.2 l hm;have e:fps l=[]:=by
     cases el:ρ[l]? with
     | none=>exact rep.non l λ p z=>by rw [el] at z;cases z
     | some q=>
      cases q with
      | none=>exact rep.non l λ p z=>by rw [el] at z;cases z
      | some p=>
       obtain ⟨x,dx⟩:=p;rw [el] at hc3;cases x <;> first | (obtain ⟨v,_,o⟩:=rep.own l _ _ el;rw [Own] at o;exact o.2) | exact nomatch hc3
    rw [e] at hb;cases hb
   have k2:∀ b o,H b=some o->Ao H' a (.ext (Dy a C)) b=some o:=λ b o h=>by
    rw [AE (Hf (kk b o h) ha)];exact kk b o h
   have r2:=(rep.grow k2).bind1 (al:=[]) (i:=i) (y:=.non) (v:=.non) (by rw [Own];exact ⟨rfl,rfl⟩) hc.2.1 ⟨hmi,hoi,hal i,λ l m hm=>by rw [hal l] at hm;cases hm⟩;refine q _ _ _ ⟨λ b o h _=>k2 b o h,λ b h=>?_,λ l b hb=>?_⟩ r2
   ·cases e:H b with
    | none=>exact absurd e h
    | some o=>rw [k2 b o e];simp
   ·by_cases e2:l=i
    ·simp only [if_pos e2] at hb;cases hb
    ·simp only [if_neg e2] at hb;exact .inl ⟨l,hb⟩
  ·exact q.elim
end
section
variable {M:Fm}{ρ ρ':Ag}{σ σ':St}{H H':Hp}{fps fps':AB}{F F':Addr->Prop}{P P':List (Nat×V)}
end
section
variable {X:Cx}{M:Fm}{ρ:Ag}{σ:St}{H:Hp}{fps:AB}
end
theorem OwnL.erase {K:Frag}{H:Hp}{Z:Addr->Prop}{d:Nat}{z:PV}:∀ {xs:List PV}{ws:List V}{f:List Addr}{n:Nat},OwnL K H Z xs d ws f->xs[n]?=some z->∃ w fz fr,ws[n]?=some w/\Own K H Z z d w fz/\OwnL K H Z (xs.eraseIdx n) d (ws.eraseIdx n) fr/\∀ a∈fr,a∈f
 | [],_,_,_,_,e=>by cases e
 | y::ys,ws,f,n,h,e=>by
  rw [OwnL] at h;obtain ⟨v,s,f1,f2,rfl,rfl,dj,h1,h2⟩:=h;cases n with
  | zero=>cases e;exact ⟨v,f1,f2,rfl,h1,h2,λ a ha=>AR _ ha⟩
  | succ n=>
   obtain ⟨w,fz,fr,e1,o,ol,sb⟩:=h2.erase (n:=n) (by simpa using e);refine ⟨w,fz,f1++fr,by simpa using e1,o,?_,λ a ha=>(jb8.mp ha).elim (λ z=>AY _ z) λ z=>AR _ (sb a z)⟩;show OwnL K H Z (y::ys.eraseIdx n) d (v::s.eraseIdx n) (f1++fr);rw [OwnL];exact ⟨v,_,f1,fr,rfl,rfl,λ a ha z=>dj a ha (sb a z),h1,ol⟩
section
variable {M:Fm}{ρ ρ':Ag}{σ:St}{H H':Hp}{fps:AB}{vs:List Nat}
end
def IV (i:Nat):Fs:=λ ρ=>match ρ[i]? with
 | some (some (.lst (x::xs),d + 1))=>.nx (ρ.set i (some (.lst (x::xs).dropLast,d + 1)))
 | _=>.no
def Sh {α:Type}{xs:List α} (h:xs≠[]):∃ x,xs[xs.length - 1]?=some x:=by
 have:=List.length_pos_iff.mpr h
 exact ⟨xs[xs.length - 1]'(by omega),Dn (by omega)⟩
section
variable {M:Fm}{ρ ρ':Ag}{σ:St}{H H':Hp}{fps:AB}{vs:List Nat}
def Xr {i:Nat}{D:Ends} (hal:∀ i,M.al i=[]) (hq:tS M (IV i) D σ H):GK (HH M.K "list" HM (Bm i)) D σ H:=by
 obtain ⟨ρ,fps,rep,q⟩:=hq;unfold IV at q;split at q
 ·rename_i x0 xs0 d ei;generalize e0:x0::xs0=xs at q ei;have hne:xs≠[]:=by rw [<- e0];exact Tj _ _
  obtain ⟨v,hi,o⟩:=rep.own0 hal i _ _ ei;obtain ⟨a,ws,fc,rfl,ha,hfp,nac,hol⟩:=o.list (Kv _);obtain ⟨z,hz⟩:=Sh hne;obtain ⟨u,fz,fr,eu,oz,oer,sb⟩:=hol.erase hz;have hai:a∈fps i:=by rw [hfp];exact AI
  refine ⟨_,hi,Ju (.inl (.inl ha)),a,ws,u,rfl,rfl,ha,by rw [hol.length];exact eu,?_⟩;rw [Jp,<- hol.length,Jp] at oer;have inI:∀ c,c∈a::fr->c∈fps i:=λ c hc=>(jb3.mp hc).elim (λ z=>by rw [z];exact hai) λ z=>by rw [hfp];exact AA _ (sb c z)
  have nz:∀ c,Zf M (λ l=>if l=i then a::fr else fps l) c->Zf M fps c:=λ c h=>by
   rcases h with z | ⟨l,z⟩
   ·exact .inl z
   ·by_cases el:l=i
    ·simp only [if_pos el] at z;exact .inr ⟨i,inI c z⟩
    ·simp only [if_neg el] at z;exact .inr ⟨l,z⟩
  have pk:=rep.poke (o':=.lst ws.dropLast) (x':=.lst xs.dropLast) (f':=a::fr) hal KS.refl ei hi hai inI (by
   rw [Own];exact ⟨a,_,rfl,.inr ⟨Kv _,fr,Bx,rfl,λ z=>nac (sb a z),oer.at (.inr ⟨i,hai⟩) ⟨.l ws,ha⟩ (λ z=>nac (sb a z)) λ c _ n z=>n (nz c z)⟩⟩)
  exact q σ _ _ pk.1 pk.2
 ·exact q.elim
def Hv (i:Nat) (fi:Fx):Fs:=λ ρ=>match ρ[i]?,fi ρ with
 | some (some (.lst rows,d)),.ok (.int a,_,ρ1)=>(match Bh rows.length a with
  | some p=>(match rows[p]? with
   | some (.lst (c::cells))=>if d=om then .nx (ρ1.set i (some (.lst (rows.set p (.lst (c::cells).dropLast)),om))) else .no
   | _=>.no)
  | none=>.no)
 | _,_=>.no
def Xq {fi:Fx}{vi:List Nat}{i:Nat}{D:Ends} (hal:∀ i,M.al i=[]) (hm:M.Ms i=false) (hq:tS M (Hv i fi) D σ H):GK (HH M.K "list" HM (FV (EF M.K) (Bm i) (tE M fi vi))) D σ H:=by
 obtain ⟨ρ,fps,rep,q⟩:=hq;unfold Hv at q;split at q
 ·rename_i rows d a da ρ1 ei e1;split at q
  ·rename_i p ep;split at q
   ·rename_i c0 cells0 er;split at q
    ·rename_i hc;subst hc;generalize e0:c0::cells0=cells at q er;have hne:cells≠[]:=by rw [<- e0];exact Tj _ _
     obtain ⟨v,hσ,_⟩:=rep.own0 hal i _ _ ei;refine ⟨v,hσ,ρ,fps,rep,?_⟩;rw [e1];intro va H1 fps1 fpa k1 g1 rep1 oa ta;rw [Own] at oa;obtain ⟨rfl,rfl⟩:=oa;have ei1:ρ1[i]?=some (some (.lst rows,om)):=by rw [g1.1 i hm];exact ei
     obtain ⟨v3,hσ3,ol3⟩:=rep1.own0 hal i _ _ ei1;rw [hσ] at hσ3;cases hσ3;obtain ⟨a0,ws,f3,rfl,ha3,hf3,na3,hol3⟩:=ol3.list (by decide:om≠0);rw [DQ] at hol3;obtain ⟨r,us3,fc3,ew3,hr3,hrf3,oc3,sc3,nrc3,nx⟩:=hol3.row er;refine ⟨a0,ws,a,.ref r,rfl,rfl,.inl (.inl ha3),(by unfold Bj;rw [hol3.length,ep];exact ew3),Ju (.inl (.inl hr3)),?_⟩;obtain ⟨z,hz⟩:=Sh hne;obtain ⟨u,fz,fr,eu,oz,oer,sb⟩:=(oc3.full' (Z':=λ _=>True)).erase hz;refine ⟨r,us3,u,rfl,rfl,hr3,by rw [oc3.length];exact eu,?_⟩;rw [Jp,<- oc3.length,Jp] at oer;have hri:r∈fps1 i:=by rw [hf3];exact AA _ hrf3
     have oc4:OwnL M.K (Ao H1 r (.lst us3.dropLast)) (λ _=>True) cells.dropLast om us3.dropLast fr:=oer.at trivial ⟨.l us3,hr3⟩ (λ z=>nrc3 (sb r z)) λ _ _ n=>absurd trivial n;obtain ⟨f',s',o'⟩:=nx _ _ fr oc4 sb;have nea:a0≠r:=λ e=>na3 (by rw [e];exact hrf3);have dm:∀ b,H1 b≠none->(Ao H1 r (.lst us3.dropLast)) b≠none:=λ b h=>by
      by_cases eb:b=r
      ·rw [eb,Bx];simp
      ·rw [AE eb];exact h
     have hsub:∀ b∈a0::f',b∈fps1 i:=λ b hb=>by
      rw [hf3];exact (jb3.mp hb).elim (λ z=>by rw [z];exact AI) λ z=>AA _ (s' b z)
     have kw:KS M H1 fps1 (Ao H1 r (.lst us3.dropLast)) (λ j=>if j=i then a0::f' else fps1 j):=⟨λ b u hb n=>by rw [AE (λ e=>n ⟨i,by rw [e];exact hri⟩)];exact hb,dm,λ j b hb=>by
      by_cases ej:j=i
      ·simp only [if_pos ej] at hb;exact .inl ⟨i,hsub b hb⟩
      ·simp only [if_neg ej] at hb;exact .inl ⟨j,hb⟩⟩
     refine q σ _ _ (k1.ks.trans kw) (rep1.change hal ei1 hσ (λ b u hb n=>by rw [AE (λ e=>n (by rw [e];exact hri))];exact hb) dm hsub (λ _=>rfl) ?_);rw [Own];exact ⟨a0,ws,rfl,.inr ⟨by decide,f',by rw [AE nea];exact ha3,rfl,λ z=>na3 (s' a0 z),o'.full'⟩⟩
    ·exact q.elim
   ·exact q.elim
  ·exact q.elim
 ·exact q.elim
end
def Kb:V->List V->Hp->VK->Prop:=λ x vs H Q=>∃ l xs y,∃ K:Int,∃ k:Nat,x=.ref l/\vs=[.int K,y]/\K=(k:Int)/\H l=some (.lst xs)/\k<=xs.length/\xs.length < An/\Q .non (Ao H l (.lst (xs.take k++y::xs.drop k)))
def Vp {X:Cx}:Ph X "list.insert" Kb:=by
 intro pins s σ H x vs v us Q I rx rv h;obtain ⟨l,xs,y,K,k,rfl,rfl,hK,hH,hk,hz0,q⟩:=h;cases rx;obtain ⟨u1,u,rfl,r1,r2⟩:=IX rv;obtain ⟨t,rfl⟩:=r1;obtain ⟨z,its,n,r,hl,e⟩:=I.lstM hH;have hn:=Ho;have hK0:0<=K:=by omega
 have hK1:K < 2 ^ 63:=by omega
 have hfit:¬ (!Builtin.List.listFitsIndex K)=true:=by
  rw [fitsIndex_both (M4 (by decide) hK0) hK1];exact C2
 have hs1:its.toArray.size<=An:=by rw [BA];omega
 refine JI F.slot_list_insert ⟨_,e,rfl⟩ F.entry_list_insert (F.args_list_insert_3 _ _ _) (AutoSeq1.list_insert_list_int_val_1 l its.toArray n K t u hfit hs1) ⟨e,?_⟩;refine ⟨.non,_,I.lset (its':=its.take k++u::its.drop k) hH e ?_ ((r.take k).append (.cons r2 (r.drop k))) ?_,rfl,q⟩
 ·have hk':min K.toNat its.toArray.size=k:=by rw [BA];omega
  have hn0:¬ K < 0:=by omega
  simp only [hn0,if_false,hk'];apply Array.toList_inj.mp;simp;exact T1 (by rw [Jf];exact Bc _)
 ·rw [Bn,BP,EM,Jf];omega
def Ea (i:Nat) (fk f:Fx):Fs:=λ ρ=>match ρ[i]? with
 | some (some (.lst _,_ + 1))=>(match fk ρ with
  | .ok (.int k,_,ρ1)=>(match f ρ1 with
   | .ok (y,_,ρ2)=>(match ρ2[i]? with
    | some (some (.lst xs,d))=>if d≠0/\DN y=true/\0<=k/\k.toNat<=xs.length/\xs.length < An then .nx (ρ2.set i (some (.lst (xs.take k.toNat++y::xs.drop k.toNat),d))) else .no
    | _=>.no)
   | _=>.no)
  | _=>.no)
 | _=>.no
theorem OwnL.ins {K:Frag}{H:Hp}{Z:Addr->Prop}{d:Nat}{y:PV}{w:V} (oy:Own K H Z y d w []):∀ {xs:List PV}{ws:List V}{f:List Addr}{n:Nat},OwnL K H Z xs d ws f->OwnL K H Z (xs.take n++y::xs.drop n) d (ws.take n++w::ws.drop n) f
 | xs,ws,f,0,h=>by
  show OwnL K H Z (y::xs) d (w::ws) f;rw [OwnL];exact ⟨w,ws,[],f,rfl,rfl,λ _ z=>(nomatch z),oy,h⟩
 | [],ws,f,n + 1,h=>by
  rw [OwnL] at h;obtain ⟨rfl,rfl⟩:=h;show OwnL K H Z [y] d [w] [];rw [OwnL];refine ⟨w,[],[],[],rfl,rfl,λ _ z=>(nomatch z),oy,?_⟩;rw [OwnL];exact ⟨rfl,rfl⟩
 | x::xs,ws,f,n + 1,h=>by
  rw [OwnL] at h;obtain ⟨v,s,f1,f2,rfl,rfl,dj,h1,h2⟩:=h;show OwnL K H Z (x::(xs.take n++y::xs.drop n)) d (v::(s.take n++w::s.drop n)) (f1++f2);rw [OwnL];exact ⟨v,_,f1,f2,rfl,rfl,dj,h1,OwnL.ins oy h2⟩
section
variable {M:Fm}{ρ ρ':Ag}{σ:St}{H H':Hp}{fps:AB}{vs vk:List Nat}
def VX {f fk:Fx}{i:Nat}{D:Ends} (hal:∀ i,M.al i=[]) (hm:M.Ms i=false) (hv:∀ i∈vs,M.Ms i=false) (hq:tS M (Ea i fk f) D σ H):
  GK (LV M.K "list" Kb (Bm i) (GJ (tE M fk vk) (GJ (tE M f vs) EE))) D σ H:=by
 obtain ⟨ρ,fps,rep,q⟩:=hq;unfold Ea at q;split at q
 ·rename_i x0 d0 ei;obtain ⟨v,hi,o⟩:=rep.own0 hal i _ _ ei;obtain ⟨a,ws0,fc0,rfl,ha0,_,_,_⟩:=o.list (Kv _);refine ⟨_,hi,Ju (.inl (.inl ha0)),ρ,fps,rep,?_⟩;split at q
  ·rename_i k ek ρ1 e1;rw [e1];intro va H1 fps1 fpa k1 g1 rep1 oa ta;rw [Own] at oa;obtain ⟨rfl,_⟩:=oa;refine ⟨ρ1,fps1,rep1,?_⟩;split at q
   ·rename_i y ey ρ2 e2;rw [e2];intro w H2 fps2 fp k2 g2 rep2 oy ty;split at q
    ·rename_i xs d es;split at q
     ·rename_i hc;obtain ⟨hd,hfl,hk0,hkl,hl⟩:=hc;obtain ⟨v',hi',ox⟩:=rep2.own0 hal i _ _ es;rw [hi] at hi';cases hi';obtain ⟨a',ws,fc,ev,ha,hfp,nac,hol⟩:=ox.list hd;cases ev;have hai:a∈fps2 i:=by rw [hfp];exact AI
      obtain ⟨_,oy2⟩:=Own.flatA (Z':=Zf M fps2) (d':=pd d) hfl oy;refine ⟨a,ws,w,k,k.toNat,rfl,rfl,by omega,ha,by rw [hol.length];exact hkl,by rw [hol.length];exact hl,?_⟩;have pk:=rep2.poke (o':=.lst (ws.take k.toNat++w::ws.drop k.toNat)) (x':=.lst (xs.take k.toNat++y::xs.drop k.toNat)) (f':=fps2 i) hal (k1.ks.trans k2.ks) es hi hai (λ _ h=>h) (by
       rw [Own];have e3:(λ j=>if j=i then fps2 i else fps2 j)=fps2:=by funext j;by_cases ej:j=i <;> simp [ej]
       rw [e3];exact ⟨a,_,rfl,.inr ⟨hd,fc,Bx,hfp,nac,(OwnL.ins oy2 hol).at (.inr ⟨i,hai⟩) ⟨.l ws,ha⟩ nac λ c _ n z=>n z⟩⟩)
      exact q σ _ _ pk.1 pk.2
     ·exact q.elim
    ·exact q.elim
   ·exact q.elim
  ·exact q.elim
 ·exact q.elim
end
def NU:Expr->Option (Expr×Expr)
 | .Subscript a b _=>some (a,b)
 | _=>none
def VI {e a b:Expr} (h:NU e=some (a,b)):∃ p,e=.Subscript a b p:=by
 unfold NU at h;split at h
 ·cases h;exact ⟨_,rfl⟩
 ·cases h
def L8:Expr->Bool
 | .ListComp _ _ _ _=>true
 | .SetComp _ _ _ _=>true
 | .DictComp _ _ _ _ _=>true
 | _=>false
def UY:Expr->Bool
 | .Tuple _ _ _=>true
 | .List _ _=>true
 | _=>false
def Bo (d:Stmt->Option Fs):List Stmt->Option Fs
 | []=>some Al
 | [s]=>d s
 | s::r=>match d s,Bo d r with
  | some f,some g=>some (Af f g)
  | _,_=>none
def Dl (S:Sx) (x:Str):Bool:=CW S.sc x .local || CW S.sc x .cell
def FG (S:Sx) (i:Nat):Bool:=(decide (i≠0) || !S.msF 0) && !S.pn.contains i
def Ra (iw:Iw) (asg:PV->Ag->Option Ag) (body:Fs):Fs:=match iw with
 | .rng en fa _=>CK en fa asg body
 | .seq f vs=>El f vs asg body
 | .vw v fa vs=>UJ v fa vs asg body
def Js (S:Sx):List Expr->Option (List Nat)
 | []=>some []
 | .Name x _::r=>match S.slot x,Js S r with
  | some i,some is=>if Dl S x=true/\FG S i=true/\S.msF i=false then some (i::is) else none
  | _,_=>none
 | _=>none
def NV:Expr->Option Str
 | .Call f es ks _=>(match CY f with
  | some x=>(match es with
   | [e]=>(match e with
    | .Constant k _ _=>(match k with
     | .str _=>(match ks with
      | []=>some x
      | _::_=>none)
     | _=>none)
    | _=>none)
   | _=>none)
  | none=>none)
 | _=>none
def VE {e:Expr}{x:Str} (h:NV e=some x):∃ np m j p cpos,e=.Call (.Name x np) [.Constant (.str m) j p] [] cpos:=by
 unfold NV at h;split at h
 ·split at h
  ·rename_i hx;obtain ⟨np,rfl⟩:=Df hx;split at h
   ·split at h
    ·split at h
     ·split at h
      ·cases h;exact ⟨_,_,_,_,_,rfl⟩
      ·cases h
     ·cases h
    ·cases h
   ·cases h
  ·cases h
 ·cases h
def HL:Option Expr->Option Expr->Option Str
 | some e,none=>NV e
 | _,_=>none
def WY {e c:Option Expr}{x:Str} (h:HL e c=some x):∃ np m j p cpos,e=some (.Call (.Name x np) [.Constant (.str m) j p] [] cpos)/\c=none:=by
 unfold HL at h;split at h
 ·obtain ⟨np,m,j,p,cpos,rfl⟩:=VE h;exact ⟨np,m,j,p,cpos,rfl,rfl⟩
 ·cases h
def Pd:Stmt->Option (Str×Expr)
 | .Assign ts e _=>(match ts with
  | [t]=>(CY t).map λ x=>(x,e)
  | _=>none)
 | _=>none
def Vr {st:Stmt}{x:Str}{e:Expr} (h:Pd st=some (x,e)):∃ px pa,st=.Assign [.Name x px] e pa:=by
 unfold Pd at h;split at h
 ·split at h
  ·obtain ⟨y,hy,e2⟩:=jb0.mp h;cases e2;obtain ⟨px,rfl⟩:=Df hy;exact ⟨_,_,rfl⟩
  ·cases h
 ·cases h
def OU:LK->Option (Str×Option Str×Str×Expr)
 | .ExceptHandler ty n body _=>(match ty with
  | some ty=>(match CY ty with
   | some y=>(match body with
    | [st]=>(Pd st).map λ p=>(y,n,p.1,p.2)
    | _=>none)
   | none=>none)
  | none=>none)
def Vh {hh:LK}{y x:Str}{n:Option Str}{e:Expr} (h:OU hh=some (y,n,x,e)):∃ np px pa hpos,hh=.ExceptHandler (some (.Name y np)) n [.Assign [.Name x px] e pa] hpos:=by
 unfold OU at h;split at h;split at h
 ·split at h
  ·rename_i hy;obtain ⟨np,rfl⟩:=Df hy;split at h
   ·obtain ⟨p,hp,e2⟩:=jb0.mp h;cases e2;obtain ⟨px,pa,rfl⟩:=Vr hp;exact ⟨_,_,_,_,rfl⟩
   ·cases h
  ·cases h
 ·cases h
def O7:Expr->Bool
 | .Constant k _ _=>(match k with
  | .none=>true
  | _=>false)
 | _=>false
def Vq {e:Expr} (h:O7 e=true):∃ k p,e=.Constant .none k p:=by
 unfold O7 at h;split at h
 ·split at h
  ·exact ⟨_,_,rfl⟩
  ·cases h
 ·cases h
def HD (hs:List LK) (o f:List Stmt):Option (Str×Option Str×Str×Expr):=match hs with
 | [h]=>(match o with
  | []=>(match f with
   | []=>OU h
   | _::_=>none)
  | _::_=>none)
 | _=>none
def SJ {hs:List LK}{o f:List Stmt}{y x:Str}{n:Option Str}{e:Expr} (h:HD hs o f=some (y,n,x,e)):∃ np px pa hpos,hs=[.ExceptHandler (some (.Name y np)) n [.Assign [.Name x px] e pa] hpos]/\o=[]/\f=[]:=by
 unfold HD at h;split at h
 ·split at h
  ·split at h
   ·obtain ⟨np,px,pa,hpos,rfl⟩:=Vh h;exact ⟨_,_,_,_,rfl,rfl,rfl⟩
   ·cases h
  ·cases h
 ·cases h
def Ly (S:Sx) (x:Str):Option Nat:=match XN.findIdx? (·== x) with
 | some c=>if S.rz=true/\S.xc.contains c=true/\S.glob x=true then some c else none
 | none=>none
def Sx.nr (S:Sx):Sx:={ S with rz:=false }
def IY:Nat->Sx->List Stmt->Option Fs
 | 0,_,_=>none
 | n + 1,S,sts=>match sts with
  | [.Expr (.Call (.Name x p) es [] p1) _]=>(match AN 60 S (.Call (.Name x p) es [] p1) with
   | some (f,_)=>some (Bz f)
   | none=>none)
  | [.Assign [.Name x _] e _]=>(match S.slot x,AN 60 S e with
   | some i,some (f,vs)=>if Dl S x=true/\FG S i=true/\L8 e=false then some (Ai (S.msF i) i f vs) else none
   | _,_=>none)
  | [.If c a b _]=>(match AN 60 S c,IY n S a,IY n S b with
   | some (f,_),some s,some t=>some (A0 (bT f) s t)
   | _,_,_=>none)
  | _=>none
def EV (S:Sx):Expr->Option D2
 | .Dict [] [] _=>some (K8,[])
 | e=>AN 60 S e
def Q8 (S:Sx) (x at':Str) (apos:Pos) (e:Expr) (cpos:Pos):Option Fs:=if at' = "append" then (match S.slot x,AN 60 S e with
   | some i,some (f,vs)=>if S.msF i=false/\(apos.endLine == cpos.line)=true then some (BE i f vs) else none
   | _,_=>none) else none
def Q9 (S:Sx) (o:Expr) (at':Str) (apos:Pos) (e:Expr) (cpos:Pos):Option Fs:=match o with
 | .Subscript b i _=>(match CY b with
  | some x=>(match S.slot x,AN 60 S i,AN 60 S e with
   | some s,some (fi,_),some (f,_)=>if at' = "append" /\ S.msF s=false/\GG i=true/\(apos.endLine == cpos.line)=true then some (Fe s fi f) else none
   | _,_,_=>none)
  | none=>none)
 | _=>none
def O4 (S:Sx) (o:Expr) (at':Str) (apos:Pos) (es:List Expr) (cpos:Pos):Option Fs:=match es with
 | []=>if at' = "pop" /\ (apos.endLine == cpos.line)=true then (match CY o with
  | some x=>(S.slot x).map λ i=>IV i
  | none=>(match NU o with
   | some (b,i)=>(match CY b with
    | some x=>(match S.slot x,AN 60 S i with
     | some s,some (fi,_)=>if S.msF s=false/\GG i=true then some (Hv s fi) else none
     | _,_=>none)
    | none=>none)
   | none=>none)) else none
 | k::r=>(match r with
  | [e]=>(match CY o with
   | some x=>(match S.slot x,AN 60 S k,AN 60 S e with
    | some i,some (fk,_),some (f,_)=>if at' = "insert" /\ S.msF i=false/\(apos.endLine == cpos.line)=true then some (Ea i fk f) else none
    | _,_,_=>none)
   | none=>none)
  | _=>none)
def K5 (S:Sx):Expr->Option Fs
 | .Call fn es [] p1=>(match fn with
  | .Attribute o at' apos=>(match O4 S o at' apos es p1 with
   | some f=>some f
   | none=>match CY o,es with
   | some x,[e]=>Q8 S x at' apos e p1
   | none,[e]=>Q9 S o at' apos e p1
   | _,_=>none)
  | .Name x p=>(match AN 60 S (.Call (.Name x p) es [] p1) with
   | some (f,_)=>some (Bz f)
   | none=>none)
  | _=>none)
 | _=>none
def Ov:PV->Nat->PV->Nat->Option (PV×Nat)
 | .lst xs,d,.int i,_=>(Bj xs i).map λ z=>(z,if d=om then om else dv z)
 | _,_,_,_=>none
theorem OwnL.nthF {K:Frag}{H:Hp}{Z:Addr->Prop}{d:Nat}{x:PV}:∀ {xs:List PV}{ws:List V}{f:List Addr}{j:Nat},OwnL K H Z xs d ws f->xs[j]?=some x->∃ w fx,ws[j]?=some w/\Own K H Z x d w fx/\∀ a∈fx,a∈f
 | [],_,_,_,_,e=>by cases e
 | y::ys,ws,f,j,h,e=>by
  rw [OwnL] at h;obtain ⟨v,s,f1,f2,rfl,rfl,_,h1,h2⟩:=h;cases j with
  | zero=>cases e;exact ⟨v,f1,rfl,h1,λ a ha=>AY _ ha⟩
  | succ j=>
   obtain ⟨w,fx,e1,o,s'⟩:=h2.nthF (j:=j) (by simpa using e);exact ⟨w,fx,by simpa using e1,o,λ a ha=>AR _ (s' a ha)⟩
def Kl:List (PV×Nat)->Bool
 | []=>true
 | p::r=>((p.2 == om) || DN p.1) && Kl r
def Ox (xs:List (PV×Nat)):Option (PV×Nat):=if xs.length<=An then some (.lst (xs.map (·.1)),if Kl xs then om else 1) else none
theorem Tmps.allF {K:Frag}{H:Hp}{Z:Addr->Prop}:∀ {xs:List (PV×Nat)}{ws:List V}{fp:List Addr},Tmps K H Z xs ws fp->Kl xs=true->OwnL K H Z (xs.map (·.1)) om ws fp
 | [],_,_,h,_=>by rw [Kq,OwnL];exact h
 | (x,d)::xs,ws,fp,h,ha=>by
  obtain ⟨v,s,f1,f2,e1,e2,dj,h1,h2⟩:=h;unfold Kl at ha;rw [AL,EL] at ha;rw [C8,OwnL];rcases ha.1 with e | e
  ·have e:d=om:=eq_of_beq e;subst e;exact ⟨v,s,f1,f2,e1,e2,dj,Own.full x v f1 h1,h2.allF ha.2⟩
  ·obtain ⟨rfl,o⟩:=Own.flatA (Z':=Z) (d':=om) e h1;exact ⟨v,s,[],f2,e1,e2,dj,o,h2.allF ha.2⟩
section
variable {X:Cx}{M:Fm}{a b:Expr}{es:List Expr}{fa:Fa}{f g:Fx}{vs vs':List Nat}{pos:Pos}
def Xf (h:PA X es (tL M fa vs)):PE X (.List es pos) (tE M (Aj Ox fa) vs):=by
 refine Bg (RE h) λ σ H Q h=>LD (r:=λ xs H1 Q=>xs.length<=An/\∀ p,H1 p=none->Q (.ref p) (Ao H1 p (.lst xs))) (λ xs z c ws H fps fp Q ho tm nz zd lf=>?_) h;unfold Ox at ho;split at ho
 ·rename_i hl;refine ⟨by rw [tm.length];exact hl,λ q hq=>?_⟩;cases eo:Kl xs with
  | true=>rw [eo] at ho;cases ho;exact MU lf (tm.allF eo) hq
  | false=>rw [eo] at ho;cases ho;exact MY lf (tm.cold λ a ha z=>nz a ha z.zf) hq
 ·cases ho
def Xb (hv:∀ i∈vs,M.Ms i=false) (hs:Lz b) (ha:PE X a (tE M f vs)) (hb:PE X b (tE M g vs')):PE X (.Subscript a b pos) (tE M (Ab Ov f g) (vs++vs')):=by
 refine Bg (Kf R7 ha hb hs) λ σ H Q h=>DA hv (λ x d y e z c v w H fps f1 f2 Q ho o1 o2 dj nz zd lf=>?_) h;unfold Ov at ho;split at ho
 ·rename_i xs i;obtain ⟨z',ez,e2⟩:=jb0.mp ho;rw [Own] at o2;by_cases hd:d=om
  ·subst hd;rw [if_pos rfl] at e2;cases e2;obtain ⟨p,ws,fc,rfl,hp,rfl,nac,ol⟩:=o1.list (by decide:om≠0);rw [DQ] at ol;unfold Bj at ez;cases ej:Bh xs.length i with
   | none=>rw [ej] at ez;cases ez
   | some j=>
    rw [ej] at ez;obtain ⟨w',fz,e1,ow,sb⟩:=ol.nthF ez;refine .inl ⟨p,ws,i,w',rfl,o2.1,.inl (.inl hp),?_,lf w' H fz (λ _ _ h=>h) (Own.full _ _ _ ow) λ a ha=>.inl (AY _ (AA _ (sb a ha)))⟩;unfold Bj;rw [ol.length,ej];exact e1
  ·rw [if_neg hd] at e2;cases e2;obtain ⟨p,ws,rfl,hp,ol⟩:=(cold o1 λ a ha=>nz a (AY _ ha)).coldL;obtain ⟨w',e1,ow⟩:=Ng ol ez;exact .inl ⟨p,ws,i,w',rfl,o2.1,.inl (.inl hp),e1,Io lf ow⟩
 ·cases ho
end
def EU (S:Sx) (e:Expr):Option D2:=match e with
 | .Subscript (.List es _) b _=>(match EA (AN 60 S) es,AN 60 S b with
  | some (fa,v),some (g,u)=>if GG b=true then some (Ab Ov (Aj Ox fa) g,v++u) else none
  | _,_=>none)
 | e=>AN 60 S e
def Kj (S:Sx) (x:Str) (k e:Expr):Option Fs:=match CY k,e with
 | some z,.Subscript (.Name _ _) _ _=>(match S.slot x,S.slot z,AN 60 S e with
  | some i,some j,some (f,vs)=>if S.msF i=false then some (Of i j f vs) else none
  | _,_,_=>none)
 | _,_=>none
def Ru (S:Sx) (t k e:Expr):Option Fs:=match t with
 | .Name x _=>(match ME k with
  | some k=>(match S.slot x,AN 60 S e with
    | some i,some (f,vs)=>some (HK i k f)
    | _,_=>none)
  | none=>(match Kj S x k e with
   | some f=>some f
   | none=>(match S.slot x,AN 60 S k,EU S e with
    | some i,some (fk,_),some (f,_)=>if S.msF i=false/\GG k=true then some (Hw i fk f) else none
    | _,_,_=>none)))
 | .Subscript b i _=>(match CY b with
  | some x=>(match S.slot x,AN 60 S i,AN 60 S k,EU S e with
    | some s,some (fi,_),some (fj,_),some (f,_)=>if S.msF s=false/\GG i=true/\GG k=true then some (CB s fi fj f) else none
    | _,_,_,_=>none)
  | none=>none)
 | _=>none
def Rq (S:Sx) (t e:Expr):Option Fs:=match t with
 | .Tuple es k p=>(match Js S es,AN 60 S e with
   | some is,some (f,vs)=>if L8 e=false/\UY e=false then some (CQ (asgT is) f vs) else none
   | _,_=>none)
 | .Name x _=>(match S.slot x,EV S e with
   | some i,some (f,vs)=>if Dl S x=true/\FG S i=true then some (Ai (S.msF i) i f vs) else none
   | _,_=>none)
 | .Subscript t k _=>Ru S t k e
 | _=>none
def Ni (d:Stmt->Option Fs) (S:Sx) (body:List Stmt):Option Fs:=Bo d body
def Rr (d:Stmt->Option Fs) (S:Sx) (t it:Expr) (body:List Stmt):Option Fs:=match t with
 | .Name x p=>(match S.slot x,Ef (AN 60 S) S it,Ni d S body with
    | some i,some iw,some b=>if Dl S x=true/\FG S i=true/\S.msF i=false/\FT (.Name x p) iw=true then some (Ra iw (asgN i) b) else none
    | _,_,_=>none)
 | .Tuple es k p=>(match Js S es,Ef (AN 60 S) S it,Ni d S body with
   | some is,some iw,some b=>some (Ra iw (asgT is) b)
   | _,_,_=>none)
 | _=>none
def Km (S:Sx) (e:Expr):Option Fs:=match e with
 | .Call f es ks _=>(match CY f,ks with
  | some x,[]=>(match S.Γm.lookup x with
   | some F=>(match es with
    | e0::e1::r=>(match CY e0,CY e1,EA (AN 60 S) r with
     | some y0,some y1,some (fa,_)=>(match S.slot y0,S.slot y1 with
      | some j,some i=>if S.glob x=true/\S.msF i=false then some (GC F j i fa) else none
      | _,_=>none)
     | _,_,_=>none)
    | _=>none)
   | none=>none)
  | _,_=>none)
 | _=>none
def Rv (S:Sx) (e:Expr):Option Fs:=match Km S e with
 | some f=>some f
 | none=>match CY e with
 | some x=>(match S.slot x with
   | some i=>if S.msF i=true then none else some (CZ i)
   | none=>none)
 | none=>(match AN 60 S e with
   | some (f,vs)=>some (As f)
   | none=>none)
def V0 (_:Sx) (_:Expr) (_:Operator) (_:Expr):Option Fs:=none
def Sx.bare (S:Sx):Sx:={ S with ms:=[] }
def Ih (S:Sx) (c:Expr):Option D2:=(AN 60 S c).or (AN 60 S.bare c)
def J4 (d:Stmt->Option Fs) (S:Sx):Stmt->Option Fs
 | .Raise e c _=>(match HL e c with
  | some x=>(match Ly S x with
   | some c=>some (C6 c)
   | none=>some Ep)
  | none=>some Ep)
 | .Try body hs o fi _=>(match HD hs o fi with
  | some (y,some n,x,e)=>(match CY e,S.slot x,S.slot n,XN.findIdx? (·== y),IY 10 S.nr body with
   | some n',some i,some j,some d,some b=>if n'=n/\i≠j/\Dl S x=true/\CW S.sc n .local=true/\FG S i=true/\FG S j=true/\S.msF i=false/\S.xc.contains d=true/\S.glob y=true then some (DZ d i j S.ms b) else none
   | _,_,_,_,_=>none)
  | some (y,none,x,e)=>(match O7 e,S.slot x,XN.findIdx? (·== y),IY 10 S.nr body with
   | true,some i,some d,some b=>if Dl S x=true/\FG S i=true/\S.msF i=false/\S.xc.contains d=true/\S.glob y=true then some (Og d i S.ms b) else none
   | _,_,_,_=>none)
  | none=>none)
 | .Expr v _=>K5 S v
 | .Assign [t] e _=>Rq S t e
 | .If c a b _=>match Ih S c,Bo d a,Bo d b with
  | some (f,_),some s,some t=>some (A0 (bT f) s t)
  | _,_,_=>none
 | .For t it body [] _=>Rr d S t it body
 | .AugAssign t op e _=>V0 S t op e
 | .Return (some e) _=>Rv S e
 | _=>none
def Kd:Nat->Sx->Stmt->Option Fs
 | 0,_,_=>none
 | n + 1,S,st=>some ((J4 (Kd n S) S st).getD Ep)
section
variable {X:Cx}{P:A3}{w:Az}{K:Frag}{mg:Str->Option Ae}{base:Heap}{lvl:Nat}{S:Sx}{Wx:St->Nat->Hp->Prop}{M:Fm}{f g:Fx}{vs vs':List Nat}{σ:St}{H:Hp}{Q:VK}
structure SM (X:Cx) (M:Fm) (K:Frag) (S:Sx) (Wx:St->Nat->Hp->Prop):Prop where
 ms:MS M K S Wx
 al:∀ i,M.al i=[]
 io:M.io≠none->S.msF 0=true
 pn:∀ p∈M.pn,p.1∈S.pn
 fn:∀ x,X.fn x=true
 nd:S.N.Nodup
 st:X.stack=X.env::X.outer
 fr:X.env.frame=some X.env.locals
def GL (P:A3) (w:Az) (K:Frag) (mg:Str->Option Ae) (base:Heap) (lvl:Nat) (S:Sx) (st:Stmt) (f:Fs):Prop:=∀ {Wx} X M,XS X P w K mg base lvl S Wx->SM X M K S Wx->PS X st (tS M f)
theorem Il {d:Stmt->Option Fs} (hd:∀ st f,d st=some f->GL P w K mg base lvl S st f):∀ (sts:List Stmt) (f:Fs),Bo d sts=some f->∀ {Wx} X M,XS X P w K mg base lvl S Wx->SM X M K S Wx->Dt X sts (tS M f)
 | [],f,h=>by cases h;exact λ X M xs sm=>SO Xu λ D σ H q=>VY q
 | [s],f,h=>λ X M xs sm=>IC (hd s f h X M xs sm)
 | s::s'::r,f,h=>by
  unfold Bo at h;split at h
  ·rename_i f1 f2 h1 h2;cases h;exact λ X M xs sm=>SO (Yr (hd s f1 h1 X M xs sm) (Il hd (s'::r) f2 h2 X M xs sm)) λ D σ H q=>Wb q
  ·cases h
def Hd {x:Str}{i:Nat} (h:S.slot x=some i):S.N[i]?=some x:=by
 unfold Sx.slot at h;split at h
 ·exact La h
 ·cases h
def II {x:Str} (h:Dl S x=true):DJ S.sc x:=by
 unfold Dl at h;rw [EL] at h;exact h.elim (λ h=>.inl (Fz h)) λ h=>.inr (Fz h)
def GA {i:Nat} (h:FG S i=true) (sm:SM X M K S Wx):M.Fre i:=by
 unfold FG at h;rw [AL,EL] at h;refine ⟨λ hio=>?_,λ p hp e=>?_⟩
 ·rcases h.1 with h | h
  ·simpa using h
  ·rw [sm.io hio] at h;cases h
 ·have z:=sm.pn p hp;rw [e] at z;have h2:=h.2;rw [List.contains_iff_mem.mpr z] at h2;cases h2
theorem Sw {e:Expr}{t:Option Expr}{l:Nat}{env:Env} (h:L8 e=false):swapsWith e t l env=pure false:=by
 cases e with
 | ListComp _ _ _ _=>cases h
 | SetComp _ _ _ _=>cases h
 | DictComp _ _ _ _ _=>cases h
 | _=>rfl
theorem XW (GX:GX K mg S.xc) (G:GS P w K mg base lvl S.Γ) (Gm:Ei P w K mg base lvl S.Γm) (hS:∀ i,∀ j∈S.alF i,S.msF j=false) {n:Nat}{elt:Expr}{gs:List Comprehension}{scope:AX}{pos:Pos} (h:AN (n + 1) S (.ListComp elt gs scope pos)=some (f,vs)):
  ∃ tg ys asg it ifs iw t g vE,gs=[⟨tg,it,ifs,0⟩]/\CompParts P w K mg base lvl S scope tg ys asg it elt ifs iw t g vE/\f=Kc iw ys.length asg t g/\vs=iw.vs++vE.filter (λ i=>decide (i < S.N.length)):=by
 have hd:∀ e f vs,AN n S e=some (f,vs)->A8 P w K mg base lvl S e f vs:=λ e f vs h=>IF GX G Gm n S e f vs rfl rfl rfl hS h;replace h:Fv (AN n) S (.ListComp elt gs scope pos)=some (f,vs):=h
 match gs,h with
 | [],h=>simp [Fv] at h
 | _::_::_,h=>simp [Fv] at h
 | [⟨tg,it,ifs,a⟩],h=>
  by_cases ha:a=0
  ·subst ha;replace h:(match LU S.N.length tg,Ef (AN n S) S it with
    | some (xs,asg),some iw=>if Ll S scope xs iw.vs=true/\FT tg iw=true then (match M0 (AN n (AO S scope xs iw.vs)) ifs,AN n (AO S scope xs iw.vs) elt with
     | some t,some (g,vE)=>some (Kc iw xs.length asg t g,iw.vs++vE.filter (λ i=>decide (i < S.N.length)))
     | _,_=>none) else none
    | _,_=>none)=some (f,vs):=h
   split at h
   ·rename_i ys asg iw ht hi;split at h
    ·rename_i hc;split at h
     ·rename_i t g vE h1 h2;cases h;have ck:=Rn hc.1;have giw:=Lm hd (Ln n S) G.1 hi;have hS2:∀ i,∀ j∈(AO S scope ys iw.vs).alF i,(AO S scope ys iw.vs).msF j=false:=λ i j hj=>by
       rw [MT] at hj;show S.msF j=false;split at hj
       ·exact hS i j hj
       ·split at hj
        ·exact giw.1 j hj
        ·cases hj
      have hd2:∀ e f vs,AN n (AO S scope ys iw.vs) e=some (f,vs)->A8 P w K mg base lvl (AO S scope ys iw.vs) e f vs:=λ e f vs h=>IF GX G Gm n _ e f vs rfl rfl rfl hS2 h;exact ⟨tg,ys,asg,it,ifs,iw,t,g,vE,rfl,⟨ht,hc.2,ck,giw,hd2 _ _ _ h2,Qo hd2 h1⟩,rfl,rfl⟩
     ·cases h
    ·cases h
   ·cases h
  ·simp [Fv,ha] at h
def I0 (xs:XS X P w K mg base lvl S Wx):IL (Ap X.prog X.w) X.A X.env X.xe:=xs.po
theorem Pm {es:List Expr}{is:List Nat} (h:Js S es=some is) (xs:XS X P w K mg base lvl S Wx) (sm:SM X M K S Wx):Jk X es (IG is)/\(DD es X.env).length=is.length/\(DD es X.env).findIdx? (·.1)=none/\∀ i∈is,Bd M [] i:=by
 induction es generalizing is with
 | nil=>cases h;exact ⟨Sq,rfl,rfl,λ _ z=>nomatch z⟩
 | cons e es ih=>
  unfold Js at h;split at h
  ·cases ‹_::_=[]›
  ·rename_i x px r heq;cases heq;split at h
   ·rename_i i js hi hr;split at h
    ·rename_i hc;cases h;obtain ⟨h1,h2,h3,h4⟩:=ih hr;have hN:X.N.Nodup:=by rw [xs.N];exact sm.nd
     have hi':X.N[i]?=some x:=by rw [xs.N];exact Hd hi
     have hx:DJ X.env.scope x:=by rw [xs.sc];exact II hc.1
     refine ⟨PU (Lv hN hi' hx (.inl (sm.fn x))) h1 rfl,by rw [DD,BP,h2,BP] <;> (intros;contradiction),?_,λ j hj=>?_⟩
     ·rw [DD,OO,h3] <;> first | rfl | (intros;contradiction)
     ·rcases jb3.mp hj with z | z
      ·rw [z];exact ⟨by rw [sm.ms.ms];exact hc.2.2,GA hc.2.1 sm,sm.al i,sm.ms.als⟩
      ·exact h4 j z
    ·cases h
   ·cases h
  ·cases h
theorem KU {x:Str}:∀ {l:List Str}{c:Nat},l.findIdx? (·== x)=some c->l[c]?=some x
 | [],c,h=>by simp at h
 | y::r,c,h=>by
  rw [OO] at h;split at h
  ·rename_i e;cases h;rw [List.getElem?_cons_zero,eq_of_beq e]
  ·cases e:r.findIdx? (·== x) with
   | none=>rw [e] at h;cases h
   | some k=>
    rw [e] at h;cases h;rw [OT];exact KU e
def Z6 {x:Str}{c:Nat} (h:Ly S x=some c):S.rz=true/\c∈S.xc/\S.glob x=true/\XN[c]?=some x:=by
 unfold Ly at h;split at h
 ·rename_i c' e;split at h
  ·rename_i hc;cases h;exact ⟨hc.1,by simpa using hc.2.1,hc.2.2,KU e⟩
  ·cases h
 ·cases h
def Yu {x m:Str}{c:Nat}{np cpos pos p:Pos}{j:Nat}{t:TS} (GX:GX K mg S.xc) (h:Ly S x=some c) (xs:XS X P w K mg base lvl S Wx) (hW:M.W=Wx) (hq:∀ D σ H,t D σ H->M.W σ c H):PS X (.Raise (some (.Call (.Name x np) [.Constant (.str m) j p] [] cpos)) none pos) t:=by
 obtain ⟨h1,h2,h3,h4⟩:=Z6 h;obtain ⟨ht,_,hc⟩:=GX (λ z=>by rw [z] at h2;cases h2);obtain ⟨x',C,e1,e2,e3,e4⟩:=hc c h2;rw [h4] at e1;cases e1;refine BI (Yp (W:=Wx) (xs.rs h1) (by rw [xs.K];exact ht) xs.calm (by rw [xs.K];exact e2) (xs.gl h3) (by rw [xs.mg];exact e3) e4) λ D σ H q=>?_;rw [<- hW];exact hq D σ H q
theorem P8 (GX:GX K mg S.xc) (G:GS P w K mg base lvl S.Γ) (Gm:Ei P w K mg base lvl S.Γm) (hS:∀ i,∀ j∈S.alF i,S.msF j=false):∀ (n:Nat) (sts:List Stmt) (f:Fs),IY n S sts=some f->∀ {Wx} X M,XS X P w K mg base lvl S Wx->SM X M K S Wx->Dt X sts (tR M f):=by
 have hd:∀ e f vs,AN 60 S e=some (f,vs)->A8 P w K mg base lvl S e f vs:=λ e f vs h=>IF GX G Gm 60 S e f vs rfl rfl rfl hS h;intro n;induction n with
 | zero=>intro sts f h;cases h
 | succ n ih=>
  intro sts f h;unfold IY at h;split at h
  ·split at h
   ·rename_i f1 v1 he;cases h;intro Wx X M xs sm;exact IC (BI (Hl ((hd _ _ _ he).2.2 X M xs sm.ms).1 rfl) λ D σ H q=>Xo q)
   ·cases h
  ·rename_i x px e pos;split at h
   ·rename_i i f1 v1 hi he;split at h
    ·rename_i hc;cases h;have g:=hd _ _ _ he;intro Wx X M xs sm;have hN:X.N.Nodup:=by rw [xs.N];exact sm.nd
     have hi':X.N[i]?=some x:=by rw [xs.N];exact Hd hi
     have hx:DJ X.env.scope x:=by rw [xs.sc];exact II hc.1
     have mi:M.Ms i=S.msF i:=by rw [sm.ms.ms]
     exact IC (BI (Jz hN hi' hx (g.2.2 X M xs sm.ms).1 (Sw hc.2.2) (.inl (sm.fn x))) λ D σ H q=>VT sm.al (sm.ms.v g.1) mi (GA hc.2.1 sm) q)
    ·cases h
   ·cases h
  ·split at h
   ·rename_i f1 v1 s t hc ha hb;cases h;intro Wx X M xs sm;exact IC (BI (QT ((hd _ _ _ hc).2.2 X M xs sm.ms).2 (ih _ _ ha X M xs sm) (ih _ _ hb X M xs sm)) λ D σ H q=>UM q)
   ·cases h
  ·cases h
def Fm.bare (M:Fm):Fm:={ M with Ms:=λ _=>false,H₀:=λ _=>none,io:=none,pn:=[] }
def Rep.bare {ρ:Ag}{fps:AB} (r:Rep M ρ σ H fps):Rep M.bare ρ σ H fps where
 own:=r.own
 non:=r.non
 dj:=r.dj
 zo:=r.zo
 fr:=λ _ _ _ _=>rfl
 zd:=r.zd
 len:=r.len
 msf:=λ _ _ _ h=>nomatch h
 h0:=λ _ h=>absurd rfl h
 iov:=And.intro (λ _ h=>nomatch h) (λ _ h=>nomatch h)
theorem XB {fb:Fb}{Q:Bool->Hp->Prop} (hq:tT M fb σ H Q):tT M.bare fb σ H Q:=by
 obtain ⟨ρ,fps,rep,q⟩:=hq;refine ⟨ρ,fps,rep.bare,?_⟩;have gr:∀ H' fps',KD M.bare H fps H' fps'->∀ a o,H a=some o->H' a=some o:=λ H' fps' k a o h=>k.keep a o h λ ⟨_,z,_⟩=>nomatch z
 cases e:fb ρ with
 | ok p=>
  obtain ⟨b,ρ'⟩:=p;rw [e] at q;intro H' fps' k ag _;have e1:ρ'=ρ:=List.ext_getElem? λ i=>ag.1 i rfl;subst e1;exact q H' fps (KD.grow (gr H' fps' k)) Agr.refl (rep.grow (gr H' fps' k))
 | exc c=>
  rw [e] at q;intro H' fps' k;exact q H' fps (KD.grow (gr H' fps' k))
 | no=>rw [e] at q;exact q
theorem Wz (GX:GX K mg S.xc) (G:GS P w K mg base lvl S.Γ) (Gm:Ei P w K mg base lvl S.Γm) (hS:∀ i,∀ j∈S.alF i,S.msF j=false) {c:Expr}{f:Fx}{vs:List Nat} (h:Ih S c=some (f,vs)) (xs:XS X P w K mg base lvl S Wx) (m:MS M K S Wx):PT X c (tT M (bT f)):=by
 unfold Ih at h;cases e:AN 60 S c with
 | some p=>
  rw [e] at h;cases h;exact ((IF GX G Gm 60 S c f vs rfl rfl rfl hS e).2.2 X M xs m).2
 | none=>
  rw [e] at h;have h2:AN 60 S.bare c=some (f,vs):=h;have gd:=(IF (S:=S) GX G Gm 60 S.bare c f vs rfl rfl rfl (λ _ _ _=>rfl) h2).2.2 X M.bare ⟨xs.prog,xs.w,xs.K,xs.mg,xs.base,xs.N,xs.sc,xs.calm,xs.room,xs.po,xs.ps,xs.rs⟩ ⟨m.K,rfl,m.al,λ _ _ _=>rfl,m.W,λ _ h=>nomatch h⟩;exact J0 gd.2 λ σ H Q q=>XB q
def Ul {e k:Expr} (hk:FJ k=true) (h:FJ e=true) (env:Env) (cpos:Pos):((Cz cpos (Ax [k,e] env)).all (λ x=>!x.1) && (backToKw cpos (keywordEach [] env)).all (λ x=>x.1.isSome)
   && decide (([k,e]:List Expr).length + ([]:List Hx).length + (if ([]:List Hx).isEmpty then 0 else 1) < 30))=true:=by
 have:Ax [k,e] env=[(false,eval k env),(false,eval e env)]:=by rw [CD (CF hk),CD (CF h)];rfl
 rw [this];rfl
def Zz {o:Expr}{at':Str}{es:List Expr}{apos cpos spos:Pos}{f:Fs} (hd:∀ e f vs,AN 60 S e=some (f,vs)->A8 P w K mg base lvl S e f vs) (h:O4 S o at' apos es cpos=some f):GL P w K mg base lvl S (.Expr (.Call (.Attribute o at' apos) es [] cpos) spos) f:=by
 unfold O4 at h;split at h
 ·split at h
  ·rename_i hc;obtain ⟨rfl,hl⟩:=hc;split at h
   ·rename_i x hx;obtain ⟨px,rfl⟩:=Df hx;obtain ⟨i,hi,e⟩:=jb0.mp h;cases e;intro Wx X M xs sm;have hb:=RC (X:=X) (cpos:=cpos) JR PySem.F.slot_list_pop PySem.F.type_list_pop R9 (xs.var (pos:=px) hi) rfl hl;refine BI (Hl hb rfl) λ D σ H q=>?_
    have:=Xr (D:=D) sm.al q
    rw [sm.ms.k xs] at this;exact this
   ·split at h
    ·rename_i b i hb0;obtain ⟨pi,rfl⟩:=VI hb0;split at h
     ·rename_i x hx;obtain ⟨px,rfl⟩:=Df hx;split at h
      ·rename_i s fi vi hs hi;split at h
       ·rename_i hc;cases h;intro Wx X M xs sm;have hb:=RC (X:=X) (cpos:=cpos) JR PySem.F.slot_list_pop PySem.F.type_list_pop R9 (Kf (pos:=pi) zpq (xs.var (pos:=px) hs) ((hd _ _ _ hi).2.2 X M xs sm.ms).1 (Iu hc.2)) rfl hl;refine BI (Hl hb rfl) λ D σ H q=>?_
        have:=Xq (D:=D) (vi:=vi) sm.al (by rw [sm.ms.ms];exact hc.1) q
        rw [sm.ms.k xs] at this;exact this
       ·cases h
      ·cases h
     ·cases h
    ·cases h
  ·cases h
 ·split at h
  ·split at h
   ·rename_i x hx;obtain ⟨px,rfl⟩:=Df hx;split at h
    ·rename_i i fk vk f1 v1 hi hk he;split at h
     ·rename_i hc;obtain ⟨rfl,hm,hl⟩:=hc;cases h;have g:=hd _ _ _ he;have gk:=hd _ _ _ hk;intro Wx X M xs sm;have hb:=Oc (X:=X) (cpos:=cpos) JR PySem.F.slot_list_insert PySem.F.type_list_insert Vp (xs.var (pos:=px) hi) (Dp (gk.2.2 X M xs sm.ms).1 (Dp (g.2.2 X M xs sm.ms).1 FK (CD (CF g.2.1))) (CD (CF gk.2.1))) rfl (Ul gk.2.1 g.2.1 X.env cpos) hl (CD (CF gk.2.1)) (J6 (es:=[_]) (by rw [Fi,g.2.1];rfl));refine BI (Hl hb rfl) λ D σ H q=>?_
      have:=VX (D:=D) (vs:=v1) (vk:=vk) sm.al (by rw [sm.ms.ms];exact hm) (sm.ms.v g.1) q
      rw [sm.ms.k xs] at this;exact this
     ·cases h
    ·cases h
   ·cases h
  ·cases h
def Qw {d:Stmt->Option Fs}{body:List Stmt}{f:Fs} (hd:∀ e f vs,AN 60 S e=some (f,vs)->A8 P w K mg base lvl S e f vs) (ih:∀ st f,d st=some f->GL P w K mg base lvl S st f) (h:Ni d S body=some f):∀ {Wx} X M,XS X P w K mg base lvl S Wx->SM X M K S Wx->Dt X body (tS M f):=by
 exact Il ih _ _ h
def WW {e:Expr}{f:Fx}{vs:List Nat} (hd:∀ e f vs,AN 60 S e=some (f,vs)->A8 P w K mg base lvl S e f vs) (h:EU S e=some (f,vs)):A8 P w K mg base lvl S e f vs:=by
 unfold EU at h;split at h
 ·split at h
  ·rename_i f1 v1 f2 v2 h1 h2;split at h
   ·rename_i hn;cases h;have g1:=FC hd _ _ _ h1;have g2:=hd _ _ _ h2;exact Cw (Fy g1.1 g2.1) rfl (λ _ _=>rfl) λ X M xs m=>Xb (m.v g1.1) (Iu hn) (Xf (g1.2.2 X M xs m)) (g2.2.2 X M xs m).1
   ·cases h
  ·cases h
 ·exact hd _ _ _ h
def Ui (GX:GX K mg S.xc) (G:GS P w K mg base lvl S.Γ) (Gm:Ei P w K mg base lvl S.Γm) (hS:∀ i,∀ j∈S.alF i,S.msF j=false) {d:Stmt->Option Fs} (ih:∀ (st:Stmt) (f:Fs),d st=some f->GL P w K mg base lvl S st f):∀ (st:Stmt) (f:Fs),J4 d S st=some f->GL P w K mg base lvl S st f:=by
 have hd:∀ e f vs,AN 60 S e=some (f,vs)->A8 P w K mg base lvl S e f vs:=λ e f vs h=>IF GX G Gm 60 S e f vs rfl rfl rfl hS h;have hdO:∀ e f vs,EU S e=some (f,vs)->A8 P w K mg base lvl S e f vs:=λ e f vs h=>WW hd h;have hdA:∀ e f vs,EV S e=some (f,vs)->A8 P w K mg base lvl S e f vs:=λ e f vs h=>by
  unfold EV at h;split at h
  ·cases h;exact Cw (λ _ z=>nomatch z) rfl (λ _ _=>rfl) λ X M xs m=>Wq
  ·exact hd _ _ _ h
 intro st f h;have core:True->GL P w K mg base lvl S st f:=λ _=>by
  unfold J4 at h;split at h
  ·rename_i e0 c0 pos;split at h
   ·rename_i x hx;obtain ⟨np,m,j,p,cpos,rfl,rfl⟩:=WY hx;split at h
    ·rename_i c hc;cases h;intro Wx X M xs sm;exact Yu GX hc xs sm.ms.W λ D σ H q=>VW q
    ·cases h;intro Wx X M xs sm pins s σ H D I q;exact (MR pins s σ H D I (Oj (t:=LC) q))
   ·cases h;intro Wx X M xs sm pins s σ H D I q;exact (MR pins s σ H D I (Oj (t:=LC) q))
  ·rename_i body hs o fi pos;split at h
   ·rename_i y n x e0 htr;obtain ⟨np,px,pa,hpos,rfl,rfl,rfl⟩:=SJ htr;split at h
    ·rename_i n' i j d b hnm hi hj hd' hbd;obtain ⟨pn,rfl⟩:=Df hnm;split at h
     ·rename_i hc;obtain ⟨rfl,hij,hlx,hln,hoi,hoj,hms,hxc,hgy⟩:=hc;cases h;intro Wx X M xs sm;have hdm:d∈S.xc:=by simpa using hxc
      obtain ⟨ht,_,hcs⟩:=GX (λ z=>by rw [z] at hdm;cases hdm);obtain ⟨y',C,hx',hC,hmg,hdb⟩:=hcs d hdm;have ey:y'=y:=by
       have:=KU hd'
       rw [hx'] at this;exact Option.some.inj this
      subst ey;have nms:∀ i,M.Ms i=S.ms.contains i:=λ i=>by rw [sm.ms.ms];rfl
      have hN:X.N.Nodup:=by rw [xs.N];exact sm.nd
      have slots:∀ {z:Str}{k:Nat},S.slot z=some k->(z == ("__debug__" : Str))=false/\(z == ("__classdict__" : Str))=false:=λ {z k} h=>by
       unfold Sx.slot at h;split at h
       ·rename_i hv;simp only [AL,Kx] at hv;exact ⟨hv.1.2,hv.2⟩
       ·cases h
      have base:=Yq (X:=X) (tb:=λ W'=>tR (M.want W') b) (body:=body) (y:=y') (n:=n') (x:=x) (np:=np) (hpos:=hpos) (px:=px) (pn:=pn) (pa:=pa) (pos:=pos) (d:=d) (Dd:=C) (i:=i) (j:=j)
       (by rw [xs.K];exact ht) sm.st sm.fr hN (by rw [xs.N];exact Hd hi) (by rw [xs.N];exact Hd hj) hij (by rw [xs.sc];exact II hlx) (by show X.env.scope.names.lookup n'=_;rw [xs.sc];exact Fz hln) sm.fn (by rw [xs.K];exact hC) (xs.gl hgy) (by rw [xs.mg];exact hmg) hdb (slots hj).1 (slots hj).2 (λ pn' xe' W' hp ho=>?_)
      ·refine BI base λ D σ H q=>?_;have mk:=sm.ms.k xs;rw [<- mk];exact Wc sm.al nms (by rw [sm.ms.ms];exact hms) hij (GA hoi sm) (GA hoj sm) q
      ·refine P8 (S:=S.nr) GX G Gm hS 10 body b hbd _ _ (Wx:=W') ⟨xs.prog,xs.w,xs.K,xs.mg,xs.base,xs.N,xs.sc,xs.calm,xs.room,ho,hp,λ z=>nomatch z⟩ ⟨⟨sm.ms.K,sm.ms.ms,sm.ms.al,sm.ms.als,rfl,sm.ms.pn⟩,sm.al,sm.io,sm.pn,sm.fn,sm.nd,sm.st,sm.fr⟩
     ·cases h
    ·cases h
   ·rename_i y x e0 htr;obtain ⟨np,px,pa,hpos,rfl,rfl,rfl⟩:=SJ htr;split at h
    ·rename_i i d b hno hi hd' hbd;obtain ⟨jc,pn,rfl⟩:=Vq hno;split at h
     ·rename_i hc;obtain ⟨hlx,hoi,hms,hxc,hgy⟩:=hc;cases h;intro Wx X M xs sm;have hdm:d∈S.xc:=by simpa using hxc
      obtain ⟨ht,_,hcs⟩:=GX (λ z=>by rw [z] at hdm;cases hdm);obtain ⟨y',C,hx',hC,hmg,hdb⟩:=hcs d hdm;have ey:y'=y:=by
       have:=KU hd'
       rw [hx'] at this;exact Option.some.inj this
      subst ey;have nms:∀ i,M.Ms i=S.ms.contains i:=λ i=>by rw [sm.ms.ms];rfl
      have hN:X.N.Nodup:=by rw [xs.N];exact sm.nd
      have base:=Xs (X:=X) (tb:=λ W'=>tR (M.want W') b) (body:=body) (y:=y') (x:=x) (np:=np) (hpos:=hpos) (px:=px) (pn:=pn) (pa:=pa) (pos:=pos) (jc:=jc) (d:=d) (Dd:=C) (i:=i)
       (by rw [xs.K];exact ht) sm.st sm.fr hN (by rw [xs.N];exact Hd hi) (by rw [xs.sc];exact II hlx) sm.fn (by rw [xs.K];exact hC) (xs.gl hgy) (by rw [xs.mg];exact hmg) hdb (λ pn' xe' W' hp ho=>?_)
      ·refine BI base λ D σ H q=>?_;have mk:=sm.ms.k xs;rw [<- mk];exact X9 sm.al nms (by rw [sm.ms.ms];exact hms) (GA hoi sm) q
      ·refine P8 (S:=S.nr) GX G Gm hS 10 body b hbd _ _ (Wx:=W') ⟨xs.prog,xs.w,xs.K,xs.mg,xs.base,xs.N,xs.sc,xs.calm,xs.room,ho,hp,λ z=>nomatch z⟩ ⟨⟨sm.ms.K,sm.ms.ms,sm.ms.al,sm.ms.als,rfl,sm.ms.pn⟩,sm.al,sm.io,sm.pn,sm.fn,sm.nd,sm.st,sm.fr⟩
     ·cases h
    ·cases h
   ·cases h
  ·rename_i v pos;unfold K5 at h;split at h
   ·rename_i fn es cpos;split at h
    ·rename_i o at' apos;split at h
     ·rename_i f' hp;cases h;exact Zz hd hp
     rename_i hpn;clear hpn;split at h
     ·rename_i x e hx;obtain ⟨px,rfl⟩:=Df hx;unfold Q8 at h;split at h
      ·rename_i hat;subst hat;split at h
       ·rename_i i f1 v1 hi he;split at h
        ·rename_i hc;cases h;have g:=hd _ _ _ he;intro Wx X M xs sm;have hb:=Oc (X:=X) (cpos:=cpos) JR PySem.F.slot_list_append PySem.F.type_list_append Na (xs.var (pos:=px) hi) (Dp (g.2.2 X M xs sm.ms).1 FK (CD (CF g.2.1))) rfl (Qz g.2.1 X.env cpos) hc.2 (CD (CF g.2.1)) rfl;refine BI (Hl hb rfl) λ D σ H q=>?_
         have:=VU (D:=D) sm.al (sm.ms.v g.1) (by rw [sm.ms.ms];exact hc.1) q
         rw [sm.ms.k xs] at this;exact this
        ·cases h
       ·cases h
      ·cases h
     ·rename_i e hx;unfold Q9 at h;split at h
      ·rename_i b i pi;split at h
       ·rename_i x hb;obtain ⟨px,rfl⟩:=Df hb;split at h
        ·rename_i s fi vi f1 v1 hs hi he;split at h
         ·rename_i hc;obtain ⟨rfl,hm,hi2,hln⟩:=hc;cases h;have g:=hd _ _ _ he;intro Wx X M xs sm;have hb:=Oc (X:=X) (cpos:=cpos) JR PySem.F.slot_list_append PySem.F.type_list_append Na (Kf (pos:=pi) zpq (xs.var (pos:=px) hs) ((hd _ _ _ hi).2.2 X M xs sm.ms).1 (Iu hi2)) (Dp (g.2.2 X M xs sm.ms).1 FK (CD (CF g.2.1))) rfl (Qz g.2.1 X.env cpos) hln (CD (CF g.2.1)) rfl;refine BI (Hl hb rfl) λ D σ H q=>?_
          have:=Xp (D:=D) (vs:=v1) (vi:=vi) sm.al (by rw [sm.ms.ms];exact hm) q
          rw [sm.ms.k xs] at this;exact this
         ·cases h
        ·cases h
       ·cases h
      ·cases h
     ·cases h
    ·rename_i x p;split at h
     ·rename_i f1 v1 he;cases h;intro Wx X M xs sm;exact BI (Hl ((hd _ _ _ he).2.2 X M xs sm.ms).1 rfl) λ D σ H q=>SD q
     ·cases h
    ·cases h
   ·cases h
  ·rename_i t e pos;unfold Rq at h;split at h
   ·rename_i es k p;split at h
    ·rename_i is f1 v1 hs he;split at h
     ·rename_i hc;cases h;have g:=hd _ _ _ he;intro Wx X M xs sm;obtain ⟨h1,h2,h3,h4⟩:=Pm hs xs sm;have mk:M.K=X.K:=sm.ms.k xs;refine BI (Jy (g.2.2 X M xs sm.ms).1 (Oz xs.calm h1 h2 h3) ?_ ?_ ?_) λ D σ H q=>?_
      ·cases e <;> first | rfl | (cases hc.1)
      ·cases e <;> first | rfl | (cases hc.2)
      ·rfl
      ·have:=Wd sm.al (sm.ms.v g.1) (Oa h4) q
       rw [mk] at this;exact this
     ·cases h
    ·cases h
   ·rename_i x px;split at h
    ·rename_i i f1 v1 hi he;split at h
     ·rename_i hc;cases h;have g:=hdA _ _ _ he;intro Wx X M xs sm;have hN:X.N.Nodup:=by rw [xs.N];exact sm.nd
      have hi':X.N[i]?=some x:=by rw [xs.N];exact Hd hi
      have hx:DJ X.env.scope x:=by rw [xs.sc];exact II hc.1
      have mi:M.Ms i=S.msF i:=by rw [sm.ms.ms]
      cases hcp:L8 e with
      | false=>exact BI (Jz hN hi' hx (g.2.2 X M xs sm.ms).1 (Sw hcp) (.inl (sm.fn x))) λ D σ H q=>O2 sm.al (sm.ms.v g.1) mi (GA hc.2 sm) q
      | true=>
       cases e with
       | ListComp elt gs scope cpos=>
        obtain ⟨tg,ys,asg,it,ifs,iw,t,g2,vE,rfl,cp,rfl,rfl⟩:=XW GX G Gm hS (show AN 60 S _=_ from he);obtain ⟨wi,gg,h1,h2,h3,h4,h5,h6⟩:=Qu (pos:=cpos) cp xs sm.ms;refine V7 (Z5 hN hi' hx (.inl (sm.fn x)) h2 xs.calm h1 h3 h4 h5 (Lo (n:=0) (f:=g2) (vs:=[]) cp.iwo.2.1)) λ D σ H hl q=>?_;exact h6 σ H _ (by rw [hl,xs.N]) (O2 sm.al (sm.ms.v g.1) mi (GA hc.2 sm) q)
       | SetComp _ _ _ _=>simp [EV,AN,Fv] at he
       | DictComp _ _ _ _ _=>simp [EV,AN,Fv] at he
       | _=>cases hcp
     ·cases h
    ·cases h
   ·rename_i t k ps;unfold Ru at h;split at h
    ·rename_i x px;split at h
     ·rename_i k hk;obtain ⟨k',pk,rfl⟩:=R6 hk;split at h
      ·rename_i i f1 v1 hi he;cases h;have g:=hd _ _ _ he;intro Wx X M xs sm;refine BI (Jy (g.2.2 X M xs sm.ms).1 (LA (xs.var hi) Oy Lg) ?_ ?_ rfl) λ D σ H q=>VZ sm.al (sm.ms.v g.1) q
       ·cases e <;> rfl
       ·cases e <;> rfl
      ·cases h
     ·rename_i hk;split at h
      ·rename_i f' hp;cases h;unfold Kj at hp;split at hp
       ·rename_i z y1 py1 b1 q1 hz;obtain ⟨pz,rfl⟩:=Df hz;split at hp
        ·rename_i i j f1 v1 hi hj he;split at hp
         ·rename_i hc;cases hp;have g:=hd _ _ _ he;intro Wx X M xs sm;exact BI (Jy (g.2.2 X M xs sm.ms).1 (LA (xs.var hi) (xs.var hj) Lg (λ _=>rfl)) rfl rfl rfl) λ D σ H q=>X6 sm.al (sm.ms.v g.1) (by rw [sm.ms.ms];exact hc) q
         ·cases hp
        ·cases hp
       ·cases hp
      split at h
      ·rename_i i fk vk f1 v1 hi hk he;split at h
       ·rename_i hc;cases h;have g:=hdO _ _ _ he;intro Wx X M xs sm;refine BI (Jy (g.2.2 X M xs sm.ms).1 (LA (xs.var hi) ((hd _ _ _ hk).2.2 X M xs sm.ms).1 (PSet.or Lg (UL (by have:=xs.room.units;omega))) ?_) ?_ ?_ rfl) λ D σ H q=>X7 sm.al (by rw [sm.ms.ms];exact hc.1) (sm.ms.v g.1) q
        ·intro v;cases k <;> first | rfl | (cases hc.2)
        ·cases e <;> rfl
        ·cases e <;> rfl
       ·cases h
      ·cases h
    ·rename_i b i pi;split at h
     ·rename_i x hx;obtain ⟨px,rfl⟩:=Df hx;split at h
      ·rename_i s fi vi fj vj f1 v1 hs hi hj he;split at h
       ·rename_i hc;cases h;intro Wx X M xs sm;have mk:M.K=X.K:=sm.ms.k xs;refine BI (Jy ((hdO _ _ _ he).2.2 X M xs sm.ms).1 (LA (Kf zpq (xs.var hs) ((hd _ _ _ hi).2.2 X M xs sm.ms).1 (Iu hc.2.1)) ((hd _ _ _ hj).2.2 X M xs sm.ms).1 Lg ?_) ?_ ?_ rfl) λ D σ H q=>?_
        ·intro v;cases k <;> first | rfl | (cases hc.2.2)
        ·cases e <;> rfl
        ·cases e <;> rfl
        ·have:=X5 (vs:=v1) (vi:=vi) (vj:=vj) sm.al (by rw [sm.ms.ms];exact hc.1) q
         rw [mk] at this;exact this
       ·cases h
      ·cases h
     ·cases h
    ·cases h
   ·cases h
  ·split at h
   ·rename_i f1 v1 s t hc ha hb;cases h;intro Wx X M xs sm;exact BI (QT (Wz GX G Gm hS hc xs sm.ms) (Il ih _ _ ha X M xs sm) (Il ih _ _ hb X M xs sm)) λ D σ H q=>UN q
   ·cases h
  ·rename_i t it body pos;unfold Rr at h;split at h
   ·rename_i x px;split at h
    ·rename_i i iw b hi hw hb;split at h
     ·rename_i hc;cases h;intro Wx X M xs sm;have hN:X.N.Nodup:=by rw [xs.N];exact sm.nd
      have hi':X.N[i]?=some x:=by rw [xs.N];exact Hd hi
      have hx:DJ X.env.scope x:=by rw [xs.sc];exact II hc.1
      have giw:=Lm hd (Ln 60 S) G.1 hw;have hbd:=Qw hd ih hb X M xs sm;have hg:D7 M [] [i] (DO i) (asgN i):=R3 ⟨by rw [sm.ms.ms];exact hc.2.2.1,GA hc.2.1 sm,sm.al i,sm.ms.als⟩;have hpg:PG X (.Name x px) (DO i):=Lv hN hi' hx (.inl (sm.fn x));have hpi:=giw.2.2 X M xs sm.ms (.Name x px);have hf:=Lo (n:=0) (env:=X.env) (f:=Aa 0) (vs:=[]) giw.2.1;cases iw with
      | rng en fa vs=>
       rcases hpi with ⟨rfl,hpi⟩ | ⟨rfl,hpi⟩
       ·exact BI (IK (I0 xs) xs.calm hpi hpg hbd hf) λ D σ H q=>SE hg q
       ·exact BI (IK (I0 xs) xs.calm hpi hpg hbd hf) λ D σ H q=>SG hg q
      | seq f vs=>exact BI (IK (I0 xs) xs.calm hpi hpg hbd hf) λ D σ H q=>SH sm.al (sm.ms.v giw.1) hg q
      | vw v fa vs=>exact hpi.elim
     ·cases h
    ·cases h
   ·rename_i es k p;split at h
    ·rename_i is iw b hs hw hb;cases h;intro Wx X M xs sm;have giw:=Lm hd (Ln 60 S) G.1 hw;have hbd:=Qw hd ih hb X M xs sm;obtain ⟨h1,h2,h3,h4⟩:=Pm hs xs sm;have mk:M.K=X.K:=sm.ms.k xs;have hg:=Oa (M:=M) (al:=[]) h4;have hpg:=Oz (pos:=p) (k:=k) xs.calm h1 h2 h3;rw [<- mk] at hpg;have hpi:=giw.2.2 X M xs sm.ms (.Tuple es k p);have hf:=Lo (n:=0) (env:=X.env) (f:=Aa 0) (vs:=[]) giw.2.1;cases iw with
     | rng en fa vs=>
      rcases hpi with ⟨rfl,hpi⟩ | ⟨rfl,hpi⟩
      ·exact BI (IK (I0 xs) xs.calm hpi hpg hbd hf) λ D σ H q=>SE hg q
      ·exact BI (IK (I0 xs) xs.calm hpi hpg hbd hf) λ D σ H q=>SG hg q
     | seq f vs=>exact BI (IK (I0 xs) xs.calm hpi hpg hbd hf) λ D σ H q=>SH sm.al (sm.ms.v giw.1) hg q
     | vw v fa vs=>exact hpi.elim
    ·cases h
   ·cases h
  ·rename_i t op e pos;cases h
  ·rename_i e pos;unfold Rv at h;split at h
   ·rename_i f0 h0;cases h;unfold Km at h0;split at h0
    ·split at h0
     ·rename_i x hx;obtain ⟨px,rfl⟩:=Df hx;split at h0
      ·rename_i F hF;split at h0
       ·split at h0
        ·rename_i y0 y1 fa v hy0 hy1 hr;obtain ⟨_,rfl⟩:=Df hy0;obtain ⟨_,rfl⟩:=Df hy1;split at h0
         ·rename_i j i hj hi;split at h0
          ·rename_i hg;cases h0;obtain ⟨d1,fa',fd,ps,d3,d4,d5,d7⟩:=Gm _ _ hF;have g:=FC hd _ _ _ hr;intro Wx X M xs sm;obtain ⟨xp,xw,xK,xm,xb,_,_,_,xr,_⟩:=id xs;subst xp xw xK xm xb;have mk:M.K=X.K:=sm.ms.K;refine BI (O5 (WK (E:=E0) (dvs:=[]) d7 xr (xs.gl hg.1) d3 d4 d5 .nil U8 (Dp (xs.var hj) (Dp (xs.var hi) (g.2.2 X M xs sm.ms) rfl) rfl) d1 rfl (J6 (es:=_::_) g.2.1))) λ D σ H q=>?_
           have:=YN (E:=E0) (vs:=v) sm.al (by rw [sm.ms.ms];exact hg.2) q
           rw [mk] at this;exact this
          ·cases h0
         ·cases h0
        ·cases h0
       ·cases h0
      ·cases h0
     ·cases h0
    ·cases h0
   rename_i h0;split at h
   ·rename_i x hx;obtain ⟨px,rfl⟩:=Df hx;split at h
    ·rename_i i hi;split at h
     ·cases h
     ·rename_i hm;cases h;intro Wx X M xs sm;exact BI (O5 (xs.var hi)) λ D σ H q=>X8 sm.al (by rw [sm.ms.ms];simpa using hm) q
    ·cases h
   ·rename_i hx;split at h
    ·rename_i f1 v1 he;cases h;intro Wx X M xs sm;exact BI (O5 ((hd _ _ _ he).2.2 X M xs sm.ms).1) λ D σ H q=>Wa (sm.ms.v (hd _ _ _ he).1) q
    ·cases h
  ·cases h
 exact λ {Wx}=>core trivial
theorem XU (GX:GX K mg S.xc) (G:GS P w K mg base lvl S.Γ) (Gm:Ei P w K mg base lvl S.Γm) (hS:∀ i,∀ j∈S.alF i,S.msF j=false):∀ (n:Nat) (st:Stmt) (f:Fs),Kd n S st=some f->GL P w K mg base lvl S st f:=by
 intro n;induction n with
 | zero=>intro st f h;cases h
 | succ n ih=>
  intro st f h;replace h:some ((J4 (Kd n S) S st).getD Ep)=some f:=h;cases e0:J4 (Kd n S) S st with
  | none=>
   rw [e0] at h;cases h;intro Wx X M xs sm pins s σ H D I q;exact (MR pins s σ H D I (Oj (t:=LC) q))
  | some f'=>
   rw [e0] at h;cases h;exact λ {Wx}=>Ui GX G Gm hS ih _ _ e0
def AF:Nat->Sx->Stmt->Option Fs:=Kd
def RY (GX:GX K mg S.xc) (G:GS P w K mg base lvl S.Γ) (Gm:Ei P w K mg base lvl S.Γm) (hS:∀ i,∀ j∈S.alF i,S.msF j=false):∀ (n:Nat) (st:Stmt) (f:Fs),AF n S st=some f->GL P w K mg base lvl S st f:=XU GX G Gm hS
def Dw:Bool->List PV->Ag
 | true,x::xr=>some (x,om)::xr.map λ x=>some (x,dv x)
 | _,xs=>xs.map λ x=>some (x,dv x)
def Gq (io:Bool) (y:PV) (d:Nat) (ρ:Ag):Rz (PV×Nat×PV):=match io with
 | false=>.ok (y,d,.non)
 | true=>match ρ[0]? with
  | some (some (z,_))=>.ok (y,d,z)
  | _=>.no
def Av (io:Bool) (np k:Nat) (b:Fs):Fn:=λ xs=>if xs.length=np then (match b (Dw io xs++A6 k none) with
 | .rt y d ρ=>Gq io y d ρ
 | .nx ρ=>Gq io .non om ρ
 | .exc c=>.exc c
 | _=>.no) else .no
def Gy {io:Bool}{np k:Nat}{b:Fs}:∀ xs,xs.length≠np->Av io np k b xs=.no:=λ xs h=>by
 unfold Av;rw [if_neg h]
theorem Q1 {io:Bool}{xs:List PV}{i:Nat}{x:PV}{d:Nat} (h:(Dw io xs)[i]?=some (some (x,d))):xs[i]?=some x/\(d=dv x\/(io=true/\i=0/\d=om)):=by
 cases io with
 | false=>
  have h':(xs.map λ x=>(some (x,dv x):Slot))[i]?=some (some (x,d)):=h;rw [Cs] at h';cases e:xs[i]? with
  | none=>rw [e] at h';cases h'
  | some y=>rw [e] at h';cases h';exact ⟨rfl,.inl rfl⟩
 | true=>
  cases xs with
  | nil=>simp [Dw] at h
  | cons y r=>
   cases i with
   | zero=>
    have h':some (some (y,om):Slot)=some (some (x,d)):=h;cases h';exact ⟨rfl,.inr ⟨rfl,rfl,rfl⟩⟩
   | succ i=>
    have h':(r.map λ x=>(some (x,dv x):Slot))[i]?=some (some (x,d)):=h;rw [Cs] at h';cases e:r[i]? with
    | none=>rw [e] at h';cases h'
    | some y'=>rw [e] at h';cases h';exact ⟨by simpa using e,.inl rfl⟩
def Z7 (io:Bool) (xs:List PV):(Dw io xs).length=xs.length:=by
 cases io <;> cases xs <;> simp [Dw]
def Sd {x qual:Str}{st:Stmt}{f:Addr}{fd:C0}{N ps:List Str}{k:Nat}{sp:Sp} (F:Fun K x qual st f fd) (S:FnScope N ps (A2 st)) (len:∀ vs H Q E,sp vs H Q E->vs.length=ps.length)
  (hbody:∀ (cdv:Ae) (A:AW) (outer:List Env) (s:Ah) (H:Hp) (vs:List V) (Q:VK) (E:XK),Room k (A.deeper (FP qual (A2 st) s.heap.objs.size f cdv))->sp vs H Q E ->
   ∃ t,Dt (Be (AG P w K) P w K mg base N qual (A2 st) f cdv A outer s H E) (Bp st) t/\t { nx:=λ _ H'=>Q .non H',rt:=Q } (L2.start N vs) H):FnOk P w K mg base (AG P w K) (k + 1) f fd ps sp:=by
 obtain ⟨oc,od,kV,doc,pm,an,cdv,ct,osl,rfl,lk,hcd⟩:=F.ex;exact UW lk hcd S len λ A outer s H vs Q E hr hsp=>hbody cdv A outer s H vs Q E hr hsp
def QB {x qual:Str}{st:Stmt}{fa:Addr}{fd:C0}{ps:List Str}{np k:Nat}{io:Bool}{b:Fs} (Fu:Fun K x qual st fa fd) (FS:FnScope S.N ps (A2 st)) (hsc:S.sc=A2 st) (hal:S.al=[]) (hnp:ps.length=np) (hk:S.N.length=np + k)
  (hms:∀ i∈S.ms,i < np->i=0/\io=true) (hio:io=true->S.msF 0=true/\0 < np) (GX:GX K mg S.xc) (G:GS P w K mg base lvl S.Γ) (Gm:Ei P w K mg base lvl S.Γm) (hb:Bo (AF 60 S) (Bp st)=some b):
  FnOk P w K mg base (AG P w K) (lvl + 1) fa fd ps (Bq K io np (Av io np k b)):=by
 have hS:∀ i,∀ j∈S.alF i,S.msF j=false:=λ i j hj=>by
  unfold Sx.alF at hj;rw [hal] at hj;simp at hj
 refine Sd Fu FS (λ vs H Q E h=>h.1.trans hnp.symm) λ cdv A outer s H vs Q E hr h=>?_;obtain ⟨hl,xs,Zo,x0,v0,fp0,hZ,hz0,h1,h2,q⟩:=h;let M:Fm:={ K:=K,Ms:=S.msF,Zo:=Zo,H₀:=H,W:=WE E H,io:=if io=true then some v0 else none,al:=λ _=>[] }
 have hxs:XS (Be (AG P w K) P w K mg base S.N qual (A2 st) fa cdv A outer s H E) P w K mg base lvl S (WE E H):=⟨rfl,rfl,rfl,rfl,rfl,rfl,hsc.symm,rfl,hr,Sm,Yi,λ _=>Zn⟩
 have hsm:SM (Be (AG P w K) P w K mg base S.N qual (A2 st) fa cdv A outer s H E) M K S (WE E H):=by
  refine ⟨⟨rfl,rfl,λ i _=>?_,(λ i j hj=>nomatch hj),rfl,λ _ h=>nomatch h⟩,λ _=>rfl,λ h=>?_,(λ _ h=>nomatch h),λ _=>rfl,FS.nd,rfl,rfl⟩
  ·show []=S.al.getD i [];rw [hal];rfl
  ·have h':(if io=true then some v0 else none)≠none:=h;cases io with
   | true=>exact (hio rfl).1
   | false=>exact absurd rfl h'
 refine ⟨tS M b,Il (RY GX G Gm hS 60) _ _ hb _ M hxs hsm,Dw io xs++A6 k none,λ i=>if i=0 then fp0 else [],?_,?_⟩
 ·have hlen:xs.length=vs.length:=by
   cases io with
   | false=>exact (h1 rfl).2.length.symm
   | true=>obtain ⟨xr,wr,rfl,rfl,_,o⟩:=h2 rfl;rw [BP,BP,o.length]
  have each:∀ i y d,(Dw io xs)[i]?=some (some (y,d))->∃ v,vs[i]?=some v/\Own K H (λ a=>Zo a\/a∈fp0) y d v (if i=0 then fp0 else []):=λ i y d e=>by
   obtain ⟨e1,e2⟩:=Q1 e;cases io with
   | false=>
    obtain ⟨rfl,o⟩:=h1 rfl;obtain ⟨v,ev,ov⟩:=o.nth e1;rcases e2 with rfl | ⟨z,_⟩
    ·refine ⟨v,ev,?_⟩;rw [ite_self];exact ov.dv.weak λ a h=>h.elim id λ z=>nomatch z
    ·cases z
   | true=>
    obtain ⟨xr,wr,rfl,rfl,o0,o⟩:=h2 rfl;cases i with
    | zero=>
     simp [Dw] at e;obtain ⟨rfl,rfl⟩:=e;exact ⟨v0,rfl,Own.full _ _ _ o0⟩
    | succ i=>
     obtain ⟨v,ev,ov⟩:=o.nth (j:=i) (by simpa using e1);rcases e2 with rfl | ⟨_,z,_⟩
     ·refine ⟨v,by simpa using ev,?_⟩;rw [if_neg (Kv i)];exact ov.dv
     ·cases z
  have inl:∀ i p,(Dw io xs++A6 k none)[i]?=some (some p)->(Dw io xs)[i]?=some (some p):=λ i p e=>by
   by_cases hi:i < (Dw io xs).length
   ·rw [CU hi] at e;exact e
   ·rw [Gn (by omega),Fl] at e;split at e <;> cases e
  have domF:∀ a∈fp0,H a≠none:=λ a ha=>by
   cases io with
   | false=>rw [(h1 rfl).1] at ha;cases ha
   | true=>
    obtain ⟨xr,wr,rfl,rfl,o0,o⟩:=h2 rfl;obtain ⟨ys,e⟩:=Own.lsts _ _ _ _ o0 a ha;rw [e];simp
  refine ⟨λ i y d e=>?_,λ i h=>?_,λ i j hij a ha hb'=>?_,λ i a ha=>?_,λ i hi a ha=>?_,hZ,?_,λ i y d hi e=>?_,λ a h=>h,⟨λ v hv=>?_,λ _ h=>(nomatch h)⟩⟩
  ·obtain ⟨v,ev,ov⟩:=each i y d (inl i _ e);refine ⟨v,?_,ov.weak λ a h=>?_⟩
   ·unfold L2.start;rw [CU (by rw [A9];exact (ja7.mp ev).1),Cs,ev];rfl
   ·rcases h with h | ⟨j,_,h⟩
    ·exact .inl h
    ·by_cases ej:j=0
     ·simp only [if_pos ej] at h;exact .inr h
     ·simp only [if_neg ej] at h;cases h
  ·by_cases hi:i=0
   ·subst hi;rw [if_pos rfl];cases io with
    | false=>exact (h1 rfl).1
    | true=>
     obtain ⟨xr,wr,rfl,rfl,_,_⟩:=h2 rfl;exact absurd rfl (h (x0,om))
   ·rw [if_neg hi]
  ·by_cases e1:i=0
   ·by_cases e2:j=0
    ·exact hij (e1.trans e2.symm)
    ·rw [if_neg e2] at hb';cases hb'
   ·simp only [if_neg e1] at ha;cases ha
  ·by_cases e1:i=0
   ·simp only [if_pos e1] at ha;exact hz0 a ha
   ·simp only [if_neg e1] at ha;cases ha
  ·by_cases e1:i=0
   ·simp only [if_pos e1] at ha;cases io with
    | false=>rw [(h1 rfl).1] at ha;cases ha
    | true=>
     have:=(hio rfl).1
     have hi':S.msF i=false:=hi;rw [e1,this] at hi';cases hi'
   ·simp only [if_neg e1] at ha;cases ha
  ·unfold L2.start;rw [Bn,Z7,Fj,Bn,A9,Fj,hlen,hl,hk];omega
  ·have hm:i∈S.ms:=by
    have hi':S.msF i=true:=hi;unfold Sx.msF at hi';simpa using hi'
   obtain ⟨e1,e2⟩:=Q1 (inl i _ e);have hlt:i < np:=by
    have:=(ja7.mp e1).1
    rw [hlen,hl] at this;exact this
   obtain ⟨rfl,rfl⟩:=hms i hm hlt;obtain ⟨xr,wr,rfl,rfl,_,_⟩:=h2 rfl;have e':=inl 0 _ e;simp [Dw] at e';exact e'.2.symm
  ·have hv':(if io=true then some v0 else none)=some v:=hv;cases io with
   | false=>cases hv'
   | true=>
    cases hv';obtain ⟨xr,wr,rfl,rfl,_,_⟩:=h2 rfl;exact ⟨rfl,(hio rfl).1⟩
 ·unfold Av at q;have hlen:xs.length=np:=by
   by_cases e:xs.length=np
   ·exact e
   ·rw [if_neg e] at q;exact q.elim
  rw [if_pos hlen] at q;have fin:∀ {y:PV}{d:Nat}{ρ':Ag}{v:V}{σ':St}{H':Hp}{fps':AB}{fp:List Addr},(match Gq io y d ρ' with
    | .ok (y,d,z0)=>∀ v H' fp fp0',Ce (λ a=>a∈fp0) H H'->(∀ a,H a≠none->H' a≠none)->(∀ a∈fp0',a∈fp0\/H a=none)->(∀ a∈fp0',¬ Zo a)->(io=false->fp0'=[])->(io=true->Own K H' (λ _=>True) z0 om v0 fp0') ->
      Own K H' (λ a=>(Zo a\/a∈fp0')\/a∈fp) y d v fp->(∀ a∈fp,H a=none/\¬ (Zo a\/a∈fp0'))->Q v H'
    | .exc c=>∀ H',Ce (λ a=>a∈fp0) H H'->(∀ a,H a≠none->H' a≠none)->E (.int (c:Int) 0) none H'
    | .no=>False)->KS M H (λ i=>if i=0 then fp0 else []) H' fps'->Rep M ρ' σ' H' fps'->Own M.K H' (λ a=>Zr M fps' a\/a∈fp) y d v fp->(∀ a∈fp,M.H₀ a=none/\¬ Zr M fps' a)->Q v H':=λ {y d ρ' v σ' H' fps' fp} q ks rp oy hf=>by
   have kp:Ce (λ a=>a∈fp0) H H':=λ a o h n=>ks.keep a o h λ ⟨i,hi⟩=>by
    by_cases e:i=0
    ·simp only [if_pos e] at hi;exact n hi
    ·simp only [if_neg e] at hi;cases hi
   cases io with
   | false=>
    refine q v H' fp [] kp ks.dom (λ _ z=>(nomatch z)) (λ _ z=>(nomatch z)) (λ _=>rfl) (λ h=>(nomatch h)) (oy.weak λ a h=>?_) λ a ha=>⟨(hf a ha).1,λ z=>(hf a ha).2 ?_⟩
    ·rcases h with (h | h) | h
     ·exact .inl (.inl h)
     ·cases h
     ·exact .inr h
    ·rcases z with z | z
     ·exact .inl z
     ·cases z
   | true=>
    unfold Gq at q;cases e0:ρ'[0]? with
    | none=>dsimp only at q;rw [e0] at q;exact q.elim
    | some s0=>
     dsimp only at q;rw [e0] at q;cases s0 with
     | none=>exact q.elim
     | some p0=>
      obtain ⟨z,dz⟩:=p0;have hdz:=rp.msf 0 z dz (hio rfl).1 e0;subst hdz;obtain ⟨u,hu,ou⟩:=rp.own 0 z om e0;have hu0:=(rp.iov.1 v0 rfl).1;rw [hu] at hu0;cases hu0;refine q v H' fp (fps' 0) kp ks.dom (λ a ha=>?_) (λ a ha=>rp.zo 0 a ha) (λ h=>(nomatch h)) (λ _=>Own.full _ _ _ ou) (oy.weak λ a h=>?_) λ a ha=>⟨(hf a ha).1,λ z=>(hf a ha).2 ?_⟩
      ·rcases ks.sub 0 a ha with ⟨j,hj⟩ | z
       ·by_cases e:j=0
        ·simp only [if_pos e] at hj;exact .inl hj
        ·simp only [if_neg e] at hj;cases hj
       ·exact .inr z
      ·rcases h with (h | h) | h
       ·exact .inl (.inl h)
       ·exact .inl (.inr ⟨(λ z=>nomatch z),h⟩)
       ·exact .inr h
      ·rcases z with z | z
       ·exact .inl z
       ·exact .inr ⟨(λ z=>nomatch z),z⟩
  cases eb:b (Dw io xs++A6 k none) with
  | no=>rw [eb] at q;exact q
  | exc c=>
   rw [eb] at q;refine λ σ' H' fps' ks=>⟨q H' (λ a o h n=>ks.keep a o h λ ⟨i,hi⟩=>?_) ks.dom,ks.dom⟩
   by_cases e:i=0
   ·simp only [if_pos e] at hi;exact n hi
   ·simp only [if_neg e] at hi;cases hi
  | bk ρ=>rw [eb] at q;exact q.elim
  | ct ρ=>rw [eb] at q;exact q.elim
  | rt y d ρ'=>
   rw [eb] at q;exact λ v σ' H' fps' fp ks rp oy hf=>fin q ks rp oy hf
  | nx ρ'=>
   rw [eb] at q;exact λ σ' H' fps' ks rp=>fin (fp:=[]) q ks rp (by rw [Own];exact ⟨rfl,rfl⟩) λ _ z=>nomatch z
def Ht (np k:Nat) (b:Fs):Fn:=λ xs=>if xs.length=np then (match b (xs.map (λ x=>some (x,om))++A6 k none) with
  | .rt y d _=>.ok (y,d,.non)
  | .nx _=>.ok (.non,om,.non)
  | _=>.no) else .no
def UU {x qual:Str}{st:Stmt}{fa:Addr}{fd:C0}{ps:List Str}{np k:Nat}{b:Fs} (Fu:Fun K x qual st fa fd) (FS:FnScope S.N ps (A2 st)) (hsc:S.sc=A2 st) (hal:S.al=[]) (hnp:ps.length=np) (hk:S.N.length=np + k) (hms:S.ms=[])
  (GX:GX K mg S.xc) (G:GS P w K mg base lvl S.Γ) (Gm:Ei P w K mg base lvl S.Γm) (hb:Bo (AF 60 S) (Bp st)=some b):FnOk P w K mg base (AG P w K) (lvl + 1) fa fd ps (HJ K (Ht np k b)):=by
 have hS:∀ i,∀ j∈S.alF i,S.msF j=false:=λ i j hj=>by
  unfold Sx.alF at hj;rw [hal] at hj;simp at hj
 have nms:∀ i,S.msF i=false:=λ i=>by unfold Sx.msF;rw [hms];rfl
 have len:∀ vs H Q E,HJ K (Ht np k b) vs H Q E->vs.length=ps.length:=λ vs H Q E h=>by
  obtain ⟨xs,fp1,Zo,h1,_,_,_,q⟩:=h;by_cases e:xs.length=np
  ·rw [h1,e,hnp]
  ·unfold Ht at q;rw [if_neg e] at q;exact q.elim
 refine Sd Fu FS len λ cdv A outer s H vs Q E hr h=>?_;have hlv:=len _ _ _ _ h;obtain ⟨xs,fp1,Zo,hl,h2,hx,hz,q⟩:=h;have hln:xs.length=np:=by rw [<- hl,hlv,hnp]
 let M:Fm:={ K:=K,Ms:=S.msF,Zo:=Zo,H₀:=λ a=>if a∈fp1 then none else H a,W:=λ _ _ _=>False,io:=none,al:=λ _=>[] }
 have hxs:XS (Be (AG P w K) P w K mg base S.N qual (A2 st) fa cdv A outer s H E) P w K mg base lvl S W0:=⟨rfl,rfl,rfl,rfl,rfl,rfl,hsc.symm,rfl,hr,Sm,RB,λ _ _ _ _ _ _ _ _ _ _ _ _ _ h=>h.elim⟩
 have hsm:SM (Be (AG P w K) P w K mg base S.N qual (A2 st) fa cdv A outer s H E) M K S W0:=by
  refine ⟨⟨rfl,rfl,λ i _=>?_,(λ i j hj=>nomatch hj),rfl,λ _ h=>nomatch h⟩,λ _=>rfl,λ h=>absurd rfl h,(λ _ h=>nomatch h),λ _=>rfl,FS.nd,rfl,rfl⟩;show []=S.al.getD i [];rw [hal];rfl
 have only:∀ i p,(xs.map (λ x=>some (x,om))++A6 k none:Ag)[i]?=some (some p)->∃ x,xs[i]?=some x/\p=(x,om):=λ i p e=>by
  by_cases hi:i < xs.length
  ·rw [CU (by rw [A9];exact hi),Cs] at e;cases e1:xs[i]? with
   | none=>rw [e1] at e;cases e
   | some x=>rw [e1] at e;cases e;exact ⟨x,e1,rfl⟩
  ·rw [Gn (by rw [A9];omega),Fl] at e;split at e <;> cases e
 obtain ⟨x1,hx1⟩:∃ x,xs[1]?=some x:=⟨_,Dn (by omega)⟩
 refine ⟨tS M b,Il (RY GX G Gm hS 60) _ _ hb _ M hxs hsm,xs.map (λ x=>some (x,om))++A6 k none,λ i=>if i=1 then fp1 else [],?_,?_⟩
 ·have domF:∀ a∈fp1,H a≠none:=λ a ha=>by
   obtain ⟨v,_,o⟩:=hx 1 x1 hx1;rw [if_pos rfl] at o;obtain ⟨ys,e⟩:=Own.lsts _ _ _ _ o a ha;rw [e];simp
  have in1:∀ i a,a∈(if i=1 then fp1 else [])->i=1/\a∈fp1:=λ i a ha=>by
   by_cases e:i=1
   ·rw [if_pos e] at ha;exact ⟨e,ha⟩
   ·rw [if_neg e] at ha;cases ha
  refine ⟨λ i y d e=>?_,λ i h=>?_,λ i j hij a ha hb'=>?_,λ i a ha z=>(hz a z).2 (in1 i a ha).2,λ i hi a ha=>if_pos (in1 i a ha).2,λ a z=>(hz a z).1,?_,λ i y d hi e=>?_,λ a h=>?_,⟨λ v hv=>(by cases hv),λ _ h=>(nomatch h)⟩⟩
  ·obtain ⟨x,ex,e2⟩:=only i _ e;cases e2;obtain ⟨v,hv,o⟩:=hx i y ex;refine ⟨v,?_,Own.full _ _ _ o⟩;unfold L2.start;rw [CU (by rw [A9];exact (ja7.mp hv).1),Cs,hv];rfl
  ·by_cases hi:i=1
   ·subst hi;refine absurd ?_ (h (x1,om));rw [CU (by rw [A9];omega),Cs,hx1];rfl
   ·exact if_neg hi
  ·exact hij ((in1 i a ha).1.trans (in1 j a hb').1.symm)
  ·unfold L2.start;rw [Bn,A9,Fj,Bn,A9,Fj,hk,hl];omega
  ·have:S.msF i=true:=hi
   rw [nms i] at this;cases this
  ·have h':(if a∈fp1 then none else H a)≠none:=h;by_cases e:a∈fp1
   ·exact domF a e
   ·rw [if_neg e] at h';exact h'
 ·have kpOf:∀ {H':Hp}{fps':AB},KS M H (λ i=>if i=1 then fp1 else []) H' fps'->Ce (λ a=>a∈fp1) H H':=λ ks a o h n=>ks.keep a o h λ ⟨i,hi⟩=>by
   by_cases e:i=1
   ·simp only [if_pos e] at hi;exact n hi
   ·simp only [if_neg e] at hi;cases hi
  unfold Ht at q;rw [if_pos hln] at q;cases eb:b (xs.map (λ x=>some (x,om))++A6 k none) with
  | no=>rw [eb] at q;exact q
  | exc c=>rw [eb] at q;exact q.elim
  | bk ρ=>rw [eb] at q;exact q.elim
  | ct ρ=>rw [eb] at q;exact q.elim
  | rt y d ρ'=>
   rw [eb] at q;refine λ v σ' H' fps' fp ks rp oy hf=>q v H' fp (kpOf ks) ks.dom (oy.weak λ a h=>h.elim (λ z=>.inl (.inl z)) .inr) λ a ha=>⟨?_,λ z=>(hf a ha).2 (.inl z)⟩
   have h0:(if a∈fp1 then none else H a)=none:=(hf a ha).1;by_cases e:a∈fp1
   ·exact .inl e
   ·rw [if_neg e] at h0;exact .inr h0
  | nx ρ'=>
   rw [eb] at q;exact λ σ' H' fps' ks rp=>q .non H' [] (kpOf ks) ks.dom (by rw [Own];exact ⟨rfl,rfl⟩) λ _ z=>nomatch z
end
open PySem PySem.Spec PySem.W PySem.Calls PyProof.Rows L2
theorem Px {tb:String->Option Builtin}{p:A3}{w:Az}{n₀:Nat}{ann:Option Ae}:∀ {n:Nat}{s r:SharedT}{t:Thread},ID tb p w n₀ ann n s t=some r->topRun tb p w n₀ ann n s.abs t=some r.abs
 | 0,_,_,_,h=>by cases h
 | n + 1,s,r,t,h=>by
  unfold ID at h;unfold topRun;cases e1:through t with
  | true=>rw [e1] at h;cases h;rfl
  | false=>
   rw [e1] at h;cases e2:stepOk n₀ ann t with
   | false=>rw [e2] at h;cases h
   | true=>
    rw [e2] at h;cases e3:stepT (denote tb) p w s t with
    | none=>rw [e3] at h;cases h
    | some z=>obtain ⟨s₂,t₂⟩:=z;rw [e3] at h;rw [stepT_spec e3];exact Px h
def XH (P:Params) (os:OsState):(bootS P os).abs=⟨D0 P,#[],boot_drawn,boot_toks,os⟩:=by kernel_rfl
def Wo (P:Params):(D0 P).isNs DF=true:=by kernel_rfl
def W7 {p q:A3}{loose:List Str}{Xt:Ah->Bool}{α:Type}{Yf:Ah->α}{Ya:Az->α}{N:Nat} (e:opening p=plainProg p.main.scope.names) (hN:Nat.ble 600 N=true) (f:∀ s,fenceModules? p s=some s)
  (run:∀ (w:Az) (os:OsState),(ID treeTable p w (D0 w.params).objs.size ((D0 w.params).nsMap DF "__annotations__") N (bootS w.params os) (topStub p)).map (λ s=>Nj p q loose Xt Yf (D0 w.params) s.abs)=some (true,openGood q loose,Ya w)):
  LeftO p q loose Xt Yf Ya N:=λ w=>by
 obtain ⟨⟨h,gs,d,k,os⟩,e1,e2⟩:=jb0.mp (boot_open e hN f w);obtain ⟨rfl,rfl,rfl,rfl⟩:h=D0 w.params/\gs=#[]/\d=boot_drawn/\k=boot_toks:=by simpa using e2
 obtain ⟨s,r1,r2⟩:=jb0.mp (run w os);have r:=Px r1;rw [XH] at r;have r3:(_=_)/\(_ ,_)=(_,_):=Prod.mk.inj r2;obtain ⟨l1,l23⟩:=r3;obtain ⟨l2,l3⟩:=Prod.mk.inj l23;have t:topFrom treeTable p w N ⟨D0 w.params,#[],boot_drawn,boot_toks,os⟩=some s.abs:=by
  unfold topFrom;dsimp only;rw [Wo,r];show (match staticsOk (N6 p.main.body) (D0 w.params) s.abs.heap && namesBound p s.abs.heap && gensDone s.abs && laidKept (D0 w.params) s.abs.heap with | true=>_ | false=>_)=_;rw [l1]
 unfold openEnds;rw [e1];show (topFrom treeTable p w N _).map _=_;rw [t];exact congrArg some (Prod.ext l2 l3)
theorem Vo (h:Heap):(Kn h).In h:=by
 intro a o;unfold Kn;generalize Bb h.objs.size=l;induction l with
 | nil=>intro e;cases e
 | cons b l ih=>
  intro e;rw [MC] at e;cases g:h.get? b with
  | none=>rw [g] at e;exact ih e
  | some z=>
   rw [g] at e;dsimp only [Kt] at e;rw [DH] at e;split at e
   ·rename_i q;cases e;rw [beq_iff_eq.mp q];exact g
   ·exact ih e
def Vz {K:Frag}{x:Str}{st:Stmt} (e:Nh K x=some (Om x st)):∃ (g:Addr) (fd:C0),nsIn K DF x=some (some (.ref g))/\Fun K x x st g fd:=by
 unfold Nh at e;split at e
 ·rename_i g hg;split at e
  ·rename_i oc od fd sl hl;cases fd;unfold Om at e;simp only [Option.some.injEq,DefSeen.mk.injEq] at e;obtain ⟨rfl,rfl,rfl,rfl,rfl,rfl,rfl,rfl,rfl,hc⟩:=e;refine ⟨g,_,hg,Vg hl hc ?_⟩;unfold keepIn;dsimp only;rw [hl]
  ·cases e
 ·cases e
structure Given (ds:List (Str×Stmt)) (xc:List Nat) (K:Frag) (mg:Str->Option Ae):Prop where
 df:∀ (i:Nat) (x:Str) (st:Stmt),ds[i]?=some (x,st)->∃ (g:Addr) (fd:C0),mg x=some (.ref g)/\Fun K x x st g fd
 bn:∀ x∈zvg,mg x=none
 gx:GX K mg xc
theorem Ot {α β:Type}{f g:α->β}:∀ {l:List α},l.map f=l.map g->∀ {i:Nat}{a:α},l[i]?=some a->f a=g a
 | [],_,_,_,h=>by cases h
 | b::l,e,0,a,h=>by
  cases h;exact (List.cons.inj e).1
 | b::l,e,i + 1,a,h=>Ot (List.cons.inj e).2 h
def Yd {ds:List (Str×Stmt)}{xc:List Nat}{K:Frag}{mg:Str->Option Ae}{h:Heap} (X:K.In h) (G:h.Ns DF mg) (e:JA ds xc K=JE ds):Given ds xc K mg:=by
 obtain ⟨e1,e2⟩:=Prod.mk.inj e;obtain ⟨e2,e3⟩:=Prod.mk.inj e2;refine ⟨λ i x st hi=>?_,λ x hx=>?_,λ hne=>?_⟩
 ·obtain ⟨g,fd,a,b⟩:=Vz (Ot e1 hi);exact ⟨g,fd,mg_of X G a,b⟩
 ·obtain ⟨i,hi⟩:=Tx hx;exact mg_none_of X G (Ot e2 hi)
 ·have hm:xc.isEmpty=false:=by
   cases xc with
   | nil=>exact absurd rfl hne
   | cons _ _=>rfl
  rw [hm,Kr,AL,AL] at e3;refine ⟨e3.1.1,e3.1.2,λ c hc=>?_⟩;have h1:=jc4.mp e3.2 c hc;rw [AL] at h1;obtain ⟨C,hC⟩:=jj3.mp h1.1;have hC':=hC;unfold BC at hC';cases hx:XN[c]? with
  | none=>rw [hx] at hC';cases hC'
  | some x=>
   rw [hx] at hC';dsimp only at hC';have h2:=h1.2;rw [hx] at h2;dsimp only at h2;refine ⟨x,C,rfl,hC,?_,by simpa using h2⟩;split at hC'
   ·rename_i D hD;cases hC';exact mg_of X G hD
   ·cases hC'
def WR {P:A3}{w:Az}{K:Frag}{outer:List Env}{H:Hp}{s:Ah}{e:Ae}{s2:Ah} (z:AG P w K outer H s (λ _ _ _=>False) e s2):False:=by
 obtain ⟨_,_,_,_,_,_,_,_,_,_,_,_,_,_,_,_,_,_,z⟩:=z;exact z
def holds_by {l:OpenLaw}{q:A3}{loose:List Str}{d:DefRec}{N k n:Nat}{ds:List (Str×Stmt)}{xc:List Nat}{F:Fn}{x:Str} (said:l.wellSaid=true)
  (e:opening l.prog=plainProg l.prog.main.scope.names) (hN:Nat.ble 600 N=true) (f:∀ s,fenceModules? l.prog s=some s)
  (run:∀ (w:Az) (os:OsState),(ID treeTable l.prog w (D0 w.params).objs.size ((D0 w.params).nsMap DF "__annotations__") N (bootS w.params os) (topStub l.prog)).map
   (λ s=>Nj l.prog q loose (λ s=>xlAt q [] s && recOk (RowW.records l.row.toRowW) s) (λ s=>JA ds xc (Kn s.heap)) (D0 w.params) s.abs)=some (true,openGood q loose,JE ds))
  (hdef:defOf q l.row.name=some (d,[])) (hp:l.row.prog.theDef l.row.name=some (d.params,d.body,d.scope)) (hk:kwWritten? d.params.kwonlyargs d.params.kw_defaults=some []) (hwr:(!l.row.writes || l.row.records.isEmpty)=true)
  (ok:(chainsOk q && opensWell l.row.prog && (frees l.row.toRowW && l.row.within.isEmpty))=true) (hb:l.row.prog.bare) (hw:l.row.toRowW.promised)
  (hn:l.most=some n) (hn2:n<=An) (hdf:d.params.defaults=[]) (hr:Room k Hy)
  (law:∀ (K:Frag) (w:Az) (mg:Str->Option Ae) (fa:Addr),Given ds xc K mg->mg d.name=some (.ref fa)->∃ fd:C0,(∀ (s:Ah) (u:Ae),BindsTo s fd ⟨[u],[]⟩ [(x,u)]) /\
   ∀ base:Heap,FnOk l.prog w K mg base (AG l.prog w K) k fa fd [x] (Bq K false 1 F))
  (yes:∀ (K:Frag) (H:Hp) (a:Addr) (ns:List Int),ns.length<=n->Gw H->BU K H a (ns.map V.int)->Bq K false 1 F [.ref a] H (λ v _=>v=.bl true) λ _ _ _=>False):l.Holds:=by
 refine holds_law said λ ws=>?_;refine holds_open (q:=q) (loose:=loose) (Xt:=λ s=>xlAt q [] s && recOk (RowW.records l.row.toRowW) s) (XP:=XL q []) (Yf:=λ s=>JA ds xc (Kn s.heap)) (Ya:=λ _=>JE ds) (YP:=λ _ h=>∃ K:Frag,K.In h/\JA ds xc K=JE ds) (N:=N)
  (W7 e hN f run) (λ _ s z=>⟨_,Vo _,z⟩) (λ _ _ _ ⟨K,a,b⟩ kp=>⟨K,a.keeps kp,b⟩) (λ s e=>xl_of s (jl2.mp e).1) XL.keeps hdef hp hk (λ s e=>recFacts_of (jl2.mp e).2) hwr ws ok hb hw ?_
 refine Att.attach_call hn hdf λ w s₀ s₁ mg mb fa o pm cd doc a vs ns G Y ho hd hcd hmg hobj hints hlen hg=>?_;obtain ⟨K,KX,hf⟩:=Y;obtain ⟨fd,hbd,hF⟩:=law K w mg fa (Yd KX G.T.g hf) hmg;exact Y8 KX G.T.g G.T.b G.T.builtins G.T.nolimit hg hobj hints (CT hlen hn2) hr (λ base _ _=>hF base) hbd (λ H hO hS=>yes K H a ns hlen hO hS) λ H e s'=>WR
section
variable {P:A3}{w:Az}{K:Frag}{mg:Str->Option Ae}{base:Heap}
def Ee {us:List Ae} (h:us.length=1):∃ a,us=[a]:=List.length_eq_one_iff.mp h
theorem CS {us:List Ae} (h:us.length=2):∃ a b,us=[a,b]:=by
 cases us with
 | nil=>cases h
 | cons a r=>obtain ⟨b,rfl⟩:=Ee (Nat.succ.inj h);exact ⟨a,b,rfl⟩
theorem Ed {us:List Ae} (h:us.length=3):∃ a b c,us=[a,b,c]:=by
 cases us with
 | nil=>cases h
 | cons a r=>obtain ⟨b,c,rfl⟩:=CS (Nat.succ.inj h);exact ⟨a,b,c,rfl⟩
theorem Ec {us:List Ae} (h:us.length=4):∃ a b c d,us=[a,b,c,d]:=by
 cases us with
 | nil=>cases h
 | cons a r=>obtain ⟨b,c,d,rfl⟩:=Ed (Nat.succ.inj h);exact ⟨a,b,c,d,rfl⟩
theorem O8 {us:List Ae} (h:us.length=5):∃ a b c d e,us=[a,b,c,d,e]:=by
 cases us with
 | nil=>cases h
 | cons a r=>obtain ⟨b,c,d,e,rfl⟩:=Ec (Nat.succ.inj h);exact ⟨a,b,c,d,e,rfl⟩
def BW {lvl:Nat} (hb:∀ x∈zvg,mg x=none):GS P w K mg base lvl []:=⟨hb,λ x io n F h=>by cases h⟩
def GF {lvl:Nat}{x qual:Str}{st:Stmt}{fa:Addr}{fd:C0}{ps:List Str}{io:Bool}{n:Nat}{F:Fn}{Γ:List (Str×(Bool×Nat×Fn))} (g:GS P w K mg base lvl Γ) (hx:(x == ("__debug__" : Str))=false) (hF:∀ xs,xs.length≠n->F xs=.no)
  (hm:mg x=some (.ref fa)) (Fu:Fun K x qual st fa fd) (hbd:zjy K fd ps []) (hn:ps.length=n) (ok:FnOk P w K mg base (AG P w K) lvl fa fd ps (Bq K io n F)):GS P w K mg base lvl ((x,(io,n,F))::Γ):=by
 refine ⟨g.1,λ y io' n' F' h=>?_⟩;rw [DH] at h;split at h
 ·rename_i e;cases h
  have:y=x:=eq_of_beq e
  subst this;exact ⟨hx,hF,fa,fd,ps,hm,Fu.kp,hbd,hn,ok⟩
 ·exact g.2 y io' n' F' h
def Nk {lvl:Nat}:Ei P w K mg base lvl []:=λ x F h=>by cases h
def Cm {lvl j:Nat}{x qual:Str}{st:Stmt}{fa:Addr}{fd:C0}{ps:List Str}{io:Bool}{n:Nat}{F:Fn}{Γ:List (Str×(Bool×Nat×Fn))} (g:GS P w K mg base lvl Γ) (hm:mg x=some (.ref fa)) (Fu:Fun K x qual st fa fd) (hbd:zjy K fd ps []) (ok:FnOk P w K mg base (AG P w K) j fa fd ps (Bq K io n F)) (hl:j<=lvl:=by decide) (hx:(x == ("__debug__" : Str))=false:=by decide +kernel) (hF:∀ xs,xs.length≠n->F xs=.no:=by exact Gy) (hn:ps.length=n:=by rfl):GS P w K mg base lvl ((x,(io,n,F))::Γ):=GF g hx hF hm Fu hbd hn (ok.mono hl)
def Ct (S:Sx) {lvl:Nat}{x qual:Str}{st:Stmt}{fa:Addr}{fd:C0}{ps:List Str}{np k:Nat}{io:Bool}{b:Fs} (Fu:Fun K x qual st fa fd) (FS:FnScope S.N ps (A2 st)) (gX:GX K mg S.xc) (G:GS P w K mg base lvl S.Γ) (hb:Bo (AF 60 S) (Bp st)=some b) (hsc:S.sc=A2 st:=by rfl) (hal:S.al=[]:=by rfl) (hnp:ps.length=np:=by rfl) (hk:S.N.length=np + k:=by rfl) (hms:∀ i∈S.ms,i < np->i=0/\io=true:=by decide) (hio:io=true->S.msF 0=true/\0 < np:=by first | exact λ h=>Bool.noConfusion h | exact λ _=>⟨rfl,by decide⟩) (Gm:Ei P w K mg base lvl S.Γm:=by exact Nk):FnOk P w K mg base (AG P w K) (lvl + 1) fa fd ps (Bq K io np (Av io np k b)):=QB (S:=S) Fu FS hsc hal hnp hk hms hio gX G Gm hb
def Y6 {lvl:Nat}{x qual:Str}{st:Stmt}{fa:Addr}{fd:C0}{ps:List Str}{F:Fn}{Γm:List (Str×Fn)} (g:Ei P w K mg base lvl Γm) (hx:(x == ("__debug__" : Str))=false) (hm:mg x=some (.ref fa)) (Fu:Fun K x qual st fa fd) (hbd:zjy K fd ps []) (ok:FnOk P w K mg base (AG P w K) lvl fa fd ps (HJ K F)):Ei P w K mg base lvl ((x,F)::Γm):=by
 intro y F' h;rw [DH] at h;split at h
 ·rename_i e;cases h
  have:y=x:=eq_of_beq e
  subst this;exact ⟨hx,fa,fd,ps,hm,Fu.kp,hbd,ok⟩
 ·exact g y F' h
end
def sp_yes {K:Frag}{H:Hp}{a:Addr}{ns:List Int}{F:Fn} (hO:Gw H) (hS:BU K H a (ns.map V.int)) (h:∃ d z,F [.scr ns]=.ok (.bl true,d,z)):Bq K false 1 F [.ref a] H (λ v _=>v=.bl true) λ _ _ _=>False:=by
 refine ⟨rfl,[.scr ns],λ _=>False,.non,.non,[],λ _ z=>z.elim,λ _ z=>(nomatch z),λ _=>⟨rfl,?_⟩,(λ h=>nomatch h),?_⟩
 ·rw [OwnL];refine ⟨.ref a,[],[],[],rfl,rfl,λ _ z=>(nomatch z),?_,by rw [OwnL];exact ⟨rfl,rfl⟩⟩;rw [Own];refine ⟨rfl,a,rfl,?_⟩;rcases hS with (h | h) | h
  ·rcases hO a with z | ⟨ob,xs,z⟩
   ·rw [h] at z;cases z
   ·rw [h] at z;cases z
  ·exact .inl h
  ·exact .inr h
 ·obtain ⟨d,z,e⟩:=h;rw [e];intro v H' fp fp0' _ _ _ _ _ _ o _;rw [Own] at o;exact o.1
end QQ
namespace QV
open PySem PySem.Spec PyProof.Rows L2 QQ
def De {op:PV->Nat->PV->Nat->Option (PV×Nat)}{f g:Fx}{ρ ρ1 ρ2:Ag}{x y z:PV}{d e c:Nat} (h1:f ρ=.ok (x,d,ρ1)) (h2:g ρ1=.ok (y,e,ρ2)) (h3:op x d y e=some (z,c)):Ab op f g ρ=.ok (z,c,ρ2):=by
 unfold Ab;rw [h1];dsimp only [Rz.bind];rw [h2];dsimp only;rw [h3]
def UP {op:PV->Nat->Option (PV×Nat)}{f:Fx}{ρ ρ1:Ag}{x z:PV}{d c:Nat} (h1:f ρ=.ok (x,d,ρ1)) (h3:op x d=some (z,c)):Au op f ρ=.ok (z,c,ρ1):=by
 unfold Au;rw [h1];dsimp only [Rz.bind];rw [h3]
def A1 {f:Fx}{fa:Fa}{ρ ρ1 ρ2:Ag}{x:PV}{d:Nat}{xs:List (PV×Nat)} (h1:f ρ=.ok (x,d,ρ1)) (h2:fa ρ1=.ok (xs,ρ2)):Ad f fa ρ=.ok ((x,d)::xs,ρ2):=by
 unfold Ad;rw [h1];dsimp only [Rz.bind];rw [h2]
def AQ {f:Fx}{ρ ρ1:Ag}{x:PV}{d:Nat} (h1:f ρ=.ok (x,d,ρ1)):Ad f Ac ρ=.ok ([(x,d)],ρ1):=A1 h1 rfl
def C5 {op:List (PV×Nat)->Option (PV×Nat)}{fa:Fa}{ρ ρ1:Ag}{xs:List (PV×Nat)}{z:PV}{c:Nat} (h1:fa ρ=.ok (xs,ρ1)) (h2:op xs=some (z,c)):Aj op fa ρ=.ok (z,c,ρ1):=by
 unfold Aj;rw [h1];dsimp only [Rz.bind];rw [h2]
def Bs {F:Fn}{fa:Fa}{ρ ρ1:Ag}{xs:List (PV×Nat)}{y z:PV}{d:Nat} (h1:fa ρ=.ok (xs,ρ1)) (h2:F (xs.map (·.1))=.ok (y,d,z)):Aw F fa ρ=.ok (y,d,ρ1):=by
 unfold Aw;rw [h1];dsimp only [Rz.bind];rw [h2]
def Dg {f:Fx}{ρ ρ1:Ag}{x:PV}{d:Nat} (h:f ρ=.ok (x,d,ρ1)):As f ρ=.rt x d ρ1:=by
 unfold As;rw [h]
def Hi {f:Fx}{ρ ρ1:Ag}{x:PV}{d:Nat} (h:f ρ=.ok (x,d,ρ1)):Bz f ρ=.nx ρ1:=by
 unfold Bz;rw [h]
def setF {i:Nat}{f:Fx}{vs:List Nat}{ρ ρ1 ρ2:Ag}{x:PV}{d:Nat} (h:f ρ=.ok (x,d,ρ1)) (hc:i < ρ1.length) (e:(Bk d vs ρ1).set i (some (x,d))=ρ2):Ai false i f vs ρ=.nx ρ2:=by
 unfold Ai;rw [h];dsimp only;rw [if_pos ⟨hc,λ h=>nomatch h⟩,e]
def Wi {asg:PV->Ag->Option Ag}{f:Fx}{vs:List Nat}{ρ ρ1 ρ2:Ag}{x:PV}{d:Nat} (h:f ρ=.ok (x,d,ρ1)) (e:asg x (Bk d vs ρ1)=some ρ2):CQ asg f vs ρ=.nx ρ2:=by
 unfold CQ;rw [h];dsimp only;rw [e]
def Mv {i:Nat}{f:Fx}{vs:List Nat}{ρ ρ1 ρ2:Ag}{y:PV}{e:Nat}{xs:List PV}{d0 d:Nat}{xs0:List PV} (h0:ρ[i]?=some (some (.lst xs0,d0 + 1))) (h:f ρ=.ok (y,e,ρ1)) (h1:(Bk e vs ρ1)[i]?=some (some (.lst xs,d))) (hd:d≠0) (hl:xs.length < An)
  (e2:(Bk e vs ρ1).set i (some (.lst (xs++[y]),if d=om/\e=om then om else 1))=ρ2):BE i f vs ρ=.nx ρ2:=by
 unfold BE;rw [h0];dsimp only;rw [h];dsimp only;rw [h1];dsimp only;rw [if_pos ⟨hd,hl⟩,e2]
def JB {i:Nat}{fi fj f:Fx}{ρ ρ1 ρ2 ρ3 ρ4:Ag}{y x x':PV}{a b:Int}{d0 d1 d2:Nat} (h:f ρ=.ok (y,d0,ρ1)) (hx:ρ1[i]?=some (some (x,om))) (h1:fi ρ1=.ok (.int a,d1,ρ2)) (h2:fj ρ2=.ok (.int b,d2,ρ3)) (hp:Cr x a b y=some x') (hy:DN y=true) (e:ρ3.set i (some (x',om))=ρ4):CB i fi fj f ρ=.nx ρ4:=by
 unfold CB;rw [h];dsimp only;rw [hx];dsimp only;rw [h1];dsimp only;rw [h2];dsimp only;rw [hp];dsimp only;rw [if_pos ⟨rfl,hy⟩,e]
def AD {f g:Fs}{ρ ρ1:Ag} (h:f ρ=.nx ρ1):Af f g ρ=g ρ1:=by
 unfold Af;rw [h]
def QH {c:Fb}{f g:Fs}{ρ ρ1:Ag}{b:Bool} (hc:c ρ=.ok (b,ρ1)):A0 c f g ρ=if b=true then f ρ1 else g ρ1:=by
 unfold A0;rw [hc]
def A7 {c:Fb}{f g:Fs}{ρ ρ1:Ag} (hc:c ρ=.ok (true,ρ1)):A0 c f g ρ=f ρ1:=by rw [QH hc];rfl
def Bi {c:Fb}{f g:Fs}{ρ ρ1:Ag} (hc:c ρ=.ok (false,ρ1)):A0 c f g ρ=g ρ1:=by rw [QH hc];rfl
def Co {c:Fb}{f g:Fs}{ρ ρ1:Ag} (hc:c ρ=.ok (false,ρ1)):Af (A0 c f Al) g ρ=g ρ1:=AD (by rw [Bi hc];rfl)
def D9 {f g:Fs}{ρ ρ1:Ag}{x:PV}{d:Nat} (h:f ρ=.rt x d ρ1):Af f g ρ=.rt x d ρ1:=by
 unfold Af;rw [h]
def A5 {f:Fx}{ρ ρ1:Ag}{b:Bool}{d:Nat} (h:f ρ=.ok (.bl b,d,ρ1)):bT f ρ=.ok (b,ρ1):=by
 unfold bT;rw [h];rfl
def E4 {f:Fx}{ρ ρ1:Ag}{b:Bool}{d:Nat} (h:f ρ=.ok (.bl b,d,ρ1)):Au BK f ρ=.ok (.bl (!b),om,ρ1):=UP h rfl
theorem FI {f g:Fx}{ρ ρ1:Ag}{a b:Bool}{d:Nat} (h:f ρ=.ok (.bl a,d,ρ1)) (h2:a=true->g ρ1=.ok (.bl b,om,ρ1)) (hd:d=om):Cn f g ρ=.ok (.bl (a && b),om,ρ1):=by
 subst hd;unfold Cn;rw [h];cases a with
 | false=>rfl
 | true=>exact h2 rfl
theorem FH {f g:Fx}{ρ ρ1:Ag}{a b:Bool}{d:Nat} (h:f ρ=.ok (.bl a,d,ρ1)) (h2:a=false->g ρ1=.ok (.bl b,om,ρ1)) (hd:d=om):AU f g ρ=.ok (.bl (a || b),om,ρ1):=by
 subst hd;unfold AU;rw [h];cases a with
 | true=>rfl
 | false=>exact h2 rfl
def DL {f g:Fx}{ρ ρ1 ρ2:Ag}{i j:Int}{d e:Nat} (h1:f ρ=.ok (.int i,d,ρ1)) (h2:g ρ1=.ok (.int j,e,ρ2)) (h:(-(2 ^ 64) < i/\i < 2 ^ 64)\/(-(2 ^ 64) < j/\j < 2 ^ 64)):Ab AV f g ρ=.ok (.int (i * j),om,ρ2):=by
 refine De h1 h2 ?_;show (if EH i j=true then _ else _)=_;rw [if_pos];unfold EH;rcases h with h | h
 ·rw [decide_eq_true h.1,decide_eq_true h.2];rfl
 ·rw [decide_eq_true h.1,decide_eq_true h.2];simp
def Cg {f g:Fx}{ρ ρ1 ρ2:Ag}{i j:Int}{d e:Nat} (h1:f ρ=.ok (.int i,d,ρ1)) (h2:g ρ1=.ok (.int j,e,ρ2)) (h:0 < j):Ab A4 f g ρ=.ok (.int (i % j),om,ρ2):=by
 refine De h1 h2 ?_;show (if Gh i j=true then _ else _)=_;rw [if_pos];exact decide_eq_true h
def CM {f g:Fx}{ρ ρ1 ρ2:Ag}{i j:Int}{d e:Nat} (h1:f ρ=.ok (.int i,d,ρ1)) (h2:g ρ1=.ok (.int j,e,ρ2)) (h:0 < j) (h':j < 2 ^ 128):Ab AH f g ρ=.ok (.int (i / j),om,ρ2):=by
 refine De h1 h2 ?_;show (if EI i j=true then _ else _)=_;rw [if_pos];unfold EI;rw [decide_eq_true h,decide_eq_true h'];rfl
def CC {f g:Fx}{ρ ρ1 ρ2:Ag}{i j:Int}{d e:Nat} (h1:f ρ=.ok (.int i,d,ρ1)) (h2:g ρ1=.ok (.int j,e,ρ2)):Ab AJ f g ρ=.ok (.int (i + j),om,ρ2):=De h1 h2 rfl
def FL {f g:Fx}{ρ ρ1 ρ2:Ag}{i j:Int}{d e:Nat} (h1:f ρ=.ok (.int i,d,ρ1)) (h2:g ρ1=.ok (.int j,e,ρ2)):Ab Ci f g ρ=.ok (.int (i - j),om,ρ2):=De h1 h2 rfl
def E2 {p:Int->Int->Bool}{f g:Fx}{ρ ρ1 ρ2:Ag}{i j:Int}{d e:Nat} (h1:f ρ=.ok (.int i,d,ρ1)) (h2:g ρ1=.ok (.int j,e,ρ2)):Ab (BH p) f g ρ=.ok (.bl (p i j),om,ρ2):=De h1 h2 rfl
def J2 {p q:Int->Int->Bool}{f g h:Fx}{ρ:Ag}{i j k:Int}{d e c:Nat} (h1:f ρ=.ok (.int i,d,ρ)) (h2:g ρ=.ok (.int j,e,ρ)) (h3:h ρ=.ok (.int k,c,ρ)):DK p q f g h ρ=.ok (.bl (p i j && q j k),om,ρ):=by
 unfold DK;rw [h1];dsimp only [Rz.bind];rw [h2];dsimp only;by_cases hp:p i j=true
 ·rw [if_pos hp,h3,hp];rfl
 ·rw [if_neg hp]
  have:p i j=false:=by simpa using hp
  rw [this];rfl
def ZY {neg:Bool}{i j:Int}{d e:Nat}:Am neg (.int i) d (.int j) e=some (.bl (neg^^decide (i=j)),om):=by
 show some (PV.bl (neg^^DU (.int i) (.int j)),om)=_
 have:DU (.int i) (.int j)=decide (i=j):=by
  show (i == j)=_;rfl
 rw [this]
def Ff {neg:Bool}{f g:Fx}{ρ ρ1 ρ2:Ag}{i j:Int}{d e:Nat} (h1:f ρ=.ok (.int i,d,ρ1)) (h2:g ρ1=.ok (.int j,e,ρ2)):Ab (Am neg) f g ρ=.ok (.bl (neg^^decide (i=j)),om,ρ2):=De h1 h2 ZY
def il (xs:List Int):PV:=.lst (xs.map .int)
def tb (t:List (List Int)):PV:=.lst (t.map il)
abbrev bx (a b c:Int):PV:=.tup [.int a,.int b,.int c]
def EX {α:Type}{xs:List α}{k:Int}{x:α} (h0:0<=k) (h:xs[k.toNat]?=some x):Bj xs k=some x:=by
 have hl:=(ja7.mp h).1;unfold Bj Bh;rw [if_pos h0,if_pos (by omega)];exact h
def Hn {f g:Fx}{ρ ρ1 ρ2:Ag}{xs:List Int}{k x:Int}{d e:Nat} (h1:f ρ=.ok (il xs,d,ρ1)) (h2:g ρ1=.ok (.int k,e,ρ2)) (h:Bj xs k=some x):Ab Ak f g ρ=.ok (.int x,om,ρ2):=by
 refine De h1 h2 ?_;show (Bj (xs.map PV.int) k).map _=_
 have:Bj (xs.map PV.int) k=some (.int x):=by
  unfold Bj at h ⊢;rw [A9];cases e:Bh xs.length k with
  | none=>rw [e] at h;cases h
  | some j=>
   rw [e] at h;have h':xs[j]?=some x:=h;show (xs.map PV.int)[j]?=_;rw [Cs,h'];rfl
 rw [this];rfl
def L7 {f g:Fx}{ρ ρ1 ρ2:Ag}{t:List (List Int)}{k:Int}{r:List Int}{d e:Nat} (h1:f ρ=.ok (tb t,d,ρ1)) (h2:g ρ1=.ok (.int k,e,ρ2)) (h:Bj t k=some r):Ab Ak f g ρ=.ok (il r,0,ρ2):=by
 refine De h1 h2 ?_;show (Bj (t.map il) k).map _=_
 have:Bj (t.map il) k=some (il r):=by
  unfold Bj at h ⊢;rw [A9];cases e:Bh t.length k with
  | none=>rw [e] at h;cases h
  | some j=>
   rw [e] at h;have h':t[j]?=some r:=h;show (t.map il)[j]?=_;rw [Cs,h'];rfl
 rw [this];rfl
def Oq {fa:Fa}{ρ ρ1:Ag}{xs:List Int}{d:Nat} (h:fa ρ=.ok ([(il xs,d)],ρ1)):Aj BM fa ρ=.ok (.int xs.length,om,ρ1):=by
 refine C5 h ?_;show some (PV.int ((xs.map PV.int).length:Nat),om)=_;rw [A9]
def R8 {fa:Fa}{ρ ρ1:Ag}{t:List (List Int)}{d:Nat} (h:fa ρ=.ok ([(tb t,d)],ρ1)):Aj BM fa ρ=.ok (.int t.length,om,ρ1):=by
 refine C5 h ?_;show some (PV.int ((t.map il).length:Nat),om)=_;rw [A9]
theorem L6 {α:Type}{n:Nat}{test:Fb}{elt:Fx}{enc q:α->PV}{e:α->Nat}{p:α->Bool}:∀ (xs:List α) (ρ:Ag) (acc:List (PV×Nat)),ρ.length=n->(∀ x∈xs,test (ρ++[some (enc x,dv (enc x))])=.ok (p x,ρ++[some (enc x,dv (enc x))])) ->
  (∀ x∈xs,p x=true->elt (ρ++[some (enc x,dv (enc x))])=.ok (q x,e x,ρ++[some (enc x,dv (enc x))]))->acc.length + xs.length<=An->BX 1 (asgN n) test elt (xs.map enc) ρ acc=.ok (acc++(xs.filter p).map (λ x=>(q x,e x)),ρ)
 | [],ρ,acc,_,_,_,_=>by simp [BX]
 | x::xs,ρ,acc,hn,ht,he,hl=>by
  have ea:asgN n (enc x) (ρ++A6 1 none)=some (ρ++[some (enc x,dv (enc x))]):=by
   unfold asgN;rw [if_pos (by rw [Bn,hn];simp),List.set_append_right _ _ (by omega),hn];simp
  have ih:=λ acc h=>L6 (n:=n) (test:=test) (elt:=elt) (p:=p) (q:=q) (e:=e) (enc:=enc) xs ρ acc hn (λ y hy=>ht y (AA _ hy)) (λ y hy=>he y (AA _ hy)) h;have tk:(ρ++[some (enc x,dv (enc x))]).take ρ.length=ρ:=by simp
  rw [BP] at hl;rw [C8];unfold BX;rw [ea];dsimp only;rw [ht x AI];dsimp only [Rz.bindN];cases hp:p x with
  | false=>
   rw [if_neg C2,tk,ih acc (by omega),T5 (by simp [hp])]
  | true=>
   rw [if_pos rfl,he x AI hp];dsimp only;rw [if_pos (by omega),tk,ih _ (by rw [Bn,Ia];omega),T4 hp];simp
theorem Jv {α:Type} (q:α->PV):∀ xs:List α,DM (xs.map λ x=>(q x,om))=true
 | []=>rfl
 | x::xs=>by rw [C8];unfold DM;rw [Jv q xs];rfl
def Iy {α:Type}{n:Nat}{f elt:Fx}{enc q:α->PV}{ρ ρ1:Ag}{d:Nat} (xs:List α) (hf:f ρ=.ok (.lst (xs.map enc),d,ρ1)) (hn:ρ1.length=n) (he:∀ x∈xs,elt (ρ1++[some (enc x,dv (enc x))])=.ok (q x,om,ρ1++[some (enc x,dv (enc x))])) (hl:xs.length<=An):
  CL f 1 (asgN n) Cv elt ρ=.ok (.lst (xs.map q),om,ρ1):=by
 unfold CL;rw [hf];dsimp only;rw [L6 (p:=λ _=>true) (q:=q) (e:=λ _=>om) xs ρ1 [] hn (λ _ _=>rfl) (λ x hx _=>he x hx) (by simpa using hl),jg6.mpr (λ _ _=>rfl)];show Dx (xs.map λ x=>(q x,om)) ρ1=_;unfold Dx;rw [Jv,Ja];rfl
def XR {α:Type}{n:Nat}{f elt:Fx}{enc q:α->PV}{ρ ρ1:Ag}{d:Nat} (xs:List α) (hf:f ρ=.ok (.tup (xs.map enc),d,ρ1)) (hn:ρ1.length=n) (he:∀ x∈xs,elt (ρ1++[some (enc x,dv (enc x))])=.ok (q x,om,ρ1++[some (enc x,dv (enc x))])) (hl:xs.length<=An):
  CL f 1 (asgN n) Cv elt ρ=.ok (.lst (xs.map q),om,ρ1):=by
 unfold CL;rw [hf];dsimp only;rw [L6 (p:=λ _=>true) (q:=q) (e:=λ _=>om) xs ρ1 [] hn (λ _ _=>rfl) (λ x hx _=>he x hx) (by simpa using hl),jg6.mpr (λ _ _=>rfl)];show Dx (xs.map λ x=>(q x,om)) ρ1=_;unfold Dx;rw [Jv,Ja];rfl
def Pt (lo:Int) (n:Nat):E6 lo n=(Bb n).map λ (k:Nat)=>PV.int (lo + (k:Int)):=rfl
def ML {n:Nat}{en:List (PV×Nat)->Option (Int×Int)}{fa:Fa}{elt:Fx}{q:Nat->PV}{ρ ρ1:Ag}{as:List (PV×Nat)}{lo hi:Int} (hf:fa ρ=.ok (as,ρ1)) (hen:en as=some (lo,hi)) (hn:ρ1.length=n) (he:∀ k,k < (hi - lo).toNat->elt (ρ1++[some (.int (lo + (k:Int)),om)])=.ok (q k,om,ρ1++[some (.int (lo + (k:Int)),om)])) (hl:(hi - lo).toNat<=An):
  Ek en fa 1 (asgN n) Cv elt ρ=.ok (.lst ((Bb (hi - lo).toNat).map q),om,ρ1):=by
 unfold Ek;rw [hf];dsimp only;rw [hen];dsimp only;rw [Pt,L6 (enc:=λ (k:Nat)=>PV.int (lo + (k:Int))) (p:=λ _=>true) (q:=q) (e:=λ _=>om) (Bb (hi - lo).toNat) ρ1 [] hn (λ _ _=>rfl) (λ x hx _=>he x (jd5.mp hx)) (by simpa using hl),jg6.mpr (λ _ _=>rfl)];show Dx ((Bb (hi - lo).toNat).map λ x=>(q x,om)) ρ1=_;unfold Dx;rw [Jv,Ja];rfl
theorem XG {α:Type} (g:α->Bool) (xs:List α):QQ.allB (xs.map λ x=>.bl (g x))=some (xs.map g):=by
 induction xs with
 | nil=>rfl
 | cons x r ih=>rw [C8,C8,QQ.allB,ih];rfl
def all_ok {α:Type}{f:Fx}{ρ ρ1:Ag}{d:Nat}{g:α->Bool}{xs:List α} (h:f ρ=.ok (.lst (xs.map λ x=>.bl (g x)),d,ρ1)):Aj DP (Ad f Ac) ρ=.ok (.bl (xs.all g),om,ρ1):=by
 refine C5 (AQ h) ?_;show (QQ.allB _).map _=_;rw [XG];simp
def FD {j:Int}{d:Nat} (h1:-(2 ^ 62)<=j) (h2:j < 2 ^ 62):BL [(.int j,d)]=some (0,j):=by
 show (if -(2 ^ 62)<=j/\j < 2 ^ 62 then some ((0:Int),j) else none)=_;rw [if_pos ⟨h1,h2⟩]
def XZ {i j:Int}{d e:Nat} (h1:-(2 ^ 62)<=i) (h2:i < 2 ^ 62) (h3:-(2 ^ 62)<=j) (h4:j < 2 ^ 62):EB [(.int i,d),(.int j,e)]=some (i,j):=by
 show (if -(2 ^ 62)<=i/\i < 2 ^ 62/\-(2 ^ 62)<=j/\j < 2 ^ 62 then some (i,j) else none)=_;rw [if_pos ⟨h1,h2,h3,h4⟩]
def C4 {np k:Nat}{b:Fs}{xs:List PV}{ρ':Ag}{y:PV}{d:Nat} (hl:xs.length=np) (h:b (xs.map (λ x=>some (x,dv x))++A6 k none)=.rt y d ρ'):Av false np k b xs=.ok (y,d,.non):=by
 unfold Av;rw [if_pos hl]
 have:Dw false xs=xs.map λ x=>some (x,dv x):=rfl
 rw [this,h];rfl
def Mo {np k:Nat}{b:Fs}{xs:List PV}{ρ':Ag} (hl:xs.length=np) (h:b (xs.map (λ x=>some (x,dv x))++A6 k none)=.nx ρ'):Av false np k b xs=.ok (.non,om,.non):=by
 unfold Av;rw [if_pos hl]
 have:Dw false xs=xs.map λ x=>some (x,dv x):=rfl
 rw [this,h];rfl
def Xf_is_whole_number:Fs:=(As (Cn (Au (EC "int") (Aa 0)) (Au BK (Au (EC "bool") (Aa 0)))))
def f_is_whole_number:Fn:=Av false 1 0 Xf_is_whole_number
def Xf_is_box:Fs:=(Af (A0 (bT (AU (Au BK (Au (EC "tuple") (Aa 0))) (Ab (Am true) (Aj BM (Ad (Aa 0) (Ac))) (bC (.int 3))))) (As (bC (.bl false))) Al)
 (As (Aj DP (Ad (CL (Aa 0) 1 (asgN 1) Cv (Cn (Aw f_is_whole_number (Ad (Aa 1) (Ac))) (Ab (BH λ i j=>decide (j<=i)) (Aa 1) (bC (.int 1))))) (Ac)))))
def f_is_box:Fn:=Av false 1 0 Xf_is_box
def Xf_must_be_box:Fs:=(A0 (bT (Au BK (Aw f_is_box (Ad (Aa 0) (Ac))))) (C6 1) Al)
def f_must_be_box:Fn:=Av false 1 0 Xf_must_be_box
def Xf_is_row_of_heights:Fs:=(Af (A0 (bT (AU (Au BK (Au (EC "list") (Aa 0))) (Ab (Am true) (Aj BM (Ad (Aa 0) (Ac))) (Aa 1)))) (As (bC (.bl false))) Al)
 (As (Aj DP (Ad (CL (Aa 0) 1 (asgN 3) Cv (Cn (Aw f_is_whole_number (Ad (Aa 3) (Ac))) (DK (λ i j=>decide (i<=j)) (λ i j=>decide (i<=j)) (bC (.int 0)) (Aa 3) (Aa 2)))) (Ac)))))
def f_is_row_of_heights:Fn:=Av false 3 0 Xf_is_row_of_heights
def Xf_never_rises:Fs:=(As (Aj DP (Ad (Ek EB (Ad (bC (.int 1)) (Ad (Aj BM (Ad (Aa 0) (Ac))) (Ac))) 1 (asgN 1) Cv (Ab (BH λ i j=>decide (i<=j)) (Ab Ak (Aa 0) (Aa 1)) (Ab Ak (Aa 0) (Ab Ci (Aa 1) (bC (.int 1)))))) (Ac))))
def f_never_rises:Fn:=Av false 1 0 Xf_never_rises
def Xf_column_of:Fs:=(As (CL (Aa 0) 1 (asgN 2) Cv (Ab Ak (Aa 2) (Aa 1))))
def f_column_of:Fn:=Av false 2 0 Xf_column_of
def Xf_is_pile:Fs:=(Af (Bz (Aw f_must_be_box (Ad (Aa 0) (Ac))))
 (Af (CQ (asgT [2,3,4]) (Aa 0) [0])
 (Af (A0 (bT (AU (Au BK (Au (EC "list") (Aa 1))) (Ab (Am true) (Aj BM (Ad (Aa 1) (Ac))) (Aa 2)))) (As (bC (.bl false))) Al)
 (Af (A0 (bT (Au BK (Aj DP (Ad (CL (Aa 1) 1 (asgN 5) Cv (Aw f_is_row_of_heights (Ad (Aa 5) (Ad (Aa 3) (Ad (Aa 4) (Ac)))))) (Ac))))) (As (bC (.bl false))) Al)
 (Af (A0 (bT (Au BK (Aj DP (Ad (CL (Aa 1) 1 (asgN 5) Cv (Aw f_never_rises (Ad (Aa 5) (Ac)))) (Ac))))) (As (bC (.bl false))) Al)
 (As (Aj DP (Ad (Ek BL (Ad (Aa 3) (Ac)) 1 (asgN 5) Cv (Aw f_never_rises (Ad (Aw f_column_of (Ad (Aa 1) (Ad (Aa 5) (Ac)))) (Ac)))) (Ac)))))))))
def f_is_pile:Fn:=Av false 2 3 Xf_is_pile
def Xf_must_be_pile:Fs:=(A0 (bT (Au BK (Aw f_is_pile (Ad (Aa 0) (Ad (Aa 1) (Ac)))))) (C6 2) Al)
def f_must_be_pile:Fn:=Av false 2 0 Xf_must_be_pile
def Xb_cell_at:Fs:=(Af (A0 (bT (Ab (BH λ i j=>decide (i < j)) (Aa 1) (Aj BM (Ad (Aa 0) (Ac))))) (As (Ab Ak (Aa 0) (Aa 1))) Al)
 (As (bC (.int 0))))
def b_cell_at:Fn:=Av false 2 0 Xb_cell_at
def Xf_must_be_two_piles:Fs:=(Af (Bz (Aw f_must_be_pile (Ad (Aa 0) (Ad (Aa 1) (Ac)))))
 (Bz (Aw f_must_be_pile (Ad (Aa 0) (Ad (Aa 2) (Ac))))))
def f_must_be_two_piles:Fn:=Av false 3 0 Xf_must_be_two_piles
def sz:(1000000:Nat)<=An:=by decide
def N1 (i:Int):f_is_whole_number [.int i]=.ok (.bl true,om,.non):=by kernel_rfl
def D6 (a b c:Int):Bool:=decide (1<=a) && (decide (1<=b) && decide (1<=c))
def Zh (a b c:Int):f_is_box [bx a b c]=.ok (.bl (D6 a b c),om,.non):=by
 have e0:∀ x∈[a,b,c],(Cn (Aw f_is_whole_number (Ad (Aa 1) (Ac))) (Ab (BH λ i j=>decide (j<=i)) (Aa 1) (bC (.int 1)))) ([some (bx a b c,0)]++[some (.int x,om)])=.ok (.bl (decide (1<=x)),om,[some (bx a b c,0)]++[some (.int x,om)]):=λ x _=>by kernel_rfl
 have e1:=XR (n:=1) (f:=Aa 0) (ρ:=[some (bx a b c,0)]) (enc:=PV.int) (q:=λ x=>.bl (decide (1<=x))) (d:=0) [a,b,c] rfl rfl e0 (by have:=sz;show 3<=An;omega);refine C4 rfl (ρ':=[some (bx a b c,0)]) ?_;show Xf_is_box [some (bx a b c,0)]=_;refine (Co (ρ1:=[some (bx a b c,0)]) (by kernel_rfl)).trans (Dg ?_);rw [all_ok e1];show Rz.ok (PV.bl (decide (1<=a) && (decide (1<=b) && (decide (1<=c) && true))),om,_)=_;rw [OG];rfl
def MJ {a b c:Int} (h:D6 a b c=true):f_must_be_box [bx a b c]=.ok (.non,om,.non):=by
 refine Mo rfl (ρ':=[some (bx a b c,0)]) ?_;have hb:=Zh a b c;rw [h] at hb;exact Bi (f:=C6 1) (g:=Al) (A5 (E4 (Bs (F:=f_is_box) (fa:=Ad (Aa 0) Ac) (ρ:=[some (bx a b c,0)]) (xs:=[(bx a b c,0)]) rfl hb)))
def Dj (xs:List Int) (c h:Int):Bool:=decide ((xs.length:Int)=c) && xs.all λ x=>decide (0<=x) && decide (x<=h)
def VC (xs:List Int) (c h:Int) (hl:xs.length<=1000):f_is_row_of_heights [il xs,.int c,.int h]=.ok (.bl (Dj xs c h),om,.non):=by
 have e0:∀ x∈xs,(Cn (Aw f_is_whole_number (Ad (Aa 3) (Ac))) (DK (λ i j=>decide (i<=j)) (λ i j=>decide (i<=j)) (bC (.int 0)) (Aa 3) (Aa 2))) ([some (il xs,0),some (.int c,om),some (.int h,om)]++[some (.int x,om)])=.ok (.bl (decide (0<=x) && decide (x<=h)),om,[some (il xs,0),some (.int c,om),some (.int h,om)]++[some (.int x,om)]):=λ x _=>
  FI (a:=true) (Bs (xs:=[(.int x,om)]) rfl (N1 x)) (λ _=>J2 (i:=0) (j:=x) (k:=h) rfl rfl rfl) rfl
 have e1:=Iy (n:=3) (f:=Aa 0) (ρ:=[some (il xs,0),some (.int c,om),some (.int h,om)]) (enc:=PV.int) (q:=λ x=>.bl (decide (0<=x) && decide (x<=h))) (d:=0) xs rfl rfl e0 (by have:=sz;omega);have t:bT (AU (Au BK (Au (EC "list") (Aa 0))) (Ab (Am true) (Aj BM (Ad (Aa 0) (Ac))) (Aa 1))) [some (il xs,0),some (.int c,om),some (.int h,om)]=.ok (!decide ((xs.length:Int)=c),[some (il xs,0),some (.int c,om),some (.int h,om)]):=by
  refine A5 (d:=om) ((FH (a:=false) rfl (λ _=>Ff (Oq (xs:=xs) (d:=0) rfl) (j:=c) rfl) rfl).trans ?_);rw [Kr,OE]
 refine C4 rfl (ρ':=[some (il xs,0),some (.int c,om),some (.int h,om)]) ?_;show Xf_is_row_of_heights [some (il xs,0),some (.int c,om),some (.int h,om)]=_;unfold Dj;by_cases hc:(xs.length:Int)=c
 ·rw [decide_eq_true hc] at t ⊢;refine (Co t).trans (Dg ?_);rw [all_ok e1];rfl
 ·rw [decide_eq_false hc] at t ⊢;exact D9 ((A7 t).trans rfl)
def Et (xs:List Int):Bool:=(Bb ((xs.length:Int) - 1).toNat).all λ k=>decide (xs.getD (k + 1) 0<=xs.getD k 0)
def PR (xs:List Int) (hl:xs.length<=1000):f_never_rises [il xs]=.ok (.bl (Et xs),om,.non):=by
 have e0:∀ k,k < ((xs.length:Int) - 1).toNat->(Ab (BH λ i j=>decide (i<=j)) (Ab Ak (Aa 0) (Aa 1)) (Ab Ak (Aa 0) (Ab Ci (Aa 1) (bC (.int 1))))) ([some (il xs,0)]++[some (.int (1 + (k:Int)),om)])=.ok (.bl (decide (xs.getD (k + 1) 0<=xs.getD k 0)),om,[some (il xs,0)]++[some (.int (1 + (k:Int)),om)]):=λ k hk=>by
  refine E2 (i:=xs.getD (k + 1) 0) (j:=xs.getD k 0) (Hn (xs:=xs) (k:=1 + (k:Int)) rfl rfl (EX (by omega) ?_)) (Hn (xs:=xs) (k:=1 + (k:Int) - 1) rfl rfl (EX (by omega) ?_))
  ·rw [show (1 + (k:Int)).toNat=k + 1 by omega,Dn (show k + 1 < xs.length by omega),BR,Dn (show k + 1 < xs.length by omega)];rfl
  ·rw [show (1 + (k:Int) - 1).toNat=k by omega,Dn (show k < xs.length by omega),BR,Dn (show k < xs.length by omega)];rfl
 have e1:=ML (n:=1) (en:=EB) (ρ:=[some (il xs,0)]) (q:=λ k=>.bl (decide (xs.getD (k + 1) 0<=xs.getD k 0))) (A1 (f:=bC (.int 1)) (d:=om) (x:=.int 1) rfl (AQ (Oq (fa:=Ad (Aa 0) Ac) (xs:=xs) (d:=0) rfl))) (XZ (by decide) (by decide) (by omega) (by omega)) rfl e0 (by have:=sz;omega);exact C4 rfl (ρ':=[some (il xs,0)]) (Dg (all_ok e1))
def E9 (t:List (List Int)) (j:Nat):List Int:=t.map λ r=>r.getD j 0
def J5 {xs:List Int}{j:Nat} (h:j < xs.length):xs[j]?=some (xs.getD j 0):=by
 rw [BR,Dn h];rfl
def He {xs:List (List Int)}{j:Nat} (h:j < xs.length):xs[j]?=some (xs.getD j []):=by
 rw [BR,Dn h];rfl
def YL (t:List (List Int)) (j:Nat) (hl:t.length<=1000) (hr:∀ r∈t,j < r.length):f_column_of [tb t,.int (j:Int)]=.ok (il (E9 t j),om,.non):=by
 have e0:∀ r∈t,(Ab Ak (Aa 2) (Aa 1)) ([some (tb t,0),some (.int (j:Int),om)]++[some (il r,0)])=.ok (.int (r.getD j 0),om,[some (tb t,0),some (.int (j:Int),om)]++[some (il r,0)]):=λ r hm=>
  Hn (xs:=r) (k:=(j:Int)) rfl rfl (EX (by omega) (J5 (hr r hm)))
 have e1:=Iy (n:=2) (f:=Aa 0) (ρ:=[some (tb t,0),some (.int (j:Int),om)]) (enc:=il) (q:=λ r=>.int (r.getD j 0)) (d:=0) t rfl rfl e0 (by have:=sz;omega);refine C4 rfl (ρ':=[some (tb t,0),some (.int (j:Int),om)]) ((Dg e1).trans ?_);unfold E9 il;rw [Ja];rfl
def Tab (a b:Nat) (t:List (List Int)):Prop:=t.length=a/\∀ r∈t,r.length=b
def IU (a b:Nat) (c:Int) (t:List (List Int)):Bool:=(t.all λ r=>Dj r b c) && ((t.all Et) && ((Bb b).all λ j=>Et (E9 t j)))
theorem Qx {a b:Nat}{c:Int}{t:List (List Int)} (ht:Tab a b t) (ha:1<=a/\a<=100) (hb:1<=b/\b<=100) (hc:1<=c):f_is_pile [bx a b c,tb t]=.ok (.bl (IU a b c t),om,.non):=by
 let R0:Ag:=[some (bx a b c,0),some (tb t,0),none,none,none]
 let R1:Ag:=[some (bx a b c,0),some (tb t,0),some (.int a,om),some (.int b,om),some (.int c,om)]
 have hbx:D6 a b c=true:=by unfold D6;rw [decide_eq_true (by omega),decide_eq_true (by omega),decide_eq_true hc];rfl
 have hs:=sz;have l1:=ht.1;have s1:Bz (Aw f_must_be_box (Ad (Aa 0) (Ac))) R0=.nx R0:=Hi (Bs (xs:=[(bx a b c,0)]) rfl (MJ hbx));have s2:CQ (asgT [2,3,4]) (Aa 0) [0] R0=.nx R1:=by kernel_rfl
 have t3:bT (AU (Au BK (Au (EC "list") (Aa 1))) (Ab (Am true) (Aj BM (Ad (Aa 1) (Ac))) (Aa 2))) R1=.ok (false,R1):=by
  refine A5 (d:=om) ((FH (a:=false) rfl (λ _=>Ff (R8 (t:=t) (d:=0) rfl) (j:=(a:Int)) rfl) rfl).trans ?_);rw [l1];simp
 have e4:∀ r∈t,(Aw f_is_row_of_heights (Ad (Aa 5) (Ad (Aa 3) (Ad (Aa 4) (Ac))))) (R1++[some (il r,0)])=.ok (.bl (Dj r b c),om,R1++[some (il r,0)]):=λ r hr=>
  Bs (xs:=[(il r,0),(.int b,om),(.int c,om)]) rfl (VC r b c (by rw [ht.2 r hr];omega))
 have t4:=A5 (E4 (all_ok (Iy (n:=5) (f:=Aa 1) (ρ:=R1) (enc:=il) (q:=λ r=>.bl (Dj r b c)) (d:=0) t rfl rfl e4 (by omega))));have e5:∀ r∈t,(Aw f_never_rises (Ad (Aa 5) (Ac))) (R1++[some (il r,0)])=.ok (.bl (Et r),om,R1++[some (il r,0)]):=λ r hr=>
  Bs (xs:=[(il r,0)]) rfl (PR r (by rw [ht.2 r hr];omega))
 have t5:=A5 (E4 (all_ok (Iy (n:=5) (f:=Aa 1) (ρ:=R1) (enc:=il) (q:=λ r=>.bl (Et r)) (d:=0) t rfl rfl e5 (by omega))));have e6:∀ k,k < ((b:Int) - 0).toNat->(Aw f_never_rises (Ad (Aw f_column_of (Ad (Aa 1) (Ad (Aa 5) (Ac)))) (Ac))) (R1++[some (.int (0 + (k:Int)),om)])=.ok (.bl (Et (E9 t k)),om,R1++[some (.int (0 + (k:Int)),om)]):=λ k hk=>by
  have e:=YL t k (by omega) λ r hr=>by rw [ht.2 r hr];omega
  rw [Ta];exact Bs (xs:=[(il (E9 t k),om)]) (AQ (Bs (xs:=[(tb t,0),(.int (k:Int),om)]) rfl e)) (PR _ (by unfold E9;rw [A9];omega))
 have e7:=ML (n:=5) (en:=BL) (fa:=Ad (Aa 3) Ac) (ρ:=R1) (q:=λ k=>.bl (Et (E9 t k))) (as:=[(.int (b:Int),om)]) rfl (FD (by omega) (by omega)) rfl e6 (by omega);rw [show ((b:Int) - 0).toNat=b by omega] at e7;refine C4 rfl (ρ':=R1) ?_;show Xf_is_pile R0=_;unfold IU;refine (AD s1).trans ((AD s2).trans ((Co t3).trans ?_));cases h1:t.all λ r=>Dj r b c with
 | false=>
  rw [h1] at t4;exact D9 ((A7 t4).trans rfl)
 | true=>
  rw [h1] at t4;refine (Co t4).trans ?_;cases h2:t.all Et with
  | false=>
   have h2':t.all (λ r=>Et r)=false:=h2;rw [h2'] at t5;exact D9 ((A7 t5).trans rfl)
  | true=>
   have h2':t.all (λ r=>Et r)=true:=h2;rw [h2'] at t5;exact (Co t5).trans (Dg (all_ok e7))
def Ud {a b:Nat}{c:Int}{t:List (List Int)} (ht:Tab a b t) (ha:1<=a/\a<=100) (hb:1<=b/\b<=100) (hc:1<=c) (h:IU a b c t=true):f_must_be_pile [bx a b c,tb t]=.ok (.non,om,.non):=by
 refine Mo rfl (ρ':=[some (bx a b c,0),some (tb t,0)]) ?_;have hp:=Qx ht ha hb hc;rw [h] at hp;exact Bi (f:=C6 2) (g:=Al) (A5 (E4 (Bs (F:=f_is_pile) (fa:=Ad (Aa 0) (Ad (Aa 1) Ac)) (ρ:=[some (bx a b c,0),some (tb t,0)]) (xs:=[(bx a b c,0),(tb t,0)]) rfl hp)))
def g (t:List (List Int)) (i j:Nat):Int:=(t.getD i []).getD j 0
structure Pile (a b:Nat) (c:Int) (t:List (List Int)):Prop where
 tab:Tab a b t
 lo:∀ i j,i < a->j < b->0<=g t i j
 hi:∀ i j,i < a->j < b->g t i j<=c
 dn:∀ i j,i + 1 < a->j < b->g t (i + 1) j<=g t i j
 rt:∀ i j,i < a->j + 1 < b->g t i (j + 1)<=g t i j
def Nt {t:List (List Int)}{i:Nat} (h:i < t.length):t.getD i []∈t:=by
 rw [BR,Dn h];exact HY h
def Tab.row {a b:Nat}{t:List (List Int)} (h:Tab a b t) {i:Nat} (hi:i < a):(t.getD i []).length=b:=h.2 _ (Nt (by rw [h.1];exact hi))
def Yc {xs:List Int}{i:Nat} (h:i < xs.length):xs.getD i 0∈xs:=by
 rw [BR,Dn h];exact HY h
def Y9 {xs:List Int}{x:Int} (h:x∈xs):∃ i,i < xs.length/\xs.getD i 0=x:=by
 obtain ⟨i,hi,e⟩:=Ji h;exact ⟨i,hi,by rw [BR,Dn hi];exact e⟩
def Pn {t:List (List Int)}{r:List Int} (h:r∈t):∃ i,i < t.length/\t.getD i []=r:=by
 obtain ⟨i,hi,e⟩:=Ji h;exact ⟨i,hi,by rw [BR,Dn hi];exact e⟩
def zhe {xs:List Int}{c h:Int}:Dj xs c h=true↔(xs.length:Int)=c/\∀ x∈xs,0<=x/\x<=h:=by
 unfold Dj;rw [AL,decide_eq_true_iff,jc4];constructor
 ·rintro ⟨h1,h2⟩;refine ⟨h1,λ x hx=>?_⟩
  have:=h2 x hx
  rw [AL,decide_eq_true_iff,decide_eq_true_iff] at this;exact this
 ·rintro ⟨h1,h2⟩;refine ⟨h1,λ x hx=>?_⟩;rw [AL,decide_eq_true_iff,decide_eq_true_iff];exact h2 x hx
def zpk {xs:List Int}:Et xs=true↔∀ k,k + 1 < xs.length->xs.getD (k + 1) 0<=xs.getD k 0:=by
 unfold Et;rw [jc4];constructor
 ·intro h k hk;exact of_decide_eq_true (h k (jd5.mpr (by omega)))
 ·intro h k hk
  have:=jd5.mp hk
  exact decide_eq_true (h k (by omega))
def Lk {t:List (List Int)}{i j:Nat} (h:i < t.length):(E9 t j).getD i 0=g t i j:=by
 unfold E9 g;rw [BR,Cs,Dn h,BR (l:=t),Dn h];rfl
def RU {t:List (List Int)}{j:Nat}:(E9 t j).length=t.length:=by unfold E9;rw [A9]
def Pr {a b:Nat}{c:Int}{t:List (List Int)} (ht:Tab a b t):IU a b c t=true↔Pile a b c t:=by
 unfold IU;rw [AL,AL,jc4,jc4,jc4];constructor
 ·rintro ⟨h1,h2,h3⟩;have q:∀ i j,i < a->j < b->0<=g t i j/\g t i j<=c:=λ i j hi hj=>(zhe.mp (h1 _ (Nt (by rw [ht.1];exact hi)))).2 _ (Yc (by rw [ht.row hi];exact hj));refine ⟨ht,λ i j hi hj=>(q i j hi hj).1,λ i j hi hj=>(q i j hi hj).2,λ i j hi hj=>?_,λ i j hi hj=>?_⟩
  ·have:=zpk.mp (h3 j (jd5.mpr hj)) i (by rw [RU,ht.1];exact hi)
   rw [Lk (by rw [ht.1];exact hi),Lk (by rw [ht.1];omega)] at this;exact this
  ·exact zpk.mp (h2 _ (Nt (by rw [ht.1];exact hi))) j (by rw [ht.row hi];exact hj)
 ·intro p;refine ⟨λ r hr=>zhe.mpr ⟨by rw [ht.2 r hr],λ x hx=>?_⟩,λ r hr=>zpk.mpr λ k hk=>?_,λ j hj=>zpk.mpr λ k hk=>?_⟩
  ·obtain ⟨i,hi,rfl⟩:=Pn hr;obtain ⟨j,hj,rfl⟩:=Y9 hx;have hi':i < a:=by rw [<- ht.1];exact hi
   rw [ht.row hi'] at hj;exact ⟨p.lo i j hi' hj,p.hi i j hi' hj⟩
  ·obtain ⟨i,hi,rfl⟩:=Pn hr;have hi':i < a:=by rw [<- ht.1];exact hi
   rw [ht.row hi'] at hk;exact p.rt i k hi' hk
  ·rw [RU,ht.1] at hk;rw [Lk (by rw [ht.1];exact hk),Lk (by rw [ht.1];omega)];exact p.dn k j hk (jd5.mp hj)
def Eu (a b:Nat) (f:Nat->Nat->Int):List (List Int):=(Bb a).map λ i=>(Bb b).map λ j=>f i j
def WC {a b:Nat}{f:Nat->Nat->Int}:Tab a b (Eu a b f):=by
 refine ⟨by unfold Eu;rw [A9,Kw],λ r hr=>?_⟩;obtain ⟨i,_,rfl⟩:=je0.mp hr;rw [A9,Kw]
def WA {b j:Nat}{f:Nat->Int} (hj:j < b):((Bb b).map f).getD j 0=f j:=by
 rw [BR,Cs,OP hj];rfl
def WB {a i:Nat}{f:Nat->List Int} (hi:i < a):((Bb a).map f).getD i []=f i:=by
 rw [BR,Cs,OP hi];rfl
def Sk {a b i j:Nat}{f:Nat->Nat->Int} (hi:i < a) (hj:j < b):g (Eu a b f) i j=f i j:=by
 unfold g Eu;rw [WB hi,WA hj]
def Nr (r:List Int):Prop:=∀ k,k + 1 < r.length->r.getD (k + 1) 0<=r.getD k 0
def P4 {α:Type}{xs:List α}{i:Nat}{x d:α} (h:i < xs.length):(xs.set i x).getD i d=x:=by
 rw [BR,CH h];rfl
def Pl {α:Type}{xs:List α}{i j:Nat}{x d:α} (h:i≠j):(xs.set i x).getD j d=xs.getD j d:=by
 rw [BR,BJ h,BR]
def W4 {f h:Fx}{ρ ρ1 ρ2:Ag}{xs:List Int}{k x:Int}{d e:Nat} (h1:f ρ=.ok (.scr xs,d,ρ1)) (h2:h ρ1=.ok (.int k,e,ρ2)) (hx:Bj xs k=some x):Ab Ak f h ρ=.ok (.int x,om,ρ2):=by
 refine De h1 h2 ?_;show (Bj xs k).map _=_;rw [hx];rfl
def WN (ns:List Int) (k:Nat):b_cell_at [.scr ns,.int (k:Int)]=.ok (.int (ns.getD k 0),om,.non):=by
 let R:Ag:=[some (.scr ns,om),some (.int (k:Int),om)]
 have t1:bT (Ab (BH λ i j=>decide (i < j)) (Aa 1) (Aj BM (Ad (Aa 0) (Ac)))) R=.ok (decide ((k:Int) < (ns.length:Int)),R):=rfl;refine C4 rfl (ρ':=R) ?_;by_cases h:(k:Int) < (ns.length:Int)
 ·rw [decide_eq_true h] at t1;exact D9 ((A7 t1).trans (Dg (W4 (xs:=ns) (k:=(k:Int)) (d:=om) rfl rfl (EX (by omega) (J5 (by omega))))))
 ·rw [decide_eq_false h] at t1;refine (Co t1).trans ((Dg (d:=om) rfl).trans ?_);rw [BR,K0 (by omega)];rfl
def W5 (xs:List Int) (x:Int):PV.lst (xs.map PV.int++[.int x])=il (xs++[x]):=by unfold il;rw [Ks];rfl
def Fh (c:Int) (t:List (List Int)) (j:Nat):Int:=if t.length=0 then c else g t (t.length - 1) j
def Y1 {t:List (List Int)}{r:List Int}{i:Nat}:(t++[r]).getD i []=if i < t.length then t.getD i [] else if i=t.length then r else []:=by
 by_cases h:i < t.length
 ·rw [if_pos h,BR,CU h,BR]
 ·rw [if_neg h];by_cases h2:i=t.length
  ·rw [if_pos h2,h2,BR,T8];rfl
  ·rw [if_neg h2,BR,K0 (by rw [Bn,Ia];omega)];rfl
def Nw {r:List Int}{x:Int}{i:Nat}:(r++[x]).getD i 0=if i < r.length then r.getD i 0 else if i=r.length then x else 0:=by
 by_cases h:i < r.length
 ·rw [if_pos h,BR,CU h,BR]
 ·rw [if_neg h];by_cases h2:i=r.length
  ·rw [if_pos h2,h2,BR,T8];rfl
  ·rw [if_neg h2,BR,K0 (by rw [Bn,Ia];omega)];rfl
def Pile.snoc {k b:Nat}{c:Int}{t:List (List Int)}{r:List Int} (p:Pile k b c t) (hr:r.length=b) (h:∀ y,y < b->0<=r.getD y 0/\r.getD y 0<=Fh c t y) (hn:Nr r):Pile (k + 1) b c (t++[r]):=by
 have l:=p.tab.1;have e:∀ i j,g (t++[r]) i j=if i < k then g t i j else if i=k then r.getD j 0 else 0:=λ i j=>by
  unfold g;rw [Y1,l];split
  ·rfl
  ·split <;> rfl
 have u:∀ y,y < b->Fh c t y<=c:=λ y hy=>by
  unfold Fh;split
  ·exact Kp _
  ·exact p.hi _ _ (by omega) hy
 refine ⟨⟨by rw [Bn,l];rfl,λ x hx=>?_⟩,λ i j hi hj=>?_,λ i j hi hj=>?_,λ i j hi hj=>?_,λ i j hi hj=>?_⟩
 ·rcases jb8.mp hx with z | z
  ·exact p.tab.2 x z
  ·rw [jb6.mp z,hr]
 ·rw [e];by_cases z:i < k
  ·rw [if_pos z];exact p.lo i j z hj
  ·rw [if_neg z,if_pos (by omega)];exact (h j hj).1
 ·rw [e];by_cases z:i < k
  ·rw [if_pos z];exact p.hi i j z hj
  ·rw [if_neg z,if_pos (by omega)];exact M4 (h j hj).2 (u j hj)
 ·rw [e,e];by_cases z:i + 1 < k
  ·rw [if_pos z,if_pos (by omega)];exact p.dn i j z hj
  ·rw [if_neg z,if_pos (by omega),if_pos (by omega)]
   have:=(h j hj).2
   unfold Fh at this;rw [if_neg (by omega),l,show k - 1=i by omega] at this;exact this
 ·rw [e,e];by_cases z:i < k
  ·rw [if_pos z,if_pos z];exact p.rt i j z hj
  ·rw [if_neg z,if_neg z,if_pos (by omega),if_pos (by omega)];exact hn j (by rw [hr];exact hj)
theorem Qg:∀ xs:List Int,E7 (xs.map PV.int)=true
 | []=>rfl
 | x::xs=>by rw [C8,E7,Qg xs];rfl
def Rp (xs:List Int):d1 (xs.map PV.int)=om:=by unfold d1;rw [Qg];rfl
def W9 {f:Fx}{ρ ρ1:Ag}{xs:List Int}{d:Nat} (h:f ρ=.ok (il xs,d,ρ1)):Aj IJ (Ad f Ac) ρ=.ok (il xs,om,ρ1):=by
 refine C5 (AQ h) ?_;show some (PV.lst (xs.map PV.int),d1 (xs.map PV.int))=_;rw [Rp];rfl
def Lx {t:List (List Int)}{i j:Nat}{v:Int} (hi:i < t.length) (hj:j < (t.getD i []).length):Cr (tb t) (i:Int) (j:Int) (.int v)=some (tb (t.set i ((t.getD i []).set j v))):=by
 unfold Cr tb;dsimp only;have e1:Bh (t.map il).length (i:Int)=some i:=by
  unfold Bh;rw [A9,if_pos (by omega),if_pos (by omega)];rfl
 have e2:(t.map il)[i]?=some (.lst ((t.getD i []).map PV.int)):=by
  rw [Cs,He hi];rfl
 have e3:Bh ((t.getD i []).map PV.int).length (j:Int)=some j:=by
  unfold Bh;rw [A9,if_pos (by omega),if_pos (by omega)];rfl
 rw [e1];dsimp only;rw [e2];dsimp only;rw [e3];dsimp only;rw [M3];unfold il;rw [M3]
def J9 {f h k:Fx}{ρ ρ1 ρ2 ρ3:Ag}{t:List (List Int)}{a b i j:Nat}{d e e':Nat} (ht:Tab a b t) (h1:f ρ=.ok (tb t,d,ρ1)) (h2:h ρ1=.ok (.int (i:Int),e,ρ2)) (h3:k ρ2=.ok (.int (j:Int),e',ρ3)) (hi:i < a) (hj:j < b):Ab Ak (Ab Ak f h) k ρ=.ok (.int (g t i j),om,ρ3):=
 Hn (xs:=t.getD i []) (k:=(j:Int)) (L7 (t:=t) (k:=(i:Int)) h1 h2 (EX (by omega) (He (by rw [EN,ht.1];exact hi)))) h3 (EX (by omega) (J5 (by rw [EN,ht.row hi];exact hj)))
theorem Qm {α:Type}{k:Nat}{asg:PV->Ag->Option Ag}{test:Fb}{elt:Fx}{enc q:α->PV}{E:α->Ag}{e:α->Nat}{p:α->Bool}:∀ (xs:List α) (ρ:Ag) (acc:List (PV×Nat)),(∀ x∈xs,asg (enc x) (ρ++A6 k none)=some (ρ++E x)) ->
  (∀ x∈xs,test (ρ++E x)=.ok (p x,ρ++E x))->(∀ x∈xs,p x=true->elt (ρ++E x)=.ok (q x,e x,ρ++E x))->acc.length + xs.length<=An->BX k asg test elt (xs.map enc) ρ acc=.ok (acc++(xs.filter p).map (λ x=>(q x,e x)),ρ)
 | [],ρ,acc,_,_,_,_=>by simp [BX]
 | x::xs,ρ,acc,ha,ht,he,hl=>by
  have ih:=λ acc h=>Qm (k:=k) (asg:=asg) (test:=test) (elt:=elt) (p:=p) (q:=q) (e:=e) (enc:=enc) (E:=E) xs ρ acc (λ y hy=>ha y (AA _ hy)) (λ y hy=>ht y (AA _ hy)) (λ y hy=>he y (AA _ hy)) h;have tk:(ρ++E x).take ρ.length=ρ:=by simp
  rw [BP] at hl;rw [C8];unfold BX;rw [ha x AI];dsimp only;rw [ht x AI];dsimp only [Rz.bindN];cases hp:p x with
  | false=>rw [if_neg C2,tk,ih acc (by omega),T5 (by simp [hp])]
  | true=>
   rw [if_pos rfl,he x AI hp];dsimp only;rw [if_pos (by omega),tk,ih _ (by rw [Bn,Ia];omega),T4 hp];simp
def YY {α:Type}{q:α->PV}{xs:List α}{ρ:Ag}:Dx ([]++xs.map λ x=>(q x,om)) ρ=.ok (.lst (xs.map q),om,ρ):=by
 rw [Ku];unfold Dx;rw [Jv,Ja];rfl
def Ro {α:Type}{k:Nat}{f:Fx}{asg:PV->Ag->Option Ag}{test:Fb}{elt:Fx}{enc q:α->PV}{E:α->Ag}{p:α->Bool}{ρ ρ1:Ag}{d:Nat} (xs:List α) (hf:f ρ=.ok (.lst (xs.map enc),d,ρ1)) (ha:∀ x∈xs,asg (enc x) (ρ1++A6 k none)=some (ρ1++E x))
  (ht:∀ x∈xs,test (ρ1++E x)=.ok (p x,ρ1++E x)) (he:∀ x∈xs,p x=true->elt (ρ1++E x)=.ok (q x,om,ρ1++E x)) (hl:xs.length<=An):CL f k asg test elt ρ=.ok (.lst ((xs.filter p).map q),om,ρ1):=by
 unfold CL;rw [hf];dsimp only;rw [Qm (p:=p) (q:=q) (e:=λ _=>om) xs ρ1 [] ha ht he (by simpa using hl)];exact YY
def Sb {f:Fx}{vs:List Nat}{asg:PV->Ag->Option Ag}{body:Fs}{ρ ρ1 ρ2:Ag}{r:Rs}{els:List PV}{d:Nat} (hf:f ρ=.ok (.lst els,d,ρ1)) (ec:Bk d vs ρ1=ρ2) (h:BQ asg body els ρ2=r):El f vs asg body ρ=r:=by
 unfold El;rw [hf];dsimp only;rw [ec,h]
def Hk {en:List (PV×Nat)->Option (Int×Int)}{fa:Fa}{asg:PV->Ag->Option Ag}{body:Fs}{ρ ρ1:Ag}{r:Rs}{as:List (PV×Nat)}{n:Nat} (hf:fa ρ=.ok (as,ρ1)) (hen:en as=some (0,(n:Int))) (h:BQ asg body ((Bb n).map λ (k:Nat)=>.int (k:Int)) ρ1=r):CK en fa asg body ρ=r:=by
 unfold CK;rw [hf];dsimp only;rw [hen];dsimp only;rw [Pt,show ((n:Int) - 0).toNat=n by omega,<- h];congr 2;funext k;rw [Ta]
end QV
namespace K34
open PySem PySem.Spec PyProof.Rows L2 QQ
abbrev GT:=List (Str×(Bool×Nat×Fn))
abbrev mS (N:List Str) (t:Stmt) (m:List Nat) (G:GT):Sx:=⟨N,A2 t,m,[],G,[],true,[0,1,2,3,4,5,6,7,8,9,10,11],[]⟩
def G0:GT:=[]
def S0:Sx:=⟨["thing"],A2 t0,[],[],G0,[],true,[0,1,2,6,7],[]⟩
abbrev b0:Fs:=QV.Xf_is_whole_number
abbrev F0:Fn:=QV.f_is_whole_number
def h0:Bo (AF 60 S0) (Bp t0)=some b0:=by kernel_rfl
def G1:GT:=[("is_whole_number",(false,1,F0))]
def S1:Sx:=⟨["thing"],A2 t1,[],[],G1,[],true,[0,1,2,6,7],[]⟩
abbrev b1:Fs:=QV.Xf_is_box
abbrev F1:Fn:=QV.f_is_box
def h1:Bo (AF 60 S1) (Bp t1)=some b1:=by kernel_rfl
def G2:GT:=[("is_box",(false,1,F1))]
def S2:Sx:=⟨["box"],A2 t2,[],[],G2,[],true,[0,1,2,6,7],[]⟩
abbrev b2:Fs:=QV.Xf_must_be_box
abbrev F2:Fn:=QV.f_must_be_box
def h2:Bo (AF 60 S2) (Bp t2)=some b2:=by kernel_rfl
def G3:GT:=[("is_whole_number",(false,1,F0))]
def S3:Sx:=⟨["thing","columns","height"],A2 t3,[],[],G3,[],true,[0,1,2,6,7],[]⟩
abbrev b3:Fs:=QV.Xf_is_row_of_heights
abbrev F3:Fn:=QV.f_is_row_of_heights
def h3:Bo (AF 60 S3) (Bp t3)=some b3:=by kernel_rfl
def G4:GT:=[]
def S4:Sx:=⟨["numbers"],A2 t4,[],[],G4,[],true,[0,1,2,6,7],[]⟩
abbrev b4:Fs:=QV.Xf_never_rises
abbrev F4:Fn:=QV.f_never_rises
def h4:Bo (AF 60 S4) (Bp t4)=some b4:=by kernel_rfl
def G5:GT:=[]
def S5:Sx:=⟨["table","j"],A2 t5,[],[],G5,[],true,[0,1,2,6,7],[]⟩
abbrev b5:Fs:=QV.Xf_column_of
abbrev F5:Fn:=QV.f_column_of
def h5:Bo (AF 60 S5) (Bp t5)=some b5:=by kernel_rfl
def G6:GT:=[("must_be_box",(false,1,F2)),("is_row_of_heights",(false,3,F3)),("never_rises",(false,1,F4)),("column_of",(false,2,F5))]
def S6:Sx:=⟨["box","thing","rows","columns","height"],A2 t6,[],[],G6,[],true,[0,1,2,6,7],[]⟩
abbrev b6:Fs:=QV.Xf_is_pile
abbrev F6:Fn:=QV.f_is_pile
def h6:Bo (AF 60 S6) (Bp t6)=some b6:=by kernel_rfl
def G7:GT:=[("is_pile",(false,2,F6))]
def S7:Sx:=⟨["box","pile"],A2 t7,[],[],G7,[],true,[0,1,2,6,7],[]⟩
abbrev b7:Fs:=QV.Xf_must_be_pile
abbrev F7:Fn:=QV.f_must_be_pile
def h7:Bo (AF 60 S7) (Bp t7)=some b7:=by kernel_rfl
def G8:GT:=[("must_be_pile",(false,2,F7))]
def S8:Sx:=⟨["box","pile","other"],A2 t8,[],[],G8,[],true,[0,1,2,6,7],[]⟩
abbrev b8:Fs:=QV.Xf_must_be_two_piles
abbrev F8:Fn:=QV.f_must_be_two_piles
def h8:Bo (AF 60 S8) (Bp t8)=some b8:=by kernel_rfl
def G9:GT:=[("is_whole_number",(false,1,F0))]
def S9:Sx:=⟨["box","i","j"],A2 t9,[],[],G9,[],true,[0,1,2,6,7],[]⟩
def b9:Fs:=(Af (A0 (bT (AU (Au BK (Aw F0 (Ad (Aa 1) (Ac)))) (Au BK (Aw F0 (Ad (Aa 2) (Ac)))))) (As (bC (.bl false))) Al)
 (As (Cn (DK (λ i j=>decide (i<=j)) (λ i j=>decide (i < j)) (bC (.int 0)) (Aa 1) (Ab Ak (Aa 0) (bC (.int 0)))) (DK (λ i j=>decide (i<=j)) (λ i j=>decide (i < j)) (bC (.int 0)) (Aa 2) (Ab Ak (Aa 0) (bC (.int 1)))))))
def F9:Fn:=Av false 3 0 b9
def h9:Bo (AF 60 S9) (Bp t9)=some b9:=by kernel_rfl
def qF:GT:=[("must_be_two_piles",(false,3,F8))]
def S10:Sx:=⟨["box","low","high"],A2 Mj,[],[],qF,[],true,[0,1,2,6,7],[]⟩
def TR:Fs:=(Af (Bz (Aw F8 (Ad (Aa 0) (Ad (Aa 1) (Ad (Aa 2) (Ac))))))
 Ep)
def KQ:Fn:=Av false 3 0 TR
def ZX:Bo (AF 60 S10) (Bp Mj)=some TR:=by kernel_rfl
def qE:GT:=[("is_whole_number",(false,1,F0)),("must_be_two_piles",(false,3,F8))]
def S11:Sx:=⟨["box","low","high","number","pile","ahead","left","table","found"],A2 Mi,[],[],qE,[],true,[0,1,2,6,7],[]⟩
def TQ:Fs:=(Af (Bz (Aw F8 (Ad (Aa 0) (Ad (Aa 1) (Ad (Aa 2) (Ac))))))
 (Af (A0 (bT (AU (Au BK (Aw F0 (Ad (Aa 3) (Ac)))) (Ab (BH λ i j=>decide (i < j)) (Aa 3) (bC (.int 0))))) (C6 6) Al)
 (Af (Ai false 4 (Aj AM (Ac)) [])
 (Af (Ai false 5 (Ab AV (Aj AM (Ad (Ab Ak (Aa 0) (bC (.int 2))) (Ac))) (Ab Ak (Aa 0) (bC (.int 1)))) [0,0])
 (Af (Ai false 6 (Aa 3) [3])
 (Af Ep
 (CZ 4)))))))
def KP:Fn:=Av false 4 5 TQ
def ZW:Bo (AF 60 S11) (Bp Mi)=some TQ:=by kernel_rfl
def qD:GT:=[("must_be_pile",(false,2,F7)),("must_be_two_piles",(false,3,F8))]
def S12:Sx:=⟨["box","low","high","pile","number","ahead","table","row"],A2 Mh,[],[],qD,[],true,[0,1,2,6,7],[]⟩
def TN:Fs:=(Af (Bz (Aw F8 (Ad (Aa 0) (Ad (Aa 1) (Ad (Aa 2) (Ac))))))
 (Af (Bz (Aw F7 (Ad (Aa 0) (Ad (Aa 3) (Ac)))))
 (Af Ep
 (Af (Ai false 4 (bC (.int 0)) [])
 (Af (Ai false 5 (Ab AV (Aj AM (Ad (Ab Ak (Aa 0) (bC (.int 2))) (Ac))) (Ab Ak (Aa 0) (bC (.int 1)))) [0,0])
 (Af Ep
 (CZ 4)))))))
def Ik:Fn:=Av false 4 4 TN
def ZV:Bo (AF 60 S12) (Bp Mh)=some TN:=by kernel_rfl
def qC:GT:=[("is_whole_number",(false,1,F0)),("is_place",(false,3,F9))]
def S13:Sx:=⟨["box","heights"],A2 Mg,[],[],qC,[],true,[0,1,2,6,7],[]⟩
def TM:Fs:=(Af (A0 (bT (Au BK (Aj DP (Ad (CL (Aa 1) 3 (asgT [2,3,4]) Cv (Aw F9 (Ad (Aa 0) (Ad (Aa 2) (Ad (Aa 3) (Ac)))))) (Ac))))) (C6 7) Al)
 (A0 (bT (Au BK (Aj DP (Ad (CL (Aa 1) 3 (asgT [2,3,4]) Cv (Cn (Aw F0 (Ad (Aa 4) (Ac))) (DK (λ i j=>decide (i<=j)) (λ i j=>decide (i<=j)) (bC (.int 0)) (Aa 4) (Ab Ak (Aa 0) (bC (.int 2)))))) (Ac))))) (C6 6) Al))
def Jo:Fn:=Av false 2 0 TM
def ZU:Bo (AF 60 S13) (Bp Mg)=some TM:=by kernel_rfl
def qB:GT:=[("must_be_box",(false,1,F2)),("must_be_told_heights",(false,2,Jo))]
def S14:Sx:=⟨["box","heights","low","high","i"],A2 Mf,[],[],qB,[],true,[0,1,2,6,7],[]⟩
def TL:Fs:=(Af (Bz (Aw F2 (Ad (Aa 0) (Ac))))
 (Af (Bz (Aw Jo (Ad (Aa 0) (Ad (Aa 1) (Ac)))))
 (Af (Ai false 2 (Aj AM (Ac)) [])
 (Af (Ai false 3 (Aj AM (Ac)) [])
 (Af (CK BL (Ad (Ab Ak (Aa 0) (bC (.int 0))) (Ac)) (asgN 4) (Af Ep
 Ep))
 (Af Ep
 (As (Aj Bu (Ad (Aa 2) (Ad (Aa 3) (Ac)))))))))))
def Jn:Fn:=Av false 2 3 TL
def ZT:Bo (AF 60 S14) (Bp Mf)=some TL:=by kernel_rfl
def qA:GT:=[]
def S15:Sx:=⟨["script","k"],A2 Me,[],[],qA,[],true,[0,1,2,6,7],[]⟩
abbrev qo:Fs:=QV.Xb_cell_at
abbrev KO:Fn:=QV.b_cell_at
def ZS:Bo (AF 60 S15) (Bp Me)=some qo:=by kernel_rfl
def q9:GT:=[]
def S16:Sx:=⟨["cell","k","number"],A2 Md,[],[],q9,[],true,[0,1,2,6,7],[]⟩
def TK:Fs:=(Af (A0 (bT (Ab (BH λ i j=>decide (j<=i)) (Aa 0) (Ab GI (bC (.int 10)) (bC (.int 18))))) (CZ 0) Al)
 (Af (Ai false 2 (Ab A4 (Ab AJ (Ab AJ (Ab AJ (Ab AV (Aa 0) (bC (.int 48271))) (Ab AV (Ab AV (bC (.int 7919)) (Aa 1)) (Aa 1))) (Ab AV (bC (.int 104729)) (Aa 1))) (bC (.int 29))) (bC (.int 2147483647))) [0,1,1,1])
 (Af (Ai false 2 (Ab A4 (Ab AV (Aa 2) (Aa 2)) (bC (.int 2147483629))) [2,2])
 (As (Ab AJ (Ab AJ (Ab AV (Ab AV (Aa 2) (Aa 2)) (Aa 2)) (Ab AV (bC (.int 1000003)) (Aa 2))) (Aa 1))))))
def KN:Fn:=Av false 2 1 TK
def ZR:Bo (AF 60 S16) (Bp Md)=some TK:=by kernel_rfl
def q0:GT:=[]
def S17:Sx:=⟨["left","rows","columns","height"],A2 Mc,[],[],q0,[],true,[0,1,2,6,7],[]⟩
def TJ:Fs:=(As (Aj Bu (Ad (Ab AJ (bC (.int 1)) (Ab A4 (Aa 0) (Aa 1))) (Ad (Ab AJ (bC (.int 1)) (Ab A4 (Ab AH (Aa 0) (Aa 1)) (Aa 2))) (Ad (Ab AJ (bC (.int 1)) (Ab A4 (Ab AH (Aa 0) (Ab AV (Aa 1) (Aa 2))) (Aa 3))) (Ac))))))
def KJ:Fn:=Av false 4 0 TJ
def ZQ:Bo (AF 60 S17) (Bp Mc)=some TJ:=by kernel_rfl
def qz:GT:=[]
def S18:Sx:=⟨["box","left","a","b","c","found","i","row","j","most"],A2 Mb,[],[],qz,[],true,[0,1,2,6,7],[]⟩
def Pc:Fs:=(Af (CQ (asgT [2,3,4]) (Aa 0) [0])
 (Af (Ai false 5 (Aj AM (Ac)) [])
 (Af (CK BL (Ad (Aa 2) (Ac)) (asgN 6) (Af (Ai false 7 (Aj AM (Ac)) [])
 (Af (CK BL (Ad (Aa 3) (Ac)) (asgN 8) (Af (Ai false 9 (Aa 4) [4])
 (Af (A0 (bT (Ab (BH λ i j=>decide (j < i)) (Aa 6) (bC (.int 0)))) (Ai false 9 (Ab Ak (Ab Ak (Aa 5) (Ab Ci (Aa 6) (bC (.int 1)))) (Aa 8)) [5,6,8]) Al)
 (Af (A0 (bT (Ab (BH λ i j=>decide (j < i)) (Aa 8) (bC (.int 0)))) (Ai false 9 (Aj GH (Ad (Aa 9) (Ad (Ab Ak (Aa 7) (Ab Ci (Aa 8) (bC (.int 1)))) (Ac)))) [9,7,8]) Al)
 (Af (BE 7 (Ab Ci (Aa 9) (Aj GH (Ad (Aa 9) (Ad (Ab Ak (Aj AM (Ad (bC (.int 0)) (Ad (bC (.int 1)) (Ad (bC (.int 0)) (Ad (bC (.int 2)) (Ad (Ab A4 (Aa 1) (Ab AJ (Aa 4) (bC (.int 1)))) (Ac))))))) (Ab A4 (Ab AH (Aa 1) (bC (.int 9))) (bC (.int 5)))) (Ac))))) [9,9,1,4,1])
 (Ai false 1 (Ab AJ (Ab AH (Aa 1) (bC (.int 45))) (Ab A4 (Ab AV (bC (.int 13)) (Aa 1)) (bC (.int 1009)))) [1,1]))))))
 (BE 5 (Aa 7) [7]))))
 (CZ 5))))
def KI:Fn:=Av false 2 8 Pc
def ZP:Bo (AF 60 S18) (Bp Mb)=some Pc:=by kernel_rfl
def qx:GT:=[]
def S20:Sx:=⟨["table","i","j"],A2 LZ,[],[],qx,[],true,[0,1,2,6,7],[]⟩
def TF:Fs:=(Af (CK BL (Ad (Aj BM (Ad (Aa 0) (Ac))) (Ac)) (asgN 1) (CK BL (Ad (Aj BM (Ad (Ab Ak (Aa 0) (Aa 1)) (Ac))) (Ac)) (asgN 2) (A0 (bT (AU (Cn (Ab (BH λ i j=>decide (j < i)) (Aa 1) (bC (.int 0))) (Ab (BH λ i j=>decide (j < i)) (Ab Ak (Ab Ak (Aa 0) (Aa 1)) (Aa 2)) (Ab Ak (Ab Ak (Aa 0) (Ab Ci (Aa 1) (bC (.int 1)))) (Aa 2)))) (Cn (Ab (BH λ i j=>decide (j < i)) (Aa 2) (bC (.int 0))) (Ab (BH λ i j=>decide (j < i)) (Ab Ak (Ab Ak (Aa 0) (Aa 1)) (Aa 2)) (Ab Ak (Ab Ak (Aa 0) (Aa 1)) (Ab Ci (Aa 2) (bC (.int 1)))))))) (As (bC (.bl false))) Al)))
 (As (bC (.bl true))))
def Jm:Fn:=Av false 1 2 TF
def ZN:Bo (AF 60 S20) (Bp LZ)=some TF:=by kernel_rfl
def qw:GT:=[("_law_falls",(false,1,Jm))]
def S21:Sx:=⟨["box","found","left","way","turn","i","j"],A2 LY,[],[],qw,[],true,[0,1,2,6,7],[]⟩
def K9:Fs:=(Af (CK BL (Ad (bC (.int 6)) (Ac)) (asgN 4) (Af (Ai false 5 (Ab A4 (Aa 2) (Ab Ak (Aa 0) (bC (.int 0)))) [2,0])
 (Af (Ai false 6 (Ab A4 (Ab AH (Aa 2) (bC (.int 5))) (Ab Ak (Aa 0) (bC (.int 1)))) [2,0])
 (Af (CB 1 (Aa 5) (Aa 6) (Ab A4 (Ab AH (Aa 2) (bC (.int 25))) (Ab AJ (Ab Ak (Aa 0) (bC (.int 2))) (bC (.int 1)))))
 (Af (Ai false 2 (Ab AJ (Ab AH (Aa 2) (bC (.int 125))) (Ab A4 (Ab AV (bC (.int 17)) (Aa 2)) (bC (.int 1021)))) [2,2])
 (A0 (bT (Au BK (Aw Jm (Ad (Aa 1) (Ac))))) (CZ 1) Al))))))
 (Af (Ai false 1 (Ek BL (Ad (Ab Ak (Aa 0) (bC (.int 0))) (Ac)) 1 (asgN 7) Cv (Ab AV (Aj AM (Ad (bC (.int 0)) (Ac))) (Ab Ak (Aa 0) (bC (.int 1))))) [0])
 (Af (A0 (bT (Ab (Am false) (Aa 3) (bC (.int 8)))) (Ai false 1 (Ek BL (Ad (Ab Ak (Aa 0) (bC (.int 0))) (Ac)) 1 (asgN 7) Cv (Ab AV (Aj AM (Ad (Ab Ci (Ab Ak (Aa 0) (bC (.int 2))) (bC (.int 1))) (Ac))) (Ab Ak (Aa 0) (bC (.int 1))))) [0,0]) Al)
 (Af (CB 1 (Au BN (bC (.int 1))) (Au BN (bC (.int 1))) (Ab AJ (Ab Ak (Ab Ak (Aa 1) (Au BN (bC (.int 1)))) (Au BN (bC (.int 1)))) (bC (.int 1))))
 (Af (A0 (bT (Ab (Am false) (Ab AV (Ab Ak (Aa 0) (bC (.int 0))) (Ab Ak (Aa 0) (bC (.int 1)))) (bC (.int 1)))) (Fe 1 (bC (.int 0)) (bC (.int 0))) Al)
 (CZ 1))))))
def Ij:Fn:=Ht 4 3 K9
def ZM:Bo (AF 60 S21) (Bp LY)=some K9:=by kernel_rfl
def qy:GT:=[]
def S19:Sx:=⟨["box","pile","left","found","i","j","way"],A2 Ma,[],[],qy,[("_law_risen",Ij)],true,[0,1,2,6,7],[]⟩
def TH:Fs:=(Af (Ai false 3 (CL (Aa 1) 1 (asgN 7) Cv (Aj IJ (Ad (Aa 7) (Ac)))) [1,1])
 (Af (Ai false 4 (Ab A4 (Ab AH (Aa 2) (bC (.int 10))) (Ab Ak (Aa 0) (bC (.int 0)))) [2,0])
 (Af (Ai false 5 (Ab A4 (Ab AH (Aa 2) (bC (.int 40))) (Ab Ak (Aa 0) (bC (.int 1)))) [2,0])
 (Af (Ai false 6 (Ab A4 (Aa 2) (bC (.int 10))) [2])
 (Af (A0 (bT (Ab (Am false) (Aa 6) (bC (.int 0)))) (CB 3 (Aa 4) (Aa 5) (Ab AJ (Ab AJ (Ab Ak (Aa 0) (bC (.int 2))) (bC (.int 1))) (Ab A4 (Ab AH (Aa 2) (bC (.int 160))) (bC (.int 9))))) Al)
 (Af (A0 (bT (Ab (Am false) (Aa 6) (bC (.int 1)))) (CB 3 (Aa 4) (Aa 5) (Ab Ci (Au BN (bC (.int 1))) (Ab A4 (Ab AH (Aa 2) (bC (.int 160))) (bC (.int 9))))) Al)
 (Af (A0 (bT (Ab (Am false) (Aa 6) (bC (.int 2)))) (BE 3 (Ab AV (Aj AM (Ad (bC (.int 0)) (Ac))) (Ab Ak (Aa 0) (bC (.int 1)))) [0]) Al)
 (Af (A0 (bT (Ab (Am false) (Aa 6) (bC (.int 3)))) (IV 3) Al)
 (Af (A0 (bT (Cn (Ab (Am false) (Aa 6) (bC (.int 4))) (Ab (Am false) (Ab A4 (Ab AH (Aa 2) (bC (.int 160))) (bC (.int 2))) (bC (.int 0))))) (Fe 3 (Aa 4) (bC (.int 0))) (A0 (bT (Ab (Am false) (Aa 6) (bC (.int 4)))) (Hv 3 (Aa 4)) Al))
 (Af (A0 (bT (Ab (Am false) (Aa 6) (bC (.int 5)))) (Hw 3 (Aa 4) (Aj Fd (Ad (Ab Ak (Aa 3) (Aa 4)) (Ac)))) Al)
 (Af (A0 (bT (Ab (Am false) (Aa 6) (bC (.int 6)))) (CB 3 (bC (.int 0)) (bC (.int 0)) (bC (.bl true))) Al)
 (Af (A0 (bT (Ab (Am false) (Aa 6) (bC (.int 7)))) (As (Ab Ak (Aj AM (Ad (bC .non) (Ad (bC (.str "pile")) (Ad (Aj Fd (Ad (Aa 3) (Ac))) (Ac))))) (Ab A4 (Ab AH (Aa 2) (bC (.int 160))) (bC (.int 3))))) Al)
 (Af (A0 (bT (Ab (BH λ i j=>decide (j < i)) (Aa 6) (bC (.int 7)))) (GC Ij 0 3 (Ad (Ab AH (Aa 2) (bC (.int 160))) (Ad (Aa 6) (Ac)))) Al)
 (CZ 3))))))))))))))
def KH:Fn:=Av false 3 4 TH
def ZO:Bo (AF 60 S19) (Bp Ma)=some TH:=by kernel_rfl
def qv:GT:=[("how_many_between",(false,3,KQ)),("nth_between",(false,4,KP)),("number_between",(false,4,Ik)),("bounds_with",(false,2,Jn))]
def S22:Sx:=⟨["way","box","low","high","thing","caught","e","kinds"],A2 LX,[],[],qv,[],true,[0,1,2,6,7],[]⟩
def TC:Fs:=(Af (Ai false 5 (bC .non) [])
 (Af (DZ 0 5 6 [] (A0 (bT (Ab (Am false) (Aa 0) (bC (.int 0)))) (Bz (Aw KQ (Ad (Aa 1) (Ad (Aa 2) (Ad (Aa 3) (Ac)))))) (A0 (bT (Ab (Am false) (Aa 0) (bC (.int 1)))) (Bz (Aw KP (Ad (Aa 1) (Ad (Aa 2) (Ad (Aa 3) (Ad (Aa 4) (Ac))))))) (A0 (bT (Ab (Am false) (Aa 0) (bC (.int 2)))) (Bz (Aw Ik (Ad (Aa 1) (Ad (Aa 2) (Ad (Aa 3) (Ad (Aa 4) (Ac))))))) (Bz (Aw Jn (Ad (Aa 1) (Ad (Aa 4) (Ac)))))))))
 (Af (Ai false 7 (Aj AM (Ad (Au (E5 [2]) (Aa 5)) (Ad (Au (E5 [7]) (Aa 5)) (Ad (Au (E5 [6]) (Aa 5)) (Ac))))) [5,5,5])
 (As (Ab AJ (Aa 7) (Aj AM (Ad (Au (E5 [1]) (Aa 5)) (Ad (Au (E5 [0]) (Aa 5)) (Ac)))))))))
def C3:Fn:=Av false 5 3 TC
def ZL:Bo (AF 60 S22) (Bp LX)=some TC:=by kernel_rfl
def qu:GT:=[]
def S23:Sx:=⟨["box","pile","bads","left","found","k","i","j","bad"],A2 LW,[],[],qu,[],true,[0,1,2,6,7],[]⟩
def MH:Fs:=(Af (Ai false 4 (Aj AM (Ac)) [])
 (Af (CK BL (Ad (Ab A4 (Aa 3) (bC (.int 5))) (Ac)) (asgN 5) (Af (Ai false 3 (Ab AH (Aa 3) (bC (.int 5))) [3])
 (Af (Ai false 6 (Ab A4 (Aa 3) (Ab Ak (Aa 0) (bC (.int 0)))) [3,0])
 (Af (Ai false 7 (Ab A4 (Ab AH (Aa 3) (bC (.int 4))) (Ab Ak (Aa 0) (bC (.int 1)))) [3,0])
 (BE 4 (Aj Bu (Ad (Aa 6) (Ad (Aa 7) (Ad (Ab Ak (Ab Ak (Aa 1) (Aa 6)) (Aa 7)) (Ac))))) [6,7,1,6,7])))))
 (Af (El (Aa 2) [2] (asgN 8) (Af (Ai false 3 (Ab AJ (Ab AH (Aa 3) (bC (.int 3))) (Ab A4 (Ab AV (bC (.int 5)) (Aa 3)) (bC (.int 1031)))) [3,3])
 (Ea 4 (Ab A4 (Aa 3) (Ab AJ (Aj BM (Ad (Aa 4) (Ac))) (bC (.int 1)))) (Aa 8))))
 (CZ 4))))
def Jl:Fn:=Av false 4 5 MH
def ZK:Bo (AF 60 S23) (Bp LW)=some MH:=by kernel_rfl
def qt:GT:=[("_law_cell_at",(false,2,KO)),("_law_mixed",(false,2,KN)),("_law_box",(false,4,KJ)),("_law_pile",(false,2,KI)),("_law_spoilt",(false,3,KH)),("_law_kinds",(false,5,C3)),("_law_put_in",(false,4,Jl))]
def S24:Sx:=⟨["script","no_pile","k","left","box","pile","bad","low","high","far","out","bads","due"],A2 JV,[],[],qt,[],true,[0,1,2,6,7],[]⟩
def MG:Fs:=(Af (Ai false 1 (Aj AM (Ad (bC (.bl true)) (Ad (bC (.bl false)) (Ad (bC (.bl false)) (Ad (bC (.bl false)) (Ad (bC (.bl true)) (Ac))))))) [])
 (Af (CK BL (Ad (Aj IT (Ad (bC (.int 1)) (Ad (Aj GH (Ad (bC (.int 24)) (Ad (Aj BM (Ad (Aa 0) (Ac))) (Ac)))) (Ac)))) (Ac)) (asgN 2) (Af (Ai false 3 (Aw KN (Ad (Aw KO (Ad (Aa 0) (Ad (Aa 2) (Ac)))) (Ad (Aa 2) (Ac)))) [0,2,2])
 (Af (Ai false 4 (Aw KJ (Ad (Aa 3) (Ad (bC (.int 4)) (Ad (bC (.int 4)) (Ad (bC (.int 4)) (Ac)))))) [3])
 (Af (Ai false 5 (Aw KI (Ad (Aa 4) (Ad (Ab AH (Aa 3) (bC (.int 64))) (Ac)))) [4,3])
 (Af (Ai false 6 (Aw KH (Ad (Aa 4) (Ad (Aa 5) (Ad (Ab AH (Aa 3) (bC (.int 97))) (Ac))))) [4,5,3])
 (Af (El (Aj AM (Ad (Aj Bu (Ad (Aa 6) (Ad (Aa 5) (Ac)))) (Ad (Aj Bu (Ad (Aa 5) (Ad (Aa 6) (Ac)))) (Ad (Aj Bu (Ad (Aa 6) (Ad (bC .non) (Ac)))) (Ac))))) [6,5,5,6,6] (asgT [7,8]) (Af (A0 (bT (AU (Ab (Am true) (Aw C3 (Ad (bC (.int 0)) (Ad (Aa 4) (Ad (Aa 7) (Ad (Aa 8) (Ad (bC .non) (Ac))))))) (Aa 1)) (Ab (Am true) (Aw C3 (Ad (bC (.int 1)) (Ad (Aa 4) (Ad (Aa 7) (Ad (Aa 8) (Ad (Au BN (bC (.int 1))) (Ac))))))) (Aa 1)))) (As (bC (.bl false))) Al)
 (A0 (bT (Ab (Am true) (Aw C3 (Ad (bC (.int 2)) (Ad (Aa 4) (Ad (Aa 7) (Ad (Aa 8) (Ad (bC .non) (Ac))))))) (Aa 1))) (As (bC (.bl false))) Al)))
 (Af (A0 (bT (Ab (Am true) (Aw C3 (Ad (bC (.int 2)) (Ad (Aa 4) (Ad (Aa 5) (Ad (Aa 5) (Ad (Aa 6) (Ac))))))) (Aa 1))) (As (bC (.bl false))) Al)
 (Af (Ai false 9 (Ab AJ (bC (.int 1)) (Ab A4 (Ab AH (Aa 3) (bC (.int 64))) (Ab GI (bC (.int 10)) (bC (.int 9))))) [3])
 (Af (Ai false 10 (Ab Ak (Aj AM (Ad (Aj Bu (Ad (Ab Ak (Aa 4) (bC (.int 0))) (Ad (bC (.int 0)) (Ad (bC (.int 0)) (Ac))))) (Ad (Aj Bu (Ad (bC (.int 0)) (Ad (Ab Ak (Aa 4) (bC (.int 1))) (Ad (bC (.int 0)) (Ac))))) (Ad (Aj Bu (Ad (Au BN (bC (.int 1))) (Ad (bC (.int 0)) (Ad (bC (.int 0)) (Ac))))) (Ad (Aj Bu (Ad (bC (.int 0)) (Ad (Ab Ci (bC (.int 0)) (Aa 9)) (Ad (bC (.int 0)) (Ac))))) (Ad (Aj Bu (Ad (Ab AJ (Aa 9) (Ab Ak (Aa 4) (bC (.int 0)))) (Ad (bC (.int 0)) (Ad (Au BN (bC (.int 1))) (Ac))))) (Ac))))))) (Ab A4 (Ab AH (Aa 3) (bC (.int 64))) (bC (.int 5)))) [4,4,9,9,4,3])
 (Af (Ai false 8 (Ab Ak (Aj AM (Ad (Aj Bu (Ad (bC (.int 0)) (Ad (bC (.int 0)) (Ad (Ab AJ (Ab Ak (Aa 4) (bC (.int 2))) (Aa 9)) (Ac))))) (Ad (Aj Bu (Ad (bC (.int 0)) (Ad (bC (.int 0)) (Ad (Ab Ci (bC (.int 0)) (Aa 9)) (Ac))))) (Ac)))) (Ab A4 (Ab AH (Aa 3) (bC (.int 320))) (bC (.int 2)))) [4,9,9,3])
 (El (Aj AM (Ad (Aj AM (Ad (Aa 8) (Ad (Aa 10) (Ac)))) (Ad (Aj AM (Ad (Aa 10) (Ad (Aa 8) (Ac)))) (Ad (Aj AM (Ad (Aa 10) (Ac))) (Ad (Aj AM (Ad (Aa 8) (Ac))) (Ac)))))) [8,10,10,8,10,8] (asgN 11) (Af (Ai false 12 (Aj AM (Ad (bC (.bl false)) (Ad (Ab (BO false) (Aa 10) (Aa 11)) (Ad (Ab (BO true) (Aa 10) (Aa 11)) (Ad (bC (.bl false)) (Ad (bC (.bl true)) (Ac))))))) [10,11,10,11])
 (A0 (bT (Ab (Am true) (Aw C3 (Ad (bC (.int 3)) (Ad (Aa 4) (Ad (bC .non) (Ad (bC .non) (Ad (Aw Jl (Ad (Aa 4) (Ad (Aa 5) (Ad (Aa 11) (Ad (Aa 3) (Ac)))))) (Ac))))))) (Aa 12))) (As (bC (.bl false))) Al)))))))))))))
 (As (bC (.bl true)))))
def F24:Fn:=Av false 1 12 MG
def ZJ:Bo (AF 60 S24) (Bp JV)=some MG:=by kernel_rfl
end K34
namespace QV
open PySem PySem.Spec PyProof.Rows L2 QQ
structure HV (L:List (Option PV)) (O:List Nat) (ρ:Ag):Prop where
 len:ρ.length=L.length
 get:∀ (j:Nat) (x:PV),L[j]?=some (some x)->∃ d,ρ[j]?=some (some (x,d))
 own:∀ j∈O,∃ x d,ρ[j]?=some (some (x,d))/\d≠0
section
variable {L L':List (Option PV)}{O O':List Nat}{ρ:Ag}
theorem HV.of (ρ:Ag):HV (ρ.map λ s=>s.map (·.1)) [] ρ:=by
 refine ⟨by rw [A9],λ j x h=>?_,λ _ h=>nomatch h⟩;rw [Cs] at h;cases e:ρ[j]? with
 | none=>rw [e] at h;cases h
 | some s=>
  rw [e] at h;cases s with
  | none=>cases h
  | some p=>obtain ⟨y,d⟩:=p;cases h;exact ⟨d,rfl⟩
def HV.var {j:Nat}{x:PV} (h:HV L O ρ) (e:L[j]?=some (some x)):Aa j ρ=.ok (x,dv x,ρ):=by
 obtain ⟨d,e⟩:=h.get j x e;unfold Aa;rw [e]
def Wk:List (Option PV)->List (Option PV)->Prop
 | [],[]=>True
 | none::a,_::b=>Wk a b
 | some x::a,some y::b=>x=y/\Wk a b
 | _,_=>False
theorem Wk.get:∀ {a b:List (Option PV)},Wk a b->a.length=b.length/\∀ (j:Nat) (x:PV),a[j]?=some (some x)->b[j]?=some (some x)
 | [],[],_=>⟨rfl,λ j x h=>by cases h⟩
 | none::a,y::b,h=>by
  obtain ⟨h1,h2⟩:=Wk.get (a:=a) (b:=b) (by cases y <;> exact h);refine ⟨by rw [BP,BP,h1],λ j x e=>?_⟩;cases j with
  | zero=>cases e
  | succ j=>exact h2 j x e
 | some x::a,some y::b,h=>by
  obtain ⟨h0,h⟩:x=y/\Wk a b:=h;obtain ⟨h1,h2⟩:=Wk.get h;refine ⟨by rw [BP,BP,h1],λ j z e=>?_⟩;cases j with
  | zero=>rw [<- h0];exact e
  | succ j=>exact h2 j z e
 | some x::a,none::b,h=>h.elim
 | [],_::_,h=>h.elim
 | some _::_,[],h=>h.elim
 | none::_,[],h=>h.elim
def HV.weak (h:HV L O ρ) (w:Wk L' L) (ho:∀ j∈O',j∈O):HV L' O' ρ:=⟨h.len.trans w.get.1.symm,λ j x e=>h.get j x (w.get.2 j x e),λ j hj=>h.own j (ho j hj)⟩
def XT {d j e:Nat}{vs:List Nat}{x:PV} (h:ρ[j]?=some (some (x,e))):∃ e',(Bk d vs ρ)[j]?=some (some (x,e')):=by
 unfold Bk;split
 ·exact ⟨e,h⟩
 ·rw [Iz,h];dsimp only [SY];split
  ·exact ⟨0,rfl⟩
  ·exact ⟨e,rfl⟩
def WQ {d:Nat}{vs:List Nat}{ρ:Ag}:(Bk d vs ρ).length=ρ.length:=by
 unfold Bk;split
 ·rfl
 ·exact KZ vs ρ 0
def HV.cool {d:Nat}{vs:List Nat} (h:HV L O ρ):HV L [] (Bk d vs ρ):=⟨by rw [WQ];exact h.len,λ j x e=>by
 obtain ⟨d',e⟩:=h.get j x e;exact XT e,λ _ h=>nomatch h⟩
def HV.coolO {vs:List Nat} (h:HV L O ρ):HV L O (Bk om vs ρ):=by
 unfold Bk;rw [if_pos rfl];exact h
def HV.put {i d:Nat}{x:PV} (h:HV L O ρ) (hi:i < L.length) (ho:i∉O\/d≠0):HV (L.set i (some x)) O (ρ.set i (some (x,d))):=by
 have hl:=h.len;refine ⟨by rw [C1,C1,hl],λ j y e=>?_,λ j hj=>?_⟩
 ·by_cases hj:i=j
  ·subst hj;rw [CH hi] at e;cases e;exact ⟨d,CH (by omega)⟩
  ·rw [BJ hj] at e;rw [BJ hj];exact h.get j y e
 ·by_cases hij:i=j
  ·subst hij;rcases ho with ho | ho
   ·exact absurd hj ho
   ·exact ⟨x,d,CH (by omega),ho⟩
  ·rw [BJ hij];exact h.own j hj
def HV.putO {i d:Nat}{x:PV} (h:HV L O ρ) (hi:i < L.length) (hd:d≠0):HV (L.set i (some x)) (i::O) (ρ.set i (some (x,d))):=by
 have h1:=h.put (x:=x) (d:=d) hi (.inr hd);refine ⟨h1.len,h1.get,λ j hj=>?_⟩;rcases jb3.mp hj with rfl | hj
 ·exact ⟨x,d,CH (by rw [h.len];exact hi),hd⟩
 ·exact h1.own j hj
def HV.set {i d:Nat}{f:Fx}{vs:List Nat}{x:PV} (h:HV L O ρ) (hf:f ρ=.ok (x,d,ρ)) (hi:i < L.length):∃ ρ',Ai false i f vs ρ=.nx ρ'/\HV (L.set i (some x)) [] ρ':=⟨_,setF hf (by rw [h.len];exact hi) rfl,(h.cool).put hi (.inl (λ h=>nomatch h))⟩
def HV.setO {i:Nat}{f:Fx}{vs:List Nat}{x:PV} (h:HV L O ρ) (hf:f ρ=.ok (x,om,ρ)) (hi:i < L.length):∃ ρ',Ai false i f vs ρ=.nx ρ'/\HV (L.set i (some x)) O ρ':=⟨_,setF hf (by rw [h.len];exact hi) rfl,(h.coolO).put hi (.inr (by decide))⟩
def HV.setN {i:Nat}{f:Fx}{vs:List Nat}{x:PV} (h:HV L O ρ) (hf:f ρ=.ok (x,om,ρ)) (hi:i < L.length):∃ ρ',Ai false i f vs ρ=.nx ρ'/\HV (L.set i (some x)) (i::O) ρ':=⟨_,setF hf (by rw [h.len];exact hi) rfl,(h.coolO).putO hi (by decide)⟩
def HV.app {i:Nat}{f:Fx}{vs:List Nat}{xs:List PV}{y:PV} (h:HV L O ρ) (hx:L[i]?=some (some (.lst xs))) (ho:i∈O) (hf:f ρ=.ok (y,om,ρ)) (hl:xs.length < An):∃ ρ',BE i f vs ρ=.nx ρ'/\HV (L.set i (some (.lst (xs++[y])))) O ρ':=by
 obtain ⟨x,d,e,hd⟩:=h.own i ho;obtain ⟨d',e'⟩:=h.get i _ hx;rw [e] at e';cases e';obtain ⟨d0,rfl⟩:∃ d0,d=d0 + 1:=⟨d - 1,by omega⟩
 have hi:i < L.length:=(ja7.mp hx).1;have c:Bk om vs ρ=ρ:=by unfold Bk;rw [if_pos rfl]
 exact ⟨_,Mv (d:=d0 + 1) e hf (by rw [c];exact e) hd hl rfl,by rw [c];exact h.put hi (.inr (by split <;> decide))⟩
def HV.asgN {i:Nat} (x:PV) (h:HV L O ρ) (hi:i < L.length) (ho:i∉O):∃ ρ',asgN i x ρ=some ρ'/\HV (L.set i (some x)) O ρ':=by
 refine ⟨_,?_,h.put (x:=x) (d:=dv x) hi (.inl ho)⟩;unfold QQ.asgN;rw [if_pos (by rw [h.len];exact hi)]
def HV.asg3 {i j k:Nat} (x y z:PV) (h:HV L O ρ) (hi:i < L.length) (hj:j < L.length) (hk:k < L.length) (ho:i∉O/\j∉O/\k∉O):∃ ρ',asgT [i,j,k] (.tup [x,y,z]) ρ=some ρ'/\HV (((L.set i (some x)).set j (some y)).set k (some z)) O ρ':=by
 have hl:=h.len;refine ⟨((ρ.set i (some (x,dv x))).set j (some (y,dv y))).set k (some (z,dv z)),?_,((h.put hi (.inl ho.1)).put (by rw [C1];exact hj) (.inl ho.2.1)).put (by rw [C1,C1];exact hk) (.inl ho.2.2)⟩;unfold QQ.asgT;dsimp only;rw [Cd,QQ.asgN,if_pos (by omega)];show Cd [j,k] [y,z] _=_;rw [Cd,QQ.asgN,if_pos (by rw [C1];omega)];show Cd [k] [z] _=_;rw [Cd,QQ.asgN,if_pos (by rw [C1,C1];omega)];rfl
def HV.asg2 {i j:Nat} (x y:PV) (h:HV L O ρ) (hi:i < L.length) (hj:j < L.length) (ho:i∉O/\j∉O):∃ ρ',asgT [i,j] (.tup [x,y]) ρ=some ρ'/\HV ((L.set i (some x)).set j (some y)) O ρ':=by
 have hl:=h.len;refine ⟨(ρ.set i (some (x,dv x))).set j (some (y,dv y)),?_,(h.put hi (.inl ho.1)).put (by rw [C1];exact hj) (.inl ho.2)⟩;unfold QQ.asgT;dsimp only;rw [Cd,QQ.asgN,if_pos (by omega)];show Cd [j] [y] _=_;rw [Cd,QQ.asgN,if_pos (by rw [C1];omega)];rfl
theorem Lr {asg:PV->Ag->Option Ag}{body:Fs}:∀ (els:List PV) (I:Nat->Ag->Prop) (ρ:Ag),I 0 ρ->(∀ j x ρ,els[j]?=some x->I j ρ->∃ ρ1 ρ2,asg x ρ=some ρ1/\body ρ1=.nx ρ2/\I (j + 1) ρ2)->∃ ρ',BQ asg body els ρ=.nx ρ'/\I els.length ρ'
 | [],I,ρ,h0,_=>⟨ρ,rfl,h0⟩
 | x::els,I,ρ,h0,hs=>by
  obtain ⟨ρ1,ρ2,e1,e2,h2⟩:=hs 0 x ρ rfl h0;obtain ⟨ρ',e,h⟩:=Lr els (λ j=>I (j + 1)) ρ2 h2 λ j y ρ hj=>hs (j + 1) y ρ hj;exact ⟨ρ',by rw [BQ,e1];dsimp only;rw [e2];exact e,h⟩
def Gv (s:Fs) (ρ:Ag) (y:PV):Prop:=∃ d ρ',s ρ=.rt y d ρ'
def Gv.nx {s r:Fs}{ρ1:Ag}{y:PV} (e:s ρ=.nx ρ1) (h:Gv r ρ1 y):Gv (Af s r) ρ y:=by
 obtain ⟨d,ρ',h⟩:=h;exact ⟨d,ρ',(AD e).trans h⟩
def Gv.ex {s r:Fs}{P:Ag->Prop}{y:PV} (e:∃ ρ1,s ρ=.nx ρ1/\P ρ1) (h:∀ ρ1,P ρ1->Gv r ρ1 y):Gv (Af s r) ρ y:=by
 obtain ⟨ρ1,e,p⟩:=e;exact Gv.nx e (h ρ1 p)
def Gv.ret {f:Fx}{ρ1:Ag}{d:Nat}{y:PV} (h:f ρ=.ok (y,d,ρ1)):Gv (As f) ρ y:=⟨_,_,Dg h⟩
def Gv.fn {np k:Nat}{b:Fs}{xs:List PV}{y:PV} (hl:xs.length=np) (h:Gv b (xs.map (λ x=>some (x,dv x))++A6 k none) y):∃ d z,Av false np k b xs=.ok (y,d,z):=by
 obtain ⟨d,ρ',h⟩:=h;exact ⟨_,_,C4 hl h⟩
def HV.unp3 {i j k:Nat}{f:Fx}{vs:List Nat}{x y z:PV}{d:Nat} (h:HV L O ρ) (hf:f ρ=.ok (.tup [x,y,z],d,ρ)) (hi:i < L.length) (hj:j < L.length) (hk:k < L.length):∃ ρ',CQ (asgT [i,j,k]) f vs ρ=.nx ρ'/\HV (((L.set i (some x)).set j (some y)).set k (some z)) [] ρ':=by
 obtain ⟨ρ',e,h'⟩:=(h.cool (d:=d) (vs:=vs)).asg3 x y z hi hj hk ⟨λ h=>(nomatch h),λ h=>(nomatch h),λ h=>(nomatch h)⟩;exact ⟨ρ',Wi hf e,h'⟩
def HV.appK {i e:Nat}{f:Fx}{vs:List Nat}{xs:List PV}{y:PV} (h:HV L O ρ) (hx:L[i]?=some (some (.lst xs))) (ho:i∈O) (hv:vs.contains i=false) (hf:f ρ=.ok (y,e,ρ)) (hl:xs.length < An):∃ ρ',BE i f vs ρ=.nx ρ'/\HV (L.set i (some (.lst (xs++[y])))) [i] ρ':=by
 obtain ⟨x,d,e0,hd⟩:=h.own i ho;obtain ⟨d',e'⟩:=h.get i _ hx;rw [e0] at e';cases e';obtain ⟨d0,rfl⟩:∃ d0,d=d0 + 1:=⟨d - 1,by omega⟩
 have hi:i < L.length:=(ja7.mp hx).1;have c:(Bk e vs ρ)[i]?=some (some (.lst xs,d0 + 1)):=by
  unfold Bk;split
  ·exact e0
  ·rw [Iz,M6,hv,e0];rfl
 exact ⟨_,Mv (d:=d0 + 1) e0 hf c hd hl rfl,(h.cool (d:=e) (vs:=vs)).putO hi (by split <;> decide)⟩
def Nx (s:Fs) (ρ:Ag) (P:Ag->Prop):Prop:=∃ ρ',s ρ=.nx ρ'/\P ρ'
section
variable {P Q:Ag->Prop}{s r:Fs}
def Nx.seq (h:Nx s ρ P) (k:∀ ρ',P ρ'->Nx r ρ' Q):Nx (Af s r) ρ Q:=by
 obtain ⟨ρ1,e,p⟩:=h;obtain ⟨ρ2,e2,q⟩:=k ρ1 p;exact ⟨ρ2,(AD e).trans e2,q⟩
def Nx.mono (h:Nx s ρ P) (k:∀ ρ',P ρ'->Q ρ'):Nx s ρ Q:=by
 obtain ⟨ρ1,e,p⟩:=h;exact ⟨ρ1,e,k ρ1 p⟩
def Nx.yes {c:Fb} (hc:c ρ=.ok (true,ρ)) (h:Nx s ρ P):Nx (A0 c s r) ρ P:=by
 obtain ⟨ρ1,e,p⟩:=h;exact ⟨ρ1,(A7 hc).trans e,p⟩
def Nx.no {c:Fb} (hc:c ρ=.ok (false,ρ)) (h:P ρ):Nx (A0 c s Al) ρ P:=⟨ρ,(Bi hc).trans rfl,h⟩
def Nx.loop {asg:PV->Ag->Option Ag}{els:List PV} (I:Nat->Ag->Prop) (h0:I 0 ρ) (hs:∀ k x ρ,els[k]?=some x->I k ρ->∃ ρ1,asg x ρ=some ρ1/\Nx s ρ1 (I (k + 1))):∃ ρ',BQ asg s els ρ=.nx ρ'/\I els.length ρ':=Lr els I ρ h0 λ k x ρ e h=>by
 obtain ⟨ρ1,e1,ρ2,e2,h2⟩:=hs k x ρ e h;exact ⟨ρ1,ρ2,e1,e2,h2⟩
def Yv {n k:Nat}{x:PV} (hx:((Bb n).map λ (k:Nat)=>PV.int (k:Int))[k]?=some x):k < n/\x=.int (k:Int):=by
 rw [Cs] at hx;by_cases hk:k < n
 ·rw [OP hk] at hx;cases hx;exact ⟨hk,rfl⟩
 ·rw [K0 (by rw [Kw];omega)] at hx;cases hx
def Nx.forR {asg:PV->Ag->Option Ag}{f:Fx}{n d:Nat} (I:Nat->Ag->Prop) (hf:f ρ=.ok (.int (n:Int),d,ρ)) (hn:n<=1000) (h0:I 0 ρ) (hs:∀ k ρ,k < n->I k ρ->∃ ρ1,asg (.int (k:Int)) ρ=some ρ1/\Nx s ρ1 (I (k + 1))):Nx (CK BL (Ad f Ac) asg s) ρ (I n):=by
 obtain ⟨ρ',e,h⟩:=Nx.loop (els:=(Bb n).map λ (k:Nat)=>.int (k:Int)) I h0 λ k x ρ hx h=>by
  obtain ⟨hk,rfl⟩:=Yv hx;exact hs k ρ hk h
 rw [A9,Kw] at h;exact ⟨ρ',Hk (AQ hf) (FD (by omega) (by omega)) e,h⟩
def Ge (s:Fs) (ρ:Ag) (P:PV->Prop):Prop:=∃ y d ρ',s ρ=.rt y d ρ'/\P y
def Ge.ex {R:PV->Prop} (h:Nx s ρ P) (k:∀ ρ',P ρ'->Ge r ρ' R):Ge (Af s r) ρ R:=by
 obtain ⟨ρ1,e,p⟩:=h;obtain ⟨y,d,ρ',e',q⟩:=k ρ1 p;exact ⟨y,d,ρ',(AD e).trans e',q⟩
def Ge.retV {R:PV->Prop}{i:Nat}{x:PV} (h:HV L O ρ) (e:L[i]?=some (some x)) (p:R x):Ge (CZ i) ρ R:=by
 obtain ⟨d,e⟩:=h.get i x e;exact ⟨x,d,ρ,by unfold CZ;rw [e],p⟩
def Ge.fn {R:PV->Prop}{np k:Nat}{b:Fs}{xs:List PV} (hl:xs.length=np) (h:Ge b (xs.map (λ x=>some (x,dv x))++A6 k none) R):∃ y d,Av false np k b xs=.ok (y,d,.non)/\R y:=by
 obtain ⟨y,d,ρ',h,p⟩:=h;exact ⟨y,d,C4 hl h,p⟩
end
end
def C7:Nat->PV->Bool
 | 0,_=>false
 | n + 1,x=>match x with
  | .lst xs=>decide (xs.length<=1000) && xs.all (C7 n)
  | .tup xs=>decide (xs.length<=1000) && xs.all (C7 n)
  | .scr _=>false
  | .exn _=>false
  | .dct _=>false
  | .dko=>false
  | _=>true
def Lu {n:Nat}{xs:List PV} (h:C7 (n + 1) (.lst xs)=true):xs.length<=1000/\∀ x∈xs,C7 n x=true:=by
 unfold C7 at h;dsimp only at h;rw [AL,jc4] at h;exact ⟨of_decide_eq_true h.1,h.2⟩
def Hq {n:Nat}{xs:List PV} (hl:xs.length<=1000) (h:∀ x∈xs,C7 n x=true):C7 (n + 1) (.lst xs)=true:=by
 unfold C7;dsimp only;rw [AL,jc4];exact ⟨decide_eq_true hl,h⟩
def Sl {n:Nat}{xs:List PV} (hl:xs.length<=1000) (h:∀ x∈xs,C7 n x=true):C7 (n + 1) (.tup xs)=true:=by
 unfold C7;dsimp only;rw [AL,jc4];exact ⟨decide_eq_true hl,h⟩
def Wj:PV->Bool
 | .int _=>true
 | _=>false
theorem ZA {n:Nat} (x:PV) (h:C7 n x=true):f_is_whole_number [x]=.ok (.bl (Wj x),om,.non):=by
 cases n with
 | zero=>cases h
 | succ n=>
  cases x with
  | non=>kernel_rfl
  | bl b=>cases b <;> kernel_rfl
  | int i=>kernel_rfl
  | str s=>kernel_rfl
  | lst xs=>kernel_rfl
  | tup xs=>kernel_rfl
  | emp=>kernel_rfl
  | dko=>cases h
  | scr _=>cases h
  | exn _=>cases h
  | dct _=>cases h
def SV {n:Nat}{f elt:Fx}{ρ ρ1:Ag}{d:Nat}{g:PV->Bool} (xs:List PV) (hf:f ρ=.ok (.lst xs,d,ρ1)) (hn:ρ1.length=n) (he:∀ x∈xs,elt (ρ1++[some (x,dv x)])=.ok (.bl (g x),om,ρ1++[some (x,dv x)])) (hl:xs.length<=1000):Aj DP (Ad (CL f 1 (asgN n) Cv elt) Ac) ρ=.ok (.bl (xs.all g),om,ρ1):=by
 have z:=sz;exact all_ok (Iy (enc:=λ x=>x) (q:=λ x=>.bl (g x)) xs (by rw [List.map_id'];exact hf) hn he (by omega))
def K4 (h:Int):PV->Bool
 | .int i=>decide (0<=i) && decide (i<=h)
 | _=>false
def Cq (c h:Int):PV->Bool
 | .lst xs=>decide ((xs.length:Int)=c) && xs.all (K4 h)
 | _=>false
theorem Vc {n:Nat}{y x:PV}{c h:Int} (hx:C7 n x=true):(Cn (Aw f_is_whole_number (Ad (Aa 3) (Ac))) (DK (λ i j=>decide (i<=j)) (λ i j=>decide (i<=j)) (bC (.int 0)) (Aa 3) (Aa 2))) ([some (y,dv y),some (.int c,om),some (.int h,om)]++[some (x,dv x)])=.ok (.bl (K4 h x),om,[some (y,dv y),some (.int c,om),some (.int h,om)]++[some (x,dv x)]):=by
 have w:=Bs (F:=f_is_whole_number) (fa:=Ad (Aa 3) Ac) (ρ:=[some (y,dv y),some (.int c,om),some (.int h,om)]++[some (x,dv x)]) (xs:=[(x,dv x)]) rfl (ZA x hx);cases n with
 | zero=>cases hx
 | succ n=>
  cases x with
  | int i=>exact FI (a:=true) w (λ _=>J2 (i:=0) (j:=i) (k:=h) rfl rfl rfl) rfl
  | scr _=>cases hx
  | exn _=>cases hx
  | dct _=>cases hx
  | _=>exact FI (a:=false) (b:=false) w (λ e=>nomatch e) rfl
theorem X0 {n:Nat}{y:PV}{c h:Int} (hy:C7 n y=true):f_is_row_of_heights [y,.int c,.int h]=.ok (.bl (Cq c h y),om,.non):=by
 refine C4 rfl (ρ':=[some (y,dv y),some (.int c,om),some (.int h,om)]) ?_;show Xf_is_row_of_heights [some (y,dv y),some (.int c,om),some (.int h,om)]=_;cases n with
 | zero=>cases hy
 | succ n=>
  cases y with
  | lst xs=>
   have t:bT (AU (Au BK (Au (EC "list") (Aa 0))) (Ab (Am true) (Aj BM (Ad (Aa 0) (Ac))) (Aa 1))) [some (.lst xs,0),some (.int c,om),some (.int h,om)]=.ok (!decide ((xs.length:Int)=c),[some (.lst xs,0),some (.int c,om),some (.int h,om)]):=by
    refine A5 (d:=om) ((FH (a:=false) rfl (λ _=>Ff (i:=(xs.length:Int)) (j:=c) rfl rfl) rfl).trans ?_);rw [Kr,OE]
   dsimp only [Cq];by_cases hc:(xs.length:Int)=c
   ·rw [decide_eq_true hc] at t ⊢;refine (Co t).trans (Dg ?_);exact SV (g:=K4 h) xs (d:=0) rfl rfl (λ x hx=>Vc ((Lu hy).2 x hx)) (Lu hy).1
   ·rw [decide_eq_false hc] at t ⊢;exact D9 ((A7 t).trans rfl)
  | scr _=>cases hy
  | exn _=>cases hy
  | dct _=>cases hy
  | _=>exact D9 ((A7 (A5 (d:=om) (FH (a:=true) (b:=false) rfl (λ e=>nomatch e) rfl))).trans rfl)
def EG (a b c:Int):PV->Bool
 | .lst xs=>decide ((xs.length:Int)=a) && xs.all (Cq b c)
 | _=>false
theorem Zy {n:Nat}{x:PV}{a b c:Int} (hb:D6 a b c=true) (hx:C7 n x=true) (h:EG a b c x=false):f_is_pile [bx a b c,x]=.ok (.bl false,om,.non):=by
 let R:Ag:=[some (bx a b c,0),some (x,dv x),some (.int a,om),some (.int b,om),some (.int c,om)]
 refine C4 rfl (ρ':=R) ?_;show Xf_is_pile [some (bx a b c,0),some (x,dv x),none,none,none]=_;refine (AD (Hi (Bs (xs:=[(bx a b c,0)]) rfl (MJ hb)))).trans ?_;refine (AD (ρ1:=R) rfl).trans ?_;cases n with
 | zero=>cases hx
 | succ n=>
  cases x with
  | lst xs=>
   have t:bT (AU (Au BK (Au (EC "list") (Aa 1))) (Ab (Am true) (Aj BM (Ad (Aa 1) (Ac))) (Aa 2))) R=.ok (!decide ((xs.length:Int)=a),R):=by
    refine A5 (d:=om) ((FH (a:=false) rfl (λ _=>Ff (i:=(xs.length:Int)) (j:=a) rfl rfl) rfl).trans ?_);rw [Kr,OE]
   dsimp only [EG] at h;by_cases hc:(xs.length:Int)=a
   ·rw [decide_eq_true hc] at t h;refine (Co t).trans ?_;have e:=SV (g:=Cq b c) (f:=Aa 1) (elt:=Aw f_is_row_of_heights (Ad (Aa 5) (Ad (Aa 3) (Ad (Aa 4) (Ac))))) (ρ:=R) xs (d:=0) rfl rfl (λ y hy=>Bs (xs:=[(y,dv y),(.int b,om),(.int c,om)]) rfl (X0 ((Lu hx).2 y hy))) (Lu hx).1;rw [show xs.all (Cq b c)=false from h] at e;exact D9 ((A7 (A5 (E4 e))).trans rfl)
   ·rw [decide_eq_false hc] at t;exact D9 ((A7 t).trans rfl)
  | scr _=>cases hx
  | exn _=>cases hx
  | dct _=>cases hx
  | _=>exact D9 ((A7 (A5 (d:=om) (FH (a:=true) (b:=false) rfl (λ e=>nomatch e) rfl))).trans rfl)
def Ca (t:List (List Int)) (i j:Nat) (v:Int):List (List Int):=t.set i ((t.getD i []).set j v)
def Lf {a b:Nat}{t:List (List Int)} (ht:Tab a b t) {i j:Nat}{v:Int} (hi:i < a):Tab a b (Ca t i j v):=by
 refine ⟨by unfold Ca;rw [C1,ht.1],λ r hr=>?_⟩;rcases T6 hr with h | h
 ·exact ht.2 r h
 ·rw [h,C1,ht.row hi]
def Nv {a b:Nat}{t:List (List Int)} (ht:Tab a b t) {i j x y:Nat}{v:Int} (hi:i < a) (hj:j < b):g (Ca t i j v) x y=if x=i/\y=j then v else g t x y:=by
 show ((t.set i ((t.getD i []).set j v)).getD x []).getD y 0=_;by_cases h:x=i
 ·rw [h,P4 (by rw [ht.1];exact hi)];by_cases h2:y=j
  ·rw [if_pos ⟨rfl,h2⟩,h2,P4 (by rw [ht.row hi];exact hj)]
  ·rw [if_neg (λ z=>h2 z.2),Pl (λ e=>h2 e.symm)];rfl
 ·rw [if_neg (λ z=>h z.1),Pl (λ e=>h e.symm)];rfl
theorem PZ (v:Int):∀ n:Nat,D3 n [.int v]=(A6 n v).map PV.int
 | 0=>rfl
 | n + 1=>by
  show [PV.int v]++D3 n [.int v]=_;rw [PZ v n];rfl
def RO {f g:Fx}{ρ ρ1 ρ2:Ag}{v:Int}{n:Nat}{d e:Nat} (h1:f ρ=.ok (.lst [.int v],d,ρ1)) (h2:g ρ1=.ok (.int (n:Int),e,ρ2)) (hn:n<=1000):Ab AV f g ρ=.ok (il (A6 n v),om,ρ2):=by
 refine De h1 h2 ?_;have z:=sz;unfold AV;dsimp only;rw [if_pos ⟨by omega,by omega,by rw [Ia,EN];omega⟩,EN,PZ,Rp];rfl
def Wm {t:List (List Int)}{r:List Int}{i:Nat}{v:Int} (hi:t[i]?=some r) (hr:r.length<=1000):Eg (tb t) (i:Int) (.int v)=some (tb (t.set i (r++[v]))):=by
 have z:=sz;have hl:=(ja7.mp hi).1;unfold Eg tb;dsimp only;have e1:Bh (t.map il).length (i:Int)=some i:=by
  unfold Bh;rw [A9,if_pos (by omega),if_pos (by omega)];rfl
 have e2:(t.map il)[i]?=some (.lst (r.map PV.int)):=by rw [Cs,hi];rfl
 rw [e1];dsimp only;rw [e2];dsimp only;rw [if_pos (by rw [A9];omega),M3,W5]
def Se {i:Nat}{fi f:Fx}{ρ ρ1 ρ2 ρ3:Ag}{x x' y:PV}{k:Int}{d1 d2:Nat} (h0:ρ[i]?=some (some (x,om))) (h1:fi ρ=.ok (.int k,d1,ρ1)) (h2:f ρ1=.ok (y,d2,ρ2)) (h3:Eg x k y=some x') (hy:Hm y=true) (e:ρ2.set i (some (x',om))=ρ3):Fe i fi f ρ=.nx ρ3:=by
 unfold Fe;rw [h0,h1];dsimp only;rw [h2];dsimp only;rw [h3];dsimp only;rw [if_pos ⟨rfl,hy⟩,e]
def GW (xs:List PV) (j:Nat) (x:PV):List PV:=(xs.take j++[x])++xs.drop (j + 1)
def X2 {xs:List PV}{j:Nat}{x y:PV} (h:y∈GW xs j x):y∈xs\/y=x:=by
 unfold GW at h;rw [jb8,jb8] at h;rcases h with (h | h) | h
 ·exact .inl (Tw h)
 ·exact .inr (jb6.mp h)
 ·exact .inl (Tv h)
def Yz (xs:List PV) (j:Nat) (x:PV):x∈GW xs j x:=AY _ (AR _ (jb6.mpr rfl))
def X1 {xs:List PV}{j:Nat}{x:PV} (h:j < xs.length):(GW xs j x).length=xs.length:=by
 unfold GW;rw [Bn,Bn,EM,Ia,Jf];omega
def WX {xs:List PV}{j:Nat}{x:PV} (h:j < xs.length):GW xs j x=xs.set j x:=by
 unfold GW;rw [List.set_eq_take_append_cons_drop,if_pos h,MB,List.singleton_append]
def Qa {c h:Int}{xs:List PV} (hl:(xs.length:Int)≠c):Cq c h (.lst xs)=false:=by
 show (decide _ && _)=false;rw [decide_eq_false hl];rfl
def Xz {c h:Int}{xs:List PV}{x:PV} (hx:x∈xs) (he:K4 h x=false):Cq c h (.lst xs)=false:=by
 show (_ && List.all _ _)=false;rw [show xs.all (K4 h)=false from jm5.mpr ⟨x,hx,by rw [he];exact C2⟩,OI]
def PX {a b c:Int}{xs:List PV} (hl:(xs.length:Int)≠a):EG a b c (.lst xs)=false:=by
 show (decide _ && _)=false;rw [decide_eq_false hl];rfl
def Yo {a b c:Int}{xs:List PV}{x:PV} (hx:x∈xs) (he:Cq b c x=false):EG a b c (.lst xs)=false:=by
 show (_ && List.all _ _)=false;rw [show xs.all (Cq b c)=false from jm5.mpr ⟨x,hx,by rw [he];exact C2⟩,OI]
def Fq (a b c:Nat) (x:PV):Prop:=f_is_pile [bx a b c,x]=.ok (.bl false,om,.non)/\C7 10 x=true
def SR {a b c:Nat} (ha:1<=a) (hb:1<=b) (hc:1<=c):D6 a b c=true:=by
 unfold D6;rw [decide_eq_true (show (1:Int)<=a by omega),decide_eq_true (show (1:Int)<=b by omega),decide_eq_true (show (1:Int)<=c by omega)];rfl
def Hh {a b c:Nat}{x:PV} (ha:1<=a) (hb:1<=b) (hc:1<=c) (hx:C7 10 x=true) (h:EG a b c x=false):Fq a b c x:=⟨Zy (SR ha hb hc) hx h,hx⟩
def Hu {n:Nat}{r:List Int} (h:r.length<=1000):C7 (n + 2) (il r)=true:=Hq (by rw [A9];exact h) λ x hx=>by
 obtain ⟨i,_,rfl⟩:=je0.mp hx;rfl
def U4 {n a b:Nat}{t:List (List Int)} (ht:Tab a b t) (ha:a<=1000) (hb:b<=1000):C7 (n + 3) (tb t)=true:=Hq (by rw [A9,ht.1];exact ha) λ x hx=>by
 obtain ⟨r,hr,rfl⟩:=je0.mp hx;exact Hu (by rw [ht.2 r hr];exact hb)
theorem L3 {a b c:Nat}{u:List (List Int)} (hu:Tab a b u) (ha:1<=a/\a<=100) (hb:1<=b/\b<=100) (hc:1<=c) (h:¬ Pile a b c u):Fq a b c (tb u):=by
 refine ⟨?_,U4 hu (by omega) (by omega)⟩;rw [Qx hu ha hb (by omega)];cases e:IU a b c u with
 | true=>exact absurd ((Pr hu).mp e) h
 | false=>rfl
def Vv {a b c i:Nat}{t:List (List Int)}{y:PV} (ht:Tab a b t) (ha:1<=a/\a<=100) (hb:1<=b/\b<=100) (hc:1<=c) (hi:i < a) (hy:C7 9 y=true) (h:Cq b c y=false):Fq a b c (.lst (GW (t.map il) i y)):=by
 have hl:(t.map il).length=a:=by rw [A9,ht.1]
 refine Hh ha.1 hb.1 hc (Hq (by rw [X1 (by rw [hl];exact hi),hl];omega) λ x hx=>?_) (Yo (Yz _ _ _) h);rcases X2 hx with hx | rfl
 ·obtain ⟨r,hr,rfl⟩:=je0.mp hx;exact Hu (by rw [ht.2 r hr];omega)
 ·exact hy
def Hj {f g:Fs}{ρ:Ag}{c:Nat} (h:f ρ=.exc c):Af f g ρ=.exc c:=by unfold Af;rw [h]
def Ez {F:Fn}{fa:Fa}{ρ ρ1:Ag}{xs:List (PV×Nat)}{c:Nat} (h1:fa ρ=.ok (xs,ρ1)) (h2:F (xs.map (·.1))=.exc c):Aw F fa ρ=.exc c:=by
 unfold Aw;rw [h1];dsimp only [Rz.bind];rw [h2]
def E1 {f:Fx}{ρ:Ag}{c:Nat} (h:f ρ=.exc c):Bz f ρ=.exc c:=by unfold Bz;rw [h]
def Fc {np k:Nat}{b:Fs}{xs:List PV}{c:Nat} (hl:xs.length=np) (h:b (xs.map (λ x=>some (x,dv x))++A6 k none)=.exc c):Av false np k b xs=.exc c:=by
 unfold Av;rw [if_pos hl];show (match b (xs.map (λ x=>some (x,dv x))++A6 k none) with | .rt y d ρ=>_ | .nx ρ=>_ | .exc c=>_ | _=>_)=_;rw [h]
def Um {y x:PV} (h:f_is_pile [y,x]=.ok (.bl false,om,.non)):f_must_be_pile [y,x]=.exc 2:=
 Fc rfl ((A7 (f:=C6 2) (g:=Al) (A5 (E4 (Bs (F:=f_is_pile) (fa:=Ad (Aa 0) (Ad (Aa 1) Ac)) (ρ:=[some (y,dv y),some (x,dv x)]) (xs:=[(y,dv y),(x,dv x)]) rfl h)))).trans rfl)
end QV
namespace K34
open PySem PySem.Spec PyProof.Rows L2 QQ QV
def YA (c:Int) (k:Nat) (hk:k<=1000):∃ l:Int,KN [.int c,.int k]=.ok (.int l,om,.non):=by
 let R (s:QQ.Slot):Ag:=[some (.int c,om),some (.int (k:Int),om),s]
 have hp:Ab GI (bC (.int 10)) (bC (.int 18)) (R none)=.ok (.int (10 ^ 18),om,R none):=rfl;by_cases h:c ≥ 10 ^ 18
 ·have hc:bT (Ab (BH λ i j=>decide (j<=i)) (Aa 0) (Ab GI (bC (.int 10)) (bC (.int 18)))) (R none)=.ok (true,R none):=by
   have:=A5 (E2 (p:=λ i j=>decide (j<=i)) (f:=Aa 0) (ρ:=R none) (i:=c) (d:=om) rfl hp)
   rw [this,decide_eq_true h]
  exact ⟨c,C4 rfl (D9 ((A7 hc).trans rfl))⟩
 ·have hc:bT (Ab (BH λ i j=>decide (j<=i)) (Aa 0) (Ab GI (bC (.int 10)) (bC (.int 18)))) (R none)=.ok (false,R none):=by
   have:=A5 (E2 (p:=λ i j=>decide (j<=i)) (f:=Aa 0) (ρ:=R none) (i:=c) (d:=om) rfl hp)
   rw [this,decide_eq_false h]
  have e1:Ab A4 (Ab AJ (Ab AJ (Ab AJ (Ab AV (Aa 0) (bC (.int 48271))) (Ab AV (Ab AV (bC (.int 7919)) (Aa 1)) (Aa 1))) (Ab AV (bC (.int 104729)) (Aa 1))) (bC (.int 29))) (bC (.int 2147483647)) (R none)=.ok (.int ((c * 48271 + 7919 * (k:Int) * (k:Int) + 104729 * (k:Int) + 29) % 2147483647),om,R none):=
   Cg (CC (CC (CC (DL (d:=om) (e:=om) rfl rfl (.inr (by decide))) (DL (e:=om) (DL (d:=om) (e:=om) (j:=(k:Int)) rfl rfl (.inl (by decide))) rfl (.inr (by omega)))) (DL (d:=om) (e:=om) (j:=(k:Int)) rfl rfl (.inl (by decide)))) (e:=om) rfl) (e:=om) rfl (by decide)
  generalize hn:(c * 48271 + 7919 * (k:Int) * (k:Int) + 104729 * (k:Int) + 29) % 2147483647=n at e1;have b1:0<=n/\n < 2147483647:=by omega
  have e2:Ab A4 (Ab AV (Aa 2) (Aa 2)) (bC (.int 2147483629)) (R (some (.int n,om)))=.ok (.int (n * n % 2147483629),om,R (some (.int n,om))):=Cg (DL (d:=om) (e:=om) (i:=n) (j:=n) rfl rfl (.inl (by omega))) (e:=om) rfl (by decide);generalize hm:n * n % 2147483629=m at e2;have b2:0<=m/\m < 2147483629:=by omega
  have e3:Ab AJ (Ab AJ (Ab AV (Ab AV (Aa 2) (Aa 2)) (Aa 2)) (Ab AV (bC (.int 1000003)) (Aa 2))) (Aa 1) (R (some (.int m,om)))=.ok (.int (m * m * m + 1000003 * m + (k:Int)),om,R (some (.int m,om))):=
   CC (e:=om) (CC (DL (e:=om) (DL (d:=om) (e:=om) (i:=m) (j:=m) rfl rfl (.inl (by omega))) rfl (.inr (by omega))) (DL (d:=om) (e:=om) (j:=m) rfl rfl (.inl (by decide)))) rfl
  exact ⟨_,C4 rfl ((Co hc).trans ((AD (setF e1 (show 2 < 3 by decide) rfl)).trans ((AD (setF e2 (show 2 < 3 by decide) rfl)).trans (Dg e3))))⟩
def Dv {i:Int} (h:0<=i):∃ n:Nat,i=(n:Int):=⟨i.toNat,by omega⟩
def Pb (l:Int) {r s t:Int} (hr:1<=r/\r<=6) (hs:1<=s/\s<=6) (ht:1<=t/\t<=6):∃ x y z:Nat,(1<=x/\(x:Int)<=r)/\(1<=y/\(y:Int)<=s)/\(1<=z/\(z:Int)<=t)/\KJ [.int l,.int r,.int s,.int t]=.ok (bx x y z,om,.non):=by
 let R:Ag:=[some (.int l,om),some (.int r,om),some (.int s,om),some (.int t,om)]
 have q1:=Dm l (show r≠0 by omega);have q2:=DI l (show 0 < r by omega);have q3:=Dm (l / r) (show s≠0 by omega);have q4:=DI (l / r) (show 0 < s by omega);have q5:=Dm (l / (r * s)) (show t≠0 by omega);have q6:=DI (l / (r * s)) (show 0 < t by omega);have rs0:0 < r * s:=Int.mul_pos (by omega) (by omega);have rs1:r * s<=6 * 6:=Int.mul_le_mul hr.2 hs.2 (by omega) (by omega);obtain ⟨x,hx⟩:=Dv (i:=1 + l % r) (by omega);obtain ⟨y,hy⟩:=Dv (i:=1 + l / r % s) (by omega);obtain ⟨z,hz⟩:=Dv (i:=1 + l / (r * s) % t) (by omega);refine ⟨x,y,z,by omega,by omega,by omega,?_⟩;have e1:Ab AJ (bC (.int 1)) (Ab A4 (Aa 0) (Aa 1)) R=.ok (.int (1 + l % r),om,R):=CC (d:=om) rfl (Cg (i:=l) (d:=om) (e:=om) rfl rfl (by omega));have e2:Ab AJ (bC (.int 1)) (Ab A4 (Ab AH (Aa 0) (Aa 1)) (Aa 2)) R=.ok (.int (1 + l / r % s),om,R):=CC (d:=om) rfl (Cg (CM (i:=l) (d:=om) (e:=om) rfl rfl (by omega) (by omega)) (e:=om) rfl (by omega));have e3:Ab AJ (bC (.int 1)) (Ab A4 (Ab AH (Aa 0) (Ab AV (Aa 1) (Aa 2))) (Aa 3)) R=.ok (.int (1 + l / (r * s) % t),om,R):=CC (d:=om) rfl (Cg (CM (i:=l) (d:=om) (e:=om) rfl (DL (i:=r) (j:=s) (d:=om) (e:=om) rfl rfl (.inl (by omega))) (by omega) (by omega)) (e:=om) rfl (by omega));rw [hx] at e1;rw [hy] at e2;rw [hz] at e3;exact C4 rfl (Dg (C5 (A1 e1 (A1 e2 (AQ e3))) rfl))
def UC {b c:Nat}:Pile 0 b c []:=⟨⟨rfl,λ _ h=>(nomatch h)⟩,λ i j hi=>absurd hi (by omega),λ i j hi=>absurd hi (by omega),λ i j hi=>absurd hi (by omega),λ i j hi=>absurd hi (by omega)⟩
def RowP (b c:Nat) (t:List (List Int)) (r:List Int):Prop:=(∀ y,y < r.length->0<=r.getD y 0/\r.getD y 0<=Fh c t y)/\∀ n,n + 1 < r.length->r.getD (n + 1) 0<=r.getD n 0
def UI {b c:Nat}{t:List (List Int)}:RowP b c t []:=⟨λ y h=>absurd h (by simp),λ n h=>absurd h (by simp)⟩
def RowP.snoc {b c:Nat}{t:List (List Int)}{r:List Int}{v:Int} (h:RowP b c t r) (h1:0<=v/\v<=Fh c t r.length) (h2:∀ n,n + 1=r.length->v<=r.getD n 0):RowP b c t (r++[v]):=by
 refine ⟨λ y hy=>?_,λ n hn=>?_⟩
 ·rw [Bn] at hy;rw [Nw];split
  ·exact h.1 y (by assumption)
  ·have:y=r.length:=by simp at hy;omega
   rw [if_pos this,this];exact h1
 ·rw [Bn] at hn;rw [Nw,Nw];split
  ·rw [if_pos (by omega)];exact h.2 n (by assumption)
  ·have:n + 1=r.length:=by simp at hn;omega
   rw [if_pos this,if_pos (by omega)];exact h2 n this
def qp (n:Int) (x:Int) (hx:0<=x):∃ y,0<=y/\Bj [0,1,0,2,x] (n % 5)=some y:=by
 have h:n % 5=0\/n % 5=1\/n % 5=2\/n % 5=3\/n % 5=4:=by omega
 rcases h with h | h | h | h | h <;> rw [h]
 ·exact ⟨0,by decide,rfl⟩
 ·exact ⟨1,by decide,rfl⟩
 ·exact ⟨0,by decide,rfl⟩
 ·exact ⟨2,by decide,rfl⟩
 ·exact ⟨x,hx,rfl⟩
def XX {a b c:Nat} (l:Int) (ha:a<=100) (hb:b<=100) (hc:c<=1000):∃ t d,Pile a b c t/\KI [bx a b c,.int l]=.ok (tb t,d,.non):=by
 have z:=sz;let F (l:Int) (s5 s6 s7 s8 s9:Option PV):List (Option PV):=[some (bx a b c),some (.int l),some (.int a),some (.int b),some (.int c),s5,s6,s7,s8,s9]
 let ρ0:Ag:=[some (bx a b c,0),some (.int l,om),none,none,none,none,none,none,none,none]
 have nin:∀ {i:Nat},i∉([]:List Nat):=λ h=>nomatch h
 suffices h:Ge Pc ρ0 λ y=>∃ t,Pile a b c t/\y=tb t by
  obtain ⟨y,d,e,t,p,rfl⟩:=Ge.fn (np:=2) (k:=8) (xs:=[bx a b c,.int l]) rfl h;exact ⟨t,d,p,e⟩
 have h0:HV [some (bx a b c),some (.int l),none,none,none,none,none,none,none,none] [] ρ0:=HV.of ρ0;refine Ge.ex (h0.unp3 (x:=.int a) (y:=.int b) (z:=.int c) (d:=0) (h0.var rfl) (show 2 < 10 by decide) (show 3 < 10 by decide) (show 4 < 10 by decide)) λ ρ1 h1=>?_;refine Ge.ex (h1.setN (x:=.lst []) rfl (show 5 < 10 by decide)) λ ρ2 h2=>?_;refine Ge.ex (P:=λ ρ=>∃ l t,Pile a b c t/\HV (F l (some (tb t)) none none none none) [5] ρ) (Nx.forR (λ k ρ=>∃ l t,Pile k b c t/\HV (F l (some (tb t)) none none none none) [5] ρ) (h2.var rfl) (by omega) ⟨l,[],UC,h2⟩ λ k ρ hk ⟨l,t,ht,h⟩=>?_) λ ρ3 ⟨l,t,ht,h3⟩=>Ge.retV h3 rfl ⟨t,ht,rfl⟩;have hl:t.length=k:=ht.tab.1;obtain ⟨ρa,ea,h⟩:=h.asgN (i:=6) (.int (k:Int)) (show 6 < 10 by decide) (by decide);refine ⟨ρa,ea,Nx.seq (h.setN (x:=.lst []) rfl (show 7 < 10 by decide)) λ ρ4 h4=>Nx.seq (Nx.forR (λ m ρ=>∃ l r,RowP b c t r/\r.length=m/\HV (F l (some (tb t)) (some (.int (k:Int))) (some (il r)) none none) [7,5] ρ) (h4.var rfl) (by omega) ⟨l,[],UI,rfl,h4⟩ λ m ρ hm ⟨l,r,hr,hrl,h⟩=>?_) λ ρ5 ⟨l,r,hr,hrl,h⟩=>?_⟩
 ·obtain ⟨ρb,eb,h⟩:=h.asgN (i:=8) (.int (m:Int)) (show 8 < 10 by decide) (by decide);let G (m9:Int):=F l (some (tb t)) (some (.int (k:Int))) (some (il r)) (some (.int (m:Int))) (some (.int m9));refine ⟨ρb,eb,Nx.seq (h.setO (x:=.int c) (h.var rfl) (show 9 < 10 by decide)) λ ρ6 (h6:HV (G c) [7,5] ρ6)=>Nx.seq (P:=λ ρ=>∃ m1:Int,(0<=m1/\m1<=Fh c t m)/\HV (G m1) [7,5] ρ) ?_ λ ρ7 ⟨m1,hm1,h7⟩=>Nx.seq (P:=λ ρ=>∃ m2:Int,(0<=m2/\m2<=Fh c t m/\∀ n,n + 1=m->m2<=r.getD n 0)/\HV (G m2) [7,5] ρ) ?_ λ ρ8 ⟨m2,hm2,h8⟩=>?_⟩
  ·have q:=A5 (E2 (p:=λ i j=>decide (j < i)) (g:=bC (.int 0)) (j:=0) (e:=om) (h6.var (j:=6) (x:=.int (k:Int)) rfl) rfl);by_cases h0:0 < k
   ·rw [decide_eq_true (by omega)] at q;have s:=FL (g:=bC (.int 1)) (j:=1) (e:=om) (h6.var (j:=6) (x:=.int (k:Int)) rfl) rfl;rw [show (k:Int) - 1=((k - 1:Nat):Int) by omega] at s;exact Nx.yes q (Nx.mono (h6.setO (J9 (i:=k - 1) (j:=m) ht.tab (h6.var (j:=5) rfl) s (h6.var (j:=8) rfl) (by omega) hm) (show 9 < 10 by decide)) λ ρ h=>⟨_,⟨ht.lo (k - 1) m (by omega) hm,by unfold Fh;rw [if_neg (by omega),hl];exact Kp _⟩,h⟩)
   ·rw [decide_eq_false (by omega)] at q;exact Nx.no q ⟨c,⟨by omega,by unfold Fh;rw [if_pos (by omega)];exact Kp _⟩,h6⟩
  ·have q:=A5 (E2 (p:=λ i j=>decide (j < i)) (g:=bC (.int 0)) (j:=0) (e:=om) (h7.var (j:=8) (x:=.int (m:Int)) rfl) rfl);by_cases h0:0 < m
   ·rw [decide_eq_true (by omega)] at q;have s:=FL (g:=bC (.int 1)) (j:=1) (e:=om) (h7.var (j:=8) (x:=.int (m:Int)) rfl) rfl;rw [show (m:Int) - 1=((m - 1:Nat):Int) by omega] at s;have hx:=hr.1 (m - 1) (by omega);exact Nx.yes q (Nx.mono (h7.setO (x:=.int (if r.getD (m - 1) 0 < m1 then r.getD (m - 1) 0 else m1)) (C5 (A1 (h7.var (j:=9) rfl) (AQ (Hn (xs:=r) (h7.var (j:=7) rfl) s (EX (by omega) (by rw [EN];exact J5 (by omega)))))) rfl) (show 9 < 10 by decide)) λ ρ h=>⟨_,⟨by split <;> omega,by split <;> omega,λ n hn=>by rw [show m - 1=n by omega];split <;> omega⟩,h⟩)
   ·rw [decide_eq_false (by omega)] at q;exact Nx.no q ⟨m1,⟨hm1.1,hm1.2,λ n hn=>absurd hn (by omega)⟩,h7⟩
  ·obtain ⟨y,hy,ey⟩:=qp (l / 9) (l % ((c:Int) + 1)) (Dm _ (by omega));let v:=m2 - (if y < m2 then y else m2);have hv:0<=v/\v<=m2:=by
    show 0<=m2 - (if y < m2 then y else m2)/\m2 - (if y < m2 then y else m2)<=m2;split <;> omega
   have v1:Aa 1 ρ8=.ok (.int l,om,ρ8):=h8.var rfl;have f1:=C5 (op:=AM) (z:=il [0,1,0,2,l % ((c:Int) + 1)]) (c:=om) (A1 (f:=bC (.int 0)) rfl (A1 (f:=bC (.int 1)) rfl (A1 (f:=bC (.int 0)) rfl (A1 (f:=bC (.int 2)) rfl (AQ (Cg v1 (CC (g:=bC (.int 1)) (j:=1) (e:=om) (h8.var (j:=4) (x:=.int c) rfl) rfl) (by omega))))))) rfl;have f2:=Cg (g:=bC (.int 5)) (j:=5) (e:=om) (CM (g:=bC (.int 9)) (j:=9) (e:=om) v1 rfl (by decide) (by decide)) rfl (by decide);refine Nx.seq (h8.app (i:=7) (xs:=r.map PV.int) (y:=.int v) rfl (by decide) (FL (i:=m2) (h8.var (j:=9) rfl) (C5 (xs:=[(.int m2,om),(.int y,om)]) (A1 (h8.var (j:=9) rfl) (AQ (Hn f1 f2 ey))) rfl)) (by rw [A9];omega)) λ ρ9 h9=>?_;have v1:Aa 1 ρ9=.ok (.int l,om,ρ9):=h9.var rfl;refine Nx.mono (h9.setO (CC (CM (g:=bC (.int 45)) (j:=45) (e:=om) v1 rfl (by decide) (by decide)) (Cg (g:=bC (.int 1009)) (j:=1009) (e:=om) (DL (f:=bC (.int 13)) (i:=13) (d:=om) rfl v1 (.inl (by decide))) rfl (by decide))) (show 1 < 10 by decide)) λ ρ h=>⟨_,r++[v],hr.snoc (by rw [hrl];exact ⟨hv.1,M4 hv.2 hm2.2.1⟩) (λ n hn=>M4 hv.2 (hm2.2.2 n (by omega))),by rw [Bn,hrl];rfl,h.weak ⟨rfl,rfl,rfl,rfl,rfl,rfl,rfl,?_,trivial⟩ λ _ h=>h⟩
   unfold il;rw [Ks];rfl
 ·refine Nx.mono (h.appK (i:=5) (xs:=t.map il) (y:=il r) rfl (by decide) (by decide) (h.var (j:=7) rfl) (by rw [A9];omega)) λ ρ h=>⟨l,t++[r],ht.snoc hrl (λ y hy=>hr.1 y (by omega)) (λ n hn=>hr.2 n hn),h.weak ⟨rfl,rfl,rfl,rfl,rfl,?_,trivial⟩ λ _ h=>h⟩
  unfold tb;rw [Ks];rfl
def Qe {y x z:PV}{c:Nat} (h:f_must_be_pile [y,x]=.exc c):f_must_be_two_piles [y,x,z]=.exc c:=
 Fc rfl (Hj (E1 (Ez (xs:=[(y,dv y),(x,dv x)]) rfl h)))
def YS {y x z:PV}{c:Nat} (h0:f_must_be_pile [y,x]=.ok (.non,om,.non)) (h:f_must_be_pile [y,z]=.exc c):f_must_be_two_piles [y,x,z]=.exc c:=
 Fc rfl ((AD (Hi (Bs (ρ:=[some (y,dv y),some (x,dv x),some (z,dv z)]) (xs:=[(y,dv y),(x,dv x)]) rfl h0))).trans (E1 (Ez (xs:=[(y,dv y),(z,dv z)]) rfl h)))
def YT {y x z:PV} (h0:f_must_be_pile [y,x]=.ok (.non,om,.non)) (h:f_must_be_pile [y,z]=.ok (.non,om,.non)):f_must_be_two_piles [y,x,z]=.ok (.non,om,.non):=
 Mo rfl ((AD (Hi (Bs (ρ:=[some (y,dv y),some (x,dv x),some (z,dv z)]) (xs:=[(y,dv y),(x,dv x)]) rfl h0))).trans (Hi (Bs (xs:=[(y,dv y),(z,dv z)]) rfl h)))
def UR {y x z:PV}{c:Nat} (h:f_must_be_two_piles [y,x,z]=.exc c):KQ [y,x,z]=.exc c:=
 Fc rfl (Hj (E1 (Ez (xs:=[(y,dv y),(x,dv x),(z,dv z)]) rfl h)))
def US {y x z n:PV}{c:Nat} (h:f_must_be_two_piles [y,x,z]=.exc c):KP [y,x,z,n]=.exc c:=
 Fc rfl (Hj (E1 (Ez (xs:=[(y,dv y),(x,dv x),(z,dv z)]) rfl h)))
def UT {y x z n:PV}{c:Nat} (h:f_must_be_two_piles [y,x,z]=.exc c):Ik [y,x,z,n]=.exc c:=
 Fc rfl (Hj (E1 (Ez (xs:=[(y,dv y),(x,dv x),(z,dv z)]) rfl h)))
def Vf {y x z n:PV}{c:Nat} (h0:f_must_be_two_piles [y,x,z]=.ok (.non,om,.non)) (h:f_must_be_pile [y,n]=.exc c):Ik [y,x,z,n]=.exc c:=
 Fc rfl ((AD (Hi (Bs (ρ:=[some (y,dv y),some (x,dv x),some (z,dv z),some (n,dv n),none,none,none,none]) (xs:=[(y,dv y),(x,dv x),(z,dv z)]) rfl h0))).trans (Hj (E1 (Ez (xs:=[(y,dv y),(n,dv n)]) rfl h))))
def JS:Fs:=(A0 (bT (Ab (Am false) (Aa 0) (bC (.int 0)))) (Bz (Aw KQ (Ad (Aa 1) (Ad (Aa 2) (Ad (Aa 3) (Ac)))))) (A0 (bT (Ab (Am false) (Aa 0) (bC (.int 1)))) (Bz (Aw KP (Ad (Aa 1) (Ad (Aa 2) (Ad (Aa 3) (Ad (Aa 4) (Ac))))))) (A0 (bT (Ab (Am false) (Aa 0) (bC (.int 2)))) (Bz (Aw Ik (Ad (Aa 1) (Ad (Aa 2) (Ad (Aa 3) (Ad (Aa 4) (Ac))))))) (Bz (Aw Jn (Ad (Aa 1) (Ad (Aa 4) (Ac))))))))
def kin:Nat->PV
 | 2=>.lst [.bl true,.bl false,.bl false,.bl false,.bl true]
 | 7=>.lst [.bl false,.bl true,.bl false,.bl false,.bl true]
 | 6=>.lst [.bl false,.bl false,.bl true,.bl false,.bl true]
 | _=>.non
def Lq {w:Int}{y x z t:PV}{c:Nat} (hc:c=2\/c=6\/c=7) (hb:JS [some (.int w,om),some (y,dv y),some (x,dv x),some (z,dv z),some (t,dv t),some (.non,om),none,none]=.exc c):C3 [.int w,y,x,z,t]=.ok (kin c,om,.non):=by
 let R (s5 s6 s7:QQ.Slot):Ag:=[some (.int w,om),some (y,dv y),some (x,dv x),some (z,dv z),some (t,dv t),s5,s6,s7]
 have v1:Ai false 5 (bC .non) [] (R none none none)=.nx (R (some (.non,om)) none none):=rfl;have hX:CI c 0=true:=by rcases hc with rfl | rfl | rfl <;> rfl
 have v2:DZ 0 5 6 [] JS (R (some (.non,om)) none none)=.nx (R (some (.exn c,om)) none none):=by
  unfold DZ;rw [hb];dsimp only;rw [if_pos ⟨hX,show 5 < 8 by decide,rfl⟩];rfl
 rcases hc with rfl | rfl | rfl
 ·exact C4 rfl ((AD v1).trans ((AD v2).trans <| (AD (setF (x:=.lst [.bl true,.bl false,.bl false]) (d:=om) rfl (show 7 < 8 by decide) rfl)).trans (Dg rfl)))
 ·exact C4 rfl ((AD v1).trans ((AD v2).trans <| (AD (setF (x:=.lst [.bl false,.bl false,.bl true]) (d:=om) rfl (show 7 < 8 by decide) rfl)).trans (Dg rfl)))
 ·exact C4 rfl ((AD v1).trans ((AD v2).trans <| (AD (setF (x:=.lst [.bl false,.bl true,.bl false]) (d:=om) rfl (show 7 < 8 by decide) rfl)).trans (Dg rfl)))
def UZ {y x z t:PV} (h:f_must_be_two_piles [y,x,z]=.exc 2):C3 [.int 0,y,x,z,t]=.ok (kin 2,om,.non):=
 Lq (.inl rfl) ((A7 rfl).trans (E1 (Ez (xs:=[(y,dv y),(x,dv x),(z,dv z)]) rfl (UR h))))
def Va {y x z t:PV} (h:f_must_be_two_piles [y,x,z]=.exc 2):C3 [.int 1,y,x,z,t]=.ok (kin 2,om,.non):=
 Lq (.inl rfl) ((Bi rfl).trans ((A7 rfl).trans (E1 (Ez (xs:=[(y,dv y),(x,dv x),(z,dv z),(t,dv t)]) rfl (US h)))))
def QO {y x z t:PV} (h:Ik [y,x,z,t]=.exc 2):C3 [.int 2,y,x,z,t]=.ok (kin 2,om,.non):=
 Lq (.inl rfl) ((Bi rfl).trans ((Bi rfl).trans ((A7 rfl).trans (E1 (Ez (xs:=[(y,dv y),(x,dv x),(z,dv z),(t,dv t)]) rfl h)))))
def Uz {y t:PV}{c:Nat} (hc:c=6\/c=7) (h:Jn [y,t]=.exc c):C3 [.int 3,y,.non,.non,t]=.ok (kin c,om,.non):=
 Lq (.inr hc) ((Bi rfl).trans ((Bi rfl).trans ((Bi rfl).trans (E1 (Ez (xs:=[(y,dv y),(t,dv t)]) rfl h)))))
end K34
namespace QV
open PySem PySem.Spec PyProof.Rows L2 QQ
theorem MZ {α:Type}{asg:PV->Ag->Option Ag}{body:Fs}{enc:α->PV} (ok:α->Bool) (I:Ag->Prop):∀ (xs:List α) (ρ:Ag),I ρ->(∀ x∈xs,∀ ρ,I ρ->∃ ρ1,asg (enc x) ρ=some ρ1/\((ok x=true/\∃ ρ2,body ρ1=.nx ρ2/\I ρ2)\/(ok x=false/\∃ ρ2,body ρ1=.rt (.bl false) om ρ2))) ->
  (xs.all ok=true/\∃ ρ',BQ asg body (xs.map enc) ρ=.nx ρ'/\I ρ')\/(xs.all ok=false/\∃ ρ',BQ asg body (xs.map enc) ρ=.rt (.bl false) om ρ')
 | [],ρ,h,_=>.inl ⟨rfl,ρ,rfl,h⟩
 | x::xs,ρ,h,hb=>by
  obtain ⟨ρ1,e1,⟨hx,ρ2,e2,h2⟩ | ⟨hx,ρ2,e2⟩⟩:=hb x AI ρ h
  ·rcases MZ ok I xs ρ2 h2 λ y hy=>hb y (AA _ hy) with ⟨ha,ρ',e,h'⟩ | ⟨ha,ρ',e⟩
   ·refine .inl ⟨by rw [Fi,hx,ha];rfl,ρ',?_,h'⟩;rw [C8];unfold BQ;rw [e1];dsimp only;rw [e2];exact e
   ·refine .inr ⟨by rw [Fi,hx,ha];rfl,ρ',?_⟩;rw [C8];unfold BQ;rw [e1];dsimp only;rw [e2];exact e
  ·refine .inr ⟨by rw [Fi,hx];rfl,ρ2,?_⟩;rw [C8];unfold BQ;rw [e1];dsimp only;rw [e2]
section
variable {a b c n:Nat}{x y:PV}
end
def T9 {n k:Nat} (h:k < n):Bh n (k:Int)=some k:=by
 unfold Bh;rw [if_pos (by omega),EN,if_pos (by omega)]
def Nl {f g:Fx}{ρ ρ1 ρ2:Ag}{xs:List PV}{k d e:Nat} (h1:f ρ=.ok (.lst xs,d,ρ1)) (h2:g ρ1=.ok (.int (k:Int),e,ρ2)) (hk:k < xs.length):Ab Ak f g ρ=.ok (xs[k],dv xs[k],ρ2):=by
 refine De h1 h2 ?_;show (Bj xs (k:Int)).map (λ z=>(z,dv z))=_;rw [EX (x:=xs[k]) (by omega) (by rw [EN];exact Dn hk)];rfl
def Fw {fa:Fa}{ρ ρ1:Ag}{xs:List (PV×Nat)} (h:fa ρ=.ok (xs,ρ1)) (hl:xs.length<=An):∃ d,Aj AM fa ρ=.ok (.lst (xs.map (·.1)),d,ρ1):=⟨_,C5 h (by unfold AM;rw [if_pos hl])⟩
end QV
namespace K34
open PySem PySem.Spec PyProof.Rows L2 QQ QV
def Ha (t:List (List Int)) (i j:Nat):Bool:=(decide (0 < (i:Int)) && decide (g t (i - 1) j < g t i j)) || (decide (0 < (j:Int)) && decide (g t i (j - 1) < g t i j))
def Hs (a b:Nat) (t:List (List Int)):Bool:=(Bb a).all λ i=>(Bb b).all λ j=>!Ha t i j
def cF:Fx:=(AU (Cn (Ab (BH λ i j=>decide (j < i)) (Aa 1) (bC (.int 0))) (Ab (BH λ i j=>decide (j < i)) (Ab Ak (Ab Ak (Aa 0) (Aa 1)) (Aa 2)) (Ab Ak (Ab Ak (Aa 0) (Ab Ci (Aa 1) (bC (.int 1)))) (Aa 2)))) (Cn (Ab (BH λ i j=>decide (j < i)) (Aa 2) (bC (.int 0))) (Ab (BH λ i j=>decide (j < i)) (Ab Ak (Ab Ak (Aa 0) (Aa 1)) (Aa 2)) (Ab Ak (Ab Ak (Aa 0) (Aa 1)) (Ab Ci (Aa 2) (bC (.int 1)))))))
section
variable {a b c:Nat}{t:List (List Int)}
def Ux (ht:Tab a b t) {i j:Nat} (hi:i < a) (hj:j < b):cF [some (tb t,0),some (.int (i:Int),om),some (.int (j:Int),om)]=.ok (.bl (Ha t i j),om,[some (tb t,0),some (.int (i:Int),om),some (.int (j:Int),om)]):=by
 let Q:Ag:=[some (tb t,0),some (.int (i:Int),om),some (.int (j:Int),om)]
 have e0:Ab Ak (Ab Ak (Aa 0) (Aa 1)) (Aa 2) Q=.ok (.int (g t i j),om,Q):=J9 (i:=i) (j:=j) (d:=0) (e:=om) (e':=om) ht rfl rfl rfl hi hj;have s1:Ab Ci (Aa 1) (bC (.int 1)) Q=.ok (.int ((i:Int) - 1),om,Q):=FL (d:=om) (e:=om) rfl rfl;have s2:Ab Ci (Aa 2) (bC (.int 1)) Q=.ok (.int ((j:Int) - 1),om,Q):=FL (d:=om) (e:=om) rfl rfl;refine FH (FI (E2 (i:=(i:Int)) (j:=0) (d:=om) (e:=om) rfl rfl) (λ h=>?_) rfl) (λ _=>FI (E2 (i:=(j:Int)) (j:=0) (d:=om) (e:=om) rfl rfl) (λ h=>?_) rfl) rfl
 ·have h0:0 < i:=by have:=of_decide_eq_true h;omega
  rw [show (i:Int) - 1=((i - 1:Nat):Int) by omega] at s1;exact E2 e0 (J9 (i:=i - 1) (j:=j) (d:=0) (e':=om) ht rfl s1 rfl (by omega) hj)
 ·have h0:0 < j:=by have:=of_decide_eq_true h;omega
  rw [show (j:Int) - 1=((j - 1:Nat):Int) by omega] at s2;exact E2 e0 (J9 (i:=i) (j:=j - 1) (d:=0) (e:=om) ht rfl rfl s2 hi (by omega))
def Yb (ht:Tab a b t) (ha:a<=100) (hb:b<=100):Jm [tb t]=.ok (.bl (Hs a b t),om,.non):=by
 let Q (s1 s2:QQ.Slot):Ag:=[some (tb t,0),s1,s2]
 let I:Ag->Prop:=λ ρ=>∃ s1 s2,ρ=Q s1 s2;let IN:Fs:=A0 (bT cF) (As (bC (.bl false))) Al;let OUT:Fs:=CK BL (Ad (Aj BM (Ad (Ab Ak (Aa 0) (Aa 1)) (Ac))) (Ac)) (asgN 2) IN;have hin:∀ i,i < a->∀ s2,((Bb b).all (λ j=>!Ha t i j)=true/\∃ ρ',OUT (Q (some (.int (i:Int),om)) s2)=.nx ρ'/\I ρ')\/((Bb b).all (λ j=>!Ha t i j)=false/\∃ ρ',OUT (Q (some (.int (i:Int),om)) s2)=.rt (.bl false) om ρ'):=λ i hi s2=>by
  have hf:Ad (Aj BM (Ad (Ab Ak (Aa 0) (Aa 1)) (Ac))) (Ac) (Q (some (.int (i:Int),om)) s2)=.ok ([(.int (b:Int),om)],Q (some (.int (i:Int),om)) s2):=by
   have:=Oq (AQ (L7 (t:=t) (k:=(i:Int)) (f:=Aa 0) (g:=Aa 1) (ρ:=Q (some (.int (i:Int),om)) s2) (d:=0) (e:=om) rfl rfl (EX (by omega) (He (by rw [EN,ht.1];exact hi)))))
   rw [EN,ht.row hi] at this;exact AQ this
  rcases MZ (asg:=asgN 2) (body:=IN) (enc:=λ (k:Nat)=>.int (k:Int)) (λ j=>!Ha t i j) (λ ρ=>∃ s2,ρ=Q (some (.int (i:Int),om)) s2) (Bb b) (Q (some (.int (i:Int),om)) s2) ⟨s2,rfl⟩ (λ j hj ρ ⟨s,e⟩=>by
   subst e;refine ⟨Q (some (.int (i:Int),om)) (some (.int (j:Int),om)),rfl,?_⟩;have hc:=A5 (Ux ht hi (jd5.mp hj));cases hb:Ha t i j with
   | true=>rw [hb] at hc;exact .inr ⟨rfl,_,(A7 hc).trans rfl⟩
   | false=>rw [hb] at hc;exact .inl ⟨rfl,_,(Bi hc).trans rfl,_,rfl⟩) with ⟨h1,ρ',e,s,e2⟩ | ⟨h1,ρ',e⟩
  ·exact .inl ⟨h1,ρ',Hk hf (FD (by omega) (by omega)) e,_,_,e2⟩
  ·exact .inr ⟨h1,ρ',Hk hf (FD (by omega) (by omega)) e⟩
 have hf:Ad (Aj BM (Ad (Aa 0) (Ac))) (Ac) (Q none none)=.ok ([(.int (a:Int),om)],Q none none):=by
  have:=R8 (t:=t) (fa:=Ad (Aa 0) Ac) (ρ:=Q none none) (d:=0) rfl
  rw [ht.1] at this;exact AQ this
 rcases MZ (asg:=asgN 1) (body:=OUT) (enc:=λ (k:Nat)=>.int (k:Int)) (λ i=>(Bb b).all λ j=>!Ha t i j) I (Bb a) (Q none none) ⟨none,none,rfl⟩ (λ i hi ρ ⟨s1,s2,e⟩=>by
  subst e;exact ⟨Q (some (.int (i:Int),om)) s2,rfl,hin i (jd5.mp hi) s2⟩) with ⟨h1,ρ',e,s1,s2,e2⟩ | ⟨h1,ρ',e⟩
 ·have:Hs a b t=true:=h1
  rw [this];exact C4 rfl ((AD (Hk hf (FD (by omega) (by omega)) e)).trans (Dg (by rfl)))
 ·have:Hs a b t=false:=h1
  rw [this];exact C4 rfl (D9 (Hk hf (FD (by omega) (by omega)) e))
def UH (h:Hs a b t=false):¬ Pile a b c t:=λ p=>by
 have:Hs a b t=true:=by
  unfold Hs;rw [jc4];intro i hi;rw [jc4];intro j hj;rw [jd5] at hi hj;unfold Ha;rw [Kx,Bool.or_eq_false_iff,Tz,Tz];constructor
  ·by_cases h0:0 < i
   ·right
    have:=p.dn (i - 1) j (by omega) hj
    rw [show i - 1 + 1=i by omega] at this;exact decide_eq_false (by omega)
   ·exact .inl (decide_eq_false (by omega))
  ·by_cases h0:0 < j
   ·right
    have:=p.rt i (j - 1) hi (by omega)
    rw [show j - 1 + 1=j by omega] at this;exact decide_eq_false (by omega)
   ·exact .inl (decide_eq_false (by omega))
 rw [this] at h;cases h
theorem PN {asg:PV->Ag->Option Ag}{body:Fs} (I:Ag->Prop) (P:PV->Prop):∀ (els:List PV) (ρ:Ag),I ρ->(∀ x∈els,∀ ρ,I ρ->∃ ρ1,asg x ρ=some ρ1/\((∃ ρ2,body ρ1=.nx ρ2/\I ρ2)\/(∃ y d ρ2,body ρ1=.rt y d ρ2/\P y)))->(∃ ρ',BQ asg body els ρ=.nx ρ'/\I ρ')\/(∃ y d ρ',BQ asg body els ρ=.rt y d ρ'/\P y)
 | [],ρ,h,_=>.inl ⟨ρ,rfl,h⟩
 | x::xs,ρ,h,hb=>by
  obtain ⟨ρ1,e1,⟨ρ2,e2,h2⟩ | ⟨y,d,ρ2,e2,q⟩⟩:=hb x AI ρ h
  ·rcases PN I P xs ρ2 h2 (λ y hy=>hb y (AA _ hy)) with ⟨ρ',e,h'⟩ | ⟨y,d,ρ',e,q⟩
   ·exact .inl ⟨ρ',by unfold BQ;rw [e1];dsimp only;rw [e2];exact e,h'⟩
   ·exact .inr ⟨y,d,ρ',by unfold BQ;rw [e1];dsimp only;rw [e2];exact e,q⟩
  ·exact .inr ⟨y,d,ρ2,by unfold BQ;rw [e1];dsimp only;rw [e2],q⟩
def Pk:Fs:=(Af (Ai false 5 (Ab A4 (Aa 2) (Ab Ak (Aa 0) (bC (.int 0)))) [2,0])
 (Af (Ai false 6 (Ab A4 (Ab AH (Aa 2) (bC (.int 5))) (Ab Ak (Aa 0) (bC (.int 1)))) [2,0])
 (Af (CB 1 (Aa 5) (Aa 6) (Ab A4 (Ab AH (Aa 2) (bC (.int 25))) (Ab AJ (Ab Ak (Aa 0) (bC (.int 2))) (bC (.int 1)))))
 (Af (Ai false 2 (Ab AJ (Ab AH (Aa 2) (bC (.int 125))) (Ab A4 (Ab AV (bC (.int 17)) (Aa 2)) (bC (.int 1021)))) [2,2])
 (A0 (bT (Au BK (Aw Jm (Ad (Aa 1) (Ac))))) (CZ 1) Al)))))
def Ig (f:Fx):Fx:=(Ek BL (Ad (Ab Ak (Aa 0) (bC (.int 0))) (Ac)) 1 (asgN 7) Cv (Ab AV (Aj AM (Ad f (Ac))) (Ab Ak (Aa 0) (bC (.int 1)))))
def qr:Fs:=(Af (Ai false 1 (Ig (bC (.int 0))) [0])
 (Af (A0 (bT (Ab (Am false) (Aa 3) (bC (.int 8)))) (Ai false 1 (Ig (Ab Ci (Ab Ak (Aa 0) (bC (.int 2))) (bC (.int 1)))) [0,0]) Al)
 (Af (CB 1 (Au BN (bC (.int 1))) (Au BN (bC (.int 1))) (Ab AJ (Ab Ak (Ab Ak (Aa 1) (Au BN (bC (.int 1)))) (Au BN (bC (.int 1)))) (bC (.int 1))))
 (Af (A0 (bT (Ab (Am false) (Ab AV (Ab Ak (Aa 0) (bC (.int 0))) (Ab Ak (Aa 0) (bC (.int 1)))) (bC (.int 1)))) (Fe 1 (bC (.int 0)) (bC (.int 0))) Al)
 (CZ 1)))))
def BV (a b c:Nat) (w:Int) (x:PV) (l:Int) (s4 s5 s6:QQ.Slot):Ag:=[some (bx a b c,om),some (x,om),some (.int l,om),some (.int w,om),s4,s5,s6]
def Ry {w l:Int}{x:PV}{s4 s5 s6:QQ.Slot}{f:Fx}{v:Int} (ha:a<=100) (hb:b<=100) (hf:∀ r,f (BV a b c w x l s4 s5 s6++r)=.ok (.int v,om,BV a b c w x l s4 s5 s6++r)):Ig f (BV a b c w x l s4 s5 s6)=.ok (tb (Eu a b λ _ _=>v),om,BV a b c w x l s4 s5 s6):=by
 have z:=sz;let R:Ag:=BV a b c w x l s4 s5 s6;have e:=ML (n:=7) (en:=BL) (fa:=Ad (Ab Ak (Aa 0) (bC (.int 0))) (Ac)) (elt:=Ab AV (Aj AM (Ad f (Ac))) (Ab Ak (Aa 0) (bC (.int 1)))) (ρ:=R) (ρ1:=R) (as:=[(.int (a:Int),om)]) (lo:=0) (hi:=(a:Int)) (q:=λ _=>il (A6 b v)) rfl (FD (by omega) (by omega)) rfl (λ k _=>RO (v:=v) (n:=b) (d:=om) (e:=om) (C5 (AQ (hf _)) rfl) rfl (by omega)) (by omega);rw [show ((a:Int) - 0).toNat=a by omega] at e;have e2:tb (Eu a b λ _ _=>v)=.lst ((Bb a).map λ _=>il (A6 b v)):=by
  have r:(Bb b).map (λ _=>v)=A6 b v:=List.ext_getElem (by simp) λ k h1 h2=>by simp
  show PV.lst (((Bb a).map λ _=>(Bb b).map λ _=>v).map il)=_;rw [r,Ja];rfl
 rw [e2];exact e
def Nm {n:Nat} (h:1<=n):Bh n (-1)=some (n - 1):=by
 unfold Bh;rw [if_neg (by decide),if_pos (by omega)];congr 1;omega
def Z1 (ht:Tab a b t) (ha:1<=a) (hb:1<=b) {v:Int}:Cr (tb t) (-1) (-1) (.int v)=some (tb (Ca t (a - 1) (b - 1) v)):=by
 have e:=Lx (t:=t) (i:=a - 1) (j:=b - 1) (v:=v) (by rw [ht.1];omega) (by rw [ht.row (by omega)];omega);have n:∀ n:Nat,1<=n->Bh n ((n - 1:Nat):Int)=Bh n (-1):=λ n hn=>by
  rw [Nm hn];unfold Bh;rw [if_pos (by omega),if_pos (by omega)];rfl
 unfold Cr tb at e ⊢;dsimp only at e ⊢;have l1:(t.map il).length=a:=by rw [A9,ht.1]
 rw [l1,n a ha] at e;rw [l1];rw [Nm ha] at e ⊢;dsimp only at e ⊢;have e2:(t.map il)[a - 1]?=some (.lst ((t.getD (a - 1) []).map PV.int)):=by
  rw [Cs,He (by rw [ht.1];omega)];rfl
 rw [e2] at e ⊢;dsimp only at e ⊢;have l2:((t.getD (a - 1) []).map PV.int).length=b:=by rw [A9,ht.row (by omega)]
 rw [l2,n b hb] at e;rw [l2];exact e
def XE {w l:Int}{x:PV}{s4 s5 s6:QQ.Slot} (ha:1<=a/\a<=100) (hb:1<=b/\b<=100) (hc:1<=c):∃ y d ρ',qr (BV a b c w x l s4 s5 s6)=.rt y d ρ'/\Fq a b c y:=by
 have z:=sz;obtain ⟨v,e12⟩:∃ v:Int,∀ r:Fs,Af (Ai false 1 (Ig (bC (.int 0))) [0]) (Af (A0 (bT (Ab (Am false) (Aa 3) (bC (.int 8)))) (Ai false 1 (Ig (Ab Ci (Ab Ak (Aa 0) (bC (.int 2))) (bC (.int 1)))) [0,0]) Al) r) (BV a b c w x l s4 s5 s6)=r (BV a b c w (tb (Eu a b λ _ _=>v)) l s4 s5 s6):=by
  have v1:Ai false 1 (Ig (bC (.int 0))) [0] (BV a b c w x l s4 s5 s6)=.nx (BV a b c w (tb (Eu a b λ _ _=>0)) l s4 s5 s6):=setF (Ry (by omega) (by omega) λ _=>rfl) (show 1 < 7 by decide) rfl;have t2:=A5 (Ff (neg:=false) (f:=Aa 3) (g:=bC (.int 8)) (ρ:=BV a b c w (tb (Eu a b λ _ _=>0)) l s4 s5 s6) (i:=w) (j:=8) (d:=om) (e:=om) rfl rfl);rw [Jb] at t2;by_cases h8:w=8
  ·rw [decide_eq_true h8] at t2;have v2:Ai false 1 (Ig (Ab Ci (Ab Ak (Aa 0) (bC (.int 2))) (bC (.int 1)))) [0,0] (BV a b c w (tb (Eu a b λ _ _=>0)) l s4 s5 s6)=.nx (BV a b c w (tb (Eu a b λ _ _=>(c:Int) - 1)) l s4 s5 s6):=setF (Ry (by omega) (by omega) λ _=>FL (i:=(c:Int)) (j:=1) (d:=om) (e:=om) rfl rfl) (show 1 < 7 by decide) rfl;exact ⟨(c:Int) - 1,λ r=>(AD v1).trans (AD ((A7 t2).trans v2))⟩
  ·rw [decide_eq_false h8] at t2;exact ⟨0,λ r=>(AD v1).trans (Co t2)⟩
 let u:=Eu a b λ _ _=>v;have hu:Tab a b u:=WC;let Q (x:PV):Ag:=BV a b c w x l s4 s5 s6;have ng:Au BN (bC (.int 1)) (Q (tb u))=.ok (.int (-1),om,Q (tb u)):=rfl;have at1:∀ {α:Type}{xs:List α}{y:α}{n:Nat},xs.length=n->1<=n->xs[n - 1]?=some y->Bj xs (-1)=some y:=λ hl h1 h2=>by
  unfold Bj;rw [hl,Nm h1];exact h2
 have e0:=Hn (xs:=u.getD (a - 1) []) (k:=-1) (x:=g u (a - 1) (b - 1)) (L7 (t:=u) (k:=-1) (f:=Aa 1) (ρ:=Q (tb u)) (d:=0) rfl ng (at1 hu.1 ha.1 (He (by rw [hu.1];omega)))) ng (at1 (hu.row (by omega)) hb.1 (J5 (by rw [hu.row (by omega)];omega)));rw [show g u (a - 1) (b - 1)=v from Sk (by omega) (by omega)] at e0;have v3:CB 1 (Au BN (bC (.int 1))) (Au BN (bC (.int 1))) (Ab AJ (Ab Ak (Ab Ak (Aa 1) (Au BN (bC (.int 1)))) (Au BN (bC (.int 1)))) (bC (.int 1))) (Q (tb u))=.nx (Q (tb (Ca u (a - 1) (b - 1) (v + 1)))):=
  JB (x:=tb u) (CC e0 (j:=1) (e:=om) rfl) rfl ng ng (Z1 hu ha.1 hb.1) rfl rfl
 let u':=Ca u (a - 1) (b - 1) (v + 1);have hu':Tab a b u':=Lf hu (by omega);have t4:=A5 (Ff (neg:=false) (g:=bC (.int 1)) (ρ:=Q (tb u')) (j:=1) (e:=om) (DL (f:=Ab Ak (Aa 0) (bC (.int 0))) (g:=Ab Ak (Aa 0) (bC (.int 1))) (i:=(a:Int)) (j:=(b:Int)) (d:=om) (e:=om) rfl rfl (.inl (by omega))) rfl);rw [Jb] at t4;by_cases h1:(a:Int) * b=1
 ·rw [decide_eq_true h1] at t4;have hab:a=1/\b=1:=by
   have:a * b=1:=by exact_mod_cast h1
   exact ⟨Nat.eq_one_of_mul_eq_one_right this,Nat.eq_one_of_mul_eq_one_left this⟩
  obtain ⟨rfl,rfl⟩:=hab;refine ⟨.lst [.lst [.int (v + 1),.int 0]],om,Q (.lst [.lst [.int (v + 1),.int 0]]),?_,Hh (by omega) (by omega) hc rfl rfl⟩;refine (e12 _).trans ((AD v3).trans ((AD ((A7 t4).trans (Se (x:=tb u') (x':=.lst [.lst [.int (v + 1),.int 0]]) (k:=0) (y:=.int 0) (d1:=om) (d2:=om) rfl rfl rfl rfl rfl rfl))).trans rfl))
 ·rw [decide_eq_false h1] at t4;refine ⟨tb u',om,Q (tb u'),(e12 _).trans ((AD v3).trans ((Co t4).trans rfl)),L3 hu' ha hb hc λ p=>?_⟩;have h2:2<=a\/2<=b:=by
   by_cases h:a=1
   ·by_cases h':b=1
    ·subst h;subst h';exact absurd rfl h1
    ·omega
   ·omega
  have ge:∀ i j,i < a->j < b->g u' i j=if i=a - 1/\j=b - 1 then v + 1 else v:=λ i j hi hj=>by
   rw [show g u' i j=_ from Nv hu (by omega) (by omega),show g u i j=v from Sk hi hj]
  rcases h2 with h2 | h2
  ·have:=p.dn (a - 2) (b - 1) (by omega) (by omega)
   rw [ge _ _ (by omega) (by omega),ge _ _ (by omega) (by omega),if_pos (by omega),if_neg (by omega)] at this;omega
  ·have:=p.rt (a - 1) (b - 2) (by omega) (by omega)
   rw [ge _ _ (by omega) (by omega),ge _ _ (by omega) (by omega),if_pos (by omega),if_neg (by omega)] at this;omega
theorem Yy {w l:Int}{s4 s5 s6:QQ.Slot} (ht:Tab a b t) (ha:1<=a/\a<=100) (hb:1<=b/\b<=100) (hc:1<=c):∃ t' l' s5' s6',Tab a b t'/\((Pk (BV a b c w (tb t) l s4 s5 s6)=.nx (BV a b c w (tb t') l' s4 s5' s6'))\/(Pk (BV a b c w (tb t) l s4 s5 s6)=.rt (tb t') om (BV a b c w (tb t') l' s4 s5' s6')/\Fq a b c (tb t'))):=by
 let Q (x:PV) (l:Int) (s5 s6:QQ.Slot):Ag:=BV a b c w x l s4 s5 s6;obtain ⟨i,hi⟩:=Dv (Dm l (show (a:Int)≠0 by omega));have hi2:=DI l (show (0:Int) < a by omega);obtain ⟨j,hj⟩:=Dv (Dm (l / 5) (show (b:Int)≠0 by omega));have hj2:=DI (l / 5) (show (0:Int) < b by omega);have v1:Ai false 5 (Ab A4 (Aa 2) (Ab Ak (Aa 0) (bC (.int 0)))) [2,0] (Q (tb t) l s5 s6)=.nx (Q (tb t) l (some (.int (i:Int),om)) s6):=by
  have e:=Cg (f:=Aa 2) (g:=Ab Ak (Aa 0) (bC (.int 0))) (ρ:=Q (tb t) l s5 s6) (i:=l) (j:=(a:Int)) (d:=om) (e:=om) rfl rfl (by omega);rw [hi] at e;exact setF e (show 5 < 7 by decide) rfl
 have v2:Ai false 6 (Ab A4 (Ab AH (Aa 2) (bC (.int 5))) (Ab Ak (Aa 0) (bC (.int 1)))) [2,0] (Q (tb t) l (some (.int (i:Int),om)) s6)=.nx (Q (tb t) l (some (.int (i:Int),om)) (some (.int (j:Int),om))):=by
  have e:=Cg (g:=Ab Ak (Aa 0) (bC (.int 1))) (ρ:=Q (tb t) l (some (.int (i:Int),om)) s6) (j:=(b:Int)) (e:=om) (CM (f:=Aa 2) (g:=bC (.int 5)) (i:=l) (j:=5) (d:=om) (e:=om) rfl rfl (by decide) (by decide)) rfl (by omega);rw [hj] at e;exact setF e (show 6 < 7 by decide) rfl
 let R (x:PV) (l:Int):Ag:=Q x l (some (.int (i:Int),om)) (some (.int (j:Int),om));have e3:=Cg (ρ:=R (tb t) l) (CM (f:=Aa 2) (g:=bC (.int 25)) (i:=l) (j:=25) (d:=om) (e:=om) rfl rfl (by decide) (by decide)) (CC (f:=Ab Ak (Aa 0) (bC (.int 2))) (g:=bC (.int 1)) (i:=(c:Int)) (j:=1) (d:=om) (e:=om) rfl rfl) (by omega);let v:=l / 25 % ((c:Int) + 1);have v3:CB 1 (Aa 5) (Aa 6) (Ab A4 (Ab AH (Aa 2) (bC (.int 25))) (Ab AJ (Ab Ak (Aa 0) (bC (.int 2))) (bC (.int 1)))) (R (tb t) l)=.nx (R (tb (Ca t i j v)) l):=
  JB (x:=tb t) (a:=(i:Int)) (b:=(j:Int)) (d1:=om) (d2:=om) e3 rfl rfl rfl (Lx (by rw [ht.1];omega) (by rw [ht.row (by omega)];omega)) rfl rfl
 let t':=Ca t i j v;have ht':Tab a b t':=Lf ht (by omega);have e4:=CC (ρ:=R (tb t') l) (CM (f:=Aa 2) (g:=bC (.int 125)) (i:=l) (j:=125) (d:=om) (e:=om) rfl rfl (by decide) (by decide)) (Cg (g:=bC (.int 1021)) (j:=1021) (e:=om) (DL (f:=bC (.int 17)) (g:=Aa 2) (i:=17) (j:=l) (d:=om) (e:=om) rfl rfl (.inl (by decide))) rfl (by decide));let l':=l / 125 + 17 * l % 1021;have v4:Ai false 2 (Ab AJ (Ab AH (Aa 2) (bC (.int 125))) (Ab A4 (Ab AV (bC (.int 17)) (Aa 2)) (bC (.int 1021)))) [2,2] (R (tb t') l)=.nx (R (tb t') l'):=setF e4 (show 2 < 7 by decide) rfl;have t5:=A5 (E4 (Bs (F:=Jm) (fa:=Ad (Aa 1) Ac) (ρ:=R (tb t') l') (xs:=[(tb t',0)]) rfl (Yb ht' (by omega) (by omega))));refine ⟨t',l',some (.int (i:Int),om),some (.int (j:Int),om),ht',?_⟩;cases hf:Hs a b t' with
 | true=>
  rw [hf] at t5;exact .inl ((AD v1).trans ((AD v2).trans ((AD v3).trans ((AD v4).trans ((Bi t5).trans rfl)))))
 | false=>
  rw [hf] at t5;exact .inr ⟨(AD v1).trans ((AD v2).trans ((AD v3).trans ((AD v4).trans ((A7 t5).trans rfl)))),L3 ht' ha hb hc (UH hf)⟩
def Yx {w l:Int} (ht:Tab a b t) (ha:1<=a/\a<=100) (hb:1<=b/\b<=100) (hc:1<=c):∃ y d,Ij [bx a b c,tb t,.int l,.int w]=.ok (y,d,.non)/\Fq a b c y:=by
 have fin:∀ {y d ρ'},K9 (BV a b c w (tb t) l none none none)=.rt y d ρ'->Ij [bx a b c,tb t,.int l,.int w]=.ok (y,d,.non):=λ {y d ρ'} e=>by
  show Ht 4 3 K9 _=_;unfold Ht;rw [if_pos (show [bx (a:Int) b c,tb t,PV.int l,PV.int w].length=4 from rfl)];show (match K9 (BV a b c w (tb t) l none none none) with | .rt y d _=>_ | .nx _=>_ | _=>_)=_;rw [e]
 have hf:Ad (bC (.int 6)) (Ac) (BV a b c w (tb t) l none none none)=.ok ([(.int ((6:Nat):Int),om)],BV a b c w (tb t) l none none none):=rfl;rcases PN (asg:=asgN 4) (body:=Pk) (λ ρ=>∃ t l s4 s5 s6,Tab a b t/\ρ=BV a b c w (tb t) l s4 s5 s6) (Fq a b c) ((Bb 6).map λ (k:Nat)=>PV.int (k:Int)) (BV a b c w (tb t) l none none none) ⟨t,l,none,none,none,ht,rfl⟩ (λ x hx ρ ⟨t,l,s4,s5,s6,ht,e⟩=>by
  subst e;refine ⟨BV a b c w (tb t) l (some (x,dv x)) s5 s6,rfl,?_⟩;obtain ⟨t',l',s5',s6',ht',h | ⟨h,hb⟩⟩:=Yy (w:=w) (l:=l) (s4:=some (x,dv x)) (s5:=s5) (s6:=s6) ht ha hb hc
  ·exact .inl ⟨_,h,t',l',_,s5',s6',ht',rfl⟩
  ·exact .inr ⟨_,_,_,h,hb⟩) with ⟨ρ',e,t1,l1,s4,s5,s6,_,e2⟩ | ⟨y,d,ρ',e,hB⟩
 ·subst e2;obtain ⟨y,d,ρ',h,hB⟩:=XE (w:=w) (l:=l1) (x:=tb t1) (s4:=s4) (s5:=s5) (s6:=s6) ha hb hc;exact ⟨y,d,fin ((AD (Hk hf (FD (by decide) (by decide)) e)).trans h),hB⟩
 ·exact ⟨y,d,fin (D9 (Hk hf (FD (by decide) (by decide)) e)),hB⟩
end
def B9:Fs:=CZ 3
def B8:Fs:=Af (A0 (bT (Ab (BH λ i j=>decide (j < i)) (Aa 6) (bC (.int 7)))) (GC Ij 0 3 (Ad (Ab AH (Aa 2) (bC (.int 160))) (Ad (Aa 6) (Ac)))) Al) B9
def B7:Fs:=Af (A0 (bT (Ab (Am false) (Aa 6) (bC (.int 7)))) (As (Ab Ak (Aj AM (Ad (bC .non) (Ad (bC (.str "pile")) (Ad (Aj Fd (Ad (Aa 3) (Ac))) (Ac))))) (Ab A4 (Ab AH (Aa 2) (bC (.int 160))) (bC (.int 3))))) Al) B8
def B6:Fs:=Af (A0 (bT (Ab (Am false) (Aa 6) (bC (.int 6)))) (CB 3 (bC (.int 0)) (bC (.int 0)) (bC (.bl true))) Al) B7
def B5:Fs:=Af (A0 (bT (Ab (Am false) (Aa 6) (bC (.int 5)))) (Hw 3 (Aa 4) (Aj Fd (Ad (Ab Ak (Aa 3) (Aa 4)) (Ac)))) Al) B6
def B4:Fs:=Af (A0 (bT (Cn (Ab (Am false) (Aa 6) (bC (.int 4))) (Ab (Am false) (Ab A4 (Ab AH (Aa 2) (bC (.int 160))) (bC (.int 2))) (bC (.int 0))))) (Fe 3 (Aa 4) (bC (.int 0))) (A0 (bT (Ab (Am false) (Aa 6) (bC (.int 4)))) (Hv 3 (Aa 4)) Al)) B5
def B3:Fs:=Af (A0 (bT (Ab (Am false) (Aa 6) (bC (.int 3)))) (IV 3) Al) B4
def B2:Fs:=Af (A0 (bT (Ab (Am false) (Aa 6) (bC (.int 2)))) (BE 3 (Ab AV (Aj AM (Ad (bC (.int 0)) (Ac))) (Ab Ak (Aa 0) (bC (.int 1)))) [0]) Al) B3
def B1:Fs:=Af (A0 (bT (Ab (Am false) (Aa 6) (bC (.int 1)))) (CB 3 (Aa 4) (Aa 5) (Ab Ci (Au BN (bC (.int 1))) (Ab A4 (Ab AH (Aa 2) (bC (.int 160))) (bC (.int 9))))) Al) B2
def B0:Fs:=Af (A0 (bT (Ab (Am false) (Aa 6) (bC (.int 0)))) (CB 3 (Aa 4) (Aa 5) (Ab AJ (Ab AJ (Ab Ak (Aa 0) (bC (.int 2))) (bC (.int 1))) (Ab A4 (Ab AH (Aa 2) (bC (.int 160))) (bC (.int 9))))) Al) B1
def BB (a b c:Nat) (t:List (List Int)) (l:Int) (i j:Nat) (w:Int) (x:PV) (d:Nat):Ag:=[some (bx a b c,0),some (tb t,0),some (.int l,om),some (x,d),some (.int (i:Int),om),some (.int (j:Int),om),some (.int w,om)]
section
variable {a b c i j d:Nat}{t:List (List Int)}{l w:Int}{x:PV}
def tw (n:Int):bT (Ab (Am false) (Aa 6) (bC (.int n))) (BB a b c t l i j w x d)=.ok (decide (w=n),BB a b c t l i j w x d):=by
 have:=A5 (Ff (neg:=false) (f:=Aa 6) (g:=bC (.int n)) (ρ:=BB a b c t l i j w x d) (i:=w) (j:=n) (d:=om) (e:=om) rfl rfl)
 rw [Jb] at this;exact this
def GR {n:Int} (h:w≠n):bT (Ab (Am false) (Aa 6) (bC (.int n))) (BB a b c t l i j w x d)=.ok (false,BB a b c t l i j w x d):=by
 rw [tw,decide_eq_false h]
def Gg (h:w≠0):B0 (BB a b c t l i j w x d)=B1 (BB a b c t l i j w x d):=Co (GR h)
def Gf (h:w≠1):B1 (BB a b c t l i j w x d)=B2 (BB a b c t l i j w x d):=Co (GR h)
def Gb (h:w≠2):B2 (BB a b c t l i j w x d)=B3 (BB a b c t l i j w x d):=Co (GR h)
def Ga (h:w≠3):B3 (BB a b c t l i j w x d)=B4 (BB a b c t l i j w x d):=Co (GR h)
def FZ (h:w≠5):B5 (BB a b c t l i j w x d)=B6 (BB a b c t l i j w x d):=Co (GR h)
def FY (h:w≠6):B6 (BB a b c t l i j w x d)=B7 (BB a b c t l i j w x d):=Co (GR h)
def FX (h:w≠7):B7 (BB a b c t l i j w x d)=B8 (BB a b c t l i j w x d):=Co (GR h)
def GV (h:w≠4):B4 (BB a b c t l i j w x d)=B5 (BB a b c t l i j w x d):=by
 have e0:=Ff (neg:=false) (f:=Aa 6) (g:=bC (.int 4)) (ρ:=BB a b c t l i j w x d) (i:=w) (j:=4) (d:=om) (e:=om) rfl rfl;rw [Jb,decide_eq_false h] at e0;exact AD ((Bi (A5 (FI (b:=false) e0 (λ z=>nomatch z) rfl))).trans ((Bi (GR h)).trans rfl))
def GU (h:w<=7):B8 (BB a b c t l i j w x d)=.rt x d (BB a b c t l i j w x d):=by
 have e0:=A5 (E2 (p:=λ i j=>decide (j < i)) (f:=Aa 6) (g:=bC (.int 7)) (ρ:=BB a b c t l i j w x d) (i:=w) (j:=7) (d:=om) (e:=om) rfl rfl);rw [decide_eq_false (by omega)] at e0;exact (Co e0).trans rfl
def FN (n:Int) (hn:0 < n) (m:Int) (hm:m=l / 160 % n):Ab A4 (Ab AH (Aa 2) (bC (.int 160))) (bC (.int n)) (BB a b c t l i j w x d)=.ok (.int m,om,BB a b c t l i j w x d):=by
 rw [hm];exact Cg (CM (f:=Aa 2) (g:=bC (.int 160)) (i:=l) (j:=160) (d:=om) (e:=om) rfl rfl (by decide) (by decide)) (j:=n) (e:=om) rfl hn
def Yt {rows cells:List PV}{k j:Nat}{y:PV} (hk:rows[k]?=some (.lst cells)) (hj:j < cells.length):Cr (.lst rows) (k:Int) (j:Int) y=some (.lst (rows.set k (.lst (cells.set j y)))):=by
 unfold Cr;dsimp only;rw [T9 (ja7.mp hk).1];dsimp only;rw [hk];dsimp only;rw [T9 hj]
def Yw {F:Fn}{j i:Nat}{fa:Fa}{ρ ρ1:Ag}{xs:List (PV×Nat)}{pj pi:PV×Nat}{xj xi y z:PV}{dj d:Nat} (h1:ρ[j]?=some (some pj)) (h2:ρ[i]?=some (some pi)) (h3:fa ρ=.ok (xs,ρ1)) (h4:ρ1[j]?=some (some (xj,dj))) (h5:ρ1[i]?=some (some (xi,om))) (hf:DN xj=true) (ha:E7 (xs.map (·.1))=true) (hF:F (xj::xi::xs.map (·.1))=.ok (y,d,z)):GC F j i fa ρ=.rt y d (A6 ρ1.length none):=by
 unfold GC;rw [h1,h2];dsimp only;rw [h3];dsimp only;rw [h4,h5];dsimp only;rw [if_pos ⟨hf,rfl,ha⟩,hF]
def L0 {y:PV} (ht:Tab a b t) (ha:1<=a/\a<=100) (hb:1<=b/\b<=100) (hc:1<=c) (hi:i < a) (hy:C7 9 y=true) (h:Cq b c y=false):Fq a b c (.lst ((t.map il).set i y)):=by
 rw [<- WX (by rw [A9,ht.1];exact hi)];exact Vv ht ha hb hc hi hy h
def Pe (p:Pile a b c t) (ha:1<=a/\a<=100) (hb:1<=b/\b<=100) (hc:1<=c) (hi:i < a) (hj:j < b) (hw:0<=w/\w < 10):∃ y d ρ',B0 (BB a b c t l i j w (tb t) om)=.rt y d ρ'/\Fq a b c y:=by
 have z:=sz;have ht:=p.tab;let R (x:PV) (d:Nat):Ag:=BB a b c t l i j w x d;have ti:t[i]?=some (t.getD i []):=He (by rw [ht.1];exact hi);have li:(t.getD i []).length=b:=ht.row hi;have rows:(t.map il)[i]?=some (.lst ((t.getD i []).map PV.int)):=by rw [Cs,ti];rfl
 have ixi:Bh (t.map il).length (i:Int)=some i:=by
  unfold Bh;rw [A9,ht.1,if_pos (by omega),if_pos (by omega)];rfl
 have m9:=Dm (l / 160) (show (9:Int)≠0 by decide);have hw':w=0\/w=1\/w=2\/w=3\/w=4\/w=5\/w=6\/w=7\/w=8\/w=9:=by omega
 rcases hw' with rfl | rfl | rfl | rfl | rfl | rfl | rfl | rfl | hw8
 ·have e:=CC (ρ:=R (tb t) om) (CC (f:=Ab Ak (Aa 0) (bC (.int 2))) (g:=bC (.int 1)) (i:=(c:Int)) (j:=1) (d:=om) (e:=om) rfl rfl) (FN 9 (by decide) _ rfl);have v0:CB 3 (Aa 4) (Aa 5) (Ab AJ (Ab AJ (Ab Ak (Aa 0) (bC (.int 2))) (bC (.int 1))) (Ab A4 (Ab AH (Aa 2) (bC (.int 160))) (bC (.int 9)))) (R (tb t) om)=.nx (R (tb (Ca t i j ((c:Int) + 1 + l / 160 % 9))) om):=
   JB (x:=tb t) (a:=(i:Int)) (b:=(j:Int)) (d1:=om) (d2:=om) e rfl rfl rfl (Lx (by rw [ht.1];exact hi) (by rw [li];exact hj)) rfl rfl
  refine ⟨tb (Ca t i j ((c:Int) + 1 + l / 160 % 9)),om,_,(AD ((A7 (tw 0)).trans v0)).trans ((Gf (by decide)).trans ((Gb (by decide)).trans ((Ga (by decide)).trans ((GV (by decide)).trans ((FZ (by decide)).trans ((FY (by decide)).trans ((FX (by decide)).trans (GU (by decide))))))))),L3 (Lf ht hi) ha hb hc λ q=>?_⟩
  have:=q.hi i j hi hj
  rw [Nv ht hi hj,if_pos ⟨rfl,rfl⟩] at this;omega
 ·have e:=FL (ρ:=R (tb t) om) (f:=Au BN (bC (.int 1))) (i:=-1) (d:=om) rfl (FN 9 (by decide) _ rfl);have v0:CB 3 (Aa 4) (Aa 5) (Ab Ci (Au BN (bC (.int 1))) (Ab A4 (Ab AH (Aa 2) (bC (.int 160))) (bC (.int 9)))) (R (tb t) om)=.nx (R (tb (Ca t i j (-1 - l / 160 % 9))) om):=
   JB (x:=tb t) (a:=(i:Int)) (b:=(j:Int)) (d1:=om) (d2:=om) e rfl rfl rfl (Lx (by rw [ht.1];exact hi) (by rw [li];exact hj)) rfl rfl
  refine ⟨tb (Ca t i j (-1 - l / 160 % 9)),om,_,(Gg (by decide)).trans ((AD ((A7 (tw 1)).trans v0)).trans ((Gb (by decide)).trans ((Ga (by decide)).trans ((GV (by decide)).trans ((FZ (by decide)).trans ((FY (by decide)).trans ((FX (by decide)).trans (GU (by decide))))))))),L3 (Lf ht hi) ha hb hc λ q=>?_⟩
  have:=q.lo i j hi hj
  rw [Nv ht hi hj,if_pos ⟨rfl,rfl⟩] at this;omega
 ·have e:=RO (f:=Aj AM (Ad (bC (.int 0)) (Ac))) (g:=Ab Ak (Aa 0) (bC (.int 1))) (ρ:=R (tb t) om) (v:=0) (n:=b) (d:=om) (e:=om) rfl rfl (by omega);have v0:BE 3 (Ab AV (Aj AM (Ad (bC (.int 0)) (Ac))) (Ab Ak (Aa 0) (bC (.int 1)))) [0] (R (tb t) om)=.nx (R (.lst (t.map il++[il (A6 b 0)])) om):=
   Mv (xs0:=t.map il) (xs:=t.map il) (d0:=999) (d:=om) rfl e rfl (by decide) (by rw [A9,ht.1];omega) rfl
  refine ⟨.lst (t.map il++[il (A6 b 0)]),om,_,(Gg (by decide)).trans ((Gf (by decide)).trans ((AD ((A7 (tw 2)).trans v0)).trans ((Ga (by decide)).trans ((GV (by decide)).trans ((FZ (by decide)).trans ((FY (by decide)).trans ((FX (by decide)).trans (GU (by decide))))))))),Hh ha.1 hb.1 hc (Hq (by rw [Bn,A9,ht.1];show a + 1<=1000;omega) λ y hy=>?_) (PX (by rw [Bn,A9,ht.1];show ((a + 1:Nat):Int)≠a;omega))⟩;rcases jb8.mp hy with hy | hy
  ·obtain ⟨r,hr,rfl⟩:=je0.mp hy;exact Hu (by rw [ht.2 r hr];omega)
  ·rw [jb6.mp hy];exact Hu (by rw [Fj];omega)
 ·have v0:IV 3 (R (tb t) om)=.nx (R (.lst (t.map il).dropLast) om):=by
   cases et:t with
   | nil=>have:=ht.1;rw [et] at this;simp at this;omega
   | cons r0 t0=>rfl
  refine ⟨.lst (t.map il).dropLast,om,_,(Gg (by decide)).trans ((Gf (by decide)).trans ((Gb (by decide)).trans ((AD ((A7 (tw 3)).trans v0)).trans ((GV (by decide)).trans ((FZ (by decide)).trans ((FY (by decide)).trans ((FX (by decide)).trans (GU (by decide))))))))),Hh ha.1 hb.1 hc (Hq (by rw [Kz,A9,ht.1];omega) λ y hy=>?_) (PX (by rw [Kz,A9,ht.1];omega))⟩;obtain ⟨r,hr,rfl⟩:=je0.mp (Tu _ hy);exact Hu (by rw [ht.2 r hr];omega)
 ·have e0:=Ff (neg:=false) (f:=Aa 6) (g:=bC (.int 4)) (ρ:=R (tb t) om) (i:=4) (j:=4) (d:=om) (e:=om) rfl rfl;have e1:=Ff (neg:=false) (g:=bC (.int 0)) (ρ:=R (tb t) om) (j:=0) (e:=om) (FN 2 (by decide) _ rfl) rfl;have tt:=A5 (FI e0 (λ _=>e1) rfl);rw [Jb,Jb,decide_eq_true (show (4:Int)=4 from rfl),Bool.true_and] at tt;by_cases h2:l / 160 % 2=0
  ·rw [decide_eq_true h2] at tt;have v0:Fe 3 (Aa 4) (bC (.int 0)) (R (tb t) om)=.nx (R (tb (t.set i (t.getD i []++[0]))) om):=Se (x:=tb t) (k:=(i:Int)) (y:=.int 0) (d1:=om) (d2:=om) rfl rfl rfl (Wm ti (by rw [li];omega)) rfl rfl;refine ⟨tb (t.set i (t.getD i []++[0])),om,_,(Gg (by decide)).trans ((Gf (by decide)).trans ((Gb (by decide)).trans ((Ga (by decide)).trans ((AD ((A7 tt).trans v0)).trans ((FZ (by decide)).trans ((FY (by decide)).trans ((FX (by decide)).trans (GU (by decide))))))))),?_⟩;unfold tb;rw [M3];exact L0 ht ha hb hc hi (Hu (by rw [Bn,li];show b + 1<=1000;omega)) (Qa (by rw [A9,Bn,li];show ((b + 1:Nat):Int)≠b;omega))
  ·rw [decide_eq_false h2] at tt;have v0:Hv 3 (Aa 4) (R (tb t) om)=.nx (R (.lst ((t.map il).set i (.lst ((t.getD i []).map PV.int).dropLast))) om):=by
    unfold Hv;show (match Bh (t.map il).length (i:Int) with | some p=>_ | none=>_)=_;rw [ixi];dsimp only;rw [rows];cases er:t.getD i [] with
    | nil=>rw [er] at li;simp at li;omega
    | cons r0 rr=>rfl
   refine ⟨.lst ((t.map il).set i (.lst ((t.getD i []).map PV.int).dropLast)),om,_,(Gg (by decide)).trans ((Gf (by decide)).trans ((Gb (by decide)).trans ((Ga (by decide)).trans ((AD ((Bi tt).trans ((A7 (tw 4)).trans v0))).trans ((FZ (by decide)).trans ((FY (by decide)).trans ((FX (by decide)).trans (GU (by decide))))))))),L0 ht ha hb hc hi ?_ (Qa (by rw [Kz,A9,li];omega))⟩;exact Hq (by rw [Kz,A9,li];omega) λ y hy=>by
    obtain ⟨k,_,rfl⟩:=je0.mp (Tu _ hy);rfl
 ·have e:=C5 (op:=Fd) (z:=.tup ((t.getD i []).map PV.int)) (c:=0) (AQ (L7 (t:=t) (k:=(i:Int)) (f:=Aa 3) (g:=Aa 4) (ρ:=R (tb t) om) (d:=0) (e:=om) rfl rfl (EX (by omega) (by rw [EN];exact ti)))) rfl;have fl:DN (.tup ((t.getD i []).map PV.int))=true:=by
   show atoms _=true;induction t.getD i [] with
   | nil=>rfl
   | cons r0 rr ih=>exact ih
  have v0:Hw 3 (Aa 4) (Aj Fd (Ad (Ab Ak (Aa 3) (Aa 4)) (Ac))) (R (tb t) om)=.nx (R (.lst ((t.map il).set i (.tup ((t.getD i []).map PV.int)))) om):=by
   unfold Hw;rw [e];show (match Eb (tb t) (.int (i:Int)) (.tup ((t.getD i []).map PV.int)) with | some x'=>_ | none=>_)=_;unfold Eb tb;dsimp only;rw [ixi];dsimp only;rw [if_pos ⟨by decide,fl⟩];rfl
  refine ⟨.lst ((t.map il).set i (.tup ((t.getD i []).map PV.int))),om,_,(Gg (by decide)).trans ((Gf (by decide)).trans ((Gb (by decide)).trans ((Ga (by decide)).trans ((GV (by decide)).trans ((AD ((A7 (tw 5)).trans v0)).trans ((FY (by decide)).trans ((FX (by decide)).trans (GU (by decide))))))))),L0 ht ha hb hc hi (Sl (by rw [A9,li];omega) λ y hy=>?_) rfl⟩;obtain ⟨k,_,rfl⟩:=je0.mp hy;rfl
 ·have r0:(t.map il)[0]?=some (.lst ((t.getD 0 []).map PV.int)):=by rw [Cs,He (by rw [ht.1];omega)];rfl
  have l0:(t.getD 0 []).length=b:=ht.row (by omega);have px:Cr (tb t) 0 0 (.bl true)=some (.lst ((t.map il).set 0 (.lst (((t.getD 0 []).map PV.int).set 0 (.bl true))))):=Yt (k:=0) (j:=0) r0 (by rw [A9,l0];omega);have v0:CB 3 (bC (.int 0)) (bC (.int 0)) (bC (.bl true)) (R (tb t) om)=.nx (R (.lst ((t.map il).set 0 (.lst (((t.getD 0 []).map PV.int).set 0 (.bl true))))) om):=
   JB (x:=tb t) (a:=0) (b:=0) (d0:=om) (d1:=om) (d2:=om) rfl rfl rfl rfl px rfl rfl
  refine ⟨.lst ((t.map il).set 0 (.lst (((t.getD 0 []).map PV.int).set 0 (.bl true)))),om,_,(Gg (by decide)).trans ((Gf (by decide)).trans ((Gb (by decide)).trans ((Ga (by decide)).trans ((GV (by decide)).trans ((FZ (by decide)).trans ((AD ((A7 (tw 6)).trans v0)).trans ((FX (by decide)).trans (GU (by decide))))))))),L0 ht ha hb hc (by omega) (Hq (by rw [C1,A9,l0];omega) λ y hy=>?_) (Xz (x:=.bl true) (List.mem_set (by rw [A9,l0];omega) _) rfl)⟩;rcases T6 hy with h | rfl
  ·obtain ⟨k,_,rfl⟩:=je0.mp h;rfl
  ·rfl
 ·obtain ⟨m,hm⟩:=Dv (Dm (l / 160) (show (3:Int)≠0 by decide));have hm3:=DI (l / 160) (show (0:Int) < 3 by decide);obtain ⟨dl,el⟩:=Fw (A1 (f:=bC .non) (x:=.non) (d:=om) (ρ:=R (tb t) om) rfl (A1 (f:=bC (.str "pile")) (x:=.str "pile") (d:=om) rfl (AQ (C5 (op:=Fd) (z:=.tup (t.map il)) (c:=0) (AQ (f:=Aa 3) (x:=tb t) (d:=0) rfl) rfl)))) (by show 3<=An;omega);have hk:m < ([(.non:PV),.str "pile",.tup (t.map il)]).length:=by show m < 3;omega
  have e:=Nl (k:=m) el (FN 3 (by decide) (m:Int) hm.symm) hk;refine ⟨_,_,_,(Gg (by decide)).trans ((Gf (by decide)).trans ((Gb (by decide)).trans ((Ga (by decide)).trans ((GV (by decide)).trans ((FZ (by decide)).trans ((FY (by decide)).trans (D9 ((A7 (tw 7)).trans (Dg e))))))))),?_⟩
  have:m=0\/m=1\/m=2:=by omega
  rcases this with rfl | rfl | rfl
  ·exact Hh ha.1 hb.1 hc rfl rfl
  ·exact Hh ha.1 hb.1 hc rfl rfl
  ·refine Hh ha.1 hb.1 hc (Sl (by rw [A9,ht.1];omega) λ y hy=>?_) rfl;obtain ⟨r,hr,rfl⟩:=je0.mp hy;exact Hu (by rw [ht.2 r hr];omega)
 ·have h7:∀ n:Int,n<=7->w≠n:=λ n hn=>by omega
  obtain ⟨y,d,e,hB⟩:=Yx (w:=w) (l:=l / 160) ht ha hb hc;have e0:=A5 (E2 (p:=λ i j=>decide (j < i)) (f:=Aa 6) (g:=bC (.int 7)) (ρ:=R (tb t) om) (i:=w) (j:=7) (d:=om) (e:=om) rfl rfl);rw [decide_eq_true (by omega)] at e0;have q:=CM (f:=Aa 2) (g:=bC (.int 160)) (ρ:=R (tb t) om) (i:=l) (j:=160) (d:=om) (e:=om) rfl rfl (by decide) (by decide);have v0:GC Ij 0 3 (Ad (Ab AH (Aa 2) (bC (.int 160))) (Ad (Aa 6) (Ac))) (R (tb t) om)=.rt y d (A6 7 none):=by
   exact Yw (xs:=[(.int (l / 160),om),(.int w,om)]) (ρ:=R (tb t) om) (ρ1:=R (tb t) om) (i:=3) (j:=0) (dj:=0) (pj:=(bx a b c,0)) (pi:=(tb t,om)) (xj:=bx a b c) (xi:=tb t) rfl rfl (A1 q (AQ rfl)) rfl rfl rfl rfl e
  exact ⟨y,d,_,(Gg (h7 0 (by decide))).trans ((Gf (h7 1 (by decide))).trans ((Gb (h7 2 (by decide))).trans ((Ga (h7 3 (by decide))).trans ((GV (h7 4 (by decide))).trans ((FZ (h7 5 (by decide))).trans ((FY (h7 6 (by decide))).trans ((FX (h7 7 (by decide))).trans (D9 ((A7 e0).trans v0))))))))),hB⟩
def Zq (p:Pile a b c t) (l:Int) (ha:1<=a/\a<=100) (hb:1<=b/\b<=100) (hc:1<=c):∃ y d,KH [bx a b c,tb t,.int l]=.ok (y,d,.non)/\Fq a b c y:=by
 have z:=sz;have ht:=p.tab;let S (s3 s4 s5 s6:QQ.Slot):Ag:=[some (bx a b c,0),some (tb t,0),some (.int l,om),s3,s4,s5,s6]
 have v1:Ai false 3 (CL (Aa 1) 1 (asgN 7) Cv (Aj IJ (Ad (Aa 7) (Ac)))) [1,1] (S none none none none)=.nx (S (some (tb t,om)) none none none):=
  setF (Iy (n:=7) (f:=Aa 1) (ρ:=S none none none none) (enc:=il) (q:=il) (d:=0) t rfl rfl (λ r _=>W9 (d:=0) rfl) (by rw [ht.1];omega)) (show 3 < 7 by decide) rfl
 obtain ⟨i,hi⟩:=Dv (Dm (l / 10) (show (a:Int)≠0 by omega));have hi2:=DI (l / 10) (show (0:Int) < a by omega);obtain ⟨j,hj⟩:=Dv (Dm (l / 40) (show (b:Int)≠0 by omega));have hj2:=DI (l / 40) (show (0:Int) < b by omega);have v2:Ai false 4 (Ab A4 (Ab AH (Aa 2) (bC (.int 10))) (Ab Ak (Aa 0) (bC (.int 0)))) [2,0] (S (some (tb t,om)) none none none)=.nx (S (some (tb t,om)) (some (.int (i:Int),om)) none none):=by
  have e:=Cg (g:=Ab Ak (Aa 0) (bC (.int 0))) (ρ:=S (some (tb t,om)) none none none) (j:=(a:Int)) (e:=om) (CM (f:=Aa 2) (g:=bC (.int 10)) (i:=l) (j:=10) (d:=om) (e:=om) rfl rfl (by decide) (by decide)) rfl (by omega);rw [hi] at e;exact setF e (show 4 < 7 by decide) rfl
 have v3:Ai false 5 (Ab A4 (Ab AH (Aa 2) (bC (.int 40))) (Ab Ak (Aa 0) (bC (.int 1)))) [2,0] (S (some (tb t,om)) (some (.int (i:Int),om)) none none)=.nx (S (some (tb t,om)) (some (.int (i:Int),om)) (some (.int (j:Int),om)) none):=by
  have e:=Cg (g:=Ab Ak (Aa 0) (bC (.int 1))) (ρ:=S (some (tb t,om)) (some (.int (i:Int),om)) none none) (j:=(b:Int)) (e:=om) (CM (f:=Aa 2) (g:=bC (.int 40)) (i:=l) (j:=40) (d:=om) (e:=om) rfl rfl (by decide) (by decide)) rfl (by omega);rw [hj] at e;exact setF e (show 5 < 7 by decide) rfl
 have v4:Ai false 6 (Ab A4 (Aa 2) (bC (.int 10))) [2] (S (some (tb t,om)) (some (.int (i:Int),om)) (some (.int (j:Int),om)) none)=.nx (BB a b c t l i j (l % 10) (tb t) om):=
  setF (Cg (f:=Aa 2) (g:=bC (.int 10)) (i:=l) (j:=10) (d:=om) (e:=om) rfl rfl (by decide)) (show 6 < 7 by decide) rfl
 obtain ⟨y,d,ρ',e,hB⟩:=Pe (l:=l) (w:=l % 10) p ha hb hc (show i < a by omega) (show j < b by omega) (by omega);exact ⟨y,d,C4 rfl ((AD v1).trans ((AD v2).trans ((AD v3).trans ((AD v4).trans e)))),hB⟩
end
abbrev T3:=Int×Int×Int
def Bl (x:T3):PV:=.tup [.int x.1,.int x.2.1,.int x.2.2]
def tl (zs:List T3):PV:=.lst (zs.map Bl)
def DG (a b:Nat) (x:T3):Bool:=(decide (0<=x.1) && decide (x.1 < a)) && (decide (0<=x.2.1) && decide (x.2.1 < b))
def GZ (c:Nat) (x:T3):Bool:=decide (0<=x.2.2) && decide (x.2.2<=c)
def E3 (x:T3):Ag:=[some (.int x.1,om),some (.int x.2.1,om),some (.int x.2.2,om)]
section
variable {a b c:Nat}{t:List (List Int)}{zs bs:List T3}
def Yn (x:T3):F9 [bx a b c,.int x.1,.int x.2.1]=.ok (.bl (DG a b x),om,.non):=by
 let R:Ag:=[some (bx a b c,0),some (.int x.1,om),some (.int x.2.1,om)]
 have w:∀ n:Int,f_is_whole_number [.int n]=.ok (.bl true,om,.non):=N1;have t1:bT (AU (Au BK (Aw f_is_whole_number (Ad (Aa 1) (Ac)))) (Au BK (Aw f_is_whole_number (Ad (Aa 2) (Ac))))) R=.ok (false,R):=A5 (FH (a:=false) (b:=false) (E4 (b:=true) (Bs (xs:=[(.int x.1,om)]) rfl (w _))) (λ _=>E4 (b:=true) (Bs (xs:=[(.int x.2.1,om)]) rfl (w _))) rfl);have k1:=J2 (p:=λ i j=>decide (i<=j)) (q:=λ i j=>decide (i < j)) (f:=bC (.int 0)) (g:=Aa 1) (h:=Ab Ak (Aa 0) (bC (.int 0))) (ρ:=R) (i:=0) (j:=x.1) (k:=(a:Int)) (d:=om) (e:=om) (c:=om) rfl rfl rfl;have k2:=J2 (p:=λ i j=>decide (i<=j)) (q:=λ i j=>decide (i < j)) (f:=bC (.int 0)) (g:=Aa 2) (h:=Ab Ak (Aa 0) (bC (.int 1))) (ρ:=R) (i:=0) (j:=x.2.1) (k:=(b:Int)) (d:=om) (e:=om) (c:=om) rfl rfl rfl;exact C4 rfl ((Co t1).trans (Dg (FI k1 (λ _=>k2) rfl)))
theorem YQ (hl:zs.length<=1000):Jo [bx a b c,tl zs]=if zs.all (DG a b)=true then (if zs.all (GZ c)=true then .ok (.non,om,.non) else .exc 6) else .exc 7:=by
 have z:=sz;let R:Ag:=[some (bx a b c,0),some (tl zs,0)]
 have e1:=Ro (k:=3) (f:=Aa 1) (asg:=asgT [2,3,4]) (test:=Cv) (elt:=Aw F9 (Ad (Aa 0) (Ad (Aa 2) (Ad (Aa 3) (Ac))))) (enc:=Bl) (q:=λ x=>.bl (DG a b x)) (E:=E3) (p:=λ _=>true) (ρ:=R) (ρ1:=R) (d:=0) zs rfl (λ x _=>rfl) (λ x _=>rfl) (λ x hx _=>Bs (xs:=[(bx a b c,0),(.int x.1,om),(.int x.2.1,om)]) rfl (Yn x)) (by omega);have e2:=Ro (k:=3) (f:=Aa 1) (asg:=asgT [2,3,4]) (test:=Cv) (elt:=Cn (Aw f_is_whole_number (Ad (Aa 4) (Ac))) (DK (λ i j=>decide (i<=j)) (λ i j=>decide (i<=j)) (bC (.int 0)) (Aa 4) (Ab Ak (Aa 0) (bC (.int 2))))) (enc:=Bl) (q:=λ x=>.bl (GZ c x)) (E:=E3) (p:=λ _=>true) (ρ:=R) (ρ1:=R) (d:=0) zs rfl (λ x _=>rfl) (λ x _=>rfl) (λ x hx _=>by
  have k:=J2 (p:=λ i j=>decide (i<=j)) (q:=λ i j=>decide (i<=j)) (f:=bC (.int 0)) (g:=Aa 4) (h:=Ab Ak (Aa 0) (bC (.int 2))) (ρ:=R++E3 x) (i:=0) (j:=x.2.2) (k:=(c:Int)) (d:=om) (e:=om) (c:=om) rfl rfl rfl
  have:=FI (a:=true) (Bs (F:=f_is_whole_number) (fa:=Ad (Aa 4) Ac) (ρ:=R++E3 x) (xs:=[(.int x.2.2,om)]) rfl (N1 _)) (λ _=>k) rfl
  exact this) (by omega)
 rw [show zs.filter (λ _=>true)=zs from jg6.mpr λ _ _=>rfl] at e1 e2;have t1:=A5 (E4 (all_ok (g:=DG a b) e1));have t2:=A5 (E4 (all_ok (g:=GZ c) e2));cases h1:zs.all (DG a b) with
 | false=>
  rw [h1] at t1;rw [if_neg C2];exact Fc rfl (Hj ((A7 t1).trans rfl))
 | true=>
  rw [h1] at t1;rw [if_pos rfl];cases h2:zs.all (GZ c) with
  | false=>
   rw [h2] at t2;rw [if_neg C2];exact Fc rfl ((Co t1).trans ((A7 t2).trans rfl))
  | true=>
   rw [h2] at t2;rw [if_pos rfl];exact Mo rfl ((Co t1).trans ((Bi t2).trans rfl))
def ZD {k:Nat}{x:PV} (ha:1<=a) (hb:1<=b) (hc:1<=c) (h:Jo [bx a b c,x]=.exc k):Jn [bx a b c,x]=.exc k:=
 Fc rfl ((AD (Hi (Bs (ρ:=[some (bx a b c,0),some (x,dv x),none,none,none]) (xs:=[(bx a b c,0)]) rfl (MJ (SR ha hb hc))))).trans (Hj (E1 (Ez (xs:=[(bx a b c,0),(x,dv x)]) rfl h))))
def Fo (a b c:Nat) (t:List (List Int)) (bs:List T3) (l:Int) (zs:List T3) (s5 s6 s7 s8:QQ.Slot):Ag:=[some (bx a b c,0),some (tb t,0),some (tl bs,0),some (.int l,om),some (tl zs,om),s5,s6,s7,s8]
def Gd (a b c:Nat) (bs zs:List T3):Prop:=∀ z∈zs,z∈bs\/(DG a b z=true/\GZ c z=true)
def L1:Fs:=(Af (Ai false 3 (Ab AH (Aa 3) (bC (.int 5))) [3])
 (Af (Ai false 6 (Ab A4 (Aa 3) (Ab Ak (Aa 0) (bC (.int 0)))) [3,0])
 (Af (Ai false 7 (Ab A4 (Ab AH (Aa 3) (bC (.int 4))) (Ab Ak (Aa 0) (bC (.int 1)))) [3,0])
 (BE 4 (Aj Bu (Ad (Aa 6) (Ad (Aa 7) (Ad (Ab Ak (Ab Ak (Aa 1) (Aa 6)) (Aa 7)) (Ac))))) [6,7,1,6,7]))))
def L2':Fs:=(Af (Ai false 3 (Ab AJ (Ab AH (Aa 3) (bC (.int 3))) (Ab A4 (Ab AV (bC (.int 5)) (Aa 3)) (bC (.int 1031)))) [3,3])
 (Ea 4 (Ab A4 (Aa 3) (Ab AJ (Aj BM (Ad (Aa 4) (Ac))) (bC (.int 1)))) (Aa 8)))
def Vs:MH=Af (Ai false 4 (Aj AM (Ac)) []) (Af (CK BL (Ad (Ab A4 (Aa 3) (bC (.int 5))) (Ac)) (asgN 5) L1) (Af (El (Aa 2) [2] (asgN 8) L2') (CZ 4))):=rfl
def U0 (p:Pile a b c t) (ha:1<=a) (hb:1<=b) {l:Int}{s5 s6 s7 s8:QQ.Slot} (hl:zs.length<=1000):∃ l' z s6' s7',(DG a b z=true/\GZ c z=true)/\L1 (Fo a b c t bs l zs s5 s6 s7 s8)=.nx (Fo a b c t bs l' (zs++[z]) s5 s6' s7' s8):=by
 have zz:=sz;obtain ⟨i,hi⟩:=Dv (Dm (l / 5) (show (a:Int)≠0 by omega));have hi2:=DI (l / 5) (show (0:Int) < a by omega);obtain ⟨j,hj⟩:=Dv (Dm (l / 5 / 4) (show (b:Int)≠0 by omega));have hj2:=DI (l / 5 / 4) (show (0:Int) < b by omega);let Q (l:Int) (zs:List T3) (s6 s7:QQ.Slot):Ag:=Fo a b c t bs l zs s5 s6 s7 s8;have v1:Ai false 3 (Ab AH (Aa 3) (bC (.int 5))) [3] (Q l zs s6 s7)=.nx (Q (l / 5) zs s6 s7):=setF (CM (f:=Aa 3) (g:=bC (.int 5)) (i:=l) (j:=5) (d:=om) (e:=om) rfl rfl (by decide) (by decide)) (show 3 < 9 by decide) rfl;have v2:Ai false 6 (Ab A4 (Aa 3) (Ab Ak (Aa 0) (bC (.int 0)))) [3,0] (Q (l / 5) zs s6 s7)=.nx (Q (l / 5) zs (some (.int (i:Int),om)) s7):=by
  have e:=Cg (f:=Aa 3) (g:=Ab Ak (Aa 0) (bC (.int 0))) (ρ:=Q (l / 5) zs s6 s7) (i:=l / 5) (j:=(a:Int)) (d:=om) (e:=om) rfl rfl (by omega);rw [hi] at e;exact setF e (show 6 < 9 by decide) rfl
 have v3:Ai false 7 (Ab A4 (Ab AH (Aa 3) (bC (.int 4))) (Ab Ak (Aa 0) (bC (.int 1)))) [3,0] (Q (l / 5) zs (some (.int (i:Int),om)) s7)=.nx (Q (l / 5) zs (some (.int (i:Int),om)) (some (.int (j:Int),om))):=by
  have e:=Cg (g:=Ab Ak (Aa 0) (bC (.int 1))) (ρ:=Q (l / 5) zs (some (.int (i:Int),om)) s7) (j:=(b:Int)) (e:=om) (CM (f:=Aa 3) (g:=bC (.int 4)) (i:=l / 5) (j:=4) (d:=om) (e:=om) rfl rfl (by decide) (by decide)) rfl (by omega);rw [hj] at e;exact setF e (show 7 < 9 by decide) rfl
 let z:T3:=((i:Int),(j:Int),g t i j)
 have ht:=p.tab;have e4:=C5 (op:=Bu) (z:=Bl z) (c:=om) (A1 (f:=Aa 6) (x:=.int (i:Int)) (d:=om) (ρ:=Q (l / 5) zs (some (.int (i:Int),om)) (some (.int (j:Int),om))) rfl (A1 (f:=Aa 7) (x:=.int (j:Int)) (d:=om) rfl (AQ (J9 (f:=Aa 1) (h:=Aa 6) (k:=Aa 7) (i:=i) (j:=j) (d:=0) (e:=om) (e':=om) ht rfl rfl rfl (by omega) (by omega))))) rfl;refine ⟨l / 5,z,some (.int (i:Int),om),some (.int (j:Int),om),⟨?_,?_⟩,(AD v1).trans ((AD v2).trans ((AD v3).trans (Mv (xs0:=zs.map Bl) (xs:=zs.map Bl) (d0:=999) (d:=om) rfl e4 rfl (by decide) (by rw [A9];omega) ?_)))⟩
 ·show ((decide (0<=(i:Int)) && decide ((i:Int) < a)) && (decide (0<=(j:Int)) && decide ((j:Int) < b)))=true;rw [decide_eq_true (by omega),decide_eq_true (by omega),decide_eq_true (by omega),decide_eq_true (by omega)];rfl
 ·show (decide (0<=g t i j) && decide (g t i j<=c))=true;rw [decide_eq_true (p.lo i j (by omega) (by omega)),decide_eq_true (p.hi i j (by omega) (by omega))];rfl
 ·show _=Fo a b c t bs (l / 5) (zs++[z]) s5 _ _ s8;unfold Fo tl;rw [Ks];rfl
def U1 {l:Int}{s5 s6 s7:QQ.Slot}{z:T3} (hl:zs.length<=1000):∃ l' k,k<=zs.length/\L2' (Fo a b c t bs l zs s5 s6 s7 (some (Bl z,0)))=.nx (Fo a b c t bs l' (zs.take k++z::zs.drop k) s5 s6 s7 (some (Bl z,0))):=by
 have zz:=sz;let l':=l / 3 + 5 * l % 1031;let Q (l:Int) (zs:List T3):Ag:=Fo a b c t bs l zs s5 s6 s7 (some (Bl z,0));have v1:Ai false 3 (Ab AJ (Ab AH (Aa 3) (bC (.int 3))) (Ab A4 (Ab AV (bC (.int 5)) (Aa 3)) (bC (.int 1031)))) [3,3] (Q l zs)=.nx (Q l' zs):=setF (CC (CM (f:=Aa 3) (g:=bC (.int 3)) (i:=l) (j:=3) (d:=om) (e:=om) rfl rfl (by decide) (by decide)) (Cg (g:=bC (.int 1031)) (j:=1031) (e:=om) (DL (f:=bC (.int 5)) (g:=Aa 3) (i:=5) (j:=l) (d:=om) (e:=om) rfl rfl (.inl (by decide))) rfl (by decide))) (show 3 < 9 by decide) rfl;obtain ⟨k,hk⟩:=Dv (Dm l' (show ((zs.length:Int) + 1)≠0 by omega));have hk2:=DI l' (show (0:Int) < (zs.length:Int) + 1 by omega);have ln:Aj BM (Ad (Aa 4) (Ac)) (Q l' zs)=.ok (.int (zs.length:Int),om,Q l' zs):=C5 (AQ (f:=Aa 4) (x:=tl zs) (d:=0) rfl) (by show some (PV.int ((zs.map Bl).length:Int),om)=_;rw [A9]);have e2:=Cg (f:=Aa 3) (ρ:=Q l' zs) (i:=l') (d:=om) rfl (CC ln (g:=bC (.int 1)) (j:=1) (e:=om) rfl) (by omega);rw [hk] at e2;refine ⟨l',k,by omega,(AD v1).trans ?_⟩;unfold Ea;show (match Ab A4 (Aa 3) (Ab AJ (Aj BM (Ad (Aa 4) (Ac))) (bC (.int 1))) (Q l' zs) with | .ok (.int k,_,ρ1)=>_ | _=>_)=Rs.nx _;rw [e2];show (if om≠0/\DN (Bl z)=true/\0<=(k:Int)/\(k:Int).toNat<=(zs.map Bl).length/\(zs.map Bl).length < An then Rs.nx ((Q l' zs).set 4 (some (.lst ((zs.map Bl).take (k:Int).toNat++Bl z::(zs.map Bl).drop (k:Int).toNat),om))) else Rs.no)=_;rw [if_pos ⟨by decide,rfl,by omega,by rw [A9];omega,by rw [A9];omega⟩,EN];unfold Fo tl;rw [Ks,C8,List.map_take,List.map_drop];rfl
def Zm (p:Pile a b c t) (ha:1<=a) (hb:1<=b) (l:Int) (hbs:bs.length<=2):∃ zs d,zs.length<=1000/\Gd a b c bs zs/\(∀ z∈bs,z∈zs)/\Jl [bx a b c,tb t,tl bs,.int l]=.ok (tl zs,d,.non):=by
 have zz:=sz;let Q:=Fo a b c t bs;obtain ⟨m,hm⟩:=Dv (Dm l (show (5:Int)≠0 by decide));have hm2:=DI l (show (0:Int) < 5 by decide);have f1:Ab A4 (Aa 3) (bC (.int 5)) (Q l [] none none none none)=.ok (.int (m:Int),om,Q l [] none none none none):=by
  rw [<- hm];exact Cg (f:=Aa 3) (g:=bC (.int 5)) (i:=l) (j:=5) (d:=om) (e:=om) rfl rfl (by decide)
 obtain ⟨ρ1,e1,l1,z1,s5,s6,s7,hz1,hg1,rfl⟩:=Nx.forR (asg:=asgN 5) (s:=L1) (λ k ρ=>∃ l zs s5 s6 s7,zs.length=k/\Gd a b c bs zs/\ρ=Q l zs s5 s6 s7 none) f1 (by omega) ⟨l,[],none,none,none,rfl,(λ _ h=>nomatch h),rfl⟩ λ k ρ hk ⟨l,zs,s5,s6,s7,hz,hg,e⟩=>by
  subst e;refine ⟨Q l zs (some (.int (k:Int),om)) s6 s7 none,rfl,?_⟩;obtain ⟨l',z,s6',s7',hgz,e⟩:=U0 (bs:=bs) (zs:=zs) (l:=l) (s5:=some (.int (k:Int),om)) (s6:=s6) (s7:=s7) (s8:=none) p ha hb (by omega);refine ⟨_,e,l',zs++[z],_,s6',s7',by rw [Bn,hz];rfl,λ y hy=>?_,rfl⟩;rcases jb8.mp hy with hy | hy
  ·exact hg y hy
  ·rw [jb6.mp hy];exact .inr hgz
 obtain ⟨ρ2,e2,l2,z2,s8,hz2,hg2,hb2,rfl⟩:=Lr (asg:=asgN 8) (body:=L2') (bs.map Bl) (λ k ρ=>∃ l zs s8,zs.length=m + k/\Gd a b c bs zs/\(∀ n z,n < k->bs[n]?=some z->z∈zs)/\ρ=Q l zs s5 s6 s7 s8) (Q l1 z1 s5 s6 s7 none) ⟨l1,z1,none,by omega,hg1,(λ n z h=>absurd h (by omega)),rfl⟩ λ k x ρ hx ⟨l,zs,s8,hz,hg,hbz,e⟩=>by
  subst e;rw [Cs] at hx;obtain ⟨z,hzb,rfl⟩:=jb0.mp hx;have hk:=(ja7.mp hzb).1;obtain ⟨l',n,hn,e⟩:=U1 (a:=a) (b:=b) (c:=c) (t:=t) (bs:=bs) (zs:=zs) (l:=l) (s5:=s5) (s6:=s6) (s7:=s7) (z:=z) (by omega);have sub:∀ y,y∈zs.take n++z::zs.drop n↔y=z\/y∈zs:=λ y=>by
   have:=List.take_append_drop n zs
   rw [jb8,jb3];constructor
   ·rintro (h | h | h)
    ·exact .inr (Tw h)
    ·exact .inl h
    ·exact .inr (Tv h)
   ·rintro (h | h)
    ·exact .inr (.inl h)
    ·rw [<- this,jb8] at h;exact h.elim .inl λ h=>.inr (.inr h)
  refine ⟨Q l zs s5 s6 s7 (some (Bl z,0)),_,rfl,e,l',_,_,?_,λ y hy=>?_,λ q y hq hy=>?_,rfl⟩
  ·rw [Bn,BP,EM,Jf];omega
  ·rcases (sub y).mp hy with rfl | h
   ·exact .inl (OR hzb)
   ·exact hg y h
  ·rcases Nat.lt_succ_iff_lt_or_eq.mp hq with h | rfl
   ·exact (sub y).mpr (.inr (hbz q y h hy))
   ·rw [hzb] at hy;cases hy;exact (sub _).mpr (.inl rfl)
 refine ⟨z2,om,by rw [hz2,A9];omega,hg2,λ z hz=>?_,C4 (ρ':=Q l2 z2 s5 s6 s7 s8) rfl ?_⟩
 ·obtain ⟨n,hn⟩:=Tx hz;exact hb2 n z (by rw [A9];exact (ja7.mp hn).1) hn
 ·show MH [some (bx a b c,0),some (tb t,0),some (tl bs,0),some (.int l,om),none,none,none,none,none]=_;rw [Vs];have v0:Ai false 4 (Aj AM (Ac)) [] [some (bx a b c,0),some (tb t,0),some (tl bs,0),some (.int l,om),none,none,none,none,none]=.nx (Q l [] none none none none):=rfl;exact (AD v0).trans ((AD e1).trans ((AD (Sb (els:=bs.map Bl) (d:=0) rfl rfl e2)).trans rfl))
end
section
variable {a b c:Nat}{t:List (List Int)}
def Ve (x y:T3):DU (.tuple [.int x.1,.int x.2.1,.int x.2.2]) (.tuple [.int y.1,.int y.2.1,.int y.2.2])=decide (x=y):=by
 rw [DU];show ((x.1 == y.1) && ((x.2.1 == y.2.1) && ((x.2.2 == y.2.2) && true)))=_;by_cases h:x=y
 ·subst h;simp
 ·rw [decide_eq_false h]
  have:¬ (x.1=y.1/\x.2.1=y.2.1/\x.2.2=y.2.2):=λ ⟨a,b,c⟩=>h (Prod.ext a (Prod.ext b c))
  simp;intro a b c;exact absurd ⟨a,b,c⟩ this
theorem SI:∀ zs:List T3,Bt (Ck 20) (zs.map Bl)=some (zs.map λ z=>PyData.tuple [.int z.1,.int z.2.1,.int z.2.2])
 | []=>rfl
 | z::zs=>by
  rw [C8,Bt,SI zs];rfl
def QN {neg:Bool}{f h:Fx}{ρ ρ1 ρ2:Ag}{x:T3}{zs:List T3}{d e:Nat} (h1:f ρ=.ok (Bl x,d,ρ1)) (h2:h ρ1=.ok (tl zs,e,ρ2)):Ab (BO neg) f h ρ=.ok (.bl (neg^^decide (x∈zs)),om,ρ2):=by
 refine De h1 h2 ?_;show (match Ck 20 (Bl x),Bt (Ck 20) (zs.map Bl) with | some a,some bs=>some (PV.bl (neg^^bs.any λ b=>DU b a),om) | _,_=>none)=_;rw [SI];show some (PV.bl (neg^^(zs.map λ z=>PyData.tuple [.int z.1,.int z.2.1,.int z.2.2]).any λ b=>DU b (.tuple [.int x.1,.int x.2.1,.int x.2.2])),om)=_;congr 4;rw [List.any_map]
 have:(λ z:T3=>DU (.tuple [.int z.1,.int z.2.1,.int z.2.2]) (.tuple [.int x.1,.int x.2.1,.int x.2.2]))=λ z=>decide (z=x):=funext λ z=>Ve z x
 show zs.any (λ z:T3=>DU (.tuple [.int z.1,.int z.2.1,.int z.2.2]) (.tuple [.int x.1,.int x.2.1,.int x.2.2]))=_;rw [this];rw [Je];simp only [List.any_eq_true,decide_eq_true_iff];exact ⟨λ ⟨y,hy,e⟩=>e ▸ hy,λ h=>⟨x,h,rfl⟩⟩
def Nu {fa:Fa}{ρ ρ1:Ag}{xs:List (PV×Nat)} (h:fa ρ=.ok (xs,ρ1)) (hl:xs.length<=An):∃ d,Aj Bu fa ρ=.ok (.tup (xs.map (·.1)),d,ρ1):=⟨_,C5 h (by unfold Bu;rw [if_pos hl])⟩
def JD {f g:Fx}{ρ ρ1 ρ2:Ag}{d e k:Nat} (hk:k=2\/k=6\/k=7) (h1:f ρ=.ok (kin k,d,ρ1)) (h2:g ρ1=.ok (kin k,e,ρ2)):Ab (Am true) f g ρ=.ok (.bl false,om,ρ2):=by
 refine De h1 h2 ?_;rcases hk with rfl | rfl | rfl <;> rfl
def Fr (ns:List Int) (s1 s2 s3 s4 s5 s6 s7 s8 s9 s10 s11 s12:Option PV):List (Option PV):=[some (.scr ns),s1,s2,s3,s4,s5,s6,s7,s8,s9,s10,s11,s12]
def P1:Fs:=(Af (A0 (bT (AU (Ab (Am true) (Aw C3 (Ad (bC (.int 0)) (Ad (Aa 4) (Ad (Aa 7) (Ad (Aa 8) (Ad (bC .non) (Ac))))))) (Aa 1)) (Ab (Am true) (Aw C3 (Ad (bC (.int 1)) (Ad (Aa 4) (Ad (Aa 7) (Ad (Aa 8) (Ad (Au BN (bC (.int 1))) (Ac))))))) (Aa 1)))) (As (bC (.bl false))) Al)
 (A0 (bT (Ab (Am true) (Aw C3 (Ad (bC (.int 2)) (Ad (Aa 4) (Ad (Aa 7) (Ad (Aa 8) (Ad (bC .non) (Ac))))))) (Aa 1))) (As (bC (.bl false))) Al))
def U6 {L:List (Option PV)}{ρ:Ag}{lo hi:PV} (h:HV L [] ρ) (h1:L[1]?=some (some (kin 2))) (h4:L[4]?=some (some (bx a b c))) (h7:L[7]?=some (some lo)) (h8:L[8]?=some (some hi)) (two:f_must_be_two_piles [bx a b c,lo,hi]=.exc 2):P1 ρ=.nx ρ:=by
 have k1:Aa 1 ρ=.ok (kin 2,0,ρ):=h.var h1;have A:=JD (.inl rfl) (Bs (F:=C3) (ρ:=ρ) (xs:=[(.int 0,om),(bx a b c,0),(lo,dv lo),(hi,dv hi),(.non,om)]) (A1 (f:=bC (.int 0)) rfl (A1 (h.var h4) (A1 (h.var h7) (A1 (h.var h8) (AQ (f:=bC .non) rfl))))) (UZ two)) k1;have B:=JD (.inl rfl) (Bs (F:=C3) (ρ:=ρ) (xs:=[(.int 1,om),(bx a b c,0),(lo,dv lo),(hi,dv hi),(.int (-1),om)]) (A1 (f:=bC (.int 1)) rfl (A1 (h.var h4) (A1 (h.var h7) (A1 (h.var h8) (AQ (f:=Au BN (bC (.int 1))) rfl))))) (Va two)) k1;have C:=JD (.inl rfl) (Bs (F:=C3) (ρ:=ρ) (xs:=[(.int 2,om),(bx a b c,0),(lo,dv lo),(hi,dv hi),(.non,om)]) (A1 (f:=bC (.int 2)) rfl (A1 (h.var h4) (A1 (h.var h7) (A1 (h.var h8) (AQ (f:=bC .non) rfl))))) (QO (UT two))) k1;exact (Co (A5 (FH A (λ _=>B) rfl))).trans ((Bi (A5 C)).trans rfl)
def P2:Fs:=(Af (Ai false 12 (Aj AM (Ad (bC (.bl false)) (Ad (Ab (BO false) (Aa 10) (Aa 11)) (Ad (Ab (BO true) (Aa 10) (Aa 11)) (Ad (bC (.bl false)) (Ad (bC (.bl true)) (Ac))))))) [10,11,10,11])
 (A0 (bT (Ab (Am true) (Aw C3 (Ad (bC (.int 3)) (Ad (Aa 4) (Ad (bC .non) (Ad (bC .non) (Ad (Aw Jl (Ad (Aa 4) (Ad (Aa 5) (Ad (Aa 11) (Ad (Aa 3) (Ac)))))) (Ac))))))) (Aa 12))) (As (bC (.bl false))) Al))
def U7 (p:Pile a b c t) (ha:1<=a) (hb:1<=b) (hc:1<=c) {ns:List Int}{l:Int}{s2 s6 s7 s8 s9 s12:Option PV}{o h':T3}{bs:List T3}{ρ:Ag} (h:HV (Fr ns (some (kin 2)) s2 (some (.int l)) (some (bx a b c)) (some (tb t)) s6 s7 s8 s9 (some (Bl o)) (some (tl bs)) s12) [] ρ) (hbs:bs.length<=2)
  (ho:DG a b o=false) (hh:DG a b h'=true/\GZ c h'=false) (hm:∀ z∈bs,z=o\/z=h') (hn:o∈bs\/h'∈bs):∃ ρ' x,P2 ρ=.nx ρ'/\HV (Fr ns (some (kin 2)) s2 (some (.int l)) (some (bx a b c)) (some (tb t)) s6 s7 s8 s9 (some (Bl o)) (some (tl bs)) (some x)) [] ρ':=by
 obtain ⟨zs,dz,hl,hg,hin,ez⟩:=Zm (bs:=bs) p ha hb l hbs;obtain ⟨k,hk6,hkv⟩:∃ k:Nat,(k=6\/k=7)/\k=if o∈bs then 7 else 6:=⟨_,by split <;> simp,rfl⟩
 have hF:Jo [bx a b c,tl zs]=.exc k:=by
  rw [YQ hl,hkv];by_cases hb:o∈bs
  ·rw [if_pos hb,if_neg];rw [jc4];exact λ z=>absurd (z o (hin o hb)) (by rw [ho];exact C2)
  ·have all:∀ z∈zs,DG a b z=true:=λ z hz=>by
    rcases hg z hz with hz' | hz'
    ·rcases hm z hz' with e | e
     ·rw [e] at hz';exact absurd hz' hb
     ·rw [e];exact hh.1
    ·exact hz'.1
   rw [if_neg hb,if_pos (jc4.mpr all),if_neg];rw [jc4];rcases hn with h0 | h0
   ·exact absurd h0 hb
   ·exact λ z=>absurd (z h' (hin h' h0)) (by rw [hh.2];exact C2)
 have e1:=QN (neg:=false) (f:=Aa 10) (h:=Aa 11) (ρ:=ρ) (x:=o) (zs:=bs) (h.var rfl) (h.var rfl);have e2:=QN (neg:=true) (f:=Aa 10) (h:=Aa 11) (ρ:=ρ) (x:=o) (zs:=bs) (h.var rfl) (h.var rfl);have e3:Aj AM (Ad (bC (.bl false)) (Ad (Ab (BO false) (Aa 10) (Aa 11)) (Ad (Ab (BO true) (Aa 10) (Aa 11)) (Ad (bC (.bl false)) (Ad (bC (.bl true)) (Ac)))))) ρ=.ok (kin k,om,ρ):=by
  refine C5 (A1 (f:=bC (.bl false)) rfl (A1 e1 (A1 e2 (A1 (f:=bC (.bl false)) rfl (AQ (f:=bC (.bl true)) rfl))))) ?_;rw [hkv];by_cases hb:o∈bs
  ·rw [if_pos hb,decide_eq_true hb];rfl
  ·rw [if_neg hb,decide_eq_false hb];rfl
 obtain ⟨ρ1,v1,h1⟩:=h.setO (i:=12) (vs:=[10,11,10,11]) e3 (show 12 < 13 by decide);have Pa:=Bs (F:=Jl) (ρ:=ρ1) (xs:=[(bx a b c,0),(tb t,0),(tl bs,0),(.int l,om)]) (A1 (h1.var (j:=4) rfl) (A1 (h1.var (j:=5) rfl) (A1 (h1.var (j:=11) rfl) (AQ (h1.var (j:=3) rfl))))) ez;have A:=JD (g:=Aa 12) (e:=dv (kin k)) (.inr hk6) (Bs (F:=C3) (ρ:=ρ1) (xs:=[(.int 3,om),(bx a b c,0),(.non,om),(.non,om),(tl zs,dz)]) (A1 (f:=bC (.int 3)) rfl (A1 (h1.var (j:=4) rfl) (A1 (f:=bC .non) rfl (A1 (f:=bC .non) rfl (AQ Pa))))) (Uz hk6 (ZD ha hb hc hF))) (h1.var rfl);exact ⟨ρ1,_,(AD v1).trans ((Bi (A5 A)).trans rfl),h1⟩
def SF:Fx:=(Aj AM (Ad (Aj Bu (Ad (Aa 6) (Ad (Aa 5) (Ac)))) (Ad (Aj Bu (Ad (Aa 5) (Ad (Aa 6) (Ac)))) (Ad (Aj Bu (Ad (Aa 6) (Ad (bC .non) (Ac)))) (Ac)))))
def OF:Fx:=(Ab Ak (Aj AM (Ad (Aj Bu (Ad (Ab Ak (Aa 4) (bC (.int 0))) (Ad (bC (.int 0)) (Ad (bC (.int 0)) (Ac))))) (Ad (Aj Bu (Ad (bC (.int 0)) (Ad (Ab Ak (Aa 4) (bC (.int 1))) (Ad (bC (.int 0)) (Ac))))) (Ad (Aj Bu (Ad (Au BN (bC (.int 1))) (Ad (bC (.int 0)) (Ad (bC (.int 0)) (Ac))))) (Ad (Aj Bu (Ad (bC (.int 0)) (Ad (Ab Ci (bC (.int 0)) (Aa 9)) (Ad (bC (.int 0)) (Ac))))) (Ad (Aj Bu (Ad (Ab AJ (Aa 9) (Ab Ak (Aa 4) (bC (.int 0)))) (Ad (bC (.int 0)) (Ad (Au BN (bC (.int 1))) (Ac))))) (Ac))))))) (Ab A4 (Ab AH (Aa 3) (bC (.int 64))) (bC (.int 5))))
def HF:Fx:=(Ab Ak (Aj AM (Ad (Aj Bu (Ad (bC (.int 0)) (Ad (bC (.int 0)) (Ad (Ab AJ (Ab Ak (Aa 4) (bC (.int 2))) (Aa 9)) (Ac))))) (Ad (Aj Bu (Ad (bC (.int 0)) (Ad (bC (.int 0)) (Ad (Ab Ci (bC (.int 0)) (Aa 9)) (Ac))))) (Ac)))) (Ab A4 (Ab AH (Aa 3) (bC (.int 320))) (bC (.int 2))))
def BF:Fx:=(Aj AM (Ad (Aj AM (Ad (Aa 8) (Ad (Aa 10) (Ac)))) (Ad (Aj AM (Ad (Aa 10) (Ad (Aa 8) (Ac)))) (Ad (Aj AM (Ad (Aa 10) (Ac))) (Ad (Aj AM (Ad (Aa 8) (Ac))) (Ac))))))
def BD:Fs:=(Af (Ai false 3 (Aw KN (Ad (Aw KO (Ad (Aa 0) (Ad (Aa 2) (Ac)))) (Ad (Aa 2) (Ac)))) [0,2,2])
 (Af (Ai false 4 (Aw KJ (Ad (Aa 3) (Ad (bC (.int 4)) (Ad (bC (.int 4)) (Ad (bC (.int 4)) (Ac)))))) [3])
 (Af (Ai false 5 (Aw KI (Ad (Aa 4) (Ad (Ab AH (Aa 3) (bC (.int 64))) (Ac)))) [4,3])
 (Af (Ai false 6 (Aw KH (Ad (Aa 4) (Ad (Aa 5) (Ad (Ab AH (Aa 3) (bC (.int 97))) (Ac))))) [4,5,3])
 (Af (El SF [6,5,5,6,6] (asgT [7,8]) P1)
 (Af (A0 (bT (Ab (Am true) (Aw C3 (Ad (bC (.int 2)) (Ad (Aa 4) (Ad (Aa 5) (Ad (Aa 5) (Ad (Aa 6) (Ac))))))) (Aa 1))) (As (bC (.bl false))) Al)
 (Af (Ai false 9 (Ab AJ (bC (.int 1)) (Ab A4 (Ab AH (Aa 3) (bC (.int 64))) (Ab GI (bC (.int 10)) (bC (.int 9))))) [3])
 (Af (Ai false 10 OF [4,4,9,9,4,3])
 (Af (Ai false 8 HF [4,9,9,3])
 (El BF [8,10,10,8,10,8] (asgN 11) P2))))))))))
def NF:Fx:=(Aj IT (Ad (bC (.int 1)) (Ad (Aj GH (Ad (bC (.int 24)) (Ad (Aj BM (Ad (Aa 0) (Ac))) (Ac)))) (Ac))))
def Vt:MG=Af (Ai false 1 (Aj AM (Ad (bC (.bl true)) (Ad (bC (.bl false)) (Ad (bC (.bl false)) (Ad (bC (.bl false)) (Ad (bC (.bl true)) (Ac))))))) []) (Af (CK BL (Ad NF (Ac)) (asgN 2) BD) (As (bC (.bl true)))):=rfl
def V3 {L:List (Option PV)}{ρ:Ag}{l f:Int} (h:HV L [] ρ) (h3:L[3]?=some (some (.int l))) (h4:L[4]?=some (some (bx a b c))) (h9:L[9]?=some (some (.int f))) (hf:1<=f) (ha:1<=a) (hb:1<=b):∃ o:T3,DG a b o=false/\OF ρ=.ok (Bl o,0,ρ):=by
 have z:=sz;have b4:Aa 4 ρ=.ok (bx a b c,0,ρ):=h.var h4;have b9:Aa 9 ρ=.ok (.int f,om,ρ):=h.var h9;have b3:Aa 3 ρ=.ok (.int l,om,ρ):=h.var h3;have i0:Ab Ak (Aa 4) (bC (.int 0)) ρ=.ok (.int (a:Int),om,ρ):=De b4 (y:=.int 0) (e:=om) rfl rfl;have i1:Ab Ak (Aa 4) (bC (.int 1)) ρ=.ok (.int (b:Int),om,ρ):=De b4 (y:=.int 1) (e:=om) rfl rfl;have n1:Au BN (bC (.int 1)) ρ=.ok (.int (-1),om,ρ):=rfl;have z0:bC (.int 0) ρ=.ok (.int 0,om,ρ):=rfl;have T:∀ {f g h:Fx}{x y w:Int},f ρ=.ok (.int x,om,ρ)->g ρ=.ok (.int y,om,ρ)->h ρ=.ok (.int w,om,ρ)->Aj Bu (Ad f (Ad g (Ad h Ac))) ρ=.ok (Bl (x,y,w),om,ρ):=λ e1 e2 e3=>C5 (A1 e1 (A1 e2 (AQ e3))) rfl;obtain ⟨k,hk⟩:=Dv (Dm (l / 64) (show (5:Int)≠0 by decide));have hk2:=DI (l / 64) (show (0:Int) < 5 by decide);have ix:=Cg (g:=bC (.int 5)) (j:=5) (e:=om) (CM (g:=bC (.int 64)) (j:=64) (e:=om) b3 rfl (by decide) (by decide)) rfl (by decide);rw [hk] at ix;obtain ⟨dl,el⟩:=Fw (A1 (T i0 z0 z0) (A1 (T z0 i1 z0) (A1 (T n1 z0 z0) (A1 (T z0 (FL z0 b9) z0) (AQ (T (CC b9 i0) z0 n1)))))) (by show 5<=An;omega);have e:=Nl (k:=k) el ix (by show k < 5;omega);have hk5:k=0\/k=1\/k=2\/k=3\/k=4:=by omega
 have dx:∀ {x y:Int} (_:¬ (0<=x/\x < a/\0<=y/\y < b)) {w:Int},DG a b (x,y,w)=false:=λ {x y} h {w}=>by
  show ((decide (0<=x) && decide (x < a)) && (decide (0<=y) && decide (y < b)))=false;cases e:((decide (0<=x) && decide (x < a)) && (decide (0<=y) && decide (y < b))) with
  | false=>rfl
  | true=>
   rw [AL,AL,AL,decide_eq_true_iff,decide_eq_true_iff,decide_eq_true_iff,decide_eq_true_iff] at e;exact absurd ⟨e.1.1,e.1.2,e.2.1,e.2.2⟩ h
 rcases hk5 with rfl | rfl | rfl | rfl | rfl
 ·exact ⟨(a,0,0),dx (by omega),e⟩
 ·exact ⟨(0,b,0),dx (by omega),e⟩
 ·exact ⟨(-1,0,0),dx (by omega),e⟩
 ·exact ⟨(0,0 - f,0),dx (by omega),e⟩
 ·exact ⟨(f + a,0,-1),dx (by omega),e⟩
def W3 {L:List (Option PV)}{ρ:Ag}{l f:Int} (h:HV L [] ρ) (h3:L[3]?=some (some (.int l))) (h4:L[4]?=some (some (bx a b c))) (h9:L[9]?=some (some (.int f))) (hf:1<=f) (ha:1<=a) (hb:1<=b):∃ o:T3,(DG a b o=true/\GZ c o=false)/\HF ρ=.ok (Bl o,0,ρ):=by
 have z:=sz;have b4:Aa 4 ρ=.ok (bx a b c,0,ρ):=h.var h4;have b9:Aa 9 ρ=.ok (.int f,om,ρ):=h.var h9;have b3:Aa 3 ρ=.ok (.int l,om,ρ):=h.var h3;have i2:Ab Ak (Aa 4) (bC (.int 2)) ρ=.ok (.int (c:Int),om,ρ):=De b4 (y:=.int 2) (e:=om) rfl rfl;have z0:bC (.int 0) ρ=.ok (.int 0,om,ρ):=rfl;have T:∀ {f g h:Fx}{x y w:Int},f ρ=.ok (.int x,om,ρ)->g ρ=.ok (.int y,om,ρ)->h ρ=.ok (.int w,om,ρ)->Aj Bu (Ad f (Ad g (Ad h Ac))) ρ=.ok (Bl (x,y,w),om,ρ):=λ e1 e2 e3=>C5 (A1 e1 (A1 e2 (AQ e3))) rfl;obtain ⟨k,hk⟩:=Dv (Dm (l / 320) (show (2:Int)≠0 by decide));have hk2:=DI (l / 320) (show (0:Int) < 2 by decide);have ix:=Cg (g:=bC (.int 2)) (j:=2) (e:=om) (CM (g:=bC (.int 320)) (j:=320) (e:=om) b3 rfl (by decide) (by decide)) rfl (by decide);rw [hk] at ix;obtain ⟨dl,el⟩:=Fw (A1 (T z0 z0 (CC i2 b9)) (AQ (T z0 z0 (FL z0 b9)))) (by show 2<=An;omega);have e:=Nl (k:=k) el ix (by show k < 2;omega);have pl:∀ w:Int,DG a b (0,0,w)=true:=λ w=>by
  show ((decide ((0:Int)<=0) && decide ((0:Int) < a)) && (decide ((0:Int)<=0) && decide ((0:Int) < b)))=true;rw [decide_eq_true (show (0:Int) < a by omega),decide_eq_true (show (0:Int) < b by omega)];rfl
 have hk5:k=0\/k=1:=by omega
 rcases hk5 with rfl | rfl
 ·refine ⟨(0,0,c + f),⟨pl _,?_⟩,e⟩;show (decide ((0:Int)<=c + f) && decide ((c:Int) + f<=c))=false;rw [decide_eq_false (show ¬ (c:Int) + f<=c by omega),OI]
 ·refine ⟨(0,0,0 - f),⟨pl _,?_⟩,e⟩;show (decide ((0:Int)<=0 - f) && decide ((0:Int) - f<=c))=false;rw [decide_eq_false (show ¬ (0:Int)<=0 - f by omega)];rfl
def Sa {f:Fx}{vs:List Nat}{asg:PV->Ag->Option Ag}{s:Fs}{L L':List (Option PV)}{els:List PV}{d:Nat}{ρ:Ag} (h:HV L [] ρ) (hf:f ρ=.ok (.lst els,d,ρ)) (w:Wk L' L) (hs:∀ x∈els,∀ ρ,HV L' [] ρ->∃ ρ1 ρ2,asg x ρ=some ρ1/\s ρ1=.nx ρ2/\HV L' [] ρ2):Nx (El f vs asg s) ρ (HV L' []):=by
 obtain ⟨ρ',e,h'⟩:=Lr els (λ _ ρ=>HV L' [] ρ) (Bk d vs ρ) ((h.cool (d:=d) (vs:=vs)).weak w λ _ h=>h) λ j x ρ hj h=>hs x (OR hj) ρ h;exact ⟨ρ',Sb hf rfl e,h'⟩
def Wn {ns:List Int}{k:Nat}{ρ:Ag} (hk:k<=100) (h0:HV (Fr ns (some (kin 2)) (some (.int (k:Int))) none none none none none none none none none none) [] ρ):Nx BD ρ (HV (Fr ns (some (kin 2)) none none none none none none none none none none none) []):=by
 have z:=sz;obtain ⟨l,el⟩:=YA (ns.getD k 0) k (by omega);obtain ⟨a,b,c,ha,hb,hc,eb⟩:=Pb (r:=4) (s:=4) (t:=4) l (by decide) (by decide) (by decide);obtain ⟨t,dt,p,et⟩:=XX (a:=a) (b:=b) (c:=c) (l / 64) (by omega) (by omega) (by omega);obtain ⟨y,dy,ey,hB⟩:=Zq p (l / 97) (by omega) (by omega) (by omega);have bad:f_must_be_pile [bx a b c,y]=.exc 2:=Um hB.1;have fine:f_must_be_pile [bx a b c,tb t]=.ok (.non,om,.non):=Ud p.tab (by omega) (by omega) (by omega) ((Pr p.tab).mpr p);refine Nx.seq (h0.setO (x:=.int l) (Bs (xs:=[(.int (ns.getD k 0),om),(.int (k:Int),om)]) (A1 (Bs (F:=KO) (xs:=[(.scr ns,om),(.int (k:Int),om)]) (A1 (h0.var rfl) (AQ (h0.var rfl))) (WN ns k)) (AQ (h0.var rfl))) el) (show 3 < 13 by decide)) λ ρ1 h1=>?_;refine Nx.seq (h1.setO (x:=bx a b c) (Bs (xs:=[(.int l,om),(.int 4,om),(.int 4,om),(.int 4,om)]) (A1 (h1.var rfl) rfl) eb) (show 4 < 13 by decide)) λ ρ2 h2=>?_;refine Nx.seq (h2.set (x:=tb t) (Bs (xs:=[(bx a b c,0),(.int (l / 64),om)]) (A1 (h2.var rfl) (AQ (CM (g:=bC (.int 64)) (j:=64) (e:=om) (h2.var (j:=3) (x:=.int l) rfl) rfl (by decide) (by decide)))) et) (show 5 < 13 by decide)) λ ρ3 h3=>?_;refine Nx.seq (h3.set (x:=y) (Bs (xs:=[(bx a b c,0),(tb t,0),(.int (l / 97),om)]) (A1 (h3.var rfl) (A1 (h3.var rfl) (AQ (CM (g:=bC (.int 97)) (j:=97) (e:=om) (h3.var (j:=3) (x:=.int l) rfl) rfl (by decide) (by decide))))) ey) (show 6 < 13 by decide)) λ ρ4 (h4:HV (Fr ns (some (kin 2)) (some (.int (k:Int))) (some (.int l)) (some (bx a b c)) (some (tb t)) (some y) none none none none none none) [] ρ4)=>?_;have sf:∃ d,SF ρ4=.ok (.lst [.tup [y,tb t],.tup [tb t,y],.tup [y,.non]],d,ρ4):=by
  have v5:Aa 5 ρ4=.ok (tb t,0,ρ4):=h4.var rfl;have v6:Aa 6 ρ4=.ok (y,dv y,ρ4):=h4.var rfl;obtain ⟨d1,t1⟩:=Nu (A1 v6 (AQ v5)) (by show 2<=An;omega);obtain ⟨d2,t2⟩:=Nu (A1 v5 (AQ v6)) (by show 2<=An;omega);obtain ⟨d3,t3⟩:=Nu (A1 v6 (AQ (f:=bC .non) (x:=.non) (d:=om) rfl)) (by show 2<=An;omega);exact Fw (A1 t1 (A1 t2 (AQ t3))) (by show 3<=An;omega)
 obtain ⟨ds,sf⟩:=sf;refine Nx.seq (Sa (L':=Fr ns (some (kin 2)) (some (.int (k:Int))) (some (.int l)) (some (bx a b c)) (some (tb t)) (some y) none none none none none none) h4 sf ⟨rfl,rfl,rfl,rfl,rfl,rfl,rfl,trivial⟩ λ x hx ρ h=>?_) λ ρ5 h5=>?_
 ·have key:∃ lo hi,x=.tup [lo,hi]/\f_must_be_two_piles [bx a b c,lo,hi]=.exc 2:=by
   simp only [jb3,OL,or_false] at hx;rcases hx with rfl | rfl | rfl
   ·exact ⟨_,_,rfl,Qe bad⟩
   ·exact ⟨_,_,rfl,YS fine bad⟩
   ·exact ⟨_,_,rfl,Qe bad⟩
  obtain ⟨lo,hi,rfl,two⟩:=key;obtain ⟨ρa,ea,ha'⟩:=h.asg2 (i:=7) (j:=8) lo hi (show 7 < 13 by decide) (show 8 < 13 by decide) ⟨(λ z=>nomatch z),λ z=>nomatch z⟩;exact ⟨ρa,ρa,ea,U6 ha' rfl rfl rfl rfl two,ha'.weak ⟨rfl,rfl,rfl,rfl,rfl,rfl,rfl,trivial⟩ λ _ z=>z⟩
 have c6:=JD (g:=Aa 1) (e:=0) (.inl rfl) (Bs (F:=C3) (ρ:=ρ5) (xs:=[(.int 2,om),(bx a b c,0),(tb t,0),(tb t,0),(y,dv y)]) (A1 (f:=bC (.int 2)) rfl (A1 (h5.var (j:=4) rfl) (A1 (h5.var (j:=5) rfl) (A1 (h5.var (j:=5) rfl) (AQ (h5.var (j:=6) rfl)))))) (QO (Vf (YT fine fine) bad))) (h5.var rfl);refine Nx.seq (Nx.no (A5 c6) h5) λ ρ6 h6=>?_;have m0:=Dm (l / 64) (show (10 ^ 9:Int)≠0 by decide);refine Nx.seq (h6.setO (x:=.int (1 + l / 64 % 10 ^ 9)) (CC (f:=bC (.int 1)) (i:=1) (d:=om) rfl (Cg (g:=Ab GI (bC (.int 10)) (bC (.int 9))) (j:=10 ^ 9) (e:=om) (CM (g:=bC (.int 64)) (j:=64) (e:=om) (h6.var (j:=3) (x:=.int l) rfl) rfl (by decide) (by decide)) rfl (by decide))) (show 9 < 13 by decide)) λ ρ7 h7=>?_;obtain ⟨o,ho,eo⟩:=V3 (a:=a) (b:=b) (c:=c) h7 rfl rfl rfl (by omega) ha.1 hb.1;refine Nx.seq (h7.set eo (show 10 < 13 by decide)) λ ρ8 h8=>?_;obtain ⟨q,hq,eq⟩:=W3 (a:=a) (b:=b) (c:=c) h8 rfl rfl rfl (by omega) ha.1 hb.1;refine Nx.seq (h8.set eq (show 8 < 13 by decide)) λ ρ9 (h9:HV (Fr ns (some (kin 2)) (some (.int (k:Int))) (some (.int l)) (some (bx a b c)) (some (tb t)) (some y) none (some (Bl q)) (some (.int (1 + l / 64 % 10 ^ 9))) (some (Bl o)) none none) [] ρ9)=>?_;have bf:∃ d,BF ρ9=.ok (.lst [tl [q,o],tl [o,q],tl [o],tl [q]],d,ρ9):=by
  have v8:Aa 8 ρ9=.ok (Bl q,0,ρ9):=h9.var rfl;have v10:Aa 10 ρ9=.ok (Bl o,0,ρ9):=h9.var rfl;obtain ⟨d1,t1⟩:=Fw (A1 v8 (AQ v10)) (by show 2<=An;omega);obtain ⟨d2,t2⟩:=Fw (A1 v10 (AQ v8)) (by show 2<=An;omega);obtain ⟨d3,t3⟩:=Fw (AQ v10) (by show 1<=An;omega);obtain ⟨d4,t4⟩:=Fw (AQ v8) (by show 1<=An;omega);exact Fw (A1 t1 (A1 t2 (A1 t3 (AQ t4)))) (by show 4<=An;omega)
 obtain ⟨db,bf⟩:=bf;refine Nx.mono (Sa (L':=Fr ns (some (kin 2)) (some (.int (k:Int))) (some (.int l)) (some (bx a b c)) (some (tb t)) (some y) none (some (Bl q)) (some (.int (1 + l / 64 % 10 ^ 9))) (some (Bl o)) none none) h9 bf ⟨rfl,rfl,rfl,rfl,rfl,rfl,rfl,rfl,rfl,rfl,trivial⟩ λ x hx ρ h=>?_) λ ρ' h'=>h'.weak ⟨rfl,rfl,trivial⟩ λ _ z=>z;have key:∃ bs:List T3,x=tl bs/\bs.length<=2/\(∀ z∈bs,z=o\/z=q)/\(o∈bs\/q∈bs):=by
  simp only [jb3,OL,or_false] at hx;rcases hx with rfl | rfl | rfl | rfl
  ·exact ⟨_,rfl,by simp,λ z hz=>by simp at hz;exact hz.symm,by simp⟩
  ·exact ⟨_,rfl,by simp,λ z hz=>by simpa using hz,by simp⟩
  ·exact ⟨_,rfl,by simp,λ z hz=>by simp at hz;exact .inl hz,by simp⟩
  ·exact ⟨_,rfl,by simp,λ z hz=>by simp at hz;exact .inr hz,by simp⟩
 obtain ⟨bs,rfl,h2,hm,hn⟩:=key;obtain ⟨ρa,ea,ha'⟩:=h.asgN (i:=11) (tl bs) (show 11 < 13 by decide) (λ z=>nomatch z);obtain ⟨ρb,x,eb',hb'⟩:=U7 p ha.1 hb.1 hc.1 ha' h2 ho hq hm hn;exact ⟨ρa,ρb,ea,eb',hb'.weak ⟨rfl,rfl,rfl,rfl,rfl,rfl,rfl,rfl,rfl,rfl,trivial⟩ λ _ z=>z⟩
def law_true:∀ ns:List Int,ns.length<=63->∃ d z,F24 [.scr ns]=.ok (.bl true,d,z):=by
 intro ns hns;refine Gv.fn rfl (show Gv MG [some (.scr ns,om),none,none,none,none,none,none,none,none,none,none,none,none] _ from ?_);have h0:HV (Fr ns none none none none none none none none none none none none) [] [some (.scr ns,om),none,none,none,none,none,none,none,none,none,none,none,none]:=HV.of [some (.scr ns,om),none,none,none,none,none,none,none,none,none,none,none,none];rw [Vt];refine Gv.ex (h0.setO (x:=kin 2) rfl (show 1 < 13 by decide)) λ ρ1 (h1:HV (Fr ns (some (kin 2)) none none none none none none none none none none none) [] ρ1)=>?_;obtain ⟨n,hn,en⟩:∃ n:Nat,n<=24/\NF ρ1=.ok (.int (n:Int),om,ρ1):=by
  have v0:Aa 0 ρ1=.ok (.scr ns,om,ρ1):=h1.var rfl;have e1:Aj BM (Ad (Aa 0) (Ac)) ρ1=.ok (.int (ns.length:Int),om,ρ1):=C5 (AQ v0) rfl;have e2:=C5 (op:=GH) (z:=.int (if (ns.length:Int) < 24 then (ns.length:Int) else 24)) (c:=om) (A1 (f:=bC (.int 24)) (x:=.int 24) (d:=om) rfl (AQ e1)) rfl;have e3:=C5 (op:=IT) (A1 (f:=bC (.int 1)) (x:=.int 1) (d:=om) rfl (AQ e2)) rfl;obtain ⟨n,hn⟩:=Dv (i:=(λ i j:Int=>if j > i then j else i) 1 (if (ns.length:Int) < 24 then (ns.length:Int) else 24)) (by dsimp only;split <;> omega);rw [hn] at e3;exact ⟨n,by dsimp only at hn;split at hn <;> split at hn <;> omega,e3⟩
 refine Gv.ex (Nx.forR (λ _ ρ=>HV (Fr ns (some (kin 2)) none none none none none none none none none none none) [] ρ) en (by omega) h1 λ k ρ hk h=>?_) λ ρ2 h2=>Gv.ret rfl;obtain ⟨ρa,ea,ha'⟩:=h.asgN (i:=2) (.int (k:Int)) (show 2 < 13 by decide) (λ z=>nomatch z);exact ⟨ρa,ea,Wn (by omega) ha'⟩
end
open PySem PySem.Spec PyProof.Rows L2 QQ
section
variable {P:A3}{w:Az}{K:Frag}{mg:Str->Option Ae}
def c0:FnScope S0.N ["thing"] (A2 t0):={}
def c1:FnScope S1.N ["thing"] (A2 t1):={}
def c2:FnScope S2.N ["box"] (A2 t2):={}
def c3:FnScope S3.N ["thing","columns","height"] (A2 t3):={}
def c4:FnScope S4.N ["numbers"] (A2 t4):={}
def c5:FnScope S5.N ["table","j"] (A2 t5):={}
def c6:FnScope S6.N ["box","thing"] (A2 t6):={}
def c7:FnScope S7.N ["box","pile"] (A2 t7):={}
def c8:FnScope S8.N ["box","pile","other"] (A2 t8):={}
def c9:FnScope S9.N ["box","i","j"] (A2 t9):={}
def qm:FnScope S10.N ["box","low","high"] (A2 Mj):={}
def ql:FnScope S11.N ["box","low","high","number"] (A2 Mi):={}
def qk:FnScope S12.N ["box","low","high","pile"] (A2 Mh):={}
def qj:FnScope S13.N ["box","heights"] (A2 Mg):={}
def qi:FnScope S14.N ["box","heights"] (A2 Mf):={}
def qh:FnScope S15.N ["script","k"] (A2 Me):={}
def qg:FnScope S16.N ["cell","k"] (A2 Md):={}
def qf:FnScope S17.N ["left","rows","columns","height"] (A2 Mc):={}
def qe:FnScope S18.N ["box","left"] (A2 Mb):={}
def qc:FnScope S20.N ["table"] (A2 LZ):={}
def qb:FnScope S21.N ["box","found","left","way"] (A2 LY):={}
def qd:FnScope S19.N ["box","pile","left"] (A2 Ma):={}
def qa:FnScope S22.N ["way","box","low","high","thing"] (A2 LX):={}
def Pa:FnScope S23.N ["box","pile","bads","left"] (A2 LW):={}
def ZZ:FnScope S24.N ["script"] (A2 JV):={}
def all_ok {fa:Addr} (G:Given dfs [0,1,2,6,7] K mg) (hm:mg "law" = some (.ref fa)):
  ∃ fd:C0,(∀ (s:Ah) (u:Ae),BindsTo s fd ⟨[u],[]⟩ [("script",u)])/\∀ base:Heap,FnOk P w K mg base (AG P w K) 9 fa fd ["script"] (Bq K false 1 F24):=by
 have hb:=G.bn;have gx:=G.gx;obtain ⟨a0,d0,m0,f0⟩:=G.df 0 _ _ rfl;obtain ⟨a1,d1,m1,f1⟩:=G.df 1 _ _ rfl;obtain ⟨a2,d2,m2,f2⟩:=G.df 2 _ _ rfl;obtain ⟨a3,d3,m3,f3⟩:=G.df 3 _ _ rfl;obtain ⟨a4,d4,m4,f4⟩:=G.df 4 _ _ rfl;obtain ⟨a5,d5,m5,f5⟩:=G.df 5 _ _ rfl;obtain ⟨a6,d6,m6,f6⟩:=G.df 6 _ _ rfl;obtain ⟨a7,d7,m7,f7⟩:=G.df 7 _ _ rfl;obtain ⟨a8,d8,m8,f8⟩:=G.df 8 _ _ rfl;obtain ⟨a9,d9,m9,f9⟩:=G.df 9 _ _ rfl;obtain ⟨a10,d10,m10,f10⟩:=G.df 10 _ _ rfl;obtain ⟨a11,d11,m11,f11⟩:=G.df 11 _ _ rfl;obtain ⟨a12,d12,m12,f12⟩:=G.df 12 _ _ rfl;obtain ⟨a13,d13,m13,f13⟩:=G.df 13 _ _ rfl;obtain ⟨a14,d14,m14,f14⟩:=G.df 14 _ _ rfl;obtain ⟨a15,d15,m15,f15⟩:=G.df 15 _ _ rfl;obtain ⟨a16,d16,m16,f16⟩:=G.df 16 _ _ rfl;obtain ⟨a17,d17,m17,f17⟩:=G.df 17 _ _ rfl;obtain ⟨a18,d18,m18,f18⟩:=G.df 18 _ _ rfl;obtain ⟨a19,d19,m19,f19⟩:=G.df 19 _ _ rfl;obtain ⟨a20,d20,m20,f20⟩:=G.df 20 _ _ rfl;obtain ⟨a21,d21,m21,f21⟩:=G.df 21 _ _ rfl;obtain ⟨a22,d22,m22,f22⟩:=G.df 22 _ _ rfl;obtain ⟨a23,d23,m23,f23⟩:=G.df 23 _ _ rfl;obtain ⟨a24,d24,m24,f24⟩:=G.df 24 _ _ rfl;cases hm.symm.trans m24;have B0:=f0.binds (ps:=["thing"]) λ _ _ _ _ _ _ us hl=>by obtain ⟨_,rfl⟩:=Ee hl;rfl
 have B1:=f1.binds (ps:=["thing"]) λ _ _ _ _ _ _ us hl=>by obtain ⟨_,rfl⟩:=Ee hl;rfl
 have B2:=f2.binds (ps:=["box"]) λ _ _ _ _ _ _ us hl=>by obtain ⟨_,rfl⟩:=Ee hl;rfl
 have B3:=f3.binds (ps:=["thing","columns","height"]) λ _ _ _ _ _ _ us hl=>by obtain ⟨_,_,_,rfl⟩:=Ed hl;rfl
 have B4:=f4.binds (ps:=["numbers"]) λ _ _ _ _ _ _ us hl=>by obtain ⟨_,rfl⟩:=Ee hl;rfl
 have B5:=f5.binds (ps:=["table","j"]) λ _ _ _ _ _ _ us hl=>by obtain ⟨_,_,rfl⟩:=CS hl;rfl
 have B6:=f6.binds (ps:=["box","thing"]) λ _ _ _ _ _ _ us hl=>by obtain ⟨_,_,rfl⟩:=CS hl;rfl
 have B7:=f7.binds (ps:=["box","pile"]) λ _ _ _ _ _ _ us hl=>by obtain ⟨_,_,rfl⟩:=CS hl;rfl
 have B8:=f8.binds (ps:=["box","pile","other"]) λ _ _ _ _ _ _ us hl=>by obtain ⟨_,_,_,rfl⟩:=Ed hl;rfl
 have B9:=f9.binds (ps:=["box","i","j"]) λ _ _ _ _ _ _ us hl=>by obtain ⟨_,_,_,rfl⟩:=Ed hl;rfl
 have B10:=f10.binds (ps:=["box","low","high"]) λ _ _ _ _ _ _ us hl=>by obtain ⟨_,_,_,rfl⟩:=Ed hl;rfl
 have B11:=f11.binds (ps:=["box","low","high","number"]) λ _ _ _ _ _ _ us hl=>by obtain ⟨_,_,_,_,rfl⟩:=Ec hl;rfl
 have B12:=f12.binds (ps:=["box","low","high","pile"]) λ _ _ _ _ _ _ us hl=>by obtain ⟨_,_,_,_,rfl⟩:=Ec hl;rfl
 have B13:=f13.binds (ps:=["box","heights"]) λ _ _ _ _ _ _ us hl=>by obtain ⟨_,_,rfl⟩:=CS hl;rfl
 have B14:=f14.binds (ps:=["box","heights"]) λ _ _ _ _ _ _ us hl=>by obtain ⟨_,_,rfl⟩:=CS hl;rfl
 have B15:=f15.binds (ps:=["script","k"]) λ _ _ _ _ _ _ us hl=>by obtain ⟨_,_,rfl⟩:=CS hl;rfl
 have B16:=f16.binds (ps:=["cell","k"]) λ _ _ _ _ _ _ us hl=>by obtain ⟨_,_,rfl⟩:=CS hl;rfl
 have B17:=f17.binds (ps:=["left","rows","columns","height"]) λ _ _ _ _ _ _ us hl=>by obtain ⟨_,_,_,_,rfl⟩:=Ec hl;rfl
 have B18:=f18.binds (ps:=["box","left"]) λ _ _ _ _ _ _ us hl=>by obtain ⟨_,_,rfl⟩:=CS hl;rfl
 have B20:=f20.binds (ps:=["table"]) λ _ _ _ _ _ _ us hl=>by obtain ⟨_,rfl⟩:=Ee hl;rfl
 have B21:=f21.binds (ps:=["box","found","left","way"]) λ _ _ _ _ _ _ us hl=>by obtain ⟨_,_,_,_,rfl⟩:=Ec hl;rfl
 have B19:=f19.binds (ps:=["box","pile","left"]) λ _ _ _ _ _ _ us hl=>by obtain ⟨_,_,_,rfl⟩:=Ed hl;rfl
 have B22:=f22.binds (ps:=["way","box","low","high","thing"]) λ _ _ _ _ _ _ us hl=>by obtain ⟨_,_,_,_,_,rfl⟩:=O8 hl;rfl
 have B23:=f23.binds (ps:=["box","pile","bads","left"]) λ _ _ _ _ _ _ us hl=>by obtain ⟨_,_,_,_,rfl⟩:=Ec hl;rfl
 refine ⟨d24,?_,λ base=>?_⟩
 ·obtain ⟨_,_,_,_,_,_,_,_,_,rfl,_,_⟩:=f24.ex;exact λ s v=>.of_eq rfl
 have o0:FnOk P w K mg base (AG P w K) 1 a0 d0 ["thing"] (Bq K false 1 F0):=Ct S0 f0 c0 gx (BW hb) h0;have o1:FnOk P w K mg base (AG P w K) 2 a1 d1 ["thing"] (Bq K false 1 F1):=Ct S1 f1 c1 gx (Cm (BW hb) m0 f0 B0 o0) h1;have o2:FnOk P w K mg base (AG P w K) 3 a2 d2 ["box"] (Bq K false 1 F2):=Ct S2 f2 c2 gx (Cm (BW hb) m1 f1 B1 o1) h2;have o3:FnOk P w K mg base (AG P w K) 2 a3 d3 ["thing","columns","height"] (Bq K false 3 F3):=Ct S3 f3 c3 gx (Cm (BW hb) m0 f0 B0 o0) h3;have o4:FnOk P w K mg base (AG P w K) 1 a4 d4 ["numbers"] (Bq K false 1 F4):=Ct S4 f4 c4 gx (BW hb) h4;have o5:FnOk P w K mg base (AG P w K) 1 a5 d5 ["table","j"] (Bq K false 2 F5):=Ct S5 f5 c5 gx (BW hb) h5;have o6:FnOk P w K mg base (AG P w K) 4 a6 d6 ["box","thing"] (Bq K false 2 F6):=Ct S6 f6 c6 gx (Cm (Cm (Cm (Cm (BW hb) m5 f5 B5 o5) m4 f4 B4 o4) m3 f3 B3 o3) m2 f2 B2 o2) h6;have o7:FnOk P w K mg base (AG P w K) 5 a7 d7 ["box","pile"] (Bq K false 2 F7):=Ct S7 f7 c7 gx (Cm (BW hb) m6 f6 B6 o6) h7;have o8:FnOk P w K mg base (AG P w K) 6 a8 d8 ["box","pile","other"] (Bq K false 3 F8):=Ct S8 f8 c8 gx (Cm (BW hb) m7 f7 B7 o7) h8;have o9:FnOk P w K mg base (AG P w K) 2 a9 d9 ["box","i","j"] (Bq K false 3 F9):=Ct S9 f9 c9 gx (Cm (BW hb) m0 f0 B0 o0) h9;have o10:FnOk P w K mg base (AG P w K) 7 a10 d10 ["box","low","high"] (Bq K false 3 KQ):=Ct S10 f10 qm gx (Cm (BW hb) m8 f8 B8 o8) ZX;have o11:FnOk P w K mg base (AG P w K) 7 a11 d11 ["box","low","high","number"] (Bq K false 4 KP):=Ct S11 f11 ql gx (Cm (Cm (BW hb) m8 f8 B8 o8) m0 f0 B0 o0) ZW;have o12:FnOk P w K mg base (AG P w K) 7 a12 d12 ["box","low","high","pile"] (Bq K false 4 Ik):=Ct S12 f12 qk gx (Cm (Cm (BW hb) m8 f8 B8 o8) m7 f7 B7 o7) ZV;have o13:FnOk P w K mg base (AG P w K) 3 a13 d13 ["box","heights"] (Bq K false 2 Jo):=Ct S13 f13 qj gx (Cm (Cm (BW hb) m9 f9 B9 o9) m0 f0 B0 o0) ZU;have o14:FnOk P w K mg base (AG P w K) 4 a14 d14 ["box","heights"] (Bq K false 2 Jn):=Ct S14 f14 qi gx (Cm (Cm (BW hb) m13 f13 B13 o13) m2 f2 B2 o2) ZT;have o15:FnOk P w K mg base (AG P w K) 1 a15 d15 ["script","k"] (Bq K false 2 KO):=Ct S15 f15 qh gx (BW hb) ZS;have o16:FnOk P w K mg base (AG P w K) 1 a16 d16 ["cell","k"] (Bq K false 2 KN):=Ct S16 f16 qg gx (BW hb) ZR;have o17:FnOk P w K mg base (AG P w K) 1 a17 d17 ["left","rows","columns","height"] (Bq K false 4 KJ):=Ct S17 f17 qf gx (BW hb) ZQ;have o18:FnOk P w K mg base (AG P w K) 1 a18 d18 ["box","left"] (Bq K false 2 KI):=Ct S18 f18 qe gx (BW hb) ZP;have o20:FnOk P w K mg base (AG P w K) 1 a20 d20 ["table"] (Bq K false 1 Jm):=Ct S20 f20 qc gx (BW hb) ZN;have o21:FnOk P w K mg base (AG P w K) 2 a21 d21 ["box","found","left","way"] (HJ K Ij):=UU (S:=S21) f21 qb rfl rfl rfl rfl rfl gx (Cm (BW hb) m20 f20 B20 o20) Nk ZM;have o19:FnOk P w K mg base (AG P w K) 3 a19 d19 ["box","pile","left"] (Bq K false 3 KH):=QB (S:=S19) f19 qd rfl rfl rfl rfl (by decide) (λ h=>nomatch h) gx (BW hb) (Y6 Nk (by decide +kernel) m21 f21 B21 (o21.mono (by decide))) ZO;have o22:FnOk P w K mg base (AG P w K) 8 a22 d22 ["way","box","low","high","thing"] (Bq K false 5 C3):=Ct S22 f22 qa gx (Cm (Cm (Cm (Cm (BW hb) m14 f14 B14 o14) m12 f12 B12 o12) m11 f11 B11 o11) m10 f10 B10 o10) ZL;have o23:FnOk P w K mg base (AG P w K) 1 a23 d23 ["box","pile","bads","left"] (Bq K false 4 Jl):=Ct S23 f23 Pa gx (BW hb) ZK;exact Ct S24 f24 ZZ gx (GF (GF (GF (GF (GF (GF (GF (BW hb) (by decide +kernel) Gy m23 f23 B23 rfl (o23.mono (by decide))) (by decide +kernel) Gy m22 f22 B22 rfl (o22.mono (by decide))) (by decide +kernel) Gy m19 f19 B19 rfl (o19.mono (by decide))) (by decide +kernel) Gy m18 f18 B18 rfl (o18.mono (by decide))) (by decide +kernel) Gy m17 f17 B17 rfl (o17.mono (by decide))) (by decide +kernel) Gy m16 f16 B16 rfl (o16.mono (by decide))) (by decide +kernel) Gy m15 f15 B15 rfl (o15.mono (by decide))) ZJ
end
end K34
open PySem PySem.W PyProof.Rows
set_option maxRecDepth 100000 in
set_option maxHeartbeats 0 in
theorem PySem.Challenge.cw_cornerpiles_k34_refused_between_holds : PySem.Challenge.rw_cornerpiles_k34_refused_between.Holds := by
 refine QQ.holds_by (l:=PySem.Challenge.rw_cornerpiles_k34_refused_between) (q:=K34.view) (loose:=K34.loose) (N:=20000) (k:=9) (n:=63) (ds:=K34.dfs) (xc:=[0,1,2,6,7]) (F:=K34.F24) (x := "script") ?said rfl rfl (λ _=>rfl) K34.run (by rfl) (by rfl) (by rfl) (by rfl) (by decide +kernel) ⟨rfl,rfl,rfl,rfl,rfl,by decide +kernel⟩ ?hw rfl (by decide) rfl ⟨rfl,by decide,by decide,rfl⟩ (λ _ _ _ _ G hm=>K34.all_ok G hm) (λ _ _ _ ns hl hO hS=>QQ.sp_yes hO hS (K34.law_true ns hl))
 case said=>decide +kernel
 case hw=>w_witness2
