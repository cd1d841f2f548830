import PyProof.Rows.All
import Wide.All
import OpenK.AllK
import Wide.FinOn
import Lean
import PyProof.EqAt
import PyProof.EqKinds
import PyProof.TupleCall
import PySem.Challenge.RW_cornerpiles_k26_whole_below_and_above
open PySem renaming Value->va0,Shared->va1,sizeLine->va2,starEach->va4,wpAny_bind->va7,Program->va8,wpAny_pure->va9,model->vb2,wpAny->vb3,World->vb6,Around->vb8,cellsFrom->vb9,wpAny_truthy_bool->vc0,mainGlobals->vc1,compareOp->vc2,FuncData->vc4,assignEach->vc5,NameKind->vc8,Scope->vd0,wpAny_mono->vd1,binaryOp->vd3,backTo->vd4,mem_of_lookup->vd6,intItems->ve1,wpAny_newObj_type->ve2,wpAny_loadPart_at->ve3,bootBuiltins->ve5,sysModules->ve6,wpAny_passesOwn->ve7,sliceBounds->ve8,numAt->vf0,wpAny_Call_Name_kw->vf1,foldedSetIterable->vf6,behindInMarks->vf8,wpAny_execs_nil->vg3,letOwnedTupleGo->vg4,wpAny_holding->vg8,cLine->vg9,PyData->vh1,ExceptHandler->vh2,relabel->vh3,codeAny->vh4,codeAny_mono->vi1,noFill_tuple_add->vi4,pushCells_keeps->vi5,intItems_at->vi6,importedModules->vi7,callerA->vi9,assign->vj0,PassesOwn->vj4,newFunctionEnv->vj7,CmpOp->vk0
open PySem.Heap renaming lt_size->va3,get?_push_of_some->va5,get?_push_size->vb0,size_push->vf3,FlyingW->vi3
open PySem.W renaming Frag->va6,findIn->vb4,kia_one->vb5,kitOne->vb7,mroIn->vc7,boot_heap->vc9,keepIn->vd2,fnOf->vf2,looks_findIn->vg5,kitAny->vg6,hideAll_get->vg7,methodObj->vh5,kitx_none->vh6,boot_heap->vh7,instObj->vj1,lookIn->vj8,codeIn->vj9
open Ne renaming symm->vb1
open PyProof.Rows renaming callWith_type1->vc3,AllBare->vf5,slot_tuple_getitem->vh8,envOfC->vi8
open False renaming elim->vc6
open PySem.Builtin.Slice renaming slicePlaces->vd5,sliceAdjust->vf4,sliceApplied->vj6
open PySem.PyData renaming eqv->vd7,depth->vd8,canLay0->ve4,eqvAll->vg1,canLayAll0->vh9,depthAll->vj2
open PySem.Builtin.Tuple renaming tupleExact->vd9
open PySem.Builtin.List renaming listTooLong->ve0
open PySem.SeqAt.EqAt renaming same->ve9,of_refs->vh0
open PySem.F renaming args_tuple_add_2->vf7,plainAttrs_list->vf9,entry_tuple_add->vg0,slot_tuple_add->vg2
open PySem.Obj renaming mapSeq->vi0
open PySem.SeqAt renaming RcNeAt->vi2
open Prod.mk renaming inj->vj3
open PySem.Calls renaming Name_function_global->vj5
open List renaming mem_cons_of_mem->ja0,length_map->ja1,getD_eq_getElem?_getD->ja2,mem_cons_self->ja3,mem_append_right->ja5,length_singleton->ja6,replicate->ja7,getElem?_eq_some_iff->ja8,getElem?_set_ne->ja9,mem_append_left->jb0,length_append->jb1,mem_cons->jb2,getElem?_eq_getElem->jb3,length_cons->jb4,getElem?_set_self->jb5,mem_singleton->jb7,mem_append->jc0,size_toArray->jc1,getElem?_append_left->jc2,range->jc3,all_eq_true->jc4,length_set->jc5,length_take->jc7,map_cons->jc8,getElem?_append_right->jc9,length_replicate->jd0,getElem?_map->jd1,mem_range->jd3,mem_map->jd5,length_drop->jd6,lookup_cons->jd8,map_map->jd9,replicate_succ->je0,all_cons->je1,getElem_mem->je2,map_append->je3,length_range->je5,mem_of_mem_take->je6,length_reverse->je7,getElem?_replicate->je8,drop_eq_nil_of_le->je9,drop_eq_getElem_cons->jf1,flatten_cons->jf3,filter_eq_self->jf5,getElem?_take_of_lt->jf7,getElem_of_mem->jf8,take_of_length_le->jf9,not_mem_nil->jg0,set_cons_zero->jg1,set_cons_succ->jg2,getElem?_eq_none->jg3,mem_of_mem_drop->jg5,of_mem_zip->jg6,nil_append->jg7,getElem?_cons_succ->jg9,mem_filter->jh2,append_nil->jh4,range_succ->jh6,sum_append->jh7,length_nil->jh8,append_assoc->jh9,sum_cons->ji0,mem_of_getElem?->ji2,getElem?_eq_none_iff->ji3,filterMap_cons->ji4,take_succ_cons->ji5,zipWith->ji8,findIdx?_eq_some_iff_getElem->jj0,filter_cons_of_neg->jj1,filter_cons_of_pos->jj2,length_eq_zero_iff->jj5,filter_eq_nil_iff->jj7,reverse_cons->jk0,take_zero->jk1,set_append_right->jk3,cons_append->jk6,ext_getElem->jk7,nodup_cons->jk9,range'->jl0,getElem?_concat_length->jl1,flatMap_append->jl3,mem_filterMap->jl4,findIdx?_cons->jl7,mem_or_eq_of_mem_set->jm0,map_drop->jm2,map_nil->jm4,set_nil->jm5,getElem?_reverse->jm8,all_nil->jm9,length_zip->jn0,set_append_left->jn2,replicate_zero->jn3,getElem?_range->jn4,length_flatMap->jn5,take_nil->jn7,sum->jn8,mem_replicate->jo0,getElem_range->jo1,mem_range'_1->jo2,sum_nil->jo4,flatten_nil->jo6,range'_succ->jo8,map_reverse->jo9,mem_reverse->jp0,getElem_map->jp1,foldl_cons->jp2,forIn_cons->jp3,drop_zero->jp9,foldl->jq0,drop_nil->jq1,map_take->jq2,getD->jq7,set_set->jq8,map_id'->jq9,map_set->jr1,map_id->jr5
open Bool renaming and_eq_true->ja4,false_ne_true->jc6,eq_iff_iff->jf0,or_eq_true->jf2,and_false->jg4,false_or->ji1,true_xor->jj3,not_eq_true'->jj8,and_true->jk8,false_and->jl8,false_xor->jl9,and_eq_true_iff->jn1
open Nat renaming lt_of_lt_of_le->jb6,le_refl->jb8,ne_of_lt->jd2,le_trans->jd4,le_of_succ_le->jf4,lt_irrefl->jf6,lt_succ_self->jh0,lt_of_succ_lt_succ->jh1,ne_of_gt->jh3,zero_le->jh5,min_eq_left->jj6,lt_succ_of_lt->jj9,mul_le_mul->jk2,succ_ne_zero->jk4,le_add_right->jk5,succ_mul->jl5,zero_add->jl6,add_sub_cancel->jn9,le_of_lt->jo3,succ_le_succ->jo7,min_le_left->jp4,mul_comm->jq5,lt_trans->jq6,min_self->jr2,sub_zero->jr3,log2_lt->jr4
open Option renaming map_eq_some_iff->jb9,isSome_iff_exists->ji6,map_some->ji9,getD_none->jo5,map->jr6
open Int renaming eq_ofNat_of_zero_le->jd7,toNat_natCast->je4,zero_add->ji7,emod_lt_of_pos->jj4,emod_nonneg->jl2,natCast_mul->jm7,le_refl->jp5,natCast_add->jp6,mul_nonneg->jp7,mul_le_mul->jp8,add_assoc->jq3,le_trans->jr0
open Array renaming length_toList->jg8,toList_eq_nil_iff->jm1,getElem?_eq_none->jm3,getElem?_toList->jm6,append_assoc->jn6,toList->jq4
set_option Elab.async false
set_option linter.all false
set_option maxRecDepth 100000
set_option autoImplicit false
set_option maxHeartbeats 2000000
namespace L2
open PySem PySem.Spec PyProof.Rows
def zpk (s:Stmt):Arguments:=match s with
 | .FunctionDef _ a _ _ _ _ _ _ _ _=>a
 | _=>{ posonlyargs:=[],args:=[],vararg:=none,kwonlyargs:=[],kw_defaults:=[],kwarg:=none,defaults:=[] }
def zql (s:Stmt):List Stmt:=match s with
 | .FunctionDef _ _ b _ _ _ _ _ _ _=>b
 | _=>[]
def zqh (s:Stmt):vd0:=match s with
 | .FunctionDef _ _ _ _ _ _ sc _ _ _=>sc
 | _=>{ kind:=.function,names:=[],isGenerator:=false,isCoroutine:=false }
end L2
namespace QQ
open PySem PySem.Spec PySem.W PySem.Calls PyProof.Rows L2
abbrev Frag:=va6
def XN:List Str:=["PileError","NoBox","NoPile","NoStairs","NoWays","NoRoad","NoNumber","NoPlace","TooMany","NoText","NoName","NoRow"]
def zws (K:Frag) (c:Nat):Option Addr:=match XN[c]? with
 | some x=>(match PySem.W.nsIn K vc1 x with
  | some (some (.ref C))=>some C
  | _=>none)
 | none=>none
def bmV:List va0:=[.type "ValueError",.type "Exception",.type "BaseException",.type "object"]
def mroX (K:Frag) (C:Addr):List va0:=match K.lookup C with
 | some ⟨_,_,.cls cd,_⟩=>cd.mro
 | _=>[]
def isX (c d:Nat):Bool:=c == d || d == 0
def xTab (K:Frag):Bool:=(jc3 12).all λ c=>match zws K c with
 | some C=>PySem.W.excIn K C bmV "ValueError.__new__" && (jc3 12).all λ d=>(match zws K d with
  | some D=>(mroX K C).contains (.ref D) == isX c d
  | none=>true)
 | none=>true
def zjh (K:Frag) (C:Addr):Bool:=(PySem.W.clsIn K C).isSome && vc7 K C (.type "object") == some true && vc7 K C (.type "BaseException") == some true && vb4 K (.ref C) "__class__" == some (some (.builtin "object.__class__")) &&
 vb4 K (.ref C) "__getattribute__" == some (some (.builtin "BaseException.__getattribute__")) && vb4 K (.ref C) "__getattr__" == some none
def xKit (K:Frag):Bool:=vb7 K (.type "NoneType") (.type "ValueError") == some false && (jc3 12).all λ c=>match zws K c with
 | some C=>zjh K C && vb7 K (.type "NoneType") (.ref C) == some false && vb7 K (.ref C) (.type "ValueError") == some true && (jc3 12).all λ d=>(match zws K d with
  | some D=>vb7 K (.ref C) (.ref D) == some (isX c d)
  | none=>true)
 | none=>true
def zkf:List Str:=["len","isinstance","all","max","min","tuple","list","range","int","bool","str","dict","sum","enumerate","zip","reversed","set","ValueError","sorted","abs"]
def zyu (tb:String->Option Builtin) (p:va8) (w:vb6) (n₀:Nat) (ann:Option va0):Nat->SharedT->Thread->Option SharedT
 | 0,_,_=>none
 | n + 1,s,t=>match through t with
  | true=>some s
  | false=>match stepOk n₀ ann t with
   | false=>none
   | true=>match stepT (denote tb) p w s t with
    | some (s',t')=>zyu tb p w n₀ ann n s' t'
    | none=>none
def ofL:List Obj->Nat->BT->BT
 | [],_,t=>t
 | o::r,n,t=>ofL r (n + 1) (t.ins n o)
noncomputable def bootT (P:Params):BT:=ofL (vc9 P).objs.toList 0 .nil
noncomputable def bootS (P:Params) (os:OsState):SharedT:=⟨bootT P,(vc9 P).objs.size,(vc9 P).life,#[],boot_drawn,boot_toks,os⟩
def qa0 {α:Type} (p q:va8) (loose:List Str) (Xt:va1->Bool) (Yf:va1->α) (H:Heap) (s:va1):=
 ((staticsOk (vi7 p.main.body) H s.heap && namesBound p s.heap && gensDone s && laidKept H s.heap),openSeen q loose (vi7 p.main.body) Xt true s,Yf s)
def kof (h:Heap):Frag:=(jc3 h.objs.size).filterMap λ a=>(h.get? a).map λ o=>(a,o)
structure DefSeen where
 name:Str
 qual:Str
 params:Arguments
 body:FuncBody
 scope:vd0
 globals:Addr
 closure:List (Str×Addr)
 defaults:va0
 builtins:Addr
 code:Bool
def qa2 (K:Frag) (x:Str):Option DefSeen:=match nsIn K vc1 x with
 | some (some (.ref g))=>(match K.lookup g with
  | some ⟨_,_,.func fd,_⟩=>some ⟨fd.name,fd.qualname,fd.params,fd.body,fd.scope,fd.globals,fd.closure,fd.defaults,fd.builtins,codeIn K fd.code x⟩
  | _=>none)
 | _=>none
def qfy (x:Str) (st:Stmt):DefSeen:=⟨x,x,zpk st,.stmts (zql st),zqh st,mainNs,[],.none,0,true⟩
def zpe (ds:List (Str×Stmt)) (xc:List Nat) (K:Frag):List (Option DefSeen)×List (Option (Option va0))×Bool:=
 (ds.map λ d=>qa2 K d.1,zkf.map λ x=>nsIn K vc1 x,xc.isEmpty || (xTab K && xKit K && xc.all λ c=>(zws K c).isSome && match XN[c]? with
  | some x=>!(x == ("__debug__" : Str))
  | none=>false))
def zhk (ds:List (Str×Stmt)):List (Option DefSeen)×List (Option (Option va0))×Bool:=(ds.map λ d=>some (qfy d.1 d.2),zkf.map λ _=>some none,true)
end QQ
namespace K26
open PySem PySem.Spec PyProof.Rows L2 QQ
def top (i:Nat):Stmt:=PySem.Challenge.pw_cornerpiles_k26_whole_below_and_above.main.body.getD i (.Pass ⟨0,0,0,0⟩)
abbrev t0:Stmt:=top 14
abbrev t1:Stmt:=top 15
abbrev t2:Stmt:=top 16
abbrev t3:Stmt:=top 17
abbrev t4:Stmt:=top 18
abbrev t5:Stmt:=top 19
abbrev t6:Stmt:=top 20
abbrev t7:Stmt:=top 21
abbrev t8:Stmt:=top 22
abbrev t9:Stmt:=top 23
abbrev t10:Stmt:=top 25
abbrev t11:Stmt:=top 26
abbrev t12:Stmt:=top 27
abbrev t13:Stmt:=top 28
abbrev t14:Stmt:=top 29
abbrev t15:Stmt:=top 30
abbrev t16:Stmt:=top 31
abbrev t17:Stmt:=top 32
abbrev t18:Stmt:=top 33
abbrev t19:Stmt:=top 34
abbrev t20:Stmt:=top 35
abbrev t21:Stmt:=top 36
abbrev t23:Stmt:=top 38
abbrev t22:Stmt:=top 37
abbrev t24:Stmt:=top 39
abbrev t25:Stmt:=top 40
abbrev t26:Stmt:=top 42
abbrev t27:Stmt:=top 43
abbrev t28:Stmt:=top 44
abbrev t29:Stmt:=top 45
abbrev t30:Stmt:=top 46
abbrev t31:Stmt:=top 47
abbrev t32:Stmt:=top 48
abbrev t33:Stmt:=top 49
abbrev t34:Stmt:=top 50
abbrev t35:Stmt:=top 51
abbrev t36:Stmt:=top 52
abbrev t37:Stmt:=top 53
abbrev t38:Stmt:=top 54
def dfs:List (Str×Stmt):=[(("is_whole_number" : Str),t0),(("is_box" : Str),t1),(("must_be_box" : Str),t2),(("is_row_of_heights" : Str),t3),(("never_rises" : Str),t4),(("column_of" : Str),t5),(("is_pile" : Str),t6),(("must_be_pile" : Str),t7),(("how_many_cubes" : Str),t8),(("rest_of" : Str),t9),(("must_be_two_piles" : Str),t10),(("places_of" : Str),t11),(("is_place" : Str),t12),(("copy_of" : Str),t13),(("table_after" : Str),t14),(("places_to_move" : Str),t15),(("may_move" : Str),t16),(("fewest_moved" : Str),t17),(("is_step" : Str),t18),(("road_end" : Str),t19),(("steps_off" : Str),t20),(("steps_on" : Str),t21),(("road_to" : Str),t22),(("pile_below" : Str),t23),(("pile_above" : Str),t24),(("lies_below" : Str),t25),(("_law_pool" : Str),t26),(("_law_take" : Str),t27),(("_law_box" : Str),t28),(("_law_pile" : Str),t29),(("_law_is" : Str),t30),(("_law_near" : Str),t31),(("_law_two_right" : Str),t32),(("_law_three_right" : Str),t33),(("_law_refused" : Str),t34),(("_law_is_pile" : Str),t35),(("_law_none" : Str),t36),(("_law_refusals_right" : Str),t37),(("law" : Str),t38)]
def view:va8:={ PySem.Challenge.pw_cornerpiles_k26_whole_below_and_above with main:={ PySem.Challenge.pw_cornerpiles_k26_whole_below_and_above.main with body:=[t38] } }
def loose:List Str:=(PySem.Challenge.pw_cornerpiles_k26_whole_below_and_above.main.scope.names.map λ x=>x.1).filter λ x=>!(x == ("law" : Str))
theorem run:∀ (w:PySem.World) (os:PySem.OsState),(zyu PySem.treeTable PySem.Challenge.rw_cornerpiles_k26_whole_below_and_above.prog w (vh7 w.params).objs.size ((vh7 w.params).nsMap vc1 "__annotations__") 20000 (bootS w.params os) (PySem.W.topStub PySem.Challenge.rw_cornerpiles_k26_whole_below_and_above.prog)).map (λ s=>qa0 PySem.Challenge.rw_cornerpiles_k26_whole_below_and_above.prog view loose (λ s=>PySem.W.xlAt view [] s && PySem.W.recOk (PySem.W.RowW.records PySem.Challenge.rw_cornerpiles_k26_whole_below_and_above.row.toRowW) s) (λ s=>zpe dfs [0,1,2,3,4,5,6,7,8,9,10,11] (kof s.heap)) (vh7 w.params) s.abs)=some (true,PySem.W.openGood view loose,zhk dfs):=λ w os=>by kernel_rfl
end K26
namespace L2
open PySem PySem.Spec PyProof.Rows
abbrev Key:=Sum Int Str
def qow:Key->va0->Bool
 | .inl k,v=>Value.isInt k v
 | .inr x,v=>Value.isStrOf x v
def keyH (w:vb6):Key->Int
 | .inl k=>hashInt k
 | .inr x=>hashStr w x
theorem zxl:∀ {k:Key}{v:va0},qow k v=true->(∃ i t,k=Sum.inl i/\v=Value.int i t)\/(∃ x t,k=Sum.inr x/\v=Value.str x t)
 | .inl i,v,h=>by
  obtain ⟨t,e⟩:=Value.isInt_shape (k:=i) (v:=v) h
  exact .inl ⟨i,t,rfl,e⟩
 | .inr x,v,h=>by
  obtain ⟨t,e⟩:=Value.isStrOf_shape (x:=x) (v:=v) h
  exact .inr ⟨x,t,rfl,e⟩
theorem qov (a b:Int):decide ((Sum.inl a:Key)=Sum.inl b)=(a == b):=by
 by_cases e:a=b
 ·subst e;simp
 ·have h:¬ (Sum.inl a:Key)=Sum.inl b:=λ q=>e (Sum.inl.inj q)
  rw [decide_eq_false h]
  exact (beq_eq_false_iff_ne.mpr e).symm
theorem qos (a b:Str):decide ((Sum.inr a:Key)=Sum.inr b)=decide (a=b):=by
 by_cases e:a=b
 ·subst e;simp
 ·have h:¬ (Sum.inr a:Key)=Sum.inr b:=λ q=>e (Sum.inr.inj q)
  rw [decide_eq_false h,decide_eq_false e]
theorem qou (a:Int) (b:Str):decide ((Sum.inl a:Key)=Sum.inr b)=false:=decide_eq_false (λ q=>nomatch q)
theorem qot (a:Str) (b:Int):decide ((Sum.inr a:Key)=Sum.inl b)=false:=decide_eq_false (λ q=>nomatch q)
def zvz (prog:va8) (w:vb6):PySem.KeyKind prog w Key where
 is:=qow
 hash:=keyH w
 inj:=λ v a b ha hb=>by
  rcases zxl ha with ⟨i,t,rfl,rfl⟩ | ⟨x,t,rfl,rfl⟩
  ·rcases zxl hb with ⟨j,u,rfl,e⟩ | ⟨y,u,rfl,e⟩
   ·injection e with e1 _;rw [e1]
   ·exact nomatch e
  ·rcases zxl hb with ⟨j,u,rfl,e⟩ | ⟨y,u,rfl,e⟩
   ·exact nomatch e
   ·injection e with e1 _;rw [e1]
 byValue:=λ k v h=>by
  rcases zxl h with ⟨i,t,rfl,rfl⟩ | ⟨x,t,rfl,rfl⟩ <;> rfl
 pyHash:=λ hv h=>by
  rcases zxl hv with ⟨i,t,rfl,rfl⟩ | ⟨x,t,rfl,rfl⟩
  ·exact wpAny_pyHash_int h
  ·exact wpAny_pyHash_str h
 eqBool:=λ hu hv h=>by
  rcases zxl hu with ⟨i,t,rfl,rfl⟩ | ⟨x,t,rfl,rfl⟩
  ·rcases zxl hv with ⟨j,u,rfl,rfl⟩ | ⟨y,u,rfl,rfl⟩
   ·rw [qov] at h;exact wpAny_eqBool_int h
   ·rw [qou] at h;exact SeqAt.EqAt.int_str i t y u _ _ _ _ h
  ·rcases zxl hv with ⟨j,u,rfl,rfl⟩ | ⟨y,u,rfl,rfl⟩
   ·rw [qot] at h;exact SeqAt.EqAt.str_int x t j u _ _ _ _ h
   ·rw [qos] at h;exact wpAny_eqBool_str h
 «strs»:=λ k x t v h=>by
  rcases zxl h with ⟨i,u,rfl,e⟩ | ⟨y,u,rfl,e⟩
  ·exact nomatch e
  ·injection e with e1 _
   subst e1
   cases v <;> rfl
inductive V where
 | non | bl (b:Bool) | int (i:Int) | str (x:Str) | byt (b:Array UInt8) | flt (b:UInt64) | ref (a:Addr) | ty (n:String)
 deriving DecidableEq
def RelV:V->va0->Prop
 | .non,u=>u=Value.none
 | .bl b,u=>u=Value.bool b
 | .int i,u=>∃ t,u=Value.int i t
 | .str x,u=>∃ t,u=Value.str x t
 | .byt b,u=>∃ t,u=Value.bytes b t
 | .flt b,u=>∃ t,u=Value.float b t
 | .ref a,u=>u=Value.ref a
 | .ty n,u=>u=Value.type n
abbrev Vals:List V->List va0->Prop:=Paired RelV
theorem Vals.length {xs:List V}{us:List va0} (r:Vals xs us):xs.length=us.length:=Paired.length r
theorem Vals.get:∀ {xs:List V}{us:List va0}{i:Nat}{x:V},Vals xs us->xs[i]?=some x->∃ u,us[i]?=some u/\RelV x u
 | _,_,_,_,.nil,e=>by simp at e
 | _,_,0,_,.cons r _,e=>by simp at e;subst e;exact ⟨_,rfl,r⟩
 | _,_,i + 1,x,.cons _ t,e=>by
  obtain ⟨u,h1,h2⟩:=Vals.get (i:=i) (x:=x) t (by simpa using e)
  exact ⟨u,by simpa using h1,h2⟩
theorem Vals.set {x:V}{u:va0} (r:RelV x u):∀ {xs:List V}{us:List va0} (i:Nat),Vals xs us->Vals (xs.set i x) (us.set i u)
 | _,_,_,.nil=>.nil
 | _,_,0,.cons _ t=>.cons r t
 | _,_,i + 1,.cons q t=>.cons q (Vals.set r i t)
theorem Vals.append:∀ {xs ys:List V}{us ws:List va0},Vals xs us->Vals ys ws->Vals (xs++ys) (us++ws)
 | _,_,_,_,.nil,s=>s
 | _,_,_,_,.cons r t,s=>.cons r (Vals.append t s)
theorem Vals.take:∀ {xs:List V}{us:List va0} (n:Nat),Vals xs us->Vals (xs.take n) (us.take n)
 | _,_,0,_=>.nil
 | _,_,_ + 1,.nil=>.nil
 | _,_,n + 1,.cons r t=>.cons r (Vals.take n t)
theorem Vals.drop:∀ {xs:List V}{us:List va0} (n:Nat),Vals xs us->Vals (xs.drop n) (us.drop n)
 | _,_,0,r=>r
 | _,_,_ + 1,.nil=>.nil
 | _,_,n + 1,.cons _ t=>Vals.drop n t
def RelO:Option V->Option va0->Prop
 | some v,some u=>RelV v u
 | none,none=>True
 | _,_=>False
def KV {κ:Type}:List (κ×V)->List (κ×va0)->Prop:=Paired λ (p:κ×V) (q:κ×va0)=>p.1=q.1/\RelV p.2 q.2
def kV:Key->V
 | .inl i=>.int i
 | .inr x=>.str x
inductive HO where
 | lst (xs:List V)
 | tup (xs:List V)
 | dK (kvs:List (Key×V)) | dT (kvs:List (List Key×V))
 | set (S:Int->Bool) (n:Nat)
 | ins (C dx:Addr) (fs:List (Str×V))
 | own (x:Addr)
 | xd (fs:List (Str×V))
 | met (f x:Addr)
 | rng (lo hi:Int)
 | frz (o:Obj) (u:HO)
 | tbl (ps:Array va0)
 | ext (φ:Heap->Prop)
abbrev Hp:=Addr->Option HO
def upd (H:Hp) (a:Addr) (o:HO):Hp:=λ b=>if b=a then some o else H b
theorem zqo {H:Hp}{a:Addr}{o:HO}:upd H a o a=some o:=by unfold upd;rw [if_pos rfl]
theorem zqn {H:Hp}{a b:Addr}{o:HO} (h:b≠a):upd H a o b=H b:=by unfold upd;rw [if_neg h]
theorem zzg {H:Hp}{a b:Addr}{o:HO} (h:H a=some o) (h':H b=none):a≠b:=by
 intro e;subst e;rw [h] at h';cases h'
section
variable (P:va8) (w:vb6)
def zwz (H:Hp) (h:Heap) (a:Addr):HO->Prop
 | .lst xs=>xs.length<=va2/\∃ (its:List va0) (n:Nat),Vals xs its/\h.get? a=some { cls:=.type "list",data:=.seq its.toArray n }
 | .tup xs=>xs.length<=va2/\∃ its:List va0,Vals xs its/\IsTup h a its.toArray
 | .dK kvs=>kvs.length<=va2/\(a == ve6)=false/\∃ vs,KV kvs vs/\h.DictOf (zvz P w) a vs
 | .dT kvs=>kvs.length<=va2/\(a == ve6)=false/\∃ xs:List (List Key×Addr×va0),
   Paired (λ (p:List Key×V) (q:List Key×Addr×va0)=>p.1=q.1/\H q.2.1=some (.tup (p.1.map kV))/\RelV p.2 q.2.2) kvs xs /\
   ∃ o es ep,h.get? a=some o/\o.ExactDict/\o.data=.dict es ep/\es.toList=xs.map (entryOfKey (tupleKind (zvz P w)))/\(xs.map (·.1)).Nodup
 | .set S n=>h.SetOf (intKind P w) a S n
 | .ins C dx fs=>H dx=some (.own a)/\fs.length<=1000/\dx≠a/\h.get? a=some (vj1 C dx) /\
   ∃ mA,h.Ns1 dx mA/\(∀ f,RelO (fs.lookup f) (mA f))/\PySem.Within mA (fs.map (·.1))
 | .own _=>∃ o,h.get? a=some o
 | .xd fs=>∃ mA,h.Ns1 a mA/\∀ f,RelO (fs.lookup f) (mA f)
 | .rng lo hi=>∃ t u v,h.get? a=some { cls:=.type "range",data:=.fields #[.int lo t,.int hi u,.int 1 v] }
 | .frz o u=>h.get? a=some o/\zwz H h a u
 | .tbl ps=>h.get? a=some { cls:=.none,data:=.fields ps }
 | .met f x=>h.get? a=some (vh5 (.ref f) (.ref x))
 | .ext φ=>φ h/\(∃ o,h.get? a=some o)/\∀ h1 h2:Heap,φ h1->(∀ o,h1.get? a=some o->h2.get? a=some o)->φ h2
def HOk (H:Hp) (h:Heap):Prop:=∀ a o,H a=some o->zwz P w H h a o
end
section
variable {P:va8}{w:vb6}{H H':Hp}{h h':Heap}{a:Addr}{o:HO}
theorem zwz.lt (x:zwz P w H h a o):a < h.objs.size:=by
 cases o with
 | lst xs=>obtain ⟨_,_,_,_,e⟩:=x;exact va3 e
 | tup xs=>obtain ⟨_,_,_,p⟩:=x;exact p.lt
 | dK kvs=>obtain ⟨_,_,_,_,o,_,_,e,_⟩:=x;exact va3 e
 | dT kvs=>obtain ⟨_,_,_,_,o,_,_,e,_⟩:=x;exact va3 e
 | set S n=>obtain ⟨o,_,_,_,e,_⟩:=x;exact va3 e
 | ins C dx fs=>obtain ⟨_,_,_,e,_⟩:=x;exact va3 e
 | own y=>obtain ⟨_,e⟩:=x;exact va3 e
 | xd fs=>obtain ⟨_,⟨_,_,_,e,_⟩,_⟩:=x;exact va3 e
 | rng lo hi=>obtain ⟨_,_,_,e⟩:=x;exact va3 e
 | frz ob u=>obtain ⟨e,_⟩:=x;exact va3 e
 | tbl ps=>exact va3 (show h.get? a=some _ from x)
 | met f y=>exact va3 (show h.get? a=some _ from x)
 | ext φ=>obtain ⟨_,⟨_,e⟩,_⟩:=x;exact va3 e
theorem Paired.mapP {α β:Type}{F G:α->β->Prop}:∀ {l₁:List α}{l₂:List β},Paired F l₁ l₂->(∀ a b,F a b->G a b)->Paired G l₁ l₂
 | _,_,.nil,_=>.nil
 | _,_,.cons r t,f=>.cons (f _ _ r) (Paired.mapP t f)
theorem zwz.stay (x:zwz P w H h a o) (k:∀ b u,(b=a\/H b=some (.own a))->h.get? b=some u->h'.get? b=some u)
  (ho:∀ b,H b=some (.own a)->H' b=some (.own a)) (ht:∀ b xs,H b=some (.tup xs)->H' b=some (.tup xs)):zwz P w H' h' a o:=by
 induction o with
 | lst xs=>obtain ⟨z,its,n,r,e⟩:=x;exact ⟨z,its,n,r,k _ _ (.inl rfl) e⟩
 | tup xs=>obtain ⟨z,its,r,ob,e,c⟩:=x;exact ⟨z,its,r,ob,k _ _ (.inl rfl) e,c⟩
 | dK kvs=>obtain ⟨z,y,vs,r,ob,es,ep,e,c⟩:=x;exact ⟨z,y,vs,r,ob,es,ep,k _ _ (.inl rfl) e,c⟩
 | dT kvs=>
  obtain ⟨z,y,xs,r,ob,es,ep,e,c⟩:=x
  exact ⟨z,y,xs,Paired.mapP r λ p q z=>⟨z.1,ht _ _ z.2.1,z.2.2⟩,ob,es,ep,k _ _ (.inl rfl) e,c⟩
 | set S n=>obtain ⟨ob,es,ep,t,e,c⟩:=x;exact ⟨ob,es,ep,t,k _ _ (.inl rfl) e,c⟩
 | ins C dx fs=>
  obtain ⟨d,z,ne,e,mA,⟨od,es,ep,e2,c⟩,r⟩:=x
  exact ⟨ho _ d,z,ne,k _ _ (.inl rfl) e,mA,⟨od,es,ep,k _ _ (.inr d) e2,c⟩,r⟩
 | own y=>obtain ⟨ob,e⟩:=x;exact ⟨ob,k _ _ (.inl rfl) e⟩
 | xd fs=>obtain ⟨mA,⟨od,es,ep,e,c⟩,r⟩:=x;exact ⟨mA,⟨od,es,ep,k _ _ (.inl rfl) e,c⟩,r⟩
 | rng lo hi=>obtain ⟨t,u,v,e⟩:=x;exact ⟨t,u,v,k _ _ (.inl rfl) e⟩
 | frz ob u ih=>obtain ⟨e,q⟩:=x;exact ⟨k _ _ (.inl rfl) e,ih q⟩
 | tbl ps=>
  have e:h.get? a=some { cls:=.none,data:=.fields ps }:=x
  show h'.get? a=some { cls:=.none,data:=.fields ps }
  exact k a _ (.inl rfl) e
 | met f y=>
  have e:h.get? a=some (vh5 (.ref f) (.ref y)):=x
  show h'.get? a=some (vh5 (.ref f) (.ref y))
  exact k a _ (.inl rfl) e
 | ext φ=>obtain ⟨p,⟨o,e⟩,st⟩:=x;exact ⟨st _ _ p λ o q=>k _ _ (.inl rfl) q,⟨o,k _ _ (.inl rfl) e⟩,st⟩
theorem HOk.lt (x:HOk P w H h) (e:H a=some o):a < h.objs.size:=(x a o e).lt
theorem HOk.fresh (x:HOk P w H h) (e:h.objs.size<=a):H a=none:=by
 cases q:H a with
 | none=>rfl
 | some u=>exact absurd (jb6 (x.lt q) e) (jf6 _)
theorem HOk.kept (x:HOk P w H h) (k:∀ b u,h.get? b=some u->h'.get? b=some u):HOk P w H h':=λ a o e=>
 (x a o e).stay (λ b u _ q=>k b u q) (λ _ q=>q) λ _ _ q=>q
theorem HOk.laid (x:HOk P w H h) (k:∀ b u,h.get? b=some u->h'.get? b=some u) (hp:h.objs.size<=a) (new:zwz P w (upd H a o) h' a o):HOk P w (upd H a o) h':=λ b u e=>by
 have hn:=x.fresh hp
 by_cases hb:b=a
 ·subst hb;rw [zqo] at e;cases e;exact new
 ·rw [zqn hb] at e
  exact (x b u e).stay (λ c v _ q=>k c v q) (λ c q=>by rw [zqn (zzg q hn)];exact q) λ c xs q=>by rw [zqn (zzg q hn)];exact q
end
def Rd (H:Hp) (a:Addr) (u:HO):Prop:=H a=some u\/∃ o,H a=some (.frz o u)
theorem Rd.ok {P:va8}{w:vb6}{H:Hp}{h:Heap}{a:Addr}{u:HO} (r:Rd H a u) (x:HOk P w H h):zwz P w H h a u:=by
 rcases r with r | ⟨o,r⟩
 ·exact x a u r
 ·obtain ⟨_,q⟩:=x a _ r
  exact q
def Mut:Option HO->Prop
 | some (.lst _)=>True
 | some (.dK _)=>True
 | some (.dT _)=>True
 | some (.set _ _)=>True
 | some (.ins _ _ _)=>True
 | some (.ext _)=>True
 | _=>False
section
variable {P:va8}{w:vb6}{H:Hp}{h h':Heap}{x e:Addr}{o':HO}
theorem HOk.write (ok:HOk P w H h) (mu:Mut (H x)) (he:e=x\/H e=some (.own x)) (k:∀ b u,b≠e->h.get? b=some u->h'.get? b=some u) (heo:∃ u,h'.get? e=some u)
  (new:zwz P w (upd H x o') h' x o'):HOk P w (upd H x o') h':=λ b u q=>by
 have nown:∀ c y,H c=some (.own y)->c≠x:=λ c y r z=>by subst z;rw [r] at mu;exact mu
 have ntup:∀ c xs,H c=some (.tup xs)->c≠x:=λ c xs r z=>by subst z;rw [r] at mu;exact mu
 by_cases hb:b=x
 ·subst hb;rw [zqo] at q;cases q;exact new
 ·rw [zqn hb] at q
  by_cases hbe:b=e
  ·have q':H b=some (.own x):=by
    rcases he with z | z
    ·exact absurd (hbe.trans z) hb
    ·rw [hbe];exact z
   rw [q] at q';cases q'
   obtain ⟨v,hv⟩:=heo
   exact ⟨v,by rw [hbe];exact hv⟩
  ·refine (ok b u q).stay (λ c v hc r=>k c v ?_ r) (λ c r=>by rw [zqn (nown c b r)];exact r) λ c xs r=>by rw [zqn (ntup c xs r)];exact r
   rcases hc with rfl | hc
   ·exact hbe
   ·rintro rfl
    rcases he with z | z
    ·exact nown c b hc z
    ·rw [hc] at z;cases z;exact hb rfl
end
structure Un (fs ex:List Addr) (H H':Hp) (h h':Heap):Prop where
 keep:∀ b o,h.get? b=some o->H b=none->b∉fs->b∉ex->h'.get? b=some o
 slot:∀ b o,h.get? b=some o->H b=none->b∈fs->b∉ex->∃ sl,h'.get? b=some { o with slots:=sl }
 free:∀ b o,h.get? b=some o->H b=none->b∉ex->H' b=none
 there:∀ b o,h.get? b=some o->b∉ex->∃ o',h'.get? b=some o'
 tups:∀ b xs,H b=some (.tup xs)->H' b=some (.tup xs)
 frzs:∀ b o u,H b=some (.frz o u)->H' b=some (.frz o u)
 tbls:∀ b ps,H b=some (.tbl ps)->∃ more,H' b=some (.tbl (ps++more))
section
variable {fs fs' ex ex':List Addr}{H H1 H2:Hp}{h h1 h2 h':Heap}{a x e:Addr}{o:HO}
theorem Un.any (u:Un fs ex H H1 h h1) {b:Addr}{ob:Obj} (q:h.get? b=some ob) (n:H b=none) (hx:b∉ex):∃ sl,h1.get? b=some { ob with slots:=sl }:=by
 by_cases hb:b∈fs
 ·exact u.slot b ob q n hb hx
 ·exact ⟨ob.slots,u.keep b ob q n hb hx⟩
theorem Un.kept (k:∀ b u,h.get? b=some u->h'.get? b=some u):Un fs ex H H h h':=
 ⟨λ b ob q _ _ _=>k b ob q,λ b ob q _ _ _=>⟨ob.slots,k b ob q⟩,λ _ _ _ n _=>n,λ b ob q _=>⟨ob,k b ob q⟩,λ _ _ q=>q,λ _ _ _ q=>q,λ _ ps q=>⟨#[],by rw [q];simp⟩⟩
theorem Un.refl:Un fs ex H H h h:=Un.kept λ _ _ q=>q
theorem Un.laid (k:∀ b u,h.get? b=some u->h'.get? b=some u) (hp:h.objs.size<=a) (hn:H a=none):Un fs ex H (upd H a o) h h' where
 keep:=λ b u q _ _ _=>k b u q
 slot:=λ b u q _ _ _=>⟨u.slots,k b u q⟩
 free:=λ b u q n _=>by rw [zqn (jd2 (jb6 (va3 q) hp))];exact n
 there:=λ b u q _=>⟨u,k b u q⟩
 tups:=λ b xs q=>by rw [zqn (zzg q hn)];exact q
 frzs:=λ b u xs q=>by rw [zqn (zzg q hn)];exact q
 tbls:=λ b ps q=>⟨#[],by rw [zqn (zzg q hn),q];simp⟩
theorem Un.write (mu:Mut (H x)) (he:e=x\/H e=some (.own x)) (k:∀ b u,b≠e->h.get? b=some u->h'.get? b=some u) (heo:∃ u,h'.get? e=some u):Un fs ex H (upd H x o) h h':=by
 have hx:∀ b,H b=none->b≠x:=λ b n z=>by subst z;rw [n] at mu;exact mu
 have hb:∀ b,H b=none->b≠e:=λ b n z=>by
  subst z
  rcases he with r | r
  ·exact hx b n r
  ·rw [n] at r;cases r
 have hm:∀ b u,H b=some u->¬ Mut (some u)->b≠x:=λ b u q nm z=>by subst z;rw [q] at mu;exact nm mu
 refine ⟨λ b u q n _ _=>k b u (hb b n) q,λ b u q n _ _=>⟨u.slots,k b u (hb b n) q⟩,λ b u q n _=>by rw [zqn (hx b n)];exact n,λ b u q _=>?_,
  λ b xs q=>by rw [zqn (hm b _ q λ z=>z)];exact q,λ b u xs q=>by rw [zqn (hm b _ q λ z=>z)];exact q,λ b ps q=>⟨#[],by rw [zqn (hm b _ q λ z=>z),q];simp⟩⟩
 by_cases hbe:b=e
 ·subst hbe;exact heo
 ·exact ⟨u,k b u hbe q⟩
end
def trk (h:Heap) (H:Hp):List Addr:=(jc3 h.objs.size).filter λ a=>(H a).isSome
def hidT (h:Heap) (H:Hp):Heap:=PySem.W.hideAll h (trk h H)
theorem qfn (h:Heap) (H:Hp):(hidT h H).objs.size=h.objs.size:=PySem.W.hideAll_size _ _
theorem qhx {h:Heap}{H:Hp}{b:Addr}{o:Obj} (e:h.get? b=some o) (n:H b=none):(hidT h H).get? b=some o:=
 vg7 _ e λ hm=>by
  have q:(H b).isSome=true:=(jh2.mp hm).2
  rw [n] at q;simp at q
theorem qk3 {h:Heap}{H:Hp}{b:Addr}{o:Obj} (e:(hidT h H).get? b=some o):h.get? b=some o/\H b=none:=by
 have e':h.get? b=some o:=PySem.W.of_hideAll (trk h H) e
 refine ⟨e',?_⟩
 cases q:H b with
 | none=>rfl
 | some x=>
  have hm:b∈trk h H:=jh2.mpr ⟨jd3.mpr (va3 e'),by simp [q]⟩
  have z:(hidT h H).get? b=none:=PySem.W.hideAll_none (trk h H) hm
  rw [z] at e;cases e
def qmb (g h:Heap) (L:Addr):List (Addr×Obj):=(jc3 h.objs.size).filterMap λ a=>if a=L\/(g.get? a).isSome=true then none else (h.get? a).map λ o=>(a,o)
def rest (g h:Heap) (L d:Addr):List (Addr×Obj):=(qmb g h L).filter λ p=>decide (p.1≠d)
structure Mod (K:va6) (mg:Str->Option va0) (base:Heap):Prop where
 kin:K.In base
 glob:base.Ns vc1 mg
 blt:∃ mb,base.Ns builtinsNs mb/\∀ x:Str,x ≠ "__name__" -> mb x=ve5 x
 nolimit:base.NoLimit
structure Cx where
 prog:va8
 w:vb6
 K:va6
 mg:Str->Option va0
 base:Heap
 A:vb8
 N:List Str
 s₀:va1
 H₀:Hp
 env:Env
 outer:List Env
 stack:List Env
 ex:List Addr
 fn:Str->Bool
 calm:Bool
 pn:List (Addr×Obj)
 xe:va0->va1->Prop
def frs (l:List Env):List Addr:=l.filterMap (·.frame)
abbrev Cx.fs (X:Cx):List Addr:=frs X.outer
def Vis (sc:vd0) (x:Str):Prop:=sc.names.lookup x=some .local\/sc.names.lookup x=some .cell\/sc.names.lookup x=some .free
def Loc (sc:vd0) (x:Str):Prop:=sc.names.lookup x=some .local\/sc.names.lookup x=some .cell
def Look (env:Env) (h:Heap) (m:Str->Option va0) (x:Str) (u:va0):Prop:=
 (env.kindOf x=some .local/\m x=some u)\/((env.kindOf x=some .cell\/env.kindOf x=some .free)/\∃ c,env.cells.lookup x=some c/\h.IsCell c (some u))
structure Cx.Ok (X:Cx):Prop where
 mod:Mod X.K X.mg X.base
 kind:X.env.scope.kind=.function
 glob:X.env.globals=vc1
 blt:X.env.builtins=builtinsNs
 above:X.s₀.heap.objs.size<=X.env.locals
 inj:∀ x y c,X.env.cells.lookup x=some c->X.env.cells.lookup y=some c->x=y
 has:∀ x,(X.env.kindOf x=some .cell\/X.env.kindOf x=some .free)->∃ c,X.env.cells.lookup x=some c
 cab:∀ x c,X.fn x=true->X.env.cells.lookup x=some c->X.s₀.heap.objs.size<=c
 hd:X.calm=true->X.A.handled=none
 frames:X.A.frames=some X.stack
 stk:X.stack=X.outer\/(X.stack=X.env::X.outer/\X.env.frame=some X.env.locals)
 exf:∀ b∈X.ex,b≠X.env.locals/\∀ x c,X.env.cells.lookup x=some c->c≠b
 bs:∀ b o,X.base.get? b=some o->X.s₀.heap.get? b=some o/\X.H₀ b=none
 bsz:X.base.objs.size<=X.s₀.heap.objs.size
 noex:∀ b o,X.base.get? b=some o->b∉X.ex
 exfs:∀ b∈X.ex,b∉X.fs
 funs:X.s₀.heap.FunFrames X.base X.outer
 frf:∀ b∈X.fs,X.H₀ b=none
structure Inv (X:Cx) (pins:List (Addr×Obj)) (σ:List (Option V)) (H:Hp) (s:va1):Prop where
 ok:X.Ok
 os:s.os=X.s₀.os
 bare:vf5 s.gens
 base:Un X.fs X.ex X.H₀ H X.s₀.heap s.heap
 loc:∃ m,s.heap.Ns X.env.locals m/\∀ (i:Nat) (x:Str) (v:V),X.N[i]?=some x->σ[i]?=some (some v)->Vis X.env.scope x->∃ u,RelV v u/\Look X.env s.heap m x u
 cell:∀ x c,X.env.cells.lookup x=some c->∃ v,s.heap.IsCell c v
 free:H X.env.locals=none
 freeC:∀ x c,X.env.cells.lookup x=some c->H c=none
 pin:∀ p∈X.pn++pins,s.heap.get? p.1=some p.2/\H p.1=none/\p.1≠X.env.locals/\p.1∉X.fs/\∀ v,p.2.data≠.cell v
 hok:HOk X.prog X.w H s.heap
 len:σ.length=X.N.length
section
variable {X:Cx}{pins:List (Addr×Obj)}{σ:List (Option V)}{H H':Hp}{s:va1}{h':Heap}
theorem Cx.Ok.nofr (ok:X.Ok) {b:Addr}{o:Obj} (e:X.base.get? b=some o):b∉X.fs:=λ hb=>by
 have:=(ok.funs.mem hb).1
 rw [e] at this;cases this
theorem Inv.bs (I:Inv X pins σ H s):∀ b o,X.base.get? b=some o->s.heap.get? b=some o/\H b=none:=λ b o e=>
 ⟨I.base.keep b o (I.ok.bs b o e).1 (I.ok.bs b o e).2 (I.ok.nofr e) (I.ok.noex b o e),I.base.free b o (I.ok.bs b o e).1 (I.ok.bs b o e).2 (I.ok.noex b o e)⟩
theorem Inv.bk (I:Inv X pins σ H s):∀ b o,X.base.get? b=some o->s.heap.get? b=some o:=λ b o e=>(I.bs b o e).1
theorem Inv.mod (I:Inv X pins σ H s):Mod X.K X.mg X.base:=I.ok.mod
theorem Inv.kIn (I:Inv X pins σ H s):X.K.In s.heap:=I.ok.mod.kin.keeps I.bk
theorem Inv.lt (I:Inv X pins σ H s):X.env.locals < s.heap.objs.size:=let ⟨_,hn,_⟩:=I.loc;hn.lt
theorem Inv.sz (I:Inv X pins σ H s):X.s₀.heap.objs.size<=s.heap.objs.size:=jd4 I.ok.above (jo3 I.lt)
theorem Inv.nofs (I:Inv X pins σ H s) {a:Addr} (h:s.heap.objs.size<=a):a∉X.fs:=λ hb=>by
 obtain ⟨_,o,ho,_⟩:=I.ok.funs.mem hb
 exact absurd (jb6 (va3 ho) (jd4 I.sz h)) (jf6 _)
theorem Inv.cne (I:Inv X pins σ H s):∀ x c,X.env.cells.lookup x=some c->c≠X.env.locals:=λ x c e z=>by
 obtain ⟨v,o,ho,hd⟩:=I.cell x c e
 obtain ⟨m,⟨o',es,ep,ho',hd',_⟩,_⟩:=I.loc
 rw [z,ho'] at ho;cases ho;rw [hd'] at hd;cases hd
theorem Inv.funs (I:Inv X pins σ H s):s.heap.FunFrames X.base X.outer:=by
 have all:∀ (l:List Env),(∀ b∈frs l,b∈X.fs)->X.s₀.heap.FunFrames X.base l->s.heap.FunFrames X.base l:=by
  intro l
  induction l with
  | nil=>intro _ _;trivial
  | cons env r ih=>
   intro hs hl
   obtain ⟨hk,⟨L,o,hf,hn,ho,hd⟩,hr⟩:=hl
   have hL:L∈X.fs:=hs L (by unfold frs;rw [ji4,hf];exact ja3)
   obtain ⟨sl,e⟩:=I.base.slot L o ho (I.ok.frf L hL) hL λ z=>I.ok.exfs L z hL
   exact ⟨hk,⟨L,_,hf,hn,e,hd⟩,ih (λ b hb=>hs b (by unfold frs;rw [ji4,hf];exact ja0 _ hb)) hr⟩
 exact all X.outer (λ _ hb=>hb) I.ok.funs
theorem Inv.stack (I:Inv X pins σ H s):s.heap.FunFrames X.base X.stack:=by
 rcases I.ok.stk with e | ⟨e,hf⟩
 ·rw [e];exact I.funs
 ·rw [e]
  obtain ⟨m,hn,_⟩:=I.loc
  refine .cons (by rw [I.ok.kind];decide) hf hn ?_ I.funs
  exact Heap.get?_none_of_le (jd4 I.ok.bsz I.ok.above)
theorem Inv.stkSub (I:Inv X pins σ H s):∀ b∈frs X.stack,b∈X.env.locals::X.fs:=λ b hb=>by
 rcases I.ok.stk with e | ⟨e,hf⟩
 ·rw [e] at hb;exact ja0 _ hb
 ·rw [e] at hb
  unfold frs at hb
  rw [ji4,hf] at hb
  exact hb
theorem Inv.stkFree (I:Inv X pins σ H s):∀ b∈frs X.stack,H b=none:=λ b hb=>by
 rcases jb2.mp (I.stkSub b hb) with e | hb
 ·rw [e];exact I.free
 ·obtain ⟨_,o,ho,_⟩:=I.ok.funs.mem hb
  exact I.base.free b o ho (I.ok.frf b hb) λ z=>I.ok.exfs b z hb
theorem Inv.step {g':Array GenState}{t':Nat}{d':Drawn}{ch:List Addr} (I:Inv X pins σ H s)
  (hch:∀ b∈ch,(b∈X.ex\/X.s₀.heap.objs.size<=b)/\b≠X.env.locals/\(∀ x c,X.env.cells.lookup x=some c->c≠b)/\∀ p∈X.pn++pins,p.1≠b)
  (keep:∀ b o,b≠X.env.locals->b∉X.fs->b∉ch->s.heap.get? b=some o->H b=none->h'.get? b=some o)
  (slot:∀ b o,b≠X.env.locals->b∈X.fs->b∉ch->s.heap.get? b=some o->H b=none->∃ sl,h'.get? b=some { o with slots:=sl }) (free:∀ b o,b∉ch->s.heap.get? b=some o->H b=none->H' b=none)
  (there:∀ b o,b∉ch->s.heap.get? b=some o->∃ o',h'.get? b=some o')
  (tups:∀ b xs,H b=some (.tup xs)->H' b=some (.tup xs)) (frzs:∀ b o u,H b=some (.frz o u)->H' b=some (.frz o u)) (tbls:∀ b ps,H b=some (.tbl ps)->∃ more,H' b=some (.tbl (ps++more)))
  (ns:∀ m,s.heap.Ns X.env.locals m->h'.Ns X.env.locals m) (hok:HOk X.prog X.w H' h') (hg:vf5 g'):
  Inv X pins σ H' { s with heap:=h',gens:=g',drawn:=d',toks:=t' }:=by
 have neL:∀ b o,X.s₀.heap.get? b=some o->b≠X.env.locals:=λ b o e=>jd2 (jb6 (va3 e) I.ok.above)
 have neC:∀ b o,X.s₀.heap.get? b=some o->b∉X.ex->b∉ch:=λ b o e hx hb=>by
  rcases (hch b hb).1 with z | z
  ·exact hx z
  ·exact absurd (jb6 (va3 e) z) (jf6 _)
 have cellK:∀ x c,X.env.cells.lookup x=some c->∀ v,s.heap.IsCell c v->h'.IsCell c v:=λ x c e v ⟨o,ho,hd⟩=>by
  have nch:c∉ch:=λ z=>(hch c z).2.2.1 x c e rfl
  by_cases hc:c∈X.fs
  ·obtain ⟨sl,q⟩:=slot c o (I.cne x c e) hc nch ho (I.freeC x c e)
   exact ⟨_,q,hd⟩
  ·exact ⟨o,keep c o (I.cne x c e) hc nch ho (I.freeC x c e),hd⟩
 refine ⟨I.ok,I.os,hg,⟨λ b o e n hb hx=>?_,λ b o e n hb hx=>?_,λ b o e n hx=>?_,λ b o e hx=>?_,λ b xs e=>tups b xs (I.base.tups b xs e),λ b o xs e=>frzs b o xs (I.base.frzs b o xs e),λ b ps e=>?_⟩,?_,λ x c e=>?_,?_,λ x c e=>?_,λ p hp=>?_,hok,I.len⟩
 ·exact keep b o (neL b o e) hb (neC b o e hx) (I.base.keep b o e n hb hx) (I.base.free b o e n hx)
 ·obtain ⟨sl,e1⟩:=I.base.slot b o e n hb hx
  obtain ⟨sl',e2⟩:=slot b _ (neL b o e) hb (neC b o e hx) e1 (I.base.free b o e n hx)
  exact ⟨sl',e2⟩
 ·obtain ⟨o',e1⟩:=I.base.there b o e hx
  exact free b o' (neC b o e hx) e1 (I.base.free b o e n hx)
 ·obtain ⟨o',e1⟩:=I.base.there b o e hx
  exact there b o' (neC b o e hx) e1
 ·obtain ⟨m1,e1⟩:=I.base.tbls b ps e
  obtain ⟨m2,e2⟩:=tbls b _ e1
  exact ⟨m1++m2,by rw [e2,jn6]⟩
 ·obtain ⟨m,hn,hl⟩:=I.loc
  refine ⟨m,ns m hn,λ i x v e1 e2 e3=>?_⟩
  obtain ⟨u,r,l⟩:=hl i x v e1 e2 e3
  refine ⟨u,r,?_⟩
  rcases l with l | ⟨k,c,e,z⟩
  ·exact .inl l
  ·exact .inr ⟨k,c,e,cellK x c e _ z⟩
 ·obtain ⟨v,z⟩:=I.cell x c e
  exact ⟨v,cellK x c e v z⟩
 ·obtain ⟨m,⟨o,_,_,ho,_⟩,_⟩:=I.loc
  exact free _ o (λ z=>(hch _ z).2.1 rfl) ho I.free
 ·obtain ⟨v,o,ho,hd⟩:=I.cell x c e
  exact free c o (λ z=>(hch c z).2.2.1 x c e rfl) ho (I.freeC x c e)
 ·obtain ⟨e,n,ne,nf,d⟩:=I.pin p hp
  have nch:p.1∉ch:=λ z=>(hch p.1 z).2.2.2 p hp rfl
  exact ⟨keep p.1 p.2 ne nf nch e n,free p.1 p.2 nch e n,ne,nf,d⟩
theorem Inv.un {t':Nat} (I:Inv X pins σ H s) (u:Un X.fs [] H H' s.heap h') (hok:HOk X.prog X.w H' h'):Inv X pins σ H' { s with heap:=h',toks:=t' }:=by
 obtain ⟨m,⟨o,es,ep,ho,r⟩,_⟩:=id I.loc
 obtain ⟨sl,hL⟩:=u.any ho I.free (by simp)
 exact I.step (g':=s.gens) (d':=s.drawn) (ch:=[]) (λ _ z=>nomatch z) (λ b o _ hb _ e n=>u.keep b o e n hb (by simp)) (λ b o _ hb _ e n=>u.slot b o e n hb (by simp)) (λ b o _ e n=>u.free b o e n (by simp)) (λ b o _ e=>u.there b o e (by simp)) u.tups u.frzs u.tbls (λ m' hm=>by
  obtain ⟨o',es',ep',ho',r'⟩:=hm
  rw [ho] at ho';cases ho'
  exact ⟨_,es',ep',hL,r'⟩) hok I.bare
theorem Inv.call {g':Array GenState}{t':Nat}{d':Drawn}{ch:List Addr} (I:Inv X pins σ H s) (u:Un (frs X.stack) ch H H' s.heap h') (hok:HOk X.prog X.w H' h') (hg:vf5 g')
  (hch:∀ b∈ch,(b∈X.ex\/X.s₀.heap.objs.size<=b)/\b≠X.env.locals/\(∀ x c,X.env.cells.lookup x=some c->c≠b)/\∀ p∈X.pn++pins,p.1≠b):
  Inv X pins σ H' { s with heap:=h',gens:=g',drawn:=d',toks:=t' }:=by
 obtain ⟨m,⟨o,es,ep,ho,r⟩,_⟩:=id I.loc
 obtain ⟨sl,hL⟩:=u.any ho I.free λ z=>(hch _ z).2.1 rfl
 exact I.step (ch:=ch) hch (λ b o hL hb hc e n=>u.keep b o e n (λ z=>(jb2.mp (I.stkSub b z)).elim hL hb) hc) (λ b o _ _ hc e n=>u.any e n hc) (λ b o hc e n=>u.free b o e n hc) (λ b o hc e=>u.there b o e hc) u.tups u.frzs u.tbls (λ m' hm=>by
  obtain ⟨o',es',ep',ho',r'⟩:=hm
  rw [ho] at ho';cases ho'
  exact ⟨_,es',ep',hL,r'⟩) hok hg
theorem Inv.turned {t':Nat}{it:Addr} (I:Inv X pins σ H s) (k:∀ b o,b≠it->s.heap.get? b=some o->h'.get? b=some o) (hn:H it=none) (hL:it≠X.env.locals)
  (h1:it∈X.ex\/X.s₀.heap.objs.size<=it) (h2:∀ x c,X.env.cells.lookup x=some c->c≠it) (h3:∀ p∈X.pn++pins,p.1≠it):Inv X pins σ H { s with heap:=h',toks:=t' }:=by
 have nit:∀ b u,H b=some u->b≠it:=λ b u e z=>by rw [z,hn] at e;cases e
 refine I.step (g':=s.gens) (d':=s.drawn) (ch:=[it]) (λ b hb=>?_) (λ b o _ _ hc e _=>k b o (λ z=>hc (by simp [z])) e) (λ b o _ _ hc e _=>⟨o.slots,k b o (λ z=>hc (by simp [z])) e⟩) (λ _ _ _ _ n=>n)
  (λ b o hc e=>⟨o,k b o (λ z=>hc (by simp [z])) e⟩) (λ _ _ e=>e) (λ _ _ _ e=>e) (λ b ps e=>⟨#[],by rw [e];simp⟩) (λ m hm=>?_) (λ b u e=>?_) I.bare
 ·have e:b=it:=by simpa using hb
  subst e
  exact ⟨h1,hL,h2,h3⟩
 ·obtain ⟨o,es,ep,ho,r⟩:=hm
  exact ⟨o,es,ep,k _ o (vb1 hL) ho,r⟩
 ·refine (I.hok b u e).stay (λ c v hc q=>k c v ?_ q) (λ _ q=>q) λ _ _ q=>q
  rcases hc with z | z
  ·rw [z];exact nit b u e
  ·exact nit c _ z
theorem Inv.tok (I:Inv X pins σ H s) (t:Nat):Inv X pins σ H { s with toks:=t }:=I.un (h':=s.heap) (t':=t) Un.refl I.hok
theorem Inv.kept {t':Nat} (I:Inv X pins σ H s) (k:∀ b u,s.heap.get? b=some u->h'.get? b=some u):Inv X pins σ H { s with heap:=h',toks:=t' }:=I.un (Un.kept k) (I.hok.kept k)
theorem Inv.laid {a:Addr}{o:HO}{t':Nat} (I:Inv X pins σ H s) (k:∀ b u,s.heap.get? b=some u->h'.get? b=some u) (hp:s.heap.objs.size<=a) (new:zwz X.prog X.w (upd H a o) h' a o):
  Inv X pins σ (upd H a o) { s with heap:=h',toks:=t' }:=I.un (Un.laid k hp (I.hok.fresh hp)) (I.hok.laid k hp new)
theorem Inv.write {x e:Addr}{o:HO}{t':Nat} (I:Inv X pins σ H s) (mu:Mut (H x)) (he:e=x\/H e=some (.own x)) (k:∀ b u,b≠e->s.heap.get? b=some u->h'.get? b=some u) (heo:∃ u,h'.get? e=some u)
  (new:zwz X.prog X.w (upd H x o) h' x o):Inv X pins σ (upd H x o) { s with heap:=h',toks:=t' }:=I.un (Un.write mu he k heo) (I.hok.write mu he k heo new)
theorem Inv.pins_of {pins':List (Addr×Obj)} (I:Inv X pins σ H s) (h:∀ p∈pins',s.heap.get? p.1=some p.2/\H p.1=none/\p.1≠X.env.locals/\p.1∉X.fs/\∀ v,p.2.data≠.cell v):Inv X pins' σ H s:=
 ⟨I.ok,I.os,I.bare,I.base,I.loc,I.cell,I.free,I.freeC,λ p hp=>(jc0.mp hp).elim (λ z=>I.pin p (jb0 _ z)) (h p),I.hok,I.len⟩
theorem zfi {N:List Str} (hN:N.Nodup) {i j:Nat}{x:Str} (a:N[i]?=some x) (b:N[j]?=some x):i=j:=by
 obtain ⟨h1,e1⟩:=ja8.mp a
 obtain ⟨h2,e2⟩:=ja8.mp b
 exact (List.getElem_inj hN).mp (e1.trans e2.symm)
theorem zgj {M:Model}{A:vb8}{E:va0->va1->Prop}{i:Nat}{x:Str}{v:V}{u:va0}{Q:Unit->va1->Prop} (I:Inv X pins σ H s) (hN:X.N.Nodup) (hi:X.N[i]?=some x) (hx:Loc X.env.scope x) (r:RelV v u)
  (h:∀ s',Inv X pins (σ.set i (some v)) H s'->(∃ a,Heap.SameBut a s.heap s'.heap/\(a=X.env.locals\/X.env.cells.lookup x=some a))->Q () s') (hf:X.fn x=true\/X.env.scope.names.lookup x=some .local:=by first | exact .inl rfl | exact .inr rfl | assumption):vb3 M A (storeName X.env x u) Q E s:=by
 obtain ⟨m,hn,hl⟩:=id I.loc
 have hcls:(X.env.scope.kind == .class || (X.env.scope.kind == .module && X.env.locals != X.env.globals))=false:=by rw [I.ok.kind];rfl
 have hiσ:i < σ.length:=by rw [I.len];exact (ja8.mp hi).1
 have cne:=I.cne
 have tracked:∀ {a:Addr}{h':Heap},(∃ o,s.heap.get? a=some o/\H a=none)->Heap.SameBut a s.heap h'->HOk X.prog X.w H h':=λ {a h'} ha hs b ob e=>by
  obtain ⟨_,_,hfree⟩:=ha
  refine (I.hok b ob e).stay (λ c w' hc q=>(hs.2 c ?_).trans q) (λ _ q=>q) λ _ _ q=>q
  rintro rfl
  rcases hc with rfl | hc
  ·rw [hfree] at e;cases e
  ·rw [hfree] at hc;cases hc
 rcases hx with hk | hk
 ·refine wpAny_storeName_local hk hn (λ h' hn' hs=>?_) hcls
  obtain ⟨oL,_,_,hoL,_⟩:=id hn
  refine h _ ⟨I.ok,I.os,I.bare,⟨λ b o e n hb hx=>?_,λ b o e n hb hx=>?_,I.base.free,λ b o e hx=>?_,I.base.tups,I.base.frzs,I.base.tbls⟩,⟨_,hn',λ j y v' e1 e2 e3=>?_⟩,λ y c e=>?_,I.free,I.freeC,λ p hp=>?_,tracked ⟨oL,hoL,I.free⟩ hs,by simpa using I.len⟩ ⟨_,hs,.inl rfl⟩
  ·exact (hs.2 b (jd2 (jb6 (va3 e) I.ok.above))).trans (I.base.keep b o e n hb hx)
  ·obtain ⟨sl,e1⟩:=I.base.slot b o e n hb hx
   exact ⟨sl,(hs.2 b (jd2 (jb6 (va3 e) I.ok.above))).trans e1⟩
  ·obtain ⟨o',e1⟩:=I.base.there b o e hx
   exact ⟨o',(hs.2 b (jd2 (jb6 (va3 e) I.ok.above))).trans e1⟩
  ·by_cases hj:j=i
   ·subst hj
    rw [hi] at e1;cases e1
    rw [jb5 hiσ] at e2
    cases e2
    exact ⟨u,r,.inl ⟨hk,by simp⟩⟩
   ·rw [ja9 (vb1 hj)] at e2
    obtain ⟨u',r',q⟩:=hl j y v' e1 e2 e3
    refine ⟨u',r',?_⟩
    rcases q with ⟨k,e⟩ | ⟨k,c,e,z⟩
    ·refine .inl ⟨k,?_⟩
     have:y≠x:=λ e=>hj (zfi hN e1 (e ▸ hi))
     simp [this,e]
    ·exact .inr ⟨k,c,e,z.sameBut hs (cne y c e)⟩
  ·obtain ⟨w',z⟩:=I.cell y c e
   exact ⟨w',z.sameBut hs (cne y c e)⟩
  ·obtain ⟨e,n,ne,nf,d⟩:=I.pin p hp
   exact ⟨(hs.2 p.1 ne).trans e,n,ne,nf,d⟩
 ·have hfn:X.fn x=true:=by
   rcases hf with z | z
   ·exact z
   ·rw [z] at hk;cases hk
  obtain ⟨c,hc⟩:=I.ok.has x (.inl hk)
  obtain ⟨w',z⟩:=I.cell x c hc
  refine wpAny_storeName_cell I.ok.kind hk hc z (λ h' hc' hs=>?_)
  obtain ⟨oc,hoc,hocd⟩:=id z
  refine h { s with heap:=h' } ⟨I.ok,I.os,I.bare,⟨λ b o e n hb hx=>?_,λ b o e n hb hx=>?_,I.base.free,λ b o e hx=>?_,I.base.tups,I.base.frzs,I.base.tbls⟩,⟨m,hn.sameBut hs (vb1 (cne x c hc)),λ j y v' e1 e2 e3=>?_⟩,λ y c' e=>?_,I.free,I.freeC,λ p hp=>?_,tracked ⟨oc,hoc,I.freeC x c hc⟩ hs,by simpa using I.len⟩ ⟨c,hs,.inr hc⟩
  ·exact (hs.2 b (jd2 (jb6 (va3 e) (I.ok.cab x c hfn hc)))).trans (I.base.keep b o e n hb hx)
  ·obtain ⟨sl,e1⟩:=I.base.slot b o e n hb hx
   exact ⟨sl,(hs.2 b (jd2 (jb6 (va3 e) (I.ok.cab x c hfn hc)))).trans e1⟩
  ·obtain ⟨o',e1⟩:=I.base.there b o e hx
   exact ⟨o',(hs.2 b (jd2 (jb6 (va3 e) (I.ok.cab x c hfn hc)))).trans e1⟩
  ·by_cases hj:j=i
   ·subst hj
    rw [hi] at e1;cases e1
    rw [jb5 hiσ] at e2
    cases e2
    exact ⟨u,r,.inr ⟨.inl hk,c,hc,hc'⟩⟩
   ·rw [ja9 (vb1 hj)] at e2
    obtain ⟨u',r',q⟩:=hl j y v' e1 e2 e3
    refine ⟨u',r',?_⟩
    rcases q with q | ⟨k,c',e,z'⟩
    ·exact .inl q
    ·refine .inr ⟨k,c',e,z'.sameBut hs ?_⟩
     rintro rfl
     exact hj (zfi hN e1 (I.ok.inj _ _ _ e hc ▸ hi))
  ·by_cases hcc:c'=c
   ·subst hcc;exact ⟨_,hc'⟩
   ·obtain ⟨w2,z2⟩:=I.cell y c' e
    exact ⟨w2,z2.sameBut hs hcc⟩
  ·obtain ⟨e,n,ne,nf,d⟩:=I.pin p hp
   refine ⟨(hs.2 p.1 ?_).trans e,n,ne,nf,d⟩
   intro q
   rw [q,hoc] at e
   have q':oc=p.2:=Option.some.inj e
   exact d w' (by rw [<- q'];exact hocd)
theorem zmv {M:Model}{A:vb8}{E:va0->va1->Prop}{i:Nat}{x:Str}{v:V}{u:va0}{Q:Unit->va1->Prop} (I:Inv X pins σ H s) (hN:X.N.Nodup) (hi:X.N[i]?=some x) (hx:Loc X.env.scope x) (r:RelV v u)
  (h:∀ s',Inv X pins (σ.set i (some v)) H s'->Q () s') (hf:X.fn x=true\/X.env.scope.names.lookup x=some .local:=by first | exact .inl rfl | exact .inr rfl | assumption):vb3 M A (storeName X.env x u) Q E s:=
 zgj I hN hi hx r (λ s' I' _=>h s' I') hf
theorem Inv.call' {s':va1}{ch:List Addr} (I:Inv X pins σ H s) (ho:s'.os=s.os) (u:Un (frs X.stack) ch H H' s.heap s'.heap) (hok:HOk X.prog X.w H' s'.heap) (hg:vf5 s'.gens)
  (hch:∀ b∈ch,(b∈X.ex\/X.s₀.heap.objs.size<=b)/\b≠X.env.locals/\(∀ x c,X.env.cells.lookup x=some c->c≠b)/\∀ p∈X.pn++pins,p.1≠b):Inv X pins σ H' s':=by
 obtain ⟨h',g',d',t',o'⟩:=s'
 have e:o'=s.os:=ho
 subst e
 exact I.call (g':=g') (t':=t') (d':=d') u hok hg hch
end
abbrev XK:=va0->Option Addr->Hp->Prop
abbrev St:=List (Option V)
abbrev VK:=V->Hp->Prop
abbrev TE:=St->Hp->VK->Prop
abbrev TT:=St->Hp->(Bool->Hp->Prop)->Prop
abbrev TA:=St->Hp->(List V->Hp->Prop)->Prop
structure Ends where
 nx:St->Hp->Prop
 rt:VK
 bk:St->Hp->Prop:=λ _ _=>False
 ct:St->Hp->Prop:=λ _ _=>False
abbrev TS:=Ends->St->Hp->Prop
def EP (X:Cx) (pins:List (Addr×Obj)) (σ:St) (Q:VK) (u:va0) (s':va1):Prop:=∃ v H',Inv X pins σ H' s'/\RelV v u/\Q v H'
def TP (X:Cx) (pins:List (Addr×Obj)) (σ:St) (Q:Bool->Hp->Prop) (b:Bool) (s':va1):Prop:=∃ H',Inv X pins σ H' s'/\Q b H'
def AP (X:Cx) (pins:List (Addr×Obj)) (σ:St) (Q:List V->Hp->Prop) (us:List va0) (s':va1):Prop:=∃ vs H',Inv X pins σ H' s'/\Vals vs us/\Q vs H'
def SP (X:Cx) (pins:List (Addr×Obj)) (D:Ends) (f:Flow) (s':va1):Prop:=
 match f with
 | .next=>∃ σ' H',Inv X pins σ' H' s'/\D.nx σ' H'
 | .brk=>∃ σ' H',Inv X pins σ' H' s'/\D.bk σ' H'
 | .cont=>∃ σ' H',Inv X pins σ' H' s'/\D.ct σ' H'
 | .ret u=>∃ v σ' H',Inv X pins σ' H' s'/\RelV v u/\D.rt v H'
def PE (X:Cx) (e:Expr) (t:TE):Prop:=
 ∀ (pins:List (Addr×Obj)) (s:va1) (σ:St) (H:Hp) (Q:VK),Inv X pins σ H s->t σ H Q->vb3 (vb2 X.prog X.w) X.A (eval e X.env) (EP X pins σ Q) X.xe s
def PT (X:Cx) (e:Expr) (t:TT):Prop:=
 ∀ (pins:List (Addr×Obj)) (s:va1) (σ:St) (H:Hp) (Q:Bool->Hp->Prop),Inv X pins σ H s->t σ H Q->vb3 (vb2 X.prog X.w) X.A (isTrue e X.env (eval e X.env)) (TP X pins σ Q) X.xe s
def PW (X:Cx) (e:Expr) (t:TT):Prop:=
 ∀ (whole:Sem va0) (pins:List (Addr×Obj)) (s:va1) (σ:St) (H:Hp) (Q:Bool->Hp->Prop),Inv X pins σ H s->t σ H Q->vb3 (vb2 X.prog X.w) X.A (isTrue e X.env whole) (TP X pins σ Q) X.xe s
theorem PW.pt {X:Cx}{e:Expr}{t:TT} (h:PW X e t):PT X e t:=h _
def PA (X:Cx) (es:List Expr) (t:TA):Prop:=
 ∀ (pos:Pos) (pins:List (Addr×Obj)) (s:va1) (σ:St) (H:Hp) (Q:List V->Hp->Prop),Inv X pins σ H s->t σ H Q->vb3 (vb2 X.prog X.w) X.A (spliced (vd4 pos (va4 es X.env))) (AP X pins σ Q) X.xe s
def PS (X:Cx) (st:Stmt) (t:TS):Prop:=
 ∀ (pins:List (Addr×Obj)) (s:va1) (σ:St) (H:Hp) (D:Ends),Inv X pins σ H s->t D σ H->vb3 (vb2 X.prog X.w) X.A (exec st X.env) (SP X pins D) X.xe s
def PSs (X:Cx) (st:List Stmt) (t:TS):Prop:=
 ∀ (pins:List (Addr×Obj)) (s:va1) (σ:St) (H:Hp) (D:Ends),Inv X pins σ H s->t D σ H->vb3 (vb2 X.prog X.w) X.A (execs st X.env) (SP X pins D) X.xe s
theorem thn {α:Type}{t:Sem α}{Q Q':α->va1->Prop}{M:Model}{A:vb8}{E:va0->va1->Prop}{s:va1} (h:vb3 M A t Q E s) (hQ:∀ a s,Q a s->Q' a s):vb3 M A t Q' E s:=vd1 h hQ λ _ _ x=>x
section
variable {X:Cx}
theorem bin {a b:Expr}{ta tb:TE} (ha:PE X a ta) (hb:PE X b tb) {pins:List (Addr×Obj)}{s:va1}{σ:St}{H:Hp}{R:V->V->Hp->Prop} (I:Inv X pins σ H s) (h:ta σ H λ x H1=>tb σ H1 λ y H2=>R x y H2)
  {α:Type}{Q:α->va1->Prop}{f:va0->va0->Sem α}
  (hf:∀ v u s2 x y H2,Inv X pins σ H2 s2->RelV x v->RelV y u->R x y H2->vb3 (vb2 X.prog X.w) X.A (f v u) Q X.xe s2):
  vb3 (vb2 X.prog X.w) X.A (eval a X.env) (λ v s₁=>vb3 (vb2 X.prog X.w) X.A (eval b X.env) (λ u s₂=>vb3 (vb2 X.prog X.w) X.A (f v u) Q X.xe s₂) X.xe s₁) X.xe s:=by
 refine thn (ha pins s σ H _ I h) λ v s1 ⟨x,H1,I1,r1,q1⟩=>?_
 refine thn (hb pins s1 σ H1 _ I1 q1) λ u s2 ⟨y,H2,I2,r2,q2⟩=>?_
 exact hf v u s2 x y H2 I2 r1 r2 q2
def tVar (i:Nat):TE:=λ σ H Q=>∃ v,σ[i]?=some (some v)/\Q v H
def tC (v:V):TE:=λ _ H Q=>Q v H
theorem qi1 {i:Nat}{x:Str}{pos:Pos} (hN:X.N[i]?=some x) (hv:Vis X.env.scope x) (hd:(x == ("__debug__" : Str))=false:=by decide) (hcd:(x == ("__classdict__" : Str))=false:=by decide):PE X (.Name x pos) (tVar i):=by
 intro pins s σ H Q I h
 obtain ⟨v,e,h⟩:=h
 obtain ⟨m,hn,hl⟩:=I.loc
 obtain ⟨u,r,l⟩:=hl i x v hN e hv
 have fin:EP X pins σ Q u s:=⟨v,H,I,r,h⟩
 rcases l with ⟨hk,hm⟩ | ⟨hk,c,hc,hcell⟩
 ·exact wpAny_Name (wpAny_loadName_local I.ok.kind hk hn hm fin) hd
 ·rcases hk with hk | hk
  ·exact wpAny_Name (wpAny_loadName_cell I.ok.kind hk hc hcell fin) hd
  ·exact wpAny_Name (wpAny_loadName_free I.ok.kind hk hc hcell fin hcd) hd
theorem zgu {i j pos}:PE X (.Constant (.int i) j pos) (tC (.int i)):=λ _ _ _ H _ I h=>wpAny_Constant_int ⟨.int i,H,I.tok _,⟨_,rfl⟩,h⟩
theorem qpx {b j pos}:PE X (.Constant (.bool b) j pos) (tC (.bl b)):=λ _ _ _ H _ I h=>Constant_bool ⟨.bl b,H,I,rfl,h⟩
theorem qn4 {j pos}:PE X (.Constant .none j pos) (tC .non):=λ _ _ _ H _ I h=>Constant_none ⟨.non,H,I,rfl,h⟩
theorem qi3 {x j pos}:PE X (.Constant (.str x) j pos) (tC (.str x)):=λ _ _ _ H _ I h=>Calls.Constant_str ⟨.str x,H,I.tok _,⟨_,rfl⟩,h⟩
def Gl (X:Cx) (x:Str):Prop:=X.env.kindOf x=some .globalImplicit
theorem zpc {E:va0->va1->Prop}{pins:List (Addr×Obj)}{s:va1}{σ:St}{H:Hp}{x:Str}{u:va0}{pos:Pos}{Q:va0->va1->Prop} (I:Inv X pins σ H s) (hg:Gl X x) (hm:X.mg x=some u) (h:Q u s)
  (hd:(x == ("__debug__" : Str))=false:=by decide):vb3 (vb2 X.prog X.w) X.A (eval (.Name x pos) X.env) Q E s:=
 vj5 I.ok.kind hg (Calls.loadGlobal_global (by rw [I.ok.glob];exact I.mod.glob.keeps I.bk) hm h) hd
theorem zpd {E:va0->va1->Prop}{pins:List (Addr×Obj)}{s:va1}{σ:St}{H:Hp}{x:Str}{u:va0}{pos:Pos}{Q:va0->va1->Prop} (I:Inv X pins σ H s) (hg:Gl X x) (hm:X.mg x=none) (hv:ve5 x=some u) (h:Q u s)
  (hn:x ≠ "__name__" := by decide) (hd:(x == ("__debug__" : Str))=false:=by decide):vb3 (vb2 X.prog X.w) X.A (eval (.Name x pos) X.env) Q E s:=by
 obtain ⟨mb,h1,h2⟩:=I.mod.blt
 exact vj5 I.ok.kind hg (Calls.loadGlobal_builtin (by rw [I.ok.glob];exact I.mod.glob.keeps I.bk) hm (by rw [I.ok.blt];exact h1.keeps I.bk) ((h2 x hn).trans hv) h) hd
theorem qku {x:Str}{v:V}{u:va0}{pos:Pos} (hg:Gl X x) (hm:X.mg x=some u) (r:RelV v u) (hd:(x == ("__debug__" : Str))=false:=by decide):PE X (.Name x pos) (tC v):=
 λ _ _ _ H _ I h=>zpc I hg hm ⟨v,H,I,r,h⟩ hd
theorem qey {x:Str}{v:V}{u:va0}{pos:Pos} (hg:Gl X x) (hm:X.mg x=none) (hv:ve5 x=some u) (r:RelV v u) (hn:x ≠ "__name__" := by decide) (hd:(x == ("__debug__" : Str))=false:=by decide):PE X (.Name x pos) (tC v):=
 λ _ _ _ H _ I h=>zpd I hg hm hv ⟨v,H,I,r,h⟩ hn hd
variable {a b:Expr}{ta tb:TE}{pos:Pos}
def PC (X:Cx) (op:vk0) (a b:Expr) (t:TE):Prop:=
 ∀ (pins:List (Addr×Obj)) (s:va1) (σ:St) (H:Hp) (Q:VK),Inv X pins σ H s->t σ H Q ->
  vb3 (vb2 X.prog X.w) X.A (eval a X.env) (λ v s₁=>vb3 (vb2 X.prog X.w) X.A (eval b X.env) (λ u s₂=>vb3 (vb2 X.prog X.w) X.A (vc2 op v u) (EP X pins σ Q) X.xe s₂) X.xe s₁) X.xe s
theorem zzt (b:Expr) {op:vk0} (h:op≠.In) (h2:op≠.NotIn):vf8 op b=false:=by
 have e1:(op == CmpOp.In)=false:=by cases op <;> first | rfl | exact absurd rfl h
 have e2:(op == CmpOp.NotIn)=false:=by cases op <;> first | rfl | exact absurd rfl h2
 cases b <;> simp [vf8,e1,e2]
def tB (t:TE):TT:=λ σ H Q=>t σ H λ x H1=>∃ c,x=.bl c/\Q c H1
theorem qnu {e:Expr}{t:TE} (h:PE X e t) (he:∀ whole,isTrue e X.env whole=(do let v<-whole;standAt e.pos;holding [v] (truthy v)):=by intro _;rfl):PT X e (tB t):=by
 intro pins s σ H Q I hw
 refine isTrue_plain (thn (h pins s σ H _ I hw) λ v s1 ⟨x,H1,I1,r1,q1⟩=>?_) (he _)
 obtain ⟨d,rfl,q⟩:=q1
 cases r1
 exact vc0 ⟨H1,I1,q⟩
variable {tA tB':TT}{rest:List Expr}
def tAnd (t u:TT):TT:=λ σ H Q=>t σ H λ c H1=>if c=true then u σ H1 Q else Q false H1
def tOr (t u:TT):TT:=λ σ H Q=>t σ H λ c H1=>if c=true then Q true H1 else u σ H1 Q
def tNot (t:TT):TT:=λ σ H Q=>t σ H λ c H1=>Q (!c) H1
theorem qkj (ha:PT X a tA):PW X (.BoolOp .And [a] pos) tA:=by
 intro wh pins s σ H Q I h
 refine isTrue_and (thn (ha pins s σ H Q I h) λ c s1 e=>?_)
 cases c with
 | true=>exact isTrue_and_nil e
 | false=>exact e
theorem qns (ha:PT X a tA):PW X (.BoolOp .Or [a] pos) tA:=by
 intro wh pins s σ H Q I h
 refine isTrue_or (thn (ha pins s σ H Q I h) λ c s1 e=>?_)
 cases c with
 | false=>exact isTrue_or_nil e
 | true=>exact e
theorem qnt (ha:PT X a tA) (hb:PW X (.BoolOp .And (b::rest) pos) tB'):PW X (.BoolOp .And (a::b::rest) pos) (tAnd tA tB'):=by
 intro wh pins s σ H Q I h
 refine isTrue_and (thn (ha pins s σ H _ I h) λ c s1 ⟨H1,I1,q1⟩=>?_)
 cases c with
 | true=>exact hb wh pins s1 σ H1 Q I1 q1
 | false=>exact ⟨H1,I1,q1⟩
theorem qpv (ha:PT X a tA) (hb:PW X (.BoolOp .Or (b::rest) pos) tB'):PW X (.BoolOp .Or (a::b::rest) pos) (tOr tA tB'):=by
 intro wh pins s σ H Q I h
 refine isTrue_or (thn (ha pins s σ H _ I h) λ c s1 ⟨H1,I1,q1⟩=>?_)
 cases c with
 | true=>exact ⟨H1,I1,q1⟩
 | false=>exact hb wh pins s1 σ H1 Q I1 q1
theorem qnv (ha:PT X a tA):PT X (.UnaryOp .Not a pos) (tNot tA):=by
 intro pins s σ H Q I h
 exact isTrue_not (ha pins s σ H (λ c H1=>Q (!c) H1) I h)
def qm4 (ta tb:TE):TE:=λ σ H Q=>ta σ H λ x H1=>∃ c,x=.bl c/\if c=true then tb σ H1 Q else Q (.bl false) H1
def tOrV (ta tb:TE):TE:=λ σ H Q=>ta σ H λ x H1=>∃ c,x=.bl c/\if c=true then Q (.bl true) H1 else tb σ H1 Q
def qmy (ta:TE):TE:=λ σ H Q=>ta σ H λ x H1=>∃ c,x=.bl c/\Q (.bl (!c)) H1
theorem qi4 {op}{t:TE} (h:PE X a t):PE X (.BoolOp op [a] pos) t:=λ pins s σ H Q I hw=>BoolOp_one (h pins s σ H Q I hw)
theorem qn6 (ha:PE X a ta) (hb:PE X (.BoolOp .And (b::rest) pos) tb):PE X (.BoolOp .And (a::b::rest) pos) (qm4 ta tb):=by
 intro pins s σ H Q I h
 refine BoolOp_and (thn (ha pins s σ H _ I h) λ v s1 ⟨x,H1,I1,r1,q1⟩=>?_)
 obtain ⟨c,rfl,q1⟩:=q1
 cases r1
 refine vc0 ?_
 cases c with
 | true=>exact hb pins s1 σ H1 Q I1 q1
 | false=>exact ⟨.bl false,H1,I1,rfl,q1⟩
theorem qpw (ha:PE X a ta) (hb:PE X (.BoolOp .Or (b::rest) pos) tb):PE X (.BoolOp .Or (a::b::rest) pos) (tOrV ta tb):=by
 intro pins s σ H Q I h
 refine BoolOp_or (thn (ha pins s σ H _ I h) λ v s1 ⟨x,H1,I1,r1,q1⟩=>?_)
 obtain ⟨c,rfl,q1⟩:=q1
 cases r1
 refine vc0 ?_
 cases c with
 | false=>exact hb pins s1 σ H1 Q I1 q1
 | true=>exact ⟨.bl true,H1,I1,rfl,q1⟩
theorem qn3 (ha:PE X a ta):PE X (.UnaryOp .Not a pos) (qmy ta):=by
 intro pins s σ H Q I h
 refine UnaryOp_ (thn (ha pins s σ H _ I h) λ v s1 ⟨x,H1,I1,r1,q1⟩=>?_)
 obtain ⟨c,rfl,q1⟩:=q1
 cases r1
 exact not_of (vc0 ⟨.bl (!c),H1,I1,rfl,q1⟩)
end
def SqL (K:va6) (H:Hp) (a:Addr) (xs:List V):Prop:=
 Rd H a (.lst xs) \/
  ∃ (o:Obj) (its:Array va0) (n:Nat),K.lookup a=some o/\o.cls=.type "list" /\ o.dict=none/\o.data=.seq its n/\its.size<=va2/\Vals xs its.toList
def SqT (K:va6) (H:Hp) (a:Addr) (xs:List V):Prop:=
 Rd H a (.tup xs) \/
  ∃ (o:Obj) (its:Array va0) (n:Nat),K.lookup a=some o/\o.cls=.type "tuple" /\ o.data=.seq its n/\its.size<=va2/\Vals xs its.toList
def absV:va0->Option V
 | .none=>some .non
 | .bool b=>some (.bl b)
 | .int i _=>some (.int i)
 | .str x _=>some (.str x)
 | .bytes b _=>some (.byt b)
 | .float b _=>some (.flt b)
 | .ref a=>some (.ref a)
 | .type n=>some (.ty n)
 | _=>none
theorem RelV.abs {x:V}{u:va0} (r:RelV x u):absV u=some x:=by
 cases x with
 | non=>cases r;rfl
 | bl _=>cases r;rfl
 | int _=>obtain ⟨t,rfl⟩:=r;rfl
 | str _=>obtain ⟨t,rfl⟩:=r;rfl
 | byt _=>obtain ⟨t,rfl⟩:=r;rfl
 | flt _=>obtain ⟨t,rfl⟩:=r;rfl
 | ref _=>cases r;rfl
 | ty _=>cases r;rfl
theorem RelV.inj {x y:V}{u:va0} (r:RelV x u) (q:RelV y u):x=y:=Option.some.inj (r.abs.symm.trans q.abs)
theorem Vals.inj:∀ {xs ys:List V}{us:List va0},Vals xs us->Vals ys us->xs=ys
 | _,_,_,.nil,.nil=>rfl
 | _,_,_,.cons r t,.cons r' t'=>by rw [r.inj r',Vals.inj t t']
section
variable {X:Cx}{pins:List (Addr×Obj)}{σ:St}{H:Hp}{s:va1}{a:Addr}{xs ys:List V}
theorem Inv.list (I:Inv X pins σ H s) (h:SqL X.K H a xs):∃ its:List va0,Vals xs its/\PlainL s.heap a its.toArray/\xs.length<=va2:=by
 rcases h with h | ⟨o,its,n,hk,hc,hd,hs,hz,r⟩
 ·obtain ⟨z,its,n,r,e⟩:=h.ok I.hok
  exact ⟨its,r,⟨_,n,e,rfl,rfl,rfl⟩,z⟩
 ·refine ⟨its.toList,r,⟨o,n,I.kIn a o hk,hc,hd,by simpa using hs⟩,?_⟩
  have e:=r.length
  simp only [jg8] at e
  omega
theorem Inv.tuple (I:Inv X pins σ H s) (h:SqT X.K H a xs):∃ its:List va0,Vals xs its/\IsTup s.heap a its.toArray/\xs.length<=va2:=by
 rcases h with h | ⟨o,its,n,hk,hc,hs,hz,r⟩
 ·obtain ⟨z,its,r,p⟩:=h.ok I.hok
  exact ⟨its,r,p,z⟩
 ·refine ⟨its.toList,r,⟨o,I.kIn a o hk,hc,n,by simpa using hs⟩,?_⟩
  have e:=r.length
  simp only [jg8] at e
  omega
theorem Inv.list_inj (I:Inv X pins σ H s) (h:SqL X.K H a xs) (h':SqL X.K H a ys):xs=ys:=by
 obtain ⟨its,r,⟨o,n,e,_,_,d⟩,_⟩:=I.list h
 obtain ⟨its',r',⟨o',n',e',_,_,d'⟩,_⟩:=I.list h'
 rw [e] at e';cases e'
 rw [d] at d'
 injection d' with d1 _
 have:its=its':=by simpa using congrArg jq4 d1
 subst this
 exact r.inj r'
theorem Inv.tuple_inj (I:Inv X pins σ H s) (h:SqT X.K H a xs) (h':SqT X.K H a ys):xs=ys:=by
 obtain ⟨its,r,⟨o,e,_,n,d⟩,_⟩:=I.tuple h
 obtain ⟨its',r',⟨o',e',_,n',d'⟩,_⟩:=I.tuple h'
 rw [e] at e';cases e'
 rw [d] at d'
 injection d' with d1 _
 have:its=its':=by simpa using congrArg jq4 d1
 subst this
 exact r.inj r'
end
section
variable {X:Cx}{pins:List (Addr×Obj)}{σ:St}{H:Hp}{s:va1}{E:va0->va1->Prop}
end
section
variable {X:Cx}{st:Stmt}{rest:List Stmt}{t u:TS}{e:Expr}{te:TE}{pos:Pos}
def qmz:TS:=λ D σ H=>D.nx σ H
def tSeq (t u:TS):TS:=λ D σ H=>t { D with nx:=u D } σ H
theorem qkp:PSs X [] qmz:=λ _ _ σ H _ I h=>vg3 ⟨σ,H,I,h⟩
theorem qbr (h1:PS X st t) (h2:PSs X rest u):PSs X (st::rest) (tSeq t u):=by
 intro pins s σ H D I h
 refine wpAny_execs_cons (thn (h1 pins s σ H { D with nx:=u D } I h) λ f s1 q=>?_)
 cases f with
 | next=>
  obtain ⟨σ',H',I',q⟩:=q
  exact h2 pins s1 σ' H' D I' q
 | ret v=>exact q
 | brk=>exact q
 | cont=>exact q
theorem zyz (h1:PS X st t):PSs X [st] t:=by
 intro pins s σ H D I h
 refine wpAny_execs_cons (thn (h1 pins s σ H D I h) λ f s1 q=>?_)
 cases f with
 | next=>exact vg3 q
 | ret v=>exact q
 | brk=>exact q
 | cont=>exact q
theorem Inv.quiet {pins:List (Addr×Obj)}{σ:St}{H:Hp}{s:va1} (I:Inv X pins σ H s):interactive X.env=false:=by simp [interactive,I.ok.kind]
def qcu (te:TE):TS:=λ D σ H=>te σ H λ _ H1=>D.nx σ H1
theorem zbt (he:PE X e te) (hs:swapsWith e none pos.line X.env=pure false:=by rfl):PS X (.Expr e pos) (qcu te):=by
 intro pins s σ H D I h
 exact wpAny_Expr_any (thn (he pins s σ H _ I h) λ v s1 ⟨x,H1,I1,r1,q1⟩=>⟨σ,H1,I1,q1⟩) I.quiet hs
def tRet (te:TE):TS:=λ D σ H=>te σ H D.rt
theorem qi0 (he:PE X e te):PS X (.Return (some e) pos) (tRet te):=by
 intro pins s σ H D I h
 exact wpAny_Return_some (thn (he pins s σ H _ I h) λ v s1 ⟨x,H1,I1,r1,q1⟩=>⟨x,σ,H1,I1,r1,q1⟩)
def tIfS (c:TT) (t u:TS):TS:=λ D σ H=>c σ H λ b H1=>if b=true then t D σ H1 else u D σ H1
theorem qnx {c:Expr}{a b:List Stmt}{tc:TT} (hc:PT X c tc) (ha:PSs X a t) (hb:PSs X b u):PS X (.If c a b pos) (tIfS tc t u):=by
 intro pins s σ H D I h
 refine wpAny_If (thn (hc pins s σ H _ I h) λ d s1 ⟨H1,I1,q1⟩=>?_)
 cases d with
 | true=>exact ha pins s1 σ H1 D I1 q1
 | false=>exact hb pins s1 σ H1 D I1 q1
def qbe:TS:=λ _ _ _=>False
theorem zfa:PS X st qbe:=λ _ _ _ _ _ _ h=>h.elim
end
abbrev TG:=V->St->Hp->(St->Hp->Prop)->Prop
abbrev TGs:=List V->St->Hp->(St->Hp->Prop)->Prop
def PG (X:Cx) (target:Expr) (t:TG):Prop:=
 ∀ (pins:List (Addr×Obj)) (s:va1) (σ:St) (H:Hp) (v:V) (u:va0) (Q:St->Hp->Prop),Inv X pins σ H s->RelV v u->t v σ H Q ->
  vb3 (vb2 X.prog X.w) X.A (vj0 target X.env u) (λ _ s'=>∃ σ' H',Inv X pins σ' H' s'/\Q σ' H') X.xe s
def PGs (X:Cx) (ts:List Expr) (t:TGs):Prop:=
 ∀ (pins:List (Addr×Obj)) (s:va1) (σ:St) (H:Hp) (vs:List V) (us:List va0) (Q:St->Hp->Prop),Inv X pins σ H s->Vals vs us->t vs σ H Q ->
  vb3 (vb2 X.prog X.w) X.A (assignInOrder ((vc5 ts X.env).map (·.2)) us) (λ _ s'=>∃ σ' H',Inv X pins σ' H' s'/\Q σ' H') X.xe s
abbrev TSet:=V->V->V->Hp->(Hp->Prop)->Prop
def PSet (X:Cx) (t:TSet):Prop:=
 ∀ (pins:List (Addr×Obj)) (s:va1) (σ:St) (H:Hp) (o i v:V) (ov iv u:va0) (Q:Hp->Prop),Inv X pins σ H s->RelV o ov->RelV i iv->RelV v u->t o i v H Q ->
  vb3 (vb2 X.prog X.w) X.A (setItem ov iv u) (λ _ s'=>∃ H',Inv X pins σ H' s'/\Q H') X.xe s
section
variable {X:Cx}{pos:Pos}
def zjw (i:Nat):TG:=λ v σ H Q=>Q (σ.set i (some v)) H
theorem zfc {i:Nat}{x:Str} (hN:X.N.Nodup) (hi:X.N[i]?=some x) (hx:Loc X.env.scope x) (hf:X.fn x=true\/X.env.scope.names.lookup x=some .local:=by first | exact .inl rfl | exact .inr rfl | assumption):PG X (.Name x pos) (zjw i):=by
 intro pins s σ H v u Q I r h
 exact wpAny_assign_Name (zmv I hN hi hx r (λ s' I'=>⟨_,H,I',h⟩) hf)
def gNil:TGs:=λ vs σ H Q=>vs=[]/\Q σ H
def qo4 (t:TG) (u:TGs):TGs:=λ vs σ H Q=>∃ v r,vs=v::r/\t v σ H λ σ' H'=>u r σ' H' Q
theorem qet:PGs X [] gNil:=by
 intro pins s σ H vs us Q I r h
 obtain ⟨e,h⟩:=h
 subst e
 cases r
 exact assignInOrder_nil ⟨σ,H,I,h⟩
theorem qbu {e:Expr}{es:List Expr}{t:TG}{u:TGs} (h1:PG X e t) (h2:PGs X es u)
  (hs:(vc5 (e::es) X.env).map (·.2)=vj0 e X.env::(vc5 es X.env).map (·.2):=by rfl):PGs X (e::es) (qo4 t u):=by
 intro pins s σ H vs us Q I r h
 obtain ⟨v,vr,e1,h⟩:=h
 subst e1
 cases r with
 | cons r rr=>
  rw [hs]
  refine assignInOrder_cons (thn (h1 pins s σ H _ _ _ I r h) λ _ s1 ⟨σ1,H1,I1,q1⟩=>?_)
  exact h2 pins s1 σ1 H1 _ _ Q I1 rr q1
def gTup (K:va6) (n:Nat) (t:TGs):TG:=λ v σ H Q=>∃ a xs,v=.ref a/\SqT K H a xs/\xs.length=n/\t xs σ H Q
theorem qeu {es:List Expr}{k:Nat}{t:TGs}{n:Nat} (hc:X.calm=true) (h:PGs X es t)
  (hn:(vc5 es X.env).length=n:=by rfl) (hst:(vc5 es X.env).findIdx? (·.1)=none:=by rfl):PG X (.Tuple es k pos) (gTup X.K n t):=by
 intro pins s σ H v u Q I r hw
 obtain ⟨a,xs,e1,hq,hl,hw⟩:=hw
 subst e1
 cases r
 obtain ⟨its,rv,ht,hz⟩:=I.tuple hq
 refine assign_Tuple_tuple (I.ok.hd hc) ht (by simp [hn,<- hl,rv.length]) hst λ h' hx=>?_
 have I1:Inv X pins σ H { s with heap:=h' }:=I.kept (t':=s.toks) λ b o e=>hx b o (jd2 (va3 e)) e
 exact h pins _ σ H xs _ Q I1 (by simpa using rv) hw
def gSub (to ti:TE) (t:TSet):TG:=λ v σ H Q=>to σ H λ o H1=>ti σ H1 λ i H2=>t o i v H2 λ H3=>Q σ H3
theorem qev {o i:Expr}{to ti:TE}{t:TSet} (ho:PE X o to) (hi:PE X i ti) (hs:PSet X t)
  (ha:∀ v,vj0 (.Subscript o i pos) X.env v=(do
   let ov<-holding [v] (eval o X.env)
   let iv<-holding [v,ov] (eval i X.env)
   standAt pos
   holding [v,ov,iv] (setItem ov iv v)
   release [v,ov,iv] []):=by intro _;rfl):PG X (.Subscript o i pos) (gSub to ti t):=by
 intro pins s σ H v u Q I r h
 rw [ha]
 refine va7 (vg8 (thn (ho pins s σ H _ I h) λ ov s1 ⟨x,H1,I1,r1,q1⟩=>?_))
 refine va7 (vg8 (thn (hi pins s1 σ H1 _ I1 q1) λ iv s2 ⟨y,H2,I2,r2,q2⟩=>?_))
 refine va7 (wpAny_standAt (va7 (vg8 (thn (hs pins s2 σ H2 x y v ov iv u _ I2 r1 r2 r q2) λ _ s3 ⟨H3,I3,q3⟩=>?_))))
 exact wpAny_release ⟨σ,H3,I3,q3⟩
def tAsg (te:TE) (g:TG):TS:=λ D σ H=>te σ H λ x H1=>g x σ H1 D.nx
theorem qbt {tg e:Expr}{te:TE}{g:TG} (he:PE X e te) (hg:PG X tg g) (hs:swapsWithSole [tg] e pos.line X.env=pure false:=by rfl) (hw:swappedStores [tg] e X.env=pure none:=by rfl)
  (h1:(vc5 [tg] X.env).map (·.2)=[vj0 tg X.env]:=by rfl):PS X (.Assign [tg] e pos) (tAsg te g):=by
 intro pins s σ H D I h
 refine wpAny_Assign_stores (thn (he pins s σ H _ I h) λ v s1 ⟨x,H1,I1,r1,q1⟩=>?_) hs hw
 rw [h1]
 exact thn (hg pins s1 σ H1 x v _ I1 r1 q1) λ _ s2 q=>q
theorem qbs {i:Nat}{x:Str}{e:Expr}{te:TE}{pos':Pos} (hN:X.N.Nodup) (hi:X.N[i]?=some x) (hx:Loc X.env.scope x) (he:PE X e te) (hs:swapsWith e (some (.Name x pos')) pos.line X.env=pure false:=by rfl) (hf:X.fn x=true\/X.env.scope.names.lookup x=some .local:=by first | exact .inl rfl | exact .inr rfl | assumption):
  PS X (.Assign [.Name x pos'] e pos) (tAsg te (zjw i)):=by
 intro pins s σ H D I h
 refine wpAny_Assign_Name (thn (he pins s σ H _ I h) λ v s1 ⟨y,H1,I1,r1,q1⟩=>?_) hs
 exact zmv I1 hN hi hx r1 (λ s2 I2=>⟨_,H1,I2,q1⟩) hf
end
section
variable {X:Cx}{pos:Pos}
end
structure It where
 go:Nat->Hp->Prop
 yld:Nat->Hp->V->Hp->Prop
 stop:Nat->Hp->Prop
def FpOk (X:Cx) (pins:List (Addr×Obj)) (H:Hp) (b:Addr):Prop:=
 H b=none/\b≠X.env.locals/\b∉X.fs/\(b∈X.ex\/X.s₀.heap.objs.size<=b)/\(∀ x c,X.env.cells.lookup x=some c->c≠b)/\∀ p∈X.pn++pins,p.1≠b
theorem Inv.fpOk {X:Cx}{pins:List (Addr×Obj)}{σ:St}{H H':Hp}{s:va1}{b:Addr} (I:Inv X pins σ H s) (hb:s.heap.objs.size<=b) (hn:H' b=none):FpOk X pins H' b:=by
 refine ⟨hn,jh3 (jb6 I.lt hb),I.nofs hb,.inr (jd4 I.sz hb),λ x c e z=>?_,λ p hp z=>?_⟩
 ·obtain ⟨v,q⟩:=I.cell x c e
  exact absurd (jb6 q.lt (by rw [z];exact hb)) (jf6 _)
 ·exact absurd (jb6 (va3 (I.pin p hp).1) (by rw [z];exact hb)) (jf6 _)
structure Turn (P:va8) (w:vb6) (K:va6) (tg:Expr) (J:It) (fp:List Addr) (it:Addr) (tn:Nat->Heap->Prop):Prop where
 mem:it∈fp
 obj:∀ i h,tn i h->∀ b∈fp,∃ o,h.get? b=some o/\∀ v,o.data≠.cell v
 keep:∀ i h h',tn i h->(∀ b∈fp,∀ o,h.get? b=some o->h'.get? b=some o)->tn i h'
 item:∀ (X:Cx),X.prog=P->X.w=w->X.K=K->X.calm=true->∀ (i:Nat) (pins:List (Addr×Obj)) (s:va1) (σ:St) (H:Hp) (E:va0->va1->Prop),Inv X pins σ H s->(∀ b∈fp,FpOk X pins H b)->tn i s.heap->J.go i H ->
  vb3 (vb2 P w) X.A (pyNext (.ref it)) (λ r s1=>∃ u,r=some u /\
   vb3 (vb2 P w) X.A (vg4 tg (.ref it) u) (λ _ s2=>∃ x H',Inv X pins σ H' s2/\RelV x u/\J.yld i H x H'/\tn (i + 1) s2.heap/\∀ b∈fp,H' b=none) E s1) E s
 done:∀ (X:Cx),X.prog=P->X.w=w->X.K=K->X.calm=true->∀ (i:Nat) (pins:List (Addr×Obj)) (s:va1) (σ:St) (H:Hp) (E:va0->va1->Prop),Inv X pins σ H s->(∀ b∈fp,FpOk X pins H b)->tn i s.heap->J.stop i H ->
  vb3 (vb2 P w) X.A (pyNext (.ref it)) (λ r s1=>r=none/\Inv X pins σ H s1) E s
 self:∀ (A:vb8) (i:Nat) (s:va1) (Q:va0->va1->Prop) (E:va0->va1->Prop),tn i s.heap->Q (.ref it) s->vb3 (vb2 P w) A (pyIter (.ref it)) Q E s
abbrev TI:=St->Hp->(It->Hp->Prop)->Prop
def PIE (X:Cx) (pins:List (Addr×Obj)) (σ:St) (tg:Expr) (R:It->Hp->Prop) (itv:va0) (s2:va1):Prop:=
 ∃ (it:Addr) (fp:List Addr) (tn:Nat->Heap->Prop) (J:It) (H':Hp),itv=.ref it/\Inv X pins σ H' s2/\Turn X.prog X.w X.K tg J fp it tn/\tn 0 s2.heap/\(∀ b∈fp,FpOk X pins H' b)/\R J H'
def PI (X:Cx) (tg iter:Expr) (wi:TI):Prop:=
 ∀ (pins:List (Addr×Obj)) (s:va1) (σ:St) (H:Hp) (R:It->Hp->Prop),Inv X pins σ H s->wi σ H R ->
  vb3 (vb2 X.prog X.w) X.A (eval iter X.env) (λ v s1=>vb3 (vb2 X.prog X.w) X.A (pyIter v) (PIE X pins σ tg R) X.xe s1) X.xe s
theorem qfp {M:Model}{A:vb8}{E:va0->va1->Prop}{s:va1}{tg:Expr}{it:Addr}{u:va0}{o:Obj}{n:String}{vs:Array va0}{Q:Unit->va1->Prop} (ho:s.heap.get? it=some o) (hc:o.cls=.type n) (hd:o.data=.fields vs)
  (hn:["enumerate","zip","dict_itemiterator","dict_reverseitemiterator","odict_iterator","itertools.zip_longest","itertools.pairwise"].contains n=false) (hQ:Q () s):vb3 M A (vg4 tg (.ref it) u) Q E s:=by
 unfold vg4
 cases tg <;> first
  | exact va9 hQ
  | (cases u <;> first
    | exact va9 hQ
    | (refine va7 (wpAny_load ho ?_);rw [hc,hd];show vb3 M A (if (["enumerate","zip","dict_itemiterator","dict_reverseitemiterator","odict_iterator","itertools.zip_longest","itertools.pairwise"].contains n && vs[0]? == some (rawInt _))=true then _ else _) Q E s;rw [if_neg (by intro h;rw [hn,jl8] at h;cases h)];exact va9 hQ))
def Itl (K:va6) (a:Addr):It:=
 ⟨λ i H=>∃ xs x,SqL K H a xs/\xs[i]?=some x,λ i H x H'=>H'=H/\∀ xs,SqL K H a xs->xs[i]?=some x,λ i H=>∃ xs,SqL K H a xs/\xs.length<=i⟩
def Itt (K:va6) (a:Addr):It:=
 ⟨λ i H=>∃ xs x,SqT K H a xs/\xs[i]?=some x,λ i H x H'=>H'=H/\∀ xs,SqT K H a xs->xs[i]?=some x,λ i H=>∃ xs,SqT K H a xs/\xs.length<=i⟩
def Itr (lo:Int) (n:Nat):It:=⟨λ i _=>i < n,λ i H x H'=>H'=H/\x=.int (lo + i),λ i _=>n<=i⟩
theorem qdl {P:va8}{w:vb6}{K:va6}{tg:Expr} (a it:Addr):Turn P w K tg (Itl K a) [it] it (λ i h=>h.IsListIter it a i) where
 mem:=by simp
 obj:=λ i h st b hb=>by
  have e:b=it:=by simpa using hb
  subst e
  obtain ⟨o,e,c,d⟩:=st
  exact ⟨o,e,λ v z=>by rw [d] at z;cases z⟩
 keep:=λ i h h' st k=>st.at λ o e=>k it (by simp) o e
 item:=by
  intro X hP hw hK hc i pins s σ H E I hf st hg
  subst hP hw hK
  obtain ⟨xs,x,hq,hx⟩:=hg
  obtain ⟨its,rv,p,hz⟩:=I.list hq
  obtain ⟨u,hu,ru⟩:=rv.get hx
  obtain ⟨f0,f1,f2,f3,f4,f5⟩:=hf it (by simp)
  refine wpAny_pyNext_list_item st p.isList (x:=u) (by simpa using hu) λ h' st' sb=>?_
  have I1:Inv X pins σ H { s with heap:=h' }:=I.turned (t':=s.toks) (λ b o hb e=>(sb.2 b hb).trans e) f0 f1 f3 f4 f5
  obtain ⟨o,e,c,d⟩:=id st'
  exact ⟨u,rfl,qfp (s:={ s with heap:=h' }) e c d (by decide) ⟨x,H,I1,ru,⟨rfl,λ ys hy=>by rw [I.list_inj hy hq];exact hx⟩,st',λ b hb=>(hf b hb).1⟩⟩
 done:=by
  intro X hP hw hK hc i pins s σ H E I hf st hg
  subst hP hw hK
  obtain ⟨xs,hq,hx⟩:=hg
  obtain ⟨its,rv,p,hz⟩:=I.list hq
  obtain ⟨f0,f1,f2,f3,f4,f5⟩:=hf it (by simp)
  have hl:=rv.length
  exact wpAny_pyNext_list_end (I.ok.hd hc) st p.isList (by simp;omega) λ h' eb=>⟨rfl,I.turned (t':=s.toks) (λ b o hb e=>eb b o hb e) f0 f1 f3 f4 f5⟩
 self:=λ _ _ _ _ _ st h=>wpAny_pyIter_listiter st h
theorem qcs {P:va8}{w:vb6}{K:va6}{tg:Expr} (a it:Addr):Turn P w K tg (Itt K a) [it] it (λ i h=>h.IsTupleIter it a i) where
 mem:=by simp
 obj:=λ i h st b hb=>by
  have e:b=it:=by simpa using hb
  subst e
  obtain ⟨o,e,c,d⟩:=st
  exact ⟨o,e,λ v z=>by rw [d] at z;cases z⟩
 keep:=λ i h h' st k=>st.at λ o e=>k it (by simp) o e
 item:=by
  intro X hP hw hK hc i pins s σ H E I hf st hg
  subst hP hw hK
  obtain ⟨xs,x,hq,hx⟩:=hg
  obtain ⟨its,rv,p,hz⟩:=I.tuple hq
  obtain ⟨u,hu,ru⟩:=rv.get hx
  obtain ⟨f0,f1,f2,f3,f4,f5⟩:=hf it (by simp)
  refine wpAny_pyNext_tuple_item st (show s.heap.IsTuple a its.toArray from p) (x:=u) (by simpa using hu) λ h' st' sb=>?_
  have I1:Inv X pins σ H { s with heap:=h' }:=I.turned (t':=s.toks) (λ b o hb e=>(sb.2 b hb).trans e) f0 f1 f3 f4 f5
  obtain ⟨o,e,c,d⟩:=id st'
  exact ⟨u,rfl,qfp (s:={ s with heap:=h' }) e c d (by decide) ⟨x,H,I1,ru,⟨rfl,λ ys hy=>by rw [I.tuple_inj hy hq];exact hx⟩,st',λ b hb=>(hf b hb).1⟩⟩
 done:=by
  intro X hP hw hK hc i pins s σ H E I hf st hg
  subst hP hw hK
  obtain ⟨xs,hq,hx⟩:=hg
  obtain ⟨its,rv,p,hz⟩:=I.tuple hq
  obtain ⟨f0,f1,f2,f3,f4,f5⟩:=hf it (by simp)
  have hl:=rv.length
  exact wpAny_pyNext_tuple_end (I.ok.hd hc) st (show s.heap.IsTuple a its.toArray from p) (by simp;omega) λ h' eb=>⟨rfl,I.turned (t':=s.toks) (λ b o hb e=>eb b o hb e) f0 f1 f3 f4 f5⟩
 self:=λ _ _ _ _ _ st h=>wpAny_pyIter_tupleiter st h
theorem qct {P:va8}{w:vb6}{K:va6}{tg:Expr} (it:Addr) (lo:Int) (n:Nat):Turn P w K tg (Itr lo n) [it] it (λ i h=>IsRangeIter h it (lo + (i:Nat) * 1) ((n:Int) - (i:Nat)) 1) where
 mem:=by simp
 obj:=λ i h st b hb=>by
  have e:b=it:=by simpa using hb
  subst e
  exact ⟨_,st,λ v z=>by
   have z':Data.fields _=Data.cell v:=z
   cases z'⟩
 keep:=λ i h h' st k=>k it (by simp) _ st
 item:=by
  intro X hP hw hK hc i pins s σ H E I hf st hg
  subst hP hw hK
  obtain ⟨f0,f1,f2,f3,f4,f5⟩:=hf it (by simp)
  have W:=Walks.range (prog:=X.prog) (w:=X.w) (I.ok.hd hc) it lo 1 n
  refine W.item i s _ _ hg st λ v h' tk hv st' kk=>?_
  obtain ⟨t,rfl⟩:=hv
  have I1:Inv X pins σ H { s with heap:=h',toks:=tk }:=I.turned (λ b o hb e=>kk b o (by simpa using hb) e) f0 f1 f3 f4 f5
  refine ⟨_,rfl,qfp (s:={ s with heap:=h',toks:=tk }) (n := "range_iterator") st' rfl rfl (by decide) ⟨.int (lo + i),H,I1,⟨t,?_⟩,⟨rfl,rfl⟩,st',λ b hb=>(hf b hb).1⟩⟩
  rw [Int.mul_one]
 done:=by
  intro X hP hw hK hc i pins s σ H E I hf st hg
  subst hP hw hK
  obtain ⟨f0,f1,f2,f3,f4,f5⟩:=hf it (by simp)
  exact wpAny_pyNext_range_end (I.ok.hd hc) st (by have:n<=i:=hg;omega) λ h' eb=>⟨rfl,I.turned (t':=s.toks) (λ b o hb e=>eb b o hb e) f0 f1 f3 f4 f5⟩
 self:=λ _ _ _ _ _ st h=>wpAny_pyIter_rangeiter st h
section
variable {X:Cx}{tg:Expr}
theorem qbq {pins:List (Addr×Obj)}{σ:St}{H:Hp}{s:va1}{R:It->Hp->Prop}{E:va0->va1->Prop}{lo hi:Int}{t u v:Tok}{tk:Nat} (I:Inv X pins σ H s) (h1:-(2 ^ 62)<=lo) (h2:lo < 2 ^ 62) (h3:-(2 ^ 62)<=hi) (h4:hi < 2 ^ 62)
  (q:R (Itr lo (hi - lo).toNat) H):vb3 (vb2 X.prog X.w) X.A (pyIter (.ref s.heap.objs.size)) (PIE X pins σ tg R) E { s with heap:=s.heap.push { cls:=.type "range",data:=.fields #[.int lo t,.int hi u,.int 1 v] },toks:=tk }:=by
 refine wpAny_pyIter_range (IsRange.new ..) (small_one h1 h2 h3 h4) ?_
 have I1:Inv X pins σ H { s with heap:=s.heap.push { cls:=.type "range",data:=.fields #[.int lo t,.int hi u,.int 1 v] },toks:=tk }:=I.kept λ b o e=>va5 _ e
 refine ⟨(s.heap.push { cls:=.type "range",data:=.fields #[.int lo t,.int hi u,.int 1 v] }).objs.size,[(s.heap.push { cls:=.type "range",data:=.fields #[.int lo t,.int hi u,.int 1 v] }).objs.size],_,_,H,rfl,
  I1.kept (t':=tk) λ b o e=>va5 _ e,qct _ lo (hi - lo).toNat,?_,λ b hb=>?_,q⟩
 ·have e1:lo + ((0:Nat):Int) * 1=lo:=by simp
  have e2:(((hi - lo).toNat:Nat):Int) - ((0:Nat):Int)=Builtin.Range.rangeSize lo hi 1:=by rw [rangeSize_one];split <;> omega
  show IsRangeIter _ _ (lo + ((0:Nat):Int) * 1) ((((hi - lo).toNat:Nat):Int) - ((0:Nat):Int)) 1
  rw [e1,e2]
  exact vb0 _ rfl
 ·have e:b=(s.heap.push { cls:=.type "range",data:=.fields #[.int lo t,.int hi u,.int 1 v] }).objs.size:=by simpa using hb
  subst e
  exact I1.fpOk (jb8 _) (I1.hok.fresh (jb8 _))
def qhw (ta:TA):TI:=λ σ H R=>ta σ H λ vs H1=>∃ j:Int,vs=[.int j]/\-(2 ^ 62)<=j/\j < 2 ^ 62/\R (Itr 0 j.toNat) H1
def qhv (ta:TA):TI:=λ σ H R=>ta σ H λ vs H1=>∃ i j:Int,vs=[.int i,.int j]/\(-(2 ^ 62)<=i/\i < 2 ^ 62/\-(2 ^ 62)<=j/\j < 2 ^ 62)/\R (Itr i (j - i).toNat) H1
theorem qes {a:Expr}{ta:TA}{p pos:Pos} (hg:Gl X "range") (hm:X.mg "range" = none) (ha:PA X [a] ta) (hs:va4 [a] X.env=[(false,eval a X.env)]:=by rfl):PI X tg (.Call (.Name "range" p) [a] [] pos) (qhw ta):=by
 intro pins s σ H R I h
 refine Call_ (zpd I hg hm boot_range (vc3 (thn (ha pos pins s σ H _ I h) λ us s1 ⟨vs,H1,I1,r1,q1⟩=>?_) hs rfl))
 obtain ⟨j,e,q1,q2,q⟩:=q1
 subst e
 cases r1 with
 | cons r rr=>
  cases rr
  obtain ⟨t,rfl⟩:=r
  exact call_range_1 (qbq I1 (by omega) (by omega) q1 q2 (by simpa using q))
theorem qer {a b:Expr}{ta:TA}{p pos:Pos} (hg:Gl X "range") (hm:X.mg "range" = none) (ha:PA X [a,b] ta) (hs:va4 [a,b] X.env=[(false,eval a X.env),(false,eval b X.env)]:=by rfl) (hs2:va4 [b] X.env=[(false,eval b X.env)]:=by rfl):
  PI X tg (.Call (.Name "range" p) [a,b] [] pos) (qhv ta):=by
 intro pins s σ H R I h
 refine Call_ (zpd I hg hm boot_range (vc3 (thn (ha pos pins s σ H _ I h) λ us s1 ⟨vs,H1,I1,r1,q1⟩=>?_) (by rw [hs,hs2]) (by rw [hs2];rfl)))
 obtain ⟨i,j,e,⟨q1,q2,q3,q4⟩,q⟩:=q1
 subst e
 cases r1 with
 | cons r rr=>
  cases rr with
  | cons r' rr=>
   cases rr
   obtain ⟨t,rfl⟩:=r
   obtain ⟨t',rfl⟩:=r'
   exact call_range_2 (qbq I1 q1 q2 q3 q4 q)
def tFor (wi:TI) (g:TG) (tb:TS):TS:=λ D σ H=>wi σ H λ J H1=>∃ W:Nat->Nat->St->Hp->Prop,(∃ m,W 0 m σ H1)/\∀ i m σ H,W i m σ H ->
 (J.stop i H/\D.nx σ H)\/(J.go i H/\∃ N:St->Hp->Prop,(∀ σ' H',N σ' H'->∃ m',m' < m/\W (i + 1) m' σ' H')/\∀ x H',J.yld i H x H'->g x σ H' λ σ2 H2=>tb { D with nx:=N,ct:=N,bk:=D.nx } σ2 H2)
def zgr (fp:List Addr) (h:Heap):List (Addr×Obj):=fp.filterMap λ b=>(h.get? b).map λ o=>(b,o)
theorem zkm {fp:List Addr}{h:Heap}{b:Addr}{o:Obj} (hb:b∈fp) (e:h.get? b=some o):(b,o)∈zgr fp h:=jl4.mpr ⟨b,hb,by rw [e];rfl⟩
theorem qe4 {fp:List Addr}{h:Heap}{p:Addr×Obj} (hp:p∈zgr fp h):p.1∈fp/\h.get? p.1=some p.2:=by
 obtain ⟨b,hb,e⟩:=jl4.mp hp
 cases q:h.get? b with
 | none=>rw [q] at e;cases e
 | some o=>
  rw [q] at e
  have e':(b,o)=p:=Option.some.inj e
  subst e'
  exact ⟨hb,q⟩
theorem Inv.pinned {pins:List (Addr×Obj)}{σ:St}{H:Hp}{s:va1}{fp:List Addr} (I:Inv X pins σ H s) (hf:∀ b∈fp,FpOk X pins H b) (ho:∀ b∈fp,∃ o,s.heap.get? b=some o/\∀ v,o.data≠.cell v):Inv X (pins++zgr fp s.heap) σ H s:=
 I.pins_of λ p hp=>(jc0.mp hp).elim (λ z=>I.pin p (ja5 _ z)) λ z=>by
  obtain ⟨hb,e⟩:=qe4 z
  obtain ⟨f0,f1,f2,_⟩:=hf p.1 hb
  obtain ⟨o,e',d⟩:=ho p.1 hb
  rw [e] at e';cases e'
  exact ⟨e,f0,f1,f2,d⟩
theorem Inv.unpinned {pins pl:List (Addr×Obj)}{σ:St}{H:Hp}{s:va1} (I:Inv X (pins++pl) σ H s):Inv X pins σ H s:=I.pins_of λ p hp=>I.pin p (ja5 _ (jb0 _ hp))
theorem zjj {iter:Expr}{body:List Stmt}{wi:TI}{g:TG}{tb:TS}{pos:Pos} (hp:vj4 (vb2 X.prog X.w) X.A X.env X.xe) (hc:X.calm=true) (hi:PI X tg iter wi) (hg:PG X tg g) (hb:PSs X body tb)
  (hs:∀ x,vf6 iter X.env x=pure x:=by intro _;rfl):PS X (.For tg iter body [] pos) (tFor wi g tb):=by
 intro pins s σ H D I h
 refine wpAny_For (thn (hi pins s σ H _ I h) λ v s1 h1=>thn h1 λ itv s2 h2=>?_) hs
 obtain ⟨it,fp,tn,J,H2,e,I2,T,st2,f2,W,⟨m0,w0⟩,turn⟩:=h2
 subst e
 have stat:∀ {H':Hp},(∀ b∈fp,H' b=none)->∀ b∈fp,FpOk X pins H' b:=λ hn b hb=>⟨hn b hb,(f2 b hb).2⟩
 refine codeAny_forLoop_any (λ n s'=>∃ i σ' H',Inv X pins σ' H' s'/\tn i s'.heap/\(∀ b∈fp,H' b=none)/\W i n σ' H') ?_ m0 ⟨0,σ,H2,I2,st2,λ b hb=>(f2 b hb).1,w0⟩
 rintro n s3 ⟨i,σ3,H3,I3,st3,fr3,w3⟩
 rcases turn i n σ3 H3 w3 with ⟨stop,qn⟩ | ⟨go,N,hN,step⟩
 ·refine ve7 hp (thn (T.done X rfl rfl rfl hc i pins s3 σ3 H3 X.xe I3 (stat fr3) st3 stop) λ r s4 ⟨hr,I4⟩=>?_)
  subst hr
  exact vg3 ⟨σ3,H3,I4,qn⟩
 ·refine ve7 hp (thn (T.item X rfl rfl rfl hc i pins s3 σ3 H3 X.xe I3 (stat fr3) st3 go) λ r s4 ⟨u,hr,h4⟩=>?_)
  subst hr
  refine ve7 hp (thn h4 λ _ s5 ⟨x,H5,I5,r5,y5,st5,fr5⟩=>?_)
  have I5':=I5.pinned (stat fr5) (T.obj _ _ st5)
  refine ve7 hp (thn (hg _ s5 σ3 H5 x u _ I5' r5 (step x H5 y5)) λ _ s6 ⟨σ6,H6,I6,q6⟩=>?_)
  refine ve7 hp (thn (hb _ s6 σ6 H6 _ I6 q6) λ f s7 q7=>?_)
  have again:∀ {σ7:St}{H7:Hp},Inv X (pins++zgr fp s5.heap) σ7 H7 s7->N σ7 H7->∃ m,m < n/\∃ i σ' H',Inv X pins σ' H' s7/\tn i s7.heap/\(∀ b∈fp,H' b=none)/\W i m σ' H':=λ {σ7 H7} I7 n7=>by
   obtain ⟨m',hm,w7⟩:=hN σ7 H7 n7
   refine ⟨m',hm,i + 1,σ7,H7,I7.unpinned,T.keep _ _ _ st5 λ b hb o e=>(I7.pin (b,o) (ja5 _ (ja5 _ (zkm hb e)))).1,λ b hb=>?_,w7⟩
   obtain ⟨o,e,d⟩:=T.obj _ _ st5 b hb
   exact (I7.pin (b,o) (ja5 _ (ja5 _ (zkm hb e)))).2.1
  cases f with
  | next=>obtain ⟨σ7,H7,I7,n7⟩:=q7;exact again I7 n7
  | cont=>obtain ⟨σ7,H7,I7,n7⟩:=q7;exact again I7 n7
  | brk=>obtain ⟨σ7,H7,I7,q7⟩:=q7;exact ⟨σ7,H7,I7.unpinned,q7⟩
  | ret v=>obtain ⟨x7,σ7,H7,I7,r7,q7⟩:=q7;exact ⟨x7,σ7,H7,I7.unpinned,r7,q7⟩
end
abbrev R2:=V->V->Hp->VK->Prop
def OpR (X:Cx) (f:va0->va0->Sem va0) (r:R2):Prop:=
 ∀ (pins:List (Addr×Obj)) (s:va1) (σ:St) (H:Hp) (x y:V) (v u:va0) (Q:VK),Inv X pins σ H s->RelV x v->RelV y u->r x y H Q ->
  vb3 (vb2 X.prog X.w) X.A (f v u) (EP X pins σ Q) X.xe s
def UnR (X:Cx) (f:va0->Sem va0) (r:V->Hp->VK->Prop):Prop:=
 ∀ (pins:List (Addr×Obj)) (s:va1) (σ:St) (H:Hp) (x:V) (v:va0) (Q:VK),Inv X pins σ H s->RelV x v->r x H Q ->
  vb3 (vb2 X.prog X.w) X.A (f v) (EP X pins σ Q) X.xe s
def zzr (X:Cx) (f:va0) (r:List V->Hp->VK->Prop):Prop:=
 ∀ (pins:List (Addr×Obj)) (s:va1) (σ:St) (H:Hp) (xs:List V) (us:List va0) (Q:VK),Inv X pins σ H s->Vals xs us->r xs H Q ->
  vb3 (vb2 X.prog X.w) X.A (call f us) (EP X pins σ Q) X.xe s
def tOp (r:R2) (ta tb:TE):TE:=λ σ H Q=>ta σ H λ x H1=>tb σ H1 λ y H2=>r x y H2 Q
def tUn (r:V->Hp->VK->Prop) (ta:TE):TE:=λ σ H Q=>ta σ H λ x H1=>r x H1 Q
def rI (C:Int->Int->Prop) (g:Int->Int->V):R2:=λ x y H Q=>∃ i j,x=.int i/\y=.int j/\C i j/\Q (g i j) H
def rI0 (g:Int->Int->V):R2:=λ x y H Q=>∃ i j,x=.int i/\y=.int j/\Q (g i j) H
def rU (g:Int->V):V->Hp->VK->Prop:=λ x H Q=>∃ i,x=.int i/\Q (g i) H
section
variable {X:Cx}{a b c:Expr}{ta tb tc:TE}{pos:Pos}
theorem binT (ha:PE X a ta) (hb:PE X b tb) {pins:List (Addr×Obj)}{s:va1}{σ:St}{H:Hp}{R:V->V->Hp->Prop} (I:Inv X pins σ H s)
  (h:ta σ H λ x H1=>tb σ H1 λ y H2=>R x y H2) {Q:va0->va1->Prop}{f:va0->va0->Sem va0}
  (hf:∀ v u s2 x y H2,Inv X pins σ H2 s2->RelV x v->RelV y u->R x y H2->vb3 (vb2 X.prog X.w) X.A (f v u) Q X.xe s2):
  vb3 (vb2 X.prog X.w) X.A (eval a X.env) (λ v s₁=>vb3 (vb2 X.prog X.w) X.A (eval b X.env) (λ u s₂=>vb3 (vb2 X.prog X.w) X.A (f v u) Q X.xe s₂) X.xe s₁) X.xe s:=by
 refine thn (ha pins s σ H _ I h) λ v s1 ⟨x,H1,I1,r1,q1⟩=>?_
 refine thn (hb pins s1 σ H1 _ I1 q1) λ u s2 ⟨y,H2,I2,r2,q2⟩=>?_
 exact hf v u s2 x y H2 I2 r1 r2 q2
theorem qkt {op:Operator}{r:R2} (ho:OpR X (vd3 op) r) (ha:PE X a ta) (hb:PE X b tb):PE X (.BinOp a op b pos) (tOp r ta tb):=by
 intro pins s σ H Q I h
 exact wpAny_BinOp (binT ha hb I h λ v u s2 x y H2 I2 rx ry q=>ho pins s2 σ H2 x y v u Q I2 rx ry q)
theorem qn2 {op:UnaryOp}{r:V->Hp->VK->Prop} (ho:UnR X (unaryOp op) r) (ha:PE X a ta):PE X (.UnaryOp op a pos) (tUn r ta):=by
 intro pins s σ H Q I h
 exact UnaryOp_ (thn (ha pins s σ H _ I h) λ v s1 ⟨x,H1,I1,r1,q1⟩=>ho pins s1 σ H1 x v Q I1 r1 q1)
theorem opI {f:va0->va0->Sem va0}{C:Int->Int->Prop}{g:Int->Int->Int}
  (rule:∀ (i j:Int) (t u:Tok) (s:va1) (Q:va0->va1->Prop) (E:va0->va1->Prop),C i j->Q (.int (g i j) s.toks) { s with toks:=s.toks + 1 }->vb3 (vb2 X.prog X.w) X.A (f (.int i t) (.int j u)) Q E s):
  OpR X f (rI C λ i j=>.int (g i j)):=by
 intro pins s σ H x y v u Q I rx ry h
 obtain ⟨i,j,rfl,rfl,hc,q⟩:=h
 obtain ⟨t,rfl⟩:=rx
 obtain ⟨t',rfl⟩:=ry
 exact rule i j t t' s _ _ hc ⟨.int (g i j),H,I.tok _,⟨_,rfl⟩,q⟩
theorem opI0 {f:va0->va0->Sem va0}{g:Int->Int->Int}
  (rule:∀ (i j:Int) (t u:Tok) (s:va1) (Q:va0->va1->Prop) (E:va0->va1->Prop),Q (.int (g i j) s.toks) { s with toks:=s.toks + 1 }->vb3 (vb2 X.prog X.w) X.A (f (.int i t) (.int j u)) Q E s):
  OpR X f (rI0 λ i j=>.int (g i j)):=by
 intro pins s σ H x y v u Q I rx ry h
 obtain ⟨i,j,rfl,rfl,q⟩:=h
 obtain ⟨t,rfl⟩:=rx
 obtain ⟨t',rfl⟩:=ry
 exact rule i j t t' s _ _ ⟨.int (g i j),H,I.tok _,⟨_,rfl⟩,q⟩
theorem opB0 {f:va0->va0->Sem va0}{g:Int->Int->Bool}
  (rule:∀ (i j:Int) (t u:Tok) (s:va1) (Q:va0->va1->Prop) (E:va0->va1->Prop),Q (.bool (g i j)) s->vb3 (vb2 X.prog X.w) X.A (f (.int i t) (.int j u)) Q E s):
  OpR X f (rI0 λ i j=>.bl (g i j)):=by
 intro pins s σ H x y v u Q I rx ry h
 obtain ⟨i,j,rfl,rfl,q⟩:=h
 obtain ⟨t,rfl⟩:=rx
 obtain ⟨t',rfl⟩:=ry
 exact rule i j t t' s _ _ ⟨.bl (g i j),H,I,rfl,q⟩
def CPow (i j:Int):Prop:=0<=j/\j<=1000000/\i.natAbs < 2 ^ 64
def CMul (i j:Int):Prop:=(-(2 ^ 64) < i/\i < 2 ^ 64)\/(-(2 ^ 64) < j/\j < 2 ^ 64)
theorem CMul.ok {i j:Int} (h:CMul i j):IntMulOk i j:=by
 rcases h with ⟨h1,h2⟩ | ⟨h1,h2⟩
 ·exact .of_left (intBits_le_64 h1 h2)
 ·exact .of_right (intBits_le_64 h1 h2)
theorem qoj:OpR X (vd3 .Add) (rI0 λ i j=>.int (i + j)):=opI0 λ _ _ _ _ _ _ _ q=>add_int q
theorem qob:OpR X (vd3 .Mult) (rI CMul λ i j=>.int (i * j)):=opI λ _ _ _ _ _ _ _ hc q=>mul_int q hc.ok
theorem qoc:OpR X (vd3 .Mod) (rI (λ _ j=>0 < j) λ i j=>.int (i % j)):=opI λ i j _ _ _ _ _ hc q=>by
 have h1:(0:Int) < j:=hc
 exact mod_int' (by omega) (by rw [Int.fmod_eq_emod_of_nonneg i (by omega)];exact q)
theorem qn9:OpR X (vd3 .Pow) (rI CPow λ i j=>.int (i ^ j.toNat)):=opI λ _ _ _ _ _ _ _ hc q=>pow_int_small hc.1 hc.2.1 hc.2.2 q
theorem unI {f:va0->Sem va0}{g:Int->Int}
  (rule:∀ (i:Int) (t:Tok) (s:va1) (Q:va0->va1->Prop) (E:va0->va1->Prop),Q (.int (g i) s.toks) { s with toks:=s.toks + 1 }->vb3 (vb2 X.prog X.w) X.A (f (.int i t)) Q E s):
  UnR X f (rU λ i=>.int (g i)):=by
 intro pins s σ H x v Q I rx h
 obtain ⟨i,rfl,q⟩:=h
 obtain ⟨t,rfl⟩:=rx
 exact rule i t s _ _ ⟨.int (g i),H,I.tok _,⟨_,rfl⟩,q⟩
theorem qis:UnR X (unaryOp .USub) (rU λ i=>.int (-i)):=unI λ _ _ _ _ _ q=>neg_int q
end
def scal:V->V->Bool
 | .non,.non=>true | .non,.int _=>true | .int _,.non=>true | .non,.bl _=>true | .bl _,.non=>true | .non,.str _=>true | .str _,.non=>true
 | .int _,.int _=>true | .bl _,.bl _=>true | .str _,.str _=>true | .byt _,.byt _=>true
 | .int _,.str _=>true | .str _,.int _=>true | .bl _,.str _=>true | .str _,.bl _=>true
 | _,_=>false
def rEq:R2:=λ x y H Q=>scal x y=true/\Q (.bl (decide (x=y))) H
theorem qfz {i j:Int}:decide (V.int i=V.int j)=(i == j):=by
 rw [jf0]
 simp
theorem qpf {i j:Bool}:decide (V.bl i=V.bl j)=(i == j):=by
 rw [jf0]
 simp
theorem ql0 {i j:Str}:decide (V.str i=V.str j)=(i == j):=by
 rw [jf0]
 simp
theorem ql1 {i j:Array UInt8}:decide (V.byt i=V.byt j)=(i.toList == j.toList):=by
 rw [jf0]
 cases i
 cases j
 simp
section
variable {X:Cx}{a b c:Expr}{ta tb tc:TE}{pos:Pos}
theorem zzo {pins:List (Addr×Obj)}{σ:St}{H:Hp}{s:va1}{Q:VK}{k k':Bool} (I:Inv X pins σ H s) (q:Q (.bl k) H) (e:k=k'):EP X pins σ Q (.bool k') s:=by
 subst e
 exact ⟨.bl k,H,I,rfl,q⟩
theorem qpz:OpR X (vc2 .Eq) rEq:=by
 intro pins s σ H x y v u Q I rx ry h
 obtain ⟨hs,q⟩:=h
 cases x with
 | non=>
  cases rx
  cases y with
  | non=>cases ry;exact PySem.EqNone.eq_none_none (zzo I q (by simp))
  | bl j=>cases ry;exact PySem.EqNone.eq_none_bool (zzo I q (by simp))
  | int j=>obtain ⟨t',rfl⟩:=ry;exact PySem.EqNone.eq_none_int (zzo I q (by simp))
  | str j=>obtain ⟨t',rfl⟩:=ry;exact PySem.EqNone.eq_none_str (zzo I q (by simp))
  | _=>exact absurd (show false=true from hs) jc6
 | bl i=>
  cases rx
  cases y with
  | non=>cases ry;exact PySem.EqNone.eq_bool_none (zzo I q (by simp))
  | bl j=>cases ry;exact eq_bool (zzo I q qpf)
  | str j=>obtain ⟨t',rfl⟩:=ry;exact PySem.EqMixed.eq_bool_str (zzo I q (by simp))
  | _=>exact absurd (show false=true from hs) jc6
 | int i=>
  obtain ⟨t,rfl⟩:=rx
  cases y with
  | non=>cases ry;exact PySem.EqNone.eq_int_none (zzo I q (by simp))
  | int j=>obtain ⟨t',rfl⟩:=ry;exact eq_int (zzo I q qfz)
  | str j=>obtain ⟨t',rfl⟩:=ry;exact PySem.EqMixed.eq_int_str (zzo I q (by simp))
  | _=>exact absurd (show false=true from hs) jc6
 | str i=>
  obtain ⟨t,rfl⟩:=rx
  cases y with
  | non=>cases ry;exact PySem.EqNone.eq_str_none (zzo I q (by simp))
  | bl j=>cases ry;exact PySem.EqMixed.eq_str_bool (zzo I q (by simp))
  | int j=>obtain ⟨t',rfl⟩:=ry;exact PySem.EqMixed.eq_str_int (zzo I q (by simp))
  | str j=>obtain ⟨t',rfl⟩:=ry;exact eq_str (zzo I q ql0)
  | _=>exact absurd (show false=true from hs) jc6
 | byt i=>
  obtain ⟨t,rfl⟩:=rx
  cases y with
  | byt j=>obtain ⟨t',rfl⟩:=ry;exact PySem.W.eq_bytes (zzo I q ql1)
  | _=>exact absurd (show false=true from hs) jc6
 | _=>cases y <;> exact absurd (show false=true from hs) jc6
theorem qod:OpR X (vc2 .Lt) (rI0 λ i j=>.bl (decide (i < j))):=opB0 λ _ _ _ _ _ _ _ q=>lt_int q
theorem qoe:OpR X (vc2 .LtE) (rI0 λ i j=>.bl (decide (i<=j))):=opB0 λ _ _ _ _ _ _ _ q=>le_int q
theorem qof:OpR X (vc2 .Gt) (rI0 λ i j=>.bl (decide (j < i))):=opB0 λ _ _ _ _ _ _ _ q=>gt_int q
theorem qog:OpR X (vc2 .GtE) (rI0 λ i j=>.bl (decide (j<=i))):=opB0 λ _ _ _ _ _ _ _ q=>ge_int q
theorem OpR.or {f:va0->va0->Sem va0}{r r':R2} (h:OpR X f r) (h':OpR X f r'):OpR X f (λ x y H Q=>r x y H Q\/r' x y H Q):=by
 intro pins s σ H x y v u Q I rx ry q
 rcases q with q | q
 ·exact h pins s σ H x y v u Q I rx ry q
 ·exact h' pins s σ H x y v u Q I rx ry q
theorem qkw {op:vk0}{r:R2} (ho:OpR X (vc2 op) r) (ha:PE X a ta) (hb:PE X b tb) (hm:vf8 op b=false):PE X (.Compare a [op] [b] pos) (tOp r ta tb):=by
 intro pins s σ H Q I h
 exact wpAny_Compare1 (binT ha hb I h λ v u s2 x y H2 I2 rx ry q=>ho pins s2 σ H2 x y v u Q I2 rx ry q) hm
def qmj (t:TE):TT:=λ σ H Q=>t σ H λ x H'=>∃ k,x=.bl k/\Q k H'
theorem qko {op:vk0}{r:R2} (ho:OpR X (vc2 op) r) (ha:PE X a ta) (hb:PE X b tb) (hm:vf8 op b=false):PT X (.Compare a [op] [b] pos) (qmj (tOp r ta tb)):=by
 intro pins s σ H Q I h
 refine wpAny_isTrue_Compare1 (thn (ha pins s σ H _ I h) λ v s1 ⟨x,H1,I1,r1,q1⟩=>thn (hb pins s1 σ H1 _ I1 q1) λ u s2 ⟨y,H2,I2,r2,q2⟩=>
  thn (ho pins s2 σ H2 x y v u _ I2 r1 r2 q2) λ c s3 ⟨z,H3,I3,r3,k,e,q3⟩=>?_) hm
 subst e
 cases r3
 exact vc0 ⟨H3,I3,q3⟩
def qd2 (r r':R2) (ta tb tc:TE):TE:=λ σ H Q=>ta σ H λ x H1=>tb σ H1 λ y H2=>r x y H2 λ z H3=>∃ k,z=.bl k /\
 (if k=true then tc σ H3 λ w' H4=>r' y w' H4 Q else Q (.bl false) H3)
theorem qhk {op op':vk0}{r r':R2} (ho:OpR X (vc2 op) r) (ho':OpR X (vc2 op') r') (ha:PE X a ta) (hb:PE X b tb) (hc:PE X c tc)
  (hm:lastMarks [op,op'] [b,c]=false:=by with_unfolding_all rfl):PE X (.Compare a [op,op'] [b,c] pos) (qd2 r r' ta tb tc):=by
 intro pins s σ H Q I h
 refine Compare_chain (thn (ha pins s σ H _ I h) λ v s1 ⟨x,H1,I1,r1,q1⟩=>chain_link (thn (hb pins s1 σ H1 _ I1 q1) λ u s2 ⟨y,H2,I2,r2,q2⟩=>
  thn (ho pins s2 σ H2 x y v u _ I2 r1 r2 q2) λ d s3 ⟨z,H3,I3,r3,k,e,q3⟩=>?_)) hm
 subst e
 cases r3
 refine vc0 ?_
 cases k with
 | false=>exact ite_ff ⟨.bl false,H3,I3,rfl,q3⟩
 | true=>exact ite_tt (chain_last (thn (hc pins s3 σ H3 _ I3 q3) λ w' s4 ⟨z',H4,I4,r4,q4⟩=>ho' pins s4 σ H4 y z' u w' Q I4 r2 r4 q4))
theorem qhe {op op':vk0}{r r':R2} (ho:OpR X (vc2 op) r) (ho':OpR X (vc2 op') r') (ha:PE X a ta) (hb:PE X b tb) (hc:PE X c tc)
  (hm:lastMarks [op,op'] [b,c]=false:=by with_unfolding_all rfl):PT X (.Compare a [op,op'] [b,c] pos) (qmj (qd2 r r' ta tb tc)):=by
 intro pins s σ H Q I h
 refine isTrue_chain (thn (ha pins s σ H _ I h) λ v s1 ⟨x,H1,I1,r1,q1⟩=>test_link (thn (hb pins s1 σ H1 _ I1 q1) λ u s2 ⟨y,H2,I2,r2,q2⟩=>
  thn (ho pins s2 σ H2 x y v u _ I2 r1 r2 q2) λ d s3 ⟨z,H3,I3,r3,k,e,q3⟩=>?_)) hm
 subst e
 cases r3
 refine vc0 ?_
 cases k with
 | false=>
  obtain ⟨k',e',q'⟩:=q3
  cases e'
  exact ite_ff ⟨H3,I3,q'⟩
 | true=>
  refine ite_tt (test_last (thn (hc pins s3 σ H3 _ I3 q3) λ w' s4 ⟨z',H4,I4,r4,q4⟩=>thn (ho' pins s4 σ H4 y z' u w' _ I4 r2 r4 q4) λ d' s5 ⟨z2,H5,I5,r5,k2,e2,q5⟩=>?_))
  subst e2
  cases r5
  exact vc0 ⟨H5,I5,q5⟩
theorem zme:(va2:Nat) < 2 ^ 63:=by rw [sizeLine_eq];decide
theorem qc3:OpR X (vd3 .Add) (λ x y H Q=>∃ i j,x=.str i/\y=.str j/\i.length + j.length<=va2/\Q (.str (i++j)) H):=by
 intro pins s σ H x y v u Q I rx ry h
 obtain ⟨i,j,rfl,rfl,hz,q⟩:=h
 obtain ⟨t,rfl⟩:=rx
 obtain ⟨t',rfl⟩:=ry
 exact add_str (λ t' tk=>⟨.str (i++j),H,I.tok _,⟨_,rfl⟩,q⟩) hz
theorem zjq {x:V}{us:List va0} (r:Vals [x] us):∃ u,us=[u]/\RelV x u:=by
 cases r with
 | cons r1 r2=>cases r2;exact ⟨_,rfl,r1⟩
theorem qdj {x y:V}{us:List va0} (r:Vals [x,y] us):∃ u w',us=[u,w']/\RelV x u/\RelV y w':=by
 cases r with
 | cons r1 r2=>
  cases r2 with
  | cons r3 r4=>cases r4;exact ⟨_,_,rfl,r1,r3⟩
theorem qgj (hc:X.calm=true):zzr X (.builtin "max") (λ xs H Q=>∃ i j,xs=[.int i,.int j]/\Q (.int (if j > i then j else i)) H):=by
 intro pins s σ H xs us Q I r h
 obtain ⟨i,j,rfl,q⟩:=h
 obtain ⟨u,w',rfl,⟨t,rfl⟩,⟨t',rfl⟩⟩:=qdj r
 refine max_two_ints (I.ok.hd hc) λ h' tk k=>⟨_,H,I.kept k,?_,q⟩
 by_cases hj:j > i
 ·rw [if_pos hj,if_pos hj];exact ⟨_,rfl⟩
 ·rw [if_neg hj,if_neg hj];exact ⟨_,rfl⟩
theorem qgh (hc:X.calm=true):zzr X (.builtin "min") (λ xs H Q=>∃ i j,xs=[.int i,.int j]/\Q (.int (if j < i then j else i)) H):=by
 intro pins s σ H xs us Q I r h
 obtain ⟨i,j,rfl,q⟩:=h
 obtain ⟨u,w',rfl,⟨t,rfl⟩,⟨t',rfl⟩⟩:=qdj r
 refine min_two_ints (I.ok.hd hc) λ h' tk k=>⟨_,H,I.kept k,?_,q⟩
 by_cases hj:j < i
 ·rw [if_pos hj,if_pos hj];exact ⟨_,rfl⟩
 ·rw [if_neg hj,if_neg hj];exact ⟨_,rfl⟩
theorem qgl:zzr X (.type "int") (λ xs H Q=>(∃ i,xs=[.int i]/\Q (.int i) H)\/∃ k,xs=[.bl k]/\Q (.int (if k then 1 else 0)) H):=by
 intro pins s σ H xs us Q I r h
 rcases h with ⟨i,rfl,q⟩ | ⟨k,rfl,q⟩
 ·obtain ⟨u,rfl,t,rfl⟩:=zjq r
  exact call_int_int ⟨.int i,H,I,⟨_,rfl⟩,q⟩
 ·obtain ⟨u,rfl,r1⟩:=zjq r
  cases r1
  exact call_int_bool ⟨.int (if k then 1 else 0),H,I.tok _,⟨_,rfl⟩,q⟩
end
structure ObjM (h:Heap) (x dx C:Addr) (mA:Str->Option va0):Prop where
 obj:h.get? x=some (vj1 C dx)
 ns:h.Ns1 dx mA
 ne:dx≠x
theorem qe9 {h:Heap}{dx:Addr}{mA:Str->Option va0} (n:h.Ns1 dx mA):∃ od,h.get? dx=some od/\∀ name,vj8 name od=some (mA name):=by
 obtain ⟨o,es,ep,ho,hd,hk,_,hm⟩:=n
 refine ⟨o,ho,λ name=>?_⟩
 have e:=hm name
 unfold nsFind findBy at e
 rw [<- Array.find?_toList] at e
 unfold vj8
 rw [hd]
 dsimp only
 split
 ·rename_i y q
  rw [q] at e
  exact congrArg some e
 ·rename_i q
  rw [q] at e
  have a:es.toList.any (·.refKey)=false:=by
   rw [List.any_eq_false]
   intro y hy
   obtain ⟨z,t,hkey⟩:=hk y (Array.mem_toList_iff.mp hy)
   simp [DictEntry.refKey,hkey]
  have a':¬ es.toList.any (·.refKey)=true:=by rw [a];exact jc6
  rw [if_neg a']
  exact congrArg some e
theorem ObjM.look {h:Heap}{x dx C:Addr}{mA:Str->Option va0} (I:ObjM h x dx C mA):∃ od,PySem.W.InstAt h x (vj1 C dx) C (some od)/\∀ name,vj8 name od=some (mA name):=
 let ⟨od,ho,hl⟩:=qe9 I.ns
 ⟨od,⟨I.obj,rfl,rfl,ho⟩,hl⟩
section
variable {prog:va8}{w:vb6}{A:vb8}{E:va0->va1->Prop}{s:va1}{K:va6}{x dx C f:Addr}{mA:Str->Option va0}{name:Str}{v:va0}
end
section
variable {P:va8}{w:vb6}{H H':Hp}{h h':Heap}{a C dx:Addr}{fs fs':List (Str×V)}
theorem qlk (hok:HOk P w H h) (e:H a=some (.ins C dx fs)):∃ mA,ObjM h a dx C mA/\(∀ f,RelO (fs.lookup f) (mA f))/\PySem.Within mA (fs.map (·.1))/\fs.length<=1000/\H dx=some (.own a):=by
 obtain ⟨d,z,ne,ob,mA,n,r,q⟩:=(show zwz P w H h a (.ins C dx fs) from hok a _ e)
 exact ⟨mA,⟨ob,n,ne⟩,r,q,z,d⟩
end
structure Cls (K:va6) (C:Addr):Prop where
 pg:PySem.W.plainGet K C Str.empty=true
 hd:PySem.W.hasDictIn K C=true
 po:PySem.W.plainOver K C=true
 sa:vb4 K (.ref C) "__setattr__" = some (some (.builtin "object.__setattr__"))
theorem Cls.get {K:va6}{C:Addr} (c:Cls K C) (f:Str):PySem.W.plainGet K C f=true:=c.pg
structure Con (K:va6) (C:Addr) (f:Str) (v:V) (u:va0):Prop where
 at_:vb4 K (.ref C) f=some (some u)
 rel:RelV v u
 get:PySem.W.specialIn K u "__get__" = some none
 cp:PySem.W.copiedNames.contains f=false
structure Meth (K:va6) (C:Addr) (m:Str) (f:Addr):Prop where
 at_:vb4 K (.ref C) m=some (some (.ref f))
 fn:PySem.W.isFn K (.ref f)=true
 kp:vd2 K (.ref f)=true
section
variable {X:Cx}{pins:List (Addr×Obj)}{σ:St}{H:Hp}{s:va1}{a C dx:Addr}{fs:List (Str×V)}{f:Str}{v:V}{A:vb8}{E:va0->va1->Prop}
end
section
variable {X:Cx}{o e value:Expr}{f:Str}{pos pos' tpos:Pos}{ta tv:TE}
end
section
variable {X:Cx}{pins:List (Addr×Obj)}{σ:St}{H:Hp}{s:va1}{A:vb8}{E:va0->va1->Prop}{Q:va0->va1->Prop}{c:va0}{b:Bool}
inductive TyOf (K:va6) (H:Hp):V->va0->Prop where
 | non:TyOf K H .non (.type "NoneType")
 | bl (x:Bool):TyOf K H (.bl x) (.type "bool")
 | int (i:Int):TyOf K H (.int i) (.type "int")
 | str (x:Str):TyOf K H (.str x) (.type "str")
 | flt (x:UInt64):TyOf K H (.flt x) (.type "float")
 | lst {a:Addr}{xs:List V} (e:H a=some (.lst xs)):TyOf K H (.ref a) (.type "list")
 | frz {a:Addr}{o:Obj}{xs:List V} (e:H a=some (.frz o (.lst xs))):TyOf K H (.ref a) (.type "list")
 | tup {a:Addr}{xs:List V} (e:H a=some (.tup xs)):TyOf K H (.ref a) (.type "tuple")
 | dK {a:Addr}{kvs:List (Key×V)} (e:H a=some (.dK kvs)):TyOf K H (.ref a) (.type "dict")
 | dT {a:Addr}{kvs:List (List Key×V)} (e:H a=some (.dT kvs)):TyOf K H (.ref a) (.type "dict")
 | ins {a C dx:Addr}{fs:List (Str×V)} (e:H a=some (.ins C dx fs)) (cl:Cls K C) (ha:vb4 K (.ref C) "__class__" = some (some (.builtin "object.__class__")))
   (hn:PySem.W.specialIn K (.builtin "object.__class__") "__get__" = some (some (.builtin "getset_descriptor.__get__"))) (htk:PySem.W.takesIn K (.builtin "object.__class__")=some true)
   (hm:vc7 K C (.type "object")=some true):TyOf K H (.ref a) (.ref C)
theorem qfg {x:V}{u t:va0} (I:Inv X pins σ H s) (rx:RelV x u) (ty:TyOf X.K H x t) (e:vb7 X.K t c=some b) (h:∀ tk,Q (.bool b) { s with toks:=tk }):
  vb3 (vb2 X.prog X.w) A (call (.builtin "isinstance") [u,c]) Q E s:=by
 cases ty with
 | non=>cases (show u=Value.none from rx);exact vb5 vh6 I.kIn True.intro e (λ z=>nomatch z) h
 | bl y=>cases (show u=Value.bool y from rx);exact vb5 PySem.W.kitx_bool I.kIn True.intro e (λ z=>nomatch z) h
 | int i=>obtain ⟨t,q⟩:=(show ∃ t,u=Value.int i t from rx);cases q;exact vb5 PySem.W.kitx_int I.kIn True.intro e (λ z=>nomatch z) h
 | str y=>obtain ⟨t,q⟩:=(show ∃ t,u=Value.str y t from rx);cases q;exact vb5 PySem.W.kitx_str I.kIn True.intro e (λ z=>nomatch z) h
 | flt y=>obtain ⟨t,q⟩:=(show ∃ t,u=Value.float y t from rx);cases q;exact vb5 PySem.W.kitx_float I.kIn True.intro e (λ z=>nomatch z) h
 | @lst a xs ea=>
  cases (show u=Value.ref a from rx)
  obtain ⟨_,_,n,_,h1⟩:=(show zwz X.prog X.w H s.heap a (.lst xs) from I.hok a _ ea)
  exact vb5 PySem.W.kitx_list I.kIn ⟨_,h1,rfl⟩ e (λ z=>nomatch z) h
 | @frz a ob xs ea=>
  cases (show u=Value.ref a from rx)
  obtain ⟨_,_,_,n,_,h1⟩:=(show zwz X.prog X.w H s.heap a (.frz ob (.lst xs)) from I.hok a _ ea)
  exact vb5 PySem.W.kitx_list I.kIn ⟨_,h1,rfl⟩ e (λ z=>nomatch z) h
 | @tup a xs ea=>
  cases (show u=Value.ref a from rx)
  obtain ⟨_,_,_,p⟩:=(show zwz X.prog X.w H s.heap a (.tup xs) from I.hok a _ ea)
  obtain ⟨o,h1,h2,_⟩:=p
  exact vb5 PySem.W.kitx_tuple I.kIn ⟨o,h1,h2⟩ e (λ z=>nomatch z) h
 | @dK a kvs ea=>
  cases (show u=Value.ref a from rx)
  obtain ⟨_,_,vs,_,p⟩:=(show zwz X.prog X.w H s.heap a (.dK kvs) from I.hok a _ ea)
  obtain ⟨o,es,ep,h1,h2,_⟩:=p
  exact vb5 PySem.W.kitx_dict I.kIn ⟨o,h1,h2.1⟩ e (λ z=>nomatch z) h
 | @dT a kvs ea=>
  cases (show u=Value.ref a from rx)
  obtain ⟨_,_,xs,_,o,es,ep,h1,h2,_⟩:=(show zwz X.prog X.w H s.heap a (.dT kvs) from I.hok a _ ea)
  exact vb5 PySem.W.kitx_dict I.kIn ⟨o,h1,h2.1⟩ e (λ z=>nomatch z) h
 | @ins a C dx fs ea cl ha hn htk hm=>
  cases (show u=Value.ref a from rx)
  obtain ⟨mA,O,_⟩:=qlk I.hok ea
  obtain ⟨od,J,_⟩:=O.look
  exact vb5 (PySem.W.kitx_own (cl.get _) cl.hd ha hn htk hm) I.kIn J e (λ z=>nomatch z) h
end
structure Room (k:Nat) (A:vb8):Prop where
 hd:A.handled=none
 dp:A.depth + 3 * k + 5 < recursionLimit
 un:A.units + 16 * k + 200 < vg9
 gd:A.guards=some []
theorem Room.mono {j k:Nat}{A:vb8} (r:Room k A) (h:j<=k):Room j A:=⟨r.hd,by have:=r.dp;omega,by have:=r.un;omega,r.gd⟩
theorem Room.deeper {k:Nat}{A:vb8} (r:Room (k + 1) A) (env:Env):Room k (A.deeper env):=
 ⟨r.hd,by have:=r.dp;show A.depth + 1 + 3 * k + 5 < _;omega,by have:=r.un;show A.units + 3 + 16 * k + 200 < _;omega,r.gd⟩
theorem Room.depth {k:Nat}{A:vb8} (r:Room k A):A.depth < recursionLimit:=by have:=r.dp;omega
theorem Room.units {k:Nat}{A:vb8} (r:Room k A):A.units + 64 < vg9:=by have:=r.un;omega
def tNil:TA:=λ _ H Q=>Q [] H
def qcv (ta:TE) (tr:TA):TA:=λ σ H Q=>ta σ H λ x H1=>tr σ H1 λ xs H2=>Q (x::xs) H2
section
variable {X:Cx}{e:Expr}{es:List Expr}{te:TE}{t:TA}{pos:Pos}
theorem zyl:PA X [] tNil:=λ _ _ _ _ H Q I h=>Calls.spliced_nil ⟨[],H,I,.nil,h⟩
theorem zwj (ha:PE X e te) (hr:PA X es t) (hs:va4 (e::es) X.env=(false,eval e X.env)::va4 es X.env:=by rfl):PA X (e::es) (qcv te t):=by
 intro pos pins s σ H Q I h
 rw [hs]
 show vb3 _ _ (spliced ((false,eval e X.env)::vd4 pos (va4 es X.env))) _ _ s
 refine Calls.spliced_cons (thn (ha pins s σ H _ I h) λ u s1 ⟨x,H1,I1,r1,q1⟩=>?_)
 exact thn (hr pos pins s1 σ H1 _ I1 q1) λ us s2 ⟨xs,H2,I2,r2,q2⟩=>⟨x::xs,H2,I2,.cons r1 r2,q2⟩
def tTup (t:TA):TE:=λ σ H Q=>t σ H λ xs H1=>xs.length<=va2/\∀ p,H1 p=none->Q (.ref p) (upd H1 p (.tup xs))
def tLst (t:TA):TE:=λ σ H Q=>t σ H λ xs H1=>xs.length<=va2/\∀ p,H1 p=none->Q (.ref p) (upd H1 p (.lst xs))
theorem qi2 {x1} (h:PA X es t):PE X (.Tuple es x1 pos) (tTup t):=by
 intro pins s σ H Q I hq
 refine wpAny_Tuple_spliced (thn (h pos pins s σ H _ I hq) λ us s1 ⟨xs,H1,I1,r,z,q⟩=>⟨by rw [<- r.length];exact z,?_⟩)
 have hf:H1 s1.heap.objs.size=none:=I1.hok.fresh (jb8 _)
 refine ⟨.ref s1.heap.objs.size,upd H1 s1.heap.objs.size (.tup xs),I1.laid (t':=s1.toks) (λ b u e=>va5 _ e) (jb8 _) ?_,rfl,q _ hf⟩
 exact ⟨z,us,r,⟨_,vb0 _ rfl,rfl,_,rfl⟩⟩
theorem qn5 (h:PA X es t):PE X (.List es pos) (tLst t):=by
 intro pins s σ H Q I hq
 refine wpAny_List_spliced (thn (h pos pins s σ H _ I hq) λ us s1 ⟨xs,H1,I1,r,z,q⟩=>⟨by rw [<- r.length];exact z,?_⟩)
 have hf:H1 s1.heap.objs.size=none:=I1.hok.fresh (jb8 _)
 refine ⟨.ref s1.heap.objs.size,upd H1 s1.heap.objs.size (.lst xs),I1.laid (t':=s1.toks) (λ b u e=>va5 _ e) (jb8 _) ?_,rfl,q _ hf⟩
 exact ⟨z,us,0,r,vb0 _ rfl⟩
end
abbrev Sp:=List V->Hp->VK->XK->Prop
abbrev CXT:=List Env->Hp->va1->XK->va0->va1->Prop
structure Env0 (P:va8) (w:vb6) (K:va6) (mg:Str->Option va0) (base:Heap) (A:vb8) (outer:List Env) (s:va1) (H:Hp):Prop where
 frames:A.frames=some outer
 mod:Mod K mg base
 bs:∀ b o,base.get? b=some o->s.heap.get? b=some o/\H b=none
 bsz:base.objs.size<=s.heap.objs.size
 funs:s.heap.FunFrames base outer
 frf:∀ b∈frs outer,H b=none
 hok:HOk P w H s.heap
 bare:vf5 s.gens
def CE (outer:List Env) (P:va8) (w:vb6) (H:Hp) (s:va1) (Q:VK) (u:va0) (s':va1):Prop:=
 ∃ v H',s'.os=s.os/\vf5 s'.gens/\Un (frs outer) [] H H' s.heap s'.heap/\HOk P w H' s'.heap/\RelV v u/\Q v H'
def CR (CX:CXT) (outer:List Env) (P:va8) (w:vb6) (H:Hp) (s:va1) (Q:VK) (E:XK) (r:Result) (s':va1):Prop:=
 match r with
 | .ok (.ret u)=>CE outer P w H s Q u s'
 | .ok _=>False
 | .error e=>CX outer H s E e s'
structure FnOk (P:va8) (w:vb6) (K:va6) (mg:Str->Option va0) (base:Heap) (CX:CXT) (k:Nat) (f:Addr) (fd:vc4) (ps:List Str) (sp:Sp):Prop where
 len:∀ vs H Q E,sp vs H Q E->vs.length=ps.length
 run:∀ (A:vb8) (outer:List Env) (s:va1) (H:Hp) (args:Args) (us:List va0) (vs:List V) (Q:VK) (E:XK),Room k A->Env0 P w K mg base A outer s H->BindsTo s fd args (ps.zip us)->Vals vs us->sp vs H Q E ->
  vh4 (vb2 P w) A (.call (.ref f) args) (CR CX outer P w H s Q E) s
theorem FnOk.mono {P:va8}{w:vb6}{K:va6}{mg:Str->Option va0}{base:Heap}{CX:CXT}{j k:Nat}{f:Addr}{fd:vc4}{ps:List Str}{sp:Sp} (F:FnOk P w K mg base CX j f fd ps sp) (h:j<=k):
  FnOk P w K mg base CX k f fd ps sp:=⟨F.len,λ A outer s H args us vs Q E hr=>F.run A outer s H args us vs Q E (hr.mono h)⟩
section
variable {X:Cx}{pins:List (Addr×Obj)}{σ:St}{H:Hp}{s s':va1}
theorem Inv.env0 (I:Inv X pins σ H s):Env0 X.prog X.w X.K X.mg X.base X.A X.stack s H:=
 ⟨I.ok.frames,I.ok.mod,I.bs,jd4 I.ok.bsz I.sz,I.stack,I.stkFree,I.hok,I.bare⟩
theorem Inv.after {Q:VK}{u:va0} (I:Inv X pins σ H s) (h:CE X.stack X.prog X.w H s Q u s'):EP X pins σ Q u s':=by
 obtain ⟨v,H',os,bare,un,hok,r,q⟩:=h
 obtain ⟨hh,g,d,t,os'⟩:=s'
 obtain rfl:os'=s.os:=os
 exact ⟨v,H',I.call (h':=hh) (g':=g) (d':=d) (t':=t) (ch:=[]) un hok bare (λ b z=>absurd z (by simp)),r,q⟩
end
def qm3 (sp:Sp) (dvs:List V) (E:XK) (t:TA):TE:=λ σ H Q=>t σ H λ vs H1=>sp (vs++dvs) H1 Q E
def zpu (K:va6) (fd:vc4) (ps:List Str) (ds:List va0):Prop:=
 ∀ (s:va1) (us:List va0),K.In s.heap->(us++ds).length=ps.length->BindsTo s fd ⟨us,[]⟩ (ps.zip (us++ds))
theorem zpu.all {K:va6}{fd:vc4}{ps:List Str} (h:∀ us:List va0,us.length=ps.length->bindArgs fd ⟨us,[]⟩=pure (ps.zip us)):zpu K fd ps []:=λ s us _ hl=>by
 rw [jh4] at hl ⊢
 exact .of_eq (h us hl)
def qgt (CX:CXT) (X:Cx) (E:XK):Prop:=∀ (pins:List (Addr×Obj)) (σ:St) (H:Hp) (s:va1) (e:va0) (s':va1),Inv X pins σ H s->CX X.stack H s E e s'->X.xe e s'
section
variable {X:Cx}{CX:CXT}{k:Nat}{f C:Addr}{fd:vc4}{ps:List Str}{sp:Sp}{dvs:List V}{ds:List va0}{E:XK}{x m:Str}{p pos apos:Pos}{e o:Expr}{es:List Expr}{ta:TE}{t:TA}
theorem qno {pins:List (Addr×Obj)}{σ:St}{H:Hp}{s:va1}{Q:VK}{us:List va0}{vs:List V} (F:FnOk X.prog X.w X.K X.mg X.base CX k f fd ps sp) (hr:Room k X.A) (hb:zpu X.K fd ps ds) (hd:Vals dvs ds) (hx:qgt CX X E)
  (I:Inv X pins σ H s) (r:Vals vs us) (h:sp (vs++dvs) H Q E):vb3 (vb2 X.prog X.w) X.A (call (.ref f) us) (EP X pins σ Q) X.xe s:=by
 have r2:Vals (vs++dvs) (us++ds):=r.append hd
 have hl:(us++ds).length=ps.length:=by rw [<- r2.length];exact F.len _ _ _ _ h
 refine wpAny_call (vi1 (F.run X.A X.stack s H ⟨us,[]⟩ (us++ds) (vs++dvs) Q E hr I.env0 (hb s us I.kIn hl) r2 h) λ r s' hq=>?_)
 cases r with
 | error e=>exact hx pins σ H s e s' I hq
 | ok fl=>
  cases fl with
  | ret u=>exact I.after hq
  | next=>exact vc6 hq
  | brk=>exact vc6 hq
  | cont=>exact vc6 hq
theorem qkx (F:FnOk X.prog X.w X.K X.mg X.base CX k f fd ps sp) (hr:Room k X.A) (hg:Gl X x) (hm:X.mg x=some (.ref f)) (hk:vd2 X.K (.ref f)=true) (hb:zpu X.K fd ps ds) (hd:Vals dvs ds) (hx:qgt CX X E)
  (ha:PA X (e::es) t) (hdb:(x == ("__debug__" : Str))=false:=by decide) (he:va4 (e::es) X.env=(false,eval e X.env)::va4 es X.env:=by rfl) (hpl:(vd4 pos (va4 es X.env)).any (·.1)=false:=by rfl):
  PE X (.Call (.Name x p) (e::es) [] pos) (qm3 sp dvs E t):=by
 intro pins s σ H Q I h
 refine vf1 (zpc I hg hm ?_ hdb)
 refine PySem.W.callWith_K (h₀:=X.base) I.ok.mod.kin hk (thn (ha pos pins s σ H _ I h) λ us s1 ⟨vs,H1,I1,r,q⟩=>⟨I1.kIn,?_⟩) he hpl
 exact qno F hr hb hd hx I1 r q
structure Mk (K:va6) (C f:Addr):Prop where
 makes:PySem.W.makesIn K C=true
 init:vb4 K (.ref C) "__init__" = some (some (.ref f))
 fn:PySem.W.isFn K (.ref f)=true
 kp:vd2 K (.ref C)=true
end
section
variable {X:Cx}{CX:CXT}{k:Nat}{f C:Addr}{fd:vc4}{ps ks:List Str}{sp:Sp}{E:XK}{x m:Str}{p pos apos kpos:Pos}{e o:Expr}{es:List Expr}{kws:List Keyword}{te ta:TE}{t tk:TA}{nm:Option Str}
structure KBinds (K:va6) (fd:vc4) (ps ks:List Str) (g:List va0->List va0->List va0) (gV:List V->List V->List V):Prop where
 to:∀ (s:va1) (us ws:List va0),K.In s.heap->(g us ws).length=ps.length->BindsTo s fd ⟨us,ks.zip ws⟩ (ps.zip (g us ws))
 rel:∀ {vs:List V}{us:List va0}{zs:List V}{ws:List va0},Vals vs us->Vals zs ws->Vals (gV vs zs) (g us ws)
variable {g:List va0->List va0->List va0}{gV:List V->List V->List V}
end
structure FnScope (N P:List Str) (sc:vd0):Prop where
 kind:sc.kind=.function:=by rfl
 co:sc.isCoroutine=false:=by rfl
 gen:sc.isGenerator=false:=by rfl
 nd:N.Nodup:=by decide +kernel
 pre:N.take P.length=P:=by rfl
 par:∀ x∈P,sc.names.lookup x=some .local\/sc.names.lookup x=some .cell:=by decide +kernel
 nofree:∀ y∈sc.names,y.2≠.free:=by decide +kernel
theorem zhz {kindOf:Str->Option vc8}{x:Str}:∀ {binds:List (Str×va0)}{m:Str->Option va0},(∀ v,(x,v)∉binds)->bindL kindOf binds m x=m x
 | [],_,_=>rfl
 | (n,v)::r,m,h=>by
  unfold bindL
  rw [zhz λ w hw=>h w (ja0 _ hw)]
  split
  ·have:x≠n:=by rintro rfl;exact h v ja3
   simp [this]
  ·rfl
theorem qab {kindOf:Str->Option vc8}{x:Str}:∀ {binds:List (Str×va0)}{m:Str->Option va0},(∀ v,(x,v)∉binds)->bindC kindOf binds m x=m x
 | [],_,_=>rfl
 | (n,v)::r,m,h=>by
  unfold bindC
  rw [qab λ w hw=>h w (ja0 _ hw)]
  split
  ·rfl
  ·have:x≠n:=by rintro rfl;exact h v ja3
   simp [this]
theorem qaa {kindOf:Str->Option vc8}{x:Str}{v:va0}:∀ {P:List Str}{vs:List va0}{i:Nat}{m:Str->Option va0},P.Nodup->P[i]?=some x->vs[i]?=some v->kindOf x=some .local ->
  bindL kindOf (P.zip vs) m x=some v
 | [],_,_,_,_,h,_,_=>by simp at h
 | _::_,[],_,_,_,_,h,_=>by simp at h
 | p::P,w::vs,0,m,nd,h1,h2,hk=>by
  simp at h1 h2;subst h1;subst h2
  show bindL kindOf ((p,w)::P.zip vs) m p=_
  unfold bindL
  rw [zhz λ v hv=>(jk9.mp nd).1 (jg6 hv).1,if_pos hk]
  simp
 | p::P,w::vs,i + 1,m,nd,h1,h2,hk=>by
  show bindL kindOf ((p,w)::P.zip vs) m x=_
  unfold bindL
  exact qaa (i:=i) (jk9.mp nd).2 (by simpa using h1) (by simpa using h2) hk
theorem qac {kindOf:Str->Option vc8}{x:Str}{v:va0}:∀ {P:List Str}{vs:List va0}{i:Nat}{m:Str->Option va0},P.Nodup->P[i]?=some x->vs[i]?=some v->kindOf x≠some .local ->
  bindC kindOf (P.zip vs) m x=some v
 | [],_,_,_,_,h,_,_=>by simp at h
 | _::_,[],_,_,_,_,h,_=>by simp at h
 | p::P,w::vs,0,m,nd,h1,h2,hk=>by
  simp at h1 h2;subst h1;subst h2
  show bindC kindOf ((p,w)::P.zip vs) m p=_
  unfold bindC
  rw [qab λ v hv=>(jk9.mp nd).1 (jg6 hv).1,if_neg hk]
  simp
 | p::P,w::vs,i + 1,m,nd,h1,h2,hk=>by
  show bindC kindOf ((p,w)::P.zip vs) m x=_
  unfold bindC
  exact qac (i:=i) (jk9.mp nd).2 (by simpa using h1) (by simpa using h2) hk
def start (N:List Str) (vs:List V):St:=vs.map some++ja7 (N.length - vs.length) none
def cxOf (CX:CXT) (P:va8) (w:vb6) (K:va6) (mg:Str->Option va0) (base:Heap) (N:List Str) (qual:Str) (scope:vd0) (f:Addr) (cd:va0) (A:vb8) (outer:List Env) (s:va1) (H:Hp) (E:XK):Cx where
 prog:=P
 w:=w
 K:=K
 mg:=mg
 base:=base
 A:=A.deeper (vi8 qual scope s.heap.objs.size f cd)
 N:=N
 s₀:=s
 H₀:=H
 env:=vi8 qual scope s.heap.objs.size f cd
 outer:=outer
 stack:=vi8 qual scope s.heap.objs.size f cd::outer
 ex:=[]
 calm:=true
 fn:=λ _=>true
 pn:=[]
 xe:=λ e s'=>vb3 (vb2 P w) (A.deeper (vi8 qual scope s.heap.objs.size f cd)) (leaving (vi8 qual scope s.heap.objs.size f cd) e) (λ _ s''=>CX outer H s E e s'') (λ e' s''=>CX outer H s E e' s'') s'
theorem qco {sc:vd0}{n:Nat}{x:Str} (h:sc.names.lookup x=some .cell):∃ c,(vb9 n sc.names []).lookup x=some c:=by
 have q:=PySem.W.cellsFrom_some sc.names n [] (.inl h)
 exact ji6.mp q
theorem qfl {CX:CXT}{P:va8}{w:vb6}{K:va6}{mg:Str->Option va0}{base:Heap}{N ps:List Str}{qual:Str}{scope:vd0}{f:Addr}{cd:va0}{A:vb8}{outer:List Env}{s s1:va1}{H:Hp}{E:XK}{us:List va0}{vs:List V}
  (S:FnScope N ps scope) (hd:A.handled=none) (e0:Env0 P w K mg base A outer s H) (hl:vs.length=ps.length) (r:Vals vs us)
  (x:InCallC s s.heap.objs.size (bindL (vi8 qual scope s.heap.objs.size f cd).kindOf (ps.zip us) λ _=>none) (vb9 (s.heap.objs.size + 1) scope.names []) (bindC (vi8 qual scope s.heap.objs.size f cd).kindOf (ps.zip us) λ _=>none) s1):
  Inv (cxOf CX P w K mg base N qual scope f cd A outer s H E) [] (start N vs) H s1:=by
 have hpl:ps.length<=N.length:=by have:=congrArg List.length S.pre;rw [jc7] at this;omega
 obtain ⟨h1,tk,rfl,hk⟩:=x.done
 have noA:∀ b:Addr,b∉(cxOf CX P w K mg base N qual scope f cd A outer s H E).ex:=λ b z=>absurd (show b∈([]:List Addr) from z) (by simp)
 refine ⟨⟨e0.mod,S.kind,rfl,rfl,jb8 _,λ y z c h1 h2=>?_,λ y hy=>?_,λ y c _ h=>?_,λ _=>hd,Around.frames_deeper e0.frames,.inr ⟨rfl,rfl⟩,λ b z=>absurd z (noA b),e0.bs,e0.bsz,λ b _ _=>noA b,λ b z=>absurd z (noA b),e0.funs,e0.frf⟩,
  rfl,e0.bare,Un.kept hk,⟨_,x.toInCall.ns,λ i y v h1 h2 h3=>?_⟩,λ y c h=>⟨_,x.cell y c h⟩,e0.hok.fresh (jb8 _),λ y c h=>?_,λ p hp=>absurd (show p∈([]:List (Addr×Obj)) from hp) (by simp),e0.hok.kept hk,?_⟩
 ·exact name_of_addr x.apart (vd6 h1) (vd6 h2)
 ·have hy:scope.names.lookup y=some .cell\/scope.names.lookup y=some .free:=hy
  rcases hy with hy | hy
  ·exact qco hy
  ·exact absurd rfl (S.nofree _ (vd6 hy))
 ·exact jo3 (x.above y c (vd6 h))
 ·have hi:i < vs.length:=by
   unfold start at h2
   by_cases hi:i < vs.length
   ·exact hi
   ·rw [jc9 (by simpa using hi)] at h2
    rw [je8] at h2
    split at h2 <;> cases h2
  have ha:vs[i]?=some v:=by
   unfold start at h2
   rw [jc2 (by simpa using hi),jd1] at h2
   cases e:vs[i]? with
   | none=>rw [e] at h2;cases h2
   | some a=>rw [e] at h2;cases h2;rfl
  obtain ⟨u,hu,rv⟩:=r.get ha
  have hp:ps[i]?=some y:=by
   rw [<- S.pre,jf7 (by omega)];exact h1
  have ndP:ps.Nodup:=by rw [<- S.pre];exact S.nd.sublist (List.take_sublist _ _)
  refine ⟨u,rv,?_⟩
  rcases S.par y (ji2 hp) with k | k
  ·exact .inl ⟨k,qaa ndP hp hu k⟩
  ·obtain ⟨c,e⟩:=qco (n:=s.heap.objs.size + 1) k
   refine .inr ⟨.inl k,c,e,?_⟩
   have q:=x.cell y c e
   rw [qac ndP hp hu (by show scope.names.lookup y≠_;rw [k];decide)] at q
   exact q
 ·exact e0.hok.fresh (jo3 (x.above y c (vd6 h)))
 ·unfold start
  show _=N.length
  rw [jb1,ja1,jd0]
  omega
theorem qp5 {CX:CXT}{P:va8}{w:vb6}{K:va6}{mg:Str->Option va0}{base:Heap}{k:Nat}{f:Addr}{name qual:Str}{params:Arguments}{body:List Stmt}{scope:vd0}{dV kV doc pm cdv ct oc:va0}{an od:Option Addr}
  {osl:Array (Option va0)}{N ps:List Str}{sp:Sp} (lk:K.lookup f=some ⟨oc,od,.func (vf2 name qual params body scope dV kV doc pm an cdv ct),osl⟩) (hcd:vj9 K cdv qual=true) (S:FnScope N ps scope)
  (len:∀ vs H Q E,sp vs H Q E->vs.length=ps.length)
  (hbody:∀ (A:vb8) (outer:List Env) (s:va1) (H:Hp) (vs:List V) (Q:VK) (E:XK),Room k (A.deeper (vi8 qual scope s.heap.objs.size f cdv))->sp vs H Q E ->
   ∃ t,PSs (cxOf CX P w K mg base N qual scope f cdv A outer s H E) body t/\t { nx:=λ _ H'=>Q .non H',rt:=Q } (start N vs) H):
  FnOk P w K mg base CX (k + 1) f (vf2 name qual params body scope dV kV doc pm an cdv ct) ps sp:=by
 refine ⟨len,λ A outer s H args us vs Q E hr e0 hb r hsp=>?_⟩
 have hl:=len _ _ _ _ hsp
 have KX:K.In s.heap:=e0.mod.kin.keeps λ b o e=>(e0.bs b o e).1
 have lim:s.heap.NoLimit:=e0.mod.nolimit.keeps λ b o e=>(e0.bs b o e).1
 have hkind:∀ y∈ps.zip us,scope.names.lookup y.1=some .local\/(scope.names.lookup y.1=some .cell/\((vb9 (s.heap.objs.size + 1) scope.names []).lookup y.1).isSome=true):=λ ⟨n,v⟩ hy=>by
  rcases S.par n (jg6 hy).1 with q | q
  ·exact .inl q
  ·exact .inr ⟨q,PySem.W.cellsFrom_some _ _ _ (.inl q)⟩
 refine codeAny_call_function hr.depth (KX _ _ lk) rfl S.co S.gen rfl (PySem.W.codeRec_of KX hcd) (hb _ _ _ _ ?_)
 refine wpAny_newFunctionEnv_cells S.kind hkind λ env he s1 x=>?_
 subst he
 refine ⟨lim.keeps x.toInCall.keep,codeAny_func ?_⟩
 obtain ⟨t,ht,hq⟩:=hbody A outer s H vs Q E (hr.deeper _) hsp
 have I:Inv (cxOf CX P w K mg base N qual scope f cdv A outer s H E) [] (start N vs) H s1:=qfl S hr.hd e0 hl r x
 refine vd1 (ht [] s1 (start N vs) H _ I hq) (λ fl s' hs=>?_) λ e s' hs=>hs
 have fin:∀ {σ':St}{H':Hp}{v:V}{u:va0},Inv (cxOf CX P w K mg base N qual scope f cdv A outer s H E) [] σ' H' s'->RelV v u->Q v H'->CE outer P w H s Q u s':=
  λ {σ' H' v u} J rv q=>⟨v,H',J.os,J.bare,J.base,J.hok,rv,q⟩
 cases fl with
 | ret u=>
  obtain ⟨v,σ',H',J,rv,q⟩:=hs
  exact fin J rv q
 | next=>
  obtain ⟨σ',H',J,q⟩:=hs
  exact fin (v:=V.non) (u:=Value.none) J rfl q
 | brk=>
  obtain ⟨_,_,_,q⟩:=hs
  exact vc6 q
 | cont=>
  obtain ⟨_,_,_,q⟩:=hs
  exact vc6 q
section
variable {X:Cx}{x:Str}{p pos:Pos}{e:Expr}{es:List Expr}{t:TA}{id T:String}{r:List V->Hp->VK->Prop}
def tCB (r:List V->Hp->VK->Prop) (t:TA):TE:=λ σ H Q=>t σ H λ vs H1=>r vs H1 Q
theorem zzc (hc:zzr X (.builtin id) r) (hg:Gl X x) (hm:X.mg x=none) (hv:ve5 x=some (.builtin id)) (ha:PA X (e::es) t) (hn:x ≠ "__name__" := by decide) (hdb:(x == ("__debug__" : Str))=false:=by decide)
  (he:va4 (e::es) X.env=(false,eval e X.env)::va4 es X.env:=by rfl) (hpl:(vd4 pos (va4 es X.env)).any (·.1)=false:=by rfl):PE X (.Call (.Name x p) (e::es) [] pos) (tCB r t):=by
 intro pins s σ H Q I h
 refine vf1 (zpd I hg hm hv ?_ hn hdb)
 exact PyProof.Rows.callWith_builtin1 (thn (ha pos pins s σ H _ I h) λ us s1 ⟨vs,H1,I1,r1,q1⟩=>hc pins s1 σ H1 vs us Q I1 r1 q1) he hpl
theorem zyk (hc:zzr X (.type T) r) (hg:Gl X x) (hm:X.mg x=none) (hv:ve5 x=some (.type T)) (ha:PA X (e::es) t) (hn:x ≠ "__name__" := by decide) (hdb:(x == ("__debug__" : Str))=false:=by decide)
  (he:va4 (e::es) X.env=(false,eval e X.env)::va4 es X.env:=by rfl) (hpl:(vd4 pos (va4 es X.env)).any (·.1)=false:=by rfl):PE X (.Call (.Name x p) (e::es) [] pos) (tCB r t):=by
 intro pins s σ H Q I h
 refine vf1 (zpd I hg hm hv ?_ hn hdb)
 exact vc3 (thn (ha pos pins s σ H _ I h) λ us s1 ⟨vs,H1,I1,r1,q1⟩=>hc pins s1 σ H1 vs us Q I1 r1 q1) he hpl
end
end L2
namespace HT
open PySem PyProof.Rows
section
open PySem.SeqAt
open PySem.AutoSeq1 (wpAny_loadPart')
open PySem.MeetsSeq PySem.MeetsSeq2 PySem.MeetsSeq3
end
section
variable {prog:va8}{w:vb6}{A:vb8}{E:va0->va1->Prop}{s:va1}
theorem cat_tup {t b:Addr}{vs ws:List va0}{Q:va0->va1->Prop} (ht:IsTup s.heap t vs.toArray) (hb:IsTup s.heap b ws.toArray) (hv:vs≠[])
  (h1:ws=[]->Q (.ref t) s) (h2:ws≠[]->Q (.ref s.heap.objs.size) { s with heap:=s.heap.push { cls:=.type "tuple",data:=.seq (vs++ws).toArray } })
  (hsz:vs.length + ws.length<=va2):vb3 (vb2 prog w) A (vd3 .Add (.ref t) (.ref b)) Q E s:=by
 obtain ⟨⟨cls,dd,data,sl⟩,ho,hc,n,hd⟩:=id ht
 obtain ⟨⟨cls2,dd2,data2,sl2⟩,ho2,hc2,n2,hd2⟩:=id hb
 simp only at hc hd hc2 hd2
 subst hc hd hc2 hd2
 have e:vs.toArray++ws.toArray=(vs++ws).toArray:=by simp
 by_cases hw:ws=[]
 ·exact concat_meets ⟨_,ho,rfl⟩ ⟨_,ho2,rfl⟩ vi4 seq_tuple_add vg2 vg0 (vf7 _ _)
   (tuple_addW1 t b vs.toArray ws.toArray n n2 dd dd2 sl sl2 (by simpa using hv) (by simp [hw])) ⟨ho,ho2,h1 hw⟩
 ·refine concat_meets ⟨_,ho,rfl⟩ ⟨_,ho2,rfl⟩ vi4 seq_tuple_add vg2 vg0 (vf7 _ _)
   (tuple_addW2 t b vs.toArray ws.toArray n n2 dd dd2 sl sl2 (by simpa using hv) (by simpa using hw) (by rw [jc1,jc1];exact hsz)) ⟨ho,ho2,?_⟩
  rw [e]
  exact h2 hw
def sIx (n d:Nat):Option Int->Nat
 | none=>d
 | some v=>if v < 0 then (v + (n:Int)).toNat else min v.toNat n
theorem sIx_none (n d:Nat):sIx n d none=d:=rfl
theorem sIx_nat (n d k:Nat):sIx n d (some (k:Int))=min k n:=by
 show (if (k:Int) < 0 then ((k:Int) + (n:Int)).toNat else min (k:Int).toNat n)=min k n
 rw [if_neg (by omega),je4]
theorem qnl (n d:Nat) (hd:d<=n) (o:Option Int):sIx n d o<=n:=by
 cases o with
 | none=>exact hd
 | some v=>
  show (if v < 0 then (v + (n:Int)).toNat else min v.toNat n)<=n
  by_cases hv:v < 0
  ·rw [if_pos hv];omega
  ·rw [if_neg hv];exact Nat.min_le_right _ _
theorem qga (v:Int) (n d:Nat):(if v < 0 then max (v + (n:Int)) 0 else min v (n:Int))=((sIx n d (some v):Nat):Int):=by
 show (if v < 0 then max (v + (n:Int)) 0 else min v (n:Int))=(((if v < 0 then (v + (n:Int)).toNat else min v.toNat n):Nat):Int)
 by_cases hv:v < 0
 ·simp only [if_pos hv];omega
 ·simp only [if_neg hv];omega
theorem qdh (lo hi:Option Int) (n:Nat):vf4 lo hi 1 (n:Int)=(((sIx n 0 lo:Nat):Int),((sIx n n hi:Nat):Int)):=by
 have h1:¬ ((1:Int) < 0):=by omega
 unfold vf4
 simp only [h1,if_false]
 refine Prod.ext ?_ ?_
 ·cases lo with
  | none=>rfl
  | some v=>exact qga v n 0
 ·cases hi with
  | none=>rfl
  | some v=>exact qga v n n
theorem qc1 (i j:Nat):vd5 (i:Int) (j:Int) 1=j - i:=by
 unfold vd5
 have h1:(1:Int) > 0:=by omega
 simp only [h1,if_true,Int.ediv_one]
 split <;> omega
theorem zpz {v:va0}{o:Option Int}{Q:Option Int->va1->Prop} (p:IsPart v o) (h:Q o s):vb3 (vb2 prog w) A (Builtin.Slice.slicePartIndex v) Q E s:=by
 cases p with
 | none=>exact slicePart_none h
 | int i t=>exact slicePart_int h
theorem zjr {sl:Addr}{vl vu:va0}{lo hi:Option Int}{n:Nat}{Q:Int×Int×Nat->va1->Prop} (hs:s.heap.IsSliceOf sl vl vu .none) (pl:IsPart vl lo) (pu:IsPart vu hi)
  (h:Q (((sIx n 0 lo:Nat):Int),1,sIx n n hi - sIx n 0 lo) s):vb3 (vb2 prog w) A (vj6 (.ref sl) (pure (n:Int))) Q E s:=by
 obtain ⟨os,hos,hcs,hds⟩:=id hs
 unfold vj6 Builtin.Slice.sliceFields
 refine va7 (va7 (wpAny_field hos hds (x:=vl) rfl (va7 (wpAny_field hos hds (x:=vu) rfl (va7 (wpAny_field hos hds (x:=.none) rfl (va9 ?_)))))))
 refine va7 (slicePart_none ?_)
 show vb3 _ _ (if ((1:Int) == 0)=true then _ else _) _ _ s
 rw [if_neg (by decide)]
 refine va7 (zpz pl (va7 (zpz pu (va7 (va9 ?_)))))
 show vb3 _ _ (match vf4 lo hi 1 (n:Int) with | (lo,hi)=>pure (lo,(1:Int),vd5 lo hi 1)) _ _ s
 rw [qdh lo hi n]
 show vb3 _ _ (pure (((sIx n 0 lo:Nat):Int),(1:Int),vd5 ((sIx n 0 lo:Nat):Int) ((sIx n n hi:Nat):Int) 1)) _ _ s
 rw [qc1]
 exact va9 h
theorem qhi (xs:Array va0) (i k:Nat):((jc3 k).filterMap λ (m:Nat)=>xs[((i:Int) + (m:Int) * 1).toNat]?).toArray=((xs.toList.drop i).take k).toArray:=by
 have e:(λ (m:Nat)=>xs[((i:Int) + (m:Int) * 1).toNat]?)=λ m=>xs[i + m]?:=by
  funext m
  have:((i:Int) + (m:Int) * 1).toNat=i + m:=by omega
  rw [this]
 rw [e]
 have:=pick_run xs i k
 rw [List.filterMap_map] at this
 have e2:((λ x=>xs[x]?) ∘ λ x=>i + x)=λ m=>xs[i + m]?:=rfl
 rw [e2] at this
 rw [this]
theorem getItem_tuple_cut {t sl:Addr}{items:Array va0}{vl vu:va0}{lo hi:Option Int}{Q:va0->va1->Prop} (ht:IsTup s.heap t items) (hs:s.heap.IsSliceOf sl vl vu .none) (pl:IsPart vl lo) (pu:IsPart vu hi)
  (hw:¬ (sIx items.size 0 lo=0/\sIx items.size items.size hi=items.size))
  (h:Q (.ref s.heap.objs.size) { s with heap:=s.heap.push { cls:=.type "tuple",data:=.seq ((items.toList.drop (sIx items.size 0 lo)).take (sIx items.size items.size hi - sIx items.size 0 lo)).toArray } })
  (hsz:items.size<=va2):vb3 (vb2 prog w) A (getItem (.ref t) (.ref sl)) Q E s:=by
 have htake:sizeOk (.seq ((items.toList.drop (sIx items.size 0 lo)).take (sIx items.size items.size hi - sIx items.size 0 lo)).toArray):=by
  show ((items.toList.drop (sIx items.size 0 lo)).take (sIx items.size items.size hi - sIx items.size 0 lo)).toArray.size<=va2
  rw [jc1,jc7,jd6,jg8]
  omega
 have hj:sIx items.size items.size hi<=items.size:=qnl _ _ (jb8 _) hi
 obtain ⟨os,hos,hcs,hds⟩:=id hs
 have hTs:s.TypeIs (.ref sl) "slice" := ⟨os,hos,hcs⟩
 unfold getItem
 try with_reducible refine vg8 ?_
 first | refine va7 (va9 ?_) | skip
 refine va7 (wpAny_sequenceKey ht.typeIs (by decide) ?_)
 refine va7 (wpAny_callSpecial?_slot (name:=Str.ofString "__getitem__") ht.typeIs vh8
  (wpAny_call_entry vh8 ht.typeIs entry_tuple_getitem ?_ (args_tuple_getitem _ _)))
 show vb3 _ _ (Builtin.Tuple.tupleItemsOf (.ref t) >>= _) _ _ s
 refine va7 (tupleItemsOf_ ht ?_)
 refine va7 (wpAny_typeOf hTs ?_)
 rw [if_pos (by decide)]
 refine va7 (zjr hs pl pu ?_)
 have hno:¬ ((((sIx items.size 0 lo:Nat):Int) == 0 && (1:Int) == 1 && (sIx items.size items.size hi - sIx items.size 0 lo) == items.size)=true):=by
  intro q
  rw [ja4,ja4] at q
  have q1:((sIx items.size 0 lo:Nat):Int)=0:=eq_of_beq q.1.1
  have q2:sIx items.size items.size hi - sIx items.size 0 lo=items.size:=eq_of_beq q.2
  exact hw ⟨by omega,by omega⟩
 show vb3 _ _ (if (((sIx items.size 0 lo:Nat):Int) == 0 && (1:Int) == 1 && (sIx items.size items.size hi - sIx items.size 0 lo) == items.size)=true then _ else _) _ _ s
 rw [if_neg hno,qhi]
 first
  | exact va7 (m:=vd9 _) (ve2 (va9 ⟨_,rfl,va9 h⟩) htake)
  | exact va7 (m:=vd9 _) (ve2 (va7 (va9 (va9 ⟨_,rfl,va9 h⟩))) htake)
  | exact va7 (va7 (m:=vd9 _) (ve2 (va9 (va9 ⟨_,rfl,va9 h⟩)) htake))
  | exact va7 (va7 (m:=vd9 _) (ve2 (va9 ⟨_,rfl,va9 h⟩) htake))
end
end HT
namespace L2
open PySem PySem.Spec PyProof.Rows
abbrev TO:=St->Hp->(Option Int->Hp->Prop)->Prop
def PO (X:Cx) (e:Option Expr) (t:TO):Prop:=
 ∀ (pins:List (Addr×Obj)) (s:va1) (σ:St) (H:Hp) (Q:Option Int->Hp->Prop),Inv X pins σ H s->t σ H Q ->
  vb3 (vb2 X.prog X.w) X.A (evalPart e X.env) (λ u s'=>∃ o H',Inv X pins σ H' s'/\IsPart u o/\Q o H') X.xe s
def qdy:TO:=λ _ H Q=>Q none H
def qmx (t:TE):TO:=λ σ H Q=>t σ H λ x H1=>∃ i,x=.int i/\Q (some i) H1
section
variable {X:Cx}{e:Expr}{te:TE}{lo hi:Option Expr}{tl th:TO}{pos p2:Pos}
theorem qeq:PO X none qdy:=by
 intro pins s σ H Q I h
 rw [evalPart_none]
 exact va9 ⟨none,H,I,.none,h⟩
theorem zfb (h:PE X e te):PO X (some e) (qmx te):=by
 intro pins s σ H Q I hw
 rw [evalPart_some]
 refine thn (h pins s σ H _ I hw) λ u s1 ⟨x,H1,I1,r1,q1⟩=>?_
 obtain ⟨i,rfl,q⟩:=q1
 obtain ⟨t,rfl⟩:=r1
 exact ⟨some i,H1,I1,.int i t,q⟩
def SlR (X:Cx) (r:V->Option Int->Option Int->Hp->VK->Prop):Prop:=
 ∀ (pins:List (Addr×Obj)) (s:va1) (σ:St) (H:Hp) (x:V) (v vl vu:va0) (lo hi:Option Int) (sl:Addr) (Q:VK),Inv X pins σ H s->RelV x v->s.heap.IsSliceOf sl vl vu .none->IsPart vl lo->IsPart vu hi->r x lo hi H Q ->
  ∃ T id,typeLookup (.type T) "__getitem__" = pure (some (.builtin id))/\s.TypeIs v T/\vb3 (vb2 X.prog X.w) X.A (getItem v (.ref sl)) (EP X pins σ Q) X.xe s
theorem SlR.or {r r':V->Option Int->Option Int->Hp->VK->Prop} (h:SlR X r) (h':SlR X r'):SlR X (λ x lo hi H Q=>r x lo hi H Q\/r' x lo hi H Q):=by
 intro pins s σ H x v vl vu lo hi sl Q I rx hs pl pu q
 rcases q with q | q
 ·exact h pins s σ H x v vl vu lo hi sl Q I rx hs pl pu q
 ·exact h' pins s σ H x v vl vu lo hi sl Q I rx hs pl pu q
def tSl (r:V->Option Int->Option Int->Hp->VK->Prop) (te:TE) (tl th:TO):TE:=λ σ H Q=>te σ H λ x H1=>tl σ H1 λ l H2=>th σ H2 λ u H3=>r x l u H3 Q
theorem zfd {r:V->Option Int->Option Int->Hp->VK->Prop} (hr:SlR X r) (he:PE X e te) (hl:PO X lo tl) (hu:PO X hi th):PE X (.Subscript e (.Slice lo hi none p2) pos) (tSl r te tl th):=by
 intro pins s σ H Q I h
 refine Subscript_ (thn (he pins s σ H _ I h) λ v s1 ⟨x,H1,I1,r1,q1⟩=>?_)
 refine wpAny_Slice (thn (hl pins s1 σ H1 _ I1 q1) λ vl s2 ⟨l,H2,I2,pl,q2⟩=>thn (hu pins s2 σ H2 _ I2 q2) λ vu s3 ⟨u,H3,I3,pu,q3⟩=>?_)
 rw [evalPart_none]
 refine va9 ?_
 have I4:Inv X pins σ H3 { s3 with heap:=s3.heap.push { cls:=.type "slice",data:=.fields #[vl,vu,.none] } }:=I3.kept (t':=s3.toks) λ b ob q=>va5 _ q
 obtain ⟨T,id,hT,ht,hg⟩:=hr pins { s3 with heap:=s3.heap.push { cls:=.type "slice",data:=.fields #[vl,vu,.none] } } σ H3 x v vl vu l u s3.heap.objs.size Q I4 r1 (Heap.IsSliceOf.new ..) pl pu q3
 show vb3 (vb2 X.prog X.w) X.A (subscriptTail e (.Slice lo hi none p2) v (.ref s3.heap.objs.size)) (EP X pins σ Q) X.xe { s3 with heap:=s3.heap.push { cls:=.type "slice",data:=.fields #[vl,vu,.none] } }
 exact tail_any (ops:=[.ref s3.heap.objs.size,v]) ht hT hg (by with_unfolding_all rfl)
def cutV (xs:List V) (lo hi:Option Int):List V:=(xs.drop (HT.sIx xs.length 0 lo)).take (HT.sIx xs.length xs.length hi - HT.sIx xs.length 0 lo)
theorem zpl (xs:List V) (lo hi:Option Int):(cutV xs lo hi).length<=xs.length:=by
 unfold cutV
 rw [jc7,jd6]
 omega
def rSlT (K:va6):V->Option Int->Option Int->Hp->VK->Prop:=λ x lo hi H Q=>∃ a xs,x=.ref a/\SqT K H a xs /\
 ¬ (HT.sIx xs.length 0 lo=0/\HT.sIx xs.length xs.length hi=xs.length)/\∀ p,H p=none->Q (.ref p) (upd H p (.tup (cutV xs lo hi)))
theorem qd7:SlR X (rSlT X.K):=by
 intro pins s σ H x v vl vu lo hi sl Q I rx hs pl pu h
 obtain ⟨a,xs,rfl,hx,hw,q⟩:=h
 cases rx
 obtain ⟨its,r,ht,hz⟩:=I.tuple hx
 have hlen:its.toArray.size=xs.length:=by rw [jc1];exact r.length.symm
 refine ⟨"tuple",_,PyProof.Rows.slot_tuple_getitem.lookup,ht.typeIs,?_⟩
 refine HT.getItem_tuple_cut ht hs pl pu (by rw [hlen];exact hw) ?_ (by rw [hlen];exact hz)
 rw [hlen]
 refine ⟨.ref s.heap.objs.size,_,I.laid (t':=s.toks) (o:=.tup (cutV xs lo hi)) (λ b ob q=>va5 _ q) (jb8 _) ?_,rfl,q _ (I.hok.fresh (jb8 _))⟩
 exact ⟨jd4 (zpl xs lo hi) hz,_,(r.drop (HT.sIx xs.length 0 lo)).take (HT.sIx xs.length xs.length hi - HT.sIx xs.length 0 lo),IsTup.new _ _⟩
def qpu (K:va6):R2:=λ x y H Q=>∃ a b xs ys,x=.ref a/\y=.ref b/\SqT K H a xs/\SqT K H b ys/\xs≠[]/\xs.length + ys.length<=va2 /\
 (ys=[]->Q (.ref a) H)/\(ys≠[]->∀ p,H p=none->Q (.ref p) (upd H p (.tup (xs++ys))))
theorem Vals.nil_iff {xs:List V}{us:List va0} (r:Vals xs us):us=[]↔xs=[]:=by
 cases r with
 | nil=>simp
 | cons _ _=>simp
theorem qk2:OpR X (vd3 .Add) (qpu X.K):=by
 intro pins s σ H x y v u Q I rx ry h
 obtain ⟨a,b,xs,ys,rfl,rfl,ha,hb,hx,hz,q1,q2⟩:=h
 cases rx
 cases ry
 obtain ⟨its,r1,p1,_⟩:=I.tuple ha
 obtain ⟨its2,r2,p2,_⟩:=I.tuple hb
 refine HT.cat_tup p1 p2 (λ z=>hx (r1.nil_iff.mp z)) (λ z=>⟨.ref a,H,I,rfl,q1 (r2.nil_iff.mp z)⟩) (λ z=>?_) (by rw [<- r1.length,<- r2.length];exact hz)
 refine ⟨.ref s.heap.objs.size,_,I.laid (t':=s.toks) (o:=.tup (xs++ys)) (λ b ob q=>va5 _ q) (jb8 _) ?_,rfl,q2 (λ w=>z (r2.nil_iff.mpr w)) _ (I.hok.fresh (jb8 _))⟩
 exact ⟨by rw [jb1];exact hz,_,r1.append r2,IsTup.new _ _⟩
end
def ixN (n:Nat) (i:Int):Option Nat:=if 0<=i then (if i < n then some i.toNat else none) else if -(n:Int)<=i then some (i + n).toNat else none
def atI {α:Type} (xs:List α) (i:Int):Option α:=(ixN xs.length i).bind λ j=>xs[j]?
theorem qff {n:Nat}{i:Int}{j:Nat} (h:ixN n i=some j):seqIndex? i n=some j/\j < n/\-(n:Int)<=i/\i < n:=by
 unfold ixN at h
 by_cases h0:0<=i
 ·rw [if_pos h0] at h
  by_cases h1:i < n
  ·rw [if_pos h1] at h
   have e:i.toNat=j:=Option.some.inj h
   exact ⟨by rw [seqIndex_of h0 h1,e],by omega,by omega,h1⟩
  ·rw [if_neg h1] at h;cases h
 ·rw [if_neg h0] at h
  by_cases h1:-(n:Int)<=i
  ·rw [if_pos h1] at h
   have e:(i + n).toNat=j:=Option.some.inj h
   exact ⟨by rw [seqIndex_neg (by omega) h1,e],by omega,h1,by omega⟩
  ·rw [if_neg h1] at h;cases h
theorem qa4 {α:Type}{xs:List α}{i:Int}{v:α} (h:atI xs i=some v):∃ j,seqIndex? i xs.length=some j/\xs[j]?=some v/\j < xs.length/\-(xs.length:Int)<=i/\i < xs.length:=by
 unfold atI at h
 cases e:ixN xs.length i with
 | none=>rw [e] at h;cases h
 | some j=>
  rw [e] at h
  obtain ⟨h1,h2,h3,h4⟩:=qff e
  exact ⟨j,h1,h,h2,h3,h4⟩
def qa8 (b:Expr):Prop:=∀ o i,subscripted b false o i=operate [o,i] (getItem o i)
def IxR (X:Cx) (r:R2):Prop:=
 ∀ (value slice:Expr) (pins:List (Addr×Obj)) (s:va1) (σ:St) (H:Hp) (x y:V) (v u:va0) (Q:VK),Inv X pins σ H s->RelV x v->RelV y u->r x y H Q ->
  subscripted slice false v u=operate [v,u] (getItem v u)->vb3 (vb2 X.prog X.w) X.A (subscriptTail value slice v u) (EP X pins σ Q) X.xe s
def MtR (X:Cx) (id:String) (r:V->List V->Hp->VK->Prop):Prop:=
 ∀ (pins:List (Addr×Obj)) (s:va1) (σ:St) (H:Hp) (x:V) (xs:List V) (v:va0) (us:List va0) (Q:VK),Inv X pins σ H s->RelV x v->Vals xs us->r x xs H Q ->
  vb3 (vb2 X.prog X.w) X.A (call (.builtin id) (v::us)) (EP X pins σ Q) X.xe s
section
variable {X:Cx}{a b:Expr}{ta tb:TE}{pos:Pos}
theorem IxR.or {r r':R2} (h:IxR X r) (h':IxR X r'):IxR X (λ x y H Q=>r x y H Q\/r' x y H Q):=by
 intro value slice pins s σ H x y v u Q I rx ry q hs
 rcases q with q | q
 ·exact h value slice pins s σ H x y v u Q I rx ry q hs
 ·exact h' value slice pins s σ H x y v u Q I rx ry q hs
theorem qew {r:R2} (hr:IxR X r) (ha:PE X a ta) (hb:PE X b tb) (hs:qa8 b):PE X (.Subscript a b pos) (tOp r ta tb):=by
 intro pins s σ H Q I h
 exact Subscript_ (binT ha hb I h λ v u s2 x y H2 I2 rx ry q=>hr a b pins s2 σ H2 x y v u Q I2 rx ry q (hs _ _))
def rIxL (K:va6):R2:=λ x y H Q=>∃ p xs i v,x=.ref p/\y=.int i/\SqL K H p xs/\atI xs i=some v/\Q v H
def rIxT (K:va6):R2:=λ x y H Q=>∃ p xs i v,x=.ref p/\y=.int i/\SqT K H p xs/\atI xs i=some v/\Q v H
def rIxS:R2:=λ x y H Q=>∃ z i c,x=.str z/\y=.int i/\z.length<=va2/\atI z.cps.toList i=some c/\Q (.str ⟨#[c]⟩) H
theorem zpf:IxR X (rIxL X.K):=by
 intro value slice pins s σ H x y v u Q I rx ry h hs
 obtain ⟨p,xs,i,z,rfl,rfl,hq,he,q⟩:=h
 cases rx
 obtain ⟨t,rfl⟩:=ry
 obtain ⟨its,r,pl,hz⟩:=I.list hq
 obtain ⟨j,h1,h2,h3,h4,h5⟩:=qa4 he
 obtain ⟨w,ew,rw'⟩:=r.get h2
 have hl:=r.length
 have hn:=zme
 have fin:EP X pins σ Q w s:=⟨z,H,I,rw',q⟩
 by_cases h0:0<=i
 ·have hj:i.toNat=j:=by
   rw [seqIndex_of h0 h5] at h1
   exact Option.some.inj h1
  exact item_listR pl.isList h0 (by omega) (by rw [hj];simpa using ew) fin hs
 ·have hj:(i + (its.toArray.size:Int)).toNat=j:=by
   rw [seqIndex_neg (by omega) h4] at h1
   rw [jc1,<- hl]
   exact Option.some.inj h1
  exact subscriptTail_builtinR (x:=w) pl.isList.typeIs slot_list_getitem.lookup
   (wpAny_getItem_list_neg (Q:=λ r s'=>r=w/\EP X pins σ Q r s') pl.isList (by omega) (by rw [jc1] <;> omega) (by omega) (by rw [hj];simpa using ew) ⟨rfl,fin⟩) hs
theorem qox:IxR X (rIxT X.K):=by
 intro value slice pins s σ H x y v u Q I rx ry h hs
 obtain ⟨p,xs,i,z,rfl,rfl,hq,he,q⟩:=h
 cases rx
 obtain ⟨t,rfl⟩:=ry
 obtain ⟨its,r,pl,hz⟩:=I.tuple hq
 obtain ⟨j,h1,h2,h3,h4,h5⟩:=qa4 he
 obtain ⟨w,ew,rw'⟩:=r.get h2
 have hl:=r.length
 have hn:=zme
 have fin:EP X pins σ Q w s:=⟨z,H,I,rw',q⟩
 exact subscriptTail_builtinR (x:=w) pl.typeIs slot_tuple_getitem.lookup
  (getItem_tuple (j:=j) (Q:=λ r s'=>r=w/\EP X pins σ Q r s') pl (by omega) (by omega) (by rw [jc1,<- hl];exact h1) (by simpa using ew) ⟨rfl,fin⟩) hs
theorem qoy:IxR X rIxS:=by
 intro value slice pins s σ H x y v u Q I rx ry h hs
 obtain ⟨z,i,c,rfl,rfl,hz,he,q⟩:=h
 obtain ⟨t,rfl⟩:=rx
 obtain ⟨t',rfl⟩:=ry
 obtain ⟨j,h1,h2,h3,h4,h5⟩:=qa4 he
 have hl:z.cps.toList.length=z.length:=by simp [Str.length]
 rw [hl] at h1 h4 h5
 have hn:=zme
 exact tail_any (typeIs_str s z t) slot_str_getitem.lookup (getItem_str (c:=c) (by
  have e1:decide (i < -(2 ^ 63:Int))=false:=decide_eq_false (by omega)
  have e2:decide (i ≥ 2 ^ 63)=false:=decide_eq_false (by omega)
  rw [e1,e2,Bool.or_false]) (by rw [h1];simpa using h2) ⟨.str ⟨#[c]⟩,H,I.tok _,⟨_,rfl⟩,q⟩) hs
def rIx (K:va6):R2:=λ x y H Q=>rIxL K x y H Q\/rIxT K x y H Q\/rIxS x y H Q
theorem qoz:IxR X (rIx X.K):=zpf.or (qox.or qoy)
theorem qc9 (its:List va0) (n j:Nat) (u:va0):vi0 (·.setIfInBounds j u) { cls:=.type "list",data:=.seq its.toArray n }={ cls:=.type "list",data:=.seq (its.set j u).toArray n }:=by
 simp [vi0]
theorem Inv.lst {pins:List (Addr×Obj)}{σ:St}{H:Hp}{s:va1}{p:Addr}{xs:List V} (I:Inv X pins σ H s) (h:H p=some (.lst xs)):
  ∃ (its:List va0) (n:Nat),Vals xs its/\s.heap.get? p=some { cls:=.type "list",data:=.seq its.toArray n }/\xs.length<=va2:=by
 obtain ⟨z,its,n,r,e⟩:=I.hok p _ h
 exact ⟨its,n,r,e,z⟩
theorem Inv.lstUpd {pins:List (Addr×Obj)}{σ:St}{H:Hp}{s:va1}{p:Addr}{xs ys:List V}{its its':List va0}{n n':Nat}{f:Obj->Obj} (I:Inv X pins σ H s) (h:H p=some (.lst xs))
  (ho:s.heap.get? p=some { cls:=.type "list",data:=.seq its.toArray n }) (hf:f { cls:=.type "list",data:=.seq its.toArray n }={ cls:=.type "list",data:=.seq its'.toArray n' }) (r:Vals ys its') (hz:ys.length<=va2) (t:Nat):
  Inv X pins σ (upd H p (.lst ys)) { s with heap:=s.heap.update p f,toks:=t }:=by
 have e:(s.heap.update p f).get? p=some { cls:=.type "list",data:=.seq its'.toArray n' }:=by
  rw [Heap.get?_update_self f ho (by rw [hf] <;> rfl),hf]
 refine I.write (x:=p) (e:=p) (by rw [h];trivial) (.inl rfl) (λ b u hb q=>(Heap.get?_update_other _ _ (vb1 hb)).trans q) ⟨_,e⟩ ?_
 exact ⟨hz,its',n',r,e⟩
def qhc:V->V->V->Hp->(Hp->Prop)->Prop:=λ o i v H Q=>∃ p xs k j,o=.ref p/\i=.int k/\H p=some (.lst xs)/\ixN xs.length k=some j/\Q (upd H p (.lst (xs.set j v)))
theorem zmx:PSet X qhc:=by
 intro pins s σ H o i v ov iv u Q I ro ri rv h
 obtain ⟨p,xs,k,j,rfl,rfl,hp,hj,q⟩:=h
 cases ro
 obtain ⟨t,rfl⟩:=ri
 obtain ⟨its,n,r,ho,hz⟩:=I.lst hp
 obtain ⟨h1,h2,h3,h4⟩:=qff hj
 have hl:=r.length
 have hn:=zme
 have I':Inv X pins σ (upd H p (.lst (xs.set j v))) { s with heap:=s.heap.update p (vi0 (·.setIfInBounds j u)) }:=
  I.lstUpd hp ho (qc9 its n j u) (r.set rv j) (by rw [jc5];exact hz) s.toks
 by_cases h0:0<=k
 ·have hk:k.toNat=j:=by
   rw [seqIndex_of h0 h4] at h1
   exact Option.some.inj h1
  exact PySem.W.ki_setAt ho h0 (by omega) (by rw [jc1,<- hl];exact h4) (by rw [hk];exact ⟨_,I',q⟩)
 ·have hk:(k + (its.toArray.size:Int)).toNat=j:=by
   rw [seqIndex_neg (by omega) h3] at h1
   rw [jc1,<- hl]
   exact Option.some.inj h1
  exact PySem.W.ki_setBack ho (by omega) (by rw [jc1,<- hl];exact h3) (by omega) (by rw [hk];exact ⟨_,I',q⟩)
theorem zgk (lo hi:Option Int) (n:Nat):(ve8 lo hi none n).1=((HT.sIx n 0 lo:Nat):Int)/\(ve8 lo hi none n).2.1=((HT.sIx n n hi:Nat):Int)/\(ve8 lo hi none n).2.2=1:=by
 refine ⟨?_,?_,rfl⟩
 ·cases lo with
  | none=>simp [ve8,HT.sIx]
  | some i=>
   simp only [ve8,HT.sIx,jo5,show (1:Int) > 0 by decide,if_true]
   by_cases h:i < 0
   ·simp only [h,if_true] <;> omega
   ·simp only [h,if_false] <;> omega
 ·cases hi with
  | none=>simp [ve8,HT.sIx]
  | some i=>
   simp only [ve8,HT.sIx,jo5,show (1:Int) > 0 by decide,if_true]
   by_cases h:i < 0
   ·simp only [h,if_true] <;> omega
   ·simp only [h,if_false] <;> omega
theorem zmw (its:List va0) (lo hi:Option Int):slicePick its.toArray lo hi none=((its.drop (HT.sIx its.length 0 lo)).take (HT.sIx its.length its.length hi - HT.sIx its.length 0 lo)).toArray:=by
 obtain ⟨h1,h2,h3⟩:=zgk lo hi its.toArray.size
 unfold slicePick
 rw [h1,h2,h3]
 simp only [sliceRange_one,pick_run,jc1] <;> rfl
def rSlL (K:va6):V->Option Int->Option Int->Hp->VK->Prop:=λ x lo hi H Q=>∃ a xs,x=.ref a/\SqL K H a xs/\∀ p,H p=none->Q (.ref p) (upd H p (.lst (cutV xs lo hi)))
theorem qak:SlR X (rSlL X.K):=by
 intro pins s σ H x v vl vu lo hi sl Q I rx hs pl pu h
 obtain ⟨a,xs,rfl,hx,q⟩:=h
 cases rx
 obtain ⟨its,r,ht,hz⟩:=I.list hx
 have hlen:=r.length
 refine ⟨"list",_,slot_list_getitem.lookup,ht.isList.typeIs,?_⟩
 refine wpAny_getItem_list_slice ht.isList hs pl pu .none (by simp) ?_ (by rw [jc1] <;> omega)
 rw [zmw,<- hlen]
 refine ⟨.ref s.heap.objs.size,_,I.laid (t':=s.toks) (o:=.lst (cutV xs lo hi)) (λ b ob q=>va5 _ q) (jb8 _) ?_,rfl,q _ (I.hok.fresh (jb8 _))⟩
 exact ⟨jd4 (zpl xs lo hi) hz,_,0,(r.drop (HT.sIx xs.length 0 lo)).take (HT.sIx xs.length xs.length hi - HT.sIx xs.length 0 lo),vb0 _ rfl⟩
theorem zhy:zzr X (.builtin "len") (λ xs H Q=>∃ p ys,xs=[.ref p]/\(SqL X.K H p ys\/SqT X.K H p ys)/\Q (.int ys.length) H):=by
 intro pins s σ H xs us Q I r h
 obtain ⟨p,ys,rfl,hq,q⟩:=h
 obtain ⟨u,rfl,rx⟩:=zjq r
 cases rx
 have hn:=zme
 rcases hq with hq | hq
 ·obtain ⟨its,r',pl,hz⟩:=I.list hq
  have hlen:=r'.length
  exact Calls.call_len_list pl.isList (by simp only [jc1] <;> omega) ⟨.int ys.length,H,I.tok _,⟨s.toks + 1,by rw [jc1,hlen]⟩,q⟩
 ·obtain ⟨its,r',pl,hz⟩:=I.tuple hq
  have hlen:=r'.length
  exact len_tuple pl (by simp only [jc1] <;> omega) ⟨.int ys.length,H,I.tok _,⟨s.toks + 1,by rw [jc1,hlen]⟩,q⟩
theorem zhx:zzr X (.builtin "len") (λ xs H Q=>∃ z,xs=[.str z]/\z.length<=va2/\Q (.int z.length) H):=by
 intro pins s σ H xs us Q I r h
 obtain ⟨z,rfl,hz,q⟩:=h
 obtain ⟨u,rfl,t,rfl⟩:=zjq r
 have hn:=zme
 exact len_str (by omega) ⟨.int z.length,H,I.tok _,⟨_,rfl⟩,q⟩
theorem zzr.or {f:va0}{r r':List V->Hp->VK->Prop} (h:zzr X f r) (h':zzr X f r'):zzr X f (λ xs H Q=>r xs H Q\/r' xs H Q):=by
 intro pins s σ H xs us Q I rs q
 rcases q with q | q
 ·exact h pins s σ H xs us Q I rs q
 ·exact h' pins s σ H xs us Q I rs q
theorem zhw:zzr X (.type "list") (λ xs H Q=>∃ p ys,xs=[.ref p]/\(SqL X.K H p ys\/SqT X.K H p ys)/\∀ l,H l=none->Q (.ref l) (upd H l (.lst ys))):=by
 intro pins s σ H xs us Q I r h
 obtain ⟨p,ys,rfl,hq,q⟩:=h
 obtain ⟨u,rfl,rx⟩:=zjq r
 cases rx
 have fin:∀ (its:List va0),Vals ys its->ys.length<=va2->∀ (h':Heap) (c':Nat),(∀ b o',s.heap.get? b=some o'->h'.get? b=some o') ->
   h'.get? s.heap.objs.size=some { cls:=.type "list",dict:=none,data:=.seq its.toArray c',slots:=#[] }->EP X pins σ Q (.ref s.heap.objs.size) { s with heap:=h' }:=λ its r' hz h' c' kp e=>
  ⟨.ref s.heap.objs.size,_,I.laid (t':=s.toks) kp (jb8 _) (show zwz X.prog X.w _ h' _ (.lst ys) from ⟨hz,its,c',r',e⟩),rfl,q _ (I.hok.fresh (jb8 _))⟩
 rcases hq with hq | hq
 ·obtain ⟨its,r',pl,hz⟩:=I.list hq
  have hlen:=r'.length
  obtain ⟨o,ho,hc,n,hd⟩:=pl.isList
  exact call_list_seq p (.inl rfl) ho hc hd (λ h' c' kp e=>fin its r' hz h' c' kp e) (by simp only [jc1] <;> omega)
 ·obtain ⟨its,r',pl,hz⟩:=I.tuple hq
  have hlen:=r'.length
  obtain ⟨o,ho,hc,n,hd⟩:=pl
  exact call_list_seq p (.inr rfl) ho hc hd (λ h' c' kp e=>fin its r' hz h' c' kp e) (by simp only [jc1] <;> omega)
theorem zgb:zzr X (.type "tuple") (λ xs H Q=>∃ p ys,xs=[.ref p]/\((SqL X.K H p ys/\∀ l,H l=none->Q (.ref l) (upd H l (.tup ys)))\/(SqT X.K H p ys/\Q (.ref p) H))):=by
 intro pins s σ H xs us Q I r h
 obtain ⟨p,ys,rfl,h⟩:=h
 obtain ⟨u,rfl,rx⟩:=zjq r
 cases rx
 rcases h with ⟨hq,q⟩ | ⟨hq,q⟩
 ·obtain ⟨its,r',pl,hz⟩:=I.list hq
  have hlen:=r'.length
  refine call_tuple_list pl.isList (λ h' kp=>?_) (by simp only [jc1] <;> omega)
  have I1:Inv X pins σ H { s with heap:=h' }:=I.kept (t':=s.toks) kp
  have I2:Inv X pins σ (upd H h'.objs.size (.tup ys)) { s with heap:=h'.push { cls:=.type "tuple",data:=.seq its.toArray } }:=
   I1.laid (t':=s.toks) (λ b o e=>va5 _ e) (jb8 _) (show zwz X.prog X.w _ _ _ (.tup ys) from ⟨hz,its,r',IsTup.new _ _⟩)
  exact ⟨.ref h'.objs.size,_,I2,rfl,q _ (I1.hok.fresh (jb8 _))⟩
 ·obtain ⟨its,r',pl,hz⟩:=I.tuple hq
  exact call_tuple_same pl ⟨.ref p,H,I,rfl,q⟩
def tyV (K:va6) (T:String) (x:V) (H:Hp):Prop:=match x with
 | .str _=>T = "str"
 | .int _=>T = "int"
 | .ref p=>(T = "list" /\ ∃ xs,SqL K H p xs)\/(T = "tuple" /\ ∃ o,K.lookup p=some o/\o.cls=.type "tuple" /\ o.dict=none) \/
   (T = "dict" /\ ((∃ kvs,H p=some (.dK kvs))\/∃ kvs,H p=some (.dT kvs)))\/(T = "set" /\ ∃ S n,H p=some (.set S n))
 | _=>False
theorem qmh {pins:List (Addr×Obj)}{σ:St}{H:Hp}{s:va1}{T:String}{x:V}{v:va0} (I:Inv X pins σ H s) (r:RelV x v) (ty:tyV X.K T x H):
  s.TypeIs v T/\∀ a,v=.ref a->∃ ob,s.heap.get? a=some ob/\ob.dict=none:=by
 cases x with
 | str z=>
  obtain ⟨t,rfl⟩:=r
  cases (show T = "str" from ty)
  exact ⟨typeIs_str s z t,λ _ e=>nomatch e⟩
 | int i=>
  obtain ⟨t,rfl⟩:=r
  cases (show T = "int" from ty)
  exact ⟨typeIs_int s i t,λ _ e=>nomatch e⟩
 | ref p=>
  cases r
  rcases ty with ⟨rfl,xs,hq⟩ | ⟨rfl,o,hk,hc,hd⟩ | ⟨rfl,hk⟩ | ⟨rfl,S,n,hk⟩
  ·obtain ⟨its,_,pl,_⟩:=I.list hq
   refine ⟨pl.isList.typeIs,λ a e=>?_⟩
   cases e
   obtain ⟨o,n,e,c,hd,_⟩:=pl
   exact ⟨o,e,hd⟩
  ·refine ⟨⟨o,I.kIn p o hk,hc⟩,λ a e=>?_⟩
   cases e
   exact ⟨o,I.kIn _ o hk,hd⟩
  ·have z:∃ o,s.heap.get? p=some o/\o.ExactDict:=by
    rcases hk with ⟨kvs,hk⟩ | ⟨kvs,hk⟩
    ·obtain ⟨_,_,_,_,o,_,_,e,ex,_⟩:=I.hok p _ hk
     exact ⟨o,e,ex⟩
    ·obtain ⟨_,_,_,_,o,_,_,e,ex,_⟩:=I.hok p _ hk
     exact ⟨o,e,ex⟩
   obtain ⟨o,e,ex⟩:=z
   refine ⟨⟨o,e,ex.1⟩,λ a e2=>?_⟩
   cases e2
   exact ⟨o,e,ex.2.1⟩
  ·obtain ⟨o,_,_,_,e,ex,_⟩:=I.hok p _ hk
   refine ⟨⟨o,e,ex.1⟩,λ a e2=>?_⟩
   cases e2
   exact ⟨o,e,ex.2.1⟩
 | _=>exact vc6 ty
def tBM (K:va6) (T:String) (r:V->List V->Hp->VK->Prop) (to:TE) (t:TA):TE:=λ σ H Q=>to σ H λ x H1=>tyV K T x H1/\t σ H1 λ xs H2=>r x xs H2 Q
variable {o e:Expr}{es:List Expr}{to:TE}{t:TA}{name:Str}{apos cpos:Pos}{T id:String}{r:V->List V->Hp->VK->Prop}
theorem qky (pa:PlainAttrs T) (slot:Slot T name id) (hty:typeOf (.builtin id)=pure (.type "method_descriptor")) (hm:MtR X id r) (ho:PE X o to) (ha:PA X (e::es) t)
  (hbase:attributeBase o name X.env (eval o X.env)=eval o X.env:=by rfl)
  (hfew:((vd4 cpos (va4 (e::es) X.env)).all (λ x=>!x.1) && (backToKw cpos (keywordEach [] X.env)).all (λ x=>x.1.isSome)
   && decide ((e::es).length + ([]:List Keyword).length + (if ([]:List Keyword).isEmpty then 0 else 1) < 30))=true:=by rfl)
  (hline:(apos.endLine == cpos.line)=true:=by rfl) (hs:va4 (e::es) X.env=(false,eval e X.env)::va4 es X.env:=by rfl) (hplain:(vd4 cpos (va4 es X.env)).any (·.1)=false:=by rfl):
  PE X (.Call (.Attribute o name apos) (e::es) [] cpos) (tBM X.K T r to t):=by
 intro pins s σ H Q I h
 refine wpAny_Call_method_late hbase hfew hline rfl (thn (ho pins s σ H _ I h) λ v s1 ⟨x,H1,I1,r1,ty,q1⟩=>?_)
 obtain ⟨h1,h2⟩:=qmh I1 r1 ty
 refine ⟨T,id,pa,slot,hty,h1,h2,?_⟩
 have hA:=ha cpos pins s1 σ H1 _ I1 q1
 rw [hs] at hA ⊢
 refine Calls.callWith_builtin (by show (false || (vd4 cpos (va4 es X.env)).any (·.1))=false;rw [hplain] <;> rfl) (Calls.evalArgs_plain ?_)
 exact thn hA λ us s2 ⟨vs,H2,I2,r2,q2⟩=>hm pins s2 σ H2 x vs v us Q I2 r1 r2 q2
end
def MtM (X:Cx) (id:String) (r:V->List V->Hp->VK->Prop):Prop:=
 ∀ (pins:List (Addr×Obj)) (s:va1) (σ:St) (H:Hp) (x:V) (xs:List V) (v:va0) (us:List va0) (Q:VK),Inv X pins σ H s->RelV x v->Vals xs us->r x xs H Q ->
  vb3 (vb2 X.prog X.w) X.A (call (.builtin id) (v::us)) (EP X pins σ Q) X.xe s
theorem Vals.one:∀ {x:V}{us:List va0},Vals [x] us->∃ u,us=[u]/\RelV x u
 | _,_,.cons r .nil=>⟨_,rfl,r⟩
theorem Vals.rep {xs:List V}{us:List va0} (h:Vals xs us):∀ k:Nat,Vals (ja7 k xs).flatten (ja7 k us).flatten
 | 0=>.nil
 | k + 1=>by
  rw [je0,je0,jf3,jf3]
  exact Vals.append h (Vals.rep h k)
theorem zhn (its:List va0):∀ (k:Nat) (acc:List va0),
  jq0 (λ x1 x2=>x1++x2) acc.toArray (ja7 k its.toArray)=(acc++(ja7 k its).flatten).toArray
 | 0,acc=>by simp
 | k + 1,acc=>by
  have e:acc.toArray++its.toArray=(acc++its).toArray:=by simp
  have e2:(acc++its)++(ja7 k its).flatten=acc++(ja7 (k + 1) its).flatten:=by
   rw [je0,jf3,jh9]
  rw [<- e2,<- zhn its k (acc++its),<- e,je0,jp2]
section
variable {X:Cx}{pins:List (Addr×Obj)}{σ:St}{H:Hp}{s:va1}{l b:Addr}{xs ys zs:List V}
theorem Inv.lset {its its':List va0}{n:Nat}{f:Array va0->Array va0}{t':Nat} (I:Inv X pins σ H s) (hH:H l=some (.lst xs))
  (e:s.heap.get? l=some { cls:=.type "list",data:=.seq its.toArray n }) (hf:f its.toArray=its'.toArray) (hv:Vals ys its') (hz:ys.length<=va2):
  Inv X pins σ (upd H l (.lst ys)) { s with heap:=s.heap.update l (vi0 f),toks:=t' }:=by
 have q:=PySem.IsL.update e f
 rw [hf] at q
 refine I.write (x:=l) (e:=l) (by rw [hH];exact trivial) (.inl rfl) (λ b' u hb hu=>(Heap.get?_update_other s.heap (vi0 f) (vb1 hb)).trans hu) ⟨_,q⟩ ?_
 exact ⟨hz,its',_,hv,q⟩
theorem Inv.lnew {its:List va0}{t':Nat} (I:Inv X pins σ H s) (hv:Vals ys its) (hz:ys.length<=va2):
  Inv X pins σ (upd H s.heap.objs.size (.lst ys)) { s with heap:=s.heap.push { cls:=.type "list",data:=.seq its.toArray },toks:=t' }:=
 I.laid (λ _ _ q=>va5 _ q) (jb8 _) ⟨hz,its,0,hv,vb0 _ rfl⟩
theorem Inv.fresh (I:Inv X pins σ H s):H s.heap.objs.size=none:=I.hok.fresh (jb8 _)
theorem Inv.lstM (I:Inv X pins σ H s) (hH:H l=some (.lst xs)):xs.length<=va2/\∃ (its:List va0) (n:Nat),Vals xs its/\xs.length=its.length/\s.heap.get? l=some { cls:=.type "list",data:=.seq its.toArray n }:=by
 obtain ⟨z,its,n,r,e⟩:=I.hok l _ hH
 exact ⟨z,its,n,r,r.length,e⟩
theorem qbw {n:Nat} (h:n<=va2):ve0 n=false:=by
 unfold ve0
 exact decide_eq_false (by omega)
end
section
variable {X:Cx}
def qao:V->List V->Hp->VK->Prop:=λ x vs H Q=>∃ l xs y,x=.ref l/\vs=[y]/\H l=some (.lst xs)/\xs.length < va2/\Q .non (upd H l (.lst (xs++[y])))
theorem zbx:MtM X "list.append" qao:=by
 intro pins s σ H x vs v us Q I rx rv h
 obtain ⟨l,xs,y,rfl,rfl,hH,hz,q⟩:=h
 cases rx
 obtain ⟨u,rfl,ru⟩:=rv.one
 obtain ⟨z,its,n,r,hl,e⟩:=I.lstM hH
 refine call_meets F.slot_list_append ⟨_,e,rfl⟩ F.entry_list_append (F.args_list_append_2 _ _) (PySem.list_append l its.toArray n u (by rw [jc1];omega)) ⟨e,?_⟩
 refine ⟨.non,_,I.lset (its':=its++[u]) hH e (by simp) (r.append (.cons ru .nil)) ?_,rfl,q⟩
 rw [jb1,ja6]
 omega
def qem:V->List V->Hp->VK->Prop:=λ x vs H Q=>∃ l b xs zs,x=.ref l/\vs=[.ref b]/\H l=some (.lst xs)/\H b=some (.lst zs)/\xs.length + zs.length<=va2/\Q .non (upd H l (.lst (xs++zs)))
theorem qe6:MtM X "list.extend" qem:=by
 intro pins s σ H x vs v us Q I rx rv h
 obtain ⟨l,b,xs,zs,rfl,rfl,hH,hB,hz,q⟩:=h
 cases rx
 obtain ⟨u,rfl,ru⟩:=rv.one
 cases ru
 obtain ⟨z,its,n,r,hl,e⟩:=I.lstM hH
 obtain ⟨z2,its2,n2,r2,hl2,e2⟩:=I.lstM hB
 have hsz:its.toArray.size + its2.toArray.size<=va2:=by rw [jc1,jc1];omega
 have hlong:¬ (!its.toArray.isEmpty && ve0 (its.toArray.size + its2.toArray.size))=true:=by
  rw [qbw hsz,jg4]
  exact jc6
 refine call_meets F.slot_list_extend ⟨_,e,rfl⟩ F.entry_list_extend (F.args_list_extend_2 _ _)
  (AutoSeq1.list_extend_list_list_0 l its.toArray n b its2.toArray n2 hlong (by rw [jc1];omega) (by omega)) ⟨e,e2,?_⟩
 refine ⟨.non,_,I.lset (its':=its++its2) hH e (by simp) (r.append r2) ?_,rfl,q⟩
 rw [jb1]
 omega
def rCat:R2:=λ x y H Q=>∃ l b xs zs,x=.ref l/\y=.ref b/\H l=some (.lst xs)/\H b=some (.lst zs)/\xs.length + zs.length<=va2/\∀ p,H p=none->Q (.ref p) (upd H p (.lst (xs++zs)))
theorem qoi:OpR X (vd3 .Add) rCat:=by
 intro pins s σ H x y v u Q I rx ry h
 obtain ⟨l,b,xs,zs,rfl,rfl,hH,hB,hz,q⟩:=h
 cases rx
 cases ry
 obtain ⟨z,its,n,r,hl,e⟩:=I.lstM hH
 obtain ⟨z2,its2,n2,r2,hl2,e2⟩:=I.lstM hB
 refine PySem.P.add_list e e2 ?_ (by rw [jc1,jc1];omega)
 have ea:its.toArray++its2.toArray=(its++its2).toArray:=by simp
 rw [ea]
 exact ⟨.ref _,_,I.lnew (t':=s.toks) (r.append r2) (by rw [jb1];omega),rfl,q _ I.fresh⟩
def rRep:R2:=λ x y H Q=>∃ l k xs,x=.ref l/\y=.int k/\H l=some (.lst xs)/\-(2 ^ 63)<=k/\k < 2 ^ 63/\xs.length * k.toNat<=va2 /\
 ∀ p,H p=none->Q (.ref p) (upd H p (.lst (ja7 k.toNat xs).flatten))
theorem qlf {α:Type} (xs:List α) (k:Nat):(ja7 k xs).flatten.length=k * xs.length:=by
 induction k with
 | zero=>simp
 | succ k ih=>rw [je0,jf3,jb1,ih,jl5,Nat.add_comm]
theorem qn8:OpR X (vd3 .Mult) rRep:=by
 intro pins s σ H x y v u Q I rx ry h
 obtain ⟨l,k,xs,rfl,rfl,hH,h1,h2,hz,q⟩:=h
 cases rx
 obtain ⟨t,rfl⟩:=ry
 obtain ⟨z,its,n,r,hl,e⟩:=I.lstM hH
 have hlen:its.toArray.size * k.toNat<=va2:=by rw [jc1,<- hl];exact hz
 have hcap:¬ its.toArray.size * k.toNat > (2 ^ 63 - 1) / 8:=by
  have:(va2:Nat)<=(2 ^ 63 - 1) / 8:=by decide
  omega
 have hfit:¬ (!Builtin.List.listFitsIndex k)=true:=by
  rw [fitsIndex_both h1 h2]
  exact jc6
 have hlong:¬ ve0 (its.toArray.size * k.toNat)=true:=by
  rw [qbw hlen]
  exact jc6
 have hnew:jq0 (λ x1 x2=>x1++x2) #[] (ja7 (if its.toArray.isEmpty=true then 0 else k.toNat) its.toArray)=(ja7 k.toNat its).flatten.toArray:=by
  have f0:∀ m:Nat,jq0 (λ x1 x2=>x1++x2) #[] (ja7 m its.toArray)=(ja7 m its).flatten.toArray:=λ m=>by
   have:=zhn its m []
   rw [jg7] at this
   exact this
  rw [f0]
  cases its with
  | nil=>simp
  | cons a r'=>rw [if_neg (by simp)]
 refine wpAny_binaryOp_repeat_ref (T := "list") (U := "int") (by decide) ⟨_,e,rfl⟩ (λ s'=>typeIs_int s' k t) noFill_list_mul F.fills_int_mul F.slot_int_rmul repeat_list F.slot_int_index.lookup
  (call_meets F.slot_int_rmul (typeIs_int s k t) F.entry_int_rmul (F.args_int_rmul_2 _ _) (int___rmul___int_list k t l its.toArray n)
   ⟨e,rfl,⟨_,e,rfl⟩,call_meets F.slot_list_mul ⟨_,e,rfl⟩ F.entry_list_mul (F.args_list_mul_2 _ _) (AutoListH.list___mul___list_int_3 l its.toArray n k t hfit hcap hlong) ⟨e,?_⟩⟩)
 rw [hnew]
 exact ⟨.ref _,_,I.lnew (t':=s.toks) (r.rep k.toNat) (by rw [qlf,jq5];exact hz),rfl,q _ I.fresh⟩
end
section
variable {prog:va8}{w:vb6}{A:vb8}{E:va0->va1->Prop}{s:va1}
end
section
variable {X:Cx}
end
end L2
namespace Att
open PySem PySem.W PySem.Calls PyProof.Rows
theorem zpg {P:Params}{h:Heap}:∀ (ns:List Int) (vs:List va0),WellAll P h vs (ns.map WData.int)->IntsAre vs ns:=by
 intro ns
 induction ns with
 | nil=>
  intro vs w
  rw [jm4] at w
  cases w
  exact .nil
 | cons n ns ih=>
  intro vs w
  rw [jc8] at w
  cases w with
  | cons a b=>
   cases a
   exact .cons _ _ (ih _ b)
theorem qeb {l:OpenLaw}{n:Nat} (hn:l.most=some n) {P:Params}{h:Heap}{args:List WData}{vals:List va0}
  (hpre:l.row.toRowW.claim.pre args=true) (hwl:WellAll P h vals args):
  ∃ a vs ns,vals=[Value.ref a]/\args=[WData.list (ns.map WData.int)]/\h.get? a=some { cls:=.type "list",data:=.seq vs.toArray }/\IntsAre vs ns/\ns.length<=n:=by
 have hsh:WShape.hasAll [] args [.list .int]=true:=(pre_splitW hpre).1
 have hc:l.pre.holds [] { args:=args }=true:=(pre_splitW hpre).2
 obtain ⟨d,r,rfl,h1,h2⟩:=hasAllW_cons hsh
 obtain rfl:=hasAllW_nil h2
 obtain ⟨xs,rfl,h3⟩:=hasW_list h1
 obtain ⟨ns,rfl⟩:=items_int h3
 have hlen:ns.length<=n:=by
  unfold OpenLaw.pre at hc
  have h4:(WTm.not (.lt (.lit (.int (n:Int))) (.len (.arg 0)))).holds [] { args:=[.list (ns.map .int)] }=true:=by
   have h4:=(holds_andW hc).1
   rw [hn] at h4
   exact h4
  have h5:=condW_of h4 (w_not (w_lt w_lit (w_len_list (w_arg rfl))))
  rw [ja1] at h5
  refine Nat.le_of_not_lt λ q=>?_
  have q':(n:Int) < ((ns.length:Nat):Int):=by omega
  first
   | (rw [decide_eq_true q'] at h5;exact absurd h5 (by decide))
   | (simp at h5;omega)
 cases hwl with
 | cons w1 w2=>
  cases w2
  cases w1 with
  | list ho hall=>exact ⟨_,_,ns,rfl,rfl,ho,zpg ns _ hall,hlen⟩
theorem qep (l:OpenLaw) (args:List WData):l.row.toRowW.claim.post args (.bool true) args=true:=
 postW_of (r:=l.row.toRowW) (X:=(true == true))
  (show WShape.has [] (.bool true) .bool=true by first | rfl | decide | simp [WShape.has,WShape.arms,WShape.armsAll])
  (show (WTm.eq .res (.lit (.bool true))).value [] { args:=args,res:=some (.bool true),after:=args }=some (.bool (true == true)) from w_eq_bool (w_res rfl) w_lit) rfl
theorem attach_call {l:OpenLaw}{n:Nat}{q:va8}{loose:List Str}{XP:(Str->Option va0)->Heap->Prop}{YP:vb6->Heap->Prop}{d:DefRec}
  (hn:l.most=some n) (hdf:d.params.defaults=[])
  (call:∀ (w:vb6) (s₀ s₁:va1) (mg mb:Str->Option va0) (fa:Addr) (o:Obj) (pm cd doc:va0) (a:Addr) (vs:List va0) (ns:List Int),
   Ground q loose [] XP w s₀ mg mb s₁.heap->YP w s₁.heap ->
   s₁.heap.get? fa=some o->o.data=.func (docDef d.name d.params d.body d.scope pm cd doc)->s₁.heap.CodeRec cd d.name->mg d.name=some (.ref fa) ->
   s₁.heap.get? a=some { cls:=.type "list",data:=.seq vs.toArray }->IntsAre vs ns->ns.length<=n->s₁.gens=#[] ->
   vh4 (vb2 l.prog w) vi9 (.call (.ref fa) ⟨[.ref a],[]⟩) (λ r s'=>r=.ok (.ret (.bool true))/\OldK s₁.heap s'.heap/\s'.os=s₁.os/\vf5 s'.gens) s₁):
  WalkO q loose XP YP l.row.toRowW d [] (λ f vs=>PySem.call f vs):=by
 intro w s₀ s₁ mg mb G Y fa o pm cd doc dV kV ho hd hcd hD hmg hg args vals as hpre hlay hrd hwl hlo
 obtain rfl:dV=.none:=Dflts.none hD hdf
 obtain rfl:kV=.none:=Dflts.noKw hD
 obtain ⟨a,vs,ns,rfl,rfl,hobj,hints,hlen⟩:=qeb hn hpre hwl
 refine enter_call (vi1 (call w s₀ s₁ mg mb fa o pm cd doc a vs ns G Y ho (fd_plain hd) hcd hmg hobj hints hlen hg) λ r s' hq=>?_)
 obtain ⟨rfl,h2,h3,h4⟩:=hq
 exact ⟨.inl ⟨.bool true,.bool true,[],rfl,λ _=>rfl,.bool true,qep l _,λ _=>⟨List.Pairwise.nil,λ _ hm=>(nomatch hm)⟩⟩,h2,h3,h4⟩
section
variable {prog:va8}{w:vb6}{A:vb8}{E:va0->va1->Prop}{s:va1}{K:Frag}
end
end Att
namespace L2
open PySem PySem.Spec PyProof.Rows
theorem zgg:∀ {vs:List va0}{ns:List Int},IntsAre vs ns->Vals (ns.map V.int) vs
 | _,_,.nil=>.nil
 | _,_,.cons n t h=>.cons ⟨t,rfl⟩ (zgg h)
def Only (H:Hp):Prop:=∀ b,H b=none\/∃ o xs,H b=some (.frz o (.lst xs))
theorem qhu {P:va8}{w:vb6}{K:va6}{mg mb:Str->Option va0}{CX:CXT}{k:Nat}{fa a:Addr}{fd:vc4}{x:Str}{sp:Sp}{s₁:va1}{vs:List va0}{ns:List Int}
  (KX:K.In s₁.heap) (hns:s₁.heap.Ns vc1 mg) (hb:s₁.heap.Ns builtinsNs mb) (hbb:∀ x:Str,x ≠ "__name__" -> mb x=ve5 x) (hlim:s₁.heap.NoLimit) (hg:s₁.gens=#[])
  (ha:s₁.heap.get? a=some { cls:=.type "list",data:=.seq vs.toArray }) (hi:IntsAre vs ns) (hl:ns.length<=va2) (hr:Room k vi9)
  (F:∀ base:Heap,K.In base->base.Ns vc1 mg->FnOk P w K mg base CX k fa fd [x] sp) (hbind:∀ (s:va1) (u:va0),BindsTo s fd ⟨[u],[]⟩ [(x,u)])
  (hsp:∀ H:Hp,Only H->SqL K H a (ns.map V.int)->sp [.ref a] H (λ v _=>v=.bl true) λ _ _ _=>False)
  (hCX:∀ H e s',CX [] H s₁ (λ _ _ _=>False) e s'->False):
  vh4 (vb2 P w) vi9 (.call (.ref fa) ⟨[.ref a],[]⟩) (λ r s'=>r=.ok (.ret (.bool true))/\OldK s₁.heap s'.heap/\s'.os=s₁.os/\vf5 s'.gens) s₁:=by
 have rv:=zgg hi
 have lenV:=hi.length
 have core:∀ H:Hp,Only H->SqL K H a (ns.map V.int)->HOk P w H s₁.heap->(∀ b,H b≠none->b=a)->(H a≠none->K.lookup a=none) ->
   vh4 (vb2 P w) vi9 (.call (.ref fa) ⟨[.ref a],[]⟩) (λ r s'=>r=.ok (.ret (.bool true))/\OldK s₁.heap s'.heap/\s'.os=s₁.os/\vf5 s'.gens) s₁:=by
  intro H hO hS hok hA hK
  have base_of:∀ {b:Addr}{o:Obj},s₁.heap.get? b=some o->H b=none->(hidT s₁.heap H).get? b=some o:=λ e n=>qhx e n
  have noA:∀ {b:Addr}{o:Obj}{es:Array DictEntry}{ep:Nat},s₁.heap.get? b=some o->o.data=.dict es ep->H b=none:=λ {b o es ep} e d=>by
   cases q:H b with
   | none=>rfl
   | some u=>
    have e':b=a:=hA b (by rw [q];simp)
    subst e'
    rw [ha] at e;cases e
    have d':Data.seq vs.toArray _=Data.dict es ep:=d
    cases d'
  have nsK:∀ {b:Addr}{m:Str->Option va0},s₁.heap.Ns b m->(hidT s₁.heap H).Ns b m:=λ {b m} ⟨o,es,ep,e,d,r⟩=>⟨o,es,ep,base_of e (noA e d),d,r⟩
  have hKb:K.In (hidT s₁.heap H):=λ b o e=>base_of (KX b o e) (by
   cases q:H b with
   | none=>rfl
   | some u=>
    have e':b=a:=hA b (by rw [q];simp)
    subst e'
    rw [hK (by rw [q];simp)] at e;cases e)
  have hM:Mod K mg (hidT s₁.heap H):=⟨hKb,nsK hns,⟨mb,nsK hb,hbb⟩,let ⟨mc,h1,h2⟩:=hlim;⟨mc,nsK h1,h2⟩⟩
  have e0:Env0 P w K mg (hidT s₁.heap H) vi9 [] s₁ H:=⟨rfl,hM,λ b o e=>qk3 e,Nat.le_of_eq (qfn _ _),trivial,λ b hb=>absurd (show b∈([]:List Addr) from hb) (by simp),hok,.of_eq hg⟩
  refine vi1 ((F _ hKb (nsK hns)).run vi9 [] s₁ H ⟨[.ref a],[]⟩ [.ref a] [.ref a] _ _ hr e0 (hbind s₁ (.ref a)) (.cons rfl .nil) (hsp H hO hS)) λ r s' h=>?_
  cases r with
  | error e=>exact (hCX H e s' h).elim
  | ok fl=>
   cases fl with
   | next=>exact vc6 h
   | brk=>exact vc6 h
   | cont=>exact vc6 h
   | ret u=>
    obtain ⟨v,H',os,bare,un,hok',r',q⟩:=h
    have q':v=.bl true:=q
    subst q'
    obtain rfl:u=Value.bool true:=r'
    refine ⟨rfl,OldK.of_keep λ b o e=>?_,os,bare⟩
    cases q:H b with
    | none=>exact un.keep b o e q (by intro z;exact absurd (show b∈([]:List Addr) from z) (by simp)) (by simp)
    | some u=>
     rcases hO b with z | ⟨ob,xs,z⟩
     ·rw [q] at z;cases z
     ·have z2:=un.frzs b ob _ z
      obtain ⟨e1,_⟩:=hok b _ z
      obtain ⟨e2,_⟩:=hok' b _ z2
      rw [e] at e1;cases e1
      exact e2
 cases hk:K.lookup a with
 | some o=>
  have e:=KX a o hk
  rw [ha] at e
  cases e
  refine core (λ _=>none) (λ _=>.inl rfl) (.inr ⟨_,vs.toArray,_,hk,rfl,rfl,rfl,by rw [jc1,lenV];exact hl,by simpa using rv⟩) (λ b u z=>by have z':(none:Option HO)=some u:=z;cases z') (λ b z=>absurd rfl z) λ z=>absurd rfl z
 | none=>
  refine core (λ b=>if b=a then some (.frz { cls:=.type "list",data:=.seq vs.toArray } (.lst (ns.map V.int))) else none) (λ b=>?_) (.inl (.inr ⟨{ cls:=.type "list",data:=.seq vs.toArray },if_pos rfl⟩)) (λ b u z=>?_) (λ b z=>?_) λ _=>hk
  ·by_cases hb:b=a
   ·exact .inr ⟨_,_,if_pos hb⟩
   ·exact .inl (if_neg hb)
  ·by_cases hb:b=a
   ·have z':=(if_pos hb).symm.trans z
    cases z'
    subst hb
    exact ⟨ha,by rw [ja1];exact hl,vs,_,rv,ha⟩
   ·have z':=(if_neg hb).symm.trans z
    cases z'
  ·by_cases hb:b=a
   ·exact hb
   ·exact absurd (if_neg hb) z
abbrev E0:XK:=λ _ _ _=>False
structure Fun (K:va6) (x qual:Str) (st:Stmt) (f:Addr) (fd:vc4):Prop where
 ex:∃ (oc:va0) (od:Option Addr) (kV doc pm:va0) (an:Option Addr) (cdv ct:va0) (osl:Array (Option va0)),
  fd=vf2 x qual (zpk st) (zql st) (zqh st) .none kV doc pm an cdv ct/\K.lookup f=some ⟨oc,od,.func fd,osl⟩/\vj9 K cdv qual=true
 kp:vd2 K (.ref f)=true
section
variable {P:va8}{w:vb6}{K:va6}{mg:Str->Option va0}{base:Heap}
theorem Fun.binds {x qual:Str}{st:Stmt}{f:Addr}{fd:vc4}{ps:List Str} (F:Fun K x qual st f fd)
  (h:∀ (kV doc pm:va0) (an:Option Addr) (cdv ct:va0) (us:List va0),us.length=ps.length->bindArgs (vf2 x qual (zpk st) (zql st) (zqh st) .none kV doc pm an cdv ct) ⟨us,[]⟩=pure (ps.zip us)):zpu K fd ps []:=by
 obtain ⟨oc,od,kV,doc,pm,an,cdv,ct,osl,rfl,lk,hcd⟩:=F.ex
 exact .all (h kV doc pm an cdv ct)
theorem qo5 {x qual:Str}{st:Stmt}{f:Addr}{oc:va0}{od an:Option Addr}{osl:Array (Option va0)}{kV doc pm cdv ct:va0} (l:K.lookup f=some ⟨oc,od,.func (vf2 x qual (zpk st) (zql st) (zqh st) .none kV doc pm an cdv ct),osl⟩)
  (c:vj9 K cdv qual=true) (k:vd2 K (.ref f)=true):Fun K x qual st f (vf2 x qual (zpk st) (zql st) (zqh st) .none kV doc pm an cdv ct):=⟨⟨oc,od,kV,doc,pm,an,cdv,ct,osl,rfl,l,c⟩,k⟩
end
section
variable {X:Cx}
end
section
variable {κ:Type} [DecidableEq κ]
end
section
variable {P:va8}{w:vb6}{H:Hp}{h:Heap}{a:Addr}
theorem qpt {u:HO} (ok:HOk P w H h) (e:Rd H a u):zwz P w H h a u:=e.ok ok
theorem qp8 {kvs:List (Key×V)} (ok:HOk P w H h) (e:Rd H a (.dK kvs)):kvs.length<=va2/\(a == ve6)=false/\∃ vs,KV kvs vs/\h.DictOf (zvz P w) a vs:=
 show zwz P w H h a (.dK kvs) from qpt ok e
theorem qfv {kvs:List (Key×V)} (ok:HOk P w H h) (e:H a=some (.dK kvs)):kvs.length<=va2/\(a == ve6)=false/\∃ vs,KV kvs vs/\h.DictOf (zvz P w) a vs:=qp8 ok (.inl e)
end
section
variable {X:Cx}{pins:List (Addr×Obj)}{σ:St}{H:Hp}{s:va1}{a:Addr}{y v:V}{u r:va0}{o:Option V}{A:vb8}{E:va0->va1->Prop}
theorem Inv.big (I:Inv X pins σ H s):ve6 < s.heap.objs.size:=by
 have h:vc1 < s.heap.objs.size:=(I.mod.glob.keeps I.bk).lt
 exact jq6 (by decide) h
end
section
variable {X:Cx}{pins:List (Addr×Obj)}{σ:St}{H:Hp}{s:va1}{a:Addr}{kvs:List (Key×V)}{k:Key}{u:va0}{A:vb8}{E:va0->va1->Prop}
end
section
variable {X:Cx}{o i e value:Expr}{pos pos' tpos:Pos}{td ty tv:TE}
end
theorem qh7 {P:va8}{w:vb6}{H:Hp} (h:Heap) (hb:ve6 < h.objs.size):zwz P w H (h.push { cls:=.type "dict",data:=.dict #[] }) h.objs.size (.dT []):=
 ⟨jh5 _,beq_eq_false_iff_ne.mpr (vb1 (jd2 hb)),[],.nil,_,#[],0,vb0 _ rfl,⟨rfl,rfl,rfl⟩,rfl,rfl,List.nodup_nil⟩
def qm2:TE:=λ _ H Q=>∀ p,H p=none->Q (.ref p) (upd H p (.dT []))
section
variable {X:Cx}{pos:Pos}
theorem qhj:PE X (.Dict [] [] pos) qm2:=λ pins s σ H Q I h=>
 wpAny_Dict_empty ⟨.ref s.heap.objs.size,_,I.laid (a:=s.heap.objs.size) (o:=.dT []) (t':=s.toks) (λ _ _ q=>va5 _ q) (jb8 _) (qh7 s.heap I.big),rfl,h _ (I.hok.fresh (jb8 _))⟩
end
end L2
namespace QQ
open PySem PySem.Spec PyProof.Rows L2
abbrev St:=L2.St
def KL (K:Frag) (a:Addr) (xs:List V):Prop:=∃ (o:Obj) (its:Array va0) (n:Nat),K.lookup a=some o/\o.cls=.type "list" /\ o.dict=none/\o.data=.seq its n/\its.size<=va2/\Vals xs its.toList
theorem qaf {K:Frag}{H:Hp}{a:Addr}{xs:List V} (h:SqL K H a xs):tyV K "list" (.ref a) H:=.inl ⟨rfl,xs,h⟩
def ItS (z:Str):It:=⟨λ i _=>i < z.cps.size,λ i H v H'=>H'=H/\∃ c,z.cps[i]?=some c/\v=.str ⟨#[c]⟩,λ i _=>z.cps.size<=i⟩
def qcp (z:Str):Bool:=z.cps.all (·< 128)
def iSeq (K:Frag) (tl:TE):TI:=λ σ H R=>tl σ H λ x H1=>(∃ a,x=.ref a/\(((∃ xs,SqL K H1 a xs)/\R (Itl K a) H1)\/((∃ xs,SqT K H1 a xs)/\R (Itt K a) H1)))\/∃ z,x=.str z/\qcp z=true/\R (ItS z) H1
def qai (k:Nat) (wi:TI) (g:TG) (tc:TT) (te:TE):TE:=λ σ H Q=>wi σ H λ J H1=>∀ D,H1 D=none->∃ W:Nat->Nat->List V->Hp->Prop,(∃ m,W 0 m [] (upd H1 D (.lst [])))/\∀ i m ys H,W i m ys H->H D=some (.lst ys) /\
 ((J.stop i H/\Q (.ref D) H)\/(J.go i H/\∀ x H',J.yld i H x H'->g x (σ++ja7 k none) H' λ σ2 H2=>tc σ2 H2 λ b H3=>if b=true then te σ2 H3 λ y H4=>H4 D=some (.lst ys)/\ys.length < va2/\∃ m',m' < m/\W (i + 1) m' (ys++[y]) (upd H4 D (.lst (ys++[y]))) else ∃ m',m' < m/\W (i + 1) m' ys H3))
inductive PV where
 | non | bl (b:Bool) | int (i:Int) | str (x:Str) | lst (xs:List PV) | tup (xs:List PV) | emp | dko | scr (ns:List Int) | dct (kvs:List (List Key×V)) | exn (c:Nat)
 deriving Inhabited
inductive MO where
 | l (xs:List V) | d (kvs:List (List Key×V))
def MO.ho:MO->HO
 | .l xs=>.lst xs
 | .d kvs=>.dT kvs
def zjy (a C:Addr) (h:Heap):Prop:=∃ o vs,h.get? a=some o/\o.cls=.ref C/\o.data=.fields vs
def om:Nat:=1000
def pd (d:Nat):Nat:=if d=om then om else d - 1
theorem zju:pd om=om:=rfl
theorem qez:pd 0=0:=rfl
mutual
def Own (K:Frag) (H:Hp) (Z:Addr->Prop):PV->Nat->V->List Addr->Prop
 | .non,_,v,fp=>v=.non/\fp=[]
 | .bl b,_,v,fp=>v=.bl b/\fp=[]
 | .int i,_,v,fp=>v=.int i/\fp=[]
 | .str x,_,v,fp=>v=.str x/\fp=[]
 | .emp,_,v,fp=>fp=[]/\∃ a,v=.ref a/\H a=some (.dK [])
 | .dko,_,v,fp=>fp=[]/\∃ a,v=.ref a/\∃ kvs,H a=some (.dK kvs)
 | .scr ns,_,v,fp=>fp=[]/\∃ a,v=.ref a/\((∃ o,H a=some (.frz o (.lst (ns.map V.int))))\/KL K a (ns.map V.int))
 | .exn c,_,v,fp=>fp=[]/\∃ a C,v=.ref a/\zws K c=some C/\H a=some (.ext (zjy a C))
 | .dct kvs,d,v,fp=>∃ a,v=.ref a/\((d=0/\(H a=some (.dT kvs)/\¬ Z a)/\fp=[])\/(d≠0/\H a=some (.dT kvs)/\fp=[a]))
 | .lst xs,d,v,fp=>∃ a vs,v=.ref a/\((d=0/\(H a=some (.lst vs)/\¬ Z a)/\fp=[]/\OwnL K H Z xs 0 vs [])\/(d≠0/\∃ f,H a=some (.lst vs)/\fp=a::f/\a∉f/\OwnL K H Z xs (pd d) vs f))
 | .tup xs,d,v,fp=>∃ a vs,v=.ref a/\H a=some (.tup vs)/\OwnL K H Z xs (pd d) vs fp
def OwnL (K:Frag) (H:Hp) (Z:Addr->Prop):List PV->Nat->List V->List Addr->Prop
 | [],_,vs,fp=>vs=[]/\fp=[]
 | x::xs,d,vs,fp=>∃ v r f1 f2,vs=v::r/\fp=f1++f2/\(∀ a∈f1,a∉f2)/\Own K H Z x d v f1/\OwnL K H Z xs d r f2
end
def Keep (S:Addr->Prop) (H H':Hp):Prop:=∀ a o,H a=some o->¬ S a->H' a=some o
section
variable {K:Frag}{H H':Hp}{Z Z' S:Addr->Prop}
mutual
theorem Own.lsts:∀ (x:PV) (d:Nat) (v:V) (fp:List Addr),Own K H Z x d v fp->∀ a∈fp,∃ o:MO,H a=some o.ho
 | .non,_,_,_,h,a,ha=>by rw [Own] at h;rw [h.2] at ha;cases ha
 | .bl _,_,_,_,h,a,ha=>by rw [Own] at h;rw [h.2] at ha;cases ha
 | .int _,_,_,_,h,a,ha=>by rw [Own] at h;rw [h.2] at ha;cases ha
 | .str _,_,_,_,h,a,ha=>by rw [Own] at h;rw [h.2] at ha;cases ha
 | .emp,_,_,_,h,a,ha=>by rw [Own] at h;rw [h.1] at ha;cases ha
 | .dko,_,_,_,h,a,ha=>by rw [Own] at h;rw [h.1] at ha;cases ha
 | .scr _,_,_,_,h,a,ha=>by rw [Own] at h;rw [h.1] at ha;cases ha
 | .exn _,_,_,_,h,a,ha=>by rw [Own] at h;rw [h.1] at ha;cases ha
 | .dct kvs,d,v,fp,h,a,ha=>by
  rw [Own] at h
  obtain ⟨b,_,⟨_,_,e⟩ | ⟨_,hb,e⟩⟩:=h
  ·rw [e] at ha;cases ha
  ·rw [e] at ha
   rw [jb7.mp ha]
   exact ⟨.d kvs,hb⟩
 | .lst xs,d,v,fp,h,a,ha=>by
  rw [Own] at h
  obtain ⟨b,vs,_,⟨_,_,e,_⟩ | ⟨_,f,hb,e,_,hl⟩⟩:=h
  ·rw [e] at ha;cases ha
  ·rw [e] at ha
   rcases jb2.mp ha with z | z
   ·exact ⟨.l vs,by rw [z];exact hb⟩
   ·exact OwnL.lsts xs _ vs f hl a z
 | .tup xs,d,v,fp,h,a,ha=>by
  rw [Own] at h
  obtain ⟨b,vs,_,_,hl⟩:=h
  exact OwnL.lsts xs _ vs fp hl a ha
theorem OwnL.lsts:∀ (xs:List PV) (d:Nat) (vs:List V) (fp:List Addr),OwnL K H Z xs d vs fp->∀ a∈fp,∃ o:MO,H a=some o.ho
 | [],_,_,_,h,a,ha=>by rw [OwnL] at h;rw [h.2] at ha;cases ha
 | x::xs,d,vs,fp,h,a,ha=>by
  rw [OwnL] at h
  obtain ⟨v,r,f1,f2,_,e,_,h1,h2⟩:=h
  rw [e] at ha
  rcases jc0.mp ha with z | z
  ·exact Own.lsts x d v f1 h1 a z
  ·exact OwnL.lsts xs d r f2 h2 a z
end
mutual
theorem Own.move (k:Keep S H H') (hS:∀ a,S a->Z a/\∃ o:MO,H a=some o.ho) (hz:∀ a,H a≠none->¬ Z a->¬ Z' a):
  ∀ (x:PV) (d:Nat) (v:V) (fp:List Addr),(∀ a∈fp,¬ S a)->Own K H Z x d v fp->Own K H' Z' x d v fp
 | .non,_,_,_,_,h=>by rw [Own] at h ⊢;exact h
 | .bl _,_,_,_,_,h=>by rw [Own] at h ⊢;exact h
 | .int _,_,_,_,_,h=>by rw [Own] at h ⊢;exact h
 | .str _,_,_,_,_,h=>by rw [Own] at h ⊢;exact h
 | .emp,_,_,_,_,h=>by
  rw [Own] at h ⊢
  obtain ⟨e,a,ev,ha⟩:=h
  exact ⟨e,a,ev,k a _ ha λ s=>by obtain ⟨_,o,e⟩:=hS a s;rw [ha] at e;cases o <;> cases e⟩
 | .dko,_,_,_,_,h=>by
  rw [Own] at h ⊢
  obtain ⟨e,a,ev,kvs,ha⟩:=h
  exact ⟨e,a,ev,kvs,k a _ ha λ s=>by obtain ⟨_,o,e⟩:=hS a s;rw [ha] at e;cases o <;> cases e⟩
 | .scr ns,_,_,_,_,h=>by
  rw [Own] at h ⊢
  obtain ⟨e,a,ev,⟨o,ha⟩ | ha⟩:=h
  ·exact ⟨e,a,ev,.inl ⟨o,k a _ ha λ s=>by obtain ⟨_,q,e⟩:=hS a s;rw [ha] at e;cases q <;> cases e⟩⟩
  ·exact ⟨e,a,ev,.inr ha⟩
 | .exn c,_,_,_,_,h=>by
  rw [Own] at h ⊢
  obtain ⟨e,a,C,ev,hc,ha⟩:=h
  exact ⟨e,a,C,ev,hc,k a _ ha λ s=>by obtain ⟨_,q,e⟩:=hS a s;rw [ha] at e;cases q <;> cases e⟩
 | .dct kvs,d,v,fp,hf,h=>by
  rw [Own] at h ⊢
  obtain ⟨b,ev,⟨d0,hr,e⟩ | ⟨d0,hb,e⟩⟩:=h
  ·exact ⟨b,ev,.inl ⟨d0,⟨k b _ hr.1 λ s=>hr.2 (hS b s).1,hz b (by rw [hr.1];simp) hr.2⟩,e⟩⟩
  ·exact ⟨b,ev,.inr ⟨d0,k b _ hb (hf b (by rw [e];exact ja3)),e⟩⟩
 | .lst xs,d,v,fp,hf,h=>by
  rw [Own] at h ⊢
  obtain ⟨b,vs,ev,⟨d0,hr,e,hl⟩ | ⟨d0,f,hb,e,nb,hl⟩⟩:=h
  ·refine ⟨b,vs,ev,.inl ⟨d0,?_,e,OwnL.move k hS hz xs 0 vs [] (λ _ z=>nomatch z) hl⟩⟩
   exact ⟨k b _ hr.1 λ s=>hr.2 (hS b s).1,hz b (by rw [hr.1];simp) hr.2⟩
  ·refine ⟨b,vs,ev,.inr ⟨d0,f,k b _ hb (hf b (by rw [e];exact ja3)),e,nb,?_⟩⟩
   exact OwnL.move k hS hz xs _ vs f (λ a ha=>hf a (by rw [e];exact ja0 _ ha)) hl
 | .tup xs,d,v,fp,hf,h=>by
  rw [Own] at h ⊢
  obtain ⟨b,vs,ev,hr,hl⟩:=h
  exact ⟨b,vs,ev,k b _ hr (λ s=>by obtain ⟨_,o,e⟩:=hS b s;rw [hr] at e;cases o <;> cases e),OwnL.move k hS hz xs _ vs fp hf hl⟩
theorem OwnL.move (k:Keep S H H') (hS:∀ a,S a->Z a/\∃ o:MO,H a=some o.ho) (hz:∀ a,H a≠none->¬ Z a->¬ Z' a):
  ∀ (xs:List PV) (d:Nat) (vs:List V) (fp:List Addr),(∀ a∈fp,¬ S a)->OwnL K H Z xs d vs fp->OwnL K H' Z' xs d vs fp
 | [],_,_,_,_,h=>by rw [OwnL] at h ⊢;exact h
 | x::xs,d,vs,fp,hf,h=>by
  rw [OwnL] at h ⊢
  obtain ⟨v,r,f1,f2,e1,e,dj,h1,h2⟩:=h
  exact ⟨v,r,f1,f2,e1,e,dj,Own.move k hS hz x d v f1 (λ a ha=>hf a (by rw [e];exact jb0 _ ha)) h1,OwnL.move k hS hz xs d r f2 (λ a ha=>hf a (by rw [e];exact ja5 _ ha)) h2⟩
end
mutual
theorem Own.freeze (hz:∀ a,Z' a->Z a):∀ (x:PV) (d:Nat) (v:V) (fp:List Addr),(∀ a∈fp,¬ Z' a)->Own K H Z x d v fp->Own K H Z' x 0 v []
 | .non,_,_,_,_,h=>by rw [Own] at h ⊢;exact ⟨h.1,rfl⟩
 | .bl _,_,_,_,_,h=>by rw [Own] at h ⊢;exact ⟨h.1,rfl⟩
 | .int _,_,_,_,_,h=>by rw [Own] at h ⊢;exact ⟨h.1,rfl⟩
 | .str _,_,_,_,_,h=>by rw [Own] at h ⊢;exact ⟨h.1,rfl⟩
 | .emp,_,_,_,_,h=>by rw [Own] at h ⊢;exact ⟨rfl,h.2⟩
 | .dko,_,_,_,_,h=>by rw [Own] at h ⊢;exact ⟨rfl,h.2⟩
 | .scr _,_,_,_,_,h=>by rw [Own] at h ⊢;exact ⟨rfl,h.2⟩
 | .exn _,_,_,_,_,h=>by rw [Own] at h ⊢;exact ⟨rfl,h.2⟩
 | .dct kvs,d,v,fp,hf,h=>by
  rw [Own] at h ⊢
  obtain ⟨b,ev,⟨d0,hr,e⟩ | ⟨d0,hb,e⟩⟩:=h
  ·exact ⟨b,ev,.inl ⟨rfl,⟨hr.1,λ z=>hr.2 (hz b z)⟩,rfl⟩⟩
  ·exact ⟨b,ev,.inl ⟨rfl,⟨hb,hf b (by rw [e];exact ja3)⟩,rfl⟩⟩
 | .lst xs,d,v,fp,hf,h=>by
  rw [Own] at h ⊢
  obtain ⟨b,vs,ev,⟨d0,hr,e,hl⟩ | ⟨d0,f,hb,e,nb,hl⟩⟩:=h
  ·refine ⟨b,vs,ev,.inl ⟨rfl,?_,rfl,OwnL.freeze hz xs 0 vs [] (λ _ z=>nomatch z) hl⟩⟩
   exact ⟨hr.1,λ z=>hr.2 (hz b z)⟩
  ·exact ⟨b,vs,ev,.inl ⟨rfl,⟨hb,hf b (by rw [e];exact ja3)⟩,rfl,OwnL.freeze hz xs _ vs f (λ a ha=>hf a (by rw [e];exact ja0 _ ha)) hl⟩⟩
 | .tup xs,d,v,fp,hf,h=>by
  rw [Own] at h ⊢
  obtain ⟨b,vs,ev,hr,hl⟩:=h
  exact ⟨b,vs,ev,hr,OwnL.freeze hz xs _ vs fp hf hl⟩
theorem OwnL.freeze (hz:∀ a,Z' a->Z a):∀ (xs:List PV) (d:Nat) (vs:List V) (fp:List Addr),(∀ a∈fp,¬ Z' a)->OwnL K H Z xs d vs fp->OwnL K H Z' xs 0 vs []
 | [],_,_,_,_,h=>by rw [OwnL] at h ⊢;exact ⟨h.1,rfl⟩
 | x::xs,d,vs,fp,hf,h=>by
  rw [OwnL] at h ⊢
  obtain ⟨v,r,f1,f2,e1,e,dj,h1,h2⟩:=h
  exact ⟨v,r,[],[],e1,rfl,λ _ z=>(nomatch z),Own.freeze hz x d v f1 (λ a ha=>hf a (by rw [e];exact jb0 _ ha)) h1,OwnL.freeze hz xs d r f2 (λ a ha=>hf a (by rw [e];exact ja5 _ ha)) h2⟩
end
mutual
theorem Own.full:∀ (x:PV) (v:V) (fp:List Addr),Own K H Z x om v fp->Own K H Z' x om v fp
 | .non,_,_,h=>by rw [Own] at h ⊢;exact h
 | .bl _,_,_,h=>by rw [Own] at h ⊢;exact h
 | .int _,_,_,h=>by rw [Own] at h ⊢;exact h
 | .str _,_,_,h=>by rw [Own] at h ⊢;exact h
 | .emp,_,_,h=>by rw [Own] at h ⊢;exact h
 | .dko,_,_,h=>by rw [Own] at h ⊢;exact h
 | .scr _,_,_,h=>by rw [Own] at h ⊢;exact h
 | .exn _,_,_,h=>by rw [Own] at h ⊢;exact h
 | .dct kvs,v,fp,h=>by
  rw [Own] at h ⊢
  obtain ⟨b,ev,⟨d0,_⟩ | ⟨d0,hb,e⟩⟩:=h
  ·exact absurd d0 (by decide)
  ·exact ⟨b,ev,.inr ⟨d0,hb,e⟩⟩
 | .lst xs,v,fp,h=>by
  rw [Own] at h ⊢
  obtain ⟨b,vs,ev,⟨d0,_⟩ | ⟨d0,f,hb,e,nb,hl⟩⟩:=h
  ·exact absurd d0 (by decide)
  ·exact ⟨b,vs,ev,.inr ⟨d0,f,hb,e,nb,OwnL.full xs vs f hl⟩⟩
 | .tup xs,v,fp,h=>by
  rw [Own] at h ⊢
  obtain ⟨b,vs,ev,hr,hl⟩:=h
  exact ⟨b,vs,ev,hr,OwnL.full xs vs fp hl⟩
theorem OwnL.full:∀ (xs:List PV) (vs:List V) (fp:List Addr),OwnL K H Z xs om vs fp->OwnL K H Z' xs om vs fp
 | [],_,_,h=>by rw [OwnL] at h ⊢;exact h
 | x::xs,vs,fp,h=>by
  rw [OwnL] at h ⊢
  obtain ⟨v,r,f1,f2,e1,e,dj,h1,h2⟩:=h
  exact ⟨v,r,f1,f2,e1,e,dj,Own.full x v f1 h1,OwnL.full xs r f2 h2⟩
end
theorem Own.weak (hz:∀ a,Z' a->Z a) {x:PV}{d:Nat}{v:V}{fp:List Addr} (h:Own K H Z x d v fp):Own K H Z' x d v fp:=
 Own.move (S:=λ _=>False) (λ _ _ h _=>h) (λ _ z=>z.elim) (λ a _ n z=>n (hz a z)) x d v fp (λ _ _ z=>z) h
theorem OwnL.weak (hz:∀ a,Z' a->Z a) {xs:List PV}{d:Nat}{vs:List V}{fp:List Addr} (h:OwnL K H Z xs d vs fp):OwnL K H Z' xs d vs fp:=
 OwnL.move (S:=λ _=>False) (λ _ _ h _=>h) (λ _ z=>z.elim) (λ a _ n z=>n (hz a z)) xs d vs fp (λ _ _ z=>z) h
end
abbrev Slot:=Option (PV×Nat)
abbrev Rho:=List Slot
inductive Rz (α:Type) where
 | ok (a:α) | exc (c:Nat) | no
def Rz.bind {α β:Type} (r:Rz α) (f:α->Rz β):Rz β:=match r with
 | .ok a=>f a
 | .exc c=>.exc c
 | .no=>.no
abbrev Fx:=Rho->Rz (PV×Nat×Rho)
abbrev Fa:=Rho->Rz (List (PV×Nat)×Rho)
abbrev Fb:=Rho->Rz (Bool×Rho)
structure Fm where
 K:Frag
 Ms:Nat->Bool
 Zo:Addr->Prop
 H₀:Hp
 W:St->Nat->Hp->Prop
 io:Option V
 al:Nat->List Nat
 pn:List (Nat×V):=[]
abbrev Fps:=Nat->List Addr
def Fm.Fre (M:Fm) (i:Nat):Prop:=(M.io≠none->i≠0)/\∀ p∈M.pn,p.1≠i
def Zf (M:Fm) (fps:Fps):Addr->Prop:=λ a=>M.Zo a\/∃ i,a∈fps i
def Zv (M:Fm) (vs:List Nat) (fps:Fps):Addr->Prop:=λ a=>M.Zo a\/∃ i,i∉vs/\a∈fps i
def Za (M:Fm) (fps:Fps) (i:Nat):Addr->Prop:=λ a=>M.Zo a\/∃ j,j∉M.al i/\a∈fps j
def Zt (M:Fm) (vs:List Nat) (fps:Fps) (fp:List Addr):Addr->Prop:=λ a=>Zv M vs fps a\/a∈fp
def Fm.plus (M:Fm) (fp:List Addr):Fm:={ M with Zo:=λ a=>M.Zo a\/a∈fp }
structure Rep (M:Fm) (ρ:Rho) (σ:St) (H:Hp) (fps:Fps):Prop where
 own:∀ i x d,ρ[i]?=some (some (x,d))->∃ v,σ[i]?=some (some v)/\Own M.K H (Za M fps i) x d v (fps i)
 non:∀ i,(∀ p,ρ[i]?≠some (some p))->fps i=[]
 dj:∀ i j,i≠j->∀ a∈fps i,a∉fps j
 zo:∀ i,∀ a∈fps i,¬ M.Zo a
 fr:∀ i,M.Ms i=false->∀ a∈fps i,M.H₀ a=none
 zd:∀ a,M.Zo a->H a≠none
 len:ρ.length=σ.length
 msf:∀ i x d,M.Ms i=true->ρ[i]?=some (some (x,d))->d=om
 h0:∀ a,M.H₀ a≠none->H a≠none
 iov:(∀ v,M.io=some v->σ[0]?=some (some v)/\M.Ms 0=true)/\∀ p∈M.pn,σ[p.1]?=some (some p.2)
def Agr (M:Fm) (ρ ρ':Rho):Prop:=(∀ i,M.Ms i=false->ρ'[i]?=ρ[i]?)/\ρ'.length=ρ.length
structure KD (M:Fm) (H:Hp) (fps:Fps) (H':Hp) (fps':Fps):Prop where
 keep:Keep (λ a=>∃ i,M.Ms i=true/\a∈fps i) H H'
 dom:∀ a,H a≠none->H' a≠none
 sub:∀ i,∀ a∈fps' i,a∈fps i\/H a=none
 same:∀ i,M.Ms i=false->fps' i=fps i
def Tmps (K:Frag) (H:Hp) (Z:Addr->Prop):List (PV×Nat)->List V->List Addr->Prop
 | [],vs,fp=>vs=[]/\fp=[]
 | (x,d)::xs,vs,fp=>∃ v r f1 f2,vs=v::r/\fp=f1++f2/\(∀ a∈f1,a∉f2)/\Own K H (λ a=>Z a\/a∈f1) x d v f1/\Tmps K H Z xs r f2
structure Temp (M:Fm) (vs:List Nat) (H:Hp) (H':Hp) (fps':Fps) (fp:List Addr):Prop where
 new:∀ a∈fp,H a=none
 ndj:∀ a∈fp,¬ Zf M fps' a
section
variable {M:Fm}{ρ ρ':Rho}{σ:St}{H H' H'':Hp}{fps fps' fps'':Fps}{vs vs':List Nat}
theorem Agr.refl:Agr M ρ ρ:=⟨λ _ _=>rfl,rfl⟩
theorem Agr.trans {ρ'':Rho} (a:Agr M ρ ρ') (b:Agr M ρ' ρ''):Agr M ρ ρ'':=⟨λ i hi=>(b.1 i hi).trans (a.1 i hi),b.2.trans a.2⟩
theorem KD.refl:KD M H fps H fps:=⟨λ _ _ h _=>h,λ _ h=>h,λ _ _ h=>.inl h,λ _ _=>rfl⟩
theorem KD.trans (a:KD M H fps H' fps') (b:KD M H' fps' H'' fps''):KD M H fps H'' fps'' where
 keep:=λ x o h n=>b.keep x o (a.keep x o h n) λ ⟨i,hi,hx⟩=>(a.sub i x hx).elim (λ z=>n ⟨i,hi,z⟩) λ z=>by rw [z] at h;cases h
 dom:=λ x h=>b.dom x (a.dom x h)
 sub:=λ i x hx=>(b.sub i x hx).elim (λ z=>a.sub i x z) λ z=>.inr (by
  cases e:H x with
  | none=>rfl
  | some o=>exact absurd z (a.dom x (by rw [e];simp)))
 same:=λ i hi=>(b.same i hi).trans (a.same i hi)
theorem Za.zf {i:Nat}{a:Addr} (h:Za M fps i a):Zf M fps a:=h.elim .inl λ ⟨j,_,h⟩=>.inr ⟨j,h⟩
theorem Za.of {i:Nat} (hal:M.al i=[]) {a:Addr} (h:Zf M fps a):Za M fps i a:=h.elim .inl λ ⟨j,h⟩=>.inr ⟨j,(by rw [hal];simp),h⟩
theorem Rep.own0 (r:Rep M ρ σ H fps) (hal:∀ i,M.al i=[]) (i:Nat) (x:PV) (d:Nat) (e:ρ[i]?=some (some (x,d))):∃ v,σ[i]?=some (some v)/\Own M.K H (Zf M fps) x d v (fps i):=
 let ⟨v,h1,h2⟩:=r.own i x d e;⟨v,h1,h2.weak λ _ h=>Za.of (hal i) h⟩
theorem Rep.lsts (r:Rep M ρ σ H fps) {i:Nat}{a:Addr} (h:a∈fps i):∃ o:MO,H a=some o.ho:=by
 by_cases hp:∃ p,ρ[i]?=some (some p)
 ·obtain ⟨⟨x,d⟩,e⟩:=hp
  obtain ⟨v,_,o⟩:=r.own i x d e
  exact Own.lsts x d v _ o a h
 ·rw [r.non i λ p e=>hp ⟨p,e⟩] at h;cases h
theorem Rep.zdom (r:Rep M ρ σ H fps) {a:Addr} (h:Zf M fps a):H a≠none:=by
 rcases h with h | ⟨i,h⟩
 ·exact r.zd a h
 ·obtain ⟨xs,e⟩:=r.lsts h;rw [e];simp
theorem Rep.nz (r:Rep M ρ σ H fps) {a:Addr} (h:H a=none):¬ Zf M fps a:=λ z=>r.zdom z h
theorem Zv.zf {a:Addr} (h:Zv M vs fps a):Zf M fps a:=h.elim .inl λ ⟨i,_,h⟩=>.inr ⟨i,h⟩
theorem Zv.mono (hv:∀ i∈vs',i∈vs) {a:Addr} (h:Zv M vs fps a):Zv M vs' fps a:=h.elim .inl λ ⟨i,n,h⟩=>.inr ⟨i,λ z=>n (hv i z),h⟩
theorem Zt.mono (hv:∀ i∈vs',i∈vs) {a:Addr}{fp:List Addr} (h:Zt M vs fps fp a):Zt M vs' fps fp a:=h.elim (λ h=>.inl (h.mono hv)) .inr
theorem KD.stay (k:KD M H fps H' fps') (r:Rep M ρ σ H fps) (hv:∀ i∈vs,M.Ms i=false) {x:PV}{d:Nat}{v:V}{fp:List Addr} (h:Own M.K H (Zt M vs fps fp) x d v fp) (hf:∀ a∈fp,¬ Zf M fps a):Own M.K H' (Zt M vs fps' fp) x d v fp:=by
 have h1:∀ a,(∃ i,M.Ms i=true/\a∈fps i)->Zt M vs fps fp a/\∃ o:MO,H a=some o.ho:=by
  rintro a ⟨i,hi,ha⟩
  exact ⟨.inl (.inr ⟨i,λ z=>(by rw [hv i z] at hi;cases hi),ha⟩),r.lsts ha⟩
 have h2:∀ a,H a≠none->¬ Zt M vs fps fp a->¬ Zt M vs fps' fp a:=by
  intro a hd nz z
  rcases z with (z | ⟨i,ni,hx⟩) | z
  ·exact nz (.inl (.inl z))
  ·rcases k.sub i a hx with z | z
   ·exact nz (.inl (.inr ⟨i,ni,z⟩))
   ·exact hd z
  ·exact nz (.inr z)
 exact Own.move k.keep h1 h2 x d v fp (λ a ha ⟨i,_,hx⟩=>hf a ha (.inr ⟨i,hx⟩)) h
theorem KD.stays (k:KD M H fps H' fps') (r:Rep M ρ σ H fps) (hv:∀ i∈vs,M.Ms i=false):∀ {xs:List (PV×Nat)}{ws:List V}{fp:List Addr},Tmps M.K H (Zv M vs fps) xs ws fp->(∀ a∈fp,¬ Zf M fps a)->Tmps M.K H' (Zv M vs fps') xs ws fp
 | [],_,_,h,_=>h
 | (x,d)::xs,ws,fp,h,hf=>by
  obtain ⟨v,s,f1,f2,e1,e2,dj,h1,h2⟩:=h
  exact ⟨v,s,f1,f2,e1,e2,dj,k.stay r hv h1 λ a ha=>hf a (by rw [e2];exact jb0 _ ha),k.stays r hv h2 λ a ha=>hf a (by rw [e2];exact ja5 _ ha)⟩
theorem Tmps.weak {K:Frag}{Z Z':Addr->Prop} (hz:∀ a,Z' a->Z a):∀ {xs:List (PV×Nat)}{ws:List V}{fp:List Addr},Tmps K H Z xs ws fp->Tmps K H Z' xs ws fp
 | [],_,_,h=>h
 | (x,d)::xs,ws,fp,h=>by
  obtain ⟨v,s,f1,f2,e1,e2,dj,h1,h2⟩:=h
  exact ⟨v,s,f1,f2,e1,e2,dj,h1.weak λ a h=>h.elim (λ h=>.inl (hz a h)) .inr,h2.weak hz⟩
theorem KD.grow (k:∀ a o,H a=some o->H' a=some o):KD M H fps H' fps:=⟨λ a o h _=>k a o h,λ a h=>by
 cases e:H a with
 | none=>exact absurd e h
 | some o=>rw [k a o e];simp,λ _ _ h=>.inl h,λ _ _=>rfl⟩
theorem Rep.grow (r:Rep M ρ σ H fps) (k:∀ a o,H a=some o->H' a=some o):Rep M ρ σ H' fps where
 own:=λ i x d e=>by
  obtain ⟨v,hv,o⟩:=r.own i x d e
  exact ⟨v,hv,Own.move (S:=λ _=>False) (λ a o h _=>k a o h) (λ _ z=>z.elim) (λ _ _ n=>n) x d v _ (λ _ _ z=>z) o⟩
 non:=r.non
 dj:=r.dj
 zo:=r.zo
 fr:=r.fr
 zd:=λ a h=>(KD.grow (M:=M) (fps:=fps) k).dom a (r.zd a h)
 len:=r.len
 msf:=r.msf
 h0:=λ a h=>(KD.grow (M:=M) (fps:=fps) k).dom a (r.h0 a h)
 iov:=r.iov
end
def tE (M:Fm) (f:Fx) (vs:List Nat):TE:=λ σ H Q=>∃ ρ fps,Rep M ρ σ H fps/\(match f ρ with
 | .ok (x,d,ρ')=>∀ v H' fps' fp,KD M H fps H' fps'->Agr M ρ ρ'->Rep M ρ' σ H' fps'->Own M.K H' (Zt M vs fps' fp) x d v fp->Temp M vs H H' fps' fp->Q v H'
 | .exc c=>∀ H' fps',KD M H fps H' fps'->M.W σ c H'
 | .no=>False)
def tL (M:Fm) (f:Fa) (vs:List Nat):TA:=λ σ H Q=>∃ ρ fps,Rep M ρ σ H fps/\(match f ρ with
 | .ok (xs,ρ')=>∀ ws H' fps' fp,KD M H fps H' fps'->Agr M ρ ρ'->Rep M ρ' σ H' fps'->Tmps M.K H' (Zv M vs fps') xs ws fp->Temp M vs H H' fps' fp->Q ws H'
 | .exc c=>∀ H' fps',KD M H fps H' fps'->M.W σ c H'
 | .no=>False)
def tT (M:Fm) (f:Fb):TT:=λ σ H Q=>∃ ρ fps,Rep M ρ σ H fps/\(match f ρ with
 | .ok (b,ρ')=>∀ H' fps',KD M H fps H' fps'->Agr M ρ ρ'->Rep M ρ' σ H' fps'->Q b H'
 | .exc c=>∀ H' fps',KD M H fps H' fps'->M.W σ c H'
 | .no=>False)
def Leaf (M:Fm) (H:Hp) (fps:Fps) (vs:List Nat) (F:List Addr) (z:PV) (d:Nat) (Q:VK):Prop:=
 ∀ u H' fp,(∀ a o,H a=some o->H' a=some o)->Own M.K H' (Zt M vs fps fp) z d u fp->(∀ a∈fp,a∈F\/H a=none)->Q u H'
section
variable {M:Fm}{ρ ρ':Rho}{σ:St}{H H' H'':Hp}{fps fps' fps'':Fps}{vs vs':List Nat}{f g:Fx}{fa:Fa}{fb:Fb}{Q:VK}
def bC (x:PV):Fx:=λ ρ=>.ok (x,om,ρ)
theorem zbj {x:PV}{v:V} (h:∀ K H Z,Own K H Z x om v []) {σ:St}{H:Hp}{Q:VK} (hq:tE M (bC x) [] σ H Q):tC v σ H Q:=by
 obtain ⟨ρ,fps,rep,q⟩:=hq
 exact q v H fps [] KD.refl Agr.refl rep (h _ _ _) ⟨λ _ z=>(nomatch z),λ _ z=>nomatch z⟩
def dv:PV->Nat
 | .lst _=>0
 | .tup _=>0
 | .dct _=>0
 | _=>om
def bVar (i:Nat):Fx:=λ ρ=>match ρ[i]? with
 | some (some (x,_))=>.ok (x,dv x,ρ)
 | _=>.no
theorem Own.view {K:Frag}{Z Z':Addr->Prop}{x:PV}{d:Nat}{v:V}{fp:List Addr} (hz:∀ a,Z' a->Z a) (hf:∀ a∈fp,¬ Z' a) (h:Own K H Z x d v fp):Own K H Z' x (dv x) v []:=by
 have q:=Own.freeze hz x d v fp hf h
 cases x with
 | lst xs=>exact q
 | tup xs=>exact q
 | dct kvs=>exact q
 | exn _=>rw [Own] at q ⊢;exact q
 | non=>rw [Own] at q ⊢;exact q
 | bl _=>rw [Own] at q ⊢;exact q
 | int _=>rw [Own] at q ⊢;exact q
 | str _=>rw [Own] at q ⊢;exact q
 | emp=>rw [Own] at q ⊢;exact q
 | dko=>rw [Own] at q ⊢;exact q
 | scr _=>rw [Own] at q ⊢;exact q
theorem qiu {i:Nat}{σ:St}{H:Hp}{Q:VK} (hq:tE M (bVar i) (i::M.al i) σ H Q):tVar i σ H Q:=by
 obtain ⟨ρ,fps,rep,q⟩:=hq
 unfold bVar at q
 cases e0:ρ[i]? with
 | none=>rw [e0] at q;exact q.elim
 | some sl=>
  cases sl with
  | none=>rw [e0] at q;exact q.elim
  | some p=>
   obtain ⟨x0,d0⟩:=p
   rw [e0] at q
   obtain ⟨v,hv,o⟩:=rep.own i x0 d0 e0
   refine ⟨v,hv,q v H fps [] KD.refl Agr.refl rep ((o.view (Z':=Zv M (i::M.al i) fps) (λ a h=>h.elim .inl λ ⟨j,n,h⟩=>.inr ⟨j,λ z=>n (ja0 _ z),h⟩) λ a ha z=>?_).weak λ a h=>h.elim id λ z=>nomatch z) ⟨λ _ z=>(nomatch z),λ _ z=>nomatch z⟩⟩
   rcases z with z | ⟨j,nj,hj⟩
   ·exact rep.zo i a ha z
   ·exact rep.dj i j (λ e=>nj (by simp [e])) a ha hj
def bBin (op:PV->Nat->PV->Nat->Option (PV×Nat)) (f g:Fx):Fx:=λ ρ=>(f ρ).bind λ (x,d,ρ1)=>(g ρ1).bind λ (y,e,ρ2)=>match op x d y e with
 | some (z,c)=>.ok (z,c,ρ2)
 | none=>.no
theorem zkq {op:PV->Nat->PV->Nat->Option (PV×Nat)}{r:R2} (hv:∀ i∈vs,M.Ms i=false)
  (leaf:∀ x d y e z c v w H fps f1 f2 Q,op x d y e=some (z,c)->Own M.K H (Zt M (vs++vs') fps f1) x d v f1->Own M.K H (Zt M (vs++vs') fps f2) y e w f2->(∀ a∈f1,a∉f2)->(∀ a∈f1++f2,¬ Zf M fps a)->(∀ a,Zf M fps a->H a≠none)->Leaf M H fps (vs++vs') (f1++f2) z c Q->r v w H Q)
  {σ:St}{H:Hp}{Q:VK} (hq:tE M (bBin op f g) (vs++vs') σ H Q):tOp r (tE M f vs) (tE M g vs') σ H Q:=by
 obtain ⟨ρ,fps,rep,q⟩:=hq
 refine ⟨ρ,fps,rep,?_⟩
 unfold bBin at q
 cases ef:f ρ with
 | no=>rw [ef] at q;exact q
 | exc c=>rw [ef] at q;exact q
 | ok p=>
  obtain ⟨x,d,ρ1⟩:=p
  rw [ef] at q
  intro v H1 fps1 f1 k1 g1 rep1 o1 t1
  refine ⟨ρ1,fps1,rep1,?_⟩
  dsimp only [Rz.bind] at q
  cases eg:g ρ1 with
  | no=>rw [eg] at q;exact q
  | exc c=>rw [eg] at q;exact λ H' fps' k=>q H' fps' (k1.trans k)
  | ok p2=>
   obtain ⟨y,e,ρ2⟩:=p2
   rw [eg] at q
   intro w H2 fps2 f2 k2 g2 rep2 o2 t2
   dsimp only at q
   cases eo:op x d y e with
   | none=>rw [eo] at q;exact q.elim
   | some zc=>
    obtain ⟨z,c⟩:=zc
    rw [eo] at q
    have o1':=k2.stay rep1 hv o1 t1.ndj
    have n1:∀ a∈f1,¬ Zf M fps2 a:=λ a ha z=>by
     rcases z with z | ⟨i,z⟩
     ·exact t1.ndj a ha (.inl z)
     ·rcases k2.sub i a z with z | z
      ·exact t1.ndj a ha (.inr ⟨i,z⟩)
      ·obtain ⟨xs,e⟩:=Own.lsts x d v f1 o1 a ha
       rw [z] at e;cases e
    refine leaf x d y e z c v w H2 fps2 f1 f2 Q eo (o1'.weak λ a h=>Zt.mono (λ i hi=>jb0 _ hi) h) (o2.weak λ a h=>Zt.mono (λ i hi=>ja5 _ hi) h) (λ a h1 h2=>?_) (λ a ha=>?_) (λ a h=>rep2.zdom h) λ u H3 fp k3 o3 hfp=>?_
    ·obtain ⟨xs,e⟩:=Own.lsts x d v f1 o1 a h1
     rw [t2.new a h2] at e;cases e
    ·rcases jc0.mp ha with z | z
     ·exact n1 a z
     ·exact t2.ndj a z
    ·have new:∀ a∈fp,H a=none:=λ a ha=>by
      have back:H1 a=none->H a=none:=λ e=>by
       cases e':H a with
       | none=>rfl
       | some o=>exact absurd e (k1.dom a (by rw [e'];simp))
      have back2:H2 a=none->H1 a=none:=λ e=>by
       cases e':H1 a with
       | none=>rfl
       | some o=>exact absurd e (k2.dom a (by rw [e'];simp))
      rcases hfp a ha with z | z
      ·rcases jc0.mp z with z | z
       ·exact t1.new a z
       ·exact back (t2.new a z)
      ·exact back (back2 z)
     refine q u H3 fps2 fp ((k1.trans k2).trans (KD.grow k3)) (g1.trans g2) (rep2.grow k3) o3 ⟨new,λ a ha=>?_⟩
     rcases hfp a ha with z | z
     ·rcases jc0.mp z with z | z
      ·exact n1 a z
      ·exact t2.ndj a z
     ·exact rep2.nz z
end
section
variable {M:Fm}{vs vs':List Nat}{f g:Fx}{fa:Fa}{fb gb:Fb}
def bUn (op:PV->Nat->Option (PV×Nat)) (f:Fx):Fx:=λ ρ=>(f ρ).bind λ (x,d,ρ1)=>match op x d with
 | some (z,c)=>.ok (z,c,ρ1)
 | none=>.no
theorem qdz {op:PV->Nat->Option (PV×Nat)}{r:V->Hp->VK->Prop}
  (leaf:∀ x d z c v H fps f1 Q,op x d=some (z,c)->Own M.K H (Zt M vs fps f1) x d v f1->(∀ a∈f1,¬ Zf M fps a)->(∀ a,Zf M fps a->H a≠none)->Leaf M H fps vs f1 z c Q->r v H Q)
  {σ:St}{H:Hp}{Q:VK} (hq:tE M (bUn op f) vs σ H Q):tUn r (tE M f vs) σ H Q:=by
 obtain ⟨ρ,fps,rep,q⟩:=hq
 refine ⟨ρ,fps,rep,?_⟩
 unfold bUn at q
 cases ef:f ρ with
 | no=>rw [ef] at q;exact q
 | exc c=>rw [ef] at q;exact q
 | ok p=>
  obtain ⟨x,d,ρ1⟩:=p
  rw [ef] at q
  intro v H1 fps1 f1 k1 g1 rep1 o1 t1
  dsimp only [Rz.bind] at q
  cases eo:op x d with
  | none=>rw [eo] at q;exact q.elim
  | some zc=>
   obtain ⟨z,c⟩:=zc
   rw [eo] at q
   refine leaf x d z c v H1 fps1 f1 Q eo o1 t1.ndj (λ a h=>rep1.zdom h) λ u H3 fp k3 o3 hfp=>?_
   have back:∀ a,H1 a=none->H a=none:=λ a e=>by
    cases e':H a with
    | none=>rfl
    | some o=>exact absurd e (k1.dom a (by rw [e'];simp))
   refine q u H3 fps1 fp (k1.trans (KD.grow k3)) g1 (rep1.grow k3) o3 ⟨λ a ha=>(hfp a ha).elim (t1.new a) (back a),λ a ha=>(hfp a ha).elim (t1.ndj a) λ z=>rep1.nz z⟩
def aNil:Fa:=λ ρ=>.ok ([],ρ)
def zqa (f:Fx) (fa:Fa):Fa:=λ ρ=>(f ρ).bind λ (x,d,ρ1)=>(fa ρ1).bind λ (xs,ρ2)=>.ok ((x,d)::xs,ρ2)
theorem qm0 {σ:St}{H:Hp}{Q:List V->Hp->Prop} (hq:tL M aNil [] σ H Q):tNil σ H Q:=by
 obtain ⟨ρ,fps,rep,q⟩:=hq
 exact q [] H fps [] KD.refl Agr.refl rep ⟨rfl,rfl⟩ ⟨λ _ z=>(nomatch z),λ _ z=>nomatch z⟩
theorem qj1 (hv:∀ i∈vs,M.Ms i=false) {σ:St}{H:Hp}{Q:List V->Hp->Prop} (hq:tL M (zqa f fa) (vs++vs') σ H Q):qcv (tE M f vs) (tL M fa vs') σ H Q:=by
 obtain ⟨ρ,fps,rep,q⟩:=hq
 refine ⟨ρ,fps,rep,?_⟩
 unfold zqa at q
 cases ef:f ρ with
 | no=>rw [ef] at q;exact q
 | exc c=>rw [ef] at q;exact q
 | ok p=>
  obtain ⟨x,d,ρ1⟩:=p
  rw [ef] at q
  intro v H1 fps1 f1 k1 g1 rep1 o1 t1
  refine ⟨ρ1,fps1,rep1,?_⟩
  dsimp only [Rz.bind] at q
  cases eg:fa ρ1 with
  | no=>rw [eg] at q;exact q
  | exc c=>rw [eg] at q;exact λ H' fps' k=>q H' fps' (k1.trans k)
  | ok p2=>
   obtain ⟨ys,ρ2⟩:=p2
   rw [eg] at q
   intro ws H2 fps2 f2 k2 g2 rep2 o2 t2
   dsimp only at q
   have o1':=k2.stay rep1 hv o1 t1.ndj
   have n1:∀ a∈f1,¬ Zf M fps2 a:=λ a ha z=>by
    rcases z with z | ⟨i,z⟩
    ·exact t1.ndj a ha (.inl z)
    ·rcases k2.sub i a z with z | z
     ·exact t1.ndj a ha (.inr ⟨i,z⟩)
     ·obtain ⟨xs,e⟩:=Own.lsts x d v f1 o1 a ha
      rw [z] at e;cases e
   have back:∀ a,H1 a=none->H a=none:=λ a e=>by
    cases e':H a with
    | none=>rfl
    | some o=>exact absurd e (k1.dom a (by rw [e'];simp))
   refine q (v::ws) H2 fps2 (f1++f2) (k1.trans k2) (g1.trans g2) rep2 ⟨v,ws,f1,f2,rfl,rfl,λ a h1 h2=>?_,o1'.weak λ a h=>Zt.mono (λ i hi=>jb0 _ hi) h,o2.weak λ a h=>h.mono λ i hi=>ja5 _ hi⟩ ⟨λ a ha=>?_,λ a ha=>?_⟩
   ·obtain ⟨xs,e⟩:=Own.lsts x d v f1 o1 a h1
    rw [t2.new a h2] at e;cases e
   ·rcases jc0.mp ha with z | z
    ·exact t1.new a z
    ·exact back a (t2.new a z)
   ·rcases jc0.mp ha with z | z
    ·exact n1 a z
    ·exact t2.ndj a z
def zqb (op:List (PV×Nat)->Option (PV×Nat)) (fa:Fa):Fx:=λ ρ=>(fa ρ).bind λ (xs,ρ1)=>match op xs with
 | some (z,c)=>.ok (z,c,ρ1)
 | none=>.no
theorem qah {op:List (PV×Nat)->Option (PV×Nat)}{r:List V->Hp->VK->Prop}
  (leaf:∀ xs z c ws H fps fp Q,op xs=some (z,c)->Tmps M.K H (Zv M vs fps) xs ws fp->(∀ a∈fp,¬ Zf M fps a)->(∀ a,Zf M fps a->H a≠none)->Leaf M H fps vs fp z c Q->r ws H Q)
  {σ:St}{H:Hp}{Q:VK} (hq:tE M (zqb op fa) vs σ H Q):tL M fa vs σ H λ ws H1=>r ws H1 Q:=by
 obtain ⟨ρ,fps,rep,q⟩:=hq
 refine ⟨ρ,fps,rep,?_⟩
 unfold zqb at q
 cases ef:fa ρ with
 | no=>rw [ef] at q;exact q
 | exc c=>rw [ef] at q;exact q
 | ok p=>
  obtain ⟨xs,ρ1⟩:=p
  rw [ef] at q
  intro ws H1 fps1 f1 k1 g1 rep1 o1 t1
  dsimp only [Rz.bind] at q
  cases eo:op xs with
  | none=>rw [eo] at q;exact q.elim
  | some zc=>
   obtain ⟨z,c⟩:=zc
   rw [eo] at q
   refine leaf xs z c ws H1 fps1 f1 Q eo o1 t1.ndj (λ a h=>rep1.zdom h) λ u H3 fp k3 o3 hfp=>?_
   have back:∀ a,H1 a=none->H a=none:=λ a e=>by
    cases e':H a with
    | none=>rfl
    | some o=>exact absurd e (k1.dom a (by rw [e'];simp))
   refine q u H3 fps1 fp (k1.trans (KD.grow k3)) g1 (rep1.grow k3) o3 ⟨λ a ha=>(hfp a ha).elim (t1.new a) (back a),λ a ha=>(hfp a ha).elim (t1.ndj a) λ z=>rep1.nz z⟩
def bT (f:Fx):Fb:=λ ρ=>(f ρ).bind λ (x,_,ρ1)=>match x with
 | .bl b=>.ok (b,ρ1)
 | _=>.no
theorem qdp {σ:St}{H:Hp}{Q:Bool->Hp->Prop} (hq:tT M (bT f) σ H Q):tB (tE M f vs) σ H Q:=by
 obtain ⟨ρ,fps,rep,q⟩:=hq
 refine ⟨ρ,fps,rep,?_⟩
 unfold bT at q
 cases ef:f ρ with
 | no=>rw [ef] at q;exact q
 | exc c=>rw [ef] at q;exact q
 | ok p=>
  obtain ⟨x,d,ρ1⟩:=p
  rw [ef] at q
  intro v H1 fps1 f1 k1 g1 rep1 o1 t1
  dsimp only [Rz.bind] at q
  cases x with
  | bl b=>
   rw [Own] at o1
   exact ⟨b,o1.1,q H1 fps1 k1 g1 rep1⟩
  | _=>exact q.elim
def bAnd (f g:Fb):Fb:=λ ρ=>(f ρ).bind λ (b,ρ1)=>if b=true then g ρ1 else .ok (false,ρ1)
def bOr (f g:Fb):Fb:=λ ρ=>(f ρ).bind λ (b,ρ1)=>if b=true then .ok (true,ρ1) else g ρ1
def bNot (f:Fb):Fb:=λ ρ=>(f ρ).bind λ (b,ρ1)=>.ok (!b,ρ1)
theorem qmm {σ:St}{H:Hp}{Q:Bool->Hp->Prop} (hq:tT M (bAnd fb gb) σ H Q):tAnd (tT M fb) (tT M gb) σ H Q:=by
 obtain ⟨ρ,fps,rep,q⟩:=hq
 refine ⟨ρ,fps,rep,?_⟩
 unfold bAnd at q
 cases ef:fb ρ with
 | no=>rw [ef] at q;exact q
 | exc c=>rw [ef] at q;exact q
 | ok p=>
  obtain ⟨b,ρ1⟩:=p
  rw [ef] at q
  intro H1 fps1 k1 g1 rep1
  dsimp only [Rz.bind] at q
  cases b with
  | false=>exact (q H1 fps1 k1 g1 rep1)
  | true=>
   refine ⟨ρ1,fps1,rep1,?_⟩
   rw [if_pos rfl] at q
   cases eg:gb ρ1 with
   | no=>rw [eg] at q;exact q
   | exc c=>rw [eg] at q;exact λ H' fps' k=>q H' fps' (k1.trans k)
   | ok p2=>rw [eg] at q;exact λ H' fps' k g r=>q H' fps' (k1.trans k) (g1.trans g) r
theorem qpn {σ:St}{H:Hp}{Q:Bool->Hp->Prop} (hq:tT M (bOr fb gb) σ H Q):tOr (tT M fb) (tT M gb) σ H Q:=by
 obtain ⟨ρ,fps,rep,q⟩:=hq
 refine ⟨ρ,fps,rep,?_⟩
 unfold bOr at q
 cases ef:fb ρ with
 | no=>rw [ef] at q;exact q
 | exc c=>rw [ef] at q;exact q
 | ok p=>
  obtain ⟨b,ρ1⟩:=p
  rw [ef] at q
  intro H1 fps1 k1 g1 rep1
  dsimp only [Rz.bind] at q
  cases b with
  | true=>exact (q H1 fps1 k1 g1 rep1)
  | false=>
   refine ⟨ρ1,fps1,rep1,?_⟩
   rw [if_neg jc6] at q
   cases eg:gb ρ1 with
   | no=>rw [eg] at q;exact q
   | exc c=>rw [eg] at q;exact λ H' fps' k=>q H' fps' (k1.trans k)
   | ok p2=>rw [eg] at q;exact λ H' fps' k g r=>q H' fps' (k1.trans k) (g1.trans g) r
theorem qml {σ:St}{H:Hp}{Q:Bool->Hp->Prop} (hq:tT M (bNot fb) σ H Q):tNot (tT M fb) σ H Q:=by
 obtain ⟨ρ,fps,rep,q⟩:=hq
 refine ⟨ρ,fps,rep,?_⟩
 unfold bNot at q
 cases ef:fb ρ with
 | no=>rw [ef] at q;exact q
 | exc c=>rw [ef] at q;exact q
 | ok p=>obtain ⟨b,ρ1⟩:=p;rw [ef] at q;exact q
theorem Tmps.all {K:Frag}{H:Hp}{Z:Addr->Prop}:∀ {xs:List (PV×Nat)}{ws:List V}{fp:List Addr},Tmps K H Z xs ws fp->(∀ p∈xs,p.2=om)->OwnL K H Z (xs.map (·.1)) om ws fp
 | [],_,_,h,_=>by rw [jm4,OwnL];exact h
 | (x,d)::xs,ws,fp,h,ha=>by
  obtain ⟨v,s,f1,f2,e1,e2,dj,h1,h2⟩:=h
  have e:d=om:=ha (x,d) ja3
  subst e
  rw [jc8,OwnL]
  exact ⟨v,s,f1,f2,e1,e2,dj,Own.full x v f1 h1,h2.all λ p hp=>ha p (ja0 _ hp)⟩
theorem Tmps.cold {K:Frag}{H:Hp}{Z:Addr->Prop}:∀ {xs:List (PV×Nat)}{ws:List V}{fp:List Addr},Tmps K H Z xs ws fp->(∀ a∈fp,¬ Z a)->OwnL K H Z (xs.map (·.1)) 0 ws []
 | [],_,_,h,_=>by rw [jm4,OwnL];exact ⟨h.1,rfl⟩
 | (x,d)::xs,ws,fp,h,ha=>by
  obtain ⟨v,s,f1,f2,e1,e2,dj,h1,h2⟩:=h
  rw [jc8,OwnL]
  exact ⟨v,s,[],[],e1,rfl,λ _ z=>(nomatch z),Own.freeze (λ _ z=>.inl z) x d v f1 (λ a z=>ha a (by rw [e2];exact jb0 _ z)) h1,h2.cold λ a z=>ha a (by rw [e2];exact ja5 _ z)⟩
theorem Tmps.length {K:Frag}{H:Hp}{Z:Addr->Prop}:∀ {xs:List (PV×Nat)}{ws:List V}{fp:List Addr},Tmps K H Z xs ws fp->ws.length=xs.length
 | [],_,_,h=>by rw [h.1];rfl
 | (x,d)::xs,ws,fp,h=>by
  obtain ⟨v,s,f1,f2,e1,e2,dj,h1,h2⟩:=h
  rw [e1,jb4,jb4,h2.length]
theorem OwnL.length {K:Frag}{H:Hp}{Z:Addr->Prop}:∀ {xs:List PV}{d:Nat}{ws:List V}{fp:List Addr},OwnL K H Z xs d ws fp->ws.length=xs.length
 | [],_,_,_,h=>by rw [OwnL] at h;rw [h.1];rfl
 | x::xs,d,ws,fp,h=>by
  rw [OwnL] at h
  obtain ⟨v,s,f1,f2,e1,e2,dj,h1,h2⟩:=h
  rw [e1,jb4,jb4,h2.length]
end
inductive Rs where
 | nx (ρ:Rho) | rt (x:PV) (d:Nat) (ρ:Rho) | bk (ρ:Rho) | ct (ρ:Rho) | exc (c:Nat) | no
abbrev Fs:=Rho->Rs
structure KS (M:Fm) (H:Hp) (fps:Fps) (H':Hp) (fps':Fps):Prop where
 keep:Keep (λ a=>∃ i,a∈fps i) H H'
 dom:∀ a,H a≠none->H' a≠none
 sub:∀ i,∀ a∈fps' i,(∃ j,a∈fps j)\/H a=none
def Zr (M:Fm) (fps:Fps):Addr->Prop:=λ a=>M.Zo a\/(M.io≠none/\a∈fps 0)
def RsOk (M:Fm) (D:Ends) (H:Hp) (fps:Fps):Rs->Prop
 | .nx ρ'=>∀ σ' H' fps',KS M H fps H' fps'->Rep M ρ' σ' H' fps'->D.nx σ' H'
 | .bk ρ'=>∀ σ' H' fps',KS M H fps H' fps'->Rep M ρ' σ' H' fps'->D.bk σ' H'
 | .ct ρ'=>∀ σ' H' fps',KS M H fps H' fps'->Rep M ρ' σ' H' fps'->D.ct σ' H'
 | .rt x d ρ'=>∀ v σ' H' fps' fp,KS M H fps H' fps'->Rep M ρ' σ' H' fps'->Own M.K H' (λ a=>Zr M fps' a\/a∈fp) x d v fp->(∀ a∈fp,M.H₀ a=none/\¬ Zr M fps' a)->D.rt v H'
 | .exc c=>∀ σ' H' fps',KS M H fps H' fps'->M.W σ' c H'
 | .no=>False
def tS (M:Fm) (f:Fs):TS:=λ D σ H=>∃ ρ fps,Rep M ρ σ H fps/\RsOk M D H fps (f ρ)
section
variable {M:Fm}{ρ ρ':Rho}{σ σ':St}{H H' H'':Hp}{fps fps' fps'':Fps}{vs vs':List Nat}
theorem KS.refl:KS M H fps H fps:=⟨λ _ _ h _=>h,λ _ h=>h,λ i _ h=>.inl ⟨i,h⟩⟩
theorem KD.ks (k:KD M H fps H' fps'):KS M H fps H' fps':=⟨λ a o h n=>k.keep a o h λ ⟨i,_,z⟩=>n ⟨i,z⟩,k.dom,λ i a h=>(k.sub i a h).elim (λ z=>.inl ⟨i,z⟩) .inr⟩
theorem KS.trans (a:KS M H fps H' fps') (b:KS M H' fps' H'' fps''):KS M H fps H'' fps'' where
 keep:=λ x o h n=>b.keep x o (a.keep x o h n) λ ⟨i,hx⟩=>(a.sub i x hx).elim (λ z=>n z) λ z=>by rw [z] at h;cases h
 dom:=λ x h=>b.dom x (a.dom x h)
 sub:=λ i x hx=>(b.sub i x hx).elim (λ ⟨j,z⟩=>a.sub j x z) λ z=>.inr (by
  cases e:H x with
  | none=>rfl
  | some o=>exact absurd z (a.dom x (by rw [e];simp)))
theorem KS.stay0 (k:KS M H fps H' fps') (r:Rep M ρ σ H fps) {x:PV}{v:V} (h:Own M.K H (Zf M fps) x 0 v []):Own M.K H' (Zf M fps') x 0 v []:=by
 refine Own.move k.keep (λ a ⟨i,ha⟩=>⟨.inr ⟨i,ha⟩,r.lsts ha⟩) ?_ x 0 v [] (λ _ z=>nomatch z) h
 intro a hd nz z
 rcases z with z | ⟨i,hx⟩
 ·exact nz (.inl z)
 ·rcases k.sub i a hx with z | z
  ·exact nz (.inr z)
  ·exact hd z
def sNil:Fs:=λ ρ=>.nx ρ
def sSeq (f g:Fs):Fs:=λ ρ=>match f ρ with
 | .nx ρ1=>g ρ1
 | r=>r
theorem qms {D:Ends} (hq:tS M sNil D σ H):qmz D σ H:=by
 obtain ⟨ρ,fps,rep,q⟩:=hq
 exact q σ H fps KS.refl rep
def sIf (c:Fb) (f g:Fs):Fs:=λ ρ=>match c ρ with
 | .ok (b,ρ1)=>if b=true then f ρ1 else g ρ1
 | .exc e=>.exc e
 | .no=>.no
theorem RsOk.from {D:Ends}{r:Rs} (k1:KS M H fps H' fps') (q:RsOk M D H fps r):RsOk M D H' fps' r:=by
 cases r with
 | no=>exact q
 | exc c=>exact λ σ' H' fps' k=>q σ' H' fps' (k1.trans k)
 | rt x d ρ2=>exact λ v σ' H' fps' fp k=>q v σ' H' fps' fp (k1.trans k)
 | bk ρ2=>exact λ σ' H' fps' k=>q σ' H' fps' (k1.trans k)
 | ct ρ2=>exact λ σ' H' fps' k=>q σ' H' fps' (k1.trans k)
 | nx ρ2=>exact λ σ' H' fps' k=>q σ' H' fps' (k1.trans k)
theorem qmp {f g:Fs}{D:Ends} (hq:tS M (sSeq f g) D σ H):tSeq (tS M f) (tS M g) D σ H:=by
 obtain ⟨ρ,fps,rep,q⟩:=hq
 refine ⟨ρ,fps,rep,?_⟩
 unfold sSeq at q
 cases ef:f ρ with
 | no=>rw [ef] at q;exact q
 | exc c=>rw [ef] at q;exact q
 | rt x d ρ1=>rw [ef] at q;exact q
 | bk ρ1=>rw [ef] at q;exact q
 | ct ρ1=>rw [ef] at q;exact q
 | nx ρ1=>
  rw [ef] at q
  exact λ σ1 H1 fps1 k1 rep1=>⟨ρ1,fps1,rep1,RsOk.from k1 q⟩
theorem qpo {c:Fb}{f g:Fs}{D:Ends} (hq:tS M (sIf c f g) D σ H):tIfS (tT M c) (tS M f) (tS M g) D σ H:=by
 obtain ⟨ρ,fps,rep,q⟩:=hq
 refine ⟨ρ,fps,rep,?_⟩
 unfold sIf at q
 cases ef:c ρ with
 | no=>rw [ef] at q;exact q
 | exc c=>rw [ef] at q;exact λ H' fps' k=>q _ H' fps' k.ks
 | ok p=>
  obtain ⟨b,ρ1⟩:=p
  rw [ef] at q
  intro H1 fps1 k1 g1 rep1
  dsimp only at q
  cases b with
  | true=>
   rw [if_pos rfl] at q ⊢
   exact ⟨ρ1,fps1,rep1,RsOk.from k1.ks q⟩
  | false=>
   rw [if_neg jc6] at q ⊢
   exact ⟨ρ1,fps1,rep1,RsOk.from k1.ks q⟩
def cool (vs:List Nat):Nat->Rho->Rho
 | _,[]=>[]
 | k,s::r=>(if vs.contains k then s.map λ p=>(p.1,0) else s)::cool vs (k + 1) r
def zqk (d:Nat) (vs:List Nat) (ρ:Rho):Rho:=if d=om then ρ else cool vs 0 ρ
theorem zko (vs:List Nat):∀ (ρ:Rho) (k i:Nat),(cool vs k ρ)[i]?=(ρ[i]?).map λ s=>if vs.contains (k + i) then s.map λ p=>(p.1,0) else s
 | [],k,i=>by simp [cool]
 | s::r,k,0=>by simp [cool]
 | s::r,k,i + 1=>by
  rw [cool,jg9,zko vs r (k + 1) i,jg9]
  have:k + 1 + i=k + (i + 1):=by omega
  rw [this]
theorem zbg (vs:List Nat):∀ (ρ:Rho) (k:Nat),(cool vs k ρ).length=ρ.length
 | [],_=>rfl
 | s::r,k=>by rw [cool,jb4,zbg vs r (k + 1),jb4]
def zyd (vs:List Nat) (fps:Fps):Fps:=λ i=>if vs.contains i then [] else fps i
theorem zxz {a:Addr}{i:Nat} (h:a∈zyd vs fps i):a∈fps i/\i∉vs:=by
 unfold zyd at h
 split at h
 ·cases h
 ·rename_i n;exact ⟨h,λ z=>n (by simpa using z)⟩
theorem zki {a:Addr} (h:Zf M (zyd vs fps) a):Zv M vs fps a:=h.elim .inl λ ⟨i,z⟩=>.inr ⟨i,(zxz z).2,(zxz z).1⟩
theorem Rep.cool (r:Rep M ρ σ H fps) (hal:∀ i,M.al i=[]) (hv:∀ i∈vs,M.Ms i=false):Rep M (cool vs 0 ρ) σ H (zyd vs fps) where
 own:=λ i x d e=>by
  rw [zko] at e
  cases e1:ρ[i]? with
  | none=>rw [e1] at e;cases e
  | some s=>
   rw [e1] at e
   simp only [ji9,jl6] at e
   by_cases hc:vs.contains i=true
   ·rw [if_pos hc] at e
    cases s with
    | none=>cases e
    | some p=>
     obtain ⟨x0,d0⟩:=p
     simp only [ji9,Option.some.injEq,Prod.mk.injEq] at e
     obtain ⟨rfl,rfl⟩:=e
     obtain ⟨v,hσ,o⟩:=r.own0 hal i x0 d0 e1
     refine ⟨v,hσ,Own.weak (Z:=Zf M (zyd vs fps)) (λ a h=>h.zf) ?_⟩
     have:zyd vs fps i=[]:=by unfold zyd;rw [if_pos hc]
     rw [this]
     exact Own.freeze (λ a h=>Zv.zf (zki h)) x0 d0 v _ (λ a ha z=>by
      rcases z with z | ⟨j,z⟩
      ·exact r.zo i a ha z
      ·obtain ⟨z1,z2⟩:=zxz z
       exact r.dj i j (λ e=>z2 (by rw [<- e];simpa using hc)) a ha z1) o
   ·rw [if_neg hc] at e
    cases e
    obtain ⟨v,hσ,o⟩:=r.own0 hal i x d e1
    refine ⟨v,hσ,Own.weak (Z:=Zf M (zyd vs fps)) (λ a h=>h.zf) ?_⟩
    have:zyd vs fps i=fps i:=by unfold zyd;rw [if_neg hc]
    rw [this]
    exact o.weak λ a h=>Zv.zf (zki h)
 non:=λ i h=>by
  unfold zyd
  split
  ·rfl
  ·rename_i hc
   refine r.non i λ p e=>h p ?_
   rw [zko,e]
   simp only [ji9,jl6]
   rw [if_neg hc]
 dj:=λ i j hij a ha hb=>r.dj i j hij a (zxz ha).1 (zxz hb).1
 zo:=λ i a ha=>r.zo i a (zxz ha).1
 fr:=λ i hi a ha=>r.fr i hi a (zxz ha).1
 zd:=r.zd
 len:=by rw [zbg];exact r.len
 msf:=λ i x d hi e=>by
  rw [zko] at e
  cases e1:ρ[i]? with
  | none=>rw [e1] at e;cases e
  | some s=>
   rw [e1] at e
   simp only [ji9,jl6] at e
   have hc:¬ vs.contains i=true:=λ z=>by rw [hv i (by simpa using z)] at hi;cases hi
   rw [if_neg hc] at e
   cases e
   exact r.msf i x d hi e1
 h0:=r.h0
 iov:=r.iov
theorem KS.cool (k:KS M H fps H' fps'):KS M H fps H' (zyd vs fps'):=⟨k.keep,k.dom,λ i a h=>k.sub i a (zxz h).1⟩
theorem Rep.wide {fp:List Addr} (hal:∀ i,∀ j∈M.al i,M.Ms j=false) (r:Rep M ρ σ H fps) (k:KD M H fps H' fps') (g:Agr M ρ ρ') (r':Rep M ρ' σ H' fps') (hf:∀ a∈fp,H a=none/\H' a≠none/\¬ Zf M fps' a):Rep (M.plus fp) ρ' σ H' fps' where
 own:=λ i x d e=>by
  by_cases hm:M.Ms i=true
  ·obtain ⟨v,hv,o⟩:=r'.own i x d e
   have hd:=r'.msf i x d hm e
   subst hd
   exact ⟨v,hv,Own.full x v _ o⟩
  ·have hm':M.Ms i=false:=by simpa using hm
   rw [g.1 i hm'] at e
   obtain ⟨v,hv,o⟩:=r.own i x d e
   refine ⟨v,hv,?_⟩
   rw [k.same i hm']
   refine Own.move k.keep (λ a ⟨j,hj,ha⟩=>⟨.inr ⟨j,λ z=>(by rw [hal i j z] at hj;cases hj),ha⟩,r.lsts ha⟩) ?_ x d v _ ?_ o
   ·intro a hd nz z
    rcases z with (z | z) | ⟨j,nj,z⟩
    ·exact nz (.inl z)
    ·exact hd (hf a z).1
    ·rcases k.sub j a z with z | z
     ·exact nz (.inr ⟨j,nj,z⟩)
     ·exact hd z
   ·rintro a ha ⟨j,hj,hx⟩
    exact r.dj i j (λ e=>by rw [e,hj] at hm';cases hm') a ha hx
 non:=r'.non
 dj:=r'.dj
 zo:=λ i a ha z=>z.elim (r'.zo i a ha) λ z=>(hf a z).2.2 (.inr ⟨i,ha⟩)
 fr:=r'.fr
 zd:=λ a z=>z.elim (r'.zd a) λ z=>(hf a z).2.1
 len:=r'.len
 msf:=r'.msf
 h0:=r'.h0
 iov:=r'.iov
theorem Rep.put {i:Nat}{x:PV}{d:Nat}{v:V}{fp:List Addr} (r:Rep (M.plus fp) ρ σ H fps) (h:Own M.K H (λ a=>Za M fps i a\/a∈fp) x d v fp) (hf:∀ a∈fp,M.H₀ a=none/\¬ M.Zo a) (hi:i < ρ.length) (hm:M.Ms i=true->d=om) (hio:M.Fre i):
  Rep M (ρ.set i (some (x,d))) (σ.set i (some v)) H (λ j=>if j=i then fp else fps j):=by
 have zz:∀ a,Zf M (λ j=>if j=i then fp else fps j) a->Zf M fps a\/a∈fp:=λ a h=>by
  rcases h with z | ⟨j,z⟩
  ·exact .inl (.inl z)
  ·by_cases e:j=i
   ·simp only [if_pos e] at z;exact .inr z
   ·simp only [if_neg e] at z;exact .inl (.inr ⟨j,z⟩)
 have zz2:∀ a,Zf M fps a\/a∈fp->Zf (M.plus fp) fps a:=λ a h=>h.elim (λ h=>h.elim (λ z=>.inl (.inl z)) λ z=>.inr z) λ z=>.inl (.inr z)
 refine ⟨λ j y e hj=>?_,λ j hj=>?_,λ j k hjk a ha hb=>?_,λ j a ha z=>?_,λ j hj a ha=>?_,λ a z=>r.zd a (.inl z),?_,λ j y e hj he=>?_,r.h0,?_⟩
 ·by_cases e:j=i
  ·subst e
   rw [jb5 hi] at hj
   cases hj
   refine ⟨v,by rw [jb5 (by rw [<- r.len];exact hi)],?_⟩
   rw [if_pos rfl]
   refine h.weak λ a h=>?_
   rcases h with z | ⟨k,nk,z⟩
   ·exact .inl (.inl z)
   ·by_cases ek:k=j
    ·simp only [if_pos ek] at z;exact .inr z
    ·simp only [if_neg ek] at z;exact .inl (.inr ⟨k,nk,z⟩)
  ·rw [ja9 (vb1 e)] at hj
   obtain ⟨w,hw,o⟩:=r.own j y _ hj
   refine ⟨w,by rw [ja9 (vb1 e)];exact hw,?_⟩
   rw [if_neg e]
   refine o.weak λ a h=>?_
   rcases h with z | ⟨k,nk,z⟩
   ·exact .inl (.inl z)
   ·by_cases ek:k=i
    ·simp only [if_pos ek] at z;exact .inl (.inr z)
    ·simp only [if_neg ek] at z;exact .inr ⟨k,nk,z⟩
 ·by_cases e:j=i
  ·subst e
   exact absurd (jb5 hi) (hj _)
  ·rw [if_neg e]
   exact r.non j λ p hp=>hj p (by rw [ja9 (vb1 e)];exact hp)
 ·by_cases e1:j=i
  ·by_cases e2:k=i
   ·exact hjk (e1.trans e2.symm)
   ·rw [if_pos e1] at ha
    rw [if_neg e2] at hb
    exact r.zo k a hb (.inr ha)
  ·rw [if_neg e1] at ha
   by_cases e2:k=i
   ·rw [if_pos e2] at hb
    exact r.zo j a ha (.inr hb)
   ·rw [if_neg e2] at hb
    exact r.dj j k hjk a ha hb
 ·by_cases e:j=i
  ·rw [if_pos e] at ha;exact (hf a ha).2 z
  ·rw [if_neg e] at ha;exact r.zo j a ha (.inl z)
 ·by_cases e:j=i
  ·rw [if_pos e] at ha;exact (hf a ha).1
  ·rw [if_neg e] at ha;exact r.fr j hj a ha
 ·rw [jc5,jc5];exact r.len
 ·by_cases e:j=i
  ·subst e
   rw [jb5 hi] at he
   cases he
   exact hm hj
  ·rw [ja9 (vb1 e)] at he
   exact r.msf j y _ hj he
 ·refine ⟨λ w hw=>?_,λ p hp=>?_⟩
  ·have h0:i≠0:=hio.1 (by rw [hw];simp)
   rw [ja9 h0]
   exact r.iov.1 w hw
  ·rw [ja9 (hio.2 p hp).symm]
   exact r.iov.2 p hp
def sSet (ms:Bool) (i:Nat) (f:Fx) (vs:List Nat):Fs:=λ ρ=>match f ρ with
 | .ok (x,d,ρ1)=>if i < ρ1.length/\(ms=true->d=om) then .nx ((zqk d vs ρ1).set i (some (x,d))) else .no
 | .exc c=>.exc c
 | .no=>.no
theorem Rep.store {i:Nat}{x:PV}{d:Nat}{v:V}{fp:List Addr} (rep:Rep M ρ σ H fps) (k:KD M H fps H' fps') (g:Agr M ρ ρ') (r':Rep M ρ' σ H' fps') (o:Own M.K H' (Zt M vs fps' fp) x d v fp) (t:Temp M vs H H' fps' fp)
  (hal:∀ i,M.al i=[]) (hv:∀ i∈vs,M.Ms i=false) (hi:i < ρ'.length) (hm:M.Ms i=true->d=om) (hio:M.Fre i):
  ∃ fps2,KS M H fps H' fps2/\Rep M ((zqk d vs ρ').set i (some (x,d))) (σ.set i (some v)) H' fps2:=by
 have back:∀ a,H a=none->M.H₀ a=none:=λ a e=>by
  cases e':M.H₀ a with
  | none=>rfl
  | some o=>exact absurd e (rep.h0 a (by rw [e'];simp))
 have w:Rep (M.plus fp) ρ' σ H' fps':=rep.wide (λ i j hj=>by rw [hal i] at hj;cases hj) k g r' λ a ha=>⟨t.new a ha,by obtain ⟨xs,e⟩:=Own.lsts x d v fp o a ha;rw [e];simp,t.ndj a ha⟩
 have hf:∀ a∈fp,M.H₀ a=none/\¬ M.Zo a:=λ a ha=>⟨back a (t.new a ha),λ z=>t.ndj a ha (.inl z)⟩
 have ks2:∀ {fps2:Fps},(∀ i a,a∈fps2 i->a∈fps' i)->KS M H fps H' (λ j=>if j=i then fp else fps2 j):=λ {fps2} h2=>⟨k.ks.keep,k.dom,λ j a ha=>by
  by_cases e:j=i
  ·simp only [if_pos e] at ha;exact .inr (t.new a ha)
  ·simp only [if_neg e] at ha;exact k.ks.sub j a (h2 j a ha)⟩
 unfold zqk
 by_cases hd:d=om
 ·rw [if_pos hd]
  refine ⟨_,ks2 λ _ _ h=>h,w.put (i:=i) (x:=x) (d:=d) (v:=v) ?_ hf hi hm hio⟩
  rw [hd] at o ⊢
  exact Own.full x v fp o
 ·rw [if_neg hd]
  refine ⟨_,ks2 λ _ _ h=>(zxz h).1,(w.cool (vs:=vs) hal hv).put (i:=i) (x:=x) (d:=d) (v:=v) ?_ hf (by rw [zbg];exact hi) hm hio⟩
  exact o.weak λ a h=>h.elim (λ h=>.inl (zki h.zf)) .inr
theorem qdq {f:Fx}{i:Nat}{ms:Bool}{D:Ends} (hal:∀ i,M.al i=[]) (hv:∀ i∈vs,M.Ms i=false) (hms:M.Ms i=ms) (hio:M.Fre i) (hq:tS M (sSet ms i f vs) D σ H):tAsg (tE M f vs) (zjw i) D σ H:=by
 obtain ⟨ρ,fps,rep,q⟩:=hq
 refine ⟨ρ,fps,rep,?_⟩
 unfold sSet at q
 cases ef:f ρ with
 | no=>rw [ef] at q;exact q
 | exc c=>rw [ef] at q;exact λ H' fps' k=>q _ H' fps' k.ks
 | ok p=>
  obtain ⟨x,d,ρ1⟩:=p
  rw [ef] at q
  intro v H1 fps1 f1 k1 g1 rep1 o1 t1
  dsimp only at q
  by_cases hc:i < ρ1.length/\(ms=true->d=om)
  ·rw [if_pos hc] at q
   obtain ⟨fps2,k2,r2⟩:=Rep.store rep k1 g1 rep1 o1 t1 hal hv hc.1 (λ h=>hc.2 (by rw [<- hms];exact h)) hio
   exact q _ _ _ k2 r2
  ·rw [if_neg hc] at q;exact q.elim
end
section
variable {M:Fm}{ρ ρ':Rho}{σ σ':St}{H H' H'':Hp}{fps fps' fps'':Fps}{vs vs':List Nat}
theorem Zr.zf {a:Addr} (h:Zr M fps a):Zf M fps a:=h.elim .inl λ h=>.inr ⟨0,h.2⟩
theorem Rep.zr (r:Rep M ρ σ H fps) (hv:∀ i∈vs,M.Ms i=false) {a:Addr} (h:Zr M fps a):Zv M vs fps a:=by
 rcases h with h | ⟨h1,h2⟩
 ·exact .inl h
 ·refine .inr ⟨0,λ z=>?_,h2⟩
  cases e:M.io with
  | none=>exact h1 e
  | some v=>have:=(r.iov.1 v e).2;rw [hv 0 z] at this;cases this
theorem Rep.h0' (r:Rep M ρ σ H fps) {a:Addr} (e:H a=none):M.H₀ a=none:=by
 cases e':M.H₀ a with
 | none=>rfl
 | some o=>exact absurd e (r.h0 a (by rw [e'];simp))
def sRet (f:Fx):Fs:=λ ρ=>match f ρ with
 | .ok (x,d,ρ1)=>.rt x d ρ1
 | .exc c=>.exc c
 | .no=>.no
theorem qmq {f:Fx}{D:Ends} (hv:∀ i∈vs,M.Ms i=false) (hq:tS M (sRet f) D σ H):tRet (tE M f vs) D σ H:=by
 obtain ⟨ρ,fps,rep,q⟩:=hq
 refine ⟨ρ,fps,rep,?_⟩
 unfold sRet at q
 cases ef:f ρ with
 | no=>rw [ef] at q;exact q
 | exc c=>rw [ef] at q;exact λ H' fps' k=>q _ H' fps' k.ks
 | ok p=>
  obtain ⟨x,d,ρ1⟩:=p
  rw [ef] at q
  intro v H1 fps1 f1 k1 g1 rep1 o1 t1
  exact q v σ H1 fps1 f1 k1.ks rep1 (o1.weak λ a h=>h.elim (λ h=>.inl (rep1.zr hv h)) .inr) λ a ha=>⟨rep.h0' (t1.new a ha),λ z=>t1.ndj a ha z.zf⟩
def zkp (i:Nat):Fs:=λ ρ=>match ρ[i]? with
 | some (some (x,d))=>.rt x d ρ
 | _=>.no
theorem qjx {i:Nat}{D:Ends} (hal:∀ i,M.al i=[]) (hm:M.Ms i=false) (hq:tS M (zkp i) D σ H):tRet (tVar i) D σ H:=by
 obtain ⟨ρ,fps,rep,q⟩:=hq
 unfold zkp at q
 cases e0:ρ[i]? with
 | none=>rw [e0] at q;exact q.elim
 | some sl=>
  cases sl with
  | none=>rw [e0] at q;exact q.elim
  | some p=>
   obtain ⟨x,d⟩:=p
   rw [e0] at q
   obtain ⟨v,hv,o⟩:=rep.own0 hal i x d e0
   refine ⟨v,hv,q v σ H fps (fps i) KS.refl rep (o.weak λ a h=>h.elim Zr.zf λ z=>.inr ⟨i,z⟩) λ a ha=>⟨rep.fr i hm a ha,λ z=>?_⟩⟩
   rcases z with z | ⟨z1,z2⟩
   ·exact rep.zo i a ha z
   ·cases e:M.io with
    | none=>exact z1 e
    | some w=>exact rep.dj i 0 (λ e'=>by rw [e',(rep.iov.1 w e).2] at hm;cases hm) a ha z2
def zxb (f:Fx):Fs:=λ ρ=>match f ρ with
 | .ok (_,_,ρ1)=>.nx ρ1
 | .exc c=>.exc c
 | .no=>.no
theorem qdv {f:Fx}{D:Ends} (hq:tS M (zxb f) D σ H):qcu (tE M f vs) D σ H:=by
 obtain ⟨ρ,fps,rep,q⟩:=hq
 refine ⟨ρ,fps,rep,?_⟩
 unfold zxb at q
 cases ef:f ρ with
 | no=>rw [ef] at q;exact q
 | exc c=>rw [ef] at q;exact λ H' fps' k=>q _ H' fps' k.ks
 | ok p=>
  obtain ⟨x,d,ρ1⟩:=p
  rw [ef] at q
  intro v H1 fps1 f1 k1 g1 rep1 o1 t1
  exact q σ H1 fps1 k1.ks rep1
theorem OwnL.snoc {K:Frag}{Z:Addr->Prop}{y:PV}{d:Nat}{w:V}{fy:List Addr}:∀ {xs:List PV}{ws:List V}{f:List Addr},OwnL K H Z xs d ws f->Own K H Z y d w fy->(∀ a∈f,a∉fy)->OwnL K H Z (xs++[y]) d (ws++[w]) (f++fy)
 | [],ws,f,h,hy,_=>by
  rw [OwnL] at h
  obtain ⟨rfl,rfl⟩:=h
  show OwnL K H Z [y] d [w] fy
  rw [OwnL]
  refine ⟨w,[],fy,[],rfl,by simp,λ _ _ z=>(nomatch z),hy,?_⟩
  rw [OwnL];exact ⟨rfl,rfl⟩
 | x::xs,ws,f,h,hy,hd=>by
  rw [OwnL] at h
  obtain ⟨v,s,f1,f2,rfl,rfl,dj,h1,h2⟩:=h
  show OwnL K H Z (x::(xs++[y])) d (v::(s++[w])) (f1++f2++fy)
  rw [OwnL]
  refine ⟨v,s++[w],f1,f2++fy,rfl,by rw [jh9],λ a ha hb=>?_,h1,h2.snoc hy λ a ha=>hd a (ja5 _ ha)⟩
  rcases jc0.mp hb with z | z
  ·exact dj a ha z
  ·exact hd a (jb0 _ ha) z
theorem Own.at {K:Frag}{Z Z':Addr->Prop}{a:Addr}{o:HO}{x:PV}{d:Nat}{v:V}{fp:List Addr} (h:Own K H Z x d v fp) (hZ:Z a) (hl:∃ o:MO,H a=some o.ho) (hf:a∉fp) (hz:∀ b,H b≠none->¬ Z b->¬ Z' b):Own K (upd H a o) Z' x d v fp:=
 Own.move (S:=λ b=>b=a) (λ b u hb n=>by rw [zqn n];exact hb) (λ b e=>by rw [e];exact ⟨hZ,hl⟩) hz x d v fp (λ b hb e=>hf (by rw [<- e];exact hb)) h
theorem OwnL.at {K:Frag}{Z Z':Addr->Prop}{a:Addr}{o:HO}{x:List PV}{d:Nat}{v:List V}{fp:List Addr} (h:OwnL K H Z x d v fp) (hZ:Z a) (hl:∃ o:MO,H a=some o.ho) (hf:a∉fp) (hz:∀ b,H b≠none->¬ Z b->¬ Z' b):OwnL K (upd H a o) Z' x d v fp:=
 OwnL.move (S:=λ b=>b=a) (λ b u hb n=>by rw [zqn n];exact hb) (λ b e=>by rw [e];exact ⟨hZ,hl⟩) hz x d v fp (λ b hb e=>hf (by rw [<- e];exact hb)) h
theorem Rep.rewrite {i:Nat}{xs:List PV}{d:Nat}{a:Addr}{ws:List V}{zs:List PV}{us:List V}{e:Nat}{f f' fp:List Addr} (hal:∀ i,M.al i=[]) (r:Rep (M.plus fp) ρ σ H fps) (hi:ρ[i]?=some (some (.lst xs,d))) (hσ:σ[i]?=some (some (.ref a)))
  (ha:H a=some (.lst ws)) (hfp:fps i=a::f) (hn:a∉f') (hsub:∀ b∈f',b∈f\/b∈fp) (he:e≠0) (hm:M.Ms i=true->e=om) (hH:∀ b∈fp,M.H₀ b=none/\¬ M.Zo b)
  (hnew:OwnL M.K (upd H a (.lst us)) (Zf M (λ j=>if j=i then a::f' else fps j)) zs (pd e) us f'):
  Rep M (ρ.set i (some (.lst zs,e))) σ (upd H a (.lst us)) (λ j=>if j=i then a::f' else fps j):=by
 have hlen:i < ρ.length:=(ja8.mp hi).1
 have hai:a∈fps i:=by rw [hfp];exact ja3
 have zz:∀ b,Zf M (λ j=>if j=i then a::f' else fps j) b->Zf (M.plus fp) fps b:=λ b h=>by
  rcases h with z | ⟨j,z⟩
  ·exact .inl (.inl z)
  ·by_cases ej:j=i
   ·simp only [if_pos ej] at z
    rcases jb2.mp z with z | z
    ·exact .inr ⟨i,by rw [z];exact hai⟩
    ·rcases hsub b z with z | z
     ·exact .inr ⟨i,by rw [hfp];exact ja0 _ z⟩
     ·exact .inl (.inr z)
   ·simp only [if_neg ej] at z;exact .inr ⟨j,z⟩
 have dm:∀ b,H b≠none->(upd H a (.lst us)) b≠none:=λ b h=>by
  by_cases eb:b=a
  ·rw [eb,zqo];simp
  ·rw [zqn eb];exact h
 have inI:∀ b,b∈a::f'->b∈fps i\/b∈fp:=λ b hb=>by
  rcases jb2.mp hb with z | z
  ·exact .inl (by rw [z];exact hai)
  ·rcases hsub b z with z | z
   ·exact .inl (by rw [hfp];exact ja0 _ z)
   ·exact .inr z
 refine ⟨λ j y c hj=>?_,λ j hj=>?_,λ j k hjk b hb hc=>?_,λ j b hb z=>?_,λ j hj b hb=>?_,λ b z=>dm b (r.zd b (.inl z)),by rw [jc5];exact r.len,λ j y c hj hc=>?_,λ b z=>dm b (r.h0 b z),r.iov⟩
 ·by_cases ej:j=i
  ·subst ej
   rw [jb5 hlen] at hj
   cases hj
   refine ⟨_,hσ,?_⟩
   rw [if_pos rfl,Own]
   exact ⟨a,us,rfl,.inr ⟨he,f',zqo,rfl,hn,hnew.weak λ _ h=>h.zf⟩⟩
  ·rw [ja9 (vb1 ej)] at hj
   obtain ⟨w,hw,ow⟩:=r.own0 hal j y c hj
   refine ⟨w,hw,?_⟩
   rw [if_neg ej]
   exact ow.at (.inr ⟨i,hai⟩) ⟨.l ws,ha⟩ (λ z=>r.dj j i ej a z hai) λ b _ nz z=>nz (zz b z.zf)
 ·by_cases ej:j=i
  ·subst ej;exact absurd (jb5 hlen) (hj _)
  ·rw [if_neg ej]
   exact r.non j λ p hp=>hj p (by rw [ja9 (vb1 ej)];exact hp)
 ·have one:∀ k,k≠i->∀ b,b∈a::f'->b∈fps k->False:=λ k hk b h1 h2=>(inI b h1).elim (λ z=>r.dj i k (vb1 hk) b z h2) λ z=>r.zo k b h2 (.inr z)
  by_cases e1:j=i
  ·by_cases e2:k=i
   ·exact hjk (e1.trans e2.symm)
   ·rw [if_pos e1] at hb
    rw [if_neg e2] at hc
    exact one k e2 b hb hc
  ·rw [if_neg e1] at hb
   by_cases e2:k=i
   ·rw [if_pos e2] at hc
    exact one j e1 b hc hb
   ·rw [if_neg e2] at hc
    exact r.dj j k hjk b hb hc
 ·by_cases ej:j=i
  ·rw [if_pos ej] at hb
   rcases inI b hb with y | y
   ·exact r.zo i b y (.inl z)
   ·exact (hH b y).2 z
  ·rw [if_neg ej] at hb;exact r.zo j b hb (.inl z)
 ·by_cases ej:j=i
  ·rw [if_pos ej] at hb
   rcases inI b hb with y | y
   ·exact r.fr i (by rw [<- ej];exact hj) b y
   ·exact (hH b y).1
  ·rw [if_neg ej] at hb;exact r.fr j hj b hb
 ·by_cases ej:j=i
  ·subst ej
   rw [jb5 hlen] at hc
   cases hc
   exact hm hj
  ·rw [ja9 (vb1 ej)] at hc
   exact r.msf j y c hj hc
end
section
variable {M:Fm}{ρ ρ':Rho}{σ σ':St}{H H' H'':Hp}{fps fps' fps'':Fps}{vs vs':List Nat}
theorem KS.write {a:Addr}{o:HO}{i:Nat}{f' fp:List Addr} (k:KS M H fps H' fps') (ha:∃ j,a∈fps j) (hs:∀ b∈a::f',b∈fps' i\/H b=none):
  KS M H fps (upd H' a o) (λ j=>if j=i then a::f' else fps' j) where
 keep:=λ b u hb n=>by rw [zqn (λ e=>n (by rw [e];exact ha))];exact k.keep b u hb n
 dom:=λ b hb=>by
  by_cases e:b=a
  ·rw [e,zqo];simp
  ·rw [zqn e];exact k.dom b hb
 sub:=λ j b hb=>by
  by_cases e:j=i
  ·simp only [if_pos e] at hb
   rcases hs b hb with z | z
   ·exact k.sub i b z
   ·exact .inr z
  ·simp only [if_neg e] at hb;exact k.sub j b hb
theorem Rep.behind {x:PV}{d:Nat}{v:V}{fp:List Addr} (rep:Rep M ρ σ H fps) (k:KD M H fps H' fps') (g:Agr M ρ ρ') (r':Rep M ρ' σ H' fps') (o:Own M.K H' (Zt M vs fps' fp) x d v fp) (t:Temp M vs H H' fps' fp)
  (hal:∀ i,M.al i=[]) (hv:∀ i∈vs,M.Ms i=false):∃ fps2,KS M H fps H' fps2/\Rep (M.plus fp) (zqk d vs ρ') σ H' fps2/\Own M.K H' (λ a=>Zf M fps2 a\/a∈fp) x d v fp/\(∀ a∈fp,¬ Zf M fps2 a)/\(∀ i a,a∈fps2 i->a∈fps' i)/\(∀ a∈fp,M.H₀ a=none/\¬ M.Zo a):=by
 have w:Rep (M.plus fp) ρ' σ H' fps':=rep.wide (λ i j hj=>by rw [hal i] at hj;cases hj) k g r' λ a ha=>⟨t.new a ha,by obtain ⟨xs,e⟩:=Own.lsts x d v fp o a ha;rw [e];simp,t.ndj a ha⟩
 have hf:∀ a∈fp,M.H₀ a=none/\¬ M.Zo a:=λ a ha=>⟨rep.h0' (t.new a ha),λ z=>t.ndj a ha (.inl z)⟩
 unfold zqk
 by_cases hd:d=om
 ·rw [if_pos hd]
  refine ⟨fps',k.ks,w,?_,t.ndj,λ _ _ h=>h,hf⟩
  rw [hd] at o ⊢
  exact Own.full x v fp o
 ·rw [if_neg hd]
  exact ⟨zyd vs fps',k.ks.cool,w.cool hal hv,o.weak λ a h=>h.elim (λ h=>.inl (zki h)) .inr,λ a ha z=>t.ndj a ha (zki z).zf,λ _ _ h=>(zxz h).1,hf⟩
def sApp (i:Nat) (f:Fx) (vs:List Nat):Fs:=λ ρ=>match ρ[i]? with
 | some (some (.lst _,0))=>.no
 | some (some (.lst _,_ + 1))=>(match f ρ with
  | .ok (y,e,ρ1)=>(match (zqk e vs ρ1)[i]? with
   | some (some (.lst xs,d))=>if d≠0/\xs.length < va2 then .nx ((zqk e vs ρ1).set i (some (.lst (xs++[y]),if d=om/\e=om then om else 1))) else .no
   | _=>.no)
  | .exc c=>.exc c
  | .no=>.no)
 | _=>.no
theorem zgv:pd 1=0:=by decide
theorem Own.list {K:Frag}{Z:Addr->Prop}{xs:List PV}{d:Nat}{v:V}{fp:List Addr} (h:Own K H Z (.lst xs) d v fp) (hd:d≠0):∃ a ws f,v=.ref a/\H a=some (.lst ws)/\fp=a::f/\a∉f/\OwnL K H Z xs (pd d) ws f:=by
 rw [Own] at h
 obtain ⟨a,ws,e,⟨d0,_⟩ | ⟨_,f,h1,h2,h3,h4⟩⟩:=h
 ·exact absurd d0 hd
 ·exact ⟨a,ws,f,e,h1,h2,h3,h4⟩
theorem qmv {f:Fx}{i:Nat}{D:Ends} (hal:∀ i,M.al i=[]) (hv:∀ i∈vs,M.Ms i=false) (hm:M.Ms i=false) (hq:tS M (sApp i f vs) D σ H):qcu (tBM M.K "list" qao (tVar i) (qcv (tE M f vs) tNil)) D σ H:=by
 obtain ⟨ρ,fps,rep,q⟩:=hq
 unfold sApp at q
 split at q
 ·exact q.elim
 ·rename_i xs0 d0 e0
  obtain ⟨v,hσ,o⟩:=rep.own0 hal i _ _ e0
  obtain ⟨a,ws0,fc0,rfl,ha0,hfp0,_,_⟩:=o.list (jk4 _)
  refine ⟨_,hσ,qaf (.inl (.inl ha0)),ρ,fps,rep,?_⟩
  cases ef:f ρ with
  | no=>rw [ef] at q;exact q
  | exc c=>rw [ef] at q;exact λ H' fps' k=>q _ H' fps' k.ks
  | ok p=>
   obtain ⟨y,e,ρ1⟩:=p
   rw [ef] at q
   intro w H1 fps1 fp k1 g1 rep1 o1 t1
   dsimp only at q
   split at q
   ·rename_i xs d es
    split at q
    ·rename_i hc
     obtain ⟨fps2,k2,r2,o2,n2,s2,h2⟩:=Rep.behind rep k1 g1 rep1 o1 t1 hal hv
     obtain ⟨v',hσ',ol⟩:=r2.own0 hal i _ _ es
     rw [hσ] at hσ'
     cases hσ'
     obtain ⟨a',ws,fc,ev,ha,hfp,nac,hol⟩:=ol.list hc.1
     cases ev
     have hai:a∈fps2 i:=by rw [hfp];exact ja3
     have hafp:a∉fp:=λ z=>n2 a z (.inr ⟨i,hai⟩)
     have hst:∃ j,a∈fps j:=⟨i,by have:=s2 i a hai;rw [k1.same i hm] at this;exact this⟩
     refine ⟨a,ws,w,rfl,rfl,ha,by rw [hol.length];exact hc.2,?_⟩
     by_cases ho:d=om/\e=om
     ·rw [if_pos ho] at q
      obtain ⟨rfl,rfl⟩:=ho
      refine q σ _ _ (k2.write (i:=i) (f':=fc++fp) (fp:=fp) hst λ b hb=>?_) (r2.rewrite hal es hσ ha hfp (λ z=>(jc0.mp z).elim nac hafp) (λ b hb=>jc0.mp hb) (by decide) (λ _=>rfl) h2 ?_)
      ·rcases jb2.mp hb with z | z
       ·exact .inl (by rw [z];exact hai)
       ·rcases jc0.mp z with z | z
        ·exact .inl (by rw [hfp];exact ja0 _ z)
        ·exact .inr (t1.new b z)
      ·have u1:OwnL M.K (upd H1 a (.lst (ws++[w]))) (λ _=>True) xs om ws fc:=(OwnL.full (Z':=λ _=>True) xs ws fc hol).at trivial ⟨.l ws,ha⟩ nac λ _ _ n=>absurd trivial n
       have u2:Own M.K (upd H1 a (.lst (ws++[w]))) (λ _=>True) y om w fp:=(Own.full (Z':=λ _=>True) y w fp o2).at trivial ⟨.l ws,ha⟩ hafp λ _ _ n=>absurd trivial n
       exact OwnL.full _ _ _ (u1.snoc u2 λ b hb z=>n2 b z (.inr ⟨i,by rw [hfp];exact ja0 _ hb⟩))
     ·rw [if_neg ho] at q
      refine q σ _ _ (k2.write (i:=i) (f':=[]) (fp:=fp) hst λ b hb=>?_) (r2.rewrite hal es hσ ha hfp (λ z=>nomatch z) (λ b hb=>nomatch hb) (by decide) (λ h=>by rw [hm] at h;cases h) h2 ?_)
      ·rcases jb2.mp hb with z | z
       ·exact .inl (by rw [z];exact hai)
       ·cases z
      ·rw [zgv]
       have zsub:∀ b,Zf M (λ j=>if j=i then [a] else fps2 j) b->Zf (M.plus fp) fps2 b:=λ b h=>by
        rcases h with z | ⟨j,z⟩
        ·exact .inl (.inl z)
        ·by_cases ej:j=i
         ·simp only [if_pos ej] at z
          rw [jb7.mp z]
          exact .inr ⟨i,hai⟩
         ·simp only [if_neg ej] at z;exact .inr ⟨j,z⟩
       have nf:∀ b∈fc,¬ Zf M (λ j=>if j=i then [a] else fps2 j) b:=λ b hb z=>by
        have hbi:b∈fps2 i:=by rw [hfp];exact ja0 _ hb
        rcases z with z | ⟨j,z⟩
        ·exact r2.zo i b hbi (.inl z)
        ·by_cases ej:j=i
         ·simp only [if_pos ej] at z
          rw [jb7.mp z] at hb;exact nac hb
         ·simp only [if_neg ej] at z;exact r2.dj i j (vb1 ej) b hbi z
       have nfp:∀ b∈fp,¬ Zf M (λ j=>if j=i then [a] else fps2 j) b:=λ b hb z=>by
        rcases z with z | ⟨j,z⟩
        ·exact n2 b hb (.inl z)
        ·by_cases ej:j=i
         ·simp only [if_pos ej] at z
          rw [jb7.mp z] at hb;exact hafp hb
         ·simp only [if_neg ej] at z;exact n2 b hb (.inr ⟨j,z⟩)
       have za:Zf M (λ j=>if j=i then [a] else fps2 j) a:=.inr ⟨i,by simp⟩
       have u1:=(OwnL.freeze (Z':=Zf M (λ j=>if j=i then [a] else fps2 j)) zsub xs _ ws fc nf hol)
       have u2:=(Own.freeze (Z':=Zf M (λ j=>if j=i then [a] else fps2 j)) (λ b h=>by
        rcases h with z | ⟨j,z⟩
        ·exact .inl (.inl z)
        ·by_cases ej:j=i
         ·simp only [if_pos ej] at z
          rw [jb7.mp z]
          exact .inl (.inr ⟨i,hai⟩)
         ·simp only [if_neg ej] at z;exact .inl (.inr ⟨j,z⟩)) y _ w fp nfp o2)
       exact (u1.at za ⟨.l ws,ha⟩ (λ z=>nomatch z) λ _ _ n=>n).snoc (u2.at za ⟨.l ws,ha⟩ (λ z=>nomatch z) λ _ _ n=>n) λ _ z=>nomatch z
    ·exact q.elim
   ·exact q.elim
 ·exact q.elim
def zjo:PV->Bool
 | .lst _=>false
 | .tup _=>false
 | .dct _=>false
 | _=>true
theorem OwnL.set {K:Frag}{Z:Addr->Prop}{y:PV}{d:Nat}{w:V} (hy:Own K H Z y d w []):∀ {xs:List PV}{ws:List V}{f:List Addr} (k:Nat),OwnL K H Z xs d ws f->∃ f',(∀ b∈f',b∈f)/\OwnL K H Z (xs.set k y) d (ws.set k w) f'
 | [],ws,f,k,h=>by
  rw [OwnL] at h
  obtain ⟨rfl,rfl⟩:=h
  refine ⟨[],λ _ z=>z,?_⟩
  rw [jm5,jm5,OwnL];exact ⟨rfl,rfl⟩
 | x::xs,ws,f,0,h=>by
  rw [OwnL] at h
  obtain ⟨v,s,f1,f2,rfl,rfl,dj,h1,h2⟩:=h
  refine ⟨f2,λ b hb=>ja5 _ hb,?_⟩
  rw [jg1,jg1,OwnL]
  exact ⟨w,s,[],f2,rfl,rfl,λ _ z=>(nomatch z),hy,h2⟩
 | x::xs,ws,f,k + 1,h=>by
  rw [OwnL] at h
  obtain ⟨v,s,f1,f2,rfl,rfl,dj,h1,h2⟩:=h
  obtain ⟨f',hs,h'⟩:=h2.set hy k
  refine ⟨f1++f',λ b hb=>(jc0.mp hb).elim (λ z=>jb0 _ z) λ z=>ja5 _ (hs b z),?_⟩
  rw [jg2,jg2,OwnL]
  exact ⟨v,s.set k w,f1,f',rfl,rfl,λ b hb hc=>dj b hb (hs b hc),h1,h'⟩
theorem Own.atom {K:Frag}{Z Z':Addr->Prop}{y:PV}{d d':Nat}{w:V}{fp:List Addr} (hy:zjo y=true) (h:Own K H Z y d w fp):fp=[]/\Own K H Z' y d' w []:=by
 cases y with
 | lst _=>cases hy
 | tup _=>cases hy
 | dct _=>cases hy
 | exn _=>rw [Own] at h ⊢;exact ⟨h.1,rfl,h.2⟩
 | emp=>rw [Own] at h ⊢;exact ⟨h.1,rfl,h.2⟩
 | dko=>rw [Own] at h ⊢;exact ⟨h.1,rfl,h.2⟩
 | scr _=>rw [Own] at h ⊢;exact ⟨h.1,rfl,h.2⟩
 | non=>rw [Own] at h ⊢;exact ⟨h.2,h.1,rfl⟩
 | bl _=>rw [Own] at h ⊢;exact ⟨h.2,h.1,rfl⟩
 | int _=>rw [Own] at h ⊢;exact ⟨h.2,h.1,rfl⟩
 | str _=>rw [Own] at h ⊢;exact ⟨h.2,h.1,rfl⟩
def sPut (i:Nat) (k:Int) (f:Fx):Fs:=λ ρ=>match f ρ with
 | .ok (y,_,ρ1)=>(match ρ1[i]? with
  | some (some (.lst xs,d))=>(match ixN xs.length k with
   | some j=>if d≠0/\zjo y=true then .nx (ρ1.set i (some (.lst (xs.set j y),d))) else .no
   | none=>.no)
  | _=>.no)
 | .exc c=>.exc c
 | .no=>.no
theorem qmr {f:Fx}{i:Nat}{k:Int}{D:Ends} (hal:∀ i,M.al i=[]) (hv:∀ i∈vs,M.Ms i=false) (hq:tS M (sPut i k f) D σ H):tAsg (tE M f vs) (gSub (tVar i) (tC (.int k)) qhc) D σ H:=by
 obtain ⟨ρ,fps,rep,q⟩:=hq
 refine ⟨ρ,fps,rep,?_⟩
 unfold sPut at q
 cases ef:f ρ with
 | no=>rw [ef] at q;exact q
 | exc c=>rw [ef] at q;exact λ H' fps' k=>q _ H' fps' k.ks
 | ok p=>
  obtain ⟨y,e,ρ1⟩:=p
  rw [ef] at q
  intro w H1 fps1 fp k1 g1 rep1 o1 t1
  dsimp only at q
  split at q
  ·rename_i xs d es
   split at q
   ·rename_i j ej
    split at q
    ·rename_i hc
     obtain ⟨rfl,_⟩:=Own.atom (Z':=λ _=>True) (d':=0) hc.2 o1
     obtain ⟨v',hσ',ol⟩:=rep1.own0 hal i _ _ es
     obtain ⟨a,ws,fc,rfl,ha,hfp,nac,hol⟩:=ol.list hc.1
     have hai:a∈fps1 i:=by rw [hfp];exact ja3
     refine ⟨_,hσ',a,ws,k,j,rfl,rfl,ha,by rw [hol.length];exact ej,?_⟩
     have rp:Rep (M.plus []) ρ1 σ H1 fps1:=rep.wide (λ i j hj=>by rw [hal i] at hj;cases hj) k1 g1 rep1 λ b hb=>nomatch hb
     obtain ⟨fc',hs',hset⟩:=hol.set (Own.atom (d':=pd d) hc.2 o1).2 j
     have inI:∀ b,b∈a::fc'->b∈fps1 i:=λ b hb=>(jb2.mp hb).elim (λ z=>by rw [z];exact hai) λ z=>by rw [hfp];exact ja0 _ (hs' b z)
     have hst:KS M H fps (upd H1 a (.lst (ws.set j w))) (λ j=>if j=i then a::fc' else fps1 j):=by
      refine ⟨λ b u hb n=>?_,λ b hb=>?_,λ j b hb=>?_⟩
      ·have hb1:=k1.ks.keep b u hb n
       rw [zqn]
       ·exact hb1
       ·rintro rfl
        rcases k1.ks.sub i b hai with z | z
        ·exact n z
        ·rw [z] at hb;cases hb
      ·by_cases eb:b=a
       ·rw [eb,zqo];simp
       ·rw [zqn eb];exact k1.dom b hb
      ·by_cases ej:j=i
       ·simp only [if_pos ej] at hb;exact k1.ks.sub i b (inI b hb)
       ·simp only [if_neg ej] at hb;exact k1.ks.sub j b hb
     refine q σ _ _ hst (rp.rewrite hal es hσ' ha hfp (λ z=>nac (hs' a z)) (λ b hb=>.inl (hs' b hb)) hc.1 (λ h=>rep1.msf i _ _ h es) (λ b hb=>nomatch hb) ?_)
     have nz:∀ b,Zf M (λ j=>if j=i then a::fc' else fps1 j) b->Zf M fps1 b:=λ b h=>by
      rcases h with z | ⟨j,z⟩
      ·exact .inl z
      ·by_cases ej:j=i
       ·simp only [if_pos ej] at z;exact .inr ⟨i,inI b z⟩
       ·simp only [if_neg ej] at z;exact .inr ⟨j,z⟩
     exact hset.at (.inr ⟨i,hai⟩) ⟨.l ws,ha⟩ (λ z=>nac (hs' a z)) λ b _ n z=>n (nz b z)
    ·exact q.elim
   ·exact q.elim
  ·exact q.elim
end
section
variable {is:List Nat}{M:Fm}{ρ ρ':Rho}{σ σ':St}{H H' H'':Hp}{fps fps' fps'':Fps}{vs vs':List Nat}
theorem Rep.plus0 (hal:∀ i,∀ j∈M.al i,M.Ms j=false) (r:Rep M ρ σ H fps):Rep (M.plus []) ρ σ H fps:=r.wide hal KD.refl Agr.refl r (λ _ z=>nomatch z)
def GOk (M:Fm) (al is:List Nat) (g:TG) (asg:PV->Rho->Option Rho):Prop:=∀ y v ρ σ H fps ρ' (Q:St->Hp->Prop),Rep M ρ σ H fps->Own M.K H (Zv M al fps) y 0 v []->asg y ρ=some ρ'->(∀ σ' fps',(∀ i,∀ a∈fps' i,a∈fps i)->(∀ i,i∉is->ρ'[i]?=ρ[i]?/\fps' i=fps i/\σ'[i]?=σ[i]?)->ρ'.length=ρ.length->Rep M ρ' σ' H fps'->Q σ' H)->g v σ H Q
def asgN (i:Nat):PV->Rho->Option Rho:=λ y ρ=>if i < ρ.length then some (ρ.set i (some (y,dv y))) else none
theorem Own.dv {K:Frag}{Z:Addr->Prop}{x:PV}{v:V} (h:Own K H Z x 0 v []):Own K H Z x (dv x) v []:=Own.view (fp:=[]) (λ _ z=>z) (λ _ z=>nomatch z) h
structure Bd (M:Fm) (al:List Nat) (i:Nat):Prop where
 ms:M.Ms i=false
 io:M.Fre i
 al:M.al i=al
 als:∀ i,∀ j∈M.al i,M.Ms j=false
theorem Rep.bind1 {al:List Nat}{i:Nat}{y:PV}{v:V} (r:Rep M ρ σ H fps) (o:Own M.K H (Zv M al fps) y 0 v []) (hi:i < ρ.length) (b:Bd M al i):
  Rep M (ρ.set i (some (y,dv y))) (σ.set i (some v)) H (λ j=>if j=i then [] else fps j):=by
 refine (r.plus0 b.als).put (o.dv.weak λ a h=>h.elim (λ h=>?_) λ z=>nomatch z) (λ _ z=>nomatch z) hi (λ h=>by rw [b.ms] at h;cases h) b.io
 rcases h with h | ⟨j,nj,h⟩
 ·exact .inl h
 ·exact .inr ⟨j,by rw [b.al] at nj;exact nj,h⟩
theorem qjd {al:List Nat}{i:Nat} (b:Bd M al i):GOk M al [i] (zjw i) (asgN i):=by
 intro y v ρ σ H fps ρ' Q r o e q
 unfold asgN at e
 split at e
 ·rename_i hi
  cases e
  refine q _ _ (λ j a ha=>?_) (λ j nj=>?_) (by rw [jc5]) (r.bind1 o hi b)
  ·by_cases e:j=i
   ·simp only [if_pos e] at ha;cases ha
   ·simp only [if_neg e] at ha;exact ha
  ·have e:j≠i:=λ e=>nj (by simp [e])
   exact ⟨ja9 (vb1 e),if_neg e,ja9 (vb1 e)⟩
 ·cases e
def zmf:List Nat->TGs
 | []=>gNil
 | i::is=>qo4 (zjw i) (zmf is)
def asgs:List Nat->List PV->Rho->Option Rho
 | [],[],ρ=>some ρ
 | i::is,y::ys,ρ=>(asgN i y ρ).bind (asgs is ys)
 | _,_,_=>none
def asgT (is:List Nat):PV->Rho->Option Rho:=λ y ρ=>match y with
 | .tup ys=>asgs is ys ρ
 | _=>none
theorem qfq {al:List Nat}:∀ (is:List Nat) (ys:List PV) (ws:List V) (ρ:Rho) (σ:St) (H:Hp) (fps:Fps) (ρ':Rho) (Q:St->Hp->Prop),(∀ i∈is,Bd M al i)->Rep M ρ σ H fps->OwnL M.K H (Zv M al fps) ys 0 ws []->asgs is ys ρ=some ρ' ->
  (∀ σ' fps',(∀ i,∀ a∈fps' i,a∈fps i)->(∀ i,i∉is->ρ'[i]?=ρ[i]?/\fps' i=fps i/\σ'[i]?=σ[i]?)->ρ'.length=ρ.length->Rep M ρ' σ' H fps'->Q σ' H)->ws.length=is.length/\zmf is ws σ H Q
 | [],[],ws,ρ,σ,H,fps,ρ',Q,_,r,o,e,q=>by
  rw [OwnL] at o
  obtain ⟨rfl,_⟩:=o
  cases e
  exact ⟨rfl,rfl,q σ fps (λ _ _ h=>h) (λ _ _=>⟨rfl,rfl,rfl⟩) rfl r⟩
 | [],_::_,_,_,_,_,_,_,_,_,_,_,e,_=>by cases e
 | _::_,[],_,_,_,_,_,_,_,_,_,_,e,_=>by cases e
 | i::is,y::ys,ws,ρ,σ,H,fps,ρ',Q,hs,r,o,e,q=>by
  rw [OwnL] at o
  obtain ⟨v,s,f1,f2,rfl,ef,_,o1,o2⟩:=o
  obtain ⟨rfl,rfl⟩:f1=[]/\f2=[]:=by simpa using ef.symm
  unfold asgs at e
  cases e1:asgN i y ρ with
  | none=>rw [e1] at e;cases e
  | some ρ1=>
   rw [e1] at e
   unfold asgN at e1
   split at e1
   ·rename_i hi
    cases e1
    have bi:=hs i ja3
    have r':=r.bind1 o1 hi bi
    have sub:∀ j a,a∈(λ j=>if j=i then [] else fps j) j->a∈fps j:=λ j a z=>by
     by_cases ej:j=i
     ·simp only [if_pos ej] at z;cases z
     ·simp only [if_neg ej] at z;exact z
    have o2':OwnL M.K H (Zv M al (λ j=>if j=i then [] else fps j)) ys 0 s []:=o2.weak λ a h=>h.elim .inl λ ⟨j,nj,z⟩=>.inr ⟨j,nj,sub j a z⟩
    obtain ⟨hl,hg⟩:=qfq is ys s _ _ H _ ρ' Q (λ j hj=>hs j (ja0 _ hj)) r' o2' e λ σ' fps' k' a' l' r''=>q σ' fps' (λ j a ha=>sub j a (k' j a ha)) (λ j hj=>by
     have ej:j≠i:=λ e=>hj (by rw [e];exact ja3)
     obtain ⟨z1,z2,z3⟩:=a' j λ z=>hj (ja0 _ z)
     rw [if_neg ej] at z2
     exact ⟨z1.trans (ja9 (vb1 ej)),z2,z3.trans (ja9 (vb1 ej))⟩) (l'.trans (by rw [jc5])) r''
    exact ⟨by rw [jb4,jb4,hl],v,s,rfl,hg⟩
   ·cases e1
theorem qlq {al:List Nat}{is:List Nat} (hs:∀ i∈is,Bd M al i):GOk M al is (gTup M.K is.length (zmf is)) (asgT is):=by
 intro y v ρ σ H fps ρ' Q r o e q
 unfold asgT at e
 split at e
 ·rename_i ys
  rw [Own] at o
  obtain ⟨a,ws,rfl,hr,ol⟩:=o
  obtain ⟨hl,hg⟩:=qfq is ys ws ρ σ H fps ρ' Q hs r ol e q
  exact ⟨a,ws,rfl,.inl (.inl hr),hl,hg⟩
 ·cases e
def zxu (asg:PV->Rho->Option Rho) (body:Fs):List PV->Rho->Rs
 | [],ρ=>.nx ρ
 | x::xs,ρ=>match asg x ρ with
  | none=>.no
  | some ρ1=>match body ρ1 with
   | .nx ρ2=>zxu asg body xs ρ2
   | .ct ρ2=>zxu asg body xs ρ2
   | .bk ρ2=>.nx ρ2
   | .rt x d ρ2=>.rt x d ρ2
   | .exc c=>.exc c
   | .no=>.no
theorem zpi {g:TG}{asg:PV->Rho->Option Rho}{body:Fs}{D:Ends}{J:It}{els:List PV}{Pq:Hp->Fps->Prop} (hg:GOk M [] is g asg)
  (hP:∀ {ρ σ H fps H' fps'},Rep M ρ σ H fps->KS M H fps H' fps'->Pq H fps->Pq H' fps') (hgo:∀ {H fps i},Pq H fps->i < els.length->J.go i H) (hst:∀ {H fps i},Pq H fps->els.length<=i->J.stop i H)
  (hy:∀ {ρ σ H fps i x H'},Rep M ρ σ H fps->Pq H fps->i < els.length->J.yld i H x H'->(∀ a o,H a=some o->H' a=some o)/\∃ y,els[i]?=some y/\Own M.K H' (Zf M fps) y 0 x [])
  (rep:Rep M ρ σ H fps) (p:Pq H fps) (q:RsOk M D H fps (zxu asg body els ρ)):
  ∃ W:Nat->Nat->St->Hp->Prop,(∃ m,W 0 m σ H)/\∀ i m σ H,W i m σ H ->
   (J.stop i H/\D.nx σ H)\/(J.go i H/\∃ N:St->Hp->Prop,(∀ σ' H',N σ' H'->∃ m',m' < m/\W (i + 1) m' σ' H')/\∀ x H',J.yld i H x H'->g x σ H' λ σ2 H2=>(tS M body) { D with nx:=N,ct:=N,bk:=D.nx } σ2 H2):=by
 let W:Nat->Nat->St->Hp->Prop:=λ i m σ H=>m=els.length - i/\∃ ρ fps,Rep M ρ σ H fps/\Pq H fps/\RsOk M D H fps (zxu asg body (els.drop i) ρ)
 refine ⟨W,⟨els.length,by simp,ρ,fps,rep,p,by simpa using q⟩,?_⟩
 rintro i m σ H ⟨rfl,ρ,fps,r,p,q⟩
 by_cases hi:i < els.length
 ·right
  refine ⟨hgo p hi,W (i + 1) (els.length - (i + 1)),λ σ' H' w=>⟨_,by omega,w⟩,λ x H' y=>?_⟩
  obtain ⟨kx,z,ez,oz⟩:=hy r p hi y
  have k0:KS M H fps H' fps:=(KD.grow kx).ks
  have p:=hP r k0 p
  have r:=r.grow kx
  have q:=RsOk.from k0 q
  have ed:els.drop i=z::els.drop (i + 1):=by
   obtain ⟨h1,h2⟩:=ja8.mp ez
   rw [<- h2];exact jf1 h1
  rw [ed] at q
  unfold zxu at q
  cases ea:asg z ρ with
  | none=>rw [ea] at q;exact q.elim
  | some ρ1=>
   rw [ea] at q
   dsimp only at q
   refine hg z x ρ σ _ fps ρ1 _ r (oz.weak λ a h=>h.zf) ea λ σ1 fps1 s1 _ _ r1=>⟨ρ1,fps1,r1,?_⟩
   have k1:KS M H' fps H' fps1:=⟨λ _ _ h _=>h,λ _ h=>h,λ j a ha=>.inl ⟨j,s1 j a ha⟩⟩
   have p1:=hP r k1 p
   cases eb:body ρ1 with
   | no=>rw [eb] at q;exact q
   | exc c=>rw [eb] at q;exact RsOk.from (r:=.exc c) k1 q
   | rt x d ρ2=>rw [eb] at q;exact RsOk.from (r:=.rt x d ρ2) k1 q
   | bk ρ2=>rw [eb] at q;exact λ σ' H' fps' k=>q σ' H' fps' (k1.trans k)
   | nx ρ2=>rw [eb] at q;exact λ σ' H' fps' k r'=>⟨rfl,ρ2,fps',r',hP r1 k p1,RsOk.from (k1.trans k) q⟩
   | ct ρ2=>rw [eb] at q;exact λ σ' H' fps' k r'=>⟨rfl,ρ2,fps',r',hP r1 k p1,RsOk.from (k1.trans k) q⟩
 ·left
  have ed:els.drop i=[]:=je9 (by omega)
  rw [ed] at q
  exact ⟨hst p (by omega),q σ H fps KS.refl r⟩
def zzs (lo:Int) (n:Nat):List PV:=(jc3 n).map λ (i:Nat)=>PV.int (lo + (i:Int))
theorem zxi (lo:Int) (n:Nat):(zzs lo n).length=n:=by simp [zzs]
def zqy:List (PV×Nat)->Option (Int×Int)
 | [(.int j,_)]=>if -(2 ^ 62)<=j/\j < 2 ^ 62 then some (0,j) else none
 | _=>none
def zpj:List (PV×Nat)->Option (Int×Int)
 | [(.int i,_),(.int j,_)]=>if -(2 ^ 62)<=i/\i < 2 ^ 62/\-(2 ^ 62)<=j/\j < 2 ^ 62 then some (i,j) else none
 | _=>none
def zwq (en:List (PV×Nat)->Option (Int×Int)) (fa:Fa) (asg:PV->Rho->Option Rho) (body:Fs):Fs:=λ ρ=>match fa ρ with
 | .ok (xs,ρ1)=>(match en xs with
  | some (i,j)=>zxu asg body (zzs i (j - i).toNat) ρ1
  | none=>.no)
 | .exc c=>.exc c
 | .no=>.no
theorem zyo {g:TG}{asg:PV->Rho->Option Rho}{body:Fs}{D:Ends}{lo:Int}{n:Nat} (hg:GOk M [] is g asg) (rep:Rep M ρ σ H fps) (q:RsOk M D H fps (zxu asg body (zzs lo n) ρ)):
  ∃ W:Nat->Nat->St->Hp->Prop,(∃ m,W 0 m σ H)/\∀ i m σ H,W i m σ H ->
   ((Itr lo n).stop i H/\D.nx σ H)\/((Itr lo n).go i H/\∃ N:St->Hp->Prop,(∀ σ' H',N σ' H'->∃ m',m' < m/\W (i + 1) m' σ' H')/\∀ x H',(Itr lo n).yld i H x H'->g x σ H' λ σ2 H2=>(tS M body) { D with nx:=N,ct:=N,bk:=D.nx } σ2 H2):=by
 refine zpi (Pq:=λ _ _=>True) hg (λ _ _ _=>trivial) (λ {H fps i} _ h=>?_) (λ {H fps i} _ h=>?_) (λ {ρ σ H fps i x H'} _ _ h y=>?_) rep trivial q
 ·rw [zxi] at h;exact h
 ·rw [zxi] at h;exact h
 ·rw [zxi] at h
  obtain ⟨e1,e2⟩:=y
  subst e1
  exact ⟨λ _ _ h=>h,.int (lo + i),by simp [zzs,h],by rw [e2,Own];exact ⟨rfl,rfl⟩⟩
theorem qdu {g:TG}{asg:PV->Rho->Option Rho}{body:Fs}{fa:Fa}{D:Ends} (hg:GOk M [] is g asg) (hq:tS M (zwq zqy fa asg body) D σ H):tFor (qhw (tL M fa vs)) g (tS M body) D σ H:=by
 obtain ⟨ρ,fps,rep,q⟩:=hq
 refine ⟨ρ,fps,rep,?_⟩
 unfold zwq at q
 cases ef:fa ρ with
 | no=>rw [ef] at q;exact q
 | exc c=>rw [ef] at q;exact λ H' fps' k=>q _ H' fps' k.ks
 | ok p=>
  obtain ⟨xs,ρ1⟩:=p
  rw [ef] at q
  intro ws H1 fps1 f1 k1 g1 rep1 o1 t1
  dsimp only at q
  cases ee:zqy xs with
  | none=>rw [ee] at q;exact q.elim
  | some ij=>
   obtain ⟨i,j⟩:=ij
   rw [ee] at q
   unfold zqy at ee
   split at ee
   ·rename_i j' d
    split at ee
    ·rename_i hb
     cases ee
     obtain ⟨v,r,f1,f2,rfl,_,_,h1,h2⟩:=o1
     obtain ⟨rfl,_⟩:=h2
     rw [Own] at h1
     obtain ⟨rfl,_⟩:=h1
     refine ⟨j,rfl,hb.1,hb.2,?_⟩
     have e:(j - 0).toNat=j.toNat:=by omega
     dsimp only at q
     rw [e] at q
     exact zyo hg rep1 (RsOk.from k1.ks q)
    ·cases ee
   ·cases ee
theorem qdt {g:TG}{asg:PV->Rho->Option Rho}{body:Fs}{fa:Fa}{D:Ends} (hg:GOk M [] is g asg) (hq:tS M (zwq zpj fa asg body) D σ H):tFor (qhv (tL M fa vs)) g (tS M body) D σ H:=by
 obtain ⟨ρ,fps,rep,q⟩:=hq
 refine ⟨ρ,fps,rep,?_⟩
 unfold zwq at q
 cases ef:fa ρ with
 | no=>rw [ef] at q;exact q
 | exc c=>rw [ef] at q;exact λ H' fps' k=>q _ H' fps' k.ks
 | ok p=>
  obtain ⟨xs,ρ1⟩:=p
  rw [ef] at q
  intro ws H1 fps1 f1 k1 g1 rep1 o1 t1
  dsimp only at q
  cases ee:zpj xs with
  | none=>rw [ee] at q;exact q.elim
  | some ij=>
   obtain ⟨i,j⟩:=ij
   rw [ee] at q
   unfold zpj at ee
   split at ee
   ·rename_i i' d j' d'
    split at ee
    ·rename_i hb
     cases ee
     obtain ⟨v,r,f1,f2,rfl,_,_,h1,h2⟩:=o1
     obtain ⟨v2,r2,f3,f4,rfl,_,_,h3,h4⟩:=h2
     obtain ⟨rfl,_⟩:=h4
     rw [Own] at h1 h3
     obtain ⟨rfl,_⟩:=h1
     obtain ⟨rfl,_⟩:=h3
     exact ⟨i,j,rfl,hb,zyo hg rep1 (RsOk.from k1.ks q)⟩
    ·cases ee
   ·cases ee
def zbm (z:Str):List PV:=z.cps.toList.map λ c=>.str ⟨#[c]⟩
def zvv (f:Fx) (vs:List Nat) (asg:PV->Rho->Option Rho) (body:Fs):Fs:=λ ρ=>match f ρ with
 | .ok (.str z,d,ρ1)=>if qcp z=true then zxu asg body (zbm z) (zqk d vs ρ1) else .no
 | .ok (.lst xs,d,ρ1)=>zxu asg body xs (zqk d vs ρ1)
 | .ok (.tup xs,d,ρ1)=>zxu asg body xs (zqk d vs ρ1)
 | .ok _=>.no
 | .exc c=>.exc c
 | .no=>.no
theorem OwnL.get {K:Frag}{Z:Addr->Prop}:∀ {xs:List PV}{ws:List V}{i:Nat}{w:V},OwnL K H Z xs 0 ws []->ws[i]?=some w->∃ x,xs[i]?=some x/\Own K H Z x 0 w []
 | [],ws,i,w,h,e=>by
  rw [OwnL] at h
  obtain ⟨rfl,_⟩:=h
  simp at e
 | x::xs,ws,i,w,h,e=>by
  rw [OwnL] at h
  obtain ⟨v,s,f1,f2,rfl,ef,_,o1,o2⟩:=h
  obtain ⟨rfl,rfl⟩:f1=[]/\f2=[]:=by simpa using ef.symm
  cases i with
  | zero=>simp at e;subst e;exact ⟨x,by simp,o1⟩
  | succ i=>obtain ⟨y,e1,e2⟩:=o2.get (i:=i) (w:=w) (by simpa using e);exact ⟨y,by simpa using e1,e2⟩
theorem Rep.seen {x:PV}{d:Nat}{v:V}{fp:List Addr} (rep:Rep M ρ σ H fps) (k:KD M H fps H' fps') (g:Agr M ρ ρ') (r':Rep M ρ' σ H' fps') (o:Own M.K H' (Zt M vs fps' fp) x d v fp) (t:Temp M vs H H' fps' fp)
  (hal:∀ i,M.al i=[]) (hv:∀ i∈vs,M.Ms i=false):∃ fps2,KS M H fps H' fps2/\Rep M (zqk d vs ρ') σ H' fps2/\Own M.K H' (Zf M fps2) x 0 v []:=by
 unfold zqk
 by_cases hd:d=om
 ·rw [if_pos hd]
  rw [hd] at o
  exact ⟨fps',k.ks,r',Own.freeze (λ _ z=>z) x om v fp (λ a ha=>t.ndj a ha) (Own.full x v fp o)⟩
 ·rw [if_neg hd]
  exact ⟨zyd vs fps',k.ks.cool,r'.cool hal hv,Own.freeze (λ a h=>.inl (zki h)) x d v fp (λ a ha z=>t.ndj a ha (zki z).zf) o⟩
theorem qds {g:TG}{asg:PV->Rho->Option Rho}{body:Fs}{f:Fx}{D:Ends} (hal:∀ i,M.al i=[]) (hv:∀ i∈vs,M.Ms i=false) (hg:GOk M [] is g asg) (hq:tS M (zvv f vs asg body) D σ H):tFor (iSeq M.K (tE M f vs)) g (tS M body) D σ H:=by
 obtain ⟨ρ,fps,rep,q⟩:=hq
 refine ⟨ρ,fps,rep,?_⟩
 unfold zvv at q
 cases ef:f ρ with
 | no=>rw [ef] at q;exact q
 | exc c=>rw [ef] at q;exact λ H' fps' k=>q _ H' fps' k.ks
 | ok p=>
  obtain ⟨x,d,ρ1⟩:=p
  rw [ef] at q
  intro v H1 fps1 f1 k1 g1 rep1 o1 t1
  obtain ⟨fps2,k2,r2,o2⟩:=Rep.seen rep k1 g1 rep1 o1 t1 hal hv
  cases x with
  | lst xs=>
   have o2':=o2
   rw [Own] at o2'
   obtain ⟨a,ws,rfl,⟨_,hr,_,ol⟩ | ⟨h,_⟩⟩:=o2'
   ·have sq:SqL M.K H1 a ws:=.inl (.inl hr.1)
    refine .inl ⟨a,rfl,.inl ⟨⟨ws,sq⟩,?_⟩⟩
    have one:∀ {H:Hp}{fps:Fps},Own M.K H (Zf M fps) (.lst xs) 0 (.ref a) []->∃ ws,SqL M.K H a ws/\OwnL M.K H (Zf M fps) xs 0 ws []:=λ o=>by
     rw [Own] at o
     obtain ⟨b,ws,e,⟨_,hr,_,ol⟩ | ⟨h,_⟩⟩:=o
     ·cases e;exact ⟨ws,.inl (.inl hr.1),ol⟩
     ·exact absurd rfl h
    refine zpi (Pq:=λ H fps=>Own M.K H (Zf M fps) (.lst xs) 0 (.ref a) []) (els:=xs) hg (λ r k o=>k.stay0 r o) (λ {H fps i} o h=>?_) (λ {H fps i} o h=>?_) (λ {ρ σ H fps i x H'} _ o h y=>?_) r2 o2 (RsOk.from k2 q)
    ·obtain ⟨ws,s,ol⟩:=one o
     exact ⟨ws,ws[i]'(by rw [ol.length];exact h),s,by simp⟩
    ·obtain ⟨ws,s,ol⟩:=one o
     exact ⟨ws,s,by rw [ol.length];exact h⟩
    ·obtain ⟨ws,s,ol⟩:=one o
     obtain ⟨e1,e2⟩:=y
     subst e1
     exact ⟨λ _ _ h=>h,ol.get (e2 ws s)⟩
   ·exact absurd rfl h
  | tup xs=>
   have o2':=o2
   rw [Own] at o2'
   obtain ⟨a,ws,rfl,hr,ol⟩:=o2'
   refine .inl ⟨a,rfl,.inr ⟨⟨ws,.inl (.inl hr)⟩,?_⟩⟩
   have one:∀ {H:Hp}{fps:Fps},Own M.K H (Zf M fps) (.tup xs) 0 (.ref a) []->∃ ws,SqT M.K H a ws/\OwnL M.K H (Zf M fps) xs 0 ws []:=λ o=>by
    rw [Own] at o
    obtain ⟨b,ws,e,hr,ol⟩:=o
    cases e;exact ⟨ws,.inl (.inl hr),ol⟩
   refine zpi (Pq:=λ H fps=>Own M.K H (Zf M fps) (.tup xs) 0 (.ref a) []) (els:=xs) hg (λ r k o=>k.stay0 r o) (λ {H fps i} o h=>?_) (λ {H fps i} o h=>?_) (λ {ρ σ H fps i x H'} _ o h y=>?_) r2 o2 (RsOk.from k2 q)
   ·obtain ⟨ws,s,ol⟩:=one o
    exact ⟨ws,ws[i]'(by rw [ol.length];exact h),s,by simp⟩
   ·obtain ⟨ws,s,ol⟩:=one o
    exact ⟨ws,s,by rw [ol.length];exact h⟩
   ·obtain ⟨ws,s,ol⟩:=one o
    obtain ⟨e1,e2⟩:=y
    subst e1
    exact ⟨λ _ _ h=>h,ol.get (e2 ws s)⟩
  | str z=>
   have o2':=o2
   rw [Own] at o2'
   obtain ⟨rfl,_⟩:=o2'
   dsimp only at q
   split at q
   ·rename_i ha
    refine .inr ⟨z,rfl,ha,?_⟩
    have hl:(zbm z).length=z.cps.size:=by unfold zbm;rw [ja1,jg8]
    refine zpi (Pq:=λ _ _=>True) (els:=zbm z) hg (λ _ _ _=>trivial) (λ {H fps i} _ h=>?_) (λ {H fps i} _ h=>?_) (λ {ρ σ H fps i x H'} _ _ h y=>?_) r2 trivial (RsOk.from k2 q)
    ·show i < z.cps.size
     omega
    ·show z.cps.size<=i
     omega
    ·obtain ⟨rfl,c,hc,rfl⟩:=y
     refine ⟨λ _ _ h=>h,.str ⟨#[c]⟩,?_,by rw [Own];exact ⟨rfl,rfl⟩⟩
     unfold zbm
     rw [jd1,jm6,hc]
     rfl
   ·exact q.elim
  | _=>exact q.elim
end
section
variable {M:Fm}{ρ ρ':Rho}{σ σ':St}{H H' H'':Hp}{fps fps' fps'':Fps}{vs vs':List Nat}
def Fm.comp (M:Fm) (D:Addr) (n:Nat) (vI:List Nat):Fm:={ M.plus [D] with W:=λ _ _ _=>False,al:=λ j=>if j < n then M.al j else vI }
theorem Rep.minus {fp:List Addr} (r:Rep (M.plus fp) ρ σ H fps):Rep M ρ σ H fps where
 own:=λ i x d e=>let ⟨v,h1,h2⟩:=r.own i x d e;⟨v,h1,h2.weak λ a h=>h.elim (λ h=>.inl (.inl h)) .inr⟩
 non:=r.non
 dj:=r.dj
 zo:=λ i a ha z=>r.zo i a ha (.inl z)
 fr:=r.fr
 zd:=λ a z=>r.zd a (.inl z)
 len:=r.len
 msf:=r.msf
 h0:=r.h0
 iov:=r.iov
theorem Rep.far (r:Rep M ρ σ H fps) {j:Nat} (h:ρ.length<=j):fps j=[]:=r.non j λ p e=>by
 rw [ji3.mpr h] at e;cases e
theorem Rep.ext {D:Addr}{k:Nat}{vI:List Nat} (r:Rep (M.plus [D]) ρ σ H fps):Rep (M.comp D ρ.length vI) (ρ++ja7 k none) (σ++ja7 k none) H fps where
 own:=λ i x d e=>by
  by_cases hi:i < ρ.length
  ·rw [jc2 hi] at e
   obtain ⟨v,h1,h2⟩:=r.own i x d e
   refine ⟨v,by rw [jc2 (by rw [<- r.len];exact hi)];exact h1,h2.weak λ a h=>?_⟩
   rcases h with h | ⟨j,nj,h⟩
   ·exact .inl h
   ·refine .inr ⟨j,?_,h⟩
    have:(M.comp D ρ.length vI).al i=M.al i:=if_pos hi
    rw [this] at nj;exact nj
  ·rw [jc9 (by omega),je8] at e
   split at e <;> cases e
 non:=λ i h=>by
  by_cases hi:i < ρ.length
  ·exact r.non i λ p e=>h p (by rw [jc2 hi];exact e)
  ·exact r.far (by omega)
 dj:=r.dj
 zo:=r.zo
 fr:=r.fr
 zd:=r.zd
 len:=by simp [r.len]
 msf:=λ i x d hm e=>by
  by_cases hi:i < ρ.length
  ·rw [jc2 hi] at e;exact r.msf i x d hm e
  ·rw [jc9 (by omega),je8] at e
   split at e <;> cases e
 h0:=r.h0
 iov:=⟨λ v hv=>by
  have h:=r.iov.1 v hv
  refine ⟨?_,h.2⟩
  have:0 < σ.length:=(ja8.mp h.1).1
  rw [jc2 this];exact h.1,λ p hp=>by
  have h:=r.iov.2 p hp
  rw [jc2 (ja8.mp h).1];exact h⟩
def cut (n:Nat) (fps:Fps):Fps:=λ j=>if j < n then fps j else []
theorem zvq {n i:Nat}{a:Addr} (h:a∈cut n fps i):a∈fps i/\i < n:=by
 unfold cut at h
 split at h
 ·rename_i hi;exact ⟨h,hi⟩
 ·cases h
theorem Rep.take {D:Addr}{n:Nat}{vI:List Nat} (r:Rep (M.comp D n vI) ρ σ H fps) (hσ:∀ i,i < n->σ[i]?=σ'[i]?) (hl:σ'.length=n) (hn:n<=ρ.length) (hio:(M.io≠none->0 < n)/\∀ p∈M.pn,p.1 < n):Rep (M.plus [D]) (ρ.take n) σ' H (cut n fps) where
 own:=λ i x d e=>by
  have hi:i < n:=by
   have:=(ja8.mp e).1
   rw [jc7] at this;omega
  rw [jf7 hi] at e
  obtain ⟨v,h1,h2⟩:=r.own i x d e
  refine ⟨v,by rw [<- hσ i hi];exact h1,?_⟩
  have:cut n fps i=fps i:=if_pos hi
  rw [this]
  refine h2.weak λ a h=>?_
  rcases h with h | ⟨j,nj,h⟩
  ·exact .inl h
  ·refine .inr ⟨j,?_,(zvq h).1⟩
   have:(M.comp D n vI).al i=M.al i:=if_pos hi
   rw [this];exact nj
 non:=λ i h=>by
  unfold cut
  split
  ·rename_i hi
   exact r.non i λ p e=>h p (by rw [jf7 hi];exact e)
  ·rfl
 dj:=λ i j hij a ha hb=>r.dj i j hij a (zvq ha).1 (zvq hb).1
 zo:=λ i a ha=>r.zo i a (zvq ha).1
 fr:=λ i hi a ha=>r.fr i hi a (zvq ha).1
 zd:=r.zd
 len:=by rw [jc7,hl];omega
 msf:=λ i x d hm e=>by
  have hi:i < n:=by
   have:=(ja8.mp e).1
   rw [jc7] at this;omega
  rw [jf7 hi] at e
  exact r.msf i x d hm e
 h0:=r.h0
 iov:=⟨λ v hv=>by
  have h:=r.iov.1 v hv
  refine ⟨?_,h.2⟩
  have h0:0 < n:=hio.1 (by
   have hv':M.io=some v:=hv
   rw [hv'];simp)
  rw [<- hσ 0 h0];exact h.1,λ p hp=>by rw [<- hσ p.1 (hio.2 p hp)];exact r.iov.2 p hp⟩
theorem Rep.touch {D:Addr}{us ws:List V} (r:Rep (M.plus [D]) ρ σ H fps) (hD:H D=some (.lst ws)):Rep (M.plus [D]) ρ σ (upd H D (.lst us)) fps:=by
 have zD:(M.plus [D]).Zo D:=.inr (by simp)
 have dm:∀ b,H b≠none->(upd H D (.lst us)) b≠none:=λ b h=>by
  by_cases eb:b=D
  ·rw [eb,zqo];simp
  ·rw [zqn eb];exact h
 exact ⟨λ i x d e=>let ⟨v,h1,h2⟩:=r.own i x d e;⟨v,h1,h2.at (.inl zD) ⟨.l ws,hD⟩ (λ z=>r.zo i D z zD) λ _ _ n=>n⟩,r.non,r.dj,r.zo,r.fr,λ a z=>dm a (r.zd a z),r.len,r.msf,λ a z=>dm a (r.h0 a z),r.iov⟩
theorem Tmps.snoc {K:Frag}{Z:Addr->Prop}{y:PV}{e:Nat}{w:V}{fe:List Addr} (hy:Own K H (λ a=>Z a\/a∈fe) y e w fe):∀ {xs:List (PV×Nat)}{ws:List V}{fp:List Addr},Tmps K H Z xs ws fp->(∀ a∈fp,a∉fe)->Tmps K H Z (xs++[(y,e)]) (ws++[w]) (fp++fe)
 | [],ws,fp,h,_=>by
  obtain ⟨rfl,rfl⟩:=h
  exact ⟨w,[],fe,[],rfl,by simp,λ _ _ z=>(nomatch z),hy,rfl,rfl⟩
 | (x,d)::xs,ws,fp,h,hd=>by
  obtain ⟨v,s,f1,f2,rfl,rfl,dj,h1,h2⟩:=h
  refine ⟨v,s++[w],f1,f2++fe,rfl,by rw [jh9],λ a ha hb=>?_,h1,h2.snoc hy λ a ha=>hd a (ja5 _ ha)⟩
  rcases jc0.mp hb with z | z
  ·exact dj a ha z
  ·exact hd a (jb0 _ ha) z
theorem Tmps.at {K:Frag}{Z:Addr->Prop}{a:Addr}{o:HO} (hZ:Z a) (hl:∃ o:MO,H a=some o.ho):∀ {xs:List (PV×Nat)}{ws:List V}{fp:List Addr},Tmps K H Z xs ws fp->a∉fp->Tmps K (upd H a o) Z xs ws fp
 | [],_,_,h,_=>h
 | (x,d)::xs,ws,fp,h,hf=>by
  obtain ⟨v,s,f1,f2,e1,rfl,dj,h1,h2⟩:=h
  exact ⟨v,s,f1,f2,e1,rfl,dj,h1.at (.inl hZ) hl (λ z=>hf (jb0 _ z)) λ _ _ n=>n,h2.at hZ hl λ z=>hf (ja5 _ z)⟩
theorem Tmps.lsts {K:Frag}{Z:Addr->Prop}:∀ {xs:List (PV×Nat)}{ws:List V}{fp:List Addr},Tmps K H Z xs ws fp->∀ a∈fp,∃ o:MO,H a=some o.ho
 | [],_,_,h,a,ha=>by rw [h.2] at ha;cases ha
 | (x,d)::xs,ws,fp,h,a,ha=>by
  obtain ⟨v,s,f1,f2,e1,rfl,dj,h1,h2⟩:=h
  rcases jc0.mp ha with z | z
  ·exact Own.lsts x d v f1 h1 a z
  ·exact h2.lsts a z
def Rz.bindN {α β:Type} (r:Rz α) (f:α->Rz β):Rz β:=match r with
 | .ok a=>f a
 | _=>.no
def zxy (k:Nat) (asg:PV->Rho->Option Rho) (test:Fb) (elt:Fx):List PV->Rho->List (PV×Nat)->Rz (List (PV×Nat)×Rho)
 | [],ρ,acc=>.ok (acc,ρ)
 | x::xs,ρ,acc=>match asg x (ρ++ja7 k none) with
  | none=>.no
  | some ρ1=>(test ρ1).bindN λ (b,ρ2)=>if b=true then (elt ρ2).bindN λ (y,e,ρ3)=>(if acc.length < va2 then zxy k asg test elt xs (ρ3.take ρ.length) (acc++[(y,e)]) else .no) else zxy k asg test elt xs (ρ2.take ρ.length) acc
theorem KD.seen {D:Addr}{x:PV}{v:V} (r:Rep M ρ σ H fps) (k:KD M H fps H' fps') (hD:H D=none) (hv:∀ i∈vs,M.Ms i=false) (o:Own M.K H (Zv M vs fps) x 0 v []):Own M.K H' (Zv (M.plus [D]) vs fps') x 0 v []:=by
 refine Own.move k.keep ?_ ?_ x 0 v [] (λ _ z=>nomatch z) o
 ·rintro a ⟨i,hi,ha⟩
  exact ⟨.inr ⟨i,λ z=>(by rw [hv i z] at hi;cases hi),ha⟩,r.lsts ha⟩
 ·intro a hd nz z
  rcases z with (z | z) | ⟨i,ni,hx⟩
  ·exact nz (.inl z)
  ·rw [jb7.mp z] at hd;exact hd hD
  ·rcases k.sub i a hx with z | z
   ·exact nz (.inr ⟨i,ni,z⟩)
   ·exact hd z
theorem zyr {g:TG}{is vI vE vo:List Nat}{asg:PV->Rho->Option Rho}{test:Fb}{elt:Fx}{k:Nat}{J:It}{els:List PV}{Q:VK}{n:Nat}{P:Fm->Prop}
  (hP:∀ D,P (M.comp D n vI)) (hn:n=ρ.length) (hal:∀ i,∀ j∈M.al i,M.Ms j=false) (hvI:∀ i∈vI,M.Ms i=false) (hvE:∀ i∈vE,M.Ms i=false) (his:∀ i∈is,n<=i) (hg:∀ D,GOk (M.comp D n vI) vI is g asg) (hvo:∀ i,i∈vE->i < n->i∈vo) (hvo2:∀ i∈vo,M.Ms i=false)
  (rep:Rep M ρ σ H fps)
  (hgo:∀ {D H' fps' i},H D=none->KD M H fps H' fps'->i < els.length->J.go i H') (hst:∀ {D H' fps' i},H D=none->KD M H fps H' fps'->els.length<=i->J.stop i H')
  (hy:∀ {D H' fps' i x H''},H D=none->KD M H fps H' fps'->i < els.length->J.yld i H' x H''->(∀ a o,H' a=some o->H'' a=some o)/\∃ z,els[i]?=some z/\Own M.K H'' (Zv (M.plus [D]) vI fps') z 0 x [])
  (q:match zxy k asg test elt els ρ [] with
   | .ok (acc,ρ')=>∀ D ws H' fps' fpl,KD M H fps H' fps'->Agr M ρ ρ'->Rep (M.plus [D]) ρ' σ H' fps'->H D=none->H' D=some (.lst ws)->Tmps M.K H' (Zv (M.plus [D]) vo fps') acc ws fpl->(∀ a∈fpl,H a=none/\¬ Zf (M.plus [D]) fps' a)->Q (.ref D) H'
   | _=>False):
  ∀ D,H D=none->∃ W:Nat->Nat->List V->Hp->Prop,(∃ m,W 0 m [] (upd H D (.lst [])))/\∀ i m ys H1,W i m ys H1->H1 D=some (.lst ys) /\
   ((J.stop i H1/\Q (.ref D) H1)\/(J.go i H1/\∀ x H',J.yld i H1 x H'->g x (σ++ja7 k none) H' λ σ2 H2=>∃ M',P M'/\tT M' test σ2 H2 λ b H3=>if b=true then ∃ M',P M'/\tE M' elt vE σ2 H3 λ y H4=>H4 D=some (.lst ys)/\ys.length < va2/\∃ m',m' < m/\W (i + 1) m' (ys++[y]) (upd H4 D (.lst (ys++[y]))) else ∃ m',m' < m/\W (i + 1) m' ys H3)):=by
 intro D hD
 subst hn
 let W:Nat->Nat->List V->Hp->Prop:=λ i m ys H1=>m=els.length - i/\∃ ρ1 fps1 acc fpl,Rep (M.plus [D]) ρ1 σ H1 fps1/\KD M H fps H1 fps1/\Agr M ρ ρ1/\Tmps M.K H1 (Zv (M.plus [D]) vo fps1) acc ys fpl/\(∀ a∈fpl,H a=none/\¬ Zf (M.plus [D]) fps1 a)/\H1 D=some (.lst ys)/\zxy k asg test elt (els.drop i) ρ1 acc=zxy k asg test elt els ρ []
 have k0:KD M H fps (upd H D (.lst [])) fps:=KD.grow λ a o h=>by rw [zqn (λ e=>by rw [e,hD] at h;cases h)];exact h
 have r0:Rep (M.plus [D]) ρ σ (upd H D (.lst [])) fps:=by
  refine rep.wide hal k0 Agr.refl (rep.grow λ a o h=>by rw [zqn (λ e=>by rw [e,hD] at h;cases h)];exact h) λ a ha=>?_
  rw [jb7.mp ha]
  exact ⟨hD,by rw [zqo];simp,rep.nz hD⟩
 refine ⟨W,⟨els.length,by simp,ρ,fps,[],[],r0,k0,Agr.refl,⟨rfl,rfl⟩,λ _ z=>(nomatch z),zqo,by simp⟩,?_⟩
 rintro i m ys H1 ⟨rfl,ρ1,fps1,acc,fpl,r1,k1,g1,tm,hf,h1D,ec⟩
 refine ⟨h1D,?_⟩
 have hlen:ρ1.length=ρ.length:=g1.2
 by_cases hi:i < els.length
 ·right
  refine ⟨hgo hD k1 hi,λ x H' hyl=>?_⟩
  obtain ⟨kx,z,ez,oz⟩:=hy hD k1 hi hyl
  have tm:=KD.stays (M:=M.plus [D]) (KD.grow kx) r1 hvo2 tm λ a ha=>(hf a ha).2
  have r1:=r1.grow kx
  have k1:=k1.trans (KD.grow (M:=M) (fps:=fps1) kx)
  have h1D:=kx D _ h1D
  have ed:els.drop i=z::els.drop (i + 1):=by
   obtain ⟨h1,h2⟩:=ja8.mp ez
   rw [<- h2];exact jf1 h1
  rw [ed] at ec
  have good:∃ a r,zxy k asg test elt els ρ []=.ok (a,r):=by
   cases e:zxy k asg test elt els ρ [] with
   | ok p=>exact ⟨p.1,p.2,rfl⟩
   | exc c=>rw [e] at q;exact q.elim
   | no=>rw [e] at q;exact q.elim
  obtain ⟨accF,ρF,eF⟩:=good
  rw [eF] at ec
  unfold zxy at ec
  cases ea:asg z (ρ1++ja7 k none) with
  | none=>rw [ea] at ec;cases ec
  | some ρ2=>
   rw [ea] at ec
   dsimp only at ec
   have rx:Rep (M.comp D ρ.length vI) (ρ1++ja7 k none) (σ++ja7 k none) H' fps1:=by rw [<- hlen];exact r1.ext
   refine hg D z x _ _ H' fps1 ρ2 _ rx oz ea λ σ2 fps2 s2 a2 l2 r2=>⟨_,hP D,ρ2,fps2,r2,?_⟩
   have hl2:ρ2.length=ρ.length + k:=by rw [l2,jb1,jd0,hlen]
   have same2:∀ j,j < ρ.length->ρ2[j]?=ρ1[j]?/\fps2 j=fps1 j/\σ2[j]?=σ[j]?:=λ j hj=>by
    obtain ⟨z1,z2,z3⟩:=a2 j λ z=>absurd (his j z) (by omega)
    rw [jc2 (by omega)] at z1
    rw [jc2 (by rw [<- rep.len];omega)] at z3
    exact ⟨z1,z2,z3⟩
   have kd2:KD (M.comp D ρ.length vI) H' fps1 H' fps2->True:=λ _=>trivial
   cases et:test ρ2 with
   | exc c=>rw [et] at ec;cases ec
   | no=>rw [et] at ec;cases ec
   | ok p=>
    obtain ⟨b,ρ3⟩:=p
    rw [et] at ec
    intro H3 fps3 k3 g3 r3
    dsimp only [Rz.bindN] at ec
    have far:∀ {ρ4:Rho}{H4:Hp}{fps4:Fps},KD (M.comp D ρ.length vI) H' fps2 H4 fps4->Agr (M.comp D ρ.length vI) ρ2 ρ4->Rep (M.comp D ρ.length vI) ρ4 σ2 H4 fps4 ->
      KD M H fps H4 (cut ρ.length fps4)/\KD M H' fps1 H4 (cut ρ.length fps4)/\Agr M ρ (ρ4.take ρ.length)/\Rep (M.plus [D]) (ρ4.take ρ.length) σ H4 (cut ρ.length fps4)/\H4 D=some (.lst ys):=λ {ρ4 H4 fps4} k4 g4 r4=>by
     have kk:KD M H' fps1 H4 (cut ρ.length fps4):=by
      refine ⟨λ a o ha hn=>k4.keep a o ha λ ⟨j,hj,hx⟩=>hn ⟨j,hj,s2 j a hx⟩,k4.dom,λ j a ha=>?_,λ j hj=>?_⟩
      ·rcases k4.sub j a (zvq ha).1 with z | z
       ·exact .inl (s2 j a z)
       ·exact .inr z
      ·unfold cut
       by_cases hjl:j < ρ.length
       ·rw [if_pos hjl,k4.same j hj];exact (same2 j hjl).2.1
       ·rw [if_neg hjl];exact (r1.far (by omega)).symm
     refine ⟨k1.trans kk,kk,?_,r4.take (σ':=σ) (λ j hj=>(same2 j hj).2.2) rep.len.symm (by rw [g4.2,hl2];omega) ⟨λ hio=>?_,λ p hp=>by rw [rep.len];exact (ja8.mp (rep.iov.2 p hp)).1⟩,?_⟩
     ·refine ⟨λ j hj=>?_,by rw [jc7,g4.2,hl2];omega⟩
      by_cases hjl:j < ρ.length
      ·rw [jf7 hjl,g4.1 j hj,(same2 j hjl).1];exact g1.1 j hj
      ·rw [ji3.mpr (by rw [jc7];omega),ji3.mpr (by omega)]
     ·cases e:M.io with
      | none=>exact absurd e hio
      | some v=>
       have:=(ja8.mp (rep.iov.1 v e).1).1
       rw [rep.len];exact this
     ·exact k4.keep D _ h1D λ ⟨j,_,hx⟩=>r2.zo j D hx (.inr (by simp))
    have notZ:∀ {H4:Hp}{fps4:Fps},KD M H' fps1 H4 fps4->∀ {a},a∈fpl->¬ Zf (M.plus [D]) fps4 a:=λ {H4 fps4} k4 a ha z=>by
     rcases z with z | ⟨j,z⟩
     ·exact (hf a ha).2 (.inl z)
     ·rcases k4.sub j a z with z | z
      ·exact (hf a ha).2 (.inr ⟨j,z⟩)
      ·obtain ⟨xs,e⟩:=tm.lsts a ha
       rw [z] at e;cases e
    cases b with
    | false=>
     rw [if_neg jc6] at ec ⊢
     obtain ⟨f1,f2,f3,f4,f5⟩:=far k3 g3 r3
     refine ⟨els.length - (i + 1),by omega,rfl,ρ3.take ρ.length,cut ρ.length fps3,acc,fpl,f4,f1,f3,?_,λ a ha=>⟨(hf a ha).1,λ z=>?_⟩,f5,by rw [eF,<- hlen];exact ec⟩
     ·exact KD.stays (M:=M.plus [D]) (σ:=σ) (ρ:=ρ1) ⟨f2.keep,f2.dom,f2.sub,f2.same⟩ r1 hvo2 tm λ a ha=>(hf a ha).2
     ·exact notZ f2 ha z
    | true=>
     rw [if_pos rfl] at ec ⊢
     refine ⟨_,hP D,ρ3,fps3,r3,?_⟩
     cases ee:elt ρ3 with
     | exc c=>rw [ee] at ec;cases ec
     | no=>rw [ee] at ec;cases ec
     | ok p=>
      obtain ⟨y,e,ρ4⟩:=p
      rw [ee] at ec
      intro w H4 fps4 fe k4 g4 r4 o4 t4
      dsimp only at ec
      by_cases hz:acc.length < va2
      ·rw [if_pos hz] at ec
       obtain ⟨f1,f2,f3,f4,f5⟩:=far (k3.trans k4) (g3.trans g4) r4
       have tm4:Tmps M.K H4 (Zv (M.plus [D]) vo (cut ρ.length fps4)) acc ys fpl:=KD.stays (M:=M.plus [D]) (σ:=σ) (ρ:=ρ1) ⟨f2.keep,f2.dom,f2.sub,f2.same⟩ r1 hvo2 tm λ a ha=>(hf a ha).2
       have zD:Zv (M.plus [D]) vo (cut ρ.length fps4) D:=.inl (.inr (by simp))
       have hDe:D∉fe:=λ z=>t4.ndj D z (.inl (.inr (by simp)))
       have hDl:D∉fpl:=λ z=>(hf D z).2 (.inl (.inr (by simp)))
       have oy:Own M.K H4 (λ a=>Zv (M.plus [D]) vo (cut ρ.length fps4) a\/a∈fe) y e w fe:=o4.weak λ a h=>h.elim (λ h=>.inl (h.elim .inl λ ⟨j,nj,hx⟩=>.inr ⟨j,λ z=>nj (hvo j z (zvq hx).2),(zvq hx).1⟩)) .inr
       have back3:∀ a,H3 a=none->H' a=none:=λ a e=>by
        cases e':H' a with
        | none=>rfl
        | some o=>exact absurd e (k3.dom a (by rw [e'];simp))
       have back1:∀ a,H' a=none->H a=none:=λ a e=>by
        cases e':H a with
        | none=>rfl
        | some o=>exact absurd e (k1.dom a (by rw [e'];simp))
       have kt:KD M H fps (upd H4 D (.lst (ys++[w]))) (cut ρ.length fps4):=⟨λ a o ha hn=>by rw [zqn (λ e=>by rw [e,hD] at ha;cases ha)];exact f1.keep a o ha hn,λ a ha=>by
        by_cases eb:a=D
        ·rw [eb,zqo];simp
        ·rw [zqn eb];exact f1.dom a ha,f1.sub,f1.same⟩
       refine ⟨f5,by rw [tm.length];exact hz,els.length - (i + 1),by omega,rfl,ρ4.take ρ.length,cut ρ.length fps4,acc++[(y,e)],fpl++fe,f4.touch f5,kt,f3,?_,λ a ha=>?_,zqo,by rw [eF,<- hlen];exact ec⟩
       ·exact (tm4.at zD ⟨.l ys,f5⟩ hDl).snoc (oy.at (.inl zD) ⟨.l ys,f5⟩ hDe λ _ _ n=>n) λ a ha hb=>by
         obtain ⟨xs,e⟩:=tm.lsts a ha
         rw [back3 a (t4.new a hb)] at e;cases e
       ·rcases jc0.mp ha with z | z
        ·exact ⟨(hf a z).1,notZ f2 z⟩
        ·refine ⟨back1 a (back3 a (t4.new a z)),λ hz=>t4.ndj a z ?_⟩
         rcases hz with hz | ⟨j,hz⟩
         ·exact .inl hz
         ·exact .inr ⟨j,(zvq hz).1⟩
      ·rw [if_neg hz] at ec;cases ec
 ·left
  have ed:els.drop i=[]:=je9 (by omega)
  rw [ed] at ec
  rw [<- ec] at q
  unfold zxy at q
  exact ⟨hst hD k1 (by omega),q D ys H1 fps1 fpl k1 g1 r1 hD h1D tm hf⟩
end
section
variable {M:Fm}{ρ ρ':Rho}{σ σ':St}{H H' H'':Hp}{fps fps' fps'':Fps}{vs vs':List Nat}
def zzy:List (PV×Nat)->Bool
 | []=>true
 | p::r=>(p.2 == om) && zzy r
theorem zkh:∀ {xs:List (PV×Nat)},zzy xs=true->∀ p∈xs,p.2=om
 | [],_,_,h=>nomatch h
 | p::r,h,q,hq=>by
  unfold zzy at h
  rw [ja4] at h
  rcases jb2.mp hq with e | e
  ·rw [e];exact eq_of_beq h.1
  ·exact zkh h.2 q e
def zzk (acc:List (PV×Nat)) (ρ:Rho):Rz (PV×Nat×Rho):=.ok (.lst (acc.map (·.1)),if zzy acc then om else 1,ρ)
def zqp (f:Fx) (k:Nat) (asg:PV->Rho->Option Rho) (test:Fb) (elt:Fx):Fx:=λ ρ=>match f ρ with
 | .ok (.lst xs,_,ρ1)=>(zxy k asg test elt xs ρ1 []).bindN λ (acc,ρ2)=>zzk acc ρ2
 | .ok (.tup xs,_,ρ1)=>(zxy k asg test elt xs ρ1 []).bindN λ (acc,ρ2)=>zzk acc ρ2
 | .ok (.str z,_,ρ1)=>if qcp z=true then (zxy k asg test elt (zbm z) ρ1 []).bindN λ (acc,ρ2)=>zzk acc ρ2 else .no
 | .ok _=>.no
 | .exc c=>.exc c
 | .no=>.no
def zxs (en:List (PV×Nat)->Option (Int×Int)) (fa:Fa) (k:Nat) (asg:PV->Rho->Option Rho) (test:Fb) (elt:Fx):Fx:=λ ρ=>match fa ρ with
 | .ok (xs,ρ1)=>(match en xs with
  | some (i,j)=>(zxy k asg test elt (zzs i (j - i).toNat) ρ1 []).bindN λ (acc,ρ2)=>zzk acc ρ2
  | none=>.no)
 | .exc c=>.exc c
 | .no=>.no
theorem zfx {D:Addr}{acc:List (PV×Nat)}{ws:List V}{fpl:List Addr}{vo:List Nat}{Q:VK}{H0:Hp}{fps0:Fps}{ρ0:Rho}
  (rep0:Rep M ρ σ H fps) (k0:KD M H0 fps0 H fps) (g0:Agr M ρ0 ρ) (q:∀ v H' fps' fp,KD M H0 fps0 H' fps'->Agr M ρ0 ρ'->Rep M ρ' σ H' fps'->Own M.K H' (Zt M vo fps' fp) (.lst (acc.map (·.1))) (if zzy acc then om else 1) v fp->Temp M vo H0 H' fps' fp->Q v H')
  (k:KD M H fps H' fps') (g:Agr M ρ ρ') (r:Rep (M.plus [D]) ρ' σ H' fps') (hD:H D=none) (hD':H' D=some (.lst ws)) (tm:Tmps M.K H' (Zv (M.plus [D]) vo fps') acc ws fpl) (hf:∀ a∈fpl,H a=none/\¬ Zf (M.plus [D]) fps' a):Q (.ref D) H':=by
 have back:∀ a,H a=none->H0 a=none:=λ a e=>by
  cases e':H0 a with
  | none=>rfl
  | some o=>exact absurd e (k0.dom a (by rw [e'];simp))
 have nD:¬ Zf M fps' D:=λ z=>by
  rcases z with z | ⟨j,z⟩
  ·exact rep0.zd D z hD
  ·exact r.zo j D z (.inr (by simp))
 have hDl:D∉fpl:=λ z=>(hf D z).2 (.inl (.inr (by simp)))
 have zt:∀ a,Zt M vo fps' [D] a->Zv (M.plus [D]) vo fps' a:=λ a h=>h.elim (λ h=>h.elim (λ h=>.inl (.inl h)) .inr) λ h=>.inl (.inr h)
 cases ho:zzy acc with
 | true=>
  rw [ho] at q
  refine q (.ref D) H' fps' (D::fpl) (k0.trans k) (g0.trans g) r.minus ?_ ⟨λ a ha=>?_,λ a ha=>?_⟩
  ·rw [Own]
   exact ⟨D,ws,rfl,.inr ⟨(by decide),fpl,hD',rfl,hDl,OwnL.full _ ws fpl (tm.all (zkh ho))⟩⟩
  ·rcases jb2.mp ha with z | z
   ·rw [z];exact back D hD
   ·exact back a (hf a z).1
  ·rcases jb2.mp ha with z | z
   ·rw [z];exact nD
   ·exact λ y=>(hf a z).2 (y.elim (λ y=>.inl (.inl y)) .inr)
 | false=>
  rw [ho] at q
  refine q (.ref D) H' fps' [D] (k0.trans k) (g0.trans g) r.minus ?_ ⟨λ a ha=>?_,λ a ha=>?_⟩
  ·show Own M.K H' (Zt M vo fps' [D]) (.lst (acc.map (·.1))) 1 (.ref D) [D]
   rw [Own]
   refine ⟨D,ws,rfl,.inr ⟨(by decide),[],hD',rfl,(λ z=>nomatch z),?_⟩⟩
   rw [zgv]
   exact (tm.cold λ a ha z=>(hf a ha).2 z.zf).weak zt
  ·rw [jb7.mp ha];exact back D hD
  ·rw [jb7.mp ha];exact nD
theorem qg3 {g:TG}{is vI vE vo:List Nat}{asg:PV->Rho->Option Rho}{test:Fb}{elt f:Fx}{k n:Nat}{Q:VK}{P:Fm->Prop}
  (hn:σ.length=n) (hP:∀ D,P (M.comp D n vI)) (hal:∀ i,∀ j∈M.al i,M.Ms j=false) (hvI:∀ i∈vI,M.Ms i=false) (hvE:∀ i∈vE,M.Ms i=false) (his:∀ i∈is,n<=i) (hg:∀ D,GOk (M.comp D n vI) vI is g asg)
  (hvo:∀ i,i∈vE->i < n->i∈vo) (hvo2:∀ i∈vo,M.Ms i=false) (hq:tE M (zqp f k asg test elt) vo σ H Q):
  qai k (iSeq M.K (tE M f vI)) g (λ σ H Q=>∃ M',P M'/\tT M' test σ H Q) (λ σ H Q=>∃ M',P M'/\tE M' elt vE σ H Q) σ H Q:=by
 obtain ⟨ρ,fps,rep,q⟩:=hq
 refine ⟨ρ,fps,rep,?_⟩
 unfold zqp at q
 cases ef:f ρ with
 | no=>rw [ef] at q;exact q
 | exc c=>rw [ef] at q;exact q
 | ok p=>
  obtain ⟨x,d,ρ1⟩:=p
  rw [ef] at q
  intro v H1 fps1 f1 k1 g1 rep1 o1 t1
  have o0:Own M.K H1 (Zv M vI fps1) x 0 v []:=Own.freeze (λ _ z=>.inl z) x d v f1 (λ a ha z=>t1.ndj a ha z.zf) o1
  have hl:n=ρ1.length:=by rw [rep1.len];exact hn.symm
  have fin:∀ (els:List PV),(match (zxy k asg test elt els ρ1 []).bindN λ (acc,ρ2)=>zzk acc ρ2 with
    | .ok (x,d,ρ')=>∀ v H' fps' fp,KD M H fps H' fps'->Agr M ρ ρ'->Rep M ρ' σ H' fps'->Own M.K H' (Zt M vo fps' fp) x d v fp->Temp M vo H H' fps' fp->Q v H'
    | .exc c=>∀ H' fps',KD M H fps H' fps'->M.W σ c H'
    | .no=>False)->(match zxy k asg test elt els ρ1 [] with
    | .ok (acc,ρ')=>∀ D ws H' fps' fpl,KD M H1 fps1 H' fps'->Agr M ρ1 ρ'->Rep (M.plus [D]) ρ' σ H' fps'->H1 D=none->H' D=some (.lst ws)->Tmps M.K H' (Zv (M.plus [D]) vo fps') acc ws fpl->(∀ a∈fpl,H1 a=none/\¬ Zf (M.plus [D]) fps' a)->Q (.ref D) H'
    | _=>False):=λ els q=>by
   cases ec:zxy k asg test elt els ρ1 [] with
   | no=>rw [ec] at q;exact q.elim
   | exc c=>rw [ec] at q;exact q.elim
   | ok p=>
    obtain ⟨acc,ρ2⟩:=p
    rw [ec] at q
    exact λ D ws H' fps' fpl k g r hD hD' tm hf=>zfx rep1 k1 g1 q k g r hD hD' tm hf
  cases x with
  | lst xs=>
   have one:∀ {Z:Addr->Prop}{H:Hp},Own M.K H Z (.lst xs) 0 v []->∃ a ws,v=.ref a/\SqL M.K H a ws/\OwnL M.K H Z xs 0 ws []:=λ o=>by
    rw [Own] at o
    obtain ⟨b,ws,e,⟨_,hr,_,ol⟩ | ⟨h,_⟩⟩:=o
    ·exact ⟨b,ws,e,.inl (.inl hr.1),ol⟩
    ·exact absurd rfl h
   obtain ⟨a,ws,rfl,sq,ol⟩:=one o0
   refine .inl ⟨a,rfl,.inl ⟨⟨ws,sq⟩,?_⟩⟩
   refine zyr (els:=xs) hP hl hal hvI hvE his hg hvo hvo2 rep1 (λ {D H' fps' i} hD k' h=>?_) (λ {D H' fps' i} hD k' h=>?_) (λ {D H' fps' i x H''} hD k' h y=>?_) (fin xs q)
   ·obtain ⟨a',ws,e,s,ol⟩:=one (KD.seen rep1 k' hD hvI o0)
    cases e
    exact ⟨ws,ws[i]'(by rw [ol.length];exact h),s,by simp⟩
   ·obtain ⟨a',ws,e,s,ol⟩:=one (KD.seen rep1 k' hD hvI o0)
    cases e
    exact ⟨ws,s,by rw [ol.length];exact h⟩
   ·obtain ⟨a',ws,e,s,ol⟩:=one (KD.seen rep1 k' hD hvI o0)
    cases e
    obtain ⟨e1,e2⟩:=y
    subst e1
    exact ⟨λ _ _ h=>h,ol.get (e2 ws s)⟩
  | tup xs=>
   have one:∀ {Z:Addr->Prop}{H:Hp},Own M.K H Z (.tup xs) 0 v []->∃ a ws,v=.ref a/\SqT M.K H a ws/\OwnL M.K H Z xs 0 ws []:=λ o=>by
    rw [Own] at o
    obtain ⟨a,ws,e,hr,ol⟩:=o
    exact ⟨a,ws,e,.inl (.inl hr),ol⟩
   obtain ⟨a,ws,rfl,sq,ol⟩:=one o0
   refine .inl ⟨a,rfl,.inr ⟨⟨ws,sq⟩,?_⟩⟩
   refine zyr (els:=xs) hP hl hal hvI hvE his hg hvo hvo2 rep1 (λ {D H' fps' i} hD k' h=>?_) (λ {D H' fps' i} hD k' h=>?_) (λ {D H' fps' i x H''} hD k' h y=>?_) (fin xs q)
   ·obtain ⟨a',ws,e,s,ol⟩:=one (KD.seen rep1 k' hD hvI o0)
    cases e
    exact ⟨ws,ws[i]'(by rw [ol.length];exact h),s,by simp⟩
   ·obtain ⟨a',ws,e,s,ol⟩:=one (KD.seen rep1 k' hD hvI o0)
    cases e
    exact ⟨ws,s,by rw [ol.length];exact h⟩
   ·obtain ⟨a',ws,e,s,ol⟩:=one (KD.seen rep1 k' hD hvI o0)
    cases e
    obtain ⟨e1,e2⟩:=y
    subst e1
    exact ⟨λ _ _ h=>h,ol.get (e2 ws s)⟩
  | str z=>
   have o0':=o0
   rw [Own] at o0'
   obtain ⟨rfl,_⟩:=o0'
   dsimp only at q
   by_cases ha:qcp z=true
   ·rw [if_pos ha] at q
    refine .inr ⟨z,rfl,ha,?_⟩
    have hl':(zbm z).length=z.cps.size:=by unfold zbm;rw [ja1,jg8]
    refine zyr (els:=zbm z) hP hl hal hvI hvE his hg hvo hvo2 rep1 (λ {D H' fps' i} hD k' h=>?_) (λ {D H' fps' i} hD k' h=>?_) (λ {D H' fps' i x H''} hD k' h y=>?_) (fin (zbm z) q)
    ·show i < z.cps.size
     omega
    ·show z.cps.size<=i
     omega
    ·obtain ⟨rfl,c,hc,rfl⟩:=y
     refine ⟨λ _ _ h=>h,.str ⟨#[c]⟩,?_,by rw [Own];exact ⟨rfl,rfl⟩⟩
     unfold zbm
     rw [jd1,jm6,hc]
     rfl
   ·rw [if_neg ha] at q
    exact q.elim
  | _=>exact q.elim
theorem zmm {g:TG}{is vI vE vo:List Nat}{asg:PV->Rho->Option Rho}{test:Fb}{elt:Fx}{k n:Nat}{Q:VK}{P:Fm->Prop}{lo:Int}{m:Nat}{H0:Hp}{fps0:Fps}{ρ0:Rho}
  (hn:σ.length=n) (hP:∀ D,P (M.comp D n vI)) (hal:∀ i,∀ j∈M.al i,M.Ms j=false) (hvI:∀ i∈vI,M.Ms i=false) (hvE:∀ i∈vE,M.Ms i=false) (his:∀ i∈is,n<=i) (hg:∀ D,GOk (M.comp D n vI) vI is g asg)
  (hvo:∀ i,i∈vE->i < n->i∈vo) (hvo2:∀ i∈vo,M.Ms i=false) (k0:KD M H0 fps0 H fps) (g0:Agr M ρ0 ρ) (rep:Rep M ρ σ H fps)
  (q:match (zxy k asg test elt (zzs lo m) ρ []).bindN λ (acc,ρ2)=>zzk acc ρ2 with
    | .ok (x,d,ρ')=>∀ v H' fps' fp,KD M H0 fps0 H' fps'->Agr M ρ0 ρ'->Rep M ρ' σ H' fps'->Own M.K H' (Zt M vo fps' fp) x d v fp->Temp M vo H0 H' fps' fp->Q v H'
    | .exc c=>∀ H' fps',KD M H0 fps0 H' fps'->M.W σ c H'
    | .no=>False):
  ∀ D,H D=none->∃ W:Nat->Nat->List V->Hp->Prop,(∃ m,W 0 m [] (upd H D (.lst [])))/\∀ i j ys H1,W i j ys H1->H1 D=some (.lst ys) /\
   (((Itr lo m).stop i H1/\Q (.ref D) H1)\/((Itr lo m).go i H1/\∀ x H',(Itr lo m).yld i H1 x H'->g x (σ++ja7 k none) H' λ σ2 H2=>∃ M',P M'/\tT M' test σ2 H2 λ b H3=>if b=true then ∃ M',P M'/\tE M' elt vE σ2 H3 λ y H4=>H4 D=some (.lst ys)/\ys.length < va2/\∃ m',m' < j/\W (i + 1) m' (ys++[y]) (upd H4 D (.lst (ys++[y]))) else ∃ m',m' < j/\W (i + 1) m' ys H3)):=by
 have hl:n=ρ.length:=by rw [rep.len];exact hn.symm
 refine zyr (els:=zzs lo m) hP hl hal hvI hvE his hg hvo hvo2 rep (λ {D H' fps' i} hD k' h=>?_) (λ {D H' fps' i} hD k' h=>?_) (λ {D H' fps' i x H''} hD k' h y=>?_) ?_
 ·rw [zxi] at h;exact h
 ·rw [zxi] at h;exact h
 ·rw [zxi] at h
  obtain ⟨e1,e2⟩:=y
  subst e1
  exact ⟨λ _ _ h=>h,.int (lo + i),by simp [zzs,h],by rw [e2,Own];exact ⟨rfl,rfl⟩⟩
 ·cases ec:zxy k asg test elt (zzs lo m) ρ [] with
  | no=>rw [ec] at q;exact q.elim
  | exc c=>rw [ec] at q;exact q.elim
  | ok p=>
   obtain ⟨acc,ρ2⟩:=p
   rw [ec] at q
   exact λ D ws H' fps' fpl k g r hD hD' tm hf=>zfx rep k0 g0 q k g r hD hD' tm hf
theorem qg5 {g:TG}{is vI vE vo:List Nat}{asg:PV->Rho->Option Rho}{test:Fb}{elt:Fx}{fa:Fa}{k n:Nat}{Q:VK}{P:Fm->Prop}
  (hn:σ.length=n) (hP:∀ D,P (M.comp D n vI)) (hal:∀ i,∀ j∈M.al i,M.Ms j=false) (hvI:∀ i∈vI,M.Ms i=false) (hvE:∀ i∈vE,M.Ms i=false) (his:∀ i∈is,n<=i) (hg:∀ D,GOk (M.comp D n vI) vI is g asg)
  (hvo:∀ i,i∈vE->i < n->i∈vo) (hvo2:∀ i∈vo,M.Ms i=false) (hq:tE M (zxs zqy fa k asg test elt) vo σ H Q):
  qai k (qhw (tL M fa vs)) g (λ σ H Q=>∃ M',P M'/\tT M' test σ H Q) (λ σ H Q=>∃ M',P M'/\tE M' elt vE σ H Q) σ H Q:=by
 obtain ⟨ρ,fps,rep,q⟩:=hq
 refine ⟨ρ,fps,rep,?_⟩
 unfold zxs at q
 cases ef:fa ρ with
 | no=>rw [ef] at q;exact q
 | exc c=>rw [ef] at q;exact q
 | ok p=>
  obtain ⟨xs,ρ1⟩:=p
  rw [ef] at q
  intro ws H1 fps1 f1 k1 g1 rep1 o1 t1
  dsimp only at q
  cases ee:zqy xs with
  | none=>rw [ee] at q;exact q.elim
  | some ij=>
   obtain ⟨i,j⟩:=ij
   rw [ee] at q
   unfold zqy at ee
   split at ee
   ·rename_i j' d
    split at ee
    ·rename_i hb
     cases ee
     obtain ⟨v,r,f1,f2,rfl,_,_,h1,h2⟩:=o1
     obtain ⟨rfl,_⟩:=h2
     rw [Own] at h1
     obtain ⟨rfl,_⟩:=h1
     refine ⟨j,rfl,hb.1,hb.2,?_⟩
     have e:(j - 0).toNat=j.toNat:=by omega
     dsimp only at q
     rw [e] at q
     exact zmm hn hP hal hvI hvE his hg hvo hvo2 k1 g1 rep1 q
    ·cases ee
   ·cases ee
theorem qg4 {g:TG}{is vI vE vo:List Nat}{asg:PV->Rho->Option Rho}{test:Fb}{elt:Fx}{fa:Fa}{k n:Nat}{Q:VK}{P:Fm->Prop}
  (hn:σ.length=n) (hP:∀ D,P (M.comp D n vI)) (hal:∀ i,∀ j∈M.al i,M.Ms j=false) (hvI:∀ i∈vI,M.Ms i=false) (hvE:∀ i∈vE,M.Ms i=false) (his:∀ i∈is,n<=i) (hg:∀ D,GOk (M.comp D n vI) vI is g asg)
  (hvo:∀ i,i∈vE->i < n->i∈vo) (hvo2:∀ i∈vo,M.Ms i=false) (hq:tE M (zxs zpj fa k asg test elt) vo σ H Q):
  qai k (qhv (tL M fa vs)) g (λ σ H Q=>∃ M',P M'/\tT M' test σ H Q) (λ σ H Q=>∃ M',P M'/\tE M' elt vE σ H Q) σ H Q:=by
 obtain ⟨ρ,fps,rep,q⟩:=hq
 refine ⟨ρ,fps,rep,?_⟩
 unfold zxs at q
 cases ef:fa ρ with
 | no=>rw [ef] at q;exact q
 | exc c=>rw [ef] at q;exact q
 | ok p=>
  obtain ⟨xs,ρ1⟩:=p
  rw [ef] at q
  intro ws H1 fps1 f1 k1 g1 rep1 o1 t1
  dsimp only at q
  cases ee:zpj xs with
  | none=>rw [ee] at q;exact q.elim
  | some ij=>
   obtain ⟨i,j⟩:=ij
   rw [ee] at q
   unfold zpj at ee
   split at ee
   ·rename_i i' d j' d'
    split at ee
    ·rename_i hb
     cases ee
     obtain ⟨v,r,f1,f2,rfl,_,_,h1,h2⟩:=o1
     obtain ⟨v2,r2,f3,f4,rfl,_,_,h3,h4⟩:=h2
     obtain ⟨rfl,_⟩:=h4
     rw [Own] at h1 h3
     obtain ⟨rfl,_⟩:=h1
     obtain ⟨rfl,_⟩:=h3
     exact ⟨i,j,rfl,hb,zmm hn hP hal hvI hvE his hg hvo hvo2 k1 g1 rep1 q⟩
    ·cases ee
   ·cases ee
end
theorem zbi {K:Frag}{c:Nat}{C:Addr} (e:zws K c=some C):c < 12:=by
 unfold zws at e
 split at e
 ·rename_i x h
  exact (ja8.mp h).1
 ·cases e
structure XC (h:Heap) (K:Frag) (c:Nat) (C:Addr):Prop where
 obj:∃ bm N nm q bs hdct sn sub ab col dd k0 k1 k2 k3 k5 mN,h.get? C=some (excClassObj nm q C N bs bm hdct sn sub ab col dd k0 k1 k2 k3 k5 "ValueError.__new__")/\h.Ns N mN/\mN "__init__" = none/\OwnTail h bmV bm/\∀ d D,zws K d=some D->(Value.ref C::bm).contains (.ref D)=isX c d
theorem qjq {K:Frag}{c:Nat}{C:Addr} (t:xTab K=true) (e:zws K c=some C):PySem.W.excIn K C bmV "ValueError.__new__" = true/\∀ d D,zws K d=some D->(mroX K C).contains (.ref D)=isX c d:=by
 unfold xTab at t
 have h:=jc4.mp t c (jd3.mpr (zbi e))
 rw [e] at h
 dsimp only at h
 rw [ja4] at h
 refine ⟨h.1,λ d D ed=>?_⟩
 have h2:=jc4.mp h.2 d (jd3.mpr (zbi ed))
 rw [ed] at h2
 exact eq_of_beq h2
theorem qjp {K:Frag}{h:Heap}{c:Nat}{C:Addr} (X:K.In h) (t:xTab K=true) (e:zws K c=some C):XC h K c C:=by
 obtain ⟨q,ht⟩:=qjq t e
 refine ⟨?_⟩
 unfold PySem.W.excIn at q
 split at q
 ·rename_i dd cd sl ho
  split at q
  ·rename_i C' bm k0 k1 k2 k3 n k5 hm hs
   simp only [ja4,beq_iff_eq,jj8] at q
   obtain ⟨⟨⟨⟨⟨rfl,rfl⟩,hdel⟩,htl⟩,hok⟩,hni⟩:=q
   have hmro:mroX K C'=.ref C'::bm:=by unfold mroX;rw [ho];exact hm
   rw [hmro] at ht
   obtain ⟨nm,bs,mro,ns,qn,hd,sn,sub,ab,col,del⟩:=cd
   dsimp only at hm hdel hok hni
   subst hm hdel
   have hsl:sl=#[k0,k1,k2,k3,some (.builtin "ValueError.__new__"),k5]:=by
    obtain ⟨l⟩:=sl
    simp only at hs
    rw [hs]
   subst hsl
   exact ⟨bm,ns,nm,qn,bs,hd,sn,sub,ab,col,dd,k0,k1,k2,k3,k5,_,X _ _ ho,.of_isNs (PySem.W.isNs_of_in X hok),PySem.W.nsMap_none_of_in X hok hni,PySem.W.tail_of_in X htl,ht⟩
  ·cases q
 ·cases q
def XEof (W:Nat->Hp->Prop):XK:=λ v _ H'=>match v with
 | .int c _=>W c.toNat H'
 | _=>False
def CXr (P:va8) (w:vb6) (K:Frag):CXT:=λ outer H s E e s'=>∃ (a C:Addr) (c:Nat) (H':Hp) (B:Heap) (a0:va0),e=.ref a/\zws K c=some C/\s'.os=s.os/\vf5 s'.gens/\Un (frs outer) [] H H' s.heap s'.heap/\HOk P w H' s'.heap/\H' a=none/\s.heap.get? a=none /\
 vi3 B outer a (.ref C) a0 s'.heap/\(∀ b o,s'.heap.get? b=some o->H' b≠none->B.get? b=some o)/\(∀ b o,s.heap.get? b=some o->H b=none->b∉frs outer->B.get? b=some o)/\(∀ b,H b≠none->H' b≠none)/\E (.int (c:Int) 0) none H'
theorem zfg {P:va8}{w:vb6}{H:Hp}{h:Heap}{a:Addr}{o:HO} (x:zwz P w H h a o):∃ u,h.get? a=some u:=by
 cases o with
 | lst xs=>obtain ⟨_,_,_,_,e⟩:=x;exact ⟨_,e⟩
 | tup xs=>obtain ⟨_,_,_,o,e,_⟩:=x;exact ⟨_,e⟩
 | dK kvs=>obtain ⟨_,_,_,_,o,_,_,e,_⟩:=x;exact ⟨_,e⟩
 | dT kvs=>obtain ⟨_,_,_,_,o,_,_,e,_⟩:=x;exact ⟨_,e⟩
 | set S n=>obtain ⟨o,_,_,_,e,_⟩:=x;exact ⟨_,e⟩
 | ins C dx fs=>obtain ⟨_,_,_,e,_⟩:=x;exact ⟨_,e⟩
 | own y=>exact x
 | xd fs=>obtain ⟨_,⟨_,_,_,e,_⟩,_⟩:=x;exact ⟨_,e⟩
 | rng lo hi=>obtain ⟨_,_,_,e⟩:=x;exact ⟨_,e⟩
 | frz ob u=>obtain ⟨e,_⟩:=x;exact ⟨_,e⟩
 | tbl ps=>exact ⟨_,(show h.get? a=some _ from x)⟩
 | met f y=>exact ⟨_,(show h.get? a=some _ from x)⟩
 | ext φ=>exact x.2.1
section
variable {X:Cx}{pins:List (Addr×Obj)}{σ:St}{H H1:Hp}{s s2:va1}{h1 B:Heap}{a C:Addr}{a0:va0}{c:Nat}{E:XK}{P:va8}{w:vb6}{K:Frag}
theorem qb9 (I:L2.Inv X pins σ H s) (hex:X.ex=[]) (u:Un (frs X.stack) [] H H1 s.heap h1) (hok:HOk X.prog X.w H1 h1) (fl:vi3 B X.outer a (.ref C) a0 s2.heap) (up:h1.UpToSlots s2.heap)
  (i1:∀ b o,h1.get? b=some o->H1 b≠none->B.get? b=some o) (i2:∀ b o,s.heap.get? b=some o->H b=none->b∉frs X.stack->B.get? b=some o) (ha:H1 a=none) (hn:s.heap.get? a=none)
  (hE:E (.int (c:Int) 0) none H1) (hd:∀ b,X.H₀ b≠none->H1 b≠none) (hc:zws X.K c=some C) (ho:s2.os=s.os) (hg:vf5 s2.gens):CXr X.prog X.w X.K X.outer X.H₀ X.s₀ E (.ref a) s2:=by
 have nx:∀ b:Addr,b∉X.ex:=λ b z=>by rw [hex] at z;cases z
 have key:∀ b o,X.s₀.heap.get? b=some o->X.H₀ b=none->b∉frs X.outer->B.get? b=some o:=λ b o e n hb=>by
  refine i2 b o (I.base.keep b o e n hb (nx b)) (I.base.free b o e n (nx b)) λ z=>?_
  rcases jb2.mp (I.stkSub b z) with z | z
  ·exact absurd (jb6 (va3 e) I.ok.above) (by rw [z];exact jf6 _)
  ·exact hb z
 have fr:∀ b o,X.s₀.heap.get? b=some o->X.H₀ b=none->b∈frs X.outer->∃ sl,s2.heap.get? b=some { o with slots:=sl }:=λ b o e n hb=>by
  obtain ⟨sl,e1⟩:=I.base.slot b o e n hb (nx b)
  obtain ⟨sl',e2⟩:=u.any e1 (I.base.free b o e n (nx b)) (by simp)
  obtain ⟨_,o',ho',hnf⟩:=I.ok.funs.mem hb
  rw [e] at ho';cases ho'
  obtain ⟨sl2,e3⟩:=up b _ e2 hnf
  exact ⟨sl2,e3⟩
 have trk:∀ b v,H1 b≠none->h1.get? b=some v->s2.heap.get? b=some v:=λ b v hb e=>fl.1 b v (i1 b v e hb)
 have un:Un (frs X.outer) [] X.H₀ H1 X.s₀.heap s2.heap:=by
  refine ⟨λ b o e n hb _=>fl.1 b o (key b o e n hb),λ b o e n hb _=>fr b o e n hb,λ b o e n _=>?_,λ b o e _=>?_,λ b xs e=>u.tups b xs (I.base.tups b xs e),λ b o xs e=>u.frzs b o xs (I.base.frzs b o xs e),λ b ps e=>?_⟩
  ·obtain ⟨o',e'⟩:=I.base.there b o e (nx b)
   exact u.free b o' e' (I.base.free b o e n (nx b)) (by simp)
  ·by_cases h0:X.H₀ b=none
   ·by_cases hb:b∈frs X.outer
    ·obtain ⟨sl,e2⟩:=fr b o e h0 hb
     exact ⟨_,e2⟩
    ·exact ⟨o,fl.1 b o (key b o e h0 hb)⟩
   ·obtain ⟨o',e'⟩:=I.base.there b o e (nx b)
    obtain ⟨o2,e2⟩:=u.there b o' e' (by simp)
    exact ⟨o2,trk b o2 (hd b h0) e2⟩
  ·obtain ⟨m1,e1⟩:=I.base.tbls b ps e
   obtain ⟨m2,e2⟩:=u.tbls b _ e1
   exact ⟨m1++m2,by rw [e2,jn6]⟩
 refine ⟨a,C,c,H1,B,a0,rfl,hc,ho.trans I.os,hg,un,λ b o e=>?_,ha,?_,fl,λ b o e hb=>?_,key,hd,hE⟩
 ·refine (hok b o e).stay (λ d v hd q=>trk d v ?_ q) (λ _ q=>q) λ _ _ q=>q
  rcases hd with rfl | hd
  ·rw [e];simp
  ·rw [hd];simp
 ·cases q:X.s₀.heap.get? a with
  | none=>rfl
  | some o=>
   obtain ⟨o',e'⟩:=I.base.there a o q (nx a)
   rw [hn] at e';cases e'
 ·cases q:H1 b with
  | none=>exact absurd q hb
  | some o1=>
   obtain ⟨v,hv⟩:=zfg (hok b o1 q)
   have e2:=trk b v hb hv
   rw [e] at e2
   cases e2
   exact i1 b o hv hb
end
def zps (CX:CXT) (X:Cx) (W:St->Nat->Hp->Prop):Prop:=∀ (pins:List (Addr×Obj)) (σ:St) (H:Hp) (s:va1) (e:va0) (s':va1),L2.Inv X pins σ H s->CX X.stack H s (XEof (W σ)) e s'->X.xe e s'
def qa7 (X:Cx) (W:St->Nat->Hp->Prop):Prop:=∀ (pins:List (Addr×Obj)) (σ:St) (H:Hp) (s:va1) (c:Nat) (C a:Addr) (h':Heap) (args:List va0),L2.Inv X pins σ H s->zws X.K c=some C->Heap.MadeExcOf s.heap h' a (.ref C) args->W σ c H->X.xe (.ref a) { s with heap:=h' }
abbrev W0:St->Nat->Hp->Prop:=λ _ _ _=>False
theorem qn7 {P:va8}{w:vb6}{K:Frag}{X:Cx}:zps (CXr P w K) X W0:=λ _ _ _ _ _ _ _ h=>by
 obtain ⟨a,C,c,H',B,a0,_,_,_,_,_,_,_,_,_,_,_,_,hE⟩:=h
 exact vc6 hE
def WE (E:XK) (H:Hp):St->Nat->Hp->Prop:=λ _ c H'=>E (.int (c:Int) 0) none H'/\∀ b,H b≠none->H' b≠none
section
variable {P:va8}{w:vb6}{K:Frag}{mg:Str->Option va0}{base:Heap}{N:List Str}{qual:Str}{scope:vd0}{f:Addr}{cd:va0}{A:vb8}{outer:List Env}{s:va1}{H:Hp}{E:XK}
theorem qhm:zps (CXr P w K) (cxOf (CXr P w K) P w K mg base N qual scope f cd A outer s H E) (WE E H):=by
 intro pins σ H1 s1 e s' I h
 obtain ⟨a,C,c,H',B,a0,rfl,hc,ho,hg,un,hok,ha,hn,fl,i1,i2,hd,hE⟩:=h
 have hE':WE E H σ c H':=hE
 refine wpAny_leaves_onW (by exact I.ok.frames) rfl fl λ h2 f2 up=>?_
 exact qb9 (s2:={ s' with heap:=h2 }) I rfl un hok f2 up i1 i2 ha hn hE'.1 hE'.2 hc ho hg
theorem qel:qa7 (cxOf (CXr P w K) P w K mg base N qual scope f cd A outer s H E) (WE E H):=by
 intro pins σ H1 s1 c C a h' args I hc hx hW
 have hin:∀ env∈(cxOf (CXr P w K) P w K mg base N qual scope f cd A outer s H E).stack,∀ b,env.frame=some b->b∈frs (cxOf (CXr P w K) P w K mg base N qual scope f cd A outer s H E).stack:=λ env he b hb=>jl4.mpr ⟨env,he,hb⟩
 have trk:∀ b,H1 b≠none->∃ o,s1.heap.get? b=some o:=λ b hb=>by
  cases q:H1 b with
  | none=>exact absurd q hb
  | some u=>exact zfg (I.hok b u q)
 have nfr:∀ b,H1 b≠none->b∉frs (cxOf (CXr P w K) P w K mg base N qual scope f cd A outer s H E).stack:=λ b hb z=>hb (I.stkFree b z)
 refine wpAny_leaves_madeW (base:=PySem.W.hideAll s1.heap (frs (cxOf (CXr P w K) P w K mg base N qual scope f cd A outer s H E).stack)) (h:=s1.heap) (by exact I.ok.frames) rfl (λ b o q=>PySem.W.of_hideAll _ q) (PySem.W.funFrames_hide I.stack hin) hx λ h2 t f2 _ _ up=>?_
 refine qb9 (s2:={ s1 with heap:=h2 }) I rfl (Un.kept hx.keeps) (I.hok.kept hx.keeps) f2 up (λ b o e hb=>?_) (λ b o e _ hb=>vg7 _ e hb) ?_ hx.new hW.1 hW.2 hc rfl I.bare
 ·obtain ⟨o1,e1⟩:=trk b hb
  have e2:=hx.keeps b o1 e1
  rw [e] at e2
  cases e2
  exact vg7 _ e1 (nfr b hb)
 ·cases q:H1 a with
  | none=>rfl
  | some u=>
   obtain ⟨o,e⟩:=zfg (I.hok a u q)
   rw [hx.new] at e;cases e
theorem qkz:vj4 (vb2 P w) (cxOf (CXr P w K) P w K mg base N qual scope f cd A outer s H E).A (cxOf (CXr P w K) P w K mg base N qual scope f cd A outer s H E).env (cxOf (CXr P w K) P w K mg base N qual scope f cd A outer s H E).xe:=PassesOwn.leaving
end
section
variable {X:Cx}{CX:CXT}{k:Nat}{f:Addr}{fd:vc4}{ps:List Str}{sp:Sp}{x:Str}{p pos:Pos}{e:Expr}{es:List Expr}{t:TA}{W:St->Nat->Hp->Prop}
def qiv (sp:Sp) (W:St->Nat->Hp->Prop) (t:TA):TE:=λ σ H Q=>t σ H λ vs H1=>sp vs H1 Q (XEof (W σ))
theorem qhl (F:FnOk X.prog X.w X.K X.mg X.base CX k f fd ps sp) (hr:Room k X.A) (hg:Gl X x) (hm:X.mg x=some (.ref f)) (hk:vd2 X.K (.ref f)=true) (hb:zpu X.K fd ps []) (hx:zps CX X W) (ha:PA X (e::es) t) (hdb:(x == ("__debug__" : Str))=false)
  (he:va4 (e::es) X.env=(false,eval e X.env)::va4 es X.env) (hpl:(vd4 pos (va4 es X.env)).any (·.1)=false):PE X (.Call (.Name x p) (e::es) [] pos) (qiv sp W t):=by
 intro pins s σ H Q I h
 refine vf1 (zpc I hg hm ?_ hdb)
 refine PySem.W.callWith_K (h₀:=X.base) I.ok.mod.kin hk (thn (ha pos pins s σ H _ I h) λ us s1 ⟨vs,H1,I1,r,q⟩=>⟨I1.kIn,?_⟩) he hpl
 have q':sp vs H1 Q (XEof (W σ)):=q
 have hl:(us++[]).length=ps.length:=by rw [jh4,<- r.length];exact F.len _ _ _ _ q'
 have hbd:=hb s1 us I1.kIn hl
 rw [jh4] at hbd
 refine wpAny_call (vi1 (F.run X.A X.stack s1 H1 ⟨us,[]⟩ us vs Q (XEof (W σ)) hr I1.env0 hbd r q') λ r s' hq=>?_)
 cases r with
 | error e=>exact hx pins σ H1 s1 e s' I1 hq
 | ok fl=>
  cases fl with
  | ret u=>exact I1.after hq
  | next=>exact vc6 hq
  | brk=>exact vc6 hq
  | cont=>exact vc6 hq
theorem qpy {P:va8}{w:vb6}{K:Frag}:qgt (CXr P w K) X E0:=λ _ _ _ _ _ _ _ h=>by
 obtain ⟨a,C,c,H',B,a0,_,_,_,_,_,_,_,_,_,_,_,_,hE⟩:=h
 exact vc6 hE
end
def zvr (cells:List (Str×Addr)):List (Str×vc8)->List (Str×Addr)->List (Str×Addr)
 | [],cs=>cs
 | (n,k)::r,cs=>if k == .free then zvr cells r ((n,(cells.lookup n).getD 0)::cs) else zvr cells r cs
theorem zys {scope:vd0}{env:Env} (h:∀ x∈scope.names,x.2=.free->∃ c,env.cells.lookup x.1=some c):closureFor scope env=pure (zvr env.cells scope.names []):=by
 unfold closureFor
 have all:∀ (l:List (Str×vc8)) (cs:List (Str×Addr)),(∀ x∈l,x.2=.free->∃ c,env.cells.lookup x.1=some c) ->
   (forIn l cs λ (x:Str×vc8) (cs:List (Str×Addr))=>if (x.2 == NameKind.free)=true then (do let a<-cellOf env x.1;pure (ForInStep.yield ((x.1,a)::cs))) else pure (ForInStep.yield cs):Sem (List (Str×Addr)))=pure (zvr env.cells l cs):=by
  intro l
  induction l with
  | nil=>intro cs _;rfl
  | cons x r ih=>
   intro cs hl
   obtain ⟨n,k⟩:=x
   rw [jp3]
   have ih':=λ cs=>ih cs λ y hy=>hl y (ja0 _ hy)
   by_cases hk:(k == NameKind.free)=true
   ·obtain ⟨c,hc⟩:=hl (n,k) ja3 (by simpa using hk)
    have e1:cellOf env n=pure c:=by unfold cellOf;rw [hc]
    rw [if_pos hk,e1]
    simp only [pure_bind]
    rw [ih',zvr,if_pos hk,hc]
    rfl
   ·rw [if_neg hk]
    simp only [pure_bind]
    rw [ih',zvr,if_neg hk]
 have:=all scope.names [] h
 simp only [bind_pure] at this ⊢
 exact this
theorem zxg (cells:List (Str×Addr)) (x:Str) (c:Addr):∀ (l:List (Str×vc8)) (cs:List (Str×Addr)),(∀ y∈l,y.2=.free->∃ c,cells.lookup y.1=some c)->(cs.lookup x=some c->cells.lookup x=some c)->(zvr cells l cs).lookup x=some c->cells.lookup x=some c
 | [],cs,_,h,e=>h e
 | (n,k)::r,cs,hl,h,e=>by
  unfold zvr at e
  split at e
  ·rename_i hk
   refine zxg cells x c r _ (λ y hy=>hl y (ja0 _ hy)) (λ e'=>?_) e
   rw [jd8] at e'
   split at e'
   ·rename_i hx
    obtain ⟨c',hc⟩:=hl (n,k) ja3 (by simpa using hk)
    rw [hc] at e'
    cases e'
    rw [eq_of_beq hx];exact hc
   ·exact h e'
  ·exact zxg cells x c r cs (λ y hy=>hl y (ja0 _ hy)) h e
theorem zji (cells:List (Str×Addr)) (x:Str):∀ (l:List (Str×vc8)) (cs:List (Str×Addr)),(∃ c,cs.lookup x=some c)->∃ c,(zvr cells l cs).lookup x=some c
 | [],cs,h=>h
 | (n,k)::r,cs,h=>by
  unfold zvr
  split
  ·refine zji cells x r _ ?_
   rw [jd8]
   split
   ·exact ⟨_,rfl⟩
   ·exact h
  ·exact zji cells x r cs h
theorem zpq (cells:List (Str×Addr)) (x:Str):∀ (l:List (Str×vc8)) (cs:List (Str×Addr)),(x,NameKind.free)∈l->∃ c,(zvr cells l cs).lookup x=some c
 | [],_,h=>nomatch h
 | (n,k)::r,cs,h=>by
  unfold zvr
  rcases jb2.mp h with e | e
  ·cases e
   rw [if_pos (show (NameKind.free == NameKind.free)=true by decide)]
   exact zji cells x r _ ⟨_,by rw [jd8,beq_self_eq_true]⟩
  ·split
   ·exact zpq cells x r _ e
   ·exact zpq cells x r cs e
theorem zpr:∀ (names:List (Str×vc8)) (n:Nat) (acc:List (Str×Addr)) (x:Str) (c:Addr),(vb9 n names acc).lookup x=some c->acc.lookup x=some c\/(n<=c/\(x,NameKind.cell)∈names)
 | [],n,acc,x,c,h=>.inl h
 | (m,k)::r,n,acc,x,c,h=>by
  unfold vb9 at h
  split at h
  ·rename_i hk
   have hk':k=.cell:=by simpa using hk
   rcases zpr r _ _ x c h with z | ⟨z,y⟩
   ·rw [jd8] at z
    split at z
    ·rename_i hx
     cases z
     exact .inr ⟨jb8 _,by rw [eq_of_beq hx,hk'];exact ja3⟩
    ·exact .inl z
   ·exact .inr ⟨jf4 z,ja0 _ y⟩
  ·rcases zpr r _ _ x c h with z | ⟨z,y⟩
   ·exact .inl z
   ·exact .inr ⟨z,ja0 _ y⟩
theorem zga:∀ (names:List (Str×vc8)) (n:Nat) (acc:List (Str×Addr)) (x:Str),(x,NameKind.cell)∉names->(vb9 n names acc).lookup x=acc.lookup x
 | [],n,acc,x,h=>rfl
 | (m,k)::r,n,acc,x,h=>by
  unfold vb9
  split
  ·rename_i hk
   have hk':k=.cell:=by simpa using hk
   rw [zga r _ _ x λ z=>h (ja0 _ z),jd8]
   split
   ·rename_i hx
    exact absurd (by rw [eq_of_beq hx,hk'];exact ja3) h
   ·rfl
  ·exact zga r _ _ x λ z=>h (ja0 _ z)
theorem qcn:∀ (names:List (Str×vc8)) (n:Nat) (acc:List (Str×Addr)) (x:Str),(x,NameKind.cell)∈names->∃ c,(vb9 n names acc).lookup x=some c/\n<=c
 | [],n,acc,x,h=>nomatch h
 | (m,k)::r,n,acc,x,h=>by
  by_cases hr:(x,NameKind.cell)∈r
  ·unfold vb9
   split
   ·obtain ⟨c,e,l⟩:=qcn r (n + 1) ((m,n)::acc) x hr
    exact ⟨c,e,jf4 l⟩
   ·exact qcn r n acc x hr
  ·rcases jb2.mp h with e | e
   ·cases e
    unfold vb9
    rw [if_pos (by decide),zga r _ _ _ hr,jd8,beq_self_eq_true]
    exact ⟨n,rfl,jb8 _⟩
   ·exact absurd e hr
theorem qgb:∀ (names:List (Str×vc8)) (n:Nat) (acc:List (Str×Addr)),(∀ x y c,acc.lookup x=some c->acc.lookup y=some c->x=y)->(∀ x c,acc.lookup x=some c->c < n)->∀ x y c,(vb9 n names acc).lookup x=some c->(vb9 n names acc).lookup y=some c->x=y
 | [],n,acc,hi,_,x,y,c,h1,h2=>hi x y c h1 h2
 | (m,k)::r,n,acc,hi,hl,x,y,c,h1,h2=>by
  unfold vb9 at h1 h2
  split at h1
  ·rename_i hk
   rw [if_pos hk] at h2
   refine qgb r (n + 1) ((m,n)::acc) (λ x y c h1 h2=>?_) (λ x c h=>?_) x y c h1 h2
   ·rw [jd8] at h1 h2
    split at h1
    ·rename_i e1
     cases h1
     split at h2
     ·rename_i e2
      rw [eq_of_beq e1,eq_of_beq e2]
     ·exact absurd (hl y _ h2) (jf6 _)
    ·split at h2
     ·cases h2
      exact absurd (hl x _ h1) (jf6 _)
     ·exact hi x y c h1 h2
   ·rw [jd8] at h
    split at h
    ·cases h;exact jh0 _
    ·exact jj9 (hl x c h)
  ·rename_i hk
   rw [if_neg hk] at h2
   exact qgb r n acc hi hl x y c h1 h2
theorem qar:∀ (names:List (Str×vc8)) (h:Heap) (acc:List (Str×Addr)) (x:Str) (c:Addr),(vb9 h.objs.size names acc).lookup x=some c->acc.lookup x=some c\/(pushCells h names).IsCell c none
 | [],h,acc,x,c,e=>.inl e
 | (m,k)::r,h,acc,x,c,e=>by
  unfold vb9 at e
  unfold pushCells
  split at e
  ·rename_i hk
   rw [if_pos hk]
   have hs:(h.push { cls:=.type "cell",data:=.cell none }).objs.size=h.objs.size + 1:=vf3 ..
   have e':(vb9 (h.push { cls:=.type "cell",data:=.cell none }).objs.size r ((m,h.objs.size)::acc)).lookup x=some c:=by rw [hs];exact e
   rcases qar r _ _ x c e' with z | z
   ·rw [jd8] at z
    split at z
    ·cases z
     exact .inr ⟨_,vi5 _ _ _ _ (vb0 _ rfl),rfl⟩
    ·exact .inl z
   ·exact .inr z
  ·rename_i hk
   rw [if_neg hk]
   exact qar r h acc x c e
theorem zha {M:Model}{A:vb8}{E:va0->va1->Prop}{s:va1}{scope:vd0}{globals:Addr}{cl:List (Str×Addr)}{qual:Str}{func:Option Addr}{code:va0}{around:Env}{builtins:Addr}{Q:Env->va1->Prop}
  (hQ:Q (newEnv scope s.heap.objs.size globals (vb9 (s.heap.objs.size + 1) scope.names cl) qual func code (some around) builtins) { s with heap:=pushCells (s.heap.push { cls:=.type "dict",data:=.dict #[] }) scope.names }):
  vb3 M A (vj7 scope globals cl [] qual func code (some around) builtins) Q E s:=by
 simp only [vj7,Option.isSome_some,if_true]
 refine va7 (wpAny_alloc ?_)
 refine va7 (wpAny_layCells _ (λ name kind cells=>by cases hkc:kind == NameKind.cell <;> simp [hkc]) _ _ _ _ ?_)
 rw [show ({ s with heap:=s.heap.push { cls:=.type "dict",data:=.dict #[] } }:va1).heap.objs.size=s.heap.objs.size + 1 from vf3 ..]
 exact va7 (va9 (va9 hQ))
def zhu (X:Cx) (scope:vd0) (C:Addr):List (Str×Addr):=vb9 (C + 1) scope.names (zvr X.env.cells scope.names [])
def zqw (X:Cx) (s2:va1) (H2:Hp) (scope:vd0) (C:Addr) (N':List Str) (fp:List Addr) (pins:List (Addr×Obj)):Cx:=
 { X with N:=N',s₀:=s2,H₀:=H2,env:=compEnvC scope (zhu X scope C) C X.env,outer:=X.stack,stack:=X.stack,ex:=fp,fn:=λ x=>scope.names.contains (x,NameKind.cell),pn:=X.pn++pins,xe:=λ _ _=>False }
structure CompOk (X:Cx) (scope:vd0) (N':List Str) (k:Nat):Prop where
 kind:scope.kind=.function
 dis:∀ x,(x,NameKind.free)∈scope.names->(x,NameKind.cell)∉scope.names
 names:∀ x∈scope.names,x.2=.local->scope.names.lookup x.1=some .local
 len:N'.length=X.N.length + k
 free:∀ x∈scope.names,x.2=.free->X.env.kindOf x.1=some .cell\/X.env.kindOf x.1=some .free
 kinds:∀ x,(vh3 scope X.env).names.lookup x=some .cell\/(vh3 scope X.env).names.lookup x=some .free->(x,NameKind.free)∈scope.names\/(x,NameKind.cell)∈scope.names
 capt:∀ (i:Nat) (x:Str),i < X.N.length->N'[i]?=some x->Vis (vh3 scope X.env) x->X.N[i]?=some x/\Vis X.env.scope x/\(x,NameKind.free)∈scope.names/\(vh3 scope X.env).names.lookup x≠some .local
section
variable {X:Cx}{scope:vd0}{N':List Str}{k:Nat}{pins:List (Addr×Obj)}{σ:St}{H2:Hp}{s2:va1}{fp:List Addr}{C:Addr}
theorem CompOk.cells (c:CompOk X scope N' k) (I:Inv X pins σ H2 s2):∀ x∈scope.names,x.2=.free->∃ a,X.env.cells.lookup x.1=some a:=λ x hx hf=>I.ok.has x.1 (c.free x hx hf)
theorem CompOk.cl (c:CompOk X scope N' k) (I:Inv X pins σ H2 s2) {x:Str}{a:Addr} (h:(zhu X scope C).lookup x=some a):X.env.cells.lookup x=some a\/(C + 1<=a/\(x,NameKind.cell)∈scope.names):=
 (zpr _ _ _ x a h).imp (λ z=>zxg _ x a _ [] (c.cells I) (λ z=>nomatch z) z) id
theorem CompOk.old (c:CompOk X scope N' k) (I:Inv X pins σ H2 s2) {x:Str}{a:Addr} (h:X.env.cells.lookup x=some a):a < s2.heap.objs.size:=by
 obtain ⟨v,o,ho,_⟩:=I.cell x a h
 exact va3 ho
theorem CompOk.cap (c:CompOk X scope N' k) {x:Str} (h:(x,NameKind.free)∈scope.names):∃ a,(zhu X scope C).lookup x=some a/\(zvr X.env.cells scope.names []).lookup x=some a:=by
 obtain ⟨a,ha⟩:=zpq X.env.cells x scope.names [] h
 exact ⟨a,(zga _ _ _ x (c.dis x h)).trans ha,ha⟩
theorem CompOk.ok (c:CompOk X scope N' k) (I:Inv X pins σ H2 s2) (hf:∀ b∈fp,FpOk X pins H2 b) (hC:s2.heap.objs.size<=C) (hfp:∀ b∈fp,b < s2.heap.objs.size):(zqw X s2 H2 scope C N' fp pins).Ok where
 mod:=I.ok.mod
 kind:=c.kind
 glob:=I.ok.glob
 blt:=I.ok.blt
 above:=hC
 inj:=λ x y a h1 h2=>qgb scope.names (C + 1) _ (λ x y a h1 h2=>I.ok.inj x y a (zxg _ x a _ [] (c.cells I) (λ z=>nomatch z) h1) (zxg _ y a _ [] (c.cells I) (λ z=>nomatch z) h2))
  (λ x a h=>jj9 (jb6 (c.old I (zxg _ x a _ [] (c.cells I) (λ z=>nomatch z) h)) hC)) x y a h1 h2
 has:=λ x hx=>(c.kinds x hx).elim (λ z=>let ⟨a,h,_⟩:=c.cap (C:=C) z;⟨a,h⟩) λ z=>let ⟨a,h,_⟩:=qcn scope.names (C + 1) (zvr X.env.cells scope.names []) x z;⟨a,h⟩
 cab:=λ x a h e=>by
  have hx:(x,NameKind.cell)∈scope.names:=by
   have h':scope.names.contains (x,NameKind.cell)=true:=h
   simpa using h'
  obtain ⟨a',e',l⟩:=qcn scope.names (C + 1) (zvr X.env.cells scope.names []) x hx
  have e2:(vb9 (C + 1) scope.names (zvr X.env.cells scope.names [])).lookup x=some a:=e
  rw [e'] at e2
  cases e2
  exact jd4 hC (jf4 l)
 hd:=I.ok.hd
 frames:=I.ok.frames
 stk:=.inl rfl
 exf:=λ b hb=>⟨jd2 (jb6 (hfp b hb) hC),λ x a h=>(c.cl I h).elim (λ z=>(hf b hb).2.2.2.2.1 x a z) λ z=>jh3 (jb6 (hfp b hb) (jd4 hC (jf4 z.1)))⟩
 bs:=I.bs
 bsz:=jd4 I.ok.bsz I.sz
 noex:=λ b o e hb=>by
  rcases (hf b hb).2.2.2.1 with z | z
  ·exact I.ok.noex b o e z
  ·exact absurd (jb6 (va3 e) (jd4 I.ok.bsz z)) (jf6 _)
 exfs:=λ b hb hz=>by
  rcases jb2.mp (I.stkSub b hz) with z | z
  ·exact (hf b hb).2.1 z
  ·exact (hf b hb).2.2.1 z
 funs:=I.stack
 frf:=I.stkFree
theorem CompOk.inv (c:CompOk X scope N' k) (I:Inv X pins σ H2 s2) (hf:∀ b∈fp,FpOk X pins H2 b) (hfp:∀ b∈fp,b < s2.heap.objs.size) {H3:Hp}{h':Heap}{t':Nat}{m:Str->Option va0}{D:Addr} (hCD:D≠C) (hD:s2.heap.objs.size<=D) (hC:s2.heap.objs.size<=C)
  (keep:∀ b o,s2.heap.get? b=some o->h'.get? b=some o) (ns:h'.Ns C m) (hH:∀ b,b≠D->H3 b=H2 b) (hok:HOk X.prog X.w H3 h') (hC3:H3 C=none) (hDC:D < C) (hcN:∀ x a,(zhu X scope C).lookup x=some a->C + 1<=a->h'.IsCell a none):
  Inv (zqw X s2 H2 scope C N' fp pins) [] (σ++ja7 k none) H3 { s2 with heap:=h',toks:=t' } where
 ok:=c.ok I hf hC hfp
 os:=rfl
 bare:=I.bare
 base:=by
  have nD:∀ b o,s2.heap.get? b=some o->b≠D:=λ b o e=>jd2 (jb6 (va3 e) hD)
  refine ⟨λ b o e _ _ _=>keep b o e,λ b o e _ _ _=>⟨o.slots,keep b o e⟩,λ b o e n _=>by rw [hH b (nD b o e)];exact n,λ b o e _=>⟨o,keep b o e⟩,λ b xs e=>?_,λ b o u e=>?_,λ b ps e=>⟨#[],?_⟩⟩
  ·have e:H2 b=some (.tup xs):=e
   rw [hH b (λ z=>by rw [z,I.hok.fresh hD] at e;cases e)];exact e
  ·have e:H2 b=some (.frz o u):=e
   rw [hH b (λ z=>by rw [z,I.hok.fresh hD] at e;cases e)];exact e
  ·have e:H2 b=some (.tbl ps):=e
   rw [hH b (λ z=>by rw [z,I.hok.fresh hD] at e;cases e)];simpa using e
 loc:=by
  refine ⟨m,ns,λ i x v e1 e2 e3=>?_⟩
  have hi:i < σ.length:=by
   by_cases hi:i < σ.length
   ·exact hi
   ·rw [jc9 (by omega),je8] at e2
    split at e2 <;> cases e2
  rw [jc2 hi] at e2
  obtain ⟨n1,n2,n3,n4⟩:=c.capt i x (by rw [<- I.len];exact hi) e1 e3
  obtain ⟨m0,ns0,hl⟩:=I.loc
  obtain ⟨u,r,lk⟩:=hl i x v n1 e2 n2
  refine ⟨u,r,.inr ⟨?_,?_⟩⟩
  ·rcases e3 with z | z | z
   ·exact absurd z n4
   ·exact .inl z
   ·exact .inr z
  ·obtain ⟨a,ha,hb⟩:=c.cap (C:=C) n3
   have ha':=zxg _ x a _ [] (c.cells I) (λ z=>nomatch z) hb
   refine ⟨a,ha,?_⟩
   rcases lk with ⟨hk,_⟩ | ⟨hk,a2,ha2,hc⟩
   ·rcases c.free _ n3 rfl with z | z <;> rw [hk] at z <;> cases z
   ·rw [ha'] at ha2;cases ha2
    obtain ⟨o,ho,hd⟩:=hc
    exact ⟨o,keep _ _ ho,hd⟩
 cell:=λ x a h=>by
  rcases c.cl I h with z | z
  ·obtain ⟨v,o,ho,hd⟩:=I.cell x a z
   exact ⟨v,o,keep _ _ ho,hd⟩
  ·exact ⟨none,hcN x a h z.1⟩
 free:=hC3
 freeC:=λ x a h=>by
  rcases c.cl I h with ha | z
  ·obtain ⟨v,o,ho,hd⟩:=I.cell x a ha
   rw [hH a (jd2 (jb6 (va3 ho) hD))]
   exact I.freeC x a ha
  ·rw [hH a (jh3 (jb6 hDC (jf4 z.1)))]
   exact I.hok.fresh (jd4 hC (jf4 z.1))
 pin:=λ p hp=>by
  have hp':p∈X.pn++pins:=by simpa [zqw] using hp
  obtain ⟨e,n,ne,nf,d⟩:=I.pin p hp'
  have hlt:=va3 e
  exact ⟨keep _ _ e,by rw [hH p.1 (jd2 (jb6 hlt hD))];exact n,jd2 (jb6 hlt hC),λ z=>(jb2.mp (I.stkSub p.1 z)).elim ne nf,d⟩
 hok:=hok
 len:=by
  show (σ++ja7 k none).length=N'.length
  rw [jb1,jd0,c.len,I.len]
def PTs (X:Cx) (ifs:List Expr) (t:TT):Prop:=
 ∀ (pins:List (Addr×Obj)) (s:va1) (σ:St) (H:Hp) (Q:Bool->Hp->Prop),Inv X pins σ H s->t σ H Q ->
  vb3 (vb2 X.prog X.w) X.A (forIn ifs true λ c r=>if r=true then do let ok<-isTrue c X.env (eval c X.env);pure (ForInStep.yield ok) else pure (ForInStep.yield r)) (TP X pins σ Q) X.xe s
theorem qkn {X:Cx}:PTs X [] (λ _ H Q=>Q true H):=λ _ _ _ H _ I h=>va9 ⟨H,I,h⟩
theorem qkm {X:Cx}{c:Expr}{t:TT} (hc:PT X c t):PTs X [c] t:=by
 intro pins s σ H Q I h
 rw [jp3]
 refine va7 ?_
 rw [if_pos rfl]
 refine va7 (thn (hc pins s σ H Q I h) λ b s1 q=>va9 ?_)
 exact va9 q
theorem CompOk.again (c:CompOk X scope N' k) (I:Inv X pins σ H2 s2) {σ':St}{H':Hp}{s':va1}{ps:List (Addr×Obj)} (hfp:∀ b∈fp,FpOk X pins H2 b) (J:Inv (zqw X s2 H2 scope C N' fp pins) ps σ' H' s'):Inv (zqw X s2 H2 scope C N' fp pins) ps (σ++ja7 k none) H' s' where
 ok:=J.ok
 os:=J.os
 bare:=J.bare
 base:=J.base
 loc:=by
  obtain ⟨m,ns,_⟩:=J.loc
  refine ⟨m,ns,λ i x v e1 e2 e3=>?_⟩
  have hi:i < σ.length:=by
   by_cases hi:i < σ.length
   ·exact hi
   ·rw [jc9 (by omega),je8] at e2
    split at e2 <;> cases e2
  rw [jc2 hi] at e2
  obtain ⟨n1,n2,n3,n4⟩:=c.capt i x (by rw [<- I.len];exact hi) e1 e3
  obtain ⟨m0,ns0,hl⟩:=I.loc
  obtain ⟨u,r,lk⟩:=hl i x v n1 e2 n2
  refine ⟨u,r,.inr ⟨?_,?_⟩⟩
  ·rcases e3 with z | z | z
   ·exact absurd z n4
   ·exact .inl z
   ·exact .inr z
  ·obtain ⟨a,ha,hb⟩:=c.cap (C:=C) n3
   have ha':=zxg _ x a _ [] (c.cells I) (λ z=>nomatch z) hb
   refine ⟨a,ha,?_⟩
   rcases lk with ⟨hk,_⟩ | ⟨hk,a2,ha2,hc⟩
   ·rcases c.free _ n3 rfl with z | z <;> rw [hk] at z <;> cases z
   ·rw [ha'] at ha2;cases ha2
    obtain ⟨o,ho,hd⟩:=hc
    obtain ⟨sl,ho'⟩:=J.base.any (b:=a) (ob:=o) ho (I.freeC x a ha') λ z=>(hfp a z).2.2.2.2.1 x a ha' rfl
    exact ⟨_,ho',hd⟩
 cell:=J.cell
 free:=J.free
 freeC:=J.freeC
 pin:=J.pin
 hok:=J.hok
 len:=by
  show (σ++ja7 k none).length=N'.length
  rw [jb1,jd0,c.len,I.len]
theorem zyf {prog:va8}{w:vb6}{A:vb8}{R:Result->va1->Prop}{s:va1}{elt target iter:Expr}{ifs:List Expr}{scope:vd0}{pos:Pos}{it acc:va0}{env:Env} (I:Nat->va1->Prop)
  (turn:∀ n s,I n s->vb3 (vb2 prog w) A (pyNext it) (λ r s₁=>match r with
   | none=>R (.ok .next) s₁
   | some v=>vb3 (vb2 prog w) A (vg4 target it v) (λ _ s₁'=>vb3 (vb2 prog w) A (vj0 target env v) (λ _ s₂=>
     vb3 (vb2 prog w) A (forIn ifs true λ c r=>if r=true then do let ok<-isTrue c env (eval c env);pure (ForInStep.yield ok) else pure (ForInStep.yield r)) (λ ok s₃=>
      if ok=true then vb3 (vb2 prog w) A (eval elt env) (λ x s₄=>
       vb3 (vb2 prog w) A (call (.builtin "list.append") [acc,x]) (λ _ s₅=>∃ m,m < n/\I m s₅) (λ _ _=>False) s₄) (λ _ _=>False) s₃
      else ∃ m,m < n/\I m s₃) (λ _ _=>False) s₂) (λ _ _=>False) s₁') (λ _ _=>False) s₁) (λ _ _=>False) s)
  (n:Nat) (h:I n s):
  vh4 (vb2 prog w) A (.compLoop (.ListComp elt [⟨target,iter,ifs,0⟩] scope pos) 0 it acc env) R s:=by
 refine codeAny_loop rfl I (λ n s hI=>?_) n h
 show vb3 _ A ((compTurn (.ListComp elt [⟨target,iter,ifs,0⟩] scope pos) 0 it acc env).onRaise (λ x=>do noteFrame x env;theTreesLotGoes x)) _ _ s
 refine wpAny_noted ?_
 rw [compTurn_list]
 refine va7 (wpAny_standAt (va7 (vd1 (turn n s hI) (λ r s₁ h₁=>?_) λ _ _ h'=>h'.elim)))
 cases r with
 | none=>exact va9 h₁
 | some v=>
  refine va7 (vd1 h₁ (λ _ s₁' h₁'=>?_) λ _ _ h'=>h'.elim)
  refine va7 (vd1 h₁' (λ _ s₂ h₂=>va7 (vd1 h₂ (λ ok s₃ h₃=>?_) λ _ _ h'=>h'.elim)) λ _ _ h'=>h'.elim)
  cases ok with
  | false=>exact va9 ⟨rfl,h₃⟩
  | true=>
   exact va7 (va7 (vd1 h₃ (λ x s₄ h₄=>va7 (vd1 h₄ (λ _ s₅ h₅=>va9 (va9 ⟨rfl,h₅⟩)) λ _ _ h'=>h'.elim)) λ _ _ h'=>h'.elim))
theorem zmo {elt iter tg:Expr}{ifs:List Expr}{pos:Pos}{J:It}{it:Addr}{tn:Nat->Heap->Prop}{g:TG}{tc:TT}{te:TE}{RR:va0->Addr->Result->va1->Prop}{Q:VK}{E:va0->va1->Prop}
  (c:CompOk X scope N' k) (hcalm:X.calm=true) (I:Inv X pins σ H2 s2) (T:Turn X.prog X.w X.K tg J fp it tn) (st:tn 0 s2.heap) (hf:∀ b∈fp,FpOk X pins H2 b)
  (hg:∀ C fp,PG (zqw X s2 H2 scope C N' fp pins) tg g) (hc:∀ C fp,PTs (zqw X s2 H2 scope C N' fp pins) ifs tc) (he:∀ C fp,PE (zqw X s2 H2 scope C N' fp pins) elt te)
  (h:∀ D,H2 D=none->∃ W:Nat->Nat->List V->Hp->Prop,(∃ m,W 0 m [] (upd H2 D (.lst [])))/\∀ i m ys H,W i m ys H->H D=some (.lst ys) /\
   ((J.stop i H/\Q (.ref D) H)\/(J.go i H/\∀ x H',J.yld i H x H'->g x (σ++ja7 k none) H' λ σ2 H2=>tc σ2 H2 λ b H3=>if b=true then te σ2 H3 λ y H4=>H4 D=some (.lst ys)/\ys.length < va2/\∃ m',m' < m/\W (i + 1) m' (ys++[y]) (upd H4 D (.lst (ys++[y]))) else ∃ m',m' < m/\W (i + 1) m' ys H3)))
  (hRR:∀ D C σ' H' s',s2.heap.objs.size<=C->Inv (zqw X s2 H2 scope C N' fp pins) [] σ' H' s'->Q (.ref D) H'->RR (.ref D) C (.ok .next) s')
  :
  vb3 (vb2 X.prog X.w) X.A (newList []) (λ acc s₃=>vb3 (vb2 X.prog X.w) X.A (vj7 scope X.env.globals (zvr X.env.cells scope.names []) [] X.env.qual none .none (some X.env)) (λ cenv s₄=>
   vh4 (vb2 X.prog X.w) X.A (.compStart (.ListComp elt [⟨tg,iter,ifs,0⟩] scope pos) 0 (.ref it) acc { cenv with scope:=vh3 scope X.env }) (RR acc cenv.locals) s₄) E s₃) E s2:=by
 refine ve2 (zha ?_)
 dsimp only
 generalize hH2:s2.heap.push { cls:=.type "list",dict:=none,data:=.seq ([]:List va0).toArray }=HP
 obtain ⟨h₁,hh₁⟩:∃ h₁,h₁=pushCells (HP.push { cls:=.type "dict",data:=.dict #[] }) scope.names:=⟨_,rfl⟩
 rw [<- hh₁]
 have kk:∀ b o,HP.get? b=some o->h₁.get? b=some o:=λ b o e=>by rw [hh₁];exact vi5 _ _ b o (va5 _ e)
 have hns₁:h₁.Ns HP.objs.size (λ _=>none):=by rw [hh₁];exact (Heap.Ns.new HP (.type "dict")).keeps (vi5 _ _)
 have hC:HP.objs.size=s2.heap.objs.size + 1:=by rw [<- hH2,vf3]
 have hDC:s2.heap.objs.size≠HP.objs.size:=by rw [hC];exact jd2 (jh0 _)
 have hCle:s2.heap.objs.size<=HP.objs.size:=by rw [hC];exact Nat.le_succ _
 have hfp:∀ b∈fp,b < s2.heap.objs.size:=λ b hb=>by
  obtain ⟨o,e,_⟩:=T.obj 0 _ st b hb
  exact va3 e
 have below:∀ b,b < s2.heap.objs.size->b≠HP.objs.size:=λ b hb=>by rw [hC];exact jd2 (jj9 hb)
 have old:∀ b o,s2.heap.get? b=some o->h₁.get? b=some o:=λ b o e=>kk b o (hH2 ▸ va5 _ e)
 have hacc:h₁.get? s2.heap.objs.size=some { cls:=.type "list",dict:=none,data:=.seq ([]:List va0).toArray }:=kk _ _ (hH2 ▸ vb0 _ rfl)
 have fD:H2 s2.heap.objs.size=none:=I.hok.fresh (jb8 _)
 obtain ⟨W,⟨m0,w0⟩,hW⟩:=h _ fD
 have hok3:HOk X.prog X.w (upd H2 s2.heap.objs.size (.lst [])) h₁:=I.hok.laid old (jb8 _) ⟨jh5 _,[],0,.nil,hacc⟩
 have st1:tn 0 h₁:=T.keep _ _ _ st λ b hb o e=>old b o e
 have I3:Inv (zqw X s2 H2 scope HP.objs.size N' fp pins) [] (σ++ja7 k none) (upd H2 s2.heap.objs.size (.lst [])) { s2 with heap:=h₁ }:=
  c.inv I hf hfp (t':=s2.toks) hDC (jb8 _) hCle old hns₁ (λ b hb=>zqn hb) hok3 (by rw [zqn (vb1 hDC)];exact I.hok.fresh hCle) (by rw [hC];exact jh0 _) (λ x a h l=>by
   have hs:(HP.push { cls:=.type "dict",data:=.dict #[] }).objs.size=HP.objs.size + 1:=vf3 ..
   have h':(vb9 (HP.push { cls:=.type "dict",data:=.dict #[] }).objs.size scope.names (zvr X.env.cells scope.names [])).lookup x=some a:=by rw [hs];exact h
   rcases qar scope.names _ _ x a h' with z | z
   ·exact absurd (jb6 (c.old I (zxg _ x a _ [] (c.cells I) (λ z=>nomatch z) z)) (jd4 hCle (jf4 l))) (jf6 _)
   ·rw [hh₁];exact z)
 have fx:∀ {H':Hp},(∀ b∈fp,H' b=none)->∀ b∈fp,FpOk (zqw X s2 H2 scope HP.objs.size N' fp pins) [] H' b:=λ hn b hb=>by
  obtain ⟨f0,f1,f2,f3,f4,f5⟩:=hf b hb
  refine ⟨hn b hb,jd2 (jb6 (hfp b hb) hCle),λ hz=>?_,.inl hb,λ x a h=>(c.cl I h).elim (λ z=>f4 x a z) λ z=>jh3 (jb6 (hfp b hb) (jd4 hCle (jf4 z.1))),λ p hp=>f5 p (by simpa [zqw] using hp)⟩
  rcases jb2.mp (I.stkSub b hz) with z | z
  ·exact f1 z
  ·exact f2 z
 have f0:∀ b∈fp,(upd H2 s2.heap.objs.size (.lst [])) b=none:=λ b hb=>by rw [zqn (jd2 (hfp b hb))];exact (hf b hb).1
 have loop:∀ s₃:va1,s₃={ s2 with heap:=h₁ } ->
   vh4 (vb2 X.prog X.w) X.A (.compLoop (.ListComp elt [⟨tg,iter,ifs,0⟩] scope pos) 0 (.ref it) (.ref s2.heap.objs.size) (compEnvC scope (zhu X scope HP.objs.size) HP.objs.size X.env))
    (RR (.ref s2.heap.objs.size) HP.objs.size) s₃:=by
  rintro s₃ rfl
  refine zyf (λ n s'=>∃ i H' ys,Inv (zqw X s2 H2 scope HP.objs.size N' fp pins) [] (σ++ja7 k none) H' s'/\tn i s'.heap/\(∀ b∈fp,H' b=none)/\W i n ys H') ?_ m0 ⟨0,_,[],I3,st1,f0,w0⟩
  rintro n s4 ⟨i,H4,ys,I4,st4,fr4,w4⟩
  obtain ⟨hD4,hcase⟩:=hW i n ys H4 w4
  rcases hcase with ⟨stop,qn⟩ | ⟨go,step⟩
  ·refine thn (T.done (zqw X s2 H2 scope HP.objs.size N' fp pins) rfl rfl rfl hcalm i [] s4 _ H4 (λ _ _=>False) I4 (fx fr4) st4 stop) λ r s5 ⟨hr,I5⟩=>?_
   subst hr
   exact hRR _ _ _ _ _ hCle I5 qn
  ·refine thn (T.item (zqw X s2 H2 scope HP.objs.size N' fp pins) rfl rfl rfl hcalm i [] s4 _ H4 (λ _ _=>False) I4 (fx fr4) st4 go) λ r s5 ⟨u,hr,h5⟩=>?_
   subst hr
   refine thn h5 λ _ s6 ⟨x,H6,I6,r6,y6,st6,fr6⟩=>?_
   have I6':=I6.pinned (fx fr6) (T.obj _ _ st6)
   have stays:∀ {σ':St}{H':Hp}{s':va1},Inv (zqw X s2 H2 scope HP.objs.size N' fp pins) ([]++zgr fp s6.heap) σ' H' s'->Inv (zqw X s2 H2 scope HP.objs.size N' fp pins) [] (σ++ja7 k none) H' s'/\tn (i + 1) s'.heap/\∀ b∈fp,H' b=none:=λ {σ' H' s'} J=>by
    refine ⟨c.again I hf J.unpinned,T.keep _ _ _ st6 λ b hb o e=>(J.pin (b,o) (ja5 _ (ja5 _ (zkm hb e)))).1,λ b hb=>?_⟩
    obtain ⟨o,e,d⟩:=T.obj _ _ st6 b hb
    exact (J.pin (b,o) (ja5 _ (ja5 _ (zkm hb e)))).2.1
   refine thn (hg _ _ _ s6 _ H6 x u _ I6' r6 (step x H6 y6)) λ _ s7 ⟨σ7,H7,I7,q7⟩=>?_
   refine thn (hc _ _ _ s7 σ7 H7 _ I7 q7) λ b s8 ⟨H8,I8,q8⟩=>?_
   cases b with
   | false=>
    rw [if_neg jc6] at q8 ⊢
    obtain ⟨m',hm,w'⟩:=q8
    obtain ⟨j1,j2,j3⟩:=stays I8
    exact ⟨m',hm,i + 1,H8,ys,j1,j2,j3,w'⟩
   | true=>
    rw [if_pos rfl] at q8 ⊢
    refine thn (he _ _ _ s8 σ7 H8 _ I8 q8) λ y s9 ⟨z,H9,I9,r9,hD9,hz9,m',hm,w'⟩=>?_
    refine thn (zbx (X:=zqw X s2 H2 scope HP.objs.size N' fp pins) _ s9 σ7 H9 (.ref s2.heap.objs.size) [z] (.ref s2.heap.objs.size) [y] (λ _ H'=>H'=upd H9 s2.heap.objs.size (.lst (ys++[z]))) I9 rfl (.cons r9 .nil) ⟨_,ys,z,rfl,rfl,hD9,hz9,rfl⟩) λ _ s10 ⟨_,H10,I10,_,e10⟩=>?_
    subst e10
    obtain ⟨j1,j2,j3⟩:=stays I10
    exact ⟨m',hm,i + 1,_,_,j1,j2,j3,w'⟩
 exact codeAny_compStart_list (loop _ rfl) (T.self _ 0 _ _ _ st1 (loop _ rfl))
theorem CompOk.out (I:Inv X pins σ H2 s2) (hf:∀ b∈fp,FpOk X pins H2 b) {σ':St}{H':Hp}{s':va1} (J:Inv (zqw X s2 H2 scope C N' fp pins) [] σ' H' s'):Inv X pins σ H' s':=
 I.call' (ch:=fp) J.os J.base J.hok J.bare λ b hb=>⟨(hf b hb).2.2.2.1,(hf b hb).2.1,(hf b hb).2.2.2.2.1,(hf b hb).2.2.2.2.2⟩
theorem CompOk.away (I:Inv X pins σ H2 s2) (hC:s2.heap.objs.size<=C) {σ':St}{H':Hp}{s':va1} (J:Inv X pins σ' H' s') (hC':H' C=none) {h':Heap} (sb:Heap.SameBut C s'.heap h'):Inv X pins σ' H' { s' with heap:=h' }:=by
 have lt:∀ b o,s2.heap.get? b=some o->b≠C:=λ b o e=>jd2 (jb6 (va3 e) hC)
 refine J.turned (t':=s'.toks) (it:=C) (λ b o hb e=>(sb.2 b hb).trans e) hC' (jh3 (jb6 I.lt hC)) (.inr (jd4 I.sz hC)) (λ x c h=>?_) λ p hp=>?_
 ·obtain ⟨v,o,ho,_⟩:=I.cell x c h
  exact lt c o ho
 ·exact lt p.1 p.2 (I.pin p hp).1
variable {elt iter tg:Expr}{ifs:List Expr}{pos:Pos}{wi:TI}{g:TG}{tc:TT}{te:TE}
theorem qex (c:CompOk X scope N' k) (hcalm:X.calm=true) (hi:PI X tg iter wi) (hg:∀ s2 H2 C fp pins,PG (zqw X s2 H2 scope C N' fp pins) tg g) (hc:∀ s2 H2 C fp pins,PTs (zqw X s2 H2 scope C N' fp pins) ifs tc)
  (he:∀ s2 H2 C fp pins,PE (zqw X s2 H2 scope C N' fp pins) elt te) (hs:∀ x,vf6 iter X.env x=pure x):PE X (.ListComp elt [⟨tg,iter,ifs,0⟩] scope pos) (qai k wi g tc te):=by
 intro pins s σ H Q I h
 rw [eval_ListComp]
 refine wpAny_comprehension_free (use:=none) rfl hs (zys (c.cells I)) c.kind c.names ?_
 refine thn (hi pins s σ H _ I h) λ v s1 h1=>thn h1 λ itv s2 h2=>?_
 obtain ⟨it,fp,tn,J,H',e,I2,T,st2,f2,W⟩:=h2
 subst e
 refine zmo (RR:=λ acc C=>compPost (vb2 X.prog X.w) X.A X.xe none (EP X pins σ Q) acc C) c hcalm I2 T st2 f2 (λ C fp=>hg s2 H' C fp pins) (λ C fp=>hc s2 H' C fp pins) (λ C fp=>he s2 H' C fp pins) W λ D C σ' H3 s' hC J3 q=>?_
 obtain ⟨m,ns,_⟩:=J3.loc
 exact ⟨m,ns,λ h' sb=>⟨.ref D,H3,CompOk.away I2 hC (CompOk.out I2 f2 J3) J3.free sb,rfl,q⟩⟩
theorem qc0 {i:Nat}{x:Str}{pos' spos:Pos} (hN:X.N.Nodup) (hi':X.N[i]?=some x) (hx:Loc X.env.scope x) (hfn:X.fn x=true\/X.env.scope.names.lookup x=some .local) (c:CompOk X scope N' k) (hcalm:X.calm=true) (hi:PI X tg iter wi) (hg:∀ s2 H2 C fp pins,PG (zqw X s2 H2 scope C N' fp pins) tg g) (hc:∀ s2 H2 C fp pins,PTs (zqw X s2 H2 scope C N' fp pins) ifs tc)
  (he:∀ s2 H2 C fp pins,PE (zqw X s2 H2 scope C N' fp pins) elt te) (hs:∀ x,vf6 iter X.env x=pure x):PS X (.Assign [.Name x pos'] (.ListComp elt [⟨tg,iter,ifs,0⟩] scope pos) spos) (tAsg (qai k wi g tc te) (zjw i)):=by
 have hsw:∃ b,swapsWith (.ListComp elt [⟨tg,iter,ifs,0⟩] scope pos) (some (.Name x pos')) spos.line X.env=pure b:=⟨_,rfl⟩
 obtain ⟨b,hsw⟩:=hsw
 cases b with
 | false=>exact qbs hN hi' hx (qex c hcalm hi hg hc he hs) hsw hfn
 | true=>
  intro pins s σ H D I h
  rw [exec_Assign_Name_used _ _ _ _ hsw]
  refine va7 (wpAny_standAt (va7 ?_))
  show vb3 _ X.A (do let _<-comprehension (.ListComp elt [⟨tg,iter,ifs,0⟩] scope pos) scope X.env _ (newList []) false (eval iter X.env) (some (vj0 (.Name x pos') X.env))) _ _ s
  refine va7 (vd1 (wpAny_comprehension_free (use:=some (vj0 (.Name x pos') X.env)) (Q:=λ _ s'=>SP X pins D .next s') rfl hs (zys (c.cells I)) c.kind c.names ?_) (λ _ s' hq=>va9 (va9 hq)) λ _ _ e=>e)
  refine thn (hi pins s σ H _ I h) λ v s1 h1=>thn h1 λ itv s2 h2=>?_
  obtain ⟨it,fp,tn,J,H',e,I2,T,st2,f2,W⟩:=h2
  subst e
  refine zmo (Q:=λ x H1=>zjw i x σ H1 D.nx) (RR:=λ acc C=>compPost (vb2 X.prog X.w) X.A X.xe (some (vj0 (.Name x pos') X.env)) (λ _ s'=>SP X pins D .next s') acc C) c hcalm I2 T st2 f2 (λ C fp=>hg s2 H' C fp pins) (λ C fp=>hc s2 H' C fp pins) (λ C fp=>he s2 H' C fp pins) W λ E C σ' H3 s' hC J3 q=>?_
  obtain ⟨m,ns,_⟩:=J3.loc
  have I3:=CompOk.out I2 f2 J3
  show vb3 _ X.A (vj0 (.Name x pos') X.env (.ref E)) _ _ _
  refine wpAny_assign_Name (zgj I3 hN hi' hx (v:=.ref E) rfl (λ s'' I4 hsb=>?_) hfn)
  obtain ⟨a,sb,ha⟩:=hsb
  have hCa:C≠a:=by
   rcases ha with z | z
   ·rw [z];exact jh3 (jb6 I2.lt hC)
   ·obtain ⟨v,o,ho,_⟩:=I2.cell x a z
    exact jh3 (jb6 (va3 ho) hC)
  exact ⟨m,ns.sameBut sb hCa,λ h' sb'=>⟨_,H3,CompOk.away I2 hC I4 J3.free sb',q⟩⟩
theorem qgy {P:va8}{w:vb6}{K:Frag}{tg:Expr} (z:Str) (tk:Tok) (it:Addr):Turn P w K tg (ItS z) [it] it (λ i h=>h.IsStrIter it "str_ascii_iterator" z tk i) where
 mem:=by simp
 obj:=λ i h st b hb=>by
  have e:b=it:=by simpa using hb
  subst e
  obtain ⟨o,e,c,d⟩:=st
  exact ⟨o,e,λ v z=>by rw [d] at z;cases z⟩
 keep:=λ i h h' st k=>by
  obtain ⟨o,e,r⟩:=st
  exact ⟨o,k it (by simp) o e,r⟩
 item:=by
  intro X hP hw hK hc i pins s σ H E I hf st hg
  subst hP hw hK
  have hi:i < z.cps.size:=hg
  obtain ⟨f0,f1,f2,f3,f4,f5⟩:=hf it (by simp)
  refine wpAny_pyNext_ascii_item st (c:=z.cps[i]) (by simp [hi]) λ h' st' sb=>?_
  have I1:Inv X pins σ H { s with heap:=h',toks:=s.toks + 1 }:=I.turned (t':=s.toks + 1) (λ b o hb e=>(sb.2 b hb).trans e) f0 f1 f3 f4 f5
  obtain ⟨o,e,c,d⟩:=id st'
  exact ⟨_,rfl,qfp (s:={ s with heap:=h',toks:=s.toks + 1 }) e c d (by decide) ⟨.str ⟨#[z.cps[i]]⟩,H,I1,⟨_,rfl⟩,⟨rfl,z.cps[i],by simp [hi],rfl⟩,st',λ b hb=>(hf b hb).1⟩⟩
 done:=by
  intro X hP hw hK hc i pins s σ H E I hf st hg
  subst hP hw hK
  have hi:z.cps.size<=i:=hg
  obtain ⟨f0,f1,f2,f3,f4,f5⟩:=hf it (by simp)
  exact wpAny_pyNext_ascii_end (I.ok.hd hc) st (by simp;omega) λ h' eb=>⟨rfl,I.turned (t':=s.toks) (λ b o hb e=>eb b o hb e) f0 f1 f3 f4 f5⟩
 self:=λ _ _ _ _ _ st h=>wpAny_pyIter_striter_ascii st h
theorem qn0 {l:Expr}{tl:TE} (hl:PE X l tl):PI X tg l (iSeq X.K tl):=by
 intro pins s σ H R I h
 refine thn (hl pins s σ H _ I h) λ v s1 ⟨x,H1,I1,r1,q1⟩=>?_
 obtain ⟨a,e,⟨⟨xs,hq⟩,q⟩ | ⟨⟨xs,hq⟩,q⟩⟩ | ⟨z,e,ha,q⟩:=q1
 ·subst e
  cases r1
  obtain ⟨its,rv,p,hz⟩:=I1.list hq
  refine wpAny_pyIter_list p.isList ?_
  refine ⟨s1.heap.objs.size,[s1.heap.objs.size],_,_,H1,rfl,I1.kept (t':=s1.toks) λ b o e=>va5 _ e,qdl a _,⟨_,vb0 _ rfl,rfl,rfl⟩,λ b hb=>?_,q⟩
  have e:b=s1.heap.objs.size:=by simpa using hb
  subst e
  exact I1.fpOk (jb8 _) (I1.hok.fresh (jb8 _))
 ·subst e
  cases r1
  obtain ⟨its,rv,p,hz⟩:=I1.tuple hq
  refine wpAny_pyIter_tuple (show s1.heap.IsTuple a its.toArray from p) ?_
  refine ⟨s1.heap.objs.size,[s1.heap.objs.size],_,_,H1,rfl,I1.kept (t':=s1.toks) λ b o e=>va5 _ e,qcs a _,⟨_,vb0 _ rfl,rfl,rfl⟩,λ b hb=>?_,q⟩
  have e:b=s1.heap.objs.size:=by simpa using hb
  subst e
  exact I1.fpOk (jb8 _) (I1.hok.fresh (jb8 _))
 ·subst e
  obtain ⟨tk,rfl⟩:=r1
  refine wpAny_pyIter_ascii ha ?_
  refine ⟨s1.heap.objs.size,[s1.heap.objs.size],_,_,H1,rfl,I1.kept (t':=s1.toks) λ b o e=>va5 _ e,qgy z tk _,⟨_,vb0 _ rfl,rfl,rfl⟩,λ b hb=>?_,q⟩
  have e:b=s1.heap.objs.size:=by simpa using hb
  subst e
  exact I1.fpOk (jb8 _) (I1.hok.fresh (jb8 _))
end
section
variable {M:Fm}{vs:List Nat}{H:Hp}{fps:Fps}{F:List Addr}{Q:VK}
theorem zxf {k:Int}{d:Nat} (h:Leaf M H fps vs F (.int k) d Q):Q (.int k) H:=h (.int k) H [] (λ _ _ h=>h) (by rw [Own];exact ⟨rfl,rfl⟩) (λ _ z=>nomatch z)
theorem zzl {k:Bool}{d:Nat} (h:Leaf M H fps vs F (.bl k) d Q):Q (.bl k) H:=h (.bl k) H [] (λ _ _ h=>h) (by rw [Own];exact ⟨rfl,rfl⟩) (λ _ z=>nomatch z)
theorem zbd {k:Str}{d:Nat} (h:Leaf M H fps vs F (.str k) d Q):Q (.str k) H:=h (.str k) H [] (λ _ _ h=>h) (by rw [Own];exact ⟨rfl,rfl⟩) (λ _ z=>nomatch z)
theorem zka {x:PV}{v:V} (h:Leaf M H fps vs F x (dv x) Q) (o:Own M.K H (Zv M vs fps) x 0 v []):Q v H:=h v H [] (λ _ _ h=>h) (o.dv.weak λ a z=>z.elim id λ z=>nomatch z) (λ _ z=>nomatch z)
theorem zxp {p:Addr}{o:HO} (hp:H p=none):∀ a u,H a=some u->upd H p o a=some u:=λ a u h=>by rw [zqn (λ e=>by rw [e,hp] at h;cases h)];exact h
theorem zhi {xs:List PV}{ws:List V} (h:Leaf M H fps vs F (.lst xs) 1 Q) (o:OwnL M.K H (Zv M vs fps) xs 0 ws []) {p:Addr} (hp:H p=none):Q (.ref p) (upd H p (.lst ws)):=by
 refine h (.ref p) _ [p] (zxp hp) ?_ λ a ha=>.inr (by rw [jb7.mp ha];exact hp)
 rw [Own]
 refine ⟨p,ws,rfl,.inr ⟨(by decide),[],zqo,rfl,(λ z=>nomatch z),?_⟩⟩
 rw [zgv]
 exact OwnL.move (S:=λ _=>False) (λ a u ha _=>zxp hp a u ha) (λ _ z=>z.elim) (λ a hd nz z=>z.elim nz λ z=>hd (by rw [jb7.mp z];exact hp)) xs 0 ws [] (λ _ z=>nomatch z) o
def atoms:List PV->Bool
 | []=>true
 | x::xs=>zjo x && atoms xs
def qdd:PV->Bool
 | .tup xs=>atoms xs
 | x=>zjo x
def qdg:List PV->Bool
 | []=>true
 | x::xs=>qdd x && qdg xs
def d1 (xs:List PV):Nat:=if qdg xs=true then om else 1
theorem OwnL.ats {K:Frag}{H:Hp}{Z Z':Addr->Prop}:∀ {xs:List PV}{ws:List V}{d d':Nat},QQ.atoms xs=true->OwnL K H Z xs d' ws []->OwnL K H Z' xs d ws []
 | [],ws,d,_,_,h=>by rw [OwnL] at h ⊢;exact h
 | x::xs,ws,d,_,ha,h=>by
  unfold QQ.atoms at ha
  rw [ja4] at ha
  rw [OwnL] at h ⊢
  obtain ⟨v,s,f1,f2,rfl,ef,dj,h1,h2⟩:=h
  obtain ⟨rfl,rfl⟩:f1=[]/\f2=[]:=by simpa using ef.symm
  exact ⟨v,s,[],[],rfl,rfl,dj,(Own.atom ha.1 h1).2,h2.ats ha.2⟩
theorem Own.flat {K:Frag}{H:Hp}{Z Z':Addr->Prop}{x:PV}{v:V}{d d':Nat} (hx:qdd x=true) (h:Own K H Z x d' v []):Own K H Z' x d v []:=by
 cases x with
 | tup xs=>
  rw [Own] at h ⊢
  obtain ⟨a,vs,e,ha,hl⟩:=h
  exact ⟨a,vs,e,ha,hl.ats hx⟩
 | lst _=>cases hx
 | dct _=>cases hx
 | exn _=>exact (Own.atom rfl h).2
 | emp=>exact (Own.atom rfl h).2
 | dko=>exact (Own.atom rfl h).2
 | scr _=>exact (Own.atom rfl h).2
 | non=>exact (Own.atom rfl h).2
 | bl _=>exact (Own.atom rfl h).2
 | int _=>exact (Own.atom rfl h).2
 | str _=>exact (Own.atom rfl h).2
theorem OwnL.ats0 {K:Frag}{H:Hp}{Z:Addr->Prop}:∀ {xs:List PV}{ws:List V}{d:Nat}{f:List Addr},QQ.atoms xs=true->OwnL K H Z xs d ws f->f=[]
 | [],ws,d,f,_,h=>by rw [OwnL] at h;exact h.2
 | x::xs,ws,d,f,ha,h=>by
  unfold QQ.atoms at ha
  rw [ja4] at ha
  rw [OwnL] at h
  obtain ⟨v,s,f1,f2,rfl,rfl,dj,h1,h2⟩:=h
  rw [(Own.atom (Z':=Z) (d':=d) ha.1 h1).1,h2.ats0 ha.2]
  rfl
theorem Own.flatA {K:Frag}{H:Hp}{Z Z':Addr->Prop}{x:PV}{v:V}{d d':Nat}{f:List Addr} (hx:qdd x=true) (h:Own K H Z x d v f):f=[]/\Own K H Z' x d' v []:=by
 have e:f=[]:=by
  cases x with
  | tup xs=>
   rw [Own] at h
   obtain ⟨a,vs,e,ha,hl⟩:=h
   exact hl.ats0 hx
  | lst _=>cases hx
  | dct _=>cases hx
  | exn _=>exact (Own.atom (Z':=Z) (d':=d) rfl h).1
  | emp=>exact (Own.atom (Z':=Z) (d':=d) rfl h).1
  | dko=>exact (Own.atom (Z':=Z) (d':=d) rfl h).1
  | scr _=>exact (Own.atom (Z':=Z) (d':=d) rfl h).1
  | non=>exact (Own.atom (Z':=Z) (d':=d) rfl h).1
  | bl _=>exact (Own.atom (Z':=Z) (d':=d) rfl h).1
  | int _=>exact (Own.atom (Z':=Z) (d':=d) rfl h).1
  | str _=>exact (Own.atom (Z':=Z) (d':=d) rfl h).1
 subst e
 exact ⟨rfl,h.flat hx⟩
theorem OwnL.atoms {K:Frag}{H:Hp}{Z Z':Addr->Prop}:∀ {xs:List PV}{ws:List V}{d:Nat},qdg xs=true->OwnL K H Z xs 0 ws []->OwnL K H Z' xs d ws []
 | [],ws,d,_,h=>by rw [OwnL] at h ⊢;exact h
 | x::xs,ws,d,ha,h=>by
  unfold qdg at ha
  rw [ja4] at ha
  rw [OwnL] at h ⊢
  obtain ⟨v,s,f1,f2,rfl,ef,dj,h1,h2⟩:=h
  obtain ⟨rfl,rfl⟩:f1=[]/\f2=[]:=by simpa using ef.symm
  exact ⟨v,s,[],[],rfl,rfl,dj,h1.flat ha.1,h2.atoms ha.2⟩
theorem zvc {xs:List PV}{ws:List V} (h:Leaf M H fps vs F (.lst xs) (d1 xs) Q) (o:OwnL M.K H (Zv M vs fps) xs 0 ws []) {p:Addr} (hp:H p=none):Q (.ref p) (upd H p (.lst ws)):=by
 unfold d1 at h
 split at h
 ·rename_i ha
  refine h (.ref p) _ [p] (zxp hp) ?_ λ a ha=>.inr (by rw [jb7.mp ha];exact hp)
  rw [Own]
  refine ⟨p,ws,rfl,.inr ⟨(by decide),[],zqo,rfl,(λ z=>nomatch z),?_⟩⟩
  have o':OwnL M.K (upd H p (.lst ws)) (Zv M vs fps) xs 0 ws []:=OwnL.move (S:=λ _=>False) (λ a u ha _=>zxp hp a u ha) (λ _ z=>z.elim) (λ _ _ n=>n) xs 0 ws [] (λ _ z=>nomatch z) o
  exact o'.atoms ha
 ·exact zhi h o hp
theorem zbc {xs:List PV}{ws:List V} (h:Leaf M H fps vs F (.tup xs) 0 Q) (o:OwnL M.K H (Zv M vs fps) xs 0 ws []) {p:Addr} (hp:H p=none):Q (.ref p) (upd H p (.tup ws)):=by
 refine h (.ref p) _ [] (zxp hp) ?_ λ a ha=>nomatch ha
 rw [Own]
 refine ⟨p,ws,rfl,zqo,?_⟩
 rw [qez]
 exact OwnL.move (S:=λ _=>False) (λ a u ha _=>zxp hp a u ha) (λ _ z=>z.elim) (λ a hd nz z=>z.elim nz λ z=>nomatch z) xs 0 ws [] (λ _ z=>nomatch z) o
theorem qda {xs:List PV}{ws:List V} (h:Leaf M H fps vs F (.lst xs) om Q) {Z:Addr->Prop} (o:OwnL M.K H Z xs om ws F) {p:Addr} (hp:H p=none):Q (.ref p) (upd H p (.lst ws)):=by
 refine h (.ref p) _ (p::F) (zxp hp) ?_ λ a ha=>(jb2.mp ha).elim (λ e=>.inr (by rw [e];exact hp)) .inl
 rw [Own]
 refine ⟨p,ws,rfl,.inr ⟨(by decide),F,zqo,rfl,λ z=>?_,?_⟩⟩
 ·obtain ⟨ys,e⟩:=OwnL.lsts xs om ws F o p z
  rw [hp] at e;cases e
 ·exact OwnL.full xs ws F (OwnL.move (S:=λ _=>False) (Z':=Z) (λ a u ha _=>zxp hp a u ha) (λ _ z=>z.elim) (λ _ _ n=>n) xs om ws F (λ _ _ z=>z) o)
theorem qfc {xs:List PV}{ws:List V} (h:Leaf M H fps vs F (.tup xs) om Q) {Z:Addr->Prop} (o:OwnL M.K H Z xs om ws F) {p:Addr} (hp:H p=none):Q (.ref p) (upd H p (.tup ws)):=by
 refine h (.ref p) _ F (zxp hp) ?_ λ a ha=>.inl ha
 rw [Own]
 exact ⟨p,ws,rfl,zqo,OwnL.full xs ws F (OwnL.move (S:=λ _=>False) (Z':=Z) (λ a u ha _=>zxp hp a u ha) (λ _ z=>z.elim) (λ _ _ n=>n) xs om ws F (λ _ _ z=>z) o)⟩
end
theorem Own.seqL {K:Frag}{H:Hp}{Z:Addr->Prop}{xs:List PV}{d:Nat}{v:V}{fp:List Addr} (h:Own K H Z (.lst xs) d v fp):∃ a ws,v=.ref a/\SqL K H a ws/\ws.length=xs.length:=by
 rw [Own] at h
 obtain ⟨a,ws,e,⟨_,hr,_,ol⟩ | ⟨_,f,ha,_,_,ol⟩⟩:=h
 ·exact ⟨a,ws,e,.inl (.inl hr.1),ol.length⟩
 ·exact ⟨a,ws,e,.inl (.inl ha),ol.length⟩
theorem Own.seqT {K:Frag}{H:Hp}{Z:Addr->Prop}{xs:List PV}{d:Nat}{v:V}{fp:List Addr} (h:Own K H Z (.tup xs) d v fp):∃ a ws,v=.ref a/\SqT K H a ws/\ws.length=xs.length:=by
 rw [Own] at h
 obtain ⟨a,ws,e,hr,ol⟩:=h
 exact ⟨a,ws,e,.inl (.inl hr),ol.length⟩
theorem Own.coldL {K:Frag}{H:Hp}{Z:Addr->Prop}{xs:List PV}{v:V} (h:Own K H Z (.lst xs) 0 v []):∃ a ws,v=.ref a/\H a=some (.lst ws)/\OwnL K H Z xs 0 ws []:=by
 rw [Own] at h
 obtain ⟨a,ws,e,⟨_,hr,_,ol⟩ | ⟨h,_⟩⟩:=h
 ·exact ⟨a,ws,e,hr.1,ol⟩
 ·exact absurd rfl h
theorem Own.coldT {K:Frag}{H:Hp}{Z:Addr->Prop}{xs:List PV}{v:V} (h:Own K H Z (.tup xs) 0 v []):∃ a ws,v=.ref a/\H a=some (.tup ws)/\OwnL K H Z xs 0 ws []:=by
 rw [Own] at h
 exact h
theorem OwnL.app {K:Frag}{H:Hp}{Z:Addr->Prop}:∀ {xs ys:List PV}{ws us:List V},OwnL K H Z xs 0 ws []->OwnL K H Z ys 0 us []->OwnL K H Z (xs++ys) 0 (ws++us) []
 | [],ys,ws,us,h,h'=>by rw [OwnL] at h;obtain ⟨rfl,_⟩:=h;exact h'
 | x::xs,ys,ws,us,h,h'=>by
  rw [OwnL] at h
  obtain ⟨v,s,f1,f2,rfl,ef,dj,h1,h2⟩:=h
  obtain ⟨rfl,rfl⟩:f1=[]/\f2=[]:=by simpa using ef.symm
  show OwnL K H Z (x::(xs++ys)) 0 (v::(s++us)) []
  rw [OwnL]
  exact ⟨v,s++us,[],[],rfl,rfl,λ _ z=>(nomatch z),h1,h2.app h'⟩
theorem OwnL.drop {K:Frag}{H:Hp}{Z:Addr->Prop}:∀ {xs:List PV}{ws:List V} (n:Nat),OwnL K H Z xs 0 ws []->OwnL K H Z (xs.drop n) 0 (ws.drop n) []
 | xs,ws,0,h=>h
 | [],ws,n + 1,h=>by rw [OwnL] at h;obtain ⟨rfl,_⟩:=h;rw [jq1,jq1,OwnL];exact ⟨rfl,rfl⟩
 | x::xs,ws,n + 1,h=>by
  rw [OwnL] at h
  obtain ⟨v,s,f1,f2,rfl,ef,dj,h1,h2⟩:=h
  obtain ⟨rfl,rfl⟩:f1=[]/\f2=[]:=by simpa using ef.symm
  exact h2.drop n
theorem OwnL.take {K:Frag}{H:Hp}{Z:Addr->Prop}:∀ {xs:List PV}{ws:List V} (n:Nat),OwnL K H Z xs 0 ws []->OwnL K H Z (xs.take n) 0 (ws.take n) []
 | xs,ws,0,h=>by rw [jk1,jk1,OwnL];exact ⟨rfl,rfl⟩
 | [],ws,n + 1,h=>by rw [OwnL] at h;obtain ⟨rfl,_⟩:=h;rw [jn7,jn7,OwnL];exact ⟨rfl,rfl⟩
 | x::xs,ws,n + 1,h=>by
  rw [OwnL] at h
  obtain ⟨v,s,f1,f2,rfl,ef,dj,h1,h2⟩:=h
  obtain ⟨rfl,rfl⟩:f1=[]/\f2=[]:=by simpa using ef.symm
  rw [ji5,ji5,OwnL]
  exact ⟨v,s.take n,[],[],rfl,rfl,λ _ z=>(nomatch z),h1,h2.take n⟩
theorem OwnL.nth {K:Frag}{H:Hp}{Z:Addr->Prop}{xs:List PV}{ws:List V}{j:Nat}{x:PV} (h:OwnL K H Z xs 0 ws []) (e:xs[j]?=some x):∃ w,ws[j]?=some w/\Own K H Z x 0 w []:=by
 have hj:j < ws.length:=by rw [h.length];exact (ja8.mp e).1
 obtain ⟨y,e1,e2⟩:=h.get (i:=j) (w:=ws[j]) (by simp [hj])
 rw [e] at e1;cases e1
 exact ⟨_,by simp [hj],e2⟩
theorem cold {M:Fm}{vs:List Nat}{H:Hp}{fps:Fps}{x:PV}{d:Nat}{v:V}{fp:List Addr} (o:Own M.K H (Zt M vs fps fp) x d v fp) (hf:∀ a∈fp,¬ Zf M fps a):Own M.K H (Zv M vs fps) x 0 v []:=
 Own.freeze (λ _ z=>.inl z) x d v fp (λ a ha z=>hf a ha z.zf) o
def zqg:PV->Nat->PV->Nat->Option (PV×Nat)
 | .int i,_,.int j,_=>some (.int (i + j),om)
 | .lst xs,_,.lst ys,_=>if xs.length + ys.length<=va2 then some (.lst (xs++ys),d1 (xs++ys)) else none
 | .tup xs,_,.tup ys,_=>if xs.length + ys.length<=va2 then some (.tup (xs++ys),0) else none
 | .str x,_,.str y,_=>if x.length + y.length<=va2 then some (.str (x++y),om) else none
 | _,_,_,_=>none
def qc5 (p:Int->Int->Bool) (g:Int->Int->Int):PV->Nat->PV->Nat->Option (PV×Nat)
 | .int i,_,.int j,_=>if p i j then some (.int (g i j),om) else none
 | _,_,_,_=>none
def pMul (i j:Int):Bool:=(decide (-(2 ^ 64) < i) && decide (i < 2 ^ 64)) || (decide (-(2 ^ 64) < j) && decide (j < 2 ^ 64))
def pDiv (_ j:Int):Bool:=decide (0 < j) && decide (j < 2 ^ 128)
def pMod (_ j:Int):Bool:=decide (0 < j)
def pPow (i j:Int):Bool:=decide (0<=j) && decide (j<=1000) && decide (i.natAbs < 2 ^ 64)
def zxj:=qc5 (λ _ _=>true) (λ i j=>i - j)
def repL (n:Nat) (xs:List PV):List PV:=(ja7 n xs).flatten
def sRep (x:Str) (n:Nat):Str:=⟨(ja7 n x.cps.toList).flatten.toArray⟩
def zxc:PV->Nat->PV->Nat->Option (PV×Nat)
 | .str x,_,.int n,_=>if -(2 ^ 62)<=n/\n < 2 ^ 62/\x.length * n.toNat<=va2 then some (.str (sRep x n.toNat),om) else none
 | .int i,_,.int j,_=>if pMul i j then some (.int (i * j),om) else none
 | .lst xs,_,.int k,_=>if 0<=k/\k < 2 ^ 62/\xs.length * k.toNat<=va2 then some (.lst (repL k.toNat xs),d1 (repL k.toNat xs)) else none
 | _,_,_,_=>none
def zmb:=qc5 pDiv (λ i j=>i / j)
def zjv:=qc5 pMod (λ i j=>i % j)
def zgx:=qc5 pPow (λ i j=>i ^ j.toNat)
section
variable {X:Cx}
theorem qho:OpR X (vd3 .FloorDiv) (rI (λ _ j=>0 < j/\j < 2 ^ 128) λ i j=>.int (i / j)):=opI λ i j _ _ _ _ _ hc q=>by
 have h1:(0:Int) < j:=hc.1
 have h2:j < 2 ^ 128:=hc.2
 refine floordiv_int (by omega) (by rw [Int.fdiv_eq_ediv_of_nonneg i (by omega)];exact q) (.inl (PyProof.noPylong_of_log2 ?_))
 have h3:j.natAbs < 2 ^ 128:=by omega
 have h4:j.natAbs≠0:=by omega
 have:=(jr4 h4).mpr h3
 omega
end
theorem zqv {X:Cx}{e:Expr}{t t':TE} (h:PE X e t) (i:∀ σ H Q,t' σ H Q->t σ H Q):PE X e t':=λ pins s σ H Q I q=>h pins s σ H Q I (i σ H Q q)
theorem zgp {X:Cx}{e:Expr}{t t':TT} (h:PT X e t) (i:∀ σ H Q,t' σ H Q->t σ H Q):PT X e t':=λ pins s σ H Q I q=>h pins s σ H Q I (i σ H Q q)
theorem qiz {X:Cx}{e:Expr}{t t':TT} (h:PW X e t) (i:∀ σ H Q,t' σ H Q->t σ H Q):PW X e t':=λ wh pins s σ H Q I q=>h wh pins s σ H Q I (i σ H Q q)
theorem qi6 {X:Cx}{e:List Expr}{t t':TA} (h:PA X e t) (i:∀ σ H Q,t' σ H Q->t σ H Q):PA X e t':=λ p pins s σ H Q I q=>h p pins s σ H Q I (i σ H Q q)
theorem zxr {X:Cx}{e:Stmt}{t t':TS} (h:PS X e t) (i:∀ D σ H,t' D σ H->t D σ H):PS X e t':=λ pins s σ H D I q=>h pins s σ H D I (i D σ H q)
theorem qap {X:Cx}{e:List Stmt}{t t':TS} (h:PSs X e t) (i:∀ D σ H,t' D σ H->t D σ H):PSs X e t':=λ pins s σ H D I q=>h pins s σ H D I (i D σ H q)
section
variable {X:Cx}{M:Fm}{a b:Expr}{f g:Fx}{vs vs':List Nat}{pos:Pos}{σ:St}{H:Hp}{Q:VK}
theorem qhp:OpR X (vd3 .Add) (λ x y H Q=>∃ a b ys,x=.ref a/\y=.ref b/\SqT X.K H a []/\SqT X.K H b ys/\Q (.ref b) H):=by
 intro pins s σ H x y v u Q I rx ry h
 obtain ⟨a,b,ys,rfl,rfl,ha,hb,q⟩:=h
 cases rx
 cases ry
 obtain ⟨its,r1,p1,_⟩:=I.tuple ha
 obtain ⟨its2,r2,p2,_⟩:=I.tuple hb
 cases r1
 obtain ⟨⟨cls,dd,data,sl⟩,ho,hc,n,hd⟩:=id p1
 obtain ⟨⟨cls2,dd2,data2,sl2⟩,ho2,hc2,n2,hd2⟩:=id p2
 simp only at hc hd hc2 hd2
 subst hc hd hc2 hd2
 exact concat_meets ⟨_,ho,rfl⟩ ⟨_,ho2,rfl⟩ vi4 seq_tuple_add vg2 vg0 (vf7 _ _)
  (tuple_addW0 a b _ its2.toArray n n2 dd dd2 sl sl2 rfl) ⟨ho,ho2,⟨.ref b,H,I,rfl,q⟩⟩
theorem qni (hv:∀ i∈vs,M.Ms i=false) (hK:M.K=X.K) (ha:PE X a (tE M f vs)) (hb:PE X b (tE M g vs')):PE X (.BinOp a .Add b pos) (tE M (bBin zqg f g) (vs++vs')):=by
 refine zqv (qkt (qoj.or (qoi.or (qk2.or (qhp.or qc3)))) ha hb) λ σ H Q h=>zkq hv (λ x d y e z c v w H fps f1 f2 Q ho o1 o2 dj nz zd lf=>?_) h
 cases x with
 | int i=>
  cases y with
  | int j=>
   cases ho
   rw [Own] at o1 o2
   exact .inl ⟨i,j,o1.1,o2.1,zxf lf⟩
  | _=>cases ho
 | lst xs=>
  cases y with
  | lst ys=>
   dsimp only [zqg] at ho
   split at ho
   ·rename_i hl
    cases ho
    obtain ⟨p,ws,rfl,hp,ol⟩:=(cold o1 λ a ha=>nz a (jb0 _ ha)).coldL
    obtain ⟨p2,us,rfl,hp2,ol2⟩:=(cold o2 λ a ha=>nz a (ja5 _ ha)).coldL
    exact .inr (.inl ⟨p,p2,ws,us,rfl,rfl,hp,hp2,by rw [ol.length,ol2.length];exact hl,λ q hq=>zvc lf (ol.app ol2) hq⟩)
   ·cases ho
  | _=>cases ho
 | tup xs=>
  cases y with
  | tup ys=>
   dsimp only [zqg] at ho
   split at ho
   ·rename_i hl
    cases ho
    obtain ⟨p,ws,rfl,hp,ol⟩:=(cold o1 λ a ha=>nz a (jb0 _ ha)).coldT
    obtain ⟨p2,us,rfl,hp2,ol2⟩:=(cold o2 λ a ha=>nz a (ja5 _ ha)).coldT
    by_cases hw:ws=[]
    ·subst hw
     refine .inr (.inr (.inr (.inl ⟨p,p2,us,rfl,rfl,.inl (.inl hp),.inl (.inl hp2),?_⟩)))
     have ex:xs=[]:=by
      have:=ol.length
      cases xs with
      | nil=>rfl
      | cons _ _=>simp at this
     subst ex
     exact zka (x:=.tup ys) lf (by rw [Own];exact ⟨p2,us,rfl,hp2,ol2⟩)
    ·refine .inr (.inr (.inl ⟨p,p2,ws,us,rfl,rfl,.inl (.inl hp),.inl (.inl hp2),hw,by rw [ol.length,ol2.length];exact hl,λ hu=>?_,λ hu q hq=>zbc lf (ol.app ol2) hq⟩))
     subst hu
     have ey:ys=[]:=by
      have:=ol2.length
      cases ys with
      | nil=>rfl
      | cons _ _=>simp at this
     subst ey
     rw [jh4] at lf
     exact zka (x:=.tup xs) lf (by rw [Own];exact ⟨p,ws,rfl,hp,ol⟩)
   ·cases ho
  | _=>cases ho
 | str i=>
  cases y with
  | str j=>
   dsimp only [zqg] at ho
   split at ho
   ·rename_i hl
    cases ho
    rw [Own] at o1 o2
    exact .inr (.inr (.inr (.inr ⟨i,j,o1.1,o2.1,hl,zbd lf⟩)))
   ·cases ho
  | _=>cases ho
 | _=>cases ho
theorem qbi {op:Operator}{p:Int->Int->Bool}{k:Int->Int->Int}{C:Int->Int->Prop} (hop:OpR X (vd3 op) (rI C λ i j=>.int (k i j))) (hC:∀ i j,p i j=true->C i j) (hv:∀ i∈vs,M.Ms i=false) (ha:PE X a (tE M f vs)) (hb:PE X b (tE M g vs')):
  PE X (.BinOp a op b pos) (tE M (bBin (qc5 p k) f g) (vs++vs')):=by
 refine zqv (qkt hop ha hb) λ σ H Q h=>zkq hv (λ x d y e z c v w H fps f1 f2 Q ho o1 o2 dj nz zd lf=>?_) h
 cases x with
 | int i=>
  cases y with
  | int j=>
   dsimp only [qc5] at ho
   split at ho
   ·rename_i hp
    cases ho
    rw [Own] at o1 o2
    exact ⟨i,j,o1.1,o2.1,hC i j hp,zxf lf⟩
   ·cases ho
  | _=>cases ho
 | _=>cases ho
theorem OwnL.rep {K:Frag}{H:Hp}{Z:Addr->Prop}{xs:List PV}{ws:List V} (h:OwnL K H Z xs 0 ws []):∀ n,OwnL K H Z (repL n xs) 0 (ja7 n ws).flatten []
 | 0=>by
  unfold repL
  rw [jn3,jn3,jo6,jo6,OwnL];exact ⟨rfl,rfl⟩
 | n + 1=>by
  have:=h.rep n
  unfold repL at this ⊢
  rw [je0,je0,jf3,jf3]
  exact h.app this
theorem qk0:OpR X (vd3 .Sub) (rI (λ _ _=>True) λ i j=>.int (i - j)):=opI λ _ _ _ _ _ _ _ _ q=>sub_int q
theorem cMul {i j:Int} (h:pMul i j=true):CMul i j:=by
 unfold pMul at h
 simp only [jf2,ja4,decide_eq_true_eq] at h
 exact h
theorem zbq (a:Array Nat):∀ (n:Nat) (b:Array Nat),(ja7 n a).foldl (·++·) b=⟨b.toList++(ja7 n a.toList).flatten⟩
 | 0,b=>by simp
 | n + 1,b=>by
  rw [je0,jp2,zbq a n,je0,jf3]
  simp
theorem qc2:OpR X (vd3 .Mult) (λ x y H Q=>∃ z n,x=.str z/\y=.int n/\-(2 ^ 62)<=n/\n < 2 ^ 62/\z.length * n.toNat<=va2/\Q (.str (sRep z n.toNat)) H):=by
 intro pins s σ H x y v u Q I rx ry h
 obtain ⟨z,n,rfl,rfl,h1,h2,h3,q⟩:=h
 obtain ⟨t1,rfl⟩:=rx
 obtain ⟨t2,rfl⟩:=ry
 have hz:Builtin.Str.tooLong (z.length * n.toNat)=false:=by
  unfold Builtin.Str.tooLong
  have h40:va2<=2 ^ 40:=by decide
  exact decide_eq_false (by omega)
 refine PySem.P.mul_str (by rw [decide_eq_false (by omega),decide_eq_false (by omega)];rfl) (λ _ _ hc=>?_) (λ _ _=>hz) ?_
 ·have hn:(1:Int)<=n:=by omega
  have hl:z.length * n.toNat<=2 ^ 62:=jd4 h3 (by decide)
  have h4:(z.length:Int) * n<=2 ^ 62:=by
   have:((z.length * n.toNat:Nat):Int)<=((2 ^ 62:Nat):Int):=Int.ofNat_le.mpr hl
   rw [jm7,show ((n.toNat:Nat):Int)=n by omega] at this
   exact this
  have h5:(2 ^ 63 - 1) / n < (z.length:Int):=hc
  have h6:=Int.lt_mul_of_ediv_lt (by omega:(0:Int) < n) h5
  omega
 ·by_cases c1:n < 1
  ·rw [if_pos c1]
   refine ⟨by decide,.str (sRep z n.toNat),H,I.tok _,⟨s.toks,?_⟩,q⟩
   rw [show n.toNat=0 by omega]
   rfl
  ·rw [if_neg c1]
   split
   ·rename_i c2
    refine ⟨.str (sRep z n.toNat),H,I,⟨t1,?_⟩,q⟩
    have e:sRep z n.toNat=z:=by
     unfold sRep
     rcases jf2 _ _ ▸ c2 with c | c
     ·have:n=1:=by simpa using c
      subst this
      show (⟨([z.cps.toList].flatten).toArray⟩:Str)=z
      simp
     ·have e0:z.cps.toList=[]:=by
       have:z.cps.size=0:=eq_of_beq c
       exact jm1.mpr (Array.eq_empty_of_size_eq_zero this)
      rw [e0]
      have:(ja7 n.toNat ([]:List Nat)).flatten=[]:=by simp
      rw [this]
      cases z with
      | mk a=>simp at e0;subst e0;rfl
    rw [e]
   ·refine ⟨?_,.str (sRep z n.toNat),H,I.tok _,⟨s.toks,?_⟩,q⟩
    ·rw [zbq]
     show (#[].toList++(ja7 n.toNat z.cps.toList).flatten).length<=va2
     simp only [jg7,jb1,List.length_flatten,List.map_replicate,List.sum_replicate_nat]
     have h4:n.toNat * z.cps.size<=va2:=by rw [jq5];exact h3
     simpa using h4
    ·unfold sRep
     rw [zbq]
     simp
theorem qna (hv:∀ i∈vs,M.Ms i=false) (ha:PE X a (tE M f vs)) (hb:PE X b (tE M g vs')):PE X (.BinOp a .Mult b pos) (tE M (bBin zxc f g) (vs++vs')):=by
 refine zqv (qkt (qob.or (qn8.or qc2)) ha hb) λ σ H Q h=>zkq hv (λ x d y e z c v w H fps f1 f2 Q ho o1 o2 dj nz zd lf=>?_) h
 cases x with
 | int i=>
  cases y with
  | int j=>
   dsimp only [zxc] at ho
   split at ho
   ·rename_i hp
    cases ho
    rw [Own] at o1 o2
    exact .inl ⟨i,j,o1.1,o2.1,cMul hp,zxf lf⟩
   ·cases ho
  | _=>cases ho
 | lst xs=>
  cases y with
  | int k=>
   dsimp only [zxc] at ho
   split at ho
   ·rename_i hl
    cases ho
    obtain ⟨p,ws,rfl,hp,ol⟩:=(cold o1 λ a ha=>nz a (jb0 _ ha)).coldL
    rw [Own] at o2
    exact .inr (.inl ⟨p,k,ws,rfl,o2.1,hp,by omega,by omega,by rw [ol.length];exact hl.2.2,λ q hq=>zvc lf (ol.rep k.toNat) hq⟩)
   ·cases ho
  | _=>cases ho
 | str z=>
  cases y with
  | int k=>
   dsimp only [zxc] at ho
   split at ho
   ·rename_i hl
    cases ho
    rw [Own] at o1
    rw [Own] at o2
    exact .inr (.inr ⟨z,k,o1.1,o2.1,hl.1,hl.2.1,hl.2.2,zbd lf⟩)
   ·cases ho
  | _=>cases ho
 | _=>cases ho
theorem cDiv {i j:Int} (h:pDiv i j=true):0 < j/\j < 2 ^ 128:=by
 unfold pDiv at h
 simp only [ja4,decide_eq_true_eq] at h
 exact h
theorem cMod {i j:Int} (h:pMod i j=true):0 < j:=by
 unfold pMod at h
 simpa using h
theorem cPow {i j:Int} (h:pPow i j=true):CPow i j:=by
 unfold pPow at h
 simp only [ja4,decide_eq_true_eq] at h
 exact ⟨h.1.1,by omega,h.2⟩
def zxq:PV->Nat->Option (PV×Nat)
 | .int i,_=>some (.int (-i),om)
 | _,_=>none
theorem qm9 (ha:PE X a (tE M f vs)):PE X (.UnaryOp .USub a pos) (tE M (bUn zxq f) vs):=by
 refine zqv (qn2 qis ha) λ σ H Q h=>qdz (λ x d z c v H fps f1 Q ho o1 nz zd lf=>?_) h
 cases x with
 | int i=>cases ho;rw [Own] at o1;exact ⟨i,o1.1,zxf lf⟩
 | _=>cases ho
def zxh (p:Int->Int->Bool):PV->Nat->PV->Nat->Option (PV×Nat)
 | .int i,_,.int j,_=>some (.bl (p i j),om)
 | _,_,_,_=>none
theorem zbe {p:Int->Int->Bool}{x y z:PV}{d e c:Nat}{v w:V}{fps:Fps}{f1 f2 F:List Addr}{Z Z':Addr->Prop} (ho:zxh p x d y e=some (z,c)) (o1:Own M.K H Z x d v f1) (o2:Own M.K H Z' y e w f2) (lf:Leaf M H fps vs F z c Q):rI0 (λ i j=>.bl (p i j)) v w H Q:=by
 cases x with
 | int i=>
  cases y with
  | int j=>
   cases ho
   rw [Own] at o1 o2
   exact ⟨i,j,o1.1,o2.1,zzl lf⟩
  | _=>cases ho
 | _=>cases ho
def toDL (f:PV->Option vh1):List PV->Option (List vh1)
 | []=>some []
 | x::xs=>match f x,toDL f xs with
  | some a,some r=>some (a::r)
  | _,_=>none
def toD:Nat->PV->Option vh1
 | 0,_=>none
 | n + 1,x=>match x with
  | .non=>some .none
  | .bl b=>some (.bool b)
  | .int i=>some (.int i)
  | .str z=>if PyData.strOk z=true then some (.str z) else none
  | .lst xs=>(toDL (toD n) xs).map .list
  | .tup xs=>(toDL (toD n) xs).map .tuple
  | _=>none
def zyj (f:PV->PV->Bool):List PV->List PV->Bool
 | [],[]=>true
 | x::xs,y::ys=>f x y && zyj f xs ys
 | _,_=>false
def zbp:Nat->PV->PV->Bool
 | 0,_,_=>false
 | n + 1,x,y=>match x,y with
  | .non,.non=>true
  | .bl a,.bl b=>a == b
  | .int a,.int b=>a == b
  | .str a,.str b=>a == b
  | .emp,.emp=>true
  | .lst xs,.lst ys=>zyj (zbp n) xs ys
  | .tup xs,.tup ys=>zyj (zbp n) xs ys
  | _,_=>false
def opEq (neg:Bool) (x:PV) (_:Nat) (y:PV) (_:Nat):Option (PV×Nat):=match toD 20 x,toD 20 y with
 | some a,some b=>some (.bl (neg^^vd7 a b),om)
 | _,_=>match x,y with
  | .lst xs,.lst ys=>if zyj (zbp 20) xs ys=true then some (.bl (neg^^true),om) else if xs.length≠ys.length then some (.bl (neg^^false),om) else none
  | .str a,.str b=>some (.bl (neg^^(a == b)),om)
  | .emp,.emp=>some (.bl (neg^^true),om)
  | .tup xs,.tup ys=>if zyj (zbp 20) xs ys=true then some (.bl (neg^^true),om) else none
  | _,_=>none
theorem zmt {f:PV->Option vh1}{n:Nat} (hf:∀ x D,f x=some D->D.canLay0=true/\D.depth<=n):∀ {xs:List PV}{Ds:List vh1},toDL f xs=some Ds->vh9 Ds=true/\vj2 Ds<=n
 | [],Ds,h=>by cases h;rw [vh9,vj2];exact ⟨rfl,jh5 _⟩
 | x::xs,Ds,h=>by
  unfold toDL at h
  split at h
  ·rename_i a r h1 h2
   cases h
   have h3:=hf x a h1
   have h4:=zmt hf h2
   rw [vh9,vj2,h3.1,h4.1]
   exact ⟨rfl,Nat.max_le.mpr ⟨h3.2,h4.2⟩⟩
  ·cases h
theorem zkt:∀ (n:Nat) (x:PV) (D:vh1),toD n x=some D->D.canLay0=true/\D.depth<=n
 | 0,_,_,h=>by cases h
 | n + 1,x,D,h=>by
  unfold toD at h
  cases x with
  | non=>cases h;rw [ve4,vd8] <;> first | exact ⟨rfl,jh5 _⟩ | (intros;contradiction)
  | bl b=>cases h;rw [ve4,vd8] <;> first | exact ⟨rfl,jh5 _⟩ | (intros;contradiction)
  | int i=>cases h;rw [ve4,vd8] <;> first | exact ⟨rfl,jh5 _⟩ | (intros;contradiction)
  | str z=>
   dsimp only at h
   split at h
   ·rename_i hz
    cases h;rw [ve4,vd8] <;> first | exact ⟨hz,jh5 _⟩ | (intros;contradiction)
   ·cases h
  | lst xs=>
   obtain ⟨Ds,e,rfl⟩:=jb9.mp h
   have:=zmt (zkt n) e
   rw [ve4,vd8]
   exact ⟨this.1,jo7 this.2⟩
  | tup xs=>
   obtain ⟨Ds,e,rfl⟩:=jb9.mp h
   have:=zmt (zkt n) e
   rw [ve4,vd8]
   exact ⟨this.1,jo7 this.2⟩
  | emp=>cases h
  | dko=>cases h
  | scr ns=>cases h
  | dct _=>cases h
  | exn _=>cases h
theorem zkl {pins:List (Addr×Obj)}{s:va1}{Z:Addr->Prop} (I:L2.Inv X pins σ H s):∀ (n:Nat) (x:PV) (d:Nat) (v:V) (fp:List Addr) (u:va0) (D:vh1),toD n x=some D->Own X.K H Z x d v fp->RelV v u->∃ as,Reads s.heap u D as
 | 0,_,_,_,_,_,_,h,_,_=>by cases h
 | n + 1,x,d,v,fp,u,D,h,o,r=>by
  have all:∀ (xs:List PV) (d:Nat) (ws:List V) (fp:List Addr) (us:List va0) (Ds:List vh1),toDL (toD n) xs=some Ds->OwnL X.K H Z xs d ws fp->Vals ws us->∃ as,ReadsAll s.heap us Ds as:=λ xs=>by
   induction xs with
   | nil=>
    intro d ws fp us Ds h o r
    cases h
    rw [OwnL] at o
    obtain ⟨rfl,_⟩:=o
    cases r
    exact ⟨_,.nil⟩
   | cons y ys ih=>
    intro d ws fp us Ds h o r
    unfold toDL at h
    split at h
    ·rename_i a rr h1 h2
     cases h
     rw [OwnL] at o
     obtain ⟨v,s,f1,f2,rfl,_,_,o1,o2⟩:=o
     cases r with
     | cons r1 r2=>
      obtain ⟨as,ra⟩:=zkl I n y d v f1 _ a h1 o1 r1
      obtain ⟨bs,rb⟩:=ih d s f2 _ rr h2 o2 r2
      exact ⟨_,.cons ra rb⟩
    ·cases h
  unfold toD at h
  cases x with
  | non=>cases h;rw [Own] at o;obtain ⟨rfl,_⟩:=o;cases r;exact ⟨_,.none⟩
  | bl b=>cases h;rw [Own] at o;obtain ⟨rfl,_⟩:=o;cases r;exact ⟨_,.bool b⟩
  | int i=>cases h;rw [Own] at o;obtain ⟨rfl,_⟩:=o;obtain ⟨t,rfl⟩:=r;exact ⟨_,.int i t⟩
  | str z=>
   dsimp only at h
   split at h
   ·cases h;rw [Own] at o;obtain ⟨rfl,_⟩:=o;obtain ⟨t,rfl⟩:=r;exact ⟨_,.str z t⟩
   ·cases h
  | lst xs=>
   obtain ⟨Ds,e,rfl⟩:=jb9.mp h
   have hh:∃ a ws d' f,v=.ref a/\H a=some (.lst ws)/\OwnL X.K H Z xs d' ws f:=by
    rw [Own] at o
    obtain ⟨a,ws,ev,⟨_,hr,_,ol⟩ | ⟨_,f,ha,_,_,ol⟩⟩:=o
    ·exact ⟨a,ws,_,_,ev,hr.1,ol⟩
    ·exact ⟨a,ws,_,_,ev,ha,ol⟩
   obtain ⟨a,ws,d',f,rfl,ha,ol⟩:=hh
   cases r
   obtain ⟨its,rv,⟨ob,nn,e1,e2,e3,e4⟩,_⟩:=I.list (.inl (.inl ha))
   obtain ⟨as,ra⟩:=all xs d' ws f its Ds e ol rv
   exact ⟨_,.list e1 e2 e4 ra⟩
  | tup xs=>
   obtain ⟨Ds,e,rfl⟩:=jb9.mp h
   rw [Own] at o
   obtain ⟨a,ws,rfl,ha,ol⟩:=o
   cases r
   obtain ⟨its,rv,⟨ob,e1,e2,nn,e4⟩,_⟩:=I.tuple (.inl (.inl ha))
   obtain ⟨as,ra⟩:=all xs _ ws fp its Ds e ol rv
   exact ⟨_,.tuple e1 e2 e4 ra⟩
  | emp=>cases h
  | dko=>cases h
  | scr ns=>cases h
  | dct _=>cases h
  | exn _=>cases h
theorem zml {K':Type} [DecidableEq K'] {prog:va8}{w:vb6}{knd:KeyKind prog w K'}{P:va8}{w0:vb6}{h:Heap}{a:Addr} (x:h.DictOf (zvz P w0) a []):h.DictOf knd a []:=by
 obtain ⟨o,es,ep,h1,h2,h3,h4,h5,h6⟩:=x
 generalize hes:es.toList=l at h5
 cases h5
 have e:es=#[]:=jm1.mp hes
 subst e
 exact ⟨o,#[],ep,h1,h2,h3,by intro z hz;simp at hz,.nil,.nil⟩
theorem qpa {pins:List (Addr×Obj)}{s:va1} (I:L2.Inv X pins σ H s) {a b:Addr}{A:vb8} (ha:H a=some (.dK [])) (hb:H b=some (.dK [])) (hu:A.units < vg9):SeqAt.EqAt A s (.ref a) (.ref b) true:=by
 by_cases e:a=b
 ·subst e;exact ve9 _
 ·refine vh0 e λ prog w E Q hq=>?_
  obtain ⟨_,z1,vs,k1,d1⟩:=qfv I.hok ha
  obtain ⟨_,z2,ws,k2,d2⟩:=qfv I.hok hb
  cases k1
  cases k2
  exact PySem.W.keq_eq (knd:=zvz prog w) (r:=true) z1 z2 (zml d1) (zml d2) hu (λ _=>.nil) (by simpa using hq)
theorem zvi {Z:Addr->Prop}{xs:List PV}{d:Nat}{v:V}{fp:List Addr}{K:Frag} (o:Own K H Z (.lst xs) d v fp):∃ a ws d' f,v=.ref a/\H a=some (.lst ws)/\OwnL K H Z xs d' ws f:=by
 rw [Own] at o
 obtain ⟨a,ws,ev,⟨_,hr,_,ol⟩ | ⟨_,f,ha,_,_,ol⟩⟩:=o
 ·exact ⟨a,ws,_,_,ev,hr.1,ol⟩
 ·exact ⟨a,ws,_,_,ev,ha,ol⟩
theorem zyt {n:Nat}{e:Nat->Bool} (h:∀ j,j < n->e j=true):(jc3 n).all e=true:=jc4.mpr λ j hj=>h j (jd3.mp hj)
theorem qed {pins:List (Addr×Obj)}{s:va1}{Z Z':Addr->Prop} (I:L2.Inv X pins σ H s):∀ (n:Nat) (x y:PV) (d e:Nat) (v w:V) (f1 f2:List Addr) (u u':va0) (A:vb8),A.units + n < vg9->zbp n x y=true->Own X.K H Z x d v f1->Own X.K H Z' y e w f2->RelV v u->RelV w u'->SeqAt.EqAt A s u u' true
 | 0,_,_,_,_,_,_,_,_,_,_,_,_,h,_,_,_,_=>by cases h
 | n + 1,x,y,d,e,v,w,f1,f2,u,u',A,hu,h,o1,o2,r1,r2=>by
  have all:∀ (xs ys:List PV) (d e:Nat) (vs ws:List V) (f1 f2:List Addr) (us us':List va0),zyj (zbp n) xs ys=true->OwnL X.K H Z xs d vs f1->OwnL X.K H Z' ys e ws f2->Vals vs us->Vals ws us'->us.length=us'.length/\∀ j (h1:j < us.length) (h2:j < us'.length),SeqAt.EqAt A.in1 s us[j] us'[j] true:=λ xs=>by
   induction xs with
   | nil=>
    intro ys d e vs ws f1 f2 us us' h o1 o2 r1 r2
    cases ys with
    | cons _ _=>cases h
    | nil=>
     rw [OwnL] at o1 o2
     obtain ⟨rfl,_⟩:=o1
     obtain ⟨rfl,_⟩:=o2
     cases r1
     cases r2
     exact ⟨rfl,λ j h1 _=>nomatch h1⟩
   | cons x xs ih=>
    intro ys d e vs ws f1 f2 us us' h o1 o2 r1 r2
    cases ys with
    | nil=>cases h
    | cons y ys=>
     unfold zyj at h
     rw [ja4] at h
     rw [OwnL] at o1 o2
     obtain ⟨_,_,g1,g2,rfl,_,_,p1,p2⟩:=o1
     obtain ⟨_,_,k1,k2,rfl,_,_,q1,q2⟩:=o2
     cases r1 with
     | cons a1 a2=>
      cases r2 with
      | cons b1 b2=>
       have t:=ih ys d e _ _ g2 k2 _ _ h.2 p2 q2 a2 b2
       refine ⟨congrArg (·+ 1) t.1,λ j h1 h2=>?_⟩
       cases j with
       | zero=>exact qed I n x y d e _ _ g1 k1 _ _ A.in1 (by have e:A.in1.units=A.units + 1:=rfl;omega) h.1 p1 q1 a1 b1
       | succ j=>exact t.2 j (jh1 h1) (jh1 h2)
  cases x with
  | non=>cases y <;> first | (cases h;done) | (rw [Own] at o1 o2;obtain ⟨rfl,_⟩:=o1;obtain ⟨rfl,_⟩:=o2;cases r1;cases r2;exact ve9 _)
  | bl b=>cases y <;> first | (cases h;done) | (rw [Own] at o1 o2;obtain ⟨rfl,_⟩:=o1;obtain ⟨rfl,_⟩:=o2;cases r1;cases r2;have e:=eq_of_beq (show (b == _)=true from h);subst e;exact ve9 _)
  | int i=>cases y <;> first | (cases h;done) | (rw [Own] at o1 o2;obtain ⟨rfl,_⟩:=o1;obtain ⟨rfl,_⟩:=o2;obtain ⟨t,rfl⟩:=r1;obtain ⟨t',rfl⟩:=r2;have e:=eq_of_beq (show (i == _)=true from h);subst e;have z:=SeqAt.EqAt.int_int (A:=A) (s:=s) i t i t';rwa [beq_self_eq_true] at z)
  | str i=>cases y <;> first | (cases h;done) | (rw [Own] at o1 o2;obtain ⟨rfl,_⟩:=o1;obtain ⟨rfl,_⟩:=o2;obtain ⟨t,rfl⟩:=r1;obtain ⟨t',rfl⟩:=r2;have e:=eq_of_beq (show (i == _)=true from h);subst e;have z:=SeqAt.EqAt.str_str (A:=A) (s:=s) i t i t';rwa [beq_self_eq_true] at z)
  | emp=>cases y <;> first | (cases h;done) | (rw [Own] at o1 o2;obtain ⟨_,a,rfl,ha⟩:=o1;obtain ⟨_,b,rfl,hb⟩:=o2;cases r1;cases r2;exact qpa I ha hb (by omega))
  | dko=>cases h
  | lst xs=>
   cases y with
   | lst ys=>
    obtain ⟨a,ws,d',f,rfl,ha,ol⟩:=zvi o1
    obtain ⟨b,ws',e',f',rfl,hb,ol'⟩:=zvi o2
    cases r1
    cases r2
    obtain ⟨its,rv,p,_⟩:=I.list (.inl (.inl ha))
    obtain ⟨its',rv',p',_⟩:=I.list (.inl (.inl hb))
    have t:=all xs ys d' e' ws ws' f f' its its' h ol ol' rv rv'
    obtain ⟨ob,nn,e1,e2,e3,e4⟩:=p
    obtain ⟨ob',nn',e1',e2',e3',e4'⟩:=p'
    by_cases e:a=b
    ·subst e;exact ve9 _
    ·refine vh0 e ?_
     have z:=SeqAt.RcAt.lists (A:=A) (s:=s) (l:=a) (b:=b) (items:=its.toArray) (items2:=its'.toArray) (e:=λ _=>true) ⟨ob,e1,e2,nn,e4⟩ ⟨ob',e1',e2',nn',e4'⟩ (by simpa using t.1) (by omega) (λ j h1 h2=>by simpa using t.2 j (by simpa using h1) (by simpa using h2))
     rwa [zyt λ _ _=>rfl] at z
   | _=>cases h
  | tup xs=>
   cases y with
   | tup ys=>
    rw [Own] at o1 o2
    obtain ⟨a,ws,rfl,ha,ol⟩:=o1
    obtain ⟨b,ws',rfl,hb,ol'⟩:=o2
    cases r1
    cases r2
    obtain ⟨its,rv,⟨ob,e1,e2,nn,e4⟩,_⟩:=I.tuple (.inl (.inl ha))
    obtain ⟨its',rv',⟨ob',e1',e2',nn',e4'⟩,_⟩:=I.tuple (.inl (.inl hb))
    have t:=all xs ys _ _ ws ws' _ _ its its' h ol ol' rv rv'
    by_cases e:a=b
    ·subst e;exact ve9 _
    ·refine vh0 e ?_
     have z:=SeqAt.RcAt.tuples (A:=A) (s:=s) (l:=a) (b:=b) (items:=its.toArray) (items2:=its'.toArray) (e:=λ _=>true) ⟨ob,e1,e2,nn,e4⟩ ⟨ob',e1',e2',nn',e4'⟩ (by omega) (λ j h1 h2=>by simpa using t.2 j (by simpa using h1) (by simpa using h2))
     have z2:((its.toArray.size == its'.toArray.size):Bool)=true:=by simpa using t.1
     rwa [zyt λ _ _=>rfl,z2] at z
   | _=>cases h
  | scr ns=>cases y <;> cases h
  | dct _=>cases y <;> cases h
  | exn _=>cases y <;> cases h
theorem qbk {pins:List (Addr×Obj)}{s:va1}{Z Z':Addr->Prop} (I:L2.Inv X pins σ H s) {A:vb8} (hu:A.units + 64 < vg9):∀ (xs ys:List PV) (d e:Nat) (vs ws:List V) (f1 f2:List Addr) (us us':List va0),zyj (zbp 20) xs ys=true->OwnL X.K H Z xs d vs f1->OwnL X.K H Z' ys e ws f2->Vals vs us->Vals ws us'->us.length=us'.length/\∀ j (h1:j < us.length) (h2:j < us'.length),SeqAt.EqAt A.in1 s us[j] us'[j] true:=λ xs=>by
 induction xs with
 | nil=>
  intro ys d e vs ws f1 f2 us us' h o1 o2 r1 r2
  cases ys with
  | cons _ _=>cases h
  | nil=>
   rw [OwnL] at o1 o2
   obtain ⟨rfl,_⟩:=o1
   obtain ⟨rfl,_⟩:=o2
   cases r1
   cases r2
   exact ⟨rfl,λ j h1 _=>nomatch h1⟩
 | cons x xs ih=>
  intro ys d e vs ws f1 f2 us us' h o1 o2 r1 r2
  cases ys with
  | nil=>cases h
  | cons y ys=>
   unfold zyj at h
   rw [ja4] at h
   rw [OwnL] at o1 o2
   obtain ⟨_,_,g1,g2,rfl,_,_,p1,p2⟩:=o1
   obtain ⟨_,_,k1,k2,rfl,_,_,q1,q2⟩:=o2
   cases r1 with
   | cons a1 a2=>
    cases r2 with
    | cons b1 b2=>
     have t:=ih ys d e _ _ g2 k2 _ _ h.2 p2 q2 a2 b2
     refine ⟨congrArg (·+ 1) t.1,λ j h1 h2=>?_⟩
     cases j with
     | zero=>exact qed I 20 x y d e _ _ g1 k1 _ _ A.in1 (by have e:A.in1.units=A.units + 1:=rfl;omega) h.1 p1 q1 a1 b1
     | succ j=>exact t.2 j (jh1 h1) (jh1 h2)
theorem qbj {pins:List (Addr×Obj)}{s:va1}{Z Z':Addr->Prop} (I:L2.Inv X pins σ H s) {xs ys:List PV}{d e:Nat}{v w:V}{f1 f2:List Addr}{u u':va0}{A:vb8} (hu:A.units + 64 < vg9) (h:zyj (zbp 20) xs ys=true) (o1:Own X.K H Z (.lst xs) d v f1) (o2:Own X.K H Z' (.lst ys) e w f2) (r1:RelV v u) (r2:RelV w u'):SeqAt.RcAt A s u u' true/\vi2 A s u u' false:=by
 obtain ⟨a,ws,d',f,rfl,ha,ol⟩:=zvi o1
 obtain ⟨b,ws',e',f',rfl,hb,ol'⟩:=zvi o2
 cases r1
 cases r2
 obtain ⟨its,rv,⟨ob,nn,e1,e2,e3,e4⟩,_⟩:=I.list (.inl (.inl ha))
 obtain ⟨its',rv',⟨ob',nn',e1',e2',e3',e4'⟩,_⟩:=I.list (.inl (.inl hb))
 have t:=qbk I hu xs ys d' e' ws ws' f f' its its' h ol ol' rv rv'
 have z:=SeqAt.RcAt.lists (A:=A) (s:=s) (l:=a) (b:=b) (items:=its.toArray) (items2:=its'.toArray) (e:=λ _=>true) ⟨ob,e1,e2,nn,e4⟩ ⟨ob',e1',e2',nn',e4'⟩ (by simpa using t.1) (by omega) (λ j h1 h2=>by simpa using t.2 j (by simpa using h1) (by simpa using h2))
 have z':=SeqAt.RcNeAt.lists (A:=A) (s:=s) (l:=a) (b:=b) (items:=its.toArray) (items2:=its'.toArray) (e:=λ _=>true) ⟨ob,e1,e2,nn,e4⟩ ⟨ob',e1',e2',nn',e4'⟩ (by simpa using t.1) (by omega) (λ j h1 h2=>by simpa using t.2 j (by simpa using h1) (by simpa using h2))
 rw [zyt λ _ _=>rfl] at z z'
 exact ⟨z,z'⟩
theorem zgl {pins:List (Addr×Obj)}{s:va1}{Z Z':Addr->Prop} (I:L2.Inv X pins σ H s) {xs ys:List PV}{d e:Nat}{v w:V}{f1 f2:List Addr}{u u':va0}{A:vb8} (hu:A.units + 64 < vg9) (h:zyj (zbp 20) xs ys=true) (o1:Own X.K H Z (.tup xs) d v f1) (o2:Own X.K H Z' (.tup ys) e w f2) (r1:RelV v u) (r2:RelV w u'):SeqAt.RcAt A s u u' true/\vi2 A s u u' false:=by
 rw [Own] at o1
 rw [Own] at o2
 obtain ⟨a,ws,rfl,ha,ol⟩:=o1
 obtain ⟨b,ws',rfl,hb,ol'⟩:=o2
 cases r1
 cases r2
 obtain ⟨its,rv,⟨ob,e1,e2,nn,e4⟩,_⟩:=I.tuple (.inl (.inl ha))
 obtain ⟨its',rv',⟨ob',e1',e2',nn',e4'⟩,_⟩:=I.tuple (.inl (.inl hb))
 have t:=qbk I hu xs ys _ _ ws ws' _ _ its its' h ol ol' rv rv'
 have z:=SeqAt.RcAt.tuples (A:=A) (s:=s) (l:=a) (b:=b) (items:=its.toArray) (items2:=its'.toArray) (e:=λ _=>true) ⟨ob,e1,e2,nn,e4⟩ ⟨ob',e1',e2',nn',e4'⟩ (by omega) (λ j h1 h2=>by simpa using t.2 j (by simpa using h1) (by simpa using h2))
 have z':=SeqAt.RcNeAt.tuples (A:=A) (s:=s) (l:=a) (b:=b) (items:=its.toArray) (items2:=its'.toArray) (e:=λ _=>true) ⟨ob,e1,e2,nn,e4⟩ ⟨ob',e1',e2',nn',e4'⟩ (by omega) (λ j h1 h2=>by simpa using t.2 j (by simpa using h1) (by simpa using h2))
 have z2:((its.toArray.size == its'.toArray.size):Bool)=true:=by simpa using t.1
 rw [zyt λ _ _=>rfl,z2] at z z'
 exact ⟨z,z'⟩
theorem qfa {pins:List (Addr×Obj)}{s:va1}{Z Z':Addr->Prop} (I:L2.Inv X pins σ H s) {xs ys:List PV}{d e:Nat}{v w:V}{f1 f2:List Addr}{u u':va0}{A:vb8} (hu:A.units + 64 < vg9) (h:xs.length≠ys.length) (o1:Own X.K H Z (.lst xs) d v f1) (o2:Own X.K H Z' (.lst ys) e w f2) (r1:RelV v u) (r2:RelV w u'):SeqAt.RcAt A s u u' false/\vi2 A s u u' true:=by
 obtain ⟨a,ws,d',f,rfl,ha,ol⟩:=zvi o1
 obtain ⟨b,ws',e',f',rfl,hb,ol'⟩:=zvi o2
 cases r1
 cases r2
 obtain ⟨its,rv,⟨ob,nn,e1,e2,e3,e4⟩,_⟩:=I.list (.inl (.inl ha))
 obtain ⟨its',rv',⟨ob',nn',e1',e2',e3',e4'⟩,_⟩:=I.list (.inl (.inl hb))
 have hl:(its.toArray.size != its'.toArray.size)=true:=by
  have h1:=rv.length
  have h2:=rv'.length
  rw [ol.length] at h1
  rw [ol'.length] at h2
  simp only [jc1,bne_iff_ne]
  omega
 exact ⟨SeqAt.RcAt.lists_lengths ⟨ob,e1,e2,nn,e4⟩ ⟨ob',e1',e2',nn',e4'⟩ hl (by omega),SeqAt.RcNeAt.lists_lengths ⟨ob,e1,e2,nn,e4⟩ ⟨ob',e1',e2',nn',e4'⟩ hl (by omega)⟩
theorem qfu {pins:List (Addr×Obj)}{s:va1}{Z Z':Addr->Prop} (I:L2.Inv X pins σ H s) {d e:Nat}{v w:V}{f1 f2:List Addr}{u u':va0}{A:vb8} (hu:A.units < vg9) (o1:Own X.K H Z .emp d v f1) (o2:Own X.K H Z' .emp e w f2) (r1:RelV v u) (r2:RelV w u'):SeqAt.RcAt A s u u' true/\vi2 A s u u' false:=by
 rw [Own] at o1
 rw [Own] at o2
 obtain ⟨_,a,rfl,ha⟩:=o1
 obtain ⟨_,b,rfl,hb⟩:=o2
 cases r1
 cases r2
 obtain ⟨_,z1,vs,k1,d1⟩:=qfv I.hok ha
 obtain ⟨_,z2,ws,k2,d2⟩:=qfv I.hok hb
 cases k1
 cases k2
 exact ⟨λ prog w E Q hq=>PySem.W.keq_eq (knd:=zvz prog w) (r:=true) z1 z2 (zml d1) (zml d2) hu (λ _=>.nil) (by simpa using hq),λ prog w E Q hq=>PySem.W.keq_ne (knd:=zvz prog w) (r:=true) z1 z2 (zml d1) (zml d2) hu (λ _=>.nil) (by simpa using hq)⟩
def rEqD (K:Frag) (neg:Bool):R2:=λ v w H Q=>∃ x y d e Z Z' f1 f2,Own K H Z x d v f1/\Own K H Z' y e w f2/\((∃ a b,toD 20 x=some a/\toD 20 y=some b/\Q (.bl (neg^^vd7 a b)) H)\/(∃ xs ys,x=.lst xs/\y=.lst ys/\zyj (zbp 20) xs ys=true/\Q (.bl (neg^^true)) H)\/(∃ xs ys,x=.lst xs/\y=.lst ys/\xs.length≠ys.length/\Q (.bl (neg^^false)) H)\/(∃ a b,x=.str a/\y=.str b/\Q (.bl (neg^^(a == b))) H)\/(x=.emp/\y=.emp/\Q (.bl (neg^^true)) H)\/∃ xs ys,x=.tup xs/\y=.tup ys/\zyj (zbp 20) xs ys=true/\Q (.bl (neg^^true)) H)
theorem qoh (hu:X.A.units + 64 < vg9):OpR X (vc2 .Eq) (rEqD X.K false):=by
 intro pins s σ H v w u u' Q I rx ry h
 obtain ⟨x,y,d,e,Z,Z',f1,f2,o1,o2,⟨a,b,h1,h2,q⟩ | ⟨xs,ys,rfl,rfl,h,q⟩ | ⟨xs,ys,rfl,rfl,h,q⟩ | ⟨a,b,rfl,rfl,q⟩ | ⟨rfl,rfl,q⟩ | ⟨xs,ys,rfl,rfl,h,q⟩⟩:=h
 ·obtain ⟨as,ra⟩:=zkl I 20 x d v f1 u a h1 o1 rx
  obtain ⟨bs,rb⟩:=zkl I 20 y e w f2 u' b h2 o2 ry
  have l1:=zkt 20 x a h1
  have l2:=zkt 20 y b h2
  exact SeqAt.compareEq_reads ra rb l1.1 l2.1 (by have:=jp4 a.depth b.depth;omega) ⟨.bl _,H,I,rfl,by simpa using q⟩
 ·exact (qbj I hu h o1 o2 rx ry).1 _ _ _ _ ⟨.bl _,H,I,rfl,q⟩
 ·exact (qfa I hu h o1 o2 rx ry).1 _ _ _ _ ⟨.bl _,H,I,rfl,q⟩
 ·rw [Own] at o1 o2
  obtain ⟨rfl,_⟩:=o1
  obtain ⟨rfl,_⟩:=o2
  obtain ⟨t,rfl⟩:=rx
  obtain ⟨t',rfl⟩:=ry
  exact SeqAt.RcAt.str_str a t b t' _ _ _ _ ⟨.bl _,H,I,rfl,by simpa using q⟩
 ·exact (qfu I (by omega) o1 o2 rx ry).1 _ _ _ _ ⟨.bl _,H,I,rfl,q⟩
 ·exact (zgl I hu h o1 o2 rx ry).1 _ _ _ _ ⟨.bl _,H,I,rfl,q⟩
theorem qoa (hu:X.A.units + 64 < vg9):OpR X (vc2 .NotEq) (rEqD X.K true):=by
 intro pins s σ H v w u u' Q I rx ry h
 obtain ⟨x,y,d,e,Z,Z',f1,f2,o1,o2,⟨a,b,h1,h2,q⟩ | ⟨xs,ys,rfl,rfl,h,q⟩ | ⟨xs,ys,rfl,rfl,h,q⟩ | ⟨a,b,rfl,rfl,q⟩ | ⟨rfl,rfl,q⟩ | ⟨xs,ys,rfl,rfl,h,q⟩⟩:=h
 ·obtain ⟨as,ra⟩:=zkl I 20 x d v f1 u a h1 o1 rx
  obtain ⟨bs,rb⟩:=zkl I 20 y e w f2 u' b h2 o2 ry
  have l1:=zkt 20 x a h1
  have l2:=zkt 20 y b h2
  exact SeqAt.compareNe_reads ra rb l1.1 l2.1 (by have:=jp4 a.depth b.depth;omega) ⟨.bl _,H,I,rfl,by simpa using q⟩
 ·exact (qbj I hu h o1 o2 rx ry).2 _ _ _ _ ⟨.bl _,H,I,rfl,q⟩
 ·exact (qfa I hu h o1 o2 rx ry).2 _ _ _ _ ⟨.bl _,H,I,rfl,q⟩
 ·rw [Own] at o1 o2
  obtain ⟨rfl,_⟩:=o1
  obtain ⟨rfl,_⟩:=o2
  obtain ⟨t,rfl⟩:=rx
  obtain ⟨t',rfl⟩:=ry
  exact SeqAt.RcNeAt.str_str a t b t' _ _ _ _ ⟨.bl _,H,I,rfl,by simpa using q⟩
 ·exact (qfu I (by omega) o1 o2 rx ry).2 _ _ _ _ ⟨.bl _,H,I,rfl,q⟩
 ·exact (zgl I hu h o1 o2 rx ry).2 _ _ _ _ ⟨.bl _,H,I,rfl,q⟩
theorem qb2 {neg:Bool}{x y z:PV}{d e c:Nat}{v w:V}{fps:Fps}{f1 f2 F:List Addr}{Z Z':Addr->Prop} (hK:M.K=X.K) (ho:opEq neg x d y e=some (z,c)) (o1:Own M.K H Z x d v f1) (o2:Own M.K H Z' y e w f2) (lf:Leaf M H fps vs F z c Q):rEqD X.K neg v w H Q:=by
 rw [hK] at o1 o2
 refine ⟨x,y,d,e,Z,Z',f1,f2,o1,o2,?_⟩
 unfold opEq at ho
 split at ho
 ·rename_i a b ea eb
  cases ho
  exact .inl ⟨a,b,ea,eb,zzl lf⟩
 ·split at ho
  ·rename_i xs ys _
   split at ho
   ·rename_i hc
    cases ho
    exact .inr (.inl ⟨xs,ys,rfl,rfl,hc,zzl lf⟩)
   ·split at ho
    ·rename_i hc
     cases ho
     exact .inr (.inr (.inl ⟨xs,ys,rfl,rfl,hc,zzl lf⟩))
    ·cases ho
  ·rename_i a b _
   cases ho
   exact .inr (.inr (.inr (.inl ⟨a,b,rfl,rfl,zzl lf⟩)))
  ·cases ho
   exact .inr (.inr (.inr (.inr (.inl ⟨rfl,rfl,zzl lf⟩))))
  ·rename_i xs ys _
   split at ho
   ·rename_i hc
    cases ho
    exact .inr (.inr (.inr (.inr (.inr ⟨xs,ys,rfl,rfl,hc,zzl lf⟩))))
   ·cases ho
  ·cases ho
def zqe:PV->Nat->PV->Nat->Option (PV×Nat)
 | .lst xs,_,.int i,_=>(atI xs i).map λ z=>(z,dv z)
 | .tup xs,_,.int i,_=>(atI xs i).map λ z=>(z,dv z)
 | .scr ns,_,.int i,_=>(atI ns i).map λ z=>(.int z,om)
 | .str z,_,.int i,_=>if z.length<=va2 then (atI z.cps.toList i).map λ c=>(.str ⟨#[c]⟩,om) else none
 | _,_,_,_=>none
theorem qgo {K:Frag}{Z:Addr->Prop}{xs:List PV}{ws:List V}{i:Int}{z:PV} (ol:OwnL K H Z xs 0 ws []) (e:atI xs i=some z):∃ w,atI ws i=some w/\Own K H Z z 0 w []:=by
 unfold atI at e ⊢
 rw [ol.length]
 cases ej:ixN xs.length i with
 | none=>rw [ej] at e;cases e
 | some j=>rw [ej] at e;exact ol.nth e
theorem qix (hv:∀ i∈vs,M.Ms i=false) (hK:M.K=X.K) (hs:qa8 b) (ha:PE X a (tE M f vs)) (hb:PE X b (tE M g vs')):PE X (.Subscript a b pos) (tE M (bBin zqe f g) (vs++vs')):=by
 refine zqv (qew qoz ha hb hs) λ σ H Q h=>zkq hv (λ x d y e z c v w H fps f1 f2 Q ho o1 o2 dj nz zd lf=>?_) h
 cases y with
 | int i=>
  rw [Own] at o2
  cases x with
  | lst xs=>
   dsimp only [zqe] at ho
   obtain ⟨z',ez,e2⟩:=jb9.mp ho
   cases e2
   obtain ⟨p,ws,rfl,hp,ol⟩:=(cold o1 λ a ha=>nz a (jb0 _ ha)).coldL
   obtain ⟨w',e1,ow⟩:=qgo ol ez
   exact .inl ⟨p,ws,i,w',rfl,o2.1,.inl (.inl hp),e1,zka lf ow⟩
  | tup xs=>
   dsimp only [zqe] at ho
   obtain ⟨z',ez,e2⟩:=jb9.mp ho
   cases e2
   obtain ⟨p,ws,rfl,hp,ol⟩:=(cold o1 λ a ha=>nz a (jb0 _ ha)).coldT
   obtain ⟨w',e1,ow⟩:=qgo ol ez
   exact .inr (.inl ⟨p,ws,i,w',rfl,o2.1,.inl (.inl hp),e1,zka lf ow⟩)
  | scr ns=>
   dsimp only [zqe] at ho
   obtain ⟨z',ez,e2⟩:=jb9.mp ho
   cases e2
   rw [Own] at o1
   obtain ⟨_,p,rfl,hp⟩:=o1
   refine .inl ⟨p,ns.map V.int,i,.int z',rfl,o2.1,?_,?_,zxf lf⟩
   ·rw [<- hK]
    exact hp.elim (λ h=>.inl (.inr h)) .inr
   ·unfold atI at ez ⊢
    rw [ja1]
    cases ej:ixN ns.length i with
    | none=>rw [ej] at ez;cases ez
    | some j=>
     rw [ej] at ez
     show (ns.map V.int)[j]?=_
     rw [jd1]
     have:ns[j]?=some z':=ez
     rw [this];rfl
  | str z=>
   dsimp only [zqe] at ho
   split at ho
   ·rename_i hl
    obtain ⟨c',ez,e2⟩:=jb9.mp ho
    cases e2
    rw [Own] at o1
    exact .inr (.inr ⟨z,i,c',o1.1,o2.1,hl,ez,zbd lf⟩)
   ·cases ho
  | _=>cases ho
 | _=>cases x <;> cases ho
def evO:Option Fx->Rho->Rz (Option Int×Rho)
 | none,ρ=>.ok (none,ρ)
 | some f,ρ=>(f ρ).bind λ (x,_,ρ1)=>match x with
  | .int i=>.ok (some i,ρ1)
  | _=>.no
def cutP (xs:List PV) (lo hi:Option Int):List PV:=(xs.drop (HT.sIx xs.length 0 lo)).take (HT.sIx xs.length xs.length hi - HT.sIx xs.length 0 lo)
def opSl (x:PV) (lo hi:Option Int):Option (PV×Nat):=match x with
 | .lst xs=>some (.lst (cutP xs lo hi),d1 (cutP xs lo hi))
 | .tup xs=>if HT.sIx xs.length 0 lo=0/\HT.sIx xs.length xs.length hi=xs.length then none else some (.tup (cutP xs lo hi),0)
 | _=>none
def bSl (f:Fx) (lo hi:Option Fx):Fx:=λ ρ=>(f ρ).bind λ (x,_,ρ1)=>(evO lo ρ1).bind λ (l,ρ2)=>(evO hi ρ2).bind λ (u,ρ3)=>match opSl x l u with
 | some (z,c)=>.ok (z,c,ρ3)
 | none=>.no
def tO (M:Fm):Option (Fx×List Nat)->TO
 | none=>qdy
 | some (f,vs)=>qmx (tE M f vs)
theorem qdx {o:Option (Fx×List Nat)}{ρ:Rho}{fps:Fps}{R:Option Int->Hp->Prop} (rep:Rep M ρ σ H fps)
  (q:match evO (o.map (·.1)) ρ with
   | .ok (l,ρ')=>∀ H' fps',KD M H fps H' fps'->Agr M ρ ρ'->Rep M ρ' σ H' fps'->R l H'
   | .exc c=>∀ H' fps',KD M H fps H' fps'->M.W σ c H'
   | .no=>False):tO M o σ H R:=by
 cases o with
 | none=>exact q H fps KD.refl Agr.refl rep
 | some p=>
  obtain ⟨f,vs⟩:=p
  refine ⟨ρ,fps,rep,?_⟩
  dsimp only [jr6,evO] at q
  cases ef:f ρ with
  | no=>rw [ef] at q;exact q
  | exc c=>rw [ef] at q;exact q
  | ok p=>
   obtain ⟨x,d,ρ1⟩:=p
   rw [ef] at q
   intro v H1 fps1 f1 k1 g1 rep1 o1 t1
   dsimp only [Rz.bind] at q
   cases x with
   | int i=>rw [Own] at o1;exact ⟨i,o1.1,q H1 fps1 k1 g1 rep1⟩
   | _=>exact q.elim
theorem qj2 {lo hi:Option (Fx×List Nat)} (hv:∀ i∈vs,M.Ms i=false) (hK:M.K=X.K) {σ:St}{H:Hp}{Q:VK} (hq:tE M (bSl f (lo.map (·.1)) (hi.map (·.1))) vs σ H Q):tSl (λ x lo hi H Q=>rSlL X.K x lo hi H Q\/rSlT X.K x lo hi H Q) (tE M f vs) (tO M lo) (tO M hi) σ H Q:=by
 obtain ⟨ρ,fps,rep,q⟩:=hq
 refine ⟨ρ,fps,rep,?_⟩
 unfold bSl at q
 cases ef:f ρ with
 | no=>rw [ef] at q;exact q
 | exc c=>rw [ef] at q;exact q
 | ok p=>
  obtain ⟨x,d,ρ1⟩:=p
  rw [ef] at q
  intro v H1 fps1 f1 k1 g1 rep1 o1 t1
  dsimp only [Rz.bind] at q
  refine qdx rep1 ?_
  cases el:evO (lo.map (·.1)) ρ1 with
  | no=>rw [el] at q;exact q
  | exc c=>rw [el] at q;exact λ H' fps' k=>q H' fps' (k1.trans k)
  | ok p2=>
   obtain ⟨l,ρ2⟩:=p2
   rw [el] at q
   intro H2 fps2 k2 g2 rep2
   refine qdx rep2 ?_
   dsimp only at q
   cases eh:evO (hi.map (·.1)) ρ2 with
   | no=>rw [eh] at q;exact q
   | exc c=>rw [eh] at q;exact λ H' fps' k=>q H' fps' ((k1.trans k2).trans k)
   | ok p3=>
    obtain ⟨u,ρ3⟩:=p3
    rw [eh] at q
    intro H3 fps3 k3 g3 rep3
    dsimp only at q
    have kk:=k2.trans k3
    have o3:=kk.stay rep1 hv o1 t1.ndj
    have n3:∀ a∈f1,¬ Zf M fps3 a:=λ a ha z=>by
     rcases z with z | ⟨i,z⟩
     ·exact t1.ndj a ha (.inl z)
     ·rcases kk.sub i a z with z | z
      ·exact t1.ndj a ha (.inr ⟨i,z⟩)
      ·obtain ⟨xs,e⟩:=Own.lsts x d v f1 o1 a ha
       rw [z] at e;cases e
    have back:∀ a,H3 a=none->H a=none:=λ a e=>by
     cases e':H a with
     | none=>rfl
     | some o=>exact absurd e ((k1.trans kk).dom a (by rw [e'];simp))
    cases eo:opSl x l u with
    | none=>rw [eo] at q;exact q.elim
    | some zc=>
     obtain ⟨z,c⟩:=zc
     rw [eo] at q
     have lf:Leaf M H3 fps3 vs f1 z c Q:=λ w H4 fp k4 o4 hfp=>q w H4 fps3 fp ((k1.trans kk).trans (KD.grow k4)) (g1.trans (g2.trans g3)) (rep3.grow k4) o4 ⟨λ a ha=>(hfp a ha).elim (t1.new a) (back a),λ a ha=>(hfp a ha).elim (n3 a) λ z=>rep3.nz z⟩
     have c0:=cold o3 n3
     unfold opSl at eo
     cases x with
     | lst xs=>
      cases eo
      obtain ⟨p,ws,rfl,hp,ol⟩:=c0.coldL
      refine .inl ⟨p,ws,rfl,.inl (.inl hp),λ q hq=>?_⟩
      have e:OwnL M.K H3 (Zv M vs fps3) (cutP xs l u) 0 (cutV ws l u) []:=by
       unfold cutP cutV
       rw [ol.length]
       exact (ol.drop _).take _
      exact zvc lf e hq
     | tup xs=>
      dsimp only at eo
      split at eo
      ·cases eo
      ·rename_i hw
       cases eo
       obtain ⟨p,ws,rfl,hp,ol⟩:=c0.coldT
       refine .inr ⟨p,ws,rfl,.inl (.inl hp),by rw [ol.length];exact hw,λ q hq=>?_⟩
       have e:OwnL M.K H3 (Zv M vs fps3) (cutP xs l u) 0 (cutV ws l u) []:=by
        unfold cutP cutV
        rw [ol.length]
        exact (ol.drop _).take _
       exact zbc lf e hq
     | _=>cases eo
def zpx:PV->String
 | .non => "NoneType"
 | .bl _ => "bool"
 | .int _ => "int"
 | .str _ => "str"
 | .lst _ => "list"
 | .tup _ => "tuple"
 | .emp => "dict"
 | .dko => "dict"
 | .dct _ => "dict"
 | _ => ""
def isiB (t T:String):Bool:=t == T || (t == "bool" && T == "int")
def isiT:List String:=["int","bool","str","list","tuple","dict"]
def zwk (T:String) (x:PV) (_:Nat):Option (PV×Nat):=match x with
 | .scr _=>none
 | .exn _=>none
 | _=>some (.bl (isiB (zpx x) T),om)
theorem Own.ty {K:Frag}{Z:Addr->Prop}{x:PV}{d:Nat}{v:V}{fp:List Addr} (h:Own K H Z x d v fp) (hs:∀ ns,x≠.scr ns) (hx:∀ c,x≠.exn c):TyOf K H v (.type (zpx x)):=by
 cases x with
 | non=>rw [Own] at h;rw [h.1];exact .non
 | bl b=>rw [Own] at h;rw [h.1];exact .bl b
 | int i=>rw [Own] at h;rw [h.1];exact .int i
 | str s=>rw [Own] at h;rw [h.1];exact .str s
 | emp=>rw [Own] at h;obtain ⟨_,a,e,ha⟩:=h;rw [e];exact .dK ha
 | dko=>rw [Own] at h;obtain ⟨_,a,e,_,ha⟩:=h;rw [e];exact .dK ha
 | scr ns=>exact absurd rfl (hs ns)
 | exn c=>exact absurd rfl (hx c)
 | dct kvs=>
  rw [Own] at h
  obtain ⟨a,e,⟨_,hr,_⟩ | ⟨_,ha,_⟩⟩:=h
  ·rw [e];exact .dT hr.1
  ·rw [e];exact .dT ha
 | lst xs=>
  rw [Own] at h
  obtain ⟨a,ws,e,⟨_,hr,_,_⟩ | ⟨_,f,ha,_⟩⟩:=h
  ·rw [e];exact .lst hr.1
  ·rw [e];exact .lst ha
 | tup xs=>
  rw [Own] at h
  obtain ⟨a,ws,e,hr,_⟩:=h
  rw [e];exact .tup hr
end
section
variable {X:Cx}{M:Fm}{a b:Expr}{f g:Fx}{fa:Fa}{vs vs':List Nat}{pos p:Pos}{σ:St}{H:Hp}{Q:VK}{e:Expr}{es:List Expr}
theorem qnk:PA X [] (tL M aNil []):=qi6 zyl λ σ H Q h=>qm0 h
theorem qkg (hv:∀ i∈vs,M.Ms i=false) (ha:PE X e (tE M f vs)) (hr:PA X es (tL M fa vs')) (hs:va4 (e::es) X.env=(false,eval e X.env)::va4 es X.env):PA X (e::es) (tL M (zqa f fa) (vs++vs')):=
 qi6 (zwj ha hr hs) λ σ H Q h=>qj1 hv h
theorem zwu {op:List (PV×Nat)->Option (PV×Nat)}{r:List V->Hp->VK->Prop}
  (leaf:∀ xs z c ws H fps fp Q,op xs=some (z,c)->Tmps M.K H (Zv M vs fps) xs ws fp->(∀ a∈fp,¬ Zf M fps a)->(∀ a,Zf M fps a->H a≠none)->Leaf M H fps vs fp z c Q->r ws H Q)
  {σ:St}{H:Hp}{Q:VK} (hq:tE M (zqb op fa) vs σ H Q):tCB r (tL M fa vs) σ H Q:=qah leaf hq
def zqf (xs:List (PV×Nat)):Option (PV×Nat):=if xs.length<=va2 then some (.lst (xs.map (·.1)),if zzy xs then om else 1) else none
def zwn (xs:List (PV×Nat)):Option (PV×Nat):=if xs.length<=va2 then some (.tup (xs.map (·.1)),if zzy xs then om else 0) else none
theorem qnb (h:PA X es (tL M fa vs)):PE X (.List es pos) (tE M (zqb zqf fa) vs):=by
 refine zqv (qn5 h) λ σ H Q h=>qah (r:=λ xs H1 Q=>xs.length<=va2/\∀ p,H1 p=none->Q (.ref p) (upd H1 p (.lst xs))) (λ xs z c ws H fps fp Q ho tm nz zd lf=>?_) h
 unfold zqf at ho
 split at ho
 ·rename_i hl
  refine ⟨by rw [tm.length];exact hl,λ q hq=>?_⟩
  cases eo:zzy xs with
  | true=>rw [eo] at ho;cases ho;exact qda lf (tm.all (zkh eo)) hq
  | false=>rw [eo] at ho;cases ho;exact zhi lf (tm.cold λ a ha z=>nz a ha z.zf) hq
 ·cases ho
theorem qm7 {x1:_} (h:PA X es (tL M fa vs)):PE X (.Tuple es x1 pos) (tE M (zqb zwn fa) vs):=by
 refine zqv (qi2 h) λ σ H Q h=>qah (r:=λ xs H1 Q=>xs.length<=va2/\∀ p,H1 p=none->Q (.ref p) (upd H1 p (.tup xs))) (λ xs z c ws H fps fp Q ho tm nz zd lf=>?_) h
 unfold zwn at ho
 split at ho
 ·rename_i hl
  refine ⟨by rw [tm.length];exact hl,λ q hq=>?_⟩
  cases eo:zzy xs with
  | true=>rw [eo] at ho;cases ho;exact qfc lf (tm.all (zkh eo)) hq
  | false=>rw [eo] at ho;cases ho;exact zbc lf (tm.cold λ a ha z=>nz a ha z.zf) hq
 ·cases ho
theorem Inv.big {pins:List (Addr×Obj)}{s:va1} (I:L2.Inv X pins σ H s):ve6 < s.heap.objs.size:=by
 have h:vc1 < s.heap.objs.size:=(I.mod.glob.keeps I.bk).lt
 exact jq6 (by decide) h
theorem qkv:PE X (.Dict [] [] pos) (λ _ H Q=>∀ p,H p=none->Q (.ref p) (upd H p (.dK []))):=λ pins s σ H Q I h=>
 wpAny_Dict_empty ⟨.ref s.heap.objs.size,_,I.laid (a:=s.heap.objs.size) (o:=.dK []) (t':=s.toks) (λ _ _ q=>va5 _ q) (jb8 _) ⟨jh5 _,beq_eq_false_iff_ne.mpr (vb1 (jd2 (Inv.big I))),[],.nil,Heap.DictOf.new s.heap⟩,rfl,h _ (I.hok.fresh (jb8 _))⟩
theorem qne:PE X (.Dict [] [] pos) (tE M (bC .emp) []):=by
 refine zqv qkv λ σ H Q h p hp=>?_
 obtain ⟨ρ,fps,rep,q⟩:=h
 refine q (.ref p) _ fps [] (KD.grow (zxp hp)) Agr.refl (rep.grow (zxp hp)) ?_ ⟨λ _ z=>(nomatch z),λ _ z=>nomatch z⟩
 rw [Own]
 exact ⟨rfl,p,rfl,zqo⟩
theorem qil:zzr X (.builtin "isinstance") (λ xs H Q=>∃ x t T k,xs=[x,.ty T]/\TyOf X.K H x t/\vb7 X.K t (.type T)=some k/\Q (.bl k) H):=by
 intro pins s σ H xs us Q I r h
 obtain ⟨x,t,T,k,rfl,ty,hk,q⟩:=h
 obtain ⟨u,w,rfl,r1,r2⟩:=qdj r
 cases r2
 exact qfg I r1 ty hk λ tk=>⟨.bl k,H,I.tok _,rfl,q⟩
theorem qor (K:Frag) {T:String} (hT:T∈isiT) (x:PV) (hs:∀ ns,x≠.scr ns) (hx:∀ c,x≠.exn c):vb7 K (.type (zpx x)) (.type T)=some (isiB (zpx x) T):=by
 simp only [isiT,jb2,jg0,or_false] at hT
 cases x with
 | scr ns=>exact absurd rfl (hs ns)
 | exn c=>exact absurd rfl (hx c)
 | _=>rcases hT with h | h | h | h | h | h <;> subst h <;> rfl
theorem qnd {T:String}{x T':Str}{p1 p2:Pos} (hT:T∈isiT) (hK:M.K=X.K) (ha:PE X e (tE M f vs)) (hg:Gl X "isinstance") (hm:X.mg "isinstance" = none) (hT':PE X (.Name T' p2) (tC (.ty T)))
  (hs1:va4 [e,.Name T' p2] X.env=[(false,eval e X.env),(false,eval (.Name T' p2) X.env)]) (hs2:va4 [Expr.Name T' p2] X.env=[(false,eval (.Name T' p2) X.env)]):
  PE X (.Call (.Name "isinstance" p1) [e,.Name T' p2] [] pos) (tE M (bUn (zwk T) f) vs):=by
 refine zqv (zzc qil hg hm rfl (zwj ha (zwj hT' zyl hs2) (by rw [hs1,hs2])) (he:=by rw [hs1,hs2]) (hpl:=by rw [hs2];rfl)) λ σ H Q h=>?_
 refine qdz (r:=λ v H Q=>∃ x t T' k,[v,.ty T]=[x,.ty T']/\TyOf X.K H x t/\vb7 X.K t (.type T')=some k/\Q (.bl k) H) (λ x d z c v H fps f1 Q ho o1 nz zd lf=>?_) h
 have hs:∀ ns,x≠.scr ns:=λ ns e=>by subst e;cases ho
 have hx:∀ c,x≠.exn c:=λ c e=>by subst e;cases ho
 have e2:z=.bl (isiB (zpx x) T):=by
  cases x with
  | scr ns=>cases ho
  | exn c=>cases ho
  | _=>cases ho;rfl
 subst e2
 exact ⟨v,_,T,_,rfl,by rw [<- hK];exact o1.ty hs hx,qor X.K hT x hs hx,zzl lf⟩
def zwe:List (PV×Nat)->Option (PV×Nat)
 | [(.lst xs,_)]=>some (.int xs.length,om)
 | [(.tup xs,_)]=>some (.int xs.length,om)
 | [(.scr ns,_)]=>some (.int ns.length,om)
 | [(.str z,_)]=>if z.length<=va2 then some (.int z.length,om) else none
 | _=>none
theorem qnc (hK:M.K=X.K) (hg:Gl X "len") (hm:X.mg "len" = none) (ha:PA X (e::es) (tL M fa vs)) (he:va4 (e::es) X.env=(false,eval e X.env)::va4 es X.env) (hpl:(vd4 pos (va4 es X.env)).any (·.1)=false):
  PE X (.Call (.Name "len" p) (e::es) [] pos) (tE M (zqb zwe fa) vs):=by
 refine zqv (zzc (zhy.or zhx) hg hm PySem.boot_len ha (he:=he) (hpl:=hpl)) λ σ H Q h=>zwu (λ xs z c ws H fps fp Q ho tm nz zd lf=>?_) h
 unfold zwe at ho
 split at ho
 ·rename_i xs d
  cases ho
  obtain ⟨v,r,f1,f2,rfl,_,_,o1,h2⟩:=tm
  obtain ⟨rfl,_⟩:=h2
  obtain ⟨q,us,rfl,hs,hl⟩:=o1.seqL
  exact .inl ⟨q,us,rfl,.inl (by rw [<- hK];exact hs),by rw [hl];exact zxf lf⟩
 ·rename_i xs d
  cases ho
  obtain ⟨v,r,f1,f2,rfl,_,_,o1,h2⟩:=tm
  obtain ⟨rfl,_⟩:=h2
  obtain ⟨q,us,rfl,hs,hl⟩:=o1.seqT
  exact .inl ⟨q,us,rfl,.inr (by rw [<- hK];exact hs),by rw [hl];exact zxf lf⟩
 ·rename_i ns d
  cases ho
  obtain ⟨v,r,f1,f2,rfl,_,_,o1,h2⟩:=tm
  obtain ⟨rfl,_⟩:=h2
  rw [Own] at o1
  obtain ⟨_,q,rfl,hp⟩:=o1
  refine .inl ⟨q,ns.map V.int,rfl,.inl ?_,by rw [ja1];exact zxf lf⟩
  rw [<- hK]
  exact hp.elim (λ h=>.inl (.inr h)) .inr
 ·rename_i z d
  split at ho
  ·rename_i hl
   cases ho
   obtain ⟨v,r,f1,f2,rfl,_,_,o1,h2⟩:=tm
   obtain ⟨rfl,_⟩:=h2
   rw [Own] at o1
   obtain ⟨rfl,_⟩:=o1
   exact .inr ⟨_,rfl,hl,zxf lf⟩
  ·cases ho
 ·cases ho
def op2 (k:Int->Int->Int):List (PV×Nat)->Option (PV×Nat)
 | [(.int i,_),(.int j,_)]=>some (.int (k i j),om)
 | _=>none
theorem qb1 {k:Int->Int->Int}{xs:List (PV×Nat)}{z:PV}{c:Nat}{ws:List V}{fps:Fps}{fp F:List Addr}{Z:Addr->Prop} (ho:op2 k xs=some (z,c)) (tm:Tmps M.K H Z xs ws fp) (lf:Leaf M H fps vs F z c Q):∃ i j,ws=[.int i,.int j]/\Q (.int (k i j)) H:=by
 unfold op2 at ho
 split at ho
 ·rename_i i d j e
  cases ho
  obtain ⟨v,r,f1,f2,rfl,_,_,o1,h2⟩:=tm
  obtain ⟨v2,r2,f3,f4,rfl,_,_,o2,h3⟩:=h2
  obtain ⟨rfl,_⟩:=h3
  rw [Own] at o1 o2
  obtain ⟨rfl,_⟩:=o1
  obtain ⟨rfl,_⟩:=o2
  exact ⟨_,_,rfl,zxf lf⟩
 ·cases ho
def zkr:List (PV×Nat)->Option (PV×Nat)
 | [(.lst xs,_)]=>some (.tup xs,0)
 | [(.tup xs,_)]=>some (.tup xs,0)
 | _=>none
def zvb:List (PV×Nat)->Option (PV×Nat)
 | [(.lst xs,_)]=>some (.lst xs,d1 xs)
 | [(.tup xs,_)]=>some (.lst xs,d1 xs)
 | _=>none
theorem qj9 (hK:M.K=X.K) (hg:Gl X "tuple") (hm:X.mg "tuple" = none) (ha:PA X (e::es) (tL M fa vs)) (he:va4 (e::es) X.env=(false,eval e X.env)::va4 es X.env) (hpl:(vd4 pos (va4 es X.env)).any (·.1)=false):
  PE X (.Call (.Name "tuple" p) (e::es) [] pos) (tE M (zqb zkr fa) vs):=by
 refine zqv (zyk zgb hg hm rfl ha (he:=he) (hpl:=hpl)) λ σ H Q h=>zwu (λ xs z c ws H fps fp Q ho tm nz zd lf=>?_) h
 unfold zkr at ho
 split at ho
 ·rename_i xs d
  cases ho
  obtain ⟨v,r,f1,f2,rfl,rfl,_,o1,h2⟩:=tm
  obtain ⟨rfl,rfl⟩:=h2
  obtain ⟨q,us,rfl,hs,ol⟩:=(cold (fp:=f1) o1 λ a ha=>nz a (jb0 _ ha)).coldL
  exact ⟨q,us,rfl,.inl ⟨.inl (.inl hs),λ l hl=>zbc lf ol hl⟩⟩
 ·rename_i xs d
  cases ho
  obtain ⟨v,r,f1,f2,rfl,rfl,_,o1,h2⟩:=tm
  obtain ⟨rfl,rfl⟩:=h2
  have c0:=cold (fp:=f1) o1 λ a ha=>nz a (jb0 _ ha)
  obtain ⟨q,us,rfl,hs,ol⟩:=c0.coldT
  exact ⟨q,us,rfl,.inr ⟨.inl (.inl hs),zka (x:=.tup xs) lf c0⟩⟩
 ·cases ho
theorem qkd (hK:M.K=X.K) (hg:Gl X "list") (hm:X.mg "list" = none) (ha:PA X (e::es) (tL M fa vs)) (he:va4 (e::es) X.env=(false,eval e X.env)::va4 es X.env) (hpl:(vd4 pos (va4 es X.env)).any (·.1)=false):
  PE X (.Call (.Name "list" p) (e::es) [] pos) (tE M (zqb zvb fa) vs):=by
 refine zqv (zyk zhw hg hm rfl ha (he:=he) (hpl:=hpl)) λ σ H Q h=>zwu (λ xs z c ws H fps fp Q ho tm nz zd lf=>?_) h
 unfold zvb at ho
 split at ho
 ·rename_i xs d
  cases ho
  obtain ⟨v,r,f1,f2,rfl,rfl,_,o1,h2⟩:=tm
  obtain ⟨rfl,rfl⟩:=h2
  obtain ⟨q,us,rfl,hs,ol⟩:=(cold (fp:=f1) o1 λ a ha=>nz a (jb0 _ ha)).coldL
  exact ⟨q,us,rfl,.inl (.inl (.inl hs)),λ l hl=>zvc lf ol hl⟩
 ·rename_i xs d
  cases ho
  obtain ⟨v,r,f1,f2,rfl,rfl,_,o1,h2⟩:=tm
  obtain ⟨rfl,rfl⟩:=h2
  obtain ⟨q,us,rfl,hs,ol⟩:=(cold (fp:=f1) o1 λ a ha=>nz a (jb0 _ ha)).coldT
  exact ⟨q,us,rfl,.inr (.inl (.inl hs)),λ l hl=>zvc lf ol hl⟩
 ·cases ho
end
section
variable {X:Cx}{M:Fm}{a b:Expr}{f g:Fx}{fa:Fa}{vs vs':List Nat}{pos p:Pos}{σ:St}{H:Hp}{Q:VK}{e:Expr}{es:List Expr}
theorem qim (hc:X.calm=true):zzr X (.builtin "all") (λ xs H Q=>∃ (p:Addr) (bs:List Bool),xs=[.ref p]/\SqL X.K H p (bs.map V.bl)/\Q (.bl (bs.all id)) H):=by
 intro pins s σ H xs us Q I r h
 obtain ⟨p,bs,rfl,hq,q⟩:=h
 obtain ⟨u,rfl,rx⟩:=zjq r
 cases rx
 obtain ⟨its,rv,pl,hz⟩:=I.list hq
 have hl:=rv.length
 rw [ja1] at hl
 refine call_all_walk (wpAny_pyIter_list pl.isList ?_)
 have hlt:p < s.heap.objs.size:=by obtain ⟨o,n,e,_⟩:=pl;exact va3 e
 have hne:p≠s.heap.objs.size:=jd2 hlt
 refine ⟨s.heap.objs.size,_,_,its.toArray.size,_,_,λ i=>bs.getD i true,rfl,Walks.list (A:=X.A.in1) (show X.A.in1.handled=none from I.ok.hd hc) s.heap.objs.size p hne its.toArray,⟨⟨_,vb0 _ rfl,rfl,rfl⟩,?_⟩,?_,λ h' tk k=>?_⟩
 ·exact pl.isList.at λ o e=>va5 _ e
 ·intro i v s' Q' E' hv hq'
  have hv':its[i]?=some v:=by simpa using hv
  have hi:i < bs.length:=by rw [hl];exact (ja8.mp hv').1
  obtain ⟨w,e1,e2⟩:=rv.get (i:=i) (x:=.bl bs[i]) (by simp [hi])
  rw [hv'] at e1
  cases e1
  cases e2
  refine vc0 ?_
  have:bs.getD i true=bs[i]:=by simp [jq7,hi]
  dsimp only at hq'
  rw [this] at hq'
  exact hq'
 ·have I1:L2.Inv X pins σ H { s with heap:=s.heap.push { cls:=.type "list_iterator",data:=.fields #[.ref p,rawInt 0] } }:=I.kept (t':=s.toks) λ b o e=>va5 _ e
  obtain ⟨f0,f1,f2,f3,f4,f5⟩:=I.fpOk (H':=H) (jb8 s.heap.objs.size) (I.hok.fresh (jb8 _))
  have I2:L2.Inv X pins σ H { s with heap:=h',toks:=tk }:=I1.turned (t':=tk) (λ b o hb e=>k b o (by simpa using hb) e) f0 f1 f3 f4 f5
  refine ⟨.bl _,H,I2,rfl,?_⟩
  have e:(jc3 its.toArray.size).all (λ i=>bs.getD i true)=bs.all id:=by
   rw [jc1,<- hl]
   rw [jf0]
   simp only [jc4,jd3,id]
   constructor
   ·intro h x hx
    obtain ⟨i,hi,rfl⟩:=jf8 hx
    have:=h i hi
    simpa [jq7,hi] using this
   ·intro h i hi
    simp [jq7,hi]
    exact h _ (je2 hi)
  rw [e]
  exact q
def allB:List PV->Option (List Bool)
 | []=>some []
 | .bl b::r=>(allB r).map (b::·)
 | _=>none
def zjb:List (PV×Nat)->Option (PV×Nat)
 | [(.lst xs,_)]=>(allB xs).map λ bs=>(.bl (bs.all id),om)
 | _=>none
theorem qcr {K:Frag}{Z:Addr->Prop}:∀ {xs:List PV}{ws:List V}{bs:List Bool},allB xs=some bs->OwnL K H Z xs 0 ws []->ws=bs.map V.bl
 | [],ws,bs,e,h=>by cases e;rw [OwnL] at h;exact h.1
 | .bl b::r,ws,bs,e,h=>by
  obtain ⟨bs',e1,rfl⟩:=jb9.mp e
  rw [OwnL] at h
  obtain ⟨v,s,f1,f2,rfl,ef,dj,h1,h2⟩:=h
  obtain ⟨rfl,rfl⟩:f1=[]/\f2=[]:=by simpa using ef.symm
  rw [Own] at h1
  rw [h1.1,qcr e1 h2]
  rfl
 | .non::_,_,_,e,_=>by cases e
 | .int _::_,_,_,e,_=>by cases e
 | .str _::_,_,_,e,_=>by cases e
 | .lst _::_,_,_,e,_=>by cases e
 | .tup _::_,_,_,e,_=>by cases e
 | .emp::_,_,_,e,_=>by cases e
 | .dko::_,_,_,e,_=>by cases e
 | .scr _::_,_,_,e,_=>by cases e
 | .dct _::_,_,_,e,_=>by cases e
 | .exn _::_,_,_,e,_=>by cases e
theorem qnh (hc:X.calm=true) (hg:Gl X "all") (hm:X.mg "all" = none) (ha:PA X (e::es) (tL M fa vs)) (he:va4 (e::es) X.env=(false,eval e X.env)::va4 es X.env) (hpl:(vd4 pos (va4 es X.env)).any (·.1)=false):
  PE X (.Call (.Name "all" p) (e::es) [] pos) (tE M (zqb zjb fa) vs):=by
 refine zqv (zzc (qim hc) hg hm rfl ha (he:=he) (hpl:=hpl)) λ σ H Q h=>zwu (λ xs z c ws H fps fp Q ho tm nz zd lf=>?_) h
 unfold zjb at ho
 split at ho
 ·rename_i xs d
  obtain ⟨bs,eb,e2⟩:=jb9.mp ho
  cases e2
  obtain ⟨v,r,f1,f2,rfl,rfl,_,o1,h2⟩:=tm
  obtain ⟨rfl,rfl⟩:=h2
  obtain ⟨q,us,rfl,hs,ol⟩:=(cold (fp:=f1) o1 λ a ha=>nz a (jb0 _ ha)).coldL
  have:=qcr eb ol
  subst this
  exact ⟨q,bs,rfl,.inl (.inl hs),zzl lf⟩
 ·cases ho
def zkb:List PV->Option (List Int)
 | []=>some []
 | .int i::r=>(zkb r).map (i::·)
 | _=>none
theorem zve {K:Frag}{Z:Addr->Prop}:∀ {xs:List PV}{ws:List V}{ns:List Int},zkb xs=some ns->OwnL K H Z xs 0 ws []->ws=ns.map V.int
 | [],ws,ns,e,h=>by cases e;rw [OwnL] at h;exact h.1
 | .int b::r,ws,ns,e,h=>by
  obtain ⟨ns',e1,rfl⟩:=jb9.mp e
  rw [OwnL] at h
  obtain ⟨v,s,f1,f2,rfl,ef,dj,h1,h2⟩:=h
  obtain ⟨rfl,rfl⟩:f1=[]/\f2=[]:=by simpa using ef.symm
  rw [Own] at h1
  rw [h1.1,zve e1 h2]
  rfl
 | .non::_,_,_,e,_=>by cases e
 | .bl _::_,_,_,e,_=>by cases e
 | .str _::_,_,_,e,_=>by cases e
 | .lst _::_,_,_,e,_=>by cases e
 | .tup _::_,_,_,e,_=>by cases e
 | .emp::_,_,_,e,_=>by cases e
 | .dko::_,_,_,e,_=>by cases e
 | .scr _::_,_,_,e,_=>by cases e
 | .dct _::_,_,_,e,_=>by cases e
 | .exn _::_,_,_,e,_=>by cases e
theorem zvd:∀ {ns:List Int}{its:List va0},Vals (ns.map V.int) its->∃ xs:List (Int×Tok),its=xs.map (λ p=>Value.int p.1 p.2)/\xs.map (·.1)=ns
 | [],its,h=>by cases h;exact ⟨[],rfl,rfl⟩
 | n::ns,its,h=>by
  cases h with
  | cons r rr=>
   obtain ⟨t,rfl⟩:=r
   obtain ⟨xs,rfl,rfl⟩:=zvd rr
   exact ⟨(n,t)::xs,rfl,rfl⟩
theorem qgg (hc:X.calm=true):zzr X (.builtin "min") (λ xs H Q=>∃ (p:Addr) (ns:List Int),xs=[.ref p]/\SqL X.K H p (ns.map V.int)/\ns≠[]/\∀ m,m∈ns->(∀ a∈ns,m<=a)->Q (.int m) H):=by
 intro pins s σ H xs us Q I r h
 obtain ⟨p,ns,rfl,hq,hn,q⟩:=h
 obtain ⟨u,rfl,rx⟩:=zjq r
 cases rx
 obtain ⟨its,rv,pl,hz⟩:=I.list hq
 obtain ⟨zs,rfl,rfl⟩:=zvd rv
 have e:(zs.map λ p=>Value.int p.1 p.2).toArray=ve1 zs.toArray:=by simp [ve1]
 rw [e] at pl
 have h0:0 < zs.length:=by
  cases zs with
  | nil=>exact absurd rfl hn
  | cons _ _=>simp
 refine min_intList (I.ok.hd hc) pl.isList (by simpa using h0) λ v h' tk hv k=>?_
 obtain ⟨l1,l2⟩:=argBest_lt (vf0 zs.toArray) (zs.toArray.size - 1)
 have hv':=hv
 obtain ⟨t,rfl⟩:=vi6 hv
 have at':∀ j,j < zs.length->vf0 zs.toArray j∈zs.map (·.1):=λ j hj=>by
  unfold vf0
  simp [hj]
  exact ⟨_,je2 hj⟩
 refine ⟨.int _,H,I.kept (t':=tk) k,⟨t,rfl⟩,q _ (at' _ ?_) λ a ha=>?_⟩
 ·have:zs.toArray.size=zs.length:=by simp
  omega
 ·obtain ⟨z,hz,rfl⟩:=jd5.mp ha
  obtain ⟨j,hj,rfl⟩:=jf8 hz
  have hzs:zs.toArray.size=zs.length:=by simp
  have:=l2 j (by omega)
  have e:vf0 zs.toArray j=zs[j].1:=by unfold vf0;simp [hj]
  rw [e] at this
  exact this
theorem qc8 {prog:va8}{w:vb6}{A:vb8}{E:va0->va1->Prop}{s:va1}{l:Addr}{xs:Array (Int×Tok)}{Q:va0->va1->Prop} (hh:A.handled=none) (hl:s.heap.IsTuple l (ve1 xs)) (hne:0 < xs.size)
  (h:∀ v h' tk,(ve1 xs)[argBest (λ i j=>decide (vf0 xs i < vf0 xs j)) (xs.size - 1)]?=some v->(∀ b o,s.heap.get? b=some o->h'.get? b=some o)->Q v { s with heap:=h',toks:=tk }):
  vb3 (vb2 prog w) A (call (.builtin "min") [.ref l]) Q E s:=by
 have hlt:l < s.heap.objs.size:=by obtain ⟨_,e,_⟩:=hl;exact va3 e
 refine call_min_walk (wpAny_pyIter_tuple hl ?_)
 refine ⟨_,[_,l],[_],_,_,_,_,rfl,Walks.tuple (A:=A.in1) hh _ l (jd2 hlt) (ve1 xs),⟨⟨_,vb0 _ rfl,rfl,rfl⟩,hl.push _⟩,λ c hc=>?_,by simpa [ve1] using hne,CmpOf.ints_lt (vf0 xs) (λ _ _=>vi6),λ v h' tk hP hk=>?_⟩
 ·show c < (s.heap.push _).objs.size
  rw [vf3]
  rcases jb2.mp hc with rfl | hc
  ·exact jh0 _
  ·rcases jb2.mp hc with rfl | hc
   ·exact jj9 hlt
   ·cases hc
 ·exact h v h' tk (by simpa [ve1] using hP) λ c o e=>by
   refine hk c o (λ hm=>?_) (va5 _ e)
   rcases jb2.mp hm with e1 | hm
   ·exact absurd (e1 ▸ va3 e) (jf6 _)
   ·cases hm
theorem qgf (hc:X.calm=true):zzr X (.builtin "min") (λ xs H Q=>∃ (p:Addr) (ns:List Int),xs=[.ref p]/\SqT X.K H p (ns.map V.int)/\ns≠[]/\∀ m,m∈ns->(∀ a∈ns,m<=a)->Q (.int m) H):=by
 intro pins s σ H xs us Q I r h
 obtain ⟨p,ns,rfl,hq,hn,q⟩:=h
 obtain ⟨u,rfl,rx⟩:=zjq r
 cases rx
 obtain ⟨its,rv,pl,hz⟩:=I.tuple hq
 obtain ⟨zs,rfl,rfl⟩:=zvd rv
 have e:(zs.map λ p=>Value.int p.1 p.2).toArray=ve1 zs.toArray:=by simp [ve1]
 rw [e] at pl
 have h0:0 < zs.length:=by
  cases zs with
  | nil=>exact absurd rfl hn
  | cons _ _=>simp
 refine qc8 (I.ok.hd hc) pl (by simpa using h0) λ v h' tk hv k=>?_
 obtain ⟨l1,l2⟩:=argBest_lt (vf0 zs.toArray) (zs.toArray.size - 1)
 have hv':=hv
 obtain ⟨t,rfl⟩:=vi6 hv
 have at':∀ j,j < zs.length->vf0 zs.toArray j∈zs.map (·.1):=λ j hj=>by
  unfold vf0
  simp [hj]
  exact ⟨_,je2 hj⟩
 refine ⟨.int _,H,I.kept (t':=tk) k,⟨t,rfl⟩,q _ (at' _ ?_) λ a ha=>?_⟩
 ·have:zs.toArray.size=zs.length:=by simp
  omega
 ·obtain ⟨z,hz,rfl⟩:=jd5.mp ha
  obtain ⟨j,hj,rfl⟩:=jf8 hz
  have hzs:zs.toArray.size=zs.length:=by simp
  have:=l2 j (by omega)
  have e:vf0 zs.toArray j=zs[j].1:=by unfold vf0;simp [hj]
  rw [e] at this
  exact this
def qaj (ns:List Int):Bool:=decide (ns.length<=2 ^ 20) && ns.all λ i=>decide (-(2 ^ 40)<=i) && decide (i<=2 ^ 40)
theorem qd5 {ns:List Int} (h:∀ i∈ns,-(2 ^ 40)<=i/\i<=2 ^ 40):∀ j:Nat,-(2 ^ 40) * (j:Int)<=(ns.take j).sum/\(ns.take j).sum<=2 ^ 40 * (j:Int):=by
 induction ns with
 | nil=>intro j;rw [jn7,jo4];omega
 | cons n ns ih=>
  intro j
  cases j with
  | zero=>rw [jk1,jo4];omega
  | succ j=>
   have:=ih (λ i hi=>h i (ja0 _ hi)) j
   have hn:=h n ja3
   rw [ji5,ji0]
   omega
theorem qge (hc:X.calm=true):zzr X (.builtin "sum") (λ xs H Q=>∃ (p:Addr) (ns:List Int),xs=[.ref p]/\SqL X.K H p (ns.map V.int)/\qaj ns=true/\Q (.int ns.sum) H):=by
 intro pins s σ H xs us Q I r h
 obtain ⟨p,ns,rfl,hq,hn,q⟩:=h
 obtain ⟨u,rfl,rx⟩:=zjq r
 cases rx
 obtain ⟨its,rv,pl,hz⟩:=I.list hq
 obtain ⟨zs,rfl,rfl⟩:=zvd rv
 have e:(zs.map λ p=>Value.int p.1 p.2).toArray=ve1 zs.toArray:=by simp [ve1]
 rw [e] at pl
 unfold qaj at hn
 rw [ja4] at hn
 have hl:(zs.map (·.1)).length<=2 ^ 20:=by simpa using hn.1
 have hb:∀ i∈zs.map (·.1),-(2 ^ 40)<=i/\i<=2 ^ 40:=λ i hi=>by
  have:=jc4.mp hn.2 i hi
  rw [ja4] at this
  exact ⟨of_decide_eq_true this.1,of_decide_eq_true this.2⟩
 have sz:zs.toArray.size=zs.length:=by simp
 rw [ja1] at hl
 have pre:∀ j,preSum (vf0 zs.toArray) j=((zs.map (·.1)).take j).sum:=λ j=>by
  rw [preSum_eq]
 refine sum_intList (I.ok.hd hc) pl.isList (λ j hj=>⟨?_,?_⟩) λ h' tk t' k=>⟨.int _,H,I.kept (t':=tk) k,⟨t',rfl⟩,?_⟩
 ·have e1:vf0 zs.toArray j=zs[j].1:=by unfold vf0;simp [show j < zs.length by omega]
  have:=hb (zs[j]'(by omega)).1 (jd5.mpr ⟨_,je2 _,rfl⟩)
  rw [e1]
  unfold InLong
  omega
 ·have:=qd5 hb (j + 1)
  rw [pre]
  unfold InLong
  omega
 ·rw [pre,sz]
  have:((zs.map (·.1)).take zs.length)=zs.map (·.1):=by
   rw [jf9];simp
  rw [this]
  exact q
def minI:Int->List Int->Int
 | n,[]=>n
 | n,m::r=>minI (if m < n then m else n) r
theorem zfl:∀ (r:List Int) (n:Int),minI n r∈n::r
 | [],n=>ja3
 | m::r,n=>by
  unfold minI
  have:=zfl r (if m < n then m else n)
  rcases jb2.mp this with h | h
  ·rw [h]
   split
   ·exact ja0 _ ja3
   ·exact ja3
  ·exact ja0 _ (ja0 _ h)
theorem qaw:∀ (r:List Int) (n:Int),∀ a∈n::r,minI n r<=a
 | [],n,a,h=>by
  have:a=n:=by simpa using h
  rw [this];exact jp5 _
 | m::r,n,a,h=>by
  unfold minI
  have ih:=qaw r (if m < n then m else n)
  have h1:=ih _ ja3
  have h2:(if m < n then m else n)<=n/\(if m < n then m else n)<=m:=by split <;> omega
  rcases jb2.mp h with e | h
  ·rw [e];omega
  ·rcases jb2.mp h with e | h
   ·rw [e];omega
   ·exact ih a (ja0 _ h)
theorem zmd {ns:List Int}{m m':Int} (h1:m∈ns) (h2:∀ a∈ns,m<=a) (h3:m'∈ns) (h4:∀ a∈ns,m'<=a):m=m':=by
 have:=h2 m' h3
 have:=h4 m h1
 omega
def zzd:List (PV×Nat)->Option (PV×Nat)
 | [(.lst xs,_)]=>match zkb xs with
  | some (n::r)=>some (.int (minI n r),om)
  | _=>none
 | [(.tup xs,_)]=>match zkb xs with
  | some (n::r)=>some (.int (minI n r),om)
  | _=>none
 | xs=>op2 (λ i j=>if j < i then j else i) xs
def zgw:List (PV×Nat)->Option (PV×Nat)
 | [(.lst xs,_)]=>match zkb xs with
  | some ns=>if qaj ns=true then some (.int ns.sum,om) else none
  | none=>none
 | _=>none
theorem qkb (hc:X.calm=true) (hg:Gl X "min") (hm:X.mg "min" = none) (ha:PA X (e::es) (tL M fa vs)) (he:va4 (e::es) X.env=(false,eval e X.env)::va4 es X.env) (hpl:(vd4 pos (va4 es X.env)).any (·.1)=false):
  PE X (.Call (.Name "min" p) (e::es) [] pos) (tE M (zqb zzd fa) vs):=by
 refine zqv (zzc (((qgh hc).or (qgg hc)).or (qgf hc)) hg hm rfl ha (he:=he) (hpl:=hpl)) λ σ H Q h=>zwu (λ xs z c ws H fps fp Q ho tm nz zd lf=>?_) h
 unfold zzd at ho
 split at ho
 ·rename_i xs d
  split at ho
  ·rename_i n r eb
   cases ho
   obtain ⟨v,r',f1,f2,rfl,rfl,_,o1,h2⟩:=tm
   obtain ⟨rfl,rfl⟩:=h2
   obtain ⟨q,us,rfl,hs,ol⟩:=(cold (fp:=f1) o1 λ a ha=>nz a (jb0 _ ha)).coldL
   have:=zve eb ol
   subst this
   refine .inl (.inr ⟨q,n::r,rfl,.inl (.inl hs),by simp,λ m h1 h2=>?_⟩)
   rw [zmd h1 h2 (zfl r n) (qaw r n)]
   exact zxf lf
  ·cases ho
 ·rename_i xs d
  split at ho
  ·rename_i n r eb
   cases ho
   obtain ⟨v,r',f1,f2,rfl,rfl,_,o1,h2⟩:=tm
   obtain ⟨rfl,rfl⟩:=h2
   obtain ⟨q,us,rfl,hs,ol⟩:=(cold (fp:=f1) o1 λ a ha=>nz a (jb0 _ ha)).coldT
   have:=zve eb ol
   subst this
   refine .inr ⟨q,n::r,rfl,.inl (.inl hs),by simp,λ m h1 h2=>?_⟩
   rw [zmd h1 h2 (zfl r n) (qaw r n)]
   exact zxf lf
  ·cases ho
 ·exact .inl (.inl (qb1 ho tm lf))
theorem qka (hc:X.calm=true) (hg:Gl X "sum") (hm:X.mg "sum" = none) (ha:PA X (e::es) (tL M fa vs)) (he:va4 (e::es) X.env=(false,eval e X.env)::va4 es X.env) (hpl:(vd4 pos (va4 es X.env)).any (·.1)=false):
  PE X (.Call (.Name "sum" p) (e::es) [] pos) (tE M (zqb zgw fa) vs):=by
 refine zqv (zzc (qge hc) hg hm rfl ha (he:=he) (hpl:=hpl)) λ σ H Q h=>zwu (λ xs z c ws H fps fp Q ho tm nz zd lf=>?_) h
 unfold zgw at ho
 split at ho
 ·rename_i xs d
  split at ho
  ·rename_i ns eb
   split at ho
   ·rename_i hk
    cases ho
    obtain ⟨v,r',f1,f2,rfl,rfl,_,o1,h2⟩:=tm
    obtain ⟨rfl,rfl⟩:=h2
    obtain ⟨q,us,rfl,hs,ol⟩:=(cold (fp:=f1) o1 λ a ha=>nz a (jb0 _ ha)).coldL
    have:=zve eb ol
    subst this
    exact ⟨q,ns,rfl,.inl (.inl hs),hk,zxf lf⟩
   ·cases ho
  ·cases ho
 ·cases ho
abbrev Fn:=List PV->Rz (PV×Nat×PV)
def spF (K:Frag) (io:Bool) (n:Nat) (F:Fn):Sp:=λ ws H Q E=>ws.length=n/\∃ (xs:List PV) (Zo:Addr->Prop) (x0:PV) (v0:V) (fp0:List Addr),
 (∀ a,Zo a->H a≠none)/\(∀ a∈fp0,¬ Zo a)/\(io=false->fp0=[]/\OwnL K H Zo xs 0 ws []) /\
 (io=true->∃ xr wr,xs=x0::xr/\ws=v0::wr/\Own K H (λ _=>True) x0 om v0 fp0/\OwnL K H (λ a=>Zo a\/a∈fp0) xr 0 wr []) /\
 (match F xs with
  | .ok (y,d,z0)=>∀ v H' fp fp0',Keep (λ a=>a∈fp0) H H'->(∀ a,H a≠none->H' a≠none)->(∀ a∈fp0',a∈fp0\/H a=none)->(∀ a∈fp0',¬ Zo a)->(io=false->fp0'=[])->(io=true->Own K H' (λ _=>True) z0 om v0 fp0') ->
    Own K H' (λ a=>(Zo a\/a∈fp0')\/a∈fp) y d v fp->(∀ a∈fp,H a=none/\¬ (Zo a\/a∈fp0'))->Q v H'
  | .exc c=>∀ H',Keep (λ a=>a∈fp0) H H'->(∀ a,H a≠none->H' a≠none)->E (.int (c:Int) 0) none H'
  | .no=>False)
theorem Rep.apart {ρ:Rho}{σ:St}{H:Hp}{fps:Fps}{fp:List Addr}{H':Hp} (r:Rep (M.plus fp) ρ σ H fps) (k:Keep (λ a=>a∈fp) H H') (dm:∀ a,H a≠none->H' a≠none) (hl:∀ a∈fp,∃ o:MO,H a=some o.ho):Rep (M.plus fp) ρ σ H' fps:=
 ⟨λ i x d e=>let ⟨v,h1,h2⟩:=r.own i x d e;⟨v,h1,Own.move k (λ a ha=>⟨.inl (.inr ha),hl a ha⟩) (λ _ _ n=>n) x d v _ (λ a ha z=>r.zo i a ha (.inr z)) h2⟩,r.non,r.dj,r.zo,r.fr,λ a z=>dm a (r.zd a z),r.len,r.msf,λ a z=>dm a (r.h0 a z),r.iov⟩
def zqc (F:Fn) (fa:Fa):Fx:=λ ρ=>(fa ρ).bind λ (xs,ρ1)=>match F (xs.map (·.1)) with
 | .ok (y,d,_)=>.ok (y,d,ρ1)
 | .exc c=>.exc c
 | .no=>.no
theorem qj4 {F:Fn}{n:Nat} (hF:∀ xs,xs.length≠n->F xs=.no) {σ:St}{H:Hp}{Q:VK} (hq:tE M (zqc F fa) vs σ H Q):qiv (spF M.K false n F) M.W (tL M fa vs) σ H Q:=by
 obtain ⟨ρ,fps,rep,q⟩:=hq
 refine ⟨ρ,fps,rep,?_⟩
 unfold zqc at q
 cases ef:fa ρ with
 | no=>rw [ef] at q;exact q
 | exc c=>rw [ef] at q;exact q
 | ok p=>
  obtain ⟨xs,ρ1⟩:=p
  rw [ef] at q
  intro ws H1 fps1 f1 k1 g1 rep1 o1 t1
  dsimp only [Rz.bind] at q
  have back:∀ a,H1 a=none->H a=none:=λ a e=>by
   cases e':H a with
   | none=>rfl
   | some o=>exact absurd e (k1.dom a (by rw [e'];simp))
  show spF M.K false n F ws H1 Q (XEof (M.W σ))
  have hlen:xs.length=n:=by
   by_cases e:xs.length=n
   ·exact e
   ·rw [hF (xs.map (·.1)) (by rw [ja1];exact e)] at q;exact q.elim
  refine ⟨by rw [o1.length,hlen],xs.map (·.1),Zv M vs fps1,.non,.non,[],λ a z=>rep1.zdom z.zf,λ _ z=>(nomatch z),λ _=>⟨rfl,o1.cold λ a ha z=>t1.ndj a ha z.zf⟩,(λ h=>nomatch h),?_⟩
  cases eF:F (xs.map (·.1)) with
  | no=>rw [eF] at q;exact q
  | exc c=>
   rw [eF] at q
   exact λ H' kp _=>q H' fps1 (k1.trans (KD.grow λ a o h=>kp a o h λ z=>nomatch z))
  | ok r=>
   obtain ⟨y,d,z0⟩:=r
   rw [eF] at q
   intro v H' fp fp0' kp dm _ _ h0 _ oy hf
   have e0:=h0 rfl
   subst e0
   have kk:∀ a o,H1 a=some o->H' a=some o:=λ a o h=>kp a o h λ z=>nomatch z
   refine q v H' fps1 fp (k1.trans (KD.grow kk)) g1 (rep1.grow kk) (oy.weak λ a h=>h.elim (λ h=>.inl (.inl h)) .inr) ⟨λ a ha=>back a (hf a ha).1,λ a ha=>rep1.nz (hf a ha).1⟩
def zqd (F:Fn) (i:Nat) (fa:Fa):Fx:=λ ρ=>match ρ[i]? with
 | some (some _)=>(fa ρ).bind λ (xs,ρ1)=>(match ρ1[i]? with
  | some (some (x0,_))=>(match F (x0::xs.map (·.1)) with
   | .ok (y,d,z0)=>.ok (y,d,ρ1.set i (some (z0,om)))
   | _=>.no)
  | _=>.no)
 | _=>.no
theorem qd1 {F:Fn}{n i:Nat}{E:XK} (hal:∀ i,∀ j∈M.al i,M.Ms j=false) (hv:∀ i∈vs,M.Ms i=false) (hm:M.Ms i=true) (hF:∀ xs,xs.length≠n->F xs=.no) {σ:St}{H:Hp}{Q:VK} (hq:tE M (zqd F i fa) vs σ H Q):qm3 (spF M.K true n F) [] E (qcv (tVar i) (tL M fa vs)) σ H Q:=by
 obtain ⟨ρ,fps,rep,q⟩:=hq
 unfold zqd at q
 cases e0:ρ[i]? with
 | none=>rw [e0] at q;exact q.elim
 | some s0=>
  rw [e0] at q
  cases s0 with
  | none=>exact q.elim
  | some p0=>
  obtain ⟨xi,di⟩:=p0
  obtain ⟨v0,hσ,_⟩:=rep.own i _ _ e0
  dsimp only at q
  refine ⟨v0,hσ,ρ,fps,rep,?_⟩
  cases ef:fa ρ with
  | no=>rw [ef] at q;exact q
  | exc c=>rw [ef] at q;exact q
  | ok p=>
   obtain ⟨xs,ρ1⟩:=p
   rw [ef] at q
   intro ws H1 fps1 f1 k1 g1 rep1 o1 t1
   dsimp only [Rz.bind] at q
   have back:∀ a,H1 a=none->H a=none:=λ a e=>by
    cases e':H a with
    | none=>rfl
    | some o=>exact absurd e (k1.dom a (by rw [e'];simp))
   show spF M.K true n F ((v0::ws)++[]) H1 Q E
   rw [jh4]
   cases e1:ρ1[i]? with
   | none=>rw [e1] at q;exact q.elim
   | some s1=>
    rw [e1] at q
    cases s1 with
    | none=>exact q.elim
    | some p1=>
    obtain ⟨x0,d0⟩:=p1
    dsimp only at q
    have hd:=rep1.msf i x0 d0 hm e1
    subst hd
    obtain ⟨v1,hσ1,o0⟩:=rep1.own i _ _ e1
    rw [hσ] at hσ1
    cases hσ1
    have hi:i < ρ1.length:=(ja8.mp e1).1
    have ivs:i∉vs:=λ z=>by rw [hv i z] at hm;cases hm
    have hlen:xs.length + 1=n:=by
     by_cases e:xs.length + 1=n
     ·exact e
     ·rw [hF (x0::xs.map (·.1)) (by rw [jb4,ja1];exact e)] at q;exact q.elim
    refine ⟨by rw [jb4,o1.length,hlen],x0::xs.map (·.1),(λ a=>Zv M vs fps1 a/\a∉fps1 i),x0,v0,fps1 i,λ a z=>rep1.zdom z.1.zf,λ a ha z=>z.2 ha,(λ h=>nomatch h),λ _=>⟨xs.map (·.1),ws,rfl,rfl,Own.full x0 v0 _ o0,?_⟩,?_⟩
    ·refine (o1.cold λ a ha z=>t1.ndj a ha z.zf).weak λ a h=>?_
     rcases h with h | h
     ·exact h.1
     ·exact .inr ⟨i,ivs,h⟩
    ·cases eF:F (x0::xs.map (·.1)) with
     | no=>rw [eF] at q;exact q
     | exc c=>rw [eF] at q;exact q.elim
     | ok r=>
      obtain ⟨y,d,z0⟩:=r
      rw [eF] at q
      intro v H' fp fp0' kp dm sb nZ _ h1 oy hf
      have oz:=h1 rfl
      have nz0:∀ a∈fp0',¬ M.Zo a:=λ a ha z=>by
       by_cases hai:a∈fps1 i
       ·exact rep1.zo i a hai z
       ·exact nZ a ha ⟨.inl z,hai⟩
      have kd:KD M H1 fps1 H' (λ j=>if j=i then fp0' else fps1 j):=⟨λ a o h n=>kp a o h λ z=>n ⟨i,hm,z⟩,dm,λ j a ha=>by
       by_cases ej:j=i
       ·simp only [if_pos ej] at ha;rw [ej];exact sb a ha
       ·simp only [if_neg ej] at ha;exact .inl ha,λ j hj=>by
       have ej:j≠i:=λ e=>by rw [e,hm] at hj;cases hj
       exact if_neg ej⟩
      have djn:∀ j,j≠i->∀ a∈fp0',a∉fps1 j:=λ j hj a ha hb=>by
       rcases sb a ha with z | z
       ·exact rep1.dj i j (vb1 hj) a z hb
       ·obtain ⟨xs,e⟩:=rep1.lsts hb
        rw [z] at e;cases e
      have rp:Rep M (ρ1.set i (some (z0,om))) σ H' (λ j=>if j=i then fp0' else fps1 j):=by
       refine ⟨λ j x c hj=>?_,λ j hj=>?_,λ j k hjk a ha hb=>?_,λ j a ha z=>?_,λ j hj a ha=>?_,λ a z=>dm a (rep1.zd a z),by rw [jc5];exact rep1.len,λ j x c hj hc=>?_,λ a z=>dm a (rep1.h0 a z),rep1.iov⟩
       ·by_cases ej:j=i
        ·subst ej
         rw [jb5 hi] at hj
         cases hj
         refine ⟨v0,hσ,?_⟩
         rw [if_pos rfl]
         exact Own.full _ _ _ oz
        ·rw [ja9 (vb1 ej)] at hj
         obtain ⟨w,hw,ow⟩:=rep1.own j x c hj
         refine ⟨w,hw,?_⟩
         rw [if_neg ej]
         by_cases hmj:M.Ms j=true
         ·have hd:=rep1.msf j x c hmj hj
          subst hd
          exact Own.full _ _ _ (Own.move (S:=λ a=>a∈fps1 i) (Z:=λ _=>True) (Z':=λ _=>True) kp (λ a ha=>⟨trivial,rep1.lsts ha⟩) (λ _ _ n=>n) x om w _ (λ a ha hb=>rep1.dj j i ej a ha hb) (Own.full _ _ _ ow))
         ·refine Own.move (S:=λ a=>a∈fps1 i) kp (λ a ha=>⟨.inr ⟨i,λ z=>(by rw [hal j i z] at hm;cases hm),ha⟩,rep1.lsts ha⟩) (λ a hd nz z=>?_) x c w _ (λ a ha hb=>rep1.dj j i ej a ha hb) ow
          rcases z with z | ⟨k,nk,z⟩
          ·exact nz (.inl z)
          ·by_cases ek:k=i
           ·simp only [if_pos ek] at z
            rcases sb a z with z | z
            ·exact nz (.inr ⟨k,nk,by rw [ek];exact z⟩)
            ·exact hd z
           ·simp only [if_neg ek] at z;exact nz (.inr ⟨k,nk,z⟩)
       ·by_cases ej:j=i
        ·subst ej;exact absurd (jb5 hi) (hj _)
        ·rw [if_neg ej]
         exact rep1.non j λ p hp=>hj p (by rw [ja9 (vb1 ej)];exact hp)
       ·by_cases e1:j=i
        ·by_cases e2:k=i
         ·exact hjk (e1.trans e2.symm)
         ·rw [if_pos e1] at ha;rw [if_neg e2] at hb;exact djn k e2 a ha hb
        ·rw [if_neg e1] at ha
         by_cases e2:k=i
         ·rw [if_pos e2] at hb;exact djn j e1 a hb ha
         ·rw [if_neg e2] at hb;exact rep1.dj j k hjk a ha hb
       ·by_cases ej:j=i
        ·rw [if_pos ej] at ha;exact nz0 a ha z
        ·rw [if_neg ej] at ha;exact rep1.zo j a ha z
       ·have ej:j≠i:=λ e=>by rw [e,hm] at hj;cases hj
        rw [if_neg ej] at ha
        exact rep1.fr j hj a ha
       ·by_cases ej:j=i
        ·subst ej
         rw [jb5 hi] at hc
         cases hc
         rfl
        ·rw [ja9 (vb1 ej)] at hc
         exact rep1.msf j x c hj hc
      have ag:Agr M ρ1 (ρ1.set i (some (z0,om))):=⟨λ j hj=>ja9 (λ e=>by rw [<- e,hm] at hj;cases hj),by rw [jc5]⟩
      refine q v H' _ fp (k1.trans kd) (g1.trans ag) rp (oy.weak λ a h=>?_) ⟨λ a ha=>back a (hf a ha).1,λ a ha z=>?_⟩
      ·rcases h with (h | ⟨j,nj,h⟩) | h
       ·by_cases hai:a∈fps1 i
        ·exact absurd h (rep1.zo i a hai)
        ·exact .inl (.inl ⟨.inl h,hai⟩)
       ·by_cases ej:j=i
        ·simp only [if_pos ej] at h;exact .inl (.inr h)
        ·simp only [if_neg ej] at h
         exact .inl (.inl ⟨.inr ⟨j,nj,h⟩,λ z=>rep1.dj j i ej a h z⟩)
       ·exact .inr h
      ·rcases z with z | ⟨j,z⟩
       ·exact rep1.zd a z (hf a ha).1
       ·by_cases ej:j=i
        ·simp only [if_pos ej] at z;exact (hf a ha).2 (.inr z)
        ·simp only [if_neg ej] at z
         obtain ⟨xs,e⟩:=rep1.lsts z
         rw [(hf a ha).1] at e;cases e
end
section
variable {prog:va8}{w:vb6}{A:vb8}{E:va0->va1->Prop}{s:va1}
structure ZApart (zz ti to p1 p2 q1 q2:Addr):Prop where
 ne1:ti≠zz
 ne2:to≠zz
 ne3:p1≠zz
 ne4:p2≠zz
 ne5:ti≠to
 ne6:ti≠p1
 ne7:ti≠p2
 ne8:to≠p1
 ne9:to≠p2
 nea:p1≠p2
 neb:q1≠zz
 nec:q1≠to
 ned:q1≠p1
 nee:q1≠p2
 nef:q2≠zz
 neg:q2≠to
 neh:q2≠p1
 nei:q2≠p2
section
variable {zz ti to p1 p2 q1 q2:Addr}{n1 n2:Nat}{us vs:Array va0}{u v a b:va0}
end
end
section
variable {X:Cx}{pins:List (Addr×Obj)}{σ:St}{H:Hp}{s:va1}{h':Heap}
theorem qdb {fp:List Addr}{a:Addr}{o:HO}{t':Nat} (I:Inv X pins σ H s) (k:∀ b u,b∉fp->s.heap.get? b=some u->h'.get? b=some u) (hf:∀ b∈fp,FpOk X pins H b) (ha:s.heap.objs.size<=a) (new:zwz X.prog X.w (upd H a o) h' a o):
  Inv X pins σ (upd H a o) { s with heap:=h',toks:=t' }:=by
 have hn:H a=none:=I.hok.fresh ha
 have nfp:∀ b u,H b=some u->b∉fp:=λ b u e z=>by rw [(hf b z).1] at e;cases e
 have up:∀ b u,H b=some u->upd H a o b=some u:=λ b u e=>by rw [zqn (λ z=>by rw [z,hn] at e;cases e)];exact e
 refine I.step (g':=s.gens) (d':=s.drawn) (ch:=fp) (λ b hb=>?_) (λ b u _ _ hc e _=>k b u hc e) (λ b u _ _ hc e _=>⟨u.slots,k b u hc e⟩) (λ b u _ e n=>?_) (λ b u hc e=>⟨u,k b u hc e⟩) (λ b xs e=>up b _ e) (λ b _ _ e=>up b _ e) (λ b ps e=>⟨#[],by rw [up b _ e];simp⟩) (λ m hm=>?_) (λ b u e=>?_) I.bare
 ·obtain ⟨_,f1,_,f3,f4,f5⟩:=hf b hb
  exact ⟨f3,f1,f4,f5⟩
 ·rw [zqn (λ z=>by rw [z] at e;exact absurd (va3 e) (Nat.not_lt.mpr ha))];exact n
 ·obtain ⟨u,es,ep,ho,r⟩:=hm
  exact ⟨u,es,ep,k _ u (λ z=>(hf _ z).2.1 rfl) ho,r⟩
 ·by_cases eb:b=a
  ·subst eb
   rw [zqo] at e
   cases e
   exact new
  ·rw [zqn eb] at e
   refine (I.hok b u e).stay (λ c v hc q=>k c v ?_ q) (λ c q=>up c _ q) λ c xs q=>up c _ q
   rcases hc with z | z
   ·rw [z];exact nfp b u e
   ·exact nfp c _ z
theorem zyb {fp:List Addr}{t':Nat} (I:Inv X pins σ H s) (k:∀ b u,b∉fp->s.heap.get? b=some u->h'.get? b=some u) (hf:∀ b∈fp,FpOk X pins H b):Inv X pins σ H { s with heap:=h',toks:=t' }:=by
 have nfp:∀ b u,H b=some u->b∉fp:=λ b u e z=>by rw [(hf b z).1] at e;cases e
 refine I.step (g':=s.gens) (d':=s.drawn) (ch:=fp) (λ b hb=>?_) (λ b u _ _ hc e _=>k b u hc e) (λ b u _ _ hc e _=>⟨u.slots,k b u hc e⟩) (λ _ _ _ _ n=>n) (λ b u hc e=>⟨u,k b u hc e⟩) (λ _ _ e=>e) (λ _ _ _ e=>e) (λ b ps e=>⟨#[],by rw [e];simp⟩) (λ m hm=>?_) (λ b u e=>?_) I.bare
 ·obtain ⟨_,f1,_,f3,f4,f5⟩:=hf b hb
  exact ⟨f3,f1,f4,f5⟩
 ·obtain ⟨u,es,ep,ho,r⟩:=hm
  exact ⟨u,es,ep,k _ u (λ z=>(hf _ z).2.1 rfl) ho,r⟩
 ·refine (I.hok b u e).stay (λ c v hc q=>k c v ?_ q) (λ _ q=>q) λ _ _ q=>q
  rcases hc with z | z
  ·rw [z];exact nfp b u e
  ·exact nfp c _ z
end
def ItRv (K:Frag) (a:Addr) (n:Nat):It:=
 ⟨λ i H=>i < n/\∃ xs x,SqL K H a xs/\xs[n - 1 - i]?=some x,λ i H x H'=>H'=H/\∀ xs,SqL K H a xs->xs[n - 1 - i]?=some x,λ i _=>n<=i⟩
theorem qgz {P:va8}{w:vb6}{K:Frag}{tg:Expr} (a it:Addr) (n:Nat):Turn P w K tg (ItRv K a n) [it] it (λ i h=>i<=n/\h.IsRevIter it a ((n:Int) - 1 - (i:Int))) where
 mem:=by simp
 obj:=λ i h st b hb=>by
  have e:b=it:=by simpa using hb
  subst e
  obtain ⟨_,o,e,c,d⟩:=st
  exact ⟨o,e,λ v z=>by rw [d] at z;cases z⟩
 keep:=λ i h h' st k=>⟨st.1,st.2.at λ o e=>k it (by simp) o e⟩
 item:=by
  intro X hP hw hK hc i pins s σ H E I hf st hg
  subst hP hw hK
  obtain ⟨hn,xs,x,hq,hx⟩:=hg
  obtain ⟨its,rv,p,hz⟩:=I.list hq
  obtain ⟨u,hu,ru⟩:=rv.get hx
  have st2:=st.2
  rw [show (n:Int) - 1 - (i:Int)=((n - 1 - i:Nat):Int) by omega] at st2
  refine wpAny_pyNext_rev_item st2 p.isList (x:=u) (by simpa using hu) λ h' st' sb=>?_
  have I1:Inv X pins σ H { s with heap:=h' }:=zyb (t':=s.toks) I (λ b o hb e=>(sb.2 b (λ z=>hb (by simp [z]))).trans e) hf
  obtain ⟨o,e,c,d⟩:=id st'
  refine ⟨u,rfl,qfp (s:={ s with heap:=h' }) e c d (by decide) ⟨x,H,I1,ru,⟨rfl,λ ys hy=>by rw [I.list_inj hy hq];exact hx⟩,⟨by omega,?_⟩,λ b hb=>(hf b hb).1⟩⟩
  rw [show (n:Int) - 1 - ((i + 1:Nat):Int)=((n - 1 - i:Nat):Int) - 1 by omega]
  exact st'
 done:=by
  intro X hP hw hK hc i pins s σ H E I hf st hg
  subst hP hw hK
  have hn:n<=i:=hg
  have st2:=st.2
  rw [show (n:Int) - 1 - (i:Int)=-1 by have:=st.1;omega] at st2
  exact wpAny_pyNext_rev_end (I.ok.hd hc) st2 λ h' eb=>⟨rfl,zyb (t':=s.toks) I (λ b o hb e=>eb b o (λ z=>hb (by simp [z])) e) hf⟩
 self:=λ _ _ _ _ _ st h=>wpAny_pyIter_revIter st.2 h
def ItZp (K:Frag) (a b:Addr):It:=
 ⟨λ i H=>∃ xs ys x y,SqL K H a xs/\SqL K H b ys/\xs[i]?=some x/\ys[i]?=some y,λ i H v H'=>∃ T x y,H T=none/\v=.ref T/\H'=upd H T (.tup [x,y])/\∀ xs ys,SqL K H a xs->SqL K H b ys->xs[i]?=some x/\ys[i]?=some y,λ i H=>∃ xs ys,SqL K H a xs/\SqL K H b ys/\(xs.length<=i\/ys.length<=i)⟩
theorem zge {h:Heap}{z TI TO i1 i2 l1 l2:Addr}{f0:va0}{a b c d:va0}{k1 k2:Nat}{xs ys:Array va0} (hTT:TI≠TO) (h12:i1≠i2) (hz:IsZip h z TI TO f0) (hTI:IsPair h TI a b) (hTO:IsPair h TO c d) (h1:h.IsListIter i1 l1 k1) (h2:h.IsListIter i2 l2 k2) (hl1:h.IsList l1 xs) (hl2:h.IsList l2 ys):ZipApart z TI TO i1 i2 l1 l2:=by
 obtain ⟨o1,e1,c1,_⟩:=h1
 obtain ⟨o2,e2,c2,_⟩:=h2
 obtain ⟨p1,q1,r1,_⟩:=hl1
 obtain ⟨p2,q2,r2,_⟩:=hl2
 have ne:∀ {x y:Addr}{o o':Obj}{n m:String},h.get? x=some o->h.get? y=some o'->o.cls=.type n->o'.cls=.type m->n≠m->x≠y:=λ {x y o o' n m} ex ey cx cy nm z=>by
  subst z
  rw [ex] at ey
  cases ey
  rw [cx] at cy
  injection cy with cy
  exact nm cy
 exact ⟨ne hTI hz rfl rfl (by decide),ne hTO hz rfl rfl (by decide),ne e1 hz c1 rfl (by decide),ne e2 hz c2 rfl (by decide),hTT,ne hTI e1 rfl c1 (by decide),ne hTI e2 rfl c2 (by decide),ne hTO e1 rfl c1 (by decide),ne hTO e2 rfl c2 (by decide),h12,
  ne q1 hz r1 rfl (by decide),ne q1 hTO r1 rfl (by decide),ne q1 e1 r1 c1 (by decide),ne q1 e2 r1 c2 (by decide),ne q2 hz r2 rfl (by decide),ne q2 hTO r2 rfl (by decide),ne q2 e1 r2 c1 (by decide),ne q2 e2 r2 c2 (by decide)⟩
theorem qgx {P:va8}{w:vb6}{K:Frag}{es:List Expr}{k:Nat}{pos:Pos} (l1 l2 z TI TO i1 i2:Addr) (hTT:TI≠TO) (h12:i1≠i2):
  Turn P w K (.Tuple es k pos) (ItZp K l1 l2) [z,TI,TO,i1,i2] z (λ i h=>IsZip h z TI TO .none/\IsPair h TI (.ref i1) (.ref i2)/\(∃ p q,IsPair h TO p q)/\h.IsListIter i1 l1 i/\h.IsListIter i2 l2 i) where
 mem:=by simp
 obj:=λ i h st b hb=>by
  obtain ⟨hz,hTI,⟨p,q,hTO⟩,⟨o1,e1,_,d1⟩,⟨o2,e2,_,d2⟩⟩:=st
  simp only [jb2,jg0,or_false] at hb
  rcases hb with rfl | rfl | rfl | rfl | rfl
  ·exact ⟨_,hz,λ v z=>by cases z⟩
  ·exact ⟨_,hTI,λ v z=>by cases z⟩
  ·exact ⟨_,hTO,λ v z=>by cases z⟩
  ·exact ⟨o1,e1,λ v z=>by rw [d1] at z;cases z⟩
  ·exact ⟨o2,e2,λ v z=>by rw [d2] at z;cases z⟩
 keep:=λ i h h' st k=>by
  obtain ⟨hz,hTI,⟨p,q,hTO⟩,h1,h2⟩:=st
  exact ⟨k z (by simp) _ hz,k TI (by simp) _ hTI,⟨p,q,k TO (by simp) _ hTO⟩,h1.at λ o x=>k i1 (by simp) o x,h2.at λ o x=>k i2 (by simp) o x⟩
 item:=by
  intro X hP hw hK hc i pins s σ H E I hf st hg
  subst hP hw hK
  obtain ⟨xs,ys,x,y,hq1,hq2,hx,hy⟩:=hg
  obtain ⟨its1,rv1,p1,hz1⟩:=I.list hq1
  obtain ⟨its2,rv2,p2,hz2⟩:=I.list hq2
  obtain ⟨u1,hu1,ru1⟩:=rv1.get hx
  obtain ⟨u2,hu2,ru2⟩:=rv2.get hy
  obtain ⟨hz,hTI,⟨p,q,hTO⟩,h1,h2⟩:=st
  have D:=zge hTT h12 hz hTI hTO h1 h2 p1.isList p2.isList
  refine wpAny_pyNext_zip_item D hz hTI hTO h1 h2 p1.isList p2.isList (x:=u1) (y:=u2) (by simpa using hu1) (by simpa using hu2) λ h' a1 a2 a3 a4 a5 a6 hk=>⟨_,rfl,?_⟩
  refine wpAny_letOwnedTupleGo_zip a1 λ h2' hz' hs'=>?_
  have hn:H s.heap.objs.size=none:=I.hok.fresh (jb8 _)
  have hs0:s.heap.objs.size≠z:=jh3 (va3 hz)
  have I1:Inv X pins σ (upd H s.heap.objs.size (.tup [x,y])) { s with heap:=h2',toks:=s.toks }:=by
   refine qdb (fp:=[z,TI,TO,i1,i2]) I (λ b u hb e=>(hs'.2 b (λ z=>hb (by simp [z]))).trans (hk b u (λ z=>hb (by simp [z])) (λ z=>hb (by simp [z])) (λ z=>hb (by simp [z])) (λ z=>hb (by simp [z])) e)) hf (jb8 _) ?_
   exact ⟨jd4 (by decide:2<=1000) (by decide),_,.cons ru1 (.cons ru2 .nil),⟨_,(hs'.2 _ hs0).trans a5,rfl,_,rfl⟩⟩
  refine ⟨.ref s.heap.objs.size,_,I1,rfl,⟨_,x,y,hn,rfl,rfl,λ xs' ys' e1 e2=>⟨by rw [I.list_inj e1 hq1];exact hx,by rw [I.list_inj e2 hq2];exact hy⟩⟩,⟨hz',(hs'.2 _ D.TIz).trans (hk _ _ D.TIz D.TITO D.TIi1 D.TIi2 hTI),⟨_,_,(hs'.2 _ D.TOz).trans a2⟩,a3.at λ o e=>(hs'.2 _ D.i1z).trans e,a4.at λ o e=>(hs'.2 _ D.i2z).trans e⟩,λ b hb=>?_⟩
  have hb':=(hf b hb).1
  have lt:b < s.heap.objs.size:=by
   simp only [jb2,jg0,or_false] at hb
   rcases hb with rfl | rfl | rfl | rfl | rfl
   ·exact va3 hz
   ·exact va3 hTI
   ·exact va3 hTO
   ·obtain ⟨_,e,_⟩:=h1;exact va3 e
   ·obtain ⟨_,e,_⟩:=h2;exact va3 e
  rw [zqn (jd2 lt)]
  exact hb'
 done:=by
  intro X hP hw hK hc i pins s σ H E I hf st hg
  subst hP hw hK
  obtain ⟨xs,ys,hq1,hq2,hend⟩:=hg
  obtain ⟨its1,rv1,p1,hz1⟩:=I.list hq1
  obtain ⟨its2,rv2,p2,hz2⟩:=I.list hq2
  obtain ⟨hz,hTI,⟨p,q,hTO⟩,h1,h2⟩:=st
  have D:=zge hTT h12 hz hTI hTO h1 h2 p1.isList p2.isList
  have r1:=rv1.length
  have r2:=rv2.length
  refine wpAny_pyNext_zip_end (I.ok.hd hc) D hz hTI hTO h1 h2 p1.isList p2.isList ?_ λ h' hk=>⟨rfl,zyb (t':=s.toks) I (λ b o hb e=>hk b o (λ z=>hb (by simp [z])) (λ z=>hb (by simp [z])) (λ z=>hb (by simp [z])) (λ z=>hb (by simp [z])) e) hf⟩
  rcases hend with h | h
  ·exact .inl (jm3 (by simp;omega))
  ·exact .inr (jm3 (by simp;omega))
 self:=λ _ _ _ _ _ st h=>wpAny_pyIter_zip st.1 h
section
variable {X:Cx}{tg:Expr}
def iRev (K:Frag) (ta:TA):TI:=λ σ H R=>ta σ H λ vs H1=>∃ a xs,vs=[.ref a]/\SqL K H1 a xs/\R (ItRv K a xs.length) H1
def iZip (K:Frag) (ta:TA):TI:=λ σ H R=>ta σ H λ vs H1=>∃ a b xs ys,vs=[.ref a,.ref b]/\(SqL K H1 a xs/\SqL K H1 b ys/\R (ItZp K a b) H1)
theorem qn1 {a:Expr}{ta:TA}{p pos:Pos} (hg:Gl X "reversed") (hm:X.mg "reversed" = none) (ha:PA X [a] ta) (hs:va4 [a] X.env=[(false,eval a X.env)]):PI X tg (.Call (.Name "reversed" p) [a] [] pos) (iRev X.K ta):=by
 intro pins s σ H R I h
 refine Call_ (zpd I hg hm boot_reversed (vc3 (thn (ha pos pins s σ H _ I h) λ us s1 ⟨vs,H1,I1,r1,q1⟩=>?_) hs rfl))
 obtain ⟨b,xs,e,hq,q⟩:=q1
 subst e
 cases r1 with
 | cons r rr=>
  cases rr
  cases r
  obtain ⟨its,rv,pl,hz⟩:=I1.list hq
  have hl:=rv.length
  refine call_reversed_list pl.isList ?_
  have hT:(s1.heap.push (revObj b ((its.toArray.size:Int) - 1))).IsRevIter s1.heap.objs.size b ((its.toArray.size:Int) - 1):=⟨_,vb0 _ rfl,rfl,rfl⟩
  refine wpAny_pyIter_revIter (s:={ s1 with heap:=s1.heap.push (revObj b ((its.toArray.size:Int) - 1)) }) hT ?_
  refine ⟨s1.heap.objs.size,[s1.heap.objs.size],_,_,H1,rfl,I1.kept (t':=s1.toks) λ b o e=>va5 _ e,qgz b _ xs.length,⟨jh5 _,?_⟩,λ c hc=>?_,q⟩
  ·rw [show (xs.length:Int) - 1 - ((0:Nat):Int)=(its.toArray.size:Int) - 1 by simp;omega]
   exact hT
  ·have e:c=s1.heap.objs.size:=by simpa using hc
   subst e
   exact I1.fpOk (jb8 _) (I1.hok.fresh (jb8 _))
theorem qnz {a b:Expr}{ta:TA}{es:List Expr}{k:Nat}{tp p pos:Pos} (hg:Gl X "zip") (hm:X.mg "zip" = none) (ha:PA X [a,b] ta) (hs:va4 [a,b] X.env=[(false,eval a X.env),(false,eval b X.env)]) (hs2:va4 [b] X.env=[(false,eval b X.env)]):
  PI X (.Tuple es k tp) (.Call (.Name "zip" p) [a,b] [] pos) (iZip X.K ta):=by
 intro pins s σ H R I h
 refine Call_ (zpd I hg hm boot_zip (vc3 (thn (ha pos pins s σ H _ I h) λ us s1 ⟨vs,H1,I1,r1,q1⟩=>?_) (by rw [hs,hs2]) (by rw [hs2];rfl)))
 obtain ⟨c,d,xs,ys,e,hq1,hq2,q⟩:=q1
 ·subst e
  cases r1 with
  | cons r rr=>
   cases rr with
   | cons r' rr=>
    cases rr
    cases r
    cases r'
    obtain ⟨its1,rv1,p1,hz1⟩:=I1.list hq1
    obtain ⟨its2,rv2,p2,hz2⟩:=I1.list hq2
    refine call_zip_2 p1.isList p2.isList λ h' hz hTI hTO h1 h2 hsz hk=>?_
    refine wpAny_pyIter_zip (s:={ s1 with heap:=h' }) hz ?_
    refine ⟨s1.heap.objs.size + 4,[s1.heap.objs.size + 4,s1.heap.objs.size + 2,s1.heap.objs.size + 3,s1.heap.objs.size,s1.heap.objs.size + 1],_,_,H1,rfl,I1.kept (t':=s1.toks) hk,qgx c d _ _ _ _ _ (jd2 (jh0 _)) (jd2 (jh0 _)),⟨hz,hTI,⟨_,_,hTO⟩,h1,h2⟩,λ x hx=>?_,q⟩
    have:s1.heap.objs.size<=x:=by
     simp only [jb2,jg0,or_false] at hx
     rcases hx with rfl | rfl | rfl | rfl | rfl
     ·exact jk5 _ _
     ·exact jk5 _ _
     ·exact jk5 _ _
     ·exact jb8 _
     ·exact jk5 _ _
    exact I1.fpOk this (I1.hok.fresh this)
end
inductive Vw where
 | rev | enm | zp
def zipL:List PV->List PV->List PV
 | x::xs,y::ys=>.tup [x,y]::zipL xs ys
 | _,_=>[]
def zzx:Vw->List PV->Option (List PV)
 | .rev,[.lst xs]=>some xs.reverse
 | .zp,[.lst xs,.lst ys]=>some (zipL xs ys)
 | _,_=>none
def qmf (v:Vw) (K:Frag) (ws:List V) (H:Hp) (R:It->Hp->Prop):Prop:=match v with
 | .rev=>∃ a xs,ws=[.ref a]/\SqL K H a xs/\R (ItRv K a xs.length) H
 | .enm=>False
 | .zp=>∃ a b xs ys,ws=[.ref a,.ref b]/\(SqL K H a xs/\SqL K H b ys/\R (ItZp K a b) H)
def iVw (v:Vw) (K:Frag) (ta:TA):TI:=λ σ H R=>ta σ H λ ws H1=>qmf v K ws H1 R
theorem qa9:∀ (xs ys:List PV),(zipL xs ys).length=min xs.length ys.length
 | [],ys=>by simp [zipL]
 | x::xs,[]=>by simp [zipL]
 | x::xs,y::ys=>by rw [zipL,jb4,qa9 xs ys,jb4,jb4];omega
theorem qba:∀ (xs ys:List PV) (i:Nat) (x y:PV),xs[i]?=some x->ys[i]?=some y->(zipL xs ys)[i]?=some (.tup [x,y])
 | [],ys,i,x,y,h,_=>by simp at h
 | a::xs,[],i,x,y,_,h=>by simp at h
 | a::xs,b::ys,0,x,y,h,h'=>by simp at h h';subst h h';simp [zipL]
 | a::xs,b::ys,i + 1,x,y,h,h'=>by
  rw [zipL,jg9]
  exact qba xs ys i x y (by simpa using h) (by simpa using h')
theorem Own.growH {K:Frag}{H H':Hp}{Z:Addr->Prop}{x:PV}{v:V} (k:∀ a o,H a=some o->H' a=some o) (h:Own K H Z x 0 v []):Own K H' Z x 0 v []:=
 Own.move (S:=λ _=>False) (λ a o h _=>k a o h) (λ _ z=>z.elim) (λ _ _ n=>n) x 0 v [] (λ _ z=>nomatch z) h
theorem zja {K:Frag}{H:Hp}{Z:Addr->Prop}{xs:List PV}{v:V} (o:Own K H Z (.lst xs) 0 v []):∃ a ws,v=.ref a/\SqL K H a ws/\OwnL K H Z xs 0 ws []:=by
 rw [Own] at o
 obtain ⟨b,ws,e,⟨_,hr,_,ol⟩ | ⟨h,_⟩⟩:=o
 ·exact ⟨b,ws,e,.inl (.inl hr.1),ol⟩
 ·exact absurd rfl h
theorem qhn {K:Frag}{H:Hp}{Z:Addr->Prop}{x y:PV}{u v:V}{T:Addr} (hT:H T=some (.tup [u,v])) (ox:Own K H Z x 0 u []) (oy:Own K H Z y 0 v []):Own K H Z (.tup [x,y]) 0 (.ref T) []:=by
 rw [Own]
 refine ⟨T,_,rfl,hT,?_⟩
 rw [qez,OwnL]
 refine ⟨u,[v],[],[],rfl,rfl,(λ _ z=>nomatch z),ox,?_⟩
 rw [OwnL]
 exact ⟨v,[],[],[],rfl,rfl,(λ _ z=>nomatch z),oy,by rw [OwnL];exact ⟨rfl,rfl⟩⟩
theorem OwnL.one {K:Frag}{H:Hp}{Z:Addr->Prop}{x:PV}{ws:List V} (o:OwnL K H Z [x] 0 ws []):∃ v,ws=[v]/\Own K H Z x 0 v []:=by
 rw [OwnL] at o
 obtain ⟨v,r,f1,f2,rfl,ef,_,o1,o2⟩:=o
 obtain ⟨rfl,rfl⟩:f1=[]/\f2=[]:=by simpa using ef.symm
 rw [OwnL] at o2
 exact ⟨v,by rw [o2.1],o1⟩
theorem OwnL.two {K:Frag}{H:Hp}{Z:Addr->Prop}{x y:PV}{ws:List V} (o:OwnL K H Z [x,y] 0 ws []):∃ u v,ws=[u,v]/\Own K H Z x 0 u []/\Own K H Z y 0 v []:=by
 rw [OwnL] at o
 obtain ⟨u,r,f1,f2,rfl,ef,_,o1,o2⟩:=o
 obtain ⟨rfl,rfl⟩:f1=[]/\f2=[]:=by simpa using ef.symm
 obtain ⟨v,rfl,o3⟩:=o2.one
 exact ⟨u,v,rfl,o1,o3⟩
theorem OwnL.mono0 {K:Frag}{H H':Hp}{Z Z':Addr->Prop} (h:∀ x v,Own K H Z x 0 v []->Own K H' Z' x 0 v []):∀ {xs:List PV}{ws:List V},OwnL K H Z xs 0 ws []->OwnL K H' Z' xs 0 ws []
 | [],ws,o=>by rw [OwnL] at o ⊢;exact o
 | x::xs,ws,o=>by
  rw [OwnL] at o
  obtain ⟨u,r,f1,f2,rfl,ef,_,o1,o2⟩:=o
  obtain ⟨rfl,rfl⟩:f1=[]/\f2=[]:=by simpa using ef.symm
  rw [OwnL]
  exact ⟨u,r,[],[],rfl,rfl,(λ _ z=>nomatch z),h _ _ o1,OwnL.mono0 h o2⟩
theorem qme {v:Vw}{ps els:List PV}{ws:List V}{K:Frag}{H:Hp}{Z:Addr->Prop} (he:zzx v ps=some els) (o:OwnL K H Z ps 0 ws []):∃ J,(∀ R:It->Hp->Prop,R J H->qmf v K ws H R)/\∀ H Z,OwnL K H Z ps 0 ws []->∀ i,(i < els.length->J.go i H)/\(els.length<=i->J.stop i H) /\
  (i < els.length->∀ x H',J.yld i H x H'->(∀ a o,H a=some o->H' a=some o)/\∃ y,els[i]?=some y/\Own K H' Z y 0 x []):=by
 unfold zzx at he
 split at he
 ·rename_i xs
  cases he
  obtain ⟨v,rfl,o1⟩:=o.one
  obtain ⟨a,us,rfl,sq,ol⟩:=zja o1
  refine ⟨ItRv K a us.length,λ R r=>⟨a,us,rfl,sq,r⟩,λ H' Z' o' i=>?_⟩
  obtain ⟨v',e,o1'⟩:=o'.one
  cases e
  obtain ⟨a',us',e,sq',ol'⟩:=zja o1'
  cases e
  have hl:=ol.length
  have hl':=ol'.length
  rw [je7]
  refine ⟨λ h=>⟨by omega,us',us'[us.length - 1 - i]'(by omega),sq',by simp⟩,λ h=>?_,λ h x H2 y=>?_⟩
  ·show us.length<=i
   omega
  ·obtain ⟨rfl,e2⟩:=y
   refine ⟨λ _ _ h=>h,?_⟩
   obtain ⟨z,ez,oz⟩:=ol'.get (e2 us' sq')
   refine ⟨z,?_,oz⟩
   rw [jm8 (by omega),<- ez,hl]
 ·rename_i xs ys
  cases he
  obtain ⟨v1,v2,rfl,o1,o2⟩:=o.two
  obtain ⟨a,us,rfl,sq,ol⟩:=zja o1
  obtain ⟨b,vs,rfl,sq2,ol2⟩:=zja o2
  refine ⟨ItZp K a b,λ R r=>⟨a,b,us,vs,rfl,sq,sq2,r⟩,λ H' Z' o' i=>?_⟩
  obtain ⟨v1',v2',e,o1',o2'⟩:=o'.two
  cases e
  obtain ⟨a',us',e,sq',ol'⟩:=zja o1'
  cases e
  obtain ⟨b',vs',e,sq2',ol2'⟩:=zja o2'
  cases e
  have hl1:=ol'.length
  have hl2:=ol2'.length
  rw [qa9]
  refine ⟨λ h=>⟨us',vs',us'[i]'(by omega),vs'[i]'(by omega),sq',sq2',by simp,by simp⟩,λ h=>⟨us',vs',sq',sq2',by omega⟩,λ h x H2 y=>?_⟩
  obtain ⟨T,u,w,hT,rfl,rfl,e2⟩:=y
  have kx:∀ a o,H' a=some o->upd H' T (.tup [u,w]) a=some o:=λ a o h=>by rw [zqn (λ z=>by rw [z,hT] at h;cases h)];exact h
  obtain ⟨e3,e4⟩:=e2 us' vs' sq' sq2'
  obtain ⟨z1,ez1,oz1⟩:=ol'.get e3
  obtain ⟨z2,ez2,oz2⟩:=ol2'.get e4
  exact ⟨kx,.tup [z1,z2],qba _ _ _ _ _ ez1 ez2,qhn zqo (oz1.growH kx) (oz2.growH kx)⟩
 ·cases he
section
variable {is:List Nat}{M:Fm}{ρ ρ':Rho}{σ σ':St}{H H' H'':Hp}{fps fps' fps'':Fps}{vs vs':List Nat}
def zjt (v:Vw) (fa:Fa) (vs:List Nat) (asg:PV->Rho->Option Rho) (body:Fs):Fs:=λ ρ=>match fa ρ with
 | .ok (xs,ρ1)=>(match zzx v (xs.map (·.1)) with
  | some els=>zxu asg body els (zqk (if zzy xs=true then om else 0) vs ρ1)
  | none=>.no)
 | .exc c=>.exc c
 | .no=>.no
def zzw (v:Vw) (fa:Fa) (k:Nat) (asg:PV->Rho->Option Rho) (test:Fb) (elt:Fx):Fx:=λ ρ=>match fa ρ with
 | .ok (xs,ρ1)=>(match zzx v (xs.map (·.1)) with
  | some els=>(zxy k asg test elt els ρ1 []).bindN λ (acc,ρ2)=>zzk acc ρ2
  | none=>.no)
 | .exc c=>.exc c
 | .no=>.no
theorem Rep.seens {xs:List (PV×Nat)}{ws:List V}{fp:List Addr} (rep:Rep M ρ σ H fps) (k:KD M H fps H' fps') (g:Agr M ρ ρ') (r':Rep M ρ' σ H' fps') (o:Tmps M.K H' (Zv M vs fps') xs ws fp) (t:Temp M vs H H' fps' fp)
  (hal:∀ i,M.al i=[]) (hv:∀ i∈vs,M.Ms i=false):∃ fps2,KS M H fps H' fps2/\Rep M (zqk (if zzy xs=true then om else 0) vs ρ') σ H' fps2/\OwnL M.K H' (Zf M fps2) (xs.map (·.1)) 0 ws []:=by
 unfold zqk
 cases ho:zzy xs with
 | true=>
  rw [if_pos rfl,if_pos rfl]
  refine ⟨fps',k.ks,r',?_⟩
  exact OwnL.freeze (λ _ z=>z) _ om ws fp (λ a ha=>t.ndj a ha) (OwnL.full _ ws fp (o.all (zkh ho)))
 | false=>
  rw [if_neg jc6,if_neg (by decide)]
  exact ⟨zyd vs fps',k.ks.cool,r'.cool hal hv,(o.cold λ a ha z=>t.ndj a ha z.zf).weak λ a h=>zki h⟩
theorem qdr {v:Vw}{g:TG}{asg:PV->Rho->Option Rho}{body:Fs}{fa:Fa}{D:Ends} (hal:∀ i,M.al i=[]) (hv:∀ i∈vs,M.Ms i=false) (hg:GOk M [] is g asg) (hq:tS M (zjt v fa vs asg body) D σ H):tFor (iVw v M.K (tL M fa vs)) g (tS M body) D σ H:=by
 obtain ⟨ρ,fps,rep,q⟩:=hq
 refine ⟨ρ,fps,rep,?_⟩
 unfold zjt at q
 cases ef:fa ρ with
 | no=>rw [ef] at q;exact q
 | exc c=>rw [ef] at q;exact λ H' fps' k=>q _ H' fps' k.ks
 | ok p=>
  obtain ⟨xs,ρ1⟩:=p
  rw [ef] at q
  intro ws H1 fps1 f1 k1 g1 rep1 o1 t1
  dsimp only at q
  cases ee:zzx v (xs.map (·.1)) with
  | none=>rw [ee] at q;exact q.elim
  | some els=>
   rw [ee] at q
   obtain ⟨fps2,k2,r2,o2⟩:=Rep.seens rep k1 g1 rep1 o1 t1 hal hv
   obtain ⟨J,hpre,hJ⟩:=qme ee o2
   refine hpre _ ?_
   exact zpi (Pq:=λ H fps=>OwnL M.K H (Zf M fps) (xs.map λ (p:PV×Nat)=>p.1) 0 ws []) (els:=els) hg (λ r k o=>o.mono0 λ x v h=>k.stay0 r h) (λ {H fps i} o h=>(hJ H _ o i).1 h) (λ {H fps i} o h=>(hJ H _ o i).2.1 h) (λ {ρ σ H fps i x H'} _ o h y=>(hJ H _ o i).2.2 h x H' y) r2 o2 (RsOk.from k2 q)
theorem qg2 {v:Vw}{g:TG}{is vI vE vo:List Nat}{asg:PV->Rho->Option Rho}{test:Fb}{elt:Fx}{fa:Fa}{k n:Nat}{Q:VK}{P:Fm->Prop}
  (hn:σ.length=n) (hP:∀ D,P (M.comp D n vI)) (hal:∀ i,∀ j∈M.al i,M.Ms j=false) (hvI:∀ i∈vI,M.Ms i=false) (hvE:∀ i∈vE,M.Ms i=false) (his:∀ i∈is,n<=i) (hg:∀ D,GOk (M.comp D n vI) vI is g asg)
  (hvo:∀ i,i∈vE->i < n->i∈vo) (hvo2:∀ i∈vo,M.Ms i=false) (hq:tE M (zzw v fa k asg test elt) vo σ H Q):
  qai k (iVw v M.K (tL M fa vI)) g (λ σ H Q=>∃ M',P M'/\tT M' test σ H Q) (λ σ H Q=>∃ M',P M'/\tE M' elt vE σ H Q) σ H Q:=by
 obtain ⟨ρ,fps,rep,q⟩:=hq
 refine ⟨ρ,fps,rep,?_⟩
 unfold zzw at q
 cases ef:fa ρ with
 | no=>rw [ef] at q;exact q
 | exc c=>rw [ef] at q;exact q
 | ok p=>
  obtain ⟨xs,ρ1⟩:=p
  rw [ef] at q
  intro ws H1 fps1 f1 k1 g1 rep1 o1 t1
  dsimp only at q
  cases ee:zzx v (xs.map (·.1)) with
  | none=>rw [ee] at q;exact q.elim
  | some els=>
   rw [ee] at q
   have hl:n=ρ1.length:=by rw [rep1.len];exact hn.symm
   have o0:OwnL M.K H1 (Zv M vI fps1) (xs.map (·.1)) 0 ws []:=o1.cold λ a ha z=>t1.ndj a ha z.zf
   obtain ⟨J,hpre,hJ⟩:=qme ee o0
   refine hpre _ ?_
   have stay:∀ {D H' fps'},H1 D=none->KD M H1 fps1 H' fps'->OwnL M.K H' (Zv (M.plus [D]) vI fps') (xs.map (·.1)) 0 ws []:=λ hD k'=>o0.mono0 λ x v h=>KD.seen rep1 k' hD hvI h
   refine zyr (els:=els) hP hl hal hvI hvE his hg hvo hvo2 rep1 (λ {D H' fps' i} hD k' h=>(hJ H' _ (stay hD k') i).1 h) (λ {D H' fps' i} hD k' h=>(hJ H' _ (stay hD k') i).2.1 h) (λ {D H' fps' i x H''} hD k' h y=>(hJ H' _ (stay hD k') i).2.2 h x H'' y) ?_
   dsimp only at q
   cases ec:zxy k asg test elt els ρ1 [] with
   | no=>rw [ec] at q;exact q.elim
   | exc c=>rw [ec] at q;exact q.elim
   | ok p=>
    obtain ⟨acc,ρ2⟩:=p
    rw [ec] at q
    exact λ D ws H' fps' fpl k g r hD hD' tm hf=>zfx rep1 k1 g1 q k g r hD hD' tm hf
end
section
variable {X:Cx}{M:Fm}{f g:Fx}{fa:Fa}{vs vs':List Nat}{a b e:Expr}{es:List Expr}{pos p p2:Pos}{σ:St}{H:Hp}{Q:VK}
theorem qgv:∀ {xs:List V}{us:List va0},Vals xs us->Vals xs.reverse us.reverse
 | _,_,.nil=>.nil
 | _,_,.cons r rr=>by rw [jk0,jk0];exact (qgv rr).append (.cons r .nil)
theorem OwnL.snoc0 {K:Frag}{H:Hp}{Z:Addr->Prop}{x:PV}{v:V}:∀ {xs:List PV}{ws:List V},OwnL K H Z xs 0 ws []->Own K H Z x 0 v []->OwnL K H Z (xs++[x]) 0 (ws++[v]) []
 | [],ws,h,o=>by
  rw [OwnL] at h
  obtain ⟨rfl,_⟩:=h
  rw [jg7,jg7,OwnL]
  exact ⟨v,[],[],[],rfl,rfl,(λ _ z=>nomatch z),o,by rw [OwnL];exact ⟨rfl,rfl⟩⟩
 | y::xs,ws,h,o=>by
  rw [OwnL] at h
  obtain ⟨u,r,f1,f2,rfl,ef,_,o1,o2⟩:=h
  obtain ⟨rfl,rfl⟩:f1=[]/\f2=[]:=by simpa using ef.symm
  rw [jk6,jk6,OwnL]
  exact ⟨u,r++[v],[],[],rfl,rfl,(λ _ z=>nomatch z),o1,OwnL.snoc0 o2 o⟩
theorem OwnL.append0 {K:Frag}{H:Hp}{Z:Addr->Prop}{ys:List PV}{us:List V} (h2:OwnL K H Z ys 0 us []):∀ {xs:List PV}{ws:List V},OwnL K H Z xs 0 ws []->OwnL K H Z (xs++ys) 0 (ws++us) []
 | [],ws,h=>by
  rw [OwnL] at h
  obtain ⟨rfl,_⟩:=h
  exact h2
 | y::xs,ws,h=>by
  rw [OwnL] at h
  obtain ⟨u,r,f1,f2,rfl,ef,_,o1,o2⟩:=h
  obtain ⟨rfl,rfl⟩:f1=[]/\f2=[]:=by simpa using ef.symm
  rw [jk6,jk6,OwnL]
  exact ⟨u,r++us,[],[],rfl,rfl,(λ _ z=>nomatch z),o1,OwnL.append0 h2 o2⟩
theorem OwnL.rev {K:Frag}{H:Hp}{Z:Addr->Prop}:∀ {xs:List PV}{ws:List V},OwnL K H Z xs 0 ws []->OwnL K H Z xs.reverse 0 ws.reverse []
 | [],ws,h=>by
  rw [OwnL] at h
  obtain ⟨rfl,_⟩:=h
  rw [List.reverse_nil,OwnL];exact ⟨rfl,rfl⟩
 | y::xs,ws,h=>by
  rw [OwnL] at h
  obtain ⟨u,r,f1,f2,rfl,ef,_,o1,o2⟩:=h
  obtain ⟨rfl,rfl⟩:f1=[]/\f2=[]:=by simpa using ef.symm
  rw [jk0,jk0]
  exact OwnL.snoc0 (OwnL.rev o2) o1
def qe0:List (PV×Nat)->Option (PV×Nat)
 | [(.bl b,_)]=>some (.int (if b then 1 else 0),om)
 | [(.int i,_)]=>some (.int i,om)
 | _=>none
theorem qkf (hg:Gl X "int") (hm:X.mg "int" = none) (ha:PA X (e::es) (tL M fa vs)) (he:va4 (e::es) X.env=(false,eval e X.env)::va4 es X.env) (hpl:(vd4 pos (va4 es X.env)).any (·.1)=false):
  PE X (.Call (.Name "int" p) (e::es) [] pos) (tE M (zqb qe0 fa) vs):=by
 refine zqv (zyk qgl hg hm rfl ha (he:=he) (hpl:=hpl)) λ σ H Q h=>zwu (λ xs z c ws H fps fp Q ho tm nz zd lf=>?_) h
 unfold qe0 at ho
 split at ho
 ·cases ho
  obtain ⟨v,r,f1,f2,rfl,rfl,_,o1,h2⟩:=tm
  obtain ⟨rfl,rfl⟩:=h2
  rw [Own] at o1
  exact .inr ⟨_,by rw [o1.1],zxf lf⟩
 ·cases ho
  obtain ⟨v,r,f1,f2,rfl,rfl,_,o1,h2⟩:=tm
  obtain ⟨rfl,rfl⟩:=h2
  rw [Own] at o1
  exact .inl ⟨_,by rw [o1.1],zxf lf⟩
 ·cases ho
end
section
variable {M:Fm}{fa:Fa}{vs:List Nat}
def spM (K:Frag) (F:Fn):Sp:=λ ws H Q _=>∃ x0 v0 fp0,ws=[v0]/\Own K H (λ _=>True) x0 om v0 fp0/\(match F [x0] with
 | .ok (y,_,_)=>zjo y=true/\∀ v H',Keep (λ a=>a∈fp0) H H'->(∀ a,H a≠none->H' a≠none)->Own K H' (λ _=>True) y om v []->Q v H'
 | _=>False)
end
section
variable {X:Cx}{M:Fm}{f g:Fx}{vs vs':List Nat}{σ:St}{H:Hp}{Q:VK}
end
section
variable {pg:va8}{wd:vb6}{Ar:vb8}{Er:va0->va1->Prop}{st:va1}
end
section
variable {X:Cx}{M:Fm}{f:Fx}{vs:List Nat}{a:Expr}{pos p p2 pos2:Pos}
end
section
variable {prog:va8}{w:vb6}{A:vb8}{E:va0->va1->Prop}{s:va1}{a₀:Array Keyed}
end
section
variable {prog:va8}{w:vb6}{A:vb8}{E:va0->va1->Prop}{s:va1}
end
section
variable {X:Cx}{M:Fm}{fa:Fa}{vs:List Nat}{e:Expr}{es:List Expr}{pos p:Pos}
def qqf (ns:List Int):Prop:=ns.length < 64\/(ns.Pairwise (·<=·)/\ns.length<=va2)
instance (ns:List Int):Decidable (qqf ns):=inferInstanceAs (Decidable (_\/_))
theorem qgm:zzr X (.builtin "abs") (λ xs H Q=>∃ i:Int,xs=[.int i]/\Q (.int (if i < 0 then -i else i)) H):=by
 intro pins s σ H xs us Q I rv h
 obtain ⟨i,rfl,k⟩:=h
 obtain ⟨u,rfl,t,rfl⟩:=zjq rv
 exact call_abs_int λ u tk=>⟨.int _,H,I.tok _,⟨_,rfl⟩,k⟩
def qe1:List (PV×Nat)->Option (PV×Nat)
 | [(.int i,_)]=>some (.int (if i < 0 then -i else i),om)
 | _=>none
theorem qnj (hg:Gl X "abs") (hm:X.mg "abs" = none) (ha:PA X (e::es) (tL M fa vs)) (he:va4 (e::es) X.env=(false,eval e X.env)::va4 es X.env) (hpl:(vd4 pos (va4 es X.env)).any (·.1)=false):
  PE X (.Call (.Name "abs" p) (e::es) [] pos) (tE M (zqb qe1 fa) vs):=by
 refine zqv (zzc qgm hg hm rfl ha (he:=he) (hpl:=hpl)) λ σ H Q h=>zwu (λ xs z c ws H fps fp Q ho tm nz zd lf=>?_) h
 unfold qe1 at ho
 split at ho
 ·cases ho
  obtain ⟨v,r,f1,f2,rfl,rfl,_,o1,h2⟩:=tm
  obtain ⟨rfl,rfl⟩:=h2
  rw [Own] at o1
  exact ⟨_,by rw [o1.1],zxf lf⟩
 ·cases ho
def maxI:Int->List Int->Int
 | n,[]=>n
 | n,m::r=>maxI (if m > n then m else n) r
theorem zfm:∀ (r:List Int) (n:Int),maxI n r∈n::r
 | [],n=>ja3
 | m::r,n=>by
  have q:=zfm r (if m > n then m else n)
  show maxI (if m > n then m else n) r∈_
  rcases jb2.mp q with z | z
  ·rw [z]
   split <;> simp
  ·simp [z]
theorem qax:∀ (r:List Int) (n:Int),∀ a∈n::r,a<=maxI n r
 | [],n,a,h=>by
  have e:a=n:=by simpa using h
  rw [e];exact jp5 _
 | m::r,n,a,h=>by
  show a<=maxI (if m > n then m else n) r
  have q:=qax r (if m > n then m else n)
  have q1:=q _ ja3
  have q2:n<=(if m > n then m else n)/\m<=(if m > n then m else n):=by split <;> omega
  simp only [jb2] at h
  rcases h with z | z | z
  ·omega
  ·omega
  ·exact q a (ja0 _ z)
theorem qgi (hc:X.calm=true):zzr X (.builtin "max") (λ xs H Q=>∃ (q:Addr) (n:Int) (r:List Int),xs=[.ref q]/\SqL X.K H q ((n::r).map V.int)/\Q (.int (maxI n r)) H):=by
 intro pins s σ H xs us Q I rv h
 obtain ⟨q,n,r,rfl,hq,k0⟩:=h
 obtain ⟨u,rfl,rx⟩:=zjq rv
 cases rx
 obtain ⟨its,rv2,pl,hz⟩:=I.list hq
 obtain ⟨zs,rfl,ez⟩:=zvd rv2
 have e:(zs.map λ p=>Value.int p.1 p.2).toArray=ve1 zs.toArray:=by simp [ve1]
 rw [e] at pl
 have hsz:zs.toArray.size=zs.length:=by simp
 have h0:0 < zs.length:=by
  cases zs with
  | nil=>cases ez
  | cons _ _=>simp
 refine max_intList (I.ok.hd hc) pl.isList (by simpa using h0) λ v h' tk hv k=>?_
 obtain ⟨l1,l2⟩:=argBest_gt (vf0 zs.toArray) (zs.toArray.size - 1)
 obtain ⟨t,rfl⟩:=vi6 hv
 generalize argBest (λ i j=>decide (vf0 zs.toArray i > vf0 zs.toArray j)) (zs.toArray.size - 1)=b at *
 have num:∀ j,(hj:j < zs.length)->vf0 zs.toArray j=zs[j].1:=λ j hj=>by unfold vf0;simp [hj]
 have hm:vf0 zs.toArray b∈n::r:=by
  rw [num b (by omega),<- ez]
  exact jd5.mpr ⟨_,je2 _,rfl⟩
 have hg:∀ a∈n::r,a<=vf0 zs.toArray b:=λ a ha=>by
  rw [<- ez] at ha
  obtain ⟨z,hz',rfl⟩:=jd5.mp ha
  obtain ⟨j,hj,rfl⟩:=jf8 hz'
  rw [<- num j hj]
  exact l2 j (by omega)
 have eb:vf0 zs.toArray b=maxI n r:=Int.le_antisymm (qax r n _ hm) (hg _ (zfm r n))
 exact ⟨.int _,H,I.kept (t':=tk) k,⟨t,rfl⟩,by rw [eb];exact k0⟩
def zkx:List (PV×Nat)->Option (PV×Nat)
 | [(.lst xs,_)]=>match zkb xs with
  | some (n::r)=>some (.int (maxI n r),om)
  | _=>none
 | xs=>op2 (λ i j=>if j > i then j else i) xs
theorem qkc (hc:X.calm=true) (hg:Gl X "max") (hm:X.mg "max" = none) (ha:PA X (e::es) (tL M fa vs)) (he:va4 (e::es) X.env=(false,eval e X.env)::va4 es X.env) (hpl:(vd4 pos (va4 es X.env)).any (·.1)=false):
  PE X (.Call (.Name "max" p) (e::es) [] pos) (tE M (zqb zkx fa) vs):=by
 refine zqv (zzc ((qgj hc).or (qgi hc)) hg hm rfl ha (he:=he) (hpl:=hpl)) λ σ H Q h=>zwu (λ xs z c ws H fps fp Q ho tm nz zd lf=>?_) h
 unfold zkx at ho
 split at ho
 ·rename_i xs d
  split at ho
  ·rename_i n r eb
   cases ho
   obtain ⟨v,r',f1,f2,rfl,rfl,_,o1,h2⟩:=tm
   obtain ⟨rfl,rfl⟩:=h2
   obtain ⟨q,us,rfl,hs,ol⟩:=(cold (fp:=f1) o1 λ a ha=>nz a (jb0 _ ha)).coldL
   have:=zve eb ol
   subst this
   exact .inr ⟨q,n,r,rfl,.inl (.inl hs),zxf lf⟩
  ·cases ho
 ·exact .inl (qb1 ho tm lf)
end
def zbn (x:PV):Option Str:=match x with
 | .non=>some "None"
 | .bl b=>some (if b then "True" else "False")
 | .int i=>if i.natAbs.log2 < 1920 then some (toString i) else none
 | .str s=>some s
 | .emp=>some (PyData.shown (.dict []))
 | .lst xs=>match toD 20 (.lst xs) with
  | some D=>if D.showable=true/\D.shown.length<=va2 then some D.shown else none
  | none=>none
 | .tup xs=>match toD 20 (.tup xs) with
  | some D=>if D.showable=true/\D.shown.length<=va2 then some D.shown else none
  | none=>none
 | _=>none
def qc4:List (PV×Nat)->Option (PV×Nat)
 | [(x,_)]=>(zbn x).map λ s=>(.str s,om)
 | _=>none
section
variable {X:Cx}{M:Fm}{H:Hp}{σ:St}
def rStr (K:Frag):List V->Hp->VK->Prop:=λ ws H Q=>∃ x d v Z f T,ws=[v]/\Own K H Z x d v f/\zbn x=some T/\Q (.str T) H
theorem qcf {pins:List (Addr×Obj)}{s:va1}{Z:Addr->Prop}{x:PV}{d:Nat}{v:V}{f:List Addr}{D:vh1}{a:Addr}{Q:VK} (hu:X.A.units + 64 < vg9) (hg:X.A.guards=some []) (I:L2.Inv X pins σ H s) (o:Own X.K H Z x d v f) (hD:toD 20 x=some D) (hs:D.showable=true) (hz:D.shown.length<=va2) (r:RelV v (.ref a)) (q:Q (.str D.shown) H):vb3 (vb2 X.prog X.w) X.A (call (.type "str") [.ref a]) (EP X pins σ Q) X.xe s:=by
 obtain ⟨as,ra⟩:=zkl I 20 x d v f (.ref a) D hD o r
 have l:=zkt 20 x D hD
 exact PySem.str_of_reads ra hs (PyData.noDict_hsm (PyData.hasDict_of_canLay D l.1)) hg (by omega) (λ _ _ e=>e) (λ h' u tk hk=>⟨.str D.shown,H,I.kept (t':=tk) hk,⟨u,rfl⟩,q⟩) hz
theorem qik (hu:X.A.units + 64 < vg9) (hg:X.A.guards=some []):zzr X (.type "str") (rStr X.K):=by
 intro pins s σ H ws us Q I rv h
 obtain ⟨x,d,v,Z,f,T,rfl,o,hT,q⟩:=h
 cases rv with
 | cons r rr=>
  cases rr
  cases x with
  | non=>
   rw [Own] at o
   obtain ⟨rfl,_⟩:=o
   cases r
   cases hT
   exact P.str_of_none ⟨.str "None",H,I.tok _,⟨_,rfl⟩,q⟩
  | bl b=>
   rw [Own] at o
   obtain ⟨rfl,_⟩:=o
   cases r
   cases hT
   exact P.str_of_bool ⟨.str _,H,I.tok _,⟨_,rfl⟩,q⟩
  | int i=>
   rw [Own] at o
   obtain ⟨rfl,_⟩:=o
   obtain ⟨t,rfl⟩:=r
   dsimp only [zbn] at hT
   split at hT
   ·rename_i hi
    cases hT
    exact P.str_of_int hi ⟨.str _,H,I.tok _,⟨_,rfl⟩,q⟩
   ·cases hT
  | str z=>
   rw [Own] at o
   obtain ⟨rfl,_⟩:=o
   obtain ⟨t,rfl⟩:=r
   cases hT
   exact P.str_of_str ⟨.str _,H,I,⟨_,rfl⟩,q⟩
  | dko=>cases hT
  | emp=>
   rw [Own] at o
   obtain ⟨_,a,rfl,ha⟩:=o
   cases r
   cases hT
   obtain ⟨_,z1,vs,k1,⟨o,es,ep,h1,h2,h3,h4,h5,h6⟩⟩:=qfv I.hok ha
   cases k1
   generalize hes:es.toList=l at h5
   cases h5
   have rd:Reads s.heap (.ref a) (.dict []) (a::[]++[]):=Reads.dict (es:=es) (kvs:=[]) h1 h2.1 h3 (by rw [hes];exact .nil) (by rw [hes];exact .nil)
   have h9:vd8 (.dict []) + 3<=64:=by decide
   have hroom:X.A.units + (vd8 (.dict []) + 3) < vg9:=Nat.lt_of_le_of_lt (Nat.add_le_add_left h9 _) hu
   refine PySem.str_of_reads rd rfl (λ _ hm=>?_) hg hroom (λ _ _ e=>e) (λ h' u tk hk=>⟨.str _,H,I.kept (t':=tk) hk,⟨u,rfl⟩,q⟩) (by decide +kernel)
   have e9:ve6=a:=by simpa using hm
   rw [<- e9] at z1
   simp at z1
  | lst xs=>
   dsimp only [zbn] at hT
   split at hT
   ·rename_i D hD
    split at hT
    ·rename_i hc
     cases hT
     obtain ⟨a,ws,d',f',rfl,ha,ol⟩:=zvi o
     cases r
     exact qcf hu hg I o hD hc.1 hc.2 rfl q
    ·cases hT
   ·cases hT
  | tup xs=>
   dsimp only [zbn] at hT
   split at hT
   ·rename_i D hD
    split at hT
    ·rename_i hc
     cases hT
     have o':=o
     rw [Own] at o'
     obtain ⟨a,ws,rfl,ha,ol⟩:=o'
     cases r
     exact qcf hu hg I o hD hc.1 hc.2 rfl q
    ·cases hT
   ·cases hT
  | scr ns=>cases hT
  | dct _=>cases hT
  | exn _=>cases hT
variable {e:Expr}{es:List Expr}{fa:Fa}{vs:List Nat}{p pos:Pos}
theorem qm8 (hu:X.A.units + 64 < vg9) (hgd:X.A.guards=some []) (hK:M.K=X.K) (hg:Gl X "str") (hm:X.mg "str" = none) (ha:PA X (e::es) (tL M fa vs)) (he:va4 (e::es) X.env=(false,eval e X.env)::va4 es X.env) (hpl:(vd4 pos (va4 es X.env)).any (·.1)=false):
  PE X (.Call (.Name "str" p) (e::es) [] pos) (tE M (zqb qc4 fa) vs):=by
 refine zqv (zyk (qik hu hgd) hg hm rfl ha (he:=he) (hpl:=hpl)) λ σ H Q h=>zwu (λ xs z c ws H fps fp Q ho tm nz zd lf=>?_) h
 unfold qc4 at ho
 split at ho
 ·rename_i x d
  obtain ⟨T,hT,eT⟩:=jb9.mp ho
  cases eT
  obtain ⟨v,r,f1,f2,rfl,rfl,_,o1,h2⟩:=tm
  obtain ⟨rfl,rfl⟩:=h2
  rw [hK] at o1
  exact ⟨x,_,v,_,f1,T,rfl,o1,hT,zbd lf⟩
 ·cases ho
end
open PySem PySem.Spec PyProof.Rows L2 PySem.Builtin PySem.Builtin.ObjectAttr PySem.Builtin.Getset_descriptor
section
variable {prog:va8}{w:vb6}{A:vb8}{E:va0->va1->Prop}{K:Frag}{h:Heap}{g:Array GenState}{d:Drawn}{t:Nat}{os:OsState}{a C:Addr}{oe:Obj}
theorem qph {R:Result->va1->Prop} (X:K.In h) (he:h.get? a=some oe) (hc:oe.cls=.ref C) (hm:vc7 K C (.type "object")=some true) (hq:R (.ok (.ret (.ref C))) ⟨h,g,d,t,os⟩):
  vh4 (vb2 prog w) A (.call (.builtin "getset_descriptor.__get__") ⟨[.builtin "object.__class__",.ref a,.ref C],[]⟩) R ⟨h,g,d,t,os⟩:=by
 have ty:PySem.W.Looks (vb2 prog w) h (typeOf (.ref a)) (.ref C):=hc ▸ (PySem.W.Looks.ld he).andThen .now
 have mr:=PySem.W.looks_mroIn (M:=vb2 prog w) X hm
 have pl:=PySem.W.KF.slot_gs.plain
 have en:=PySem.W.KF.entry_gs
 refine codeAny_call_builtin pl en (PySem.W.KF.slot_gs.check _ _ _ _ _ _ _ _
  PySem.W.KF.type_class (PySem.W.KF.args_gs _ _ _) ?_)
 unfold Builtin.«getset_descriptor.__get__»
 unfold descrGet
 rw [PySem.W.dga_obj]
 refine va7 (va9 ?_)
 unfold descrGetter descrCheckInstance
 unfold descrNameAndClass isInstance
 simp only [PySem.W.KF.owner_class]
 repeat lk
 refine ⟨Code.quiet_builtin _ (by decide +kernel),codeAny_builtin PySem.W.KF.entry_class ?_⟩
 unfold Builtin.«object.__class__»
 unfold shownTypeOf
 repeat lk
 exact hq
theorem qii {tk:Tok}{Q:Fin->va1->Prop} (X:K.In h) (he:h.get? a=some oe) (hc:oe.cls=.ref C) (hm:vc7 K C (.type "object")=some true) (hl:vb4 K (.ref C) "__class__" = some (some (.builtin "object.__class__")))
  (hq:Q (.done (.ret (.ref C))) ⟨h,g,d,t,os⟩):vb3 (vb2 prog w) A (Builtin.«object.__getattribute__» ⟨[.ref a,.str "__class__" tk],[]⟩) Q E ⟨h,g,d,t,os⟩:=by
 have hT5:(⟨h,g,d,t,os⟩:va1).TypeIs (.builtin "object.__class__") "getset_descriptor" := F.typeOf_object_class
 have f5:=F.typeOf_object_class
 have f6:=F.slot_gs_get.lookup
 have f7:=F.slot_gs_set.lookup
 have L1:=vg5 (M:=vb2 prog w) X hl
 repeat (any_goals (first | assumption | (with_reducible refine ve3 he ?_;rw [hc]) | with_reducible refine L1.at ?_ | wp_step))
 refine qph X he hc hm ?_
 repeat (any_goals (first | assumption | wp_step))
theorem qij {nameV:va0}{Q:Unit->va1->Prop}{M:Model} (X:K.In h) (he:h.get? a=some oe) (hc:oe.cls=.ref C) (hb:vc7 K C (.type "BaseException")=some true) (hq:Q () ⟨h,g,d,t,os⟩):
  vb3 M A (checkBuiltinCall "BaseException.__getattribute__" ⟨[.ref a,nameV],[]⟩) Q E ⟨h,g,d,t,os⟩:=by
 have hk:builtinKind "BaseException.__getattribute__" = some .slot:=by decide +kernel
 have hsp:splitId "BaseException.__getattribute__" = some ("BaseException","__getattribute__"):=by decide +kernel
 have ha:=F.args_bexc_ga (.ref a) nameV
 have L1:=PySem.W.looks_mroIn (M:=M) X hb
 simp only [checkBuiltinCall,hk,hsp]
 refine va7 ?_
 unfold isInstance
 repeat (first | (with_reducible refine ve3 he ?_;rw [hc]) | with_reducible refine L1.at ?_ | wp_step)
 exact hq
theorem qqb {tk:Tok}{Q:va0->va1->Prop} (X:K.In h) (he:h.get? a=some oe) (hc:oe.cls=.ref C) (hm:vc7 K C (.type "object")=some true) (hb:vc7 K C (.type "BaseException")=some true)
  (hl:vb4 K (.ref C) "__class__" = some (some (.builtin "object.__class__"))) (hga:vb4 K (.ref C) "__getattribute__" = some (some (.builtin "BaseException.__getattribute__"))) (hgh:vb4 K (.ref C) "__getattr__" = some none)
  (hq:Q (.ref C) ⟨h,g,d,t,os⟩):vb3 (vb2 prog w) A (getAttrBy (.ref a) (.str "__class__" tk) false) Q E ⟨h,g,d,t,os⟩:=by
 have f3:=PySem.F.attrBase_ValueError.ga.bind (.ref a)
 have L1:=vg5 (M:=vb2 prog w) X hga
 have L2':=vg5 (M:=vb2 prog w) X hgh
 have hx2:(Value.builtin "BaseException.__getattribute__" == Value.builtin "object.__getattribute__")=false:=by decide +kernel
 have hx1:(onTheHeap (Value.ref C) && Value.builtin "BaseException.__getattribute__" == Value.builtin "object.__getattribute__")=false:=by rw [hx2];rfl
 repeat (any_goals (first | assumption | (with_reducible refine ve3 he ?_;rw [hc]) | with_reducible refine L1.at ?_ | with_reducible refine L2'.at ?_ | wp_step))
 refine codeAny_call_builtin PySem.F.attrBase_ValueError.ga.plain F.entry_bexc_ga (qij X he hc hb (qii X he hc hm hl ?_))
 repeat (any_goals (first | assumption | wp_step))
theorem ql4 {Q:Option va0->va1->Prop} (X:K.In h) (he:h.get? a=some oe) (hc:oe.cls=.ref C) (hm:vc7 K C (.type "object")=some true) (hb:vc7 K C (.type "BaseException")=some true)
  (hl:vb4 K (.ref C) "__class__" = some (some (.builtin "object.__class__"))) (hga:vb4 K (.ref C) "__getattribute__" = some (some (.builtin "BaseException.__getattribute__"))) (hgh:vb4 K (.ref C) "__getattr__" = some none)
  (hq:Q (some (.ref C)) ⟨h,g,d,t + 1,os⟩):vb3 (vb2 prog w) A (getAttr? (.ref a) "__class__") Q E ⟨h,g,d,t,os⟩:=by
 unfold getAttr?
 unfold getAttrBy?
 repeat (any_goals (first | assumption | with_reducible apply qqb X he hc hm hb hl hga hgh | wp_step))
end
def clsV (K:Frag) (d:Nat) (u:va0):Bool:=(u == .type "ValueError" && d == 0) || (match zws K d with
 | some D=>u == .ref D
 | none=>false)
section
variable {K:Frag}{a C:Addr}{c d:Nat}{u:va0}
theorem zmr (t:xKit K=true) (e:zws K c=some C):zjh K C=true/\vb7 K (.type "NoneType") (.ref C)=some false/\vb7 K (.ref C) (.type "ValueError")=some true/\∀ d D,zws K d=some D->vb7 K (.ref C) (.ref D)=some (isX c d):=by
 unfold xKit at t
 rw [ja4] at t
 have h:=jc4.mp t.2 c (jd3.mpr (zbi e))
 rw [e] at h
 dsimp only at h
 simp only [ja4] at h
 refine ⟨h.1.1.1,eq_of_beq h.1.1.2,eq_of_beq h.1.2,λ d D ed=>?_⟩
 have h2:=jc4.mp h.2 d (jd3.mpr (zbi ed))
 rw [ed] at h2
 exact eq_of_beq h2
theorem qfe (t:xKit K=true) (e:zws K c=some C) (hu:clsV K d u=true):vb7 K (.ref C) u=some (isX c d):=by
 obtain ⟨_,_,h3,h4⟩:=zmr t e
 unfold clsV at hu
 rw [jf2] at hu
 rcases hu with hu | hu
 ·rw [ja4] at hu
  rw [eq_of_beq hu.1,h3,eq_of_beq hu.2]
  simp [isX]
 ·split at hu
  ·rename_i D hD
   rw [eq_of_beq hu]
   exact h4 d D hD
  ·cases hu
theorem qfd (t:xKit K=true) (hu:clsV K d u=true):vb7 K (.type "NoneType") u=some false:=by
 unfold clsV at hu
 rw [jf2] at hu
 rcases hu with hu | hu
 ·rw [ja4] at hu
  rw [eq_of_beq hu.1]
  unfold xKit at t
  rw [ja4] at t
  exact eq_of_beq t.1
 ·split at hu
  ·rename_i D hD
   rw [eq_of_beq hu]
   exact (zmr t hD).2.1
  ·cases hu
def zpp (K:Frag):List Nat->List va0->Bool
 | [],[]=>true
 | d::ds,u::us=>clsV K d u && zpp K ds us
 | _,_=>false
theorem qb4 (t:xKit K=true) (e:zws K c=some C):∀ {ds:List Nat}{us:List va0},zpp K ds us=true->vg6 K (.ref C) us=some (ds.any (isX c))
 | [],[],_=>rfl
 | [],_::_,h=>by cases h
 | _::_,[],h=>by cases h
 | d::ds,u::us,h=>by
  unfold zpp at h
  rw [ja4] at h
  unfold vg6
  rw [qfe t e h.1,List.any_cons]
  cases isX c d with
  | true=>rfl
  | false=>exact qb4 t e h.2
theorem qb3 (t:xKit K=true):∀ {ds:List Nat}{us:List va0},zpp K ds us=true->vg6 K (.type "NoneType") us=some false
 | [],[],_=>rfl
 | [],_::_,h=>by cases h
 | _::_,[],h=>by cases h
 | d::ds,u::us,h=>by
  unfold zpp at h
  rw [ja4] at h
  unfold vg6
  rw [qfd t h.1]
  exact qb3 t h.2
theorem qf9 (g:zjh K C=true):∃ c0 dd cd sl,K.lookup C=some ⟨c0,dd,.cls cd,sl⟩:=by
 unfold zjh at g
 simp only [ja4] at g
 have h:=g.1.1.1.1.1
 unfold PySem.W.clsIn at h
 split at h
 ·rename_i q;exact ⟨_,_,_,_,q⟩
 ·cases h
theorem qb5 (g:zjh K C=true):PySem.W.KitX K (.ref a) (.ref C) (zjy a C):=by
 obtain ⟨c0,dd,cd,sl,hl⟩:=qf9 g
 unfold zjh at g
 simp only [ja4] at g
 obtain ⟨⟨⟨⟨⟨_,g1⟩,g2⟩,g3⟩,g4⟩,g5⟩:=g
 refine ⟨λ M h _ p=>?_,λ M h X _=>?_,λ h tp dd' its n sl' X htp=>?_,λ {prog w A E Q s} X p k=>?_⟩
 ·obtain ⟨o,vs,h1,h2,_⟩:=p
  exact h2 ▸ (PySem.W.Looks.ld h1).andThen .now
 ·intro A' Q' E' s' kp q
  unfold isType
  unfold loadHead
  exact va7 (wpAny_loadPart (kp _ _ (X _ _ hl)) (va9 q))
 ·cases hb:(Value.ref C == Value.ref tp) with
  | false=>rfl
  | true=>
   have ec:C=tp:=Value.ref.inj (eq_of_beq hb)
   have z:=X _ _ hl
   rw [ec,htp] at z
   cases z
 ·obtain ⟨o,vs,h1,h2,_⟩:=p
  obtain ⟨hp,gg,dr,tt,oo⟩:=s
  exact ql4 X h1 h2 (eq_of_beq g1) (eq_of_beq g2) (eq_of_beq g3) (eq_of_beq g4) (eq_of_beq g5) k
end
section
variable {X:Cx}
def IsQ (K:Frag) (v:V) (H:Hp) (Q:VK) (ds:List Nat):Prop:=(v=.non/\Q (.bl false) H)\/∃ a C c,v=.ref a/\zws K c=some C/\H a=some (.ext (zjy a C))/\Q (.bl (ds.any (isX c))) H
theorem qca {pins:List (Addr×Obj)}{σ:St}{H:Hp}{s:va1}{a C:Addr} (I:L2.Inv X pins σ H s) (h:H a=some (.ext (zjy a C))):zjy a C s.heap:=(I.hok a _ h).1
theorem qgk (t:xKit X.K=true):zzr X (.builtin "isinstance") (λ xs H Q=>∃ v cv d,xs=[v,cv]/\(∀ u,RelV cv u->clsV X.K d u=true)/\IsQ X.K v H Q [d]):=by
 intro pins s σ H xs us Q I r h
 obtain ⟨v,cv,d,rfl,hcv,h⟩:=h
 obtain ⟨u,w,rfl,r1,r2⟩:=qdj r
 have hw:=hcv w r2
 rcases h with ⟨rfl,q⟩ | ⟨a,C,c,rfl,hC,ha,q⟩
 ·cases r1
  exact vb5 vh6 I.kIn True.intro (qfd t hw) (λ z=>nomatch z) λ tk=>⟨.bl false,H,I.tok _,rfl,q⟩
 ·obtain rfl:u=Value.ref a:=r1
  exact vb5 (qb5 (zmr t hC).1) I.kIn (qca I ha) (qfe t hC hw) (λ z=>nomatch z) λ tk=>⟨.bl (isX c d),H,I.tok _,rfl,by simpa using q⟩
theorem qdf (t:xKit X.K=true):zzr X (.builtin "isinstance") (λ xs H Q=>∃ v p cvs ds,xs=[v,.ref p]/\H p=some (.tup cvs)/\(∀ us,Vals cvs us->zpp X.K ds us=true)/\IsQ X.K v H Q ds):=by
 intro pins s σ H xs us Q I r h
 obtain ⟨v,p,cvs,ds,rfl,hp,hcv,h⟩:=h
 obtain ⟨u,w,rfl,r1,r2⟩:=qdj r
 obtain rfl:w=Value.ref p:=r2
 obtain ⟨_,its,rv,o,ho,hc,n,hd⟩:=I.hok p _ hp
 have hi:=hcv its rv
 have ho':s.heap.get? p=some ⟨.type "tuple",o.dict,.seq its.toArray n,o.slots⟩:=by
  rw [ho]
  obtain ⟨oc,od,oda,os⟩:=o
  dsimp only at hc hd
  rw [hc,hd]
 rcases h with ⟨rfl,q⟩ | ⟨a,C,c,rfl,hC,ha,q⟩
 ·cases r1
  exact PySem.W.kia_tup vh6 I.kIn True.intro ho' (qb3 t hi) (λ z=>nomatch z) λ tk=>⟨.bl false,H,I.tok _,rfl,q⟩
 ·obtain rfl:u=Value.ref a:=r1
  exact PySem.W.kia_tup (qb5 (zmr t hC).1) I.kIn (qca I ha) ho' (qb4 t hC hi) (λ z=>nomatch z) λ tk=>⟨.bl (ds.any (isX c)),H,I.tok _,rfl,q⟩
end
section
variable {X:Cx}{M:Fm}{f g:Fx}{vs vs':List Nat}{e:Expr}{es:List Expr}{pos p:Pos}{σ:St}{H:Hp}{Q:VK}
def zvy (ds:List Nat) (x:PV) (_:Nat):Option (PV×Nat):=match x with
 | .exn c=>some (.bl (ds.any (isX c)),om)
 | .non=>some (.bl false,om)
 | _=>none
theorem qjb {K:Frag}{x z:PV}{ds:List Nat}{d c:Nat}{v:V}{Z:Addr->Prop}{H H':Hp}{f1:List Addr} (ho:zvy ds x d=some (z,c)) (o1:Own K H Z x d v f1) (k:∀ a o,H a=some o->H' a=some o) (q:∀ b,z=.bl b->Q (.bl b) H'):IsQ K v H' Q ds:=by
 cases x with
 | exn n=>
  cases ho
  rw [Own] at o1
  obtain ⟨_,a,C,rfl,hC,ha⟩:=o1
  exact .inr ⟨a,C,n,rfl,hC,k _ _ ha,q _ rfl⟩
 | non=>
  cases ho
  rw [Own] at o1
  obtain ⟨rfl,_⟩:=o1
  exact .inl ⟨rfl,q _ rfl⟩
 | _=>cases ho
theorem zgy {ds:List Nat}{x z:PV}{d c:Nat} (ho:zvy ds x d=some (z,c)):∃ b,z=.bl b/\c=om:=by
 cases x with
 | exn n=>cases ho;exact ⟨_,rfl,rfl⟩
 | non=>cases ho;exact ⟨_,rfl,rfl⟩
 | _=>cases ho
theorem qke {cv:V}{d:Nat}{T':Str}{p1 p2:Pos} (t:xKit X.K=true) (hK:M.K=X.K) (ha:PE X e (tE M f vs)) (hg:Gl X "isinstance") (hm:X.mg "isinstance" = none) (hc:PE X (.Name T' p2) (tC cv)) (hcv:∀ u,RelV cv u->clsV X.K d u=true)
  (hs1:va4 [e,.Name T' p2] X.env=[(false,eval e X.env),(false,eval (.Name T' p2) X.env)]) (hs2:va4 [Expr.Name T' p2] X.env=[(false,eval (.Name T' p2) X.env)]):
  PE X (.Call (.Name "isinstance" p1) [e,.Name T' p2] [] pos) (tE M (bUn (zvy [d]) f) vs):=by
 refine zqv (zzc (qgk t) hg hm rfl (zwj ha (zwj hc zyl hs2) (by rw [hs1,hs2])) (he:=by rw [hs1,hs2]) (hpl:=by rw [hs2];rfl)) λ σ H Q h=>?_
 refine qdz (r:=λ v H Q=>∃ x c n,[v,cv]=[x,c]/\(∀ u,RelV c u->clsV X.K n u=true)/\IsQ X.K x H Q [n]) (λ x d' z c v H fps f1 Q ho o1 nz zd lf=>?_) h
 obtain ⟨b,rfl,rfl⟩:=zgy ho
 exact ⟨v,cv,d,rfl,hcv,by rw [<- hK];exact qjb ho o1 (λ _ _ h=>h) λ b' e=>by cases e;exact zzl lf⟩
def tVs (cvs:List V):TA:=λ _ H Q=>Q cvs H
theorem qg8 {cvs:List V}{ds:List Nat}{p1 p2:Pos}{k:Nat} (t:xKit X.K=true) (hK:M.K=X.K) (ha:PE X e (tE M f vs)) (hg:Gl X "isinstance") (hm:X.mg "isinstance" = none) (hc:PA X es (tVs cvs)) (hl:cvs.length<=va2) (hcv:∀ us,Vals cvs us->zpp X.K ds us=true)
  (hs1:va4 [e,.Tuple es k p2] X.env=[(false,eval e X.env),(false,eval (.Tuple es k p2) X.env)]) (hs2:va4 [Expr.Tuple es k p2] X.env=[(false,eval (.Tuple es k p2) X.env)]):
  PE X (.Call (.Name "isinstance" p1) [e,.Tuple es k p2] [] pos) (tE M (bUn (zvy ds) f) vs):=by
 refine zqv (zzc (qdf t) hg hm rfl (zwj ha (zwj (qi2 hc) zyl hs2) (by rw [hs1,hs2])) (he:=by rw [hs1,hs2]) (hpl:=by rw [hs2];rfl)) λ σ H Q h=>?_
 refine qdz (r:=λ v H Q=>cvs.length<=va2/\∀ q,H q=none->∃ x p' cvs' ds',[v,V.ref q]=[x,.ref p']/\upd H q (.tup cvs) p'=some (.tup cvs')/\(∀ us,Vals cvs' us->zpp X.K ds' us=true)/\IsQ X.K x (upd H q (.tup cvs)) Q ds') (λ x d' z c v H fps f1 Q ho o1 nz zd lf=>?_) h
 obtain ⟨b,rfl,rfl⟩:=zgy ho
 refine ⟨hl,λ q hq=>⟨v,q,cvs,ds,rfl,zqo,hcv,?_⟩⟩
 have kk:∀ a o,H a=some o->upd H q (.tup cvs) a=some o:=λ a o h=>by rw [zqn (λ z=>by rw [z,hq] at h;cases h)];exact h
 rw [<- hK]
 exact qjb ho o1 kk λ b' e=>by cases e;exact lf (.bl b) _ [] kk (by rw [Own];exact ⟨rfl,rfl⟩) (λ _ z=>nomatch z)
end
section
variable {X:Cx}{M:Fm}{a b:Expr}{f g:Fx}{fa:Fa}{vs vs':List Nat}{pos p:Pos}{σ:St}{H:Hp}{Q:VK}{e:Expr}{es:List Expr}
def bDct:Fx:=λ ρ=>.ok (.dct [],om,ρ)
theorem qnf:PE X (.Dict [] [] pos) (tE M bDct []):=by
 refine zqv qhj λ σ H Q h p hp=>?_
 obtain ⟨ρ,fps,rep,q⟩:=h
 refine q (.ref p) _ fps [p] (KD.grow (zxp hp)) Agr.refl (rep.grow (zxp hp)) ?_ ⟨λ a ha=>by rw [jb7.mp ha];exact hp,λ a ha=>by rw [jb7.mp ha];exact rep.nz hp⟩
 rw [Own]
 exact ⟨p,rfl,.inr ⟨by decide,zqo,rfl⟩⟩
end
structure Sx where
 N:List Str
 sc:vd0
 ms:List Nat
 al:List (List Nat)
 Γ:List (Str×(Bool×Nat×Fn))
 Γm:List (Str×Fn)
 rz:Bool
 xc:List Nat
 pn:List Nat
def Sx.alF (S:Sx) (i:Nat):List Nat:=S.al.getD i []
def Sx.msF (S:Sx) (i:Nat):Bool:=S.ms.contains i
def zwo (sc:vd0) (x:Str) (k:vc8):Bool:=sc.names.lookup x == some k
def visB (sc:vd0) (x:Str):Bool:=zwo sc x .local || zwo sc x .cell || zwo sc x .free
def ixOf (N:List Str) (x:Str):Option Nat:=N.findIdx? (·== x)
def Sx.slot (S:Sx) (x:Str):Option Nat:=if visB S.sc x && !(x == ("__debug__" : Str)) && !(x == ("__classdict__" : Str)) then ixOf S.N x else none
def Sx.glob (S:Sx) (x:Str):Bool:=zwo S.sc x .globalImplicit
structure XS (X:Cx) (P:va8) (w:vb6) (K:Frag) (mg:Str->Option va0) (base:Heap) (lvl:Nat) (S:Sx) (Wx:St->Nat->Hp->Prop):Prop where
 prog:X.prog=P
 w:X.w=w
 K:X.K=K
 mg:X.mg=mg
 base:X.base=base
 N:X.N=S.N
 sc:X.env.scope=S.sc
 calm:X.calm=true
 room:Room lvl X.A
 po:vj4 (vb2 X.prog X.w) X.A X.env X.xe
 ps:zps (CXr X.prog X.w X.K) X Wx
 rs:S.rz=true->qa7 X Wx
structure MS (M:Fm) (K:Frag) (S:Sx) (Wx:St->Nat->Hp->Prop):Prop where
 K:M.K=K
 ms:M.Ms=S.msF
 al:∀ i,i < S.N.length->M.al i=S.alF i
 als:∀ i,∀ j∈M.al i,M.Ms j=false
 W:M.W=Wx
 pn:∀ p∈M.pn,p.1 < S.N.length
def GSm (P:va8) (w:vb6) (K:Frag) (mg:Str->Option va0) (base:Heap) (lvl:Nat) (Γm:List (Str×Fn)):Prop:=
 ∀ x F,Γm.lookup x=some F->(x == ("__debug__" : Str))=false/\∃ fa fd ps,mg x=some (.ref fa)/\vd2 K (.ref fa)=true/\zpu K fd ps []/\FnOk P w K mg base (CXr P w K) lvl fa fd ps (spM K F)
def GX (K:Frag) (mg:Str->Option va0) (xc:List Nat):Prop:=xc≠[]->xTab K=true/\xKit K=true/\∀ c∈xc,∃ x C,XN[c]?=some x/\zws K c=some C/\mg x=some (.ref C)/\(x == ("__debug__" : Str))=false
def GS (P:va8) (w:vb6) (K:Frag) (mg:Str->Option va0) (base:Heap) (lvl:Nat) (Γ:List (Str×(Bool×Nat×Fn))):Prop:=
 (∀ x∈zkf,mg x=none)/\∀ x io n F,Γ.lookup x=some (io,n,F)->(x == ("__debug__" : Str))=false/\(∀ xs,xs.length≠n->F xs=.no) /\
  ∃ fa fd ps,mg x=some (.ref fa)/\vd2 K (.ref fa)=true/\zpu K fd ps []/\ps.length=n/\FnOk P w K mg base (CXr P w K) lvl fa fd ps (spF K io n F)
section
variable {X:Cx}{P:va8}{w:vb6}{K:Frag}{mg:Str->Option va0}{base:Heap}{lvl:Nat}{S:Sx}{Wx:St->Nat->Hp->Prop}{M:Fm}
theorem zxv {sc:vd0}{x:Str}{k:vc8} (h:zwo sc x k=true):sc.names.lookup x=some k:=by
 unfold zwo at h
 exact eq_of_beq h
theorem qir {sc:vd0}{x:Str} (h:visB sc x=true):Vis sc x:=by
 unfold visB at h
 rw [jf2,jf2] at h
 rcases h with (h | h) | h
 ·exact .inl (zxv h)
 ·exact .inr (.inl (zxv h))
 ·exact .inr (.inr (zxv h))
theorem zbf {N:List Str}{x:Str}{i:Nat} (h:ixOf N x=some i):N[i]?=some x:=by
 unfold ixOf at h
 rw [jj0] at h
 obtain ⟨hi,e,_⟩:=h
 have:N[i]=x:=eq_of_beq e
 rw [jb3 hi,this]
theorem XS.var (xs:XS X P w K mg base lvl S Wx) {x:Str}{i:Nat}{pos:Pos} (h:S.slot x=some i):PE X (.Name x pos) (tVar i):=by
 unfold Sx.slot at h
 split at h
 ·rename_i hc
  simp only [ja4,jj8] at hc
  exact qi1 (by rw [xs.N];exact zbf h) (by rw [xs.sc];exact qir hc.1.1) hc.1.2 hc.2
 ·cases h
theorem XS.gl (xs:XS X P w K mg base lvl S Wx) {x:Str} (h:S.glob x=true):Gl X x:=by
 show X.env.scope.names.lookup x=_
 rw [xs.sc]
 exact zxv h
theorem zqz {e:Expr}{es:List Expr}{env:Env} (h:∀ x p,e≠.Starred x p):va4 (e::es) env=(false,eval e env)::va4 es env:=by
 cases e with
 | Starred x p=>exact absurd rfl (h x p)
 | _=>rfl
def zbu:Expr->Bool
 | .Starred _ _=>false
 | _=>true
theorem zqq {e:Expr} (h:zbu e=true):∀ x p,e≠.Starred x p:=λ x p z=>by rw [z] at h;cases h
theorem zba {env:Env}{pos:Pos}:∀ {es:List Expr},es.all zbu=true->(vd4 pos (va4 es env)).any (·.1)=false
 | [],_=>rfl
 | e::es,h=>by
  rw [je1,ja4] at h
  rw [zqz (zqq h.1)]
  show (false || (vd4 pos (va4 es env)).any (·.1))=false
  rw [zba h.2]
  rfl
def zjd:Expr->Bool
 | .Slice _ _ _ _=>false
 | _=>true
theorem zva {b:Expr} (h:zjd b=true):qa8 b:=by
 intro o i
 cases b with
 | Slice _ _ _ _=>cases h
 | _=>rfl
def qpi:Operator->Option (PV->Nat->PV->Nat->Option (PV×Nat))
 | .Add=>some zqg
 | .Sub=>some zxj
 | .Mult=>some zxc
 | .FloorDiv=>some zmb
 | .Mod=>some zjv
 | .Pow=>some zgx
 | _=>none
theorem qpr {a b:Expr}{op:Operator}{o:PV->Nat->PV->Nat->Option (PV×Nat)}{f g:Fx}{vs vs':List Nat}{pos:Pos} (h:qpi op=some o) (hv:∀ i∈vs,M.Ms i=false) (hK:M.K=X.K) (ha:PE X a (tE M f vs)) (hb:PE X b (tE M g vs')):PE X (.BinOp a op b pos) (tE M (bBin o f g) (vs++vs')):=by
 cases op <;> cases h
 ·exact qni hv hK ha hb
 ·exact qbi qk0 (λ _ _ _=>trivial) hv ha hb
 ·exact qna hv ha hb
 ·exact qbi qoc (λ _ _=>cMod) hv ha hb
 ·exact qbi qn9 (λ _ _=>cPow) hv ha hb
 ·exact qbi qho (λ _ _=>cDiv) hv ha hb
def ql3 (b:Expr):vk0->Option (PV->Nat->PV->Nat->Option (PV×Nat))
 | .Lt=>some (zxh λ i j=>decide (i < j))
 | .LtE=>some (zxh λ i j=>decide (i<=j))
 | .Gt=>some (zxh λ i j=>decide (j < i))
 | .GtE=>some (zxh λ i j=>decide (j<=i))
 | .Eq=>some (opEq false)
 | .NotEq=>some (opEq true)
 | _=>none
theorem qig {op:vk0}{o:PV->Nat->PV->Nat->Option (PV×Nat)}{f g:Fx}{vs vs':List Nat}{b:Expr} (h:ql3 b op=some o) (hu:X.A.units + 64 < vg9) (hv:∀ i∈vs,M.Ms i=false) (hK:M.K=X.K):
  ∃ r,OpR X (vc2 op) r/\vf8 op b=false/\∀ σ H Q,tE M (bBin o f g) (vs++vs') σ H Q->tOp r (tE M f vs) (tE M g vs') σ H Q:=by
 cases op
 ·cases h;exact ⟨_,qoh hu,zzt _ (by decide) (by decide),λ σ H Q h=>zkq hv (λ x d y e z c v w H fps f1 f2 Q ho o1 o2 dj nz zd lf=>qb2 hK ho o1 o2 lf) h⟩
 ·cases h;exact ⟨_,qoa hu,zzt _ (by decide) (by decide),λ σ H Q h=>zkq hv (λ x d y e z c v w H fps f1 f2 Q ho o1 o2 dj nz zd lf=>qb2 hK ho o1 o2 lf) h⟩
 ·cases h;exact ⟨_,qod,zzt _ (by decide) (by decide),λ σ H Q h=>zkq hv (λ x d y e z c v w H fps f1 f2 Q ho o1 o2 dj nz zd lf=>zbe ho o1 o2 lf) h⟩
 ·cases h;exact ⟨_,qoe,zzt _ (by decide) (by decide),λ σ H Q h=>zkq hv (λ x d y e z c v w H fps f1 f2 Q ho o1 o2 dj nz zd lf=>zbe ho o1 o2 lf) h⟩
 ·cases h;exact ⟨_,qof,zzt _ (by decide) (by decide),λ σ H Q h=>zkq hv (λ x d y e z c v w H fps f1 f2 Q ho o1 o2 dj nz zd lf=>zbe ho o1 o2 lf) h⟩
 ·cases h;exact ⟨_,qog,zzt _ (by decide) (by decide),λ σ H Q h=>zkq hv (λ x d y e z c v w H fps f1 f2 Q ho o1 o2 dj nz zd lf=>zbe ho o1 o2 lf) h⟩
 ·cases h
 ·cases h
 ·cases h
 ·cases h
def icmp:vk0->Option (Int->Int->Bool)
 | .Lt=>some λ i j=>decide (i < j)
 | .LtE=>some λ i j=>decide (i<=j)
 | .Gt=>some λ i j=>decide (j < i)
 | .GtE=>some λ i j=>decide (j<=i)
 | .Eq=>some λ i j=>decide (i=j)
 | _=>none
theorem qk1:OpR X (vc2 .Eq) (rI0 λ i j=>.bl (decide (i=j))):=λ pins s σ H x y v u Q I rx ry h=>qpz pins s σ H x y v u Q I rx ry (by
 obtain ⟨i,j,rfl,rfl,q⟩:=h
 refine ⟨rfl,?_⟩
 rw [qfz]
 exact q)
theorem zhl {op:vk0}{p:Int->Int->Bool} (h:icmp op=some p):OpR X (vc2 op) (rI0 λ i j=>.bl (p i j))/\op≠.In/\op≠.NotIn:=by
 cases op <;> cases h
 ·exact ⟨qk1,by decide,by decide⟩
 ·exact ⟨qod,by decide,by decide⟩
 ·exact ⟨qoe,by decide,by decide⟩
 ·exact ⟨qof,by decide,by decide⟩
 ·exact ⟨qog,by decide,by decide⟩
def zkg (p q:Int->Int->Bool) (f g h:Fx):Fx:=λ ρ=>(f ρ).bind λ (x,_,ρ1)=>(g ρ1).bind λ (y,_,ρ2)=>match x,y with
 | .int i,.int j=>if p i j=true then (h ρ2).bind λ (z,_,ρ3)=>(match z with
  | .int k=>.ok (.bl (q j k),om,ρ3)
  | _=>.no) else .ok (.bl false,om,ρ2)
 | _,_=>.no
theorem qbf {p q:Int->Int->Bool}{f g h:Fx}{vs v1 v2 v3:List Nat}{σ:St}{H:Hp}{Q:VK} (hq:tE M (zkg p q f g h) vs σ H Q):qd2 (rI0 λ i j=>.bl (p i j)) (rI0 λ i j=>.bl (q i j)) (tE M f v1) (tE M g v2) (tE M h v3) σ H Q:=by
 obtain ⟨ρ,fps,rep,qq⟩:=hq
 refine ⟨ρ,fps,rep,?_⟩
 unfold zkg at qq
 cases ef:f ρ with
 | no=>rw [ef] at qq;exact qq
 | exc c=>rw [ef] at qq;exact qq
 | ok p0=>
  obtain ⟨x,d,ρ1⟩:=p0
  rw [ef] at qq
  intro v H1 fps1 f1 k1 g1 rep1 o1 t1
  refine ⟨ρ1,fps1,rep1,?_⟩
  dsimp only [Rz.bind] at qq
  cases eg:g ρ1 with
  | no=>rw [eg] at qq;exact qq
  | exc c=>rw [eg] at qq;exact λ H' fps' k=>qq H' fps' (k1.trans k)
  | ok p2=>
   obtain ⟨y,e,ρ2⟩:=p2
   rw [eg] at qq
   intro w H2 fps2 f2 k2 g2 rep2 o2 t2
   cases x with
   | int i=>
    cases y with
    | int j=>
     dsimp only at qq
     rw [Own] at o1 o2
     obtain ⟨rfl,rfl⟩:=o1
     obtain ⟨rfl,rfl⟩:=o2
     refine ⟨i,j,rfl,rfl,p i j,rfl,?_⟩
     by_cases hp:p i j=true
     ·rw [if_pos hp] at qq ⊢
      refine ⟨ρ2,fps2,rep2,?_⟩
      cases eh:h ρ2 with
      | no=>rw [eh] at qq;exact qq
      | exc c=>rw [eh] at qq;exact λ H' fps' k=>qq H' fps' ((k1.trans k2).trans k)
      | ok p3=>
       obtain ⟨z,c,ρ3⟩:=p3
       rw [eh] at qq
       intro u H3 fps3 f3 k3 g3 rep3 o3 t3
       cases z with
       | int k=>
        dsimp only at qq
        rw [Own] at o3
        obtain ⟨rfl,rfl⟩:=o3
        exact ⟨j,k,rfl,rfl,qq _ H3 fps3 [] ((k1.trans k2).trans k3) ((g1.trans g2).trans g3) rep3 (by rw [Own];exact ⟨rfl,rfl⟩) ⟨λ _ z=>(nomatch z),λ _ z=>nomatch z⟩⟩
       | _=>exact qq.elim
     ·rw [if_neg hp] at qq ⊢
      exact qq _ H2 fps2 [] (k1.trans k2) (g1.trans g2) rep2 (by rw [Own];exact ⟨rfl,rfl⟩) ⟨λ _ z=>(nomatch z),λ _ z=>nomatch z⟩
    | _=>exact qq.elim
   | _=>exact qq.elim
def zvh (f g:Fx):Fx:=λ ρ=>(f ρ).bind λ (x,_,ρ1)=>match x with
 | .bl true=>g ρ1
 | .bl false=>.ok (.bl false,om,ρ1)
 | _=>.no
def bOrV (f g:Fx):Fx:=λ ρ=>(f ρ).bind λ (x,_,ρ1)=>match x with
 | .bl true=>.ok (.bl true,om,ρ1)
 | .bl false=>g ρ1
 | _=>.no
def zqu:PV->Nat->Option (PV×Nat)
 | .bl b,_=>some (.bl (!b),om)
 | _,_=>none
variable {f g:Fx}{vs vs':List Nat}{σ:St}{H:Hp}{Q:VK}
theorem qd0 {f:Fx}{ρ ρ1:Rho}{fps fps1:Fps}{H H1:Hp} (k1:KD M H fps H1 fps1) (g1:Agr M ρ ρ1) (rep1:Rep M ρ1 σ H1 fps1) (hs:∀ i∈vs,i∈vs')
  (q:match f ρ1 with
   | .ok (x,d,ρ')=>∀ v H' fps' fp,KD M H fps H' fps'->Agr M ρ ρ'->Rep M ρ' σ H' fps'->Own M.K H' (Zt M vs' fps' fp) x d v fp->Temp M vs' H H' fps' fp->Q v H'
   | .exc c=>∀ H' fps',KD M H fps H' fps'->M.W σ c H'
   | .no=>False):tE M f vs σ H1 Q:=by
 refine ⟨ρ1,fps1,rep1,?_⟩
 cases eg:f ρ1 with
 | no=>rw [eg] at q;exact q
 | exc c=>rw [eg] at q;exact λ H' fps' k=>q H' fps' (k1.trans k)
 | ok p2=>
  obtain ⟨x,d,ρ2⟩:=p2
  rw [eg] at q
  exact λ v H' fps' fp k g r o t=>q v H' fps' fp (k1.trans k) (g1.trans g) r (o.weak λ a h=>Zt.mono hs h) ⟨λ a ha=>(by
   have e:=t.new a ha
   cases e':H a with
   | none=>rfl
   | some o=>exact absurd e (k1.dom a (by rw [e'];simp))),t.ndj⟩
theorem qj5 (hq:tE M (zvh f g) (vs++vs') σ H Q):qm4 (tE M f vs) (tE M g vs') σ H Q:=by
 obtain ⟨ρ,fps,rep,q⟩:=hq
 refine ⟨ρ,fps,rep,?_⟩
 unfold zvh at q
 cases ef:f ρ with
 | no=>rw [ef] at q;exact q
 | exc c=>rw [ef] at q;exact q
 | ok p=>
  obtain ⟨x,d,ρ1⟩:=p
  rw [ef] at q
  intro v H1 fps1 f1 k1 g1 rep1 o1 t1
  dsimp only [Rz.bind] at q
  cases x with
  | bl b=>
   rw [Own] at o1
   refine ⟨b,o1.1,?_⟩
   cases b with
   | true=>exact qd0 k1 g1 rep1 (λ i hi=>ja5 _ hi) q
   | false=>exact q (.bl false) H1 fps1 [] k1 g1 rep1 (by rw [Own];exact ⟨rfl,rfl⟩) ⟨λ _ z=>(nomatch z),λ _ z=>nomatch z⟩
  | _=>exact q.elim
theorem qm1 (hq:tE M (bOrV f g) (vs++vs') σ H Q):tOrV (tE M f vs) (tE M g vs') σ H Q:=by
 obtain ⟨ρ,fps,rep,q⟩:=hq
 refine ⟨ρ,fps,rep,?_⟩
 unfold bOrV at q
 cases ef:f ρ with
 | no=>rw [ef] at q;exact q
 | exc c=>rw [ef] at q;exact q
 | ok p=>
  obtain ⟨x,d,ρ1⟩:=p
  rw [ef] at q
  intro v H1 fps1 f1 k1 g1 rep1 o1 t1
  dsimp only [Rz.bind] at q
  cases x with
  | bl b=>
   rw [Own] at o1
   refine ⟨b,o1.1,?_⟩
   cases b with
   | false=>exact qd0 k1 g1 rep1 (λ i hi=>ja5 _ hi) q
   | true=>exact q (.bl true) H1 fps1 [] k1 g1 rep1 (by rw [Own];exact ⟨rfl,rfl⟩) ⟨λ _ z=>(nomatch z),λ _ z=>nomatch z⟩
  | _=>exact q.elim
theorem qj3 (hq:tE M (bUn zqu f) vs σ H Q):qmy (tE M f vs) σ H Q:=by
 refine qdz (r:=λ x H1 Q=>∃ c,x=.bl c/\Q (.bl (!c)) H1) (λ x d z c v H fps f1 Q ho o1 nz zd lf=>?_) hq
 cases x with
 | bl b=>cases ho;rw [Own] at o1;exact ⟨b,o1.1,zzl lf⟩
 | _=>cases ho
end
abbrev D2:=Fx×List Nat
def zjx (d:Expr->Option D2):List Expr->Option (Fa×List Nat)
 | []=>some (aNil,[])
 | e::es=>match d e,zjx d es with
  | some (f,v),some (fa,u)=>some (zqa f fa,v++u)
  | _,_=>none
def qce (d:Expr->Option D2):List Expr->Option D2
 | []=>none
 | [e]=>d e
 | e::es=>match d e,qce d es with
  | some (f,v),some (g,u)=>some (zvh f g,v++u)
  | _,_=>none
def qic (d:Expr->Option D2):List Expr->Option D2
 | []=>none
 | [e]=>d e
 | e::es=>match d e,qic d es with
  | some (f,v),some (g,u)=>some (bOrV f g,v++u)
  | _,_=>none
def denC:Const->Option D2
 | .int i=>some (bC (.int i),[])
 | .bool b=>some (bC (.bl b),[])
 | .none=>some (bC .non,[])
 | .str x=>some (bC (.str x),[])
 | _=>none
def tyOf (x:Str):Option String:=if x = "int" then some "int" else if x = "bool" then some "bool" else if x = "str" then some "str" else if x = "list" then some "list" else if x = "tuple" then some "tuple" else if x = "dict" then some "dict" else none
def ql6 (x:Str):Option (List (PV×Nat)->Option (PV×Nat)):=
 if x = "len" then some zwe else if x = "all" then some zjb else if x = "max" then some zkx else if x = "min" then some zzd else if x = "sum" then some zgw
 else if x = "tuple" then some zkr else if x = "list" then some zvb else if x = "int" then some qe0 else if x = "abs" then some qe1 else if x = "str" then some qc4 else none
def zwc (scope sc:vd0):vd0:={ scope with names:=scope.names.map λ (n,k)=>if (k == .free && sc.kind == .function && sc.names.lookup n == some .cell) then (n,.cell) else (n,k) }
def junk (i:Nat):Str:=⟨#[2000000 + i]⟩
def zhm (sc':vd0):Nat->List Str->List Str
 | _,[]=>[]
 | i,x::r=>(if zwo sc' x .cell || zwo sc' x .free then x else junk i)::zhm sc' (i + 1) r
def zfj:List Expr->Option (List Str)
 | []=>some []
 | .Name x _::r=>(zfj r).map (x::·)
 | _=>none
def tgA (n:Nat):Expr->Option (List Str×(PV->Rho->Option Rho))
 | .Name x _=>some ([x],asgN n)
 | .Tuple es _ _=>(zfj es).map λ xs=>(xs,asgT (jl0 n xs.length))
 | _=>none
def isTg:Expr->Bool
 | .Tuple _ _ _=>true
 | _=>false
def zxe (S:Sx) (scope:vd0) (xs:List Str) (vI:List Nat):Sx:=⟨zhm (zwc scope S.sc) 0 S.N++xs,zwc scope S.sc,S.ms,(jc3 S.N.length).map S.alF++ja7 xs.length vI,S.Γ,S.Γm,false,S.xc,S.pn⟩
def zfy (S:Sx) (scope:vd0) (xs:List Str) (vI:List Nat):Bool:=
 let S':=zxe S scope xs vI
 decide (scope.kind=.function) && scope.names.all (λ x=>x.2 != .free || !(scope.names.contains (x.1,.cell))) && scope.names.all (λ x=>x.2 != .local || scope.names.lookup x.1 == some .local)
 && scope.names.all (λ x=>x.2 != .free || (S.sc.names.lookup x.1 == some .cell || S.sc.names.lookup x.1 == some .free))
 && (jc3 S.N.length).all (λ i=>match S'.N[i]? with
  | some x=>!visB S'.sc x || (decide (S.N[i]?=some x) && visB S.sc x && scope.names.contains (x,.free) && !zwo S'.sc x .local)
  | none=>true)
 && decide S'.N.Nodup && xs.all (λ x=>zwo S'.sc x .local || (zwo S'.sc x .cell && scope.names.contains (x,.cell))) && decide (S.N.length≠0) && (S.ms.all λ i=>decide (i < S.N.length))
inductive Iw where
 | rng (en:List (PV×Nat)->Option (Int×Int)) (fa:Fa) (vs:List Nat)
 | seq (f:Fx) (vs:List Nat)
 | vw (v:Vw) (fa:Fa) (vs:List Nat)
def Iw.vs:Iw->List Nat
 | .rng _ _ _=>[]
 | .seq _ vs=>vs
 | .vw _ _ vs=>vs
def twOk (tg:Expr):Iw->Bool
 | .vw .enm _ _=>isTg tg
 | .vw .zp _ _=>isTg tg
 | _=>true
def denI (d:Expr->Option D2) (S:Sx) (it:Expr):Option Iw:=match it with
 | .Call (.Name x _) [a] [] _=>if x = "range" /\ S.glob "range" = true then (match zjx d [a] with
   | some (fa,vs)=>some (.rng zqy fa vs)
   | none=>none) else if x = "reversed" /\ S.glob "reversed" = true then (match zjx d [a] with
   | some (fa,vs)=>some (.vw .rev fa vs)
   | none=>none) else (match d it with
   | some (f,vs)=>some (.seq f vs)
   | none=>none)
 | .Call (.Name x _) [a,b] [] _=>if x = "range" /\ S.glob "range" = true then (match zjx d [a,b] with
   | some (fa,vs)=>some (.rng zpj fa vs)
   | none=>none) else if x = "zip" /\ S.glob "zip" = true then (match zjx d [a,b] with
   | some (fa,vs)=>some (.vw .zp fa vs)
   | none=>none) else (match d it with
   | some (f,vs)=>some (.seq f vs)
   | none=>none)
 | _=>match d it with
   | some (f,vs)=>some (.seq f vs)
   | none=>none
def qgn (iw:Iw) (k:Nat) (asg:PV->Rho->Option Rho) (test:Fb) (elt:Fx):Fx:=match iw with
 | .rng en fa _=>zxs en fa k asg test elt
 | .seq f _=>zqp f k asg test elt
 | .vw v fa _=>zzw v fa k asg test elt
def zqr:Fb:=λ ρ=>.ok (true,ρ)
def qcd (d:Expr->Option D2):List Expr->Option Fb
 | []=>some zqr
 | [c]=>(d c).map λ p=>bT p.1
 | _=>none
def bMs (j:Nat) (i:Int):Fx:=λ ρ=>match ρ[j]? with
 | some (some (.lst xs,_))=>(match atI xs i with
  | some z=>if zjo z=true then .ok (z,om,ρ) else .no
  | none=>.no)
 | _=>.no
def qfk:Expr->Bool
 | .UnaryOp .USub c _=>(match c with
  | .Constant k _ _=>(match k with
   | .int i=>i == 1
   | _=>false)
  | _=>false)
 | _=>false
theorem qfj {e:Expr} (h:qfk e=true):∃ k p3 p4,e=.UnaryOp .USub (.Constant (.int 1) k p3) p4:=by
 unfold qfk at h
 split at h
 ·split at h
  ·split at h
   ·rename_i i
    have:i=1:=eq_of_beq h
    subst this
    exact ⟨_,_,_,rfl⟩
   ·cases h
  ·cases h
 ·cases h
def nmE:Expr->Option Str
 | .Name x _=>some x
 | _=>none
theorem zvu {e:Expr}{x:Str} (h:nmE e=some x):∃ p,e=.Name x p:=by
 cases e <;> first | (cases h;exact ⟨_,rfl⟩) | (cases h)
def ixC:Expr->Option Int
 | .Constant c _ _=>(match c with
  | .int i=>some i
  | _=>none)
 | _=>none
theorem qja {e:Expr}{i:Int} (h:ixC e=some i):∃ k p,e=.Constant (.int i) k p:=by
 unfold ixC at h
 split at h
 ·split at h
  ·cases h;exact ⟨_,_,rfl⟩
  ·cases h
 ·cases h
def qjg (d:Sx->Expr->Option D2) (S:Sx) (a:Expr):Option Expr->Option Expr->Option Expr->Option D2
 | none,some hi,none=>match d S a,d S hi with
  | some (f,v),some (g,_)=>some (bSl f none (some g),v)
  | _,_=>none
 | some lo,none,none=>match d S a,d S lo with
  | some (f,v),some (g,_)=>some (bSl f (some g) none,v)
  | _,_=>none
 | some lo,some hi,none=>match d S a,d S lo,d S hi with
  | some (f,v),some (g,_),some (h,_)=>some (bSl f (some g) (some h),v)
  | _,_,_=>none
 | _,_,_=>none
def qjf (d:Sx->Expr->Option D2) (S:Sx) (a b:Expr):Option D2:=match b with
 | .Slice lo hi st _=>qjg d S a lo hi st
 | b=>match nmE a,ixC b with
  | some x,some i=>(match S.slot x with
   | some j=>if S.msF j=true then some (bMs j i,[]) else some (bBin zqe (bVar j) (bC (.int i)),(j::S.alF j)++[])
   | none=>none)
  | _,_=>match d S a,d S b with
   | some (f,v),some (g,u)=>if zjd b=true then some (bBin zqe f g,v++u) else none
   | _,_=>none
def qih (S:Sx) (T:Str):Option Nat:=if S.glob T=true/\S.xc≠[] then (if T = "ValueError" then some 0 else match XN.findIdx? (·== T) with
 | some c=>if S.xc.contains c=true then some c else none
 | none=>none) else none
def qcl (S:Sx):List Expr->Option (List Nat)
 | []=>some []
 | e::r=>match nmE e,qcl S r with
  | some T,some ds=>(qih S T).map (·::ds)
  | _,_=>none
def qjj (d:Expr->Option D2) (S:Sx) (e c:Expr):Option D2:=match d e with
 | some (f,v)=>if S.glob "isinstance" = true then (match c with
  | .Name T _=>(match tyOf T with
   | some t=>if S.glob T=true then some (bUn (zwk t) f,v) else none
   | none=>(qih S T).map λ n=>(bUn (zvy [n]) f,v))
  | .Tuple es _ _=>if es.length<=100/\es≠[] then (qcl S es).map λ ns=>(bUn (zvy ns) f,v) else none
  | _=>none) else none
 | none=>none
def zvp (d:Sx->Expr->Option D2) (S:Sx):Expr->Option D2
 | .Constant c _ _=>denC c
 | .Name x _=>match S.slot x with
  | some i=>if S.msF i=true then none else some (bVar i,i::S.alF i)
  | none=>none
 | .BinOp a op b _=>match d S a,d S b,qpi op with
  | some (f,v),some (g,u),some o=>some (bBin o f g,v++u)
  | _,_,_=>none
 | .UnaryOp .USub a _=>match d S a with
  | some (f,v)=>some (bUn zxq f,v)
  | none=>none
 | .UnaryOp .Not a _=>match d S a with
  | some (f,v)=>some (bUn zqu f,v)
  | none=>none
 | .BoolOp .And es _=>qce (d S) es
 | .BoolOp .Or es _=>qic (d S) es
 | .Compare a [op] [b] _=>match d S a,d S b,ql3 b op with
  | some (f,v),some (g,u),some o=>some (bBin o f g,v++u)
  | _,_,_=>none
 | .Compare a [op,op'] [b,c] _=>match d S a,d S b,d S c,icmp op,icmp op' with
  | some (f,_),some (g,_),some (h,_),some p,some q=>some (zkg p q f g h,[])
  | _,_,_,_,_=>none
 | .List es _=>match zjx (d S) es with
  | some (fa,v)=>some (zqb zqf fa,v)
  | none=>none
 | .Tuple es _ _=>match zjx (d S) es with
  | some (fa,v)=>some (zqb zwn fa,v)
  | none=>none
 | .Dict [] [] _=>some (bC .emp,[])
 | .Subscript a b _=>qjf d S a b
 | .Call (.Name x _) args [] _=>
  if x = "isinstance" then (match args with
   | [e,c]=>qjj (d S) S e c
   | _=>none)
  else match ql6 x with
  | some o=>(match args with
   | e::es=>(match zjx (d S) (e::es) with
    | some (fa,v)=>if S.glob x=true then some (zqb o fa,v) else none
    | none=>none)
   | []=>none)
  | none=>match S.Γ.lookup x with
   | some (false,_,F)=>(match args with
    | e::es=>(match zjx (d S) (e::es) with
     | some (fa,v)=>if S.glob x=true then some (zqc F fa,v) else none
     | none=>none)
    | []=>none)
   | some (true,_,F)=>(match args with
    | .Name y _::es=>(match S.slot y,zjx (d S) es with
     | some i,some (fa,v)=>if S.glob x=true/\S.msF i=true then some (zqd F i fa,v) else none
     | _,_=>none)
    | _=>none)
   | none=>none
 | .ListComp elt [⟨tg,it,ifs,0⟩] scope _=>match tgA S.N.length tg,denI (d S) S it with
  | some (xs,asg),some iw=>if zfy S scope xs iw.vs=true/\twOk tg iw=true then (match qcd (d (zxe S scope xs iw.vs)) ifs,d (zxe S scope xs iw.vs) elt with
   | some t,some (g,vE)=>some (qgn iw xs.length asg t g,iw.vs++vE.filter (λ i=>decide (i < S.N.length)))
   | _,_=>none) else none
  | _,_=>none
 | _=>none
def den:Nat->Sx->Expr->Option D2
 | 0,_,_=>none
 | n + 1,S,e=>zvp (den n) S e
section
variable {X:Cx}{P:va8}{w:vb6}{K:Frag}{mg:Str->Option va0}{base:Heap}{lvl:Nat}{S:Sx}{Wx:St->Nat->Hp->Prop}{M:Fm}{f g:Fx}{vs vs':List Nat}{σ:St}{H:Hp}{Q:VK}
theorem qjw {Q:Bool->Hp->Prop} (hq:tT M (bT (zvh f g)) σ H Q):tAnd (tT M (bT f)) (tT M (bT g)) σ H Q:=by
 refine qmm ?_
 have e:bT (zvh f g)=bAnd (bT f) (bT g):=by
  funext ρ
  unfold bT zvh bAnd
  dsimp only
  cases f ρ with
  | no=>rfl
  | exc c=>rfl
  | ok p=>
   obtain ⟨x,d,ρ1⟩:=p
   cases x with
   | bl b=>cases b <;> rfl
   | _=>rfl
 rw [<- e];exact hq
theorem qmk {Q:Bool->Hp->Prop} (hq:tT M (bT (bOrV f g)) σ H Q):tOr (tT M (bT f)) (tT M (bT g)) σ H Q:=by
 refine qpn ?_
 have e:bT (bOrV f g)=bOr (bT f) (bT g):=by
  funext ρ
  unfold bT bOrV bOr
  dsimp only
  cases f ρ with
  | no=>rfl
  | exc c=>rfl
  | ok p=>
   obtain ⟨x,d,ρ1⟩:=p
   cases x with
   | bl b=>cases b <;> rfl
   | _=>rfl
 rw [<- e];exact hq
theorem qju {Q:Bool->Hp->Prop} (hq:tT M (bT (bUn zqu f)) σ H Q):tNot (tT M (bT f)) σ H Q:=by
 refine qml ?_
 have e:bT (bUn zqu f)=bNot (bT f):=by
  funext ρ
  unfold bT bUn bNot
  dsimp only
  cases f ρ with
  | no=>rfl
  | exc c=>rfl
  | ok p=>
   obtain ⟨x,d,ρ1⟩:=p
   cases x with
   | bl b=>cases b <;> rfl
   | _=>rfl
 rw [<- e];exact hq
theorem OwnL.getAny {K:Frag}{Z:Addr->Prop}:∀ {xs:List PV}{d:Nat}{ws:List V}{fp:List Addr}{i:Nat}{x:PV},OwnL K H Z xs d ws fp->xs[i]?=some x->∃ u f',ws[i]?=some u/\Own K H Z x d u f'
 | [],d,ws,fp,i,x,h,e=>by simp at e
 | y::xs,d,ws,fp,i,x,h,e=>by
  rw [OwnL] at h
  obtain ⟨v,s,f1,f2,rfl,ef,_,o1,o2⟩:=h
  cases i with
  | zero=>simp at e;subst e;exact ⟨v,f1,by simp,o1⟩
  | succ i=>obtain ⟨u,f',e1,e2⟩:=o2.getAny (i:=i) (x:=x) (by simpa using e);exact ⟨u,f',by simpa using e1,e2⟩
theorem qps {x:Str}{j:Nat}{i:Int}{p0 p1 pos:Pos}{k:Nat} (xs:XS X P w K mg base lvl S Wx) (h:S.slot x=some j) (hK:M.K=X.K):PE X (.Subscript (.Name x p0) (.Constant (.int i) k p1) pos) (tE M (bMs j i) []):=by
 refine zqv (qew zpf (xs.var h) zgu λ _ _=>rfl) λ σ H Q hq=>?_
 obtain ⟨ρ,fps,rep,q⟩:=hq
 unfold bMs at q
 cases e0:ρ[j]? with
 | none=>rw [e0] at q;exact q.elim
 | some s0=>
  rw [e0] at q
  cases s0 with
  | none=>exact q.elim
  | some p=>
   obtain ⟨z,d⟩:=p
   obtain ⟨v,hσ,o⟩:=rep.own j _ _ e0
   cases z with
   | lst ys=>
    dsimp only at q
    cases ea:atI ys i with
    | none=>rw [ea] at q;exact q.elim
    | some z=>
     rw [ea] at q
     dsimp only at q
     by_cases hz:zjo z=true
     ·rw [if_pos hz] at q
      have nx:∃ a ws d' f',v=.ref a/\H a=some (.lst ws)/\OwnL M.K H (Za M fps j) ys d' ws f':=by
       rw [Own] at o
       obtain ⟨a,ws,e,⟨_,hr,_,ol⟩ | ⟨_,f',ha,_,_,ol⟩⟩:=o
       ·exact ⟨a,ws,_,_,e,hr.1,ol⟩
       ·exact ⟨a,ws,_,_,e,ha,ol⟩
      obtain ⟨a,ws,d',f',rfl,ha,ol⟩:=nx
      have hw:∃ u f'',atI ws i=some u/\Own M.K H (Za M fps j) z d' u f'':=by
       unfold atI at ea ⊢
       rw [ol.length]
       cases ej:ixN ys.length i with
       | none=>rw [ej] at ea;cases ea
       | some m=>rw [ej] at ea;exact ol.getAny ea
      obtain ⟨u,f'',eu,ou⟩:=hw
      refine ⟨_,hσ,a,ws,i,u,rfl,rfl,.inl (.inl ha),eu,q u H fps [] KD.refl Agr.refl rep (Own.atom hz ou).2 ⟨λ _ z=>(nomatch z),λ _ z=>nomatch z⟩⟩
     ·rw [if_neg hz] at q;exact q.elim
   | _=>exact q.elim
def Good (P:va8) (w:vb6) (K:Frag) (mg:Str->Option va0) (base:Heap) (lvl:Nat) (S:Sx) (e:Expr) (f:Fx) (vs:List Nat):Prop:=
 (∀ i∈vs,S.msF i=false)/\zbu e=true/\∀ {Wx} X M,XS X P w K mg base lvl S Wx->MS M K S Wx->PE X e (tE M f vs)/\PT X e (tT M (bT f))
theorem MS.v (m:MS M K S Wx) (h:∀ i∈vs,S.msF i=false):∀ i∈vs,M.Ms i=false:=λ i hi=>by rw [m.ms];exact h i hi
theorem MS.k (m:MS M K S Wx) (xs:XS X P w K mg base lvl S Wx):M.K=X.K:=m.K.trans xs.K.symm
theorem zxd {e:Expr} (h1:∀ i∈vs,S.msF i=false) (h2:zbu e=true) (h3:∀ env whole,isTrue e env whole=(do let v<-whole;standAt e.pos;holding [v] (truthy v)))
  (h:∀ {Wx} X M,XS X P w K mg base lvl S Wx->MS M K S Wx->PE X e (tE M f vs)):Good P w K mg base lvl S e f vs:=
 ⟨h1,h2,λ X M xs m=>⟨h X M xs m,zgp (qnu (h X M xs m) λ wh=>h3 _ wh) λ σ H Q q=>qdp q⟩⟩
theorem zwh {vs vs':List Nat} (h1:∀ i∈vs,S.msF i=false) (h2:∀ i∈vs',S.msF i=false):∀ i∈vs++vs',S.msF i=false:=λ i hi=>(jc0.mp hi).elim (h1 i) (h2 i)
theorem qh1 {a b:Expr}{op:vk0}{o:PV->Nat->PV->Nat->Option (PV×Nat)}{pos:Pos} (ho:ql3 b op=some o) (ga:Good P w K mg base lvl S a f vs) (gb:Good P w K mg base lvl S b g vs'):Good P w K mg base lvl S (.Compare a [op] [b] pos) (bBin o f g) (vs++vs'):=by
 refine ⟨zwh ga.1 gb.1,rfl,λ X M xs m=>?_⟩
 obtain ⟨r,hr,hn,hi⟩:=qig (X:=X) (M:=M) (f:=f) (g:=g) (vs:=vs) (vs':=vs') ho xs.room.units (m.v ga.1) (m.k xs)
 have ha:=(ga.2.2 X M xs m).1
 have hb:=(gb.2.2 X M xs m).1
 exact ⟨zqv (qkw hr ha hb hn) hi,zgp (qko hr ha hb hn) λ σ H Q q=>hi σ H _ (qdp q)⟩
theorem qdc {a b c:Expr}{op op':vk0}{p q:Int->Int->Bool}{h:Fx}{v3:List Nat}{pos:Pos} (h1:icmp op=some p) (h2:icmp op'=some q) (ga:Good P w K mg base lvl S a f vs) (gb:Good P w K mg base lvl S b g vs') (gc:Good P w K mg base lvl S c h v3):Good P w K mg base lvl S (.Compare a [op,op'] [b,c] pos) (zkg p q f g h) []:=by
 refine ⟨λ _ z=>(nomatch z),rfl,λ X M xs m=>?_⟩
 have r1:=zhl (X:=X) h1
 have r2:=zhl (X:=X) h2
 have ha:=(ga.2.2 X M xs m).1
 have hb:=(gb.2.2 X M xs m).1
 have hc:=(gc.2.2 X M xs m).1
 exact ⟨zqv (qhk r1.1 r2.1 ha hb hc (zzt _ r2.2.1 r2.2.2)) λ σ H Q q=>qbf q,zgp (qhe r1.1 r2.1 ha hb hc (zzt _ r2.2.1 r2.2.2)) λ σ H Q q=>qbf (vs:=[]) (qdp q)⟩
theorem qh0 {a:Expr}{pos:Pos} (ga:Good P w K mg base lvl S a f vs):Good P w K mg base lvl S (.UnaryOp .Not a pos) (bUn zqu f) vs:=
 ⟨ga.1,rfl,λ X M xs m=>⟨zqv (qn3 (ga.2.2 X M xs m).1) λ σ H Q q=>qj3 q,zgp (qnv (ga.2.2 X M xs m).2) λ σ H Q q=>qju q⟩⟩
theorem zhr {d:Expr->Option D2} (hd:∀ e f vs,d e=some (f,vs)->Good P w K mg base lvl S e f vs) {pos:Pos}:∀ (es:List Expr) (f:Fx) (vs:List Nat),qce d es=some (f,vs)->(∀ i∈vs,S.msF i=false)/\∀ {Wx} X M,XS X P w K mg base lvl S Wx->MS M K S Wx->PE X (.BoolOp .And es pos) (tE M f vs)/\PW X (.BoolOp .And es pos) (tT M (bT f))
 | [],f,vs,h=>by cases h
 | [e],f,vs,h=>by
  have g:=hd e f vs h
  exact ⟨g.1,λ X M xs m=>⟨qi4 (g.2.2 X M xs m).1,qkj (g.2.2 X M xs m).2⟩⟩
 | e::e'::es,f,vs,h=>by
  unfold qce at h
  split at h
  ·rename_i f1 v1 f2 v2 h1 h2
   cases h
   have g1:=hd e f1 v1 h1
   have g2:=zhr hd (pos:=pos) (e'::es) f2 v2 h2
   exact ⟨zwh g1.1 g2.1,λ X M xs m=>⟨zqv (qn6 (g1.2.2 X M xs m).1 (g2.2 X M xs m).1) λ σ H Q q=>qj5 q,qiz (qnt (g1.2.2 X M xs m).2 (g2.2 X M xs m).2) λ σ H Q q=>qjw q⟩⟩
  ·cases h
theorem qcc {d:Expr->Option D2} (hd:∀ e f vs,d e=some (f,vs)->Good P w K mg base lvl S e f vs) {pos:Pos}:∀ (es:List Expr) (f:Fx) (vs:List Nat),qic d es=some (f,vs)->(∀ i∈vs,S.msF i=false)/\∀ {Wx} X M,XS X P w K mg base lvl S Wx->MS M K S Wx->PE X (.BoolOp .Or es pos) (tE M f vs)/\PW X (.BoolOp .Or es pos) (tT M (bT f))
 | [],f,vs,h=>by cases h
 | [e],f,vs,h=>by
  have g:=hd e f vs h
  exact ⟨g.1,λ X M xs m=>⟨qi4 (g.2.2 X M xs m).1,qns (g.2.2 X M xs m).2⟩⟩
 | e::e'::es,f,vs,h=>by
  unfold qic at h
  split at h
  ·rename_i f1 v1 f2 v2 h1 h2
   cases h
   have g1:=hd e f1 v1 h1
   have g2:=qcc hd (pos:=pos) (e'::es) f2 v2 h2
   exact ⟨zwh g1.1 g2.1,λ X M xs m=>⟨zqv (qpw (g1.2.2 X M xs m).1 (g2.2 X M xs m).1) λ σ H Q q=>qm1 q,qiz (qpv (g1.2.2 X M xs m).2 (g2.2 X M xs m).2) λ σ H Q q=>qmk q⟩⟩
  ·cases h
theorem zww {d:Expr->Option D2} (hd:∀ e f vs,d e=some (f,vs)->Good P w K mg base lvl S e f vs):∀ (es:List Expr) (fa:Fa) (vs:List Nat),zjx d es=some (fa,vs)->(∀ i∈vs,S.msF i=false)/\es.all zbu=true/\∀ {Wx} X M,XS X P w K mg base lvl S Wx->MS M K S Wx->PA X es (tL M fa vs)
 | [],fa,vs,h=>by cases h;exact ⟨λ _ z=>(nomatch z),rfl,λ X M _ _=>qnk⟩
 | e::es,fa,vs,h=>by
  unfold zjx at h
  split at h
  ·rename_i f1 v1 f2 v2 h1 h2
   cases h
   have g1:=hd e f1 v1 h1
   have g2:=zww hd es f2 v2 h2
   exact ⟨zwh g1.1 g2.1,by rw [je1,g1.2.1,g2.2.1];rfl,λ X M xs m=>qkg (m.v g1.1) (g1.2.2 X M xs m).1 (g2.2.2 X M xs m) (zqz (zqq g1.2.1))⟩
  ·cases h
theorem zyy (scope:vd0) (env:Env):vh3 scope env=zwc scope env.scope:=rfl
theorem zkv {x:Str}{k:vc8}{sc:vd0}:∀ (l:List (Str×vc8)),(k=.cell\/k=.free)->(l.map λ (n,k)=>if (k == NameKind.free && sc.kind == .function && sc.names.lookup n == some .cell) then (n,NameKind.cell) else (n,k)).lookup x=some k->(x,NameKind.free)∈l\/(x,NameKind.cell)∈l
 | [],_,h=>by simp at h
 | (n,j)::r,hk,h=>by
  rw [jc8] at h
  have ih:=zkv (x:=x) (k:=k) (sc:=sc) r hk
  dsimp only at h
  by_cases hj:(j == NameKind.free && sc.kind == .function && sc.names.lookup n == some .cell)=true
  ·rw [if_pos hj,jd8] at h
   split at h
   ·rename_i hx
    rw [ja4,ja4] at hj
    have e1:x=n:=eq_of_beq hx
    have e2:j=.free:=eq_of_beq hj.1.1
    rw [e1,e2];exact .inl ja3
   ·exact (ih h).imp (ja0 _) (ja0 _)
  ·rw [if_neg hj,jd8] at h
   split at h
   ·rename_i hx
    have e1:x=n:=eq_of_beq hx
    have e2:j=k:=Option.some.inj h
    rcases hk with z | z
    ·rw [e1,e2,z];exact .inr ja3
    ·rw [e1,e2,z];exact .inl ja3
   ·exact (ih h).imp (ja0 _) (ja0 _)
theorem zvf (sc':vd0):∀ (N:List Str) (i:Nat),(zhm sc' i N).length=N.length
 | [],_=>rfl
 | x::r,i=>by rw [zhm,jb4,zvf sc' r (i + 1),jb4]
structure ChkOk (S:Sx) (scope:vd0) (xs:List Str) (vI:List Nat):Prop where
 kind:scope.kind=.function
 dis:∀ x,(x,NameKind.free)∈scope.names->(x,NameKind.cell)∉scope.names
 names:∀ x∈scope.names,x.2=.local->scope.names.lookup x.1=some .local
 free:∀ x∈scope.names,x.2=.free->S.sc.names.lookup x.1=some .cell\/S.sc.names.lookup x.1=some .free
 capt:∀ (i:Nat) (x:Str),i < S.N.length->(zxe S scope xs vI).N[i]?=some x->Vis (zwc scope S.sc) x->S.N[i]?=some x/\Vis S.sc x/\(x,NameKind.free)∈scope.names/\(zwc scope S.sc).names.lookup x≠some .local
 nd:(zxe S scope xs vI).N.Nodup
 loc:∀ x∈xs,(zwc scope S.sc).names.lookup x=some .local\/((zwc scope S.sc).names.lookup x=some .cell/\(x,NameKind.cell)∈scope.names)
 pos:S.N.length≠0
 ms:∀ i∈S.ms,i < S.N.length
theorem qjr {sc:vd0}{x:Str} (h:Vis sc x):visB sc x=true:=by
 unfold visB zwo
 rcases h with h | h | h <;> rw [h] <;> simp
theorem qjn {scope:vd0}{xs:List Str}{vI:List Nat} (h:zfy S scope xs vI=true):ChkOk S scope xs vI:=by
 unfold zfy at h
 simp only [ja4,decide_eq_true_eq,jc4,bne_iff_ne,ne_eq,jf2] at h
 obtain ⟨⟨⟨⟨⟨⟨⟨⟨h1,h2⟩,h3⟩,h4⟩,h5⟩,h6⟩,h7⟩,h8⟩,h9⟩:=h
 refine ⟨h1,λ x hx hz=>(h2 (x,.free) hx).elim (λ z=>z rfl) λ z=>?_,λ x hx he=>(h3 x hx).elim (λ z=>absurd he z) λ z=>eq_of_beq z,λ x hx he=>(h4 x hx).elim (λ z=>absurd he z) λ z=>z.elim (λ z=>.inl (eq_of_beq z)) λ z=>.inr (eq_of_beq z),λ i x hi e hv=>?_,h6,λ x hx=>(h7 x hx).imp zxv λ z=>⟨zxv z.1,by simpa using z.2⟩,h8,h9⟩
 ·have z':(!(scope.names.contains (x,NameKind.cell)))=true:=z
  have:scope.names.contains (x,NameKind.cell)=true:=by simpa using hz
  rw [this] at z';cases z'
 have q:=h5 i (jd3.mpr hi)
 rw [e] at q
 dsimp only at q
 rw [jf2] at q
 rcases q with q | q
 ·have:visB (zwc scope S.sc) x=true:=qjr hv
  have q':(!visB (zwc scope S.sc) x)=true:=q
  rw [this] at q';cases q'
 ·simp only [ja4,decide_eq_true_eq,jj8] at q
  obtain ⟨⟨⟨q1,q2⟩,q3⟩,q4⟩:=q
  refine ⟨q1,qir q2,by simpa using q3,λ z=>?_⟩
  have:zwo (zwc scope S.sc) x .local=true:=by unfold zwo;rw [z];simp
  have q4':zwo (zwc scope S.sc) x .local=false:=q4
  rw [this] at q4';cases q4'
theorem ChkOk.comp {scope:vd0}{ys:List Str}{vI:List Nat} (c:ChkOk S scope ys vI) (xs:XS X P w K mg base lvl S Wx):CompOk X scope (zxe S scope ys vI).N ys.length where
 kind:=c.kind
 dis:=c.dis
 names:=c.names
 len:=by
  show (zhm _ 0 S.N++ys).length=_
  rw [jb1,zvf,xs.N]
 free:=λ x hx he=>by
  show X.env.scope.names.lookup x.1=_\/X.env.scope.names.lookup x.1=_
  rw [xs.sc];exact c.free x hx he
 kinds:=λ x h=>by
  rcases h with h | h
  ·exact zkv (sc:=X.env.scope) scope.names (.inl rfl) h
  ·exact zkv (sc:=X.env.scope) scope.names (.inr rfl) h
 capt:=λ i x hi e hv=>by
  rw [zyy,xs.sc] at hv ⊢
  rw [xs.N] at hi ⊢
  exact c.capt i x hi e hv
theorem ChkOk.xs {scope:vd0}{ys:List Str}{vI:List Nat} (c:ChkOk S scope ys vI) (xs:XS X P w K mg base lvl S Wx) (s2:va1) (H2:Hp) (C:Addr) (fp:List Addr) (pins:List (Addr×Obj)):XS (zqw X s2 H2 scope C (zxe S scope ys vI).N fp pins) P w K mg base lvl (zxe S scope ys vI) W0:=
 ⟨xs.prog,xs.w,xs.K,xs.mg,xs.base,rfl,by show vh3 scope X.env=_;rw [zyy,xs.sc];rfl,xs.calm,xs.room,PassesOwn.never,qn7,λ h=>nomatch h⟩
theorem zgd {scope:vd0}{ys:List Str}{vI:List Nat} (i:Nat):(zxe S scope ys vI).alF i=if i < S.N.length then S.alF i else if i < S.N.length + ys.length then vI else []:=by
 unfold Sx.alF zxe
 dsimp only
 rw [ja2]
 by_cases h:i < S.N.length
 ·rw [jc2 (by simpa using h),if_pos h]
  simp [h,Sx.alF,ja2]
 ·rw [jc9 (by simpa using h),if_neg h,je8]
  simp only [ja1,je5]
  by_cases h2:i < S.N.length + ys.length
  ·rw [if_pos h2,if_pos (by omega)];rfl
  ·rw [if_neg h2,if_neg (by omega)];rfl
theorem ChkOk.ms' {scope:vd0}{ys:List Str}{vI:List Nat} (c:ChkOk S scope ys vI) (m:MS M K S Wx) (hv:∀ i∈vI,S.msF i=false) (D:Addr):MS (M.comp D S.N.length vI) K (zxe S scope ys vI) W0 where
 W:=rfl
 K:=m.K
 ms:=m.ms
 al:=λ i hi=>by
  rw [zgd]
  show (if i < S.N.length then M.al i else vI)=_
  have hl:(zxe S scope ys vI).N.length=S.N.length + ys.length:=by
   show (zhm _ 0 S.N++ys).length=_
   rw [jb1,zvf]
  rw [hl] at hi
  by_cases h:i < S.N.length
  ·rw [if_pos h,if_pos h];exact m.al i h
  ·rw [if_neg h,if_neg h,if_pos hi]
 pn:=λ p hp=>by
  have h:=m.pn p hp
  show p.1 < (zhm _ 0 S.N++ys).length
  rw [jb1,zvf]
  omega
 als:=λ i j hj=>by
  have hj':j∈(if i < S.N.length then M.al i else vI):=hj
  show M.Ms j=false
  by_cases h:i < S.N.length
  ·rw [if_pos h] at hj';exact m.als i j hj'
  ·rw [if_neg h] at hj';rw [m.ms];exact hv j hj'
theorem zft {n:Nat}{iter:Expr}{env:Env}{f:Fx}{vs:List Nat} (h:(∀ a b c,iter≠.Set a b c)):∀ x,vf6 iter env x=pure x:=by
 intro x
 cases iter with
 | Set a b c=>exact absurd rfl (h a b c)
 | _=>rfl
end
section
variable {X:Cx}{P:va8}{w:vb6}{K:Frag}{mg:Str->Option va0}{base:Heap}{lvl:Nat}{S:Sx}{Wx:St->Nat->Hp->Prop}{M:Fm}{f g:Fx}{vs vs':List Nat}{σ:St}{H:Hp}{Q:VK}
theorem qjs {T:Str}{t:String} (h:tyOf T=some t):t∈isiT/\T∈zkf/\ve5 T=some (.type t)/\(T == ("__debug__" : Str))=false/\T ≠ "__name__" := by
 unfold tyOf at h
 split at h
 ·rename_i e;cases h;rw [e];exact ⟨by decide,by decide +kernel,rfl,by decide +kernel,by decide +kernel⟩
 ·split at h
  ·rename_i e;cases h;rw [e];exact ⟨by decide,by decide +kernel,rfl,by decide +kernel,by decide +kernel⟩
  ·split at h
   ·rename_i e;cases h;rw [e];exact ⟨by decide,by decide +kernel,rfl,by decide +kernel,by decide +kernel⟩
   ·split at h
    ·rename_i e;cases h;rw [e];exact ⟨by decide,by decide +kernel,rfl,by decide +kernel,by decide +kernel⟩
    ·split at h
     ·rename_i e;cases h;rw [e];exact ⟨by decide,by decide +kernel,rfl,by decide +kernel,by decide +kernel⟩
     ·split at h
      ·rename_i e;cases h;rw [e];exact ⟨by decide,by decide +kernel,rfl,by decide +kernel,by decide +kernel⟩
      ·cases h
theorem qng {x:Str}{o:List (PV×Nat)->Option (PV×Nat)}{e:Expr}{es:List Expr}{fa:Fa}{p pos:Pos} (h:ql6 x=some o) (xs:XS X P w K mg base lvl S Wx) (m:MS M K S Wx) (hb:∀ x∈zkf,mg x=none) (hg:S.glob x=true) (hs:(e::es).all zbu=true) (ha:PA X (e::es) (tL M fa vs)):
  PE X (.Call (.Name x p) (e::es) [] pos) (tE M (zqb o fa) vs):=by
 rw [je1,ja4] at hs
 have h1:va4 (e::es) X.env=(false,eval e X.env)::va4 es X.env:=zqz (zqq hs.1)
 have h2:(vd4 pos (va4 es X.env)).any (·.1)=false:=zba hs.2
 have hm:∀ x∈zkf,X.mg x=none:=λ x hx=>by rw [xs.mg];exact hb x hx
 unfold ql6 at h
 split at h
 ·rename_i ex;cases h;subst ex;exact qnc (m.k xs) (xs.gl hg) (hm _ (by decide +kernel)) ha h1 h2
 ·split at h
  ·rename_i ex;cases h;subst ex;exact qnh xs.calm (xs.gl hg) (hm _ (by decide +kernel)) ha h1 h2
  ·split at h
   ·rename_i ex;cases h;subst ex;exact qkc xs.calm (xs.gl hg) (hm _ (by decide +kernel)) ha h1 h2
   ·split at h
    ·rename_i ex;cases h;subst ex;exact qkb xs.calm (xs.gl hg) (hm _ (by decide +kernel)) ha h1 h2
    ·split at h
     ·rename_i ex;cases h;subst ex;exact qka xs.calm (xs.gl hg) (hm _ (by decide +kernel)) ha h1 h2
     ·split at h
      ·rename_i ex;cases h;subst ex;exact qj9 (m.k xs) (xs.gl hg) (hm _ (by decide +kernel)) ha h1 h2
      ·split at h
       ·rename_i ex;cases h;subst ex;exact qkd (m.k xs) (xs.gl hg) (hm _ (by decide +kernel)) ha h1 h2
       ·split at h
        ·rename_i ex;cases h;subst ex;exact qkf (xs.gl hg) (hm _ (by decide +kernel)) ha h1 h2
        ·split at h
         ·rename_i ex;cases h;subst ex;exact qnj (xs.gl hg) (hm _ (by decide +kernel)) ha h1 h2
         ·split at h
          ·rename_i ex;cases h;subst ex;exact qm8 xs.room.units xs.room.gd (m.k xs) (xs.gl hg) (hm _ (by decide +kernel)) ha h1 h2
          ·cases h
def IwOk (P:va8) (w:vb6) (K:Frag) (mg:Str->Option va0) (base:Heap) (lvl:Nat) (S:Sx) (it:Expr) (iw:Iw):Prop:=
 (∀ i∈iw.vs,S.msF i=false)/\(∀ a b c,it≠.Set a b c)/\∀ {Wx} X M,XS X P w K mg base lvl S Wx->MS M K S Wx->∀ tg,(match iw with
  | .rng en fa vs=>(en=zqy/\PI X tg it (qhw (tL M fa vs)))\/(en=zpj/\PI X tg it (qhv (tL M fa vs)))
  | .seq f vs=>PI X tg it (iSeq M.K (tE M f vs))
  | .vw v fa vs=>twOk tg (.vw v fa vs)=true->PI X tg it (iVw v M.K (tL M fa vs)))
theorem qhz {it:Expr} (g:Good P w K mg base lvl S it f vs) (hs:∀ a b c,it≠.Set a b c):IwOk P w K mg base lvl S it (.seq f vs):=
 ⟨g.1,hs,λ X M xs m tg=>by
  show PI X tg it (iSeq M.K (tE M f vs))
  rw [m.k xs];exact qn0 (g.2.2 X M xs m).1⟩
theorem zfv {d:Expr->Option D2} (hd:∀ e f vs,d e=some (f,vs)->Good P w K mg base lvl S e f vs) (hset:∀ a b c,d (.Set a b c)=none) (hb:∀ x∈zkf,mg x=none) {it:Expr}{iw:Iw} (h:denI d S it=some iw):IwOk P w K mg base lvl S it iw:=by
 have seq:∀ {it:Expr}{iw:Iw},(match d it with
   | some (f,vs)=>some (Iw.seq f vs)
   | none=>none)=some iw->IwOk P w K mg base lvl S it iw:=λ {it iw} h=>by
  cases e:d it with
  | none=>rw [e] at h;cases h
  | some p=>
   obtain ⟨f,vs⟩:=p
   rw [e] at h;cases h
   exact qhz (hd _ _ _ e) λ a b c z=>by rw [z,hset] at e;cases e
 unfold denI at h
 split at h
 ·rename_i x p a pos
  split at h
  ·rename_i hc
   obtain ⟨rfl,hg⟩:=hc
   split at h
   ·rename_i fa vs e
    cases h
    have g:=zww hd _ _ _ e
    refine ⟨λ _ z=>(nomatch z),λ _ _ _ z=>(nomatch z),λ X M xs m tg=>.inl ⟨rfl,?_⟩⟩
    have hs:=g.2.1
    simp only [je1,jm9,jk8] at hs
    exact qes (xs.gl hg) (by rw [xs.mg];exact hb _ (by decide +kernel)) (g.2.2 X M xs m) (zqz (zqq hs))
   ·cases h
  ·split at h
   ·rename_i hc
    obtain ⟨rfl,hg⟩:=hc
    split at h
    ·rename_i fa vs e
     cases h
     have g:=zww hd _ _ _ e
     refine ⟨g.1,λ _ _ _ z=>(nomatch z),λ X M xs m tg _=>?_⟩
     have hs:=g.2.1
     simp only [je1,jm9,jk8] at hs
     rw [m.k xs]
     exact qn1 (xs.gl hg) (by rw [xs.mg];exact hb _ (by decide +kernel)) (g.2.2 X M xs m) (zqz (zqq hs))
    ·cases h
   ·exact seq h
 ·rename_i x p a b pos
  split at h
  ·rename_i hc
   obtain ⟨rfl,hg⟩:=hc
   split at h
   ·rename_i fa vs e
    cases h
    have g:=zww hd _ _ _ e
    refine ⟨λ _ z=>(nomatch z),λ _ _ _ z=>(nomatch z),λ X M xs m tg=>.inr ⟨rfl,?_⟩⟩
    have hs:=g.2.1
    simp only [je1,jm9,jk8,ja4] at hs
    have s2:va4 [b] X.env=[(false,eval b X.env)]:=zqz (zqq hs.2)
    exact qer (xs.gl hg) (by rw [xs.mg];exact hb _ (by decide +kernel)) (g.2.2 X M xs m) (by rw [zqz (zqq hs.1),s2]) s2
   ·cases h
  ·split at h
   ·rename_i hc
    obtain ⟨rfl,hg⟩:=hc
    split at h
    ·rename_i fa vs e
     cases h
     have g:=zww hd _ _ _ e
     refine ⟨g.1,λ _ _ _ z=>(nomatch z),λ X M xs m tg ht=>?_⟩
     have hs:=g.2.1
     simp only [je1,jm9,jk8,ja4] at hs
     have s2:va4 [b] X.env=[(false,eval b X.env)]:=zqz (zqq hs.2)
     rw [m.k xs]
     cases tg with
     | Tuple es k tp=>exact qnz (xs.gl hg) (by rw [xs.mg];exact hb _ (by decide +kernel)) (g.2.2 X M xs m) (by rw [zqz (zqq hs.1),s2]) s2
     | _=>cases ht
    ·cases h
   ·exact seq h
 ·exact seq h
theorem qg1 {σ:St}{H:Hp}{Q:Bool->Hp->Prop} (h:∃ M',MS M' K S Wx/\tT M' zqr σ H Q):Q true H:=by
 obtain ⟨M',_,ρ,fps,rep,q⟩:=h
 exact q H fps KD.refl Agr.refl rep
structure CompParts (P:va8) (w:vb6) (K:Frag) (mg:Str->Option va0) (base:Heap) (lvl:Nat) (S:Sx) (scope:vd0) (tg:Expr) (ys:List Str) (asg:PV->Rho->Option Rho) (it elt:Expr) (ifs:List Expr) (iw:Iw) (t:Fb) (g:Fx) (vE:List Nat):Prop where
 tga:tgA S.N.length tg=some (ys,asg)
 two:twOk tg iw=true
 chk:ChkOk S scope ys iw.vs
 iwo:IwOk P w K mg base lvl S it iw
 elt:Good P w K mg base lvl (zxe S scope ys iw.vs) elt g vE
 ifs:∀ {Wx} X M,XS X P w K mg base lvl (zxe S scope ys iw.vs) Wx->MS M K (zxe S scope ys iw.vs) Wx->PTs X ifs (λ σ H Q=>∃ M',MS M' K (zxe S scope ys iw.vs) Wx/\tT M' t σ H Q)
theorem qf3 {scope:vd0}{tg:Expr}{ys:List Str}{asg:PV->Rho->Option Rho}{it elt:Expr}{ifs:List Expr}{iw:Iw}{t:Fb}{vE:List Nat} (c:CompParts P w K mg base lvl S scope tg ys asg it elt ifs iw t g vE):∀ i∈iw.vs++vE.filter (λ i=>decide (i < S.N.length)),S.msF i=false:=
 zwh c.iwo.1 λ i hi=>c.elt.1 i (jh2.mp hi).1
theorem zgt {X':Cx}:∀ {es:List Expr}{ys:List Str}{n:Nat},zfj es=some ys->X'.N.Nodup->(∀ j y,ys[j]?=some y->X'.N[n + j]?=some y)->(∀ y∈ys,Loc X'.env.scope y/\(X'.fn y=true\/X'.env.scope.names.lookup y=some .local))->PGs X' es (zmf (jl0 n ys.length))/\(vc5 es X'.env).length=ys.length/\(vc5 es X'.env).findIdx? (·.1)=none
 | [],ys,n,h,_,_,_=>by cases h;exact ⟨qet,rfl,rfl⟩
 | e::es,ys,n,h,hN,hi,hl=>by
  unfold zfj at h
  split at h
  ·cases ‹_::_=[]›
  ·rename_i x px r heq
   cases heq
   obtain ⟨zs,h2,rfl⟩:=jb9.mp h
   have hx:=hl x ja3
   obtain ⟨h1,h3,h4⟩:=zgt (n:=n + 1) h2 hN (λ j y e=>by rw [show n + 1 + j=n + (j + 1) by omega];exact hi (j + 1) y (by simpa using e)) λ y hy=>hl y (ja0 _ hy)
   rw [jb4,jo8]
   refine ⟨qbu (zfc hN (by have:=hi 0 x rfl;simpa using this) hx.1 hx.2) h1 rfl,by rw [vc5,jb4,h3] <;> (intros;contradiction),?_⟩
   rw [vc5,jl7,h4] <;> first | rfl | (intros;contradiction)
  ·cases h
theorem zmn {scope:vd0}{tg:Expr}{ys:List Str}{asg:PV->Rho->Option Rho}{pos:Pos}{it elt:Expr}{ifs:List Expr}{iw:Iw}{t:Fb}{vE:List Nat} (c:CompParts P w K mg base lvl S scope tg ys asg it elt ifs iw t g vE) (xs:XS X P w K mg base lvl S Wx) (m:MS M K S Wx):
  ∃ wi gg,PI X tg it wi/\CompOk X scope (zxe S scope ys iw.vs).N ys.length/\(∀ s2 H2 C fp pins,PG (zqw X s2 H2 scope C (zxe S scope ys iw.vs).N fp pins) tg gg) /\
   (∀ s2 H2 C fp pins,PTs (zqw X s2 H2 scope C (zxe S scope ys iw.vs).N fp pins) ifs (λ σ H Q=>∃ M',MS M' K (zxe S scope ys iw.vs) W0/\tT M' t σ H Q)) /\
   (∀ s2 H2 C fp pins,PE (zqw X s2 H2 scope C (zxe S scope ys iw.vs).N fp pins) elt (λ σ H Q=>∃ M',MS M' K (zxe S scope ys iw.vs) W0/\tE M' g vE σ H Q)) /\
   ∀ σ H Q,σ.length=S.N.length->tE M (qgn iw ys.length asg t g) (iw.vs++vE.filter (λ i=>decide (i < S.N.length))) σ H Q ->
    qai ys.length wi gg (λ σ H Q=>∃ M',MS M' K (zxe S scope ys iw.vs) W0/\tT M' t σ H Q) (λ σ H Q=>∃ M',MS M' K (zxe S scope ys iw.vs) W0/\tE M' g vE σ H Q) σ H Q:=by
 have hvI:=m.v c.iwo.1
 have hP:∀ D,MS (M.comp D S.N.length iw.vs) K (zxe S scope ys iw.vs) W0:=λ D=>c.chk.ms' m c.iwo.1 D
 have hvE:∀ i∈vE,M.Ms i=false:=λ i hi=>by rw [m.ms];exact c.elt.1 i hi
 have hvo:∀ i,i∈vE->i < S.N.length->i∈iw.vs++vE.filter (λ i=>decide (i < S.N.length)):=λ i h1 h2=>ja5 _ (jh2.mpr ⟨h1,by simpa using h2⟩)
 have hvo2:=m.v (qf3 c)
 have bd:∀ D i,S.N.length<=i->Bd (M.comp D S.N.length iw.vs) iw.vs i:=λ D i hi=>⟨by
   show M.Ms i=false
   rw [m.ms]
   unfold Sx.msF
   cases e:S.ms.contains i with
   | false=>rfl
   | true=>exact absurd (c.chk.ms _ (by simpa using e)) (by omega),⟨λ _=>by have:=c.chk.pos;omega,λ p hp=>by have:=m.pn p hp;omega⟩,if_neg (by omega),(hP D).als⟩
 have hix:∀ j y,ys[j]?=some y->(zxe S scope ys iw.vs).N[S.N.length + j]?=some y:=λ j y e=>by
  show (zhm _ 0 S.N++ys)[S.N.length + j]?=some y
  rw [jc9 (by rw [zvf];omega),zvf]
  simpa using e
 have hloc:∀ s2 H2 C fp pins,∀ y∈ys,Loc (zqw X s2 H2 scope C (zxe S scope ys iw.vs).N fp pins).env.scope y/\((zqw X s2 H2 scope C (zxe S scope ys iw.vs).N fp pins).fn y=true\/(zqw X s2 H2 scope C (zxe S scope ys iw.vs).N fp pins).env.scope.names.lookup y=some .local):=λ s2 H2 C fp pins y hy=>by
  have e:(zqw X s2 H2 scope C (zxe S scope ys iw.vs).N fp pins).env.scope=zwc scope S.sc:=by
   show vh3 scope X.env=_
   rw [zyy,xs.sc]
  rw [e]
  rcases c.chk.loc y hy with z | z
  ·exact ⟨.inl z,.inr z⟩
  ·exact ⟨.inr z.1,.inl (by show scope.names.contains (y,NameKind.cell)=true;simpa using z.2)⟩
 have hpe:∀ s2 H2 C fp pins,PE (zqw X s2 H2 scope C (zxe S scope ys iw.vs).N fp pins) elt (λ σ H Q=>∃ M',MS M' K (zxe S scope ys iw.vs) W0/\tE M' g vE σ H Q):=λ s2 H2 C fp pins pi s σ H Q I ⟨M',m',q⟩=>
  (c.elt.2.2 _ M' (c.chk.xs xs s2 H2 C fp pins) m').1 pi s σ H Q I q
 have hpt:∀ s2 H2 C fp pins,PTs (zqw X s2 H2 scope C (zxe S scope ys iw.vs).N fp pins) ifs (λ σ H Q=>∃ M',MS M' K (zxe S scope ys iw.vs) W0/\tT M' t σ H Q):=λ s2 H2 C fp pins=>c.ifs _ (M.comp 0 S.N.length iw.vs) (c.chk.xs xs s2 H2 C fp pins) (hP 0)
 have tgp:∃ is gg,(∀ i∈is,S.N.length<=i)/\(∀ D,GOk (M.comp D S.N.length iw.vs) iw.vs is gg asg)/\∀ s2 H2 C fp pins,PG (zqw X s2 H2 scope C (zxe S scope ys iw.vs).N fp pins) tg gg:=by
  have ht:=c.tga
  unfold tgA at ht
  split at ht
  ·rename_i y py
   cases ht
   refine ⟨[S.N.length],zjw S.N.length,λ i hi=>by rw [jb7.mp hi];exact jb8 _,λ D=>qjd (bd D _ (jb8 _)),λ s2 H2 C fp pins=>?_⟩
   exact zfc c.chk.nd (hix 0 y rfl) (hloc s2 H2 C fp pins y (by simp)).1 (hloc s2 H2 C fp pins y (by simp)).2
  ·rename_i es k tp
   obtain ⟨zs,h2,e⟩:=jb9.mp ht
   cases e
   refine ⟨jl0 S.N.length ys.length,gTup M.K ys.length (zmf (jl0 S.N.length ys.length)),λ i hi=>(jo2.mp hi).1,λ D=>?_,λ s2 H2 C fp pins=>?_⟩
   ·have:=qlq (M:=M.comp D S.N.length iw.vs) (al:=iw.vs) (is:=jl0 S.N.length ys.length) λ i hi=>bd D i (jo2.mp hi).1
    rw [List.length_range'] at this
    exact this
   ·obtain ⟨h1,h3,h4⟩:=zgt (X':=zqw X s2 H2 scope C (zxe S scope ys iw.vs).N fp pins) (n:=S.N.length) h2 c.chk.nd hix (hloc s2 H2 C fp pins)
    have:=qeu (X:=zqw X s2 H2 scope C (zxe S scope ys iw.vs).N fp pins) (pos:=tp) (k:=k) xs.calm h1 h3 h4
    have e:(zqw X s2 H2 scope C (zxe S scope ys iw.vs).N fp pins).K=M.K:=(m.k xs).symm
    rw [e] at this
    exact this
  ·cases ht
 obtain ⟨is,gg,his,hg,hpg⟩:=tgp
 have hw:=c.iwo.2.2 X M xs m tg
 have htw:=c.two
 cases iw with
 | rng en fa vs=>
  rcases hw with ⟨rfl,hw⟩ | ⟨rfl,hw⟩
  ·exact ⟨_,gg,hw,c.chk.comp xs,hpg,hpt,hpe,λ σ H Q hl hq=>qg5 hl hP m.als hvI hvE his hg hvo hvo2 hq⟩
  ·exact ⟨_,gg,hw,c.chk.comp xs,hpg,hpt,hpe,λ σ H Q hl hq=>qg4 hl hP m.als hvI hvE his hg hvo hvo2 hq⟩
 | seq f vs=>exact ⟨_,gg,hw,c.chk.comp xs,hpg,hpt,hpe,λ σ H Q hl hq=>qg3 hl hP m.als hvI hvE his hg hvo hvo2 hq⟩
 | vw v fa vs=>exact ⟨_,gg,hw htw,c.chk.comp xs,hpg,hpt,hpe,λ σ H Q hl hq=>qg2 hl hP m.als hvI hvE his hg hvo hvo2 hq⟩
theorem qi5 {e:Expr}{t t':TE} (h:PE X e t) (i:∀ σ H Q,σ.length=X.N.length->t' σ H Q->t σ H Q):PE X e t':=λ pins s σ H Q I q=>h pins s σ H Q I (i σ H Q I.len q)
theorem qnw {e:Stmt}{t t':TS} (h:PS X e t) (i:∀ D σ H,σ.length=X.N.length->t' D σ H->t D σ H):PS X e t':=λ pins s σ H D I q=>h pins s σ H D I (i D σ H I.len q)
theorem qfo {scope:vd0}{tg:Expr}{ys:List Str}{asg:PV->Rho->Option Rho}{pos:Pos}{it elt:Expr}{ifs:List Expr}{iw:Iw}{t:Fb}{vE:List Nat} (c:CompParts P w K mg base lvl S scope tg ys asg it elt ifs iw t g vE):Good P w K mg base lvl S (.ListComp elt [⟨tg,it,ifs,0⟩] scope pos) (qgn iw ys.length asg t g) (iw.vs++vE.filter (λ i=>decide (i < S.N.length))):=by
 refine zxd (qf3 c) rfl (λ _ _=>rfl) λ X M xs m=>?_
 obtain ⟨wi,gg,h1,h2,h3,h4,h5,h6⟩:=zmn (pos:=pos) c xs m
 exact qi5 (qex h2 xs.calm h1 h3 h4 h5 (zft (n:=0) (f:=g) (vs:=[]) c.iwo.2.1)) λ σ H Q hl q=>h6 σ H Q (by rw [hl,xs.N]) q
theorem zhq {d:Expr->Option D2} (hd:∀ e f vs,d e=some (f,vs)->Good P w K mg base lvl S e f vs) {ifs:List Expr}{t:Fb} (h:qcd d ifs=some t) (X:Cx) (M:Fm) (xs:XS X P w K mg base lvl S Wx) (m:MS M K S Wx):PTs X ifs (λ σ H Q=>∃ M',MS M' K S Wx/\tT M' t σ H Q):=by
 unfold qcd at h
 split at h
 ·cases h
  intro pins s σ H Q I q
  exact qkn pins s σ H Q I (qg1 q)
 ·obtain ⟨p,e,rfl⟩:=jb9.mp h
  obtain ⟨f,vs⟩:=p
  have g:=hd _ _ _ e
  intro pins s σ H Q I ⟨M',m',q⟩
  exact qkm (g.2.2 X M' xs m').2 pins s σ H Q I q
 ·cases h
theorem zfu (n:Nat) (S:Sx) (a:List Expr) (b:Nat) (c:Pos):den n S (.Set a b c)=none:=by
 cases n <;> rfl
theorem zjc {e:Expr} (h:zbu e=true) (env:Env) (cpos:Pos):((vd4 cpos (va4 [e] env)).all (λ x=>!x.1) && (backToKw cpos (keywordEach [] env)).all (λ x=>x.1.isSome)
   && decide (([e]:List Expr).length + ([]:List Keyword).length + (if ([]:List Keyword).isEmpty then 0 else 1) < 30))=true:=by
 have:va4 [e] env=[(false,eval e env)]:=zqz (zqq h)
 rw [this]
 rfl
theorem zho {T:Str}{c:Nat} (h:XN.findIdx? (·== T)=some c):XN[c]?=some T:=by
 obtain ⟨hlt,h1,_⟩:=jj0.mp h
 rw [jb3 hlt]
 exact congrArg some (eq_of_beq h1)
theorem qck {T:Str}{n:Nat} (GX:GX K mg S.xc) (hb:∀ x∈zkf,mg x=none) (h:qih S T=some n) (xs:XS X P w K mg base lvl S Wx):xKit X.K=true/\∃ cv,(∀ p2,PE X (.Name T p2) (tC cv))/\∀ u,RelV cv u->clsV X.K n u=true:=by
 unfold qih at h
 split at h
 ·rename_i hc
  obtain ⟨hg,hx⟩:=hc
  obtain ⟨_,hk,hcs⟩:=GX hx
  refine ⟨by rw [xs.K];exact hk,?_⟩
  split at h
  ·rename_i eT
   subst eT
   cases h
   refine ⟨.ty "ValueError",λ p2=>qey (xs.gl hg) (by rw [xs.mg];exact hb _ (by decide +kernel)) (u:=.type "ValueError") rfl rfl (by decide) (by decide),λ u r=>?_⟩
   cases r
   unfold clsV
   rfl
  ·split at h
   ·rename_i hc
    split at h
    ·rename_i hm
     cases h
     obtain ⟨x',C,h1,h2,h3,h4⟩:=hcs n (by simpa using hm)
     have ex:x'=T:=by
      have:=zho hc
      rw [h1] at this
      exact Option.some.inj this
     subst ex
     refine ⟨.ref C,λ p2=>qku (xs.gl hg) (by rw [xs.mg];exact h3) rfl h4,λ u r=>?_⟩
     cases r
     unfold clsV
     rw [xs.K,h2]
     simp
    ·cases h
   ·cases h
 ·cases h
theorem zht (GX:GX K mg S.xc) (hb:∀ x∈zkf,mg x=none) (xs:XS X P w K mg base lvl S Wx):∀ {es:List Expr}{ns:List Nat},qcl S es=some ns->es≠[]->xKit X.K=true/\∃ cvs,cvs.length=es.length/\PA X es (tVs cvs)/\∀ us,Vals cvs us->zpp X.K ns us=true
 | [],_,_,hn=>absurd rfl hn
 | e::r,ns,h,_=>by
  unfold qcl at h
  split at h
  ·rename_i T ds h1 h2
   obtain ⟨n,h3,rfl⟩:=jb9.mp h
   obtain ⟨p2,rfl⟩:=zvu h1
   obtain ⟨hk,cv,c1,c2⟩:=qck GX hb h3 xs
   refine ⟨hk,?_⟩
   have st:va4 (Expr.Name T p2::r) X.env=(false,eval (.Name T p2) X.env)::va4 r X.env:=rfl
   by_cases hr:r=[]
   ·subst hr
    cases h2
    refine ⟨[cv],rfl,λ a b c d e f g h=>(zwj (c1 p2) zyl st) a b c d e f g h,λ us v=>?_⟩
    cases v with
    | cons r rr=>
     cases rr
     unfold zpp
     rw [c2 _ r]
     rfl
   ·obtain ⟨_,cvs,l1,pa,l2⟩:=zht GX hb xs h2 hr
    refine ⟨cv::cvs,by rw [jb4,jb4,l1],λ a b c d e f g h=>(zwj (c1 p2) pa st) a b c d e f g h,λ us v=>?_⟩
    cases v with
    | cons r rr=>
     unfold zpp
     rw [c2 _ r,l2 _ rr]
     rfl
  ·cases h
theorem zmj (GX:GX K mg S.xc) (G:GS P w K mg base lvl S.Γ) (Gm:GSm P w K mg base lvl S.Γm):∀ (n:Nat) (S':Sx) (e:Expr) (f:Fx) (vs:List Nat),S'.Γ=S.Γ->S'.Γm=S.Γm->S'.xc=S.xc->(∀ i,∀ j∈S'.alF i,S'.msF j=false)->den n S' e=some (f,vs)->Good P w K mg base lvl S' e f vs:=by
 intro n
 induction n with
 | zero=>intro S' e f vs _ _ _ _ h;cases h
 | succ n ih=>
  intro S' e f vs hΓ hΓm hX hS h
  have hd:∀ e f vs,den n S' e=some (f,vs)->Good P w K mg base lvl S' e f vs:=λ e f vs h=>ih S' e f vs hΓ hΓm hX hS h
  replace h:zvp (den n) S' e=some (f,vs):=h
  unfold zvp at h
  split at h
  ·unfold denC at h
   split at h
   ·cases h;exact zxd (λ _ z=>(nomatch z)) rfl (λ _ _=>rfl) λ X M xs m=>zqv zgu λ σ H Q q=>zbj (λ K H Z=>by rw [Own];exact ⟨rfl,rfl⟩) q
   ·cases h;exact zxd (λ _ z=>(nomatch z)) rfl (λ _ _=>rfl) λ X M xs m=>zqv qpx λ σ H Q q=>zbj (λ K H Z=>by rw [Own];exact ⟨rfl,rfl⟩) q
   ·cases h;exact zxd (λ _ z=>(nomatch z)) rfl (λ _ _=>rfl) λ X M xs m=>zqv qn4 λ σ H Q q=>zbj (λ K H Z=>by rw [Own];exact ⟨rfl,rfl⟩) q
   ·cases h;exact zxd (λ _ z=>(nomatch z)) rfl (λ _ _=>rfl) λ X M xs m=>zqv qi3 λ σ H Q q=>zbj (λ K H Z=>by rw [Own];exact ⟨rfl,rfl⟩) q
   ·cases h
  ·split at h
   ·rename_i i hi
    split at h
    ·cases h
    ·rename_i hm
     cases h
     refine zxd (λ j hj=>?_) rfl (λ _ _=>rfl) λ X M xs m=>qi5 (xs.var hi) λ σ H Q hl q=>?_
     ·rcases jb2.mp hj with z | z
      ·rw [z];simpa using hm
      ·exact hS i j z
     ·have hlt:i < S'.N.length:=by
       unfold Sx.slot at hi
       split at hi
       ·exact (ja8.mp (zbf hi)).1
       ·cases hi
      rw [<- m.al i hlt] at q
      exact qiu q
   ·cases h
  ·split at h
   ·rename_i f1 v1 f2 v2 o h1 h2 h3
    cases h
    have g1:=hd _ _ _ h1
    have g2:=hd _ _ _ h2
    exact zxd (zwh g1.1 g2.1) rfl (λ _ _=>rfl) λ X M xs m=>qpr h3 (m.v g1.1) (m.k xs) (g1.2.2 X M xs m).1 (g2.2.2 X M xs m).1
   ·cases h
  ·split at h
   ·rename_i f1 v1 h1
    cases h
    have g1:=hd _ _ _ h1
    exact zxd g1.1 rfl (λ _ _=>rfl) λ X M xs m=>qm9 (g1.2.2 X M xs m).1
   ·cases h
  ·split at h
   ·rename_i f1 v1 h1
    cases h
    exact qh0 (hd _ _ _ h1)
   ·cases h
  ·rename_i es pos
   have g:=zhr hd (pos:=pos) _ _ _ h
   exact ⟨g.1,rfl,λ X M xs m=>⟨(g.2 X M xs m).1,(g.2 X M xs m).2.pt⟩⟩
  ·rename_i es pos
   have g:=qcc hd (pos:=pos) _ _ _ h
   exact ⟨g.1,rfl,λ X M xs m=>⟨(g.2 X M xs m).1,(g.2 X M xs m).2.pt⟩⟩
  ·split at h
   ·rename_i f1 v1 f2 v2 o h1 h2 h3
    cases h
    exact qh1 h3 (hd _ _ _ h1) (hd _ _ _ h2)
   ·cases h
  ·split at h
   ·rename_i f1 v1 f2 v2 f3 v3 p q h1 h2 h3 h4 h5
    cases h
    exact qdc h4 h5 (hd _ _ _ h1) (hd _ _ _ h2) (hd _ _ _ h3)
   ·cases h
  ·split at h
   ·rename_i fa v h1
    cases h
    have g:=zww hd _ _ _ h1
    exact zxd g.1 rfl (λ _ _=>rfl) λ X M xs m=>qnb (g.2.2 X M xs m)
   ·cases h
  ·split at h
   ·rename_i fa v h1
    cases h
    have g:=zww hd _ _ _ h1
    exact zxd g.1 rfl (λ _ _=>rfl) λ X M xs m=>qm7 (g.2.2 X M xs m)
   ·cases h
  ·cases h
   exact zxd (λ _ z=>(nomatch z)) rfl (λ _ _=>rfl) λ X M xs m=>qne
  ·rename_i a b pos
   unfold qjf at h
   split at h
   ·rename_i lo hi st p2
    unfold qjg at h
    split at h
    ·split at h
     ·rename_i f1 v1 f2 v2 h1 h2
      cases h
      have g1:=hd _ _ _ h1
      have g2:=hd _ _ _ h2
      exact zxd g1.1 rfl (λ _ _=>rfl) λ X M xs m=>zqv (zfd (qak.or qd7) (g1.2.2 X M xs m).1 qeq (zfb (g2.2.2 X M xs m).1)) λ σ H Q q=>qj2 (lo:=none) (hi:=some (f2,v2)) (m.v g1.1) (m.k xs) q
     ·cases h
    ·split at h
     ·rename_i f1 v1 f2 v2 h1 h2
      cases h
      have g1:=hd _ _ _ h1
      have g2:=hd _ _ _ h2
      exact zxd g1.1 rfl (λ _ _=>rfl) λ X M xs m=>zqv (zfd (qak.or qd7) (g1.2.2 X M xs m).1 (zfb (g2.2.2 X M xs m).1) qeq) λ σ H Q q=>qj2 (lo:=some (f2,v2)) (hi:=none) (m.v g1.1) (m.k xs) q
     ·cases h
    ·split at h
     ·rename_i f1 v1 f2 v2 f3 v3 h1 h2 h3
      cases h
      have g1:=hd _ _ _ h1
      have g2:=hd _ _ _ h2
      have g3:=hd _ _ _ h3
      exact zxd g1.1 rfl (λ _ _=>rfl) λ X M xs m=>zqv (zfd (qak.or qd7) (g1.2.2 X M xs m).1 (zfb (g2.2.2 X M xs m).1) (zfb (g3.2.2 X M xs m).1)) λ σ H Q q=>qj2 (lo:=some (f2,v2)) (hi:=some (f3,v3)) (m.v g1.1) (m.k xs) q
     ·cases h
    ·cases h
   ·split at h
    ·rename_i x i hx hi
     obtain ⟨px,rfl⟩:=zvu hx
     obtain ⟨k,pi,rfl⟩:=qja hi
     split at h
     ·rename_i j hj
      split at h
      ·cases h
       exact zxd (λ _ z=>(nomatch z)) rfl (λ _ _=>rfl) λ X M xs m=>qps xs hj (m.k xs)
      ·rename_i hm
       cases h
       have hlt:j < S'.N.length:=by
        unfold Sx.slot at hj
        split at hj
        ·exact (ja8.mp (zbf hj)).1
        ·cases hj
       have hv:∀ i∈j::S'.alF j,S'.msF i=false:=λ i hi=>by
        rcases jb2.mp hi with z | z
        ·rw [z];simpa using hm
        ·exact hS j i z
       refine zxd (zwh hv λ _ z=>(nomatch z)) rfl (λ _ _=>rfl) λ X M xs m=>qix (m.v hv) (m.k xs) (zva rfl) (zqv (xs.var hj) λ σ H Q q=>?_) (zqv zgu λ σ H Q q=>zbj (λ K H Z=>by rw [Own];exact ⟨rfl,rfl⟩) q)
       rw [<- m.al j hlt] at q
       exact qiu q
     ·cases h
    ·split at h
     ·rename_i f1 v1 f2 v2 h1 h2
      split at h
      ·rename_i hn
       cases h
       have g1:=hd _ _ _ h1
       have g2:=hd _ _ _ h2
       exact zxd (zwh g1.1 g2.1) rfl (λ _ _=>rfl) λ X M xs m=>qix (m.v g1.1) (m.k xs) (zva hn) (g1.2.2 X M xs m).1 (g2.2.2 X M xs m).1
      ·cases h
     ·cases h
  ·split at h
   ·rename_i x p args pos _ hx
    subst hx
    split at h
    ·rename_i e c
     unfold qjj at h
     split at h
     ·rename_i f1 v1 h1
      split at h
      ·rename_i hgi
       have g1:=hd _ _ _ h1
       split at h
       ·rename_i T pT
        have s2:∀ {X:Cx},va4 [Expr.Name T pT] X.env=[(false,eval (.Name T pT) X.env)]:=rfl
        split at h
        ·rename_i t h2
         split at h
         ·rename_i hg
          cases h
          obtain ⟨t1,t2,t3,t4,t5⟩:=qjs h2
          refine zxd g1.1 rfl (λ _ _=>rfl) λ X M xs m=>?_
          exact qnd (x:=T) t1 (m.k xs) (g1.2.2 X M xs m).1 (xs.gl hgi) (by rw [xs.mg];exact G.1 _ (by decide +kernel)) (qey (xs.gl hg) (by rw [xs.mg];exact G.1 _ t2) t3 rfl t5 t4) (by rw [zqz (zqq g1.2.1),s2]) s2
         ·cases h
        ·obtain ⟨n,h3,e2⟩:=jb9.mp h
         cases e2
         refine zxd g1.1 rfl (λ _ _=>rfl) λ X M xs m=>?_
         obtain ⟨hk,cv,c1,c2⟩:=qck (by rw [hX];exact GX) G.1 h3 xs
         exact qke hk (m.k xs) (g1.2.2 X M xs m).1 (xs.gl hgi) (by rw [xs.mg];exact G.1 _ (by decide +kernel)) (c1 pT) c2 (by rw [zqz (zqq g1.2.1),s2]) s2
       ·rename_i es k p2
        split at h
        ·rename_i hl
         obtain ⟨ns,h3,e2⟩:=jb9.mp h
         cases e2
         obtain ⟨hl,hne⟩:=hl
         refine zxd g1.1 rfl (λ _ _=>rfl) λ X M xs m=>?_
         have s2:va4 [Expr.Tuple es k p2] X.env=[(false,eval (.Tuple es k p2) X.env)]:=rfl
         obtain ⟨hk,cvs,l1,pa,l2⟩:=zht (by rw [hX];exact GX) G.1 xs h3 hne
         exact qg8 hk (m.k xs) (g1.2.2 X M xs m).1 (xs.gl hgi) (by rw [xs.mg];exact G.1 _ (by decide +kernel)) pa (by rw [l1];exact jd4 hl (by decide)) l2 (by rw [zqz (zqq g1.2.1),s2]) s2
        ·cases h
       ·cases h
      ·cases h
     ·cases h
    ·cases h
   ·split at h
    ·rename_i o ho
     split at h
     ·rename_i e es
      split at h
      ·rename_i fa v h1
       split at h
       ·rename_i hg
        cases h
        have g:=zww hd _ _ _ h1
        exact zxd g.1 rfl (λ _ _=>rfl) λ X M xs m=>qng ho xs m G.1 hg g.2.1 (g.2.2 X M xs m)
       ·cases h
      ·cases h
     ·cases h
    ·split at h
     ·rename_i x p args pos _ _ _ _ nn F hF
      split at h
      ·rename_i e es
       split at h
       ·rename_i fa v h1
        split at h
        ·rename_i hg
         cases h
         have g:=zww hd _ _ _ h1
         rw [hΓ] at hF
         obtain ⟨d1,d2,fa',fd,ps,d3,d4,d5,d6,d7⟩:=G.2 _ _ _ _ hF
         refine zxd g.1 rfl (λ _ _=>rfl) λ X M xs m=>?_
         have hs:=g.2.1
         rw [je1,ja4] at hs
         obtain ⟨xp,xw,xK,xm,xb,_,_,_,xr,_⟩:=id xs
         subst xp xw xK xm xb
         have mk:M.K=X.K:=m.K
         have hps:=xs.ps
         rw [<- m.W] at hps
         refine zqv (qhl d7 xr (xs.gl hg) d3 d4 d5 hps (g.2.2 X M xs m) d1 (zqz (zqq hs.1)) (zba hs.2)) λ σ H Q q=>?_
         have:=qj4 d2 q
         rw [mk] at this
         exact this
        ·cases h
       ·cases h
      ·cases h
     ·rename_i x p args pos _ _ _ _ nn F hF
      split at h
      ·rename_i y py es
       split at h
       ·rename_i i fa v h0 h1
        split at h
        ·rename_i hg
         cases h
         have g:=zww hd _ _ _ h1
         rw [hΓ] at hF
         obtain ⟨d1,d2,fa',fd,ps,d3,d4,d5,d6,d7⟩:=G.2 _ _ _ _ hF
         refine zxd g.1 rfl (λ _ _=>rfl) λ X M xs m=>?_
         obtain ⟨xp,xw,xK,xm,xb,_,_,_,xr,_⟩:=id xs
         subst xp xw xK xm xb
         have mk:M.K=X.K:=m.K
         refine zqv (qkx (E:=E0) (dvs:=[]) d7 xr (xs.gl hg.1) d3 d4 d5 .nil qpy (zwj (xs.var h0) (g.2.2 X M xs m) rfl) d1 rfl (zba g.2.1)) λ σ H Q q=>?_
         have:=qd1 (E:=E0) m.als (m.v g.1) (by rw [m.ms];exact hg.2) d2 q
         rw [mk] at this
         exact this
        ·cases h
       ·cases h
      ·cases h
     ·cases h
  ·split at h
   ·rename_i elt tg it ifs scope pos _ _ ys asg iw ht hi
    split at h
    ·rename_i hc
     split at h
     ·rename_i t g vE h1 h2
      cases h
      have ck:=qjn hc.1
      have giw:=zfv hd (zfu n S') G.1 hi
      have hS2:∀ i,∀ j∈(zxe S' scope ys iw.vs).alF i,(zxe S' scope ys iw.vs).msF j=false:=λ i j hj=>by
       rw [zgd] at hj
       show S'.msF j=false
       split at hj
       ·exact hS i j hj
       ·split at hj
        ·exact giw.1 j hj
        ·cases hj
      have hd2:∀ e f vs,den n (zxe S' scope ys iw.vs) e=some (f,vs)->Good P w K mg base lvl (zxe S' scope ys iw.vs) e f vs:=λ e f vs h=>ih _ e f vs hΓ hΓm hX hS2 h
      exact qfo ⟨ht,hc.2,ck,giw,hd2 _ _ _ h2,zhq hd2 h1⟩
     ·cases h
    ·cases h
   ·cases h
  ·cases h
end
section
variable {is:List Nat}{M:Fm}{ρ ρ':Rho}{σ σ':St}{H H' H'':Hp}{fps fps' fps'':Fps}{vs vs':List Nat}
def sNo:Fs:=λ _=>.no
theorem qjz {t:TS}{D:Ends} (hq:tS M sNo D σ H):t D σ H:=by
 obtain ⟨ρ,fps,rep,q⟩:=hq
 exact q.elim
def sUnp (asg:PV->Rho->Option Rho) (f:Fx) (vs:List Nat):Fs:=λ ρ=>match f ρ with
 | .ok (x,d,ρ1)=>(match asg x (zqk d vs ρ1) with
  | some ρ2=>.nx ρ2
  | none=>.no)
 | .exc c=>.exc c
 | .no=>.no
theorem qmn {g:TG}{asg:PV->Rho->Option Rho}{f:Fx}{D:Ends} (hal:∀ i,M.al i=[]) (hv:∀ i∈vs,M.Ms i=false) (hg:GOk M [] is g asg) (hq:tS M (sUnp asg f vs) D σ H):tAsg (tE M f vs) g D σ H:=by
 obtain ⟨ρ,fps,rep,q⟩:=hq
 refine ⟨ρ,fps,rep,?_⟩
 unfold sUnp at q
 cases ef:f ρ with
 | no=>rw [ef] at q;exact q
 | exc c=>rw [ef] at q;exact λ H' fps' k=>q _ H' fps' k.ks
 | ok p=>
  obtain ⟨x,d,ρ1⟩:=p
  rw [ef] at q
  intro v H1 fps1 f1 k1 g1 rep1 o1 t1
  obtain ⟨fps2,k2,r2,o2⟩:=Rep.seen rep k1 g1 rep1 o1 t1 hal hv
  dsimp only at q
  cases ea:asg x (zqk d vs ρ1) with
  | none=>rw [ea] at q;exact q.elim
  | some ρ2=>
   rw [ea] at q
   refine hg x v _ σ H1 fps2 ρ2 _ r2 (o2.weak λ a h=>h.zf) ea λ σ' fps' s1 _ _ r'=>q σ' H1 fps' (k2.trans ⟨λ _ _ h _=>h,λ _ h=>h,λ j a ha=>.inl ⟨j,s1 j a ha⟩⟩) r'
theorem Rep.change {i:Nat}{x x':PV}{d d':Nat}{v:V}{f':List Addr} (hal:∀ i,M.al i=[]) (r:Rep M ρ σ H fps) (hi:ρ[i]?=some (some (x,d))) (hσ:σ[i]?=some (some v)) (k:Keep (λ a=>a∈fps i) H H') (dm:∀ a,H a≠none->H' a≠none) (hs:∀ b∈f',b∈fps i)
  (hm:M.Ms i=true->d'=om) (o:Own M.K H' (Zf M (λ j=>if j=i then f' else fps j)) x' d' v f'):Rep M (ρ.set i (some (x',d'))) σ H' (λ j=>if j=i then f' else fps j):=by
 have hlen:i < ρ.length:=(ja8.mp hi).1
 have inI:∀ j,∀ b∈(if j=i then f' else fps j),b∈fps j:=λ j b hb=>by
  by_cases e:j=i
  ·rw [if_pos e] at hb;rw [e];exact hs b hb
  ·rw [if_neg e] at hb;exact hb
 refine ⟨λ j y c hj=>?_,λ j hj=>?_,λ j k hjk b hb hc=>r.dj j k hjk b (inI j b hb) (inI k b hc),λ j b hb z=>r.zo j b (inI j b hb) z,λ j hj b hb=>r.fr j hj b (inI j b hb),λ b z=>dm b (r.zd b z),by rw [jc5];exact r.len,λ j y c hj hc=>?_,λ b z=>dm b (r.h0 b z),r.iov⟩
 ·by_cases ej:j=i
  ·subst ej
   rw [jb5 hlen] at hj
   cases hj
   refine ⟨v,hσ,?_⟩
   rw [if_pos rfl]
   exact o.weak λ a h=>h.zf
  ·rw [ja9 (vb1 ej)] at hj
   obtain ⟨u,hu,ou⟩:=r.own j y c hj
   refine ⟨u,hu,?_⟩
   rw [if_neg ej]
   refine Own.move (S:=λ a=>a∈fps i) k (λ a ha=>⟨.inr ⟨i,(by rw [hal j];intro z;cases z),ha⟩,r.lsts ha⟩) (λ a _ nz z=>nz ?_) y c u (fps j) (λ a ha z=>r.dj j i ej a ha z) ou
   rcases z with z | ⟨l,nl,z⟩
   ·exact .inl z
   ·exact .inr ⟨l,nl,inI l a z⟩
 ·by_cases ej:j=i
  ·subst ej
   exact absurd (jb5 hlen) (hj (x',d'))
  ·rw [if_neg ej]
   exact r.non j λ p hp=>hj p (by rw [ja9 (vb1 ej)];exact hp)
 ·by_cases ej:j=i
  ·subst ej
   rw [jb5 hlen] at hc
   cases hc
   exact hm hj
  ·rw [ja9 (vb1 ej)] at hc
   exact r.msf j y c hj hc
theorem OwnL.full' {K:Frag}{Z Z':Addr->Prop}{xs:List PV}{ws:List V}{f:List Addr} (h:OwnL K H Z xs om ws f):OwnL K H Z' xs om ws f:=OwnL.full xs ws f h
theorem OwnL.row {K:Frag}{Z:Addr->Prop}:∀ {xs:List PV}{ws:List V}{f:List Addr}{p:Nat}{cells:List PV},OwnL K H Z xs om ws f->xs[p]?=some (.lst cells)->∃ a us fc,ws[p]?=some (.ref a)/\H a=some (.lst us)/\a∈f/\OwnL K H Z cells om us fc/\(∀ b∈fc,b∈f)/\a∉fc /\
  ∀ (cells':List PV) (us':List V) (fc':List Addr),OwnL K (upd H a (.lst us')) (λ _=>True) cells' om us' fc'->(∀ b∈fc',b∈fc)->∃ f',(∀ b∈f',b∈f)/\OwnL K (upd H a (.lst us')) (λ _=>True) (xs.set p (.lst cells')) om ws f'
 | [],ws,f,p,cells,h,e=>by cases e
 | x::xs,ws,f,0,cells,h,e=>by
  cases e
  rw [OwnL] at h
  obtain ⟨v,s,f1,f2,rfl,rfl,dj,h1,h2⟩:=h
  obtain ⟨a,us,fc,rfl,ha,rfl,na,ol⟩:=h1.list (by decide:om≠0)
  rw [zju] at ol
  refine ⟨a,us,fc,rfl,ha,by simp,ol,λ b hb=>by simp [hb],na,λ cells' us' fc' o hs=>⟨(a::fc')++f2,λ b hb=>?_,?_⟩⟩
  ·rcases jc0.mp hb with z | z
   ·rcases jb2.mp z with z | z
    ·simp [z]
    ·exact jb0 _ (ja0 _ (hs b z))
   ·exact ja5 _ z
  ·have n2:a∉f2:=dj a ja3
   rw [jg1,OwnL]
   refine ⟨.ref a,s,a::fc',f2,rfl,rfl,λ b hb=>?_,?_,?_⟩
   ·rcases jb2.mp hb with z | z
    ·rw [z];exact n2
    ·exact dj b (ja0 _ (hs b z))
   ·rw [Own]
    exact ⟨a,us',rfl,.inr ⟨by decide,fc',zqo,rfl,λ z=>na (hs a z),by rw [zju];exact o⟩⟩
   ·exact (h2.full' (Z':=λ _=>True)).at trivial ⟨.l us,ha⟩ n2 λ _ _ n=>absurd trivial n
 | x::xs,ws,f,p + 1,cells,h,e=>by
  rw [OwnL] at h
  obtain ⟨v,s,f1,f2,rfl,rfl,dj,h1,h2⟩:=h
  obtain ⟨a,us,fc,e1,ha,hf,ol,hs,na,nx⟩:=h2.row (by simpa using e)
  refine ⟨a,us,fc,by simpa using e1,ha,ja5 _ hf,ol,λ b hb=>ja5 _ (hs b hb),na,λ cells' us' fc' o hs'=>?_⟩
  obtain ⟨f',s',o'⟩:=nx cells' us' fc' o hs'
  refine ⟨f1++f',λ b hb=>(jc0.mp hb).elim (λ z=>jb0 _ z) λ z=>ja5 _ (s' b z),?_⟩
  rw [jg2,OwnL]
  refine ⟨v,s,f1,f',rfl,rfl,λ b hb z=>dj b hb (s' b z),?_,o'⟩
  exact (Own.full (Z':=λ _=>True) x v f1 h1).at trivial ⟨.l us,ha⟩ (λ z=>dj a z hf) λ _ _ n=>absurd trivial n
theorem OwnL.setF {K:Frag}{Z:Addr->Prop}{y:PV}{d:Nat}{w:V}{fy:List Addr} (hy:Own K H Z y d w fy):∀ {xs:List PV}{ws:List V}{f:List Addr} (k:Nat),OwnL K H Z xs d ws f->(∀ b∈fy,b∉f)->∃ f',(∀ b∈f',b∈f\/b∈fy)/\OwnL K H Z (xs.set k y) d (ws.set k w) f'
 | [],ws,f,k,h,_=>by
  rw [OwnL] at h
  obtain ⟨rfl,rfl⟩:=h
  refine ⟨[],λ _ z=>(nomatch z),?_⟩
  rw [jm5,jm5,OwnL];exact ⟨rfl,rfl⟩
 | x::xs,ws,f,0,h,hd=>by
  rw [OwnL] at h
  obtain ⟨v,s,f1,f2,rfl,rfl,dj,h1,h2⟩:=h
  refine ⟨fy++f2,λ b hb=>(jc0.mp hb).elim .inr λ z=>.inl (ja5 _ z),?_⟩
  rw [jg1,jg1,OwnL]
  exact ⟨w,s,fy,f2,rfl,rfl,λ b hb z=>hd b hb (ja5 _ z),hy,h2⟩
 | x::xs,ws,f,k + 1,h,hd=>by
  rw [OwnL] at h
  obtain ⟨v,s,f1,f2,rfl,rfl,dj,h1,h2⟩:=h
  obtain ⟨f',hs,h'⟩:=h2.setF hy k λ b hb z=>hd b hb (ja5 _ z)
  refine ⟨f1++f',λ b hb=>(jc0.mp hb).elim (λ z=>.inl (jb0 _ z)) λ z=>(hs b z).elim (λ z=>.inl (ja5 _ z)) .inr,?_⟩
  rw [jg2,jg2,OwnL]
  exact ⟨v,s.set k w,f1,f',rfl,rfl,λ b hb hc=>(hs b hc).elim (dj b hb) λ z=>hd b z (jb0 _ hb),h1,h'⟩
theorem OwnL.rowP {K:Frag}{Z:Addr->Prop}:∀ {xs:List PV}{ws:List V}{f:List Addr}{p:Nat}{cells:List PV},OwnL K H Z xs om ws f->xs[p]?=some (.lst cells)->∃ a us fc,ws[p]?=some (.ref a)/\H a=some (.lst us)/\a∈f/\OwnL K H Z cells om us fc/\(∀ b∈fc,b∈f)/\a∉fc /\
  ∀ (cells':List PV) (us':List V) (fc' fy:List Addr),OwnL K (upd H a (.lst us')) (λ _=>True) cells' om us' fc'->(∀ b∈fc',b∈fc\/b∈fy)->(∀ b∈fy,b∉f)->∃ f',(∀ b∈f',b∈f\/b∈fy)/\OwnL K (upd H a (.lst us')) (λ _=>True) (xs.set p (.lst cells')) om ws f'
 | [],ws,f,p,cells,h,e=>by cases e
 | x::xs,ws,f,0,cells,h,e=>by
  cases e
  rw [OwnL] at h
  obtain ⟨v,s,f1,f2,rfl,rfl,dj,h1,h2⟩:=h
  obtain ⟨a,us,fc,rfl,ha,rfl,na,ol⟩:=h1.list (by decide:om≠0)
  rw [zju] at ol
  refine ⟨a,us,fc,rfl,ha,by simp,ol,λ b hb=>by simp [hb],na,λ cells' us' fc' fy o hs hy=>⟨(a::fc')++f2,λ b hb=>?_,?_⟩⟩
  ·rcases jc0.mp hb with z | z
   ·rcases jb2.mp z with z | z
    ·simp [z]
    ·exact (hs b z).elim (λ z=>.inl (jb0 _ (ja0 _ z))) .inr
   ·exact .inl (ja5 _ z)
  ·have n2:a∉f2:=dj a ja3
   rw [jg1,OwnL]
   refine ⟨.ref a,s,a::fc',f2,rfl,rfl,λ b hb=>?_,?_,?_⟩
   ·rcases jb2.mp hb with z | z
    ·rw [z];exact n2
    ·exact (hs b z).elim (λ z=>dj b (ja0 _ z)) λ z w=>hy b z (ja5 _ w)
   ·rw [Own]
    exact ⟨a,us',rfl,.inr ⟨by decide,fc',zqo,rfl,λ z=>(hs a z).elim na λ z=>hy a z (jb0 _ ja3),by rw [zju];exact o⟩⟩
   ·exact (h2.full' (Z':=λ _=>True)).at trivial ⟨.l us,ha⟩ n2 λ _ _ n=>absurd trivial n
 | x::xs,ws,f,p + 1,cells,h,e=>by
  rw [OwnL] at h
  obtain ⟨v,s,f1,f2,rfl,rfl,dj,h1,h2⟩:=h
  obtain ⟨a,us,fc,e1,ha,hf,ol,hs,na,nx⟩:=h2.rowP (by simpa using e)
  refine ⟨a,us,fc,by simpa using e1,ha,ja5 _ hf,ol,λ b hb=>ja5 _ (hs b hb),na,λ cells' us' fc' fy o hs' hy=>?_⟩
  obtain ⟨f',s',o'⟩:=nx cells' us' fc' fy o hs' λ b hb z=>hy b hb (ja5 _ z)
  refine ⟨f1++f',λ b hb=>(jc0.mp hb).elim (λ z=>.inl (jb0 _ z)) λ z=>(s' b z).elim (λ z=>.inl (ja5 _ z)) .inr,?_⟩
  rw [jg2,OwnL]
  refine ⟨v,s,f1,f',rfl,rfl,λ b hb z=>(s' b z).elim (dj b hb) λ z=>hy b z (jb0 _ hb),?_,o'⟩
  exact (Own.full (Z':=λ _=>True) x v f1 h1).at trivial ⟨.l us,ha⟩ (λ z=>dj a z hf) λ _ _ n=>absurd trivial n
def put2 (x:PV) (a b:Int) (y:PV):Option PV:=match x with
 | .lst rows=>(match ixN rows.length a with
  | some p=>(match rows[p]? with
   | some (.lst cells)=>(match ixN cells.length b with
    | some q=>some (.lst (rows.set p (.lst (cells.set q y))))
    | none=>none)
   | _=>none)
  | none=>none)
 | _=>none
def zgm (i:Nat) (fi fj f:Fx):Fs:=λ ρ=>match f ρ with
 | .ok (y,e,ρ1)=>(match ρ1[i]? with
  | some (some (x,d))=>(match fi ρ1 with
   | .ok (.int a,_,ρ2)=>(match fj ρ2 with
    | .ok (.int b,_,ρ3)=>(match put2 x a b y with
     | some x'=>if d=om/\qdd y=true then .nx (ρ3.set i (some (x',om))) else if d=om/\e=om then .nx (ρ3.set i (some (x',0))) else .no
     | none=>.no)
    | _=>.no)
   | _=>.no)
  | _=>.no)
 | _=>.no
theorem zgo {x x' y:PV}{a b:Int} (h:put2 x a b y=some x'):∃ rows p cells q,x=.lst rows/\ixN rows.length a=some p/\rows[p]?=some (.lst cells)/\ixN cells.length b=some q/\x'=.lst (rows.set p (.lst (cells.set q y))):=by
 unfold put2 at h
 split at h
 ·rename_i rows
  split at h
  ·rename_i p ep
   split at h
   ·rename_i cells er
    split at h
    ·rename_i q eq
     cases h
     exact ⟨rows,p,cells,q,rfl,ep,er,eq,rfl⟩
    ·cases h
   ·cases h
  ·cases h
 ·cases h
theorem KD.top (k:KD M H fps H' fps') (r:Rep M ρ σ H fps) {i:Nat}{a:Addr}{o:HO} (hm:M.Ms i=false) (ha:a∈fps i) (h:H a=some o):H' a=some o:=
 k.keep a o h λ ⟨j,hj,hb⟩=>r.dj i j (λ e=>by rw [e,hj] at hm;cases hm) a ha hb
theorem qjy {f fi fj:Fx}{vi vj:List Nat}{i:Nat}{D:Ends} (hal:∀ i,M.al i=[]) (hm:M.Ms i=false) (hq:tS M (zgm i fi fj f) D σ H):tAsg (tE M f vs) (gSub (tOp (rIxL M.K) (tVar i) (tE M fi vi)) (tE M fj vj) qhc) D σ H:=by
 obtain ⟨ρ,fps,rep,q⟩:=hq
 refine ⟨ρ,fps,rep,?_⟩
 unfold zgm at q
 cases ef:f ρ with
 | no=>rw [ef] at q;exact q
 | exc c=>rw [ef] at q;exact q.elim
 | ok p0=>
  obtain ⟨y,e,ρ1⟩:=p0
  rw [ef] at q
  intro w H1 fps1 fp k1 g1 rep1 o1 t1
  dsimp only at q
  cases ei:ρ1[i]? with
  | none=>rw [ei] at q;exact q.elim
  | some s1=>
   rw [ei] at q
   cases s1 with
   | none=>exact q.elim
   | some s1=>
    obtain ⟨x1,dx1⟩:=s1
    obtain ⟨v,hσ,_⟩:=rep1.own0 hal i _ _ ei
    dsimp only at q
    refine ⟨v,hσ,ρ1,fps1,rep1,?_⟩
    split at q
    ·rename_i a da ρ2 e1
     rw [e1]
     intro va H2 fps2 fpa k2 g2 rep2 oa ta
     rw [Own] at oa
     obtain ⟨rfl,rfl⟩:=oa
     split at q
     ·rename_i b db ρ3 e2
      split at q
      ·rename_i x' ex
       obtain ⟨rows,p,cells,jq,rfl,ep,er,eq,rfl⟩:=zgo ex
       split at q
       ·rename_i hc
        obtain ⟨rfl,hy⟩:=hc
        obtain ⟨rfl,oy⟩:=Own.flatA (Z':=λ _=>True) (d':=om) hy o1
        have e2i:ρ2[i]?=some (some (.lst rows,om)):=by rw [g2.1 i hm];exact ei
        obtain ⟨v2,hσ2,ol2⟩:=rep2.own0 hal i _ _ e2i
        rw [hσ] at hσ2
        cases hσ2
        obtain ⟨a0,ws,f2,rfl,ha2,hf2,na2,hol2⟩:=ol2.list (by decide:om≠0)
        rw [zju] at hol2
        obtain ⟨r,us,fc,ew,hr,hrf,oc,sc,nrc,_⟩:=hol2.row er
        have hai:a0∈fps2 i:=by rw [hf2];exact ja3
        have hri2:r∈fps2 i:=by rw [hf2];exact ja0 _ hrf
        refine ⟨a0,ws,a,.ref r,rfl,rfl,.inl (.inl ha2),?_,ρ2,fps2,rep2,?_⟩
        ·unfold atI
         rw [hol2.length,ep]
         exact ew
        rw [e2]
        intro vb H3 fps3 fpb k3 g3 rep3 ob tb
        rw [Own] at ob
        obtain ⟨rfl,rfl⟩:=ob
        have e3:ρ3[i]?=some (some (.lst rows,om)):=by rw [g3.1 i hm];exact e2i
        obtain ⟨v3,hσ3,ol3⟩:=rep3.own0 hal i _ _ e3
        rw [hσ] at hσ3
        cases hσ3
        obtain ⟨a',ws3,f3,ev,ha3,hf3,na3,hol3⟩:=ol3.list (by decide:om≠0)
        cases ev
        have hai3:a0∈fps3 i:=by rw [hf3];exact ja3
        have ht:=k3.top rep2 hm hai ha2
        rw [ha3] at ht
        cases ht
        rw [zju] at hol3
        obtain ⟨r',us3,fc3,ew3,hr3,hrf3,oc3,sc3,nrc3,nx⟩:=hol3.row er
        rw [ew] at ew3
        cases ew3
        have hri:r∈fps3 i:=by rw [hf3];exact ja0 _ hrf3
        refine ⟨r,us3,b,jq,rfl,rfl,hr3,by rw [oc3.length];exact eq,?_⟩
        have oy2:Own M.K H2 (λ _=>True) y om w []:=Own.move k2.keep (λ a ⟨_,_,h⟩=>⟨trivial,rep1.lsts h⟩) (λ _ _ n=>absurd trivial n) y om w [] (λ _ z=>nomatch z) oy
        have oy3:Own M.K H3 (λ _=>True) y om w []:=Own.move k3.keep (λ a ⟨_,_,h⟩=>⟨trivial,rep2.lsts h⟩) (λ _ _ n=>absurd trivial n) y om w [] (λ _ z=>nomatch z) oy2
        obtain ⟨fc',sc',oc'⟩:=(oc3.full' (Z':=λ _=>True)).set oy3 jq
        have oc2:OwnL M.K (upd H3 r (.lst (us3.set jq w))) (λ _=>True) (cells.set jq y) om (us3.set jq w) fc':=oc'.at trivial ⟨.l us3,hr3⟩ (λ z=>nrc3 (sc' r z)) λ _ _ n=>absurd trivial n
        obtain ⟨f',s',o'⟩:=nx _ _ fc' oc2 sc'
        have nea:a0≠r:=λ e=>na3 (by rw [e];exact hrf3)
        have dm:∀ b,H3 b≠none->(upd H3 r (.lst (us3.set jq w))) b≠none:=λ b h=>by
         by_cases eb:b=r
         ·rw [eb,zqo];simp
         ·rw [zqn eb];exact h
        have hsub:∀ b∈a0::f',b∈fps3 i:=λ b hb=>by
         rw [hf3]
         exact (jb2.mp hb).elim (λ z=>by rw [z];exact ja3) λ z=>ja0 _ (s' b z)
        have kw:KS M H3 fps3 (upd H3 r (.lst (us3.set jq w))) (λ j=>if j=i then a0::f' else fps3 j):=⟨λ b u hb n=>by rw [zqn (λ e=>n ⟨i,by rw [e];exact hri⟩)];exact hb,dm,λ j b hb=>by
         by_cases ej:j=i
         ·simp only [if_pos ej] at hb;exact .inl ⟨i,hsub b hb⟩
         ·simp only [if_neg ej] at hb;exact .inl ⟨j,hb⟩⟩
        refine q σ _ _ (((k1.ks.trans k2.ks).trans k3.ks).trans kw) (rep3.change hal e3 hσ (λ b u hb n=>by rw [zqn (λ e=>n (by rw [e];exact hri))];exact hb) dm hsub (λ _=>rfl) ?_)
        rw [Own]
        exact ⟨a0,ws,rfl,.inr ⟨by decide,f',by rw [zqn nea];exact ha3,rfl,λ z=>na3 (s' a0 z),o'.full'⟩⟩
       ·split at q
        ·rename_i hc
         obtain ⟨rfl,rfl⟩:=hc
         have oy:Own M.K H1 (λ _=>True) y om w fp:=Own.full _ _ _ o1
         have e2i:ρ2[i]?=some (some (.lst rows,om)):=by rw [g2.1 i hm];exact ei
         obtain ⟨v2,hσ2,ol2⟩:=rep2.own0 hal i _ _ e2i
         rw [hσ] at hσ2
         cases hσ2
         obtain ⟨a0,ws,f2,rfl,ha2,hf2,na2,hol2⟩:=ol2.list (by decide:om≠0)
         rw [zju] at hol2
         obtain ⟨r,us,fc,ew,hr,hrf,oc,sc,nrc,_⟩:=hol2.row er
         have hai:a0∈fps2 i:=by rw [hf2];exact ja3
         refine ⟨a0,ws,a,.ref r,rfl,rfl,.inl (.inl ha2),?_,ρ2,fps2,rep2,?_⟩
         ·unfold atI
          rw [hol2.length,ep]
          exact ew
         rw [e2]
         intro vb H3 fps3 fpb k3 g3 rep3 ob tb
         rw [Own] at ob
         obtain ⟨rfl,rfl⟩:=ob
         have e3:ρ3[i]?=some (some (.lst rows,om)):=by rw [g3.1 i hm];exact e2i
         obtain ⟨v3,hσ3,ol3⟩:=rep3.own0 hal i _ _ e3
         rw [hσ] at hσ3
         cases hσ3
         obtain ⟨a',ws3,f3,ev,ha3,hf3,na3,hol3⟩:=ol3.list (by decide:om≠0)
         cases ev
         have hai3:a0∈fps3 i:=by rw [hf3];exact ja3
         have ht:=k3.top rep2 hm hai ha2
         rw [ha3] at ht
         cases ht
         rw [zju] at hol3
         obtain ⟨r',us3,fc3,ew3,hr3,hrf3,oc3,sc3,nrc3,nx⟩:=hol3.rowP er
         rw [ew] at ew3
         cases ew3
         have hri:r∈fps3 i:=by rw [hf3];exact ja0 _ hrf3
         refine ⟨r,us3,b,jq,rfl,rfl,hr3,by rw [oc3.length];exact eq,?_⟩
         have n2:∀ b∈fp,¬ Zf M fps2 b:=λ b hb z=>by
          rcases z with z | ⟨j,z⟩
          ·exact t1.ndj b hb (.inl z)
          ·rcases k2.sub j b z with z | z
           ·exact t1.ndj b hb (.inr ⟨j,z⟩)
           ·obtain ⟨o,ho⟩:=Own.lsts y _ w fp oy b hb
            rw [ho] at z
            cases z
         have oy2:Own M.K H2 (λ _=>True) y om w fp:=Own.move k2.keep (λ a ⟨_,_,h⟩=>⟨trivial,rep1.lsts h⟩) (λ _ _ n=>absurd trivial n) y om w fp (λ a ha ⟨j,_,hj⟩=>t1.ndj a ha (.inr ⟨j,hj⟩)) oy
         have n3:∀ b∈fp,¬ Zf M fps3 b:=λ b hb z=>by
          rcases z with z | ⟨j,z⟩
          ·exact n2 b hb (.inl z)
          ·rcases k3.sub j b z with z | z
           ·exact n2 b hb (.inr ⟨j,z⟩)
           ·obtain ⟨o,ho⟩:=Own.lsts y _ w fp oy2 b hb
            rw [ho] at z
            cases z
         have oy3:Own M.K H3 (λ _=>True) y om w fp:=Own.move k3.keep (λ a ⟨_,_,h⟩=>⟨trivial,rep2.lsts h⟩) (λ _ _ n=>absurd trivial n) y om w fp (λ a ha ⟨j,_,hj⟩=>n2 a ha (.inr ⟨j,hj⟩)) oy2
         have nfp:∀ b∈fp,b∉f3:=λ b hb z=>n3 b hb (.inr ⟨i,by rw [hf3];exact ja0 _ z⟩)
         obtain ⟨fc',sc',oc'⟩:=(oc3.full' (Z':=λ _=>True)).setF oy3 jq λ b hb z=>nfp b hb (sc3 b z)
         have oc2:OwnL M.K (upd H3 r (.lst (us3.set jq w))) (λ _=>True) (cells.set jq y) om (us3.set jq w) fc':=oc'.at trivial ⟨.l us3,hr3⟩ (λ z=>(sc' r z).elim nrc3 λ z=>nfp r z hrf3) λ _ _ n=>absurd trivial n
         obtain ⟨f',s',o'⟩:=nx _ _ fc' fp oc2 sc' nfp
         have nea:a0≠r:=λ e=>na3 (by rw [e];exact hrf3)
         have dm:∀ b,H3 b≠none->(upd H3 r (.lst (us3.set jq w))) b≠none:=λ b h=>by
          by_cases eb:b=r
          ·rw [eb,zqo];simp
          ·rw [zqn eb];exact h
         have oF:Own M.K (upd H3 r (.lst (us3.set jq w))) (λ _=>True) (.lst (rows.set p (.lst (cells.set jq y)))) om (.ref a0) (a0::f'):=by
          rw [Own]
          exact ⟨a0,ws,rfl,.inr ⟨by decide,f',by rw [zqn nea];exact ha3,rfl,λ z=>(s' a0 z).elim na3 λ z=>n3 a0 z (.inr ⟨i,hai3⟩),by rw [zju];exact o'⟩⟩
         have nz:∀ b∈a0::f',¬ Zf M (λ j=>if j=i then [] else fps3 j) b:=λ b hb z=>by
          have hz:Zf M fps3 b:=by
           rcases z with z | ⟨j,z⟩
           ·exact .inl z
           ·by_cases ej:j=i
            ·simp only [if_pos ej] at z;cases z
            ·simp only [if_neg ej] at z;exact .inr ⟨j,z⟩
          have hin:b∈fps3 i:=by
           rw [hf3]
           rcases jb2.mp hb with e | hb
           ·rw [e];exact ja3
           ·exact (s' b hb).elim (λ z=>ja0 _ z) λ z=>absurd hz (n3 b z)
          rcases z with z | ⟨j,z⟩
          ·exact rep3.zo i b hin z
          ·by_cases ej:j=i
           ·simp only [if_pos ej] at z;cases z
           ·simp only [if_neg ej] at z;exact rep3.dj i j (vb1 ej) b hin z
         have kw:KS M H3 fps3 (upd H3 r (.lst (us3.set jq w))) (λ j=>if j=i then [] else fps3 j):=⟨λ b u hb n=>by rw [zqn (λ e=>n ⟨i,by rw [e];exact hri⟩)];exact hb,dm,λ j b hb=>by
          by_cases ej:j=i
          ·simp only [if_pos ej] at hb;cases hb
          ·simp only [if_neg ej] at hb;exact .inl ⟨j,hb⟩⟩
         refine q σ _ _ (((k1.ks.trans k2.ks).trans k3.ks).trans kw) (rep3.change (f':=[]) hal e3 hσ (λ b u hb n=>by rw [zqn (λ e=>n (by rw [e];exact hri))];exact hb) dm (λ _ z=>nomatch z) (λ h=>by rw [hm] at h;cases h) ?_)
         exact Own.freeze (λ _ _=>trivial) _ _ _ _ nz oF
        ·exact q.elim
      ·exact q.elim
     ·exact q.elim
    ·exact q.elim
def sExt (i:Nat) (f:Fx) (vs:List Nat):Fs:=λ ρ=>match ρ[i]? with
 | some (some (.lst _,0))=>.no
 | some (some (.lst _,_ + 1))=>(match f ρ with
  | .ok (.lst ys,e,ρ1)=>(match (zqk e vs ρ1)[i]? with
   | some (some (.lst xs,d))=>if d≠0/\xs.length + ys.length<=va2 then .nx ((zqk e vs ρ1).set i (some (.lst (xs++ys),1))) else .no
   | _=>.no)
  | .ok _=>.no
  | .exc c=>.exc c
  | .no=>.no)
 | _=>.no
theorem qmt {f:Fx}{i:Nat}{D:Ends} (hal:∀ i,M.al i=[]) (hv:∀ i∈vs,M.Ms i=false) (hm:M.Ms i=false) (hq:tS M (sExt i f vs) D σ H):qcu (tBM M.K "list" qem (tVar i) (qcv (tE M f vs) tNil)) D σ H:=by
 obtain ⟨ρ,fps,rep,q⟩:=hq
 unfold sExt at q
 split at q
 ·exact q.elim
 ·rename_i xs0 d0 e0
  obtain ⟨v,hσ,o⟩:=rep.own0 hal i _ _ e0
  obtain ⟨a,ws0,fc0,rfl,ha0,hfp0,_,_⟩:=o.list (jk4 _)
  refine ⟨_,hσ,qaf (.inl (.inl ha0)),ρ,fps,rep,?_⟩
  cases ef:f ρ with
  | no=>rw [ef] at q;exact q
  | exc c=>rw [ef] at q;exact λ H' fps' k=>q _ H' fps' k.ks
  | ok p=>
   obtain ⟨y,e,ρ1⟩:=p
   rw [ef] at q
   cases y with
   | lst ys=>
    intro w H1 fps1 fp k1 g1 rep1 o1 t1
    dsimp only at q
    split at q
    ·rename_i xs d es
     split at q
     ·rename_i hc
      obtain ⟨fps2,k2,r2,o2,n2,s2,h2⟩:=Rep.behind rep k1 g1 rep1 o1 t1 hal hv
      obtain ⟨v',hσ',ol⟩:=r2.own0 hal i _ _ es
      rw [hσ] at hσ'
      cases hσ'
      obtain ⟨a',ws,fc,ev,ha,hfp,nac,hol⟩:=ol.list hc.1
      cases ev
      have hai:a∈fps2 i:=by rw [hfp];exact ja3
      have hafp:a∉fp:=λ z=>n2 a z (.inr ⟨i,hai⟩)
      have hst:∃ j,a∈fps j:=⟨i,by have:=s2 i a hai;rw [k1.same i hm] at this;exact this⟩
      have zsub:∀ b,Zf M (λ j=>if j=i then [a] else fps2 j) b->Zf (M.plus fp) fps2 b:=λ b h=>by
       rcases h with z | ⟨j,z⟩
       ·exact .inl (.inl z)
       ·by_cases ej:j=i
        ·simp only [if_pos ej] at z
         rw [jb7.mp z]
         exact .inr ⟨i,hai⟩
        ·simp only [if_neg ej] at z;exact .inr ⟨j,z⟩
      have nf:∀ b∈fc,¬ Zf M (λ j=>if j=i then [a] else fps2 j) b:=λ b hb z=>by
       have hbi:b∈fps2 i:=by rw [hfp];exact ja0 _ hb
       rcases z with z | ⟨j,z⟩
       ·exact r2.zo i b hbi (.inl z)
       ·by_cases ej:j=i
        ·simp only [if_pos ej] at z
         rw [jb7.mp z] at hb;exact nac hb
        ·simp only [if_neg ej] at z;exact r2.dj i j (vb1 ej) b hbi z
      have nfp:∀ b∈fp,¬ Zf M (λ j=>if j=i then [a] else fps2 j) b:=λ b hb z=>by
       rcases z with z | ⟨j,z⟩
       ·exact n2 b hb (.inl z)
       ·by_cases ej:j=i
        ·simp only [if_pos ej] at z
         rw [jb7.mp z] at hb;exact hafp hb
        ·simp only [if_neg ej] at z;exact n2 b hb (.inr ⟨j,z⟩)
      have za:Zf M (λ j=>if j=i then [a] else fps2 j) a:=.inr ⟨i,by simp⟩
      have u1:=(OwnL.freeze (Z':=Zf M (λ j=>if j=i then [a] else fps2 j)) zsub xs _ ws fc nf hol)
      have u2:=(Own.freeze (Z':=Zf M (λ j=>if j=i then [a] else fps2 j)) (λ b h=>by
       rcases h with z | ⟨j,z⟩
       ·exact .inl (.inl z)
       ·by_cases ej:j=i
        ·simp only [if_pos ej] at z
         rw [jb7.mp z]
         exact .inl (.inr ⟨i,hai⟩)
        ·simp only [if_neg ej] at z;exact .inl (.inr ⟨j,z⟩)) (.lst ys) _ w fp nfp o2)
      obtain ⟨b,us,rfl,hb,u3⟩:=u2.coldL
      refine ⟨a,b,ws,us,rfl,rfl,ha,hb,by rw [hol.length,u3.length];exact hc.2,?_⟩
      refine q σ _ _ (k2.write (i:=i) (f':=[]) (fp:=fp) hst λ b hb=>?_) (r2.rewrite hal es hσ ha hfp (λ z=>nomatch z) (λ b hb=>nomatch hb) (by decide) (λ h=>by rw [hm] at h;cases h) h2 ?_)
      ·rcases jb2.mp hb with z | z
       ·exact .inl (by rw [z];exact hai)
       ·cases z
      ·rw [zgv]
       exact OwnL.append0 (u3.at za ⟨.l ws,ha⟩ (λ z=>nomatch z) λ _ _ n=>n) (u1.at za ⟨.l ws,ha⟩ (λ z=>nomatch z) λ _ _ n=>n)
     ·exact q.elim
    ·exact q.elim
   | _=>exact q.elim
 ·exact q.elim
end
section
variable {M:Fm}{ρ ρ':Rho}{σ σ':St}{H H' H'':Hp}{fps fps' fps'':Fps}{vs vs':List Nat}
end
section
variable {is:List Nat}{M:Fm}{ρ ρ':Rho}{σ σ':St}{H H' H'':Hp}{fps fps' fps'':Fps}{vs vs':List Nat}{D:Ends}
end
section
variable {is:List Nat}{M:Fm}{ρ ρ':Rho}{σ σ':St}{H H' H'':Hp}{fps fps' fps'':Fps}{vs vs':List Nat}{D:Ends}
end
section
variable {M:Fm}{ρ ρ':Rho}{σ σ':St}{H H':Hp}{fps fps':Fps}{F F':Addr->Prop}{P P':List (Nat×V)}
end
section
variable {is:List Nat}{X:Cx}{M:Fm}{ρ ρ':Rho}{σ σ':St}{H H' H'':Hp}{fps fps' fps'':Fps}{vs vs':List Nat}{D:Ends}
end
section
variable {X:Cx}{W:St->Nat->Hp->Prop}
theorem qhg (hr:qa7 X W) (t:xTab X.K=true) (hcalm:X.calm=true) {c:Nat}{C:Addr}{x m:Str}{np cpos pos p:Pos}{j:_} (e:zws X.K c=some C) (hg:Gl X x) (hm:X.mg x=some (.ref C)) (hdb:(x == ("__debug__" : Str))=false):
  PS X (.Raise (some (.Call (.Name x np) [.Constant (.str m) j p] [] cpos)) none pos) (λ D σ H=>W σ c H):=by
 intro pins s σ H D I h
 obtain ⟨bm,N,nm,q,bs,hdct,sn,sub,ab,col,dd,k0,k1,k2,k3,k5,mN,hC,hN,hni,T,_⟩:=(qjp I.ok.mod.kin t e).obj
 have FB:=PySem.F.excBase_ValueError
 have he:va4 [Expr.Constant (.str m) j p] X.env=(false,eval (.Constant (.str m) j p) X.env)::va4 [] X.env:=rfl
 refine wpAny_Raise_call_subU (C:=C) (nm:=nm) (q:=q) (N:=N) (bs:=bs) (bm:=bm) (hdct:=hdct) (sn:=sn) (sub:=sub) (ab:=ab) (col:=col) (dd:=dd) (k0:=k0) (k1:=k1) (k2:=k2) (k3:=k3) (k5:=k5)
  FB (show bmV.contains (.type "ValueError")=true by decide +kernel) FB (mN:=mN) (T.hasType FB.hasBase) (I.ok.hd hcalm) rfl hni (zpc I hg hm ⟨rfl,?_⟩ hdb)
 rw [he]
 refine Calls.evalArgs_plain (vd1 ((zwj qi3 zyl (by rfl)) cpos pins s σ H (λ vs H'=>H'=H/\vs.length=1) I ⟨rfl,rfl⟩) (λ us s2 hu=>?_) λ _ _ y=>y)
 obtain ⟨vs,H2,I2,rv,eH,hl⟩:=hu
 subst eH
 refine ⟨rfl,?_,I2.bk _ _ hC,hN.keeps I2.bk,T.keeps I2.bk,λ h' a hx=>hr pins σ H2 s2 c C a h' us I2 e hx h⟩
 show us.length<=va2
 rw [<- rv.length,hl]
 decide
end
section
variable {X:Cx}{pins pins1:List (Addr×Obj)}{σ:St}{H:Hp}{s:va1}{e:va0->va1->Prop}
theorem Cx.Ok.wish2 {p:List (Addr×Obj)} (o:X.Ok):L2.Cx.Ok { X with pn:=p,xe:=e }:=⟨o.mod,o.kind,o.glob,o.blt,o.above,o.inj,o.has,o.cab,o.hd,o.frames,o.stk,o.exf,o.bs,o.bsz,o.noex,o.exfs,o.funs,o.frf⟩
theorem Inv.into (I:L2.Inv X pins σ H s):L2.Inv { X with pn:=X.pn++pins,xe:=e } [] σ H s:=
 ⟨Cx.Ok.wish2 I.ok,I.os,I.bare,I.base,I.loc,I.cell,I.free,I.freeC,λ p hp=>I.pin p (by simpa using hp),I.hok,I.len⟩
theorem Inv.outof (ok:X.Ok) (I:L2.Inv { X with pn:=X.pn++pins,xe:=e } pins1 σ H s):L2.Inv X pins σ H s:=
 ⟨ok,I.os,I.bare,I.base,I.loc,I.cell,I.free,I.freeC,λ p hp=>I.pin p (jb0 _ hp),I.hok,I.len⟩
abbrev Cx.inh (X:Cx) (v:va0):Cx:={ X with A:=X.A.mark (some v),calm:=false,xe:=λ _ _=>False }
theorem Inv.inh (v:va0) (I:L2.Inv X pins σ H s):L2.Inv (Cx.inh X v) pins σ H s:=
 ⟨⟨I.ok.mod,I.ok.kind,I.ok.glob,I.ok.blt,I.ok.above,I.ok.inj,I.ok.has,I.ok.cab,(λ h=>nomatch h),I.ok.frames,I.ok.stk,I.ok.exf,I.ok.bs,I.ok.bsz,I.ok.noex,I.ok.exfs,I.ok.funs,I.ok.frf⟩,I.os,I.bare,I.base,I.loc,I.cell,I.free,I.freeC,I.pin,I.hok,I.len⟩
theorem Inv.outh {v:va0} (ok:X.Ok) (I:L2.Inv (Cx.inh X v) pins σ H s):L2.Inv X pins σ H s:=
 ⟨ok,I.os,I.bare,I.base,I.loc,I.cell,I.free,I.freeC,I.pin,I.hok,I.len⟩
theorem qlp {M:Model}{A:vb8}{E:va0->va1->Prop}{i:Nat}{x:Str}{pos:Pos}{Q:Unit->va1->Prop} (I:L2.Inv X pins σ H s) (hN:X.N.Nodup) (hi:X.N[i]?=some x) (hk:X.env.kindOf x=some .local)
  (h:∀ s',L2.Inv X pins (σ.set i none) H s'->Q () s'):vb3 M A (do bindName X.env x .none;unbindBehindTheSuite X.env x pos) Q E s:=by
 obtain ⟨m,hn,hl⟩:=id I.loc
 have hcls:(X.env.scope.kind == .class || (X.env.scope.kind == .module && X.env.locals != X.env.globals))=false:=by rw [I.ok.kind];rfl
 have hiσ:i < σ.length:=by rw [I.len];exact (ja8.mp hi).1
 have cne:=I.cne
 refine wpAny_nameGoes_keeps hk hn hcls λ h' v hn' hs=>?_
 have tracked:HOk X.prog X.w H h':=λ b ob e=>by
  refine (I.hok b ob e).stay (λ c w' hc q=>(hs.2 c ?_).trans q) (λ _ q=>q) λ _ _ q=>q
  rintro rfl
  rcases hc with rfl | hc
  ·rw [I.free] at e;cases e
  ·rw [I.free] at hc;cases hc
 refine h _ ⟨I.ok,I.os,I.bare,⟨λ b o e n hb hx=>?_,λ b o e n hb hx=>?_,I.base.free,λ b o e hx=>?_,I.base.tups,I.base.frzs,I.base.tbls⟩,⟨_,hn',λ j y v' e1 e2 e3=>?_⟩,λ y c e=>?_,I.free,I.freeC,λ p hp=>?_,tracked,by simpa using I.len⟩
 ·exact (hs.2 b (jd2 (jb6 (va3 e) I.ok.above))).trans (I.base.keep b o e n hb hx)
 ·obtain ⟨sl,e1⟩:=I.base.slot b o e n hb hx
  exact ⟨sl,(hs.2 b (jd2 (jb6 (va3 e) I.ok.above))).trans e1⟩
 ·obtain ⟨o',e1⟩:=I.base.there b o e hx
  exact ⟨o',(hs.2 b (jd2 (jb6 (va3 e) I.ok.above))).trans e1⟩
 ·by_cases hj:j=i
  ·subst hj
   rw [jb5 hiσ] at e2
   cases e2
  ·rw [ja9 (vb1 hj)] at e2
   obtain ⟨u',r',q⟩:=hl j y v' e1 e2 e3
   refine ⟨u',r',?_⟩
   rcases q with ⟨k,e⟩ | ⟨k,c,e,z⟩
   ·refine .inl ⟨k,?_⟩
    have:y≠x:=λ e=>hj (zfi hN e1 (e ▸ hi))
    simp [this,e]
   ·exact .inr ⟨k,c,e,z.sameBut hs (cne y c e)⟩
 ·obtain ⟨w',z⟩:=I.cell y c e
  exact ⟨w',z.sameBut hs (cne y c e)⟩
 ·obtain ⟨e,n,ne,nf,d⟩:=I.pin p hp
  exact ⟨(hs.2 p.1 ne).trans e,n,ne,nf,d⟩
end
section
variable {M:Model}{A:vb8}{E:va0->va1->Prop}{K:Frag}
theorem qfs {s:va1}{a C D:Addr}{c d:Nat}{Q:Bool->va1->Prop} (xc:XC s.heap K c C) (xd:XC s.heap K d D) (ed:zws K d=some D) (he:zjy a C s.heap) (hq:Q (isX c d) s):vb3 M A (excMatches (.ref a) (.ref D)) Q E s:=by
 obtain ⟨bm,N,nm,q,bs,hdct,sn,sub,ab,col,dd,k0,k1,k2,k3,k5,mN,hC,hN,hni,T,hin⟩:=xc.obj
 obtain ⟨bm',N',nm',q',bs',hdct',sn',sub',ab',col',dd',k0',k1',k2',k3',k5',mN',hD,hN',hni',T',_⟩:=xd.obj
 obtain ⟨oe,vs,hoe,hcls,hdt⟩:=he
 have hcB:(Value.ref D::bm').contains (.type "BaseException")=true:=by rw [List.contains_cons,T'.hasType PySem.F.excBase_ValueError.hasBase,Bool.or_true]
 have hcC:=hin d D ed
 have f:=tc_notTuple
 obtain ⟨h,g,dr,t,os⟩:=s
 unfold excMatches
 repeat (first | (with_reducible refine ve3 hoe ?_;rw [hcls]) | with_reducible refine ve3 hD ?_ | (with_reducible refine wpAny_isSubtype_exc hD ?_;rw [hcB]) | (with_reducible refine wpAny_isSubtype_exc hC ?_;rw [hcC]) | wp_step)
 cases hb:isX c d <;> (rw [hb] at hq;wp_walk;exact hq)
end
section
variable {X:Cx}{pins:List (Addr×Obj)}{σ:St}{H H1:Hp}{s:va1}{B:Heap}{a C:Addr}{a0:va0}{c:Nat}
theorem zmh {s':va1}{h:Heap} (I:L2.Inv X pins σ H s) (un:Un (frs X.stack) [] H H1 s.heap s'.heap) (hok:HOk X.prog X.w H1 s'.heap) (fl:vi3 B X.stack a (.ref C) a0 h) (up:s'.heap.UpToSlots h)
  (i1:∀ b o,s'.heap.get? b=some o->H1 b≠none->B.get? b=some o) (i2:∀ b o,s.heap.get? b=some o->H b=none->b∉frs X.stack->B.get? b=some o) (ha:H1 a=none) (hn:s.heap.get? a=none) (hd:∀ b,H b≠none->H1 b≠none) (ho:s'.os=s.os) (hg:vf5 s'.gens):
  L2.Inv X pins σ (upd H1 a (.ext (zjy a C))) { s' with heap:=h }/\zjy a C h:=by
 have ex:zjy a C h:=by
  obtain ⟨oe,vs,e1,e2,e3,_⟩:=fl.first
  exact ⟨oe,vs,e1,e2,e3⟩
 have trk:∀ b v,H1 b≠none->s'.heap.get? b=some v->h.get? b=some v:=λ b v hb e=>fl.1 b v (i1 b v e hb)
 have nea:∀ b o,s.heap.get? b=some o->b≠a:=λ b o e z=>by rw [z,hn] at e;cases e
 have nea1:∀ b o,H1 b=some o->b≠a:=λ b o e z=>by rw [z,ha] at e;cases e
 have fr:∀ b o,s.heap.get? b=some o->H b=none->b∈frs X.stack->∃ sl,h.get? b=some { o with slots:=sl }:=λ b o e n hb=>by
  obtain ⟨sl,e2⟩:=un.any e n (by simp)
  obtain ⟨_,o',ho',hnf⟩:=I.stack.mem hb
  rw [e] at ho';cases ho'
  obtain ⟨sl2,e3⟩:=up b _ e2 hnf
  exact ⟨sl2,e3⟩
 refine ⟨I.call' (s':={ s' with heap:=h }) (ch:=[]) ho ⟨λ b o e n hb _=>fl.1 b o (i2 b o e n hb),λ b o e n hb _=>fr b o e n hb,λ b o e n _=>?_,λ b o e _=>?_,λ b xs e=>?_,λ b o xs e=>?_,λ b ps e=>?_⟩ (λ b o e=>?_) hg (λ b z=>absurd z (by simp)),ex⟩
 ·rw [zqn (nea b o e)];exact un.free b o e n (by simp)
 ·by_cases h0:H b=none
  ·by_cases hb:b∈frs X.stack
   ·obtain ⟨sl,e2⟩:=fr b o e h0 hb
    exact ⟨_,e2⟩
   ·exact ⟨o,fl.1 b o (i2 b o e h0 hb)⟩
  ·obtain ⟨o2,e2⟩:=un.there b o e (by simp)
   exact ⟨o2,trk b o2 (hd b h0) e2⟩
 ·have:=un.tups b xs e
  rw [zqn (nea1 b _ this)];exact this
 ·have:=un.frzs b o xs e
  rw [zqn (nea1 b _ this)];exact this
 ·obtain ⟨m,e1⟩:=un.tbls b ps e
  exact ⟨m,by rw [zqn (nea1 b _ e1)];exact e1⟩
 ·by_cases eb:b=a
  ·subst eb
   rw [zqo] at e
   cases e
   refine ⟨ex,?_,λ h1 h2 x k=>?_⟩
   ·obtain ⟨o,_,e1,_⟩:=ex
    exact ⟨o,e1⟩
   ·obtain ⟨o,vs,e1,e2⟩:=x
    exact ⟨o,vs,k o e1,e2⟩
  ·rw [zqn eb] at e
   refine (hok b o e).stay (λ d v hd q=>trk d v ?_ q) (λ d q=>?_) λ d xs q=>?_
   ·rcases hd with rfl | hd
    ·rw [e];simp
    ·rw [hd];simp
   ·rw [zqn (nea1 d _ q)];exact q
   ·rw [zqn (nea1 d _ q)];exact q
def WT (K:Frag) (d i j:Nat) (D:Ends) (σ₀:St):St->Nat->Hp->Prop:=λ σ c H'=>σ=σ₀/\isX c d=true/\∀ a C,H' a=none->zws K c=some C->D.nx (((σ.set j (some (.ref a))).set i (some (.ref a))).set j none) (upd H' a (.ext (zjy a C)))
theorem qhf {tb:(St->Nat->Hp->Prop)->TS}{body:List Stmt}{y n x:Str}{np hpos px pn pa pos:Pos}{d:Nat}{Dd:Addr}{i j:Nat} (t:xTab X.K=true) (hst:X.stack=X.env::X.outer) (hfr:X.env.frame=some X.env.locals) (hN:X.N.Nodup) (hi:X.N[i]?=some x) (hj:X.N[j]?=some n) (hij:i≠j)
  (hx:Loc X.env.scope x) (hn:X.env.kindOf n=some .local) (hfn:∀ z,X.fn z=true) (ed:zws X.K d=some Dd) (hg:Gl X y) (hm:X.mg y=some (.ref Dd)) (hdb:(y == ("__debug__" : Str))=false) (hdn:(n == ("__debug__" : Str))=false) (hcn:(n == ("__classdict__" : Str))=false)
  (hb:∀ pn' xe' W',zps (CXr X.prog X.w X.K) { X with pn:=pn',xe:=xe' } W'->vj4 (vb2 X.prog X.w) X.A X.env xe'->PSs { X with pn:=pn',xe:=xe' } body (tb W')):
  PS X (.Try body [.ExceptHandler (some (.Name y np)) (some n) [.Assign [.Name x px] (.Name n pn) pa] hpos] [] [] pos) (λ D σ H=>tb (WT X.K d i j D σ) D σ H):=by
 intro pins s σ H D I h
 refine wpAny_Try_except (vd1 (hb (X.pn++pins) _ (WT X.K d i j D σ) ?_ PassesOwn.looking [] s σ H D (Inv.into I) h) (λ f s1 hs=>?_) λ e s1 he=>he)
 ·
  intro pins1 σ1 H1 s1 e s' I1 hx'
  obtain ⟨a,C,c,H',B,a0,rfl,hc,ho,hg',un,hok,ha,hn',fl,i1,i2,hd,hE⟩:=hx'
  obtain ⟨rfl,hcd,hD⟩:WT X.K d i j D σ σ1 c H':=hE
  have I2:L2.Inv X pins σ1 H1 s1:=Inv.outof I.ok I1
  have fl':vi3 B (X.env::X.outer) a (.ref C) a0 s'.heap:=by rw [<- hst];exact fl
  refine wpAny_looks_onW (by rw [I.ok.frames,hst]) hfr fl' λ h4 held4 up4=>?_
  refine wpAny_landsW held4 λ h5 fl5 up5=>?_
  have up45:=up4.trans up5
  obtain ⟨I5,x5⟩:=zmh I2 un hok (by rw [hst];exact fl5) up45 i1 i2 ha hn' hd ho hg'
  have I5':=Inv.inh (.ref a) I5
  refine wpAny_handleBy_cons (codeAny_handlers_test (zpc I5' hg hm ?_ hdb)) (by intro q;cases q)
  refine qfs (qjp I5.kIn t hc) (qjp I5.kIn t ed) ed x5 ?_
  rw [hcd]
  refine codeAny_handlers_suite_as ?_
  refine lands_againW fl5 λ h6 fl6 up6=>?_
  obtain ⟨I6,x6⟩:=zmh I2 un hok (by rw [hst];exact fl6) (up45.trans up6) i1 i2 ha hn' hd ho hg'
  refine zmv (v:=.ref a) I6 hN hj (.inl hn) rfl (λ s7 I7=>?_) (.inl (hfn n))
  have hjl:j < σ1.length:=by rw [I2.len];exact (ja8.mp hj).1
  have pse:PS (Cx.inh X (.ref a)) (.Assign [.Name x px] (.Name n pn) pa) (tAsg (tVar j) (zjw i)):=qbs hN hi hx (qi1 hj (.inl hn) hdn hcn) rfl (.inl (hfn x))
  have run:=(zyz pse) pins s7 _ _ { nx:=λ σ' H''=>σ'=(σ1.set j (some (.ref a))).set i (some (.ref a))/\H''=upd H' a (.ext (zjy a C)),rt:=λ _ _=>False } (Inv.inh (.ref a) I7) ⟨.ref a,by rw [jb5 hjl],rfl,rfl⟩
  refine vd1 run (λ f s8 hs=>?_) λ _ _ z=>z.elim
  cases f with
  | next=>
   obtain ⟨σ',H'',I8,rfl,rfl⟩:=hs
   refine qlp (Inv.outh I.ok I8) hN hj hn λ s9 I9=>?_
   exact ⟨_,_,I9,hD a C ha hc⟩
  | brk=>obtain ⟨_,_,_,z⟩:=hs;exact z.elim
  | cont=>obtain ⟨_,_,_,z⟩:=hs;exact z.elim
  | ret u=>obtain ⟨_,_,_,_,_,z⟩:=hs;exact z.elim
 ·cases f with
  | next=>
   obtain ⟨σ',H',I',q⟩:=hs
   exact vg3 ⟨σ',H',Inv.outof I.ok I',q⟩
  | brk=>
   obtain ⟨σ',H',I',q⟩:=hs
   exact ⟨σ',H',Inv.outof I.ok I',q⟩
  | cont=>
   obtain ⟨σ',H',I',q⟩:=hs
   exact ⟨σ',H',Inv.outof I.ok I',q⟩
  | ret u=>
   obtain ⟨v,σ',H',I',r,q⟩:=hs
   exact ⟨v,σ',H',Inv.outof I.ok I',r,q⟩
end
section
variable {is:List Nat}{X:Cx}{M:Fm}{ρ ρ':Rho}{σ σ':St}{H H' H'':Hp}{fps fps' fps'':Fps}{vs vs':List Nat}{D:Ends}
def sExc (c:Nat):Fs:=λ _=>.exc c
theorem qmu {c:Nat} (hq:tS M (sExc c) D σ H):M.W σ c H:=by
 obtain ⟨ρ,fps,rep,q⟩:=hq
 exact q σ H fps KS.refl
def RrOk (M:Fm) (D:Ends) (σ:St) (H:Hp) (fps:Fps):Rs->Prop
 | .exc c=>∀ H' fps',KD M H fps H' fps'->M.W σ c H'
 | .nx ρ'=>RsOk M D H fps (.nx ρ')
 | .rt x d ρ'=>RsOk M D H fps (.rt x d ρ')
 | _=>False
def tR (M:Fm) (f:Fs):TS:=λ D σ H=>∃ ρ fps,Rep M ρ σ H fps/\RrOk M D σ H fps (f ρ)
theorem RrOk.from {r:Rs} (k1:KD M H fps H' fps') (q:RrOk M D σ H fps r):RrOk M D σ H' fps' r:=by
 cases r with
 | no=>exact q
 | exc c=>exact λ H2 fps2 k=>q H2 fps2 (k1.trans k)
 | rt x d ρ2=>exact RsOk.from (r:=.rt x d ρ2) k1.ks q
 | nx ρ2=>exact RsOk.from (r:=.nx ρ2) k1.ks q
 | bk ρ2=>exact q
 | ct ρ2=>exact q
theorem qj0 {f:Fx} (hq:tR M (zxb f) D σ H):qcu (tE M f vs) D σ H:=by
 obtain ⟨ρ,fps,rep,q⟩:=hq
 cases ef:f ρ with
 | ok p=>
  refine qdv (M:=M) ⟨ρ,fps,rep,?_⟩
  unfold zxb at q ⊢
  rw [ef] at q ⊢
  exact q
 | no=>
  unfold zxb at q
  rw [ef] at q
  exact q.elim
 | exc c=>
  unfold zxb at q
  rw [ef] at q
  refine ⟨ρ,fps,rep,?_⟩
  rw [ef]
  exact q
theorem qmw {f:Fx}{i:Nat}{ms:Bool} (hal:∀ i,M.al i=[]) (hv:∀ i∈vs,M.Ms i=false) (hms:M.Ms i=ms) (hio:M.Fre i) (hq:tR M (sSet ms i f vs) D σ H):tAsg (tE M f vs) (zjw i) D σ H:=by
 obtain ⟨ρ,fps,rep,q⟩:=hq
 cases ef:f ρ with
 | ok p=>
  refine qdq hal hv hms hio ⟨ρ,fps,rep,?_⟩
  cases er:sSet ms i f vs ρ with
  | nx ρ'=>rw [er] at q;exact q
  | rt x d ρ'=>rw [er] at q;exact q
  | exc c=>
   obtain ⟨x,d,ρ1⟩:=p
   unfold sSet at er
   rw [ef] at er
   dsimp only at er
   split at er <;> cases er
  | no=>rw [er] at q;exact q.elim
  | bk ρ'=>rw [er] at q;exact q.elim
  | ct ρ'=>rw [er] at q;exact q.elim
 | no=>
  unfold sSet at q
  rw [ef] at q
  exact q.elim
 | exc c=>
  unfold sSet at q
  rw [ef] at q
  refine ⟨ρ,fps,rep,?_⟩
  rw [ef]
  exact q
theorem qpp {c:Fb}{f g:Fs} (hq:tR M (sIf c f g) D σ H):tIfS (tT M c) (tR M f) (tR M g) D σ H:=by
 obtain ⟨ρ,fps,rep,q⟩:=hq
 refine ⟨ρ,fps,rep,?_⟩
 unfold sIf at q
 cases ec:c ρ with
 | no=>rw [ec] at q;exact q
 | exc c=>rw [ec] at q;exact q
 | ok p=>
  obtain ⟨b,ρ1⟩:=p
  rw [ec] at q
  intro H1 fps1 k1 g1 rep1
  dsimp only at q
  cases b with
  | true=>exact ⟨ρ1,fps1,rep1,RrOk.from k1 q⟩
  | false=>exact ⟨ρ1,fps1,rep1,RrOk.from k1 q⟩
def clr (ms:List Nat) (ρ:Rho):Bool:=ms.all λ k=>match ρ[k]? with
 | some (some (.non,_))=>true
 | some (some _)=>false
 | _=>true
def sTry (d i j:Nat) (ms:List Nat) (b:Fs):Fs:=λ ρ=>match b ρ with
 | .nx ρ'=>.nx ρ'
 | .rt y e ρ'=>.rt y e ρ'
 | .exc c=>if isX c d=true/\i < ρ.length/\clr ms ρ=true then .nx ((ρ.set i (some (.exn c,om))).set j none) else .no
 | _=>.no
def Fm.want (M:Fm) (W':St->Nat->Hp->Prop):Fm:={ M with W:=W' }
theorem Rep.want {W':St->Nat->Hp->Prop} (r:Rep M ρ σ H fps):Rep (M.want W') ρ σ H fps:=⟨r.own,r.non,r.dj,r.zo,r.fr,r.zd,r.len,r.msf,r.h0,r.iov⟩
theorem Rep.unwant {W':St->Nat->Hp->Prop} (r:Rep (M.want W') ρ σ H fps):Rep M ρ σ H fps:=⟨r.own,r.non,r.dj,r.zo,r.fr,r.zd,r.len,r.msf,r.h0,r.iov⟩
theorem Rep.gone {j:Nat} (hal:∀ i,M.al i=[]) (r:Rep M ρ σ H fps) (hio:M.Fre j):Rep M (ρ.set j none) (σ.set j none) H (λ k=>if k=j then [] else fps k):=by
 have sub:∀ k,∀ a∈(if k=j then [] else fps k),a∈fps k:=λ k a h=>by
  by_cases e:k=j
  ·rw [if_pos e] at h;cases h
  ·rw [if_neg e] at h;exact h
 have get:∀ k p,(ρ.set j none)[k]?=some (some p)->k≠j/\ρ[k]?=some (some p):=λ k p e=>by
  by_cases ek:k=j
  ·subst ek
   by_cases hl:k < ρ.length
   ·rw [jb5 hl] at e;cases e
   ·rw [List.set_eq_of_length_le (by omega)] at e
    rw [jg3 (by omega)] at e;cases e
  ·rw [ja9 (vb1 ek)] at e;exact ⟨ek,e⟩
 refine ⟨λ k x d e=>?_,λ k h=>?_,λ k l hkl a ha hb=>r.dj k l hkl a (sub k a ha) (sub l a hb),λ k a ha=>r.zo k a (sub k a ha),λ k hk a ha=>r.fr k hk a (sub k a ha),r.zd,by rw [jc5,jc5];exact r.len,λ k x d hk e=>r.msf k x d hk (get k _ e).2,r.h0,?_⟩
 ·obtain ⟨ek,e'⟩:=get k _ e
  obtain ⟨v,hv,o⟩:=r.own k x d e'
  refine ⟨v,by rw [ja9 (vb1 ek)];exact hv,?_⟩
  rw [if_neg ek]
  refine o.weak λ a h=>?_
  rcases h with h | ⟨l,nl,h⟩
  ·exact .inl h
  ·exact .inr ⟨l,nl,sub l a h⟩
 ·by_cases ek:k=j
  ·rw [if_pos ek]
  ·rw [if_neg ek]
   exact r.non k λ p e=>h p (by rw [ja9 (vb1 ek)];exact e)
 ·refine ⟨λ v hv=>?_,λ p hp=>?_⟩
  ·have:=r.iov.1 v hv
   have h0:=hio.1 (by rw [hv];simp)
   rw [ja9 h0]
   exact this
  ·rw [ja9 (hio.2 p hp).symm]
   exact r.iov.2 p hp
theorem qmo {d i j:Nat}{ms:List Nat}{b:Fs} (hal:∀ i,M.al i=[]) (hms:∀ i,M.Ms i=ms.contains i) (hmi:M.Ms i=false) (hij:i≠j) (hoi:M.Fre i) (hoj:M.Fre j) (hq:tS M (sTry d i j ms b) D σ H):tR (M.want (WT M.K d i j D σ)) b D σ H:=by
 obtain ⟨ρ,fps,rep,q⟩:=hq
 refine ⟨ρ,fps,rep.want,?_⟩
 unfold sTry at q
 have ks:∀ {H':Hp}{fps':Fps},KS (M.want (WT M.K d i j D σ)) H fps H' fps'->KS M H fps H' fps':=λ k=>⟨k.keep,k.dom,k.sub⟩
 cases eb:b ρ with
 | no=>rw [eb] at q;exact q
 | bk ρ'=>rw [eb] at q;exact q
 | ct ρ'=>rw [eb] at q;exact q
 | nx ρ'=>rw [eb] at q;exact λ σ' H' fps' k r=>q σ' H' fps' (ks k) r.unwant
 | rt x e ρ'=>rw [eb] at q;exact λ v σ' H' fps' fp k r o hf=>q v σ' H' fps' fp (ks k) r.unwant o hf
 | exc c=>
  rw [eb] at q
  dsimp only at q
  split at q
  ·rename_i hc
   intro H' fps' k
   refine ⟨rfl,hc.1,λ a C ha hC=>?_⟩
   have kk:∀ b o,H b=some o->H' b=some o:=λ b o h=>k.keep b o h λ ⟨l,hl,hb⟩=>by
    have hl:M.Ms l=true:=hl
    rw [hms l] at hl
    have hm:l∈ms:=by simpa using hl
    have hc3:=jc4.mp hc.2.2 l hm
    have e:fps l=[]:=by
     cases el:ρ[l]? with
     | none=>exact rep.non l λ p z=>by rw [el] at z;cases z
     | some q=>
      cases q with
      | none=>exact rep.non l λ p z=>by rw [el] at z;cases z
      | some p=>
       obtain ⟨x,dx⟩:=p
       rw [el] at hc3
       cases x <;> first | (obtain ⟨v,_,o⟩:=rep.own l _ _ el;rw [Own] at o;exact o.2) | exact nomatch hc3
    rw [e] at hb
    cases hb
   have k2:∀ b o,H b=some o->upd H' a (.ext (zjy a C)) b=some o:=λ b o h=>by
    rw [zqn (zzg (kk b o h) ha)];exact kk b o h
   have r2:=(rep.grow k2).bind1 (al:=[]) (i:=i) (y:=.exn c) (v:=.ref a) (by rw [Own];exact ⟨rfl,a,C,rfl,hC,zqo⟩) hc.2.1 ⟨hmi,hoi,hal i,λ l m hm=>by rw [hal l] at hm;cases hm⟩
   have r3:=r2.gone (j:=j) hal hoj
   have es:((σ.set j (some (V.ref a))).set i (some (V.ref a))).set j none=(σ.set i (some (V.ref a))).set j none:=by
    rw [List.set_comm _ _ (vb1 hij),jq8]
   rw [es]
   refine q _ _ _ ⟨λ b o h _=>k2 b o h,λ b h=>?_,λ l b hb=>?_⟩ r3
   ·cases e:H b with
    | none=>exact absurd e h
    | some o=>rw [k2 b o e];simp
   ·by_cases e1:l=j
    ·simp only [if_pos e1] at hb;cases hb
    ·simp only [if_neg e1] at hb
     by_cases e2:l=i
     ·simp only [if_pos e2] at hb;cases hb
     ·simp only [if_neg e2] at hb;exact .inl ⟨l,hb⟩
  ·exact q.elim
end
def zyx (i:Nat) (f fv fi fj:Fx):Fs:=λ ρ=>match ρ[i]? with
 | some (some (.lst _,_ + 1))=>(match f ρ with
  | .ok (y,e,ρ1)=>(match ρ1[i]? with
   | some (some (.lst xs,d))=>if e=om/\d≠0/\xs.length < va2 then (match fv (ρ1.set i none) with
    | .ok (v,_,ρ2)=>(match fi ρ2 with
     | .ok (.int p,_,ρ3)=>(match fj ρ3 with
      | .ok (.int q,_,ρ4)=>(match put2 y p q v with
       | some y'=>if qdd v=true then .nx (ρ4.set i (some (.lst (xs++[y']),1))) else .no
       | none=>.no)
      | _=>.no)
     | _=>.no)
    | _=>.no) else .no
   | _=>.no)
  | _=>.no)
 | _=>.no
section
variable {X:Cx}{M:Fm}{ρ:Rho}{σ:St}{H:Hp}{fps:Fps}
theorem Rep.away {i:Nat}{a:Addr}{fp:List Addr}{ws us:List V} (hal:∀ i,M.al i=[]) (r:Rep (M.plus fp) ρ σ H fps) (hai:a∈fps i) (ha:H a=some (.lst ws)):Rep (M.plus (a::fp)) (ρ.set i none) σ (upd H a (.lst us)) (λ j=>if j=i then [] else fps j):=by
 have dm:∀ b,H b≠none->(upd H a (.lst us)) b≠none:=λ b h=>by
  by_cases eb:b=a
  ·rw [eb,zqo];simp
  ·rw [zqn eb];exact h
 refine ⟨λ j x c hj=>?_,λ j hj=>?_,λ j k hjk b hb hc=>?_,λ j b hb z=>?_,λ j hj b hb=>?_,λ b z=>?_,by rw [jc5];exact r.len,λ j x c hm hj=>?_,λ b z=>dm b (r.h0 b z),r.iov⟩
 ·have ej:j≠i:=λ e=>by
   subst e
   by_cases hl:j < ρ.length
   ·rw [jb5 hl] at hj;cases hj
   ·rw [jg3 (by rw [jc5];omega)] at hj;cases hj
  rw [ja9 (vb1 ej)] at hj
  obtain ⟨v,hv,o⟩:=r.own j x c hj
  refine ⟨v,hv,?_⟩
  rw [if_neg ej]
  refine o.at (.inr ⟨i,by rw [show (M.plus fp).al j=M.al j from rfl,hal j];exact λ z=>(nomatch z),hai⟩) ⟨.l ws,ha⟩ (λ z=>r.dj j i ej a z hai) λ b hb nz z=>nz ?_
  rcases z with (z | z) | ⟨l,nl,z⟩
  ·exact .inl (.inl z)
  ·rcases jb2.mp z with z | z
   ·rw [z];exact .inr ⟨i,by rw [show (M.plus fp).al j=M.al j from rfl,hal j];exact λ z=>(nomatch z),hai⟩
   ·exact .inl (.inr z)
  ·by_cases el:l=i
   ·simp only [if_pos el] at z;cases z
   ·simp only [if_neg el] at z;exact .inr ⟨l,nl,z⟩
 ·by_cases ej:j=i
  ·rw [if_pos ej]
  ·rw [if_neg ej]
   exact r.non j λ p hp=>hj p (by rw [ja9 (vb1 ej)];exact hp)
 ·by_cases e1:j=i
  ·rw [if_pos e1] at hb;cases hb
  ·by_cases e2:k=i
   ·rw [if_pos e2] at hc;cases hc
   ·rw [if_neg e1] at hb;rw [if_neg e2] at hc;exact r.dj j k hjk b hb hc
 ·by_cases e1:j=i
  ·rw [if_pos e1] at hb;cases hb
  ·rw [if_neg e1] at hb
   rcases z with z | z
   ·exact r.zo j b hb (.inl z)
   ·rcases jb2.mp z with z | z
    ·exact r.dj j i e1 b hb (by rw [z];exact hai)
    ·exact r.zo j b hb (.inr z)
 ·by_cases e1:j=i
  ·rw [if_pos e1] at hb;cases hb
  ·rw [if_neg e1] at hb;exact r.fr j hj b hb
 ·rcases z with z | z
  ·exact dm b (r.zd b (.inl z))
  ·rcases jb2.mp z with z | z
   ·rw [z,zqo];simp
   ·exact dm b (r.zd b (.inr z))
 ·by_cases ej:j=i
  ·subst ej
   by_cases hl:j < ρ.length
   ·rw [jb5 hl] at hj;cases hj
   ·rw [jg3 (by rw [jc5];omega)] at hj;cases hj
  ·rw [ja9 (vb1 ej)] at hj
   exact r.msf j x c hm hj
theorem Rep.back {i:Nat}{a:Addr}{F:List Addr}{x:PV} (hal:∀ i,M.al i=[]) (r:Rep (M.plus (a::F)) ρ σ H fps) (hi:i < ρ.length) (hf:fps i=[]) (hσ:σ[i]?=some (some (.ref a))) (hm:M.Ms i=false) (h0:M.H₀ a=none) (hz:¬ M.Zo a) (o:Own M.K H (Zf M (λ j=>if j=i then [a] else fps j)) x 1 (.ref a) [a]):Rep M (ρ.set i (some (x,1))) σ H (λ j=>if j=i then [a] else fps j):=by
 have na:∀ j,a∉fps j:=λ j z=>r.zo j a z (.inr ja3)
 refine ⟨λ j y c hj=>?_,λ j hj=>?_,λ j k hjk b hb hc=>?_,λ j b hb z=>?_,λ j hj b hb=>?_,λ b z=>r.zd b (.inl z),by rw [jc5];exact r.len,λ j y c hmj hj=>?_,r.h0,r.iov⟩
 ·by_cases ej:j=i
  ·subst ej
   rw [jb5 hi] at hj
   cases hj
   refine ⟨_,hσ,?_⟩
   rw [if_pos rfl]
   exact o.weak λ b h=>h.elim .inl λ ⟨l,_,z⟩=>.inr ⟨l,z⟩
  ·rw [ja9 (vb1 ej)] at hj
   obtain ⟨v,hv,o'⟩:=r.own j y c hj
   refine ⟨v,hv,?_⟩
   rw [if_neg ej]
   refine o'.weak λ b h=>?_
   rcases h with z | ⟨l,nl,z⟩
   ·exact .inl (.inl z)
   ·by_cases el:l=i
    ·simp only [if_pos el] at z
     rw [jb7.mp z]
     exact .inl (.inr ja3)
    ·simp only [if_neg el] at z;exact .inr ⟨l,nl,z⟩
 ·by_cases ej:j=i
  ·subst ej
   exact absurd (jb5 hi) (hj (x,1))
  ·rw [if_neg ej]
   exact r.non j λ p hp=>hj p (by rw [ja9 (vb1 ej)];exact hp)
 ·by_cases e1:j=i
  ·by_cases e2:k=i
   ·exact hjk (e1.trans e2.symm)
   ·rw [if_pos e1] at hb;rw [if_neg e2] at hc
    rw [jb7.mp hb] at hc
    exact na k hc
  ·by_cases e2:k=i
   ·rw [if_neg e1] at hb;rw [if_pos e2] at hc
    rw [jb7.mp hc] at hb
    exact na j hb
   ·rw [if_neg e1] at hb;rw [if_neg e2] at hc;exact r.dj j k hjk b hb hc
 ·by_cases e1:j=i
  ·rw [if_pos e1] at hb
   rw [jb7.mp hb] at z
   exact hz z
  ·rw [if_neg e1] at hb;exact r.zo j b hb (.inl z)
 ·by_cases e1:j=i
  ·rw [if_pos e1] at hb
   rw [jb7.mp hb]
   exact h0
  ·rw [if_neg e1] at hb;exact r.fr j hj b hb
 ·by_cases ej:j=i
  ·rw [ej,hm] at hmj;cases hmj
  ·rw [ja9 (vb1 ej)] at hj
   exact r.msf j y c hmj hj
theorem qip {ws:List V}{w:V}:atI (ws++[w]) (-1)=some w:=by
 unfold atI
 have e:ixN (ws++[w]).length (-1)=some ws.length:=by
  unfold ixN
  rw [jb1,ja6]
  rw [if_neg (by decide),if_pos (by omega)]
  congr 1
  omega
 rw [e]
 show (ws++[w])[ws.length]?=some w
 simp
theorem qdw {f fv fi fj:Fx}{vs vv vi vj:List Nat}{i:Nat}{D:Ends}{P:Fm->Prop} (hal:∀ i,M.al i=[]) (hm:M.Ms i=false) (hP:∀ F,P (M.plus F)) (hq:tS M (zyx i f fv fi fj) D σ H):
  tSeq (qcu (tBM M.K "list" qao (tVar i) (qcv (tE M f vs) tNil))) (tAsg (λ σ H Q=>∃ M',P M'/\tE M' fv vv σ H Q) (gSub (tOp (rIxL M.K) (tOp (rIxL M.K) (tVar i) (tC (.int (-1)))) (λ σ H Q=>∃ M',P M'/\tE M' fi vi σ H Q)) (λ σ H Q=>∃ M',P M'/\tE M' fj vj σ H Q) qhc)) D σ H:=by
 obtain ⟨ρ,fps,rep,q⟩:=hq
 unfold zyx at q
 split at q
 ·rename_i xs0 d0 e0
  obtain ⟨v,hσ,o⟩:=rep.own0 hal i _ _ e0
  obtain ⟨a,ws0,fc0,rfl,ha0,hfp0,_,_⟩:=o.list (jk4 _)
  refine ⟨_,hσ,qaf (.inl (.inl ha0)),ρ,fps,rep,?_⟩
  cases ef:f ρ with
  | no=>rw [ef] at q;exact q.elim
  | exc c=>rw [ef] at q;exact q.elim
  | ok p=>
   obtain ⟨y,e,ρ1⟩:=p
   rw [ef] at q
   intro w H1 fps1 fp k1 g1 rep1 o1 t1
   dsimp only at q
   split at q
   ·rename_i xs d es
    split at q
    ·rename_i hc
     obtain ⟨rfl,hd,hlen⟩:=hc
     have lfp:∀ b∈fp,∃ o:MO,H1 b=some o.ho:=Own.lsts y _ w fp o1
     have rw1:Rep (M.plus fp) ρ1 σ H1 fps1:=rep.wide (λ i j hj=>by rw [hal i] at hj;cases hj) k1 g1 rep1 λ b hb=>⟨t1.new b hb,by obtain ⟨o,ho⟩:=lfp b hb;rw [ho];simp,t1.ndj b hb⟩
     obtain ⟨v',hσ',ol⟩:=rw1.own0 (M:=M.plus fp) hal i _ _ es
     rw [hσ] at hσ'
     cases hσ'
     obtain ⟨a',ws,fc,ev,ha,hfp,nac,hol⟩:=ol.list hd
     cases ev
     have hai:a∈fps1 i:=by rw [hfp];exact ja3
     have hafp:a∉fp:=λ z=>t1.ndj a z (.inr ⟨i,hai⟩)
     have hai0:a∈fps i:=by have:=k1.same i hm;rw [<- this];exact hai
     refine ⟨a,ws,w,rfl,rfl,ha,by rw [hol.length];exact hlen,?_⟩
     let H2:Hp:=upd H1 a (.lst (ws++[w]))
     let M2:Fm:=M.plus (a::fp)
     let fps2:Fps:=λ j=>if j=i then [] else fps1 j
     have r2:Rep M2 (ρ1.set i none) σ H2 fps2:=rw1.away hal hai ha
     have il:i < ρ1.length:=(ja8.mp es).1
     let Z2:Addr->Prop:=Zf M2 fps2
     have za:Z2 a:=.inl (.inr ja3)
     have ux:OwnL M.K H2 Z2 xs 0 ws []:=by
      refine (OwnL.freeze (Z':=Z2) (λ b h=>?_) xs _ ws fc (λ b hb z=>?_) hol).at za ⟨.l ws,ha⟩ (λ z=>nomatch z) λ _ _ n=>n
      ·rcases h with (z | z) | ⟨j,z⟩
       ·exact .inl (.inl z)
       ·rcases jb2.mp z with z | z
        ·rw [z];exact .inr ⟨i,hai⟩
        ·exact .inl (.inr z)
       ·by_cases ej:j=i
        ·simp only [fps2,if_pos ej] at z;cases z
        ·simp only [fps2,if_neg ej] at z;exact .inr ⟨j,z⟩
      ·have hbi:b∈fps1 i:=by rw [hfp];exact ja0 _ hb
       rcases z with (z | z) | ⟨j,z⟩
       ·exact rw1.zo i b hbi (.inl z)
       ·rcases jb2.mp z with z | z
        ·rw [z] at hb;exact nac hb
        ·exact rw1.zo i b hbi (.inr z)
       ·by_cases ej:j=i
        ·simp only [fps2,if_pos ej] at z;cases z
        ·simp only [fps2,if_neg ej] at z;exact rw1.dj i j (vb1 ej) b hbi z
     have uy:Own M.K H2 (λ _=>True) y om w fp:=(Own.full (Z':=λ _=>True) y w fp o1).at trivial ⟨.l ws,ha⟩ hafp λ _ _ n=>absurd trivial n
     have mv:∀ {ρa:Rho}{Ha Hb:Hp}{fa fb:Fps},KD M2 Ha fa Hb fb->Rep M2 ρa σ Ha fa->∀ {z:PV}{u:V}{fz:List Addr},(∀ b∈fz,b∈fp)->Own M.K Ha (λ _=>True) z om u fz->Own M.K Hb (λ _=>True) z om u fz:=λ k r z u fz hz o=>
      Own.move k.keep (λ b ⟨_,_,h⟩=>⟨trivial,r.lsts h⟩) (λ _ _ n=>absurd trivial n) z om u fz (λ b hb ⟨j,_,hj⟩=>r.zo j b hj (.inr (ja0 _ (hz b hb)))) o
     have ka:∀ {ρa:Rho}{Ha Hb:Hp}{fa fb:Fps}{o:HO},KD M2 Ha fa Hb fb->Rep M2 ρa σ Ha fa->∀ b,b∈a::fp->Ha b=some o->Hb b=some o:=λ k r b hb h=>k.keep b _ h λ ⟨j,_,hj⟩=>r.zo j b hj (.inr hb)
     refine ⟨M2,hP _,ρ1.set i none,fps2,r2,?_⟩
     cases efv:fv (ρ1.set i none) with
     | no=>rw [efv] at q;exact q.elim
     | exc c=>rw [efv] at q;exact q.elim
     | ok pv=>
      obtain ⟨x,dx,ρ2⟩:=pv
      rw [efv] at q
      intro u H3 fps3 fpu k3 g3 rep3 ou tu
      dsimp only at q
      have ha3:H3 a=some (.lst (ws++[w])):=ka k3 r2 a ja3 zqo
      refine ⟨.ref a,hσ,a,ws++[w],-1,w,rfl,rfl,.inl (.inl ha3),qip,M2,hP _,ρ2,fps3,rep3,?_⟩
      split at q
      ·rename_i p dp ρ3 efi
       rw [efi]
       intro up H4 fps4 fpp k4 g4 rep4 op tp
       rw [Own] at op
       obtain ⟨rfl,rfl⟩:=op
       split at q
       ·rename_i qq dq ρ4 efj
        split at q
        ·rename_i y' ey
         obtain ⟨rows,pi,cells,qi,rfl,epi,er,eqi,rfl⟩:=zgo ey
         split at q
         ·rename_i hy
          have uy4:=mv k4 rep3 (λ b hb=>hb) (mv k3 r2 (λ b hb=>hb) uy)
          obtain ⟨at',wr,fr,rfl,hat,hfr,nat,olr⟩:=uy4.list (by decide:om≠0)
          rw [zju] at olr
          obtain ⟨r,us,fcr,ew,hr,hrf,oc,sc,nrc,_⟩:=olr.row er
          refine ⟨at',wr,p,.ref r,rfl,rfl,.inl (.inl hat),?_,M2,hP _,ρ3,fps4,rep4,?_⟩
          ·unfold atI
           rw [olr.length,epi]
           exact ew
          rw [efj]
          intro uq H5 fps5 fpq k5 g5 rep5 oq tq
          rw [Own] at oq
          obtain ⟨rfl,rfl⟩:=oq
          have uy5:=mv k5 rep4 (λ b hb=>hb) uy4
          obtain ⟨at5,wr5,fr5,ev,hat5,hfr5,nat5,olr5⟩:=uy5.list (by decide:om≠0)
          cases ev
          have hatf:at'∈fp:=by rw [hfr];exact ja3
          have ht:=ka k5 rep4 at' (ja0 _ hatf) hat
          rw [hat5] at ht
          cases ht
          rw [zju] at olr5
          obtain ⟨r',us5,fc5,ew5,hr5,hrf5,oc5,sc5,nrc5,nx⟩:=olr5.row er
          rw [ew] at ew5
          cases ew5
          have hrfp:r∈fp:=by rw [hfr5];exact ja0 _ hrf5
          refine ⟨r,us5,qq,qi,rfl,rfl,hr5,by rw [oc5.length];exact eqi,?_⟩
          obtain ⟨rfl,oy⟩:=Own.flatA (Z':=λ _=>True) (d':=om) hy ou
          have oy5:=mv k5 rep4 (fz:=[]) (λ _ z=>nomatch z) (mv k4 rep3 (fz:=[]) (λ _ z=>nomatch z) oy)
          obtain ⟨fc',sc',oc'⟩:=(oc5.full' (Z':=λ _=>True)).set oy5 qi
          let H6:Hp:=upd H5 r (.lst (us5.set qi u))
          have oc2:OwnL M.K H6 (λ _=>True) (cells.set qi x) om (us5.set qi u) fc':=oc'.at trivial ⟨.l us5,hr5⟩ (λ z=>nrc5 (sc' r z)) λ _ _ n=>absurd trivial n
          obtain ⟨f',s',o'⟩:=nx _ _ fc' oc2 sc'
          have nea:at'≠r:=λ e=>nat5 (by rw [e];exact hrf5)
          have dm6:∀ b,H5 b≠none->H6 b≠none:=λ b h=>by
           by_cases eb:b=r
           ·show upd H5 r _ b≠none
            rw [eb,zqo];simp
           ·show upd H5 r _ b≠none
            rw [zqn eb];exact h
          have k25:KD M2 H2 fps2 H5 fps5:=(k3.trans k4).trans k5
          have ha5:H5 a=some (.lst (ws++[.ref at'])):=ka k5 rep4 a ja3 (ka k4 rep3 a ja3 ha3)
          have har:a≠r:=λ e=>hafp (by rw [e];exact hrfp)
          have f5i:fps5 i=[]:=by
           have:=k25.same i hm
           rw [this]
           exact if_pos rfl
          let fps6:Fps:=λ j=>if j=i then [a] else fps5 j
          let Z6:Addr->Prop:=Zf M fps6
          have z65:∀ b,Z6 b->Zf M2 fps5 b:=λ b h=>by
           rcases h with z | ⟨j,z⟩
           ·exact .inl (.inl z)
           ·by_cases ej:j=i
            ·simp only [fps6,if_pos ej] at z
             rw [jb7.mp z]
             exact .inl (.inr ja3)
            ·simp only [fps6,if_neg ej] at z;exact .inr ⟨j,z⟩
          have ux5:OwnL M.K H5 (Zf M2 fps5) xs 0 ws []:=OwnL.move k25.keep (λ b ⟨j,_,h⟩=>⟨.inr ⟨j,h⟩,r2.lsts h⟩) (λ b hb nz z=>nz (by
           rcases z with z | ⟨j,z⟩
           ·exact .inl z
           ·rcases k25.sub j b z with z | z
            ·exact .inr ⟨j,z⟩
            ·exact absurd z hb)) xs 0 ws [] (λ _ z=>nomatch z) ux
          have ux6:OwnL M.K H6 Z6 xs 0 ws []:=ux5.at (.inl (.inr (ja0 _ hrfp))) ⟨.l us5,hr5⟩ (λ z=>nomatch z) λ b _ n z=>n (z65 b z)
          have oF:Own M.K H6 (λ _=>True) (.lst (rows.set pi (.lst (cells.set qi x)))) om (.ref at') (at'::f'):=by
           rw [Own]
           exact ⟨at',wr,rfl,.inr ⟨by decide,f',by show upd H5 r _ at'=_;rw [zqn nea];exact hat5,rfl,λ z=>nat5 (s' at' z),by rw [zju];exact o'⟩⟩
          have uy6:Own M.K H6 Z6 (.lst (rows.set pi (.lst (cells.set qi x)))) 0 (.ref at') []:=Own.freeze (λ _ _=>trivial) _ _ _ _ (λ b hb z=>by
           have hbf:b∈fp:=by
            rw [hfr5]
            rcases jb2.mp hb with e | hb
            ·rw [e];exact ja3
            ·exact ja0 _ (s' b hb)
           rcases z with z | ⟨j,z⟩
           ·exact t1.ndj b hbf (.inl z)
           ·by_cases ej:j=i
            ·simp only [fps6,if_pos ej] at z
             rw [jb7.mp z] at hbf
             exact hafp hbf
            ·simp only [fps6,if_neg ej] at z
             exact rep5.zo j b z (.inr (ja0 _ hbf))) oF
          have own6:Own M.K H6 Z6 (.lst (xs++[.lst (rows.set pi (.lst (cells.set qi x)))])) 1 (.ref a) [a]:=by
           rw [Own]
           refine ⟨a,ws++[.ref at'],rfl,.inr ⟨by decide,[],by show upd H5 r _ a=_;rw [zqn har];exact ha5,rfl,(λ z=>nomatch z),?_⟩⟩
           rw [zgv]
           exact ux6.snoc uy6 λ _ z=>nomatch z
          have lfa:∀ b∈a::fp,∃ o:MO,H5 b=some o.ho:=λ b hb=>by
           rcases jb2.mp hb with e | hb
           ·rw [e];exact ⟨.l _,ha5⟩
           ·exact Own.lsts _ _ _ _ uy5 b hb
          have rep6:Rep M2 ρ4 σ H6 fps5:=rep5.apart (λ b o h n=>by show upd H5 r _ b=_;rw [zqn λ e=>n (by rw [e];exact ja0 _ hrfp)];exact h) dm6 lfa
          have i4:i < ρ4.length:=by rw [g5.2,g4.2,g3.2,jc5];exact il
          have d12:∀ b,H1 b≠none->H2 b≠none:=λ b h=>by
           by_cases eb:b=a
           ·show upd H1 a _ b≠none
            rw [eb,zqo];simp
           ·show upd H1 a _ b≠none
            rw [zqn eb];exact h
          have sub2:∀ j b,b∈fps2 j->(∃ l,b∈fps l)\/H b=none:=λ j b hb=>by
           by_cases ej:j=i
           ·simp only [fps2,if_pos ej] at hb;cases hb
           ·simp only [fps2,if_neg ej] at hb
            exact (k1.sub j b hb).elim (λ z=>.inl ⟨j,z⟩) .inr
          have ks:KS M H fps H6 fps6:=by
           refine ⟨λ b o h n=>?_,λ b h=>dm6 b (k25.dom b (d12 b (k1.dom b h))),λ j b hb=>?_⟩
           ·have h1:=k1.keep b o h λ ⟨j,_,z⟩=>n ⟨j,z⟩
            have h2:H2 b=some o:=by
             show upd H1 a _ b=_
             rw [zqn λ e=>n ⟨i,by rw [e];exact hai0⟩];exact h1
            have h5:=k25.keep b o h2 λ ⟨j,_,z⟩=>(sub2 j b z).elim n λ z=>by rw [z] at h;cases h
            show upd H5 r _ b=_
            rw [zqn λ e=>by rw [e,t1.new r hrfp] at h;cases h]
            exact h5
           ·by_cases ej:j=i
            ·simp only [fps6,if_pos ej] at hb
             rw [jb7.mp hb]
             exact .inl ⟨i,hai0⟩
            ·simp only [fps6,if_neg ej] at hb
             rcases k25.sub j b hb with z | z
             ·exact sub2 j b z
             ·refine .inr ?_
              cases hb':H b with
              | none=>rfl
              | some o=>exact absurd z (d12 b (k1.dom b (by rw [hb'];simp)))
          exact q σ H6 fps6 ks (rep6.back hal i4 f5i hσ hm (rep.fr i hm a hai0) (rep.zo i a hai0) own6)
         ·exact q.elim
        ·exact q.elim
       ·exact q.elim
      ·exact q.elim
    ·exact q.elim
   ·exact q.elim
 ·exact q.elim
end
def qb6:Expr->Bool
 | .ListComp _ _ _ _=>true
 | .SetComp _ _ _ _=>true
 | .DictComp _ _ _ _ _=>true
 | _=>false
def qp2:Expr->Bool
 | .Tuple _ _ _=>true
 | .List _ _=>true
 | _=>false
def zqs (d:Stmt->Option Fs):List Stmt->Option Fs
 | []=>some sNil
 | [s]=>d s
 | s::r=>match d s,zqs d r with
  | some f,some g=>some (sSeq f g)
  | _,_=>none
def locB (S:Sx) (x:Str):Bool:=zwo S.sc x .local || zwo S.sc x .cell
def zgz (S:Sx) (i:Nat):Bool:=(decide (i≠0) || !S.msF 0) && !S.pn.contains i
def qnm (iw:Iw) (asg:PV->Rho->Option Rho) (body:Fs):Fs:=match iw with
 | .rng en fa _=>zwq en fa asg body
 | .seq f vs=>zvv f vs asg body
 | .vw v fa vs=>zjt v fa vs asg body
def zbl (S:Sx):List Expr->Option (List Nat)
 | []=>some []
 | .Name x _::r=>match S.slot x,zbl S r with
  | some i,some is=>if locB S x=true/\zgz S i=true/\S.msF i=false then some (i::is) else none
  | _,_=>none
 | _=>none
def rzE:Expr->Option Str
 | .Call f es ks _=>(match nmE f with
  | some x=>(match es with
   | [e]=>(match e with
    | .Constant k _ _=>(match k with
     | .str _=>(match ks with
      | []=>some x
      | _::_=>none)
     | _=>none)
    | _=>none)
   | _=>none)
  | none=>none)
 | _=>none
theorem qnn {e:Expr}{x:Str} (h:rzE e=some x):∃ np m j p cpos,e=.Call (.Name x np) [.Constant (.str m) j p] [] cpos:=by
 unfold rzE at h
 split at h
 ·split at h
  ·rename_i hx
   obtain ⟨np,rfl⟩:=zvu hx
   split at h
   ·split at h
    ·split at h
     ·split at h
      ·cases h;exact ⟨_,_,_,_,_,rfl⟩
      ·cases h
     ·cases h
    ·cases h
   ·cases h
  ·cases h
 ·cases h
def rzOf:Option Expr->Option Expr->Option Str
 | some e,none=>rzE e
 | _,_=>none
theorem qkh {e c:Option Expr}{x:Str} (h:rzOf e c=some x):∃ np m j p cpos,e=some (.Call (.Name x np) [.Constant (.str m) j p] [] cpos)/\c=none:=by
 unfold rzOf at h
 split at h
 ·obtain ⟨np,m,j,p,cpos,rfl⟩:=qnn h
  exact ⟨np,m,j,p,cpos,rfl,rfl⟩
 ·cases h
def asE:Stmt->Option (Str×Expr)
 | .Assign ts e _=>(match ts with
  | [t]=>(nmE t).map λ x=>(x,e)
  | _=>none)
 | _=>none
theorem qjo {st:Stmt}{x:Str}{e:Expr} (h:asE st=some (x,e)):∃ px pa,st=.Assign [.Name x px] e pa:=by
 unfold asE at h
 split at h
 ·split at h
  ·obtain ⟨y,hy,e2⟩:=jb9.mp h
   cases e2
   obtain ⟨px,rfl⟩:=zvu hy
   exact ⟨_,_,rfl⟩
  ·cases h
 ·cases h
def hdE:vh2->Option (Str×Option Str×Str×Expr)
 | .ExceptHandler ty n body _=>(match ty with
  | some ty=>(match nmE ty with
   | some y=>(match body with
    | [st]=>(asE st).map λ p=>(y,n,p.1,p.2)
    | _=>none)
   | none=>none)
  | none=>none)
theorem qo3 {hh:vh2}{y x:Str}{n:Option Str}{e:Expr} (h:hdE hh=some (y,n,x,e)):∃ np px pa hpos,hh=.ExceptHandler (some (.Name y np)) n [.Assign [.Name x px] e pa] hpos:=by
 unfold hdE at h
 split at h
 split at h
 ·split at h
  ·rename_i hy
   obtain ⟨np,rfl⟩:=zvu hy
   split at h
   ·obtain ⟨p,hp,e2⟩:=jb9.mp h
    cases e2
    obtain ⟨px,pa,rfl⟩:=qjo hp
    exact ⟨_,_,_,_,rfl⟩
   ·cases h
  ·cases h
 ·cases h
def tryE (hs:List vh2) (o f:List Stmt):Option (Str×Option Str×Str×Expr):=match hs with
 | [h]=>(match o with
  | []=>(match f with
   | []=>hdE h
   | _::_=>none)
  | _::_=>none)
 | _=>none
theorem qjt {hs:List vh2}{o f:List Stmt}{y x:Str}{n:Option Str}{e:Expr} (h:tryE hs o f=some (y,n,x,e)):∃ np px pa hpos,hs=[.ExceptHandler (some (.Name y np)) n [.Assign [.Name x px] e pa] hpos]/\o=[]/\f=[]:=by
 unfold tryE at h
 split at h
 ·split at h
  ·split at h
   ·obtain ⟨np,px,pa,hpos,rfl⟩:=qo3 h
    exact ⟨_,_,_,_,rfl,rfl,rfl⟩
   ·cases h
  ·cases h
 ·cases h
def zmz (S:Sx) (x:Str):Option Nat:=match XN.findIdx? (·== x) with
 | some c=>if S.rz=true/\S.xc.contains c=true/\S.glob x=true then some c else none
 | none=>none
def Sx.nr (S:Sx):Sx:={ S with rz:=false }
def isCl:Expr->Bool
 | .Call f _ ks _=>(nmE f).isSome && ks.isEmpty
 | _=>false
theorem qlj {e:Expr} (h:isCl e=true):∃ x p es p1,e=.Call (.Name x p) es [] p1:=by
 unfold isCl at h
 split at h
 ·rw [ja4,ji6,List.isEmpty_iff] at h
  obtain ⟨⟨x,hx⟩,rfl⟩:=h
  obtain ⟨p,rfl⟩:=zvu hx
  exact ⟨_,_,_,_,rfl⟩
 ·cases h
def qfw:Nat->Sx->List Stmt->Option Fs
 | 0,_,_=>none
 | n + 1,S,sts=>match sts with
  | [st]=>(match st with
   | .Expr v _=>if isCl v=true then (match den 60 S v with
    | some (f,_)=>some (zxb f)
    | none=>none) else none
   | .If c a b _=>(match den 60 S c,qfw n S a,qfw n S b with
    | some (f,_),some s,some t=>some (sIf (bT f) s t)
    | _,_,_=>none)
   | st=>(match asE st with
    | some (x,e)=>(match S.slot x,den 60 S e with
     | some i,some (f,vs)=>if locB S x=true/\zgz S i=true/\qb6 e=false then some (sSet (S.msF i) i f vs) else none
     | _,_=>none)
    | none=>none))
  | _=>none
def denA (S:Sx):Expr->Option D2
 | .Dict [] [] _=>some (bDct,[])
 | e=>den 60 S e
def qpc (S:Sx) (x at':Str) (apos:Pos) (e:Expr) (cpos:Pos):Option Fs:=if at' = "append" then (match S.slot x,den 60 S e with
   | some i,some (f,vs)=>if S.msF i=false/\(apos.endLine == cpos.line)=true then some (sApp i f vs) else none
   | _,_=>none) else if at' = "extend" then (match S.slot x,den 60 S e with
   | some i,some (f,vs)=>if S.msF i=false/\(apos.endLine == cpos.line)=true then some (sExt i f vs) else none
   | _,_=>none) else none
def qp9 (_:Sx) (_:Expr) (_:Str) (_:Pos) (_:Expr) (_:Pos):Option Fs:=none
def denX (S:Sx):Expr->Option Fs
 | .Call fn es [] p1=>(match fn with
  | .Attribute o at' apos=>(match nmE o,es with
   | some x,[e]=>qpc S x at' apos e p1
   | none,[e]=>qp9 S o at' apos e p1
   | _,_=>none)
  | .Name x p=>(match den 60 S (.Call (.Name x p) es [] p1) with
   | some (f,_)=>some (zxb f)
   | none=>none)
  | _=>none)
 | _=>none
section
variable {X:Cx}{M:Fm}{a b:Expr}{es:List Expr}{fa:Fa}{f g:Fx}{vs vs':List Nat}{pos:Pos}
end
def denO (S:Sx) (e:Expr):Option D2:=den 60 S e
def qji (S:Sx) (t k e:Expr):Option Fs:=match t with
 | .Name x _=>(match ixC k with
  | some k=>(match S.slot x,den 60 S e with
    | some i,some (f,vs)=>some (sPut i k f)
    | _,_=>none)
  | none=>none)
 | .Subscript b i _=>(match nmE b with
  | some x=>(match S.slot x,den 60 S i,den 60 S k,denO S e with
    | some s,some (fi,_),some (fj,_),some (f,_)=>if S.msF s=false/\zjd i=true/\zjd k=true then some (zgm s fi fj f) else none
    | _,_,_,_=>none)
  | none=>none)
 | _=>none
def qjl (S:Sx) (t e:Expr):Option Fs:=match t with
 | .Tuple es k p=>(match zbl S es,den 60 S e with
   | some is,some (f,vs)=>if qb6 e=false/\qp2 e=false then some (sUnp (asgT is) f vs) else none
   | _,_=>none)
 | .Name x _=>(match S.slot x,denA S e with
   | some i,some (f,vs)=>if locB S x=true/\zgz S i=true then some (sSet (S.msF i) i f vs) else none
   | _,_=>none)
 | .Subscript t k _=>qji S t k e
 | _=>none
def apE:Stmt->Option (Str×Str×Pos×Expr×Pos)
 | .Expr v _=>(match v with
  | .Call f es ks cpos=>(match f with
   | .Attribute o at' apos=>(match nmE o with
    | some x=>(match es with
     | [e]=>(match ks with
      | []=>some (x,at',apos,e,cpos)
      | _::_=>none)
     | _=>none)
    | none=>none)
   | _=>none)
  | _=>none)
 | _=>none
theorem qpk {st:Stmt}{x at':Str}{apos cpos:Pos}{e:Expr} (h:apE st=some (x,at',apos,e,cpos)):∃ px spos,st=.Expr (.Call (.Attribute (.Name x px) at' apos) [e] [] cpos) spos:=by
 unfold apE at h
 split at h
 ·split at h
  ·split at h
   ·split at h
    ·rename_i hx
     obtain ⟨px,rfl⟩:=zvu hx
     split at h
     ·split at h
      ·cases h;exact ⟨_,_,rfl⟩
      ·cases h
     ·cases h
    ·cases h
   ·cases h
  ·cases h
 ·cases h
def sbE:Expr->Option (Expr×Expr)
 | .Subscript a b _=>some (a,b)
 | _=>none
theorem qec {e a b:Expr} (h:sbE e=some (a,b)):∃ p,e=.Subscript a b p:=by
 unfold sbE at h
 split at h
 ·cases h;exact ⟨_,rfl⟩
 ·cases h
def ppE:Stmt->Option (Str×Expr×Expr×Expr×Expr)
 | .Assign ts ev _=>(match ts with
  | [t]=>(match sbE t with
   | some (t1,ej)=>(match sbE t1 with
    | some (t2,ei)=>(match sbE t2 with
     | some (t3,n)=>(nmE t3).map λ y=>(y,n,ei,ej,ev)
     | none=>none)
    | none=>none)
   | none=>none)
  | _=>none)
 | _=>none
theorem qny {st:Stmt}{y:Str}{n ei ej ev:Expr} (h:ppE st=some (y,n,ei,ej,ev)):∃ py p1 p2 p3 p4,st=.Assign [.Subscript (.Subscript (.Subscript (.Name y py) n p1) ei p2) ej p3] ev p4:=by
 unfold ppE at h
 split at h
 ·split at h
  ·split at h
   ·rename_i h1
    obtain ⟨_,rfl⟩:=qec h1
    split at h
    ·rename_i h2
     obtain ⟨_,rfl⟩:=qec h2
     split at h
     ·rename_i h3
      obtain ⟨_,rfl⟩:=qec h3
      obtain ⟨z,hz,e2⟩:=jb9.mp h
      cases e2
      obtain ⟨_,rfl⟩:=zvu hz
      exact ⟨_,_,_,_,_,rfl⟩
     ·cases h
    ·cases h
   ·cases h
  ·cases h
 ·cases h
def qgr (S:Sx) (sts:List Stmt):Option Fs:=match sts with
 | [s1,s2]=>(match apE s1 with
  | some (x,at',apos,e,cpos)=>(match ppE s2 with
   | some (y,n,ei,ej,ev)=>(match S.slot x,den 60 S e,den 60 S ev,den 60 S ei,den 60 S ej with
    | some i,some (f,_),some (fv,_),some (fi,_),some (fj,_)=>if at' = "append" /\ x=y/\qfk n=true/\zjd ei=true/\zjd ej=true/\S.msF i=false/\(apos.endLine == cpos.line)=true then some (zyx i f fv fi fj) else none
    | _,_,_,_,_=>none)
   | none=>none)
  | none=>none)
 | _=>none
def zfw (d:Stmt->Option Fs) (S:Sx) (body:List Stmt):Option Fs:=match qgr S body with
 | some f=>some f
 | none=>zqs d body
def qjk (d:Stmt->Option Fs) (S:Sx) (t it:Expr) (body:List Stmt):Option Fs:=match t with
 | .Name x p=>(match S.slot x,denI (den 60 S) S it,zfw d S body with
    | some i,some iw,some b=>if locB S x=true/\zgz S i=true/\S.msF i=false/\twOk (.Name x p) iw=true then some (qnm iw (asgN i) b) else none
    | _,_,_=>none)
 | .Tuple es k p=>(match zbl S es,denI (den 60 S) S it,zfw d S body with
   | some is,some iw,some b=>some (qnm iw (asgT is) b)
   | _,_,_=>none)
 | _=>none
def qjh (S:Sx) (e:Expr):Option Fs:=match nmE e with
 | some x=>(match S.slot x with
   | some i=>if S.msF i=true then none else some (zkp i)
   | none=>none)
 | none=>(match den 60 S e with
   | some (f,vs)=>some (sRet f)
   | none=>none)
def qpd (_:Sx) (_:Expr) (_:Operator) (_:Expr):Option Fs:=none
def Sx.bare (S:Sx):Sx:={ S with ms:=[] }
def denT (S:Sx) (c:Expr):Option D2:=(den 60 S c).or (den 60 S.bare c)
def zyq (d:Stmt->Option Fs) (S:Sx):Stmt->Option Fs
 | .Raise e c _=>(match rzOf e c with
  | some x=>(match zmz S x with
   | some c=>some (sExc c)
   | none=>some sNo)
  | none=>some sNo)
 | .Try body hs o fi _=>(match tryE hs o fi with
  | some (y,some n,x,e)=>(match nmE e,S.slot x,S.slot n,XN.findIdx? (·== y),qfw 10 S.nr body with
   | some n',some i,some j,some d,some b=>if n'=n/\i≠j/\locB S x=true/\zwo S.sc n .local=true/\zgz S i=true/\zgz S j=true/\S.msF i=false/\S.xc.contains d=true/\S.glob y=true then some (sTry d i j S.ms b) else none
   | _,_,_,_,_=>none)
  | some (_,none,_,_)=>none
  | none=>none)
 | .Expr v _=>denX S v
 | .Assign [t] e _=>qjl S t e
 | .If c a b _=>match denT S c,zqs d a,zqs d b with
  | some (f,_),some s,some t=>some (sIf (bT f) s t)
  | _,_,_=>none
 | .For t it body [] _=>qjk d S t it body
 | .AugAssign t op e _=>qpd S t op e
 | .Return (some e) _=>qjh S e
 | _=>none
def qfx:Nat->Sx->Stmt->Option Fs
 | 0,_,_=>none
 | n + 1,S,st=>some ((zyq (qfx n S) S st).getD sNo)
section
variable {X:Cx}{P:va8}{w:vb6}{K:Frag}{mg:Str->Option va0}{base:Heap}{lvl:Nat}{S:Sx}{Wx:St->Nat->Hp->Prop}{M:Fm}{f g:Fx}{vs vs':List Nat}{σ:St}{H:Hp}{Q:VK}
structure SM (X:Cx) (M:Fm) (K:Frag) (S:Sx) (Wx:St->Nat->Hp->Prop):Prop where
 ms:MS M K S Wx
 al:∀ i,M.al i=[]
 io:M.io≠none->S.msF 0=true
 pn:∀ p∈M.pn,p.1∈S.pn
 fn:∀ x,X.fn x=true
 nd:S.N.Nodup
 st:X.stack=X.env::X.outer
 fr:X.env.frame=some X.env.locals
def qa6 (P:va8) (w:vb6) (K:Frag) (mg:Str->Option va0) (base:Heap) (lvl:Nat) (S:Sx) (st:Stmt) (f:Fs):Prop:=∀ {Wx} X M,XS X P w K mg base lvl S Wx->SM X M K S Wx->PS X st (tS M f)
theorem zkc {d:Stmt->Option Fs} (hd:∀ st f,d st=some f->qa6 P w K mg base lvl S st f):∀ (sts:List Stmt) (f:Fs),zqs d sts=some f->∀ {Wx} X M,XS X P w K mg base lvl S Wx->SM X M K S Wx->PSs X sts (tS M f)
 | [],f,h=>by cases h;exact λ X M xs sm=>qap qkp λ D σ H q=>qms q
 | [s],f,h=>λ X M xs sm=>zyz (hd s f h X M xs sm)
 | s::s'::r,f,h=>by
  unfold zqs at h
  split at h
  ·rename_i f1 f2 h1 h2
   cases h
   exact λ X M xs sm=>qap (qbr (hd s f1 h1 X M xs sm) (zkc hd (s'::r) f2 h2 X M xs sm)) λ D σ H q=>qmp q
  ·cases h
theorem zkj {x:Str}{i:Nat} (h:S.slot x=some i):S.N[i]?=some x:=by
 unfold Sx.slot at h
 split at h
 ·exact zbf h
 ·cases h
theorem zhf {x:Str} (h:locB S x=true):Loc S.sc x:=by
 unfold locB at h
 rw [jf2] at h
 exact h.elim (λ h=>.inl (zxv h)) λ h=>.inr (zxv h)
theorem zvk {i:Nat} (h:zgz S i=true) (sm:SM X M K S Wx):M.Fre i:=by
 unfold zgz at h
 rw [ja4,jf2] at h
 refine ⟨λ hio=>?_,λ p hp e=>?_⟩
 ·rcases h.1 with h | h
  ·simpa using h
  ·rw [sm.io hio] at h;cases h
 ·have z:=sm.pn p hp
  rw [e] at z
  have h2:=h.2
  rw [List.contains_iff_mem.mpr z] at h2
  cases h2
theorem qd3 {e:Expr}{t:Option Expr}{l:Nat}{env:Env} (h:qb6 e=false):swapsWith e t l env=pure false:=by
 cases e with
 | ListComp _ _ _ _=>cases h
 | SetComp _ _ _ _=>cases h
 | DictComp _ _ _ _ _=>cases h
 | _=>rfl
theorem qh9 (GX:GX K mg S.xc) (G:GS P w K mg base lvl S.Γ) (Gm:GSm P w K mg base lvl S.Γm) (hS:∀ i,∀ j∈S.alF i,S.msF j=false) {n:Nat}{elt:Expr}{gs:List Comprehension}{scope:vd0}{pos:Pos} (h:den (n + 1) S (.ListComp elt gs scope pos)=some (f,vs)):
  ∃ tg ys asg it ifs iw t g vE,gs=[⟨tg,it,ifs,0⟩]/\CompParts P w K mg base lvl S scope tg ys asg it elt ifs iw t g vE/\f=qgn iw ys.length asg t g/\vs=iw.vs++vE.filter (λ i=>decide (i < S.N.length)):=by
 have hd:∀ e f vs,den n S e=some (f,vs)->Good P w K mg base lvl S e f vs:=λ e f vs h=>zmj GX G Gm n S e f vs rfl rfl rfl hS h
 replace h:zvp (den n) S (.ListComp elt gs scope pos)=some (f,vs):=h
 match gs,h with
 | [],h=>simp [zvp] at h
 | _::_::_,h=>simp [zvp] at h
 | [⟨tg,it,ifs,a⟩],h=>
  by_cases ha:a=0
  ·subst ha
   replace h:(match tgA S.N.length tg,denI (den n S) S it with
    | some (xs,asg),some iw=>if zfy S scope xs iw.vs=true/\twOk tg iw=true then (match qcd (den n (zxe S scope xs iw.vs)) ifs,den n (zxe S scope xs iw.vs) elt with
     | some t,some (g,vE)=>some (qgn iw xs.length asg t g,iw.vs++vE.filter (λ i=>decide (i < S.N.length)))
     | _,_=>none) else none
    | _,_=>none)=some (f,vs):=h
   split at h
   ·rename_i ys asg iw ht hi
    split at h
    ·rename_i hc
     split at h
     ·rename_i t g vE h1 h2
      cases h
      have ck:=qjn hc.1
      have giw:=zfv hd (zfu n S) G.1 hi
      have hS2:∀ i,∀ j∈(zxe S scope ys iw.vs).alF i,(zxe S scope ys iw.vs).msF j=false:=λ i j hj=>by
       rw [zgd] at hj
       show S.msF j=false
       split at hj
       ·exact hS i j hj
       ·split at hj
        ·exact giw.1 j hj
        ·cases hj
      have hd2:∀ e f vs,den n (zxe S scope ys iw.vs) e=some (f,vs)->Good P w K mg base lvl (zxe S scope ys iw.vs) e f vs:=λ e f vs h=>zmj GX G Gm n _ e f vs rfl rfl rfl hS2 h
      exact ⟨tg,ys,asg,it,ifs,iw,t,g,vE,rfl,⟨ht,hc.2,ck,giw,hd2 _ _ _ h2,zhq hd2 h1⟩,rfl,rfl⟩
     ·cases h
    ·cases h
   ·cases h
  ·simp [zvp,ha] at h
theorem zzu (xs:XS X P w K mg base lvl S Wx):vj4 (vb2 X.prog X.w) X.A X.env X.xe:=xs.po
theorem zbk {es:List Expr}{is:List Nat} (h:zbl S es=some is) (xs:XS X P w K mg base lvl S Wx) (sm:SM X M K S Wx):PGs X es (zmf is)/\(vc5 es X.env).length=is.length/\(vc5 es X.env).findIdx? (·.1)=none/\∀ i∈is,Bd M [] i:=by
 induction es generalizing is with
 | nil=>cases h;exact ⟨qet,rfl,rfl,λ _ z=>nomatch z⟩
 | cons e es ih=>
  unfold zbl at h
  split at h
  ·cases ‹_::_=[]›
  ·rename_i x px r heq
   cases heq
   split at h
   ·rename_i i js hi hr
    split at h
    ·rename_i hc
     cases h
     obtain ⟨h1,h2,h3,h4⟩:=ih hr
     have hN:X.N.Nodup:=by rw [xs.N];exact sm.nd
     have hi':X.N[i]?=some x:=by rw [xs.N];exact zkj hi
     have hx:Loc X.env.scope x:=by rw [xs.sc];exact zhf hc.1
     refine ⟨qbu (zfc hN hi' hx (.inl (sm.fn x))) h1 rfl,by rw [vc5,jb4,h2,jb4] <;> (intros;contradiction),?_,λ j hj=>?_⟩
     ·rw [vc5,jl7,h3] <;> first | rfl | (intros;contradiction)
     ·rcases jb2.mp hj with z | z
      ·rw [z];exact ⟨by rw [sm.ms.ms];exact hc.2.2,zvk hc.2.1 sm,sm.al i,sm.ms.als⟩
      ·exact h4 j z
    ·cases h
   ·cases h
  ·cases h
theorem zyc {x:Str}:∀ {l:List Str}{c:Nat},l.findIdx? (·== x)=some c->l[c]?=some x
 | [],c,h=>by simp at h
 | y::r,c,h=>by
  rw [jl7] at h
  split at h
  ·rename_i e
   cases h
   rw [List.getElem?_cons_zero,eq_of_beq e]
  ·cases e:r.findIdx? (·== x) with
   | none=>rw [e] at h;cases h
   | some k=>
    rw [e] at h
    cases h
    rw [jg9]
    exact zyc e
theorem qcz {x:Str}{c:Nat} (h:zmz S x=some c):S.rz=true/\c∈S.xc/\S.glob x=true/\XN[c]?=some x:=by
 unfold zmz at h
 split at h
 ·rename_i c' e
  split at h
  ·rename_i hc
   cases h
   exact ⟨hc.1,by simpa using hc.2.1,hc.2.2,zyc e⟩
  ·cases h
 ·cases h
theorem qhb {x m:Str}{c:Nat}{np cpos pos p:Pos}{j:Nat}{t:TS} (GX:GX K mg S.xc) (h:zmz S x=some c) (xs:XS X P w K mg base lvl S Wx) (hW:M.W=Wx) (hq:∀ D σ H,t D σ H->M.W σ c H):PS X (.Raise (some (.Call (.Name x np) [.Constant (.str m) j p] [] cpos)) none pos) t:=by
 obtain ⟨h1,h2,h3,h4⟩:=qcz h
 obtain ⟨ht,_,hc⟩:=GX (λ z=>by rw [z] at h2;cases h2)
 obtain ⟨x',C,e1,e2,e3,e4⟩:=hc c h2
 rw [h4] at e1
 cases e1
 refine zxr (qhg (W:=Wx) (xs.rs h1) (by rw [xs.K];exact ht) xs.calm (by rw [xs.K];exact e2) (xs.gl h3) (by rw [xs.mg];exact e3) e4) λ D σ H q=>?_
 rw [<- hW]
 exact hq D σ H q
theorem qia (GX:GX K mg S.xc) (G:GS P w K mg base lvl S.Γ) (Gm:GSm P w K mg base lvl S.Γm) (hS:∀ i,∀ j∈S.alF i,S.msF j=false):∀ (n:Nat) (sts:List Stmt) (f:Fs),qfw n S sts=some f->∀ {Wx} X M,XS X P w K mg base lvl S Wx->SM X M K S Wx->PSs X sts (tR M f):=by
 have hd:∀ e f vs,den 60 S e=some (f,vs)->Good P w K mg base lvl S e f vs:=λ e f vs h=>zmj GX G Gm 60 S e f vs rfl rfl rfl hS h
 intro n
 induction n with
 | zero=>intro sts f h;cases h
 | succ n ih=>
  intro sts f h
  unfold qfw at h
  split at h
  ·rename_i st
   split at h
   ·split at h
    ·rename_i v pos hv
     obtain ⟨x,p,es,p1,rfl⟩:=qlj hv
     split at h
     ·rename_i f1 v1 he
      cases h
      intro Wx X M xs sm
      exact zyz (zxr (zbt ((hd _ _ _ he).2.2 X M xs sm.ms).1 rfl) λ D σ H q=>qj0 q)
     ·cases h
    ·cases h
   ·split at h
    ·rename_i f1 v1 s t hc ha hb
     cases h
     intro Wx X M xs sm
     exact zyz (zxr (qnx ((hd _ _ _ hc).2.2 X M xs sm.ms).2 (ih _ _ ha X M xs sm) (ih _ _ hb X M xs sm)) λ D σ H q=>qpp q)
    ·cases h
   ·split at h
    ·rename_i x e has
     obtain ⟨px,pos,rfl⟩:=qjo has
     split at h
     ·rename_i i f1 v1 hi he
      split at h
      ·rename_i hc
       cases h
       have g:=hd _ _ _ he
       intro Wx X M xs sm
       have hN:X.N.Nodup:=by rw [xs.N];exact sm.nd
       have hi':X.N[i]?=some x:=by rw [xs.N];exact zkj hi
       have hx:Loc X.env.scope x:=by rw [xs.sc];exact zhf hc.1
       have mi:M.Ms i=S.msF i:=by rw [sm.ms.ms]
       exact zyz (zxr (qbs hN hi' hx (g.2.2 X M xs sm.ms).1 (qd3 hc.2.2) (.inl (sm.fn x))) λ D σ H q=>qmw sm.al (sm.ms.v g.1) mi (zvk hc.2.1 sm) q)
      ·cases h
     ·cases h
    ·cases h
  ·cases h
def Fm.bare (M:Fm):Fm:={ M with Ms:=λ _=>false,H₀:=λ _=>none,io:=none,pn:=[] }
theorem Rep.bare {ρ:Rho}{fps:Fps} (r:Rep M ρ σ H fps):Rep M.bare ρ σ H fps where
 own:=r.own
 non:=r.non
 dj:=r.dj
 zo:=r.zo
 fr:=λ _ _ _ _=>rfl
 zd:=r.zd
 len:=r.len
 msf:=λ _ _ _ h=>nomatch h
 h0:=λ _ h=>absurd rfl h
 iov:=And.intro (λ _ h=>nomatch h) (λ _ h=>nomatch h)
theorem qjv {fb:Fb}{Q:Bool->Hp->Prop} (hq:tT M fb σ H Q):tT M.bare fb σ H Q:=by
 obtain ⟨ρ,fps,rep,q⟩:=hq
 refine ⟨ρ,fps,rep.bare,?_⟩
 have gr:∀ H' fps',KD M.bare H fps H' fps'->∀ a o,H a=some o->H' a=some o:=λ H' fps' k a o h=>k.keep a o h λ ⟨_,z,_⟩=>nomatch z
 cases e:fb ρ with
 | ok p=>
  obtain ⟨b,ρ'⟩:=p
  rw [e] at q
  intro H' fps' k ag _
  have e1:ρ'=ρ:=List.ext_getElem? λ i=>ag.1 i rfl
  subst e1
  exact q H' fps (KD.grow (gr H' fps' k)) Agr.refl (rep.grow (gr H' fps' k))
 | exc c=>
  rw [e] at q
  intro H' fps' k
  exact q H' fps (KD.grow (gr H' fps' k))
 | no=>rw [e] at q;exact q
theorem qlx (GX:GX K mg S.xc) (G:GS P w K mg base lvl S.Γ) (Gm:GSm P w K mg base lvl S.Γm) (hS:∀ i,∀ j∈S.alF i,S.msF j=false) {c:Expr}{f:Fx}{vs:List Nat} (h:denT S c=some (f,vs)) (xs:XS X P w K mg base lvl S Wx) (m:MS M K S Wx):PT X c (tT M (bT f)):=by
 unfold denT at h
 cases e:den 60 S c with
 | some p=>
  rw [e] at h
  cases h
  exact ((zmj GX G Gm 60 S c f vs rfl rfl rfl hS e).2.2 X M xs m).2
 | none=>
  rw [e] at h
  have h2:den 60 S.bare c=some (f,vs):=h
  have gd:=(zmj (S:=S) GX G Gm 60 S.bare c f vs rfl rfl rfl (λ _ _ _=>rfl) h2).2.2 X M.bare ⟨xs.prog,xs.w,xs.K,xs.mg,xs.base,xs.N,xs.sc,xs.calm,xs.room,xs.po,xs.ps,xs.rs⟩ ⟨m.K,rfl,m.al,λ _ _ _=>rfl,m.W,λ _ h=>nomatch h⟩
  exact zgp gd.2 λ σ H Q q=>qjv q
theorem qgq {body:List Stmt}{f:Fs} (hd:∀ e f vs,den 60 S e=some (f,vs)->Good P w K mg base lvl S e f vs) (h:qgr S body=some f):∀ {Wx} X M,XS X P w K mg base lvl S Wx->SM X M K S Wx->PSs X body (tS M f):=by
 unfold qgr at h
 split at h
 ·rename_i s1 s2
  split at h
  ·rename_i x at' apos e cpos h1
   obtain ⟨px,spos,rfl⟩:=qpk h1
   split at h
   ·rename_i y n ei ej ev h2
    obtain ⟨py,p1,p2,p3,p4,rfl⟩:=qny h2
    split at h
    ·rename_i i f1 v1 f2 v2 f3 v3 f4 v4 hi he hv hei hej
     split at h
     ·rename_i hc
      obtain ⟨rfl,rfl,hn,hc1,hc2,hms,hln⟩:=hc
      cases h
      obtain ⟨k,q3,q4,rfl⟩:=qfj hn
      intro Wx X M xs sm
      have g:=hd _ _ _ he
      have gM:∀ {e f vs},den 60 S e=some (f,vs)->PE X e (λ σ H Q=>∃ M',MS M' K S Wx/\tE M' f vs σ H Q):=λ h pins s σ H Q I ⟨M',m',q⟩=>((hd _ _ _ h).2.2 X M' xs m').1 pins s σ H Q I q
      have hb:=qky (X:=X) (cpos:=cpos) vf9 PySem.F.slot_list_append PySem.F.type_list_append zbx (xs.var (pos:=px) hi) (zwj (g.2.2 X M xs sm.ms).1 zyl (zqz (zqq g.2.1))) rfl (zjc g.2.1 X.env cpos) hln (zqz (zqq g.2.1)) rfl
      have pn:PE X (.UnaryOp .USub (.Constant (.int 1) k q3) q4) (tC (.int (-1))):=zqv (qn2 qis zgu) λ σ H Q q=>⟨1,rfl,q⟩
      have s2:=qbt (pos:=p4) (gM hv) (qev (pos:=p3) (qew (pos:=p2) zpf (qew (pos:=p1) zpf (xs.var (pos:=py) hi) pn (zva rfl)) (gM hei) (zva hc1)) (gM hej) zmx (by
       intro v
       cases ej <;> first | rfl | (cases hc2))) (by cases ev <;> rfl) (by cases ev <;> rfl) rfl
      refine qap (qbr (zbt hb rfl) (zyz s2)) λ D σ H q=>?_
      have:=qdw (D:=D) (vs:=v1) (vv:=v2) (vi:=v3) (vj:=v4) (P:=λ M'=>MS M' K S Wx) sm.al (by rw [sm.ms.ms];exact hms) (λ F=>⟨sm.ms.K,sm.ms.ms,sm.ms.al,sm.ms.als,sm.ms.W,sm.ms.pn⟩) q
      rw [sm.ms.k xs] at this
      exact this
     ·cases h
    ·cases h
   ·cases h
  ·cases h
 ·cases h
theorem zmk {d:Stmt->Option Fs}{body:List Stmt}{f:Fs} (hd:∀ e f vs,den 60 S e=some (f,vs)->Good P w K mg base lvl S e f vs) (ih:∀ st f,d st=some f->qa6 P w K mg base lvl S st f) (h:zfw d S body=some f):∀ {Wx} X M,XS X P w K mg base lvl S Wx->SM X M K S Wx->PSs X body (tS M f):=by
 unfold zfw at h
 split at h
 ·rename_i f' hf
  cases h
  exact qgq hd hf
 ·exact zkc ih _ _ h
theorem qlz {e:Expr}{f:Fx}{vs:List Nat} (hd:∀ e f vs,den 60 S e=some (f,vs)->Good P w K mg base lvl S e f vs) (h:denO S e=some (f,vs)):Good P w K mg base lvl S e f vs:=hd _ _ _ h
theorem qa1 (GX:GX K mg S.xc) (G:GS P w K mg base lvl S.Γ) (Gm:GSm P w K mg base lvl S.Γm) (hS:∀ i,∀ j∈S.alF i,S.msF j=false) {d:Stmt->Option Fs} (ih:∀ (st:Stmt) (f:Fs),d st=some f->qa6 P w K mg base lvl S st f):∀ (st:Stmt) (f:Fs),zyq d S st=some f->qa6 P w K mg base lvl S st f:=by
 have hd:∀ e f vs,den 60 S e=some (f,vs)->Good P w K mg base lvl S e f vs:=λ e f vs h=>zmj GX G Gm 60 S e f vs rfl rfl rfl hS h
 have hdO:∀ e f vs,denO S e=some (f,vs)->Good P w K mg base lvl S e f vs:=λ e f vs h=>qlz hd h
 have hdA:∀ e f vs,denA S e=some (f,vs)->Good P w K mg base lvl S e f vs:=λ e f vs h=>by
  unfold denA at h
  split at h
  ·cases h
   exact zxd (λ _ z=>nomatch z) rfl (λ _ _=>rfl) λ X M xs m=>qnf
  ·exact hd _ _ _ h
 intro st f h
 have core:True->qa6 P w K mg base lvl S st f:=λ _=>by
  unfold zyq at h
  split at h
  ·rename_i e0 c0 pos
   split at h
   ·rename_i x hx
    obtain ⟨np,m,j,p,cpos,rfl,rfl⟩:=qkh hx
    split at h
    ·rename_i c hc
     cases h
     intro Wx X M xs sm
     exact qhb GX hc xs sm.ms.W λ D σ H q=>qmu q
    ·cases h
     intro Wx X M xs sm pins s σ H D I q
     exact (zfa pins s σ H D I (qjz (t:=qbe) q))
   ·cases h
    intro Wx X M xs sm pins s σ H D I q
    exact (zfa pins s σ H D I (qjz (t:=qbe) q))
  ·rename_i body hs o fi pos
   split at h
   ·rename_i y n x e0 htr
    obtain ⟨np,px,pa,hpos,rfl,rfl,rfl⟩:=qjt htr
    split at h
    ·rename_i n' i j d b hnm hi hj hd' hbd
     obtain ⟨pn,rfl⟩:=zvu hnm
     split at h
     ·rename_i hc
      obtain ⟨rfl,hij,hlx,hln,hoi,hoj,hms,hxc,hgy⟩:=hc
      cases h
      intro Wx X M xs sm
      have hdm:d∈S.xc:=by simpa using hxc
      obtain ⟨ht,_,hcs⟩:=GX (λ z=>by rw [z] at hdm;cases hdm)
      obtain ⟨y',C,hx',hC,hmg,hdb⟩:=hcs d hdm
      have ey:y'=y:=by
       have:=zyc hd'
       rw [hx'] at this
       exact Option.some.inj this
      subst ey
      have nms:∀ i,M.Ms i=S.ms.contains i:=λ i=>by rw [sm.ms.ms];rfl
      have hN:X.N.Nodup:=by rw [xs.N];exact sm.nd
      have slots:∀ {z:Str}{k:Nat},S.slot z=some k->(z == ("__debug__" : Str))=false/\(z == ("__classdict__" : Str))=false:=λ {z k} h=>by
       unfold Sx.slot at h
       split at h
       ·rename_i hv
        simp only [ja4,jj8] at hv
        exact ⟨hv.1.2,hv.2⟩
       ·cases h
      have base:=qhf (X:=X) (tb:=λ W'=>tR (M.want W') b) (body:=body) (y:=y') (n:=n') (x:=x) (np:=np) (hpos:=hpos) (px:=px) (pn:=pn) (pa:=pa) (pos:=pos) (d:=d) (Dd:=C) (i:=i) (j:=j)
       (by rw [xs.K];exact ht) sm.st sm.fr hN (by rw [xs.N];exact zkj hi) (by rw [xs.N];exact zkj hj) hij (by rw [xs.sc];exact zhf hlx) (by show X.env.scope.names.lookup n'=_;rw [xs.sc];exact zxv hln) sm.fn (by rw [xs.K];exact hC) (xs.gl hgy) (by rw [xs.mg];exact hmg) hdb (slots hj).1 (slots hj).2 (λ pn' xe' W' hp ho=>?_)
      ·refine zxr base λ D σ H q=>?_
       have mk:=sm.ms.k xs
       rw [<- mk]
       exact qmo sm.al nms (by rw [sm.ms.ms];exact hms) hij (zvk hoi sm) (zvk hoj sm) q
      ·refine qia (S:=S.nr) GX G Gm hS 10 body b hbd _ _ (Wx:=W') ⟨xs.prog,xs.w,xs.K,xs.mg,xs.base,xs.N,xs.sc,xs.calm,xs.room,ho,hp,λ z=>nomatch z⟩ ⟨⟨sm.ms.K,sm.ms.ms,sm.ms.al,sm.ms.als,rfl,sm.ms.pn⟩,sm.al,sm.io,sm.pn,sm.fn,sm.nd,sm.st,sm.fr⟩
     ·cases h
    ·cases h
   ·cases h
   ·cases h
  ·rename_i v pos
   unfold denX at h
   split at h
   ·rename_i fn es cpos
    split at h
    ·rename_i o at' apos
     split at h
     ·rename_i x e hx
      obtain ⟨px,rfl⟩:=zvu hx
      unfold qpc at h
      split at h
      ·rename_i hat
       subst hat
       split at h
       ·rename_i i f1 v1 hi he
        split at h
        ·rename_i hc
         cases h
         have g:=hd _ _ _ he
         intro Wx X M xs sm
         have hb:=qky (X:=X) (cpos:=cpos) vf9 PySem.F.slot_list_append PySem.F.type_list_append zbx (xs.var (pos:=px) hi) (zwj (g.2.2 X M xs sm.ms).1 zyl (zqz (zqq g.2.1))) rfl (zjc g.2.1 X.env cpos) hc.2 (zqz (zqq g.2.1)) rfl
         refine zxr (zbt hb rfl) λ D σ H q=>?_
         have:=qmv (D:=D) sm.al (sm.ms.v g.1) (by rw [sm.ms.ms];exact hc.1) q
         rw [sm.ms.k xs] at this
         exact this
        ·cases h
       ·cases h
      ·split at h
       ·rename_i hat
        subst hat
        split at h
        ·rename_i i f1 v1 hi he
         split at h
         ·rename_i hc
          cases h
          have g:=hd _ _ _ he
          intro Wx X M xs sm
          have hb:=qky (X:=X) (cpos:=cpos) vf9 PySem.F.slot_list_extend PySem.F.type_list_extend qe6 (xs.var (pos:=px) hi) (zwj (g.2.2 X M xs sm.ms).1 zyl (zqz (zqq g.2.1))) rfl (zjc g.2.1 X.env cpos) hc.2 (zqz (zqq g.2.1)) rfl
          refine zxr (zbt hb rfl) λ D σ H q=>?_
          have:=qmt (D:=D) sm.al (sm.ms.v g.1) (by rw [sm.ms.ms];exact hc.1) q
          rw [sm.ms.k xs] at this
          exact this
         ·cases h
        ·cases h
       ·cases h
     ·rename_i e hx
      cases h
     ·cases h
    ·rename_i x p
     split at h
     ·rename_i f1 v1 he
      cases h
      intro Wx X M xs sm
      exact zxr (zbt ((hd _ _ _ he).2.2 X M xs sm.ms).1 rfl) λ D σ H q=>qdv q
     ·cases h
    ·cases h
   ·cases h
  ·rename_i t e pos
   unfold qjl at h
   split at h
   ·rename_i es k p
    split at h
    ·rename_i is f1 v1 hs he
     split at h
     ·rename_i hc
      cases h
      have g:=hd _ _ _ he
      intro Wx X M xs sm
      obtain ⟨h1,h2,h3,h4⟩:=zbk hs xs sm
      have mk:M.K=X.K:=sm.ms.k xs
      refine zxr (qbt (g.2.2 X M xs sm.ms).1 (qeu xs.calm h1 h2 h3) ?_ ?_ ?_) λ D σ H q=>?_
      ·cases e <;> first | rfl | (cases hc.1)
      ·cases e <;> first | rfl | (cases hc.2)
      ·rfl
      ·have:=qmn sm.al (sm.ms.v g.1) (qlq h4) q
       rw [mk] at this
       exact this
     ·cases h
    ·cases h
   ·rename_i x px
    split at h
    ·rename_i i f1 v1 hi he
     split at h
     ·rename_i hc
      cases h
      have g:=hdA _ _ _ he
      intro Wx X M xs sm
      have hN:X.N.Nodup:=by rw [xs.N];exact sm.nd
      have hi':X.N[i]?=some x:=by rw [xs.N];exact zkj hi
      have hx:Loc X.env.scope x:=by rw [xs.sc];exact zhf hc.1
      have mi:M.Ms i=S.msF i:=by rw [sm.ms.ms]
      cases hcp:qb6 e with
      | false=>exact zxr (qbs hN hi' hx (g.2.2 X M xs sm.ms).1 (qd3 hcp) (.inl (sm.fn x))) λ D σ H q=>qdq sm.al (sm.ms.v g.1) mi (zvk hc.2 sm) q
      | true=>
       cases e with
       | ListComp elt gs scope cpos=>
        obtain ⟨tg,ys,asg,it,ifs,iw,t,g2,vE,rfl,cp,rfl,rfl⟩:=qh9 GX G Gm hS (show den 60 S _=_ from he)
        obtain ⟨wi,gg,h1,h2,h3,h4,h5,h6⟩:=zmn (pos:=cpos) cp xs sm.ms
        refine qnw (qc0 hN hi' hx (.inl (sm.fn x)) h2 xs.calm h1 h3 h4 h5 (zft (n:=0) (f:=g2) (vs:=[]) cp.iwo.2.1)) λ D σ H hl q=>?_
        exact h6 σ H _ (by rw [hl,xs.N]) (qdq sm.al (sm.ms.v g.1) mi (zvk hc.2 sm) q)
       | SetComp _ _ _ _=>simp [denA,den,zvp] at he
       | DictComp _ _ _ _ _=>simp [denA,den,zvp] at he
       | _=>cases hcp
     ·cases h
    ·cases h
   ·rename_i t k ps
    unfold qji at h
    split at h
    ·rename_i x px
     split at h
     ·rename_i k hk
      obtain ⟨k',pk,rfl⟩:=qja hk
      split at h
      ·rename_i i f1 v1 hi he
       cases h
       have g:=hd _ _ _ he
       intro Wx X M xs sm
       refine zxr (qbt (g.2.2 X M xs sm.ms).1 (qev (xs.var hi) zgu zmx) ?_ ?_ rfl) λ D σ H q=>qmr sm.al (sm.ms.v g.1) q
       ·cases e <;> rfl
       ·cases e <;> rfl
      ·cases h
     ·cases h
    ·rename_i b i pi
     split at h
     ·rename_i x hx
      obtain ⟨px,rfl⟩:=zvu hx
      split at h
      ·rename_i s fi vi fj vj f1 v1 hs hi hj he
       split at h
       ·rename_i hc
        cases h
        intro Wx X M xs sm
        have mk:M.K=X.K:=sm.ms.k xs
        refine zxr (qbt ((hdO _ _ _ he).2.2 X M xs sm.ms).1 (qev (qew zpf (xs.var hs) ((hd _ _ _ hi).2.2 X M xs sm.ms).1 (zva hc.2.1)) ((hd _ _ _ hj).2.2 X M xs sm.ms).1 zmx ?_) ?_ ?_ rfl) λ D σ H q=>?_
        ·intro v
         cases k <;> first | rfl | (cases hc.2.2)
        ·cases e <;> rfl
        ·cases e <;> rfl
        ·have:=qjy (vs:=v1) (vi:=vi) (vj:=vj) sm.al (by rw [sm.ms.ms];exact hc.1) q
         rw [mk] at this
         exact this
       ·cases h
      ·cases h
     ·cases h
    ·cases h
   ·cases h
  ·split at h
   ·rename_i f1 v1 s t hc ha hb
    cases h
    intro Wx X M xs sm
    exact zxr (qnx (qlx GX G Gm hS hc xs sm.ms) (zkc ih _ _ ha X M xs sm) (zkc ih _ _ hb X M xs sm)) λ D σ H q=>qpo q
   ·cases h
  ·rename_i t it body pos
   unfold qjk at h
   split at h
   ·rename_i x px
    split at h
    ·rename_i i iw b hi hw hb
     split at h
     ·rename_i hc
      cases h
      intro Wx X M xs sm
      have hN:X.N.Nodup:=by rw [xs.N];exact sm.nd
      have hi':X.N[i]?=some x:=by rw [xs.N];exact zkj hi
      have hx:Loc X.env.scope x:=by rw [xs.sc];exact zhf hc.1
      have giw:=zfv hd (zfu 60 S) G.1 hw
      have hbd:=zmk hd ih hb X M xs sm
      have hg:GOk M [] [i] (zjw i) (asgN i):=qjd ⟨by rw [sm.ms.ms];exact hc.2.2.1,zvk hc.2.1 sm,sm.al i,sm.ms.als⟩
      have hpg:PG X (.Name x px) (zjw i):=zfc hN hi' hx (.inl (sm.fn x))
      have hpi:=giw.2.2 X M xs sm.ms (.Name x px)
      have hf:=zft (n:=0) (env:=X.env) (f:=bVar 0) (vs:=[]) giw.2.1
      cases iw with
      | rng en fa vs=>
       rcases hpi with ⟨rfl,hpi⟩ | ⟨rfl,hpi⟩
       ·exact zxr (zjj (zzu xs) xs.calm hpi hpg hbd hf) λ D σ H q=>qdu hg q
       ·exact zxr (zjj (zzu xs) xs.calm hpi hpg hbd hf) λ D σ H q=>qdt hg q
      | seq f vs=>exact zxr (zjj (zzu xs) xs.calm hpi hpg hbd hf) λ D σ H q=>qds sm.al (sm.ms.v giw.1) hg q
      | vw v fa vs=>exact zxr (zjj (zzu xs) xs.calm (hpi hc.2.2.2) hpg hbd hf) λ D σ H q=>qdr sm.al (sm.ms.v giw.1) hg q
     ·cases h
    ·cases h
   ·rename_i es k p
    split at h
    ·rename_i is iw b hs hw hb
     cases h
     intro Wx X M xs sm
     have giw:=zfv hd (zfu 60 S) G.1 hw
     have hbd:=zmk hd ih hb X M xs sm
     obtain ⟨h1,h2,h3,h4⟩:=zbk hs xs sm
     have mk:M.K=X.K:=sm.ms.k xs
     have hg:=qlq (M:=M) (al:=[]) h4
     have hpg:=qeu (pos:=p) (k:=k) xs.calm h1 h2 h3
     rw [<- mk] at hpg
     have hpi:=giw.2.2 X M xs sm.ms (.Tuple es k p)
     have hf:=zft (n:=0) (env:=X.env) (f:=bVar 0) (vs:=[]) giw.2.1
     cases iw with
     | rng en fa vs=>
      rcases hpi with ⟨rfl,hpi⟩ | ⟨rfl,hpi⟩
      ·exact zxr (zjj (zzu xs) xs.calm hpi hpg hbd hf) λ D σ H q=>qdu hg q
      ·exact zxr (zjj (zzu xs) xs.calm hpi hpg hbd hf) λ D σ H q=>qdt hg q
     | seq f vs=>exact zxr (zjj (zzu xs) xs.calm hpi hpg hbd hf) λ D σ H q=>qds sm.al (sm.ms.v giw.1) hg q
     | vw v fa vs=>exact zxr (zjj (zzu xs) xs.calm (hpi (by cases v <;> rfl)) hpg hbd hf) λ D σ H q=>qdr sm.al (sm.ms.v giw.1) hg q
    ·cases h
   ·cases h
  ·rename_i t op e pos
   cases h
  ·rename_i e pos
   unfold qjh at h
   split at h
   ·rename_i x hx
    obtain ⟨px,rfl⟩:=zvu hx
    split at h
    ·rename_i i hi
     split at h
     ·cases h
     ·rename_i hm
      cases h
      intro Wx X M xs sm
      exact zxr (qi0 (xs.var hi)) λ D σ H q=>qjx sm.al (by rw [sm.ms.ms];simpa using hm) q
    ·cases h
   ·rename_i hx
    split at h
    ·rename_i f1 v1 he
     cases h
     intro Wx X M xs sm
     exact zxr (qi0 ((hd _ _ _ he).2.2 X M xs sm.ms).1) λ D σ H q=>qmq (sm.ms.v (hd _ _ _ he).1) q
    ·cases h
  ·cases h
 exact λ {Wx}=>core trivial
theorem qib (GX:GX K mg S.xc) (G:GS P w K mg base lvl S.Γ) (Gm:GSm P w K mg base lvl S.Γm) (hS:∀ i,∀ j∈S.alF i,S.msF j=false):∀ (n:Nat) (st:Stmt) (f:Fs),qfx n S st=some f->qa6 P w K mg base lvl S st f:=by
 intro n
 induction n with
 | zero=>intro st f h;cases h
 | succ n ih=>
  intro st f h
  replace h:some ((zyq (qfx n S) S st).getD sNo)=some f:=h
  cases e0:zyq (qfx n S) S st with
  | none=>
   rw [e0] at h
   cases h
   intro Wx X M xs sm pins s σ H D I q
   exact (zfa pins s σ H D I (qjz (t:=qbe) q))
  | some f'=>
   rw [e0] at h
   cases h
   exact λ {Wx}=>qa1 GX G Gm hS ih _ _ e0
def denS:Nat->Sx->Stmt->Option Fs:=qfx
theorem qly (GX:GX K mg S.xc) (G:GS P w K mg base lvl S.Γ) (Gm:GSm P w K mg base lvl S.Γm) (hS:∀ i,∀ j∈S.alF i,S.msF j=false):∀ (n:Nat) (st:Stmt) (f:Fs),denS n S st=some f->qa6 P w K mg base lvl S st f:=qib GX G Gm hS
def zza:Bool->List PV->Rho
 | true,x::xr=>some (x,om)::xr.map λ x=>some (x,dv x)
 | _,xs=>xs.map λ x=>some (x,dv x)
def finF (io:Bool) (y:PV) (d:Nat) (ρ:Rho):Rz (PV×Nat×PV):=match io with
 | false=>.ok (y,d,.non)
 | true=>match ρ[0]? with
  | some (some (z,_))=>.ok (y,d,z)
  | _=>.no
def mkFn (io:Bool) (np k:Nat) (b:Fs):Fn:=λ xs=>if xs.length=np then (match b (zza io xs++ja7 k none) with
 | .rt y d ρ=>finF io y d ρ
 | .nx ρ=>finF io .non om ρ
 | .exc c=>.exc c
 | _=>.no) else .no
theorem zzv {io:Bool}{np k:Nat}{b:Fs}:∀ xs,xs.length≠np->mkFn io np k b xs=.no:=λ xs h=>by
 unfold mkFn
 rw [if_neg h]
theorem zpy {io:Bool}{xs:List PV}{i:Nat}{x:PV}{d:Nat} (h:(zza io xs)[i]?=some (some (x,d))):xs[i]?=some x/\(d=dv x\/(io=true/\i=0/\d=om)):=by
 cases io with
 | false=>
  have h':(xs.map λ x=>(some (x,dv x):Slot))[i]?=some (some (x,d)):=h
  rw [jd1] at h'
  cases e:xs[i]? with
  | none=>rw [e] at h';cases h'
  | some y=>rw [e] at h';cases h';exact ⟨rfl,.inl rfl⟩
 | true=>
  cases xs with
  | nil=>simp [zza] at h
  | cons y r=>
   cases i with
   | zero=>
    have h':some (some (y,om):Slot)=some (some (x,d)):=h
    cases h'
    exact ⟨rfl,.inr ⟨rfl,rfl,rfl⟩⟩
   | succ i=>
    have h':(r.map λ x=>(some (x,dv x):Slot))[i]?=some (some (x,d)):=h
    rw [jd1] at h'
    cases e:r[i]? with
    | none=>rw [e] at h';cases h'
    | some y'=>rw [e] at h';cases h';exact ⟨by simpa using e,.inl rfl⟩
theorem qcw (io:Bool) (xs:List PV):(zza io xs).length=xs.length:=by
 cases io <;> cases xs <;> simp [zza]
theorem qlr {x qual:Str}{st:Stmt}{f:Addr}{fd:vc4}{N ps:List Str}{k:Nat}{sp:Sp} (F:Fun K x qual st f fd) (S:FnScope N ps (zqh st)) (len:∀ vs H Q E,sp vs H Q E->vs.length=ps.length)
  (hbody:∀ (cdv:va0) (A:vb8) (outer:List Env) (s:va1) (H:Hp) (vs:List V) (Q:VK) (E:XK),Room k (A.deeper (vi8 qual (zqh st) s.heap.objs.size f cdv))->sp vs H Q E ->
   ∃ t,PSs (cxOf (CXr P w K) P w K mg base N qual (zqh st) f cdv A outer s H E) (zql st) t/\t { nx:=λ _ H'=>Q .non H',rt:=Q } (L2.start N vs) H):FnOk P w K mg base (CXr P w K) (k + 1) f fd ps sp:=by
 obtain ⟨oc,od,kV,doc,pm,an,cdv,ct,osl,rfl,lk,hcd⟩:=F.ex
 exact qp5 lk hcd S len λ A outer s H vs Q E hr hsp=>hbody cdv A outer s H vs Q E hr hsp
theorem qp6 {x qual:Str}{st:Stmt}{fa:Addr}{fd:vc4}{ps:List Str}{np k:Nat}{io:Bool}{b:Fs} (Fu:Fun K x qual st fa fd) (FS:FnScope S.N ps (zqh st)) (hsc:S.sc=zqh st) (hal:S.al=[]) (hnp:ps.length=np) (hk:S.N.length=np + k)
  (hms:∀ i∈S.ms,i < np->i=0/\io=true) (hio:io=true->S.msF 0=true/\0 < np) (GX:GX K mg S.xc) (G:GS P w K mg base lvl S.Γ) (Gm:GSm P w K mg base lvl S.Γm) (hb:zqs (denS 60 S) (zql st)=some b):
  FnOk P w K mg base (CXr P w K) (lvl + 1) fa fd ps (spF K io np (mkFn io np k b)):=by
 have hS:∀ i,∀ j∈S.alF i,S.msF j=false:=λ i j hj=>by
  unfold Sx.alF at hj
  rw [hal] at hj
  simp at hj
 refine qlr Fu FS (λ vs H Q E h=>h.1.trans hnp.symm) λ cdv A outer s H vs Q E hr h=>?_
 obtain ⟨hl,xs,Zo,x0,v0,fp0,hZ,hz0,h1,h2,q⟩:=h
 let M:Fm:={ K:=K,Ms:=S.msF,Zo:=Zo,H₀:=H,W:=WE E H,io:=if io=true then some v0 else none,al:=λ _=>[] }
 have hxs:XS (cxOf (CXr P w K) P w K mg base S.N qual (zqh st) fa cdv A outer s H E) P w K mg base lvl S (WE E H):=⟨rfl,rfl,rfl,rfl,rfl,rfl,hsc.symm,rfl,hr,qkz,qhm,λ _=>qel⟩
 have hsm:SM (cxOf (CXr P w K) P w K mg base S.N qual (zqh st) fa cdv A outer s H E) M K S (WE E H):=by
  refine ⟨⟨rfl,rfl,λ i _=>?_,(λ i j hj=>nomatch hj),rfl,λ _ h=>nomatch h⟩,λ _=>rfl,λ h=>?_,(λ _ h=>nomatch h),λ _=>rfl,FS.nd,rfl,rfl⟩
  ·show []=S.al.getD i []
   rw [hal];rfl
  ·have h':(if io=true then some v0 else none)≠none:=h
   cases io with
   | true=>exact (hio rfl).1
   | false=>exact absurd rfl h'
 refine ⟨tS M b,zkc (qly GX G Gm hS 60) _ _ hb _ M hxs hsm,zza io xs++ja7 k none,λ i=>if i=0 then fp0 else [],?_,?_⟩
 ·have hlen:xs.length=vs.length:=by
   cases io with
   | false=>exact (h1 rfl).2.length.symm
   | true=>obtain ⟨xr,wr,rfl,rfl,_,o⟩:=h2 rfl;rw [jb4,jb4,o.length]
  have each:∀ i y d,(zza io xs)[i]?=some (some (y,d))->∃ v,vs[i]?=some v/\Own K H (λ a=>Zo a\/a∈fp0) y d v (if i=0 then fp0 else []):=λ i y d e=>by
   obtain ⟨e1,e2⟩:=zpy e
   cases io with
   | false=>
    obtain ⟨rfl,o⟩:=h1 rfl
    obtain ⟨v,ev,ov⟩:=o.nth e1
    rcases e2 with rfl | ⟨z,_⟩
    ·refine ⟨v,ev,?_⟩
     rw [ite_self]
     exact ov.dv.weak λ a h=>h.elim id λ z=>nomatch z
    ·cases z
   | true=>
    obtain ⟨xr,wr,rfl,rfl,o0,o⟩:=h2 rfl
    cases i with
    | zero=>
     simp [zza] at e
     obtain ⟨rfl,rfl⟩:=e
     exact ⟨v0,rfl,Own.full _ _ _ o0⟩
    | succ i=>
     obtain ⟨v,ev,ov⟩:=o.nth (j:=i) (by simpa using e1)
     rcases e2 with rfl | ⟨_,z,_⟩
     ·refine ⟨v,by simpa using ev,?_⟩
      rw [if_neg (jk4 i)]
      exact ov.dv
     ·cases z
  have inl:∀ i p,(zza io xs++ja7 k none)[i]?=some (some p)->(zza io xs)[i]?=some (some p):=λ i p e=>by
   by_cases hi:i < (zza io xs).length
   ·rw [jc2 hi] at e;exact e
   ·rw [jc9 (by omega),je8] at e
    split at e <;> cases e
  have domF:∀ a∈fp0,H a≠none:=λ a ha=>by
   cases io with
   | false=>rw [(h1 rfl).1] at ha;cases ha
   | true=>
    obtain ⟨xr,wr,rfl,rfl,o0,o⟩:=h2 rfl
    obtain ⟨ys,e⟩:=Own.lsts _ _ _ _ o0 a ha
    rw [e];simp
  refine ⟨λ i y d e=>?_,λ i h=>?_,λ i j hij a ha hb'=>?_,λ i a ha=>?_,λ i hi a ha=>?_,hZ,?_,λ i y d hi e=>?_,λ a h=>h,⟨λ v hv=>?_,λ _ h=>(nomatch h)⟩⟩
  ·obtain ⟨v,ev,ov⟩:=each i y d (inl i _ e)
   refine ⟨v,?_,ov.weak λ a h=>?_⟩
   ·unfold L2.start
    rw [jc2 (by rw [ja1];exact (ja8.mp ev).1),jd1,ev]
    rfl
   ·rcases h with h | ⟨j,_,h⟩
    ·exact .inl h
    ·by_cases ej:j=0
     ·simp only [if_pos ej] at h;exact .inr h
     ·simp only [if_neg ej] at h;cases h
  ·by_cases hi:i=0
   ·subst hi
    rw [if_pos rfl]
    cases io with
    | false=>exact (h1 rfl).1
    | true=>
     obtain ⟨xr,wr,rfl,rfl,_,_⟩:=h2 rfl
     exact absurd rfl (h (x0,om))
   ·rw [if_neg hi]
  ·by_cases e1:i=0
   ·by_cases e2:j=0
    ·exact hij (e1.trans e2.symm)
    ·rw [if_neg e2] at hb';cases hb'
   ·simp only [if_neg e1] at ha;cases ha
  ·by_cases e1:i=0
   ·simp only [if_pos e1] at ha;exact hz0 a ha
   ·simp only [if_neg e1] at ha;cases ha
  ·by_cases e1:i=0
   ·simp only [if_pos e1] at ha
    cases io with
    | false=>rw [(h1 rfl).1] at ha;cases ha
    | true=>
     have:=(hio rfl).1
     have hi':S.msF i=false:=hi
     rw [e1,this] at hi';cases hi'
   ·simp only [if_neg e1] at ha;cases ha
  ·unfold L2.start
   rw [jb1,qcw,jd0,jb1,ja1,jd0,hlen,hl,hk]
   omega
  ·have hm:i∈S.ms:=by
    have hi':S.msF i=true:=hi
    unfold Sx.msF at hi'
    simpa using hi'
   obtain ⟨e1,e2⟩:=zpy (inl i _ e)
   have hlt:i < np:=by
    have:=(ja8.mp e1).1
    rw [hlen,hl] at this;exact this
   obtain ⟨rfl,rfl⟩:=hms i hm hlt
   obtain ⟨xr,wr,rfl,rfl,_,_⟩:=h2 rfl
   have e':=inl 0 _ e
   simp [zza] at e'
   exact e'.2.symm
  ·have hv':(if io=true then some v0 else none)=some v:=hv
   cases io with
   | false=>cases hv'
   | true=>
    cases hv'
    obtain ⟨xr,wr,rfl,rfl,_,_⟩:=h2 rfl
    exact ⟨rfl,(hio rfl).1⟩
 ·unfold mkFn at q
  have hlen:xs.length=np:=by
   by_cases e:xs.length=np
   ·exact e
   ·rw [if_neg e] at q;exact q.elim
  rw [if_pos hlen] at q
  have fin:∀ {y:PV}{d:Nat}{ρ':Rho}{v:V}{σ':St}{H':Hp}{fps':Fps}{fp:List Addr},(match finF io y d ρ' with
    | .ok (y,d,z0)=>∀ v H' fp fp0',Keep (λ a=>a∈fp0) H H'->(∀ a,H a≠none->H' a≠none)->(∀ a∈fp0',a∈fp0\/H a=none)->(∀ a∈fp0',¬ Zo a)->(io=false->fp0'=[])->(io=true->Own K H' (λ _=>True) z0 om v0 fp0') ->
      Own K H' (λ a=>(Zo a\/a∈fp0')\/a∈fp) y d v fp->(∀ a∈fp,H a=none/\¬ (Zo a\/a∈fp0'))->Q v H'
    | .exc c=>∀ H',Keep (λ a=>a∈fp0) H H'->(∀ a,H a≠none->H' a≠none)->E (.int (c:Int) 0) none H'
    | .no=>False)->KS M H (λ i=>if i=0 then fp0 else []) H' fps'->Rep M ρ' σ' H' fps'->Own M.K H' (λ a=>Zr M fps' a\/a∈fp) y d v fp->(∀ a∈fp,M.H₀ a=none/\¬ Zr M fps' a)->Q v H':=λ {y d ρ' v σ' H' fps' fp} q ks rp oy hf=>by
   have kp:Keep (λ a=>a∈fp0) H H':=λ a o h n=>ks.keep a o h λ ⟨i,hi⟩=>by
    by_cases e:i=0
    ·simp only [if_pos e] at hi;exact n hi
    ·simp only [if_neg e] at hi;cases hi
   cases io with
   | false=>
    refine q v H' fp [] kp ks.dom (λ _ z=>(nomatch z)) (λ _ z=>(nomatch z)) (λ _=>rfl) (λ h=>(nomatch h)) (oy.weak λ a h=>?_) λ a ha=>⟨(hf a ha).1,λ z=>(hf a ha).2 ?_⟩
    ·rcases h with (h | h) | h
     ·exact .inl (.inl h)
     ·cases h
     ·exact .inr h
    ·rcases z with z | z
     ·exact .inl z
     ·cases z
   | true=>
    unfold finF at q
    cases e0:ρ'[0]? with
    | none=>dsimp only at q;rw [e0] at q;exact q.elim
    | some s0=>
     dsimp only at q
     rw [e0] at q
     cases s0 with
     | none=>exact q.elim
     | some p0=>
      obtain ⟨z,dz⟩:=p0
      have hdz:=rp.msf 0 z dz (hio rfl).1 e0
      subst hdz
      obtain ⟨u,hu,ou⟩:=rp.own 0 z om e0
      have hu0:=(rp.iov.1 v0 rfl).1
      rw [hu] at hu0
      cases hu0
      refine q v H' fp (fps' 0) kp ks.dom (λ a ha=>?_) (λ a ha=>rp.zo 0 a ha) (λ h=>(nomatch h)) (λ _=>Own.full _ _ _ ou) (oy.weak λ a h=>?_) λ a ha=>⟨(hf a ha).1,λ z=>(hf a ha).2 ?_⟩
      ·rcases ks.sub 0 a ha with ⟨j,hj⟩ | z
       ·by_cases e:j=0
        ·simp only [if_pos e] at hj;exact .inl hj
        ·simp only [if_neg e] at hj;cases hj
       ·exact .inr z
      ·rcases h with (h | h) | h
       ·exact .inl (.inl h)
       ·exact .inl (.inr ⟨(λ z=>nomatch z),h⟩)
       ·exact .inr h
      ·rcases z with z | z
       ·exact .inl z
       ·exact .inr ⟨(λ z=>nomatch z),z⟩
  cases eb:b (zza io xs++ja7 k none) with
  | no=>rw [eb] at q;exact q
  | exc c=>
   rw [eb] at q
   refine λ σ' H' fps' ks=>⟨q H' (λ a o h n=>ks.keep a o h λ ⟨i,hi⟩=>?_) ks.dom,ks.dom⟩
   by_cases e:i=0
   ·simp only [if_pos e] at hi;exact n hi
   ·simp only [if_neg e] at hi;cases hi
  | bk ρ=>rw [eb] at q;exact q.elim
  | ct ρ=>rw [eb] at q;exact q.elim
  | rt y d ρ'=>
   rw [eb] at q
   exact λ v σ' H' fps' fp ks rp oy hf=>fin q ks rp oy hf
  | nx ρ'=>
   rw [eb] at q
   exact λ σ' H' fps' ks rp=>fin (fp:=[]) q ks rp (by rw [Own];exact ⟨rfl,rfl⟩) λ _ z=>nomatch z
end
open PySem PySem.Spec PySem.W PySem.Calls PyProof.Rows L2
theorem zgh {tb:String->Option Builtin}{p:va8}{w:vb6}{n₀:Nat}{ann:Option va0}:∀ {n:Nat}{s r:SharedT}{t:Thread},zyu tb p w n₀ ann n s t=some r->topRun tb p w n₀ ann n s.abs t=some r.abs
 | 0,_,_,_,h=>by cases h
 | n + 1,s,r,t,h=>by
  unfold zyu at h
  unfold topRun
  cases e1:through t with
  | true=>rw [e1] at h;cases h;rfl
  | false=>
   rw [e1] at h
   cases e2:stepOk n₀ ann t with
   | false=>rw [e2] at h;cases h
   | true=>
    rw [e2] at h
    cases e3:stepT (denote tb) p w s t with
    | none=>rw [e3] at h;cases h
    | some z=>obtain ⟨s₂,t₂⟩:=z;rw [e3] at h;rw [stepT_spec e3];exact zgh h
theorem qin (P:Params) (os:OsState):(bootS P os).abs=⟨vc9 P,#[],boot_drawn,boot_toks,os⟩:=by kernel_rfl
theorem ql7 (P:Params):(vc9 P).isNs vc1=true:=by kernel_rfl
theorem qlg {p q:va8}{loose:List Str}{Xt:va1->Bool}{α:Type}{Yf:va1->α}{Ya:vb6->α}{N:Nat} (e:opening p=plainProg p.main.scope.names) (hN:Nat.ble 600 N=true) (f:∀ s,fenceModules? p s=some s)
  (run:∀ (w:vb6) (os:OsState),(zyu treeTable p w (vc9 w.params).objs.size ((vc9 w.params).nsMap vc1 "__annotations__") N (bootS w.params os) (topStub p)).map (λ s=>qa0 p q loose Xt Yf (vc9 w.params) s.abs)=some (true,openGood q loose,Ya w)):
  LeftO p q loose Xt Yf Ya N:=λ w=>by
 obtain ⟨⟨h,gs,d,k,os⟩,e1,e2⟩:=jb9.mp (boot_open e hN f w)
 obtain ⟨rfl,rfl,rfl,rfl⟩:h=vc9 w.params/\gs=#[]/\d=boot_drawn/\k=boot_toks:=by simpa using e2
 obtain ⟨s,r1,r2⟩:=jb9.mp (run w os)
 have r:=zgh r1
 rw [qin] at r
 have r3:(_=_)/\(_ ,_)=(_,_):=vj3 r2
 obtain ⟨l1,l23⟩:=r3
 obtain ⟨l2,l3⟩:=vj3 l23
 have t:topFrom treeTable p w N ⟨vc9 w.params,#[],boot_drawn,boot_toks,os⟩=some s.abs:=by
  unfold topFrom
  dsimp only
  rw [ql7,r]
  show (match staticsOk (vi7 p.main.body) (vc9 w.params) s.abs.heap && namesBound p s.abs.heap && gensDone s.abs && laidKept (vc9 w.params) s.abs.heap with | true=>_ | false=>_)=_
  rw [l1]
 unfold openEnds
 rw [e1]
 show (topFrom treeTable p w N _).map _=_
 rw [t]
 exact congrArg some (Prod.ext l2 l3)
theorem qoq (h:Heap):(kof h).In h:=by
 intro a o
 unfold kof
 generalize jc3 h.objs.size=l
 induction l with
 | nil=>intro e;cases e
 | cons b l ih=>
  intro e
  rw [ji4] at e
  cases g:h.get? b with
  | none=>rw [g] at e;exact ih e
  | some z=>
   rw [g] at e
   dsimp only [ji9] at e
   rw [jd8] at e
   split at e
   ·rename_i q
    cases e
    rw [beq_iff_eq.mp q]
    exact g
   ·exact ih e
theorem qpe {K:Frag}{x:Str}{st:Stmt} (e:qa2 K x=some (qfy x st)):∃ (g:Addr) (fd:vc4),nsIn K vc1 x=some (some (.ref g))/\Fun K x x st g fd:=by
 unfold qa2 at e
 split at e
 ·rename_i g hg
  split at e
  ·rename_i oc od fd sl hl
   cases fd
   unfold qfy at e
   simp only [Option.some.injEq,DefSeen.mk.injEq] at e
   obtain ⟨rfl,rfl,rfl,rfl,rfl,rfl,rfl,rfl,rfl,hc⟩:=e
   refine ⟨g,_,hg,qo5 hl hc ?_⟩
   unfold keepIn
   dsimp only
   rw [hl]
  ·cases e
 ·cases e
structure Given (ds:List (Str×Stmt)) (xc:List Nat) (K:Frag) (mg:Str->Option va0):Prop where
 df:∀ (i:Nat) (x:Str) (st:Stmt),ds[i]?=some (x,st)->∃ (g:Addr) (fd:vc4),mg x=some (.ref g)/\Fun K x x st g fd
 bn:∀ x∈zkf,mg x=none
 gx:GX K mg xc
theorem qe8 {α β:Type}{f g:α->β}:∀ {l:List α},l.map f=l.map g->∀ {i:Nat}{a:α},l[i]?=some a->f a=g a
 | [],_,_,_,h=>by cases h
 | b::l,e,0,a,h=>by
  cases h
  exact (List.cons.inj e).1
 | b::l,e,i + 1,a,h=>qe8 (List.cons.inj e).2 h
theorem qh2 {ds:List (Str×Stmt)}{xc:List Nat}{K:Frag}{mg:Str->Option va0}{h:Heap} (X:K.In h) (G:h.Ns vc1 mg) (e:zpe ds xc K=zhk ds):Given ds xc K mg:=by
 obtain ⟨e1,e2⟩:=vj3 e
 obtain ⟨e2,e3⟩:=vj3 e2
 refine ⟨λ i x st hi=>?_,λ x hx=>?_,λ hne=>?_⟩
 ·obtain ⟨g,fd,a,b⟩:=qpe (qe8 e1 hi)
  exact ⟨g,fd,mg_of X G a,b⟩
 ·obtain ⟨i,hi⟩:=List.getElem?_of_mem hx
  exact mg_none_of X G (qe8 e2 hi)
 ·have hm:xc.isEmpty=false:=by
   cases xc with
   | nil=>exact absurd rfl hne
   | cons _ _=>rfl
  rw [hm,ji1,ja4,ja4] at e3
  refine ⟨e3.1.1,e3.1.2,λ c hc=>?_⟩
  have h1:=jc4.mp e3.2 c hc
  rw [ja4] at h1
  obtain ⟨C,hC⟩:=ji6.mp h1.1
  have hC':=hC
  unfold zws at hC'
  cases hx:XN[c]? with
  | none=>rw [hx] at hC';cases hC'
  | some x=>
   rw [hx] at hC'
   dsimp only at hC'
   have h2:=h1.2
   rw [hx] at h2
   dsimp only at h2
   refine ⟨x,C,rfl,hC,?_,by simpa using h2⟩
   split at hC'
   ·rename_i D hD
    cases hC'
    exact mg_of X G hD
   ·cases hC'
theorem ql2 {P:va8}{w:vb6}{K:Frag}{outer:List Env}{H:Hp}{s:va1}{e:va0}{s2:va1} (z:CXr P w K outer H s (λ _ _ _=>False) e s2):False:=by
 obtain ⟨_,_,_,_,_,_,_,_,_,_,_,_,_,_,_,_,_,_,z⟩:=z
 exact z
theorem holds_by {l:OpenLaw}{q:va8}{loose:List Str}{d:DefRec}{N k n:Nat}{ds:List (Str×Stmt)}{xc:List Nat}{F:Fn}{x:Str} (said:l.wellSaid=true)
  (e:opening l.prog=plainProg l.prog.main.scope.names) (hN:Nat.ble 600 N=true) (f:∀ s,fenceModules? l.prog s=some s)
  (run:∀ (w:vb6) (os:OsState),(zyu treeTable l.prog w (vc9 w.params).objs.size ((vc9 w.params).nsMap vc1 "__annotations__") N (bootS w.params os) (topStub l.prog)).map
   (λ s=>qa0 l.prog q loose (λ s=>xlAt q [] s && recOk (RowW.records l.row.toRowW) s) (λ s=>zpe ds xc (kof s.heap)) (vc9 w.params) s.abs)=some (true,openGood q loose,zhk ds))
  (hdef:defOf q l.row.name=some (d,[])) (hp:l.row.prog.theDef l.row.name=some (d.params,d.body,d.scope)) (hk:kwWritten? d.params.kwonlyargs d.params.kw_defaults=some []) (hwr:(!l.row.writes || l.row.records.isEmpty)=true)
  (ok:(chainsOk q && opensWell l.row.prog && (frees l.row.toRowW && l.row.within.isEmpty))=true) (hb:l.row.prog.bare) (hw:l.row.toRowW.promised)
  (hn:l.most=some n) (hn2:n<=va2) (hdf:d.params.defaults=[]) (hr:Room k vi9)
  (law:∀ (K:Frag) (w:vb6) (mg:Str->Option va0) (fa:Addr),Given ds xc K mg->mg d.name=some (.ref fa)->∃ fd:vc4,(∀ (s:va1) (u:va0),BindsTo s fd ⟨[u],[]⟩ [(x,u)]) /\
   ∀ base:Heap,FnOk l.prog w K mg base (CXr l.prog w K) k fa fd [x] (spF K false 1 F))
  (yes:∀ (K:Frag) (H:Hp) (a:Addr) (ns:List Int),ns.length<=n->Only H->SqL K H a (ns.map V.int)->spF K false 1 F [.ref a] H (λ v _=>v=.bl true) λ _ _ _=>False):l.Holds:=by
 refine holds_law said λ ws=>?_
 refine holds_open (q:=q) (loose:=loose) (Xt:=λ s=>xlAt q [] s && recOk (RowW.records l.row.toRowW) s) (XP:=XL q []) (Yf:=λ s=>zpe ds xc (kof s.heap)) (Ya:=λ _=>zhk ds) (YP:=λ _ h=>∃ K:Frag,K.In h/\zpe ds xc K=zhk ds) (N:=N)
  (qlg e hN f run) (λ _ s z=>⟨_,qoq _,z⟩) (λ _ _ _ ⟨K,a,b⟩ kp=>⟨K,a.keeps kp,b⟩) (λ s e=>xl_of s (jn1.mp e).1) XL.keeps hdef hp hk (λ s e=>recFacts_of (jn1.mp e).2) hwr ws ok hb hw ?_
 refine Att.attach_call hn hdf λ w s₀ s₁ mg mb fa o pm cd doc a vs ns G Y ho hd hcd hmg hobj hints hlen hg=>?_
 obtain ⟨K,KX,hf⟩:=Y
 obtain ⟨fd,hbd,hF⟩:=law K w mg fa (qh2 KX G.T.g hf) hmg
 exact qhu KX G.T.g G.T.b G.T.builtins G.T.nolimit hg hobj hints (jd4 hlen hn2) hr (λ base _ _=>hF base) hbd (λ H hO hS=>yes K H a ns hlen hO hS) λ H e s'=>ql2
section
variable {P:va8}{w:vb6}{K:Frag}{mg:Str->Option va0}{base:Heap}
theorem len1 {us:List va0} (h:us.length=1):∃ a,us=[a]:=List.length_eq_one_iff.mp h
theorem len2 {us:List va0} (h:us.length=2):∃ a b,us=[a,b]:=by
 cases us with
 | nil=>cases h
 | cons a r=>obtain ⟨b,rfl⟩:=len1 (Nat.succ.inj h);exact ⟨a,b,rfl⟩
theorem len3 {us:List va0} (h:us.length=3):∃ a b c,us=[a,b,c]:=by
 cases us with
 | nil=>cases h
 | cons a r=>obtain ⟨b,c,rfl⟩:=len2 (Nat.succ.inj h);exact ⟨a,b,c,rfl⟩
theorem len4 {us:List va0} (h:us.length=4):∃ a b c d,us=[a,b,c,d]:=by
 cases us with
 | nil=>cases h
 | cons a r=>obtain ⟨b,c,d,rfl⟩:=len3 (Nat.succ.inj h);exact ⟨a,b,c,d,rfl⟩
theorem len5 {us:List va0} (h:us.length=5):∃ a b c d e,us=[a,b,c,d,e]:=by
 cases us with
 | nil=>cases h
 | cons a r=>obtain ⟨b,c,d,e,rfl⟩:=len4 (Nat.succ.inj h);exact ⟨a,b,c,d,e,rfl⟩
theorem gs_nil {lvl:Nat} (hb:∀ x∈zkf,mg x=none):GS P w K mg base lvl []:=⟨hb,λ x io n F h=>by cases h⟩
theorem gs_cons {lvl:Nat}{x qual:Str}{st:Stmt}{fa:Addr}{fd:vc4}{ps:List Str}{io:Bool}{n:Nat}{F:Fn}{Γ:List (Str×(Bool×Nat×Fn))} (g:GS P w K mg base lvl Γ) (hx:(x == ("__debug__" : Str))=false) (hF:∀ xs,xs.length≠n->F xs=.no)
  (hm:mg x=some (.ref fa)) (Fu:Fun K x qual st fa fd) (hbd:zpu K fd ps []) (hn:ps.length=n) (ok:FnOk P w K mg base (CXr P w K) lvl fa fd ps (spF K io n F)):GS P w K mg base lvl ((x,(io,n,F))::Γ):=by
 refine ⟨g.1,λ y io' n' F' h=>?_⟩
 rw [jd8] at h
 split at h
 ·rename_i e
  cases h
  have:y=x:=eq_of_beq e
  subst this
  exact ⟨hx,hF,fa,fd,ps,hm,Fu.kp,hbd,hn,ok⟩
 ·exact g.2 y io' n' F' h
theorem qlo {lvl:Nat}:GSm P w K mg base lvl []:=λ x F h=>by cases h
theorem gcs {lvl j:Nat}{x qual:Str}{st:Stmt}{fa:Addr}{fd:vc4}{ps:List Str}{io:Bool}{n:Nat}{F:Fn}{Γ:List (Str×(Bool×Nat×Fn))} (g:GS P w K mg base lvl Γ) (hm:mg x=some (.ref fa)) (Fu:Fun K x qual st fa fd) (hbd:zpu K fd ps []) (ok:FnOk P w K mg base (CXr P w K) j fa fd ps (spF K io n F)) (hl:j<=lvl:=by decide) (hx:(x == ("__debug__" : Str))=false:=by decide +kernel) (hF:∀ xs,xs.length≠n->F xs=.no:=by exact zzv) (hn:ps.length=n:=by rfl):GS P w K mg base lvl ((x,(io,n,F))::Γ):=gs_cons g hx hF hm Fu hbd hn (ok.mono hl)
theorem fnb (S:Sx) {lvl:Nat}{x qual:Str}{st:Stmt}{fa:Addr}{fd:vc4}{ps:List Str}{np k:Nat}{io:Bool}{b:Fs} (Fu:Fun K x qual st fa fd) (FS:FnScope S.N ps (zqh st)) (gX:GX K mg S.xc) (G:GS P w K mg base lvl S.Γ) (hb:zqs (denS 60 S) (zql st)=some b) (hsc:S.sc=zqh st:=by rfl) (hal:S.al=[]:=by rfl) (hnp:ps.length=np:=by rfl) (hk:S.N.length=np + k:=by rfl) (hms:∀ i∈S.ms,i < np->i=0/\io=true:=by decide) (hio:io=true->S.msF 0=true/\0 < np:=by first | exact λ h=>Bool.noConfusion h | exact λ _=>⟨rfl,by decide⟩) (Gm:GSm P w K mg base lvl S.Γm:=by exact qlo):FnOk P w K mg base (CXr P w K) (lvl + 1) fa fd ps (spF K io np (mkFn io np k b)):=qp6 (S:=S) Fu FS hsc hal hnp hk hms hio gX G Gm hb
end
theorem sp_yes {K:Frag}{H:Hp}{a:Addr}{ns:List Int}{F:Fn} (hO:Only H) (hS:SqL K H a (ns.map V.int)) (h:∃ d z,F [.scr ns]=.ok (.bl true,d,z)):spF K false 1 F [.ref a] H (λ v _=>v=.bl true) λ _ _ _=>False:=by
 refine ⟨rfl,[.scr ns],λ _=>False,.non,.non,[],λ _ z=>z.elim,λ _ z=>(nomatch z),λ _=>⟨rfl,?_⟩,(λ h=>nomatch h),?_⟩
 ·rw [OwnL]
  refine ⟨.ref a,[],[],[],rfl,rfl,λ _ z=>(nomatch z),?_,by rw [OwnL];exact ⟨rfl,rfl⟩⟩
  rw [Own]
  refine ⟨rfl,a,rfl,?_⟩
  rcases hS with (h | h) | h
  ·rcases hO a with z | ⟨ob,xs,z⟩
   ·rw [h] at z;cases z
   ·rw [h] at z;cases z
  ·exact .inl h
  ·exact .inr h
 ·obtain ⟨d,z,e⟩:=h
  rw [e]
  intro v H' fp fp0' _ _ _ _ _ _ o _
  rw [Own] at o
  exact o.1
end QQ
namespace QV
open PySem PySem.Spec PyProof.Rows L2 QQ
theorem zwb {op:PV->Nat->PV->Nat->Option (PV×Nat)}{f g:Fx}{ρ ρ1 ρ2:Rho}{x y z:PV}{d e c:Nat} (h1:f ρ=.ok (x,d,ρ1)) (h2:g ρ1=.ok (y,e,ρ2)) (h3:op x d y e=some (z,c)):bBin op f g ρ=.ok (z,c,ρ2):=by
 unfold bBin
 rw [h1]
 dsimp only [Rz.bind]
 rw [h2]
 dsimp only
 rw [h3]
theorem qmg {op:PV->Nat->Option (PV×Nat)}{f:Fx}{ρ ρ1:Rho}{x z:PV}{d c:Nat} (h1:f ρ=.ok (x,d,ρ1)) (h3:op x d=some (z,c)):bUn op f ρ=.ok (z,c,ρ1):=by
 unfold bUn
 rw [h1]
 dsimp only [Rz.bind]
 rw [h3]
theorem zqm {f:Fx}{fa:Fa}{ρ ρ1 ρ2:Rho}{x:PV}{d:Nat}{xs:List (PV×Nat)} (h1:f ρ=.ok (x,d,ρ1)) (h2:fa ρ1=.ok (xs,ρ2)):zqa f fa ρ=.ok ((x,d)::xs,ρ2):=by
 unfold zqa
 rw [h1]
 dsimp only [Rz.bind]
 rw [h2]
theorem zqt {f:Fx}{ρ ρ1:Rho}{x:PV}{d:Nat} (h1:f ρ=.ok (x,d,ρ1)):zqa f aNil ρ=.ok ([(x,d)],ρ1):=zqm h1 rfl
theorem zqx {op:List (PV×Nat)->Option (PV×Nat)}{fa:Fa}{ρ ρ1:Rho}{xs:List (PV×Nat)}{z:PV}{c:Nat} (h1:fa ρ=.ok (xs,ρ1)) (h2:op xs=some (z,c)):zqb op fa ρ=.ok (z,c,ρ1):=by
 unfold zqb
 rw [h1]
 dsimp only [Rz.bind]
 rw [h2]
theorem zqj {F:Fn}{fa:Fa}{ρ ρ1:Rho}{xs:List (PV×Nat)}{y z:PV}{d:Nat} (h1:fa ρ=.ok (xs,ρ1)) (h2:F (xs.map (·.1))=.ok (y,d,z)):zqc F fa ρ=.ok (y,d,ρ1):=by
 unfold zqc
 rw [h1]
 dsimp only [Rz.bind]
 rw [h2]
theorem zwg {f:Fx}{ρ ρ1:Rho}{x:PV}{d:Nat} (h:f ρ=.ok (x,d,ρ1)):sRet f ρ=.rt x d ρ1:=by
 unfold sRet
 rw [h]
theorem zzp {f:Fx}{ρ ρ1:Rho}{x:PV}{d:Nat} (h:f ρ=.ok (x,d,ρ1)):zxb f ρ=.nx ρ1:=by
 unfold zxb
 rw [h]
theorem setF {i:Nat}{f:Fx}{vs:List Nat}{ρ ρ1 ρ2:Rho}{x:PV}{d:Nat} (h:f ρ=.ok (x,d,ρ1)) (hc:i < ρ1.length) (e:(zqk d vs ρ1).set i (some (x,d))=ρ2):sSet false i f vs ρ=.nx ρ2:=by
 unfold sSet
 rw [h]
 dsimp only
 rw [if_pos ⟨hc,λ h=>nomatch h⟩,e]
theorem zmp {i:Nat}{f:Fx}{vs:List Nat}{ρ ρ1 ρ2:Rho}{y:PV}{e:Nat}{xs:List PV}{d0 d:Nat}{xs0:List PV} (h0:ρ[i]?=some (some (.lst xs0,d0 + 1))) (h:f ρ=.ok (y,e,ρ1)) (h1:(zqk e vs ρ1)[i]?=some (some (.lst xs,d))) (hd:d≠0) (hl:xs.length < va2)
  (e2:(zqk e vs ρ1).set i (some (.lst (xs++[y]),if d=om/\e=om then om else 1))=ρ2):sApp i f vs ρ=.nx ρ2:=by
 unfold sApp
 rw [h0]
 dsimp only
 rw [h]
 dsimp only
 rw [h1]
 dsimp only
 rw [if_pos ⟨hd,hl⟩,e2]
theorem qkl {i:Nat}{fi fj f:Fx}{ρ ρ1 ρ2 ρ3 ρ4:Rho}{y x x':PV}{a b:Int}{d0 d1 d2:Nat} (h:f ρ=.ok (y,d0,ρ1)) (hx:ρ1[i]?=some (some (x,om))) (h1:fi ρ1=.ok (.int a,d1,ρ2)) (h2:fj ρ2=.ok (.int b,d2,ρ3)) (hp:put2 x a b y=some x') (hy:qdd y=true) (e:ρ3.set i (some (x',om))=ρ4):zgm i fi fj f ρ=.nx ρ4:=by
 unfold zgm
 rw [h]
 dsimp only
 rw [hx]
 dsimp only
 rw [h1]
 dsimp only
 rw [h2]
 dsimp only
 rw [hp]
 dsimp only
 rw [if_pos ⟨rfl,hy⟩,e]
theorem zqi {f g:Fs}{ρ ρ1:Rho} (h:f ρ=.nx ρ1):sSeq f g ρ=g ρ1:=by
 unfold sSeq
 rw [h]
theorem qlm {c:Fb}{f g:Fs}{ρ ρ1:Rho}{b:Bool} (hc:c ρ=.ok (b,ρ1)):sIf c f g ρ=if b=true then f ρ1 else g ρ1:=by
 unfold sIf
 rw [hc]
theorem if_t {c:Fb}{f g:Fs}{ρ ρ1:Rho} (hc:c ρ=.ok (true,ρ1)):sIf c f g ρ=f ρ1:=by rw [qlm hc];rfl
theorem if_f {c:Fb}{f g:Fs}{ρ ρ1:Rho} (hc:c ρ=.ok (false,ρ1)):sIf c f g ρ=g ρ1:=by rw [qlm hc];rfl
theorem zwd {c:Fb}{f g:Fs}{ρ ρ1:Rho} (hc:c ρ=.ok (false,ρ1)):sSeq (sIf c f sNil) g ρ=g ρ1:=zqi (by rw [if_f hc];rfl)
theorem zxx {f g:Fs}{ρ ρ1:Rho}{x:PV}{d:Nat} (h:f ρ=.rt x d ρ1):sSeq f g ρ=.rt x d ρ1:=by
 unfold sSeq
 rw [h]
theorem t_ok {f:Fx}{ρ ρ1:Rho}{b:Bool}{d:Nat} (h:f ρ=.ok (.bl b,d,ρ1)):bT f ρ=.ok (b,ρ1):=by
 unfold bT
 rw [h]
 rfl
theorem zzj {f:Fx}{ρ ρ1:Rho}{b:Bool}{d:Nat} (h:f ρ=.ok (.bl b,d,ρ1)):bUn zqu f ρ=.ok (.bl (!b),om,ρ1):=qmg h rfl
theorem zjp {f g:Fx}{ρ ρ1:Rho}{a b:Bool}{d:Nat} (h:f ρ=.ok (.bl a,d,ρ1)) (h2:a=true->g ρ1=.ok (.bl b,om,ρ1)) (hd:d=om):zvh f g ρ=.ok (.bl (a && b),om,ρ1):=by
 subst hd
 unfold zvh
 rw [h]
 cases a with
 | false=>rfl
 | true=>exact h2 rfl
theorem zvw {f g:Fx}{ρ ρ1:Rho}{a b:Bool}{d:Nat} (h:f ρ=.ok (.bl a,d,ρ1)) (h2:a=false->g ρ1=.ok (.bl b,om,ρ1)) (hd:d=om):bOrV f g ρ=.ok (.bl (a || b),om,ρ1):=by
 subst hd
 unfold bOrV
 rw [h]
 cases a with
 | true=>rfl
 | false=>exact h2 rfl
theorem zbv {f g:Fx}{ρ ρ1 ρ2:Rho}{i j:Int}{d e:Nat} (h1:f ρ=.ok (.int i,d,ρ1)) (h2:g ρ1=.ok (.int j,e,ρ2)) (h:(-(2 ^ 64) < i/\i < 2 ^ 64)\/(-(2 ^ 64) < j/\j < 2 ^ 64)):bBin zxc f g ρ=.ok (.int (i * j),om,ρ2):=by
 refine zwb h1 h2 ?_
 show (if pMul i j=true then _ else _)=_
 rw [if_pos]
 unfold pMul
 rcases h with h | h
 ·rw [decide_eq_true h.1,decide_eq_true h.2];rfl
 ·rw [decide_eq_true h.1,decide_eq_true h.2];simp
theorem zhc {f g:Fx}{ρ ρ1 ρ2:Rho}{i j:Int}{d e:Nat} (h1:f ρ=.ok (.int i,d,ρ1)) (h2:g ρ1=.ok (.int j,e,ρ2)) (h:0 < j):bBin zjv f g ρ=.ok (.int (i % j),om,ρ2):=by
 refine zwb h1 h2 ?_
 show (if pMod i j=true then _ else _)=_
 rw [if_pos]
 exact decide_eq_true h
theorem qje {f g:Fx}{ρ ρ1 ρ2:Rho}{i j:Int}{d e:Nat} (h1:f ρ=.ok (.int i,d,ρ1)) (h2:g ρ1=.ok (.int j,e,ρ2)) (h:0 < j) (h':j < 2 ^ 128):bBin zmb f g ρ=.ok (.int (i / j),om,ρ2):=by
 refine zwb h1 h2 ?_
 show (if pDiv i j=true then _ else _)=_
 rw [if_pos]
 unfold pDiv
 rw [decide_eq_true h,decide_eq_true h'];rfl
theorem zwp {f g:Fx}{ρ ρ1 ρ2:Rho}{i j:Int}{d e:Nat} (h1:f ρ=.ok (.int i,d,ρ1)) (h2:g ρ1=.ok (.int j,e,ρ2)):bBin zqg f g ρ=.ok (.int (i + j),om,ρ2):=zwb h1 h2 rfl
theorem zvs {f g:Fx}{ρ ρ1 ρ2:Rho}{i j:Int}{d e:Nat} (h1:f ρ=.ok (.int i,d,ρ1)) (h2:g ρ1=.ok (.int j,e,ρ2)):bBin zxj f g ρ=.ok (.int (i - j),om,ρ2):=zwb h1 h2 rfl
theorem zpo {p:Int->Int->Bool}{f g:Fx}{ρ ρ1 ρ2:Rho}{i j:Int}{d e:Nat} (h1:f ρ=.ok (.int i,d,ρ1)) (h2:g ρ1=.ok (.int j,e,ρ2)):bBin (zxh p) f g ρ=.ok (.bl (p i j),om,ρ2):=zwb h1 h2 rfl
theorem qcm {p q:Int->Int->Bool}{f g h:Fx}{ρ:Rho}{i j k:Int}{d e c:Nat} (h1:f ρ=.ok (.int i,d,ρ)) (h2:g ρ=.ok (.int j,e,ρ)) (h3:h ρ=.ok (.int k,c,ρ)):zkg p q f g h ρ=.ok (.bl (p i j && q j k),om,ρ):=by
 unfold zkg
 rw [h1]
 dsimp only [Rz.bind]
 rw [h2]
 dsimp only
 by_cases hp:p i j=true
 ·rw [if_pos hp,h3,hp];rfl
 ·rw [if_neg hp]
  have:p i j=false:=by simpa using hp
  rw [this];rfl
theorem eqI {neg:Bool}{i j:Int}{d e:Nat}:opEq neg (.int i) d (.int j) e=some (.bl (neg^^decide (i=j)),om):=by
 show some (PV.bl (neg^^vd7 (.int i) (.int j)),om)=_
 have:vd7 (.int i) (.int j)=decide (i=j):=by
  show (i == j)=_
  rfl
 rw [this]
theorem zyp {neg:Bool}{f g:Fx}{ρ ρ1 ρ2:Rho}{i j:Int}{d e:Nat} (h1:f ρ=.ok (.int i,d,ρ1)) (h2:g ρ1=.ok (.int j,e,ρ2)):bBin (opEq neg) f g ρ=.ok (.bl (neg^^decide (i=j)),om,ρ2):=zwb h1 h2 eqI
def il (xs:List Int):PV:=.lst (xs.map .int)
def tb (t:List (List Int)):PV:=.lst (t.map il)
abbrev bx (a b c:Int):PV:=.tup [.int a,.int b,.int c]
theorem zwt {α:Type}{xs:List α}{k:Int}{x:α} (h0:0<=k) (h:xs[k.toNat]?=some x):atI xs k=some x:=by
 have hl:=(ja8.mp h).1
 unfold atI ixN
 rw [if_pos h0,if_pos (by omega)]
 exact h
theorem zyn {f g:Fx}{ρ ρ1 ρ2:Rho}{xs:List Int}{k x:Int}{d e:Nat} (h1:f ρ=.ok (il xs,d,ρ1)) (h2:g ρ1=.ok (.int k,e,ρ2)) (h:atI xs k=some x):bBin zqe f g ρ=.ok (.int x,om,ρ2):=by
 refine zwb h1 h2 ?_
 show (atI (xs.map PV.int) k).map _=_
 have:atI (xs.map PV.int) k=some (.int x):=by
  unfold atI at h ⊢
  rw [ja1]
  cases e:ixN xs.length k with
  | none=>rw [e] at h;cases h
  | some j=>
   rw [e] at h
   have h':xs[j]?=some x:=h
   show (xs.map PV.int)[j]?=_
   rw [jd1,h'];rfl
 rw [this];rfl
theorem qfm {f g:Fx}{ρ ρ1 ρ2:Rho}{t:List (List Int)}{k:Int}{r:List Int}{d e:Nat} (h1:f ρ=.ok (tb t,d,ρ1)) (h2:g ρ1=.ok (.int k,e,ρ2)) (h:atI t k=some r):bBin zqe f g ρ=.ok (il r,0,ρ2):=by
 refine zwb h1 h2 ?_
 show (atI (t.map il) k).map _=_
 have:atI (t.map il) k=some (il r):=by
  unfold atI at h ⊢
  rw [ja1]
  cases e:ixN t.length k with
  | none=>rw [e] at h;cases h
  | some j=>
   rw [e] at h
   have h':t[j]?=some r:=h
   show (t.map il)[j]?=_
   rw [jd1,h'];rfl
 rw [this];rfl
theorem qfb {fa:Fa}{ρ ρ1:Rho}{xs:List Int}{d:Nat} (h:fa ρ=.ok ([(il xs,d)],ρ1)):zqb zwe fa ρ=.ok (.int xs.length,om,ρ1):=by
 refine zqx h ?_
 show some (PV.int ((xs.map PV.int).length:Nat),om)=_
 rw [ja1]
theorem qi9 {fa:Fa}{ρ ρ1:Rho}{t:List (List Int)}{d:Nat} (h:fa ρ=.ok ([(tb t,d)],ρ1)):zqb zwe fa ρ=.ok (.int t.length,om,ρ1):=by
 refine zqx h ?_
 show some (PV.int ((t.map il).length:Nat),om)=_
 rw [ja1]
theorem zwy {α:Type}{n:Nat}{test:Fb}{elt:Fx}{enc q:α->PV}{e:α->Nat}{p:α->Bool}:∀ (xs:List α) (ρ:Rho) (acc:List (PV×Nat)),ρ.length=n->(∀ x∈xs,test (ρ++[some (enc x,dv (enc x))])=.ok (p x,ρ++[some (enc x,dv (enc x))])) ->
  (∀ x∈xs,p x=true->elt (ρ++[some (enc x,dv (enc x))])=.ok (q x,e x,ρ++[some (enc x,dv (enc x))]))->acc.length + xs.length<=va2->zxy 1 (asgN n) test elt (xs.map enc) ρ acc=.ok (acc++(xs.filter p).map (λ x=>(q x,e x)),ρ)
 | [],ρ,acc,_,_,_,_=>by simp [zxy]
 | x::xs,ρ,acc,hn,ht,he,hl=>by
  have ea:asgN n (enc x) (ρ++ja7 1 none)=some (ρ++[some (enc x,dv (enc x))]):=by
   unfold asgN
   rw [if_pos (by rw [jb1,hn];simp),jk3 _ _ (by omega),hn]
   simp
  have ih:=λ acc h=>zwy (n:=n) (test:=test) (elt:=elt) (p:=p) (q:=q) (e:=e) (enc:=enc) xs ρ acc hn (λ y hy=>ht y (ja0 _ hy)) (λ y hy=>he y (ja0 _ hy)) h
  have tk:(ρ++[some (enc x,dv (enc x))]).take ρ.length=ρ:=by simp
  rw [jb4] at hl
  rw [jc8]
  unfold zxy
  rw [ea]
  dsimp only
  rw [ht x ja3]
  dsimp only [Rz.bindN]
  cases hp:p x with
  | false=>
   rw [if_neg jc6,tk,ih acc (by omega),jj1 (by simp [hp])]
  | true=>
   rw [if_pos rfl,he x ja3 hp]
   dsimp only
   rw [if_pos (by omega),tk,ih _ (by rw [jb1,ja6];omega),jj2 hp]
   simp
theorem zzq {α:Type} (q:α->PV):∀ xs:List α,zzy (xs.map λ x=>(q x,om))=true
 | []=>rfl
 | x::xs=>by rw [jc8];unfold zzy;rw [zzq q xs];rfl
theorem zzf {α:Type}{n:Nat}{f elt:Fx}{enc q:α->PV}{ρ ρ1:Rho}{d:Nat} (xs:List α) (hf:f ρ=.ok (.lst (xs.map enc),d,ρ1)) (hn:ρ1.length=n) (he:∀ x∈xs,elt (ρ1++[some (enc x,dv (enc x))])=.ok (q x,om,ρ1++[some (enc x,dv (enc x))])) (hl:xs.length<=va2):
  zqp f 1 (asgN n) zqr elt ρ=.ok (.lst (xs.map q),om,ρ1):=by
 unfold zqp
 rw [hf]
 dsimp only
 rw [zwy (p:=λ _=>true) (q:=q) (e:=λ _=>om) xs ρ1 [] hn (λ _ _=>rfl) (λ x hx _=>he x hx) (by simpa using hl),jf5.mpr (λ _ _=>rfl)]
 show zzk (xs.map λ x=>(q x,om)) ρ1=_
 unfold zzk
 rw [zzq,jd9]
 rfl
theorem qch {α:Type}{n:Nat}{f elt:Fx}{enc q:α->PV}{ρ ρ1:Rho}{d:Nat} (xs:List α) (hf:f ρ=.ok (.tup (xs.map enc),d,ρ1)) (hn:ρ1.length=n) (he:∀ x∈xs,elt (ρ1++[some (enc x,dv (enc x))])=.ok (q x,om,ρ1++[some (enc x,dv (enc x))])) (hl:xs.length<=va2):
  zqp f 1 (asgN n) zqr elt ρ=.ok (.lst (xs.map q),om,ρ1):=by
 unfold zqp
 rw [hf]
 dsimp only
 rw [zwy (p:=λ _=>true) (q:=q) (e:=λ _=>om) xs ρ1 [] hn (λ _ _=>rfl) (λ x hx _=>he x hx) (by simpa using hl),jf5.mpr (λ _ _=>rfl)]
 show zzk (xs.map λ x=>(q x,om)) ρ1=_
 unfold zzk
 rw [zzq,jd9]
 rfl
theorem qif {α:Type}{n:Nat}{f elt:Fx}{test:Fb}{enc q:α->PV}{p:α->Bool}{ρ ρ1:Rho}{d:Nat} (xs:List α) (hf:f ρ=.ok (.lst (xs.map enc),d,ρ1)) (hn:ρ1.length=n) (ht:∀ x∈xs,test (ρ1++[some (enc x,dv (enc x))])=.ok (p x,ρ1++[some (enc x,dv (enc x))])) (he:∀ x∈xs,p x=true->elt (ρ1++[some (enc x,dv (enc x))])=.ok (q x,om,ρ1++[some (enc x,dv (enc x))])) (hl:xs.length<=va2):
  zqp f 1 (asgN n) test elt ρ=.ok (.lst ((xs.filter p).map q),om,ρ1):=by
 unfold zqp
 rw [hf]
 dsimp only
 rw [zwy (p:=p) (q:=q) (e:=λ _=>om) xs ρ1 [] hn ht he (by simpa using hl)]
 show zzk ((xs.filter p).map λ x=>(q x,om)) ρ1=_
 unfold zzk
 rw [zzq,jd9]
 rfl
theorem zbs (lo:Int) (n:Nat):zzs lo n=(jc3 n).map λ (k:Nat)=>PV.int (lo + (k:Int)):=rfl
theorem zbh {n:Nat}{en:List (PV×Nat)->Option (Int×Int)}{fa:Fa}{elt:Fx}{q:Nat->PV}{ρ ρ1:Rho}{as:List (PV×Nat)}{lo hi:Int} (hf:fa ρ=.ok (as,ρ1)) (hen:en as=some (lo,hi)) (hn:ρ1.length=n) (he:∀ k,k < (hi - lo).toNat->elt (ρ1++[some (.int (lo + (k:Int)),om)])=.ok (q k,om,ρ1++[some (.int (lo + (k:Int)),om)])) (hl:(hi - lo).toNat<=va2):
  zxs en fa 1 (asgN n) zqr elt ρ=.ok (.lst ((jc3 (hi - lo).toNat).map q),om,ρ1):=by
 unfold zxs
 rw [hf]
 dsimp only
 rw [hen]
 dsimp only
 rw [zbs,zwy (enc:=λ (k:Nat)=>PV.int (lo + (k:Int))) (p:=λ _=>true) (q:=q) (e:=λ _=>om) (jc3 (hi - lo).toNat) ρ1 [] hn (λ _ _=>rfl) (λ x hx _=>he x (jd3.mp hx)) (by simpa using hl),jf5.mpr (λ _ _=>rfl)]
 show zzk ((jc3 (hi - lo).toNat).map λ x=>(q x,om)) ρ1=_
 unfold zzk
 rw [zzq,jd9]
 rfl
theorem qiq {α:Type} (g:α->Bool) (xs:List α):QQ.allB (xs.map λ x=>.bl (g x))=some (xs.map g):=by
 induction xs with
 | nil=>rfl
 | cons x r ih=>rw [jc8,jc8,QQ.allB,ih];rfl
theorem all_ok {α:Type}{f:Fx}{ρ ρ1:Rho}{d:Nat}{g:α->Bool}{xs:List α} (h:f ρ=.ok (.lst (xs.map λ x=>.bl (g x)),d,ρ1)):zqb zjb (zqa f aNil) ρ=.ok (.bl (xs.all g),om,ρ1):=by
 refine zqx (zqt h) ?_
 show (QQ.allB _).map _=_
 rw [qiq]
 simp
theorem qbz {i:Nat}{body:Fs}{lo:Int} (I:Nat->Rho->Prop):∀ (m k:Nat) (ρ:Rho),I k ρ->(∀ j ρ,k<=j->j < k + m->I j ρ->i < ρ.length/\∃ ρ2,body (ρ.set i (some (.int (lo + (j:Int)),om)))=.nx ρ2/\I (j + 1) ρ2) ->
  ∃ ρ',zxu (asgN i) body ((jl0 k m).map λ (k:Nat)=>PV.int (lo + (k:Int))) ρ=.nx ρ'/\I (k + m) ρ'
 | 0,k,ρ,hi,_=>⟨ρ,rfl,hi⟩
 | m + 1,k,ρ,hi,hb=>by
  obtain ⟨h1,ρ2,e2,h2⟩:=hb k ρ (jb8 _) (by omega) hi
  obtain ⟨ρ',e',h'⟩:=qbz (i:=i) (body:=body) (lo:=lo) I m (k + 1) ρ2 h2 λ j ρ a b=>hb j ρ (by omega) (by omega)
  refine ⟨ρ',?_,by rw [show k + (m + 1)=k + 1 + m by omega];exact h'⟩
  rw [jo8,jc8]
  unfold zxu
  have:asgN i (PV.int (lo + (k:Int))) ρ=some (ρ.set i (some (.int (lo + (k:Int)),om))):=by
   unfold asgN
   rw [if_pos h1];rfl
  rw [this]
  dsimp only
  rw [e2]
  exact e'
theorem zvn {i:Nat}{body:Fs}{en:List (PV×Nat)->Option (Int×Int)}{fa:Fa}{ρ ρ1:Rho}{as:List (PV×Nat)}{lo hi:Int} (I:Nat->Rho->Prop) (hf:fa ρ=.ok (as,ρ1)) (hen:en as=some (lo,hi)) (h0:I 0 ρ1)
  (hb:∀ j ρ,j < (hi - lo).toNat->I j ρ->i < ρ.length/\∃ ρ2,body (ρ.set i (some (.int (lo + (j:Int)),om)))=.nx ρ2/\I (j + 1) ρ2):∃ ρ',zwq en fa (asgN i) body ρ=.nx ρ'/\I (hi - lo).toNat ρ':=by
 obtain ⟨ρ',e,h⟩:=qbz (i:=i) (body:=body) (lo:=lo) I (hi - lo).toNat 0 ρ1 h0 λ j ρ _ h hi=>hb j ρ (by omega) hi
 refine ⟨ρ',?_,by rw [jl6] at h;exact h⟩
 unfold zwq
 rw [hf]
 dsimp only
 rw [hen]
 dsimp only
 rw [zbs,List.range_eq_range']
 exact e
theorem zxw {j:Int}{d:Nat} (h1:-(2 ^ 62)<=j) (h2:j < 2 ^ 62):zqy [(.int j,d)]=some (0,j):=by
 show (if -(2 ^ 62)<=j/\j < 2 ^ 62 then some ((0:Int),j) else none)=_
 rw [if_pos ⟨h1,h2⟩]
theorem qh5 {i j:Int}{d e:Nat} (h1:-(2 ^ 62)<=i) (h2:i < 2 ^ 62) (h3:-(2 ^ 62)<=j) (h4:j < 2 ^ 62):zpj [(.int i,d),(.int j,e)]=some (i,j):=by
 show (if -(2 ^ 62)<=i/\i < 2 ^ 62/\-(2 ^ 62)<=j/\j < 2 ^ 62 then some (i,j) else none)=_
 rw [if_pos ⟨h1,h2,h3,h4⟩]
theorem zwr {np k:Nat}{b:Fs}{xs:List PV}{ρ':Rho}{y:PV}{d:Nat} (hl:xs.length=np) (h:b (xs.map (λ x=>some (x,dv x))++ja7 k none)=.rt y d ρ'):mkFn false np k b xs=.ok (y,d,.non):=by
 unfold mkFn
 rw [if_pos hl]
 have:zza false xs=xs.map λ x=>some (x,dv x):=rfl
 rw [this,h]
 rfl
theorem qlt {np k:Nat}{b:Fs}{xs:List PV}{ρ':Rho} (hl:xs.length=np) (h:b (xs.map (λ x=>some (x,dv x))++ja7 k none)=.nx ρ'):mkFn false np k b xs=.ok (.non,om,.non):=by
 unfold mkFn
 rw [if_pos hl]
 have:zza false xs=xs.map λ x=>some (x,dv x):=rfl
 rw [this,h]
 rfl
def Xf_is_whole_number:Fs:=(sRet (zvh (bUn (zwk "int") (bVar 0)) (bUn zqu (bUn (zwk "bool") (bVar 0)))))
def f_is_whole_number:Fn:=mkFn false 1 0 Xf_is_whole_number
def Xf_is_box:Fs:=(sSeq (sIf (bT (bOrV (bUn zqu (bUn (zwk "tuple") (bVar 0))) (bBin (opEq true) (zqb zwe (zqa (bVar 0) (aNil))) (bC (.int 3))))) (sRet (bC (.bl false))) sNil)
 (sRet (zqb zjb (zqa (zqp (bVar 0) 1 (asgN 1) zqr (zvh (zqc f_is_whole_number (zqa (bVar 1) (aNil))) (bBin (zxh λ i j=>decide (j<=i)) (bVar 1) (bC (.int 1))))) (aNil)))))
def f_is_box:Fn:=mkFn false 1 0 Xf_is_box
def Xf_must_be_box:Fs:=(sIf (bT (bUn zqu (zqc f_is_box (zqa (bVar 0) (aNil))))) (sExc 1) sNil)
def f_must_be_box:Fn:=mkFn false 1 0 Xf_must_be_box
def Xf_is_row_of_heights:Fs:=(sSeq (sIf (bT (bOrV (bUn zqu (bUn (zwk "list") (bVar 0))) (bBin (opEq true) (zqb zwe (zqa (bVar 0) (aNil))) (bVar 1)))) (sRet (bC (.bl false))) sNil)
 (sRet (zqb zjb (zqa (zqp (bVar 0) 1 (asgN 3) zqr (zvh (zqc f_is_whole_number (zqa (bVar 3) (aNil))) (zkg (λ i j=>decide (i<=j)) (λ i j=>decide (i<=j)) (bC (.int 0)) (bVar 3) (bVar 2)))) (aNil)))))
def f_is_row_of_heights:Fn:=mkFn false 3 0 Xf_is_row_of_heights
def Xf_never_rises:Fs:=(sRet (zqb zjb (zqa (zxs zpj (zqa (bC (.int 1)) (zqa (zqb zwe (zqa (bVar 0) (aNil))) (aNil))) 1 (asgN 1) zqr (bBin (zxh λ i j=>decide (i<=j)) (bBin zqe (bVar 0) (bVar 1)) (bBin zqe (bVar 0) (bBin zxj (bVar 1) (bC (.int 1)))))) (aNil))))
def f_never_rises:Fn:=mkFn false 1 0 Xf_never_rises
def Xf_column_of:Fs:=(sRet (zqp (bVar 0) 1 (asgN 2) zqr (bBin zqe (bVar 2) (bVar 1))))
def f_column_of:Fn:=mkFn false 2 0 Xf_column_of
def Xf_is_pile:Fs:=(sSeq (zxb (zqc f_must_be_box (zqa (bVar 0) (aNil))))
 (sSeq (sUnp (asgT [2,3,4]) (bVar 0) [0])
 (sSeq (sIf (bT (bOrV (bUn zqu (bUn (zwk "list") (bVar 1))) (bBin (opEq true) (zqb zwe (zqa (bVar 1) (aNil))) (bVar 2)))) (sRet (bC (.bl false))) sNil)
 (sSeq (sIf (bT (bUn zqu (zqb zjb (zqa (zqp (bVar 1) 1 (asgN 5) zqr (zqc f_is_row_of_heights (zqa (bVar 5) (zqa (bVar 3) (zqa (bVar 4) (aNil)))))) (aNil))))) (sRet (bC (.bl false))) sNil)
 (sSeq (sIf (bT (bUn zqu (zqb zjb (zqa (zqp (bVar 1) 1 (asgN 5) zqr (zqc f_never_rises (zqa (bVar 5) (aNil)))) (aNil))))) (sRet (bC (.bl false))) sNil)
 (sRet (zqb zjb (zqa (zxs zqy (zqa (bVar 3) (aNil)) 1 (asgN 5) zqr (zqc f_never_rises (zqa (zqc f_column_of (zqa (bVar 1) (zqa (bVar 5) (aNil)))) (aNil)))) (aNil)))))))))
def f_is_pile:Fn:=mkFn false 2 3 Xf_is_pile
def Xf_must_be_pile:Fs:=(sIf (bT (bUn zqu (zqc f_is_pile (zqa (bVar 0) (zqa (bVar 1) (aNil)))))) (sExc 2) sNil)
def f_must_be_pile:Fn:=mkFn false 2 0 Xf_must_be_pile
def Xf_how_many_cubes:Fs:=(sSeq (zxb (zqc f_must_be_pile (zqa (bVar 0) (zqa (bVar 1) (aNil)))))
 (sRet (zqb zgw (zqa (zqp (bVar 1) 1 (asgN 2) zqr (zqb zgw (zqa (bVar 2) (aNil)))) (aNil)))))
def f_how_many_cubes:Fn:=mkFn false 2 0 Xf_how_many_cubes
def Xa_pool:Fs:=(sSeq (sSet false 2 (bC (.int 0)) [])
 (sSeq (sIf (bT (bBin (zxh λ i j=>decide (i < j)) (bVar 1) (zqb zwe (zqa (bVar 0) (aNil))))) (sSet false 2 (bBin zqe (bVar 0) (bVar 1)) [0,1]) sNil)
 (sSeq (sIf (bT (bBin (zxh λ i j=>decide (j<=i)) (bVar 2) (bBin zgx (bC (.int 10)) (bC (.int 18))))) (sRet (zqb zqf (zqa (bBin zxj (bVar 2) (bBin zgx (bC (.int 10)) (bC (.int 18)))) (zqa (bC (.int 1)) (zqa (bC (.int 0)) (aNil)))))) sNil)
 (sRet (zqb zqf (zqa (bVar 2) (zqa (bC (.int 0)) (zqa (bBin zxc (bC (.int 29)) (bVar 1)) (aNil)))))))))
def a_pool:Fn:=mkFn false 2 1 Xa_pool
def Xa_take:Fs:=(sSeq (sIf (bT (bBin (opEq false) (bMs 0 1) (bC (.int 1)))) (sSeq (sSet false 2 (bBin zjv (bMs 0 0) (bVar 1)) [1])
 (sSeq (sPut 0 0 (bBin zmb (bMs 0 0) (bVar 1)))
 (zkp 2))) sNil)
 (sSeq (sPut 0 2 (bBin zqg (bMs 0 2) (bC (.int 1))))
 (sSeq (sSet false 3 (bMs 0 2) [])
 (sSeq (sSet false 4 (bBin zxc (bBin zqg (bBin zjv (bMs 0 0) (bC (.int 9999999631))) (bC (.int 967))) (bBin zqg (bBin zxc (bC (.int 19)) (bVar 3)) (bC (.int 47)))) [3])
 (sSeq (sSet false 4 (bBin zqg (bVar 4) (bBin zxc (bBin zxc (bC (.int 3457)) (bVar 3)) (bVar 3))) [4,3,3])
 (sSeq (sSet false 4 (bBin zjv (bBin zxc (bVar 4) (bVar 4)) (bC (.int 99999999673))) [4,4])
 (sRet (bBin zjv (bBin zmb (bBin zjv (bBin zxc (bVar 4) (bBin zqg (bVar 4) (bC (.int 31)))) (bC (.int 99999999941))) (bC (.int 79))) (bVar 1)))))))))
def a_take:Fn:=mkFn true 2 3 Xa_take
def Xa_box:Fs:=(sRet (zqb zkr (zqa (zxs zqy (zqa (bC (.int 3)) (aNil)) 1 (asgN 2) zqr (bBin zqg (bC (.int 1)) (bBin zqe (zqb zqf (zqa (zqd a_take 0 (zqa (bC (.int 3)) (aNil))) (zqa (zqd a_take 0 (zqa (bVar 1) (aNil))) (aNil)))) (zqd a_take 0 (zqa (bC (.int 2)) (aNil)))))) (aNil))))
def a_box:Fn:=mkFn true 2 0 Xa_box
def Xa_pile:Fs:=(sSeq (sUnp (asgT [2,3,4]) (bVar 1) [1])
 (sSeq (sSet false 5 (zqd a_take 0 (zqa (bC (.int 8)) (aNil))) [])
 (sSeq (sSet false 6 (zqb zqf (aNil)) [])
 (sSeq (zwq zqy (zqa (bVar 2) (aNil)) (asgN 7) (sSeq (sSet false 8 (zqb zqf (aNil)) [])
 (sSeq (zwq zqy (zqa (bVar 3) (aNil)) (asgN 9) (sSeq (sSet false 10 (zqb zzd (zqa (bBin zqg (bBin zqg (zqb zqf (zqa (bVar 4) (aNil))) (bSl (bVar 8) (some (bUn zxq (bC (.int 1)))) none)) (zqp (bSl (bVar 6) (some (bUn zxq (bC (.int 1)))) none) 1 (asgN 12) zqr (bBin zqe (bVar 12) (bVar 9)))) (aNil))) [4,8,6,6,9])
 (sSeq (sSet false 11 (zqb zqf (zqa (zqb zkx (zqa (bC (.int 0)) (zqa (bBin zxj (bVar 10) (zqd a_take 0 (zqa (bC (.int 2)) (aNil)))) (aNil)))) (zqa (zqd a_take 0 (zqa (bBin zqg (bVar 10) (bC (.int 1))) (aNil))) (zqa (bVar 10) (aNil))))) [10,10,10])
 (sApp 8 (bBin zqe (bBin zqg (zqb zqf (zqa (bC (.int 0)) (zqa (bVar 4) (aNil)))) (bBin zxc (zqb zqf (zqa (bBin zqe (bVar 11) (zqd a_take 0 (zqa (bC (.int 3)) (aNil)))) (aNil))) (bC (.int 6)))) (bVar 5)) [4,11,5]))))
 (sApp 6 (bVar 8) [8]))))
 (zkp 6)))))
def a_pile:Fn:=mkFn true 2 10 Xa_pile
def Xf_must_be_two_piles:Fs:=(sSeq (zxb (zqc f_must_be_pile (zqa (bVar 0) (zqa (bVar 1) (aNil)))))
 (zxb (zqc f_must_be_pile (zqa (bVar 0) (zqa (bVar 2) (aNil))))))
def f_must_be_two_piles:Fn:=mkFn false 3 0 Xf_must_be_two_piles
def Xf_places_of:Fs:=(sSeq (sSet false 1 (zqb zqf (aNil)) [])
 (sSeq (zwq zqy (zqa (bBin zqe (bVar 0) (bC (.int 0))) (aNil)) (asgN 2) (sExt 1 (zxs zqy (zqa (bBin zqe (bVar 0) (bC (.int 1))) (aNil)) 1 (asgN 3) zqr (zqb zwn (zqa (bVar 2) (zqa (bVar 3) (aNil))))) [2]))
 (zkp 1)))
def f_places_of:Fn:=mkFn false 1 2 Xf_places_of
def Xf_pile_below:Fs:=(sSeq (zxb (zqc f_must_be_two_piles (zqa (bVar 0) (zqa (bVar 1) (zqa (bVar 2) (aNil))))))
 (sSeq (sSet false 3 (zqb zqf (aNil)) [])
 (sSeq (zjt .zp (zqa (bVar 1) (zqa (bVar 2) (aNil))) [1,2] (asgT [4,5]) (sApp 3 (zzw .zp (zqa (bVar 4) (zqa (bVar 5) (aNil))) 2 (asgT [6,7]) zqr (zqb zzd (zqa (bVar 6) (zqa (bVar 7) (aNil))))) [4,5,4,5,4,5]))
 (zkp 3))))
def f_pile_below:Fn:=mkFn false 3 3 Xf_pile_below
def Xf_pile_above:Fs:=(sSeq (zxb (zqc f_must_be_two_piles (zqa (bVar 0) (zqa (bVar 1) (zqa (bVar 2) (aNil))))))
 (sSeq (sSet false 3 (zqb zqf (aNil)) [])
 (sSeq (zjt .zp (zqa (bVar 1) (zqa (bVar 2) (aNil))) [1,2] (asgT [4,5]) (sApp 3 (zzw .zp (zqa (bVar 4) (zqa (bVar 5) (aNil))) 2 (asgT [6,7]) zqr (zqb zkx (zqa (bVar 6) (zqa (bVar 7) (aNil))))) [4,5,4,5,4,5]))
 (zkp 3))))
def f_pile_above:Fn:=mkFn false 3 3 Xf_pile_above
def Xf_fewest_moved:Fs:=(sSeq (zxb (zqc f_must_be_two_piles (zqa (bVar 0) (zqa (bVar 1) (zqa (bVar 2) (aNil))))))
 (sRet (zqb zgw (zqa (zqp (zqc f_places_of (zqa (bVar 0) (aNil))) 2 (asgT [3,4]) zqr (zqb qe1 (zqa (bBin zxj (bBin zqe (bBin zqe (bVar 1) (bVar 3)) (bVar 4)) (bBin zqe (bBin zqe (bVar 2) (bVar 3)) (bVar 4))) (aNil)))) (aNil)))))
def f_fewest_moved:Fn:=mkFn false 3 0 Xf_fewest_moved
def Xf_steps_off:Fs:=(sSeq (sSet false 3 (zqb zqf (aNil)) [])
 (sSeq (zjt .rev (zqa (zqc f_places_of (zqa (bVar 0) (aNil))) (aNil)) [0] (asgT [4,5]) (sExt 3 (bBin zxc (zqb zqf (zqa (zqb zwn (zqa (bUn zxq (bC (.int 1))) (zqa (bVar 4) (zqa (bVar 5) (aNil))))) (aNil))) (bBin zxj (bBin zqe (bBin zqe (bVar 1) (bVar 4)) (bVar 5)) (bBin zqe (bBin zqe (bVar 2) (bVar 4)) (bVar 5)))) [4,5,1,4,5,2,4,5]))
 (zkp 3)))
def f_steps_off:Fn:=mkFn false 3 3 Xf_steps_off
def Xf_steps_on:Fs:=(sSeq (sSet false 3 (zqb zqf (aNil)) [])
 (sSeq (zvv (zqc f_places_of (zqa (bVar 0) (aNil))) [0] (asgT [4,5]) (sExt 3 (bBin zxc (zqb zqf (zqa (zqb zwn (zqa (bC (.int 1)) (zqa (bVar 4) (zqa (bVar 5) (aNil))))) (aNil))) (bBin zxj (bBin zqe (bBin zqe (bVar 2) (bVar 4)) (bVar 5)) (bBin zqe (bBin zqe (bVar 1) (bVar 4)) (bVar 5)))) [4,5,2,4,5,1,4,5]))
 (zkp 3)))
def f_steps_on:Fn:=mkFn false 3 3 Xf_steps_on
def Xf_road_to:Fs:=(sSeq (sSet false 3 (zqc f_pile_below (zqa (bVar 0) (zqa (bVar 1) (zqa (bVar 2) (aNil))))) [0,1,2])
 (sRet (bBin zqg (zqc f_steps_off (zqa (bVar 0) (zqa (bVar 1) (zqa (bVar 3) (aNil))))) (zqc f_steps_on (zqa (bVar 0) (zqa (bVar 3) (zqa (bVar 2) (aNil))))))))
def f_road_to:Fn:=mkFn false 3 1 Xf_road_to
def Xa_is_pile:Fs:=(sSeq (sIf (bT (bOrV (bUn zqu (bUn (zwk "list") (bVar 1))) (bBin (opEq true) (zqb zwe (zqa (bVar 1) (aNil))) (bBin zqe (bVar 0) (bC (.int 0)))))) (sRet (bC (.bl false))) sNil)
 (sSeq (zvv (bVar 1) [1] (asgN 2) (sSeq (sIf (bT (bOrV (bUn zqu (bUn (zwk "list") (bVar 2))) (bBin (opEq true) (zqb zwe (zqa (bVar 2) (aNil))) (bBin zqe (bVar 0) (bC (.int 1)))))) (sRet (bC (.bl false))) sNil)
 (sIf (bT (bBin (opEq true) (zqp (bVar 2) 1 (asgN 6) (bT (bOrV (bUn zqu (bUn (zwk "int") (bVar 6))) (bUn (zwk "bool") (bVar 6)))) (bVar 6)) (zqb zqf (aNil)))) (sRet (bC (.bl false))) sNil)))
 (sSeq (zwq zqy (zqa (bBin zqe (bVar 0) (bC (.int 0))) (aNil)) (asgN 3) (zwq zqy (zqa (bBin zqe (bVar 0) (bC (.int 1))) (aNil)) (asgN 4) (sSeq (sSet false 5 (bBin zqe (bVar 0) (bC (.int 2))) [0])
 (sSeq (sIf (bT (bBin (zxh λ i j=>decide (j < i)) (bVar 3) (bC (.int 0)))) (sSet false 5 (zqb zzd (zqa (bVar 5) (zqa (bBin zqe (bBin zqe (bVar 1) (bBin zxj (bVar 3) (bC (.int 1)))) (bVar 4)) (aNil)))) [5,1,3,4]) sNil)
 (sSeq (sIf (bT (bBin (zxh λ i j=>decide (j < i)) (bVar 4) (bC (.int 0)))) (sSet false 5 (zqb zzd (zqa (bVar 5) (zqa (bBin zqe (bBin zqe (bVar 1) (bVar 3)) (bBin zxj (bVar 4) (bC (.int 1)))) (aNil)))) [5,1,3,4]) sNil)
 (sIf (bT (bOrV (bBin (zxh λ i j=>decide (i < j)) (bBin zqe (bBin zqe (bVar 1) (bVar 3)) (bVar 4)) (bC (.int 0))) (bBin (zxh λ i j=>decide (j < i)) (bBin zqe (bBin zqe (bVar 1) (bVar 3)) (bVar 4)) (bVar 5)))) (sRet (bC (.bl false))) sNil))))))
 (sRet (bC (.bl true))))))
def a_is_pile:Fn:=mkFn false 2 4 Xa_is_pile
def Xa_near:Fs:=(sSeq (sSet false 3 (zqd a_take 0 (zqa (bC (.int 4)) (aNil))) [])
 (sSeq (sIf (bT (bBin (opEq false) (bVar 3) (bC (.int 0)))) (sRet (zqp (bVar 2) 1 (asgN 10) zqr (zqb zvb (zqa (bVar 10) (aNil))))) sNil)
 (sSeq (sIf (bT (bBin (zxh λ i j=>decide (i < j)) (bVar 3) (bC (.int 3)))) (sRet (zqd a_pile 0 (zqa (bVar 1) (aNil)))) sNil)
 (sSeq (sSet false 4 (zqp (bVar 2) 1 (asgN 10) zqr (zqb zvb (zqa (bVar 10) (aNil)))) [2,2])
 (sSeq (zwq zqy (zqa (bBin zqg (bC (.int 1)) (zqd a_take 0 (zqa (bC (.int 4)) (aNil)))) (aNil)) (asgN 5) (sSeq (sSet false 6 (zqd a_take 0 (zqa (bBin zqe (bVar 1) (bC (.int 0))) (aNil))) [1])
 (sSeq (sSet false 7 (zqd a_take 0 (zqa (bBin zqe (bVar 1) (bC (.int 1))) (aNil))) [1])
 (sSeq (sSet false 8 (bBin zqe (bVar 1) (bC (.int 2))) [1])
 (sSeq (sIf (bT (bBin (zxh λ i j=>decide (j < i)) (bVar 6) (bC (.int 0)))) (sSet false 8 (zqb zzd (zqa (bVar 8) (zqa (bBin zqe (bBin zqe (bVar 4) (bBin zxj (bVar 6) (bC (.int 1)))) (bVar 7)) (aNil)))) [8,4,6,7]) sNil)
 (sSeq (sIf (bT (bBin (zxh λ i j=>decide (j < i)) (bVar 7) (bC (.int 0)))) (sSet false 8 (zqb zzd (zqa (bVar 8) (zqa (bBin zqe (bBin zqe (bVar 4) (bVar 6)) (bBin zxj (bVar 7) (bC (.int 1)))) (aNil)))) [8,4,6,7]) sNil)
 (sSeq (sSet false 9 (zqb zkx (zqa (bBin zqg (bBin zqg (zqb zqf (zqa (bC (.int 0)) (aNil))) (zqp (bSl (bVar 4) (some (bBin zqg (bVar 6) (bC (.int 1)))) (some (bBin zqg (bVar 6) (bC (.int 2))))) 1 (asgN 10) zqr (bBin zqe (bVar 10) (bVar 7)))) (bSl (bBin zqe (bVar 4) (bVar 6)) (some (bBin zqg (bVar 7) (bC (.int 1)))) (some (bBin zqg (bVar 7) (bC (.int 2)))))) (aNil))) [4,4,7,4,6])
 (zgm 4 (bVar 6) (bVar 7) (bBin zqg (bVar 9) (zqd a_take 0 (zqa (bBin zqg (bBin zxj (bVar 8) (bVar 9)) (bC (.int 1))) (aNil))))))))))))
 (zkp 4))))))
def a_near:Fn:=mkFn true 3 7 Xa_near
def Xf_lies_below:Fs:=(sSeq (zxb (zqc f_must_be_two_piles (zqa (bVar 0) (zqa (bVar 1) (zqa (bVar 2) (aNil))))))
 (sRet (zqb zjb (zqa (zqp (zqc f_places_of (zqa (bVar 0) (aNil))) 2 (asgT [3,4]) zqr (bBin (zxh λ i j=>decide (i<=j)) (bBin zqe (bBin zqe (bVar 1) (bVar 3)) (bVar 4)) (bBin zqe (bBin zqe (bVar 2) (bVar 3)) (bVar 4)))) (aNil)))))
def f_lies_below:Fn:=mkFn false 3 0 Xf_lies_below
def Xf_copy_of:Fs:=(sRet (zqp (bVar 0) 1 (asgN 1) zqr (zqb zvb (zqa (bVar 1) (aNil)))))
def f_copy_of:Fn:=mkFn false 1 0 Xf_copy_of
theorem sz:(1000000:Nat)<=va2:=by decide
theorem qgu (i:Int):f_is_whole_number [.int i]=.ok (.bl true,om,.non):=by kernel_rfl
def boxB (a b c:Int):Bool:=decide (1<=a) && (decide (1<=b) && decide (1<=c))
theorem qfi (a b c:Int):f_is_box [bx a b c]=.ok (.bl (boxB a b c),om,.non):=by
 have e0:∀ x∈[a,b,c],(zvh (zqc f_is_whole_number (zqa (bVar 1) (aNil))) (bBin (zxh λ i j=>decide (j<=i)) (bVar 1) (bC (.int 1)))) ([some (bx a b c,0)]++[some (.int x,om)])=.ok (.bl (decide (1<=x)),om,[some (bx a b c,0)]++[some (.int x,om)]):=λ x _=>by kernel_rfl
 have e1:=qch (n:=1) (f:=bVar 0) (ρ:=[some (bx a b c,0)]) (enc:=PV.int) (q:=λ x=>.bl (decide (1<=x))) (d:=0) [a,b,c] rfl rfl e0 (by have:=sz;show 3<=va2;omega)
 refine zwr rfl (ρ':=[some (bx a b c,0)]) ?_
 show Xf_is_box [some (bx a b c,0)]=_
 refine (zwd (ρ1:=[some (bx a b c,0)]) (by kernel_rfl)).trans (zwg ?_)
 rw [all_ok e1]
 show Rz.ok (PV.bl (decide (1<=a) && (decide (1<=b) && (decide (1<=c) && true))),om,_)=_
 rw [jk8]
 rfl
theorem zky {a b c:Int} (h:boxB a b c=true):f_must_be_box [bx a b c]=.ok (.non,om,.non):=by
 refine qlt rfl (ρ':=[some (bx a b c,0)]) ?_
 have hb:=qfi a b c
 rw [h] at hb
 exact if_f (f:=sExc 1) (g:=sNil) (t_ok (zzj (zqj (F:=f_is_box) (fa:=zqa (bVar 0) aNil) (ρ:=[some (bx a b c,0)]) (xs:=[(bx a b c,0)]) rfl hb)))
def rowB (xs:List Int) (c h:Int):Bool:=decide ((xs.length:Int)=c) && xs.all λ x=>decide (0<=x) && decide (x<=h)
theorem qnq (xs:List Int) (c h:Int) (hl:xs.length<=1000):f_is_row_of_heights [il xs,.int c,.int h]=.ok (.bl (rowB xs c h),om,.non):=by
 have e0:∀ x∈xs,(zvh (zqc f_is_whole_number (zqa (bVar 3) (aNil))) (zkg (λ i j=>decide (i<=j)) (λ i j=>decide (i<=j)) (bC (.int 0)) (bVar 3) (bVar 2))) ([some (il xs,0),some (.int c,om),some (.int h,om)]++[some (.int x,om)])=.ok (.bl (decide (0<=x) && decide (x<=h)),om,[some (il xs,0),some (.int c,om),some (.int h,om)]++[some (.int x,om)]):=λ x _=>
  zjp (a:=true) (zqj (xs:=[(.int x,om)]) rfl (qgu x)) (λ _=>qcm (i:=0) (j:=x) (k:=h) rfl rfl rfl) rfl
 have e1:=zzf (n:=3) (f:=bVar 0) (ρ:=[some (il xs,0),some (.int c,om),some (.int h,om)]) (enc:=PV.int) (q:=λ x=>.bl (decide (0<=x) && decide (x<=h))) (d:=0) xs rfl rfl e0 (by have:=sz;omega)
 have t:bT (bOrV (bUn zqu (bUn (zwk "list") (bVar 0))) (bBin (opEq true) (zqb zwe (zqa (bVar 0) (aNil))) (bVar 1))) [some (il xs,0),some (.int c,om),some (.int h,om)]=.ok (!decide ((xs.length:Int)=c),[some (il xs,0),some (.int c,om),some (.int h,om)]):=by
  refine t_ok (d:=om) ((zvw (a:=false) rfl (λ _=>zyp (qfb (xs:=xs) (d:=0) rfl) (j:=c) rfl) rfl).trans ?_)
  rw [ji1,jj3]
 refine zwr rfl (ρ':=[some (il xs,0),some (.int c,om),some (.int h,om)]) ?_
 show Xf_is_row_of_heights [some (il xs,0),some (.int c,om),some (.int h,om)]=_
 unfold rowB
 by_cases hc:(xs.length:Int)=c
 ·rw [decide_eq_true hc] at t ⊢
  refine (zwd t).trans (zwg ?_)
  rw [all_ok e1]
  rfl
 ·rw [decide_eq_false hc] at t ⊢
  exact zxx ((if_t t).trans rfl)
def nrB (xs:List Int):Bool:=(jc3 ((xs.length:Int) - 1).toNat).all λ k=>decide (xs.getD (k + 1) 0<=xs.getD k 0)
theorem qbx (xs:List Int) (hl:xs.length<=1000):f_never_rises [il xs]=.ok (.bl (nrB xs),om,.non):=by
 have e0:∀ k,k < ((xs.length:Int) - 1).toNat->(bBin (zxh λ i j=>decide (i<=j)) (bBin zqe (bVar 0) (bVar 1)) (bBin zqe (bVar 0) (bBin zxj (bVar 1) (bC (.int 1))))) ([some (il xs,0)]++[some (.int (1 + (k:Int)),om)])=.ok (.bl (decide (xs.getD (k + 1) 0<=xs.getD k 0)),om,[some (il xs,0)]++[some (.int (1 + (k:Int)),om)]):=λ k hk=>by
  refine zpo (i:=xs.getD (k + 1) 0) (j:=xs.getD k 0) (zyn (xs:=xs) (k:=1 + (k:Int)) rfl rfl (zwt (by omega) ?_)) (zyn (xs:=xs) (k:=1 + (k:Int) - 1) rfl rfl (zwt (by omega) ?_))
  ·rw [show (1 + (k:Int)).toNat=k + 1 by omega,jb3 (show k + 1 < xs.length by omega),ja2,jb3 (show k + 1 < xs.length by omega)];rfl
  ·rw [show (1 + (k:Int) - 1).toNat=k by omega,jb3 (show k < xs.length by omega),ja2,jb3 (show k < xs.length by omega)];rfl
 have e1:=zbh (n:=1) (en:=zpj) (ρ:=[some (il xs,0)]) (q:=λ k=>.bl (decide (xs.getD (k + 1) 0<=xs.getD k 0))) (zqm (f:=bC (.int 1)) (d:=om) (x:=.int 1) rfl (zqt (qfb (fa:=zqa (bVar 0) aNil) (xs:=xs) (d:=0) rfl))) (qh5 (by decide) (by decide) (by omega) (by omega)) rfl e0 (by have:=sz;omega)
 exact zwr rfl (ρ':=[some (il xs,0)]) (zwg (all_ok e1))
def zpn (t:List (List Int)) (j:Nat):List Int:=t.map λ r=>r.getD j 0
theorem zwv {xs:List Int}{j:Nat} (h:j < xs.length):xs[j]?=some (xs.getD j 0):=by
 rw [ja2,jb3 h];rfl
theorem zzn {xs:List (List Int)}{j:Nat} (h:j < xs.length):xs[j]?=some (xs.getD j []):=by
 rw [ja2,jb3 h];rfl
theorem qf7 (t:List (List Int)) (j:Nat) (hl:t.length<=1000) (hr:∀ r∈t,j < r.length):f_column_of [tb t,.int (j:Int)]=.ok (il (zpn t j),om,.non):=by
 have e0:∀ r∈t,(bBin zqe (bVar 2) (bVar 1)) ([some (tb t,0),some (.int (j:Int),om)]++[some (il r,0)])=.ok (.int (r.getD j 0),om,[some (tb t,0),some (.int (j:Int),om)]++[some (il r,0)]):=λ r hm=>
  zyn (xs:=r) (k:=(j:Int)) rfl rfl (zwt (by omega) (zwv (hr r hm)))
 have e1:=zzf (n:=2) (f:=bVar 0) (ρ:=[some (tb t,0),some (.int (j:Int),om)]) (enc:=il) (q:=λ r=>.int (r.getD j 0)) (d:=0) t rfl rfl e0 (by have:=sz;omega)
 refine zwr rfl (ρ':=[some (tb t,0),some (.int (j:Int),om)]) ((zwg e1).trans ?_)
 unfold zpn il
 rw [jd9]
 rfl
def Tab (a b:Nat) (t:List (List Int)):Prop:=t.length=a/\∀ r∈t,r.length=b
def qaq (a b:Nat) (c:Int) (t:List (List Int)):Bool:=(t.all λ r=>rowB r b c) && ((t.all nrB) && ((jc3 b).all λ j=>nrB (zpn t j)))
theorem zje {a b:Nat}{c:Int}{t:List (List Int)} (ht:Tab a b t) (ha:1<=a/\a<=100) (hb:1<=b/\b<=100) (hc:1<=c):f_is_pile [bx a b c,tb t]=.ok (.bl (qaq a b c t),om,.non):=by
 let R0:Rho:=[some (bx a b c,0),some (tb t,0),none,none,none]
 let R1:Rho:=[some (bx a b c,0),some (tb t,0),some (.int a,om),some (.int b,om),some (.int c,om)]
 have hbx:boxB a b c=true:=by unfold boxB;rw [decide_eq_true (by omega),decide_eq_true (by omega),decide_eq_true hc];rfl
 have hs:=sz
 have l1:=ht.1
 have s1:zxb (zqc f_must_be_box (zqa (bVar 0) (aNil))) R0=.nx R0:=zzp (zqj (xs:=[(bx a b c,0)]) rfl (zky hbx))
 have s2:sUnp (asgT [2,3,4]) (bVar 0) [0] R0=.nx R1:=by kernel_rfl
 have t3:bT (bOrV (bUn zqu (bUn (zwk "list") (bVar 1))) (bBin (opEq true) (zqb zwe (zqa (bVar 1) (aNil))) (bVar 2))) R1=.ok (false,R1):=by
  refine t_ok (d:=om) ((zvw (a:=false) rfl (λ _=>zyp (qi9 (t:=t) (d:=0) rfl) (j:=(a:Int)) rfl) rfl).trans ?_)
  rw [l1];simp
 have e4:∀ r∈t,(zqc f_is_row_of_heights (zqa (bVar 5) (zqa (bVar 3) (zqa (bVar 4) (aNil))))) (R1++[some (il r,0)])=.ok (.bl (rowB r b c),om,R1++[some (il r,0)]):=λ r hr=>
  zqj (xs:=[(il r,0),(.int b,om),(.int c,om)]) rfl (qnq r b c (by rw [ht.2 r hr];omega))
 have t4:=t_ok (zzj (all_ok (zzf (n:=5) (f:=bVar 1) (ρ:=R1) (enc:=il) (q:=λ r=>.bl (rowB r b c)) (d:=0) t rfl rfl e4 (by omega))))
 have e5:∀ r∈t,(zqc f_never_rises (zqa (bVar 5) (aNil))) (R1++[some (il r,0)])=.ok (.bl (nrB r),om,R1++[some (il r,0)]):=λ r hr=>
  zqj (xs:=[(il r,0)]) rfl (qbx r (by rw [ht.2 r hr];omega))
 have t5:=t_ok (zzj (all_ok (zzf (n:=5) (f:=bVar 1) (ρ:=R1) (enc:=il) (q:=λ r=>.bl (nrB r)) (d:=0) t rfl rfl e5 (by omega))))
 have e6:∀ k,k < ((b:Int) - 0).toNat->(zqc f_never_rises (zqa (zqc f_column_of (zqa (bVar 1) (zqa (bVar 5) (aNil)))) (aNil))) (R1++[some (.int (0 + (k:Int)),om)])=.ok (.bl (nrB (zpn t k)),om,R1++[some (.int (0 + (k:Int)),om)]):=λ k hk=>by
  have e:=qf7 t k (by omega) λ r hr=>by rw [ht.2 r hr];omega
  rw [ji7]
  exact zqj (xs:=[(il (zpn t k),om)]) (zqt (zqj (xs:=[(tb t,0),(.int (k:Int),om)]) rfl e)) (qbx _ (by unfold zpn;rw [ja1];omega))
 have e7:=zbh (n:=5) (en:=zqy) (fa:=zqa (bVar 3) aNil) (ρ:=R1) (q:=λ k=>.bl (nrB (zpn t k))) (as:=[(.int (b:Int),om)]) rfl (zxw (by omega) (by omega)) rfl e6 (by omega)
 rw [show ((b:Int) - 0).toNat=b by omega] at e7
 refine zwr rfl (ρ':=R1) ?_
 show Xf_is_pile R0=_
 unfold qaq
 refine (zqi s1).trans ((zqi s2).trans ((zwd t3).trans ?_))
 cases h1:t.all λ r=>rowB r b c with
 | false=>
  rw [h1] at t4
  exact zxx ((if_t t4).trans rfl)
 | true=>
  rw [h1] at t4
  refine (zwd t4).trans ?_
  cases h2:t.all nrB with
  | false=>
   have h2':t.all (λ r=>nrB r)=false:=h2
   rw [h2'] at t5
   exact zxx ((if_t t5).trans rfl)
  | true=>
   have h2':t.all (λ r=>nrB r)=true:=h2
   rw [h2'] at t5
   exact (zwd t5).trans (zwg (all_ok e7))
theorem zwx {a b:Nat}{c:Int}{t:List (List Int)} (ht:Tab a b t) (ha:1<=a/\a<=100) (hb:1<=b/\b<=100) (hc:1<=c) (h:qaq a b c t=true):f_must_be_pile [bx a b c,tb t]=.ok (.non,om,.non):=by
 refine qlt rfl (ρ':=[some (bx a b c,0),some (tb t,0)]) ?_
 have hp:=zje ht ha hb hc
 rw [h] at hp
 exact if_f (f:=sExc 2) (g:=sNil) (t_ok (zzj (zqj (F:=f_is_pile) (fa:=zqa (bVar 0) (zqa (bVar 1) aNil)) (ρ:=[some (bx a b c,0),some (tb t,0)]) (xs:=[(bx a b c,0),(tb t,0)]) rfl hp)))
theorem qdn (t:List (List Int)) (r:List Int):PV.lst ((t.map il)++[il r])=tb (t++[r]):=by
 unfold tb
 rw [je3]
 rfl
def okE:Nat->PV->Bool
 | 0,_=>false
 | n + 1,x=>match x with
  | .lst xs=>decide (xs.length<=1000) && xs.all (okE n)
  | .tup xs=>decide (xs.length<=1000) && xs.all (okE n)
  | .scr _=>false
  | .exn _=>false
  | .dct _=>false
  | .dko=>false
  | _=>true
theorem zvj {n:Nat}{xs:List PV} (h:okE (n + 1) (.lst xs)=true):xs.length<=1000/\∀ x∈xs,okE n x=true:=by
 unfold okE at h
 dsimp only at h
 rw [ja4,jc4] at h
 exact ⟨of_decide_eq_true h.1,h.2⟩
theorem zfe {n:Nat}{xs:List PV} (h:okE (n + 1) (.tup xs)=true):xs.length<=1000/\∀ x∈xs,okE n x=true:=by
 unfold okE at h
 dsimp only at h
 rw [ja4,jc4] at h
 exact ⟨of_decide_eq_true h.1,h.2⟩
theorem zvt {n:Nat}{xs:List PV} (hl:xs.length<=1000) (h:∀ x∈xs,okE n x=true):okE (n + 1) (.lst xs)=true:=by
 unfold okE
 dsimp only
 rw [ja4,jc4]
 exact ⟨decide_eq_true hl,h⟩
theorem qas {n:Nat}{xs:List PV} (hl:xs.length<=1000) (h:∀ x∈xs,okE n x=true):okE (n + 1) (.tup xs)=true:=by
 unfold okE
 dsimp only
 rw [ja4,jc4]
 exact ⟨decide_eq_true hl,h⟩
theorem zff:∀ (n:Nat) (x:PV),okE n x=true->okE (n + 1) x=true
 | 0,_,h=>by cases h
 | n + 1,x,h=>by
  cases x with
  | lst xs=>exact zvt (zvj h).1 λ x hx=>zff n x ((zvj h).2 x hx)
  | tup xs=>exact qas (zfe h).1 λ x hx=>zff n x ((zfe h).2 x hx)
  | scr _=>cases h
  | exn _=>cases h
  | dct _=>cases h
  | dko=>cases h
  | _=>rfl
theorem qi8 {n m:Nat}{x:PV} (h:okE n x=true) (hl:n<=m):okE m x=true:=by
 induction hl with
 | refl=>exact h
 | step _ ih=>exact zff _ _ ih
def zvx:PV->Bool
 | .int _=>true
 | _=>false
theorem zgf {n:Nat} (x:PV) (h:okE n x=true):f_is_whole_number [x]=.ok (.bl (zvx x),om,.non):=by
 cases n with
 | zero=>cases h
 | succ n=>
  cases x with
  | non=>kernel_rfl
  | bl b=>cases b <;> kernel_rfl
  | int i=>kernel_rfl
  | str s=>kernel_rfl
  | lst xs=>kernel_rfl
  | tup xs=>kernel_rfl
  | emp=>kernel_rfl
  | dko=>cases h
  | scr _=>cases h
  | exn _=>cases h
  | dct _=>cases h
def zjs:PV->Bool
 | .int i=>decide (1<=i)
 | _=>false
def boxV:PV->Bool
 | .tup xs=>decide (xs.length=3) && xs.all zjs
 | _=>false
theorem qg6 {n:Nat}{y x:PV} (h:okE n x=true):(zvh (zqc f_is_whole_number (zqa (bVar 1) (aNil))) (bBin (zxh λ i j=>decide (j<=i)) (bVar 1) (bC (.int 1)))) ([some (y,dv y)]++[some (x,dv x)])=.ok (.bl (zjs x),om,[some (y,dv y)]++[some (x,dv x)]):=by
 have w:=zqj (F:=f_is_whole_number) (fa:=zqa (bVar 1) aNil) (ρ:=[some (y,dv y)]++[some (x,dv x)]) (xs:=[(x,dv x)]) rfl (zgf x h)
 cases n with
 | zero=>cases h
 | succ n=>
  cases x with
  | int i=>exact zjp (a:=true) w (λ _=>zpo (i:=i) (j:=1) rfl rfl) rfl
  | scr _=>cases h
  | exn _=>cases h
  | dct _=>cases h
  | _=>exact zjp (a:=false) (b:=false) w (λ e=>nomatch e) rfl
theorem qcg {n:Nat}{f elt:Fx}{ρ ρ1:Rho}{d:Nat}{g:PV->Bool} (xs:List PV) (hf:f ρ=.ok (.lst xs,d,ρ1)) (hn:ρ1.length=n) (he:∀ x∈xs,elt (ρ1++[some (x,dv x)])=.ok (.bl (g x),om,ρ1++[some (x,dv x)])) (hl:xs.length<=1000):zqb zjb (zqa (zqp f 1 (asgN n) zqr elt) aNil) ρ=.ok (.bl (xs.all g),om,ρ1):=by
 have z:=sz
 exact all_ok (zzf (enc:=λ x=>x) (q:=λ x=>.bl (g x)) xs (by rw [jq9];exact hf) hn he (by omega))
theorem qf4 {n:Nat}{f elt:Fx}{ρ ρ1:Rho}{d:Nat}{g:PV->Bool} (xs:List PV) (hf:f ρ=.ok (.tup xs,d,ρ1)) (hn:ρ1.length=n) (he:∀ x∈xs,elt (ρ1++[some (x,dv x)])=.ok (.bl (g x),om,ρ1++[some (x,dv x)])) (hl:xs.length<=1000):zqb zjb (zqa (zqp f 1 (asgN n) zqr elt) aNil) ρ=.ok (.bl (xs.all g),om,ρ1):=by
 have z:=sz
 exact all_ok (qch (enc:=λ x=>x) (q:=λ x=>.bl (g x)) xs (by rw [jq9];exact hf) hn he (by omega))
theorem ql5 {n:Nat}{y:PV} (h:okE n y=true):f_is_box [y]=.ok (.bl (boxV y),om,.non):=by
 have z:=sz
 refine zwr rfl (ρ':=[some (y,dv y)]) ?_
 show Xf_is_box [some (y,dv y)]=_
 cases n with
 | zero=>cases h
 | succ n=>
  cases y with
  | tup xs=>
   have t:bT (bOrV (bUn zqu (bUn (zwk "tuple") (bVar 0))) (bBin (opEq true) (zqb zwe (zqa (bVar 0) (aNil))) (bC (.int 3)))) [some (.tup xs,0)]=.ok (!decide (xs.length=3),[some (.tup xs,0)]):=by
    refine t_ok (d:=om) ((zvw (a:=false) rfl (λ _=>zyp (i:=(xs.length:Int)) (j:=3) rfl rfl) rfl).trans ?_)
    rw [ji1,jj3]
    have e:decide ((xs.length:Int)=3)=decide (xs.length=3):=decide_eq_decide.mpr (by omega)
    rw [e]
   dsimp only [boxV]
   by_cases hc:xs.length=3
   ·rw [decide_eq_true hc] at t ⊢
    refine (zwd t).trans (zwg ?_)
    exact qf4 (g:=zjs) xs (d:=0) rfl rfl (λ x hx=>qg6 ((zfe h).2 x hx)) (zfe h).1
   ·rw [decide_eq_false hc] at t ⊢
    exact zxx ((if_t t).trans rfl)
  | scr _=>cases h
  | exn _=>cases h
  | dct _=>cases h
  | _=>exact zxx ((if_t (t_ok (d:=om) (zvw (a:=true) (b:=false) rfl (λ e=>nomatch e) rfl))).trans rfl)
def elB (h:Int):PV->Bool
 | .int i=>decide (0<=i) && decide (i<=h)
 | _=>false
def rowV (c h:Int):PV->Bool
 | .lst xs=>decide ((xs.length:Int)=c) && xs.all (elB h)
 | _=>false
theorem qpb {n:Nat}{y x:PV}{c h:Int} (hx:okE n x=true):(zvh (zqc f_is_whole_number (zqa (bVar 3) (aNil))) (zkg (λ i j=>decide (i<=j)) (λ i j=>decide (i<=j)) (bC (.int 0)) (bVar 3) (bVar 2))) ([some (y,dv y),some (.int c,om),some (.int h,om)]++[some (x,dv x)])=.ok (.bl (elB h x),om,[some (y,dv y),some (.int c,om),some (.int h,om)]++[some (x,dv x)]):=by
 have w:=zqj (F:=f_is_whole_number) (fa:=zqa (bVar 3) aNil) (ρ:=[some (y,dv y),some (.int c,om),some (.int h,om)]++[some (x,dv x)]) (xs:=[(x,dv x)]) rfl (zgf x hx)
 cases n with
 | zero=>cases hx
 | succ n=>
  cases x with
  | int i=>exact zjp (a:=true) w (λ _=>qcm (i:=0) (j:=i) (k:=h) rfl rfl rfl) rfl
  | scr _=>cases hx
  | exn _=>cases hx
  | dct _=>cases hx
  | _=>exact zjp (a:=false) (b:=false) w (λ e=>nomatch e) rfl
theorem qki {n:Nat}{y:PV}{c h:Int} (hy:okE n y=true):f_is_row_of_heights [y,.int c,.int h]=.ok (.bl (rowV c h y),om,.non):=by
 refine zwr rfl (ρ':=[some (y,dv y),some (.int c,om),some (.int h,om)]) ?_
 show Xf_is_row_of_heights [some (y,dv y),some (.int c,om),some (.int h,om)]=_
 cases n with
 | zero=>cases hy
 | succ n=>
  cases y with
  | lst xs=>
   have t:bT (bOrV (bUn zqu (bUn (zwk "list") (bVar 0))) (bBin (opEq true) (zqb zwe (zqa (bVar 0) (aNil))) (bVar 1))) [some (.lst xs,0),some (.int c,om),some (.int h,om)]=.ok (!decide ((xs.length:Int)=c),[some (.lst xs,0),some (.int c,om),some (.int h,om)]):=by
    refine t_ok (d:=om) ((zvw (a:=false) rfl (λ _=>zyp (i:=(xs.length:Int)) (j:=c) rfl rfl) rfl).trans ?_)
    rw [ji1,jj3]
   dsimp only [rowV]
   by_cases hc:(xs.length:Int)=c
   ·rw [decide_eq_true hc] at t ⊢
    refine (zwd t).trans (zwg ?_)
    exact qcg (g:=elB h) xs (d:=0) rfl rfl (λ x hx=>qpb ((zvj hy).2 x hx)) (zvj hy).1
   ·rw [decide_eq_false hc] at t ⊢
    exact zxx ((if_t t).trans rfl)
  | scr _=>cases hy
  | exn _=>cases hy
  | dct _=>cases hy
  | _=>exact zxx ((if_t (t_ok (d:=om) (zvw (a:=true) (b:=false) rfl (λ e=>nomatch e) rfl))).trans rfl)
def preV (a b c:Int):PV->Bool
 | .lst xs=>decide ((xs.length:Int)=a) && xs.all (rowV b c)
 | _=>false
theorem zgs {n:Nat}{x:PV}{a b c:Int} (hb:boxB a b c=true) (hx:okE n x=true) (h:preV a b c x=false):f_is_pile [bx a b c,x]=.ok (.bl false,om,.non):=by
 let R:Rho:=[some (bx a b c,0),some (x,dv x),some (.int a,om),some (.int b,om),some (.int c,om)]
 refine zwr rfl (ρ':=R) ?_
 show Xf_is_pile [some (bx a b c,0),some (x,dv x),none,none,none]=_
 refine (zqi (zzp (zqj (xs:=[(bx a b c,0)]) rfl (zky hb)))).trans ?_
 refine (zqi (ρ1:=R) rfl).trans ?_
 cases n with
 | zero=>cases hx
 | succ n=>
  cases x with
  | lst xs=>
   have t:bT (bOrV (bUn zqu (bUn (zwk "list") (bVar 1))) (bBin (opEq true) (zqb zwe (zqa (bVar 1) (aNil))) (bVar 2))) R=.ok (!decide ((xs.length:Int)=a),R):=by
    refine t_ok (d:=om) ((zvw (a:=false) rfl (λ _=>zyp (i:=(xs.length:Int)) (j:=a) rfl rfl) rfl).trans ?_)
    rw [ji1,jj3]
   dsimp only [preV] at h
   by_cases hc:(xs.length:Int)=a
   ·rw [decide_eq_true hc] at t h
    refine (zwd t).trans ?_
    have e:=qcg (g:=rowV b c) (f:=bVar 1) (elt:=zqc f_is_row_of_heights (zqa (bVar 5) (zqa (bVar 3) (zqa (bVar 4) (aNil))))) (ρ:=R) xs (d:=0) rfl rfl (λ y hy=>zqj (xs:=[(y,dv y),(.int b,om),(.int c,om)]) rfl (qki ((zvj hx).2 y hy))) (zvj hx).1
    rw [show xs.all (rowV b c)=false from h] at e
    exact zxx ((if_t (t_ok (zzj e))).trans rfl)
   ·rw [decide_eq_false hc] at t
    exact zxx ((if_t t).trans rfl)
  | scr _=>cases hx
  | exn _=>cases hx
  | dct _=>cases hx
  | _=>exact zxx ((if_t (t_ok (d:=om) (zvw (a:=true) (b:=false) rfl (λ e=>nomatch e) rfl))).trans rfl)
def g (t:List (List Int)) (i j:Nat):Int:=(t.getD i []).getD j 0
structure Pile (a b:Nat) (c:Int) (t:List (List Int)):Prop where
 tab:Tab a b t
 lo:∀ i j,i < a->j < b->0<=g t i j
 hi:∀ i j,i < a->j < b->g t i j<=c
 dn:∀ i j,i + 1 < a->j < b->g t (i + 1) j<=g t i j
 rt:∀ i j,i < a->j + 1 < b->g t i (j + 1)<=g t i j
theorem zmy {t:List (List Int)}{i:Nat} (h:i < t.length):t.getD i []∈t:=by
 rw [ja2,jb3 h]
 exact je2 h
theorem Tab.row {a b:Nat}{t:List (List Int)} (h:Tab a b t) {i:Nat} (hi:i < a):(t.getD i []).length=b:=h.2 _ (zmy (by rw [h.1];exact hi))
theorem qb7 {xs:List Int}{i:Nat} (h:i < xs.length):xs.getD i 0∈xs:=by
 rw [ja2,jb3 h]
 exact je2 h
theorem qby {xs:List Int}{x:Int} (h:x∈xs):∃ i,i < xs.length/\xs.getD i 0=x:=by
 obtain ⟨i,hi,e⟩:=jf8 h
 exact ⟨i,hi,by rw [ja2,jb3 hi];exact e⟩
theorem zym {t:List (List Int)}{r:List Int} (h:r∈t):∃ i,i < t.length/\t.getD i []=r:=by
 obtain ⟨i,hi,e⟩:=jf8 h
 exact ⟨i,hi,by rw [ja2,jb3 hi];exact e⟩
theorem zfo {xs ys:List Int} (hl:xs.length=ys.length) (h:∀ i,i < xs.length->xs.getD i 0=ys.getD i 0):xs=ys:=by
 refine jk7 hl λ i h1 h2=>?_
 have:=h i h1
 rw [ja2,jb3 h1,ja2,jb3 h2] at this
 exact this
theorem zzh {a b:Nat}{t u:List (List Int)} (ht:Tab a b t) (hu:Tab a b u) (h:∀ i j,i < a->j < b->g t i j=g u i j):t=u:=by
 refine jk7 (by rw [ht.1,hu.1]) λ i h1 h2=>?_
 have hi:i < a:=by rw [<- ht.1];exact h1
 have e1:t.getD i []=t[i]:=by rw [ja2,jb3 h1];rfl
 have e2:u.getD i []=u[i]:=by rw [ja2,jb3 h2];rfl
 rw [<- e1,<- e2]
 refine zfo (by rw [ht.row hi,hu.row hi]) λ j hj=>h i j hi (by rw [<- ht.row hi];exact hj)
theorem qbn {xs:List Int}{c h:Int}:rowB xs c h=true↔(xs.length:Int)=c/\∀ x∈xs,0<=x/\x<=h:=by
 unfold rowB
 rw [ja4,decide_eq_true_iff,jc4]
 constructor
 ·rintro ⟨h1,h2⟩
  refine ⟨h1,λ x hx=>?_⟩
  have:=h2 x hx
  rw [ja4,decide_eq_true_iff,decide_eq_true_iff] at this
  exact this
 ·rintro ⟨h1,h2⟩
  refine ⟨h1,λ x hx=>?_⟩
  rw [ja4,decide_eq_true_iff,decide_eq_true_iff]
  exact h2 x hx
theorem zfh {xs:List Int}:nrB xs=true↔∀ k,k + 1 < xs.length->xs.getD (k + 1) 0<=xs.getD k 0:=by
 unfold nrB
 rw [jc4]
 constructor
 ·intro h k hk
  exact of_decide_eq_true (h k (jd3.mpr (by omega)))
 ·intro h k hk
  have:=jd3.mp hk
  exact decide_eq_true (h k (by omega))
theorem zfz {t:List (List Int)}{i j:Nat} (h:i < t.length):(zpn t j).getD i 0=g t i j:=by
 unfold zpn g
 rw [ja2,jd1,jb3 h,ja2 (l:=t),jb3 h]
 rfl
theorem qf8 {t:List (List Int)}{j:Nat}:(zpn t j).length=t.length:=by unfold zpn;rw [ja1]
theorem zzi {a b:Nat}{c:Int}{t:List (List Int)} (ht:Tab a b t):qaq a b c t=true↔Pile a b c t:=by
 unfold qaq
 rw [ja4,ja4,jc4,jc4,jc4]
 constructor
 ·rintro ⟨h1,h2,h3⟩
  have q:∀ i j,i < a->j < b->0<=g t i j/\g t i j<=c:=λ i j hi hj=>(qbn.mp (h1 _ (zmy (by rw [ht.1];exact hi)))).2 _ (qb7 (by rw [ht.row hi];exact hj))
  refine ⟨ht,λ i j hi hj=>(q i j hi hj).1,λ i j hi hj=>(q i j hi hj).2,λ i j hi hj=>?_,λ i j hi hj=>?_⟩
  ·have:=zfh.mp (h3 j (jd3.mpr hj)) i (by rw [qf8,ht.1];exact hi)
   rw [zfz (by rw [ht.1];exact hi),zfz (by rw [ht.1];omega)] at this
   exact this
  ·exact zfh.mp (h2 _ (zmy (by rw [ht.1];exact hi))) j (by rw [ht.row hi];exact hj)
 ·intro p
  refine ⟨λ r hr=>qbn.mpr ⟨by rw [ht.2 r hr],λ x hx=>?_⟩,λ r hr=>zfh.mpr λ k hk=>?_,λ j hj=>zfh.mpr λ k hk=>?_⟩
  ·obtain ⟨i,hi,rfl⟩:=zym hr
   obtain ⟨j,hj,rfl⟩:=qby hx
   have hi':i < a:=by rw [<- ht.1];exact hi
   rw [ht.row hi'] at hj
   exact ⟨p.lo i j hi' hj,p.hi i j hi' hj⟩
  ·obtain ⟨i,hi,rfl⟩:=zym hr
   have hi':i < a:=by rw [<- ht.1];exact hi
   rw [ht.row hi'] at hk
   exact p.rt i k hi' hk
  ·rw [qf8,ht.1] at hk
   rw [zfz (by rw [ht.1];exact hk),zfz (by rw [ht.1];omega)]
   exact p.dn k j hk (jd3.mp hj)
def mkT (a b:Nat) (f:Nat->Nat->Int):List (List Int):=(jc3 a).map λ i=>(jc3 b).map λ j=>f i j
theorem qk7 {a b:Nat}{f:Nat->Nat->Int}:Tab a b (mkT a b f):=by
 refine ⟨by unfold mkT;rw [ja1,je5],λ r hr=>?_⟩
 obtain ⟨i,_,rfl⟩:=jd5.mp hr
 rw [ja1,je5]
theorem qav {b j:Nat}{f:Nat->Int} (hj:j < b):((jc3 b).map f).getD j 0=f j:=by
 rw [ja2,jd1,jn4 hj];rfl
theorem qk8 {a i:Nat}{f:Nat->List Int} (hi:i < a):((jc3 a).map f).getD i []=f i:=by
 rw [ja2,jd1,jn4 hi];rfl
theorem zvl {a b i j:Nat}{f:Nat->Nat->Int} (hi:i < a) (hj:j < b):g (mkT a b f) i j=f i j:=by
 unfold g mkT
 rw [qk8 hi,qav hj]
def Nr (r:List Int):Prop:=∀ k,k + 1 < r.length->r.getD (k + 1) 0<=r.getD k 0
theorem zyi {α:Type}{xs:List α}{i:Nat}{x d:α} (h:i < xs.length):(xs.set i x).getD i d=x:=by
 rw [ja2,jb5 h];rfl
theorem zbo {α:Type}{xs:List α}{i j:Nat}{x d:α} (h:i≠j):(xs.set i x).getD j d=xs.getD j d:=by
 rw [ja2,ja9 h,ja2]
theorem zms {α:Type}{f:PV->Option vh1}{e:α->PV}{q:α->vh1} (h:∀ x,f (e x)=some (q x)):∀ xs:List α,toDL f (xs.map e)=some (xs.map q)
 | []=>rfl
 | x::xs=>by rw [jc8,toDL,h,zms h xs];rfl
theorem qdm (n:Nat) (xs:List Int):toD (n + 2) (il xs)=some (.list (xs.map .int)):=by
 show (toDL (toD (n + 1)) (xs.map PV.int)).map PyData.list=_
 rw [zms (q:=PyData.int) (λ x=>rfl)];rfl
theorem qit (n:Nat) (t:List (List Int)):toD (n + 3) (tb t)=some (.list (t.map λ r=>.list (r.map .int))):=by
 show (toDL (toD (n + 2)) (t.map il)).map PyData.list=_
 rw [zms (λ x=>qdm n x)];rfl
theorem zjg:∀ xs ys:List Int,vg1 (xs.map .int) (ys.map .int)=decide (xs=ys)
 | [],[]=>rfl
 | [],y::ys=>rfl
 | x::xs,[]=>rfl
 | x::xs,y::ys=>by
  rw [jc8,jc8,vg1,zjg xs ys]
  show ((x == y) && _)=_
  by_cases h:x=y
  ·subst h
   by_cases h2:xs=ys
   ·subst h2;simp
   ·simp [h2]
  ·simp [h]
theorem zmi:∀ t u:List (List Int),vg1 (t.map λ r=>.list (r.map .int)) (u.map λ r=>.list (r.map .int))=decide (t=u)
 | [],[]=>rfl
 | [],y::ys=>rfl
 | x::xs,[]=>rfl
 | x::xs,y::ys=>by
  rw [jc8,jc8,vg1,zmi xs ys,vd7,zjg]
  by_cases h:x=y
  ·subst h
   by_cases h2:xs=ys
   ·subst h2;simp
   ·simp [h2]
  ·simp [h]
theorem qp7 {neg:Bool}{f h:Fx}{ρ ρ1 ρ2:Rho}{xs ys:List Int}{d e:Nat} (h1:f ρ=.ok (il xs,d,ρ1)) (h2:h ρ1=.ok (il ys,e,ρ2)):bBin (opEq neg) f h ρ=.ok (.bl (neg^^decide (xs=ys)),om,ρ2):=by
 refine zwb h1 h2 ?_
 unfold opEq
 rw [qdm 18,qdm 18]
 show some (PV.bl (neg^^vd7 _ _),om)=_
 rw [vd7,zjg]
theorem qlw {neg:Bool}{f h:Fx}{ρ ρ1 ρ2:Rho}{t u:List (List Int)}{d e:Nat} (h1:f ρ=.ok (tb t,d,ρ1)) (h2:h ρ1=.ok (tb u,e,ρ2)):bBin (opEq neg) f h ρ=.ok (.bl (neg^^decide (t=u)),om,ρ2):=by
 refine zwb h1 h2 ?_
 unfold opEq
 rw [qit 17,qit 17]
 show some (PV.bl (neg^^vd7 _ _),om)=_
 rw [vd7,zmi]
theorem qln {f h:Fx}{ρ ρ1 ρ2:Rho}{xs:List Int}{k x:Int}{d e:Nat} (h1:f ρ=.ok (.scr xs,d,ρ1)) (h2:h ρ1=.ok (.int k,e,ρ2)) (hx:atI xs k=some x):bBin zqe f h ρ=.ok (.int x,om,ρ2):=by
 refine zwb h1 h2 ?_
 show (atI xs k).map _=_
 rw [hx];rfl
theorem qll (xs:List Int) (x:Int):PV.lst (xs.map PV.int++[.int x])=il (xs++[x]):=by unfold il;rw [je3];rfl
theorem qf1 (xs:List PV):cutP xs (some (-1)) none=xs.drop (xs.length - 1):=by
 unfold cutP
 have e:HT.sIx xs.length 0 (some (-1))=xs.length - 1:=by
  show (if (-1:Int) < 0 then (-1 + (xs.length:Int)).toNat else min (-1:Int).toNat xs.length)=_
  rw [if_pos (by decide)];omega
 rw [e,HT.sIx_none]
 exact jf9 (by rw [jd6];exact jb8 _)
theorem qd8 {f:Fx}{ρ ρ1:Rho}{xs:List PV}{d:Nat} (h:f ρ=.ok (.lst xs,d,ρ1)):bSl f (some (bUn zxq (bC (.int 1)))) none ρ=.ok (.lst (xs.drop (xs.length - 1)),d1 (xs.drop (xs.length - 1)),ρ1):=by
 unfold bSl
 rw [h]
 show Rz.ok (PV.lst (cutP xs (some (-1)) none),d1 (cutP xs (some (-1)) none),ρ1)=_
 rw [qf1]
theorem zxm {f h:Fx}{ρ ρ1 ρ2:Rho}{xs ys:List PV}{d e:Nat} (h1:f ρ=.ok (.lst xs,d,ρ1)) (h2:h ρ1=.ok (.lst ys,e,ρ2)) (hl:xs.length + ys.length<=va2):bBin zqg f h ρ=.ok (.lst (xs++ys),d1 (xs++ys),ρ2):=by
 refine zwb h1 h2 ?_
 show (if _ then _ else _)=_
 rw [if_pos hl]
theorem zkn:∀ xs:List Int,zkb (xs.map PV.int)=some xs
 | []=>rfl
 | x::xs=>by rw [jc8,zkb,zkn xs];rfl
theorem qol {fa:Fa}{ρ ρ1:Rho}{x:Int}{xs:List Int}{d:Nat} (h:fa ρ=.ok ([(il (x::xs),d)],ρ1)):zqb zzd fa ρ=.ok (.int (minI x xs),om,ρ1):=by
 refine zqx h ?_
 show (match zkb ((x::xs).map PV.int) with | some (n::r)=>some (PV.int (minI n r),om) | _=>none)=_
 rw [zkn]
def upH (c:Int) (t:List (List Int)) (j:Nat):Int:=if t.length=0 then c else g t (t.length - 1) j
def topH (c:Int) (t:List (List Int)) (r:List Int) (j:Nat):Int:=if r.length=0 then upH c t j else min (upH c t j) (r.getD (r.length - 1) 0)
theorem qbg {t:List (List Int)}{r:List Int}{i:Nat}:(t++[r]).getD i []=if i < t.length then t.getD i [] else if i=t.length then r else []:=by
 by_cases h:i < t.length
 ·rw [if_pos h,ja2,jc2 h,ja2]
 ·rw [if_neg h]
  by_cases h2:i=t.length
  ·rw [if_pos h2,h2,ja2,jl1];rfl
  ·rw [if_neg h2,ja2,jg3 (by rw [jb1,ja6];omega)];rfl
theorem zyh {r:List Int}{x:Int}{i:Nat}:(r++[x]).getD i 0=if i < r.length then r.getD i 0 else if i=r.length then x else 0:=by
 by_cases h:i < r.length
 ·rw [if_pos h,ja2,jc2 h,ja2]
 ·rw [if_neg h]
  by_cases h2:i=r.length
  ·rw [if_pos h2,h2,ja2,jl1];rfl
  ·rw [if_neg h2,ja2,jg3 (by rw [jb1,ja6];omega)];rfl
theorem Pile.snoc {k b:Nat}{c:Int}{t:List (List Int)}{r:List Int} (p:Pile k b c t) (hr:r.length=b) (h:∀ y,y < b->0<=r.getD y 0/\r.getD y 0<=upH c t y) (hn:Nr r):Pile (k + 1) b c (t++[r]):=by
 have l:=p.tab.1
 have e:∀ i j,g (t++[r]) i j=if i < k then g t i j else if i=k then r.getD j 0 else 0:=λ i j=>by
  unfold g
  rw [qbg,l]
  split
  ·rfl
  ·split <;> rfl
 have u:∀ y,y < b->upH c t y<=c:=λ y hy=>by
  unfold upH
  split
  ·exact jp5 _
  ·exact p.hi _ _ (by omega) hy
 refine ⟨⟨by rw [jb1,l];rfl,λ x hx=>?_⟩,λ i j hi hj=>?_,λ i j hi hj=>?_,λ i j hi hj=>?_,λ i j hi hj=>?_⟩
 ·rcases jc0.mp hx with z | z
  ·exact p.tab.2 x z
  ·rw [jb7.mp z,hr]
 ·rw [e]
  by_cases z:i < k
  ·rw [if_pos z];exact p.lo i j z hj
  ·rw [if_neg z,if_pos (by omega)];exact (h j hj).1
 ·rw [e]
  by_cases z:i < k
  ·rw [if_pos z];exact p.hi i j z hj
  ·rw [if_neg z,if_pos (by omega)];exact jr0 (h j hj).2 (u j hj)
 ·rw [e,e]
  by_cases z:i + 1 < k
  ·rw [if_pos z,if_pos (by omega)];exact p.dn i j z hj
  ·rw [if_neg z,if_pos (by omega),if_pos (by omega)]
   have:=(h j hj).2
   unfold upH at this
   rw [if_neg (by omega),l,show k - 1=i by omega] at this
   exact this
 ·rw [e,e]
  by_cases z:i < k
  ·rw [if_pos z,if_pos z];exact p.rt i j z hj
  ·rw [if_neg z,if_neg z,if_pos (by omega),if_pos (by omega)];exact hn j (by rw [hr];exact hj)
theorem qad:∀ xs:List Int,qdg (xs.map PV.int)=true
 | []=>rfl
 | x::xs=>by rw [jc8,qdg,qad xs];rfl
theorem qf0 (xs:List Int):d1 (xs.map PV.int)=om:=by unfold d1;rw [qad];rfl
theorem qla {f:Fx}{ρ ρ1:Rho}{xs:List Int}{d:Nat} (h:f ρ=.ok (il xs,d,ρ1)):zqb zvb (zqa f aNil) ρ=.ok (il xs,om,ρ1):=by
 refine zqx (zqt h) ?_
 show some (PV.lst (xs.map PV.int),d1 (xs.map PV.int))=_
 rw [qf0];rfl
theorem qkk {t:List (List Int)}{i j:Nat}{v:Int} (hi:i < t.length) (hj:j < (t.getD i []).length):put2 (tb t) (i:Int) (j:Int) (.int v)=some (tb (t.set i ((t.getD i []).set j v))):=by
 unfold put2 tb
 dsimp only
 have e1:ixN (t.map il).length (i:Int)=some i:=by
  unfold ixN
  rw [ja1,if_pos (by omega),if_pos (by omega)]
  rfl
 have e2:(t.map il)[i]?=some (.lst ((t.getD i []).map PV.int)):=by
  rw [jd1,zzn hi];rfl
 have e3:ixN ((t.getD i []).map PV.int).length (j:Int)=some j:=by
  unfold ixN
  rw [ja1,if_pos (by omega),if_pos (by omega)]
  rfl
 rw [e1]
 dsimp only
 rw [e2]
 dsimp only
 rw [e3]
 dsimp only
 rw [jr1]
 unfold il
 rw [jr1]
theorem zvm {f h k:Fx}{ρ ρ1 ρ2 ρ3:Rho}{t:List (List Int)}{a b i j:Nat}{d e e':Nat} (ht:Tab a b t) (h1:f ρ=.ok (tb t,d,ρ1)) (h2:h ρ1=.ok (.int (i:Int),e,ρ2)) (h3:k ρ2=.ok (.int (j:Int),e',ρ3)) (hi:i < a) (hj:j < b):bBin zqe (bBin zqe f h) k ρ=.ok (.int (g t i j),om,ρ3):=
 zyn (xs:=t.getD i []) (k:=(j:Int)) (qfm (t:=t) (k:=(i:Int)) h1 h2 (zwt (by omega) (zzn (by rw [je4,ht.1];exact hi)))) h3 (zwt (by omega) (zwv (by rw [je4,ht.row hi];exact hj)))
theorem zwa {F:Fn}{i:Nat}{fa:Fa}{ρ ρ1 ρ2:Rho}{xs:List (PV×Nat)}{x0 y z:PV}{d d0:Nat}{p:PV×Nat} (h0:ρ[i]?=some (some p)) (h1:fa ρ=.ok (xs,ρ1)) (h3:ρ1[i]?=some (some (x0,d0))) (h2:F (x0::xs.map (·.1))=.ok (y,d,z)) (e:ρ1.set i (some (z,om))=ρ2):zqd F i fa ρ=.ok (y,d,ρ2):=by
 unfold zqd
 rw [h0]
 dsimp only
 rw [h1]
 dsimp only [Rz.bind]
 rw [h3]
 dsimp only
 rw [h2]
 dsimp only
 rw [e]
theorem qen {i:Nat}{k:Int}{f:Fx}{ρ ρ1 ρ2:Rho}{y:PV}{d0 d j:Nat}{xs:List PV} (h:f ρ=.ok (y,d0,ρ1)) (hx:ρ1[i]?=some (some (.lst xs,d))) (hj:ixN xs.length k=some j) (hd:d≠0) (hy:zjo y=true) (e:ρ1.set i (some (.lst (xs.set j y),d))=ρ2):sPut i k f ρ=.nx ρ2:=by
 unfold sPut
 rw [h]
 dsimp only
 rw [hx]
 dsimp only
 rw [hj]
 dsimp only
 rw [if_pos ⟨hd,hy⟩,e]
theorem zvo {np k:Nat}{b:Fs}{x0:PV}{xr:List PV}{ρ':Rho}{y z:PV}{d c:Nat} (hl:xr.length + 1=np) (h:b (some (x0,om)::xr.map (λ x=>some (x,dv x))++ja7 k none)=.rt y d ρ') (hz:ρ'[0]?=some (some (z,c))):mkFn true np k b (x0::xr)=.ok (y,d,z):=by
 unfold mkFn
 rw [if_pos (by rw [jb4];exact hl)]
 have:zza true (x0::xr)=some (x0,om)::xr.map λ x=>some (x,dv x):=rfl
 rw [this,h]
 unfold finF
 dsimp only
 rw [hz]
theorem setT {i:Nat}{f:Fx}{vs:List Nat}{ρ ρ1 ρ2:Rho}{x:PV} (h:f ρ=.ok (x,om,ρ1)) (hc:i < ρ1.length) (e:ρ1.set i (some (x,om))=ρ2):sSet true i f vs ρ=.nx ρ2:=by
 unfold sSet
 rw [h]
 dsimp only
 rw [if_pos ⟨hc,λ _=>rfl⟩]
 rw [show zqk om vs ρ1=ρ1 from if_pos rfl,e]
abbrev pl (p q r:Int):PV:=.lst [.int p,.int q,.int r]
def Pl (B:Int) (x:PV):Prop:=∃ p q r,x=pl p q r/\0<=r/\r<=B
theorem Pl.mono {B B':Int}{x:PV} (h:Pl B x) (hb:B<=B'):Pl B' x:=let ⟨p,q,r,e,h1,h2⟩:=h;⟨p,q,r,e,h1,by omega⟩
theorem qbc {x:PV}{B m:Int} (h:Pl B x) (hB:B<=100000) (hm:0 < m/\m < 2 ^ 128):∃ v x',(0<=v/\v < m)/\Pl (B + 1) x'/\a_take [x,.int m]=.ok (.int v,om,x'):=by
 obtain ⟨p,q,r,rfl,h0,h1⟩:=h
 let R (x:PV) (s2 s3 s4:QQ.Slot):Rho:=[some (x,om),some (.int m,om),s2,s3,s4]
 have t1:bT (bBin (opEq false) (bMs 0 1) (bC (.int 1))) (R (pl p q r) none none none)=.ok (false^^decide (q=1),R (pl p q r) none none none):=t_ok (zyp (i:=q) (j:=1) rfl rfl)
 rw [jl9] at t1
 have hpos:0 < m:=hm.1
 by_cases hq:q=1
 ·rw [decide_eq_true hq] at t1
  have s1:sSet false 2 (bBin zjv (bMs 0 0) (bVar 1)) [1] (R (pl p q r) none none none)=.nx (R (pl p q r) (some (.int (p % m),om)) none none):=setF (zhc (i:=p) (j:=m) rfl rfl hpos) (show 2 < 5 by decide) rfl
  have s2:sPut 0 0 (bBin zmb (bMs 0 0) (bVar 1)) (R (pl p q r) (some (.int (p % m),om)) none none)=.nx (R (pl (p / m) q r) (some (.int (p % m),om)) none none):=qen (j:=0) (d:=om) (xs:=[.int p,.int q,.int r]) (qje (i:=p) (j:=m) rfl rfl hpos (by omega)) rfl rfl (by decide) rfl rfl
  exact ⟨p % m,pl (p / m) q r,⟨jl2 _ (by omega),jj4 _ hpos⟩,⟨_,_,r,rfl,h0,by omega⟩,zvo (z:=pl (p / m) q r) (c:=om) rfl (zxx ((if_t t1).trans ((zqi s1).trans ((zqi s2).trans rfl)))) rfl⟩
 ·rw [decide_eq_false hq] at t1
  let st:=r + 1
  let mk1:=(p % 9999999631 + 967) * (19 * st + 47)
  let mk2:=mk1 + 3457 * st * st
  let mk3:=mk2 * mk2 % 99999999673
  have a1:=jl2 p (show (9999999631:Int)≠0 by decide)
  have a2:=jj4 p (show (0:Int) < 9999999631 by decide)
  have hst:1<=st/\st<=100001:=⟨by show 1<=r + 1;omega,by show r + 1<=100001;omega⟩
  have k1:0<=mk1/\mk1<=10000000597 * 1900066:=⟨jp7 (by omega) (by omega),jp8 (by omega) (by omega) (by omega) (by omega)⟩
  have k2:0<=3457 * st * st/\3457 * st * st<=(3457 * 100001) * 100001:=⟨jp7 (by omega) (by omega),jp8 (by omega) (by omega) (by omega) (by omega)⟩
  have k3:0<=mk2/\mk2<=10000000597 * 1900066 + (3457 * 100001) * 100001:=⟨by show 0<=mk1 + 3457 * st * st;omega,by show mk1 + 3457 * st * st<=_;omega⟩
  have k4:0<=mk3:=jl2 _ (by decide)
  have k5:mk3 < 99999999673:=jj4 _ (by decide)
  have s1:sPut 0 2 (bBin zqg (bMs 0 2) (bC (.int 1))) (R (pl p q r) none none none)=.nx (R (pl p q st) none none none):=qen (j:=2) (d:=om) (xs:=[.int p,.int q,.int r]) (zwp (i:=r) (j:=1) rfl rfl) rfl rfl (by decide) rfl rfl
  have s2:sSet false 3 (bMs 0 2) [] (R (pl p q st) none none none)=.nx (R (pl p q st) none (some (.int st,om)) none):=rfl
  have s3:sSet false 4 (bBin zxc (bBin zqg (bBin zjv (bMs 0 0) (bC (.int 9999999631))) (bC (.int 967))) (bBin zqg (bBin zxc (bC (.int 19)) (bVar 3)) (bC (.int 47)))) [3] (R (pl p q st) none (some (.int st,om)) none)=.nx (R (pl p q st) none (some (.int st,om)) (some (.int mk1,om))):=
   setF (zbv (zwp (zhc (i:=p) rfl rfl (by decide)) (j:=967) rfl) (zwp (zbv (i:=19) (j:=st) rfl rfl (.inl (by decide))) (j:=47) rfl) (.inl (by omega))) (show 4 < 5 by decide) rfl
  have s4:sSet false 4 (bBin zqg (bVar 4) (bBin zxc (bBin zxc (bC (.int 3457)) (bVar 3)) (bVar 3))) [4,3,3] (R (pl p q st) none (some (.int st,om)) (some (.int mk1,om)))=.nx (R (pl p q st) none (some (.int st,om)) (some (.int mk2,om))):=
   setF (zwp (i:=mk1) rfl (zbv (zbv (i:=3457) (j:=st) rfl rfl (.inl (by decide))) (j:=st) rfl (.inr (by omega)))) (show 4 < 5 by decide) rfl
  have s5:sSet false 4 (bBin zjv (bBin zxc (bVar 4) (bVar 4)) (bC (.int 99999999673))) [4,4] (R (pl p q st) none (some (.int st,om)) (some (.int mk2,om)))=.nx (R (pl p q st) none (some (.int st,om)) (some (.int mk3,om))):=
   setF (zhc (zbv (i:=mk2) (j:=mk2) rfl rfl (.inl (by omega))) rfl (by decide)) (show 4 < 5 by decide) rfl
  have s6:(bBin zjv (bBin zmb (bBin zjv (bBin zxc (bVar 4) (bBin zqg (bVar 4) (bC (.int 31)))) (bC (.int 99999999941))) (bC (.int 79))) (bVar 1)) (R (pl p q st) none (some (.int st,om)) (some (.int mk3,om)))=.ok (.int (mk3 * (mk3 + 31) % 99999999941 / 79 % m),om,R (pl p q st) none (some (.int st,om)) (some (.int mk3,om))):=
   zhc (qje (zhc (zbv (i:=mk3) rfl (zwp (i:=mk3) (j:=31) rfl rfl) (.inl (by omega))) rfl (by decide)) rfl (by decide) (by decide)) (j:=m) rfl hpos
  exact ⟨_,pl p q st,⟨jl2 _ (by omega),jj4 _ hpos⟩,⟨p,q,st,rfl,by omega,by show r + 1<=B + 1;omega⟩,zvo (z:=pl p q st) (c:=om) rfl ((zwd t1).trans ((zqi s1).trans ((zqi s2).trans ((zqi s3).trans ((zqi s4).trans ((zqi s5).trans (zwg s6))))))) rfl⟩
theorem qdo {x:PV}{B m:Int} (h:Pl B x) (hB:B<=100000) (hm:0 < m/\m < 1000000):∃ v x',(0<=v/\v < m)/\Pl (B + 1) x'/\a_take [x,.int m]=.ok (.int v,om,x'):=qbc h hB ⟨hm.1,Int.lt_trans hm.2 (by decide)⟩
theorem qkr (ns:List Int) (k:Nat) (hk:k<=1000):∃ x,Pl 29000 x/\a_pool [.scr ns,.int (k:Int)]=.ok (x,om,.non):=by
 let R (s2:QQ.Slot):Rho:=[some (.scr ns,om),some (.int (k:Int),om),s2]
 have s1:sSet false 2 (bC (.int 0)) [] (R none)=.nx (R (some (.int 0,om))):=rfl
 have s2:∃ c,sIf (bT (bBin (zxh λ i j=>decide (i < j)) (bVar 1) (zqb zwe (zqa (bVar 0) (aNil))))) (sSet false 2 (bBin zqe (bVar 0) (bVar 1)) [0,1]) sNil (R (some (.int 0,om)))=.nx (R (some (.int c,om))):=by
  have t1:bT (bBin (zxh λ i j=>decide (i < j)) (bVar 1) (zqb zwe (zqa (bVar 0) (aNil)))) (R (some (.int 0,om)))=.ok (decide ((k:Int) < (ns.length:Int)),R (some (.int 0,om))):=rfl
  by_cases h:(k:Int) < (ns.length:Int)
  ·rw [decide_eq_true h] at t1
   exact ⟨ns.getD k 0,(if_t t1).trans (setF (qln (xs:=ns) (k:=(k:Int)) (d:=om) rfl rfl (zwt (by omega) (zwv (by omega)))) (show 2 < 3 by decide) rfl)⟩
  ·rw [decide_eq_false h] at t1
   exact ⟨0,(if_f t1).trans rfl⟩
 obtain ⟨c,s2⟩:=s2
 have t3:bT (bBin (zxh λ i j=>decide (j<=i)) (bVar 2) (bBin zgx (bC (.int 10)) (bC (.int 18)))) (R (some (.int c,om)))=.ok (decide ((10:Int) ^ 18<=c),R (some (.int c,om))):=by kernel_rfl
 have p18:bBin zgx (bC (.int 10)) (bC (.int 18)) (R (some (.int c,om)))=.ok (.int (10 ^ 18),om,R (some (.int c,om))):=by kernel_rfl
 by_cases h:(10:Int) ^ 18<=c
 ·rw [decide_eq_true h] at t3
  exact ⟨pl (c - 10 ^ 18) 1 0,⟨_,_,0,rfl,by decide,by decide⟩,zwr rfl ((zqi s1).trans ((zqi s2).trans (zxx ((if_t t3).trans (zwg (zqx (zqm (zvs (i:=c) rfl p18) (zqm (x:=.int 1) (d:=om) rfl (zqt (x:=.int 0) (d:=om) rfl))) (by kernel_rfl)))))))⟩
 ·rw [decide_eq_false h] at t3
  exact ⟨pl c 0 (29 * (k:Int)),⟨_,_,29 * (k:Int),rfl,by omega,by omega⟩,zwr rfl ((zqi s1).trans ((zqi s2).trans ((zwd t3).trans (zwg (zqx (zqm (x:=.int c) (d:=om) rfl (zqm (x:=.int 0) (d:=om) rfl (zqt (zbv (i:=29) (j:=(k:Int)) rfl rfl (.inl (by decide)))))) (by kernel_rfl))))))⟩
theorem qci {n:Nat}{elt:Fx} (I:Nat->Rho->Prop) (Pr:PV->Prop):∀ (xs:List PV) (i:Nat) (ρ:Rho) (acc:List (PV×Nat)),I i ρ->(∀ j ρ,I j ρ->ρ.length=n)->(∀ j x ρ,i<=j->j < i + xs.length->I j ρ->∃ y ρ',elt (ρ++[some (x,dv x)])=.ok (y,om,ρ')/\I (j + 1) (ρ'.take n)/\Pr y)->acc.length + xs.length<=va2 ->
  ∃ (ys:List PV) (ρ':Rho),zxy 1 (asgN n) zqr elt xs ρ acc=.ok (acc++ys.map (λ y=>(y,om)),ρ')/\ys.length=xs.length/\(∀ y∈ys,Pr y)/\I (i + xs.length) ρ'
 | [],i,ρ,acc,h,_,_,_=>⟨[],ρ,by simp [zxy],rfl,λ _ z=>(nomatch z),h⟩
 | x::xs,i,ρ,acc,h,hn,he,hl=>by
  obtain ⟨y,ρ1,e1,h1,p1⟩:=he i x ρ (jb8 _) (by rw [jb4];omega) h
  have hρ:=hn i ρ h
  rw [jb4] at hl
  obtain ⟨ys,ρ',e2,l2,p2,h2⟩:=qci (n:=n) (elt:=elt) I Pr xs (i + 1) (ρ1.take n) (acc++[(y,om)]) h1 hn (λ j x ρ a b=>he j x ρ (by omega) (by rw [jb4];omega)) (by rw [jb1,ja6];omega)
  refine ⟨y::ys,ρ',?_,by rw [jb4,l2,jb4],λ z hz=>(jb2.mp hz).elim (λ e=>by rw [e];exact p1) (p2 z),by rw [jb4,show i + (xs.length + 1)=i + 1 + xs.length by omega];exact h2⟩
  unfold zxy
  have ea:asgN n x (ρ++ja7 1 none)=some (ρ++[some (x,dv x)]):=by
   unfold asgN
   rw [if_pos (by rw [jb1,hρ];simp),jk3 _ _ (by omega),hρ]
   simp
  rw [ea]
  dsimp only
  have:zqr (ρ++[some (x,dv x)])=.ok (true,ρ++[some (x,dv x)]):=rfl
  rw [this]
  dsimp only [Rz.bindN]
  rw [if_pos rfl,e1]
  dsimp only
  rw [if_pos (by omega),hρ,e2]
  simp
theorem zwf {f:Fx}{x:PV}{B m:Int}{r:Rho}{e:Nat} (h:Pl B x) (hB:B<=100000) (hm:0 < m/\m < 1000000) (hf:f (some (x,om)::r)=.ok (.int m,e,some (x,om)::r)):∃ v x',(0<=v/\v < m)/\Pl (B + 1) x'/\zqd a_take 0 (zqa f aNil) (some (x,om)::r)=.ok (.int v,om,some (x',om)::r):=by
 obtain ⟨v,x',hv,hp,e⟩:=qdo h hB hm
 exact ⟨v,x',hv,hp,zwa (p:=(x,om)) (x0:=x) (d0:=om) rfl (zqt hf) rfl e rfl⟩
theorem qmc {x:PV}{B:Int}{most:Nat} (h:Pl B x) (hB:B<=90000) (hm:1<=most/\most<=1000):∃ a b c x',(1<=a/\a<=max 3 most)/\(1<=b/\b<=max 3 most)/\(1<=c/\c<=max 3 most)/\Pl (B + 9) x'/\a_box [x,.int (most:Int)]=.ok (bx (a:Nat) (b:Nat) (c:Nat),0,x'):=by
 let elt:=(bBin zqg (bC (.int 1)) (bBin zqe (zqb zqf (zqa (zqd a_take 0 (zqa (bC (.int 3)) (aNil))) (zqa (zqd a_take 0 (zqa (bVar 1) (aNil))) (aNil)))) (zqd a_take 0 (zqa (bC (.int 2)) (aNil)))))
 obtain ⟨ys,ρ',e,hl,hp,x',rfl,hx'⟩:=qci (n:=2) (elt:=elt) (λ j ρ=>∃ x,ρ=[some (x,om),some (.int (most:Int),om)]/\Pl (B + 3 * (j:Int)) x) (λ y=>∃ k:Nat,(1<=k/\k<=max 3 most)/\y=.int (k:Int)) (zzs 0 3) 0 [some (x,om),some (.int (most:Int),om)] [] ⟨x,rfl,h.mono (by omega)⟩ (λ j ρ ⟨x,e,_⟩=>by rw [e];rfl) (by
  rintro j w ρ _ hj ⟨x,rfl,hx⟩
  have hj3:j < 3:=by rw [zxi] at hj;omega
  let T:Rho:=[some (.int (most:Int),om),some (w,dv w)]
  obtain ⟨v1,x1,hv1,hx1,e1⟩:=zwf (f:=bC (.int 3)) (r:=T) (m:=3) (e:=om) hx (by omega) (by decide) rfl
  obtain ⟨v2,x2,hv2,hx2,e2⟩:=zwf (f:=bVar 1) (r:=T) (m:=(most:Int)) (e:=om) hx1 (by omega) (by omega) rfl
  obtain ⟨v3,x3,hv3,hx3,e3⟩:=zwf (f:=bC (.int 2)) (r:=T) (m:=2) (e:=om) hx2 (by omega) (by decide) rfl
  have hg:∃ v,atI [v1,v2] v3=some v/\0<=v/\v < max 3 (most:Int):=by
   have:v3=0\/v3=1:=by omega
   rcases this with z | z
   ·rw [z];exact ⟨v1,rfl,by omega,by omega⟩
   ·rw [z];exact ⟨v2,rfl,by omega,by omega⟩
  obtain ⟨v,ev,hv0,hv⟩:=hg
  refine ⟨.int (1 + v),_,zwp (i:=1) rfl (zyn (xs:=[v1,v2]) (k:=v3) (d:=om) (zqx (zqm e1 (zqt e2)) (by kernel_rfl)) e3 ev),⟨x3,rfl,hx3.mono (by omega)⟩,(1 + v).toNat,⟨by omega,by omega⟩,?_⟩
  rw [show (((1 + v).toNat:Nat):Int)=1 + v by omega]) (by have:=sz;show 0 + 3<=va2;omega)
 have hl3:ys.length=3:=hl
 match ys,hl3,hp,e with
 | [y1,y2,y3],_,hp,e=>
  obtain ⟨a,ha,rfl⟩:=hp y1 (by simp)
  obtain ⟨b,hb,rfl⟩:=hp y2 (by simp)
  obtain ⟨c,hc,rfl⟩:=hp y3 (by simp)
  refine ⟨a,b,c,x',ha,hb,hc,hx'.mono (by show B + 3 * ((0 + 3:Nat):Int)<=B + 9;omega),?_⟩
  refine zvo (c:=om) rfl (zwg (f:=zqb zkr (zqa (zxs zqy (zqa (bC (.int 3)) (aNil)) 1 (asgN 2) zqr elt) (aNil))) (d:=0) (zqx (zqt (x:=.lst [.int (a:Int),.int (b:Int),.int (c:Int)]) (d:=om) (ρ1:=[some (x',om),some (.int (most:Int),om)]) ?_) rfl)) rfl
  unfold zxs
  have e0:zqa (bC (.int 3)) aNil ([some (x,om),some (.int (most:Int),om)]:Rho)=.ok ([(.int 3,om)],[some (x,om),some (.int (most:Int),om)]):=rfl
  have e0':(some (x,om)::List.map (λ x=>(some (x,dv x):QQ.Slot)) [PV.int (most:Int)]++ja7 0 none)=[some (x,om),some (.int (most:Int),om)]:=rfl
  rw [e0',e0]
  dsimp only
  rw [show zqy [(.int 3,om)]=some (0,3) from rfl]
  dsimp only
  rw [show ((3:Int) - 0).toNat=3 from rfl,e]
  rfl
def qa5:Fs:=(sSeq (sSet false 10 (zqb zzd (zqa (bBin zqg (bBin zqg (zqb zqf (zqa (bVar 4) (aNil))) (bSl (bVar 8) (some (bUn zxq (bC (.int 1)))) none)) (zqp (bSl (bVar 6) (some (bUn zxq (bC (.int 1)))) none) 1 (asgN 12) zqr (bBin zqe (bVar 12) (bVar 9)))) (aNil))) [4,8,6,6,9])
 (sSeq (sSet false 11 (zqb zqf (zqa (zqb zkx (zqa (bC (.int 0)) (zqa (bBin zxj (bVar 10) (zqd a_take 0 (zqa (bC (.int 2)) (aNil)))) (aNil)))) (zqa (zqd a_take 0 (zqa (bBin zqg (bVar 10) (bC (.int 1))) (aNil))) (zqa (bVar 10) (aNil))))) [10,10,10])
 (sApp 8 (bBin zqe (bBin zqg (zqb zqf (zqa (bC (.int 0)) (zqa (bVar 4) (aNil)))) (bBin zxc (zqb zqf (zqa (bBin zqe (bVar 11) (zqd a_take 0 (zqa (bC (.int 3)) (aNil)))) (aNil))) (bC (.int 6)))) (bVar 5)) [4,11,5])))
theorem qhq {k b j:Nat}{c:Int}{t:List (List Int)}{r:List Int} (p:Pile k b c t) (hj:j < b):minI c (r.drop (r.length - 1)++(t.drop (t.length - 1)).map λ u=>u.getD j 0)=topH c t r j:=by
 have e1:t.length≠0->(t.drop (t.length - 1)).map (λ u=>u.getD j 0)=[g t (t.length - 1) j]:=λ e=>by
  rw [jf1 (show t.length - 1 < t.length by omega),je9 (by omega)]
  unfold g
  rw [ja2 (l:=t),jb3 (show t.length - 1 < t.length by omega)]
  rfl
 have e2:r.length≠0->r.drop (r.length - 1)=[r.getD (r.length - 1) 0]:=λ e=>by
  rw [jf1 (show r.length - 1 < r.length by omega),ja2,jb3 (show r.length - 1 < r.length by omega),je9 (by omega)]
  rfl
 have l:=p.tab.1
 unfold topH upH
 by_cases h1:r.length=0
 ·rw [if_pos h1,jj5.mp h1]
  by_cases h2:t.length=0
  ·rw [if_pos h2,jj5.mp h2];rfl
  ·rw [if_neg h2,e1 h2]
   have:=p.hi (t.length - 1) j (by omega) hj
   show (if g t (t.length - 1) j < c then g t (t.length - 1) j else c)=_
   split <;> omega
 ·rw [if_neg h1,e2 h1]
  by_cases h2:t.length=0
  ·rw [if_pos h2,jj5.mp h2]
   show (if r.getD (r.length - 1) 0 < c then r.getD (r.length - 1) 0 else c)=_
   split <;> omega
  ·rw [if_neg h2,e1 h2]
   have:=p.hi (t.length - 1) j (by omega) hj
   show (if g t (t.length - 1) j < (if r.getD (r.length - 1) 0 < c then r.getD (r.length - 1) 0 else c) then g t (t.length - 1) j else (if r.getD (r.length - 1) 0 < c then r.getD (r.length - 1) 0 else c))=_
   split <;> split <;> omega
theorem qcq {x:PV}{B:Int}{a b c:Nat} (h:Pl B x) (hB:B<=80000) (ha:1<=a/\a<=30) (hb:1<=b/\b<=30) (hc:1<=c/\c<=1000):∃ t d x',Pile a b c t/\d≠0/\Pl (B + 3000) x'/\a_pile [x,bx a b c]=.ok (tb t,d,x'):=by
 have z:=sz
 let S (x:PV) (s5:QQ.Slot) (s6 s7 s8 s9 s10 s11:QQ.Slot):Rho:=[some (x,om),some (bx a b c,0),some (.int (a:Int),om),some (.int (b:Int),om),some (.int (c:Int),om),s5,s6,s7,s8,s9,s10,s11]
 have s1:sUnp (asgT [2,3,4]) (bVar 1) [1] [some (x,om),some (bx a b c,0),none,none,none,none,none,none,none,none,none,none]=.nx (S x none none none none none none none):=by kernel_rfl
 obtain ⟨kd,x1,hkd,hx1,e1⟩:=zwf (f:=bC (.int 8)) (r:=[some (bx a b c,0),some (.int (a:Int),om),some (.int (b:Int),om),some (.int (c:Int),om),none,none,none,none,none,none,none]) (m:=8) (e:=om) h (by omega) (by decide) rfl
 have s2:sSet false 5 (zqd a_take 0 (zqa (bC (.int 8)) (aNil))) [] (S x none none none none none none none)=.nx (S x1 (some (.int kd,om)) none none none none none none):=setF e1 (show 5 < 12 by decide) rfl
 let R (x:PV) (t:List (List Int)) (d6:Nat) (s7 s8 s9 s10 s11:QQ.Slot):Rho:=S x (some (.int kd,om)) (some (tb t,d6)) s7 s8 s9 s10 s11
 have s3:sSet false 6 (zqb zqf (aNil)) [] (S x1 (some (.int kd,om)) none none none none none none)=.nx (R x1 [] om none none none none none):=by kernel_rfl
 have step:∀ (x:PV) (C:Int) (t:List (List Int)) (d6 k j:Nat) (r:List Int) (s7 s10 s11:QQ.Slot),Pl C x->C<=90000->k < a->j < b->Pile k b c t->r.length=j->(∀ y,y < j->0<=r.getD y 0)->(kd=1->topH c t r j=c)->∃ h x' s10' s11',(0<=h/\h<=topH c t r j)/\(kd=1->h=c)/\Pl (C + 3) x'/\qa5 (R x t d6 s7 (some (il r,om)) (some (.int (j:Int),om)) s10 s11)=.nx (R x' t d6 s7 (some (il (r++[h]),om)) (some (.int (j:Int),om)) s10' s11'):=by
  intro x C t d6 k j r s7 s10 s11 hx hC hk hj p hr hr0 hkd1
  have l:=p.tab.1
  let Q (x:PV) (s10 s11:QQ.Slot):Rho:=R x t d6 s7 (some (il r,om)) (some (.int (j:Int),om)) s10 s11
  have f1:=qd8 (f:=bVar 8) (xs:=r.map PV.int) (d:=0) (ρ:=Q x s10 s11) (ρ1:=Q x s10 s11) rfl
  rw [ja1,<- jm2] at f1
  have f2:=zxm (f:=zqb zqf (zqa (bVar 4) (aNil))) (ρ:=Q x s10 s11) (xs:=[.int (c:Int)]) (d:=om) (by kernel_rfl) f1 (by rw [ja1,jd6,ja6];omega)
  have f3:bSl (bVar 6) (some (bUn zxq (bC (.int 1)))) none (Q x s10 s11)=.ok (.lst ((t.drop (t.length - 1)).map il),d1 ((t.map il).drop ((t.map il).length - 1)),Q x s10 s11):=by
   rw [qd8 (xs:=t.map il) (d:=0) (ρ1:=Q x s10 s11) rfl,ja1,jm2]
  have f4:=zzf (n:=12) (elt:=bBin zqe (bVar 12) (bVar 9)) (enc:=il) (q:=λ u=>.int (u.getD j 0)) (t.drop (t.length - 1)) f3 rfl (λ u hu=>zyn (xs:=u) (k:=(j:Int)) (d:=0) rfl rfl (zwt (by omega) (zwv (by rw [p.tab.2 u (jg5 hu)];omega)))) (by rw [jd6];omega)
  have f5:=zxm f2 f4 (by rw [jb1,ja1,ja1,jd6,jd6,ja6];omega)
  have f6:PV.lst ([.int (c:Int)]++(r.drop (r.length - 1)).map PV.int++(t.drop (t.length - 1)).map λ u=>.int (u.getD j 0))=il ((c:Int)::(r.drop (r.length - 1)++(t.drop (t.length - 1)).map λ u=>u.getD j 0)):=by
   unfold il
   rw [jc8,je3,jd9]
   rfl
  rw [f6] at f5
  have v1:sSet false 10 (zqb zzd (zqa (bBin zqg (bBin zqg (zqb zqf (zqa (bVar 4) (aNil))) (bSl (bVar 8) (some (bUn zxq (bC (.int 1)))) none)) (zqp (bSl (bVar 6) (some (bUn zxq (bC (.int 1)))) none) 1 (asgN 12) zqr (bBin zqe (bVar 12) (bVar 9)))) (aNil))) [4,8,6,6,9] (Q x s10 s11)=.nx (Q x (some (.int (topH c t r j),om)) s11):=by
   rw [<- qhq p hj]
   exact setF (qol (zqt f5)) (show 10 < 12 by decide) rfl
  have u0:0<=upH c t j/\upH c t j<=c:=by
   unfold upH
   split
   ·omega
   ·exact ⟨p.lo _ _ (by omega) hj,p.hi _ _ (by omega) hj⟩
  have t0:0<=topH c t r j/\topH c t r j<=c:=by
   unfold topH
   split
   ·exact u0
   ·have:=hr0 (r.length - 1) (by omega)
    omega
  let tp:=topH c t r j
  let T (s11:QQ.Slot):Rho:=[some (bx a b c,0),some (.int (a:Int),om),some (.int (b:Int),om),some (.int (c:Int),om),some (.int kd,om),some (tb t,d6),s7,some (il r,om),some (.int (j:Int),om),some (.int tp,om),s11]
  obtain ⟨w1,x1,hw1,hx1,g1⟩:=zwf (f:=bC (.int 2)) (r:=T s11) (m:=2) (e:=om) hx (by omega) (by decide) rfl
  obtain ⟨w2,x2,hw2,hx2,g2⟩:=zwf (f:=bBin zqg (bVar 10) (bC (.int 1))) (r:=T s11) (m:=tp + 1) (e:=om) hx1 (by omega) (by show 0 < topH c t r j + 1/\topH c t r j + 1 < 1000000;omega) (zwp (i:=tp) (j:=1) rfl rfl)
  let som:List Int:=[if tp - w1 > 0 then tp - w1 else 0,w2,tp]
  have v2:sSet false 11 (zqb zqf (zqa (zqb zkx (zqa (bC (.int 0)) (zqa (bBin zxj (bVar 10) (zqd a_take 0 (zqa (bC (.int 2)) (aNil)))) (aNil)))) (zqa (zqd a_take 0 (zqa (bBin zqg (bVar 10) (bC (.int 1))) (aNil))) (zqa (bVar 10) (aNil))))) [10,10,10] (Q x (some (.int tp,om)) s11)=.nx (Q x2 (some (.int tp,om)) (some (il som,om))):=
   setF (x:=il som) (d:=om) (zqx (zqm (zqx (zqm (x:=.int 0) (d:=om) rfl (zqt (zvs (i:=tp) rfl g1))) rfl) (zqm g2 (zqt (x:=.int tp) (d:=om) rfl))) (by kernel_rfl)) (show 11 < 12 by decide) rfl
  obtain ⟨w3,x3,hw3,hx3,g3⟩:=zwf (f:=bC (.int 3)) (r:=T (some (il som,om))) (m:=3) (e:=om) hx2 (by omega) (by decide) rfl
  have hsom:∀ y∈som,0<=y/\y<=tp:=by
   intro y hy
   have t0':0<=tp:=t0.1
   rcases jb2.mp hy with e | hy
   ·rw [e];split <;> omega
   rcases jb2.mp hy with e | hy
   ·rw [e];omega
   rcases jb2.mp hy with e | hy
   ·rw [e];omega
   ·cases hy
  let v:=som.getD w3.toNat 0
  have hv:=hsom _ (qb7 (xs:=som) (i:=w3.toNat) (by show w3.toNat < 3;omega))
  have g4:bBin zxc (zqb zqf (zqa (bBin zqe (bVar 11) (zqd a_take 0 (zqa (bC (.int 3)) (aNil)))) (aNil))) (bC (.int 6)) (Q x2 (some (.int tp,om)) (some (il som,om)))=.ok (.lst [.int v,.int v,.int v,.int v,.int v,.int v],om,Q x3 (some (.int tp,om)) (some (il som,om))):=
   zwb (zqx (zqt (zyn (xs:=som) (k:=w3) (d:=0) rfl g3 (zwt hw3.1 (zwv (by show w3.toNat < 3;omega))))) rfl) (y:=.int 6) (e:=om) rfl (by kernel_rfl)
  let al:List Int:=[0,(c:Int),v,v,v,v,v,v]
  have hk8:kd.toNat < al.length:=by show kd.toNat < 8;omega
  have hal:(0<=al.getD kd.toNat 0/\al.getD kd.toNat 0<=tp)/\(kd=1->al.getD kd.toNat 0=c):=by
   have:kd=0\/kd=1\/kd=2\/kd=3\/kd=4\/kd=5\/kd=6\/kd=7:=by omega
   rcases this with e | e | e | e | e | e | e | e
   ·rw [e];exact ⟨⟨by show (0:Int)<=0;omega,t0.1⟩,λ h=>by omega⟩
   ·have:=hkd1 e
    rw [e];exact ⟨⟨by show (0:Int)<=(c:Int);omega,by show (c:Int)<=topH c t r j;omega⟩,λ _=>rfl⟩
   all_goals rw [e];exact ⟨hv,λ h=>by omega⟩
  have g5:bBin zqg (zqb zqf (zqa (bC (.int 0)) (zqa (bVar 4) (aNil)))) (bBin zxc (zqb zqf (zqa (bBin zqe (bVar 11) (zqd a_take 0 (zqa (bC (.int 3)) (aNil)))) (aNil))) (bC (.int 6))) (Q x2 (some (.int tp,om)) (some (il som,om)))=.ok (il al,om,Q x3 (some (.int tp,om)) (some (il som,om))):=
   zxm (xs:=[.int 0,.int (c:Int)]) (d:=om) (by kernel_rfl) g4 (by show 2 + 6<=va2;omega)
  refine ⟨al.getD kd.toNat 0,x3,some (.int tp,om),some (il som,om),hal.1,hal.2,hx3.mono (by omega),?_⟩
  refine (zqi v1).trans ((zqi v2).trans ?_)
  refine (zmp (i:=8) (d0:=999) (d:=om) (xs:=r.map PV.int) (xs0:=r.map PV.int) rfl (zyn g5 (k:=kd) (e:=om) rfl (zwt hkd.1 (zwv hk8))) rfl (by decide) (by rw [ja1];omega) rfl).trans ?_
  rw [qll]
  rfl
 have hab:a * b<=900:=jd4 (jk2 ha.2 hb.2) (by decide)
 obtain ⟨ρ',e6,x',t,d6,s7,s8,s9,s10,s11,rfl,px,pt,hd6,_⟩:=zvn (i:=7) (body:=(sSeq (sSet false 8 (zqb zqf (aNil)) [])
 (sSeq (zwq zqy (zqa (bVar 3) (aNil)) (asgN 9) qa5)
 (sApp 6 (bVar 8) [8])))) (en:=zqy) (fa:=zqa (bVar 2) (aNil)) (ρ:=R x1 [] om none none none none none) (ρ1:=R x1 [] om none none none none none) (as:=[(.int (a:Int),om)]) (lo:=0) (hi:=(a:Int))
  (λ k ρ=>∃ x t d6 s7 s8 s9 s10 s11,ρ=R x t d6 s7 s8 s9 s10 s11/\Pl (B + 1 + 3 * ((k * b:Nat):Int)) x/\Pile k b c t/\d6≠0/\(kd=1->∀ i j,i < k->j < b->g t i j=c)) rfl (zxw (by omega) (by omega)) ⟨x1,[],om,none,none,none,none,none,rfl,hx1.mono (by omega),⟨⟨rfl,λ _ h=>nomatch h⟩,λ _ _ h=>absurd h (by omega),λ _ _ h=>absurd h (by omega),λ _ _ h=>absurd h (by omega),λ _ _ h=>absurd h (by omega)⟩,by decide,λ _ _ _ h=>absurd h (by omega)⟩ (by
   rintro k ρ hk ⟨x,t,d6,s7,s8,s9,s10,s11,rfl,px,pt,hd6,hk1⟩
   have hk':k < a:=by omega
   have hkb:(k + 1) * b<=a * b:=Nat.mul_le_mul_right b hk'
   rw [jl5] at hkb
   have l:=pt.tab.1
   have u1:sSet false 8 (zqb zqf (aNil)) [] (R x t d6 (some (.int (0 + (k:Int)),om)) s8 s9 s10 s11)=.nx (R x t d6 (some (.int (0 + (k:Int)),om)) (some (il [],om)) s9 s10 s11):=rfl
   obtain ⟨ρ2,e2,x2,r,t9,t10,t11,rfl,px2,hr,hr0,hr1,hrn,hrk⟩:=zvn (i:=9) (body:=qa5) (en:=zqy) (fa:=zqa (bVar 3) (aNil)) (ρ:=R x t d6 (some (.int (0 + (k:Int)),om)) (some (il [],om)) s9 s10 s11) (ρ1:=R x t d6 (some (.int (0 + (k:Int)),om)) (some (il [],om)) s9 s10 s11) (as:=[(.int (b:Int),om)]) (lo:=0) (hi:=(b:Int))
    (λ j ρ=>∃ x r s9 s10 s11,ρ=R x t d6 (some (.int (0 + (k:Int)),om)) (some (il r,om)) s9 s10 s11/\Pl (B + 1 + 3 * ((k * b:Nat):Int) + 3 * (j:Int)) x/\r.length=j/\(∀ y,y < j->0<=r.getD y 0)/\(∀ y,y < j->r.getD y 0<=upH c t y)/\Nr r/\(kd=1->∀ y,y < j->r.getD y 0=c)) rfl (zxw (by omega) (by omega)) ⟨x,[],s9,s10,s11,rfl,px.mono (by omega),rfl,λ _ h=>absurd h (by omega),λ _ h=>absurd h (by omega),λ _ h=>absurd h (by simp),λ _ _ h=>absurd h (by omega)⟩ (by
     rintro j ρ hj ⟨x,r,s9,s10,s11,rfl,px,hr,hr0,hr1,hrn,hrk⟩
     have hj':j < b:=by omega
     obtain ⟨h,x2,t10,t11,hh,hh1,px2,eh⟩:=step x _ t d6 k j r (some (.int (0 + (k:Int)),om)) s10 s11 px (by omega) hk' hj' pt hr hr0 (λ e=>by
      unfold topH upH
      by_cases e1:r.length=0
      ·rw [if_pos e1]
       by_cases e2:t.length=0
       ·rw [if_pos e2]
       ·rw [if_neg e2];exact hk1 e _ _ (by omega) hj'
      ·rw [if_neg e1,hrk e _ (by omega)]
       by_cases e2:t.length=0
       ·rw [if_pos e2];omega
       ·rw [if_neg e2,hk1 e _ _ (by omega) hj'];omega)
     refine ⟨show 9 < 12 by decide,R x2 t d6 (some (.int (0 + (k:Int)),om)) (some (il (r++[h]),om)) (some (.int (0 + (j:Int)),om)) t10 t11,?_,x2,r++[h],some (.int (0 + (j:Int)),om),t10,t11,rfl,px2.mono (by omega),by rw [jb1,hr];rfl,λ y hy=>?_,λ y hy=>?_,λ y hy=>?_,λ e y hy=>?_⟩
     ·have ez:(0:Int) + (j:Int)=(j:Int):=ji7 _
      rw [ez]
      exact eh
     ·rw [zyh]
      by_cases e:y < r.length
      ·rw [if_pos e];exact hr0 y (by omega)
      ·rw [if_neg e,if_pos (by omega)];exact hh.1
     ·rw [zyh]
      by_cases e:y < r.length
      ·rw [if_pos e];exact hr1 y (by omega)
      ·rw [if_neg e,if_pos (by omega),show y=j by omega]
       have:=hh.2
       unfold topH at this
       split at this <;> omega
     ·rw [jb1,ja6] at hy
      rw [zyh,zyh]
      by_cases e:y + 1 < r.length
      ·rw [if_pos e,if_pos (by omega)];exact hrn y e
      ·rw [if_neg e,if_pos (by omega),if_pos (by omega)]
       have:=hh.2
       unfold topH at this
       rw [if_neg (by omega),show r.length - 1=y by omega] at this
       omega
     ·rw [zyh]
      by_cases e2:y < r.length
      ·rw [if_pos e2];exact hrk e y (by omega)
      ·rw [if_neg e2,if_pos (by omega)];exact hh1 e)
   rw [show ((b:Int) - 0).toNat=b by omega] at hr hr0 hr1 hrk px2
   refine ⟨show 7 < 12 by decide,R x2 (t++[r]) 1 (some (.int (0 + (k:Int)),om)) (some (il r,0)) t9 t10 t11,?_,x2,t++[r],1,_,_,_,_,_,rfl,px2.mono ?_,pt.snoc hr (λ y hy=>⟨hr0 y hy,hr1 y hy⟩) hrn,by decide,λ e i j hi hj=>?_⟩
   ·refine (zqi u1).trans ((zqi e2).trans ?_)
    obtain ⟨d0,rfl⟩:∃ d0,d6=d0 + 1:=⟨d6 - 1,by omega⟩
    refine (zmp (i:=6) (d0:=d0) (d:=d0 + 1) (y:=il r) (e:=0) (xs:=t.map il) (xs0:=t.map il) rfl rfl rfl hd6 (by rw [ja1,pt.tab.1];omega) rfl).trans ?_
    rw [qdn,if_neg (λ h=>absurd h.2 (by decide))]
    rfl
   ·rw [jl5];omega
   ·unfold g
    rw [qbg,l]
    by_cases z:i < k
    ·rw [if_pos z];exact hk1 e i j z hj
    ·rw [if_neg z,if_pos (by omega)];exact hrk e j hj)
 rw [show ((a:Int) - 0).toNat=a by omega] at pt px
 exact ⟨t,d6,x',pt,hd6,px.mono (by omega),zvo (c:=om) rfl ((zqi s1).trans ((zqi s2).trans ((zqi s3).trans ((zqi e6).trans rfl)))) rfl⟩
theorem zpb {asg:PV->Rho->Option Rho}{body:Fs}:∀ (els:List PV) (I:Nat->Rho->Prop) (ρ:Rho),I 0 ρ->(∀ j x ρ,els[j]?=some x->I j ρ->∃ ρ1 ρ2,asg x ρ=some ρ1/\body ρ1=.nx ρ2/\I (j + 1) ρ2)->∃ ρ',zxu asg body els ρ=.nx ρ'/\I els.length ρ'
 | [],I,ρ,h,_=>⟨ρ,rfl,h⟩
 | x::xs,I,ρ,h,hb=>by
  obtain ⟨ρ1,ρ2,e1,e2,h2⟩:=hb 0 x ρ rfl h
  obtain ⟨ρ',e',h'⟩:=zpb xs (λ j=>I (j + 1)) ρ2 h2 λ j y ρ hy hi=>hb (j + 1) y ρ (by simpa using hy) hi
  refine ⟨ρ',?_,h'⟩
  unfold zxu
  rw [e1]
  dsimp only
  rw [e2]
  exact e'
theorem qh3 {v:Vw}{fa:Fa}{vs:List Nat}{asg:PV->Rho->Option Rho}{body:Fs}{ρ ρ1 ρ2:Rho}{xs:List (PV×Nat)}{els:List PV} (I:Nat->Rho->Prop) (hf:fa ρ=.ok (xs,ρ1)) (he:zzx v (xs.map (·.1))=some els) (ec:zqk (if zzy xs=true then om else 0) vs ρ1=ρ2) (h0:I 0 ρ2)
  (hb:∀ j x ρ,els[j]?=some x->I j ρ->∃ ρ1 ρ2,asg x ρ=some ρ1/\body ρ1=.nx ρ2/\I (j + 1) ρ2):∃ ρ',zjt v fa vs asg body ρ=.nx ρ'/\I els.length ρ':=by
 obtain ⟨ρ',e,h⟩:=zpb els I ρ2 h0 hb
 refine ⟨ρ',?_,h⟩
 unfold zjt
 rw [hf]
 dsimp only
 rw [he]
 dsimp only
 rw [ec]
 exact e
theorem qh4 {f:Fx}{vs:List Nat}{asg:PV->Rho->Option Rho}{body:Fs}{ρ ρ1 ρ2:Rho}{els:List PV}{d:Nat} (I:Nat->Rho->Prop) (hf:f ρ=.ok (.lst els,d,ρ1)) (ec:zqk d vs ρ1=ρ2) (h0:I 0 ρ2)
  (hb:∀ j x ρ,els[j]?=some x->I j ρ->∃ ρ1 ρ2,asg x ρ=some ρ1/\body ρ1=.nx ρ2/\I (j + 1) ρ2):∃ ρ',zvv f vs asg body ρ=.nx ρ'/\I els.length ρ':=by
 obtain ⟨ρ',e,h⟩:=zpb els I ρ2 h0 hb
 refine ⟨ρ',?_,h⟩
 unfold zvv
 rw [hf]
 dsimp only
 rw [ec]
 exact e
theorem qo7 {i:Nat}{f:Fx}{vs:List Nat}{ρ ρ1 ρ2:Rho}{ys:List PV}{e:Nat}{xs:List PV}{d0 d:Nat}{xs0:List PV} (h0:ρ[i]?=some (some (.lst xs0,d0 + 1))) (h:f ρ=.ok (.lst ys,e,ρ1)) (h1:(zqk e vs ρ1)[i]?=some (some (.lst xs,d))) (hd:d≠0) (hl:xs.length + ys.length<=va2)
  (e2:(zqk e vs ρ1).set i (some (.lst (xs++ys),1))=ρ2):sExt i f vs ρ=.nx ρ2:=by
 unfold sExt
 rw [h0]
 dsimp only
 rw [h]
 dsimp only
 rw [h1]
 dsimp only
 rw [if_pos ⟨hd,hl⟩,e2]
abbrev C3:=Nat×Nat×Nat
def qgd (t:List (List Int)) (i j:Nat):List C3:=(jc3 (g t i j).toNat).map λ k=>(i,j,k)
def rowC (t:List (List Int)) (i b:Nat):List C3:=(jc3 b).flatMap (qgd t i)
def qf2 (t:List (List Int)) (a b:Nat):List C3:=(jc3 a).flatMap λ i=>rowC t i b
theorem qei (t:List (List Int)) (i j:Nat):rowC t i (j + 1)=rowC t i j++qgd t i j:=by
 unfold rowC
 rw [jh6,jl3]
 simp
theorem zhv (t:List (List Int)) (i j:Nat):(qgd t i j).length=(g t i j).toNat:=by unfold qgd;rw [ja1,je5]
theorem qbm {a b c:Nat}{t:List (List Int)} (p:Pile a b c t) {i:Nat} (hi:i < a):∀ {j:Nat},j<=b->(rowC t i j).length<=j * c
 | 0,_=>by unfold rowC;simp
 | j + 1,h=>by
  rw [qei,jb1,zhv,jl5]
  have:=qbm p hi (j:=j) (by omega)
  have:=p.hi i j hi (by omega)
  omega
theorem zmu {xs:List Int} (h1:xs.length<=1000) (h2:∀ x∈xs,-1000000<=x/\x<=1000000):qaj xs=true:=by
 unfold qaj
 rw [ja4,decide_eq_true_iff,jc4]
 refine ⟨by omega,λ x hx=>?_⟩
 have:=h2 x hx
 rw [ja4,decide_eq_true_iff,decide_eq_true_iff]
 omega
theorem qd4 {fa:Fa}{ρ ρ1:Rho}{xs:List Int}{d:Nat} (h:fa ρ=.ok ([(il xs,d)],ρ1)) (hs:qaj xs=true):zqb zgw fa ρ=.ok (.int xs.sum,om,ρ1):=by
 refine zqx h ?_
 show (match zkb (xs.map PV.int) with | some ns=>if qaj ns=true then some (PV.int ns.sum,om) else none | none=>none)=_
 rw [zkn]
 dsimp only
 rw [if_pos hs]
theorem qnr {a b:Nat}{t:List (List Int)} (ht:Tab a b t) {i:Nat} (hi:i < a):t.getD i []=(jc3 b).map (g t i):=
 zfo (by rw [ht.row hi,ja1,je5]) λ j hj=>by
  rw [qav (by rw [<- ht.row hi];exact hj)];rfl
theorem zgi {f:Nat->Int}:∀ {n:Nat},(∀ i,i < n->0<=f i)->((((jc3 n).map λ i=>(f i).toNat).sum:Nat):Int)=((jc3 n).map f).sum
 | 0,_=>rfl
 | n + 1,h=>by
  rw [jh6,je3,je3,jh7,jh7,jp6,zgi λ i hi=>h i (by omega)]
  have:=h n (by omega)
  simp
  omega
theorem qbl {a b c:Nat}{t:List (List Int)} (p:Pile a b c t) {i:Nat} (hi:i < a):((rowC t i b).length:Int)=(t.getD i []).sum:=by
 rw [qnr p.tab hi,<- zgi λ j hj=>p.lo i j hi hj]
 unfold rowC
 rw [jn5]
 have e:(λ j=>(qgd t i j).length)=λ j=>(g t i j).toNat:=funext λ j=>zhv t i j
 rw [e]
theorem zhs {a b c:Nat}{t:List (List Int)} (p:Pile a b c t):((qf2 t a b).length:Int)=(t.map jn8).sum:=by
 have e:t.map jn8=(jc3 a).map λ i=>(t.getD i []).sum:=by
  refine zfo (by rw [ja1,p.tab.1,ja1,je5]) λ i hi=>?_
  rw [ja1,p.tab.1] at hi
  rw [qav hi,ja2,jd1,zzn (by rw [p.tab.1];exact hi)]
  rfl
 rw [e]
 unfold qf2
 rw [jn5]
 have:∀ n,n<=a->((((jc3 n).map λ i=>(rowC t i b).length).sum:Nat):Int)=((jc3 n).map λ i=>(t.getD i []).sum).sum:=λ n=>by
  induction n with
  | zero=>intro _;rfl
  | succ n ih=>
   intro hn
   rw [jh6,je3,je3,jh7,jh7,jp6,ih (by omega)]
   have:=qbl p (i:=n) (by omega)
   simp only [jc8,jm4,ji0,jo4]
   omega
 exact this a (jb8 _)
theorem qcy {a b c:Nat}{t:List (List Int)} (p:Pile a b c t) {i:Nat} (hi:i < a):0<=(t.getD i []).sum/\(t.getD i []).sum<=b * c:=by
 rw [<- qbl p hi]
 have:=qbm p hi (j:=b) (jb8 _)
 exact ⟨by omega,by rw [<- jm7];omega⟩
theorem qk9 {a b c:Nat}{t:List (List Int)} (p:Pile a b c t) (ha:1<=a/\a<=30) (hb:1<=b/\b<=30) (hc:1<=c/\c<=1000):f_how_many_cubes [bx a b c,tb t]=.ok (.int (qf2 t a b).length,om,.non):=by
 have z:=sz
 have ht:=p.tab
 have l1:=ht.1
 let R:Rho:=[some (bx a b c,0),some (tb t,0)]
 have s1:zxb (zqc f_must_be_pile (zqa (bVar 0) (zqa (bVar 1) (aNil)))) R=.nx R:=zzp (zqj (xs:=[(bx a b c,0),(tb t,0)]) rfl (zwx ht (by omega) (by omega) (by omega) ((zzi ht).mpr p)))
 have bc:b * c<=30000:=jd4 (jk2 hb.2 hc.2) (by decide)
 have bc':(b:Int) * (c:Int)<=30000:=by rw [<- jm7];omega
 have e1:∀ r∈t,(zqb zgw (zqa (bVar 2) (aNil))) (R++[some (il r,0)])=.ok (.int r.sum,om,R++[some (il r,0)]):=λ r hr=>by
  obtain ⟨i,hi,rfl⟩:=zym hr
  have hi':i < a:=by omega
  refine qd4 (d:=0) (xs:=t.getD i []) rfl (zmu (by rw [ht.row hi'];omega) λ x hx=>?_)
  obtain ⟨j,hj,rfl⟩:=qby hx
  rw [ht.row hi'] at hj
  have h1:=p.lo i j hi' hj
  have h2:=p.hi i j hi' hj
  exact ⟨by show -1000000<=g t i j;omega,by show g t i j<=1000000;omega⟩
 have e2:=zzf (n:=2) (f:=bVar 1) (ρ:=R) (enc:=il) (q:=λ r=>.int r.sum) (d:=0) t rfl rfl e1 (by omega)
 have e3:PV.lst (t.map λ r=>.int r.sum)=il (t.map jn8):=by unfold il;rw [jd9];rfl
 rw [e3] at e2
 have e4:=qd4 (zqt e2) (zmu (by rw [ja1];omega) λ x hx=>by
  obtain ⟨r,hr,rfl⟩:=jd5.mp hx
  obtain ⟨i,hi,rfl⟩:=zym hr
  have:=qcy p (i:=i) (by omega)
  omega)
 refine zwr rfl (ρ':=R) ((zqi s1).trans (zwg (e4.trans ?_)))
 rw [zhs p]
def Xf_rest_of:Fs:=(sSeq (zxb (zqc f_must_be_pile (zqa (bVar 0) (zqa (bVar 1) (aNil)))))
 (sSeq (sSet false 2 (zqb zqf (aNil)) [])
 (sSeq (zjt .rev (zqa (bVar 1) (aNil)) [1] (asgN 3) (sApp 2 (zzw .rev (zqa (bVar 3) (aNil)) 1 (asgN 4) zqr (bBin zxj (bBin zqe (bVar 0) (bC (.int 2))) (bVar 4))) [3,0,3]))
 (zkp 2))))
def f_rest_of:Fn:=mkFn false 2 2 Xf_rest_of
def zpt (t:List (List Int)) (c:Int):List (List Int):=t.reverse.map λ r=>r.reverse.map λ h=>c - h
theorem qie {α:Type}{n:Nat}{v:Vw}{fa:Fa}{elt:Fx}{enc q:α->PV}{ρ ρ1:Rho}{as:List (PV×Nat)} (xs:List α) (hf:fa ρ=.ok (as,ρ1)) (hv:zzx v (as.map (·.1))=some (xs.map enc)) (hn:ρ1.length=n) (he:∀ x∈xs,elt (ρ1++[some (enc x,dv (enc x))])=.ok (q x,om,ρ1++[some (enc x,dv (enc x))])) (hl:xs.length<=va2):
  zzw v fa 1 (asgN n) zqr elt ρ=.ok (.lst (xs.map q),om,ρ1):=by
 unfold zzw
 rw [hf]
 dsimp only
 rw [hv]
 dsimp only
 rw [zwy (p:=λ _=>true) (q:=q) (e:=λ _=>om) xs ρ1 [] hn (λ _ _=>rfl) (λ x hx _=>he x hx) (by simpa using hl),jf5.mpr (λ _ _=>rfl)]
 show zzk (xs.map λ x=>(q x,om)) ρ1=_
 unfold zzk
 rw [zzq,jd9]
 rfl
theorem qam {a b c:Nat}{t:List (List Int)} (p:Pile a b c t) (ha:1<=a/\a<=100) (hb:1<=b/\b<=100) (hc:1<=c):f_rest_of [bx a b c,tb t]=.ok (tb (zpt t c),om,.non):=by
 have z:=sz
 have ht:=p.tab
 have l1:=ht.1
 let R (q:List (List Int)) (s3:QQ.Slot):Rho:=[some (bx a b c,0),some (tb t,0),some (tb q,om),s3]
 have s1:zxb (zqc f_must_be_pile (zqa (bVar 0) (zqa (bVar 1) (aNil)))) [some (bx a b c,0),some (tb t,0),none,none]=.nx [some (bx a b c,0),some (tb t,0),none,none]:=zzp (zqj (xs:=[(bx a b c,0),(tb t,0)]) rfl (zwx ht ha hb (by omega) ((zzi ht).mpr p)))
 have s2:sSet false 2 (zqb zqf (aNil)) [] [some (bx a b c,0),some (tb t,0),none,none]=.nx (R [] none):=by kernel_rfl
 let rs (n:Nat):List (List Int):=(t.reverse.take n).map λ r=>r.reverse.map λ h=>(c:Int) - h
 obtain ⟨ρ',e6,s3,rfl⟩:=qh3 (v:=.rev) (fa:=zqa (bVar 1) (aNil)) (vs:=[1]) (asg:=asgN 3) (body:=sApp 2 (zzw .rev (zqa (bVar 3) (aNil)) 1 (asgN 4) zqr (bBin zxj (bBin zqe (bVar 0) (bC (.int 2))) (bVar 4))) [3,0,3]) (ρ:=R [] none) (xs:=[(tb t,0)]) (els:=t.reverse.map il)
  (λ n ρ=>∃ s3,ρ=R (rs n) s3) rfl (by show some (t.map il).reverse=_;rw [jo9]) rfl ⟨none,by show R [] none=R ((t.reverse.take 0).map _) none;rw [jk1];rfl⟩ (by
   rintro n y ρ hy ⟨s3,rfl⟩
   have hn:n < t.reverse.length:=by
    have:=(ja8.mp hy).1
    rw [ja1] at this
    exact this
   rw [jd1,jb3 hn] at hy
   cases hy
   let r:=t.reverse[n]
   have hr:r∈t:=jp0.mp (je2 hn)
   have e1:=qie (n:=4) (v:=.rev) (fa:=zqa (bVar 3) (aNil)) (elt:=bBin zxj (bBin zqe (bVar 0) (bC (.int 2))) (bVar 4)) (enc:=PV.int) (q:=λ h=>.int ((c:Int) - h)) (ρ:=R (rs n) (some (il r,0))) (ρ1:=R (rs n) (some (il r,0))) (as:=[(il r,0)]) r.reverse rfl (by show some (r.map PV.int).reverse=_;rw [jo9]) rfl (λ h _=>zvs (i:=(c:Int)) (j:=h) rfl rfl) (by rw [je7,ht.2 r hr];omega)
   have e2:PV.lst (r.reverse.map λ h=>.int ((c:Int) - h))=il (r.reverse.map λ h=>(c:Int) - h):=by unfold il;rw [jd9];rfl
   rw [e2] at e1
   refine ⟨R (rs n) (some (il r,0)),R (rs (n + 1)) (some (il r,0)),rfl,?_,_,rfl⟩
   have hlen:((rs n).map il).length < va2:=by
    have e:((rs n).map il).length=(t.reverse.take n).length:=by rw [ja1,ja1]
    rw [e,jc7,je7]
    omega
   refine (zmp (i:=2) (d0:=999) (d:=om) (xs:=(rs n).map il) (xs0:=(rs n).map il) rfl e1 rfl (by decide) hlen rfl).trans ?_
   have:PV.lst ((rs n).map il++[il (r.reverse.map λ h=>(c:Int) - h)])=tb (rs (n + 1)):=by
    rw [qdn]
    show tb ((t.reverse.take n).map _++_)=tb ((t.reverse.take (n + 1)).map _)
    rw [List.take_succ,jb3 hn,je3]
    rfl
   rw [this]
   rfl)
 rw [ja1,je7] at e6
 have:rs t.length=zpt t c:=by
  show (t.reverse.take t.length).map _=_
  rw [jf9 (by rw [je7];exact jb8 _)]
  rfl
 rw [this] at e6
 exact zwr rfl ((zqi s1).trans ((zqi s2).trans ((zqi e6).trans rfl)))
theorem qej {α:Type}{xs:List α}{d:α}{i:Nat} (h:i < xs.length):xs.reverse.getD i d=xs.getD (xs.length - 1 - i) d:=by
 rw [ja2,jm8 h,ja2]
theorem zzz {a b:Nat}{c:Int}{t:List (List Int)} (ht:Tab a b t):Tab a b (zpt t c):=by
 refine ⟨by unfold zpt;rw [ja1,je7,ht.1],λ r hr=>?_⟩
 obtain ⟨q,hq,rfl⟩:=jd5.mp hr
 rw [ja1,je7,ht.2 q (jp0.mp hq)]
theorem qhr {f:Int->Int}{xs:List Int}{j:Nat} (h:j < xs.length):(xs.map f).getD j 0=f (xs.getD j 0):=by
 rw [ja2,jd1,zwv h];rfl
theorem qe7 {f:List Int->List Int}{t:List (List Int)}{j:Nat} (h:j < t.length):(t.map f).getD j []=f (t.getD j []):=by
 rw [ja2,jd1,zzn h];rfl
theorem zwi {a b:Nat}{c:Int}{t:List (List Int)} (ht:Tab a b t) {i j:Nat} (hi:i < a) (hj:j < b):g (zpt t c) i j=c - g t (a - 1 - i) (b - 1 - j):=by
 unfold g zpt
 have hi2:a - 1 - i < a:=by omega
 rw [qe7 (by rw [je7,ht.1];exact hi),qej (by rw [ht.1];exact hi),ht.1,qhr (by rw [je7,ht.row hi2];exact hj),qej (by rw [ht.row hi2];exact hj),ht.row hi2]
theorem zgn {a b:Nat}{c:Int}{t:List (List Int)} (p:Pile a b c t):Pile a b c (zpt t c):=by
 refine ⟨zzz p.tab,λ i j hi hj=>?_,λ i j hi hj=>?_,λ i j hi hj=>?_,λ i j hi hj=>?_⟩
 ·rw [zwi p.tab hi hj];have:=p.hi (a - 1 - i) (b - 1 - j) (by omega) (by omega);omega
 ·rw [zwi p.tab hi hj];have:=p.lo (a - 1 - i) (b - 1 - j) (by omega) (by omega);omega
 ·rw [zwi p.tab hi hj,zwi p.tab (by omega) hj]
  have:=p.dn (a - 1 - (i + 1)) (b - 1 - j) (by omega) (by omega)
  rw [show a - 1 - (i + 1) + 1=a - 1 - i by omega] at this
  omega
 ·rw [zwi p.tab hi hj,zwi p.tab hi (by omega)]
  have:=p.rt (a - 1 - i) (b - 1 - (j + 1)) (by omega) (by omega)
  rw [show b - 1 - (j + 1) + 1=b - 1 - j by omega] at this
  omega
theorem orF {f g:Fx}{ρ ρ1:Rho}{d:Nat} (h:f ρ=.ok (.bl false,d,ρ1)):bOrV f g ρ=g ρ1:=by
 unfold bOrV
 rw [h]
 rfl
theorem qbp (v:Int):∀ n:Nat,repL n [.int v]=(ja7 n v).map PV.int
 | 0=>rfl
 | n + 1=>by
  show [PV.int v]++repL n [.int v]=_
  rw [qbp v n]
  rfl
theorem qbo {f g:Fx}{ρ ρ1 ρ2:Rho}{v:Int}{n:Nat}{d e:Nat} (h1:f ρ=.ok (.lst [.int v],d,ρ1)) (h2:g ρ1=.ok (.int (n:Int),e,ρ2)) (hn:n<=1000):bBin zxc f g ρ=.ok (il (ja7 n v),om,ρ2):=by
 refine zwb h1 h2 ?_
 have z:=sz
 unfold zxc
 dsimp only
 rw [if_pos ⟨by omega,by omega,by rw [ja6,je4];omega⟩,je4,qbp,qf0]
 rfl
theorem zpm {α:Type}{k:Nat}{asg:PV->Rho->Option Rho}{test:Fb}{elt:Fx}{enc q:α->PV}{E:α->Rho}{e:α->Nat}{p:α->Bool}:∀ (xs:List α) (ρ:Rho) (acc:List (PV×Nat)),(∀ x∈xs,asg (enc x) (ρ++ja7 k none)=some (ρ++E x)) ->
  (∀ x∈xs,test (ρ++E x)=.ok (p x,ρ++E x))->(∀ x∈xs,p x=true->elt (ρ++E x)=.ok (q x,e x,ρ++E x))->acc.length + xs.length<=va2->zxy k asg test elt (xs.map enc) ρ acc=.ok (acc++(xs.filter p).map (λ x=>(q x,e x)),ρ)
 | [],ρ,acc,_,_,_,_=>by simp [zxy]
 | x::xs,ρ,acc,ha,ht,he,hl=>by
  have ih:=λ acc h=>zpm (k:=k) (asg:=asg) (test:=test) (elt:=elt) (p:=p) (q:=q) (e:=e) (enc:=enc) (E:=E) xs ρ acc (λ y hy=>ha y (ja0 _ hy)) (λ y hy=>ht y (ja0 _ hy)) (λ y hy=>he y (ja0 _ hy)) h
  have tk:(ρ++E x).take ρ.length=ρ:=by simp
  rw [jb4] at hl
  rw [jc8]
  unfold zxy
  rw [ha x ja3]
  dsimp only
  rw [ht x ja3]
  dsimp only [Rz.bindN]
  cases hp:p x with
  | false=>rw [if_neg jc6,tk,ih acc (by omega),jj1 (by simp [hp])]
  | true=>
   rw [if_pos rfl,he x ja3 hp]
   dsimp only
   rw [if_pos (by omega),tk,ih _ (by rw [jb1,ja6];omega),jj2 hp]
   simp
theorem zhd {α:Type}{q:α->PV}{xs:List α}{ρ:Rho}:zzk ([]++xs.map λ x=>(q x,om)) ρ=.ok (.lst (xs.map q),om,ρ):=by
 rw [jg7]
 unfold zzk
 rw [zzq,jd9]
 rfl
theorem qpg {α:Type}{k:Nat}{v:Vw}{fa:Fa}{asg:PV->Rho->Option Rho}{elt:Fx}{enc q:α->PV}{E:α->Rho}{ρ ρ1:Rho}{as:List (PV×Nat)} (xs:List α) (hf:fa ρ=.ok (as,ρ1)) (hv:zzx v (as.map (·.1))=some (xs.map enc)) (ha:∀ x∈xs,asg (enc x) (ρ1++ja7 k none)=some (ρ1++E x))
  (he:∀ x∈xs,elt (ρ1++E x)=.ok (q x,om,ρ1++E x)) (hl:xs.length<=va2):zzw v fa k asg zqr elt ρ=.ok (.lst (xs.map q),om,ρ1):=by
 unfold zzw
 rw [hf]
 dsimp only
 rw [hv]
 dsimp only
 rw [zpm (p:=λ _=>true) (q:=q) (e:=λ _=>om) xs ρ1 [] ha (λ _ _=>rfl) (λ x hx _=>he x hx) (by simpa using hl),jf5.mpr (λ _ _=>rfl)]
 exact zhd
theorem qjm {α:Type}{k:Nat}{f:Fx}{asg:PV->Rho->Option Rho}{test:Fb}{elt:Fx}{enc q:α->PV}{E:α->Rho}{p:α->Bool}{ρ ρ1:Rho}{d:Nat} (xs:List α) (hf:f ρ=.ok (.lst (xs.map enc),d,ρ1)) (ha:∀ x∈xs,asg (enc x) (ρ1++ja7 k none)=some (ρ1++E x))
  (ht:∀ x∈xs,test (ρ1++E x)=.ok (p x,ρ1++E x)) (he:∀ x∈xs,p x=true->elt (ρ1++E x)=.ok (q x,om,ρ1++E x)) (hl:xs.length<=va2):zqp f k asg test elt ρ=.ok (.lst ((xs.filter p).map q),om,ρ1):=by
 unfold zqp
 rw [hf]
 dsimp only
 rw [zpm (p:=p) (q:=q) (e:=λ _=>om) xs ρ1 [] ha ht he (by simpa using hl)]
 exact zhd
theorem zmg {α:Type} (xs:List α):xs.filter (λ _=>true)=xs:=jf5.mpr λ _ _=>rfl
theorem zhe {α β:Type}{asg:PV->Rho->Option Rho}{body:Fs}{enc:α->PV}{q:α->β}{N:Nat} (P:List β->Rho->Prop):∀ (xs:List α) (acc:List β) (ρ:Rho),acc.length + xs.length<=N->P acc ρ->(∀ x∈xs,∀ ys ρ,ys.length < N->P ys ρ->∃ ρ1 ρ2,asg (enc x) ρ=some ρ1/\body ρ1=.nx ρ2/\P (ys++[q x]) ρ2) ->
  ∃ ρ',zxu asg body (xs.map enc) ρ=.nx ρ'/\P (acc++xs.map q) ρ'
 | [],acc,ρ,_,h,_=>⟨ρ,rfl,by simpa using h⟩
 | x::xs,acc,ρ,hN,h,hb=>by
  rw [jb4] at hN
  obtain ⟨ρ1,ρ2,e1,e2,h2⟩:=hb x ja3 acc ρ (by omega) h
  obtain ⟨ρ',e',h'⟩:=zhe P xs (acc++[q x]) ρ2 (by rw [jb1,ja6];omega) h2 λ y hy=>hb y (ja0 _ hy)
  refine ⟨ρ',?_,by rw [jc8];rw [jh9] at h';exact h'⟩
  rw [jc8]
  unfold zxu
  rw [e1]
  dsimp only
  rw [e2]
  exact e'
theorem qls {v:Vw}{fa:Fa}{vs:List Nat}{asg:PV->Rho->Option Rho}{body:Fs}{ρ ρ1 ρ2:Rho}{r:Rs}{xs:List (PV×Nat)}{els:List PV} (hf:fa ρ=.ok (xs,ρ1)) (he:zzx v (xs.map (·.1))=some els) (ec:zqk (if zzy xs=true then om else 0) vs ρ1=ρ2) (h:zxu asg body els ρ2=r):zjt v fa vs asg body ρ=r:=by
 unfold zjt
 rw [hf]
 dsimp only
 rw [he]
 dsimp only
 rw [ec,h]
theorem zfr {f:Fx}{vs:List Nat}{asg:PV->Rho->Option Rho}{body:Fs}{ρ ρ1 ρ2:Rho}{r:Rs}{els:List PV}{d:Nat} (hf:f ρ=.ok (.lst els,d,ρ1)) (ec:zqk d vs ρ1=ρ2) (h:zxu asg body els ρ2=r):zvv f vs asg body ρ=r:=by
 unfold zvv
 rw [hf]
 dsimp only
 rw [ec,h]
theorem zfs {en:List (PV×Nat)->Option (Int×Int)}{fa:Fa}{asg:PV->Rho->Option Rho}{body:Fs}{ρ ρ1:Rho}{r:Rs}{as:List (PV×Nat)}{n:Nat} (hf:fa ρ=.ok (as,ρ1)) (hen:en as=some (0,(n:Int))) (h:zxu asg body ((jc3 n).map λ (k:Nat)=>.int (k:Int)) ρ1=r):zwq en fa asg body ρ=r:=by
 unfold zwq
 rw [hf]
 dsimp only
 rw [hen]
 dsimp only
 rw [zbs,show ((n:Int) - 0).toNat=n by omega,<- h]
 congr 2
 funext k
 rw [ji7]
theorem zmq {α β:Type} (f:α->PV) (h:β->PV):∀ (xs:List α) (ys:List β),zipL (xs.map f) (ys.map h)=(xs.zip ys).map λ z=>.tup [f z.1,h z.2]
 | [],_=>by simp [zipL]
 | _::_,[]=>by simp [zipL]
 | x::xs,y::ys=>by
  rw [jc8,jc8,zipL,zmq f h xs ys]
  rfl
theorem qmi {x y z:PV} (h1:f_must_be_pile [x,y]=.ok (.non,om,.non)) (h2:f_must_be_pile [x,z]=.ok (.non,om,.non)):f_must_be_two_piles [x,y,z]=.ok (.non,om,.non):=
 qlt rfl ((zqi (zzp (zqj (xs:=[(x,dv x),(y,dv y)]) rfl h1))).trans (zzp (zqj (xs:=[(x,dv x),(z,dv z)]) rfl h2)))
def zT (h:Int->Int->Int) (t u:List (List Int)):List (List Int):=(t.zip u).map λ z=>ji8 h z.1 z.2
def XfB (op:List (PV×Nat)->Option (PV×Nat)):Fs:=(sSeq (zxb (zqc f_must_be_two_piles (zqa (bVar 0) (zqa (bVar 1) (zqa (bVar 2) (aNil))))))
 (sSeq (sSet false 3 (zqb zqf (aNil)) [])
 (sSeq (zjt .zp (zqa (bVar 1) (zqa (bVar 2) (aNil))) [1,2] (asgT [4,5]) (sApp 3 (zzw .zp (zqa (bVar 4) (zqa (bVar 5) (aNil))) 2 (asgT [6,7]) zqr (zqb op (zqa (bVar 6) (zqa (bVar 7) (aNil))))) [4,5,4,5,4,5]))
 (zkp 3))))
theorem qmd {op:List (PV×Nat)->Option (PV×Nat)}{h:Int->Int->Int} (hop:∀ i j,op [(.int i,om),(.int j,om)]=some (.int (h i j),om)) {a b c:Nat}{t u:List (List Int)} (ht:Tab a b t) (hu:Tab a b u) (ha:a<=1000) (hb:b<=1000)
  (h2:f_must_be_two_piles [bx a b c,tb t,tb u]=.ok (.non,om,.non)):mkFn false 3 3 (XfB op) [bx a b c,tb t,tb u]=.ok (tb (zT h t u),om,.non):=by
 have z:=sz
 let R (s3 s4 s5:QQ.Slot):Rho:=[some (bx a b c,0),some (tb t,0),some (tb u,0),s3,s4,s5]
 have s1:zxb (zqc f_must_be_two_piles (zqa (bVar 0) (zqa (bVar 1) (zqa (bVar 2) (aNil))))) (R none none none)=.nx (R none none none):=zzp (zqj (xs:=[(bx a b c,0),(tb t,0),(tb u,0)]) rfl h2)
 have s2:sSet false 3 (zqb zqf (aNil)) [] (R none none none)=.nx (R (some (tb [],om)) none none):=by kernel_rfl
 have row:∀ (r s:List Int) (s3:QQ.Slot),r.length=b->s.length=b->zzw .zp (zqa (bVar 4) (zqa (bVar 5) (aNil))) 2 (asgT [6,7]) zqr (zqb op (zqa (bVar 6) (zqa (bVar 7) (aNil)))) (R s3 (some (il r,0)) (some (il s,0)))=.ok (il (ji8 h r s),om,R s3 (some (il r,0)) (some (il s,0))):=by
  intro r s s3 hr hs
  rw [qpg (enc:=λ (z:Int×Int)=>.tup [.int z.1,.int z.2]) (q:=λ z=>.int (h z.1 z.2)) (E:=λ z=>[some (.int z.1,om),some (.int z.2,om)]) (r.zip s) rfl (by show some (zipL (r.map PV.int) (s.map PV.int))=_;rw [zmq]) (λ _ _=>rfl) (λ z _=>zqx (xs:=[(.int z.1,om),(.int z.2,om)]) rfl (hop _ _)) (by rw [jn0];omega)]
  show Rz.ok (PV.lst _,om,_)=Rz.ok (PV.lst ((ji8 h r s).map PV.int),om,_)
  rw [<- List.map_uncurry_zip_eq_zipWith,jd9]
  rfl
 obtain ⟨ρ',e',s5,s6,rfl⟩:=zhe (asg:=asgT [4,5]) (body:=sApp 3 (zzw .zp (zqa (bVar 4) (zqa (bVar 5) (aNil))) 2 (asgT [6,7]) zqr (zqb op (zqa (bVar 6) (zqa (bVar 7) (aNil))))) [4,5,4,5,4,5]) (enc:=λ (z:List Int×List Int)=>.tup [il z.1,il z.2]) (q:=λ z=>ji8 h z.1 z.2) (N:=a)
  (λ ys ρ=>∃ s4 s5,ρ=R (some (tb ys,om)) s4 s5) (t.zip u) [] (R (some (tb [],om)) none none) (by rw [jh8,jn0,ht.1];omega) ⟨none,none,rfl⟩ (by
   rintro z hz ys _ hy ⟨s4,s5,rfl⟩
   have h1:=ht.2 z.1 (jg6 hz).1
   have h2:=hu.2 z.2 (jg6 hz).2
   refine ⟨R (some (tb ys,om)) (some (il z.1,0)) (some (il z.2,0)),_,rfl,zmp (xs:=ys.map il) (d:=om) (d0:=999) rfl (row z.1 z.2 _ h1 h2) rfl (by decide) (by rw [ja1];omega) rfl,some (il z.1,0),some (il z.2,0),?_⟩
   show R (some (PV.lst (ys.map il++[il (ji8 h z.1 z.2)]),om)) _ _=R (some (PV.lst ((ys++[ji8 h z.1 z.2]).map il),om)) _ _
   rw [je3]
   rfl)
 rw [jg7] at e'
 have s3:=qls (v:=.zp) (fa:=zqa (bVar 1) (zqa (bVar 2) aNil)) (vs:=[1,2]) (ρ:=R (some (tb [],om)) none none) (xs:=[(tb t,0),(tb u,0)]) (els:=(t.zip u).map λ z=>.tup [il z.1,il z.2]) rfl (by show some (zipL (t.map il) (u.map il))=_;rw [zmq]) rfl e'
 exact zwr rfl ((zqi s1).trans ((zqi s2).trans ((zqi s3).trans rfl)))
theorem qio {a b c:Nat}{t u:List (List Int)} (ht:Tab a b t) (hu:Tab a b u) (ha:a<=1000) (hb:b<=1000) (h2:f_must_be_two_piles [bx a b c,tb t,tb u]=.ok (.non,om,.non)):f_pile_below [bx a b c,tb t,tb u]=.ok (tb (zT (λ i j=>if j < i then j else i) t u),om,.non):=
 qmd (op:=zzd) (λ _ _=>rfl) ht hu ha hb h2
theorem qgs {a b c:Nat}{t u:List (List Int)} (ht:Tab a b t) (hu:Tab a b u) (ha:a<=1000) (hb:b<=1000) (h2:f_must_be_two_piles [bx a b c,tb t,tb u]=.ok (.non,om,.non)):f_pile_above [bx a b c,tb t,tb u]=.ok (tb (zT (λ i j=>if j > i then j else i) t u),om,.non):=
 qmd (op:=zkx) (λ _ _=>rfl) ht hu ha hb h2
def zxn (a b:Nat):List (Nat×Nat):=(jc3 a).flatMap λ i=>(jc3 b).map λ j=>(i,j)
def pr (z:Nat×Nat):PV:=.tup [.int (z.1:Int),.int (z.2:Int)]
theorem zxa {a b:Nat}{z:Nat×Nat}:z∈zxn a b↔z.1 < a/\z.2 < b:=by
 unfold zxn
 simp only [List.mem_flatMap,jd5,jd3]
 constructor
 ·rintro ⟨i,hi,j,hj,rfl⟩;exact ⟨hi,hj⟩
 ·intro h;exact ⟨z.1,h.1,z.2,h.2,rfl⟩
theorem qb8 {α:Type}{q:Nat->List α}{b:Nat} (h:∀ i,(q i).length=b):∀ a,((jc3 a).flatMap q).length=a * b
 | 0=>by simp
 | a + 1=>by rw [jh6,jl3,jb1,qb8 h a,jl5];simp [h]
theorem zkw (a b:Nat):(zxn a b).length=a * b:=qb8 (λ i=>by rw [ja1,je5]) a
theorem qnp {R:Rho}{fn:Fx}{b i:Nat}{n:Nat} (hb:b<=100) (hn:R.length=n) (hf:fn R=.ok (.int (b:Int),om,R)) (he:∀ k,k < b->zqb zwn (zqa (bVar 2) (zqa (bVar n) (aNil))) (R++[some (.int (k:Int),om)])=.ok (pr (i,k),om,R++[some (.int (k:Int),om)])):
  zxs zqy (zqa fn (aNil)) 1 (asgN n) zqr (zqb zwn (zqa (bVar 2) (zqa (bVar n) (aNil)))) R=.ok (.lst (((jc3 b).map λ j=>(i,j)).map pr),om,R):=by
 have z:=sz
 have w:=zbh (n:=n) (en:=zqy) (fa:=zqa fn aNil) (elt:=zqb zwn (zqa (bVar 2) (zqa (bVar n) (aNil)))) (ρ:=R) (ρ1:=R) (as:=[(.int (b:Int),om)]) (lo:=0) (hi:=(b:Int)) (q:=λ m=>pr (i,m)) (zqt hf) (zxw (by omega) (by omega)) hn (λ m hm=>by rw [ji7];exact he m (by omega)) (by omega)
 rw [w,show ((b:Int) - 0).toNat=b by omega,jd9]
 rfl
theorem zjk (a b:Nat):zxn (a + 1) b=zxn a b++(jc3 b).map λ j=>(a,j):=by
 unfold zxn
 rw [jh6,jl3]
 simp
theorem zgq {a b c:Nat} (ha:a<=100) (hb:b<=100):∃ d,d≠0/\f_places_of [bx a b c]=.ok (.lst ((zxn a b).map pr),d,.non):=by
 have z:=sz
 let R (s1 s2:QQ.Slot):Rho:=[some (bx a b c,0),s1,s2]
 have s1:sSet false 1 (zqb zqf (aNil)) [] (R none none)=.nx (R (some (.lst [],om)) none):=by kernel_rfl
 obtain ⟨ρ',e',d,s2,hd,rfl⟩:=zvn (i:=2) (en:=zqy) (fa:=zqa (bBin zqe (bVar 0) (bC (.int 0))) aNil) (body:=sExt 1 (zxs zqy (zqa (bBin zqe (bVar 0) (bC (.int 1))) (aNil)) 1 (asgN 3) zqr (zqb zwn (zqa (bVar 2) (zqa (bVar 3) (aNil))))) [2]) (ρ:=R (some (.lst [],om)) none) (lo:=0) (hi:=(a:Int)) (as:=[(.int (a:Int),om)])
  (λ k ρ=>∃ d s2,d≠0/\ρ=R (some (.lst ((zxn k b).map pr),d)) s2) rfl (zxw (by omega) (by omega)) ⟨om,none,by decide,rfl⟩ (by
   rintro i _ hi ⟨d,s2,hd,rfl⟩
   obtain ⟨d0,rfl⟩:∃ d0,d=d0 + 1:=⟨d - 1,by omega⟩
   rw [ji7]
   refine ⟨(show 2 < 3 by decide),_,qo7 (i:=1) (d0:=d0) (d:=d0 + 1) rfl (qnp (R:=R (some (.lst ((zxn i b).map pr),d0 + 1)) (some (.int (i:Int),om))) (i:=i) hb rfl rfl λ k _=>rfl) rfl hd ?_ rfl,1,some (.int (i:Int),om),by decide,?_⟩
   ·rw [ja1,ja1,ja1,je5,zkw]
    have:i * b<=100 * 100:=jk2 (by omega) hb
    omega
   ·show R (some (PV.lst ((zxn i b).map pr++((jc3 b).map λ j=>(i,j)).map pr),1)) _=R (some (PV.lst ((zxn (i + 1) b).map pr),1)) _
    rw [zjk,je3])
 rw [show ((a:Int) - 0).toNat=a by omega] at e'
 exact ⟨d,hd,zwr rfl ((zqi s1).trans ((zqi e').trans rfl))⟩
def leT (a b:Nat) (t u:List (List Int)):Bool:=(zxn a b).all λ z=>decide (g t z.1 z.2<=g u z.1 z.2)
theorem qle {a b c:Nat}{t u:List (List Int)} (ht:Tab a b t) (hu:Tab a b u) (ha:a<=100) (hb:b<=100) (h2:f_must_be_two_piles [bx a b c,tb t,tb u]=.ok (.non,om,.non)):f_lies_below [bx a b c,tb t,tb u]=.ok (.bl (leT a b t u),om,.non):=by
 have z:=sz
 let R:Rho:=[some (bx a b c,0),some (tb t,0),some (tb u,0)]
 have s1:zxb (zqc f_must_be_two_piles (zqa (bVar 0) (zqa (bVar 1) (zqa (bVar 2) (aNil))))) R=.nx R:=zzp (zqj (xs:=[(bx a b c,0),(tb t,0),(tb u,0)]) rfl h2)
 obtain ⟨d,_,hp⟩:=zgq (c:=c) ha hb
 have e1:=qjm (k:=2) (f:=zqc f_places_of (zqa (bVar 0) (aNil))) (asg:=asgT [3,4]) (test:=zqr) (elt:=bBin (zxh λ i j=>decide (i<=j)) (bBin zqe (bBin zqe (bVar 1) (bVar 3)) (bVar 4)) (bBin zqe (bBin zqe (bVar 2) (bVar 3)) (bVar 4))) (enc:=pr) (q:=λ z=>.bl (decide (g t z.1 z.2<=g u z.1 z.2))) (E:=λ z=>[some (.int (z.1:Int),om),some (.int (z.2:Int),om)]) (p:=λ _=>true) (ρ:=R) (zxn a b) (zqj (xs:=[(bx a b c,0)]) rfl hp) (λ _ _=>rfl) (λ _ _=>rfl)
  (λ z hz _=>zpo (zvm (i:=z.1) (j:=z.2) ht (d:=0) rfl rfl rfl (zxa.mp hz).1 (zxa.mp hz).2) (zvm (i:=z.1) (j:=z.2) hu (d:=0) rfl rfl rfl (zxa.mp hz).1 (zxa.mp hz).2)) (by rw [zkw];have:a * b<=100 * 100:=jk2 ha hb;omega)
 rw [zmg] at e1
 exact zwr rfl ((zqi s1).trans (zwg (all_ok e1)))
theorem qa3 {n i:Nat}{t:List (List Int)}{ρ:Rho}{d:Nat} (hf:bVar i ρ=.ok (tb t,d,ρ)) (hn:ρ.length=n) (hl:t.length<=1000):zqp (bVar i) 1 (asgN n) zqr (zqb zvb (zqa (bVar n) (aNil))) ρ=.ok (tb t,om,ρ):=
 have z:=sz
 zzf (n:=n) (enc:=il) (q:=il) t hf hn (λ r _=>qla (d:=0) (by
  unfold bVar
  rw [jc9 (by omega),hn,Nat.sub_self]
  rfl)) (by omega)
def setV (t:List (List Int)) (i j:Nat) (v:Int):List (List Int):=t.set i ((t.getD i []).set j v)
theorem qg7 {a b:Nat}{t:List (List Int)} (ht:Tab a b t) {i j:Nat}{v:Int} (hi:i < a):Tab a b (setV t i j v):=by
 refine ⟨by unfold setV;rw [jc5,ht.1],λ r hr=>?_⟩
 rcases jm0 hr with h | h
 ·exact ht.2 r h
 ·rw [h,jc5,ht.row hi]
theorem zkk {a b:Nat}{t:List (List Int)} (ht:Tab a b t) {i j x y:Nat}{v:Int} (hi:i < a) (hj:j < b):g (setV t i j v) x y=if x=i/\y=j then v else g t x y:=by
 show ((t.set i ((t.getD i []).set j v)).getD x []).getD y 0=_
 by_cases h:x=i
 ·rw [h,zyi (by rw [ht.1];exact hi)]
  by_cases h2:y=j
  ·rw [if_pos ⟨rfl,h2⟩,h2,zyi (by rw [ht.row hi];exact hj)]
  ·rw [if_neg (λ z=>h2 z.2),zbo (λ e=>h2 e.symm)];rfl
 ·rw [if_neg (λ z=>h z.1),zbo (λ e=>h e.symm)];rfl
theorem qea {a b c:Nat}{t:List (List Int)} (p:Pile a b c t) {i j:Nat}{v:Int} (hi:i < a) (hj:j < b) (h0:0<=v) (h1:v<=c) (h2:0 < i->v<=g t (i - 1) j) (h3:0 < j->v<=g t i (j - 1)) (h4:i + 1 < a->g t (i + 1) j<=v) (h5:j + 1 < b->g t i (j + 1)<=v):Pile a b c (setV t i j v):=by
 refine ⟨qg7 p.tab hi,λ x y hx hy=>?_,λ x y hx hy=>?_,λ x y hx hy=>?_,λ x y hx hy=>?_⟩
 ·rw [zkk p.tab hi hj]
  have:=p.lo x y hx hy
  split <;> omega
 ·rw [zkk p.tab hi hj]
  have:=p.hi x y hx hy
  split <;> omega
 ·rw [zkk p.tab hi hj,zkk p.tab hi hj]
  have q:=p.dn x y hx hy
  by_cases e:x + 1=i/\y=j
  ·have z:=h2 (by omega)
   rw [if_pos e,if_neg (by omega)]
   rw [<- e.1,<- e.2] at z
   exact z
  ·rw [if_neg e]
   split
   ·rename_i e2
    rw [e2.1,e2.2]
    exact h4 (by omega)
   ·exact q
 ·rw [zkk p.tab hi hj,zkk p.tab hi hj]
  have q:=p.rt x y hx hy
  by_cases e:x=i/\y + 1=j
  ·have z:=h3 (by omega)
   rw [if_pos e,if_neg (by omega)]
   rw [<- e.1,<- e.2] at z
   exact z
  ·rw [if_neg e]
   split
   ·rename_i e2
    rw [e2.1,e2.2]
    exact h5 (by omega)
   ·exact q
theorem qid (xs:List PV) (i:Nat):cutP xs (some ((i:Int) + 1)) (some ((i:Int) + 2))=(xs.drop (i + 1)).take 1:=by
 unfold cutP
 rw [show (i:Int) + 1=((i + 1:Nat):Int) by omega,show (i:Int) + 2=((i + 2:Nat):Int) by omega,HT.sIx_nat,HT.sIx_nat]
 by_cases h:i + 1 < xs.length
 ·rw [jj6 (by omega),jj6 (by omega)]
  congr 1
  omega
 ·rw [je9 (by omega),je9 (by omega)]
  simp
theorem qiw {f h:Fx}{ρ ρ1:Rho}{xs:List PV}{i:Nat}{d:Nat}{j:Fx} (h1:f ρ=.ok (.lst xs,d,ρ1)) (h2:j ρ1=.ok (.int (i:Int),om,ρ1)):bSl f (some (bBin zqg j (bC (.int 1)))) (some (bBin zqg j (bC (.int 2)))) ρ=.ok (.lst ((xs.drop (i + 1)).take 1),d1 ((xs.drop (i + 1)).take 1),ρ1):=by
 unfold bSl
 rw [h1]
 dsimp only [Rz.bind,evO]
 rw [zwp h2 (j:=1) (e:=om) rfl]
 dsimp only
 rw [zwp h2 (j:=2) (e:=om) rfl]
 dsimp only [opSl]
 rw [qid]
theorem qom {fa:Fa}{ρ ρ1:Rho}{x:Int}{xs:List Int}{d:Nat} (h:fa ρ=.ok ([(il (x::xs),d)],ρ1)):zqb zkx fa ρ=.ok (.int (maxI x xs),om,ρ1):=by
 refine zqx h ?_
 show (match zkb ((x::xs).map PV.int) with | some (n::r)=>some (PV.int (maxI n r),om) | _=>none)=_
 rw [zkn]
def zkz (c:Int) (u:List (List Int)) (i j:Nat):Int:=
 let m:=if 0 < i then (if g u (i - 1) j < c then g u (i - 1) j else c) else c
 if 0 < j then (if g u i (j - 1) < m then g u i (j - 1) else m) else m
def zjn (u:List (List Int)) (i j:Nat):Int:=maxI 0 (((u.drop (i + 1)).take 1).map (λ r=>r.getD j 0)++((u.getD i []).drop (j + 1)).take 1)
theorem qcb {α:Type}{xs:List α}{i:Nat}{x d:α} (h:x∈(xs.drop (i + 1)).take 1):i + 1 < xs.length/\x=xs.getD (i + 1) d:=by
 by_cases hl:i + 1 < xs.length
 ·rw [jf1 hl] at h
  simp only [ji5,jk1,jb7] at h
  exact ⟨hl,by rw [h,ja2,jb3 hl];rfl⟩
 ·rw [je9 (by omega)] at h
  cases h
theorem qbv {α:Type}{xs:List α}{i:Nat} (d:α) (h:i + 1 < xs.length):xs.getD (i + 1) d∈(xs.drop (i + 1)).take 1:=by
 rw [ja2,jb3 h,jf1 h]
 exact ja3
theorem qay {a b c:Nat}{u:List (List Int)} (p:Pile a b c u) {i j:Nat} (hi:i < a) (hj:j < b):0<=zjn u i j/\(i + 1 < a->g u (i + 1) j<=zjn u i j)/\(j + 1 < b->g u i (j + 1)<=zjn u i j)/\zjn u i j<=g u i j:=by
 have hr:=p.tab.row hi
 have ge:=qax (((u.drop (i + 1)).take 1).map (λ r=>r.getD j 0)++((u.getD i []).drop (j + 1)).take 1) 0
 refine ⟨ge 0 ja3,λ h=>ge _ (ja0 _ (jb0 _ (jd5.mpr ⟨_,qbv [] (by rw [p.tab.1];exact h),rfl⟩))),λ h=>ge _ (ja0 _ (ja5 _ (qbv 0 (by rw [hr];exact h)))),?_⟩
 rcases jb2.mp (zfm (((u.drop (i + 1)).take 1).map (λ r=>r.getD j 0)++((u.getD i []).drop (j + 1)).take 1) 0) with e | e
 ·unfold zjn;rw [e];exact p.lo i j hi hj
 ·rcases jc0.mp e with e | e
  ·obtain ⟨r,hm,er⟩:=jd5.mp e
   obtain ⟨hl,rfl⟩:=qcb (d:=[]) hm
   unfold zjn
   rw [<- er]
   exact p.dn i j (by rw [p.tab.1] at hl;exact hl) hj
  ·obtain ⟨hl,er⟩:=qcb (d:=0) e
   unfold zjn
   rw [er]
   exact p.rt i j hi (by rw [hr] at hl;exact hl)
theorem zmc {a b c:Nat}{u:List (List Int)} (p:Pile a b c u) {i j:Nat} (hi:i < a) (hj:j < b):zkz c u i j<=c/\(0 < i->zkz c u i j<=g u (i - 1) j)/\(0 < j->zkz c u i j<=g u i (j - 1))/\g u i j<=zkz c u i j:=by
 have h1:=p.hi i j hi hj
 have h2:0 < i->g u i j<=g u (i - 1) j:=λ h=>by have:=p.dn (i - 1) j (by omega) hj;rwa [show i - 1 + 1=i by omega] at this
 have h3:0 < j->g u i j<=g u i (j - 1):=λ h=>by have:=p.rt i (j - 1) hi (by omega);rwa [show j - 1 + 1=j by omega] at this
 unfold zkz
 dsimp only
 refine ⟨?_,λ _=>?_,λ _=>?_,?_⟩ <;> (repeat' split) <;> first | omega | (have:=h2 (by assumption);omega) | (have:=h3 (by assumption);omega) | (have:=h2 (by assumption);have:=h3 (by assumption);omega)
def NB:Fs:=(sSeq (sSet false 6 (zqd a_take 0 (zqa (bBin zqe (bVar 1) (bC (.int 0))) (aNil))) [1])
 (sSeq (sSet false 7 (zqd a_take 0 (zqa (bBin zqe (bVar 1) (bC (.int 1))) (aNil))) [1])
 (sSeq (sSet false 8 (bBin zqe (bVar 1) (bC (.int 2))) [1])
 (sSeq (sIf (bT (bBin (zxh λ i j=>decide (j < i)) (bVar 6) (bC (.int 0)))) (sSet false 8 (zqb zzd (zqa (bVar 8) (zqa (bBin zqe (bBin zqe (bVar 4) (bBin zxj (bVar 6) (bC (.int 1)))) (bVar 7)) (aNil)))) [8,4,6,7]) sNil)
 (sSeq (sIf (bT (bBin (zxh λ i j=>decide (j < i)) (bVar 7) (bC (.int 0)))) (sSet false 8 (zqb zzd (zqa (bVar 8) (zqa (bBin zqe (bBin zqe (bVar 4) (bVar 6)) (bBin zxj (bVar 7) (bC (.int 1)))) (aNil)))) [8,4,6,7]) sNil)
 (sSeq (sSet false 9 (zqb zkx (zqa (bBin zqg (bBin zqg (zqb zqf (zqa (bC (.int 0)) (aNil))) (zqp (bSl (bVar 4) (some (bBin zqg (bVar 6) (bC (.int 1)))) (some (bBin zqg (bVar 6) (bC (.int 2))))) 1 (asgN 10) zqr (bBin zqe (bVar 10) (bVar 7)))) (bSl (bBin zqe (bVar 4) (bVar 6)) (some (bBin zqg (bVar 7) (bC (.int 1)))) (some (bBin zqg (bVar 7) (bC (.int 2)))))) (aNil))) [4,4,7,4,6])
 (zgm 4 (bVar 6) (bVar 7) (bBin zqg (bVar 9) (zqd a_take 0 (zqa (bBin zqg (bBin zxj (bVar 8) (bVar 9)) (bC (.int 1))) (aNil)))))))))))
theorem qqh {a b c:Nat}{u:List (List Int)} (p:Pile a b c u) (ha:1<=a/\a<=30) (hb:1<=b/\b<=30) (hc:1<=c/\c<=1000) {x:PV}{B:Int} (hx:Pl B x) (hB:B<=90000) {s2 s3 s5 s6 s7 s8 s9:QQ.Slot}:
  ∃ u' x' r6 r7 r8 r9,Pile a b c u'/\Pl (B + 3) x'/\NB [some (x,om),some (bx a b c,0),s2,s3,some (tb u,om),s5,s6,s7,s8,s9]=.nx [some (x',om),some (bx a b c,0),s2,s3,some (tb u',om),s5,r6,r7,r8,r9]:=by
 have z:=sz
 have l:=p.tab.1
 let R (u:List (List Int)) (x:PV) (s6 s7 s8 s9:QQ.Slot):Rho:=[some (x,om),some (bx a b c,0),s2,s3,some (tb u,om),s5,s6,s7,s8,s9]
 obtain ⟨iv,x1,hi,hx1,e1⟩:=zwf (f:=bBin zqe (bVar 1) (bC (.int 0))) (r:=[some (bx a b c,0),s2,s3,some (tb u,om),s5,s6,s7,s8,s9]) (m:=(a:Int)) (e:=om) hx (by omega) (by omega) rfl
 obtain ⟨i,rfl⟩:∃ i:Nat,iv=(i:Int):=⟨iv.toNat,by omega⟩
 have hi':i < a:=by omega
 have v1:sSet false 6 (zqd a_take 0 (zqa (bBin zqe (bVar 1) (bC (.int 0))) (aNil))) [1] (R u x s6 s7 s8 s9)=.nx (R u x1 (some (.int (i:Int),om)) s7 s8 s9):=setF e1 (show 6 < 10 by decide) rfl
 obtain ⟨jv,x2,hj,hx2,e2⟩:=zwf (f:=bBin zqe (bVar 1) (bC (.int 1))) (r:=[some (bx a b c,0),s2,s3,some (tb u,om),s5,some (.int (i:Int),om),s7,s8,s9]) (m:=(b:Int)) (e:=om) hx1 (by omega) (by omega) rfl
 obtain ⟨j,rfl⟩:∃ j:Nat,jv=(j:Int):=⟨jv.toNat,by omega⟩
 have hj':j < b:=by omega
 have v2:sSet false 7 (zqd a_take 0 (zqa (bBin zqe (bVar 1) (bC (.int 1))) (aNil))) [1] (R u x1 (some (.int (i:Int),om)) s7 s8 s9)=.nx (R u x2 (some (.int (i:Int),om)) (some (.int (j:Int),om)) s8 s9):=setF e2 (show 7 < 10 by decide) rfl
 let Q (x:PV) (m:Int) (s9:QQ.Slot):Rho:=R u x (some (.int (i:Int),om)) (some (.int (j:Int),om)) (some (.int m,om)) s9
 have v3:sSet false 8 (bBin zqe (bVar 1) (bC (.int 2))) [1] (R u x2 (some (.int (i:Int),om)) (some (.int (j:Int),om)) s8 s9)=.nx (Q x2 c s9):=by kernel_rfl
 let m1:Int:=if 0 < i then (if g u (i - 1) j < (c:Int) then g u (i - 1) j else c) else c
 have v4:sIf (bT (bBin (zxh λ i j=>decide (j < i)) (bVar 6) (bC (.int 0)))) (sSet false 8 (zqb zzd (zqa (bVar 8) (zqa (bBin zqe (bBin zqe (bVar 4) (bBin zxj (bVar 6) (bC (.int 1)))) (bVar 7)) (aNil)))) [8,4,6,7]) sNil (Q x2 c s9)=.nx (Q x2 m1 s9):=by
  have t:bT (bBin (zxh λ i j=>decide (j < i)) (bVar 6) (bC (.int 0))) (Q x2 c s9)=.ok (decide (0 < (i:Int)),Q x2 c s9):=rfl
  show _=Rs.nx (Q x2 (if 0 < i then _ else _) s9)
  by_cases h:0 < i
  ·rw [decide_eq_true (by omega)] at t
   rw [if_pos h]
   have k:=zvs (f:=bVar 6) (g:=bC (.int 1)) (ρ:=Q x2 c s9) (ρ1:=Q x2 c s9) (ρ2:=Q x2 c s9) (i:=(i:Int)) (j:=1) (d:=om) (e:=om) rfl rfl
   rw [show (i:Int) - 1=((i - 1:Nat):Int) by omega] at k
   exact (if_t t).trans (setF (zqx (xs:=[(.int (c:Int),om),(.int (g u (i - 1) j),om)]) (zqm rfl (zqt (zvm (i:=i - 1) (j:=j) p.tab (d:=0) rfl k (e':=om) rfl (by omega) hj'))) rfl) (show 8 < 10 by decide) rfl)
  ·rw [decide_eq_false (by omega)] at t
   rw [if_neg h]
   exact (if_f t).trans rfl
 have v5:sIf (bT (bBin (zxh λ i j=>decide (j < i)) (bVar 7) (bC (.int 0)))) (sSet false 8 (zqb zzd (zqa (bVar 8) (zqa (bBin zqe (bBin zqe (bVar 4) (bVar 6)) (bBin zxj (bVar 7) (bC (.int 1)))) (aNil)))) [8,4,6,7]) sNil (Q x2 m1 s9)=.nx (Q x2 (zkz c u i j) s9):=by
  have t:bT (bBin (zxh λ i j=>decide (j < i)) (bVar 7) (bC (.int 0))) (Q x2 m1 s9)=.ok (decide (0 < (j:Int)),Q x2 m1 s9):=rfl
  show _=Rs.nx (Q x2 (if 0 < j then (if g u i (j - 1) < m1 then g u i (j - 1) else m1) else m1) s9)
  by_cases h:0 < j
  ·rw [decide_eq_true (by omega)] at t
   rw [if_pos h]
   have k:=zvs (f:=bVar 7) (g:=bC (.int 1)) (ρ:=Q x2 m1 s9) (ρ1:=Q x2 m1 s9) (ρ2:=Q x2 m1 s9) (i:=(j:Int)) (j:=1) (d:=om) (e:=om) rfl rfl
   rw [show (j:Int) - 1=((j - 1:Nat):Int) by omega] at k
   exact (if_t t).trans (setF (zqx (xs:=[(.int m1,om),(.int (g u i (j - 1)),om)]) (zqm rfl (zqt (zvm (i:=i) (j:=j - 1) p.tab (d:=0) rfl (e:=om) rfl k hi' (by omega)))) rfl) (show 8 < 10 by decide) rfl)
  ·rw [decide_eq_false (by omega)] at t
   rw [if_neg h]
   exact (if_f t).trans rfl
 obtain ⟨f0,f1,f2,f3⟩:=qay p hi' hj'
 obtain ⟨g0,g1,g2,g3⟩:=zmc p hi' hj'
 let m:=zkz c u i j
 let lo:=zjn u i j
 have v6:sSet false 9 (zqb zkx (zqa (bBin zqg (bBin zqg (zqb zqf (zqa (bC (.int 0)) (aNil))) (zqp (bSl (bVar 4) (some (bBin zqg (bVar 6) (bC (.int 1)))) (some (bBin zqg (bVar 6) (bC (.int 2))))) 1 (asgN 10) zqr (bBin zqe (bVar 10) (bVar 7)))) (bSl (bBin zqe (bVar 4) (bVar 6)) (some (bBin zqg (bVar 7) (bC (.int 1)))) (some (bBin zqg (bVar 7) (bC (.int 2)))))) (aNil))) [4,4,7,4,6] (Q x2 m s9)=.nx (Q x2 m (some (.int lo,om))):=by
  have w1:=qiw (h:=bVar 0) (f:=bVar 4) (j:=bVar 6) (ρ:=Q x2 m s9) (ρ1:=Q x2 m s9) (xs:=u.map il) (i:=i) (d:=0) rfl rfl
  rw [<- jm2,<- jq2] at w1
  have w2:=zzf (n:=10) (elt:=bBin zqe (bVar 10) (bVar 7)) (enc:=il) (q:=λ r=>.int (r.getD j 0)) ((u.drop (i + 1)).take 1) w1 rfl (λ r hr=>zyn (xs:=r) (k:=(j:Int)) (d:=0) (e:=om) rfl rfl (zwt (by omega) (zwv (by rw [p.tab.2 r (jg5 (je6 hr))];omega)))) (by rw [jc7];omega)
  have w3:=zxm (f:=zqb zqf (zqa (bC (.int 0)) (aNil))) (ρ:=Q x2 m s9) (xs:=[.int 0]) (d:=om) (by kernel_rfl) w2 (by rw [ja1,jc7,ja6];omega)
  have w4:=qiw (h:=bVar 0) (f:=bBin zqe (bVar 4) (bVar 6)) (j:=bVar 7) (ρ:=Q x2 m s9) (ρ1:=Q x2 m s9) (xs:=(u.getD i []).map PV.int) (i:=j) (d:=0) (qfm (t:=u) (k:=(i:Int)) (d:=0) (e:=om) rfl rfl (zwt (by omega) (zzn (by rw [je4,l];exact hi')))) rfl
  have w5:=zxm w3 w4 (by rw [jb1,ja1,jc7,jc7,ja6];omega)
  have w6:PV.lst ([.int 0]++((u.drop (i + 1)).take 1).map (λ r=>PV.int (r.getD j 0))++(((u.getD i []).map PV.int).drop (j + 1)).take 1)=il (0::(((u.drop (i + 1)).take 1).map (λ r=>r.getD j 0)++((u.getD i []).drop (j + 1)).take 1)):=by
   unfold il
   rw [jc8,je3,jd9,<- jm2,<- jq2]
   rfl
  rw [w6] at w5
  exact setF (qom (zqt w5)) (show 9 < 10 by decide) rfl
 have hm:lo<=m/\0<=lo/\m<=c:=⟨jr0 f3 g3,f0,g0⟩
 obtain ⟨r,x3,hr,hx3,e3⟩:=zwf (f:=bBin zqg (bBin zxj (bVar 8) (bVar 9)) (bC (.int 1))) (r:=[some (bx a b c,0),s2,s3,some (tb u,om),s5,some (.int (i:Int),om),some (.int (j:Int),om),some (.int m,om),some (.int lo,om)]) (m:=m - lo + 1) (e:=om) hx2 (by omega) (by omega) rfl
 have v7:zgm 4 (bVar 6) (bVar 7) (bBin zqg (bVar 9) (zqd a_take 0 (zqa (bBin zqg (bBin zxj (bVar 8) (bVar 9)) (bC (.int 1))) (aNil)))) (Q x2 m (some (.int lo,om)))=.nx (R (setV u i j (lo + r)) x3 (some (.int (i:Int),om)) (some (.int (j:Int),om)) (some (.int m,om)) (some (.int lo,om))):=
  qkl (x:=tb u) (a:=(i:Int)) (b:=(j:Int)) (ρ1:=Q x3 m (some (.int lo,om))) (zwp (i:=lo) (d:=om) (ρ1:=Q x2 m (some (.int lo,om))) rfl e3) rfl rfl rfl (qkk (by rw [l];exact hi') (by rw [p.tab.row hi'];exact hj')) rfl rfl
 refine ⟨setV u i j (lo + r),x3,_,_,_,_,qea p hi' hj' (by omega) (by omega) (λ h=>by have:=g1 h;omega) (λ h=>by have:=g2 h;omega) (λ h=>by have:=f1 h;omega) (λ h=>by have:=f2 h;omega),by simpa [jq3] using hx3,(zqi v1).trans ((zqi v2).trans ((zqi v3).trans ((zqi v4).trans ((zqi v5).trans ((zqi v6).trans v7)))))⟩
theorem qe5 {a b c:Nat}{t:List (List Int)} (p:Pile a b c t) (ha:1<=a/\a<=30) (hb:1<=b/\b<=30) (hc:1<=c/\c<=1000) {x:PV}{B:Int} (hx:Pl B x) (hB:B<=70000):∃ u d x',Pile a b c u/\d≠0/\Pl (B + 4000) x'/\a_near [x,bx a b c,tb t]=.ok (tb u,d,x'):=by
 have z:=sz
 have l:=p.tab.1
 let R (x:PV) (s3 s4 s5 s6 s7 s8 s9:QQ.Slot):Rho:=[some (x,om),some (bx a b c,0),some (tb t,0),s3,s4,s5,s6,s7,s8,s9]
 obtain ⟨kd,x1,hkd,hx1,e1⟩:=zwf (f:=bC (.int 4)) (r:=[some (bx a b c,0),some (tb t,0),none,none,none,none,none,none,none]) (m:=4) (e:=om) hx (by omega) (by decide) rfl
 let Q (x:PV) (s4 s5 s6 s7 s8 s9:QQ.Slot):Rho:=R x (some (.int kd,om)) s4 s5 s6 s7 s8 s9
 have v1:sSet false 3 (zqd a_take 0 (zqa (bC (.int 4)) (aNil))) [] (R x none none none none none none none)=.nx (Q x1 none none none none none none):=setF e1 (show 3 < 10 by decide) rfl
 have t2:=t_ok (zyp (neg:=false) (f:=bVar 3) (g:=bC (.int 0)) (ρ:=Q x1 none none none none none none) (i:=kd) (d:=om) (j:=0) (e:=om) rfl rfl)
 by_cases h0:kd=0
 ·rw [decide_eq_true h0] at t2
  refine ⟨t,om,x1,p,by decide,hx1.mono (by omega),zvo rfl (ρ':=Q x1 none none none none none none) (z:=x1) (c:=om) ?_ rfl⟩
  exact (zqi v1).trans (zxx ((if_t t2).trans (zwg (qa3 (d:=0) rfl rfl (by omega)))))
 rw [decide_eq_false h0] at t2
 have t3:=t_ok (zpo (p:=λ i j=>decide (i < j)) (f:=bVar 3) (g:=bC (.int 3)) (ρ:=Q x1 none none none none none none) (i:=kd) (d:=om) (j:=3) (e:=om) rfl rfl)
 by_cases h3:kd < 3
 ·rw [decide_eq_true h3] at t3
  obtain ⟨u,d,x2,pu,hd,hx2,e2⟩:=qcq (a:=a) (b:=b) (c:=c) hx1 (by omega) ha hb hc
  refine ⟨u,d,x2,pu,hd,hx2.mono (by omega),zvo rfl (ρ':=Q x2 none none none none none none) (z:=x2) (c:=om) ?_ rfl⟩
  exact (zqi v1).trans ((zwd t2).trans (zxx ((if_t t3).trans (zwg (zwa (p:=(x1,om)) (x0:=x1) (d0:=om) (xs:=[(bx a b c,0)]) (ρ1:=Q x1 none none none none none none) rfl rfl rfl e2 rfl)))))
 rw [decide_eq_false h3] at t3
 have v4:sSet false 4 (zqp (bVar 2) 1 (asgN 10) zqr (zqb zvb (zqa (bVar 10) (aNil)))) [2,2] (Q x1 none none none none none none)=.nx (Q x1 (some (tb t,om)) none none none none none):=setF (qa3 (d:=0) rfl rfl (by omega)) (show 4 < 10 by decide) rfl
 obtain ⟨w,x2,hw,hx2,e2⟩:=zwf (f:=bC (.int 4)) (r:=[some (bx a b c,0),some (tb t,0),some (.int kd,om),some (tb t,om),none,none,none,none,none]) (m:=4) (e:=om) hx1 (by omega) (by decide) rfl
 obtain ⟨ρ',e5,u,x3,s5,s6,s7,s8,s9,rfl,pu,hx3⟩:=zvn (i:=5) (en:=zqy) (fa:=zqa (bBin zqg (bC (.int 1)) (zqd a_take 0 (zqa (bC (.int 4)) (aNil)))) (aNil)) (body:=NB) (ρ:=Q x1 (some (tb t,om)) none none none none none) (lo:=0) (hi:=1 + w) (as:=[(.int (1 + w),om)])
  (λ k ρ=>∃ u x s5 s6 s7 s8 s9,ρ=Q x (some (tb u,om)) s5 s6 s7 s8 s9/\Pile a b c u/\Pl (B + 2 + 3 * (k:Int)) x) (zqt (zwp (i:=1) (d:=om) rfl e2)) (zxw (by omega) (by omega)) ⟨t,x2,none,none,none,none,none,rfl,p,by simpa [jq3] using hx2⟩ (by
   rintro k _ hk ⟨u,x,s5,s6,s7,s8,s9,rfl,pu,hx⟩
   obtain ⟨u',x',r6,r7,r8,r9,pu',hx',ee⟩:=qqh pu ha hb hc hx (by omega) (s2:=some (tb t,0)) (s3:=some (.int kd,om)) (s5:=some (.int (0 + (k:Int)),om)) (s6:=s6) (s7:=s7) (s8:=s8) (s9:=s9)
   exact ⟨(show 5 < 10 by decide),_,ee,u',x',_,r6,r7,r8,r9,rfl,pu',hx'.mono (by omega)⟩)
 have v6:zkp 4 (Q x3 (some (tb u,om)) s5 s6 s7 s8 s9)=.rt (tb u) om (Q x3 (some (tb u,om)) s5 s6 s7 s8 s9):=by kernel_rfl
 exact ⟨u,om,x3,pu,by decide,hx3.mono (by omega),zvo rfl (ρ':=Q x3 (some (tb u,om)) s5 s6 s7 s8 s9) (z:=x3) (c:=om) ((zqi v1).trans ((zwd t2).trans ((zwd t3).trans ((zqi v4).trans ((zqi e5).trans v6))))) rfl⟩
theorem qbb {a b:Nat}{h:Int->Int->Int}{t u:List (List Int)} (ht:Tab a b t) (hu:Tab a b u):Tab a b (zT h t u):=by
 refine ⟨by unfold zT;rw [ja1,jn0,ht.1,hu.1,jr2],λ r hr=>?_⟩
 obtain ⟨z,hz,rfl⟩:=jd5.mp hr
 rw [List.length_zipWith,ht.2 _ (jg6 hz).1,hu.2 _ (jg6 hz).2,jr2]
theorem zpv {a b:Nat}{h:Int->Int->Int}{t u:List (List Int)} (ht:Tab a b t) (hu:Tab a b u):zT h t u=mkT a b λ i j=>h (g t i j) (g u i j):=by
 refine zzh (qbb ht hu) qk7 λ i j hi hj=>?_
 rw [zvl hi hj]
 have e1:(zT h t u).getD i []=ji8 h (t.getD i []) (u.getD i []):=by
  unfold zT
  rw [ja2,jd1,(List.getElem?_zip_eq_some (z:=(t.getD i [],u.getD i []))).mpr ⟨zzn (by rw [ht.1];exact hi),zzn (by rw [hu.1];exact hi)⟩]
  rfl
 show ((zT h t u).getD i []).getD j 0=_
 rw [e1,ja2,List.getElem?_zipWith,zwv (by rw [ht.row hi];exact hj),zwv (by rw [hu.row hi];exact hj)]
 rfl
theorem qm6 {f j:Fx}{ρ ρ1:Rho}{xs:List PV}{n d e:Nat} (h1:f ρ=.ok (.lst xs,d,ρ1)) (h2:j ρ1=.ok (.int (n:Int),e,ρ1)) (hn:n<=xs.length):bSl f none (some j) ρ=.ok (.lst (xs.take n),d1 (xs.take n),ρ1):=by
 have ec:cutP xs none (some (n:Int))=xs.take n:=by
  unfold cutP
  rw [HT.sIx_nat]
  show (xs.drop 0).take (min n xs.length - 0)=_
  rw [jp9,jr3,jj6 hn]
 unfold bSl
 rw [h1]
 dsimp only [Rz.bind,evO]
 rw [h2]
 dsimp only [opSl]
 rw [ec]
theorem qj8 {f j:Fx}{ρ ρ1:Rho}{xs:List PV}{n d e:Nat} (h1:f ρ=.ok (.lst xs,d,ρ1)) (h2:j ρ1=.ok (.int (n:Int),e,ρ1)) (hn:n < xs.length):bSl f (some (bBin zqg j (bC (.int 1)))) none ρ=.ok (.lst (xs.drop (n + 1)),d1 (xs.drop (n + 1)),ρ1):=by
 have ec:cutP xs (some ((n:Int) + 1)) none=xs.drop (n + 1):=by
  unfold cutP
  rw [show (n:Int) + 1=((n + 1:Nat):Int) by omega,HT.sIx_nat,HT.sIx_none,jj6 (by omega)]
  exact jf9 (by rw [jd6];exact jb8 _)
 unfold bSl
 rw [h1]
 dsimp only [Rz.bind,evO]
 rw [zwp h2 (j:=1) (e:=om) rfl]
 dsimp only [opSl]
 rw [ec]
theorem zyv {f:Fx}{ρ ρ1:Rho}{xs:List PV}{d:Nat} (h1:f ρ=.ok (.lst xs,d,ρ1)):bSl f none (some (bUn zxq (bC (.int 1)))) ρ=.ok (.lst (xs.take (xs.length - 1)),d1 (xs.take (xs.length - 1)),ρ1):=by
 have ec:cutP xs none (some (-1))=xs.take (xs.length - 1):=by
  unfold cutP
  have e:HT.sIx xs.length xs.length (some (-1))=xs.length - 1:=by
   show (if (-1:Int) < 0 then (-1 + (xs.length:Int)).toNat else min (-1:Int).toNat xs.length)=_
   rw [if_pos (by decide)];omega
  rw [e]
  show (xs.drop 0).take (xs.length - 1 - 0)=_
  rw [jp9,jr3]
 unfold bSl
 rw [h1]
 show Rz.ok (PV.lst (cutP xs none (some (-1))),d1 (cutP xs none (some (-1))),ρ1)=_
 rw [ec]
theorem zya {f:Fx}{ρ ρ1:Rho}{x:PV}{d:Nat} (h:f ρ=.ok (x,d,ρ1)):∃ e,zqb zqf (zqa f aNil) ρ=.ok (.lst [x],e,ρ1):=⟨_,zqx (zqt h) (by unfold zqf;rw [if_pos (by have:=sz;show 1<=va2;omega)];rfl)⟩
def rwL (xs:List PV) (j:Nat) (x:PV):List PV:=(xs.take j++[x])++xs.drop (j + 1)
theorem qiy {f fj fx:Fx}{ρ:Rho}{xs:List PV}{x:PV}{j d e c:Nat} (h1:f ρ=.ok (.lst xs,d,ρ)) (h2:fj ρ=.ok (.int (j:Int),e,ρ)) (h3:fx ρ=.ok (x,c,ρ)) (hj:j < xs.length) (hl:xs.length<=1000):
  bBin zqg (bBin zqg (bSl f none (some fj)) (zqb zqf (zqa fx aNil))) (bSl f (some (bBin zqg fj (bC (.int 1)))) none) ρ=.ok (.lst (rwL xs j x),d1 (rwL xs j x),ρ):=by
 have z:=sz
 obtain ⟨e3,h4⟩:=zya h3
 refine zxm (zxm (qm6 h1 h2 (by omega)) h4 ?_) (qj8 h1 h2 hj) ?_
 ·rw [jc7,ja6];omega
 ·rw [jb1,jc7,ja6,jd6];omega
theorem qee {xs:List PV}{j:Nat}{x y:PV} (h:y∈rwL xs j x):y∈xs\/y=x:=by
 unfold rwL at h
 rw [jc0,jc0] at h
 rcases h with (h | h) | h
 ·exact .inl (je6 h)
 ·exact .inr (jb7.mp h)
 ·exact .inl (jg5 h)
theorem qef {xs:List PV}{j:Nat}{x:PV} (h:j < xs.length):(rwL xs j x).length=xs.length:=by
 unfold rwL
 rw [jb1,jb1,jc7,ja6,jd6]
 omega
theorem zgc {a b c:Nat} (ha:1<=a) (hb:1<=b) (hc:1<=c):boxB a b c=true:=by
 unfold boxB
 rw [decide_eq_true (show (1:Int)<=a by omega),decide_eq_true (show (1:Int)<=b by omega),decide_eq_true (show (1:Int)<=c by omega)]
 rfl
theorem qe3 {n:Nat}{r:List Int} (h:r.length<=1000):okE (n + 2) (il r)=true:=zvt (by rw [ja1];exact h) λ x hx=>by
 obtain ⟨i,_,rfl⟩:=jd5.mp hx
 rfl
theorem zjf {f g:Fs}{ρ:Rho}{c:Nat} (h:f ρ=.exc c):sSeq f g ρ=.exc c:=by unfold sSeq;rw [h]
theorem zwl {F:Fn}{fa:Fa}{ρ ρ1:Rho}{xs:List (PV×Nat)}{c:Nat} (h1:fa ρ=.ok (xs,ρ1)) (h2:F (xs.map (·.1))=.exc c):zqc F fa ρ=.exc c:=by
 unfold zqc
 rw [h1]
 dsimp only [Rz.bind]
 rw [h2]
theorem zze {f:Fx}{ρ:Rho}{c:Nat} (h:f ρ=.exc c):zxb f ρ=.exc c:=by unfold zxb;rw [h]
theorem zks {np k:Nat}{b:Fs}{xs:List PV}{c:Nat} (hl:xs.length=np) (h:b (xs.map (λ x=>some (x,dv x))++ja7 k none)=.exc c):mkFn false np k b xs=.exc c:=by
 unfold mkFn
 rw [if_pos hl]
 show (match b (xs.map (λ x=>some (x,dv x))++ja7 k none) with | .rt y d ρ=>_ | .nx ρ=>_ | .exc c=>_ | _=>_)=_
 rw [h]
theorem qc7 {y:PV} (h:f_is_box [y]=.ok (.bl false,om,.non)):f_must_be_box [y]=.exc 1:=
 zks rfl ((if_t (f:=sExc 1) (g:=sNil) (t_ok (zzj (zqj (F:=f_is_box) (fa:=zqa (bVar 0) aNil) (ρ:=[some (y,dv y)]) (xs:=[(y,dv y)]) rfl h)))).trans rfl)
theorem qc6 {y x:PV} (h:f_is_box [y]=.ok (.bl false,om,.non)):f_is_pile [y,x]=.exc 1:=
 zks rfl (zjf (zze (zwl (ρ:=[some (y,dv y),some (x,dv x),none,none,none]) (xs:=[(y,dv y)]) rfl (qc7 h))))
theorem qau {y x:PV} (h:f_is_box [y]=.ok (.bl false,om,.non)):f_must_be_pile [y,x]=.exc 1:=by
 refine zks rfl ?_
 show sIf _ (sExc 2) sNil [some (y,dv y),some (x,dv x)]=_
 have e:bT (bUn zqu (zqc f_is_pile (zqa (bVar 0) (zqa (bVar 1) (aNil))))) [some (y,dv y),some (x,dv x)]=.exc 1:=by
  unfold bT bUn
  rw [zwl (xs:=[(y,dv y),(x,dv x)]) rfl (qc6 h)]
  rfl
 unfold sIf
 rw [e]
theorem qat {y x:PV} (h:f_is_pile [y,x]=.ok (.bl false,om,.non)):f_must_be_pile [y,x]=.exc 2:=
 zks rfl ((if_t (f:=sExc 2) (g:=sNil) (t_ok (zzj (zqj (F:=f_is_pile) (fa:=zqa (bVar 0) (zqa (bVar 1) aNil)) (ρ:=[some (y,dv y),some (x,dv x)]) (xs:=[(y,dv y),(x,dv x)]) rfl h)))).trans rfl)
theorem qb0 {asg:PV->Rho->Option Rho}{body:Fs}{N:Nat} (I:Nat->Rho->Prop) (P:PV->Prop):∀ (els:List PV) (n:Nat) (ρ:Rho),n + els.length<=N->(∀ x∈els,P x)->I n ρ->(∀ x n ρ,n < N->P x->I n ρ->∃ ρ1 ρ2,asg x ρ=some ρ1/\body ρ1=.nx ρ2/\I (n + 1) ρ2)->∃ ρ',zxu asg body els ρ=.nx ρ'/\I (n + els.length) ρ'
 | [],n,ρ,_,_,h,_=>⟨ρ,rfl,h⟩
 | x::xs,n,ρ,hN,hp,h,hb=>by
  rw [jb4] at hN
  obtain ⟨ρ1,ρ2,e1,e2,h2⟩:=hb x n ρ (by omega) (hp x ja3) h
  obtain ⟨ρ',e,h'⟩:=qb0 I P xs (n + 1) ρ2 (by omega) (λ y hy=>hp y (ja0 _ hy)) h2 hb
  refine ⟨ρ',?_,by rw [jb4,show n + (xs.length + 1)=n + 1 + xs.length by omega];exact h'⟩
  unfold zxu
  rw [e1]
  dsimp only
  rw [e2]
  exact e
theorem zpa {asg:PV->Rho->Option Rho}{body:Fs} (ok:PV->Bool) (I:Rho->Prop):∀ (els:List PV) (ρ:Rho),I ρ->(∀ x∈els,∀ ρ,I ρ->∃ ρ1,asg x ρ=some ρ1/\((ok x=true/\∃ ρ2,body ρ1=.nx ρ2/\I ρ2)\/(ok x=false/\∃ ρ2,body ρ1=.rt (.bl false) om ρ2))) ->
  (els.all ok=true/\∃ ρ',zxu asg body els ρ=.nx ρ'/\I ρ')\/(els.all ok=false/\∃ ρ',zxu asg body els ρ=.rt (.bl false) om ρ')
 | [],ρ,h,_=>.inl ⟨rfl,ρ,rfl,h⟩
 | x::xs,ρ,h,hb=>by
  obtain ⟨ρ1,e1,⟨hx,ρ2,e2,h2⟩ | ⟨hx,ρ2,e2⟩⟩:=hb x ja3 ρ h
  ·rcases zpa ok I xs ρ2 h2 (λ y hy=>hb y (ja0 _ hy)) with ⟨ha,ρ',e,h'⟩ | ⟨ha,ρ',e⟩
   ·exact .inl ⟨by rw [je1,hx,ha];rfl,ρ',by unfold zxu;rw [e1];dsimp only;rw [e2];exact e,h'⟩
   ·exact .inr ⟨by rw [je1,ha,jg4],ρ',by unfold zxu;rw [e1];dsimp only;rw [e2];exact e⟩
  ·exact .inr ⟨by rw [je1,hx,jl8],ρ2,by unfold zxu;rw [e1];dsimp only;rw [e2]⟩
theorem zby {α:Type}{asg:PV->Rho->Option Rho}{body:Fs}{enc:α->PV} (ok:α->Bool) (I:Rho->Prop):∀ (xs:List α) (ρ:Rho),I ρ->(∀ x∈xs,∀ ρ,I ρ->∃ ρ1,asg (enc x) ρ=some ρ1/\((ok x=true/\∃ ρ2,body ρ1=.nx ρ2/\I ρ2)\/(ok x=false/\∃ ρ2,body ρ1=.rt (.bl false) om ρ2))) ->
  (xs.all ok=true/\∃ ρ',zxu asg body (xs.map enc) ρ=.nx ρ'/\I ρ')\/(xs.all ok=false/\∃ ρ',zxu asg body (xs.map enc) ρ=.rt (.bl false) om ρ')
 | [],ρ,h,_=>.inl ⟨rfl,ρ,rfl,h⟩
 | x::xs,ρ,h,hb=>by
  obtain ⟨ρ1,e1,⟨hx,ρ2,e2,h2⟩ | ⟨hx,ρ2,e2⟩⟩:=hb x ja3 ρ h
  ·rcases zby ok I xs ρ2 h2 λ y hy=>hb y (ja0 _ hy) with ⟨ha,ρ',e,h'⟩ | ⟨ha,ρ',e⟩
   ·refine .inl ⟨by rw [je1,hx,ha];rfl,ρ',?_,h'⟩
    rw [jc8];unfold zxu;rw [e1];dsimp only;rw [e2];exact e
   ·refine .inr ⟨by rw [je1,hx,ha];rfl,ρ',?_⟩
    rw [jc8];unfold zxu;rw [e1];dsimp only;rw [e2];exact e
  ·refine .inr ⟨by rw [je1,hx];rfl,ρ2,?_⟩
   rw [jc8];unfold zxu;rw [e1];dsimp only;rw [e2]
def zke (c:Int) (t:List (List Int)) (i j:Nat):Bool:=decide (0<=g t i j) && decide (g t i j<=zkz c t i j)
theorem qgc {a b c:Nat}{t:List (List Int)} (ht:Tab a b t):((jc3 a).all λ i=>(jc3 b).all λ j=>zke c t i j)=qaq a b c t:=by
 rw [jf0,zzi ht]
 simp only [jc4,jd3,zke,ja4,decide_eq_true_iff]
 constructor
 ·intro h
  refine ⟨ht,λ i j hi hj=>(h i hi j hj).1,λ i j hi hj=>?_,λ i j hi hj=>?_,λ i j hi hj=>?_⟩
  ·have:=(h i hi j hj).2
   unfold zkz at this
   dsimp only at this
   (repeat' split at this) <;> omega
  ·have:=(h (i + 1) hi j hj).2
   unfold zkz at this
   dsimp only at this
   rw [if_pos (by omega:0 < i + 1)] at this
   rw [jn9] at this
   (repeat' split at this) <;> omega
  ·have:=(h i hi (j + 1) hj).2
   unfold zkz at this
   dsimp only at this
   rw [if_pos (by omega:0 < j + 1)] at this
   rw [jn9] at this
   (repeat' split at this) <;> omega
 ·intro p i hi j hj
  exact ⟨p.lo i j hi hj,(zmc p hi hj).2.2.2⟩
def XIc:Fs:=(sSeq (sSet false 5 (bBin zqe (bVar 0) (bC (.int 2))) [0])
 (sSeq (sIf (bT (bBin (zxh λ i j=>decide (j < i)) (bVar 3) (bC (.int 0)))) (sSet false 5 (zqb zzd (zqa (bVar 5) (zqa (bBin zqe (bBin zqe (bVar 1) (bBin zxj (bVar 3) (bC (.int 1)))) (bVar 4)) (aNil)))) [5,1,3,4]) sNil)
 (sSeq (sIf (bT (bBin (zxh λ i j=>decide (j < i)) (bVar 4) (bC (.int 0)))) (sSet false 5 (zqb zzd (zqa (bVar 5) (zqa (bBin zqe (bBin zqe (bVar 1) (bVar 3)) (bBin zxj (bVar 4) (bC (.int 1)))) (aNil)))) [5,1,3,4]) sNil)
 (sIf (bT (bOrV (bBin (zxh λ i j=>decide (i < j)) (bBin zqe (bBin zqe (bVar 1) (bVar 3)) (bVar 4)) (bC (.int 0))) (bBin (zxh λ i j=>decide (j < i)) (bBin zqe (bBin zqe (bVar 1) (bVar 3)) (bVar 4)) (bVar 5)))) (sRet (bC (.bl false))) sNil))))
theorem qpl {a b c:Nat}{t:List (List Int)} (ht:Tab a b t) {i j:Nat} (hi:i < a) (hj:j < b) {s2 s5:QQ.Slot}:
  ∃ m:Int,XIc [some (bx a b c,0),some (tb t,0),s2,some (.int (i:Int),om),some (.int (j:Int),om),s5]=if zke c t i j=true then .nx [some (bx a b c,0),some (tb t,0),s2,some (.int (i:Int),om),some (.int (j:Int),om),some (.int m,om)] else .rt (.bl false) om [some (bx a b c,0),some (tb t,0),s2,some (.int (i:Int),om),some (.int (j:Int),om),some (.int m,om)]:=by
 let Q (s5:QQ.Slot):Rho:=[some (bx a b c,0),some (tb t,0),s2,some (.int (i:Int),om),some (.int (j:Int),om),s5]
 let I (m:Int):QQ.Slot:=some (.int m,om)
 have v3:sSet false 5 (bBin zqe (bVar 0) (bC (.int 2))) [0] (Q s5)=.nx (Q (I c)):=by kernel_rfl
 let m1:Int:=if 0 < i then (if g t (i - 1) j < (c:Int) then g t (i - 1) j else c) else c
 have v4:sIf (bT (bBin (zxh λ i j=>decide (j < i)) (bVar 3) (bC (.int 0)))) (sSet false 5 (zqb zzd (zqa (bVar 5) (zqa (bBin zqe (bBin zqe (bVar 1) (bBin zxj (bVar 3) (bC (.int 1)))) (bVar 4)) (aNil)))) [5,1,3,4]) sNil (Q (I c))=.nx (Q (I m1)):=by
  have tt:bT (bBin (zxh λ i j=>decide (j < i)) (bVar 3) (bC (.int 0))) (Q (I c))=.ok (decide (0 < (i:Int)),Q (I c)):=rfl
  show _=Rs.nx (Q (I (if 0 < i then _ else _)))
  by_cases h:0 < i
  ·rw [decide_eq_true (by omega)] at tt
   rw [if_pos h]
   have k:=zvs (f:=bVar 3) (g:=bC (.int 1)) (ρ:=Q (I c)) (ρ1:=Q (I c)) (ρ2:=Q (I c)) (i:=(i:Int)) (j:=1) (d:=om) (e:=om) rfl rfl
   rw [show (i:Int) - 1=((i - 1:Nat):Int) by omega] at k
   exact (if_t tt).trans (setF (zqx (xs:=[(.int (c:Int),om),(.int (g t (i - 1) j),om)]) (zqm rfl (zqt (zvm (i:=i - 1) (j:=j) ht (d:=0) rfl k (e':=om) rfl (by omega) hj))) rfl) (show 5 < 6 by decide) rfl)
  ·rw [decide_eq_false (by omega)] at tt
   rw [if_neg h]
   exact (if_f tt).trans rfl
 have v5:sIf (bT (bBin (zxh λ i j=>decide (j < i)) (bVar 4) (bC (.int 0)))) (sSet false 5 (zqb zzd (zqa (bVar 5) (zqa (bBin zqe (bBin zqe (bVar 1) (bVar 3)) (bBin zxj (bVar 4) (bC (.int 1)))) (aNil)))) [5,1,3,4]) sNil (Q (I m1))=.nx (Q (I (zkz c t i j))):=by
  have tt:bT (bBin (zxh λ i j=>decide (j < i)) (bVar 4) (bC (.int 0))) (Q (I m1))=.ok (decide (0 < (j:Int)),Q (I m1)):=rfl
  show _=Rs.nx (Q (I (if 0 < j then (if g t i (j - 1) < m1 then g t i (j - 1) else m1) else m1)))
  by_cases h:0 < j
  ·rw [decide_eq_true (by omega)] at tt
   rw [if_pos h]
   have k:=zvs (f:=bVar 4) (g:=bC (.int 1)) (ρ:=Q (I m1)) (ρ1:=Q (I m1)) (ρ2:=Q (I m1)) (i:=(j:Int)) (j:=1) (d:=om) (e:=om) rfl rfl
   rw [show (j:Int) - 1=((j - 1:Nat):Int) by omega] at k
   exact (if_t tt).trans (setF (zqx (xs:=[(.int m1,om),(.int (g t i (j - 1)),om)]) (zqm rfl (zqt (zvm (i:=i) (j:=j - 1) ht (d:=0) rfl (e:=om) rfl k hi (by omega)))) rfl) (show 5 < 6 by decide) rfl)
  ·rw [decide_eq_false (by omega)] at tt
   rw [if_neg h]
   exact (if_f tt).trans rfl
 let W:Rho:=Q (I (zkz c t i j))
 have gi:=zvm (f:=bVar 1) (h:=bVar 3) (k:=bVar 4) (ρ:=W) (ρ1:=W) (ρ2:=W) (ρ3:=W) (i:=i) (j:=j) ht (d:=0) (e:=om) (e':=om) rfl rfl rfl hi hj
 have t6:bT (bOrV (bBin (zxh λ i j=>decide (i < j)) (bBin zqe (bBin zqe (bVar 1) (bVar 3)) (bVar 4)) (bC (.int 0))) (bBin (zxh λ i j=>decide (j < i)) (bBin zqe (bBin zqe (bVar 1) (bVar 3)) (bVar 4)) (bVar 5))) W=.ok (!zke c t i j,W):=by
  refine (t_ok (zvw (zpo (p:=λ i j=>decide (i < j)) gi (j:=0) (e:=om) rfl) (λ _=>zpo (p:=λ i j=>decide (j < i)) gi (j:=zkz c t i j) (e:=om) rfl) rfl)).trans ?_
  congr 2
  unfold zke
  rw [Bool.not_and]
  congr 1
  ·rw [jf0];simp
  ·rw [jf0];simp
 refine ⟨zkz c t i j,(zqi v3).trans ((zqi v4).trans ((zqi v5).trans ((qlm t6).trans ?_)))⟩
 cases zke c t i j with
 | true=>rfl
 | false=>rfl
def LIr:Fs:=(sSeq (sIf (bT (bOrV (bUn zqu (bUn (zwk "list") (bVar 2))) (bBin (opEq true) (zqb zwe (zqa (bVar 2) (aNil))) (bBin zqe (bVar 0) (bC (.int 1)))))) (sRet (bC (.bl false))) sNil)
 (sIf (bT (bBin (opEq true) (zqp (bVar 2) 1 (asgN 6) (bT (bOrV (bUn zqu (bUn (zwk "int") (bVar 6))) (bUn (zwk "bool") (bVar 6)))) (bVar 6)) (zqb zqf (aNil)))) (sRet (bC (.bl false))) sNil))
theorem qae {a b c:Nat}{t:List (List Int)} (ht:Tab a b t) (ha:a<=100) (hb:b<=100):a_is_pile [bx a b c,tb t]=.ok (.bl (qaq a b c t),om,.non):=by
 have z:=sz
 have l1:=ht.1
 let R (s2 s3 s4 s5:QQ.Slot):Rho:=[some (bx a b c,0),some (tb t,0),s2,s3,s4,s5]
 let R0:Rho:=R none none none none
 have t1:bT (bOrV (bUn zqu (bUn (zwk "list") (bVar 1))) (bBin (opEq true) (zqb zwe (zqa (bVar 1) (aNil))) (bBin zqe (bVar 0) (bC (.int 0))))) R0=.ok (false,R0):=by
  refine t_ok (d:=om) ((zvw (a:=false) rfl (λ _=>zyp (qi9 (t:=t) (d:=0) rfl) (j:=(a:Int)) (e:=om) rfl) rfl).trans ?_)
  rw [l1];simp
 obtain ⟨ρ',e2,s2,rfl⟩:=qh4 (f:=bVar 1) (vs:=[1]) (asg:=asgN 2) (body:=LIr) (ρ:=R0) (ρ1:=R0) (ρ2:=R0) (els:=t.map il) (d:=0) (λ _ ρ=>∃ s2,ρ=R s2 none none none) rfl rfl ⟨_,rfl⟩ (by
  rintro j y ρ hy ⟨s2,rfl⟩
  obtain ⟨r,hr,rfl⟩:=jd5.mp (ji2 hy)
  let Q:Rho:=R (some (il r,0)) none none none
  have u1:bT (bOrV (bUn zqu (bUn (zwk "list") (bVar 2))) (bBin (opEq true) (zqb zwe (zqa (bVar 2) (aNil))) (bBin zqe (bVar 0) (bC (.int 1))))) Q=.ok (false,Q):=by
   refine t_ok (d:=om) ((zvw (a:=false) rfl (λ _=>zyp (qfb (xs:=r) (d:=0) rfl) (j:=(b:Int)) (e:=om) rfl) rfl).trans ?_)
   rw [ht.2 r hr];simp
  have u2:=qif (n:=6) (f:=bVar 2) (elt:=bVar 6) (test:=bT (bOrV (bUn zqu (bUn (zwk "int") (bVar 6))) (bUn (zwk "bool") (bVar 6)))) (ρ:=Q) (ρ1:=Q) (enc:=PV.int) (q:=PV.int) (p:=λ _=>false) (d:=0) r rfl rfl (λ x _=>by kernel_rfl) (λ x _ h=>nomatch h) (by rw [ht.2 r hr];omega)
  have u3:(r.filter λ _=>false)=[]:=jj7.mpr λ _ _=>jc6
  rw [u3] at u2
  have u4:=t_ok (qp7 (neg:=true) (xs:=[]) (ys:=[]) u2 (h:=zqb zqf (aNil)) (e:=om) rfl)
  rw [decide_eq_true rfl] at u4
  exact ⟨Q,Q,rfl,(zwd u1).trans ((if_f u4).trans rfl),_,rfl⟩)
 let IV (ρ:Rho):Prop:=∃ s3 s4 s5,ρ=R s2 s3 s4 s5
 have inner:∀ i,i < a->∀ ρ s4 s5,ρ=R s2 (some (.int (i:Int),om)) s4 s5->(((jc3 b).all λ j=>zke c t i j)=true/\∃ ρ',zwq zqy (zqa (bBin zqe (bVar 0) (bC (.int 1))) (aNil)) (asgN 4) XIc ρ=.nx ρ'/\∃ s4 s5,ρ'=R s2 (some (.int (i:Int),om)) s4 s5)\/(((jc3 b).all λ j=>zke c t i j)=false/\∃ ρ',zwq zqy (zqa (bBin zqe (bVar 0) (bC (.int 1))) (aNil)) (asgN 4) XIc ρ=.rt (.bl false) om ρ'):=by
  rintro i hi ρ s4 s5 rfl
  rcases zby (asg:=asgN 4) (body:=XIc) (enc:=λ (k:Nat)=>.int (k:Int)) (λ j=>zke c t i j) (λ ρ=>∃ s4 s5,ρ=R s2 (some (.int (i:Int),om)) s4 s5) (jc3 b) (R s2 (some (.int (i:Int),om)) s4 s5) ⟨_,_,rfl⟩ (by
   rintro j hj _ ⟨s4,s5,rfl⟩
   obtain ⟨m,em⟩:=qpl (c:=c) ht hi (jd3.mp hj) (s2:=s2) (s5:=s5)
   refine ⟨R s2 (some (.int (i:Int),om)) (some (.int (j:Int),om)) s5,rfl,?_⟩
   cases hc:zke c t i j with
   | true=>rw [hc] at em;exact .inl ⟨rfl,_,em,_,_,rfl⟩
   | false=>rw [hc] at em;exact .inr ⟨rfl,_,em⟩) with ⟨h1,ρ',h2,h3⟩ | ⟨h1,ρ',h2⟩
  ·exact .inl ⟨h1,ρ',zfs (n:=b) (as:=[(.int (b:Int),om)]) rfl (zxw (by omega) (by omega)) h2,h3⟩
  ·exact .inr ⟨h1,ρ',zfs (n:=b) (as:=[(.int (b:Int),om)]) rfl (zxw (by omega) (by omega)) h2⟩
 rw [<- qgc ht]
 rcases zby (asg:=asgN 3) (body:=zwq zqy (zqa (bBin zqe (bVar 0) (bC (.int 1))) (aNil)) (asgN 4) XIc) (enc:=λ (k:Nat)=>.int (k:Int)) (λ i=>(jc3 b).all λ j=>zke c t i j) IV (jc3 a) (R s2 none none none) ⟨_,_,_,rfl⟩ (by
   rintro i hi _ ⟨s3,s4,s5,rfl⟩
   refine ⟨R s2 (some (.int (i:Int),om)) s4 s5,rfl,?_⟩
   rcases inner i (jd3.mp hi) _ s4 s5 rfl with ⟨h1,ρ',h2,s4',s5',rfl⟩ | ⟨h1,ρ',h2⟩
   ·exact .inl ⟨h1,_,h2,_,_,_,rfl⟩
   ·exact .inr ⟨h1,_,h2⟩) with ⟨h1,ρ',h2,s3,s4,s5,rfl⟩ | ⟨h1,ρ',h2⟩
 ·rw [h1]
  have h4:=zfs (en:=zqy) (fa:=zqa (bBin zqe (bVar 0) (bC (.int 0))) aNil) (n:=a) (as:=[(.int (a:Int),om)]) (ρ:=(R s2 none none none)) rfl (zxw (by omega) (by omega)) h2
  exact zwr rfl ((zwd t1).trans ((zqi e2).trans ((zqi h4).trans rfl)))
 ·rw [h1]
  have h4:=zfs (en:=zqy) (fa:=zqa (bBin zqe (bVar 0) (bC (.int 0))) aNil) (n:=a) (as:=[(.int (a:Int),om)]) (ρ:=(R s2 none none none)) rfl (zxw (by omega) (by omega)) h2
  exact zwr rfl ((zwd t1).trans ((zqi e2).trans (zxx h4)))
def Xa_is:Fs:=(sSeq (sSet false 2 (zqb zqf (zqa (bUn (zvy [1]) (bVar 0)) (zqa (bUn (zvy [2]) (bVar 0)) (zqa (bUn (zvy [5]) (bVar 0)) (aNil))))) [0,0,0])
 (sSeq (sIf (bT (bOrV (bUn zqu (bUn (zvy [0]) (bVar 0))) (bBin (opEq true) (bVar 2) (zxs zqy (zqa (bC (.int 3)) (aNil)) 1 (asgN 3) zqr (bBin (opEq false) (bVar 3) (bVar 1)))))) (sRet (bC (.bl false))) sNil)
 (sRet (bUn zqu (bUn (zvy [3,4,6,7,8,9,10,11]) (bVar 0))))))
def a_is:Fn:=mkFn false 2 1 Xa_is
def Xa_none:Fs:=(sSeq (sUnp (asgT [3,4,5]) (bVar 1) [1])
 (sSeq (sSet false 6 (zqb zqf (zqa (bSl (bBin zqg (zqb zqf (zqa (bBin zxc (zqb zqf (zqa (bC (.int 0)) (aNil))) (bVar 4)) (aNil))) (bBin zxc (zqb zqf (zqa (bBin zxc (zqb zqf (zqa (bC (.int 1)) (aNil))) (bVar 4)) (aNil))) (bVar 3))) none (some (bVar 3))) (zqa (zxs zqy (zqa (bVar 3) (aNil)) 1 (asgN 14) zqr (bBin zqg (zqb zqf (zqa (bC (.int 0)) (aNil))) (bBin zxc (zqb zqf (zqa (bC (.int 1)) (aNil))) (bBin zxj (bVar 4) (bC (.int 1)))))) (aNil)))) [4,4,3,4])
 (sSeq (sSet false 7 (zqd a_take 0 (zqa (bVar 3) (aNil))) [3])
 (sSeq (sSet false 8 (zqd a_take 0 (zqa (bVar 4) (aNil))) [4])
 (sSeq (sSet false 9 (bBin zqe (zqb zqf (zqa (bC (.bl false)) (zqa (bC (.bl true)) (zqa (bC .non) (zqa (bC (.str "0")) (zqa (zqb zwn (zqa (bC (.int 0)) (aNil))) (zqa (zqb zqf (zqa (bC (.int 0)) (aNil))) (zqa (bBin zqg (bVar 5) (bC (.int 1))) (zqa (bUn zxq (bC (.int 1))) (zqa (bBin zqg (bBin zqg (bVar 5) (bC (.int 1))) (zqd a_take 0 (zqa (bBin zgx (bC (.int 10)) (bC (.int 20))) (aNil)))) (aNil))))))))))) (zqd a_take 0 (zqa (bC (.int 9)) (aNil)))) [5,5])
 (sSeq (zvv (zqb zqf (zqa (bSl (bBin zqe (bVar 2) (bVar 7)) none (some (bUn zxq (bC (.int 1))))) (zqa (bBin zqg (bBin zqe (bVar 2) (bVar 7)) (zqb zqf (zqa (bC (.int 0)) (aNil)))) (zqa (bBin zqg (bBin zqg (bSl (bBin zqe (bVar 2) (bVar 7)) none (some (bVar 8))) (zqb zqf (zqa (bVar 9) (aNil)))) (bSl (bBin zqe (bVar 2) (bVar 7)) (some (bBin zqg (bVar 8) (bC (.int 1)))) none)) (aNil))))) [2,7,2,7,2,7,9,2,7] (asgN 10) (sApp 6 (bBin zqg (bBin zqg (bSl (bVar 2) none (some (bVar 7))) (zqb zqf (zqa (bVar 10) (aNil)))) (bSl (bVar 2) (some (bBin zqg (bVar 7) (bC (.int 1)))) none)) [2,10,2]))
 (sSeq (zwq zqy (zqa (bC (.int 6)) (aNil)) (asgN 11) (zyx 6 (zqp (bVar 2) 1 (asgN 14) zqr (zqb zvb (zqa (bVar 14) (aNil)))) (zqd a_take 0 (zqa (bBin zqg (bVar 5) (bC (.int 1))) (aNil))) (zqd a_take 0 (zqa (bVar 3) (aNil))) (zqd a_take 0 (zqa (bVar 4) (aNil)))))
 (sSeq (sSet false 6 (bBin zqg (bVar 6) (zqb zqf (zqa (bC .non) (zqa (bC (.int 0)) (zqa (bC (.bl true)) (zqa (bC (.str "")) (zqa (bC (.str "0")) (zqa (zqb zwn (aNil)) (zqa (zqb zqf (aNil)) (zqa (bC .emp) (zqa (zqb zqf (zqa (zqb zqf (aNil)) (aNil))) (zqa (bBin zxc (zqb zqf (zqa (bC .non) (aNil))) (bVar 3)) (zqa (zqb zkr (zqa (bVar 2) (aNil))) (zqa (bSl (bVar 2) none (some (bUn zxq (bC (.int 1))))) (aNil))))))))))))))) [6,3,2,2])
 (sSeq (sSet false 6 (bBin zqg (bVar 6) (zqb zqf (zqa (bBin zqg (bVar 2) (zqb zqf (zqa (bBin zxc (zqb zqf (zqa (bC (.int 0)) (aNil))) (bVar 4)) (aNil)))) (zqa (zqp (bVar 2) 1 (asgN 14) zqr (zqb zkr (zqa (bVar 14) (aNil)))) (zqa (zqp (bVar 2) 1 (asgN 14) zqr (bBin zqg (bVar 14) (zqb zqf (zqa (bC (.int 0)) (aNil))))) (aNil)))))) [6,2,4,2,2,2,2])
 (sSeq (sSet false 6 (bBin zqg (bVar 6) (zqb zqf (zqa (zqp (bVar 2) 1 (asgN 14) zqr (bBin zqg (zqb zqf (zqa (bBin zqg (bVar 5) (bC (.int 1))) (aNil))) (bSl (bVar 14) (some (bC (.int 1))) none))) (zqa (zqp (bVar 2) 1 (asgN 14) zqr (bBin zqg (bSl (bVar 14) none (some (bUn zxq (bC (.int 1))))) (zqb zqf (zqa (bUn zxq (bC (.int 1))) (aNil))))) (aNil))))) [6,2,5,2,2,2])
 (sSeq (sSet false 6 (bBin zqg (bVar 6) (zqb zqf (zqa (zqp (bVar 2) 1 (asgN 14) zqr (bBin zqg (bSl (bVar 14) none (some (bUn zxq (bC (.int 1))))) (zqb zqf (zqa (bC (.bl true)) (aNil))))) (zqa (bBin zqg (bSl (bVar 2) none (some (bUn zxq (bC (.int 1))))) (zqb zqf (zqa (bBin zxc (zqb zqf (zqa (bC .non) (aNil))) (bVar 4)) (aNil)))) (zqa (bBin zqg (bSl (bVar 2) none (some (bUn zxq (bC (.int 1))))) (zqb zqf (zqa (bBin zxc (zqb zqf (zqa (bC (.str "0")) (aNil))) (bVar 4)) (aNil)))) (aNil)))))) [6,2,2,2,4,2,4])
 (sSeq (sSet false 12 (zqb zqf (aNil)) [])
 (sSeq (zvv (bVar 6) [6] (asgN 13) (sIf (bT (bUn zqu (zqc a_is_pile (zqa (bVar 1) (zqa (bVar 13) (aNil)))))) (sApp 12 (bVar 13) [13]) sNil))
 (sRet (bBin zqg (bSl (bVar 12) none (some (bC (.int 5)))) (zxs zqy (zqa (bC (.int 2)) (aNil)) 1 (asgN 14) zqr (bBin zqe (bVar 12) (zqd a_take 0 (zqa (zqb zwe (zqa (bVar 12) (aNil))) (aNil))))))))))))))))))))
def a_none:Fn:=mkFn true 3 11 Xa_none
def zhh (b:Nat):PV->Bool
 | .lst ys=>decide (ys.length=b) && ys.all zvx
 | _=>false
def zma (a b:Nat):PV->Bool
 | .lst xs=>decide (xs.length=a) && xs.all (zhh b)
 | _=>false
theorem zpw:∀ {ys:List PV},ys.all zvx=true->∃ r:List Int,ys=r.map PV.int
 | [],_=>⟨[],rfl⟩
 | y::ys,h=>by
  rw [je1,ja4] at h
  obtain ⟨r,rfl⟩:=zpw h.2
  have h1:=h.1
  cases y with
  | int i=>exact ⟨i::r,rfl⟩
  | _=>cases h1
theorem zhg {b:Nat}:∀ {xs:List PV},xs.all (zhh b)=true->∃ t:List (List Int),xs=t.map il/\∀ r∈t,r.length=b
 | [],_=>⟨[],rfl,λ _ z=>nomatch z⟩
 | x::xs,h=>by
  rw [je1,ja4] at h
  obtain ⟨t,rfl,ht⟩:=zhg h.2
  have h1:=h.1
  cases x with
  | lst ys=>
   unfold zhh at h1
   rw [ja4] at h1
   obtain ⟨r,rfl⟩:=zpw h1.2
   refine ⟨r::t,rfl,λ s hs=>?_⟩
   rcases jb2.mp hs with rfl | hs
   ·have:=of_decide_eq_true h1.1
    rwa [ja1] at this
   ·exact ht s hs
  | _=>cases h1
theorem qd9 {a b:Nat}{x:PV} (h:zma a b x=true):∃ t,Tab a b t/\x=tb t:=by
 cases x with
 | lst xs=>
  unfold zma at h
  rw [ja4] at h
  obtain ⟨t,rfl,ht⟩:=zhg h.2
  exact ⟨t,⟨by have:=of_decide_eq_true h.1;rwa [ja1] at this,ht⟩,rfl⟩
 | _=>cases h
theorem qh6 {c:Int}{x:PV} (h:elB c x=true):zvx x=true:=by
 cases x with
 | int i=>rfl
 | _=>cases h
theorem qg9 {b:Nat}{c:Int}{x:PV} (h:rowV b c x=true):zhh b x=true:=by
 cases x with
 | lst xs=>
  unfold rowV at h
  rw [ja4] at h
  show (decide _ && _)=true
  rw [decide_eq_true (by have:=of_decide_eq_true h.1;omega),jc4.mpr λ y hy=>qh6 (jc4.mp h.2 y hy)]
  rfl
 | _=>cases h
theorem qeo {a b:Nat}{c:Int}{x:PV} (h:preV a b c x=true):zma a b x=true:=by
 cases x with
 | lst xs=>
  unfold preV at h
  rw [ja4] at h
  show (decide _ && _)=true
  rw [decide_eq_true (by have:=of_decide_eq_true h.1;omega),jc4.mpr λ y hy=>qg9 (jc4.mp h.2 y hy)]
  rfl
 | _=>cases h
theorem qo0 {a b c:Int} (hb:boxB a b c=true):f_is_pile [bx a b c,.dko]=.ok (.bl false,om,.non):=by
 let R:Rho:=[some (bx a b c,0),some (.dko,om),some (.int a,om),some (.int b,om),some (.int c,om)]
 refine zwr rfl (ρ':=R) ?_
 show Xf_is_pile [some (bx a b c,0),some (.dko,om),none,none,none]=_
 refine (zqi (zzp (zqj (xs:=[(bx a b c,0)]) rfl (zky hb)))).trans ?_
 refine (zqi (ρ1:=R) rfl).trans ?_
 exact zxx ((if_t (t_ok (d:=om) (zvw (a:=true) (b:=false) rfl (λ e=>nomatch e) rfl))).trans rfl)
theorem qok {neg:Bool}{zs:List PV}{d e:Nat}:opEq neg (.lst zs) d (.lst []) e=some (.bl (neg^^decide (zs=[])),om):=by
 cases zs with
 | nil=>cases neg <;> rfl
 | cons z zs=>
  rw [decide_eq_false (λ h=>nomatch h)]
  unfold opEq
  have e2:toD 20 (.lst [])=some (.list []):=rfl
  rw [e2]
  have e1:toD 20 (.lst (z::zs))=none\/∃ a l,toD 20 (.lst (z::zs))=some (.list (a::l)):=by
   show ((match toD 19 z,toDL (toD 19) zs with | some a,some b=>some (a::b) | _,_=>none).map PyData.list)=none\/∃ a l,((match toD 19 z,toDL (toD 19) zs with | some a,some b=>some (a::b) | _,_=>none).map PyData.list)=some (.list (a::l))
   cases toD 19 z with
   | none=>exact .inl rfl
   | some a=>
    cases toDL (toD 19) zs with
    | none=>exact .inl rfl
    | some l=>exact .inr ⟨a,l,rfl⟩
  rcases e1 with e1 | ⟨a,l,e1⟩
  ·rw [e1]
   dsimp only
   rw [if_neg (by unfold zyj;exact jc6),if_pos (by rw [jb4,jh8];omega)]
  ·rw [e1]
   dsimp only
   rw [vd7,vg1]
def qks:Fb:=bT (bOrV (bUn zqu (bUn (zwk "int") (bVar 6))) (bUn (zwk "bool") (bVar 6)))
theorem qhh {n:Nat}{Q:Rho} (hQ:Q.length=6) {y:PV} (h:okE n y=true):qks (Q++[some (y,dv y)])=.ok (!zvx y,Q++[some (y,dv y)]):=by
 have hv:bVar 6 (Q++[some (y,dv y)])=.ok (y,dv y,Q++[some (y,dv y)]):=by
  unfold bVar
  rw [jc9 (by omega),hQ]
  rfl
 have hi:∀ T,bUn (zwk T) (bVar 6) (Q++[some (y,dv y)])=.ok (.bl (isiB (zpx y) T),om,Q++[some (y,dv y)]):=λ T=>qmg hv (by
  cases n with
  | zero=>cases h
  | succ n=>cases y with
   | scr _=>cases h
   | exn _=>cases h
   | _=>rfl)
 refine t_ok (d:=om) ((zvw (zzj (hi "int")) (λ _=>hi "bool") rfl).trans ?_)
 cases n with
 | zero=>cases h
 | succ n=>cases y with
  | scr _=>cases h
  | exn _=>cases h
  | dct _=>cases h
  | dko=>cases h
  | _=>rfl
theorem qlu {n:Nat}{Q:Rho} (hQ:Q.length=6) {ys:List PV} (hv:bVar 2 Q=.ok (.lst ys,0,Q)) (h:∀ y∈ys,okE n y=true) (hl:ys.length<=1000):∃ e,zqp (bVar 2) 1 (asgN 6) qks (bVar 6) Q=.ok (.lst (ys.filter λ y=>!zvx y),e,Q):=by
 have z:=sz
 have c:=zwy (n:=6) (test:=qks) (elt:=bVar 6) (enc:=id) (q:=id) (e:=dv) (p:=λ y=>!zvx y) ys Q [] hQ (λ y hy=>qhh hQ (h y hy)) (λ y hy _=>by
  unfold bVar
  rw [jc9 (by omega),hQ]
  rfl) (by rw [jh8];omega)
 unfold zqp
 rw [hv]
 dsimp only
 rw [jr5] at c
 rw [c]
 have e3:∀ l:List PV,(l.map λ y=>(id y,dv y)).map (·.1)=l:=λ l=>by rw [jd9];exact jr5 l
 refine ⟨if zzy ((ys.filter λ y=>!zvx y).map λ y=>(id y,dv y)) then om else 1,?_⟩
 show zzk ((ys.filter λ y=>!zvx y).map λ y=>(id y,dv y)) Q=_
 unfold zzk
 rw [e3]
section
variable {a b c n:Nat}{x y:PV}
def RL (a b c:Nat) (x y:PV):Rho:=[some (bx a b c,0),some (x,dv x),some (y,dv y),none,none,none]
theorem qld (hy:okE n y=true):(zhh b y=true/\LIr (RL a b c x y)=.nx (RL a b c x y))\/(zhh b y=false/\LIr (RL a b c x y)=.rt (.bl false) om (RL a b c x y)):=by
 cases n with
 | zero=>cases hy
 | succ n=>
  cases y with
  | lst ys=>
   have t1:bT (bOrV (bUn zqu (bUn (zwk "list") (bVar 2))) (bBin (opEq true) (zqb zwe (zqa (bVar 2) (aNil))) (bBin zqe (bVar 0) (bC (.int 1))))) (RL a b c x (.lst ys))=.ok (!decide ((ys.length:Int)=(b:Int)),RL a b c x (.lst ys)):=by
    refine t_ok (d:=om) ((zvw (a:=false) rfl (λ _=>zyp (i:=(ys.length:Int)) (j:=(b:Int)) rfl rfl) rfl).trans ?_)
    rw [ji1,jj3]
   by_cases hl:ys.length=b
   ·rw [decide_eq_true (by omega)] at t1
    obtain ⟨e,u⟩:=qlu (Q:=RL a b c x (.lst ys)) rfl rfl (zvj hy).2 (zvj hy).1
    have t2:=t_ok (zwb u (g:=zqb zqf aNil) (y:=.lst []) (e:=om) rfl (qok (neg:=true)))
    cases hw:ys.all zvx with
    | true=>
     rw [decide_eq_true (jj7.mpr λ y hy=>by rw [jc4.mp hw y hy];exact jc6)] at t2
     refine .inl ⟨?_,(zwd t1).trans ((if_f t2).trans rfl)⟩
     show (decide _ && _)=true
     rw [decide_eq_true hl,hw]
     rfl
    | false=>
     obtain ⟨y,hy,hn⟩:=List.all_eq_false.mp hw
     rw [decide_eq_false (λ e=>by
      have:=jj7.mp e y hy
      cases h:zvx y with
      | true=>exact hn h
      | false=>rw [h] at this;exact this rfl)] at t2
     refine .inr ⟨?_,(zwd t1).trans ((if_t t2).trans rfl)⟩
     show (decide _ && _)=false
     rw [hw,jg4]
   ·rw [decide_eq_false (by omega)] at t1
    refine .inr ⟨?_,zxx ((if_t t1).trans rfl)⟩
    show (decide _ && _)=false
    rw [decide_eq_false hl]
    rfl
  | scr _=>cases hy
  | exn _=>cases hy
  | dct _=>cases hy
  | dko=>cases hy
  | _=>exact .inr ⟨rfl,zxx ((if_t (t_ok (d:=om) (zvw (a:=true) (b:=false) rfl (λ e=>nomatch e) rfl))).trans rfl)⟩
theorem qht (hx:okE n x=true\/x=.dko) (h:zma a b x=false):a_is_pile [bx a b c,x]=.ok (.bl false,om,.non):=by
 let R (s2:QQ.Slot):Rho:=[some (bx a b c,0),some (x,dv x),s2,none,none,none]
 rcases hx with hx | rfl
 ·cases n with
  | zero=>cases hx
  | succ n=>
   cases x with
   | lst xs=>
    have t1:bT (bOrV (bUn zqu (bUn (zwk "list") (bVar 1))) (bBin (opEq true) (zqb zwe (zqa (bVar 1) (aNil))) (bBin zqe (bVar 0) (bC (.int 0))))) (R none)=.ok (!decide ((xs.length:Int)=(a:Int)),R none):=by
     refine t_ok (d:=om) ((zvw (a:=false) rfl (λ _=>zyp (i:=(xs.length:Int)) (j:=(a:Int)) rfl rfl) rfl).trans ?_)
     rw [ji1,jj3]
    by_cases hl:xs.length=a
    ·rw [decide_eq_true (by omega)] at t1
     have hs:xs.all (zhh b)=false:=by
      dsimp only [zma] at h
      rw [decide_eq_true hl,Bool.true_and] at h
      exact h
     rcases zpa (asg:=asgN 2) (body:=LIr) (zhh b) (λ ρ=>∃ s2,ρ=R s2) xs (R none) ⟨_,rfl⟩ (by
      rintro y hy _ ⟨s2,rfl⟩
      refine ⟨RL a b c (.lst xs) y,rfl,?_⟩
      rcases qld (a:=a) (b:=b) (c:=c) (x:=.lst xs) ((zvj hx).2 y hy) with ⟨h1,h2⟩ | ⟨h1,h2⟩
      ·exact .inl ⟨h1,_,h2,_,rfl⟩
      ·exact .inr ⟨h1,_,h2⟩) with ⟨h1,_⟩ | ⟨_,ρ',h2⟩
     ·rw [hs] at h1;cases h1
     ·exact zwr rfl ((zwd t1).trans (zxx (zfr (f:=bVar 1) (vs:=[1]) (ρ:=R none) (ρ1:=R none) (d:=0) rfl rfl h2)))
    ·rw [decide_eq_false (by omega)] at t1
     exact zwr rfl (zxx ((if_t t1).trans rfl))
   | scr _=>cases hx
   | exn _=>cases hx
   | dct _=>cases hx
   | dko=>cases hx
   | _=>exact zwr rfl (zxx ((if_t (t_ok (d:=om) (zvw (a:=true) (b:=false) rfl (λ e=>nomatch e) rfl))).trans rfl))
 ·exact zwr rfl (zxx ((if_t (t_ok (d:=om) (zvw (a:=true) (b:=false) rfl (λ e=>nomatch e) rfl))).trans rfl))
end
def Okx (x:PV):Prop:=okE 20 x=true\/x=.dko
theorem qqc {a b c:Nat} (ha:1<=a/\a<=100) (hb:1<=b/\b<=100) (hc:1<=c) {x:PV} (hx:Okx x):∃ q,f_is_pile [bx a b c,x]=.ok (.bl q,om,.non)/\a_is_pile [bx a b c,x]=.ok (.bl q,om,.non):=by
 cases hs:zma a b x with
 | true=>
  obtain ⟨t,ht,rfl⟩:=qd9 hs
  exact ⟨_,zje ht ha hb (by omega),qae ht ha.2 hb.2⟩
 | false=>
  refine ⟨false,?_,qht hx hs⟩
  rcases hx with hx | rfl
  ·refine zgs (zgc ha.1 hb.1 hc) hx ?_
   cases hp:preV a b c x with
   | true=>rw [qeo hp] at hs;cases hs
   | false=>rfl
  ·exact qo0 (zgc ha.1 hb.1 hc)
theorem ixn {n k:Nat} (h:k < n):ixN n (k:Int)=some k:=by
 unfold ixN
 rw [if_pos (by omega),je4,if_pos (by omega)]
theorem qi7 {n k:Nat}{xs:List PV}{y:PV} (hl:xs.length<=1000) (h:∀ x∈xs,okE n x=true) (hy:okE n y=true):okE (n + 1) (.lst (xs.set k y))=true:=
 zvt (by rw [jc5];exact hl) λ x hx=>(jm0 hx).elim (h x) λ e=>by rw [e];exact hy
theorem zfq {f g:Fx}{ρ ρ1 ρ2:Rho}{xs:List PV}{k d e:Nat} (h1:f ρ=.ok (.lst xs,d,ρ1)) (h2:g ρ1=.ok (.int (k:Int),e,ρ2)) (hk:k < xs.length):bBin zqe f g ρ=.ok (xs[k],dv xs[k],ρ2):=by
 refine zwb h1 h2 ?_
 show (atI xs (k:Int)).map (λ z=>(z,dv z))=_
 rw [zwt (x:=xs[k]) (by omega) (by rw [je4];exact jb3 hk)]
 rfl
theorem qbd {n:Nat}{l s:Rho} (h:l.length=n):(l++s).take n=l:=by rw [<- h];exact List.take_left
theorem zfn {fa:Fa}{ρ ρ1:Rho}{xs:List (PV×Nat)} (h:fa ρ=.ok (xs,ρ1)) (hl:xs.length<=va2):∃ d,zqb zqf fa ρ=.ok (.lst (xs.map (·.1)),d,ρ1):=⟨_,zqx h (by unfold zqf;rw [if_pos hl])⟩
def Val (ρ:Rho) (j:Nat) (x:PV):Prop:=∃ d,ρ[j]?=some (some (x,d))
theorem Val.var {ρ:Rho}{j:Nat}{x:PV} (h:Val ρ j x):bVar j ρ=.ok (x,dv x,ρ):=by
 obtain ⟨d,e⟩:=h
 unfold bVar
 rw [e]
theorem zwm {d:Nat}{vs:List Nat}{ρ:Rho}:(zqk d vs ρ).length=ρ.length:=by
 unfold zqk
 split
 ·rfl
 ·exact zbg vs ρ 0
theorem zkd {d j:Nat}{vs:List Nat}{ρ:Rho} (h:vs.contains j=false):(zqk d vs ρ)[j]?=ρ[j]?:=by
 unfold zqk
 split
 ·rfl
 ·rw [zko,jl6,h]
  cases ρ[j]? with
  | none=>rfl
  | some s=>rfl
theorem Val.cool {ρ:Rho}{j d:Nat}{x:PV}{vs:List Nat} (h:Val ρ j x):Val (zqk d vs ρ) j x:=by
 obtain ⟨e,he⟩:=h
 unfold zqk
 split
 ·exact ⟨e,he⟩
 ·rw [Val,zko,he]
  dsimp only [jr6]
  split
  ·exact ⟨0,rfl⟩
  ·exact ⟨e,rfl⟩
theorem Val.set {ρ:Rho}{j k:Nat}{x:PV}{s:QQ.Slot} (h:Val ρ j x) (hk:k≠j):Val (ρ.set k s) j x:=by
 obtain ⟨d,e⟩:=h
 exact ⟨d,by rw [ja9 hk];exact e⟩
theorem Val.here {ρ:Rho}{k d:Nat}{x:PV} (h:k < ρ.length):Val (ρ.set k (some (x,d))) k x:=⟨d,jb5 h⟩
theorem Val.app {ρ s:Rho}{j:Nat}{x:PV} (h:Val ρ j x):Val (ρ++s) j x:=by
 obtain ⟨d,e⟩:=h
 exact ⟨d,by rw [jc2 (ja8.mp e).1];exact e⟩
theorem zyw {i d:Nat}{f:Fx}{vs:List Nat}{ρ ρ1:Rho}{x:PV} (h:f ρ=.ok (x,d,ρ1)) (hc:i < ρ1.length):sSet false i f vs ρ=.nx ((zqk d vs ρ1).set i (some (x,d))):=setF h hc rfl
structure Ev (a b c:Nat) (t:List (List Int)) (x:PV) (ρ:Rho):Prop where
 len:ρ.length=14
 p:ρ[0]?=some (some (x,om))
 v1:Val ρ 1 (bx a b c)
 v2:Val ρ 2 (tb t)
 v3:Val ρ 3 (.int a)
 v4:Val ρ 4 (.int b)
 v5:Val ρ 5 (.int c)
def Lst (ρ:Rho) (k N:Nat) (P:PV->Prop) (W:List PV):Prop:=∃ ys d,ρ[k]?=some (some (.lst ys,d))/\d≠0/\ys.length<=N/\(∀ y∈ys,P y)/\∀ w∈W,w∈ys
section
variable {a b c:Nat}{t:List (List Int)}{x x':PV}{ρ:Rho}
theorem Ev.put {k:Nat}{s:QQ.Slot} (e:Ev a b c t x ρ) (hk:6<=k):Ev a b c t x (ρ.set k s):=
 ⟨by rw [jc5];exact e.len,by rw [ja9 (by omega)];exact e.p,e.v1.set (by omega),e.v2.set (by omega),e.v3.set (by omega),e.v4.set (by omega),e.v5.set (by omega)⟩
theorem Ev.cool {d:Nat}{vs:List Nat} (e:Ev a b c t x ρ) (h0:vs.contains 0=false):Ev a b c t x (zqk d vs ρ):=
 ⟨by rw [zwm];exact e.len,by rw [zkd h0];exact e.p,e.v1.cool,e.v2.cool,e.v3.cool,e.v4.cool,e.v5.cool⟩
theorem Ev.pool (e:Ev a b c t x ρ):Ev a b c t x' (ρ.set 0 (some (x',om))):=
 ⟨by rw [jc5];exact e.len,jb5 (by rw [e.len];decide),e.v1.set (by decide),e.v2.set (by decide),e.v3.set (by decide),e.v4.set (by decide),e.v5.set (by decide)⟩
theorem Lst.set {k j N:Nat}{P:PV->Prop}{W:List PV}{s:QQ.Slot} (h:Lst ρ k N P W) (hk:j≠k):Lst (ρ.set j s) k N P W:=by
 obtain ⟨ys,d,e,r⟩:=h
 exact ⟨ys,d,by rw [ja9 hk];exact e,r⟩
theorem Lst.cool {k N d:Nat}{P:PV->Prop}{W:List PV}{vs:List Nat} (h:Lst ρ k N P W) (hk:vs.contains k=false):Lst (zqk d vs ρ) k N P W:=by
 obtain ⟨ys,d',e,r⟩:=h
 exact ⟨ys,d',by rw [zkd hk];exact e,r⟩
theorem zye {f:Fx}{d:Nat}{B m:Int} (e:Ev a b c t x ρ) (h:Pl B x) (hB:B<=100000) (hm:0 < m/\m < 2 ^ 128) (hf:f ρ=.ok (.int m,d,ρ)):∃ v x',(0<=v/\v < m)/\Pl (B + 1) x'/\zqd a_take 0 (zqa f aNil) ρ=.ok (.int v,om,ρ.set 0 (some (x',om))):=by
 obtain ⟨v,x',hv,hp,e1⟩:=qbc h hB hm
 exact ⟨v,x',hv,hp,zwa (p:=(x,om)) (x0:=x) (d0:=om) e.p (zqt hf) e.p e1 rfl⟩
theorem ql9 {k d N:Nat}{f:Fx}{vs:List Nat}{y:PV}{P:PV->Prop}{W:List PV} (h:Lst ρ k N P W) (hf:f ρ=.ok (y,d,ρ)) (hy:P y) (hk:vs.contains k=false) (hN:N<=1000):∃ ρ',sApp k f vs ρ=.nx ρ'/\Lst ρ' k (N + 1) P W/\∃ s,ρ'=(zqk d vs ρ).set k s:=by
 have z:=sz
 obtain ⟨ys,d0,e,hd,hl,hP,hW⟩:=h
 obtain ⟨d1,rfl⟩:∃ d1,d0=d1 + 1:=⟨d0 - 1,by omega⟩
 have e1:(zqk d vs ρ)[k]?=some (some (.lst ys,d1 + 1)):=by rw [zkd hk];exact e
 refine ⟨_,zmp e hf e1 hd (by omega) rfl,⟨ys++[y],_,jb5 (by rw [zwm];exact (ja8.mp e).1),?_,by rw [jb1,ja6];omega,λ w hw=>?_,λ w hw=>jb0 _ (hW w hw)⟩,_,rfl⟩
 ·split <;> decide
 ·rcases jc0.mp hw with hw | hw
  ·exact hP w hw
  ·rw [jb7.mp hw];exact hy
theorem rep1 (x:PV):∀ n:Nat,repL n [x]=ja7 n x
 | 0=>rfl
 | n + 1=>by
  have:=rep1 x n
  unfold repL at this ⊢
  rw [je0,jf3,this]
  rfl
theorem zbw {f g:Fx}{ρ ρ1 ρ2:Rho}{x:PV}{n d e:Nat} (h1:f ρ=.ok (.lst [x],d,ρ1)) (h2:g ρ1=.ok (.int (n:Int),e,ρ2)) (hn:n<=1000):bBin zxc f g ρ=.ok (.lst (ja7 n x),d1 (ja7 n x),ρ2):=by
 refine zwb h1 h2 ?_
 have z:=sz
 unfold zxc
 dsimp only
 rw [if_pos ⟨by omega,by omega,by rw [ja6,je4];omega⟩,je4,rep1]
theorem qe2 {n m:Nat}{x:PV} (hm:m<=1000) (h:okE n x=true):okE (n + 1) (.lst (ja7 m x))=true:=zvt (by rw [jd0];exact hm) λ y hy=>by rw [(jo0.mp hy).2];exact h
theorem zjm {n:Nat}{xs ys:List PV} (hl:xs.length + ys.length<=1000) (hx:∀ x∈xs,okE n x=true) (hy:∀ x∈ys,okE n x=true):okE (n + 1) (.lst (xs++ys))=true:=zvt (by rw [jb1];exact hl) λ z hz=>(jc0.mp hz).elim (hx z) (hy z)
theorem qcx {n:Nat} (ht:Tab a b t) (hb:b<=100):∀ x∈t.map il,okE (n + 2) x=true:=λ x hx=>by
 obtain ⟨r,hr,rfl⟩:=jd5.mp hx
 exact qe3 (by rw [ht.2 r hr];omega)
def n1:Fx:=bSl (bBin zqg (zqb zqf (zqa (bBin zxc (zqb zqf (zqa (bC (.int 0)) (aNil))) (bVar 4)) (aNil))) (bBin zxc (zqb zqf (zqa (bBin zxc (zqb zqf (zqa (bC (.int 1)) (aNil))) (bVar 4)) (aNil))) (bVar 3))) none (some (bVar 3))
def n2:Fx:=zxs zqy (zqa (bVar 3) (aNil)) 1 (asgN 14) zqr (bBin zqg (zqb zqf (zqa (bC (.int 0)) (aNil))) (bBin zxc (zqb zqf (zqa (bC (.int 1)) (aNil))) (bBin zxj (bVar 4) (bC (.int 1)))))
theorem qp1 (e:Ev a b c t x ρ) (ha:a<=100) (hb:b<=100):∃ y d,n1 ρ=.ok (y,d,ρ)/\okE 4 y=true:=by
 have z:=sz
 have r0:=qbo (f:=zqb zqf (zqa (bC (.int 0)) (aNil))) (g:=bVar 4) (ρ:=ρ) (ρ1:=ρ) (v:=0) (d:=om) rfl e.v4.var (by omega)
 have r1:=qbo (f:=zqb zqf (zqa (bC (.int 1)) (aNil))) (g:=bVar 4) (ρ:=ρ) (ρ1:=ρ) (v:=1) (d:=om) rfl e.v4.var (by omega)
 obtain ⟨e0,l0⟩:=zya r0
 obtain ⟨e1,l1⟩:=zya r1
 have m1:=zbw l1 e.v3.var (by omega)
 have s:=zxm l0 m1 (by rw [ja6,jd0];omega)
 have f:=qm6 s e.v3.var (by rw [jb1,ja6,jd0];omega)
 refine ⟨_,_,f,zvt (by rw [jc7,jb1,ja6,jd0];omega) λ y hy=>?_⟩
 rcases jc0.mp (je6 hy) with hy | hy
 ·rw [jb7.mp hy];exact qe3 (by rw [jd0];omega)
 ·rw [(jo0.mp hy).2];exact qe3 (by rw [jd0];omega)
theorem qp0 (e:Ev a b c t x ρ) (ha:a<=100) (hb:1<=b/\b<=100):∃ y d,n2 ρ=.ok (y,d,ρ)/\okE 4 y=true:=by
 have z:=sz
 have f:=zbh (n:=14) (en:=zqy) (fa:=zqa (bVar 3) (aNil)) (elt:=bBin zqg (zqb zqf (zqa (bC (.int 0)) (aNil))) (bBin zxc (zqb zqf (zqa (bC (.int 1)) (aNil))) (bBin zxj (bVar 4) (bC (.int 1))))) (q:=λ _=>il (0::ja7 (b - 1) 1)) (ρ:=ρ) (ρ1:=ρ) (lo:=0) (hi:=(a:Int)) (zqt e.v3.var) (zxw (by omega) (by omega)) e.len (λ k _=>by
  have s1:=zvs (f:=bVar 4) (g:=bC (.int 1)) (ρ:=ρ++[some (.int (0 + (k:Int)),om)]) (e.v4.app.var) (j:=1) (e:=om) (ρ2:=ρ++[some (.int (0 + (k:Int)),om)]) rfl
  rw [show (b:Int) - 1=((b - 1:Nat):Int) by omega] at s1
  have r1:=qbo (f:=zqb zqf (zqa (bC (.int 1)) (aNil))) (ρ:=ρ++[some (.int (0 + (k:Int)),om)]) (ρ1:=ρ++[some (.int (0 + (k:Int)),om)]) (v:=1) (d:=om) rfl s1 (by omega)
  have s:=zxm (f:=zqb zqf (zqa (bC (.int 0)) (aNil))) (xs:=[.int 0]) (d:=om) (ρ:=ρ++[some (.int (0 + (k:Int)),om)]) rfl r1 (by rw [ja6,ja1,jd0];omega)
  have ed:d1 ([.int 0]++(ja7 (b - 1) 1).map PV.int)=om:=qf0 (0::ja7 (b - 1) 1)
  rw [ed] at s
  exact s) (by omega)
 exact ⟨_,_,f,zvt (by rw [ja1,je5];omega) λ y hy=>by
  obtain ⟨_,_,rfl⟩:=jd5.mp hy
  exact qe3 (by rw [jb4,jd0];omega)⟩
end
theorem qpq {f j:Fx}{ρ ρ1:Rho}{xs:List PV}{n d e:Nat} (h1:f ρ=.ok (.lst xs,d,ρ1)) (h2:j ρ1=.ok (.int (n:Int),e,ρ1)) (hn:n<=xs.length):bSl f (some j) none ρ=.ok (.lst (xs.drop n),d1 (xs.drop n),ρ1):=by
 have ec:cutP xs (some (n:Int)) none=xs.drop n:=by
  unfold cutP
  rw [HT.sIx_nat,HT.sIx_none,jj6 hn]
  exact jf9 (by rw [jd6];exact jb8 _)
 unfold bSl
 rw [h1]
 dsimp only [Rz.bind,evO]
 rw [h2]
 dsimp only [opSl]
 rw [ec]
def Gd (f:Fx) (ρ:Rho):Prop:=∃ y d,f ρ=.ok (y,d,ρ)/\okE 4 y=true
def Gs (fa:Fa) (ρ:Rho) (n:Nat) (W:List PV):Prop:=∃ ps,fa ρ=.ok (ps,ρ)/\ps.length=n/\(∀ p∈ps,okE 4 p.1=true)/\∀ w∈W,w∈ps.map (·.1)
theorem gs_nil {ρ:Rho}:Gs aNil ρ 0 []:=⟨[],rfl,rfl,λ _ z=>(nomatch z),λ _ z=>nomatch z⟩
theorem gs_cons {f:Fx}{fa:Fa}{ρ:Rho}{n:Nat}{W:List PV} (h:Gd f ρ) (hs:Gs fa ρ n W):Gs (zqa f fa) ρ (n + 1) W:=by
 obtain ⟨y,d,e,hy⟩:=h
 obtain ⟨ps,e2,hl,hp,hW⟩:=hs
 refine ⟨(y,d)::ps,zqm e e2,by rw [jb4,hl],λ p h=>?_,λ w hw=>ja0 _ (hW w hw)⟩
 rcases jb2.mp h with rfl | h
 ·exact hy
 ·exact hp p h
theorem qhy {x:PV}{fa:Fa}{ρ:Rho}{n:Nat}{W:List PV} (h:okE 4 x=true) (hs:Gs fa ρ n W):Gs (zqa (bC x) fa) ρ (n + 1) (x::W):=by
 obtain ⟨ps,e2,hl,hp,hW⟩:=hs
 refine ⟨(x,om)::ps,zqm rfl e2,by rw [jb4,hl],λ p hh=>?_,λ w hw=>?_⟩
 ·rcases jb2.mp hh with rfl | hh
  ·exact h
  ·exact hp p hh
 ·rcases jb2.mp hw with rfl | hw
  ·exact ja3
  ·exact ja0 _ (hW w hw)
theorem gd_c {x:PV}{ρ:Rho} (h:okE 4 x=true):Gd (bC x) ρ:=⟨x,om,rfl,h⟩
theorem qqa (xs:List PV):d1 xs≠0:=by
 unfold d1
 split <;> decide
theorem zfk {k n N:Nat}{fa:Fa}{v:List Nat}{ρ:Rho}{W W':List PV} (h:Lst ρ k N (λ y=>okE 4 y=true) W) (hs:Gs fa ρ n W') (hN:N + n<=1000):∃ ρ',sSet false k (bBin zqg (bVar k) (zqb zqf fa)) v ρ=.nx ρ'/\Lst ρ' k (N + n) (λ y=>okE 4 y=true) (W++W')/\∃ d s,ρ'=(zqk d v ρ).set k s:=by
 have z:=sz
 obtain ⟨ys,d,e,hd,hl,hP,hW⟩:=h
 obtain ⟨ps,e2,hl2,hp,hW'⟩:=hs
 have hk:=(ja8.mp e).1
 obtain ⟨d3,e3⟩:=zfn e2 (by omega)
 have e4:=zxm (f:=bVar k) (ρ:=ρ) (Val.var ⟨d,e⟩) e3 (by rw [ja1];omega)
 refine ⟨_,zyw e4 hk,⟨ys++ps.map (·.1),_,jb5 (by rw [zwm];exact hk),qqa _,by rw [jb1,ja1];omega,λ y hy=>?_,λ w hw=>?_⟩,_,_,rfl⟩
 ·rcases jc0.mp hy with hy | hy
  ·exact hP y hy
  ·obtain ⟨p,h,rfl⟩:=jd5.mp hy
   exact hp p h
 ·rcases jc0.mp hw with hw | hw
  ·exact jb0 _ (hW w hw)
  ·exact ja5 _ (hW' w hw)
theorem qf5 {n:Nat}{f elt:Fx}{q:List Int->PV}{e:List Int->Nat}{ρ:Rho}{d:Nat} (t:List (List Int)) (hf:f ρ=.ok (.lst (t.map il),d,ρ)) (hn:ρ.length=n) (he:∀ r∈t,elt (ρ++[some (il r,0)])=.ok (q r,e r,ρ++[some (il r,0)])) (hl:t.length<=1000):∃ d,zqp f 1 (asgN n) zqr elt ρ=.ok (.lst (t.map q),d,ρ):=by
 have z:=sz
 have c:=zwy (n:=n) (test:=zqr) (elt:=elt) (enc:=il) (q:=q) (e:=e) (p:=λ _=>true) t ρ [] hn (λ _ _=>rfl) (λ r hr _=>he r hr) (by rw [jh8];omega)
 unfold zqp
 rw [hf]
 dsimp only
 rw [c,jf5.mpr (λ _ _=>rfl)]
 have e3:(t.map λ r=>(q r,e r)).map (·.1)=t.map q:=by rw [jd9];rfl
 refine ⟨if zzy (t.map λ r=>(q r,e r)) then om else 1,?_⟩
 show zzk (t.map λ r=>(q r,e r)) ρ=_
 unfold zzk
 rw [e3]
section
variable {a b c:Nat}{t:List (List Int)}{x:PV}{ρ:Rho}
theorem zph (e:Ev a b c t x ρ) (ht:Tab a b t) (ha:a<=100) {elt:Fx}{q:List Int->PV}{dq:List Int->Nat} (he:∀ r∈t,elt (ρ++[some (il r,0)])=.ok (q r,dq r,ρ++[some (il r,0)])) (hq:∀ r∈t,okE 3 (q r)=true):Gd (zqp (bVar 2) 1 (asgN 14) zqr elt) ρ:=by
 obtain ⟨d,h⟩:=qf5 t e.v2.var e.len he (by rw [ht.1];omega)
 refine ⟨_,d,h,zvt (by rw [ja1,ht.1];omega) λ y hy=>?_⟩
 obtain ⟨r,hr,rfl⟩:=jd5.mp hy
 exact hq r hr
theorem zbr (hl:ρ.length=14) (r:List Int):bVar 14 (ρ++[some (il r,0)])=.ok (il r,0,ρ++[some (il r,0)]):=by
 unfold bVar
 rw [jc9 (by omega),hl]
 rfl
theorem zjl {n:Nat}{y:PV} (h:okE n y=true):∀ x∈[y],okE n x=true:=λ x hx=>by rw [jb7.mp hx];exact h
theorem zfp {n:Nat}{r:List Int}:∀ x∈r.map PV.int,okE (n + 1) x=true:=λ x hx=>by
 obtain ⟨i,_,rfl⟩:=jd5.mp hx
 rfl
def A7:Fa:=(zqa (bC .non) (zqa (bC (.int 0)) (zqa (bC (.bl true)) (zqa (bC (.str "")) (zqa (bC (.str "0")) (zqa (zqb zwn (aNil)) (zqa (zqb zqf (aNil)) (zqa (bC .emp) (zqa (zqb zqf (zqa (zqb zqf (aNil)) (aNil))) (zqa (bBin zxc (zqb zqf (zqa (bC .non) (aNil))) (bVar 3)) (zqa (zqb zkr (zqa (bVar 2) (aNil))) (zqa (bSl (bVar 2) none (some (bUn zxq (bC (.int 1))))) (aNil)))))))))))))
def A8:Fa:=(zqa (bBin zqg (bVar 2) (zqb zqf (zqa (bBin zxc (zqb zqf (zqa (bC (.int 0)) (aNil))) (bVar 4)) (aNil)))) (zqa (zqp (bVar 2) 1 (asgN 14) zqr (zqb zkr (zqa (bVar 14) (aNil)))) (zqa (zqp (bVar 2) 1 (asgN 14) zqr (bBin zqg (bVar 14) (zqb zqf (zqa (bC (.int 0)) (aNil))))) (aNil))))
def A9:Fa:=(zqa (zqp (bVar 2) 1 (asgN 14) zqr (bBin zqg (zqb zqf (zqa (bBin zqg (bVar 5) (bC (.int 1))) (aNil))) (bSl (bVar 14) (some (bC (.int 1))) none))) (zqa (zqp (bVar 2) 1 (asgN 14) zqr (bBin zqg (bSl (bVar 14) none (some (bUn zxq (bC (.int 1))))) (zqb zqf (zqa (bUn zxq (bC (.int 1))) (aNil))))) (aNil)))
def A10:Fa:=(zqa (zqp (bVar 2) 1 (asgN 14) zqr (bBin zqg (bSl (bVar 14) none (some (bUn zxq (bC (.int 1))))) (zqb zqf (zqa (bC (.bl true)) (aNil))))) (zqa (bBin zqg (bSl (bVar 2) none (some (bUn zxq (bC (.int 1))))) (zqb zqf (zqa (bBin zxc (zqb zqf (zqa (bC .non) (aNil))) (bVar 4)) (aNil)))) (zqa (bBin zqg (bSl (bVar 2) none (some (bUn zxq (bC (.int 1))))) (zqb zqf (zqa (bBin zxc (zqb zqf (zqa (bC (.str "0")) (aNil))) (bVar 4)) (aNil)))) (aNil))))
theorem qql (e:Ev a b c t x ρ) (ht:Tab a b t) (ha:a<=100) (hb:b<=100):Gs A7 ρ 12 [.non]:=by
 have lt:=ht.1
 refine qhy rfl (gs_cons (gd_c rfl) (gs_cons (gd_c rfl) (gs_cons (gd_c rfl) (gs_cons (gd_c rfl) (gs_cons ⟨.tup [],om,rfl,rfl⟩ (gs_cons ⟨.lst [],om,rfl,rfl⟩ (gs_cons (gd_c rfl) (gs_cons ⟨.lst [.lst []],om,rfl,rfl⟩ (gs_cons ?_ (gs_cons ?_ (gs_cons ?_ gs_nil)))))))))))
 ·exact ⟨_,_,zbw (f:=zqb zqf (zqa (bC .non) (aNil))) (d:=om) rfl e.v3.var (by omega),qe2 (by omega) rfl⟩
 ·exact ⟨.tup (t.map il),0,zqx (zqt e.v2.var) rfl,qas (by rw [ja1];omega) (qcx (n:=1) ht hb)⟩
 ·exact ⟨_,_,zyv e.v2.var,zvt (by rw [jc7,ja1];omega) λ y hy=>qcx (n:=1) ht hb y (je6 hy)⟩
theorem qqk (e:Ev a b c t x ρ) (ht:Tab a b t) (ha:a<=100) (hb:b<=100):Gs A8 ρ 3 []:=by
 have z:=sz
 have lt:=ht.1
 refine gs_cons ?_ (gs_cons ?_ (gs_cons ?_ gs_nil))
 ·have r0:=qbo (f:=zqb zqf (zqa (bC (.int 0)) (aNil))) (g:=bVar 4) (ρ:=ρ) (ρ1:=ρ) (v:=0) (d:=om) rfl e.v4.var (by omega)
  obtain ⟨e0,l0⟩:=zya r0
  exact ⟨_,_,zxm e.v2.var l0 (by rw [ja1,ja6];omega),zjm (by rw [ja1,ja6];omega) (qcx (n:=1) ht hb) (zjl (qe3 (n:=1) (by rw [jd0];omega)))⟩
 ·exact zph (elt:=zqb zkr (zqa (bVar 14) (aNil))) (q:=λ r=>.tup (r.map PV.int)) (dq:=λ _=>0) e ht ha (λ r hr=>zqx (zqt (zbr e.len r)) rfl) λ r hr=>qas (by rw [ja1,ht.2 r hr];omega) zfp
 ·exact zph (elt:=bBin zqg (bVar 14) (zqb zqf (zqa (bC (.int 0)) (aNil)))) (q:=λ r=>.lst (r.map PV.int++[.int 0])) (dq:=λ r=>d1 (r.map PV.int++[.int 0])) e ht ha (λ r hr=>zxm (zbr e.len r) (ys:=[.int 0]) (e:=om) rfl (by rw [ja1,ja6,ht.2 r hr];omega)) λ r hr=>zjm (by rw [ja1,ja6,ht.2 r hr];omega) zfp (zjl rfl)
theorem qqj (e:Ev a b c t x ρ) (ht:Tab a b t) (ha:a<=100) (hb:1<=b/\b<=100):Gs A9 ρ 2 []:=by
 have z:=sz
 refine gs_cons ?_ (gs_cons ?_ gs_nil)
 ·exact zph (elt:=bBin zqg (zqb zqf (zqa (bBin zqg (bVar 5) (bC (.int 1))) (aNil))) (bSl (bVar 14) (some (bC (.int 1))) none)) (q:=λ r=>.lst ([.int ((c:Int) + 1)]++(r.map PV.int).drop 1)) (dq:=λ r=>d1 ([.int ((c:Int) + 1)]++(r.map PV.int).drop 1)) e ht ha (λ r hr=>by
   obtain ⟨e0,l0⟩:=zya (zwp (f:=bVar 5) (g:=bC (.int 1)) (ρ:=ρ++[some (il r,0)]) e.v5.app.var (j:=1) (e:=om) rfl)
   exact zxm l0 (qpq (n:=1) (zbr e.len r) (e:=om) rfl (by rw [ja1,ht.2 r hr];omega)) (by rw [ja6,jd6,ja1,ht.2 r hr];omega)) λ r hr=>zjm (by rw [ja6,jd6,ja1,ht.2 r hr];omega) (zjl rfl) λ y hy=>zfp y (jg5 hy)
 ·exact zph (elt:=bBin zqg (bSl (bVar 14) none (some (bUn zxq (bC (.int 1))))) (zqb zqf (zqa (bUn zxq (bC (.int 1))) (aNil)))) (q:=λ r=>.lst ((r.map PV.int).take ((r.map PV.int).length - 1)++[.int (-1)])) (dq:=λ r=>d1 ((r.map PV.int).take ((r.map PV.int).length - 1)++[.int (-1)])) e ht ha (λ r hr=>zxm (zyv (zbr e.len r)) (ys:=[.int (-1)]) (e:=om) rfl (by rw [jc7,ja1,ja6,ht.2 r hr];omega)) λ r hr=>zjm (by rw [jc7,ja1,ja6,ht.2 r hr];omega) (λ y hy=>zfp y (je6 hy)) (zjl rfl)
theorem qpm (e:Ev a b c t x ρ) (ht:Tab a b t) (ha:a<=100) (hb:1<=b/\b<=100):Gs A10 ρ 3 []:=by
 have z:=sz
 have lt:=ht.1
 have tk:∀ y∈(t.map il).take ((t.map il).length - 1),okE 3 y=true:=λ y hy=>qcx (n:=1) ht hb.2 y (je6 hy)
 have ll:((t.map il).take ((t.map il).length - 1)).length<=100:=by rw [jc7,ja1];omega
 refine gs_cons ?_ (gs_cons ?_ (gs_cons ?_ gs_nil))
 ·exact zph (elt:=bBin zqg (bSl (bVar 14) none (some (bUn zxq (bC (.int 1))))) (zqb zqf (zqa (bC (.bl true)) (aNil)))) (q:=λ r=>.lst ((r.map PV.int).take ((r.map PV.int).length - 1)++[.bl true])) (dq:=λ r=>d1 ((r.map PV.int).take ((r.map PV.int).length - 1)++[.bl true])) e ht ha (λ r hr=>zxm (zyv (zbr e.len r)) (ys:=[.bl true]) (e:=om) rfl (by rw [jc7,ja1,ja6,ht.2 r hr];omega)) λ r hr=>zjm (by rw [jc7,ja1,ja6,ht.2 r hr];omega) (λ y hy=>zfp y (je6 hy)) (zjl rfl)
 ·have m1:=zbw (f:=zqb zqf (zqa (bC .non) (aNil))) (ρ:=ρ) (ρ1:=ρ) (d:=om) rfl e.v4.var (by omega)
  obtain ⟨e0,l0⟩:=zya m1
  exact ⟨_,_,zxm (zyv e.v2.var) l0 (by rw [ja6];omega),zjm (by rw [ja6];omega) tk (zjl (qe2 (by omega) rfl))⟩
 ·have m1:=zbw (f:=zqb zqf (zqa (bC (.str "0")) (aNil))) (ρ:=ρ) (ρ1:=ρ) (d:=om) rfl e.v4.var (by omega)
  obtain ⟨e0,l0⟩:=zya m1
  exact ⟨_,_,zxm (zyv e.v2.var) l0 (by rw [ja6];omega),zjm (by rw [ja6];omega) tk (zjl (qe2 (by omega) rfl))⟩
end
abbrev G4 (y:PV):Prop:=okE 4 y=true
def odd9:Fx:=(bBin zqe (zqb zqf (zqa (bC (.bl false)) (zqa (bC (.bl true)) (zqa (bC .non) (zqa (bC (.str "0")) (zqa (zqb zwn (zqa (bC (.int 0)) (aNil))) (zqa (zqb zqf (zqa (bC (.int 0)) (aNil))) (zqa (bBin zqg (bVar 5) (bC (.int 1))) (zqa (bUn zxq (bC (.int 1))) (zqa (bBin zqg (bBin zqg (bVar 5) (bC (.int 1))) (zqd a_take 0 (zqa (bBin zgx (bC (.int 10)) (bC (.int 20))) (aNil)))) (aNil))))))))))) (zqd a_take 0 (zqa (bC (.int 9)) (aNil))))
def rw3:Fa:=(zqa (bSl (bBin zqe (bVar 2) (bVar 7)) none (some (bUn zxq (bC (.int 1))))) (zqa (bBin zqg (bBin zqe (bVar 2) (bVar 7)) (zqb zqf (zqa (bC (.int 0)) (aNil)))) (zqa (bBin zqg (bBin zqg (bSl (bBin zqe (bVar 2) (bVar 7)) none (some (bVar 8))) (zqb zqf (zqa (bVar 9) (aNil)))) (bSl (bBin zqe (bVar 2) (bVar 7)) (some (bBin zqg (bVar 8) (bC (.int 1)))) none)) (aNil))))
def apx:Fx:=(bBin zqg (bBin zqg (bSl (bVar 2) none (some (bVar 7))) (zqb zqf (zqa (bVar 10) (aNil)))) (bSl (bVar 2) (some (bBin zqg (bVar 7) (bC (.int 1)))) none))
def apP:Fs:=(zyx 6 (zqp (bVar 2) 1 (asgN 14) zqr (zqb zvb (zqa (bVar 14) (aNil)))) (zqd a_take 0 (zqa (bBin zqg (bVar 5) (bC (.int 1))) (aNil))) (zqd a_take 0 (zqa (bVar 3) (aNil))) (zqd a_take 0 (zqa (bVar 4) (aNil))))
def lstB:Fs:=sIf (bT (bUn zqu (zqc a_is_pile (zqa (bVar 1) (zqa (bVar 13) (aNil)))))) (sApp 12 (bVar 13) [13]) sNil
def lstX:Fx:=bBin zqe (bVar 12) (zqd a_take 0 (zqa (zqb zwe (zqa (bVar 12) (aNil))) (aNil)))
theorem qk6:Xa_none=sSeq (sUnp (asgT [3,4,5]) (bVar 1) [1]) (sSeq (sSet false 6 (zqb zqf (zqa n1 (zqa n2 aNil))) [4,4,3,4]) (sSeq (sSet false 7 (zqd a_take 0 (zqa (bVar 3) (aNil))) [3]) (sSeq (sSet false 8 (zqd a_take 0 (zqa (bVar 4) (aNil))) [4]) (sSeq (sSet false 9 odd9 [5,5]) (sSeq (zvv (zqb zqf rw3) [2,7,2,7,2,7,9,2,7] (asgN 10) (sApp 6 apx [2,10,2])) (sSeq (zwq zqy (zqa (bC (.int 6)) (aNil)) (asgN 11) apP) (sSeq (sSet false 6 (bBin zqg (bVar 6) (zqb zqf A7)) [6,3,2,2]) (sSeq (sSet false 6 (bBin zqg (bVar 6) (zqb zqf A8)) [6,2,4,2,2,2,2]) (sSeq (sSet false 6 (bBin zqg (bVar 6) (zqb zqf A9)) [6,2,5,2,2,2]) (sSeq (sSet false 6 (bBin zqg (bVar 6) (zqb zqf A10)) [6,2,2,2,4,2,4]) (sSeq (sSet false 12 (zqb zqf (aNil)) []) (sSeq (zvv (bVar 6) [6] (asgN 13) lstB) (sRet (bBin zqg (bSl (bVar 12) none (some (bC (.int 5)))) (zxs zqy (zqa (bC (.int 2)) (aNil)) 1 (asgN 14) zqr lstX))))))))))))))):=rfl
theorem qgp {n:Nat}{y:PV}{ρ:Rho} (h:n < ρ.length):asgN n y ρ=some (ρ.set n (some (y,dv y))):=by
 unfold asgN
 rw [if_pos h]
section
variable {a b c:Nat}{t:List (List Int)}{x:PV}{ρ:Rho}
theorem qk4 {B:Int} (e:Ev a b c t x ρ) (hx:Pl B x) (hB:B<=90000):∃ y d x',okE 2 y=true/\Pl (B + 2) x'/\odd9 ρ=.ok (y,d,ρ.set 0 (some (x',om))):=by
 have z:=sz
 obtain ⟨v,x1,_,hx1,c1⟩:=zye (f:=bBin zgx (bC (.int 10)) (bC (.int 20))) (d:=om) (m:=10 ^ 20) e hx (by omega) (by decide) (by kernel_rfl)
 have e1:Ev a b c t x1 (ρ.set 0 (some (x1,om))):=e.pool
 obtain ⟨k0,x2,hk0,hx2,c2⟩:=zye (f:=bC (.int 9)) (d:=om) (m:=9) e1 hx1 (by omega) (by decide) rfl
 obtain ⟨k,rfl⟩:=jd7 hk0.1
 rw [jq8] at c2
 let L9:List PV:=[.bl false,.bl true,.non,.str "0",.tup [.int 0],.lst [.int 0],.int ((c:Int) + 1),.int (-1),.int ((c:Int) + 1 + v)]
 have hk:k < L9.length:=by show k < 9;omega
 have p5:=zwp (f:=bVar 5) (g:=bC (.int 1)) (ρ:=ρ) e.v5.var (j:=1) (e:=om) (ρ2:=ρ) rfl
 obtain ⟨d,l⟩:=zfn (zqm (f:=bC (.bl false)) (x:=.bl false) (d:=om) (ρ:=ρ) rfl (zqm (f:=bC (.bl true)) (x:=.bl true) (d:=om) rfl (zqm (f:=bC .non) (x:=.non) (d:=om) rfl (zqm (f:=bC (.str "0")) (x:=.str "0") (d:=om) rfl (zqm (f:=zqb zwn (zqa (bC (.int 0)) (aNil))) (x:=.tup [.int 0]) (d:=om) rfl (zqm (f:=zqb zqf (zqa (bC (.int 0)) (aNil))) (x:=.lst [.int 0]) (d:=om) rfl (zqm p5 (zqm (f:=bUn zxq (bC (.int 1))) (x:=.int (-1)) (d:=om) rfl (zqt (zwp p5 c1))))))))))  (by show 9<=va2;omega)
 refine ⟨_,_,x2,?_,hx2.mono (by omega),zfq l c2 hk⟩
 exact jc4.mp (show L9.all (okE 2)=true from rfl) _ (je2 hk)
theorem qeg {N i j:Nat}{y:PV}{W:List PV} (e:Ev a b c t x ρ) (ht:Tab a b t) (ha:a<=100) (hb:b<=100) (h6:Lst ρ 6 N G4 W) (hN:N<=100) (v7:Val ρ 7 (.int (i:Int))) (v8:Val ρ 8 (.int (j:Int))) (v9:Val ρ 9 y) (hy:okE 2 y=true) (hi:i < a) (hj:j < b):∃ ρ',zvv (zqb zqf rw3) [2,7,2,7,2,7,9,2,7] (asgN 10) (sApp 6 apx [2,10,2]) ρ=.nx ρ'/\Ev a b c t x ρ'/\Lst ρ' 6 (N + 3) G4 W:=by
 have z:=sz
 have lt:=ht.1
 have lr:t[i]?=some (t.getD i []):=by rw [ja2,jb3 (by omega)];rfl
 have lb:=ht.2 _ (ji2 lr)
 have iR:bBin zqe (bVar 2) (bVar 7) ρ=.ok (il (t.getD i []),0,ρ):=qfm (k:=(i:Int)) e.v2.var v7.var (zwt (by omega) (by rw [je4];exact lr))
 have r1:=zyv iR
 have r2:=zxm iR (h:=zqb zqf (zqa (bC (.int 0)) (aNil))) (ys:=[.int 0]) (e:=om) rfl (by rw [ja1,ja6];omega)
 have r3:=qiy iR v8.var v9.var (by rw [ja1];omega) (by rw [ja1];omega)
 obtain ⟨d,l⟩:=zfn (zqm r1 (zqm r2 (zqt r3))) (by show 3<=va2;omega)
 have hels:∀ w∈[PV.lst (((t.getD i []).map PV.int).take (((t.getD i []).map PV.int).length - 1)),.lst ((t.getD i []).map PV.int++[.int 0]),.lst (rwL ((t.getD i []).map PV.int) j y)],okE 3 w=true:=λ w hw=>by
  simp only [jb2,jg0,or_false] at hw
  rcases hw with rfl | rfl | rfl
  ·exact zvt (by rw [jc7,ja1];omega) λ u hu=>zfp u (je6 hu)
  ·exact zjm (by rw [ja1,ja6];omega) zfp (zjl rfl)
  ·exact zvt (by rw [qef (by rw [ja1];omega),ja1];omega) λ u hu=>(qee hu).elim (zfp u) λ e=>by rw [e];exact hy
 obtain ⟨ρ',el,h1,h2,_⟩:=qb0 (asg:=asgN 10) (body:=sApp 6 apx [2,10,2]) (N:=3) (λ n ρ=>Ev a b c t x ρ/\Lst ρ 6 (N + n) G4 W/\Val ρ 7 (.int (i:Int))) (λ w=>okE 3 w=true) [PV.lst (((t.getD i []).map PV.int).take (((t.getD i []).map PV.int).length - 1)),.lst ((t.getD i []).map PV.int++[.int 0]),.lst (rwL ((t.getD i []).map PV.int) j y)] 0 (zqk d [2,7,2,7,2,7,9,2,7] ρ) (jb8 3) hels ⟨e.cool rfl,h6.cool rfl,v7.cool⟩ (by
  rintro w n ρ hn hw ⟨e,h6,v7⟩
  have e':Ev a b c t x (ρ.set 10 (some (w,dv w))):=e.put (by decide)
  have h10:Val (ρ.set 10 (some (w,dv w))) 10 w:=Val.here (by rw [e.len];decide)
  have v7':Val (ρ.set 10 (some (w,dv w))) 7 (.int (i:Int)):=v7.set (by decide)
  have r:=qiy e'.v2.var v7'.var h10.var (by rw [ja1];omega) (by rw [ja1];omega)
  have ok:okE 4 (.lst (rwL (t.map il) i w))=true:=zvt (by rw [qef (by rw [ja1];omega),ja1];omega) λ u hu=>(qee hu).elim (qcx (n:=1) ht hb u) λ e=>by rw [e];exact hw
  obtain ⟨ρ2,e2,l2,s,rfl⟩:=ql9 (vs:=[2,10,2]) (h6.set (by decide)) r ok rfl (by omega)
  exact ⟨_,_,qgp (by rw [e.len];decide),e2,(e'.cool rfl).put (by decide),l2,(v7'.cool).set (by decide)⟩)
 exact ⟨ρ',zfr l rfl el,h1,h2⟩
theorem qhd {rows cells:List PV}{k j:Nat}{y:PV} (hk:rows[k]?=some (.lst cells)) (hj:j < cells.length):put2 (.lst rows) (k:Int) (j:Int) y=some (.lst (rows.set k (.lst (cells.set j y)))):=by
 unfold put2
 dsimp only
 rw [ixn (ja8.mp hk).1]
 dsimp only
 rw [hk]
 dsimp only
 rw [ixn hj]
theorem qma {N:Nat}{B:Int}{W:List PV} (e:Ev a b c t x ρ) (ht:Tab a b t) (ha:1<=a/\a<=100) (hb:1<=b/\b<=100) (hc:c<=1000) (hx:Pl B x) (hB:B<=90000) (h6:Lst ρ 6 N G4 W) (hN:N<=100):∃ ρ' x',apP ρ=.nx ρ'/\Ev a b c t x' ρ'/\Pl (B + 3) x'/\Lst ρ' 6 (N + 1) G4 W:=by
 have z:=sz
 have lt:=ht.1
 obtain ⟨ys,d0,e0,hd,hl,hP,hW⟩:=h6
 obtain ⟨d1,rfl⟩:∃ d1,d0=d1 + 1:=⟨d0 - 1,by omega⟩
 have hi6:=(ja8.mp e0).1
 have f1:=qa3 (i:=2) (n:=14) e.v2.var e.len (by omega)
 have e1:Ev a b c t x (ρ.set 6 none):=e.put (by decide)
 obtain ⟨v,x1,_,hx1,c1⟩:=zye (f:=bBin zqg (bVar 5) (bC (.int 1))) (m:=(c:Int) + 1) e1 hx (by omega) (by omega) (zwp e1.v5.var (j:=1) (e:=om) rfl)
 have e2:Ev a b c t x1 ((ρ.set 6 none).set 0 (some (x1,om))):=e1.pool
 obtain ⟨p',x2,hp,hx2,c2⟩:=zye (f:=bVar 3) (m:=(a:Int)) e2 hx1 (by omega) (by omega) e2.v3.var
 obtain ⟨p,rfl⟩:=jd7 hp.1
 have e3:Ev a b c t x2 (((ρ.set 6 none).set 0 (some (x1,om))).set 0 (some (x2,om))):=e2.pool
 obtain ⟨q',x3,hq,hx3,c3⟩:=zye (f:=bVar 4) (m:=(b:Int)) e3 hx2 (by omega) (by omega) e3.v4.var
 obtain ⟨q,rfl⟩:=jd7 hq.1
 have e4:Ev a b c t x3 ((((ρ.set 6 none).set 0 (some (x1,om))).set 0 (some (x2,om))).set 0 (some (x3,om))):=e3.pool
 have lr:t[p]?=some (t.getD p []):=by rw [ja2,jb3 (by omega)];rfl
 have lb:=ht.2 _ (ji2 lr)
 have pp:put2 (tb t) (p:Int) (q:Int) (.int v)=some (.lst ((t.map il).set p (.lst (((t.getD p []).map PV.int).set q (.int v))))):=qhd (rows:=t.map il) (cells:=(t.getD p []).map PV.int) (k:=p) (j:=q) (y:=.int v) (by rw [jd1,lr];rfl) (by rw [ja1];omega)
 have ok:okE 4 (.lst ((t.map il).set p (.lst (((t.getD p []).map PV.int).set q (.int v)))))=true:=qi7 (n:=3) (by rw [ja1];omega) (qcx (n:=1) ht hb.2) (qi7 (n:=2) (by rw [ja1];omega) zfp rfl)
 refine ⟨_,x3,?_,e4.put (k:=6) (s:=some (.lst (ys++[.lst ((t.map il).set p (.lst (((t.getD p []).map PV.int).set q (.int v))))]),1)) (by decide),hx3.mono (by omega),ys++[.lst ((t.map il).set p (.lst (((t.getD p []).map PV.int).set q (.int v))))],1,jb5 (by rw [e4.len];decide),by decide,by rw [jb1,ja6];omega,λ w hw=>?_,λ w hw=>jb0 _ (hW w hw)⟩
 ·unfold apP zyx
  rw [e0]
  dsimp only
  rw [f1]
  dsimp only
  rw [e0]
  dsimp only
  rw [if_pos ⟨rfl,hd,by omega⟩,c1]
  dsimp only
  rw [c2]
  dsimp only
  rw [c3]
  dsimp only
  rw [pp]
  rfl
 ·rcases jc0.mp hw with hw | hw
  ·exact hP w hw
  ·rw [jb7.mp hw];exact ok
end
def pq (a b c:Nat) (x:PV):Bool:=match f_is_pile [bx a b c,x] with
 | .ok (.bl q,_,_)=>q
 | _=>false
theorem qkq {a b c:Nat} (ha:1<=a/\a<=100) (hb:1<=b/\b<=100) (hc:1<=c) {x:PV} (hx:okE 4 x=true):f_is_pile [bx a b c,x]=.ok (.bl (pq a b c x),om,.non)/\a_is_pile [bx a b c,x]=.ok (.bl (pq a b c x),om,.non):=by
 obtain ⟨q,h1,h2⟩:=qqc ha hb hc (.inl (qi8 hx (by decide)))
 have e:pq a b c x=q:=by unfold pq;rw [h1]
 rw [e]
 exact ⟨h1,h2⟩
theorem zbz {asg:PV->Rho->Option Rho}{body:Fs}{N:Nat} (P:PV->Bool) (I:List PV->Rho->Prop):∀ (xs acc:List PV) (ρ:Rho),acc.length + xs.length<=N->I acc ρ->(∀ x∈xs,∀ acc ρ,acc.length < N->I acc ρ->∃ ρ1 ρ2,asg x ρ=some ρ1/\body ρ1=.nx ρ2/\I (if P x=true then acc++[x] else acc) ρ2)->∃ ρ',zxu asg body xs ρ=.nx ρ'/\I (acc++xs.filter P) ρ'
 | [],acc,ρ,_,h,_=>⟨ρ,rfl,by rw [List.filter_nil,jh4];exact h⟩
 | x::xs,acc,ρ,hN,h,hb=>by
  rw [jb4] at hN
  obtain ⟨ρ1,ρ2,e1,e2,h2⟩:=hb x ja3 acc ρ (by omega) h
  have hl:(if P x=true then acc++[x] else acc).length + xs.length<=N:=by
   split
   ·rw [jb1,ja6];omega
   ·omega
  obtain ⟨ρ',e,h'⟩:=zbz P I xs _ ρ2 hl h2 λ y hy=>hb y (ja0 _ hy)
  refine ⟨ρ',by unfold zxu;rw [e1];dsimp only;rw [e2];exact e,?_⟩
  cases hp:P x with
  | true=>
   rw [hp,if_pos rfl,jh9,List.singleton_append] at h'
   rw [jj2 hp]
   exact h'
  | false=>
   rw [hp,if_neg jc6] at h'
   rw [jj1 (by rw [hp];exact jc6)]
   exact h'
theorem qcj {n:Nat}{elt:Fx} (I:Nat->Rho->Prop) (Pr:PV->Prop):∀ (xs:List PV) (i:Nat) (ρ:Rho) (acc:List (PV×Nat)),I i ρ->(∀ j ρ,I j ρ->ρ.length=n)->(∀ j x ρ,i<=j->j < i + xs.length->I j ρ->∃ y d ρ',elt (ρ++[some (x,dv x)])=.ok (y,d,ρ')/\I (j + 1) (ρ'.take n)/\Pr y)->acc.length + xs.length<=va2 ->
  ∃ (ps:List (PV×Nat)) (ρ':Rho),zxy 1 (asgN n) zqr elt xs ρ acc=.ok (acc++ps,ρ')/\ps.length=xs.length/\(∀ p∈ps,Pr p.1)/\I (i + xs.length) ρ'
 | [],i,ρ,acc,h,_,_,_=>⟨[],ρ,by simp [zxy],rfl,λ _ z=>(nomatch z),h⟩
 | x::xs,i,ρ,acc,h,hn,he,hl=>by
  obtain ⟨y,d,ρ1,e1,h1,p1⟩:=he i x ρ (jb8 _) (by rw [jb4];omega) h
  have hρ:=hn i ρ h
  rw [jb4] at hl
  obtain ⟨ps,ρ',e2,l2,p2,h2⟩:=qcj (n:=n) (elt:=elt) I Pr xs (i + 1) (ρ1.take n) (acc++[(y,d)]) h1 hn (λ j x ρ a b=>he j x ρ (by omega) (by rw [jb4];omega)) (by rw [jb1,ja6];omega)
  refine ⟨(y,d)::ps,ρ',?_,by rw [jb4,l2,jb4],λ z hz=>(jb2.mp hz).elim (λ e=>by rw [e];exact p1) (p2 z),by rw [jb4,show i + (xs.length + 1)=i + 1 + xs.length by omega];exact h2⟩
  unfold zxy
  have ea:asgN n x (ρ++ja7 1 none)=some (ρ++[some (x,dv x)]):=by
   unfold asgN
   rw [if_pos (by rw [jb1,hρ];simp),jk3 _ _ (by omega),hρ]
   simp
  rw [ea]
  dsimp only
  have:zqr (ρ++[some (x,dv x)])=.ok (true,ρ++[some (x,dv x)]):=rfl
  rw [this]
  dsimp only [Rz.bindN]
  rw [if_pos rfl,e1]
  dsimp only
  rw [if_pos (by omega),hρ,e2]
  simp
theorem qf6 {n m:Nat}{en:List (PV×Nat)->Option (Int×Int)}{fa:Fa}{elt:Fx}{ρ ρ1 ρ2:Rho}{as:List (PV×Nat)}{ps:List (PV×Nat)} (hf:fa ρ=.ok (as,ρ1)) (hen:en as=some (0,(m:Int))) (h:zxy 1 (asgN n) zqr elt (zzs 0 m) ρ1 []=.ok ([]++ps,ρ2)):∃ d,zxs en fa 1 (asgN n) zqr elt ρ=.ok (.lst (ps.map (·.1)),d,ρ2):=by
 refine ⟨if zzy ps then om else 1,?_⟩
 unfold zxs
 rw [hf]
 dsimp only
 rw [hen]
 dsimp only
 rw [show ((m:Int) - 0).toNat=m by omega,h]
 rfl
theorem qon {fa:Fa}{ρ ρ1:Rho}{xs:List (PV×Nat)} (h:fa ρ=.ok (xs,ρ1)) (hl:xs.length<=va2):∃ d,d≠0/\zqb zqf fa ρ=.ok (.lst (xs.map (·.1)),d,ρ1):=⟨if zzy xs then om else 1,by split <;> decide,zqx h (by unfold zqf;rw [if_pos hl])⟩
theorem qj7 {f g:Fx}{ρ:Rho}{xs:List PV}{k:Int}{d e:Nat} (h1:f ρ=.ok (.lst xs,d,ρ)) (h2:g ρ=.ok (.int k,e,ρ)):∃ zs d',bSl f none (some g) ρ=.ok (.lst zs,d',ρ)/\zs.length<=xs.length/\∀ z∈zs,z∈xs:=by
 refine ⟨cutP xs none (some k),d1 (cutP xs none (some k)),?_,?_,λ z hz=>?_⟩
 ·unfold bSl
  rw [h1]
  dsimp only [Rz.bind,evO]
  rw [h2]
  rfl
 ·unfold cutP
  rw [jc7,jd6]
  omega
 ·unfold cutP at hz
  exact jg5 (je6 hz)
section
variable {a b c:Nat}{t:List (List Int)}{x:PV}{ρ:Rho}
theorem qfr {ys:List PV}{d6:Nat} (ha:1<=a/\a<=100) (hb:1<=b/\b<=100) (hc:1<=c) (e:Ev a b c t x ρ) (h6:ρ[6]?=some (some (.lst ys,d6))) (hys:∀ y∈ys,okE 4 y=true) (hl:ys.length<=200) (h12:ρ[12]?=some (some (.lst [],om))):∃ ρ',zvv (bVar 6) [6] (asgN 13) lstB ρ=.nx ρ'/\Ev a b c t x ρ'/\∃ d,ρ'[12]?=some (some (.lst (ys.filter λ y=>!pq a b c y),d))/\d≠0:=by
 have z:=sz
 obtain ⟨ρ',el,h1,h2⟩:=zbz (asg:=asgN 13) (body:=lstB) (N:=200) (λ y=>!pq a b c y) (λ acc ρ=>Ev a b c t x ρ/\∃ d,ρ[12]?=some (some (.lst acc,d))/\d≠0) ys [] (zqk 0 [6] ρ) (by rw [jh8];omega) ⟨e.cool rfl,om,by rw [zkd rfl];exact h12,by decide⟩ (by
  rintro y hy acc ρ hacc ⟨e,d,h12,hd⟩
  have e':Ev a b c t x (ρ.set 13 (some (y,dv y))):=e.put (by decide)
  have v13:Val (ρ.set 13 (some (y,dv y))) 13 y:=Val.here (by rw [e.len];decide)
  have h12':(ρ.set 13 (some (y,dv y)))[12]?=some (some (.lst acc,d)):=by rw [ja9 (by decide)];exact h12
  have tt:=t_ok (zzj (zqj (F:=a_is_pile) (zqm e'.v1.var (zqt v13.var)) (qkq ha hb hc (hys y hy)).2))
  cases hp:pq a b c y with
  | true=>
   rw [hp] at tt
   exact ⟨_,_,qgp (by rw [e.len];decide),(if_f tt).trans rfl,e',d,h12',hd⟩
  | false=>
   rw [hp] at tt
   obtain ⟨d1,rfl⟩:∃ d1,d=d1 + 1:=⟨d - 1,by omega⟩
   have h3:(zqk (dv y) [13] (ρ.set 13 (some (y,dv y))))[12]?=some (some (.lst acc,d1 + 1)):=by rw [zkd rfl];exact h12'
   refine ⟨_,_,qgp (by rw [e.len];decide),(if_t tt).trans (zmp h12' v13.var h3 hd (by omega) rfl),(e'.cool rfl).put (by decide),_,jb5 (by rw [zwm,e'.len];decide),?_⟩
   split <;> decide)
 rw [jg7] at h2
 exact ⟨ρ',zfr (els:=ys) (d:=0) (Val.var ⟨d6,h6⟩) rfl el,h1,h2⟩
theorem qli {acc:List PV}{d12:Nat}{B:Int} (e:Ev a b c t x ρ) (h12:ρ[12]?=some (some (.lst acc,d12))) (h0:0 < acc.length) (hl:acc.length<=200) (hx:Pl B x) (hB:B<=90000):∃ zs d x' ρ',zs.length<=300/\(∀ z∈zs,z∈acc)/\Pl (B + 2) x'/\ρ'[0]?=some (some (x',om))/\bBin zqg (bSl (bVar 12) none (some (bC (.int 5)))) (zxs zqy (zqa (bC (.int 2)) (aNil)) 1 (asgN 14) zqr lstX) ρ=.ok (.lst zs,d,ρ'):=by
 have z:=sz
 obtain ⟨z1,d1',s1,l1,m1⟩:=qj7 (f:=bVar 12) (g:=bC (.int 5)) (ρ:=ρ) (k:=5) (e:=om) (Val.var ⟨d12,h12⟩) rfl
 obtain ⟨ps,ρ2,e2,l2,m2,x',e',hx',h12'⟩:=qcj (n:=14) (elt:=lstX) (λ j ρ=>∃ x,Ev a b c t x ρ/\Pl (B + (j:Int)) x/\ρ[12]?=some (some (.lst acc,d12))) (λ y=>y∈acc) (zzs 0 2) 0 ρ [] ⟨x,e,hx.mono (by omega),h12⟩ (λ j ρ ⟨x,e,_⟩=>e.len) (by
  rintro j w ρ _ hj ⟨x,e,hx,h12⟩
  have hj2:j < 2:=by rw [zxi] at hj;omega
  have v12:Val (ρ++[some (w,dv w)]) 12 (.lst acc):=Val.app ⟨d12,h12⟩
  have p0:(ρ++[some (w,dv w)])[0]?=some (some (x,om)):=by rw [jc2 (by rw [e.len];decide)];exact e.p
  obtain ⟨k0,x1,hk0,hx1,t1⟩:=qdo (m:=(acc.length:Int)) hx (by omega) (by omega)
  obtain ⟨k,rfl⟩:=jd7 hk0.1
  have hk:k < acc.length:=by omega
  have c1:zqd a_take 0 (zqa (zqb zwe (zqa (bVar 12) (aNil))) (aNil)) (ρ++[some (w,dv w)])=.ok (.int (k:Int),om,(ρ++[some (w,dv w)]).set 0 (some (x1,om))):=zwa (p:=(x,om)) (x0:=x) (d0:=om) (xs:=[(.int (acc.length:Int),om)]) p0 (zqt (zqx (zqt v12.var) rfl)) p0 t1 rfl
  refine ⟨_,_,_,zfq v12.var c1 hk,⟨x1,?_,hx1.mono (by omega),?_⟩,je2 hk⟩
  ·rw [jn2 _ _ (by rw [e.len];decide),qbd (by rw [jc5];exact e.len)]
   exact e.pool
  ·rw [jn2 _ _ (by rw [e.len];decide),qbd (by rw [jc5];exact e.len),ja9 (by decide)]
   exact h12) (by rw [jh8,zxi];omega)
 obtain ⟨d3,c3⟩:=qf6 (m:=2) (en:=zqy) (fa:=zqa (bC (.int 2)) (aNil)) (ρ:=ρ) (as:=[(.int 2,om)]) rfl (zxw (by decide) (by decide)) e2
 rw [zxi] at l2
 refine ⟨_,_,x',ρ2,?_,λ w hw=>?_,hx'.mono (by rw [zxi];omega),e'.p,zxm s1 c3 (by rw [ja1,l2];omega)⟩
 ·rw [jb1,ja1,l2];omega
 ·rcases jc0.mp hw with hw | hw
  ·exact m1 w hw
  ·obtain ⟨p,hp,rfl⟩:=jd5.mp hw
   exact m2 p hp
theorem qk5 {B:Int} (ht:Tab a b t) (ha:1<=a/\a<=100) (hb:1<=b/\b<=100) (hc:1<=c/\c<=1000) (hx:Pl B x) (hB:B<=80000):∃ zs d x',zs.length<=300/\(∀ z∈zs,okE 4 z=true/\f_is_pile [bx a b c,z]=.ok (.bl false,om,.non))/\Pl (B + 30) x'/\a_none [x,bx a b c,tb t]=.ok (.lst zs,d,x'):=by
 have z:=sz
 let R1:Rho:=[some (x,om),some (bx a b c,0),some (tb t,0),some (.int a,om),some (.int b,om),some (.int c,om),none,none,none,none,none,none,none,none]
 have v0:sUnp (asgT [3,4,5]) (bVar 1) [1] [some (x,om),some (bx a b c,0),some (tb t,0),none,none,none,none,none,none,none,none,none,none,none]=.nx R1:=by kernel_rfl
 have e1:Ev a b c t x R1:=⟨rfl,rfl,⟨_,rfl⟩,⟨_,rfl⟩,⟨_,rfl⟩,⟨_,rfl⟩,⟨_,rfl⟩⟩
 obtain ⟨y1,f1,g1,o1⟩:=qp1 e1 ha.2 hb.2
 obtain ⟨y2,f2,g2,o2⟩:=qp0 e1 ha.2 hb
 obtain ⟨d,hd,l1⟩:=qon (zqm g1 (zqt g2)) (by show 2<=va2;omega)
 have v1:sSet false 6 (zqb zqf (zqa n1 (zqa n2 aNil))) [4,4,3,4] R1=.nx ((zqk d [4,4,3,4] R1).set 6 (some (.lst [y1,y2],d))):=zyw l1 (show 6 < 14 by decide)
 have e2:Ev a b c t x ((zqk d [4,4,3,4] R1).set 6 (some (.lst [y1,y2],d))):=(e1.cool rfl).put (by decide)
 have L2:Lst ((zqk d [4,4,3,4] R1).set 6 (some (.lst [y1,y2],d))) 6 2 G4 []:=⟨[y1,y2],d,jb5 (by rw [zwm];show 6 < 14;decide),hd,jb8 2,λ y hy=>by
  rcases jb2.mp hy with rfl | hy
  ·exact o1
  ·rw [jb7.mp hy];exact o2,λ _ z=>nomatch z⟩
 revert v1 e2 L2
 generalize (zqk d [4,4,3,4] R1).set 6 (some (.lst [y1,y2],d))=ρ2
 intro v1 e2 L2
 obtain ⟨i',x2,hi,hx2,c2⟩:=zye (f:=bVar 3) (m:=(a:Int)) e2 hx (by omega) (by omega) e2.v3.var
 obtain ⟨i,rfl⟩:=jd7 hi.1
 have v2:=zyw (i:=7) (vs:=[3]) c2 (by rw [jc5,e2.len];decide)
 have e3:Ev a b c t x2 ((zqk om [3] (ρ2.set 0 (some (x2,om)))).set 7 (some (.int (i:Int),om))):=(e2.pool.cool rfl).put (by decide)
 have L3:Lst ((zqk om [3] (ρ2.set 0 (some (x2,om)))).set 7 (some (.int (i:Int),om))) 6 2 G4 []:=((L2.set (by decide)).cool rfl).set (by decide)
 have i3:Val ((zqk om [3] (ρ2.set 0 (some (x2,om)))).set 7 (some (.int (i:Int),om))) 7 (.int (i:Int)):=Val.here (by rw [zwm,jc5,e2.len];decide)
 revert v2 e3 L3 i3
 generalize (zqk om [3] (ρ2.set 0 (some (x2,om)))).set 7 (some (.int (i:Int),om))=ρ3
 intro v2 e3 L3 i3
 obtain ⟨j',x3,hj,hx3,c3⟩:=zye (f:=bVar 4) (m:=(b:Int)) e3 hx2 (by omega) (by omega) e3.v4.var
 obtain ⟨j,rfl⟩:=jd7 hj.1
 have v3:=zyw (i:=8) (vs:=[4]) c3 (by rw [jc5,e3.len];decide)
 have e4:Ev a b c t x3 ((zqk om [4] (ρ3.set 0 (some (x3,om)))).set 8 (some (.int (j:Int),om))):=(e3.pool.cool rfl).put (by decide)
 have L4:Lst ((zqk om [4] (ρ3.set 0 (some (x3,om)))).set 8 (some (.int (j:Int),om))) 6 2 G4 []:=((L3.set (by decide)).cool rfl).set (by decide)
 have i4:Val ((zqk om [4] (ρ3.set 0 (some (x3,om)))).set 8 (some (.int (j:Int),om))) 7 (.int (i:Int)):=((i3.set (by decide)).cool).set (by decide)
 have j4:Val ((zqk om [4] (ρ3.set 0 (some (x3,om)))).set 8 (some (.int (j:Int),om))) 8 (.int (j:Int)):=Val.here (by rw [zwm,jc5,e3.len];decide)
 revert v3 e4 L4 i4 j4
 generalize (zqk om [4] (ρ3.set 0 (some (x3,om)))).set 8 (some (.int (j:Int),om))=ρ4
 intro v3 e4 L4 i4 j4
 obtain ⟨y,dy,x4,hy,hx4,c4⟩:=qk4 e4 hx3 (by omega)
 have v4:=zyw (i:=9) (vs:=[5,5]) c4 (by rw [jc5,e4.len];decide)
 have e5:Ev a b c t x4 ((zqk dy [5,5] (ρ4.set 0 (some (x4,om)))).set 9 (some (y,dy))):=(e4.pool.cool rfl).put (by decide)
 have L5:Lst ((zqk dy [5,5] (ρ4.set 0 (some (x4,om)))).set 9 (some (y,dy))) 6 2 G4 []:=((L4.set (by decide)).cool rfl).set (by decide)
 have i5:Val ((zqk dy [5,5] (ρ4.set 0 (some (x4,om)))).set 9 (some (y,dy))) 7 (.int (i:Int)):=((i4.set (by decide)).cool).set (by decide)
 have j5:Val ((zqk dy [5,5] (ρ4.set 0 (some (x4,om)))).set 9 (some (y,dy))) 8 (.int (j:Int)):=((j4.set (by decide)).cool).set (by decide)
 have y5:Val ((zqk dy [5,5] (ρ4.set 0 (some (x4,om)))).set 9 (some (y,dy))) 9 y:=Val.here (by rw [zwm,jc5,e4.len];decide)
 obtain ⟨ρ5,v5,e6,L6⟩:=qeg e5 ht ha.2 hb.2 L5 (by decide) i5 j5 y5 hy (by omega) (by omega)
 obtain ⟨ρ6,v6,x5,e7,hx5,L7⟩:=zvn (i:=11) (body:=apP) (en:=zqy) (fa:=zqa (bC (.int 6)) (aNil)) (ρ:=ρ5) (ρ1:=ρ5) (as:=[(.int 6,om)]) (lo:=0) (hi:=6) (λ n ρ=>∃ x,Ev a b c t x ρ/\Pl (B + 4 + 3 * (n:Int)) x/\Lst ρ 6 (2 + 3 + n) G4 []) rfl rfl ⟨x4,e6,hx4.mono (by omega),L6⟩ (by
  rintro n ρ hn ⟨x,e,hx,L⟩
  have hn6:n < 6:=by omega
  obtain ⟨ρ',x',h1,h2,h3,h4⟩:=qma (ρ:=ρ.set 11 (some (.int (0 + (n:Int)),om))) (e.put (by decide)) ht ha hb hc.2 hx (by omega) (L.set (by decide)) (by omega)
  exact ⟨by rw [e.len];decide,ρ',h1,x',h2,h3.mono (by omega),h4⟩)
 obtain ⟨ρ7,v7,L8,da7,sa7,h7⟩:=zfk (v:=[6,3,2,2]) L7 (qql e7 ht ha.2 hb.2) (by decide)
 have e8:Ev a b c t x5 ρ7:=by rw [h7];exact (e7.cool rfl).put (jb8 6)
 obtain ⟨ρ8,v8,L9,da8,sa8,h8⟩:=zfk (v:=[6,2,4,2,2,2,2]) L8 (qqk e8 ht ha.2 hb.2) (by decide)
 have e9:Ev a b c t x5 ρ8:=by rw [h8];exact (e8.cool rfl).put (jb8 6)
 obtain ⟨ρ9,v9,L10,da9,sa9,h9⟩:=zfk (v:=[6,2,5,2,2,2]) L9 (qqj e9 ht ha.2 hb) (by decide)
 have e10:Ev a b c t x5 ρ9:=by rw [h9];exact (e9.cool rfl).put (jb8 6)
 obtain ⟨ρ10,v10,L11,dd,ss,h10⟩:=zfk (v:=[6,2,2,2,4,2,4]) L10 (qpm e10 ht ha.2 hb) (by decide)
 have e11:Ev a b c t x5 ρ10:=by rw [h10];exact (e10.cool rfl).put (jb8 6)
 have v11:=zyw (i:=12) (f:=zqb zqf aNil) (vs:=[]) (ρ:=ρ10) (x:=.lst []) (d:=om) rfl (by rw [e11.len];decide)
 have e12:Ev a b c t x5 ((zqk om [] ρ10).set 12 (some (.lst [],om))):=(e11.cool rfl).put (by decide)
 obtain ⟨ys,d6,h6,_,hl6,hys,hW⟩:=(L11.cool (d:=om) (vs:=[]) rfl).set (s:=some (.lst [],om)) (j:=12) (by decide)
 obtain ⟨ρ13,v12,e13,d12,h12,_⟩:=qfr ha hb hc.1 e12 h6 hys (jd4 hl6 (by decide)) (jb5 (by rw [zwm,e11.len];decide))
 have hnon:.non∈ys.filter λ y=>!pq a b c y:=by
  refine jh2.mpr ⟨hW .non (show PV.non∈[PV.non] from ja3),?_⟩
  have h:=(qkq (a:=a) (b:=b) (c:=c) ha hb hc.1 (x:=.non) rfl).1
  rw [zgs (n:=1) (zgc ha.1 hb.1 hc.1) rfl rfl] at h
  cases hp:pq a b c .non with
  | true=>rw [hp] at h;cases h
  | false=>rfl
 obtain ⟨zs,d,x',ρ',hlz,hz,hx',hp',e14⟩:=qli e13 h12 (List.length_pos_of_mem hnon) (jd4 (List.length_filter_le _ _) (jd4 hl6 (by decide))) hx5 (by omega)
 refine ⟨zs,d,x',hlz,λ w hw=>?_,hx'.mono (by omega),zvo (c:=om) rfl (qk6 ▸ (zqi v0).trans ((zqi v1).trans ((zqi v2).trans ((zqi v3).trans ((zqi v4).trans ((zqi v5).trans ((zqi v6).trans ((zqi v7).trans ((zqi v8).trans ((zqi v9).trans ((zqi v10).trans ((zqi v11).trans ((zqi v12).trans (zwg e14)))))))))))))) hp'⟩
 obtain ⟨hm,hn⟩:=jh2.mp (hz w hw)
 have h:=(qkq (a:=a) (b:=b) (c:=c) ha hb hc.1 (hys w hm)).1
 cases hp:pq a b c w with
 | true=>rw [hp] at hn;cases hn
 | false=>rw [hp] at h;exact ⟨hys w hm,h⟩
end
def ab (i:Int):Int:=if i < 0 then -i else i
def dist (a b:Nat) (t u:List (List Int)):Int:=((zxn a b).map λ z=>ab (g t z.1 z.2 - g u z.1 z.2)).sum
def lowT (t u:List (List Int)):List (List Int):=zT (λ i j=>if j < i then j else i) t u
section
variable {a b c:Nat}{t u l:List (List Int)}
theorem zxo (ht:Tab a b t) (hu:Tab a b u) {x y:Nat} (hx:x < a) (hy:y < b):g (lowT t u) x y=if g u x y < g t x y then g u x y else g t x y:=by
 unfold lowT
 rw [zpv ht hu,zvl hx hy]
theorem qdi (f:Int->Int->Int) (hf:∀ i j k m:Int,i<=k->j<=m->f i j<=f k m) (h0:∀ i j,f i j=i\/f i j=j) (p:Pile a b c t) (q:Pile a b c u):Pile a b c (zT f t u):=by
 refine ⟨qbb p.tab q.tab,λ x y hx hy=>?_,λ x y hx hy=>?_,λ x y hx hy=>?_,λ x y hx hy=>?_⟩
 ·rw [zpv p.tab q.tab,zvl hx hy]
  have:=p.lo x y hx hy
  have:=q.lo x y hx hy
  rcases h0 (g t x y) (g u x y) with e | e <;> omega
 ·rw [zpv p.tab q.tab,zvl hx hy]
  have:=p.hi x y hx hy
  have:=q.hi x y hx hy
  rcases h0 (g t x y) (g u x y) with e | e <;> omega
 ·rw [zpv p.tab q.tab,zvl hx hy,zvl (by omega) hy]
  exact hf _ _ _ _ (p.dn x y hx hy) (q.dn x y hx hy)
 ·rw [zpv p.tab q.tab,zvl hx hy,zvl hx (by omega)]
  exact hf _ _ _ _ (p.rt x y hx hy) (q.rt x y hx hy)
theorem zbb (p:Pile a b c t) (q:Pile a b c u):Pile a b c (lowT t u):=qdi _ (λ i j k m h1 h2=>by split <;> split <;> omega) (λ i j=>by split <;> simp) p q
theorem zyg (p:Pile a b c t) (q:Pile a b c u) (ha:1<=a/\a<=30) (hb:1<=b/\b<=30) (hc:1<=c/\c<=1000):f_must_be_two_piles [bx a b c,tb t,tb u]=.ok (.non,om,.non):=
 qmi (zwx p.tab (by omega) (by omega) (by omega) ((zzi p.tab).mpr p)) (zwx q.tab (by omega) (by omega) (by omega) ((zzi q.tab).mpr q))
theorem qqd (p:Pile a b c t) (q:Pile a b c u) {x y:Nat} (hx:x < a) (hy:y < b):0<=ab (g t x y - g u x y)/\ab (g t x y - g u x y)<=c:=by
 have:=p.lo x y hx hy
 have:=p.hi x y hx hy
 have:=q.lo x y hx hy
 have:=q.hi x y hx hy
 unfold ab
 split <;> omega
theorem ab30 (ha:a<=30) (hb:b<=30):(zxn a b).length<=900:=by
 rw [zkw]
 exact jk2 ha hb
theorem qo6 (p:Pile a b c t) (q:Pile a b c u) (ha:1<=a/\a<=30) (hb:1<=b/\b<=30) (hc:1<=c/\c<=1000):f_fewest_moved [bx a b c,tb t,tb u]=.ok (.int (dist a b t u),om,.non):=by
 have z:=sz
 let R:Rho:=[some (bx a b c,0),some (tb t,0),some (tb u,0)]
 have s1:zxb (zqc f_must_be_two_piles (zqa (bVar 0) (zqa (bVar 1) (zqa (bVar 2) (aNil))))) R=.nx R:=zzp (zqj (xs:=[(bx a b c,0),(tb t,0),(tb u,0)]) rfl (zyg p q ha hb hc))
 obtain ⟨d,_,hp⟩:=zgq (c:=c) (a:=a) (b:=b) (by omega) (by omega)
 have hl:=ab30 ha.2 hb.2
 have e1:=qjm (k:=2) (f:=zqc f_places_of (zqa (bVar 0) (aNil))) (asg:=asgT [3,4]) (test:=zqr) (elt:=zqb qe1 (zqa (bBin zxj (bBin zqe (bBin zqe (bVar 1) (bVar 3)) (bVar 4)) (bBin zqe (bBin zqe (bVar 2) (bVar 3)) (bVar 4))) (aNil))) (enc:=pr) (q:=λ z=>.int (ab (g t z.1 z.2 - g u z.1 z.2))) (E:=λ z=>[some (.int (z.1:Int),om),some (.int (z.2:Int),om)]) (p:=λ _=>true) (ρ:=R) (zxn a b) (zqj (xs:=[(bx a b c,0)]) rfl hp) (λ _ _=>rfl) (λ _ _=>rfl)
  (λ z hz _=>zqx (zqt (zvs (zvm (i:=z.1) (j:=z.2) p.tab (d:=0) rfl rfl rfl (zxa.mp hz).1 (zxa.mp hz).2) (zvm (i:=z.1) (j:=z.2) q.tab (d:=0) rfl rfl rfl (zxa.mp hz).1 (zxa.mp hz).2))) rfl) (by omega)
 rw [zmg] at e1
 have e2:PV.lst ((zxn a b).map λ z=>.int (ab (g t z.1 z.2 - g u z.1 z.2)))=il ((zxn a b).map λ z=>ab (g t z.1 z.2 - g u z.1 z.2)):=by
  unfold il
  rw [jd9]
  rfl
 rw [e2] at e1
 refine zwr rfl ((zqi s1).trans (zwg (qd4 (zqt e1) (zmu (by rw [ja1];omega) λ x hx=>?_))))
 obtain ⟨z,hz,rfl⟩:=jd5.mp hx
 obtain ⟨h1,h2⟩:=zxa.mp hz
 have:=qqd p q h1 h2
 omega
end
section
variable {a b c:Nat}{t u:List (List Int)}
theorem zhp:∀ a:Nat,dist a b t u=((jc3 a).map λ i=>((jc3 b).map λ j=>ab (g t i j - g u i j)).sum).sum
 | 0=>rfl
 | a + 1=>by
  have:=zhp a
  unfold dist at this ⊢
  rw [zjk,je3,jh7,this,jh6,je3,jh7,jd9]
  simp [Function.comp_def]
theorem qg0 (ht:Tab a b t):t=(jc3 a).map λ i=>t.getD i []:=by
 refine jk7 (by rw [ja1,je5,ht.1]) λ i h1 h2=>?_
 rw [jp1,jo1,ja2,jb3 h1]
 rfl
end
end QV
namespace K26
open PySem PySem.Spec PyProof.Rows L2 QQ
abbrev GT:=List (Str×(Bool×Nat×Fn))
abbrev mS (N:List Str) (t:Stmt) (m:List Nat) (G:GT):Sx:=⟨N,zqh t,m,[],G,[],true,[0,1,2,3,4,5,6,7,8,9,10,11],[]⟩
def G0:GT:=[]
def S0:=mS ["thing"] t0 [] G0
abbrev b0:Fs:=QV.Xf_is_whole_number
abbrev F0:Fn:=QV.f_is_whole_number
theorem h0:zqs (denS 60 S0) (zql t0)=some b0:=by kernel_rfl
def G1:GT:=[("is_whole_number",(false,1,F0))]
def S1:=mS ["thing"] t1 [] G1
abbrev b1:Fs:=QV.Xf_is_box
abbrev F1:Fn:=QV.f_is_box
theorem h1:zqs (denS 60 S1) (zql t1)=some b1:=by kernel_rfl
def G2:GT:=[("is_box",(false,1,F1))]
def S2:=mS ["box"] t2 [] G2
abbrev b2:Fs:=QV.Xf_must_be_box
abbrev F2:Fn:=QV.f_must_be_box
theorem h2:zqs (denS 60 S2) (zql t2)=some b2:=by kernel_rfl
def G3:GT:=[("is_whole_number",(false,1,F0))]
def S3:=mS ["thing","columns","height"] t3 [] G3
abbrev b3:Fs:=QV.Xf_is_row_of_heights
abbrev F3:Fn:=QV.f_is_row_of_heights
theorem h3:zqs (denS 60 S3) (zql t3)=some b3:=by kernel_rfl
def G4:GT:=[]
def S4:=mS ["numbers"] t4 [] G4
abbrev b4:Fs:=QV.Xf_never_rises
abbrev F4:Fn:=QV.f_never_rises
theorem h4:zqs (denS 60 S4) (zql t4)=some b4:=by kernel_rfl
def G5:GT:=[]
def S5:=mS ["table","j"] t5 [] G5
abbrev b5:Fs:=QV.Xf_column_of
abbrev F5:Fn:=QV.f_column_of
theorem h5:zqs (denS 60 S5) (zql t5)=some b5:=by kernel_rfl
def G6:GT:=[("must_be_box",(false,1,F2)),("is_row_of_heights",(false,3,F3)),("never_rises",(false,1,F4)),("column_of",(false,2,F5))]
def S6:=mS ["box","thing","rows","columns","height"] t6 [] G6
abbrev b6:Fs:=QV.Xf_is_pile
abbrev F6:Fn:=QV.f_is_pile
theorem h6:zqs (denS 60 S6) (zql t6)=some b6:=by kernel_rfl
def G7:GT:=[("is_pile",(false,2,F6))]
def S7:=mS ["box","pile"] t7 [] G7
abbrev b7:Fs:=QV.Xf_must_be_pile
abbrev F7:Fn:=QV.f_must_be_pile
theorem h7:zqs (denS 60 S7) (zql t7)=some b7:=by kernel_rfl
def G8:GT:=[("must_be_pile",(false,2,F7))]
def S8:=mS ["box","pile"] t8 [] G8
abbrev b8:Fs:=QV.Xf_how_many_cubes
abbrev F8:Fn:=QV.f_how_many_cubes
theorem h8:zqs (denS 60 S8) (zql t8)=some b8:=by kernel_rfl
def G9:GT:=[("must_be_pile",(false,2,F7))]
def S9:=mS ["box","pile","rest","row"] t9 [] G9
abbrev b9:Fs:=QV.Xf_rest_of
abbrev F9:Fn:=QV.f_rest_of
theorem h9:zqs (denS 60 S9) (zql t9)=some b9:=by kernel_rfl
def G10:GT:=[("must_be_pile",(false,2,F7))]
def S10:=mS ["box","pile","other"] t10 [] G10
abbrev b10:Fs:=QV.Xf_must_be_two_piles
abbrev F10:Fn:=QV.f_must_be_two_piles
theorem h10:zqs (denS 60 S10) (zql t10)=some b10:=by kernel_rfl
def G11:GT:=[]
def S11:=mS ["box","places","i"] t11 [] G11
abbrev b11:Fs:=QV.Xf_places_of
abbrev F11:Fn:=QV.f_places_of
theorem h11:zqs (denS 60 S11) (zql t11)=some b11:=by kernel_rfl
def G12:GT:=[("is_whole_number",(false,1,F0))]
def S12:=mS ["box","i","j"] t12 [] G12
def b12:Fs:=(sSeq (sIf (bT (bOrV (bUn zqu (zqc F0 (zqa (bVar 1) (aNil)))) (bUn zqu (zqc F0 (zqa (bVar 2) (aNil)))))) (sRet (bC (.bl false))) sNil)
 (sRet (zvh (zkg (λ i j=>decide (i<=j)) (λ i j=>decide (i < j)) (bC (.int 0)) (bVar 1) (bBin zqe (bVar 0) (bC (.int 0)))) (zkg (λ i j=>decide (i<=j)) (λ i j=>decide (i < j)) (bC (.int 0)) (bVar 2) (bBin zqe (bVar 0) (bC (.int 1)))))))
def F12:Fn:=mkFn false 3 0 b12
theorem h12:zqs (denS 60 S12) (zql t12)=some b12:=by kernel_rfl
def G13:GT:=[]
def S13:=mS ["pile"] t13 [] G13
abbrev b13:Fs:=QV.Xf_copy_of
abbrev F13:Fn:=QV.f_copy_of
theorem h13:zqs (denS 60 S13) (zql t13)=some b13:=by kernel_rfl
def G14:GT:=[("copy_of",(false,1,F13))]
def S14:=mS ["pile","step","sign","i","j","table"] t14 [] G14
def b14:Fs:=(sSeq (sUnp (asgT [2,3,4]) (bVar 1) [1])
 (sSeq (sSet false 5 (zqc F13 (zqa (bVar 0) (aNil))) [0])
 (sSeq sNo
 (zkp 5))))
def F14:Fn:=mkFn false 2 4 b14
theorem h14:zqs (denS 60 S14) (zql t14)=some b14:=by kernel_rfl
def G15:GT:=[("is_pile",(false,2,F6)),("places_of",(false,1,F11)),("table_after",(false,2,F14))]
def S15:=mS ["box","pile","sign"] t15 [] G15
def b15:Fs:=(sRet (zqp (zqc F11 (zqa (bVar 0) (aNil))) 2 (asgT [3,4]) (bT (zqc F6 (zqa (bVar 0) (zqa (zqc F14 (zqa (bVar 1) (zqa (zqb zwn (zqa (bVar 2) (zqa (bVar 3) (zqa (bVar 4) (aNil))))) (aNil)))) (aNil))))) (zqb zwn (zqa (bVar 3) (zqa (bVar 4) (aNil))))))
def F15:Fn:=mkFn false 3 0 b15
theorem h15:zqs (denS 60 S15) (zql t15)=some b15:=by kernel_rfl
def G16:GT:=[("must_be_pile",(false,2,F7)),("places_to_move",(false,3,F15))]
def S16:=mS ["box","pile"] t16 [] G16
def b16:Fs:=(sSeq (zxb (zqc F7 (zqa (bVar 0) (zqa (bVar 1) (aNil)))))
 (sRet (zqb zwn (zqa (zqc F15 (zqa (bVar 0) (zqa (bVar 1) (zqa (bC (.int 1)) (aNil))))) (zqa (zqc F15 (zqa (bVar 0) (zqa (bVar 1) (zqa (bUn zxq (bC (.int 1))) (aNil))))) (aNil))))))
def F16:Fn:=mkFn false 2 0 b16
theorem h16:zqs (denS 60 S16) (zql t16)=some b16:=by kernel_rfl
def G17:GT:=[("must_be_two_piles",(false,3,F10)),("places_of",(false,1,F11))]
def S17:=mS ["box","pile","other"] t17 [] G17
abbrev b17:Fs:=QV.Xf_fewest_moved
abbrev F17:Fn:=QV.f_fewest_moved
theorem h17:zqs (denS 60 S17) (zql t17)=some b17:=by kernel_rfl
def G18:GT:=[("is_whole_number",(false,1,F0)),("is_place",(false,3,F12))]
def S18:=mS ["box","thing","sign","i","j"] t18 [] G18
def b18:Fs:=(sSeq (sIf (bT (bOrV (bUn zqu (bUn (zwk "tuple") (bVar 1))) (bBin (opEq true) (zqb zwe (zqa (bVar 1) (aNil))) (bC (.int 3))))) (sRet (bC (.bl false))) sNil)
 (sSeq (sUnp (asgT [2,3,4]) (bVar 1) [1])
 sNo))
def F18:Fn:=mkFn false 2 3 b18
theorem h18:zqs (denS 60 S18) (zql t18)=some b18:=by kernel_rfl
def G19:GT:=[("is_pile",(false,2,F6)),("must_be_pile",(false,2,F7)),("copy_of",(false,1,F13)),("table_after",(false,2,F14)),("is_step",(false,2,F18))]
def S19:=mS ["box","pile","road","end","step"] t19 [] G19
def b19:Fs:=(sSeq (zxb (zqc F7 (zqa (bVar 0) (zqa (bVar 1) (aNil)))))
 (sSeq (sSet false 3 (zqc F13 (zqa (bVar 1) (aNil))) [1])
 (sSeq (zvv (bVar 2) [2] (asgN 4) (sSeq (sIf (bT (bUn zqu (zqc F18 (zqa (bVar 0) (zqa (bVar 4) (aNil)))))) (sExc 5) sNil)
 (sSeq (sSet false 3 (zqc F14 (zqa (bVar 3) (zqa (bVar 4) (aNil)))) [3,4])
 (sIf (bT (bUn zqu (zqc F6 (zqa (bVar 0) (zqa (bVar 3) (aNil)))))) (sExc 5) sNil))))
 (zkp 3))))
def F19:Fn:=mkFn false 3 2 b19
theorem h19:zqs (denS 60 S19) (zql t19)=some b19:=by kernel_rfl
def G20:GT:=[("places_of",(false,1,F11))]
def S20:=mS ["box","pile","lower","steps","i","j"] t20 [] G20
abbrev b20:Fs:=QV.Xf_steps_off
abbrev F20:Fn:=QV.f_steps_off
theorem h20:zqs (denS 60 S20) (zql t20)=some b20:=by kernel_rfl
def G21:GT:=[("places_of",(false,1,F11))]
def S21:=mS ["box","pile","higher","steps","i","j"] t21 [] G21
abbrev b21:Fs:=QV.Xf_steps_on
abbrev F21:Fn:=QV.f_steps_on
theorem h21:zqs (denS 60 S21) (zql t21)=some b21:=by kernel_rfl
def G23:GT:=[("must_be_two_piles",(false,3,F10))]
def S23:=mS ["box","pile","other","below","row","other_row"] t23 [] G23
abbrev b23:Fs:=QV.Xf_pile_below
abbrev F23:Fn:=QV.f_pile_below
theorem h23:zqs (denS 60 S23) (zql t23)=some b23:=by kernel_rfl
def G22:GT:=[("steps_off",(false,3,F20)),("steps_on",(false,3,F21)),("pile_below",(false,3,F23))]
def S22:=mS ["box","pile","other","between"] t22 [] G22
abbrev b22:Fs:=QV.Xf_road_to
abbrev F22:Fn:=QV.f_road_to
theorem h22:zqs (denS 60 S22) (zql t22)=some b22:=by kernel_rfl
def G24:GT:=[("must_be_two_piles",(false,3,F10))]
def S24:=mS ["box","pile","other","above","row","other_row"] t24 [] G24
abbrev b24:Fs:=QV.Xf_pile_above
abbrev F24:Fn:=QV.f_pile_above
theorem h24:zqs (denS 60 S24) (zql t24)=some b24:=by kernel_rfl
def G25:GT:=[("must_be_two_piles",(false,3,F10)),("places_of",(false,1,F11))]
def S25:=mS ["box","pile","other"] t25 [] G25
abbrev b25:Fs:=QV.Xf_lies_below
abbrev F25:Fn:=QV.f_lies_below
theorem h25:zqs (denS 60 S25) (zql t25)=some b25:=by kernel_rfl
def G26:GT:=[]
def S26:=mS ["script","k","cell"] t26 [] G26
abbrev b26:Fs:=QV.Xa_pool
abbrev F26:Fn:=QV.a_pool
theorem h26:zqs (denS 60 S26) (zql t26)=some b26:=by kernel_rfl
def G27:GT:=[]
def S27:=mS ["pool","many","found","step","mark"] t27 [0] G27
abbrev b27:Fs:=QV.Xa_take
abbrev F27:Fn:=QV.a_take
theorem h27:zqs (denS 60 S27) (zql t27)=some b27:=by kernel_rfl
def G28:GT:=[("_law_take",(true,2,F27))]
def S28:=mS ["pool","most"] t28 [0] G28
abbrev b28:Fs:=QV.Xa_box
abbrev F28:Fn:=QV.a_box
theorem h28:zqs (denS 60 S28) (zql t28)=some b28:=by kernel_rfl
def G29:GT:=[("_law_take",(true,2,F27))]
def S29:=mS ["pool","box","rows","columns","height","kind","found","i","row","j","most","some"] t29 [0] G29
abbrev b29:Fs:=QV.Xa_pile
abbrev F29:Fn:=QV.a_pile
theorem h29:zqs (denS 60 S29) (zql t29)=some b29:=by kernel_rfl
def G30:GT:=[]
def S30:=mS ["caught","due","kinds"] t30 [] G30
abbrev b30:Fs:=QV.Xa_is
abbrev F30:Fn:=QV.a_is
theorem h30:zqs (denS 60 S30) (zql t30)=some b30:=by kernel_rfl
def G31:GT:=[("_law_take",(true,2,F27)),("_law_pile",(true,2,F29))]
def S31:=mS ["pool","box","pile","kind","found","turn","i","j","most","least"] t31 [0] G31
abbrev b31:Fs:=QV.Xa_near
abbrev F31:Fn:=QV.a_near
theorem h31:zqs (denS 60 S31) (zql t31)=some b31:=by kernel_rfl
def G32:GT:=[("is_pile",(false,2,F6)),("how_many_cubes",(false,2,F8)),("rest_of",(false,2,F9)),("fewest_moved",(false,3,F17)),("pile_below",(false,3,F23)),("pile_above",(false,3,F24)),("lies_below",(false,3,F25))]
def S32:=mS ["box","one","other","lower","upper","many"] t32 [] G32
def b32:Fs:=(sSeq (sSet false 3 (zqc F23 (zqa (bVar 0) (zqa (bVar 1) (zqa (bVar 2) (aNil))))) [0,1,2])
 (sSeq (sSet false 4 (zqc F24 (zqa (bVar 0) (zqa (bVar 1) (zqa (bVar 2) (aNil))))) [0,1,2])
 (sSeq (sIf (bT (bOrV (bUn zqu (zqc F6 (zqa (bVar 0) (zqa (bVar 3) (aNil))))) (bUn zqu (zqc F6 (zqa (bVar 0) (zqa (bVar 4) (aNil))))))) (sRet (bC (.bl false))) sNil)
 (sSeq (sIf (bT (bOrV (bBin (opEq true) (bVar 3) (zqc F23 (zqa (bVar 0) (zqa (bVar 2) (zqa (bVar 1) (aNil)))))) (bBin (opEq true) (bVar 4) (zqc F24 (zqa (bVar 0) (zqa (bVar 2) (zqa (bVar 1) (aNil)))))))) (sRet (bC (.bl false))) sNil)
 (sSeq (sIf (bT (bOrV (bBin (opEq true) (zqc F23 (zqa (bVar 0) (zqa (bVar 1) (zqa (bVar 4) (aNil))))) (bVar 1)) (bBin (opEq true) (zqc F24 (zqa (bVar 0) (zqa (bVar 1) (zqa (bVar 3) (aNil))))) (bVar 1)))) (sRet (bC (.bl false))) sNil)
 (sSeq (sIf (bT (bOrV (bBin (opEq true) (zqc F25 (zqa (bVar 0) (zqa (bVar 1) (zqa (bVar 2) (aNil))))) (bBin (opEq false) (bVar 3) (bVar 1))) (bBin (opEq true) (zqc F25 (zqa (bVar 0) (zqa (bVar 1) (zqa (bVar 2) (aNil))))) (bBin (opEq false) (bVar 4) (bVar 2))))) (sRet (bC (.bl false))) sNil)
 (sSeq (sIf (bT (bBin (opEq true) (zqc F9 (zqa (bVar 0) (zqa (bVar 3) (aNil)))) (zqc F24 (zqa (bVar 0) (zqa (zqc F9 (zqa (bVar 0) (zqa (bVar 1) (aNil)))) (zqa (zqc F9 (zqa (bVar 0) (zqa (bVar 2) (aNil)))) (aNil))))))) (sRet (bC (.bl false))) sNil)
 (sSeq (sSet false 5 (bBin zqg (zqc F8 (zqa (bVar 0) (zqa (bVar 1) (aNil)))) (zqc F8 (zqa (bVar 0) (zqa (bVar 2) (aNil))))) [0,1,0,2])
 (sSeq (sIf (bT (bBin (opEq true) (bBin zqg (zqc F8 (zqa (bVar 0) (zqa (bVar 3) (aNil)))) (zqc F8 (zqa (bVar 0) (zqa (bVar 4) (aNil))))) (bVar 5))) (sRet (bC (.bl false))) sNil)
 (sRet (bBin (opEq false) (zqc F17 (zqa (bVar 0) (zqa (bVar 1) (zqa (bVar 2) (aNil))))) (bBin zxj (zqc F8 (zqa (bVar 0) (zqa (bVar 4) (aNil)))) (zqc F8 (zqa (bVar 0) (zqa (bVar 3) (aNil))))))))))))))))
def F32:Fn:=mkFn false 3 3 b32
theorem h32:zqs (denS 60 S32) (zql t32)=some b32:=by kernel_rfl
def G33:GT:=[("pile_below",(false,3,F23)),("pile_above",(false,3,F24)),("lies_below",(false,3,F25))]
def S33:=mS ["box","one","other","last","lower","upper","both"] t33 [] G33
def b33:Fs:=(sSeq (sSet false 4 (zqc F23 (zqa (bVar 0) (zqa (bVar 1) (zqa (bVar 2) (aNil))))) [0,1,2])
 (sSeq (sIf (bT (bBin (opEq true) (zqc F23 (zqa (bVar 0) (zqa (bVar 4) (zqa (bVar 3) (aNil))))) (zqc F23 (zqa (bVar 0) (zqa (bVar 1) (zqa (zqc F23 (zqa (bVar 0) (zqa (bVar 2) (zqa (bVar 3) (aNil))))) (aNil))))))) (sRet (bC (.bl false))) sNil)
 (sSeq (sSet false 5 (zqc F24 (zqa (bVar 0) (zqa (bVar 2) (zqa (bVar 3) (aNil))))) [0,2,3])
 (sSeq (sIf (bT (bBin (opEq true) (zqc F24 (zqa (bVar 0) (zqa (bVar 1) (zqa (bVar 5) (aNil))))) (zqc F24 (zqa (bVar 0) (zqa (zqc F24 (zqa (bVar 0) (zqa (bVar 1) (zqa (bVar 2) (aNil))))) (zqa (bVar 3) (aNil))))))) (sRet (bC (.bl false))) sNil)
 (sSeq (sIf (bT (bBin (opEq true) (zqc F23 (zqa (bVar 0) (zqa (bVar 1) (zqa (bVar 5) (aNil))))) (zqc F24 (zqa (bVar 0) (zqa (bVar 4) (zqa (zqc F23 (zqa (bVar 0) (zqa (bVar 1) (zqa (bVar 3) (aNil))))) (aNil))))))) (sRet (bC (.bl false))) sNil)
 (sSeq (sSet false 6 (zvh (zqc F25 (zqa (bVar 0) (zqa (bVar 3) (zqa (bVar 1) (aNil))))) (zqc F25 (zqa (bVar 0) (zqa (bVar 3) (zqa (bVar 2) (aNil)))))) [0,3,1,0,3,2])
 (sRet (bBin (opEq false) (bVar 6) (zqc F25 (zqa (bVar 0) (zqa (bVar 3) (zqa (bVar 4) (aNil)))))))))))))
def F33:Fn:=mkFn false 4 3 b33
theorem h33:zqs (denS 60 S33) (zql t33)=some b33:=by kernel_rfl
def G34:GT:=[("may_move",(false,2,F16)),("fewest_moved",(false,3,F17)),("road_end",(false,3,F19)),("road_to",(false,3,F22)),("pile_below",(false,3,F23)),("pile_above",(false,3,F24)),("lies_below",(false,3,F25)),("_law_is",(false,2,F30))]
def S34:=mS ["way","box","one","other","due","caught","e"] t34 [] G34
def b34:Fs:=(sSeq (sSet false 5 (bC .non) [])
 (sSeq (sTry 0 5 6 [] (sIf (bT (bBin (opEq false) (bVar 0) (bC (.int 0)))) (zxb (zqc F17 (zqa (bVar 1) (zqa (bVar 2) (zqa (bVar 3) (aNil)))))) (sIf (bT (bBin (opEq false) (bVar 0) (bC (.int 1)))) (zxb (zqc F22 (zqa (bVar 1) (zqa (bVar 2) (zqa (bVar 3) (aNil)))))) (sIf (bT (bBin (opEq false) (bVar 0) (bC (.int 2)))) (zxb (zqc F23 (zqa (bVar 1) (zqa (bVar 2) (zqa (bVar 3) (aNil)))))) (sIf (bT (bBin (opEq false) (bVar 0) (bC (.int 3)))) (zxb (zqc F24 (zqa (bVar 1) (zqa (bVar 2) (zqa (bVar 3) (aNil)))))) (sIf (bT (bBin (opEq false) (bVar 0) (bC (.int 4)))) (zxb (zqc F25 (zqa (bVar 1) (zqa (bVar 2) (zqa (bVar 3) (aNil)))))) (sIf (bT (bBin (opEq false) (bVar 0) (bC (.int 5)))) (zxb (zqc F16 (zqa (bVar 1) (zqa (bVar 2) (aNil))))) (zxb (zqc F19 (zqa (bVar 1) (zqa (bVar 2) (zqa (bBin zxc (zqb zqf (zqa (zqb zwn (zqa (bC (.int 5)) (zqa (bC (.int 5)) (zqa (bC (.int 5)) (aNil))))) (aNil))) (bBin zxj (bVar 0) (bC (.int 6)))) (aNil)))))))))))))
 (sRet (zqc F30 (zqa (bVar 5) (zqa (bVar 4) (aNil)))))))
def F34:Fn:=mkFn false 5 2 b34
theorem h34:zqs (denS 60 S34) (zql t34)=some b34:=by kernel_rfl
def G35:GT:=[]
def S35:=mS ["box","thing","row","i","j","most"] t35 [] G35
abbrev b35:Fs:=QV.Xa_is_pile
abbrev F35:Fn:=QV.a_is_pile
theorem h35:zqs (denS 60 S35) (zql t35)=some b35:=by kernel_rfl
def G36:GT:=[("_law_take",(true,2,F27)),("_law_is_pile",(false,2,F35))]
def S36:=mS ["pool","box","pile","a","b","c","some","i","j","odd","row","turn","found","thing"] t36 [0] G36
abbrev b36:Fs:=QV.Xa_none
abbrev F36:Fn:=QV.a_none
theorem h36:zqs (denS 60 S36) (zql t36)=some b36:=by kernel_rfl
def G37:GT:=[("_law_take",(true,2,F27)),("_law_refused",(false,5,F34)),("_law_none",(true,3,F36))]
def S37:=mS ["pool","box","pile","at","odd","some","no_box","bad","way"] t37 [0] G37
def b37:Fs:=(sSeq (sSet false 3 (zqd F27 0 (zqa (bC (.int 3)) (aNil))) [])
 (sSeq (sSet false 4 (bBin zqe (zqb zqf (zqa (bC (.int 0)) (zqa (bUn zxq (bC (.int 1))) (zqa (bC (.bl true)) (zqa (bC .non) (zqa (zqb qc4 (zqa (bBin zqe (bVar 1) (bVar 3)) (aNil))) (zqa (bBin zxj (bC (.int 1)) (bBin zqe (bVar 1) (bVar 3))) (aNil)))))))) (zqd F27 0 (zqa (bC (.int 6)) (aNil)))) [1,3,1,3])
 (sSeq (sSet false 5 (zqb zqf (zqa (zqb zvb (zqa (bVar 1) (aNil))) (zqa (bBin zqg (bVar 1) (zqb zwn (zqa (bC (.int 1)) (aNil)))) (zqa (bBin zqg (bBin zqg (bSl (bVar 1) none (some (bVar 3))) (zqb zwn (zqa (bVar 4) (aNil)))) (bSl (bVar 1) (some (bBin zqg (bVar 3) (bC (.int 1)))) none)) (zqa (bC .non) (zqa (zqb zwn (zqa (bC (.int 1)) (zqa (bC (.int 1)) (aNil)))) (zqa (bSl (bVar 1) none (some (bC (.int 2)))) (aNil)))))))) [1,1,1,4,1,1])
 (sSeq (sSet false 6 (bBin zqe (bVar 5) (zqd F27 0 (zqa (bC (.int 6)) (aNil)))) [5])
 (sSeq (zvv (zqd F36 0 (zqa (bVar 1) (zqa (bVar 2) (aNil)))) [1,2] (asgN 7) (zwq zqy (zqa (bC (.int 8)) (aNil)) (asgN 8) (sSeq (sIf (bT (bOrV (bUn zqu (zqc F34 (zqa (bVar 8) (zqa (bVar 6) (zqa (bVar 7) (zqa (bVar 2) (zqa (bC (.int 0)) (aNil)))))))) (bUn zqu (zqc F34 (zqa (bVar 8) (zqa (bVar 6) (zqa (bVar 2) (zqa (bVar 2) (zqa (bC (.int 0)) (aNil)))))))))) (sRet (bC (.bl false))) sNil)
 (sSeq (sIf (bT (bOrV (bUn zqu (zqc F34 (zqa (bVar 8) (zqa (bVar 1) (zqa (bVar 7) (zqa (bVar 2) (zqa (bC (.int 1)) (aNil)))))))) (bUn zqu (zqc F34 (zqa (bVar 8) (zqa (bVar 1) (zqa (bVar 7) (zqa (bVar 7) (zqa (bC (.int 1)) (aNil)))))))))) (sRet (bC (.bl false))) sNil)
 (sIf (bT (zvh (bBin (zxh λ i j=>decide (i < j)) (bVar 8) (bC (.int 5))) (bUn zqu (zqc F34 (zqa (bVar 8) (zqa (bVar 1) (zqa (bVar 2) (zqa (bVar 7) (zqa (bC (.int 1)) (aNil)))))))))) (sRet (bC (.bl false))) sNil)))))
 (sRet (bC (.bl true))))))))
def F37:Fn:=mkFn true 3 6 b37
theorem h37:zqs (denS 60 S37) (zql t37)=some b37:=by kernel_rfl
def G38:GT:=[("_law_pool",(false,2,F26)),("_law_box",(true,2,F28)),("_law_pile",(true,2,F29)),("_law_near",(true,3,F31)),("_law_two_right",(false,3,F32)),("_law_three_right",(false,4,F33)),("_law_refusals_right",(true,3,F37))]
def S38:=mS ["script","k","pool","box","one","other","last"] t38 [2] G38
def b38:Fs:=(sSeq (zwq zqy (zqa (zqb zkx (zqa (bC (.int 1)) (zqa (zqb zzd (zqa (bC (.int 6)) (zqa (zqb zwe (zqa (bVar 0) (aNil))) (aNil)))) (aNil)))) (aNil)) (asgN 1) (sSeq (sSet true 2 (zqc F26 (zqa (bVar 0) (zqa (bVar 1) (aNil)))) [0,1])
 (sSeq (sSet false 3 (zqd F28 2 (zqa (bC (.int 6)) (aNil))) [])
 (sSeq (sSet false 4 (zqd F29 2 (zqa (bVar 3) (aNil))) [3])
 (sSeq (sSet false 5 (zqd F31 2 (zqa (bVar 3) (zqa (bVar 4) (aNil)))) [3,4])
 (sSeq (sSet false 6 (zqd F31 2 (zqa (bVar 3) (zqa (bVar 5) (aNil)))) [3,5])
 (sSeq (sIf (bT (bOrV (bUn zqu (zqc F32 (zqa (bVar 3) (zqa (bVar 4) (zqa (bVar 5) (aNil)))))) (bUn zqu (zqc F33 (zqa (bVar 3) (zqa (bVar 4) (zqa (bVar 5) (zqa (bVar 6) (aNil))))))))) (sRet (bC (.bl false))) sNil)
 (sIf (bT (bUn zqu (zqd F37 2 (zqa (bVar 3) (zqa (bVar 4) (aNil)))))) (sRet (bC (.bl false))) sNil))))))))
 (sRet (bC (.bl true))))
def F38:Fn:=mkFn false 1 6 b38
theorem h38:zqs (denS 60 S38) (zql t38)=some b38:=by kernel_rfl
open PySem PySem.Spec PyProof.Rows L2 QQ QV
section
variable {a b c:Nat}{t u v:List (List Int)}
def hiT (t u:List (List Int)):List (List Int):=zT (λ i j=>if j > i then j else i) t u
theorem zzm (ht:Tab a b t) (hu:Tab a b u) {x y:Nat} (hx:x < a) (hy:y < b):g (hiT t u) x y=if g u x y > g t x y then g u x y else g t x y:=by
 unfold hiT
 rw [zpv ht hu,zvl hx hy]
theorem qaz (p:Pile a b c t) (q:Pile a b c u):Pile a b c (hiT t u):=qdi _ (λ i j k m h1 h2=>by split <;> split <;> omega) (λ i j=>by split <;> simp) p q
theorem zxk (ht:Tab a b t) (hu:Tab a b u):Tab a b (lowT t u):=qbb ht hu
theorem zzb (ht:Tab a b t) (hu:Tab a b u):Tab a b (hiT t u):=qbb ht hu
theorem qlb (ht:Tab a b t) (hu:Tab a b u):lowT u t=lowT t u:=zzh (zxk hu ht) (zxk ht hu) λ i j hi hj=>by
 rw [zxo hu ht hi hj,zxo ht hu hi hj]
 split <;> split <;> omega
theorem qo1 (ht:Tab a b t) (hu:Tab a b u):hiT u t=hiT t u:=zzh (zzb hu ht) (zzb ht hu) λ i j hi hj=>by
 rw [zzm hu ht hi hj,zzm ht hu hi hj]
 split <;> split <;> omega
theorem qop (ht:Tab a b t) (hu:Tab a b u):lowT t (hiT t u)=t:=zzh (zxk ht (zzb ht hu)) ht λ i j hi hj=>by
 rw [zxo ht (zzb ht hu) hi hj,zzm ht hu hi hj]
 split <;> split <;> omega
theorem qo2 (ht:Tab a b t) (hu:Tab a b u):hiT t (lowT t u)=t:=zzh (zzb ht (zxk ht hu)) ht λ i j hi hj=>by
 rw [zzm ht (zxk ht hu) hi hj,zxo ht hu hi hj]
 split <;> split <;> omega
theorem zhj:leT a b t u=true↔∀ i j,i < a->j < b->g t i j<=g u i j:=by
 unfold leT
 rw [jc4]
 exact ⟨λ h i j hi hj=>of_decide_eq_true (h (i,j) (zxa.mpr ⟨hi,hj⟩)),λ h z hz=>decide_eq_true (h z.1 z.2 (zxa.mp hz).1 (zxa.mp hz).2)⟩
theorem qoo (ht:Tab a b t) (hu:Tab a b u):decide (lowT t u=t)=leT a b t u:=by
 rw [jf0,zhj,decide_eq_true_iff]
 constructor
 ·intro e i j hi hj
  have:=zxo ht hu hi hj
  rw [e] at this
  split at this <;> omega
 ·intro h
  refine zzh (zxk ht hu) ht λ i j hi hj=>?_
  have:=h i j hi hj
  rw [zxo ht hu hi hj]
  split <;> omega
theorem qp3 (ht:Tab a b t) (hu:Tab a b u):decide (hiT t u=u)=leT a b t u:=by
 rw [jf0,zhj,decide_eq_true_iff]
 constructor
 ·intro e i j hi hj
  have:=zzm ht hu hi hj
  rw [e] at this
  split at this <;> omega
 ·intro h
  refine zzh (zzb ht hu) hu λ i j hi hj=>?_
  have:=h i j hi hj
  rw [zzm ht hu hi hj]
  split <;> omega
theorem qha (ht:Tab a b t) (hu:Tab a b u) (ha:1<=a) (hb:1<=b) {k:Int}:zpt (lowT t u) k=hiT (zpt t k) (zpt u k):=zzh (zzz (zxk ht hu)) (zzb (zzz ht) (zzz hu)) λ i j hi hj=>by
 rw [zwi (zxk ht hu) hi hj,zzm (zzz ht) (zzz hu) hi hj,zwi ht hi hj,zwi hu hi hj,zxo ht hu (by omega) (by omega)]
 split <;> split <;> omega
theorem qlc (ht:Tab a b t) (hu:Tab a b u) (hv:Tab a b v):lowT (lowT t u) v=lowT t (lowT u v):=zzh (zxk (zxk ht hu) hv) (zxk ht (zxk hu hv)) λ i j hi hj=>by
 rw [zxo (zxk ht hu) hv hi hj,zxo ht (zxk hu hv) hi hj,zxo ht hu hi hj,zxo hu hv hi hj]
 (repeat split) <;> omega
theorem qp4 (ht:Tab a b t) (hu:Tab a b u) (hv:Tab a b v):hiT t (hiT u v)=hiT (hiT t u) v:=zzh (zzb ht (zzb hu hv)) (zzb (zzb ht hu) hv) λ i j hi hj=>by
 rw [zzm ht (zzb hu hv) hi hj,zzm (zzb ht hu) hv hi hj,zzm ht hu hi hj,zzm hu hv hi hj]
 (repeat split) <;> omega
theorem qhs (ht:Tab a b t) (hu:Tab a b u) (hv:Tab a b v):lowT t (hiT u v)=hiT (lowT t u) (lowT t v):=zzh (zxk ht (zzb hu hv)) (zzb (zxk ht hu) (zxk ht hv)) λ i j hi hj=>by
 rw [zxo ht (zzb hu hv) hi hj,zzm (zxk ht hu) (zxk ht hv) hi hj,zzm hu hv hi hj,zxo ht hu hi hj,zxo ht hv hi hj]
 (repeat split) <;> omega
theorem qlh (ht:Tab a b t) (hu:Tab a b u):(leT a b v t && leT a b v u)=leT a b v (lowT t u):=by
 rw [jf0,ja4,zhj,zhj,zhj]
 constructor
 ·intro h i j hi hj
  have h1:=h.1 i j hi hj
  have h2:=h.2 i j hi hj
  rw [zxo ht hu hi hj]
  split <;> omega
 ·intro h
  constructor <;> intro i j hi hj <;> have:=h i j hi hj <;> rw [zxo ht hu hi hj] at this <;> split at this <;> omega
def sm (a b:Nat) (f:Nat->Nat->Int):Int:=((jc3 a).map λ i=>((jc3 b).map λ j=>f i j).sum).sum
theorem zku {f h:Nat->Int}:∀ L:List Nat,(L.map λ i=>f i + h i).sum=(L.map f).sum + (L.map h).sum
 | []=>rfl
 | x::L=>by
  rw [jc8,jc8,jc8,ji0,ji0,ji0,zku L]
  omega
theorem zxt {f h:Nat->Int}:∀ {L:List Nat},(∀ i∈L,f i=h i)->(L.map f).sum=(L.map h).sum
 | [],_=>rfl
 | x::L,e=>by
  rw [jc8,jc8,ji0,ji0,e x ja3,zxt λ i hi=>e i (ja0 _ hi)]
theorem qd6 {f h:Nat->Nat->Int}:sm a b (λ i j=>f i j + h i j)=sm a b f + sm a b h:=by
 unfold sm
 rw [<- zku]
 exact zxt λ i _=>zku _
theorem qbh {f h:Nat->Nat->Int} (e:∀ i j,i < a->j < b->f i j=h i j):sm a b f=sm a b h:=
 zxt λ i hi=>zxt λ j hj=>e i j (jd3.mp hi) (jd3.mp hj)
theorem qeh {r:List Int} (h:r.length=b):r=(jc3 b).map λ j=>r.getD j 0:=by
 refine jk7 (by rw [ja1,je5,h]) λ i h1 h2=>?_
 rw [jp1,jo1,ja2,jb3 h1]
 rfl
theorem qm5 (ht:Tab a b t):(t.map jn8).sum=sm a b (g t):=by
 have e:=qg0 ht
 rw [show (t.map jn8).sum=(((jc3 a).map λ i=>t.getD i []).map jn8).sum by rw [<- e],jd9]
 refine zxt λ i hi=>?_
 have hl:=ht.2 _ (zmy (t:=t) (i:=i) (by rw [ht.1];exact jd3.mp hi))
 show (t.getD i []).sum=_
 rw [qeh hl]
 exact zxt λ j hj=>rfl
end
section
variable {a b c:Nat}{t u v:List (List Int)}
theorem bel (p:Pile a b c t) (q:Pile a b c u) (ha:1<=a/\a<=30) (hb:1<=b/\b<=30) (hc:1<=c/\c<=1000):F23 [bx a b c,tb t,tb u]=.ok (tb (lowT t u),om,.non):=qio p.tab q.tab (by omega) (by omega) (zyg p q ha hb hc)
theorem abo (p:Pile a b c t) (q:Pile a b c u) (ha:1<=a/\a<=30) (hb:1<=b/\b<=30) (hc:1<=c/\c<=1000):F24 [bx a b c,tb t,tb u]=.ok (tb (hiT t u),om,.non):=qgs p.tab q.tab (by omega) (by omega) (zyg p q ha hb hc)
theorem lie (p:Pile a b c t) (q:Pile a b c u) (ha:1<=a/\a<=30) (hb:1<=b/\b<=30) (hc:1<=c/\c<=1000):F25 [bx a b c,tb t,tb u]=.ok (.bl (leT a b t u),om,.non):=qle p.tab q.tab (by omega) (by omega) (zyg p q ha hb hc)
theorem man (p:Pile a b c t) (ha:1<=a/\a<=30) (hb:1<=b/\b<=30) (hc:1<=c/\c<=1000):F8 [bx a b c,tb t]=.ok (.int (sm a b (g t)),om,.non):=by
 have h:=qk9 p ha hb hc
 rw [zhs p,qm5 p.tab] at h
 exact h
theorem isp (p:Pile a b c t) (ha:1<=a/\a<=30) (hb:1<=b/\b<=30) (hc:1<=c/\c<=1000):F6 [bx a b c,tb t]=.ok (.bl true,om,.non):=by
 have h:=zje (c:=(c:Int)) p.tab (by omega) (by omega) (by omega)
 rw [(zzi p.tab).mpr p] at h
 exact h
theorem qj6 (ht:Tab a b t) (hu:Tab a b u):sm a b (g (lowT t u)) + sm a b (g (hiT t u))=sm a b (g t) + sm a b (g u):=by
 rw [<- qd6,<- qd6]
 refine qbh λ i j hi hj=>?_
 rw [zxo ht hu hi hj,zzm ht hu hi hj]
 split <;> split <;> omega
theorem qh8 (ht:Tab a b t) (hu:Tab a b u):dist a b t u=sm a b (g (hiT t u)) - sm a b (g (lowT t u)):=by
 have e:sm a b (g (hiT t u))=sm a b (g (lowT t u)) + dist a b t u:=by
  rw [show dist a b t u=sm a b (λ i j=>ab (g t i j - g u i j)) from zhp a,<- qd6]
  refine qbh λ i j hi hj=>?_
  rw [zxo ht hu hi hj,zzm ht hu hi hj]
  unfold ab
  split <;> split <;> split <;> omega
 omega
theorem qo9 (w:Bool):opEq true (.bl w) om (.bl w) om=some (.bl false,om):=by cases w <;> rfl
theorem qo8 (w:Bool):opEq false (.bl w) om (.bl w) om=some (.bl true,om):=by cases w <;> rfl
theorem zhb {f h:Fx}{ρ:Rho}{t u:List (List Int)}{d e:Nat} (h1:f ρ=.ok (tb t,d,ρ)) (h2:h ρ=.ok (tb u,e,ρ)) (he:t=u):bBin (opEq true) f h ρ=.ok (.bl false,om,ρ):=by
 have:=qlw (neg:=true) h1 h2
 rw [decide_eq_true he] at this
 exact this
theorem qdk (p:Pile a b c t) (q:Pile a b c u) (ha:1<=a/\a<=30) (hb:1<=b/\b<=30) (hc:1<=c/\c<=1000):F32 [bx a b c,tb t,tb u]=.ok (.bl true,om,.non):=by
 have lp:=zbb p q
 have hp:=qaz p q
 let R (s3 s4 s5:QQ.Slot):Rho:=[some (bx a b c,0),some (tb t,0),some (tb u,0),s3,s4,s5]
 have v1:sSet false 3 (zqc F23 (zqa (bVar 0) (zqa (bVar 1) (zqa (bVar 2) (aNil))))) [0,1,2] (R none none none)=.nx (R (some (tb (lowT t u),om)) none none):=setF (zqj (xs:=[(bx a b c,0),(tb t,0),(tb u,0)]) rfl (bel p q ha hb hc)) (show 3 < 6 by decide) rfl
 have v2:sSet false 4 (zqc F24 (zqa (bVar 0) (zqa (bVar 1) (zqa (bVar 2) (aNil))))) [0,1,2] (R (some (tb (lowT t u),om)) none none)=.nx (R (some (tb (lowT t u),om)) (some (tb (hiT t u),om)) none):=setF (zqj (xs:=[(bx a b c,0),(tb t,0),(tb u,0)]) rfl (abo p q ha hb hc)) (show 4 < 6 by decide) rfl
 let Q (s5:QQ.Slot):Rho:=R (some (tb (lowT t u),om)) (some (tb (hiT t u),om)) s5
 have t1:bT (bOrV (bUn zqu (zqc F6 (zqa (bVar 0) (zqa (bVar 3) (aNil))))) (bUn zqu (zqc F6 (zqa (bVar 0) (zqa (bVar 4) (aNil)))))) (Q none)=.ok (false,Q none):=by
  refine t_ok (d:=om) ?_
  rw [orF (zzj (zqj (F:=F6) (ρ:=Q none) (xs:=[(bx a b c,0),(tb (lowT t u),0)]) rfl (isp lp ha hb hc)))]
  exact zzj (zqj (xs:=[(bx a b c,0),(tb (hiT t u),0)]) rfl (isp hp ha hb hc))
 have t2:bT (bOrV (bBin (opEq true) (bVar 3) (zqc F23 (zqa (bVar 0) (zqa (bVar 2) (zqa (bVar 1) (aNil)))))) (bBin (opEq true) (bVar 4) (zqc F24 (zqa (bVar 0) (zqa (bVar 2) (zqa (bVar 1) (aNil))))))) (Q none)=.ok (false,Q none):=by
  refine t_ok (d:=om) ?_
  rw [orF (zhb (f:=bVar 3) (ρ:=Q none) (d:=0) rfl (zqj (F:=F23) (xs:=[(bx a b c,0),(tb u,0),(tb t,0)]) rfl (bel q p ha hb hc)) (qlb p.tab q.tab).symm)]
  exact zhb (f:=bVar 4) (ρ:=Q none) (d:=0) rfl (zqj (F:=F24) (xs:=[(bx a b c,0),(tb u,0),(tb t,0)]) rfl (abo q p ha hb hc)) (qo1 p.tab q.tab).symm
 have t3:bT (bOrV (bBin (opEq true) (zqc F23 (zqa (bVar 0) (zqa (bVar 1) (zqa (bVar 4) (aNil))))) (bVar 1)) (bBin (opEq true) (zqc F24 (zqa (bVar 0) (zqa (bVar 1) (zqa (bVar 3) (aNil))))) (bVar 1))) (Q none)=.ok (false,Q none):=by
  refine t_ok (d:=om) ?_
  rw [orF (zhb (h:=bVar 1) (ρ:=Q none) (e:=0) (zqj (F:=F23) (xs:=[(bx a b c,0),(tb t,0),(tb (hiT t u),0)]) rfl (bel p hp ha hb hc)) rfl (qop p.tab q.tab))]
  exact zhb (h:=bVar 1) (ρ:=Q none) (e:=0) (zqj (F:=F24) (xs:=[(bx a b c,0),(tb t,0),(tb (lowT t u),0)]) rfl (abo p lp ha hb hc)) rfl (qo2 p.tab q.tab)
 have t4:bT (bOrV (bBin (opEq true) (zqc F25 (zqa (bVar 0) (zqa (bVar 1) (zqa (bVar 2) (aNil))))) (bBin (opEq false) (bVar 3) (bVar 1))) (bBin (opEq true) (zqc F25 (zqa (bVar 0) (zqa (bVar 1) (zqa (bVar 2) (aNil))))) (bBin (opEq false) (bVar 4) (bVar 2)))) (Q none)=.ok (false,Q none):=by
  have l:=zqj (F:=F25) (fa:=zqa (bVar 0) (zqa (bVar 1) (zqa (bVar 2) (aNil)))) (ρ:=Q none) (xs:=[(bx a b c,0),(tb t,0),(tb u,0)]) rfl (lie p q ha hb hc)
  have w1:=qlw (neg:=false) (f:=bVar 3) (h:=bVar 1) (ρ:=Q none) (ρ1:=Q none) (ρ2:=Q none) (t:=lowT t u) (u:=t) (d:=0) (e:=0) rfl rfl
  have w2:=qlw (neg:=false) (f:=bVar 4) (h:=bVar 2) (ρ:=Q none) (ρ1:=Q none) (ρ2:=Q none) (t:=hiT t u) (u:=u) (d:=0) (e:=0) rfl rfl
  rw [qoo p.tab q.tab,jl9] at w1
  rw [qp3 p.tab q.tab,jl9] at w2
  refine t_ok (d:=om) ?_
  rw [orF (zwb l w1 (qo9 _))]
  exact zwb l w2 (qo9 _)
 have t5:bT (bBin (opEq true) (zqc F9 (zqa (bVar 0) (zqa (bVar 3) (aNil)))) (zqc F24 (zqa (bVar 0) (zqa (zqc F9 (zqa (bVar 0) (zqa (bVar 1) (aNil)))) (zqa (zqc F9 (zqa (bVar 0) (zqa (bVar 2) (aNil)))) (aNil)))))) (Q none)=.ok (false,Q none):=by
  have r0:=zqj (F:=F9) (fa:=zqa (bVar 0) (zqa (bVar 3) (aNil))) (ρ:=Q none) (xs:=[(bx a b c,0),(tb (lowT t u),0)]) rfl (qam lp (by omega) (by omega) hc.1)
  have r1:=zqj (F:=F9) (fa:=zqa (bVar 0) (zqa (bVar 1) (aNil))) (ρ:=Q none) (xs:=[(bx a b c,0),(tb t,0)]) rfl (qam p (by omega) (by omega) hc.1)
  have r2:=zqj (F:=F9) (fa:=zqa (bVar 0) (zqa (bVar 2) (aNil))) (ρ:=Q none) (xs:=[(bx a b c,0),(tb u,0)]) rfl (qam q (by omega) (by omega) hc.1)
  exact t_ok (zhb r0 (zqj (F:=F24) (zqm (f:=bVar 0) (x:=bx a b c) (d:=0) rfl (zqm r1 (zqt r2))) (abo (zgn p) (zgn q) ha hb hc)) (qha p.tab q.tab ha.1 hb.1))
 have m1:=zqj (F:=F8) (fa:=zqa (bVar 0) (zqa (bVar 1) (aNil))) (ρ:=Q none) (xs:=[(bx a b c,0),(tb t,0)]) rfl (man p ha hb hc)
 have m2:=zqj (F:=F8) (fa:=zqa (bVar 0) (zqa (bVar 2) (aNil))) (ρ:=Q none) (xs:=[(bx a b c,0),(tb u,0)]) rfl (man q ha hb hc)
 let N:QQ.Slot:=some (.int (sm a b (g t) + sm a b (g u)),om)
 have v5:sSet false 5 (bBin zqg (zqc F8 (zqa (bVar 0) (zqa (bVar 1) (aNil)))) (zqc F8 (zqa (bVar 0) (zqa (bVar 2) (aNil))))) [0,1,0,2] (Q none)=.nx (Q N):=setF (zwp m1 m2) (show 5 < 6 by decide) rfl
 have m3:=zqj (F:=F8) (fa:=zqa (bVar 0) (zqa (bVar 3) (aNil))) (ρ:=Q N) (xs:=[(bx a b c,0),(tb (lowT t u),0)]) rfl (man lp ha hb hc)
 have m4:=zqj (F:=F8) (fa:=zqa (bVar 0) (zqa (bVar 4) (aNil))) (ρ:=Q N) (xs:=[(bx a b c,0),(tb (hiT t u),0)]) rfl (man hp ha hb hc)
 have t6:=t_ok (zyp (neg:=true) (zwp m3 m4) (g:=bVar 5) (j:=sm a b (g t) + sm a b (g u)) (e:=om) rfl)
 rw [decide_eq_true (qj6 p.tab q.tab)] at t6
 have f7:=zqj (F:=F17) (fa:=zqa (bVar 0) (zqa (bVar 1) (zqa (bVar 2) (aNil)))) (ρ:=Q N) (xs:=[(bx a b c,0),(tb t,0),(tb u,0)]) rfl (qo6 p q ha hb hc)
 have e7:=zyp (neg:=false) f7 (zvs m4 m3)
 rw [decide_eq_true (qh8 p.tab q.tab)] at e7
 exact zwr rfl ((zqi v1).trans ((zqi v2).trans ((zwd t1).trans ((zwd t2).trans ((zwd t3).trans ((zwd t4).trans ((zwd t5).trans ((zqi v5).trans ((zwd t6).trans (zwg e7))))))))))
theorem qag (p:Pile a b c t) (q:Pile a b c u) (r:Pile a b c v) (ha:1<=a/\a<=30) (hb:1<=b/\b<=30) (hc:1<=c/\c<=1000):F33 [bx a b c,tb t,tb u,tb v]=.ok (.bl true,om,.non):=by
 have lp:=zbb p q
 have hp:=qaz q r
 let R (s4 s5 s6:QQ.Slot):Rho:=[some (bx a b c,0),some (tb t,0),some (tb u,0),some (tb v,0),s4,s5,s6]
 have v1:sSet false 4 (zqc F23 (zqa (bVar 0) (zqa (bVar 1) (zqa (bVar 2) (aNil))))) [0,1,2] (R none none none)=.nx (R (some (tb (lowT t u),om)) none none):=setF (zqj (xs:=[(bx a b c,0),(tb t,0),(tb u,0)]) rfl (bel p q ha hb hc)) (show 4 < 7 by decide) rfl
 let Q (s5 s6:QQ.Slot):Rho:=R (some (tb (lowT t u),om)) s5 s6
 have t1:bT (bBin (opEq true) (zqc F23 (zqa (bVar 0) (zqa (bVar 4) (zqa (bVar 3) (aNil))))) (zqc F23 (zqa (bVar 0) (zqa (bVar 1) (zqa (zqc F23 (zqa (bVar 0) (zqa (bVar 2) (zqa (bVar 3) (aNil))))) (aNil)))))) (Q none none)=.ok (false,Q none none):=by
  have r1:=zqj (F:=F23) (fa:=zqa (bVar 0) (zqa (bVar 4) (zqa (bVar 3) (aNil)))) (ρ:=Q none none) (xs:=[(bx a b c,0),(tb (lowT t u),0),(tb v,0)]) rfl (bel lp r ha hb hc)
  have r2:=zqj (F:=F23) (fa:=zqa (bVar 0) (zqa (bVar 2) (zqa (bVar 3) (aNil)))) (ρ:=Q none none) (xs:=[(bx a b c,0),(tb u,0),(tb v,0)]) rfl (bel q r ha hb hc)
  exact t_ok (zhb r1 (zqj (F:=F23) (zqm (f:=bVar 0) (x:=bx a b c) (d:=0) rfl (zqm (f:=bVar 1) (x:=tb t) (d:=0) rfl (zqt r2))) (bel p (zbb q r) ha hb hc)) (qlc p.tab q.tab r.tab))
 have v2:sSet false 5 (zqc F24 (zqa (bVar 0) (zqa (bVar 2) (zqa (bVar 3) (aNil))))) [0,2,3] (Q none none)=.nx (Q (some (tb (hiT u v),om)) none):=setF (zqj (xs:=[(bx a b c,0),(tb u,0),(tb v,0)]) rfl (abo q r ha hb hc)) (show 5 < 7 by decide) rfl
 let W (s6:QQ.Slot):Rho:=Q (some (tb (hiT u v),om)) s6
 have t2:bT (bBin (opEq true) (zqc F24 (zqa (bVar 0) (zqa (bVar 1) (zqa (bVar 5) (aNil))))) (zqc F24 (zqa (bVar 0) (zqa (zqc F24 (zqa (bVar 0) (zqa (bVar 1) (zqa (bVar 2) (aNil))))) (zqa (bVar 3) (aNil)))))) (W none)=.ok (false,W none):=by
  have r1:=zqj (F:=F24) (fa:=zqa (bVar 0) (zqa (bVar 1) (zqa (bVar 5) (aNil)))) (ρ:=W none) (xs:=[(bx a b c,0),(tb t,0),(tb (hiT u v),0)]) rfl (abo p hp ha hb hc)
  have r2:=zqj (F:=F24) (fa:=zqa (bVar 0) (zqa (bVar 1) (zqa (bVar 2) (aNil)))) (ρ:=W none) (xs:=[(bx a b c,0),(tb t,0),(tb u,0)]) rfl (abo p q ha hb hc)
  exact t_ok (zhb r1 (zqj (F:=F24) (zqm (f:=bVar 0) (x:=bx a b c) (d:=0) rfl (zqm r2 (zqt (f:=bVar 3) (x:=tb v) (d:=0) rfl))) (abo (qaz p q) r ha hb hc)) (qp4 p.tab q.tab r.tab))
 have t3:bT (bBin (opEq true) (zqc F23 (zqa (bVar 0) (zqa (bVar 1) (zqa (bVar 5) (aNil))))) (zqc F24 (zqa (bVar 0) (zqa (bVar 4) (zqa (zqc F23 (zqa (bVar 0) (zqa (bVar 1) (zqa (bVar 3) (aNil))))) (aNil)))))) (W none)=.ok (false,W none):=by
  have r1:=zqj (F:=F23) (fa:=zqa (bVar 0) (zqa (bVar 1) (zqa (bVar 5) (aNil)))) (ρ:=W none) (xs:=[(bx a b c,0),(tb t,0),(tb (hiT u v),0)]) rfl (bel p hp ha hb hc)
  have r2:=zqj (F:=F23) (fa:=zqa (bVar 0) (zqa (bVar 1) (zqa (bVar 3) (aNil)))) (ρ:=W none) (xs:=[(bx a b c,0),(tb t,0),(tb v,0)]) rfl (bel p r ha hb hc)
  exact t_ok (zhb r1 (zqj (F:=F24) (zqm (f:=bVar 0) (x:=bx a b c) (d:=0) rfl (zqm (f:=bVar 4) (x:=tb (lowT t u)) (d:=0) rfl (zqt r2))) (abo lp (zbb p r) ha hb hc)) (qhs p.tab q.tab r.tab))
 have l1:=zqj (F:=F25) (fa:=zqa (bVar 0) (zqa (bVar 3) (zqa (bVar 1) (aNil)))) (ρ:=W none) (xs:=[(bx a b c,0),(tb v,0),(tb t,0)]) rfl (lie r p ha hb hc)
 have l2:=zqj (F:=F25) (fa:=zqa (bVar 0) (zqa (bVar 3) (zqa (bVar 2) (aNil)))) (ρ:=W none) (xs:=[(bx a b c,0),(tb v,0),(tb u,0)]) rfl (lie r q ha hb hc)
 have v3:sSet false 6 (zvh (zqc F25 (zqa (bVar 0) (zqa (bVar 3) (zqa (bVar 1) (aNil))))) (zqc F25 (zqa (bVar 0) (zqa (bVar 3) (zqa (bVar 2) (aNil)))))) [0,3,1,0,3,2] (W none)=.nx (W (some (.bl (leT a b v t && leT a b v u),om))):=setF (zjp l1 (λ _=>l2) rfl) (show 6 < 7 by decide) rfl
 rw [qlh p.tab q.tab] at v3
 have l3:=zqj (F:=F25) (fa:=zqa (bVar 0) (zqa (bVar 3) (zqa (bVar 4) (aNil)))) (ρ:=W (some (.bl (leT a b v (lowT t u)),om))) (xs:=[(bx a b c,0),(tb v,0),(tb (lowT t u),0)]) rfl (lie r lp ha hb hc)
 exact zwr rfl ((zqi v1).trans ((zwd t1).trans ((zqi v2).trans ((zwd t2).trans ((zwd t3).trans ((zqi v3).trans (zwg (zwb (f:=bVar 6) (x:=.bl (leT a b v (lowT t u))) (d:=om) rfl l3 (qo8 _)))))))))
end
theorem qjc:F30 [.exn 1,.int 0]=.ok (.bl true,om,.non):=by kernel_rfl
theorem qfh:F30 [.exn 2,.int 1]=.ok (.bl true,om,.non):=by kernel_rfl
theorem qlv {m:Bool}{i:Nat}{f:Fx}{vs:List Nat}{ρ:Rho}{c:Nat} (h:f ρ=.exc c):sSet m i f vs ρ=.exc c:=by unfold sSet;rw [h]
theorem qft {k c:Nat}{rest:Fs}{y x:PV} (h:f_must_be_pile [y,x]=.exc c):mkFn false 2 k (sSeq (zxb (zqc f_must_be_pile (zqa (bVar 0) (zqa (bVar 1) (aNil))))) rest) [y,x]=.exc c:=
 zks rfl (zjf (zze (zwl (xs:=[(y,dv y),(x,dv x)]) rfl h)))
theorem qde {k c:Nat}{rest:Fs}{y x z:PV} (h:f_must_be_pile [y,x]=.exc c):mkFn false 3 k (sSeq (zxb (zqc f_must_be_pile (zqa (bVar 0) (zqa (bVar 1) (aNil))))) rest) [y,x,z]=.exc c:=
 zks rfl (zjf (zze (zwl (xs:=[(y,dv y),(x,dv x)]) rfl h)))
theorem zvg {k c:Nat}{rest:Fs}{y x z:PV} (h:f_must_be_two_piles [y,x,z]=.exc c):mkFn false 3 k (sSeq (zxb (zqc f_must_be_two_piles (zqa (bVar 0) (zqa (bVar 1) (zqa (bVar 2) (aNil)))))) rest) [y,x,z]=.exc c:=
 zks rfl (zjf (zze (zwl (xs:=[(y,dv y),(x,dv x),(z,dv z)]) rfl h)))
theorem zjz {y x z:PV}{c:Nat} (h:f_must_be_pile [y,x]=.exc c):f_must_be_two_piles [y,x,z]=.exc c:=
 zks rfl (zjf (zze (zwl (xs:=[(y,dv y),(x,dv x)]) rfl h)))
theorem qgw {y x z:PV}{c:Nat} (h0:f_must_be_pile [y,x]=.ok (.non,om,.non)) (h:f_must_be_pile [y,z]=.exc c):f_must_be_two_piles [y,x,z]=.exc c:=
 zks rfl ((zqi (zzp (zqj (ρ:=[some (y,dv y),some (x,dv x),some (z,dv z)]) (xs:=[(y,dv y),(x,dv x)]) rfl h0))).trans (zze (zwl (xs:=[(y,dv y),(z,dv z)]) rfl h)))
def tryB:Fs:=(sIf (bT (bBin (opEq false) (bVar 0) (bC (.int 0)))) (zxb (zqc F17 (zqa (bVar 1) (zqa (bVar 2) (zqa (bVar 3) (aNil)))))) (sIf (bT (bBin (opEq false) (bVar 0) (bC (.int 1)))) (zxb (zqc F22 (zqa (bVar 1) (zqa (bVar 2) (zqa (bVar 3) (aNil)))))) (sIf (bT (bBin (opEq false) (bVar 0) (bC (.int 2)))) (zxb (zqc F23 (zqa (bVar 1) (zqa (bVar 2) (zqa (bVar 3) (aNil)))))) (sIf (bT (bBin (opEq false) (bVar 0) (bC (.int 3)))) (zxb (zqc F24 (zqa (bVar 1) (zqa (bVar 2) (zqa (bVar 3) (aNil)))))) (sIf (bT (bBin (opEq false) (bVar 0) (bC (.int 4)))) (zxb (zqc F25 (zqa (bVar 1) (zqa (bVar 2) (zqa (bVar 3) (aNil)))))) (sIf (bT (bBin (opEq false) (bVar 0) (bC (.int 5)))) (zxb (zqc F16 (zqa (bVar 1) (zqa (bVar 2) (aNil))))) (zxb (zqc F19 (zqa (bVar 1) (zqa (bVar 2) (zqa (bBin zxc (zqb zqf (zqa (zqb zwn (zqa (bC (.int 5)) (zqa (bC (.int 5)) (zqa (bC (.int 5)) (aNil))))) (aNil))) (bBin zxj (bVar 0) (bC (.int 6)))) (aNil))))))))))))
theorem qek {w c:Nat} (hw:w < 8) {y x z:PV}{du:Int} (h2:w < 5->f_must_be_two_piles [y,x,z]=.exc c) (h1:5<=w->f_must_be_pile [y,x]=.exc c) (hX:isX c 0=true) (hd:F30 [.exn c,.int du]=.ok (.bl true,om,.non)):F34 [.int (w:Int),y,x,z,.int du]=.ok (.bl true,om,.non):=by
 let R (s5 s6:QQ.Slot):Rho:=[some (.int (w:Int),om),some (y,dv y),some (x,dv x),some (z,dv z),some (.int du,om),s5,s6]
 have v1:sSet false 5 (bC .non) [] (R none none)=.nx (R (some (.non,om)) none):=rfl
 let Q:Rho:=R (some (.non,om)) none
 have tw:∀ n:Int,bT (bBin (opEq false) (bVar 0) (bC (.int n))) Q=.ok (decide ((w:Int)=n),Q):=λ n=>by
  refine (t_ok (zyp (neg:=false) (i:=(w:Int)) (j:=n) (d:=om) (e:=om) rfl rfl)).trans ?_
  rw [jl9]
 have dr:∀ {F:Fn},F [y,x,z]=.exc c->zxb (zqc F (zqa (bVar 1) (zqa (bVar 2) (zqa (bVar 3) (aNil))))) Q=.exc c:=λ hF=>zze (zwl (xs:=[(y,dv y),(x,dv x),(z,dv z)]) rfl hF)
 have hb:tryB Q=.exc c:=by
  have t0:=tw 0
  have t1:=tw 1
  have t2:=tw 2
  have t3:=tw 3
  have t4:=tw 4
  have t5:=tw 5
  have last:6<=w->zxb (zqc F19 (zqa (bVar 1) (zqa (bVar 2) (zqa (bBin zxc (zqb zqf (zqa (zqb zwn (zqa (bC (.int 5)) (zqa (bC (.int 5)) (zqa (bC (.int 5)) (aNil))))) (aNil))) (bBin zxj (bVar 0) (bC (.int 6)))) (aNil))))) Q=.exc c:=λ h6=>by
   have s1:=zvs (f:=bVar 0) (g:=bC (.int 6)) (ρ:=Q) (ρ1:=Q) (ρ2:=Q) (i:=(w:Int)) (j:=6) (d:=om) (e:=om) rfl rfl
   rw [show (w:Int) - 6=((w - 6:Nat):Int) by omega] at s1
   have m1:=zbw (f:=zqb zqf (zqa (zqb zwn (zqa (bC (.int 5)) (zqa (bC (.int 5)) (zqa (bC (.int 5)) (aNil))))) (aNil))) (x:=.tup [.int 5,.int 5,.int 5]) (d:=om) (ρ:=Q) rfl s1 (by omega)
   exact zze (zwl (zqm (f:=bVar 1) (x:=y) (d:=dv y) (ρ:=Q) rfl (zqm (f:=bVar 2) (x:=x) (d:=dv x) rfl (zqt m1))) (qde (k:=2) (h1 (by omega))))
  have hw':w=0\/w=1\/w=2\/w=3\/w=4\/w=5\/w=6\/w=7:=by omega
  rcases hw' with rfl | rfl | rfl | rfl | rfl | rfl | rfl | rfl
  ·exact (if_t t0).trans (dr (F:=F17) (zvg (k:=0) (h2 (by decide))))
  ·exact (if_f t0).trans ((if_t t1).trans (dr (F:=F22) (zks rfl (zjf (qlv (zwl (F:=F23) (xs:=[(y,dv y),(x,dv x),(z,dv z)]) rfl (zvg (k:=3) (h2 (by decide)))))))))
  ·exact (if_f t0).trans ((if_f t1).trans ((if_t t2).trans (dr (F:=F23) (zvg (k:=3) (h2 (by decide))))))
  ·exact (if_f t0).trans ((if_f t1).trans ((if_f t2).trans ((if_t t3).trans (dr (F:=F24) (zvg (k:=3) (h2 (by decide)))))))
  ·exact (if_f t0).trans ((if_f t1).trans ((if_f t2).trans ((if_f t3).trans ((if_t t4).trans (dr (F:=F25) (zvg (k:=0) (h2 (by decide))))))))
  ·exact (if_f t0).trans ((if_f t1).trans ((if_f t2).trans ((if_f t3).trans ((if_f t4).trans ((if_t t5).trans (zze (zwl (F:=F16) (xs:=[(y,dv y),(x,dv x)]) rfl (qft (k:=0) (h1 (by decide))))))))))
  ·exact (if_f t0).trans ((if_f t1).trans ((if_f t2).trans ((if_f t3).trans ((if_f t4).trans ((if_f t5).trans (last (by decide)))))))
  ·exact (if_f t0).trans ((if_f t1).trans ((if_f t2).trans ((if_f t3).trans ((if_f t4).trans ((if_f t5).trans (last (by decide)))))))
 have v2:sTry 0 5 6 [] tryB Q=.nx (R (some (.exn c,om)) none):=by
  unfold sTry
  rw [hb]
  dsimp only
  rw [if_pos ⟨hX,show 5 < 7 by decide,rfl⟩]
  rfl
 exact zwr rfl ((zqi v1).trans ((zqi v2).trans (zwg (zqj (xs:=[(.exn c,om),(.int du,om)]) rfl hd))))
def O6 (s:Int) (T:Str):List PV:=[.int 0,.int (-1),.bl true,.non,.str T,.int (1 - s)]
theorem qqg {s:Int}{T:Str} (hs:1<=s):∀ y∈O6 s T,dv y=om/\okE 1 y=true/\zjs y=false:=λ y hy=>by
 have e:zjs (.int (1 - s))=false:=decide_eq_false (by omega)
 unfold O6 at hy
 simp only [jb2,jg0,or_false] at hy
 rcases hy with rfl | rfl | rfl | rfl | rfl | rfl
 all_goals first | exact ⟨rfl,rfl,rfl⟩ | exact ⟨rfl,rfl,e⟩
def put3 (a b c:Nat) (k:Nat) (y:PV):PV:=match k with
 | 0=>.tup [y,.int b,.int c]
 | 1=>.tup [.int a,y,.int c]
 | _=>.tup [.int a,.int b,y]
def Z6 (a b c k:Nat) (y:PV):List PV:=[.lst [.int a,.int b,.int c],.tup [.int a,.int b,.int c,.int 1],put3 a b c k y,.non,.tup [.int 1,.int 1],.tup [.int a,.int b]]
theorem qqe {a b c k:Nat}{y:PV} (hy:okE 1 y=true) (hs:zjs y=false):∀ z∈Z6 a b c k y,f_is_box [z]=.ok (.bl false,om,.non):=λ z hz=>by
 have h3:okE 10 (put3 a b c k y)=true/\boxV (put3 a b c k y)=false:=by
  have hy':=qi8 hy (show 1<=9 by decide)
  unfold put3
  split
  ·refine ⟨?_,by show (true && (zjs y && _))=false;rw [hs];rfl⟩
   show (true && (okE 9 y && _))=true
   rw [hy'];rfl
  ·refine ⟨?_,by show (true && (zjs (.int a) && (zjs y && _)))=false;rw [hs,jl8,jg4];rfl⟩
   show (true && (true && (okE 9 y && _)))=true
   rw [hy'];rfl
  ·refine ⟨?_,by show (true && (zjs (.int a) && (zjs (.int b) && (zjs y && true))))=false;rw [hs,jl8,jg4,jg4];rfl⟩
   show (true && (true && (true && (okE 9 y && true))))=true
   rw [hy'];rfl
 have h:okE 10 z=true/\boxV z=false:=by
  unfold Z6 at hz
  simp only [jb2,jg0,or_false] at hz
  rcases hz with rfl | rfl | rfl | rfl | rfl | rfl
  ·exact ⟨rfl,rfl⟩
  ·exact ⟨rfl,rfl⟩
  ·exact h3
  ·exact ⟨rfl,rfl⟩
  ·exact ⟨rfl,rfl⟩
  ·exact ⟨rfl,rfl⟩
 have:=ql5 h.1
 rw [h.2] at this
 exact this
theorem qal {s:Int} (h:0<=s/\s<=1000):zbn (.int s)=some (toString s:Str):=by
 show (if s.natAbs.log2 < 1920 then some _ else none)=_
 rw [if_pos]
 by_cases h0:s.natAbs=0
 ·rw [h0];decide
 ·exact jb6 ((jr4 h0).mpr (show s.natAbs < 2 ^ 10 by omega)) (by decide)
def odX:Fx:=(bBin zqe (zqb zqf (zqa (bC (.int 0)) (zqa (bUn zxq (bC (.int 1))) (zqa (bC (.bl true)) (zqa (bC .non) (zqa (zqb qc4 (zqa (bBin zqe (bVar 1) (bVar 3)) (aNil))) (zqa (bBin zxj (bC (.int 1)) (bBin zqe (bVar 1) (bVar 3))) (aNil)))))))) (zqd F27 0 (zqa (bC (.int 6)) (aNil))))
def zzX:Fx:=(zqb zqf (zqa (zqb zvb (zqa (bVar 1) (aNil))) (zqa (bBin zqg (bVar 1) (zqb zwn (zqa (bC (.int 1)) (aNil)))) (zqa (bBin zqg (bBin zqg (bSl (bVar 1) none (some (bVar 3))) (zqb zwn (zqa (bVar 4) (aNil)))) (bSl (bVar 1) (some (bBin zqg (bVar 3) (bC (.int 1)))) none)) (zqa (bC .non) (zqa (zqb zwn (zqa (bC (.int 1)) (zqa (bC (.int 1)) (aNil)))) (zqa (bSl (bVar 1) none (some (bC (.int 2)))) (aNil))))))))
def LI1:Fb:=(bT (bOrV (bUn zqu (zqc F34 (zqa (bVar 8) (zqa (bVar 6) (zqa (bVar 7) (zqa (bVar 2) (zqa (bC (.int 0)) (aNil)))))))) (bUn zqu (zqc F34 (zqa (bVar 8) (zqa (bVar 6) (zqa (bVar 2) (zqa (bVar 2) (zqa (bC (.int 0)) (aNil))))))))))
def LI2:Fb:=(bT (bOrV (bUn zqu (zqc F34 (zqa (bVar 8) (zqa (bVar 1) (zqa (bVar 7) (zqa (bVar 2) (zqa (bC (.int 1)) (aNil)))))))) (bUn zqu (zqc F34 (zqa (bVar 8) (zqa (bVar 1) (zqa (bVar 7) (zqa (bVar 7) (zqa (bC (.int 1)) (aNil))))))))))
def LI3:Fb:=(bT (zvh (bBin (zxh λ i j=>decide (i < j)) (bVar 8) (bC (.int 5))) (bUn zqu (zqc F34 (zqa (bVar 8) (zqa (bVar 1) (zqa (bVar 2) (zqa (bVar 7) (zqa (bC (.int 1)) (aNil))))))))))
def LI:Fs:=sSeq (sIf LI1 (sRet (bC (.bl false))) sNil) (sSeq (sIf LI2 (sRet (bC (.bl false))) sNil) (sIf LI3 (sRet (bC (.bl false))) sNil))
theorem qpj:b37=sSeq (sSet false 3 (zqd F27 0 (zqa (bC (.int 3)) (aNil))) []) (sSeq (sSet false 4 odX [1,3,1,3]) (sSeq (sSet false 5 zzX [1,1,1,4,1,1]) (sSeq (sSet false 6 (bBin zqe (bVar 5) (zqd F27 0 (zqa (bC (.int 6)) (aNil)))) [5]) (sSeq (zvv (zqd F36 0 (zqa (bVar 1) (zqa (bVar 2) (aNil)))) [1,2] (asgN 7) (zwq zqy (zqa (bC (.int 8)) (aNil)) (asgN 8) LI)) (sRet (bC (.bl true))))))):=rfl
section
variable {a b c:Nat}{t:List (List Int)}
theorem qan (p:Pile a b c t) (ha:1<=a/\a<=6) (hb:1<=b/\b<=6) (hc:1<=c/\c<=6) {x:PV}{B:Int} (hx:Pl B x) (hB:B<=70000):∃ x',Pl (B + 40) x'/\F37 [x,bx a b c,tb t]=.ok (.bl true,om,x'):=by
 have zz:=sz
 have mp:f_must_be_pile [bx a b c,tb t]=.ok (.non,om,.non):=zwx p.tab (by omega) (by omega) (by omega) ((zzi p.tab).mpr p)
 let R (x:PV) (s3 s4 s5 s6 s7 s8:QQ.Slot):Rho:=[some (x,om),some (bx a b c,0),some (tb t,0),s3,s4,s5,s6,s7,s8]
 obtain ⟨k',x1,hk,hx1,e1⟩:=zwf (f:=bC (.int 3)) (r:=(R x none none none none none none).tail) (m:=3) (e:=om) hx (by omega) (by decide) rfl
 obtain ⟨k,rfl⟩:=jd7 hk.1
 have v1:sSet false 3 (zqd F27 0 (zqa (bC (.int 3)) (aNil))) [] (R x none none none none none none)=.nx (R x1 (some (.int (k:Int),om)) none none none none none):=setF e1 (show 3 < 9 by decide) rfl
 let Q1:Rho:=R x1 (some (.int (k:Int),om)) none none none none none
 obtain ⟨s,hs,iB⟩:∃ s:Nat,(1<=s/\s<=6)/\bBin zqe (bVar 1) (bVar 3) Q1=.ok (.int (s:Int),om,Q1):=by
  have:k=0\/k=1\/k=2:=by omega
  rcases this with rfl | rfl | rfl
  ·exact ⟨a,ha,rfl⟩
  ·exact ⟨b,hb,rfl⟩
  ·exact ⟨c,hc,rfl⟩
 obtain ⟨m0,x2,hm,hx2,e2⟩:=zwf (f:=bC (.int 6)) (r:=Q1.tail) (m:=6) (e:=om) hx1 (by omega) (by decide) rfl
 obtain ⟨m,rfl⟩:=jd7 hm.1
 have hm6:m < (O6 (s:Int) (toString (s:Int))).length:=by show m < 6;omega
 have st:=zqx (op:=qc4) (z:=.str (toString (s:Int):Str)) (c:=om) (zqt iB) (by show (zbn (.int (s:Int))).map _=_;rw [qal (by omega)];rfl)
 obtain ⟨d4,l4⟩:=zfn (zqm (f:=bC (.int 0)) (x:=.int 0) (d:=om) (ρ:=Q1) rfl (zqm (f:=bUn zxq (bC (.int 1))) (x:=.int (-1)) (d:=om) rfl (zqm (f:=bC (.bl true)) (x:=.bl true) (d:=om) rfl (zqm (f:=bC .non) (x:=.non) (d:=om) rfl (zqm st (zqt (zvs (f:=bC (.int 1)) (i:=1) (d:=om) rfl iB))))))) (by show 6<=va2;omega)
 have od:odX Q1=.ok ((O6 (s:Int) (toString (s:Int)))[m],dv (O6 (s:Int) (toString (s:Int)))[m],R x2 (some (.int (k:Int),om)) none none none none none):=zfq l4 e2 hm6
 have hy:=qqg (T:=toString (s:Int)) (show (1:Int)<=(s:Int) by omega) _ (je2 hm6)
 revert od hy
 generalize (O6 (s:Int) (toString (s:Int)))[m]=y
 intro od hy
 rw [hy.1] at od
 have v2:sSet false 4 odX [1,3,1,3] Q1=.nx (R x2 (some (.int (k:Int),om)) (some (y,om)) none none none none):=setF od (show 4 < 9 by decide) rfl
 have v3:∃ d3,sSet false 5 zzX [1,1,1,4,1,1] (R x2 (some (.int (k:Int),om)) (some (y,om)) none none none none)=.nx (R x2 (some (.int (k:Int),d3)) (some (y,0)) (some (.lst (Z6 a b c k y),1)) none none none):=by
  have:k=0\/k=1\/k=2:=by omega
  rcases this with rfl | rfl | rfl
  ·exact ⟨om,by kernel_rfl⟩
  ·exact ⟨om,by kernel_rfl⟩
  ·exact ⟨om,by kernel_rfl⟩
 obtain ⟨d3,v3⟩:=v3
 let Q3 (x:PV) (d5:Nat) (s6 s7 s8:QQ.Slot):Rho:=R x (some (.int (k:Int),d3)) (some (y,0)) (some (.lst (Z6 a b c k y),d5)) s6 s7 s8
 obtain ⟨n0,x3,hn0,hx3,e3⟩:=zwf (f:=bC (.int 6)) (r:=(Q3 x2 1 none none none).tail) (m:=6) (e:=om) hx2 (by omega) (by decide) rfl
 obtain ⟨n,rfl⟩:=jd7 hn0.1
 have hn:n < (Z6 a b c k y).length:=by show n < 6;omega
 have c4:=zfq (f:=bVar 5) (ρ:=Q3 x2 1 none none none) (xs:=Z6 a b c k y) (d:=0) rfl e3 hn
 have hno:=qqe (a:=a) (b:=b) (c:=c) (k:=k) hy.2.1 hy.2.2 _ (je2 hn)
 revert c4 hno
 generalize (Z6 a b c k y)[n]=nb
 intro c4 hno
 obtain ⟨d5,v4⟩:∃ d5,sSet false 6 (bBin zqe (bVar 5) (zqd F27 0 (zqa (bC (.int 6)) (aNil)))) [5] (Q3 x2 1 none none none)=.nx (Q3 x3 d5 (some (nb,dv nb)) none none):=by
  by_cases hd:dv nb=om
  ·refine ⟨1,setF c4 (show 6 < 9 by decide) ?_⟩
   unfold zqk
   rw [if_pos hd]
   rfl
  ·refine ⟨0,setF c4 (show 6 < 9 by decide) ?_⟩
   unfold zqk
   rw [if_neg hd]
   rfl
 obtain ⟨zs,dz,x4,lz,hz,hx4,e5⟩:=qk5 (c:=c) p.tab (by omega) (by omega) (by omega) hx3 (by omega)
 let W (x:PV) (s7 s8:QQ.Slot):Rho:=Q3 x d5 (some (nb,dv nb)) s7 s8
 have c5:zqd F36 0 (zqa (bVar 1) (zqa (bVar 2) (aNil))) (W x3 none none)=.ok (.lst zs,dz,W x4 none none):=zwa (p:=(x3,om)) (x0:=x3) (d0:=om) (xs:=[(bx a b c,0),(tb t,0)]) (ρ1:=W x3 none none) rfl rfl rfl e5 rfl
 have cl:zqk dz [1,2] (W x4 none none)=W x4 none none:=by
  unfold zqk
  split <;> rfl
 have body:∀ z∈zs,∀ s8:QQ.Slot,∃ u8,zwq zqy (zqa (bC (.int 8)) (aNil)) (asgN 8) LI (W x4 (some (z,dv z)) s8)=.nx (W x4 (some (z,dv z)) u8):=λ z hzm s8=>by
  obtain ⟨hz1,hz2⟩:=hz z hzm
  obtain ⟨ρ',e,u8,rfl⟩:=zvn (i:=8) (body:=LI) (en:=zqy) (fa:=zqa (bC (.int 8)) (aNil)) (ρ:=W x4 (some (z,dv z)) s8) (ρ1:=W x4 (some (z,dv z)) s8) (as:=[(.int 8,om)]) (lo:=0) (hi:=8) (λ _ ρ=>∃ s8,ρ=W x4 (some (z,dv z)) s8) rfl rfl ⟨_,rfl⟩ (by
   rintro w ρ hw ⟨s8,rfl⟩
   have hw8:w < 8:=by omega
   let V:Rho:=W x4 (some (z,dv z)) (some (.int (w:Int),om))
   have cal:∀ {i1 i2 i3:Nat}{y1 y2 y3:PV}{du:Int},bVar i1 V=.ok (y1,dv y1,V)->bVar i2 V=.ok (y2,dv y2,V)->bVar i3 V=.ok (y3,dv y3,V)->F34 [.int (w:Int),y1,y2,y3,.int du]=.ok (.bl true,om,.non)->bUn zqu (zqc F34 (zqa (bVar 8) (zqa (bVar i1) (zqa (bVar i2) (zqa (bVar i3) (zqa (bC (.int du)) (aNil))))))) V=.ok (.bl false,om,V):=λ h1 h2 h3 hF=>zzj (zqj (F:=F34) (zqm (f:=bVar 8) (x:=.int (w:Int)) (d:=om) rfl (zqm h1 (zqm h2 (zqm h3 (zqt (x:=.int _) (d:=om) rfl))))) hF)
   have b0:bVar 1 V=.ok (bx a b c,0,V):=rfl
   have b2:bVar 2 V=.ok (tb t,0,V):=rfl
   have b6:bVar 6 V=.ok (nb,dv nb,V):=rfl
   have b7:bVar 7 V=.ok (z,dv z,V):=rfl
   have nbp:∀ q,f_must_be_pile [nb,q]=.exc 1:=λ q=>qau hno
   have npz:=qat hz2
   have t1:LI1 V=.ok (false,V):=by
    refine t_ok (d:=om) ?_
    rw [orF (cal b6 b7 b2 (qek hw8 (λ _=>zjz (nbp _)) (λ _=>nbp _) rfl qjc))]
    exact cal b6 b2 b2 (qek hw8 (λ _=>zjz (nbp _)) (λ _=>nbp _) rfl qjc)
   have t2:LI2 V=.ok (false,V):=by
    refine t_ok (d:=om) ?_
    rw [orF (cal b0 b7 b2 (qek hw8 (λ _=>zjz npz) (λ _=>npz) rfl qfh))]
    exact cal b0 b7 b7 (qek hw8 (λ _=>zjz npz) (λ _=>npz) rfl qfh)
   have t3:LI3 V=.ok (false,V):=by
    refine t_ok (d:=om) ?_
    have c1:=zpo (p:=λ i j=>decide (i < j)) (f:=bVar 8) (g:=bC (.int 5)) (ρ:=V) (ρ1:=V) (ρ2:=V) (i:=(w:Int)) (j:=5) (d:=om) (e:=om) rfl rfl
    by_cases h5:w < 5
    ·exact (zjp (b:=false) c1 (λ _=>cal b0 b2 b7 (qek hw8 (λ _=>qgw mp npz) (λ h=>absurd h (by omega)) rfl qfh)) rfl).trans (by rw [jg4])
    ·have hf:decide ((w:Int) < 5)=false:=decide_eq_false (by omega)
     exact (zjp (b:=false) c1 (λ h=>by rw [hf] at h;cases h) rfl).trans (by rw [jg4])
   refine ⟨show 8 < 9 by decide,_,?_,some (.int (w:Int),om),rfl⟩
   rw [ji7]
   exact (zwd t1).trans ((zwd t2).trans ((if_f t3).trans rfl)))
  exact ⟨u8,e⟩
 rcases zpa (asg:=asgN 7) (body:=zwq zqy (zqa (bC (.int 8)) (aNil)) (asgN 8) LI) (λ _=>true) (λ ρ=>∃ s7 s8,ρ=W x4 s7 s8) zs (W x4 none none) ⟨_,_,rfl⟩ (by
  rintro z hzm _ ⟨s7,s8,rfl⟩
  obtain ⟨u8,e⟩:=body z hzm s8
  exact ⟨W x4 (some (z,dv z)) s8,rfl,.inl ⟨rfl,_,e,_,_,rfl⟩⟩) with ⟨_,ρ',e,u7,u8,rfl⟩ | ⟨h,_⟩
 ·refine ⟨x4,hx4.mono (by omega),zvo (c:=om) rfl (qpj ▸ (zqi v1).trans ((zqi v2).trans ((zqi v3).trans ((zqi v4).trans ((zqi (zfr c5 cl e)).trans rfl))))) rfl⟩
 ·rw [jc4.mpr λ _ _=>rfl] at h
  cases h
end
def LT1:Fb:=(bT (bOrV (bUn zqu (zqc F32 (zqa (bVar 3) (zqa (bVar 4) (zqa (bVar 5) (aNil)))))) (bUn zqu (zqc F33 (zqa (bVar 3) (zqa (bVar 4) (zqa (bVar 5) (zqa (bVar 6) (aNil)))))))))
def LT2:Fb:=(bT (bUn zqu (zqd F37 2 (zqa (bVar 3) (zqa (bVar 4) (aNil))))))
def LK:Fs:=sSeq (sSet true 2 (zqc F26 (zqa (bVar 0) (zqa (bVar 1) (aNil)))) [0,1]) (sSeq (sSet false 3 (zqd F28 2 (zqa (bC (.int 6)) (aNil))) []) (sSeq (sSet false 4 (zqd F29 2 (zqa (bVar 3) (aNil))) [3]) (sSeq (sSet false 5 (zqd F31 2 (zqa (bVar 3) (zqa (bVar 4) (aNil)))) [3,4]) (sSeq (sSet false 6 (zqd F31 2 (zqa (bVar 3) (zqa (bVar 5) (aNil)))) [3,5]) (sSeq (sIf LT1 (sRet (bC (.bl false))) sNil) (sIf LT2 (sRet (bC (.bl false))) sNil))))))
theorem ql8:b38=sSeq (zwq zqy (zqa (zqb zkx (zqa (bC (.int 1)) (zqa (zqb zzd (zqa (bC (.int 6)) (zqa (zqb zwe (zqa (bVar 0) (aNil))) (aNil)))) (aNil)))) (aNil)) (asgN 1) LK) (sRet (bC (.bl true))):=rfl
section
variable {ns:List Int}{k:Nat}
theorem qqi (hk:k<=1000) {s2 s3 s4 s5 s6:QQ.Slot}:∃ t2 t3 t4 t5 t6,LK [some (.scr ns,om),some (.int (k:Int),om),s2,s3,s4,s5,s6]=.nx [some (.scr ns,om),some (.int (k:Int),om),t2,t3,t4,t5,t6]:=by
 have z:=sz
 obtain ⟨x0,hx0,e0⟩:=qkr ns k hk
 obtain ⟨a,b,c,x1,ha,hb,hc,hx1,e1⟩:=qmc (most:=6) hx0 (by omega) (by omega)
 have ha':1<=a/\a<=6:=by omega
 have hb':1<=b/\b<=6:=by omega
 have hc':1<=c/\c<=6:=by omega
 obtain ⟨t,d4,x2,p,hd4,hx2,e2⟩:=qcq (a:=a) (b:=b) (c:=c) hx1 (by omega) (by omega) (by omega) (by omega)
 obtain ⟨u,d5,x3,q,hd5,hx3,e3⟩:=qe5 p (by omega) (by omega) (by omega) hx2 (by omega)
 obtain ⟨v,d6,x4,r,hd6,hx4,e4⟩:=qe5 q (by omega) (by omega) (by omega) hx3 (by omega)
 obtain ⟨x5,hx5,e5⟩:=qan p ha' hb' hc' hx4 (by omega)
 let S (s2 s3 s4 s5 s6:QQ.Slot):Rho:=[some (.scr ns,om),some (.int (k:Int),om),s2,s3,s4,s5,s6]
 have v1:sSet true 2 (zqc F26 (zqa (bVar 0) (zqa (bVar 1) (aNil)))) [0,1] (S s2 s3 s4 s5 s6)=.nx (S (some (x0,om)) s3 s4 s5 s6):=setT (zqj (xs:=[(.scr ns,om),(.int (k:Int),om)]) rfl e0) (show 2 < 7 by decide) rfl
 have v2:sSet false 3 (zqd F28 2 (zqa (bC (.int 6)) (aNil))) [] (S (some (x0,om)) s3 s4 s5 s6)=.nx (S (some (x1,om)) (some (bx a b c,0)) s4 s5 s6):=setF (zwa (p:=(x0,om)) (x0:=x0) (d0:=om) (xs:=[(.int 6,om)]) (ρ1:=S (some (x0,om)) s3 s4 s5 s6) rfl rfl rfl e1 rfl) (show 3 < 7 by decide) (by kernel_rfl)
 have v3:sSet false 4 (zqd F29 2 (zqa (bVar 3) (aNil))) [3] (S (some (x1,om)) (some (bx a b c,0)) s4 s5 s6)=.nx (S (some (x2,om)) (some (bx a b c,0)) (some (tb t,d4)) s5 s6):=by
  refine setF (ρ1:=S (some (x2,om)) (some (bx a b c,0)) s4 s5 s6) (zwa (p:=(x1,om)) (x0:=x1) (d0:=om) (xs:=[(bx a b c,0)]) (ρ1:=S (some (x1,om)) (some (bx a b c,0)) s4 s5 s6) rfl rfl rfl e2 rfl) (show 4 < 7 by decide) ?_
  have cl:zqk d4 [3] (S (some (x2,om)) (some (bx a b c,0)) s4 s5 s6)=S (some (x2,om)) (some (bx a b c,0)) s4 s5 s6:=by
   unfold zqk
   split <;> rfl
  rw [cl]
  rfl
 obtain ⟨d4',v4⟩:∃ d4',sSet false 5 (zqd F31 2 (zqa (bVar 3) (zqa (bVar 4) (aNil)))) [3,4] (S (some (x2,om)) (some (bx a b c,0)) (some (tb t,d4)) s5 s6)=.nx (S (some (x3,om)) (some (bx a b c,0)) (some (tb t,d4')) (some (tb u,d5)) s6):=by
  have cl:∃ d4',zqk d5 [3,4] (S (some (x3,om)) (some (bx a b c,0)) (some (tb t,d4)) s5 s6)=S (some (x3,om)) (some (bx a b c,0)) (some (tb t,d4')) s5 s6:=by
   unfold zqk
   split
   ·exact ⟨d4,rfl⟩
   ·exact ⟨0,rfl⟩
  obtain ⟨d4',cl⟩:=cl
  refine ⟨d4',setF (ρ1:=S (some (x3,om)) (some (bx a b c,0)) (some (tb t,d4)) s5 s6) (zwa (p:=(x2,om)) (x0:=x2) (d0:=om) (xs:=[(bx a b c,0),(tb t,0)]) (ρ1:=S (some (x2,om)) (some (bx a b c,0)) (some (tb t,d4)) s5 s6) rfl rfl rfl e3 rfl) (show 5 < 7 by decide) ?_⟩
  rw [cl]
  rfl
 obtain ⟨d5',v5⟩:∃ d5',sSet false 6 (zqd F31 2 (zqa (bVar 3) (zqa (bVar 5) (aNil)))) [3,5] (S (some (x3,om)) (some (bx a b c,0)) (some (tb t,d4')) (some (tb u,d5)) s6)=.nx (S (some (x4,om)) (some (bx a b c,0)) (some (tb t,d4')) (some (tb u,d5')) (some (tb v,d6))):=by
  have cl:∃ d5',zqk d6 [3,5] (S (some (x4,om)) (some (bx a b c,0)) (some (tb t,d4')) (some (tb u,d5)) s6)=S (some (x4,om)) (some (bx a b c,0)) (some (tb t,d4')) (some (tb u,d5')) s6:=by
   unfold zqk
   split
   ·exact ⟨d5,rfl⟩
   ·exact ⟨0,rfl⟩
  obtain ⟨d5',cl⟩:=cl
  refine ⟨d5',setF (ρ1:=S (some (x4,om)) (some (bx a b c,0)) (some (tb t,d4')) (some (tb u,d5)) s6) (zwa (p:=(x3,om)) (x0:=x3) (d0:=om) (xs:=[(bx a b c,0),(tb u,0)]) (ρ1:=S (some (x3,om)) (some (bx a b c,0)) (some (tb t,d4')) (some (tb u,d5)) s6) rfl rfl rfl e4 rfl) (show 6 < 7 by decide) ?_⟩
  rw [cl]
  rfl
 let Q (x:PV):Rho:=S (some (x,om)) (some (bx a b c,0)) (some (tb t,d4')) (some (tb u,d5')) (some (tb v,d6))
 have t6:LT1 (Q x4)=.ok (false,Q x4):=by
  refine t_ok (d:=om) ?_
  rw [orF (zzj (zqj (F:=F32) (ρ:=Q x4) (xs:=[(bx a b c,0),(tb t,0),(tb u,0)]) rfl (qdk p q (by omega) (by omega) (by omega))))]
  exact zzj (zqj (xs:=[(bx a b c,0),(tb t,0),(tb u,0),(tb v,0)]) rfl (qag p q r (by omega) (by omega) (by omega)))
 have t7:LT2 (Q x4)=.ok (false,Q x5):=t_ok (zzj (zwa (p:=(x4,om)) (x0:=x4) (d0:=om) (xs:=[(bx a b c,0),(tb t,0)]) (ρ1:=Q x4) rfl rfl rfl e5 rfl))
 exact ⟨_,_,_,_,_,(zqi v1).trans ((zqi v2).trans ((zqi v3).trans ((zqi v4).trans ((zqi v5).trans ((zwd t6).trans ((if_f t7).trans rfl))))))⟩
end
theorem law_true:∀ ns:List Int,ns.length<=63->∃ d z,F38 [.scr ns]=.ok (.bl true,d,z):=by
 intro ns hns
 let R (s1 s2 s3 s4 s5 s6:QQ.Slot):Rho:=[some (.scr ns,om),s1,s2,s3,s4,s5,s6]
 have hF:F38=mkFn false 1 6 b38:=rfl
 rw [hF,ql8]
 let R0:Rho:=R none none none none none none
 have hm:∃ m:Nat,m<=6/\(zqa (zqb zkx (zqa (bC (.int 1)) (zqa (zqb zzd (zqa (bC (.int 6)) (zqa (zqb zwe (zqa (bVar 0) (aNil))) (aNil)))) (aNil)))) (aNil)) R0=.ok ([(.int (m:Int),om)],R0):=by
  refine ⟨(if (if (ns.length:Int) < 6 then (ns.length:Int) else 6) > 1 then (if (ns.length:Int) < 6 then (ns.length:Int) else 6) else 1).toNat,?_,?_⟩
  ·split <;> split <;> omega
  ·have e:((((if (if (ns.length:Int) < 6 then (ns.length:Int) else 6) > 1 then (if (ns.length:Int) < 6 then (ns.length:Int) else 6) else 1).toNat:Nat)):Int)=(if (if (ns.length:Int) < 6 then (ns.length:Int) else 6) > 1 then (if (ns.length:Int) < 6 then (ns.length:Int) else 6) else 1):=by
    split <;> split <;> omega
   rw [e]
   rfl
 obtain ⟨m,hm6,em⟩:=hm
 obtain ⟨ρ1,l1,r1,r2,r3,r4,r5,r6,rfl⟩:=zvn (i:=1) (body:=LK) (en:=zqy) (ρ:=R0) (lo:=0) (hi:=(m:Int)) (λ _ ρ=>∃ s1 s2 s3 s4 s5 s6,ρ=R s1 s2 s3 s4 s5 s6) em (zxw (by omega) (by omega)) ⟨_,_,_,_,_,_,rfl⟩ (by
  rintro k ρ hk ⟨s1,s2,s3,s4,s5,s6,rfl⟩
  obtain ⟨t2,t3,t4,t5,t6,e⟩:=qqi (ns:=ns) (k:=k) (by omega) (s2:=s2) (s3:=s3) (s4:=s4) (s5:=s5) (s6:=s6)
  refine ⟨show 1 < 7 by decide,_,?_,some (.int (k:Int),om),t2,t3,t4,t5,t6,rfl⟩
  rw [ji7]
  exact e)
 exact ⟨_,_,zwr rfl ((zqi l1).trans rfl)⟩
section
variable {P:va8}{w:vb6}{K:Frag}{mg:Str->Option va0}
theorem c0:FnScope S0.N ["thing"] (zqh t0):={}
theorem c1:FnScope S1.N ["thing"] (zqh t1):={}
theorem c2:FnScope S2.N ["box"] (zqh t2):={}
theorem c3:FnScope S3.N ["thing","columns","height"] (zqh t3):={}
theorem c4:FnScope S4.N ["numbers"] (zqh t4):={}
theorem c5:FnScope S5.N ["table","j"] (zqh t5):={}
theorem c6:FnScope S6.N ["box","thing"] (zqh t6):={}
theorem c7:FnScope S7.N ["box","pile"] (zqh t7):={}
theorem c8:FnScope S8.N ["box","pile"] (zqh t8):={}
theorem c9:FnScope S9.N ["box","pile"] (zqh t9):={}
theorem c10:FnScope S10.N ["box","pile","other"] (zqh t10):={}
theorem c11:FnScope S11.N ["box"] (zqh t11):={}
theorem c12:FnScope S12.N ["box","i","j"] (zqh t12):={}
theorem c13:FnScope S13.N ["pile"] (zqh t13):={}
theorem c14:FnScope S14.N ["pile","step"] (zqh t14):={}
theorem c15:FnScope S15.N ["box","pile","sign"] (zqh t15):={}
theorem c16:FnScope S16.N ["box","pile"] (zqh t16):={}
theorem c17:FnScope S17.N ["box","pile","other"] (zqh t17):={}
theorem c18:FnScope S18.N ["box","thing"] (zqh t18):={}
theorem c19:FnScope S19.N ["box","pile","road"] (zqh t19):={}
theorem c20:FnScope S20.N ["box","pile","lower"] (zqh t20):={}
theorem c21:FnScope S21.N ["box","pile","higher"] (zqh t21):={}
theorem c23:FnScope S23.N ["box","pile","other"] (zqh t23):={}
theorem c22:FnScope S22.N ["box","pile","other"] (zqh t22):={}
theorem c24:FnScope S24.N ["box","pile","other"] (zqh t24):={}
theorem c25:FnScope S25.N ["box","pile","other"] (zqh t25):={}
theorem c26:FnScope S26.N ["script","k"] (zqh t26):={}
theorem c27:FnScope S27.N ["pool","many"] (zqh t27):={}
theorem c28:FnScope S28.N ["pool","most"] (zqh t28):={}
theorem c29:FnScope S29.N ["pool","box"] (zqh t29):={}
theorem c30:FnScope S30.N ["caught","due"] (zqh t30):={}
theorem c31:FnScope S31.N ["pool","box","pile"] (zqh t31):={}
theorem c32:FnScope S32.N ["box","one","other"] (zqh t32):={}
theorem c33:FnScope S33.N ["box","one","other","last"] (zqh t33):={}
theorem c34:FnScope S34.N ["way","box","one","other","due"] (zqh t34):={}
theorem c35:FnScope S35.N ["box","thing"] (zqh t35):={}
theorem c36:FnScope S36.N ["pool","box","pile"] (zqh t36):={}
theorem c37:FnScope S37.N ["pool","box","pile"] (zqh t37):={}
theorem c38:FnScope S38.N ["script"] (zqh t38):={}
theorem all_ok {fa:Addr} (G:Given dfs [0,1,2,3,4,5,6,7,8,9,10,11] K mg) (hm:mg "law" = some (.ref fa)):
  ∃ fd:vc4,(∀ (s:va1) (u:va0),BindsTo s fd ⟨[u],[]⟩ [("script",u)])/\∀ base:Heap,FnOk P w K mg base (CXr P w K) 11 fa fd ["script"] (spF K false 1 F38):=by
 have hb:=G.bn
 have gx:=G.gx
 obtain ⟨a0,d0,m0,f0⟩:=G.df 0 _ _ rfl
 obtain ⟨a1,d1,m1,f1⟩:=G.df 1 _ _ rfl
 obtain ⟨a2,d2,m2,f2⟩:=G.df 2 _ _ rfl
 obtain ⟨a3,d3,m3,f3⟩:=G.df 3 _ _ rfl
 obtain ⟨a4,d4,m4,f4⟩:=G.df 4 _ _ rfl
 obtain ⟨a5,d5,m5,f5⟩:=G.df 5 _ _ rfl
 obtain ⟨a6,d6,m6,f6⟩:=G.df 6 _ _ rfl
 obtain ⟨a7,d7,m7,f7⟩:=G.df 7 _ _ rfl
 obtain ⟨a8,d8,m8,f8⟩:=G.df 8 _ _ rfl
 obtain ⟨a9,d9,m9,f9⟩:=G.df 9 _ _ rfl
 obtain ⟨a10,d10,m10,f10⟩:=G.df 10 _ _ rfl
 obtain ⟨a11,d11,m11,f11⟩:=G.df 11 _ _ rfl
 obtain ⟨a12,d12,m12,f12⟩:=G.df 12 _ _ rfl
 obtain ⟨a13,d13,m13,f13⟩:=G.df 13 _ _ rfl
 obtain ⟨a14,d14,m14,f14⟩:=G.df 14 _ _ rfl
 obtain ⟨a15,d15,m15,f15⟩:=G.df 15 _ _ rfl
 obtain ⟨a16,d16,m16,f16⟩:=G.df 16 _ _ rfl
 obtain ⟨a17,d17,m17,f17⟩:=G.df 17 _ _ rfl
 obtain ⟨a18,d18,m18,f18⟩:=G.df 18 _ _ rfl
 obtain ⟨a19,d19,m19,f19⟩:=G.df 19 _ _ rfl
 obtain ⟨a20,d20,m20,f20⟩:=G.df 20 _ _ rfl
 obtain ⟨a21,d21,m21,f21⟩:=G.df 21 _ _ rfl
 obtain ⟨a22,d22,m22,f22⟩:=G.df 22 _ _ rfl
 obtain ⟨a23,d23,m23,f23⟩:=G.df 23 _ _ rfl
 obtain ⟨a24,d24,m24,f24⟩:=G.df 24 _ _ rfl
 obtain ⟨a25,d25,m25,f25⟩:=G.df 25 _ _ rfl
 obtain ⟨a26,d26,m26,f26⟩:=G.df 26 _ _ rfl
 obtain ⟨a27,d27,m27,f27⟩:=G.df 27 _ _ rfl
 obtain ⟨a28,d28,m28,f28⟩:=G.df 28 _ _ rfl
 obtain ⟨a29,d29,m29,f29⟩:=G.df 29 _ _ rfl
 obtain ⟨a30,d30,m30,f30⟩:=G.df 30 _ _ rfl
 obtain ⟨a31,d31,m31,f31⟩:=G.df 31 _ _ rfl
 obtain ⟨a32,d32,m32,f32⟩:=G.df 32 _ _ rfl
 obtain ⟨a33,d33,m33,f33⟩:=G.df 33 _ _ rfl
 obtain ⟨a34,d34,m34,f34⟩:=G.df 34 _ _ rfl
 obtain ⟨a35,d35,m35,f35⟩:=G.df 35 _ _ rfl
 obtain ⟨a36,d36,m36,f36⟩:=G.df 36 _ _ rfl
 obtain ⟨a37,d37,m37,f37⟩:=G.df 37 _ _ rfl
 obtain ⟨a38,d38,m38,f38⟩:=G.df 38 _ _ rfl
 cases hm.symm.trans m38
 have B0:=f0.binds (ps:=["thing"]) λ _ _ _ _ _ _ us hl=>by obtain ⟨_,rfl⟩:=len1 hl;rfl
 have B1:=f1.binds (ps:=["thing"]) λ _ _ _ _ _ _ us hl=>by obtain ⟨_,rfl⟩:=len1 hl;rfl
 have B2:=f2.binds (ps:=["box"]) λ _ _ _ _ _ _ us hl=>by obtain ⟨_,rfl⟩:=len1 hl;rfl
 have B3:=f3.binds (ps:=["thing","columns","height"]) λ _ _ _ _ _ _ us hl=>by obtain ⟨_,_,_,rfl⟩:=len3 hl;rfl
 have B4:=f4.binds (ps:=["numbers"]) λ _ _ _ _ _ _ us hl=>by obtain ⟨_,rfl⟩:=len1 hl;rfl
 have B5:=f5.binds (ps:=["table","j"]) λ _ _ _ _ _ _ us hl=>by obtain ⟨_,_,rfl⟩:=len2 hl;rfl
 have B6:=f6.binds (ps:=["box","thing"]) λ _ _ _ _ _ _ us hl=>by obtain ⟨_,_,rfl⟩:=len2 hl;rfl
 have B7:=f7.binds (ps:=["box","pile"]) λ _ _ _ _ _ _ us hl=>by obtain ⟨_,_,rfl⟩:=len2 hl;rfl
 have B8:=f8.binds (ps:=["box","pile"]) λ _ _ _ _ _ _ us hl=>by obtain ⟨_,_,rfl⟩:=len2 hl;rfl
 have B9:=f9.binds (ps:=["box","pile"]) λ _ _ _ _ _ _ us hl=>by obtain ⟨_,_,rfl⟩:=len2 hl;rfl
 have B10:=f10.binds (ps:=["box","pile","other"]) λ _ _ _ _ _ _ us hl=>by obtain ⟨_,_,_,rfl⟩:=len3 hl;rfl
 have B11:=f11.binds (ps:=["box"]) λ _ _ _ _ _ _ us hl=>by obtain ⟨_,rfl⟩:=len1 hl;rfl
 have B12:=f12.binds (ps:=["box","i","j"]) λ _ _ _ _ _ _ us hl=>by obtain ⟨_,_,_,rfl⟩:=len3 hl;rfl
 have B13:=f13.binds (ps:=["pile"]) λ _ _ _ _ _ _ us hl=>by obtain ⟨_,rfl⟩:=len1 hl;rfl
 have B14:=f14.binds (ps:=["pile","step"]) λ _ _ _ _ _ _ us hl=>by obtain ⟨_,_,rfl⟩:=len2 hl;rfl
 have B15:=f15.binds (ps:=["box","pile","sign"]) λ _ _ _ _ _ _ us hl=>by obtain ⟨_,_,_,rfl⟩:=len3 hl;rfl
 have B16:=f16.binds (ps:=["box","pile"]) λ _ _ _ _ _ _ us hl=>by obtain ⟨_,_,rfl⟩:=len2 hl;rfl
 have B17:=f17.binds (ps:=["box","pile","other"]) λ _ _ _ _ _ _ us hl=>by obtain ⟨_,_,_,rfl⟩:=len3 hl;rfl
 have B18:=f18.binds (ps:=["box","thing"]) λ _ _ _ _ _ _ us hl=>by obtain ⟨_,_,rfl⟩:=len2 hl;rfl
 have B19:=f19.binds (ps:=["box","pile","road"]) λ _ _ _ _ _ _ us hl=>by obtain ⟨_,_,_,rfl⟩:=len3 hl;rfl
 have B20:=f20.binds (ps:=["box","pile","lower"]) λ _ _ _ _ _ _ us hl=>by obtain ⟨_,_,_,rfl⟩:=len3 hl;rfl
 have B21:=f21.binds (ps:=["box","pile","higher"]) λ _ _ _ _ _ _ us hl=>by obtain ⟨_,_,_,rfl⟩:=len3 hl;rfl
 have B23:=f23.binds (ps:=["box","pile","other"]) λ _ _ _ _ _ _ us hl=>by obtain ⟨_,_,_,rfl⟩:=len3 hl;rfl
 have B22:=f22.binds (ps:=["box","pile","other"]) λ _ _ _ _ _ _ us hl=>by obtain ⟨_,_,_,rfl⟩:=len3 hl;rfl
 have B24:=f24.binds (ps:=["box","pile","other"]) λ _ _ _ _ _ _ us hl=>by obtain ⟨_,_,_,rfl⟩:=len3 hl;rfl
 have B25:=f25.binds (ps:=["box","pile","other"]) λ _ _ _ _ _ _ us hl=>by obtain ⟨_,_,_,rfl⟩:=len3 hl;rfl
 have B26:=f26.binds (ps:=["script","k"]) λ _ _ _ _ _ _ us hl=>by obtain ⟨_,_,rfl⟩:=len2 hl;rfl
 have B27:=f27.binds (ps:=["pool","many"]) λ _ _ _ _ _ _ us hl=>by obtain ⟨_,_,rfl⟩:=len2 hl;rfl
 have B28:=f28.binds (ps:=["pool","most"]) λ _ _ _ _ _ _ us hl=>by obtain ⟨_,_,rfl⟩:=len2 hl;rfl
 have B29:=f29.binds (ps:=["pool","box"]) λ _ _ _ _ _ _ us hl=>by obtain ⟨_,_,rfl⟩:=len2 hl;rfl
 have B30:=f30.binds (ps:=["caught","due"]) λ _ _ _ _ _ _ us hl=>by obtain ⟨_,_,rfl⟩:=len2 hl;rfl
 have B31:=f31.binds (ps:=["pool","box","pile"]) λ _ _ _ _ _ _ us hl=>by obtain ⟨_,_,_,rfl⟩:=len3 hl;rfl
 have B32:=f32.binds (ps:=["box","one","other"]) λ _ _ _ _ _ _ us hl=>by obtain ⟨_,_,_,rfl⟩:=len3 hl;rfl
 have B33:=f33.binds (ps:=["box","one","other","last"]) λ _ _ _ _ _ _ us hl=>by obtain ⟨_,_,_,_,rfl⟩:=len4 hl;rfl
 have B34:=f34.binds (ps:=["way","box","one","other","due"]) λ _ _ _ _ _ _ us hl=>by obtain ⟨_,_,_,_,_,rfl⟩:=len5 hl;rfl
 have B35:=f35.binds (ps:=["box","thing"]) λ _ _ _ _ _ _ us hl=>by obtain ⟨_,_,rfl⟩:=len2 hl;rfl
 have B36:=f36.binds (ps:=["pool","box","pile"]) λ _ _ _ _ _ _ us hl=>by obtain ⟨_,_,_,rfl⟩:=len3 hl;rfl
 have B37:=f37.binds (ps:=["pool","box","pile"]) λ _ _ _ _ _ _ us hl=>by obtain ⟨_,_,_,rfl⟩:=len3 hl;rfl
 refine ⟨d38,?_,λ base=>?_⟩
 ·obtain ⟨_,_,_,_,_,_,_,_,_,rfl,_,_⟩:=f38.ex
  exact λ s v=>.of_eq rfl
 have o0:FnOk P w K mg base (CXr P w K) 1 a0 d0 ["thing"] (spF K false 1 F0):=fnb S0 f0 c0 gx (gs_nil hb) h0
 have o1:FnOk P w K mg base (CXr P w K) 2 a1 d1 ["thing"] (spF K false 1 F1):=fnb S1 f1 c1 gx (gcs (gs_nil hb) m0 f0 B0 o0) h1
 have o2:FnOk P w K mg base (CXr P w K) 3 a2 d2 ["box"] (spF K false 1 F2):=fnb S2 f2 c2 gx (gcs (gs_nil hb) m1 f1 B1 o1) h2
 have o3:FnOk P w K mg base (CXr P w K) 2 a3 d3 ["thing","columns","height"] (spF K false 3 F3):=fnb S3 f3 c3 gx (gcs (gs_nil hb) m0 f0 B0 o0) h3
 have o4:FnOk P w K mg base (CXr P w K) 1 a4 d4 ["numbers"] (spF K false 1 F4):=fnb S4 f4 c4 gx (gs_nil hb) h4
 have o5:FnOk P w K mg base (CXr P w K) 1 a5 d5 ["table","j"] (spF K false 2 F5):=fnb S5 f5 c5 gx (gs_nil hb) h5
 have o6:FnOk P w K mg base (CXr P w K) 4 a6 d6 ["box","thing"] (spF K false 2 F6):=fnb S6 f6 c6 gx (gcs (gcs (gcs (gcs (gs_nil hb) m5 f5 B5 o5) m4 f4 B4 o4) m3 f3 B3 o3) m2 f2 B2 o2) h6
 have o7:FnOk P w K mg base (CXr P w K) 5 a7 d7 ["box","pile"] (spF K false 2 F7):=fnb S7 f7 c7 gx (gcs (gs_nil hb) m6 f6 B6 o6) h7
 have o8:FnOk P w K mg base (CXr P w K) 6 a8 d8 ["box","pile"] (spF K false 2 F8):=fnb S8 f8 c8 gx (gcs (gs_nil hb) m7 f7 B7 o7) h8
 have o9:FnOk P w K mg base (CXr P w K) 6 a9 d9 ["box","pile"] (spF K false 2 F9):=fnb S9 f9 c9 gx (gcs (gs_nil hb) m7 f7 B7 o7) h9
 have o10:FnOk P w K mg base (CXr P w K) 6 a10 d10 ["box","pile","other"] (spF K false 3 F10):=fnb S10 f10 c10 gx (gcs (gs_nil hb) m7 f7 B7 o7) h10
 have o11:FnOk P w K mg base (CXr P w K) 1 a11 d11 ["box"] (spF K false 1 F11):=fnb S11 f11 c11 gx (gs_nil hb) h11
 have o12:FnOk P w K mg base (CXr P w K) 2 a12 d12 ["box","i","j"] (spF K false 3 F12):=fnb S12 f12 c12 gx (gcs (gs_nil hb) m0 f0 B0 o0) h12
 have o13:FnOk P w K mg base (CXr P w K) 1 a13 d13 ["pile"] (spF K false 1 F13):=fnb S13 f13 c13 gx (gs_nil hb) h13
 have o14:FnOk P w K mg base (CXr P w K) 2 a14 d14 ["pile","step"] (spF K false 2 F14):=fnb S14 f14 c14 gx (gcs (gs_nil hb) m13 f13 B13 o13) h14
 have o15:FnOk P w K mg base (CXr P w K) 5 a15 d15 ["box","pile","sign"] (spF K false 3 F15):=fnb S15 f15 c15 gx (gcs (gcs (gcs (gs_nil hb) m14 f14 B14 o14) m11 f11 B11 o11) m6 f6 B6 o6) h15
 have o16:FnOk P w K mg base (CXr P w K) 6 a16 d16 ["box","pile"] (spF K false 2 F16):=fnb S16 f16 c16 gx (gcs (gcs (gs_nil hb) m15 f15 B15 o15) m7 f7 B7 o7) h16
 have o17:FnOk P w K mg base (CXr P w K) 7 a17 d17 ["box","pile","other"] (spF K false 3 F17):=fnb S17 f17 c17 gx (gcs (gcs (gs_nil hb) m11 f11 B11 o11) m10 f10 B10 o10) h17
 have o18:FnOk P w K mg base (CXr P w K) 3 a18 d18 ["box","thing"] (spF K false 2 F18):=fnb S18 f18 c18 gx (gcs (gcs (gs_nil hb) m12 f12 B12 o12) m0 f0 B0 o0) h18
 have o19:FnOk P w K mg base (CXr P w K) 6 a19 d19 ["box","pile","road"] (spF K false 3 F19):=fnb S19 f19 c19 gx (gcs (gcs (gcs (gcs (gcs (gs_nil hb) m18 f18 B18 o18) m14 f14 B14 o14) m13 f13 B13 o13) m7 f7 B7 o7) m6 f6 B6 o6) h19
 have o20:FnOk P w K mg base (CXr P w K) 2 a20 d20 ["box","pile","lower"] (spF K false 3 F20):=fnb S20 f20 c20 gx (gcs (gs_nil hb) m11 f11 B11 o11) h20
 have o21:FnOk P w K mg base (CXr P w K) 2 a21 d21 ["box","pile","higher"] (spF K false 3 F21):=fnb S21 f21 c21 gx (gcs (gs_nil hb) m11 f11 B11 o11) h21
 have o23:FnOk P w K mg base (CXr P w K) 7 a23 d23 ["box","pile","other"] (spF K false 3 F23):=fnb S23 f23 c23 gx (gcs (gs_nil hb) m10 f10 B10 o10) h23
 have o22:FnOk P w K mg base (CXr P w K) 8 a22 d22 ["box","pile","other"] (spF K false 3 F22):=fnb S22 f22 c22 gx (gcs (gcs (gcs (gs_nil hb) m23 f23 B23 o23) m21 f21 B21 o21) m20 f20 B20 o20) h22
 have o24:FnOk P w K mg base (CXr P w K) 7 a24 d24 ["box","pile","other"] (spF K false 3 F24):=fnb S24 f24 c24 gx (gcs (gs_nil hb) m10 f10 B10 o10) h24
 have o25:FnOk P w K mg base (CXr P w K) 7 a25 d25 ["box","pile","other"] (spF K false 3 F25):=fnb S25 f25 c25 gx (gcs (gcs (gs_nil hb) m11 f11 B11 o11) m10 f10 B10 o10) h25
 have o26:FnOk P w K mg base (CXr P w K) 1 a26 d26 ["script","k"] (spF K false 2 F26):=fnb S26 f26 c26 gx (gs_nil hb) h26
 have o27:FnOk P w K mg base (CXr P w K) 1 a27 d27 ["pool","many"] (spF K true 2 F27):=fnb S27 f27 c27 gx (gs_nil hb) h27
 have o28:FnOk P w K mg base (CXr P w K) 2 a28 d28 ["pool","most"] (spF K true 2 F28):=fnb S28 f28 c28 gx (gcs (gs_nil hb) m27 f27 B27 o27) h28
 have o29:FnOk P w K mg base (CXr P w K) 2 a29 d29 ["pool","box"] (spF K true 2 F29):=fnb S29 f29 c29 gx (gcs (gs_nil hb) m27 f27 B27 o27) h29
 have o30:FnOk P w K mg base (CXr P w K) 1 a30 d30 ["caught","due"] (spF K false 2 F30):=fnb S30 f30 c30 gx (gs_nil hb) h30
 have o31:FnOk P w K mg base (CXr P w K) 3 a31 d31 ["pool","box","pile"] (spF K true 3 F31):=fnb S31 f31 c31 gx (gcs (gcs (gs_nil hb) m29 f29 B29 o29) m27 f27 B27 o27) h31
 have o32:FnOk P w K mg base (CXr P w K) 8 a32 d32 ["box","one","other"] (spF K false 3 F32):=fnb S32 f32 c32 gx (gcs (gcs (gcs (gcs (gcs (gcs (gcs (gs_nil hb) m25 f25 B25 o25) m24 f24 B24 o24) m23 f23 B23 o23) m17 f17 B17 o17) m9 f9 B9 o9) m8 f8 B8 o8) m6 f6 B6 o6) h32
 have o33:FnOk P w K mg base (CXr P w K) 8 a33 d33 ["box","one","other","last"] (spF K false 4 F33):=fnb S33 f33 c33 gx (gcs (gcs (gcs (gs_nil hb) m25 f25 B25 o25) m24 f24 B24 o24) m23 f23 B23 o23) h33
 have o34:FnOk P w K mg base (CXr P w K) 9 a34 d34 ["way","box","one","other","due"] (spF K false 5 F34):=fnb S34 f34 c34 gx (gcs (gcs (gcs (gcs (gcs (gcs (gcs (gcs (gs_nil hb) m30 f30 B30 o30) m25 f25 B25 o25) m24 f24 B24 o24) m23 f23 B23 o23) m22 f22 B22 o22) m19 f19 B19 o19) m17 f17 B17 o17) m16 f16 B16 o16) h34
 have o35:FnOk P w K mg base (CXr P w K) 1 a35 d35 ["box","thing"] (spF K false 2 F35):=fnb S35 f35 c35 gx (gs_nil hb) h35
 have o36:FnOk P w K mg base (CXr P w K) 2 a36 d36 ["pool","box","pile"] (spF K true 3 F36):=fnb S36 f36 c36 gx (gcs (gcs (gs_nil hb) m35 f35 B35 o35) m27 f27 B27 o27) h36
 have o37:FnOk P w K mg base (CXr P w K) 10 a37 d37 ["pool","box","pile"] (spF K true 3 F37):=fnb S37 f37 c37 gx (gcs (gcs (gcs (gs_nil hb) m36 f36 B36 o36) m34 f34 B34 o34) m27 f27 B27 o27) h37
 exact fnb S38 f38 c38 gx (gs_cons (gs_cons (gs_cons (gs_cons (gs_cons (gs_cons (gs_cons (gs_nil hb) (by decide +kernel) zzv m37 f37 B37 rfl (o37.mono (by decide))) (by decide +kernel) zzv m33 f33 B33 rfl (o33.mono (by decide))) (by decide +kernel) zzv m32 f32 B32 rfl (o32.mono (by decide))) (by decide +kernel) zzv m31 f31 B31 rfl (o31.mono (by decide))) (by decide +kernel) zzv m29 f29 B29 rfl (o29.mono (by decide))) (by decide +kernel) zzv m28 f28 B28 rfl (o28.mono (by decide))) (by decide +kernel) zzv m26 f26 B26 rfl (o26.mono (by decide))) h38
end
end K26
open PySem PySem.W PyProof.Rows
set_option maxRecDepth 100000 in
set_option maxHeartbeats 0 in
theorem PySem.Challenge.cw_cornerpiles_k26_whole_below_and_above_holds : PySem.Challenge.rw_cornerpiles_k26_whole_below_and_above.Holds := by
 refine QQ.holds_by (l:=PySem.Challenge.rw_cornerpiles_k26_whole_below_and_above) (q:=K26.view) (loose:=K26.loose) (N:=20000) (k:=11) (n:=63) (ds:=K26.dfs) (xc:=[0,1,2,3,4,5,6,7,8,9,10,11]) (F:=K26.F38) (x := "script") ?said rfl rfl (λ _=>rfl) K26.run (by rfl) (by rfl) (by rfl) (by rfl) (by decide +kernel) ⟨rfl,rfl,rfl,rfl,rfl,by decide +kernel⟩ ?hw rfl (by decide) rfl ⟨rfl,by decide,by decide,rfl⟩ (λ _ _ _ _ G hm=>K26.all_ok G hm) (λ _ _ _ ns hl hO hS=>QQ.sp_yes hO hS (K26.law_true ns hl))
 case said=>decide +kernel
 case hw=>w_witness2
