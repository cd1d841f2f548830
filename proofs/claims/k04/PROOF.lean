import PyProof.Rows.All
import Wide.All
import OpenK.AllK
import Wide.FinOn
import Lean
import PyProof.EqAt
import PyProof.EqKinds
import PyProof.TupleCall
import PySem.Challenge.RW_cornerpiles_k04_piles_of_cubes
open PySem renaming wpAny_bind->va0,Value->va2,Shared->va3,sizeLine->va4,wpAny_pure->va5,starEach->va9,Program->vb0,wpAny->vb1,model->vb3,compareOp->vb4,wpAny_newObj_type->vb5,World->vb8,Around->vc0,wpAny_callSpecial?_slot->vc3,cellsFrom->vc5,wpAny_truthy_bool->vc6,wpAny_field->vc7,mainGlobals->vc8,FuncData->vc9,wpAny_call_entry->vd1,assignEach->vd2,NameKind->vd5,wpAny_seqItems->vd7,intItems->vd8,wpAny_mono->vd9,Scope->ve2,wpAny_typeNameOfWhole_keyiter->ve3,sysModules->ve4,wpAny_setField_rec->ve8,wpAny_passesOwn->vf0,IsPair->vf3,mem_of_lookup->vf6,wpAny_typeNameOf_keyiter->vf7,wpAny_pyIter_tuple->vf9,binaryOp->vg0,wpAny_loadPart_at->vg2,bootBuiltins->vg4,backTo->vg5,numAt->vg7,wpAny_holding->vg8,behindInMarks->vg9,wpAny_execs_nil->vh0,sliceBounds->vh1,wpAny_Call_Name_kw->vh5,foldedSetIterable->vi2,cLine->vi3,DictEntry->vi7,intItems_at->vi9,PyData->vj1,wpAny_isOneOf_keyiter->vj3,seqIndex?->vj4,letOwnedTupleGo->vj5,wpAny_updateSeq_pair->vj7,wpAny_setField->vj9,wpAny_fieldsOf->vk0,rawInt->vk1,firstArgMember->vk2,IsZip->vk6,Builtin->vk7,wpAny_onRaise->vk8,wpAny_attempt->vk9,tupleKind_room_in1->vl0,tupleKind->vl1,pyNext->vl2,PassesOwn->vl5,ExceptHandler->vl6,wpAny_dictEntries->vl7,relabel->vl8,codeAny->vl9,codeAny_mono->vm5,wpAny_isInstance->vm9,noFill_tuple_add->vn0,CmpOp->vn2,wpAny_updateSeq->vn5,wpAny_letGo->vn6,wpAny_dictEpoch->vn7,pushCells_keeps->vn8,importedModules->vn9,callerA->vo1,assign->vo2,Paired->vo5,newFunctionEnv->vp0
open PySem.Heap renaming get?_push_of_some->va1,lt_size->va6,get?_push_size->va7,size_push->vc2,get?_update_self->vd6,get?_update_other->ve7,SameBut->vh9,FlyingW->vm7
open PySem.W renaming Frag->va8,findIn->vb6,kia_one->vb9,kitOne->vc1,mroIn->vd4,boot_heap->ve0,keepIn->ve5,fnOf->vh6,looks_findIn->vj8,kitAny->vk3,hideAll_get->vk5,methodObj->vm0,kitx_none->vm1,boot_heap->vm2,instObj->vo3,lookIn->vp1,codeIn->vp2
open Ne renaming symm->vb2
open PySem.Builtin.SmallTypes renaming nextOf->vb7,ownedTupleIsFree->vd0,ownedTupleHandOut->vk4
open Prod.mk renaming injEq->vc4,inj->vo4
open False renaming elim->vd3
open PySem.PyData renaming eqv->ve1,depthAll->vf2,canLay0->vg3,depth->vh7,eqvAll->vl4,canLayAll0->vm4
open PySem.Obj renaming mapSeq->ve6,data_mapFields->vh8
open PySem.F renaming slot_dict_keyiterator_next->ve9,slot_tuple_iterator_next->vf4,plainAttrs_list->vg1,type_list_append->vi4,slot_list_append->vi5,args_tuple_add_2->vi6,entry_tuple_add->vj0,slot_tuple_add->vj2,slot_zip_next->vj6,args_dict_keyiterator_next_1->vm8,entry_dict_keyiterator_next->vn1,args_tuple_iterator_next_1->vn3,entry_tuple_iterator_next->vo6
open PyProof.Rows renaming callWith_type1->vf1,AllBare->vi1,slot_tuple_getitem->vm3,envOfC->vo0
open PySem.Builtin.Slice renaming slicePlaces->vf5,sliceAdjust->vi0,sliceApplied->vo9
open PySem.Builtin.Tuple renaming tupleExact->vf8
open PySem.Str renaming ofString->vg6
open PySem.SeqAt.EqAt renaming same->vh2,of_refs->vl3
open PySem.Heap.SameBut renaming update->vh3
open PySem.Builtin.List renaming listExtendWith->vh4,listTooLong->vi8
open PySem.SeqAt renaming RcNeAt->vm6
open PySem.Builtin.Dict_items renaming ownsTuple->vn4
open PySem.Builtin.Builtins renaming bindParams->vo7
open PySem.Calls renaming Name_function_global->vo8
open List renaming getElem?_set_ne->ja0,mem_cons_of_mem->ja1,mem_append_right->ja2,mem_cons_self->ja3,length_map->ja4,replicate->ja5,getD_eq_getElem?_getD->ja6,getElem?_eq_some_iff->ja7,length_append->ja8,mem_append_left->ja9,getElem?_set_self->jb1,length_cons->jb2,mem_cons->jb3,mem_singleton->jb6,getElem?_eq_getElem->jb9,length_set->jc0,size_toArray->jc1,map_cons->jc2,getElem?_append_left->jc3,mem_append->jc4,getElem?_map->jc6,all_eq_true->jc7,length_singleton->jc8,getElem?_append_right->jc9,range->jd0,length_take->jd1,getElem?_replicate->jd2,lookup_cons->jd4,length_replicate->jd5,mem_map->jd6,map_map->jd7,append_nil->jd9,getElem?_cons_succ->je1,all_cons->je2,drop_eq_getElem_cons->je4,getElem?_eq_none->je7,map_append->je8,length_drop->je9,replicate_succ->jf1,length_range->jf3,mem_range->jf4,getElem?_take_of_lt->jf5,set_cons_zero->jf6,mem_filter->jf7,drop_eq_nil_of_le->jf8,not_mem_nil->jf9,getElem_mem->jg0,map_nil->jg3,set_cons_succ->jg4,flatten_cons->jg8,find?_cons->jh3,set_append_right->jh4,append_assoc->jh5,getElem?_eq_none_iff->jh7,filterMap_cons->jh9,getElem_of_mem->ji0,map_congr_left->ji1,nil_append->ji2,findIdx?_eq_some_iff_getElem->ji3,length_eq_zero_iff->ji5,take_of_length_le->ji8,reverse_cons->ji9,take_zero->jj0,set_set->jj1,cons_append->jj2,take_length->jj5,take_append_of_le_length->jj6,nodup_cons->jj8,forIn_cons->jj9,range'->jk0,getElem?_range->jk1,filter_eq_self->jk2,getElem?_concat_length->jk3,mem_filterMap->jk6,findIdx?_cons->jk8,take_succ->jl3,mem_or_eq_of_mem_set->jl4,any_cons->jl6,filter_cons->jl9,of_mem_zip->jm0,set_nil->jm1,mem_of_getElem?->jm2,mem_of_mem_take->jm4,take_succ_cons->jm6,replicate_zero->jm7,flatMap_append->jm9,length_reverse->jn0,map_drop->jn3,ext_getElem?->jn6,mem_range'_1->jn7,all_nil->jn9,flatten_nil->jo2,zipIdx_cons->jo3,range'_succ->jo4,ext_getElem->jo5,zipIdx_nil->jo7,range_succ->jo8,map_const'->jo9,nodup_nil->jp0,forIn_nil->jp1,foldl->jp5,drop_nil->jp7,take_nil->jp8,getD->jq1,map_set->jq2
open Bool renaming and_eq_true->jb0,false_ne_true->jb8,or_eq_true->je0,false_eq_true->jg5,eq_iff_iff->jg6,not_eq_true'->jg9,and_true->jj7,false_and->jl1,and_eq_true_iff->jm3,false_xor->jm5,true_and->jn5,and_false->jp4,false_or->jp6,true_xor->jp9
open Nat renaming le_refl->jb4,lt_of_lt_of_le->jb5,ne_of_lt->jc5,le_trans->jd3,lt_irrefl->jd8,lt_succ_self->je5,le_of_succ_le->jf2,ne_of_gt->jg1,zero_add->jh0,zero_le->jh1,lt_of_succ_lt_succ->jh2,lt_succ_of_lt->jh6,mul_le_mul->jh8,succ_ne_zero->jj3,le_add_right->jj4,le_of_lt->jk5,succ_mul->jk7,min_le_right->jl7,succ_le_succ->jl8,lt_trans->jn8,sub_self->jo0,min_le_left->jo6,le_succ->jq3,not_lt->jq5
open Option renaming map_eq_some_iff->jb7,map_some->je3,isSome_iff_exists->jg7,isSome_map->jl5,isSome_some->jn2,getD_none->jo1,map->jq4
open Int renaming toNat_natCast->je6,emod_lt_of_pos->ji4,natCast_nonneg->ji6,emod_nonneg->jk4,zero_add->jk9,lt_of_le_of_lt->jl0,le_refl->jm8,ofNat_inj->jn4,mul_nonneg->jp2,mul_le_mul->jp3
open Array renaming length_toList->jf0,getElem?_toList->jg2,getElem?_eq_none->ji7,getElem?_eq_getElem->jl2,append_assoc->jn1,toList->jq0
set_option Elab.async false
set_option linter.all false
set_option maxRecDepth 100000
set_option autoImplicit false
set_option maxHeartbeats 2000000
namespace L2
open PySem PySem.Spec PyProof.Rows
def zba (s:Stmt):Arguments:=match s with
 | .FunctionDef _ a _ _ _ _ _ _ _ _=>a
 | _=>{ posonlyargs:=[],args:=[],vararg:=none,kwonlyargs:=[],kw_defaults:=[],kwarg:=none,defaults:=[] }
def zqo (s:Stmt):List Stmt:=match s with
 | .FunctionDef _ _ b _ _ _ _ _ _ _=>b
 | _=>[]
def zqe (s:Stmt):ve2:=match s with
 | .FunctionDef _ _ _ _ _ _ sc _ _ _=>sc
 | _=>{ kind:=.function,names:=[],isGenerator:=false,isCoroutine:=false }
end L2
namespace QQ
open PySem PySem.Spec PySem.W PySem.Calls PyProof.Rows L2
abbrev Frag:=va8
def XN:List Str:=["PileError","NoBox","NoPile","NoStairs","NoWays","NoRoad","NoNumber","NoPlace","TooMany","NoText","NoName","NoRow"]
def zwf (K:Frag) (c:Nat):Option Addr:=match XN[c]? with
 | some x=>(match PySem.W.nsIn K vc8 x with
  | some (some (.ref C))=>some C
  | _=>none)
 | none=>none
def bmV:List va2:=[.type "ValueError",.type "Exception",.type "BaseException",.type "object"]
def mroX (K:Frag) (C:Addr):List va2:=match K.lookup C with
 | some ⟨_,_,.cls cd,_⟩=>cd.mro
 | _=>[]
def isX (c d:Nat):Bool:=c == d || d == 0
def xTab (K:Frag):Bool:=(jd0 12).all λ c=>match zwf K c with
 | some C=>PySem.W.excIn K C bmV "ValueError.__new__" && (jd0 12).all λ d=>(match zwf K d with
  | some D=>(mroX K C).contains (.ref D) == isX c d
  | none=>true)
 | none=>true
def zyk (K:Frag) (C:Addr):Bool:=(PySem.W.clsIn K C).isSome && vd4 K C (.type "object") == some true && vd4 K C (.type "BaseException") == some true && vb6 K (.ref C) "__class__" == some (some (.builtin "object.__class__")) &&
 vb6 K (.ref C) "__getattribute__" == some (some (.builtin "BaseException.__getattribute__")) && vb6 K (.ref C) "__getattr__" == some none
def xKit (K:Frag):Bool:=vc1 K (.type "NoneType") (.type "ValueError") == some false && (jd0 12).all λ c=>match zwf K c with
 | some C=>zyk K C && vc1 K (.type "NoneType") (.ref C) == some false && vc1 K (.ref C) (.type "ValueError") == some true && (jd0 12).all λ d=>(match zwf K d with
  | some D=>vc1 K (.ref C) (.ref D) == some (isX c d)
  | none=>true)
 | none=>true
def zvc:List Str:=["len","isinstance","all","max","min","tuple","list","range","int","bool","str","dict","sum","enumerate","zip","reversed","set","ValueError","sorted","abs"]
def zkw (tb:String->Option vk7) (p:vb0) (w:vb8) (n₀:Nat) (ann:Option va2):Nat->SharedT->Thread->Option SharedT
 | 0,_,_=>none
 | n + 1,s,t=>match through t with
  | true=>some s
  | false=>match stepOk n₀ ann t with
   | false=>none
   | true=>match stepT (denote tb) p w s t with
    | some (s',t')=>zkw tb p w n₀ ann n s' t'
    | none=>none
def ofL:List Obj->Nat->BT->BT
 | [],_,t=>t
 | o::r,n,t=>ofL r (n + 1) (t.ins n o)
noncomputable def bootT (P:Params):BT:=ofL (ve0 P).objs.toList 0 .nil
noncomputable def bootS (P:Params) (os:OsState):SharedT:=⟨bootT P,(ve0 P).objs.size,(ve0 P).life,#[],boot_drawn,boot_toks,os⟩
def zho {α:Type} (p q:vb0) (loose:List Str) (Xt:va3->Bool) (Yf:va3->α) (H:Heap) (s:va3):=
 ((staticsOk (vn9 p.main.body) H s.heap && namesBound p s.heap && gensDone s && laidKept H s.heap),openSeen q loose (vn9 p.main.body) Xt true s,Yf s)
def kof (h:Heap):Frag:=(jd0 h.objs.size).filterMap λ a=>(h.get? a).map λ o=>(a,o)
structure DefSeen where
 name:Str
 qual:Str
 params:Arguments
 body:FuncBody
 scope:ve2
 globals:Addr
 closure:List (Str×Addr)
 defaults:va2
 builtins:Addr
 code:Bool
def zhs (K:Frag) (x:Str):Option DefSeen:=match nsIn K vc8 x with
 | some (some (.ref g))=>(match K.lookup g with
  | some ⟨_,_,.func fd,_⟩=>some ⟨fd.name,fd.qualname,fd.params,fd.body,fd.scope,fd.globals,fd.closure,fd.defaults,fd.builtins,codeIn K fd.code x⟩
  | _=>none)
 | _=>none
def qez (x:Str) (st:Stmt):DefSeen:=⟨x,x,zba st,.stmts (zqo st),zqe st,mainNs,[],.none,0,true⟩
def zjx (ds:List (Str×Stmt)) (xc:List Nat) (K:Frag):List (Option DefSeen)×List (Option (Option va2))×Bool:=
 (ds.map λ d=>zhs K d.1,zvc.map λ x=>nsIn K vc8 x,xc.isEmpty || (xTab K && xKit K && xc.all λ c=>(zwf K c).isSome && match XN[c]? with
  | some x=>!(x == ("__debug__" : Str))
  | none=>false))
def zga (ds:List (Str×Stmt)):List (Option DefSeen)×List (Option (Option va2))×Bool:=(ds.map λ d=>some (qez d.1 d.2),zvc.map λ _=>some none,true)
end QQ
namespace K04
open PySem PySem.Spec PyProof.Rows L2 QQ
def top (i:Nat):Stmt:=PySem.Challenge.pw_cornerpiles_k04_piles_of_cubes.main.body.getD i (.Pass ⟨0,0,0,0⟩)
abbrev t0:Stmt:=top 14
abbrev t1:Stmt:=top 15
abbrev t2:Stmt:=top 16
abbrev t3:Stmt:=top 17
abbrev t4:Stmt:=top 18
abbrev t5:Stmt:=top 19
abbrev t6:Stmt:=top 20
abbrev t7:Stmt:=top 22
abbrev t8:Stmt:=top 23
abbrev t9:Stmt:=top 24
abbrev t10:Stmt:=top 25
abbrev t11:Stmt:=top 26
abbrev t12:Stmt:=top 27
abbrev t13:Stmt:=top 28
abbrev t14:Stmt:=top 29
abbrev t15:Stmt:=top 30
abbrev t16:Stmt:=top 31
abbrev t17:Stmt:=top 32
abbrev t18:Stmt:=top 33
def dfs:List (Str×Stmt):=[(("is_whole_number" : Str),t0),(("is_box" : Str),t1),(("must_be_box" : Str),t2),(("is_cube_in" : Str),t3),(("cubes_needed_by" : Str),t4),(("must_be_cubes_of_a_pile" : Str),t5),(("pile_of_cubes" : Str),t6),(("_law_pool" : Str),t7),(("_law_take" : Str),t8),(("_law_box" : Str),t9),(("_law_pile" : Str),t10),(("_law_copied" : Str),t11),(("_law_just" : Str),t12),(("_law_own" : Str),t13),(("_law_is" : Str),t14),(("_law_cubes" : Str),t15),(("_law_due" : Str),t16),(("_law_right" : Str),t17),(("law" : Str),t18)]
def view:vb0:={ PySem.Challenge.pw_cornerpiles_k04_piles_of_cubes with main:={ PySem.Challenge.pw_cornerpiles_k04_piles_of_cubes.main with body:=[t18] } }
def loose:List Str:=(PySem.Challenge.pw_cornerpiles_k04_piles_of_cubes.main.scope.names.map λ x=>x.1).filter λ x=>!(x == ("law" : Str))
theorem run:∀ (w:PySem.World) (os:PySem.OsState),(zkw PySem.treeTable PySem.Challenge.rw_cornerpiles_k04_piles_of_cubes.prog w (vm2 w.params).objs.size ((vm2 w.params).nsMap vc8 "__annotations__") 20000 (bootS w.params os) (PySem.W.topStub PySem.Challenge.rw_cornerpiles_k04_piles_of_cubes.prog)).map (λ s=>zho PySem.Challenge.rw_cornerpiles_k04_piles_of_cubes.prog view loose (λ s=>PySem.W.xlAt view [] s && PySem.W.recOk (PySem.W.RowW.records PySem.Challenge.rw_cornerpiles_k04_piles_of_cubes.row.toRowW) s) (λ s=>zjx dfs [0,1,2,3,4,5,6,7,8,9,10,11] (kof s.heap)) (vm2 w.params) s.abs)=some (true,PySem.W.openGood view loose,zga dfs):=λ w os=>by kernel_rfl
end K04
namespace L2
open PySem PySem.Spec PyProof.Rows
abbrev Key:=Sum Int Str
def qb0:Key->va2->Bool
 | .inl k,v=>Value.isInt k v
 | .inr x,v=>Value.isStrOf x v
def keyH (w:vb8):Key->Int
 | .inl k=>hashInt k
 | .inr x=>hashStr w x
theorem zxc:∀ {k:Key}{v:va2},qb0 k v=true->(∃ i t,k=Sum.inl i/\v=Value.int i t)\/(∃ x t,k=Sum.inr x/\v=Value.str x t)
 | .inl i,v,h=>by
  obtain ⟨t,e⟩:=Value.isInt_shape (k:=i) (v:=v) h
  exact .inl ⟨i,t,rfl,e⟩
 | .inr x,v,h=>by
  obtain ⟨t,e⟩:=Value.isStrOf_shape (x:=x) (v:=v) h
  exact .inr ⟨x,t,rfl,e⟩
theorem qed (i:Int) (t:Tok):qb0 (.inl i) (.int i t)=true:=by simp [qb0,Value.isInt]
theorem qec (x:Str) (t:Tok):qb0 (.inr x) (.str x t)=true:=by simp [qb0,Value.isStrOf]
theorem qnt (a b:Int):decide ((Sum.inl a:Key)=Sum.inl b)=(a == b):=by
 by_cases e:a=b
 ·subst e;simp
 ·have h:¬ (Sum.inl a:Key)=Sum.inl b:=λ q=>e (Sum.inl.inj q)
  rw [decide_eq_false h]
  exact (beq_eq_false_iff_ne.mpr e).symm
theorem qnq (a b:Str):decide ((Sum.inr a:Key)=Sum.inr b)=decide (a=b):=by
 by_cases e:a=b
 ·subst e;simp
 ·have h:¬ (Sum.inr a:Key)=Sum.inr b:=λ q=>e (Sum.inr.inj q)
  rw [decide_eq_false h,decide_eq_false e]
theorem qns (a:Int) (b:Str):decide ((Sum.inl a:Key)=Sum.inr b)=false:=decide_eq_false (λ q=>nomatch q)
theorem qnr (a:Str) (b:Int):decide ((Sum.inr a:Key)=Sum.inl b)=false:=decide_eq_false (λ q=>nomatch q)
def zxe (prog:vb0) (w:vb8):PySem.KeyKind prog w Key where
 is:=qb0
 hash:=keyH w
 inj:=λ v a b ha hb=>by
  rcases zxc ha with ⟨i,t,rfl,rfl⟩ | ⟨x,t,rfl,rfl⟩
  ·rcases zxc hb with ⟨j,u,rfl,e⟩ | ⟨y,u,rfl,e⟩
   ·injection e with e1 _;rw [e1]
   ·exact nomatch e
  ·rcases zxc hb with ⟨j,u,rfl,e⟩ | ⟨y,u,rfl,e⟩
   ·exact nomatch e
   ·injection e with e1 _;rw [e1]
 byValue:=λ k v h=>by
  rcases zxc h with ⟨i,t,rfl,rfl⟩ | ⟨x,t,rfl,rfl⟩ <;> rfl
 pyHash:=λ hv h=>by
  rcases zxc hv with ⟨i,t,rfl,rfl⟩ | ⟨x,t,rfl,rfl⟩
  ·exact wpAny_pyHash_int h
  ·exact wpAny_pyHash_str h
 eqBool:=λ hu hv h=>by
  rcases zxc hu with ⟨i,t,rfl,rfl⟩ | ⟨x,t,rfl,rfl⟩
  ·rcases zxc hv with ⟨j,u,rfl,rfl⟩ | ⟨y,u,rfl,rfl⟩
   ·rw [qnt] at h;exact wpAny_eqBool_int h
   ·rw [qns] at h;exact SeqAt.EqAt.int_str i t y u _ _ _ _ h
  ·rcases zxc hv with ⟨j,u,rfl,rfl⟩ | ⟨y,u,rfl,rfl⟩
   ·rw [qnr] at h;exact SeqAt.EqAt.str_int x t j u _ _ _ _ h
   ·rw [qnq] at h;exact wpAny_eqBool_str h
 «strs»:=λ k x t v h=>by
  rcases zxc h with ⟨i,u,rfl,e⟩ | ⟨y,u,rfl,e⟩
  ·exact nomatch e
  ·injection e with e1 _
   subst e1
   cases v <;> rfl
theorem zhh (prog:vb0) (w:vb8) (i:Int) (t:Tok):(zxe prog w).is (.inl i) (.int i t)=true:=qed i t
theorem zhg (prog:vb0) (w:vb8) (x:Str) (t:Tok):(zxe prog w).is (.inr x) (.str x t)=true:=qec x t
inductive V where
 | non | bl (b:Bool) | int (i:Int) | str (x:Str) | byt (b:Array UInt8) | flt (b:UInt64) | ref (a:Addr) | ty (n:String)
 deriving DecidableEq
def RelV:V->va2->Prop
 | .non,u=>u=Value.none
 | .bl b,u=>u=Value.bool b
 | .int i,u=>∃ t,u=Value.int i t
 | .str x,u=>∃ t,u=Value.str x t
 | .byt b,u=>∃ t,u=Value.bytes b t
 | .flt b,u=>∃ t,u=Value.float b t
 | .ref a,u=>u=Value.ref a
 | .ty n,u=>u=Value.type n
abbrev Vals:List V->List va2->Prop:=vo5 RelV
theorem Vals.length {xs:List V}{us:List va2} (r:Vals xs us):xs.length=us.length:=Paired.length r
theorem Vals.get:∀ {xs:List V}{us:List va2}{i:Nat}{x:V},Vals xs us->xs[i]?=some x->∃ u,us[i]?=some u/\RelV x u
 | _,_,_,_,.nil,e=>by simp at e
 | _,_,0,_,.cons r _,e=>by simp at e;subst e;exact ⟨_,rfl,r⟩
 | _,_,i + 1,x,.cons _ t,e=>by
  obtain ⟨u,h1,h2⟩:=Vals.get (i:=i) (x:=x) t (by simpa using e)
  exact ⟨u,by simpa using h1,h2⟩
theorem Vals.set {x:V}{u:va2} (r:RelV x u):∀ {xs:List V}{us:List va2} (i:Nat),Vals xs us->Vals (xs.set i x) (us.set i u)
 | _,_,_,.nil=>.nil
 | _,_,0,.cons _ t=>.cons r t
 | _,_,i + 1,.cons q t=>.cons q (Vals.set r i t)
theorem Vals.append:∀ {xs ys:List V}{us ws:List va2},Vals xs us->Vals ys ws->Vals (xs++ys) (us++ws)
 | _,_,_,_,.nil,s=>s
 | _,_,_,_,.cons r t,s=>.cons r (Vals.append t s)
theorem Vals.take:∀ {xs:List V}{us:List va2} (n:Nat),Vals xs us->Vals (xs.take n) (us.take n)
 | _,_,0,_=>.nil
 | _,_,_ + 1,.nil=>.nil
 | _,_,n + 1,.cons r t=>.cons r (Vals.take n t)
theorem Vals.drop:∀ {xs:List V}{us:List va2} (n:Nat),Vals xs us->Vals (xs.drop n) (us.drop n)
 | _,_,0,r=>r
 | _,_,_ + 1,.nil=>.nil
 | _,_,n + 1,.cons _ t=>Vals.drop n t
def RelO:Option V->Option va2->Prop
 | some v,some u=>RelV v u
 | none,none=>True
 | _,_=>False
def KV {κ:Type}:List (κ×V)->List (κ×va2)->Prop:=vo5 λ (p:κ×V) (q:κ×va2)=>p.1=q.1/\RelV p.2 q.2
def kV:Key->V
 | .inl i=>.int i
 | .inr x=>.str x
inductive HO where
 | lst (xs:List V)
 | tup (xs:List V)
 | dK (kvs:List (Key×V)) | dT (kvs:List (List Key×V))
 | set (S:Int->Bool) (n:Nat)
 | ins (C dx:Addr) (fs:List (Str×V))
 | own (x:Addr)
 | xd (fs:List (Str×V))
 | met (f x:Addr)
 | rng (lo hi:Int)
 | frz (o:Obj) (u:HO)
 | tbl (ps:Array va2)
 | ext (φ:Heap->Prop)
abbrev Hp:=Addr->Option HO
def upd (H:Hp) (a:Addr) (o:HO):Hp:=λ b=>if b=a then some o else H b
theorem zqi {H:Hp}{a:Addr}{o:HO}:upd H a o a=some o:=by unfold upd;rw [if_pos rfl]
theorem zqg {H:Hp}{a b:Addr}{o:HO} (h:b≠a):upd H a o b=H b:=by unfold upd;rw [if_neg h]
theorem qpa {H:Hp}{a b:Addr}{o u:HO} (h:H a=some o) (h':H b=some u) (d:o≠u):a≠b:=by
 intro e;subst e;rw [h] at h';exact d (Option.some.inj h')
theorem zwu {H:Hp}{a b:Addr}{o:HO} (h:H a=some o) (h':H b=none):a≠b:=by
 intro e;subst e;rw [h] at h';cases h'
section
variable (P:vb0) (w:vb8)
def zxu (H:Hp) (h:Heap) (a:Addr):HO->Prop
 | .lst xs=>xs.length<=va4/\∃ (its:List va2) (n:Nat),Vals xs its/\h.get? a=some { cls:=.type "list",data:=.seq its.toArray n }
 | .tup xs=>xs.length<=va4/\∃ its:List va2,Vals xs its/\IsTup h a its.toArray
 | .dK kvs=>kvs.length<=va4/\(a == ve4)=false/\∃ vs,KV kvs vs/\h.DictOf (zxe P w) a vs
 | .dT kvs=>kvs.length<=va4/\(a == ve4)=false/\∃ xs:List (List Key×Addr×va2),
   vo5 (λ (p:List Key×V) (q:List Key×Addr×va2)=>p.1=q.1/\H q.2.1=some (.tup (p.1.map kV))/\RelV p.2 q.2.2) kvs xs /\
   ∃ o es ep,h.get? a=some o/\o.ExactDict/\o.data=.dict es ep/\es.toList=xs.map (entryOfKey (vl1 (zxe P w)))/\(xs.map (·.1)).Nodup
 | .set S n=>h.SetOf (intKind P w) a S n
 | .ins C dx fs=>H dx=some (.own a)/\fs.length<=1000/\dx≠a/\h.get? a=some (vo3 C dx) /\
   ∃ mA,h.Ns1 dx mA/\(∀ f,RelO (fs.lookup f) (mA f))/\PySem.Within mA (fs.map (·.1))
 | .own _=>∃ o,h.get? a=some o
 | .xd fs=>∃ mA,h.Ns1 a mA/\∀ f,RelO (fs.lookup f) (mA f)
 | .rng lo hi=>∃ t u v,h.get? a=some { cls:=.type "range",data:=.fields #[.int lo t,.int hi u,.int 1 v] }
 | .frz o u=>h.get? a=some o/\zxu H h a u
 | .tbl ps=>h.get? a=some { cls:=.none,data:=.fields ps }
 | .met f x=>h.get? a=some (vm0 (.ref f) (.ref x))
 | .ext φ=>φ h/\(∃ o,h.get? a=some o)/\∀ h1 h2:Heap,φ h1->(∀ o,h1.get? a=some o->h2.get? a=some o)->φ h2
def HOk (H:Hp) (h:Heap):Prop:=∀ a o,H a=some o->zxu P w H h a o
end
section
variable {P:vb0}{w:vb8}{H H':Hp}{h h':Heap}{a:Addr}{o:HO}
theorem zxu.lt (x:zxu P w H h a o):a < h.objs.size:=by
 cases o with
 | lst xs=>obtain ⟨_,_,_,_,e⟩:=x;exact va6 e
 | tup xs=>obtain ⟨_,_,_,p⟩:=x;exact p.lt
 | dK kvs=>obtain ⟨_,_,_,_,o,_,_,e,_⟩:=x;exact va6 e
 | dT kvs=>obtain ⟨_,_,_,_,o,_,_,e,_⟩:=x;exact va6 e
 | set S n=>obtain ⟨o,_,_,_,e,_⟩:=x;exact va6 e
 | ins C dx fs=>obtain ⟨_,_,_,e,_⟩:=x;exact va6 e
 | own y=>obtain ⟨_,e⟩:=x;exact va6 e
 | xd fs=>obtain ⟨_,⟨_,_,_,e,_⟩,_⟩:=x;exact va6 e
 | rng lo hi=>obtain ⟨_,_,_,e⟩:=x;exact va6 e
 | frz ob u=>obtain ⟨e,_⟩:=x;exact va6 e
 | tbl ps=>exact va6 (show h.get? a=some _ from x)
 | met f y=>exact va6 (show h.get? a=some _ from x)
 | ext φ=>obtain ⟨_,⟨_,e⟩,_⟩:=x;exact va6 e
theorem Paired.mapP {α β:Type}{F G:α->β->Prop}:∀ {l₁:List α}{l₂:List β},vo5 F l₁ l₂->(∀ a b,F a b->G a b)->vo5 G l₁ l₂
 | _,_,.nil,_=>.nil
 | _,_,.cons r t,f=>.cons (f _ _ r) (Paired.mapP t f)
theorem zxu.stay (x:zxu P w H h a o) (k:∀ b u,(b=a\/H b=some (.own a))->h.get? b=some u->h'.get? b=some u)
  (ho:∀ b,H b=some (.own a)->H' b=some (.own a)) (ht:∀ b xs,H b=some (.tup xs)->H' b=some (.tup xs)):zxu P w H' h' a o:=by
 induction o with
 | lst xs=>obtain ⟨z,its,n,r,e⟩:=x;exact ⟨z,its,n,r,k _ _ (.inl rfl) e⟩
 | tup xs=>obtain ⟨z,its,r,ob,e,c⟩:=x;exact ⟨z,its,r,ob,k _ _ (.inl rfl) e,c⟩
 | dK kvs=>obtain ⟨z,y,vs,r,ob,es,ep,e,c⟩:=x;exact ⟨z,y,vs,r,ob,es,ep,k _ _ (.inl rfl) e,c⟩
 | dT kvs=>
  obtain ⟨z,y,xs,r,ob,es,ep,e,c⟩:=x
  exact ⟨z,y,xs,Paired.mapP r λ p q z=>⟨z.1,ht _ _ z.2.1,z.2.2⟩,ob,es,ep,k _ _ (.inl rfl) e,c⟩
 | set S n=>obtain ⟨ob,es,ep,t,e,c⟩:=x;exact ⟨ob,es,ep,t,k _ _ (.inl rfl) e,c⟩
 | ins C dx fs=>
  obtain ⟨d,z,ne,e,mA,⟨od,es,ep,e2,c⟩,r⟩:=x
  exact ⟨ho _ d,z,ne,k _ _ (.inl rfl) e,mA,⟨od,es,ep,k _ _ (.inr d) e2,c⟩,r⟩
 | own y=>obtain ⟨ob,e⟩:=x;exact ⟨ob,k _ _ (.inl rfl) e⟩
 | xd fs=>obtain ⟨mA,⟨od,es,ep,e,c⟩,r⟩:=x;exact ⟨mA,⟨od,es,ep,k _ _ (.inl rfl) e,c⟩,r⟩
 | rng lo hi=>obtain ⟨t,u,v,e⟩:=x;exact ⟨t,u,v,k _ _ (.inl rfl) e⟩
 | frz ob u ih=>obtain ⟨e,q⟩:=x;exact ⟨k _ _ (.inl rfl) e,ih q⟩
 | tbl ps=>
  have e:h.get? a=some { cls:=.none,data:=.fields ps }:=x
  show h'.get? a=some { cls:=.none,data:=.fields ps }
  exact k a _ (.inl rfl) e
 | met f y=>
  have e:h.get? a=some (vm0 (.ref f) (.ref y)):=x
  show h'.get? a=some (vm0 (.ref f) (.ref y))
  exact k a _ (.inl rfl) e
 | ext φ=>obtain ⟨p,⟨o,e⟩,st⟩:=x;exact ⟨st _ _ p λ o q=>k _ _ (.inl rfl) q,⟨o,k _ _ (.inl rfl) e⟩,st⟩
theorem HOk.lt (x:HOk P w H h) (e:H a=some o):a < h.objs.size:=(x a o e).lt
theorem HOk.fresh (x:HOk P w H h) (e:h.objs.size<=a):H a=none:=by
 cases q:H a with
 | none=>rfl
 | some u=>exact absurd (jb5 (x.lt q) e) (jd8 _)
theorem HOk.kept (x:HOk P w H h) (k:∀ b u,h.get? b=some u->h'.get? b=some u):HOk P w H h':=λ a o e=>
 (x a o e).stay (λ b u _ q=>k b u q) (λ _ q=>q) λ _ _ q=>q
theorem HOk.laid (x:HOk P w H h) (k:∀ b u,h.get? b=some u->h'.get? b=some u) (hp:h.objs.size<=a) (new:zxu P w (upd H a o) h' a o):HOk P w (upd H a o) h':=λ b u e=>by
 have hn:=x.fresh hp
 by_cases hb:b=a
 ·subst hb;rw [zqi] at e;cases e;exact new
 ·rw [zqg hb] at e
  exact (x b u e).stay (λ c v _ q=>k c v q) (λ c q=>by rw [zqg (zwu q hn)];exact q) λ c xs q=>by rw [zqg (zwu q hn)];exact q
end
def Rd (H:Hp) (a:Addr) (u:HO):Prop:=H a=some u\/∃ o,H a=some (.frz o u)
theorem Rd.ok {P:vb0}{w:vb8}{H:Hp}{h:Heap}{a:Addr}{u:HO} (r:Rd H a u) (x:HOk P w H h):zxu P w H h a u:=by
 rcases r with r | ⟨o,r⟩
 ·exact x a u r
 ·obtain ⟨_,q⟩:=x a _ r
  exact q
def Mut:Option HO->Prop
 | some (.lst _)=>True
 | some (.dK _)=>True
 | some (.dT _)=>True
 | some (.set _ _)=>True
 | some (.ins _ _ _)=>True
 | some (.ext _)=>True
 | _=>False
section
variable {P:vb0}{w:vb8}{H:Hp}{h h':Heap}{x e:Addr}{o':HO}
theorem HOk.write (ok:HOk P w H h) (mu:Mut (H x)) (he:e=x\/H e=some (.own x)) (k:∀ b u,b≠e->h.get? b=some u->h'.get? b=some u) (heo:∃ u,h'.get? e=some u)
  (new:zxu P w (upd H x o') h' x o'):HOk P w (upd H x o') h':=λ b u q=>by
 have nown:∀ c y,H c=some (.own y)->c≠x:=λ c y r z=>by subst z;rw [r] at mu;exact mu
 have ntup:∀ c xs,H c=some (.tup xs)->c≠x:=λ c xs r z=>by subst z;rw [r] at mu;exact mu
 by_cases hb:b=x
 ·subst hb;rw [zqi] at q;cases q;exact new
 ·rw [zqg hb] at q
  by_cases hbe:b=e
  ·have q':H b=some (.own x):=by
    rcases he with z | z
    ·exact absurd (hbe.trans z) hb
    ·rw [hbe];exact z
   rw [q] at q';cases q'
   obtain ⟨v,hv⟩:=heo
   exact ⟨v,by rw [hbe];exact hv⟩
  ·refine (ok b u q).stay (λ c v hc r=>k c v ?_ r) (λ c r=>by rw [zqg (nown c b r)];exact r) λ c xs r=>by rw [zqg (ntup c xs r)];exact r
   rcases hc with rfl | hc
   ·exact hbe
   ·rintro rfl
    rcases he with z | z
    ·exact nown c b hc z
    ·rw [hc] at z;cases z;exact hb rfl
end
structure Un (fs ex:List Addr) (H H':Hp) (h h':Heap):Prop where
 keep:∀ b o,h.get? b=some o->H b=none->b∉fs->b∉ex->h'.get? b=some o
 slot:∀ b o,h.get? b=some o->H b=none->b∈fs->b∉ex->∃ sl,h'.get? b=some { o with slots:=sl }
 free:∀ b o,h.get? b=some o->H b=none->b∉ex->H' b=none
 there:∀ b o,h.get? b=some o->b∉ex->∃ o',h'.get? b=some o'
 tups:∀ b xs,H b=some (.tup xs)->H' b=some (.tup xs)
 frzs:∀ b o u,H b=some (.frz o u)->H' b=some (.frz o u)
 tbls:∀ b ps,H b=some (.tbl ps)->∃ more,H' b=some (.tbl (ps++more))
section
variable {fs fs' ex ex':List Addr}{H H1 H2:Hp}{h h1 h2 h':Heap}{a x e:Addr}{o:HO}
theorem Un.any (u:Un fs ex H H1 h h1) {b:Addr}{ob:Obj} (q:h.get? b=some ob) (n:H b=none) (hx:b∉ex):∃ sl,h1.get? b=some { ob with slots:=sl }:=by
 by_cases hb:b∈fs
 ·exact u.slot b ob q n hb hx
 ·exact ⟨ob.slots,u.keep b ob q n hb hx⟩
theorem Un.kept (k:∀ b u,h.get? b=some u->h'.get? b=some u):Un fs ex H H h h':=
 ⟨λ b ob q _ _ _=>k b ob q,λ b ob q _ _ _=>⟨ob.slots,k b ob q⟩,λ _ _ _ n _=>n,λ b ob q _=>⟨ob,k b ob q⟩,λ _ _ q=>q,λ _ _ _ q=>q,λ _ ps q=>⟨#[],by rw [q];simp⟩⟩
theorem Un.refl:Un fs ex H H h h:=Un.kept λ _ _ q=>q
theorem Un.laid (k:∀ b u,h.get? b=some u->h'.get? b=some u) (hp:h.objs.size<=a) (hn:H a=none):Un fs ex H (upd H a o) h h' where
 keep:=λ b u q _ _ _=>k b u q
 slot:=λ b u q _ _ _=>⟨u.slots,k b u q⟩
 free:=λ b u q n _=>by rw [zqg (jc5 (jb5 (va6 q) hp))];exact n
 there:=λ b u q _=>⟨u,k b u q⟩
 tups:=λ b xs q=>by rw [zqg (zwu q hn)];exact q
 frzs:=λ b u xs q=>by rw [zqg (zwu q hn)];exact q
 tbls:=λ b ps q=>⟨#[],by rw [zqg (zwu q hn),q];simp⟩
theorem Un.write (mu:Mut (H x)) (he:e=x\/H e=some (.own x)) (k:∀ b u,b≠e->h.get? b=some u->h'.get? b=some u) (heo:∃ u,h'.get? e=some u):Un fs ex H (upd H x o) h h':=by
 have hx:∀ b,H b=none->b≠x:=λ b n z=>by subst z;rw [n] at mu;exact mu
 have hb:∀ b,H b=none->b≠e:=λ b n z=>by
  subst z
  rcases he with r | r
  ·exact hx b n r
  ·rw [n] at r;cases r
 have hm:∀ b u,H b=some u->¬ Mut (some u)->b≠x:=λ b u q nm z=>by subst z;rw [q] at mu;exact nm mu
 refine ⟨λ b u q n _ _=>k b u (hb b n) q,λ b u q n _ _=>⟨u.slots,k b u (hb b n) q⟩,λ b u q n _=>by rw [zqg (hx b n)];exact n,λ b u q _=>?_,
  λ b xs q=>by rw [zqg (hm b _ q λ z=>z)];exact q,λ b u xs q=>by rw [zqg (hm b _ q λ z=>z)];exact q,λ b ps q=>⟨#[],by rw [zqg (hm b _ q λ z=>z),q];simp⟩⟩
 by_cases hbe:b=e
 ·subst hbe;exact heo
 ·exact ⟨u,k b u hbe q⟩
end
def trk (h:Heap) (H:Hp):List Addr:=(jd0 h.objs.size).filter λ a=>(H a).isSome
def hidT (h:Heap) (H:Hp):Heap:=PySem.W.hideAll h (trk h H)
theorem qel (h:Heap) (H:Hp):(hidT h H).objs.size=h.objs.size:=PySem.W.hideAll_size _ _
theorem qg1 {h:Heap}{H:Hp}{b:Addr}{o:Obj} (e:h.get? b=some o) (n:H b=none):(hidT h H).get? b=some o:=
 vk5 _ e λ hm=>by
  have q:(H b).isSome=true:=(jf7.mp hm).2
  rw [n] at q;simp at q
theorem qj9 {h:Heap}{H:Hp}{b:Addr}{o:Obj} (e:(hidT h H).get? b=some o):h.get? b=some o/\H b=none:=by
 have e':h.get? b=some o:=PySem.W.of_hideAll (trk h H) e
 refine ⟨e',?_⟩
 cases q:H b with
 | none=>rfl
 | some x=>
  have hm:b∈trk h H:=jf7.mpr ⟨jf4.mpr (va6 e'),by simp [q]⟩
  have z:(hidT h H).get? b=none:=PySem.W.hideAll_none (trk h H) hm
  rw [z] at e;cases e
def qlc (g h:Heap) (L:Addr):List (Addr×Obj):=(jd0 h.objs.size).filterMap λ a=>if a=L\/(g.get? a).isSome=true then none else (h.get? a).map λ o=>(a,o)
def rest (g h:Heap) (L d:Addr):List (Addr×Obj):=(qlc g h L).filter λ p=>decide (p.1≠d)
structure Mod (K:va8) (mg:Str->Option va2) (base:Heap):Prop where
 kin:K.In base
 glob:base.Ns vc8 mg
 blt:∃ mb,base.Ns builtinsNs mb/\∀ x:Str,x ≠ "__name__" -> mb x=vg4 x
 nolimit:base.NoLimit
structure Cx where
 prog:vb0
 w:vb8
 K:va8
 mg:Str->Option va2
 base:Heap
 A:vc0
 N:List Str
 s₀:va3
 H₀:Hp
 env:Env
 outer:List Env
 stack:List Env
 ex:List Addr
 fn:Str->Bool
 calm:Bool
 pn:List (Addr×Obj)
 xe:va2->va3->Prop
def frs (l:List Env):List Addr:=l.filterMap (·.frame)
abbrev Cx.fs (X:Cx):List Addr:=frs X.outer
def Vis (sc:ve2) (x:Str):Prop:=sc.names.lookup x=some .local\/sc.names.lookup x=some .cell\/sc.names.lookup x=some .free
def Loc (sc:ve2) (x:Str):Prop:=sc.names.lookup x=some .local\/sc.names.lookup x=some .cell
def Look (env:Env) (h:Heap) (m:Str->Option va2) (x:Str) (u:va2):Prop:=
 (env.kindOf x=some .local/\m x=some u)\/((env.kindOf x=some .cell\/env.kindOf x=some .free)/\∃ c,env.cells.lookup x=some c/\h.IsCell c (some u))
structure Cx.Ok (X:Cx):Prop where
 mod:Mod X.K X.mg X.base
 kind:X.env.scope.kind=.function
 glob:X.env.globals=vc8
 blt:X.env.builtins=builtinsNs
 above:X.s₀.heap.objs.size<=X.env.locals
 inj:∀ x y c,X.env.cells.lookup x=some c->X.env.cells.lookup y=some c->x=y
 has:∀ x,(X.env.kindOf x=some .cell\/X.env.kindOf x=some .free)->∃ c,X.env.cells.lookup x=some c
 cab:∀ x c,X.fn x=true->X.env.cells.lookup x=some c->X.s₀.heap.objs.size<=c
 hd:X.calm=true->X.A.handled=none
 frames:X.A.frames=some X.stack
 stk:X.stack=X.outer\/(X.stack=X.env::X.outer/\X.env.frame=some X.env.locals)
 exf:∀ b∈X.ex,b≠X.env.locals/\∀ x c,X.env.cells.lookup x=some c->c≠b
 bs:∀ b o,X.base.get? b=some o->X.s₀.heap.get? b=some o/\X.H₀ b=none
 bsz:X.base.objs.size<=X.s₀.heap.objs.size
 noex:∀ b o,X.base.get? b=some o->b∉X.ex
 exfs:∀ b∈X.ex,b∉X.fs
 funs:X.s₀.heap.FunFrames X.base X.outer
 frf:∀ b∈X.fs,X.H₀ b=none
structure Inv (X:Cx) (pins:List (Addr×Obj)) (σ:List (Option V)) (H:Hp) (s:va3):Prop where
 ok:X.Ok
 os:s.os=X.s₀.os
 bare:vi1 s.gens
 base:Un X.fs X.ex X.H₀ H X.s₀.heap s.heap
 loc:∃ m,s.heap.Ns X.env.locals m/\∀ (i:Nat) (x:Str) (v:V),X.N[i]?=some x->σ[i]?=some (some v)->Vis X.env.scope x->∃ u,RelV v u/\Look X.env s.heap m x u
 cell:∀ x c,X.env.cells.lookup x=some c->∃ v,s.heap.IsCell c v
 free:H X.env.locals=none
 freeC:∀ x c,X.env.cells.lookup x=some c->H c=none
 pin:∀ p∈X.pn++pins,s.heap.get? p.1=some p.2/\H p.1=none/\p.1≠X.env.locals/\p.1∉X.fs/\∀ v,p.2.data≠.cell v
 hok:HOk X.prog X.w H s.heap
 len:σ.length=X.N.length
section
variable {X:Cx}{pins:List (Addr×Obj)}{σ:List (Option V)}{H H':Hp}{s:va3}{h':Heap}
theorem Cx.Ok.nofr (ok:X.Ok) {b:Addr}{o:Obj} (e:X.base.get? b=some o):b∉X.fs:=λ hb=>by
 have:=(ok.funs.mem hb).1
 rw [e] at this;cases this
theorem Inv.bs (I:Inv X pins σ H s):∀ b o,X.base.get? b=some o->s.heap.get? b=some o/\H b=none:=λ b o e=>
 ⟨I.base.keep b o (I.ok.bs b o e).1 (I.ok.bs b o e).2 (I.ok.nofr e) (I.ok.noex b o e),I.base.free b o (I.ok.bs b o e).1 (I.ok.bs b o e).2 (I.ok.noex b o e)⟩
theorem Inv.bk (I:Inv X pins σ H s):∀ b o,X.base.get? b=some o->s.heap.get? b=some o:=λ b o e=>(I.bs b o e).1
theorem Inv.mod (I:Inv X pins σ H s):Mod X.K X.mg X.base:=I.ok.mod
theorem Inv.kIn (I:Inv X pins σ H s):X.K.In s.heap:=I.ok.mod.kin.keeps I.bk
theorem Inv.lt (I:Inv X pins σ H s):X.env.locals < s.heap.objs.size:=let ⟨_,hn,_⟩:=I.loc;hn.lt
theorem Inv.sz (I:Inv X pins σ H s):X.s₀.heap.objs.size<=s.heap.objs.size:=jd3 I.ok.above (jk5 I.lt)
theorem Inv.nofs (I:Inv X pins σ H s) {a:Addr} (h:s.heap.objs.size<=a):a∉X.fs:=λ hb=>by
 obtain ⟨_,o,ho,_⟩:=I.ok.funs.mem hb
 exact absurd (jb5 (va6 ho) (jd3 I.sz h)) (jd8 _)
theorem Inv.cne (I:Inv X pins σ H s):∀ x c,X.env.cells.lookup x=some c->c≠X.env.locals:=λ x c e z=>by
 obtain ⟨v,o,ho,hd⟩:=I.cell x c e
 obtain ⟨m,⟨o',es,ep,ho',hd',_⟩,_⟩:=I.loc
 rw [z,ho'] at ho;cases ho;rw [hd'] at hd;cases hd
theorem Inv.funs (I:Inv X pins σ H s):s.heap.FunFrames X.base X.outer:=by
 have all:∀ (l:List Env),(∀ b∈frs l,b∈X.fs)->X.s₀.heap.FunFrames X.base l->s.heap.FunFrames X.base l:=by
  intro l
  induction l with
  | nil=>intro _ _;trivial
  | cons env r ih=>
   intro hs hl
   obtain ⟨hk,⟨L,o,hf,hn,ho,hd⟩,hr⟩:=hl
   have hL:L∈X.fs:=hs L (by unfold frs;rw [jh9,hf];exact ja3)
   obtain ⟨sl,e⟩:=I.base.slot L o ho (I.ok.frf L hL) hL λ z=>I.ok.exfs L z hL
   exact ⟨hk,⟨L,_,hf,hn,e,hd⟩,ih (λ b hb=>hs b (by unfold frs;rw [jh9,hf];exact ja1 _ hb)) hr⟩
 exact all X.outer (λ _ hb=>hb) I.ok.funs
theorem Inv.stack (I:Inv X pins σ H s):s.heap.FunFrames X.base X.stack:=by
 rcases I.ok.stk with e | ⟨e,hf⟩
 ·rw [e];exact I.funs
 ·rw [e]
  obtain ⟨m,hn,_⟩:=I.loc
  refine .cons (by rw [I.ok.kind];decide) hf hn ?_ I.funs
  exact Heap.get?_none_of_le (jd3 I.ok.bsz I.ok.above)
theorem Inv.stkSub (I:Inv X pins σ H s):∀ b∈frs X.stack,b∈X.env.locals::X.fs:=λ b hb=>by
 rcases I.ok.stk with e | ⟨e,hf⟩
 ·rw [e] at hb;exact ja1 _ hb
 ·rw [e] at hb
  unfold frs at hb
  rw [jh9,hf] at hb
  exact hb
theorem Inv.stkFree (I:Inv X pins σ H s):∀ b∈frs X.stack,H b=none:=λ b hb=>by
 rcases jb3.mp (I.stkSub b hb) with e | hb
 ·rw [e];exact I.free
 ·obtain ⟨_,o,ho,_⟩:=I.ok.funs.mem hb
  exact I.base.free b o ho (I.ok.frf b hb) λ z=>I.ok.exfs b z hb
theorem Inv.step {g':Array GenState}{t':Nat}{d':Drawn}{ch:List Addr} (I:Inv X pins σ H s)
  (hch:∀ b∈ch,(b∈X.ex\/X.s₀.heap.objs.size<=b)/\b≠X.env.locals/\(∀ x c,X.env.cells.lookup x=some c->c≠b)/\∀ p∈X.pn++pins,p.1≠b)
  (keep:∀ b o,b≠X.env.locals->b∉X.fs->b∉ch->s.heap.get? b=some o->H b=none->h'.get? b=some o)
  (slot:∀ b o,b≠X.env.locals->b∈X.fs->b∉ch->s.heap.get? b=some o->H b=none->∃ sl,h'.get? b=some { o with slots:=sl }) (free:∀ b o,b∉ch->s.heap.get? b=some o->H b=none->H' b=none)
  (there:∀ b o,b∉ch->s.heap.get? b=some o->∃ o',h'.get? b=some o')
  (tups:∀ b xs,H b=some (.tup xs)->H' b=some (.tup xs)) (frzs:∀ b o u,H b=some (.frz o u)->H' b=some (.frz o u)) (tbls:∀ b ps,H b=some (.tbl ps)->∃ more,H' b=some (.tbl (ps++more)))
  (ns:∀ m,s.heap.Ns X.env.locals m->h'.Ns X.env.locals m) (hok:HOk X.prog X.w H' h') (hg:vi1 g'):
  Inv X pins σ H' { s with heap:=h',gens:=g',drawn:=d',toks:=t' }:=by
 have neL:∀ b o,X.s₀.heap.get? b=some o->b≠X.env.locals:=λ b o e=>jc5 (jb5 (va6 e) I.ok.above)
 have neC:∀ b o,X.s₀.heap.get? b=some o->b∉X.ex->b∉ch:=λ b o e hx hb=>by
  rcases (hch b hb).1 with z | z
  ·exact hx z
  ·exact absurd (jb5 (va6 e) z) (jd8 _)
 have cellK:∀ x c,X.env.cells.lookup x=some c->∀ v,s.heap.IsCell c v->h'.IsCell c v:=λ x c e v ⟨o,ho,hd⟩=>by
  have nch:c∉ch:=λ z=>(hch c z).2.2.1 x c e rfl
  by_cases hc:c∈X.fs
  ·obtain ⟨sl,q⟩:=slot c o (I.cne x c e) hc nch ho (I.freeC x c e)
   exact ⟨_,q,hd⟩
  ·exact ⟨o,keep c o (I.cne x c e) hc nch ho (I.freeC x c e),hd⟩
 refine ⟨I.ok,I.os,hg,⟨λ b o e n hb hx=>?_,λ b o e n hb hx=>?_,λ b o e n hx=>?_,λ b o e hx=>?_,λ b xs e=>tups b xs (I.base.tups b xs e),λ b o xs e=>frzs b o xs (I.base.frzs b o xs e),λ b ps e=>?_⟩,?_,λ x c e=>?_,?_,λ x c e=>?_,λ p hp=>?_,hok,I.len⟩
 ·exact keep b o (neL b o e) hb (neC b o e hx) (I.base.keep b o e n hb hx) (I.base.free b o e n hx)
 ·obtain ⟨sl,e1⟩:=I.base.slot b o e n hb hx
  obtain ⟨sl',e2⟩:=slot b _ (neL b o e) hb (neC b o e hx) e1 (I.base.free b o e n hx)
  exact ⟨sl',e2⟩
 ·obtain ⟨o',e1⟩:=I.base.there b o e hx
  exact free b o' (neC b o e hx) e1 (I.base.free b o e n hx)
 ·obtain ⟨o',e1⟩:=I.base.there b o e hx
  exact there b o' (neC b o e hx) e1
 ·obtain ⟨m1,e1⟩:=I.base.tbls b ps e
  obtain ⟨m2,e2⟩:=tbls b _ e1
  exact ⟨m1++m2,by rw [e2,jn1]⟩
 ·obtain ⟨m,hn,hl⟩:=I.loc
  refine ⟨m,ns m hn,λ i x v e1 e2 e3=>?_⟩
  obtain ⟨u,r,l⟩:=hl i x v e1 e2 e3
  refine ⟨u,r,?_⟩
  rcases l with l | ⟨k,c,e,z⟩
  ·exact .inl l
  ·exact .inr ⟨k,c,e,cellK x c e _ z⟩
 ·obtain ⟨v,z⟩:=I.cell x c e
  exact ⟨v,cellK x c e v z⟩
 ·obtain ⟨m,⟨o,_,_,ho,_⟩,_⟩:=I.loc
  exact free _ o (λ z=>(hch _ z).2.1 rfl) ho I.free
 ·obtain ⟨v,o,ho,hd⟩:=I.cell x c e
  exact free c o (λ z=>(hch c z).2.2.1 x c e rfl) ho (I.freeC x c e)
 ·obtain ⟨e,n,ne,nf,d⟩:=I.pin p hp
  have nch:p.1∉ch:=λ z=>(hch p.1 z).2.2.2 p hp rfl
  exact ⟨keep p.1 p.2 ne nf nch e n,free p.1 p.2 nch e n,ne,nf,d⟩
theorem Inv.un {t':Nat} (I:Inv X pins σ H s) (u:Un X.fs [] H H' s.heap h') (hok:HOk X.prog X.w H' h'):Inv X pins σ H' { s with heap:=h',toks:=t' }:=by
 obtain ⟨m,⟨o,es,ep,ho,r⟩,_⟩:=id I.loc
 obtain ⟨sl,hL⟩:=u.any ho I.free (by simp)
 exact I.step (g':=s.gens) (d':=s.drawn) (ch:=[]) (λ _ z=>nomatch z) (λ b o _ hb _ e n=>u.keep b o e n hb (by simp)) (λ b o _ hb _ e n=>u.slot b o e n hb (by simp)) (λ b o _ e n=>u.free b o e n (by simp)) (λ b o _ e=>u.there b o e (by simp)) u.tups u.frzs u.tbls (λ m' hm=>by
  obtain ⟨o',es',ep',ho',r'⟩:=hm
  rw [ho] at ho';cases ho'
  exact ⟨_,es',ep',hL,r'⟩) hok I.bare
theorem Inv.call {g':Array GenState}{t':Nat}{d':Drawn}{ch:List Addr} (I:Inv X pins σ H s) (u:Un (frs X.stack) ch H H' s.heap h') (hok:HOk X.prog X.w H' h') (hg:vi1 g')
  (hch:∀ b∈ch,(b∈X.ex\/X.s₀.heap.objs.size<=b)/\b≠X.env.locals/\(∀ x c,X.env.cells.lookup x=some c->c≠b)/\∀ p∈X.pn++pins,p.1≠b):
  Inv X pins σ H' { s with heap:=h',gens:=g',drawn:=d',toks:=t' }:=by
 obtain ⟨m,⟨o,es,ep,ho,r⟩,_⟩:=id I.loc
 obtain ⟨sl,hL⟩:=u.any ho I.free λ z=>(hch _ z).2.1 rfl
 exact I.step (ch:=ch) hch (λ b o hL hb hc e n=>u.keep b o e n (λ z=>(jb3.mp (I.stkSub b z)).elim hL hb) hc) (λ b o _ _ hc e n=>u.any e n hc) (λ b o hc e n=>u.free b o e n hc) (λ b o hc e=>u.there b o e hc) u.tups u.frzs u.tbls (λ m' hm=>by
  obtain ⟨o',es',ep',ho',r'⟩:=hm
  rw [ho] at ho';cases ho'
  exact ⟨_,es',ep',hL,r'⟩) hok hg
theorem Inv.turned {t':Nat}{it:Addr} (I:Inv X pins σ H s) (k:∀ b o,b≠it->s.heap.get? b=some o->h'.get? b=some o) (hn:H it=none) (hL:it≠X.env.locals)
  (h1:it∈X.ex\/X.s₀.heap.objs.size<=it) (h2:∀ x c,X.env.cells.lookup x=some c->c≠it) (h3:∀ p∈X.pn++pins,p.1≠it):Inv X pins σ H { s with heap:=h',toks:=t' }:=by
 have nit:∀ b u,H b=some u->b≠it:=λ b u e z=>by rw [z,hn] at e;cases e
 refine I.step (g':=s.gens) (d':=s.drawn) (ch:=[it]) (λ b hb=>?_) (λ b o _ _ hc e _=>k b o (λ z=>hc (by simp [z])) e) (λ b o _ _ hc e _=>⟨o.slots,k b o (λ z=>hc (by simp [z])) e⟩) (λ _ _ _ _ n=>n)
  (λ b o hc e=>⟨o,k b o (λ z=>hc (by simp [z])) e⟩) (λ _ _ e=>e) (λ _ _ _ e=>e) (λ b ps e=>⟨#[],by rw [e];simp⟩) (λ m hm=>?_) (λ b u e=>?_) I.bare
 ·have e:b=it:=by simpa using hb
  subst e
  exact ⟨h1,hL,h2,h3⟩
 ·obtain ⟨o,es,ep,ho,r⟩:=hm
  exact ⟨o,es,ep,k _ o (vb2 hL) ho,r⟩
 ·refine (I.hok b u e).stay (λ c v hc q=>k c v ?_ q) (λ _ q=>q) λ _ _ q=>q
  rcases hc with z | z
  ·rw [z];exact nit b u e
  ·exact nit c _ z
theorem Inv.tok (I:Inv X pins σ H s) (t:Nat):Inv X pins σ H { s with toks:=t }:=I.un (h':=s.heap) (t':=t) Un.refl I.hok
theorem Inv.kept {t':Nat} (I:Inv X pins σ H s) (k:∀ b u,s.heap.get? b=some u->h'.get? b=some u):Inv X pins σ H { s with heap:=h',toks:=t' }:=I.un (Un.kept k) (I.hok.kept k)
theorem Inv.laid {a:Addr}{o:HO}{t':Nat} (I:Inv X pins σ H s) (k:∀ b u,s.heap.get? b=some u->h'.get? b=some u) (hp:s.heap.objs.size<=a) (new:zxu X.prog X.w (upd H a o) h' a o):
  Inv X pins σ (upd H a o) { s with heap:=h',toks:=t' }:=I.un (Un.laid k hp (I.hok.fresh hp)) (I.hok.laid k hp new)
theorem Inv.write {x e:Addr}{o:HO}{t':Nat} (I:Inv X pins σ H s) (mu:Mut (H x)) (he:e=x\/H e=some (.own x)) (k:∀ b u,b≠e->s.heap.get? b=some u->h'.get? b=some u) (heo:∃ u,h'.get? e=some u)
  (new:zxu X.prog X.w (upd H x o) h' x o):Inv X pins σ (upd H x o) { s with heap:=h',toks:=t' }:=I.un (Un.write mu he k heo) (I.hok.write mu he k heo new)
theorem Inv.pins_of {pins':List (Addr×Obj)} (I:Inv X pins σ H s) (h:∀ p∈pins',s.heap.get? p.1=some p.2/\H p.1=none/\p.1≠X.env.locals/\p.1∉X.fs/\∀ v,p.2.data≠.cell v):Inv X pins' σ H s:=
 ⟨I.ok,I.os,I.bare,I.base,I.loc,I.cell,I.free,I.freeC,λ p hp=>(jc4.mp hp).elim (λ z=>I.pin p (ja9 _ z)) (h p),I.hok,I.len⟩
theorem zme {N:List Str} (hN:N.Nodup) {i j:Nat}{x:Str} (a:N[i]?=some x) (b:N[j]?=some x):i=j:=by
 obtain ⟨h1,e1⟩:=ja7.mp a
 obtain ⟨h2,e2⟩:=ja7.mp b
 exact (List.getElem_inj hN).mp (e1.trans e2.symm)
theorem zfd {M:Model}{A:vc0}{E:va2->va3->Prop}{i:Nat}{x:Str}{v:V}{u:va2}{Q:Unit->va3->Prop} (I:Inv X pins σ H s) (hN:X.N.Nodup) (hi:X.N[i]?=some x) (hx:Loc X.env.scope x) (r:RelV v u)
  (h:∀ s',Inv X pins (σ.set i (some v)) H s'->(∃ a,vh9 a s.heap s'.heap/\(a=X.env.locals\/X.env.cells.lookup x=some a))->Q () s') (hf:X.fn x=true\/X.env.scope.names.lookup x=some .local:=by first | exact .inl rfl | exact .inr rfl | assumption):vb1 M A (storeName X.env x u) Q E s:=by
 obtain ⟨m,hn,hl⟩:=id I.loc
 have hcls:(X.env.scope.kind == .class || (X.env.scope.kind == .module && X.env.locals != X.env.globals))=false:=by rw [I.ok.kind];rfl
 have hiσ:i < σ.length:=by rw [I.len];exact (ja7.mp hi).1
 have cne:=I.cne
 have tracked:∀ {a:Addr}{h':Heap},(∃ o,s.heap.get? a=some o/\H a=none)->vh9 a s.heap h'->HOk X.prog X.w H h':=λ {a h'} ha hs b ob e=>by
  obtain ⟨_,_,hfree⟩:=ha
  refine (I.hok b ob e).stay (λ c w' hc q=>(hs.2 c ?_).trans q) (λ _ q=>q) λ _ _ q=>q
  rintro rfl
  rcases hc with rfl | hc
  ·rw [hfree] at e;cases e
  ·rw [hfree] at hc;cases hc
 rcases hx with hk | hk
 ·refine wpAny_storeName_local hk hn (λ h' hn' hs=>?_) hcls
  obtain ⟨oL,_,_,hoL,_⟩:=id hn
  refine h _ ⟨I.ok,I.os,I.bare,⟨λ b o e n hb hx=>?_,λ b o e n hb hx=>?_,I.base.free,λ b o e hx=>?_,I.base.tups,I.base.frzs,I.base.tbls⟩,⟨_,hn',λ j y v' e1 e2 e3=>?_⟩,λ y c e=>?_,I.free,I.freeC,λ p hp=>?_,tracked ⟨oL,hoL,I.free⟩ hs,by simpa using I.len⟩ ⟨_,hs,.inl rfl⟩
  ·exact (hs.2 b (jc5 (jb5 (va6 e) I.ok.above))).trans (I.base.keep b o e n hb hx)
  ·obtain ⟨sl,e1⟩:=I.base.slot b o e n hb hx
   exact ⟨sl,(hs.2 b (jc5 (jb5 (va6 e) I.ok.above))).trans e1⟩
  ·obtain ⟨o',e1⟩:=I.base.there b o e hx
   exact ⟨o',(hs.2 b (jc5 (jb5 (va6 e) I.ok.above))).trans e1⟩
  ·by_cases hj:j=i
   ·subst hj
    rw [hi] at e1;cases e1
    rw [jb1 hiσ] at e2
    cases e2
    exact ⟨u,r,.inl ⟨hk,by simp⟩⟩
   ·rw [ja0 (vb2 hj)] at e2
    obtain ⟨u',r',q⟩:=hl j y v' e1 e2 e3
    refine ⟨u',r',?_⟩
    rcases q with ⟨k,e⟩ | ⟨k,c,e,z⟩
    ·refine .inl ⟨k,?_⟩
     have:y≠x:=λ e=>hj (zme hN e1 (e ▸ hi))
     simp [this,e]
    ·exact .inr ⟨k,c,e,z.sameBut hs (cne y c e)⟩
  ·obtain ⟨w',z⟩:=I.cell y c e
   exact ⟨w',z.sameBut hs (cne y c e)⟩
  ·obtain ⟨e,n,ne,nf,d⟩:=I.pin p hp
   exact ⟨(hs.2 p.1 ne).trans e,n,ne,nf,d⟩
 ·have hfn:X.fn x=true:=by
   rcases hf with z | z
   ·exact z
   ·rw [z] at hk;cases hk
  obtain ⟨c,hc⟩:=I.ok.has x (.inl hk)
  obtain ⟨w',z⟩:=I.cell x c hc
  refine wpAny_storeName_cell I.ok.kind hk hc z (λ h' hc' hs=>?_)
  obtain ⟨oc,hoc,hocd⟩:=id z
  refine h { s with heap:=h' } ⟨I.ok,I.os,I.bare,⟨λ b o e n hb hx=>?_,λ b o e n hb hx=>?_,I.base.free,λ b o e hx=>?_,I.base.tups,I.base.frzs,I.base.tbls⟩,⟨m,hn.sameBut hs (vb2 (cne x c hc)),λ j y v' e1 e2 e3=>?_⟩,λ y c' e=>?_,I.free,I.freeC,λ p hp=>?_,tracked ⟨oc,hoc,I.freeC x c hc⟩ hs,by simpa using I.len⟩ ⟨c,hs,.inr hc⟩
  ·exact (hs.2 b (jc5 (jb5 (va6 e) (I.ok.cab x c hfn hc)))).trans (I.base.keep b o e n hb hx)
  ·obtain ⟨sl,e1⟩:=I.base.slot b o e n hb hx
   exact ⟨sl,(hs.2 b (jc5 (jb5 (va6 e) (I.ok.cab x c hfn hc)))).trans e1⟩
  ·obtain ⟨o',e1⟩:=I.base.there b o e hx
   exact ⟨o',(hs.2 b (jc5 (jb5 (va6 e) (I.ok.cab x c hfn hc)))).trans e1⟩
  ·by_cases hj:j=i
   ·subst hj
    rw [hi] at e1;cases e1
    rw [jb1 hiσ] at e2
    cases e2
    exact ⟨u,r,.inr ⟨.inl hk,c,hc,hc'⟩⟩
   ·rw [ja0 (vb2 hj)] at e2
    obtain ⟨u',r',q⟩:=hl j y v' e1 e2 e3
    refine ⟨u',r',?_⟩
    rcases q with q | ⟨k,c',e,z'⟩
    ·exact .inl q
    ·refine .inr ⟨k,c',e,z'.sameBut hs ?_⟩
     rintro rfl
     exact hj (zme hN e1 (I.ok.inj _ _ _ e hc ▸ hi))
  ·by_cases hcc:c'=c
   ·subst hcc;exact ⟨_,hc'⟩
   ·obtain ⟨w2,z2⟩:=I.cell y c' e
    exact ⟨w2,z2.sameBut hs hcc⟩
  ·obtain ⟨e,n,ne,nf,d⟩:=I.pin p hp
   refine ⟨(hs.2 p.1 ?_).trans e,n,ne,nf,d⟩
   intro q
   rw [q,hoc] at e
   have q':oc=p.2:=Option.some.inj e
   exact d w' (by rw [<- q'];exact hocd)
theorem zpv {M:Model}{A:vc0}{E:va2->va3->Prop}{i:Nat}{x:Str}{v:V}{u:va2}{Q:Unit->va3->Prop} (I:Inv X pins σ H s) (hN:X.N.Nodup) (hi:X.N[i]?=some x) (hx:Loc X.env.scope x) (r:RelV v u)
  (h:∀ s',Inv X pins (σ.set i (some v)) H s'->Q () s') (hf:X.fn x=true\/X.env.scope.names.lookup x=some .local:=by first | exact .inl rfl | exact .inr rfl | assumption):vb1 M A (storeName X.env x u) Q E s:=
 zfd I hN hi hx r (λ s' I' _=>h s' I') hf
theorem Inv.call' {s':va3}{ch:List Addr} (I:Inv X pins σ H s) (ho:s'.os=s.os) (u:Un (frs X.stack) ch H H' s.heap s'.heap) (hok:HOk X.prog X.w H' s'.heap) (hg:vi1 s'.gens)
  (hch:∀ b∈ch,(b∈X.ex\/X.s₀.heap.objs.size<=b)/\b≠X.env.locals/\(∀ x c,X.env.cells.lookup x=some c->c≠b)/\∀ p∈X.pn++pins,p.1≠b):Inv X pins σ H' s':=by
 obtain ⟨h',g',d',t',o'⟩:=s'
 have e:o'=s.os:=ho
 subst e
 exact I.call (g':=g') (t':=t') (d':=d') u hok hg hch
end
abbrev XK:=va2->Option Addr->Hp->Prop
abbrev St:=List (Option V)
abbrev VK:=V->Hp->Prop
abbrev TE:=St->Hp->VK->Prop
abbrev TT:=St->Hp->(Bool->Hp->Prop)->Prop
abbrev TA:=St->Hp->(List V->Hp->Prop)->Prop
structure Ends where
 nx:St->Hp->Prop
 rt:VK
 bk:St->Hp->Prop:=λ _ _=>False
 ct:St->Hp->Prop:=λ _ _=>False
abbrev TS:=Ends->St->Hp->Prop
def EP (X:Cx) (pins:List (Addr×Obj)) (σ:St) (Q:VK) (u:va2) (s':va3):Prop:=∃ v H',Inv X pins σ H' s'/\RelV v u/\Q v H'
def TP (X:Cx) (pins:List (Addr×Obj)) (σ:St) (Q:Bool->Hp->Prop) (b:Bool) (s':va3):Prop:=∃ H',Inv X pins σ H' s'/\Q b H'
def AP (X:Cx) (pins:List (Addr×Obj)) (σ:St) (Q:List V->Hp->Prop) (us:List va2) (s':va3):Prop:=∃ vs H',Inv X pins σ H' s'/\Vals vs us/\Q vs H'
def SP (X:Cx) (pins:List (Addr×Obj)) (D:Ends) (f:Flow) (s':va3):Prop:=
 match f with
 | .next=>∃ σ' H',Inv X pins σ' H' s'/\D.nx σ' H'
 | .brk=>∃ σ' H',Inv X pins σ' H' s'/\D.bk σ' H'
 | .cont=>∃ σ' H',Inv X pins σ' H' s'/\D.ct σ' H'
 | .ret u=>∃ v σ' H',Inv X pins σ' H' s'/\RelV v u/\D.rt v H'
def PE (X:Cx) (e:Expr) (t:TE):Prop:=
 ∀ (pins:List (Addr×Obj)) (s:va3) (σ:St) (H:Hp) (Q:VK),Inv X pins σ H s->t σ H Q->vb1 (vb3 X.prog X.w) X.A (eval e X.env) (EP X pins σ Q) X.xe s
def PT (X:Cx) (e:Expr) (t:TT):Prop:=
 ∀ (pins:List (Addr×Obj)) (s:va3) (σ:St) (H:Hp) (Q:Bool->Hp->Prop),Inv X pins σ H s->t σ H Q->vb1 (vb3 X.prog X.w) X.A (isTrue e X.env (eval e X.env)) (TP X pins σ Q) X.xe s
def PW (X:Cx) (e:Expr) (t:TT):Prop:=
 ∀ (whole:Sem va2) (pins:List (Addr×Obj)) (s:va3) (σ:St) (H:Hp) (Q:Bool->Hp->Prop),Inv X pins σ H s->t σ H Q->vb1 (vb3 X.prog X.w) X.A (isTrue e X.env whole) (TP X pins σ Q) X.xe s
theorem PW.pt {X:Cx}{e:Expr}{t:TT} (h:PW X e t):PT X e t:=h _
def PA (X:Cx) (es:List Expr) (t:TA):Prop:=
 ∀ (pos:Pos) (pins:List (Addr×Obj)) (s:va3) (σ:St) (H:Hp) (Q:List V->Hp->Prop),Inv X pins σ H s->t σ H Q->vb1 (vb3 X.prog X.w) X.A (spliced (vg5 pos (va9 es X.env))) (AP X pins σ Q) X.xe s
def PS (X:Cx) (st:Stmt) (t:TS):Prop:=
 ∀ (pins:List (Addr×Obj)) (s:va3) (σ:St) (H:Hp) (D:Ends),Inv X pins σ H s->t D σ H->vb1 (vb3 X.prog X.w) X.A (exec st X.env) (SP X pins D) X.xe s
def PSs (X:Cx) (st:List Stmt) (t:TS):Prop:=
 ∀ (pins:List (Addr×Obj)) (s:va3) (σ:St) (H:Hp) (D:Ends),Inv X pins σ H s->t D σ H->vb1 (vb3 X.prog X.w) X.A (execs st X.env) (SP X pins D) X.xe s
theorem thn {α:Type}{t:Sem α}{Q Q':α->va3->Prop}{M:Model}{A:vc0}{E:va2->va3->Prop}{s:va3} (h:vb1 M A t Q E s) (hQ:∀ a s,Q a s->Q' a s):vb1 M A t Q' E s:=vd9 h hQ λ _ _ x=>x
section
variable {X:Cx}
theorem bin {a b:Expr}{ta tb:TE} (ha:PE X a ta) (hb:PE X b tb) {pins:List (Addr×Obj)}{s:va3}{σ:St}{H:Hp}{R:V->V->Hp->Prop} (I:Inv X pins σ H s) (h:ta σ H λ x H1=>tb σ H1 λ y H2=>R x y H2)
  {α:Type}{Q:α->va3->Prop}{f:va2->va2->Sem α}
  (hf:∀ v u s2 x y H2,Inv X pins σ H2 s2->RelV x v->RelV y u->R x y H2->vb1 (vb3 X.prog X.w) X.A (f v u) Q X.xe s2):
  vb1 (vb3 X.prog X.w) X.A (eval a X.env) (λ v s₁=>vb1 (vb3 X.prog X.w) X.A (eval b X.env) (λ u s₂=>vb1 (vb3 X.prog X.w) X.A (f v u) Q X.xe s₂) X.xe s₁) X.xe s:=by
 refine thn (ha pins s σ H _ I h) λ v s1 ⟨x,H1,I1,r1,q1⟩=>?_
 refine thn (hb pins s1 σ H1 _ I1 q1) λ u s2 ⟨y,H2,I2,r2,q2⟩=>?_
 exact hf v u s2 x y H2 I2 r1 r2 q2
def tVar (i:Nat):TE:=λ σ H Q=>∃ v,σ[i]?=some (some v)/\Q v H
def tC (v:V):TE:=λ _ H Q=>Q v H
theorem qh4 {i:Nat}{x:Str}{pos:Pos} (hN:X.N[i]?=some x) (hv:Vis X.env.scope x) (hd:(x == ("__debug__" : Str))=false:=by decide) (hcd:(x == ("__classdict__" : Str))=false:=by decide):PE X (.Name x pos) (tVar i):=by
 intro pins s σ H Q I h
 obtain ⟨v,e,h⟩:=h
 obtain ⟨m,hn,hl⟩:=I.loc
 obtain ⟨u,r,l⟩:=hl i x v hN e hv
 have fin:EP X pins σ Q u s:=⟨v,H,I,r,h⟩
 rcases l with ⟨hk,hm⟩ | ⟨hk,c,hc,hcell⟩
 ·exact wpAny_Name (wpAny_loadName_local I.ok.kind hk hn hm fin) hd
 ·rcases hk with hk | hk
  ·exact wpAny_Name (wpAny_loadName_cell I.ok.kind hk hc hcell fin) hd
  ·exact wpAny_Name (wpAny_loadName_free I.ok.kind hk hc hcell fin hcd) hd
theorem zfo {i j pos}:PE X (.Constant (.int i) j pos) (tC (.int i)):=λ _ _ _ H _ I h=>wpAny_Constant_int ⟨.int i,H,I.tok _,⟨_,rfl⟩,h⟩
theorem qo6 {b j pos}:PE X (.Constant (.bool b) j pos) (tC (.bl b)):=λ _ _ _ H _ I h=>Constant_bool ⟨.bl b,H,I,rfl,h⟩
theorem qm1 {j pos}:PE X (.Constant .none j pos) (tC .non):=λ _ _ _ H _ I h=>Constant_none ⟨.non,H,I,rfl,h⟩
theorem qh6 {x j pos}:PE X (.Constant (.str x) j pos) (tC (.str x)):=λ _ _ _ H _ I h=>Calls.Constant_str ⟨.str x,H,I.tok _,⟨_,rfl⟩,h⟩
def Gl (X:Cx) (x:Str):Prop:=X.env.kindOf x=some .globalImplicit
theorem zjw {E:va2->va3->Prop}{pins:List (Addr×Obj)}{s:va3}{σ:St}{H:Hp}{x:Str}{u:va2}{pos:Pos}{Q:va2->va3->Prop} (I:Inv X pins σ H s) (hg:Gl X x) (hm:X.mg x=some u) (h:Q u s)
  (hd:(x == ("__debug__" : Str))=false:=by decide):vb1 (vb3 X.prog X.w) X.A (eval (.Name x pos) X.env) Q E s:=
 vo8 I.ok.kind hg (Calls.loadGlobal_global (by rw [I.ok.glob];exact I.mod.glob.keeps I.bk) hm h) hd
theorem zpg {E:va2->va3->Prop}{pins:List (Addr×Obj)}{s:va3}{σ:St}{H:Hp}{x:Str}{u:va2}{pos:Pos}{Q:va2->va3->Prop} (I:Inv X pins σ H s) (hg:Gl X x) (hm:X.mg x=none) (hv:vg4 x=some u) (h:Q u s)
  (hn:x ≠ "__name__" := by decide) (hd:(x == ("__debug__" : Str))=false:=by decide):vb1 (vb3 X.prog X.w) X.A (eval (.Name x pos) X.env) Q E s:=by
 obtain ⟨mb,h1,h2⟩:=I.mod.blt
 exact vo8 I.ok.kind hg (Calls.loadGlobal_builtin (by rw [I.ok.glob];exact I.mod.glob.keeps I.bk) hm (by rw [I.ok.blt];exact h1.keeps I.bk) ((h2 x hn).trans hv) h) hd
theorem qjz {x:Str}{v:V}{u:va2}{pos:Pos} (hg:Gl X x) (hm:X.mg x=some u) (r:RelV v u) (hd:(x == ("__debug__" : Str))=false:=by decide):PE X (.Name x pos) (tC v):=
 λ _ _ _ H _ I h=>zjw I hg hm ⟨v,H,I,r,h⟩ hd
theorem qdl {x:Str}{v:V}{u:va2}{pos:Pos} (hg:Gl X x) (hm:X.mg x=none) (hv:vg4 x=some u) (r:RelV v u) (hn:x ≠ "__name__" := by decide) (hd:(x == ("__debug__" : Str))=false:=by decide):PE X (.Name x pos) (tC v):=
 λ _ _ _ H _ I h=>zpg I hg hm hv ⟨v,H,I,r,h⟩ hn hd
variable {a b:Expr}{ta tb:TE}{pos:Pos}
def PC (X:Cx) (op:vn2) (a b:Expr) (t:TE):Prop:=
 ∀ (pins:List (Addr×Obj)) (s:va3) (σ:St) (H:Hp) (Q:VK),Inv X pins σ H s->t σ H Q ->
  vb1 (vb3 X.prog X.w) X.A (eval a X.env) (λ v s₁=>vb1 (vb3 X.prog X.w) X.A (eval b X.env) (λ u s₂=>vb1 (vb3 X.prog X.w) X.A (vb4 op v u) (EP X pins σ Q) X.xe s₂) X.xe s₁) X.xe s
theorem zwg (b:Expr) {op:vn2} (h:op≠.In) (h2:op≠.NotIn):vg9 op b=false:=by
 have e1:(op == CmpOp.In)=false:=by cases op <;> first | rfl | exact absurd rfl h
 have e2:(op == CmpOp.NotIn)=false:=by cases op <;> first | rfl | exact absurd rfl h2
 cases b <;> simp [vg9,e1,e2]
def tB (t:TE):TT:=λ σ H Q=>t σ H λ x H1=>∃ c,x=.bl c/\Q c H1
theorem qmw {e:Expr}{t:TE} (h:PE X e t) (he:∀ whole,isTrue e X.env whole=(do let v<-whole;standAt e.pos;holding [v] (truthy v)):=by intro _;rfl):PT X e (tB t):=by
 intro pins s σ H Q I hw
 refine isTrue_plain (thn (h pins s σ H _ I hw) λ v s1 ⟨x,H1,I1,r1,q1⟩=>?_) (he _)
 obtain ⟨d,rfl,q⟩:=q1
 cases r1
 exact vc6 ⟨H1,I1,q⟩
variable {tA tB':TT}{rest:List Expr}
def tAnd (t u:TT):TT:=λ σ H Q=>t σ H λ c H1=>if c=true then u σ H1 Q else Q false H1
def tOr (t u:TT):TT:=λ σ H Q=>t σ H λ c H1=>if c=true then Q true H1 else u σ H1 Q
def tNot (t:TT):TT:=λ σ H Q=>t σ H λ c H1=>Q (!c) H1
theorem qjq (ha:PT X a tA):PW X (.BoolOp .And [a] pos) tA:=by
 intro wh pins s σ H Q I h
 refine isTrue_and (thn (ha pins s σ H Q I h) λ c s1 e=>?_)
 cases c with
 | true=>exact isTrue_and_nil e
 | false=>exact e
theorem qmu (ha:PT X a tA):PW X (.BoolOp .Or [a] pos) tA:=by
 intro wh pins s σ H Q I h
 refine isTrue_or (thn (ha pins s σ H Q I h) λ c s1 e=>?_)
 cases c with
 | false=>exact isTrue_or_nil e
 | true=>exact e
theorem qmv (ha:PT X a tA) (hb:PW X (.BoolOp .And (b::rest) pos) tB'):PW X (.BoolOp .And (a::b::rest) pos) (tAnd tA tB'):=by
 intro wh pins s σ H Q I h
 refine isTrue_and (thn (ha pins s σ H _ I h) λ c s1 ⟨H1,I1,q1⟩=>?_)
 cases c with
 | true=>exact hb wh pins s1 σ H1 Q I1 q1
 | false=>exact ⟨H1,I1,q1⟩
theorem qo2 (ha:PT X a tA) (hb:PW X (.BoolOp .Or (b::rest) pos) tB'):PW X (.BoolOp .Or (a::b::rest) pos) (tOr tA tB'):=by
 intro wh pins s σ H Q I h
 refine isTrue_or (thn (ha pins s σ H _ I h) λ c s1 ⟨H1,I1,q1⟩=>?_)
 cases c with
 | true=>exact ⟨H1,I1,q1⟩
 | false=>exact hb wh pins s1 σ H1 Q I1 q1
theorem qmx (ha:PT X a tA):PT X (.UnaryOp .Not a pos) (tNot tA):=by
 intro pins s σ H Q I h
 exact isTrue_not (ha pins s σ H (λ c H1=>Q (!c) H1) I h)
def qma (ta tb:TE):TE:=λ σ H Q=>ta σ H λ x H1=>∃ c,x=.bl c/\if c=true then tb σ H1 Q else Q (.bl false) H1
def tOrV (ta tb:TE):TE:=λ σ H Q=>ta σ H λ x H1=>∃ c,x=.bl c/\if c=true then Q (.bl true) H1 else tb σ H1 Q
def ql5 (ta:TE):TE:=λ σ H Q=>ta σ H λ x H1=>∃ c,x=.bl c/\Q (.bl (!c)) H1
theorem qh7 {op}{t:TE} (h:PE X a t):PE X (.BoolOp op [a] pos) t:=λ pins s σ H Q I hw=>BoolOp_one (h pins s σ H Q I hw)
theorem qm3 (ha:PE X a ta) (hb:PE X (.BoolOp .And (b::rest) pos) tb):PE X (.BoolOp .And (a::b::rest) pos) (qma ta tb):=by
 intro pins s σ H Q I h
 refine BoolOp_and (thn (ha pins s σ H _ I h) λ v s1 ⟨x,H1,I1,r1,q1⟩=>?_)
 obtain ⟨c,rfl,q1⟩:=q1
 cases r1
 refine vc6 ?_
 cases c with
 | true=>exact hb pins s1 σ H1 Q I1 q1
 | false=>exact ⟨.bl false,H1,I1,rfl,q1⟩
theorem qo5 (ha:PE X a ta) (hb:PE X (.BoolOp .Or (b::rest) pos) tb):PE X (.BoolOp .Or (a::b::rest) pos) (tOrV ta tb):=by
 intro pins s σ H Q I h
 refine BoolOp_or (thn (ha pins s σ H _ I h) λ v s1 ⟨x,H1,I1,r1,q1⟩=>?_)
 obtain ⟨c,rfl,q1⟩:=q1
 cases r1
 refine vc6 ?_
 cases c with
 | false=>exact hb pins s1 σ H1 Q I1 q1
 | true=>exact ⟨.bl true,H1,I1,rfl,q1⟩
theorem qm0 (ha:PE X a ta):PE X (.UnaryOp .Not a pos) (ql5 ta):=by
 intro pins s σ H Q I h
 refine UnaryOp_ (thn (ha pins s σ H _ I h) λ v s1 ⟨x,H1,I1,r1,q1⟩=>?_)
 obtain ⟨c,rfl,q1⟩:=q1
 cases r1
 exact not_of (vc6 ⟨.bl (!c),H1,I1,rfl,q1⟩)
end
def SqL (K:va8) (H:Hp) (a:Addr) (xs:List V):Prop:=
 Rd H a (.lst xs) \/
  ∃ (o:Obj) (its:Array va2) (n:Nat),K.lookup a=some o/\o.cls=.type "list" /\ o.dict=none/\o.data=.seq its n/\its.size<=va4/\Vals xs its.toList
def SqT (K:va8) (H:Hp) (a:Addr) (xs:List V):Prop:=
 Rd H a (.tup xs) \/
  ∃ (o:Obj) (its:Array va2) (n:Nat),K.lookup a=some o/\o.cls=.type "tuple" /\ o.data=.seq its n/\its.size<=va4/\Vals xs its.toList
def absV:va2->Option V
 | .none=>some .non
 | .bool b=>some (.bl b)
 | .int i _=>some (.int i)
 | .str x _=>some (.str x)
 | .bytes b _=>some (.byt b)
 | .float b _=>some (.flt b)
 | .ref a=>some (.ref a)
 | .type n=>some (.ty n)
 | _=>none
theorem RelV.abs {x:V}{u:va2} (r:RelV x u):absV u=some x:=by
 cases x with
 | non=>cases r;rfl
 | bl _=>cases r;rfl
 | int _=>obtain ⟨t,rfl⟩:=r;rfl
 | str _=>obtain ⟨t,rfl⟩:=r;rfl
 | byt _=>obtain ⟨t,rfl⟩:=r;rfl
 | flt _=>obtain ⟨t,rfl⟩:=r;rfl
 | ref _=>cases r;rfl
 | ty _=>cases r;rfl
theorem RelV.inj {x y:V}{u:va2} (r:RelV x u) (q:RelV y u):x=y:=Option.some.inj (r.abs.symm.trans q.abs)
theorem Vals.inj:∀ {xs ys:List V}{us:List va2},Vals xs us->Vals ys us->xs=ys
 | _,_,_,.nil,.nil=>rfl
 | _,_,_,.cons r t,.cons r' t'=>by rw [r.inj r',Vals.inj t t']
section
variable {X:Cx}{pins:List (Addr×Obj)}{σ:St}{H:Hp}{s:va3}{a:Addr}{xs ys:List V}
theorem SqT.of {K:va8} (h:H a=some (.tup xs)):SqT K H a xs:=.inl (.inl h)
theorem Inv.list (I:Inv X pins σ H s) (h:SqL X.K H a xs):∃ its:List va2,Vals xs its/\PlainL s.heap a its.toArray/\xs.length<=va4:=by
 rcases h with h | ⟨o,its,n,hk,hc,hd,hs,hz,r⟩
 ·obtain ⟨z,its,n,r,e⟩:=h.ok I.hok
  exact ⟨its,r,⟨_,n,e,rfl,rfl,rfl⟩,z⟩
 ·refine ⟨its.toList,r,⟨o,n,I.kIn a o hk,hc,hd,by simpa using hs⟩,?_⟩
  have e:=r.length
  simp only [jf0] at e
  omega
theorem Inv.tuple (I:Inv X pins σ H s) (h:SqT X.K H a xs):∃ its:List va2,Vals xs its/\IsTup s.heap a its.toArray/\xs.length<=va4:=by
 rcases h with h | ⟨o,its,n,hk,hc,hs,hz,r⟩
 ·obtain ⟨z,its,r,p⟩:=h.ok I.hok
  exact ⟨its,r,p,z⟩
 ·refine ⟨its.toList,r,⟨o,I.kIn a o hk,hc,n,by simpa using hs⟩,?_⟩
  have e:=r.length
  simp only [jf0] at e
  omega
theorem Inv.list_inj (I:Inv X pins σ H s) (h:SqL X.K H a xs) (h':SqL X.K H a ys):xs=ys:=by
 obtain ⟨its,r,⟨o,n,e,_,_,d⟩,_⟩:=I.list h
 obtain ⟨its',r',⟨o',n',e',_,_,d'⟩,_⟩:=I.list h'
 rw [e] at e';cases e'
 rw [d] at d'
 injection d' with d1 _
 have:its=its':=by simpa using congrArg jq0 d1
 subst this
 exact r.inj r'
theorem Inv.tuple_inj (I:Inv X pins σ H s) (h:SqT X.K H a xs) (h':SqT X.K H a ys):xs=ys:=by
 obtain ⟨its,r,⟨o,e,_,n,d⟩,_⟩:=I.tuple h
 obtain ⟨its',r',⟨o',e',_,n',d'⟩,_⟩:=I.tuple h'
 rw [e] at e';cases e'
 rw [d] at d'
 injection d' with d1 _
 have:its=its':=by simpa using congrArg jq0 d1
 subst this
 exact r.inj r'
end
section
variable {X:Cx}{pins:List (Addr×Obj)}{σ:St}{H:Hp}{s:va3}{E:va2->va3->Prop}
end
section
variable {X:Cx}{st:Stmt}{rest:List Stmt}{t u:TS}{e:Expr}{te:TE}{pos:Pos}
def qja:TS:=λ D σ H=>D.nx σ H
def tSeq (t u:TS):TS:=λ D σ H=>t { D with nx:=u D } σ H
theorem qc9:PSs X [] qja:=λ _ _ σ H _ I h=>vh0 ⟨σ,H,I,h⟩
theorem qal (h1:PS X st t) (h2:PSs X rest u):PSs X (st::rest) (tSeq t u):=by
 intro pins s σ H D I h
 refine wpAny_execs_cons (thn (h1 pins s σ H { D with nx:=u D } I h) λ f s1 q=>?_)
 cases f with
 | next=>
  obtain ⟨σ',H',I',q⟩:=q
  exact h2 pins s1 σ' H' D I' q
 | ret v=>exact q
 | brk=>exact q
 | cont=>exact q
theorem zvr (h1:PS X st t):PSs X [st] t:=by
 intro pins s σ H D I h
 refine wpAny_execs_cons (thn (h1 pins s σ H D I h) λ f s1 q=>?_)
 cases f with
 | next=>exact vh0 q
 | ret v=>exact q
 | brk=>exact q
 | cont=>exact q
theorem Inv.quiet {pins:List (Addr×Obj)}{σ:St}{H:Hp}{s:va3} (I:Inv X pins σ H s):interactive X.env=false:=by simp [interactive,I.ok.kind]
def zgz (te:TE):TS:=λ D σ H=>te σ H λ _ H1=>D.nx σ H1
theorem zjo (he:PE X e te) (hs:swapsWith e none pos.line X.env=pure false:=by rfl):PS X (.Expr e pos) (zgz te):=by
 intro pins s σ H D I h
 exact wpAny_Expr_any (thn (he pins s σ H _ I h) λ v s1 ⟨x,H1,I1,r1,q1⟩=>⟨σ,H1,I1,q1⟩) I.quiet hs
def tRet (te:TE):TS:=λ D σ H=>te σ H D.rt
theorem qda (he:PE X e te):PS X (.Return (some e) pos) (tRet te):=by
 intro pins s σ H D I h
 exact wpAny_Return_some (thn (he pins s σ H _ I h) λ v s1 ⟨x,H1,I1,r1,q1⟩=>⟨x,σ,H1,I1,r1,q1⟩)
def tIfS (c:TT) (t u:TS):TS:=λ D σ H=>c σ H λ b H1=>if b=true then t D σ H1 else u D σ H1
theorem qju {c:Expr}{a b:List Stmt}{tc:TT} (hc:PT X c tc) (ha:PSs X a t) (hb:PSs X b u):PS X (.If c a b pos) (tIfS tc t u):=by
 intro pins s σ H D I h
 refine wpAny_If (thn (hc pins s σ H _ I h) λ d s1 ⟨H1,I1,q1⟩=>?_)
 cases d with
 | true=>exact ha pins s1 σ H1 D I1 q1
 | false=>exact hb pins s1 σ H1 D I1 q1
def zbw:TS:=λ _ _ _=>False
theorem zkk:PS X st zbw:=λ _ _ _ _ _ _ h=>h.elim
end
abbrev TG:=V->St->Hp->(St->Hp->Prop)->Prop
abbrev TGs:=List V->St->Hp->(St->Hp->Prop)->Prop
def PG (X:Cx) (target:Expr) (t:TG):Prop:=
 ∀ (pins:List (Addr×Obj)) (s:va3) (σ:St) (H:Hp) (v:V) (u:va2) (Q:St->Hp->Prop),Inv X pins σ H s->RelV v u->t v σ H Q ->
  vb1 (vb3 X.prog X.w) X.A (vo2 target X.env u) (λ _ s'=>∃ σ' H',Inv X pins σ' H' s'/\Q σ' H') X.xe s
def PGs (X:Cx) (ts:List Expr) (t:TGs):Prop:=
 ∀ (pins:List (Addr×Obj)) (s:va3) (σ:St) (H:Hp) (vs:List V) (us:List va2) (Q:St->Hp->Prop),Inv X pins σ H s->Vals vs us->t vs σ H Q ->
  vb1 (vb3 X.prog X.w) X.A (assignInOrder ((vd2 ts X.env).map (·.2)) us) (λ _ s'=>∃ σ' H',Inv X pins σ' H' s'/\Q σ' H') X.xe s
abbrev TSet:=V->V->V->Hp->(Hp->Prop)->Prop
def PSet (X:Cx) (t:TSet):Prop:=
 ∀ (pins:List (Addr×Obj)) (s:va3) (σ:St) (H:Hp) (o i v:V) (ov iv u:va2) (Q:Hp->Prop),Inv X pins σ H s->RelV o ov->RelV i iv->RelV v u->t o i v H Q ->
  vb1 (vb3 X.prog X.w) X.A (setItem ov iv u) (λ _ s'=>∃ H',Inv X pins σ H' s'/\Q H') X.xe s
section
variable {X:Cx}{pos:Pos}
def zvo (i:Nat):TG:=λ v σ H Q=>Q (σ.set i (some v)) H
theorem zyc {i:Nat}{x:Str} (hN:X.N.Nodup) (hi:X.N[i]?=some x) (hx:Loc X.env.scope x) (hf:X.fn x=true\/X.env.scope.names.lookup x=some .local:=by first | exact .inl rfl | exact .inr rfl | assumption):PG X (.Name x pos) (zvo i):=by
 intro pins s σ H v u Q I r h
 exact wpAny_assign_Name (zpv I hN hi hx r (λ s' I'=>⟨_,H,I',h⟩) hf)
def gNil:TGs:=λ vs σ H Q=>vs=[]/\Q σ H
def qnz (t:TG) (u:TGs):TGs:=λ vs σ H Q=>∃ v r,vs=v::r/\t v σ H λ σ' H'=>u r σ' H' Q
theorem qdh:PGs X [] gNil:=by
 intro pins s σ H vs us Q I r h
 obtain ⟨e,h⟩:=h
 subst e
 cases r
 exact assignInOrder_nil ⟨σ,H,I,h⟩
theorem qao {e:Expr}{es:List Expr}{t:TG}{u:TGs} (h1:PG X e t) (h2:PGs X es u)
  (hs:(vd2 (e::es) X.env).map (·.2)=vo2 e X.env::(vd2 es X.env).map (·.2):=by rfl):PGs X (e::es) (qnz t u):=by
 intro pins s σ H vs us Q I r h
 obtain ⟨v,vr,e1,h⟩:=h
 subst e1
 cases r with
 | cons r rr=>
  rw [hs]
  refine assignInOrder_cons (thn (h1 pins s σ H _ _ _ I r h) λ _ s1 ⟨σ1,H1,I1,q1⟩=>?_)
  exact h2 pins s1 σ1 H1 _ _ Q I1 rr q1
def gTup (K:va8) (n:Nat) (t:TGs):TG:=λ v σ H Q=>∃ a xs,v=.ref a/\SqT K H a xs/\xs.length=n/\t xs σ H Q
theorem qdi {es:List Expr}{k:Nat}{t:TGs}{n:Nat} (hc:X.calm=true) (h:PGs X es t)
  (hn:(vd2 es X.env).length=n:=by rfl) (hst:(vd2 es X.env).findIdx? (·.1)=none:=by rfl):PG X (.Tuple es k pos) (gTup X.K n t):=by
 intro pins s σ H v u Q I r hw
 obtain ⟨a,xs,e1,hq,hl,hw⟩:=hw
 subst e1
 cases r
 obtain ⟨its,rv,ht,hz⟩:=I.tuple hq
 refine assign_Tuple_tuple (I.ok.hd hc) ht (by simp [hn,<- hl,rv.length]) hst λ h' hx=>?_
 have I1:Inv X pins σ H { s with heap:=h' }:=I.kept (t':=s.toks) λ b o e=>hx b o (jc5 (va6 e)) e
 exact h pins _ σ H xs _ Q I1 (by simpa using rv) hw
def gSub (to ti:TE) (t:TSet):TG:=λ v σ H Q=>to σ H λ o H1=>ti σ H1 λ i H2=>t o i v H2 λ H3=>Q σ H3
theorem qdj {o i:Expr}{to ti:TE}{t:TSet} (ho:PE X o to) (hi:PE X i ti) (hs:PSet X t)
  (ha:∀ v,vo2 (.Subscript o i pos) X.env v=(do
   let ov<-holding [v] (eval o X.env)
   let iv<-holding [v,ov] (eval i X.env)
   standAt pos
   holding [v,ov,iv] (setItem ov iv v)
   release [v,ov,iv] []):=by intro _;rfl):PG X (.Subscript o i pos) (gSub to ti t):=by
 intro pins s σ H v u Q I r h
 rw [ha]
 refine va0 (vg8 (thn (ho pins s σ H _ I h) λ ov s1 ⟨x,H1,I1,r1,q1⟩=>?_))
 refine va0 (vg8 (thn (hi pins s1 σ H1 _ I1 q1) λ iv s2 ⟨y,H2,I2,r2,q2⟩=>?_))
 refine va0 (wpAny_standAt (va0 (vg8 (thn (hs pins s2 σ H2 x y v ov iv u _ I2 r1 r2 r q2) λ _ s3 ⟨H3,I3,q3⟩=>?_))))
 exact wpAny_release ⟨σ,H3,I3,q3⟩
def tAsg (te:TE) (g:TG):TS:=λ D σ H=>te σ H λ x H1=>g x σ H1 D.nx
theorem qan {tg e:Expr}{te:TE}{g:TG} (he:PE X e te) (hg:PG X tg g) (hs:swapsWithSole [tg] e pos.line X.env=pure false:=by rfl) (hw:swappedStores [tg] e X.env=pure none:=by rfl)
  (h1:(vd2 [tg] X.env).map (·.2)=[vo2 tg X.env]:=by rfl):PS X (.Assign [tg] e pos) (tAsg te g):=by
 intro pins s σ H D I h
 refine wpAny_Assign_stores (thn (he pins s σ H _ I h) λ v s1 ⟨x,H1,I1,r1,q1⟩=>?_) hs hw
 rw [h1]
 exact thn (hg pins s1 σ H1 x v _ I1 r1 q1) λ _ s2 q=>q
theorem qam {i:Nat}{x:Str}{e:Expr}{te:TE}{pos':Pos} (hN:X.N.Nodup) (hi:X.N[i]?=some x) (hx:Loc X.env.scope x) (he:PE X e te) (hs:swapsWith e (some (.Name x pos')) pos.line X.env=pure false:=by rfl) (hf:X.fn x=true\/X.env.scope.names.lookup x=some .local:=by first | exact .inl rfl | exact .inr rfl | assumption):
  PS X (.Assign [.Name x pos'] e pos) (tAsg te (zvo i)):=by
 intro pins s σ H D I h
 refine wpAny_Assign_Name (thn (he pins s σ H _ I h) λ v s1 ⟨y,H1,I1,r1,q1⟩=>?_) hs
 exact zpv I1 hN hi hx r1 (λ s2 I2=>⟨_,H1,I2,q1⟩) hf
end
section
variable {X:Cx}{pos:Pos}
def qhx (c:TT) (tb:TS):TS:=λ D σ H=>∃ W:Nat->St->Hp->Prop,(∃ m,W m σ H)/\∀ m σ H,W m σ H ->
 c σ H λ b H1=>if b=true then ∃ N:St->Hp->Prop,(∀ σ' H',N σ' H'->∃ m',m' < m/\W m' σ' H')/\tb { D with nx:=N,ct:=N,bk:=D.nx } σ H1 else D.nx σ H1
theorem qf9 {c:Expr}{body:List Stmt}{tc:TT}{tb:TS} (hp:vl5 (vb3 X.prog X.w) X.A X.env X.xe) (hc:PT X c tc) (hb:PSs X body tb):PS X (.While c body [] pos) (qhx tc tb):=by
 intro pins s σ H D I h
 obtain ⟨W,⟨m0,w0⟩,turn⟩:=h
 refine wpAny_While (codeAny_whileLoop (λ n s'=>∃ σ' H',Inv X pins σ' H' s'/\W n σ' H') ?_ m0 ⟨σ,H,I,w0⟩)
 rintro n s1 ⟨σ1,H1,I1,w1⟩
 refine vf0 hp (thn (hc pins s1 σ1 H1 _ I1 (turn n σ1 H1 w1)) λ b s2 ⟨H2,I2,q2⟩=>?_)
 cases b with
 | true=>
  obtain ⟨N,hN,q2⟩:=q2
  rw [if_pos rfl]
  refine vf0 hp (thn (hb pins s2 σ1 H2 _ I2 q2) λ f s3 q3=>?_)
  cases f with
  | next=>
   obtain ⟨σ3,H3,I3,n3⟩:=q3
   obtain ⟨m',hm,w3⟩:=hN σ3 H3 n3
   exact ⟨m',hm,σ3,H3,I3,w3⟩
  | cont=>
   obtain ⟨σ3,H3,I3,n3⟩:=q3
   obtain ⟨m',hm,w3⟩:=hN σ3 H3 n3
   exact ⟨m',hm,σ3,H3,I3,w3⟩
  | brk=>exact q3
  | ret v=>exact q3
 | false=>
  rw [if_neg jb8]
  exact vh0 ⟨σ1,H2,I2,q2⟩
end
structure It where
 go:Nat->Hp->Prop
 yld:Nat->Hp->V->Hp->Prop
 stop:Nat->Hp->Prop
def FpOk (X:Cx) (pins:List (Addr×Obj)) (H:Hp) (b:Addr):Prop:=
 H b=none/\b≠X.env.locals/\b∉X.fs/\(b∈X.ex\/X.s₀.heap.objs.size<=b)/\(∀ x c,X.env.cells.lookup x=some c->c≠b)/\∀ p∈X.pn++pins,p.1≠b
theorem Inv.fpOk {X:Cx}{pins:List (Addr×Obj)}{σ:St}{H H':Hp}{s:va3}{b:Addr} (I:Inv X pins σ H s) (hb:s.heap.objs.size<=b) (hn:H' b=none):FpOk X pins H' b:=by
 refine ⟨hn,jg1 (jb5 I.lt hb),I.nofs hb,.inr (jd3 I.sz hb),λ x c e z=>?_,λ p hp z=>?_⟩
 ·obtain ⟨v,q⟩:=I.cell x c e
  exact absurd (jb5 q.lt (by rw [z];exact hb)) (jd8 _)
 ·exact absurd (jb5 (va6 (I.pin p hp).1) (by rw [z];exact hb)) (jd8 _)
structure Turn (P:vb0) (w:vb8) (K:va8) (tg:Expr) (J:It) (fp:List Addr) (it:Addr) (tn:Nat->Heap->Prop):Prop where
 mem:it∈fp
 obj:∀ i h,tn i h->∀ b∈fp,∃ o,h.get? b=some o/\∀ v,o.data≠.cell v
 keep:∀ i h h',tn i h->(∀ b∈fp,∀ o,h.get? b=some o->h'.get? b=some o)->tn i h'
 item:∀ (X:Cx),X.prog=P->X.w=w->X.K=K->X.calm=true->∀ (i:Nat) (pins:List (Addr×Obj)) (s:va3) (σ:St) (H:Hp) (E:va2->va3->Prop),Inv X pins σ H s->(∀ b∈fp,FpOk X pins H b)->tn i s.heap->J.go i H ->
  vb1 (vb3 P w) X.A (vl2 (.ref it)) (λ r s1=>∃ u,r=some u /\
   vb1 (vb3 P w) X.A (vj5 tg (.ref it) u) (λ _ s2=>∃ x H',Inv X pins σ H' s2/\RelV x u/\J.yld i H x H'/\tn (i + 1) s2.heap/\∀ b∈fp,H' b=none) E s1) E s
 done:∀ (X:Cx),X.prog=P->X.w=w->X.K=K->X.calm=true->∀ (i:Nat) (pins:List (Addr×Obj)) (s:va3) (σ:St) (H:Hp) (E:va2->va3->Prop),Inv X pins σ H s->(∀ b∈fp,FpOk X pins H b)->tn i s.heap->J.stop i H ->
  vb1 (vb3 P w) X.A (vl2 (.ref it)) (λ r s1=>r=none/\Inv X pins σ H s1) E s
 self:∀ (A:vc0) (i:Nat) (s:va3) (Q:va2->va3->Prop) (E:va2->va3->Prop),tn i s.heap->Q (.ref it) s->vb1 (vb3 P w) A (pyIter (.ref it)) Q E s
abbrev TI:=St->Hp->(It->Hp->Prop)->Prop
def PIE (X:Cx) (pins:List (Addr×Obj)) (σ:St) (tg:Expr) (R:It->Hp->Prop) (itv:va2) (s2:va3):Prop:=
 ∃ (it:Addr) (fp:List Addr) (tn:Nat->Heap->Prop) (J:It) (H':Hp),itv=.ref it/\Inv X pins σ H' s2/\Turn X.prog X.w X.K tg J fp it tn/\tn 0 s2.heap/\(∀ b∈fp,FpOk X pins H' b)/\R J H'
def PI (X:Cx) (tg iter:Expr) (wi:TI):Prop:=
 ∀ (pins:List (Addr×Obj)) (s:va3) (σ:St) (H:Hp) (R:It->Hp->Prop),Inv X pins σ H s->wi σ H R ->
  vb1 (vb3 X.prog X.w) X.A (eval iter X.env) (λ v s1=>vb1 (vb3 X.prog X.w) X.A (pyIter v) (PIE X pins σ tg R) X.xe s1) X.xe s
theorem qg6 {M:Model}{A:vc0}{E:va2->va3->Prop}{s:va3}{tg:Expr}{it:Addr}{u:va2}{o:Obj}{n:String}{vs:Array va2}{Q:Unit->va3->Prop} (ho:s.heap.get? it=some o) (hc:o.cls=.type n) (hd:o.data=.fields vs)
  (hn:["enumerate","zip","dict_itemiterator","dict_reverseitemiterator","odict_iterator","itertools.zip_longest","itertools.pairwise"].contains n=false) (hQ:Q () s):vb1 M A (vj5 tg (.ref it) u) Q E s:=by
 unfold vj5
 cases tg <;> first
  | exact va5 hQ
  | (cases u <;> first
    | exact va5 hQ
    | (refine va0 (wpAny_load ho ?_);rw [hc,hd];show vb1 M A (if (["enumerate","zip","dict_itemiterator","dict_reverseitemiterator","odict_iterator","itertools.zip_longest","itertools.pairwise"].contains n && vs[0]? == some (vk1 _))=true then _ else _) Q E s;rw [if_neg (by intro h;rw [hn,jl1] at h;cases h)];exact va5 hQ))
def Itl (K:va8) (a:Addr):It:=
 ⟨λ i H=>∃ xs x,SqL K H a xs/\xs[i]?=some x,λ i H x H'=>H'=H/\∀ xs,SqL K H a xs->xs[i]?=some x,λ i H=>∃ xs,SqL K H a xs/\xs.length<=i⟩
def Itt (K:va8) (a:Addr):It:=
 ⟨λ i H=>∃ xs x,SqT K H a xs/\xs[i]?=some x,λ i H x H'=>H'=H/\∀ xs,SqT K H a xs->xs[i]?=some x,λ i H=>∃ xs,SqT K H a xs/\xs.length<=i⟩
def Itr (lo:Int) (n:Nat):It:=⟨λ i _=>i < n,λ i H x H'=>H'=H/\x=.int (lo + i),λ i _=>n<=i⟩
theorem qcc {P:vb0}{w:vb8}{K:va8}{tg:Expr} (a it:Addr):Turn P w K tg (Itl K a) [it] it (λ i h=>h.IsListIter it a i) where
 mem:=by simp
 obj:=λ i h st b hb=>by
  have e:b=it:=by simpa using hb
  subst e
  obtain ⟨o,e,c,d⟩:=st
  exact ⟨o,e,λ v z=>by rw [d] at z;cases z⟩
 keep:=λ i h h' st k=>st.at λ o e=>k it (by simp) o e
 item:=by
  intro X hP hw hK hc i pins s σ H E I hf st hg
  subst hP hw hK
  obtain ⟨xs,x,hq,hx⟩:=hg
  obtain ⟨its,rv,p,hz⟩:=I.list hq
  obtain ⟨u,hu,ru⟩:=rv.get hx
  obtain ⟨f0,f1,f2,f3,f4,f5⟩:=hf it (by simp)
  refine wpAny_pyNext_list_item st p.isList (x:=u) (by simpa using hu) λ h' st' sb=>?_
  have I1:Inv X pins σ H { s with heap:=h' }:=I.turned (t':=s.toks) (λ b o hb e=>(sb.2 b hb).trans e) f0 f1 f3 f4 f5
  obtain ⟨o,e,c,d⟩:=id st'
  exact ⟨u,rfl,qg6 (s:={ s with heap:=h' }) e c d (by decide) ⟨x,H,I1,ru,⟨rfl,λ ys hy=>by rw [I.list_inj hy hq];exact hx⟩,st',λ b hb=>(hf b hb).1⟩⟩
 done:=by
  intro X hP hw hK hc i pins s σ H E I hf st hg
  subst hP hw hK
  obtain ⟨xs,hq,hx⟩:=hg
  obtain ⟨its,rv,p,hz⟩:=I.list hq
  obtain ⟨f0,f1,f2,f3,f4,f5⟩:=hf it (by simp)
  have hl:=rv.length
  exact wpAny_pyNext_list_end (I.ok.hd hc) st p.isList (by simp;(clear f3 hz;omega)) λ h' eb=>⟨rfl,I.turned (t':=s.toks) (λ b o hb e=>eb b o hb e) f0 f1 f3 f4 f5⟩
 self:=λ _ _ _ _ _ st h=>wpAny_pyIter_listiter st h
theorem qbo {P:vb0}{w:vb8}{K:va8}{tg:Expr} (a it:Addr):Turn P w K tg (Itt K a) [it] it (λ i h=>h.IsTupleIter it a i) where
 mem:=by simp
 obj:=λ i h st b hb=>by
  have e:b=it:=by simpa using hb
  subst e
  obtain ⟨o,e,c,d⟩:=st
  exact ⟨o,e,λ v z=>by rw [d] at z;cases z⟩
 keep:=λ i h h' st k=>st.at λ o e=>k it (by simp) o e
 item:=by
  intro X hP hw hK hc i pins s σ H E I hf st hg
  subst hP hw hK
  obtain ⟨xs,x,hq,hx⟩:=hg
  obtain ⟨its,rv,p,hz⟩:=I.tuple hq
  obtain ⟨u,hu,ru⟩:=rv.get hx
  obtain ⟨f0,f1,f2,f3,f4,f5⟩:=hf it (by simp)
  refine wpAny_pyNext_tuple_item st (show s.heap.IsTuple a its.toArray from p) (x:=u) (by simpa using hu) λ h' st' sb=>?_
  have I1:Inv X pins σ H { s with heap:=h' }:=I.turned (t':=s.toks) (λ b o hb e=>(sb.2 b hb).trans e) f0 f1 f3 f4 f5
  obtain ⟨o,e,c,d⟩:=id st'
  exact ⟨u,rfl,qg6 (s:={ s with heap:=h' }) e c d (by decide) ⟨x,H,I1,ru,⟨rfl,λ ys hy=>by rw [I.tuple_inj hy hq];exact hx⟩,st',λ b hb=>(hf b hb).1⟩⟩
 done:=by
  intro X hP hw hK hc i pins s σ H E I hf st hg
  subst hP hw hK
  obtain ⟨xs,hq,hx⟩:=hg
  obtain ⟨its,rv,p,hz⟩:=I.tuple hq
  obtain ⟨f0,f1,f2,f3,f4,f5⟩:=hf it (by simp)
  have hl:=rv.length
  exact wpAny_pyNext_tuple_end (I.ok.hd hc) st (show s.heap.IsTuple a its.toArray from p) (by simp;(clear f3 hz;omega)) λ h' eb=>⟨rfl,I.turned (t':=s.toks) (λ b o hb e=>eb b o hb e) f0 f1 f3 f4 f5⟩
 self:=λ _ _ _ _ _ st h=>wpAny_pyIter_tupleiter st h
theorem qbp {P:vb0}{w:vb8}{K:va8}{tg:Expr} (it:Addr) (lo:Int) (n:Nat):Turn P w K tg (Itr lo n) [it] it (λ i h=>IsRangeIter h it (lo + (i:Nat) * 1) ((n:Int) - (i:Nat)) 1) where
 mem:=by simp
 obj:=λ i h st b hb=>by
  have e:b=it:=by simpa using hb
  subst e
  exact ⟨_,st,λ v z=>by
   have z':Data.fields _=Data.cell v:=z
   cases z'⟩
 keep:=λ i h h' st k=>k it (by simp) _ st
 item:=by
  intro X hP hw hK hc i pins s σ H E I hf st hg
  subst hP hw hK
  obtain ⟨f0,f1,f2,f3,f4,f5⟩:=hf it (by simp)
  have W:=Walks.range (prog:=X.prog) (w:=X.w) (I.ok.hd hc) it lo 1 n
  refine W.item i s _ _ hg st λ v h' tk hv st' kk=>?_
  obtain ⟨t,rfl⟩:=hv
  have I1:Inv X pins σ H { s with heap:=h',toks:=tk }:=I.turned (λ b o hb e=>kk b o (by simpa using hb) e) f0 f1 f3 f4 f5
  refine ⟨_,rfl,qg6 (s:={ s with heap:=h',toks:=tk }) (n := "range_iterator") st' rfl rfl (by decide) ⟨.int (lo + i),H,I1,⟨t,?_⟩,⟨rfl,rfl⟩,st',λ b hb=>(hf b hb).1⟩⟩
  rw [Int.mul_one]
 done:=by
  intro X hP hw hK hc i pins s σ H E I hf st hg
  subst hP hw hK
  obtain ⟨f0,f1,f2,f3,f4,f5⟩:=hf it (by simp)
  exact wpAny_pyNext_range_end (I.ok.hd hc) st (by have:n<=i:=hg;omega) λ h' eb=>⟨rfl,I.turned (t':=s.toks) (λ b o hb e=>eb b o hb e) f0 f1 f3 f4 f5⟩
 self:=λ _ _ _ _ _ st h=>wpAny_pyIter_rangeiter st h
section
variable {X:Cx}{tg:Expr}
theorem qaj {pins:List (Addr×Obj)}{σ:St}{H:Hp}{s:va3}{R:It->Hp->Prop}{E:va2->va3->Prop}{lo hi:Int}{t u v:Tok}{tk:Nat} (I:Inv X pins σ H s) (h1:-(2 ^ 62)<=lo) (h2:lo < 2 ^ 62) (h3:-(2 ^ 62)<=hi) (h4:hi < 2 ^ 62)
  (q:R (Itr lo (hi - lo).toNat) H):vb1 (vb3 X.prog X.w) X.A (pyIter (.ref s.heap.objs.size)) (PIE X pins σ tg R) E { s with heap:=s.heap.push { cls:=.type "range",data:=.fields #[.int lo t,.int hi u,.int 1 v] },toks:=tk }:=by
 refine wpAny_pyIter_range (IsRange.new ..) (small_one h1 h2 h3 h4) ?_
 have I1:Inv X pins σ H { s with heap:=s.heap.push { cls:=.type "range",data:=.fields #[.int lo t,.int hi u,.int 1 v] },toks:=tk }:=I.kept λ b o e=>va1 _ e
 refine ⟨(s.heap.push { cls:=.type "range",data:=.fields #[.int lo t,.int hi u,.int 1 v] }).objs.size,[(s.heap.push { cls:=.type "range",data:=.fields #[.int lo t,.int hi u,.int 1 v] }).objs.size],_,_,H,rfl,
  I1.kept (t':=tk) λ b o e=>va1 _ e,qbp _ lo (hi - lo).toNat,?_,λ b hb=>?_,q⟩
 ·have e1:lo + ((0:Nat):Int) * 1=lo:=by simp
  have e2:(((hi - lo).toNat:Nat):Int) - ((0:Nat):Int)=Builtin.Range.rangeSize lo hi 1:=by rw [rangeSize_one];split <;> (clear e1 h4 h3 h2 h1;omega)
  show IsRangeIter _ _ (lo + ((0:Nat):Int) * 1) ((((hi - lo).toNat:Nat):Int) - ((0:Nat):Int)) 1
  rw [e1,e2]
  exact va7 _ rfl
 ·have e:b=(s.heap.push { cls:=.type "range",data:=.fields #[.int lo t,.int hi u,.int 1 v] }).objs.size:=by simpa using hb
  subst e
  exact I1.fpOk (jb4 _) (I1.hok.fresh (jb4 _))
def qg0 (ta:TA):TI:=λ σ H R=>ta σ H λ vs H1=>∃ j:Int,vs=[.int j]/\-(2 ^ 62)<=j/\j < 2 ^ 62/\R (Itr 0 j.toNat) H1
def qgz (ta:TA):TI:=λ σ H R=>ta σ H λ vs H1=>∃ i j:Int,vs=[.int i,.int j]/\(-(2 ^ 62)<=i/\i < 2 ^ 62/\-(2 ^ 62)<=j/\j < 2 ^ 62)/\R (Itr i (j - i).toNat) H1
theorem qdg {a:Expr}{ta:TA}{p pos:Pos} (hg:Gl X "range") (hm:X.mg "range" = none) (ha:PA X [a] ta) (hs:va9 [a] X.env=[(false,eval a X.env)]:=by rfl):PI X tg (.Call (.Name "range" p) [a] [] pos) (qg0 ta):=by
 intro pins s σ H R I h
 refine Call_ (zpg I hg hm boot_range (vf1 (thn (ha pos pins s σ H _ I h) λ us s1 ⟨vs,H1,I1,r1,q1⟩=>?_) hs rfl))
 obtain ⟨j,e,q1,q2,q⟩:=q1
 subst e
 cases r1 with
 | cons r rr=>
  cases rr
  obtain ⟨t,rfl⟩:=r
  exact call_range_1 (qaj I1 (by (clear q2 q1;omega)) (by (clear q2 q1;omega)) q1 q2 (by simpa using q))
theorem qdf {a b:Expr}{ta:TA}{p pos:Pos} (hg:Gl X "range") (hm:X.mg "range" = none) (ha:PA X [a,b] ta) (hs:va9 [a,b] X.env=[(false,eval a X.env),(false,eval b X.env)]:=by rfl) (hs2:va9 [b] X.env=[(false,eval b X.env)]:=by rfl):
  PI X tg (.Call (.Name "range" p) [a,b] [] pos) (qgz ta):=by
 intro pins s σ H R I h
 refine Call_ (zpg I hg hm boot_range (vf1 (thn (ha pos pins s σ H _ I h) λ us s1 ⟨vs,H1,I1,r1,q1⟩=>?_) (by rw [hs,hs2]) (by rw [hs2];rfl)))
 obtain ⟨i,j,e,⟨q1,q2,q3,q4⟩,q⟩:=q1
 subst e
 cases r1 with
 | cons r rr=>
  cases rr with
  | cons r' rr=>
   cases rr
   obtain ⟨t,rfl⟩:=r
   obtain ⟨t',rfl⟩:=r'
   exact call_range_2 (qaj I1 q1 q2 q3 q4 q)
def tFor (wi:TI) (g:TG) (tb:TS):TS:=λ D σ H=>wi σ H λ J H1=>∃ W:Nat->Nat->St->Hp->Prop,(∃ m,W 0 m σ H1)/\∀ i m σ H,W i m σ H ->
 (J.stop i H/\D.nx σ H)\/(J.go i H/\∃ N:St->Hp->Prop,(∀ σ' H',N σ' H'->∃ m',m' < m/\W (i + 1) m' σ' H')/\∀ x H',J.yld i H x H'->g x σ H' λ σ2 H2=>tb { D with nx:=N,ct:=N,bk:=D.nx } σ2 H2)
def zfm (fp:List Addr) (h:Heap):List (Addr×Obj):=fp.filterMap λ b=>(h.get? b).map λ o=>(b,o)
theorem zvj {fp:List Addr}{h:Heap}{b:Addr}{o:Obj} (hb:b∈fp) (e:h.get? b=some o):(b,o)∈zfm fp h:=jk6.mpr ⟨b,hb,by rw [e];rfl⟩
theorem qdr {fp:List Addr}{h:Heap}{p:Addr×Obj} (hp:p∈zfm fp h):p.1∈fp/\h.get? p.1=some p.2:=by
 obtain ⟨b,hb,e⟩:=jk6.mp hp
 cases q:h.get? b with
 | none=>rw [q] at e;cases e
 | some o=>
  rw [q] at e
  have e':(b,o)=p:=Option.some.inj e
  subst e'
  exact ⟨hb,q⟩
theorem Inv.pinned {pins:List (Addr×Obj)}{σ:St}{H:Hp}{s:va3}{fp:List Addr} (I:Inv X pins σ H s) (hf:∀ b∈fp,FpOk X pins H b) (ho:∀ b∈fp,∃ o,s.heap.get? b=some o/\∀ v,o.data≠.cell v):Inv X (pins++zfm fp s.heap) σ H s:=
 I.pins_of λ p hp=>(jc4.mp hp).elim (λ z=>I.pin p (ja2 _ z)) λ z=>by
  obtain ⟨hb,e⟩:=qdr z
  obtain ⟨f0,f1,f2,_⟩:=hf p.1 hb
  obtain ⟨o,e',d⟩:=ho p.1 hb
  rw [e] at e';cases e'
  exact ⟨e,f0,f1,f2,d⟩
theorem Inv.unpinned {pins pl:List (Addr×Obj)}{σ:St}{H:Hp}{s:va3} (I:Inv X (pins++pl) σ H s):Inv X pins σ H s:=I.pins_of λ p hp=>I.pin p (ja2 _ (ja9 _ hp))
theorem zvp {iter:Expr}{body:List Stmt}{wi:TI}{g:TG}{tb:TS}{pos:Pos} (hp:vl5 (vb3 X.prog X.w) X.A X.env X.xe) (hc:X.calm=true) (hi:PI X tg iter wi) (hg:PG X tg g) (hb:PSs X body tb)
  (hs:∀ x,vi2 iter X.env x=pure x:=by intro _;rfl):PS X (.For tg iter body [] pos) (tFor wi g tb):=by
 intro pins s σ H D I h
 refine wpAny_For (thn (hi pins s σ H _ I h) λ v s1 h1=>thn h1 λ itv s2 h2=>?_) hs
 obtain ⟨it,fp,tn,J,H2,e,I2,T,st2,f2,W,⟨m0,w0⟩,turn⟩:=h2
 subst e
 have stat:∀ {H':Hp},(∀ b∈fp,H' b=none)->∀ b∈fp,FpOk X pins H' b:=λ hn b hb=>⟨hn b hb,(f2 b hb).2⟩
 refine codeAny_forLoop_any (λ n s'=>∃ i σ' H',Inv X pins σ' H' s'/\tn i s'.heap/\(∀ b∈fp,H' b=none)/\W i n σ' H') ?_ m0 ⟨0,σ,H2,I2,st2,λ b hb=>(f2 b hb).1,w0⟩
 rintro n s3 ⟨i,σ3,H3,I3,st3,fr3,w3⟩
 rcases turn i n σ3 H3 w3 with ⟨stop,qn⟩ | ⟨go,N,hN,step⟩
 ·refine vf0 hp (thn (T.done X rfl rfl rfl hc i pins s3 σ3 H3 X.xe I3 (stat fr3) st3 stop) λ r s4 ⟨hr,I4⟩=>?_)
  subst hr
  exact vh0 ⟨σ3,H3,I4,qn⟩
 ·refine vf0 hp (thn (T.item X rfl rfl rfl hc i pins s3 σ3 H3 X.xe I3 (stat fr3) st3 go) λ r s4 ⟨u,hr,h4⟩=>?_)
  subst hr
  refine vf0 hp (thn h4 λ _ s5 ⟨x,H5,I5,r5,y5,st5,fr5⟩=>?_)
  have I5':=I5.pinned (stat fr5) (T.obj _ _ st5)
  refine vf0 hp (thn (hg _ s5 σ3 H5 x u _ I5' r5 (step x H5 y5)) λ _ s6 ⟨σ6,H6,I6,q6⟩=>?_)
  refine vf0 hp (thn (hb _ s6 σ6 H6 _ I6 q6) λ f s7 q7=>?_)
  have again:∀ {σ7:St}{H7:Hp},Inv X (pins++zfm fp s5.heap) σ7 H7 s7->N σ7 H7->∃ m,m < n/\∃ i σ' H',Inv X pins σ' H' s7/\tn i s7.heap/\(∀ b∈fp,H' b=none)/\W i m σ' H':=λ {σ7 H7} I7 n7=>by
   obtain ⟨m',hm,w7⟩:=hN σ7 H7 n7
   refine ⟨m',hm,i + 1,σ7,H7,I7.unpinned,T.keep _ _ _ st5 λ b hb o e=>(I7.pin (b,o) (ja2 _ (ja2 _ (zvj hb e)))).1,λ b hb=>?_,w7⟩
   obtain ⟨o,e,d⟩:=T.obj _ _ st5 b hb
   exact (I7.pin (b,o) (ja2 _ (ja2 _ (zvj hb e)))).2.1
  cases f with
  | next=>obtain ⟨σ7,H7,I7,n7⟩:=q7;exact again I7 n7
  | cont=>obtain ⟨σ7,H7,I7,n7⟩:=q7;exact again I7 n7
  | brk=>obtain ⟨σ7,H7,I7,q7⟩:=q7;exact ⟨σ7,H7,I7.unpinned,q7⟩
  | ret v=>obtain ⟨x7,σ7,H7,I7,r7,q7⟩:=q7;exact ⟨x7,σ7,H7,I7.unpinned,r7,q7⟩
end
abbrev R2:=V->V->Hp->VK->Prop
def OpR (X:Cx) (f:va2->va2->Sem va2) (r:R2):Prop:=
 ∀ (pins:List (Addr×Obj)) (s:va3) (σ:St) (H:Hp) (x y:V) (v u:va2) (Q:VK),Inv X pins σ H s->RelV x v->RelV y u->r x y H Q ->
  vb1 (vb3 X.prog X.w) X.A (f v u) (EP X pins σ Q) X.xe s
def UnR (X:Cx) (f:va2->Sem va2) (r:V->Hp->VK->Prop):Prop:=
 ∀ (pins:List (Addr×Obj)) (s:va3) (σ:St) (H:Hp) (x:V) (v:va2) (Q:VK),Inv X pins σ H s->RelV x v->r x H Q ->
  vb1 (vb3 X.prog X.w) X.A (f v) (EP X pins σ Q) X.xe s
def zzd (X:Cx) (f:va2) (r:List V->Hp->VK->Prop):Prop:=
 ∀ (pins:List (Addr×Obj)) (s:va3) (σ:St) (H:Hp) (xs:List V) (us:List va2) (Q:VK),Inv X pins σ H s->Vals xs us->r xs H Q ->
  vb1 (vb3 X.prog X.w) X.A (call f us) (EP X pins σ Q) X.xe s
def tOp (r:R2) (ta tb:TE):TE:=λ σ H Q=>ta σ H λ x H1=>tb σ H1 λ y H2=>r x y H2 Q
def tUn (r:V->Hp->VK->Prop) (ta:TE):TE:=λ σ H Q=>ta σ H λ x H1=>r x H1 Q
def rI (C:Int->Int->Prop) (g:Int->Int->V):R2:=λ x y H Q=>∃ i j,x=.int i/\y=.int j/\C i j/\Q (g i j) H
def rI0 (g:Int->Int->V):R2:=λ x y H Q=>∃ i j,x=.int i/\y=.int j/\Q (g i j) H
def rU (g:Int->V):V->Hp->VK->Prop:=λ x H Q=>∃ i,x=.int i/\Q (g i) H
section
variable {X:Cx}{a b c:Expr}{ta tb tc:TE}{pos:Pos}
theorem binT (ha:PE X a ta) (hb:PE X b tb) {pins:List (Addr×Obj)}{s:va3}{σ:St}{H:Hp}{R:V->V->Hp->Prop} (I:Inv X pins σ H s)
  (h:ta σ H λ x H1=>tb σ H1 λ y H2=>R x y H2) {Q:va2->va3->Prop}{f:va2->va2->Sem va2}
  (hf:∀ v u s2 x y H2,Inv X pins σ H2 s2->RelV x v->RelV y u->R x y H2->vb1 (vb3 X.prog X.w) X.A (f v u) Q X.xe s2):
  vb1 (vb3 X.prog X.w) X.A (eval a X.env) (λ v s₁=>vb1 (vb3 X.prog X.w) X.A (eval b X.env) (λ u s₂=>vb1 (vb3 X.prog X.w) X.A (f v u) Q X.xe s₂) X.xe s₁) X.xe s:=by
 refine thn (ha pins s σ H _ I h) λ v s1 ⟨x,H1,I1,r1,q1⟩=>?_
 refine thn (hb pins s1 σ H1 _ I1 q1) λ u s2 ⟨y,H2,I2,r2,q2⟩=>?_
 exact hf v u s2 x y H2 I2 r1 r2 q2
theorem qgd {op:Operator}{r:R2} (ho:OpR X (vg0 op) r) (ha:PE X a ta) (hb:PE X b tb):PE X (.BinOp a op b pos) (tOp r ta tb):=by
 intro pins s σ H Q I h
 exact wpAny_BinOp (binT ha hb I h λ v u s2 x y H2 I2 rx ry q=>ho pins s2 σ H2 x y v u Q I2 rx ry q)
theorem qo4 {op:UnaryOp}{r:V->Hp->VK->Prop} (ho:UnR X (unaryOp op) r) (ha:PE X a ta):PE X (.UnaryOp op a pos) (tUn r ta):=by
 intro pins s σ H Q I h
 exact UnaryOp_ (thn (ha pins s σ H _ I h) λ v s1 ⟨x,H1,I1,r1,q1⟩=>ho pins s1 σ H1 x v Q I1 r1 q1)
theorem opI {f:va2->va2->Sem va2}{C:Int->Int->Prop}{g:Int->Int->Int}
  (rule:∀ (i j:Int) (t u:Tok) (s:va3) (Q:va2->va3->Prop) (E:va2->va3->Prop),C i j->Q (.int (g i j) s.toks) { s with toks:=s.toks + 1 }->vb1 (vb3 X.prog X.w) X.A (f (.int i t) (.int j u)) Q E s):
  OpR X f (rI C λ i j=>.int (g i j)):=by
 intro pins s σ H x y v u Q I rx ry h
 obtain ⟨i,j,rfl,rfl,hc,q⟩:=h
 obtain ⟨t,rfl⟩:=rx
 obtain ⟨t',rfl⟩:=ry
 exact rule i j t t' s _ _ hc ⟨.int (g i j),H,I.tok _,⟨_,rfl⟩,q⟩
theorem opI0 {f:va2->va2->Sem va2}{g:Int->Int->Int}
  (rule:∀ (i j:Int) (t u:Tok) (s:va3) (Q:va2->va3->Prop) (E:va2->va3->Prop),Q (.int (g i j) s.toks) { s with toks:=s.toks + 1 }->vb1 (vb3 X.prog X.w) X.A (f (.int i t) (.int j u)) Q E s):
  OpR X f (rI0 λ i j=>.int (g i j)):=by
 intro pins s σ H x y v u Q I rx ry h
 obtain ⟨i,j,rfl,rfl,q⟩:=h
 obtain ⟨t,rfl⟩:=rx
 obtain ⟨t',rfl⟩:=ry
 exact rule i j t t' s _ _ ⟨.int (g i j),H,I.tok _,⟨_,rfl⟩,q⟩
theorem opB0 {f:va2->va2->Sem va2}{g:Int->Int->Bool}
  (rule:∀ (i j:Int) (t u:Tok) (s:va3) (Q:va2->va3->Prop) (E:va2->va3->Prop),Q (.bool (g i j)) s->vb1 (vb3 X.prog X.w) X.A (f (.int i t) (.int j u)) Q E s):
  OpR X f (rI0 λ i j=>.bl (g i j)):=by
 intro pins s σ H x y v u Q I rx ry h
 obtain ⟨i,j,rfl,rfl,q⟩:=h
 obtain ⟨t,rfl⟩:=rx
 obtain ⟨t',rfl⟩:=ry
 exact rule i j t t' s _ _ ⟨.bl (g i j),H,I,rfl,q⟩
def CPow (i j:Int):Prop:=0<=j/\j<=1000000/\i.natAbs < 2 ^ 64
def CMul (i j:Int):Prop:=(-(2 ^ 64) < i/\i < 2 ^ 64)\/(-(2 ^ 64) < j/\j < 2 ^ 64)
theorem CMul.ok {i j:Int} (h:CMul i j):IntMulOk i j:=by
 rcases h with ⟨h1,h2⟩ | ⟨h1,h2⟩
 ·exact .of_left (intBits_le_64 h1 h2)
 ·exact .of_right (intBits_le_64 h1 h2)
theorem qnk:OpR X (vg0 .Add) (rI0 λ i j=>.int (i + j)):=opI0 λ _ _ _ _ _ _ _ q=>add_int q
theorem qm9:OpR X (vg0 .Mult) (rI CMul λ i j=>.int (i * j)):=opI λ _ _ _ _ _ _ _ hc q=>mul_int q hc.ok
theorem qna:OpR X (vg0 .Mod) (rI (λ _ j=>0 < j) λ i j=>.int (i % j)):=opI λ i j _ _ _ _ _ hc q=>by
 have h1:(0:Int) < j:=hc
 exact mod_int' (by omega) (by rw [Int.fmod_eq_emod_of_nonneg i (by omega)];exact q)
theorem qm7:OpR X (vg0 .Pow) (rI CPow λ i j=>.int (i ^ j.toNat)):=opI λ _ _ _ _ _ _ _ hc q=>pow_int_small hc.1 hc.2.1 hc.2.2 q
theorem unI {f:va2->Sem va2}{g:Int->Int}
  (rule:∀ (i:Int) (t:Tok) (s:va3) (Q:va2->va3->Prop) (E:va2->va3->Prop),Q (.int (g i) s.toks) { s with toks:=s.toks + 1 }->vb1 (vb3 X.prog X.w) X.A (f (.int i t)) Q E s):
  UnR X f (rU λ i=>.int (g i)):=by
 intro pins s σ H x v Q I rx h
 obtain ⟨i,rfl,q⟩:=h
 obtain ⟨t,rfl⟩:=rx
 exact rule i t s _ _ ⟨.int (g i),H,I.tok _,⟨_,rfl⟩,q⟩
theorem qlh:UnR X (unaryOp .USub) (rU λ i=>.int (-i)):=unI λ _ _ _ _ _ q=>neg_int q
end
def scal:V->V->Bool
 | .non,.non=>true | .non,.int _=>true | .int _,.non=>true | .non,.bl _=>true | .bl _,.non=>true | .non,.str _=>true | .str _,.non=>true
 | .int _,.int _=>true | .bl _,.bl _=>true | .str _,.str _=>true | .byt _,.byt _=>true
 | .int _,.str _=>true | .str _,.int _=>true | .bl _,.str _=>true | .str _,.bl _=>true
 | _,_=>false
def rEq:R2:=λ x y H Q=>scal x y=true/\Q (.bl (decide (x=y))) H
theorem qe0 {i j:Int}:decide (V.int i=V.int j)=(i == j):=by
 rw [jg6]
 simp
theorem qod {i j:Bool}:decide (V.bl i=V.bl j)=(i == j):=by
 rw [jg6]
 simp
theorem qkw {i j:Str}:decide (V.str i=V.str j)=(i == j):=by
 rw [jg6]
 simp
theorem qkx {i j:Array UInt8}:decide (V.byt i=V.byt j)=(i.toList == j.toList):=by
 rw [jg6]
 cases i
 cases j
 simp
section
variable {X:Cx}{a b c:Expr}{ta tb tc:TE}{pos:Pos}
theorem zwk {pins:List (Addr×Obj)}{σ:St}{H:Hp}{s:va3}{Q:VK}{k k':Bool} (I:Inv X pins σ H s) (q:Q (.bl k) H) (e:k=k'):EP X pins σ Q (.bool k') s:=by
 subst e
 exact ⟨.bl k,H,I,rfl,q⟩
theorem qo8:OpR X (vb4 .Eq) rEq:=by
 intro pins s σ H x y v u Q I rx ry h
 obtain ⟨hs,q⟩:=h
 cases x with
 | non=>
  cases rx
  cases y with
  | non=>cases ry;exact PySem.EqNone.eq_none_none (zwk I q (by simp))
  | bl j=>cases ry;exact PySem.EqNone.eq_none_bool (zwk I q (by simp))
  | int j=>obtain ⟨t',rfl⟩:=ry;exact PySem.EqNone.eq_none_int (zwk I q (by simp))
  | str j=>obtain ⟨t',rfl⟩:=ry;exact PySem.EqNone.eq_none_str (zwk I q (by simp))
  | _=>exact absurd (show false=true from hs) jb8
 | bl i=>
  cases rx
  cases y with
  | non=>cases ry;exact PySem.EqNone.eq_bool_none (zwk I q (by simp))
  | bl j=>cases ry;exact eq_bool (zwk I q qod)
  | str j=>obtain ⟨t',rfl⟩:=ry;exact PySem.EqMixed.eq_bool_str (zwk I q (by simp))
  | _=>exact absurd (show false=true from hs) jb8
 | int i=>
  obtain ⟨t,rfl⟩:=rx
  cases y with
  | non=>cases ry;exact PySem.EqNone.eq_int_none (zwk I q (by simp))
  | int j=>obtain ⟨t',rfl⟩:=ry;exact eq_int (zwk I q qe0)
  | str j=>obtain ⟨t',rfl⟩:=ry;exact PySem.EqMixed.eq_int_str (zwk I q (by simp))
  | _=>exact absurd (show false=true from hs) jb8
 | str i=>
  obtain ⟨t,rfl⟩:=rx
  cases y with
  | non=>cases ry;exact PySem.EqNone.eq_str_none (zwk I q (by simp))
  | bl j=>cases ry;exact PySem.EqMixed.eq_str_bool (zwk I q (by simp))
  | int j=>obtain ⟨t',rfl⟩:=ry;exact PySem.EqMixed.eq_str_int (zwk I q (by simp))
  | str j=>obtain ⟨t',rfl⟩:=ry;exact eq_str (zwk I q qkw)
  | _=>exact absurd (show false=true from hs) jb8
 | byt i=>
  obtain ⟨t,rfl⟩:=rx
  cases y with
  | byt j=>obtain ⟨t',rfl⟩:=ry;exact PySem.W.eq_bytes (zwk I q qkx)
  | _=>exact absurd (show false=true from hs) jb8
 | _=>cases y <;> exact absurd (show false=true from hs) jb8
theorem qnb:OpR X (vb4 .Lt) (rI0 λ i j=>.bl (decide (i < j))):=opB0 λ _ _ _ _ _ _ _ q=>lt_int q
theorem qnc:OpR X (vb4 .LtE) (rI0 λ i j=>.bl (decide (i<=j))):=opB0 λ _ _ _ _ _ _ _ q=>le_int q
theorem qng:OpR X (vb4 .Gt) (rI0 λ i j=>.bl (decide (j < i))):=opB0 λ _ _ _ _ _ _ _ q=>gt_int q
theorem qnh:OpR X (vb4 .GtE) (rI0 λ i j=>.bl (decide (j<=i))):=opB0 λ _ _ _ _ _ _ _ q=>ge_int q
theorem qnd:OpR X (vb4 .Is) (λ x y H Q=>y=.non/\Q (.bl (decide (x=.non))) H):=by
 intro pins s σ H x y v u Q I rx ry h
 obtain ⟨rfl,q⟩:=h
 cases ry
 refine is_none_gen (zwk I q ?_)
 cases x <;> first
  | (cases rx;rfl)
  | (obtain ⟨t,rfl⟩:=rx;rfl)
theorem qj5:OpR X (vb4 .IsNot) (λ x y H Q=>y=.non/\Q (.bl (!decide (x=.non))) H):=by
 intro pins s σ H x y v u Q I rx ry h
 obtain ⟨rfl,q⟩:=h
 cases ry
 refine isnot_none_gen (zwk I q ?_)
 cases x <;> first
  | (cases rx;rfl)
  | (obtain ⟨t,rfl⟩:=rx;rfl)
theorem OpR.or {f:va2->va2->Sem va2}{r r':R2} (h:OpR X f r) (h':OpR X f r'):OpR X f (λ x y H Q=>r x y H Q\/r' x y H Q):=by
 intro pins s σ H x y v u Q I rx ry q
 rcases q with q | q
 ·exact h pins s σ H x y v u Q I rx ry q
 ·exact h' pins s σ H x y v u Q I rx ry q
theorem qj1 {op:vn2}{r:R2} (ho:OpR X (vb4 op) r) (ha:PE X a ta) (hb:PE X b tb) (hm:vg9 op b=false):PE X (.Compare a [op] [b] pos) (tOp r ta tb):=by
 intro pins s σ H Q I h
 exact wpAny_Compare1 (binT ha hb I h λ v u s2 x y H2 I2 rx ry q=>ho pins s2 σ H2 x y v u Q I2 rx ry q) hm
def qlm (t:TE):TT:=λ σ H Q=>t σ H λ x H'=>∃ k,x=.bl k/\Q k H'
theorem qjt {op:vn2}{r:R2} (ho:OpR X (vb4 op) r) (ha:PE X a ta) (hb:PE X b tb) (hm:vg9 op b=false):PT X (.Compare a [op] [b] pos) (qlm (tOp r ta tb)):=by
 intro pins s σ H Q I h
 refine wpAny_isTrue_Compare1 (thn (ha pins s σ H _ I h) λ v s1 ⟨x,H1,I1,r1,q1⟩=>thn (hb pins s1 σ H1 _ I1 q1) λ u s2 ⟨y,H2,I2,r2,q2⟩=>
  thn (ho pins s2 σ H2 x y v u _ I2 r1 r2 q2) λ c s3 ⟨z,H3,I3,r3,k,e,q3⟩=>?_) hm
 subst e
 cases r3
 exact vc6 ⟨H3,I3,q3⟩
def qcw (r r':R2) (ta tb tc:TE):TE:=λ σ H Q=>ta σ H λ x H1=>tb σ H1 λ y H2=>r x y H2 λ z H3=>∃ k,z=.bl k /\
 (if k=true then tc σ H3 λ w' H4=>r' y w' H4 Q else Q (.bl false) H3)
theorem qgf {op op':vn2}{r r':R2} (ho:OpR X (vb4 op) r) (ho':OpR X (vb4 op') r') (ha:PE X a ta) (hb:PE X b tb) (hc:PE X c tc)
  (hm:lastMarks [op,op'] [b,c]=false:=by with_unfolding_all rfl):PE X (.Compare a [op,op'] [b,c] pos) (qcw r r' ta tb tc):=by
 intro pins s σ H Q I h
 refine Compare_chain (thn (ha pins s σ H _ I h) λ v s1 ⟨x,H1,I1,r1,q1⟩=>chain_link (thn (hb pins s1 σ H1 _ I1 q1) λ u s2 ⟨y,H2,I2,r2,q2⟩=>
  thn (ho pins s2 σ H2 x y v u _ I2 r1 r2 q2) λ d s3 ⟨z,H3,I3,r3,k,e,q3⟩=>?_)) hm
 subst e
 cases r3
 refine vc6 ?_
 cases k with
 | false=>exact ite_ff ⟨.bl false,H3,I3,rfl,q3⟩
 | true=>exact ite_tt (chain_last (thn (hc pins s3 σ H3 _ I3 q3) λ w' s4 ⟨z',H4,I4,r4,q4⟩=>ho' pins s4 σ H4 y z' u w' Q I4 r2 r4 q4))
theorem qf8 {op op':vn2}{r r':R2} (ho:OpR X (vb4 op) r) (ho':OpR X (vb4 op') r') (ha:PE X a ta) (hb:PE X b tb) (hc:PE X c tc)
  (hm:lastMarks [op,op'] [b,c]=false:=by with_unfolding_all rfl):PT X (.Compare a [op,op'] [b,c] pos) (qlm (qcw r r' ta tb tc)):=by
 intro pins s σ H Q I h
 refine isTrue_chain (thn (ha pins s σ H _ I h) λ v s1 ⟨x,H1,I1,r1,q1⟩=>test_link (thn (hb pins s1 σ H1 _ I1 q1) λ u s2 ⟨y,H2,I2,r2,q2⟩=>
  thn (ho pins s2 σ H2 x y v u _ I2 r1 r2 q2) λ d s3 ⟨z,H3,I3,r3,k,e,q3⟩=>?_)) hm
 subst e
 cases r3
 refine vc6 ?_
 cases k with
 | false=>
  obtain ⟨k',e',q'⟩:=q3
  cases e'
  exact ite_ff ⟨H3,I3,q'⟩
 | true=>
  refine ite_tt (test_last (thn (hc pins s3 σ H3 _ I3 q3) λ w' s4 ⟨z',H4,I4,r4,q4⟩=>thn (ho' pins s4 σ H4 y z' u w' _ I4 r2 r4 q4) λ d' s5 ⟨z2,H5,I5,r5,k2,e2,q5⟩=>?_))
  subst e2
  cases r5
  exact vc6 ⟨H5,I5,q5⟩
theorem zpe:(va4:Nat) < 2 ^ 63:=by rw [sizeLine_eq];decide
theorem zpt {x:V}{us:List va2} (r:Vals [x] us):∃ u,us=[u]/\RelV x u:=by
 cases r with
 | cons r1 r2=>cases r2;exact ⟨_,rfl,r1⟩
theorem qcb {x y:V}{us:List va2} (r:Vals [x,y] us):∃ u w',us=[u,w']/\RelV x u/\RelV y w':=by
 cases r with
 | cons r1 r2=>
  cases r2 with
  | cons r3 r4=>cases r4;exact ⟨_,_,rfl,r1,r3⟩
theorem qff (hc:X.calm=true):zzd X (.builtin "max") (λ xs H Q=>∃ i j,xs=[.int i,.int j]/\Q (.int (if j > i then j else i)) H):=by
 intro pins s σ H xs us Q I r h
 obtain ⟨i,j,rfl,q⟩:=h
 obtain ⟨u,w',rfl,⟨t,rfl⟩,⟨t',rfl⟩⟩:=qcb r
 refine max_two_ints (I.ok.hd hc) λ h' tk k=>⟨_,H,I.kept k,?_,q⟩
 by_cases hj:j > i
 ·rw [if_pos hj,if_pos hj];exact ⟨_,rfl⟩
 ·rw [if_neg hj,if_neg hj];exact ⟨_,rfl⟩
theorem qfd (hc:X.calm=true):zzd X (.builtin "min") (λ xs H Q=>∃ i j,xs=[.int i,.int j]/\Q (.int (if j < i then j else i)) H):=by
 intro pins s σ H xs us Q I r h
 obtain ⟨i,j,rfl,q⟩:=h
 obtain ⟨u,w',rfl,⟨t,rfl⟩,⟨t',rfl⟩⟩:=qcb r
 refine min_two_ints (I.ok.hd hc) λ h' tk k=>⟨_,H,I.kept k,?_,q⟩
 by_cases hj:j < i
 ·rw [if_pos hj,if_pos hj];exact ⟨_,rfl⟩
 ·rw [if_neg hj,if_neg hj];exact ⟨_,rfl⟩
end
structure ObjM (h:Heap) (x dx C:Addr) (mA:Str->Option va2):Prop where
 obj:h.get? x=some (vo3 C dx)
 ns:h.Ns1 dx mA
 ne:dx≠x
theorem qd2 {h:Heap}{dx:Addr}{mA:Str->Option va2} (n:h.Ns1 dx mA):∃ od,h.get? dx=some od/\∀ name,vp1 name od=some (mA name):=by
 obtain ⟨o,es,ep,ho,hd,hk,_,hm⟩:=n
 refine ⟨o,ho,λ name=>?_⟩
 have e:=hm name
 unfold nsFind findBy at e
 rw [<- Array.find?_toList] at e
 unfold vp1
 rw [hd]
 dsimp only
 split
 ·rename_i y q
  rw [q] at e
  exact congrArg some e
 ·rename_i q
  rw [q] at e
  have a:es.toList.any (·.refKey)=false:=by
   rw [List.any_eq_false]
   intro y hy
   obtain ⟨z,t,hkey⟩:=hk y (Array.mem_toList_iff.mp hy)
   simp [DictEntry.refKey,hkey]
  have a':¬ es.toList.any (·.refKey)=true:=by rw [a];exact jb8
  rw [if_neg a']
  exact congrArg some e
theorem ObjM.look {h:Heap}{x dx C:Addr}{mA:Str->Option va2} (I:ObjM h x dx C mA):∃ od,PySem.W.InstAt h x (vo3 C dx) C (some od)/\∀ name,vp1 name od=some (mA name):=
 let ⟨od,ho,hl⟩:=qd2 I.ns
 ⟨od,⟨I.obj,rfl,rfl,ho⟩,hl⟩
section
variable {prog:vb0}{w:vb8}{A:vc0}{E:va2->va3->Prop}{s:va3}{K:va8}{x dx C f:Addr}{mA:Str->Option va2}{name:Str}{v:va2}
end
section
variable {P:vb0}{w:vb8}{H H':Hp}{h h':Heap}{a C dx:Addr}{fs fs':List (Str×V)}
theorem qkk (hok:HOk P w H h) (e:H a=some (.ins C dx fs)):∃ mA,ObjM h a dx C mA/\(∀ f,RelO (fs.lookup f) (mA f))/\PySem.Within mA (fs.map (·.1))/\fs.length<=1000/\H dx=some (.own a):=by
 obtain ⟨d,z,ne,ob,mA,n,r,q⟩:=(show zxu P w H h a (.ins C dx fs) from hok a _ e)
 exact ⟨mA,⟨ob,n,ne⟩,r,q,z,d⟩
end
structure Cls (K:va8) (C:Addr):Prop where
 pg:PySem.W.plainGet K C Str.empty=true
 hd:PySem.W.hasDictIn K C=true
 po:PySem.W.plainOver K C=true
 sa:vb6 K (.ref C) "__setattr__" = some (some (.builtin "object.__setattr__"))
theorem Cls.get {K:va8}{C:Addr} (c:Cls K C) (f:Str):PySem.W.plainGet K C f=true:=c.pg
structure Con (K:va8) (C:Addr) (f:Str) (v:V) (u:va2):Prop where
 at_:vb6 K (.ref C) f=some (some u)
 rel:RelV v u
 get:PySem.W.specialIn K u "__get__" = some none
 cp:PySem.W.copiedNames.contains f=false
structure Meth (K:va8) (C:Addr) (m:Str) (f:Addr):Prop where
 at_:vb6 K (.ref C) m=some (some (.ref f))
 fn:PySem.W.isFn K (.ref f)=true
 kp:ve5 K (.ref f)=true
section
variable {X:Cx}{pins:List (Addr×Obj)}{σ:St}{H:Hp}{s:va3}{a C dx:Addr}{fs:List (Str×V)}{f:Str}{v:V}{A:vc0}{E:va2->va3->Prop}
end
section
variable {X:Cx}{o e value:Expr}{f:Str}{pos pos' tpos:Pos}{ta tv:TE}
end
section
variable {X:Cx}{pins:List (Addr×Obj)}{σ:St}{H:Hp}{s:va3}{A:vc0}{E:va2->va3->Prop}{Q:va2->va3->Prop}{c:va2}{b:Bool}
inductive TyOf (K:va8) (H:Hp):V->va2->Prop where
 | non:TyOf K H .non (.type "NoneType")
 | bl (x:Bool):TyOf K H (.bl x) (.type "bool")
 | int (i:Int):TyOf K H (.int i) (.type "int")
 | str (x:Str):TyOf K H (.str x) (.type "str")
 | flt (x:UInt64):TyOf K H (.flt x) (.type "float")
 | lst {a:Addr}{xs:List V} (e:H a=some (.lst xs)):TyOf K H (.ref a) (.type "list")
 | frz {a:Addr}{o:Obj}{xs:List V} (e:H a=some (.frz o (.lst xs))):TyOf K H (.ref a) (.type "list")
 | tup {a:Addr}{xs:List V} (e:H a=some (.tup xs)):TyOf K H (.ref a) (.type "tuple")
 | dK {a:Addr}{kvs:List (Key×V)} (e:H a=some (.dK kvs)):TyOf K H (.ref a) (.type "dict")
 | dT {a:Addr}{kvs:List (List Key×V)} (e:H a=some (.dT kvs)):TyOf K H (.ref a) (.type "dict")
 | ins {a C dx:Addr}{fs:List (Str×V)} (e:H a=some (.ins C dx fs)) (cl:Cls K C) (ha:vb6 K (.ref C) "__class__" = some (some (.builtin "object.__class__")))
   (hn:PySem.W.specialIn K (.builtin "object.__class__") "__get__" = some (some (.builtin "getset_descriptor.__get__"))) (htk:PySem.W.takesIn K (.builtin "object.__class__")=some true)
   (hm:vd4 K C (.type "object")=some true):TyOf K H (.ref a) (.ref C)
theorem qeg {x:V}{u t:va2} (I:Inv X pins σ H s) (rx:RelV x u) (ty:TyOf X.K H x t) (e:vc1 X.K t c=some b) (h:∀ tk,Q (.bool b) { s with toks:=tk }):
  vb1 (vb3 X.prog X.w) A (call (.builtin "isinstance") [u,c]) Q E s:=by
 cases ty with
 | non=>cases (show u=Value.none from rx);exact vb9 vm1 I.kIn True.intro e (λ z=>nomatch z) h
 | bl y=>cases (show u=Value.bool y from rx);exact vb9 PySem.W.kitx_bool I.kIn True.intro e (λ z=>nomatch z) h
 | int i=>obtain ⟨t,q⟩:=(show ∃ t,u=Value.int i t from rx);cases q;exact vb9 PySem.W.kitx_int I.kIn True.intro e (λ z=>nomatch z) h
 | str y=>obtain ⟨t,q⟩:=(show ∃ t,u=Value.str y t from rx);cases q;exact vb9 PySem.W.kitx_str I.kIn True.intro e (λ z=>nomatch z) h
 | flt y=>obtain ⟨t,q⟩:=(show ∃ t,u=Value.float y t from rx);cases q;exact vb9 PySem.W.kitx_float I.kIn True.intro e (λ z=>nomatch z) h
 | @lst a xs ea=>
  cases (show u=Value.ref a from rx)
  obtain ⟨_,_,n,_,h1⟩:=(show zxu X.prog X.w H s.heap a (.lst xs) from I.hok a _ ea)
  exact vb9 PySem.W.kitx_list I.kIn ⟨_,h1,rfl⟩ e (λ z=>nomatch z) h
 | @frz a ob xs ea=>
  cases (show u=Value.ref a from rx)
  obtain ⟨_,_,_,n,_,h1⟩:=(show zxu X.prog X.w H s.heap a (.frz ob (.lst xs)) from I.hok a _ ea)
  exact vb9 PySem.W.kitx_list I.kIn ⟨_,h1,rfl⟩ e (λ z=>nomatch z) h
 | @tup a xs ea=>
  cases (show u=Value.ref a from rx)
  obtain ⟨_,_,_,p⟩:=(show zxu X.prog X.w H s.heap a (.tup xs) from I.hok a _ ea)
  obtain ⟨o,h1,h2,_⟩:=p
  exact vb9 PySem.W.kitx_tuple I.kIn ⟨o,h1,h2⟩ e (λ z=>nomatch z) h
 | @dK a kvs ea=>
  cases (show u=Value.ref a from rx)
  obtain ⟨_,_,vs,_,p⟩:=(show zxu X.prog X.w H s.heap a (.dK kvs) from I.hok a _ ea)
  obtain ⟨o,es,ep,h1,h2,_⟩:=p
  exact vb9 PySem.W.kitx_dict I.kIn ⟨o,h1,h2.1⟩ e (λ z=>nomatch z) h
 | @dT a kvs ea=>
  cases (show u=Value.ref a from rx)
  obtain ⟨_,_,xs,_,o,es,ep,h1,h2,_⟩:=(show zxu X.prog X.w H s.heap a (.dT kvs) from I.hok a _ ea)
  exact vb9 PySem.W.kitx_dict I.kIn ⟨o,h1,h2.1⟩ e (λ z=>nomatch z) h
 | @ins a C dx fs ea cl ha hn htk hm=>
  cases (show u=Value.ref a from rx)
  obtain ⟨mA,O,_⟩:=qkk I.hok ea
  obtain ⟨od,J,_⟩:=O.look
  exact vb9 (PySem.W.kitx_own (cl.get _) cl.hd ha hn htk hm) I.kIn J e (λ z=>nomatch z) h
end
structure Room (k:Nat) (A:vc0):Prop where
 hd:A.handled=none
 dp:A.depth + 3 * k + 5 < recursionLimit
 un:A.units + 16 * k + 200 < vi3
 gd:A.guards=some []
theorem Room.mono {j k:Nat}{A:vc0} (r:Room k A) (h:j<=k):Room j A:=⟨r.hd,by have:=r.dp;omega,by have:=r.un;omega,r.gd⟩
theorem Room.deeper {k:Nat}{A:vc0} (r:Room (k + 1) A) (env:Env):Room k (A.deeper env):=
 ⟨r.hd,by have:=r.dp;show A.depth + 1 + 3 * k + 5 < _;omega,by have:=r.un;show A.units + 3 + 16 * k + 200 < _;omega,r.gd⟩
theorem Room.depth {k:Nat}{A:vc0} (r:Room k A):A.depth < recursionLimit:=by have:=r.dp;omega
theorem Room.units {k:Nat}{A:vc0} (r:Room k A):A.units + 64 < vi3:=by have:=r.un;omega
def tNil:TA:=λ _ H Q=>Q [] H
def zbl (ta:TE) (tr:TA):TA:=λ σ H Q=>ta σ H λ x H1=>tr σ H1 λ xs H2=>Q (x::xs) H2
section
variable {X:Cx}{e:Expr}{es:List Expr}{te:TE}{t:TA}{pos:Pos}
theorem zzy:PA X [] tNil:=λ _ _ _ _ H Q I h=>Calls.spliced_nil ⟨[],H,I,.nil,h⟩
theorem zxi (ha:PE X e te) (hr:PA X es t) (hs:va9 (e::es) X.env=(false,eval e X.env)::va9 es X.env:=by rfl):PA X (e::es) (zbl te t):=by
 intro pos pins s σ H Q I h
 rw [hs]
 show vb1 _ _ (spliced ((false,eval e X.env)::vg5 pos (va9 es X.env))) _ _ s
 refine Calls.spliced_cons (thn (ha pins s σ H _ I h) λ u s1 ⟨x,H1,I1,r1,q1⟩=>?_)
 exact thn (hr pos pins s1 σ H1 _ I1 q1) λ us s2 ⟨xs,H2,I2,r2,q2⟩=>⟨x::xs,H2,I2,.cons r1 r2,q2⟩
def tTup (t:TA):TE:=λ σ H Q=>t σ H λ xs H1=>xs.length<=va4/\∀ p,H1 p=none->Q (.ref p) (upd H1 p (.tup xs))
def tLst (t:TA):TE:=λ σ H Q=>t σ H λ xs H1=>xs.length<=va4/\∀ p,H1 p=none->Q (.ref p) (upd H1 p (.lst xs))
theorem qh5 {x1} (h:PA X es t):PE X (.Tuple es x1 pos) (tTup t):=by
 intro pins s σ H Q I hq
 refine wpAny_Tuple_spliced (thn (h pos pins s σ H _ I hq) λ us s1 ⟨xs,H1,I1,r,z,q⟩=>⟨by rw [<- r.length];exact z,?_⟩)
 have hf:H1 s1.heap.objs.size=none:=I1.hok.fresh (jb4 _)
 refine ⟨.ref s1.heap.objs.size,upd H1 s1.heap.objs.size (.tup xs),I1.laid (t':=s1.toks) (λ b u e=>va1 _ e) (jb4 _) ?_,rfl,q _ hf⟩
 exact ⟨z,us,r,⟨_,va7 _ rfl,rfl,_,rfl⟩⟩
theorem qm2 (h:PA X es t):PE X (.List es pos) (tLst t):=by
 intro pins s σ H Q I hq
 refine wpAny_List_spliced (thn (h pos pins s σ H _ I hq) λ us s1 ⟨xs,H1,I1,r,z,q⟩=>⟨by rw [<- r.length];exact z,?_⟩)
 have hf:H1 s1.heap.objs.size=none:=I1.hok.fresh (jb4 _)
 refine ⟨.ref s1.heap.objs.size,upd H1 s1.heap.objs.size (.lst xs),I1.laid (t':=s1.toks) (λ b u e=>va1 _ e) (jb4 _) ?_,rfl,q _ hf⟩
 exact ⟨z,us,0,r,va7 _ rfl⟩
end
abbrev Sp:=List V->Hp->VK->XK->Prop
abbrev CXT:=List Env->Hp->va3->XK->va2->va3->Prop
structure Env0 (P:vb0) (w:vb8) (K:va8) (mg:Str->Option va2) (base:Heap) (A:vc0) (outer:List Env) (s:va3) (H:Hp):Prop where
 frames:A.frames=some outer
 mod:Mod K mg base
 bs:∀ b o,base.get? b=some o->s.heap.get? b=some o/\H b=none
 bsz:base.objs.size<=s.heap.objs.size
 funs:s.heap.FunFrames base outer
 frf:∀ b∈frs outer,H b=none
 hok:HOk P w H s.heap
 bare:vi1 s.gens
def CE (outer:List Env) (P:vb0) (w:vb8) (H:Hp) (s:va3) (Q:VK) (u:va2) (s':va3):Prop:=
 ∃ v H',s'.os=s.os/\vi1 s'.gens/\Un (frs outer) [] H H' s.heap s'.heap/\HOk P w H' s'.heap/\RelV v u/\Q v H'
def CR (CX:CXT) (outer:List Env) (P:vb0) (w:vb8) (H:Hp) (s:va3) (Q:VK) (E:XK) (r:Result) (s':va3):Prop:=
 match r with
 | .ok (.ret u)=>CE outer P w H s Q u s'
 | .ok _=>False
 | .error e=>CX outer H s E e s'
structure FnOk (P:vb0) (w:vb8) (K:va8) (mg:Str->Option va2) (base:Heap) (CX:CXT) (k:Nat) (f:Addr) (fd:vc9) (ps:List Str) (sp:Sp):Prop where
 len:∀ vs H Q E,sp vs H Q E->vs.length=ps.length
 run:∀ (A:vc0) (outer:List Env) (s:va3) (H:Hp) (args:Args) (us:List va2) (vs:List V) (Q:VK) (E:XK),Room k A->Env0 P w K mg base A outer s H->BindsTo s fd args (ps.zip us)->Vals vs us->sp vs H Q E ->
  vl9 (vb3 P w) A (.call (.ref f) args) (CR CX outer P w H s Q E) s
theorem FnOk.mono {P:vb0}{w:vb8}{K:va8}{mg:Str->Option va2}{base:Heap}{CX:CXT}{j k:Nat}{f:Addr}{fd:vc9}{ps:List Str}{sp:Sp} (F:FnOk P w K mg base CX j f fd ps sp) (h:j<=k):
  FnOk P w K mg base CX k f fd ps sp:=⟨F.len,λ A outer s H args us vs Q E hr=>F.run A outer s H args us vs Q E (hr.mono h)⟩
section
variable {X:Cx}{pins:List (Addr×Obj)}{σ:St}{H:Hp}{s s':va3}
theorem Inv.env0 (I:Inv X pins σ H s):Env0 X.prog X.w X.K X.mg X.base X.A X.stack s H:=
 ⟨I.ok.frames,I.ok.mod,I.bs,jd3 I.ok.bsz I.sz,I.stack,I.stkFree,I.hok,I.bare⟩
theorem Inv.after {Q:VK}{u:va2} (I:Inv X pins σ H s) (h:CE X.stack X.prog X.w H s Q u s'):EP X pins σ Q u s':=by
 obtain ⟨v,H',os,bare,un,hok,r,q⟩:=h
 obtain ⟨hh,g,d,t,os'⟩:=s'
 obtain rfl:os'=s.os:=os
 exact ⟨v,H',I.call (h':=hh) (g':=g) (d':=d) (t':=t) (ch:=[]) un hok bare (λ b z=>absurd z (by simp)),r,q⟩
end
def qfx (sp:Sp) (dvs:List V) (E:XK) (t:TA):TE:=λ σ H Q=>t σ H λ vs H1=>sp (vs++dvs) H1 Q E
def zbk (K:va8) (fd:vc9) (ps:List Str) (ds:List va2):Prop:=
 ∀ (s:va3) (us:List va2),K.In s.heap->(us++ds).length=ps.length->BindsTo s fd ⟨us,[]⟩ (ps.zip (us++ds))
theorem zbk.all {K:va8}{fd:vc9}{ps:List Str} (h:∀ us:List va2,us.length=ps.length->bindArgs fd ⟨us,[]⟩=pure (ps.zip us)):zbk K fd ps []:=λ s us _ hl=>by
 rw [jd9] at hl ⊢
 exact .of_eq (h us hl)
def qfm (CX:CXT) (X:Cx) (E:XK):Prop:=∀ (pins:List (Addr×Obj)) (σ:St) (H:Hp) (s:va3) (e:va2) (s':va3),Inv X pins σ H s->CX X.stack H s E e s'->X.xe e s'
section
variable {X:Cx}{CX:CXT}{k:Nat}{f C:Addr}{fd:vc9}{ps:List Str}{sp:Sp}{dvs:List V}{ds:List va2}{E:XK}{x m:Str}{p pos apos:Pos}{e o:Expr}{es:List Expr}{ta:TE}{t:TA}
theorem qmr {pins:List (Addr×Obj)}{σ:St}{H:Hp}{s:va3}{Q:VK}{us:List va2}{vs:List V} (F:FnOk X.prog X.w X.K X.mg X.base CX k f fd ps sp) (hr:Room k X.A) (hb:zbk X.K fd ps ds) (hd:Vals dvs ds) (hx:qfm CX X E)
  (I:Inv X pins σ H s) (r:Vals vs us) (h:sp (vs++dvs) H Q E):vb1 (vb3 X.prog X.w) X.A (call (.ref f) us) (EP X pins σ Q) X.xe s:=by
 have r2:Vals (vs++dvs) (us++ds):=r.append hd
 have hl:(us++ds).length=ps.length:=by rw [<- r2.length];exact F.len _ _ _ _ h
 refine wpAny_call (vm5 (F.run X.A X.stack s H ⟨us,[]⟩ (us++ds) (vs++dvs) Q E hr I.env0 (hb s us I.kIn hl) r2 h) λ r s' hq=>?_)
 cases r with
 | error e=>exact hx pins σ H s e s' I hq
 | ok fl=>
  cases fl with
  | ret u=>exact I.after hq
  | next=>exact vd3 hq
  | brk=>exact vd3 hq
  | cont=>exact vd3 hq
theorem zhc (F:FnOk X.prog X.w X.K X.mg X.base CX k f fd ps sp) (hr:Room k X.A) (hg:Gl X x) (hm:X.mg x=some (.ref f)) (hk:ve5 X.K (.ref f)=true) (hb:zbk X.K fd ps ds) (hd:Vals dvs ds) (hx:qfm CX X E)
  (ha:PA X (e::es) t) (hdb:(x == ("__debug__" : Str))=false:=by decide) (he:va9 (e::es) X.env=(false,eval e X.env)::va9 es X.env:=by rfl) (hpl:(vg5 pos (va9 es X.env)).any (·.1)=false:=by rfl):
  PE X (.Call (.Name x p) (e::es) [] pos) (qfx sp dvs E t):=by
 intro pins s σ H Q I h
 refine vh5 (zjw I hg hm ?_ hdb)
 refine PySem.W.callWith_K (h₀:=X.base) I.ok.mod.kin hk (thn (ha pos pins s σ H _ I h) λ us s1 ⟨vs,H1,I1,r,q⟩=>⟨I1.kIn,?_⟩) he hpl
 exact qmr F hr hb hd hx I1 r q
structure Mk (K:va8) (C f:Addr):Prop where
 makes:PySem.W.makesIn K C=true
 init:vb6 K (.ref C) "__init__" = some (some (.ref f))
 fn:PySem.W.isFn K (.ref f)=true
 kp:ve5 K (.ref C)=true
end
section
variable {X:Cx}{CX:CXT}{k:Nat}{f C:Addr}{fd:vc9}{ps ks:List Str}{sp:Sp}{E:XK}{x m:Str}{p pos apos kpos:Pos}{e o:Expr}{es:List Expr}{kws:List Keyword}{te ta:TE}{t tk:TA}{nm:Option Str}
structure KBinds (K:va8) (fd:vc9) (ps ks:List Str) (g:List va2->List va2->List va2) (gV:List V->List V->List V):Prop where
 to:∀ (s:va3) (us ws:List va2),K.In s.heap->(g us ws).length=ps.length->BindsTo s fd ⟨us,ks.zip ws⟩ (ps.zip (g us ws))
 rel:∀ {vs:List V}{us:List va2}{zs:List V}{ws:List va2},Vals vs us->Vals zs ws->Vals (gV vs zs) (g us ws)
variable {g:List va2->List va2->List va2}{gV:List V->List V->List V}
end
structure FnScope (N P:List Str) (sc:ve2):Prop where
 kind:sc.kind=.function:=by rfl
 co:sc.isCoroutine=false:=by rfl
 gen:sc.isGenerator=false:=by rfl
 nd:N.Nodup:=by decide +kernel
 pre:N.take P.length=P:=by rfl
 par:∀ x∈P,sc.names.lookup x=some .local\/sc.names.lookup x=some .cell:=by decide +kernel
 nofree:∀ y∈sc.names,y.2≠.free:=by decide +kernel
theorem zgs {kindOf:Str->Option vd5}{x:Str}:∀ {binds:List (Str×va2)}{m:Str->Option va2},(∀ v,(x,v)∉binds)->bindL kindOf binds m x=m x
 | [],_,_=>rfl
 | (n,v)::r,m,h=>by
  unfold bindL
  rw [zgs λ w hw=>h w (ja1 _ hw)]
  split
  ·have:x≠n:=by rintro rfl;exact h v ja3
   simp [this]
  ·rfl
theorem zgu {kindOf:Str->Option vd5}{x:Str}:∀ {binds:List (Str×va2)}{m:Str->Option va2},(∀ v,(x,v)∉binds)->bindC kindOf binds m x=m x
 | [],_,_=>rfl
 | (n,v)::r,m,h=>by
  unfold bindC
  rw [zgu λ w hw=>h w (ja1 _ hw)]
  split
  ·rfl
  ·have:x≠n:=by rintro rfl;exact h v ja3
   simp [this]
theorem zgt {kindOf:Str->Option vd5}{x:Str}{v:va2}:∀ {P:List Str}{vs:List va2}{i:Nat}{m:Str->Option va2},P.Nodup->P[i]?=some x->vs[i]?=some v->kindOf x=some .local ->
  bindL kindOf (P.zip vs) m x=some v
 | [],_,_,_,_,h,_,_=>by simp at h
 | _::_,[],_,_,_,_,h,_=>by simp at h
 | p::P,w::vs,0,m,nd,h1,h2,hk=>by
  simp at h1 h2;subst h1;subst h2
  show bindL kindOf ((p,w)::P.zip vs) m p=_
  unfold bindL
  rw [zgs λ v hv=>(jj8.mp nd).1 (jm0 hv).1,if_pos hk]
  simp
 | p::P,w::vs,i + 1,m,nd,h1,h2,hk=>by
  show bindL kindOf ((p,w)::P.zip vs) m x=_
  unfold bindL
  exact zgt (i:=i) (jj8.mp nd).2 (by simpa using h1) (by simpa using h2) hk
theorem zgv {kindOf:Str->Option vd5}{x:Str}{v:va2}:∀ {P:List Str}{vs:List va2}{i:Nat}{m:Str->Option va2},P.Nodup->P[i]?=some x->vs[i]?=some v->kindOf x≠some .local ->
  bindC kindOf (P.zip vs) m x=some v
 | [],_,_,_,_,h,_,_=>by simp at h
 | _::_,[],_,_,_,_,h,_=>by simp at h
 | p::P,w::vs,0,m,nd,h1,h2,hk=>by
  simp at h1 h2;subst h1;subst h2
  show bindC kindOf ((p,w)::P.zip vs) m p=_
  unfold bindC
  rw [zgu λ v hv=>(jj8.mp nd).1 (jm0 hv).1,if_neg hk]
  simp
 | p::P,w::vs,i + 1,m,nd,h1,h2,hk=>by
  show bindC kindOf ((p,w)::P.zip vs) m x=_
  unfold bindC
  exact zgv (i:=i) (jj8.mp nd).2 (by simpa using h1) (by simpa using h2) hk
def start (N:List Str) (vs:List V):St:=vs.map some++ja5 (N.length - vs.length) none
def cxOf (CX:CXT) (P:vb0) (w:vb8) (K:va8) (mg:Str->Option va2) (base:Heap) (N:List Str) (qual:Str) (scope:ve2) (f:Addr) (cd:va2) (A:vc0) (outer:List Env) (s:va3) (H:Hp) (E:XK):Cx where
 prog:=P
 w:=w
 K:=K
 mg:=mg
 base:=base
 A:=A.deeper (vo0 qual scope s.heap.objs.size f cd)
 N:=N
 s₀:=s
 H₀:=H
 env:=vo0 qual scope s.heap.objs.size f cd
 outer:=outer
 stack:=vo0 qual scope s.heap.objs.size f cd::outer
 ex:=[]
 calm:=true
 fn:=λ _=>true
 pn:=[]
 xe:=λ e s'=>vb1 (vb3 P w) (A.deeper (vo0 qual scope s.heap.objs.size f cd)) (leaving (vo0 qual scope s.heap.objs.size f cd) e) (λ _ s''=>CX outer H s E e s'') (λ e' s''=>CX outer H s E e' s'') s'
theorem qbj {sc:ve2}{n:Nat}{x:Str} (h:sc.names.lookup x=some .cell):∃ c,(vc5 n sc.names []).lookup x=some c:=by
 have q:=PySem.W.cellsFrom_some sc.names n [] (.inl h)
 exact jg7.mp q
theorem qei {CX:CXT}{P:vb0}{w:vb8}{K:va8}{mg:Str->Option va2}{base:Heap}{N ps:List Str}{qual:Str}{scope:ve2}{f:Addr}{cd:va2}{A:vc0}{outer:List Env}{s s1:va3}{H:Hp}{E:XK}{us:List va2}{vs:List V}
  (S:FnScope N ps scope) (hd:A.handled=none) (e0:Env0 P w K mg base A outer s H) (hl:vs.length=ps.length) (r:Vals vs us)
  (x:InCallC s s.heap.objs.size (bindL (vo0 qual scope s.heap.objs.size f cd).kindOf (ps.zip us) λ _=>none) (vc5 (s.heap.objs.size + 1) scope.names []) (bindC (vo0 qual scope s.heap.objs.size f cd).kindOf (ps.zip us) λ _=>none) s1):
  Inv (cxOf CX P w K mg base N qual scope f cd A outer s H E) [] (start N vs) H s1:=by
 have hpl:ps.length<=N.length:=by have:=congrArg List.length S.pre;rw [jd1] at this;omega
 obtain ⟨h1,tk,rfl,hk⟩:=x.done
 have noA:∀ b:Addr,b∉(cxOf CX P w K mg base N qual scope f cd A outer s H E).ex:=λ b z=>absurd (show b∈([]:List Addr) from z) (by simp)
 refine ⟨⟨e0.mod,S.kind,rfl,rfl,jb4 _,λ y z c h1 h2=>?_,λ y hy=>?_,λ y c _ h=>?_,λ _=>hd,Around.frames_deeper e0.frames,.inr ⟨rfl,rfl⟩,λ b z=>absurd z (noA b),e0.bs,e0.bsz,λ b _ _=>noA b,λ b z=>absurd z (noA b),e0.funs,e0.frf⟩,
  rfl,e0.bare,Un.kept hk,⟨_,x.toInCall.ns,λ i y v h1 h2 h3=>?_⟩,λ y c h=>⟨_,x.cell y c h⟩,e0.hok.fresh (jb4 _),λ y c h=>?_,λ p hp=>absurd (show p∈([]:List (Addr×Obj)) from hp) (by simp),e0.hok.kept hk,?_⟩
 ·exact name_of_addr x.apart (vf6 h1) (vf6 h2)
 ·have hy:scope.names.lookup y=some .cell\/scope.names.lookup y=some .free:=hy
  rcases hy with hy | hy
  ·exact qbj hy
  ·exact absurd rfl (S.nofree _ (vf6 hy))
 ·exact jk5 (x.above y c (vf6 h))
 ·have hi:i < vs.length:=by
   unfold start at h2
   by_cases hi:i < vs.length
   ·exact hi
   ·rw [jc9 (by simpa using hi)] at h2
    rw [jd2] at h2
    split at h2 <;> cases h2
  have ha:vs[i]?=some v:=by
   unfold start at h2
   rw [jc3 (by simpa using hi),jc6] at h2
   cases e:vs[i]? with
   | none=>rw [e] at h2;cases h2
   | some a=>rw [e] at h2;cases h2;rfl
  obtain ⟨u,hu,rv⟩:=r.get ha
  have hp:ps[i]?=some y:=by
   rw [<- S.pre,jf5 (by omega)];exact h1
  have ndP:ps.Nodup:=by rw [<- S.pre];exact S.nd.sublist (List.take_sublist _ _)
  refine ⟨u,rv,?_⟩
  rcases S.par y (jm2 hp) with k | k
  ·exact .inl ⟨k,zgt ndP hp hu k⟩
  ·obtain ⟨c,e⟩:=qbj (n:=s.heap.objs.size + 1) k
   refine .inr ⟨.inl k,c,e,?_⟩
   have q:=x.cell y c e
   rw [zgv ndP hp hu (by show scope.names.lookup y≠_;rw [k];decide)] at q
   exact q
 ·exact e0.hok.fresh (jk5 (x.above y c (vf6 h)))
 ·unfold start
  show _=N.length
  rw [ja8,ja4,jd5]
  omega
theorem qpi {CX:CXT}{P:vb0}{w:vb8}{K:va8}{mg:Str->Option va2}{base:Heap}{k:Nat}{f:Addr}{name qual:Str}{params:Arguments}{body:List Stmt}{scope:ve2}{dV kV doc pm cdv ct oc:va2}{an od:Option Addr}
  {osl:Array (Option va2)}{N ps:List Str}{sp:Sp} (lk:K.lookup f=some ⟨oc,od,.func (vh6 name qual params body scope dV kV doc pm an cdv ct),osl⟩) (hcd:vp2 K cdv qual=true) (S:FnScope N ps scope)
  (len:∀ vs H Q E,sp vs H Q E->vs.length=ps.length)
  (hbody:∀ (A:vc0) (outer:List Env) (s:va3) (H:Hp) (vs:List V) (Q:VK) (E:XK),Room k (A.deeper (vo0 qual scope s.heap.objs.size f cdv))->sp vs H Q E ->
   ∃ t,PSs (cxOf CX P w K mg base N qual scope f cdv A outer s H E) body t/\t { nx:=λ _ H'=>Q .non H',rt:=Q } (start N vs) H):
  FnOk P w K mg base CX (k + 1) f (vh6 name qual params body scope dV kV doc pm an cdv ct) ps sp:=by
 refine ⟨len,λ A outer s H args us vs Q E hr e0 hb r hsp=>?_⟩
 have hl:=len _ _ _ _ hsp
 have KX:K.In s.heap:=e0.mod.kin.keeps λ b o e=>(e0.bs b o e).1
 have lim:s.heap.NoLimit:=e0.mod.nolimit.keeps λ b o e=>(e0.bs b o e).1
 have hkind:∀ y∈ps.zip us,scope.names.lookup y.1=some .local\/(scope.names.lookup y.1=some .cell/\((vc5 (s.heap.objs.size + 1) scope.names []).lookup y.1).isSome=true):=λ ⟨n,v⟩ hy=>by
  rcases S.par n (jm0 hy).1 with q | q
  ·exact .inl q
  ·exact .inr ⟨q,PySem.W.cellsFrom_some _ _ _ (.inl q)⟩
 refine codeAny_call_function hr.depth (KX _ _ lk) rfl S.co S.gen rfl (PySem.W.codeRec_of KX hcd) (hb _ _ _ _ ?_)
 refine wpAny_newFunctionEnv_cells S.kind hkind λ env he s1 x=>?_
 subst he
 refine ⟨lim.keeps x.toInCall.keep,codeAny_func ?_⟩
 obtain ⟨t,ht,hq⟩:=hbody A outer s H vs Q E (hr.deeper _) hsp
 have I:Inv (cxOf CX P w K mg base N qual scope f cdv A outer s H E) [] (start N vs) H s1:=qei S hr.hd e0 hl r x
 refine vd9 (ht [] s1 (start N vs) H _ I hq) (λ fl s' hs=>?_) λ e s' hs=>hs
 have fin:∀ {σ':St}{H':Hp}{v:V}{u:va2},Inv (cxOf CX P w K mg base N qual scope f cdv A outer s H E) [] σ' H' s'->RelV v u->Q v H'->CE outer P w H s Q u s':=
  λ {σ' H' v u} J rv q=>⟨v,H',J.os,J.bare,J.base,J.hok,rv,q⟩
 cases fl with
 | ret u=>
  obtain ⟨v,σ',H',J,rv,q⟩:=hs
  exact fin J rv q
 | next=>
  obtain ⟨σ',H',J,q⟩:=hs
  exact fin (v:=V.non) (u:=Value.none) J rfl q
 | brk=>
  obtain ⟨_,_,_,q⟩:=hs
  exact vd3 q
 | cont=>
  obtain ⟨_,_,_,q⟩:=hs
  exact vd3 q
section
variable {X:Cx}{x:Str}{p pos:Pos}{e:Expr}{es:List Expr}{t:TA}{id T:String}{r:List V->Hp->VK->Prop}
def tCB (r:List V->Hp->VK->Prop) (t:TA):TE:=λ σ H Q=>t σ H λ vs H1=>r vs H1 Q
theorem zzn (hc:zzd X (.builtin id) r) (hg:Gl X x) (hm:X.mg x=none) (hv:vg4 x=some (.builtin id)) (ha:PA X (e::es) t) (hn:x ≠ "__name__" := by decide) (hdb:(x == ("__debug__" : Str))=false:=by decide)
  (he:va9 (e::es) X.env=(false,eval e X.env)::va9 es X.env:=by rfl) (hpl:(vg5 pos (va9 es X.env)).any (·.1)=false:=by rfl):PE X (.Call (.Name x p) (e::es) [] pos) (tCB r t):=by
 intro pins s σ H Q I h
 refine vh5 (zpg I hg hm hv ?_ hn hdb)
 exact PyProof.Rows.callWith_builtin1 (thn (ha pos pins s σ H _ I h) λ us s1 ⟨vs,H1,I1,r1,q1⟩=>hc pins s1 σ H1 vs us Q I1 r1 q1) he hpl
theorem zfp (hc:zzd X (.type T) r) (hg:Gl X x) (hm:X.mg x=none) (hv:vg4 x=some (.type T)) (ha:PA X (e::es) t) (hn:x ≠ "__name__" := by decide) (hdb:(x == ("__debug__" : Str))=false:=by decide)
  (he:va9 (e::es) X.env=(false,eval e X.env)::va9 es X.env:=by rfl) (hpl:(vg5 pos (va9 es X.env)).any (·.1)=false:=by rfl):PE X (.Call (.Name x p) (e::es) [] pos) (tCB r t):=by
 intro pins s σ H Q I h
 refine vh5 (zpg I hg hm hv ?_ hn hdb)
 exact vf1 (thn (ha pos pins s σ H _ I h) λ us s1 ⟨vs,H1,I1,r1,q1⟩=>hc pins s1 σ H1 vs us Q I1 r1 q1) he hpl
end
end L2
namespace HT
open PySem PyProof.Rows
section
open PySem.SeqAt
open PySem.AutoSeq1 (wpAny_loadPart')
open PySem.MeetsSeq PySem.MeetsSeq2 PySem.MeetsSeq3
end
section
variable {prog:vb0}{w:vb8}{A:vc0}{E:va2->va3->Prop}{s:va3}
theorem cat_tup {t b:Addr}{vs ws:List va2}{Q:va2->va3->Prop} (ht:IsTup s.heap t vs.toArray) (hb:IsTup s.heap b ws.toArray) (hv:vs≠[])
  (h1:ws=[]->Q (.ref t) s) (h2:ws≠[]->Q (.ref s.heap.objs.size) { s with heap:=s.heap.push { cls:=.type "tuple",data:=.seq (vs++ws).toArray } })
  (hsz:vs.length + ws.length<=va4):vb1 (vb3 prog w) A (vg0 .Add (.ref t) (.ref b)) Q E s:=by
 obtain ⟨⟨cls,dd,data,sl⟩,ho,hc,n,hd⟩:=id ht
 obtain ⟨⟨cls2,dd2,data2,sl2⟩,ho2,hc2,n2,hd2⟩:=id hb
 simp only at hc hd hc2 hd2
 subst hc hd hc2 hd2
 have e:vs.toArray++ws.toArray=(vs++ws).toArray:=by simp
 by_cases hw:ws=[]
 ·exact concat_meets ⟨_,ho,rfl⟩ ⟨_,ho2,rfl⟩ vn0 seq_tuple_add vj2 vj0 (vi6 _ _)
   (tuple_addW1 t b vs.toArray ws.toArray n n2 dd dd2 sl sl2 (by simpa using hv) (by simp [hw])) ⟨ho,ho2,h1 hw⟩
 ·refine concat_meets ⟨_,ho,rfl⟩ ⟨_,ho2,rfl⟩ vn0 seq_tuple_add vj2 vj0 (vi6 _ _)
   (tuple_addW2 t b vs.toArray ws.toArray n n2 dd dd2 sl sl2 (by simpa using hv) (by simpa using hw) (by rw [jc1,jc1];exact hsz)) ⟨ho,ho2,?_⟩
  rw [e]
  exact h2 hw
def sIx (n d:Nat):Option Int->Nat
 | none=>d
 | some v=>if v < 0 then (v + (n:Int)).toNat else min v.toNat n
theorem sIx_none (n d:Nat):sIx n d none=d:=rfl
theorem qmo (n d:Nat) (hd:d<=n) (o:Option Int):sIx n d o<=n:=by
 cases o with
 | none=>exact hd
 | some v=>
  show (if v < 0 then (v + (n:Int)).toNat else min v.toNat n)<=n
  by_cases hv:v < 0
  ·rw [if_pos hv];omega
  ·rw [if_neg hv];exact jl7 _ _
theorem qe8 (v:Int) (n d:Nat):(if v < 0 then max (v + (n:Int)) 0 else min v (n:Int))=((sIx n d (some v):Nat):Int):=by
 show (if v < 0 then max (v + (n:Int)) 0 else min v (n:Int))=(((if v < 0 then (v + (n:Int)).toNat else min v.toNat n):Nat):Int)
 by_cases hv:v < 0
 ·simp only [if_pos hv];omega
 ·simp only [if_neg hv];omega
theorem qb8 (lo hi:Option Int) (n:Nat):vi0 lo hi 1 (n:Int)=(((sIx n 0 lo:Nat):Int),((sIx n n hi:Nat):Int)):=by
 have h1:¬ ((1:Int) < 0):=by omega
 unfold vi0
 simp only [h1,if_false]
 refine Prod.ext ?_ ?_
 ·cases lo with
  | none=>rfl
  | some v=>exact qe8 v n 0
 ·cases hi with
  | none=>rfl
  | some v=>exact qe8 v n n
theorem qbu (i j:Nat):vf5 (i:Int) (j:Int) 1=j - i:=by
 unfold vf5
 have h1:(1:Int) > 0:=by omega
 simp only [h1,if_true,Int.ediv_one]
 split <;> omega
theorem zbz {v:va2}{o:Option Int}{Q:Option Int->va3->Prop} (p:IsPart v o) (h:Q o s):vb1 (vb3 prog w) A (Builtin.Slice.slicePartIndex v) Q E s:=by
 cases p with
 | none=>exact slicePart_none h
 | int i t=>exact slicePart_int h
theorem zys {sl:Addr}{vl vu:va2}{lo hi:Option Int}{n:Nat}{Q:Int×Int×Nat->va3->Prop} (hs:s.heap.IsSliceOf sl vl vu .none) (pl:IsPart vl lo) (pu:IsPart vu hi)
  (h:Q (((sIx n 0 lo:Nat):Int),1,sIx n n hi - sIx n 0 lo) s):vb1 (vb3 prog w) A (vo9 (.ref sl) (pure (n:Int))) Q E s:=by
 obtain ⟨os,hos,hcs,hds⟩:=id hs
 unfold vo9 Builtin.Slice.sliceFields
 refine va0 (va0 (vc7 hos hds (x:=vl) rfl (va0 (vc7 hos hds (x:=vu) rfl (va0 (vc7 hos hds (x:=.none) rfl (va5 ?_)))))))
 refine va0 (slicePart_none ?_)
 show vb1 _ _ (if ((1:Int) == 0)=true then _ else _) _ _ s
 rw [if_neg (by decide)]
 refine va0 (zbz pl (va0 (zbz pu (va0 (va5 ?_)))))
 show vb1 _ _ (match vi0 lo hi 1 (n:Int) with | (lo,hi)=>pure (lo,(1:Int),vf5 lo hi 1)) _ _ s
 rw [qb8 lo hi n]
 show vb1 _ _ (pure (((sIx n 0 lo:Nat):Int),(1:Int),vf5 ((sIx n 0 lo:Nat):Int) ((sIx n n hi:Nat):Int) 1)) _ _ s
 rw [qbu]
 exact va5 h
theorem qgc (xs:Array va2) (i k:Nat):((jd0 k).filterMap λ (m:Nat)=>xs[((i:Int) + (m:Int) * 1).toNat]?).toArray=((xs.toList.drop i).take k).toArray:=by
 have e:(λ (m:Nat)=>xs[((i:Int) + (m:Int) * 1).toNat]?)=λ m=>xs[i + m]?:=by
  funext m
  have:((i:Int) + (m:Int) * 1).toNat=i + m:=by omega
  rw [this]
 rw [e]
 have:=pick_run xs i k
 rw [List.filterMap_map] at this
 have e2:((λ x=>xs[x]?) ∘ λ x=>i + x)=λ m=>xs[i + m]?:=rfl
 rw [e2] at this
 rw [this]
theorem getItem_tuple_cut {t sl:Addr}{items:Array va2}{vl vu:va2}{lo hi:Option Int}{Q:va2->va3->Prop} (ht:IsTup s.heap t items) (hs:s.heap.IsSliceOf sl vl vu .none) (pl:IsPart vl lo) (pu:IsPart vu hi)
  (hw:¬ (sIx items.size 0 lo=0/\sIx items.size items.size hi=items.size))
  (h:Q (.ref s.heap.objs.size) { s with heap:=s.heap.push { cls:=.type "tuple",data:=.seq ((items.toList.drop (sIx items.size 0 lo)).take (sIx items.size items.size hi - sIx items.size 0 lo)).toArray } })
  (hsz:items.size<=va4):vb1 (vb3 prog w) A (getItem (.ref t) (.ref sl)) Q E s:=by
 have htake:sizeOk (.seq ((items.toList.drop (sIx items.size 0 lo)).take (sIx items.size items.size hi - sIx items.size 0 lo)).toArray):=by
  show ((items.toList.drop (sIx items.size 0 lo)).take (sIx items.size items.size hi - sIx items.size 0 lo)).toArray.size<=va4
  rw [jc1,jd1,je9,jf0]
  omega
 have hj:sIx items.size items.size hi<=items.size:=qmo _ _ (jb4 _) hi
 obtain ⟨os,hos,hcs,hds⟩:=id hs
 have hTs:s.TypeIs (.ref sl) "slice" := ⟨os,hos,hcs⟩
 unfold getItem
 try with_reducible refine vg8 ?_
 first | refine va0 (va5 ?_) | skip
 refine va0 (wpAny_sequenceKey ht.typeIs (by decide) ?_)
 refine va0 (vc3 (name:=vg6 "__getitem__") ht.typeIs vm3
  (vd1 vm3 ht.typeIs entry_tuple_getitem ?_ (args_tuple_getitem _ _)))
 show vb1 _ _ (Builtin.Tuple.tupleItemsOf (.ref t) >>= _) _ _ s
 refine va0 (tupleItemsOf_ ht ?_)
 refine va0 (wpAny_typeOf hTs ?_)
 rw [if_pos (by decide)]
 refine va0 (zys hs pl pu ?_)
 have hno:¬ ((((sIx items.size 0 lo:Nat):Int) == 0 && (1:Int) == 1 && (sIx items.size items.size hi - sIx items.size 0 lo) == items.size)=true):=by
  intro q
  rw [jb0,jb0] at q
  have q1:((sIx items.size 0 lo:Nat):Int)=0:=eq_of_beq q.1.1
  have q2:sIx items.size items.size hi - sIx items.size 0 lo=items.size:=eq_of_beq q.2
  exact hw ⟨by (clear q2 hj hsz hw;omega),by (clear q1 hsz hw;omega)⟩
 show vb1 _ _ (if (((sIx items.size 0 lo:Nat):Int) == 0 && (1:Int) == 1 && (sIx items.size items.size hi - sIx items.size 0 lo) == items.size)=true then _ else _) _ _ s
 rw [if_neg hno,qgc]
 first
  | exact va0 (m:=vf8 _) (vb5 (va5 ⟨_,rfl,va5 h⟩) htake)
  | exact va0 (m:=vf8 _) (vb5 (va0 (va5 (va5 ⟨_,rfl,va5 h⟩))) htake)
  | exact va0 (va0 (m:=vf8 _) (vb5 (va5 (va5 ⟨_,rfl,va5 h⟩)) htake))
  | exact va0 (va0 (m:=vf8 _) (vb5 (va5 ⟨_,rfl,va5 h⟩) htake))
end
end HT
namespace L2
open PySem PySem.Spec PyProof.Rows
abbrev TO:=St->Hp->(Option Int->Hp->Prop)->Prop
def PO (X:Cx) (e:Option Expr) (t:TO):Prop:=
 ∀ (pins:List (Addr×Obj)) (s:va3) (σ:St) (H:Hp) (Q:Option Int->Hp->Prop),Inv X pins σ H s->t σ H Q ->
  vb1 (vb3 X.prog X.w) X.A (evalPart e X.env) (λ u s'=>∃ o H',Inv X pins σ H' s'/\IsPart u o/\Q o H') X.xe s
def qcp:TO:=λ _ H Q=>Q none H
def ql4 (t:TE):TO:=λ σ H Q=>t σ H λ x H1=>∃ i,x=.int i/\Q (some i) H1
section
variable {X:Cx}{e:Expr}{te:TE}{lo hi:Option Expr}{tl th:TO}{pos p2:Pos}
theorem qdd:PO X none qcp:=by
 intro pins s σ H Q I h
 rw [evalPart_none]
 exact va5 ⟨none,H,I,.none,h⟩
theorem qdc (h:PE X e te):PO X (some e) (ql4 te):=by
 intro pins s σ H Q I hw
 rw [evalPart_some]
 refine thn (h pins s σ H _ I hw) λ u s1 ⟨x,H1,I1,r1,q1⟩=>?_
 obtain ⟨i,rfl,q⟩:=q1
 obtain ⟨t,rfl⟩:=r1
 exact ⟨some i,H1,I1,.int i t,q⟩
def SlR (X:Cx) (r:V->Option Int->Option Int->Hp->VK->Prop):Prop:=
 ∀ (pins:List (Addr×Obj)) (s:va3) (σ:St) (H:Hp) (x:V) (v vl vu:va2) (lo hi:Option Int) (sl:Addr) (Q:VK),Inv X pins σ H s->RelV x v->s.heap.IsSliceOf sl vl vu .none->IsPart vl lo->IsPart vu hi->r x lo hi H Q ->
  ∃ T id,typeLookup (.type T) "__getitem__" = pure (some (.builtin id))/\s.TypeIs v T/\vb1 (vb3 X.prog X.w) X.A (getItem v (.ref sl)) (EP X pins σ Q) X.xe s
theorem SlR.or {r r':V->Option Int->Option Int->Hp->VK->Prop} (h:SlR X r) (h':SlR X r'):SlR X (λ x lo hi H Q=>r x lo hi H Q\/r' x lo hi H Q):=by
 intro pins s σ H x v vl vu lo hi sl Q I rx hs pl pu q
 rcases q with q | q
 ·exact h pins s σ H x v vl vu lo hi sl Q I rx hs pl pu q
 ·exact h' pins s σ H x v vl vu lo hi sl Q I rx hs pl pu q
def tSl (r:V->Option Int->Option Int->Hp->VK->Prop) (te:TE) (tl th:TO):TE:=λ σ H Q=>te σ H λ x H1=>tl σ H1 λ l H2=>th σ H2 λ u H3=>r x l u H3 Q
theorem qap {r:V->Option Int->Option Int->Hp->VK->Prop} (hr:SlR X r) (he:PE X e te) (hl:PO X lo tl) (hu:PO X hi th):PE X (.Subscript e (.Slice lo hi none p2) pos) (tSl r te tl th):=by
 intro pins s σ H Q I h
 refine Subscript_ (thn (he pins s σ H _ I h) λ v s1 ⟨x,H1,I1,r1,q1⟩=>?_)
 refine wpAny_Slice (thn (hl pins s1 σ H1 _ I1 q1) λ vl s2 ⟨l,H2,I2,pl,q2⟩=>thn (hu pins s2 σ H2 _ I2 q2) λ vu s3 ⟨u,H3,I3,pu,q3⟩=>?_)
 rw [evalPart_none]
 refine va5 ?_
 have I4:Inv X pins σ H3 { s3 with heap:=s3.heap.push { cls:=.type "slice",data:=.fields #[vl,vu,.none] } }:=I3.kept (t':=s3.toks) λ b ob q=>va1 _ q
 obtain ⟨T,id,hT,ht,hg⟩:=hr pins { s3 with heap:=s3.heap.push { cls:=.type "slice",data:=.fields #[vl,vu,.none] } } σ H3 x v vl vu l u s3.heap.objs.size Q I4 r1 (Heap.IsSliceOf.new ..) pl pu q3
 show vb1 (vb3 X.prog X.w) X.A (subscriptTail e (.Slice lo hi none p2) v (.ref s3.heap.objs.size)) (EP X pins σ Q) X.xe { s3 with heap:=s3.heap.push { cls:=.type "slice",data:=.fields #[vl,vu,.none] } }
 exact tail_any (ops:=[.ref s3.heap.objs.size,v]) ht hT hg (by with_unfolding_all rfl)
def cutV (xs:List V) (lo hi:Option Int):List V:=(xs.drop (HT.sIx xs.length 0 lo)).take (HT.sIx xs.length xs.length hi - HT.sIx xs.length 0 lo)
theorem zbb (xs:List V) (lo hi:Option Int):(cutV xs lo hi).length<=xs.length:=by
 unfold cutV
 rw [jd1,je9]
 omega
def rSlT (K:va8):V->Option Int->Option Int->Hp->VK->Prop:=λ x lo hi H Q=>∃ a xs,x=.ref a/\SqT K H a xs /\
 ¬ (HT.sIx xs.length 0 lo=0/\HT.sIx xs.length xs.length hi=xs.length)/\∀ p,H p=none->Q (.ref p) (upd H p (.tup (cutV xs lo hi)))
theorem qhz:SlR X (rSlT X.K):=by
 intro pins s σ H x v vl vu lo hi sl Q I rx hs pl pu h
 obtain ⟨a,xs,rfl,hx,hw,q⟩:=h
 cases rx
 obtain ⟨its,r,ht,hz⟩:=I.tuple hx
 have hlen:its.toArray.size=xs.length:=by rw [jc1];exact r.length.symm
 refine ⟨"tuple",_,PyProof.Rows.slot_tuple_getitem.lookup,ht.typeIs,?_⟩
 refine HT.getItem_tuple_cut ht hs pl pu (by rw [hlen];exact hw) ?_ (by rw [hlen];exact hz)
 rw [hlen]
 refine ⟨.ref s.heap.objs.size,_,I.laid (t':=s.toks) (o:=.tup (cutV xs lo hi)) (λ b ob q=>va1 _ q) (jb4 _) ?_,rfl,q _ (I.hok.fresh (jb4 _))⟩
 exact ⟨jd3 (zbb xs lo hi) hz,_,(r.drop (HT.sIx xs.length 0 lo)).take (HT.sIx xs.length xs.length hi - HT.sIx xs.length 0 lo),IsTup.new _ _⟩
def qo1 (K:va8):R2:=λ x y H Q=>∃ a b xs ys,x=.ref a/\y=.ref b/\SqT K H a xs/\SqT K H b ys/\xs≠[]/\xs.length + ys.length<=va4 /\
 (ys=[]->Q (.ref a) H)/\(ys≠[]->∀ p,H p=none->Q (.ref p) (upd H p (.tup (xs++ys))))
theorem Vals.nil_iff {xs:List V}{us:List va2} (r:Vals xs us):us=[]↔xs=[]:=by
 cases r with
 | nil=>simp
 | cons _ _=>simp
theorem qj7:OpR X (vg0 .Add) (qo1 X.K):=by
 intro pins s σ H x y v u Q I rx ry h
 obtain ⟨a,b,xs,ys,rfl,rfl,ha,hb,hx,hz,q1,q2⟩:=h
 cases rx
 cases ry
 obtain ⟨its,r1,p1,_⟩:=I.tuple ha
 obtain ⟨its2,r2,p2,_⟩:=I.tuple hb
 refine HT.cat_tup p1 p2 (λ z=>hx (r1.nil_iff.mp z)) (λ z=>⟨.ref a,H,I,rfl,q1 (r2.nil_iff.mp z)⟩) (λ z=>?_) (by rw [<- r1.length,<- r2.length];exact hz)
 refine ⟨.ref s.heap.objs.size,_,I.laid (t':=s.toks) (o:=.tup (xs++ys)) (λ b ob q=>va1 _ q) (jb4 _) ?_,rfl,q2 (λ w=>z (r2.nil_iff.mpr w)) _ (I.hok.fresh (jb4 _))⟩
 exact ⟨by rw [ja8];exact hz,_,r1.append r2,IsTup.new _ _⟩
end
def ixN (n:Nat) (i:Int):Option Nat:=if 0<=i then (if i < n then some i.toNat else none) else if -(n:Int)<=i then some (i + n).toNat else none
def atI {α:Type} (xs:List α) (i:Int):Option α:=(ixN xs.length i).bind λ j=>xs[j]?
theorem qee {n:Nat}{i:Int}{j:Nat} (h:ixN n i=some j):vj4 i n=some j/\j < n/\-(n:Int)<=i/\i < n:=by
 unfold ixN at h
 by_cases h0:0<=i
 ·rw [if_pos h0] at h
  by_cases h1:i < n
  ·rw [if_pos h1] at h
   have e:i.toNat=j:=Option.some.inj h
   exact ⟨by rw [seqIndex_of h0 h1,e],by omega,by (clear e h1;omega),h1⟩
  ·rw [if_neg h1] at h;cases h
 ·rw [if_neg h0] at h
  by_cases h1:-(n:Int)<=i
  ·rw [if_pos h1] at h
   have e:(i + n).toNat=j:=Option.some.inj h
   exact ⟨by rw [seqIndex_neg (by (clear e h1;omega)) h1,e],by omega,h1,by (clear e h1;omega)⟩
  ·rw [if_neg h1] at h;cases h
theorem zht {α:Type}{xs:List α}{i:Int}{v:α} (h:atI xs i=some v):∃ j,vj4 i xs.length=some j/\xs[j]?=some v/\j < xs.length/\-(xs.length:Int)<=i/\i < xs.length:=by
 unfold atI at h
 cases e:ixN xs.length i with
 | none=>rw [e] at h;cases h
 | some j=>
  rw [e] at h
  obtain ⟨h1,h2,h3,h4⟩:=qee e
  exact ⟨j,h1,h,h2,h3,h4⟩
def zhw (b:Expr):Prop:=∀ o i,subscripted b false o i=operate [o,i] (getItem o i)
def IxR (X:Cx) (r:R2):Prop:=
 ∀ (value slice:Expr) (pins:List (Addr×Obj)) (s:va3) (σ:St) (H:Hp) (x y:V) (v u:va2) (Q:VK),Inv X pins σ H s->RelV x v->RelV y u->r x y H Q ->
  subscripted slice false v u=operate [v,u] (getItem v u)->vb1 (vb3 X.prog X.w) X.A (subscriptTail value slice v u) (EP X pins σ Q) X.xe s
def MtR (X:Cx) (id:String) (r:V->List V->Hp->VK->Prop):Prop:=
 ∀ (pins:List (Addr×Obj)) (s:va3) (σ:St) (H:Hp) (x:V) (xs:List V) (v:va2) (us:List va2) (Q:VK),Inv X pins σ H s->RelV x v->Vals xs us->r x xs H Q ->
  vb1 (vb3 X.prog X.w) X.A (call (.builtin id) (v::us)) (EP X pins σ Q) X.xe s
section
variable {X:Cx}{a b:Expr}{ta tb:TE}{pos:Pos}
theorem IxR.or {r r':R2} (h:IxR X r) (h':IxR X r'):IxR X (λ x y H Q=>r x y H Q\/r' x y H Q):=by
 intro value slice pins s σ H x y v u Q I rx ry q hs
 rcases q with q | q
 ·exact h value slice pins s σ H x y v u Q I rx ry q hs
 ·exact h' value slice pins s σ H x y v u Q I rx ry q hs
theorem qjy {r:R2} (hr:IxR X r) (ha:PE X a ta) (hb:PE X b tb) (hs:zhw b):PE X (.Subscript a b pos) (tOp r ta tb):=by
 intro pins s σ H Q I h
 exact Subscript_ (binT ha hb I h λ v u s2 x y H2 I2 rx ry q=>hr a b pins s2 σ H2 x y v u Q I2 rx ry q (hs _ _))
def rIxL (K:va8):R2:=λ x y H Q=>∃ p xs i v,x=.ref p/\y=.int i/\SqL K H p xs/\atI xs i=some v/\Q v H
def rIxT (K:va8):R2:=λ x y H Q=>∃ p xs i v,x=.ref p/\y=.int i/\SqT K H p xs/\atI xs i=some v/\Q v H
def rIxS:R2:=λ x y H Q=>∃ z i c,x=.str z/\y=.int i/\z.length<=va4/\atI z.cps.toList i=some c/\Q (.str ⟨#[c]⟩) H
theorem zhj:IxR X (rIxL X.K):=by
 intro value slice pins s σ H x y v u Q I rx ry h hs
 obtain ⟨p,xs,i,z,rfl,rfl,hq,he,q⟩:=h
 cases rx
 obtain ⟨t,rfl⟩:=ry
 obtain ⟨its,r,pl,hz⟩:=I.list hq
 obtain ⟨j,h1,h2,h3,h4,h5⟩:=zht he
 obtain ⟨w,ew,rw'⟩:=r.get h2
 have hl:=r.length
 have hn:=zpe
 have fin:EP X pins σ Q w s:=⟨z,H,I,rw',q⟩
 by_cases h0:0<=i
 ·have hj:i.toNat=j:=by
   rw [seqIndex_of h0 h5] at h1
   exact Option.some.inj h1
  exact item_listR pl.isList h0 (by (clear hj h0 hl h4 h3;omega)) (by rw [hj];simpa using ew) fin hs
 ·have hj:(i + (its.toArray.size:Int)).toNat=j:=by
   rw [seqIndex_neg (by (clear hn hl h5 h4 h3 hz;omega)) h4] at h1
   rw [jc1,<- hl]
   exact Option.some.inj h1
  exact subscriptTail_builtinR (x:=w) pl.isList.typeIs slot_list_getitem.lookup
   (wpAny_getItem_list_neg (Q:=λ r s'=>r=w/\EP X pins σ Q r s') pl.isList (by (clear hj hn hl h5 h4 h3 hz;omega)) (by rw [jc1] <;> (clear hj h0 hn h5 h3 hz;omega)) (by (clear hj h0 hl h5 h3;omega)) (by rw [hj];simpa using ew) ⟨rfl,fin⟩) hs
theorem qnu:IxR X (rIxT X.K):=by
 intro value slice pins s σ H x y v u Q I rx ry h hs
 obtain ⟨p,xs,i,z,rfl,rfl,hq,he,q⟩:=h
 cases rx
 obtain ⟨t,rfl⟩:=ry
 obtain ⟨its,r,pl,hz⟩:=I.tuple hq
 obtain ⟨j,h1,h2,h3,h4,h5⟩:=zht he
 obtain ⟨w,ew,rw'⟩:=r.get h2
 have hl:=r.length
 have hn:=zpe
 have fin:EP X pins σ Q w s:=⟨z,H,I,rw',q⟩
 exact subscriptTail_builtinR (x:=w) pl.typeIs slot_tuple_getitem.lookup
  (getItem_tuple (j:=j) (Q:=λ r s'=>r=w/\EP X pins σ Q r s') pl (by (clear hl h5 h3;omega)) (by (clear hl h4 h3;omega)) (by rw [jc1,<- hl];exact h1) (by simpa using ew) ⟨rfl,fin⟩) hs
theorem qnv:IxR X rIxS:=by
 intro value slice pins s σ H x y v u Q I rx ry h hs
 obtain ⟨z,i,c,rfl,rfl,hz,he,q⟩:=h
 obtain ⟨t,rfl⟩:=rx
 obtain ⟨t',rfl⟩:=ry
 obtain ⟨j,h1,h2,h3,h4,h5⟩:=zht he
 have hl:z.cps.toList.length=z.length:=by simp [Str.length]
 rw [hl] at h1 h4 h5
 have hn:=zpe
 exact tail_any (typeIs_str s z t) slot_str_getitem.lookup (getItem_str (c:=c) (by
  have e1:decide (i < -(2 ^ 63:Int))=false:=decide_eq_false (by (clear hl h5 h3;omega))
  have e2:decide (i ≥ 2 ^ 63)=false:=decide_eq_false (by (clear hl h4 h3;omega))
  rw [e1,e2,Bool.or_false]) (by rw [h1];simpa using h2) ⟨.str ⟨#[c]⟩,H,I.tok _,⟨_,rfl⟩,q⟩) hs
def rIx (K:va8):R2:=λ x y H Q=>rIxL K x y H Q\/rIxT K x y H Q\/rIxS x y H Q
theorem qnw:IxR X (rIx X.K):=zhj.or (qnu.or qnv)
theorem qbz (its:List va2) (n j:Nat) (u:va2):ve6 (·.setIfInBounds j u) { cls:=.type "list",data:=.seq its.toArray n }={ cls:=.type "list",data:=.seq (its.set j u).toArray n }:=by
 simp [ve6]
theorem Inv.lst {pins:List (Addr×Obj)}{σ:St}{H:Hp}{s:va3}{p:Addr}{xs:List V} (I:Inv X pins σ H s) (h:H p=some (.lst xs)):
  ∃ (its:List va2) (n:Nat),Vals xs its/\s.heap.get? p=some { cls:=.type "list",data:=.seq its.toArray n }/\xs.length<=va4:=by
 obtain ⟨z,its,n,r,e⟩:=I.hok p _ h
 exact ⟨its,n,r,e,z⟩
theorem Inv.lstUpd {pins:List (Addr×Obj)}{σ:St}{H:Hp}{s:va3}{p:Addr}{xs ys:List V}{its its':List va2}{n n':Nat}{f:Obj->Obj} (I:Inv X pins σ H s) (h:H p=some (.lst xs))
  (ho:s.heap.get? p=some { cls:=.type "list",data:=.seq its.toArray n }) (hf:f { cls:=.type "list",data:=.seq its.toArray n }={ cls:=.type "list",data:=.seq its'.toArray n' }) (r:Vals ys its') (hz:ys.length<=va4) (t:Nat):
  Inv X pins σ (upd H p (.lst ys)) { s with heap:=s.heap.update p f,toks:=t }:=by
 have e:(s.heap.update p f).get? p=some { cls:=.type "list",data:=.seq its'.toArray n' }:=by
  rw [vd6 f ho (by rw [hf] <;> rfl),hf]
 refine I.write (x:=p) (e:=p) (by rw [h];trivial) (.inl rfl) (λ b u hb q=>(ve7 _ _ (vb2 hb)).trans q) ⟨_,e⟩ ?_
 exact ⟨hz,its',n',r,e⟩
def qf5:V->V->V->Hp->(Hp->Prop)->Prop:=λ o i v H Q=>∃ p xs k j,o=.ref p/\i=.int k/\H p=some (.lst xs)/\ixN xs.length k=some j/\Q (upd H p (.lst (xs.set j v)))
theorem zpx:PSet X qf5:=by
 intro pins s σ H o i v ov iv u Q I ro ri rv h
 obtain ⟨p,xs,k,j,rfl,rfl,hp,hj,q⟩:=h
 cases ro
 obtain ⟨t,rfl⟩:=ri
 obtain ⟨its,n,r,ho,hz⟩:=I.lst hp
 obtain ⟨h1,h2,h3,h4⟩:=qee hj
 have hl:=r.length
 have hn:=zpe
 have I':Inv X pins σ (upd H p (.lst (xs.set j v))) { s with heap:=s.heap.update p (ve6 (·.setIfInBounds j u)) }:=
  I.lstUpd hp ho (qbz its n j u) (r.set rv j) (by rw [jc0];exact hz) s.toks
 by_cases h0:0<=k
 ·have hk:k.toNat=j:=by
   rw [seqIndex_of h0 h4] at h1
   exact Option.some.inj h1
  exact PySem.W.ki_setAt ho h0 (by (clear hk h0 hl h3 h2;omega)) (by rw [jc1,<- hl];exact h4) (by rw [hk];exact ⟨_,I',q⟩)
 ·have hk:(k + (its.toArray.size:Int)).toNat=j:=by
   rw [seqIndex_neg (by (clear hn hl h4 h3 h2 hz;omega)) h3] at h1
   rw [jc1,<- hl]
   exact Option.some.inj h1
  exact PySem.W.ki_setBack ho (by (clear hk hn hl h4 h3 h2 hz;omega)) (by rw [jc1,<- hl];exact h3) (by (clear hk h0 hl h4 h2;omega)) (by rw [hk];exact ⟨_,I',q⟩)
theorem zfe (lo hi:Option Int) (n:Nat):(vh1 lo hi none n).1=((HT.sIx n 0 lo:Nat):Int)/\(vh1 lo hi none n).2.1=((HT.sIx n n hi:Nat):Int)/\(vh1 lo hi none n).2.2=1:=by
 refine ⟨?_,?_,rfl⟩
 ·cases lo with
  | none=>simp [vh1,HT.sIx]
  | some i=>
   simp only [vh1,HT.sIx,jo1,show (1:Int) > 0 by decide,if_true]
   by_cases h:i < 0
   ·simp only [h,if_true] <;> omega
   ·simp only [h,if_false] <;> omega
 ·cases hi with
  | none=>simp [vh1,HT.sIx]
  | some i=>
   simp only [vh1,HT.sIx,jo1,show (1:Int) > 0 by decide,if_true]
   by_cases h:i < 0
   ·simp only [h,if_true] <;> omega
   ·simp only [h,if_false] <;> omega
theorem zpw (its:List va2) (lo hi:Option Int):slicePick its.toArray lo hi none=((its.drop (HT.sIx its.length 0 lo)).take (HT.sIx its.length its.length hi - HT.sIx its.length 0 lo)).toArray:=by
 obtain ⟨h1,h2,h3⟩:=zfe lo hi its.toArray.size
 unfold slicePick
 rw [h1,h2,h3]
 simp only [sliceRange_one,pick_run,jc1] <;> rfl
def rSlL (K:va8):V->Option Int->Option Int->Hp->VK->Prop:=λ x lo hi H Q=>∃ a xs,x=.ref a/\SqL K H a xs/\∀ p,H p=none->Q (.ref p) (upd H p (.lst (cutV xs lo hi)))
theorem qcy:SlR X (rSlL X.K):=by
 intro pins s σ H x v vl vu lo hi sl Q I rx hs pl pu h
 obtain ⟨a,xs,rfl,hx,q⟩:=h
 cases rx
 obtain ⟨its,r,ht,hz⟩:=I.list hx
 have hlen:=r.length
 refine ⟨"list",_,slot_list_getitem.lookup,ht.isList.typeIs,?_⟩
 refine wpAny_getItem_list_slice ht.isList hs pl pu .none (by simp) ?_ (by rw [jc1] <;> omega)
 rw [zpw,<- hlen]
 refine ⟨.ref s.heap.objs.size,_,I.laid (t':=s.toks) (o:=.lst (cutV xs lo hi)) (λ b ob q=>va1 _ q) (jb4 _) ?_,rfl,q _ (I.hok.fresh (jb4 _))⟩
 exact ⟨jd3 (zbb xs lo hi) hz,_,0,(r.drop (HT.sIx xs.length 0 lo)).take (HT.sIx xs.length xs.length hi - HT.sIx xs.length 0 lo),va7 _ rfl⟩
theorem zgr:zzd X (.builtin "len") (λ xs H Q=>∃ p ys,xs=[.ref p]/\(SqL X.K H p ys\/SqT X.K H p ys)/\Q (.int ys.length) H):=by
 intro pins s σ H xs us Q I r h
 obtain ⟨p,ys,rfl,hq,q⟩:=h
 obtain ⟨u,rfl,rx⟩:=zpt r
 cases rx
 have hn:=zpe
 rcases hq with hq | hq
 ·obtain ⟨its,r',pl,hz⟩:=I.list hq
  have hlen:=r'.length
  exact Calls.call_len_list pl.isList (by simp only [jc1] <;> omega) ⟨.int ys.length,H,I.tok _,⟨s.toks + 1,by rw [jc1,hlen]⟩,q⟩
 ·obtain ⟨its,r',pl,hz⟩:=I.tuple hq
  have hlen:=r'.length
  exact len_tuple pl (by simp only [jc1] <;> omega) ⟨.int ys.length,H,I.tok _,⟨s.toks + 1,by rw [jc1,hlen]⟩,q⟩
theorem zgq:zzd X (.builtin "len") (λ xs H Q=>∃ z,xs=[.str z]/\z.length<=va4/\Q (.int z.length) H):=by
 intro pins s σ H xs us Q I r h
 obtain ⟨z,rfl,hz,q⟩:=h
 obtain ⟨u,rfl,t,rfl⟩:=zpt r
 have hn:=zpe
 exact len_str (by omega) ⟨.int z.length,H,I.tok _,⟨_,rfl⟩,q⟩
theorem zzd.or {f:va2}{r r':List V->Hp->VK->Prop} (h:zzd X f r) (h':zzd X f r'):zzd X f (λ xs H Q=>r xs H Q\/r' xs H Q):=by
 intro pins s σ H xs us Q I rs q
 rcases q with q | q
 ·exact h pins s σ H xs us Q I rs q
 ·exact h' pins s σ H xs us Q I rs q
theorem zgp:zzd X (.type "list") (λ xs H Q=>∃ p ys,xs=[.ref p]/\(SqL X.K H p ys\/SqT X.K H p ys)/\∀ l,H l=none->Q (.ref l) (upd H l (.lst ys))):=by
 intro pins s σ H xs us Q I r h
 obtain ⟨p,ys,rfl,hq,q⟩:=h
 obtain ⟨u,rfl,rx⟩:=zpt r
 cases rx
 have fin:∀ (its:List va2),Vals ys its->ys.length<=va4->∀ (h':Heap) (c':Nat),(∀ b o',s.heap.get? b=some o'->h'.get? b=some o') ->
   h'.get? s.heap.objs.size=some { cls:=.type "list",dict:=none,data:=.seq its.toArray c',slots:=#[] }->EP X pins σ Q (.ref s.heap.objs.size) { s with heap:=h' }:=λ its r' hz h' c' kp e=>
  ⟨.ref s.heap.objs.size,_,I.laid (t':=s.toks) kp (jb4 _) (show zxu X.prog X.w _ h' _ (.lst ys) from ⟨hz,its,c',r',e⟩),rfl,q _ (I.hok.fresh (jb4 _))⟩
 rcases hq with hq | hq
 ·obtain ⟨its,r',pl,hz⟩:=I.list hq
  have hlen:=r'.length
  obtain ⟨o,ho,hc,n,hd⟩:=pl.isList
  exact call_list_seq p (.inl rfl) ho hc hd (λ h' c' kp e=>fin its r' hz h' c' kp e) (by simp only [jc1] <;> omega)
 ·obtain ⟨its,r',pl,hz⟩:=I.tuple hq
  have hlen:=r'.length
  obtain ⟨o,ho,hc,n,hd⟩:=pl
  exact call_list_seq p (.inr rfl) ho hc hd (λ h' c' kp e=>fin its r' hz h' c' kp e) (by simp only [jc1] <;> omega)
theorem zmu:zzd X (.type "tuple") (λ xs H Q=>∃ p ys,xs=[.ref p]/\((SqL X.K H p ys/\∀ l,H l=none->Q (.ref l) (upd H l (.tup ys)))\/(SqT X.K H p ys/\Q (.ref p) H))):=by
 intro pins s σ H xs us Q I r h
 obtain ⟨p,ys,rfl,h⟩:=h
 obtain ⟨u,rfl,rx⟩:=zpt r
 cases rx
 rcases h with ⟨hq,q⟩ | ⟨hq,q⟩
 ·obtain ⟨its,r',pl,hz⟩:=I.list hq
  have hlen:=r'.length
  refine call_tuple_list pl.isList (λ h' kp=>?_) (by simp only [jc1] <;> omega)
  have I1:Inv X pins σ H { s with heap:=h' }:=I.kept (t':=s.toks) kp
  have I2:Inv X pins σ (upd H h'.objs.size (.tup ys)) { s with heap:=h'.push { cls:=.type "tuple",data:=.seq its.toArray } }:=
   I1.laid (t':=s.toks) (λ b o e=>va1 _ e) (jb4 _) (show zxu X.prog X.w _ _ _ (.tup ys) from ⟨hz,its,r',IsTup.new _ _⟩)
  exact ⟨.ref h'.objs.size,_,I2,rfl,q _ (I1.hok.fresh (jb4 _))⟩
 ·obtain ⟨its,r',pl,hz⟩:=I.tuple hq
  exact call_tuple_same pl ⟨.ref p,H,I,rfl,q⟩
def tyV (K:va8) (T:String) (x:V) (H:Hp):Prop:=match x with
 | .str _=>T = "str"
 | .int _=>T = "int"
 | .ref p=>(T = "list" /\ ∃ xs,SqL K H p xs)\/(T = "tuple" /\ ∃ o,K.lookup p=some o/\o.cls=.type "tuple" /\ o.dict=none) \/
   (T = "dict" /\ ((∃ kvs,H p=some (.dK kvs))\/∃ kvs,H p=some (.dT kvs)))\/(T = "set" /\ ∃ S n,H p=some (.set S n))
 | _=>False
theorem qli {pins:List (Addr×Obj)}{σ:St}{H:Hp}{s:va3}{T:String}{x:V}{v:va2} (I:Inv X pins σ H s) (r:RelV x v) (ty:tyV X.K T x H):
  s.TypeIs v T/\∀ a,v=.ref a->∃ ob,s.heap.get? a=some ob/\ob.dict=none:=by
 cases x with
 | str z=>
  obtain ⟨t,rfl⟩:=r
  cases (show T = "str" from ty)
  exact ⟨typeIs_str s z t,λ _ e=>nomatch e⟩
 | int i=>
  obtain ⟨t,rfl⟩:=r
  cases (show T = "int" from ty)
  exact ⟨typeIs_int s i t,λ _ e=>nomatch e⟩
 | ref p=>
  cases r
  rcases ty with ⟨rfl,xs,hq⟩ | ⟨rfl,o,hk,hc,hd⟩ | ⟨rfl,hk⟩ | ⟨rfl,S,n,hk⟩
  ·obtain ⟨its,_,pl,_⟩:=I.list hq
   refine ⟨pl.isList.typeIs,λ a e=>?_⟩
   cases e
   obtain ⟨o,n,e,c,hd,_⟩:=pl
   exact ⟨o,e,hd⟩
  ·refine ⟨⟨o,I.kIn p o hk,hc⟩,λ a e=>?_⟩
   cases e
   exact ⟨o,I.kIn _ o hk,hd⟩
  ·have z:∃ o,s.heap.get? p=some o/\o.ExactDict:=by
    rcases hk with ⟨kvs,hk⟩ | ⟨kvs,hk⟩
    ·obtain ⟨_,_,_,_,o,_,_,e,ex,_⟩:=I.hok p _ hk
     exact ⟨o,e,ex⟩
    ·obtain ⟨_,_,_,_,o,_,_,e,ex,_⟩:=I.hok p _ hk
     exact ⟨o,e,ex⟩
   obtain ⟨o,e,ex⟩:=z
   refine ⟨⟨o,e,ex.1⟩,λ a e2=>?_⟩
   cases e2
   exact ⟨o,e,ex.2.1⟩
  ·obtain ⟨o,_,_,_,e,ex,_⟩:=I.hok p _ hk
   refine ⟨⟨o,e,ex.1⟩,λ a e2=>?_⟩
   cases e2
   exact ⟨o,e,ex.2.1⟩
 | _=>exact vd3 ty
def tBM (K:va8) (T:String) (r:V->List V->Hp->VK->Prop) (to:TE) (t:TA):TE:=λ σ H Q=>to σ H λ x H1=>tyV K T x H1/\t σ H1 λ xs H2=>r x xs H2 Q
variable {o e:Expr}{es:List Expr}{to:TE}{t:TA}{name:Str}{apos cpos:Pos}{T id:String}{r:V->List V->Hp->VK->Prop}
theorem qgh (pa:PlainAttrs T) (slot:Slot T name id) (hty:typeOf (.builtin id)=pure (.type "method_descriptor")) (hm:MtR X id r) (ho:PE X o to) (ha:PA X (e::es) t)
  (hbase:attributeBase o name X.env (eval o X.env)=eval o X.env:=by rfl)
  (hfew:((vg5 cpos (va9 (e::es) X.env)).all (λ x=>!x.1) && (backToKw cpos (keywordEach [] X.env)).all (λ x=>x.1.isSome)
   && decide ((e::es).length + ([]:List Keyword).length + (if ([]:List Keyword).isEmpty then 0 else 1) < 30))=true:=by rfl)
  (hline:(apos.endLine == cpos.line)=true:=by rfl) (hs:va9 (e::es) X.env=(false,eval e X.env)::va9 es X.env:=by rfl) (hplain:(vg5 cpos (va9 es X.env)).any (·.1)=false:=by rfl):
  PE X (.Call (.Attribute o name apos) (e::es) [] cpos) (tBM X.K T r to t):=by
 intro pins s σ H Q I h
 refine wpAny_Call_method_late hbase hfew hline rfl (thn (ho pins s σ H _ I h) λ v s1 ⟨x,H1,I1,r1,ty,q1⟩=>?_)
 obtain ⟨h1,h2⟩:=qli I1 r1 ty
 refine ⟨T,id,pa,slot,hty,h1,h2,?_⟩
 have hA:=ha cpos pins s1 σ H1 _ I1 q1
 rw [hs] at hA ⊢
 refine Calls.callWith_builtin (by show (false || (vg5 cpos (va9 es X.env)).any (·.1))=false;rw [hplain] <;> rfl) (Calls.evalArgs_plain ?_)
 exact thn hA λ us s2 ⟨vs,H2,I2,r2,q2⟩=>hm pins s2 σ H2 x vs v us Q I2 r1 r2 q2
end
def MtM (X:Cx) (id:String) (r:V->List V->Hp->VK->Prop):Prop:=
 ∀ (pins:List (Addr×Obj)) (s:va3) (σ:St) (H:Hp) (x:V) (xs:List V) (v:va2) (us:List va2) (Q:VK),Inv X pins σ H s->RelV x v->Vals xs us->r x xs H Q ->
  vb1 (vb3 X.prog X.w) X.A (call (.builtin id) (v::us)) (EP X pins σ Q) X.xe s
theorem Vals.one:∀ {x:V}{us:List va2},Vals [x] us->∃ u,us=[u]/\RelV x u
 | _,_,.cons r .nil=>⟨_,rfl,r⟩
theorem Vals.eraseIdx:∀ {xs:List V}{us:List va2} (i:Nat),Vals xs us->Vals (xs.eraseIdx i) (us.eraseIdx i)
 | _,_,_,.nil=>.nil
 | _,_,0,.cons _ t=>t
 | _,_,i + 1,.cons r t=>.cons r (Vals.eraseIdx i t)
theorem Vals.rep {xs:List V}{us:List va2} (h:Vals xs us):∀ k:Nat,Vals (ja5 k xs).flatten (ja5 k us).flatten
 | 0=>.nil
 | k + 1=>by
  rw [jf1,jf1,jg8,jg8]
  exact Vals.append h (Vals.rep h k)
theorem zfy {α:Type}:∀ (l:List α) (i:Nat),(l.eraseIdx i).length<=l.length
 | [],_=>jb4 _
 | _::_,0=>jq3 _
 | _::r,i + 1=>jl8 (zfy r i)
theorem zgg (its:List va2):∀ (k:Nat) (acc:List va2),
  jp5 (λ x1 x2=>x1++x2) acc.toArray (ja5 k its.toArray)=(acc++(ja5 k its).flatten).toArray
 | 0,acc=>by simp
 | k + 1,acc=>by
  have e:acc.toArray++its.toArray=(acc++its).toArray:=by simp
  have e2:(acc++its)++(ja5 k its).flatten=acc++(ja5 (k + 1) its).flatten:=by
   rw [jf1,jg8,jh5]
  rw [<- e2,<- zgg its k (acc++its),<- e,jf1,List.foldl_cons]
section
variable {X:Cx}{pins:List (Addr×Obj)}{σ:St}{H:Hp}{s:va3}{l b:Addr}{xs ys zs:List V}
theorem Inv.lset {its its':List va2}{n:Nat}{f:Array va2->Array va2}{t':Nat} (I:Inv X pins σ H s) (hH:H l=some (.lst xs))
  (e:s.heap.get? l=some { cls:=.type "list",data:=.seq its.toArray n }) (hf:f its.toArray=its'.toArray) (hv:Vals ys its') (hz:ys.length<=va4):
  Inv X pins σ (upd H l (.lst ys)) { s with heap:=s.heap.update l (ve6 f),toks:=t' }:=by
 have q:=PySem.IsL.update e f
 rw [hf] at q
 refine I.write (x:=l) (e:=l) (by rw [hH];exact trivial) (.inl rfl) (λ b' u hb hu=>(ve7 s.heap (ve6 f) (vb2 hb)).trans hu) ⟨_,q⟩ ?_
 exact ⟨hz,its',_,hv,q⟩
theorem Inv.lnew {its:List va2}{t':Nat} (I:Inv X pins σ H s) (hv:Vals ys its) (hz:ys.length<=va4):
  Inv X pins σ (upd H s.heap.objs.size (.lst ys)) { s with heap:=s.heap.push { cls:=.type "list",data:=.seq its.toArray },toks:=t' }:=
 I.laid (λ _ _ q=>va1 _ q) (jb4 _) ⟨hz,its,0,hv,va7 _ rfl⟩
theorem Inv.fresh (I:Inv X pins σ H s):H s.heap.objs.size=none:=I.hok.fresh (jb4 _)
theorem Inv.lstM (I:Inv X pins σ H s) (hH:H l=some (.lst xs)):xs.length<=va4/\∃ (its:List va2) (n:Nat),Vals xs its/\xs.length=its.length/\s.heap.get? l=some { cls:=.type "list",data:=.seq its.toArray n }:=by
 obtain ⟨z,its,n,r,e⟩:=I.hok l _ hH
 exact ⟨z,its,n,r,r.length,e⟩
theorem qgn {n:Nat} (h:n<=va4):vi8 n=false:=by
 unfold vi8
 exact decide_eq_false (by omega)
end
section
variable {X:Cx}
def zjn:V->List V->Hp->VK->Prop:=λ x vs H Q=>∃ l xs y,x=.ref l/\vs=[y]/\H l=some (.lst xs)/\xs.length < va4/\Q .non (upd H l (.lst (xs++[y])))
theorem zkl:MtM X "list.append" zjn:=by
 intro pins s σ H x vs v us Q I rx rv h
 obtain ⟨l,xs,y,rfl,rfl,hH,hz,q⟩:=h
 cases rx
 obtain ⟨u,rfl,ru⟩:=rv.one
 obtain ⟨z,its,n,r,hl,e⟩:=I.lstM hH
 refine call_meets F.slot_list_append ⟨_,e,rfl⟩ F.entry_list_append (F.args_list_append_2 _ _) (PySem.list_append l its.toArray n u (by rw [jc1];omega)) ⟨e,?_⟩
 refine ⟨.non,_,I.lset (its':=its++[u]) hH e (by simp) (r.append (.cons ru .nil)) ?_,rfl,q⟩
 rw [ja8,jc8]
 (clear hl z;omega)
def qh2:V->List V->Hp->VK->Prop:=λ x vs H Q=>∃ l xs i k y,x=.ref l/\vs=[.int i]/\H l=some (.lst xs)/\-(2 ^ 63)<=i/\i < 2 ^ 63/\vj4 i xs.length=some k/\xs[k]?=some y/\Q y (upd H l (.lst (xs.eraseIdx k)))
theorem qgp:MtM X "list.pop" qh2:=by
 intro pins s σ H x vs v us Q I rx rv h
 obtain ⟨l,xs,i,k,y,rfl,rfl,hH,h1,h2,hk,hy,q⟩:=h
 cases rx
 obtain ⟨u,rfl,ru⟩:=rv.one
 obtain ⟨t,rfl⟩:=ru
 obtain ⟨z,its,n,r,hl,e⟩:=I.lstM hH
 obtain ⟨w,hw,rw'⟩:=r.get hy
 refine call_meets F.slot_list_pop ⟨_,e,rfl⟩ F.entry_list_pop (F.args_list_pop_2 _ _)
  (MeetsSeq.list_pop_at l its.toArray n i t k w (fitsIndex_both h1 h2) (by rw [jc1,<- hl];exact hk) (by rw [<- jg2];exact hw) (by rw [jc1];(clear h2 h1;omega))) ⟨e,?_⟩
 refine ⟨y,_,I.lset (its':=its.eraseIdx k) hH e ?_ (r.eraseIdx k) ?_,rw',q⟩
 ·show its.toArray.eraseIdxIfInBounds k=(its.eraseIdx k).toArray
  rw [List.eraseIdxIfInBounds_toArray]
 ·have:=zfy xs k
  (clear hl h2 h1;omega)
def rCat:R2:=λ x y H Q=>∃ l b xs zs,x=.ref l/\y=.ref b/\H l=some (.lst xs)/\H b=some (.lst zs)/\xs.length + zs.length<=va4/\∀ p,H p=none->Q (.ref p) (upd H p (.lst (xs++zs)))
theorem qib:OpR X (vg0 .Add) rCat:=by
 intro pins s σ H x y v u Q I rx ry h
 obtain ⟨l,b,xs,zs,rfl,rfl,hH,hB,hz,q⟩:=h
 cases rx
 cases ry
 obtain ⟨z,its,n,r,hl,e⟩:=I.lstM hH
 obtain ⟨z2,its2,n2,r2,hl2,e2⟩:=I.lstM hB
 refine PySem.P.add_list e e2 ?_ (by rw [jc1,jc1];(clear z2 z;omega))
 have ea:its.toArray++its2.toArray=(its++its2).toArray:=by simp
 rw [ea]
 exact ⟨.ref _,_,I.lnew (t':=s.toks) (r.append r2) (by rw [ja8];(clear hl2 z2 hl z;omega)),rfl,q _ I.fresh⟩
def rRep:R2:=λ x y H Q=>∃ l k xs,x=.ref l/\y=.int k/\H l=some (.lst xs)/\-(2 ^ 63)<=k/\k < 2 ^ 63/\xs.length * k.toNat<=va4 /\
 ∀ p,H p=none->Q (.ref p) (upd H p (.lst (ja5 k.toNat xs).flatten))
theorem qkf {α:Type} (xs:List α) (k:Nat):(ja5 k xs).flatten.length=k * xs.length:=by
 induction k with
 | zero=>simp
 | succ k ih=>rw [jf1,jg8,ja8,ih,jk7,Nat.add_comm]
theorem qm6:OpR X (vg0 .Mult) rRep:=by
 intro pins s σ H x y v u Q I rx ry h
 obtain ⟨l,k,xs,rfl,rfl,hH,h1,h2,hz,q⟩:=h
 cases rx
 obtain ⟨t,rfl⟩:=ry
 obtain ⟨z,its,n,r,hl,e⟩:=I.lstM hH
 have hlen:its.toArray.size * k.toNat<=va4:=by rw [jc1,<- hl];exact hz
 have hcap:¬ its.toArray.size * k.toNat > (2 ^ 63 - 1) / 8:=by
  have:(va4:Nat)<=(2 ^ 63 - 1) / 8:=by decide
  (clear hl z hz h2 h1;omega)
 have hfit:¬ (!Builtin.List.listFitsIndex k)=true:=by
  rw [fitsIndex_both h1 h2]
  exact jb8
 have hlong:¬ vi8 (its.toArray.size * k.toNat)=true:=by
  rw [qgn hlen]
  exact jb8
 have hnew:jp5 (λ x1 x2=>x1++x2) #[] (ja5 (if its.toArray.isEmpty=true then 0 else k.toNat) its.toArray)=(ja5 k.toNat its).flatten.toArray:=by
  have f0:∀ m:Nat,jp5 (λ x1 x2=>x1++x2) #[] (ja5 m its.toArray)=(ja5 m its).flatten.toArray:=λ m=>by
   have:=zgg its m []
   rw [ji2] at this
   exact this
  rw [f0]
  cases its with
  | nil=>simp
  | cons a r'=>rw [if_neg (by simp)]
 refine wpAny_binaryOp_repeat_ref (T := "list") (U := "int") (by decide) ⟨_,e,rfl⟩ (λ s'=>typeIs_int s' k t) noFill_list_mul F.fills_int_mul F.slot_int_rmul repeat_list F.slot_int_index.lookup
  (call_meets F.slot_int_rmul (typeIs_int s k t) F.entry_int_rmul (F.args_int_rmul_2 _ _) (int___rmul___int_list k t l its.toArray n)
   ⟨e,rfl,⟨_,e,rfl⟩,call_meets F.slot_list_mul ⟨_,e,rfl⟩ F.entry_list_mul (F.args_list_mul_2 _ _) (AutoListH.list___mul___list_int_3 l its.toArray n k t hfit hcap hlong) ⟨e,?_⟩⟩)
 rw [hnew]
 exact ⟨.ref _,_,I.lnew (t':=s.toks) (r.rep k.toNat) (by rw [qkf,Nat.mul_comm];exact hz),rfl,q _ I.fresh⟩
end
section
variable {prog:vb0}{w:vb8}{A:vc0}{E:va2->va3->Prop}{s:va3}
end
section
variable {X:Cx}
end
end L2
namespace Att
open PySem PySem.W PySem.Calls PyProof.Rows
theorem zjy {P:Params}{h:Heap}:∀ (ns:List Int) (vs:List va2),WellAll P h vs (ns.map WData.int)->IntsAre vs ns:=by
 intro ns
 induction ns with
 | nil=>
  intro vs w
  rw [jg3] at w
  cases w
  exact .nil
 | cons n ns ih=>
  intro vs w
  rw [jc2] at w
  cases w with
  | cons a b=>
   cases a
   exact .cons _ _ (ih _ b)
theorem qc0 {l:OpenLaw}{n:Nat} (hn:l.most=some n) {P:Params}{h:Heap}{args:List WData}{vals:List va2}
  (hpre:l.row.toRowW.claim.pre args=true) (hwl:WellAll P h vals args):
  ∃ a vs ns,vals=[Value.ref a]/\args=[WData.list (ns.map WData.int)]/\h.get? a=some { cls:=.type "list",data:=.seq vs.toArray }/\IntsAre vs ns/\ns.length<=n:=by
 have hsh:WShape.hasAll [] args [.list .int]=true:=(pre_splitW hpre).1
 have hc:l.pre.holds [] { args:=args }=true:=(pre_splitW hpre).2
 obtain ⟨d,r,rfl,h1,h2⟩:=hasAllW_cons hsh
 obtain rfl:=hasAllW_nil h2
 obtain ⟨xs,rfl,h3⟩:=hasW_list h1
 obtain ⟨ns,rfl⟩:=items_int h3
 have hlen:ns.length<=n:=by
  unfold OpenLaw.pre at hc
  have h4:(WTm.not (.lt (.lit (.int (n:Int))) (.len (.arg 0)))).holds [] { args:=[.list (ns.map .int)] }=true:=by
   have h4:=(holds_andW hc).1
   rw [hn] at h4
   exact h4
  have h5:=condW_of h4 (w_not (w_lt w_lit (w_len_list (w_arg rfl))))
  rw [ja4] at h5
  refine Nat.le_of_not_lt λ q=>?_
  have q':(n:Int) < ((ns.length:Nat):Int):=by omega
  first
   | (rw [decide_eq_true q'] at h5;exact absurd h5 (by decide))
   | (simp at h5;omega)
 cases hwl with
 | cons w1 w2=>
  cases w2
  cases w1 with
  | list ho hall=>exact ⟨_,_,ns,rfl,rfl,ho,zjy ns _ hall,hlen⟩
theorem qdb (l:OpenLaw) (args:List WData):l.row.toRowW.claim.post args (.bool true) args=true:=
 postW_of (r:=l.row.toRowW) (X:=(true == true))
  (show WShape.has [] (.bool true) .bool=true by first | rfl | decide | simp [WShape.has,WShape.arms,WShape.armsAll])
  (show (WTm.eq .res (.lit (.bool true))).value [] { args:=args,res:=some (.bool true),after:=args }=some (.bool (true == true)) from w_eq_bool (w_res rfl) w_lit) rfl
theorem attach_call {l:OpenLaw}{n:Nat}{q:vb0}{loose:List Str}{XP:(Str->Option va2)->Heap->Prop}{YP:vb8->Heap->Prop}{d:DefRec}
  (hn:l.most=some n) (hdf:d.params.defaults=[])
  (call:∀ (w:vb8) (s₀ s₁:va3) (mg mb:Str->Option va2) (fa:Addr) (o:Obj) (pm cd doc:va2) (a:Addr) (vs:List va2) (ns:List Int),
   Ground q loose [] XP w s₀ mg mb s₁.heap->YP w s₁.heap ->
   s₁.heap.get? fa=some o->o.data=.func (docDef d.name d.params d.body d.scope pm cd doc)->s₁.heap.CodeRec cd d.name->mg d.name=some (.ref fa) ->
   s₁.heap.get? a=some { cls:=.type "list",data:=.seq vs.toArray }->IntsAre vs ns->ns.length<=n->s₁.gens=#[] ->
   vl9 (vb3 l.prog w) vo1 (.call (.ref fa) ⟨[.ref a],[]⟩) (λ r s'=>r=.ok (.ret (.bool true))/\OldK s₁.heap s'.heap/\s'.os=s₁.os/\vi1 s'.gens) s₁):
  WalkO q loose XP YP l.row.toRowW d [] (λ f vs=>PySem.call f vs):=by
 intro w s₀ s₁ mg mb G Y fa o pm cd doc dV kV ho hd hcd hD hmg hg args vals as hpre hlay hrd hwl hlo
 obtain rfl:dV=.none:=Dflts.none hD hdf
 obtain rfl:kV=.none:=Dflts.noKw hD
 obtain ⟨a,vs,ns,rfl,rfl,hobj,hints,hlen⟩:=qc0 hn hpre hwl
 refine enter_call (vm5 (call w s₀ s₁ mg mb fa o pm cd doc a vs ns G Y ho (fd_plain hd) hcd hmg hobj hints hlen hg) λ r s' hq=>?_)
 obtain ⟨rfl,h2,h3,h4⟩:=hq
 exact ⟨.inl ⟨.bool true,.bool true,[],rfl,λ _=>rfl,.bool true,qdb l _,λ _=>⟨List.Pairwise.nil,λ _ hm=>(nomatch hm)⟩⟩,h2,h3,h4⟩
section
variable {prog:vb0}{w:vb8}{A:vc0}{E:va2->va3->Prop}{s:va3}{K:Frag}
end
end Att
namespace L2
open PySem PySem.Spec PyProof.Rows
theorem zmy:∀ {vs:List va2}{ns:List Int},IntsAre vs ns->Vals (ns.map V.int) vs
 | _,_,.nil=>.nil
 | _,_,.cons n t h=>.cons ⟨t,rfl⟩ (zmy h)
def Only (H:Hp):Prop:=∀ b,H b=none\/∃ o xs,H b=some (.frz o (.lst xs))
theorem qgu {P:vb0}{w:vb8}{K:va8}{mg mb:Str->Option va2}{CX:CXT}{k:Nat}{fa a:Addr}{fd:vc9}{x:Str}{sp:Sp}{s₁:va3}{vs:List va2}{ns:List Int}
  (KX:K.In s₁.heap) (hns:s₁.heap.Ns vc8 mg) (hb:s₁.heap.Ns builtinsNs mb) (hbb:∀ x:Str,x ≠ "__name__" -> mb x=vg4 x) (hlim:s₁.heap.NoLimit) (hg:s₁.gens=#[])
  (ha:s₁.heap.get? a=some { cls:=.type "list",data:=.seq vs.toArray }) (hi:IntsAre vs ns) (hl:ns.length<=va4) (hr:Room k vo1)
  (F:∀ base:Heap,K.In base->base.Ns vc8 mg->FnOk P w K mg base CX k fa fd [x] sp) (hbind:∀ (s:va3) (u:va2),BindsTo s fd ⟨[u],[]⟩ [(x,u)])
  (hsp:∀ H:Hp,Only H->SqL K H a (ns.map V.int)->sp [.ref a] H (λ v _=>v=.bl true) λ _ _ _=>False)
  (hCX:∀ H e s',CX [] H s₁ (λ _ _ _=>False) e s'->False):
  vl9 (vb3 P w) vo1 (.call (.ref fa) ⟨[.ref a],[]⟩) (λ r s'=>r=.ok (.ret (.bool true))/\OldK s₁.heap s'.heap/\s'.os=s₁.os/\vi1 s'.gens) s₁:=by
 have rv:=zmy hi
 have lenV:=hi.length
 have core:∀ H:Hp,Only H->SqL K H a (ns.map V.int)->HOk P w H s₁.heap->(∀ b,H b≠none->b=a)->(H a≠none->K.lookup a=none) ->
   vl9 (vb3 P w) vo1 (.call (.ref fa) ⟨[.ref a],[]⟩) (λ r s'=>r=.ok (.ret (.bool true))/\OldK s₁.heap s'.heap/\s'.os=s₁.os/\vi1 s'.gens) s₁:=by
  intro H hO hS hok hA hK
  have base_of:∀ {b:Addr}{o:Obj},s₁.heap.get? b=some o->H b=none->(hidT s₁.heap H).get? b=some o:=λ e n=>qg1 e n
  have noA:∀ {b:Addr}{o:Obj}{es:Array vi7}{ep:Nat},s₁.heap.get? b=some o->o.data=.dict es ep->H b=none:=λ {b o es ep} e d=>by
   cases q:H b with
   | none=>rfl
   | some u=>
    have e':b=a:=hA b (by rw [q];simp)
    subst e'
    rw [ha] at e;cases e
    have d':Data.seq vs.toArray _=Data.dict es ep:=d
    cases d'
  have nsK:∀ {b:Addr}{m:Str->Option va2},s₁.heap.Ns b m->(hidT s₁.heap H).Ns b m:=λ {b m} ⟨o,es,ep,e,d,r⟩=>⟨o,es,ep,base_of e (noA e d),d,r⟩
  have hKb:K.In (hidT s₁.heap H):=λ b o e=>base_of (KX b o e) (by
   cases q:H b with
   | none=>rfl
   | some u=>
    have e':b=a:=hA b (by rw [q];simp)
    subst e'
    rw [hK (by rw [q];simp)] at e;cases e)
  have hM:Mod K mg (hidT s₁.heap H):=⟨hKb,nsK hns,⟨mb,nsK hb,hbb⟩,let ⟨mc,h1,h2⟩:=hlim;⟨mc,nsK h1,h2⟩⟩
  have e0:Env0 P w K mg (hidT s₁.heap H) vo1 [] s₁ H:=⟨rfl,hM,λ b o e=>qj9 e,Nat.le_of_eq (qel _ _),trivial,λ b hb=>absurd (show b∈([]:List Addr) from hb) (by simp),hok,.of_eq hg⟩
  refine vm5 ((F _ hKb (nsK hns)).run vo1 [] s₁ H ⟨[.ref a],[]⟩ [.ref a] [.ref a] _ _ hr e0 (hbind s₁ (.ref a)) (.cons rfl .nil) (hsp H hO hS)) λ r s' h=>?_
  cases r with
  | error e=>exact (hCX H e s' h).elim
  | ok fl=>
   cases fl with
   | next=>exact vd3 h
   | brk=>exact vd3 h
   | cont=>exact vd3 h
   | ret u=>
    obtain ⟨v,H',os,bare,un,hok',r',q⟩:=h
    have q':v=.bl true:=q
    subst q'
    obtain rfl:u=Value.bool true:=r'
    refine ⟨rfl,OldK.of_keep λ b o e=>?_,os,bare⟩
    cases q:H b with
    | none=>exact un.keep b o e q (by intro z;exact absurd (show b∈([]:List Addr) from z) (by simp)) (by simp)
    | some u=>
     rcases hO b with z | ⟨ob,xs,z⟩
     ·rw [q] at z;cases z
     ·have z2:=un.frzs b ob _ z
      obtain ⟨e1,_⟩:=hok b _ z
      obtain ⟨e2,_⟩:=hok' b _ z2
      rw [e] at e1;cases e1
      exact e2
 cases hk:K.lookup a with
 | some o=>
  have e:=KX a o hk
  rw [ha] at e
  cases e
  refine core (λ _=>none) (λ _=>.inl rfl) (.inr ⟨_,vs.toArray,_,hk,rfl,rfl,rfl,by rw [jc1,lenV];exact hl,by simpa using rv⟩) (λ b u z=>by have z':(none:Option HO)=some u:=z;cases z') (λ b z=>absurd rfl z) λ z=>absurd rfl z
 | none=>
  refine core (λ b=>if b=a then some (.frz { cls:=.type "list",data:=.seq vs.toArray } (.lst (ns.map V.int))) else none) (λ b=>?_) (.inl (.inr ⟨{ cls:=.type "list",data:=.seq vs.toArray },if_pos rfl⟩)) (λ b u z=>?_) (λ b z=>?_) λ _=>hk
  ·by_cases hb:b=a
   ·exact .inr ⟨_,_,if_pos hb⟩
   ·exact .inl (if_neg hb)
  ·by_cases hb:b=a
   ·have z':=(if_pos hb).symm.trans z
    cases z'
    subst hb
    exact ⟨ha,by rw [ja4];exact hl,vs,_,rv,ha⟩
   ·have z':=(if_neg hb).symm.trans z
    cases z'
  ·by_cases hb:b=a
   ·exact hb
   ·exact absurd (if_neg hb) z
abbrev E0:XK:=λ _ _ _=>False
structure Fun (K:va8) (x qual:Str) (st:Stmt) (f:Addr) (fd:vc9):Prop where
 ex:∃ (oc:va2) (od:Option Addr) (kV doc pm:va2) (an:Option Addr) (cdv ct:va2) (osl:Array (Option va2)),
  fd=vh6 x qual (zba st) (zqo st) (zqe st) .none kV doc pm an cdv ct/\K.lookup f=some ⟨oc,od,.func fd,osl⟩/\vp2 K cdv qual=true
 kp:ve5 K (.ref f)=true
section
variable {P:vb0}{w:vb8}{K:va8}{mg:Str->Option va2}{base:Heap}
theorem Fun.binds {x qual:Str}{st:Stmt}{f:Addr}{fd:vc9}{ps:List Str} (F:Fun K x qual st f fd)
  (h:∀ (kV doc pm:va2) (an:Option Addr) (cdv ct:va2) (us:List va2),us.length=ps.length->bindArgs (vh6 x qual (zba st) (zqo st) (zqe st) .none kV doc pm an cdv ct) ⟨us,[]⟩=pure (ps.zip us)):zbk K fd ps []:=by
 obtain ⟨oc,od,kV,doc,pm,an,cdv,ct,osl,rfl,lk,hcd⟩:=F.ex
 exact .all (h kV doc pm an cdv ct)
theorem qn0 {x qual:Str}{st:Stmt}{f:Addr}{oc:va2}{od an:Option Addr}{osl:Array (Option va2)}{kV doc pm cdv ct:va2} (l:K.lookup f=some ⟨oc,od,.func (vh6 x qual (zba st) (zqo st) (zqe st) .none kV doc pm an cdv ct),osl⟩)
  (c:vp2 K cdv qual=true) (k:ve5 K (.ref f)=true):Fun K x qual st f (vh6 x qual (zba st) (zqo st) (zqe st) .none kV doc pm an cdv ct):=⟨⟨oc,od,kV,doc,pm,an,cdv,ct,osl,rfl,l,c⟩,k⟩
end
section
variable {X:Cx}
end
section
variable {κ:Type} [DecidableEq κ]
def valV (kvs:List (κ×V)) (k:κ):Option V:=(kvs.find? λ kv=>decide (kv.1=k)).map (·.2)
def putK (kvs:List (κ×V)) (k:κ) (v:V):List (κ×V):=
 if (kvs.any λ kv=>decide (kv.1=k))=true then kvs.map (λ kv=>if kv.1=k then (kv.1,v) else kv) else kvs++[(k,v)]
theorem zxp {p:κ×V}{r:List (κ×V)}{k:κ} (e:p.1=k):valV (p::r) k=some p.2:=by simp [valV,jh3,e]
theorem zxq {p:κ×V}{r:List (κ×V)}{k:κ} (e:¬ p.1=k):valV (p::r) k=valV r k:=by simp [valV,jh3,e]
theorem zvg (k:κ):∀ kvs:List (κ×V),(kvs.any λ kv=>decide (kv.1=k))=(valV kvs k).isSome
 | []=>rfl
 | p::r=>by
  rw [jl6]
  by_cases e:p.1=k
  ·simp only [zxp e,decide_eq_true e,Bool.true_or,jn2]
  ·rw [zxq e,decide_eq_false e,jp6];exact zvg k r
theorem qab (k j:κ) (y:V):∀ kvs:List (κ×V),valV (kvs.map λ kv=>if kv.1=k then (kv.1,y) else kv) j=(valV kvs j).map λ x=>if j=k then y else x
 | []=>rfl
 | p::r=>by
  have ih:=qab k j y r
  rw [jc2]
  by_cases h:p.1=k
  ·rw [if_pos h]
   by_cases e:p.1=j
   ·rw [zxp (p:=(p.1,y)) e,zxp e,je3,if_pos (e.symm.trans h)]
   ·rw [zxq (p:=(p.1,y)) e,zxq e,ih]
  ·rw [if_neg h]
   by_cases e:p.1=j
   ·rw [zxp (p:=p) e,zxp e,je3,if_neg (λ z=>h (e.trans z))]
   ·rw [zxq (p:=p) e,zxq e,ih]
theorem zmz (k j:κ) (y:V):∀ kvs:List (κ×V),valV kvs k=none->valV (kvs++[(k,y)]) j=if j=k then some y else valV kvs j
 | [],_=>by
  by_cases e:k=j
  ·rw [if_pos e.symm];exact zxp (p:=(k,y)) e
  ·rw [if_neg (λ z=>e z.symm)];exact zxq (p:=(k,y)) e
 | p::r,hn=>by
  rw [jj2]
  have hk:¬ p.1=k:=λ z=>by rw [zxp z] at hn;cases hn
  rw [zxq hk] at hn
  have ih:=zmz k j y r hn
  by_cases e:p.1=j
  ·rw [zxp e,zxp e,if_neg (λ z=>hk (e.trans z))]
  ·rw [zxq e,zxq e,ih]
theorem qfp (kvs:List (κ×V)) (k j:κ) (y:V):valV (putK kvs k y) j=if j=k then some y else valV kvs j:=by
 unfold putK
 by_cases a:(kvs.any λ kv=>decide (kv.1=k))=true
 ·rw [if_pos a,qab]
  rw [zvg] at a
  by_cases e:j=k
  ·obtain ⟨x,hx⟩:=jg7.mp a
   rw [if_pos e,e,hx,je3,if_pos rfl]
  ·rw [if_neg e]
   cases valV kvs j with
   | none=>rfl
   | some x=>rw [je3,if_neg e]
 ·rw [if_neg a]
  refine zmz k j y kvs ?_
  rw [zvg] at a
  cases q:valV kvs k with
  | none=>rfl
  | some x=>rw [q] at a;exact (a rfl).elim
theorem zvu (kvs:List (κ×V)) (k:κ) (v:V):(putK kvs k v).length<=kvs.length + 1:=by
 unfold putK
 split
 ·rw [ja4];omega
 ·rw [ja8,jb2,List.length_nil];omega
theorem qf7 {kvs:List (κ×V)}{k:κ} (v:V) (h:valV kvs k=none):putK kvs k v=kvs++[(k,v)]:=by
 unfold putK
 rw [zvg,h]
 exact if_neg (by decide)
theorem RelO.isSome_eq {o:Option V}{u:Option va2} (r:RelO o u):o.isSome=u.isSome:=by
 cases o with
 | none=>cases u with
  | none=>rfl
  | some _=>exact (show False from r).elim
 | some _=>cases u with
  | none=>exact (show False from r).elim
  | some _=>rfl
theorem KV.val {kvs:List (κ×V)}{vs:List (κ×va2)} (r:KV kvs vs) (k:κ):RelO (valV kvs k) (valueAt vs k):=by
 unfold KV at r
 induction r with
 | nil=>exact True.intro
 | @cons p q ps qs h t ih=>
  obtain ⟨h1,h2⟩:=h
  by_cases e:p.1=k
  ·have e':q.1=k:=h1.symm.trans e
   have b:valueAt (q::qs) k=some q.2:=by simp [valueAt,jh3,e']
   rw [zxp e,b];exact h2
  ·have e':¬ q.1=k:=λ z=>e (h1.trans z)
   have b:valueAt (q::qs) k=valueAt qs k:=by simp [valueAt,jh3,e']
   rw [zxq e,b];exact ih
theorem KV.any {kvs:List (κ×V)}{vs:List (κ×va2)} (r:KV kvs vs) (k:κ):(kvs.any λ kv=>decide (kv.1=k))=vs.any λ kv=>decide (kv.1=k):=by
 unfold KV at r
 induction r with
 | nil=>rfl
 | cons h t ih=>rw [jl6,jl6,ih,h.1]
theorem KV.repl {kvs:List (κ×V)}{vs:List (κ×va2)} (r:KV kvs vs) (k:κ) {y:V}{u:va2} (ry:RelV y u):
  KV (kvs.map λ kv=>if kv.1=k then (kv.1,y) else kv) (vs.map λ kv=>if kv.1=k then (kv.1,u) else kv):=by
 unfold KV at r ⊢
 induction r with
 | nil=>exact .nil
 | @cons p q ps qs h t ih=>
  rw [jc2,jc2]
  refine .cons ?_ ih
  obtain ⟨h1,h2⟩:=h
  by_cases e:p.1=k
  ·rw [if_pos e,if_pos (h1.symm.trans e)];exact ⟨h1,ry⟩
  ·rw [if_neg e,if_neg (λ z=>e (h1.trans z))];exact ⟨h1,h2⟩
theorem KV.put {kvs:List (κ×V)}{vs:List (κ×va2)} (r:KV kvs vs) (k:κ) {y:V}{u:va2} (ry:RelV y u):KV (putK kvs k y) (stored vs k u):=by
 unfold putK stored
 rw [r.any k]
 by_cases e:(vs.any λ kv=>decide (kv.1=k))=true
 ·rw [if_pos e,if_pos e];exact r.repl k ry
 ·rw [if_neg e,if_neg e];exact Paired.snoc r ⟨rfl,ry⟩
theorem KV.length {kvs:List (κ×V)}{vs:List (κ×va2)} (r:KV kvs vs):kvs.length=vs.length:=Paired.length r
end
theorem qgx {P:vb0}{w:vb8}{k:Key}{u:va2} (r:RelV (kV k) u):(zxe P w).is k u=true:=by
 cases k with
 | inl i=>obtain ⟨t,e⟩:=(show ∃ t,u=Value.int i t from r);subst e;exact zhh P w i t
 | inr x=>obtain ⟨t,e⟩:=(show ∃ t,u=Value.str x t from r);subst e;exact zhg P w x t
theorem zgb {P:vb0}{w:vb8}:∀ {ks:List Key}{us:List va2},Vals (ks.map kV) us->ItemsAre (zxe P w) ks us
 | [],_,r=>by rw [jg3] at r;cases r;exact .nil
 | k::ks,_,r=>by
  rw [jc2] at r
  cases r with
  | cons h t=>exact .cons (qgx h) (zgb t)
abbrev KT (H:Hp):List (List Key×V)->List (List Key×Addr×va2)->Prop:=vo5 λ p q=>p.1=q.1/\H q.2.1=some (.tup (p.1.map kV))/\RelV p.2 q.2.2
theorem KT.val {H:Hp}{kvs:List (List Key×V)}{xs:List (List Key×Addr×va2)} (r:KT H kvs xs) (k:List Key):RelO (valV kvs k) ((atKey xs k).map (·.2)):=by
 induction r with
 | nil=>exact True.intro
 | @cons p q ps qs h t ih=>
  obtain ⟨h1,_,h2⟩:=h
  by_cases e:p.1=k
  ·have e':q.1=k:=h1.symm.trans e
   have b:atKey (q::qs) k=some q.2:=by simp [atKey,jh3,e']
   rw [zxp e,b];exact h2
  ·have e':¬ q.1=k:=λ z=>e (h1.trans z)
   have b:atKey (q::qs) k=atKey qs k:=by simp [atKey,jh3,e']
   rw [zxq e,b];exact ih
theorem KT.repl {H:Hp}{kvs:List (List Key×V)}{xs:List (List Key×Addr×va2)} (r:KT H kvs xs) (k:List Key) {y:V}{u:va2} (ry:RelV y u):
  KT H (kvs.map λ kv=>if kv.1=k then (kv.1,y) else kv) (xs.map (putAt k u)):=by
 induction r with
 | nil=>exact .nil
 | @cons p q ps qs h t ih=>
  rw [jc2,jc2]
  refine .cons ?_ ih
  obtain ⟨h1,h2,h3⟩:=h
  unfold putAt
  by_cases e:p.1=k
  ·rw [if_pos e,if_pos (h1.symm.trans e)];exact ⟨h1,h2,ry⟩
  ·rw [if_neg e,if_neg (λ z=>e (h1.trans z))];exact ⟨h1,h2,h3⟩
theorem KT.put {H:Hp}{kvs:List (List Key×V)}{xs:List (List Key×Addr×va2)} (r:KT H kvs xs) (k:List Key) {b:Addr}{y:V}{u:va2} (hb:H b=some (.tup (k.map kV))) (ry:RelV y u):
  KT H (putK kvs k y) (storedH xs k b u):=by
 have e:(kvs.any λ kv=>decide (kv.1=k))=(atKey xs k).isSome:=by
  rw [zvg,(r.val k).isSome_eq,jl5]
 unfold putK storedH
 rw [e]
 by_cases q:(atKey xs k).isSome=true
 ·rw [if_pos q,if_pos q];exact r.repl k ry
 ·rw [if_neg q,if_neg q];exact Paired.snoc r ⟨rfl,hb,ry⟩
theorem KT.keeps {H H':Hp}{kvs:List (List Key×V)}{xs:List (List Key×Addr×va2)} (r:KT H kvs xs) (ht:∀ b ys,H b=some (.tup ys)->H' b=some (.tup ys)):KT H' kvs xs:=
 Paired.mapP r λ _ _ z=>⟨z.1,ht _ _ z.2.1,z.2.2⟩
section
variable {P:vb0}{w:vb8}{H:Hp}{h:Heap}{a:Addr}
theorem qms {u:HO} (ok:HOk P w H h) (e:Rd H a u):zxu P w H h a u:=e.ok ok
theorem qkt {kvs:List (Key×V)} (ok:HOk P w H h) (e:Rd H a (.dK kvs)):kvs.length<=va4/\(a == ve4)=false/\∃ vs,KV kvs vs/\h.DictOf (zxe P w) a vs:=
 show zxu P w H h a (.dK kvs) from qms ok e
theorem qeu {kvs:List (Key×V)} (ok:HOk P w H h) (e:H a=some (.dK kvs)):kvs.length<=va4/\(a == ve4)=false/\∃ vs,KV kvs vs/\h.DictOf (zxe P w) a vs:=qkt ok (.inl e)
theorem qa4 {ks:List Key} (ok:HOk P w H h) (e:H a=some (.tup (ks.map kV))):(vl1 (zxe P w)).is h ks a:=by
 obtain ⟨_,its,r,o,h1,h2,n,h3⟩:=(show zxu P w H h a (.tup (ks.map kV)) from ok a _ e)
 exact ⟨o,its.toArray,n,h1,h2,h3,by simpa using zgb r⟩
theorem qks {kvs:List (List Key×V)} (ok:HOk P w H h) (e:Rd H a (.dT kvs)):kvs.length<=va4/\(a == ve4)=false /\
  ∃ xs,KT H kvs xs/\h.DictOfH (vl1 (zxe P w)) a xs:=by
 obtain ⟨z,y,xs,r,o,es,ep,h1,h2,h3,h4,h5⟩:=(show zxu P w H h a (.dT kvs) from qms ok e)
 refine ⟨z,y,xs,r,o,es,ep,h1,h2,h3,h4,λ x hx=>?_,h5⟩
 have all:∀ {l:List (List Key×V)}{m:List (List Key×Addr×va2)},KT H l m->∀ x∈m,(vl1 (zxe P w)).is h x.1 x.2.1:=by
  intro l m q
  induction q with
  | nil=>intro x hx;exact nomatch hx
  | @cons p q ps qs hq t ih=>
   intro x hx
   rcases jb3.mp hx with e | hx
   ·subst e
    exact qa4 ok (by rw [<- hq.1];exact hq.2.1)
   ·exact ih x hx
 exact all r x hx
theorem qpm {kvs:List (List Key×V)} (ok:HOk P w H h) (e:H a=some (.dT kvs)):kvs.length<=va4/\(a == ve4)=false /\
  ∃ xs,KT H kvs xs/\h.DictOfH (vl1 (zxe P w)) a xs:=qks ok (.inl e)
end
def DGet (H:Hp) (a:Addr) (y:V) (r:Option V):Prop:=
 (∃ kvs k,Rd H a (.dK kvs)/\y=kV k/\r=valV kvs k)\/∃ kvs k b,Rd H a (.dT kvs)/\y=.ref b/\H b=some (.tup (k.map kV))/\r=valV kvs k
def DPut (H:Hp) (a:Addr) (y v:V) (H':Hp):Prop:=
 (∃ kvs k,H a=some (.dK kvs)/\y=kV k/\kvs.length < va4/\H'=upd H a (.dK (putK kvs k v))) \/
 ∃ kvs k b,H a=some (.dT kvs)/\y=.ref b/\H b=some (.tup (k.map kV))/\kvs.length < va4/\H'=upd H a (.dT (putK kvs k v))
theorem DGet.t {H:Hp}{a b:Addr}{kvs:List (List Key×V)}{k:List Key} (e:H a=some (.dT kvs)) (eb:H b=some (.tup (k.map kV))):DGet H a (.ref b) (valV kvs k):=.inr ⟨kvs,k,b,.inl e,rfl,eb,rfl⟩
theorem DPut.t {H:Hp}{a b:Addr}{kvs:List (List Key×V)}{k:List Key}{v:V} (e:H a=some (.dT kvs)) (eb:H b=some (.tup (k.map kV))) (hl:kvs.length < va4):
  DPut H a (.ref b) v (upd H a (.dT (putK kvs k v))):=.inr ⟨kvs,k,b,e,rfl,eb,hl,rfl⟩
section
variable {X:Cx}{pins:List (Addr×Obj)}{σ:St}{H:Hp}{s:va3}{a:Addr}{y v:V}{u r:va2}{o:Option V}{A:vc0}{E:va2->va3->Prop}
theorem Inv.big (I:Inv X pins σ H s):ve4 < s.heap.objs.size:=by
 have h:vc8 < s.heap.objs.size:=(I.mod.glob.keeps I.bk).lt
 exact jn8 (by decide) h
theorem d_in {Q:va2->va3->Prop} (hu:A.units + 1 < vi3) (I:Inv X pins σ H s) (g:DGet H a y o) (ry:RelV y u) (h:∀ s',Inv X pins σ H s'->Q (.bool o.isSome) s'):
  vb1 (vb3 X.prog X.w) A (vb4 .In u (.ref a)) Q E s:=by
 rcases g with ⟨kvs,k,e,ey,l⟩ | ⟨kvs,k,b,e,ey,eb,l⟩
 ·subst ey
  obtain ⟨z,hd,vs,rel,dd⟩:=qkt I.hok e
  refine wpAny_in_of (qgx ry) hd dd.mapOf ?_
  rw [<- (rel.val k).isSome_eq,<- l]
  exact h _ (I.tok _)
 ·subst ey
  cases (show u=Value.ref b from ry)
  obtain ⟨z,hd,xs,rel,dd⟩:=qks I.hok e
  refine wpAny_in_heap (vl0 hu) (qa4 I.hok eb) hd dd ?_
  have q:=(rel.val k).isSome_eq
  rw [jl5] at q
  rw [<- q,<- l]
  exact h _ (I.tok _)
theorem qky {Q:va2->va3->Prop} (hu:A.units + 1 < vi3) (I:Inv X pins σ H s) (g:DGet H a y o) (ry:RelV y u) (h:∀ s',Inv X pins σ H s'->Q (.bool (!o.isSome)) s'):
  vb1 (vb3 X.prog X.w) A (vb4 .NotIn u (.ref a)) Q E s:=by
 rcases g with ⟨kvs,k,e,ey,l⟩ | ⟨kvs,k,b,e,ey,eb,l⟩
 ·subst ey
  obtain ⟨z,hd,vs,rel,dd⟩:=qkt I.hok e
  refine wpAny_notIn_of (qgx ry) hd dd.mapOf ?_
  rw [<- (rel.val k).isSome_eq,<- l]
  exact h _ (I.tok _)
 ·subst ey
  cases (show u=Value.ref b from ry)
  obtain ⟨z,hd,xs,rel,dd⟩:=qks I.hok e
  refine wpAny_notIn_heap (vl0 hu) (qa4 I.hok eb) hd dd ?_
  have q:=(rel.val k).isSome_eq
  rw [jl5] at q
  rw [<- q,<- l]
  exact h _ (I.tok _)
theorem qe1 {h':Heap}{t':Nat}{ob:HO} (I:Inv X pins σ H s) (mu:Mut (H a)) (hs:vh9 a s.heap h') (he:∃ q,h'.get? a=some q) (new:zxu X.prog X.w (upd H a ob) h' a ob):
  Inv X pins σ (upd H a ob) { s with heap:=h',toks:=t' }:=
 I.write (x:=a) (e:=a) mu (.inl rfl) (λ b q hb z=>(hs.2 b hb).trans z) he new
theorem qn9 {P:vb0}{w:vb8}{H':Hp}{h':Heap}{kvs:List (Key×V)}{vs:List (Key×va2)} (z:kvs.length<=va4) (hd:(a == ve4)=false) (rel:KV kvs vs) (dd:h'.DictOf (zxe P w) a vs):
  zxu P w H' h' a (.dK kvs):=⟨z,hd,vs,rel,dd⟩
theorem qe2 {H':Hp}{Q:Unit->va3->Prop} (hu:A.units + 1 < vi3) (I:Inv X pins σ H s) (g:DPut H a y v H') (ry:RelV y u) (rv:RelV v r) (h:∀ s',Inv X pins σ H' s'->Q () s'):
  vb1 (vb3 X.prog X.w) A (setItem (.ref a) u r) Q E s:=by
 rcases g with ⟨kvs,k,e,ey,l,eH⟩ | ⟨kvs,k,b,e,ey,eb,l,eH⟩
 ·subst ey eH
  obtain ⟨z,hd,vs,rel,dd⟩:=qeu I.hok e
  have hz:vs.length<=va4:=by rw [<- rel.length];exact z
  have hl:(putK kvs k v).length<=va4:=by have:=zvu kvs k v;omega
  refine wpAny_setItem_pairs (hsz:=hz) (qgx ry) dd λ h' dd' hs=>h _ ?_
  have he:∃ q,h'.get? a=some q:=let ⟨q,_,_,hq,_⟩:=dd';⟨q,hq⟩
  exact qe1 I (by rw [e];exact True.intro) hs he (qn9 hl hd (rel.put k rv) dd')
 ·subst ey eH
  cases (show u=Value.ref b from ry)
  obtain ⟨z,hd,xs,rel,dd⟩:=qpm I.hok e
  have hz:xs.length<=va4:=by rw [<- Paired.length rel];exact z
  have hl:(putK kvs k v).length<=va4:=by have:=zvu kvs k v;omega
  refine wpAny_setItem_heap (hsz:=hz) (vl0 hu) (qa4 I.hok eb) dd λ h' dd' hs=>h _ ?_
  obtain ⟨q,es,ep,hq,h2,h3,h4,_,h5⟩:=dd'
  refine qe1 I (by rw [e];exact True.intro) hs ⟨q,hq⟩ ⟨hl,hd,_,(rel.put k eb rv).keeps λ c ys ec=>?_,q,es,ep,hq,h2,h3,h4,h5⟩
  rw [zqg (qpa ec e (λ z=>nomatch z))]
  exact ec
end
section
variable {X:Cx}{pins:List (Addr×Obj)}{σ:St}{H:Hp}{s:va3}{a:Addr}{kvs:List (Key×V)}{k:Key}{u:va2}{A:vc0}{E:va2->va3->Prop}
end
section
variable {X:Cx}{o i e value:Expr}{pos pos' tpos:Pos}{td ty tv:TE}
end
theorem qhc {P:vb0}{w:vb8}{H:Hp} (h:Heap) (hb:ve4 < h.objs.size):zxu P w H (h.push { cls:=.type "dict",data:=.dict #[] }) h.objs.size (.dT []):=
 ⟨jh1 _,beq_eq_false_iff_ne.mpr (vb2 (jc5 hb)),[],.nil,_,#[],0,va7 _ rfl,⟨rfl,rfl,rfl⟩,rfl,rfl,jp0⟩
def ql9:TE:=λ _ H Q=>∀ p,H p=none->Q (.ref p) (upd H p (.dT []))
section
variable {X:Cx}{pos:Pos}
theorem qge:PE X (.Dict [] [] pos) ql9:=λ pins s σ H Q I h=>
 wpAny_Dict_empty ⟨.ref s.heap.objs.size,_,I.laid (a:=s.heap.objs.size) (o:=.dT []) (t':=s.toks) (λ _ _ q=>va1 _ q) (jb4 _) (qhc s.heap I.big),rfl,h _ (I.hok.fresh (jb4 _))⟩
end
end L2
namespace QQ
open PySem PySem.Spec PyProof.Rows L2
abbrev St:=L2.St
def KL (K:Frag) (a:Addr) (xs:List V):Prop:=∃ (o:Obj) (its:Array va2) (n:Nat),K.lookup a=some o/\o.cls=.type "list" /\ o.dict=none/\o.data=.seq its n/\its.size<=va4/\Vals xs its.toList
theorem zpu {K:Frag}{H:Hp}{a:Addr}{xs:List V} (h:SqL K H a xs):tyV K "list" (.ref a) H:=.inl ⟨rfl,xs,h⟩
def ItS (z:Str):It:=⟨λ i _=>i < z.cps.size,λ i H v H'=>H'=H/\∃ c,z.cps[i]?=some c/\v=.str ⟨#[c]⟩,λ i _=>z.cps.size<=i⟩
def qbk (z:Str):Bool:=z.cps.all (·< 128)
def iSeq (K:Frag) (tl:TE):TI:=λ σ H R=>tl σ H λ x H1=>(∃ a,x=.ref a/\(((∃ xs,SqL K H1 a xs)/\R (Itl K a) H1)\/((∃ xs,SqT K H1 a xs)/\R (Itt K a) H1)))\/∃ z,x=.str z/\qbk z=true/\R (ItS z) H1
def zha (k:Nat) (wi:TI) (g:TG) (tc:TT) (te:TE):TE:=λ σ H Q=>wi σ H λ J H1=>∀ D,H1 D=none->∃ W:Nat->Nat->List V->Hp->Prop,(∃ m,W 0 m [] (upd H1 D (.lst [])))/\∀ i m ys H,W i m ys H->H D=some (.lst ys) /\
 ((J.stop i H/\Q (.ref D) H)\/(J.go i H/\∀ x H',J.yld i H x H'->g x (σ++ja5 k none) H' λ σ2 H2=>tc σ2 H2 λ b H3=>if b=true then te σ2 H3 λ y H4=>H4 D=some (.lst ys)/\ys.length < va4/\∃ m',m' < m/\W (i + 1) m' (ys++[y]) (upd H4 D (.lst (ys++[y]))) else ∃ m',m' < m/\W (i + 1) m' ys H3))
inductive PV where
 | non | bl (b:Bool) | int (i:Int) | str (x:Str) | lst (xs:List PV) | tup (xs:List PV) | emp | dko | scr (ns:List Int) | dct (kvs:List (List Key×V)) | exn (c:Nat)
 deriving Inhabited
inductive MO where
 | l (xs:List V) | d (kvs:List (List Key×V))
def MO.ho:MO->HO
 | .l xs=>.lst xs
 | .d kvs=>.dT kvs
def zyw (a C:Addr) (h:Heap):Prop:=∃ o vs,h.get? a=some o/\o.cls=.ref C/\o.data=.fields vs
def om:Nat:=1000
def pd (d:Nat):Nat:=if d=om then om else d - 1
theorem zjp:pd om=om:=rfl
theorem zmb:pd 0=0:=rfl
mutual
def Own (K:Frag) (H:Hp) (Z:Addr->Prop):PV->Nat->V->List Addr->Prop
 | .non,_,v,fp=>v=.non/\fp=[]
 | .bl b,_,v,fp=>v=.bl b/\fp=[]
 | .int i,_,v,fp=>v=.int i/\fp=[]
 | .str x,_,v,fp=>v=.str x/\fp=[]
 | .emp,_,v,fp=>fp=[]/\∃ a,v=.ref a/\H a=some (.dK [])
 | .dko,_,v,fp=>fp=[]/\∃ a,v=.ref a/\∃ kvs,H a=some (.dK kvs)
 | .scr ns,_,v,fp=>fp=[]/\∃ a,v=.ref a/\((∃ o,H a=some (.frz o (.lst (ns.map V.int))))\/KL K a (ns.map V.int))
 | .exn c,_,v,fp=>fp=[]/\∃ a C,v=.ref a/\zwf K c=some C/\H a=some (.ext (zyw a C))
 | .dct kvs,d,v,fp=>∃ a,v=.ref a/\((d=0/\(H a=some (.dT kvs)/\¬ Z a)/\fp=[])\/(d≠0/\H a=some (.dT kvs)/\fp=[a]))
 | .lst xs,d,v,fp=>∃ a vs,v=.ref a/\((d=0/\(H a=some (.lst vs)/\¬ Z a)/\fp=[]/\OwnL K H Z xs 0 vs [])\/(d≠0/\∃ f,H a=some (.lst vs)/\fp=a::f/\a∉f/\OwnL K H Z xs (pd d) vs f))
 | .tup xs,d,v,fp=>∃ a vs,v=.ref a/\H a=some (.tup vs)/\OwnL K H Z xs (pd d) vs fp
def OwnL (K:Frag) (H:Hp) (Z:Addr->Prop):List PV->Nat->List V->List Addr->Prop
 | [],_,vs,fp=>vs=[]/\fp=[]
 | x::xs,d,vs,fp=>∃ v r f1 f2,vs=v::r/\fp=f1++f2/\(∀ a∈f1,a∉f2)/\Own K H Z x d v f1/\OwnL K H Z xs d r f2
end
def Keep (S:Addr->Prop) (H H':Hp):Prop:=∀ a o,H a=some o->¬ S a->H' a=some o
section
variable {K:Frag}{H H':Hp}{Z Z' S:Addr->Prop}
mutual
theorem Own.lsts:∀ (x:PV) (d:Nat) (v:V) (fp:List Addr),Own K H Z x d v fp->∀ a∈fp,∃ o:MO,H a=some o.ho
 | .non,_,_,_,h,a,ha=>by rw [Own] at h;rw [h.2] at ha;cases ha
 | .bl _,_,_,_,h,a,ha=>by rw [Own] at h;rw [h.2] at ha;cases ha
 | .int _,_,_,_,h,a,ha=>by rw [Own] at h;rw [h.2] at ha;cases ha
 | .str _,_,_,_,h,a,ha=>by rw [Own] at h;rw [h.2] at ha;cases ha
 | .emp,_,_,_,h,a,ha=>by rw [Own] at h;rw [h.1] at ha;cases ha
 | .dko,_,_,_,h,a,ha=>by rw [Own] at h;rw [h.1] at ha;cases ha
 | .scr _,_,_,_,h,a,ha=>by rw [Own] at h;rw [h.1] at ha;cases ha
 | .exn _,_,_,_,h,a,ha=>by rw [Own] at h;rw [h.1] at ha;cases ha
 | .dct kvs,d,v,fp,h,a,ha=>by
  rw [Own] at h
  obtain ⟨b,_,⟨_,_,e⟩ | ⟨_,hb,e⟩⟩:=h
  ·rw [e] at ha;cases ha
  ·rw [e] at ha
   rw [jb6.mp ha]
   exact ⟨.d kvs,hb⟩
 | .lst xs,d,v,fp,h,a,ha=>by
  rw [Own] at h
  obtain ⟨b,vs,_,⟨_,_,e,_⟩ | ⟨_,f,hb,e,_,hl⟩⟩:=h
  ·rw [e] at ha;cases ha
  ·rw [e] at ha
   rcases jb3.mp ha with z | z
   ·exact ⟨.l vs,by rw [z];exact hb⟩
   ·exact OwnL.lsts xs _ vs f hl a z
 | .tup xs,d,v,fp,h,a,ha=>by
  rw [Own] at h
  obtain ⟨b,vs,_,_,hl⟩:=h
  exact OwnL.lsts xs _ vs fp hl a ha
theorem OwnL.lsts:∀ (xs:List PV) (d:Nat) (vs:List V) (fp:List Addr),OwnL K H Z xs d vs fp->∀ a∈fp,∃ o:MO,H a=some o.ho
 | [],_,_,_,h,a,ha=>by rw [OwnL] at h;rw [h.2] at ha;cases ha
 | x::xs,d,vs,fp,h,a,ha=>by
  rw [OwnL] at h
  obtain ⟨v,r,f1,f2,_,e,_,h1,h2⟩:=h
  rw [e] at ha
  rcases jc4.mp ha with z | z
  ·exact Own.lsts x d v f1 h1 a z
  ·exact OwnL.lsts xs d r f2 h2 a z
end
mutual
theorem Own.move (k:Keep S H H') (hS:∀ a,S a->Z a/\∃ o:MO,H a=some o.ho) (hz:∀ a,H a≠none->¬ Z a->¬ Z' a):
  ∀ (x:PV) (d:Nat) (v:V) (fp:List Addr),(∀ a∈fp,¬ S a)->Own K H Z x d v fp->Own K H' Z' x d v fp
 | .non,_,_,_,_,h=>by rw [Own] at h ⊢;exact h
 | .bl _,_,_,_,_,h=>by rw [Own] at h ⊢;exact h
 | .int _,_,_,_,_,h=>by rw [Own] at h ⊢;exact h
 | .str _,_,_,_,_,h=>by rw [Own] at h ⊢;exact h
 | .emp,_,_,_,_,h=>by
  rw [Own] at h ⊢
  obtain ⟨e,a,ev,ha⟩:=h
  exact ⟨e,a,ev,k a _ ha λ s=>by obtain ⟨_,o,e⟩:=hS a s;rw [ha] at e;cases o <;> cases e⟩
 | .dko,_,_,_,_,h=>by
  rw [Own] at h ⊢
  obtain ⟨e,a,ev,kvs,ha⟩:=h
  exact ⟨e,a,ev,kvs,k a _ ha λ s=>by obtain ⟨_,o,e⟩:=hS a s;rw [ha] at e;cases o <;> cases e⟩
 | .scr ns,_,_,_,_,h=>by
  rw [Own] at h ⊢
  obtain ⟨e,a,ev,⟨o,ha⟩ | ha⟩:=h
  ·exact ⟨e,a,ev,.inl ⟨o,k a _ ha λ s=>by obtain ⟨_,q,e⟩:=hS a s;rw [ha] at e;cases q <;> cases e⟩⟩
  ·exact ⟨e,a,ev,.inr ha⟩
 | .exn c,_,_,_,_,h=>by
  rw [Own] at h ⊢
  obtain ⟨e,a,C,ev,hc,ha⟩:=h
  exact ⟨e,a,C,ev,hc,k a _ ha λ s=>by obtain ⟨_,q,e⟩:=hS a s;rw [ha] at e;cases q <;> cases e⟩
 | .dct kvs,d,v,fp,hf,h=>by
  rw [Own] at h ⊢
  obtain ⟨b,ev,⟨d0,hr,e⟩ | ⟨d0,hb,e⟩⟩:=h
  ·exact ⟨b,ev,.inl ⟨d0,⟨k b _ hr.1 λ s=>hr.2 (hS b s).1,hz b (by rw [hr.1];simp) hr.2⟩,e⟩⟩
  ·exact ⟨b,ev,.inr ⟨d0,k b _ hb (hf b (by rw [e];exact ja3)),e⟩⟩
 | .lst xs,d,v,fp,hf,h=>by
  rw [Own] at h ⊢
  obtain ⟨b,vs,ev,⟨d0,hr,e,hl⟩ | ⟨d0,f,hb,e,nb,hl⟩⟩:=h
  ·refine ⟨b,vs,ev,.inl ⟨d0,?_,e,OwnL.move k hS hz xs 0 vs [] (λ _ z=>nomatch z) hl⟩⟩
   exact ⟨k b _ hr.1 λ s=>hr.2 (hS b s).1,hz b (by rw [hr.1];simp) hr.2⟩
  ·refine ⟨b,vs,ev,.inr ⟨d0,f,k b _ hb (hf b (by rw [e];exact ja3)),e,nb,?_⟩⟩
   exact OwnL.move k hS hz xs _ vs f (λ a ha=>hf a (by rw [e];exact ja1 _ ha)) hl
 | .tup xs,d,v,fp,hf,h=>by
  rw [Own] at h ⊢
  obtain ⟨b,vs,ev,hr,hl⟩:=h
  exact ⟨b,vs,ev,k b _ hr (λ s=>by obtain ⟨_,o,e⟩:=hS b s;rw [hr] at e;cases o <;> cases e),OwnL.move k hS hz xs _ vs fp hf hl⟩
theorem OwnL.move (k:Keep S H H') (hS:∀ a,S a->Z a/\∃ o:MO,H a=some o.ho) (hz:∀ a,H a≠none->¬ Z a->¬ Z' a):
  ∀ (xs:List PV) (d:Nat) (vs:List V) (fp:List Addr),(∀ a∈fp,¬ S a)->OwnL K H Z xs d vs fp->OwnL K H' Z' xs d vs fp
 | [],_,_,_,_,h=>by rw [OwnL] at h ⊢;exact h
 | x::xs,d,vs,fp,hf,h=>by
  rw [OwnL] at h ⊢
  obtain ⟨v,r,f1,f2,e1,e,dj,h1,h2⟩:=h
  exact ⟨v,r,f1,f2,e1,e,dj,Own.move k hS hz x d v f1 (λ a ha=>hf a (by rw [e];exact ja9 _ ha)) h1,OwnL.move k hS hz xs d r f2 (λ a ha=>hf a (by rw [e];exact ja2 _ ha)) h2⟩
end
mutual
theorem Own.freeze (hz:∀ a,Z' a->Z a):∀ (x:PV) (d:Nat) (v:V) (fp:List Addr),(∀ a∈fp,¬ Z' a)->Own K H Z x d v fp->Own K H Z' x 0 v []
 | .non,_,_,_,_,h=>by rw [Own] at h ⊢;exact ⟨h.1,rfl⟩
 | .bl _,_,_,_,_,h=>by rw [Own] at h ⊢;exact ⟨h.1,rfl⟩
 | .int _,_,_,_,_,h=>by rw [Own] at h ⊢;exact ⟨h.1,rfl⟩
 | .str _,_,_,_,_,h=>by rw [Own] at h ⊢;exact ⟨h.1,rfl⟩
 | .emp,_,_,_,_,h=>by rw [Own] at h ⊢;exact ⟨rfl,h.2⟩
 | .dko,_,_,_,_,h=>by rw [Own] at h ⊢;exact ⟨rfl,h.2⟩
 | .scr _,_,_,_,_,h=>by rw [Own] at h ⊢;exact ⟨rfl,h.2⟩
 | .exn _,_,_,_,_,h=>by rw [Own] at h ⊢;exact ⟨rfl,h.2⟩
 | .dct kvs,d,v,fp,hf,h=>by
  rw [Own] at h ⊢
  obtain ⟨b,ev,⟨d0,hr,e⟩ | ⟨d0,hb,e⟩⟩:=h
  ·exact ⟨b,ev,.inl ⟨rfl,⟨hr.1,λ z=>hr.2 (hz b z)⟩,rfl⟩⟩
  ·exact ⟨b,ev,.inl ⟨rfl,⟨hb,hf b (by rw [e];exact ja3)⟩,rfl⟩⟩
 | .lst xs,d,v,fp,hf,h=>by
  rw [Own] at h ⊢
  obtain ⟨b,vs,ev,⟨d0,hr,e,hl⟩ | ⟨d0,f,hb,e,nb,hl⟩⟩:=h
  ·refine ⟨b,vs,ev,.inl ⟨rfl,?_,rfl,OwnL.freeze hz xs 0 vs [] (λ _ z=>nomatch z) hl⟩⟩
   exact ⟨hr.1,λ z=>hr.2 (hz b z)⟩
  ·exact ⟨b,vs,ev,.inl ⟨rfl,⟨hb,hf b (by rw [e];exact ja3)⟩,rfl,OwnL.freeze hz xs _ vs f (λ a ha=>hf a (by rw [e];exact ja1 _ ha)) hl⟩⟩
 | .tup xs,d,v,fp,hf,h=>by
  rw [Own] at h ⊢
  obtain ⟨b,vs,ev,hr,hl⟩:=h
  exact ⟨b,vs,ev,hr,OwnL.freeze hz xs _ vs fp hf hl⟩
theorem OwnL.freeze (hz:∀ a,Z' a->Z a):∀ (xs:List PV) (d:Nat) (vs:List V) (fp:List Addr),(∀ a∈fp,¬ Z' a)->OwnL K H Z xs d vs fp->OwnL K H Z' xs 0 vs []
 | [],_,_,_,_,h=>by rw [OwnL] at h ⊢;exact ⟨h.1,rfl⟩
 | x::xs,d,vs,fp,hf,h=>by
  rw [OwnL] at h ⊢
  obtain ⟨v,r,f1,f2,e1,e,dj,h1,h2⟩:=h
  exact ⟨v,r,[],[],e1,rfl,λ _ z=>(nomatch z),Own.freeze hz x d v f1 (λ a ha=>hf a (by rw [e];exact ja9 _ ha)) h1,OwnL.freeze hz xs d r f2 (λ a ha=>hf a (by rw [e];exact ja2 _ ha)) h2⟩
end
mutual
theorem Own.full:∀ (x:PV) (v:V) (fp:List Addr),Own K H Z x om v fp->Own K H Z' x om v fp
 | .non,_,_,h=>by rw [Own] at h ⊢;exact h
 | .bl _,_,_,h=>by rw [Own] at h ⊢;exact h
 | .int _,_,_,h=>by rw [Own] at h ⊢;exact h
 | .str _,_,_,h=>by rw [Own] at h ⊢;exact h
 | .emp,_,_,h=>by rw [Own] at h ⊢;exact h
 | .dko,_,_,h=>by rw [Own] at h ⊢;exact h
 | .scr _,_,_,h=>by rw [Own] at h ⊢;exact h
 | .exn _,_,_,h=>by rw [Own] at h ⊢;exact h
 | .dct kvs,v,fp,h=>by
  rw [Own] at h ⊢
  obtain ⟨b,ev,⟨d0,_⟩ | ⟨d0,hb,e⟩⟩:=h
  ·exact absurd d0 (by decide)
  ·exact ⟨b,ev,.inr ⟨d0,hb,e⟩⟩
 | .lst xs,v,fp,h=>by
  rw [Own] at h ⊢
  obtain ⟨b,vs,ev,⟨d0,_⟩ | ⟨d0,f,hb,e,nb,hl⟩⟩:=h
  ·exact absurd d0 (by decide)
  ·exact ⟨b,vs,ev,.inr ⟨d0,f,hb,e,nb,OwnL.full xs vs f hl⟩⟩
 | .tup xs,v,fp,h=>by
  rw [Own] at h ⊢
  obtain ⟨b,vs,ev,hr,hl⟩:=h
  exact ⟨b,vs,ev,hr,OwnL.full xs vs fp hl⟩
theorem OwnL.full:∀ (xs:List PV) (vs:List V) (fp:List Addr),OwnL K H Z xs om vs fp->OwnL K H Z' xs om vs fp
 | [],_,_,h=>by rw [OwnL] at h ⊢;exact h
 | x::xs,vs,fp,h=>by
  rw [OwnL] at h ⊢
  obtain ⟨v,r,f1,f2,e1,e,dj,h1,h2⟩:=h
  exact ⟨v,r,f1,f2,e1,e,dj,Own.full x v f1 h1,OwnL.full xs r f2 h2⟩
end
theorem Own.weak (hz:∀ a,Z' a->Z a) {x:PV}{d:Nat}{v:V}{fp:List Addr} (h:Own K H Z x d v fp):Own K H Z' x d v fp:=
 Own.move (S:=λ _=>False) (λ _ _ h _=>h) (λ _ z=>z.elim) (λ a _ n z=>n (hz a z)) x d v fp (λ _ _ z=>z) h
theorem OwnL.weak (hz:∀ a,Z' a->Z a) {xs:List PV}{d:Nat}{vs:List V}{fp:List Addr} (h:OwnL K H Z xs d vs fp):OwnL K H Z' xs d vs fp:=
 OwnL.move (S:=λ _=>False) (λ _ _ h _=>h) (λ _ z=>z.elim) (λ a _ n z=>n (hz a z)) xs d vs fp (λ _ _ z=>z) h
end
abbrev Slot:=Option (PV×Nat)
abbrev Rho:=List Slot
inductive Rz (α:Type) where
 | ok (a:α) | exc (c:Nat) | no
def Rz.bind {α β:Type} (r:Rz α) (f:α->Rz β):Rz β:=match r with
 | .ok a=>f a
 | .exc c=>.exc c
 | .no=>.no
abbrev Fx:=Rho->Rz (PV×Nat×Rho)
abbrev Fa:=Rho->Rz (List (PV×Nat)×Rho)
abbrev Fb:=Rho->Rz (Bool×Rho)
structure Fm where
 K:Frag
 Ms:Nat->Bool
 Zo:Addr->Prop
 H₀:Hp
 W:St->Nat->Hp->Prop
 io:Option V
 al:Nat->List Nat
 pn:List (Nat×V):=[]
abbrev Fps:=Nat->List Addr
def Fm.Fre (M:Fm) (i:Nat):Prop:=(M.io≠none->i≠0)/\∀ p∈M.pn,p.1≠i
def Zf (M:Fm) (fps:Fps):Addr->Prop:=λ a=>M.Zo a\/∃ i,a∈fps i
def Zv (M:Fm) (vs:List Nat) (fps:Fps):Addr->Prop:=λ a=>M.Zo a\/∃ i,i∉vs/\a∈fps i
def Za (M:Fm) (fps:Fps) (i:Nat):Addr->Prop:=λ a=>M.Zo a\/∃ j,j∉M.al i/\a∈fps j
def Zt (M:Fm) (vs:List Nat) (fps:Fps) (fp:List Addr):Addr->Prop:=λ a=>Zv M vs fps a\/a∈fp
def Fm.plus (M:Fm) (fp:List Addr):Fm:={ M with Zo:=λ a=>M.Zo a\/a∈fp }
structure Rep (M:Fm) (ρ:Rho) (σ:St) (H:Hp) (fps:Fps):Prop where
 own:∀ i x d,ρ[i]?=some (some (x,d))->∃ v,σ[i]?=some (some v)/\Own M.K H (Za M fps i) x d v (fps i)
 non:∀ i,(∀ p,ρ[i]?≠some (some p))->fps i=[]
 dj:∀ i j,i≠j->∀ a∈fps i,a∉fps j
 zo:∀ i,∀ a∈fps i,¬ M.Zo a
 fr:∀ i,M.Ms i=false->∀ a∈fps i,M.H₀ a=none
 zd:∀ a,M.Zo a->H a≠none
 len:ρ.length=σ.length
 msf:∀ i x d,M.Ms i=true->ρ[i]?=some (some (x,d))->d=om
 h0:∀ a,M.H₀ a≠none->H a≠none
 iov:(∀ v,M.io=some v->σ[0]?=some (some v)/\M.Ms 0=true)/\∀ p∈M.pn,σ[p.1]?=some (some p.2)
def Agr (M:Fm) (ρ ρ':Rho):Prop:=(∀ i,M.Ms i=false->ρ'[i]?=ρ[i]?)/\ρ'.length=ρ.length
structure KD (M:Fm) (H:Hp) (fps:Fps) (H':Hp) (fps':Fps):Prop where
 keep:Keep (λ a=>∃ i,M.Ms i=true/\a∈fps i) H H'
 dom:∀ a,H a≠none->H' a≠none
 sub:∀ i,∀ a∈fps' i,a∈fps i\/H a=none
 same:∀ i,M.Ms i=false->fps' i=fps i
def Tmps (K:Frag) (H:Hp) (Z:Addr->Prop):List (PV×Nat)->List V->List Addr->Prop
 | [],vs,fp=>vs=[]/\fp=[]
 | (x,d)::xs,vs,fp=>∃ v r f1 f2,vs=v::r/\fp=f1++f2/\(∀ a∈f1,a∉f2)/\Own K H (λ a=>Z a\/a∈f1) x d v f1/\Tmps K H Z xs r f2
structure Temp (M:Fm) (vs:List Nat) (H:Hp) (H':Hp) (fps':Fps) (fp:List Addr):Prop where
 new:∀ a∈fp,H a=none
 ndj:∀ a∈fp,¬ Zf M fps' a
section
variable {M:Fm}{ρ ρ':Rho}{σ:St}{H H' H'':Hp}{fps fps' fps'':Fps}{vs vs':List Nat}
theorem Agr.refl:Agr M ρ ρ:=⟨λ _ _=>rfl,rfl⟩
theorem Agr.trans {ρ'':Rho} (a:Agr M ρ ρ') (b:Agr M ρ' ρ''):Agr M ρ ρ'':=⟨λ i hi=>(b.1 i hi).trans (a.1 i hi),b.2.trans a.2⟩
theorem KD.refl:KD M H fps H fps:=⟨λ _ _ h _=>h,λ _ h=>h,λ _ _ h=>.inl h,λ _ _=>rfl⟩
theorem KD.trans (a:KD M H fps H' fps') (b:KD M H' fps' H'' fps''):KD M H fps H'' fps'' where
 keep:=λ x o h n=>b.keep x o (a.keep x o h n) λ ⟨i,hi,hx⟩=>(a.sub i x hx).elim (λ z=>n ⟨i,hi,z⟩) λ z=>by rw [z] at h;cases h
 dom:=λ x h=>b.dom x (a.dom x h)
 sub:=λ i x hx=>(b.sub i x hx).elim (λ z=>a.sub i x z) λ z=>.inr (by
  cases e:H x with
  | none=>rfl
  | some o=>exact absurd z (a.dom x (by rw [e];simp)))
 same:=λ i hi=>(b.same i hi).trans (a.same i hi)
theorem Za.zf {i:Nat}{a:Addr} (h:Za M fps i a):Zf M fps a:=h.elim .inl λ ⟨j,_,h⟩=>.inr ⟨j,h⟩
theorem Za.of {i:Nat} (hal:M.al i=[]) {a:Addr} (h:Zf M fps a):Za M fps i a:=h.elim .inl λ ⟨j,h⟩=>.inr ⟨j,(by rw [hal];simp),h⟩
theorem Rep.own0 (r:Rep M ρ σ H fps) (hal:∀ i,M.al i=[]) (i:Nat) (x:PV) (d:Nat) (e:ρ[i]?=some (some (x,d))):∃ v,σ[i]?=some (some v)/\Own M.K H (Zf M fps) x d v (fps i):=
 let ⟨v,h1,h2⟩:=r.own i x d e;⟨v,h1,h2.weak λ _ h=>Za.of (hal i) h⟩
theorem Rep.lsts (r:Rep M ρ σ H fps) {i:Nat}{a:Addr} (h:a∈fps i):∃ o:MO,H a=some o.ho:=by
 by_cases hp:∃ p,ρ[i]?=some (some p)
 ·obtain ⟨⟨x,d⟩,e⟩:=hp
  obtain ⟨v,_,o⟩:=r.own i x d e
  exact Own.lsts x d v _ o a h
 ·rw [r.non i λ p e=>hp ⟨p,e⟩] at h;cases h
theorem Rep.zdom (r:Rep M ρ σ H fps) {a:Addr} (h:Zf M fps a):H a≠none:=by
 rcases h with h | ⟨i,h⟩
 ·exact r.zd a h
 ·obtain ⟨xs,e⟩:=r.lsts h;rw [e];simp
theorem Rep.nz (r:Rep M ρ σ H fps) {a:Addr} (h:H a=none):¬ Zf M fps a:=λ z=>r.zdom z h
theorem Zv.zf {a:Addr} (h:Zv M vs fps a):Zf M fps a:=h.elim .inl λ ⟨i,_,h⟩=>.inr ⟨i,h⟩
theorem Zv.mono (hv:∀ i∈vs',i∈vs) {a:Addr} (h:Zv M vs fps a):Zv M vs' fps a:=h.elim .inl λ ⟨i,n,h⟩=>.inr ⟨i,λ z=>n (hv i z),h⟩
theorem Zt.mono (hv:∀ i∈vs',i∈vs) {a:Addr}{fp:List Addr} (h:Zt M vs fps fp a):Zt M vs' fps fp a:=h.elim (λ h=>.inl (h.mono hv)) .inr
theorem KD.stay (k:KD M H fps H' fps') (r:Rep M ρ σ H fps) (hv:∀ i∈vs,M.Ms i=false) {x:PV}{d:Nat}{v:V}{fp:List Addr} (h:Own M.K H (Zt M vs fps fp) x d v fp) (hf:∀ a∈fp,¬ Zf M fps a):Own M.K H' (Zt M vs fps' fp) x d v fp:=by
 have h1:∀ a,(∃ i,M.Ms i=true/\a∈fps i)->Zt M vs fps fp a/\∃ o:MO,H a=some o.ho:=by
  rintro a ⟨i,hi,ha⟩
  exact ⟨.inl (.inr ⟨i,λ z=>(by rw [hv i z] at hi;cases hi),ha⟩),r.lsts ha⟩
 have h2:∀ a,H a≠none->¬ Zt M vs fps fp a->¬ Zt M vs fps' fp a:=by
  intro a hd nz z
  rcases z with (z | ⟨i,ni,hx⟩) | z
  ·exact nz (.inl (.inl z))
  ·rcases k.sub i a hx with z | z
   ·exact nz (.inl (.inr ⟨i,ni,z⟩))
   ·exact hd z
  ·exact nz (.inr z)
 exact Own.move k.keep h1 h2 x d v fp (λ a ha ⟨i,_,hx⟩=>hf a ha (.inr ⟨i,hx⟩)) h
theorem KD.stays (k:KD M H fps H' fps') (r:Rep M ρ σ H fps) (hv:∀ i∈vs,M.Ms i=false):∀ {xs:List (PV×Nat)}{ws:List V}{fp:List Addr},Tmps M.K H (Zv M vs fps) xs ws fp->(∀ a∈fp,¬ Zf M fps a)->Tmps M.K H' (Zv M vs fps') xs ws fp
 | [],_,_,h,_=>h
 | (x,d)::xs,ws,fp,h,hf=>by
  obtain ⟨v,s,f1,f2,e1,e2,dj,h1,h2⟩:=h
  exact ⟨v,s,f1,f2,e1,e2,dj,k.stay r hv h1 λ a ha=>hf a (by rw [e2];exact ja9 _ ha),k.stays r hv h2 λ a ha=>hf a (by rw [e2];exact ja2 _ ha)⟩
theorem Tmps.weak {K:Frag}{Z Z':Addr->Prop} (hz:∀ a,Z' a->Z a):∀ {xs:List (PV×Nat)}{ws:List V}{fp:List Addr},Tmps K H Z xs ws fp->Tmps K H Z' xs ws fp
 | [],_,_,h=>h
 | (x,d)::xs,ws,fp,h=>by
  obtain ⟨v,s,f1,f2,e1,e2,dj,h1,h2⟩:=h
  exact ⟨v,s,f1,f2,e1,e2,dj,h1.weak λ a h=>h.elim (λ h=>.inl (hz a h)) .inr,h2.weak hz⟩
theorem KD.grow (k:∀ a o,H a=some o->H' a=some o):KD M H fps H' fps:=⟨λ a o h _=>k a o h,λ a h=>by
 cases e:H a with
 | none=>exact absurd e h
 | some o=>rw [k a o e];simp,λ _ _ h=>.inl h,λ _ _=>rfl⟩
theorem Rep.grow (r:Rep M ρ σ H fps) (k:∀ a o,H a=some o->H' a=some o):Rep M ρ σ H' fps where
 own:=λ i x d e=>by
  obtain ⟨v,hv,o⟩:=r.own i x d e
  exact ⟨v,hv,Own.move (S:=λ _=>False) (λ a o h _=>k a o h) (λ _ z=>z.elim) (λ _ _ n=>n) x d v _ (λ _ _ z=>z) o⟩
 non:=r.non
 dj:=r.dj
 zo:=r.zo
 fr:=r.fr
 zd:=λ a h=>(KD.grow (M:=M) (fps:=fps) k).dom a (r.zd a h)
 len:=r.len
 msf:=r.msf
 h0:=λ a h=>(KD.grow (M:=M) (fps:=fps) k).dom a (r.h0 a h)
 iov:=r.iov
end
def tE (M:Fm) (f:Fx) (vs:List Nat):TE:=λ σ H Q=>∃ ρ fps,Rep M ρ σ H fps/\(match f ρ with
 | .ok (x,d,ρ')=>∀ v H' fps' fp,KD M H fps H' fps'->Agr M ρ ρ'->Rep M ρ' σ H' fps'->Own M.K H' (Zt M vs fps' fp) x d v fp->Temp M vs H H' fps' fp->Q v H'
 | .exc c=>∀ H' fps',KD M H fps H' fps'->M.W σ c H'
 | .no=>False)
def tL (M:Fm) (f:Fa) (vs:List Nat):TA:=λ σ H Q=>∃ ρ fps,Rep M ρ σ H fps/\(match f ρ with
 | .ok (xs,ρ')=>∀ ws H' fps' fp,KD M H fps H' fps'->Agr M ρ ρ'->Rep M ρ' σ H' fps'->Tmps M.K H' (Zv M vs fps') xs ws fp->Temp M vs H H' fps' fp->Q ws H'
 | .exc c=>∀ H' fps',KD M H fps H' fps'->M.W σ c H'
 | .no=>False)
def tT (M:Fm) (f:Fb):TT:=λ σ H Q=>∃ ρ fps,Rep M ρ σ H fps/\(match f ρ with
 | .ok (b,ρ')=>∀ H' fps',KD M H fps H' fps'->Agr M ρ ρ'->Rep M ρ' σ H' fps'->Q b H'
 | .exc c=>∀ H' fps',KD M H fps H' fps'->M.W σ c H'
 | .no=>False)
def Leaf (M:Fm) (H:Hp) (fps:Fps) (vs:List Nat) (F:List Addr) (z:PV) (d:Nat) (Q:VK):Prop:=
 ∀ u H' fp,(∀ a o,H a=some o->H' a=some o)->Own M.K H' (Zt M vs fps fp) z d u fp->(∀ a∈fp,a∈F\/H a=none)->Q u H'
section
variable {M:Fm}{ρ ρ':Rho}{σ:St}{H H' H'':Hp}{fps fps' fps'':Fps}{vs vs':List Nat}{f g:Fx}{fa:Fa}{fb:Fb}{Q:VK}
def bC (x:PV):Fx:=λ ρ=>.ok (x,om,ρ)
theorem zjh {x:PV}{v:V} (h:∀ K H Z,Own K H Z x om v []) {σ:St}{H:Hp}{Q:VK} (hq:tE M (bC x) [] σ H Q):tC v σ H Q:=by
 obtain ⟨ρ,fps,rep,q⟩:=hq
 exact q v H fps [] KD.refl Agr.refl rep (h _ _ _) ⟨λ _ z=>(nomatch z),λ _ z=>nomatch z⟩
def dv:PV->Nat
 | .lst _=>0
 | .tup _=>0
 | .dct _=>0
 | _=>om
def bVar (i:Nat):Fx:=λ ρ=>match ρ[i]? with
 | some (some (x,_))=>.ok (x,dv x,ρ)
 | _=>.no
theorem Own.view {K:Frag}{Z Z':Addr->Prop}{x:PV}{d:Nat}{v:V}{fp:List Addr} (hz:∀ a,Z' a->Z a) (hf:∀ a∈fp,¬ Z' a) (h:Own K H Z x d v fp):Own K H Z' x (dv x) v []:=by
 have q:=Own.freeze hz x d v fp hf h
 cases x with
 | lst xs=>exact q
 | tup xs=>exact q
 | dct kvs=>exact q
 | exn _=>rw [Own] at q ⊢;exact q
 | non=>rw [Own] at q ⊢;exact q
 | bl _=>rw [Own] at q ⊢;exact q
 | int _=>rw [Own] at q ⊢;exact q
 | str _=>rw [Own] at q ⊢;exact q
 | emp=>rw [Own] at q ⊢;exact q
 | dko=>rw [Own] at q ⊢;exact q
 | scr _=>rw [Own] at q ⊢;exact q
theorem qcq {i:Nat}{σ:St}{H:Hp}{Q:VK} (hq:tE M (bVar i) (i::M.al i) σ H Q):tVar i σ H Q:=by
 obtain ⟨ρ,fps,rep,q⟩:=hq
 unfold bVar at q
 cases e0:ρ[i]? with
 | none=>rw [e0] at q;exact q.elim
 | some sl=>
  cases sl with
  | none=>rw [e0] at q;exact q.elim
  | some p=>
   obtain ⟨x0,d0⟩:=p
   rw [e0] at q
   obtain ⟨v,hv,o⟩:=rep.own i x0 d0 e0
   refine ⟨v,hv,q v H fps [] KD.refl Agr.refl rep ((o.view (Z':=Zv M (i::M.al i) fps) (λ a h=>h.elim .inl λ ⟨j,n,h⟩=>.inr ⟨j,λ z=>n (ja1 _ z),h⟩) λ a ha z=>?_).weak λ a h=>h.elim id λ z=>nomatch z) ⟨λ _ z=>(nomatch z),λ _ z=>nomatch z⟩⟩
   rcases z with z | ⟨j,nj,hj⟩
   ·exact rep.zo i a ha z
   ·exact rep.dj i j (λ e=>nj (by simp [e])) a ha hj
def bBin (op:PV->Nat->PV->Nat->Option (PV×Nat)) (f g:Fx):Fx:=λ ρ=>(f ρ).bind λ (x,d,ρ1)=>(g ρ1).bind λ (y,e,ρ2)=>match op x d y e with
 | some (z,c)=>.ok (z,c,ρ2)
 | none=>.no
theorem zwx {op:PV->Nat->PV->Nat->Option (PV×Nat)}{r:R2} (hv:∀ i∈vs,M.Ms i=false)
  (leaf:∀ x d y e z c v w H fps f1 f2 Q,op x d y e=some (z,c)->Own M.K H (Zt M (vs++vs') fps f1) x d v f1->Own M.K H (Zt M (vs++vs') fps f2) y e w f2->(∀ a∈f1,a∉f2)->(∀ a∈f1++f2,¬ Zf M fps a)->(∀ a,Zf M fps a->H a≠none)->Leaf M H fps (vs++vs') (f1++f2) z c Q->r v w H Q)
  {σ:St}{H:Hp}{Q:VK} (hq:tE M (bBin op f g) (vs++vs') σ H Q):tOp r (tE M f vs) (tE M g vs') σ H Q:=by
 obtain ⟨ρ,fps,rep,q⟩:=hq
 refine ⟨ρ,fps,rep,?_⟩
 unfold bBin at q
 cases ef:f ρ with
 | no=>rw [ef] at q;exact q
 | exc c=>rw [ef] at q;exact q
 | ok p=>
  obtain ⟨x,d,ρ1⟩:=p
  rw [ef] at q
  intro v H1 fps1 f1 k1 g1 rep1 o1 t1
  refine ⟨ρ1,fps1,rep1,?_⟩
  dsimp only [Rz.bind] at q
  cases eg:g ρ1 with
  | no=>rw [eg] at q;exact q
  | exc c=>rw [eg] at q;exact λ H' fps' k=>q H' fps' (k1.trans k)
  | ok p2=>
   obtain ⟨y,e,ρ2⟩:=p2
   rw [eg] at q
   intro w H2 fps2 f2 k2 g2 rep2 o2 t2
   dsimp only at q
   cases eo:op x d y e with
   | none=>rw [eo] at q;exact q.elim
   | some zc=>
    obtain ⟨z,c⟩:=zc
    rw [eo] at q
    have o1':=k2.stay rep1 hv o1 t1.ndj
    have n1:∀ a∈f1,¬ Zf M fps2 a:=λ a ha z=>by
     rcases z with z | ⟨i,z⟩
     ·exact t1.ndj a ha (.inl z)
     ·rcases k2.sub i a z with z | z
      ·exact t1.ndj a ha (.inr ⟨i,z⟩)
      ·obtain ⟨xs,e⟩:=Own.lsts x d v f1 o1 a ha
       rw [z] at e;cases e
    refine leaf x d y e z c v w H2 fps2 f1 f2 Q eo (o1'.weak λ a h=>Zt.mono (λ i hi=>ja9 _ hi) h) (o2.weak λ a h=>Zt.mono (λ i hi=>ja2 _ hi) h) (λ a h1 h2=>?_) (λ a ha=>?_) (λ a h=>rep2.zdom h) λ u H3 fp k3 o3 hfp=>?_
    ·obtain ⟨xs,e⟩:=Own.lsts x d v f1 o1 a h1
     rw [t2.new a h2] at e;cases e
    ·rcases jc4.mp ha with z | z
     ·exact n1 a z
     ·exact t2.ndj a z
    ·have new:∀ a∈fp,H a=none:=λ a ha=>by
      have back:H1 a=none->H a=none:=λ e=>by
       cases e':H a with
       | none=>rfl
       | some o=>exact absurd e (k1.dom a (by rw [e'];simp))
      have back2:H2 a=none->H1 a=none:=λ e=>by
       cases e':H1 a with
       | none=>rfl
       | some o=>exact absurd e (k2.dom a (by rw [e'];simp))
      rcases hfp a ha with z | z
      ·rcases jc4.mp z with z | z
       ·exact t1.new a z
       ·exact back (t2.new a z)
      ·exact back (back2 z)
     refine q u H3 fps2 fp ((k1.trans k2).trans (KD.grow k3)) (g1.trans g2) (rep2.grow k3) o3 ⟨new,λ a ha=>?_⟩
     rcases hfp a ha with z | z
     ·rcases jc4.mp z with z | z
      ·exact n1 a z
      ·exact t2.ndj a z
     ·exact rep2.nz z
end
section
variable {M:Fm}{vs vs':List Nat}{f g:Fx}{fa:Fa}{fb gb:Fb}
def bUn (op:PV->Nat->Option (PV×Nat)) (f:Fx):Fx:=λ ρ=>(f ρ).bind λ (x,d,ρ1)=>match op x d with
 | some (z,c)=>.ok (z,c,ρ1)
 | none=>.no
theorem qcr {op:PV->Nat->Option (PV×Nat)}{r:V->Hp->VK->Prop}
  (leaf:∀ x d z c v H fps f1 Q,op x d=some (z,c)->Own M.K H (Zt M vs fps f1) x d v f1->(∀ a∈f1,¬ Zf M fps a)->(∀ a,Zf M fps a->H a≠none)->Leaf M H fps vs f1 z c Q->r v H Q)
  {σ:St}{H:Hp}{Q:VK} (hq:tE M (bUn op f) vs σ H Q):tUn r (tE M f vs) σ H Q:=by
 obtain ⟨ρ,fps,rep,q⟩:=hq
 refine ⟨ρ,fps,rep,?_⟩
 unfold bUn at q
 cases ef:f ρ with
 | no=>rw [ef] at q;exact q
 | exc c=>rw [ef] at q;exact q
 | ok p=>
  obtain ⟨x,d,ρ1⟩:=p
  rw [ef] at q
  intro v H1 fps1 f1 k1 g1 rep1 o1 t1
  dsimp only [Rz.bind] at q
  cases eo:op x d with
  | none=>rw [eo] at q;exact q.elim
  | some zc=>
   obtain ⟨z,c⟩:=zc
   rw [eo] at q
   refine leaf x d z c v H1 fps1 f1 Q eo o1 t1.ndj (λ a h=>rep1.zdom h) λ u H3 fp k3 o3 hfp=>?_
   have back:∀ a,H1 a=none->H a=none:=λ a e=>by
    cases e':H a with
    | none=>rfl
    | some o=>exact absurd e (k1.dom a (by rw [e'];simp))
   refine q u H3 fps1 fp (k1.trans (KD.grow k3)) g1 (rep1.grow k3) o3 ⟨λ a ha=>(hfp a ha).elim (t1.new a) (back a),λ a ha=>(hfp a ha).elim (t1.ndj a) λ z=>rep1.nz z⟩
def aNil:Fa:=λ ρ=>.ok ([],ρ)
def zqa (f:Fx) (fa:Fa):Fa:=λ ρ=>(f ρ).bind λ (x,d,ρ1)=>(fa ρ1).bind λ (xs,ρ2)=>.ok ((x,d)::xs,ρ2)
theorem ql6 {σ:St}{H:Hp}{Q:List V->Hp->Prop} (hq:tL M aNil [] σ H Q):tNil σ H Q:=by
 obtain ⟨ρ,fps,rep,q⟩:=hq
 exact q [] H fps [] KD.refl Agr.refl rep ⟨rfl,rfl⟩ ⟨λ _ z=>(nomatch z),λ _ z=>nomatch z⟩
theorem qjb (hv:∀ i∈vs,M.Ms i=false) {σ:St}{H:Hp}{Q:List V->Hp->Prop} (hq:tL M (zqa f fa) (vs++vs') σ H Q):zbl (tE M f vs) (tL M fa vs') σ H Q:=by
 obtain ⟨ρ,fps,rep,q⟩:=hq
 refine ⟨ρ,fps,rep,?_⟩
 unfold zqa at q
 cases ef:f ρ with
 | no=>rw [ef] at q;exact q
 | exc c=>rw [ef] at q;exact q
 | ok p=>
  obtain ⟨x,d,ρ1⟩:=p
  rw [ef] at q
  intro v H1 fps1 f1 k1 g1 rep1 o1 t1
  refine ⟨ρ1,fps1,rep1,?_⟩
  dsimp only [Rz.bind] at q
  cases eg:fa ρ1 with
  | no=>rw [eg] at q;exact q
  | exc c=>rw [eg] at q;exact λ H' fps' k=>q H' fps' (k1.trans k)
  | ok p2=>
   obtain ⟨ys,ρ2⟩:=p2
   rw [eg] at q
   intro ws H2 fps2 f2 k2 g2 rep2 o2 t2
   dsimp only at q
   have o1':=k2.stay rep1 hv o1 t1.ndj
   have n1:∀ a∈f1,¬ Zf M fps2 a:=λ a ha z=>by
    rcases z with z | ⟨i,z⟩
    ·exact t1.ndj a ha (.inl z)
    ·rcases k2.sub i a z with z | z
     ·exact t1.ndj a ha (.inr ⟨i,z⟩)
     ·obtain ⟨xs,e⟩:=Own.lsts x d v f1 o1 a ha
      rw [z] at e;cases e
   have back:∀ a,H1 a=none->H a=none:=λ a e=>by
    cases e':H a with
    | none=>rfl
    | some o=>exact absurd e (k1.dom a (by rw [e'];simp))
   refine q (v::ws) H2 fps2 (f1++f2) (k1.trans k2) (g1.trans g2) rep2 ⟨v,ws,f1,f2,rfl,rfl,λ a h1 h2=>?_,o1'.weak λ a h=>Zt.mono (λ i hi=>ja9 _ hi) h,o2.weak λ a h=>h.mono λ i hi=>ja2 _ hi⟩ ⟨λ a ha=>?_,λ a ha=>?_⟩
   ·obtain ⟨xs,e⟩:=Own.lsts x d v f1 o1 a h1
    rw [t2.new a h2] at e;cases e
   ·rcases jc4.mp ha with z | z
    ·exact t1.new a z
    ·exact back a (t2.new a z)
   ·rcases jc4.mp ha with z | z
    ·exact n1 a z
    ·exact t2.ndj a z
def zqb (op:List (PV×Nat)->Option (PV×Nat)) (fa:Fa):Fx:=λ ρ=>(fa ρ).bind λ (xs,ρ1)=>match op xs with
 | some (z,c)=>.ok (z,c,ρ1)
 | none=>.no
theorem zgy {op:List (PV×Nat)->Option (PV×Nat)}{r:List V->Hp->VK->Prop}
  (leaf:∀ xs z c ws H fps fp Q,op xs=some (z,c)->Tmps M.K H (Zv M vs fps) xs ws fp->(∀ a∈fp,¬ Zf M fps a)->(∀ a,Zf M fps a->H a≠none)->Leaf M H fps vs fp z c Q->r ws H Q)
  {σ:St}{H:Hp}{Q:VK} (hq:tE M (zqb op fa) vs σ H Q):tL M fa vs σ H λ ws H1=>r ws H1 Q:=by
 obtain ⟨ρ,fps,rep,q⟩:=hq
 refine ⟨ρ,fps,rep,?_⟩
 unfold zqb at q
 cases ef:fa ρ with
 | no=>rw [ef] at q;exact q
 | exc c=>rw [ef] at q;exact q
 | ok p=>
  obtain ⟨xs,ρ1⟩:=p
  rw [ef] at q
  intro ws H1 fps1 f1 k1 g1 rep1 o1 t1
  dsimp only [Rz.bind] at q
  cases eo:op xs with
  | none=>rw [eo] at q;exact q.elim
  | some zc=>
   obtain ⟨z,c⟩:=zc
   rw [eo] at q
   refine leaf xs z c ws H1 fps1 f1 Q eo o1 t1.ndj (λ a h=>rep1.zdom h) λ u H3 fp k3 o3 hfp=>?_
   have back:∀ a,H1 a=none->H a=none:=λ a e=>by
    cases e':H a with
    | none=>rfl
    | some o=>exact absurd e (k1.dom a (by rw [e'];simp))
   refine q u H3 fps1 fp (k1.trans (KD.grow k3)) g1 (rep1.grow k3) o3 ⟨λ a ha=>(hfp a ha).elim (t1.new a) (back a),λ a ha=>(hfp a ha).elim (t1.ndj a) λ z=>rep1.nz z⟩
def bT (f:Fx):Fb:=λ ρ=>(f ρ).bind λ (x,_,ρ1)=>match x with
 | .bl b=>.ok (b,ρ1)
 | _=>.no
theorem qcg {σ:St}{H:Hp}{Q:Bool->Hp->Prop} (hq:tT M (bT f) σ H Q):tB (tE M f vs) σ H Q:=by
 obtain ⟨ρ,fps,rep,q⟩:=hq
 refine ⟨ρ,fps,rep,?_⟩
 unfold bT at q
 cases ef:f ρ with
 | no=>rw [ef] at q;exact q
 | exc c=>rw [ef] at q;exact q
 | ok p=>
  obtain ⟨x,d,ρ1⟩:=p
  rw [ef] at q
  intro v H1 fps1 f1 k1 g1 rep1 o1 t1
  dsimp only [Rz.bind] at q
  cases x with
  | bl b=>
   rw [Own] at o1
   exact ⟨b,o1.1,q H1 fps1 k1 g1 rep1⟩
  | _=>exact q.elim
def bAnd (f g:Fb):Fb:=λ ρ=>(f ρ).bind λ (b,ρ1)=>if b=true then g ρ1 else .ok (false,ρ1)
def bOr (f g:Fb):Fb:=λ ρ=>(f ρ).bind λ (b,ρ1)=>if b=true then .ok (true,ρ1) else g ρ1
def bNot (f:Fb):Fb:=λ ρ=>(f ρ).bind λ (b,ρ1)=>.ok (!b,ρ1)
theorem qlp {σ:St}{H:Hp}{Q:Bool->Hp->Prop} (hq:tT M (bAnd fb gb) σ H Q):tAnd (tT M fb) (tT M gb) σ H Q:=by
 obtain ⟨ρ,fps,rep,q⟩:=hq
 refine ⟨ρ,fps,rep,?_⟩
 unfold bAnd at q
 cases ef:fb ρ with
 | no=>rw [ef] at q;exact q
 | exc c=>rw [ef] at q;exact q
 | ok p=>
  obtain ⟨b,ρ1⟩:=p
  rw [ef] at q
  intro H1 fps1 k1 g1 rep1
  dsimp only [Rz.bind] at q
  cases b with
  | false=>exact (q H1 fps1 k1 g1 rep1)
  | true=>
   refine ⟨ρ1,fps1,rep1,?_⟩
   rw [if_pos rfl] at q
   cases eg:gb ρ1 with
   | no=>rw [eg] at q;exact q
   | exc c=>rw [eg] at q;exact λ H' fps' k=>q H' fps' (k1.trans k)
   | ok p2=>rw [eg] at q;exact λ H' fps' k g r=>q H' fps' (k1.trans k) (g1.trans g) r
theorem qos {σ:St}{H:Hp}{Q:Bool->Hp->Prop} (hq:tT M (bOr fb gb) σ H Q):tOr (tT M fb) (tT M gb) σ H Q:=by
 obtain ⟨ρ,fps,rep,q⟩:=hq
 refine ⟨ρ,fps,rep,?_⟩
 unfold bOr at q
 cases ef:fb ρ with
 | no=>rw [ef] at q;exact q
 | exc c=>rw [ef] at q;exact q
 | ok p=>
  obtain ⟨b,ρ1⟩:=p
  rw [ef] at q
  intro H1 fps1 k1 g1 rep1
  dsimp only [Rz.bind] at q
  cases b with
  | true=>exact (q H1 fps1 k1 g1 rep1)
  | false=>
   refine ⟨ρ1,fps1,rep1,?_⟩
   rw [if_neg jb8] at q
   cases eg:gb ρ1 with
   | no=>rw [eg] at q;exact q
   | exc c=>rw [eg] at q;exact λ H' fps' k=>q H' fps' (k1.trans k)
   | ok p2=>rw [eg] at q;exact λ H' fps' k g r=>q H' fps' (k1.trans k) (g1.trans g) r
theorem qlo {σ:St}{H:Hp}{Q:Bool->Hp->Prop} (hq:tT M (bNot fb) σ H Q):tNot (tT M fb) σ H Q:=by
 obtain ⟨ρ,fps,rep,q⟩:=hq
 refine ⟨ρ,fps,rep,?_⟩
 unfold bNot at q
 cases ef:fb ρ with
 | no=>rw [ef] at q;exact q
 | exc c=>rw [ef] at q;exact q
 | ok p=>obtain ⟨b,ρ1⟩:=p;rw [ef] at q;exact q
theorem Tmps.all {K:Frag}{H:Hp}{Z:Addr->Prop}:∀ {xs:List (PV×Nat)}{ws:List V}{fp:List Addr},Tmps K H Z xs ws fp->(∀ p∈xs,p.2=om)->OwnL K H Z (xs.map (·.1)) om ws fp
 | [],_,_,h,_=>by rw [jg3,OwnL];exact h
 | (x,d)::xs,ws,fp,h,ha=>by
  obtain ⟨v,s,f1,f2,e1,e2,dj,h1,h2⟩:=h
  have e:d=om:=ha (x,d) ja3
  subst e
  rw [jc2,OwnL]
  exact ⟨v,s,f1,f2,e1,e2,dj,Own.full x v f1 h1,h2.all λ p hp=>ha p (ja1 _ hp)⟩
theorem Tmps.cold {K:Frag}{H:Hp}{Z:Addr->Prop}:∀ {xs:List (PV×Nat)}{ws:List V}{fp:List Addr},Tmps K H Z xs ws fp->(∀ a∈fp,¬ Z a)->OwnL K H Z (xs.map (·.1)) 0 ws []
 | [],_,_,h,_=>by rw [jg3,OwnL];exact ⟨h.1,rfl⟩
 | (x,d)::xs,ws,fp,h,ha=>by
  obtain ⟨v,s,f1,f2,e1,e2,dj,h1,h2⟩:=h
  rw [jc2,OwnL]
  exact ⟨v,s,[],[],e1,rfl,λ _ z=>(nomatch z),Own.freeze (λ _ z=>.inl z) x d v f1 (λ a z=>ha a (by rw [e2];exact ja9 _ z)) h1,h2.cold λ a z=>ha a (by rw [e2];exact ja2 _ z)⟩
theorem Tmps.length {K:Frag}{H:Hp}{Z:Addr->Prop}:∀ {xs:List (PV×Nat)}{ws:List V}{fp:List Addr},Tmps K H Z xs ws fp->ws.length=xs.length
 | [],_,_,h=>by rw [h.1];rfl
 | (x,d)::xs,ws,fp,h=>by
  obtain ⟨v,s,f1,f2,e1,e2,dj,h1,h2⟩:=h
  rw [e1,jb2,jb2,h2.length]
theorem OwnL.length {K:Frag}{H:Hp}{Z:Addr->Prop}:∀ {xs:List PV}{d:Nat}{ws:List V}{fp:List Addr},OwnL K H Z xs d ws fp->ws.length=xs.length
 | [],_,_,_,h=>by rw [OwnL] at h;rw [h.1];rfl
 | x::xs,d,ws,fp,h=>by
  rw [OwnL] at h
  obtain ⟨v,s,f1,f2,e1,e2,dj,h1,h2⟩:=h
  rw [e1,jb2,jb2,h2.length]
end
inductive Rs where
 | nx (ρ:Rho) | rt (x:PV) (d:Nat) (ρ:Rho) | bk (ρ:Rho) | ct (ρ:Rho) | exc (c:Nat) | no
abbrev Fs:=Rho->Rs
structure KS (M:Fm) (H:Hp) (fps:Fps) (H':Hp) (fps':Fps):Prop where
 keep:Keep (λ a=>∃ i,a∈fps i) H H'
 dom:∀ a,H a≠none->H' a≠none
 sub:∀ i,∀ a∈fps' i,(∃ j,a∈fps j)\/H a=none
def Zr (M:Fm) (fps:Fps):Addr->Prop:=λ a=>M.Zo a\/(M.io≠none/\a∈fps 0)
def RsOk (M:Fm) (D:Ends) (H:Hp) (fps:Fps):Rs->Prop
 | .nx ρ'=>∀ σ' H' fps',KS M H fps H' fps'->Rep M ρ' σ' H' fps'->D.nx σ' H'
 | .bk ρ'=>∀ σ' H' fps',KS M H fps H' fps'->Rep M ρ' σ' H' fps'->D.bk σ' H'
 | .ct ρ'=>∀ σ' H' fps',KS M H fps H' fps'->Rep M ρ' σ' H' fps'->D.ct σ' H'
 | .rt x d ρ'=>∀ v σ' H' fps' fp,KS M H fps H' fps'->Rep M ρ' σ' H' fps'->Own M.K H' (λ a=>Zr M fps' a\/a∈fp) x d v fp->(∀ a∈fp,M.H₀ a=none/\¬ Zr M fps' a)->D.rt v H'
 | .exc c=>∀ σ' H' fps',KS M H fps H' fps'->M.W σ' c H'
 | .no=>False
def tS (M:Fm) (f:Fs):TS:=λ D σ H=>∃ ρ fps,Rep M ρ σ H fps/\RsOk M D H fps (f ρ)
section
variable {M:Fm}{ρ ρ':Rho}{σ σ':St}{H H' H'':Hp}{fps fps' fps'':Fps}{vs vs':List Nat}
theorem KS.refl:KS M H fps H fps:=⟨λ _ _ h _=>h,λ _ h=>h,λ i _ h=>.inl ⟨i,h⟩⟩
theorem KD.ks (k:KD M H fps H' fps'):KS M H fps H' fps':=⟨λ a o h n=>k.keep a o h λ ⟨i,_,z⟩=>n ⟨i,z⟩,k.dom,λ i a h=>(k.sub i a h).elim (λ z=>.inl ⟨i,z⟩) .inr⟩
theorem KS.trans (a:KS M H fps H' fps') (b:KS M H' fps' H'' fps''):KS M H fps H'' fps'' where
 keep:=λ x o h n=>b.keep x o (a.keep x o h n) λ ⟨i,hx⟩=>(a.sub i x hx).elim (λ z=>n z) λ z=>by rw [z] at h;cases h
 dom:=λ x h=>b.dom x (a.dom x h)
 sub:=λ i x hx=>(b.sub i x hx).elim (λ ⟨j,z⟩=>a.sub j x z) λ z=>.inr (by
  cases e:H x with
  | none=>rfl
  | some o=>exact absurd z (a.dom x (by rw [e];simp)))
theorem KS.stay0 (k:KS M H fps H' fps') (r:Rep M ρ σ H fps) {x:PV}{v:V} (h:Own M.K H (Zf M fps) x 0 v []):Own M.K H' (Zf M fps') x 0 v []:=by
 refine Own.move k.keep (λ a ⟨i,ha⟩=>⟨.inr ⟨i,ha⟩,r.lsts ha⟩) ?_ x 0 v [] (λ _ z=>nomatch z) h
 intro a hd nz z
 rcases z with z | ⟨i,hx⟩
 ·exact nz (.inl z)
 ·rcases k.sub i a hx with z | z
  ·exact nz (.inr z)
  ·exact hd z
def sNil:Fs:=λ ρ=>.nx ρ
def sSeq (f g:Fs):Fs:=λ ρ=>match f ρ with
 | .nx ρ1=>g ρ1
 | r=>r
theorem qlv {D:Ends} (hq:tS M sNil D σ H):qja D σ H:=by
 obtain ⟨ρ,fps,rep,q⟩:=hq
 exact q σ H fps KS.refl rep
def sIf (c:Fb) (f g:Fs):Fs:=λ ρ=>match c ρ with
 | .ok (b,ρ1)=>if b=true then f ρ1 else g ρ1
 | .exc e=>.exc e
 | .no=>.no
theorem RsOk.from {D:Ends}{r:Rs} (k1:KS M H fps H' fps') (q:RsOk M D H fps r):RsOk M D H' fps' r:=by
 cases r with
 | no=>exact q
 | exc c=>exact λ σ' H' fps' k=>q σ' H' fps' (k1.trans k)
 | rt x d ρ2=>exact λ v σ' H' fps' fp k=>q v σ' H' fps' fp (k1.trans k)
 | bk ρ2=>exact λ σ' H' fps' k=>q σ' H' fps' (k1.trans k)
 | ct ρ2=>exact λ σ' H' fps' k=>q σ' H' fps' (k1.trans k)
 | nx ρ2=>exact λ σ' H' fps' k=>q σ' H' fps' (k1.trans k)
theorem qls {f g:Fs}{D:Ends} (hq:tS M (sSeq f g) D σ H):tSeq (tS M f) (tS M g) D σ H:=by
 obtain ⟨ρ,fps,rep,q⟩:=hq
 refine ⟨ρ,fps,rep,?_⟩
 unfold sSeq at q
 cases ef:f ρ with
 | no=>rw [ef] at q;exact q
 | exc c=>rw [ef] at q;exact q
 | rt x d ρ1=>rw [ef] at q;exact q
 | bk ρ1=>rw [ef] at q;exact q
 | ct ρ1=>rw [ef] at q;exact q
 | nx ρ1=>
  rw [ef] at q
  exact λ σ1 H1 fps1 k1 rep1=>⟨ρ1,fps1,rep1,RsOk.from k1 q⟩
theorem qot {c:Fb}{f g:Fs}{D:Ends} (hq:tS M (sIf c f g) D σ H):tIfS (tT M c) (tS M f) (tS M g) D σ H:=by
 obtain ⟨ρ,fps,rep,q⟩:=hq
 refine ⟨ρ,fps,rep,?_⟩
 unfold sIf at q
 cases ef:c ρ with
 | no=>rw [ef] at q;exact q
 | exc c=>rw [ef] at q;exact λ H' fps' k=>q _ H' fps' k.ks
 | ok p=>
  obtain ⟨b,ρ1⟩:=p
  rw [ef] at q
  intro H1 fps1 k1 g1 rep1
  dsimp only at q
  cases b with
  | true=>
   rw [if_pos rfl] at q ⊢
   exact ⟨ρ1,fps1,rep1,RsOk.from k1.ks q⟩
  | false=>
   rw [if_neg jb8] at q ⊢
   exact ⟨ρ1,fps1,rep1,RsOk.from k1.ks q⟩
def cool (vs:List Nat):Nat->Rho->Rho
 | _,[]=>[]
 | k,s::r=>(if vs.contains k then s.map λ p=>(p.1,0) else s)::cool vs (k + 1) r
def zqr (d:Nat) (vs:List Nat) (ρ:Rho):Rho:=if d=om then ρ else cool vs 0 ρ
theorem zvm (vs:List Nat):∀ (ρ:Rho) (k i:Nat),(cool vs k ρ)[i]?=(ρ[i]?).map λ s=>if vs.contains (k + i) then s.map λ p=>(p.1,0) else s
 | [],k,i=>by simp [cool]
 | s::r,k,0=>by simp [cool]
 | s::r,k,i + 1=>by
  rw [cool,je1,zvm vs r (k + 1) i,je1]
  have:k + 1 + i=k + (i + 1):=by omega
  rw [this]
theorem zjf (vs:List Nat):∀ (ρ:Rho) (k:Nat),(cool vs k ρ).length=ρ.length
 | [],_=>rfl
 | s::r,k=>by rw [cool,jb2,zjf vs r (k + 1),jb2]
def zko (vs:List Nat) (fps:Fps):Fps:=λ i=>if vs.contains i then [] else fps i
theorem zxo {a:Addr}{i:Nat} (h:a∈zko vs fps i):a∈fps i/\i∉vs:=by
 unfold zko at h
 split at h
 ·cases h
 ·rename_i n;exact ⟨h,λ z=>n (by simpa using z)⟩
theorem zkc {a:Addr} (h:Zf M (zko vs fps) a):Zv M vs fps a:=h.elim .inl λ ⟨i,z⟩=>.inr ⟨i,(zxo z).2,(zxo z).1⟩
theorem Rep.cool (r:Rep M ρ σ H fps) (hal:∀ i,M.al i=[]) (hv:∀ i∈vs,M.Ms i=false):Rep M (cool vs 0 ρ) σ H (zko vs fps) where
 own:=λ i x d e=>by
  rw [zvm] at e
  cases e1:ρ[i]? with
  | none=>rw [e1] at e;cases e
  | some s=>
   rw [e1] at e
   simp only [je3,jh0] at e
   by_cases hc:vs.contains i=true
   ·rw [if_pos hc] at e
    cases s with
    | none=>cases e
    | some p=>
     obtain ⟨x0,d0⟩:=p
     simp only [je3,Option.some.injEq,vc4] at e
     obtain ⟨rfl,rfl⟩:=e
     obtain ⟨v,hσ,o⟩:=r.own0 hal i x0 d0 e1
     refine ⟨v,hσ,Own.weak (Z:=Zf M (zko vs fps)) (λ a h=>h.zf) ?_⟩
     have:zko vs fps i=[]:=by unfold zko;rw [if_pos hc]
     rw [this]
     exact Own.freeze (λ a h=>Zv.zf (zkc h)) x0 d0 v _ (λ a ha z=>by
      rcases z with z | ⟨j,z⟩
      ·exact r.zo i a ha z
      ·obtain ⟨z1,z2⟩:=zxo z
       exact r.dj i j (λ e=>z2 (by rw [<- e];simpa using hc)) a ha z1) o
   ·rw [if_neg hc] at e
    cases e
    obtain ⟨v,hσ,o⟩:=r.own0 hal i x d e1
    refine ⟨v,hσ,Own.weak (Z:=Zf M (zko vs fps)) (λ a h=>h.zf) ?_⟩
    have:zko vs fps i=fps i:=by unfold zko;rw [if_neg hc]
    rw [this]
    exact o.weak λ a h=>Zv.zf (zkc h)
 non:=λ i h=>by
  unfold zko
  split
  ·rfl
  ·rename_i hc
   refine r.non i λ p e=>h p ?_
   rw [zvm,e]
   simp only [je3,jh0]
   rw [if_neg hc]
 dj:=λ i j hij a ha hb=>r.dj i j hij a (zxo ha).1 (zxo hb).1
 zo:=λ i a ha=>r.zo i a (zxo ha).1
 fr:=λ i hi a ha=>r.fr i hi a (zxo ha).1
 zd:=r.zd
 len:=by rw [zjf];exact r.len
 msf:=λ i x d hi e=>by
  rw [zvm] at e
  cases e1:ρ[i]? with
  | none=>rw [e1] at e;cases e
  | some s=>
   rw [e1] at e
   simp only [je3,jh0] at e
   have hc:¬ vs.contains i=true:=λ z=>by rw [hv i (by simpa using z)] at hi;cases hi
   rw [if_neg hc] at e
   cases e
   exact r.msf i x d hi e1
 h0:=r.h0
 iov:=r.iov
theorem KS.cool (k:KS M H fps H' fps'):KS M H fps H' (zko vs fps'):=⟨k.keep,k.dom,λ i a h=>k.sub i a (zxo h).1⟩
theorem Rep.wide {fp:List Addr} (hal:∀ i,∀ j∈M.al i,M.Ms j=false) (r:Rep M ρ σ H fps) (k:KD M H fps H' fps') (g:Agr M ρ ρ') (r':Rep M ρ' σ H' fps') (hf:∀ a∈fp,H a=none/\H' a≠none/\¬ Zf M fps' a):Rep (M.plus fp) ρ' σ H' fps' where
 own:=λ i x d e=>by
  by_cases hm:M.Ms i=true
  ·obtain ⟨v,hv,o⟩:=r'.own i x d e
   have hd:=r'.msf i x d hm e
   subst hd
   exact ⟨v,hv,Own.full x v _ o⟩
  ·have hm':M.Ms i=false:=by simpa using hm
   rw [g.1 i hm'] at e
   obtain ⟨v,hv,o⟩:=r.own i x d e
   refine ⟨v,hv,?_⟩
   rw [k.same i hm']
   refine Own.move k.keep (λ a ⟨j,hj,ha⟩=>⟨.inr ⟨j,λ z=>(by rw [hal i j z] at hj;cases hj),ha⟩,r.lsts ha⟩) ?_ x d v _ ?_ o
   ·intro a hd nz z
    rcases z with (z | z) | ⟨j,nj,z⟩
    ·exact nz (.inl z)
    ·exact hd (hf a z).1
    ·rcases k.sub j a z with z | z
     ·exact nz (.inr ⟨j,nj,z⟩)
     ·exact hd z
   ·rintro a ha ⟨j,hj,hx⟩
    exact r.dj i j (λ e=>by rw [e,hj] at hm';cases hm') a ha hx
 non:=r'.non
 dj:=r'.dj
 zo:=λ i a ha z=>z.elim (r'.zo i a ha) λ z=>(hf a z).2.2 (.inr ⟨i,ha⟩)
 fr:=r'.fr
 zd:=λ a z=>z.elim (r'.zd a) λ z=>(hf a z).2.1
 len:=r'.len
 msf:=r'.msf
 h0:=r'.h0
 iov:=r'.iov
theorem Rep.put {i:Nat}{x:PV}{d:Nat}{v:V}{fp:List Addr} (r:Rep (M.plus fp) ρ σ H fps) (h:Own M.K H (λ a=>Za M fps i a\/a∈fp) x d v fp) (hf:∀ a∈fp,M.H₀ a=none/\¬ M.Zo a) (hi:i < ρ.length) (hm:M.Ms i=true->d=om) (hio:M.Fre i):
  Rep M (ρ.set i (some (x,d))) (σ.set i (some v)) H (λ j=>if j=i then fp else fps j):=by
 have zz:∀ a,Zf M (λ j=>if j=i then fp else fps j) a->Zf M fps a\/a∈fp:=λ a h=>by
  rcases h with z | ⟨j,z⟩
  ·exact .inl (.inl z)
  ·by_cases e:j=i
   ·simp only [if_pos e] at z;exact .inr z
   ·simp only [if_neg e] at z;exact .inl (.inr ⟨j,z⟩)
 have zz2:∀ a,Zf M fps a\/a∈fp->Zf (M.plus fp) fps a:=λ a h=>h.elim (λ h=>h.elim (λ z=>.inl (.inl z)) λ z=>.inr z) λ z=>.inl (.inr z)
 refine ⟨λ j y e hj=>?_,λ j hj=>?_,λ j k hjk a ha hb=>?_,λ j a ha z=>?_,λ j hj a ha=>?_,λ a z=>r.zd a (.inl z),?_,λ j y e hj he=>?_,r.h0,?_⟩
 ·by_cases e:j=i
  ·subst e
   rw [jb1 hi] at hj
   cases hj
   refine ⟨v,by rw [jb1 (by rw [<- r.len];exact hi)],?_⟩
   rw [if_pos rfl]
   refine h.weak λ a h=>?_
   rcases h with z | ⟨k,nk,z⟩
   ·exact .inl (.inl z)
   ·by_cases ek:k=j
    ·simp only [if_pos ek] at z;exact .inr z
    ·simp only [if_neg ek] at z;exact .inl (.inr ⟨k,nk,z⟩)
  ·rw [ja0 (vb2 e)] at hj
   obtain ⟨w,hw,o⟩:=r.own j y _ hj
   refine ⟨w,by rw [ja0 (vb2 e)];exact hw,?_⟩
   rw [if_neg e]
   refine o.weak λ a h=>?_
   rcases h with z | ⟨k,nk,z⟩
   ·exact .inl (.inl z)
   ·by_cases ek:k=i
    ·simp only [if_pos ek] at z;exact .inl (.inr z)
    ·simp only [if_neg ek] at z;exact .inr ⟨k,nk,z⟩
 ·by_cases e:j=i
  ·subst e
   exact absurd (jb1 hi) (hj _)
  ·rw [if_neg e]
   exact r.non j λ p hp=>hj p (by rw [ja0 (vb2 e)];exact hp)
 ·by_cases e1:j=i
  ·by_cases e2:k=i
   ·exact hjk (e1.trans e2.symm)
   ·rw [if_pos e1] at ha
    rw [if_neg e2] at hb
    exact r.zo k a hb (.inr ha)
  ·rw [if_neg e1] at ha
   by_cases e2:k=i
   ·rw [if_pos e2] at hb
    exact r.zo j a ha (.inr hb)
   ·rw [if_neg e2] at hb
    exact r.dj j k hjk a ha hb
 ·by_cases e:j=i
  ·rw [if_pos e] at ha;exact (hf a ha).2 z
  ·rw [if_neg e] at ha;exact r.zo j a ha (.inl z)
 ·by_cases e:j=i
  ·rw [if_pos e] at ha;exact (hf a ha).1
  ·rw [if_neg e] at ha;exact r.fr j hj a ha
 ·rw [jc0,jc0];exact r.len
 ·by_cases e:j=i
  ·subst e
   rw [jb1 hi] at he
   cases he
   exact hm hj
  ·rw [ja0 (vb2 e)] at he
   exact r.msf j y _ hj he
 ·refine ⟨λ w hw=>?_,λ p hp=>?_⟩
  ·have h0:i≠0:=hio.1 (by rw [hw];simp)
   rw [ja0 h0]
   exact r.iov.1 w hw
  ·rw [ja0 (hio.2 p hp).symm]
   exact r.iov.2 p hp
def sSet (ms:Bool) (i:Nat) (f:Fx) (vs:List Nat):Fs:=λ ρ=>match f ρ with
 | .ok (x,d,ρ1)=>if i < ρ1.length/\(ms=true->d=om) then .nx ((zqr d vs ρ1).set i (some (x,d))) else .no
 | .exc c=>.exc c
 | .no=>.no
theorem Rep.store {i:Nat}{x:PV}{d:Nat}{v:V}{fp:List Addr} (rep:Rep M ρ σ H fps) (k:KD M H fps H' fps') (g:Agr M ρ ρ') (r':Rep M ρ' σ H' fps') (o:Own M.K H' (Zt M vs fps' fp) x d v fp) (t:Temp M vs H H' fps' fp)
  (hal:∀ i,M.al i=[]) (hv:∀ i∈vs,M.Ms i=false) (hi:i < ρ'.length) (hm:M.Ms i=true->d=om) (hio:M.Fre i):
  ∃ fps2,KS M H fps H' fps2/\Rep M ((zqr d vs ρ').set i (some (x,d))) (σ.set i (some v)) H' fps2:=by
 have back:∀ a,H a=none->M.H₀ a=none:=λ a e=>by
  cases e':M.H₀ a with
  | none=>rfl
  | some o=>exact absurd e (rep.h0 a (by rw [e'];simp))
 have w:Rep (M.plus fp) ρ' σ H' fps':=rep.wide (λ i j hj=>by rw [hal i] at hj;cases hj) k g r' λ a ha=>⟨t.new a ha,by obtain ⟨xs,e⟩:=Own.lsts x d v fp o a ha;rw [e];simp,t.ndj a ha⟩
 have hf:∀ a∈fp,M.H₀ a=none/\¬ M.Zo a:=λ a ha=>⟨back a (t.new a ha),λ z=>t.ndj a ha (.inl z)⟩
 have ks2:∀ {fps2:Fps},(∀ i a,a∈fps2 i->a∈fps' i)->KS M H fps H' (λ j=>if j=i then fp else fps2 j):=λ {fps2} h2=>⟨k.ks.keep,k.dom,λ j a ha=>by
  by_cases e:j=i
  ·simp only [if_pos e] at ha;exact .inr (t.new a ha)
  ·simp only [if_neg e] at ha;exact k.ks.sub j a (h2 j a ha)⟩
 unfold zqr
 by_cases hd:d=om
 ·rw [if_pos hd]
  refine ⟨_,ks2 λ _ _ h=>h,w.put (i:=i) (x:=x) (d:=d) (v:=v) ?_ hf hi hm hio⟩
  rw [hd] at o ⊢
  exact Own.full x v fp o
 ·rw [if_neg hd]
  refine ⟨_,ks2 λ _ _ h=>(zxo h).1,(w.cool (vs:=vs) hal hv).put (i:=i) (x:=x) (d:=d) (v:=v) ?_ hf (by rw [zjf];exact hi) hm hio⟩
  exact o.weak λ a h=>h.elim (λ h=>.inl (zkc h.zf)) .inr
theorem qch {f:Fx}{i:Nat}{ms:Bool}{D:Ends} (hal:∀ i,M.al i=[]) (hv:∀ i∈vs,M.Ms i=false) (hms:M.Ms i=ms) (hio:M.Fre i) (hq:tS M (sSet ms i f vs) D σ H):tAsg (tE M f vs) (zvo i) D σ H:=by
 obtain ⟨ρ,fps,rep,q⟩:=hq
 refine ⟨ρ,fps,rep,?_⟩
 unfold sSet at q
 cases ef:f ρ with
 | no=>rw [ef] at q;exact q
 | exc c=>rw [ef] at q;exact λ H' fps' k=>q _ H' fps' k.ks
 | ok p=>
  obtain ⟨x,d,ρ1⟩:=p
  rw [ef] at q
  intro v H1 fps1 f1 k1 g1 rep1 o1 t1
  dsimp only at q
  by_cases hc:i < ρ1.length/\(ms=true->d=om)
  ·rw [if_pos hc] at q
   obtain ⟨fps2,k2,r2⟩:=Rep.store rep k1 g1 rep1 o1 t1 hal hv hc.1 (λ h=>hc.2 (by rw [<- hms];exact h)) hio
   exact q _ _ _ k2 r2
  ·rw [if_neg hc] at q;exact q.elim
end
section
variable {M:Fm}{ρ ρ':Rho}{σ σ':St}{H H' H'':Hp}{fps fps' fps'':Fps}{vs vs':List Nat}
theorem Zr.zf {a:Addr} (h:Zr M fps a):Zf M fps a:=h.elim .inl λ h=>.inr ⟨0,h.2⟩
theorem Rep.zr (r:Rep M ρ σ H fps) (hv:∀ i∈vs,M.Ms i=false) {a:Addr} (h:Zr M fps a):Zv M vs fps a:=by
 rcases h with h | ⟨h1,h2⟩
 ·exact .inl h
 ·refine .inr ⟨0,λ z=>?_,h2⟩
  cases e:M.io with
  | none=>exact h1 e
  | some v=>have:=(r.iov.1 v e).2;rw [hv 0 z] at this;cases this
theorem Rep.h0' (r:Rep M ρ σ H fps) {a:Addr} (e:H a=none):M.H₀ a=none:=by
 cases e':M.H₀ a with
 | none=>rfl
 | some o=>exact absurd e (r.h0 a (by rw [e'];simp))
def sRet (f:Fx):Fs:=λ ρ=>match f ρ with
 | .ok (x,d,ρ1)=>.rt x d ρ1
 | .exc c=>.exc c
 | .no=>.no
theorem qlt {f:Fx}{D:Ends} (hv:∀ i∈vs,M.Ms i=false) (hq:tS M (sRet f) D σ H):tRet (tE M f vs) D σ H:=by
 obtain ⟨ρ,fps,rep,q⟩:=hq
 refine ⟨ρ,fps,rep,?_⟩
 unfold sRet at q
 cases ef:f ρ with
 | no=>rw [ef] at q;exact q
 | exc c=>rw [ef] at q;exact λ H' fps' k=>q _ H' fps' k.ks
 | ok p=>
  obtain ⟨x,d,ρ1⟩:=p
  rw [ef] at q
  intro v H1 fps1 f1 k1 g1 rep1 o1 t1
  exact q v σ H1 fps1 f1 k1.ks rep1 (o1.weak λ a h=>h.elim (λ h=>.inl (rep1.zr hv h)) .inr) λ a ha=>⟨rep.h0' (t1.new a ha),λ z=>t1.ndj a ha z.zf⟩
def zbm (i:Nat):Fs:=λ ρ=>match ρ[i]? with
 | some (some (x,d))=>.rt x d ρ
 | _=>.no
theorem qi4 {i:Nat}{D:Ends} (hal:∀ i,M.al i=[]) (hm:M.Ms i=false) (hq:tS M (zbm i) D σ H):tRet (tVar i) D σ H:=by
 obtain ⟨ρ,fps,rep,q⟩:=hq
 unfold zbm at q
 cases e0:ρ[i]? with
 | none=>rw [e0] at q;exact q.elim
 | some sl=>
  cases sl with
  | none=>rw [e0] at q;exact q.elim
  | some p=>
   obtain ⟨x,d⟩:=p
   rw [e0] at q
   obtain ⟨v,hv,o⟩:=rep.own0 hal i x d e0
   refine ⟨v,hv,q v σ H fps (fps i) KS.refl rep (o.weak λ a h=>h.elim Zr.zf λ z=>.inr ⟨i,z⟩) λ a ha=>⟨rep.fr i hm a ha,λ z=>?_⟩⟩
   rcases z with z | ⟨z1,z2⟩
   ·exact rep.zo i a ha z
   ·cases e:M.io with
    | none=>exact z1 e
    | some w=>exact rep.dj i 0 (λ e'=>by rw [e',(rep.iov.1 w e).2] at hm;cases hm) a ha z2
def zzx (f:Fx):Fs:=λ ρ=>match f ρ with
 | .ok (_,_,ρ1)=>.nx ρ1
 | .exc c=>.exc c
 | .no=>.no
theorem qcm {f:Fx}{D:Ends} (hq:tS M (zzx f) D σ H):zgz (tE M f vs) D σ H:=by
 obtain ⟨ρ,fps,rep,q⟩:=hq
 refine ⟨ρ,fps,rep,?_⟩
 unfold zzx at q
 cases ef:f ρ with
 | no=>rw [ef] at q;exact q
 | exc c=>rw [ef] at q;exact λ H' fps' k=>q _ H' fps' k.ks
 | ok p=>
  obtain ⟨x,d,ρ1⟩:=p
  rw [ef] at q
  intro v H1 fps1 f1 k1 g1 rep1 o1 t1
  exact q σ H1 fps1 k1.ks rep1
theorem OwnL.snoc {K:Frag}{Z:Addr->Prop}{y:PV}{d:Nat}{w:V}{fy:List Addr}:∀ {xs:List PV}{ws:List V}{f:List Addr},OwnL K H Z xs d ws f->Own K H Z y d w fy->(∀ a∈f,a∉fy)->OwnL K H Z (xs++[y]) d (ws++[w]) (f++fy)
 | [],ws,f,h,hy,_=>by
  rw [OwnL] at h
  obtain ⟨rfl,rfl⟩:=h
  show OwnL K H Z [y] d [w] fy
  rw [OwnL]
  refine ⟨w,[],fy,[],rfl,by simp,λ _ _ z=>(nomatch z),hy,?_⟩
  rw [OwnL];exact ⟨rfl,rfl⟩
 | x::xs,ws,f,h,hy,hd=>by
  rw [OwnL] at h
  obtain ⟨v,s,f1,f2,rfl,rfl,dj,h1,h2⟩:=h
  show OwnL K H Z (x::(xs++[y])) d (v::(s++[w])) (f1++f2++fy)
  rw [OwnL]
  refine ⟨v,s++[w],f1,f2++fy,rfl,by rw [jh5],λ a ha hb=>?_,h1,h2.snoc hy λ a ha=>hd a (ja2 _ ha)⟩
  rcases jc4.mp hb with z | z
  ·exact dj a ha z
  ·exact hd a (ja9 _ ha) z
theorem Own.at {K:Frag}{Z Z':Addr->Prop}{a:Addr}{o:HO}{x:PV}{d:Nat}{v:V}{fp:List Addr} (h:Own K H Z x d v fp) (hZ:Z a) (hl:∃ o:MO,H a=some o.ho) (hf:a∉fp) (hz:∀ b,H b≠none->¬ Z b->¬ Z' b):Own K (upd H a o) Z' x d v fp:=
 Own.move (S:=λ b=>b=a) (λ b u hb n=>by rw [zqg n];exact hb) (λ b e=>by rw [e];exact ⟨hZ,hl⟩) hz x d v fp (λ b hb e=>hf (by rw [<- e];exact hb)) h
theorem OwnL.at {K:Frag}{Z Z':Addr->Prop}{a:Addr}{o:HO}{x:List PV}{d:Nat}{v:List V}{fp:List Addr} (h:OwnL K H Z x d v fp) (hZ:Z a) (hl:∃ o:MO,H a=some o.ho) (hf:a∉fp) (hz:∀ b,H b≠none->¬ Z b->¬ Z' b):OwnL K (upd H a o) Z' x d v fp:=
 OwnL.move (S:=λ b=>b=a) (λ b u hb n=>by rw [zqg n];exact hb) (λ b e=>by rw [e];exact ⟨hZ,hl⟩) hz x d v fp (λ b hb e=>hf (by rw [<- e];exact hb)) h
theorem Rep.rewrite {i:Nat}{xs:List PV}{d:Nat}{a:Addr}{ws:List V}{zs:List PV}{us:List V}{e:Nat}{f f' fp:List Addr} (hal:∀ i,M.al i=[]) (r:Rep (M.plus fp) ρ σ H fps) (hi:ρ[i]?=some (some (.lst xs,d))) (hσ:σ[i]?=some (some (.ref a)))
  (ha:H a=some (.lst ws)) (hfp:fps i=a::f) (hn:a∉f') (hsub:∀ b∈f',b∈f\/b∈fp) (he:e≠0) (hm:M.Ms i=true->e=om) (hH:∀ b∈fp,M.H₀ b=none/\¬ M.Zo b)
  (hnew:OwnL M.K (upd H a (.lst us)) (Zf M (λ j=>if j=i then a::f' else fps j)) zs (pd e) us f'):
  Rep M (ρ.set i (some (.lst zs,e))) σ (upd H a (.lst us)) (λ j=>if j=i then a::f' else fps j):=by
 have hlen:i < ρ.length:=(ja7.mp hi).1
 have hai:a∈fps i:=by rw [hfp];exact ja3
 have zz:∀ b,Zf M (λ j=>if j=i then a::f' else fps j) b->Zf (M.plus fp) fps b:=λ b h=>by
  rcases h with z | ⟨j,z⟩
  ·exact .inl (.inl z)
  ·by_cases ej:j=i
   ·simp only [if_pos ej] at z
    rcases jb3.mp z with z | z
    ·exact .inr ⟨i,by rw [z];exact hai⟩
    ·rcases hsub b z with z | z
     ·exact .inr ⟨i,by rw [hfp];exact ja1 _ z⟩
     ·exact .inl (.inr z)
   ·simp only [if_neg ej] at z;exact .inr ⟨j,z⟩
 have dm:∀ b,H b≠none->(upd H a (.lst us)) b≠none:=λ b h=>by
  by_cases eb:b=a
  ·rw [eb,zqi];simp
  ·rw [zqg eb];exact h
 have inI:∀ b,b∈a::f'->b∈fps i\/b∈fp:=λ b hb=>by
  rcases jb3.mp hb with z | z
  ·exact .inl (by rw [z];exact hai)
  ·rcases hsub b z with z | z
   ·exact .inl (by rw [hfp];exact ja1 _ z)
   ·exact .inr z
 refine ⟨λ j y c hj=>?_,λ j hj=>?_,λ j k hjk b hb hc=>?_,λ j b hb z=>?_,λ j hj b hb=>?_,λ b z=>dm b (r.zd b (.inl z)),by rw [jc0];exact r.len,λ j y c hj hc=>?_,λ b z=>dm b (r.h0 b z),r.iov⟩
 ·by_cases ej:j=i
  ·subst ej
   rw [jb1 hlen] at hj
   cases hj
   refine ⟨_,hσ,?_⟩
   rw [if_pos rfl,Own]
   exact ⟨a,us,rfl,.inr ⟨he,f',zqi,rfl,hn,hnew.weak λ _ h=>h.zf⟩⟩
  ·rw [ja0 (vb2 ej)] at hj
   obtain ⟨w,hw,ow⟩:=r.own0 hal j y c hj
   refine ⟨w,hw,?_⟩
   rw [if_neg ej]
   exact ow.at (.inr ⟨i,hai⟩) ⟨.l ws,ha⟩ (λ z=>r.dj j i ej a z hai) λ b _ nz z=>nz (zz b z.zf)
 ·by_cases ej:j=i
  ·subst ej;exact absurd (jb1 hlen) (hj _)
  ·rw [if_neg ej]
   exact r.non j λ p hp=>hj p (by rw [ja0 (vb2 ej)];exact hp)
 ·have one:∀ k,k≠i->∀ b,b∈a::f'->b∈fps k->False:=λ k hk b h1 h2=>(inI b h1).elim (λ z=>r.dj i k (vb2 hk) b z h2) λ z=>r.zo k b h2 (.inr z)
  by_cases e1:j=i
  ·by_cases e2:k=i
   ·exact hjk (e1.trans e2.symm)
   ·rw [if_pos e1] at hb
    rw [if_neg e2] at hc
    exact one k e2 b hb hc
  ·rw [if_neg e1] at hb
   by_cases e2:k=i
   ·rw [if_pos e2] at hc
    exact one j e1 b hc hb
   ·rw [if_neg e2] at hc
    exact r.dj j k hjk b hb hc
 ·by_cases ej:j=i
  ·rw [if_pos ej] at hb
   rcases inI b hb with y | y
   ·exact r.zo i b y (.inl z)
   ·exact (hH b y).2 z
  ·rw [if_neg ej] at hb;exact r.zo j b hb (.inl z)
 ·by_cases ej:j=i
  ·rw [if_pos ej] at hb
   rcases inI b hb with y | y
   ·exact r.fr i (by rw [<- ej];exact hj) b y
   ·exact (hH b y).1
  ·rw [if_neg ej] at hb;exact r.fr j hj b hb
 ·by_cases ej:j=i
  ·subst ej
   rw [jb1 hlen] at hc
   cases hc
   exact hm hj
  ·rw [ja0 (vb2 ej)] at hc
   exact r.msf j y c hj hc
end
section
variable {M:Fm}{ρ ρ':Rho}{σ σ':St}{H H' H'':Hp}{fps fps' fps'':Fps}{vs vs':List Nat}
theorem KS.write {a:Addr}{o:HO}{i:Nat}{f' fp:List Addr} (k:KS M H fps H' fps') (ha:∃ j,a∈fps j) (hs:∀ b∈a::f',b∈fps' i\/H b=none):
  KS M H fps (upd H' a o) (λ j=>if j=i then a::f' else fps' j) where
 keep:=λ b u hb n=>by rw [zqg (λ e=>n (by rw [e];exact ha))];exact k.keep b u hb n
 dom:=λ b hb=>by
  by_cases e:b=a
  ·rw [e,zqi];simp
  ·rw [zqg e];exact k.dom b hb
 sub:=λ j b hb=>by
  by_cases e:j=i
  ·simp only [if_pos e] at hb
   rcases hs b hb with z | z
   ·exact k.sub i b z
   ·exact .inr z
  ·simp only [if_neg e] at hb;exact k.sub j b hb
theorem Rep.behind {x:PV}{d:Nat}{v:V}{fp:List Addr} (rep:Rep M ρ σ H fps) (k:KD M H fps H' fps') (g:Agr M ρ ρ') (r':Rep M ρ' σ H' fps') (o:Own M.K H' (Zt M vs fps' fp) x d v fp) (t:Temp M vs H H' fps' fp)
  (hal:∀ i,M.al i=[]) (hv:∀ i∈vs,M.Ms i=false):∃ fps2,KS M H fps H' fps2/\Rep (M.plus fp) (zqr d vs ρ') σ H' fps2/\Own M.K H' (λ a=>Zf M fps2 a\/a∈fp) x d v fp/\(∀ a∈fp,¬ Zf M fps2 a)/\(∀ i a,a∈fps2 i->a∈fps' i)/\(∀ a∈fp,M.H₀ a=none/\¬ M.Zo a):=by
 have w:Rep (M.plus fp) ρ' σ H' fps':=rep.wide (λ i j hj=>by rw [hal i] at hj;cases hj) k g r' λ a ha=>⟨t.new a ha,by obtain ⟨xs,e⟩:=Own.lsts x d v fp o a ha;rw [e];simp,t.ndj a ha⟩
 have hf:∀ a∈fp,M.H₀ a=none/\¬ M.Zo a:=λ a ha=>⟨rep.h0' (t.new a ha),λ z=>t.ndj a ha (.inl z)⟩
 unfold zqr
 by_cases hd:d=om
 ·rw [if_pos hd]
  refine ⟨fps',k.ks,w,?_,t.ndj,λ _ _ h=>h,hf⟩
  rw [hd] at o ⊢
  exact Own.full x v fp o
 ·rw [if_neg hd]
  exact ⟨zko vs fps',k.ks.cool,w.cool hal hv,o.weak λ a h=>h.elim (λ h=>.inl (zkc h)) .inr,λ a ha z=>t.ndj a ha (zkc z).zf,λ _ _ h=>(zxo h).1,hf⟩
def sApp (i:Nat) (f:Fx) (vs:List Nat):Fs:=λ ρ=>match ρ[i]? with
 | some (some (.lst _,0))=>.no
 | some (some (.lst _,_ + 1))=>(match f ρ with
  | .ok (y,e,ρ1)=>(match (zqr e vs ρ1)[i]? with
   | some (some (.lst xs,d))=>if d≠0/\xs.length < va4 then .nx ((zqr e vs ρ1).set i (some (.lst (xs++[y]),if d=om/\e=om then om else 1))) else .no
   | _=>.no)
  | .exc c=>.exc c
  | .no=>.no)
 | _=>.no
theorem qaq:pd 1=0:=by decide
theorem Own.list {K:Frag}{Z:Addr->Prop}{xs:List PV}{d:Nat}{v:V}{fp:List Addr} (h:Own K H Z (.lst xs) d v fp) (hd:d≠0):∃ a ws f,v=.ref a/\H a=some (.lst ws)/\fp=a::f/\a∉f/\OwnL K H Z xs (pd d) ws f:=by
 rw [Own] at h
 obtain ⟨a,ws,e,⟨d0,_⟩ | ⟨_,f,h1,h2,h3,h4⟩⟩:=h
 ·exact absurd d0 hd
 ·exact ⟨a,ws,f,e,h1,h2,h3,h4⟩
theorem qlx {f:Fx}{i:Nat}{D:Ends} (hal:∀ i,M.al i=[]) (hv:∀ i∈vs,M.Ms i=false) (hm:M.Ms i=false) (hq:tS M (sApp i f vs) D σ H):zgz (tBM M.K "list" zjn (tVar i) (zbl (tE M f vs) tNil)) D σ H:=by
 obtain ⟨ρ,fps,rep,q⟩:=hq
 unfold sApp at q
 split at q
 ·exact q.elim
 ·rename_i xs0 d0 e0
  obtain ⟨v,hσ,o⟩:=rep.own0 hal i _ _ e0
  obtain ⟨a,ws0,fc0,rfl,ha0,hfp0,_,_⟩:=o.list (jj3 _)
  refine ⟨_,hσ,zpu (.inl (.inl ha0)),ρ,fps,rep,?_⟩
  cases ef:f ρ with
  | no=>rw [ef] at q;exact q
  | exc c=>rw [ef] at q;exact λ H' fps' k=>q _ H' fps' k.ks
  | ok p=>
   obtain ⟨y,e,ρ1⟩:=p
   rw [ef] at q
   intro w H1 fps1 fp k1 g1 rep1 o1 t1
   dsimp only at q
   split at q
   ·rename_i xs d es
    split at q
    ·rename_i hc
     obtain ⟨fps2,k2,r2,o2,n2,s2,h2⟩:=Rep.behind rep k1 g1 rep1 o1 t1 hal hv
     obtain ⟨v',hσ',ol⟩:=r2.own0 hal i _ _ es
     rw [hσ] at hσ'
     cases hσ'
     obtain ⟨a',ws,fc,ev,ha,hfp,nac,hol⟩:=ol.list hc.1
     cases ev
     have hai:a∈fps2 i:=by rw [hfp];exact ja3
     have hafp:a∉fp:=λ z=>n2 a z (.inr ⟨i,hai⟩)
     have hst:∃ j,a∈fps j:=⟨i,by have:=s2 i a hai;rw [k1.same i hm] at this;exact this⟩
     refine ⟨a,ws,w,rfl,rfl,ha,by rw [hol.length];exact hc.2,?_⟩
     by_cases ho:d=om/\e=om
     ·rw [if_pos ho] at q
      obtain ⟨rfl,rfl⟩:=ho
      refine q σ _ _ (k2.write (i:=i) (f':=fc++fp) (fp:=fp) hst λ b hb=>?_) (r2.rewrite hal es hσ ha hfp (λ z=>(jc4.mp z).elim nac hafp) (λ b hb=>jc4.mp hb) (by decide) (λ _=>rfl) h2 ?_)
      ·rcases jb3.mp hb with z | z
       ·exact .inl (by rw [z];exact hai)
       ·rcases jc4.mp z with z | z
        ·exact .inl (by rw [hfp];exact ja1 _ z)
        ·exact .inr (t1.new b z)
      ·have u1:OwnL M.K (upd H1 a (.lst (ws++[w]))) (λ _=>True) xs om ws fc:=(OwnL.full (Z':=λ _=>True) xs ws fc hol).at trivial ⟨.l ws,ha⟩ nac λ _ _ n=>absurd trivial n
       have u2:Own M.K (upd H1 a (.lst (ws++[w]))) (λ _=>True) y om w fp:=(Own.full (Z':=λ _=>True) y w fp o2).at trivial ⟨.l ws,ha⟩ hafp λ _ _ n=>absurd trivial n
       exact OwnL.full _ _ _ (u1.snoc u2 λ b hb z=>n2 b z (.inr ⟨i,by rw [hfp];exact ja1 _ hb⟩))
     ·rw [if_neg ho] at q
      refine q σ _ _ (k2.write (i:=i) (f':=[]) (fp:=fp) hst λ b hb=>?_) (r2.rewrite hal es hσ ha hfp (λ z=>nomatch z) (λ b hb=>nomatch hb) (by decide) (λ h=>by rw [hm] at h;cases h) h2 ?_)
      ·rcases jb3.mp hb with z | z
       ·exact .inl (by rw [z];exact hai)
       ·cases z
      ·rw [qaq]
       have zsub:∀ b,Zf M (λ j=>if j=i then [a] else fps2 j) b->Zf (M.plus fp) fps2 b:=λ b h=>by
        rcases h with z | ⟨j,z⟩
        ·exact .inl (.inl z)
        ·by_cases ej:j=i
         ·simp only [if_pos ej] at z
          rw [jb6.mp z]
          exact .inr ⟨i,hai⟩
         ·simp only [if_neg ej] at z;exact .inr ⟨j,z⟩
       have nf:∀ b∈fc,¬ Zf M (λ j=>if j=i then [a] else fps2 j) b:=λ b hb z=>by
        have hbi:b∈fps2 i:=by rw [hfp];exact ja1 _ hb
        rcases z with z | ⟨j,z⟩
        ·exact r2.zo i b hbi (.inl z)
        ·by_cases ej:j=i
         ·simp only [if_pos ej] at z
          rw [jb6.mp z] at hb;exact nac hb
         ·simp only [if_neg ej] at z;exact r2.dj i j (vb2 ej) b hbi z
       have nfp:∀ b∈fp,¬ Zf M (λ j=>if j=i then [a] else fps2 j) b:=λ b hb z=>by
        rcases z with z | ⟨j,z⟩
        ·exact n2 b hb (.inl z)
        ·by_cases ej:j=i
         ·simp only [if_pos ej] at z
          rw [jb6.mp z] at hb;exact hafp hb
         ·simp only [if_neg ej] at z;exact n2 b hb (.inr ⟨j,z⟩)
       have za:Zf M (λ j=>if j=i then [a] else fps2 j) a:=.inr ⟨i,by simp⟩
       have u1:=(OwnL.freeze (Z':=Zf M (λ j=>if j=i then [a] else fps2 j)) zsub xs _ ws fc nf hol)
       have u2:=(Own.freeze (Z':=Zf M (λ j=>if j=i then [a] else fps2 j)) (λ b h=>by
        rcases h with z | ⟨j,z⟩
        ·exact .inl (.inl z)
        ·by_cases ej:j=i
         ·simp only [if_pos ej] at z
          rw [jb6.mp z]
          exact .inl (.inr ⟨i,hai⟩)
         ·simp only [if_neg ej] at z;exact .inl (.inr ⟨j,z⟩)) y _ w fp nfp o2)
       exact (u1.at za ⟨.l ws,ha⟩ (λ z=>nomatch z) λ _ _ n=>n).snoc (u2.at za ⟨.l ws,ha⟩ (λ z=>nomatch z) λ _ _ n=>n) λ _ z=>nomatch z
    ·exact q.elim
   ·exact q.elim
 ·exact q.elim
def zwn:PV->Bool
 | .lst _=>false
 | .tup _=>false
 | .dct _=>false
 | _=>true
theorem OwnL.set {K:Frag}{Z:Addr->Prop}{y:PV}{d:Nat}{w:V} (hy:Own K H Z y d w []):∀ {xs:List PV}{ws:List V}{f:List Addr} (k:Nat),OwnL K H Z xs d ws f->∃ f',(∀ b∈f',b∈f)/\OwnL K H Z (xs.set k y) d (ws.set k w) f'
 | [],ws,f,k,h=>by
  rw [OwnL] at h
  obtain ⟨rfl,rfl⟩:=h
  refine ⟨[],λ _ z=>z,?_⟩
  rw [jm1,jm1,OwnL];exact ⟨rfl,rfl⟩
 | x::xs,ws,f,0,h=>by
  rw [OwnL] at h
  obtain ⟨v,s,f1,f2,rfl,rfl,dj,h1,h2⟩:=h
  refine ⟨f2,λ b hb=>ja2 _ hb,?_⟩
  rw [jf6,jf6,OwnL]
  exact ⟨w,s,[],f2,rfl,rfl,λ _ z=>(nomatch z),hy,h2⟩
 | x::xs,ws,f,k + 1,h=>by
  rw [OwnL] at h
  obtain ⟨v,s,f1,f2,rfl,rfl,dj,h1,h2⟩:=h
  obtain ⟨f',hs,h'⟩:=h2.set hy k
  refine ⟨f1++f',λ b hb=>(jc4.mp hb).elim (λ z=>ja9 _ z) λ z=>ja2 _ (hs b z),?_⟩
  rw [jg4,jg4,OwnL]
  exact ⟨v,s.set k w,f1,f',rfl,rfl,λ b hb hc=>dj b hb (hs b hc),h1,h'⟩
theorem Own.atom {K:Frag}{Z Z':Addr->Prop}{y:PV}{d d':Nat}{w:V}{fp:List Addr} (hy:zwn y=true) (h:Own K H Z y d w fp):fp=[]/\Own K H Z' y d' w []:=by
 cases y with
 | lst _=>cases hy
 | tup _=>cases hy
 | dct _=>cases hy
 | exn _=>rw [Own] at h ⊢;exact ⟨h.1,rfl,h.2⟩
 | emp=>rw [Own] at h ⊢;exact ⟨h.1,rfl,h.2⟩
 | dko=>rw [Own] at h ⊢;exact ⟨h.1,rfl,h.2⟩
 | scr _=>rw [Own] at h ⊢;exact ⟨h.1,rfl,h.2⟩
 | non=>rw [Own] at h ⊢;exact ⟨h.2,h.1,rfl⟩
 | bl _=>rw [Own] at h ⊢;exact ⟨h.2,h.1,rfl⟩
 | int _=>rw [Own] at h ⊢;exact ⟨h.2,h.1,rfl⟩
 | str _=>rw [Own] at h ⊢;exact ⟨h.2,h.1,rfl⟩
def sPut (i:Nat) (k:Int) (f:Fx):Fs:=λ ρ=>match f ρ with
 | .ok (y,_,ρ1)=>(match ρ1[i]? with
  | some (some (.lst xs,d))=>(match ixN xs.length k with
   | some j=>if d≠0/\zwn y=true then .nx (ρ1.set i (some (.lst (xs.set j y),d))) else .no
   | none=>.no)
  | _=>.no)
 | .exc c=>.exc c
 | .no=>.no
theorem qlu {f:Fx}{i:Nat}{k:Int}{D:Ends} (hal:∀ i,M.al i=[]) (hv:∀ i∈vs,M.Ms i=false) (hq:tS M (sPut i k f) D σ H):tAsg (tE M f vs) (gSub (tVar i) (tC (.int k)) qf5) D σ H:=by
 obtain ⟨ρ,fps,rep,q⟩:=hq
 refine ⟨ρ,fps,rep,?_⟩
 unfold sPut at q
 cases ef:f ρ with
 | no=>rw [ef] at q;exact q
 | exc c=>rw [ef] at q;exact λ H' fps' k=>q _ H' fps' k.ks
 | ok p=>
  obtain ⟨y,e,ρ1⟩:=p
  rw [ef] at q
  intro w H1 fps1 fp k1 g1 rep1 o1 t1
  dsimp only at q
  split at q
  ·rename_i xs d es
   split at q
   ·rename_i j ej
    split at q
    ·rename_i hc
     obtain ⟨rfl,_⟩:=Own.atom (Z':=λ _=>True) (d':=0) hc.2 o1
     obtain ⟨v',hσ',ol⟩:=rep1.own0 hal i _ _ es
     obtain ⟨a,ws,fc,rfl,ha,hfp,nac,hol⟩:=ol.list hc.1
     have hai:a∈fps1 i:=by rw [hfp];exact ja3
     refine ⟨_,hσ',a,ws,k,j,rfl,rfl,ha,by rw [hol.length];exact ej,?_⟩
     have rp:Rep (M.plus []) ρ1 σ H1 fps1:=rep.wide (λ i j hj=>by rw [hal i] at hj;cases hj) k1 g1 rep1 λ b hb=>nomatch hb
     obtain ⟨fc',hs',hset⟩:=hol.set (Own.atom (d':=pd d) hc.2 o1).2 j
     have inI:∀ b,b∈a::fc'->b∈fps1 i:=λ b hb=>(jb3.mp hb).elim (λ z=>by rw [z];exact hai) λ z=>by rw [hfp];exact ja1 _ (hs' b z)
     have hst:KS M H fps (upd H1 a (.lst (ws.set j w))) (λ j=>if j=i then a::fc' else fps1 j):=by
      refine ⟨λ b u hb n=>?_,λ b hb=>?_,λ j b hb=>?_⟩
      ·have hb1:=k1.ks.keep b u hb n
       rw [zqg]
       ·exact hb1
       ·rintro rfl
        rcases k1.ks.sub i b hai with z | z
        ·exact n z
        ·rw [z] at hb;cases hb
      ·by_cases eb:b=a
       ·rw [eb,zqi];simp
       ·rw [zqg eb];exact k1.dom b hb
      ·by_cases ej:j=i
       ·simp only [if_pos ej] at hb;exact k1.ks.sub i b (inI b hb)
       ·simp only [if_neg ej] at hb;exact k1.ks.sub j b hb
     refine q σ _ _ hst (rp.rewrite hal es hσ' ha hfp (λ z=>nac (hs' a z)) (λ b hb=>.inl (hs' b hb)) hc.1 (λ h=>rep1.msf i _ _ h es) (λ b hb=>nomatch hb) ?_)
     have nz:∀ b,Zf M (λ j=>if j=i then a::fc' else fps1 j) b->Zf M fps1 b:=λ b h=>by
      rcases h with z | ⟨j,z⟩
      ·exact .inl z
      ·by_cases ej:j=i
       ·simp only [if_pos ej] at z;exact .inr ⟨i,inI b z⟩
       ·simp only [if_neg ej] at z;exact .inr ⟨j,z⟩
     exact hset.at (.inr ⟨i,hai⟩) ⟨.l ws,ha⟩ (λ z=>nac (hs' a z)) λ b _ n z=>n (nz b z)
    ·exact q.elim
   ·exact q.elim
  ·exact q.elim
end
section
variable {is:List Nat}{M:Fm}{ρ ρ':Rho}{σ σ':St}{H H' H'':Hp}{fps fps' fps'':Fps}{vs vs':List Nat}
theorem Rep.plus0 (hal:∀ i,∀ j∈M.al i,M.Ms j=false) (r:Rep M ρ σ H fps):Rep (M.plus []) ρ σ H fps:=r.wide hal KD.refl Agr.refl r (λ _ z=>nomatch z)
def GOk (M:Fm) (al is:List Nat) (g:TG) (asg:PV->Rho->Option Rho):Prop:=∀ y v ρ σ H fps ρ' (Q:St->Hp->Prop),Rep M ρ σ H fps->Own M.K H (Zv M al fps) y 0 v []->asg y ρ=some ρ'->(∀ σ' fps',(∀ i,∀ a∈fps' i,a∈fps i)->(∀ i,i∉is->ρ'[i]?=ρ[i]?/\fps' i=fps i/\σ'[i]?=σ[i]?)->ρ'.length=ρ.length->Rep M ρ' σ' H fps'->Q σ' H)->g v σ H Q
def asgN (i:Nat):PV->Rho->Option Rho:=λ y ρ=>if i < ρ.length then some (ρ.set i (some (y,dv y))) else none
theorem Own.dv {K:Frag}{Z:Addr->Prop}{x:PV}{v:V} (h:Own K H Z x 0 v []):Own K H Z x (dv x) v []:=Own.view (fp:=[]) (λ _ z=>z) (λ _ z=>nomatch z) h
structure Bd (M:Fm) (al:List Nat) (i:Nat):Prop where
 ms:M.Ms i=false
 io:M.Fre i
 al:M.al i=al
 als:∀ i,∀ j∈M.al i,M.Ms j=false
theorem Rep.bind1 {al:List Nat}{i:Nat}{y:PV}{v:V} (r:Rep M ρ σ H fps) (o:Own M.K H (Zv M al fps) y 0 v []) (hi:i < ρ.length) (b:Bd M al i):
  Rep M (ρ.set i (some (y,dv y))) (σ.set i (some v)) H (λ j=>if j=i then [] else fps j):=by
 refine (r.plus0 b.als).put (o.dv.weak λ a h=>h.elim (λ h=>?_) λ z=>nomatch z) (λ _ z=>nomatch z) hi (λ h=>by rw [b.ms] at h;cases h) b.io
 rcases h with h | ⟨j,nj,h⟩
 ·exact .inl h
 ·exact .inr ⟨j,by rw [b.al] at nj;exact nj,h⟩
theorem qeo {al:List Nat}{i:Nat} (b:Bd M al i):GOk M al [i] (zvo i) (asgN i):=by
 intro y v ρ σ H fps ρ' Q r o e q
 unfold asgN at e
 split at e
 ·rename_i hi
  cases e
  refine q _ _ (λ j a ha=>?_) (λ j nj=>?_) (by rw [jc0]) (r.bind1 o hi b)
  ·by_cases e:j=i
   ·simp only [if_pos e] at ha;cases ha
   ·simp only [if_neg e] at ha;exact ha
  ·have e:j≠i:=λ e=>nj (by simp [e])
   exact ⟨ja0 (vb2 e),if_neg e,ja0 (vb2 e)⟩
 ·cases e
def zpi:List Nat->TGs
 | []=>gNil
 | i::is=>qnz (zvo i) (zpi is)
def asgs:List Nat->List PV->Rho->Option Rho
 | [],[],ρ=>some ρ
 | i::is,y::ys,ρ=>(asgN i y ρ).bind (asgs is ys)
 | _,_,_=>none
def asgT (is:List Nat):PV->Rho->Option Rho:=λ y ρ=>match y with
 | .tup ys=>asgs is ys ρ
 | _=>none
theorem qen {al:List Nat}:∀ (is:List Nat) (ys:List PV) (ws:List V) (ρ:Rho) (σ:St) (H:Hp) (fps:Fps) (ρ':Rho) (Q:St->Hp->Prop),(∀ i∈is,Bd M al i)->Rep M ρ σ H fps->OwnL M.K H (Zv M al fps) ys 0 ws []->asgs is ys ρ=some ρ' ->
  (∀ σ' fps',(∀ i,∀ a∈fps' i,a∈fps i)->(∀ i,i∉is->ρ'[i]?=ρ[i]?/\fps' i=fps i/\σ'[i]?=σ[i]?)->ρ'.length=ρ.length->Rep M ρ' σ' H fps'->Q σ' H)->ws.length=is.length/\zpi is ws σ H Q
 | [],[],ws,ρ,σ,H,fps,ρ',Q,_,r,o,e,q=>by
  rw [OwnL] at o
  obtain ⟨rfl,_⟩:=o
  cases e
  exact ⟨rfl,rfl,q σ fps (λ _ _ h=>h) (λ _ _=>⟨rfl,rfl,rfl⟩) rfl r⟩
 | [],_::_,_,_,_,_,_,_,_,_,_,_,e,_=>by cases e
 | _::_,[],_,_,_,_,_,_,_,_,_,_,e,_=>by cases e
 | i::is,y::ys,ws,ρ,σ,H,fps,ρ',Q,hs,r,o,e,q=>by
  rw [OwnL] at o
  obtain ⟨v,s,f1,f2,rfl,ef,_,o1,o2⟩:=o
  obtain ⟨rfl,rfl⟩:f1=[]/\f2=[]:=by simpa using ef.symm
  unfold asgs at e
  cases e1:asgN i y ρ with
  | none=>rw [e1] at e;cases e
  | some ρ1=>
   rw [e1] at e
   unfold asgN at e1
   split at e1
   ·rename_i hi
    cases e1
    have bi:=hs i ja3
    have r':=r.bind1 o1 hi bi
    have sub:∀ j a,a∈(λ j=>if j=i then [] else fps j) j->a∈fps j:=λ j a z=>by
     by_cases ej:j=i
     ·simp only [if_pos ej] at z;cases z
     ·simp only [if_neg ej] at z;exact z
    have o2':OwnL M.K H (Zv M al (λ j=>if j=i then [] else fps j)) ys 0 s []:=o2.weak λ a h=>h.elim .inl λ ⟨j,nj,z⟩=>.inr ⟨j,nj,sub j a z⟩
    obtain ⟨hl,hg⟩:=qen is ys s _ _ H _ ρ' Q (λ j hj=>hs j (ja1 _ hj)) r' o2' e λ σ' fps' k' a' l' r''=>q σ' fps' (λ j a ha=>sub j a (k' j a ha)) (λ j hj=>by
     have ej:j≠i:=λ e=>hj (by rw [e];exact ja3)
     obtain ⟨z1,z2,z3⟩:=a' j λ z=>hj (ja1 _ z)
     rw [if_neg ej] at z2
     exact ⟨z1.trans (ja0 (vb2 ej)),z2,z3.trans (ja0 (vb2 ej))⟩) (l'.trans (by rw [jc0])) r''
    exact ⟨by rw [jb2,jb2,hl],v,s,rfl,hg⟩
   ·cases e1
theorem qko {al:List Nat}{is:List Nat} (hs:∀ i∈is,Bd M al i):GOk M al is (gTup M.K is.length (zpi is)) (asgT is):=by
 intro y v ρ σ H fps ρ' Q r o e q
 unfold asgT at e
 split at e
 ·rename_i ys
  rw [Own] at o
  obtain ⟨a,ws,rfl,hr,ol⟩:=o
  obtain ⟨hl,hg⟩:=qen is ys ws ρ σ H fps ρ' Q hs r ol e q
  exact ⟨a,ws,rfl,.inl (.inl hr),hl,hg⟩
 ·cases e
def zzb (asg:PV->Rho->Option Rho) (body:Fs):List PV->Rho->Rs
 | [],ρ=>.nx ρ
 | x::xs,ρ=>match asg x ρ with
  | none=>.no
  | some ρ1=>match body ρ1 with
   | .nx ρ2=>zzb asg body xs ρ2
   | .ct ρ2=>zzb asg body xs ρ2
   | .bk ρ2=>.nx ρ2
   | .rt x d ρ2=>.rt x d ρ2
   | .exc c=>.exc c
   | .no=>.no
theorem zmj {g:TG}{asg:PV->Rho->Option Rho}{body:Fs}{D:Ends}{J:It}{els:List PV}{Pq:Hp->Fps->Prop} (hg:GOk M [] is g asg)
  (hP:∀ {ρ σ H fps H' fps'},Rep M ρ σ H fps->KS M H fps H' fps'->Pq H fps->Pq H' fps') (hgo:∀ {H fps i},Pq H fps->i < els.length->J.go i H) (hst:∀ {H fps i},Pq H fps->els.length<=i->J.stop i H)
  (hy:∀ {ρ σ H fps i x H'},Rep M ρ σ H fps->Pq H fps->i < els.length->J.yld i H x H'->(∀ a o,H a=some o->H' a=some o)/\∃ y,els[i]?=some y/\Own M.K H' (Zf M fps) y 0 x [])
  (rep:Rep M ρ σ H fps) (p:Pq H fps) (q:RsOk M D H fps (zzb asg body els ρ)):
  ∃ W:Nat->Nat->St->Hp->Prop,(∃ m,W 0 m σ H)/\∀ i m σ H,W i m σ H ->
   (J.stop i H/\D.nx σ H)\/(J.go i H/\∃ N:St->Hp->Prop,(∀ σ' H',N σ' H'->∃ m',m' < m/\W (i + 1) m' σ' H')/\∀ x H',J.yld i H x H'->g x σ H' λ σ2 H2=>(tS M body) { D with nx:=N,ct:=N,bk:=D.nx } σ2 H2):=by
 let W:Nat->Nat->St->Hp->Prop:=λ i m σ H=>m=els.length - i/\∃ ρ fps,Rep M ρ σ H fps/\Pq H fps/\RsOk M D H fps (zzb asg body (els.drop i) ρ)
 refine ⟨W,⟨els.length,by simp,ρ,fps,rep,p,by simpa using q⟩,?_⟩
 rintro i m σ H ⟨rfl,ρ,fps,r,p,q⟩
 by_cases hi:i < els.length
 ·right
  refine ⟨hgo p hi,W (i + 1) (els.length - (i + 1)),λ σ' H' w=>⟨_,by omega,w⟩,λ x H' y=>?_⟩
  obtain ⟨kx,z,ez,oz⟩:=hy r p hi y
  have k0:KS M H fps H' fps:=(KD.grow kx).ks
  have p:=hP r k0 p
  have r:=r.grow kx
  have q:=RsOk.from k0 q
  have ed:els.drop i=z::els.drop (i + 1):=by
   obtain ⟨h1,h2⟩:=ja7.mp ez
   rw [<- h2];exact je4 h1
  rw [ed] at q
  unfold zzb at q
  cases ea:asg z ρ with
  | none=>rw [ea] at q;exact q.elim
  | some ρ1=>
   rw [ea] at q
   dsimp only at q
   refine hg z x ρ σ _ fps ρ1 _ r (oz.weak λ a h=>h.zf) ea λ σ1 fps1 s1 _ _ r1=>⟨ρ1,fps1,r1,?_⟩
   have k1:KS M H' fps H' fps1:=⟨λ _ _ h _=>h,λ _ h=>h,λ j a ha=>.inl ⟨j,s1 j a ha⟩⟩
   have p1:=hP r k1 p
   cases eb:body ρ1 with
   | no=>rw [eb] at q;exact q
   | exc c=>rw [eb] at q;exact RsOk.from (r:=.exc c) k1 q
   | rt x d ρ2=>rw [eb] at q;exact RsOk.from (r:=.rt x d ρ2) k1 q
   | bk ρ2=>rw [eb] at q;exact λ σ' H' fps' k=>q σ' H' fps' (k1.trans k)
   | nx ρ2=>rw [eb] at q;exact λ σ' H' fps' k r'=>⟨rfl,ρ2,fps',r',hP r1 k p1,RsOk.from (k1.trans k) q⟩
   | ct ρ2=>rw [eb] at q;exact λ σ' H' fps' k r'=>⟨rfl,ρ2,fps',r',hP r1 k p1,RsOk.from (k1.trans k) q⟩
 ·left
  have ed:els.drop i=[]:=jf8 (by omega)
  rw [ed] at q
  exact ⟨hst p (by omega),q σ H fps KS.refl r⟩
def zzt (lo:Int) (n:Nat):List PV:=(jd0 n).map λ (i:Nat)=>PV.int (lo + (i:Int))
theorem zwd (lo:Int) (n:Nat):(zzt lo n).length=n:=by simp [zzt]
def zqx:List (PV×Nat)->Option (Int×Int)
 | [(.int j,_)]=>if -(2 ^ 62)<=j/\j < 2 ^ 62 then some (0,j) else none
 | _=>none
def zgi:List (PV×Nat)->Option (Int×Int)
 | [(.int i,_),(.int j,_)]=>if -(2 ^ 62)<=i/\i < 2 ^ 62/\-(2 ^ 62)<=j/\j < 2 ^ 62 then some (i,j) else none
 | _=>none
def zza (en:List (PV×Nat)->Option (Int×Int)) (fa:Fa) (asg:PV->Rho->Option Rho) (body:Fs):Fs:=λ ρ=>match fa ρ with
 | .ok (xs,ρ1)=>(match en xs with
  | some (i,j)=>zzb asg body (zzt i (j - i).toNat) ρ1
  | none=>.no)
 | .exc c=>.exc c
 | .no=>.no
theorem zkn {g:TG}{asg:PV->Rho->Option Rho}{body:Fs}{D:Ends}{lo:Int}{n:Nat} (hg:GOk M [] is g asg) (rep:Rep M ρ σ H fps) (q:RsOk M D H fps (zzb asg body (zzt lo n) ρ)):
  ∃ W:Nat->Nat->St->Hp->Prop,(∃ m,W 0 m σ H)/\∀ i m σ H,W i m σ H ->
   ((Itr lo n).stop i H/\D.nx σ H)\/((Itr lo n).go i H/\∃ N:St->Hp->Prop,(∀ σ' H',N σ' H'->∃ m',m' < m/\W (i + 1) m' σ' H')/\∀ x H',(Itr lo n).yld i H x H'->g x σ H' λ σ2 H2=>(tS M body) { D with nx:=N,ct:=N,bk:=D.nx } σ2 H2):=by
 refine zmj (Pq:=λ _ _=>True) hg (λ _ _ _=>trivial) (λ {H fps i} _ h=>?_) (λ {H fps i} _ h=>?_) (λ {ρ σ H fps i x H'} _ _ h y=>?_) rep trivial q
 ·rw [zwd] at h;exact h
 ·rw [zwd] at h;exact h
 ·rw [zwd] at h
  obtain ⟨e1,e2⟩:=y
  subst e1
  exact ⟨λ _ _ h=>h,.int (lo + i),by simp [zzt,h],by rw [e2,Own];exact ⟨rfl,rfl⟩⟩
theorem qcl {g:TG}{asg:PV->Rho->Option Rho}{body:Fs}{fa:Fa}{D:Ends} (hg:GOk M [] is g asg) (hq:tS M (zza zqx fa asg body) D σ H):tFor (qg0 (tL M fa vs)) g (tS M body) D σ H:=by
 obtain ⟨ρ,fps,rep,q⟩:=hq
 refine ⟨ρ,fps,rep,?_⟩
 unfold zza at q
 cases ef:fa ρ with
 | no=>rw [ef] at q;exact q
 | exc c=>rw [ef] at q;exact λ H' fps' k=>q _ H' fps' k.ks
 | ok p=>
  obtain ⟨xs,ρ1⟩:=p
  rw [ef] at q
  intro ws H1 fps1 f1 k1 g1 rep1 o1 t1
  dsimp only at q
  cases ee:zqx xs with
  | none=>rw [ee] at q;exact q.elim
  | some ij=>
   obtain ⟨i,j⟩:=ij
   rw [ee] at q
   unfold zqx at ee
   split at ee
   ·rename_i j' d
    split at ee
    ·rename_i hb
     cases ee
     obtain ⟨v,r,f1,f2,rfl,_,_,h1,h2⟩:=o1
     obtain ⟨rfl,_⟩:=h2
     rw [Own] at h1
     obtain ⟨rfl,_⟩:=h1
     refine ⟨j,rfl,hb.1,hb.2,?_⟩
     have e:(j - 0).toNat=j.toNat:=by omega
     dsimp only at q
     rw [e] at q
     exact zkn hg rep1 (RsOk.from k1.ks q)
    ·cases ee
   ·cases ee
theorem qck {g:TG}{asg:PV->Rho->Option Rho}{body:Fs}{fa:Fa}{D:Ends} (hg:GOk M [] is g asg) (hq:tS M (zza zgi fa asg body) D σ H):tFor (qgz (tL M fa vs)) g (tS M body) D σ H:=by
 obtain ⟨ρ,fps,rep,q⟩:=hq
 refine ⟨ρ,fps,rep,?_⟩
 unfold zza at q
 cases ef:fa ρ with
 | no=>rw [ef] at q;exact q
 | exc c=>rw [ef] at q;exact λ H' fps' k=>q _ H' fps' k.ks
 | ok p=>
  obtain ⟨xs,ρ1⟩:=p
  rw [ef] at q
  intro ws H1 fps1 f1 k1 g1 rep1 o1 t1
  dsimp only at q
  cases ee:zgi xs with
  | none=>rw [ee] at q;exact q.elim
  | some ij=>
   obtain ⟨i,j⟩:=ij
   rw [ee] at q
   unfold zgi at ee
   split at ee
   ·rename_i i' d j' d'
    split at ee
    ·rename_i hb
     cases ee
     obtain ⟨v,r,f1,f2,rfl,_,_,h1,h2⟩:=o1
     obtain ⟨v2,r2,f3,f4,rfl,_,_,h3,h4⟩:=h2
     obtain ⟨rfl,_⟩:=h4
     rw [Own] at h1 h3
     obtain ⟨rfl,_⟩:=h1
     obtain ⟨rfl,_⟩:=h3
     exact ⟨i,j,rfl,hb,zkn hg rep1 (RsOk.from k1.ks q)⟩
    ·cases ee
   ·cases ee
def zjk (z:Str):List PV:=z.cps.toList.map λ c=>.str ⟨#[c]⟩
def zzw (f:Fx) (vs:List Nat) (asg:PV->Rho->Option Rho) (body:Fs):Fs:=λ ρ=>match f ρ with
 | .ok (.str z,d,ρ1)=>if qbk z=true then zzb asg body (zjk z) (zqr d vs ρ1) else .no
 | .ok (.lst xs,d,ρ1)=>zzb asg body xs (zqr d vs ρ1)
 | .ok (.tup xs,d,ρ1)=>zzb asg body xs (zqr d vs ρ1)
 | .ok _=>.no
 | .exc c=>.exc c
 | .no=>.no
theorem OwnL.get {K:Frag}{Z:Addr->Prop}:∀ {xs:List PV}{ws:List V}{i:Nat}{w:V},OwnL K H Z xs 0 ws []->ws[i]?=some w->∃ x,xs[i]?=some x/\Own K H Z x 0 w []
 | [],ws,i,w,h,e=>by
  rw [OwnL] at h
  obtain ⟨rfl,_⟩:=h
  simp at e
 | x::xs,ws,i,w,h,e=>by
  rw [OwnL] at h
  obtain ⟨v,s,f1,f2,rfl,ef,_,o1,o2⟩:=h
  obtain ⟨rfl,rfl⟩:f1=[]/\f2=[]:=by simpa using ef.symm
  cases i with
  | zero=>simp at e;subst e;exact ⟨x,by simp,o1⟩
  | succ i=>obtain ⟨y,e1,e2⟩:=o2.get (i:=i) (w:=w) (by simpa using e);exact ⟨y,by simpa using e1,e2⟩
theorem Rep.seen {x:PV}{d:Nat}{v:V}{fp:List Addr} (rep:Rep M ρ σ H fps) (k:KD M H fps H' fps') (g:Agr M ρ ρ') (r':Rep M ρ' σ H' fps') (o:Own M.K H' (Zt M vs fps' fp) x d v fp) (t:Temp M vs H H' fps' fp)
  (hal:∀ i,M.al i=[]) (hv:∀ i∈vs,M.Ms i=false):∃ fps2,KS M H fps H' fps2/\Rep M (zqr d vs ρ') σ H' fps2/\Own M.K H' (Zf M fps2) x 0 v []:=by
 unfold zqr
 by_cases hd:d=om
 ·rw [if_pos hd]
  rw [hd] at o
  exact ⟨fps',k.ks,r',Own.freeze (λ _ z=>z) x om v fp (λ a ha=>t.ndj a ha) (Own.full x v fp o)⟩
 ·rw [if_neg hd]
  exact ⟨zko vs fps',k.ks.cool,r'.cool hal hv,Own.freeze (λ a h=>.inl (zkc h)) x d v fp (λ a ha z=>t.ndj a ha (zkc z).zf) o⟩
theorem qcj {g:TG}{asg:PV->Rho->Option Rho}{body:Fs}{f:Fx}{D:Ends} (hal:∀ i,M.al i=[]) (hv:∀ i∈vs,M.Ms i=false) (hg:GOk M [] is g asg) (hq:tS M (zzw f vs asg body) D σ H):tFor (iSeq M.K (tE M f vs)) g (tS M body) D σ H:=by
 obtain ⟨ρ,fps,rep,q⟩:=hq
 refine ⟨ρ,fps,rep,?_⟩
 unfold zzw at q
 cases ef:f ρ with
 | no=>rw [ef] at q;exact q
 | exc c=>rw [ef] at q;exact λ H' fps' k=>q _ H' fps' k.ks
 | ok p=>
  obtain ⟨x,d,ρ1⟩:=p
  rw [ef] at q
  intro v H1 fps1 f1 k1 g1 rep1 o1 t1
  obtain ⟨fps2,k2,r2,o2⟩:=Rep.seen rep k1 g1 rep1 o1 t1 hal hv
  cases x with
  | lst xs=>
   have o2':=o2
   rw [Own] at o2'
   obtain ⟨a,ws,rfl,⟨_,hr,_,ol⟩ | ⟨h,_⟩⟩:=o2'
   ·have sq:SqL M.K H1 a ws:=.inl (.inl hr.1)
    refine .inl ⟨a,rfl,.inl ⟨⟨ws,sq⟩,?_⟩⟩
    have one:∀ {H:Hp}{fps:Fps},Own M.K H (Zf M fps) (.lst xs) 0 (.ref a) []->∃ ws,SqL M.K H a ws/\OwnL M.K H (Zf M fps) xs 0 ws []:=λ o=>by
     rw [Own] at o
     obtain ⟨b,ws,e,⟨_,hr,_,ol⟩ | ⟨h,_⟩⟩:=o
     ·cases e;exact ⟨ws,.inl (.inl hr.1),ol⟩
     ·exact absurd rfl h
    refine zmj (Pq:=λ H fps=>Own M.K H (Zf M fps) (.lst xs) 0 (.ref a) []) (els:=xs) hg (λ r k o=>k.stay0 r o) (λ {H fps i} o h=>?_) (λ {H fps i} o h=>?_) (λ {ρ σ H fps i x H'} _ o h y=>?_) r2 o2 (RsOk.from k2 q)
    ·obtain ⟨ws,s,ol⟩:=one o
     exact ⟨ws,ws[i]'(by rw [ol.length];exact h),s,by simp⟩
    ·obtain ⟨ws,s,ol⟩:=one o
     exact ⟨ws,s,by rw [ol.length];exact h⟩
    ·obtain ⟨ws,s,ol⟩:=one o
     obtain ⟨e1,e2⟩:=y
     subst e1
     exact ⟨λ _ _ h=>h,ol.get (e2 ws s)⟩
   ·exact absurd rfl h
  | tup xs=>
   have o2':=o2
   rw [Own] at o2'
   obtain ⟨a,ws,rfl,hr,ol⟩:=o2'
   refine .inl ⟨a,rfl,.inr ⟨⟨ws,.inl (.inl hr)⟩,?_⟩⟩
   have one:∀ {H:Hp}{fps:Fps},Own M.K H (Zf M fps) (.tup xs) 0 (.ref a) []->∃ ws,SqT M.K H a ws/\OwnL M.K H (Zf M fps) xs 0 ws []:=λ o=>by
    rw [Own] at o
    obtain ⟨b,ws,e,hr,ol⟩:=o
    cases e;exact ⟨ws,.inl (.inl hr),ol⟩
   refine zmj (Pq:=λ H fps=>Own M.K H (Zf M fps) (.tup xs) 0 (.ref a) []) (els:=xs) hg (λ r k o=>k.stay0 r o) (λ {H fps i} o h=>?_) (λ {H fps i} o h=>?_) (λ {ρ σ H fps i x H'} _ o h y=>?_) r2 o2 (RsOk.from k2 q)
   ·obtain ⟨ws,s,ol⟩:=one o
    exact ⟨ws,ws[i]'(by rw [ol.length];exact h),s,by simp⟩
   ·obtain ⟨ws,s,ol⟩:=one o
    exact ⟨ws,s,by rw [ol.length];exact h⟩
   ·obtain ⟨ws,s,ol⟩:=one o
    obtain ⟨e1,e2⟩:=y
    subst e1
    exact ⟨λ _ _ h=>h,ol.get (e2 ws s)⟩
  | str z=>
   have o2':=o2
   rw [Own] at o2'
   obtain ⟨rfl,_⟩:=o2'
   dsimp only at q
   split at q
   ·rename_i ha
    refine .inr ⟨z,rfl,ha,?_⟩
    have hl:(zjk z).length=z.cps.size:=by unfold zjk;rw [ja4,jf0]
    refine zmj (Pq:=λ _ _=>True) (els:=zjk z) hg (λ _ _ _=>trivial) (λ {H fps i} _ h=>?_) (λ {H fps i} _ h=>?_) (λ {ρ σ H fps i x H'} _ _ h y=>?_) r2 trivial (RsOk.from k2 q)
    ·show i < z.cps.size
     omega
    ·show z.cps.size<=i
     omega
    ·obtain ⟨rfl,c,hc,rfl⟩:=y
     refine ⟨λ _ _ h=>h,.str ⟨#[c]⟩,?_,by rw [Own];exact ⟨rfl,rfl⟩⟩
     unfold zjk
     rw [jc6,jg2,hc]
     rfl
   ·exact q.elim
  | _=>exact q.elim
end
section
variable {M:Fm}{ρ ρ':Rho}{σ σ':St}{H H' H'':Hp}{fps fps' fps'':Fps}{vs vs':List Nat}
def Fm.comp (M:Fm) (D:Addr) (n:Nat) (vI:List Nat):Fm:={ M.plus [D] with W:=λ _ _ _=>False,al:=λ j=>if j < n then M.al j else vI }
theorem Rep.minus {fp:List Addr} (r:Rep (M.plus fp) ρ σ H fps):Rep M ρ σ H fps where
 own:=λ i x d e=>let ⟨v,h1,h2⟩:=r.own i x d e;⟨v,h1,h2.weak λ a h=>h.elim (λ h=>.inl (.inl h)) .inr⟩
 non:=r.non
 dj:=r.dj
 zo:=λ i a ha z=>r.zo i a ha (.inl z)
 fr:=r.fr
 zd:=λ a z=>r.zd a (.inl z)
 len:=r.len
 msf:=r.msf
 h0:=r.h0
 iov:=r.iov
theorem Rep.far (r:Rep M ρ σ H fps) {j:Nat} (h:ρ.length<=j):fps j=[]:=r.non j λ p e=>by
 rw [jh7.mpr h] at e;cases e
theorem Rep.ext {D:Addr}{k:Nat}{vI:List Nat} (r:Rep (M.plus [D]) ρ σ H fps):Rep (M.comp D ρ.length vI) (ρ++ja5 k none) (σ++ja5 k none) H fps where
 own:=λ i x d e=>by
  by_cases hi:i < ρ.length
  ·rw [jc3 hi] at e
   obtain ⟨v,h1,h2⟩:=r.own i x d e
   refine ⟨v,by rw [jc3 (by rw [<- r.len];exact hi)];exact h1,h2.weak λ a h=>?_⟩
   rcases h with h | ⟨j,nj,h⟩
   ·exact .inl h
   ·refine .inr ⟨j,?_,h⟩
    have:(M.comp D ρ.length vI).al i=M.al i:=if_pos hi
    rw [this] at nj;exact nj
  ·rw [jc9 (by omega),jd2] at e
   split at e <;> cases e
 non:=λ i h=>by
  by_cases hi:i < ρ.length
  ·exact r.non i λ p e=>h p (by rw [jc3 hi];exact e)
  ·exact r.far (by omega)
 dj:=r.dj
 zo:=r.zo
 fr:=r.fr
 zd:=r.zd
 len:=by simp [r.len]
 msf:=λ i x d hm e=>by
  by_cases hi:i < ρ.length
  ·rw [jc3 hi] at e;exact r.msf i x d hm e
  ·rw [jc9 (by omega),jd2] at e
   split at e <;> cases e
 h0:=r.h0
 iov:=⟨λ v hv=>by
  have h:=r.iov.1 v hv
  refine ⟨?_,h.2⟩
  have:0 < σ.length:=(ja7.mp h.1).1
  rw [jc3 this];exact h.1,λ p hp=>by
  have h:=r.iov.2 p hp
  rw [jc3 (ja7.mp h).1];exact h⟩
def cut (n:Nat) (fps:Fps):Fps:=λ j=>if j < n then fps j else []
theorem zzr {n i:Nat}{a:Addr} (h:a∈cut n fps i):a∈fps i/\i < n:=by
 unfold cut at h
 split at h
 ·rename_i hi;exact ⟨h,hi⟩
 ·cases h
theorem Rep.take {D:Addr}{n:Nat}{vI:List Nat} (r:Rep (M.comp D n vI) ρ σ H fps) (hσ:∀ i,i < n->σ[i]?=σ'[i]?) (hl:σ'.length=n) (hn:n<=ρ.length) (hio:(M.io≠none->0 < n)/\∀ p∈M.pn,p.1 < n):Rep (M.plus [D]) (ρ.take n) σ' H (cut n fps) where
 own:=λ i x d e=>by
  have hi:i < n:=by
   have:=(ja7.mp e).1
   rw [jd1] at this;(clear hn hl;omega)
  rw [jf5 hi] at e
  obtain ⟨v,h1,h2⟩:=r.own i x d e
  refine ⟨v,by rw [<- hσ i hi];exact h1,?_⟩
  have:cut n fps i=fps i:=if_pos hi
  rw [this]
  refine h2.weak λ a h=>?_
  rcases h with h | ⟨j,nj,h⟩
  ·exact .inl h
  ·refine .inr ⟨j,?_,(zzr h).1⟩
   have:(M.comp D n vI).al i=M.al i:=if_pos hi
   rw [this];exact nj
 non:=λ i h=>by
  unfold cut
  split
  ·rename_i hi
   exact r.non i λ p e=>h p (by rw [jf5 hi];exact e)
  ·rfl
 dj:=λ i j hij a ha hb=>r.dj i j hij a (zzr ha).1 (zzr hb).1
 zo:=λ i a ha=>r.zo i a (zzr ha).1
 fr:=λ i hi a ha=>r.fr i hi a (zzr ha).1
 zd:=r.zd
 len:=by rw [jd1,hl];omega
 msf:=λ i x d hm e=>by
  have hi:i < n:=by
   have:=(ja7.mp e).1
   rw [jd1] at this;(clear hn hl;omega)
  rw [jf5 hi] at e
  exact r.msf i x d hm e
 h0:=r.h0
 iov:=⟨λ v hv=>by
  have h:=r.iov.1 v hv
  refine ⟨?_,h.2⟩
  have h0:0 < n:=hio.1 (by
   have hv':M.io=some v:=hv
   rw [hv'];simp)
  rw [<- hσ 0 h0];exact h.1,λ p hp=>by rw [<- hσ p.1 (hio.2 p hp)];exact r.iov.2 p hp⟩
theorem Rep.touch {D:Addr}{us ws:List V} (r:Rep (M.plus [D]) ρ σ H fps) (hD:H D=some (.lst ws)):Rep (M.plus [D]) ρ σ (upd H D (.lst us)) fps:=by
 have zD:(M.plus [D]).Zo D:=.inr (by simp)
 have dm:∀ b,H b≠none->(upd H D (.lst us)) b≠none:=λ b h=>by
  by_cases eb:b=D
  ·rw [eb,zqi];simp
  ·rw [zqg eb];exact h
 exact ⟨λ i x d e=>let ⟨v,h1,h2⟩:=r.own i x d e;⟨v,h1,h2.at (.inl zD) ⟨.l ws,hD⟩ (λ z=>r.zo i D z zD) λ _ _ n=>n⟩,r.non,r.dj,r.zo,r.fr,λ a z=>dm a (r.zd a z),r.len,r.msf,λ a z=>dm a (r.h0 a z),r.iov⟩
theorem Tmps.snoc {K:Frag}{Z:Addr->Prop}{y:PV}{e:Nat}{w:V}{fe:List Addr} (hy:Own K H (λ a=>Z a\/a∈fe) y e w fe):∀ {xs:List (PV×Nat)}{ws:List V}{fp:List Addr},Tmps K H Z xs ws fp->(∀ a∈fp,a∉fe)->Tmps K H Z (xs++[(y,e)]) (ws++[w]) (fp++fe)
 | [],ws,fp,h,_=>by
  obtain ⟨rfl,rfl⟩:=h
  exact ⟨w,[],fe,[],rfl,by simp,λ _ _ z=>(nomatch z),hy,rfl,rfl⟩
 | (x,d)::xs,ws,fp,h,hd=>by
  obtain ⟨v,s,f1,f2,rfl,rfl,dj,h1,h2⟩:=h
  refine ⟨v,s++[w],f1,f2++fe,rfl,by rw [jh5],λ a ha hb=>?_,h1,h2.snoc hy λ a ha=>hd a (ja2 _ ha)⟩
  rcases jc4.mp hb with z | z
  ·exact dj a ha z
  ·exact hd a (ja9 _ ha) z
theorem Tmps.at {K:Frag}{Z:Addr->Prop}{a:Addr}{o:HO} (hZ:Z a) (hl:∃ o:MO,H a=some o.ho):∀ {xs:List (PV×Nat)}{ws:List V}{fp:List Addr},Tmps K H Z xs ws fp->a∉fp->Tmps K (upd H a o) Z xs ws fp
 | [],_,_,h,_=>h
 | (x,d)::xs,ws,fp,h,hf=>by
  obtain ⟨v,s,f1,f2,e1,rfl,dj,h1,h2⟩:=h
  exact ⟨v,s,f1,f2,e1,rfl,dj,h1.at (.inl hZ) hl (λ z=>hf (ja9 _ z)) λ _ _ n=>n,h2.at hZ hl λ z=>hf (ja2 _ z)⟩
theorem Tmps.lsts {K:Frag}{Z:Addr->Prop}:∀ {xs:List (PV×Nat)}{ws:List V}{fp:List Addr},Tmps K H Z xs ws fp->∀ a∈fp,∃ o:MO,H a=some o.ho
 | [],_,_,h,a,ha=>by rw [h.2] at ha;cases ha
 | (x,d)::xs,ws,fp,h,a,ha=>by
  obtain ⟨v,s,f1,f2,e1,rfl,dj,h1,h2⟩:=h
  rcases jc4.mp ha with z | z
  ·exact Own.lsts x d v f1 h1 a z
  ·exact h2.lsts a z
def Rz.bindN {α β:Type} (r:Rz α) (f:α->Rz β):Rz β:=match r with
 | .ok a=>f a
 | _=>.no
def zxl (k:Nat) (asg:PV->Rho->Option Rho) (test:Fb) (elt:Fx):List PV->Rho->List (PV×Nat)->Rz (List (PV×Nat)×Rho)
 | [],ρ,acc=>.ok (acc,ρ)
 | x::xs,ρ,acc=>match asg x (ρ++ja5 k none) with
  | none=>.no
  | some ρ1=>(test ρ1).bindN λ (b,ρ2)=>if b=true then (elt ρ2).bindN λ (y,e,ρ3)=>(if acc.length < va4 then zxl k asg test elt xs (ρ3.take ρ.length) (acc++[(y,e)]) else .no) else zxl k asg test elt xs (ρ2.take ρ.length) acc
theorem KD.seen {D:Addr}{x:PV}{v:V} (r:Rep M ρ σ H fps) (k:KD M H fps H' fps') (hD:H D=none) (hv:∀ i∈vs,M.Ms i=false) (o:Own M.K H (Zv M vs fps) x 0 v []):Own M.K H' (Zv (M.plus [D]) vs fps') x 0 v []:=by
 refine Own.move k.keep ?_ ?_ x 0 v [] (λ _ z=>nomatch z) o
 ·rintro a ⟨i,hi,ha⟩
  exact ⟨.inr ⟨i,λ z=>(by rw [hv i z] at hi;cases hi),ha⟩,r.lsts ha⟩
 ·intro a hd nz z
  rcases z with (z | z) | ⟨i,ni,hx⟩
  ·exact nz (.inl z)
  ·rw [jb6.mp z] at hd;exact hd hD
  ·rcases k.sub i a hx with z | z
   ·exact nz (.inr ⟨i,ni,z⟩)
   ·exact hd z
theorem zkr {g:TG}{is vI vE vo:List Nat}{asg:PV->Rho->Option Rho}{test:Fb}{elt:Fx}{k:Nat}{J:It}{els:List PV}{Q:VK}{n:Nat}{P:Fm->Prop}
  (hP:∀ D,P (M.comp D n vI)) (hn:n=ρ.length) (hal:∀ i,∀ j∈M.al i,M.Ms j=false) (hvI:∀ i∈vI,M.Ms i=false) (hvE:∀ i∈vE,M.Ms i=false) (his:∀ i∈is,n<=i) (hg:∀ D,GOk (M.comp D n vI) vI is g asg) (hvo:∀ i,i∈vE->i < n->i∈vo) (hvo2:∀ i∈vo,M.Ms i=false)
  (rep:Rep M ρ σ H fps)
  (hgo:∀ {D H' fps' i},H D=none->KD M H fps H' fps'->i < els.length->J.go i H') (hst:∀ {D H' fps' i},H D=none->KD M H fps H' fps'->els.length<=i->J.stop i H')
  (hy:∀ {D H' fps' i x H''},H D=none->KD M H fps H' fps'->i < els.length->J.yld i H' x H''->(∀ a o,H' a=some o->H'' a=some o)/\∃ z,els[i]?=some z/\Own M.K H'' (Zv (M.plus [D]) vI fps') z 0 x [])
  (q:match zxl k asg test elt els ρ [] with
   | .ok (acc,ρ')=>∀ D ws H' fps' fpl,KD M H fps H' fps'->Agr M ρ ρ'->Rep (M.plus [D]) ρ' σ H' fps'->H D=none->H' D=some (.lst ws)->Tmps M.K H' (Zv (M.plus [D]) vo fps') acc ws fpl->(∀ a∈fpl,H a=none/\¬ Zf (M.plus [D]) fps' a)->Q (.ref D) H'
   | _=>False):
  ∀ D,H D=none->∃ W:Nat->Nat->List V->Hp->Prop,(∃ m,W 0 m [] (upd H D (.lst [])))/\∀ i m ys H1,W i m ys H1->H1 D=some (.lst ys) /\
   ((J.stop i H1/\Q (.ref D) H1)\/(J.go i H1/\∀ x H',J.yld i H1 x H'->g x (σ++ja5 k none) H' λ σ2 H2=>∃ M',P M'/\tT M' test σ2 H2 λ b H3=>if b=true then ∃ M',P M'/\tE M' elt vE σ2 H3 λ y H4=>H4 D=some (.lst ys)/\ys.length < va4/\∃ m',m' < m/\W (i + 1) m' (ys++[y]) (upd H4 D (.lst (ys++[y]))) else ∃ m',m' < m/\W (i + 1) m' ys H3)):=by
 intro D hD
 subst hn
 let W:Nat->Nat->List V->Hp->Prop:=λ i m ys H1=>m=els.length - i/\∃ ρ1 fps1 acc fpl,Rep (M.plus [D]) ρ1 σ H1 fps1/\KD M H fps H1 fps1/\Agr M ρ ρ1/\Tmps M.K H1 (Zv (M.plus [D]) vo fps1) acc ys fpl/\(∀ a∈fpl,H a=none/\¬ Zf (M.plus [D]) fps1 a)/\H1 D=some (.lst ys)/\zxl k asg test elt (els.drop i) ρ1 acc=zxl k asg test elt els ρ []
 have k0:KD M H fps (upd H D (.lst [])) fps:=KD.grow λ a o h=>by rw [zqg (λ e=>by rw [e,hD] at h;cases h)];exact h
 have r0:Rep (M.plus [D]) ρ σ (upd H D (.lst [])) fps:=by
  refine rep.wide hal k0 Agr.refl (rep.grow λ a o h=>by rw [zqg (λ e=>by rw [e,hD] at h;cases h)];exact h) λ a ha=>?_
  rw [jb6.mp ha]
  exact ⟨hD,by rw [zqi];simp,rep.nz hD⟩
 refine ⟨W,⟨els.length,by simp,ρ,fps,[],[],r0,k0,Agr.refl,⟨rfl,rfl⟩,λ _ z=>(nomatch z),zqi,by simp⟩,?_⟩
 rintro i m ys H1 ⟨rfl,ρ1,fps1,acc,fpl,r1,k1,g1,tm,hf,h1D,ec⟩
 refine ⟨h1D,?_⟩
 have hlen:ρ1.length=ρ.length:=g1.2
 by_cases hi:i < els.length
 ·right
  refine ⟨hgo hD k1 hi,λ x H' hyl=>?_⟩
  obtain ⟨kx,z,ez,oz⟩:=hy hD k1 hi hyl
  have tm:=KD.stays (M:=M.plus [D]) (KD.grow kx) r1 hvo2 tm λ a ha=>(hf a ha).2
  have r1:=r1.grow kx
  have k1:=k1.trans (KD.grow (M:=M) (fps:=fps1) kx)
  have h1D:=kx D _ h1D
  have ed:els.drop i=z::els.drop (i + 1):=by
   obtain ⟨h1,h2⟩:=ja7.mp ez
   rw [<- h2];exact je4 h1
  rw [ed] at ec
  have good:∃ a r,zxl k asg test elt els ρ []=.ok (a,r):=by
   cases e:zxl k asg test elt els ρ [] with
   | ok p=>exact ⟨p.1,p.2,rfl⟩
   | exc c=>rw [e] at q;exact q.elim
   | no=>rw [e] at q;exact q.elim
  obtain ⟨accF,ρF,eF⟩:=good
  rw [eF] at ec
  unfold zxl at ec
  cases ea:asg z (ρ1++ja5 k none) with
  | none=>rw [ea] at ec;cases ec
  | some ρ2=>
   rw [ea] at ec
   dsimp only at ec
   have rx:Rep (M.comp D ρ.length vI) (ρ1++ja5 k none) (σ++ja5 k none) H' fps1:=by rw [<- hlen];exact r1.ext
   refine hg D z x _ _ H' fps1 ρ2 _ rx oz ea λ σ2 fps2 s2 a2 l2 r2=>⟨_,hP D,ρ2,fps2,r2,?_⟩
   have hl2:ρ2.length=ρ.length + k:=by rw [l2,ja8,jd5,hlen]
   have same2:∀ j,j < ρ.length->ρ2[j]?=ρ1[j]?/\fps2 j=fps1 j/\σ2[j]?=σ[j]?:=λ j hj=>by
    obtain ⟨z1,z2,z3⟩:=a2 j λ z=>absurd (his j z) (by (clear hl2 l2 hi hlen;omega))
    rw [jc3 (by (clear hl2 l2 hi;omega))] at z1
    rw [jc3 (by rw [<- rep.len];(clear hl2 l2 hi hlen;omega))] at z3
    exact ⟨z1,z2,z3⟩
   have kd2:KD (M.comp D ρ.length vI) H' fps1 H' fps2->True:=λ _=>trivial
   cases et:test ρ2 with
   | exc c=>rw [et] at ec;cases ec
   | no=>rw [et] at ec;cases ec
   | ok p=>
    obtain ⟨b,ρ3⟩:=p
    rw [et] at ec
    intro H3 fps3 k3 g3 r3
    dsimp only [Rz.bindN] at ec
    have far:∀ {ρ4:Rho}{H4:Hp}{fps4:Fps},KD (M.comp D ρ.length vI) H' fps2 H4 fps4->Agr (M.comp D ρ.length vI) ρ2 ρ4->Rep (M.comp D ρ.length vI) ρ4 σ2 H4 fps4 ->
      KD M H fps H4 (cut ρ.length fps4)/\KD M H' fps1 H4 (cut ρ.length fps4)/\Agr M ρ (ρ4.take ρ.length)/\Rep (M.plus [D]) (ρ4.take ρ.length) σ H4 (cut ρ.length fps4)/\H4 D=some (.lst ys):=λ {ρ4 H4 fps4} k4 g4 r4=>by
     have kk:KD M H' fps1 H4 (cut ρ.length fps4):=by
      refine ⟨λ a o ha hn=>k4.keep a o ha λ ⟨j,hj,hx⟩=>hn ⟨j,hj,s2 j a hx⟩,k4.dom,λ j a ha=>?_,λ j hj=>?_⟩
      ·rcases k4.sub j a (zzr ha).1 with z | z
       ·exact .inl (s2 j a z)
       ·exact .inr z
      ·unfold cut
       by_cases hjl:j < ρ.length
       ·rw [if_pos hjl,k4.same j hj];exact (same2 j hjl).2.1
       ·rw [if_neg hjl];exact (r1.far (by (clear hl2 l2 hi;omega))).symm
     refine ⟨k1.trans kk,kk,?_,r4.take (σ':=σ) (λ j hj=>(same2 j hj).2.2) rep.len.symm (by rw [g4.2,hl2];(clear hl2 l2 hi hlen;omega)) ⟨λ hio=>?_,λ p hp=>by rw [rep.len];exact (ja7.mp (rep.iov.2 p hp)).1⟩,?_⟩
     ·refine ⟨λ j hj=>?_,by rw [jd1,g4.2,hl2];(clear hl2 l2 hi hlen;omega)⟩
      by_cases hjl:j < ρ.length
      ·rw [jf5 hjl,g4.1 j hj,(same2 j hjl).1];exact g1.1 j hj
      ·rw [jh7.mpr (by rw [jd1];(clear hl2 l2 hi hlen;omega)),jh7.mpr (by (clear hl2 l2 hi hlen;omega))]
     ·cases e:M.io with
      | none=>exact absurd e hio
      | some v=>
       have:=(ja7.mp (rep.iov.1 v e).1).1
       rw [rep.len];exact this
     ·exact k4.keep D _ h1D λ ⟨j,_,hx⟩=>r2.zo j D hx (.inr (by simp))
    have notZ:∀ {H4:Hp}{fps4:Fps},KD M H' fps1 H4 fps4->∀ {a},a∈fpl->¬ Zf (M.plus [D]) fps4 a:=λ {H4 fps4} k4 a ha z=>by
     rcases z with z | ⟨j,z⟩
     ·exact (hf a ha).2 (.inl z)
     ·rcases k4.sub j a z with z | z
      ·exact (hf a ha).2 (.inr ⟨j,z⟩)
      ·obtain ⟨xs,e⟩:=tm.lsts a ha
       rw [z] at e;cases e
    cases b with
    | false=>
     rw [if_neg jb8] at ec ⊢
     obtain ⟨f1,f2,f3,f4,f5⟩:=far k3 g3 r3
     refine ⟨els.length - (i + 1),by (clear hl2 l2 hlen;omega),rfl,ρ3.take ρ.length,cut ρ.length fps3,acc,fpl,f4,f1,f3,?_,λ a ha=>⟨(hf a ha).1,λ z=>?_⟩,f5,by rw [eF,<- hlen];exact ec⟩
     ·exact KD.stays (M:=M.plus [D]) (σ:=σ) (ρ:=ρ1) ⟨f2.keep,f2.dom,f2.sub,f2.same⟩ r1 hvo2 tm λ a ha=>(hf a ha).2
     ·exact notZ f2 ha z
    | true=>
     rw [if_pos rfl] at ec ⊢
     refine ⟨_,hP D,ρ3,fps3,r3,?_⟩
     cases ee:elt ρ3 with
     | exc c=>rw [ee] at ec;cases ec
     | no=>rw [ee] at ec;cases ec
     | ok p=>
      obtain ⟨y,e,ρ4⟩:=p
      rw [ee] at ec
      intro w H4 fps4 fe k4 g4 r4 o4 t4
      dsimp only at ec
      by_cases hz:acc.length < va4
      ·rw [if_pos hz] at ec
       obtain ⟨f1,f2,f3,f4,f5⟩:=far (k3.trans k4) (g3.trans g4) r4
       have tm4:Tmps M.K H4 (Zv (M.plus [D]) vo (cut ρ.length fps4)) acc ys fpl:=KD.stays (M:=M.plus [D]) (σ:=σ) (ρ:=ρ1) ⟨f2.keep,f2.dom,f2.sub,f2.same⟩ r1 hvo2 tm λ a ha=>(hf a ha).2
       have zD:Zv (M.plus [D]) vo (cut ρ.length fps4) D:=.inl (.inr (by simp))
       have hDe:D∉fe:=λ z=>t4.ndj D z (.inl (.inr (by simp)))
       have hDl:D∉fpl:=λ z=>(hf D z).2 (.inl (.inr (by simp)))
       have oy:Own M.K H4 (λ a=>Zv (M.plus [D]) vo (cut ρ.length fps4) a\/a∈fe) y e w fe:=o4.weak λ a h=>h.elim (λ h=>.inl (h.elim .inl λ ⟨j,nj,hx⟩=>.inr ⟨j,λ z=>nj (hvo j z (zzr hx).2),(zzr hx).1⟩)) .inr
       have back3:∀ a,H3 a=none->H' a=none:=λ a e=>by
        cases e':H' a with
        | none=>rfl
        | some o=>exact absurd e (k3.dom a (by rw [e'];simp))
       have back1:∀ a,H' a=none->H a=none:=λ a e=>by
        cases e':H a with
        | none=>rfl
        | some o=>exact absurd e (k1.dom a (by rw [e'];simp))
       have kt:KD M H fps (upd H4 D (.lst (ys++[w]))) (cut ρ.length fps4):=⟨λ a o ha hn=>by rw [zqg (λ e=>by rw [e,hD] at ha;cases ha)];exact f1.keep a o ha hn,λ a ha=>by
        by_cases eb:a=D
        ·rw [eb,zqi];simp
        ·rw [zqg eb];exact f1.dom a ha,f1.sub,f1.same⟩
       refine ⟨f5,by rw [tm.length];exact hz,els.length - (i + 1),by (clear hz hl2 l2 hlen;omega),rfl,ρ4.take ρ.length,cut ρ.length fps4,acc++[(y,e)],fpl++fe,f4.touch f5,kt,f3,?_,λ a ha=>?_,zqi,by rw [eF,<- hlen];exact ec⟩
       ·exact (tm4.at zD ⟨.l ys,f5⟩ hDl).snoc (oy.at (.inl zD) ⟨.l ys,f5⟩ hDe λ _ _ n=>n) λ a ha hb=>by
         obtain ⟨xs,e⟩:=tm.lsts a ha
         rw [back3 a (t4.new a hb)] at e;cases e
       ·rcases jc4.mp ha with z | z
        ·exact ⟨(hf a z).1,notZ f2 z⟩
        ·refine ⟨back1 a (back3 a (t4.new a z)),λ hz=>t4.ndj a z ?_⟩
         rcases hz with hz | ⟨j,hz⟩
         ·exact .inl hz
         ·exact .inr ⟨j,(zzr hz).1⟩
      ·rw [if_neg hz] at ec;cases ec
 ·left
  have ed:els.drop i=[]:=jf8 (by omega)
  rw [ed] at ec
  rw [<- ec] at q
  unfold zxl at q
  exact ⟨hst hD k1 (by omega),q D ys H1 fps1 fpl k1 g1 r1 hD h1D tm hf⟩
end
section
variable {M:Fm}{ρ ρ':Rho}{σ σ':St}{H H' H'':Hp}{fps fps' fps'':Fps}{vs vs':List Nat}
def zym:List (PV×Nat)->Bool
 | []=>true
 | p::r=>(p.2 == om) && zym r
theorem zku:∀ {xs:List (PV×Nat)},zym xs=true->∀ p∈xs,p.2=om
 | [],_,_,h=>nomatch h
 | p::r,h,q,hq=>by
  unfold zym at h
  rw [jb0] at h
  rcases jb3.mp hq with e | e
  ·rw [e];exact eq_of_beq h.1
  ·exact zku h.2 q e
def zva (acc:List (PV×Nat)) (ρ:Rho):Rz (PV×Nat×Rho):=.ok (.lst (acc.map (·.1)),if zym acc then om else 1,ρ)
def zql (f:Fx) (k:Nat) (asg:PV->Rho->Option Rho) (test:Fb) (elt:Fx):Fx:=λ ρ=>match f ρ with
 | .ok (.lst xs,_,ρ1)=>(zxl k asg test elt xs ρ1 []).bindN λ (acc,ρ2)=>zva acc ρ2
 | .ok (.tup xs,_,ρ1)=>(zxl k asg test elt xs ρ1 []).bindN λ (acc,ρ2)=>zva acc ρ2
 | .ok (.str z,_,ρ1)=>if qbk z=true then (zxl k asg test elt (zjk z) ρ1 []).bindN λ (acc,ρ2)=>zva acc ρ2 else .no
 | .ok _=>.no
 | .exc c=>.exc c
 | .no=>.no
def zxv (en:List (PV×Nat)->Option (Int×Int)) (fa:Fa) (k:Nat) (asg:PV->Rho->Option Rho) (test:Fb) (elt:Fx):Fx:=λ ρ=>match fa ρ with
 | .ok (xs,ρ1)=>(match en xs with
  | some (i,j)=>(zxl k asg test elt (zzt i (j - i).toNat) ρ1 []).bindN λ (acc,ρ2)=>zva acc ρ2
  | none=>.no)
 | .exc c=>.exc c
 | .no=>.no
theorem zmq {D:Addr}{acc:List (PV×Nat)}{ws:List V}{fpl:List Addr}{vo:List Nat}{Q:VK}{H0:Hp}{fps0:Fps}{ρ0:Rho}
  (rep0:Rep M ρ σ H fps) (k0:KD M H0 fps0 H fps) (g0:Agr M ρ0 ρ) (q:∀ v H' fps' fp,KD M H0 fps0 H' fps'->Agr M ρ0 ρ'->Rep M ρ' σ H' fps'->Own M.K H' (Zt M vo fps' fp) (.lst (acc.map (·.1))) (if zym acc then om else 1) v fp->Temp M vo H0 H' fps' fp->Q v H')
  (k:KD M H fps H' fps') (g:Agr M ρ ρ') (r:Rep (M.plus [D]) ρ' σ H' fps') (hD:H D=none) (hD':H' D=some (.lst ws)) (tm:Tmps M.K H' (Zv (M.plus [D]) vo fps') acc ws fpl) (hf:∀ a∈fpl,H a=none/\¬ Zf (M.plus [D]) fps' a):Q (.ref D) H':=by
 have back:∀ a,H a=none->H0 a=none:=λ a e=>by
  cases e':H0 a with
  | none=>rfl
  | some o=>exact absurd e (k0.dom a (by rw [e'];simp))
 have nD:¬ Zf M fps' D:=λ z=>by
  rcases z with z | ⟨j,z⟩
  ·exact rep0.zd D z hD
  ·exact r.zo j D z (.inr (by simp))
 have hDl:D∉fpl:=λ z=>(hf D z).2 (.inl (.inr (by simp)))
 have zt:∀ a,Zt M vo fps' [D] a->Zv (M.plus [D]) vo fps' a:=λ a h=>h.elim (λ h=>h.elim (λ h=>.inl (.inl h)) .inr) λ h=>.inl (.inr h)
 cases ho:zym acc with
 | true=>
  rw [ho] at q
  refine q (.ref D) H' fps' (D::fpl) (k0.trans k) (g0.trans g) r.minus ?_ ⟨λ a ha=>?_,λ a ha=>?_⟩
  ·rw [Own]
   exact ⟨D,ws,rfl,.inr ⟨(by decide),fpl,hD',rfl,hDl,OwnL.full _ ws fpl (tm.all (zku ho))⟩⟩
  ·rcases jb3.mp ha with z | z
   ·rw [z];exact back D hD
   ·exact back a (hf a z).1
  ·rcases jb3.mp ha with z | z
   ·rw [z];exact nD
   ·exact λ y=>(hf a z).2 (y.elim (λ y=>.inl (.inl y)) .inr)
 | false=>
  rw [ho] at q
  refine q (.ref D) H' fps' [D] (k0.trans k) (g0.trans g) r.minus ?_ ⟨λ a ha=>?_,λ a ha=>?_⟩
  ·show Own M.K H' (Zt M vo fps' [D]) (.lst (acc.map (·.1))) 1 (.ref D) [D]
   rw [Own]
   refine ⟨D,ws,rfl,.inr ⟨(by decide),[],hD',rfl,(λ z=>nomatch z),?_⟩⟩
   rw [qaq]
   exact (tm.cold λ a ha z=>(hf a ha).2 z.zf).weak zt
  ·rw [jb6.mp ha];exact back D hD
  ·rw [jb6.mp ha];exact nD
theorem qfu {g:TG}{is vI vE vo:List Nat}{asg:PV->Rho->Option Rho}{test:Fb}{elt f:Fx}{k n:Nat}{Q:VK}{P:Fm->Prop}
  (hn:σ.length=n) (hP:∀ D,P (M.comp D n vI)) (hal:∀ i,∀ j∈M.al i,M.Ms j=false) (hvI:∀ i∈vI,M.Ms i=false) (hvE:∀ i∈vE,M.Ms i=false) (his:∀ i∈is,n<=i) (hg:∀ D,GOk (M.comp D n vI) vI is g asg)
  (hvo:∀ i,i∈vE->i < n->i∈vo) (hvo2:∀ i∈vo,M.Ms i=false) (hq:tE M (zql f k asg test elt) vo σ H Q):
  zha k (iSeq M.K (tE M f vI)) g (λ σ H Q=>∃ M',P M'/\tT M' test σ H Q) (λ σ H Q=>∃ M',P M'/\tE M' elt vE σ H Q) σ H Q:=by
 obtain ⟨ρ,fps,rep,q⟩:=hq
 refine ⟨ρ,fps,rep,?_⟩
 unfold zql at q
 cases ef:f ρ with
 | no=>rw [ef] at q;exact q
 | exc c=>rw [ef] at q;exact q
 | ok p=>
  obtain ⟨x,d,ρ1⟩:=p
  rw [ef] at q
  intro v H1 fps1 f1 k1 g1 rep1 o1 t1
  have o0:Own M.K H1 (Zv M vI fps1) x 0 v []:=Own.freeze (λ _ z=>.inl z) x d v f1 (λ a ha z=>t1.ndj a ha z.zf) o1
  have hl:n=ρ1.length:=by rw [rep1.len];exact hn.symm
  have fin:∀ (els:List PV),(match (zxl k asg test elt els ρ1 []).bindN λ (acc,ρ2)=>zva acc ρ2 with
    | .ok (x,d,ρ')=>∀ v H' fps' fp,KD M H fps H' fps'->Agr M ρ ρ'->Rep M ρ' σ H' fps'->Own M.K H' (Zt M vo fps' fp) x d v fp->Temp M vo H H' fps' fp->Q v H'
    | .exc c=>∀ H' fps',KD M H fps H' fps'->M.W σ c H'
    | .no=>False)->(match zxl k asg test elt els ρ1 [] with
    | .ok (acc,ρ')=>∀ D ws H' fps' fpl,KD M H1 fps1 H' fps'->Agr M ρ1 ρ'->Rep (M.plus [D]) ρ' σ H' fps'->H1 D=none->H' D=some (.lst ws)->Tmps M.K H' (Zv (M.plus [D]) vo fps') acc ws fpl->(∀ a∈fpl,H1 a=none/\¬ Zf (M.plus [D]) fps' a)->Q (.ref D) H'
    | _=>False):=λ els q=>by
   cases ec:zxl k asg test elt els ρ1 [] with
   | no=>rw [ec] at q;exact q.elim
   | exc c=>rw [ec] at q;exact q.elim
   | ok p=>
    obtain ⟨acc,ρ2⟩:=p
    rw [ec] at q
    exact λ D ws H' fps' fpl k g r hD hD' tm hf=>zmq rep1 k1 g1 q k g r hD hD' tm hf
  cases x with
  | lst xs=>
   have one:∀ {Z:Addr->Prop}{H:Hp},Own M.K H Z (.lst xs) 0 v []->∃ a ws,v=.ref a/\SqL M.K H a ws/\OwnL M.K H Z xs 0 ws []:=λ o=>by
    rw [Own] at o
    obtain ⟨b,ws,e,⟨_,hr,_,ol⟩ | ⟨h,_⟩⟩:=o
    ·exact ⟨b,ws,e,.inl (.inl hr.1),ol⟩
    ·exact absurd rfl h
   obtain ⟨a,ws,rfl,sq,ol⟩:=one o0
   refine .inl ⟨a,rfl,.inl ⟨⟨ws,sq⟩,?_⟩⟩
   refine zkr (els:=xs) hP hl hal hvI hvE his hg hvo hvo2 rep1 (λ {D H' fps' i} hD k' h=>?_) (λ {D H' fps' i} hD k' h=>?_) (λ {D H' fps' i x H''} hD k' h y=>?_) (fin xs q)
   ·obtain ⟨a',ws,e,s,ol⟩:=one (KD.seen rep1 k' hD hvI o0)
    cases e
    exact ⟨ws,ws[i]'(by rw [ol.length];exact h),s,by simp⟩
   ·obtain ⟨a',ws,e,s,ol⟩:=one (KD.seen rep1 k' hD hvI o0)
    cases e
    exact ⟨ws,s,by rw [ol.length];exact h⟩
   ·obtain ⟨a',ws,e,s,ol⟩:=one (KD.seen rep1 k' hD hvI o0)
    cases e
    obtain ⟨e1,e2⟩:=y
    subst e1
    exact ⟨λ _ _ h=>h,ol.get (e2 ws s)⟩
  | tup xs=>
   have one:∀ {Z:Addr->Prop}{H:Hp},Own M.K H Z (.tup xs) 0 v []->∃ a ws,v=.ref a/\SqT M.K H a ws/\OwnL M.K H Z xs 0 ws []:=λ o=>by
    rw [Own] at o
    obtain ⟨a,ws,e,hr,ol⟩:=o
    exact ⟨a,ws,e,.inl (.inl hr),ol⟩
   obtain ⟨a,ws,rfl,sq,ol⟩:=one o0
   refine .inl ⟨a,rfl,.inr ⟨⟨ws,sq⟩,?_⟩⟩
   refine zkr (els:=xs) hP hl hal hvI hvE his hg hvo hvo2 rep1 (λ {D H' fps' i} hD k' h=>?_) (λ {D H' fps' i} hD k' h=>?_) (λ {D H' fps' i x H''} hD k' h y=>?_) (fin xs q)
   ·obtain ⟨a',ws,e,s,ol⟩:=one (KD.seen rep1 k' hD hvI o0)
    cases e
    exact ⟨ws,ws[i]'(by rw [ol.length];exact h),s,by simp⟩
   ·obtain ⟨a',ws,e,s,ol⟩:=one (KD.seen rep1 k' hD hvI o0)
    cases e
    exact ⟨ws,s,by rw [ol.length];exact h⟩
   ·obtain ⟨a',ws,e,s,ol⟩:=one (KD.seen rep1 k' hD hvI o0)
    cases e
    obtain ⟨e1,e2⟩:=y
    subst e1
    exact ⟨λ _ _ h=>h,ol.get (e2 ws s)⟩
  | str z=>
   have o0':=o0
   rw [Own] at o0'
   obtain ⟨rfl,_⟩:=o0'
   dsimp only at q
   by_cases ha:qbk z=true
   ·rw [if_pos ha] at q
    refine .inr ⟨z,rfl,ha,?_⟩
    have hl':(zjk z).length=z.cps.size:=by unfold zjk;rw [ja4,jf0]
    refine zkr (els:=zjk z) hP hl hal hvI hvE his hg hvo hvo2 rep1 (λ {D H' fps' i} hD k' h=>?_) (λ {D H' fps' i} hD k' h=>?_) (λ {D H' fps' i x H''} hD k' h y=>?_) (fin (zjk z) q)
    ·show i < z.cps.size
     (clear hl hn;omega)
    ·show z.cps.size<=i
     (clear hl hn;omega)
    ·obtain ⟨rfl,c,hc,rfl⟩:=y
     refine ⟨λ _ _ h=>h,.str ⟨#[c]⟩,?_,by rw [Own];exact ⟨rfl,rfl⟩⟩
     unfold zjk
     rw [jc6,jg2,hc]
     rfl
   ·rw [if_neg ha] at q
    exact q.elim
  | _=>exact q.elim
theorem zpn {g:TG}{is vI vE vo:List Nat}{asg:PV->Rho->Option Rho}{test:Fb}{elt:Fx}{k n:Nat}{Q:VK}{P:Fm->Prop}{lo:Int}{m:Nat}{H0:Hp}{fps0:Fps}{ρ0:Rho}
  (hn:σ.length=n) (hP:∀ D,P (M.comp D n vI)) (hal:∀ i,∀ j∈M.al i,M.Ms j=false) (hvI:∀ i∈vI,M.Ms i=false) (hvE:∀ i∈vE,M.Ms i=false) (his:∀ i∈is,n<=i) (hg:∀ D,GOk (M.comp D n vI) vI is g asg)
  (hvo:∀ i,i∈vE->i < n->i∈vo) (hvo2:∀ i∈vo,M.Ms i=false) (k0:KD M H0 fps0 H fps) (g0:Agr M ρ0 ρ) (rep:Rep M ρ σ H fps)
  (q:match (zxl k asg test elt (zzt lo m) ρ []).bindN λ (acc,ρ2)=>zva acc ρ2 with
    | .ok (x,d,ρ')=>∀ v H' fps' fp,KD M H0 fps0 H' fps'->Agr M ρ0 ρ'->Rep M ρ' σ H' fps'->Own M.K H' (Zt M vo fps' fp) x d v fp->Temp M vo H0 H' fps' fp->Q v H'
    | .exc c=>∀ H' fps',KD M H0 fps0 H' fps'->M.W σ c H'
    | .no=>False):
  ∀ D,H D=none->∃ W:Nat->Nat->List V->Hp->Prop,(∃ m,W 0 m [] (upd H D (.lst [])))/\∀ i j ys H1,W i j ys H1->H1 D=some (.lst ys) /\
   (((Itr lo m).stop i H1/\Q (.ref D) H1)\/((Itr lo m).go i H1/\∀ x H',(Itr lo m).yld i H1 x H'->g x (σ++ja5 k none) H' λ σ2 H2=>∃ M',P M'/\tT M' test σ2 H2 λ b H3=>if b=true then ∃ M',P M'/\tE M' elt vE σ2 H3 λ y H4=>H4 D=some (.lst ys)/\ys.length < va4/\∃ m',m' < j/\W (i + 1) m' (ys++[y]) (upd H4 D (.lst (ys++[y]))) else ∃ m',m' < j/\W (i + 1) m' ys H3)):=by
 have hl:n=ρ.length:=by rw [rep.len];exact hn.symm
 refine zkr (els:=zzt lo m) hP hl hal hvI hvE his hg hvo hvo2 rep (λ {D H' fps' i} hD k' h=>?_) (λ {D H' fps' i} hD k' h=>?_) (λ {D H' fps' i x H''} hD k' h y=>?_) ?_
 ·rw [zwd] at h;exact h
 ·rw [zwd] at h;exact h
 ·rw [zwd] at h
  obtain ⟨e1,e2⟩:=y
  subst e1
  exact ⟨λ _ _ h=>h,.int (lo + i),by simp [zzt,h],by rw [e2,Own];exact ⟨rfl,rfl⟩⟩
 ·cases ec:zxl k asg test elt (zzt lo m) ρ [] with
  | no=>rw [ec] at q;exact q.elim
  | exc c=>rw [ec] at q;exact q.elim
  | ok p=>
   obtain ⟨acc,ρ2⟩:=p
   rw [ec] at q
   exact λ D ws H' fps' fpl k g r hD hD' tm hf=>zmq rep k0 g0 q k g r hD hD' tm hf
theorem qfw {g:TG}{is vI vE vo:List Nat}{asg:PV->Rho->Option Rho}{test:Fb}{elt:Fx}{fa:Fa}{k n:Nat}{Q:VK}{P:Fm->Prop}
  (hn:σ.length=n) (hP:∀ D,P (M.comp D n vI)) (hal:∀ i,∀ j∈M.al i,M.Ms j=false) (hvI:∀ i∈vI,M.Ms i=false) (hvE:∀ i∈vE,M.Ms i=false) (his:∀ i∈is,n<=i) (hg:∀ D,GOk (M.comp D n vI) vI is g asg)
  (hvo:∀ i,i∈vE->i < n->i∈vo) (hvo2:∀ i∈vo,M.Ms i=false) (hq:tE M (zxv zqx fa k asg test elt) vo σ H Q):
  zha k (qg0 (tL M fa vs)) g (λ σ H Q=>∃ M',P M'/\tT M' test σ H Q) (λ σ H Q=>∃ M',P M'/\tE M' elt vE σ H Q) σ H Q:=by
 obtain ⟨ρ,fps,rep,q⟩:=hq
 refine ⟨ρ,fps,rep,?_⟩
 unfold zxv at q
 cases ef:fa ρ with
 | no=>rw [ef] at q;exact q
 | exc c=>rw [ef] at q;exact q
 | ok p=>
  obtain ⟨xs,ρ1⟩:=p
  rw [ef] at q
  intro ws H1 fps1 f1 k1 g1 rep1 o1 t1
  dsimp only at q
  cases ee:zqx xs with
  | none=>rw [ee] at q;exact q.elim
  | some ij=>
   obtain ⟨i,j⟩:=ij
   rw [ee] at q
   unfold zqx at ee
   split at ee
   ·rename_i j' d
    split at ee
    ·rename_i hb
     cases ee
     obtain ⟨v,r,f1,f2,rfl,_,_,h1,h2⟩:=o1
     obtain ⟨rfl,_⟩:=h2
     rw [Own] at h1
     obtain ⟨rfl,_⟩:=h1
     refine ⟨j,rfl,hb.1,hb.2,?_⟩
     have e:(j - 0).toNat=j.toNat:=by (clear hb hn;omega)
     dsimp only at q
     rw [e] at q
     exact zpn hn hP hal hvI hvE his hg hvo hvo2 k1 g1 rep1 q
    ·cases ee
   ·cases ee
theorem qfv {g:TG}{is vI vE vo:List Nat}{asg:PV->Rho->Option Rho}{test:Fb}{elt:Fx}{fa:Fa}{k n:Nat}{Q:VK}{P:Fm->Prop}
  (hn:σ.length=n) (hP:∀ D,P (M.comp D n vI)) (hal:∀ i,∀ j∈M.al i,M.Ms j=false) (hvI:∀ i∈vI,M.Ms i=false) (hvE:∀ i∈vE,M.Ms i=false) (his:∀ i∈is,n<=i) (hg:∀ D,GOk (M.comp D n vI) vI is g asg)
  (hvo:∀ i,i∈vE->i < n->i∈vo) (hvo2:∀ i∈vo,M.Ms i=false) (hq:tE M (zxv zgi fa k asg test elt) vo σ H Q):
  zha k (qgz (tL M fa vs)) g (λ σ H Q=>∃ M',P M'/\tT M' test σ H Q) (λ σ H Q=>∃ M',P M'/\tE M' elt vE σ H Q) σ H Q:=by
 obtain ⟨ρ,fps,rep,q⟩:=hq
 refine ⟨ρ,fps,rep,?_⟩
 unfold zxv at q
 cases ef:fa ρ with
 | no=>rw [ef] at q;exact q
 | exc c=>rw [ef] at q;exact q
 | ok p=>
  obtain ⟨xs,ρ1⟩:=p
  rw [ef] at q
  intro ws H1 fps1 f1 k1 g1 rep1 o1 t1
  dsimp only at q
  cases ee:zgi xs with
  | none=>rw [ee] at q;exact q.elim
  | some ij=>
   obtain ⟨i,j⟩:=ij
   rw [ee] at q
   unfold zgi at ee
   split at ee
   ·rename_i i' d j' d'
    split at ee
    ·rename_i hb
     cases ee
     obtain ⟨v,r,f1,f2,rfl,_,_,h1,h2⟩:=o1
     obtain ⟨v2,r2,f3,f4,rfl,_,_,h3,h4⟩:=h2
     obtain ⟨rfl,_⟩:=h4
     rw [Own] at h1 h3
     obtain ⟨rfl,_⟩:=h1
     obtain ⟨rfl,_⟩:=h3
     exact ⟨i,j,rfl,hb,zpn hn hP hal hvI hvE his hg hvo hvo2 k1 g1 rep1 q⟩
    ·cases ee
   ·cases ee
end
def zbr (c:Fb) (b:Fs):Nat->Fs
 | 0,_=>.no
 | n + 1,ρ=>match c ρ with
  | .ok (true,ρ1)=>(match b ρ1 with
   | .nx ρ2=>zbr c b n ρ2
   | .ct ρ2=>zbr c b n ρ2
   | .bk ρ2=>.nx ρ2
   | .rt x d ρ2=>.rt x d ρ2
   | .exc e=>.exc e
   | .no=>.no)
  | .ok (false,ρ1)=>.nx ρ1
  | .exc e=>.exc e
  | .no=>.no
def qc2 (c:Fb) (b:Fs):Fs:=zbr c b 300
theorem qfs {M:Fm}{c:Fb}{b:Fs}{n:Nat}{D:Ends}{σ:St}{H:Hp} (hq:tS M (zbr c b n) D σ H):qhx (tT M c) (tS M b) D σ H:=by
 refine ⟨λ m σ H=>tS M (zbr c b m) D σ H,⟨n,hq⟩,?_⟩
 rintro m σ H ⟨ρ,fps,rep,q⟩
 cases m with
 | zero=>exact q.elim
 | succ m=>
  unfold zbr at q
  refine ⟨ρ,fps,rep,?_⟩
  cases ec:c ρ with
  | no=>rw [ec] at q;exact q
  | exc x=>rw [ec] at q;exact λ H' fps' k=>q _ H' fps' k.ks
  | ok p=>
   obtain ⟨bb,ρ1⟩:=p
   rw [ec] at q
   intro H1 fps1 k1 g1 rep1
   cases bb with
   | false=>
    rw [if_neg jb8]
    exact q σ H1 fps1 k1.ks rep1
   | true=>
    rw [if_pos rfl]
    refine ⟨λ σ H=>tS M (zbr c b m) D σ H,λ σ' H' w=>⟨m,je5 m,w⟩,ρ1,fps1,rep1,?_⟩
    dsimp only at q
    have q:=RsOk.from k1.ks q
    cases eb:b ρ1 with
    | no=>rw [eb] at q;exact q
    | exc x=>rw [eb] at q;exact q
    | rt x d ρ2=>rw [eb] at q;exact q
    | bk ρ2=>rw [eb] at q;exact q
    | nx ρ2=>rw [eb] at q;exact λ σ' H' fps' k r'=>⟨ρ2,fps',r',RsOk.from k q⟩
    | ct ρ2=>rw [eb] at q;exact λ σ' H' fps' k r'=>⟨ρ2,fps',r',RsOk.from k q⟩
theorem zjg {K:Frag}{c:Nat}{C:Addr} (e:zwf K c=some C):c < 12:=by
 unfold zwf at e
 split at e
 ·rename_i x h
  exact (ja7.mp h).1
 ·cases e
structure XC (h:Heap) (K:Frag) (c:Nat) (C:Addr):Prop where
 obj:∃ bm N nm q bs hdct sn sub ab col dd k0 k1 k2 k3 k5 mN,h.get? C=some (excClassObj nm q C N bs bm hdct sn sub ab col dd k0 k1 k2 k3 k5 "ValueError.__new__")/\h.Ns N mN/\mN "__init__" = none/\OwnTail h bmV bm/\∀ d D,zwf K d=some D->(Value.ref C::bm).contains (.ref D)=isX c d
theorem qiu {K:Frag}{c:Nat}{C:Addr} (t:xTab K=true) (e:zwf K c=some C):PySem.W.excIn K C bmV "ValueError.__new__" = true/\∀ d D,zwf K d=some D->(mroX K C).contains (.ref D)=isX c d:=by
 unfold xTab at t
 have h:=jc7.mp t c (jf4.mpr (zjg e))
 rw [e] at h
 dsimp only at h
 rw [jb0] at h
 refine ⟨h.1,λ d D ed=>?_⟩
 have h2:=jc7.mp h.2 d (jf4.mpr (zjg ed))
 rw [ed] at h2
 exact eq_of_beq h2
theorem qit {K:Frag}{h:Heap}{c:Nat}{C:Addr} (X:K.In h) (t:xTab K=true) (e:zwf K c=some C):XC h K c C:=by
 obtain ⟨q,ht⟩:=qiu t e
 refine ⟨?_⟩
 unfold PySem.W.excIn at q
 split at q
 ·rename_i dd cd sl ho
  split at q
  ·rename_i C' bm k0 k1 k2 k3 n k5 hm hs
   simp only [jb0,beq_iff_eq,jg9] at q
   obtain ⟨⟨⟨⟨⟨rfl,rfl⟩,hdel⟩,htl⟩,hok⟩,hni⟩:=q
   have hmro:mroX K C'=.ref C'::bm:=by unfold mroX;rw [ho];exact hm
   rw [hmro] at ht
   obtain ⟨nm,bs,mro,ns,qn,hd,sn,sub,ab,col,del⟩:=cd
   dsimp only at hm hdel hok hni
   subst hm hdel
   have hsl:sl=#[k0,k1,k2,k3,some (.builtin "ValueError.__new__"),k5]:=by
    obtain ⟨l⟩:=sl
    simp only at hs
    rw [hs]
   subst hsl
   exact ⟨bm,ns,nm,qn,bs,hd,sn,sub,ab,col,dd,k0,k1,k2,k3,k5,_,X _ _ ho,.of_isNs (PySem.W.isNs_of_in X hok),PySem.W.nsMap_none_of_in X hok hni,PySem.W.tail_of_in X htl,ht⟩
  ·cases q
 ·cases q
def XEof (W:Nat->Hp->Prop):XK:=λ v _ H'=>match v with
 | .int c _=>W c.toNat H'
 | _=>False
def CXr (P:vb0) (w:vb8) (K:Frag):CXT:=λ outer H s E e s'=>∃ (a C:Addr) (c:Nat) (H':Hp) (B:Heap) (a0:va2),e=.ref a/\zwf K c=some C/\s'.os=s.os/\vi1 s'.gens/\Un (frs outer) [] H H' s.heap s'.heap/\HOk P w H' s'.heap/\H' a=none/\s.heap.get? a=none /\
 vm7 B outer a (.ref C) a0 s'.heap/\(∀ b o,s'.heap.get? b=some o->H' b≠none->B.get? b=some o)/\(∀ b o,s.heap.get? b=some o->H b=none->b∉frs outer->B.get? b=some o)/\(∀ b,H b≠none->H' b≠none)/\E (.int (c:Int) 0) none H'
theorem zmd {P:vb0}{w:vb8}{H:Hp}{h:Heap}{a:Addr}{o:HO} (x:zxu P w H h a o):∃ u,h.get? a=some u:=by
 cases o with
 | lst xs=>obtain ⟨_,_,_,_,e⟩:=x;exact ⟨_,e⟩
 | tup xs=>obtain ⟨_,_,_,o,e,_⟩:=x;exact ⟨_,e⟩
 | dK kvs=>obtain ⟨_,_,_,_,o,_,_,e,_⟩:=x;exact ⟨_,e⟩
 | dT kvs=>obtain ⟨_,_,_,_,o,_,_,e,_⟩:=x;exact ⟨_,e⟩
 | set S n=>obtain ⟨o,_,_,_,e,_⟩:=x;exact ⟨_,e⟩
 | ins C dx fs=>obtain ⟨_,_,_,e,_⟩:=x;exact ⟨_,e⟩
 | own y=>exact x
 | xd fs=>obtain ⟨_,⟨_,_,_,e,_⟩,_⟩:=x;exact ⟨_,e⟩
 | rng lo hi=>obtain ⟨_,_,_,e⟩:=x;exact ⟨_,e⟩
 | frz ob u=>obtain ⟨e,_⟩:=x;exact ⟨_,e⟩
 | tbl ps=>exact ⟨_,(show h.get? a=some _ from x)⟩
 | met f y=>exact ⟨_,(show h.get? a=some _ from x)⟩
 | ext φ=>exact x.2.1
section
variable {X:Cx}{pins:List (Addr×Obj)}{σ:St}{H H1:Hp}{s s2:va3}{h1 B:Heap}{a C:Addr}{a0:va2}{c:Nat}{E:XK}{P:vb0}{w:vb8}{K:Frag}
theorem qa8 (I:L2.Inv X pins σ H s) (hex:X.ex=[]) (u:Un (frs X.stack) [] H H1 s.heap h1) (hok:HOk X.prog X.w H1 h1) (fl:vm7 B X.outer a (.ref C) a0 s2.heap) (up:h1.UpToSlots s2.heap)
  (i1:∀ b o,h1.get? b=some o->H1 b≠none->B.get? b=some o) (i2:∀ b o,s.heap.get? b=some o->H b=none->b∉frs X.stack->B.get? b=some o) (ha:H1 a=none) (hn:s.heap.get? a=none)
  (hE:E (.int (c:Int) 0) none H1) (hd:∀ b,X.H₀ b≠none->H1 b≠none) (hc:zwf X.K c=some C) (ho:s2.os=s.os) (hg:vi1 s2.gens):CXr X.prog X.w X.K X.outer X.H₀ X.s₀ E (.ref a) s2:=by
 have nx:∀ b:Addr,b∉X.ex:=λ b z=>by rw [hex] at z;cases z
 have key:∀ b o,X.s₀.heap.get? b=some o->X.H₀ b=none->b∉frs X.outer->B.get? b=some o:=λ b o e n hb=>by
  refine i2 b o (I.base.keep b o e n hb (nx b)) (I.base.free b o e n (nx b)) λ z=>?_
  rcases jb3.mp (I.stkSub b z) with z | z
  ·exact absurd (jb5 (va6 e) I.ok.above) (by rw [z];exact jd8 _)
  ·exact hb z
 have fr:∀ b o,X.s₀.heap.get? b=some o->X.H₀ b=none->b∈frs X.outer->∃ sl,s2.heap.get? b=some { o with slots:=sl }:=λ b o e n hb=>by
  obtain ⟨sl,e1⟩:=I.base.slot b o e n hb (nx b)
  obtain ⟨sl',e2⟩:=u.any e1 (I.base.free b o e n (nx b)) (by simp)
  obtain ⟨_,o',ho',hnf⟩:=I.ok.funs.mem hb
  rw [e] at ho';cases ho'
  obtain ⟨sl2,e3⟩:=up b _ e2 hnf
  exact ⟨sl2,e3⟩
 have trk:∀ b v,H1 b≠none->h1.get? b=some v->s2.heap.get? b=some v:=λ b v hb e=>fl.1 b v (i1 b v e hb)
 have un:Un (frs X.outer) [] X.H₀ H1 X.s₀.heap s2.heap:=by
  refine ⟨λ b o e n hb _=>fl.1 b o (key b o e n hb),λ b o e n hb _=>fr b o e n hb,λ b o e n _=>?_,λ b o e _=>?_,λ b xs e=>u.tups b xs (I.base.tups b xs e),λ b o xs e=>u.frzs b o xs (I.base.frzs b o xs e),λ b ps e=>?_⟩
  ·obtain ⟨o',e'⟩:=I.base.there b o e (nx b)
   exact u.free b o' e' (I.base.free b o e n (nx b)) (by simp)
  ·by_cases h0:X.H₀ b=none
   ·by_cases hb:b∈frs X.outer
    ·obtain ⟨sl,e2⟩:=fr b o e h0 hb
     exact ⟨_,e2⟩
    ·exact ⟨o,fl.1 b o (key b o e h0 hb)⟩
   ·obtain ⟨o',e'⟩:=I.base.there b o e (nx b)
    obtain ⟨o2,e2⟩:=u.there b o' e' (by simp)
    exact ⟨o2,trk b o2 (hd b h0) e2⟩
  ·obtain ⟨m1,e1⟩:=I.base.tbls b ps e
   obtain ⟨m2,e2⟩:=u.tbls b _ e1
   exact ⟨m1++m2,by rw [e2,jn1]⟩
 refine ⟨a,C,c,H1,B,a0,rfl,hc,ho.trans I.os,hg,un,λ b o e=>?_,ha,?_,fl,λ b o e hb=>?_,key,hd,hE⟩
 ·refine (hok b o e).stay (λ d v hd q=>trk d v ?_ q) (λ _ q=>q) λ _ _ q=>q
  rcases hd with rfl | hd
  ·rw [e];simp
  ·rw [hd];simp
 ·cases q:X.s₀.heap.get? a with
  | none=>rfl
  | some o=>
   obtain ⟨o',e'⟩:=I.base.there a o q (nx a)
   rw [hn] at e';cases e'
 ·cases q:H1 b with
  | none=>exact absurd q hb
  | some o1=>
   obtain ⟨v,hv⟩:=zmd (hok b o1 q)
   have e2:=trk b v hb hv
   rw [e] at e2
   cases e2
   exact i1 b o hv hb
end
def zbj (CX:CXT) (X:Cx) (W:St->Nat->Hp->Prop):Prop:=∀ (pins:List (Addr×Obj)) (σ:St) (H:Hp) (s:va3) (e:va2) (s':va3),L2.Inv X pins σ H s->CX X.stack H s (XEof (W σ)) e s'->X.xe e s'
def zhv (X:Cx) (W:St->Nat->Hp->Prop):Prop:=∀ (pins:List (Addr×Obj)) (σ:St) (H:Hp) (s:va3) (c:Nat) (C a:Addr) (h':Heap) (args:List va2),L2.Inv X pins σ H s->zwf X.K c=some C->Heap.MadeExcOf s.heap h' a (.ref C) args->W σ c H->X.xe (.ref a) { s with heap:=h' }
abbrev W0:St->Nat->Hp->Prop:=λ _ _ _=>False
theorem qh9 {P:vb0}{w:vb8}{K:Frag}{X:Cx}:zbj (CXr P w K) X W0:=λ _ _ _ _ _ _ _ h=>by
 obtain ⟨a,C,c,H',B,a0,_,_,_,_,_,_,_,_,_,_,_,_,hE⟩:=h
 exact vd3 hE
def WE (E:XK) (H:Hp):St->Nat->Hp->Prop:=λ _ c H'=>E (.int (c:Int) 0) none H'/\∀ b,H b≠none->H' b≠none
section
variable {P:vb0}{w:vb8}{K:Frag}{mg:Str->Option va2}{base:Heap}{N:List Str}{qual:Str}{scope:ve2}{f:Addr}{cd:va2}{A:vc0}{outer:List Env}{s:va3}{H:Hp}{E:XK}
theorem qgi:zbj (CXr P w K) (cxOf (CXr P w K) P w K mg base N qual scope f cd A outer s H E) (WE E H):=by
 intro pins σ H1 s1 e s' I h
 obtain ⟨a,C,c,H',B,a0,rfl,hc,ho,hg,un,hok,ha,hn,fl,i1,i2,hd,hE⟩:=h
 have hE':WE E H σ c H':=hE
 refine wpAny_leaves_onW (by exact I.ok.frames) rfl fl λ h2 f2 up=>?_
 exact qa8 (s2:={ s' with heap:=h2 }) I rfl un hok f2 up i1 i2 ha hn hE'.1 hE'.2 hc ho hg
theorem qc4:zhv (cxOf (CXr P w K) P w K mg base N qual scope f cd A outer s H E) (WE E H):=by
 intro pins σ H1 s1 c C a h' args I hc hx hW
 have hin:∀ env∈(cxOf (CXr P w K) P w K mg base N qual scope f cd A outer s H E).stack,∀ b,env.frame=some b->b∈frs (cxOf (CXr P w K) P w K mg base N qual scope f cd A outer s H E).stack:=λ env he b hb=>jk6.mpr ⟨env,he,hb⟩
 have trk:∀ b,H1 b≠none->∃ o,s1.heap.get? b=some o:=λ b hb=>by
  cases q:H1 b with
  | none=>exact absurd q hb
  | some u=>exact zmd (I.hok b u q)
 have nfr:∀ b,H1 b≠none->b∉frs (cxOf (CXr P w K) P w K mg base N qual scope f cd A outer s H E).stack:=λ b hb z=>hb (I.stkFree b z)
 refine wpAny_leaves_madeW (base:=PySem.W.hideAll s1.heap (frs (cxOf (CXr P w K) P w K mg base N qual scope f cd A outer s H E).stack)) (h:=s1.heap) (by exact I.ok.frames) rfl (λ b o q=>PySem.W.of_hideAll _ q) (PySem.W.funFrames_hide I.stack hin) hx λ h2 t f2 _ _ up=>?_
 refine qa8 (s2:={ s1 with heap:=h2 }) I rfl (Un.kept hx.keeps) (I.hok.kept hx.keeps) f2 up (λ b o e hb=>?_) (λ b o e _ hb=>vk5 _ e hb) ?_ hx.new hW.1 hW.2 hc rfl I.bare
 ·obtain ⟨o1,e1⟩:=trk b hb
  have e2:=hx.keeps b o1 e1
  rw [e] at e2
  cases e2
  exact vk5 _ e1 (nfr b hb)
 ·cases q:H1 a with
  | none=>rfl
  | some u=>
   obtain ⟨o,e⟩:=zmd (I.hok a u q)
   rw [hx.new] at e;cases e
theorem qdm:vl5 (vb3 P w) (cxOf (CXr P w K) P w K mg base N qual scope f cd A outer s H E).A (cxOf (CXr P w K) P w K mg base N qual scope f cd A outer s H E).env (cxOf (CXr P w K) P w K mg base N qual scope f cd A outer s H E).xe:=PassesOwn.leaving
end
section
variable {X:Cx}{CX:CXT}{k:Nat}{f:Addr}{fd:vc9}{ps:List Str}{sp:Sp}{x:Str}{p pos:Pos}{e:Expr}{es:List Expr}{t:TA}{W:St->Nat->Hp->Prop}
def qhy (sp:Sp) (W:St->Nat->Hp->Prop) (t:TA):TE:=λ σ H Q=>t σ H λ vs H1=>sp vs H1 Q (XEof (W σ))
theorem qgg (F:FnOk X.prog X.w X.K X.mg X.base CX k f fd ps sp) (hr:Room k X.A) (hg:Gl X x) (hm:X.mg x=some (.ref f)) (hk:ve5 X.K (.ref f)=true) (hb:zbk X.K fd ps []) (hx:zbj CX X W) (ha:PA X (e::es) t) (hdb:(x == ("__debug__" : Str))=false)
  (he:va9 (e::es) X.env=(false,eval e X.env)::va9 es X.env) (hpl:(vg5 pos (va9 es X.env)).any (·.1)=false):PE X (.Call (.Name x p) (e::es) [] pos) (qhy sp W t):=by
 intro pins s σ H Q I h
 refine vh5 (zjw I hg hm ?_ hdb)
 refine PySem.W.callWith_K (h₀:=X.base) I.ok.mod.kin hk (thn (ha pos pins s σ H _ I h) λ us s1 ⟨vs,H1,I1,r,q⟩=>⟨I1.kIn,?_⟩) he hpl
 have q':sp vs H1 Q (XEof (W σ)):=q
 have hl:(us++[]).length=ps.length:=by rw [jd9,<- r.length];exact F.len _ _ _ _ q'
 have hbd:=hb s1 us I1.kIn hl
 rw [jd9] at hbd
 refine wpAny_call (vm5 (F.run X.A X.stack s1 H1 ⟨us,[]⟩ us vs Q (XEof (W σ)) hr I1.env0 hbd r q') λ r s' hq=>?_)
 cases r with
 | error e=>exact hx pins σ H1 s1 e s' I1 hq
 | ok fl=>
  cases fl with
  | ret u=>exact I1.after hq
  | next=>exact vd3 hq
  | brk=>exact vd3 hq
  | cont=>exact vd3 hq
theorem qj2 {P:vb0}{w:vb8}{K:Frag}:qfm (CXr P w K) X E0:=λ _ _ _ _ _ _ _ h=>by
 obtain ⟨a,C,c,H',B,a0,_,_,_,_,_,_,_,_,_,_,_,_,hE⟩:=h
 exact vd3 hE
end
def zzs (cells:List (Str×Addr)):List (Str×vd5)->List (Str×Addr)->List (Str×Addr)
 | [],cs=>cs
 | (n,k)::r,cs=>if k == .free then zzs cells r ((n,(cells.lookup n).getD 0)::cs) else zzs cells r cs
theorem zks {scope:ve2}{env:Env} (h:∀ x∈scope.names,x.2=.free->∃ c,env.cells.lookup x.1=some c):closureFor scope env=pure (zzs env.cells scope.names []):=by
 unfold closureFor
 have all:∀ (l:List (Str×vd5)) (cs:List (Str×Addr)),(∀ x∈l,x.2=.free->∃ c,env.cells.lookup x.1=some c) ->
   (forIn l cs λ (x:Str×vd5) (cs:List (Str×Addr))=>if (x.2 == NameKind.free)=true then (do let a<-cellOf env x.1;pure (ForInStep.yield ((x.1,a)::cs))) else pure (ForInStep.yield cs):Sem (List (Str×Addr)))=pure (zzs env.cells l cs):=by
  intro l
  induction l with
  | nil=>intro cs _;rfl
  | cons x r ih=>
   intro cs hl
   obtain ⟨n,k⟩:=x
   rw [jj9]
   have ih':=λ cs=>ih cs λ y hy=>hl y (ja1 _ hy)
   by_cases hk:(k == NameKind.free)=true
   ·obtain ⟨c,hc⟩:=hl (n,k) ja3 (by simpa using hk)
    have e1:cellOf env n=pure c:=by unfold cellOf;rw [hc]
    rw [if_pos hk,e1]
    simp only [pure_bind]
    rw [ih',zzs,if_pos hk,hc]
    rfl
   ·rw [if_neg hk]
    simp only [pure_bind]
    rw [ih',zzs,if_neg hk]
 have:=all scope.names [] h
 simp only [bind_pure] at this ⊢
 exact this
theorem zxa (cells:List (Str×Addr)) (x:Str) (c:Addr):∀ (l:List (Str×vd5)) (cs:List (Str×Addr)),(∀ y∈l,y.2=.free->∃ c,cells.lookup y.1=some c)->(cs.lookup x=some c->cells.lookup x=some c)->(zzs cells l cs).lookup x=some c->cells.lookup x=some c
 | [],cs,_,h,e=>h e
 | (n,k)::r,cs,hl,h,e=>by
  unfold zzs at e
  split at e
  ·rename_i hk
   refine zxa cells x c r _ (λ y hy=>hl y (ja1 _ hy)) (λ e'=>?_) e
   rw [jd4] at e'
   split at e'
   ·rename_i hx
    obtain ⟨c',hc⟩:=hl (n,k) ja3 (by simpa using hk)
    rw [hc] at e'
    cases e'
    rw [eq_of_beq hx];exact hc
   ·exact h e'
  ·exact zxa cells x c r cs (λ y hy=>hl y (ja1 _ hy)) h e
theorem zyl (cells:List (Str×Addr)) (x:Str):∀ (l:List (Str×vd5)) (cs:List (Str×Addr)),(∃ c,cs.lookup x=some c)->∃ c,(zzs cells l cs).lookup x=some c
 | [],cs,h=>h
 | (n,k)::r,cs,h=>by
  unfold zzs
  split
  ·refine zyl cells x r _ ?_
   rw [jd4]
   split
   ·exact ⟨_,rfl⟩
   ·exact h
  ·exact zyl cells x r cs h
theorem zbf (cells:List (Str×Addr)) (x:Str):∀ (l:List (Str×vd5)) (cs:List (Str×Addr)),(x,NameKind.free)∈l->∃ c,(zzs cells l cs).lookup x=some c
 | [],_,h=>nomatch h
 | (n,k)::r,cs,h=>by
  unfold zzs
  rcases jb3.mp h with e | e
  ·cases e
   rw [if_pos (show (NameKind.free == NameKind.free)=true by decide)]
   exact zyl cells x r _ ⟨_,by rw [jd4,beq_self_eq_true]⟩
  ·split
   ·exact zbf cells x r _ e
   ·exact zbf cells x r cs e
theorem zbg:∀ (names:List (Str×vd5)) (n:Nat) (acc:List (Str×Addr)) (x:Str) (c:Addr),(vc5 n names acc).lookup x=some c->acc.lookup x=some c\/(n<=c/\(x,NameKind.cell)∈names)
 | [],n,acc,x,c,h=>.inl h
 | (m,k)::r,n,acc,x,c,h=>by
  unfold vc5 at h
  split at h
  ·rename_i hk
   have hk':k=.cell:=by simpa using hk
   rcases zbg r _ _ x c h with z | ⟨z,y⟩
   ·rw [jd4] at z
    split at z
    ·rename_i hx
     cases z
     exact .inr ⟨jb4 _,by rw [eq_of_beq hx,hk'];exact ja3⟩
    ·exact .inl z
   ·exact .inr ⟨jf2 z,ja1 _ y⟩
  ·rcases zbg r _ _ x c h with z | ⟨z,y⟩
   ·exact .inl z
   ·exact .inr ⟨z,ja1 _ y⟩
theorem zmt:∀ (names:List (Str×vd5)) (n:Nat) (acc:List (Str×Addr)) (x:Str),(x,NameKind.cell)∉names->(vc5 n names acc).lookup x=acc.lookup x
 | [],n,acc,x,h=>rfl
 | (m,k)::r,n,acc,x,h=>by
  unfold vc5
  split
  ·rename_i hk
   have hk':k=.cell:=by simpa using hk
   rw [zmt r _ _ x λ z=>h (ja1 _ z),jd4]
   split
   ·rename_i hx
    exact absurd (by rw [eq_of_beq hx,hk'];exact ja3) h
   ·rfl
  ·exact zmt r _ _ x λ z=>h (ja1 _ z)
theorem qbi:∀ (names:List (Str×vd5)) (n:Nat) (acc:List (Str×Addr)) (x:Str),(x,NameKind.cell)∈names->∃ c,(vc5 n names acc).lookup x=some c/\n<=c
 | [],n,acc,x,h=>nomatch h
 | (m,k)::r,n,acc,x,h=>by
  by_cases hr:(x,NameKind.cell)∈r
  ·unfold vc5
   split
   ·obtain ⟨c,e,l⟩:=qbi r (n + 1) ((m,n)::acc) x hr
    exact ⟨c,e,jf2 l⟩
   ·exact qbi r n acc x hr
  ·rcases jb3.mp h with e | e
   ·cases e
    unfold vc5
    rw [if_pos (by decide),zmt r _ _ _ hr,jd4,beq_self_eq_true]
    exact ⟨n,rfl,jb4 _⟩
   ·exact absurd e hr
theorem qe9:∀ (names:List (Str×vd5)) (n:Nat) (acc:List (Str×Addr)),(∀ x y c,acc.lookup x=some c->acc.lookup y=some c->x=y)->(∀ x c,acc.lookup x=some c->c < n)->∀ x y c,(vc5 n names acc).lookup x=some c->(vc5 n names acc).lookup y=some c->x=y
 | [],n,acc,hi,_,x,y,c,h1,h2=>hi x y c h1 h2
 | (m,k)::r,n,acc,hi,hl,x,y,c,h1,h2=>by
  unfold vc5 at h1 h2
  split at h1
  ·rename_i hk
   rw [if_pos hk] at h2
   refine qe9 r (n + 1) ((m,n)::acc) (λ x y c h1 h2=>?_) (λ x c h=>?_) x y c h1 h2
   ·rw [jd4] at h1 h2
    split at h1
    ·rename_i e1
     cases h1
     split at h2
     ·rename_i e2
      rw [eq_of_beq e1,eq_of_beq e2]
     ·exact absurd (hl y _ h2) (jd8 _)
    ·split at h2
     ·cases h2
      exact absurd (hl x _ h1) (jd8 _)
     ·exact hi x y c h1 h2
   ·rw [jd4] at h
    split at h
    ·cases h;exact je5 _
    ·exact jh6 (hl x c h)
  ·rename_i hk
   rw [if_neg hk] at h2
   exact qe9 r n acc hi hl x y c h1 h2
theorem zhd:∀ (names:List (Str×vd5)) (h:Heap) (acc:List (Str×Addr)) (x:Str) (c:Addr),(vc5 h.objs.size names acc).lookup x=some c->acc.lookup x=some c\/(pushCells h names).IsCell c none
 | [],h,acc,x,c,e=>.inl e
 | (m,k)::r,h,acc,x,c,e=>by
  unfold vc5 at e
  unfold pushCells
  split at e
  ·rename_i hk
   rw [if_pos hk]
   have hs:(h.push { cls:=.type "cell",data:=.cell none }).objs.size=h.objs.size + 1:=vc2 ..
   have e':(vc5 (h.push { cls:=.type "cell",data:=.cell none }).objs.size r ((m,h.objs.size)::acc)).lookup x=some c:=by rw [hs];exact e
   rcases zhd r _ _ x c e' with z | z
   ·rw [jd4] at z
    split at z
    ·cases z
     exact .inr ⟨_,vn8 _ _ _ _ (va7 _ rfl),rfl⟩
    ·exact .inl z
   ·exact .inr z
  ·rename_i hk
   rw [if_neg hk]
   exact zhd r h acc x c e
theorem zfr {M:Model}{A:vc0}{E:va2->va3->Prop}{s:va3}{scope:ve2}{globals:Addr}{cl:List (Str×Addr)}{qual:Str}{func:Option Addr}{code:va2}{around:Env}{builtins:Addr}{Q:Env->va3->Prop}
  (hQ:Q (newEnv scope s.heap.objs.size globals (vc5 (s.heap.objs.size + 1) scope.names cl) qual func code (some around) builtins) { s with heap:=pushCells (s.heap.push { cls:=.type "dict",data:=.dict #[] }) scope.names }):
  vb1 M A (vp0 scope globals cl [] qual func code (some around) builtins) Q E s:=by
 simp only [vp0,jn2,if_true]
 refine va0 (wpAny_alloc ?_)
 refine va0 (wpAny_layCells _ (λ name kind cells=>by cases hkc:kind == NameKind.cell <;> simp [hkc]) _ _ _ _ ?_)
 rw [show ({ s with heap:=s.heap.push { cls:=.type "dict",data:=.dict #[] } }:va3).heap.objs.size=s.heap.objs.size + 1 from vc2 ..]
 exact va0 (va5 (va5 hQ))
def zgn (X:Cx) (scope:ve2) (C:Addr):List (Str×Addr):=vc5 (C + 1) scope.names (zzs X.env.cells scope.names [])
def zqm (X:Cx) (s2:va3) (H2:Hp) (scope:ve2) (C:Addr) (N':List Str) (fp:List Addr) (pins:List (Addr×Obj)):Cx:=
 { X with N:=N',s₀:=s2,H₀:=H2,env:=compEnvC scope (zgn X scope C) C X.env,outer:=X.stack,stack:=X.stack,ex:=fp,fn:=λ x=>scope.names.contains (x,NameKind.cell),pn:=X.pn++pins,xe:=λ _ _=>False }
structure CompOk (X:Cx) (scope:ve2) (N':List Str) (k:Nat):Prop where
 kind:scope.kind=.function
 dis:∀ x,(x,NameKind.free)∈scope.names->(x,NameKind.cell)∉scope.names
 names:∀ x∈scope.names,x.2=.local->scope.names.lookup x.1=some .local
 len:N'.length=X.N.length + k
 free:∀ x∈scope.names,x.2=.free->X.env.kindOf x.1=some .cell\/X.env.kindOf x.1=some .free
 kinds:∀ x,(vl8 scope X.env).names.lookup x=some .cell\/(vl8 scope X.env).names.lookup x=some .free->(x,NameKind.free)∈scope.names\/(x,NameKind.cell)∈scope.names
 capt:∀ (i:Nat) (x:Str),i < X.N.length->N'[i]?=some x->Vis (vl8 scope X.env) x->X.N[i]?=some x/\Vis X.env.scope x/\(x,NameKind.free)∈scope.names/\(vl8 scope X.env).names.lookup x≠some .local
section
variable {X:Cx}{scope:ve2}{N':List Str}{k:Nat}{pins:List (Addr×Obj)}{σ:St}{H2:Hp}{s2:va3}{fp:List Addr}{C:Addr}
theorem CompOk.cells (c:CompOk X scope N' k) (I:Inv X pins σ H2 s2):∀ x∈scope.names,x.2=.free->∃ a,X.env.cells.lookup x.1=some a:=λ x hx hf=>I.ok.has x.1 (c.free x hx hf)
theorem CompOk.cl (c:CompOk X scope N' k) (I:Inv X pins σ H2 s2) {x:Str}{a:Addr} (h:(zgn X scope C).lookup x=some a):X.env.cells.lookup x=some a\/(C + 1<=a/\(x,NameKind.cell)∈scope.names):=
 (zbg _ _ _ x a h).imp (λ z=>zxa _ x a _ [] (c.cells I) (λ z=>nomatch z) z) id
theorem CompOk.old (c:CompOk X scope N' k) (I:Inv X pins σ H2 s2) {x:Str}{a:Addr} (h:X.env.cells.lookup x=some a):a < s2.heap.objs.size:=by
 obtain ⟨v,o,ho,_⟩:=I.cell x a h
 exact va6 ho
theorem CompOk.cap (c:CompOk X scope N' k) {x:Str} (h:(x,NameKind.free)∈scope.names):∃ a,(zgn X scope C).lookup x=some a/\(zzs X.env.cells scope.names []).lookup x=some a:=by
 obtain ⟨a,ha⟩:=zbf X.env.cells x scope.names [] h
 exact ⟨a,(zmt _ _ _ x (c.dis x h)).trans ha,ha⟩
theorem CompOk.ok (c:CompOk X scope N' k) (I:Inv X pins σ H2 s2) (hf:∀ b∈fp,FpOk X pins H2 b) (hC:s2.heap.objs.size<=C) (hfp:∀ b∈fp,b < s2.heap.objs.size):(zqm X s2 H2 scope C N' fp pins).Ok where
 mod:=I.ok.mod
 kind:=c.kind
 glob:=I.ok.glob
 blt:=I.ok.blt
 above:=hC
 inj:=λ x y a h1 h2=>qe9 scope.names (C + 1) _ (λ x y a h1 h2=>I.ok.inj x y a (zxa _ x a _ [] (c.cells I) (λ z=>nomatch z) h1) (zxa _ y a _ [] (c.cells I) (λ z=>nomatch z) h2))
  (λ x a h=>jh6 (jb5 (c.old I (zxa _ x a _ [] (c.cells I) (λ z=>nomatch z) h)) hC)) x y a h1 h2
 has:=λ x hx=>(c.kinds x hx).elim (λ z=>let ⟨a,h,_⟩:=c.cap (C:=C) z;⟨a,h⟩) λ z=>let ⟨a,h,_⟩:=qbi scope.names (C + 1) (zzs X.env.cells scope.names []) x z;⟨a,h⟩
 cab:=λ x a h e=>by
  have hx:(x,NameKind.cell)∈scope.names:=by
   have h':scope.names.contains (x,NameKind.cell)=true:=h
   simpa using h'
  obtain ⟨a',e',l⟩:=qbi scope.names (C + 1) (zzs X.env.cells scope.names []) x hx
  have e2:(vc5 (C + 1) scope.names (zzs X.env.cells scope.names [])).lookup x=some a:=e
  rw [e'] at e2
  cases e2
  exact jd3 hC (jf2 l)
 hd:=I.ok.hd
 frames:=I.ok.frames
 stk:=.inl rfl
 exf:=λ b hb=>⟨jc5 (jb5 (hfp b hb) hC),λ x a h=>(c.cl I h).elim (λ z=>(hf b hb).2.2.2.2.1 x a z) λ z=>jg1 (jb5 (hfp b hb) (jd3 hC (jf2 z.1)))⟩
 bs:=I.bs
 bsz:=jd3 I.ok.bsz I.sz
 noex:=λ b o e hb=>by
  rcases (hf b hb).2.2.2.1 with z | z
  ·exact I.ok.noex b o e z
  ·exact absurd (jb5 (va6 e) (jd3 I.ok.bsz z)) (jd8 _)
 exfs:=λ b hb hz=>by
  rcases jb3.mp (I.stkSub b hz) with z | z
  ·exact (hf b hb).2.1 z
  ·exact (hf b hb).2.2.1 z
 funs:=I.stack
 frf:=I.stkFree
theorem CompOk.inv (c:CompOk X scope N' k) (I:Inv X pins σ H2 s2) (hf:∀ b∈fp,FpOk X pins H2 b) (hfp:∀ b∈fp,b < s2.heap.objs.size) {H3:Hp}{h':Heap}{t':Nat}{m:Str->Option va2}{D:Addr} (hCD:D≠C) (hD:s2.heap.objs.size<=D) (hC:s2.heap.objs.size<=C)
  (keep:∀ b o,s2.heap.get? b=some o->h'.get? b=some o) (ns:h'.Ns C m) (hH:∀ b,b≠D->H3 b=H2 b) (hok:HOk X.prog X.w H3 h') (hC3:H3 C=none) (hDC:D < C) (hcN:∀ x a,(zgn X scope C).lookup x=some a->C + 1<=a->h'.IsCell a none):
  Inv (zqm X s2 H2 scope C N' fp pins) [] (σ++ja5 k none) H3 { s2 with heap:=h',toks:=t' } where
 ok:=c.ok I hf hC hfp
 os:=rfl
 bare:=I.bare
 base:=by
  have nD:∀ b o,s2.heap.get? b=some o->b≠D:=λ b o e=>jc5 (jb5 (va6 e) hD)
  refine ⟨λ b o e _ _ _=>keep b o e,λ b o e _ _ _=>⟨o.slots,keep b o e⟩,λ b o e n _=>by rw [hH b (nD b o e)];exact n,λ b o e _=>⟨o,keep b o e⟩,λ b xs e=>?_,λ b o u e=>?_,λ b ps e=>⟨#[],?_⟩⟩
  ·have e:H2 b=some (.tup xs):=e
   rw [hH b (λ z=>by rw [z,I.hok.fresh hD] at e;cases e)];exact e
  ·have e:H2 b=some (.frz o u):=e
   rw [hH b (λ z=>by rw [z,I.hok.fresh hD] at e;cases e)];exact e
  ·have e:H2 b=some (.tbl ps):=e
   rw [hH b (λ z=>by rw [z,I.hok.fresh hD] at e;cases e)];simpa using e
 loc:=by
  refine ⟨m,ns,λ i x v e1 e2 e3=>?_⟩
  have hi:i < σ.length:=by
   by_cases hi:i < σ.length
   ·exact hi
   ·rw [jc9 (by omega),jd2] at e2
    split at e2 <;> cases e2
  rw [jc3 hi] at e2
  obtain ⟨n1,n2,n3,n4⟩:=c.capt i x (by rw [<- I.len];exact hi) e1 e3
  obtain ⟨m0,ns0,hl⟩:=I.loc
  obtain ⟨u,r,lk⟩:=hl i x v n1 e2 n2
  refine ⟨u,r,.inr ⟨?_,?_⟩⟩
  ·rcases e3 with z | z | z
   ·exact absurd z n4
   ·exact .inl z
   ·exact .inr z
  ·obtain ⟨a,ha,hb⟩:=c.cap (C:=C) n3
   have ha':=zxa _ x a _ [] (c.cells I) (λ z=>nomatch z) hb
   refine ⟨a,ha,?_⟩
   rcases lk with ⟨hk,_⟩ | ⟨hk,a2,ha2,hc⟩
   ·rcases c.free _ n3 rfl with z | z <;> rw [hk] at z <;> cases z
   ·rw [ha'] at ha2;cases ha2
    obtain ⟨o,ho,hd⟩:=hc
    exact ⟨o,keep _ _ ho,hd⟩
 cell:=λ x a h=>by
  rcases c.cl I h with z | z
  ·obtain ⟨v,o,ho,hd⟩:=I.cell x a z
   exact ⟨v,o,keep _ _ ho,hd⟩
  ·exact ⟨none,hcN x a h z.1⟩
 free:=hC3
 freeC:=λ x a h=>by
  rcases c.cl I h with ha | z
  ·obtain ⟨v,o,ho,hd⟩:=I.cell x a ha
   rw [hH a (jc5 (jb5 (va6 ho) hD))]
   exact I.freeC x a ha
  ·rw [hH a (jg1 (jb5 hDC (jf2 z.1)))]
   exact I.hok.fresh (jd3 hC (jf2 z.1))
 pin:=λ p hp=>by
  have hp':p∈X.pn++pins:=by simpa [zqm] using hp
  obtain ⟨e,n,ne,nf,d⟩:=I.pin p hp'
  have hlt:=va6 e
  exact ⟨keep _ _ e,by rw [hH p.1 (jc5 (jb5 hlt hD))];exact n,jc5 (jb5 hlt hC),λ z=>(jb3.mp (I.stkSub p.1 z)).elim ne nf,d⟩
 hok:=hok
 len:=by
  show (σ++ja5 k none).length=N'.length
  rw [ja8,jd5,c.len,I.len]
def PTs (X:Cx) (ifs:List Expr) (t:TT):Prop:=
 ∀ (pins:List (Addr×Obj)) (s:va3) (σ:St) (H:Hp) (Q:Bool->Hp->Prop),Inv X pins σ H s->t σ H Q ->
  vb1 (vb3 X.prog X.w) X.A (forIn ifs true λ c r=>if r=true then do let ok<-isTrue c X.env (eval c X.env);pure (ForInStep.yield ok) else pure (ForInStep.yield r)) (TP X pins σ Q) X.xe s
theorem qjs {X:Cx}:PTs X [] (λ _ H Q=>Q true H):=λ _ _ _ H _ I h=>va5 ⟨H,I,h⟩
theorem qjr {X:Cx}{c:Expr}{t:TT} (hc:PT X c t):PTs X [c] t:=by
 intro pins s σ H Q I h
 rw [jj9]
 refine va0 ?_
 rw [if_pos rfl]
 refine va0 (thn (hc pins s σ H Q I h) λ b s1 q=>va5 ?_)
 exact va5 q
theorem CompOk.again (c:CompOk X scope N' k) (I:Inv X pins σ H2 s2) {σ':St}{H':Hp}{s':va3}{ps:List (Addr×Obj)} (hfp:∀ b∈fp,FpOk X pins H2 b) (J:Inv (zqm X s2 H2 scope C N' fp pins) ps σ' H' s'):Inv (zqm X s2 H2 scope C N' fp pins) ps (σ++ja5 k none) H' s' where
 ok:=J.ok
 os:=J.os
 bare:=J.bare
 base:=J.base
 loc:=by
  obtain ⟨m,ns,_⟩:=J.loc
  refine ⟨m,ns,λ i x v e1 e2 e3=>?_⟩
  have hi:i < σ.length:=by
   by_cases hi:i < σ.length
   ·exact hi
   ·rw [jc9 (by omega),jd2] at e2
    split at e2 <;> cases e2
  rw [jc3 hi] at e2
  obtain ⟨n1,n2,n3,n4⟩:=c.capt i x (by rw [<- I.len];exact hi) e1 e3
  obtain ⟨m0,ns0,hl⟩:=I.loc
  obtain ⟨u,r,lk⟩:=hl i x v n1 e2 n2
  refine ⟨u,r,.inr ⟨?_,?_⟩⟩
  ·rcases e3 with z | z | z
   ·exact absurd z n4
   ·exact .inl z
   ·exact .inr z
  ·obtain ⟨a,ha,hb⟩:=c.cap (C:=C) n3
   have ha':=zxa _ x a _ [] (c.cells I) (λ z=>nomatch z) hb
   refine ⟨a,ha,?_⟩
   rcases lk with ⟨hk,_⟩ | ⟨hk,a2,ha2,hc⟩
   ·rcases c.free _ n3 rfl with z | z <;> rw [hk] at z <;> cases z
   ·rw [ha'] at ha2;cases ha2
    obtain ⟨o,ho,hd⟩:=hc
    obtain ⟨sl,ho'⟩:=J.base.any (b:=a) (ob:=o) ho (I.freeC x a ha') λ z=>(hfp a z).2.2.2.2.1 x a ha' rfl
    exact ⟨_,ho',hd⟩
 cell:=J.cell
 free:=J.free
 freeC:=J.freeC
 pin:=J.pin
 hok:=J.hok
 len:=by
  show (σ++ja5 k none).length=N'.length
  rw [ja8,jd5,c.len,I.len]
theorem zvz {prog:vb0}{w:vb8}{A:vc0}{R:Result->va3->Prop}{s:va3}{elt target iter:Expr}{ifs:List Expr}{scope:ve2}{pos:Pos}{it acc:va2}{env:Env} (I:Nat->va3->Prop)
  (turn:∀ n s,I n s->vb1 (vb3 prog w) A (vl2 it) (λ r s₁=>match r with
   | none=>R (.ok .next) s₁
   | some v=>vb1 (vb3 prog w) A (vj5 target it v) (λ _ s₁'=>vb1 (vb3 prog w) A (vo2 target env v) (λ _ s₂=>
     vb1 (vb3 prog w) A (forIn ifs true λ c r=>if r=true then do let ok<-isTrue c env (eval c env);pure (ForInStep.yield ok) else pure (ForInStep.yield r)) (λ ok s₃=>
      if ok=true then vb1 (vb3 prog w) A (eval elt env) (λ x s₄=>
       vb1 (vb3 prog w) A (call (.builtin "list.append") [acc,x]) (λ _ s₅=>∃ m,m < n/\I m s₅) (λ _ _=>False) s₄) (λ _ _=>False) s₃
      else ∃ m,m < n/\I m s₃) (λ _ _=>False) s₂) (λ _ _=>False) s₁') (λ _ _=>False) s₁) (λ _ _=>False) s)
  (n:Nat) (h:I n s):
  vl9 (vb3 prog w) A (.compLoop (.ListComp elt [⟨target,iter,ifs,0⟩] scope pos) 0 it acc env) R s:=by
 refine codeAny_loop rfl I (λ n s hI=>?_) n h
 show vb1 _ A ((compTurn (.ListComp elt [⟨target,iter,ifs,0⟩] scope pos) 0 it acc env).onRaise (λ x=>do noteFrame x env;theTreesLotGoes x)) _ _ s
 refine wpAny_noted ?_
 rw [compTurn_list]
 refine va0 (wpAny_standAt (va0 (vd9 (turn n s hI) (λ r s₁ h₁=>?_) λ _ _ h'=>h'.elim)))
 cases r with
 | none=>exact va5 h₁
 | some v=>
  refine va0 (vd9 h₁ (λ _ s₁' h₁'=>?_) λ _ _ h'=>h'.elim)
  refine va0 (vd9 h₁' (λ _ s₂ h₂=>va0 (vd9 h₂ (λ ok s₃ h₃=>?_) λ _ _ h'=>h'.elim)) λ _ _ h'=>h'.elim)
  cases ok with
  | false=>exact va5 ⟨rfl,h₃⟩
  | true=>
   exact va0 (va0 (vd9 h₃ (λ x s₄ h₄=>va0 (vd9 h₄ (λ _ s₅ h₅=>va5 (va5 ⟨rfl,h₅⟩)) λ _ _ h'=>h'.elim)) λ _ _ h'=>h'.elim))
theorem zpp {elt iter tg:Expr}{ifs:List Expr}{pos:Pos}{J:It}{it:Addr}{tn:Nat->Heap->Prop}{g:TG}{tc:TT}{te:TE}{RR:va2->Addr->Result->va3->Prop}{Q:VK}{E:va2->va3->Prop}
  (c:CompOk X scope N' k) (hcalm:X.calm=true) (I:Inv X pins σ H2 s2) (T:Turn X.prog X.w X.K tg J fp it tn) (st:tn 0 s2.heap) (hf:∀ b∈fp,FpOk X pins H2 b)
  (hg:∀ C fp,PG (zqm X s2 H2 scope C N' fp pins) tg g) (hc:∀ C fp,PTs (zqm X s2 H2 scope C N' fp pins) ifs tc) (he:∀ C fp,PE (zqm X s2 H2 scope C N' fp pins) elt te)
  (h:∀ D,H2 D=none->∃ W:Nat->Nat->List V->Hp->Prop,(∃ m,W 0 m [] (upd H2 D (.lst [])))/\∀ i m ys H,W i m ys H->H D=some (.lst ys) /\
   ((J.stop i H/\Q (.ref D) H)\/(J.go i H/\∀ x H',J.yld i H x H'->g x (σ++ja5 k none) H' λ σ2 H2=>tc σ2 H2 λ b H3=>if b=true then te σ2 H3 λ y H4=>H4 D=some (.lst ys)/\ys.length < va4/\∃ m',m' < m/\W (i + 1) m' (ys++[y]) (upd H4 D (.lst (ys++[y]))) else ∃ m',m' < m/\W (i + 1) m' ys H3)))
  (hRR:∀ D C σ' H' s',s2.heap.objs.size<=C->Inv (zqm X s2 H2 scope C N' fp pins) [] σ' H' s'->Q (.ref D) H'->RR (.ref D) C (.ok .next) s')
  :
  vb1 (vb3 X.prog X.w) X.A (newList []) (λ acc s₃=>vb1 (vb3 X.prog X.w) X.A (vp0 scope X.env.globals (zzs X.env.cells scope.names []) [] X.env.qual none .none (some X.env)) (λ cenv s₄=>
   vl9 (vb3 X.prog X.w) X.A (.compStart (.ListComp elt [⟨tg,iter,ifs,0⟩] scope pos) 0 (.ref it) acc { cenv with scope:=vl8 scope X.env }) (RR acc cenv.locals) s₄) E s₃) E s2:=by
 refine vb5 (zfr ?_)
 dsimp only
 generalize hH2:s2.heap.push { cls:=.type "list",dict:=none,data:=.seq ([]:List va2).toArray }=HP
 obtain ⟨h₁,hh₁⟩:∃ h₁,h₁=pushCells (HP.push { cls:=.type "dict",data:=.dict #[] }) scope.names:=⟨_,rfl⟩
 rw [<- hh₁]
 have kk:∀ b o,HP.get? b=some o->h₁.get? b=some o:=λ b o e=>by rw [hh₁];exact vn8 _ _ b o (va1 _ e)
 have hns₁:h₁.Ns HP.objs.size (λ _=>none):=by rw [hh₁];exact (Heap.Ns.new HP (.type "dict")).keeps (vn8 _ _)
 have hC:HP.objs.size=s2.heap.objs.size + 1:=by rw [<- hH2,vc2]
 have hDC:s2.heap.objs.size≠HP.objs.size:=by rw [hC];exact jc5 (je5 _)
 have hCle:s2.heap.objs.size<=HP.objs.size:=by rw [hC];exact jq3 _
 have hfp:∀ b∈fp,b < s2.heap.objs.size:=λ b hb=>by
  obtain ⟨o,e,_⟩:=T.obj 0 _ st b hb
  exact va6 e
 have below:∀ b,b < s2.heap.objs.size->b≠HP.objs.size:=λ b hb=>by rw [hC];exact jc5 (jh6 hb)
 have old:∀ b o,s2.heap.get? b=some o->h₁.get? b=some o:=λ b o e=>kk b o (hH2 ▸ va1 _ e)
 have hacc:h₁.get? s2.heap.objs.size=some { cls:=.type "list",dict:=none,data:=.seq ([]:List va2).toArray }:=kk _ _ (hH2 ▸ va7 _ rfl)
 have fD:H2 s2.heap.objs.size=none:=I.hok.fresh (jb4 _)
 obtain ⟨W,⟨m0,w0⟩,hW⟩:=h _ fD
 have hok3:HOk X.prog X.w (upd H2 s2.heap.objs.size (.lst [])) h₁:=I.hok.laid old (jb4 _) ⟨jh1 _,[],0,.nil,hacc⟩
 have st1:tn 0 h₁:=T.keep _ _ _ st λ b hb o e=>old b o e
 have I3:Inv (zqm X s2 H2 scope HP.objs.size N' fp pins) [] (σ++ja5 k none) (upd H2 s2.heap.objs.size (.lst [])) { s2 with heap:=h₁ }:=
  c.inv I hf hfp (t':=s2.toks) hDC (jb4 _) hCle old hns₁ (λ b hb=>zqg hb) hok3 (by rw [zqg (vb2 hDC)];exact I.hok.fresh hCle) (by rw [hC];exact je5 _) (λ x a h l=>by
   have hs:(HP.push { cls:=.type "dict",data:=.dict #[] }).objs.size=HP.objs.size + 1:=vc2 ..
   have h':(vc5 (HP.push { cls:=.type "dict",data:=.dict #[] }).objs.size scope.names (zzs X.env.cells scope.names [])).lookup x=some a:=by rw [hs];exact h
   rcases zhd scope.names _ _ x a h' with z | z
   ·exact absurd (jb5 (c.old I (zxa _ x a _ [] (c.cells I) (λ z=>nomatch z) z)) (jd3 hCle (jf2 l))) (jd8 _)
   ·rw [hh₁];exact z)
 have fx:∀ {H':Hp},(∀ b∈fp,H' b=none)->∀ b∈fp,FpOk (zqm X s2 H2 scope HP.objs.size N' fp pins) [] H' b:=λ hn b hb=>by
  obtain ⟨f0,f1,f2,f3,f4,f5⟩:=hf b hb
  refine ⟨hn b hb,jc5 (jb5 (hfp b hb) hCle),λ hz=>?_,.inl hb,λ x a h=>(c.cl I h).elim (λ z=>f4 x a z) λ z=>jg1 (jb5 (hfp b hb) (jd3 hCle (jf2 z.1))),λ p hp=>f5 p (by simpa [zqm] using hp)⟩
  rcases jb3.mp (I.stkSub b hz) with z | z
  ·exact f1 z
  ·exact f2 z
 have f0:∀ b∈fp,(upd H2 s2.heap.objs.size (.lst [])) b=none:=λ b hb=>by rw [zqg (jc5 (hfp b hb))];exact (hf b hb).1
 have loop:∀ s₃:va3,s₃={ s2 with heap:=h₁ } ->
   vl9 (vb3 X.prog X.w) X.A (.compLoop (.ListComp elt [⟨tg,iter,ifs,0⟩] scope pos) 0 (.ref it) (.ref s2.heap.objs.size) (compEnvC scope (zgn X scope HP.objs.size) HP.objs.size X.env))
    (RR (.ref s2.heap.objs.size) HP.objs.size) s₃:=by
  rintro s₃ rfl
  refine zvz (λ n s'=>∃ i H' ys,Inv (zqm X s2 H2 scope HP.objs.size N' fp pins) [] (σ++ja5 k none) H' s'/\tn i s'.heap/\(∀ b∈fp,H' b=none)/\W i n ys H') ?_ m0 ⟨0,_,[],I3,st1,f0,w0⟩
  rintro n s4 ⟨i,H4,ys,I4,st4,fr4,w4⟩
  obtain ⟨hD4,hcase⟩:=hW i n ys H4 w4
  rcases hcase with ⟨stop,qn⟩ | ⟨go,step⟩
  ·refine thn (T.done (zqm X s2 H2 scope HP.objs.size N' fp pins) rfl rfl rfl hcalm i [] s4 _ H4 (λ _ _=>False) I4 (fx fr4) st4 stop) λ r s5 ⟨hr,I5⟩=>?_
   subst hr
   exact hRR _ _ _ _ _ hCle I5 qn
  ·refine thn (T.item (zqm X s2 H2 scope HP.objs.size N' fp pins) rfl rfl rfl hcalm i [] s4 _ H4 (λ _ _=>False) I4 (fx fr4) st4 go) λ r s5 ⟨u,hr,h5⟩=>?_
   subst hr
   refine thn h5 λ _ s6 ⟨x,H6,I6,r6,y6,st6,fr6⟩=>?_
   have I6':=I6.pinned (fx fr6) (T.obj _ _ st6)
   have stays:∀ {σ':St}{H':Hp}{s':va3},Inv (zqm X s2 H2 scope HP.objs.size N' fp pins) ([]++zfm fp s6.heap) σ' H' s'->Inv (zqm X s2 H2 scope HP.objs.size N' fp pins) [] (σ++ja5 k none) H' s'/\tn (i + 1) s'.heap/\∀ b∈fp,H' b=none:=λ {σ' H' s'} J=>by
    refine ⟨c.again I hf J.unpinned,T.keep _ _ _ st6 λ b hb o e=>(J.pin (b,o) (ja2 _ (ja2 _ (zvj hb e)))).1,λ b hb=>?_⟩
    obtain ⟨o,e,d⟩:=T.obj _ _ st6 b hb
    exact (J.pin (b,o) (ja2 _ (ja2 _ (zvj hb e)))).2.1
   refine thn (hg _ _ _ s6 _ H6 x u _ I6' r6 (step x H6 y6)) λ _ s7 ⟨σ7,H7,I7,q7⟩=>?_
   refine thn (hc _ _ _ s7 σ7 H7 _ I7 q7) λ b s8 ⟨H8,I8,q8⟩=>?_
   cases b with
   | false=>
    rw [if_neg jb8] at q8 ⊢
    obtain ⟨m',hm,w'⟩:=q8
    obtain ⟨j1,j2,j3⟩:=stays I8
    exact ⟨m',hm,i + 1,H8,ys,j1,j2,j3,w'⟩
   | true=>
    rw [if_pos rfl] at q8 ⊢
    refine thn (he _ _ _ s8 σ7 H8 _ I8 q8) λ y s9 ⟨z,H9,I9,r9,hD9,hz9,m',hm,w'⟩=>?_
    refine thn (zkl (X:=zqm X s2 H2 scope HP.objs.size N' fp pins) _ s9 σ7 H9 (.ref s2.heap.objs.size) [z] (.ref s2.heap.objs.size) [y] (λ _ H'=>H'=upd H9 s2.heap.objs.size (.lst (ys++[z]))) I9 rfl (.cons r9 .nil) ⟨_,ys,z,rfl,rfl,hD9,hz9,rfl⟩) λ _ s10 ⟨_,H10,I10,_,e10⟩=>?_
    subst e10
    obtain ⟨j1,j2,j3⟩:=stays I10
    exact ⟨m',hm,i + 1,_,_,j1,j2,j3,w'⟩
 exact codeAny_compStart_list (loop _ rfl) (T.self _ 0 _ _ _ st1 (loop _ rfl))
theorem CompOk.out (I:Inv X pins σ H2 s2) (hf:∀ b∈fp,FpOk X pins H2 b) {σ':St}{H':Hp}{s':va3} (J:Inv (zqm X s2 H2 scope C N' fp pins) [] σ' H' s'):Inv X pins σ H' s':=
 I.call' (ch:=fp) J.os J.base J.hok J.bare λ b hb=>⟨(hf b hb).2.2.2.1,(hf b hb).2.1,(hf b hb).2.2.2.2.1,(hf b hb).2.2.2.2.2⟩
theorem CompOk.away (I:Inv X pins σ H2 s2) (hC:s2.heap.objs.size<=C) {σ':St}{H':Hp}{s':va3} (J:Inv X pins σ' H' s') (hC':H' C=none) {h':Heap} (sb:vh9 C s'.heap h'):Inv X pins σ' H' { s' with heap:=h' }:=by
 have lt:∀ b o,s2.heap.get? b=some o->b≠C:=λ b o e=>jc5 (jb5 (va6 e) hC)
 refine J.turned (t':=s'.toks) (it:=C) (λ b o hb e=>(sb.2 b hb).trans e) hC' (jg1 (jb5 I.lt hC)) (.inr (jd3 I.sz hC)) (λ x c h=>?_) λ p hp=>?_
 ·obtain ⟨v,o,ho,_⟩:=I.cell x c h
  exact lt c o ho
 ·exact lt p.1 p.2 (I.pin p hp).1
variable {elt iter tg:Expr}{ifs:List Expr}{pos:Pos}{wi:TI}{g:TG}{tc:TT}{te:TE}
theorem qdk (c:CompOk X scope N' k) (hcalm:X.calm=true) (hi:PI X tg iter wi) (hg:∀ s2 H2 C fp pins,PG (zqm X s2 H2 scope C N' fp pins) tg g) (hc:∀ s2 H2 C fp pins,PTs (zqm X s2 H2 scope C N' fp pins) ifs tc)
  (he:∀ s2 H2 C fp pins,PE (zqm X s2 H2 scope C N' fp pins) elt te) (hs:∀ x,vi2 iter X.env x=pure x):PE X (.ListComp elt [⟨tg,iter,ifs,0⟩] scope pos) (zha k wi g tc te):=by
 intro pins s σ H Q I h
 rw [eval_ListComp]
 refine wpAny_comprehension_free (use:=none) rfl hs (zks (c.cells I)) c.kind c.names ?_
 refine thn (hi pins s σ H _ I h) λ v s1 h1=>thn h1 λ itv s2 h2=>?_
 obtain ⟨it,fp,tn,J,H',e,I2,T,st2,f2,W⟩:=h2
 subst e
 refine zpp (RR:=λ acc C=>compPost (vb3 X.prog X.w) X.A X.xe none (EP X pins σ Q) acc C) c hcalm I2 T st2 f2 (λ C fp=>hg s2 H' C fp pins) (λ C fp=>hc s2 H' C fp pins) (λ C fp=>he s2 H' C fp pins) W λ D C σ' H3 s' hC J3 q=>?_
 obtain ⟨m,ns,_⟩:=J3.loc
 exact ⟨m,ns,λ h' sb=>⟨.ref D,H3,CompOk.away I2 hC (CompOk.out I2 f2 J3) J3.free sb,rfl,q⟩⟩
theorem qbt {i:Nat}{x:Str}{pos' spos:Pos} (hN:X.N.Nodup) (hi':X.N[i]?=some x) (hx:Loc X.env.scope x) (hfn:X.fn x=true\/X.env.scope.names.lookup x=some .local) (c:CompOk X scope N' k) (hcalm:X.calm=true) (hi:PI X tg iter wi) (hg:∀ s2 H2 C fp pins,PG (zqm X s2 H2 scope C N' fp pins) tg g) (hc:∀ s2 H2 C fp pins,PTs (zqm X s2 H2 scope C N' fp pins) ifs tc)
  (he:∀ s2 H2 C fp pins,PE (zqm X s2 H2 scope C N' fp pins) elt te) (hs:∀ x,vi2 iter X.env x=pure x):PS X (.Assign [.Name x pos'] (.ListComp elt [⟨tg,iter,ifs,0⟩] scope pos) spos) (tAsg (zha k wi g tc te) (zvo i)):=by
 have hsw:∃ b,swapsWith (.ListComp elt [⟨tg,iter,ifs,0⟩] scope pos) (some (.Name x pos')) spos.line X.env=pure b:=⟨_,rfl⟩
 obtain ⟨b,hsw⟩:=hsw
 cases b with
 | false=>exact qam hN hi' hx (qdk c hcalm hi hg hc he hs) hsw hfn
 | true=>
  intro pins s σ H D I h
  rw [exec_Assign_Name_used _ _ _ _ hsw]
  refine va0 (wpAny_standAt (va0 ?_))
  show vb1 _ X.A (do let _<-comprehension (.ListComp elt [⟨tg,iter,ifs,0⟩] scope pos) scope X.env _ (newList []) false (eval iter X.env) (some (vo2 (.Name x pos') X.env))) _ _ s
  refine va0 (vd9 (wpAny_comprehension_free (use:=some (vo2 (.Name x pos') X.env)) (Q:=λ _ s'=>SP X pins D .next s') rfl hs (zks (c.cells I)) c.kind c.names ?_) (λ _ s' hq=>va5 (va5 hq)) λ _ _ e=>e)
  refine thn (hi pins s σ H _ I h) λ v s1 h1=>thn h1 λ itv s2 h2=>?_
  obtain ⟨it,fp,tn,J,H',e,I2,T,st2,f2,W⟩:=h2
  subst e
  refine zpp (Q:=λ x H1=>zvo i x σ H1 D.nx) (RR:=λ acc C=>compPost (vb3 X.prog X.w) X.A X.xe (some (vo2 (.Name x pos') X.env)) (λ _ s'=>SP X pins D .next s') acc C) c hcalm I2 T st2 f2 (λ C fp=>hg s2 H' C fp pins) (λ C fp=>hc s2 H' C fp pins) (λ C fp=>he s2 H' C fp pins) W λ E C σ' H3 s' hC J3 q=>?_
  obtain ⟨m,ns,_⟩:=J3.loc
  have I3:=CompOk.out I2 f2 J3
  show vb1 _ X.A (vo2 (.Name x pos') X.env (.ref E)) _ _ _
  refine wpAny_assign_Name (zfd I3 hN hi' hx (v:=.ref E) rfl (λ s'' I4 hsb=>?_) hfn)
  obtain ⟨a,sb,ha⟩:=hsb
  have hCa:C≠a:=by
   rcases ha with z | z
   ·rw [z];exact jg1 (jb5 I2.lt hC)
   ·obtain ⟨v,o,ho,_⟩:=I2.cell x a z
    exact jg1 (jb5 (va6 ho) hC)
  exact ⟨m,ns.sameBut sb hCa,λ h' sb'=>⟨_,H3,CompOk.away I2 hC I4 J3.free sb',q⟩⟩
theorem qfq {P:vb0}{w:vb8}{K:Frag}{tg:Expr} (z:Str) (tk:Tok) (it:Addr):Turn P w K tg (ItS z) [it] it (λ i h=>h.IsStrIter it "str_ascii_iterator" z tk i) where
 mem:=by simp
 obj:=λ i h st b hb=>by
  have e:b=it:=by simpa using hb
  subst e
  obtain ⟨o,e,c,d⟩:=st
  exact ⟨o,e,λ v z=>by rw [d] at z;cases z⟩
 keep:=λ i h h' st k=>by
  obtain ⟨o,e,r⟩:=st
  exact ⟨o,k it (by simp) o e,r⟩
 item:=by
  intro X hP hw hK hc i pins s σ H E I hf st hg
  subst hP hw hK
  have hi:i < z.cps.size:=hg
  obtain ⟨f0,f1,f2,f3,f4,f5⟩:=hf it (by simp)
  refine wpAny_pyNext_ascii_item st (c:=z.cps[i]) (by simp [hi]) λ h' st' sb=>?_
  have I1:Inv X pins σ H { s with heap:=h',toks:=s.toks + 1 }:=I.turned (t':=s.toks + 1) (λ b o hb e=>(sb.2 b hb).trans e) f0 f1 f3 f4 f5
  obtain ⟨o,e,c,d⟩:=id st'
  exact ⟨_,rfl,qg6 (s:={ s with heap:=h',toks:=s.toks + 1 }) e c d (by decide) ⟨.str ⟨#[z.cps[i]]⟩,H,I1,⟨_,rfl⟩,⟨rfl,z.cps[i],by simp [hi],rfl⟩,st',λ b hb=>(hf b hb).1⟩⟩
 done:=by
  intro X hP hw hK hc i pins s σ H E I hf st hg
  subst hP hw hK
  have hi:z.cps.size<=i:=hg
  obtain ⟨f0,f1,f2,f3,f4,f5⟩:=hf it (by simp)
  exact wpAny_pyNext_ascii_end (I.ok.hd hc) st (by simp;omega) λ h' eb=>⟨rfl,I.turned (t':=s.toks) (λ b o hb e=>eb b o hb e) f0 f1 f3 f4 f5⟩
 self:=λ _ _ _ _ _ st h=>wpAny_pyIter_striter_ascii st h
theorem qde {l:Expr}{tl:TE} (hl:PE X l tl):PI X tg l (iSeq X.K tl):=by
 intro pins s σ H R I h
 refine thn (hl pins s σ H _ I h) λ v s1 ⟨x,H1,I1,r1,q1⟩=>?_
 obtain ⟨a,e,⟨⟨xs,hq⟩,q⟩ | ⟨⟨xs,hq⟩,q⟩⟩ | ⟨z,e,ha,q⟩:=q1
 ·subst e
  cases r1
  obtain ⟨its,rv,p,hz⟩:=I1.list hq
  refine wpAny_pyIter_list p.isList ?_
  refine ⟨s1.heap.objs.size,[s1.heap.objs.size],_,_,H1,rfl,I1.kept (t':=s1.toks) λ b o e=>va1 _ e,qcc a _,⟨_,va7 _ rfl,rfl,rfl⟩,λ b hb=>?_,q⟩
  have e:b=s1.heap.objs.size:=by simpa using hb
  subst e
  exact I1.fpOk (jb4 _) (I1.hok.fresh (jb4 _))
 ·subst e
  cases r1
  obtain ⟨its,rv,p,hz⟩:=I1.tuple hq
  refine vf9 (show s1.heap.IsTuple a its.toArray from p) ?_
  refine ⟨s1.heap.objs.size,[s1.heap.objs.size],_,_,H1,rfl,I1.kept (t':=s1.toks) λ b o e=>va1 _ e,qbo a _,⟨_,va7 _ rfl,rfl,rfl⟩,λ b hb=>?_,q⟩
  have e:b=s1.heap.objs.size:=by simpa using hb
  subst e
  exact I1.fpOk (jb4 _) (I1.hok.fresh (jb4 _))
 ·subst e
  obtain ⟨tk,rfl⟩:=r1
  refine wpAny_pyIter_ascii ha ?_
  refine ⟨s1.heap.objs.size,[s1.heap.objs.size],_,_,H1,rfl,I1.kept (t':=s1.toks) λ b o e=>va1 _ e,qfq z tk _,⟨_,va7 _ rfl,rfl,rfl⟩,λ b hb=>?_,q⟩
  have e:b=s1.heap.objs.size:=by simpa using hb
  subst e
  exact I1.fpOk (jb4 _) (I1.hok.fresh (jb4 _))
end
section
variable {M:Fm}{vs:List Nat}{H:Hp}{fps:Fps}{F:List Addr}{Q:VK}
theorem zxg {k:Int}{d:Nat} (h:Leaf M H fps vs F (.int k) d Q):Q (.int k) H:=h (.int k) H [] (λ _ _ h=>h) (by rw [Own];exact ⟨rfl,rfl⟩) (λ _ z=>nomatch z)
theorem zxn {k:Bool}{d:Nat} (h:Leaf M H fps vs F (.bl k) d Q):Q (.bl k) H:=h (.bl k) H [] (λ _ _ h=>h) (by rw [Own];exact ⟨rfl,rfl⟩) (λ _ z=>nomatch z)
theorem qgt {k:Str}{d:Nat} (h:Leaf M H fps vs F (.str k) d Q):Q (.str k) H:=h (.str k) H [] (λ _ _ h=>h) (by rw [Own];exact ⟨rfl,rfl⟩) (λ _ z=>nomatch z)
theorem zvb {x:PV}{v:V} (h:Leaf M H fps vs F x (dv x) Q) (o:Own M.K H (Zv M vs fps) x 0 v []):Q v H:=h v H [] (λ _ _ h=>h) (o.dv.weak λ a z=>z.elim id λ z=>nomatch z) (λ _ z=>nomatch z)
theorem zxf {p:Addr}{o:HO} (hp:H p=none):∀ a u,H a=some u->upd H p o a=some u:=λ a u h=>by rw [zqg (λ e=>by rw [e,hp] at h;cases h)];exact h
theorem zfz {xs:List PV}{ws:List V} (h:Leaf M H fps vs F (.lst xs) 1 Q) (o:OwnL M.K H (Zv M vs fps) xs 0 ws []) {p:Addr} (hp:H p=none):Q (.ref p) (upd H p (.lst ws)):=by
 refine h (.ref p) _ [p] (zxf hp) ?_ λ a ha=>.inr (by rw [jb6.mp ha];exact hp)
 rw [Own]
 refine ⟨p,ws,rfl,.inr ⟨(by decide),[],zqi,rfl,(λ z=>nomatch z),?_⟩⟩
 rw [qaq]
 exact OwnL.move (S:=λ _=>False) (λ a u ha _=>zxf hp a u ha) (λ _ z=>z.elim) (λ a hd nz z=>z.elim nz λ z=>hd (by rw [jb6.mp z];exact hp)) xs 0 ws [] (λ _ z=>nomatch z) o
def atoms:List PV->Bool
 | []=>true
 | x::xs=>zwn x && atoms xs
def zhn:PV->Bool
 | .tup xs=>atoms xs
 | x=>zwn x
def zkb:List PV->Bool
 | []=>true
 | x::xs=>zhn x && zkb xs
def d1 (xs:List PV):Nat:=if zkb xs=true then om else 1
theorem OwnL.ats {K:Frag}{H:Hp}{Z Z':Addr->Prop}:∀ {xs:List PV}{ws:List V}{d d':Nat},QQ.atoms xs=true->OwnL K H Z xs d' ws []->OwnL K H Z' xs d ws []
 | [],ws,d,_,_,h=>by rw [OwnL] at h ⊢;exact h
 | x::xs,ws,d,_,ha,h=>by
  unfold QQ.atoms at ha
  rw [jb0] at ha
  rw [OwnL] at h ⊢
  obtain ⟨v,s,f1,f2,rfl,ef,dj,h1,h2⟩:=h
  obtain ⟨rfl,rfl⟩:f1=[]/\f2=[]:=by simpa using ef.symm
  exact ⟨v,s,[],[],rfl,rfl,dj,(Own.atom ha.1 h1).2,h2.ats ha.2⟩
theorem Own.flat {K:Frag}{H:Hp}{Z Z':Addr->Prop}{x:PV}{v:V}{d d':Nat} (hx:zhn x=true) (h:Own K H Z x d' v []):Own K H Z' x d v []:=by
 cases x with
 | tup xs=>
  rw [Own] at h ⊢
  obtain ⟨a,vs,e,ha,hl⟩:=h
  exact ⟨a,vs,e,ha,hl.ats hx⟩
 | lst _=>cases hx
 | dct _=>cases hx
 | exn _=>exact (Own.atom rfl h).2
 | emp=>exact (Own.atom rfl h).2
 | dko=>exact (Own.atom rfl h).2
 | scr _=>exact (Own.atom rfl h).2
 | non=>exact (Own.atom rfl h).2
 | bl _=>exact (Own.atom rfl h).2
 | int _=>exact (Own.atom rfl h).2
 | str _=>exact (Own.atom rfl h).2
theorem OwnL.ats0 {K:Frag}{H:Hp}{Z:Addr->Prop}:∀ {xs:List PV}{ws:List V}{d:Nat}{f:List Addr},QQ.atoms xs=true->OwnL K H Z xs d ws f->f=[]
 | [],ws,d,f,_,h=>by rw [OwnL] at h;exact h.2
 | x::xs,ws,d,f,ha,h=>by
  unfold QQ.atoms at ha
  rw [jb0] at ha
  rw [OwnL] at h
  obtain ⟨v,s,f1,f2,rfl,rfl,dj,h1,h2⟩:=h
  rw [(Own.atom (Z':=Z) (d':=d) ha.1 h1).1,h2.ats0 ha.2]
  rfl
theorem Own.flatA {K:Frag}{H:Hp}{Z Z':Addr->Prop}{x:PV}{v:V}{d d':Nat}{f:List Addr} (hx:zhn x=true) (h:Own K H Z x d v f):f=[]/\Own K H Z' x d' v []:=by
 have e:f=[]:=by
  cases x with
  | tup xs=>
   rw [Own] at h
   obtain ⟨a,vs,e,ha,hl⟩:=h
   exact hl.ats0 hx
  | lst _=>cases hx
  | dct _=>cases hx
  | exn _=>exact (Own.atom (Z':=Z) (d':=d) rfl h).1
  | emp=>exact (Own.atom (Z':=Z) (d':=d) rfl h).1
  | dko=>exact (Own.atom (Z':=Z) (d':=d) rfl h).1
  | scr _=>exact (Own.atom (Z':=Z) (d':=d) rfl h).1
  | non=>exact (Own.atom (Z':=Z) (d':=d) rfl h).1
  | bl _=>exact (Own.atom (Z':=Z) (d':=d) rfl h).1
  | int _=>exact (Own.atom (Z':=Z) (d':=d) rfl h).1
  | str _=>exact (Own.atom (Z':=Z) (d':=d) rfl h).1
 subst e
 exact ⟨rfl,h.flat hx⟩
theorem OwnL.atoms {K:Frag}{H:Hp}{Z Z':Addr->Prop}:∀ {xs:List PV}{ws:List V}{d:Nat},zkb xs=true->OwnL K H Z xs 0 ws []->OwnL K H Z' xs d ws []
 | [],ws,d,_,h=>by rw [OwnL] at h ⊢;exact h
 | x::xs,ws,d,ha,h=>by
  unfold zkb at ha
  rw [jb0] at ha
  rw [OwnL] at h ⊢
  obtain ⟨v,s,f1,f2,rfl,ef,dj,h1,h2⟩:=h
  obtain ⟨rfl,rfl⟩:f1=[]/\f2=[]:=by simpa using ef.symm
  exact ⟨v,s,[],[],rfl,rfl,dj,h1.flat ha.1,h2.atoms ha.2⟩
theorem zwe {xs:List PV}{ws:List V} (h:Leaf M H fps vs F (.lst xs) (d1 xs) Q) (o:OwnL M.K H (Zv M vs fps) xs 0 ws []) {p:Addr} (hp:H p=none):Q (.ref p) (upd H p (.lst ws)):=by
 unfold d1 at h
 split at h
 ·rename_i ha
  refine h (.ref p) _ [p] (zxf hp) ?_ λ a ha=>.inr (by rw [jb6.mp ha];exact hp)
  rw [Own]
  refine ⟨p,ws,rfl,.inr ⟨(by decide),[],zqi,rfl,(λ z=>nomatch z),?_⟩⟩
  have o':OwnL M.K (upd H p (.lst ws)) (Zv M vs fps) xs 0 ws []:=OwnL.move (S:=λ _=>False) (λ a u ha _=>zxf hp a u ha) (λ _ z=>z.elim) (λ _ _ n=>n) xs 0 ws [] (λ _ z=>nomatch z) o
  exact o'.atoms ha
 ·exact zfz h o hp
theorem zyz {xs:List PV}{ws:List V} (h:Leaf M H fps vs F (.tup xs) 0 Q) (o:OwnL M.K H (Zv M vs fps) xs 0 ws []) {p:Addr} (hp:H p=none):Q (.ref p) (upd H p (.tup ws)):=by
 refine h (.ref p) _ [] (zxf hp) ?_ λ a ha=>nomatch ha
 rw [Own]
 refine ⟨p,ws,rfl,zqi,?_⟩
 rw [zmb]
 exact OwnL.move (S:=λ _=>False) (λ a u ha _=>zxf hp a u ha) (λ _ z=>z.elim) (λ a hd nz z=>z.elim nz λ z=>nomatch z) xs 0 ws [] (λ _ z=>nomatch z) o
theorem zpf {xs:List PV}{ws:List V} (h:Leaf M H fps vs F (.lst xs) om Q) {Z:Addr->Prop} (o:OwnL M.K H Z xs om ws F) {p:Addr} (hp:H p=none):Q (.ref p) (upd H p (.lst ws)):=by
 refine h (.ref p) _ (p::F) (zxf hp) ?_ λ a ha=>(jb3.mp ha).elim (λ e=>.inr (by rw [e];exact hp)) .inl
 rw [Own]
 refine ⟨p,ws,rfl,.inr ⟨(by decide),F,zqi,rfl,λ z=>?_,?_⟩⟩
 ·obtain ⟨ys,e⟩:=OwnL.lsts xs om ws F o p z
  rw [hp] at e;cases e
 ·exact OwnL.full xs ws F (OwnL.move (S:=λ _=>False) (Z':=Z) (λ a u ha _=>zxf hp a u ha) (λ _ z=>z.elim) (λ _ _ n=>n) xs om ws F (λ _ _ z=>z) o)
theorem qd6 {xs:List PV}{ws:List V} (h:Leaf M H fps vs F (.tup xs) om Q) {Z:Addr->Prop} (o:OwnL M.K H Z xs om ws F) {p:Addr} (hp:H p=none):Q (.ref p) (upd H p (.tup ws)):=by
 refine h (.ref p) _ F (zxf hp) ?_ λ a ha=>.inl ha
 rw [Own]
 exact ⟨p,ws,rfl,zqi,OwnL.full xs ws F (OwnL.move (S:=λ _=>False) (Z':=Z) (λ a u ha _=>zxf hp a u ha) (λ _ z=>z.elim) (λ _ _ n=>n) xs om ws F (λ _ _ z=>z) o)⟩
end
theorem Own.seqL {K:Frag}{H:Hp}{Z:Addr->Prop}{xs:List PV}{d:Nat}{v:V}{fp:List Addr} (h:Own K H Z (.lst xs) d v fp):∃ a ws,v=.ref a/\SqL K H a ws/\ws.length=xs.length:=by
 rw [Own] at h
 obtain ⟨a,ws,e,⟨_,hr,_,ol⟩ | ⟨_,f,ha,_,_,ol⟩⟩:=h
 ·exact ⟨a,ws,e,.inl (.inl hr.1),ol.length⟩
 ·exact ⟨a,ws,e,.inl (.inl ha),ol.length⟩
theorem Own.seqT {K:Frag}{H:Hp}{Z:Addr->Prop}{xs:List PV}{d:Nat}{v:V}{fp:List Addr} (h:Own K H Z (.tup xs) d v fp):∃ a ws,v=.ref a/\SqT K H a ws/\ws.length=xs.length:=by
 rw [Own] at h
 obtain ⟨a,ws,e,hr,ol⟩:=h
 exact ⟨a,ws,e,.inl (.inl hr),ol.length⟩
theorem Own.coldL {K:Frag}{H:Hp}{Z:Addr->Prop}{xs:List PV}{v:V} (h:Own K H Z (.lst xs) 0 v []):∃ a ws,v=.ref a/\H a=some (.lst ws)/\OwnL K H Z xs 0 ws []:=by
 rw [Own] at h
 obtain ⟨a,ws,e,⟨_,hr,_,ol⟩ | ⟨h,_⟩⟩:=h
 ·exact ⟨a,ws,e,hr.1,ol⟩
 ·exact absurd rfl h
theorem Own.coldT {K:Frag}{H:Hp}{Z:Addr->Prop}{xs:List PV}{v:V} (h:Own K H Z (.tup xs) 0 v []):∃ a ws,v=.ref a/\H a=some (.tup ws)/\OwnL K H Z xs 0 ws []:=by
 rw [Own] at h
 exact h
theorem OwnL.app {K:Frag}{H:Hp}{Z:Addr->Prop}:∀ {xs ys:List PV}{ws us:List V},OwnL K H Z xs 0 ws []->OwnL K H Z ys 0 us []->OwnL K H Z (xs++ys) 0 (ws++us) []
 | [],ys,ws,us,h,h'=>by rw [OwnL] at h;obtain ⟨rfl,_⟩:=h;exact h'
 | x::xs,ys,ws,us,h,h'=>by
  rw [OwnL] at h
  obtain ⟨v,s,f1,f2,rfl,ef,dj,h1,h2⟩:=h
  obtain ⟨rfl,rfl⟩:f1=[]/\f2=[]:=by simpa using ef.symm
  show OwnL K H Z (x::(xs++ys)) 0 (v::(s++us)) []
  rw [OwnL]
  exact ⟨v,s++us,[],[],rfl,rfl,λ _ z=>(nomatch z),h1,h2.app h'⟩
theorem OwnL.drop {K:Frag}{H:Hp}{Z:Addr->Prop}:∀ {xs:List PV}{ws:List V} (n:Nat),OwnL K H Z xs 0 ws []->OwnL K H Z (xs.drop n) 0 (ws.drop n) []
 | xs,ws,0,h=>h
 | [],ws,n + 1,h=>by rw [OwnL] at h;obtain ⟨rfl,_⟩:=h;rw [jp7,jp7,OwnL];exact ⟨rfl,rfl⟩
 | x::xs,ws,n + 1,h=>by
  rw [OwnL] at h
  obtain ⟨v,s,f1,f2,rfl,ef,dj,h1,h2⟩:=h
  obtain ⟨rfl,rfl⟩:f1=[]/\f2=[]:=by simpa using ef.symm
  exact h2.drop n
theorem OwnL.take {K:Frag}{H:Hp}{Z:Addr->Prop}:∀ {xs:List PV}{ws:List V} (n:Nat),OwnL K H Z xs 0 ws []->OwnL K H Z (xs.take n) 0 (ws.take n) []
 | xs,ws,0,h=>by rw [jj0,jj0,OwnL];exact ⟨rfl,rfl⟩
 | [],ws,n + 1,h=>by rw [OwnL] at h;obtain ⟨rfl,_⟩:=h;rw [jp8,jp8,OwnL];exact ⟨rfl,rfl⟩
 | x::xs,ws,n + 1,h=>by
  rw [OwnL] at h
  obtain ⟨v,s,f1,f2,rfl,ef,dj,h1,h2⟩:=h
  obtain ⟨rfl,rfl⟩:f1=[]/\f2=[]:=by simpa using ef.symm
  rw [jm6,jm6,OwnL]
  exact ⟨v,s.take n,[],[],rfl,rfl,λ _ z=>(nomatch z),h1,h2.take n⟩
theorem OwnL.nth {K:Frag}{H:Hp}{Z:Addr->Prop}{xs:List PV}{ws:List V}{j:Nat}{x:PV} (h:OwnL K H Z xs 0 ws []) (e:xs[j]?=some x):∃ w,ws[j]?=some w/\Own K H Z x 0 w []:=by
 have hj:j < ws.length:=by rw [h.length];exact (ja7.mp e).1
 obtain ⟨y,e1,e2⟩:=h.get (i:=j) (w:=ws[j]) (by simp [hj])
 rw [e] at e1;cases e1
 exact ⟨_,by simp [hj],e2⟩
theorem cold {M:Fm}{vs:List Nat}{H:Hp}{fps:Fps}{x:PV}{d:Nat}{v:V}{fp:List Addr} (o:Own M.K H (Zt M vs fps fp) x d v fp) (hf:∀ a∈fp,¬ Zf M fps a):Own M.K H (Zv M vs fps) x 0 v []:=
 Own.freeze (λ _ z=>.inl z) x d v fp (λ a ha z=>hf a ha z.zf) o
def zqf:PV->Nat->PV->Nat->Option (PV×Nat)
 | .int i,_,.int j,_=>some (.int (i + j),om)
 | .lst xs,_,.lst ys,_=>if xs.length + ys.length<=va4 then some (.lst (xs++ys),d1 (xs++ys)) else none
 | .tup xs,_,.tup ys,_=>if xs.length + ys.length<=va4 then some (.tup (xs++ys),0) else none
 | _,_,_,_=>none
def qbw (p:Int->Int->Bool) (g:Int->Int->Int):PV->Nat->PV->Nat->Option (PV×Nat)
 | .int i,_,.int j,_=>if p i j then some (.int (g i j),om) else none
 | _,_,_,_=>none
def pMul (i j:Int):Bool:=(decide (-(2 ^ 64) < i) && decide (i < 2 ^ 64)) || (decide (-(2 ^ 64) < j) && decide (j < 2 ^ 64))
def pDiv (_ j:Int):Bool:=decide (0 < j) && decide (j < 2 ^ 128)
def pMod (_ j:Int):Bool:=decide (0 < j)
def pPow (i j:Int):Bool:=decide (0<=j) && decide (j<=1000) && decide (i.natAbs < 2 ^ 64)
def zwa:=qbw (λ _ _=>true) (λ i j=>i - j)
def repL (n:Nat) (xs:List PV):List PV:=(ja5 n xs).flatten
def zxs:PV->Nat->PV->Nat->Option (PV×Nat)
 | .int i,_,.int j,_=>if pMul i j then some (.int (i * j),om) else none
 | .lst xs,_,.int k,_=>if 0<=k/\k < 2 ^ 62/\xs.length * k.toNat<=va4 then some (.lst (repL k.toNat xs),d1 (repL k.toNat xs)) else none
 | _,_,_,_=>none
def zpa:=qbw pDiv (λ i j=>i / j)
def zyt:=qbw pMod (λ i j=>i % j)
def zmc:=qbw pPow (λ i j=>i ^ j.toNat)
section
variable {X:Cx}
theorem qgk:OpR X (vg0 .FloorDiv) (rI (λ _ j=>0 < j/\j < 2 ^ 128) λ i j=>.int (i / j)):=opI λ i j _ _ _ _ _ hc q=>by
 have h1:(0:Int) < j:=hc.1
 have h2:j < 2 ^ 128:=hc.2
 refine floordiv_int (by (clear h2 h1;omega)) (by rw [Int.fdiv_eq_ediv_of_nonneg i (by (clear h2 h1;omega))];exact q) (.inl (PyProof.noPylong_of_log2 ?_))
 have h3:j.natAbs < 2 ^ 128:=by (clear h2 h1;omega)
 have h4:j.natAbs≠0:=by (clear h3 h2 h1;omega)
 have:=(Nat.log2_lt h4).mpr h3
 (clear h4 h3 h2 h1 hc;omega)
end
theorem zqn {X:Cx}{e:Expr}{t t':TE} (h:PE X e t) (i:∀ σ H Q,t' σ H Q->t σ H Q):PE X e t':=λ pins s σ H Q I q=>h pins s σ H Q I (i σ H Q q)
theorem zfl {X:Cx}{e:Expr}{t t':TT} (h:PT X e t) (i:∀ σ H Q,t' σ H Q->t σ H Q):PT X e t':=λ pins s σ H Q I q=>h pins s σ H Q I (i σ H Q q)
theorem qh3 {X:Cx}{e:Expr}{t t':TT} (h:PW X e t) (i:∀ σ H Q,t' σ H Q->t σ H Q):PW X e t':=λ wh pins s σ H Q I q=>h wh pins s σ H Q I (i σ H Q q)
theorem qia {X:Cx}{e:List Expr}{t t':TA} (h:PA X e t) (i:∀ σ H Q,t' σ H Q->t σ H Q):PA X e t':=λ p pins s σ H Q I q=>h p pins s σ H Q I (i σ H Q q)
theorem zqz {X:Cx}{e:Stmt}{t t':TS} (h:PS X e t) (i:∀ D σ H,t' D σ H->t D σ H):PS X e t':=λ pins s σ H D I q=>h pins s σ H D I (i D σ H q)
theorem zma {X:Cx}{e:List Stmt}{t t':TS} (h:PSs X e t) (i:∀ D σ H,t' D σ H->t D σ H):PSs X e t':=λ pins s σ H D I q=>h pins s σ H D I (i D σ H q)
section
variable {X:Cx}{M:Fm}{a b:Expr}{f g:Fx}{vs vs':List Nat}{pos:Pos}{σ:St}{H:Hp}{Q:VK}
theorem qgl:OpR X (vg0 .Add) (λ x y H Q=>∃ a b ys,x=.ref a/\y=.ref b/\SqT X.K H a []/\SqT X.K H b ys/\Q (.ref b) H):=by
 intro pins s σ H x y v u Q I rx ry h
 obtain ⟨a,b,ys,rfl,rfl,ha,hb,q⟩:=h
 cases rx
 cases ry
 obtain ⟨its,r1,p1,_⟩:=I.tuple ha
 obtain ⟨its2,r2,p2,_⟩:=I.tuple hb
 cases r1
 obtain ⟨⟨cls,dd,data,sl⟩,ho,hc,n,hd⟩:=id p1
 obtain ⟨⟨cls2,dd2,data2,sl2⟩,ho2,hc2,n2,hd2⟩:=id p2
 simp only at hc hd hc2 hd2
 subst hc hd hc2 hd2
 exact concat_meets ⟨_,ho,rfl⟩ ⟨_,ho2,rfl⟩ vn0 seq_tuple_add vj2 vj0 (vi6 _ _)
  (tuple_addW0 a b _ its2.toArray n n2 dd dd2 sl sl2 rfl) ⟨ho,ho2,⟨.ref b,H,I,rfl,q⟩⟩
theorem qml (hv:∀ i∈vs,M.Ms i=false) (hK:M.K=X.K) (ha:PE X a (tE M f vs)) (hb:PE X b (tE M g vs')):PE X (.BinOp a .Add b pos) (tE M (bBin zqf f g) (vs++vs')):=by
 refine zqn (qgd (qnk.or (qib.or (qj7.or qgl))) ha hb) λ σ H Q h=>zwx hv (λ x d y e z c v w H fps f1 f2 Q ho o1 o2 dj nz zd lf=>?_) h
 cases x with
 | int i=>
  cases y with
  | int j=>
   cases ho
   rw [Own] at o1 o2
   exact .inl ⟨i,j,o1.1,o2.1,zxg lf⟩
  | _=>cases ho
 | lst xs=>
  cases y with
  | lst ys=>
   dsimp only [zqf] at ho
   split at ho
   ·rename_i hl
    cases ho
    obtain ⟨p,ws,rfl,hp,ol⟩:=(cold o1 λ a ha=>nz a (ja9 _ ha)).coldL
    obtain ⟨p2,us,rfl,hp2,ol2⟩:=(cold o2 λ a ha=>nz a (ja2 _ ha)).coldL
    exact .inr (.inl ⟨p,p2,ws,us,rfl,rfl,hp,hp2,by rw [ol.length,ol2.length];exact hl,λ q hq=>zwe lf (ol.app ol2) hq⟩)
   ·cases ho
  | _=>cases ho
 | tup xs=>
  cases y with
  | tup ys=>
   dsimp only [zqf] at ho
   split at ho
   ·rename_i hl
    cases ho
    obtain ⟨p,ws,rfl,hp,ol⟩:=(cold o1 λ a ha=>nz a (ja9 _ ha)).coldT
    obtain ⟨p2,us,rfl,hp2,ol2⟩:=(cold o2 λ a ha=>nz a (ja2 _ ha)).coldT
    by_cases hw:ws=[]
    ·subst hw
     refine .inr (.inr (.inr ⟨p,p2,us,rfl,rfl,.inl (.inl hp),.inl (.inl hp2),?_⟩))
     have ex:xs=[]:=by
      have:=ol.length
      cases xs with
      | nil=>rfl
      | cons _ _=>simp at this
     subst ex
     exact zvb (x:=.tup ys) lf (by rw [Own];exact ⟨p2,us,rfl,hp2,ol2⟩)
    ·refine .inr (.inr (.inl ⟨p,p2,ws,us,rfl,rfl,.inl (.inl hp),.inl (.inl hp2),hw,by rw [ol.length,ol2.length];exact hl,λ hu=>?_,λ hu q hq=>zyz lf (ol.app ol2) hq⟩))
     subst hu
     have ey:ys=[]:=by
      have:=ol2.length
      cases ys with
      | nil=>rfl
      | cons _ _=>simp at this
     subst ey
     rw [jd9] at lf
     exact zvb (x:=.tup xs) lf (by rw [Own];exact ⟨p,ws,rfl,hp,ol⟩)
   ·cases ho
  | _=>cases ho
 | _=>cases ho
def zyo:PV->Nat->PV->Nat->Option (PV×Nat)
 | .lst xs,_,.lst ys,e=>if xs.length + ys.length<=va4 then some (.lst (xs++ys),if zkb xs=true/\e=om then om else d1 (xs++ys)) else none
 | _,_,_,_=>none
theorem OwnL.appF {K:Frag}{H:Hp}{Z:Addr->Prop}{ys:List PV}{us:List V}{fc:List Addr} (h':OwnL K H Z ys om us fc):∀ {xs:List PV}{ws:List V},OwnL K H Z xs om ws []->OwnL K H Z (xs++ys) om (ws++us) fc
 | [],ws,h=>by rw [OwnL] at h;obtain ⟨rfl,_⟩:=h;exact h'
 | x::xs,ws,h=>by
  rw [OwnL] at h
  obtain ⟨v,s,f1,f2,rfl,ef,dj,h1,h2⟩:=h
  obtain ⟨rfl,rfl⟩:f1=[]/\f2=[]:=by simpa using ef.symm
  show OwnL K H Z (x::(xs++ys)) om (v::(s++us)) fc
  rw [OwnL]
  exact ⟨v,s++us,[],fc,rfl,rfl,λ _ z=>(nomatch z),h1,OwnL.appF h' h2⟩
theorem qjn (hv:∀ i∈vs,M.Ms i=false) (hK:M.K=X.K) (ha:PE X a (tE M f vs)) (hb:PE X b (tE M g vs')):PE X (.BinOp a .Add b pos) (tE M (bBin zyo f g) (vs++vs')):=by
 refine zqn (qgd qib ha hb) λ σ H Q h=>zwx hv (λ x d y e z c v w H fps f1 f2 Q ho o1 o2 dj nz zd lf=>?_) h
 cases x with
 | lst xs=>
  cases y with
  | lst ys=>
   dsimp only [zyo] at ho
   split at ho
   ·rename_i hl
    cases ho
    obtain ⟨p,ws,rfl,hp,ol⟩:=(cold o1 λ a ha=>nz a (ja9 _ ha)).coldL
    split at lf
    ·rename_i hc
     obtain ⟨ht,rfl⟩:=hc
     obtain ⟨p2,us,fc,rfl,hp2,ef,na,ol2⟩:=o2.list (by decide)
     refine ⟨p,p2,ws,us,rfl,rfl,hp,hp2,by rw [ol.length,ol2.length];exact hl,λ q hq=>?_⟩
     have lf':Leaf M H fps (vs++vs') fc (.lst (xs++ys)) om Q:=λ u H' fp h1 h2 h3=>lf u H' fp h1 h2 λ a ha=>(h3 a ha).elim (λ z=>.inl (ja2 _ (by rw [ef];exact ja1 _ z))) .inr
     exact zpf lf' (OwnL.appF ol2 (ol.atoms ht)) hq
    ·obtain ⟨p2,us,rfl,hp2,ol2⟩:=(cold o2 λ a ha=>nz a (ja2 _ ha)).coldL
     exact ⟨p,p2,ws,us,rfl,rfl,hp,hp2,by rw [ol.length,ol2.length];exact hl,λ q hq=>zwe lf (ol.app ol2) hq⟩
   ·cases ho
  | _=>cases ho
 | _=>cases ho
theorem qaf {op:Operator}{p:Int->Int->Bool}{k:Int->Int->Int}{C:Int->Int->Prop} (hop:OpR X (vg0 op) (rI C λ i j=>.int (k i j))) (hC:∀ i j,p i j=true->C i j) (hv:∀ i∈vs,M.Ms i=false) (ha:PE X a (tE M f vs)) (hb:PE X b (tE M g vs')):
  PE X (.BinOp a op b pos) (tE M (bBin (qbw p k) f g) (vs++vs')):=by
 refine zqn (qgd hop ha hb) λ σ H Q h=>zwx hv (λ x d y e z c v w H fps f1 f2 Q ho o1 o2 dj nz zd lf=>?_) h
 cases x with
 | int i=>
  cases y with
  | int j=>
   dsimp only [qbw] at ho
   split at ho
   ·rename_i hp
    cases ho
    rw [Own] at o1 o2
    exact ⟨i,j,o1.1,o2.1,hC i j hp,zxg lf⟩
   ·cases ho
  | _=>cases ho
 | _=>cases ho
theorem OwnL.rep {K:Frag}{H:Hp}{Z:Addr->Prop}{xs:List PV}{ws:List V} (h:OwnL K H Z xs 0 ws []):∀ n,OwnL K H Z (repL n xs) 0 (ja5 n ws).flatten []
 | 0=>by
  unfold repL
  rw [jm7,jm7,jo2,jo2,OwnL];exact ⟨rfl,rfl⟩
 | n + 1=>by
  have:=h.rep n
  unfold repL at this ⊢
  rw [jf1,jf1,jg8,jg8]
  exact h.app this
theorem qj4:OpR X (vg0 .Sub) (rI (λ _ _=>True) λ i j=>.int (i - j)):=opI λ _ _ _ _ _ _ _ _ q=>sub_int q
theorem cMul {i j:Int} (h:pMul i j=true):CMul i j:=by
 unfold pMul at h
 simp only [je0,jb0,decide_eq_true_eq] at h
 exact h
theorem qmd (hv:∀ i∈vs,M.Ms i=false) (ha:PE X a (tE M f vs)) (hb:PE X b (tE M g vs')):PE X (.BinOp a .Mult b pos) (tE M (bBin zxs f g) (vs++vs')):=by
 refine zqn (qgd (qm9.or qm6) ha hb) λ σ H Q h=>zwx hv (λ x d y e z c v w H fps f1 f2 Q ho o1 o2 dj nz zd lf=>?_) h
 cases x with
 | int i=>
  cases y with
  | int j=>
   dsimp only [zxs] at ho
   split at ho
   ·rename_i hp
    cases ho
    rw [Own] at o1 o2
    exact .inl ⟨i,j,o1.1,o2.1,cMul hp,zxg lf⟩
   ·cases ho
  | _=>cases ho
 | lst xs=>
  cases y with
  | int k=>
   dsimp only [zxs] at ho
   split at ho
   ·rename_i hl
    cases ho
    obtain ⟨p,ws,rfl,hp,ol⟩:=(cold o1 λ a ha=>nz a (ja9 _ ha)).coldL
    rw [Own] at o2
    exact .inr ⟨p,k,ws,rfl,o2.1,hp,by omega,by omega,by rw [ol.length];exact hl.2.2,λ q hq=>zwe lf (ol.rep k.toNat) hq⟩
   ·cases ho
  | _=>cases ho
 | _=>cases ho
theorem cDiv {i j:Int} (h:pDiv i j=true):0 < j/\j < 2 ^ 128:=by
 unfold pDiv at h
 simp only [jb0,decide_eq_true_eq] at h
 exact h
theorem cMod {i j:Int} (h:pMod i j=true):0 < j:=by
 unfold pMod at h
 simpa using h
theorem cPow {i j:Int} (h:pPow i j=true):CPow i j:=by
 unfold pPow at h
 simp only [jb0,decide_eq_true_eq] at h
 exact ⟨h.1.1,by omega,h.2⟩
def zyd:PV->Nat->Option (PV×Nat)
 | .int i,_=>some (.int (-i),om)
 | _,_=>none
theorem qmc (ha:PE X a (tE M f vs)):PE X (.UnaryOp .USub a pos) (tE M (bUn zyd f) vs):=by
 refine zqn (qo4 qlh ha) λ σ H Q h=>qcr (λ x d z c v H fps f1 Q ho o1 nz zd lf=>?_) h
 cases x with
 | int i=>cases ho;rw [Own] at o1;exact ⟨i,o1.1,zxg lf⟩
 | _=>cases ho
def zwb (p:Int->Int->Bool):PV->Nat->PV->Nat->Option (PV×Nat)
 | .int i,_,.int j,_=>some (.bl (p i j),om)
 | _,_,_,_=>none
theorem zja {p:Int->Int->Bool}{x y z:PV}{d e c:Nat}{v w:V}{fps:Fps}{f1 f2 F:List Addr}{Z Z':Addr->Prop} (ho:zwb p x d y e=some (z,c)) (o1:Own M.K H Z x d v f1) (o2:Own M.K H Z' y e w f2) (lf:Leaf M H fps vs F z c Q):rI0 (λ i j=>.bl (p i j)) v w H Q:=by
 cases x with
 | int i=>
  cases y with
  | int j=>
   cases ho
   rw [Own] at o1 o2
   exact ⟨i,j,o1.1,o2.1,zxn lf⟩
  | _=>cases ho
 | _=>cases ho
def sV:PV->Option V
 | .non=>some .non
 | .bl b=>some (.bl b)
 | .int i=>some (.int i)
 | .str x=>some (.str x)
 | _=>none
def toDL (f:PV->Option vj1):List PV->Option (List vj1)
 | []=>some []
 | x::xs=>match f x,toDL f xs with
  | some a,some r=>some (a::r)
  | _,_=>none
def toD:Nat->PV->Option vj1
 | 0,_=>none
 | n + 1,x=>match x with
  | .non=>some .none
  | .bl b=>some (.bool b)
  | .int i=>some (.int i)
  | .str z=>if PyData.strOk z=true then some (.str z) else none
  | .lst xs=>(toDL (toD n) xs).map .list
  | .tup xs=>(toDL (toD n) xs).map .tuple
  | _=>none
def zky (f:PV->PV->Bool):List PV->List PV->Bool
 | [],[]=>true
 | x::xs,y::ys=>f x y && zky f xs ys
 | _,_=>false
def zjl:Nat->PV->PV->Bool
 | 0,_,_=>false
 | n + 1,x,y=>match x,y with
  | .non,.non=>true
  | .bl a,.bl b=>a == b
  | .int a,.int b=>a == b
  | .str a,.str b=>a == b
  | .emp,.emp=>true
  | .lst xs,.lst ys=>zky (zjl n) xs ys
  | .tup xs,.tup ys=>zky (zjl n) xs ys
  | _,_=>false
def opEq (neg:Bool) (x:PV) (_:Nat) (y:PV) (_:Nat):Option (PV×Nat):=match toD 20 x,toD 20 y with
 | some a,some b=>some (.bl (neg^^ve1 a b),om)
 | _,_=>match x,y with
  | .lst xs,.lst ys=>if zky (zjl 20) xs ys=true then some (.bl (neg^^true),om) else if xs.length≠ys.length then some (.bl (neg^^false),om) else none
  | .str a,.str b=>some (.bl (neg^^(a == b)),om)
  | .emp,.emp=>some (.bl (neg^^true),om)
  | .tup xs,.tup ys=>if zky (zjl 20) xs ys=true then some (.bl (neg^^true),om) else none
  | _,_=>none
theorem zkf {f:PV->Option vj1}{n:Nat} (hf:∀ x D,f x=some D->D.canLay0=true/\D.depth<=n):∀ {xs:List PV}{Ds:List vj1},toDL f xs=some Ds->vm4 Ds=true/\vf2 Ds<=n
 | [],Ds,h=>by cases h;rw [vm4,vf2];exact ⟨rfl,jh1 _⟩
 | x::xs,Ds,h=>by
  unfold toDL at h
  split at h
  ·rename_i a r h1 h2
   cases h
   have h3:=hf x a h1
   have h4:=zkf hf h2
   rw [vm4,vf2,h3.1,h4.1]
   exact ⟨rfl,Nat.max_le.mpr ⟨h3.2,h4.2⟩⟩
  ·cases h
theorem zww:∀ (n:Nat) (x:PV) (D:vj1),toD n x=some D->D.canLay0=true/\D.depth<=n
 | 0,_,_,h=>by cases h
 | n + 1,x,D,h=>by
  unfold toD at h
  cases x with
  | non=>cases h;rw [vg3,vh7] <;> first | exact ⟨rfl,jh1 _⟩ | (intros;contradiction)
  | bl b=>cases h;rw [vg3,vh7] <;> first | exact ⟨rfl,jh1 _⟩ | (intros;contradiction)
  | int i=>cases h;rw [vg3,vh7] <;> first | exact ⟨rfl,jh1 _⟩ | (intros;contradiction)
  | str z=>
   dsimp only at h
   split at h
   ·rename_i hz
    cases h;rw [vg3,vh7] <;> first | exact ⟨hz,jh1 _⟩ | (intros;contradiction)
   ·cases h
  | lst xs=>
   obtain ⟨Ds,e,rfl⟩:=jb7.mp h
   have:=zkf (zww n) e
   rw [vg3,vh7]
   exact ⟨this.1,jl8 this.2⟩
  | tup xs=>
   obtain ⟨Ds,e,rfl⟩:=jb7.mp h
   have:=zkf (zww n) e
   rw [vg3,vh7]
   exact ⟨this.1,jl8 this.2⟩
  | emp=>cases h
  | dko=>cases h
  | scr ns=>cases h
  | dct _=>cases h
  | exn _=>cases h
theorem zwr {pins:List (Addr×Obj)}{s:va3}{Z:Addr->Prop} (I:L2.Inv X pins σ H s):∀ (n:Nat) (x:PV) (d:Nat) (v:V) (fp:List Addr) (u:va2) (D:vj1),toD n x=some D->Own X.K H Z x d v fp->RelV v u->∃ as,Reads s.heap u D as
 | 0,_,_,_,_,_,_,h,_,_=>by cases h
 | n + 1,x,d,v,fp,u,D,h,o,r=>by
  have all:∀ (xs:List PV) (d:Nat) (ws:List V) (fp:List Addr) (us:List va2) (Ds:List vj1),toDL (toD n) xs=some Ds->OwnL X.K H Z xs d ws fp->Vals ws us->∃ as,ReadsAll s.heap us Ds as:=λ xs=>by
   induction xs with
   | nil=>
    intro d ws fp us Ds h o r
    cases h
    rw [OwnL] at o
    obtain ⟨rfl,_⟩:=o
    cases r
    exact ⟨_,.nil⟩
   | cons y ys ih=>
    intro d ws fp us Ds h o r
    unfold toDL at h
    split at h
    ·rename_i a rr h1 h2
     cases h
     rw [OwnL] at o
     obtain ⟨v,s,f1,f2,rfl,_,_,o1,o2⟩:=o
     cases r with
     | cons r1 r2=>
      obtain ⟨as,ra⟩:=zwr I n y d v f1 _ a h1 o1 r1
      obtain ⟨bs,rb⟩:=ih d s f2 _ rr h2 o2 r2
      exact ⟨_,.cons ra rb⟩
    ·cases h
  unfold toD at h
  cases x with
  | non=>cases h;rw [Own] at o;obtain ⟨rfl,_⟩:=o;cases r;exact ⟨_,.none⟩
  | bl b=>cases h;rw [Own] at o;obtain ⟨rfl,_⟩:=o;cases r;exact ⟨_,.bool b⟩
  | int i=>cases h;rw [Own] at o;obtain ⟨rfl,_⟩:=o;obtain ⟨t,rfl⟩:=r;exact ⟨_,.int i t⟩
  | str z=>
   dsimp only at h
   split at h
   ·cases h;rw [Own] at o;obtain ⟨rfl,_⟩:=o;obtain ⟨t,rfl⟩:=r;exact ⟨_,.str z t⟩
   ·cases h
  | lst xs=>
   obtain ⟨Ds,e,rfl⟩:=jb7.mp h
   have hh:∃ a ws d' f,v=.ref a/\H a=some (.lst ws)/\OwnL X.K H Z xs d' ws f:=by
    rw [Own] at o
    obtain ⟨a,ws,ev,⟨_,hr,_,ol⟩ | ⟨_,f,ha,_,_,ol⟩⟩:=o
    ·exact ⟨a,ws,_,_,ev,hr.1,ol⟩
    ·exact ⟨a,ws,_,_,ev,ha,ol⟩
   obtain ⟨a,ws,d',f,rfl,ha,ol⟩:=hh
   cases r
   obtain ⟨its,rv,⟨ob,nn,e1,e2,e3,e4⟩,_⟩:=I.list (.inl (.inl ha))
   obtain ⟨as,ra⟩:=all xs d' ws f its Ds e ol rv
   exact ⟨_,.list e1 e2 e4 ra⟩
  | tup xs=>
   obtain ⟨Ds,e,rfl⟩:=jb7.mp h
   rw [Own] at o
   obtain ⟨a,ws,rfl,ha,ol⟩:=o
   cases r
   obtain ⟨its,rv,⟨ob,e1,e2,nn,e4⟩,_⟩:=I.tuple (.inl (.inl ha))
   obtain ⟨as,ra⟩:=all xs _ ws fp its Ds e ol rv
   exact ⟨_,.tuple e1 e2 e4 ra⟩
  | emp=>cases h
  | dko=>cases h
  | scr ns=>cases h
  | dct _=>cases h
  | exn _=>cases h
theorem zpm {K':Type} [DecidableEq K'] {prog:vb0}{w:vb8}{knd:KeyKind prog w K'}{P:vb0}{w0:vb8}{h:Heap}{a:Addr} (x:h.DictOf (zxe P w0) a []):h.DictOf knd a []:=by
 obtain ⟨o,es,ep,h1,h2,h3,h4,h5,h6⟩:=x
 generalize hes:es.toList=l at h5
 cases h5
 have e:es=#[]:=Array.toList_eq_nil_iff.mp hes
 subst e
 exact ⟨o,#[],ep,h1,h2,h3,by intro z hz;simp at hz,.nil,.nil⟩
theorem qn7 {pins:List (Addr×Obj)}{s:va3} (I:L2.Inv X pins σ H s) {a b:Addr}{A:vc0} (ha:H a=some (.dK [])) (hb:H b=some (.dK [])) (hu:A.units < vi3):SeqAt.EqAt A s (.ref a) (.ref b) true:=by
 by_cases e:a=b
 ·subst e;exact vh2 _
 ·refine vl3 e λ prog w E Q hq=>?_
  obtain ⟨_,z1,vs,k1,d1⟩:=qeu I.hok ha
  obtain ⟨_,z2,ws,k2,d2⟩:=qeu I.hok hb
  cases k1
  cases k2
  exact PySem.W.keq_eq (knd:=zxe prog w) (r:=true) z1 z2 (zpm d1) (zpm d2) hu (λ _=>.nil) (by simpa using hq)
theorem zvi {Z:Addr->Prop}{xs:List PV}{d:Nat}{v:V}{fp:List Addr}{K:Frag} (o:Own K H Z (.lst xs) d v fp):∃ a ws d' f,v=.ref a/\H a=some (.lst ws)/\OwnL K H Z xs d' ws f:=by
 rw [Own] at o
 obtain ⟨a,ws,ev,⟨_,hr,_,ol⟩ | ⟨_,f,ha,_,_,ol⟩⟩:=o
 ·exact ⟨a,ws,_,_,ev,hr.1,ol⟩
 ·exact ⟨a,ws,_,_,ev,ha,ol⟩
theorem zkt {n:Nat}{e:Nat->Bool} (h:∀ j,j < n->e j=true):(jd0 n).all e=true:=jc7.mpr λ j hj=>h j (jf4.mp hj)
theorem qc1 {pins:List (Addr×Obj)}{s:va3}{Z Z':Addr->Prop} (I:L2.Inv X pins σ H s):∀ (n:Nat) (x y:PV) (d e:Nat) (v w:V) (f1 f2:List Addr) (u u':va2) (A:vc0),A.units + n < vi3->zjl n x y=true->Own X.K H Z x d v f1->Own X.K H Z' y e w f2->RelV v u->RelV w u'->SeqAt.EqAt A s u u' true
 | 0,_,_,_,_,_,_,_,_,_,_,_,_,h,_,_,_,_=>by cases h
 | n + 1,x,y,d,e,v,w,f1,f2,u,u',A,hu,h,o1,o2,r1,r2=>by
  have all:∀ (xs ys:List PV) (d e:Nat) (vs ws:List V) (f1 f2:List Addr) (us us':List va2),zky (zjl n) xs ys=true->OwnL X.K H Z xs d vs f1->OwnL X.K H Z' ys e ws f2->Vals vs us->Vals ws us'->us.length=us'.length/\∀ j (h1:j < us.length) (h2:j < us'.length),SeqAt.EqAt A.in1 s us[j] us'[j] true:=λ xs=>by
   induction xs with
   | nil=>
    intro ys d e vs ws f1 f2 us us' h o1 o2 r1 r2
    cases ys with
    | cons _ _=>cases h
    | nil=>
     rw [OwnL] at o1 o2
     obtain ⟨rfl,_⟩:=o1
     obtain ⟨rfl,_⟩:=o2
     cases r1
     cases r2
     exact ⟨rfl,λ j h1 _=>nomatch h1⟩
   | cons x xs ih=>
    intro ys d e vs ws f1 f2 us us' h o1 o2 r1 r2
    cases ys with
    | nil=>cases h
    | cons y ys=>
     unfold zky at h
     rw [jb0] at h
     rw [OwnL] at o1 o2
     obtain ⟨_,_,g1,g2,rfl,_,_,p1,p2⟩:=o1
     obtain ⟨_,_,k1,k2,rfl,_,_,q1,q2⟩:=o2
     cases r1 with
     | cons a1 a2=>
      cases r2 with
      | cons b1 b2=>
       have t:=ih ys d e _ _ g2 k2 _ _ h.2 p2 q2 a2 b2
       refine ⟨congrArg (·+ 1) t.1,λ j h1 h2=>?_⟩
       cases j with
       | zero=>exact qc1 I n x y d e _ _ g1 k1 _ _ A.in1 (by have e:A.in1.units=A.units + 1:=rfl;(clear h2 h1 t;omega)) h.1 p1 q1 a1 b1
       | succ j=>exact t.2 j (jh2 h1) (jh2 h2)
  cases x with
  | non=>cases y <;> first | (cases h;done) | (rw [Own] at o1 o2;obtain ⟨rfl,_⟩:=o1;obtain ⟨rfl,_⟩:=o2;cases r1;cases r2;exact vh2 _)
  | bl b=>cases y <;> first | (cases h;done) | (rw [Own] at o1 o2;obtain ⟨rfl,_⟩:=o1;obtain ⟨rfl,_⟩:=o2;cases r1;cases r2;have e:=eq_of_beq (show (b == _)=true from h);subst e;exact vh2 _)
  | int i=>cases y <;> first | (cases h;done) | (rw [Own] at o1 o2;obtain ⟨rfl,_⟩:=o1;obtain ⟨rfl,_⟩:=o2;obtain ⟨t,rfl⟩:=r1;obtain ⟨t',rfl⟩:=r2;have e:=eq_of_beq (show (i == _)=true from h);subst e;have z:=SeqAt.EqAt.int_int (A:=A) (s:=s) i t i t';rwa [beq_self_eq_true] at z)
  | str i=>cases y <;> first | (cases h;done) | (rw [Own] at o1 o2;obtain ⟨rfl,_⟩:=o1;obtain ⟨rfl,_⟩:=o2;obtain ⟨t,rfl⟩:=r1;obtain ⟨t',rfl⟩:=r2;have e:=eq_of_beq (show (i == _)=true from h);subst e;have z:=SeqAt.EqAt.str_str (A:=A) (s:=s) i t i t';rwa [beq_self_eq_true] at z)
  | emp=>cases y <;> first | (cases h;done) | (rw [Own] at o1 o2;obtain ⟨_,a,rfl,ha⟩:=o1;obtain ⟨_,b,rfl,hb⟩:=o2;cases r1;cases r2;exact qn7 I ha hb (by omega))
  | dko=>cases h
  | lst xs=>
   cases y with
   | lst ys=>
    obtain ⟨a,ws,d',f,rfl,ha,ol⟩:=zvi o1
    obtain ⟨b,ws',e',f',rfl,hb,ol'⟩:=zvi o2
    cases r1
    cases r2
    obtain ⟨its,rv,p,_⟩:=I.list (.inl (.inl ha))
    obtain ⟨its',rv',p',_⟩:=I.list (.inl (.inl hb))
    have t:=all xs ys d' e' ws ws' f f' its its' h ol ol' rv rv'
    obtain ⟨ob,nn,e1,e2,e3,e4⟩:=p
    obtain ⟨ob',nn',e1',e2',e3',e4'⟩:=p'
    by_cases e:a=b
    ·subst e;exact vh2 _
    ·refine vl3 e ?_
     have z:=SeqAt.RcAt.lists (A:=A) (s:=s) (l:=a) (b:=b) (items:=its.toArray) (items2:=its'.toArray) (e:=λ _=>true) ⟨ob,e1,e2,nn,e4⟩ ⟨ob',e1',e2',nn',e4'⟩ (by simpa using t.1) (by omega) (λ j h1 h2=>by simpa using t.2 j (by simpa using h1) (by simpa using h2))
     rwa [zkt λ _ _=>rfl] at z
   | _=>cases h
  | tup xs=>
   cases y with
   | tup ys=>
    rw [Own] at o1 o2
    obtain ⟨a,ws,rfl,ha,ol⟩:=o1
    obtain ⟨b,ws',rfl,hb,ol'⟩:=o2
    cases r1
    cases r2
    obtain ⟨its,rv,⟨ob,e1,e2,nn,e4⟩,_⟩:=I.tuple (.inl (.inl ha))
    obtain ⟨its',rv',⟨ob',e1',e2',nn',e4'⟩,_⟩:=I.tuple (.inl (.inl hb))
    have t:=all xs ys _ _ ws ws' _ _ its its' h ol ol' rv rv'
    by_cases e:a=b
    ·subst e;exact vh2 _
    ·refine vl3 e ?_
     have z:=SeqAt.RcAt.tuples (A:=A) (s:=s) (l:=a) (b:=b) (items:=its.toArray) (items2:=its'.toArray) (e:=λ _=>true) ⟨ob,e1,e2,nn,e4⟩ ⟨ob',e1',e2',nn',e4'⟩ (by omega) (λ j h1 h2=>by simpa using t.2 j (by simpa using h1) (by simpa using h2))
     have z2:((its.toArray.size == its'.toArray.size):Bool)=true:=by simpa using t.1
     rwa [zkt λ _ _=>rfl,z2] at z
   | _=>cases h
  | scr ns=>cases y <;> cases h
  | dct _=>cases y <;> cases h
  | exn _=>cases y <;> cases h
theorem qah {pins:List (Addr×Obj)}{s:va3}{Z Z':Addr->Prop} (I:L2.Inv X pins σ H s) {A:vc0} (hu:A.units + 64 < vi3):∀ (xs ys:List PV) (d e:Nat) (vs ws:List V) (f1 f2:List Addr) (us us':List va2),zky (zjl 20) xs ys=true->OwnL X.K H Z xs d vs f1->OwnL X.K H Z' ys e ws f2->Vals vs us->Vals ws us'->us.length=us'.length/\∀ j (h1:j < us.length) (h2:j < us'.length),SeqAt.EqAt A.in1 s us[j] us'[j] true:=λ xs=>by
 induction xs with
 | nil=>
  intro ys d e vs ws f1 f2 us us' h o1 o2 r1 r2
  cases ys with
  | cons _ _=>cases h
  | nil=>
   rw [OwnL] at o1 o2
   obtain ⟨rfl,_⟩:=o1
   obtain ⟨rfl,_⟩:=o2
   cases r1
   cases r2
   exact ⟨rfl,λ j h1 _=>nomatch h1⟩
 | cons x xs ih=>
  intro ys d e vs ws f1 f2 us us' h o1 o2 r1 r2
  cases ys with
  | nil=>cases h
  | cons y ys=>
   unfold zky at h
   rw [jb0] at h
   rw [OwnL] at o1 o2
   obtain ⟨_,_,g1,g2,rfl,_,_,p1,p2⟩:=o1
   obtain ⟨_,_,k1,k2,rfl,_,_,q1,q2⟩:=o2
   cases r1 with
   | cons a1 a2=>
    cases r2 with
    | cons b1 b2=>
     have t:=ih ys d e _ _ g2 k2 _ _ h.2 p2 q2 a2 b2
     refine ⟨congrArg (·+ 1) t.1,λ j h1 h2=>?_⟩
     cases j with
     | zero=>exact qc1 I 20 x y d e _ _ g1 k1 _ _ A.in1 (by have e:A.in1.units=A.units + 1:=rfl;(clear h2 h1 t;omega)) h.1 p1 q1 a1 b1
     | succ j=>exact t.2 j (jh2 h1) (jh2 h2)
theorem qag {pins:List (Addr×Obj)}{s:va3}{Z Z':Addr->Prop} (I:L2.Inv X pins σ H s) {xs ys:List PV}{d e:Nat}{v w:V}{f1 f2:List Addr}{u u':va2}{A:vc0} (hu:A.units + 64 < vi3) (h:zky (zjl 20) xs ys=true) (o1:Own X.K H Z (.lst xs) d v f1) (o2:Own X.K H Z' (.lst ys) e w f2) (r1:RelV v u) (r2:RelV w u'):SeqAt.RcAt A s u u' true/\vm6 A s u u' false:=by
 obtain ⟨a,ws,d',f,rfl,ha,ol⟩:=zvi o1
 obtain ⟨b,ws',e',f',rfl,hb,ol'⟩:=zvi o2
 cases r1
 cases r2
 obtain ⟨its,rv,⟨ob,nn,e1,e2,e3,e4⟩,_⟩:=I.list (.inl (.inl ha))
 obtain ⟨its',rv',⟨ob',nn',e1',e2',e3',e4'⟩,_⟩:=I.list (.inl (.inl hb))
 have t:=qah I hu xs ys d' e' ws ws' f f' its its' h ol ol' rv rv'
 have z:=SeqAt.RcAt.lists (A:=A) (s:=s) (l:=a) (b:=b) (items:=its.toArray) (items2:=its'.toArray) (e:=λ _=>true) ⟨ob,e1,e2,nn,e4⟩ ⟨ob',e1',e2',nn',e4'⟩ (by simpa using t.1) (by omega) (λ j h1 h2=>by simpa using t.2 j (by simpa using h1) (by simpa using h2))
 have z':=SeqAt.RcNeAt.lists (A:=A) (s:=s) (l:=a) (b:=b) (items:=its.toArray) (items2:=its'.toArray) (e:=λ _=>true) ⟨ob,e1,e2,nn,e4⟩ ⟨ob',e1',e2',nn',e4'⟩ (by simpa using t.1) (by omega) (λ j h1 h2=>by simpa using t.2 j (by simpa using h1) (by simpa using h2))
 rw [zkt λ _ _=>rfl] at z z'
 exact ⟨z,z'⟩
theorem zfi {pins:List (Addr×Obj)}{s:va3}{Z Z':Addr->Prop} (I:L2.Inv X pins σ H s) {xs ys:List PV}{d e:Nat}{v w:V}{f1 f2:List Addr}{u u':va2}{A:vc0} (hu:A.units + 64 < vi3) (h:zky (zjl 20) xs ys=true) (o1:Own X.K H Z (.tup xs) d v f1) (o2:Own X.K H Z' (.tup ys) e w f2) (r1:RelV v u) (r2:RelV w u'):SeqAt.RcAt A s u u' true/\vm6 A s u u' false:=by
 rw [Own] at o1
 rw [Own] at o2
 obtain ⟨a,ws,rfl,ha,ol⟩:=o1
 obtain ⟨b,ws',rfl,hb,ol'⟩:=o2
 cases r1
 cases r2
 obtain ⟨its,rv,⟨ob,e1,e2,nn,e4⟩,_⟩:=I.tuple (.inl (.inl ha))
 obtain ⟨its',rv',⟨ob',e1',e2',nn',e4'⟩,_⟩:=I.tuple (.inl (.inl hb))
 have t:=qah I hu xs ys _ _ ws ws' _ _ its its' h ol ol' rv rv'
 have z:=SeqAt.RcAt.tuples (A:=A) (s:=s) (l:=a) (b:=b) (items:=its.toArray) (items2:=its'.toArray) (e:=λ _=>true) ⟨ob,e1,e2,nn,e4⟩ ⟨ob',e1',e2',nn',e4'⟩ (by omega) (λ j h1 h2=>by simpa using t.2 j (by simpa using h1) (by simpa using h2))
 have z':=SeqAt.RcNeAt.tuples (A:=A) (s:=s) (l:=a) (b:=b) (items:=its.toArray) (items2:=its'.toArray) (e:=λ _=>true) ⟨ob,e1,e2,nn,e4⟩ ⟨ob',e1',e2',nn',e4'⟩ (by omega) (λ j h1 h2=>by simpa using t.2 j (by simpa using h1) (by simpa using h2))
 have z2:((its.toArray.size == its'.toArray.size):Bool)=true:=by simpa using t.1
 rw [zkt λ _ _=>rfl,z2] at z z'
 exact ⟨z,z'⟩
theorem qd5 {pins:List (Addr×Obj)}{s:va3}{Z Z':Addr->Prop} (I:L2.Inv X pins σ H s) {xs ys:List PV}{d e:Nat}{v w:V}{f1 f2:List Addr}{u u':va2}{A:vc0} (hu:A.units + 64 < vi3) (h:xs.length≠ys.length) (o1:Own X.K H Z (.lst xs) d v f1) (o2:Own X.K H Z' (.lst ys) e w f2) (r1:RelV v u) (r2:RelV w u'):SeqAt.RcAt A s u u' false/\vm6 A s u u' true:=by
 obtain ⟨a,ws,d',f,rfl,ha,ol⟩:=zvi o1
 obtain ⟨b,ws',e',f',rfl,hb,ol'⟩:=zvi o2
 cases r1
 cases r2
 obtain ⟨its,rv,⟨ob,nn,e1,e2,e3,e4⟩,_⟩:=I.list (.inl (.inl ha))
 obtain ⟨its',rv',⟨ob',nn',e1',e2',e3',e4'⟩,_⟩:=I.list (.inl (.inl hb))
 have hl:(its.toArray.size != its'.toArray.size)=true:=by
  have h1:=rv.length
  have h2:=rv'.length
  rw [ol.length] at h1
  rw [ol'.length] at h2
  simp only [jc1,bne_iff_ne]
  omega
 exact ⟨SeqAt.RcAt.lists_lengths ⟨ob,e1,e2,nn,e4⟩ ⟨ob',e1',e2',nn',e4'⟩ hl (by omega),SeqAt.RcNeAt.lists_lengths ⟨ob,e1,e2,nn,e4⟩ ⟨ob',e1',e2',nn',e4'⟩ hl (by omega)⟩
theorem qes {pins:List (Addr×Obj)}{s:va3}{Z Z':Addr->Prop} (I:L2.Inv X pins σ H s) {d e:Nat}{v w:V}{f1 f2:List Addr}{u u':va2}{A:vc0} (hu:A.units < vi3) (o1:Own X.K H Z .emp d v f1) (o2:Own X.K H Z' .emp e w f2) (r1:RelV v u) (r2:RelV w u'):SeqAt.RcAt A s u u' true/\vm6 A s u u' false:=by
 rw [Own] at o1
 rw [Own] at o2
 obtain ⟨_,a,rfl,ha⟩:=o1
 obtain ⟨_,b,rfl,hb⟩:=o2
 cases r1
 cases r2
 obtain ⟨_,z1,vs,k1,d1⟩:=qeu I.hok ha
 obtain ⟨_,z2,ws,k2,d2⟩:=qeu I.hok hb
 cases k1
 cases k2
 exact ⟨λ prog w E Q hq=>PySem.W.keq_eq (knd:=zxe prog w) (r:=true) z1 z2 (zpm d1) (zpm d2) hu (λ _=>.nil) (by simpa using hq),λ prog w E Q hq=>PySem.W.keq_ne (knd:=zxe prog w) (r:=true) z1 z2 (zpm d1) (zpm d2) hu (λ _=>.nil) (by simpa using hq)⟩
def rEqD (K:Frag) (neg:Bool):R2:=λ v w H Q=>∃ x y d e Z Z' f1 f2,Own K H Z x d v f1/\Own K H Z' y e w f2/\((∃ a b,toD 20 x=some a/\toD 20 y=some b/\Q (.bl (neg^^ve1 a b)) H)\/(∃ xs ys,x=.lst xs/\y=.lst ys/\zky (zjl 20) xs ys=true/\Q (.bl (neg^^true)) H)\/(∃ xs ys,x=.lst xs/\y=.lst ys/\xs.length≠ys.length/\Q (.bl (neg^^false)) H)\/(∃ a b,x=.str a/\y=.str b/\Q (.bl (neg^^(a == b))) H)\/(x=.emp/\y=.emp/\Q (.bl (neg^^true)) H)\/∃ xs ys,x=.tup xs/\y=.tup ys/\zky (zjl 20) xs ys=true/\Q (.bl (neg^^true)) H)
theorem qni (hu:X.A.units + 64 < vi3):OpR X (vb4 .Eq) (rEqD X.K false):=by
 intro pins s σ H v w u u' Q I rx ry h
 obtain ⟨x,y,d,e,Z,Z',f1,f2,o1,o2,⟨a,b,h1,h2,q⟩ | ⟨xs,ys,rfl,rfl,h,q⟩ | ⟨xs,ys,rfl,rfl,h,q⟩ | ⟨a,b,rfl,rfl,q⟩ | ⟨rfl,rfl,q⟩ | ⟨xs,ys,rfl,rfl,h,q⟩⟩:=h
 ·obtain ⟨as,ra⟩:=zwr I 20 x d v f1 u a h1 o1 rx
  obtain ⟨bs,rb⟩:=zwr I 20 y e w f2 u' b h2 o2 ry
  have l1:=zww 20 x a h1
  have l2:=zww 20 y b h2
  exact SeqAt.compareEq_reads ra rb l1.1 l2.1 (by have:=jo6 a.depth b.depth;(clear this l2;omega)) ⟨.bl _,H,I,rfl,by simpa using q⟩
 ·exact (qag I hu h o1 o2 rx ry).1 _ _ _ _ ⟨.bl _,H,I,rfl,q⟩
 ·exact (qd5 I hu h o1 o2 rx ry).1 _ _ _ _ ⟨.bl _,H,I,rfl,q⟩
 ·rw [Own] at o1 o2
  obtain ⟨rfl,_⟩:=o1
  obtain ⟨rfl,_⟩:=o2
  obtain ⟨t,rfl⟩:=rx
  obtain ⟨t',rfl⟩:=ry
  exact SeqAt.RcAt.str_str a t b t' _ _ _ _ ⟨.bl _,H,I,rfl,by simpa using q⟩
 ·exact (qes I (by omega) o1 o2 rx ry).1 _ _ _ _ ⟨.bl _,H,I,rfl,q⟩
 ·exact (zfi I hu h o1 o2 rx ry).1 _ _ _ _ ⟨.bl _,H,I,rfl,q⟩
theorem qm8 (hu:X.A.units + 64 < vi3):OpR X (vb4 .NotEq) (rEqD X.K true):=by
 intro pins s σ H v w u u' Q I rx ry h
 obtain ⟨x,y,d,e,Z,Z',f1,f2,o1,o2,⟨a,b,h1,h2,q⟩ | ⟨xs,ys,rfl,rfl,h,q⟩ | ⟨xs,ys,rfl,rfl,h,q⟩ | ⟨a,b,rfl,rfl,q⟩ | ⟨rfl,rfl,q⟩ | ⟨xs,ys,rfl,rfl,h,q⟩⟩:=h
 ·obtain ⟨as,ra⟩:=zwr I 20 x d v f1 u a h1 o1 rx
  obtain ⟨bs,rb⟩:=zwr I 20 y e w f2 u' b h2 o2 ry
  have l1:=zww 20 x a h1
  have l2:=zww 20 y b h2
  exact SeqAt.compareNe_reads ra rb l1.1 l2.1 (by have:=jo6 a.depth b.depth;(clear this l2;omega)) ⟨.bl _,H,I,rfl,by simpa using q⟩
 ·exact (qag I hu h o1 o2 rx ry).2 _ _ _ _ ⟨.bl _,H,I,rfl,q⟩
 ·exact (qd5 I hu h o1 o2 rx ry).2 _ _ _ _ ⟨.bl _,H,I,rfl,q⟩
 ·rw [Own] at o1 o2
  obtain ⟨rfl,_⟩:=o1
  obtain ⟨rfl,_⟩:=o2
  obtain ⟨t,rfl⟩:=rx
  obtain ⟨t',rfl⟩:=ry
  exact SeqAt.RcNeAt.str_str a t b t' _ _ _ _ ⟨.bl _,H,I,rfl,by simpa using q⟩
 ·exact (qes I (by omega) o1 o2 rx ry).2 _ _ _ _ ⟨.bl _,H,I,rfl,q⟩
 ·exact (zfi I hu h o1 o2 rx ry).2 _ _ _ _ ⟨.bl _,H,I,rfl,q⟩
theorem qaz {neg:Bool}{x y z:PV}{d e c:Nat}{v w:V}{fps:Fps}{f1 f2 F:List Addr}{Z Z':Addr->Prop} (hK:M.K=X.K) (ho:opEq neg x d y e=some (z,c)) (o1:Own M.K H Z x d v f1) (o2:Own M.K H Z' y e w f2) (lf:Leaf M H fps vs F z c Q):rEqD X.K neg v w H Q:=by
 rw [hK] at o1 o2
 refine ⟨x,y,d,e,Z,Z',f1,f2,o1,o2,?_⟩
 unfold opEq at ho
 split at ho
 ·rename_i a b ea eb
  cases ho
  exact .inl ⟨a,b,ea,eb,zxn lf⟩
 ·split at ho
  ·rename_i xs ys _
   split at ho
   ·rename_i hc
    cases ho
    exact .inr (.inl ⟨xs,ys,rfl,rfl,hc,zxn lf⟩)
   ·split at ho
    ·rename_i hc
     cases ho
     exact .inr (.inr (.inl ⟨xs,ys,rfl,rfl,hc,zxn lf⟩))
    ·cases ho
  ·rename_i a b _
   cases ho
   exact .inr (.inr (.inr (.inl ⟨a,b,rfl,rfl,zxn lf⟩)))
  ·cases ho
   exact .inr (.inr (.inr (.inr (.inl ⟨rfl,rfl,zxn lf⟩))))
  ·rename_i xs ys _
   split at ho
   ·rename_i hc
    cases ho
    exact .inr (.inr (.inr (.inr (.inr ⟨xs,ys,rfl,rfl,hc,zxn lf⟩))))
   ·cases ho
  ·cases ho
def isNon:PV->Bool
 | .non=>true
 | _=>false
def opIs (neg:Bool):PV->Nat->PV->Nat->Option (PV×Nat)
 | .bl a,_,.bl b,_=>some (.bl (neg^^(a == b)),om)
 | x,_,.non,_=>some (.bl (neg^^isNon x),om)
 | _,_,_,_=>none
theorem qne:OpR X (vb4 .Is) (λ x y H Q=>∃ i j,x=.bl i/\y=.bl j/\Q (.bl (i == j)) H):=by
 intro pins s σ H x y v u Q I rx ry h
 obtain ⟨i,j,rfl,rfl,q⟩:=h
 cases rx
 cases ry
 exact is_bool ⟨.bl _,H,I,rfl,q⟩
theorem qdo:OpR X (vb4 .IsNot) (λ x y H Q=>∃ i j,x=.bl i/\y=.bl j/\Q (.bl (i != j)) H):=by
 intro pins s σ H x y v u Q I rx ry h
 obtain ⟨i,j,rfl,rfl,q⟩:=h
 cases rx
 cases ry
 exact isnot_bool ⟨.bl _,H,I,rfl,q⟩
theorem Own.isNon {K:Frag}{Z:Addr->Prop}{x:PV}{d:Nat}{v:V}{fp:List Addr} (o:Own K H Z x d v fp):decide (v=.non)=QQ.isNon x:=by
 cases x with
 | non=>rw [Own] at o;rw [o.1];rfl
 | bl b=>rw [Own] at o;rw [o.1];rfl
 | int b=>rw [Own] at o;rw [o.1];rfl
 | str b=>rw [Own] at o;rw [o.1];rfl
 | emp=>rw [Own] at o;obtain ⟨_,a,rfl,_⟩:=o;rfl
 | dko=>rw [Own] at o;obtain ⟨_,a,rfl,_⟩:=o;rfl
 | scr ns=>rw [Own] at o;obtain ⟨_,a,rfl,_⟩:=o;rfl
 | exn c=>rw [Own] at o;obtain ⟨_,a,_,rfl,_⟩:=o;rfl
 | dct kvs=>rw [Own] at o;obtain ⟨a,rfl,_⟩:=o;rfl
 | lst xs=>rw [Own] at o;obtain ⟨a,ws,rfl,_⟩:=o;rfl
 | tup xs=>rw [Own] at o;obtain ⟨a,ws,rfl,_⟩:=o;rfl
theorem qd7 {x y z:PV}{d e c:Nat}{v w:V}{fps:Fps}{f1 f2 F:List Addr}{Z Z':Addr->Prop}{neg:Bool} (ho:opIs neg x d y e=some (z,c)) (o1:Own M.K H Z x d v f1) (o2:Own M.K H Z' y e w f2) (lf:Leaf M H fps vs F z c Q):(∃ i j,v=.bl i/\w=.bl j/\Q (.bl (neg^^(i == j))) H)\/(w=.non/\Q (.bl (neg^^decide (v=.non))) H):=by
 unfold opIs at ho
 split at ho
 ·cases ho
  rw [Own] at o1 o2
  exact .inl ⟨_,_,o1.1,o2.1,zxn lf⟩
 ·cases ho
  rw [Own] at o2
  rw [o1.isNon]
  exact .inr ⟨o2.1,zxn lf⟩
 ·cases ho
def zqj:PV->Nat->PV->Nat->Option (PV×Nat)
 | .lst xs,_,.int i,_=>(atI xs i).map λ z=>(z,dv z)
 | .tup xs,_,.int i,_=>(atI xs i).map λ z=>(z,dv z)
 | .scr ns,_,.int i,_=>(atI ns i).map λ z=>(.int z,om)
 | .str z,_,.int i,_=>if z.length<=va4 then (atI z.cps.toList i).map λ c=>(.str ⟨#[c]⟩,om) else none
 | _,_,_,_=>none
theorem qfi {K:Frag}{Z:Addr->Prop}{xs:List PV}{ws:List V}{i:Int}{z:PV} (ol:OwnL K H Z xs 0 ws []) (e:atI xs i=some z):∃ w,atI ws i=some w/\Own K H Z z 0 w []:=by
 unfold atI at e ⊢
 rw [ol.length]
 cases ej:ixN xs.length i with
 | none=>rw [ej] at e;cases e
 | some j=>rw [ej] at e;exact ol.nth e
theorem qh0 (hv:∀ i∈vs,M.Ms i=false) (hK:M.K=X.K) (hs:zhw b) (ha:PE X a (tE M f vs)) (hb:PE X b (tE M g vs')):PE X (.Subscript a b pos) (tE M (bBin zqj f g) (vs++vs')):=by
 refine zqn (qjy qnw ha hb hs) λ σ H Q h=>zwx hv (λ x d y e z c v w H fps f1 f2 Q ho o1 o2 dj nz zd lf=>?_) h
 cases y with
 | int i=>
  rw [Own] at o2
  cases x with
  | lst xs=>
   dsimp only [zqj] at ho
   obtain ⟨z',ez,e2⟩:=jb7.mp ho
   cases e2
   obtain ⟨p,ws,rfl,hp,ol⟩:=(cold o1 λ a ha=>nz a (ja9 _ ha)).coldL
   obtain ⟨w',e1,ow⟩:=qfi ol ez
   exact .inl ⟨p,ws,i,w',rfl,o2.1,.inl (.inl hp),e1,zvb lf ow⟩
  | tup xs=>
   dsimp only [zqj] at ho
   obtain ⟨z',ez,e2⟩:=jb7.mp ho
   cases e2
   obtain ⟨p,ws,rfl,hp,ol⟩:=(cold o1 λ a ha=>nz a (ja9 _ ha)).coldT
   obtain ⟨w',e1,ow⟩:=qfi ol ez
   exact .inr (.inl ⟨p,ws,i,w',rfl,o2.1,.inl (.inl hp),e1,zvb lf ow⟩)
  | scr ns=>
   dsimp only [zqj] at ho
   obtain ⟨z',ez,e2⟩:=jb7.mp ho
   cases e2
   rw [Own] at o1
   obtain ⟨_,p,rfl,hp⟩:=o1
   refine .inl ⟨p,ns.map V.int,i,.int z',rfl,o2.1,?_,?_,zxg lf⟩
   ·rw [<- hK]
    exact hp.elim (λ h=>.inl (.inr h)) .inr
   ·unfold atI at ez ⊢
    rw [ja4]
    cases ej:ixN ns.length i with
    | none=>rw [ej] at ez;cases ez
    | some j=>
     rw [ej] at ez
     show (ns.map V.int)[j]?=_
     rw [jc6]
     have:ns[j]?=some z':=ez
     rw [this];rfl
  | str z=>
   dsimp only [zqj] at ho
   split at ho
   ·rename_i hl
    obtain ⟨c',ez,e2⟩:=jb7.mp ho
    cases e2
    rw [Own] at o1
    exact .inr (.inr ⟨z,i,c',o1.1,o2.1,hl,ez,qgt lf⟩)
   ·cases ho
  | _=>cases ho
 | _=>cases x <;> cases ho
def evO:Option Fx->Rho->Rz (Option Int×Rho)
 | none,ρ=>.ok (none,ρ)
 | some f,ρ=>(f ρ).bind λ (x,_,ρ1)=>match x with
  | .int i=>.ok (some i,ρ1)
  | _=>.no
def cutP (xs:List PV) (lo hi:Option Int):List PV:=(xs.drop (HT.sIx xs.length 0 lo)).take (HT.sIx xs.length xs.length hi - HT.sIx xs.length 0 lo)
def opSl (x:PV) (lo hi:Option Int):Option (PV×Nat):=match x with
 | .lst xs=>some (.lst (cutP xs lo hi),d1 (cutP xs lo hi))
 | .tup xs=>if HT.sIx xs.length 0 lo=0/\HT.sIx xs.length xs.length hi=xs.length then none else some (.tup (cutP xs lo hi),0)
 | _=>none
def bSl (f:Fx) (lo hi:Option Fx):Fx:=λ ρ=>(f ρ).bind λ (x,_,ρ1)=>(evO lo ρ1).bind λ (l,ρ2)=>(evO hi ρ2).bind λ (u,ρ3)=>match opSl x l u with
 | some (z,c)=>.ok (z,c,ρ3)
 | none=>.no
def tO (M:Fm):Option (Fx×List Nat)->TO
 | none=>qcp
 | some (f,vs)=>ql4 (tE M f vs)
theorem qco {o:Option (Fx×List Nat)}{ρ:Rho}{fps:Fps}{R:Option Int->Hp->Prop} (rep:Rep M ρ σ H fps)
  (q:match evO (o.map (·.1)) ρ with
   | .ok (l,ρ')=>∀ H' fps',KD M H fps H' fps'->Agr M ρ ρ'->Rep M ρ' σ H' fps'->R l H'
   | .exc c=>∀ H' fps',KD M H fps H' fps'->M.W σ c H'
   | .no=>False):tO M o σ H R:=by
 cases o with
 | none=>exact q H fps KD.refl Agr.refl rep
 | some p=>
  obtain ⟨f,vs⟩:=p
  refine ⟨ρ,fps,rep,?_⟩
  dsimp only [jq4,evO] at q
  cases ef:f ρ with
  | no=>rw [ef] at q;exact q
  | exc c=>rw [ef] at q;exact q
  | ok p=>
   obtain ⟨x,d,ρ1⟩:=p
   rw [ef] at q
   intro v H1 fps1 f1 k1 g1 rep1 o1 t1
   dsimp only [Rz.bind] at q
   cases x with
   | int i=>rw [Own] at o1;exact ⟨i,o1.1,q H1 fps1 k1 g1 rep1⟩
   | _=>exact q.elim
theorem ql7 {lo hi:Option (Fx×List Nat)} (hv:∀ i∈vs,M.Ms i=false) (hK:M.K=X.K) {σ:St}{H:Hp}{Q:VK} (hq:tE M (bSl f (lo.map (·.1)) (hi.map (·.1))) vs σ H Q):tSl (λ x lo hi H Q=>rSlL X.K x lo hi H Q\/rSlT X.K x lo hi H Q) (tE M f vs) (tO M lo) (tO M hi) σ H Q:=by
 obtain ⟨ρ,fps,rep,q⟩:=hq
 refine ⟨ρ,fps,rep,?_⟩
 unfold bSl at q
 cases ef:f ρ with
 | no=>rw [ef] at q;exact q
 | exc c=>rw [ef] at q;exact q
 | ok p=>
  obtain ⟨x,d,ρ1⟩:=p
  rw [ef] at q
  intro v H1 fps1 f1 k1 g1 rep1 o1 t1
  dsimp only [Rz.bind] at q
  refine qco rep1 ?_
  cases el:evO (lo.map (·.1)) ρ1 with
  | no=>rw [el] at q;exact q
  | exc c=>rw [el] at q;exact λ H' fps' k=>q H' fps' (k1.trans k)
  | ok p2=>
   obtain ⟨l,ρ2⟩:=p2
   rw [el] at q
   intro H2 fps2 k2 g2 rep2
   refine qco rep2 ?_
   dsimp only at q
   cases eh:evO (hi.map (·.1)) ρ2 with
   | no=>rw [eh] at q;exact q
   | exc c=>rw [eh] at q;exact λ H' fps' k=>q H' fps' ((k1.trans k2).trans k)
   | ok p3=>
    obtain ⟨u,ρ3⟩:=p3
    rw [eh] at q
    intro H3 fps3 k3 g3 rep3
    dsimp only at q
    have kk:=k2.trans k3
    have o3:=kk.stay rep1 hv o1 t1.ndj
    have n3:∀ a∈f1,¬ Zf M fps3 a:=λ a ha z=>by
     rcases z with z | ⟨i,z⟩
     ·exact t1.ndj a ha (.inl z)
     ·rcases kk.sub i a z with z | z
      ·exact t1.ndj a ha (.inr ⟨i,z⟩)
      ·obtain ⟨xs,e⟩:=Own.lsts x d v f1 o1 a ha
       rw [z] at e;cases e
    have back:∀ a,H3 a=none->H a=none:=λ a e=>by
     cases e':H a with
     | none=>rfl
     | some o=>exact absurd e ((k1.trans kk).dom a (by rw [e'];simp))
    cases eo:opSl x l u with
    | none=>rw [eo] at q;exact q.elim
    | some zc=>
     obtain ⟨z,c⟩:=zc
     rw [eo] at q
     have lf:Leaf M H3 fps3 vs f1 z c Q:=λ w H4 fp k4 o4 hfp=>q w H4 fps3 fp ((k1.trans kk).trans (KD.grow k4)) (g1.trans (g2.trans g3)) (rep3.grow k4) o4 ⟨λ a ha=>(hfp a ha).elim (t1.new a) (back a),λ a ha=>(hfp a ha).elim (n3 a) λ z=>rep3.nz z⟩
     have c0:=cold o3 n3
     unfold opSl at eo
     cases x with
     | lst xs=>
      cases eo
      obtain ⟨p,ws,rfl,hp,ol⟩:=c0.coldL
      refine .inl ⟨p,ws,rfl,.inl (.inl hp),λ q hq=>?_⟩
      have e:OwnL M.K H3 (Zv M vs fps3) (cutP xs l u) 0 (cutV ws l u) []:=by
       unfold cutP cutV
       rw [ol.length]
       exact (ol.drop _).take _
      exact zwe lf e hq
     | tup xs=>
      dsimp only at eo
      split at eo
      ·cases eo
      ·rename_i hw
       cases eo
       obtain ⟨p,ws,rfl,hp,ol⟩:=c0.coldT
       refine .inr ⟨p,ws,rfl,.inl (.inl hp),by rw [ol.length];exact hw,λ q hq=>?_⟩
       have e:OwnL M.K H3 (Zv M vs fps3) (cutP xs l u) 0 (cutV ws l u) []:=by
        unfold cutP cutV
        rw [ol.length]
        exact (ol.drop _).take _
       exact zyz lf e hq
     | _=>cases eo
def zfa:PV->String
 | .non => "NoneType"
 | .bl _ => "bool"
 | .int _ => "int"
 | .str _ => "str"
 | .lst _ => "list"
 | .tup _ => "tuple"
 | .emp => "dict"
 | .dko => "dict"
 | .dct _ => "dict"
 | _ => ""
def isiB (t T:String):Bool:=t == T || (t == "bool" && T == "int")
def isiT:List String:=["int","bool","str","list","tuple","dict"]
def zzf (T:String) (x:PV) (_:Nat):Option (PV×Nat):=match x with
 | .scr _=>none
 | .exn _=>none
 | _=>some (.bl (isiB (zfa x) T),om)
theorem Own.ty {K:Frag}{Z:Addr->Prop}{x:PV}{d:Nat}{v:V}{fp:List Addr} (h:Own K H Z x d v fp) (hs:∀ ns,x≠.scr ns) (hx:∀ c,x≠.exn c):TyOf K H v (.type (zfa x)):=by
 cases x with
 | non=>rw [Own] at h;rw [h.1];exact .non
 | bl b=>rw [Own] at h;rw [h.1];exact .bl b
 | int i=>rw [Own] at h;rw [h.1];exact .int i
 | str s=>rw [Own] at h;rw [h.1];exact .str s
 | emp=>rw [Own] at h;obtain ⟨_,a,e,ha⟩:=h;rw [e];exact .dK ha
 | dko=>rw [Own] at h;obtain ⟨_,a,e,_,ha⟩:=h;rw [e];exact .dK ha
 | scr ns=>exact absurd rfl (hs ns)
 | exn c=>exact absurd rfl (hx c)
 | dct kvs=>
  rw [Own] at h
  obtain ⟨a,e,⟨_,hr,_⟩ | ⟨_,ha,_⟩⟩:=h
  ·rw [e];exact .dT hr.1
  ·rw [e];exact .dT ha
 | lst xs=>
  rw [Own] at h
  obtain ⟨a,ws,e,⟨_,hr,_,_⟩ | ⟨_,f,ha,_⟩⟩:=h
  ·rw [e];exact .lst hr.1
  ·rw [e];exact .lst ha
 | tup xs=>
  rw [Own] at h
  obtain ⟨a,ws,e,hr,_⟩:=h
  rw [e];exact .tup hr
end
def RawD (h:Heap) (d:Addr) (es:Array vi7) (ep:Nat):Prop:=∃ o,h.get? d=some o/\o.ExactDict/\o.data=.dict es ep
theorem RawD.to {h h':Heap}{d:Addr}{es:Array vi7}{ep:Nat} (x:RawD h d es ep) (k:∀ o,h.get? d=some o->h'.get? d=some o):RawD h' d es ep:=let ⟨o,e,r⟩:=x;⟨o,k o e,r⟩
section
variable {pg:vb0}{wd:vb8}{Ar:vc0}{Er:va2->va3->Prop}{st:va3}{d it:Addr}{es:Array vi7}{ep i:Nat}
theorem RawD.ty (x:RawD st.heap d es ep):st.TypeIs (.ref d) "dict" := let ⟨o,e,c,_⟩:=x;⟨o,e,c.1⟩
theorem qf3 {Qv:va2->va3->Prop} (nm:(d == ve4)=false) (x:RawD st.heap d es ep)
  (q:Qv (.ref st.heap.objs.size) { st with heap:=st.heap.push { cls:=.type "dict_keyiterator",data:=.fields #[.ref d,.int 0 0,.int es.size 0,.int ep 0] } }):
  vb1 (vb3 pg wd) Ar (pyIter (.ref d)) Qv Er st:=by
 obtain ⟨o,e1,c1,e2⟩:=id x
 have tD:st.TypeIs (.ref d) "dict" := x.ty
 refine wpAny_pyIter_slot tD F.slot_dict_iter (vd1 F.slot_dict_iter tD F.entry_dict_iter ?_ (F.args_dict_iter_1 _))
 delta vk7.«dict.__iter__»
 refine va0 ?_
 delta Builtin.Dict.dictSlotNone
 refine va0 (wpAny_notOrdered_dict tD (show vb1 _ _ (pure (Value.ref d)) _ _ st from va5 ?_))
 show vb1 _ _ (Builtin.Dict.showsAll d >>= _) _ _ st
 delta Builtin.Dict.showsAll
 rw [if_neg (by rw [nm];exact jb8)]
 refine va0 (va5 (va0 (vl7 e1 e2 (va0 (vn7 e1 e2 (va0 (vb5 (va5 ⟨_,rfl,"dict_keyiterator",_,⟨_,va7 _ rfl,rfl⟩,F.slot_dict_keyiterator_next.lookup,?_⟩))))))))
 simpa [vk1] using q
theorem qf2 {Qv:Option va2->va3->Prop}{e:vi7} (ki:st.heap.IsKeyIter it d i es.size ep) (x:RawD st.heap d es ep) (hx:es[i]?=some e)
  (q:∀ hp,hp.IsKeyIter it d (i + 1) es.size ep->vh9 it st.heap hp->Qv (some e.key) { st with heap:=hp }):
  vb1 (vb3 pg wd) Ar (vl2 (.ref it)) Qv Er st:=by
 obtain ⟨u,i1,i2,i3⟩:=id ki
 obtain ⟨o,e1,c1,e2⟩:=id x
 delta vl2
 refine va0 (vk9 (vc3 (name:=vg6 "__next__") ki.typeIs ve9 (vd1 ve9 ki.typeIs vn1 ?_ (vm8 _))))
 refine va0 (va5 (va0 (va0 ?_)))
 first | refine va0 (ve3 ki.typeIs (va5 (va0 (vk0 i1 i3 ?_)))) | refine va0 (vf7 ki.typeIs (va5 (va0 (vk0 i1 i3 ?_))))
 simp only [show vn4 "dict_keyiterator" = false from by decide,jg5,if_false]
 show vb1 _ _ (if (Value.ref d == Value.none)=true then _ else _) _ _ st
 have nn:¬ ((Value.ref d == Value.none)=true):=jb8
 rw [if_neg nn]
 refine va0 (va5 (va0 (vl7 e1 e2 ?_)))
 rw [if_neg (by simp)]
 refine va0 (va5 (va0 (vn7 e1 e2 ?_)))
 rw [if_neg (by simp)]
 refine va5 ?_
 have nl:¬ ((i:Int) < 0):=by omega
 simp only [nl,if_false,je6,hx]
 refine va0 ?_
 first | refine va0 (ve3 ki.typeIs (va5 (va0 (vj3 ki.typeIs ?_)))) | refine va0 (vf7 ki.typeIs (va5 (va0 (vj3 ki.typeIs ?_))))
 show vb1 _ _ (setField (.ref it) 1 (vk1 ((i:Int) + 1)) >>= _) _ _ st
 refine va0 (vj9 i1 i3 (by simp) ?_)
 have k2:(st.heap.update it (Obj.mapFields (·.setIfInBounds 1 (vk1 ((i:Int) + 1))))).IsKeyIter it d (i + 1) es.size ep:=
  ⟨_,vd6 _ i1 (Obj.isFreed_of_fields (vh8 i3 _)),(Obj.cls_mapFields ..).trans i2,by rw [vh8 i3];simp [vk1]⟩
 refine va0 (vg8 (va0 (vj3 (s:={ st with heap:=st.heap.update it (Obj.mapFields (·.setIfInBounds 1 (vk1 ((i:Int) + 1)))) }) k2.typeIs ?_)))
 show vb1 _ _ (pure e.key) _ _ _
 exact va5 (va5 ⟨_,rfl,va5 (q _ k2 (vh3 ..))⟩)
theorem qf4 {Qv:Option va2->va3->Prop} (hd0:Ar.handled=none) (ki:st.heap.IsKeyIter it d es.size es.size ep) (x:RawD st.heap d es ep)
  (q:∀ hp,Heap.ExtBut it st.heap hp->Qv none { st with heap:=hp }):vb1 (vb3 pg wd) Ar (vl2 (.ref it)) Qv Er st:=by
 obtain ⟨u,i1,i2,i3⟩:=id ki
 obtain ⟨o,e1,c1,e2⟩:=id x
 delta vl2
 refine va0 (vk9 (vc3 (name:=vg6 "__next__") ki.typeIs ve9 (vd1 ve9 ki.typeIs vn1 ?_ (vm8 _))))
 refine va0 (va5 (va0 (va0 ?_)))
 first | refine va0 (ve3 ki.typeIs (va5 (va0 (vk0 i1 i3 ?_)))) | refine va0 (vf7 ki.typeIs (va5 (va0 (vk0 i1 i3 ?_))))
 simp only [show vn4 "dict_keyiterator" = false from by decide,jg5,if_false]
 show vb1 _ _ (if (Value.ref d == Value.none)=true then _ else _) _ _ st
 have nn:¬ ((Value.ref d == Value.none)=true):=jb8
 rw [if_neg nn]
 refine va0 (va5 (va0 (vl7 e1 e2 ?_)))
 rw [if_neg (by simp)]
 refine va0 (va5 (va0 (vn7 e1 e2 ?_)))
 rw [if_neg (by simp)]
 refine va5 ?_
 have nl:¬ ((es.size:Int) < 0):=by omega
 simp only [nl,if_false,je6,ji7 (jb4 es.size)]
 refine va0 ?_
 first | refine va0 (ve3 ki.typeIs (va5 ?_)) | refine va0 (vf7 ki.typeIs (va5 ?_))
 show vb1 _ _ (setField (.ref it) 0 .none >>= _) _ _ st
 refine va0 (vj9 i1 i3 (by simp) ?_)
 show vb1 _ _ (newExc (.type "StopIteration") [] >>= _) _ _ _
 refine va0 ?_
 simp only [newExc,newTuple]
 refine va0 (vb5 (va0 (m:=vk2 _ _) (wpAny_of_eq (a:=Value.none) (by first | rfl | (simp only [vk2];rfl)) (vb5 ?_ (by size_fits)))) (by size_fits))
 simp only [raiseNew]
 refine va0 (wpAny_handled ?_)
 rw [show Ar.in1.handled=none from hd0]
 refine va0 (va5 (wpAny_throw (E:=_) ?_))
 refine va0 (vm9 (b:=true) (T := "StopIteration") ⟨_,va7 _ rfl,rfl⟩ isSubtype_stop ?_)
 exact va5 (q _ (((vh3 ..).extBut.push _).push _))
theorem qfn (hd0:Ar.handled=none) (it d:Addr) (ne:d≠it) (es:Array vi7) (ep:Nat):
  Walks pg wd Ar it [it,d] [it] es.size (λ i v=>∃ e,es[i]?=some e/\v=e.key) (λ i h=>h.IsKeyIter it d i es.size ep/\RawD h d es ep) where
 sub:=λ b hb=>by simp at hb;simp [hb]
 frame:=λ _ _ _ x k=>⟨x.1.at λ o e=>k it (by simp) o e,x.2.to λ o e=>k d (by simp) o e⟩
 item:=λ i s Q E hi x q=>by
  have hx:es[i]?=some es[i]:=jl2 hi
  exact qf2 x.1 x.2 hx λ hp k2 sb=>q _ hp s.toks ⟨_,hx,rfl⟩ ⟨k2,x.2.to λ o e=>sb.extBut d o ne e⟩ λ b o hb e=>sb.extBut b o (λ z=>hb (by simp [z])) e
 done:=λ s Q E x q=>qf4 hd0 x.1 x.2 λ hp eb=>q hp s.toks λ b o hb e=>eb b o (λ z=>hb (by simp [z])) e
 self:=λ _ _ _ _ x q=>wpAny_pyIter_keyiter x.1 q
theorem qet:typeLookup (.type "dict") "__len__" = pure (some (.builtin "dict.__len__")):=by rw [typeLookup_type,builtinLookup_eq_fast];kernel_rfl
theorem qd4 {Qv:va2->va3->Prop} (hd0:Ar.handled=none) (nm:(d == ve4)=false) (x:RawD st.heap d es ep) (hz:es.size<=va4)
  (good:∀ hp tk out c2,(∀ b o,st.heap.get? b=some o->hp.get? b=some o)->hp.get? st.heap.objs.size=some { cls:=.type "list",dict:=none,data:=.seq out c2,slots:=#[] }->ItemsOf (λ i v=>∃ e,es[i]?=some e/\v=e.key) out es.size->Qv (.ref st.heap.objs.size) { st with heap:=hp,toks:=tk }):vb1 (vb3 pg wd) Ar (call (.type "list") [.ref d]) Qv Er st:=by
 let one:Obj:={ cls:=.type "list",data:=.seq #[] }
 refine callType_codes (Q₁:=λ v t=>v=.ref st.heap.objs.size/\t={ st with heap:=st.heap.push one }) F.called_list (F.typeCall_list_1 _) F.entry_list_init (code_list_new _ ⟨rfl,rfl⟩) λ v t made=>?_
 obtain ⟨rfl,rfl⟩:=made
 have hN:(st.heap.push one).get? st.heap.objs.size=some one:=va7 _ rfl
 refine ⟨⟨_,hN,rfl⟩,F.args_list_init_2 _ _,?_⟩
 have nl:st.heap.objs.size≠d:=λ e=>by obtain ⟨o,ho,_⟩:=x;exact jd8 _ (e ▸ va6 ho)
 show vb1 _ Ar.in1.in1 (do let old<-Builtin.List.listItems (.ref st.heap.objs.size);Builtin.List.listUpdate (.ref st.heap.objs.size) (λ _=>#[]);letGo old.toList.reverse;vh4 (.ref st.heap.objs.size) (.ref d) .none) _ _ _
 refine va0 ?_
 delta Builtin.List.listItems
 refine va0 (vd7 hN rfl (va5 ?_))
 show vb1 _ _ (updateSeq st.heap.objs.size (λ _=>#[]) >>= λ _=>letGo (#[]:Array va2).toList.reverse >>= λ _=>vh4 (.ref st.heap.objs.size) (.ref d) .none) _ _ _
 refine va0 (vn5 hN rfl (va0 (vn6 ?_)))
 have hN2:=vd6 (ve6 (λ _=>(#[]:Array va2))) hN rfl
 have rest:∀ b o,b≠st.heap.objs.size->st.heap.get? b=some o->((st.heap.push one).update st.heap.objs.size (ve6 (λ _=>(#[]:Array va2)))).get? b=some o:=λ b o hb e=>(ve7 _ _ (vb2 hb)).trans (va1 _ e)
 generalize (st.heap.push one).update st.heap.objs.size (ve6 (λ _=>(#[]:Array va2)))=h2 at hN2 rest
 generalize hM:st.heap.objs.size=N at *
 have lt2:N < h2.objs.size:=va6 hN2
 have x2:RawD h2 d es ep:=x.to λ o e=>rest d o (vb2 nl) e
 have tD:Shared.TypeIs { st with heap:=h2 } (.ref d) "dict" := RawD.ty (st:={ st with heap:=h2 }) x2
 have other:Builtin.List.listSameRef (.ref N) (.ref d)=false:=by simp [Builtin.List.listSameRef,nl]
 delta vh4
 refine va0 (wpAny_typeOf tD ?_)
 rw [if_neg (by rw [other];decide)]
 refine va0 (qf3 (st:={ st with heap:=h2 }) nm x2 (va0 (vg8 ?_)))
 have tD3:Shared.TypeIs { st with heap:=h2.push { cls:=.type "dict_keyiterator",data:=.fields #[.ref d,.int 0 0,.int es.size 0,.int ep 0] } } (.ref d) "dict" := RawD.ty (st:={ st with heap:=h2.push { cls:=.type "dict_keyiterator",data:=.fields #[.ref d,.int 0 0,.int es.size 0,.int ep 0] } }) (x2.to λ o e=>va1 _ e)
 delta Builtin.List.listLengthHint
 refine va0 (wpAny_specialOf tD3 qet ?_)
 generalize en:("dict.__len__" : String)=nm1
 wp_delta
 rw [show splitId nm1=some ("dict","__len__") from by subst en;decide +kernel]
 subst en
 refine va0 (vm9 (b:=true) tD3 (by rw [isSubtype_type];kernel_rfl) ?_)
 rw [if_neg (by decide)]
 dsimp only
 rw [if_pos (by decide +kernel)]
 refine va0 (wpAny_typeOf tD3 (va5 ?_))
 generalize hi:h2.objs.size=it
 have hki:(h2.push { cls:=.type "dict_keyiterator",data:=.fields #[.ref d,.int 0 0,.int es.size 0,.int ep 0] }).IsKeyIter it d 0 es.size ep:=by subst hi;exact ⟨_,va7 _ rfl,rfl,rfl⟩
 have hN3:(h2.push { cls:=.type "dict_keyiterator",data:=.fields #[.ref d,.int 0 0,.int es.size 0,.int ep 0] }).get? N=some { cls:=.type "list",data:=.seq #[] 0 }:=(va1 _ hN2).trans rfl
 have nI:N≠it:=by omega
 have nd:d≠it:=λ z=>by obtain ⟨o,ho,_⟩:=x2;have l:=va6 ho;rw [z,hi] at l;exact jd8 _ l
 have x3:RawD (h2.push { cls:=.type "dict_keyiterator",data:=.fields #[.ref d,.int 0 0,.int es.size 0,.int ep 0] }) d es ep:=x2.to λ o e=>va1 _ e
 have k3:∀ b o,st.heap.get? b=some o->b≠N/\b≠it/\(h2.push { cls:=.type "dict_keyiterator",data:=.fields #[.ref d,.int 0 0,.int es.size 0,.int ep 0] }).get? b=some o:=λ b o e=>by
  have l1:=va6 e
  rw [hM] at l1
  rw [hi] at lt2
  exact ⟨jc5 l1,jc5 (jn8 l1 lt2),va1 _ (rest b o (jc5 l1) e)⟩
 generalize h2.push { cls:=.type "dict_keyiterator",data:=.fields #[.ref d,.int 0 0,.int es.size 0,.int ep 0] }=h3 at *
 show vb1 _ Ar.in1.in1 (rule "list.extend.makes-room" >>= λ _=>Builtin.List.listTouch (.ref N) >>= λ _=>again (.builtin "list.extend.loop" ⟨[.ref N,.ref it,.none],[]⟩)) _ _ _
 refine va0 (wpAny_rule (va0 ?_))
 show vb1 _ _ (updateSeq N (·.push .none) >>= λ _=>updateSeq N (·.pop)) _ _ _
 refine va0 (vn5 hN3 rfl ?_)
 have hN4:=vd6 (ve6 (·.push Value.none)) hN3 rfl
 refine vn5 (hz:=by seq_fits) hN4 rfl ?_
 have hN5:=vd6 (ve6 (·.pop)) hN4 rfl
 have o5:∀ b o,b≠N->h3.get? b=some o->((h3.update N (ve6 (·.push Value.none))).update N (ve6 (·.pop))).get? b=some o:=
  λ b o hb e=>(ve7 _ _ (vb2 hb)).trans ((ve7 _ _ (vb2 hb)).trans e)
 have walk:=(qfn (pg:=pg) (wd:=wd) (Ar:=Ar.in1.in1) hd0 it d nd es ep).toS
 refine va5 ⟨plainId_quiet F.plain_extend_loop _,codeAny_extend_loopS (A:=Ar.in1) walk hz _ (by simp [nI,nl]) _ es.size 0 _ _ _ rfl (jh1 _) ⟨hki.at λ o e=>o5 it o (vb2 nI) e,x3.to λ o e=>o5 d o (vb2 nl) e⟩ hN5 (ItemsOf.nil _) λ t out c2 mv hN' all=>?_⟩
 rw [Moved.eq_with mv]
 exact ⟨rfl,good t.heap t.toks out c2 (λ b o e=>mv.heap b o (by obtain ⟨a1,a2,_⟩:=k3 b o e;simp [a1,a2]) (o5 b o (k3 b o e).1 (k3 b o e).2.2)) hN' all⟩
end
def kP:Key->PV
 | .inl i=>.int i
 | .inr x=>.str x
def tupK (k:List Key):PV:=.tup (k.map kP)
section
variable {X:Cx}
theorem qb1 {kd:List Key×Addr×va2->vi7} (hk:∀ q,(kd q).key=.ref q.2.1) {es:Array vi7}{xs:List (List Key×Addr×va2)} (he:es.toList=xs.map kd) {out:Array va2} (h:ItemsOf (λ i v=>∃ e,es[i]?=some e/\v=e.key) out es.size):out.toList=xs.map λ q=>Value.ref q.2.1:=by
 obtain ⟨hs,hi⟩:=h
 have hl:es.size=xs.length:=by rw [<- jf0,he,ja4]
 refine jn6 λ j=>?_
 by_cases hj:j < xs.length
 ·have e:out[j]?=some out[j]:=jl2 (by omega)
  obtain ⟨en,e1,e2⟩:=hi j _ e
  rw [<- jg2,he,jc6] at e1
  rw [jg2,e,jc6,e2]
  cases eq:xs[j]? with
  | none=>rw [eq] at e1;cases e1
  | some q=>rw [eq] at e1;cases e1;rw [hk];rfl
 ·rw [je7 (by simp;omega),je7 (by simp;omega)]
theorem zbs (hc:X.calm=true):zzd X (.type "list") (λ xs H Q=>∃ a kvs,xs=[.ref a]/\H a=some (.dT kvs)/\∀ bs:List Addr,vo5 (λ (p:List Key×V) b=>H b=some (.tup (p.1.map kV))) kvs bs->∀ l,H l=none->Q (.ref l) (upd H l (.lst (bs.map V.ref)))):=by
 intro pins s σ H xs us Q I r h
 obtain ⟨a,kvs,rfl,ha,q⟩:=h
 obtain ⟨u,rfl,rx⟩:=zpt r
 cases rx
 obtain ⟨hz,nm,ys,pr,o,es,ep,h1,h2,h3,h4,h5⟩:=(show zxu X.prog X.w H s.heap a (.dT kvs) from I.hok a _ ha)
 have ln:kvs.length=ys.length:=by
  clear h4 h5 q ha hz
  induction pr with
  | nil=>rfl
  | cons _ _ ih=>simp [ih]
 have hl:es.size=ys.length:=by rw [<- jf0,h4,ja4]
 have pb:vo5 (λ (p:List Key×V) b=>H b=some (.tup (p.1.map kV))) kvs (ys.map (·.2.1)):=by
  clear h4 h5 q ln hl hz ha
  induction pr with
  | nil=>exact .nil
  | cons x _ ih=>exact .cons x.2.1 ih
 refine qd4 (I.ok.hd hc) nm ⟨o,h1,h2,h3⟩ (by omega) λ hp tk out c2 kp e all=>?_
 have eo:=qb1 (kd:=entryOfKey (vl1 (zxe X.prog X.w))) (λ _=>rfl) h4 all
 refine ⟨.ref s.heap.objs.size,_,I.laid (t':=tk) kp (jb4 _) (show zxu X.prog X.w _ hp _ (.lst ((ys.map (·.2.1)).map V.ref)) from ⟨by simp;omega,out.toList,c2,?_,e⟩),rfl,q _ pb _ (I.hok.fresh (jb4 _))⟩
 rw [eo,jd7]
 clear h4 h5 q ln hl hz pb eo all pr
 induction ys with
 | nil=>exact .nil
 | cons y ys ih=>exact .cons rfl ih
end
section
variable {K:Frag}{H:Hp}{Z:Addr->Prop}
theorem qas:∀ (k:List Key),OwnL K H Z (k.map kP) 0 (k.map kV) []
 | []=>by rw [jg3,jg3,OwnL];exact ⟨rfl,rfl⟩
 | k::r=>by
  rw [jc2,jc2,OwnL]
  refine ⟨_,_,[],[],rfl,rfl,λ _ z=>(nomatch z),?_,qas r⟩
  cases k <;> (show Own K H Z _ 0 _ []) <;> exact ⟨rfl,rfl⟩
theorem qar:∀ {kvs:List (List Key×V)}{bs:List Addr},vo5 (λ (p:List Key×V) b=>H b=some (.tup (p.1.map kV))) kvs bs->OwnL K H Z (kvs.map λ p=>tupK p.1) 0 (bs.map V.ref) []
 | _,_,.nil=>by rw [jg3,jg3,OwnL];exact ⟨rfl,rfl⟩
 | _,_,.cons (a:=p) (b:=b) x t=>by
  rw [jc2,jc2,OwnL]
  refine ⟨_,_,[],[],rfl,rfl,λ _ z=>(nomatch z),?_,qar t⟩
  unfold tupK
  rw [Own]
  exact ⟨b,_,rfl,x,by rw [zmb];exact qas _⟩
end
theorem qkh (k:Key):zwn (kP k)=true:=by cases k <;> rfl
theorem qea:∀ (k:List Key),atoms (k.map kP)=true
 | []=>rfl
 | k::r=>by unfold atoms;rw [jc2];dsimp only;rw [qkh,qea r];rfl
theorem qcd {α:Type} (f:α->List Key):∀ (l:List α),zkb (l.map λ p=>tupK (f p))=true
 | []=>rfl
 | p::r=>by rw [jc2];unfold zkb;rw [qcd f r];show (atoms ((f p).map kP) && true)=true;rw [qea];rfl
section
variable {X:Cx}{M:Fm}{a b:Expr}{f g:Fx}{fa:Fa}{vs vs':List Nat}{pos p:Pos}{σ:St}{H:Hp}{Q:VK}{e:Expr}{es:List Expr}
theorem qmm:PA X [] (tL M aNil []):=qia zzy λ σ H Q h=>ql6 h
theorem qjo (hv:∀ i∈vs,M.Ms i=false) (ha:PE X e (tE M f vs)) (hr:PA X es (tL M fa vs')) (hs:va9 (e::es) X.env=(false,eval e X.env)::va9 es X.env):PA X (e::es) (tL M (zqa f fa) (vs++vs')):=
 qia (zxi ha hr hs) λ σ H Q h=>qjb hv h
theorem zvh {op:List (PV×Nat)->Option (PV×Nat)}{r:List V->Hp->VK->Prop}
  (leaf:∀ xs z c ws H fps fp Q,op xs=some (z,c)->Tmps M.K H (Zv M vs fps) xs ws fp->(∀ a∈fp,¬ Zf M fps a)->(∀ a,Zf M fps a->H a≠none)->Leaf M H fps vs fp z c Q->r ws H Q)
  {σ:St}{H:Hp}{Q:VK} (hq:tE M (zqb op fa) vs σ H Q):tCB r (tL M fa vs) σ H Q:=zgy leaf hq
def zqh (xs:List (PV×Nat)):Option (PV×Nat):=if xs.length<=va4 then some (.lst (xs.map (·.1)),if zym xs then om else 1) else none
def zxz (xs:List (PV×Nat)):Option (PV×Nat):=if xs.length<=va4 then some (.tup (xs.map (·.1)),if zym xs then om else 0) else none
theorem qme (h:PA X es (tL M fa vs)):PE X (.List es pos) (tE M (zqb zqh fa) vs):=by
 refine zqn (qm2 h) λ σ H Q h=>zgy (r:=λ xs H1 Q=>xs.length<=va4/\∀ p,H1 p=none->Q (.ref p) (upd H1 p (.lst xs))) (λ xs z c ws H fps fp Q ho tm nz zd lf=>?_) h
 unfold zqh at ho
 split at ho
 ·rename_i hl
  refine ⟨by rw [tm.length];exact hl,λ q hq=>?_⟩
  cases eo:zym xs with
  | true=>rw [eo] at ho;cases ho;exact zpf lf (tm.all (zku eo)) hq
  | false=>rw [eo] at ho;cases ho;exact zfz lf (tm.cold λ a ha z=>nz a ha z.zf) hq
 ·cases ho
theorem qmb {x1:_} (h:PA X es (tL M fa vs)):PE X (.Tuple es x1 pos) (tE M (zqb zxz fa) vs):=by
 refine zqn (qh5 h) λ σ H Q h=>zgy (r:=λ xs H1 Q=>xs.length<=va4/\∀ p,H1 p=none->Q (.ref p) (upd H1 p (.tup xs))) (λ xs z c ws H fps fp Q ho tm nz zd lf=>?_) h
 unfold zxz at ho
 split at ho
 ·rename_i hl
  refine ⟨by rw [tm.length];exact hl,λ q hq=>?_⟩
  cases eo:zym xs with
  | true=>rw [eo] at ho;cases ho;exact qd6 lf (tm.all (zku eo)) hq
  | false=>rw [eo] at ho;cases ho;exact zyz lf (tm.cold λ a ha z=>nz a ha z.zf) hq
 ·cases ho
theorem Inv.big {pins:List (Addr×Obj)}{s:va3} (I:L2.Inv X pins σ H s):ve4 < s.heap.objs.size:=by
 have h:vc8 < s.heap.objs.size:=(I.mod.glob.keeps I.bk).lt
 exact jn8 (by decide) h
theorem qj0:PE X (.Dict [] [] pos) (λ _ H Q=>∀ p,H p=none->Q (.ref p) (upd H p (.dK []))):=λ pins s σ H Q I h=>
 wpAny_Dict_empty ⟨.ref s.heap.objs.size,_,I.laid (a:=s.heap.objs.size) (o:=.dK []) (t':=s.toks) (λ _ _ q=>va1 _ q) (jb4 _) ⟨jh1 _,beq_eq_false_iff_ne.mpr (vb2 (jc5 (Inv.big I))),[],.nil,Heap.DictOf.new s.heap⟩,rfl,h _ (I.hok.fresh (jb4 _))⟩
theorem qmh:PE X (.Dict [] [] pos) (tE M (bC .emp) []):=by
 refine zqn qj0 λ σ H Q h p hp=>?_
 obtain ⟨ρ,fps,rep,q⟩:=h
 refine q (.ref p) _ fps [] (KD.grow (zxf hp)) Agr.refl (rep.grow (zxf hp)) ?_ ⟨λ _ z=>(nomatch z),λ _ z=>nomatch z⟩
 rw [Own]
 exact ⟨rfl,p,rfl,zqi⟩
theorem qho:zzd X (.builtin "isinstance") (λ xs H Q=>∃ x t T k,xs=[x,.ty T]/\TyOf X.K H x t/\vc1 X.K t (.type T)=some k/\Q (.bl k) H):=by
 intro pins s σ H xs us Q I r h
 obtain ⟨x,t,T,k,rfl,ty,hk,q⟩:=h
 obtain ⟨u,w,rfl,r1,r2⟩:=qcb r
 cases r2
 exact qeg I r1 ty hk λ tk=>⟨.bl k,H,I.tok _,rfl,q⟩
theorem qnp (K:Frag) {T:String} (hT:T∈isiT) (x:PV) (hs:∀ ns,x≠.scr ns) (hx:∀ c,x≠.exn c):vc1 K (.type (zfa x)) (.type T)=some (isiB (zfa x) T):=by
 simp only [isiT,jb3,jf9,or_false] at hT
 cases x with
 | scr ns=>exact absurd rfl (hs ns)
 | exn c=>exact absurd rfl (hx c)
 | _=>rcases hT with h | h | h | h | h | h <;> subst h <;> rfl
theorem qmg {T:String}{x T':Str}{p1 p2:Pos} (hT:T∈isiT) (hK:M.K=X.K) (ha:PE X e (tE M f vs)) (hg:Gl X "isinstance") (hm:X.mg "isinstance" = none) (hT':PE X (.Name T' p2) (tC (.ty T)))
  (hs1:va9 [e,.Name T' p2] X.env=[(false,eval e X.env),(false,eval (.Name T' p2) X.env)]) (hs2:va9 [Expr.Name T' p2] X.env=[(false,eval (.Name T' p2) X.env)]):
  PE X (.Call (.Name "isinstance" p1) [e,.Name T' p2] [] pos) (tE M (bUn (zzf T) f) vs):=by
 refine zqn (zzn qho hg hm rfl (zxi ha (zxi hT' zzy hs2) (by rw [hs1,hs2])) (he:=by rw [hs1,hs2]) (hpl:=by rw [hs2];rfl)) λ σ H Q h=>?_
 refine qcr (r:=λ v H Q=>∃ x t T' k,[v,.ty T]=[x,.ty T']/\TyOf X.K H x t/\vc1 X.K t (.type T')=some k/\Q (.bl k) H) (λ x d z c v H fps f1 Q ho o1 nz zd lf=>?_) h
 have hs:∀ ns,x≠.scr ns:=λ ns e=>by subst e;cases ho
 have hx:∀ c,x≠.exn c:=λ c e=>by subst e;cases ho
 have e2:z=.bl (isiB (zfa x) T):=by
  cases x with
  | scr ns=>cases ho
  | exn c=>cases ho
  | _=>cases ho;rfl
 subst e2
 exact ⟨v,_,T,_,rfl,by rw [<- hK];exact o1.ty hs hx,qnp X.K hT x hs hx,zxn lf⟩
def zxd:List (PV×Nat)->Option (PV×Nat)
 | [(.lst xs,_)]=>some (.int xs.length,om)
 | [(.tup xs,_)]=>some (.int xs.length,om)
 | [(.scr ns,_)]=>some (.int ns.length,om)
 | [(.str z,_)]=>if z.length<=va4 then some (.int z.length,om) else none
 | _=>none
theorem qmf (hK:M.K=X.K) (hg:Gl X "len") (hm:X.mg "len" = none) (ha:PA X (e::es) (tL M fa vs)) (he:va9 (e::es) X.env=(false,eval e X.env)::va9 es X.env) (hpl:(vg5 pos (va9 es X.env)).any (·.1)=false):
  PE X (.Call (.Name "len" p) (e::es) [] pos) (tE M (zqb zxd fa) vs):=by
 refine zqn (zzn (zgr.or zgq) hg hm PySem.boot_len ha (he:=he) (hpl:=hpl)) λ σ H Q h=>zvh (λ xs z c ws H fps fp Q ho tm nz zd lf=>?_) h
 unfold zxd at ho
 split at ho
 ·rename_i xs d
  cases ho
  obtain ⟨v,r,f1,f2,rfl,_,_,o1,h2⟩:=tm
  obtain ⟨rfl,_⟩:=h2
  obtain ⟨q,us,rfl,hs,hl⟩:=o1.seqL
  exact .inl ⟨q,us,rfl,.inl (by rw [<- hK];exact hs),by rw [hl];exact zxg lf⟩
 ·rename_i xs d
  cases ho
  obtain ⟨v,r,f1,f2,rfl,_,_,o1,h2⟩:=tm
  obtain ⟨rfl,_⟩:=h2
  obtain ⟨q,us,rfl,hs,hl⟩:=o1.seqT
  exact .inl ⟨q,us,rfl,.inr (by rw [<- hK];exact hs),by rw [hl];exact zxg lf⟩
 ·rename_i ns d
  cases ho
  obtain ⟨v,r,f1,f2,rfl,_,_,o1,h2⟩:=tm
  obtain ⟨rfl,_⟩:=h2
  rw [Own] at o1
  obtain ⟨_,q,rfl,hp⟩:=o1
  refine .inl ⟨q,ns.map V.int,rfl,.inl ?_,by rw [ja4];exact zxg lf⟩
  rw [<- hK]
  exact hp.elim (λ h=>.inl (.inr h)) .inr
 ·rename_i z d
  split at ho
  ·rename_i hl
   cases ho
   obtain ⟨v,r,f1,f2,rfl,_,_,o1,h2⟩:=tm
   obtain ⟨rfl,_⟩:=h2
   rw [Own] at o1
   obtain ⟨rfl,_⟩:=o1
   exact .inr ⟨_,rfl,hl,zxg lf⟩
  ·cases ho
 ·cases ho
def op2 (k:Int->Int->Int):List (PV×Nat)->Option (PV×Nat)
 | [(.int i,_),(.int j,_)]=>some (.int (k i j),om)
 | _=>none
theorem qay {k:Int->Int->Int}{xs:List (PV×Nat)}{z:PV}{c:Nat}{ws:List V}{fps:Fps}{fp F:List Addr}{Z:Addr->Prop} (ho:op2 k xs=some (z,c)) (tm:Tmps M.K H Z xs ws fp) (lf:Leaf M H fps vs F z c Q):∃ i j,ws=[.int i,.int j]/\Q (.int (k i j)) H:=by
 unfold op2 at ho
 split at ho
 ·rename_i i d j e
  cases ho
  obtain ⟨v,r,f1,f2,rfl,_,_,o1,h2⟩:=tm
  obtain ⟨v2,r2,f3,f4,rfl,_,_,o2,h3⟩:=h2
  obtain ⟨rfl,_⟩:=h3
  rw [Own] at o1 o2
  obtain ⟨rfl,_⟩:=o1
  obtain ⟨rfl,_⟩:=o2
  exact ⟨_,_,rfl,zxg lf⟩
 ·cases ho
def zze:List (PV×Nat)->Option (PV×Nat)
 | [(.lst xs,_)]=>some (.tup xs,0)
 | [(.tup xs,_)]=>some (.tup xs,0)
 | _=>none
def zzu:List (PV×Nat)->Option (PV×Nat)
 | [(.lst xs,_)]=>some (.lst xs,d1 xs)
 | [(.tup xs,_)]=>some (.lst xs,d1 xs)
 | [(.dct kvs,_)]=>some (.lst (kvs.map λ p=>tupK p.1),d1 (kvs.map λ p=>tupK p.1))
 | _=>none
theorem qji (hK:M.K=X.K) (hg:Gl X "tuple") (hm:X.mg "tuple" = none) (ha:PA X (e::es) (tL M fa vs)) (he:va9 (e::es) X.env=(false,eval e X.env)::va9 es X.env) (hpl:(vg5 pos (va9 es X.env)).any (·.1)=false):
  PE X (.Call (.Name "tuple" p) (e::es) [] pos) (tE M (zqb zze fa) vs):=by
 refine zqn (zfp zmu hg hm rfl ha (he:=he) (hpl:=hpl)) λ σ H Q h=>zvh (λ xs z c ws H fps fp Q ho tm nz zd lf=>?_) h
 unfold zze at ho
 split at ho
 ·rename_i xs d
  cases ho
  obtain ⟨v,r,f1,f2,rfl,rfl,_,o1,h2⟩:=tm
  obtain ⟨rfl,rfl⟩:=h2
  obtain ⟨q,us,rfl,hs,ol⟩:=(cold (fp:=f1) o1 λ a ha=>nz a (ja9 _ ha)).coldL
  exact ⟨q,us,rfl,.inl ⟨.inl (.inl hs),λ l hl=>zyz lf ol hl⟩⟩
 ·rename_i xs d
  cases ho
  obtain ⟨v,r,f1,f2,rfl,rfl,_,o1,h2⟩:=tm
  obtain ⟨rfl,rfl⟩:=h2
  have c0:=cold (fp:=f1) o1 λ a ha=>nz a (ja9 _ ha)
  obtain ⟨q,us,rfl,hs,ol⟩:=c0.coldT
  exact ⟨q,us,rfl,.inr ⟨.inl (.inl hs),zvb (x:=.tup xs) lf c0⟩⟩
 ·cases ho
theorem qjl (hcm:X.calm=true) (hK:M.K=X.K) (hg:Gl X "list") (hm:X.mg "list" = none) (ha:PA X (e::es) (tL M fa vs)) (he:va9 (e::es) X.env=(false,eval e X.env)::va9 es X.env) (hpl:(vg5 pos (va9 es X.env)).any (·.1)=false):
  PE X (.Call (.Name "list" p) (e::es) [] pos) (tE M (zqb zzu fa) vs):=by
 refine zqn (zfp (zgp.or (zbs hcm)) hg hm rfl ha (he:=he) (hpl:=hpl)) λ σ H Q h=>zvh (λ xs z c ws H fps fp Q ho tm nz zd lf=>?_) h
 unfold zzu at ho
 split at ho
 ·rename_i xs d
  cases ho
  obtain ⟨v,r,f1,f2,rfl,rfl,_,o1,h2⟩:=tm
  obtain ⟨rfl,rfl⟩:=h2
  obtain ⟨q,us,rfl,hs,ol⟩:=(cold (fp:=f1) o1 λ a ha=>nz a (ja9 _ ha)).coldL
  exact .inl ⟨q,us,rfl,.inl (.inl (.inl hs)),λ l hl=>zwe lf ol hl⟩
 ·rename_i xs d
  cases ho
  obtain ⟨v,r,f1,f2,rfl,rfl,_,o1,h2⟩:=tm
  obtain ⟨rfl,rfl⟩:=h2
  obtain ⟨q,us,rfl,hs,ol⟩:=(cold (fp:=f1) o1 λ a ha=>nz a (ja9 _ ha)).coldT
  exact .inl ⟨q,us,rfl,.inr (.inl (.inl hs)),λ l hl=>zwe lf ol hl⟩
 ·rename_i kvs d
  cases ho
  obtain ⟨v,r,f1,f2,rfl,rfl,_,o1,h2⟩:=tm
  obtain ⟨rfl,rfl⟩:=h2
  rw [Own] at o1
  obtain ⟨a,rfl,o1⟩:=o1
  have ha:H a=some (.dT kvs):=o1.elim (λ z=>z.2.1.1) λ z=>z.2.1
  exact .inr ⟨a,kvs,rfl,ha,λ bs pb l hl=>zwe lf (qar pb) hl⟩
 ·cases ho
end
section
variable {X:Cx}{M:Fm}{a b:Expr}{f g:Fx}{fa:Fa}{vs vs':List Nat}{pos p:Pos}{σ:St}{H:Hp}{Q:VK}{e:Expr}{es:List Expr}
theorem qhp (hc:X.calm=true):zzd X (.builtin "all") (λ xs H Q=>∃ (p:Addr) (bs:List Bool),xs=[.ref p]/\SqL X.K H p (bs.map V.bl)/\Q (.bl (bs.all id)) H):=by
 intro pins s σ H xs us Q I r h
 obtain ⟨p,bs,rfl,hq,q⟩:=h
 obtain ⟨u,rfl,rx⟩:=zpt r
 cases rx
 obtain ⟨its,rv,pl,hz⟩:=I.list hq
 have hl:=rv.length
 rw [ja4] at hl
 refine call_all_walk (wpAny_pyIter_list pl.isList ?_)
 have hlt:p < s.heap.objs.size:=by obtain ⟨o,n,e,_⟩:=pl;exact va6 e
 have hne:p≠s.heap.objs.size:=jc5 hlt
 refine ⟨s.heap.objs.size,_,_,its.toArray.size,_,_,λ i=>bs.getD i true,rfl,Walks.list (A:=X.A.in1) (show X.A.in1.handled=none from I.ok.hd hc) s.heap.objs.size p hne its.toArray,⟨⟨_,va7 _ rfl,rfl,rfl⟩,?_⟩,?_,λ h' tk k=>?_⟩
 ·exact pl.isList.at λ o e=>va1 _ e
 ·intro i v s' Q' E' hv hq'
  have hv':its[i]?=some v:=by simpa using hv
  have hi:i < bs.length:=by rw [hl];exact (ja7.mp hv').1
  obtain ⟨w,e1,e2⟩:=rv.get (i:=i) (x:=.bl bs[i]) (by simp [hi])
  rw [hv'] at e1
  cases e1
  cases e2
  refine vc6 ?_
  have:bs.getD i true=bs[i]:=by simp [jq1,hi]
  dsimp only at hq'
  rw [this] at hq'
  exact hq'
 ·have I1:L2.Inv X pins σ H { s with heap:=s.heap.push { cls:=.type "list_iterator",data:=.fields #[.ref p,vk1 0] } }:=I.kept (t':=s.toks) λ b o e=>va1 _ e
  obtain ⟨f0,f1,f2,f3,f4,f5⟩:=I.fpOk (H':=H) (jb4 s.heap.objs.size) (I.hok.fresh (jb4 _))
  have I2:L2.Inv X pins σ H { s with heap:=h',toks:=tk }:=I1.turned (t':=tk) (λ b o hb e=>k b o (by simpa using hb) e) f0 f1 f3 f4 f5
  refine ⟨.bl _,H,I2,rfl,?_⟩
  have e:(jd0 its.toArray.size).all (λ i=>bs.getD i true)=bs.all id:=by
   rw [jc1,<- hl]
   rw [jg6]
   simp only [jc7,jf4,id]
   constructor
   ·intro h x hx
    obtain ⟨i,hi,rfl⟩:=ji0 hx
    have:=h i hi
    simpa [jq1,hi] using this
   ·intro h i hi
    simp [jq1,hi]
    exact h _ (jg0 hi)
  rw [e]
  exact q
def allB:List PV->Option (List Bool)
 | []=>some []
 | .bl b::r=>(allB r).map (b::·)
 | _=>none
def zbo:List (PV×Nat)->Option (PV×Nat)
 | [(.lst xs,_)]=>(allB xs).map λ bs=>(.bl (bs.all id),om)
 | _=>none
theorem qbm {K:Frag}{Z:Addr->Prop}:∀ {xs:List PV}{ws:List V}{bs:List Bool},allB xs=some bs->OwnL K H Z xs 0 ws []->ws=bs.map V.bl
 | [],ws,bs,e,h=>by cases e;rw [OwnL] at h;exact h.1
 | .bl b::r,ws,bs,e,h=>by
  obtain ⟨bs',e1,rfl⟩:=jb7.mp e
  rw [OwnL] at h
  obtain ⟨v,s,f1,f2,rfl,ef,dj,h1,h2⟩:=h
  obtain ⟨rfl,rfl⟩:f1=[]/\f2=[]:=by simpa using ef.symm
  rw [Own] at h1
  rw [h1.1,qbm e1 h2]
  rfl
 | .non::_,_,_,e,_=>by cases e
 | .int _::_,_,_,e,_=>by cases e
 | .str _::_,_,_,e,_=>by cases e
 | .lst _::_,_,_,e,_=>by cases e
 | .tup _::_,_,_,e,_=>by cases e
 | .emp::_,_,_,e,_=>by cases e
 | .dko::_,_,_,e,_=>by cases e
 | .scr _::_,_,_,e,_=>by cases e
 | .dct _::_,_,_,e,_=>by cases e
 | .exn _::_,_,_,e,_=>by cases e
theorem qmk (hc:X.calm=true) (hg:Gl X "all") (hm:X.mg "all" = none) (ha:PA X (e::es) (tL M fa vs)) (he:va9 (e::es) X.env=(false,eval e X.env)::va9 es X.env) (hpl:(vg5 pos (va9 es X.env)).any (·.1)=false):
  PE X (.Call (.Name "all" p) (e::es) [] pos) (tE M (zqb zbo fa) vs):=by
 refine zqn (zzn (qhp hc) hg hm rfl ha (he:=he) (hpl:=hpl)) λ σ H Q h=>zvh (λ xs z c ws H fps fp Q ho tm nz zd lf=>?_) h
 unfold zbo at ho
 split at ho
 ·rename_i xs d
  obtain ⟨bs,eb,e2⟩:=jb7.mp ho
  cases e2
  obtain ⟨v,r,f1,f2,rfl,rfl,_,o1,h2⟩:=tm
  obtain ⟨rfl,rfl⟩:=h2
  obtain ⟨q,us,rfl,hs,ol⟩:=(cold (fp:=f1) o1 λ a ha=>nz a (ja9 _ ha)).coldL
  have:=qbm eb ol
  subst this
  exact ⟨q,bs,rfl,.inl (.inl hs),zxn lf⟩
 ·cases ho
def zyq:List PV->Option (List Int)
 | []=>some []
 | .int i::r=>(zyq r).map (i::·)
 | _=>none
theorem zvl {K:Frag}{Z:Addr->Prop}:∀ {xs:List PV}{ws:List V}{ns:List Int},zyq xs=some ns->OwnL K H Z xs 0 ws []->ws=ns.map V.int
 | [],ws,ns,e,h=>by cases e;rw [OwnL] at h;exact h.1
 | .int b::r,ws,ns,e,h=>by
  obtain ⟨ns',e1,rfl⟩:=jb7.mp e
  rw [OwnL] at h
  obtain ⟨v,s,f1,f2,rfl,ef,dj,h1,h2⟩:=h
  obtain ⟨rfl,rfl⟩:f1=[]/\f2=[]:=by simpa using ef.symm
  rw [Own] at h1
  rw [h1.1,zvl e1 h2]
  rfl
 | .non::_,_,_,e,_=>by cases e
 | .bl _::_,_,_,e,_=>by cases e
 | .str _::_,_,_,e,_=>by cases e
 | .lst _::_,_,_,e,_=>by cases e
 | .tup _::_,_,_,e,_=>by cases e
 | .emp::_,_,_,e,_=>by cases e
 | .dko::_,_,_,e,_=>by cases e
 | .scr _::_,_,_,e,_=>by cases e
 | .dct _::_,_,_,e,_=>by cases e
 | .exn _::_,_,_,e,_=>by cases e
theorem zzh:∀ {ns:List Int}{its:List va2},Vals (ns.map V.int) its->∃ xs:List (Int×Tok),its=xs.map (λ p=>Value.int p.1 p.2)/\xs.map (·.1)=ns
 | [],its,h=>by cases h;exact ⟨[],rfl,rfl⟩
 | n::ns,its,h=>by
  cases h with
  | cons r rr=>
   obtain ⟨t,rfl⟩:=r
   obtain ⟨xs,rfl,rfl⟩:=zzh rr
   exact ⟨(n,t)::xs,rfl,rfl⟩
theorem qfb (hc:X.calm=true):zzd X (.builtin "min") (λ xs H Q=>∃ (p:Addr) (ns:List Int),xs=[.ref p]/\SqL X.K H p (ns.map V.int)/\ns≠[]/\∀ m,m∈ns->(∀ a∈ns,m<=a)->Q (.int m) H):=by
 intro pins s σ H xs us Q I r h
 obtain ⟨p,ns,rfl,hq,hn,q⟩:=h
 obtain ⟨u,rfl,rx⟩:=zpt r
 cases rx
 obtain ⟨its,rv,pl,hz⟩:=I.list hq
 obtain ⟨zs,rfl,rfl⟩:=zzh rv
 have e:(zs.map λ p=>Value.int p.1 p.2).toArray=vd8 zs.toArray:=by simp [vd8]
 rw [e] at pl
 have h0:0 < zs.length:=by
  cases zs with
  | nil=>exact absurd rfl hn
  | cons _ _=>simp
 refine min_intList (I.ok.hd hc) pl.isList (by simpa using h0) λ v h' tk hv k=>?_
 obtain ⟨l1,l2⟩:=argBest_lt (vg7 zs.toArray) (zs.toArray.size - 1)
 have hv':=hv
 obtain ⟨t,rfl⟩:=vi9 hv
 have at':∀ j,j < zs.length->vg7 zs.toArray j∈zs.map (·.1):=λ j hj=>by
  unfold vg7
  simp [hj]
  exact ⟨_,jg0 hj⟩
 refine ⟨.int _,H,I.kept (t':=tk) k,⟨t,rfl⟩,q _ (at' _ ?_) λ a ha=>?_⟩
 ·have:zs.toArray.size=zs.length:=by simp
  omega
 ·obtain ⟨z,hz,rfl⟩:=jd6.mp ha
  obtain ⟨j,hj,rfl⟩:=ji0 hz
  have hzs:zs.toArray.size=zs.length:=by simp
  have:=l2 j (by (clear l1 h0;omega))
  have e:vg7 zs.toArray j=zs[j].1:=by unfold vg7;simp [hj]
  rw [e] at this
  exact this
theorem qby {prog:vb0}{w:vb8}{A:vc0}{E:va2->va3->Prop}{s:va3}{l:Addr}{xs:Array (Int×Tok)}{Q:va2->va3->Prop} (hh:A.handled=none) (hl:s.heap.IsTuple l (vd8 xs)) (hne:0 < xs.size)
  (h:∀ v h' tk,(vd8 xs)[argBest (λ i j=>decide (vg7 xs i < vg7 xs j)) (xs.size - 1)]?=some v->(∀ b o,s.heap.get? b=some o->h'.get? b=some o)->Q v { s with heap:=h',toks:=tk }):
  vb1 (vb3 prog w) A (call (.builtin "min") [.ref l]) Q E s:=by
 have hlt:l < s.heap.objs.size:=by obtain ⟨_,e,_⟩:=hl;exact va6 e
 refine call_min_walk (vf9 hl ?_)
 refine ⟨_,[_,l],[_],_,_,_,_,rfl,Walks.tuple (A:=A.in1) hh _ l (jc5 hlt) (vd8 xs),⟨⟨_,va7 _ rfl,rfl,rfl⟩,hl.push _⟩,λ c hc=>?_,by simpa [vd8] using hne,CmpOf.ints_lt (vg7 xs) (λ _ _=>vi9),λ v h' tk hP hk=>?_⟩
 ·show c < (s.heap.push _).objs.size
  rw [vc2]
  rcases jb3.mp hc with rfl | hc
  ·exact je5 _
  ·rcases jb3.mp hc with rfl | hc
   ·exact jh6 hlt
   ·cases hc
 ·exact h v h' tk (by simpa [vd8] using hP) λ c o e=>by
   refine hk c o (λ hm=>?_) (va1 _ e)
   rcases jb3.mp hm with e1 | hm
   ·exact absurd (e1 ▸ va6 e) (jd8 _)
   ·cases hm
theorem qfa (hc:X.calm=true):zzd X (.builtin "min") (λ xs H Q=>∃ (p:Addr) (ns:List Int),xs=[.ref p]/\SqT X.K H p (ns.map V.int)/\ns≠[]/\∀ m,m∈ns->(∀ a∈ns,m<=a)->Q (.int m) H):=by
 intro pins s σ H xs us Q I r h
 obtain ⟨p,ns,rfl,hq,hn,q⟩:=h
 obtain ⟨u,rfl,rx⟩:=zpt r
 cases rx
 obtain ⟨its,rv,pl,hz⟩:=I.tuple hq
 obtain ⟨zs,rfl,rfl⟩:=zzh rv
 have e:(zs.map λ p=>Value.int p.1 p.2).toArray=vd8 zs.toArray:=by simp [vd8]
 rw [e] at pl
 have h0:0 < zs.length:=by
  cases zs with
  | nil=>exact absurd rfl hn
  | cons _ _=>simp
 refine qby (I.ok.hd hc) pl (by simpa using h0) λ v h' tk hv k=>?_
 obtain ⟨l1,l2⟩:=argBest_lt (vg7 zs.toArray) (zs.toArray.size - 1)
 have hv':=hv
 obtain ⟨t,rfl⟩:=vi9 hv
 have at':∀ j,j < zs.length->vg7 zs.toArray j∈zs.map (·.1):=λ j hj=>by
  unfold vg7
  simp [hj]
  exact ⟨_,jg0 hj⟩
 refine ⟨.int _,H,I.kept (t':=tk) k,⟨t,rfl⟩,q _ (at' _ ?_) λ a ha=>?_⟩
 ·have:zs.toArray.size=zs.length:=by simp
  omega
 ·obtain ⟨z,hz,rfl⟩:=jd6.mp ha
  obtain ⟨j,hj,rfl⟩:=ji0 hz
  have hzs:zs.toArray.size=zs.length:=by simp
  have:=l2 j (by (clear l1 h0;omega))
  have e:vg7 zs.toArray j=zs[j].1:=by unfold vg7;simp [hj]
  rw [e] at this
  exact this
theorem qfj (a b c:va2):argsOk "min" ⟨[a,b,c],[]⟩:=by unfold argsOk;kernel_rfl
theorem qdx {pg:vb0}{wd:vb8}{Ar:vc0}{Er:va2->va3->Prop}{st:va3}{a b c:va2}{Qv:va2->va3->Prop}
  (q:vb1 (vb3 pg wd) Ar.in1 (pyIter (.ref st.heap.objs.size)) (λ it s2=>∃ I fp wr n P St bt,it=.ref I/\Walks pg wd Ar.in1 I fp wr n P St/\St 0 s2.heap/\(∀ b∈fp,b < s2.heap.objs.size)/\0 < n/\CmpOf pg wd Ar.in1 .Lt P bt /\
   ∀ v h' tk,P (argBest bt (n - 1)) v->(∀ b o,b∉wr->s2.heap.get? b=some o->h'.get? b=some o)->Qv v { s2 with heap:=h',toks:=tk }) Er { st with heap:=st.heap.push { cls:=.type "tuple",data:=.seq #[a,b,c] } }):
  vb1 (vb3 pg wd) Ar (call (.builtin "min") [a,b,c]) Qv Er st:=by
 have nm:(toString "min" ++ toString ".loop" : String) = "min.loop" := by decide
 refine call_function_tree F.kind_min F.plain_min F.entry_min (qfj _ _ _) ?_
 show vb1 _ Ar.in1 (vo7 "min" ["key","default"] 0 ⟨[],[]⟩ >>= _) _ _ st
 refine va0 (wpAny_of_eq (show vo7 "min" ["key","default"] 0 ⟨[],[]⟩=pure [none,none] from by rfl) ?_)
 show vb1 _ Ar.in1 (newTuple [a,b,c] >>= _) _ _ st
 refine va0 (vb5 (va0 (vd9 q (λ it s2 r=>?_) λ _ _ e=>e)))
 obtain ⟨I,fp,wr,n,P,St,bt,rfl,W,w1,w2,w3,w4,w5⟩:=r
 refine va0 (vb5 (Q:=_) ?_)
 rw [nm]
 refine va5 ⟨plainId_quiet F.plain_min_loop _,codeAny_min_loop_first W bt w4 s2.heap.objs.size (λ z=>jd8 _ (w2 _ z)) w3 (W.frame _ _ _ w1 λ b _ o e=>va1 _ e) (va7 _ rfl) λ v hp tk hP hk=>?_⟩
 exact w5 v hp tk hP λ b o hb e=>hk b o hb (jc5 (va6 e)) (va1 _ e)
theorem qdy {pg:vb0}{wd:vb8}{Ar:vc0}{Er:va2->va3->Prop}{st:va3}{zs:Array (Int×Tok)}{i j k:Int}{t u v:Tok} (hz:zs=#[(i,t),(j,u),(k,v)]) {Qv:va2->va3->Prop} (hd0:Ar.handled=none)
  (q:∀ r hp tk,(vd8 zs)[argBest (λ a b=>decide (vg7 zs a < vg7 zs b)) (zs.size - 1)]?=some r->(∀ b o,st.heap.get? b=some o->hp.get? b=some o)->Qv r { st with heap:=hp,toks:=tk }):
  vb1 (vb3 pg wd) Ar (call (.builtin "min") [.int i t,.int j u,.int k v]) Qv Er st:=by
 have hT:(st.heap.push { cls:=.type "tuple",data:=.seq #[.int i t,.int j u,.int k v] }).IsTuple st.heap.objs.size (vd8 zs):=by subst hz;exact ⟨_,va7 _ rfl,rfl,0,by simp [vd8]⟩
 have s1:(st.heap.push { cls:=.type "tuple",data:=.seq #[.int i t,.int j u,.int k v] }).objs.size=st.heap.objs.size + 1:=vc2 ..
 have n3:0 < (vd8 zs).size:=by subst hz;simp [vd8]
 refine qdx (vf9 hT ?_)
 refine ⟨_,[_,st.heap.objs.size],[_],_,_,_,_,rfl,Walks.tuple (A:=Ar.in1) hd0 _ st.heap.objs.size (by rw [s1];exact jc5 (je5 _)) (vd8 zs),⟨⟨_,va7 _ rfl,rfl,rfl⟩,hT.push _⟩,λ c hc=>?_,n3,CmpOf.ints_lt (vg7 zs) (λ _ _=>vi9),λ r hp tk hP hk=>?_⟩
 ·show c < ((st.heap.push _).push _).objs.size
  rw [vc2,s1]
  simp only [jb3,jf9,or_false] at hc
  rcases hc with rfl | rfl
  ·rw [s1];exact je5 _
  ·exact jh6 (je5 _)
 ·refine q r hp tk (by simpa [vd8] using hP) λ b o e=>hk b o (λ z=>?_) (va1 _ (va1 _ e))
  have l:=va6 e
  rw [jb6.mp z,s1] at l
  exact jd8 _ (Nat.lt_of_succ_lt l)
def minI:Int->List Int->Int
 | n,[]=>n
 | n,m::r=>minI (if m < n then m else n) r
theorem zmi:∀ (r:List Int) (n:Int),minI n r∈n::r
 | [],n=>ja3
 | m::r,n=>by
  unfold minI
  have:=zmi r (if m < n then m else n)
  rcases jb3.mp this with h | h
  ·rw [h]
   split
   ·exact ja1 _ ja3
   ·exact ja3
  ·exact ja1 _ (ja1 _ h)
theorem zhi:∀ (r:List Int) (n:Int),∀ a∈n::r,minI n r<=a
 | [],n,a,h=>by
  have:a=n:=by simpa using h
  rw [this];exact jm8 _
 | m::r,n,a,h=>by
  unfold minI
  have ih:=zhi r (if m < n then m else n)
  have h1:=ih _ ja3
  have h2:(if m < n then m else n)<=n/\(if m < n then m else n)<=m:=by split <;> omega
  rcases jb3.mp h with e | h
  ·rw [e];(clear e h2;omega)
  ·rcases jb3.mp h with e | h
   ·rw [e];(clear e h2;omega)
   ·exact ih a (ja1 _ h)
theorem zpd {ns:List Int}{m m':Int} (h1:m∈ns) (h2:∀ a∈ns,m<=a) (h3:m'∈ns) (h4:∀ a∈ns,m'<=a):m=m':=by
 have:=h2 m' h3
 have:=h4 m h1
 omega
theorem qfc (hc:X.calm=true):zzd X (.builtin "min") (λ xs H Q=>∃ i j k:Int,xs=[.int i,.int j,.int k]/\Q (.int (minI i [j,k])) H):=by
 intro pins s σ H xs us Q I r h
 obtain ⟨i,j,k,rfl,q⟩:=h
 obtain ⟨zs,e1,e2⟩:=zzh (ns:=[i,j,k]) r
 obtain ⟨⟨i',t⟩,⟨j',u⟩,⟨k',v⟩,rfl⟩:∃ a b c,zs=[a,b,c]:=by
  match zs,e2 with
  | [a,b,c],_=>exact ⟨a,b,c,rfl⟩
 simp only [jc2,jg3,List.cons.injEq,and_true] at e1 e2
 obtain ⟨h1,h2,h3⟩:=e2
 rw [h1,h2,h3] at e1
 subst e1
 refine qdy (zs:=[(i,t),(j,u),(k,v)].toArray) rfl (I.ok.hd hc) λ w h' tk hv kp=>?_
 obtain ⟨l1,l2⟩:=argBest_lt (vg7 [(i,t),(j,u),(k,v)].toArray) ([(i,t),(j,u),(k,v)].toArray.size - 1)
 obtain ⟨t',rfl⟩:=vi9 hv
 refine ⟨.int _,H,I.kept (t':=tk) kp,⟨t',rfl⟩,?_⟩
 have a0:=l2 0 (by simp)
 have a1:=l2 1 (by simp)
 have a2:=l2 2 (by simp)
 generalize argBest _ _=m at *
 have:vg7 [(i,t),(j,u),(k,v)].toArray m=minI i [j,k]:=by
  have hm:m=0\/m=1\/m=2:=by simp at l1;(clear a2 a1 a0 h3 h2 h1;omega)
  simp only [minI]
  rcases hm with rfl | rfl | rfl <;> simp [vg7] at a0 a1 a2⊢<;> (repeat' split) <;> (clear l1 h3 h2 h1;omega)
 rw [this]
 exact q
def zws:List (PV×Nat)->Option (PV×Nat)
 | [(.lst xs,_)]=>match zyq xs with
  | some (n::r)=>some (.int (minI n r),om)
  | _=>none
 | [(.tup xs,_)]=>match zyq xs with
  | some (n::r)=>some (.int (minI n r),om)
  | _=>none
 | [(.int i,_),(.int j,_),(.int k,_)]=>some (.int (minI i [j,k]),om)
 | xs=>op2 (λ i j=>if j < i then j else i) xs
theorem qjj (hc:X.calm=true) (hg:Gl X "min") (hm:X.mg "min" = none) (ha:PA X (e::es) (tL M fa vs)) (he:va9 (e::es) X.env=(false,eval e X.env)::va9 es X.env) (hpl:(vg5 pos (va9 es X.env)).any (·.1)=false):
  PE X (.Call (.Name "min" p) (e::es) [] pos) (tE M (zqb zws fa) vs):=by
 refine zqn (zzn ((((qfd hc).or (qfb hc)).or (qfa hc)).or (qfc hc)) hg hm rfl ha (he:=he) (hpl:=hpl)) λ σ H Q h=>zvh (λ xs z c ws H fps fp Q ho tm nz zd lf=>?_) h
 unfold zws at ho
 split at ho
 ·rename_i xs d
  split at ho
  ·rename_i n r eb
   cases ho
   obtain ⟨v,r',f1,f2,rfl,rfl,_,o1,h2⟩:=tm
   obtain ⟨rfl,rfl⟩:=h2
   obtain ⟨q,us,rfl,hs,ol⟩:=(cold (fp:=f1) o1 λ a ha=>nz a (ja9 _ ha)).coldL
   have:=zvl eb ol
   subst this
   refine .inl (.inl (.inr ⟨q,n::r,rfl,.inl (.inl hs),by simp,λ m h1 h2=>?_⟩))
   rw [zpd h1 h2 (zmi r n) (zhi r n)]
   exact zxg lf
  ·cases ho
 ·rename_i xs d
  split at ho
  ·rename_i n r eb
   cases ho
   obtain ⟨v,r',f1,f2,rfl,rfl,_,o1,h2⟩:=tm
   obtain ⟨rfl,rfl⟩:=h2
   obtain ⟨q,us,rfl,hs,ol⟩:=(cold (fp:=f1) o1 λ a ha=>nz a (ja9 _ ha)).coldT
   have:=zvl eb ol
   subst this
   refine .inl (.inr ⟨q,n::r,rfl,.inl (.inl hs),by simp,λ m h1 h2=>?_⟩)
   rw [zpd h1 h2 (zmi r n) (zhi r n)]
   exact zxg lf
  ·cases ho
 ·cases ho
  obtain ⟨v,r',f1,f2,rfl,rfl,_,o1,v2,r2,f3,f4,rfl,rfl,_,o2,v3,r3,f5,f6,rfl,rfl,_,o3,rfl,rfl⟩:=tm
  rw [Own] at o1
  rw [Own] at o2
  rw [Own] at o3
  obtain ⟨rfl,_⟩:=o1
  obtain ⟨rfl,_⟩:=o2
  obtain ⟨rfl,_⟩:=o3
  exact .inr ⟨_,_,_,rfl,zxg lf⟩
 ·exact .inl (.inl (.inl (qay ho tm lf)))
abbrev Fn:=List PV->Rz (PV×Nat×PV)
def spF (K:Frag) (io:Bool) (n:Nat) (F:Fn):Sp:=λ ws H Q E=>ws.length=n/\∃ (xs:List PV) (Zo:Addr->Prop) (x0:PV) (v0:V) (fp0:List Addr),
 (∀ a,Zo a->H a≠none)/\(∀ a∈fp0,¬ Zo a)/\(io=false->fp0=[]/\OwnL K H Zo xs 0 ws []) /\
 (io=true->∃ xr wr,xs=x0::xr/\ws=v0::wr/\Own K H (λ _=>True) x0 om v0 fp0/\OwnL K H (λ a=>Zo a\/a∈fp0) xr 0 wr []) /\
 (match F xs with
  | .ok (y,d,z0)=>∀ v H' fp fp0',Keep (λ a=>a∈fp0) H H'->(∀ a,H a≠none->H' a≠none)->(∀ a∈fp0',a∈fp0\/H a=none)->(∀ a∈fp0',¬ Zo a)->(io=false->fp0'=[])->(io=true->Own K H' (λ _=>True) z0 om v0 fp0') ->
    Own K H' (λ a=>(Zo a\/a∈fp0')\/a∈fp) y d v fp->(∀ a∈fp,H a=none/\¬ (Zo a\/a∈fp0'))->Q v H'
  | .exc c=>∀ H',Keep (λ a=>a∈fp0) H H'->(∀ a,H a≠none->H' a≠none)->E (.int (c:Int) 0) none H'
  | .no=>False)
def zqw (F:Fn) (fa:Fa):Fx:=λ ρ=>(fa ρ).bind λ (xs,ρ1)=>match F (xs.map (·.1)) with
 | .ok (y,d,_)=>.ok (y,d,ρ1)
 | .exc c=>.exc c
 | .no=>.no
theorem qjd {F:Fn}{n:Nat} (hF:∀ xs,xs.length≠n->F xs=.no) {σ:St}{H:Hp}{Q:VK} (hq:tE M (zqw F fa) vs σ H Q):qhy (spF M.K false n F) M.W (tL M fa vs) σ H Q:=by
 obtain ⟨ρ,fps,rep,q⟩:=hq
 refine ⟨ρ,fps,rep,?_⟩
 unfold zqw at q
 cases ef:fa ρ with
 | no=>rw [ef] at q;exact q
 | exc c=>rw [ef] at q;exact q
 | ok p=>
  obtain ⟨xs,ρ1⟩:=p
  rw [ef] at q
  intro ws H1 fps1 f1 k1 g1 rep1 o1 t1
  dsimp only [Rz.bind] at q
  have back:∀ a,H1 a=none->H a=none:=λ a e=>by
   cases e':H a with
   | none=>rfl
   | some o=>exact absurd e (k1.dom a (by rw [e'];simp))
  show spF M.K false n F ws H1 Q (XEof (M.W σ))
  have hlen:xs.length=n:=by
   by_cases e:xs.length=n
   ·exact e
   ·rw [hF (xs.map (·.1)) (by rw [ja4];exact e)] at q;exact q.elim
  refine ⟨by rw [o1.length,hlen],xs.map (·.1),Zv M vs fps1,.non,.non,[],λ a z=>rep1.zdom z.zf,λ _ z=>(nomatch z),λ _=>⟨rfl,o1.cold λ a ha z=>t1.ndj a ha z.zf⟩,(λ h=>nomatch h),?_⟩
  cases eF:F (xs.map (·.1)) with
  | no=>rw [eF] at q;exact q
  | exc c=>
   rw [eF] at q
   exact λ H' kp _=>q H' fps1 (k1.trans (KD.grow λ a o h=>kp a o h λ z=>nomatch z))
  | ok r=>
   obtain ⟨y,d,z0⟩:=r
   rw [eF] at q
   intro v H' fp fp0' kp dm _ _ h0 _ oy hf
   have e0:=h0 rfl
   subst e0
   have kk:∀ a o,H1 a=some o->H' a=some o:=λ a o h=>kp a o h λ z=>nomatch z
   refine q v H' fps1 fp (k1.trans (KD.grow kk)) g1 (rep1.grow kk) (oy.weak λ a h=>h.elim (λ h=>.inl (.inl h)) .inr) ⟨λ a ha=>back a (hf a ha).1,λ a ha=>rep1.nz (hf a ha).1⟩
def zqd (F:Fn) (i:Nat) (fa:Fa):Fx:=λ ρ=>match ρ[i]? with
 | some (some _)=>(fa ρ).bind λ (xs,ρ1)=>(match ρ1[i]? with
  | some (some (x0,_))=>(match F (x0::xs.map (·.1)) with
   | .ok (y,d,z0)=>.ok (y,d,ρ1.set i (some (z0,om)))
   | _=>.no)
  | _=>.no)
 | _=>.no
theorem qcv {F:Fn}{n i:Nat}{E:XK} (hal:∀ i,∀ j∈M.al i,M.Ms j=false) (hv:∀ i∈vs,M.Ms i=false) (hm:M.Ms i=true) (hF:∀ xs,xs.length≠n->F xs=.no) {σ:St}{H:Hp}{Q:VK} (hq:tE M (zqd F i fa) vs σ H Q):qfx (spF M.K true n F) [] E (zbl (tVar i) (tL M fa vs)) σ H Q:=by
 obtain ⟨ρ,fps,rep,q⟩:=hq
 unfold zqd at q
 cases e0:ρ[i]? with
 | none=>rw [e0] at q;exact q.elim
 | some s0=>
  rw [e0] at q
  cases s0 with
  | none=>exact q.elim
  | some p0=>
  obtain ⟨xi,di⟩:=p0
  obtain ⟨v0,hσ,_⟩:=rep.own i _ _ e0
  dsimp only at q
  refine ⟨v0,hσ,ρ,fps,rep,?_⟩
  cases ef:fa ρ with
  | no=>rw [ef] at q;exact q
  | exc c=>rw [ef] at q;exact q
  | ok p=>
   obtain ⟨xs,ρ1⟩:=p
   rw [ef] at q
   intro ws H1 fps1 f1 k1 g1 rep1 o1 t1
   dsimp only [Rz.bind] at q
   have back:∀ a,H1 a=none->H a=none:=λ a e=>by
    cases e':H a with
    | none=>rfl
    | some o=>exact absurd e (k1.dom a (by rw [e'];simp))
   show spF M.K true n F ((v0::ws)++[]) H1 Q E
   rw [jd9]
   cases e1:ρ1[i]? with
   | none=>rw [e1] at q;exact q.elim
   | some s1=>
    rw [e1] at q
    cases s1 with
    | none=>exact q.elim
    | some p1=>
    obtain ⟨x0,d0⟩:=p1
    dsimp only at q
    have hd:=rep1.msf i x0 d0 hm e1
    subst hd
    obtain ⟨v1,hσ1,o0⟩:=rep1.own i _ _ e1
    rw [hσ] at hσ1
    cases hσ1
    have hi:i < ρ1.length:=(ja7.mp e1).1
    have ivs:i∉vs:=λ z=>by rw [hv i z] at hm;cases hm
    have hlen:xs.length + 1=n:=by
     by_cases e:xs.length + 1=n
     ·exact e
     ·rw [hF (x0::xs.map (·.1)) (by rw [jb2,ja4];exact e)] at q;exact q.elim
    refine ⟨by rw [jb2,o1.length,hlen],x0::xs.map (·.1),(λ a=>Zv M vs fps1 a/\a∉fps1 i),x0,v0,fps1 i,λ a z=>rep1.zdom z.1.zf,λ a ha z=>z.2 ha,(λ h=>nomatch h),λ _=>⟨xs.map (·.1),ws,rfl,rfl,Own.full x0 v0 _ o0,?_⟩,?_⟩
    ·refine (o1.cold λ a ha z=>t1.ndj a ha z.zf).weak λ a h=>?_
     rcases h with h | h
     ·exact h.1
     ·exact .inr ⟨i,ivs,h⟩
    ·cases eF:F (x0::xs.map (·.1)) with
     | no=>rw [eF] at q;exact q
     | exc c=>rw [eF] at q;exact q.elim
     | ok r=>
      obtain ⟨y,d,z0⟩:=r
      rw [eF] at q
      intro v H' fp fp0' kp dm sb nZ _ h1 oy hf
      have oz:=h1 rfl
      have nz0:∀ a∈fp0',¬ M.Zo a:=λ a ha z=>by
       by_cases hai:a∈fps1 i
       ·exact rep1.zo i a hai z
       ·exact nZ a ha ⟨.inl z,hai⟩
      have kd:KD M H1 fps1 H' (λ j=>if j=i then fp0' else fps1 j):=⟨λ a o h n=>kp a o h λ z=>n ⟨i,hm,z⟩,dm,λ j a ha=>by
       by_cases ej:j=i
       ·simp only [if_pos ej] at ha;rw [ej];exact sb a ha
       ·simp only [if_neg ej] at ha;exact .inl ha,λ j hj=>by
       have ej:j≠i:=λ e=>by rw [e,hm] at hj;cases hj
       exact if_neg ej⟩
      have djn:∀ j,j≠i->∀ a∈fp0',a∉fps1 j:=λ j hj a ha hb=>by
       rcases sb a ha with z | z
       ·exact rep1.dj i j (vb2 hj) a z hb
       ·obtain ⟨xs,e⟩:=rep1.lsts hb
        rw [z] at e;cases e
      have rp:Rep M (ρ1.set i (some (z0,om))) σ H' (λ j=>if j=i then fp0' else fps1 j):=by
       refine ⟨λ j x c hj=>?_,λ j hj=>?_,λ j k hjk a ha hb=>?_,λ j a ha z=>?_,λ j hj a ha=>?_,λ a z=>dm a (rep1.zd a z),by rw [jc0];exact rep1.len,λ j x c hj hc=>?_,λ a z=>dm a (rep1.h0 a z),rep1.iov⟩
       ·by_cases ej:j=i
        ·subst ej
         rw [jb1 hi] at hj
         cases hj
         refine ⟨v0,hσ,?_⟩
         rw [if_pos rfl]
         exact Own.full _ _ _ oz
        ·rw [ja0 (vb2 ej)] at hj
         obtain ⟨w,hw,ow⟩:=rep1.own j x c hj
         refine ⟨w,hw,?_⟩
         rw [if_neg ej]
         by_cases hmj:M.Ms j=true
         ·have hd:=rep1.msf j x c hmj hj
          subst hd
          exact Own.full _ _ _ (Own.move (S:=λ a=>a∈fps1 i) (Z:=λ _=>True) (Z':=λ _=>True) kp (λ a ha=>⟨trivial,rep1.lsts ha⟩) (λ _ _ n=>n) x om w _ (λ a ha hb=>rep1.dj j i ej a ha hb) (Own.full _ _ _ ow))
         ·refine Own.move (S:=λ a=>a∈fps1 i) kp (λ a ha=>⟨.inr ⟨i,λ z=>(by rw [hal j i z] at hm;cases hm),ha⟩,rep1.lsts ha⟩) (λ a hd nz z=>?_) x c w _ (λ a ha hb=>rep1.dj j i ej a ha hb) ow
          rcases z with z | ⟨k,nk,z⟩
          ·exact nz (.inl z)
          ·by_cases ek:k=i
           ·simp only [if_pos ek] at z
            rcases sb a z with z | z
            ·exact nz (.inr ⟨k,nk,by rw [ek];exact z⟩)
            ·exact hd z
           ·simp only [if_neg ek] at z;exact nz (.inr ⟨k,nk,z⟩)
       ·by_cases ej:j=i
        ·subst ej;exact absurd (jb1 hi) (hj _)
        ·rw [if_neg ej]
         exact rep1.non j λ p hp=>hj p (by rw [ja0 (vb2 ej)];exact hp)
       ·by_cases e1:j=i
        ·by_cases e2:k=i
         ·exact hjk (e1.trans e2.symm)
         ·rw [if_pos e1] at ha;rw [if_neg e2] at hb;exact djn k e2 a ha hb
        ·rw [if_neg e1] at ha
         by_cases e2:k=i
         ·rw [if_pos e2] at hb;exact djn j e1 a hb ha
         ·rw [if_neg e2] at hb;exact rep1.dj j k hjk a ha hb
       ·by_cases ej:j=i
        ·rw [if_pos ej] at ha;exact nz0 a ha z
        ·rw [if_neg ej] at ha;exact rep1.zo j a ha z
       ·have ej:j≠i:=λ e=>by rw [e,hm] at hj;cases hj
        rw [if_neg ej] at ha
        exact rep1.fr j hj a ha
       ·by_cases ej:j=i
        ·subst ej
         rw [jb1 hi] at hc
         cases hc
         rfl
        ·rw [ja0 (vb2 ej)] at hc
         exact rep1.msf j x c hj hc
      have ag:Agr M ρ1 (ρ1.set i (some (z0,om))):=⟨λ j hj=>ja0 (λ e=>by rw [<- e,hm] at hj;cases hj),by rw [jc0]⟩
      refine q v H' _ fp (k1.trans kd) (g1.trans ag) rp (oy.weak λ a h=>?_) ⟨λ a ha=>back a (hf a ha).1,λ a ha z=>?_⟩
      ·rcases h with (h | ⟨j,nj,h⟩) | h
       ·by_cases hai:a∈fps1 i
        ·exact absurd h (rep1.zo i a hai)
        ·exact .inl (.inl ⟨.inl h,hai⟩)
       ·by_cases ej:j=i
        ·simp only [if_pos ej] at h;exact .inl (.inr h)
        ·simp only [if_neg ej] at h
         exact .inl (.inl ⟨.inr ⟨j,nj,h⟩,λ z=>rep1.dj j i ej a h z⟩)
       ·exact .inr h
      ·rcases z with z | ⟨j,z⟩
       ·exact rep1.zd a z (hf a ha).1
       ·by_cases ej:j=i
        ·simp only [if_pos ej] at z;exact (hf a ha).2 (.inr z)
        ·simp only [if_neg ej] at z
         obtain ⟨xs,e⟩:=rep1.lsts z
         rw [(hf a ha).1] at e;cases e
end
section
variable {prog:vb0}{w:vb8}{A:vc0}{E:va2->va3->Prop}{s:va3}
theorem qds {p q:Addr}{n:Nat}{us:Array va2}{u:va2}{Q:va2->va3->Prop} (st:s.heap.IsTupleIter p q n) (ht:s.heap.IsTuple q us) (hu:us[n]?=some u) (hQ:∀ h',h'.IsTupleIter p q (n + 1)->vh9 p s.heap h'->Q u { s with heap:=h' }):
  vb1 (vb3 prog w) A (vb7 (.ref p)) Q E s:=by
 obtain ⟨ob,eb,cb,db⟩:=id st
 obtain ⟨ot,et,_,nt,dt⟩:=ht
 unfold vb7;refine va0 (vc3 (name:=vg6 "__next__") st.typeIs vf4 (vd1 vf4 st.typeIs vo6 ?_ (vn3 _)))
 show vb1 _ _ (field (.ref p) 0 >>= _) _ _ s
 refine va0 (vc7 eb db (x:=.ref q) rfl ?_)
 show vb1 _ _ (if (Value.ref q == Value.none)=true then _ else _) _ _ s
 rw [if_neg (show ¬ ((Value.ref q == Value.none)=true) from jb8)]
 show vb1 _ _ (field (.ref p) 1 >>= _) _ _ s
 refine va0 (vc7 eb db (x:=.int n 0) rfl ?_)
 show vb1 _ _ (seqItems? (.ref q) >>= _) _ _ s
 refine va0 (vd7 et dt ?_)
 simp only [je6,hu]
 refine va0 (vj9 eb db (by simp) (va5 ⟨u,rfl,va5 (hQ _ ?_ (vh3 ..))⟩))
 exact ⟨_,vd6 _ eb (Obj.isFreed_of_fields (vh8 db _)),(Obj.cls_mapFields ..).trans cb,by rw [vh8 db];simp [vk1]⟩
theorem zpb {p q:Addr}{n:Nat}{us:Array va2}{Q:va2->va3->Prop} (hh:A.handled=none) (st:s.heap.IsTupleIter p q n) (ht:s.heap.IsTuple q us) (hu:us[n]?=none)
  (hE:∀ h' e,Heap.ExtBut p s.heap h'->(∃ o,h'.get? e=some o/\o.cls=.type "StopIteration")->E (.ref e) { s with heap:=h' }):vb1 (vb3 prog w) A (vb7 (.ref p)) Q E s:=by
 obtain ⟨ob,eb,cb,db⟩:=id st
 obtain ⟨ot,et,_,nt,dt⟩:=ht
 unfold vb7;refine va0 (vc3 (name:=vg6 "__next__") st.typeIs vf4 (vd1 vf4 st.typeIs vo6 ?_ (vn3 _)))
 show vb1 _ _ (field (.ref p) 0 >>= _) _ _ s
 refine va0 (vc7 eb db (x:=.ref q) rfl ?_)
 show vb1 _ _ (if (Value.ref q == Value.none)=true then _ else _) _ _ s
 rw [if_neg (show ¬ ((Value.ref q == Value.none)=true) from jb8)]
 show vb1 _ _ (field (.ref p) 1 >>= _) _ _ s
 refine va0 (vc7 eb db (x:=.int n 0) rfl ?_)
 show vb1 _ _ (seqItems? (.ref q) >>= _) _ _ s
 refine va0 (vd7 et dt ?_)
 simp only [je6,hu]
 refine va0 (wpAny_rule (va0 (vj9 eb db (by simp) ?_)))
 show vb1 _ _ (newExc (.type "StopIteration") [] >>= _) _ _ _;refine va0 ?_;simp only [newExc,newTuple]
 refine va0 (vb5 ?_ (by size_fits));refine va0 (m:=vk2 _ _) (wpAny_of_eq (a:=Value.none) (by first | rfl | (simp only [vk2];rfl)) ?_)
 refine vb5 ?_ (by size_fits);simp only [raiseNew];refine va0 (wpAny_handled ?_)
 first | rw [show A.in1.handled=none from hh] | rw [hh];skip
 refine va0 (va5 (wpAny_throw (hE _ _ (((vh3 ..).extBut.push _).push _) ⟨_,va7 _ rfl,rfl⟩)))
structure ZApart (zz ti to p1 p2 q1 q2:Addr):Prop where
 ne1:ti≠zz
 ne2:to≠zz
 ne3:p1≠zz
 ne4:p2≠zz
 ne5:ti≠to
 ne6:ti≠p1
 ne7:ti≠p2
 ne8:to≠p1
 ne9:to≠p2
 nea:p1≠p2
 neb:q1≠zz
 nec:q1≠to
 ned:q1≠p1
 nee:q1≠p2
 nef:q2≠zz
 neg:q2≠to
 neh:q2≠p1
 nei:q2≠p2
section
variable {zz ti to p1 p2 q1 q2:Addr}{n1 n2:Nat}{us vs:Array va2}{u v a b:va2}
theorem qis {Q:va2->va3->Prop} (D:ZApart zz ti to p1 p2 q1 q2) (hz:vk6 s.heap zz ti to .none) (hi:vf3 s.heap ti (.ref p1) (.ref p2)) (ho:vf3 s.heap to a b) (h1:s.heap.IsTupleIter p1 q1 n1) (h2:s.heap.IsTupleIter p2 q2 n2) (t1:s.heap.IsTuple q1 us) (t2:s.heap.IsTuple q2 vs) (hu:us[n1]?=some u) (hv:vs[n2]?=some v)
  (hQ:∀ h',vk6 h' zz ti to (vk1 s.heap.objs.size)->vf3 h' to u v->h'.IsTupleIter p1 q1 (n1 + 1)->h'.IsTupleIter p2 q2 (n2 + 1)->vf3 h' s.heap.objs.size u v->h'.objs.size=s.heap.objs.size + 1->(∀ c o,c≠zz->c≠to->c≠p1->c≠p2->s.heap.get? c=some o->h'.get? c=some o)->Q (.ref s.heap.objs.size) { s with heap:=h' }):
  vb1 (vb3 prog w) A (vk7.«zip.__next__» ⟨[.ref zz],[]⟩) (λ fin s'=>∃ v,fin=.done (.ret v)/\Q v s') E s:=by
 show vb1 _ _ (field (.ref zz) 2 >>= _) _ _ _;refine va0 (vc7 hz rfl (x:=.bool false) rfl ?_)
 show vb1 _ _ (field (.ref zz) 3 >>= _) _ _ _;refine va0 (vc7 hz rfl (x:=.ref ti) rfl ?_)
 refine va0 (vd7 hi rfl ?_)
 show vb1 _ _ (vd0 (.ref zz) >>= _) _ _ _;refine va0 ?_;unfold vd0
 refine va0 (vc7 hz rfl (x:=.none) rfl (va5 ?_));simp only [if_true]
 refine va0 (wpAny_rule ?_);refine va0 (vc7 hz rfl (x:=.ref to) rfl ?_)
 refine va0 (ve8 hz (by simp) λ g1 y1 k1=>?_)
 replace y1:vk6 g1 zz ti to .ellipsis:=y1
 refine va0 ?_;simp only [jj9,jp1,jo3,jo7]
 refine va0 (va0 (vk8 ?_));show vb1 _ _ (vb7 (.ref p1) >>= _) _ _ _
 refine va0 (qds (h1.extBut k1.extBut D.ne3) (t1.extBut k1.extBut D.neb) hu λ g2 m2 k2=>va5 ?_)
 have o2:vf3 g2 to a b:=k2.extBut _ _ D.ne8 (k1.extBut _ _ D.ne2 ho)
 refine va0 (vd7 o2 rfl ?_)
 refine va0 (vj7 o2 λ g3 o3 k3=>?_)
 replace o3:vf3 g3 to u b:=o3
 refine va0 (vn6 (va5 ?_));refine va0 (va0 (vk8 ?_));show vb1 _ _ (vb7 (.ref p2) >>= _) _ _ _
 refine va0 (qds (((h2.extBut k1.extBut D.ne4).extBut k2.extBut D.nea.symm).extBut k3.extBut D.ne9.symm) (((t2.extBut k1.extBut D.nef).extBut k2.extBut D.neh).extBut k3.extBut D.neg) hv λ g4 m4 k4=>va5 ?_)
 have o4:vf3 g4 to u b:=k4.extBut _ _ D.ne9 o3
 refine va0 (vd7 o4 rfl ?_)
 refine va0 (vj7 o4 λ g5 o5 k5=>?_)
 replace o5:vf3 g5 to u v:=o5
 refine va0 (vn6 (va5 (va5 ?_)));refine va0 (vd7 o5 rfl ?_);refine va0 (wpAny_newTuple ?_)
 have sz:g5.objs.size=s.heap.objs.size:=by rw [k5.1,k4.1,k3.1,k2.1,k1.1]
 have y5:vk6 g5 zz ti to .ellipsis:=k5.extBut _ _ D.ne2.symm (k4.extBut _ _ D.ne4.symm (k3.extBut _ _ D.ne2.symm (k2.extBut _ _ D.ne3.symm y1)))
 have kk:∀ c o,c≠zz->c≠to->c≠p1->c≠p2->s.heap.get? c=some o->g5.get? c=some o:=λ c o c1 c2 c3 c4 e=>k5.extBut _ _ c2 (k4.extBut _ _ c4 (k3.extBut _ _ c2 (k2.extBut _ _ c3 (k1.extBut _ _ c1 e))))
 have m1:g5.IsTupleIter p1 q1 (n1 + 1):=((m2.extBut k3.extBut D.ne8.symm).extBut k4.extBut D.nea).extBut k5.extBut D.ne8.symm
 have m5:g5.IsTupleIter p2 q2 (n2 + 1):=m4.extBut k5.extBut D.ne9.symm
 have zlt:zz < g5.objs.size:=va6 y5
 show vb1 _ _ (vk4 (.ref zz) (.ref g5.objs.size) >>= _) _ _ _;refine va0 ?_;unfold vk4
 have y6:vk6 (g5.push { cls:=.type "tuple",data:=.seq #[u,v] }) zz ti to .ellipsis:=va1 _ y5
 refine va0 (ve8 y6 (by simp) λ g7 y7 k7=>?_)
 replace y7:vk6 g7 zz ti to (vk1 g5.objs.size):=y7
 refine ve8 y7 (by simp) λ g8 y8 k8=>?_
 replace y8:vk6 g8 zz ti to (vk1 g5.objs.size):=y8
 have up:∀ c o,c≠zz->g5.get? c=some o->g8.get? c=some o:=λ c o c1 e=>k8.extBut _ _ c1 (k7.extBut _ _ c1 (va1 _ e))
 have t8:vf3 g8 g5.objs.size u v:=k8.extBut _ _ (jg1 zlt) (k7.extBut _ _ (jg1 zlt) (va7 _ rfl))
 have z8:g8.objs.size=g5.objs.size + 1:=by rw [k8.1,k7.1,vc2]
 rw [sz] at y8 t8 z8
 refine va5 ⟨_,rfl,?_⟩
 show Q (.ref g5.objs.size) _
 rw [sz]
 exact hQ g8 y8 (up _ _ D.ne2 o5) (m1.at λ o e=>up _ o D.ne3 e) (m5.at λ o e=>up _ o D.ne4 e) t8 z8 λ c o c1 c2 c3 c4 e=>up c o c1 (kk c o c1 c2 c3 c4 e)
theorem qle {Q:Fin->va3->Prop} (hh:A.handled=none) (D:ZApart zz ti to p1 p2 q1 q2) (hz:vk6 s.heap zz ti to .none) (hi:vf3 s.heap ti (.ref p1) (.ref p2)) (ho:vf3 s.heap to a b) (h1:s.heap.IsTupleIter p1 q1 n1) (h2:s.heap.IsTupleIter p2 q2 n2) (t1:s.heap.IsTuple q1 us) (t2:s.heap.IsTuple q2 vs) (hend:us[n1]?=none\/vs[n2]?=none)
  (hE:∀ h' e,(∀ c o,c≠zz->c≠to->c≠p1->c≠p2->s.heap.get? c=some o->h'.get? c=some o)->(∃ o,h'.get? e=some o/\o.cls=.type "StopIteration")->E (.ref e) { s with heap:=h' }):
  vb1 (vb3 prog w) A (vk7.«zip.__next__» ⟨[.ref zz],[]⟩) Q E s:=by
 show vb1 _ _ (field (.ref zz) 2 >>= _) _ _ _;refine va0 (vc7 hz rfl (x:=.bool false) rfl ?_)
 show vb1 _ _ (field (.ref zz) 3 >>= _) _ _ _;refine va0 (vc7 hz rfl (x:=.ref ti) rfl ?_)
 refine va0 (vd7 hi rfl ?_)
 show vb1 _ _ (vd0 (.ref zz) >>= _) _ _ _;refine va0 ?_;unfold vd0
 refine va0 (vc7 hz rfl (x:=.none) rfl (va5 ?_));simp only [if_true]
 refine va0 (wpAny_rule ?_);refine va0 (vc7 hz rfl (x:=.ref to) rfl ?_)
 refine va0 (ve8 hz (by simp) λ g1 y1 k1=>?_)
 replace y1:vk6 g1 zz ti to .ellipsis:=y1
 refine va0 ?_;simp only [jj9,jp1,jo3,jo7]
 refine va0 (va0 (vk8 ?_));show vb1 _ _ (vb7 (.ref p1) >>= _) _ _ _
 cases hu:us[n1]? with
 | none=>
  refine va0 (zpb hh (h1.extBut k1.extBut D.ne3) (t1.extBut k1.extBut D.neb) hu λ g2 e k2 ⟨oe,xe,ce⟩=>?_)
  have y2:vk6 g2 zz ti to .ellipsis:=k2 _ _ D.ne3.symm y1
  have ne:e≠zz:=λ x=>by subst x;rw [y2] at xe;cases xe;simp at ce
  refine ve8 y2 (by simp) λ g3 _ k3=>hE g3 e (λ c o c1 _ c3 _ x=>k3.extBut _ _ c1 (k2 _ _ c3 (k1.extBut _ _ c1 x))) ⟨oe,k3.extBut _ _ ne xe,ce⟩
 | some u=>
  have hv:vs[n2]?=none:=by rcases hend with h | h;rw [hu] at h;cases h;exact h
  refine va0 (qds (h1.extBut k1.extBut D.ne3) (t1.extBut k1.extBut D.neb) hu λ g2 m2 k2=>va5 ?_)
  have o2:vf3 g2 to a b:=k2.extBut _ _ D.ne8 (k1.extBut _ _ D.ne2 ho)
  refine va0 (vd7 o2 rfl ?_)
  refine va0 (vj7 o2 λ g3 o3 k3=>?_)
  refine va0 (vn6 (va5 ?_));refine va0 (va0 (vk8 ?_));show vb1 _ _ (vb7 (.ref p2) >>= _) _ _ _
  refine va0 (zpb hh (((h2.extBut k1.extBut D.ne4).extBut k2.extBut D.nea.symm).extBut k3.extBut D.ne9.symm) (((t2.extBut k1.extBut D.nef).extBut k2.extBut D.neh).extBut k3.extBut D.neg) hv λ g4 e k4 ⟨oe,xe,ce⟩=>?_)
  have y4:vk6 g4 zz ti to .ellipsis:=k4 _ _ D.ne4.symm (k3.extBut _ _ D.ne2.symm (k2.extBut _ _ D.ne3.symm y1))
  have ne:e≠zz:=λ x=>by subst x;rw [y4] at xe;cases xe;simp at ce
  refine ve8 y4 (by simp) λ g5 _ k5=>hE g5 e (λ c o c1 c2 c3 c4 x=>k5.extBut _ _ c1 (k4 _ _ c4 (k3.extBut _ _ c2 (k2.extBut _ _ c3 (k1.extBut _ _ c1 x))))) ⟨oe,k5.extBut _ _ ne xe,ce⟩
theorem qka {Q:Option va2->va3->Prop} (D:ZApart zz ti to p1 p2 q1 q2) (hz:vk6 s.heap zz ti to .none) (hi:vf3 s.heap ti (.ref p1) (.ref p2)) (ho:vf3 s.heap to a b) (h1:s.heap.IsTupleIter p1 q1 n1) (h2:s.heap.IsTupleIter p2 q2 n2) (t1:s.heap.IsTuple q1 us) (t2:s.heap.IsTuple q2 vs) (hu:us[n1]?=some u) (hv:vs[n2]?=some v)
  (hQ:∀ h',vk6 h' zz ti to (vk1 s.heap.objs.size)->vf3 h' to u v->h'.IsTupleIter p1 q1 (n1 + 1)->h'.IsTupleIter p2 q2 (n2 + 1)->vf3 h' s.heap.objs.size u v->h'.objs.size=s.heap.objs.size + 1->(∀ c o,c≠zz->c≠to->c≠p1->c≠p2->s.heap.get? c=some o->h'.get? c=some o)->Q (some (.ref s.heap.objs.size)) { s with heap:=h' }):
  vb1 (vb3 prog w) A (vl2 (.ref zz)) Q E s:=by
 have hT:s.TypeIs (.ref zz) "zip" := ⟨_,hz,rfl⟩
 unfold vl2
 exact va0 (vk9 (vc3 (name:=vg6 "__next__") hT vj6 (vd1 vj6 hT F.entry_zip_next (qis D hz hi ho h1 h2 t1 t2 hu hv λ h' a1 a2 a3 a4 a5 a6 a7=>va5 (hQ h' a1 a2 a3 a4 a5 a6 a7)) (F.args_zip_next_1 _))))
theorem zhf {Q:Option va2->va3->Prop} (hh:A.handled=none) (D:ZApart zz ti to p1 p2 q1 q2) (hz:vk6 s.heap zz ti to .none) (hi:vf3 s.heap ti (.ref p1) (.ref p2)) (ho:vf3 s.heap to a b) (h1:s.heap.IsTupleIter p1 q1 n1) (h2:s.heap.IsTupleIter p2 q2 n2) (t1:s.heap.IsTuple q1 us) (t2:s.heap.IsTuple q2 vs) (hend:us[n1]?=none\/vs[n2]?=none)
  (hQ:∀ h',(∀ c o,c≠zz->c≠to->c≠p1->c≠p2->s.heap.get? c=some o->h'.get? c=some o)->Q none { s with heap:=h' }):vb1 (vb3 prog w) A (vl2 (.ref zz)) Q E s:=by
 have hT:s.TypeIs (.ref zz) "zip" := ⟨_,hz,rfl⟩
 unfold vl2
 refine va0 (vk9 (vc3 (name:=vg6 "__next__") hT vj6 (vd1 vj6 hT F.entry_zip_next (qle hh D hz hi ho h1 h2 t1 t2 hend λ h' e hk ⟨o,xo,xc⟩=>?_) (F.args_zip_next_1 _))))
 exact va0 (vm9 (T := "StopIteration") (b:=true) ⟨o,xo,xc⟩ isSubtype_stop (va5 (hQ _ hk)))
end
abbrev ztH1 (h:Heap) (q:Addr):Heap:=h.push { cls:=.type "tuple_iterator",data:=.fields #[.ref q,.int 0 0] }
abbrev ztH2 (h:Heap) (q r:Addr):Heap:=(ztH1 h q).push { cls:=.type "tuple_iterator",data:=.fields #[.ref r,.int 0 0] }
abbrev ztH3 (h:Heap) (q r:Addr):Heap:=(ztH2 h q r).push { cls:=.type "tuple",data:=.seq #[.ref h.objs.size,.ref (ztH1 h q).objs.size] }
abbrev ztH4 (h:Heap) (q r:Addr):Heap:=(ztH3 h q r).push { cls:=.type "tuple",data:=.seq #[.none,.none] }
abbrev ztH5 (h:Heap) (q r:Addr):Heap:=(ztH4 h q r).push { cls:=.type "zip",data:=.fields #[.none,.bool false,.bool false,.ref (ztH2 h q r).objs.size,.ref (ztH3 h q r).objs.size] }
theorem qgr (q r:Addr) (us vs:Array va2):Meets (vk7.«zip.__new__» ⟨[.type "zip",.ref q,.ref r],[]⟩) (λ _ R s=>s.heap.IsTuple q us/\s.heap.IsTuple r vs/\R (.ok (.ret (.ref (ztH4 s.heap q r).objs.size))) { s with heap:=ztH5 s.heap q r }):=
 .of_wp λ prog w A R s h=>by
  obtain ⟨hp,g,d,tk,os⟩:=s;obtain ⟨t1,t2,h⟩:=h
  have hsub:=sub_zip
  have T1:Heap.IsTuple (Shared.heap ⟨hp,g,d,tk,os⟩) q us:=t1
  have T2:Heap.IsTuple (Shared.heap ⟨hp.push { cls:=.type "tuple_iterator",data:=.fields #[.ref q,.int 0 0] },g,d,tk,os⟩) r vs:=Heap.IsTuple.push t2 _
  wp_walk using vf9 T1,vf9 T2
  exact ⟨_,rfl,h⟩
theorem qk5 {q r:Addr}{us vs:Array va2}{Q:va2->va3->Prop} (t1:s.heap.IsTuple q us) (t2:s.heap.IsTuple r vs)
  (h:∀ h',vk6 h' (s.heap.objs.size + 4) (s.heap.objs.size + 2) (s.heap.objs.size + 3) .none->vf3 h' (s.heap.objs.size + 2) (.ref s.heap.objs.size) (.ref (s.heap.objs.size + 1))->vf3 h' (s.heap.objs.size + 3) .none .none->h'.IsTupleIter s.heap.objs.size q 0->h'.IsTupleIter (s.heap.objs.size + 1) r 0->h'.objs.size=s.heap.objs.size + 5->(∀ c o,s.heap.get? c=some o->h'.get? c=some o)->Q (.ref (s.heap.objs.size + 4)) { s with heap:=h' }):
  vb1 (vb3 prog w) A (call (.type "zip") [.ref q,.ref r]) Q E s:=by
 refine callType_new F.called_zip (by decide) (F.typeCall_zip_2 _ _) (F.newCall_zip_2 _ _) (λ obj=>F.args_object_init_3 obj _ _) F.entry_zip_new (qgr q r us vs) ⟨t1,t2,?_⟩
 have z1:(ztH1 s.heap q).objs.size=s.heap.objs.size + 1:=vc2 ..
 have z2:(ztH2 s.heap q r).objs.size=s.heap.objs.size + 2:=by rw [vc2,z1]
 have z3:(ztH3 s.heap q r).objs.size=s.heap.objs.size + 3:=by rw [vc2,z2]
 have z4:(ztH4 s.heap q r).objs.size=s.heap.objs.size + 4:=by rw [vc2,z3]
 have z5:(ztH5 s.heap q r).objs.size=s.heap.objs.size + 5:=by rw [vc2,z4]
 have g5:(ztH5 s.heap q r).get? (ztH4 s.heap q r).objs.size=some _:=va7 _ rfl
 have g4:(ztH5 s.heap q r).get? (ztH3 s.heap q r).objs.size=some _:=va1 _ (va7 _ rfl)
 have g3:(ztH5 s.heap q r).get? (ztH2 s.heap q r).objs.size=some _:=va1 _ (va1 _ (va7 _ rfl))
 have g2:(ztH5 s.heap q r).get? (ztH1 s.heap q).objs.size=some _:=va1 _ (va1 _ (va1 _ (va7 _ rfl)))
 have g1:(ztH5 s.heap q r).get? s.heap.objs.size=some _:=va1 _ (va1 _ (va1 _ (va1 _ (va7 _ rfl))))
 show _/\_
 rw [z2,z3,z4] at g5;rw [z1,z2] at g3;rw [z3] at g4;rw [z1] at g2;rw [z4]
 exact ⟨⟨_,g5,rfl⟩,h _ g5 g3 g4 ⟨_,g1,rfl,rfl⟩ ⟨_,g2,rfl,rfl⟩ z5 λ c o x=>va1 _ (va1 _ (va1 _ (va1 _ (va1 _ x))))⟩
end
section
variable {X:Cx}{pins:List (Addr×Obj)}{σ:St}{H:Hp}{s:va3}{h':Heap}
theorem qb2 {fp:List Addr}{a:Addr}{o:HO}{t':Nat} (I:Inv X pins σ H s) (k:∀ b u,b∉fp->s.heap.get? b=some u->h'.get? b=some u) (hf:∀ b∈fp,FpOk X pins H b) (ha:s.heap.objs.size<=a) (new:zxu X.prog X.w (upd H a o) h' a o):
  Inv X pins σ (upd H a o) { s with heap:=h',toks:=t' }:=by
 have hn:H a=none:=I.hok.fresh ha
 have nfp:∀ b u,H b=some u->b∉fp:=λ b u e z=>by rw [(hf b z).1] at e;cases e
 have up:∀ b u,H b=some u->upd H a o b=some u:=λ b u e=>by rw [zqg (λ z=>by rw [z,hn] at e;cases e)];exact e
 refine I.step (g':=s.gens) (d':=s.drawn) (ch:=fp) (λ b hb=>?_) (λ b u _ _ hc e _=>k b u hc e) (λ b u _ _ hc e _=>⟨u.slots,k b u hc e⟩) (λ b u _ e n=>?_) (λ b u hc e=>⟨u,k b u hc e⟩) (λ b xs e=>up b _ e) (λ b _ _ e=>up b _ e) (λ b ps e=>⟨#[],by rw [up b _ e];simp⟩) (λ m hm=>?_) (λ b u e=>?_) I.bare
 ·obtain ⟨_,f1,_,f3,f4,f5⟩:=hf b hb
  exact ⟨f3,f1,f4,f5⟩
 ·rw [zqg (λ z=>by rw [z] at e;exact absurd (va6 e) (jq5.mpr ha))];exact n
 ·obtain ⟨u,es,ep,ho,r⟩:=hm
  exact ⟨u,es,ep,k _ u (λ z=>(hf _ z).2.1 rfl) ho,r⟩
 ·by_cases eb:b=a
  ·subst eb
   rw [zqi] at e
   cases e
   exact new
  ·rw [zqg eb] at e
   refine (I.hok b u e).stay (λ c v hc q=>k c v ?_ q) (λ c q=>up c _ q) λ c xs q=>up c _ q
   rcases hc with z | z
   ·rw [z];exact nfp b u e
   ·exact nfp c _ z
theorem zhk {fp:List Addr}{t':Nat} (I:Inv X pins σ H s) (k:∀ b u,b∉fp->s.heap.get? b=some u->h'.get? b=some u) (hf:∀ b∈fp,FpOk X pins H b):Inv X pins σ H { s with heap:=h',toks:=t' }:=by
 have nfp:∀ b u,H b=some u->b∉fp:=λ b u e z=>by rw [(hf b z).1] at e;cases e
 refine I.step (g':=s.gens) (d':=s.drawn) (ch:=fp) (λ b hb=>?_) (λ b u _ _ hc e _=>k b u hc e) (λ b u _ _ hc e _=>⟨u.slots,k b u hc e⟩) (λ _ _ _ _ n=>n) (λ b u hc e=>⟨u,k b u hc e⟩) (λ _ _ e=>e) (λ _ _ _ e=>e) (λ b ps e=>⟨#[],by rw [e];simp⟩) (λ m hm=>?_) (λ b u e=>?_) I.bare
 ·obtain ⟨_,f1,_,f3,f4,f5⟩:=hf b hb
  exact ⟨f3,f1,f4,f5⟩
 ·obtain ⟨u,es,ep,ho,r⟩:=hm
  exact ⟨u,es,ep,k _ u (λ z=>(hf _ z).2.1 rfl) ho,r⟩
 ·refine (I.hok b u e).stay (λ c v hc q=>k c v ?_ q) (λ _ q=>q) λ _ _ q=>q
  rcases hc with z | z
  ·rw [z];exact nfp b u e
  ·exact nfp c _ z
end
def ItZt (a b:Addr):It:=
 ⟨λ i H=>∃ xs ys x y,H a=some (.tup xs)/\H b=some (.tup ys)/\xs[i]?=some x/\ys[i]?=some y,λ i H v H'=>∃ T x y,H T=none/\v=.ref T/\H'=upd H T (.tup [x,y])/\∀ xs ys,H a=some (.tup xs)->H b=some (.tup ys)->xs[i]?=some x/\ys[i]?=some y,λ i H=>∃ xs ys,H a=some (.tup xs)/\H b=some (.tup ys)/\(xs.length<=i\/ys.length<=i)⟩
theorem zhx {h:Heap}{H:Hp}{z TI TO i1 i2 l1 l2:Addr}{f0:va2}{a b c d:va2}{k1 k2:Nat}{xs ys:Array va2}{us vs:List V} (hTT:TI≠TO) (h12:i1≠i2) (hz:vk6 h z TI TO f0) (hTI:vf3 h TI a b) (hTO:vf3 h TO c d) (h1:h.IsTupleIter i1 l1 k1) (h2:h.IsTupleIter i2 l2 k2) (hl1:h.IsTuple l1 xs) (hl2:h.IsTuple l2 ys) (n1:H TO=none) (q1:H l1=some (.tup us)) (q2:H l2=some (.tup vs)):ZApart z TI TO i1 i2 l1 l2:=by
 obtain ⟨o1,e1,c1,_⟩:=h1
 obtain ⟨o2,e2,c2,_⟩:=h2
 obtain ⟨p1,m1,r1,_⟩:=hl1
 obtain ⟨p2,m2,r2,_⟩:=hl2
 have ne:∀ {x y:Addr}{o o':Obj}{n m:String},h.get? x=some o->h.get? y=some o'->o.cls=.type n->o'.cls=.type m->n≠m->x≠y:=λ {x y o o' n m} ex ey cx cy nm z=>by
  subst z
  rw [ex] at ey
  cases ey
  rw [cx] at cy
  injection cy with cy
  exact nm cy
 exact ⟨ne hTI hz rfl rfl (by decide),ne hTO hz rfl rfl (by decide),ne e1 hz c1 rfl (by decide),ne e2 hz c2 rfl (by decide),hTT,ne hTI e1 rfl c1 (by decide),ne hTI e2 rfl c2 (by decide),ne hTO e1 rfl c1 (by decide),ne hTO e2 rfl c2 (by decide),h12,
  ne m1 hz r1 rfl (by decide),(λ z=>by rw [z,n1] at q1;cases q1),ne m1 e1 r1 c1 (by decide),ne m1 e2 r1 c2 (by decide),ne m2 hz r2 rfl (by decide),(λ z=>by rw [z,n1] at q2;cases q2),ne m2 e1 r2 c1 (by decide),ne m2 e2 r2 c2 (by decide)⟩
theorem qix {P:vb0}{w:vb8}{K:Frag}{es:List Expr}{k:Nat}{pos:Pos} (l1 l2 z TI TO i1 i2:Addr) (hTT:TI≠TO) (h12:i1≠i2):
  Turn P w K (.Tuple es k pos) (ItZt l1 l2) [z,TI,TO,i1,i2] z (λ i h=>vk6 h z TI TO .none/\vf3 h TI (.ref i1) (.ref i2)/\(∃ p q,vf3 h TO p q)/\h.IsTupleIter i1 l1 i/\h.IsTupleIter i2 l2 i) where
 mem:=by simp
 obj:=λ i h st b hb=>by
  obtain ⟨hz,hTI,⟨p,q,hTO⟩,⟨o1,e1,_,d1⟩,⟨o2,e2,_,d2⟩⟩:=st
  simp only [jb3,jf9,or_false] at hb
  rcases hb with rfl | rfl | rfl | rfl | rfl
  ·exact ⟨_,hz,λ v z=>by cases z⟩
  ·exact ⟨_,hTI,λ v z=>by cases z⟩
  ·exact ⟨_,hTO,λ v z=>by cases z⟩
  ·exact ⟨o1,e1,λ v z=>by rw [d1] at z;cases z⟩
  ·exact ⟨o2,e2,λ v z=>by rw [d2] at z;cases z⟩
 keep:=λ i h h' st k=>by
  obtain ⟨hz,hTI,⟨p,q,hTO⟩,h1,h2⟩:=st
  exact ⟨k z (by simp) _ hz,k TI (by simp) _ hTI,⟨p,q,k TO (by simp) _ hTO⟩,h1.at λ o x=>k i1 (by simp) o x,h2.at λ o x=>k i2 (by simp) o x⟩
 item:=by
  intro X hP hw hK hc i pins s σ H E I hf st hg
  subst hP hw hK
  obtain ⟨xs,ys,x,y,hq1,hq2,hx,hy⟩:=hg
  obtain ⟨its1,rv1,p1,hz1⟩:=I.tuple (.of hq1)
  obtain ⟨its2,rv2,p2,hz2⟩:=I.tuple (.of hq2)
  obtain ⟨u1,hu1,ru1⟩:=rv1.get hx
  obtain ⟨u2,hu2,ru2⟩:=rv2.get hy
  obtain ⟨hz,hTI,⟨p,q,hTO⟩,h1,h2⟩:=st
  have T1:s.heap.IsTuple l1 its1.toArray:=p1
  have T2:s.heap.IsTuple l2 its2.toArray:=p2
  have D:=zhx hTT h12 hz hTI hTO h1 h2 T1 T2 (hf TO (by simp)).1 hq1 hq2
  refine qka D hz hTI hTO h1 h2 T1 T2 (u:=u1) (v:=u2) (by simpa using hu1) (by simpa using hu2) λ h' a1 a2 a3 a4 a5 a6 hk=>⟨_,rfl,?_⟩
  refine wpAny_letOwnedTupleGo_zip a1 λ h2' hz' hs'=>?_
  have hn:H s.heap.objs.size=none:=I.hok.fresh (jb4 _)
  have hs0:s.heap.objs.size≠z:=jg1 (va6 hz)
  have I1:Inv X pins σ (upd H s.heap.objs.size (.tup [x,y])) { s with heap:=h2',toks:=s.toks }:=by
   refine qb2 (fp:=[z,TI,TO,i1,i2]) I (λ b u hb e=>(hs'.2 b (λ z=>hb (by simp [z]))).trans (hk b u (λ z=>hb (by simp [z])) (λ z=>hb (by simp [z])) (λ z=>hb (by simp [z])) (λ z=>hb (by simp [z])) e)) hf (jb4 _) ?_
   exact ⟨jd3 (by decide:2<=1000) (by decide),_,.cons ru1 (.cons ru2 .nil),⟨_,(hs'.2 _ hs0).trans a5,rfl,_,rfl⟩⟩
  refine ⟨.ref s.heap.objs.size,_,I1,rfl,⟨_,x,y,hn,rfl,rfl,λ xs' ys' e1 e2=>⟨by rw [hq1] at e1;cases e1;exact hx,by rw [hq2] at e2;cases e2;exact hy⟩⟩,⟨hz',(hs'.2 _ D.ne1).trans (hk _ _ D.ne1 D.ne5 D.ne6 D.ne7 hTI),⟨_,_,(hs'.2 _ D.ne2).trans a2⟩,a3.at λ o e=>(hs'.2 _ D.ne3).trans e,a4.at λ o e=>(hs'.2 _ D.ne4).trans e⟩,λ b hb=>?_⟩
  have hb':=(hf b hb).1
  have lt:b < s.heap.objs.size:=by
   simp only [jb3,jf9,or_false] at hb
   rcases hb with rfl | rfl | rfl | rfl | rfl
   ·exact va6 hz
   ·exact va6 hTI
   ·exact va6 hTO
   ·obtain ⟨_,e,_⟩:=h1;exact va6 e
   ·obtain ⟨_,e,_⟩:=h2;exact va6 e
  rw [zqg (jc5 lt)]
  exact hb'
 done:=by
  intro X hP hw hK hc i pins s σ H E I hf st hg
  subst hP hw hK
  obtain ⟨xs,ys,hq1,hq2,hend⟩:=hg
  obtain ⟨its1,rv1,p1,hz1⟩:=I.tuple (.of hq1)
  obtain ⟨its2,rv2,p2,hz2⟩:=I.tuple (.of hq2)
  obtain ⟨hz,hTI,⟨p,q,hTO⟩,h1,h2⟩:=st
  have T1:s.heap.IsTuple l1 its1.toArray:=p1
  have T2:s.heap.IsTuple l2 its2.toArray:=p2
  have D:=zhx hTT h12 hz hTI hTO h1 h2 T1 T2 (hf TO (by simp)).1 hq1 hq2
  have r1:=rv1.length
  have r2:=rv2.length
  refine zhf (I.ok.hd hc) D hz hTI hTO h1 h2 T1 T2 ?_ λ h' hk=>⟨rfl,zhk (t':=s.toks) I (λ b o hb e=>hk b o (λ z=>hb (by simp [z])) (λ z=>hb (by simp [z])) (λ z=>hb (by simp [z])) (λ z=>hb (by simp [z])) e) hf⟩
  rcases hend with h | h
  ·exact .inl (ji7 (by simp;omega))
  ·exact .inr (ji7 (by simp;omega))
 self:=λ _ _ _ _ _ st h=>wpAny_pyIter_zip st.1 h
section
variable {X:Cx}{tg:Expr}
def iZip (K:Frag) (ta:TA):TI:=λ σ H R=>ta σ H λ vs H1=>∃ a b xs ys,vs=[.ref a,.ref b]/\(False\/(H1 a=some (.tup xs)/\H1 b=some (.tup ys)/\R (ItZt a b) H1))
theorem qmz {a b:Expr}{ta:TA}{es:List Expr}{k:Nat}{tp p pos:Pos} (hg:Gl X "zip") (hm:X.mg "zip" = none) (ha:PA X [a,b] ta) (hs:va9 [a,b] X.env=[(false,eval a X.env),(false,eval b X.env)]) (hs2:va9 [b] X.env=[(false,eval b X.env)]):
  PI X (.Tuple es k tp) (.Call (.Name "zip" p) [a,b] [] pos) (iZip X.K ta):=by
 intro pins s σ H R I h
 refine Call_ (zpg I hg hm boot_zip (vf1 (thn (ha pos pins s σ H _ I h) λ us s1 ⟨vs,H1,I1,r1,q1⟩=>?_) (by rw [hs,hs2]) (by rw [hs2];rfl)))
 obtain ⟨c,d,xs,ys,e,z | ⟨hq1,hq2,q⟩⟩:=q1
 ·exact z.elim
 ·subst e
  cases r1 with
  | cons r rr=>
   cases rr with
   | cons r' rr=>
    cases rr
    cases r
    cases r'
    obtain ⟨its1,rv1,p1,hz1⟩:=I1.tuple (.of hq1)
    obtain ⟨its2,rv2,p2,hz2⟩:=I1.tuple (.of hq2)
    refine qk5 (us:=its1.toArray) (vs:=its2.toArray) p1 p2 λ h' hz hTI hTO h1 h2 hsz hk=>?_
    refine wpAny_pyIter_zip (s:={ s1 with heap:=h' }) hz ?_
    refine ⟨s1.heap.objs.size + 4,[s1.heap.objs.size + 4,s1.heap.objs.size + 2,s1.heap.objs.size + 3,s1.heap.objs.size,s1.heap.objs.size + 1],_,_,H1,rfl,I1.kept (t':=s1.toks) hk,qix c d _ _ _ _ _ (jc5 (je5 _)) (jc5 (je5 _)),⟨hz,hTI,⟨_,_,hTO⟩,h1,h2⟩,λ x hx=>?_,q⟩
    have:s1.heap.objs.size<=x:=by
     simp only [jb3,jf9,or_false] at hx
     rcases hx with rfl | rfl | rfl | rfl | rfl
     ·exact jj4 _ _
     ·exact jj4 _ _
     ·exact jj4 _ _
     ·exact jb4 _
     ·exact jj4 _ _
    exact I1.fpOk this (I1.hok.fresh this)
end
inductive Vw where
 | rev | enm | zp
def zipL:List PV->List PV->List PV
 | x::xs,y::ys=>.tup [x,y]::zipL xs ys
 | _,_=>[]
def zkv:Vw->List PV->Option (List PV)
 | .zp,[.tup xs,.tup ys]=>some (zipL xs ys)
 | _,_=>none
def qlg (v:Vw) (K:Frag) (ws:List V) (H:Hp) (R:It->Hp->Prop):Prop:=match v with
 | .rev=>False
 | .enm=>False
 | .zp=>∃ a b xs ys,ws=[.ref a,.ref b]/\(False\/(H a=some (.tup xs)/\H b=some (.tup ys)/\R (ItZt a b) H))
def iVw (v:Vw) (K:Frag) (ta:TA):TI:=λ σ H R=>ta σ H λ ws H1=>qlg v K ws H1 R
theorem zhy:∀ (xs ys:List PV),(zipL xs ys).length=min xs.length ys.length
 | [],ys=>by simp [zipL]
 | x::xs,[]=>by simp [zipL]
 | x::xs,y::ys=>by rw [zipL,jb2,zhy xs ys,jb2,jb2];omega
theorem zhz:∀ (xs ys:List PV) (i:Nat) (x y:PV),xs[i]?=some x->ys[i]?=some y->(zipL xs ys)[i]?=some (.tup [x,y])
 | [],ys,i,x,y,h,_=>by simp at h
 | a::xs,[],i,x,y,_,h=>by simp at h
 | a::xs,b::ys,0,x,y,h,h'=>by simp at h h';subst h h';simp [zipL]
 | a::xs,b::ys,i + 1,x,y,h,h'=>by
  rw [zipL,je1]
  exact zhz xs ys i x y (by simpa using h) (by simpa using h')
theorem Own.growH {K:Frag}{H H':Hp}{Z:Addr->Prop}{x:PV}{v:V} (k:∀ a o,H a=some o->H' a=some o) (h:Own K H Z x 0 v []):Own K H' Z x 0 v []:=
 Own.move (S:=λ _=>False) (λ a o h _=>k a o h) (λ _ z=>z.elim) (λ _ _ n=>n) x 0 v [] (λ _ z=>nomatch z) h
theorem qj3 {K:Frag}{H:Hp}{Z:Addr->Prop}{xs:List PV}{v:V} (o:Own K H Z (.lst xs) 0 v []):∃ a ws,v=.ref a/\SqL K H a ws/\OwnL K H Z xs 0 ws []:=by
 rw [Own] at o
 obtain ⟨b,ws,e,⟨_,hr,_,ol⟩ | ⟨h,_⟩⟩:=o
 ·exact ⟨b,ws,e,.inl (.inl hr.1),ol⟩
 ·exact absurd rfl h
theorem zyx {K:Frag}{H:Hp}{Z:Addr->Prop}{xs:List PV}{v:V} (o:Own K H Z (.tup xs) 0 v []):∃ a ws,v=.ref a/\H a=some (.tup ws)/\OwnL K H Z xs 0 ws []:=by
 rw [Own] at o
 obtain ⟨a,ws,e,h,ol⟩:=o
 rw [zmb] at ol
 exact ⟨a,ws,e,h,ol⟩
theorem qgj {K:Frag}{H:Hp}{Z:Addr->Prop}{x y:PV}{u v:V}{T:Addr} (hT:H T=some (.tup [u,v])) (ox:Own K H Z x 0 u []) (oy:Own K H Z y 0 v []):Own K H Z (.tup [x,y]) 0 (.ref T) []:=by
 rw [Own]
 refine ⟨T,_,rfl,hT,?_⟩
 rw [zmb,OwnL]
 refine ⟨u,[v],[],[],rfl,rfl,(λ _ z=>nomatch z),ox,?_⟩
 rw [OwnL]
 exact ⟨v,[],[],[],rfl,rfl,(λ _ z=>nomatch z),oy,by rw [OwnL];exact ⟨rfl,rfl⟩⟩
theorem OwnL.one {K:Frag}{H:Hp}{Z:Addr->Prop}{x:PV}{ws:List V} (o:OwnL K H Z [x] 0 ws []):∃ v,ws=[v]/\Own K H Z x 0 v []:=by
 rw [OwnL] at o
 obtain ⟨v,r,f1,f2,rfl,ef,_,o1,o2⟩:=o
 obtain ⟨rfl,rfl⟩:f1=[]/\f2=[]:=by simpa using ef.symm
 rw [OwnL] at o2
 exact ⟨v,by rw [o2.1],o1⟩
theorem OwnL.two {K:Frag}{H:Hp}{Z:Addr->Prop}{x y:PV}{ws:List V} (o:OwnL K H Z [x,y] 0 ws []):∃ u v,ws=[u,v]/\Own K H Z x 0 u []/\Own K H Z y 0 v []:=by
 rw [OwnL] at o
 obtain ⟨u,r,f1,f2,rfl,ef,_,o1,o2⟩:=o
 obtain ⟨rfl,rfl⟩:f1=[]/\f2=[]:=by simpa using ef.symm
 obtain ⟨v,rfl,o3⟩:=o2.one
 exact ⟨u,v,rfl,o1,o3⟩
theorem OwnL.mono0 {K:Frag}{H H':Hp}{Z Z':Addr->Prop} (h:∀ x v,Own K H Z x 0 v []->Own K H' Z' x 0 v []):∀ {xs:List PV}{ws:List V},OwnL K H Z xs 0 ws []->OwnL K H' Z' xs 0 ws []
 | [],ws,o=>by rw [OwnL] at o ⊢;exact o
 | x::xs,ws,o=>by
  rw [OwnL] at o
  obtain ⟨u,r,f1,f2,rfl,ef,_,o1,o2⟩:=o
  obtain ⟨rfl,rfl⟩:f1=[]/\f2=[]:=by simpa using ef.symm
  rw [OwnL]
  exact ⟨u,r,[],[],rfl,rfl,(λ _ z=>nomatch z),h _ _ o1,OwnL.mono0 h o2⟩
theorem qoq {v:Vw}{ps els:List PV}{ws:List V}{K:Frag}{H:Hp}{Z:Addr->Prop} (he:zkv v ps=some els) (o:OwnL K H Z ps 0 ws []):∃ J,(∀ R:It->Hp->Prop,R J H->qlg v K ws H R)/\∀ H Z,OwnL K H Z ps 0 ws []->∀ i,(i < els.length->J.go i H)/\(els.length<=i->J.stop i H) /\
  (i < els.length->∀ x H',J.yld i H x H'->(∀ a o,H a=some o->H' a=some o)/\∃ y,els[i]?=some y/\Own K H' Z y 0 x []):=by
 unfold zkv at he
 split at he
 ·rename_i xs ys
  cases he
  obtain ⟨v1,v2,rfl,o1,o2⟩:=o.two
  obtain ⟨a,us,rfl,sq,ol⟩:=zyx o1
  obtain ⟨b,vs,rfl,sq2,ol2⟩:=zyx o2
  refine ⟨ItZt a b,λ R r=>⟨a,b,us,vs,rfl,.inr ⟨sq,sq2,r⟩⟩,λ H' Z' o' i=>?_⟩
  obtain ⟨v1',v2',e,o1',o2'⟩:=o'.two
  cases e
  obtain ⟨a',us',e,sq',ol'⟩:=zyx o1'
  cases e
  obtain ⟨b',vs',e,sq2',ol2'⟩:=zyx o2'
  cases e
  have hl1:=ol'.length
  have hl2:=ol2'.length
  rw [zhy]
  refine ⟨λ h=>⟨us',vs',us'[i]'(by omega),vs'[i]'(by omega),sq',sq2',by simp,by simp⟩,λ h=>⟨us',vs',sq',sq2',by omega⟩,λ h x H2 y=>?_⟩
  obtain ⟨T,u,w,hT,rfl,rfl,e2⟩:=y
  have kx:∀ a o,H' a=some o->upd H' T (.tup [u,w]) a=some o:=λ a o h=>by rw [zqg (λ z=>by rw [z,hT] at h;cases h)];exact h
  obtain ⟨e3,e4⟩:=e2 us' vs' sq' sq2'
  obtain ⟨z1,ez1,oz1⟩:=ol'.get e3
  obtain ⟨z2,ez2,oz2⟩:=ol2'.get e4
  exact ⟨kx,.tup [z1,z2],zhz _ _ _ _ _ ez1 ez2,qgj zqi (oz1.growH kx) (oz2.growH kx)⟩
 ·cases he
section
variable {is:List Nat}{M:Fm}{ρ ρ':Rho}{σ σ':St}{H H' H'':Hp}{fps fps' fps'':Fps}{vs vs':List Nat}
def zyr (v:Vw) (fa:Fa) (k:Nat) (asg:PV->Rho->Option Rho) (test:Fb) (elt:Fx):Fx:=λ ρ=>match fa ρ with
 | .ok (xs,ρ1)=>(match zkv v (xs.map (·.1)) with
  | some els=>(zxl k asg test elt els ρ1 []).bindN λ (acc,ρ2)=>zva acc ρ2
  | none=>.no)
 | .exc c=>.exc c
 | .no=>.no
theorem qft {v:Vw}{g:TG}{is vI vE vo:List Nat}{asg:PV->Rho->Option Rho}{test:Fb}{elt:Fx}{fa:Fa}{k n:Nat}{Q:VK}{P:Fm->Prop}
  (hn:σ.length=n) (hP:∀ D,P (M.comp D n vI)) (hal:∀ i,∀ j∈M.al i,M.Ms j=false) (hvI:∀ i∈vI,M.Ms i=false) (hvE:∀ i∈vE,M.Ms i=false) (his:∀ i∈is,n<=i) (hg:∀ D,GOk (M.comp D n vI) vI is g asg)
  (hvo:∀ i,i∈vE->i < n->i∈vo) (hvo2:∀ i∈vo,M.Ms i=false) (hq:tE M (zyr v fa k asg test elt) vo σ H Q):
  zha k (iVw v M.K (tL M fa vI)) g (λ σ H Q=>∃ M',P M'/\tT M' test σ H Q) (λ σ H Q=>∃ M',P M'/\tE M' elt vE σ H Q) σ H Q:=by
 obtain ⟨ρ,fps,rep,q⟩:=hq
 refine ⟨ρ,fps,rep,?_⟩
 unfold zyr at q
 cases ef:fa ρ with
 | no=>rw [ef] at q;exact q
 | exc c=>rw [ef] at q;exact q
 | ok p=>
  obtain ⟨xs,ρ1⟩:=p
  rw [ef] at q
  intro ws H1 fps1 f1 k1 g1 rep1 o1 t1
  dsimp only at q
  cases ee:zkv v (xs.map (·.1)) with
  | none=>rw [ee] at q;exact q.elim
  | some els=>
   rw [ee] at q
   have hl:n=ρ1.length:=by rw [rep1.len];exact hn.symm
   have o0:OwnL M.K H1 (Zv M vI fps1) (xs.map (·.1)) 0 ws []:=o1.cold λ a ha z=>t1.ndj a ha z.zf
   obtain ⟨J,hpre,hJ⟩:=qoq ee o0
   refine hpre _ ?_
   have stay:∀ {D H' fps'},H1 D=none->KD M H1 fps1 H' fps'->OwnL M.K H' (Zv (M.plus [D]) vI fps') (xs.map (·.1)) 0 ws []:=λ hD k'=>o0.mono0 λ x v h=>KD.seen rep1 k' hD hvI h
   refine zkr (els:=els) hP hl hal hvI hvE his hg hvo hvo2 rep1 (λ {D H' fps' i} hD k' h=>(hJ H' _ (stay hD k') i).1 h) (λ {D H' fps' i} hD k' h=>(hJ H' _ (stay hD k') i).2.1 h) (λ {D H' fps' i x H''} hD k' h y=>(hJ H' _ (stay hD k') i).2.2 h x H'' y) ?_
   dsimp only at q
   cases ec:zxl k asg test elt els ρ1 [] with
   | no=>rw [ec] at q;exact q.elim
   | exc c=>rw [ec] at q;exact q.elim
   | ok p=>
    obtain ⟨acc,ρ2⟩:=p
    rw [ec] at q
    exact λ D ws H' fps' fpl k g r hD hD' tm hf=>zmq rep1 k1 g1 q k g r hD hD' tm hf
end
section
variable {X:Cx}{M:Fm}{f g:Fx}{fa:Fa}{vs vs':List Nat}{a b e:Expr}{es:List Expr}{pos p p2:Pos}{σ:St}{H:Hp}{Q:VK}
theorem qfo:∀ {xs:List V}{us:List va2},Vals xs us->Vals xs.reverse us.reverse
 | _,_,.nil=>.nil
 | _,_,.cons r rr=>by rw [ji9,ji9];exact (qfo rr).append (.cons r .nil)
theorem OwnL.snoc0 {K:Frag}{H:Hp}{Z:Addr->Prop}{x:PV}{v:V}:∀ {xs:List PV}{ws:List V},OwnL K H Z xs 0 ws []->Own K H Z x 0 v []->OwnL K H Z (xs++[x]) 0 (ws++[v]) []
 | [],ws,h,o=>by
  rw [OwnL] at h
  obtain ⟨rfl,_⟩:=h
  rw [ji2,ji2,OwnL]
  exact ⟨v,[],[],[],rfl,rfl,(λ _ z=>nomatch z),o,by rw [OwnL];exact ⟨rfl,rfl⟩⟩
 | y::xs,ws,h,o=>by
  rw [OwnL] at h
  obtain ⟨u,r,f1,f2,rfl,ef,_,o1,o2⟩:=h
  obtain ⟨rfl,rfl⟩:f1=[]/\f2=[]:=by simpa using ef.symm
  rw [jj2,jj2,OwnL]
  exact ⟨u,r++[v],[],[],rfl,rfl,(λ _ z=>nomatch z),o1,OwnL.snoc0 o2 o⟩
theorem OwnL.rev {K:Frag}{H:Hp}{Z:Addr->Prop}:∀ {xs:List PV}{ws:List V},OwnL K H Z xs 0 ws []->OwnL K H Z xs.reverse 0 ws.reverse []
 | [],ws,h=>by
  rw [OwnL] at h
  obtain ⟨rfl,_⟩:=h
  rw [List.reverse_nil,OwnL];exact ⟨rfl,rfl⟩
 | y::xs,ws,h=>by
  rw [OwnL] at h
  obtain ⟨u,r,f1,f2,rfl,ef,_,o1,o2⟩:=h
  obtain ⟨rfl,rfl⟩:f1=[]/\f2=[]:=by simpa using ef.symm
  rw [ji9,ji9]
  exact OwnL.snoc0 (OwnL.rev o2) o1
end
section
variable {M:Fm}{fa:Fa}{vs:List Nat}
def zvd (F:Fn) (i:Nat) (fa:Fa):Fx:=λ ρ=>match ρ[i]? with
 | some (some _)=>(fa ρ).bind λ (xs,ρ1)=>(match ρ1[i]? with
  | some (some (x0,_))=>(match F (x0::xs.map (·.1)) with
   | .ok (y,_,_)=>if zwn y=true then .ok (y,om,ρ1) else .no
   | _=>.no)
  | _=>.no)
 | _=>.no
theorem qct {F:Fn}{n i:Nat}{E:XK} (hm:M.Ms i=true) (hF:∀ xs,xs.length≠n->F xs=.no) {σ:St}{H:Hp}{Q:VK} (hq:tE M (zvd F i fa) [] σ H Q):qfx (spF M.K false n F) [] E (zbl (tVar i) (tL M fa vs)) σ H Q:=by
 obtain ⟨ρ,fps,rep,q⟩:=hq
 unfold zvd at q
 cases e0:ρ[i]? with
 | none=>rw [e0] at q;exact q.elim
 | some s0=>
  rw [e0] at q
  cases s0 with
  | none=>exact q.elim
  | some p0=>
  obtain ⟨xi,di⟩:=p0
  obtain ⟨v0,hσ,_⟩:=rep.own i _ _ e0
  dsimp only at q
  refine ⟨v0,hσ,ρ,fps,rep,?_⟩
  cases ef:fa ρ with
  | no=>rw [ef] at q;exact q
  | exc c=>rw [ef] at q;exact q
  | ok p=>
   obtain ⟨xs,ρ1⟩:=p
   rw [ef] at q
   intro ws H1 fps1 f1 k1 g1 rep1 o1 t1
   dsimp only [Rz.bind] at q
   show spF M.K false n F ((v0::ws)++[]) H1 Q E
   rw [jd9]
   cases e1:ρ1[i]? with
   | none=>rw [e1] at q;exact q.elim
   | some s1=>
    rw [e1] at q
    cases s1 with
    | none=>exact q.elim
    | some p1=>
    obtain ⟨x0,d0⟩:=p1
    dsimp only at q
    have hd:=rep1.msf i x0 d0 hm e1
    subst hd
    obtain ⟨v1,hσ1,o0⟩:=rep1.own i _ _ e1
    rw [hσ] at hσ1
    cases hσ1
    have hlen:xs.length + 1=n:=by
     by_cases e:xs.length + 1=n
     ·exact e
     ·rw [hF (x0::xs.map (·.1)) (by rw [jb2,ja4];exact e)] at q;exact q.elim
    refine ⟨by rw [jb2,o1.length,hlen],x0::xs.map (·.1),(λ a=>Zv M vs fps1 a/\a∉fps1 i),.non,.non,[],λ a z=>rep1.zdom z.1.zf,λ _ z=>(nomatch z),λ _=>⟨rfl,?_⟩,(λ h=>nomatch h),?_⟩
    ·rw [OwnL]
     refine ⟨v0,ws,[],[],rfl,rfl,(λ _ z=>nomatch z),?_,(o1.cold λ a ha z=>t1.ndj a ha z.zf).weak λ a h=>h.1⟩
     exact Own.freeze (Z:=λ _=>True) (λ _ _=>trivial) x0 om v0 (fps1 i) (λ a ha z=>z.2 ha) (Own.full x0 v0 _ o0)
    ·cases eF:F (x0::xs.map (·.1)) with
     | no=>rw [eF] at q;exact q
     | exc c=>rw [eF] at q;exact q.elim
     | ok r=>
      obtain ⟨y,d,z0⟩:=r
      rw [eF] at q
      dsimp only at q
      by_cases hy:zwn y=true
      ·rw [if_pos hy] at q
       intro v H' fp fp0' kp dm _ _ h0 _ oy hf
       have e0:=h0 rfl
       subst e0
       have kk:∀ a o,H1 a=some o->H' a=some o:=λ a o h=>kp a o h λ z=>nomatch z
       exact q v H' fps1 [] (k1.trans (KD.grow kk)) g1 (rep1.grow kk) (Own.atom hy oy).2 ⟨λ _ z=>(nomatch z),λ _ z=>nomatch z⟩
      ·rw [if_neg hy] at q;exact q.elim
def spM (K:Frag) (F:Fn):Sp:=λ ws H Q _=>∃ x0 v0 fp0,ws=[v0]/\Own K H (λ _=>True) x0 om v0 fp0/\(match F [x0] with
 | .ok (y,_,_)=>zwn y=true/\∀ v H',Keep (λ a=>a∈fp0) H H'->(∀ a,H a≠none->H' a≠none)->Own K H' (λ _=>True) y om v []->Q v H'
 | _=>False)
def zve (F:Fn) (i:Nat):Fx:=λ ρ=>match ρ[i]? with
 | some (some (x0,_))=>(match F [x0] with
  | .ok (y,_,_)=>if zwn y=true then .ok (y,om,ρ.set i none) else .no
  | _=>.no)
 | _=>.no
theorem Rep.drop {ρ:Rho}{σ:St}{H H':Hp}{fps:Fps}{i:Nat} (hal:∀ i,∀ j∈M.al i,M.Ms j=false) (hm:M.Ms i=true) (r:Rep M ρ σ H fps) (k:Keep (λ a=>a∈fps i) H H') (dm:∀ a,H a≠none->H' a≠none):Rep M (ρ.set i none) σ H' (λ j=>if j=i then [] else fps j):=by
 have sub:∀ j a,a∈(if j=i then [] else fps j)->j≠i/\a∈fps j:=λ j a h=>by
  by_cases ej:j=i
  ·rw [if_pos ej] at h;cases h
  ·rw [if_neg ej] at h;exact ⟨ej,h⟩
 have get:∀ j p,(ρ.set i none)[j]?=some (some p)->j≠i/\ρ[j]?=some (some p):=λ j p h=>by
  by_cases ej:j=i
  ·rw [ej] at h
   by_cases hi:i < ρ.length
   ·rw [jb1 hi] at h;cases h
   ·rw [je7 (by rw [jc0];omega)] at h;cases h
  ·rw [ja0 (vb2 ej)] at h;exact ⟨ej,h⟩
 refine ⟨λ j x c hj=>?_,λ j hj=>?_,λ j k hjk a ha hb=>r.dj j k hjk a (sub j a ha).2 (sub k a hb).2,λ j a ha=>r.zo j a (sub j a ha).2,λ j hj a ha=>r.fr j hj a (sub j a ha).2,λ a z=>dm a (r.zd a z),by rw [jc0];exact r.len,λ j x c hj hc=>r.msf j x c hj (get j _ hc).2,λ a z=>dm a (r.h0 a z),r.iov⟩
 ·obtain ⟨ej,hj'⟩:=get j _ hj
  obtain ⟨w,hw,ow⟩:=r.own j x c hj'
  refine ⟨w,hw,?_⟩
  rw [if_neg ej]
  by_cases hmj:M.Ms j=true
  ·have hd:=r.msf j x c hmj hj'
   subst hd
   exact Own.full _ _ _ (Own.move (S:=λ a=>a∈fps i) (Z:=λ _=>True) (Z':=λ _=>True) k (λ a ha=>⟨trivial,r.lsts ha⟩) (λ _ _ n=>n) x om w _ (λ a ha hb=>r.dj j i ej a ha hb) (Own.full _ _ _ ow))
  ·refine Own.move (S:=λ a=>a∈fps i) k (λ a ha=>⟨.inr ⟨i,λ z=>(by rw [hal j i z] at hm;cases hm),ha⟩,r.lsts ha⟩) (λ a hd nz z=>nz ?_) x c w _ (λ a ha hb=>r.dj j i ej a ha hb) ow
   rcases z with z | ⟨l,nl,z⟩
   ·exact .inl z
   ·exact .inr ⟨l,nl,(sub l a z).2⟩
 ·by_cases ej:j=i
  ·rw [if_pos ej]
  ·rw [if_neg ej]
   exact r.non j λ p hp=>hj p (by rw [ja0 (vb2 ej)];exact hp)
theorem qcu {F:Fn}{i:Nat}{E:XK} (hal:∀ i,∀ j∈M.al i,M.Ms j=false) (hm:M.Ms i=true) {σ:St}{H:Hp}{Q:VK} (hq:tE M (zve F i) [] σ H Q):qfx (spM M.K F) [] E (zbl (tVar i) tNil) σ H Q:=by
 obtain ⟨ρ,fps,rep,q⟩:=hq
 unfold zve at q
 cases e0:ρ[i]? with
 | none=>rw [e0] at q;exact q.elim
 | some s0=>
  rw [e0] at q
  cases s0 with
  | none=>exact q.elim
  | some p0=>
  obtain ⟨x0,d0⟩:=p0
  have hd:=rep.msf i x0 d0 hm e0
  subst hd
  obtain ⟨v0,hσ,o0⟩:=rep.own i _ _ e0
  dsimp only at q
  refine ⟨v0,hσ,?_⟩
  show spM M.K F ([v0]++[]) H Q E
  refine ⟨x0,v0,fps i,rfl,Own.full x0 v0 _ o0,?_⟩
  cases eF:F [x0] with
  | no=>rw [eF] at q;exact q
  | exc c=>rw [eF] at q;exact q.elim
  | ok r=>
   obtain ⟨y,d,z0⟩:=r
   rw [eF] at q
   dsimp only at q
   by_cases hy:zwn y=true
   ·rw [if_pos hy] at q
    refine ⟨hy,λ v H' k dm oy=>?_⟩
    have kd:KD M H fps H' (λ j=>if j=i then [] else fps j):=⟨λ a o h n=>k a o h λ z=>n ⟨i,hm,z⟩,dm,λ j a ha=>by
     by_cases ej:j=i
     ·simp only [if_pos ej] at ha;cases ha
     ·simp only [if_neg ej] at ha;exact .inl ha,λ j hj=>by
     have ej:j≠i:=λ e=>by rw [e,hm] at hj;cases hj
     exact if_neg ej⟩
    have ag:Agr M ρ (ρ.set i none):=⟨λ j hj=>by
     have ej:j≠i:=λ e=>by rw [e,hm] at hj;cases hj
     exact ja0 (vb2 ej),by rw [jc0]⟩
    exact q v H' _ [] kd ag (rep.drop hal hm k dm) (Own.atom hy oy).2 ⟨λ _ z=>(nomatch z),λ _ z=>nomatch z⟩
   ·rw [if_neg hy] at q;exact q.elim
end
section
variable {X:Cx}{M:Fm}{f g:Fx}{vs vs':List Nat}{σ:St}{H:Hp}{Q:VK}
end
section
variable {pg:vb0}{wd:vb8}{Ar:vc0}{Er:va2->va3->Prop}{st:va3}
end
section
variable {X:Cx}{M:Fm}{f:Fx}{vs:List Nat}{a:Expr}{pos p p2 pos2:Pos}
end
section
variable {prog:vb0}{w:vb8}{A:vc0}{E:va2->va3->Prop}{s:va3}{a₀:Array Keyed}
end
section
variable {prog:vb0}{w:vb8}{A:vc0}{E:va2->va3->Prop}{s:va3}
end
section
variable {X:Cx}{M:Fm}{fa:Fa}{vs:List Nat}{e:Expr}{es:List Expr}{pos p:Pos}
def qpr (ns:List Int):Prop:=ns.length < 64\/(ns.Pairwise (·<=·)/\ns.length<=va4)
instance (ns:List Int):Decidable (qpr ns):=inferInstanceAs (Decidable (_\/_))
def maxI:Int->List Int->Int
 | n,[]=>n
 | n,m::r=>maxI (if m > n then m else n) r
theorem qav:∀ (r:List Int) (n:Int),maxI n r∈n::r
 | [],n=>ja3
 | m::r,n=>by
  have q:=qav r (if m > n then m else n)
  show maxI (if m > n then m else n) r∈_
  rcases jb3.mp q with z | z
  ·rw [z]
   split <;> simp
  ·simp [z]
theorem qdz:∀ (r:List Int) (n:Int),∀ a∈n::r,a<=maxI n r
 | [],n,a,h=>by
  have e:a=n:=by simpa using h
  rw [e];exact jm8 _
 | m::r,n,a,h=>by
  show a<=maxI (if m > n then m else n) r
  have q:=qdz r (if m > n then m else n)
  have q1:=q _ ja3
  have q2:n<=(if m > n then m else n)/\m<=(if m > n then m else n):=by split <;> omega
  simp only [jb3] at h
  rcases h with z | z | z
  ·omega
  ·omega
  ·exact q a (ja1 _ z)
theorem qfe (hc:X.calm=true):zzd X (.builtin "max") (λ xs H Q=>∃ (q:Addr) (n:Int) (r:List Int),xs=[.ref q]/\SqL X.K H q ((n::r).map V.int)/\Q (.int (maxI n r)) H):=by
 intro pins s σ H xs us Q I rv h
 obtain ⟨q,n,r,rfl,hq,k0⟩:=h
 obtain ⟨u,rfl,rx⟩:=zpt rv
 cases rx
 obtain ⟨its,rv2,pl,hz⟩:=I.list hq
 obtain ⟨zs,rfl,ez⟩:=zzh rv2
 have e:(zs.map λ p=>Value.int p.1 p.2).toArray=vd8 zs.toArray:=by simp [vd8]
 rw [e] at pl
 have hsz:zs.toArray.size=zs.length:=by simp
 have h0:0 < zs.length:=by
  cases zs with
  | nil=>cases ez
  | cons _ _=>simp
 refine max_intList (I.ok.hd hc) pl.isList (by simpa using h0) λ v h' tk hv k=>?_
 obtain ⟨l1,l2⟩:=argBest_gt (vg7 zs.toArray) (zs.toArray.size - 1)
 obtain ⟨t,rfl⟩:=vi9 hv
 generalize argBest (λ i j=>decide (vg7 zs.toArray i > vg7 zs.toArray j)) (zs.toArray.size - 1)=b at *
 have num:∀ j,(hj:j < zs.length)->vg7 zs.toArray j=zs[j].1:=λ j hj=>by unfold vg7;simp [hj]
 have hm:vg7 zs.toArray b∈n::r:=by
  rw [num b (by omega),<- ez]
  exact jd6.mpr ⟨_,jg0 _,rfl⟩
 have hg:∀ a∈n::r,a<=vg7 zs.toArray b:=λ a ha=>by
  rw [<- ez] at ha
  obtain ⟨z,hz',rfl⟩:=jd6.mp ha
  obtain ⟨j,hj,rfl⟩:=ji0 hz'
  rw [<- num j hj]
  exact l2 j (by omega)
 have eb:vg7 zs.toArray b=maxI n r:=Int.le_antisymm (qdz r n _ hm) (hg _ (qav r n))
 exact ⟨.int _,H,I.kept (t':=tk) k,⟨t,rfl⟩,by rw [eb];exact k0⟩
def zyu:List (PV×Nat)->Option (PV×Nat)
 | [(.lst xs,_)]=>match zyq xs with
  | some (n::r)=>some (.int (maxI n r),om)
  | _=>none
 | xs=>op2 (λ i j=>if j > i then j else i) xs
theorem qjk (hc:X.calm=true) (hg:Gl X "max") (hm:X.mg "max" = none) (ha:PA X (e::es) (tL M fa vs)) (he:va9 (e::es) X.env=(false,eval e X.env)::va9 es X.env) (hpl:(vg5 pos (va9 es X.env)).any (·.1)=false):
  PE X (.Call (.Name "max" p) (e::es) [] pos) (tE M (zqb zyu fa) vs):=by
 refine zqn (zzn ((qff hc).or (qfe hc)) hg hm rfl ha (he:=he) (hpl:=hpl)) λ σ H Q h=>zvh (λ xs z c ws H fps fp Q ho tm nz zd lf=>?_) h
 unfold zyu at ho
 split at ho
 ·rename_i xs d
  split at ho
  ·rename_i n r eb
   cases ho
   obtain ⟨v,r',f1,f2,rfl,rfl,_,o1,h2⟩:=tm
   obtain ⟨rfl,rfl⟩:=h2
   obtain ⟨q,us,rfl,hs,ol⟩:=(cold (fp:=f1) o1 λ a ha=>nz a (ja9 _ ha)).coldL
   have:=zvl eb ol
   subst this
   exact .inr ⟨q,n,r,rfl,.inl (.inl hs),zxg lf⟩
  ·cases ho
 ·exact .inl (qay ho tm lf)
end
section
variable {X:Cx}{M:Fm}{H:Hp}{σ:St}
variable {e:Expr}{es:List Expr}{fa:Fa}{vs:List Nat}{p pos:Pos}
end
open PySem PySem.Spec PyProof.Rows L2 PySem.Builtin PySem.Builtin.ObjectAttr PySem.Builtin.Getset_descriptor
section
variable {prog:vb0}{w:vb8}{A:vc0}{E:va2->va3->Prop}{K:Frag}{h:Heap}{g:Array GenState}{d:Drawn}{t:Nat}{os:OsState}{a C:Addr}{oe:Obj}
theorem qoi {R:Result->va3->Prop} (X:K.In h) (he:h.get? a=some oe) (hc:oe.cls=.ref C) (hm:vd4 K C (.type "object")=some true) (hq:R (.ok (.ret (.ref C))) ⟨h,g,d,t,os⟩):
  vl9 (vb3 prog w) A (.call (.builtin "getset_descriptor.__get__") ⟨[.builtin "object.__class__",.ref a,.ref C],[]⟩) R ⟨h,g,d,t,os⟩:=by
 have ty:PySem.W.Looks (vb3 prog w) h (typeOf (.ref a)) (.ref C):=hc ▸ (PySem.W.Looks.ld he).andThen .now
 have mr:=PySem.W.looks_mroIn (M:=vb3 prog w) X hm
 have pl:=PySem.W.KF.slot_gs.plain
 have en:=PySem.W.KF.entry_gs
 refine codeAny_call_builtin pl en (PySem.W.KF.slot_gs.check _ _ _ _ _ _ _ _
  PySem.W.KF.type_class (PySem.W.KF.args_gs _ _ _) ?_)
 unfold vk7.«getset_descriptor.__get__»
 unfold descrGet
 rw [PySem.W.dga_obj]
 refine va0 (va5 ?_)
 unfold descrGetter descrCheckInstance
 unfold descrNameAndClass isInstance
 simp only [PySem.W.KF.owner_class]
 repeat lk
 refine ⟨Code.quiet_builtin _ (by decide +kernel),codeAny_builtin PySem.W.KF.entry_class ?_⟩
 unfold vk7.«object.__class__»
 unfold shownTypeOf
 repeat lk
 exact hq
theorem qhm {tk:Tok}{Q:Fin->va3->Prop} (X:K.In h) (he:h.get? a=some oe) (hc:oe.cls=.ref C) (hm:vd4 K C (.type "object")=some true) (hl:vb6 K (.ref C) "__class__" = some (some (.builtin "object.__class__")))
  (hq:Q (.done (.ret (.ref C))) ⟨h,g,d,t,os⟩):vb1 (vb3 prog w) A (vk7.«object.__getattribute__» ⟨[.ref a,.str "__class__" tk],[]⟩) Q E ⟨h,g,d,t,os⟩:=by
 have hT5:(⟨h,g,d,t,os⟩:va3).TypeIs (.builtin "object.__class__") "getset_descriptor" := F.typeOf_object_class
 have f5:=F.typeOf_object_class
 have f6:=F.slot_gs_get.lookup
 have f7:=F.slot_gs_set.lookup
 have L1:=vj8 (M:=vb3 prog w) X hl
 repeat (any_goals (first | assumption | (with_reducible refine vg2 he ?_;rw [hc]) | with_reducible refine L1.at ?_ | wp_step))
 refine qoi X he hc hm ?_
 repeat (any_goals (first | assumption | wp_step))
theorem qhn {nameV:va2}{Q:Unit->va3->Prop}{M:Model} (X:K.In h) (he:h.get? a=some oe) (hc:oe.cls=.ref C) (hb:vd4 K C (.type "BaseException")=some true) (hq:Q () ⟨h,g,d,t,os⟩):
  vb1 M A (checkBuiltinCall "BaseException.__getattribute__" ⟨[.ref a,nameV],[]⟩) Q E ⟨h,g,d,t,os⟩:=by
 have hk:builtinKind "BaseException.__getattribute__" = some .slot:=by decide +kernel
 have hsp:splitId "BaseException.__getattribute__" = some ("BaseException","__getattribute__"):=by decide +kernel
 have ha:=F.args_bexc_ga (.ref a) nameV
 have L1:=PySem.W.looks_mroIn (M:=M) X hb
 simp only [checkBuiltinCall,hk,hsp]
 refine va0 ?_
 unfold isInstance
 repeat (first | (with_reducible refine vg2 he ?_;rw [hc]) | with_reducible refine L1.at ?_ | wp_step)
 exact hq
theorem qpq {tk:Tok}{Q:va2->va3->Prop} (X:K.In h) (he:h.get? a=some oe) (hc:oe.cls=.ref C) (hm:vd4 K C (.type "object")=some true) (hb:vd4 K C (.type "BaseException")=some true)
  (hl:vb6 K (.ref C) "__class__" = some (some (.builtin "object.__class__"))) (hga:vb6 K (.ref C) "__getattribute__" = some (some (.builtin "BaseException.__getattribute__"))) (hgh:vb6 K (.ref C) "__getattr__" = some none)
  (hq:Q (.ref C) ⟨h,g,d,t,os⟩):vb1 (vb3 prog w) A (getAttrBy (.ref a) (.str "__class__" tk) false) Q E ⟨h,g,d,t,os⟩:=by
 have f3:=PySem.F.attrBase_ValueError.ga.bind (.ref a)
 have L1:=vj8 (M:=vb3 prog w) X hga
 have L2':=vj8 (M:=vb3 prog w) X hgh
 have hx2:(Value.builtin "BaseException.__getattribute__" == Value.builtin "object.__getattribute__")=false:=by decide +kernel
 have hx1:(onTheHeap (Value.ref C) && Value.builtin "BaseException.__getattribute__" == Value.builtin "object.__getattribute__")=false:=by rw [hx2];rfl
 repeat (any_goals (first | assumption | (with_reducible refine vg2 he ?_;rw [hc]) | with_reducible refine L1.at ?_ | with_reducible refine L2'.at ?_ | wp_step))
 refine codeAny_call_builtin PySem.F.attrBase_ValueError.ga.plain F.entry_bexc_ga (qhn X he hc hb (qhm X he hc hm hl ?_))
 repeat (any_goals (first | assumption | wp_step))
theorem qk4 {Q:Option va2->va3->Prop} (X:K.In h) (he:h.get? a=some oe) (hc:oe.cls=.ref C) (hm:vd4 K C (.type "object")=some true) (hb:vd4 K C (.type "BaseException")=some true)
  (hl:vb6 K (.ref C) "__class__" = some (some (.builtin "object.__class__"))) (hga:vb6 K (.ref C) "__getattribute__" = some (some (.builtin "BaseException.__getattribute__"))) (hgh:vb6 K (.ref C) "__getattr__" = some none)
  (hq:Q (some (.ref C)) ⟨h,g,d,t + 1,os⟩):vb1 (vb3 prog w) A (getAttr? (.ref a) "__class__") Q E ⟨h,g,d,t,os⟩:=by
 unfold getAttr?
 unfold getAttrBy?
 repeat (any_goals (first | assumption | with_reducible apply qpq X he hc hm hb hl hga hgh | wp_step))
end
def clsV (K:Frag) (d:Nat) (u:va2):Bool:=(u == .type "ValueError" && d == 0) || (match zwf K d with
 | some D=>u == .ref D
 | none=>false)
section
variable {K:Frag}{a C:Addr}{c d:Nat}{u:va2}
theorem zps (t:xKit K=true) (e:zwf K c=some C):zyk K C=true/\vc1 K (.type "NoneType") (.ref C)=some false/\vc1 K (.ref C) (.type "ValueError")=some true/\∀ d D,zwf K d=some D->vc1 K (.ref C) (.ref D)=some (isX c d):=by
 unfold xKit at t
 rw [jb0] at t
 have h:=jc7.mp t.2 c (jf4.mpr (zjg e))
 rw [e] at h
 dsimp only at h
 simp only [jb0] at h
 refine ⟨h.1.1.1,eq_of_beq h.1.1.2,eq_of_beq h.1.2,λ d D ed=>?_⟩
 have h2:=jc7.mp h.2 d (jf4.mpr (zjg ed))
 rw [ed] at h2
 exact eq_of_beq h2
theorem qd9 (t:xKit K=true) (e:zwf K c=some C) (hu:clsV K d u=true):vc1 K (.ref C) u=some (isX c d):=by
 obtain ⟨_,_,h3,h4⟩:=zps t e
 unfold clsV at hu
 rw [je0] at hu
 rcases hu with hu | hu
 ·rw [jb0] at hu
  rw [eq_of_beq hu.1,h3,eq_of_beq hu.2]
  simp [isX]
 ·split at hu
  ·rename_i D hD
   rw [eq_of_beq hu]
   exact h4 d D hD
  ·cases hu
theorem qd8 (t:xKit K=true) (hu:clsV K d u=true):vc1 K (.type "NoneType") u=some false:=by
 unfold clsV at hu
 rw [je0] at hu
 rcases hu with hu | hu
 ·rw [jb0] at hu
  rw [eq_of_beq hu.1]
  unfold xKit at t
  rw [jb0] at t
  exact eq_of_beq t.1
 ·split at hu
  ·rename_i D hD
   rw [eq_of_beq hu]
   exact (zps t hD).2.1
  ·cases hu
def zbd (K:Frag):List Nat->List va2->Bool
 | [],[]=>true
 | d::ds,u::us=>clsV K d u && zbd K ds us
 | _,_=>false
theorem qa2 (t:xKit K=true) (e:zwf K c=some C):∀ {ds:List Nat}{us:List va2},zbd K ds us=true->vk3 K (.ref C) us=some (ds.any (isX c))
 | [],[],_=>rfl
 | [],_::_,h=>by cases h
 | _::_,[],h=>by cases h
 | d::ds,u::us,h=>by
  unfold zbd at h
  rw [jb0] at h
  unfold vk3
  rw [qd9 t e h.1,jl6]
  cases isX c d with
  | true=>rfl
  | false=>exact qa2 t e h.2
theorem qa1 (t:xKit K=true):∀ {ds:List Nat}{us:List va2},zbd K ds us=true->vk3 K (.type "NoneType") us=some false
 | [],[],_=>rfl
 | [],_::_,h=>by cases h
 | _::_,[],h=>by cases h
 | d::ds,u::us,h=>by
  unfold zbd at h
  rw [jb0] at h
  unfold vk3
  rw [qd8 t h.1]
  exact qa1 t h.2
theorem qe7 (g:zyk K C=true):∃ c0 dd cd sl,K.lookup C=some ⟨c0,dd,.cls cd,sl⟩:=by
 unfold zyk at g
 simp only [jb0] at g
 have h:=g.1.1.1.1.1
 unfold PySem.W.clsIn at h
 split at h
 ·rename_i q;exact ⟨_,_,_,_,q⟩
 ·cases h
theorem qa3 (g:zyk K C=true):PySem.W.KitX K (.ref a) (.ref C) (zyw a C):=by
 obtain ⟨c0,dd,cd,sl,hl⟩:=qe7 g
 unfold zyk at g
 simp only [jb0] at g
 obtain ⟨⟨⟨⟨⟨_,g1⟩,g2⟩,g3⟩,g4⟩,g5⟩:=g
 refine ⟨λ M h _ p=>?_,λ M h X _=>?_,λ h tp dd' its n sl' X htp=>?_,λ {prog w A E Q s} X p k=>?_⟩
 ·obtain ⟨o,vs,h1,h2,_⟩:=p
  exact h2 ▸ (PySem.W.Looks.ld h1).andThen .now
 ·intro A' Q' E' s' kp q
  unfold isType
  unfold loadHead
  exact va0 (wpAny_loadPart (kp _ _ (X _ _ hl)) (va5 q))
 ·cases hb:(Value.ref C == Value.ref tp) with
  | false=>rfl
  | true=>
   have ec:C=tp:=Value.ref.inj (eq_of_beq hb)
   have z:=X _ _ hl
   rw [ec,htp] at z
   cases z
 ·obtain ⟨o,vs,h1,h2,_⟩:=p
  obtain ⟨hp,gg,dr,tt,oo⟩:=s
  exact qk4 X h1 h2 (eq_of_beq g1) (eq_of_beq g2) (eq_of_beq g3) (eq_of_beq g4) (eq_of_beq g5) k
end
section
variable {X:Cx}
def IsQ (K:Frag) (v:V) (H:Hp) (Q:VK) (ds:List Nat):Prop:=(v=.non/\Q (.bl false) H)\/∃ a C c,v=.ref a/\zwf K c=some C/\H a=some (.ext (zyw a C))/\Q (.bl (ds.any (isX c))) H
theorem qa9 {pins:List (Addr×Obj)}{σ:St}{H:Hp}{s:va3}{a C:Addr} (I:L2.Inv X pins σ H s) (h:H a=some (.ext (zyw a C))):zyw a C s.heap:=(I.hok a _ h).1
theorem qfg (t:xKit X.K=true):zzd X (.builtin "isinstance") (λ xs H Q=>∃ v cv d,xs=[v,cv]/\(∀ u,RelV cv u->clsV X.K d u=true)/\IsQ X.K v H Q [d]):=by
 intro pins s σ H xs us Q I r h
 obtain ⟨v,cv,d,rfl,hcv,h⟩:=h
 obtain ⟨u,w,rfl,r1,r2⟩:=qcb r
 have hw:=hcv w r2
 rcases h with ⟨rfl,q⟩ | ⟨a,C,c,rfl,hC,ha,q⟩
 ·cases r1
  exact vb9 vm1 I.kIn True.intro (qd8 t hw) (λ z=>nomatch z) λ tk=>⟨.bl false,H,I.tok _,rfl,q⟩
 ·obtain rfl:u=Value.ref a:=r1
  exact vb9 (qa3 (zps t hC).1) I.kIn (qa9 I ha) (qd9 t hC hw) (λ z=>nomatch z) λ tk=>⟨.bl (isX c d),H,I.tok _,rfl,by simpa using q⟩
theorem qb7 (t:xKit X.K=true):zzd X (.builtin "isinstance") (λ xs H Q=>∃ v p cvs ds,xs=[v,.ref p]/\H p=some (.tup cvs)/\(∀ us,Vals cvs us->zbd X.K ds us=true)/\IsQ X.K v H Q ds):=by
 intro pins s σ H xs us Q I r h
 obtain ⟨v,p,cvs,ds,rfl,hp,hcv,h⟩:=h
 obtain ⟨u,w,rfl,r1,r2⟩:=qcb r
 obtain rfl:w=Value.ref p:=r2
 obtain ⟨_,its,rv,o,ho,hc,n,hd⟩:=I.hok p _ hp
 have hi:=hcv its rv
 have ho':s.heap.get? p=some ⟨.type "tuple",o.dict,.seq its.toArray n,o.slots⟩:=by
  rw [ho]
  obtain ⟨oc,od,oda,os⟩:=o
  dsimp only at hc hd
  rw [hc,hd]
 rcases h with ⟨rfl,q⟩ | ⟨a,C,c,rfl,hC,ha,q⟩
 ·cases r1
  exact PySem.W.kia_tup vm1 I.kIn True.intro ho' (qa1 t hi) (λ z=>nomatch z) λ tk=>⟨.bl false,H,I.tok _,rfl,q⟩
 ·obtain rfl:u=Value.ref a:=r1
  exact PySem.W.kia_tup (qa3 (zps t hC).1) I.kIn (qa9 I ha) ho' (qa2 t hC hi) (λ z=>nomatch z) λ tk=>⟨.bl (ds.any (isX c)),H,I.tok _,rfl,q⟩
end
section
variable {X:Cx}{M:Fm}{f g:Fx}{vs vs':List Nat}{e:Expr}{es:List Expr}{pos p:Pos}{σ:St}{H:Hp}{Q:VK}
def zzz (ds:List Nat) (x:PV) (_:Nat):Option (PV×Nat):=match x with
 | .exn c=>some (.bl (ds.any (isX c)),om)
 | .non=>some (.bl false,om)
 | _=>none
theorem qie {K:Frag}{x z:PV}{ds:List Nat}{d c:Nat}{v:V}{Z:Addr->Prop}{H H':Hp}{f1:List Addr} (ho:zzz ds x d=some (z,c)) (o1:Own K H Z x d v f1) (k:∀ a o,H a=some o->H' a=some o) (q:∀ b,z=.bl b->Q (.bl b) H'):IsQ K v H' Q ds:=by
 cases x with
 | exn n=>
  cases ho
  rw [Own] at o1
  obtain ⟨_,a,C,rfl,hC,ha⟩:=o1
  exact .inr ⟨a,C,n,rfl,hC,k _ _ ha,q _ rfl⟩
 | non=>
  cases ho
  rw [Own] at o1
  obtain ⟨rfl,_⟩:=o1
  exact .inl ⟨rfl,q _ rfl⟩
 | _=>cases ho
theorem zfq {ds:List Nat}{x z:PV}{d c:Nat} (ho:zzz ds x d=some (z,c)):∃ b,z=.bl b/\c=om:=by
 cases x with
 | exn n=>cases ho;exact ⟨_,rfl,rfl⟩
 | non=>cases ho;exact ⟨_,rfl,rfl⟩
 | _=>cases ho
theorem qjm {cv:V}{d:Nat}{T':Str}{p1 p2:Pos} (t:xKit X.K=true) (hK:M.K=X.K) (ha:PE X e (tE M f vs)) (hg:Gl X "isinstance") (hm:X.mg "isinstance" = none) (hc:PE X (.Name T' p2) (tC cv)) (hcv:∀ u,RelV cv u->clsV X.K d u=true)
  (hs1:va9 [e,.Name T' p2] X.env=[(false,eval e X.env),(false,eval (.Name T' p2) X.env)]) (hs2:va9 [Expr.Name T' p2] X.env=[(false,eval (.Name T' p2) X.env)]):
  PE X (.Call (.Name "isinstance" p1) [e,.Name T' p2] [] pos) (tE M (bUn (zzz [d]) f) vs):=by
 refine zqn (zzn (qfg t) hg hm rfl (zxi ha (zxi hc zzy hs2) (by rw [hs1,hs2])) (he:=by rw [hs1,hs2]) (hpl:=by rw [hs2];rfl)) λ σ H Q h=>?_
 refine qcr (r:=λ v H Q=>∃ x c n,[v,cv]=[x,c]/\(∀ u,RelV c u->clsV X.K n u=true)/\IsQ X.K x H Q [n]) (λ x d' z c v H fps f1 Q ho o1 nz zd lf=>?_) h
 obtain ⟨b,rfl,rfl⟩:=zfq ho
 exact ⟨v,cv,d,rfl,hcv,by rw [<- hK];exact qie ho o1 (λ _ _ h=>h) λ b' e=>by cases e;exact zxn lf⟩
def tVs (cvs:List V):TA:=λ _ H Q=>Q cvs H
theorem qf0 {cvs:List V}{ds:List Nat}{p1 p2:Pos}{k:Nat} (t:xKit X.K=true) (hK:M.K=X.K) (ha:PE X e (tE M f vs)) (hg:Gl X "isinstance") (hm:X.mg "isinstance" = none) (hc:PA X es (tVs cvs)) (hl:cvs.length<=va4) (hcv:∀ us,Vals cvs us->zbd X.K ds us=true)
  (hs1:va9 [e,.Tuple es k p2] X.env=[(false,eval e X.env),(false,eval (.Tuple es k p2) X.env)]) (hs2:va9 [Expr.Tuple es k p2] X.env=[(false,eval (.Tuple es k p2) X.env)]):
  PE X (.Call (.Name "isinstance" p1) [e,.Tuple es k p2] [] pos) (tE M (bUn (zzz ds) f) vs):=by
 refine zqn (zzn (qb7 t) hg hm rfl (zxi ha (zxi (qh5 hc) zzy hs2) (by rw [hs1,hs2])) (he:=by rw [hs1,hs2]) (hpl:=by rw [hs2];rfl)) λ σ H Q h=>?_
 refine qcr (r:=λ v H Q=>cvs.length<=va4/\∀ q,H q=none->∃ x p' cvs' ds',[v,V.ref q]=[x,.ref p']/\upd H q (.tup cvs) p'=some (.tup cvs')/\(∀ us,Vals cvs' us->zbd X.K ds' us=true)/\IsQ X.K x (upd H q (.tup cvs)) Q ds') (λ x d' z c v H fps f1 Q ho o1 nz zd lf=>?_) h
 obtain ⟨b,rfl,rfl⟩:=zfq ho
 refine ⟨hl,λ q hq=>⟨v,q,cvs,ds,rfl,zqi,hcv,?_⟩⟩
 have kk:∀ a o,H a=some o->upd H q (.tup cvs) a=some o:=λ a o h=>by rw [zqg (λ z=>by rw [z,hq] at h;cases h)];exact h
 rw [<- hK]
 exact qie ho o1 kk λ b' e=>by cases e;exact lf (.bl b) _ [] kk (by rw [Own];exact ⟨rfl,rfl⟩) (λ _ z=>nomatch z)
end
section
variable {X:Cx}{M:Fm}{a b:Expr}{f g:Fx}{fa:Fa}{vs vs':List Nat}{pos p:Pos}{σ:St}{H:Hp}{Q:VK}{e:Expr}{es:List Expr}
def keyL:List PV->Option (List Key)
 | []=>some []
 | .int i::r=>(keyL r).map (.inl i::·)
 | .str x::r=>(keyL r).map (.inr x::·)
 | _=>none
theorem zjc {K:Frag}{Z:Addr->Prop}:∀ {xs:List PV}{ws:List V}{d:Nat}{fp:List Addr}{k:List Key},keyL xs=some k->OwnL K H Z xs d ws fp->ws=k.map kV
 | [],ws,d,fp,k,e,h=>by cases e;rw [OwnL] at h;exact h.1
 | .int i::r,ws,d,fp,k,e,h=>by
  obtain ⟨k',e1,rfl⟩:=jb7.mp e
  rw [OwnL] at h
  obtain ⟨v,s,f1,f2,rfl,ef,dj,h1,h2⟩:=h
  rw [Own] at h1
  rw [h1.1,zjc e1 h2]
  rfl
 | .str i::r,ws,d,fp,k,e,h=>by
  obtain ⟨k',e1,rfl⟩:=jb7.mp e
  rw [OwnL] at h
  obtain ⟨v,s,f1,f2,rfl,ef,dj,h1,h2⟩:=h
  rw [Own] at h1
  rw [h1.1,zjc e1 h2]
  rfl
 | .non::_,_,_,_,_,e,_=>by cases e
 | .bl _::_,_,_,_,_,e,_=>by cases e
 | .lst _::_,_,_,_,_,e,_=>by cases e
 | .tup _::_,_,_,_,_,e,_=>by cases e
 | .emp::_,_,_,_,_,e,_=>by cases e
 | .dko::_,_,_,_,_,e,_=>by cases e
 | .scr _::_,_,_,_,_,e,_=>by cases e
 | .dct _::_,_,_,_,_,e,_=>by cases e
 | .exn _::_,_,_,_,_,e,_=>by cases e
def opIn (neg:Bool) (x:PV) (_:Nat) (y:PV) (_:Nat):Option (PV×Nat):=match x,y with
 | .tup ks,.dct kvs=>(keyL ks).map λ k=>(.bl (neg^^(valV kvs k).isSome),om)
 | x,.lst ys=>(match toD 20 x,toDL (toD 20) ys with
  | some a,some bs=>some (.bl (neg^^bs.any λ b=>ve1 b a),om)
  | _,_=>none)
 | x,.tup ys=>(match toD 20 x,toDL (toD 20) ys with
  | some a,some bs=>some (.bl (neg^^bs.any λ b=>ve1 b a),om)
  | _,_=>none)
 | _,_=>none
def rDIn (neg:Bool):R2:=λ v w H Q=>∃ a o,w=.ref a/\DGet H a v o/\Q (.bl (neg^^o.isSome)) H
theorem qnj (hu:X.A.units + 1 < vi3):OpR X (vb4 .In) (rDIn false):=by
 intro pins s σ H x y v u Q I rx ry h
 obtain ⟨a,o,rfl,g,q⟩:=h
 obtain rfl:u=Value.ref a:=ry
 exact d_in hu I g rx λ s3 I3=>⟨.bl o.isSome,H,I3,rfl,by simpa using q⟩
theorem qdp (hu:X.A.units + 1 < vi3):OpR X (vb4 .NotIn) (rDIn true):=by
 intro pins s σ H x y v u Q I rx ry h
 obtain ⟨a,o,rfl,g,q⟩:=h
 obtain rfl:u=Value.ref a:=ry
 exact qky hu I g rx λ s3 I3=>⟨.bl (!o.isSome),H,I3,rfl,by simpa using q⟩
def sqv (tp:Bool) (ys:List PV):PV:=match tp with
 | true=>.tup ys
 | false=>.lst ys
def sqd (tp:Bool) (ys:List vj1):vj1:=match tp with
 | true=>.tuple ys
 | false=>.list ys
def rInD (K:Frag) (neg:Bool):R2:=λ v w H Q=>∃ tp x ys d e Z Z' f1 f2 a bs,toD 20 x=some a/\toDL (toD 20) ys=some bs/\Own K H Z x d v f1/\Own K H Z' (sqv tp ys) e w f2/\Q (.bl (neg^^bs.any λ b=>ve1 b a)) H
theorem qhw {tp:Bool}{ys:List PV}{bs:List vj1} (h:toDL (toD 20) ys=some bs):toD 21 (sqv tp ys)=some (sqd tp bs):=by
 cases tp with
 | true=>
  show (toDL (toD 20) ys).map PyData.tuple=_
  rw [h]
  rfl
 | false=>
  show (toDL (toD 20) ys).map PyData.list=_
  rw [h]
  rfl
theorem qnf (hu:X.A.units + 64 < vi3):OpR X (vb4 .In) (rInD X.K false):=by
 intro pins s σ H v w u u' Q I rx ry h
 obtain ⟨tp,x,ys,d,e,Z,Z',f1,f2,a,bs,h1,h2,o1,o2,q⟩:=h
 obtain ⟨as,ra⟩:=zwr I 20 x d v f1 u a h1 o1 rx
 obtain ⟨bs',rb⟩:=zwr I 21 (sqv tp ys) e w f2 u' _ (qhw h2) o2 ry
 have l1:=zww 20 x a h1
 have l2:=zkf (λ x D h=>zww 20 x D h) h2
 have hm:X.A.units + 1 + min (vf2 bs) a.depth < vi3:=by have:=jl7 (vf2 bs) a.depth;omega
 cases tp with
 | false=>exact SeqAt.in_list_reads rb ra l2.1 l1.1 hm ⟨.bl _,H,I,rfl,by simpa using q⟩
 | true=>exact SeqAt.in_tuple_reads rb ra l2.1 l1.1 hm ⟨.bl _,H,I,rfl,by simpa using q⟩
theorem qdn (hu:X.A.units + 64 < vi3):OpR X (vb4 .NotIn) (rInD X.K true):=by
 intro pins s σ H v w u u' Q I rx ry h
 obtain ⟨tp,x,ys,d,e,Z,Z',f1,f2,a,bs,h1,h2,o1,o2,q⟩:=h
 obtain ⟨as,ra⟩:=zwr I 20 x d v f1 u a h1 o1 rx
 obtain ⟨bs',rb⟩:=zwr I 21 (sqv tp ys) e w f2 u' _ (qhw h2) o2 ry
 have l1:=zww 20 x a h1
 have l2:=zkf (λ x D h=>zww 20 x D h) h2
 have hm:X.A.units + 1 + min (vf2 bs) a.depth < vi3:=by have:=jl7 (vf2 bs) a.depth;omega
 cases tp with
 | false=>exact SeqAt.notIn_list_reads rb ra l2.1 l1.1 hm ⟨.bl _,H,I,rfl,by simpa using q⟩
 | true=>exact SeqAt.notIn_tuple_reads rb ra l2.1 l1.1 hm ⟨.bl _,H,I,rfl,by simpa using q⟩
theorem qa0 {x y z:PV}{d e c:Nat}{v w:V}{fps:Fps}{f1 f2 F:List Addr}{Z Z':Addr->Prop}{neg:Bool} (hK:M.K=X.K) (ho:opIn neg x d y e=some (z,c)) (o1:Own M.K H Z x d v f1) (o2:Own M.K H Z' y e w f2) (lf:Leaf M H fps vs F z c Q):rDIn neg v w H Q\/rInD X.K neg v w H Q:=by
 unfold opIn at ho
 split at ho
 ·rename_i ks kvs
  obtain ⟨k,ek,e2⟩:=jb7.mp ho
  cases e2
  rw [Own] at o1
  rw [Own] at o2
  obtain ⟨b,ws,rfl,hb,ol⟩:=o1
  have:=zjc ek ol
  subst this
  have h2:∃ a,w=.ref a/\H a=some (.dT kvs):=by
   obtain ⟨a,ea,⟨_,hr,_⟩ | ⟨_,ha,_⟩⟩:=o2
   ·exact ⟨a,ea,hr.1⟩
   ·exact ⟨a,ea,ha⟩
  obtain ⟨a,rfl,ha⟩:=h2
  exact .inl ⟨a,_,rfl,DGet.t ha hb,zxn lf⟩
 ·rename_i ys
  split at ho
  ·rename_i a bs ea eb
   cases ho
   rw [hK] at o1
   rw [hK] at o2
   exact .inr ⟨false,_,ys,d,e,Z,Z',f1,f2,a,bs,ea,eb,o1,o2,zxn lf⟩
  ·cases ho
 ·rename_i ys
  split at ho
  ·rename_i a bs ea eb
   cases ho
   rw [hK] at o1
   rw [hK] at o2
   exact .inr ⟨true,_,ys,d,e,Z,Z',f1,f2,a,bs,ea,eb,o1,o2,zxn lf⟩
  ·cases ho
 ·cases ho
def bDct:Fx:=λ ρ=>.ok (.dct [],om,ρ)
theorem qmi:PE X (.Dict [] [] pos) (tE M bDct []):=by
 refine zqn qge λ σ H Q h p hp=>?_
 obtain ⟨ρ,fps,rep,q⟩:=h
 refine q (.ref p) _ fps [p] (KD.grow (zxf hp)) Agr.refl (rep.grow (zxf hp)) ?_ ⟨λ a ha=>by rw [jb6.mp ha];exact hp,λ a ha=>by rw [jb6.mp ha];exact rep.nz hp⟩
 rw [Own]
 exact ⟨p,rfl,.inr ⟨by decide,zqi,rfl⟩⟩
end
structure Sx where
 N:List Str
 sc:ve2
 ms:List Nat
 al:List (List Nat)
 Γ:List (Str×(Bool×Nat×Fn))
 Γm:List (Str×Fn)
 rz:Bool
 xc:List Nat
 pn:List Nat
def Sx.alF (S:Sx) (i:Nat):List Nat:=S.al.getD i []
def Sx.msF (S:Sx) (i:Nat):Bool:=S.ms.contains i
def zwc (sc:ve2) (x:Str) (k:vd5):Bool:=sc.names.lookup x == some k
def visB (sc:ve2) (x:Str):Bool:=zwc sc x .local || zwc sc x .cell || zwc sc x .free
def ixOf (N:List Str) (x:Str):Option Nat:=N.findIdx? (·== x)
def Sx.slot (S:Sx) (x:Str):Option Nat:=if visB S.sc x && !(x == ("__debug__" : Str)) && !(x == ("__classdict__" : Str)) then ixOf S.N x else none
def Sx.glob (S:Sx) (x:Str):Bool:=zwc S.sc x .globalImplicit
structure XS (X:Cx) (P:vb0) (w:vb8) (K:Frag) (mg:Str->Option va2) (base:Heap) (lvl:Nat) (S:Sx) (Wx:St->Nat->Hp->Prop):Prop where
 prog:X.prog=P
 w:X.w=w
 K:X.K=K
 mg:X.mg=mg
 base:X.base=base
 N:X.N=S.N
 sc:X.env.scope=S.sc
 calm:X.calm=true
 room:Room lvl X.A
 po:vl5 (vb3 X.prog X.w) X.A X.env X.xe
 ps:zbj (CXr X.prog X.w X.K) X Wx
 rs:S.rz=true->zhv X Wx
structure MS (M:Fm) (K:Frag) (S:Sx) (Wx:St->Nat->Hp->Prop):Prop where
 K:M.K=K
 ms:M.Ms=S.msF
 al:∀ i,i < S.N.length->M.al i=S.alF i
 als:∀ i,∀ j∈M.al i,M.Ms j=false
 W:M.W=Wx
 pn:∀ p∈M.pn,p.1 < S.N.length
def GSm (P:vb0) (w:vb8) (K:Frag) (mg:Str->Option va2) (base:Heap) (lvl:Nat) (Γm:List (Str×Fn)):Prop:=
 ∀ x F,Γm.lookup x=some F->(x == ("__debug__" : Str))=false/\∃ fa fd ps,mg x=some (.ref fa)/\ve5 K (.ref fa)=true/\zbk K fd ps []/\FnOk P w K mg base (CXr P w K) lvl fa fd ps (spM K F)
def GX (K:Frag) (mg:Str->Option va2) (xc:List Nat):Prop:=xc≠[]->xTab K=true/\xKit K=true/\∀ c∈xc,∃ x C,XN[c]?=some x/\zwf K c=some C/\mg x=some (.ref C)/\(x == ("__debug__" : Str))=false
def GS (P:vb0) (w:vb8) (K:Frag) (mg:Str->Option va2) (base:Heap) (lvl:Nat) (Γ:List (Str×(Bool×Nat×Fn))):Prop:=
 (∀ x∈zvc,mg x=none)/\∀ x io n F,Γ.lookup x=some (io,n,F)->(x == ("__debug__" : Str))=false/\(∀ xs,xs.length≠n->F xs=.no) /\
  ∃ fa fd ps,mg x=some (.ref fa)/\ve5 K (.ref fa)=true/\zbk K fd ps []/\ps.length=n/\FnOk P w K mg base (CXr P w K) lvl fa fd ps (spF K io n F)
section
variable {X:Cx}{P:vb0}{w:vb8}{K:Frag}{mg:Str->Option va2}{base:Heap}{lvl:Nat}{S:Sx}{Wx:St->Nat->Hp->Prop}{M:Fm}
theorem zxm {sc:ve2}{x:Str}{k:vd5} (h:zwc sc x k=true):sc.names.lookup x=some k:=by
 unfold zwc at h
 exact eq_of_beq h
theorem qhu {sc:ve2}{x:Str} (h:visB sc x=true):Vis sc x:=by
 unfold visB at h
 rw [je0,je0] at h
 rcases h with (h | h) | h
 ·exact .inl (zxm h)
 ·exact .inr (.inl (zxm h))
 ·exact .inr (.inr (zxm h))
theorem zjd {N:List Str}{x:Str}{i:Nat} (h:ixOf N x=some i):N[i]?=some x:=by
 unfold ixOf at h
 rw [ji3] at h
 obtain ⟨hi,e,_⟩:=h
 have:N[i]=x:=eq_of_beq e
 rw [jb9 hi,this]
theorem XS.var (xs:XS X P w K mg base lvl S Wx) {x:Str}{i:Nat}{pos:Pos} (h:S.slot x=some i):PE X (.Name x pos) (tVar i):=by
 unfold Sx.slot at h
 split at h
 ·rename_i hc
  simp only [jb0,jg9] at hc
  exact qh4 (by rw [xs.N];exact zjd h) (by rw [xs.sc];exact qhu hc.1.1) hc.1.2 hc.2
 ·cases h
theorem XS.gl (xs:XS X P w K mg base lvl S Wx) {x:Str} (h:S.glob x=true):Gl X x:=by
 show X.env.scope.names.lookup x=_
 rw [xs.sc]
 exact zxm h
theorem zqy {e:Expr}{es:List Expr}{env:Env} (h:∀ x p,e≠.Starred x p):va9 (e::es) env=(false,eval e env)::va9 es env:=by
 cases e with
 | Starred x p=>exact absurd rfl (h x p)
 | _=>rfl
def zjq:Expr->Bool
 | .Starred _ _=>false
 | _=>true
theorem zqk {e:Expr} (h:zjq e=true):∀ x p,e≠.Starred x p:=λ x p z=>by rw [z] at h;cases h
theorem zkg {env:Env}{pos:Pos}:∀ {es:List Expr},es.all zjq=true->(vg5 pos (va9 es env)).any (·.1)=false
 | [],_=>rfl
 | e::es,h=>by
  rw [je2,jb0] at h
  rw [zqy (zqk h.1)]
  show (false || (vg5 pos (va9 es env)).any (·.1))=false
  rw [zkg h.2]
  rfl
def zjr:Expr->Bool
 | .Slice _ _ _ _=>false
 | _=>true
theorem zyb {b:Expr} (h:zjr b=true):zhw b:=by
 intro o i
 cases b with
 | Slice _ _ _ _=>cases h
 | _=>rfl
def qph:Expr->Bool
 | .List _ _=>true
 | _=>false
def qo9:Expr->Bool
 | .List es _=>es.any qph
 | _=>false
def qoj (b:Expr):Operator->Option (PV->Nat->PV->Nat->Option (PV×Nat))
 | .Add=>some (if qo9 b=true then zyo else zqf)
 | .Sub=>some zwa
 | .Mult=>some zxs
 | .FloorDiv=>some zpa
 | .Mod=>some zyt
 | .Pow=>some zmc
 | _=>none
theorem qox {a b:Expr}{op:Operator}{o:PV->Nat->PV->Nat->Option (PV×Nat)}{f g:Fx}{vs vs':List Nat}{pos:Pos} (h:qoj b op=some o) (hv:∀ i∈vs,M.Ms i=false) (hK:M.K=X.K) (ha:PE X a (tE M f vs)) (hb:PE X b (tE M g vs')):PE X (.BinOp a op b pos) (tE M (bBin o f g) (vs++vs')):=by
 cases op <;> cases h
 ·split
  ·exact qjn hv hK ha hb
  ·exact qml hv hK ha hb
 ·exact qaf qj4 (λ _ _ _=>trivial) hv ha hb
 ·exact qmd hv ha hb
 ·exact qaf qna (λ _ _=>cMod) hv ha hb
 ·exact qaf qm7 (λ _ _=>cPow) hv ha hb
 ·exact qaf qgk (λ _ _=>cDiv) hv ha hb
def isNm:Expr->Bool
 | .Set _ _ _=>false
 | _=>true
def qk3 (b:Expr):vn2->Option (PV->Nat->PV->Nat->Option (PV×Nat))
 | .Lt=>some (zwb λ i j=>decide (i < j))
 | .LtE=>some (zwb λ i j=>decide (i<=j))
 | .Gt=>some (zwb λ i j=>decide (j < i))
 | .GtE=>some (zwb λ i j=>decide (j<=i))
 | .Eq=>some (opEq false)
 | .NotEq=>some (opEq true)
 | .Is=>some (opIs false)
 | .IsNot=>some (opIs true)
 | .In=>if isNm b=true then some (opIn false) else none
 | .NotIn=>if isNm b=true then some (opIn true) else none
theorem qej {op:vn2}{b:Expr} (h:isNm b=true):vg9 op b=false:=by
 cases b with
 | Set _ _ _=>cases h
 | _=>rfl
theorem qhk {op:vn2}{o:PV->Nat->PV->Nat->Option (PV×Nat)}{f g:Fx}{vs vs':List Nat}{b:Expr} (h:qk3 b op=some o) (hu:X.A.units + 64 < vi3) (hv:∀ i∈vs,M.Ms i=false) (hK:M.K=X.K):
  ∃ r,OpR X (vb4 op) r/\vg9 op b=false/\∀ σ H Q,tE M (bBin o f g) (vs++vs') σ H Q->tOp r (tE M f vs) (tE M g vs') σ H Q:=by
 cases op
 ·cases h;exact ⟨_,qni hu,zwg _ (by decide) (by decide),λ σ H Q h=>zwx hv (λ x d y e z c v w H fps f1 f2 Q ho o1 o2 dj nz zd lf=>qaz hK ho o1 o2 lf) h⟩
 ·cases h;exact ⟨_,qm8 hu,zwg _ (by decide) (by decide),λ σ H Q h=>zwx hv (λ x d y e z c v w H fps f1 f2 Q ho o1 o2 dj nz zd lf=>qaz hK ho o1 o2 lf) h⟩
 ·cases h;exact ⟨_,qnb,zwg _ (by decide) (by decide),λ σ H Q h=>zwx hv (λ x d y e z c v w H fps f1 f2 Q ho o1 o2 dj nz zd lf=>zja ho o1 o2 lf) h⟩
 ·cases h;exact ⟨_,qnc,zwg _ (by decide) (by decide),λ σ H Q h=>zwx hv (λ x d y e z c v w H fps f1 f2 Q ho o1 o2 dj nz zd lf=>zja ho o1 o2 lf) h⟩
 ·cases h;exact ⟨_,qng,zwg _ (by decide) (by decide),λ σ H Q h=>zwx hv (λ x d y e z c v w H fps f1 f2 Q ho o1 o2 dj nz zd lf=>zja ho o1 o2 lf) h⟩
 ·cases h;exact ⟨_,qnh,zwg _ (by decide) (by decide),λ σ H Q h=>zwx hv (λ x d y e z c v w H fps f1 f2 Q ho o1 o2 dj nz zd lf=>zja ho o1 o2 lf) h⟩
 ·cases h;refine ⟨_,qne.or qnd,zwg _ (by decide) (by decide),λ σ H Q h=>zwx hv (λ x d y e z c v w H fps f1 f2 Q ho o1 o2 dj nz zd lf=>?_) h⟩
  rcases qd7 ho o1 o2 lf with ⟨i,j,e1,e2,q⟩ | ⟨e1,q⟩
  ·exact .inl ⟨i,j,e1,e2,by simpa using q⟩
  ·exact .inr ⟨e1,by rw [jm5] at q;exact q⟩
 ·cases h;refine ⟨_,qdo.or qj5,zwg _ (by decide) (by decide),λ σ H Q h=>zwx hv (λ x d y e z c v w H fps f1 f2 Q ho o1 o2 dj nz zd lf=>?_) h⟩
  rcases qd7 ho o1 o2 lf with ⟨i,j,e1,e2,q⟩ | ⟨e1,q⟩
  ·exact .inl ⟨i,j,e1,e2,by simpa [bne] using q⟩
  ·exact .inr ⟨e1,by rw [jp9] at q;exact q⟩
 ·replace h:(if isNm b=true then some (opIn false) else none)=some o:=h
  split at h
  ·rename_i hb
   cases h
   exact ⟨_,(qnj (by omega)).or (qnf hu),qej hb,λ σ H Q h=>zwx hv (λ x d y e z c v w H fps f1 f2 Q ho o1 o2 dj nz zd lf=>qa0 hK ho o1 o2 lf) h⟩
  ·cases h
 ·replace h:(if isNm b=true then some (opIn true) else none)=some o:=h
  split at h
  ·rename_i hb
   cases h
   exact ⟨_,(qdp (by omega)).or (qdn hu),qej hb,λ σ H Q h=>zwx hv (λ x d y e z c v w H fps f1 f2 Q ho o1 o2 dj nz zd lf=>qa0 hK ho o1 o2 lf) h⟩
  ·cases h
def icmp:vn2->Option (Int->Int->Bool)
 | .Lt=>some λ i j=>decide (i < j)
 | .LtE=>some λ i j=>decide (i<=j)
 | .Gt=>some λ i j=>decide (j < i)
 | .GtE=>some λ i j=>decide (j<=i)
 | .Eq=>some λ i j=>decide (i=j)
 | _=>none
theorem qj6:OpR X (vb4 .Eq) (rI0 λ i j=>.bl (decide (i=j))):=λ pins s σ H x y v u Q I rx ry h=>qo8 pins s σ H x y v u Q I rx ry (by
 obtain ⟨i,j,rfl,rfl,q⟩:=h
 refine ⟨rfl,?_⟩
 rw [qe0]
 exact q)
theorem zgd {op:vn2}{p:Int->Int->Bool} (h:icmp op=some p):OpR X (vb4 op) (rI0 λ i j=>.bl (p i j))/\op≠.In/\op≠.NotIn:=by
 cases op <;> cases h
 ·exact ⟨qj6,by decide,by decide⟩
 ·exact ⟨qnb,by decide,by decide⟩
 ·exact ⟨qnc,by decide,by decide⟩
 ·exact ⟨qng,by decide,by decide⟩
 ·exact ⟨qnh,by decide,by decide⟩
def zzl (p q:Int->Int->Bool) (f g h:Fx):Fx:=λ ρ=>(f ρ).bind λ (x,_,ρ1)=>(g ρ1).bind λ (y,_,ρ2)=>match x,y with
 | .int i,.int j=>if p i j=true then (h ρ2).bind λ (z,_,ρ3)=>(match z with
  | .int k=>.ok (.bl (q j k),om,ρ3)
  | _=>.no) else .ok (.bl false,om,ρ2)
 | _,_=>.no
theorem qad {p q:Int->Int->Bool}{f g h:Fx}{vs v1 v2 v3:List Nat}{σ:St}{H:Hp}{Q:VK} (hq:tE M (zzl p q f g h) vs σ H Q):qcw (rI0 λ i j=>.bl (p i j)) (rI0 λ i j=>.bl (q i j)) (tE M f v1) (tE M g v2) (tE M h v3) σ H Q:=by
 obtain ⟨ρ,fps,rep,qq⟩:=hq
 refine ⟨ρ,fps,rep,?_⟩
 unfold zzl at qq
 cases ef:f ρ with
 | no=>rw [ef] at qq;exact qq
 | exc c=>rw [ef] at qq;exact qq
 | ok p0=>
  obtain ⟨x,d,ρ1⟩:=p0
  rw [ef] at qq
  intro v H1 fps1 f1 k1 g1 rep1 o1 t1
  refine ⟨ρ1,fps1,rep1,?_⟩
  dsimp only [Rz.bind] at qq
  cases eg:g ρ1 with
  | no=>rw [eg] at qq;exact qq
  | exc c=>rw [eg] at qq;exact λ H' fps' k=>qq H' fps' (k1.trans k)
  | ok p2=>
   obtain ⟨y,e,ρ2⟩:=p2
   rw [eg] at qq
   intro w H2 fps2 f2 k2 g2 rep2 o2 t2
   cases x with
   | int i=>
    cases y with
    | int j=>
     dsimp only at qq
     rw [Own] at o1 o2
     obtain ⟨rfl,rfl⟩:=o1
     obtain ⟨rfl,rfl⟩:=o2
     refine ⟨i,j,rfl,rfl,p i j,rfl,?_⟩
     by_cases hp:p i j=true
     ·rw [if_pos hp] at qq ⊢
      refine ⟨ρ2,fps2,rep2,?_⟩
      cases eh:h ρ2 with
      | no=>rw [eh] at qq;exact qq
      | exc c=>rw [eh] at qq;exact λ H' fps' k=>qq H' fps' ((k1.trans k2).trans k)
      | ok p3=>
       obtain ⟨z,c,ρ3⟩:=p3
       rw [eh] at qq
       intro u H3 fps3 f3 k3 g3 rep3 o3 t3
       cases z with
       | int k=>
        dsimp only at qq
        rw [Own] at o3
        obtain ⟨rfl,rfl⟩:=o3
        exact ⟨j,k,rfl,rfl,qq _ H3 fps3 [] ((k1.trans k2).trans k3) ((g1.trans g2).trans g3) rep3 (by rw [Own];exact ⟨rfl,rfl⟩) ⟨λ _ z=>(nomatch z),λ _ z=>nomatch z⟩⟩
       | _=>exact qq.elim
     ·rw [if_neg hp] at qq ⊢
      exact qq _ H2 fps2 [] (k1.trans k2) (g1.trans g2) rep2 (by rw [Own];exact ⟨rfl,rfl⟩) ⟨λ _ z=>(nomatch z),λ _ z=>nomatch z⟩
    | _=>exact qq.elim
   | _=>exact qq.elim
def zzv (f g:Fx):Fx:=λ ρ=>(f ρ).bind λ (x,_,ρ1)=>match x with
 | .bl true=>g ρ1
 | .bl false=>.ok (.bl false,om,ρ1)
 | _=>.no
def bOrV (f g:Fx):Fx:=λ ρ=>(f ρ).bind λ (x,_,ρ1)=>match x with
 | .bl true=>.ok (.bl true,om,ρ1)
 | .bl false=>g ρ1
 | _=>.no
def zxj:PV->Nat->Option (PV×Nat)
 | .bl b,_=>some (.bl (!b),om)
 | _,_=>none
variable {f g:Fx}{vs vs':List Nat}{σ:St}{H:Hp}{Q:VK}
theorem qcs {f:Fx}{ρ ρ1:Rho}{fps fps1:Fps}{H H1:Hp} (k1:KD M H fps H1 fps1) (g1:Agr M ρ ρ1) (rep1:Rep M ρ1 σ H1 fps1) (hs:∀ i∈vs,i∈vs')
  (q:match f ρ1 with
   | .ok (x,d,ρ')=>∀ v H' fps' fp,KD M H fps H' fps'->Agr M ρ ρ'->Rep M ρ' σ H' fps'->Own M.K H' (Zt M vs' fps' fp) x d v fp->Temp M vs' H H' fps' fp->Q v H'
   | .exc c=>∀ H' fps',KD M H fps H' fps'->M.W σ c H'
   | .no=>False):tE M f vs σ H1 Q:=by
 refine ⟨ρ1,fps1,rep1,?_⟩
 cases eg:f ρ1 with
 | no=>rw [eg] at q;exact q
 | exc c=>rw [eg] at q;exact λ H' fps' k=>q H' fps' (k1.trans k)
 | ok p2=>
  obtain ⟨x,d,ρ2⟩:=p2
  rw [eg] at q
  exact λ v H' fps' fp k g r o t=>q v H' fps' fp (k1.trans k) (g1.trans g) r (o.weak λ a h=>Zt.mono hs h) ⟨λ a ha=>(by
   have e:=t.new a ha
   cases e':H a with
   | none=>rfl
   | some o=>exact absurd e (k1.dom a (by rw [e'];simp))),t.ndj⟩
theorem qje (hq:tE M (zzv f g) (vs++vs') σ H Q):qma (tE M f vs) (tE M g vs') σ H Q:=by
 obtain ⟨ρ,fps,rep,q⟩:=hq
 refine ⟨ρ,fps,rep,?_⟩
 unfold zzv at q
 cases ef:f ρ with
 | no=>rw [ef] at q;exact q
 | exc c=>rw [ef] at q;exact q
 | ok p=>
  obtain ⟨x,d,ρ1⟩:=p
  rw [ef] at q
  intro v H1 fps1 f1 k1 g1 rep1 o1 t1
  dsimp only [Rz.bind] at q
  cases x with
  | bl b=>
   rw [Own] at o1
   refine ⟨b,o1.1,?_⟩
   cases b with
   | true=>exact qcs k1 g1 rep1 (λ i hi=>ja2 _ hi) q
   | false=>exact q (.bl false) H1 fps1 [] k1 g1 rep1 (by rw [Own];exact ⟨rfl,rfl⟩) ⟨λ _ z=>(nomatch z),λ _ z=>nomatch z⟩
  | _=>exact q.elim
theorem ql8 (hq:tE M (bOrV f g) (vs++vs') σ H Q):tOrV (tE M f vs) (tE M g vs') σ H Q:=by
 obtain ⟨ρ,fps,rep,q⟩:=hq
 refine ⟨ρ,fps,rep,?_⟩
 unfold bOrV at q
 cases ef:f ρ with
 | no=>rw [ef] at q;exact q
 | exc c=>rw [ef] at q;exact q
 | ok p=>
  obtain ⟨x,d,ρ1⟩:=p
  rw [ef] at q
  intro v H1 fps1 f1 k1 g1 rep1 o1 t1
  dsimp only [Rz.bind] at q
  cases x with
  | bl b=>
   rw [Own] at o1
   refine ⟨b,o1.1,?_⟩
   cases b with
   | false=>exact qcs k1 g1 rep1 (λ i hi=>ja2 _ hi) q
   | true=>exact q (.bl true) H1 fps1 [] k1 g1 rep1 (by rw [Own];exact ⟨rfl,rfl⟩) ⟨λ _ z=>(nomatch z),λ _ z=>nomatch z⟩
  | _=>exact q.elim
theorem qjc (hq:tE M (bUn zxj f) vs σ H Q):ql5 (tE M f vs) σ H Q:=by
 refine qcr (r:=λ x H1 Q=>∃ c,x=.bl c/\Q (.bl (!c)) H1) (λ x d z c v H fps f1 Q ho o1 nz zd lf=>?_) hq
 cases x with
 | bl b=>cases ho;rw [Own] at o1;exact ⟨b,o1.1,zxn lf⟩
 | _=>cases ho
end
abbrev D2:=Fx×List Nat
def zyv (d:Expr->Option D2):List Expr->Option (Fa×List Nat)
 | []=>some (aNil,[])
 | e::es=>match d e,zyv d es with
  | some (f,v),some (fa,u)=>some (zqa f fa,v++u)
  | _,_=>none
def qbd (d:Expr->Option D2):List Expr->Option D2
 | []=>none
 | [e]=>d e
 | e::es=>match d e,qbd d es with
  | some (f,v),some (g,u)=>some (zzv f g,v++u)
  | _,_=>none
def qhg (d:Expr->Option D2):List Expr->Option D2
 | []=>none
 | [e]=>d e
 | e::es=>match d e,qhg d es with
  | some (f,v),some (g,u)=>some (bOrV f g,v++u)
  | _,_=>none
def denC:Const->Option D2
 | .int i=>some (bC (.int i),[])
 | .bool b=>some (bC (.bl b),[])
 | .none=>some (bC .non,[])
 | .str x=>some (bC (.str x),[])
 | _=>none
def tyOf (x:Str):Option String:=if x = "int" then some "int" else if x = "bool" then some "bool" else if x = "str" then some "str" else if x = "list" then some "list" else if x = "tuple" then some "tuple" else if x = "dict" then some "dict" else none
def qk6 (x:Str):Option (List (PV×Nat)->Option (PV×Nat)):=
 if x = "len" then some zxd else if x = "all" then some zbo else if x = "max" then some zyu else if x = "min" then some zws
 else if x = "tuple" then some zze else if x = "list" then some zzu else none
def zxr (scope sc:ve2):ve2:={ scope with names:=scope.names.map λ (n,k)=>if (k == .free && sc.kind == .function && sc.names.lookup n == some .cell) then (n,.cell) else (n,k) }
def junk (i:Nat):Str:=⟨#[2000000 + i]⟩
def zge (sc':ve2):Nat->List Str->List Str
 | _,[]=>[]
 | i,x::r=>(if zwc sc' x .cell || zwc sc' x .free then x else junk i)::zge sc' (i + 1) r
def zmf:List Expr->Option (List Str)
 | []=>some []
 | .Name x _::r=>(zmf r).map (x::·)
 | _=>none
def tgA (n:Nat):Expr->Option (List Str×(PV->Rho->Option Rho))
 | .Name x _=>some ([x],asgN n)
 | .Tuple es _ _=>(zmf es).map λ xs=>(xs,asgT (jk0 n xs.length))
 | _=>none
def isTg:Expr->Bool
 | .Tuple _ _ _=>true
 | _=>false
def zqv (S:Sx) (scope:ve2) (xs:List Str) (vI:List Nat):Sx:=⟨zge (zxr scope S.sc) 0 S.N++xs,zxr scope S.sc,S.ms,(jd0 S.N.length).map S.alF++ja5 xs.length vI,S.Γ,S.Γm,false,S.xc,S.pn⟩
def zms (S:Sx) (scope:ve2) (xs:List Str) (vI:List Nat):Bool:=
 let S':=zqv S scope xs vI
 decide (scope.kind=.function) && scope.names.all (λ x=>x.2 != .free || !(scope.names.contains (x.1,.cell))) && scope.names.all (λ x=>x.2 != .local || scope.names.lookup x.1 == some .local)
 && scope.names.all (λ x=>x.2 != .free || (S.sc.names.lookup x.1 == some .cell || S.sc.names.lookup x.1 == some .free))
 && (jd0 S.N.length).all (λ i=>match S'.N[i]? with
  | some x=>!visB S'.sc x || (decide (S.N[i]?=some x) && visB S.sc x && scope.names.contains (x,.free) && !zwc S'.sc x .local)
  | none=>true)
 && decide S'.N.Nodup && xs.all (λ x=>zwc S'.sc x .local || (zwc S'.sc x .cell && scope.names.contains (x,.cell))) && decide (S.N.length≠0) && (S.ms.all λ i=>decide (i < S.N.length))
inductive Iw where
 | rng (en:List (PV×Nat)->Option (Int×Int)) (fa:Fa) (vs:List Nat)
 | seq (f:Fx) (vs:List Nat)
 | vw (v:Vw) (fa:Fa) (vs:List Nat)
def Iw.vs:Iw->List Nat
 | .rng _ _ _=>[]
 | .seq _ vs=>vs
 | .vw _ _ vs=>vs
def twOk (tg:Expr):Iw->Bool
 | .vw .enm _ _=>isTg tg
 | .vw .zp _ _=>isTg tg
 | _=>true
def denI (d:Expr->Option D2) (S:Sx) (it:Expr):Option Iw:=match it with
 | .Call (.Name x _) [a] [] _=>if x = "range" /\ S.glob "range" = true then (match zyv d [a] with
   | some (fa,vs)=>some (.rng zqx fa vs)
   | none=>none) else (match d it with
   | some (f,vs)=>some (.seq f vs)
   | none=>none)
 | .Call (.Name x _) [a,b] [] _=>if x = "range" /\ S.glob "range" = true then (match zyv d [a,b] with
   | some (fa,vs)=>some (.rng zgi fa vs)
   | none=>none) else if x = "zip" /\ S.glob "zip" = true then (match zyv d [a,b] with
   | some (fa,vs)=>some (.vw .zp fa vs)
   | none=>none) else (match d it with
   | some (f,vs)=>some (.seq f vs)
   | none=>none)
 | _=>match d it with
   | some (f,vs)=>some (.seq f vs)
   | none=>none
def qfh (iw:Iw) (k:Nat) (asg:PV->Rho->Option Rho) (test:Fb) (elt:Fx):Fx:=match iw with
 | .rng en fa _=>zxv en fa k asg test elt
 | .seq f _=>zql f k asg test elt
 | .vw v fa _=>zyr v fa k asg test elt
def zqp:Fb:=λ ρ=>.ok (true,ρ)
def qbc (d:Expr->Option D2):List Expr->Option Fb
 | []=>some zqp
 | [c]=>(d c).map λ p=>bT p.1
 | _=>none
def bMs (j:Nat) (i:Int):Fx:=λ ρ=>match ρ[j]? with
 | some (some (.lst xs,_))=>(match atI xs i with
  | some z=>if zwn z=true then .ok (z,om,ρ) else .no
  | none=>.no)
 | _=>.no
def qif:Expr->Bool
 | .UnaryOp .USub c _=>(match c with
  | .Constant k _ _=>(match k with
   | .int i=>i == 1
   | _=>false)
  | _=>false)
 | _=>false
theorem qnx {e:Expr} (h:qif e=true):∃ k p3 p4,e=.UnaryOp .USub (.Constant (.int 1) k p3) p4:=by
 unfold qif at h
 split at h
 ·split at h
  ·split at h
   ·rename_i i
    have:i=1:=eq_of_beq h
    subst this
    exact ⟨_,_,_,rfl⟩
   ·cases h
  ·cases h
 ·cases h
def nmE:Expr->Option Str
 | .Name x _=>some x
 | _=>none
theorem zzg {e:Expr}{x:Str} (h:nmE e=some x):∃ p,e=.Name x p:=by
 cases e <;> first | (cases h;exact ⟨_,rfl⟩) | (cases h)
def ixC:Expr->Option Int
 | .Constant c _ _=>(match c with
  | .int i=>some i
  | _=>none)
 | _=>none
theorem qef {e:Expr}{i:Int} (h:ixC e=some i):∃ k p,e=.Constant (.int i) k p:=by
 unfold ixC at h
 split at h
 ·split at h
  ·cases h;exact ⟨_,_,rfl⟩
  ·cases h
 ·cases h
def qij (d:Sx->Expr->Option D2) (S:Sx) (a:Expr):Option Expr->Option Expr->Option Expr->Option D2
 | none,some hi,none=>match d S a,d S hi with
  | some (f,v),some (g,_)=>some (bSl f none (some g),v)
  | _,_=>none
 | some lo,none,none=>match d S a,d S lo with
  | some (f,v),some (g,_)=>some (bSl f (some g) none,v)
  | _,_=>none
 | _,_,_=>none
def qii (d:Sx->Expr->Option D2) (S:Sx) (a b:Expr):Option D2:=match b with
 | .Slice lo hi st _=>qij d S a lo hi st
 | b=>match nmE a,ixC b with
  | some x,some i=>(match S.slot x with
   | some j=>if S.msF j=true then some (bMs j i,[]) else some (bBin zqj (bVar j) (bC (.int i)),(j::S.alF j)++[])
   | none=>none)
  | _,_=>match d S a,d S b with
   | some (f,v),some (g,u)=>if zjr b=true then some (bBin zqj f g,v++u) else none
   | _,_=>none
def qhl (S:Sx) (T:Str):Option Nat:=if S.glob T=true/\S.xc≠[] then (if T = "ValueError" then some 0 else match XN.findIdx? (·== T) with
 | some c=>if S.xc.contains c=true then some c else none
 | none=>none) else none
def qbg (S:Sx):List Expr->Option (List Nat)
 | []=>some []
 | e::r=>match nmE e,qbg S r with
  | some T,some ds=>(qhl S T).map (·::ds)
  | _,_=>none
def qim (d:Expr->Option D2) (S:Sx) (e c:Expr):Option D2:=match d e with
 | some (f,v)=>if S.glob "isinstance" = true then (match c with
  | .Name T _=>(match tyOf T with
   | some t=>if S.glob T=true then some (bUn (zzf t) f,v) else none
   | none=>(qhl S T).map λ n=>(bUn (zzz [n]) f,v))
  | .Tuple es _ _=>if es.length<=100/\es≠[] then (qbg S es).map λ ns=>(bUn (zzz ns) f,v) else none
  | _=>none) else none
 | none=>none
def genE:List Comprehension->Option (Expr×Expr×List Expr)
 | []=>none
 | g::r=>(match r with
  | []=>(match g with
   | ⟨tg,it,ifs,n⟩=>if n=0 then some (tg,it,ifs) else none)
  | _::_=>none)
theorem qkn {gs:List Comprehension}{tg it:Expr}{ifs:List Expr} (h:genE gs=some (tg,it,ifs)):gs=[⟨tg,it,ifs,0⟩]:=by
 unfold genE at h
 split at h
 ·cases h
 ·split at h
  ·split at h
   split at h
   ·rename_i hn;cases h;subst hn;rfl
   ·cases h
  ·cases h
def qio (d:Expr->Option D2) (a:Expr) (ops:List vn2) (bs:List Expr):Option D2:=match ops with
 | [op]=>(match bs with
  | [b]=>(match d a,d b,qk3 b op with
   | some (f,v),some (g,u),some o=>some (bBin o f g,v++u)
   | _,_,_=>none)
  | _=>none)
 | [op,op']=>(match bs with
  | [b,c]=>(match d a,d b,d c,icmp op,icmp op' with
   | some (f,_),some (g,_),some (h,_),some p,some q=>some (zzl p q f g h,[])
   | _,_,_,_,_=>none)
  | _=>none)
 | _=>none
def zzq (d:Sx->Expr->Option D2) (S:Sx):Expr->Option D2
 | .Constant c _ _=>denC c
 | .Name x _=>match S.slot x with
  | some i=>if S.msF i=true then none else some (bVar i,i::S.alF i)
  | none=>none
 | .BinOp a op b _=>match d S a,d S b,qoj b op with
  | some (f,v),some (g,u),some o=>some (bBin o f g,v++u)
  | _,_,_=>none
 | .UnaryOp op a _=>(match op with
  | .USub=>(match d S a with
   | some (f,v)=>some (bUn zyd f,v)
   | none=>none)
  | .Not=>(match d S a with
   | some (f,v)=>some (bUn zxj f,v)
   | none=>none)
  | _=>none)
 | .BoolOp op es _=>(match op with
  | .And=>qbd (d S) es
  | .Or=>qhg (d S) es)
 | .Compare a ops bs _=>qio (d S) a ops bs
 | .List es _=>match zyv (d S) es with
  | some (fa,v)=>some (zqb zqh fa,v)
  | none=>none
 | .Tuple es _ _=>match zyv (d S) es with
  | some (fa,v)=>some (zqb zxz fa,v)
  | none=>none
 | .Dict ks vs _=>(match ks with
  | []=>(match vs with
   | []=>some (bC .emp,[])
   | _::_=>none)
  | _::_=>none)
 | .Subscript a b _=>qii d S a b
 | .Call fn args ks _=>(match ks with
  | []=>(match nmE fn with
   | some x=>(
     if x = "isinstance" then (match args with
      | [e,c]=>qim (d S) S e c
      | _=>none)
     else match qk6 x with
     | some o=>(match args with
      | e::es=>(match zyv (d S) (e::es) with
       | some (fa,v)=>if S.glob x=true then some (zqb o fa,v) else none
       | none=>none)
      | []=>none)
     | none=>match S.Γ.lookup x with
      | some (false,_,F)=>(match args with
       | e::es=>(match zyv (d S) (e::es) with
        | some (fa,v)=>if S.glob x=true then some (zqw F fa,v) else none
        | none=>(match e with
         | .Name y _=>(match S.slot y,zyv (d S) es with
          | some i,some (fa,_)=>if S.glob x=true/\S.msF i=true then some (zvd F i fa,[]) else none
          | _,_=>none)
         | _=>none))
       | []=>none)
      | some (true,_,F)=>(match args with
       | .Name y _::es=>(match S.slot y,zyv (d S) es with
        | some i,some (fa,v)=>if S.glob x=true/\S.msF i=true then some (zqd F i fa,v) else none
        | _,_=>none)
       | _=>none)
      | none=>(match S.Γm.lookup x with
       | some F=>(match args with
        | [.Name y _]=>(match S.slot y with
         | some i=>if S.glob x=true/\S.msF i=true then some (zve F i,[]) else none
         | none=>none)
        | _=>none)
       | none=>none))
   | none=>none)
  | _::_=>none)
 | .ListComp elt gs scope _=>(match genE gs with
  | some (tg,it,ifs)=>(match tgA S.N.length tg,denI (d S) S it with
    | some (xs,asg),some iw=>if zms S scope xs iw.vs=true/\twOk tg iw=true then (match qbc (d (zqv S scope xs iw.vs)) ifs,d (zqv S scope xs iw.vs) elt with
     | some t,some (g,vE)=>some (qfh iw xs.length asg t g,iw.vs++vE.filter (λ i=>decide (i < S.N.length)))
     | _,_=>none) else none
    | _,_=>none)
  | none=>none)
 | _=>none
def den:Nat->Sx->Expr->Option D2
 | 0,_,_=>none
 | n + 1,S,e=>zzq (den n) S e
section
variable {X:Cx}{P:vb0}{w:vb8}{K:Frag}{mg:Str->Option va2}{base:Heap}{lvl:Nat}{S:Sx}{Wx:St->Nat->Hp->Prop}{M:Fm}{f g:Fx}{vs vs':List Nat}{σ:St}{H:Hp}{Q:VK}
theorem qi3 {Q:Bool->Hp->Prop} (hq:tT M (bT (zzv f g)) σ H Q):tAnd (tT M (bT f)) (tT M (bT g)) σ H Q:=by
 refine qlp ?_
 have e:bT (zzv f g)=bAnd (bT f) (bT g):=by
  funext ρ
  unfold bT zzv bAnd
  dsimp only
  cases f ρ with
  | no=>rfl
  | exc c=>rfl
  | ok p=>
   obtain ⟨x,d,ρ1⟩:=p
   cases x with
   | bl b=>cases b <;> rfl
   | _=>rfl
 rw [<- e];exact hq
theorem qln {Q:Bool->Hp->Prop} (hq:tT M (bT (bOrV f g)) σ H Q):tOr (tT M (bT f)) (tT M (bT g)) σ H Q:=by
 refine qos ?_
 have e:bT (bOrV f g)=bOr (bT f) (bT g):=by
  funext ρ
  unfold bT bOrV bOr
  dsimp only
  cases f ρ with
  | no=>rfl
  | exc c=>rfl
  | ok p=>
   obtain ⟨x,d,ρ1⟩:=p
   cases x with
   | bl b=>cases b <;> rfl
   | _=>rfl
 rw [<- e];exact hq
theorem qi1 {Q:Bool->Hp->Prop} (hq:tT M (bT (bUn zxj f)) σ H Q):tNot (tT M (bT f)) σ H Q:=by
 refine qlo ?_
 have e:bT (bUn zxj f)=bNot (bT f):=by
  funext ρ
  unfold bT bUn bNot
  dsimp only
  cases f ρ with
  | no=>rfl
  | exc c=>rfl
  | ok p=>
   obtain ⟨x,d,ρ1⟩:=p
   cases x with
   | bl b=>cases b <;> rfl
   | _=>rfl
 rw [<- e];exact hq
theorem OwnL.getAny {K:Frag}{Z:Addr->Prop}:∀ {xs:List PV}{d:Nat}{ws:List V}{fp:List Addr}{i:Nat}{x:PV},OwnL K H Z xs d ws fp->xs[i]?=some x->∃ u f',ws[i]?=some u/\Own K H Z x d u f'
 | [],d,ws,fp,i,x,h,e=>by simp at e
 | y::xs,d,ws,fp,i,x,h,e=>by
  rw [OwnL] at h
  obtain ⟨v,s,f1,f2,rfl,ef,_,o1,o2⟩:=h
  cases i with
  | zero=>simp at e;subst e;exact ⟨v,f1,by simp,o1⟩
  | succ i=>obtain ⟨u,f',e1,e2⟩:=o2.getAny (i:=i) (x:=x) (by simpa using e);exact ⟨u,f',by simpa using e1,e2⟩
theorem qoy {x:Str}{j:Nat}{i:Int}{p0 p1 pos:Pos}{k:Nat} (xs:XS X P w K mg base lvl S Wx) (h:S.slot x=some j) (hK:M.K=X.K):PE X (.Subscript (.Name x p0) (.Constant (.int i) k p1) pos) (tE M (bMs j i) []):=by
 refine zqn (qjy zhj (xs.var h) zfo λ _ _=>rfl) λ σ H Q hq=>?_
 obtain ⟨ρ,fps,rep,q⟩:=hq
 unfold bMs at q
 cases e0:ρ[j]? with
 | none=>rw [e0] at q;exact q.elim
 | some s0=>
  rw [e0] at q
  cases s0 with
  | none=>exact q.elim
  | some p=>
   obtain ⟨z,d⟩:=p
   obtain ⟨v,hσ,o⟩:=rep.own j _ _ e0
   cases z with
   | lst ys=>
    dsimp only at q
    cases ea:atI ys i with
    | none=>rw [ea] at q;exact q.elim
    | some z=>
     rw [ea] at q
     dsimp only at q
     by_cases hz:zwn z=true
     ·rw [if_pos hz] at q
      have nx:∃ a ws d' f',v=.ref a/\H a=some (.lst ws)/\OwnL M.K H (Za M fps j) ys d' ws f':=by
       rw [Own] at o
       obtain ⟨a,ws,e,⟨_,hr,_,ol⟩ | ⟨_,f',ha,_,_,ol⟩⟩:=o
       ·exact ⟨a,ws,_,_,e,hr.1,ol⟩
       ·exact ⟨a,ws,_,_,e,ha,ol⟩
      obtain ⟨a,ws,d',f',rfl,ha,ol⟩:=nx
      have hw:∃ u f'',atI ws i=some u/\Own M.K H (Za M fps j) z d' u f'':=by
       unfold atI at ea ⊢
       rw [ol.length]
       cases ej:ixN ys.length i with
       | none=>rw [ej] at ea;cases ea
       | some m=>rw [ej] at ea;exact ol.getAny ea
      obtain ⟨u,f'',eu,ou⟩:=hw
      refine ⟨_,hσ,a,ws,i,u,rfl,rfl,.inl (.inl ha),eu,q u H fps [] KD.refl Agr.refl rep (Own.atom hz ou).2 ⟨λ _ z=>(nomatch z),λ _ z=>nomatch z⟩⟩
     ·rw [if_neg hz] at q;exact q.elim
   | _=>exact q.elim
def Good (P:vb0) (w:vb8) (K:Frag) (mg:Str->Option va2) (base:Heap) (lvl:Nat) (S:Sx) (e:Expr) (f:Fx) (vs:List Nat):Prop:=
 (∀ i∈vs,S.msF i=false)/\zjq e=true/\∀ {Wx} X M,XS X P w K mg base lvl S Wx->MS M K S Wx->PE X e (tE M f vs)/\PT X e (tT M (bT f))
theorem MS.v (m:MS M K S Wx) (h:∀ i∈vs,S.msF i=false):∀ i∈vs,M.Ms i=false:=λ i hi=>by rw [m.ms];exact h i hi
theorem MS.k (m:MS M K S Wx) (xs:XS X P w K mg base lvl S Wx):M.K=X.K:=m.K.trans xs.K.symm
theorem zqt {e:Expr} (h1:∀ i∈vs,S.msF i=false) (h2:zjq e=true) (h3:∀ env whole,isTrue e env whole=(do let v<-whole;standAt e.pos;holding [v] (truthy v)))
  (h:∀ {Wx} X M,XS X P w K mg base lvl S Wx->MS M K S Wx->PE X e (tE M f vs)):Good P w K mg base lvl S e f vs:=
 ⟨h1,h2,λ X M xs m=>⟨h X M xs m,zfl (qmw (h X M xs m) λ wh=>h3 _ wh) λ σ H Q q=>qcg q⟩⟩
theorem zxw {vs vs':List Nat} (h1:∀ i∈vs,S.msF i=false) (h2:∀ i∈vs',S.msF i=false):∀ i∈vs++vs',S.msF i=false:=λ i hi=>(jc4.mp hi).elim (h1 i) (h2 i)
theorem qg5 {a b:Expr}{op:vn2}{o:PV->Nat->PV->Nat->Option (PV×Nat)}{pos:Pos} (ho:qk3 b op=some o) (ga:Good P w K mg base lvl S a f vs) (gb:Good P w K mg base lvl S b g vs'):Good P w K mg base lvl S (.Compare a [op] [b] pos) (bBin o f g) (vs++vs'):=by
 refine ⟨zxw ga.1 gb.1,rfl,λ X M xs m=>?_⟩
 obtain ⟨r,hr,hn,hi⟩:=qhk (X:=X) (M:=M) (f:=f) (g:=g) (vs:=vs) (vs':=vs') ho xs.room.units (m.v ga.1) (m.k xs)
 have ha:=(ga.2.2 X M xs m).1
 have hb:=(gb.2.2 X M xs m).1
 exact ⟨zqn (qj1 hr ha hb hn) hi,zfl (qjt hr ha hb hn) λ σ H Q q=>hi σ H _ (qcg q)⟩
theorem qb3 {a b c:Expr}{op op':vn2}{p q:Int->Int->Bool}{h:Fx}{v3:List Nat}{pos:Pos} (h1:icmp op=some p) (h2:icmp op'=some q) (ga:Good P w K mg base lvl S a f vs) (gb:Good P w K mg base lvl S b g vs') (gc:Good P w K mg base lvl S c h v3):Good P w K mg base lvl S (.Compare a [op,op'] [b,c] pos) (zzl p q f g h) []:=by
 refine ⟨λ _ z=>(nomatch z),rfl,λ X M xs m=>?_⟩
 have r1:=zgd (X:=X) h1
 have r2:=zgd (X:=X) h2
 have ha:=(ga.2.2 X M xs m).1
 have hb:=(gb.2.2 X M xs m).1
 have hc:=(gc.2.2 X M xs m).1
 exact ⟨zqn (qgf r1.1 r2.1 ha hb hc (zwg _ r2.2.1 r2.2.2)) λ σ H Q q=>qad q,zfl (qf8 r1.1 r2.1 ha hb hc (zwg _ r2.2.1 r2.2.2)) λ σ H Q q=>qad (vs:=[]) (qcg q)⟩
theorem qg4 {a:Expr}{pos:Pos} (ga:Good P w K mg base lvl S a f vs):Good P w K mg base lvl S (.UnaryOp .Not a pos) (bUn zxj f) vs:=
 ⟨ga.1,rfl,λ X M xs m=>⟨zqn (qm0 (ga.2.2 X M xs m).1) λ σ H Q q=>qjc q,zfl (qmx (ga.2.2 X M xs m).2) λ σ H Q q=>qi1 q⟩⟩
theorem zgk {d:Expr->Option D2} (hd:∀ e f vs,d e=some (f,vs)->Good P w K mg base lvl S e f vs) {pos:Pos}:∀ (es:List Expr) (f:Fx) (vs:List Nat),qbd d es=some (f,vs)->(∀ i∈vs,S.msF i=false)/\∀ {Wx} X M,XS X P w K mg base lvl S Wx->MS M K S Wx->PE X (.BoolOp .And es pos) (tE M f vs)/\PW X (.BoolOp .And es pos) (tT M (bT f))
 | [],f,vs,h=>by cases h
 | [e],f,vs,h=>by
  have g:=hd e f vs h
  exact ⟨g.1,λ X M xs m=>⟨qh7 (g.2.2 X M xs m).1,qjq (g.2.2 X M xs m).2⟩⟩
 | e::e'::es,f,vs,h=>by
  unfold qbd at h
  split at h
  ·rename_i f1 v1 f2 v2 h1 h2
   cases h
   have g1:=hd e f1 v1 h1
   have g2:=zgk hd (pos:=pos) (e'::es) f2 v2 h2
   exact ⟨zxw g1.1 g2.1,λ X M xs m=>⟨zqn (qm3 (g1.2.2 X M xs m).1 (g2.2 X M xs m).1) λ σ H Q q=>qje q,qh3 (qmv (g1.2.2 X M xs m).2 (g2.2 X M xs m).2) λ σ H Q q=>qi3 q⟩⟩
  ·cases h
theorem qbb {d:Expr->Option D2} (hd:∀ e f vs,d e=some (f,vs)->Good P w K mg base lvl S e f vs) {pos:Pos}:∀ (es:List Expr) (f:Fx) (vs:List Nat),qhg d es=some (f,vs)->(∀ i∈vs,S.msF i=false)/\∀ {Wx} X M,XS X P w K mg base lvl S Wx->MS M K S Wx->PE X (.BoolOp .Or es pos) (tE M f vs)/\PW X (.BoolOp .Or es pos) (tT M (bT f))
 | [],f,vs,h=>by cases h
 | [e],f,vs,h=>by
  have g:=hd e f vs h
  exact ⟨g.1,λ X M xs m=>⟨qh7 (g.2.2 X M xs m).1,qmu (g.2.2 X M xs m).2⟩⟩
 | e::e'::es,f,vs,h=>by
  unfold qhg at h
  split at h
  ·rename_i f1 v1 f2 v2 h1 h2
   cases h
   have g1:=hd e f1 v1 h1
   have g2:=qbb hd (pos:=pos) (e'::es) f2 v2 h2
   exact ⟨zxw g1.1 g2.1,λ X M xs m=>⟨zqn (qo5 (g1.2.2 X M xs m).1 (g2.2 X M xs m).1) λ σ H Q q=>ql8 q,qh3 (qo2 (g1.2.2 X M xs m).2 (g2.2 X M xs m).2) λ σ H Q q=>qln q⟩⟩
  ·cases h
theorem zwj {d:Expr->Option D2} (hd:∀ e f vs,d e=some (f,vs)->Good P w K mg base lvl S e f vs):∀ (es:List Expr) (fa:Fa) (vs:List Nat),zyv d es=some (fa,vs)->(∀ i∈vs,S.msF i=false)/\es.all zjq=true/\∀ {Wx} X M,XS X P w K mg base lvl S Wx->MS M K S Wx->PA X es (tL M fa vs)
 | [],fa,vs,h=>by cases h;exact ⟨λ _ z=>(nomatch z),rfl,λ X M _ _=>qmm⟩
 | e::es,fa,vs,h=>by
  unfold zyv at h
  split at h
  ·rename_i f1 v1 f2 v2 h1 h2
   cases h
   have g1:=hd e f1 v1 h1
   have g2:=zwj hd es f2 v2 h2
   exact ⟨zxw g1.1 g2.1,by rw [je2,g1.2.1,g2.2.1];rfl,λ X M xs m=>qjo (m.v g1.1) (g1.2.2 X M xs m).1 (g2.2.2 X M xs m) (zqy (zqk g1.2.1))⟩
  ·cases h
theorem zya (scope:ve2) (env:Env):vl8 scope env=zxr scope env.scope:=rfl
theorem zvq {x:Str}{k:vd5}{sc:ve2}:∀ (l:List (Str×vd5)),(k=.cell\/k=.free)->(l.map λ (n,k)=>if (k == NameKind.free && sc.kind == .function && sc.names.lookup n == some .cell) then (n,NameKind.cell) else (n,k)).lookup x=some k->(x,NameKind.free)∈l\/(x,NameKind.cell)∈l
 | [],_,h=>by simp at h
 | (n,j)::r,hk,h=>by
  rw [jc2] at h
  have ih:=zvq (x:=x) (k:=k) (sc:=sc) r hk
  dsimp only at h
  by_cases hj:(j == NameKind.free && sc.kind == .function && sc.names.lookup n == some .cell)=true
  ·rw [if_pos hj,jd4] at h
   split at h
   ·rename_i hx
    rw [jb0,jb0] at hj
    have e1:x=n:=eq_of_beq hx
    have e2:j=.free:=eq_of_beq hj.1.1
    rw [e1,e2];exact .inl ja3
   ·exact (ih h).imp (ja1 _) (ja1 _)
  ·rw [if_neg hj,jd4] at h
   split at h
   ·rename_i hx
    have e1:x=n:=eq_of_beq hx
    have e2:j=k:=Option.some.inj h
    rcases hk with z | z
    ·rw [e1,e2,z];exact .inr ja3
    ·rw [e1,e2,z];exact .inl ja3
   ·exact (ih h).imp (ja1 _) (ja1 _)
theorem zzi (sc':ve2):∀ (N:List Str) (i:Nat),(zge sc' i N).length=N.length
 | [],_=>rfl
 | x::r,i=>by rw [zge,jb2,zzi sc' r (i + 1),jb2]
structure ChkOk (S:Sx) (scope:ve2) (xs:List Str) (vI:List Nat):Prop where
 kind:scope.kind=.function
 dis:∀ x,(x,NameKind.free)∈scope.names->(x,NameKind.cell)∉scope.names
 names:∀ x∈scope.names,x.2=.local->scope.names.lookup x.1=some .local
 free:∀ x∈scope.names,x.2=.free->S.sc.names.lookup x.1=some .cell\/S.sc.names.lookup x.1=some .free
 capt:∀ (i:Nat) (x:Str),i < S.N.length->(zqv S scope xs vI).N[i]?=some x->Vis (zxr scope S.sc) x->S.N[i]?=some x/\Vis S.sc x/\(x,NameKind.free)∈scope.names/\(zxr scope S.sc).names.lookup x≠some .local
 nd:(zqv S scope xs vI).N.Nodup
 loc:∀ x∈xs,(zxr scope S.sc).names.lookup x=some .local\/((zxr scope S.sc).names.lookup x=some .cell/\(x,NameKind.cell)∈scope.names)
 pos:S.N.length≠0
 ms:∀ i∈S.ms,i < S.N.length
theorem qiv {sc:ve2}{x:Str} (h:Vis sc x):visB sc x=true:=by
 unfold visB zwc
 rcases h with h | h | h <;> rw [h] <;> simp
theorem qiq {scope:ve2}{xs:List Str}{vI:List Nat} (h:zms S scope xs vI=true):ChkOk S scope xs vI:=by
 unfold zms at h
 simp only [jb0,decide_eq_true_eq,jc7,bne_iff_ne,ne_eq,je0] at h
 obtain ⟨⟨⟨⟨⟨⟨⟨⟨h1,h2⟩,h3⟩,h4⟩,h5⟩,h6⟩,h7⟩,h8⟩,h9⟩:=h
 refine ⟨h1,λ x hx hz=>(h2 (x,.free) hx).elim (λ z=>z rfl) λ z=>?_,λ x hx he=>(h3 x hx).elim (λ z=>absurd he z) λ z=>eq_of_beq z,λ x hx he=>(h4 x hx).elim (λ z=>absurd he z) λ z=>z.elim (λ z=>.inl (eq_of_beq z)) λ z=>.inr (eq_of_beq z),λ i x hi e hv=>?_,h6,λ x hx=>(h7 x hx).imp zxm λ z=>⟨zxm z.1,by simpa using z.2⟩,h8,h9⟩
 ·have z':(!(scope.names.contains (x,NameKind.cell)))=true:=z
  have:scope.names.contains (x,NameKind.cell)=true:=by simpa using hz
  rw [this] at z';cases z'
 have q:=h5 i (jf4.mpr hi)
 rw [e] at q
 dsimp only at q
 rw [je0] at q
 rcases q with q | q
 ·have:visB (zxr scope S.sc) x=true:=qiv hv
  have q':(!visB (zxr scope S.sc) x)=true:=q
  rw [this] at q';cases q'
 ·simp only [jb0,decide_eq_true_eq,jg9] at q
  obtain ⟨⟨⟨q1,q2⟩,q3⟩,q4⟩:=q
  refine ⟨q1,qhu q2,by simpa using q3,λ z=>?_⟩
  have:zwc (zxr scope S.sc) x .local=true:=by unfold zwc;rw [z];simp
  have q4':zwc (zxr scope S.sc) x .local=false:=q4
  rw [this] at q4';cases q4'
theorem ChkOk.comp {scope:ve2}{ys:List Str}{vI:List Nat} (c:ChkOk S scope ys vI) (xs:XS X P w K mg base lvl S Wx):CompOk X scope (zqv S scope ys vI).N ys.length where
 kind:=c.kind
 dis:=c.dis
 names:=c.names
 len:=by
  show (zge _ 0 S.N++ys).length=_
  rw [ja8,zzi,xs.N]
 free:=λ x hx he=>by
  show X.env.scope.names.lookup x.1=_\/X.env.scope.names.lookup x.1=_
  rw [xs.sc];exact c.free x hx he
 kinds:=λ x h=>by
  rcases h with h | h
  ·exact zvq (sc:=X.env.scope) scope.names (.inl rfl) h
  ·exact zvq (sc:=X.env.scope) scope.names (.inr rfl) h
 capt:=λ i x hi e hv=>by
  rw [zya,xs.sc] at hv ⊢
  rw [xs.N] at hi ⊢
  exact c.capt i x hi e hv
theorem ChkOk.xs {scope:ve2}{ys:List Str}{vI:List Nat} (c:ChkOk S scope ys vI) (xs:XS X P w K mg base lvl S Wx) (s2:va3) (H2:Hp) (C:Addr) (fp:List Addr) (pins:List (Addr×Obj)):XS (zqm X s2 H2 scope C (zqv S scope ys vI).N fp pins) P w K mg base lvl (zqv S scope ys vI) W0:=
 ⟨xs.prog,xs.w,xs.K,xs.mg,xs.base,rfl,by show vl8 scope X.env=_;rw [zya,xs.sc];rfl,xs.calm,xs.room,PassesOwn.never,qh9,λ h=>nomatch h⟩
theorem zmx {scope:ve2}{ys:List Str}{vI:List Nat} (i:Nat):(zqv S scope ys vI).alF i=if i < S.N.length then S.alF i else if i < S.N.length + ys.length then vI else []:=by
 unfold Sx.alF zqv
 dsimp only
 rw [ja6]
 by_cases h:i < S.N.length
 ·rw [jc3 (by simpa using h),if_pos h]
  simp [h,Sx.alF,ja6]
 ·rw [jc9 (by simpa using h),if_neg h,jd2]
  simp only [ja4,jf3]
  by_cases h2:i < S.N.length + ys.length
  ·rw [if_pos h2,if_pos (by omega)];rfl
  ·rw [if_neg h2,if_neg (by omega)];rfl
theorem ChkOk.ms' {scope:ve2}{ys:List Str}{vI:List Nat} (c:ChkOk S scope ys vI) (m:MS M K S Wx) (hv:∀ i∈vI,S.msF i=false) (D:Addr):MS (M.comp D S.N.length vI) K (zqv S scope ys vI) W0 where
 W:=rfl
 K:=m.K
 ms:=m.ms
 al:=λ i hi=>by
  rw [zmx]
  show (if i < S.N.length then M.al i else vI)=_
  have hl:(zqv S scope ys vI).N.length=S.N.length + ys.length:=by
   show (zge _ 0 S.N++ys).length=_
   rw [ja8,zzi]
  rw [hl] at hi
  by_cases h:i < S.N.length
  ·rw [if_pos h,if_pos h];exact m.al i h
  ·rw [if_neg h,if_neg h,if_pos hi]
 pn:=λ p hp=>by
  have h:=m.pn p hp
  show p.1 < (zge _ 0 S.N++ys).length
  rw [ja8,zzi]
  omega
 als:=λ i j hj=>by
  have hj':j∈(if i < S.N.length then M.al i else vI):=hj
  show M.Ms j=false
  by_cases h:i < S.N.length
  ·rw [if_pos h] at hj';exact m.als i j hj'
  ·rw [if_neg h] at hj';rw [m.ms];exact hv j hj'
theorem zyf {n:Nat}{iter:Expr}{env:Env}{f:Fx}{vs:List Nat} (h:(∀ a b c,iter≠.Set a b c)):∀ x,vi2 iter env x=pure x:=by
 intro x
 cases iter with
 | Set a b c=>exact absurd rfl (h a b c)
 | _=>rfl
end
section
variable {X:Cx}{P:vb0}{w:vb8}{K:Frag}{mg:Str->Option va2}{base:Heap}{lvl:Nat}{S:Sx}{Wx:St->Nat->Hp->Prop}{M:Fm}{f g:Fx}{vs vs':List Nat}{σ:St}{H:Hp}{Q:VK}
theorem qiw {T:Str}{t:String} (h:tyOf T=some t):t∈isiT/\T∈zvc/\vg4 T=some (.type t)/\(T == ("__debug__" : Str))=false/\T ≠ "__name__" := by
 unfold tyOf at h
 split at h
 ·rename_i e;cases h;rw [e];exact ⟨by decide,by decide +kernel,rfl,by decide +kernel,by decide +kernel⟩
 ·split at h
  ·rename_i e;cases h;rw [e];exact ⟨by decide,by decide +kernel,rfl,by decide +kernel,by decide +kernel⟩
  ·split at h
   ·rename_i e;cases h;rw [e];exact ⟨by decide,by decide +kernel,rfl,by decide +kernel,by decide +kernel⟩
   ·split at h
    ·rename_i e;cases h;rw [e];exact ⟨by decide,by decide +kernel,rfl,by decide +kernel,by decide +kernel⟩
    ·split at h
     ·rename_i e;cases h;rw [e];exact ⟨by decide,by decide +kernel,rfl,by decide +kernel,by decide +kernel⟩
     ·split at h
      ·rename_i e;cases h;rw [e];exact ⟨by decide,by decide +kernel,rfl,by decide +kernel,by decide +kernel⟩
      ·cases h
theorem qmj {x:Str}{o:List (PV×Nat)->Option (PV×Nat)}{e:Expr}{es:List Expr}{fa:Fa}{p pos:Pos} (h:qk6 x=some o) (xs:XS X P w K mg base lvl S Wx) (m:MS M K S Wx) (hb:∀ x∈zvc,mg x=none) (hg:S.glob x=true) (hs:(e::es).all zjq=true) (ha:PA X (e::es) (tL M fa vs)):
  PE X (.Call (.Name x p) (e::es) [] pos) (tE M (zqb o fa) vs):=by
 rw [je2,jb0] at hs
 have h1:va9 (e::es) X.env=(false,eval e X.env)::va9 es X.env:=zqy (zqk hs.1)
 have h2:(vg5 pos (va9 es X.env)).any (·.1)=false:=zkg hs.2
 have hm:∀ x∈zvc,X.mg x=none:=λ x hx=>by rw [xs.mg];exact hb x hx
 unfold qk6 at h
 split at h
 ·rename_i ex;cases h;subst ex;exact qmf (m.k xs) (xs.gl hg) (hm _ (by decide +kernel)) ha h1 h2
 ·split at h
  ·rename_i ex;cases h;subst ex;exact qmk xs.calm (xs.gl hg) (hm _ (by decide +kernel)) ha h1 h2
  ·split at h
   ·rename_i ex;cases h;subst ex;exact qjk xs.calm (xs.gl hg) (hm _ (by decide +kernel)) ha h1 h2
   ·split at h
    ·rename_i ex;cases h;subst ex;exact qjj xs.calm (xs.gl hg) (hm _ (by decide +kernel)) ha h1 h2
    ·split at h
     ·rename_i ex;cases h;subst ex;exact qji (m.k xs) (xs.gl hg) (hm _ (by decide +kernel)) ha h1 h2
     ·split at h
      ·rename_i ex;cases h;subst ex;exact qjl xs.calm (m.k xs) (xs.gl hg) (hm _ (by decide +kernel)) ha h1 h2
      ·cases h
def IwOk (P:vb0) (w:vb8) (K:Frag) (mg:Str->Option va2) (base:Heap) (lvl:Nat) (S:Sx) (it:Expr) (iw:Iw):Prop:=
 (∀ i∈iw.vs,S.msF i=false)/\(∀ a b c,it≠.Set a b c)/\∀ {Wx} X M,XS X P w K mg base lvl S Wx->MS M K S Wx->∀ tg,(match iw with
  | .rng en fa vs=>(en=zqx/\PI X tg it (qg0 (tL M fa vs)))\/(en=zgi/\PI X tg it (qgz (tL M fa vs)))
  | .seq f vs=>PI X tg it (iSeq M.K (tE M f vs))
  | .vw v fa vs=>twOk tg (.vw v fa vs)=true->PI X tg it (iVw v M.K (tL M fa vs)))
theorem qg3 {it:Expr} (g:Good P w K mg base lvl S it f vs) (hs:∀ a b c,it≠.Set a b c):IwOk P w K mg base lvl S it (.seq f vs):=
 ⟨g.1,hs,λ X M xs m tg=>by
  show PI X tg it (iSeq M.K (tE M f vs))
  rw [m.k xs];exact qde (g.2.2 X M xs m).1⟩
theorem zmp {d:Expr->Option D2} (hd:∀ e f vs,d e=some (f,vs)->Good P w K mg base lvl S e f vs) (hset:∀ a b c,d (.Set a b c)=none) (hb:∀ x∈zvc,mg x=none) {it:Expr}{iw:Iw} (h:denI d S it=some iw):IwOk P w K mg base lvl S it iw:=by
 have seq:∀ {it:Expr}{iw:Iw},(match d it with
   | some (f,vs)=>some (Iw.seq f vs)
   | none=>none)=some iw->IwOk P w K mg base lvl S it iw:=λ {it iw} h=>by
  cases e:d it with
  | none=>rw [e] at h;cases h
  | some p=>
   obtain ⟨f,vs⟩:=p
   rw [e] at h;cases h
   exact qg3 (hd _ _ _ e) λ a b c z=>by rw [z,hset] at e;cases e
 unfold denI at h
 split at h
 ·rename_i x p a pos
  split at h
  ·rename_i hc
   obtain ⟨rfl,hg⟩:=hc
   split at h
   ·rename_i fa vs e
    cases h
    have g:=zwj hd _ _ _ e
    refine ⟨λ _ z=>(nomatch z),λ _ _ _ z=>(nomatch z),λ X M xs m tg=>.inl ⟨rfl,?_⟩⟩
    have hs:=g.2.1
    simp only [je2,jn9,jj7] at hs
    exact qdg (xs.gl hg) (by rw [xs.mg];exact hb _ (by decide +kernel)) (g.2.2 X M xs m) (zqy (zqk hs))
   ·cases h
  ·exact seq h
 ·rename_i x p a b pos
  split at h
  ·rename_i hc
   obtain ⟨rfl,hg⟩:=hc
   split at h
   ·rename_i fa vs e
    cases h
    have g:=zwj hd _ _ _ e
    refine ⟨λ _ z=>(nomatch z),λ _ _ _ z=>(nomatch z),λ X M xs m tg=>.inr ⟨rfl,?_⟩⟩
    have hs:=g.2.1
    simp only [je2,jn9,jj7,jb0] at hs
    have s2:va9 [b] X.env=[(false,eval b X.env)]:=zqy (zqk hs.2)
    exact qdf (xs.gl hg) (by rw [xs.mg];exact hb _ (by decide +kernel)) (g.2.2 X M xs m) (by rw [zqy (zqk hs.1),s2]) s2
   ·cases h
  ·split at h
   ·rename_i hc
    obtain ⟨rfl,hg⟩:=hc
    split at h
    ·rename_i fa vs e
     cases h
     have g:=zwj hd _ _ _ e
     refine ⟨g.1,λ _ _ _ z=>(nomatch z),λ X M xs m tg ht=>?_⟩
     have hs:=g.2.1
     simp only [je2,jn9,jj7,jb0] at hs
     have s2:va9 [b] X.env=[(false,eval b X.env)]:=zqy (zqk hs.2)
     rw [m.k xs]
     cases tg with
     | Tuple es k tp=>exact qmz (xs.gl hg) (by rw [xs.mg];exact hb _ (by decide +kernel)) (g.2.2 X M xs m) (by rw [zqy (zqk hs.1),s2]) s2
     | _=>cases ht
    ·cases h
   ·exact seq h
 ·exact seq h
theorem qfr {σ:St}{H:Hp}{Q:Bool->Hp->Prop} (h:∃ M',MS M' K S Wx/\tT M' zqp σ H Q):Q true H:=by
 obtain ⟨M',_,ρ,fps,rep,q⟩:=h
 exact q H fps KD.refl Agr.refl rep
structure CompParts (P:vb0) (w:vb8) (K:Frag) (mg:Str->Option va2) (base:Heap) (lvl:Nat) (S:Sx) (scope:ve2) (tg:Expr) (ys:List Str) (asg:PV->Rho->Option Rho) (it elt:Expr) (ifs:List Expr) (iw:Iw) (t:Fb) (g:Fx) (vE:List Nat):Prop where
 tga:tgA S.N.length tg=some (ys,asg)
 two:twOk tg iw=true
 chk:ChkOk S scope ys iw.vs
 iwo:IwOk P w K mg base lvl S it iw
 elt:Good P w K mg base lvl (zqv S scope ys iw.vs) elt g vE
 ifs:∀ {Wx} X M,XS X P w K mg base lvl (zqv S scope ys iw.vs) Wx->MS M K (zqv S scope ys iw.vs) Wx->PTs X ifs (λ σ H Q=>∃ M',MS M' K (zqv S scope ys iw.vs) Wx/\tT M' t σ H Q)
theorem qe6 {scope:ve2}{tg:Expr}{ys:List Str}{asg:PV->Rho->Option Rho}{it elt:Expr}{ifs:List Expr}{iw:Iw}{t:Fb}{vE:List Nat} (c:CompParts P w K mg base lvl S scope tg ys asg it elt ifs iw t g vE):∀ i∈iw.vs++vE.filter (λ i=>decide (i < S.N.length)),S.msF i=false:=
 zxw c.iwo.1 λ i hi=>c.elt.1 i (jf7.mp hi).1
theorem zfn {X':Cx}:∀ {es:List Expr}{ys:List Str}{n:Nat},zmf es=some ys->X'.N.Nodup->(∀ j y,ys[j]?=some y->X'.N[n + j]?=some y)->(∀ y∈ys,Loc X'.env.scope y/\(X'.fn y=true\/X'.env.scope.names.lookup y=some .local))->PGs X' es (zpi (jk0 n ys.length))/\(vd2 es X'.env).length=ys.length/\(vd2 es X'.env).findIdx? (·.1)=none
 | [],ys,n,h,_,_,_=>by cases h;exact ⟨qdh,rfl,rfl⟩
 | e::es,ys,n,h,hN,hi,hl=>by
  unfold zmf at h
  split at h
  ·cases ‹_::_=[]›
  ·rename_i x px r heq
   cases heq
   obtain ⟨zs,h2,rfl⟩:=jb7.mp h
   have hx:=hl x ja3
   obtain ⟨h1,h3,h4⟩:=zfn (n:=n + 1) h2 hN (λ j y e=>by rw [show n + 1 + j=n + (j + 1) by omega];exact hi (j + 1) y (by simpa using e)) λ y hy=>hl y (ja1 _ hy)
   rw [jb2,jo4]
   refine ⟨qao (zyc hN (by have:=hi 0 x rfl;simpa using this) hx.1 hx.2) h1 rfl,by rw [vd2,jb2,h3] <;> (intros;contradiction),?_⟩
   rw [vd2,jk8,h4] <;> first | rfl | (intros;contradiction)
  ·cases h
theorem zpo {scope:ve2}{tg:Expr}{ys:List Str}{asg:PV->Rho->Option Rho}{pos:Pos}{it elt:Expr}{ifs:List Expr}{iw:Iw}{t:Fb}{vE:List Nat} (c:CompParts P w K mg base lvl S scope tg ys asg it elt ifs iw t g vE) (xs:XS X P w K mg base lvl S Wx) (m:MS M K S Wx):
  ∃ wi gg,PI X tg it wi/\CompOk X scope (zqv S scope ys iw.vs).N ys.length/\(∀ s2 H2 C fp pins,PG (zqm X s2 H2 scope C (zqv S scope ys iw.vs).N fp pins) tg gg) /\
   (∀ s2 H2 C fp pins,PTs (zqm X s2 H2 scope C (zqv S scope ys iw.vs).N fp pins) ifs (λ σ H Q=>∃ M',MS M' K (zqv S scope ys iw.vs) W0/\tT M' t σ H Q)) /\
   (∀ s2 H2 C fp pins,PE (zqm X s2 H2 scope C (zqv S scope ys iw.vs).N fp pins) elt (λ σ H Q=>∃ M',MS M' K (zqv S scope ys iw.vs) W0/\tE M' g vE σ H Q)) /\
   ∀ σ H Q,σ.length=S.N.length->tE M (qfh iw ys.length asg t g) (iw.vs++vE.filter (λ i=>decide (i < S.N.length))) σ H Q ->
    zha ys.length wi gg (λ σ H Q=>∃ M',MS M' K (zqv S scope ys iw.vs) W0/\tT M' t σ H Q) (λ σ H Q=>∃ M',MS M' K (zqv S scope ys iw.vs) W0/\tE M' g vE σ H Q) σ H Q:=by
 have hvI:=m.v c.iwo.1
 have hP:∀ D,MS (M.comp D S.N.length iw.vs) K (zqv S scope ys iw.vs) W0:=λ D=>c.chk.ms' m c.iwo.1 D
 have hvE:∀ i∈vE,M.Ms i=false:=λ i hi=>by rw [m.ms];exact c.elt.1 i hi
 have hvo:∀ i,i∈vE->i < S.N.length->i∈iw.vs++vE.filter (λ i=>decide (i < S.N.length)):=λ i h1 h2=>ja2 _ (jf7.mpr ⟨h1,by simpa using h2⟩)
 have hvo2:=m.v (qe6 c)
 have bd:∀ D i,S.N.length<=i->Bd (M.comp D S.N.length iw.vs) iw.vs i:=λ D i hi=>⟨by
   show M.Ms i=false
   rw [m.ms]
   unfold Sx.msF
   cases e:S.ms.contains i with
   | false=>rfl
   | true=>exact absurd (c.chk.ms _ (by simpa using e)) (by omega),⟨λ _=>by have:=c.chk.pos;omega,λ p hp=>by have:=m.pn p hp;omega⟩,if_neg (by omega),(hP D).als⟩
 have hix:∀ j y,ys[j]?=some y->(zqv S scope ys iw.vs).N[S.N.length + j]?=some y:=λ j y e=>by
  show (zge _ 0 S.N++ys)[S.N.length + j]?=some y
  rw [jc9 (by rw [zzi];omega),zzi]
  simpa using e
 have hloc:∀ s2 H2 C fp pins,∀ y∈ys,Loc (zqm X s2 H2 scope C (zqv S scope ys iw.vs).N fp pins).env.scope y/\((zqm X s2 H2 scope C (zqv S scope ys iw.vs).N fp pins).fn y=true\/(zqm X s2 H2 scope C (zqv S scope ys iw.vs).N fp pins).env.scope.names.lookup y=some .local):=λ s2 H2 C fp pins y hy=>by
  have e:(zqm X s2 H2 scope C (zqv S scope ys iw.vs).N fp pins).env.scope=zxr scope S.sc:=by
   show vl8 scope X.env=_
   rw [zya,xs.sc]
  rw [e]
  rcases c.chk.loc y hy with z | z
  ·exact ⟨.inl z,.inr z⟩
  ·exact ⟨.inr z.1,.inl (by show scope.names.contains (y,NameKind.cell)=true;simpa using z.2)⟩
 have hpe:∀ s2 H2 C fp pins,PE (zqm X s2 H2 scope C (zqv S scope ys iw.vs).N fp pins) elt (λ σ H Q=>∃ M',MS M' K (zqv S scope ys iw.vs) W0/\tE M' g vE σ H Q):=λ s2 H2 C fp pins pi s σ H Q I ⟨M',m',q⟩=>
  (c.elt.2.2 _ M' (c.chk.xs xs s2 H2 C fp pins) m').1 pi s σ H Q I q
 have hpt:∀ s2 H2 C fp pins,PTs (zqm X s2 H2 scope C (zqv S scope ys iw.vs).N fp pins) ifs (λ σ H Q=>∃ M',MS M' K (zqv S scope ys iw.vs) W0/\tT M' t σ H Q):=λ s2 H2 C fp pins=>c.ifs _ (M.comp 0 S.N.length iw.vs) (c.chk.xs xs s2 H2 C fp pins) (hP 0)
 have tgp:∃ is gg,(∀ i∈is,S.N.length<=i)/\(∀ D,GOk (M.comp D S.N.length iw.vs) iw.vs is gg asg)/\∀ s2 H2 C fp pins,PG (zqm X s2 H2 scope C (zqv S scope ys iw.vs).N fp pins) tg gg:=by
  have ht:=c.tga
  unfold tgA at ht
  split at ht
  ·rename_i y py
   cases ht
   refine ⟨[S.N.length],zvo S.N.length,λ i hi=>by rw [jb6.mp hi];exact jb4 _,λ D=>qeo (bd D _ (jb4 _)),λ s2 H2 C fp pins=>?_⟩
   exact zyc c.chk.nd (hix 0 y rfl) (hloc s2 H2 C fp pins y (by simp)).1 (hloc s2 H2 C fp pins y (by simp)).2
  ·rename_i es k tp
   obtain ⟨zs,h2,e⟩:=jb7.mp ht
   cases e
   refine ⟨jk0 S.N.length ys.length,gTup M.K ys.length (zpi (jk0 S.N.length ys.length)),λ i hi=>(jn7.mp hi).1,λ D=>?_,λ s2 H2 C fp pins=>?_⟩
   ·have:=qko (M:=M.comp D S.N.length iw.vs) (al:=iw.vs) (is:=jk0 S.N.length ys.length) λ i hi=>bd D i (jn7.mp hi).1
    rw [List.length_range'] at this
    exact this
   ·obtain ⟨h1,h3,h4⟩:=zfn (X':=zqm X s2 H2 scope C (zqv S scope ys iw.vs).N fp pins) (n:=S.N.length) h2 c.chk.nd hix (hloc s2 H2 C fp pins)
    have:=qdi (X:=zqm X s2 H2 scope C (zqv S scope ys iw.vs).N fp pins) (pos:=tp) (k:=k) xs.calm h1 h3 h4
    have e:(zqm X s2 H2 scope C (zqv S scope ys iw.vs).N fp pins).K=M.K:=(m.k xs).symm
    rw [e] at this
    exact this
  ·cases ht
 obtain ⟨is,gg,his,hg,hpg⟩:=tgp
 have hw:=c.iwo.2.2 X M xs m tg
 have htw:=c.two
 cases iw with
 | rng en fa vs=>
  rcases hw with ⟨rfl,hw⟩ | ⟨rfl,hw⟩
  ·exact ⟨_,gg,hw,c.chk.comp xs,hpg,hpt,hpe,λ σ H Q hl hq=>qfw hl hP m.als hvI hvE his hg hvo hvo2 hq⟩
  ·exact ⟨_,gg,hw,c.chk.comp xs,hpg,hpt,hpe,λ σ H Q hl hq=>qfv hl hP m.als hvI hvE his hg hvo hvo2 hq⟩
 | seq f vs=>exact ⟨_,gg,hw,c.chk.comp xs,hpg,hpt,hpe,λ σ H Q hl hq=>qfu hl hP m.als hvI hvE his hg hvo hvo2 hq⟩
 | vw v fa vs=>exact ⟨_,gg,hw htw,c.chk.comp xs,hpg,hpt,hpe,λ σ H Q hl hq=>qft hl hP m.als hvI hvE his hg hvo hvo2 hq⟩
theorem qh8 {e:Expr}{t t':TE} (h:PE X e t) (i:∀ σ H Q,σ.length=X.N.length->t' σ H Q->t σ H Q):PE X e t':=λ pins s σ H Q I q=>h pins s σ H Q I (i σ H Q I.len q)
theorem qmy {e:Stmt}{t t':TS} (h:PS X e t) (i:∀ D σ H,σ.length=X.N.length->t' D σ H->t D σ H):PS X e t':=λ pins s σ H D I q=>h pins s σ H D I (i D σ H I.len q)
theorem qem {scope:ve2}{tg:Expr}{ys:List Str}{asg:PV->Rho->Option Rho}{pos:Pos}{it elt:Expr}{ifs:List Expr}{iw:Iw}{t:Fb}{vE:List Nat} (c:CompParts P w K mg base lvl S scope tg ys asg it elt ifs iw t g vE):Good P w K mg base lvl S (.ListComp elt [⟨tg,it,ifs,0⟩] scope pos) (qfh iw ys.length asg t g) (iw.vs++vE.filter (λ i=>decide (i < S.N.length))):=by
 refine zqt (qe6 c) rfl (λ _ _=>rfl) λ X M xs m=>?_
 obtain ⟨wi,gg,h1,h2,h3,h4,h5,h6⟩:=zpo (pos:=pos) c xs m
 exact qh8 (qdk h2 xs.calm h1 h3 h4 h5 (zyf (n:=0) (f:=g) (vs:=[]) c.iwo.2.1)) λ σ H Q hl q=>h6 σ H Q (by rw [hl,xs.N]) q
theorem zgj {d:Expr->Option D2} (hd:∀ e f vs,d e=some (f,vs)->Good P w K mg base lvl S e f vs) {ifs:List Expr}{t:Fb} (h:qbc d ifs=some t) (X:Cx) (M:Fm) (xs:XS X P w K mg base lvl S Wx) (m:MS M K S Wx):PTs X ifs (λ σ H Q=>∃ M',MS M' K S Wx/\tT M' t σ H Q):=by
 unfold qbc at h
 split at h
 ·cases h
  intro pins s σ H Q I q
  exact qjs pins s σ H Q I (qfr q)
 ·obtain ⟨p,e,rfl⟩:=jb7.mp h
  obtain ⟨f,vs⟩:=p
  have g:=hd _ _ _ e
  intro pins s σ H Q I ⟨M',m',q⟩
  exact qjr (g.2.2 X M' xs m').2 pins s σ H Q I q
 ·cases h
theorem zmn (n:Nat) (S:Sx) (a:List Expr) (b:Nat) (c:Pos):den n S (.Set a b c)=none:=by
 cases n <;> rfl
theorem zpc {e:Expr} (h:zjq e=true) (env:Env) (cpos:Pos):((vg5 cpos (va9 [e] env)).all (λ x=>!x.1) && (backToKw cpos (keywordEach [] env)).all (λ x=>x.1.isSome)
   && decide (([e]:List Expr).length + ([]:List Keyword).length + (if ([]:List Keyword).isEmpty then 0 else 1) < 30))=true:=by
 have:va9 [e] env=[(false,eval e env)]:=zqy (zqk h)
 rw [this]
 rfl
theorem zgh {T:Str}{c:Nat} (h:XN.findIdx? (·== T)=some c):XN[c]?=some T:=by
 obtain ⟨hlt,h1,_⟩:=ji3.mp h
 rw [jb9 hlt]
 exact congrArg some (eq_of_beq h1)
theorem qbf {T:Str}{n:Nat} (GX:GX K mg S.xc) (hb:∀ x∈zvc,mg x=none) (h:qhl S T=some n) (xs:XS X P w K mg base lvl S Wx):xKit X.K=true/\∃ cv,(∀ p2,PE X (.Name T p2) (tC cv))/\∀ u,RelV cv u->clsV X.K n u=true:=by
 unfold qhl at h
 split at h
 ·rename_i hc
  obtain ⟨hg,hx⟩:=hc
  obtain ⟨_,hk,hcs⟩:=GX hx
  refine ⟨by rw [xs.K];exact hk,?_⟩
  split at h
  ·rename_i eT
   subst eT
   cases h
   refine ⟨.ty "ValueError",λ p2=>qdl (xs.gl hg) (by rw [xs.mg];exact hb _ (by decide +kernel)) (u:=.type "ValueError") rfl rfl (by decide) (by decide),λ u r=>?_⟩
   cases r
   unfold clsV
   rfl
  ·split at h
   ·rename_i hc
    split at h
    ·rename_i hm
     cases h
     obtain ⟨x',C,h1,h2,h3,h4⟩:=hcs n (by simpa using hm)
     have ex:x'=T:=by
      have:=zgh hc
      rw [h1] at this
      exact Option.some.inj this
     subst ex
     refine ⟨.ref C,λ p2=>qjz (xs.gl hg) (by rw [xs.mg];exact h3) rfl h4,λ u r=>?_⟩
     cases r
     unfold clsV
     rw [xs.K,h2]
     simp
    ·cases h
   ·cases h
 ·cases h
theorem zgm (GX:GX K mg S.xc) (hb:∀ x∈zvc,mg x=none) (xs:XS X P w K mg base lvl S Wx):∀ {es:List Expr}{ns:List Nat},qbg S es=some ns->es≠[]->xKit X.K=true/\∃ cvs,cvs.length=es.length/\PA X es (tVs cvs)/\∀ us,Vals cvs us->zbd X.K ns us=true
 | [],_,_,hn=>absurd rfl hn
 | e::r,ns,h,_=>by
  unfold qbg at h
  split at h
  ·rename_i T ds h1 h2
   obtain ⟨n,h3,rfl⟩:=jb7.mp h
   obtain ⟨p2,rfl⟩:=zzg h1
   obtain ⟨hk,cv,c1,c2⟩:=qbf GX hb h3 xs
   refine ⟨hk,?_⟩
   have st:va9 (Expr.Name T p2::r) X.env=(false,eval (.Name T p2) X.env)::va9 r X.env:=rfl
   by_cases hr:r=[]
   ·subst hr
    cases h2
    refine ⟨[cv],rfl,λ a b c d e f g h=>(zxi (c1 p2) zzy st) a b c d e f g h,λ us v=>?_⟩
    cases v with
    | cons r rr=>
     cases rr
     unfold zbd
     rw [c2 _ r]
     rfl
   ·obtain ⟨_,cvs,l1,pa,l2⟩:=zgm GX hb xs h2 hr
    refine ⟨cv::cvs,by rw [jb2,jb2,l1],λ a b c d e f g h=>(zxi (c1 p2) pa st) a b c d e f g h,λ us v=>?_⟩
    cases v with
    | cons r rr=>
     unfold zbd
     rw [c2 _ r,l2 _ rr]
     rfl
  ·cases h
theorem zjz (GX:GX K mg S.xc) (G:GS P w K mg base lvl S.Γ) (Gm:GSm P w K mg base lvl S.Γm):∀ (n:Nat) (S':Sx) (e:Expr) (f:Fx) (vs:List Nat),S'.Γ=S.Γ->S'.Γm=S.Γm->S'.xc=S.xc->(∀ i,∀ j∈S'.alF i,S'.msF j=false)->den n S' e=some (f,vs)->Good P w K mg base lvl S' e f vs:=by
 intro n
 induction n with
 | zero=>intro S' e f vs _ _ _ _ h;cases h
 | succ n ih=>
  intro S' e f vs hΓ hΓm hX hS h
  have hd:∀ e f vs,den n S' e=some (f,vs)->Good P w K mg base lvl S' e f vs:=λ e f vs h=>ih S' e f vs hΓ hΓm hX hS h
  replace h:zzq (den n) S' e=some (f,vs):=h
  unfold zzq at h
  split at h
  ·unfold denC at h
   split at h
   ·cases h;exact zqt (λ _ z=>(nomatch z)) rfl (λ _ _=>rfl) λ X M xs m=>zqn zfo λ σ H Q q=>zjh (λ K H Z=>by rw [Own];exact ⟨rfl,rfl⟩) q
   ·cases h;exact zqt (λ _ z=>(nomatch z)) rfl (λ _ _=>rfl) λ X M xs m=>zqn qo6 λ σ H Q q=>zjh (λ K H Z=>by rw [Own];exact ⟨rfl,rfl⟩) q
   ·cases h;exact zqt (λ _ z=>(nomatch z)) rfl (λ _ _=>rfl) λ X M xs m=>zqn qm1 λ σ H Q q=>zjh (λ K H Z=>by rw [Own];exact ⟨rfl,rfl⟩) q
   ·cases h;exact zqt (λ _ z=>(nomatch z)) rfl (λ _ _=>rfl) λ X M xs m=>zqn qh6 λ σ H Q q=>zjh (λ K H Z=>by rw [Own];exact ⟨rfl,rfl⟩) q
   ·cases h
  ·split at h
   ·rename_i i hi
    split at h
    ·cases h
    ·rename_i hm
     cases h
     refine zqt (λ j hj=>?_) rfl (λ _ _=>rfl) λ X M xs m=>qh8 (xs.var hi) λ σ H Q hl q=>?_
     ·rcases jb3.mp hj with z | z
      ·rw [z];simpa using hm
      ·exact hS i j z
     ·have hlt:i < S'.N.length:=by
       unfold Sx.slot at hi
       split at hi
       ·exact (ja7.mp (zjd hi)).1
       ·cases hi
      rw [<- m.al i hlt] at q
      exact qcq q
   ·cases h
  ·split at h
   ·rename_i f1 v1 f2 v2 o h1 h2 h3
    cases h
    have g1:=hd _ _ _ h1
    have g2:=hd _ _ _ h2
    exact zqt (zxw g1.1 g2.1) rfl (λ _ _=>rfl) λ X M xs m=>qox h3 (m.v g1.1) (m.k xs) (g1.2.2 X M xs m).1 (g2.2.2 X M xs m).1
   ·cases h
  ·split at h
   ·split at h
    ·rename_i f1 v1 h1
     cases h
     have g1:=hd _ _ _ h1
     exact zqt g1.1 rfl (λ _ _=>rfl) λ X M xs m=>qmc (g1.2.2 X M xs m).1
    ·cases h
   ·split at h
    ·rename_i f1 v1 h1
     cases h
     exact qg4 (hd _ _ _ h1)
    ·cases h
   ·cases h
  ·rename_i op es pos
   split at h
   ·have g:=zgk hd (pos:=pos) _ _ _ h
    exact ⟨g.1,rfl,λ X M xs m=>⟨(g.2 X M xs m).1,(g.2 X M xs m).2.pt⟩⟩
   ·have g:=qbb hd (pos:=pos) _ _ _ h
    exact ⟨g.1,rfl,λ X M xs m=>⟨(g.2 X M xs m).1,(g.2 X M xs m).2.pt⟩⟩
  ·unfold qio at h
   split at h
   ·split at h
    ·split at h
     ·rename_i f1 v1 f2 v2 o h1 h2 h3
      cases h
      exact qg5 h3 (hd _ _ _ h1) (hd _ _ _ h2)
     ·cases h
    ·cases h
   ·split at h
    ·split at h
     ·rename_i f1 v1 f2 v2 f3 v3 p q h1 h2 h3 h4 h5
      cases h
      exact qb3 h4 h5 (hd _ _ _ h1) (hd _ _ _ h2) (hd _ _ _ h3)
     ·cases h
    ·cases h
   ·cases h
  ·split at h
   ·rename_i fa v h1
    cases h
    have g:=zwj hd _ _ _ h1
    exact zqt g.1 rfl (λ _ _=>rfl) λ X M xs m=>qme (g.2.2 X M xs m)
   ·cases h
  ·split at h
   ·rename_i fa v h1
    cases h
    have g:=zwj hd _ _ _ h1
    exact zqt g.1 rfl (λ _ _=>rfl) λ X M xs m=>qmb (g.2.2 X M xs m)
   ·cases h
  ·split at h
   ·split at h
    ·cases h
     exact zqt (λ _ z=>(nomatch z)) rfl (λ _ _=>rfl) λ X M xs m=>qmh
    ·cases h
   ·cases h
  ·rename_i a b pos
   unfold qii at h
   split at h
   ·rename_i lo hi st p2
    unfold qij at h
    split at h
    ·split at h
     ·rename_i f1 v1 f2 v2 h1 h2
      cases h
      have g1:=hd _ _ _ h1
      have g2:=hd _ _ _ h2
      exact zqt g1.1 rfl (λ _ _=>rfl) λ X M xs m=>zqn (qap (qcy.or qhz) (g1.2.2 X M xs m).1 qdd (qdc (g2.2.2 X M xs m).1)) λ σ H Q q=>ql7 (lo:=none) (hi:=some (f2,v2)) (m.v g1.1) (m.k xs) q
     ·cases h
    ·split at h
     ·rename_i f1 v1 f2 v2 h1 h2
      cases h
      have g1:=hd _ _ _ h1
      have g2:=hd _ _ _ h2
      exact zqt g1.1 rfl (λ _ _=>rfl) λ X M xs m=>zqn (qap (qcy.or qhz) (g1.2.2 X M xs m).1 (qdc (g2.2.2 X M xs m).1) qdd) λ σ H Q q=>ql7 (lo:=some (f2,v2)) (hi:=none) (m.v g1.1) (m.k xs) q
     ·cases h
    ·cases h
   ·split at h
    ·rename_i x i hx hi
     obtain ⟨px,rfl⟩:=zzg hx
     obtain ⟨k,pi,rfl⟩:=qef hi
     split at h
     ·rename_i j hj
      split at h
      ·cases h
       exact zqt (λ _ z=>(nomatch z)) rfl (λ _ _=>rfl) λ X M xs m=>qoy xs hj (m.k xs)
      ·rename_i hm
       cases h
       have hlt:j < S'.N.length:=by
        unfold Sx.slot at hj
        split at hj
        ·exact (ja7.mp (zjd hj)).1
        ·cases hj
       have hv:∀ i∈j::S'.alF j,S'.msF i=false:=λ i hi=>by
        rcases jb3.mp hi with z | z
        ·rw [z];simpa using hm
        ·exact hS j i z
       refine zqt (zxw hv λ _ z=>(nomatch z)) rfl (λ _ _=>rfl) λ X M xs m=>qh0 (m.v hv) (m.k xs) (zyb rfl) (zqn (xs.var hj) λ σ H Q q=>?_) (zqn zfo λ σ H Q q=>zjh (λ K H Z=>by rw [Own];exact ⟨rfl,rfl⟩) q)
       rw [<- m.al j hlt] at q
       exact qcq q
     ·cases h
    ·split at h
     ·rename_i f1 v1 f2 v2 h1 h2
      split at h
      ·rename_i hn
       cases h
       have g1:=hd _ _ _ h1
       have g2:=hd _ _ _ h2
       exact zqt (zxw g1.1 g2.1) rfl (λ _ _=>rfl) λ X M xs m=>qh0 (m.v g1.1) (m.k xs) (zyb hn) (g1.2.2 X M xs m).1 (g2.2.2 X M xs m).1
      ·cases h
     ·cases h
  ·rename_i fn args ks pos
   split at h
   ·split at h
    ·rename_i x hfn
     obtain ⟨p,rfl⟩:=zzg hfn
     split at h
     ·rename_i hx
      subst hx
      split at h
      ·rename_i e c
       unfold qim at h
       split at h
       ·rename_i f1 v1 h1
        split at h
        ·rename_i hgi
         have g1:=hd _ _ _ h1
         split at h
         ·rename_i T pT
          have s2:∀ {X:Cx},va9 [Expr.Name T pT] X.env=[(false,eval (.Name T pT) X.env)]:=rfl
          split at h
          ·rename_i t h2
           split at h
           ·rename_i hg
            cases h
            obtain ⟨t1,t2,t3,t4,t5⟩:=qiw h2
            refine zqt g1.1 rfl (λ _ _=>rfl) λ X M xs m=>?_
            exact qmg (x:=T) t1 (m.k xs) (g1.2.2 X M xs m).1 (xs.gl hgi) (by rw [xs.mg];exact G.1 _ (by decide +kernel)) (qdl (xs.gl hg) (by rw [xs.mg];exact G.1 _ t2) t3 rfl t5 t4) (by rw [zqy (zqk g1.2.1),s2]) s2
           ·cases h
          ·obtain ⟨n,h3,e2⟩:=jb7.mp h
           cases e2
           refine zqt g1.1 rfl (λ _ _=>rfl) λ X M xs m=>?_
           obtain ⟨hk,cv,c1,c2⟩:=qbf (by rw [hX];exact GX) G.1 h3 xs
           exact qjm hk (m.k xs) (g1.2.2 X M xs m).1 (xs.gl hgi) (by rw [xs.mg];exact G.1 _ (by decide +kernel)) (c1 pT) c2 (by rw [zqy (zqk g1.2.1),s2]) s2
         ·rename_i es k p2
          split at h
          ·rename_i hl
           obtain ⟨ns,h3,e2⟩:=jb7.mp h
           cases e2
           obtain ⟨hl,hne⟩:=hl
           refine zqt g1.1 rfl (λ _ _=>rfl) λ X M xs m=>?_
           have s2:va9 [Expr.Tuple es k p2] X.env=[(false,eval (.Tuple es k p2) X.env)]:=rfl
           obtain ⟨hk,cvs,l1,pa,l2⟩:=zgm (by rw [hX];exact GX) G.1 xs h3 hne
           exact qf0 hk (m.k xs) (g1.2.2 X M xs m).1 (xs.gl hgi) (by rw [xs.mg];exact G.1 _ (by decide +kernel)) pa (by rw [l1];exact jd3 hl (by decide)) l2 (by rw [zqy (zqk g1.2.1),s2]) s2
          ·cases h
         ·cases h
        ·cases h
       ·cases h
      ·cases h
     ·split at h
      ·rename_i o ho
       split at h
       ·rename_i e es
        split at h
        ·rename_i fa v h1
         split at h
         ·rename_i hg
          cases h
          have g:=zwj hd _ _ _ h1
          exact zqt g.1 rfl (λ _ _=>rfl) λ X M xs m=>qmj ho xs m G.1 hg g.2.1 (g.2.2 X M xs m)
         ·cases h
        ·cases h
       ·cases h
      ·split at h
       ·rename_i _ _ _ _ nn F hF
        split at h
        ·rename_i e es
         split at h
         ·rename_i fa v h1
          split at h
          ·rename_i hg
           cases h
           have g:=zwj hd _ _ _ h1
           rw [hΓ] at hF
           obtain ⟨d1,d2,fa',fd,ps,d3,d4,d5,d6,d7⟩:=G.2 _ _ _ _ hF
           refine zqt g.1 rfl (λ _ _=>rfl) λ X M xs m=>?_
           have hs:=g.2.1
           rw [je2,jb0] at hs
           obtain ⟨xp,xw,xK,xm,xb,_,_,_,xr,_⟩:=id xs
           subst xp xw xK xm xb
           have mk:M.K=X.K:=m.K
           have hps:=xs.ps
           rw [<- m.W] at hps
           refine zqn (qgg d7 xr (xs.gl hg) d3 d4 d5 hps (g.2.2 X M xs m) d1 (zqy (zqk hs.1)) (zkg hs.2)) λ σ H Q q=>?_
           have:=qjd d2 q
           rw [mk] at this
           exact this
          ·cases h
         ·split at h
          ·rename_i y py
           split at h
           ·rename_i i fa v h0 h1
            split at h
            ·rename_i hg
             cases h
             have g:=zwj hd _ _ _ h1
             rw [hΓ] at hF
             obtain ⟨d1,d2,fa',fd,ps,d3,d4,d5,d6,d7⟩:=G.2 _ _ _ _ hF
             refine zqt (λ _ z=>(nomatch z)) rfl (λ _ _=>rfl) λ X M xs m=>?_
             obtain ⟨xp,xw,xK,xm,xb,_,_,_,xr,_⟩:=id xs
             subst xp xw xK xm xb
             have mk:M.K=X.K:=m.K
             refine zqn (zhc (E:=E0) (dvs:=[]) d7 xr (xs.gl hg.1) d3 d4 d5 .nil qj2 (zxi (xs.var h0) (g.2.2 X M xs m) rfl) d1 rfl (zkg g.2.1)) λ σ H Q q=>?_
             have:=qct (E:=E0) (vs:=v) (by rw [m.ms];exact hg.2) d2 q
             rw [mk] at this
             exact this
            ·cases h
           ·cases h
          ·cases h
        ·cases h
       ·rename_i _ _ _ _ nn F hF
        split at h
        ·rename_i y py es
         split at h
         ·rename_i i fa v h0 h1
          split at h
          ·rename_i hg
           cases h
           have g:=zwj hd _ _ _ h1
           rw [hΓ] at hF
           obtain ⟨d1,d2,fa',fd,ps,d3,d4,d5,d6,d7⟩:=G.2 _ _ _ _ hF
           refine zqt g.1 rfl (λ _ _=>rfl) λ X M xs m=>?_
           obtain ⟨xp,xw,xK,xm,xb,_,_,_,xr,_⟩:=id xs
           subst xp xw xK xm xb
           have mk:M.K=X.K:=m.K
           refine zqn (zhc (E:=E0) (dvs:=[]) d7 xr (xs.gl hg.1) d3 d4 d5 .nil qj2 (zxi (xs.var h0) (g.2.2 X M xs m) rfl) d1 rfl (zkg g.2.1)) λ σ H Q q=>?_
           have:=qcv (E:=E0) m.als (m.v g.1) (by rw [m.ms];exact hg.2) d2 q
           rw [mk] at this
           exact this
          ·cases h
         ·cases h
        ·cases h
       ·split at h
        ·rename_i F hF
         split at h
         ·rename_i y py
          split at h
          ·rename_i i h0
           split at h
           ·rename_i hg
            cases h
            rw [hΓm] at hF
            obtain ⟨d1,fa',fd,ps,d3,d4,d5,d7⟩:=Gm _ _ hF
            refine zqt (λ _ z=>(nomatch z)) rfl (λ _ _=>rfl) λ X M xs m=>?_
            obtain ⟨xp,xw,xK,xm,xb,_,_,_,xr,_⟩:=id xs
            subst xp xw xK xm xb
            have mk:M.K=X.K:=m.K
            refine zqn (zhc (E:=E0) (dvs:=[]) d7 xr (xs.gl hg.1) d3 d4 d5 .nil qj2 (zxi (xs.var h0) zzy rfl) d1 rfl rfl) λ σ H Q q=>?_
            have:=qcu (E:=E0) m.als (by rw [m.ms];exact hg.2) q
            rw [mk] at this
            exact this
           ·cases h
          ·cases h
         ·cases h
        ·cases h
    ·cases h
   ·cases h
  ·rename_i elt gs scope pos
   split at h
   ·rename_i tg it ifs hgs
    have hgs:=qkn hgs
    subst hgs
    split at h
    rotate_left
    ·cases h
    rename_i ys asg iw ht hi
    split at h
    ·rename_i hc
     split at h
     ·rename_i t g vE h1 h2
      cases h
      have ck:=qiq hc.1
      have giw:=zmp hd (zmn n S') G.1 hi
      have hS2:∀ i,∀ j∈(zqv S' scope ys iw.vs).alF i,(zqv S' scope ys iw.vs).msF j=false:=λ i j hj=>by
       rw [zmx] at hj
       show S'.msF j=false
       split at hj
       ·exact hS i j hj
       ·split at hj
        ·exact giw.1 j hj
        ·cases hj
      have hd2:∀ e f vs,den n (zqv S' scope ys iw.vs) e=some (f,vs)->Good P w K mg base lvl (zqv S' scope ys iw.vs) e f vs:=λ e f vs h=>ih _ e f vs hΓ hΓm hX hS2 h
      exact qem ⟨ht,hc.2,ck,giw,hd2 _ _ _ h2,zgj hd2 h1⟩
     ·cases h
    ·cases h
   ·cases h
  ·cases h
end
section
variable {is:List Nat}{M:Fm}{ρ ρ':Rho}{σ σ':St}{H H' H'':Hp}{fps fps' fps'':Fps}{vs vs':List Nat}
def sNo:Fs:=λ _=>.no
theorem qci {t:TS}{D:Ends} (hq:tS M sNo D σ H):t D σ H:=by
 obtain ⟨ρ,fps,rep,q⟩:=hq
 exact q.elim
def sUnp (asg:PV->Rho->Option Rho) (f:Fx) (vs:List Nat):Fs:=λ ρ=>match f ρ with
 | .ok (x,d,ρ1)=>(match asg x (zqr d vs ρ1) with
  | some ρ2=>.nx ρ2
  | none=>.no)
 | .exc c=>.exc c
 | .no=>.no
theorem qlq {g:TG}{asg:PV->Rho->Option Rho}{f:Fx}{D:Ends} (hal:∀ i,M.al i=[]) (hv:∀ i∈vs,M.Ms i=false) (hg:GOk M [] is g asg) (hq:tS M (sUnp asg f vs) D σ H):tAsg (tE M f vs) g D σ H:=by
 obtain ⟨ρ,fps,rep,q⟩:=hq
 refine ⟨ρ,fps,rep,?_⟩
 unfold sUnp at q
 cases ef:f ρ with
 | no=>rw [ef] at q;exact q
 | exc c=>rw [ef] at q;exact λ H' fps' k=>q _ H' fps' k.ks
 | ok p=>
  obtain ⟨x,d,ρ1⟩:=p
  rw [ef] at q
  intro v H1 fps1 f1 k1 g1 rep1 o1 t1
  obtain ⟨fps2,k2,r2,o2⟩:=Rep.seen rep k1 g1 rep1 o1 t1 hal hv
  dsimp only at q
  cases ea:asg x (zqr d vs ρ1) with
  | none=>rw [ea] at q;exact q.elim
  | some ρ2=>
   rw [ea] at q
   refine hg x v _ σ H1 fps2 ρ2 _ r2 (o2.weak λ a h=>h.zf) ea λ σ' fps' s1 _ _ r'=>q σ' H1 fps' (k2.trans ⟨λ _ _ h _=>h,λ _ h=>h,λ j a ha=>.inl ⟨j,s1 j a ha⟩⟩) r'
theorem Rep.change {i:Nat}{x x':PV}{d d':Nat}{v:V}{f':List Addr} (hal:∀ i,M.al i=[]) (r:Rep M ρ σ H fps) (hi:ρ[i]?=some (some (x,d))) (hσ:σ[i]?=some (some v)) (k:Keep (λ a=>a∈fps i) H H') (dm:∀ a,H a≠none->H' a≠none) (hs:∀ b∈f',b∈fps i)
  (hm:M.Ms i=true->d'=om) (o:Own M.K H' (Zf M (λ j=>if j=i then f' else fps j)) x' d' v f'):Rep M (ρ.set i (some (x',d'))) σ H' (λ j=>if j=i then f' else fps j):=by
 have hlen:i < ρ.length:=(ja7.mp hi).1
 have inI:∀ j,∀ b∈(if j=i then f' else fps j),b∈fps j:=λ j b hb=>by
  by_cases e:j=i
  ·rw [if_pos e] at hb;rw [e];exact hs b hb
  ·rw [if_neg e] at hb;exact hb
 refine ⟨λ j y c hj=>?_,λ j hj=>?_,λ j k hjk b hb hc=>r.dj j k hjk b (inI j b hb) (inI k b hc),λ j b hb z=>r.zo j b (inI j b hb) z,λ j hj b hb=>r.fr j hj b (inI j b hb),λ b z=>dm b (r.zd b z),by rw [jc0];exact r.len,λ j y c hj hc=>?_,λ b z=>dm b (r.h0 b z),r.iov⟩
 ·by_cases ej:j=i
  ·subst ej
   rw [jb1 hlen] at hj
   cases hj
   refine ⟨v,hσ,?_⟩
   rw [if_pos rfl]
   exact o.weak λ a h=>h.zf
  ·rw [ja0 (vb2 ej)] at hj
   obtain ⟨u,hu,ou⟩:=r.own j y c hj
   refine ⟨u,hu,?_⟩
   rw [if_neg ej]
   refine Own.move (S:=λ a=>a∈fps i) k (λ a ha=>⟨.inr ⟨i,(by rw [hal j];intro z;cases z),ha⟩,r.lsts ha⟩) (λ a _ nz z=>nz ?_) y c u (fps j) (λ a ha z=>r.dj j i ej a ha z) ou
   rcases z with z | ⟨l,nl,z⟩
   ·exact .inl z
   ·exact .inr ⟨l,nl,inI l a z⟩
 ·by_cases ej:j=i
  ·subst ej
   exact absurd (jb1 hlen) (hj (x',d'))
  ·rw [if_neg ej]
   exact r.non j λ p hp=>hj p (by rw [ja0 (vb2 ej)];exact hp)
 ·by_cases ej:j=i
  ·subst ej
   rw [jb1 hlen] at hc
   cases hc
   exact hm hj
  ·rw [ja0 (vb2 ej)] at hc
   exact r.msf j y c hj hc
theorem OwnL.full' {K:Frag}{Z Z':Addr->Prop}{xs:List PV}{ws:List V}{f:List Addr} (h:OwnL K H Z xs om ws f):OwnL K H Z' xs om ws f:=OwnL.full xs ws f h
theorem OwnL.row {K:Frag}{Z:Addr->Prop}:∀ {xs:List PV}{ws:List V}{f:List Addr}{p:Nat}{cells:List PV},OwnL K H Z xs om ws f->xs[p]?=some (.lst cells)->∃ a us fc,ws[p]?=some (.ref a)/\H a=some (.lst us)/\a∈f/\OwnL K H Z cells om us fc/\(∀ b∈fc,b∈f)/\a∉fc /\
  ∀ (cells':List PV) (us':List V) (fc':List Addr),OwnL K (upd H a (.lst us')) (λ _=>True) cells' om us' fc'->(∀ b∈fc',b∈fc)->∃ f',(∀ b∈f',b∈f)/\OwnL K (upd H a (.lst us')) (λ _=>True) (xs.set p (.lst cells')) om ws f'
 | [],ws,f,p,cells,h,e=>by cases e
 | x::xs,ws,f,0,cells,h,e=>by
  cases e
  rw [OwnL] at h
  obtain ⟨v,s,f1,f2,rfl,rfl,dj,h1,h2⟩:=h
  obtain ⟨a,us,fc,rfl,ha,rfl,na,ol⟩:=h1.list (by decide:om≠0)
  rw [zjp] at ol
  refine ⟨a,us,fc,rfl,ha,by simp,ol,λ b hb=>by simp [hb],na,λ cells' us' fc' o hs=>⟨(a::fc')++f2,λ b hb=>?_,?_⟩⟩
  ·rcases jc4.mp hb with z | z
   ·rcases jb3.mp z with z | z
    ·simp [z]
    ·exact ja9 _ (ja1 _ (hs b z))
   ·exact ja2 _ z
  ·have n2:a∉f2:=dj a ja3
   rw [jf6,OwnL]
   refine ⟨.ref a,s,a::fc',f2,rfl,rfl,λ b hb=>?_,?_,?_⟩
   ·rcases jb3.mp hb with z | z
    ·rw [z];exact n2
    ·exact dj b (ja1 _ (hs b z))
   ·rw [Own]
    exact ⟨a,us',rfl,.inr ⟨by decide,fc',zqi,rfl,λ z=>na (hs a z),by rw [zjp];exact o⟩⟩
   ·exact (h2.full' (Z':=λ _=>True)).at trivial ⟨.l us,ha⟩ n2 λ _ _ n=>absurd trivial n
 | x::xs,ws,f,p + 1,cells,h,e=>by
  rw [OwnL] at h
  obtain ⟨v,s,f1,f2,rfl,rfl,dj,h1,h2⟩:=h
  obtain ⟨a,us,fc,e1,ha,hf,ol,hs,na,nx⟩:=h2.row (by simpa using e)
  refine ⟨a,us,fc,by simpa using e1,ha,ja2 _ hf,ol,λ b hb=>ja2 _ (hs b hb),na,λ cells' us' fc' o hs'=>?_⟩
  obtain ⟨f',s',o'⟩:=nx cells' us' fc' o hs'
  refine ⟨f1++f',λ b hb=>(jc4.mp hb).elim (λ z=>ja9 _ z) λ z=>ja2 _ (s' b z),?_⟩
  rw [jg4,OwnL]
  refine ⟨v,s,f1,f',rfl,rfl,λ b hb z=>dj b hb (s' b z),?_,o'⟩
  exact (Own.full (Z':=λ _=>True) x v f1 h1).at trivial ⟨.l us,ha⟩ (λ z=>dj a z hf) λ _ _ n=>absurd trivial n
theorem OwnL.setF {K:Frag}{Z:Addr->Prop}{y:PV}{d:Nat}{w:V}{fy:List Addr} (hy:Own K H Z y d w fy):∀ {xs:List PV}{ws:List V}{f:List Addr} (k:Nat),OwnL K H Z xs d ws f->(∀ b∈fy,b∉f)->∃ f',(∀ b∈f',b∈f\/b∈fy)/\OwnL K H Z (xs.set k y) d (ws.set k w) f'
 | [],ws,f,k,h,_=>by
  rw [OwnL] at h
  obtain ⟨rfl,rfl⟩:=h
  refine ⟨[],λ _ z=>(nomatch z),?_⟩
  rw [jm1,jm1,OwnL];exact ⟨rfl,rfl⟩
 | x::xs,ws,f,0,h,hd=>by
  rw [OwnL] at h
  obtain ⟨v,s,f1,f2,rfl,rfl,dj,h1,h2⟩:=h
  refine ⟨fy++f2,λ b hb=>(jc4.mp hb).elim .inr λ z=>.inl (ja2 _ z),?_⟩
  rw [jf6,jf6,OwnL]
  exact ⟨w,s,fy,f2,rfl,rfl,λ b hb z=>hd b hb (ja2 _ z),hy,h2⟩
 | x::xs,ws,f,k + 1,h,hd=>by
  rw [OwnL] at h
  obtain ⟨v,s,f1,f2,rfl,rfl,dj,h1,h2⟩:=h
  obtain ⟨f',hs,h'⟩:=h2.setF hy k λ b hb z=>hd b hb (ja2 _ z)
  refine ⟨f1++f',λ b hb=>(jc4.mp hb).elim (λ z=>.inl (ja9 _ z)) λ z=>(hs b z).elim (λ z=>.inl (ja2 _ z)) .inr,?_⟩
  rw [jg4,jg4,OwnL]
  exact ⟨v,s.set k w,f1,f',rfl,rfl,λ b hb hc=>(hs b hc).elim (dj b hb) λ z=>hd b z (ja9 _ hb),h1,h'⟩
theorem OwnL.rowP {K:Frag}{Z:Addr->Prop}:∀ {xs:List PV}{ws:List V}{f:List Addr}{p:Nat}{cells:List PV},OwnL K H Z xs om ws f->xs[p]?=some (.lst cells)->∃ a us fc,ws[p]?=some (.ref a)/\H a=some (.lst us)/\a∈f/\OwnL K H Z cells om us fc/\(∀ b∈fc,b∈f)/\a∉fc /\
  ∀ (cells':List PV) (us':List V) (fc' fy:List Addr),OwnL K (upd H a (.lst us')) (λ _=>True) cells' om us' fc'->(∀ b∈fc',b∈fc\/b∈fy)->(∀ b∈fy,b∉f)->∃ f',(∀ b∈f',b∈f\/b∈fy)/\OwnL K (upd H a (.lst us')) (λ _=>True) (xs.set p (.lst cells')) om ws f'
 | [],ws,f,p,cells,h,e=>by cases e
 | x::xs,ws,f,0,cells,h,e=>by
  cases e
  rw [OwnL] at h
  obtain ⟨v,s,f1,f2,rfl,rfl,dj,h1,h2⟩:=h
  obtain ⟨a,us,fc,rfl,ha,rfl,na,ol⟩:=h1.list (by decide:om≠0)
  rw [zjp] at ol
  refine ⟨a,us,fc,rfl,ha,by simp,ol,λ b hb=>by simp [hb],na,λ cells' us' fc' fy o hs hy=>⟨(a::fc')++f2,λ b hb=>?_,?_⟩⟩
  ·rcases jc4.mp hb with z | z
   ·rcases jb3.mp z with z | z
    ·simp [z]
    ·exact (hs b z).elim (λ z=>.inl (ja9 _ (ja1 _ z))) .inr
   ·exact .inl (ja2 _ z)
  ·have n2:a∉f2:=dj a ja3
   rw [jf6,OwnL]
   refine ⟨.ref a,s,a::fc',f2,rfl,rfl,λ b hb=>?_,?_,?_⟩
   ·rcases jb3.mp hb with z | z
    ·rw [z];exact n2
    ·exact (hs b z).elim (λ z=>dj b (ja1 _ z)) λ z w=>hy b z (ja2 _ w)
   ·rw [Own]
    exact ⟨a,us',rfl,.inr ⟨by decide,fc',zqi,rfl,λ z=>(hs a z).elim na λ z=>hy a z (ja9 _ ja3),by rw [zjp];exact o⟩⟩
   ·exact (h2.full' (Z':=λ _=>True)).at trivial ⟨.l us,ha⟩ n2 λ _ _ n=>absurd trivial n
 | x::xs,ws,f,p + 1,cells,h,e=>by
  rw [OwnL] at h
  obtain ⟨v,s,f1,f2,rfl,rfl,dj,h1,h2⟩:=h
  obtain ⟨a,us,fc,e1,ha,hf,ol,hs,na,nx⟩:=h2.rowP (by simpa using e)
  refine ⟨a,us,fc,by simpa using e1,ha,ja2 _ hf,ol,λ b hb=>ja2 _ (hs b hb),na,λ cells' us' fc' fy o hs' hy=>?_⟩
  obtain ⟨f',s',o'⟩:=nx cells' us' fc' fy o hs' λ b hb z=>hy b hb (ja2 _ z)
  refine ⟨f1++f',λ b hb=>(jc4.mp hb).elim (λ z=>.inl (ja9 _ z)) λ z=>(s' b z).elim (λ z=>.inl (ja2 _ z)) .inr,?_⟩
  rw [jg4,OwnL]
  refine ⟨v,s,f1,f',rfl,rfl,λ b hb z=>(s' b z).elim (dj b hb) λ z=>hy b z (ja9 _ hb),?_,o'⟩
  exact (Own.full (Z':=λ _=>True) x v f1 h1).at trivial ⟨.l us,ha⟩ (λ z=>dj a z hf) λ _ _ n=>absurd trivial n
def put2 (x:PV) (a b:Int) (y:PV):Option PV:=match x with
 | .lst rows=>(match ixN rows.length a with
  | some p=>(match rows[p]? with
   | some (.lst cells)=>(match ixN cells.length b with
    | some q=>some (.lst (rows.set p (.lst (cells.set q y))))
    | none=>none)
   | _=>none)
  | none=>none)
 | _=>none
def zpy (i:Nat) (fi fj f:Fx):Fs:=λ ρ=>match f ρ with
 | .ok (y,e,ρ1)=>(match ρ1[i]? with
  | some (some (x,d))=>(match fi ρ1 with
   | .ok (.int a,_,ρ2)=>(match fj ρ2 with
    | .ok (.int b,_,ρ3)=>(match put2 x a b y with
     | some x'=>if d=om/\zhn y=true then .nx (ρ3.set i (some (x',om))) else if d=om/\e=om then .nx (ρ3.set i (some (x',0))) else .no
     | none=>.no)
    | _=>.no)
   | _=>.no)
  | _=>.no)
 | _=>.no
theorem qc7 {x x' y:PV}{a b:Int} (h:put2 x a b y=some x'):∃ rows p cells q,x=.lst rows/\ixN rows.length a=some p/\rows[p]?=some (.lst cells)/\ixN cells.length b=some q/\x'=.lst (rows.set p (.lst (cells.set q y))):=by
 unfold put2 at h
 split at h
 ·rename_i rows
  split at h
  ·rename_i p ep
   split at h
   ·rename_i cells er
    split at h
    ·rename_i q eq
     cases h
     exact ⟨rows,p,cells,q,rfl,ep,er,eq,rfl⟩
    ·cases h
   ·cases h
  ·cases h
 ·cases h
theorem KD.top (k:KD M H fps H' fps') (r:Rep M ρ σ H fps) {i:Nat}{a:Addr}{o:HO} (hm:M.Ms i=false) (ha:a∈fps i) (h:H a=some o):H' a=some o:=
 k.keep a o h λ ⟨j,hj,hb⟩=>r.dj i j (λ e=>by rw [e,hj] at hm;cases hm) a ha hb
theorem qi6 {f fi fj:Fx}{vi vj:List Nat}{i:Nat}{D:Ends} (hal:∀ i,M.al i=[]) (hm:M.Ms i=false) (hq:tS M (zpy i fi fj f) D σ H):tAsg (tE M f vs) (gSub (tOp (rIxL M.K) (tVar i) (tE M fi vi)) (tE M fj vj) qf5) D σ H:=by
 obtain ⟨ρ,fps,rep,q⟩:=hq
 refine ⟨ρ,fps,rep,?_⟩
 unfold zpy at q
 cases ef:f ρ with
 | no=>rw [ef] at q;exact q
 | exc c=>rw [ef] at q;exact q.elim
 | ok p0=>
  obtain ⟨y,e,ρ1⟩:=p0
  rw [ef] at q
  intro w H1 fps1 fp k1 g1 rep1 o1 t1
  dsimp only at q
  cases ei:ρ1[i]? with
  | none=>rw [ei] at q;exact q.elim
  | some s1=>
   rw [ei] at q
   cases s1 with
   | none=>exact q.elim
   | some s1=>
    obtain ⟨x1,dx1⟩:=s1
    obtain ⟨v,hσ,_⟩:=rep1.own0 hal i _ _ ei
    dsimp only at q
    refine ⟨v,hσ,ρ1,fps1,rep1,?_⟩
    split at q
    ·rename_i a da ρ2 e1
     rw [e1]
     intro va H2 fps2 fpa k2 g2 rep2 oa ta
     rw [Own] at oa
     obtain ⟨rfl,rfl⟩:=oa
     split at q
     ·rename_i b db ρ3 e2
      split at q
      ·rename_i x' ex
       obtain ⟨rows,p,cells,jq,rfl,ep,er,eq,rfl⟩:=qc7 ex
       split at q
       ·rename_i hc
        obtain ⟨rfl,hy⟩:=hc
        obtain ⟨rfl,oy⟩:=Own.flatA (Z':=λ _=>True) (d':=om) hy o1
        have e2i:ρ2[i]?=some (some (.lst rows,om)):=by rw [g2.1 i hm];exact ei
        obtain ⟨v2,hσ2,ol2⟩:=rep2.own0 hal i _ _ e2i
        rw [hσ] at hσ2
        cases hσ2
        obtain ⟨a0,ws,f2,rfl,ha2,hf2,na2,hol2⟩:=ol2.list (by decide:om≠0)
        rw [zjp] at hol2
        obtain ⟨r,us,fc,ew,hr,hrf,oc,sc,nrc,_⟩:=hol2.row er
        have hai:a0∈fps2 i:=by rw [hf2];exact ja3
        have hri2:r∈fps2 i:=by rw [hf2];exact ja1 _ hrf
        refine ⟨a0,ws,a,.ref r,rfl,rfl,.inl (.inl ha2),?_,ρ2,fps2,rep2,?_⟩
        ·unfold atI
         rw [hol2.length,ep]
         exact ew
        rw [e2]
        intro vb H3 fps3 fpb k3 g3 rep3 ob tb
        rw [Own] at ob
        obtain ⟨rfl,rfl⟩:=ob
        have e3:ρ3[i]?=some (some (.lst rows,om)):=by rw [g3.1 i hm];exact e2i
        obtain ⟨v3,hσ3,ol3⟩:=rep3.own0 hal i _ _ e3
        rw [hσ] at hσ3
        cases hσ3
        obtain ⟨a',ws3,f3,ev,ha3,hf3,na3,hol3⟩:=ol3.list (by decide:om≠0)
        cases ev
        have hai3:a0∈fps3 i:=by rw [hf3];exact ja3
        have ht:=k3.top rep2 hm hai ha2
        rw [ha3] at ht
        cases ht
        rw [zjp] at hol3
        obtain ⟨r',us3,fc3,ew3,hr3,hrf3,oc3,sc3,nrc3,nx⟩:=hol3.row er
        rw [ew] at ew3
        cases ew3
        have hri:r∈fps3 i:=by rw [hf3];exact ja1 _ hrf3
        refine ⟨r,us3,b,jq,rfl,rfl,hr3,by rw [oc3.length];exact eq,?_⟩
        have oy2:Own M.K H2 (λ _=>True) y om w []:=Own.move k2.keep (λ a ⟨_,_,h⟩=>⟨trivial,rep1.lsts h⟩) (λ _ _ n=>absurd trivial n) y om w [] (λ _ z=>nomatch z) oy
        have oy3:Own M.K H3 (λ _=>True) y om w []:=Own.move k3.keep (λ a ⟨_,_,h⟩=>⟨trivial,rep2.lsts h⟩) (λ _ _ n=>absurd trivial n) y om w [] (λ _ z=>nomatch z) oy2
        obtain ⟨fc',sc',oc'⟩:=(oc3.full' (Z':=λ _=>True)).set oy3 jq
        have oc2:OwnL M.K (upd H3 r (.lst (us3.set jq w))) (λ _=>True) (cells.set jq y) om (us3.set jq w) fc':=oc'.at trivial ⟨.l us3,hr3⟩ (λ z=>nrc3 (sc' r z)) λ _ _ n=>absurd trivial n
        obtain ⟨f',s',o'⟩:=nx _ _ fc' oc2 sc'
        have nea:a0≠r:=λ e=>na3 (by rw [e];exact hrf3)
        have dm:∀ b,H3 b≠none->(upd H3 r (.lst (us3.set jq w))) b≠none:=λ b h=>by
         by_cases eb:b=r
         ·rw [eb,zqi];simp
         ·rw [zqg eb];exact h
        have hsub:∀ b∈a0::f',b∈fps3 i:=λ b hb=>by
         rw [hf3]
         exact (jb3.mp hb).elim (λ z=>by rw [z];exact ja3) λ z=>ja1 _ (s' b z)
        have kw:KS M H3 fps3 (upd H3 r (.lst (us3.set jq w))) (λ j=>if j=i then a0::f' else fps3 j):=⟨λ b u hb n=>by rw [zqg (λ e=>n ⟨i,by rw [e];exact hri⟩)];exact hb,dm,λ j b hb=>by
         by_cases ej:j=i
         ·simp only [if_pos ej] at hb;exact .inl ⟨i,hsub b hb⟩
         ·simp only [if_neg ej] at hb;exact .inl ⟨j,hb⟩⟩
        refine q σ _ _ (((k1.ks.trans k2.ks).trans k3.ks).trans kw) (rep3.change hal e3 hσ (λ b u hb n=>by rw [zqg (λ e=>n (by rw [e];exact hri))];exact hb) dm hsub (λ _=>rfl) ?_)
        rw [Own]
        exact ⟨a0,ws,rfl,.inr ⟨by decide,f',by rw [zqg nea];exact ha3,rfl,λ z=>na3 (s' a0 z),o'.full'⟩⟩
       ·split at q
        ·rename_i hc
         obtain ⟨rfl,rfl⟩:=hc
         have oy:Own M.K H1 (λ _=>True) y om w fp:=Own.full _ _ _ o1
         have e2i:ρ2[i]?=some (some (.lst rows,om)):=by rw [g2.1 i hm];exact ei
         obtain ⟨v2,hσ2,ol2⟩:=rep2.own0 hal i _ _ e2i
         rw [hσ] at hσ2
         cases hσ2
         obtain ⟨a0,ws,f2,rfl,ha2,hf2,na2,hol2⟩:=ol2.list (by decide:om≠0)
         rw [zjp] at hol2
         obtain ⟨r,us,fc,ew,hr,hrf,oc,sc,nrc,_⟩:=hol2.row er
         have hai:a0∈fps2 i:=by rw [hf2];exact ja3
         refine ⟨a0,ws,a,.ref r,rfl,rfl,.inl (.inl ha2),?_,ρ2,fps2,rep2,?_⟩
         ·unfold atI
          rw [hol2.length,ep]
          exact ew
         rw [e2]
         intro vb H3 fps3 fpb k3 g3 rep3 ob tb
         rw [Own] at ob
         obtain ⟨rfl,rfl⟩:=ob
         have e3:ρ3[i]?=some (some (.lst rows,om)):=by rw [g3.1 i hm];exact e2i
         obtain ⟨v3,hσ3,ol3⟩:=rep3.own0 hal i _ _ e3
         rw [hσ] at hσ3
         cases hσ3
         obtain ⟨a',ws3,f3,ev,ha3,hf3,na3,hol3⟩:=ol3.list (by decide:om≠0)
         cases ev
         have hai3:a0∈fps3 i:=by rw [hf3];exact ja3
         have ht:=k3.top rep2 hm hai ha2
         rw [ha3] at ht
         cases ht
         rw [zjp] at hol3
         obtain ⟨r',us3,fc3,ew3,hr3,hrf3,oc3,sc3,nrc3,nx⟩:=hol3.rowP er
         rw [ew] at ew3
         cases ew3
         have hri:r∈fps3 i:=by rw [hf3];exact ja1 _ hrf3
         refine ⟨r,us3,b,jq,rfl,rfl,hr3,by rw [oc3.length];exact eq,?_⟩
         have n2:∀ b∈fp,¬ Zf M fps2 b:=λ b hb z=>by
          rcases z with z | ⟨j,z⟩
          ·exact t1.ndj b hb (.inl z)
          ·rcases k2.sub j b z with z | z
           ·exact t1.ndj b hb (.inr ⟨j,z⟩)
           ·obtain ⟨o,ho⟩:=Own.lsts y _ w fp oy b hb
            rw [ho] at z
            cases z
         have oy2:Own M.K H2 (λ _=>True) y om w fp:=Own.move k2.keep (λ a ⟨_,_,h⟩=>⟨trivial,rep1.lsts h⟩) (λ _ _ n=>absurd trivial n) y om w fp (λ a ha ⟨j,_,hj⟩=>t1.ndj a ha (.inr ⟨j,hj⟩)) oy
         have n3:∀ b∈fp,¬ Zf M fps3 b:=λ b hb z=>by
          rcases z with z | ⟨j,z⟩
          ·exact n2 b hb (.inl z)
          ·rcases k3.sub j b z with z | z
           ·exact n2 b hb (.inr ⟨j,z⟩)
           ·obtain ⟨o,ho⟩:=Own.lsts y _ w fp oy2 b hb
            rw [ho] at z
            cases z
         have oy3:Own M.K H3 (λ _=>True) y om w fp:=Own.move k3.keep (λ a ⟨_,_,h⟩=>⟨trivial,rep2.lsts h⟩) (λ _ _ n=>absurd trivial n) y om w fp (λ a ha ⟨j,_,hj⟩=>n2 a ha (.inr ⟨j,hj⟩)) oy2
         have nfp:∀ b∈fp,b∉f3:=λ b hb z=>n3 b hb (.inr ⟨i,by rw [hf3];exact ja1 _ z⟩)
         obtain ⟨fc',sc',oc'⟩:=(oc3.full' (Z':=λ _=>True)).setF oy3 jq λ b hb z=>nfp b hb (sc3 b z)
         have oc2:OwnL M.K (upd H3 r (.lst (us3.set jq w))) (λ _=>True) (cells.set jq y) om (us3.set jq w) fc':=oc'.at trivial ⟨.l us3,hr3⟩ (λ z=>(sc' r z).elim nrc3 λ z=>nfp r z hrf3) λ _ _ n=>absurd trivial n
         obtain ⟨f',s',o'⟩:=nx _ _ fc' fp oc2 sc' nfp
         have nea:a0≠r:=λ e=>na3 (by rw [e];exact hrf3)
         have dm:∀ b,H3 b≠none->(upd H3 r (.lst (us3.set jq w))) b≠none:=λ b h=>by
          by_cases eb:b=r
          ·rw [eb,zqi];simp
          ·rw [zqg eb];exact h
         have oF:Own M.K (upd H3 r (.lst (us3.set jq w))) (λ _=>True) (.lst (rows.set p (.lst (cells.set jq y)))) om (.ref a0) (a0::f'):=by
          rw [Own]
          exact ⟨a0,ws,rfl,.inr ⟨by decide,f',by rw [zqg nea];exact ha3,rfl,λ z=>(s' a0 z).elim na3 λ z=>n3 a0 z (.inr ⟨i,hai3⟩),by rw [zjp];exact o'⟩⟩
         have nz:∀ b∈a0::f',¬ Zf M (λ j=>if j=i then [] else fps3 j) b:=λ b hb z=>by
          have hz:Zf M fps3 b:=by
           rcases z with z | ⟨j,z⟩
           ·exact .inl z
           ·by_cases ej:j=i
            ·simp only [if_pos ej] at z;cases z
            ·simp only [if_neg ej] at z;exact .inr ⟨j,z⟩
          have hin:b∈fps3 i:=by
           rw [hf3]
           rcases jb3.mp hb with e | hb
           ·rw [e];exact ja3
           ·exact (s' b hb).elim (λ z=>ja1 _ z) λ z=>absurd hz (n3 b z)
          rcases z with z | ⟨j,z⟩
          ·exact rep3.zo i b hin z
          ·by_cases ej:j=i
           ·simp only [if_pos ej] at z;cases z
           ·simp only [if_neg ej] at z;exact rep3.dj i j (vb2 ej) b hin z
         have kw:KS M H3 fps3 (upd H3 r (.lst (us3.set jq w))) (λ j=>if j=i then [] else fps3 j):=⟨λ b u hb n=>by rw [zqg (λ e=>n ⟨i,by rw [e];exact hri⟩)];exact hb,dm,λ j b hb=>by
          by_cases ej:j=i
          ·simp only [if_pos ej] at hb;cases hb
          ·simp only [if_neg ej] at hb;exact .inl ⟨j,hb⟩⟩
         refine q σ _ _ (((k1.ks.trans k2.ks).trans k3.ks).trans kw) (rep3.change (f':=[]) hal e3 hσ (λ b u hb n=>by rw [zqg (λ e=>n (by rw [e];exact hri))];exact hb) dm (λ _ z=>nomatch z) (λ h=>by rw [hm] at h;cases h) ?_)
         exact Own.freeze (λ _ _=>trivial) _ _ _ _ nz oF
        ·exact q.elim
      ·exact q.elim
     ·exact q.elim
    ·exact q.elim
end
section
variable {M:Fm}{ρ ρ':Rho}{σ σ':St}{H H' H'':Hp}{fps fps' fps'':Fps}{vs vs':List Nat}
end
section
variable {is:List Nat}{M:Fm}{ρ ρ':Rho}{σ σ':St}{H H' H'':Hp}{fps fps' fps'':Fps}{vs vs':List Nat}{D:Ends}
def RqOk (M:Fm) (D:Ends) (σ:St) (ρ:Rho) (H:Hp) (fps:Fps):Rs->Prop
 | .nx ρ'=>∀ H' fps',KD M H fps H' fps'->Agr M ρ ρ'->Rep M ρ' σ H' fps'->D.nx σ H'
 | .rt x d ρ'=>∀ v σ' H' fps' fp,KS M H fps H' fps'->Rep M ρ' σ' H' fps'->Own M.K H' (λ a=>Zr M fps' a\/a∈fp) x d v fp->(∀ a∈fp,M.H₀ a=none/\¬ Zr M fps' a)->D.rt v H'
 | .exc c=>∀ H' fps',KS M H fps H' fps'->M.W σ c H'
 | _=>False
def tQ (M:Fm) (f:Fs):TS:=λ D σ H=>∃ ρ fps,Rep M ρ σ H fps/\RqOk M D σ ρ H fps (f ρ)
theorem RqOk.from {ρ1:Rho}{r:Rs} (k1:KD M H fps H' fps') (g1:Agr M ρ ρ1) (q:RqOk M D σ ρ H fps r):RqOk M D σ ρ1 H' fps' r:=by
 cases r with
 | no=>exact q
 | exc c=>exact λ H' fps' k=>q H' fps' (k1.ks.trans k)
 | rt x d ρ2=>exact λ v σ' H' fps' fp k=>q v σ' H' fps' fp (k1.ks.trans k)
 | bk ρ2=>exact q
 | ct ρ2=>exact q
 | nx ρ2=>exact λ H' fps' k g=>q H' fps' (k1.trans k) (g1.trans g)
theorem ql2 (hq:tQ M sNil D σ H):qja D σ H:=by
 obtain ⟨ρ,fps,rep,q⟩:=hq
 exact q H fps KD.refl Agr.refl rep
theorem ql1 {t:TS} (hq:tQ M sNo D σ H):t D σ H:=by
 obtain ⟨ρ,fps,rep,q⟩:=hq
 exact q.elim
theorem qlz {f g:Fs} (hq:tQ M (sSeq f g) D σ H):tSeq (tQ M f) (tQ M g) D σ H:=by
 obtain ⟨ρ,fps,rep,q⟩:=hq
 refine ⟨ρ,fps,rep,?_⟩
 unfold sSeq at q
 cases ef:f ρ with
 | no=>rw [ef] at q;exact q
 | exc c=>rw [ef] at q;exact q
 | rt x d ρ1=>rw [ef] at q;exact q
 | bk ρ1=>rw [ef] at q;exact q
 | ct ρ1=>rw [ef] at q;exact q
 | nx ρ1=>rw [ef] at q;exact λ H1 fps1 k1 g1 r1=>⟨ρ1,fps1,r1,RqOk.from k1 g1 q⟩
theorem qov {c:Fb}{f g:Fs} (hq:tQ M (sIf c f g) D σ H):tIfS (tT M c) (tQ M f) (tQ M g) D σ H:=by
 obtain ⟨ρ,fps,rep,q⟩:=hq
 refine ⟨ρ,fps,rep,?_⟩
 unfold sIf at q
 cases ec:c ρ with
 | no=>rw [ec] at q;exact q
 | exc c=>rw [ec] at q;exact λ H' fps' k=>q H' fps' k.ks
 | ok p=>
  obtain ⟨b,ρ1⟩:=p
  rw [ec] at q
  intro H1 fps1 k1 g1 r1
  dsimp only at q
  cases b with
  | true=>exact ⟨ρ1,fps1,r1,RqOk.from k1 g1 q⟩
  | false=>exact ⟨ρ1,fps1,r1,RqOk.from k1 g1 q⟩
theorem ql0 {f:Fx} (hv:∀ i∈vs,M.Ms i=false) (hq:tQ M (sRet f) D σ H):tRet (tE M f vs) D σ H:=by
 obtain ⟨ρ,fps,rep,q⟩:=hq
 refine ⟨ρ,fps,rep,?_⟩
 unfold sRet at q
 cases ef:f ρ with
 | no=>rw [ef] at q;exact q
 | exc c=>rw [ef] at q;exact λ H' fps' k=>q H' fps' k.ks
 | ok p=>
  obtain ⟨x,d,ρ1⟩:=p
  rw [ef] at q
  intro v H1 fps1 f1 k1 g1 rep1 o1 t1
  exact q v σ H1 fps1 f1 k1.ks rep1 (o1.weak λ a h=>h.elim (λ h=>.inl (rep1.zr hv h)) .inr) λ a ha=>⟨rep.h0' (t1.new a ha),λ z=>t1.ndj a ha z.zf⟩
def kill (is:List Nat):Nat->Rho->Rho
 | _,[]=>[]
 | k,s::r=>(if is.contains k then none else s)::kill is (k + 1) r
theorem zvk (is:List Nat):∀ (ρ:Rho) (k i:Nat),(kill is k ρ)[i]?=(ρ[i]?).map λ s=>if is.contains (k + i) then none else s
 | [],k,i=>by simp [kill]
 | s::r,k,0=>by simp [kill]
 | s::r,k,i + 1=>by
  rw [kill,je1,zvk is r (k + 1) i,je1]
  have:k + 1 + i=k + (i + 1):=by omega
  rw [this]
theorem zjb (is:List Nat):∀ (ρ:Rho) (k:Nat),(kill is k ρ).length=ρ.length
 | [],_=>rfl
 | s::r,k=>by rw [kill,jb2,zjb is r (k + 1),jb2]
def Fm.look (M:Fm) (is v:List Nat):Fm:={ M with al:=λ j=>if is.contains j then v else M.al j }
theorem Rep.look {v:List Nat} (hal:∀ i,M.al i=[]) (r:Rep M ρ σ H fps):Rep (M.look is v) ρ σ H fps where
 own:=λ i x d e=>by
  obtain ⟨u,hu,o⟩:=r.own i x d e
  refine ⟨u,hu,o.weak λ a h=>?_⟩
  rcases h with z | ⟨j,nj,z⟩
  ·exact .inl z
  ·exact .inr ⟨j,(by rw [hal];exact λ y=>nomatch y),z⟩
 non:=r.non
 dj:=r.dj
 zo:=r.zo
 fr:=r.fr
 zd:=r.zd
 len:=r.len
 msf:=r.msf
 h0:=r.h0
 iov:=r.iov
theorem Rep.kill {v:List Nat} (r:Rep (M.look is v) ρ σ H fps):Rep M (QQ.kill is 0 ρ) σ H (λ j=>if is.contains j then [] else fps j):=by
 have get:∀ i x d,(QQ.kill is 0 ρ)[i]?=some (some (x,d))->is.contains i=false/\ρ[i]?=some (some (x,d)):=λ i x d e=>by
  rw [zvk,jh0] at e
  cases e1:ρ[i]? with
  | none=>rw [e1] at e;cases e
  | some s=>
   rw [e1] at e
   simp only [je3,Option.some.injEq] at e
   split at e
   ·cases e
   ·rename_i hc
    exact ⟨by simpa using hc,by rw [e]⟩
 have sub:∀ j a,a∈(if is.contains j then [] else fps j)->a∈fps j:=λ j a h=>by
  split at h
  ·cases h
  ·exact h
 refine ⟨λ i x d e=>?_,λ i h=>?_,λ i j hij a ha hb=>r.dj i j hij a (sub i a ha) (sub j a hb),λ i a ha=>r.zo i a (sub i a ha),λ i hi a ha=>r.fr i hi a (sub i a ha),r.zd,by rw [zjb];exact r.len,λ i x d hi e=>r.msf i x d hi (get i x d e).2,r.h0,r.iov⟩
 ·obtain ⟨hc,e'⟩:=get i x d e
  obtain ⟨u,hu,o⟩:=r.own i x d e'
  refine ⟨u,hu,?_⟩
  simp only [hc,jg5,if_false]
  refine o.weak λ a h=>?_
  rcases h with z | ⟨j,nj,z⟩
  ·exact .inl z
  ·refine .inr ⟨j,?_,sub j a z⟩
   show j∉(if is.contains i then v else M.al i)
   simp only [hc,jg5,if_false]
   exact nj
 ·by_cases hc:is.contains i=true
  ·simp only [hc,if_true]
  ·simp only [hc,jg5,if_false]
   refine r.non i λ p e=>?_
   refine h p ?_
   rw [zvk,jh0,e]
   simp only [je3,hc,jg5,if_false]
def zvt (asg:PV->Rho->Option Rho) (body:Fs):List PV->Rho->Rs
 | [],ρ=>.nx ρ
 | x::xs,ρ=>match asg x ρ with
  | none=>.no
  | some ρ1=>match body ρ1 with
   | .nx ρ2=>zvt asg body xs ρ2
   | .rt x d ρ2=>.rt x d ρ2
   | .exc c=>.exc c
   | _=>.no
def zki (i:Nat) (is:List Nat) (asg:PV->Rho->Option Rho) (body:Fs):Fs:=λ ρ=>match ρ[i]? with
 | some (some (.lst xs,_))=>(match zvt asg body xs ρ with
  | .nx ρ'=>.nx (kill is 0 ρ')
  | .rt x d ρ'=>.rt x d (kill is 0 ρ')
  | .exc c=>.exc c
  | _=>.no)
 | _=>.no
def endQ (is:List Nat):Rs->Rs
 | .nx ρ'=>.nx (kill is 0 ρ')
 | .rt x d ρ'=>.rt x d (kill is 0 ρ')
 | .exc c=>.exc c
 | _=>.no
theorem qi7 {g:TG}{asg:PV->Rho->Option Rho}{body:Fs}{i0:Nat} (hal:∀ i,M.al i=[]) (hm:M.Ms i0=false) (h0:i0∉is) (hms:∀ i∈is,M.Ms i=false) (hg:GOk (M.look is [i0]) [i0] is g asg) (hq:tS M (zki i0 is asg body) D σ H):
  tFor (iSeq M.K (tE M (bVar i0) [i0])) g (tQ (M.look is [i0]) body) D σ H:=by
 obtain ⟨ρ,fps,rep,q⟩:=hq
 refine ⟨ρ,fps,rep,?_⟩
 unfold zki at q
 unfold bVar
 cases e0:ρ[i0]? with
 | none=>rw [e0] at q;exact q.elim
 | some s0=>
  rw [e0] at q
  cases s0 with
  | none=>exact q.elim
  | some p0=>
   obtain ⟨x0,d0⟩:=p0
   cases x0 with
   | lst xs=>
    intro v H1 fps1 f1 k1 g1 rep1 o1 t1
    have o1':Own M.K H1 (Zv M [i0] fps1) (.lst xs) 0 v []:=Own.freeze (λ _ z=>.inl z) _ _ v f1 (λ a ha z=>t1.ndj a ha z.zf) o1
    have one:∀ {H:Hp}{fps:Fps},Own M.K H (Zv M [i0] fps) (.lst xs) 0 v []->∃ a ws,v=.ref a/\SqL M.K H a ws/\OwnL M.K H (Zv M [i0] fps) xs 0 ws []:=λ o=>qj3 o
    obtain ⟨a,ws,rfl,sq,ol⟩:=one o1'
    refine .inl ⟨a,rfl,.inl ⟨⟨ws,sq⟩,?_⟩⟩
    have q':RsOk M D H1 fps1 (endQ is (zvt asg body xs ρ)):=by
     refine RsOk.from k1.ks ?_
     dsimp only at q
     unfold endQ
     exact q
    let W:Nat->Nat->St->Hp->Prop:=λ n m σ H=>m=xs.length - n/\∃ ρ fps,Rep (M.look is [i0]) ρ σ H fps/\Own M.K H (Zv M [i0] fps) (.lst xs) 0 (.ref a) []/\RsOk M D H fps (endQ is (zvt asg body (xs.drop n) ρ))
    refine ⟨W,⟨xs.length,by simp,ρ,fps1,rep1.look hal,o1',by simpa using q'⟩,?_⟩
    rintro n m σ H ⟨rfl,ρ,fps,r,ov,q⟩
    obtain ⟨a',ws',ea,sq',ol'⟩:=one ov
    cases ea
    by_cases hn:n < xs.length
    ·right
     refine ⟨⟨ws',ws'[n]'(by rw [ol'.length];exact hn),sq',by simp⟩,W (n + 1) (xs.length - (n + 1)),λ σ' H' w=>⟨_,by omega,w⟩,λ x H' y=>?_⟩
     obtain ⟨rfl,e2⟩:=y
     obtain ⟨z,ez,oz⟩:=ol'.get (e2 ws' sq')
     have ed:xs.drop n=z::xs.drop (n + 1):=by
      obtain ⟨h1,h2⟩:=ja7.mp ez
      rw [<- h2];exact je4 h1
     rw [ed] at q
     unfold zvt at q
     cases ea:asg z ρ with
     | none=>rw [ea] at q;exact q.elim
     | some ρ1=>
      rw [ea] at q
      dsimp only at q
      refine hg z x ρ σ _ fps ρ1 _ r oz ea λ σ1 fps1 s1 a1 l1 r1=>⟨ρ1,fps1,r1,?_⟩
      have k1:KS M H' fps H' fps1:=⟨λ _ _ h _=>h,λ _ h=>h,λ j a ha=>.inl ⟨j,s1 j a ha⟩⟩
      have q:=RsOk.from k1 q
      have ov1:Own M.K H' (Zv M [i0] fps1) (.lst xs) 0 (.ref a) []:=ov.weak λ b h=>h.elim .inl λ ⟨j,nj,z⟩=>.inr ⟨j,nj,s1 j b z⟩
      cases eb:body ρ1 with
      | no=>rw [eb] at q;exact q
      | exc c=>rw [eb] at q;exact λ H2 fps2 k=>q _ H2 fps2 ⟨k.keep,k.dom,k.sub⟩
      | bk ρ2=>rw [eb] at q;exact q
      | ct ρ2=>rw [eb] at q;exact q
      | rt x d ρ2=>
       rw [eb] at q
       intro v2 σ2 H2 fps2 fp k2 r2 oy hf
       have ks2:KS M H' fps1 H2 (λ j=>if is.contains j then [] else fps2 j):=⟨k2.keep,k2.dom,λ j b hb=>by
        split at hb
        ·cases hb
        ·exact k2.sub j b hb⟩
       have zr:∀ b,Zr M (λ j=>if is.contains j then [] else fps2 j) b->Zr M fps2 b:=λ b h=>by
        rcases h with z | ⟨z1,z2⟩
        ·exact .inl z
        ·refine .inr ⟨z1,?_⟩
         dsimp only at z2
         split at z2
         ·cases z2
         ·exact z2
       exact q v2 σ2 H2 _ fp ks2 r2.kill (oy.weak λ b h=>h.elim (λ h=>.inl (zr b h)) .inr) λ b hb=>⟨(hf b hb).1,λ z=>(hf b hb).2 (zr b z)⟩
      | nx ρ2=>
       rw [eb] at q
       intro H2 fps2 k2 g2 r2
       have k2':KD M H' fps1 H2 fps2:=⟨k2.keep,k2.dom,k2.sub,k2.same⟩
       refine ⟨rfl,ρ2,fps2,r2,?_,RsOk.from k2'.ks q⟩
       refine Own.move k2.keep ?_ ?_ _ 0 _ [] (λ _ z=>nomatch z) ov1
       ·rintro b ⟨j,hj,hb⟩
        refine ⟨.inr ⟨j,λ z=>?_,hb⟩,r1.lsts hb⟩
        rw [jb6.mp z] at hj
        have hj':M.Ms i0=true:=hj
        rw [hm] at hj';cases hj'
       ·intro b hd nz z
        rcases z with z | ⟨j,nj,hx⟩
        ·exact nz (.inl z)
        ·rcases k2.sub j b hx with z | z
         ·exact nz (.inr ⟨j,nj,z⟩)
         ·exact hd z
    ·left
     have ed:xs.drop n=[]:=jf8 (by omega)
     rw [ed] at q
     refine ⟨⟨ws',sq',by rw [ol'.length];omega⟩,?_⟩
     exact q σ H _ ⟨λ _ _ h _=>h,λ _ h=>h,λ j b hb=>by
      split at hb
      ·cases hb
      ·exact .inl ⟨j,hb⟩⟩ r.kill
   | _=>exact q.elim
end
section
variable {is:List Nat}{M:Fm}{ρ ρ':Rho}{σ σ':St}{H H' H'':Hp}{fps fps' fps'':Fps}{vs vs':List Nat}{D:Ends}
def zzc (k:Int):List PV->Option (List PV)
 | []=>some []
 | .lst cells::r=>if cells.length < va4 then (zzc k r).map (PV.lst (cells++[.int k])::·) else none
 | _=>none
theorem zbh (k:Int):∀ (rows rows':List PV),zzc k rows=some rows'->rows'.length=rows.length
 | [],rows',h=>by cases h;rfl
 | .lst cells::r,rows',h=>by
  unfold zzc at h
  split at h
  ·obtain ⟨q,e,rfl⟩:=jb7.mp h
   rw [jb2,zbh k r q e,jb2]
  ·cases h
 | .non::r,_,h=>by cases h
 | .bl _::r,_,h=>by cases h
 | .int _::r,_,h=>by cases h
 | .str _::r,_,h=>by cases h
 | .tup _::r,_,h=>by cases h
 | .emp::r,_,h=>by cases h
 | .dko::r,_,h=>by cases h
 | .scr _::r,_,h=>by cases h
 | .dct _::r,_,h=>by cases h
 | .exn _::r,_,h=>by cases h
theorem zbi (k:Int):∀ (rows rows':List PV) (n:Nat),zzc k rows=some rows'->n < rows.length->∃ cells,rows[n]?=some (.lst cells)/\rows'[n]?=some (.lst (cells++[.int k]))/\cells.length < va4
 | [],rows',n,h,hn=>absurd hn (by simp)
 | .lst cells::r,rows',n,h,hn=>by
  unfold zzc at h
  split at h
  ·rename_i hl
   obtain ⟨q,e,rfl⟩:=jb7.mp h
   cases n with
   | zero=>exact ⟨cells,rfl,rfl,hl⟩
   | succ n=>obtain ⟨c,h1,h2,h3⟩:=zbi k r q n e (by rw [jb2] at hn;omega);exact ⟨c,by simpa using h1,by simpa using h2,h3⟩
  ·cases h
 | .non::r,_,_,h,_=>by cases h
 | .bl _::r,_,_,h,_=>by cases h
 | .int _::r,_,_,h,_=>by cases h
 | .str _::r,_,_,h,_=>by cases h
 | .tup _::r,_,_,h,_=>by cases h
 | .emp::r,_,_,h,_=>by cases h
 | .dko::r,_,_,h,_=>by cases h
 | .scr _::r,_,_,h,_=>by cases h
 | .dct _::r,_,_,h,_=>by cases h
 | .exn _::r,_,_,h,_=>by cases h
def qbr (i j:Nat) (k:Int):Fs:=λ ρ=>match ρ[i]? with
 | some (some (.lst rows,d))=>(match zzc k rows with
  | some rows'=>if d=om/\j < ρ.length then .nx ((kill [j] 0 ρ).set i (some (.lst rows',om))) else .no
  | none=>.no)
 | _=>.no
theorem Rep.sigma {j:Nat}{v:V} (r:Rep M ρ σ H fps) (hj:∀ p,ρ[j]?≠some (some p)) (hio:M.Fre j):Rep M ρ (σ.set j (some v)) H fps where
 own:=λ i x d e=>by
  obtain ⟨u,hu,o⟩:=r.own i x d e
  have ij:i≠j:=λ z=>hj _ (by rw [<- z];exact e)
  exact ⟨u,by rw [ja0 (vb2 ij)];exact hu,o⟩
 non:=r.non
 dj:=r.dj
 zo:=r.zo
 fr:=r.fr
 zd:=r.zd
 len:=by rw [jc0];exact r.len
 msf:=r.msf
 h0:=r.h0
 iov:=⟨λ w hw=>by
  have:=hio.1 (by rw [hw];simp)
  rw [ja0 this]
  exact r.iov.1 w hw,λ p hp=>by
  rw [ja0 (hio.2 p hp).symm]
  exact r.iov.2 p hp⟩
theorem qd3 {α:Type}{xs ys:List α}{n:Nat}{y:α} (hl:ys.length=xs.length) (hn:n < xs.length) (hy:ys[n]?=some y):(ys.take n++xs.drop n).set n y=ys.take (n + 1)++xs.drop (n + 1):=by
 have h1:(ys.take n).length=n:=by rw [jd1];omega
 rw [jh4 _ _ (by omega),h1,jo0,je4 hn,jf6,jl3,hy]
 simp
theorem qi8 {i j:Nat}{k:Int} (hal:∀ i,M.al i=[]) (hm:M.Ms i=false) (hij:i≠j) (hio:M.Fre j) (hq:tS M (qbr i j k) D σ H):
  tFor (iSeq M.K (tVar i)) (zvo j) (zgz (tBM M.K "list" zjn (tVar j) (zbl (tC (.int k)) tNil))) D σ H:=by
 obtain ⟨ρ,fps,rep,q⟩:=hq
 unfold qbr at q
 cases e0:ρ[i]? with
 | none=>rw [e0] at q;exact q.elim
 | some s0=>
  rw [e0] at q
  cases s0 with
  | none=>exact q.elim
  | some p0=>
   obtain ⟨x0,d0⟩:=p0
   cases x0 with
   | lst rows=>
    dsimp only at q
    cases ea:zzc k rows with
    | none=>rw [ea] at q;exact q.elim
    | some rows'=>
     rw [ea] at q
     dsimp only at q
     split at q
     ·rename_i hd
      obtain ⟨rfl,hjl⟩:=hd
      have hlen:=zbh k rows rows' ea
      have rk:=(rep.look (is:=[j]) (v:=[]) hal).kill
      have ei:(kill [j] 0 ρ)[i]?=some (some (.lst rows,om)):=by
       rw [zvk,e0,jh0]
       simp [hij]
      have hil:i < (kill [j] 0 ρ).length:=(ja7.mp ei).1
      obtain ⟨v0,hσ0,oi⟩:=rk.own0 hal i _ _ ei
      obtain ⟨a,ws0,f0,rfl,ha0,_,_,_⟩:=oi.list (by decide:om≠0)
      refine ⟨_,hσ0,.inl ⟨a,rfl,.inl ⟨⟨ws0,.inl (.inl ha0)⟩,?_⟩⟩⟩
      let cur (n:Nat):List PV:=rows'.take n++rows.drop n
      let fk:Fps:=λ l=>if [j].contains l then [] else fps l
      have ks0:KS M H fps H fk:=⟨λ _ _ h _=>h,λ _ h=>h,λ l b hb=>by
       have hb':b∈(if [j].contains l then [] else fps l):=hb
       split at hb'
       ·cases hb'
       ·exact .inl ⟨l,hb'⟩⟩
      let W:Nat->Nat->St->Hp->Prop:=λ n m σ' H'=>m=rows.length - n/\n<=rows.length/\∃ fps',Rep M ((kill [j] 0 ρ).set i (some (.lst (cur n),om))) σ' H' fps'/\σ'[i]?=some (some (.ref a))/\KS M H fps H' fps'
      have c0:cur 0=rows:=by show rows'.take 0++rows.drop 0=rows;simp
      refine ⟨W,⟨rows.length,by simp,jh1 _,fk,?_,hσ0,ks0⟩,?_⟩
      ·rw [c0]
       have:(kill [j] 0 ρ).set i (some (.lst rows,om))=kill [j] 0 ρ:=by
        have hg:(kill [j] 0 ρ)[i]=some (.lst rows,om):=by
         rw [jb9 hil] at ei
         exact Option.some.inj ei
        rw [<- hg]
        exact List.set_getElem_self hil
       rw [this]
       exact rk
      ·rintro n m σ' H' ⟨rfl,hn,fps',r',hσ',ks'⟩
       have gi:((kill [j] 0 ρ).set i (some (.lst (cur n),om)))[i]?=some (some (.lst (cur n),om)):=jb1 hil
       obtain ⟨v1,hσ1,ol⟩:=r'.own0 hal i _ _ gi
       rw [hσ'] at hσ1
       cases hσ1
       obtain ⟨a',ws,f,ev,ha,hfp,nac,hol⟩:=ol.list (by decide:om≠0)
       cases ev
       rw [zjp] at hol
       have lcur:(cur n).length=rows.length:=by
        show (rows'.take n++rows.drop n).length=_
        rw [ja8,jd1,je9]
        omega
       have lws:ws.length=rows.length:=by rw [hol.length,lcur]
       by_cases hlt:n < rows.length
       ·right
        obtain ⟨cells,er,er',hsz⟩:=zbi k rows rows' n ea hlt
        have ecur:(cur n)[n]?=some (.lst cells):=by
         show (rows'.take n++rows.drop n)[n]?=_
         have l1:(rows'.take n).length=n:=by rw [jd1];omega
         rw [jc9 (by omega),l1,jo0,List.getElem?_drop,Nat.add_zero]
         exact er
        obtain ⟨b,us,fc,ew,hb,hbf,oc,sc,nbc,nx⟩:=hol.row ecur
        refine ⟨⟨ws,.ref b,.inl (.inl ha),ew⟩,W (n + 1) (rows.length - (n + 1)),λ σ2 H2 w=>⟨_,by omega,w⟩,λ x H2 y=>?_⟩
        obtain ⟨rfl,y2⟩:=y
        have ex:=y2 ws (.inl (.inl ha))
        rw [ew] at ex
        cases ex
        have jlen:j < σ'.length\/¬ j < σ'.length:=Nat.lt_or_ge j σ'.length |>.imp id jq5.mpr
        have hjn:∀ p,((kill [j] 0 ρ).set i (some (.lst (cur n),om)))[j]?≠some (some p):=λ p e=>by
         rw [ja0 hij,zvk,jh0] at e
         cases e3:ρ[j]? with
         | none=>rw [e3] at e;cases e
         | some s=>rw [e3] at e;simp at e
        have r2:=r'.sigma (j:=j) (v:=.ref b) hjn hio
        show (zgz (tBM M.K "list" zjn (tVar j) (zbl (tC (.int k)) tNil))) _ (σ'.set j (some (.ref b))) H2
        rcases jlen with jl | jl
        ·refine ⟨.ref b,jb1 jl,zpu (.inl (.inl hb)),b,us,.int k,rfl,rfl,hb,by rw [oc.length];exact hsz,?_⟩
         have oc':OwnL M.K (upd H2 b (.lst (us++[.int k]))) (λ _=>True) (cells++[.int k]) om (us++[.int k]) fc:=by
          have u1:OwnL M.K (upd H2 b (.lst (us++[.int k]))) (λ _=>True) cells om us fc:=(oc.full' (Z':=λ _=>True)).at trivial ⟨.l us,hb⟩ nbc λ _ _ z=>absurd trivial z
          have:=u1.snoc (y:=.int k) (w:=.int k) (fy:=[]) (by rw [Own];exact ⟨rfl,rfl⟩) λ _ _ z=>nomatch z
          rw [jd9] at this
          exact this
         obtain ⟨f',sf,ol'⟩:=nx _ _ _ oc' λ _ z=>z
         have hab:a≠b:=λ z=>nac (by rw [z];exact hbf)
         have hbi:b∈fps' i:=by rw [hfp];exact ja1 _ hbf
         have hai:a∈fps' i:=by rw [hfp];exact ja3
         have kp:Keep (λ c=>c∈fps' i) H2 (upd H2 b (.lst (us++[.int k]))):=λ c o h n=>by rw [zqg (λ z=>n (by rw [z];exact hbi))];exact h
         have dm:∀ c,H2 c≠none->(upd H2 b (.lst (us++[.int k]))) c≠none:=λ c h=>by
          by_cases e:c=b
          ·rw [e,zqi];simp
          ·rw [zqg e];exact h
         have sub:∀ c∈a::f',c∈fps' i:=λ c hc=>by
          rcases jb3.mp hc with z | z
          ·rw [z];exact hai
          ·rw [hfp];exact ja1 _ (sf c z)
         have hσ2:(σ'.set j (some (.ref b)))[i]?=some (some (.ref a)):=by rw [ja0 (vb2 hij)];exact hσ'
         have hcn:(cur n).set n (.lst (cells++[.int k]))=cur (n + 1):=qd3 hlen hlt er'
         have own':Own M.K (upd H2 b (.lst (us++[.int k]))) (Zf M (λ l=>if l=i then a::f' else fps' l)) (.lst (cur (n + 1))) om (.ref a) (a::f'):=by
          rw [Own]
          refine ⟨a,ws,rfl,.inr ⟨by decide,f',by rw [zqg hab];exact ha,rfl,λ z=>nac (sf a z),?_⟩⟩
          rw [zjp,<- hcn]
          exact ol'.full'
         have rc:=Rep.change (x':=.lst (cur (n + 1))) (d':=om) (f':=a::f') hal r2 gi hσ2 kp dm sub (λ h=>rfl) own'
         have es:(((kill [j] 0 ρ).set i (some (.lst (cur n),om))).set i (some (.lst (cur (n + 1)),om)))=(kill [j] 0 ρ).set i (some (.lst (cur (n + 1)),om)):=jj1 ..
         rw [es] at rc
         refine ⟨rfl,by omega,_,rc,hσ2,ks'.trans ⟨λ c o h n=>kp c o h λ z=>n ⟨i,z⟩,dm,λ l c hc=>?_⟩⟩
         by_cases el:l=i
         ·simp only [if_pos el] at hc;exact .inl ⟨i,sub c hc⟩
         ·simp only [if_neg el] at hc;exact .inl ⟨l,hc⟩
        ·
         exact (jl (by
          have:ρ.length=σ'.length:=by rw [<- r'.len,jc0,zjb]
          rw [<- this]
          exact hjl)).elim
       ·left
        have en:n=rows.length:=by omega
        refine ⟨⟨ws,.inl (.inl ha),by rw [lws,en];exact jb4 _⟩,?_⟩
        have ec:cur n=rows':=by
         show rows'.take n++rows.drop n=rows'
         rw [en,List.drop_length,jd9,<- hlen,jj5]
        rw [ec] at r'
        exact q σ' H' fps' ks' r'
     ·exact q.elim
   | _=>exact q.elim
end
section
variable {M:Fm}{ρ ρ':Rho}{σ σ':St}{H H':Hp}{fps fps':Fps}{F F':Addr->Prop}{P P':List (Nat×V)}
end
section
variable {is:List Nat}{X:Cx}{M:Fm}{ρ ρ':Rho}{σ σ':St}{H H' H'':Hp}{fps fps' fps'':Fps}{vs vs':List Nat}{D:Ends}
def qmt:TSet:=λ o i v H Q=>∃ a H',o=.ref a/\DPut H a i v H'/\Q H'
def qo0:TSet:=λ o i v H Q=>qf5 o i v H Q\/qmt o i v H Q
theorem qow (hu:X.A.units + 1 < vi3):PSet X qmt:=by
 intro pins s σ H o i v ov iv u Q I ro ri rv h
 obtain ⟨a,H',rfl,g,q⟩:=h
 obtain rfl:ov=Value.ref a:=ro
 exact qe2 hu I g ri rv λ s' I'=>⟨H',I',q⟩
theorem PSet.or {t t':TSet} (h:PSet X t) (h':PSet X t'):PSet X (λ o i v H Q=>t o i v H Q\/t' o i v H Q):=by
 intro pins s σ H o i v ov iv u Q I ro ri rv q
 rcases q with q | q
 ·exact h pins s σ H o i v ov iv u Q I ro ri rv q
 ·exact h' pins s σ H o i v ov iv u Q I ro ri rv q
theorem qmn {K:Frag}{Z:Addr->Prop}{y:PV}{u:V}{d:Nat}{w:V}{fp:List Addr} (h:sV y=some u) (o:Own K H Z y d w fp):w=u/\zwn y=true:=by
 cases y <;> cases h <;> (rw [Own] at o;exact ⟨o.1,rfl⟩)
def putX (x:PV) (k y:PV):Option PV:=match x,k with
 | .lst xs,.int i=>(match ixN xs.length i with
  | some j=>some (.lst (xs.set j y))
  | none=>none)
 | .dct kvs,.tup ks=>(match keyL ks,sV y with
  | some k,some u=>if kvs.length < va4 then some (.dct (putK kvs k u)) else none
  | _,_=>none)
 | _,_=>none
def isL:PV->Bool
 | .lst _=>true
 | _=>false
def zbn (i:Nat) (fk f:Fx):Fs:=λ ρ=>match f ρ with
 | .ok (y,e,ρ1)=>(match ρ1[i]? with
  | some (some _)=>(match fk ρ1 with
   | .ok (k,_,ρ2)=>(match ρ2[i]? with
    | some (some (x,d))=>(match putX x k y with
     | some x'=>if d≠0/\zhn y=true then .nx (ρ2.set i (some (x',d))) else if d≠0/\e=om/\isL x=true then .nx (ρ2.set i (some (x',1))) else .no
     | none=>.no)
    | _=>.no)
   | _=>.no)
  | _=>.no)
 | .exc c=>.exc c
 | .no=>.no
theorem Rep.poke {i:Nat}{x x':PV}{d:Nat}{a:Addr}{o':HO}{f':List Addr}{H0:Hp}{fps0:Fps} (hal:∀ i,M.al i=[]) (k0:KS M H0 fps0 H fps) (r:Rep M ρ σ H fps) (hi:ρ[i]?=some (some (x,d))) (hσ:σ[i]?=some (some (.ref a))) (ha:a∈fps i) (hs:∀ b∈f',b∈fps i)
  (o:Own M.K (upd H a o') (Zf M (λ j=>if j=i then f' else fps j)) x' d (.ref a) f'):KS M H0 fps0 (upd H a o') (λ j=>if j=i then f' else fps j)/\Rep M (ρ.set i (some (x',d))) σ (upd H a o') (λ j=>if j=i then f' else fps j):=by
 have dm:∀ b,H b≠none->upd H a o' b≠none:=λ b hb=>by
  by_cases eb:b=a
  ·rw [eb,zqi];simp
  ·rw [zqg eb];exact hb
 refine ⟨⟨λ b u hb n=>?_,λ b hb=>dm b (k0.dom b hb),λ j b hb=>?_⟩,r.change hal hi hσ (λ b u hb n=>?_) dm hs (λ h=>r.msf i _ _ h hi) o⟩
 ·have hb1:=k0.keep b u hb n
  rw [zqg]
  ·exact hb1
  ·rintro rfl
   rcases k0.sub i b ha with z | z
   ·exact n z
   ·rw [z] at hb;cases hb
 ·by_cases ej:j=i
  ·simp only [if_pos ej] at hb;exact k0.sub i b (hs b hb)
  ·simp only [if_neg ej] at hb;exact k0.sub j b hb
 ·rw [zqg]
  ·exact hb
  ·rintro rfl;exact n ha
theorem qi5 {f fk:Fx}{vk:List Nat}{i:Nat} (hal:∀ i,M.al i=[]) (hm:M.Ms i=false) (hv:∀ i∈vs,M.Ms i=false) (hq:tS M (zbn i fk f) D σ H):tAsg (tE M f vs) (gSub (tVar i) (tE M fk vk) qo0) D σ H:=by
 obtain ⟨ρ,fps,rep,q⟩:=hq
 refine ⟨ρ,fps,rep,?_⟩
 unfold zbn at q
 cases ef:f ρ with
 | no=>rw [ef] at q;exact q
 | exc c=>rw [ef] at q;exact λ H' fps' k=>q _ H' fps' k.ks
 | ok p=>
  obtain ⟨y,e,ρ1⟩:=p
  rw [ef] at q
  intro w H1 fps1 fp k1 g1 rep1 o1 t1
  dsimp only at q
  cases e1:ρ1[i]? with
  | none=>rw [e1] at q;exact q.elim
  | some s1=>
   rw [e1] at q
   cases s1 with
   | none=>exact q.elim
   | some p1=>
   obtain ⟨x1,d1⟩:=p1
   dsimp only at q
   obtain ⟨v0,hσ,_⟩:=rep1.own i _ _ e1
   refine ⟨v0,hσ,ρ1,fps1,rep1,?_⟩
   cases ek:fk ρ1 with
   | no=>rw [ek] at q;exact q.elim
   | exc c=>rw [ek] at q;exact q.elim
   | ok p2=>
    obtain ⟨k,ek',ρ2⟩:=p2
    rw [ek] at q
    intro kv H2 fps2 f2 k2 g2 rep2 o2 t2
    dsimp only at q
    cases e2:ρ2[i]? with
    | none=>rw [e2] at q;exact q.elim
    | some s2=>
     rw [e2] at q
     cases s2 with
     | none=>exact q.elim
     | some p3=>
      obtain ⟨x,d⟩:=p3
      dsimp only at q
      cases ep:putX x k y with
      | none=>rw [ep] at q;exact q.elim
      | some x'=>
       rw [ep] at q
       dsimp only at q
       split at q
       ·rename_i hc
        obtain ⟨hd,hy⟩:=hc
        obtain ⟨v1,hσ1,ox⟩:=rep2.own0 hal i _ _ e2
        rw [hσ] at hσ1
        cases hσ1
        have k12:KS M H fps H2 fps2:=k1.ks.trans k2.ks
        unfold putX at ep
        split at ep
        ·rename_i xs n
         split at ep
         ·rename_i j ej
          cases ep
          rw [Own] at o2
          obtain ⟨rfl,_⟩:=o2
          obtain ⟨a,ws,fc,rfl,ha,hfp,nac,hol⟩:=ox.list hd
          have hai:a∈fps2 i:=by rw [hfp];exact ja3
          have ow:Own M.K H2 (Zf M fps2) y (pd d) w []:=(Own.flatA (d':=pd d) hy (k2.stay rep1 hv o1 t1.ndj)).2
          obtain ⟨fc',hs',hset⟩:=hol.set ow j
          have inI:∀ b,b∈a::fc'->b∈fps2 i:=λ b hb=>(jb3.mp hb).elim (λ z=>by rw [z];exact hai) λ z=>by rw [hfp];exact ja1 _ (hs' b z)
          have nz:∀ b,Zf M (λ j=>if j=i then a::fc' else fps2 j) b->Zf M fps2 b:=λ b h=>by
           rcases h with z | ⟨j,z⟩
           ·exact .inl z
           ·by_cases ej:j=i
            ·simp only [if_pos ej] at z;exact .inr ⟨i,inI b z⟩
            ·simp only [if_neg ej] at z;exact .inr ⟨j,z⟩
          refine .inl ⟨a,ws,n,j,rfl,rfl,ha,by rw [hol.length];exact ej,?_⟩
          have pk:=rep2.poke (o':=.lst (ws.set j w)) (x':=.lst (xs.set j y)) (f':=a::fc') hal k12 e2 hσ hai inI (by
           rw [Own]
           exact ⟨a,_,rfl,.inr ⟨hd,fc',zqi,rfl,λ z=>nac (hs' a z),hset.at (.inr ⟨i,hai⟩) ⟨.l ws,ha⟩ (λ z=>nac (hs' a z)) λ b _ n z=>n (nz b z)⟩⟩)
          exact q σ _ _ pk.1 pk.2
         ·cases ep
        ·rename_i kvs ks
         split at ep
         ·rename_i kk u ekk eu
          split at ep
          ·rename_i hl
           cases ep
           obtain ⟨rfl,_⟩:=qmn eu o1
           rw [Own] at o2
           obtain ⟨b,ws,rfl,hb,ol⟩:=o2
           have:=zjc ekk ol
           subst this
           have hx:∃ a,v0=.ref a/\H2 a=some (.dT kvs)/\fps2 i=[a]:=by
            rw [Own] at ox
            obtain ⟨a,ea,⟨d0,_⟩ | ⟨_,ha,hf⟩⟩:=ox
            ·exact absurd d0 hd
            ·exact ⟨a,ea,ha,hf⟩
           obtain ⟨a,rfl,ha,hf⟩:=hx
           have hai:a∈fps2 i:=by rw [hf];exact ja3
           refine .inr ⟨a,_,rfl,DPut.t ha hb hl,?_⟩
           have pk:=rep2.poke (o':=.dT (putK kvs kk w)) (x':=.dct (putK kvs kk w)) (f':=[a]) hal k12 e2 hσ hai (λ b hb=>by rw [jb6.mp hb];exact hai) (by
            rw [Own]
            exact ⟨a,rfl,.inr ⟨hd,zqi,rfl⟩⟩)
           exact q σ _ _ pk.1 pk.2
          ·cases ep
         ·cases ep
        ·cases ep
       ·split at q
        ·rename_i hc
         obtain ⟨hd,rfl,hx⟩:=hc
         obtain ⟨v1,hσ1,ox⟩:=rep2.own0 hal i _ _ e2
         rw [hσ] at hσ1
         cases hσ1
         cases x with
         | lst xs=>
          unfold putX at ep
          cases k with
          | int n=>
           dsimp only at ep
           split at ep
           ·rename_i j ej
            cases ep
            rw [Own] at o2
            obtain ⟨rfl,_⟩:=o2
            obtain ⟨a,ws,fc,rfl,ha,hfp,nac,hol⟩:=ox.list hd
            have hai:a∈fps2 i:=by rw [hfp];exact ja3
            have oy:=k2.stay rep1 hv o1 t1.ndj
            have n2:∀ b∈fp,¬ Zf M fps2 b:=λ b hb z=>by
             rcases z with z | ⟨j,z⟩
             ·exact t1.ndj b hb (.inl z)
             ·rcases k2.sub j b z with z | z
              ·exact t1.ndj b hb (.inr ⟨j,z⟩)
              ·obtain ⟨o,ho⟩:=Own.lsts y _ w fp o1 b hb
               rw [ho] at z
               cases z
            have hafp:a∉fp:=λ z=>n2 a z (.inr ⟨i,hai⟩)
            have hst:∃ j,a∈fps j:=⟨i,by have:=(k1.trans k2).same i hm;rw [<- this];exact hai⟩
            have rw2:Rep (M.plus fp) ρ2 σ H2 fps2:=rep.wide (λ i j hj=>by rw [hal i] at hj;cases hj) (k1.trans k2) (g1.trans g2) rep2 λ b hb=>⟨t1.new b hb,by obtain ⟨o,ho⟩:=Own.lsts y _ w fp oy b hb;rw [ho];simp,n2 b hb⟩
            have h2:∀ b∈fp,M.H₀ b=none/\¬ M.Zo b:=λ b hb=>⟨rep.h0' (t1.new b hb),λ z=>n2 b hb (.inl z)⟩
            let Z:Addr->Prop:=Zf M (λ j=>if j=i then [a] else fps2 j)
            have zsub:∀ b,Z b->Zf M fps2 b:=λ b h=>by
             rcases h with z | ⟨j,z⟩
             ·exact .inl z
             ·by_cases ej:j=i
              ·simp only [if_pos ej] at z
               rw [jb6.mp z]
               exact .inr ⟨i,hai⟩
              ·simp only [if_neg ej] at z;exact .inr ⟨j,z⟩
            have nf:∀ b∈fc,¬ Z b:=λ b hb z=>by
             have hbi:b∈fps2 i:=by rw [hfp];exact ja1 _ hb
             rcases z with z | ⟨j,z⟩
             ·exact rep2.zo i b hbi z
             ·by_cases ej:j=i
              ·simp only [if_pos ej] at z
               rw [jb6.mp z] at hb;exact nac hb
              ·simp only [if_neg ej] at z;exact rep2.dj i j (vb2 ej) b hbi z
            have za:Z a:=.inr ⟨i,by simp⟩
            have u1:=OwnL.freeze (Z':=Z) zsub xs _ ws fc nf hol
            have u2:=Own.freeze (Z':=Z) (λ b _=>trivial) y _ w fp (λ b hb z=>n2 b hb (zsub b z)) (Own.full (Z':=λ _=>True) y w fp oy)
            obtain ⟨f',hs',u3⟩:=(u1.at za ⟨.l ws,ha⟩ (λ z=>nomatch z) λ _ _ n=>n).set (u2.at (o:=.lst (ws.set j w)) za ⟨.l ws,ha⟩ (λ z=>nomatch z) λ _ _ n=>n) j
            obtain rfl:f'=[]:=List.eq_nil_iff_forall_not_mem.mpr λ b hb=>nomatch hs' b hb
            refine .inl ⟨a,ws,n,j,rfl,rfl,ha,by rw [hol.length];exact ej,?_⟩
            refine q σ _ _ ((k1.ks.trans k2.ks).write (i:=i) (f':=[]) (fp:=fp) hst λ b hb=>?_) (rw2.rewrite hal e2 hσ ha hfp (λ z=>nomatch z) (λ b hb=>nomatch hb) (by decide) (λ h=>by rw [hm] at h;cases h) h2 ?_)
            ·rcases jb3.mp hb with z | z
             ·exact .inl (by rw [z];exact hai)
             ·cases z
            ·rw [qaq]
             exact u3
           ·cases ep
          | _=>cases ep
         | _=>cases hx
        ·exact q.elim
end
section
variable {X:Cx}{W:St->Nat->Hp->Prop}
theorem qgb (hr:zhv X W) (t:xTab X.K=true) (hcalm:X.calm=true) {c:Nat}{C:Addr}{x m:Str}{np cpos pos p:Pos}{j:_} (e:zwf X.K c=some C) (hg:Gl X x) (hm:X.mg x=some (.ref C)) (hdb:(x == ("__debug__" : Str))=false):
  PS X (.Raise (some (.Call (.Name x np) [.Constant (.str m) j p] [] cpos)) none pos) (λ D σ H=>W σ c H):=by
 intro pins s σ H D I h
 obtain ⟨bm,N,nm,q,bs,hdct,sn,sub,ab,col,dd,k0,k1,k2,k3,k5,mN,hC,hN,hni,T,_⟩:=(qit I.ok.mod.kin t e).obj
 have FB:=PySem.F.excBase_ValueError
 have he:va9 [Expr.Constant (.str m) j p] X.env=(false,eval (.Constant (.str m) j p) X.env)::va9 [] X.env:=rfl
 refine wpAny_Raise_call_subU (C:=C) (nm:=nm) (q:=q) (N:=N) (bs:=bs) (bm:=bm) (hdct:=hdct) (sn:=sn) (sub:=sub) (ab:=ab) (col:=col) (dd:=dd) (k0:=k0) (k1:=k1) (k2:=k2) (k3:=k3) (k5:=k5)
  FB (show bmV.contains (.type "ValueError")=true by decide +kernel) FB (mN:=mN) (T.hasType FB.hasBase) (I.ok.hd hcalm) rfl hni (zjw I hg hm ⟨rfl,?_⟩ hdb)
 rw [he]
 refine Calls.evalArgs_plain (vd9 ((zxi qh6 zzy (by rfl)) cpos pins s σ H (λ vs H'=>H'=H/\vs.length=1) I ⟨rfl,rfl⟩) (λ us s2 hu=>?_) λ _ _ y=>y)
 obtain ⟨vs,H2,I2,rv,eH,hl⟩:=hu
 subst eH
 refine ⟨rfl,?_,I2.bk _ _ hC,hN.keeps I2.bk,T.keeps I2.bk,λ h' a hx=>hr pins σ H2 s2 c C a h' us I2 e hx h⟩
 show us.length<=va4
 rw [<- rv.length,hl]
 decide
end
section
variable {X:Cx}{pins pins1:List (Addr×Obj)}{σ:St}{H:Hp}{s:va3}{e:va2->va3->Prop}
theorem Cx.Ok.wish2 {p:List (Addr×Obj)} (o:X.Ok):L2.Cx.Ok { X with pn:=p,xe:=e }:=⟨o.mod,o.kind,o.glob,o.blt,o.above,o.inj,o.has,o.cab,o.hd,o.frames,o.stk,o.exf,o.bs,o.bsz,o.noex,o.exfs,o.funs,o.frf⟩
theorem Inv.into (I:L2.Inv X pins σ H s):L2.Inv { X with pn:=X.pn++pins,xe:=e } [] σ H s:=
 ⟨Cx.Ok.wish2 I.ok,I.os,I.bare,I.base,I.loc,I.cell,I.free,I.freeC,λ p hp=>I.pin p (by simpa using hp),I.hok,I.len⟩
theorem Inv.outof (ok:X.Ok) (I:L2.Inv { X with pn:=X.pn++pins,xe:=e } pins1 σ H s):L2.Inv X pins σ H s:=
 ⟨ok,I.os,I.bare,I.base,I.loc,I.cell,I.free,I.freeC,λ p hp=>I.pin p (ja9 _ hp),I.hok,I.len⟩
abbrev Cx.inh (X:Cx) (v:va2):Cx:={ X with A:=X.A.mark (some v),calm:=false,xe:=λ _ _=>False }
theorem Inv.inh (v:va2) (I:L2.Inv X pins σ H s):L2.Inv (Cx.inh X v) pins σ H s:=
 ⟨⟨I.ok.mod,I.ok.kind,I.ok.glob,I.ok.blt,I.ok.above,I.ok.inj,I.ok.has,I.ok.cab,(λ h=>nomatch h),I.ok.frames,I.ok.stk,I.ok.exf,I.ok.bs,I.ok.bsz,I.ok.noex,I.ok.exfs,I.ok.funs,I.ok.frf⟩,I.os,I.bare,I.base,I.loc,I.cell,I.free,I.freeC,I.pin,I.hok,I.len⟩
theorem Inv.outh {v:va2} (ok:X.Ok) (I:L2.Inv (Cx.inh X v) pins σ H s):L2.Inv X pins σ H s:=
 ⟨ok,I.os,I.bare,I.base,I.loc,I.cell,I.free,I.freeC,I.pin,I.hok,I.len⟩
theorem qkm {M:Model}{A:vc0}{E:va2->va3->Prop}{i:Nat}{x:Str}{pos:Pos}{Q:Unit->va3->Prop} (I:L2.Inv X pins σ H s) (hN:X.N.Nodup) (hi:X.N[i]?=some x) (hk:X.env.kindOf x=some .local)
  (h:∀ s',L2.Inv X pins (σ.set i none) H s'->Q () s'):vb1 M A (do bindName X.env x .none;unbindBehindTheSuite X.env x pos) Q E s:=by
 obtain ⟨m,hn,hl⟩:=id I.loc
 have hcls:(X.env.scope.kind == .class || (X.env.scope.kind == .module && X.env.locals != X.env.globals))=false:=by rw [I.ok.kind];rfl
 have hiσ:i < σ.length:=by rw [I.len];exact (ja7.mp hi).1
 have cne:=I.cne
 refine wpAny_nameGoes_keeps hk hn hcls λ h' v hn' hs=>?_
 have tracked:HOk X.prog X.w H h':=λ b ob e=>by
  refine (I.hok b ob e).stay (λ c w' hc q=>(hs.2 c ?_).trans q) (λ _ q=>q) λ _ _ q=>q
  rintro rfl
  rcases hc with rfl | hc
  ·rw [I.free] at e;cases e
  ·rw [I.free] at hc;cases hc
 refine h _ ⟨I.ok,I.os,I.bare,⟨λ b o e n hb hx=>?_,λ b o e n hb hx=>?_,I.base.free,λ b o e hx=>?_,I.base.tups,I.base.frzs,I.base.tbls⟩,⟨_,hn',λ j y v' e1 e2 e3=>?_⟩,λ y c e=>?_,I.free,I.freeC,λ p hp=>?_,tracked,by simpa using I.len⟩
 ·exact (hs.2 b (jc5 (jb5 (va6 e) I.ok.above))).trans (I.base.keep b o e n hb hx)
 ·obtain ⟨sl,e1⟩:=I.base.slot b o e n hb hx
  exact ⟨sl,(hs.2 b (jc5 (jb5 (va6 e) I.ok.above))).trans e1⟩
 ·obtain ⟨o',e1⟩:=I.base.there b o e hx
  exact ⟨o',(hs.2 b (jc5 (jb5 (va6 e) I.ok.above))).trans e1⟩
 ·by_cases hj:j=i
  ·subst hj
   rw [jb1 hiσ] at e2
   cases e2
  ·rw [ja0 (vb2 hj)] at e2
   obtain ⟨u',r',q⟩:=hl j y v' e1 e2 e3
   refine ⟨u',r',?_⟩
   rcases q with ⟨k,e⟩ | ⟨k,c,e,z⟩
   ·refine .inl ⟨k,?_⟩
    have:y≠x:=λ e=>hj (zme hN e1 (e ▸ hi))
    simp [this,e]
   ·exact .inr ⟨k,c,e,z.sameBut hs (cne y c e)⟩
 ·obtain ⟨w',z⟩:=I.cell y c e
  exact ⟨w',z.sameBut hs (cne y c e)⟩
 ·obtain ⟨e,n,ne,nf,d⟩:=I.pin p hp
  exact ⟨(hs.2 p.1 ne).trans e,n,ne,nf,d⟩
end
section
variable {M:Model}{A:vc0}{E:va2->va3->Prop}{K:Frag}
theorem qeq {s:va3}{a C D:Addr}{c d:Nat}{Q:Bool->va3->Prop} (xc:XC s.heap K c C) (xd:XC s.heap K d D) (ed:zwf K d=some D) (he:zyw a C s.heap) (hq:Q (isX c d) s):vb1 M A (excMatches (.ref a) (.ref D)) Q E s:=by
 obtain ⟨bm,N,nm,q,bs,hdct,sn,sub,ab,col,dd,k0,k1,k2,k3,k5,mN,hC,hN,hni,T,hin⟩:=xc.obj
 obtain ⟨bm',N',nm',q',bs',hdct',sn',sub',ab',col',dd',k0',k1',k2',k3',k5',mN',hD,hN',hni',T',_⟩:=xd.obj
 obtain ⟨oe,vs,hoe,hcls,hdt⟩:=he
 have hcB:(Value.ref D::bm').contains (.type "BaseException")=true:=by rw [List.contains_cons,T'.hasType PySem.F.excBase_ValueError.hasBase,Bool.or_true]
 have hcC:=hin d D ed
 have f:=tc_notTuple
 obtain ⟨h,g,dr,t,os⟩:=s
 unfold excMatches
 repeat (first | (with_reducible refine vg2 hoe ?_;rw [hcls]) | with_reducible refine vg2 hD ?_ | (with_reducible refine wpAny_isSubtype_exc hD ?_;rw [hcB]) | (with_reducible refine wpAny_isSubtype_exc hC ?_;rw [hcC]) | wp_step)
 cases hb:isX c d <;> (rw [hb] at hq;wp_walk;exact hq)
end
section
variable {X:Cx}{pins:List (Addr×Obj)}{σ:St}{H H1:Hp}{s:va3}{B:Heap}{a C:Addr}{a0:va2}{c:Nat}
theorem zpj {s':va3}{h:Heap} (I:L2.Inv X pins σ H s) (un:Un (frs X.stack) [] H H1 s.heap s'.heap) (hok:HOk X.prog X.w H1 s'.heap) (fl:vm7 B X.stack a (.ref C) a0 h) (up:s'.heap.UpToSlots h)
  (i1:∀ b o,s'.heap.get? b=some o->H1 b≠none->B.get? b=some o) (i2:∀ b o,s.heap.get? b=some o->H b=none->b∉frs X.stack->B.get? b=some o) (ha:H1 a=none) (hn:s.heap.get? a=none) (hd:∀ b,H b≠none->H1 b≠none) (ho:s'.os=s.os) (hg:vi1 s'.gens):
  L2.Inv X pins σ (upd H1 a (.ext (zyw a C))) { s' with heap:=h }/\zyw a C h:=by
 have ex:zyw a C h:=by
  obtain ⟨oe,vs,e1,e2,e3,_⟩:=fl.first
  exact ⟨oe,vs,e1,e2,e3⟩
 have trk:∀ b v,H1 b≠none->s'.heap.get? b=some v->h.get? b=some v:=λ b v hb e=>fl.1 b v (i1 b v e hb)
 have nea:∀ b o,s.heap.get? b=some o->b≠a:=λ b o e z=>by rw [z,hn] at e;cases e
 have nea1:∀ b o,H1 b=some o->b≠a:=λ b o e z=>by rw [z,ha] at e;cases e
 have fr:∀ b o,s.heap.get? b=some o->H b=none->b∈frs X.stack->∃ sl,h.get? b=some { o with slots:=sl }:=λ b o e n hb=>by
  obtain ⟨sl,e2⟩:=un.any e n (by simp)
  obtain ⟨_,o',ho',hnf⟩:=I.stack.mem hb
  rw [e] at ho';cases ho'
  obtain ⟨sl2,e3⟩:=up b _ e2 hnf
  exact ⟨sl2,e3⟩
 refine ⟨I.call' (s':={ s' with heap:=h }) (ch:=[]) ho ⟨λ b o e n hb _=>fl.1 b o (i2 b o e n hb),λ b o e n hb _=>fr b o e n hb,λ b o e n _=>?_,λ b o e _=>?_,λ b xs e=>?_,λ b o xs e=>?_,λ b ps e=>?_⟩ (λ b o e=>?_) hg (λ b z=>absurd z (by simp)),ex⟩
 ·rw [zqg (nea b o e)];exact un.free b o e n (by simp)
 ·by_cases h0:H b=none
  ·by_cases hb:b∈frs X.stack
   ·obtain ⟨sl,e2⟩:=fr b o e h0 hb
    exact ⟨_,e2⟩
   ·exact ⟨o,fl.1 b o (i2 b o e h0 hb)⟩
  ·obtain ⟨o2,e2⟩:=un.there b o e (by simp)
   exact ⟨o2,trk b o2 (hd b h0) e2⟩
 ·have:=un.tups b xs e
  rw [zqg (nea1 b _ this)];exact this
 ·have:=un.frzs b o xs e
  rw [zqg (nea1 b _ this)];exact this
 ·obtain ⟨m,e1⟩:=un.tbls b ps e
  exact ⟨m,by rw [zqg (nea1 b _ e1)];exact e1⟩
 ·by_cases eb:b=a
  ·subst eb
   rw [zqi] at e
   cases e
   refine ⟨ex,?_,λ h1 h2 x k=>?_⟩
   ·obtain ⟨o,_,e1,_⟩:=ex
    exact ⟨o,e1⟩
   ·obtain ⟨o,vs,e1,e2⟩:=x
    exact ⟨o,vs,k o e1,e2⟩
  ·rw [zqg eb] at e
   refine (hok b o e).stay (λ d v hd q=>trk d v ?_ q) (λ d q=>?_) λ d xs q=>?_
   ·rcases hd with rfl | hd
    ·rw [e];simp
    ·rw [hd];simp
   ·rw [zqg (nea1 d _ q)];exact q
   ·rw [zqg (nea1 d _ q)];exact q
def WT (K:Frag) (d i j:Nat) (D:Ends) (σ₀:St):St->Nat->Hp->Prop:=λ σ c H'=>σ=σ₀/\isX c d=true/\∀ a C,H' a=none->zwf K c=some C->D.nx (((σ.set j (some (.ref a))).set i (some (.ref a))).set j none) (upd H' a (.ext (zyw a C)))
theorem qga {tb:(St->Nat->Hp->Prop)->TS}{body:List Stmt}{y n x:Str}{np hpos px pn pa pos:Pos}{d:Nat}{Dd:Addr}{i j:Nat} (t:xTab X.K=true) (hst:X.stack=X.env::X.outer) (hfr:X.env.frame=some X.env.locals) (hN:X.N.Nodup) (hi:X.N[i]?=some x) (hj:X.N[j]?=some n) (hij:i≠j)
  (hx:Loc X.env.scope x) (hn:X.env.kindOf n=some .local) (hfn:∀ z,X.fn z=true) (ed:zwf X.K d=some Dd) (hg:Gl X y) (hm:X.mg y=some (.ref Dd)) (hdb:(y == ("__debug__" : Str))=false) (hdn:(n == ("__debug__" : Str))=false) (hcn:(n == ("__classdict__" : Str))=false)
  (hb:∀ pn' xe' W',zbj (CXr X.prog X.w X.K) { X with pn:=pn',xe:=xe' } W'->vl5 (vb3 X.prog X.w) X.A X.env xe'->PSs { X with pn:=pn',xe:=xe' } body (tb W')):
  PS X (.Try body [.ExceptHandler (some (.Name y np)) (some n) [.Assign [.Name x px] (.Name n pn) pa] hpos] [] [] pos) (λ D σ H=>tb (WT X.K d i j D σ) D σ H):=by
 intro pins s σ H D I h
 refine wpAny_Try_except (vd9 (hb (X.pn++pins) _ (WT X.K d i j D σ) ?_ PassesOwn.looking [] s σ H D (Inv.into I) h) (λ f s1 hs=>?_) λ e s1 he=>he)
 ·
  intro pins1 σ1 H1 s1 e s' I1 hx'
  obtain ⟨a,C,c,H',B,a0,rfl,hc,ho,hg',un,hok,ha,hn',fl,i1,i2,hd,hE⟩:=hx'
  obtain ⟨rfl,hcd,hD⟩:WT X.K d i j D σ σ1 c H':=hE
  have I2:L2.Inv X pins σ1 H1 s1:=Inv.outof I.ok I1
  have fl':vm7 B (X.env::X.outer) a (.ref C) a0 s'.heap:=by rw [<- hst];exact fl
  refine wpAny_looks_onW (by rw [I.ok.frames,hst]) hfr fl' λ h4 held4 up4=>?_
  refine wpAny_landsW held4 λ h5 fl5 up5=>?_
  have up45:=up4.trans up5
  obtain ⟨I5,x5⟩:=zpj I2 un hok (by rw [hst];exact fl5) up45 i1 i2 ha hn' hd ho hg'
  have I5':=Inv.inh (.ref a) I5
  refine wpAny_handleBy_cons (codeAny_handlers_test (zjw I5' hg hm ?_ hdb)) (by intro q;cases q)
  refine qeq (qit I5.kIn t hc) (qit I5.kIn t ed) ed x5 ?_
  rw [hcd]
  refine codeAny_handlers_suite_as ?_
  refine lands_againW fl5 λ h6 fl6 up6=>?_
  obtain ⟨I6,x6⟩:=zpj I2 un hok (by rw [hst];exact fl6) (up45.trans up6) i1 i2 ha hn' hd ho hg'
  refine zpv (v:=.ref a) I6 hN hj (.inl hn) rfl (λ s7 I7=>?_) (.inl (hfn n))
  have hjl:j < σ1.length:=by rw [I2.len];exact (ja7.mp hj).1
  have pse:PS (Cx.inh X (.ref a)) (.Assign [.Name x px] (.Name n pn) pa) (tAsg (tVar j) (zvo i)):=qam hN hi hx (qh4 hj (.inl hn) hdn hcn) rfl (.inl (hfn x))
  have run:=(zvr pse) pins s7 _ _ { nx:=λ σ' H''=>σ'=(σ1.set j (some (.ref a))).set i (some (.ref a))/\H''=upd H' a (.ext (zyw a C)),rt:=λ _ _=>False } (Inv.inh (.ref a) I7) ⟨.ref a,by rw [jb1 hjl],rfl,rfl⟩
  refine vd9 run (λ f s8 hs=>?_) λ _ _ z=>z.elim
  cases f with
  | next=>
   obtain ⟨σ',H'',I8,rfl,rfl⟩:=hs
   refine qkm (Inv.outh I.ok I8) hN hj hn λ s9 I9=>?_
   exact ⟨_,_,I9,hD a C ha hc⟩
  | brk=>obtain ⟨_,_,_,z⟩:=hs;exact z.elim
  | cont=>obtain ⟨_,_,_,z⟩:=hs;exact z.elim
  | ret u=>obtain ⟨_,_,_,_,_,z⟩:=hs;exact z.elim
 ·cases f with
  | next=>
   obtain ⟨σ',H',I',q⟩:=hs
   exact vh0 ⟨σ',H',Inv.outof I.ok I',q⟩
  | brk=>
   obtain ⟨σ',H',I',q⟩:=hs
   exact ⟨σ',H',Inv.outof I.ok I',q⟩
  | cont=>
   obtain ⟨σ',H',I',q⟩:=hs
   exact ⟨σ',H',Inv.outof I.ok I',q⟩
  | ret u=>
   obtain ⟨v,σ',H',I',r,q⟩:=hs
   exact ⟨v,σ',H',Inv.outof I.ok I',r,q⟩
end
section
variable {is:List Nat}{X:Cx}{M:Fm}{ρ ρ':Rho}{σ σ':St}{H H' H'':Hp}{fps fps' fps'':Fps}{vs vs':List Nat}{D:Ends}
def sExc (c:Nat):Fs:=λ _=>.exc c
theorem qlw {c:Nat} (hq:tS M (sExc c) D σ H):M.W σ c H:=by
 obtain ⟨ρ,fps,rep,q⟩:=hq
 exact q σ H fps KS.refl
theorem ql3 {c:Nat} (hq:tQ M (sExc c) D σ H):M.W σ c H:=by
 obtain ⟨ρ,fps,rep,q⟩:=hq
 exact q H fps KS.refl
def RrOk (M:Fm) (D:Ends) (σ:St) (H:Hp) (fps:Fps):Rs->Prop
 | .exc c=>∀ H' fps',KD M H fps H' fps'->M.W σ c H'
 | .nx ρ'=>RsOk M D H fps (.nx ρ')
 | .rt x d ρ'=>RsOk M D H fps (.rt x d ρ')
 | _=>False
def tR (M:Fm) (f:Fs):TS:=λ D σ H=>∃ ρ fps,Rep M ρ σ H fps/\RrOk M D σ H fps (f ρ)
theorem RrOk.from {r:Rs} (k1:KD M H fps H' fps') (q:RrOk M D σ H fps r):RrOk M D σ H' fps' r:=by
 cases r with
 | no=>exact q
 | exc c=>exact λ H2 fps2 k=>q H2 fps2 (k1.trans k)
 | rt x d ρ2=>exact RsOk.from (r:=.rt x d ρ2) k1.ks q
 | nx ρ2=>exact RsOk.from (r:=.nx ρ2) k1.ks q
 | bk ρ2=>exact q
 | ct ρ2=>exact q
theorem qi9 {f:Fx} (hq:tR M (zzx f) D σ H):zgz (tE M f vs) D σ H:=by
 obtain ⟨ρ,fps,rep,q⟩:=hq
 cases ef:f ρ with
 | ok p=>
  refine qcm (M:=M) ⟨ρ,fps,rep,?_⟩
  unfold zzx at q ⊢
  rw [ef] at q ⊢
  exact q
 | no=>
  unfold zzx at q
  rw [ef] at q
  exact q.elim
 | exc c=>
  unfold zzx at q
  rw [ef] at q
  refine ⟨ρ,fps,rep,?_⟩
  rw [ef]
  exact q
theorem qly {f:Fx}{i:Nat}{ms:Bool} (hal:∀ i,M.al i=[]) (hv:∀ i∈vs,M.Ms i=false) (hms:M.Ms i=ms) (hio:M.Fre i) (hq:tR M (sSet ms i f vs) D σ H):tAsg (tE M f vs) (zvo i) D σ H:=by
 obtain ⟨ρ,fps,rep,q⟩:=hq
 cases ef:f ρ with
 | ok p=>
  refine qch hal hv hms hio ⟨ρ,fps,rep,?_⟩
  cases er:sSet ms i f vs ρ with
  | nx ρ'=>rw [er] at q;exact q
  | rt x d ρ'=>rw [er] at q;exact q
  | exc c=>
   obtain ⟨x,d,ρ1⟩:=p
   unfold sSet at er
   rw [ef] at er
   dsimp only at er
   split at er <;> cases er
  | no=>rw [er] at q;exact q.elim
  | bk ρ'=>rw [er] at q;exact q.elim
  | ct ρ'=>rw [er] at q;exact q.elim
 | no=>
  unfold sSet at q
  rw [ef] at q
  exact q.elim
 | exc c=>
  unfold sSet at q
  rw [ef] at q
  refine ⟨ρ,fps,rep,?_⟩
  rw [ef]
  exact q
theorem qou {c:Fb}{f g:Fs} (hq:tR M (sIf c f g) D σ H):tIfS (tT M c) (tR M f) (tR M g) D σ H:=by
 obtain ⟨ρ,fps,rep,q⟩:=hq
 refine ⟨ρ,fps,rep,?_⟩
 unfold sIf at q
 cases ec:c ρ with
 | no=>rw [ec] at q;exact q
 | exc c=>rw [ec] at q;exact q
 | ok p=>
  obtain ⟨b,ρ1⟩:=p
  rw [ec] at q
  intro H1 fps1 k1 g1 rep1
  dsimp only at q
  cases b with
  | true=>exact ⟨ρ1,fps1,rep1,RrOk.from k1 q⟩
  | false=>exact ⟨ρ1,fps1,rep1,RrOk.from k1 q⟩
def clr (ms:List Nat) (ρ:Rho):Bool:=ms.all λ k=>match ρ[k]? with
 | some (some (.non,_))=>true
 | some (some _)=>false
 | _=>true
def sTry (d i j:Nat) (ms:List Nat) (b:Fs):Fs:=λ ρ=>match b ρ with
 | .nx ρ'=>.nx ρ'
 | .rt y e ρ'=>.rt y e ρ'
 | .exc c=>if isX c d=true/\i < ρ.length/\clr ms ρ=true then .nx ((ρ.set i (some (.exn c,om))).set j none) else .no
 | _=>.no
def Fm.want (M:Fm) (W':St->Nat->Hp->Prop):Fm:={ M with W:=W' }
theorem Rep.want {W':St->Nat->Hp->Prop} (r:Rep M ρ σ H fps):Rep (M.want W') ρ σ H fps:=⟨r.own,r.non,r.dj,r.zo,r.fr,r.zd,r.len,r.msf,r.h0,r.iov⟩
theorem Rep.unwant {W':St->Nat->Hp->Prop} (r:Rep (M.want W') ρ σ H fps):Rep M ρ σ H fps:=⟨r.own,r.non,r.dj,r.zo,r.fr,r.zd,r.len,r.msf,r.h0,r.iov⟩
theorem Rep.gone {j:Nat} (hal:∀ i,M.al i=[]) (r:Rep M ρ σ H fps) (hio:M.Fre j):Rep M (ρ.set j none) (σ.set j none) H (λ k=>if k=j then [] else fps k):=by
 have sub:∀ k,∀ a∈(if k=j then [] else fps k),a∈fps k:=λ k a h=>by
  by_cases e:k=j
  ·rw [if_pos e] at h;cases h
  ·rw [if_neg e] at h;exact h
 have get:∀ k p,(ρ.set j none)[k]?=some (some p)->k≠j/\ρ[k]?=some (some p):=λ k p e=>by
  by_cases ek:k=j
  ·subst ek
   by_cases hl:k < ρ.length
   ·rw [jb1 hl] at e;cases e
   ·rw [List.set_eq_of_length_le (by omega)] at e
    rw [je7 (by omega)] at e;cases e
  ·rw [ja0 (vb2 ek)] at e;exact ⟨ek,e⟩
 refine ⟨λ k x d e=>?_,λ k h=>?_,λ k l hkl a ha hb=>r.dj k l hkl a (sub k a ha) (sub l a hb),λ k a ha=>r.zo k a (sub k a ha),λ k hk a ha=>r.fr k hk a (sub k a ha),r.zd,by rw [jc0,jc0];exact r.len,λ k x d hk e=>r.msf k x d hk (get k _ e).2,r.h0,?_⟩
 ·obtain ⟨ek,e'⟩:=get k _ e
  obtain ⟨v,hv,o⟩:=r.own k x d e'
  refine ⟨v,by rw [ja0 (vb2 ek)];exact hv,?_⟩
  rw [if_neg ek]
  refine o.weak λ a h=>?_
  rcases h with h | ⟨l,nl,h⟩
  ·exact .inl h
  ·exact .inr ⟨l,nl,sub l a h⟩
 ·by_cases ek:k=j
  ·rw [if_pos ek]
  ·rw [if_neg ek]
   exact r.non k λ p e=>h p (by rw [ja0 (vb2 ek)];exact e)
 ·refine ⟨λ v hv=>?_,λ p hp=>?_⟩
  ·have:=r.iov.1 v hv
   have h0:=hio.1 (by rw [hv];simp)
   rw [ja0 h0]
   exact this
  ·rw [ja0 (hio.2 p hp).symm]
   exact r.iov.2 p hp
theorem qlr {d i j:Nat}{ms:List Nat}{b:Fs} (hal:∀ i,M.al i=[]) (hms:∀ i,M.Ms i=ms.contains i) (hmi:M.Ms i=false) (hij:i≠j) (hoi:M.Fre i) (hoj:M.Fre j) (hq:tS M (sTry d i j ms b) D σ H):tR (M.want (WT M.K d i j D σ)) b D σ H:=by
 obtain ⟨ρ,fps,rep,q⟩:=hq
 refine ⟨ρ,fps,rep.want,?_⟩
 unfold sTry at q
 have ks:∀ {H':Hp}{fps':Fps},KS (M.want (WT M.K d i j D σ)) H fps H' fps'->KS M H fps H' fps':=λ k=>⟨k.keep,k.dom,k.sub⟩
 cases eb:b ρ with
 | no=>rw [eb] at q;exact q
 | bk ρ'=>rw [eb] at q;exact q
 | ct ρ'=>rw [eb] at q;exact q
 | nx ρ'=>rw [eb] at q;exact λ σ' H' fps' k r=>q σ' H' fps' (ks k) r.unwant
 | rt x e ρ'=>rw [eb] at q;exact λ v σ' H' fps' fp k r o hf=>q v σ' H' fps' fp (ks k) r.unwant o hf
 | exc c=>
  rw [eb] at q
  dsimp only at q
  split at q
  ·rename_i hc
   intro H' fps' k
   refine ⟨rfl,hc.1,λ a C ha hC=>?_⟩
   have kk:∀ b o,H b=some o->H' b=some o:=λ b o h=>k.keep b o h λ ⟨l,hl,hb⟩=>by
    have hl:M.Ms l=true:=hl
    rw [hms l] at hl
    have hm:l∈ms:=by simpa using hl
    have hc3:=jc7.mp hc.2.2 l hm
    have e:fps l=[]:=by
     cases el:ρ[l]? with
     | none=>exact rep.non l λ p z=>by rw [el] at z;cases z
     | some q=>
      cases q with
      | none=>exact rep.non l λ p z=>by rw [el] at z;cases z
      | some p=>
       obtain ⟨x,dx⟩:=p
       rw [el] at hc3
       cases x <;> first | (obtain ⟨v,_,o⟩:=rep.own l _ _ el;rw [Own] at o;exact o.2) | exact nomatch hc3
    rw [e] at hb
    cases hb
   have k2:∀ b o,H b=some o->upd H' a (.ext (zyw a C)) b=some o:=λ b o h=>by
    rw [zqg (zwu (kk b o h) ha)];exact kk b o h
   have r2:=(rep.grow k2).bind1 (al:=[]) (i:=i) (y:=.exn c) (v:=.ref a) (by rw [Own];exact ⟨rfl,a,C,rfl,hC,zqi⟩) hc.2.1 ⟨hmi,hoi,hal i,λ l m hm=>by rw [hal l] at hm;cases hm⟩
   have r3:=r2.gone (j:=j) hal hoj
   have es:((σ.set j (some (V.ref a))).set i (some (V.ref a))).set j none=(σ.set i (some (V.ref a))).set j none:=by
    rw [List.set_comm _ _ (vb2 hij),jj1]
   rw [es]
   refine q _ _ _ ⟨λ b o h _=>k2 b o h,λ b h=>?_,λ l b hb=>?_⟩ r3
   ·cases e:H b with
    | none=>exact absurd e h
    | some o=>rw [k2 b o e];simp
   ·by_cases e1:l=j
    ·simp only [if_pos e1] at hb;cases hb
    ·simp only [if_neg e1] at hb
     by_cases e2:l=i
     ·simp only [if_pos e2] at hb;cases hb
     ·simp only [if_neg e2] at hb;exact .inl ⟨l,hb⟩
  ·exact q.elim
end
section
variable {X:Cx}{M:Fm}{ρ:Rho}{σ:St}{H:Hp}{fps:Fps}
end
def zkz (i j:Nat) (f:Fx):Fs:=λ ρ=>match ρ[i]?,ρ[j]? with
 | some (some (.lst _,_ + 1)),some (some (.lst _,_ + 1))=>(match f ρ with
  | .ok (.int k,_,ρ1)=>(match ρ1[i]?,ρ1[j]? with
   | some (some (.lst xs,d)),some (some (.lst ys,e))=>(match vj4 k ys.length with
    | some n=>(match ys[n]? with
     | some z=>if d≠0/\e≠0/\zhn z=true/\xs.length < va4/\-(2 ^ 63)<=k/\k < 2 ^ 63 then .nx ((ρ1.set j (some (.lst (ys.eraseIdx n),e))).set i (some (.lst (xs++[z]),d))) else .no
     | none=>.no)
    | none=>.no)
   | _,_=>.no)
  | _=>.no)
 | _,_=>.no
theorem OwnL.erase {K:Frag}{H:Hp}{Z:Addr->Prop}{d:Nat}{z:PV}:∀ {xs:List PV}{ws:List V}{f:List Addr}{n:Nat},OwnL K H Z xs d ws f->xs[n]?=some z->∃ w fz fr,ws[n]?=some w/\Own K H Z z d w fz/\OwnL K H Z (xs.eraseIdx n) d (ws.eraseIdx n) fr/\∀ a∈fr,a∈f
 | [],_,_,_,_,e=>by cases e
 | y::ys,ws,f,n,h,e=>by
  rw [OwnL] at h
  obtain ⟨v,s,f1,f2,rfl,rfl,dj,h1,h2⟩:=h
  cases n with
  | zero=>cases e;exact ⟨v,f1,f2,rfl,h1,h2,λ a ha=>ja2 _ ha⟩
  | succ n=>
   obtain ⟨w,fz,fr,e1,o,ol,sb⟩:=h2.erase (n:=n) (by simpa using e)
   refine ⟨w,fz,f1++fr,by simpa using e1,o,?_,λ a ha=>(jc4.mp ha).elim (λ z=>ja9 _ z) λ z=>ja2 _ (sb a z)⟩
   show OwnL K H Z (y::ys.eraseIdx n) d (v::s.eraseIdx n) (f1++fr)
   rw [OwnL]
   exact ⟨v,_,f1,fr,rfl,rfl,λ a ha z=>dj a ha (sb a z),h1,ol⟩
section
variable {M:Fm}{ρ ρ':Rho}{σ:St}{H H':Hp}{fps:Fps}{vs:List Nat}
theorem qcn {f:Fx}{i j:Nat}{D:Ends} (hal:∀ i,M.al i=[]) (hne:i≠j) (hq:tS M (zkz i j f) D σ H):
  zgz (tBM M.K "list" zjn (tVar i) (zbl (tBM M.K "list" qh2 (tVar j) (zbl (tE M f vs) tNil)) tNil)) D σ H:=by
 obtain ⟨ρ,fps,rep,q⟩:=hq
 unfold zkz at q
 split at q
 ·rename_i x0 d0 y0 g0 ei ej
  obtain ⟨v,hi,o⟩:=rep.own0 hal i _ _ ei
  obtain ⟨a,ws0,fc0,rfl,ha0,_,_,_⟩:=o.list (jj3 _)
  obtain ⟨v2,hj,o2⟩:=rep.own0 hal j _ _ ej
  obtain ⟨b,us0,gc0,rfl,hb0,_,_,_⟩:=o2.list (jj3 _)
  refine ⟨_,hi,zpu (.inl (.inl ha0)),_,hj,zpu (.inl (.inl hb0)),ρ,fps,rep,?_⟩
  cases ef:f ρ with
  | no=>rw [ef] at q;exact q.elim
  | exc c=>rw [ef] at q;exact q.elim
  | ok p=>
   obtain ⟨y,e,ρ1⟩:=p
   rw [ef] at q
   intro w H1 fps1 fp k1 g1 rep1 o1 t1
   cases y with
   | int k=>
    dsimp only at q
    split at q
    ·rename_i xs d ys e' ex ey
     split at q
     ·rename_i n hn
      split at q
      ·rename_i z hz
       split at q
       ·rename_i hc
        obtain ⟨hd,he,hfl,hlen,hk1,hk2⟩:=hc
        rw [Own] at o1
        obtain ⟨rfl,_⟩:=o1
        obtain ⟨v',hi',ox⟩:=rep1.own0 hal i _ _ ex
        rw [hi] at hi';cases hi'
        obtain ⟨a',ws,fc,ev,ha,hfp,nac,hol⟩:=ox.list hd
        cases ev
        obtain ⟨v',hj',oy⟩:=rep1.own0 hal j _ _ ey
        rw [hj] at hj';cases hj'
        obtain ⟨b',us,gc,ev,hb,hgp,nbc,hyl⟩:=oy.list he
        cases ev
        obtain ⟨u,fz,fr,eu,oz,oer,sb⟩:=hyl.erase hz
        have hbj:b∈fps1 j:=by rw [hgp];exact ja3
        refine ⟨b,us,k,n,u,rfl,rfl,hb,hk1,hk2,by rw [hyl.length];exact hn,eu,?_⟩
        have inJ:∀ c,c∈b::fr->c∈fps1 j:=λ c hc=>(jb3.mp hc).elim (λ z=>by rw [z];exact hbj) λ z=>by rw [hgp];exact ja1 _ (sb c z)
        have nz:∀ c,Zf M (λ l=>if l=j then b::fr else fps1 l) c->Zf M fps1 c:=λ c h=>by
         rcases h with z | ⟨l,z⟩
         ·exact .inl z
         ·by_cases el:l=j
          ·simp only [if_pos el] at z;exact .inr ⟨j,inJ c z⟩
          ·simp only [if_neg el] at z;exact .inr ⟨l,z⟩
        obtain ⟨kk,r2⟩:=rep1.poke (o':=.lst (us.eraseIdx n)) (x':=.lst (ys.eraseIdx n)) (f':=b::fr) hal k1.ks ey hj hbj inJ (by
         rw [Own]
         exact ⟨b,_,rfl,.inr ⟨he,fr,zqi,rfl,λ z=>nbc (sb b z),oer.at (.inr ⟨j,hbj⟩) ⟨.l us,hb⟩ (λ z=>nbc (sb b z)) λ c _ n z=>n (nz c z)⟩⟩)
        have oz2:Own M.K (upd H1 b (.lst (us.eraseIdx n))) (Zf M (λ l=>if l=j then b::fr else fps1 l)) z (pd d) u []:=by
         obtain ⟨rfl,oz'⟩:=Own.flatA (Z':=Zf M fps1) (d':=pd d) hfl oz
         exact oz'.at (.inr ⟨j,hbj⟩) ⟨.l us,hb⟩ (λ z=>nomatch z) λ c _ n z=>n (nz c z)
        have ex2:(ρ1.set j (some (.lst (ys.eraseIdx n),e')))[i]?=some (some (.lst xs,d)):=by rw [ja0 (vb2 hne)];exact ex
        obtain ⟨v',hi',ox2⟩:=r2.own0 hal i _ _ ex2
        rw [hi] at hi';cases hi'
        obtain ⟨a',ws2,fc2,ev,ha2,hfp2,nac2,hol2⟩:=ox2.list hd
        cases ev
        have hai2:a∈(λ l=>if l=j then b::fr else fps1 l) i:=by show a∈(if i=j then b::fr else fps1 i);rw [hfp2];exact ja3
        refine ⟨a,ws2,u,rfl,rfl,ha2,by rw [hol2.length];exact hlen,?_⟩
        have hsn:=hol2.snoc oz2 (λ _ _ z=>nomatch z)
        rw [jd9] at hsn
        have nz2:∀ c,Zf M (λ l=>if l=i then a::fc2 else (λ l=>if l=j then b::fr else fps1 l) l) c->Zf M (λ l=>if l=j then b::fr else fps1 l) c:=λ c h=>by
         rcases h with z | ⟨l,z⟩
         ·exact .inl z
         ·by_cases el:l=i
          ·simp only [if_pos el] at z;exact .inr ⟨i,by show c∈(if i=j then b::fr else fps1 i);rw [hfp2];exact z⟩
          ·simp only [if_neg el] at z;exact .inr ⟨l,z⟩
        have pk:=r2.poke (o':=.lst (ws2++[u])) (x':=.lst (xs++[z])) (f':=a::fc2) hal kk ex2 hi hai2 (λ c hc=>by show c∈(if i=j then b::fr else fps1 i);rw [hfp2];exact hc) (by
         rw [Own]
         exact ⟨a,_,rfl,.inr ⟨hd,fc2,zqi,rfl,nac2,hsn.at (.inr ⟨i,hai2⟩) ⟨.l ws2,ha2⟩ nac2 λ c _ n z=>n (nz2 c z)⟩⟩)
        exact q σ _ _ pk.1 pk.2
       ·exact q.elim
      ·exact q.elim
     ·exact q.elim
    ·exact q.elim
   | _=>exact q.elim
 ·exact q.elim
end
def qa5:Expr->Bool
 | .ListComp _ _ _ _=>true
 | .SetComp _ _ _ _=>true
 | .DictComp _ _ _ _ _=>true
 | _=>false
def qpg:Expr->Bool
 | .Tuple _ _ _=>true
 | .List _ _=>true
 | _=>false
def zqs (d:Stmt->Option Fs):List Stmt->Option Fs
 | []=>some sNil
 | [s]=>d s
 | s::r=>match d s,zqs d r with
  | some f,some g=>some (sSeq f g)
  | _,_=>none
def locB (S:Sx) (x:Str):Bool:=zwc S.sc x .local || zwc S.sc x .cell
def zbp (S:Sx) (i:Nat):Bool:=(decide (i≠0) || !S.msF 0) && !S.pn.contains i
def qmp (iw:Iw) (asg:PV->Rho->Option Rho) (body:Fs):Fs:=match iw with
 | .rng en fa _=>zza en fa asg body
 | .seq f vs=>zzw f vs asg body
 | .vw _ _ _=>sNo
def zjj (S:Sx):List Expr->Option (List Nat)
 | []=>some []
 | .Name x _::r=>match S.slot x,zjj S r with
  | some i,some is=>if locB S x=true/\zbp S i=true/\S.msF i=false then some (i::is) else none
  | _,_=>none
 | _=>none
def zfx (S:Sx) (is v:List Nat):Sx:={ S with al:=(jd0 S.N.length).map λ j=>if is.contains j then v else S.alF j }
def rzE:Expr->Option Str
 | .Call f es ks _=>(match nmE f with
  | some x=>(match es with
   | [e]=>(match e with
    | .Constant k _ _=>(match k with
     | .str _=>(match ks with
      | []=>some x
      | _::_=>none)
     | _=>none)
    | _=>none)
   | _=>none)
  | none=>none)
 | _=>none
theorem qmq {e:Expr}{x:Str} (h:rzE e=some x):∃ np m j p cpos,e=.Call (.Name x np) [.Constant (.str m) j p] [] cpos:=by
 unfold rzE at h
 split at h
 ·split at h
  ·rename_i hx
   obtain ⟨np,rfl⟩:=zzg hx
   split at h
   ·split at h
    ·split at h
     ·split at h
      ·cases h;exact ⟨_,_,_,_,_,rfl⟩
      ·cases h
     ·cases h
    ·cases h
   ·cases h
  ·cases h
 ·cases h
def rzOf:Option Expr->Option Expr->Option Str
 | some e,none=>rzE e
 | _,_=>none
theorem qc3 {e c:Option Expr}{x:Str} (h:rzOf e c=some x):∃ np m j p cpos,e=some (.Call (.Name x np) [.Constant (.str m) j p] [] cpos)/\c=none:=by
 unfold rzOf at h
 split at h
 ·obtain ⟨np,m,j,p,cpos,rfl⟩:=qmq h
  exact ⟨np,m,j,p,cpos,rfl,rfl⟩
 ·cases h
def asE:Stmt->Option (Str×Expr)
 | .Assign ts e _=>(match ts with
  | [t]=>(nmE t).map λ x=>(x,e)
  | _=>none)
 | _=>none
theorem qir {st:Stmt}{x:Str}{e:Expr} (h:asE st=some (x,e)):∃ px pa,st=.Assign [.Name x px] e pa:=by
 unfold asE at h
 split at h
 ·split at h
  ·obtain ⟨y,hy,e2⟩:=jb7.mp h
   cases e2
   obtain ⟨px,rfl⟩:=zzg hy
   exact ⟨_,_,rfl⟩
  ·cases h
 ·cases h
def hdE:vl6->Option (Str×Option Str×Str×Expr)
 | .ExceptHandler ty n body _=>(match ty with
  | some ty=>(match nmE ty with
   | some y=>(match body with
    | [st]=>(asE st).map λ p=>(y,n,p.1,p.2)
    | _=>none)
   | none=>none)
  | none=>none)
theorem qny {hh:vl6}{y x:Str}{n:Option Str}{e:Expr} (h:hdE hh=some (y,n,x,e)):∃ np px pa hpos,hh=.ExceptHandler (some (.Name y np)) n [.Assign [.Name x px] e pa] hpos:=by
 unfold hdE at h
 split at h
 split at h
 ·split at h
  ·rename_i hy
   obtain ⟨np,rfl⟩:=zzg hy
   split at h
   ·obtain ⟨p,hp,e2⟩:=jb7.mp h
    cases e2
    obtain ⟨px,pa,rfl⟩:=qir hp
    exact ⟨_,_,_,_,rfl⟩
   ·cases h
  ·cases h
 ·cases h
def tryE (hs:List vl6) (o f:List Stmt):Option (Str×Option Str×Str×Expr):=match hs with
 | [h]=>(match o with
  | []=>(match f with
   | []=>hdE h
   | _::_=>none)
  | _::_=>none)
 | _=>none
theorem qiz {hs:List vl6}{o f:List Stmt}{y x:Str}{n:Option Str}{e:Expr} (h:tryE hs o f=some (y,n,x,e)):∃ np px pa hpos,hs=[.ExceptHandler (some (.Name y np)) n [.Assign [.Name x px] e pa] hpos]/\o=[]/\f=[]:=by
 unfold tryE at h
 split at h
 ·split at h
  ·split at h
   ·obtain ⟨np,px,pa,hpos,rfl⟩:=qny h
    exact ⟨_,_,_,_,rfl,rfl,rfl⟩
   ·cases h
  ·cases h
 ·cases h
def zjm (S:Sx) (x:Str):Option Nat:=match XN.findIdx? (·== x) with
 | some c=>if S.rz=true/\S.xc.contains c=true/\S.glob x=true then some c else none
 | none=>none
def Sx.nr (S:Sx):Sx:={ S with rz:=false }
def isCl:Expr->Bool
 | .Call f _ ks _=>(nmE f).isSome && ks.isEmpty
 | _=>false
theorem qkj {e:Expr} (h:isCl e=true):∃ x p es p1,e=.Call (.Name x p) es [] p1:=by
 unfold isCl at h
 split at h
 ·rw [jb0,jg7,List.isEmpty_iff] at h
  obtain ⟨⟨x,hx⟩,rfl⟩:=h
  obtain ⟨p,rfl⟩:=zzg hx
  exact ⟨_,_,_,_,rfl⟩
 ·cases h
def qev:Nat->Sx->List Stmt->Option Fs
 | 0,_,_=>none
 | n + 1,S,sts=>match sts with
  | [st]=>(match st with
   | .Expr v _=>if isCl v=true then (match den 60 S v with
    | some (f,_)=>some (zzx f)
    | none=>none) else none
   | .If c a b _=>(match den 60 S c,qev n S a,qev n S b with
    | some (f,_),some s,some t=>some (sIf (bT f) s t)
    | _,_,_=>none)
   | st=>(match asE st with
    | some (x,e)=>(match S.slot x,den 60 S e with
     | some i,some (f,vs)=>if locB S x=true/\zbp S i=true/\qa5 e=false then some (sSet (S.msF i) i f vs) else none
     | _,_=>none)
    | none=>none))
  | _=>none
def zmo (d:Stmt->Option Fs) (S:Sx):Stmt->Option Fs
 | .Raise e c _=>(match rzOf e c with
  | some x=>(match zjm S x with
   | some c=>some (sExc c)
   | none=>some sNo)
  | none=>some sNo)
 | .If c a b _=>match den 60 S c,zqs d a,zqs d b with
  | some (f,_),some s,some t=>some (sIf (bT f) s t)
  | _,_,_=>none
 | .Return (some e) _=>match den 60 S e with
  | some (f,_)=>some (sRet f)
  | none=>none
 | _=>none
def denQ:Nat->Sx->Stmt->Option Fs
 | 0,_,_=>none
 | n + 1,S,st=>zmo (denQ n S) S st
def forQ (S:Sx) (x:Str) (it:Expr) (body:List Stmt):Option Fs:=match it with
 | .Name y _=>match S.slot x,S.slot y with
  | some i,some i0=>if locB S x=true/\zbp S i=true/\S.msF i=false/\S.msF i0=false/\i≠i0 then (match zqs (denQ 60 (zfx S [i] [i0])) body with
   | some b=>some (zki i0 [i] (asgN i) b)
   | none=>none) else none
  | _,_=>none
 | _=>none
def apE:Stmt->Option (Str×Str×Pos×Expr×Pos)
 | .Expr v _=>(match v with
  | .Call f es ks cpos=>(match f with
   | .Attribute o at' apos=>(match nmE o with
    | some x=>(match es with
     | [e]=>(match ks with
      | []=>some (x,at',apos,e,cpos)
      | _::_=>none)
     | _=>none)
    | none=>none)
   | _=>none)
  | _=>none)
 | _=>none
theorem qom {st:Stmt}{x at':Str}{apos cpos:Pos}{e:Expr} (h:apE st=some (x,at',apos,e,cpos)):∃ px spos,st=.Expr (.Call (.Attribute (.Name x px) at' apos) [e] [] cpos) spos:=by
 unfold apE at h
 split at h
 ·split at h
  ·split at h
   ·split at h
    ·rename_i hx
     obtain ⟨px,rfl⟩:=zzg hx
     split at h
     ·split at h
      ·cases h;exact ⟨_,_,rfl⟩
      ·cases h
     ·cases h
    ·cases h
   ·cases h
  ·cases h
 ·cases h
def forE (S:Sx) (x:Str) (it:Expr) (body:List Stmt):Option Fs:=match nmE it,body with
 | some y,[st]=>(match apE st with
  | some (x',at',apos,e,cpos)=>(match ixC e,S.slot x,S.slot y with
   | some k,some j,some i=>if x'=x/\at' = "append" /\ locB S x=true/\zbp S j=true/\S.msF j=false/\S.msF i=false/\i≠j/\(apos.endLine == cpos.line)=true then some (qbr i j k) else none
   | _,_,_=>none)
  | none=>none)
 | _,_=>none
def denA (S:Sx):Expr->Option D2
 | .Dict [] [] _=>some (bDct,[])
 | e=>den 60 S e
def popA (S:Sx) (x:Str) (apos:Pos) (e:Expr) (cpos:Pos):Option Fs:=match e with
 | .Call (.Attribute (.Name y _) at2 apos2) [e2] [] cpos2=>(match S.slot x,S.slot y,den 60 S e2 with
  | some i,some j,some (f,_)=>if at2 = "pop" /\ i≠j/\(apos.endLine == cpos.line)=true/\(apos2.endLine == cpos2.line)=true then some (zkz i j f) else none
  | _,_,_=>none)
 | _=>none
def qoa (S:Sx) (x at':Str) (apos:Pos) (e:Expr) (cpos:Pos):Option Fs:=if at' = "append" then (match popA S x apos e cpos with
   | some f=>some f
   | none=>match S.slot x,den 60 S e with
   | some i,some (f,vs)=>if S.msF i=false/\(apos.endLine == cpos.line)=true then some (sApp i f vs) else none
   | _,_=>none) else none
def qpn (_:Sx) (_:Expr) (_:Str) (_:Pos) (_:Expr) (_:Pos):Option Fs:=none
def denX (S:Sx):Expr->Option Fs
 | .Call fn es [] p1=>(match fn with
  | .Attribute o at' apos=>(match nmE o,es with
   | some x,[e]=>qoa S x at' apos e p1
   | none,[e]=>qpn S o at' apos e p1
   | _,_=>none)
  | .Name x p=>(match den 60 S (.Call (.Name x p) es [] p1) with
   | some (f,_)=>some (zzx f)
   | none=>none)
  | _=>none)
 | _=>none
section
variable {X:Cx}{M:Fm}{a b:Expr}{es:List Expr}{fa:Fa}{f g:Fx}{vs vs':List Nat}{pos:Pos}
end
def denO (S:Sx) (e:Expr):Option D2:=den 60 S e
def qil (S:Sx) (t k e:Expr):Option Fs:=match t with
 | .Name x _=>(match ixC k with
  | some k=>(match S.slot x,den 60 S e with
    | some i,some (f,vs)=>some (sPut i k f)
    | _,_=>none)
  | none=>(match S.slot x,den 60 S k,denO S e with
    | some i,some (fk,_),some (f,_)=>if S.msF i=false/\zjr k=true then some (zbn i fk f) else none
    | _,_,_=>none))
 | .Subscript b i _=>(match nmE b with
  | some x=>(match S.slot x,den 60 S i,den 60 S k,denO S e with
    | some s,some (fi,_),some (fj,_),some (f,_)=>if S.msF s=false/\zjr i=true/\zjr k=true then some (zpy s fi fj f) else none
    | _,_,_,_=>none)
  | none=>none)
 | _=>none
def qip (S:Sx) (t e:Expr):Option Fs:=match t with
 | .Tuple es k p=>(match zjj S es,den 60 S e with
   | some is,some (f,vs)=>if qa5 e=false/\qpg e=false then some (sUnp (asgT is) f vs) else none
   | _,_=>none)
 | .Name x _=>(match S.slot x,denA S e with
   | some i,some (f,vs)=>if locB S x=true/\zbp S i=true then some (sSet (S.msF i) i f vs) else none
   | _,_=>none)
 | .Subscript t k _=>qil S t k e
 | _=>none
def zhr (d:Stmt->Option Fs) (S:Sx) (body:List Stmt):Option Fs:=zqs d body
def qin (d:Stmt->Option Fs) (S:Sx) (t it:Expr) (body:List Stmt):Option Fs:=match t with
 | .Name x p=>(match (forE S x it body).or (forQ S x it body) with
   | some f=>some f
   | none=>match S.slot x,denI (den 60 S) S it,zhr d S body with
    | some i,some iw,some b=>if locB S x=true/\zbp S i=true/\S.msF i=false/\twOk (.Name x p) iw=true then some (qmp iw (asgN i) b) else none
    | _,_,_=>none)
 | .Tuple es k p=>(match zjj S es,denI (den 60 S) S it,zhr d S body with
   | some is,some iw,some b=>some (qmp iw (asgT is) b)
   | _,_,_=>none)
 | _=>none
def qik (S:Sx) (e:Expr):Option Fs:=match nmE e with
 | some x=>(match S.slot x with
   | some i=>if S.msF i=true then none else some (zbm i)
   | none=>none)
 | none=>(match den 60 S e with
   | some (f,vs)=>some (sRet f)
   | none=>none)
def qob (_:Sx) (_:Expr) (_:Operator) (_:Expr):Option Fs:=none
def Sx.bare (S:Sx):Sx:={ S with ms:=[] }
def denT (S:Sx) (c:Expr):Option D2:=(den 60 S c).or (den 60 S.bare c)
def zkp (d:Stmt->Option Fs) (S:Sx):Stmt->Option Fs
 | .Raise e c _=>(match rzOf e c with
  | some x=>(match zjm S x with
   | some c=>some (sExc c)
   | none=>some sNo)
  | none=>some sNo)
 | .Try body hs o fi _=>(match tryE hs o fi with
  | some (y,some n,x,e)=>(match nmE e,S.slot x,S.slot n,XN.findIdx? (·== y),qev 10 S.nr body with
   | some n',some i,some j,some d,some b=>if n'=n/\i≠j/\locB S x=true/\zwc S.sc n .local=true/\zbp S i=true/\zbp S j=true/\S.msF i=false/\S.xc.contains d=true/\S.glob y=true then some (sTry d i j S.ms b) else none
   | _,_,_,_,_=>none)
  | some (_,none,_,_)=>none
  | none=>none)
 | .Expr v _=>denX S v
 | .Assign [t] e _=>qip S t e
 | .If c a b _=>match denT S c,zqs d a,zqs d b with
  | some (f,_),some s,some t=>some (sIf (bT f) s t)
  | _,_,_=>none
 | .For t it body [] _=>qin d S t it body
 | .While c body [] _=>match denT S c,zqs d body with
  | some (f,_),some b=>some (qc2 (bT f) b)
  | _,_=>none
 | .AugAssign t op e _=>qob S t op e
 | .Return (some e) _=>qik S e
 | _=>none
def qey:Nat->Sx->Stmt->Option Fs
 | 0,_,_=>none
 | n + 1,S,st=>some ((zkp (qey n S) S st).getD sNo)
section
variable {X:Cx}{P:vb0}{w:vb8}{K:Frag}{mg:Str->Option va2}{base:Heap}{lvl:Nat}{S:Sx}{Wx:St->Nat->Hp->Prop}{M:Fm}{f g:Fx}{vs vs':List Nat}{σ:St}{H:Hp}{Q:VK}
structure SM (X:Cx) (M:Fm) (K:Frag) (S:Sx) (Wx:St->Nat->Hp->Prop):Prop where
 ms:MS M K S Wx
 al:∀ i,M.al i=[]
 io:M.io≠none->S.msF 0=true
 pn:∀ p∈M.pn,p.1∈S.pn
 fn:∀ x,X.fn x=true
 nd:S.N.Nodup
 st:X.stack=X.env::X.outer
 fr:X.env.frame=some X.env.locals
def zbt (P:vb0) (w:vb8) (K:Frag) (mg:Str->Option va2) (base:Heap) (lvl:Nat) (S:Sx) (st:Stmt) (f:Fs):Prop:=∀ {Wx} X M,XS X P w K mg base lvl S Wx->SM X M K S Wx->PS X st (tS M f)
theorem zwy {d:Stmt->Option Fs} (hd:∀ st f,d st=some f->zbt P w K mg base lvl S st f):∀ (sts:List Stmt) (f:Fs),zqs d sts=some f->∀ {Wx} X M,XS X P w K mg base lvl S Wx->SM X M K S Wx->PSs X sts (tS M f)
 | [],f,h=>by cases h;exact λ X M xs sm=>zma qc9 λ D σ H q=>qlv q
 | [s],f,h=>λ X M xs sm=>zvr (hd s f h X M xs sm)
 | s::s'::r,f,h=>by
  unfold zqs at h
  split at h
  ·rename_i f1 f2 h1 h2
   cases h
   exact λ X M xs sm=>zma (qal (hd s f1 h1 X M xs sm) (zwy hd (s'::r) f2 h2 X M xs sm)) λ D σ H q=>qls q
  ·cases h
theorem zwp {x:Str}{i:Nat} (h:S.slot x=some i):S.N[i]?=some x:=by
 unfold Sx.slot at h
 split at h
 ·exact zjd h
 ·cases h
theorem zjv {x:Str} (h:locB S x=true):Loc S.sc x:=by
 unfold locB at h
 rw [je0] at h
 exact h.elim (λ h=>.inl (zxm h)) λ h=>.inr (zxm h)
theorem zwt {i:Nat} (h:zbp S i=true) (sm:SM X M K S Wx):M.Fre i:=by
 unfold zbp at h
 rw [jb0,je0] at h
 refine ⟨λ hio=>?_,λ p hp e=>?_⟩
 ·rcases h.1 with h | h
  ·simpa using h
  ·rw [sm.io hio] at h;cases h
 ·have z:=sm.pn p hp
  rw [e] at z
  have h2:=h.2
  rw [List.contains_iff_mem.mpr z] at h2
  cases h2
theorem qcx {e:Expr}{t:Option Expr}{l:Nat}{env:Env} (h:qa5 e=false):swapsWith e t l env=pure false:=by
 cases e with
 | ListComp _ _ _ _=>cases h
 | SetComp _ _ _ _=>cases h
 | DictComp _ _ _ _ _=>cases h
 | _=>rfl
theorem qhd (GX:GX K mg S.xc) (G:GS P w K mg base lvl S.Γ) (Gm:GSm P w K mg base lvl S.Γm) (hS:∀ i,∀ j∈S.alF i,S.msF j=false) {n:Nat}{elt:Expr}{gs:List Comprehension}{scope:ve2}{pos:Pos} (h:den (n + 1) S (.ListComp elt gs scope pos)=some (f,vs)):
  ∃ tg ys asg it ifs iw t g vE,gs=[⟨tg,it,ifs,0⟩]/\CompParts P w K mg base lvl S scope tg ys asg it elt ifs iw t g vE/\f=qfh iw ys.length asg t g/\vs=iw.vs++vE.filter (λ i=>decide (i < S.N.length)):=by
 have hd:∀ e f vs,den n S e=some (f,vs)->Good P w K mg base lvl S e f vs:=λ e f vs h=>zjz GX G Gm n S e f vs rfl rfl rfl hS h
 replace h:zzq (den n) S (.ListComp elt gs scope pos)=some (f,vs):=h
 match gs,h with
 | [],h=>simp [zzq,genE] at h
 | _::_::_,h=>simp [zzq,genE] at h
 | [⟨tg,it,ifs,a⟩],h=>
  by_cases ha:a=0
  ·subst ha
   replace h:(match tgA S.N.length tg,denI (den n S) S it with
    | some (xs,asg),some iw=>if zms S scope xs iw.vs=true/\twOk tg iw=true then (match qbc (den n (zqv S scope xs iw.vs)) ifs,den n (zqv S scope xs iw.vs) elt with
     | some t,some (g,vE)=>some (qfh iw xs.length asg t g,iw.vs++vE.filter (λ i=>decide (i < S.N.length)))
     | _,_=>none) else none
    | _,_=>none)=some (f,vs):=h
   split at h
   ·rename_i ys asg iw ht hi
    split at h
    ·rename_i hc
     split at h
     ·rename_i t g vE h1 h2
      cases h
      have ck:=qiq hc.1
      have giw:=zmp hd (zmn n S) G.1 hi
      have hS2:∀ i,∀ j∈(zqv S scope ys iw.vs).alF i,(zqv S scope ys iw.vs).msF j=false:=λ i j hj=>by
       rw [zmx] at hj
       show S.msF j=false
       split at hj
       ·exact hS i j hj
       ·split at hj
        ·exact giw.1 j hj
        ·cases hj
      have hd2:∀ e f vs,den n (zqv S scope ys iw.vs) e=some (f,vs)->Good P w K mg base lvl (zqv S scope ys iw.vs) e f vs:=λ e f vs h=>zjz GX G Gm n _ e f vs rfl rfl rfl hS2 h
      exact ⟨tg,ys,asg,it,ifs,iw,t,g,vE,rfl,⟨ht,hc.2,ck,giw,hd2 _ _ _ h2,zgj hd2 h1⟩,rfl,rfl⟩
     ·cases h
    ·cases h
   ·cases h
  ·simp [zzq,genE,ha] at h
theorem zwh (xs:XS X P w K mg base lvl S Wx):vl5 (vb3 X.prog X.w) X.A X.env X.xe:=xs.po
theorem zji {es:List Expr}{is:List Nat} (h:zjj S es=some is) (xs:XS X P w K mg base lvl S Wx) (sm:SM X M K S Wx):PGs X es (zpi is)/\(vd2 es X.env).length=is.length/\(vd2 es X.env).findIdx? (·.1)=none/\∀ i∈is,Bd M [] i:=by
 induction es generalizing is with
 | nil=>cases h;exact ⟨qdh,rfl,rfl,λ _ z=>nomatch z⟩
 | cons e es ih=>
  unfold zjj at h
  split at h
  ·cases ‹_::_=[]›
  ·rename_i x px r heq
   cases heq
   split at h
   ·rename_i i js hi hr
    split at h
    ·rename_i hc
     cases h
     obtain ⟨h1,h2,h3,h4⟩:=ih hr
     have hN:X.N.Nodup:=by rw [xs.N];exact sm.nd
     have hi':X.N[i]?=some x:=by rw [xs.N];exact zwp hi
     have hx:Loc X.env.scope x:=by rw [xs.sc];exact zjv hc.1
     refine ⟨qao (zyc hN hi' hx (.inl (sm.fn x))) h1 rfl,by rw [vd2,jb2,h2,jb2] <;> (intros;contradiction),?_,λ j hj=>?_⟩
     ·rw [vd2,jk8,h3] <;> first | rfl | (intros;contradiction)
     ·rcases jb3.mp hj with z | z
      ·rw [z];exact ⟨by rw [sm.ms.ms];exact hc.2.2,zwt hc.2.1 sm,sm.al i,sm.ms.als⟩
      ·exact h4 j z
    ·cases h
   ·cases h
  ·cases h
theorem qax {is v:List Nat}{i:Nat}:(zfx S is v).alF i=if i < S.N.length then (if is.contains i then v else S.alF i) else []:=by
 unfold Sx.alF zfx
 dsimp only
 rw [ja6,jc6]
 by_cases h:i < S.N.length
 ·rw [if_pos h,jk1 h];rfl
 ·rw [if_neg h,je7 (by rw [jf3];omega)];rfl
def qoo (P:vb0) (w:vb8) (K:Frag) (mg:Str->Option va2) (base:Heap) (lvl:Nat) (S:Sx) (st:Stmt) (f:Fs):Prop:=∀ {Wx} X M,XS X P w K mg base lvl S Wx->MS M K S Wx->PS X st (tQ M f)
theorem zje {d:Stmt->Option Fs} (hd:∀ st f,d st=some f->qoo P w K mg base lvl S st f):∀ (sts:List Stmt) (f:Fs),zqs d sts=some f->∀ {Wx} X M,XS X P w K mg base lvl S Wx->MS M K S Wx->PSs X sts (tQ M f)
 | [],f,h=>by cases h;exact λ X M xs sm=>zma qc9 λ D σ H q=>ql2 q
 | [s],f,h=>λ X M xs sm=>zvr (hd s f h X M xs sm)
 | s::s'::r,f,h=>by
  unfold zqs at h
  split at h
  ·rename_i f1 f2 h1 h2
   cases h
   exact λ X M xs sm=>zma (qal (hd s f1 h1 X M xs sm) (zje hd (s'::r) f2 h2 X M xs sm)) λ D σ H q=>qlz q
  ·cases h
theorem zvx {x:Str}:∀ {l:List Str}{c:Nat},l.findIdx? (·== x)=some c->l[c]?=some x
 | [],c,h=>by simp at h
 | y::r,c,h=>by
  rw [jk8] at h
  split at h
  ·rename_i e
   cases h
   rw [List.getElem?_cons_zero,eq_of_beq e]
  ·cases e:r.findIdx? (·== x) with
   | none=>rw [e] at h;cases h
   | some k=>
    rw [e] at h
    cases h
    rw [je1]
    exact zvx e
theorem qbs {x:Str}{c:Nat} (h:zjm S x=some c):S.rz=true/\c∈S.xc/\S.glob x=true/\XN[c]?=some x:=by
 unfold zjm at h
 split at h
 ·rename_i c' e
  split at h
  ·rename_i hc
   cases h
   exact ⟨hc.1,by simpa using hc.2.1,hc.2.2,zvx e⟩
  ·cases h
 ·cases h
theorem qak {x m:Str}{c:Nat}{np cpos pos p:Pos}{j:Nat}{t:TS} (GX:GX K mg S.xc) (h:zjm S x=some c) (xs:XS X P w K mg base lvl S Wx) (hW:M.W=Wx) (hq:∀ D σ H,t D σ H->M.W σ c H):PS X (.Raise (some (.Call (.Name x np) [.Constant (.str m) j p] [] cpos)) none pos) t:=by
 obtain ⟨h1,h2,h3,h4⟩:=qbs h
 obtain ⟨ht,_,hc⟩:=GX (λ z=>by rw [z] at h2;cases h2)
 obtain ⟨x',C,e1,e2,e3,e4⟩:=hc c h2
 rw [h4] at e1
 cases e1
 refine zqz (qgb (W:=Wx) (xs.rs h1) (by rw [xs.K];exact ht) xs.calm (by rw [xs.K];exact e2) (xs.gl h3) (by rw [xs.mg];exact e3) e4) λ D σ H q=>?_
 rw [<- hW]
 exact hq D σ H q
theorem qhe (GX:GX K mg S.xc) (G:GS P w K mg base lvl S.Γ) (Gm:GSm P w K mg base lvl S.Γm) (hS:∀ i,∀ j∈S.alF i,S.msF j=false):∀ (n:Nat) (sts:List Stmt) (f:Fs),qev n S sts=some f->∀ {Wx} X M,XS X P w K mg base lvl S Wx->SM X M K S Wx->PSs X sts (tR M f):=by
 have hd:∀ e f vs,den 60 S e=some (f,vs)->Good P w K mg base lvl S e f vs:=λ e f vs h=>zjz GX G Gm 60 S e f vs rfl rfl rfl hS h
 intro n
 induction n with
 | zero=>intro sts f h;cases h
 | succ n ih=>
  intro sts f h
  unfold qev at h
  split at h
  ·rename_i st
   split at h
   ·split at h
    ·rename_i v pos hv
     obtain ⟨x,p,es,p1,rfl⟩:=qkj hv
     split at h
     ·rename_i f1 v1 he
      cases h
      intro Wx X M xs sm
      exact zvr (zqz (zjo ((hd _ _ _ he).2.2 X M xs sm.ms).1 rfl) λ D σ H q=>qi9 q)
     ·cases h
    ·cases h
   ·split at h
    ·rename_i f1 v1 s t hc ha hb
     cases h
     intro Wx X M xs sm
     exact zvr (zqz (qju ((hd _ _ _ hc).2.2 X M xs sm.ms).2 (ih _ _ ha X M xs sm) (ih _ _ hb X M xs sm)) λ D σ H q=>qou q)
    ·cases h
   ·split at h
    ·rename_i x e has
     obtain ⟨px,pos,rfl⟩:=qir has
     split at h
     ·rename_i i f1 v1 hi he
      split at h
      ·rename_i hc
       cases h
       have g:=hd _ _ _ he
       intro Wx X M xs sm
       have hN:X.N.Nodup:=by rw [xs.N];exact sm.nd
       have hi':X.N[i]?=some x:=by rw [xs.N];exact zwp hi
       have hx:Loc X.env.scope x:=by rw [xs.sc];exact zjv hc.1
       have mi:M.Ms i=S.msF i:=by rw [sm.ms.ms]
       exact zvr (zqz (qam hN hi' hx (g.2.2 X M xs sm.ms).1 (qcx hc.2.2) (.inl (sm.fn x))) λ D σ H q=>qly sm.al (sm.ms.v g.1) mi (zwt hc.2.1 sm) q)
      ·cases h
     ·cases h
    ·cases h
  ·cases h
theorem qku (GX:GX K mg S.xc) (G:GS P w K mg base lvl S.Γ) (Gm:GSm P w K mg base lvl S.Γm) (hS:∀ i,∀ j∈S.alF i,S.msF j=false):∀ (n:Nat) (st:Stmt) (f:Fs),denQ n S st=some f->qoo P w K mg base lvl S st f:=by
 have hd:∀ e f vs,den 60 S e=some (f,vs)->Good P w K mg base lvl S e f vs:=λ e f vs h=>zjz GX G Gm 60 S e f vs rfl rfl rfl hS h
 intro n
 induction n with
 | zero=>intro st f h;cases h
 | succ n ih=>
  intro st f h
  replace h:zmo (denQ n S) S st=some f:=h
  unfold zmo at h
  split at h
  ·rename_i e0 c0 pos
   split at h
   ·rename_i x hx
    obtain ⟨np,m,j,p,cpos,rfl,rfl⟩:=qc3 hx
    split at h
    ·rename_i c hc
     cases h
     intro Wx X M xs sm
     exact qak GX hc xs sm.W λ D σ H q=>ql3 q
    ·cases h
     intro Wx X M xs sm pins s σ H D I q
     exact (zkk pins s σ H D I (ql1 (t:=zbw) q))
   ·cases h
    intro Wx X M xs sm pins s σ H D I q
    exact (zkk pins s σ H D I (ql1 (t:=zbw) q))
  ·split at h
   ·rename_i f1 v1 s t hc ha hb
    cases h
    intro Wx X M xs sm
    exact zqz (qju ((hd _ _ _ hc).2.2 X M xs sm).2 (zje ih _ _ ha X M xs sm) (zje ih _ _ hb X M xs sm)) λ D σ H q=>qov q
   ·cases h
  ·split at h
   ·rename_i f1 v1 he
    cases h
    intro Wx X M xs sm
    exact zqz (qda ((hd _ _ _ he).2.2 X M xs sm).1) λ D σ H q=>ql0 (sm.v (hd _ _ _ he).1) q
   ·cases h
  ·cases h
theorem qkp (GX:GX K mg S.xc) (G:GS P w K mg base lvl S.Γ) (Gm:GSm P w K mg base lvl S.Γm) (hS:∀ i,∀ j∈S.alF i,S.msF j=false) {x:Str}{it:Expr}{body:List Stmt}{f:Fs}{px pos:Pos} (h:forQ S x it body=some f):zbt P w K mg base lvl S (.For (.Name x px) it body [] pos) f:=by
 unfold forQ at h
 split at h
 ·rename_i y py
  split at h
  ·rename_i i i0 hi hi0
   split at h
   ·rename_i hc
    split at h
    ·rename_i b hb
     cases h
     intro Wx X M xs sm
     obtain ⟨c1,c2,c3,c4,c5⟩:=hc
     have hN:X.N.Nodup:=by rw [xs.N];exact sm.nd
     have hi':X.N[i]?=some x:=by rw [xs.N];exact zwp hi
     have hx:Loc X.env.scope x:=by rw [xs.sc];exact zjv c1
     have hlt:i < S.N.length:=(ja7.mp (zwp hi)).1
     have hms:∀ j,(M.look [i] [i0]).al j=(if [i].contains j then [i0] else M.al j):=λ j=>rfl
     have als:∀ j,∀ k∈(M.look [i] [i0]).al j,M.Ms k=false:=λ j k hk=>by
      rw [hms] at hk
      split at hk
      ·rw [jb6.mp hk,sm.ms.ms];exact c4
      ·exact sm.ms.als j k hk
     have ms':MS (M.look [i] [i0]) K (zfx S [i] [i0]) Wx:=⟨sm.ms.K,sm.ms.ms,λ j hj=>by
      rw [qax,if_pos (show j < S.N.length from hj),hms]
      split
      ·rfl
      ·exact sm.ms.al j hj,als,sm.ms.W,sm.ms.pn⟩
     have hS':∀ j,∀ k∈(zfx S [i] [i0]).alF j,(zfx S [i] [i0]).msF k=false:=λ j k hk=>by
      show S.msF k=false
      rw [qax] at hk
      split at hk
      ·split at hk
       ·rw [jb6.mp hk];exact c4
       ·exact hS j k hk
      ·cases hk
     have xs':XS X P w K mg base lvl (zfx S [i] [i0]) Wx:=⟨xs.prog,xs.w,xs.K,xs.mg,xs.base,xs.N,xs.sc,xs.calm,xs.room,xs.po,xs.ps,xs.rs⟩
     have hbd:=zje (qku (S:=zfx S [i] [i0]) GX G Gm hS' 60) _ _ hb X (M.look [i] [i0]) xs' ms'
     have hg:GOk (M.look [i] [i0]) [i0] [i] (zvo i) (asgN i):=qeo ⟨by show M.Ms i=false;rw [sm.ms.ms];exact c3,zwt (M:=M) c2 sm,by rw [hms];simp,als⟩
     have hpg:PG X (.Name x px) (zvo i):=zyc hN hi' hx (.inl (sm.fn x))
     have hpi:PI X (.Name x px) (.Name y py) (iSeq M.K (tE M (bVar i0) [i0])):=by
      rw [sm.ms.k xs]
      refine qde (zqn (xs.var hi0) λ σ H Q q=>?_)
      exact qcq (M:=M) (i:=i0) (by rw [sm.al];exact q)
     have hf:=zyf (n:=0) (env:=X.env) (iter:=.Name y py) (f:=bVar 0) (vs:=[]) (λ _ _ _ z=>nomatch z)
     refine zqz (zvp (zwh xs) xs.calm hpi hpg hbd hf) λ D σ H q=>?_
     exact qi7 sm.al (by rw [sm.ms.ms];exact c4) (λ z=>c5 (jb6.mp z).symm) (λ j hj=>by rw [jb6.mp hj,sm.ms.ms];exact c3) hg q
    ·cases h
   ·cases h
  ·cases h
 ·cases h
theorem qkq {x:Str}{it:Expr}{body:List Stmt}{f:Fs}{px pos:Pos} (h:forE S x it body=some f):zbt P w K mg base lvl S (.For (.Name x px) it body [] pos) f:=by
 unfold forE at h
 split at h
 ·rename_i y st hy
  obtain ⟨py,rfl⟩:=zzg hy
  split at h
  ·rename_i x' at' apos e0 cpos hap
   obtain ⟨px',spos,rfl⟩:=qom hap
   split at h
   ·rename_i k j i hk hj hi
    obtain ⟨k',pk,rfl⟩:=qef hk
    split at h
    ·rename_i hc
     cases h
     obtain ⟨rfl,rfl,c1,c2,c3,c4,c5,c6⟩:=hc
     intro Wx X M xs sm
     have hN:X.N.Nodup:=by rw [xs.N];exact sm.nd
     have hj':X.N[j]?=some x':=by rw [xs.N];exact zwp hj
     have hx:Loc X.env.scope x':=by rw [xs.sc];exact zjv c1
     have hpg:PG X (.Name x' px) (zvo j):=zyc hN hj' hx (.inl (sm.fn x'))
     have hpi:PI X (.Name x' px) (.Name y py) (iSeq X.K (tVar i)):=qde (xs.var hi)
     have hb:=qgh (X:=X) (cpos:=cpos) vg1 vi5 vi4 zkl (xs.var (pos:=px') hj) (zxi (e:=.Constant (.int k) k' pk) zfo zzy rfl) rfl rfl c6 rfl rfl
     have hbd:=zvr (zjo (pos:=spos) hb rfl)
     have hf:=zyf (n:=0) (env:=X.env) (iter:=.Name y py) (f:=bVar 0) (vs:=[]) (λ _ _ _ z=>nomatch z)
     refine zqz (zvp (zwh xs) xs.calm hpi hpg hbd hf) λ D σ H q=>?_
     have:=qi8 (D:=D) sm.al (by rw [sm.ms.ms];exact c4) c5 (zwt c2 sm) q
     rw [sm.ms.k xs] at this
     exact this
    ·cases h
   ·cases h
  ·cases h
 ·cases h
def Fm.bare (M:Fm):Fm:={ M with Ms:=λ _=>false,H₀:=λ _=>none,io:=none,pn:=[] }
theorem Rep.bare {ρ:Rho}{fps:Fps} (r:Rep M ρ σ H fps):Rep M.bare ρ σ H fps where
 own:=r.own
 non:=r.non
 dj:=r.dj
 zo:=r.zo
 fr:=λ _ _ _ _=>rfl
 zd:=r.zd
 len:=r.len
 msf:=λ _ _ _ h=>nomatch h
 h0:=λ _ h=>absurd rfl h
 iov:=And.intro (λ _ h=>nomatch h) (λ _ h=>nomatch h)
theorem qi2 {fb:Fb}{Q:Bool->Hp->Prop} (hq:tT M fb σ H Q):tT M.bare fb σ H Q:=by
 obtain ⟨ρ,fps,rep,q⟩:=hq
 refine ⟨ρ,fps,rep.bare,?_⟩
 have gr:∀ H' fps',KD M.bare H fps H' fps'->∀ a o,H a=some o->H' a=some o:=λ H' fps' k a o h=>k.keep a o h λ ⟨_,z,_⟩=>nomatch z
 cases e:fb ρ with
 | ok p=>
  obtain ⟨b,ρ'⟩:=p
  rw [e] at q
  intro H' fps' k ag _
  have e1:ρ'=ρ:=jn6 λ i=>ag.1 i rfl
  subst e1
  exact q H' fps (KD.grow (gr H' fps' k)) Agr.refl (rep.grow (gr H' fps' k))
 | exc c=>
  rw [e] at q
  intro H' fps' k
  exact q H' fps (KD.grow (gr H' fps' k))
 | no=>rw [e] at q;exact q
theorem qew (GX:GX K mg S.xc) (G:GS P w K mg base lvl S.Γ) (Gm:GSm P w K mg base lvl S.Γm) (hS:∀ i,∀ j∈S.alF i,S.msF j=false) {c:Expr}{f:Fx}{vs:List Nat} (h:denT S c=some (f,vs)) (xs:XS X P w K mg base lvl S Wx) (m:MS M K S Wx):PT X c (tT M (bT f)):=by
 unfold denT at h
 cases e:den 60 S c with
 | some p=>
  rw [e] at h
  cases h
  exact ((zjz GX G Gm 60 S c f vs rfl rfl rfl hS e).2.2 X M xs m).2
 | none=>
  rw [e] at h
  have h2:den 60 S.bare c=some (f,vs):=h
  have gd:=(zjz (S:=S) GX G Gm 60 S.bare c f vs rfl rfl rfl (λ _ _ _=>rfl) h2).2.2 X M.bare ⟨xs.prog,xs.w,xs.K,xs.mg,xs.base,xs.N,xs.sc,xs.calm,xs.room,xs.po,xs.ps,xs.rs⟩ ⟨m.K,rfl,m.al,λ _ _ _=>rfl,m.W,λ _ h=>nomatch h⟩
  exact zfl gd.2 λ σ H Q q=>qi2 q
theorem qjv {x:Str}{e:Expr}{px apos cpos spos:Pos}{f:Fs} (hd:∀ e f vs,den 60 S e=some (f,vs)->Good P w K mg base lvl S e f vs) (h:popA S x apos e cpos=some f):zbt P w K mg base lvl S (.Expr (.Call (.Attribute (.Name x px) "append" apos) [e] [] cpos) spos) f:=by
 unfold popA at h
 split at h
 ·rename_i y py at2 apos2 e2 cpos2
  split at h
  ·rename_i i j f1 v1 hi hj he
   split at h
   ·rename_i hc
    obtain ⟨rfl,hne,hl1,hl2⟩:=hc
    cases h
    have g:=hd _ _ _ he
    intro Wx X M xs sm
    have h2:=qgh (X:=X) (cpos:=cpos2) vg1 PySem.F.slot_list_pop PySem.F.type_list_pop qgp (xs.var (pos:=py) hj) (zxi (g.2.2 X M xs sm.ms).1 zzy (zqy (zqk g.2.1))) rfl (zpc g.2.1 X.env cpos2) hl2 (zqy (zqk g.2.1)) rfl
    have hb:=qgh (X:=X) (cpos:=cpos) vg1 vi5 vi4 zkl (xs.var (pos:=px) hi) (zxi h2 zzy rfl) rfl rfl hl1 rfl rfl
    refine zqz (zjo hb rfl) λ D σ H q=>?_
    have:=qcn (D:=D) (vs:=v1) sm.al hne q
    rw [sm.ms.k xs] at this
    exact this
   ·cases h
  ·cases h
 ·cases h
theorem zpl {d:Stmt->Option Fs}{body:List Stmt}{f:Fs} (hd:∀ e f vs,den 60 S e=some (f,vs)->Good P w K mg base lvl S e f vs) (ih:∀ st f,d st=some f->zbt P w K mg base lvl S st f) (h:zhr d S body=some f):∀ {Wx} X M,XS X P w K mg base lvl S Wx->SM X M K S Wx->PSs X body (tS M f):=by
 exact zwy ih _ _ h
theorem qkv {e:Expr}{f:Fx}{vs:List Nat} (hd:∀ e f vs,den 60 S e=some (f,vs)->Good P w K mg base lvl S e f vs) (h:denO S e=some (f,vs)):Good P w K mg base lvl S e f vs:=hd _ _ _ h
theorem zhq (GX:GX K mg S.xc) (G:GS P w K mg base lvl S.Γ) (Gm:GSm P w K mg base lvl S.Γm) (hS:∀ i,∀ j∈S.alF i,S.msF j=false) {d:Stmt->Option Fs} (ih:∀ (st:Stmt) (f:Fs),d st=some f->zbt P w K mg base lvl S st f):∀ (st:Stmt) (f:Fs),zkp d S st=some f->zbt P w K mg base lvl S st f:=by
 have hd:∀ e f vs,den 60 S e=some (f,vs)->Good P w K mg base lvl S e f vs:=λ e f vs h=>zjz GX G Gm 60 S e f vs rfl rfl rfl hS h
 have hdO:∀ e f vs,denO S e=some (f,vs)->Good P w K mg base lvl S e f vs:=λ e f vs h=>qkv hd h
 have hdA:∀ e f vs,denA S e=some (f,vs)->Good P w K mg base lvl S e f vs:=λ e f vs h=>by
  unfold denA at h
  split at h
  ·cases h
   exact zqt (λ _ z=>nomatch z) rfl (λ _ _=>rfl) λ X M xs m=>qmi
  ·exact hd _ _ _ h
 intro st f h
 have core:True->zbt P w K mg base lvl S st f:=λ _=>by
  unfold zkp at h
  split at h
  ·rename_i e0 c0 pos
   split at h
   ·rename_i x hx
    obtain ⟨np,m,j,p,cpos,rfl,rfl⟩:=qc3 hx
    split at h
    ·rename_i c hc
     cases h
     intro Wx X M xs sm
     exact qak GX hc xs sm.ms.W λ D σ H q=>qlw q
    ·cases h
     intro Wx X M xs sm pins s σ H D I q
     exact (zkk pins s σ H D I (qci (t:=zbw) q))
   ·cases h
    intro Wx X M xs sm pins s σ H D I q
    exact (zkk pins s σ H D I (qci (t:=zbw) q))
  ·rename_i body hs o fi pos
   split at h
   ·rename_i y n x e0 htr
    obtain ⟨np,px,pa,hpos,rfl,rfl,rfl⟩:=qiz htr
    split at h
    ·rename_i n' i j d b hnm hi hj hd' hbd
     obtain ⟨pn,rfl⟩:=zzg hnm
     split at h
     ·rename_i hc
      obtain ⟨rfl,hij,hlx,hln,hoi,hoj,hms,hxc,hgy⟩:=hc
      cases h
      intro Wx X M xs sm
      have hdm:d∈S.xc:=by simpa using hxc
      obtain ⟨ht,_,hcs⟩:=GX (λ z=>by rw [z] at hdm;cases hdm)
      obtain ⟨y',C,hx',hC,hmg,hdb⟩:=hcs d hdm
      have ey:y'=y:=by
       have:=zvx hd'
       rw [hx'] at this
       exact Option.some.inj this
      subst ey
      have nms:∀ i,M.Ms i=S.ms.contains i:=λ i=>by rw [sm.ms.ms];rfl
      have hN:X.N.Nodup:=by rw [xs.N];exact sm.nd
      have slots:∀ {z:Str}{k:Nat},S.slot z=some k->(z == ("__debug__" : Str))=false/\(z == ("__classdict__" : Str))=false:=λ {z k} h=>by
       unfold Sx.slot at h
       split at h
       ·rename_i hv
        simp only [jb0,jg9] at hv
        exact ⟨hv.1.2,hv.2⟩
       ·cases h
      have base:=qga (X:=X) (tb:=λ W'=>tR (M.want W') b) (body:=body) (y:=y') (n:=n') (x:=x) (np:=np) (hpos:=hpos) (px:=px) (pn:=pn) (pa:=pa) (pos:=pos) (d:=d) (Dd:=C) (i:=i) (j:=j)
       (by rw [xs.K];exact ht) sm.st sm.fr hN (by rw [xs.N];exact zwp hi) (by rw [xs.N];exact zwp hj) hij (by rw [xs.sc];exact zjv hlx) (by show X.env.scope.names.lookup n'=_;rw [xs.sc];exact zxm hln) sm.fn (by rw [xs.K];exact hC) (xs.gl hgy) (by rw [xs.mg];exact hmg) hdb (slots hj).1 (slots hj).2 (λ pn' xe' W' hp ho=>?_)
      ·refine zqz base λ D σ H q=>?_
       have mk:=sm.ms.k xs
       rw [<- mk]
       exact qlr sm.al nms (by rw [sm.ms.ms];exact hms) hij (zwt hoi sm) (zwt hoj sm) q
      ·refine qhe (S:=S.nr) GX G Gm hS 10 body b hbd _ _ (Wx:=W') ⟨xs.prog,xs.w,xs.K,xs.mg,xs.base,xs.N,xs.sc,xs.calm,xs.room,ho,hp,λ z=>nomatch z⟩ ⟨⟨sm.ms.K,sm.ms.ms,sm.ms.al,sm.ms.als,rfl,sm.ms.pn⟩,sm.al,sm.io,sm.pn,sm.fn,sm.nd,sm.st,sm.fr⟩
     ·cases h
    ·cases h
   ·cases h
   ·cases h
  ·rename_i v pos
   unfold denX at h
   split at h
   ·rename_i fn es cpos
    split at h
    ·rename_i o at' apos
     split at h
     ·rename_i x e hx
      obtain ⟨px,rfl⟩:=zzg hx
      unfold qoa at h
      split at h
      ·rename_i hat
       subst hat
       split at h
       ·rename_i fp hp
        cases h
        exact qjv hd hp
       ·split at h
        ·rename_i i f1 v1 hi he
         split at h
         ·rename_i hc
          cases h
          have g:=hd _ _ _ he
          intro Wx X M xs sm
          have hb:=qgh (X:=X) (cpos:=cpos) vg1 vi5 vi4 zkl (xs.var (pos:=px) hi) (zxi (g.2.2 X M xs sm.ms).1 zzy (zqy (zqk g.2.1))) rfl (zpc g.2.1 X.env cpos) hc.2 (zqy (zqk g.2.1)) rfl
          refine zqz (zjo hb rfl) λ D σ H q=>?_
          have:=qlx (D:=D) sm.al (sm.ms.v g.1) (by rw [sm.ms.ms];exact hc.1) q
          rw [sm.ms.k xs] at this
          exact this
         ·cases h
        ·cases h
      ·cases h
     ·rename_i e hx
      cases h
     ·cases h
    ·rename_i x p
     split at h
     ·rename_i f1 v1 he
      cases h
      intro Wx X M xs sm
      exact zqz (zjo ((hd _ _ _ he).2.2 X M xs sm.ms).1 rfl) λ D σ H q=>qcm q
     ·cases h
    ·cases h
   ·cases h
  ·rename_i t e pos
   unfold qip at h
   split at h
   ·rename_i es k p
    split at h
    ·rename_i is f1 v1 hs he
     split at h
     ·rename_i hc
      cases h
      have g:=hd _ _ _ he
      intro Wx X M xs sm
      obtain ⟨h1,h2,h3,h4⟩:=zji hs xs sm
      have mk:M.K=X.K:=sm.ms.k xs
      refine zqz (qan (g.2.2 X M xs sm.ms).1 (qdi xs.calm h1 h2 h3) ?_ ?_ ?_) λ D σ H q=>?_
      ·cases e <;> first | rfl | (cases hc.1)
      ·cases e <;> first | rfl | (cases hc.2)
      ·rfl
      ·have:=qlq sm.al (sm.ms.v g.1) (qko h4) q
       rw [mk] at this
       exact this
     ·cases h
    ·cases h
   ·rename_i x px
    split at h
    ·rename_i i f1 v1 hi he
     split at h
     ·rename_i hc
      cases h
      have g:=hdA _ _ _ he
      intro Wx X M xs sm
      have hN:X.N.Nodup:=by rw [xs.N];exact sm.nd
      have hi':X.N[i]?=some x:=by rw [xs.N];exact zwp hi
      have hx:Loc X.env.scope x:=by rw [xs.sc];exact zjv hc.1
      have mi:M.Ms i=S.msF i:=by rw [sm.ms.ms]
      cases hcp:qa5 e with
      | false=>exact zqz (qam hN hi' hx (g.2.2 X M xs sm.ms).1 (qcx hcp) (.inl (sm.fn x))) λ D σ H q=>qch sm.al (sm.ms.v g.1) mi (zwt hc.2 sm) q
      | true=>
       cases e with
       | ListComp elt gs scope cpos=>
        obtain ⟨tg,ys,asg,it,ifs,iw,t,g2,vE,rfl,cp,rfl,rfl⟩:=qhd GX G Gm hS (show den 60 S _=_ from he)
        obtain ⟨wi,gg,h1,h2,h3,h4,h5,h6⟩:=zpo (pos:=cpos) cp xs sm.ms
        refine qmy (qbt hN hi' hx (.inl (sm.fn x)) h2 xs.calm h1 h3 h4 h5 (zyf (n:=0) (f:=g2) (vs:=[]) cp.iwo.2.1)) λ D σ H hl q=>?_
        exact h6 σ H _ (by rw [hl,xs.N]) (qch sm.al (sm.ms.v g.1) mi (zwt hc.2 sm) q)
       | SetComp _ _ _ _=>simp [denA,den,zzq] at he
       | DictComp _ _ _ _ _=>simp [denA,den,zzq] at he
       | _=>cases hcp
     ·cases h
    ·cases h
   ·rename_i t k ps
    unfold qil at h
    split at h
    ·rename_i x px
     split at h
     ·rename_i k hk
      obtain ⟨k',pk,rfl⟩:=qef hk
      split at h
      ·rename_i i f1 v1 hi he
       cases h
       have g:=hd _ _ _ he
       intro Wx X M xs sm
       refine zqz (qan (g.2.2 X M xs sm.ms).1 (qdj (xs.var hi) zfo zpx) ?_ ?_ rfl) λ D σ H q=>qlu sm.al (sm.ms.v g.1) q
       ·cases e <;> rfl
       ·cases e <;> rfl
      ·cases h
     ·rename_i hk
      split at h
      ·rename_i i fk vk f1 v1 hi hk he
       split at h
       ·rename_i hc
        cases h
        have g:=hdO _ _ _ he
        intro Wx X M xs sm
        refine zqz (qan (g.2.2 X M xs sm.ms).1 (qdj (xs.var hi) ((hd _ _ _ hk).2.2 X M xs sm.ms).1 (PSet.or zpx (qow (by have:=xs.room.units;omega))) ?_) ?_ ?_ rfl) λ D σ H q=>qi5 sm.al (by rw [sm.ms.ms];exact hc.1) (sm.ms.v g.1) q
        ·intro v
         cases k <;> first | rfl | (cases hc.2)
        ·cases e <;> rfl
        ·cases e <;> rfl
       ·cases h
      ·cases h
    ·rename_i b i pi
     split at h
     ·rename_i x hx
      obtain ⟨px,rfl⟩:=zzg hx
      split at h
      ·rename_i s fi vi fj vj f1 v1 hs hi hj he
       split at h
       ·rename_i hc
        cases h
        intro Wx X M xs sm
        have mk:M.K=X.K:=sm.ms.k xs
        refine zqz (qan ((hdO _ _ _ he).2.2 X M xs sm.ms).1 (qdj (qjy zhj (xs.var hs) ((hd _ _ _ hi).2.2 X M xs sm.ms).1 (zyb hc.2.1)) ((hd _ _ _ hj).2.2 X M xs sm.ms).1 zpx ?_) ?_ ?_ rfl) λ D σ H q=>?_
        ·intro v
         cases k <;> first | rfl | (cases hc.2.2)
        ·cases e <;> rfl
        ·cases e <;> rfl
        ·have:=qi6 (vs:=v1) (vi:=vi) (vj:=vj) sm.al (by rw [sm.ms.ms];exact hc.1) q
         rw [mk] at this
         exact this
       ·cases h
      ·cases h
     ·cases h
    ·cases h
   ·cases h
  ·split at h
   ·rename_i f1 v1 s t hc ha hb
    cases h
    intro Wx X M xs sm
    exact zqz (qju (qew GX G Gm hS hc xs sm.ms) (zwy ih _ _ ha X M xs sm) (zwy ih _ _ hb X M xs sm)) λ D σ H q=>qot q
   ·cases h
  ·rename_i t it body pos
   unfold qin at h
   split at h
   ·rename_i x px
    split at h
    ·rename_i f' hf
     cases h
     cases hE:forE S x it body with
     | some f1=>
      rw [hE] at hf
      cases hf
      exact λ {Wx}=>qkq hE
     | none=>
      rw [hE] at hf
      exact λ {Wx}=>qkp GX G Gm hS hf
    split at h
    ·rename_i i iw b hi hw hb
     split at h
     ·rename_i hc
      cases h
      intro Wx X M xs sm
      have hN:X.N.Nodup:=by rw [xs.N];exact sm.nd
      have hi':X.N[i]?=some x:=by rw [xs.N];exact zwp hi
      have hx:Loc X.env.scope x:=by rw [xs.sc];exact zjv hc.1
      have giw:=zmp hd (zmn 60 S) G.1 hw
      have hbd:=zpl hd ih hb X M xs sm
      have hg:GOk M [] [i] (zvo i) (asgN i):=qeo ⟨by rw [sm.ms.ms];exact hc.2.2.1,zwt hc.2.1 sm,sm.al i,sm.ms.als⟩
      have hpg:PG X (.Name x px) (zvo i):=zyc hN hi' hx (.inl (sm.fn x))
      have hpi:=giw.2.2 X M xs sm.ms (.Name x px)
      have hf:=zyf (n:=0) (env:=X.env) (f:=bVar 0) (vs:=[]) giw.2.1
      cases iw with
      | rng en fa vs=>
       rcases hpi with ⟨rfl,hpi⟩ | ⟨rfl,hpi⟩
       ·exact zqz (zvp (zwh xs) xs.calm hpi hpg hbd hf) λ D σ H q=>qcl hg q
       ·exact zqz (zvp (zwh xs) xs.calm hpi hpg hbd hf) λ D σ H q=>qck hg q
      | seq f vs=>exact zqz (zvp (zwh xs) xs.calm hpi hpg hbd hf) λ D σ H q=>qcj sm.al (sm.ms.v giw.1) hg q
      | vw v fa vs=>exact zqz (zvp (zwh xs) xs.calm (hpi hc.2.2.2) hpg hbd hf) λ D σ H q=>qci q
     ·cases h
    ·cases h
   ·rename_i es k p
    split at h
    ·rename_i is iw b hs hw hb
     cases h
     intro Wx X M xs sm
     have giw:=zmp hd (zmn 60 S) G.1 hw
     have hbd:=zpl hd ih hb X M xs sm
     obtain ⟨h1,h2,h3,h4⟩:=zji hs xs sm
     have mk:M.K=X.K:=sm.ms.k xs
     have hg:=qko (M:=M) (al:=[]) h4
     have hpg:=qdi (pos:=p) (k:=k) xs.calm h1 h2 h3
     rw [<- mk] at hpg
     have hpi:=giw.2.2 X M xs sm.ms (.Tuple es k p)
     have hf:=zyf (n:=0) (env:=X.env) (f:=bVar 0) (vs:=[]) giw.2.1
     cases iw with
     | rng en fa vs=>
      rcases hpi with ⟨rfl,hpi⟩ | ⟨rfl,hpi⟩
      ·exact zqz (zvp (zwh xs) xs.calm hpi hpg hbd hf) λ D σ H q=>qcl hg q
      ·exact zqz (zvp (zwh xs) xs.calm hpi hpg hbd hf) λ D σ H q=>qck hg q
     | seq f vs=>exact zqz (zvp (zwh xs) xs.calm hpi hpg hbd hf) λ D σ H q=>qcj sm.al (sm.ms.v giw.1) hg q
     | vw v fa vs=>exact zqz (zvp (zwh xs) xs.calm (hpi (by cases v <;> rfl)) hpg hbd hf) λ D σ H q=>qci q
    ·cases h
   ·cases h
  ·split at h
   ·rename_i f1 v1 b hc hb
    cases h
    intro Wx X M xs sm
    exact zqz (qf9 xs.po (qew GX G Gm hS hc xs sm.ms) (zwy ih _ _ hb X M xs sm)) λ D σ H q=>qfs q
   ·cases h
  ·rename_i t op e pos
   cases h
  ·rename_i e pos
   unfold qik at h
   split at h
   ·rename_i x hx
    obtain ⟨px,rfl⟩:=zzg hx
    split at h
    ·rename_i i hi
     split at h
     ·cases h
     ·rename_i hm
      cases h
      intro Wx X M xs sm
      exact zqz (qda (xs.var hi)) λ D σ H q=>qi4 sm.al (by rw [sm.ms.ms];simpa using hm) q
    ·cases h
   ·rename_i hx
    split at h
    ·rename_i f1 v1 he
     cases h
     intro Wx X M xs sm
     exact zqz (qda ((hd _ _ _ he).2.2 X M xs sm.ms).1) λ D σ H q=>qlt (sm.ms.v (hd _ _ _ he).1) q
    ·cases h
  ·cases h
 exact λ {Wx}=>core trivial
theorem qhf (GX:GX K mg S.xc) (G:GS P w K mg base lvl S.Γ) (Gm:GSm P w K mg base lvl S.Γm) (hS:∀ i,∀ j∈S.alF i,S.msF j=false):∀ (n:Nat) (st:Stmt) (f:Fs),qey n S st=some f->zbt P w K mg base lvl S st f:=by
 intro n
 induction n with
 | zero=>intro st f h;cases h
 | succ n ih=>
  intro st f h
  replace h:some ((zkp (qey n S) S st).getD sNo)=some f:=h
  cases e0:zkp (qey n S) S st with
  | none=>
   rw [e0] at h
   cases h
   intro Wx X M xs sm pins s σ H D I q
   exact (zkk pins s σ H D I (qci (t:=zbw) q))
  | some f'=>
   rw [e0] at h
   cases h
   exact λ {Wx}=>zhq GX G Gm hS ih _ _ e0
def denS:Nat->Sx->Stmt->Option Fs:=qey
theorem qex (GX:GX K mg S.xc) (G:GS P w K mg base lvl S.Γ) (Gm:GSm P w K mg base lvl S.Γm) (hS:∀ i,∀ j∈S.alF i,S.msF j=false):∀ (n:Nat) (st:Stmt) (f:Fs),denS n S st=some f->zbt P w K mg base lvl S st f:=qhf GX G Gm hS
def zwm:Bool->List PV->Rho
 | true,x::xr=>some (x,om)::xr.map λ x=>some (x,dv x)
 | _,xs=>xs.map λ x=>some (x,dv x)
def finF (io:Bool) (y:PV) (d:Nat) (ρ:Rho):Rz (PV×Nat×PV):=match io with
 | false=>.ok (y,d,.non)
 | true=>match ρ[0]? with
  | some (some (z,_))=>.ok (y,d,z)
  | _=>.no
def mkFn (io:Bool) (np k:Nat) (b:Fs):Fn:=λ xs=>if xs.length=np then (match b (zwm io xs++ja5 k none) with
 | .rt y d ρ=>finF io y d ρ
 | .nx ρ=>finF io .non om ρ
 | .exc c=>.exc c
 | _=>.no) else .no
theorem zzo {io:Bool}{np k:Nat}{b:Fs}:∀ xs,xs.length≠np->mkFn io np k b xs=.no:=λ xs h=>by
 unfold mkFn
 rw [if_neg h]
theorem zby {io:Bool}{xs:List PV}{i:Nat}{x:PV}{d:Nat} (h:(zwm io xs)[i]?=some (some (x,d))):xs[i]?=some x/\(d=dv x\/(io=true/\i=0/\d=om)):=by
 cases io with
 | false=>
  have h':(xs.map λ x=>(some (x,dv x):Slot))[i]?=some (some (x,d)):=h
  rw [jc6] at h'
  cases e:xs[i]? with
  | none=>rw [e] at h';cases h'
  | some y=>rw [e] at h';cases h';exact ⟨rfl,.inl rfl⟩
 | true=>
  cases xs with
  | nil=>simp [zwm] at h
  | cons y r=>
   cases i with
   | zero=>
    have h':some (some (y,om):Slot)=some (some (x,d)):=h
    cases h'
    exact ⟨rfl,.inr ⟨rfl,rfl,rfl⟩⟩
   | succ i=>
    have h':(r.map λ x=>(some (x,dv x):Slot))[i]?=some (some (x,d)):=h
    rw [jc6] at h'
    cases e:r[i]? with
    | none=>rw [e] at h';cases h'
    | some y'=>rw [e] at h';cases h';exact ⟨by simpa using e,.inl rfl⟩
theorem qbq (io:Bool) (xs:List PV):(zwm io xs).length=xs.length:=by
 cases io <;> cases xs <;> simp [zwm]
theorem qep {x qual:Str}{st:Stmt}{f:Addr}{fd:vc9}{N ps:List Str}{k:Nat}{sp:Sp} (F:Fun K x qual st f fd) (S:FnScope N ps (zqe st)) (len:∀ vs H Q E,sp vs H Q E->vs.length=ps.length)
  (hbody:∀ (cdv:va2) (A:vc0) (outer:List Env) (s:va3) (H:Hp) (vs:List V) (Q:VK) (E:XK),Room k (A.deeper (vo0 qual (zqe st) s.heap.objs.size f cdv))->sp vs H Q E ->
   ∃ t,PSs (cxOf (CXr P w K) P w K mg base N qual (zqe st) f cdv A outer s H E) (zqo st) t/\t { nx:=λ _ H'=>Q .non H',rt:=Q } (L2.start N vs) H):FnOk P w K mg base (CXr P w K) (k + 1) f fd ps sp:=by
 obtain ⟨oc,od,kV,doc,pm,an,cdv,ct,osl,rfl,lk,hcd⟩:=F.ex
 exact qpi lk hcd S len λ A outer s H vs Q E hr hsp=>hbody cdv A outer s H vs Q E hr hsp
theorem qn3 {x qual:Str}{st:Stmt}{fa:Addr}{fd:vc9}{ps:List Str}{np k:Nat}{io:Bool}{b:Fs} (Fu:Fun K x qual st fa fd) (FS:FnScope S.N ps (zqe st)) (hsc:S.sc=zqe st) (hal:S.al=[]) (hnp:ps.length=np) (hk:S.N.length=np + k)
  (hms:∀ i∈S.ms,i < np->i=0/\io=true) (hio:io=true->S.msF 0=true/\0 < np) (GX:GX K mg S.xc) (G:GS P w K mg base lvl S.Γ) (Gm:GSm P w K mg base lvl S.Γm) (hb:zqs (denS 60 S) (zqo st)=some b):
  FnOk P w K mg base (CXr P w K) (lvl + 1) fa fd ps (spF K io np (mkFn io np k b)):=by
 have hS:∀ i,∀ j∈S.alF i,S.msF j=false:=λ i j hj=>by
  unfold Sx.alF at hj
  rw [hal] at hj
  simp at hj
 refine qep Fu FS (λ vs H Q E h=>h.1.trans hnp.symm) λ cdv A outer s H vs Q E hr h=>?_
 obtain ⟨hl,xs,Zo,x0,v0,fp0,hZ,hz0,h1,h2,q⟩:=h
 let M:Fm:={ K:=K,Ms:=S.msF,Zo:=Zo,H₀:=H,W:=WE E H,io:=if io=true then some v0 else none,al:=λ _=>[] }
 have hxs:XS (cxOf (CXr P w K) P w K mg base S.N qual (zqe st) fa cdv A outer s H E) P w K mg base lvl S (WE E H):=⟨rfl,rfl,rfl,rfl,rfl,rfl,hsc.symm,rfl,hr,qdm,qgi,λ _=>qc4⟩
 have hsm:SM (cxOf (CXr P w K) P w K mg base S.N qual (zqe st) fa cdv A outer s H E) M K S (WE E H):=by
  refine ⟨⟨rfl,rfl,λ i _=>?_,(λ i j hj=>nomatch hj),rfl,λ _ h=>nomatch h⟩,λ _=>rfl,λ h=>?_,(λ _ h=>nomatch h),λ _=>rfl,FS.nd,rfl,rfl⟩
  ·show []=S.al.getD i []
   rw [hal];rfl
  ·have h':(if io=true then some v0 else none)≠none:=h
   cases io with
   | true=>exact (hio rfl).1
   | false=>exact absurd rfl h'
 refine ⟨tS M b,zwy (qex GX G Gm hS 60) _ _ hb _ M hxs hsm,zwm io xs++ja5 k none,λ i=>if i=0 then fp0 else [],?_,?_⟩
 ·have hlen:xs.length=vs.length:=by
   cases io with
   | false=>exact (h1 rfl).2.length.symm
   | true=>obtain ⟨xr,wr,rfl,rfl,_,o⟩:=h2 rfl;rw [jb2,jb2,o.length]
  have each:∀ i y d,(zwm io xs)[i]?=some (some (y,d))->∃ v,vs[i]?=some v/\Own K H (λ a=>Zo a\/a∈fp0) y d v (if i=0 then fp0 else []):=λ i y d e=>by
   obtain ⟨e1,e2⟩:=zby e
   cases io with
   | false=>
    obtain ⟨rfl,o⟩:=h1 rfl
    obtain ⟨v,ev,ov⟩:=o.nth e1
    rcases e2 with rfl | ⟨z,_⟩
    ·refine ⟨v,ev,?_⟩
     rw [ite_self]
     exact ov.dv.weak λ a h=>h.elim id λ z=>nomatch z
    ·cases z
   | true=>
    obtain ⟨xr,wr,rfl,rfl,o0,o⟩:=h2 rfl
    cases i with
    | zero=>
     simp [zwm] at e
     obtain ⟨rfl,rfl⟩:=e
     exact ⟨v0,rfl,Own.full _ _ _ o0⟩
    | succ i=>
     obtain ⟨v,ev,ov⟩:=o.nth (j:=i) (by simpa using e1)
     rcases e2 with rfl | ⟨_,z,_⟩
     ·refine ⟨v,by simpa using ev,?_⟩
      rw [if_neg (jj3 i)]
      exact ov.dv
     ·cases z
  have inl:∀ i p,(zwm io xs++ja5 k none)[i]?=some (some p)->(zwm io xs)[i]?=some (some p):=λ i p e=>by
   by_cases hi:i < (zwm io xs).length
   ·rw [jc3 hi] at e;exact e
   ·rw [jc9 (by omega),jd2] at e
    split at e <;> cases e
  have domF:∀ a∈fp0,H a≠none:=λ a ha=>by
   cases io with
   | false=>rw [(h1 rfl).1] at ha;cases ha
   | true=>
    obtain ⟨xr,wr,rfl,rfl,o0,o⟩:=h2 rfl
    obtain ⟨ys,e⟩:=Own.lsts _ _ _ _ o0 a ha
    rw [e];simp
  refine ⟨λ i y d e=>?_,λ i h=>?_,λ i j hij a ha hb'=>?_,λ i a ha=>?_,λ i hi a ha=>?_,hZ,?_,λ i y d hi e=>?_,λ a h=>h,⟨λ v hv=>?_,λ _ h=>(nomatch h)⟩⟩
  ·obtain ⟨v,ev,ov⟩:=each i y d (inl i _ e)
   refine ⟨v,?_,ov.weak λ a h=>?_⟩
   ·unfold L2.start
    rw [jc3 (by rw [ja4];exact (ja7.mp ev).1),jc6,ev]
    rfl
   ·rcases h with h | ⟨j,_,h⟩
    ·exact .inl h
    ·by_cases ej:j=0
     ·simp only [if_pos ej] at h;exact .inr h
     ·simp only [if_neg ej] at h;cases h
  ·by_cases hi:i=0
   ·subst hi
    rw [if_pos rfl]
    cases io with
    | false=>exact (h1 rfl).1
    | true=>
     obtain ⟨xr,wr,rfl,rfl,_,_⟩:=h2 rfl
     exact absurd rfl (h (x0,om))
   ·rw [if_neg hi]
  ·by_cases e1:i=0
   ·by_cases e2:j=0
    ·exact hij (e1.trans e2.symm)
    ·rw [if_neg e2] at hb';cases hb'
   ·simp only [if_neg e1] at ha;cases ha
  ·by_cases e1:i=0
   ·simp only [if_pos e1] at ha;exact hz0 a ha
   ·simp only [if_neg e1] at ha;cases ha
  ·by_cases e1:i=0
   ·simp only [if_pos e1] at ha
    cases io with
    | false=>rw [(h1 rfl).1] at ha;cases ha
    | true=>
     have:=(hio rfl).1
     have hi':S.msF i=false:=hi
     rw [e1,this] at hi';cases hi'
   ·simp only [if_neg e1] at ha;cases ha
  ·unfold L2.start
   rw [ja8,qbq,jd5,ja8,ja4,jd5,hlen,hl,hk]
   omega
  ·have hm:i∈S.ms:=by
    have hi':S.msF i=true:=hi
    unfold Sx.msF at hi'
    simpa using hi'
   obtain ⟨e1,e2⟩:=zby (inl i _ e)
   have hlt:i < np:=by
    have:=(ja7.mp e1).1
    rw [hlen,hl] at this;exact this
   obtain ⟨rfl,rfl⟩:=hms i hm hlt
   obtain ⟨xr,wr,rfl,rfl,_,_⟩:=h2 rfl
   have e':=inl 0 _ e
   simp [zwm] at e'
   exact e'.2.symm
  ·have hv':(if io=true then some v0 else none)=some v:=hv
   cases io with
   | false=>cases hv'
   | true=>
    cases hv'
    obtain ⟨xr,wr,rfl,rfl,_,_⟩:=h2 rfl
    exact ⟨rfl,(hio rfl).1⟩
 ·unfold mkFn at q
  have hlen:xs.length=np:=by
   by_cases e:xs.length=np
   ·exact e
   ·rw [if_neg e] at q;exact q.elim
  rw [if_pos hlen] at q
  have fin:∀ {y:PV}{d:Nat}{ρ':Rho}{v:V}{σ':St}{H':Hp}{fps':Fps}{fp:List Addr},(match finF io y d ρ' with
    | .ok (y,d,z0)=>∀ v H' fp fp0',Keep (λ a=>a∈fp0) H H'->(∀ a,H a≠none->H' a≠none)->(∀ a∈fp0',a∈fp0\/H a=none)->(∀ a∈fp0',¬ Zo a)->(io=false->fp0'=[])->(io=true->Own K H' (λ _=>True) z0 om v0 fp0') ->
      Own K H' (λ a=>(Zo a\/a∈fp0')\/a∈fp) y d v fp->(∀ a∈fp,H a=none/\¬ (Zo a\/a∈fp0'))->Q v H'
    | .exc c=>∀ H',Keep (λ a=>a∈fp0) H H'->(∀ a,H a≠none->H' a≠none)->E (.int (c:Int) 0) none H'
    | .no=>False)->KS M H (λ i=>if i=0 then fp0 else []) H' fps'->Rep M ρ' σ' H' fps'->Own M.K H' (λ a=>Zr M fps' a\/a∈fp) y d v fp->(∀ a∈fp,M.H₀ a=none/\¬ Zr M fps' a)->Q v H':=λ {y d ρ' v σ' H' fps' fp} q ks rp oy hf=>by
   have kp:Keep (λ a=>a∈fp0) H H':=λ a o h n=>ks.keep a o h λ ⟨i,hi⟩=>by
    by_cases e:i=0
    ·simp only [if_pos e] at hi;exact n hi
    ·simp only [if_neg e] at hi;cases hi
   cases io with
   | false=>
    refine q v H' fp [] kp ks.dom (λ _ z=>(nomatch z)) (λ _ z=>(nomatch z)) (λ _=>rfl) (λ h=>(nomatch h)) (oy.weak λ a h=>?_) λ a ha=>⟨(hf a ha).1,λ z=>(hf a ha).2 ?_⟩
    ·rcases h with (h | h) | h
     ·exact .inl (.inl h)
     ·cases h
     ·exact .inr h
    ·rcases z with z | z
     ·exact .inl z
     ·cases z
   | true=>
    unfold finF at q
    cases e0:ρ'[0]? with
    | none=>dsimp only at q;rw [e0] at q;exact q.elim
    | some s0=>
     dsimp only at q
     rw [e0] at q
     cases s0 with
     | none=>exact q.elim
     | some p0=>
      obtain ⟨z,dz⟩:=p0
      have hdz:=rp.msf 0 z dz (hio rfl).1 e0
      subst hdz
      obtain ⟨u,hu,ou⟩:=rp.own 0 z om e0
      have hu0:=(rp.iov.1 v0 rfl).1
      rw [hu] at hu0
      cases hu0
      refine q v H' fp (fps' 0) kp ks.dom (λ a ha=>?_) (λ a ha=>rp.zo 0 a ha) (λ h=>(nomatch h)) (λ _=>Own.full _ _ _ ou) (oy.weak λ a h=>?_) λ a ha=>⟨(hf a ha).1,λ z=>(hf a ha).2 ?_⟩
      ·rcases ks.sub 0 a ha with ⟨j,hj⟩ | z
       ·by_cases e:j=0
        ·simp only [if_pos e] at hj;exact .inl hj
        ·simp only [if_neg e] at hj;cases hj
       ·exact .inr z
      ·rcases h with (h | h) | h
       ·exact .inl (.inl h)
       ·exact .inl (.inr ⟨(λ z=>nomatch z),h⟩)
       ·exact .inr h
      ·rcases z with z | z
       ·exact .inl z
       ·exact .inr ⟨(λ z=>nomatch z),z⟩
  cases eb:b (zwm io xs++ja5 k none) with
  | no=>rw [eb] at q;exact q
  | exc c=>
   rw [eb] at q
   refine λ σ' H' fps' ks=>⟨q H' (λ a o h n=>ks.keep a o h λ ⟨i,hi⟩=>?_) ks.dom,ks.dom⟩
   by_cases e:i=0
   ·simp only [if_pos e] at hi;exact n hi
   ·simp only [if_neg e] at hi;cases hi
  | bk ρ=>rw [eb] at q;exact q.elim
  | ct ρ=>rw [eb] at q;exact q.elim
  | rt y d ρ'=>
   rw [eb] at q
   exact λ v σ' H' fps' fp ks rp oy hf=>fin q ks rp oy hf
  | nx ρ'=>
   rw [eb] at q
   exact λ σ' H' fps' ks rp=>fin (fp:=[]) q ks rp (by rw [Own];exact ⟨rfl,rfl⟩) λ _ z=>nomatch z
def qbx (k:Nat) (b:Fs):Fn:=λ xs=>match xs with
 | [x0]=>(match b (some (x0,om)::ja5 k none) with
  | .rt y d _=>.ok (y,d,.non)
  | .nx _=>.ok (.non,om,.non)
  | _=>.no)
 | _=>.no
theorem qpj {x qual:Str}{st:Stmt}{fa:Addr}{fd:vc9}{p:Str}{k:Nat}{b:Fs} (Fu:Fun K x qual st fa fd) (FS:FnScope S.N [p] (zqe st)) (hsc:S.sc=zqe st) (hal:S.al=[]) (hk:S.N.length=1 + k) (hms:S.ms=[])
  (GX:GX K mg S.xc) (G:GS P w K mg base lvl S.Γ) (Gm:GSm P w K mg base lvl S.Γm) (hb:zqs (denS 60 S) (zqo st)=some b):FnOk P w K mg base (CXr P w K) (lvl + 1) fa fd [p] (spM K (qbx k b)):=by
 have hS:∀ i,∀ j∈S.alF i,S.msF j=false:=λ i j hj=>by
  unfold Sx.alF at hj
  rw [hal] at hj
  simp at hj
 have nms:∀ i,S.msF i=false:=λ i=>by unfold Sx.msF;rw [hms];rfl
 refine qep Fu FS (λ vs H Q E h=>by obtain ⟨_,_,_,rfl,_⟩:=h;rfl) λ cdv A outer s H vs Q E hr h=>?_
 obtain ⟨x0,v0,fp0,rfl,o0,q⟩:=h
 let M:Fm:={ K:=K,Ms:=S.msF,Zo:=λ _=>False,H₀:=λ a=>if a∈fp0 then none else H a,W:=λ _ _ _=>False,io:=none,al:=λ _=>[] }
 have hxs:XS (cxOf (CXr P w K) P w K mg base S.N qual (zqe st) fa cdv A outer s H E) P w K mg base lvl S W0:=⟨rfl,rfl,rfl,rfl,rfl,rfl,hsc.symm,rfl,hr,qdm,qh9,λ _ _ _ _ _ _ _ _ _ _ _ _ _ h=>h.elim⟩
 have hsm:SM (cxOf (CXr P w K) P w K mg base S.N qual (zqe st) fa cdv A outer s H E) M K S W0:=by
  refine ⟨⟨rfl,rfl,λ i _=>?_,(λ i j hj=>nomatch hj),rfl,λ _ h=>nomatch h⟩,λ _=>rfl,λ h=>absurd rfl h,(λ _ h=>nomatch h),λ _=>rfl,FS.nd,rfl,rfl⟩
  show []=S.al.getD i []
  rw [hal];rfl
 refine ⟨tS M b,zwy (qex GX G Gm hS 60) _ _ hb _ M hxs hsm,some (x0,om)::ja5 k none,λ i=>if i=0 then fp0 else [],?_,?_⟩
 ·have domF:∀ a∈fp0,H a≠none:=λ a ha=>by
   obtain ⟨ys,e⟩:=Own.lsts _ _ _ _ o0 a ha
   rw [e];simp
  have only:∀ i p,(some (x0,om)::ja5 k none:Rho)[i]?=some (some p)->i=0/\p=(x0,om):=λ i p e=>by
   cases i with
   | zero=>simp at e;exact ⟨rfl,e.symm⟩
   | succ i=>
    rw [je1,jd2] at e
    split at e <;> cases e
  refine ⟨λ i y d e=>?_,λ i h=>?_,λ i j hij a ha hb'=>?_,λ i a ha z=>z,λ i hi a ha=>?_,λ a z=>z.elim,?_,λ i y d hi e=>?_,λ a h=>?_,⟨λ v hv=>(by cases hv),λ _ h=>(nomatch h)⟩⟩
  ·obtain ⟨rfl,e2⟩:=only i _ e
   cases e2
   refine ⟨v0,?_,Own.full _ _ _ o0⟩
   unfold L2.start
   simp
  ·by_cases hi:i=0
   ·subst hi
    exact absurd rfl (h (x0,om))
   ·exact if_neg hi
  ·by_cases e1:i=0
   ·by_cases e2:j=0
    ·exact hij (e1.trans e2.symm)
    ·simp only [if_neg e2] at hb';cases hb'
   ·simp only [if_neg e1] at ha;cases ha
  ·by_cases e1:i=0
   ·simp only [if_pos e1] at ha
    exact if_pos ha
   ·simp only [if_neg e1] at ha;cases ha
  ·unfold L2.start
   rw [jb2,jd5,ja8,ja4,jd5,hk]
   simp
   omega
  ·have:S.msF i=true:=hi
   rw [nms i] at this;cases this
  ·have h':(if a∈fp0 then none else H a)≠none:=h
   by_cases e:a∈fp0
   ·exact domF a e
   ·rw [if_neg e] at h';exact h'
 ·have kpOf:∀ {H':Hp}{fps':Fps},KS M H (λ i=>if i=0 then fp0 else []) H' fps'->Keep (λ a=>a∈fp0) H H':=λ ks a o h n=>ks.keep a o h λ ⟨i,hi⟩=>by
   by_cases e:i=0
   ·simp only [if_pos e] at hi;exact n hi
   ·simp only [if_neg e] at hi;cases hi
  unfold qbx at q
  dsimp only at q
  cases eb:b (some (x0,om)::ja5 k none) with
  | no=>rw [eb] at q;exact q
  | exc c=>rw [eb] at q;exact q.elim
  | bk ρ=>rw [eb] at q;exact q.elim
  | ct ρ=>rw [eb] at q;exact q.elim
  | rt y d ρ'=>
   rw [eb] at q
   exact λ v σ' H' fps' fp ks rp oy hf=>q.2 v H' (kpOf ks) ks.dom (Own.atom q.1 oy).2
  | nx ρ'=>
   rw [eb] at q
   exact λ σ' H' fps' ks rp=>q.2 .non H' (kpOf ks) ks.dom (by rw [Own];exact ⟨rfl,rfl⟩)
end
open PySem PySem.Spec PySem.W PySem.Calls PyProof.Rows L2
theorem zfb {tb:String->Option vk7}{p:vb0}{w:vb8}{n₀:Nat}{ann:Option va2}:∀ {n:Nat}{s r:SharedT}{t:Thread},zkw tb p w n₀ ann n s t=some r->topRun tb p w n₀ ann n s.abs t=some r.abs
 | 0,_,_,_,h=>by cases h
 | n + 1,s,r,t,h=>by
  unfold zkw at h
  unfold topRun
  cases e1:through t with
  | true=>rw [e1] at h;cases h;rfl
  | false=>
   rw [e1] at h
   cases e2:stepOk n₀ ann t with
   | false=>rw [e2] at h;cases h
   | true=>
    rw [e2] at h
    cases e3:stepT (denote tb) p w s t with
    | none=>rw [e3] at h;cases h
    | some z=>obtain ⟨s₂,t₂⟩:=z;rw [e3] at h;rw [stepT_spec e3];exact zfb h
theorem qhq (P:Params) (os:OsState):(bootS P os).abs=⟨ve0 P,#[],boot_drawn,boot_toks,os⟩:=by kernel_rfl
theorem qk7 (P:Params):(ve0 P).isNs vc8=true:=by kernel_rfl
theorem qkg {p q:vb0}{loose:List Str}{Xt:va3->Bool}{α:Type}{Yf:va3->α}{Ya:vb8->α}{N:Nat} (e:opening p=plainProg p.main.scope.names) (hN:Nat.ble 600 N=true) (f:∀ s,fenceModules? p s=some s)
  (run:∀ (w:vb8) (os:OsState),(zkw treeTable p w (ve0 w.params).objs.size ((ve0 w.params).nsMap vc8 "__annotations__") N (bootS w.params os) (topStub p)).map (λ s=>zho p q loose Xt Yf (ve0 w.params) s.abs)=some (true,openGood q loose,Ya w)):
  LeftO p q loose Xt Yf Ya N:=λ w=>by
 obtain ⟨⟨h,gs,d,k,os⟩,e1,e2⟩:=jb7.mp (boot_open e hN f w)
 obtain ⟨rfl,rfl,rfl,rfl⟩:h=ve0 w.params/\gs=#[]/\d=boot_drawn/\k=boot_toks:=by simpa using e2
 obtain ⟨s,r1,r2⟩:=jb7.mp (run w os)
 have r:=zfb r1
 rw [qhq] at r
 have r3:(_=_)/\(_ ,_)=(_,_):=vo4 r2
 obtain ⟨l1,l23⟩:=r3
 obtain ⟨l2,l3⟩:=vo4 l23
 have t:topFrom treeTable p w N ⟨ve0 w.params,#[],boot_drawn,boot_toks,os⟩=some s.abs:=by
  unfold topFrom
  dsimp only
  rw [qk7,r]
  show (match staticsOk (vn9 p.main.body) (ve0 w.params) s.abs.heap && namesBound p s.abs.heap && gensDone s.abs && laidKept (ve0 w.params) s.abs.heap with | true=>_ | false=>_)=_
  rw [l1]
 unfold openEnds
 rw [e1]
 show (topFrom treeTable p w N _).map _=_
 rw [t]
 exact congrArg some (Prod.ext l2 l3)
theorem qno (h:Heap):(kof h).In h:=by
 intro a o
 unfold kof
 generalize jd0 h.objs.size=l
 induction l with
 | nil=>intro e;cases e
 | cons b l ih=>
  intro e
  rw [jh9] at e
  cases g:h.get? b with
  | none=>rw [g] at e;exact ih e
  | some z=>
   rw [g] at e
   dsimp only [je3] at e
   rw [jd4] at e
   split at e
   ·rename_i q
    cases e
    rw [beq_iff_eq.mp q]
    exact g
   ·exact ih e
theorem qoc {K:Frag}{x:Str}{st:Stmt} (e:zhs K x=some (qez x st)):∃ (g:Addr) (fd:vc9),nsIn K vc8 x=some (some (.ref g))/\Fun K x x st g fd:=by
 unfold zhs at e
 split at e
 ·rename_i g hg
  split at e
  ·rename_i oc od fd sl hl
   cases fd
   unfold qez at e
   simp only [Option.some.injEq,DefSeen.mk.injEq] at e
   obtain ⟨rfl,rfl,rfl,rfl,rfl,rfl,rfl,rfl,rfl,hc⟩:=e
   refine ⟨g,_,hg,qn0 hl hc ?_⟩
   unfold keepIn
   dsimp only
   rw [hl]
  ·cases e
 ·cases e
structure Given (ds:List (Str×Stmt)) (xc:List Nat) (K:Frag) (mg:Str->Option va2):Prop where
 df:∀ (i:Nat) (x:Str) (st:Stmt),ds[i]?=some (x,st)->∃ (g:Addr) (fd:vc9),mg x=some (.ref g)/\Fun K x x st g fd
 bn:∀ x∈zvc,mg x=none
 gx:GX K mg xc
theorem qd0 {α β:Type}{f g:α->β}:∀ {l:List α},l.map f=l.map g->∀ {i:Nat}{a:α},l[i]?=some a->f a=g a
 | [],_,_,_,h=>by cases h
 | b::l,e,0,a,h=>by
  cases h
  exact (List.cons.inj e).1
 | b::l,e,i + 1,a,h=>qd0 (List.cons.inj e).2 h
theorem qg7 {ds:List (Str×Stmt)}{xc:List Nat}{K:Frag}{mg:Str->Option va2}{h:Heap} (X:K.In h) (G:h.Ns vc8 mg) (e:zjx ds xc K=zga ds):Given ds xc K mg:=by
 obtain ⟨e1,e2⟩:=vo4 e
 obtain ⟨e2,e3⟩:=vo4 e2
 refine ⟨λ i x st hi=>?_,λ x hx=>?_,λ hne=>?_⟩
 ·obtain ⟨g,fd,a,b⟩:=qoc (qd0 e1 hi)
  exact ⟨g,fd,mg_of X G a,b⟩
 ·obtain ⟨i,hi⟩:=List.getElem?_of_mem hx
  exact mg_none_of X G (qd0 e2 hi)
 ·have hm:xc.isEmpty=false:=by
   cases xc with
   | nil=>exact absurd rfl hne
   | cons _ _=>rfl
  rw [hm,jp6,jb0,jb0] at e3
  refine ⟨e3.1.1,e3.1.2,λ c hc=>?_⟩
  have h1:=jc7.mp e3.2 c hc
  rw [jb0] at h1
  obtain ⟨C,hC⟩:=jg7.mp h1.1
  have hC':=hC
  unfold zwf at hC'
  cases hx:XN[c]? with
  | none=>rw [hx] at hC';cases hC'
  | some x=>
   rw [hx] at hC'
   dsimp only at hC'
   have h2:=h1.2
   rw [hx] at h2
   dsimp only at h2
   refine ⟨x,C,rfl,hC,?_,by simpa using h2⟩
   split at hC'
   ·rename_i D hD
    cases hC'
    exact mg_of X G hD
   ·cases hC'
theorem qkz {P:vb0}{w:vb8}{K:Frag}{outer:List Env}{H:Hp}{s:va3}{e:va2}{s2:va3} (z:CXr P w K outer H s (λ _ _ _=>False) e s2):False:=by
 obtain ⟨_,_,_,_,_,_,_,_,_,_,_,_,_,_,_,_,_,_,z⟩:=z
 exact z
theorem holds_by {l:OpenLaw}{q:vb0}{loose:List Str}{d:DefRec}{N k n:Nat}{ds:List (Str×Stmt)}{xc:List Nat}{F:Fn}{x:Str} (said:l.wellSaid=true)
  (e:opening l.prog=plainProg l.prog.main.scope.names) (hN:Nat.ble 600 N=true) (f:∀ s,fenceModules? l.prog s=some s)
  (run:∀ (w:vb8) (os:OsState),(zkw treeTable l.prog w (ve0 w.params).objs.size ((ve0 w.params).nsMap vc8 "__annotations__") N (bootS w.params os) (topStub l.prog)).map
   (λ s=>zho l.prog q loose (λ s=>xlAt q [] s && recOk (RowW.records l.row.toRowW) s) (λ s=>zjx ds xc (kof s.heap)) (ve0 w.params) s.abs)=some (true,openGood q loose,zga ds))
  (hdef:defOf q l.row.name=some (d,[])) (hp:l.row.prog.theDef l.row.name=some (d.params,d.body,d.scope)) (hk:kwWritten? d.params.kwonlyargs d.params.kw_defaults=some []) (hwr:(!l.row.writes || l.row.records.isEmpty)=true)
  (ok:(chainsOk q && opensWell l.row.prog && (frees l.row.toRowW && l.row.within.isEmpty))=true) (hb:l.row.prog.bare) (hw:l.row.toRowW.promised)
  (hn:l.most=some n) (hn2:n<=va4) (hdf:d.params.defaults=[]) (hr:Room k vo1)
  (law:∀ (K:Frag) (w:vb8) (mg:Str->Option va2) (fa:Addr),Given ds xc K mg->mg d.name=some (.ref fa)->∃ fd:vc9,(∀ (s:va3) (u:va2),BindsTo s fd ⟨[u],[]⟩ [(x,u)]) /\
   ∀ base:Heap,FnOk l.prog w K mg base (CXr l.prog w K) k fa fd [x] (spF K false 1 F))
  (yes:∀ (K:Frag) (H:Hp) (a:Addr) (ns:List Int),ns.length<=n->Only H->SqL K H a (ns.map V.int)->spF K false 1 F [.ref a] H (λ v _=>v=.bl true) λ _ _ _=>False):l.Holds:=by
 refine holds_law said λ ws=>?_
 refine holds_open (q:=q) (loose:=loose) (Xt:=λ s=>xlAt q [] s && recOk (RowW.records l.row.toRowW) s) (XP:=XL q []) (Yf:=λ s=>zjx ds xc (kof s.heap)) (Ya:=λ _=>zga ds) (YP:=λ _ h=>∃ K:Frag,K.In h/\zjx ds xc K=zga ds) (N:=N)
  (qkg e hN f run) (λ _ s z=>⟨_,qno _,z⟩) (λ _ _ _ ⟨K,a,b⟩ kp=>⟨K,a.keeps kp,b⟩) (λ s e=>xl_of s (jm3.mp e).1) XL.keeps hdef hp hk (λ s e=>recFacts_of (jm3.mp e).2) hwr ws ok hb hw ?_
 refine Att.attach_call hn hdf λ w s₀ s₁ mg mb fa o pm cd doc a vs ns G Y ho hd hcd hmg hobj hints hlen hg=>?_
 obtain ⟨K,KX,hf⟩:=Y
 obtain ⟨fd,hbd,hF⟩:=law K w mg fa (qg7 KX G.T.g hf) hmg
 exact qgu KX G.T.g G.T.b G.T.builtins G.T.nolimit hg hobj hints (jd3 hlen hn2) hr (λ base _ _=>hF base) hbd (λ H hO hS=>yes K H a ns hlen hO hS) λ H e s'=>qkz
section
variable {P:vb0}{w:vb8}{K:Frag}{mg:Str->Option va2}{base:Heap}
theorem len1 {us:List va2} (h:us.length=1):∃ a,us=[a]:=List.length_eq_one_iff.mp h
theorem len2 {us:List va2} (h:us.length=2):∃ a b,us=[a,b]:=by
 cases us with
 | nil=>cases h
 | cons a r=>obtain ⟨b,rfl⟩:=len1 (Nat.succ.inj h);exact ⟨a,b,rfl⟩
theorem zxy {lvl:Nat} (hb:∀ x∈zvc,mg x=none):GS P w K mg base lvl []:=⟨hb,λ x io n F h=>by cases h⟩
theorem zvw {lvl:Nat}{x qual:Str}{st:Stmt}{fa:Addr}{fd:vc9}{ps:List Str}{io:Bool}{n:Nat}{F:Fn}{Γ:List (Str×(Bool×Nat×Fn))} (g:GS P w K mg base lvl Γ) (hx:(x == ("__debug__" : Str))=false) (hF:∀ xs,xs.length≠n->F xs=.no)
  (hm:mg x=some (.ref fa)) (Fu:Fun K x qual st fa fd) (hbd:zbk K fd ps []) (hn:ps.length=n) (ok:FnOk P w K mg base (CXr P w K) lvl fa fd ps (spF K io n F)):GS P w K mg base lvl ((x,(io,n,F))::Γ):=by
 refine ⟨g.1,λ y io' n' F' h=>?_⟩
 rw [jd4] at h
 split at h
 ·rename_i e
  cases h
  have:y=x:=eq_of_beq e
  subst this
  exact ⟨hx,hF,fa,fd,ps,hm,Fu.kp,hbd,hn,ok⟩
 ·exact g.2 y io' n' F' h
theorem zhm {lvl:Nat}:GSm P w K mg base lvl []:=λ x F h=>by cases h
theorem gcs {lvl j:Nat}{x qual:Str}{st:Stmt}{fa:Addr}{fd:vc9}{ps:List Str}{io:Bool}{n:Nat}{F:Fn}{Γ:List (Str×(Bool×Nat×Fn))} (g:GS P w K mg base lvl Γ) (hm:mg x=some (.ref fa)) (Fu:Fun K x qual st fa fd) (hbd:zbk K fd ps []) (ok:FnOk P w K mg base (CXr P w K) j fa fd ps (spF K io n F)) (hl:j<=lvl:=by decide) (hx:(x == ("__debug__" : Str))=false:=by decide +kernel) (hF:∀ xs,xs.length≠n->F xs=.no:=by exact zzo) (hn:ps.length=n:=by rfl):GS P w K mg base lvl ((x,(io,n,F))::Γ):=zvw g hx hF hm Fu hbd hn (ok.mono hl)
theorem fnb (S:Sx) {lvl:Nat}{x qual:Str}{st:Stmt}{fa:Addr}{fd:vc9}{ps:List Str}{np k:Nat}{io:Bool}{b:Fs} (Fu:Fun K x qual st fa fd) (FS:FnScope S.N ps (zqe st)) (gX:GX K mg S.xc) (G:GS P w K mg base lvl S.Γ) (hb:zqs (denS 60 S) (zqo st)=some b) (hsc:S.sc=zqe st:=by rfl) (hal:S.al=[]:=by rfl) (hnp:ps.length=np:=by rfl) (hk:S.N.length=np + k:=by rfl) (hms:∀ i∈S.ms,i < np->i=0/\io=true:=by decide) (hio:io=true->S.msF 0=true/\0 < np:=by first | exact λ h=>Bool.noConfusion h | exact λ _=>⟨rfl,by decide⟩) (Gm:GSm P w K mg base lvl S.Γm:=by exact zhm):FnOk P w K mg base (CXr P w K) (lvl + 1) fa fd ps (spF K io np (mkFn io np k b)):=qn3 (S:=S) Fu FS hsc hal hnp hk hms hio gX G Gm hb
theorem qg2 {lvl:Nat}{x qual:Str}{st:Stmt}{fa:Addr}{fd:vc9}{ps:List Str}{F:Fn}{Γm:List (Str×Fn)} (g:GSm P w K mg base lvl Γm) (hx:(x == ("__debug__" : Str))=false) (hm:mg x=some (.ref fa)) (Fu:Fun K x qual st fa fd) (hbd:zbk K fd ps []) (ok:FnOk P w K mg base (CXr P w K) lvl fa fd ps (spM K F)):GSm P w K mg base lvl ((x,F)::Γm):=by
 intro y F' h
 rw [jd4] at h
 split at h
 ·rename_i e
  cases h
  have:y=x:=eq_of_beq e
  subst this
  exact ⟨hx,fa,fd,ps,hm,Fu.kp,hbd,ok⟩
 ·exact g y F' h
end
theorem sp_yes {K:Frag}{H:Hp}{a:Addr}{ns:List Int}{F:Fn} (hO:Only H) (hS:SqL K H a (ns.map V.int)) (h:∃ d z,F [.scr ns]=.ok (.bl true,d,z)):spF K false 1 F [.ref a] H (λ v _=>v=.bl true) λ _ _ _=>False:=by
 refine ⟨rfl,[.scr ns],λ _=>False,.non,.non,[],λ _ z=>z.elim,λ _ z=>(nomatch z),λ _=>⟨rfl,?_⟩,(λ h=>nomatch h),?_⟩
 ·rw [OwnL]
  refine ⟨.ref a,[],[],[],rfl,rfl,λ _ z=>(nomatch z),?_,by rw [OwnL];exact ⟨rfl,rfl⟩⟩
  rw [Own]
  refine ⟨rfl,a,rfl,?_⟩
  rcases hS with (h | h) | h
  ·rcases hO a with z | ⟨ob,xs,z⟩
   ·rw [h] at z;cases z
   ·rw [h] at z;cases z
  ·exact .inl h
  ·exact .inr h
 ·obtain ⟨d,z,e⟩:=h
  rw [e]
  intro v H' fp fp0' _ _ _ _ _ _ o _
  rw [Own] at o
  exact o.1
end QQ
namespace QV
open PySem PySem.Spec PyProof.Rows L2 QQ
theorem zxb {op:PV->Nat->PV->Nat->Option (PV×Nat)}{f g:Fx}{ρ ρ1 ρ2:Rho}{x y z:PV}{d e c:Nat} (h1:f ρ=.ok (x,d,ρ1)) (h2:g ρ1=.ok (y,e,ρ2)) (h3:op x d y e=some (z,c)):bBin op f g ρ=.ok (z,c,ρ2):=by
 unfold bBin
 rw [h1]
 dsimp only [Rz.bind]
 rw [h2]
 dsimp only
 rw [h3]
theorem qor {op:PV->Nat->Option (PV×Nat)}{f:Fx}{ρ ρ1:Rho}{x z:PV}{d c:Nat} (h1:f ρ=.ok (x,d,ρ1)) (h3:op x d=some (z,c)):bUn op f ρ=.ok (z,c,ρ1):=by
 unfold bUn
 rw [h1]
 dsimp only [Rz.bind]
 rw [h3]
theorem zxk {f:Fx}{fa:Fa}{ρ ρ1 ρ2:Rho}{x:PV}{d:Nat}{xs:List (PV×Nat)} (h1:f ρ=.ok (x,d,ρ1)) (h2:fa ρ1=.ok (xs,ρ2)):zqa f fa ρ=.ok ((x,d)::xs,ρ2):=by
 unfold zqa
 rw [h1]
 dsimp only [Rz.bind]
 rw [h2]
theorem zqq {f:Fx}{ρ ρ1:Rho}{x:PV}{d:Nat} (h1:f ρ=.ok (x,d,ρ1)):zqa f aNil ρ=.ok ([(x,d)],ρ1):=zxk h1 rfl
theorem zqu {op:List (PV×Nat)->Option (PV×Nat)}{fa:Fa}{ρ ρ1:Rho}{xs:List (PV×Nat)}{z:PV}{c:Nat} (h1:fa ρ=.ok (xs,ρ1)) (h2:op xs=some (z,c)):zqb op fa ρ=.ok (z,c,ρ1):=by
 unfold zqb
 rw [h1]
 dsimp only [Rz.bind]
 rw [h2]
theorem zxt {F:Fn}{fa:Fa}{ρ ρ1:Rho}{xs:List (PV×Nat)}{y z:PV}{d:Nat} (h1:fa ρ=.ok (xs,ρ1)) (h2:F (xs.map (·.1))=.ok (y,d,z)):zqw F fa ρ=.ok (y,d,ρ1):=by
 unfold zqw
 rw [h1]
 dsimp only [Rz.bind]
 rw [h2]
theorem zkj {f:Fx}{ρ ρ1:Rho}{x:PV}{d:Nat} (h:f ρ=.ok (x,d,ρ1)):sRet f ρ=.rt x d ρ1:=by
 unfold sRet
 rw [h]
theorem zhp {f:Fx}{ρ ρ1:Rho}{x:PV}{d:Nat} (h:f ρ=.ok (x,d,ρ1)):zzx f ρ=.nx ρ1:=by
 unfold zzx
 rw [h]
theorem setF {i:Nat}{f:Fx}{vs:List Nat}{ρ ρ1 ρ2:Rho}{x:PV}{d:Nat} (h:f ρ=.ok (x,d,ρ1)) (hc:i < ρ1.length) (e:(zqr d vs ρ1).set i (some (x,d))=ρ2):sSet false i f vs ρ=.nx ρ2:=by
 unfold sSet
 rw [h]
 dsimp only
 rw [if_pos ⟨hc,λ h=>nomatch h⟩,e]
theorem qbl {i:Nat}{f:Fx}{vs:List Nat}{ρ ρ1 ρ2:Rho}{y:PV}{e:Nat}{xs:List PV}{d0 d:Nat}{xs0:List PV} (h0:ρ[i]?=some (some (.lst xs0,d0 + 1))) (h:f ρ=.ok (y,e,ρ1)) (h1:(zqr e vs ρ1)[i]?=some (some (.lst xs,d))) (hd:d≠0) (hl:xs.length < va4)
  (e2:(zqr e vs ρ1).set i (some (.lst (xs++[y]),if d=om/\e=om then om else 1))=ρ2):sApp i f vs ρ=.nx ρ2:=by
 unfold sApp
 rw [h0]
 dsimp only
 rw [h]
 dsimp only
 rw [h1]
 dsimp only
 rw [if_pos ⟨hd,hl⟩,e2]
theorem qc8 {i:Nat}{fi fj f:Fx}{ρ ρ1 ρ2 ρ3 ρ4:Rho}{y x x':PV}{a b:Int}{d0 d1 d2:Nat} (h:f ρ=.ok (y,d0,ρ1)) (hx:ρ1[i]?=some (some (x,om))) (h1:fi ρ1=.ok (.int a,d1,ρ2)) (h2:fj ρ2=.ok (.int b,d2,ρ3)) (hp:put2 x a b y=some x') (hy:zhn y=true) (e:ρ3.set i (some (x',om))=ρ4):zpy i fi fj f ρ=.nx ρ4:=by
 unfold zpy
 rw [h]
 dsimp only
 rw [hx]
 dsimp only
 rw [h1]
 dsimp only
 rw [h2]
 dsimp only
 rw [hp]
 dsimp only
 rw [if_pos ⟨rfl,hy⟩,e]
theorem zqc {f g:Fs}{ρ ρ1:Rho} (h:f ρ=.nx ρ1):sSeq f g ρ=g ρ1:=by
 unfold sSeq
 rw [h]
theorem qgy {c:Fb}{f g:Fs}{ρ ρ1:Rho}{b:Bool} (hc:c ρ=.ok (b,ρ1)):sIf c f g ρ=if b=true then f ρ1 else g ρ1:=by
 unfold sIf
 rw [hc]
theorem if_t {c:Fb}{f g:Fs}{ρ ρ1:Rho} (hc:c ρ=.ok (true,ρ1)):sIf c f g ρ=f ρ1:=by rw [qgy hc];rfl
theorem if_f {c:Fb}{f g:Fs}{ρ ρ1:Rho} (hc:c ρ=.ok (false,ρ1)):sIf c f g ρ=g ρ1:=by rw [qgy hc];rfl
theorem zkx {c:Fb}{f g:Fs}{ρ ρ1:Rho} (hc:c ρ=.ok (false,ρ1)):sSeq (sIf c f sNil) g ρ=g ρ1:=zqc (by rw [if_f hc];rfl)
theorem zfh {f g:Fs}{ρ ρ1:Rho}{x:PV}{d:Nat} (h:f ρ=.rt x d ρ1):sSeq f g ρ=.rt x d ρ1:=by
 unfold sSeq
 rw [h]
theorem t_ok {f:Fx}{ρ ρ1:Rho}{b:Bool}{d:Nat} (h:f ρ=.ok (.bl b,d,ρ1)):bT f ρ=.ok (b,ρ1):=by
 unfold bT
 rw [h]
 rfl
theorem zyp {f:Fx}{ρ ρ1:Rho}{b:Bool}{d:Nat} (h:f ρ=.ok (.bl b,d,ρ1)):bUn zxj f ρ=.ok (.bl (!b),om,ρ1):=qor h rfl
theorem qfl {f g:Fx}{ρ ρ1:Rho}{a b:Bool}{d:Nat} (h:f ρ=.ok (.bl a,d,ρ1)) (h2:a=true->g ρ1=.ok (.bl b,om,ρ1)) (hd:d=om):zzv f g ρ=.ok (.bl (a && b),om,ρ1):=by
 subst hd
 unfold zzv
 rw [h]
 cases a with
 | false=>rfl
 | true=>exact h2 rfl
theorem qbv {f g:Fx}{ρ ρ1:Rho}{a b:Bool}{d:Nat} (h:f ρ=.ok (.bl a,d,ρ1)) (h2:a=false->g ρ1=.ok (.bl b,om,ρ1)) (hd:d=om):bOrV f g ρ=.ok (.bl (a || b),om,ρ1):=by
 subst hd
 unfold bOrV
 rw [h]
 cases a with
 | true=>rfl
 | false=>exact h2 rfl
theorem zju {f g:Fx}{ρ ρ1 ρ2:Rho}{i j:Int}{d e:Nat} (h1:f ρ=.ok (.int i,d,ρ1)) (h2:g ρ1=.ok (.int j,e,ρ2)) (h:(-(2 ^ 64) < i/\i < 2 ^ 64)\/(-(2 ^ 64) < j/\j < 2 ^ 64)):bBin zxs f g ρ=.ok (.int (i * j),om,ρ2):=by
 refine zxb h1 h2 ?_
 show (if pMul i j=true then _ else _)=_
 rw [if_pos]
 unfold pMul
 rcases h with h | h
 ·rw [decide_eq_true h.1,decide_eq_true h.2];rfl
 ·rw [decide_eq_true h.1,decide_eq_true h.2];simp
theorem zfs {f g:Fx}{ρ ρ1 ρ2:Rho}{i j:Int}{d e:Nat} (h1:f ρ=.ok (.int i,d,ρ1)) (h2:g ρ1=.ok (.int j,e,ρ2)) (h:0 < j):bBin zyt f g ρ=.ok (.int (i % j),om,ρ2):=by
 refine zxb h1 h2 ?_
 show (if pMod i j=true then _ else _)=_
 rw [if_pos]
 exact decide_eq_true h
theorem qih {f g:Fx}{ρ ρ1 ρ2:Rho}{i j:Int}{d e:Nat} (h1:f ρ=.ok (.int i,d,ρ1)) (h2:g ρ1=.ok (.int j,e,ρ2)) (h:0 < j) (h':j < 2 ^ 128):bBin zpa f g ρ=.ok (.int (i / j),om,ρ2):=by
 refine zxb h1 h2 ?_
 show (if pDiv i j=true then _ else _)=_
 rw [if_pos]
 unfold pDiv
 rw [decide_eq_true h,decide_eq_true h'];rfl
theorem zwo {f g:Fx}{ρ ρ1 ρ2:Rho}{i j:Int}{d e:Nat} (h1:f ρ=.ok (.int i,d,ρ1)) (h2:g ρ1=.ok (.int j,e,ρ2)):bBin zqf f g ρ=.ok (.int (i + j),om,ρ2):=zxb h1 h2 rfl
theorem zbx {f g:Fx}{ρ ρ1 ρ2:Rho}{i j:Int}{d e:Nat} (h1:f ρ=.ok (.int i,d,ρ1)) (h2:g ρ1=.ok (.int j,e,ρ2)):bBin zwa f g ρ=.ok (.int (i - j),om,ρ2):=zxb h1 h2 rfl
theorem zgl {p:Int->Int->Bool}{f g:Fx}{ρ ρ1 ρ2:Rho}{i j:Int}{d e:Nat} (h1:f ρ=.ok (.int i,d,ρ1)) (h2:g ρ1=.ok (.int j,e,ρ2)):bBin (zwb p) f g ρ=.ok (.bl (p i j),om,ρ2):=zxb h1 h2 rfl
theorem qbh {p q:Int->Int->Bool}{f g h:Fx}{ρ:Rho}{i j k:Int}{d e c:Nat} (h1:f ρ=.ok (.int i,d,ρ)) (h2:g ρ=.ok (.int j,e,ρ)) (h3:h ρ=.ok (.int k,c,ρ)):zzl p q f g h ρ=.ok (.bl (p i j && q j k),om,ρ):=by
 unfold zzl
 rw [h1]
 dsimp only [Rz.bind]
 rw [h2]
 dsimp only
 by_cases hp:p i j=true
 ·rw [if_pos hp,h3,hp];rfl
 ·rw [if_neg hp]
  have:p i j=false:=by simpa using hp
  rw [this];rfl
theorem eqI {neg:Bool}{i j:Int}{d e:Nat}:opEq neg (.int i) d (.int j) e=some (.bl (neg^^decide (i=j)),om):=by
 show some (PV.bl (neg^^ve1 (.int i) (.int j)),om)=_
 have:ve1 (.int i) (.int j)=decide (i=j):=by
  show (i == j)=_
  rfl
 rw [this]
theorem qpl {neg:Bool}{f g:Fx}{ρ ρ1 ρ2:Rho}{i j:Int}{d e:Nat} (h1:f ρ=.ok (.int i,d,ρ1)) (h2:g ρ1=.ok (.int j,e,ρ2)):bBin (opEq neg) f g ρ=.ok (.bl (neg^^decide (i=j)),om,ρ2):=zxb h1 h2 eqI
def il (xs:List Int):PV:=.lst (xs.map .int)
def tb (t:List (List Int)):PV:=.lst (t.map il)
abbrev bx (a b c:Int):PV:=.tup [.int a,.int b,.int c]
theorem zka {α:Type}{xs:List α}{k:Int}{x:α} (h0:0<=k) (h:xs[k.toNat]?=some x):atI xs k=some x:=by
 have hl:=(ja7.mp h).1
 unfold atI ixN
 rw [if_pos h0,if_pos (by omega)]
 exact h
theorem zgc {f g:Fx}{ρ ρ1 ρ2:Rho}{xs:List Int}{k x:Int}{d e:Nat} (h1:f ρ=.ok (il xs,d,ρ1)) (h2:g ρ1=.ok (.int k,e,ρ2)) (h:atI xs k=some x):bBin zqj f g ρ=.ok (.int x,om,ρ2):=by
 refine zxb h1 h2 ?_
 show (atI (xs.map PV.int) k).map _=_
 have:atI (xs.map PV.int) k=some (.int x):=by
  unfold atI at h ⊢
  rw [ja4]
  cases e:ixN xs.length k with
  | none=>rw [e] at h;cases h
  | some j=>
   rw [e] at h
   have h':xs[j]?=some x:=h
   show (xs.map PV.int)[j]?=_
   rw [jc6,h'];rfl
 rw [this];rfl
theorem qig {f g:Fx}{ρ ρ1 ρ2:Rho}{t:List (List Int)}{k:Int}{r:List Int}{d e:Nat} (h1:f ρ=.ok (tb t,d,ρ1)) (h2:g ρ1=.ok (.int k,e,ρ2)) (h:atI t k=some r):bBin zqj f g ρ=.ok (il r,0,ρ2):=by
 refine zxb h1 h2 ?_
 show (atI (t.map il) k).map _=_
 have:atI (t.map il) k=some (il r):=by
  unfold atI at h ⊢
  rw [ja4]
  cases e:ixN t.length k with
  | none=>rw [e] at h;cases h
  | some j=>
   rw [e] at h
   have h':t[j]?=some r:=h
   show (t.map il)[j]?=_
   rw [jc6,h'];rfl
 rw [this];rfl
theorem qid {fa:Fa}{ρ ρ1:Rho}{xs:List Int}{d:Nat} (h:fa ρ=.ok ([(il xs,d)],ρ1)):zqb zxd fa ρ=.ok (.int xs.length,om,ρ1):=by
 refine zqu h ?_
 show some (PV.int ((xs.map PV.int).length:Nat),om)=_
 rw [ja4]
theorem zzj {α:Type}{n:Nat}{test:Fb}{elt:Fx}{enc q:α->PV}{e:α->Nat}{p:α->Bool}:∀ (xs:List α) (ρ:Rho) (acc:List (PV×Nat)),ρ.length=n->(∀ x∈xs,test (ρ++[some (enc x,dv (enc x))])=.ok (p x,ρ++[some (enc x,dv (enc x))])) ->
  (∀ x∈xs,p x=true->elt (ρ++[some (enc x,dv (enc x))])=.ok (q x,e x,ρ++[some (enc x,dv (enc x))]))->acc.length + xs.length<=va4->zxl 1 (asgN n) test elt (xs.map enc) ρ acc=.ok (acc++(xs.filter p).map (λ x=>(q x,e x)),ρ)
 | [],ρ,acc,_,_,_,_=>by simp [zxl]
 | x::xs,ρ,acc,hn,ht,he,hl=>by
  have ea:asgN n (enc x) (ρ++ja5 1 none)=some (ρ++[some (enc x,dv (enc x))]):=by
   unfold asgN
   rw [if_pos (by rw [ja8,hn];simp),jh4 _ _ (by omega),hn]
   simp
  have ih:=λ acc h=>zzj (n:=n) (test:=test) (elt:=elt) (p:=p) (q:=q) (e:=e) (enc:=enc) xs ρ acc hn (λ y hy=>ht y (ja1 _ hy)) (λ y hy=>he y (ja1 _ hy)) h
  have tk:(ρ++[some (enc x,dv (enc x))]).take ρ.length=ρ:=by simp
  rw [jb2] at hl
  rw [jc2]
  unfold zxl
  rw [ea]
  dsimp only
  rw [ht x ja3]
  dsimp only [Rz.bindN]
  cases hp:p x with
  | false=>
   rw [if_neg jb8,tk,ih acc (by omega),List.filter_cons_of_neg (by simp [hp])]
  | true=>
   rw [if_pos rfl,he x ja3 hp]
   dsimp only
   rw [if_pos (by omega),tk,ih _ (by rw [ja8,jc8];omega),List.filter_cons_of_pos hp]
   simp
theorem zvf {α:Type} (q:α->PV):∀ xs:List α,zym (xs.map λ x=>(q x,om))=true
 | []=>rfl
 | x::xs=>by rw [jc2];unfold zym;rw [zvf q xs];rfl
theorem zvn {α:Type}{n:Nat}{f elt:Fx}{enc q:α->PV}{ρ ρ1:Rho}{d:Nat} (xs:List α) (hf:f ρ=.ok (.lst (xs.map enc),d,ρ1)) (hn:ρ1.length=n) (he:∀ x∈xs,elt (ρ1++[some (enc x,dv (enc x))])=.ok (q x,om,ρ1++[some (enc x,dv (enc x))])) (hl:xs.length<=va4):
  zql f 1 (asgN n) zqp elt ρ=.ok (.lst (xs.map q),om,ρ1):=by
 unfold zql
 rw [hf]
 dsimp only
 rw [zzj (p:=λ _=>true) (q:=q) (e:=λ _=>om) xs ρ1 [] hn (λ _ _=>rfl) (λ x hx _=>he x hx) (by simpa using hl),jk2.mpr (λ _ _=>rfl)]
 show zva (xs.map λ x=>(q x,om)) ρ1=_
 unfold zva
 rw [zvf,jd7]
 rfl
theorem qhh {α:Type}{n:Nat}{f elt:Fx}{enc q:α->PV}{ρ ρ1:Rho}{d:Nat} (xs:List α) (hf:f ρ=.ok (.tup (xs.map enc),d,ρ1)) (hn:ρ1.length=n) (he:∀ x∈xs,elt (ρ1++[some (enc x,dv (enc x))])=.ok (q x,om,ρ1++[some (enc x,dv (enc x))])) (hl:xs.length<=va4):
  zql f 1 (asgN n) zqp elt ρ=.ok (.lst (xs.map q),om,ρ1):=by
 unfold zql
 rw [hf]
 dsimp only
 rw [zzj (p:=λ _=>true) (q:=q) (e:=λ _=>om) xs ρ1 [] hn (λ _ _=>rfl) (λ x hx _=>he x hx) (by simpa using hl),jk2.mpr (λ _ _=>rfl)]
 show zva (xs.map λ x=>(q x,om)) ρ1=_
 unfold zva
 rw [zvf,jd7]
 rfl
theorem qhi {α:Type}{n:Nat}{f elt:Fx}{test:Fb}{enc q:α->PV}{p:α->Bool}{ρ ρ1:Rho}{d:Nat} (xs:List α) (hf:f ρ=.ok (.lst (xs.map enc),d,ρ1)) (hn:ρ1.length=n) (ht:∀ x∈xs,test (ρ1++[some (enc x,dv (enc x))])=.ok (p x,ρ1++[some (enc x,dv (enc x))])) (he:∀ x∈xs,p x=true->elt (ρ1++[some (enc x,dv (enc x))])=.ok (q x,om,ρ1++[some (enc x,dv (enc x))])) (hl:xs.length<=va4):
  zql f 1 (asgN n) test elt ρ=.ok (.lst ((xs.filter p).map q),om,ρ1):=by
 unfold zql
 rw [hf]
 dsimp only
 rw [zzj (p:=p) (q:=q) (e:=λ _=>om) xs ρ1 [] hn ht he (by simpa using hl)]
 show zva ((xs.filter p).map λ x=>(q x,om)) ρ1=_
 unfold zva
 rw [zvf,jd7]
 rfl
theorem zfk (lo:Int) (n:Nat):zzt lo n=(jd0 n).map λ (k:Nat)=>PV.int (lo + (k:Int)):=rfl
theorem zmr {n:Nat}{en:List (PV×Nat)->Option (Int×Int)}{fa:Fa}{elt:Fx}{q:Nat->PV}{ρ ρ1:Rho}{as:List (PV×Nat)}{lo hi:Int} (hf:fa ρ=.ok (as,ρ1)) (hen:en as=some (lo,hi)) (hn:ρ1.length=n) (he:∀ k,k < (hi - lo).toNat->elt (ρ1++[some (.int (lo + (k:Int)),om)])=.ok (q k,om,ρ1++[some (.int (lo + (k:Int)),om)])) (hl:(hi - lo).toNat<=va4):
  zxv en fa 1 (asgN n) zqp elt ρ=.ok (.lst ((jd0 (hi - lo).toNat).map q),om,ρ1):=by
 unfold zxv
 rw [hf]
 dsimp only
 rw [hen]
 dsimp only
 rw [zfk,zzj (enc:=λ (k:Nat)=>PV.int (lo + (k:Int))) (p:=λ _=>true) (q:=q) (e:=λ _=>om) (jd0 (hi - lo).toNat) ρ1 [] hn (λ _ _=>rfl) (λ x hx _=>he x (jf4.mp hx)) (by simpa using hl),jk2.mpr (λ _ _=>rfl)]
 show zva ((jd0 (hi - lo).toNat).map λ x=>(q x,om)) ρ1=_
 unfold zva
 rw [zvf,jd7]
 rfl
theorem qht {α:Type} (g:α->Bool) (xs:List α):QQ.allB (xs.map λ x=>.bl (g x))=some (xs.map g):=by
 induction xs with
 | nil=>rfl
 | cons x r ih=>rw [jc2,jc2,QQ.allB,ih];rfl
theorem all_ok {α:Type}{f:Fx}{ρ ρ1:Rho}{d:Nat}{g:α->Bool}{xs:List α} (h:f ρ=.ok (.lst (xs.map λ x=>.bl (g x)),d,ρ1)):zqb zbo (zqa f aNil) ρ=.ok (.bl (xs.all g),om,ρ1):=by
 refine zqu (zqq h) ?_
 show (QQ.allB _).map _=_
 rw [qht]
 simp
theorem qaw {i:Nat}{body:Fs}{lo:Int} (I:Nat->Rho->Prop):∀ (m k:Nat) (ρ:Rho),I k ρ->(∀ j ρ,k<=j->j < k + m->I j ρ->i < ρ.length/\∃ ρ2,body (ρ.set i (some (.int (lo + (j:Int)),om)))=.nx ρ2/\I (j + 1) ρ2) ->
  ∃ ρ',zzb (asgN i) body ((jk0 k m).map λ (k:Nat)=>PV.int (lo + (k:Int))) ρ=.nx ρ'/\I (k + m) ρ'
 | 0,k,ρ,hi,_=>⟨ρ,rfl,hi⟩
 | m + 1,k,ρ,hi,hb=>by
  obtain ⟨h1,ρ2,e2,h2⟩:=hb k ρ (jb4 _) (by omega) hi
  obtain ⟨ρ',e',h'⟩:=qaw (i:=i) (body:=body) (lo:=lo) I m (k + 1) ρ2 h2 λ j ρ a b=>hb j ρ (by omega) (by omega)
  refine ⟨ρ',?_,by rw [show k + (m + 1)=k + 1 + m by omega];exact h'⟩
  rw [jo4,jc2]
  unfold zzb
  have:asgN i (PV.int (lo + (k:Int))) ρ=some (ρ.set i (some (.int (lo + (k:Int)),om))):=by
   unfold asgN
   rw [if_pos h1];rfl
  rw [this]
  dsimp only
  rw [e2]
  exact e'
theorem zzp {i:Nat}{body:Fs}{en:List (PV×Nat)->Option (Int×Int)}{fa:Fa}{ρ ρ1:Rho}{as:List (PV×Nat)}{lo hi:Int} (I:Nat->Rho->Prop) (hf:fa ρ=.ok (as,ρ1)) (hen:en as=some (lo,hi)) (h0:I 0 ρ1)
  (hb:∀ j ρ,j < (hi - lo).toNat->I j ρ->i < ρ.length/\∃ ρ2,body (ρ.set i (some (.int (lo + (j:Int)),om)))=.nx ρ2/\I (j + 1) ρ2):∃ ρ',zza en fa (asgN i) body ρ=.nx ρ'/\I (hi - lo).toNat ρ':=by
 obtain ⟨ρ',e,h⟩:=qaw (i:=i) (body:=body) (lo:=lo) I (hi - lo).toNat 0 ρ1 h0 λ j ρ _ h hi=>hb j ρ (by omega) hi
 refine ⟨ρ',?_,by rw [jh0] at h;exact h⟩
 unfold zza
 rw [hf]
 dsimp only
 rw [hen]
 dsimp only
 rw [zfk,List.range_eq_range']
 exact e
theorem zwi {j:Int}{d:Nat} (h1:-(2 ^ 62)<=j) (h2:j < 2 ^ 62):zqx [(.int j,d)]=some (0,j):=by
 show (if -(2 ^ 62)<=j/\j < 2 ^ 62 then some ((0:Int),j) else none)=_
 rw [if_pos ⟨h1,h2⟩]
theorem zyg {np k:Nat}{b:Fs}{xs:List PV}{ρ':Rho}{y:PV}{d:Nat} (hl:xs.length=np) (h:b (xs.map (λ x=>some (x,dv x))++ja5 k none)=.rt y d ρ'):mkFn false np k b xs=.ok (y,d,.non):=by
 unfold mkFn
 rw [if_pos hl]
 have:zwm false xs=xs.map λ x=>some (x,dv x):=rfl
 rw [this,h]
 rfl
theorem qn2 {np k:Nat}{b:Fs}{xs:List PV}{ρ':Rho} (hl:xs.length=np) (h:b (xs.map (λ x=>some (x,dv x))++ja5 k none)=.nx ρ'):mkFn false np k b xs=.ok (.non,om,.non):=by
 unfold mkFn
 rw [if_pos hl]
 have:zwm false xs=xs.map λ x=>some (x,dv x):=rfl
 rw [this,h]
 rfl
def Xf_is_whole_number:Fs:=(sRet (zzv (bUn (zzf "int") (bVar 0)) (bUn zxj (bUn (zzf "bool") (bVar 0)))))
def f_is_whole_number:Fn:=mkFn false 1 0 Xf_is_whole_number
def Xf_is_box:Fs:=(sSeq (sIf (bT (bOrV (bUn zxj (bUn (zzf "tuple") (bVar 0))) (bBin (opEq true) (zqb zxd (zqa (bVar 0) (aNil))) (bC (.int 3))))) (sRet (bC (.bl false))) sNil)
 (sRet (zqb zbo (zqa (zql (bVar 0) 1 (asgN 1) zqp (zzv (zqw f_is_whole_number (zqa (bVar 1) (aNil))) (bBin (zwb λ i j=>decide (j<=i)) (bVar 1) (bC (.int 1))))) (aNil)))))
def f_is_box:Fn:=mkFn false 1 0 Xf_is_box
def Xf_must_be_box:Fs:=(sIf (bT (bUn zxj (zqw f_is_box (zqa (bVar 0) (aNil))))) (sExc 1) sNil)
def f_must_be_box:Fn:=mkFn false 1 0 Xf_must_be_box
def Xa_pool:Fs:=(sSeq (sSet false 2 (bC (.int 0)) [])
 (sSeq (sIf (bT (bBin (zwb λ i j=>decide (i < j)) (bVar 1) (zqb zxd (zqa (bVar 0) (aNil))))) (sSet false 2 (bBin zqj (bVar 0) (bVar 1)) [0,1]) sNil)
 (sSeq (sIf (bT (bBin (zwb λ i j=>decide (j<=i)) (bVar 2) (bBin zmc (bC (.int 10)) (bC (.int 18))))) (sRet (zqb zqh (zqa (bBin zwa (bVar 2) (bBin zmc (bC (.int 10)) (bC (.int 18)))) (zqa (bC (.int 1)) (zqa (bC (.int 0)) (aNil)))))) sNil)
 (sRet (zqb zqh (zqa (bVar 2) (zqa (bC (.int 0)) (zqa (bBin zxs (bC (.int 29)) (bVar 1)) (aNil)))))))))
def a_pool:Fn:=mkFn false 2 1 Xa_pool
def Xa_take:Fs:=(sSeq (sIf (bT (bBin (opEq false) (bMs 0 1) (bC (.int 1)))) (sSeq (sSet false 2 (bBin zyt (bMs 0 0) (bVar 1)) [1])
 (sSeq (sPut 0 0 (bBin zpa (bMs 0 0) (bVar 1)))
 (zbm 2))) sNil)
 (sSeq (sPut 0 2 (bBin zqf (bMs 0 2) (bC (.int 1))))
 (sSeq (sSet false 3 (bMs 0 2) [])
 (sSeq (sSet false 4 (bBin zxs (bBin zqf (bBin zyt (bMs 0 0) (bC (.int 9999999631))) (bC (.int 967))) (bBin zqf (bBin zxs (bC (.int 19)) (bVar 3)) (bC (.int 47)))) [3])
 (sSeq (sSet false 4 (bBin zqf (bVar 4) (bBin zxs (bBin zxs (bC (.int 3457)) (bVar 3)) (bVar 3))) [4,3,3])
 (sSeq (sSet false 4 (bBin zyt (bBin zxs (bVar 4) (bVar 4)) (bC (.int 99999999673))) [4,4])
 (sRet (bBin zyt (bBin zpa (bBin zyt (bBin zxs (bVar 4) (bBin zqf (bVar 4) (bC (.int 31)))) (bC (.int 99999999941))) (bC (.int 79))) (bVar 1)))))))))
def a_take:Fn:=mkFn true 2 3 Xa_take
def Xa_box:Fs:=(sRet (zqb zze (zqa (zxv zqx (zqa (bC (.int 3)) (aNil)) 1 (asgN 2) zqp (bBin zqf (bC (.int 1)) (bBin zqj (zqb zqh (zqa (zqd a_take 0 (zqa (bC (.int 3)) (aNil))) (zqa (zqd a_take 0 (zqa (bVar 1) (aNil))) (aNil)))) (zqd a_take 0 (zqa (bC (.int 2)) (aNil)))))) (aNil))))
def a_box:Fn:=mkFn true 2 0 Xa_box
def Xa_pile:Fs:=(sSeq (sUnp (asgT [2,3,4]) (bVar 1) [1])
 (sSeq (sSet false 5 (zqd a_take 0 (zqa (bC (.int 8)) (aNil))) [])
 (sSeq (sSet false 6 (zqb zqh (aNil)) [])
 (sSeq (zza zqx (zqa (bVar 2) (aNil)) (asgN 7) (sSeq (sSet false 8 (zqb zqh (aNil)) [])
 (sSeq (zza zqx (zqa (bVar 3) (aNil)) (asgN 9) (sSeq (sSet false 10 (zqb zws (zqa (bBin zqf (bBin zqf (zqb zqh (zqa (bVar 4) (aNil))) (bSl (bVar 8) (some (bUn zyd (bC (.int 1)))) none)) (zql (bSl (bVar 6) (some (bUn zyd (bC (.int 1)))) none) 1 (asgN 12) zqp (bBin zqj (bVar 12) (bVar 9)))) (aNil))) [4,8,6,6,9])
 (sSeq (sSet false 11 (zqb zqh (zqa (zqb zyu (zqa (bC (.int 0)) (zqa (bBin zwa (bVar 10) (zqd a_take 0 (zqa (bC (.int 2)) (aNil)))) (aNil)))) (zqa (zqd a_take 0 (zqa (bBin zqf (bVar 10) (bC (.int 1))) (aNil))) (zqa (bVar 10) (aNil))))) [10,10,10])
 (sApp 8 (bBin zqj (bBin zqf (zqb zqh (zqa (bC (.int 0)) (zqa (bVar 4) (aNil)))) (bBin zxs (zqb zqh (zqa (bBin zqj (bVar 11) (zqd a_take 0 (zqa (bC (.int 3)) (aNil)))) (aNil))) (bC (.int 6)))) (bVar 5)) [4,11,5]))))
 (sApp 6 (bVar 8) [8]))))
 (zbm 6)))))
def a_pile:Fn:=mkFn true 2 10 Xa_pile
def Xa_copied:Fs:=(sRet (zql (bVar 0) 1 (asgN 1) zqp (zqb zzu (zqa (bVar 1) (aNil)))))
def a_copied:Fn:=mkFn false 1 0 Xa_copied
def Xa_just:Fs:=(sSeq (sIf (bT (bOrV (bUn zxj (bUn (zzf "list") (bVar 0))) (bBin (opEq true) (bVar 0) (bVar 1)))) (sRet (bC (.bl false))) sNil)
 (sSeq (zki 0 [2] (asgN 2) (sSeq (sIf (bT (bUn zxj (bUn (zzf "list") (bVar 2)))) (sRet (bC (.bl false))) sNil)
 (sIf (bT (bBin (opEq true) (zql (bVar 2) 1 (asgN 3) (bT (bOrV (bUn zxj (bUn (zzf "int") (bVar 3))) (bUn (zzf "bool") (bVar 3)))) (bVar 3)) (zqb zqh (aNil)))) (sRet (bC (.bl false))) sNil)))
 (sRet (bC (.bl true)))))
def a_just:Fn:=mkFn false 2 1 Xa_just
def Xa_is:Fs:=(sSeq (sSet false 2 (zqb zqh (zqa (bUn (zzz [1]) (bVar 0)) (zqa (bUn (zzz [2]) (bVar 0)) (zqa (bUn (zzz [5]) (bVar 0)) (aNil))))) [0,0,0])
 (sSeq (sIf (bT (bOrV (bUn zxj (bUn (zzz [0]) (bVar 0))) (bBin (opEq true) (bVar 2) (zxv zqx (zqa (bC (.int 3)) (aNil)) 1 (asgN 3) zqp (bBin (opEq false) (bVar 3) (bVar 1)))))) (sRet (bC (.bl false))) sNil)
 (sRet (bUn zxj (bUn (zzz [3,4,6,7,8,9,10,11]) (bVar 0))))))
def a_is:Fn:=mkFn false 2 1 Xa_is
theorem sz:(1000000:Nat)<=va4:=by decide
theorem qaa (i:Int):f_is_whole_number [.int i]=.ok (.bl true,om,.non):=by kernel_rfl
def boxB (a b c:Int):Bool:=decide (1<=a) && (decide (1<=b) && decide (1<=c))
theorem qeh (a b c:Int):f_is_box [bx a b c]=.ok (.bl (boxB a b c),om,.non):=by
 have e0:∀ x∈[a,b,c],(zzv (zqw f_is_whole_number (zqa (bVar 1) (aNil))) (bBin (zwb λ i j=>decide (j<=i)) (bVar 1) (bC (.int 1)))) ([some (bx a b c,0)]++[some (.int x,om)])=.ok (.bl (decide (1<=x)),om,[some (bx a b c,0)]++[some (.int x,om)]):=λ x _=>by kernel_rfl
 have e1:=qhh (n:=1) (f:=bVar 0) (ρ:=[some (bx a b c,0)]) (enc:=PV.int) (q:=λ x=>.bl (decide (1<=x))) (d:=0) [a,b,c] rfl rfl e0 (by have:=sz;show 3<=va4;omega)
 refine zyg rfl (ρ':=[some (bx a b c,0)]) ?_
 show Xf_is_box [some (bx a b c,0)]=_
 refine (zkx (ρ1:=[some (bx a b c,0)]) (by kernel_rfl)).trans (zkj ?_)
 rw [all_ok e1]
 show Rz.ok (PV.bl (decide (1<=a) && (decide (1<=b) && (decide (1<=c) && true))),om,_)=_
 rw [jj7]
 rfl
theorem zjt {a b c:Int} (h:boxB a b c=true):f_must_be_box [bx a b c]=.ok (.non,om,.non):=by
 refine qn2 rfl (ρ':=[some (bx a b c,0)]) ?_
 have hb:=qeh a b c
 rw [h] at hb
 exact if_f (f:=sExc 1) (g:=sNil) (t_ok (zyp (zxt (F:=f_is_box) (fa:=zqa (bVar 0) aNil) (ρ:=[some (bx a b c,0)]) (xs:=[(bx a b c,0)]) rfl hb)))
theorem zkm {xs:List Int}{j:Nat} (h:j < xs.length):xs[j]?=some (xs.getD j 0):=by
 rw [ja6,jb9 h];rfl
theorem zgf {xs:List (List Int)}{j:Nat} (h:j < xs.length):xs[j]?=some (xs.getD j []):=by
 rw [ja6,jb9 h];rfl
def Tab (a b:Nat) (t:List (List Int)):Prop:=t.length=a/\∀ r∈t,r.length=b
theorem qi0 (t:List (List Int)) (r:List Int):PV.lst ((t.map il)++[il r])=tb (t++[r]):=by
 unfold tb
 rw [je8]
 rfl
def g (t:List (List Int)) (i j:Nat):Int:=(t.getD i []).getD j 0
structure Pile (a b:Nat) (c:Int) (t:List (List Int)):Prop where
 tab:Tab a b t
 lo:∀ i j,i < a->j < b->0<=g t i j
 hi:∀ i j,i < a->j < b->g t i j<=c
 dn:∀ i j,i + 1 < a->j < b->g t (i + 1) j<=g t i j
 rt:∀ i j,i < a->j + 1 < b->g t i (j + 1)<=g t i j
theorem qjp {t:List (List Int)}{i:Nat} (h:i < t.length):t.getD i []∈t:=by
 rw [ja6,jb9 h]
 exact jg0 h
theorem Tab.row {a b:Nat}{t:List (List Int)} (h:Tab a b t) {i:Nat} (hi:i < a):(t.getD i []).length=b:=h.2 _ (qjp (by rw [h.1];exact hi))
theorem qg8 {xs:List Int}{i:Nat} (h:i < xs.length):xs.getD i 0∈xs:=by
 rw [ja6,jb9 h]
 exact jg0 h
theorem qgs {xs ys:List Int} (hl:xs.length=ys.length) (h:∀ i,i < xs.length->xs.getD i 0=ys.getD i 0):xs=ys:=by
 refine jo5 hl λ i h1 h2=>?_
 have:=h i h1
 rw [ja6,jb9 h1,ja6,jb9 h2] at this
 exact this
theorem qcf {a b:Nat}{t u:List (List Int)} (ht:Tab a b t) (hu:Tab a b u) (h:∀ i j,i < a->j < b->g t i j=g u i j):t=u:=by
 refine jo5 (by rw [ht.1,hu.1]) λ i h1 h2=>?_
 have hi:i < a:=by rw [<- ht.1];exact h1
 have e1:t.getD i []=t[i]:=by rw [ja6,jb9 h1];rfl
 have e2:u.getD i []=u[i]:=by rw [ja6,jb9 h2];rfl
 rw [<- e1,<- e2]
 refine qgs (by rw [ht.row hi,hu.row hi]) λ j hj=>h i j hi (by rw [<- ht.row hi];exact hj)
def mkT (a b:Nat) (f:Nat->Nat->Int):List (List Int):=(jd0 a).map λ i=>(jd0 b).map λ j=>f i j
theorem qdw {a b:Nat}{f:Nat->Nat->Int}:Tab a b (mkT a b f):=by
 refine ⟨by unfold mkT;rw [ja4,jf3],λ r hr=>?_⟩
 obtain ⟨i,_,rfl⟩:=jd6.mp hr
 rw [ja4,jf3]
theorem qkd {b j:Nat}{f:Nat->Int} (hj:j < b):((jd0 b).map f).getD j 0=f j:=by
 rw [ja6,jc6,jk1 hj];rfl
theorem qkc {a i:Nat}{f:Nat->List Int} (hi:i < a):((jd0 a).map f).getD i []=f i:=by
 rw [ja6,jc6,jk1 hi];rfl
theorem zmh {a b i j:Nat}{f:Nat->Nat->Int} (hi:i < a) (hj:j < b):g (mkT a b f) i j=f i j:=by
 unfold g mkT
 rw [qkc hi,qkd hj]
def Nr (r:List Int):Prop:=∀ k,k + 1 < r.length->r.getD (k + 1) 0<=r.getD k 0
theorem zwq {α:Type}{xs:List α}{i:Nat}{x d:α} (h:i < xs.length):(xs.set i x).getD i d=x:=by
 rw [ja6,jb1 h];rfl
theorem zzm {α:Type}{xs:List α}{i j:Nat}{x d:α} (h:i≠j):(xs.set i x).getD j d=xs.getD j d:=by
 rw [ja6,ja0 h,ja6]
theorem zke {α:Type}{f:PV->Option vj1}{e:α->PV}{q:α->vj1} (h:∀ x,f (e x)=some (q x)):∀ xs:List α,toDL f (xs.map e)=some (xs.map q)
 | []=>rfl
 | x::xs=>by rw [jc2,toDL,h,zke h xs];rfl
theorem qce (n:Nat) (xs:List Int):toD (n + 2) (il xs)=some (.list (xs.map .int)):=by
 show (toDL (toD (n + 1)) (xs.map PV.int)).map PyData.list=_
 rw [zke (q:=PyData.int) (λ x=>rfl)];rfl
theorem qhv (n:Nat) (t:List (List Int)):toD (n + 3) (tb t)=some (.list (t.map λ r=>.list (r.map .int))):=by
 show (toDL (toD (n + 2)) (t.map il)).map PyData.list=_
 rw [zke (λ x=>qce n x)];rfl
theorem zyh:∀ xs ys:List Int,vl4 (xs.map .int) (ys.map .int)=decide (xs=ys)
 | [],[]=>rfl
 | [],y::ys=>rfl
 | x::xs,[]=>rfl
 | x::xs,y::ys=>by
  rw [jc2,jc2,vl4,zyh xs ys]
  show ((x == y) && _)=_
  by_cases h:x=y
  ·subst h
   by_cases h2:xs=ys
   ·subst h2;simp
   ·simp [h2]
  ·simp [h]
theorem zpk:∀ t u:List (List Int),vl4 (t.map λ r=>.list (r.map .int)) (u.map λ r=>.list (r.map .int))=decide (t=u)
 | [],[]=>rfl
 | [],y::ys=>rfl
 | x::xs,[]=>rfl
 | x::xs,y::ys=>by
  rw [jc2,jc2,vl4,zpk xs ys,ve1,zyh]
  by_cases h:x=y
  ·subst h
   by_cases h2:xs=ys
   ·subst h2;simp
   ·simp [h2]
  ·simp [h]
theorem qn6 {neg:Bool}{f h:Fx}{ρ ρ1 ρ2:Rho}{xs ys:List Int}{d e:Nat} (h1:f ρ=.ok (il xs,d,ρ1)) (h2:h ρ1=.ok (il ys,e,ρ2)):bBin (opEq neg) f h ρ=.ok (.bl (neg^^decide (xs=ys)),om,ρ2):=by
 refine zxb h1 h2 ?_
 unfold opEq
 rw [qce 18,qce 18]
 show some (PV.bl (neg^^ve1 _ _),om)=_
 rw [ve1,zyh]
theorem qpk {neg:Bool}{f h:Fx}{ρ ρ1 ρ2:Rho}{t u:List (List Int)}{d e:Nat} (h1:f ρ=.ok (tb t,d,ρ1)) (h2:h ρ1=.ok (tb u,e,ρ2)):bBin (opEq neg) f h ρ=.ok (.bl (neg^^decide (t=u)),om,ρ2):=by
 refine zxb h1 h2 ?_
 unfold opEq
 rw [qhv 17,qhv 17]
 show some (PV.bl (neg^^ve1 _ _),om)=_
 rw [ve1,zpk]
theorem qkl {f h:Fx}{ρ ρ1 ρ2:Rho}{xs:List Int}{k x:Int}{d e:Nat} (h1:f ρ=.ok (.scr xs,d,ρ1)) (h2:h ρ1=.ok (.int k,e,ρ2)) (hx:atI xs k=some x):bBin zqj f h ρ=.ok (.int x,om,ρ2):=by
 refine zxb h1 h2 ?_
 show (atI xs k).map _=_
 rw [hx];rfl
theorem qek (xs:List Int) (x:Int):PV.lst (xs.map PV.int++[.int x])=il (xs++[x]):=by unfold il;rw [je8];rfl
theorem qe4 (xs:List PV):cutP xs (some (-1)) none=xs.drop (xs.length - 1):=by
 unfold cutP
 have e:HT.sIx xs.length 0 (some (-1))=xs.length - 1:=by
  show (if (-1:Int) < 0 then (-1 + (xs.length:Int)).toNat else min (-1:Int).toNat xs.length)=_
  rw [if_pos (by decide)];omega
 rw [e,HT.sIx_none]
 exact ji8 (by rw [je9];exact jb4 _)
theorem qcz {f:Fx}{ρ ρ1:Rho}{xs:List PV}{d:Nat} (h:f ρ=.ok (.lst xs,d,ρ1)):bSl f (some (bUn zyd (bC (.int 1)))) none ρ=.ok (.lst (xs.drop (xs.length - 1)),d1 (xs.drop (xs.length - 1)),ρ1):=by
 unfold bSl
 rw [h]
 show Rz.ok (PV.lst (cutP xs (some (-1)) none),d1 (cutP xs (some (-1)) none),ρ1)=_
 rw [qe4]
theorem zyn {f h:Fx}{ρ ρ1 ρ2:Rho}{xs ys:List PV}{d e:Nat} (h1:f ρ=.ok (.lst xs,d,ρ1)) (h2:h ρ1=.ok (.lst ys,e,ρ2)) (hl:xs.length + ys.length<=va4):bBin zqf f h ρ=.ok (.lst (xs++ys),d1 (xs++ys),ρ2):=by
 refine zxb h1 h2 ?_
 show (if _ then _ else _)=_
 rw [if_pos hl]
theorem zph:∀ xs:List Int,zyq (xs.map PV.int)=some xs
 | []=>rfl
 | x::xs=>by rw [jc2,zyq,zph xs];rfl
theorem qnm {fa:Fa}{ρ ρ1:Rho}{x:Int}{xs:List Int}{d:Nat} (h:fa ρ=.ok ([(il (x::xs),d)],ρ1)):zqb zws fa ρ=.ok (.int (minI x xs),om,ρ1):=by
 refine zqu h ?_
 show (match zyq ((x::xs).map PV.int) with | some (n::r)=>some (PV.int (minI n r),om) | _=>none)=_
 rw [zph]
def upH (c:Int) (t:List (List Int)) (j:Nat):Int:=if t.length=0 then c else g t (t.length - 1) j
def topH (c:Int) (t:List (List Int)) (r:List Int) (j:Nat):Int:=if r.length=0 then upH c t j else min (upH c t j) (r.getD (r.length - 1) 0)
theorem qae {t:List (List Int)}{r:List Int}{i:Nat}:(t++[r]).getD i []=if i < t.length then t.getD i [] else if i=t.length then r else []:=by
 by_cases h:i < t.length
 ·rw [if_pos h,ja6,jc3 h,ja6]
 ·rw [if_neg h]
  by_cases h2:i=t.length
  ·rw [if_pos h2,h2,ja6,jk3];rfl
  ·rw [if_neg h2,ja6,je7 (by rw [ja8,jc8];omega)];rfl
theorem zkh {r:List Int}{x:Int}{i:Nat}:(r++[x]).getD i 0=if i < r.length then r.getD i 0 else if i=r.length then x else 0:=by
 by_cases h:i < r.length
 ·rw [if_pos h,ja6,jc3 h,ja6]
 ·rw [if_neg h]
  by_cases h2:i=r.length
  ·rw [if_pos h2,h2,ja6,jk3];rfl
  ·rw [if_neg h2,ja6,je7 (by rw [ja8,jc8];omega)];rfl
theorem Pile.snoc {k b:Nat}{c:Int}{t:List (List Int)}{r:List Int} (p:Pile k b c t) (hr:r.length=b) (h:∀ y,y < b->0<=r.getD y 0/\r.getD y 0<=upH c t y) (hn:Nr r):Pile (k + 1) b c (t++[r]):=by
 have l:=p.tab.1
 have e:∀ i j,g (t++[r]) i j=if i < k then g t i j else if i=k then r.getD j 0 else 0:=λ i j=>by
  unfold g
  rw [qae,l]
  split
  ·rfl
  ·split <;> rfl
 have u:∀ y,y < b->upH c t y<=c:=λ y hy=>by
  unfold upH
  split
  ·exact jm8 _
  ·exact p.hi _ _ (by (clear hy hr;omega)) hy
 refine ⟨⟨by rw [ja8,l];rfl,λ x hx=>?_⟩,λ i j hi hj=>?_,λ i j hi hj=>?_,λ i j hi hj=>?_,λ i j hi hj=>?_⟩
 ·rcases jc4.mp hx with z | z
  ·exact p.tab.2 x z
  ·rw [jb6.mp z,hr]
 ·rw [e]
  by_cases z:i < k
  ·rw [if_pos z];exact p.lo i j z hj
  ·rw [if_neg z,if_pos (by (clear hj l hr;omega))];exact (h j hj).1
 ·rw [e]
  by_cases z:i < k
  ·rw [if_pos z];exact p.hi i j z hj
  ·rw [if_neg z,if_pos (by (clear hj l hr;omega))];exact Int.le_trans (h j hj).2 (u j hj)
 ·rw [e,e]
  by_cases z:i + 1 < k
  ·rw [if_pos z,if_pos (by (clear z hj l hr;omega))];exact p.dn i j z hj
  ·rw [if_neg z,if_pos (by (clear hj l hr;omega)),if_pos (by (clear z hj l hr;omega))]
   have:=(h j hj).2
   unfold upH at this
   rw [if_neg (by (clear this z hj hr;omega)),l,show k - 1=i by (clear this hj l hr;omega)] at this
   exact this
 ·rw [e,e]
  by_cases z:i < k
  ·rw [if_pos z,if_pos z];exact p.rt i j z hj
  ·rw [if_neg z,if_neg z,if_pos (by (clear hj l hr;omega)),if_pos (by (clear hj l hr;omega))];exact hn j (by rw [hr];exact hj)
theorem zgw:∀ xs:List Int,zkb (xs.map PV.int)=true
 | []=>rfl
 | x::xs=>by rw [jc2,zkb,zgw xs];rfl
theorem qof (xs:List Int):d1 (xs.map PV.int)=om:=by unfold d1;rw [zgw];rfl
theorem qc6 {t:List (List Int)}{i j:Nat}{v:Int} (hi:i < t.length) (hj:j < (t.getD i []).length):put2 (tb t) (i:Int) (j:Int) (.int v)=some (tb (t.set i ((t.getD i []).set j v))):=by
 unfold put2 tb
 dsimp only
 have e1:ixN (t.map il).length (i:Int)=some i:=by
  unfold ixN
  rw [ja4,if_pos (by omega),if_pos (by omega)]
  rfl
 have e2:(t.map il)[i]?=some (.lst ((t.getD i []).map PV.int)):=by
  rw [jc6,zgf hi];rfl
 have e3:ixN ((t.getD i []).map PV.int).length (j:Int)=some j:=by
  unfold ixN
  rw [ja4,if_pos (by omega),if_pos (by omega)]
  rfl
 rw [e1]
 dsimp only
 rw [e2]
 dsimp only
 rw [e3]
 dsimp only
 rw [jq2]
 unfold il
 rw [jq2]
theorem zhl {f h k:Fx}{ρ ρ1 ρ2 ρ3:Rho}{t:List (List Int)}{a b i j:Nat}{d e e':Nat} (ht:Tab a b t) (h1:f ρ=.ok (tb t,d,ρ1)) (h2:h ρ1=.ok (.int (i:Int),e,ρ2)) (h3:k ρ2=.ok (.int (j:Int),e',ρ3)) (hi:i < a) (hj:j < b):bBin zqj (bBin zqj f h) k ρ=.ok (.int (g t i j),om,ρ3):=
 zgc (xs:=t.getD i []) (k:=(j:Int)) (qig (t:=t) (k:=(i:Int)) h1 h2 (zka (by omega) (zgf (by rw [je6,ht.1];exact hi)))) h3 (zka (by omega) (zkm (by rw [je6,ht.row hi];exact hj)))
theorem zzk {F:Fn}{i:Nat}{fa:Fa}{ρ ρ1 ρ2:Rho}{xs:List (PV×Nat)}{x0 y z:PV}{d d0:Nat}{p:PV×Nat} (h0:ρ[i]?=some (some p)) (h1:fa ρ=.ok (xs,ρ1)) (h3:ρ1[i]?=some (some (x0,d0))) (h2:F (x0::xs.map (·.1))=.ok (y,d,z)) (e:ρ1.set i (some (z,om))=ρ2):zqd F i fa ρ=.ok (y,d,ρ2):=by
 unfold zqd
 rw [h0]
 dsimp only
 rw [h1]
 dsimp only [Rz.bind]
 rw [h3]
 dsimp only
 rw [h2]
 dsimp only
 rw [e]
theorem qc5 {i:Nat}{k:Int}{f:Fx}{ρ ρ1 ρ2:Rho}{y:PV}{d0 d j:Nat}{xs:List PV} (h:f ρ=.ok (y,d0,ρ1)) (hx:ρ1[i]?=some (some (.lst xs,d))) (hj:ixN xs.length k=some j) (hd:d≠0) (hy:zwn y=true) (e:ρ1.set i (some (.lst (xs.set j y),d))=ρ2):sPut i k f ρ=.nx ρ2:=by
 unfold sPut
 rw [h]
 dsimp only
 rw [hx]
 dsimp only
 rw [hj]
 dsimp only
 rw [if_pos ⟨hd,hy⟩,e]
theorem zml {np k:Nat}{b:Fs}{x0:PV}{xr:List PV}{ρ':Rho}{y z:PV}{d c:Nat} (hl:xr.length + 1=np) (h:b (some (x0,om)::xr.map (λ x=>some (x,dv x))++ja5 k none)=.rt y d ρ') (hz:ρ'[0]?=some (some (z,c))):mkFn true np k b (x0::xr)=.ok (y,d,z):=by
 unfold mkFn
 rw [if_pos (by rw [jb2];exact hl)]
 have:zwm true (x0::xr)=some (x0,om)::xr.map λ x=>some (x,dv x):=rfl
 rw [this,h]
 unfold finF
 dsimp only
 rw [hz]
theorem setT {i:Nat}{f:Fx}{vs:List Nat}{ρ ρ1 ρ2:Rho}{x:PV} (h:f ρ=.ok (x,om,ρ1)) (hc:i < ρ1.length) (e:ρ1.set i (some (x,om))=ρ2):sSet true i f vs ρ=.nx ρ2:=by
 unfold sSet
 rw [h]
 dsimp only
 rw [if_pos ⟨hc,λ _=>rfl⟩]
 rw [show zqr om vs ρ1=ρ1 from if_pos rfl,e]
abbrev pl (p q r:Int):PV:=.lst [.int p,.int q,.int r]
def Pl (B:Int) (x:PV):Prop:=∃ p q r,x=pl p q r/\0<=r/\r<=B
theorem Pl.mono {B B':Int}{x:PV} (h:Pl B x) (hb:B<=B'):Pl B' x:=let ⟨p,q,r,e,h1,h2⟩:=h;⟨p,q,r,e,h1,by omega⟩
theorem qac {x:PV}{B m:Int} (h:Pl B x) (hB:B<=100000) (hm:0 < m/\m < 2 ^ 128):∃ v x',(0<=v/\v < m)/\Pl (B + 1) x'/\a_take [x,.int m]=.ok (.int v,om,x'):=by
 obtain ⟨p,q,r,rfl,h0,h1⟩:=h
 let R (x:PV) (s2 s3 s4:QQ.Slot):Rho:=[some (x,om),some (.int m,om),s2,s3,s4]
 have t1:bT (bBin (opEq false) (bMs 0 1) (bC (.int 1))) (R (pl p q r) none none none)=.ok (false^^decide (q=1),R (pl p q r) none none none):=t_ok (qpl (i:=q) (j:=1) rfl rfl)
 rw [jm5] at t1
 have hpos:0 < m:=hm.1
 by_cases hq:q=1
 ·rw [decide_eq_true hq] at t1
  have s1:sSet false 2 (bBin zyt (bMs 0 0) (bVar 1)) [1] (R (pl p q r) none none none)=.nx (R (pl p q r) (some (.int (p % m),om)) none none):=setF (zfs (i:=p) (j:=m) rfl rfl hpos) (show 2 < 5 by decide) rfl
  have s2:sPut 0 0 (bBin zpa (bMs 0 0) (bVar 1)) (R (pl p q r) (some (.int (p % m),om)) none none)=.nx (R (pl (p / m) q r) (some (.int (p % m),om)) none none):=qc5 (j:=0) (d:=om) (xs:=[.int p,.int q,.int r]) (qih (i:=p) (j:=m) rfl rfl hpos (by (clear hq hpos h1 h0 hB;omega))) rfl rfl (by decide) rfl rfl
  exact ⟨p % m,pl (p / m) q r,⟨jk4 _ (by (clear hq hpos h1 h0 hB;omega)),ji4 _ hpos⟩,⟨_,_,r,rfl,h0,by (clear hq hpos h0 hm hB;omega)⟩,zml (z:=pl (p / m) q r) (c:=om) rfl (zfh ((if_t t1).trans ((zqc s1).trans ((zqc s2).trans rfl)))) rfl⟩
 ·rw [decide_eq_false hq] at t1
  let st:=r + 1
  let mk1:=(p % 9999999631 + 967) * (19 * st + 47)
  let mk2:=mk1 + 3457 * st * st
  let mk3:=mk2 * mk2 % 99999999673
  have a1:=jk4 p (show (9999999631:Int)≠0 by decide)
  have a2:=ji4 p (show (0:Int) < 9999999631 by decide)
  have hst:1<=st/\st<=100001:=⟨by show 1<=r + 1;(clear a2 a1 hq hpos h1 hm hB;omega),by show r + 1<=100001;(clear a2 a1 hq hpos h0 hm;omega)⟩
  have k1:0<=mk1/\mk1<=10000000597 * 1900066:=⟨jp2 (by (clear hst a2 a1 hq hpos h1 h0 hm hB;omega)) (by (clear hst a2 a1 hq hpos h1 hm hB;omega)),jp3 (by (clear hst a2 a1 hq hpos h1 h0 hm hB;omega)) (by (clear hst a2 a1 hq hpos h0 hm;omega)) (by (clear hst a2 a1 hq hpos h1 hm hB;omega)) (by (clear hst a2 a1 hq hpos h1 h0 hm hB;omega))⟩
  have k2:0<=3457 * st * st/\3457 * st * st<=(3457 * 100001) * 100001:=⟨jp2 (by (clear k1 hst a2 a1 hq hpos h1 hm hB;omega)) (by (clear k1 hst a2 a1 hq hpos h1 hm hB;omega)),jp3 (by (clear k1 hst a2 a1 hq hpos h0 hm;omega)) (by (clear k1 hst a2 a1 hq hpos h0 hm;omega)) (by (clear k1 hst a2 a1 hq hpos h1 hm hB;omega)) (by (clear k1 hst a2 a1 hq hpos h1 h0 hm hB;omega))⟩
  have k3:0<=mk2/\mk2<=10000000597 * 1900066 + (3457 * 100001) * 100001:=⟨by show 0<=mk1 + 3457 * st * st;(clear hst a2 a1 hq hpos h1 h0 hm hB;omega),by show mk1 + 3457 * st * st<=_;(clear hst a2 a1 hq hpos h1 h0 hm hB;omega)⟩
  have k4:0<=mk3:=jk4 _ (by decide)
  have k5:mk3 < 99999999673:=ji4 _ (by decide)
  have s1:sPut 0 2 (bBin zqf (bMs 0 2) (bC (.int 1))) (R (pl p q r) none none none)=.nx (R (pl p q st) none none none):=qc5 (j:=2) (d:=om) (xs:=[.int p,.int q,.int r]) (zwo (i:=r) (j:=1) rfl rfl) rfl rfl (by decide) rfl rfl
  have s2:sSet false 3 (bMs 0 2) [] (R (pl p q st) none none none)=.nx (R (pl p q st) none (some (.int st,om)) none):=rfl
  have s3:sSet false 4 (bBin zxs (bBin zqf (bBin zyt (bMs 0 0) (bC (.int 9999999631))) (bC (.int 967))) (bBin zqf (bBin zxs (bC (.int 19)) (bVar 3)) (bC (.int 47)))) [3] (R (pl p q st) none (some (.int st,om)) none)=.nx (R (pl p q st) none (some (.int st,om)) (some (.int mk1,om))):=
   setF (zju (zwo (zfs (i:=p) rfl rfl (by decide)) (j:=967) rfl) (zwo (zju (i:=19) (j:=st) rfl rfl (.inl (by decide))) (j:=47) rfl) (.inl (by (clear k5 k4 k3 k2 k1 hst a2 a1 hq hpos h1 h0 hm hB;omega)))) (show 4 < 5 by decide) rfl
  have s4:sSet false 4 (bBin zqf (bVar 4) (bBin zxs (bBin zxs (bC (.int 3457)) (bVar 3)) (bVar 3))) [4,3,3] (R (pl p q st) none (some (.int st,om)) (some (.int mk1,om)))=.nx (R (pl p q st) none (some (.int st,om)) (some (.int mk2,om))):=
   setF (zwo (i:=mk1) rfl (zju (zju (i:=3457) (j:=st) rfl rfl (.inl (by decide))) (j:=st) rfl (.inr (by (clear k5 k4 k3 k2 k1 hst a2 a1 hq hpos hm;omega))))) (show 4 < 5 by decide) rfl
  have s5:sSet false 4 (bBin zyt (bBin zxs (bVar 4) (bVar 4)) (bC (.int 99999999673))) [4,4] (R (pl p q st) none (some (.int st,om)) (some (.int mk2,om)))=.nx (R (pl p q st) none (some (.int st,om)) (some (.int mk3,om))):=
   setF (zfs (zju (i:=mk2) (j:=mk2) rfl rfl (.inl (by (clear k5 k4 k3 hst a2 a1 hq hpos h1 h0 hm hB;omega)))) rfl (by decide)) (show 4 < 5 by decide) rfl
  have s6:(bBin zyt (bBin zpa (bBin zyt (bBin zxs (bVar 4) (bBin zqf (bVar 4) (bC (.int 31)))) (bC (.int 99999999941))) (bC (.int 79))) (bVar 1)) (R (pl p q st) none (some (.int st,om)) (some (.int mk3,om)))=.ok (.int (mk3 * (mk3 + 31) % 99999999941 / 79 % m),om,R (pl p q st) none (some (.int st,om)) (some (.int mk3,om))):=
   zfs (qih (zfs (zju (i:=mk3) rfl (zwo (i:=mk3) (j:=31) rfl rfl) (.inl (by (clear k5 k4 k3 k2 k1 hst a2 a1 hq hpos h1 h0 hm hB;omega)))) rfl (by decide)) rfl (by decide) (by decide)) (j:=m) rfl hpos
  exact ⟨_,pl p q st,⟨jk4 _ (by (clear k5 k4 k3 k2 k1 hst a2 a1 hq hpos h1 h0 hB;omega)),ji4 _ hpos⟩,⟨p,q,st,rfl,by (clear k5 k4 k3 k2 k1 hst a2 a1 hq hpos h1 hm hB;omega),by show r + 1<=B + 1;(clear k5 k4 k3 k2 k1 hst a2 a1 hq hpos h0 hm hB;omega)⟩,zml (z:=pl p q st) (c:=om) rfl ((zkx t1).trans ((zqc s1).trans ((zqc s2).trans ((zqc s3).trans ((zqc s4).trans ((zqc s5).trans (zkj s6))))))) rfl⟩
theorem zgx {x:PV}{B m:Int} (h:Pl B x) (hB:B<=100000) (hm:0 < m/\m < 1000000):∃ v x',(0<=v/\v < m)/\Pl (B + 1) x'/\a_take [x,.int m]=.ok (.int v,om,x'):=qac h hB ⟨hm.1,Int.lt_trans hm.2 (by decide)⟩
theorem qjw (ns:List Int) (k:Nat) (hk:k<=1000):∃ x,Pl 29000 x/\a_pool [.scr ns,.int (k:Int)]=.ok (x,om,.non):=by
 let R (s2:QQ.Slot):Rho:=[some (.scr ns,om),some (.int (k:Int),om),s2]
 have s1:sSet false 2 (bC (.int 0)) [] (R none)=.nx (R (some (.int 0,om))):=rfl
 have s2:∃ c,sIf (bT (bBin (zwb λ i j=>decide (i < j)) (bVar 1) (zqb zxd (zqa (bVar 0) (aNil))))) (sSet false 2 (bBin zqj (bVar 0) (bVar 1)) [0,1]) sNil (R (some (.int 0,om)))=.nx (R (some (.int c,om))):=by
  have t1:bT (bBin (zwb λ i j=>decide (i < j)) (bVar 1) (zqb zxd (zqa (bVar 0) (aNil)))) (R (some (.int 0,om)))=.ok (decide ((k:Int) < (ns.length:Int)),R (some (.int 0,om))):=rfl
  by_cases h:(k:Int) < (ns.length:Int)
  ·rw [decide_eq_true h] at t1
   exact ⟨ns.getD k 0,(if_t t1).trans (setF (qkl (xs:=ns) (k:=(k:Int)) (d:=om) rfl rfl (zka (by (clear h hk;omega)) (zkm (by omega)))) (show 2 < 3 by decide) rfl)⟩
  ·rw [decide_eq_false h] at t1
   exact ⟨0,(if_f t1).trans rfl⟩
 obtain ⟨c,s2⟩:=s2
 have t3:bT (bBin (zwb λ i j=>decide (j<=i)) (bVar 2) (bBin zmc (bC (.int 10)) (bC (.int 18)))) (R (some (.int c,om)))=.ok (decide ((10:Int) ^ 18<=c),R (some (.int c,om))):=by kernel_rfl
 have p18:bBin zmc (bC (.int 10)) (bC (.int 18)) (R (some (.int c,om)))=.ok (.int (10 ^ 18),om,R (some (.int c,om))):=by kernel_rfl
 by_cases h:(10:Int) ^ 18<=c
 ·rw [decide_eq_true h] at t3
  exact ⟨pl (c - 10 ^ 18) 1 0,⟨_,_,0,rfl,by decide,by decide⟩,zyg rfl ((zqc s1).trans ((zqc s2).trans (zfh ((if_t t3).trans (zkj (zqu (zxk (zbx (i:=c) rfl p18) (zxk (x:=.int 1) (d:=om) rfl (zqq (x:=.int 0) (d:=om) rfl))) (by kernel_rfl)))))))⟩
 ·rw [decide_eq_false h] at t3
  exact ⟨pl c 0 (29 * (k:Int)),⟨_,_,29 * (k:Int),rfl,by (clear h hk;omega),by omega⟩,zyg rfl ((zqc s1).trans ((zqc s2).trans ((zkx t3).trans (zkj (zqu (zxk (x:=.int c) (d:=om) rfl (zxk (x:=.int 0) (d:=om) rfl (zqq (zju (i:=29) (j:=(k:Int)) rfl rfl (.inl (by decide)))))) (by kernel_rfl))))))⟩
theorem qbe {n:Nat}{elt:Fx} (I:Nat->Rho->Prop) (Pr:PV->Prop):∀ (xs:List PV) (i:Nat) (ρ:Rho) (acc:List (PV×Nat)),I i ρ->(∀ j ρ,I j ρ->ρ.length=n)->(∀ j x ρ,i<=j->j < i + xs.length->I j ρ->∃ y ρ',elt (ρ++[some (x,dv x)])=.ok (y,om,ρ')/\I (j + 1) (ρ'.take n)/\Pr y)->acc.length + xs.length<=va4 ->
  ∃ (ys:List PV) (ρ':Rho),zxl 1 (asgN n) zqp elt xs ρ acc=.ok (acc++ys.map (λ y=>(y,om)),ρ')/\ys.length=xs.length/\(∀ y∈ys,Pr y)/\I (i + xs.length) ρ'
 | [],i,ρ,acc,h,_,_,_=>⟨[],ρ,by simp [zxl],rfl,λ _ z=>(nomatch z),h⟩
 | x::xs,i,ρ,acc,h,hn,he,hl=>by
  obtain ⟨y,ρ1,e1,h1,p1⟩:=he i x ρ (jb4 _) (by rw [jb2];omega) h
  have hρ:=hn i ρ h
  rw [jb2] at hl
  obtain ⟨ys,ρ',e2,l2,p2,h2⟩:=qbe (n:=n) (elt:=elt) I Pr xs (i + 1) (ρ1.take n) (acc++[(y,om)]) h1 hn (λ j x ρ a b=>he j x ρ (by (clear b hρ hl;omega)) (by rw [jb2];(clear a hρ hl;omega))) (by rw [ja8,jc8];omega)
  refine ⟨y::ys,ρ',?_,by rw [jb2,l2,jb2],λ z hz=>(jb3.mp hz).elim (λ e=>by rw [e];exact p1) (p2 z),by rw [jb2,show i + (xs.length + 1)=i + 1 + xs.length by (clear l2 hρ hl;omega)];exact h2⟩
  unfold zxl
  have ea:asgN n x (ρ++ja5 1 none)=some (ρ++[some (x,dv x)]):=by
   unfold asgN
   rw [if_pos (by rw [ja8,hρ];simp),jh4 _ _ (by (clear l2 hl;omega)),hρ]
   simp
  rw [ea]
  dsimp only
  have:zqp (ρ++[some (x,dv x)])=.ok (true,ρ++[some (x,dv x)]):=rfl
  rw [this]
  dsimp only [Rz.bindN]
  rw [if_pos rfl,e1]
  dsimp only
  rw [if_pos (by (clear l2 hρ;omega)),hρ,e2]
  simp
theorem zvv {f:Fx}{x:PV}{B m:Int}{r:Rho}{e:Nat} (h:Pl B x) (hB:B<=100000) (hm:0 < m/\m < 1000000) (hf:f (some (x,om)::r)=.ok (.int m,e,some (x,om)::r)):∃ v x',(0<=v/\v < m)/\Pl (B + 1) x'/\zqd a_take 0 (zqa f aNil) (some (x,om)::r)=.ok (.int v,om,some (x',om)::r):=by
 obtain ⟨v,x',hv,hp,e⟩:=zgx h hB hm
 exact ⟨v,x',hv,hp,zzk (p:=(x,om)) (x0:=x) (d0:=om) rfl (zqq hf) rfl e rfl⟩
theorem qld {x:PV}{B:Int}{most:Nat} (h:Pl B x) (hB:B<=90000) (hm:1<=most/\most<=1000):∃ a b c x',(1<=a/\a<=max 3 most)/\(1<=b/\b<=max 3 most)/\(1<=c/\c<=max 3 most)/\Pl (B + 9) x'/\a_box [x,.int (most:Int)]=.ok (bx (a:Nat) (b:Nat) (c:Nat),0,x'):=by
 let elt:=(bBin zqf (bC (.int 1)) (bBin zqj (zqb zqh (zqa (zqd a_take 0 (zqa (bC (.int 3)) (aNil))) (zqa (zqd a_take 0 (zqa (bVar 1) (aNil))) (aNil)))) (zqd a_take 0 (zqa (bC (.int 2)) (aNil)))))
 obtain ⟨ys,ρ',e,hl,hp,x',rfl,hx'⟩:=qbe (n:=2) (elt:=elt) (λ j ρ=>∃ x,ρ=[some (x,om),some (.int (most:Int),om)]/\Pl (B + 3 * (j:Int)) x) (λ y=>∃ k:Nat,(1<=k/\k<=max 3 most)/\y=.int (k:Int)) (zzt 0 3) 0 [some (x,om),some (.int (most:Int),om)] [] ⟨x,rfl,h.mono (by (clear hm hB;omega))⟩ (λ j ρ ⟨x,e,_⟩=>by rw [e];rfl) (by
  rintro j w ρ _ hj ⟨x,rfl,hx⟩
  have hj3:j < 3:=by rw [zwd] at hj;(clear hm hB;omega)
  let T:Rho:=[some (.int (most:Int),om),some (w,dv w)]
  obtain ⟨v1,x1,hv1,hx1,e1⟩:=zvv (f:=bC (.int 3)) (r:=T) (m:=3) (e:=om) hx (by (clear hj hm;omega)) (by decide) rfl
  obtain ⟨v2,x2,hv2,hx2,e2⟩:=zvv (f:=bVar 1) (r:=T) (m:=(most:Int)) (e:=om) hx1 (by (clear hv1 hj hm;omega)) (by (clear hv1 hj3 hj hB;omega)) rfl
  obtain ⟨v3,x3,hv3,hx3,e3⟩:=zvv (f:=bC (.int 2)) (r:=T) (m:=2) (e:=om) hx2 (by (clear hv2 hv1 hj hm;omega)) (by decide) rfl
  have hg:∃ v,atI [v1,v2] v3=some v/\0<=v/\v < max 3 (most:Int):=by
   have:v3=0\/v3=1:=by (clear hv2 hv1 hj3 hj hm hB;omega)
   rcases this with z | z
   ·rw [z];exact ⟨v1,rfl,by (clear z hv3 hv2 hj3 hj hm hB;omega),by (clear z hv3 hv2 hj3 hj hm hB;omega)⟩
   ·rw [z];exact ⟨v2,rfl,by (clear z hv3 hv1 hj3 hj hm hB;omega),by (clear z hv3 hv1 hj3 hj hm hB;omega)⟩
  obtain ⟨v,ev,hv0,hv⟩:=hg
  refine ⟨.int (1 + v),_,zwo (i:=1) rfl (zgc (xs:=[v1,v2]) (k:=v3) (d:=om) (zqu (zxk e1 (zqq e2)) (by kernel_rfl)) e3 ev),⟨x3,rfl,hx3.mono (by (clear hv hv0 hv3 hv2 hv1 hj3 hj hm hB;omega))⟩,(1 + v).toNat,⟨by (clear hv hv3 hv2 hv1 hj3 hj hm hB;omega),by (clear hv0 hv3 hv2 hv1 hj3 hj hm hB;omega)⟩,?_⟩
  rw [show (((1 + v).toNat:Nat):Int)=1 + v by (clear hv hv3 hv2 hv1 hj3 hj hm hB;omega)]) (by have:=sz;show 0 + 3<=va4;(clear hm hB;omega))
 have hl3:ys.length=3:=hl
 match ys,hl3,hp,e with
 | [y1,y2,y3],_,hp,e=>
  obtain ⟨a,ha,rfl⟩:=hp y1 (by simp)
  obtain ⟨b,hb,rfl⟩:=hp y2 (by simp)
  obtain ⟨c,hc,rfl⟩:=hp y3 (by simp)
  refine ⟨a,b,c,x',ha,hb,hc,hx'.mono (by show B + 3 * ((0 + 3:Nat):Int)<=B + 9;(clear hl hc hb ha hl3 hm hB;omega)),?_⟩
  refine zml (c:=om) rfl (zkj (f:=zqb zze (zqa (zxv zqx (zqa (bC (.int 3)) (aNil)) 1 (asgN 2) zqp elt) (aNil))) (d:=0) (zqu (zqq (x:=.lst [.int (a:Int),.int (b:Int),.int (c:Int)]) (d:=om) (ρ1:=[some (x',om),some (.int (most:Int),om)]) ?_) rfl)) rfl
  unfold zxv
  have e0:zqa (bC (.int 3)) aNil ([some (x,om),some (.int (most:Int),om)]:Rho)=.ok ([(.int 3,om)],[some (x,om),some (.int (most:Int),om)]):=rfl
  have e0':(some (x,om)::List.map (λ x=>(some (x,dv x):QQ.Slot)) [PV.int (most:Int)]++ja5 0 none)=[some (x,om),some (.int (most:Int),om)]:=rfl
  rw [e0',e0]
  dsimp only
  rw [show zqx [(.int 3,om)]=some (0,3) from rfl]
  dsimp only
  rw [show ((3:Int) - 0).toNat=3 from rfl,e]
  rfl
def zhu:Fs:=(sSeq (sSet false 10 (zqb zws (zqa (bBin zqf (bBin zqf (zqb zqh (zqa (bVar 4) (aNil))) (bSl (bVar 8) (some (bUn zyd (bC (.int 1)))) none)) (zql (bSl (bVar 6) (some (bUn zyd (bC (.int 1)))) none) 1 (asgN 12) zqp (bBin zqj (bVar 12) (bVar 9)))) (aNil))) [4,8,6,6,9])
 (sSeq (sSet false 11 (zqb zqh (zqa (zqb zyu (zqa (bC (.int 0)) (zqa (bBin zwa (bVar 10) (zqd a_take 0 (zqa (bC (.int 2)) (aNil)))) (aNil)))) (zqa (zqd a_take 0 (zqa (bBin zqf (bVar 10) (bC (.int 1))) (aNil))) (zqa (bVar 10) (aNil))))) [10,10,10])
 (sApp 8 (bBin zqj (bBin zqf (zqb zqh (zqa (bC (.int 0)) (zqa (bVar 4) (aNil)))) (bBin zxs (zqb zqh (zqa (bBin zqj (bVar 11) (zqd a_take 0 (zqa (bC (.int 3)) (aNil)))) (aNil))) (bC (.int 6)))) (bVar 5)) [4,11,5])))
theorem qgq {k b j:Nat}{c:Int}{t:List (List Int)}{r:List Int} (p:Pile k b c t) (hj:j < b):minI c (r.drop (r.length - 1)++(t.drop (t.length - 1)).map λ u=>u.getD j 0)=topH c t r j:=by
 have e1:t.length≠0->(t.drop (t.length - 1)).map (λ u=>u.getD j 0)=[g t (t.length - 1) j]:=λ e=>by
  rw [je4 (show t.length - 1 < t.length by omega),jf8 (by omega)]
  unfold g
  rw [ja6 (l:=t),jb9 (show t.length - 1 < t.length by omega)]
  rfl
 have e2:r.length≠0->r.drop (r.length - 1)=[r.getD (r.length - 1) 0]:=λ e=>by
  rw [je4 (show r.length - 1 < r.length by omega),ja6,jb9 (show r.length - 1 < r.length by omega),jf8 (by omega)]
  rfl
 have l:=p.tab.1
 unfold topH upH
 by_cases h1:r.length=0
 ·rw [if_pos h1,ji5.mp h1]
  by_cases h2:t.length=0
  ·rw [if_pos h2,ji5.mp h2];rfl
  ·rw [if_neg h2,e1 h2]
   have:=p.hi (t.length - 1) j (by omega) hj
   show (if g t (t.length - 1) j < c then g t (t.length - 1) j else c)=_
   split <;> omega
 ·rw [if_neg h1,e2 h1]
  by_cases h2:t.length=0
  ·rw [if_pos h2,ji5.mp h2]
   show (if r.getD (r.length - 1) 0 < c then r.getD (r.length - 1) 0 else c)=_
   split <;> omega
  ·rw [if_neg h2,e1 h2]
   have:=p.hi (t.length - 1) j (by omega) hj
   show (if g t (t.length - 1) j < (if r.getD (r.length - 1) 0 < c then r.getD (r.length - 1) 0 else c) then g t (t.length - 1) j else (if r.getD (r.length - 1) 0 < c then r.getD (r.length - 1) 0 else c))=_
   split <;> split <;> omega
theorem qhs {x:PV}{B:Int}{a b c:Nat} (h:Pl B x) (hB:B<=80000) (ha:1<=a/\a<=30) (hb:1<=b/\b<=30) (hc:1<=c/\c<=1000):∃ t d x',Pile a b c t/\d≠0/\Pl (B + 3000) x'/\a_pile [x,bx a b c]=.ok (tb t,d,x'):=by
 have z:=sz
 let S (x:PV) (s5:QQ.Slot) (s6 s7 s8 s9 s10 s11:QQ.Slot):Rho:=[some (x,om),some (bx a b c,0),some (.int (a:Int),om),some (.int (b:Int),om),some (.int (c:Int),om),s5,s6,s7,s8,s9,s10,s11]
 have s1:sUnp (asgT [2,3,4]) (bVar 1) [1] [some (x,om),some (bx a b c,0),none,none,none,none,none,none,none,none,none,none]=.nx (S x none none none none none none none):=by kernel_rfl
 obtain ⟨kd,x1,hkd,hx1,e1⟩:=zvv (f:=bC (.int 8)) (r:=[some (bx a b c,0),some (.int (a:Int),om),some (.int (b:Int),om),some (.int (c:Int),om),none,none,none,none,none,none,none]) (m:=8) (e:=om) h (by (clear z hc hb ha;omega)) (by decide) rfl
 have s2:sSet false 5 (zqd a_take 0 (zqa (bC (.int 8)) (aNil))) [] (S x none none none none none none none)=.nx (S x1 (some (.int kd,om)) none none none none none none):=setF e1 (show 5 < 12 by decide) rfl
 let R (x:PV) (t:List (List Int)) (d6:Nat) (s7 s8 s9 s10 s11:QQ.Slot):Rho:=S x (some (.int kd,om)) (some (tb t,d6)) s7 s8 s9 s10 s11
 have s3:sSet false 6 (zqb zqh (aNil)) [] (S x1 (some (.int kd,om)) none none none none none none)=.nx (R x1 [] om none none none none none):=by kernel_rfl
 have step:∀ (x:PV) (C:Int) (t:List (List Int)) (d6 k j:Nat) (r:List Int) (s7 s10 s11:QQ.Slot),Pl C x->C<=90000->k < a->j < b->Pile k b c t->r.length=j->(∀ y,y < j->0<=r.getD y 0)->(kd=1->topH c t r j=c)->∃ h x' s10' s11',(0<=h/\h<=topH c t r j)/\(kd=1->h=c)/\Pl (C + 3) x'/\zhu (R x t d6 s7 (some (il r,om)) (some (.int (j:Int),om)) s10 s11)=.nx (R x' t d6 s7 (some (il (r++[h]),om)) (some (.int (j:Int),om)) s10' s11'):=by
  intro x C t d6 k j r s7 s10 s11 hx hC hk hj p hr hr0 hkd1
  have l:=p.tab.1
  let Q (x:PV) (s10 s11:QQ.Slot):Rho:=R x t d6 s7 (some (il r,om)) (some (.int (j:Int),om)) s10 s11
  have f1:=qcz (f:=bVar 8) (xs:=r.map PV.int) (d:=0) (ρ:=Q x s10 s11) (ρ1:=Q x s10 s11) rfl
  rw [ja4,<- jn3] at f1
  have f2:=zyn (f:=zqb zqh (zqa (bVar 4) (aNil))) (ρ:=Q x s10 s11) (xs:=[.int (c:Int)]) (d:=om) (by kernel_rfl) f1 (by rw [ja4,je9,jc8];(clear l hr hj hk hC hkd hc hb ha hB;omega))
  have f3:bSl (bVar 6) (some (bUn zyd (bC (.int 1)))) none (Q x s10 s11)=.ok (.lst ((t.drop (t.length - 1)).map il),d1 ((t.map il).drop ((t.map il).length - 1)),Q x s10 s11):=by
   rw [qcz (xs:=t.map il) (d:=0) (ρ1:=Q x s10 s11) rfl,ja4,jn3]
  have f4:=zvn (n:=12) (elt:=bBin zqj (bVar 12) (bVar 9)) (enc:=il) (q:=λ u=>.int (u.getD j 0)) (t.drop (t.length - 1)) f3 rfl (λ u hu=>zgc (xs:=u) (k:=(j:Int)) (d:=0) rfl rfl (zka (by (clear l hr hj hk hC hkd z hc hb ha hB;omega)) (zkm (by rw [p.tab.2 u (List.mem_of_mem_drop hu)];(clear l hr hk hC hkd z hc hb ha hB;omega))))) (by rw [je9];(clear l hr hj hk hC hkd hc hb ha hB;omega))
  have f5:=zyn f2 f4 (by rw [ja8,ja4,ja4,je9,je9,jc8];(clear l hr hj hk hC hkd hc hb ha hB;omega))
  have f6:PV.lst ([.int (c:Int)]++(r.drop (r.length - 1)).map PV.int++(t.drop (t.length - 1)).map λ u=>.int (u.getD j 0))=il ((c:Int)::(r.drop (r.length - 1)++(t.drop (t.length - 1)).map λ u=>u.getD j 0)):=by
   unfold il
   rw [jc2,je8,jd7]
   rfl
  rw [f6] at f5
  have v1:sSet false 10 (zqb zws (zqa (bBin zqf (bBin zqf (zqb zqh (zqa (bVar 4) (aNil))) (bSl (bVar 8) (some (bUn zyd (bC (.int 1)))) none)) (zql (bSl (bVar 6) (some (bUn zyd (bC (.int 1)))) none) 1 (asgN 12) zqp (bBin zqj (bVar 12) (bVar 9)))) (aNil))) [4,8,6,6,9] (Q x s10 s11)=.nx (Q x (some (.int (topH c t r j),om)) s11):=by
   rw [<- qgq p hj]
   exact setF (qnm (zqq f5)) (show 10 < 12 by decide) rfl
  have u0:0<=upH c t j/\upH c t j<=c:=by
   unfold upH
   split
   ·(clear l hr hj hk hC hkd z hc hb ha hB;omega)
   ·exact ⟨p.lo _ _ (by (clear hr hj hk hC hkd z hc hb ha hB;omega)) hj,p.hi _ _ (by (clear hr hj hk hC hkd z hc hb ha hB;omega)) hj⟩
  have t0:0<=topH c t r j/\topH c t r j<=c:=by
   unfold topH
   split
   ·exact u0
   ·have:=hr0 (r.length - 1) (by (clear u0 l hj hk hC hkd z hc hb ha hB;omega))
    (clear l hr hj hk hC hkd z hc hb ha hB;omega)
  let tp:=topH c t r j
  let T (s11:QQ.Slot):Rho:=[some (bx a b c,0),some (.int (a:Int),om),some (.int (b:Int),om),some (.int (c:Int),om),some (.int kd,om),some (tb t,d6),s7,some (il r,om),some (.int (j:Int),om),some (.int tp,om),s11]
  obtain ⟨w1,x1,hw1,hx1,g1⟩:=zvv (f:=bC (.int 2)) (r:=T s11) (m:=2) (e:=om) hx (by (clear t0 u0 l hr hj hk hkd z hc hb ha hB;omega)) (by decide) rfl
  obtain ⟨w2,x2,hw2,hx2,g2⟩:=zvv (f:=bBin zqf (bVar 10) (bC (.int 1))) (r:=T s11) (m:=tp + 1) (e:=om) hx1 (by (clear hw1 t0 u0 l hr hj hk hkd z hc hb ha hB;omega)) (by show 0 < topH c t r j + 1/\topH c t r j + 1 < 1000000;(clear hw1 u0 l hr hj hk hC hkd z hb ha hB;omega)) (zwo (i:=tp) (j:=1) rfl rfl)
  let som:List Int:=[if tp - w1 > 0 then tp - w1 else 0,w2,tp]
  have v2:sSet false 11 (zqb zqh (zqa (zqb zyu (zqa (bC (.int 0)) (zqa (bBin zwa (bVar 10) (zqd a_take 0 (zqa (bC (.int 2)) (aNil)))) (aNil)))) (zqa (zqd a_take 0 (zqa (bBin zqf (bVar 10) (bC (.int 1))) (aNil))) (zqa (bVar 10) (aNil))))) [10,10,10] (Q x (some (.int tp,om)) s11)=.nx (Q x2 (some (.int tp,om)) (some (il som,om))):=
   setF (x:=il som) (d:=om) (zqu (zxk (zqu (zxk (x:=.int 0) (d:=om) rfl (zqq (zbx (i:=tp) rfl g1))) rfl) (zxk g2 (zqq (x:=.int tp) (d:=om) rfl))) (by kernel_rfl)) (show 11 < 12 by decide) rfl
  obtain ⟨w3,x3,hw3,hx3,g3⟩:=zvv (f:=bC (.int 3)) (r:=T (some (il som,om))) (m:=3) (e:=om) hx2 (by (clear hw2 hw1 t0 u0 l hr hj hk hkd z hc hb ha hB;omega)) (by decide) rfl
  have hsom:∀ y∈som,0<=y/\y<=tp:=by
   intro y hy
   have t0':0<=tp:=t0.1
   rcases jb3.mp hy with e | hy
   ·rw [e];split <;> (clear e t0' hw3 hw2 u0 l hr hj hk hC hkd z hc hb ha hB;omega)
   rcases jb3.mp hy with e | hy
   ·rw [e];(clear e t0' hw3 hw1 t0 u0 l hr hj hk hC hkd z hc hb ha hB;omega)
   rcases jb3.mp hy with e | hy
   ·rw [e];(clear e t0' hw3 hw2 hw1 u0 l hr hj hk hC hkd z hc hb ha hB;omega)
   ·cases hy
  let v:=som.getD w3.toNat 0
  have hv:=hsom _ (qg8 (xs:=som) (i:=w3.toNat) (by show w3.toNat < 3;(clear hw2 hw1 t0 u0 l hr hj hk hC hkd z hc hb ha hB;omega)))
  have g4:bBin zxs (zqb zqh (zqa (bBin zqj (bVar 11) (zqd a_take 0 (zqa (bC (.int 3)) (aNil)))) (aNil))) (bC (.int 6)) (Q x2 (some (.int tp,om)) (some (il som,om)))=.ok (.lst [.int v,.int v,.int v,.int v,.int v,.int v],om,Q x3 (some (.int tp,om)) (some (il som,om))):=
   zxb (zqu (zqq (zgc (xs:=som) (k:=w3) (d:=0) rfl g3 (zka hw3.1 (zkm (by show w3.toNat < 3;(clear hv hw2 hw1 t0 u0 l hr hj hk hC hkd z hc hb ha hB;omega)))))) rfl) (y:=.int 6) (e:=om) rfl (by kernel_rfl)
  let al:List Int:=[0,(c:Int),v,v,v,v,v,v]
  have hk8:kd.toNat < al.length:=by show kd.toNat < 8;(clear hv hw3 hw2 hw1 t0 u0 l hr hj hk hC z hc hb ha hB;omega)
  have hal:(0<=al.getD kd.toNat 0/\al.getD kd.toNat 0<=tp)/\(kd=1->al.getD kd.toNat 0=c):=by
   have:kd=0\/kd=1\/kd=2\/kd=3\/kd=4\/kd=5\/kd=6\/kd=7:=by (clear hk8 hv hw3 hw2 hw1 t0 u0 l hr hj hk hC z hc hb ha hB;omega)
   rcases this with e | e | e | e | e | e | e | e
   ·rw [e];exact ⟨⟨by show (0:Int)<=0;(clear e hk8 hv hw3 hw2 hw1 t0 u0 l hr hj hk hC hkd z hc hb ha hB;omega),t0.1⟩,λ h=>by (clear e hk8 hv hw3 hw2 hw1 t0 u0 l hr hj hk hC hkd z hc hb ha hB;omega)⟩
   ·have:=hkd1 e
    rw [e];exact ⟨⟨by show (0:Int)<=(c:Int);(clear this e hk8 hv hw3 hw2 hw1 t0 u0 l hr hj hk hC hkd z hc hb ha hB;omega),by show (c:Int)<=topH c t r j;(clear this hk8 hv hw3 hw2 hw1 t0 u0 l hr hj hk hC hkd z hc hb ha hB;omega)⟩,λ _=>rfl⟩
   all_goals rw [e];exact ⟨hv,λ h=>by (clear e hk8 hv hw3 hw2 hw1 t0 u0 l hr hj hk hC hkd z hc hb ha hB;omega)⟩
  have g5:bBin zqf (zqb zqh (zqa (bC (.int 0)) (zqa (bVar 4) (aNil)))) (bBin zxs (zqb zqh (zqa (bBin zqj (bVar 11) (zqd a_take 0 (zqa (bC (.int 3)) (aNil)))) (aNil))) (bC (.int 6))) (Q x2 (some (.int tp,om)) (some (il som,om)))=.ok (il al,om,Q x3 (some (.int tp,om)) (some (il som,om))):=
   zyn (xs:=[.int 0,.int (c:Int)]) (d:=om) (by kernel_rfl) g4 (by show 2 + 6<=va4;(clear hal hk8 hv hw3 hw2 hw1 t0 u0 l hr hj hk hC hkd hc hb ha hB;omega))
  refine ⟨al.getD kd.toNat 0,x3,some (.int tp,om),some (il som,om),hal.1,hal.2,hx3.mono (by (clear hal hk8 hv hw3 hw2 hw1 t0 u0 l hr hj hk hC hkd z hc hb ha hB;omega)),?_⟩
  refine (zqc v1).trans ((zqc v2).trans ?_)
  refine (qbl (i:=8) (d0:=999) (d:=om) (xs:=r.map PV.int) (xs0:=r.map PV.int) rfl (zgc g5 (k:=kd) (e:=om) rfl (zka hkd.1 (zkm hk8))) rfl (by decide) (by rw [ja4];(clear hal hk8 hv hw3 hw2 hw1 t0 u0 l hk hC hkd hc ha hB;omega)) rfl).trans ?_
  rw [qek]
  rfl
 have hab:a * b<=900:=jd3 (jh8 ha.2 hb.2) (by decide)
 obtain ⟨ρ',e6,x',t,d6,s7,s8,s9,s10,s11,rfl,px,pt,hd6,_⟩:=zzp (i:=7) (body:=(sSeq (sSet false 8 (zqb zqh (aNil)) [])
 (sSeq (zza zqx (zqa (bVar 3) (aNil)) (asgN 9) zhu)
 (sApp 6 (bVar 8) [8])))) (en:=zqx) (fa:=zqa (bVar 2) (aNil)) (ρ:=R x1 [] om none none none none none) (ρ1:=R x1 [] om none none none none none) (as:=[(.int (a:Int),om)]) (lo:=0) (hi:=(a:Int))
  (λ k ρ=>∃ x t d6 s7 s8 s9 s10 s11,ρ=R x t d6 s7 s8 s9 s10 s11/\Pl (B + 1 + 3 * ((k * b:Nat):Int)) x/\Pile k b c t/\d6≠0/\(kd=1->∀ i j,i < k->j < b->g t i j=c)) rfl (zwi (by (clear hab hkd z hc hb ha hB;omega)) (by (clear hab hkd z hc hb hB;omega))) ⟨x1,[],om,none,none,none,none,none,rfl,hx1.mono (by (clear hab hkd z hc hb ha hB;omega)),⟨⟨rfl,λ _ h=>nomatch h⟩,λ _ _ h=>absurd h (by (clear h hab hkd z hc hb ha hB;omega)),λ _ _ h=>absurd h (by (clear h hab hkd z hc hb ha hB;omega)),λ _ _ h=>absurd h (by (clear h hab hkd z hc hb ha hB;omega)),λ _ _ h=>absurd h (by (clear h hab hkd z hc hb ha hB;omega))⟩,by decide,λ _ _ _ h=>absurd h (by (clear h hab hkd z hc hb ha hB;omega))⟩ (by
   rintro k ρ hk ⟨x,t,d6,s7,s8,s9,s10,s11,rfl,px,pt,hd6,hk1⟩
   have hk':k < a:=by (clear hd6 hab hkd z hc hb ha hB;omega)
   have hkb:(k + 1) * b<=a * b:=Nat.mul_le_mul_right b hk'
   rw [jk7] at hkb
   have l:=pt.tab.1
   have u1:sSet false 8 (zqb zqh (aNil)) [] (R x t d6 (some (.int (0 + (k:Int)),om)) s8 s9 s10 s11)=.nx (R x t d6 (some (.int (0 + (k:Int)),om)) (some (il [],om)) s9 s10 s11):=rfl
   obtain ⟨ρ2,e2,x2,r,t9,t10,t11,rfl,px2,hr,hr0,hr1,hrn,hrk⟩:=zzp (i:=9) (body:=zhu) (en:=zqx) (fa:=zqa (bVar 3) (aNil)) (ρ:=R x t d6 (some (.int (0 + (k:Int)),om)) (some (il [],om)) s9 s10 s11) (ρ1:=R x t d6 (some (.int (0 + (k:Int)),om)) (some (il [],om)) s9 s10 s11) (as:=[(.int (b:Int),om)]) (lo:=0) (hi:=(b:Int))
    (λ j ρ=>∃ x r s9 s10 s11,ρ=R x t d6 (some (.int (0 + (k:Int)),om)) (some (il r,om)) s9 s10 s11/\Pl (B + 1 + 3 * ((k * b:Nat):Int) + 3 * (j:Int)) x/\r.length=j/\(∀ y,y < j->0<=r.getD y 0)/\(∀ y,y < j->r.getD y 0<=upH c t y)/\Nr r/\(kd=1->∀ y,y < j->r.getD y 0=c)) rfl (zwi (by (clear l hkb hk' hd6 hk hab hkd z hc hb ha hB;omega)) (by (clear l hkb hk' hd6 hk hab hkd z hc ha hB;omega))) ⟨x,[],s9,s10,s11,rfl,px.mono (by (clear l hkb hk' hd6 hk hab hkd z hc hb ha hB;omega)),rfl,λ _ h=>absurd h (by (clear h l hkb hk' hd6 hk hab hkd z hc hb ha hB;omega)),λ _ h=>absurd h (by (clear h l hkb hk' hd6 hk hab hkd z hc hb ha hB;omega)),λ _ h=>absurd h (by simp),λ _ _ h=>absurd h (by (clear h l hkb hk' hd6 hk hab hkd z hc hb ha hB;omega))⟩ (by
     rintro j ρ hj ⟨x,r,s9,s10,s11,rfl,px,hr,hr0,hr1,hrn,hrk⟩
     have hj':j < b:=by (clear hr l hkb hk' hd6 hk hab hkd z hc hb ha hB;omega)
     obtain ⟨h,x2,t10,t11,hh,hh1,px2,eh⟩:=step x _ t d6 k j r (some (.int (0 + (k:Int)),om)) s10 s11 px (by (clear hj' hr l hk' hd6 hk hkd z hc hb ha;omega)) hk' hj' pt hr hr0 (λ e=>by
      unfold topH upH
      by_cases e1:r.length=0
      ·rw [if_pos e1]
       by_cases e2:t.length=0
       ·rw [if_pos e2]
       ·rw [if_neg e2];exact hk1 e _ _ (by (clear e1 e hj' hr hj hkb hk' hd6 hk hab hkd z hc hb ha hB;omega)) hj'
      ·rw [if_neg e1,hrk e _ (by (clear e hj' hj l hkb hk' hd6 hk hab hkd z hc hb ha hB;omega))]
       by_cases e2:t.length=0
       ·rw [if_pos e2];(clear e2 e1 e hj' hr hj l hkb hk' hd6 hk hab hkd z hc hb ha hB;omega)
       ·rw [if_neg e2,hk1 e _ _ (by (clear e1 e hj' hr hj hkb hk' hd6 hk hab hkd z hc hb ha hB;omega)) hj'];(clear e2 e1 e hj' hr hj l hkb hk' hd6 hk hab hkd z hc hb ha hB;omega))
     refine ⟨show 9 < 12 by decide,R x2 t d6 (some (.int (0 + (k:Int)),om)) (some (il (r++[h]),om)) (some (.int (0 + (j:Int)),om)) t10 t11,?_,x2,r++[h],some (.int (0 + (j:Int)),om),t10,t11,rfl,px2.mono (by (clear hh hj' hr hj l hkb hk' hd6 hk hab hkd z hc hb ha hB;omega)),by rw [ja8,hr];rfl,λ y hy=>?_,λ y hy=>?_,λ y hy=>?_,λ e y hy=>?_⟩
     ·have ez:(0:Int) + (j:Int)=(j:Int):=jk9 _
      rw [ez]
      exact eh
     ·rw [zkh]
      by_cases e:y < r.length
      ·rw [if_pos e];exact hr0 y (by (clear hy hh hj' hj l hkb hk' hd6 hk hab hkd z hc hb ha hB;omega))
      ·rw [if_neg e,if_pos (by (clear hh hj' hj l hkb hk' hd6 hk hab hkd z hc hb ha hB;omega))];exact hh.1
     ·rw [zkh]
      by_cases e:y < r.length
      ·rw [if_pos e];exact hr1 y (by (clear hy hh hj' hj l hkb hk' hd6 hk hab hkd z hc hb ha hB;omega))
      ·rw [if_neg e,if_pos (by (clear hh hj' hj l hkb hk' hd6 hk hab hkd z hc hb ha hB;omega)),show y=j by (clear hh hj' hj l hkb hk' hd6 hk hab hkd z hc hb ha hB;omega)]
       have:=hh.2
       unfold topH at this
       split at this <;> (clear e hy hh hj' hr hj l hkb hk' hd6 hk hab hkd z hc hb ha hB;omega)
     ·rw [ja8,jc8] at hy
      rw [zkh,zkh]
      by_cases e:y + 1 < r.length
      ·rw [if_pos e,if_pos (by (clear e hh hj' hr hj l hkb hk' hd6 hk hab hkd z hc hb ha hB;omega))];exact hrn y e
      ·rw [if_neg e,if_pos (by (clear hh hj' hr hj l hkb hk' hd6 hk hab hkd z hc hb ha hB;omega)),if_pos (by (clear e hh hj' hr hj l hkb hk' hd6 hk hab hkd z hc hb ha hB;omega))]
       have:=hh.2
       unfold topH at this
       rw [if_neg (by (clear this e hh hj' hr hj l hkb hk' hd6 hk hab hkd z hc hb ha hB;omega)),show r.length - 1=y by (clear this hh hj' hr hj l hkb hk' hd6 hk hab hkd z hc hb ha hB;omega)] at this
       (clear e hy hh hj' hr hj l hkb hk' hd6 hk hab hkd z hc hb ha hB;omega)
     ·rw [zkh]
      by_cases e2:y < r.length
      ·rw [if_pos e2];exact hrk e y (by (clear hy e hh hj' hj l hkb hk' hd6 hk hab hkd z hc hb ha hB;omega))
      ·rw [if_neg e2,if_pos (by (clear e hh hj' hj l hkb hk' hd6 hk hab hkd z hc hb ha hB;omega))];exact hh1 e)
   rw [show ((b:Int) - 0).toNat=b by (clear hr l hkb hk' hd6 hk hab hkd z hc hb ha hB;omega)] at hr hr0 hr1 hrk px2
   refine ⟨show 7 < 12 by decide,R x2 (t++[r]) 1 (some (.int (0 + (k:Int)),om)) (some (il r,0)) t9 t10 t11,?_,x2,t++[r],1,_,_,_,_,_,rfl,px2.mono ?_,pt.snoc hr (λ y hy=>⟨hr0 y hy,hr1 y hy⟩) hrn,by decide,λ e i j hi hj=>?_⟩
   ·refine (zqc u1).trans ((zqc e2).trans ?_)
    obtain ⟨d0,rfl⟩:∃ d0,d6=d0 + 1:=⟨d6 - 1,by (clear hr l hkb hk' hk hab hkd z hc hb ha hB;omega)⟩
    refine (qbl (i:=6) (d0:=d0) (d:=d0 + 1) (y:=il r) (e:=0) (xs:=t.map il) (xs0:=t.map il) rfl rfl rfl hd6 (by rw [ja4,pt.tab.1];(clear hd6 hr l hkb hk' hab hkd hc hb hB;omega)) rfl).trans ?_
    rw [qi0,if_neg (λ h=>absurd h.2 (by decide))]
    rfl
   ·rw [jk7];(clear hr l hkb hk' hd6 hk hab hkd z hc hb ha hB;omega)
   ·unfold g
    rw [qae,l]
    by_cases z:i < k
    ·rw [if_pos z];exact hk1 e i j z hj
    ·rw [if_neg z,if_pos (by (clear hj e hr l hkb hk' hd6 hk hab hkd hc hb ha hB;omega))];exact hrk e j hj)
 rw [show ((a:Int) - 0).toNat=a by (clear hd6 hab hkd z hc hb ha hB;omega)] at pt px
 exact ⟨t,d6,x',pt,hd6,px.mono (by (clear hd6 hkd z hc hb ha hB;omega)),zml (c:=om) rfl ((zqc s1).trans ((zqc s2).trans ((zqc s3).trans ((zqc e6).trans rfl)))) rfl⟩
theorem zfw {asg:PV->Rho->Option Rho}{body:Fs}:∀ (els:List PV) (I:Nat->Rho->Prop) (ρ:Rho),I 0 ρ->(∀ j x ρ,els[j]?=some x->I j ρ->∃ ρ1 ρ2,asg x ρ=some ρ1/\body ρ1=.nx ρ2/\I (j + 1) ρ2)->∃ ρ',zzb asg body els ρ=.nx ρ'/\I els.length ρ'
 | [],I,ρ,h,_=>⟨ρ,rfl,h⟩
 | x::xs,I,ρ,h,hb=>by
  obtain ⟨ρ1,ρ2,e1,e2,h2⟩:=hb 0 x ρ rfl h
  obtain ⟨ρ',e',h'⟩:=zfw xs (λ j=>I (j + 1)) ρ2 h2 λ j y ρ hy hi=>hb (j + 1) y ρ (by simpa using hy) hi
  refine ⟨ρ',?_,h'⟩
  unfold zzb
  rw [e1]
  dsimp only
  rw [e2]
  exact e'
theorem zmk {f:Fx}{vs:List Nat}{asg:PV->Rho->Option Rho}{body:Fs}{ρ ρ1 ρ2:Rho}{els:List PV}{d:Nat} (I:Nat->Rho->Prop) (hf:f ρ=.ok (.lst els,d,ρ1)) (ec:zqr d vs ρ1=ρ2) (h0:I 0 ρ2)
  (hb:∀ j x ρ,els[j]?=some x->I j ρ->∃ ρ1 ρ2,asg x ρ=some ρ1/\body ρ1=.nx ρ2/\I (j + 1) ρ2):∃ ρ',zzw f vs asg body ρ=.nx ρ'/\I els.length ρ':=by
 obtain ⟨ρ',e,h⟩:=zfw els I ρ2 h0 hb
 refine ⟨ρ',?_,h⟩
 unfold zzw
 rw [hf]
 dsimp only
 rw [ec]
 exact e
abbrev C3:=Nat×Nat×Nat
def c3 (x:C3):PV:=.tup [.int (x.1:Int),.int (x.2.1:Int),.int (x.2.2:Int)]
def ct (cs:List C3):PV:=.lst (cs.map c3)
def qb6 (t:List (List Int)) (i j:Nat):List C3:=(jd0 (g t i j).toNat).map λ k=>(i,j,k)
def rowC (t:List (List Int)) (i b:Nat):List C3:=(jd0 b).flatMap (qb6 t i)
def zxh (t:List (List Int)) (a b:Nat):List C3:=(jd0 a).flatMap λ i=>rowC t i b
theorem zfj (t:List (List Int)) (i j:Nat):rowC t i (j + 1)=rowC t i j++qb6 t i j:=by
 unfold rowC
 rw [jo8,jm9]
 simp
theorem zbc (t:List (List Int)) (i b:Nat):zxh t (i + 1) b=zxh t i b++rowC t i b:=by
 unfold zxh
 rw [jo8,jm9]
 simp
theorem zgo (t:List (List Int)) (i j:Nat):(qb6 t i j).length=(g t i j).toNat:=by unfold qb6;rw [ja4,jf3]
theorem zpz {a b c:Nat}{t:List (List Int)} (p:Pile a b c t) {i:Nat} (hi:i < a):∀ {j:Nat},j<=b->(rowC t i j).length<=j * c
 | 0,_=>by unfold rowC;simp
 | j + 1,h=>by
  rw [zfj,ja8,zgo,jk7]
  have:=zpz p hi (j:=j) (by omega)
  have:=p.hi i j hi (by omega)
  omega
theorem zyi {a b c:Nat}{t:List (List Int)} (p:Pile a b c t):∀ {i:Nat},i<=a->(zxh t i b).length<=i * (b * c)
 | 0,_=>by unfold zxh;simp
 | i + 1,h=>by
  rw [zbc,ja8,jk7]
  have:=zyi p (i:=i) (by omega)
  have:=zpz p (i:=i) (by omega) (j:=b) (jb4 _)
  omega
theorem qon {a b c:Nat} (ha:a<=30) (hb:b<=30) (hc:c<=1000):a * (b * c)<=900000:=jd3 (jh8 ha (jh8 hb hc)) (by decide)
theorem zft {asg:PV->Rho->Option Rho}{body:Fs}:∀ (els:List PV) (I:Nat->Rho->Prop) (ρ:Rho),I 0 ρ->(∀ j x ρ,els[j]?=some x->I j ρ->∃ ρ1 ρ2,asg x ρ=some ρ1/\body ρ1=.nx ρ2/\I (j + 1) ρ2)->∃ ρ',zvt asg body els ρ=.nx ρ'/\I els.length ρ'
 | [],I,ρ,h,_=>⟨ρ,rfl,h⟩
 | x::xs,I,ρ,h,hb=>by
  obtain ⟨ρ1,ρ2,e1,e2,h2⟩:=hb 0 x ρ rfl h
  obtain ⟨ρ',e',h'⟩:=zft xs (λ j=>I (j + 1)) ρ2 h2 λ j y ρ hy hi=>hb (j + 1) y ρ (by simpa using hy) hi
  refine ⟨ρ',?_,h'⟩
  unfold zvt
  rw [e1]
  dsimp only
  rw [e2]
  exact e'
theorem qg9 {i0:Nat}{is:List Nat}{asg:PV->Rho->Option Rho}{body:Fs}{ρ:Rho}{els:List PV}{d:Nat} (I:Nat->Rho->Prop) (hf:ρ[i0]?=some (some (.lst els,d))) (h0:I 0 ρ)
  (hb:∀ j x ρ,els[j]?=some x->I j ρ->∃ ρ1 ρ2,asg x ρ=some ρ1/\body ρ1=.nx ρ2/\I (j + 1) ρ2):∃ ρ',zki i0 is asg body ρ=.nx (kill is 0 ρ')/\I els.length ρ':=by
 obtain ⟨ρ',e,h⟩:=zft els I ρ h0 hb
 refine ⟨ρ',?_,h⟩
 unfold zki
 rw [hf]
 dsimp only
 rw [e]
theorem orF {f g:Fx}{ρ ρ1:Rho}{d:Nat} (h:f ρ=.ok (.bl false,d,ρ1)):bOrV f g ρ=g ρ1:=by
 unfold bOrV
 rw [h]
 rfl
theorem qoz {F:Fn}{i:Nat}{fa:Fa}{ρ ρ1:Rho}{xs:List (PV×Nat)}{x0 y z:PV}{d d0:Nat}{p:PV×Nat} (h0:ρ[i]?=some (some p)) (h1:fa ρ=.ok (xs,ρ1)) (h3:ρ1[i]?=some (some (x0,d0))) (h2:F (x0::xs.map (·.1))=.ok (y,d,z)) (hy:zwn y=true):zvd F i fa ρ=.ok (y,om,ρ1):=by
 unfold zvd
 rw [h0]
 dsimp only
 rw [h1]
 dsimp only [Rz.bind]
 rw [h3]
 dsimp only
 rw [h2]
 dsimp only
 rw [if_pos hy]
theorem qpb {F:Fn}{i:Nat}{ρ ρ2:Rho}{x0 y z:PV}{d d0:Nat} (h0:ρ[i]?=some (some (x0,d0))) (h2:F [x0]=.ok (y,d,z)) (hy:zwn y=true) (e:ρ.set i none=ρ2):zve F i ρ=.ok (y,om,ρ2):=by
 unfold zve
 rw [h0]
 dsimp only
 rw [h2]
 dsimp only
 rw [if_pos hy,e]
theorem qn1 {k:Nat}{b:Fs}{x:PV}{ρ':Rho}{y:PV}{d:Nat} (h:b (some (x,om)::ja5 k none)=.rt y d ρ'):qbx k b [x]=.ok (y,d,.non):=by
 unfold qbx
 dsimp only
 rw [h]
theorem qai (v:Int):∀ n:Nat,repL n [.int v]=(ja5 n v).map PV.int
 | 0=>rfl
 | n + 1=>by
  show [PV.int v]++repL n [.int v]=_
  rw [qai v n]
  rfl
theorem qh1 {f g:Fx}{ρ ρ1 ρ2:Rho}{v:Int}{n:Nat}{d e:Nat} (h1:f ρ=.ok (.lst [.int v],d,ρ1)) (h2:g ρ1=.ok (.int (n:Int),e,ρ2)) (hn:n<=1000):bBin zxs f g ρ=.ok (il (ja5 n v),om,ρ2):=by
 refine zxb h1 h2 ?_
 have z:=sz
 unfold zxs
 dsimp only
 rw [if_pos ⟨by omega,by omega,by rw [jc8,je6];omega⟩,je6,qai,qof]
 rfl
def zwv (a b:Nat):List (List Int):=ja5 a (ja5 b 0)
theorem zkd (a b:Nat):Tab a b (zwv a b):=⟨by unfold zwv;rw [jd5],λ r hr=>by rw [(List.mem_replicate.mp hr).2,jd5]⟩
theorem qb9 {a b i j:Nat} (hi:i < a) (hj:j < b):g (zwv a b) i j=0:=by
 unfold g zwv
 rw [ja6,ja6,jd2,if_pos hi]
 show (ja5 b (0:Int))[j]?.getD 0=0
 rw [jd2,if_pos hj]
 rfl
def Xf_is_cube_in:Fs:=(sSeq (sIf (bT (bOrV (bUn zxj (bUn (zzf "tuple") (bVar 1))) (bBin (opEq true) (zqb zxd (zqa (bVar 1) (aNil))) (bC (.int 3))))) (sRet (bC (.bl false))) sNil)
 (sRet (zqb zbo (zqa (zyr .zp (zqa (bVar 1) (zqa (bVar 0) (aNil))) 2 (asgT [2,3]) zqp (zzv (zqw f_is_whole_number (zqa (bVar 2) (aNil))) (zzl (λ i j=>decide (i<=j)) (λ i j=>decide (i < j)) (bC (.int 0)) (bVar 2) (bVar 3)))) (aNil)))))
def f_is_cube_in:Fn:=mkFn false 2 0 Xf_is_cube_in
def Xf_cubes_needed_by:Fs:=(sSeq (sUnp (asgT [1,2,3]) (bVar 0) [0])
 (sSeq (sSet false 4 (zqb zqh (zqa (zqb zxz (zqa (bBin zwa (bVar 1) (bC (.int 1))) (zqa (bVar 2) (zqa (bVar 3) (aNil))))) (zqa (zqb zxz (zqa (bVar 1) (zqa (bBin zwa (bVar 2) (bC (.int 1))) (zqa (bVar 3) (aNil))))) (zqa (zqb zxz (zqa (bVar 1) (zqa (bVar 2) (zqa (bBin zwa (bVar 3) (bC (.int 1))) (aNil))))) (aNil))))) [1,2,3,1,2,3,1,2,3])
 (sRet (zql (bVar 4) 1 (asgN 5) (bT (bBin (zwb λ i j=>decide (j<=i)) (zqb zws (zqa (bVar 5) (aNil))) (bC (.int 0)))) (bVar 5)))))
def f_cubes_needed_by:Fn:=mkFn false 1 4 Xf_cubes_needed_by
def Xf_must_be_cubes_of_a_pile:Fs:=(sSeq (sIf (bT (bOrV (bUn zxj (bUn (zzf "list") (bVar 1))) (bUn zxj (zqb zbo (zqa (zql (bVar 1) 1 (asgN 4) zqp (zqw f_is_cube_in (zqa (bVar 0) (zqa (bVar 4) (aNil))))) (aNil)))))) (sExc 2) sNil)
 (sSeq (sSet false 2 bDct [])
 (sSeq (zzw (bVar 1) [1] (asgN 3) (zbn 2 (bVar 3) (bC (.bl true))))
 (zki 1 [3] (asgN 3) (sIf (bT (bUn zxj (zqb zbo (zqa (zql (zqw f_cubes_needed_by (zqa (bVar 3) (aNil))) 1 (asgN 4) zqp (bBin (opIn false) (bVar 4) (bVar 2))) (aNil))))) (sExc 2) sNil)))))
def f_must_be_cubes_of_a_pile:Fn:=mkFn false 2 2 Xf_must_be_cubes_of_a_pile
def Xf_pile_of_cubes:Fs:=(sSeq (zzx (zqw f_must_be_box (zqa (bVar 0) (aNil))))
 (sSeq (zzx (zqw f_must_be_cubes_of_a_pile (zqa (bVar 0) (zqa (bVar 1) (aNil)))))
 (sSeq (sUnp (asgT [2,3,4]) (bVar 0) [0])
 (sSeq (sSet false 5 (zxv zqx (zqa (bVar 2) (aNil)) 1 (asgN 9) zqp (bBin zxs (zqb zqh (zqa (bC (.int 0)) (aNil))) (bVar 3))) [3])
 (sSeq (zzw (bVar 1) [1] (asgT [6,7,8]) (zpy 5 (bVar 6) (bVar 7) (zqb zyu (zqa (bBin zqj (bBin zqj (bVar 5) (bVar 6)) (bVar 7)) (zqa (bBin zqf (bVar 8) (bC (.int 1))) (aNil))))))
 (zbm 5))))))
def f_pile_of_cubes:Fn:=mkFn false 2 7 Xf_pile_of_cubes
theorem qbn {elt:Fx}{p q:QQ.Slot}{u v:Int}{y:PV}{xs:List PV}{acc:List (PV×Nat)} (he:elt [p,q,some (.int u,om),some (.int v,om)]=.ok (y,om,[p,q,some (.int u,om),some (.int v,om)])) (ha:acc.length < va4):
  zxl 2 (asgT [2,3]) zqp elt (.tup [.int u,.int v]::xs) [p,q] acc=zxl 2 (asgT [2,3]) zqp elt xs [p,q] (acc++[(y,om)]):=by
 conv=>lhs;unfold zxl
 have ea:asgT [2,3] (.tup [.int u,.int v]) ([p,q]++ja5 2 none)=some [p,q,some (.int u,om),some (.int v,om)]:=rfl
 rw [ea]
 dsimp only
 have:zqp [p,q,some (.int u,om),some (.int v,om)]=.ok (true,[p,q,some (.int u,om),some (.int v,om)]):=rfl
 rw [this]
 dsimp only [Rz.bindN]
 rw [if_pos rfl,he]
 dsimp only
 rw [if_pos ha]
 rfl
theorem qb4 {a b c:Nat}{x:C3} (h1:x.1 < a) (h2:x.2.1 < b) (h3:x.2.2 < c):f_is_cube_in [bx a b c,c3 x]=.ok (.bl true,om,.non):=by
 have z:=sz
 let R:Rho:=[some (bx a b c,0),some (c3 x,0)]
 have e0:∀ u v:Int,0<=u->u < v->(zzv (zqw f_is_whole_number (zqa (bVar 2) (aNil))) (zzl (λ i j=>decide (i<=j)) (λ i j=>decide (i < j)) (bC (.int 0)) (bVar 2) (bVar 3))) [some (bx a b c,0),some (c3 x,0),some (.int u,om),some (.int v,om)]=.ok (.bl true,om,[some (bx a b c,0),some (c3 x,0),some (.int u,om),some (.int v,om)]):=λ u v hu hv=>by
  have:=qfl (a:=true) (f:=zqw f_is_whole_number (zqa (bVar 2) (aNil))) (g:=zzl (λ i j=>decide (i<=j)) (λ i j=>decide (i < j)) (bC (.int 0)) (bVar 2) (bVar 3)) (ρ:=[some (bx a b c,0),some (c3 x,0),some (.int u,om),some (.int v,om)]) (zxt (xs:=[(.int u,om)]) rfl (qaa u)) (λ _=>qbh (i:=0) (j:=u) (k:=v) rfl rfl rfl) rfl
  rw [decide_eq_true hu,decide_eq_true hv] at this
  exact this
 have e1:zyr .zp (zqa (bVar 1) (zqa (bVar 0) (aNil))) 2 (asgT [2,3]) zqp (zzv (zqw f_is_whole_number (zqa (bVar 2) (aNil))) (zzl (λ i j=>decide (i<=j)) (λ i j=>decide (i < j)) (bC (.int 0)) (bVar 2) (bVar 3))) R=.ok (.lst ([(),(),()].map λ _=>.bl true),om,R):=by
  unfold zyr
  have ef:(zqa (bVar 1) (zqa (bVar 0) (aNil))) R=.ok ([(c3 x,0),(bx a b c,0)],R):=rfl
  rw [ef]
  dsimp only
  have ev:zkv .zp ([(c3 x,0),(bx a b c,0)].map (·.1))=some [.tup [.int (x.1:Int),.int (a:Int)],.tup [.int (x.2.1:Int),.int (b:Int)],.tup [.int (x.2.2:Int),.int (c:Int)]]:=rfl
  rw [ev]
  dsimp only
  rw [qbn (e0 _ _ (by (clear z h3 h2 h1;omega)) (by (clear z h3 h2;omega))) (by show 0 < va4;(clear h3 h2 h1;omega)),qbn (e0 _ _ (by (clear z h3 h2 h1;omega)) (by (clear z h3 h1;omega))) (by show 1 < va4;(clear h3 h2 h1;omega)),qbn (e0 _ _ (by (clear z h3 h2 h1;omega)) (by (clear z h2 h1;omega))) (by show 2 < va4;(clear h3 h2 h1;omega))]
  rfl
 refine zyg rfl (ρ':=R) ?_
 show Xf_is_cube_in R=_
 refine (zkx (ρ1:=R) (by kernel_rfl)).trans (zkj ?_)
 rw [all_ok e1]
 rfl
def zvs (x:C3):List C3:=(if 0 < x.1 then [(x.1 - 1,x.2.1,x.2.2)] else [])++(if 0 < x.2.1 then [(x.1,x.2.1 - 1,x.2.2)] else [])++(if 0 < x.2.2 then [(x.1,x.2.1,x.2.2 - 1)] else [])
def key3 (x:C3):List Key:=[.inl (x.1:Int),.inl (x.2.1:Int),.inl (x.2.2:Int)]
theorem qgw {x y:C3} (h:key3 x=key3 y):x=y:=by
 unfold key3 at h
 simp only [List.cons.injEq,Sum.inl.injEq,and_true] at h
 obtain ⟨h1,h2,h3⟩:=h
 obtain ⟨i,j,k⟩:=x
 obtain ⟨i',j',k'⟩:=y
 simp only at h1 h2 h3
 rw [jn4.mp h1,jn4.mp h2,jn4.mp h3]
theorem qeb (x:C3):keyL [.int (x.1:Int),.int (x.2.1:Int),.int (x.2.2:Int)]=some (key3 x):=rfl
def zxx:List C3->List (List Key×V)
 | []=>[]
 | x::r=>putK (zxx r) (key3 x) (.bl true)
theorem zbv (y:C3):∀ xs:List C3,(valV (zxx xs) (key3 y)).isSome=decide (y∈xs)
 | []=>by simp [zxx,valV]
 | x::r=>by
  unfold zxx
  rw [qfp]
  by_cases e:y=x
  ·subst e;simp
  ·have:¬ key3 y=key3 x:=λ h=>e (qgw h)
   rw [if_neg this,zbv y r]
   simp [e]
theorem zbu:∀ xs:List C3,(zxx xs).length<=xs.length
 | []=>jb4 _
 | x::r=>by
  unfold zxx
  have:=zvu (zxx r) (key3 x) (.bl true)
  have:=zbu r
  rw [jb2];omega
theorem qj8 {i j k:Nat}:((([((i:Int) - 1,(j:Int),(k:Int)),((i:Int),(j:Int) - 1,(k:Int)),((i:Int),(j:Int),(k:Int) - 1)]:List (Int×Int×Int)).filter λ z=>decide (0<=minI z.1 [z.2.1,z.2.2])).map λ z=>PV.tup [.int z.1,.int z.2.1,.int z.2.2])=(zvs (i,j,k)).map c3:=by
 have m:∀ x y z:Int,minI x [y,z]=min (min x y) z:=λ x y z=>by
  unfold minI
  unfold minI
  unfold minI
  split <;> split <;> omega
 unfold zvs
 simp only [jl9,List.filter_nil,m]
 by_cases h1:0 < i <;> by_cases h2:0 < j <;> by_cases h3:0 < k <;> simp only [h1,h2,h3,if_true,if_false] <;>
  (first | rw [if_pos (decide_eq_true (by (clear h3 h2;omega)))] | rw [if_neg (by rw [decide_eq_true_iff];(clear h3 h2;omega))]) <;>
  (first | rw [if_pos (decide_eq_true (by (clear h3 h1;omega)))] | rw [if_neg (by rw [decide_eq_true_iff];(clear h3 h1;omega))]) <;>
  (first | rw [if_pos (decide_eq_true (by (clear h2 h1;omega)))] | rw [if_neg (by rw [decide_eq_true_iff];(clear h2 h1;omega))]) <;>
  simp only [jc2,jg3,ji2,jj2,jd9,c3] <;>
  (try simp only [List.cons.injEq,PV.tup.injEq,PV.int.injEq,and_true,true_and]) <;> (try omega)
theorem qdt (x:C3):∃ d,f_cubes_needed_by [c3 x]=.ok (ct (zvs x),d,.non):=by
 have z:=sz
 obtain ⟨i,j,k⟩:=x
 let R (s4:QQ.Slot):Rho:=[some (c3 (i,j,k),0),some (.int (i:Int),om),some (.int (j:Int),om),some (.int (k:Int),om),s4]
 let ys:List (Int×Int×Int):=[((i:Int) - 1,(j:Int),(k:Int)),((i:Int),(j:Int) - 1,(k:Int)),((i:Int),(j:Int),(k:Int) - 1)]
 let enc:Int×Int×Int->PV:=λ z=>.tup [.int z.1,.int z.2.1,.int z.2.2]
 have v1:sUnp (asgT [1,2,3]) (bVar 0) [0] [some (c3 (i,j,k),0),none,none,none,none]=.nx (R none):=rfl
 have v2:∃ d4,sSet false 4 (zqb zqh (zqa (zqb zxz (zqa (bBin zwa (bVar 1) (bC (.int 1))) (zqa (bVar 2) (zqa (bVar 3) (aNil))))) (zqa (zqb zxz (zqa (bVar 1) (zqa (bBin zwa (bVar 2) (bC (.int 1))) (zqa (bVar 3) (aNil))))) (zqa (zqb zxz (zqa (bVar 1) (zqa (bVar 2) (zqa (bBin zwa (bVar 3) (bC (.int 1))) (aNil))))) (aNil))))) [1,2,3,1,2,3,1,2,3] (R none)=.nx (R (some (.lst (ys.map enc),d4))):=⟨_,rfl⟩
 obtain ⟨d4,v2⟩:=v2
 have v3:=zzj (n:=5) (test:=bT (bBin (zwb λ i j=>decide (j<=i)) (zqb zws (zqa (bVar 5) (aNil))) (bC (.int 0)))) (elt:=bVar 5) (enc:=enc) (q:=enc) (e:=λ _=>0) (p:=λ z=>decide (0<=minI z.1 [z.2.1,z.2.2])) ys (R (some (.lst (ys.map enc),d4))) [] rfl (λ z _=>rfl) (λ z _ _=>rfl) (by show 0 + 3<=va4;omega)
 have v4:∃ d,zql (bVar 4) 1 (asgN 5) (bT (bBin (zwb λ i j=>decide (j<=i)) (zqb zws (zqa (bVar 5) (aNil))) (bC (.int 0)))) (bVar 5) (R (some (.lst (ys.map enc),d4)))=.ok (ct (zvs (i,j,k)),d,R (some (.lst (ys.map enc),d4))):=by
  have e0:zql (bVar 4) 1 (asgN 5) (bT (bBin (zwb λ i j=>decide (j<=i)) (zqb zws (zqa (bVar 5) (aNil))) (bC (.int 0)))) (bVar 5) (R (some (.lst (ys.map enc),d4)))=(zxl 1 (asgN 5) (bT (bBin (zwb λ i j=>decide (j<=i)) (zqb zws (zqa (bVar 5) (aNil))) (bC (.int 0)))) (bVar 5) (ys.map enc) (R (some (.lst (ys.map enc),d4))) []).bindN λ (acc,ρ2)=>zva acc ρ2:=rfl
  rw [e0,v3]
  dsimp only [Rz.bindN,zva]
  rw [ji2,jd7]
  refine ⟨_,congrArg (λ l=>Rz.ok (PV.lst l,_,_)) ?_⟩
  exact qj8
 obtain ⟨d,v4⟩:=v4
 exact ⟨d,zyg rfl ((zqc v1).trans ((zqc v2).trans (zkj v4)))⟩
structure Cubes (a b c:Nat) (cs:List C3):Prop where
 box:∀ x∈cs,x.1 < a/\x.2.1 < b/\x.2.2 < c
 all:∀ x∈cs,∀ y∈zvs x,y∈cs
 len:cs.length<=100000
def mxT (u:List (List Int)) (x:C3):List (List Int):=u.set x.1 ((u.getD x.1 []).set x.2.1 (if ((x.2.2:Int) + 1) > g u x.1 x.2.1 then (x.2.2:Int) + 1 else g u x.1 x.2.1))
theorem qdu {a b:Nat}{u:List (List Int)} (h:Tab a b u) {x:C3} (hx:x.1 < a):Tab a b (mxT u x):=by
 refine ⟨by unfold mxT;rw [jc0];exact h.1,λ r hr=>?_⟩
 unfold mxT at hr
 rcases jl4 hr with z | z
 ·exact h.2 r z
 ·rw [z,jc0];exact h.row hx
theorem qkb {a b:Nat}{u:List (List Int)} (h:Tab a b u) {x:C3} (h1:x.1 < a) (h2:x.2.1 < b) (i j:Nat):g (mxT u x) i j=if i=x.1/\j=x.2.1 then (if ((x.2.2:Int) + 1) > g u x.1 x.2.1 then (x.2.2:Int) + 1 else g u x.1 x.2.1) else g u i j:=by
 unfold mxT
 generalize (if ((x.2.2:Int) + 1) > g u x.1 x.2.1 then (x.2.2:Int) + 1 else g u x.1 x.2.1)=v
 by_cases e:i=x.1
 ·subst e
  unfold g
  rw [zwq (by rw [h.1];exact h1)]
  by_cases e2:j=x.2.1
  ·subst e2
   rw [if_pos ⟨rfl,rfl⟩,zwq (by rw [h.row h1];exact h2)]
  ·rw [if_neg (λ z=>e2 z.2),zzm (λ z=>e2 z.symm)]
 ·rw [if_neg (λ z=>e z.1)]
  unfold g
  rw [zzm (λ z=>e z.symm)]
def mxA (cs:List C3) (u:List (List Int)):List (List Int):=cs.foldl mxT u
theorem qgo (cs:List C3) (x:C3) (u:List (List Int)):mxA (cs++[x]) u=mxT (mxA cs u) x:=by unfold mxA;rw [List.foldl_append];rfl
theorem zmg {a b:Nat}:∀ {cs:List C3}{u:List (List Int)},Tab a b u->(∀ x∈cs,x.1 < a/\x.2.1 < b)->Tab a b (mxA cs u)
 | [],u,h,_=>h
 | x::r,u,h,hx=>zmg (cs:=r) (u:=mxT u x) (qdu h (hx x ja3).1) λ y hy=>hx y (ja1 _ hy)
theorem qic {a b i j:Nat} (n:Int):∀ {cs:List C3}{u:List (List Int)},Tab a b u->(∀ x∈cs,x.1 < a/\x.2.1 < b)->(n < g (mxA cs u) i j↔n < g u i j\/∃ x∈cs,x.1=i/\x.2.1=j/\n<=(x.2.2:Int))
 | [],u,h,_=>by simp [mxA]
 | x::r,u,h,hx=>by
  have h0:=hx x ja3
  show n < g (mxA r (mxT u x)) i j↔_
  rw [qic n (qdu h h0.1) λ y hy=>hx y (ja1 _ hy),qkb h h0.1 h0.2]
  constructor
  ·rintro (z | ⟨y,hy,z⟩)
   ·by_cases e:i=x.1/\j=x.2.1
    ·rw [if_pos e] at z
     obtain ⟨rfl,rfl⟩:=e
     split at z
     ·exact .inr ⟨x,ja3,rfl,rfl,by omega⟩
     ·exact .inl z
    ·rw [if_neg e] at z;exact .inl z
   ·exact .inr ⟨y,ja1 _ hy,z⟩
  ·rintro (z | ⟨y,hy,e1,e2,z⟩)
   ·left
    by_cases e:i=x.1/\j=x.2.1
    ·rw [if_pos e]
     obtain ⟨rfl,rfl⟩:=e
     split <;> omega
    ·rw [if_neg e];exact z
   ·rcases jb3.mp hy with rfl | hy
    ·left
     rw [if_pos ⟨e1.symm,e2.symm⟩]
     split <;> (clear h0 e2 e1;omega)
    ·exact .inr ⟨y,hy,e1,e2,z⟩
theorem zhb {f g:Fs}{ρ:Rho}{c:Nat} (h:f ρ=.exc c):sSeq f g ρ=.exc c:=by unfold sSeq;rw [h]
theorem zmv {F:Fn}{fa:Fa}{ρ ρ1:Rho}{xs:List (PV×Nat)}{c:Nat} (h1:fa ρ=.ok (xs,ρ1)) (h2:F (xs.map (·.1))=.exc c):zqw F fa ρ=.exc c:=by
 unfold zqw
 rw [h1]
 dsimp only [Rz.bind]
 rw [h2]
theorem qba {f:Fx}{ρ:Rho}{c:Nat} (h:f ρ=.exc c):zzx f ρ=.exc c:=by unfold zzx;rw [h]
theorem qjg {m:Bool}{i:Nat}{f:Fx}{vs:List Nat}{ρ:Rho}{c:Nat} (h:f ρ=.exc c):sSet m i f vs ρ=.exc c:=by unfold sSet;rw [h]
theorem qa7 {np k:Nat}{b:Fs}{xs:List PV}{c:Nat} (hl:xs.length=np) (h:b (xs.map (λ x=>some (x,dv x))++ja5 k none)=.exc c):mkFn false np k b xs=.exc c:=by
 unfold mkFn
 rw [if_pos hl]
 show (match b (xs.map (λ x=>some (x,dv x))++ja5 k none) with | .rt y d ρ=>_ | .nx ρ=>_ | .exc c=>_ | _=>_)=_
 rw [h]
theorem zfu {asg:PV->Rho->Option Rho}{body:Fs}{R:QQ.Slot->Rho}{p:C3->Bool}{e:Nat} (hasg:∀ x s,asg (c3 x) (R s)=some (R (some (c3 x,0)))):∀ (cs:List C3),(∀ x∈cs,body (R (some (c3 x,0)))=if p x=true then .nx (R (some (c3 x,0))) else .exc e)->∀ s,∃ s',zvt asg body (cs.map c3) (R s)=if cs.all p=true then .nx (R s') else .exc e
 | [],_,s=>⟨s,rfl⟩
 | x::r,hb,s=>by
  obtain ⟨s',ih⟩:=zfu hasg r (λ y hy=>hb y (ja1 _ hy)) (some (c3 x,0))
  refine ⟨s',?_⟩
  rw [jc2]
  unfold zvt
  rw [hasg,je2]
  dsimp only
  rw [hb x ja3]
  cases hp:p x with
  | true=>rw [if_pos rfl,jn5];exact ih
  | false=>rw [if_neg jb8,jl1,if_neg jb8]
def zwl (cs:List C3):Bool:=cs.all λ x=>(zvs x).all λ y=>decide (y∈cs)
theorem zbe {cs:List C3}:zwl cs=true↔∀ x∈cs,∀ y∈zvs x,y∈cs:=by
 unfold zwl
 simp only [jc7,decide_eq_true_iff]
theorem zbq {a b c:Nat}{cs:List C3} (hbx:∀ x∈cs,x.1 < a/\x.2.1 < b/\x.2.2 < c) (hl:cs.length<=100000):f_must_be_cubes_of_a_pile [bx a b c,ct cs]=if zwl cs=true then .ok (.non,om,.non) else .exc 2:=by
 have z:=sz
 let R (s2 s3:QQ.Slot):Rho:=[some (bx a b c,0),some (ct cs,0),s2,s3]
 have c1:=zvn (n:=4) (f:=bVar 1) (elt:=zqw f_is_cube_in (zqa (bVar 0) (zqa (bVar 4) (aNil)))) (ρ:=R none none) (ρ1:=R none none) (enc:=c3) (q:=λ _=>.bl true) (d:=0) cs rfl rfl (λ x hx=>by
  obtain ⟨h1,h2,h3⟩:=hbx x hx
  exact zxt (xs:=[(bx a b c,0),(c3 x,0)]) rfl (qb4 h1 h2 h3)) (by omega)
 have c2:=all_ok (g:=λ _=>true) c1
 rw [show (cs.all λ _=>true)=true by simp] at c2
 have t1:=t_ok (qbv (a:=false) (f:=bUn zxj (bUn (zzf "list") (bVar 1))) (ρ:=R none none) (ρ1:=R none none) (d:=om) rfl (λ _=>zyp c2) rfl)
 have v2:sSet false 2 bDct [] (R none none)=.nx (R (some (.dct [],om)) none):=rfl
 obtain ⟨ρ',v3,s3,rfl⟩:=zmk (f:=bVar 1) (vs:=[1]) (asg:=asgN 3) (body:=zbn 2 (bVar 3) (bC (.bl true))) (ρ:=R (some (.dct [],om)) none) (ρ1:=R (some (.dct [],om)) none) (ρ2:=R (some (.dct [],om)) none) (els:=cs.map c3) (d:=0)
  (λ n ρ=>∃ s3,ρ=R (some (.dct (zxx (cs.take n).reverse),om)) s3) rfl rfl ⟨none,by rw [jj0];rfl⟩ (by
   rintro n y ρ hy ⟨s3,rfl⟩
   have hn:n < cs.length:=by
    have:=(ja7.mp hy).1
    rw [ja4] at this
    exact this
   rw [jc6,jb9 hn] at hy
   cases hy
   refine ⟨R (some (.dct (zxx (cs.take n).reverse),om)) (some (c3 cs[n],0)),R (some (.dct (zxx (cs.take (n + 1)).reverse),om)) (some (c3 cs[n],0)),rfl,?_,_,rfl⟩
   have es:(cs.take (n + 1)).reverse=cs[n]::(cs.take n).reverse:=by rw [jl3,jb9 hn];simp
   rw [es]
   have hk:(zxx (cs.take n).reverse).length < va4:=by
    have:=zbu (cs.take n).reverse
    rw [jn0,jd1] at this
    omega
   have hp:putX (.dct (zxx (cs.take n).reverse)) (c3 cs[n]) (.bl true)=some (.dct (zxx (cs[n]::(cs.take n).reverse))):=by
    unfold putX c3
    dsimp only
    rw [qeb]
    show (if (zxx (cs.take n).reverse).length < va4 then some (PV.dct (putK (zxx (cs.take n).reverse) (key3 cs[n]) (.bl true))) else none)=_
    rw [if_pos hk]
    rfl
   unfold zbn
   show (match putX (.dct (zxx (cs.take n).reverse)) (c3 cs[n]) (.bl true) with | some x'=>_ | none=>_)=_
   rw [hp]
   rfl)
 rw [ja4,jj5] at v3
 let S:QQ.Slot:=some (.dct (zxx cs.reverse),om)
 obtain ⟨s',v4⟩:=zfu (asg:=asgN 3) (body:=sIf (bT (bUn zxj (zqb zbo (zqa (zql (zqw f_cubes_needed_by (zqa (bVar 3) (aNil))) 1 (asgN 4) zqp (bBin (opIn false) (bVar 4) (bVar 2))) (aNil))))) (sExc 2) sNil) (R:=R S) (p:=λ x=>(zvs x).all λ y=>decide (y∈cs)) (e:=2) (λ _ _=>rfl) cs (λ x hx=>by
  let Q:Rho:=R S (some (c3 x,0))
  obtain ⟨d,e1⟩:=qdt x
  have hnl:(zvs x).length<=3:=by unfold zvs;rw [ja8,ja8];split <;> split <;> split <;> simp
  have e2:=zvn (n:=4) (f:=zqw f_cubes_needed_by (zqa (bVar 3) (aNil))) (elt:=bBin (opIn false) (bVar 4) (bVar 2)) (ρ:=Q) (ρ1:=Q) (enc:=c3) (q:=λ y=>.bl (decide (y∈cs))) (d:=d) (zvs x) (zxt (xs:=[(c3 x,0)]) rfl e1) rfl (λ y hy=>by
   have g1:=zbv y cs.reverse
   rw [show decide (y∈cs.reverse)=decide (y∈cs) by simp] at g1
   refine zxb (x:=c3 y) (d:=0) (y:=.dct (zxx cs.reverse)) (e:=0) rfl rfl ?_
   unfold opIn c3
   dsimp only
   rw [qeb]
   show some (PV.bl (false^^(valV (zxx cs.reverse) (key3 y)).isSome),om)=_
   rw [g1,jm5]) (by omega)
  have e3:=all_ok (g:=λ y=>decide (y∈cs)) e2
  have e4:=t_ok (zyp e3)
  show sIf _ (sExc 2) sNil Q=_
  rw [qgy e4]
  cases hp:(zvs x).all λ y=>decide (y∈cs) with
  | true=>rfl
  | false=>rfl) s3
 have v5:zki 1 [3] (asgN 3) (sIf (bT (bUn zxj (zqb zbo (zqa (zql (zqw f_cubes_needed_by (zqa (bVar 3) (aNil))) 1 (asgN 4) zqp (bBin (opIn false) (bVar 4) (bVar 2))) (aNil))))) (sExc 2) sNil) (R S s3)=if zwl cs=true then .nx (kill [3] 0 (R S s')) else .exc 2:=by
  show (match zvt (asgN 3) _ (cs.map c3) (R S s3) with | .nx ρ'=>_ | .rt x d ρ'=>_ | .exc c=>_ | _=>_)=_
  rw [v4]
  show (match (if zwl cs=true then Rs.nx (R S s') else .exc 2) with | .nx ρ'=>_ | .rt x d ρ'=>_ | .exc c=>_ | _=>_)=_
  cases zwl cs <;> rfl
 cases hc:zwl cs with
 | true=>
  rw [hc] at v5
  exact qn2 rfl ((zkx t1).trans ((zqc v2).trans ((zqc v3).trans v5)))
 | false=>
  rw [hc] at v5
  exact qa7 rfl ((zkx t1).trans ((zqc v2).trans ((zqc v3).trans v5)))
theorem qjx {a b c:Nat}{cs:List C3} (ha:1<=a/\a<=100) (hb:1<=b/\b<=100) (hc:1<=c) (hbx:∀ x∈cs,x.1 < a/\x.2.1 < b/\x.2.2 < c) (hl:cs.length<=100000):f_pile_of_cubes [bx a b c,ct cs]=if zwl cs=true then .ok (tb (mxA cs (zwv a b)),om,.non) else .exc 2:=by
 have z:=sz
 let R (s2 s3 s4 s5 s6 s7 s8:QQ.Slot):Rho:=[some (bx a b c,0),some (ct cs,0),s2,s3,s4,s5,s6,s7,s8]
 have bb:boxB a b c=true:=by unfold boxB;rw [decide_eq_true (by omega),decide_eq_true (by omega),decide_eq_true (by omega)];rfl
 have v1:zzx (zqw f_must_be_box (zqa (bVar 0) (aNil))) (R none none none none none none none)=.nx (R none none none none none none none):=zhp (zxt (xs:=[(bx a b c,0)]) rfl (zjt bb))
 have m:=zbq hbx hl
 cases hcl:zwl cs with
 | false=>
  rw [hcl,if_neg jb8] at m
  rw [if_neg jb8]
  exact qa7 rfl ((zqc v1).trans (zhb (qba (zmv (xs:=[(bx a b c,0),(ct cs,0)]) rfl m))))
 | true=>
  rw [hcl,if_pos rfl] at m
  rw [if_pos rfl]
  have v2:zzx (zqw f_must_be_cubes_of_a_pile (zqa (bVar 0) (zqa (bVar 1) (aNil)))) (R none none none none none none none)=.nx (R none none none none none none none):=zhp (zxt (xs:=[(bx a b c,0),(ct cs,0)]) rfl m)
  let S (s5 s6 s7 s8:QQ.Slot):Rho:=R (some (.int (a:Int),om)) (some (.int (b:Int),om)) (some (.int (c:Int),om)) s5 s6 s7 s8
  have v3:sUnp (asgT [2,3,4]) (bVar 0) [0] (R none none none none none none none)=.nx (S none none none none):=rfl
  have e1:=zmr (n:=9) (en:=zqx) (fa:=zqa (bVar 2) (aNil)) (elt:=bBin zxs (zqb zqh (zqa (bC (.int 0)) (aNil))) (bVar 3)) (ρ:=S none none none none) (ρ1:=S none none none none) (as:=[(.int (a:Int),om)]) (lo:=0) (hi:=(a:Int)) (q:=λ _=>il (ja5 b 0)) rfl (zwi (by omega) (by omega)) rfl (λ k hk=>qh1 (v:=0) (n:=b) (d:=om) (e:=om) rfl rfl (by omega)) (by omega)
  have e2:PV.lst ((jd0 ((a:Int) - 0).toNat).map λ _=>il (ja5 b 0))=tb (zwv a b):=by
   unfold tb zwv
   rw [show ((a:Int) - 0).toNat=a by omega,List.map_replicate,jo9,jf3]
  rw [e2] at e1
  let T (u:List (List Int)) (s6 s7 s8:QQ.Slot):Rho:=S (some (tb u,om)) s6 s7 s8
  have v4:sSet false 5 (zxv zqx (zqa (bVar 2) (aNil)) 1 (asgN 9) zqp (bBin zxs (zqb zqh (zqa (bC (.int 0)) (aNil))) (bVar 3))) [3] (S none none none none)=.nx (T (zwv a b) none none none):=setF e1 (show 5 < 9 by decide) rfl
  obtain ⟨ρ',v5,s6,s7,s8,rfl⟩:=zmk (f:=bVar 1) (vs:=[1]) (asg:=asgT [6,7,8]) (body:=zpy 5 (bVar 6) (bVar 7) (zqb zyu (zqa (bBin zqj (bBin zqj (bVar 5) (bVar 6)) (bVar 7)) (zqa (bBin zqf (bVar 8) (bC (.int 1))) (aNil))))) (ρ:=T (zwv a b) none none none) (ρ1:=T (zwv a b) none none none) (ρ2:=T (zwv a b) none none none) (els:=cs.map c3) (d:=0)
   (λ n ρ=>∃ s6 s7 s8,ρ=T (mxA (cs.take n) (zwv a b)) s6 s7 s8) rfl rfl ⟨none,none,none,by rw [jj0];rfl⟩ (by
    rintro n y ρ hy ⟨s6,s7,s8,rfl⟩
    have hn:n < cs.length:=by
     have:=(ja7.mp hy).1
     rw [ja4] at this
     exact this
    rw [jc6,jb9 hn] at hy
    cases hy
    have hx:=hbx cs[n] (jg0 hn)
    have ht:=zmg (zkd a b) (cs:=cs.take n) λ x hx=>⟨(hbx x (jm4 hx)).1,(hbx x (jm4 hx)).2.1⟩
    let Q (u:List (List Int)):Rho:=T u (some (.int (cs[n].1:Int),om)) (some (.int (cs[n].2.1:Int),om)) (some (.int (cs[n].2.2:Int),om))
    refine ⟨Q (mxA (cs.take n) (zwv a b)),Q (mxA (cs.take (n + 1)) (zwv a b)),rfl,?_,_,_,_,rfl⟩
    have es:cs.take (n + 1)=cs.take n++[cs[n]]:=by rw [jl3,jb9 hn];rfl
    rw [es,qgo]
    have i1:=zhl (f:=bVar 5) (h:=bVar 6) (k:=bVar 7) (ρ:=Q (mxA (cs.take n) (zwv a b))) (i:=cs[n].1) (j:=cs[n].2.1) ht (d:=0) rfl rfl rfl hx.1 hx.2.1
    have i2:=zwo (f:=bVar 8) (g:=bC (.int 1)) (ρ:=Q (mxA (cs.take n) (zwv a b))) (i:=(cs[n].2.2:Int)) (j:=1) (d:=om) (e:=om) rfl rfl
    have i3:=zqu (op:=zyu) (zxk i1 (zqq i2)) rfl
    exact qc8 (x:=tb (mxA (cs.take n) (zwv a b))) (a:=(cs[n].1:Int)) (b:=(cs[n].2.1:Int)) i3 rfl rfl rfl (qc6 (by rw [ht.1];exact hx.1) (by rw [ht.row hx.1];exact hx.2.1)) rfl rfl)
  rw [ja4,jj5] at v5
  exact zyg rfl ((zqc v1).trans ((zqc v2).trans ((zqc v3).trans ((zqc v4).trans ((zqc v5).trans rfl)))))
theorem zjs {x y:C3}:y∈zvs x↔(y.1 + 1=x.1/\y.2.1=x.2.1/\y.2.2=x.2.2)\/(y.1=x.1/\y.2.1 + 1=x.2.1/\y.2.2=x.2.2)\/(y.1=x.1/\y.2.1=x.2.1/\y.2.2 + 1=x.2.2):=by
 obtain ⟨i,j,k⟩:=x
 obtain ⟨i',j',k'⟩:=y
 unfold zvs
 simp only [jc4]
 constructor
 ·rintro ((h | h) | h)
  ·split at h
   ·simp only [jb6,vc4] at h;omega
   ·cases h
  ·split at h
   ·simp only [jb6,vc4] at h;omega
   ·cases h
  ·split at h
   ·simp only [jb6,vc4] at h;omega
   ·cases h
 ·rintro (⟨h1,h2,h3⟩ | ⟨h1,h2,h3⟩ | ⟨h1,h2,h3⟩)
  ·left;left
   rw [if_pos (by (clear h3 h2;omega)),jb6,vc4,vc4];omega
  ·left;right
   rw [if_pos (by (clear h3 h1;omega)),jb6,vc4,vc4];omega
  ·right
   rw [if_pos (by (clear h2 h1;omega)),jb6,vc4,vc4];omega
abbrev Z3:=Int×Int×Int
def z3 (z:Z3):PV:=.tup [.int z.1,.int z.2.1,.int z.2.2]
def toZ (x:C3):Z3:=((x.1:Int),(x.2.1:Int),(x.2.2:Int))
def setV (t:List (List Int)) (i j:Nat) (v:Int):List (List Int):=t.set i ((t.getD i []).set j v)
theorem qfy {a b:Nat}{t:List (List Int)} (ht:Tab a b t) {i j:Nat}{v:Int} (hi:i < a):Tab a b (setV t i j v):=by
 refine ⟨by unfold setV;rw [jc0,ht.1],λ r hr=>?_⟩
 rcases jl4 hr with h | h
 ·exact ht.2 r h
 ·rw [h,jc0,ht.row hi]
theorem qfz {a b:Nat}{t:List (List Int)} (ht:Tab a b t) {i j x y:Nat}{v:Int} (hi:i < a) (hj:j < b):g (setV t i j v) x y=if x=i/\y=j then v else g t x y:=by
 show ((t.set i ((t.getD i []).set j v)).getD x []).getD y 0=_
 by_cases h:x=i
 ·rw [h,zwq (by rw [ht.1];exact hi)]
  by_cases h2:y=j
  ·rw [if_pos ⟨rfl,h2⟩,h2,zwq (by rw [ht.row hi];exact hj)]
  ·rw [if_neg (λ z=>h2 z.2),zzm (λ e=>h2 e.symm)];rfl
 ·rw [if_neg (λ z=>h z.1),zzm (λ e=>h e.symm)];rfl
def LJ:Fs:=(sSeq (sIf (bT (bUn zxj (bUn (zzf "list") (bVar 2)))) (sRet (bC (.bl false))) sNil)
 (sIf (bT (bBin (opEq true) (zql (bVar 2) 1 (asgN 3) (bT (bOrV (bUn zxj (bUn (zzf "int") (bVar 3))) (bUn (zzf "bool") (bVar 3)))) (bVar 3)) (zqb zqh (aNil)))) (sRet (bC (.bl false))) sNil))
theorem qki {a b:Nat}{t:List (List Int)} (ht:Tab a b t) (ha:a<=1000) (hb:b<=1000):a_just [tb t,tb t]=.ok (.bl true,om,.non):=by
 have z:=sz
 let R (s2:QQ.Slot):Rho:=[some (tb t,0),some (tb t,0),s2]
 have t1:=t_ok (qbv (a:=false) (f:=bUn zxj (bUn (zzf "list") (bVar 0))) (ρ:=R none) (ρ1:=R none) (d:=om) rfl (λ _=>qpk (neg:=true) (f:=bVar 0) (h:=bVar 1) (t:=t) (u:=t) (d:=0) (e:=0) rfl rfl) rfl)
 rw [decide_eq_true rfl] at t1
 obtain ⟨ρ',e2,s2,rfl⟩:=qg9 (i0:=0) (is:=[2]) (asg:=asgN 2) (body:=LJ) (ρ:=R none) (els:=t.map il) (d:=0) (λ _ ρ=>∃ s2,ρ=R s2) rfl ⟨_,rfl⟩ (by
  rintro j y ρ hy ⟨s2,rfl⟩
  obtain ⟨r,hr,rfl⟩:=jd6.mp (jm2 hy)
  let Q:Rho:=R (some (il r,0))
  have u1:bT (bUn zxj (bUn (zzf "list") (bVar 2))) Q=.ok (false,Q):=by kernel_rfl
  have u2:=qhi (n:=3) (f:=bVar 2) (elt:=bVar 3) (test:=bT (bOrV (bUn zxj (bUn (zzf "int") (bVar 3))) (bUn (zzf "bool") (bVar 3)))) (ρ:=Q) (ρ1:=Q) (enc:=PV.int) (q:=PV.int) (p:=λ _=>false) (d:=0) r rfl rfl (λ x _=>by kernel_rfl) (λ x _ h=>nomatch h) (by rw [ht.2 r hr];omega)
  have u3:(r.filter λ _=>false)=[]:=List.filter_eq_nil_iff.mpr λ _ _=>jb8
  rw [u3] at u2
  have u4:=t_ok (qn6 (neg:=true) (xs:=[]) (ys:=[]) u2 (h:=zqb zqh (aNil)) (e:=om) rfl)
  rw [decide_eq_true rfl] at u4
  exact ⟨Q,Q,rfl,(zkx u1).trans ((if_f u4).trans rfl),_,rfl⟩)
 have e3:kill [2] 0 (R s2)=R none:=rfl
 rw [e3] at e2
 exact zyg rfl ((zkx t1).trans ((zqc e2).trans rfl))
theorem zpr (k:Int):∀ {t:List (List Int)},(∀ r∈t,r.length<=1000)->zzc k (t.map il)=some (t.map λ r=>il (r++[k]))
 | [],_=>rfl
 | r::t,h=>by
  have z:=sz
  rw [jc2]
  show (if (r.map PV.int).length < va4 then (zzc k (t.map il)).map (PV.lst (r.map PV.int++[.int k])::·) else none)=_
  rw [if_pos (by rw [ja4];have:=h r ja3;omega),zpr k λ q hq=>h q (ja1 _ hq),qek]
  rfl
def Xown:Fs:=(sSeq (sSet false 1 (zql (bVar 0) 1 (asgN 3) zqp (zqb zxd (zqa (bVar 3) (aNil)))) [0,0])
 (sSeq (qbr 0 2 0)
 (sRet (bBin (opEq false) (zql (bVar 0) 1 (asgN 3) zqp (bBin zwa (zqb zxd (zqa (bVar 3) (aNil))) (bC (.int 1)))) (bVar 1)))))
theorem qm4 {a b:Nat}{t:List (List Int)} (ht:Tab a b t) (ha:a<=100) (hb:b<=100):qbx 2 Xown [tb t]=.ok (.bl true,om,.non):=by
 have z:=sz
 have e1:∀ (u:List (List Int)) (s1 s2:QQ.Slot),u.length<=1000->zql (bVar 0) 1 (asgN 3) zqp (zqb zxd (zqa (bVar 3) (aNil))) [some (tb u,om),s1,s2]=.ok (il (u.map λ (r:List Int)=>(r.length:Int)),om,[some (tb u,om),s1,s2]):=λ u s1 s2 hu=>by
  rw [zvn (n:=3) (f:=bVar 0) (ρ:=[some (tb u,om),s1,s2]) (ρ1:=[some (tb u,om),s1,s2]) (enc:=il) (q:=λ (r:List Int)=>.int (r.length:Int)) (d:=0) u rfl rfl (λ r _=>qid (xs:=r) (d:=0) rfl) (by omega)]
  unfold il
  rw [jd7]
  rfl
 let sz1:=il (t.map λ (r:List Int)=>(r.length:Int))
 have s1:sSet false 1 (zql (bVar 0) 1 (asgN 3) zqp (zqb zxd (zqa (bVar 3) (aNil)))) [0,0] [some (tb t,om),none,none]=.nx [some (tb t,om),some (sz1,om),none]:=setF (e1 t none none (by rw [ht.1];omega)) (show 1 < 3 by decide) rfl
 let t':List (List Int):=t.map λ r=>r++[0]
 let R:Rho:=[some (tb t',om),some (sz1,om),none]
 have s2:qbr 0 2 0 [some (tb t,om),some (sz1,om),none]=.nx R:=by
  have ea:=zpr 0 (t:=t) λ r hr=>by rw [ht.2 r hr];omega
  have eb:(t.map λ r=>il (r++[0]))=t'.map il:=by
   show _=(t.map λ r=>r++[0]).map il
   rw [jd7]
   rfl
  rw [eb] at ea
  show (match zzc 0 (t.map il) with | some rows'=>if om=om/\2 < 3 then Rs.nx ((kill [2] 0 [some (tb t,om),some (sz1,om),none]).set 0 (some (.lst rows',om))) else .no | none=>.no)=_
  rw [ea]
  rfl
 have e2:zql (bVar 0) 1 (asgN 3) zqp (bBin zwa (zqb zxd (zqa (bVar 3) (aNil))) (bC (.int 1))) R=.ok (sz1,om,R):=by
  rw [zvn (n:=3) (f:=bVar 0) (ρ:=R) (ρ1:=R) (enc:=il) (q:=λ (r:List Int)=>.int ((r.length:Int) - 1)) (d:=0) t' rfl rfl (λ r _=>zbx (qid (xs:=r) (d:=0) rfl) (j:=1) rfl) (by show (t.map _).length<=va4;rw [ja4,ht.1];omega)]
  have:t'.map (λ (r:List Int)=>PV.int ((r.length:Int) - 1))=(t.map λ (r:List Int)=>(r.length:Int)).map PV.int:=by
   show (t.map λ r=>r++[0]).map _=_
   rw [jd7,jd7]
   refine ji1 λ r _=>?_
   show PV.int (((r++[0]).length:Int) - 1)=PV.int (r.length:Int)
   rw [ja8,jc8]
   congr 1
   omega
  rw [this]
  rfl
 have e3:=qn6 (neg:=false) e2 (h:=bVar 1) (ys:=t.map λ (r:List Int)=>(r.length:Int)) (e:=0) rfl
 rw [decide_eq_true rfl] at e3
 exact qn1 ((zqc s1).trans ((zqc s2).trans (zkj e3)))
theorem zfv {asg:PV->Rho->Option Rho}{body:Fs} (ok:PV->Bool) (I:Rho->Prop):∀ (els:List PV) (ρ:Rho),I ρ->(∀ x∈els,∀ ρ,I ρ->∃ ρ1,asg x ρ=some ρ1/\((ok x=true/\∃ ρ2,body ρ1=.nx ρ2/\I ρ2)\/(ok x=false/\∃ ρ2,body ρ1=.rt (.bl false) om ρ2))) ->
  (els.all ok=true/\∃ ρ',zvt asg body els ρ=.nx ρ'/\I ρ')\/(els.all ok=false/\∃ ρ',zvt asg body els ρ=.rt (.bl false) om ρ')
 | [],ρ,h,_=>.inl ⟨rfl,ρ,rfl,h⟩
 | x::xs,ρ,h,hb=>by
  obtain ⟨ρ1,e1,⟨hx,ρ2,e2,h2⟩ | ⟨hx,ρ2,e2⟩⟩:=hb x ja3 ρ h
  ·rcases zfv ok I xs ρ2 h2 (λ y hy=>hb y (ja1 _ hy)) with ⟨ha,ρ',e,h'⟩ | ⟨ha,ρ',e⟩
   ·exact .inl ⟨by rw [je2,hx,ha];rfl,ρ',by unfold zvt;rw [e1];dsimp only;rw [e2];exact e,h'⟩
   ·exact .inr ⟨by rw [je2,ha,jp4],ρ',by unfold zvt;rw [e1];dsimp only;rw [e2];exact e⟩
  ·exact .inr ⟨by rw [je2,hx,jl1],ρ2,by unfold zvt;rw [e1];dsimp only;rw [e2]⟩
theorem qha {i0:Nat}{is:List Nat}{asg:PV->Rho->Option Rho}{body:Fs}{ρ:Rho}{els:List PV}{d:Nat} (ok:PV->Bool) (I:Rho->Prop) (hf:ρ[i0]?=some (some (.lst els,d))) (h0:I ρ) (hb:∀ x∈els,∀ ρ,I ρ->∃ ρ1,asg x ρ=some ρ1/\((ok x=true/\∃ ρ2,body ρ1=.nx ρ2/\I ρ2)\/(ok x=false/\∃ ρ2,body ρ1=.rt (.bl false) om ρ2))):
  (els.all ok=true/\∃ ρ',zki i0 is asg body ρ=.nx (kill is 0 ρ')/\I ρ')\/(els.all ok=false/\∃ ρ',zki i0 is asg body ρ=.rt (.bl false) om ρ'):=by
 rcases zfv ok I els ρ h0 hb with ⟨ha,ρ',e,h'⟩ | ⟨ha,ρ',e⟩
 ·exact .inl ⟨ha,ρ',by unfold zki;rw [hf];dsimp only;rw [e],h'⟩
 ·exact .inr ⟨ha,kill is 0 ρ',by unfold zki;rw [hf];dsimp only;rw [e]⟩
def Val (ρ:Rho) (j:Nat) (x:PV):Prop:=∃ d,ρ[j]?=some (some (x,d))
theorem Val.var {ρ:Rho}{j:Nat}{x:PV} (h:Val ρ j x):bVar j ρ=.ok (x,dv x,ρ):=by
 obtain ⟨d,e⟩:=h
 unfold bVar
 rw [e]
theorem zkq {d:Nat}{vs:List Nat}{ρ:Rho}:(zqr d vs ρ).length=ρ.length:=by
 unfold zqr
 split
 ·rfl
 ·exact zjf vs ρ 0
theorem zwz {d j:Nat}{vs:List Nat}{ρ:Rho} (h:vs.contains j=false):(zqr d vs ρ)[j]?=ρ[j]?:=by
 unfold zqr
 split
 ·rfl
 ·rw [zvm,jh0,h]
  cases ρ[j]? with
  | none=>rfl
  | some s=>rfl
theorem Val.cool {ρ:Rho}{j d:Nat}{x:PV}{vs:List Nat} (h:Val ρ j x):Val (zqr d vs ρ) j x:=by
 obtain ⟨e,he⟩:=h
 unfold zqr
 split
 ·exact ⟨e,he⟩
 ·rw [Val,zvm,he]
  dsimp only [jq4]
  split
  ·exact ⟨0,rfl⟩
  ·exact ⟨e,rfl⟩
theorem Val.set {ρ:Rho}{j k:Nat}{x:PV}{s:QQ.Slot} (h:Val ρ j x) (hk:k≠j):Val (ρ.set k s) j x:=by
 obtain ⟨d,e⟩:=h
 exact ⟨d,by rw [ja0 hk];exact e⟩
theorem Val.here {ρ:Rho}{k d:Nat}{x:PV} (h:k < ρ.length):Val (ρ.set k (some (x,d))) k x:=⟨d,jb1 h⟩
theorem qjh {i d:Nat}{f:Fx}{vs:List Nat}{ρ ρ1:Rho}{x:PV} (h:f ρ=.ok (x,d,ρ1)) (hc:i < ρ1.length):sSet false i f vs ρ=.nx ((zqr d vs ρ1).set i (some (x,d))):=setF h hc rfl
end QV
namespace K04
open PySem PySem.Spec PyProof.Rows L2 QQ
abbrev GT:=List (Str×(Bool×Nat×Fn))
abbrev mS (N:List Str) (t:Stmt) (m:List Nat) (G:GT):Sx:=⟨N,zqe t,m,[],G,[],true,[0,1,2,3,4,5,6,7,8,9,10,11],[]⟩
def G0:GT:=[]
def S0:=mS ["thing"] t0 [] G0
abbrev b0:Fs:=QV.Xf_is_whole_number
abbrev F0:Fn:=QV.f_is_whole_number
theorem h0:zqs (denS 60 S0) (zqo t0)=some b0:=by kernel_rfl
def G1:GT:=[("is_whole_number",(false,1,F0))]
def S1:=mS ["thing"] t1 [] G1
abbrev b1:Fs:=QV.Xf_is_box
abbrev F1:Fn:=QV.f_is_box
theorem h1:zqs (denS 60 S1) (zqo t1)=some b1:=by kernel_rfl
def G2:GT:=[("is_box",(false,1,F1))]
def S2:=mS ["box"] t2 [] G2
abbrev b2:Fs:=QV.Xf_must_be_box
abbrev F2:Fn:=QV.f_must_be_box
theorem h2:zqs (denS 60 S2) (zqo t2)=some b2:=by kernel_rfl
def G3:GT:=[("is_whole_number",(false,1,F0))]
def S3:=mS ["box","thing"] t3 [] G3
abbrev b3:Fs:=QV.Xf_is_cube_in
abbrev F3:Fn:=QV.f_is_cube_in
theorem h3:zqs (denS 60 S3) (zqo t3)=some b3:=by kernel_rfl
def G4:GT:=[]
def S4:=mS ["cube","i","j","k","nearer"] t4 [] G4
abbrev b4:Fs:=QV.Xf_cubes_needed_by
abbrev F4:Fn:=QV.f_cubes_needed_by
theorem h4:zqs (denS 60 S4) (zqo t4)=some b4:=by kernel_rfl
def G5:GT:=[("is_cube_in",(false,2,F3)),("cubes_needed_by",(false,1,F4))]
def S5:=mS ["box","cubes","there","cube"] t5 [] G5
abbrev b5:Fs:=QV.Xf_must_be_cubes_of_a_pile
abbrev F5:Fn:=QV.f_must_be_cubes_of_a_pile
theorem h5:zqs (denS 60 S5) (zqo t5)=some b5:=by kernel_rfl
def G6:GT:=[("must_be_box",(false,1,F2)),("must_be_cubes_of_a_pile",(false,2,F5))]
def S6:=mS ["box","cubes","rows","columns","height","pile","i","j","k"] t6 [] G6
abbrev b6:Fs:=QV.Xf_pile_of_cubes
abbrev F6:Fn:=QV.f_pile_of_cubes
theorem h6:zqs (denS 60 S6) (zqo t6)=some b6:=by kernel_rfl
def G7:GT:=[]
def S7:=mS ["script","k","cell"] t7 [] G7
abbrev b7:Fs:=QV.Xa_pool
abbrev F7:Fn:=QV.a_pool
theorem h7:zqs (denS 60 S7) (zqo t7)=some b7:=by kernel_rfl
def G8:GT:=[]
def S8:=mS ["pool","many","found","step","mark"] t8 [0] G8
abbrev b8:Fs:=QV.Xa_take
abbrev F8:Fn:=QV.a_take
theorem h8:zqs (denS 60 S8) (zqo t8)=some b8:=by kernel_rfl
def G9:GT:=[("_law_take",(true,2,F8))]
def S9:=mS ["pool","most"] t9 [0] G9
abbrev b9:Fs:=QV.Xa_box
abbrev F9:Fn:=QV.a_box
theorem h9:zqs (denS 60 S9) (zqo t9)=some b9:=by kernel_rfl
def G10:GT:=[("_law_take",(true,2,F8))]
def S10:=mS ["pool","box","rows","columns","height","kind","found","i","row","j","most","some"] t10 [0] G10
abbrev b10:Fs:=QV.Xa_pile
abbrev F10:Fn:=QV.a_pile
theorem h10:zqs (denS 60 S10) (zqo t10)=some b10:=by kernel_rfl
def G11:GT:=[]
def S11:=mS ["pile"] t11 [] G11
abbrev b11:Fs:=QV.Xa_copied
abbrev F11:Fn:=QV.a_copied
theorem h11:zqs (denS 60 S11) (zqo t11)=some b11:=by kernel_rfl
def G12:GT:=[]
def S12:=mS ["found","due","row"] t12 [] G12
abbrev b12:Fs:=QV.Xa_just
abbrev F12:Fn:=QV.a_just
theorem h12:zqs (denS 60 S12) (zqo t12)=some b12:=by kernel_rfl
def G13:GT:=[]
def S13:=mS ["found","sizes","row"] t13 [] G13
def b13:Fs:=(sSeq (sSet false 1 (zql (bVar 0) 1 (asgN 3) zqp (zqb zxd (zqa (bVar 3) (aNil)))) [0,0])
 (sSeq (qbr 0 2 0)
 (sRet (bBin (opEq false) (zql (bVar 0) 1 (asgN 3) zqp (bBin zwa (zqb zxd (zqa (bVar 3) (aNil))) (bC (.int 1)))) (bVar 1)))))
def F13:Fn:=qbx 2 b13
theorem h13:zqs (denS 60 S13) (zqo t13)=some b13:=by kernel_rfl
def G14:GT:=[]
def S14:=mS ["caught","due","kinds"] t14 [] G14
abbrev b14:Fs:=QV.Xa_is
abbrev F14:Fn:=QV.a_is
theorem h14:zqs (denS 60 S14) (zqo t14)=some b14:=by kernel_rfl
def G15:GT:=[]
def S15:=mS ["pile","found","i","j"] t15 [] G15
def b15:Fs:=(sSeq (sSet false 1 (zqb zqh (aNil)) [])
 (sSeq (zza zqx (zqa (zqb zxd (zqa (bVar 0) (aNil))) (aNil)) (asgN 2) (zza zqx (zqa (zqb zxd (zqa (bBin zqj (bVar 0) (bVar 2)) (aNil))) (aNil)) (asgN 3) (sSet false 1 (bBin zqf (bVar 1) (zxv zqx (zqa (bBin zqj (bBin zqj (bVar 0) (bVar 2)) (bVar 3)) (aNil)) 1 (asgN 4) zqp (zqb zxz (zqa (bVar 2) (zqa (bVar 3) (zqa (bVar 4) (aNil))))))) [1,2,3])))
 (zbm 1)))
def F15:Fn:=mkFn false 1 3 b15
theorem h15:zqs (denS 60 S15) (zqo t15)=some b15:=by kernel_rfl
def G16:GT:=[]
def S16:=mS ["box","cubes","there","cube","heights","i","j","k","lower"] t16 [] G16
def b16:Fs:=(sSeq (sSet false 2 bDct [])
 (sSeq (zzw (bVar 1) [1] (asgN 3) (zbn 2 (bVar 3) (bC (.bl true))))
 (sSeq (sSet false 4 (zxv zqx (zqa (bBin zqj (bVar 0) (bC (.int 0))) (aNil)) 1 (asgN 9) zqp (bBin zxs (zqb zqh (zqa (bC (.int 0)) (aNil))) (bBin zqj (bVar 0) (bC (.int 1))))) [0])
 (sSeq (zzw (zqb zzu (zqa (bVar 2) (aNil))) [2] (asgT [5,6,7]) (sSeq (sIf (bT (bOrV (bBin (zwb λ i j=>decide (i < j)) (zqb zws (zqa (bVar 5) (zqa (bVar 6) (zqa (bVar 7) (aNil))))) (bC (.int 0))) (bOrV (bBin (zwb λ i j=>decide (j<=i)) (bVar 5) (bBin zqj (bVar 0) (bC (.int 0)))) (bOrV (bBin (zwb λ i j=>decide (j<=i)) (bVar 6) (bBin zqj (bVar 0) (bC (.int 1)))) (bBin (zwb λ i j=>decide (j<=i)) (bVar 7) (bBin zqj (bVar 0) (bC (.int 2)))))))) (sRet (bC .non)) sNil)
 (sSeq (zzw (zqb zqh (zqa (zqb zxz (zqa (bBin zwa (bVar 5) (bC (.int 1))) (zqa (bVar 6) (zqa (bVar 7) (aNil))))) (zqa (zqb zxz (zqa (bVar 5) (zqa (bBin zwa (bVar 6) (bC (.int 1))) (zqa (bVar 7) (aNil))))) (zqa (zqb zxz (zqa (bVar 5) (zqa (bVar 6) (zqa (bBin zwa (bVar 7) (bC (.int 1))) (aNil))))) (aNil))))) [5,6,7,5,6,7,5,6,7] (asgN 8) (sIf (bT (zzv (bBin (zwb λ i j=>decide (j<=i)) (zqb zws (zqa (bVar 8) (aNil))) (bC (.int 0))) (bBin (opIn true) (bVar 8) (bVar 2)))) (sRet (bC .non)) sNil))
 (zpy 4 (bVar 5) (bVar 6) (bBin zqf (bBin zqj (bBin zqj (bVar 4) (bVar 5)) (bVar 6)) (bC (.int 1)))))))
 (zbm 4)))))
def F16:Fn:=mkFn false 2 7 b16
theorem h16:zqs (denS 60 S16) (zqo t16)=some b16:=by kernel_rfl
def G17:GT:=[("pile_of_cubes",(false,2,F6)),("_law_just",(false,2,F12)),("_law_is",(false,2,F14)),("_law_due",(false,2,F16))]
def S17:Sx:=⟨["box","cubes","due","again","handed","caught","found","e"],zqe t17,[6],[],G17,[("_law_own",F13)],true,[0,1,2,3,4,5,6,7,8,9,10,11],[]⟩
def b17:Fs:=(sSeq (sSet false 2 (zqw F16 (zqa (bVar 0) (zqa (bVar 1) (aNil)))) [0,1])
 (sSeq (zza zqx (zqa (bC (.int 2)) (aNil)) (asgN 3) (sSeq (sSet false 4 (zqb zzu (zqa (bVar 1) (aNil))) [1])
 (sSeq (sSet false 5 (bC .non) [])
 (sSeq (sSet true 6 (bC .non) [])
 (sSeq (sTry 0 5 7 [6] (sSet true 6 (zqw F6 (zqa (bVar 0) (zqa (bVar 4) (aNil)))) [0,4]))
 (sSeq (sIf (bT (bBin (opEq true) (bVar 4) (bVar 1))) (sRet (bC (.bl false))) sNil)
 (sIf (bT (bBin (opIs false) (bVar 2) (bC .non))) (sIf (bT (bUn zxj (zqw F14 (zqa (bVar 5) (zqa (bC (.int 1)) (aNil)))))) (sRet (bC (.bl false))) sNil) (sIf (bT (bOrV (bBin (opIs true) (bVar 5) (bC .non)) (bOrV (bUn zxj (zvd F12 6 (zqa (bVar 2) (aNil)))) (bUn zxj (zve F13 6))))) (sRet (bC (.bl false))) sNil))))))))
 (sRet (bC (.bl true)))))
def F17:Fn:=mkFn false 2 6 b17
theorem h17:zqs (denS 60 S17) (zqo t17)=some b17:=by kernel_rfl
def G18:GT:=[("_law_pool",(false,2,F7)),("_law_take",(true,2,F8)),("_law_box",(true,2,F9)),("_law_pile",(true,2,F10)),("_law_cubes",(false,1,F15)),("_law_right",(false,2,F17))]
def S18:=mS ["script","k","pool","box","left","cubes","at","inside","far","way","beyond","below","lacking","rows","some","turn"] t18 [2] G18
def b18:Fs:=(sSeq (zza zqx (zqa (zqb zyu (zqa (bC (.int 1)) (zqa (zqb zws (zqa (bC (.int 6)) (zqa (zqb zxd (zqa (bVar 0) (aNil))) (aNil)))) (aNil)))) (aNil)) (asgN 1) (sSeq (sSet true 2 (zqw F7 (zqa (bVar 0) (zqa (bVar 1) (aNil)))) [0,1])
 (sSeq (sSet false 3 (zqd F9 2 (zqa (bC (.int 6)) (aNil))) [])
 (sSeq (sSet false 4 (zqw F15 (zqa (zqd F10 2 (zqa (bVar 3) (aNil))) (aNil))) [3])
 (sSeq (sSet false 5 (zqb zqh (aNil)) [])
 (sSeq (qc2 (bT (bBin (opEq true) (bVar 4) (zqb zqh (aNil)))) (zkz 5 4 (zqd F8 2 (zqa (zqb zxd (zqa (bVar 4) (aNil))) (aNil)))))
 (sSeq (sSet false 6 (zqd F8 2 (zqa (bBin zqf (zqb zxd (zqa (bVar 5) (aNil))) (bC (.int 1))) (aNil))) [5])
 (sSeq (sSet false 7 (zqb zze (zqa (zql (bVar 3) 1 (asgN 16) zqp (zqd F8 2 (zqa (bVar 16) (aNil)))) (aNil))) [3,3])
 (sSeq (sSet false 8 (bBin zqj (zqb zqh (zqa (bC (.int 0)) (zqa (bC (.int 0)) (zqa (zqd F8 2 (zqa (bBin zmc (bC (.int 10)) (bC (.int 30))) (aNil))) (aNil))))) (zqd F8 2 (zqa (bC (.int 3)) (aNil)))) [])
 (sSeq (sSet false 9 (zqd F8 2 (zqa (bC (.int 3)) (aNil))) [])
 (sSeq (sSet false 10 (bBin zqf (bBin zqf (bSl (bVar 7) none (some (bVar 9))) (zqb zxz (zqa (bBin zqf (bBin zqj (bVar 3) (bVar 9)) (bVar 8)) (aNil)))) (bSl (bVar 7) (some (bBin zqf (bVar 9) (bC (.int 1)))) none)) [7,3,9,8,7])
 (sSeq (sSet false 11 (bBin zqf (bBin zqf (bSl (bVar 7) none (some (bVar 9))) (zqb zxz (zqa (bBin zwa (bUn zyd (bC (.int 1))) (bVar 8)) (aNil)))) (bSl (bVar 7) (some (bBin zqf (bVar 9) (bC (.int 1)))) none)) [7,8,7])
 (sSeq (sSet false 12 (bBin zqf (bSl (bVar 5) none (some (bVar 6))) (bSl (bVar 5) (some (bBin zqf (bVar 6) (bC (.int 1)))) none)) [5,5])
 (sSeq (sSet false 13 (zqb zqh (zqa (bVar 5) (zqa (bBin zqf (bVar 5) (bSl (bVar 5) none (some (bVar 6)))) (zqa (bVar 12) (zqa (bBin zqf (bVar 5) (zqb zqh (zqa (bVar 7) (aNil)))) (zqa (bBin zqf (bBin zqf (bSl (bVar 5) none (some (bVar 6))) (zqb zqh (zqa (bVar 10) (aNil)))) (bSl (bVar 5) (some (bVar 6)) none)) (aNil))))))) [5,5,5,12,5,7,5,10,5])
 (sSeq (sSet false 13 (bBin zyo (bVar 13) (zqb zqh (zqa (bBin zqf (bBin zqf (bSl (bVar 5) none (some (bVar 6))) (zqb zqh (zqa (bVar 11) (aNil)))) (bSl (bVar 5) (some (bVar 6)) none)) (zqa (zqb zqh (zqa (bVar 7) (aNil))) (zqa (zqb zqh (aNil)) (zqa (zqb zqh (zqa (zqb zxz (zqa (bC (.int 0)) (zqa (bC (.int 0)) (zqa (bC (.int 0)) (aNil))))) (aNil))) (zqa (zqb zqh (zqa (bVar 7) (zqa (bVar 7) (aNil)))) (aNil)))))))) [13,5,11,5,7,7,7])
 (sSeq (sSet false 13 (bBin zyo (bVar 13) (zqb zqh (zqa (bBin zqf (bVar 12) (bVar 12)) (zqa (bBin zqf (bVar 12) (zqb zqh (zqa (bVar 7) (aNil)))) (zqa (zqb zqh (zqa (zqb zze (zqa (zql (bVar 3) 1 (asgN 16) zqp (bBin zwa (bVar 16) (bC (.int 1)))) (aNil))) (aNil))) (aNil)))))) [13,12,12,12,7,3,3])
 (sSeq (sSet false 14 (zqb zqh (aNil)) [])
 (sSeq (zza zqx (zqa (bBin zqf (bC (.int 1)) (zqd F8 2 (zqa (bC (.int 12)) (aNil)))) (aNil)) (asgN 15) (sApp 14 (zqb zze (zqa (zql (bVar 3) 1 (asgN 16) zqp (bBin zwa (zqd F8 2 (zqa (zqb zws (zqa (bC (.int 4)) (zqa (bBin zqf (bVar 16) (bC (.int 2))) (aNil)))) (aNil))) (bC (.int 1)))) (aNil))) [3,3]))
 (sSeq (sApp 13 (bBin zqf (bVar 14) (bSl (bVar 14) none (some (zqd F8 2 (zqa (bBin zqf (zqb zxd (zqa (bVar 14) (aNil))) (bC (.int 1))) (aNil)))))) [14,14])
 (zki 13 [14] (asgN 14) (sIf (bT (bUn zxj (zqw F17 (zqa (bVar 3) (zqa (bVar 14) (aNil)))))) (sRet (bC (.bl false))) sNil)))))))))))))))))))))
 (sRet (bC (.bl true))))
def F18:Fn:=mkFn false 1 15 b18
theorem h18:zqs (denS 60 S18) (zqo t18)=some b18:=by kernel_rfl
open PySem PySem.Spec PyProof.Rows L2 QQ QV
def zt (zs:List Z3):PV:=.lst (zs.map z3)
def inZ (a b c:Nat) (z:Z3):Bool:=(decide (0<=z.1) && decide (z.1 < a)) && ((decide (0<=z.2.1) && decide (z.2.1 < b)) && (decide (0<=z.2.2) && decide (z.2.2 < c)))
theorem zye {a b c:Nat}{z:Z3}:inZ a b c z=true↔(0<=z.1/\z.1 < a)/\(0<=z.2.1/\z.2.1 < b)/\0<=z.2.2/\z.2.2 < c:=by
 unfold inZ
 simp only [jb0,decide_eq_true_iff]
def ofZ (z:Z3):C3:=(z.1.toNat,z.2.1.toNat,z.2.2.toNat)
theorem zfc {a b c:Nat}{z:Z3} (h:inZ a b c z=true):toZ (ofZ z)=z:=by
 obtain ⟨h1,h2,h3⟩:=zye.mp h
 obtain ⟨i,j,k⟩:=z
 simp only at h1 h2 h3
 show (((i.toNat:Nat):Int),((j.toNat:Nat):Int),((k.toNat:Nat):Int))=_
 rw [show ((i.toNat:Nat):Int)=i by (clear h3 h2;omega),show ((j.toNat:Nat):Int)=j by (clear h3 h1;omega),show ((k.toNat:Nat):Int)=k by (clear h2 h1;omega)]
theorem qnl (x:C3):ofZ (toZ x)=x:=rfl
theorem qgm {a b c:Nat}{z:Z3} (h:inZ a b c z=true):(ofZ z).1 < a/\(ofZ z).2.1 < b/\(ofZ z).2.2 < c:=by
 obtain ⟨h1,h2,h3⟩:=zye.mp h
 exact ⟨by show z.1.toNat < a;(clear h3 h2;omega),by show z.2.1.toNat < b;(clear h3 h1;omega),by show z.2.2.toNat < c;(clear h2 h1;omega)⟩
theorem qop {a b c:Nat}{zs:List Z3} (h:zs.all (inZ a b c)=true):zt zs=ct (zs.map ofZ):=by
 unfold zt ct
 rw [jd7]
 refine congrArg PV.lst (ji1 λ z hz=>?_)
 show z3 z=z3 (toZ (ofZ z))
 rw [zfc (jc7.mp h z hz)]
def okZ (a b c:Nat) (zs:List Z3):Bool:=zs.all (inZ a b c) && zwl (zs.map ofZ)
theorem qe5 (a b c:Nat) (z:Z3):f_is_cube_in [bx a b c,z3 z]=.ok (.bl (inZ a b c z),om,.non):=by
 have zz:=sz
 let R:Rho:=[some (bx a b c,0),some (z3 z,0)]
 have e0:∀ u v:Int,(zzv (zqw f_is_whole_number (zqa (bVar 2) (aNil))) (zzl (λ i j=>decide (i<=j)) (λ i j=>decide (i < j)) (bC (.int 0)) (bVar 2) (bVar 3))) [some (bx a b c,0),some (z3 z,0),some (.int u,om),some (.int v,om)]=.ok (.bl (decide (0<=u) && decide (u < v)),om,[some (bx a b c,0),some (z3 z,0),some (.int u,om),some (.int v,om)]):=λ u v=>
  qfl (a:=true) (f:=zqw f_is_whole_number (zqa (bVar 2) (aNil))) (g:=zzl (λ i j=>decide (i<=j)) (λ i j=>decide (i < j)) (bC (.int 0)) (bVar 2) (bVar 3)) (ρ:=[some (bx a b c,0),some (z3 z,0),some (.int u,om),some (.int v,om)]) (zxt (xs:=[(.int u,om)]) rfl (qaa u)) (λ _=>qbh (i:=0) (j:=u) (k:=v) rfl rfl rfl) rfl
 have e1:zyr .zp (zqa (bVar 1) (zqa (bVar 0) (aNil))) 2 (asgT [2,3]) zqp (zzv (zqw f_is_whole_number (zqa (bVar 2) (aNil))) (zzl (λ i j=>decide (i<=j)) (λ i j=>decide (i < j)) (bC (.int 0)) (bVar 2) (bVar 3))) R=.ok (.lst ([(z.1,(a:Int)),(z.2.1,(b:Int)),(z.2.2,(c:Int))].map λ p=>.bl (decide (0<=p.1) && decide (p.1 < p.2))),om,R):=by
  unfold zyr
  have ef:(zqa (bVar 1) (zqa (bVar 0) (aNil))) R=.ok ([(z3 z,0),(bx a b c,0)],R):=rfl
  rw [ef]
  dsimp only
  have ev:zkv .zp ([(z3 z,0),(bx a b c,0)].map (·.1))=some [.tup [.int z.1,.int (a:Int)],.tup [.int z.2.1,.int (b:Int)],.tup [.int z.2.2,.int (c:Int)]]:=rfl
  rw [ev]
  dsimp only
  rw [qbn (e0 _ _) (by show 0 < va4;omega),qbn (e0 _ _) (by show 1 < va4;omega),qbn (e0 _ _) (by show 2 < va4;omega)]
  rfl
 have e2:=all_ok (g:=λ p:Int×Int=>decide (0<=p.1) && decide (p.1 < p.2)) e1
 have e3:([(z.1,(a:Int)),(z.2.1,(b:Int)),(z.2.2,(c:Int))].all λ p:Int×Int=>decide (0<=p.1) && decide (p.1 < p.2))=inZ a b c z:=by
  show (_ && (_ && (_ && true)))=_
  rw [jj7]
  rfl
 rw [e3] at e2
 refine zyg rfl (ρ':=R) ?_
 show Xf_is_cube_in R=_
 exact (zkx (ρ1:=R) (by kernel_rfl)).trans (zkj e2)
theorem qo3 {a b c:Nat}{zs:List Z3} (ha:1<=a/\a<=100) (hb:1<=b/\b<=100) (hc:1<=c) (hl:zs.length<=100000):f_pile_of_cubes [bx a b c,zt zs]=if okZ a b c zs=true then .ok (tb (mxA (zs.map ofZ) (zwv a b)),om,.non) else .exc 2:=by
 have zz:=sz
 cases hi:zs.all (inZ a b c) with
 | true=>
  rw [qop hi,qjx ha hb hc (λ x hx=>by
   obtain ⟨z,hz,rfl⟩:=jd6.mp hx
   exact qgm (jc7.mp hi z hz)) (by rw [ja4];exact hl)]
  unfold okZ
  rw [hi,jn5]
 | false=>
  have e:okZ a b c zs=false:=by unfold okZ;rw [hi];rfl
  rw [e,if_neg jb8]
  let R (s2 s3 s4 s5 s6 s7 s8:QQ.Slot):Rho:=[some (bx a b c,0),some (zt zs,0),s2,s3,s4,s5,s6,s7,s8]
  have bb:boxB a b c=true:=by unfold boxB;rw [decide_eq_true (by (clear zz hl hc hb;omega)),decide_eq_true (by (clear zz hl hc ha;omega)),decide_eq_true (by (clear zz hl hb ha;omega))];rfl
  have v1:zzx (zqw f_must_be_box (zqa (bVar 0) (aNil))) (R none none none none none none none)=.nx (R none none none none none none none):=zhp (zxt (xs:=[(bx a b c,0)]) rfl (zjt bb))
  let Q:Rho:=[some (bx a b c,0),some (zt zs,0),none,none]
  have c1:=zvn (n:=4) (f:=bVar 1) (elt:=zqw f_is_cube_in (zqa (bVar 0) (zqa (bVar 4) (aNil)))) (ρ:=Q) (ρ1:=Q) (enc:=z3) (q:=λ z=>.bl (inZ a b c z)) (d:=0) zs rfl rfl (λ x hx=>zxt (xs:=[(bx a b c,0),(z3 x,0)]) rfl (qe5 a b c x)) (by (clear hc hb ha;omega))
  have c2:=all_ok (g:=inZ a b c) c1
  rw [hi] at c2
  have t1:=t_ok (qbv (a:=false) (f:=bUn zxj (bUn (zzf "list") (bVar 1))) (ρ:=Q) (ρ1:=Q) (d:=om) rfl (λ _=>zyp c2) rfl)
  have m:f_must_be_cubes_of_a_pile [bx a b c,zt zs]=.exc 2:=qa7 rfl (zhb ((if_t t1).trans rfl))
  exact qa7 rfl ((zqc v1).trans (zhb (qba (zmv (xs:=[(bx a b c,0),(zt zs,0)]) rfl m))))
def keyZ (z:Z3):List Key:=[.inl z.1,.inl z.2.1,.inl z.2.2]
theorem qgv {x y:Z3} (h:keyZ x=keyZ y):x=y:=by
 unfold keyZ at h
 simp only [List.cons.injEq,Sum.inl.injEq,and_true] at h
 obtain ⟨h1,h2,h3⟩:=h
 obtain ⟨i,j,k⟩:=x
 obtain ⟨i',j',k'⟩:=y
 simp only at h1 h2 h3
 rw [h1,h2,h3]
def once:List Z3->List Z3
 | []=>[]
 | x::r=>if x∈once r then once r else once r++[x]
theorem qdq (x:Z3) (r:List Z3):once (x::r)=if x∈once r then once r else once r++[x]:=rfl
def dZ (ks:List Z3):List (List Key×V):=ks.map λ z=>(keyZ z,.bl true)
theorem qe3 (y:Z3):∀ ks:List Z3,(valV (dZ ks) (keyZ y)).isSome=decide (y∈ks)
 | []=>rfl
 | x::r=>by
  show (valV ((keyZ x,V.bl true)::dZ r) (keyZ y)).isSome=_
  by_cases e:x=y
  ·rw [zxp (by rw [e]),e];simp
  ·rw [zxq (λ h=>e (qgv h)),qe3 y r]
   simp [vb2 e]
theorem qf6 (x:Z3) (r:List Z3):putK (dZ (once r)) (keyZ x) (.bl true)=dZ (once (x::r)):=by
 rw [qdq]
 have g:=qe3 x (once r)
 by_cases h:x∈once r
 ·rw [if_pos h]
  rw [decide_eq_true h] at g
  unfold putK
  rw [zvg,if_pos g]
  unfold dZ
  rw [jd7]
  refine ji1 λ z hz=>?_
  show (if (keyZ z,V.bl true).1=keyZ x then _ else _)=_
  split <;> rfl
 ·rw [if_neg h]
  rw [decide_eq_false h] at g
  rw [qf7 _ (Option.not_isSome_iff_eq_none.mp (by rw [g];decide))]
  unfold dZ
  rw [je8]
  rfl
theorem zyy {z:Z3}:∀ {r:List Z3},z∈once r↔z∈r
 | []=>Iff.rfl
 | x::r=>by
  unfold once
  split
  ·rename_i h
   rw [zyy,jb3]
   constructor
   ·exact .inr
   ·rintro (rfl | h')
    ·exact zyy.mp h
    ·exact h'
  ·rw [jc4,zyy,jb6,jb3,Or.comm]
theorem zhe:∀ (r:List Z3),(once r).Nodup
 | []=>jp0
 | x::r=>by
  unfold once
  split
  ·exact zhe r
  ·rename_i h
   rw [List.nodup_append]
   exact ⟨zhe r,by simp,λ a ha b hb=>by rw [jb6.mp hb];rintro rfl;exact h ha⟩
theorem qat:∀ (r:List Z3),(once r).length<=r.length
 | []=>jb4 _
 | x::r=>by
  have:=qat r
  unfold once
  split
  ·rw [jb2];omega
  ·rw [ja8,jb2];simp;exact this
def cn (cs:List C3) (i j:Nat):Nat:=(cs.filter λ x=>decide (x.1=i/\x.2.1=j)).length
theorem qk2 (cs:List C3) (x:C3) (i j:Nat):cn (cs++[x]) i j=if i=x.1/\j=x.2.1 then cn cs i j + 1 else cn cs i j:=by
 unfold cn
 rw [List.filter_append,ja8]
 by_cases h:i=x.1/\j=x.2.1
 ·rw [if_pos h,jl9,if_pos (decide_eq_true ⟨h.1.symm,h.2.symm⟩)]
  rfl
 ·rw [if_neg h,jl9,if_neg (by rw [decide_eq_true_iff];exact λ z=>h ⟨z.1.symm,z.2.symm⟩)]
  rfl
def cnT (a b:Nat) (cs:List C3):List (List Int):=mkT a b λ i j=>(cn cs i j:Int)
theorem zyj {a b:Nat}{cs:List C3}:Tab a b (cnT a b cs):=qdw
theorem qhj {a b:Nat}{cs:List C3}{x:C3} (h1:x.1 < a) (h2:x.2.1 < b):setV (cnT a b cs) x.1 x.2.1 (g (cnT a b cs) x.1 x.2.1 + 1)=cnT a b (cs++[x]):=by
 refine qcf (qfy zyj h1) zyj λ i j hi hj=>?_
 rw [qfz zyj h1 h2]
 unfold cnT
 rw [zmh hi hj,zmh hi hj,zmh h1 h2,qk2]
 by_cases h:i=x.1/\j=x.2.1
 ·rw [if_pos h,if_pos h,h.1,h.2];rfl
 ·rw [if_neg h,if_neg h]
theorem zpq {cs:List C3} (h:zwl cs=true) {i j:Nat}:∀ (n k:Nat),(i,j,k + n)∈cs->(i,j,k)∈cs
 | 0,k,e=>e
 | n + 1,k,e=>zpq h n k (zbe.mp h _ e _ (zjs.mpr (.inr (.inr ⟨rfl,rfl,by show k + n + 1=k + (n + 1);omega⟩))))
theorem qoh {a b c:Nat}{cs ks:List C3} (hb:∀ x∈cs,x.1 < a/\x.2.1 < b/\x.2.2 < c) (hc:zwl cs=true) (hk:∀ x,x∈ks↔x∈cs) (hn:ks.Nodup):cnT a b ks=mxA cs (zwv a b):=by
 have hb2:∀ x∈cs,x.1 < a/\x.2.1 < b:=λ x hx=>⟨(hb x hx).1,(hb x hx).2.1⟩
 refine qcf qdw (zmg (zkd a b) hb2) λ i j hi hj=>?_
 have lt:=λ n:Int=>qic (i:=i) (j:=j) n (zkd a b) hb2
 rw [qb9 hi hj] at lt
 have m0:=(lt (-1)).mpr (.inl (by (clear hj hi;omega)))
 generalize g (mxA cs (zwv a b)) i j=m at lt m0
 unfold cnT
 rw [zmh hi hj]
 let L:=(ks.filter λ x=>decide (x.1=i/\x.2.1=j)).map λ x=>x.2.2
 have hL:L.Nodup:=by
  refine List.Pairwise.map _ (R:=λ x y:C3=>x.2.2≠y.2.2) (λ _ _ h=>h) ?_
  refine List.Pairwise.imp_of_mem (λ {x y} hx hy n e=>n ?_) (hn.filter _)
  have e1:=of_decide_eq_true (jf7.mp hx).2
  have e2:=of_decide_eq_true (jf7.mp hy).2
  obtain ⟨x1,x2,x3⟩:=x
  obtain ⟨y1,y2,y3⟩:=y
  simp only at e e1 e2
  rw [e1.1,e1.2,e2.1,e2.2,e]
 have hm:∀ k:Nat,k∈L↔k∈jd0 m.toNat:=λ k=>by
  rw [jf4]
  have lk:=lt (k:Int)
  constructor
  ·intro h
   obtain ⟨x,hx,rfl⟩:=jd6.mp h
   obtain ⟨h1,h2⟩:=jf7.mp hx
   have e:=of_decide_eq_true h2
   have:=lk.mpr (.inr ⟨x,(hk x).mp h1,e.1,e.2,jm8 _⟩)
   (clear e lk m0 hj hi;omega)
  ·intro h
   rcases lk.mp (by (clear lk m0 hj hi;omega)) with z | ⟨x,hx,e1,e2,e3⟩
   ·(clear h lk m0 hj hi;omega)
   ·obtain ⟨x1,x2,x3⟩:=x
    simp only at e1 e2 e3
    subst e1 e2
    have:=zpq hc (x3 - k) k (i:=x1) (j:=x2) (by rw [show k + (x3 - k)=x3 by (clear lk hj hi h m0;omega)];exact hx)
    exact jd6.mpr ⟨(x1,x2,k),jf7.mpr ⟨(hk _).mpr this,decide_eq_true ⟨rfl,rfl⟩⟩,rfl⟩
 have hp:L.Perm (jd0 m.toNat):=(List.perm_ext_iff_of_nodup hL List.nodup_range).mpr hm
 have:=hp.length_eq
 rw [ja4,jf3] at this
 show ((ks.filter λ x=>decide (x.1=i/\x.2.1=j)).length:Int)=m
 rw [this]
 (clear this hj hi;omega)
def lowZ (z:Z3):List Z3:=[(z.1 - 1,z.2.1,z.2.2),(z.1,z.2.1 - 1,z.2.2),(z.1,z.2.1,z.2.2 - 1)]
def hasZ (ks:List Z3) (z:Z3):Bool:=!(decide (0<=minI z.1 [z.2.1,z.2.2]) && !decide (z∈ks))
theorem minZ (x y z:Int):0<=minI x [y,z]↔0<=x/\0<=y/\0<=z:=by
 simp only [minI]
 split <;> split <;> omega
theorem qa6 {ks:List Z3}{z:Z3}:hasZ ks z=true↔(0<=z.1/\0<=z.2.1/\0<=z.2.2->z∈ks):=by
 unfold hasZ
 rw [jg9,Bool.and_eq_false_iff,decide_eq_false_iff_not,minZ,Bool.not_eq_false',decide_eq_true_iff]
 exact ⟨λ h hz=>h.elim (λ n=>absurd hz n) id,λ h=>Classical.or_iff_not_imp_left.mpr λ n=>h (Classical.not_not.mp n)⟩
def okC (a b c:Nat) (ks:List Z3) (z:Z3):Bool:=inZ a b c z && (lowZ z).all (hasZ ks)
theorem qau {a b c:Nat}{zs ks:List Z3} (hk:∀ z,z∈ks↔z∈zs):ks.all (okC a b c ks)=okZ a b c zs:=by
 rw [jg6]
 unfold okZ okC
 rw [jb0,jc7,jc7,zbe]
 constructor
 ·intro h
  have hi:∀ z∈zs,inZ a b c z=true:=λ z hz=>(jb0 _ _ ▸ h z ((hk z).mpr hz)).1
  refine ⟨hi,λ x hx y hy=>?_⟩
  obtain ⟨z,hz,rfl⟩:=jd6.mp hx
  have h2:=(jb0 _ _ ▸ h z ((hk z).mpr hz)).2
  have e:=zfc (hi z hz)
  refine jd6.mpr ⟨toZ y,(hk _).mp (qa6.mp (jc7.mp h2 (toZ y) ?_) ⟨ji6 _,ji6 _,ji6 _⟩),qnl y⟩
  have i1:=zye.mp (hi z hz)
  obtain ⟨z1,z2,z3⟩:=z
  obtain ⟨y1,y2,y3⟩:=y
  unfold lowZ toZ
  simp only [jb3,vc4,jf9,or_false]
  have q:=zjs.mp hy
  unfold ofZ at q
  simp only at q i1
  obtain ⟨⟨p1,_⟩,⟨p2,_⟩,p3,_⟩:=i1
  clear hi hk h2 e
  rcases q with ⟨q1,q2,q3⟩ | ⟨q1,q2,q3⟩ | ⟨q1,q2,q3⟩
  ·exact .inl ⟨by (clear q3 q2 p3 p2 p1;omega),by (clear q3 q1 p3 p1;omega),by (clear q2 q1 p2 p1;omega)⟩
  ·exact .inr (.inl ⟨by (clear q3 q2 p3 p2;omega),by (clear q3 q1 p3 p2 p1;omega),by (clear q2 q1 p2 p1;omega)⟩)
  ·exact .inr (.inr ⟨by (clear q3 q2 p3 p2;omega),by (clear q3 q1 p3 p1;omega),by (clear q2 q1 p3 p2 p1;omega)⟩)
 ·rintro ⟨hi,hc⟩ z hz
  have hz':=(hk z).mp hz
  have i1:=zye.mp (hi z hz')
  rw [jb0,jc7]
  refine ⟨hi z hz',λ y hy=>qa6.mpr λ hp=>(hk y).mpr ?_⟩
  have hn:ofZ y∈zvs (ofZ z):=by
   refine zjs.mpr ?_
   obtain ⟨z1,z2,z3⟩:=z
   obtain ⟨y1,y2,y3⟩:=y
   unfold lowZ at hy
   simp only [jb3,vc4,jf9,or_false] at hy
   unfold ofZ
   simp only at hp i1 ⊢
   obtain ⟨⟨p1,_⟩,⟨p2,_⟩,p3,_⟩:=i1
   obtain ⟨r1,r2,r3⟩:=hp
   clear hi hk hc
   rcases hy with ⟨q1,q2,q3⟩ | ⟨q1,q2,q3⟩ | ⟨q1,q2,q3⟩
   ·exact .inl ⟨by (clear q3 q2 r3 r2 p3 p2 p1;omega),by (clear q3 q1 r3 r2 r1 p3 p2 p1;omega),by (clear q2 q1 r3 r2 r1 p3 p2 p1;omega)⟩
   ·exact .inr (.inl ⟨by (clear q3 q2 r3 r2 r1 p3 p2 p1;omega),by (clear q3 q1 r3 r1 p3 p2 p1;omega),by (clear q2 q1 r3 r2 r1 p3 p2 p1;omega)⟩)
   ·exact .inr (.inr ⟨by (clear q3 q2 r3 r2 r1 p3 p2 p1;omega),by (clear q3 q1 r3 r2 r1 p3 p2 p1;omega),by (clear q2 q1 r2 r1 p3 p2 p1;omega)⟩)
  obtain ⟨w,hw,e⟩:=jd6.mp (hc _ (jd6.mpr ⟨z,hz',rfl⟩) _ hn)
  have iw:=zye.mp (hi w hw)
  have:w=y:=by
   obtain ⟨w1,w2,w3⟩:=w
   obtain ⟨y1,y2,y3⟩:=y
   unfold ofZ at e
   simp only [vc4] at e
   simp only at hp iw
   rw [show w1=y1 by omega,show w2=y2 by omega,show w3=y3 by omega]
  rw [<- this]
  exact hw
theorem qd1 {asg:PV->Rho->Option Rho}{body:Fs}{y:PV}{d:Nat} (ok:Z3->Bool) (I:List Z3->Rho->Prop):∀ (rest done:List Z3) (ρ:Rho),I done ρ->(∀ x∈rest,∀ done ρ,I done ρ->∃ ρ1,asg (z3 x) ρ=some ρ1/\((ok x=true/\∃ ρ2,body ρ1=.nx ρ2/\I (done++[x]) ρ2)\/(ok x=false/\∃ ρ2,body ρ1=.rt y d ρ2))) ->
  (rest.all ok=true/\∃ ρ',zzb asg body (rest.map z3) ρ=.nx ρ'/\I (done++rest) ρ')\/(rest.all ok=false/\∃ ρ',zzb asg body (rest.map z3) ρ=.rt y d ρ')
 | [],done,ρ,h,_=>.inl ⟨rfl,ρ,rfl,by rw [jd9];exact h⟩
 | x::xs,done,ρ,h,hb=>by
  obtain ⟨ρ1,e1,⟨hx,ρ2,e2,h2⟩ | ⟨hx,ρ2,e2⟩⟩:=hb x ja3 done ρ h
  ·rcases qd1 ok I xs (done++[x]) ρ2 h2 (λ y hy=>hb y (ja1 _ hy)) with ⟨ha,ρ',e,h'⟩ | ⟨ha,ρ',e⟩
   ·rw [jh5] at h'
    exact .inl ⟨by rw [je2,hx,ha];rfl,ρ',by rw [jc2];unfold zzb;rw [e1];dsimp only;rw [e2];exact e,h'⟩
   ·exact .inr ⟨by rw [je2,ha,jp4],ρ',by rw [jc2];unfold zzb;rw [e1];dsimp only;rw [e2];exact e⟩
  ·exact .inr ⟨by rw [je2,hx,jl1],ρ2,by rw [jc2];unfold zzb;rw [e1];dsimp only;rw [e2]⟩
def fLow:Fs:=sIf (bT (zzv (bBin (zwb λ i j=>decide (j<=i)) (zqb zws (zqa (bVar 8) (aNil))) (bC (.int 0))) (bBin (opIn true) (bVar 8) (bVar 2)))) (sRet (bC .non)) sNil
def fOut:Fb:=bT (bOrV (bBin (zwb λ i j=>decide (i < j)) (zqb zws (zqa (bVar 5) (zqa (bVar 6) (zqa (bVar 7) (aNil))))) (bC (.int 0))) (bOrV (bBin (zwb λ i j=>decide (j<=i)) (bVar 5) (bBin zqj (bVar 0) (bC (.int 0)))) (bOrV (bBin (zwb λ i j=>decide (j<=i)) (bVar 6) (bBin zqj (bVar 0) (bC (.int 1)))) (bBin (zwb λ i j=>decide (j<=i)) (bVar 7) (bBin zqj (bVar 0) (bC (.int 2)))))))
def xLow:Fx:=zqb zqh (zqa (zqb zxz (zqa (bBin zwa (bVar 5) (bC (.int 1))) (zqa (bVar 6) (zqa (bVar 7) (aNil))))) (zqa (zqb zxz (zqa (bVar 5) (zqa (bBin zwa (bVar 6) (bC (.int 1))) (zqa (bVar 7) (aNil))))) (zqa (zqb zxz (zqa (bVar 5) (zqa (bVar 6) (zqa (bBin zwa (bVar 7) (bC (.int 1))) (aNil))))) (aNil))))
def fPut:Fs:=zpy 4 (bVar 5) (bVar 6) (bBin zqf (bBin zqj (bBin zqj (bVar 4) (bVar 5)) (bVar 6)) (bC (.int 1)))
def zmm:Fs:=sSeq (sIf fOut (sRet (bC .non)) sNil) (sSeq (zzw xLow [5,6,7,5,6,7,5,6,7] (asgN 8) fLow) fPut)
theorem qla:b16=(sSeq (sSet false 2 bDct [])
 (sSeq (zzw (bVar 1) [1] (asgN 3) (zbn 2 (bVar 3) (bC (.bl true))))
 (sSeq (sSet false 4 (zxv zqx (zqa (bBin zqj (bVar 0) (bC (.int 0))) (aNil)) 1 (asgN 9) zqp (bBin zxs (zqb zqh (zqa (bC (.int 0)) (aNil))) (bBin zqj (bVar 0) (bC (.int 1))))) [0])
 (sSeq (zzw (zqb zzu (zqa (bVar 2) (aNil))) [2] (asgT [5,6,7]) zmm)
 (zbm 4))))):=by kernel_rfl
section
variable {a b c:Nat}{zs ks:List Z3}
def DR (a b c:Nat) (zs ks:List Z3) (s3 s4 s5 s6 s7 s8:QQ.Slot):Rho:=[some (bx a b c,0),some (zt zs,0),some (.dct (dZ ks),om),s3,s4,s5,s6,s7,s8]
def nI (i:Int):QQ.Slot:=some (.int i,om)
theorem qm5 (z:Z3) {s3 s4 s8:QQ.Slot}:fOut (DR a b c zs ks s3 s4 (nI z.1) (nI z.2.1) (nI z.2.2) s8)=.ok (!inZ a b c z,DR a b c zs ks s3 s4 (nI z.1) (nI z.2.1) (nI z.2.2) s8):=by
 let ρ:=DR a b c zs ks s3 s4 (nI z.1) (nI z.2.1) (nI z.2.2) s8
 have m1:zqb zws (zqa (bVar 5) (zqa (bVar 6) (zqa (bVar 7) (aNil)))) ρ=.ok (.int (minI z.1 [z.2.1,z.2.2]),om,ρ):=rfl
 have c1:=zgl (p:=λ i j=>decide (i < j)) m1 (g:=bC (.int 0)) (j:=0) (e:=om) (ρ2:=ρ) rfl
 have c2:=zgl (p:=λ i j=>decide (j<=i)) (f:=bVar 5) (i:=z.1) (d:=om) (ρ:=ρ) (ρ1:=ρ) rfl (g:=bBin zqj (bVar 0) (bC (.int 0))) (j:=(a:Int)) (e:=om) (ρ2:=ρ) rfl
 have c3:=zgl (p:=λ i j=>decide (j<=i)) (f:=bVar 6) (i:=z.2.1) (d:=om) (ρ:=ρ) (ρ1:=ρ) rfl (g:=bBin zqj (bVar 0) (bC (.int 1))) (j:=(b:Int)) (e:=om) (ρ2:=ρ) rfl
 have c4:=zgl (p:=λ i j=>decide (j<=i)) (f:=bVar 7) (i:=z.2.2) (d:=om) (ρ:=ρ) (ρ1:=ρ) rfl (g:=bBin zqj (bVar 0) (bC (.int 2))) (j:=(c:Int)) (e:=om) (ρ2:=ρ) rfl
 have o:=t_ok (qbv c1 (λ _=>qbv c2 (λ _=>qbv c3 (λ _=>c4) rfl) rfl) rfl)
 refine o.trans ?_
 have e:(decide (minI z.1 [z.2.1,z.2.2] < 0) || (decide ((a:Int)<=z.1) || (decide ((b:Int)<=z.2.1) || decide ((c:Int)<=z.2.2))))=!inZ a b c z:=by
  have m:=minZ z.1 z.2.1 z.2.2
  rw [jg6,je0,je0,je0,jg9,<- Bool.not_eq_true,zye]
  simp only [decide_eq_true_iff]
  omega
 rw [e]
theorem qnn (z:Z3) {s3 s4 s5 s6 s7:QQ.Slot}:fLow (DR a b c zs ks s3 s4 s5 s6 s7 (some (z3 z,0)))=if hasZ ks z=true then .nx (DR a b c zs ks s3 s4 s5 s6 s7 (some (z3 z,0))) else .rt .non om (DR a b c zs ks s3 s4 s5 s6 s7 (some (z3 z,0))):=by
 let ρ:=DR a b c zs ks s3 s4 s5 s6 s7 (some (z3 z,0))
 have m1:zqb zws (zqa (bVar 8) (aNil)) ρ=.ok (.int (minI z.1 [z.2.1,z.2.2]),om,ρ):=rfl
 have c1:=zgl (p:=λ i j=>decide (j<=i)) m1 (g:=bC (.int 0)) (j:=0) (e:=om) (ρ2:=ρ) rfl
 have c2:bBin (opIn true) (bVar 8) (bVar 2) ρ=.ok (.bl (!decide (z∈ks)),om,ρ):=by
  refine zxb (x:=z3 z) (d:=0) (y:=.dct (dZ ks)) (e:=0) rfl rfl ?_
  show some (PV.bl (true^^(valV (dZ ks) (keyZ z)).isSome),om)=_
  rw [qe3,jp9]
 have o:=t_ok (qfl c1 (λ _=>c2) rfl)
 unfold fLow
 rw [qgy o]
 unfold hasZ
 cases (decide (0<=minI z.1 [z.2.1,z.2.2]) && !decide (z∈ks)) <;> rfl
theorem qjf (z:Z3) {cs:List C3}{s3 s8:QQ.Slot}:
  (okC a b c ks z=true/\∃ s8',zmm (DR a b c zs ks s3 (some (tb (cnT a b cs),om)) (nI z.1) (nI z.2.1) (nI z.2.2) s8)=.nx (DR a b c zs ks s3 (some (tb (cnT a b (cs++[ofZ z])),om)) (nI z.1) (nI z.2.1) (nI z.2.2) s8')) \/
  (okC a b c ks z=false/\∃ ρ',zmm (DR a b c zs ks s3 (some (tb (cnT a b cs),om)) (nI z.1) (nI z.2.1) (nI z.2.2) s8)=.rt .non om ρ'):=by
 have o:=qm5 (a:=a) (b:=b) (c:=c) (zs:=zs) (ks:=ks) z (s3:=s3) (s4:=some (tb (cnT a b cs),om)) (s8:=s8)
 unfold okC
 cases hi:inZ a b c z with
 | false=>
  rw [hi] at o
  refine .inr ⟨rfl,DR a b c zs ks s3 (some (tb (cnT a b cs),om)) (nI z.1) (nI z.2.1) (nI z.2.2) s8,?_⟩
  unfold zmm
  exact zfh ((if_t o).trans rfl)
 | true=>
  rw [hi] at o
  rw [jn5]
  let R (s8:QQ.Slot):Rho:=DR a b c zs ks s3 (some (tb (cnT a b cs),om)) (nI z.1) (nI z.2.1) (nI z.2.2) s8
  have el:∃ d,xLow (R s8)=.ok (zt (lowZ z),d,R s8)/\zqr d [5,6,7,5,6,7,5,6,7] (R s8)=R s8:=⟨om,rfl,rfl⟩
  obtain ⟨d,el,ec⟩:=el
  have lp:=qd1 (asg:=asgN 8) (body:=fLow) (y:=.non) (d:=om) (hasZ ks) (λ _ ρ=>∃ s8,ρ=R s8) (lowZ z) [] (R s8) ⟨s8,rfl⟩ (by
   rintro x hx _ ρ ⟨s8,rfl⟩
   refine ⟨R (some (z3 x,0)),rfl,?_⟩
   have:=qnn (a:=a) (b:=b) (c:=c) (zs:=zs) (ks:=ks) x (s3:=s3) (s4:=some (tb (cnT a b cs),om)) (s5:=nI z.1) (s6:=nI z.2.1) (s7:=nI z.2.2)
   cases hh:hasZ ks x with
   | true=>rw [hh,if_pos rfl] at this;exact .inl ⟨rfl,_,this,_,rfl⟩
   | false=>rw [hh,if_neg jb8] at this;exact .inr ⟨rfl,_,this⟩)
  have fs:∀ {r:Rs},zzb (asgN 8) fLow ((lowZ z).map z3) (R s8)=r->zzw xLow [5,6,7,5,6,7,5,6,7] (asgN 8) fLow (R s8)=r:=λ {r} e=>by
   unfold zzw
   rw [el]
   show zzb (asgN 8) fLow ((lowZ z).map z3) (zqr d _ (R s8))=r
   rw [ec]
   exact e
  rcases lp with ⟨ha,ρ',e,s8',rfl⟩ | ⟨ha,ρ',e⟩
  ·refine .inl ⟨ha,s8',?_⟩
   unfold zmm
   refine (zkx o).trans ((zqc (fs e)).trans ?_)
   obtain ⟨h1,h2,h3⟩:=qgm hi
   have ez:=zfc hi
   have z1:z.1=((ofZ z).1:Int):=by rw [<- ez];rfl
   have z2:z.2.1=((ofZ z).2.1:Int):=by rw [<- ez];rfl
   have i1:=zhl (f:=bVar 4) (h:=bVar 5) (k:=bVar 6) (ρ:=R s8') (ρ1:=R s8') (ρ2:=R s8') (ρ3:=R s8') (t:=cnT a b cs) (a:=a) (b:=b) (i:=(ofZ z).1) (j:=(ofZ z).2.1) (d:=0) (e:=om) (e':=om) zyj rfl (by show Rz.ok (PV.int z.1,om,R s8')=_;rw [z1]) (by show Rz.ok (PV.int z.2.1,om,R s8')=_;rw [z2]) h1 h2
   have i2:=zwo i1 (g:=bC (.int 1)) (j:=1) (e:=om) (ρ2:=R s8') rfl
   unfold fPut
   refine qc8 (x:=tb (cnT a b cs)) (a:=((ofZ z).1:Int)) (b:=((ofZ z).2.1:Int)) (d1:=om) (d2:=om) (ρ2:=R s8') (ρ3:=R s8') i2 rfl (by show Rz.ok (PV.int z.1,om,R s8')=_;rw [z1]) (by show Rz.ok (PV.int z.2.1,om,R s8')=_;rw [z2]) (qc6 (by rw [zyj.1];exact h1) (by rw [zyj.row h1];exact h2)) rfl ?_
   have:=qhj (cs:=cs) (x:=ofZ z) h1 h2
   unfold setV at this
   rw [this]
   rfl
  ·refine .inr ⟨ha,ρ',?_⟩
   unfold zmm
   exact (zkx o).trans (zfh (fs e))
end
def dueV (a b c:Nat) (zs:List Z3):PV:=if okZ a b c zs=true then tb (mxA (zs.map ofZ) (zwv a b)) else .non
section
variable {a b c:Nat}{zs:List Z3}
theorem qn8 (ha:1<=a/\a<=100) (hb:1<=b/\b<=100) (hl:zs.length<=100000):F16 [bx a b c,zt zs]=.ok (dueV a b c zs,om,.non):=by
 have zz:=sz
 let R (s2 s3 s4 s5 s6 s7 s8:QQ.Slot):Rho:=[some (bx a b c,0),some (zt zs,0),s2,s3,s4,s5,s6,s7,s8]
 let S (r:List Z3):QQ.Slot:=some (.dct (dZ (once r)),om)
 have v1:sSet false 2 bDct [] (R none none none none none none none)=.nx (R (S []) none none none none none none):=rfl
 obtain ⟨ρ',v2,s3,rfl⟩:=zmk (f:=bVar 1) (vs:=[1]) (asg:=asgN 3) (body:=zbn 2 (bVar 3) (bC (.bl true))) (ρ:=R (S []) none none none none none none) (ρ1:=R (S []) none none none none none none) (ρ2:=R (S []) none none none none none none) (els:=zs.map z3) (d:=0)
  (λ n ρ=>∃ s3,ρ=R (S (zs.take n).reverse) s3 none none none none none) rfl rfl ⟨none,by rw [jj0];rfl⟩ (by
   rintro n y ρ hy ⟨s3,rfl⟩
   have hn:n < zs.length:=by
    have:=(ja7.mp hy).1
    rw [ja4] at this
    exact this
   rw [jc6,jb9 hn] at hy
   cases hy
   refine ⟨R (S (zs.take n).reverse) (some (z3 zs[n],0)) none none none none none,R (S (zs.take (n + 1)).reverse) (some (z3 zs[n],0)) none none none none none,rfl,?_,_,rfl⟩
   have es:(zs.take (n + 1)).reverse=zs[n]::(zs.take n).reverse:=by rw [jl3,jb9 hn];simp
   rw [es]
   have hk:(dZ (once (zs.take n).reverse)).length < va4:=by
    have:=qat (zs.take n).reverse
    unfold dZ
    rw [ja4]
    rw [jn0,jd1] at this
    omega
   have hp:putX (.dct (dZ (once (zs.take n).reverse))) (z3 zs[n]) (.bl true)=some (.dct (dZ (once (zs[n]::(zs.take n).reverse)))):=by
    show (if (dZ (once (zs.take n).reverse)).length < va4 then some (PV.dct (putK (dZ (once (zs.take n).reverse)) (keyZ zs[n]) (.bl true))) else none)=_
    rw [if_pos hk,qf6]
   unfold zbn
   show (match putX (.dct (dZ (once (zs.take n).reverse))) (z3 zs[n]) (.bl true) with | some x'=>_ | none=>_)=_
   rw [hp]
   rfl)
 rw [ja4,jj5] at v2
 let ks:=once zs.reverse
 have hk:∀ z,z∈ks↔z∈zs:=λ z=>by rw [zyy,List.mem_reverse]
 have f1:=zmr (n:=9) (en:=zqx) (fa:=zqa (bBin zqj (bVar 0) (bC (.int 0))) (aNil)) (elt:=bBin zxs (zqb zqh (zqa (bC (.int 0)) (aNil))) (bBin zqj (bVar 0) (bC (.int 1)))) (ρ:=R (S zs.reverse) s3 none none none none none) (ρ1:=R (S zs.reverse) s3 none none none none none) (as:=[(.int (a:Int),om)]) (lo:=0) (hi:=(a:Int)) (q:=λ _=>il (ja5 b 0)) rfl (zwi (by omega) (by omega)) rfl (λ k hk=>qh1 (v:=0) (n:=b) (d:=om) (e:=om) rfl rfl (by omega)) (by omega)
 have f2:PV.lst ((jd0 ((a:Int) - 0).toNat).map λ _=>il (ja5 b 0))=tb (cnT a b []):=by
  unfold tb cnT mkT
  rw [show ((a:Int) - 0).toNat=a by omega,jd7]
  refine congrArg PV.lst (ji1 λ i _=>?_)
  show il (ja5 b 0)=il ((jd0 b).map λ _=>0)
  rw [jo9,jf3]
 rw [f2] at f1
 have v3:sSet false 4 (zxv zqx (zqa (bBin zqj (bVar 0) (bC (.int 0))) (aNil)) 1 (asgN 9) zqp (bBin zxs (zqb zqh (zqa (bC (.int 0)) (aNil))) (bBin zqj (bVar 0) (bC (.int 1))))) [0] (R (S zs.reverse) s3 none none none none none)=.nx (DR a b c zs ks s3 (some (tb (cnT a b []),om)) none none none none):=setF f1 (show 4 < 9 by decide) rfl
 have el:zqb zzu (zqa (bVar 2) (aNil)) (DR a b c zs ks s3 (some (tb (cnT a b []),om)) none none none none)=.ok (zt ks,om,DR a b c zs ks s3 (some (tb (cnT a b []),om)) none none none none):=by
  refine zqu (zqq (x:=.dct (dZ ks)) (d:=0) rfl) ?_
  show some (PV.lst ((dZ ks).map λ p=>tupK p.1),d1 ((dZ ks).map λ p=>tupK p.1))=_
  have e1:d1 ((dZ ks).map λ p=>tupK p.1)=om:=by unfold d1;rw [if_pos (qcd _ _)]
  rw [e1]
  unfold dZ zt
  rw [jd7]
  rfl
 have lp:=qd1 (asg:=asgT [5,6,7]) (body:=zmm) (y:=.non) (d:=om) (okC a b c ks) (λ done ρ=>∃ s5 s6 s7 s8,ρ=DR a b c zs ks s3 (some (tb (cnT a b (done.map ofZ)),om)) s5 s6 s7 s8) ks [] (DR a b c zs ks s3 (some (tb (cnT a b []),om)) none none none none) ⟨_,_,_,_,rfl⟩ (by
  rintro x hx done ρ ⟨s5,s6,s7,s8,rfl⟩
  refine ⟨DR a b c zs ks s3 (some (tb (cnT a b (done.map ofZ)),om)) (nI x.1) (nI x.2.1) (nI x.2.2) s8,rfl,?_⟩
  rcases qjf (a:=a) (b:=b) (c:=c) (zs:=zs) (ks:=ks) x (cs:=done.map ofZ) (s3:=s3) (s8:=s8) with ⟨h,s8',e⟩ | ⟨h,ρ',e⟩
  ·exact .inl ⟨h,_,e,_,_,_,_,by rw [je8];rfl⟩
  ·exact .inr ⟨h,ρ',e⟩)
 have fs:∀ {r:Rs},zzb (asgT [5,6,7]) zmm (ks.map z3) (DR a b c zs ks s3 (some (tb (cnT a b []),om)) none none none none)=r->zzw (zqb zzu (zqa (bVar 2) (aNil))) [2] (asgT [5,6,7]) zmm (DR a b c zs ks s3 (some (tb (cnT a b []),om)) none none none none)=r:=λ {r} e=>by
  unfold zzw
  rw [el]
  exact e
 have hF:F16=mkFn false 2 7 b16:=rfl
 rw [hF,qla]
 unfold dueV
 rw [<- qau hk]
 rcases lp with ⟨h,ρ',e,s5,s6,s7,s8,rfl⟩ | ⟨h,ρ',e⟩
 ·rw [h,if_pos rfl]
  rw [qau hk] at h
  unfold okZ at h
  rw [jb0] at h
  have hi:=jc7.mp h.1
  have cm:cnT a b (ks.map ofZ)=mxA (zs.map ofZ) (zwv a b):=qoh (c:=c) (λ x hx=>by
   obtain ⟨z,hz,rfl⟩:=jd6.mp hx
   exact qgm (hi z hz)) h.2 (λ x=>by
    rw [jd6,jd6]
    exact ⟨λ ⟨z,hz,e⟩=>⟨z,(hk z).mp hz,e⟩,λ ⟨z,hz,e⟩=>⟨z,(hk z).mpr hz,e⟩⟩) (by
    refine List.Pairwise.map _ (R:=λ x y:Z3=>x∈zs/\y∈zs/\x≠y) (λ x y h e=>h.2.2 ?_) (List.Pairwise.imp_of_mem (λ {x y} hx hy n=>⟨(hk x).mp hx,(hk y).mp hy,n⟩) (zhe zs.reverse))
    rw [<- zfc (hi x h.1),<- zfc (hi y h.2.1),e])
  rw [<- cm]
  exact zyg rfl ((zqc v1).trans ((zqc v2).trans ((zqc v3).trans ((zqc (fs e)).trans rfl))))
 ·rw [h,if_neg jb8]
  exact zyg rfl ((zqc v1).trans ((zqc v2).trans ((zqc v3).trans (zfh (fs e)))))
theorem qkr {neg:Bool}{x:PV}{D:vj1}{d e:Nat} (h:toD 20 x=some D):opEq neg x d x e=some (.bl (neg^^true),om):=by
 unfold opEq
 rw [h]
 show some (PV.bl (neg^^ve1 D D),om)=_
 rw [SeqAt.eqv_refl D (zww 20 x D h).1]
theorem qlj (zs:List Z3):∃ D,toD 20 (zt zs)=some D:=by
 refine ⟨.list (zs.map λ z=>.tuple [.int z.1,.int z.2.1,.int z.2.2]),?_⟩
 show (toDL (toD 19) (zs.map z3)).map PyData.list=_
 rw [zke (q:=λ z=>.tuple [.int z.1,.int z.2.1,.int z.2.2]) λ z=>rfl]
 rfl
theorem qo7 {t:List (List Int)} (ht:Tab a b t) (ha:a<=100) (hb:b<=100):F13 [tb t]=.ok (.bl true,om,.non):=qm4 ht ha hb
theorem qpf:F14 [.exn 2,.int 1]=.ok (.bl true,om,.non):=by kernel_rfl
theorem qlf:∀ zs:List Z3,zkb (zs.map z3)=true
 | []=>rfl
 | z::r=>by rw [jc2];unfold zkb;rw [qlf r];rfl
theorem qoe (zs:List Z3):d1 (zs.map z3)=om:=by unfold d1;rw [if_pos (qlf zs)]
def qhb:Fs:=(sSeq (sSet false 4 (zqb zzu (zqa (bVar 1) (aNil))) [1])
 (sSeq (sSet false 5 (bC .non) [])
 (sSeq (sSet true 6 (bC .non) [])
 (sSeq (sTry 0 5 7 [6] (sSet true 6 (zqw F6 (zqa (bVar 0) (zqa (bVar 4) (aNil)))) [0,4]))
 (sSeq (sIf (bT (bBin (opEq true) (bVar 4) (bVar 1))) (sRet (bC (.bl false))) sNil)
 (sIf (bT (bBin (opIs false) (bVar 2) (bC .non))) (sIf (bT (bUn zxj (zqw F14 (zqa (bVar 5) (zqa (bC (.int 1)) (aNil)))))) (sRet (bC (.bl false))) sNil) (sIf (bT (bOrV (bBin (opIs true) (bVar 5) (bC .non)) (bOrV (bUn zxj (zvd F12 6 (zqa (bVar 2) (aNil)))) (bUn zxj (zve F13 6))))) (sRet (bC (.bl false))) sNil)))))))
theorem qk9:b17=(sSeq (sSet false 2 (zqw F16 (zqa (bVar 0) (zqa (bVar 1) (aNil)))) [0,1])
 (sSeq (zza zqx (zqa (bC (.int 2)) (aNil)) (asgN 3) qhb)
 (sRet (bC (.bl true))))):=by kernel_rfl
theorem qiy (ha:1<=a/\a<=100) (hb:1<=b/\b<=100) (hc:1<=c) (hl:zs.length<=100000) {s3 s4 s5 s6 s7:QQ.Slot}:∃ t4 t5 t6 t7,qhb [some (bx a b c,0),some (zt zs,0),some (dueV a b c zs,om),s3,s4,s5,s6,s7]=.nx [some (bx a b c,0),some (zt zs,0),some (dueV a b c zs,om),s3,t4,t5,t6,t7]:=by
 let E:QQ.Slot:=some (dueV a b c zs,om)
 let R (s4 s5 s6 s7:QQ.Slot):Rho:=[some (bx a b c,0),some (zt zs,0),E,s3,s4,s5,s6,s7]
 let N:QQ.Slot:=some (.non,om)
 let Hd:QQ.Slot:=some (zt zs,om)
 have v1:sSet false 4 (zqb zzu (zqa (bVar 1) (aNil))) [1] (R s4 s5 s6 s7)=.nx (R Hd s5 s6 s7):=by
  have k:zqb zzu (zqa (bVar 1) aNil) (R s4 s5 s6 s7)=.ok (zt zs,om,R s4 s5 s6 s7):=zqu (zqq (x:=zt zs) (d:=0) rfl) (by show some (PV.lst (zs.map z3),d1 (zs.map z3))=_;rw [qoe];rfl)
  exact setF k (show 4 < 8 by decide) rfl
 have v2:sSet false 5 (bC .non) [] (R Hd s5 s6 s7)=.nx (R Hd N s6 s7):=rfl
 have v3:sSet true 6 (bC .non) [] (R Hd N s6 s7)=.nx (R Hd N N s7):=rfl
 obtain ⟨D,hD⟩:=qlj zs
 have t5:∀ s5 s6 s7,bT (bBin (opEq true) (bVar 4) (bVar 1)) (R Hd s5 s6 s7)=.ok (false,R Hd s5 s6 s7):=λ s5 s6 s7=>
  t_ok (zxb (x:=zt zs) (y:=zt zs) (d:=0) (e:=0) rfl rfl (qkr hD))
 have as:(zqa (bVar 0) (zqa (bVar 4) (aNil))) (R Hd N N s7)=.ok ([(bx a b c,0),(zt zs,0)],R Hd N N s7):=rfl
 have pz:=qo3 (a:=a) (b:=b) (c:=c) (zs:=zs) ha hb hc hl
 unfold qhb
 cases ho:okZ a b c zs with
 | true=>
  rw [ho,if_pos rfl] at pz
  let u:=mxA (zs.map ofZ) (zwv a b)
  have hu:Tab a b u:=by
   unfold okZ at ho
   rw [jb0] at ho
   exact zmg (zkd a b) λ x hx=>by
    obtain ⟨z,hz,rfl⟩:=jd6.mp hx
    have:=qgm (jc7.mp ho.1 z hz)
    exact ⟨this.1,this.2.1⟩
  have hE:E=some (tb u,om):=by show some (dueV a b c zs,om)=_;unfold dueV;rw [ho,if_pos rfl]
  have v4:sTry 0 5 7 [6] (sSet true 6 (zqw F6 (zqa (bVar 0) (zqa (bVar 4) (aNil)))) [0,4]) (R Hd N N s7)=.nx (R Hd N (some (tb u,om)) s7):=by
   have k:sSet true 6 (zqw F6 (zqa (bVar 0) (zqa (bVar 4) (aNil)))) [0,4] (R Hd N N s7)=.nx (R Hd N (some (tb u,om)) s7):=setT (zxt as pz) (show 6 < 8 by decide) rfl
   unfold sTry
   rw [k]
  refine ⟨Hd,N,none,s7,(zqc v1).trans ((zqc v2).trans ((zqc v3).trans ((zqc v4).trans ((zkx (t5 _ _ _)).trans ?_))))⟩
  let W (s6:QQ.Slot):Rho:=[some (bx a b c,0),some (zt zs,0),some (tb u,om),s3,Hd,N,s6,s7]
  have hR:∀ s6,R Hd N s6 s7=W s6:=λ s6=>by show [_,_,E,_,_,_,_,_]=_;rw [hE]
  rw [hR]
  have t7:bT (bBin (opIs false) (bVar 2) (bC .non)) (W (some (tb u,om)))=.ok (false,W (some (tb u,om))):=rfl
  have c1:bBin (opIs true) (bVar 5) (bC .non) (W (some (tb u,om)))=.ok (.bl false,om,W (some (tb u,om))):=rfl
  have c2:zvd F12 6 (zqa (bVar 2) (aNil)) (W (some (tb u,om)))=.ok (.bl true,om,W (some (tb u,om))):=qoz (p:=(tb u,om)) (x0:=tb u) (d0:=om) (xs:=[(tb u,0)]) rfl rfl rfl (qki hu (by omega) (by omega)) rfl
  have c3:zve F13 6 (W (some (tb u,om)))=.ok (.bl true,om,W none):=qpb (x0:=tb u) (d0:=om) rfl (qo7 hu ha.2 hb.2) rfl rfl
  refine (if_f t7).trans ((if_f (t_ok ((orF c1).trans ((orF (zyp c2)).trans (zyp c3))))).trans ?_)
  show Rs.nx (W none)=_
  rw [<- hR]
 | false=>
  rw [ho,if_neg jb8] at pz
  have hE:E=N:=by show some (dueV a b c zs,om)=_;unfold dueV;rw [ho,if_neg jb8]
  have v4:sTry 0 5 7 [6] (sSet true 6 (zqw F6 (zqa (bVar 0) (zqa (bVar 4) (aNil)))) [0,4]) (R Hd N N s7)=.nx (R Hd (some (.exn 2,om)) N none):=by
   have k:sSet true 6 (zqw F6 (zqa (bVar 0) (zqa (bVar 4) (aNil)))) [0,4] (R Hd N N s7)=.exc 2:=qjg (zmv as pz)
   unfold sTry
   rw [k]
   rfl
  refine ⟨Hd,some (.exn 2,om),N,none,(zqc v1).trans ((zqc v2).trans ((zqc v3).trans ((zqc v4).trans ((zkx (t5 _ _ _)).trans ?_))))⟩
  let W:Rho:=[some (bx a b c,0),some (zt zs,0),N,s3,Hd,some (.exn 2,om),N,none]
  have hR:R Hd (some (.exn 2,om)) N none=W:=by show [_,_,E,_,_,_,_,_]=_;rw [hE]
  rw [hR]
  have t7:bT (bBin (opIs false) (bVar 2) (bC .non)) W=.ok (true,W):=rfl
  refine (if_t t7).trans ((if_f (t_ok (zyp (zxt (xs:=[(.exn 2,om),(.int 1,om)]) (ρ1:=W) rfl qpf)))).trans ?_)
  show Rs.nx W=_
  rw [<- hR]
theorem qf1 (ha:1<=a/\a<=100) (hb:1<=b/\b<=100) (hc:1<=c) (hl:zs.length<=100000):F17 [bx a b c,zt zs]=.ok (.bl true,om,.non):=by
 let R (s2 s3 s4 s5 s6 s7:QQ.Slot):Rho:=[some (bx a b c,0),some (zt zs,0),s2,s3,s4,s5,s6,s7]
 let E:QQ.Slot:=some (dueV a b c zs,om)
 have v1:sSet false 2 (zqw F16 (zqa (bVar 0) (zqa (bVar 1) (aNil)))) [0,1] (R none none none none none none)=.nx (R E none none none none none):=setF (zxt (xs:=[(bx a b c,0),(zt zs,0)]) rfl (qn8 ha hb hl)) (show 2 < 8 by decide) rfl
 obtain ⟨ρ',v2,r3,r4,r5,r6,r7,rfl⟩:=zzp (i:=3) (body:=qhb) (en:=zqx) (fa:=zqa (bC (.int 2)) (aNil)) (ρ:=R E none none none none none) (ρ1:=R E none none none none none) (as:=[(.int 2,om)]) (lo:=0) (hi:=2) (λ _ ρ=>∃ s3 s4 s5 s6 s7,ρ=R E s3 s4 s5 s6 s7) rfl (zwi (by omega) (by omega)) ⟨_,_,_,_,_,rfl⟩ (by
  rintro j ρ hj ⟨s3,s4,s5,s6,s7,rfl⟩
  obtain ⟨t4,t5,t6,t7,e⟩:=qiy (a:=a) (b:=b) (c:=c) (zs:=zs) ha hb hc hl (s3:=some (.int (0 + (j:Int)),om)) (s4:=s4) (s5:=s5) (s6:=s6) (s7:=s7)
  exact ⟨show 3 < 8 by decide,_,e,_,_,_,_,_,rfl⟩)
 have hF:F17=mkFn false 2 6 b17:=rfl
 rw [hF,qk9]
 exact zyg rfl ((zqc v1).trans ((zqc v2).trans rfl))
end
theorem qlb:b15=(sSeq (sSet false 1 (zqb zqh (aNil)) [])
 (sSeq (zza zqx (zqa (zqb zxd (zqa (bVar 0) (aNil))) (aNil)) (asgN 2) (zza zqx (zqa (zqb zxd (zqa (bBin zqj (bVar 0) (bVar 2)) (aNil))) (aNil)) (asgN 3) (sSet false 1 (bBin zqf (bVar 1) (zxv zqx (zqa (bBin zqj (bBin zqj (bVar 0) (bVar 2)) (bVar 3)) (aNil)) 1 (asgN 4) zqp (zqb zxz (zqa (bVar 2) (zqa (bVar 3) (zqa (bVar 4) (aNil))))))) [1,2,3])))
 (zbm 1))):=by kernel_rfl
theorem qog:∀ cs:List C3,zkb (cs.map c3)=true
 | []=>rfl
 | z::r=>by rw [jc2];unfold zkb;rw [qog r];rfl
theorem qpo (cs:List C3):d1 (cs.map c3)=om:=by unfold d1;rw [if_pos (qog cs)]
section
variable {a b c:Nat}{t:List (List Int)}
theorem qk1 (p:Pile a b c t) (ha:1<=a/\a<=30) (hb:1<=b/\b<=30) (hc:1<=c/\c<=1000):F15 [tb t]=.ok (ct (zxh t a b),om,.non):=by
 have zz:=sz
 let R (s1 s2 s3:QQ.Slot):Rho:=[some (tb t,0),s1,s2,s3]
 let C (cs:List C3):QQ.Slot:=some (ct cs,om)
 have hF:F15=mkFn false 1 3 b15:=rfl
 rw [hF,qlb]
 have v1:sSet false 1 (zqb zqh (aNil)) [] (R none none none)=.nx (R (C []) none none):=rfl
 have ln:(zqa (zqb zxd (zqa (bVar 0) (aNil))) (aNil)) (R (C []) none none)=.ok ([(.int (a:Int),om)],R (C []) none none):=by
  refine zqq (zqu (zqq (x:=tb t) (d:=0) rfl) ?_)
  show some (PV.int (((t.map il).length:Nat):Int),om)=_
  rw [ja4,p.tab.1]
 obtain ⟨ρ',v2,s2,s3,rfl⟩:=zzp (i:=2) (body:=zza zqx (zqa (zqb zxd (zqa (bBin zqj (bVar 0) (bVar 2)) (aNil))) (aNil)) (asgN 3) (sSet false 1 (bBin zqf (bVar 1) (zxv zqx (zqa (bBin zqj (bBin zqj (bVar 0) (bVar 2)) (bVar 3)) (aNil)) 1 (asgN 4) zqp (zqb zxz (zqa (bVar 2) (zqa (bVar 3) (zqa (bVar 4) (aNil))))))) [1,2,3])) (en:=zqx) (ρ:=R (C []) none none) (lo:=0) (hi:=(a:Int)) (λ i ρ=>∃ s2 s3,ρ=R (C (zxh t i b)) s2 s3) ln (zwi (by omega) (by omega)) ⟨_,_,rfl⟩ (by
  rintro i ρ hi ⟨s2,s3,rfl⟩
  have hia:i < a:=by omega
  refine ⟨show 2 < 4 by decide,?_⟩
  show ∃ ρ2,zza zqx _ (asgN 3) _ (R (C (zxh t i b)) (some (.int (0 + (i:Int)),om)) s3)=_/\_
  rw [jk9]
  let Q (cs:List C3) (s3:QQ.Slot):Rho:=R (C cs) (some (.int (i:Int),om)) s3
  have rw1:bBin zqj (bVar 0) (bVar 2) (Q (zxh t i b) s3)=.ok (il (t.getD i []),0,Q (zxh t i b) s3):=qig (f:=bVar 0) (g:=bVar 2) (ρ:=Q (zxh t i b) s3) (ρ1:=Q (zxh t i b) s3) (ρ2:=Q (zxh t i b) s3) (k:=(i:Int)) (d:=0) (e:=om) rfl rfl (zka (ji6 i) (by rw [je6,jb9 (by rw [p.tab.1];exact hia),ja6,jb9 (by rw [p.tab.1];exact hia),Option.getD_some]))
  have ln2:(zqa (zqb zxd (zqa (bBin zqj (bVar 0) (bVar 2)) (aNil))) (aNil)) (Q (zxh t i b) s3)=.ok ([(.int (b:Int),om)],Q (zxh t i b) s3):=by
   refine zqq (zqu (zqq rw1) ?_)
   show some (PV.int ((((t.getD i []).map PV.int).length:Nat):Int),om)=_
   rw [ja4,p.tab.row hia]
  obtain ⟨ρ'',v3,s3',rfl⟩:=zzp (i:=3) (body:=sSet false 1 (bBin zqf (bVar 1) (zxv zqx (zqa (bBin zqj (bBin zqj (bVar 0) (bVar 2)) (bVar 3)) (aNil)) 1 (asgN 4) zqp (zqb zxz (zqa (bVar 2) (zqa (bVar 3) (zqa (bVar 4) (aNil))))))) [1,2,3]) (en:=zqx) (ρ:=Q (zxh t i b) s3) (lo:=0) (hi:=(b:Int)) (λ j ρ=>∃ s3,ρ=Q (zxh t i b++rowC t i j) s3) ln2 (zwi (by omega) (by omega)) ⟨s3,by rw [show rowC t i 0=[] from rfl,jd9]⟩ (by
   rintro j ρ hj ⟨s3,rfl⟩
   have hjb:j < b:=by omega
   refine ⟨show 3 < 4 by decide,?_⟩
   show ∃ ρ2,sSet false 1 _ _ (Q (zxh t i b++rowC t i j) (some (.int (0 + (j:Int)),om)))=_/\_
   rw [jk9]
   let W:Rho:=Q (zxh t i b++rowC t i j) (some (.int (j:Int),om))
   have lo:=p.lo i j hia hjb
   have hh:=p.hi i j hia hjb
   have gx:=zhl (f:=bVar 0) (h:=bVar 2) (k:=bVar 3) (ρ:=W) (ρ1:=W) (ρ2:=W) (ρ3:=W) (d:=0) (e:=om) (e':=om) p.tab rfl rfl rfl hia hjb
   have cp:=zmr (n:=4) (en:=zqx) (fa:=zqa (bBin zqj (bBin zqj (bVar 0) (bVar 2)) (bVar 3)) (aNil)) (elt:=zqb zxz (zqa (bVar 2) (zqa (bVar 3) (zqa (bVar 4) (aNil))))) (ρ:=W) (ρ1:=W) (lo:=0) (hi:=g t i j) (q:=λ k=>c3 (i,j,k)) (zqq gx) (zwi (by omega) (by omega)) rfl (λ k hk=>by
    show Rz.ok (PV.tup [.int (i:Int),.int (j:Int),.int (0 + (k:Int))],om,_)=_
    rw [jk9]
    rfl) (by omega)
   have e1:PV.lst ((jd0 ((g t i j) - 0).toNat).map λ k=>c3 (i,j,k))=ct (qb6 t i j):=by
    unfold ct qb6
    rw [jd7,Int.sub_zero]
    rfl
   rw [e1] at cp
   have l1:=zyi p (jk5 hia)
   have l2:=zpz p hia (jk5 hjb)
   have l3:=zgo t i j
   have l4:i * (b * c)<=900000:=qon (by omega) hb.2 hc.2
   have l5:j * c<=30 * 1000:=jh8 (by omega) hc.2
   have ad:=zyn (f:=bVar 1) (ρ:=W) (ρ1:=W) (xs:=(zxh t i b++rowC t i j).map c3) (d:=0) rfl cp (by rw [ja4,ja4,ja8,l3];omega)
   rw [<- je8,qpo] at ad
   refine ⟨Q (zxh t i b++rowC t i (j + 1)) (some (.int (j:Int),om)),setF ad (show 1 < 4 by decide) ?_,_,rfl⟩
   rw [zfj,<- jh5]
   rfl)
  rw [show ((b:Int) - 0).toNat=b by omega] at *
  refine ⟨_,v3,?_⟩
  rw [<- zbc]
  exact ⟨_,_,rfl⟩)
 rw [show ((a:Int) - 0).toNat=a by omega] at *
 exact zyg rfl ((zqc v1).trans ((zqc v2).trans rfl))
end
def GZ (n:Nat) (f:Fx) (ρ:Rho):Prop:=∃ zs d,f ρ=.ok (zt zs,d,ρ)/\zs.length<=n
theorem qk0 (zs:List Z3) (lo hi:Option Int):∃ us:List Z3,cutP (zs.map z3) lo hi=us.map z3/\us.length<=zs.length:=by
 unfold cutP
 refine ⟨(zs.drop _).take _,by rw [<- jn3,<- List.map_take],?_⟩
 rw [jd1,je9]
 omega
section
variable {ρ:Rho}{n m:Nat}{f h j:Fx}
theorem GZ.var {i:Nat}{zs:List Z3} (v:Val ρ i (zt zs)) (hl:zs.length<=n):GZ n (bVar i) ρ:=⟨zs,_,v.var,hl⟩
theorem GZ.to (q:GZ n f ρ) (hj:∃ k e,j ρ=.ok (.int k,e,ρ)):GZ n (bSl f none (some j)) ρ:=by
 obtain ⟨zs,d,e,hl⟩:=q
 obtain ⟨k,c,ej⟩:=hj
 obtain ⟨us,eu,hu⟩:=qk0 zs none (some k)
 refine ⟨us,d1 (us.map z3),?_,by omega⟩
 unfold bSl
 rw [e]
 dsimp only [Rz.bind,evO]
 rw [ej]
 dsimp only
 unfold opSl zt
 dsimp only
 rw [eu]
theorem GZ.at (q:GZ n f ρ) (hj:∃ k e,j ρ=.ok (.int k,e,ρ)):GZ n (bSl f (some j) none) ρ:=by
 obtain ⟨zs,d,e,hl⟩:=q
 obtain ⟨k,c,ej⟩:=hj
 obtain ⟨us,eu,hu⟩:=qk0 zs (some k) none
 refine ⟨us,d1 (us.map z3),?_,by omega⟩
 unfold bSl
 rw [e]
 dsimp only [Rz.bind,evO]
 rw [ej]
 dsimp only
 unfold opSl zt
 dsimp only
 rw [eu]
theorem GZ.add (q:GZ n f ρ) (r:GZ m h ρ) (hs:n + m<=5000):GZ (n + m) (bBin zqf f h) ρ:=by
 have zz:=sz
 obtain ⟨zs,d,e,hl⟩:=q
 obtain ⟨us,d',e',hl'⟩:=r
 have:=zyn (f:=f) (h:=h) e e' (by rw [ja4,ja4];omega)
 rw [<- je8] at this
 exact ⟨zs++us,_,this,by rw [ja8];omega⟩
def Gc (f:Fx) (ρ:Rho):Prop:=∃ z d,f ρ=.ok (z3 z,d,ρ)
theorem Gc.var {i:Nat}{z:Z3} (v:Val ρ i (z3 z)):Gc (bVar i) ρ:=⟨z,_,v.var⟩
theorem GZ.one (q:Gc f ρ):GZ 1 (zqb zqh (zqa f aNil)) ρ:=by
 obtain ⟨z,d,e⟩:=q
 exact ⟨[z],_,zqu (zqq e) rfl,jb4 _⟩
theorem GZ.two (q:Gc f ρ) (r:Gc h ρ):GZ 2 (zqb zqh (zqa f (zqa h aNil))) ρ:=by
 obtain ⟨z,d,e⟩:=q
 obtain ⟨z',d',e'⟩:=r
 exact ⟨[z,z'],_,zqu (zxk e (zqq e')) rfl,jb4 _⟩
theorem GZ.nil:GZ 0 (zqb zqh aNil) ρ:=⟨[],_,rfl,jb4 _⟩
end
def Zl (x:PV):Prop:=∃ zs,x=zt zs/\zs.length<=2000
def GL (k:Nat) (fa:Fa) (ρ:Rho):Prop:=∃ xs,fa ρ=.ok (xs,ρ)/\xs.length=k/\∀ p∈xs,Zl p.1
section
variable {ρ:Rho}{f:Fx}{fa:Fa}{k n:Nat}
theorem GL.nil:GL 0 aNil ρ:=⟨[],rfl,rfl,λ _ h=>nomatch h⟩
theorem GL.cons (q:GZ n f ρ) (hn:n<=2000) (r:GL k fa ρ):GL (k + 1) (zqa f fa) ρ:=by
 obtain ⟨zs,d,e,hl⟩:=q
 obtain ⟨xs,e',hk,hx⟩:=r
 refine ⟨(zt zs,d)::xs,zxk e e',by rw [jb2,hk],λ p hp=>?_⟩
 rcases jb3.mp hp with rfl | hp
 ·exact ⟨zs,rfl,by omega⟩
 ·exact hx p hp
theorem GL.lst (q:GL k fa ρ) (hk:k<=100):∃ els d,zqb zqh fa ρ=.ok (.lst els,d,ρ)/\d≠0/\els.length=k/\∀ x∈els,Zl x:=by
 have zz:=sz
 obtain ⟨xs,e,hl,hx⟩:=q
 refine ⟨xs.map (·.1),if zym xs then om else 1,zqu e ?_,?_,by rw [ja4,hl],λ x h=>?_⟩
 ·unfold zqh;rw [if_pos (by omega)]
 ·split <;> decide
 ·obtain ⟨p,hp,rfl⟩:=jd6.mp h
  exact hx p hp
end
structure Ek (ns:List Int) (k:Nat) (x:PV) (ρ:Rho):Prop where
 len:ρ.length=16
 v0:ρ[0]?=some (some (.scr ns,om))
 v1:ρ[1]?=some (some (.int (k:Int),om))
 p:ρ[2]?=some (some (x,om))
section
variable {ns:List Int}{k:Nat}{x x':PV}{ρ:Rho}
theorem Ek.put {j:Nat}{s:QQ.Slot} (e:Ek ns k x ρ) (hj:3<=j):Ek ns k x (ρ.set j s):=
 ⟨by rw [jc0];exact e.len,by rw [ja0 (by omega)];exact e.v0,by rw [ja0 (by omega)];exact e.v1,by rw [ja0 (by omega)];exact e.p⟩
theorem Ek.cool {d:Nat}{vs:List Nat} (e:Ek ns k x ρ) (h0:vs.contains 0=false) (h1:vs.contains 1=false) (h2:vs.contains 2=false):Ek ns k x (zqr d vs ρ):=
 ⟨by rw [zkq];exact e.len,by rw [zwz h0];exact e.v0,by rw [zwz h1];exact e.v1,by rw [zwz h2];exact e.p⟩
theorem Ek.pool (e:Ek ns k x ρ):Ek ns k x' (ρ.set 2 (some (x',om))):=
 ⟨by rw [jc0];exact e.len,by rw [ja0 (by decide)];exact e.v0,by rw [ja0 (by decide)];exact e.v1,jb1 (by rw [e.len];decide)⟩
theorem zvy {f:Fx}{d:Nat}{B m:Int} (e:Ek ns k x ρ) (h:Pl B x) (hB:B<=100000) (hm:0 < m/\m < 2 ^ 128) (hf:f ρ=.ok (.int m,d,ρ)):∃ v x',(0<=v/\v < m)/\Pl (B + 1) x'/\zqd a_take 2 (zqa f aNil) ρ=.ok (.int v,om,ρ.set 2 (some (x',om))):=by
 obtain ⟨v,x',hv,hp,e1⟩:=qac h hB hm
 exact ⟨v,x',hv,hp,zzk (p:=(x,om)) (x0:=x) (d0:=om) e.p (zqq hf) e.p e1 rfl⟩
theorem qke {i:Nat}{zs:List Z3} (v:Val ρ i (zt zs)):zqb zxd (zqa (bVar i) aNil) ρ=.ok (.int (zs.length:Nat),om,ρ):=by
 refine zqu (zqq v.var) ?_
 show some (PV.int (((zs.map z3).length:Nat):Int),om)=_
 rw [ja4]
theorem qer:∀ (l:List Z3) (n:Nat),(l.map z3).eraseIdx n=(l.eraseIdx n).map z3
 | [],_=>rfl
 | _::_,0=>rfl
 | z::r,n + 1=>by show z3 z::(r.map z3).eraseIdx n=_;rw [qer r n];rfl
def wC:Fb:=bT (bBin (opEq true) (bVar 4) (zqb zqh (aNil)))
def wB:Fs:=zkz 5 4 (zqd F8 2 (zqa (zqb zxd (zqa (bVar 4) (aNil))) (aNil)))
theorem qn5 {zs:List Z3} (v:Val ρ 4 (zt zs)):wC ρ=.ok (!decide (zs=[]),ρ):=by
 refine t_ok (d:=om) (zxb v.var (y:=.lst []) (e:=om) rfl ?_)
 unfold opEq
 have h1:toD 20 (zt zs)=some (.list (zs.map λ z=>.tuple [.int z.1,.int z.2.1,.int z.2.2])):=by
  show (toDL (toD 19) (zs.map z3)).map PyData.list=_
  rw [zke (q:=λ z=>.tuple [.int z.1,.int z.2.1,.int z.2.2]) λ z=>rfl]
  rfl
 have h2:toD 20 (.lst [])=some (.list []):=rfl
 rw [h1,h2]
 dsimp only
 cases zs with
 | nil=>rfl
 | cons z r=>rfl
theorem qca:∀ (n:Nat) (l m:List Z3) (x:PV) (B:Int) (ρ:Rho) (d4 d5:Nat),l.length < n->Ek ns k x ρ->Pl B x->B + l.length<=90000->m.length + l.length<=1000->ρ[4]?=some (some (zt l,d4 + 1))->ρ[5]?=some (some (zt m,d5 + 1)) ->
  ∃ m' x' ρ',zbr wC wB n ρ=.nx ρ'/\Ek ns k x' ρ'/\Pl (B + l.length) x'/\m'.length<=m.length + l.length/\Val ρ' 5 (zt m')/\∀ j,3<=j->j≠4->j≠5->ρ'[j]?=ρ[j]?
 | 0,l,m,x,B,ρ,d4,d5,hn,_,_,_,_,_,_=>by omega
 | n + 1,l,m,x,B,ρ,d4,d5,hn,ek,hp,hB,hml,h4,h5=>by
  have zz:=sz
  have c1:=qn5 (zs:=l) ⟨_,h4⟩
  by_cases h0:l=[]
  ·subst h0
   refine ⟨m,x,ρ,?_,ek,by simpa using hp,by omega,⟨_,h5⟩,λ _ _ _ _=>rfl⟩
   unfold zbr
   rw [c1]
   rfl
  ·replace c1:wC ρ=.ok (true,ρ):=by rw [c1,decide_eq_false h0];rfl
   have hl0:0 < l.length:=List.length_pos_iff.mpr h0
   have hl1:(l.length:Int)<=1000:=by omega
   obtain ⟨v,x',hv,hp',et⟩:=zvy (m:=(l.length:Nat)) ek hp (by omega) ⟨by omega,jl0 hl1 (by decide)⟩ (qke ⟨_,h4⟩)
   let ρ1:=ρ.set 2 (some (x',om))
   have e4:ρ1[4]?=some (some (zt l,d4 + 1)):=by rw [ja0 (by decide)];exact h4
   have e5:ρ1[5]?=some (some (zt m,d5 + 1)):=by rw [ja0 (by decide)];exact h5
   have hvl:v.toNat < l.length:=by omega
   have si:vj4 v (l.map z3).length=some v.toNat:=by
    rw [ja4]
    unfold vj4
    have h1:¬ v < 0:=by omega
    simp only [h1,if_false]
    rw [if_pos (by rw [jb0,decide_eq_true_iff,decide_eq_true_iff];omega)]
   have gi:(l.map z3)[v.toNat]?=some (z3 l[v.toNat]):=by rw [jc6,jb9 hvl];rfl
   let ρ2:=(ρ1.set 4 (some (zt (l.eraseIdx v.toNat),d4 + 1))).set 5 (some (zt (m++[l[v.toNat]]),d5 + 1))
   have st:wB ρ=.nx ρ2:=by
    unfold wB zkz
    rw [h5,h4]
    show (match zqd F8 2 (zqa (zqb zxd (zqa (bVar 4) aNil)) aNil) ρ with | .ok (.int k,_,ρ1)=>_ | _=>_)=_
    rw [et]
    show (match ρ1[5]?,ρ1[4]? with | some (some (.lst xs,d)),some (some (.lst ys,e))=>_ | _,_=>_)=_
    rw [e4,e5]
    show (match vj4 v (l.map z3).length with | some n=>_ | none=>_)=_
    rw [si]
    dsimp only
    rw [gi]
    dsimp only
    rw [if_pos ⟨by omega,by omega,rfl,by rw [ja4];omega,by omega,by omega⟩]
    show Rs.nx ((ρ1.set 4 (some (PV.lst ((l.map z3).eraseIdx v.toNat),d4 + 1))).set 5 (some (PV.lst (m.map z3++[z3 l[v.toNat]]),d5 + 1)))=_
    rw [qer]
    show Rs.nx _=Rs.nx ((ρ1.set 4 (some (zt (l.eraseIdx v.toNat),d4 + 1))).set 5 (some (zt (m++[l[v.toNat]]),d5 + 1)))
    unfold zt
    rw [je8]
    rfl
   have hle:(l.eraseIdx v.toNat).length=l.length - 1:=List.length_eraseIdx_of_lt hvl
   have ek2:Ek ns k x' ρ2:=(ek.pool.put (by decide)).put (by decide)
   obtain ⟨m',x'',ρ',e,ek',hp'',hm',vm,st'⟩:=qca n (l.eraseIdx v.toNat) (m++[l[v.toNat]]) x' (B + 1) ρ2 d4 d5 (by omega) ek2 hp' (by omega) (by rw [ja8,jc8];omega)
    (by rw [ja0 (by decide),jb1 (by rw [jc0,ek.len];decide)]) (jb1 (by rw [jc0,jc0,ek.len];decide))
   refine ⟨m',x'',ρ',?_,ek',?_,?_,vm,λ j h1 h2 h3=>?_⟩
   ·conv=>lhs;unfold zbr
    rw [c1]
    dsimp only
    rw [st]
    exact e
   ·have:B + 1 + ((l.eraseIdx v.toNat).length:Nat)=B + (l.length:Nat):=by rw [hle];omega
    rw [<- this]
    exact hp''
   ·rw [ja8,jc8] at hm'
    show m'.length<=m.length + l.length
    omega
   ·rw [st' j h1 h2 h3,ja0 (by omega),ja0 (by omega),ja0 (by omega)]
end
def LI:Fx:=zqb zze (zqa (zql (bVar 3) 1 (asgN 16) zqp (zqd F8 2 (zqa (bVar 16) (aNil)))) (aNil))
def LFar:Fx:=bBin zqj (zqb zqh (zqa (bC (.int 0)) (zqa (bC (.int 0)) (zqa (zqd F8 2 (zqa (bBin zmc (bC (.int 10)) (bC (.int 30))) (aNil))) (aNil))))) (zqd F8 2 (zqa (bC (.int 3)) (aNil)))
def LBey:Fx:=bBin zqf (bBin zqf (bSl (bVar 7) none (some (bVar 9))) (zqb zxz (zqa (bBin zqf (bBin zqj (bVar 3) (bVar 9)) (bVar 8)) (aNil)))) (bSl (bVar 7) (some (bBin zqf (bVar 9) (bC (.int 1)))) none)
def LBel:Fx:=bBin zqf (bBin zqf (bSl (bVar 7) none (some (bVar 9))) (zqb zxz (zqa (bBin zwa (bUn zyd (bC (.int 1))) (bVar 8)) (aNil)))) (bSl (bVar 7) (some (bBin zqf (bVar 9) (bC (.int 1)))) none)
def LLak:Fx:=bBin zqf (bSl (bVar 5) none (some (bVar 6))) (bSl (bVar 5) (some (bBin zqf (bVar 6) (bC (.int 1)))) none)
def LR1:Fa:=(zqa (bVar 5) (zqa (bBin zqf (bVar 5) (bSl (bVar 5) none (some (bVar 6)))) (zqa (bVar 12) (zqa (bBin zqf (bVar 5) (zqb zqh (zqa (bVar 7) (aNil)))) (zqa (bBin zqf (bBin zqf (bSl (bVar 5) none (some (bVar 6))) (zqb zqh (zqa (bVar 10) (aNil)))) (bSl (bVar 5) (some (bVar 6)) none)) (aNil))))))
def LR2:Fa:=(zqa (bBin zqf (bBin zqf (bSl (bVar 5) none (some (bVar 6))) (zqb zqh (zqa (bVar 11) (aNil)))) (bSl (bVar 5) (some (bVar 6)) none)) (zqa (zqb zqh (zqa (bVar 7) (aNil))) (zqa (zqb zqh (aNil)) (zqa (zqb zqh (zqa (zqb zxz (zqa (bC (.int 0)) (zqa (bC (.int 0)) (zqa (bC (.int 0)) (aNil))))) (aNil))) (zqa (zqb zqh (zqa (bVar 7) (zqa (bVar 7) (aNil)))) (aNil))))))
def LM:Fx:=zqb zze (zqa (zql (bVar 3) 1 (asgN 16) zqp (bBin zwa (bVar 16) (bC (.int 1)))) (aNil))
def LR3:Fa:=(zqa (bBin zqf (bVar 12) (bVar 12)) (zqa (bBin zqf (bVar 12) (zqb zqh (zqa (bVar 7) (aNil)))) (zqa (zqb zqh (zqa LM (aNil))) (aNil))))
def LS:Fx:=zqb zze (zqa (zql (bVar 3) 1 (asgN 16) zqp (bBin zwa (zqd F8 2 (zqa (zqb zws (zqa (bC (.int 4)) (zqa (bBin zqf (bVar 16) (bC (.int 2))) (aNil)))) (aNil))) (bC (.int 1)))) (aNil))
def LQ:Fs:=sIf (bT (bUn zxj (zqw F17 (zqa (bVar 3) (zqa (bVar 14) (aNil)))))) (sRet (bC (.bl false))) sNil
def LK:Fs:=(sSeq (sSet true 2 (zqw F7 (zqa (bVar 0) (zqa (bVar 1) (aNil)))) [0,1])
 (sSeq (sSet false 3 (zqd F9 2 (zqa (bC (.int 6)) (aNil))) [])
 (sSeq (sSet false 4 (zqw F15 (zqa (zqd F10 2 (zqa (bVar 3) (aNil))) (aNil))) [3])
 (sSeq (sSet false 5 (zqb zqh (aNil)) [])
 (sSeq (qc2 wC wB)
 (sSeq (sSet false 6 (zqd F8 2 (zqa (bBin zqf (zqb zxd (zqa (bVar 5) (aNil))) (bC (.int 1))) (aNil))) [5])
 (sSeq (sSet false 7 LI [3,3])
 (sSeq (sSet false 8 LFar [])
 (sSeq (sSet false 9 (zqd F8 2 (zqa (bC (.int 3)) (aNil))) [])
 (sSeq (sSet false 10 LBey [7,3,9,8,7])
 (sSeq (sSet false 11 LBel [7,8,7])
 (sSeq (sSet false 12 LLak [5,5])
 (sSeq (sSet false 13 (zqb zqh LR1) [5,5,5,12,5,7,5,10,5])
 (sSeq (sSet false 13 (bBin zyo (bVar 13) (zqb zqh LR2)) [13,5,11,5,7,7,7])
 (sSeq (sSet false 13 (bBin zyo (bVar 13) (zqb zqh LR3)) [13,12,12,12,7,3,3])
 (sSeq (sSet false 14 (zqb zqh (aNil)) [])
 (sSeq (zza zqx (zqa (bBin zqf (bC (.int 1)) (zqd F8 2 (zqa (bC (.int 12)) (aNil)))) (aNil)) (asgN 15) (sApp 14 LS [3,3]))
 (sSeq (sApp 13 (bBin zqf (bVar 14) (bSl (bVar 14) none (some (zqd F8 2 (zqa (bBin zqf (zqb zxd (zqa (bVar 14) (aNil))) (bC (.int 1))) (aNil)))))) [14,14])
 (zki 13 [14] (asgN 14) LQ)))))))))))))))))))
theorem qk8:b18=sSeq (zza zqx (zqa (zqb zyu (zqa (bC (.int 1)) (zqa (zqb zws (zqa (bC (.int 6)) (zqa (zqb zxd (zqa (bVar 0) (aNil))) (aNil)))) (aNil)))) (aNil)) (asgN 1) LK) (sRet (bC (.bl true))):=by kernel_rfl
section
variable {ns:List Int}{k a b c:Nat}{x:PV}{ρ:Rho}
theorem qb5 {n:Nat}{elt:Fx}{ρ ρ':Rho}{x y:PV}{xs:List PV}{acc:List (PV×Nat)} (hn:ρ.length=n) (he:elt (ρ++[some (x,dv x)])=.ok (y,om,ρ')) (ha:acc.length < va4):zxl 1 (asgN n) zqp elt (x::xs) ρ acc=zxl 1 (asgN n) zqp elt xs (ρ'.take n) (acc++[(y,om)]):=by
 conv=>lhs;unfold zxl
 have ea:asgN n x (ρ++ja5 1 none)=some (ρ++[some (x,dv x)]):=by
  unfold asgN
  rw [if_pos (by rw [ja8];simp;omega)]
  congr 1
  rw [<- hn,jh4 _ _ (jb4 _),jo0]
  rfl
 rw [ea]
 dsimp only
 have:zqp (ρ++[some (x,dv x)])=.ok (true,ρ++[some (x,dv x)]):=rfl
 rw [this]
 dsimp only [Rz.bindN]
 rw [if_pos rfl,he]
 dsimp only
 rw [if_pos ha,hn]
theorem qll {elt:Fx}{B:Int} (ek:Ek ns k x ρ) (hp:Pl B x) (hB:B<=90000) (vb:Val ρ 3 (bx a b c))
  (he:∀ (x:PV) (B m:Int) (ρ:Rho),Ek ns k x ρ->Pl B x->B<=90002->(m=a\/m=b\/m=c)->∃ v x',Pl (B + 1) x'/\elt (ρ++[some (.int m,om)])=.ok (.int v,om,ρ.set 2 (some (x',om))++[some (.int m,om)])):
  ∃ z x',Pl (B + 3) x'/\zqb zze (zqa (zql (bVar 3) 1 (asgN 16) zqp elt) (aNil)) ρ=.ok (z3 z,0,ρ.set 2 (some (x',om))):=by
 have zz:=sz
 obtain ⟨v1,x1,p1,e1⟩:=he x B a ρ ek hp (by omega) (.inl rfl)
 have k1:Ek ns k x1 (ρ.set 2 (some (x1,om))):=ek.pool
 obtain ⟨v2,x2,p2,e2⟩:=he x1 (B + 1) b _ k1 p1 (by omega) (.inr (.inl rfl))
 have k2:Ek ns k x2 ((ρ.set 2 (some (x1,om))).set 2 (some (x2,om))):=k1.pool
 obtain ⟨v3,x3,p3,e3⟩:=he x2 (B + 1 + 1) c _ k2 p2 (by omega) (.inr (.inr rfl))
 rw [jj1,jj1] at e3
 rw [jj1] at e2
 have tk:∀ (y m:PV),(ρ.set 2 (some (y,om))++[some (m,om)]).take 16=ρ.set 2 (some (y,om)):=λ y m=>by
  rw [jj6 (by rw [jc0,ek.len];exact jb4 _),ji8 (by rw [jc0,ek.len];exact jb4 _)]
 refine ⟨(v1,v2,v3),x3,by rw [show B + 3=B + 1 + 1 + 1 by (clear zz hB;omega)];exact p3,?_⟩
 refine zqu (zqq (x:=.lst [.int v1,.int v2,.int v3]) (d:=om) ?_) rfl
 unfold zql
 rw [vb.var]
 show (zxl 1 (asgN 16) zqp elt [.int (a:Int),.int (b:Int),.int (c:Int)] ρ []).bindN _=_
 rw [qb5 ek.len e1 (by show 0 < va4;omega),tk,qb5 (by rw [jc0];exact ek.len) e2 (by show 1 < va4;omega),tk,qb5 (by rw [jc0];exact ek.len) e3 (by show 2 < va4;omega),tk]
 rfl
theorem qlk {elt:Fx} (ek:Ek ns k x ρ) (vb:Val ρ 3 (bx a b c)) (he:∀ m:Int,∃ v,elt (ρ++[some (.int m,om)])=.ok (.int v,om,ρ++[some (.int m,om)])):Gc (zqb zze (zqa (zql (bVar 3) 1 (asgN 16) zqp elt) (aNil))) ρ:=by
 have zz:=sz
 obtain ⟨v1,e1⟩:=he a
 obtain ⟨v2,e2⟩:=he b
 obtain ⟨v3,e3⟩:=he c
 have tk:∀ (m:PV),(ρ++[some (m,om)]).take 16=ρ:=λ m=>by
  rw [jj6 (by rw [ek.len];exact jb4 _),ji8 (by rw [ek.len];exact jb4 _)]
 refine ⟨(v1,v2,v3),0,zqu (zqq (x:=.lst [.int v1,.int v2,.int v3]) (d:=om) ?_) rfl⟩
 unfold zql
 rw [vb.var]
 show (zxl 1 (asgN 16) zqp elt [.int (a:Int),.int (b:Int),.int (c:Int)] ρ []).bindN _=_
 rw [qb5 ek.len e1 (by show 0 < va4;omega),tk,qb5 ek.len e2 (by show 1 < va4;omega),tk,qb5 ek.len e3 (by show 2 < va4;omega),tk]
 rfl
theorem stp {i d:Nat}{f:Fx}{vs:List Nat}{ρ1:Rho}{y:PV} (ek:Ek ns k x ρ1) (h:f ρ=.ok (y,d,ρ1)) (hi:3<=i/\i < 16) (h0:vs.contains 0=false) (h1:vs.contains 1=false) (h2:vs.contains 2=false):
  ∃ ρ',sSet false i f vs ρ=.nx ρ'/\Ek ns k x ρ'/\ρ'[i]?=some (some (y,d))/\(∀ j v,j≠i->Val ρ1 j v->Val ρ' j v)/\∀ j,j≠i->vs.contains j=false->ρ'[j]?=ρ1[j]?:=
 ⟨_,qjh h (by rw [ek.len];exact hi.2),(ek.cool h0 h1 h2).put hi.1,jb1 (by rw [zkq,ek.len];exact hi.2),λ j v hj hv=>(hv.cool).set (vb2 hj),λ j hj hc=>by rw [ja0 (vb2 hj),zwz hc]⟩
theorem qfk {m:PV}{s:QQ.Slot} (ek:Ek ns k x ρ):(ρ++[some (m,om)]).set 2 s=ρ.set 2 s++[some (m,om)]:=by
 rw [List.set_append_left _ _ (by rw [ek.len];decide)]
theorem qhr {m:PV} (ek:Ek ns k x ρ):(ρ++[some (m,om)])[2]?=some (some (x,om)):=by
 rw [jc3 (by rw [ek.len];decide)];exact ek.p
theorem zmw {m:PV} (ek:Ek ns k x ρ):(ρ++[some (m,om)])[16]?=some (some (m,om)):=by
 rw [jc9 (by rw [ek.len];exact jb4 _),ek.len];rfl
theorem qpe {B:Int} (ek:Ek ns k x ρ) (hp:Pl B x) (hB:B<=90000) (vb:Val ρ 3 (bx a b c)) (ha:1<=a/\a<=6) (hb:1<=b/\b<=6) (hc:1<=c/\c<=6):∃ z x',Pl (B + 3) x'/\LI ρ=.ok (z3 z,0,ρ.set 2 (some (x',om))):=
 qll ek hp hB vb λ x B m ρ ek hp hB hm=>by
  obtain ⟨v,x',hv,hp',e⟩:=zgx (m:=m) hp (by (clear hm hc hb ha;omega)) (by omega)
  refine ⟨v,x',hp',zzk (p:=(x,om)) (x0:=x) (d0:=om) (xs:=[(.int m,om)]) (qhr ek) (zqq (Val.var ⟨om,zmw ek⟩)) (qhr ek) e (qfk ek)⟩
theorem qpc {B:Int} (ek:Ek ns k x ρ) (hp:Pl B x) (hB:B<=90000) (vb:Val ρ 3 (bx a b c)) (ha:1<=a/\a<=6) (hb:1<=b/\b<=6) (hc:1<=c/\c<=6):∃ z x',Pl (B + 3) x'/\LS ρ=.ok (z3 z,0,ρ.set 2 (some (x',om))):=
 qll ek hp hB vb λ x B m ρ ek hp hB hm=>by
  let W:Rho:=ρ++[some (.int m,om)]
  have a1:=zwo (Val.var (ρ:=W) ⟨om,zmw ek⟩) (g:=bC (.int 2)) (j:=2) (e:=om) (ρ2:=W) rfl
  have a2:zqb zws (zqa (bC (.int 4)) (zqa (bBin zqf (bVar 16) (bC (.int 2))) aNil)) W=.ok (.int (if m + 2 < 4 then m + 2 else 4),om,W):=zqu (zxk (x:=.int 4) (d:=om) rfl (zqq a1)) rfl
  obtain ⟨v,x',hv,hp',e⟩:=zgx (m:=if m + 2 < 4 then m + 2 else 4) hp (by (clear hm hc hb ha;omega)) (by split <;> (clear hB hc hb ha;omega))
  have a3:=zzk (F:=a_take) (p:=(x,om)) (x0:=x) (d0:=om) (xs:=[(.int (if m + 2 < 4 then m + 2 else 4),om)]) (ρ:=W) (qhr ek) (zqq a2) (qhr ek) e (qfk ek)
  exact ⟨v - 1,x',hp',zbx a3 (j:=1) (e:=om) rfl⟩
theorem way3 {w:Int} (h:0<=w/\w < 3):w=0\/w=1\/w=2:=by omega
theorem qn4 {B:Int} (ek:Ek ns k x ρ) (hp:Pl B x) (hB:B<=90000):∃ v x',Pl (B + 2) x'/\LFar ρ=.ok (.int v,om,ρ.set 2 (some (x',om))):=by
 obtain ⟨v,x1,_,p1,e1⟩:=zvy (m:=10 ^ 30) (f:=bBin zmc (bC (.int 10)) (bC (.int 30))) (d:=om) ek hp (by omega) (by decide) rfl
 have ek1:Ek ns k x1 (ρ.set 2 (some (x1,om))):=ek.pool
 obtain ⟨w,x2,hw,p2,e2⟩:=zvy (m:=3) (f:=bC (.int 3)) (d:=om) ek1 p1 (by omega) (by decide) rfl
 rw [jj1] at e2
 have l1:zqb zqh (zqa (bC (.int 0)) (zqa (bC (.int 0)) (zqa (zqd F8 2 (zqa (bBin zmc (bC (.int 10)) (bC (.int 30))) (aNil))) (aNil)))) ρ=.ok (.lst [.int 0,.int 0,.int v],om,ρ.set 2 (some (x1,om))):=zqu (zxk (x:=.int 0) (d:=om) rfl (zxk (x:=.int 0) (d:=om) rfl (zqq e1))) rfl
 rw [show B + 2=B + 1 + 1 by (clear hw hB;omega)]
 rcases way3 hw with rfl | rfl | rfl
 ·exact ⟨0,x2,p2,zxb l1 e2 rfl⟩
 ·exact ⟨0,x2,p2,zxb l1 e2 rfl⟩
 ·exact ⟨v,x2,p2,zxb l1 e2 rfl⟩
theorem zff {z:Z3}{w:Int} (v7:Val ρ 7 (z3 z)) (v9:Val ρ 9 (.int w)) (hw:0<=w/\w < 3):bSl (bVar 7) none (some (bVar 9)) ρ=.ok (.tup (([PV.int z.1,.int z.2.1,.int z.2.2]:List PV).take w.toNat),0,ρ):=by
 unfold bSl
 rw [v7.var]
 dsimp only [Rz.bind,evO]
 rw [v9.var]
 rcases way3 hw with rfl | rfl | rfl <;> rfl
theorem zfg {z:Z3}{w:Int} (v7:Val ρ 7 (z3 z)) (v9:Val ρ 9 (.int w)) (hw:0<=w/\w < 3):bSl (bVar 7) (some (bBin zqf (bVar 9) (bC (.int 1)))) none ρ=.ok (.tup (([PV.int z.1,.int z.2.1,.int z.2.2]:List PV).drop (w.toNat + 1)),0,ρ):=by
 unfold bSl
 rw [v7.var]
 dsimp only [Rz.bind,evO]
 rw [zwo v9.var (j:=1) (e:=om) rfl]
 rcases way3 hw with rfl | rfl | rfl <;> rfl
theorem qok {z:Z3}{w f:Int} (v3:Val ρ 3 (bx a b c)) (v7:Val ρ 7 (z3 z)) (v8:Val ρ 8 (.int f)) (v9:Val ρ 9 (.int w)) (hw:0<=w/\w < 3):Gc LBey ρ:=by
 have s1:=zff v7 v9 hw
 have s2:=zfg v7 v9 hw
 have s3:∃ u,bBin zqj (bVar 3) (bVar 9) ρ=.ok (.int u,om,ρ):=by
  rcases way3 hw with rfl | rfl | rfl <;> exact ⟨_,zxb v3.var v9.var rfl⟩
 obtain ⟨u,s3⟩:=s3
 have s4:zqb zxz (zqa (bBin zqf (bBin zqj (bVar 3) (bVar 9)) (bVar 8)) aNil) ρ=.ok (.tup [.int (u + f)],om,ρ):=zqu (zqq (zwo s3 v8.var)) rfl
 have zz:=sz
 have op2t:∀ (xs ys:List PV) (d e:Nat),xs.length + ys.length<=100->zqf (.tup xs) d (.tup ys) e=some (.tup (xs++ys),0):=λ xs ys d e h=>by
  show (if xs.length + ys.length<=va4 then some (PV.tup (xs++ys),0) else none)=_
  rw [if_pos (by omega)]
 have s5:=zxb s1 s4 (op2t _ _ _ _ (by rw [jd1];simp;(clear zz hw;omega)))
 have s6:=zxb s5 s2 (op2t _ _ _ _ (by simp;(clear zz hw;omega)))
 rcases way3 hw with rfl | rfl | rfl
 ·exact ⟨(u + f,z.2.1,z.2.2),0,s6⟩
 ·exact ⟨(z.1,u + f,z.2.2),0,s6⟩
 ·exact ⟨(z.1,z.2.1,u + f),0,s6⟩
theorem qol {z:Z3}{w f:Int} (v7:Val ρ 7 (z3 z)) (v8:Val ρ 8 (.int f)) (v9:Val ρ 9 (.int w)) (hw:0<=w/\w < 3):Gc LBel ρ:=by
 have s1:=zff v7 v9 hw
 have s2:=zfg v7 v9 hw
 have s4:zqb zxz (zqa (bBin zwa (bUn zyd (bC (.int 1))) (bVar 8)) aNil) ρ=.ok (.tup [.int (-1 - f)],om,ρ):=zqu (zqq (zbx (i:=-1) (d:=om) (ρ1:=ρ) rfl v8.var)) rfl
 have zz:=sz
 have op2t:∀ (xs ys:List PV) (d e:Nat),xs.length + ys.length<=100->zqf (.tup xs) d (.tup ys) e=some (.tup (xs++ys),0):=λ xs ys d e h=>by
  show (if xs.length + ys.length<=va4 then some (PV.tup (xs++ys),0) else none)=_
  rw [if_pos (by omega)]
 have s5:=zxb s1 s4 (op2t _ _ _ _ (by rw [jd1];simp;(clear zz hw;omega)))
 have s6:=zxb s5 s2 (op2t _ _ _ _ (by simp;(clear zz hw;omega)))
 rcases way3 hw with rfl | rfl | rfl
 ·exact ⟨(-1 - f,z.2.1,z.2.2),0,s6⟩
 ·exact ⟨(z.1,-1 - f,z.2.2),0,s6⟩
 ·exact ⟨(z.1,z.2.1,-1 - f),0,s6⟩
theorem qdv {fa:Fa}{n:Nat}{els:List PV} (v:Val ρ 13 (.lst els)) (he:els.length<=100) (hx:∀ y∈els,Zl y) (q:GL n fa ρ) (hn:n<=100):∃ els' d,bBin zyo (bVar 13) (zqb zqh fa) ρ=.ok (.lst els',d,ρ)/\d≠0/\els'.length=els.length + n/\∀ y∈els',Zl y:=by
 have zz:=sz
 obtain ⟨ys,d,e,hd,hl,hy⟩:=q.lst hn
 refine ⟨els++ys,if zkb els=true/\d=om then om else d1 (els++ys),zxb v.var e ?_,?_,by rw [ja8,hl],λ w hw=>(jc4.mp hw).elim (hx w) (hy w)⟩
 ·show (if els.length + ys.length<=va4 then some (PV.lst (els++ys),if zkb els=true/\d=om then om else d1 (els++ys)) else none)=_
  rw [if_pos (by omega)]
 ·unfold d1
  split <;> (try split) <;> decide
theorem qpp (cs:List C3):ct cs=zt (cs.map toZ):=by
 unfold ct zt
 rw [jd7]
 rfl
theorem qpd {y:PV} (v3:Val ρ 3 (bx a b c)) (v14:Val ρ 14 y) (hy:Zl y) (ha:1<=a/\a<=6) (hb:1<=b/\b<=6) (hc:1<=c/\c<=6):LQ ρ=.nx ρ:=by
 obtain ⟨zs,rfl,hl⟩:=hy
 unfold LQ
 exact (if_f (t_ok (zyp (zxt (xs:=[(bx a b c,_),(zt zs,_)]) (zxk v3.var (zqq v14.var)) (qf1 (by (clear hl hc hb;omega)) (by (clear hl hc ha;omega)) (by (clear hl hb ha;omega)) (by (clear hc hb ha;omega))))))).trans rfl
theorem qps (hk:k<=1000) (hlen:ρ.length=16) (h0:ρ[0]?=some (some (.scr ns,om))) (h1:ρ[1]?=some (some (.int (k:Int),om))):∃ ρ',LK ρ=.nx ρ'/\ρ'.length=16/\ρ'[0]?=some (some (.scr ns,om)):=by
 have zz:=sz
 obtain ⟨x0,hx0,e0⟩:=qjw ns k hk
 obtain ⟨a,b,c,x1,ha,hb,hc,hx1,e1⟩:=qld (most:=6) hx0 (by (clear zz hlen hk;omega)) (by (clear zz hlen hk;omega))
 have ha':1<=a/\a<=6:=by (clear hc hb zz hlen hk;omega)
 have hb':1<=b/\b<=6:=by (clear ha' hc ha zz hlen hk;omega)
 have hc':1<=c/\c<=6:=by (clear hb' ha' hb ha zz hlen hk;omega)
 obtain ⟨t,d4,x2,p,hd4,hx2,e2⟩:=qhs (a:=a) (b:=b) (c:=c) hx1 (by (clear hc' hb' ha' hc hb ha zz hlen hk;omega)) (by (clear hc' hb' ha' hc hb zz hlen hk;omega)) (by (clear hc' hb' ha' hc ha zz hlen hk;omega)) (by (clear hc' hb' ha' hb ha zz hlen hk;omega))
 have s1:sSet true 2 (zqw F7 (zqa (bVar 0) (zqa (bVar 1) (aNil)))) [0,1] ρ=.nx (ρ.set 2 (some (x0,om))):=setT (zxt (xs:=[(.scr ns,om),(.int (k:Int),om)]) (zxk (Val.var ⟨om,h0⟩) (zqq (Val.var ⟨om,h1⟩))) e0) (by rw [hlen];decide) rfl
 have ek1:Ek ns k x0 (ρ.set 2 (some (x0,om))):=⟨by rw [jc0];exact hlen,by rw [ja0 (by decide)];exact h0,by rw [ja0 (by decide)];exact h1,jb1 (by rw [hlen];decide)⟩
 generalize ρ.set 2 (some (x0,om))=ρ1 at s1 ek1
 obtain ⟨ρ2,s2,ek2,w2,_,_⟩:=stp (i:=3) (vs:=[]) (f:=zqd F9 2 (zqa (bC (.int 6)) (aNil))) (ek1.pool (x':=x1)) (zzk (F:=a_box) (p:=(x0,om)) (x0:=x0) (d0:=om) (xs:=[(.int 6,om)]) ek1.p rfl ek1.p e1 rfl) (by decide) rfl rfl rfl
 have b2:Val ρ2 3 (bx a b c):=⟨_,w2⟩
 obtain ⟨ρ3,s3,ek3,w3,u3,_⟩:=stp (i:=4) (vs:=[3]) (f:=zqw F15 (zqa (zqd F10 2 (zqa (bVar 3) (aNil))) (aNil))) (ek2.pool (x':=x2)) (zxt (xs:=[(tb t,d4)]) (zqq (zzk (F:=a_pile) (p:=(x1,om)) (x0:=x1) (d0:=om) (xs:=[(bx a b c,_)]) ek2.p (zqq b2.var) ek2.p e2 rfl)) (qk1 p (by (clear hd4 hc' hb' ha' hc hb zz hlen hk;omega)) (by (clear hd4 hc' hb' ha' hc ha zz hlen hk;omega)) (by (clear hd4 hc' hb' ha' hb ha zz hlen hk;omega)))) (by decide) rfl rfl rfl
 have b3:Val ρ3 3 (bx a b c):=u3 3 _ (by decide) (b2.set (by decide))
 obtain ⟨ρ4,s4,ek4,w4,u4,q4⟩:=stp (i:=5) (vs:=[]) (f:=zqb zqh aNil) ek3 (y:=zt []) (d:=om) rfl (by decide) rfl rfl rfl
 have b4:=u4 3 _ (by decide) b3
 have l4:ρ4[4]?=some (some (zt ((zxh t a b).map toZ),om)):=by rw [q4 4 (by decide) rfl,w3,qpp]
 have hcl:((zxh t a b).map toZ).length<=216:=by
  rw [ja4]
  exact jd3 (zyi p (jb4 a)) (jd3 (jh8 ha'.2 (jh8 hb'.2 hc'.2)) (by decide))
 generalize (zxh t a b).map toZ=l at l4 hcl
 obtain ⟨m,x3,ρ5,s5,ek5,hx3,hm,v5,q5⟩:=qca 300 l [] x2 _ ρ4 999 999 (by (clear hd4 hc' hb' ha' hc hb ha zz hlen hk;omega)) ek4 hx2 (by (clear hd4 hc' hb' ha' hc hb ha zz hlen hk;omega)) (by simp;(clear hd4 hc' hb' ha' hc hb ha zz hlen hk;omega)) l4 w4
 have hm':m.length<=216:=by simp at hm;(clear hd4 hc' hb' ha' hc hb ha zz hlen hk;omega)
 have b5:Val ρ5 3 (bx a b c):=by obtain ⟨d,e⟩:=b4;exact ⟨d,by rw [q5 3 (by decide) (by decide) (by decide)];exact e⟩
 have hB5:(29000 + 9 + 3000 + (l.length:Nat):Int)<=40000:=by (clear hm' hm hd4 hc' hb' ha' hc hb ha zz hlen hk;omega)
 generalize (29000 + 9 + 3000 + (l.length:Nat):Int)=B5 at hx3 hB5
 obtain ⟨vat,x4,hat,hx4,e6⟩:=zvy (m:=(m.length:Int) + 1) (f:=bBin zqf (zqb zxd (zqa (bVar 5) (aNil))) (bC (.int 1))) (d:=om) ek5 hx3 (by (clear hm' hm hcl hd4 hc' hb' ha' hc hb ha zz hlen hk;omega)) ⟨by (clear hB5 hm' hm hcl hd4 hc' hb' ha' hc hb ha zz hlen hk;omega),jl0 (show (m.length:Int) + 1<=1000 by (clear hB5 hm hcl hd4 hc' hb' ha' hc hb ha zz hlen hk;omega)) (by decide)⟩ (zwo (qke v5) (j:=1) (e:=om) rfl)
 obtain ⟨ρ6,s6,ek6,w6,u6,_⟩:=stp (i:=6) (vs:=[5]) ek5.pool e6 (by decide) rfl rfl rfl
 have b6:=u6 3 _ (by decide) (b5.set (by decide))
 have c6:=u6 5 _ (by decide) (v5.set (by decide))
 obtain ⟨z,x5,hx5,e7⟩:=qpe ek6 hx4 (by (clear hat hm' hm hcl hd4 hc' hb' ha' hc hb ha zz hlen hk;omega)) b6 ha' hb' hc'
 obtain ⟨ρ7,s7,ek7,w7,u7,_⟩:=stp (i:=7) (vs:=[3,3]) ek6.pool e7 (by decide) rfl rfl rfl
 have keep7:∀ j v,j≠7->j≠2->Val ρ6 j v->Val ρ7 j v:=λ j v h1 h2 h=>u7 j v h1 (h.set (vb2 h2))
 obtain ⟨far,x6,hx6,e8⟩:=qn4 ek7 hx5 (by (clear hat hm' hm hcl hd4 hc' hb' ha' hc hb ha zz hlen hk;omega))
 obtain ⟨ρ8,s8,ek8,w8,u8,_⟩:=stp (i:=8) (vs:=[]) ek7.pool e8 (by decide) rfl rfl rfl
 have keep8:∀ j v,j≠8->j≠2->Val ρ7 j v->Val ρ8 j v:=λ j v h1 h2 h=>u8 j v h1 (h.set (vb2 h2))
 obtain ⟨way,x7,hway,hx7,e9⟩:=zvy (m:=3) (f:=bC (.int 3)) (d:=om) ek8 hx6 (by (clear hat hm' hm hcl hd4 hc' hb' ha' hc hb ha zz hlen hk;omega)) (by decide) rfl
 obtain ⟨ρ9,s9,ek9,w9,u9,_⟩:=stp (i:=9) (vs:=[]) ek8.pool e9 (by decide) rfl rfl rfl
 have keep9:∀ j v,j≠9->j≠2->Val ρ8 j v->Val ρ9 j v:=λ j v h1 h2 h=>u9 j v h1 (h.set (vb2 h2))
 have up:∀ j v,j≠9->j≠8->j≠7->j≠2->Val ρ6 j v->Val ρ9 j v:=λ j v h1 h2 h3 h4 h=>keep9 j v h1 h4 (keep8 j v h2 h4 (keep7 j v h3 h4 h))
 have b9:=up 3 _ (by decide) (by decide) (by decide) (by decide) b6
 have c9:=up 5 _ (by decide) (by decide) (by decide) (by decide) c6
 have at9:Val ρ9 6 (.int vat):=up 6 _ (by decide) (by decide) (by decide) (by decide) ⟨_,w6⟩
 have z9:Val ρ9 7 (z3 z):=keep9 7 _ (by decide) (by decide) (keep8 7 _ (by decide) (by decide) ⟨_,w7⟩)
 have f9:Val ρ9 8 (.int far):=keep9 8 _ (by decide) (by decide) ⟨_,w8⟩
 have y9:Val ρ9 9 (.int way):=⟨_,w9⟩
 obtain ⟨zb,db,e10⟩:=qok b9 z9 f9 y9 hway
 obtain ⟨ρ10,s10,ek10,w10,u10,_⟩:=stp (i:=10) (vs:=[7,3,9,8,7]) ek9 e10 (by decide) rfl rfl rfl
 obtain ⟨zc,dc,e11⟩:=qol (u10 7 _ (by decide) z9) (u10 8 _ (by decide) f9) (u10 9 _ (by decide) y9) hway
 obtain ⟨ρ11,s11,ek11,w11,u11,_⟩:=stp (i:=11) (vs:=[7,8,7]) ek10 e11 (by decide) rfl rfl rfl
 have up2:∀ j v,j≠11->j≠10->Val ρ9 j v->Val ρ11 j v:=λ j v h1 h2 h=>u11 j v h1 (u10 j v h2 h)
 have c11:=up2 5 _ (by decide) (by decide) c9
 have at11:=up2 6 _ (by decide) (by decide) at9
 obtain ⟨lk,dk,e12,hlk⟩:=((GZ.var c11 hm').to ⟨_,_,at11.var⟩).add ((GZ.var c11 hm').at ⟨_,_,zwo at11.var (g:=bC (.int 1)) (j:=1) (e:=om) (ρ2:=ρ11) rfl⟩) (by decide)
 obtain ⟨ρ12,s12,ek12,w12,u12,_⟩:=stp (i:=12) (vs:=[5,5]) ek11 e12 (by decide) rfl rfl rfl
 have b12:=u12 3 _ (by decide) (up2 3 _ (by decide) (by decide) b9)
 have c12:=u12 5 _ (by decide) c11
 have at12:=u12 6 _ (by decide) at11
 have z12:=u12 7 _ (by decide) (up2 7 _ (by decide) (by decide) z9)
 have by12:Val ρ12 10 (z3 zb):=u12 10 _ (by decide) (u11 10 _ (by decide) ⟨_,w10⟩)
 have bl12:Val ρ12 11 (z3 zc):=u12 11 _ (by decide) ⟨_,w11⟩
 have lk12:Val ρ12 12 (zt lk):=⟨_,w12⟩
 have gl1:GL 5 LR1 ρ12:=GL.cons (GZ.var c12 hm') (by (clear hlk hway hat hB5 hm' hm hcl hd4 hc' hb' ha' hc hb ha zz hlen hk;omega)) (GL.cons ((GZ.var c12 hm').add ((GZ.var c12 hm').to ⟨_,_,at12.var⟩) (by decide)) (by decide) (GL.cons (GZ.var lk12 hlk) (by decide) (GL.cons ((GZ.var c12 hm').add (GZ.one (Gc.var z12)) (by decide)) (by decide) (GL.cons ((((GZ.var c12 hm').to ⟨_,_,at12.var⟩).add (GZ.one (Gc.var by12)) (by decide)).add ((GZ.var c12 hm').at ⟨_,_,at12.var⟩) (by decide)) (by decide) GL.nil))))
 obtain ⟨r1,d1,e13,hd1,hr1,hz1⟩:=gl1.lst (by decide)
 obtain ⟨ρ13,s13,ek13,w13,u13,_⟩:=stp (i:=13) (vs:=[5,5,5,12,5,7,5,10,5]) ek12 e13 (by decide) rfl rfl rfl
 have b13':=u13 3 _ (by decide) b12
 have c13:=u13 5 _ (by decide) c12
 have at13:=u13 6 _ (by decide) at12
 have z13:=u13 7 _ (by decide) z12
 have bl13:=u13 11 _ (by decide) bl12
 have lk13:=u13 12 _ (by decide) lk12
 have gl2:GL 5 LR2 ρ13:=GL.cons ((((GZ.var c13 hm').to ⟨_,_,at13.var⟩).add (GZ.one (Gc.var bl13)) (by decide)).add ((GZ.var c13 hm').at ⟨_,_,at13.var⟩) (by decide)) (by decide) (GL.cons (GZ.one (Gc.var z13)) (by decide) (GL.cons GZ.nil (by decide) (GL.cons (GZ.one ⟨(0,0,0),_,rfl⟩) (by decide) (GL.cons (GZ.two (Gc.var z13) (Gc.var z13)) (by decide) GL.nil))))
 obtain ⟨r2,d2,e14,hd2,hr2,hz2⟩:=qdv ⟨_,w13⟩ (by (clear hd1 hlk hway hat hB5 hm' hm hcl hd4 hc' hb' ha' hc hb ha zz hlen hk;omega)) hz1 gl2 (by decide)
 obtain ⟨ρ14,s14,ek14,w14,u14,_⟩:=stp (i:=13) (vs:=[13,5,11,5,7,7,7]) ek13 e14 (by decide) rfl rfl rfl
 have b14':=u14 3 _ (by decide) b13'
 have z14:=u14 7 _ (by decide) z13
 have lk14:=u14 12 _ (by decide) lk13
 have gl3:GL 3 LR3 ρ14:=GL.cons ((GZ.var lk14 hlk).add (GZ.var lk14 hlk) (by decide)) (by decide) (GL.cons ((GZ.var lk14 hlk).add (GZ.one (Gc.var z14)) (by decide)) (by decide) (GL.cons (GZ.one (qlk ek14 b14' λ m=>⟨_,zbx (Val.var ⟨om,zmw ek14⟩) (j:=1) (e:=om) rfl⟩)) (by decide) GL.nil))
 obtain ⟨r3,d3,e15,hd3,hr3,hz3⟩:=qdv ⟨_,w14⟩ (by (clear hd2 hd1 hlk hway hat hB5 hm' hm hcl hd4 hc' hb' ha' hc hb ha zz hlen hk;omega)) hz2 gl3 (by decide)
 obtain ⟨ρ15,s15,ek15,w15,u15,_⟩:=stp (i:=13) (vs:=[13,12,12,12,7,3,3]) ek14 e15 (by decide) rfl rfl rfl
 have b15':=u15 3 _ (by decide) b14'
 obtain ⟨ρ16,s16,ek16,w16,u16,q16⟩:=stp (i:=14) (vs:=[]) (f:=zqb zqh aNil) ek15 (y:=zt []) (d:=om) rfl (by decide) rfl rfl rfl
 have b16':=u16 3 _ (by decide) b15'
 have r16:ρ16[13]?=some (some (.lst r3,d3)):=by rw [q16 13 (by decide) rfl];exact w15
 obtain ⟨vt,x8,hvt,hx8,e17⟩:=zvy (m:=12) (f:=bC (.int 12)) (d:=om) ek16 hx7 (by (clear hr3 hd3 hr2 hd2 hr1 hd1 hlk hway hat hm' hm hcl hd4 hc' hb' ha' hc hb ha zz hlen hk;omega)) (by decide) rfl
 have hB8:B5 + 1 + 3 + 2 + 1 + 1<=50000:=by (clear hvt hr3 hd3 hr2 hd2 hr1 hd1 hlk hway hat hm' hm hcl hd4 hc' hb' ha' hc hb ha zz hlen hk;omega)
 generalize B5 + 1 + 3 + 2 + 1 + 1=B8 at hx8 hB8
 have fa17:(zqa (bBin zqf (bC (.int 1)) (zqd F8 2 (zqa (bC (.int 12)) (aNil)))) (aNil)) ρ16=.ok ([(.int (1 + vt),om)],ρ16.set 2 (some (x8,om))):=zqq (zwo (i:=1) (d:=om) (ρ1:=ρ16) rfl e17)
 obtain ⟨ρ17,s17,x9,us,du,ek17,hx9,hus,w17,b17',r17⟩:=zzp (i:=15) (body:=sApp 14 LS [3,3]) (en:=zqx) (lo:=0) (hi:=1 + vt) (λ j ρ=>∃ x us du,Ek ns k x ρ/\Pl (B8 + 3 * j) x/\us.length<=j/\ρ[14]?=some (some (zt us,du + 1))/\Val ρ 3 (bx a b c)/\ρ[13]?=some (some (.lst r3,d3))) fa17 (zwi (by (clear hB8 hr3 hd3 hr2 hd2 hr1 hd1 hlk hway hat hB5 hm' hm hcl hd4 hc' hb' ha' hc hb ha zz hlen hk;omega)) (by (clear hB8 hr3 hd3 hr2 hd2 hr1 hd1 hlk hway hat hB5 hm' hm hcl hd4 hc' hb' ha' hc hb ha zz hlen hk;omega)))
  ⟨x8,[],999,ek16.pool,by simpa using hx8,jb4 _,by rw [ja0 (by decide)];exact w16,b16'.set (by decide),by rw [ja0 (by decide)];exact r16⟩ (by
  rintro j ρ hj ⟨x,us,du,ek,hx,hus,h14,hb3,h13⟩
  refine ⟨by rw [ek.len];decide,?_⟩
  have ekj:Ek ns k x (ρ.set 15 (some (.int (0 + (j:Int)),om))):=ek.put (by decide)
  obtain ⟨z,x',hx',e⟩:=qpc ekj hx (by (clear hus hr3 hd3 hr2 hd2 hr1 hd1 hlk hway hat hB5 hm' hm hcl hd4 hc' hb' ha' hc hb ha zz hlen hk;omega)) (hb3.set (by decide)) ha' hb' hc'
  have g14:(zqr 0 [3,3] ((ρ.set 15 (some (.int (0 + (j:Int)),om))).set 2 (some (x',om))))[14]?=some (some (.lst (us.map z3),du + 1)):=by
   rw [zwz rfl,ja0 (by decide),ja0 (by decide)];exact h14
  refine ⟨_,qbl (d0:=du) (xs0:=us.map z3) (by rw [ja0 (by decide)];exact h14) e g14 (by (clear hus hj hB8 hvt hr3 hd3 hr2 hd2 hr1 hd1 hlk hway hat hB5 hm' hm hcl hd4 hc' hb' ha' hc hb ha zz hlen hk;omega)) (by rw [ja4];(clear hB8 hr3 hd3 hr2 hd2 hr1 hd1 hlk hway hat hB5 hm' hm hcl hd4 hc' hb' ha' hc hb ha hlen hk;omega)) rfl,x',us++[z],0,((ekj.pool).cool rfl rfl rfl).put (by decide),?_,by rw [ja8,jc8];(clear hj hB8 hvt hr3 hd3 hr2 hd2 hr1 hd1 hlk hway hat hB5 hm' hm hcl hd4 hc' hb' ha' hc hb ha zz hlen hk;omega),?_,((((hb3.set (by decide)).set (by decide)).cool).set (by decide)),?_⟩
  ·rw [show B8 + 3 * ((j + 1:Nat):Int)=B8 + 3 * (j:Int) + 3 by (clear hus hj hB8 hvt hr3 hd3 hr2 hd2 hr1 hd1 hlk hway hat hB5 hm' hm hcl hd4 hc' hb' ha' hc hb ha zz hlen hk;omega)];exact hx'
  ·rw [jb1 (by rw [zkq,jc0,jc0,ek.len];decide),if_neg (λ h=>absurd h.2 (by decide))]
   unfold zt
   rw [je8]
   rfl
  ·rw [ja0 (by decide),zwz rfl,ja0 (by decide),ja0 (by decide)];exact h13)
 have hus':us.length<=12:=by (clear hB8 hr3 hd3 hr2 hd2 hr1 hd1 hlk hway hat hB5 hm' hm hcl hd4 hc' hb' ha' hc hb ha zz hlen hk;omega)
 have v17:Val ρ17 14 (zt us):=⟨_,w17⟩
 obtain ⟨vz,x10,_,hx10,e18⟩:=zvy (m:=(us.length:Int) + 1) (f:=bBin zqf (zqb zxd (zqa (bVar 14) (aNil))) (bC (.int 1))) (d:=om) ek17 hx9 (by (clear hus' hus hr3 hd3 hr2 hd2 hr1 hd1 hlk hway hat hB5 hm' hm hcl hd4 hc' hb' ha' hc hb ha zz hlen hk;omega)) ⟨by (clear hus' hus hB8 hvt hr3 hd3 hr2 hd2 hr1 hd1 hlk hway hat hB5 hm' hm hcl hd4 hc' hb' ha' hc hb ha zz hlen hk;omega),jl0 (show (us.length:Int) + 1<=1000 by (clear hus' hB8 hr3 hd3 hr2 hd2 hr1 hd1 hlk hway hat hB5 hm' hm hcl hd4 hc' hb' ha' hc hb ha zz hlen hk;omega)) (by decide)⟩ (zwo (qke v17) (j:=1) (e:=om) rfl)
 obtain ⟨us2,eu2,hu2⟩:=qk0 us none (some vz)
 have e19:bSl (bVar 14) none (some (zqd F8 2 (zqa (bBin zqf (zqb zxd (zqa (bVar 14) (aNil))) (bC (.int 1))) (aNil)))) ρ17=.ok (zt us2,QQ.d1 (us2.map z3),ρ17.set 2 (some (x10,om))):=by
  unfold bSl
  rw [v17.var]
  dsimp only [Rz.bind,evO]
  rw [e18]
  dsimp only
  unfold opSl zt
  dsimp only
  rw [eu2]
 have e20:=zyn (f:=bVar 14) (ρ:=ρ17) (ρ1:=ρ17) (xs:=us.map z3) v17.var e19 (by rw [ja4,ja4];(clear hus' hB8 hr3 hd3 hr2 hd2 hr1 hd1 hlk hway hat hB5 hm' hm hcl hd4 hc' hb' ha' hc hb ha hlen hk;omega))
 rw [<- je8,qoe] at e20
 obtain ⟨d3',rfl⟩:∃ d3',d3=d3' + 1:=⟨d3 - 1,by (clear hu2 hus' hus hB8 hvt hr3 hr2 hd2 hr1 hd1 hlk hway hat hB5 hm' hm hcl hd4 hc' hb' ha' hc hb ha zz hlen hk;omega)⟩
 have g13:(zqr om [14,14] (ρ17.set 2 (some (x10,om))))[13]?=some (some (.lst r3,d3' + 1)):=by
  rw [zwz rfl,ja0 (by decide)];exact r17
 have s18:=qbl (vs:=[14,14]) (d0:=d3') r17 e20 g13 (by (clear hd3 hu2 hus' hus hB8 hvt hr3 hr2 hd2 hr1 hd1 hlk hway hat hB5 hm' hm hcl hd4 hc' hb' ha' hc hb ha zz hlen hk;omega)) (by (clear hd3 hu2 hus' hus hB8 hvt hd2 hd1 hlk hway hat hB5 hm' hm hcl hd4 hc' hb' ha' hc hb ha hlen hk;omega)) rfl
 have ek18:Ek ns k x10 ((zqr om [14,14] (ρ17.set 2 (some (x10,om)))).set 13 (some (.lst (r3++[.lst ((us++us2).map z3)]),if d3' + 1=om/\om=om then om else 1))):=((ek17.pool).cool rfl rfl rfl).put (by decide)
 have b18':Val ((zqr om [14,14] (ρ17.set 2 (some (x10,om)))).set 13 (some (.lst (r3++[.lst ((us++us2).map z3)]),if d3' + 1=om/\om=om then om else 1))) 3 (bx a b c):=((b17'.set (by decide)).cool).set (by decide)
 have r18:((zqr om [14,14] (ρ17.set 2 (some (x10,om)))).set 13 (some (.lst (r3++[.lst ((us++us2).map z3)]),if d3' + 1=om/\om=om then om else 1)))[13]?=some (some (.lst (r3++[.lst ((us++us2).map z3)]),if d3' + 1=om/\om=om then om else 1)):=jb1 (by rw [zkq,jc0,ek17.len];decide)
 have hz4:∀ y∈r3++[.lst ((us++us2).map z3)],Zl y:=λ y hy=>by
  rcases jc4.mp hy with h | h
  ·exact hz3 y h
  ·rw [jb6.mp h];exact ⟨us++us2,rfl,by rw [ja8];(clear hd3 hus' hB8 hr3 hr2 hd2 hr1 hd1 hlk hway hat hB5 hm' hm hcl hd4 hc' hb' ha' hc hb ha zz hlen hk;omega)⟩
 generalize (zqr om [14,14] (ρ17.set 2 (some (x10,om)))).set 13 (some (.lst (r3++[.lst ((us++us2).map z3)]),if d3' + 1=om/\om=om then om else 1))=ρ18 at s18 ek18 b18' r18
 rcases qha (i0:=13) (is:=[14]) (asg:=asgN 14) (body:=LQ) (λ _=>true) (λ ρ=>Ek ns k x10 ρ/\Val ρ 3 (bx a b c)) r18 ⟨ek18,b18'⟩ (λ y hy ρ ⟨ek,hb3⟩=>by
  refine ⟨ρ.set 14 (some (y,dv y)),by unfold asgN;rw [if_pos (by rw [ek.len];decide)],.inl ⟨rfl,_,qpd (hb3.set (by decide)) (Val.here (by rw [ek.len];decide)) (hz4 y hy) ha' hb' hc',ek.put (by decide),hb3.set (by decide)⟩⟩) with ⟨_,ρ19,s19,ek19,_⟩ | ⟨hf,_⟩
 ·refine ⟨kill [14] 0 ρ19,?_,by rw [zjb];exact ek19.len,by rw [zvk,ek19.v0];rfl⟩
  unfold LK
  exact (zqc s1).trans ((zqc s2).trans ((zqc s3).trans ((zqc s4).trans ((zqc s5).trans ((zqc s6).trans ((zqc s7).trans ((zqc s8).trans ((zqc s9).trans ((zqc s10).trans ((zqc s11).trans ((zqc s12).trans ((zqc s13).trans ((zqc s14).trans ((zqc s15).trans ((zqc s16).trans ((zqc s17).trans ((zqc s18).trans s19)))))))))))))))))
 ·rw [jc7.mpr (λ _ _=>rfl)] at hf
  cases hf
theorem law_true:∀ ns:List Int,ns.length<=63->∃ d z,F18 [.scr ns]=.ok (.bl true,d,z):=by
 intro ns hns
 have hF:F18=mkFn false 1 15 b18:=rfl
 rw [hF,qk8]
 let R0:Rho:=some (.scr ns,om)::ja5 15 none
 have hm:∃ m:Nat,m<=6/\(zqa (zqb zyu (zqa (bC (.int 1)) (zqa (zqb zws (zqa (bC (.int 6)) (zqa (zqb zxd (zqa (bVar 0) (aNil))) (aNil)))) (aNil)))) (aNil)) R0=.ok ([(.int (m:Int),om)],R0):=by
  refine ⟨(if (if (ns.length:Int) < 6 then (ns.length:Int) else 6) > 1 then (if (ns.length:Int) < 6 then (ns.length:Int) else 6) else 1).toNat,?_,?_⟩
  ·split <;> split <;> omega
  ·have e:((((if (if (ns.length:Int) < 6 then (ns.length:Int) else 6) > 1 then (if (ns.length:Int) < 6 then (ns.length:Int) else 6) else 1).toNat:Nat)):Int)=(if (if (ns.length:Int) < 6 then (ns.length:Int) else 6) > 1 then (if (ns.length:Int) < 6 then (ns.length:Int) else 6) else 1):=by
    split <;> split <;> omega
   rw [e]
   rfl
 obtain ⟨m,hm6,em⟩:=hm
 obtain ⟨ρ1,l1,h1,h2⟩:=zzp (i:=1) (body:=LK) (en:=zqx) (ρ:=R0) (lo:=0) (hi:=(m:Int)) (λ _ ρ=>ρ.length=16/\ρ[0]?=some (some (.scr ns,om))) em (zwi (by (clear hm6 hns;omega)) (by omega)) ⟨rfl,rfl⟩ (by
  rintro k ρ hk ⟨h1,h2⟩
  obtain ⟨ρ',e,h3,h4⟩:=qps (ns:=ns) (k:=k) (ρ:=ρ.set 1 (some (.int (0 + (k:Int)),om))) (by (clear h1 hns;omega)) (by rw [jc0];exact h1) (by rw [ja0 (by decide)];exact h2) (by rw [jb1 (by rw [h1];decide),jk9])
  exact ⟨by rw [h1];decide,ρ',e,h3,h4⟩)
 exact ⟨_,_,zyg rfl ((zqc l1).trans rfl)⟩
end
section
variable {P:vb0}{w:vb8}{K:Frag}{mg:Str->Option va2}
theorem c0:FnScope S0.N ["thing"] (zqe t0):={}
theorem c1:FnScope S1.N ["thing"] (zqe t1):={}
theorem c2:FnScope S2.N ["box"] (zqe t2):={}
theorem c3:FnScope S3.N ["box","thing"] (zqe t3):={}
theorem c4:FnScope S4.N ["cube"] (zqe t4):={}
theorem c5:FnScope S5.N ["box","cubes"] (zqe t5):={}
theorem c6:FnScope S6.N ["box","cubes"] (zqe t6):={}
theorem c7:FnScope S7.N ["script","k"] (zqe t7):={}
theorem c8:FnScope S8.N ["pool","many"] (zqe t8):={}
theorem c9:FnScope S9.N ["pool","most"] (zqe t9):={}
theorem c10:FnScope S10.N ["pool","box"] (zqe t10):={}
theorem c11:FnScope S11.N ["pile"] (zqe t11):={}
theorem c12:FnScope S12.N ["found","due"] (zqe t12):={}
theorem c13:FnScope S13.N ["found"] (zqe t13):={}
theorem c14:FnScope S14.N ["caught","due"] (zqe t14):={}
theorem c15:FnScope S15.N ["pile"] (zqe t15):={}
theorem c16:FnScope S16.N ["box","cubes"] (zqe t16):={}
theorem c17:FnScope S17.N ["box","cubes"] (zqe t17):={}
theorem c18:FnScope S18.N ["script"] (zqe t18):={}
theorem all_ok {fa:Addr} (G:Given dfs [0,1,2,3,4,5,6,7,8,9,10,11] K mg) (hm:mg "law" = some (.ref fa)):
  ∃ fd:vc9,(∀ (s:va3) (u:va2),BindsTo s fd ⟨[u],[]⟩ [("script",u)])/\∀ base:Heap,FnOk P w K mg base (CXr P w K) 6 fa fd ["script"] (spF K false 1 F18):=by
 have hb:=G.bn
 have gx:=G.gx
 obtain ⟨a0,d0,m0,f0⟩:=G.df 0 _ _ rfl
 obtain ⟨a1,d1,m1,f1⟩:=G.df 1 _ _ rfl
 obtain ⟨a2,d2,m2,f2⟩:=G.df 2 _ _ rfl
 obtain ⟨a3,d3,m3,f3⟩:=G.df 3 _ _ rfl
 obtain ⟨a4,d4,m4,f4⟩:=G.df 4 _ _ rfl
 obtain ⟨a5,d5,m5,f5⟩:=G.df 5 _ _ rfl
 obtain ⟨a6,d6,m6,f6⟩:=G.df 6 _ _ rfl
 obtain ⟨a7,d7,m7,f7⟩:=G.df 7 _ _ rfl
 obtain ⟨a8,d8,m8,f8⟩:=G.df 8 _ _ rfl
 obtain ⟨a9,d9,m9,f9⟩:=G.df 9 _ _ rfl
 obtain ⟨a10,d10,m10,f10⟩:=G.df 10 _ _ rfl
 obtain ⟨a11,d11,m11,f11⟩:=G.df 11 _ _ rfl
 obtain ⟨a12,d12,m12,f12⟩:=G.df 12 _ _ rfl
 obtain ⟨a13,d13,m13,f13⟩:=G.df 13 _ _ rfl
 obtain ⟨a14,d14,m14,f14⟩:=G.df 14 _ _ rfl
 obtain ⟨a15,d15,m15,f15⟩:=G.df 15 _ _ rfl
 obtain ⟨a16,d16,m16,f16⟩:=G.df 16 _ _ rfl
 obtain ⟨a17,d17,m17,f17⟩:=G.df 17 _ _ rfl
 obtain ⟨a18,d18,m18,f18⟩:=G.df 18 _ _ rfl
 cases hm.symm.trans m18
 have B0:=f0.binds (ps:=["thing"]) λ _ _ _ _ _ _ us hl=>by obtain ⟨_,rfl⟩:=len1 hl;rfl
 have B1:=f1.binds (ps:=["thing"]) λ _ _ _ _ _ _ us hl=>by obtain ⟨_,rfl⟩:=len1 hl;rfl
 have B2:=f2.binds (ps:=["box"]) λ _ _ _ _ _ _ us hl=>by obtain ⟨_,rfl⟩:=len1 hl;rfl
 have B3:=f3.binds (ps:=["box","thing"]) λ _ _ _ _ _ _ us hl=>by obtain ⟨_,_,rfl⟩:=len2 hl;rfl
 have B4:=f4.binds (ps:=["cube"]) λ _ _ _ _ _ _ us hl=>by obtain ⟨_,rfl⟩:=len1 hl;rfl
 have B5:=f5.binds (ps:=["box","cubes"]) λ _ _ _ _ _ _ us hl=>by obtain ⟨_,_,rfl⟩:=len2 hl;rfl
 have B6:=f6.binds (ps:=["box","cubes"]) λ _ _ _ _ _ _ us hl=>by obtain ⟨_,_,rfl⟩:=len2 hl;rfl
 have B7:=f7.binds (ps:=["script","k"]) λ _ _ _ _ _ _ us hl=>by obtain ⟨_,_,rfl⟩:=len2 hl;rfl
 have B8:=f8.binds (ps:=["pool","many"]) λ _ _ _ _ _ _ us hl=>by obtain ⟨_,_,rfl⟩:=len2 hl;rfl
 have B9:=f9.binds (ps:=["pool","most"]) λ _ _ _ _ _ _ us hl=>by obtain ⟨_,_,rfl⟩:=len2 hl;rfl
 have B10:=f10.binds (ps:=["pool","box"]) λ _ _ _ _ _ _ us hl=>by obtain ⟨_,_,rfl⟩:=len2 hl;rfl
 have B11:=f11.binds (ps:=["pile"]) λ _ _ _ _ _ _ us hl=>by obtain ⟨_,rfl⟩:=len1 hl;rfl
 have B12:=f12.binds (ps:=["found","due"]) λ _ _ _ _ _ _ us hl=>by obtain ⟨_,_,rfl⟩:=len2 hl;rfl
 have B13:=f13.binds (ps:=["found"]) λ _ _ _ _ _ _ us hl=>by obtain ⟨_,rfl⟩:=len1 hl;rfl
 have B14:=f14.binds (ps:=["caught","due"]) λ _ _ _ _ _ _ us hl=>by obtain ⟨_,_,rfl⟩:=len2 hl;rfl
 have B15:=f15.binds (ps:=["pile"]) λ _ _ _ _ _ _ us hl=>by obtain ⟨_,rfl⟩:=len1 hl;rfl
 have B16:=f16.binds (ps:=["box","cubes"]) λ _ _ _ _ _ _ us hl=>by obtain ⟨_,_,rfl⟩:=len2 hl;rfl
 have B17:=f17.binds (ps:=["box","cubes"]) λ _ _ _ _ _ _ us hl=>by obtain ⟨_,_,rfl⟩:=len2 hl;rfl
 refine ⟨d18,?_,λ base=>?_⟩
 ·obtain ⟨_,_,_,_,_,_,_,_,_,rfl,_,_⟩:=f18.ex
  exact λ s v=>.of_eq rfl
 have o0:FnOk P w K mg base (CXr P w K) 1 a0 d0 ["thing"] (spF K false 1 F0):=fnb S0 f0 c0 gx (zxy hb) h0
 have o1:FnOk P w K mg base (CXr P w K) 2 a1 d1 ["thing"] (spF K false 1 F1):=fnb S1 f1 c1 gx (gcs (zxy hb) m0 f0 B0 o0) h1
 have o2:FnOk P w K mg base (CXr P w K) 3 a2 d2 ["box"] (spF K false 1 F2):=fnb S2 f2 c2 gx (gcs (zxy hb) m1 f1 B1 o1) h2
 have o3:FnOk P w K mg base (CXr P w K) 2 a3 d3 ["box","thing"] (spF K false 2 F3):=fnb S3 f3 c3 gx (gcs (zxy hb) m0 f0 B0 o0) h3
 have o4:FnOk P w K mg base (CXr P w K) 1 a4 d4 ["cube"] (spF K false 1 F4):=fnb S4 f4 c4 gx (zxy hb) h4
 have o5:FnOk P w K mg base (CXr P w K) 3 a5 d5 ["box","cubes"] (spF K false 2 F5):=fnb S5 f5 c5 gx (gcs (gcs (zxy hb) m4 f4 B4 o4) m3 f3 B3 o3) h5
 have o6:FnOk P w K mg base (CXr P w K) 4 a6 d6 ["box","cubes"] (spF K false 2 F6):=fnb S6 f6 c6 gx (gcs (gcs (zxy hb) m5 f5 B5 o5) m2 f2 B2 o2) h6
 have o7:FnOk P w K mg base (CXr P w K) 1 a7 d7 ["script","k"] (spF K false 2 F7):=fnb S7 f7 c7 gx (zxy hb) h7
 have o8:FnOk P w K mg base (CXr P w K) 1 a8 d8 ["pool","many"] (spF K true 2 F8):=fnb S8 f8 c8 gx (zxy hb) h8
 have o9:FnOk P w K mg base (CXr P w K) 2 a9 d9 ["pool","most"] (spF K true 2 F9):=fnb S9 f9 c9 gx (gcs (zxy hb) m8 f8 B8 o8) h9
 have o10:FnOk P w K mg base (CXr P w K) 2 a10 d10 ["pool","box"] (spF K true 2 F10):=fnb S10 f10 c10 gx (gcs (zxy hb) m8 f8 B8 o8) h10
 have o11:FnOk P w K mg base (CXr P w K) 1 a11 d11 ["pile"] (spF K false 1 F11):=fnb S11 f11 c11 gx (zxy hb) h11
 have o12:FnOk P w K mg base (CXr P w K) 1 a12 d12 ["found","due"] (spF K false 2 F12):=fnb S12 f12 c12 gx (zxy hb) h12
 have o13:FnOk P w K mg base (CXr P w K) 1 a13 d13 ["found"] (spM K F13):=qpj (S:=S13) f13 c13 rfl rfl rfl rfl gx (zxy hb) zhm h13
 have o14:FnOk P w K mg base (CXr P w K) 1 a14 d14 ["caught","due"] (spF K false 2 F14):=fnb S14 f14 c14 gx (zxy hb) h14
 have o15:FnOk P w K mg base (CXr P w K) 1 a15 d15 ["pile"] (spF K false 1 F15):=fnb S15 f15 c15 gx (zxy hb) h15
 have o16:FnOk P w K mg base (CXr P w K) 1 a16 d16 ["box","cubes"] (spF K false 2 F16):=fnb S16 f16 c16 gx (zxy hb) h16
 have o17:FnOk P w K mg base (CXr P w K) 5 a17 d17 ["box","cubes"] (spF K false 2 F17):=qn3 (S:=S17) f17 c17 rfl rfl rfl rfl (by decide) (λ h=>nomatch h) gx (gcs (gcs (gcs (gcs (zxy hb) m16 f16 B16 o16) m14 f14 B14 o14) m12 f12 B12 o12) m6 f6 B6 o6) (qg2 zhm (by decide +kernel) m13 f13 B13 (o13.mono (by decide))) h17
 exact fnb S18 f18 c18 gx (zvw (zvw (zvw (zvw (zvw (zvw (zxy hb) (by decide +kernel) zzo m17 f17 B17 rfl (o17.mono (by decide))) (by decide +kernel) zzo m15 f15 B15 rfl (o15.mono (by decide))) (by decide +kernel) zzo m10 f10 B10 rfl (o10.mono (by decide))) (by decide +kernel) zzo m9 f9 B9 rfl (o9.mono (by decide))) (by decide +kernel) zzo m8 f8 B8 rfl (o8.mono (by decide))) (by decide +kernel) zzo m7 f7 B7 rfl (o7.mono (by decide))) h18
end
end K04
open PySem PySem.W PyProof.Rows
set_option maxRecDepth 100000 in
set_option maxHeartbeats 0 in
theorem PySem.Challenge.cw_cornerpiles_k04_piles_of_cubes_holds : PySem.Challenge.rw_cornerpiles_k04_piles_of_cubes.Holds := by
 refine QQ.holds_by (l:=PySem.Challenge.rw_cornerpiles_k04_piles_of_cubes) (q:=K04.view) (loose:=K04.loose) (N:=20000) (k:=6) (n:=63) (ds:=K04.dfs) (xc:=[0,1,2,3,4,5,6,7,8,9,10,11]) (F:=K04.F18) (x := "script") ?said rfl rfl (λ _=>rfl) K04.run (by rfl) (by rfl) (by rfl) (by rfl) (by decide +kernel) ⟨rfl,rfl,rfl,rfl,rfl,by decide +kernel⟩ ?hw rfl (by decide) rfl ⟨rfl,by decide,by decide,rfl⟩ (λ _ _ _ _ G hm=>K04.all_ok G hm) (λ _ _ _ ns hl hO hS=>QQ.sp_yes hO hS (K04.law_true ns hl))
 case said=>decide +kernel
 case hw=>w_witness2
