import PyProof.Rows.All
import Wide.All
import OpenK.AllK
import Wide.FinOn
import Lean
import PyProof.EqAt
import PyProof.EqKinds
import PyProof.TupleCall
import PySem.Challenge.RW_cornerpiles_k53_whole_six_or_fewer
open PySem renaming wpAny_bind->va0,Value->va2,Shared->va3,wpAny_pure->va5,starEach->va7,sizeLine->va8,Program->vb0,wpAny->vb3,model->vb4,Around->vc0,World->vc1,PyData->vc5,cellsFrom->vc7,wpAny_truthy_bool->vc8,wpAny_field->vc9,compareOp->vd2,mainGlobals->vd3,FuncData->vd6,wpAny_call_entry->vd7,assignEach->vd8,wpAny_holding->vd9,NameKind->ve1,wpAny_newObj_type->ve2,Scope->ve5,IsPair->ve6,wpAny_callSpecial?_slot->ve7,wpAny_seqItems->ve8,wpAny_mono->ve9,wpAny_setField_rec->vf0,mem_of_lookup->vf5,Builtin->vf6,intItems->vf9,binaryOp->vg0,backTo->vg1,bootBuiltins->vg3,wpAny_newList->vg5,behindInMarks->vg7,wpAny_passesOwn->vg8,sliceBounds->vg9,cLine->vh0,numAt->vh4,wpAny_pyIter_tuple->vh5,foldedSetIterable->vi0,ReadsAll->vi4,wpAny_pyIter_zip->vi7,letOwnedTupleGo->vj0,IsZip->vj2,sysModules->vj5,wpAny_updateSeq_pair->vj7,wpAny_newTuple->vj9,sizeLine_eq->vk2,wpAny_onRaise->vk4,wpAny_Call_Name_kw->vk5,wpAny_loadPart_at->vk9,relabel->vl0,codeAny->vl1,noFill_tuple_add->vl8,wpAny_execs_nil->vm1,rawInt->vm2,pushCells_keeps->vm3,intItems_at->vm6,importedModules->vm7,codeAny_builtin->vn1,callerA->vn2,assign->vn3,CmpOp->vn7,wpAny_letOwnedTupleGo_zip->vo0,newFunctionEnv->vo2
open PySem.Heap renaming get?_push_of_some->va1,lt_size->va4,get?_push_size->va6,size_push->vd1,size_update->vd4,get?_push_ne->vf1,SameBut->vl7
open PySem.W renaming Frag->va9,findIn->vb7,kia_one->vc2,kitOne->vc4,mroIn->ve0,boot_heap->ve3,keepIn->vf3,kas_sort->vh6,fnOf->vh7,looks_findIn->vj8,kitAny->vk0,hideAll_get->vk3,methodObj->vl2,kitx_none->vl3,boot_heap->vl4,instObj->vn4,lookIn->vo4,codeIn->vo5
open PySem.PyData renaming eqv->vb1,canLayAll0->vb2,depthAll->vb5,eqvAll->vb9,canLay0->vg2,depth->vg4
open PySem.Obj renaming mapSeq->vb6
open PySem.Builtin.SmallTypes renaming nextOf->vb8,ownedTupleIsFree->vd5,ownedTupleHandOut->vk1
open PyProof.Rows renaming seqObj->vc3,callWith_type1->vc6,listUpdate_at->vg6,IntsAre->vh2,seqEpoch_at->vi3,AllBare->vi6,sortedAll->vi9,wpS_bind->vj4,size_push'->vj6,subscriptTail->vk6,slot_tuple_getitem->vl5,pairsOf->vm4,list_sort_plain->vm5,get?_update_seq->vm8,envOfC->vm9,entry_list_sort->vn0,slot_list_sort->vo1,args_list_sort->vo3
open Ne renaming symm->vd0
open PySem.SeqAt.ReadsAll renaming length->ve4
open PySem.F renaming slot_tuple_iterator_next->vf2,args_tuple_add_2->vi1,entry_tuple_add->vi5,slot_tuple_add->vi8,slot_zip_next->vj3,args_tuple_iterator_next_1->vm0,entry_tuple_iterator_next->vn6
open PySem.Builtin.Slice renaming slicePlaces->vf4,sliceAdjust->vh9,sliceApplied->vn9
open False renaming elim->vf7
open PySem.Builtin.Tuple renaming tupleExact->vf8
open PySem.SeqAt.EqAt renaming same->vh1,of_refs->vk8
open PySem.Builtin.Str renaming strSliceIndices->vh3
open PySem.Calls renaming call_function_entry->vh8,Name_function_global->vn8
open PySem.Builtin.List renaming listTooLong->vi2
open PySem.Str renaming ofString->vj1
open PySem.MeetsSeq3 renaming plain_eq_loop->vk7
open PySem.SeqAt renaming RcNeAt->vl6
open Prod renaming ext->vl9
open Prod.mk renaming inj->vn5
open List renaming getD_eq_getElem?_getD->ja0,mem_cons_of_mem->ja1,range->ja2,length_map->ja3,mem_cons_self->ja4,mem_cons->ja6,mem_append_right->ja7,getElem?_eq_getElem->ja8,length_cons->ja9,mem_append_left->jb0,replicate->jb1,getElem?_eq_some_iff->jb3,length_append->jb4,map_cons->jb7,all_eq_true->jb8,mem_range->jb9,size_toArray->jc0,getElem?_map->jc1,map_map->jc2,mem_singleton->jc3,getElem?_append_left->jc4,getElem?_set_ne->jc7,length_range->jc8,mem_append->jc9,map_congr_left->jd0,length_reverse->jd1,not_mem_nil->jd2,map_append->jd3,getElem?_append_right->jd4,getElem?_set_self->jd6,range_succ->jd7,length_take->jd8,getElem?_replicate->jd9,lookup_cons->je1,mem_map->je3,getElem_mem->je4,filter_congr->je5,length_replicate->je6,sum_append->je7,filter_cons_of_neg->je9,map_nil->jf0,length_set->jf1,drop_eq_getElem_cons->jf2,filter_eq_self->jf4,filter_cons_of_pos->jf7,replicate_succ->jf8,nodup_cons->jg3,length_singleton->jg4,getElem?_take_of_lt->jg6,getElem?_cons_succ->jg9,all_cons->jh0,mem_filter->jh3,of_mem_zip->jh5,getElem_of_mem->jh6,set_cons_zero->jh8,set_cons_succ->jh9,pairwise_cons->ji0,flatten_cons->ji2,nil_append->ji3,filter_map->ji7,mem_of_mem_take->ji9,getElem?_eq_none_iff->jj0,mem_or_eq_of_mem_set->jj1,mem_reverse->jj4,filter_cons->jj5,filterMap_cons->jj6,filter_flatMap->jj7,append_nil->jj8,findIdx?_eq_some_iff_getElem->jk0,append_assoc->jk3,reverse_cons->jk5,take_zero->jk6,toArray->jk9,getElem?_eq_none->jl0,zipWith->jl1,sum_cons->jl4,forIn_cons->jl5,take_succ_cons->jl6,range'->jl8,getElem?_concat_length->jl9,flatMap_append->jm0,map_const'->jm1,length_zip->jm2,mem_filterMap->jm3,getElem_range->jm6,all_nil->jm7,getElem?_take->jm9,sum->jn1,length_drop->jn2,cons_append->jn3,ext_getElem->jn4,map_reverse->jn5,drop_eq_nil_of_le->jn6,take_of_length_le->jn7,drop_of_length_le->jn8,set_nil->jo1,getElem?_reverse->jo2,length_nil->jo3,map_set->jo4,all_map->jo5,nodup_nil->jo7,replicate_zero->jo8,getElem?_range->jo9,length_flatMap->jp0,take_nil->jp2,getD->jp3,findIdx?_cons->jp4,map_singleton->jp5,filter_append->jp6,flatMap_assoc->jp7,getElem?_drop->jp8,map_take->jp9,filter_filter->jq0,map_replicate->jq1,mem_range'_1->jq3,flatMap_cons->jq4,nodup_append->jq5,sum_nil->jq7,flatten_nil->jr2,zipIdx_cons->jr4,mem_flatMap->jr5,range'_succ->jr6,map_flatMap->jr7,flatMap_map->jr8,any_eq_true->jr9,length->js0,foldl_cons->js1,zipIdx_nil->js2,range_zero->js4,forIn_nil->js7,take_succ->js8,drop_zero->js9,foldl->jt0,drop_nil->jt2,any_map->jt8
open Bool renaming and_eq_true->ja5,false_ne_true->jb6,eq_iff_iff->je2,false_xor->jf3,and_false->jg1,or_eq_true->jg5,and_true->jh1,false_eq_true->jm5,and_eq_true_iff->jo6,not_eq_true'->jq2,false_or->jt3,and_comm->jt4
open Nat renaming le_refl->jb2,lt_of_lt_of_le->jb5,ne_of_lt->jc6,le_trans->jd5,lt_of_succ_lt_succ->je0,mul_comm->jf5,lt_irrefl->jf6,le_of_succ_le->jf9,lt_succ_of_lt->jg0,ne_of_gt->jg2,lt_succ_self->jg7,le_add_right->jg8,mul_le_mul->ji4,zero_le->ji5,mod_eq_of_lt->jj2,div_eq_of_lt->jj3,mul_add_mod->jk1,mul_add_div->jk2,le_succ->jk4,min_le_right->jl2,div_lt_of_lt_mul->jl3,min_le_left->jl7,zero_add->jm4,add_zero->jm8,le_of_lt->jn9,succ_mul->jo0,le_of_eq->jq6,sub_zero->jq8,lt_or_ge->jq9,succ_ne_zero->jr1,succ_le_succ->jr3,not_lt_zero->js5,min_eq_left->js6,mod_lt->jt1,sub_self->jt6,min_self->jt7
open Option renaming map_eq_some_iff->jc5,map_some->jj9,isSome_iff_exists->jn0,getD_none->jr0
open Int renaming toNat_natCast->je8,zero_add->jh2,emod_lt_of_pos->ji1,le_refl->ji6,emod_nonneg->ji8,le_trans->jk8,le_antisymm->js3,not_lt->jt9
open Array renaming length_toList->jh4,getElem?_eq_none->jh7,getElem?_toList->jk7,append_assoc->jp1,toList->jt5,map->ju0
set_option Elab.async false
set_option linter.all false
set_option maxRecDepth 100000
set_option autoImplicit false
set_option maxHeartbeats 2000000
namespace L2
open PySem PySem.Spec PyProof.Rows
def zpc (s:Stmt):Arguments:=match s with
 | .FunctionDef _ a _ _ _ _ _ _ _ _=>a
 | _=>{ posonlyargs:=[],args:=[],vararg:=none,kwonlyargs:=[],kw_defaults:=[],kwarg:=none,defaults:=[] }
def zql (s:Stmt):List Stmt:=match s with
 | .FunctionDef _ _ b _ _ _ _ _ _ _=>b
 | _=>[]
def zqc (s:Stmt):ve5:=match s with
 | .FunctionDef _ _ _ _ _ _ sc _ _ _=>sc
 | _=>{ kind:=.function,names:=[],isGenerator:=false,isCoroutine:=false }
end L2
namespace QQ
open PySem PySem.Spec PySem.W PySem.Calls PyProof.Rows L2
abbrev Frag:=va9
def XN:List Str:=["PileError","NoBox","NoPile","NoStairs","NoWays","NoRoad","NoNumber","NoPlace","TooMany","NoText","NoName","NoRow"]
def zvl (K:Frag) (c:Nat):Option Addr:=match XN[c]? with
 | some x=>(match PySem.W.nsIn K vd3 x with
  | some (some (.ref C))=>some C
  | _=>none)
 | none=>none
def bmV:List va2:=[.type "ValueError",.type "Exception",.type "BaseException",.type "object"]
def mroX (K:Frag) (C:Addr):List va2:=match K.lookup C with
 | some ⟨_,_,.cls cd,_⟩=>cd.mro
 | _=>[]
def isX (c d:Nat):Bool:=c == d || d == 0
def xTab (K:Frag):Bool:=(ja2 12).all λ c=>match zvl K c with
 | some C=>PySem.W.excIn K C bmV "ValueError.__new__" && (ja2 12).all λ d=>(match zvl K d with
  | some D=>(mroX K C).contains (.ref D) == isX c d
  | none=>true)
 | none=>true
def zjb (K:Frag) (C:Addr):Bool:=(PySem.W.clsIn K C).isSome && ve0 K C (.type "object") == some true && ve0 K C (.type "BaseException") == some true && vb7 K (.ref C) "__class__" == some (some (.builtin "object.__class__")) &&
 vb7 K (.ref C) "__getattribute__" == some (some (.builtin "BaseException.__getattribute__")) && vb7 K (.ref C) "__getattr__" == some none
def xKit (K:Frag):Bool:=vc4 K (.type "NoneType") (.type "ValueError") == some false && (ja2 12).all λ c=>match zvl K c with
 | some C=>zjb K C && vc4 K (.type "NoneType") (.ref C) == some false && vc4 K (.ref C) (.type "ValueError") == some true && (ja2 12).all λ d=>(match zvl K d with
  | some D=>vc4 K (.ref C) (.ref D) == some (isX c d)
  | none=>true)
 | none=>true
def zkj:List Str:=["len","isinstance","all","max","min","tuple","list","range","int","bool","str","dict","sum","enumerate","zip","reversed","set","ValueError","sorted","abs"]
def zyp (tb:String->Option vf6) (p:vb0) (w:vc1) (n₀:Nat) (ann:Option va2):Nat->SharedT->Thread->Option SharedT
 | 0,_,_=>none
 | n + 1,s,t=>match through t with
  | true=>some s
  | false=>match stepOk n₀ ann t with
   | false=>none
   | true=>match stepT (denote tb) p w s t with
    | some (s',t')=>zyp tb p w n₀ ann n s' t'
    | none=>none
def ofL:List Obj->Nat->BT->BT
 | [],_,t=>t
 | o::r,n,t=>ofL r (n + 1) (t.ins n o)
noncomputable def bootT (P:Params):BT:=ofL (ve3 P).objs.toList 0 .nil
noncomputable def bootS (P:Params) (os:OsState):SharedT:=⟨bootT P,(ve3 P).objs.size,(ve3 P).life,#[],boot_drawn,boot_toks,os⟩
def qa2 {α:Type} (p q:vb0) (loose:List Str) (Xt:va3->Bool) (Yf:va3->α) (H:Heap) (s:va3):=
 ((staticsOk (vm7 p.main.body) H s.heap && namesBound p s.heap && gensDone s && laidKept H s.heap),openSeen q loose (vm7 p.main.body) Xt true s,Yf s)
def kof (h:Heap):Frag:=(ja2 h.objs.size).filterMap λ a=>(h.get? a).map λ o=>(a,o)
structure DefSeen where
 name:Str
 qual:Str
 params:Arguments
 body:FuncBody
 scope:ve5
 globals:Addr
 closure:List (Str×Addr)
 defaults:va2
 builtins:Addr
 code:Bool
def qa5 (K:Frag) (x:Str):Option DefSeen:=match nsIn K vd3 x with
 | some (some (.ref g))=>(match K.lookup g with
  | some ⟨_,_,.func fd,_⟩=>some ⟨fd.name,fd.qualname,fd.params,fd.body,fd.scope,fd.globals,fd.closure,fd.defaults,fd.builtins,codeIn K fd.code x⟩
  | _=>none)
 | _=>none
def qgg (x:Str) (st:Stmt):DefSeen:=⟨x,x,zpc st,.stmts (zql st),zqc st,mainNs,[],.none,0,true⟩
def zbx (ds:List (Str×Stmt)) (xc:List Nat) (K:Frag):List (Option DefSeen)×List (Option (Option va2))×Bool:=
 (ds.map λ d=>qa5 K d.1,zkj.map λ x=>nsIn K vd3 x,xc.isEmpty || (xTab K && xKit K && xc.all λ c=>(zvl K c).isSome && match XN[c]? with
  | some x=>!(x == ("__debug__" : Str))
  | none=>false))
def zgw (ds:List (Str×Stmt)):List (Option DefSeen)×List (Option (Option va2))×Bool:=(ds.map λ d=>some (qgg d.1 d.2),zkj.map λ _=>some none,true)
end QQ
namespace K53
open PySem PySem.Spec PyProof.Rows L2 QQ
def top (i:Nat):Stmt:=PySem.Challenge.pw_cornerpiles_k53_whole_six_or_fewer.main.body.getD i (.Pass ⟨0,0,0,0⟩)
abbrev t0:Stmt:=top 5
abbrev t1:Stmt:=top 6
abbrev t2:Stmt:=top 7
abbrev t3:Stmt:=top 8
abbrev t4:Stmt:=top 9
abbrev t5:Stmt:=top 10
abbrev t6:Stmt:=top 11
abbrev t7:Stmt:=top 12
abbrev t8:Stmt:=top 13
abbrev t9:Stmt:=top 14
abbrev t10:Stmt:=top 15
abbrev t11:Stmt:=top 16
abbrev t12:Stmt:=top 18
abbrev t13:Stmt:=top 20
abbrev t14:Stmt:=top 21
abbrev t15:Stmt:=top 22
abbrev t16:Stmt:=top 23
abbrev t17:Stmt:=top 24
abbrev t18:Stmt:=top 25
abbrev t19:Stmt:=top 27
abbrev t20:Stmt:=top 28
abbrev t21:Stmt:=top 29
abbrev t22:Stmt:=top 30
abbrev t23:Stmt:=top 31
abbrev t24:Stmt:=top 32
abbrev t25:Stmt:=top 33
abbrev t26:Stmt:=top 34
abbrev t27:Stmt:=top 35
abbrev t28:Stmt:=top 36
abbrev t29:Stmt:=top 37
def dfs:List (Str×Stmt):=[(("is_whole_number" : Str),t0),(("is_box" : Str),t1),(("must_be_box" : Str),t2),(("is_row_of_heights" : Str),t3),(("never_rises" : Str),t4),(("column_of" : Str),t5),(("is_pile" : Str),t6),(("must_be_pile" : Str),t7),(("mirrored_pile" : Str),t8),(("how_many_above" : Str),t9),(("rolled_pile" : Str),t10),(("rest_of" : Str),t11),(("copy_of" : Str),t12),(("is_even" : Str),t13),(("is_whole" : Str),t14),(("is_round" : Str),t15),(("mirrored_form" : Str),t16),(("rolled_form" : Str),t17),(("forms_of" : Str),t18),(("_law_cell_at" : Str),t19),(("_law_numbers" : Str),t20),(("_law_box" : Str),t21),(("_law_pile" : Str),t22),(("_law_cubes" : Str),t23),(("_law_of_cubes" : Str),t24),(("_law_turned" : Str),t25),(("_law_rest" : Str),t26),(("_law_own" : Str),t27),(("_law_many" : Str),t28),(("law" : Str),t29)]
def view:vb0:={ PySem.Challenge.pw_cornerpiles_k53_whole_six_or_fewer with main:={ PySem.Challenge.pw_cornerpiles_k53_whole_six_or_fewer.main with body:=[t29] } }
def loose:List Str:=(PySem.Challenge.pw_cornerpiles_k53_whole_six_or_fewer.main.scope.names.map λ x=>x.1).filter λ x=>!(x == ("law" : Str))
theorem run:∀ (w:PySem.World) (os:PySem.OsState),(zyp PySem.treeTable PySem.Challenge.rw_cornerpiles_k53_whole_six_or_fewer.prog w (vl4 w.params).objs.size ((vl4 w.params).nsMap vd3 "__annotations__") 20000 (bootS w.params os) (PySem.W.topStub PySem.Challenge.rw_cornerpiles_k53_whole_six_or_fewer.prog)).map (λ s=>qa2 PySem.Challenge.rw_cornerpiles_k53_whole_six_or_fewer.prog view loose (λ s=>PySem.W.xlAt view [] s && PySem.W.recOk (PySem.W.RowW.records PySem.Challenge.rw_cornerpiles_k53_whole_six_or_fewer.row.toRowW) s) (λ s=>zbx dfs [] (kof s.heap)) (vl4 w.params) s.abs)=some (true,PySem.W.openGood view loose,zgw dfs):=λ w os=>by kernel_rfl
end K53
namespace L2
open PySem PySem.Spec PyProof.Rows
abbrev Key:=Sum Int Str
def qpj:Key->va2->Bool
 | .inl k,v=>Value.isInt k v
 | .inr x,v=>Value.isStrOf x v
def keyH (w:vc1):Key->Int
 | .inl k=>hashInt k
 | .inr x=>hashStr w x
theorem zxl:∀ {k:Key}{v:va2},qpj k v=true->(∃ i t,k=Sum.inl i/\v=Value.int i t)\/(∃ x t,k=Sum.inr x/\v=Value.str x t)
 | .inl i,v,h=>by
  obtain ⟨t,e⟩:=Value.isInt_shape (k:=i) (v:=v) h
  exact .inl ⟨i,t,rfl,e⟩
 | .inr x,v,h=>by
  obtain ⟨t,e⟩:=Value.isStrOf_shape (x:=x) (v:=v) h
  exact .inr ⟨x,t,rfl,e⟩
theorem qpi (a b:Int):decide ((Sum.inl a:Key)=Sum.inl b)=(a == b):=by
 by_cases e:a=b
 ·subst e;simp
 ·have h:¬ (Sum.inl a:Key)=Sum.inl b:=λ q=>e (Sum.inl.inj q)
  rw [decide_eq_false h]
  exact (beq_eq_false_iff_ne.mpr e).symm
theorem qpf (a b:Str):decide ((Sum.inr a:Key)=Sum.inr b)=decide (a=b):=by
 by_cases e:a=b
 ·subst e;simp
 ·have h:¬ (Sum.inr a:Key)=Sum.inr b:=λ q=>e (Sum.inr.inj q)
  rw [decide_eq_false h,decide_eq_false e]
theorem qph (a:Int) (b:Str):decide ((Sum.inl a:Key)=Sum.inr b)=false:=decide_eq_false (λ q=>nomatch q)
theorem qpg (a:Str) (b:Int):decide ((Sum.inr a:Key)=Sum.inl b)=false:=decide_eq_false (λ q=>nomatch q)
def zkg (prog:vb0) (w:vc1):PySem.KeyKind prog w Key where
 is:=qpj
 hash:=keyH w
 inj:=λ v a b ha hb=>by
  rcases zxl ha with ⟨i,t,rfl,rfl⟩ | ⟨x,t,rfl,rfl⟩
  ·rcases zxl hb with ⟨j,u,rfl,e⟩ | ⟨y,u,rfl,e⟩
   ·injection e with e1 _;rw [e1]
   ·exact nomatch e
  ·rcases zxl hb with ⟨j,u,rfl,e⟩ | ⟨y,u,rfl,e⟩
   ·exact nomatch e
   ·injection e with e1 _;rw [e1]
 byValue:=λ k v h=>by
  rcases zxl h with ⟨i,t,rfl,rfl⟩ | ⟨x,t,rfl,rfl⟩ <;> rfl
 pyHash:=λ hv h=>by
  rcases zxl hv with ⟨i,t,rfl,rfl⟩ | ⟨x,t,rfl,rfl⟩
  ·exact wpAny_pyHash_int h
  ·exact wpAny_pyHash_str h
 eqBool:=λ hu hv h=>by
  rcases zxl hu with ⟨i,t,rfl,rfl⟩ | ⟨x,t,rfl,rfl⟩
  ·rcases zxl hv with ⟨j,u,rfl,rfl⟩ | ⟨y,u,rfl,rfl⟩
   ·rw [qpi] at h;exact wpAny_eqBool_int h
   ·rw [qph] at h;exact SeqAt.EqAt.int_str i t y u _ _ _ _ h
  ·rcases zxl hv with ⟨j,u,rfl,rfl⟩ | ⟨y,u,rfl,rfl⟩
   ·rw [qpg] at h;exact SeqAt.EqAt.str_int x t j u _ _ _ _ h
   ·rw [qpf] at h;exact wpAny_eqBool_str h
 «strs»:=λ k x t v h=>by
  rcases zxl h with ⟨i,u,rfl,e⟩ | ⟨y,u,rfl,e⟩
  ·exact nomatch e
  ·injection e with e1 _
   subst e1
   cases v <;> rfl
inductive V where
 | non | bl (b:Bool) | int (i:Int) | str (x:Str) | byt (b:Array UInt8) | flt (b:UInt64) | ref (a:Addr) | ty (n:String)
 deriving DecidableEq
def RelV:V->va2->Prop
 | .non,u=>u=Value.none
 | .bl b,u=>u=Value.bool b
 | .int i,u=>∃ t,u=Value.int i t
 | .str x,u=>∃ t,u=Value.str x t
 | .byt b,u=>∃ t,u=Value.bytes b t
 | .flt b,u=>∃ t,u=Value.float b t
 | .ref a,u=>u=Value.ref a
 | .ty n,u=>u=Value.type n
abbrev Vals:List V->List va2->Prop:=Paired RelV
theorem Vals.length {xs:List V}{us:List va2} (r:Vals xs us):xs.length=us.length:=Paired.length r
theorem Vals.get:∀ {xs:List V}{us:List va2}{i:Nat}{x:V},Vals xs us->xs[i]?=some x->∃ u,us[i]?=some u/\RelV x u
 | _,_,_,_,.nil,e=>by simp at e
 | _,_,0,_,.cons r _,e=>by simp at e;subst e;exact ⟨_,rfl,r⟩
 | _,_,i + 1,x,.cons _ t,e=>by
  obtain ⟨u,h1,h2⟩:=Vals.get (i:=i) (x:=x) t (by simpa using e)
  exact ⟨u,by simpa using h1,h2⟩
theorem Vals.set {x:V}{u:va2} (r:RelV x u):∀ {xs:List V}{us:List va2} (i:Nat),Vals xs us->Vals (xs.set i x) (us.set i u)
 | _,_,_,.nil=>.nil
 | _,_,0,.cons _ t=>.cons r t
 | _,_,i + 1,.cons q t=>.cons q (Vals.set r i t)
theorem Vals.append:∀ {xs ys:List V}{us ws:List va2},Vals xs us->Vals ys ws->Vals (xs++ys) (us++ws)
 | _,_,_,_,.nil,s=>s
 | _,_,_,_,.cons r t,s=>.cons r (Vals.append t s)
theorem Vals.take:∀ {xs:List V}{us:List va2} (n:Nat),Vals xs us->Vals (xs.take n) (us.take n)
 | _,_,0,_=>.nil
 | _,_,_ + 1,.nil=>.nil
 | _,_,n + 1,.cons r t=>.cons r (Vals.take n t)
theorem Vals.drop:∀ {xs:List V}{us:List va2} (n:Nat),Vals xs us->Vals (xs.drop n) (us.drop n)
 | _,_,0,r=>r
 | _,_,_ + 1,.nil=>.nil
 | _,_,n + 1,.cons _ t=>Vals.drop n t
def RelO:Option V->Option va2->Prop
 | some v,some u=>RelV v u
 | none,none=>True
 | _,_=>False
def KV {κ:Type}:List (κ×V)->List (κ×va2)->Prop:=Paired λ (p:κ×V) (q:κ×va2)=>p.1=q.1/\RelV p.2 q.2
def kV:Key->V
 | .inl i=>.int i
 | .inr x=>.str x
inductive HO where
 | lst (xs:List V)
 | tup (xs:List V)
 | dK (kvs:List (Key×V)) | dT (kvs:List (List Key×V))
 | set (S:Int->Bool) (n:Nat)
 | ins (C dx:Addr) (fs:List (Str×V))
 | own (x:Addr)
 | xd (fs:List (Str×V))
 | met (f x:Addr)
 | rng (lo hi:Int)
 | frz (o:Obj) (u:HO)
 | tbl (ps:Array va2)
 | ext (φ:Heap->Prop)
abbrev Hp:=Addr->Option HO
def upd (H:Hp) (a:Addr) (o:HO):Hp:=λ b=>if b=a then some o else H b
theorem zqm {H:Hp}{a:Addr}{o:HO}:upd H a o a=some o:=by unfold upd;rw [if_pos rfl]
theorem zqk {H:Hp}{a b:Addr}{o:HO} (h:b≠a):upd H a o b=H b:=by unfold upd;rw [if_neg h]
theorem zvi {H:Hp}{a b:Addr}{o:HO} (h:H a=some o) (h':H b=none):a≠b:=by
 intro e;subst e;rw [h] at h';cases h'
section
variable (P:vb0) (w:vc1)
def zzd (H:Hp) (h:Heap) (a:Addr):HO->Prop
 | .lst xs=>xs.length<=va8/\∃ (its:List va2) (n:Nat),Vals xs its/\h.get? a=some { cls:=.type "list",data:=.seq its.toArray n }
 | .tup xs=>xs.length<=va8/\∃ its:List va2,Vals xs its/\IsTup h a its.toArray
 | .dK kvs=>kvs.length<=va8/\(a == vj5)=false/\∃ vs,KV kvs vs/\h.DictOf (zkg P w) a vs
 | .dT kvs=>kvs.length<=va8/\(a == vj5)=false/\∃ xs:List (List Key×Addr×va2),
   Paired (λ (p:List Key×V) (q:List Key×Addr×va2)=>p.1=q.1/\H q.2.1=some (.tup (p.1.map kV))/\RelV p.2 q.2.2) kvs xs /\
   ∃ o es ep,h.get? a=some o/\o.ExactDict/\o.data=.dict es ep/\es.toList=xs.map (entryOfKey (tupleKind (zkg P w)))/\(xs.map (·.1)).Nodup
 | .set S n=>h.SetOf (intKind P w) a S n
 | .ins C dx fs=>H dx=some (.own a)/\fs.length<=1000/\dx≠a/\h.get? a=some (vn4 C dx) /\
   ∃ mA,h.Ns1 dx mA/\(∀ f,RelO (fs.lookup f) (mA f))/\PySem.Within mA (fs.map (·.1))
 | .own _=>∃ o,h.get? a=some o
 | .xd fs=>∃ mA,h.Ns1 a mA/\∀ f,RelO (fs.lookup f) (mA f)
 | .rng lo hi=>∃ t u v,h.get? a=some { cls:=.type "range",data:=.fields #[.int lo t,.int hi u,.int 1 v] }
 | .frz o u=>h.get? a=some o/\zzd H h a u
 | .tbl ps=>h.get? a=some { cls:=.none,data:=.fields ps }
 | .met f x=>h.get? a=some (vl2 (.ref f) (.ref x))
 | .ext φ=>φ h/\(∃ o,h.get? a=some o)/\∀ h1 h2:Heap,φ h1->(∀ o,h1.get? a=some o->h2.get? a=some o)->φ h2
def HOk (H:Hp) (h:Heap):Prop:=∀ a o,H a=some o->zzd P w H h a o
end
section
variable {P:vb0}{w:vc1}{H H':Hp}{h h':Heap}{a:Addr}{o:HO}
theorem zzd.lt (x:zzd P w H h a o):a < h.objs.size:=by
 cases o with
 | lst xs=>obtain ⟨_,_,_,_,e⟩:=x;exact va4 e
 | tup xs=>obtain ⟨_,_,_,p⟩:=x;exact p.lt
 | dK kvs=>obtain ⟨_,_,_,_,o,_,_,e,_⟩:=x;exact va4 e
 | dT kvs=>obtain ⟨_,_,_,_,o,_,_,e,_⟩:=x;exact va4 e
 | set S n=>obtain ⟨o,_,_,_,e,_⟩:=x;exact va4 e
 | ins C dx fs=>obtain ⟨_,_,_,e,_⟩:=x;exact va4 e
 | own y=>obtain ⟨_,e⟩:=x;exact va4 e
 | xd fs=>obtain ⟨_,⟨_,_,_,e,_⟩,_⟩:=x;exact va4 e
 | rng lo hi=>obtain ⟨_,_,_,e⟩:=x;exact va4 e
 | frz ob u=>obtain ⟨e,_⟩:=x;exact va4 e
 | tbl ps=>exact va4 (show h.get? a=some _ from x)
 | met f y=>exact va4 (show h.get? a=some _ from x)
 | ext φ=>obtain ⟨_,⟨_,e⟩,_⟩:=x;exact va4 e
theorem Paired.mapP {α β:Type}{F G:α->β->Prop}:∀ {l₁:List α}{l₂:List β},Paired F l₁ l₂->(∀ a b,F a b->G a b)->Paired G l₁ l₂
 | _,_,.nil,_=>.nil
 | _,_,.cons r t,f=>.cons (f _ _ r) (Paired.mapP t f)
theorem zzd.stay (x:zzd P w H h a o) (k:∀ b u,(b=a\/H b=some (.own a))->h.get? b=some u->h'.get? b=some u)
  (ho:∀ b,H b=some (.own a)->H' b=some (.own a)) (ht:∀ b xs,H b=some (.tup xs)->H' b=some (.tup xs)):zzd P w H' h' a o:=by
 induction o with
 | lst xs=>obtain ⟨z,its,n,r,e⟩:=x;exact ⟨z,its,n,r,k _ _ (.inl rfl) e⟩
 | tup xs=>obtain ⟨z,its,r,ob,e,c⟩:=x;exact ⟨z,its,r,ob,k _ _ (.inl rfl) e,c⟩
 | dK kvs=>obtain ⟨z,y,vs,r,ob,es,ep,e,c⟩:=x;exact ⟨z,y,vs,r,ob,es,ep,k _ _ (.inl rfl) e,c⟩
 | dT kvs=>
  obtain ⟨z,y,xs,r,ob,es,ep,e,c⟩:=x
  exact ⟨z,y,xs,Paired.mapP r λ p q z=>⟨z.1,ht _ _ z.2.1,z.2.2⟩,ob,es,ep,k _ _ (.inl rfl) e,c⟩
 | set S n=>obtain ⟨ob,es,ep,t,e,c⟩:=x;exact ⟨ob,es,ep,t,k _ _ (.inl rfl) e,c⟩
 | ins C dx fs=>
  obtain ⟨d,z,ne,e,mA,⟨od,es,ep,e2,c⟩,r⟩:=x
  exact ⟨ho _ d,z,ne,k _ _ (.inl rfl) e,mA,⟨od,es,ep,k _ _ (.inr d) e2,c⟩,r⟩
 | own y=>obtain ⟨ob,e⟩:=x;exact ⟨ob,k _ _ (.inl rfl) e⟩
 | xd fs=>obtain ⟨mA,⟨od,es,ep,e,c⟩,r⟩:=x;exact ⟨mA,⟨od,es,ep,k _ _ (.inl rfl) e,c⟩,r⟩
 | rng lo hi=>obtain ⟨t,u,v,e⟩:=x;exact ⟨t,u,v,k _ _ (.inl rfl) e⟩
 | frz ob u ih=>obtain ⟨e,q⟩:=x;exact ⟨k _ _ (.inl rfl) e,ih q⟩
 | tbl ps=>
  have e:h.get? a=some { cls:=.none,data:=.fields ps }:=x
  show h'.get? a=some { cls:=.none,data:=.fields ps }
  exact k a _ (.inl rfl) e
 | met f y=>
  have e:h.get? a=some (vl2 (.ref f) (.ref y)):=x
  show h'.get? a=some (vl2 (.ref f) (.ref y))
  exact k a _ (.inl rfl) e
 | ext φ=>obtain ⟨p,⟨o,e⟩,st⟩:=x;exact ⟨st _ _ p λ o q=>k _ _ (.inl rfl) q,⟨o,k _ _ (.inl rfl) e⟩,st⟩
theorem HOk.lt (x:HOk P w H h) (e:H a=some o):a < h.objs.size:=(x a o e).lt
theorem HOk.fresh (x:HOk P w H h) (e:h.objs.size<=a):H a=none:=by
 cases q:H a with
 | none=>rfl
 | some u=>exact absurd (jb5 (x.lt q) e) (jf6 _)
theorem HOk.kept (x:HOk P w H h) (k:∀ b u,h.get? b=some u->h'.get? b=some u):HOk P w H h':=λ a o e=>
 (x a o e).stay (λ b u _ q=>k b u q) (λ _ q=>q) λ _ _ q=>q
theorem HOk.laid (x:HOk P w H h) (k:∀ b u,h.get? b=some u->h'.get? b=some u) (hp:h.objs.size<=a) (new:zzd P w (upd H a o) h' a o):HOk P w (upd H a o) h':=λ b u e=>by
 have hn:=x.fresh hp
 by_cases hb:b=a
 ·subst hb;rw [zqm] at e;cases e;exact new
 ·rw [zqk hb] at e
  exact (x b u e).stay (λ c v _ q=>k c v q) (λ c q=>by rw [zqk (zvi q hn)];exact q) λ c xs q=>by rw [zqk (zvi q hn)];exact q
end
def Rd (H:Hp) (a:Addr) (u:HO):Prop:=H a=some u\/∃ o,H a=some (.frz o u)
theorem Rd.ok {P:vb0}{w:vc1}{H:Hp}{h:Heap}{a:Addr}{u:HO} (r:Rd H a u) (x:HOk P w H h):zzd P w H h a u:=by
 rcases r with r | ⟨o,r⟩
 ·exact x a u r
 ·obtain ⟨_,q⟩:=x a _ r
  exact q
def Mut:Option HO->Prop
 | some (.lst _)=>True
 | some (.dK _)=>True
 | some (.dT _)=>True
 | some (.set _ _)=>True
 | some (.ins _ _ _)=>True
 | some (.ext _)=>True
 | _=>False
section
variable {P:vb0}{w:vc1}{H:Hp}{h h':Heap}{x e:Addr}{o':HO}
theorem HOk.write (ok:HOk P w H h) (mu:Mut (H x)) (he:e=x\/H e=some (.own x)) (k:∀ b u,b≠e->h.get? b=some u->h'.get? b=some u) (heo:∃ u,h'.get? e=some u)
  (new:zzd P w (upd H x o') h' x o'):HOk P w (upd H x o') h':=λ b u q=>by
 have nown:∀ c y,H c=some (.own y)->c≠x:=λ c y r z=>by subst z;rw [r] at mu;exact mu
 have ntup:∀ c xs,H c=some (.tup xs)->c≠x:=λ c xs r z=>by subst z;rw [r] at mu;exact mu
 by_cases hb:b=x
 ·subst hb;rw [zqm] at q;cases q;exact new
 ·rw [zqk hb] at q
  by_cases hbe:b=e
  ·have q':H b=some (.own x):=by
    rcases he with z | z
    ·exact absurd (hbe.trans z) hb
    ·rw [hbe];exact z
   rw [q] at q';cases q'
   obtain ⟨v,hv⟩:=heo
   exact ⟨v,by rw [hbe];exact hv⟩
  ·refine (ok b u q).stay (λ c v hc r=>k c v ?_ r) (λ c r=>by rw [zqk (nown c b r)];exact r) λ c xs r=>by rw [zqk (ntup c xs r)];exact r
   rcases hc with rfl | hc
   ·exact hbe
   ·rintro rfl
    rcases he with z | z
    ·exact nown c b hc z
    ·rw [hc] at z;cases z;exact hb rfl
end
structure Un (fs ex:List Addr) (H H':Hp) (h h':Heap):Prop where
 keep:∀ b o,h.get? b=some o->H b=none->b∉fs->b∉ex->h'.get? b=some o
 slot:∀ b o,h.get? b=some o->H b=none->b∈fs->b∉ex->∃ sl,h'.get? b=some { o with slots:=sl }
 free:∀ b o,h.get? b=some o->H b=none->b∉ex->H' b=none
 there:∀ b o,h.get? b=some o->b∉ex->∃ o',h'.get? b=some o'
 tups:∀ b xs,H b=some (.tup xs)->H' b=some (.tup xs)
 frzs:∀ b o u,H b=some (.frz o u)->H' b=some (.frz o u)
 tbls:∀ b ps,H b=some (.tbl ps)->∃ more,H' b=some (.tbl (ps++more))
section
variable {fs fs' ex ex':List Addr}{H H1 H2:Hp}{h h1 h2 h':Heap}{a x e:Addr}{o:HO}
theorem Un.any (u:Un fs ex H H1 h h1) {b:Addr}{ob:Obj} (q:h.get? b=some ob) (n:H b=none) (hx:b∉ex):∃ sl,h1.get? b=some { ob with slots:=sl }:=by
 by_cases hb:b∈fs
 ·exact u.slot b ob q n hb hx
 ·exact ⟨ob.slots,u.keep b ob q n hb hx⟩
theorem Un.kept (k:∀ b u,h.get? b=some u->h'.get? b=some u):Un fs ex H H h h':=
 ⟨λ b ob q _ _ _=>k b ob q,λ b ob q _ _ _=>⟨ob.slots,k b ob q⟩,λ _ _ _ n _=>n,λ b ob q _=>⟨ob,k b ob q⟩,λ _ _ q=>q,λ _ _ _ q=>q,λ _ ps q=>⟨#[],by rw [q];simp⟩⟩
theorem Un.refl:Un fs ex H H h h:=Un.kept λ _ _ q=>q
theorem Un.laid (k:∀ b u,h.get? b=some u->h'.get? b=some u) (hp:h.objs.size<=a) (hn:H a=none):Un fs ex H (upd H a o) h h' where
 keep:=λ b u q _ _ _=>k b u q
 slot:=λ b u q _ _ _=>⟨u.slots,k b u q⟩
 free:=λ b u q n _=>by rw [zqk (jc6 (jb5 (va4 q) hp))];exact n
 there:=λ b u q _=>⟨u,k b u q⟩
 tups:=λ b xs q=>by rw [zqk (zvi q hn)];exact q
 frzs:=λ b u xs q=>by rw [zqk (zvi q hn)];exact q
 tbls:=λ b ps q=>⟨#[],by rw [zqk (zvi q hn),q];simp⟩
theorem Un.write (mu:Mut (H x)) (he:e=x\/H e=some (.own x)) (k:∀ b u,b≠e->h.get? b=some u->h'.get? b=some u) (heo:∃ u,h'.get? e=some u):Un fs ex H (upd H x o) h h':=by
 have hx:∀ b,H b=none->b≠x:=λ b n z=>by subst z;rw [n] at mu;exact mu
 have hb:∀ b,H b=none->b≠e:=λ b n z=>by
  subst z
  rcases he with r | r
  ·exact hx b n r
  ·rw [n] at r;cases r
 have hm:∀ b u,H b=some u->¬ Mut (some u)->b≠x:=λ b u q nm z=>by subst z;rw [q] at mu;exact nm mu
 refine ⟨λ b u q n _ _=>k b u (hb b n) q,λ b u q n _ _=>⟨u.slots,k b u (hb b n) q⟩,λ b u q n _=>by rw [zqk (hx b n)];exact n,λ b u q _=>?_,
  λ b xs q=>by rw [zqk (hm b _ q λ z=>z)];exact q,λ b u xs q=>by rw [zqk (hm b _ q λ z=>z)];exact q,λ b ps q=>⟨#[],by rw [zqk (hm b _ q λ z=>z),q];simp⟩⟩
 by_cases hbe:b=e
 ·subst hbe;exact heo
 ·exact ⟨u,k b u hbe q⟩
end
def trk (h:Heap) (H:Hp):List Addr:=(ja2 h.objs.size).filter λ a=>(H a).isSome
def hidT (h:Heap) (H:Hp):Heap:=PySem.W.hideAll h (trk h H)
theorem qf4 (h:Heap) (H:Hp):(hidT h H).objs.size=h.objs.size:=PySem.W.hideAll_size _ _
theorem qii {h:Heap}{H:Hp}{b:Addr}{o:Obj} (e:h.get? b=some o) (n:H b=none):(hidT h H).get? b=some o:=
 vk3 _ e λ hm=>by
  have q:(H b).isSome=true:=(jh3.mp hm).2
  rw [n] at q;simp at q
theorem ql6 {h:Heap}{H:Hp}{b:Addr}{o:Obj} (e:(hidT h H).get? b=some o):h.get? b=some o/\H b=none:=by
 have e':h.get? b=some o:=PySem.W.of_hideAll (trk h H) e
 refine ⟨e',?_⟩
 cases q:H b with
 | none=>rfl
 | some x=>
  have hm:b∈trk h H:=jh3.mpr ⟨jb9.mpr (va4 e'),by simp [q]⟩
  have z:(hidT h H).get? b=none:=PySem.W.hideAll_none (trk h H) hm
  rw [z] at e;cases e
def qm6 (g h:Heap) (L:Addr):List (Addr×Obj):=(ja2 h.objs.size).filterMap λ a=>if a=L\/(g.get? a).isSome=true then none else (h.get? a).map λ o=>(a,o)
def rest (g h:Heap) (L d:Addr):List (Addr×Obj):=(qm6 g h L).filter λ p=>decide (p.1≠d)
structure Mod (K:va9) (mg:Str->Option va2) (base:Heap):Prop where
 kin:K.In base
 glob:base.Ns vd3 mg
 blt:∃ mb,base.Ns builtinsNs mb/\∀ x:Str,x ≠ "__name__" -> mb x=vg3 x
 nolimit:base.NoLimit
structure Cx where
 prog:vb0
 w:vc1
 K:va9
 mg:Str->Option va2
 base:Heap
 A:vc0
 N:List Str
 s₀:va3
 H₀:Hp
 env:Env
 outer:List Env
 stack:List Env
 ex:List Addr
 fn:Str->Bool
 calm:Bool
 pn:List (Addr×Obj)
 xe:va2->va3->Prop
def frs (l:List Env):List Addr:=l.filterMap (·.frame)
abbrev Cx.fs (X:Cx):List Addr:=frs X.outer
def Vis (sc:ve5) (x:Str):Prop:=sc.names.lookup x=some .local\/sc.names.lookup x=some .cell\/sc.names.lookup x=some .free
def Loc (sc:ve5) (x:Str):Prop:=sc.names.lookup x=some .local\/sc.names.lookup x=some .cell
def Look (env:Env) (h:Heap) (m:Str->Option va2) (x:Str) (u:va2):Prop:=
 (env.kindOf x=some .local/\m x=some u)\/((env.kindOf x=some .cell\/env.kindOf x=some .free)/\∃ c,env.cells.lookup x=some c/\h.IsCell c (some u))
structure Cx.Ok (X:Cx):Prop where
 mod:Mod X.K X.mg X.base
 kind:X.env.scope.kind=.function
 glob:X.env.globals=vd3
 blt:X.env.builtins=builtinsNs
 above:X.s₀.heap.objs.size<=X.env.locals
 inj:∀ x y c,X.env.cells.lookup x=some c->X.env.cells.lookup y=some c->x=y
 has:∀ x,(X.env.kindOf x=some .cell\/X.env.kindOf x=some .free)->∃ c,X.env.cells.lookup x=some c
 cab:∀ x c,X.fn x=true->X.env.cells.lookup x=some c->X.s₀.heap.objs.size<=c
 hd:X.calm=true->X.A.handled=none
 frames:X.A.frames=some X.stack
 stk:X.stack=X.outer\/(X.stack=X.env::X.outer/\X.env.frame=some X.env.locals)
 exf:∀ b∈X.ex,b≠X.env.locals/\∀ x c,X.env.cells.lookup x=some c->c≠b
 bs:∀ b o,X.base.get? b=some o->X.s₀.heap.get? b=some o/\X.H₀ b=none
 bsz:X.base.objs.size<=X.s₀.heap.objs.size
 noex:∀ b o,X.base.get? b=some o->b∉X.ex
 exfs:∀ b∈X.ex,b∉X.fs
 funs:X.s₀.heap.FunFrames X.base X.outer
 frf:∀ b∈X.fs,X.H₀ b=none
structure Inv (X:Cx) (pins:List (Addr×Obj)) (σ:List (Option V)) (H:Hp) (s:va3):Prop where
 ok:X.Ok
 os:s.os=X.s₀.os
 bare:vi6 s.gens
 base:Un X.fs X.ex X.H₀ H X.s₀.heap s.heap
 loc:∃ m,s.heap.Ns X.env.locals m/\∀ (i:Nat) (x:Str) (v:V),X.N[i]?=some x->σ[i]?=some (some v)->Vis X.env.scope x->∃ u,RelV v u/\Look X.env s.heap m x u
 cell:∀ x c,X.env.cells.lookup x=some c->∃ v,s.heap.IsCell c v
 free:H X.env.locals=none
 freeC:∀ x c,X.env.cells.lookup x=some c->H c=none
 pin:∀ p∈X.pn++pins,s.heap.get? p.1=some p.2/\H p.1=none/\p.1≠X.env.locals/\p.1∉X.fs/\∀ v,p.2.data≠.cell v
 hok:HOk X.prog X.w H s.heap
 len:σ.length=X.N.length
section
variable {X:Cx}{pins:List (Addr×Obj)}{σ:List (Option V)}{H H':Hp}{s:va3}{h':Heap}
theorem Cx.Ok.nofr (ok:X.Ok) {b:Addr}{o:Obj} (e:X.base.get? b=some o):b∉X.fs:=λ hb=>by
 have:=(ok.funs.mem hb).1
 rw [e] at this;cases this
theorem Inv.bs (I:Inv X pins σ H s):∀ b o,X.base.get? b=some o->s.heap.get? b=some o/\H b=none:=λ b o e=>
 ⟨I.base.keep b o (I.ok.bs b o e).1 (I.ok.bs b o e).2 (I.ok.nofr e) (I.ok.noex b o e),I.base.free b o (I.ok.bs b o e).1 (I.ok.bs b o e).2 (I.ok.noex b o e)⟩
theorem Inv.bk (I:Inv X pins σ H s):∀ b o,X.base.get? b=some o->s.heap.get? b=some o:=λ b o e=>(I.bs b o e).1
theorem Inv.mod (I:Inv X pins σ H s):Mod X.K X.mg X.base:=I.ok.mod
theorem Inv.kIn (I:Inv X pins σ H s):X.K.In s.heap:=I.ok.mod.kin.keeps I.bk
theorem Inv.lt (I:Inv X pins σ H s):X.env.locals < s.heap.objs.size:=let ⟨_,hn,_⟩:=I.loc;hn.lt
theorem Inv.sz (I:Inv X pins σ H s):X.s₀.heap.objs.size<=s.heap.objs.size:=jd5 I.ok.above (jn9 I.lt)
theorem Inv.nofs (I:Inv X pins σ H s) {a:Addr} (h:s.heap.objs.size<=a):a∉X.fs:=λ hb=>by
 obtain ⟨_,o,ho,_⟩:=I.ok.funs.mem hb
 exact absurd (jb5 (va4 ho) (jd5 I.sz h)) (jf6 _)
theorem Inv.cne (I:Inv X pins σ H s):∀ x c,X.env.cells.lookup x=some c->c≠X.env.locals:=λ x c e z=>by
 obtain ⟨v,o,ho,hd⟩:=I.cell x c e
 obtain ⟨m,⟨o',es,ep,ho',hd',_⟩,_⟩:=I.loc
 rw [z,ho'] at ho;cases ho;rw [hd'] at hd;cases hd
theorem Inv.funs (I:Inv X pins σ H s):s.heap.FunFrames X.base X.outer:=by
 have all:∀ (l:List Env),(∀ b∈frs l,b∈X.fs)->X.s₀.heap.FunFrames X.base l->s.heap.FunFrames X.base l:=by
  intro l
  induction l with
  | nil=>intro _ _;trivial
  | cons env r ih=>
   intro hs hl
   obtain ⟨hk,⟨L,o,hf,hn,ho,hd⟩,hr⟩:=hl
   have hL:L∈X.fs:=hs L (by unfold frs;rw [jj6,hf];exact ja4)
   obtain ⟨sl,e⟩:=I.base.slot L o ho (I.ok.frf L hL) hL λ z=>I.ok.exfs L z hL
   exact ⟨hk,⟨L,_,hf,hn,e,hd⟩,ih (λ b hb=>hs b (by unfold frs;rw [jj6,hf];exact ja1 _ hb)) hr⟩
 exact all X.outer (λ _ hb=>hb) I.ok.funs
theorem Inv.stack (I:Inv X pins σ H s):s.heap.FunFrames X.base X.stack:=by
 rcases I.ok.stk with e | ⟨e,hf⟩
 ·rw [e];exact I.funs
 ·rw [e]
  obtain ⟨m,hn,_⟩:=I.loc
  refine .cons (by rw [I.ok.kind];decide) hf hn ?_ I.funs
  exact Heap.get?_none_of_le (jd5 I.ok.bsz I.ok.above)
theorem Inv.stkSub (I:Inv X pins σ H s):∀ b∈frs X.stack,b∈X.env.locals::X.fs:=λ b hb=>by
 rcases I.ok.stk with e | ⟨e,hf⟩
 ·rw [e] at hb;exact ja1 _ hb
 ·rw [e] at hb
  unfold frs at hb
  rw [jj6,hf] at hb
  exact hb
theorem Inv.stkFree (I:Inv X pins σ H s):∀ b∈frs X.stack,H b=none:=λ b hb=>by
 rcases ja6.mp (I.stkSub b hb) with e | hb
 ·rw [e];exact I.free
 ·obtain ⟨_,o,ho,_⟩:=I.ok.funs.mem hb
  exact I.base.free b o ho (I.ok.frf b hb) λ z=>I.ok.exfs b z hb
theorem Inv.step {g':Array GenState}{t':Nat}{d':Drawn}{ch:List Addr} (I:Inv X pins σ H s)
  (hch:∀ b∈ch,(b∈X.ex\/X.s₀.heap.objs.size<=b)/\b≠X.env.locals/\(∀ x c,X.env.cells.lookup x=some c->c≠b)/\∀ p∈X.pn++pins,p.1≠b)
  (keep:∀ b o,b≠X.env.locals->b∉X.fs->b∉ch->s.heap.get? b=some o->H b=none->h'.get? b=some o)
  (slot:∀ b o,b≠X.env.locals->b∈X.fs->b∉ch->s.heap.get? b=some o->H b=none->∃ sl,h'.get? b=some { o with slots:=sl }) (free:∀ b o,b∉ch->s.heap.get? b=some o->H b=none->H' b=none)
  (there:∀ b o,b∉ch->s.heap.get? b=some o->∃ o',h'.get? b=some o')
  (tups:∀ b xs,H b=some (.tup xs)->H' b=some (.tup xs)) (frzs:∀ b o u,H b=some (.frz o u)->H' b=some (.frz o u)) (tbls:∀ b ps,H b=some (.tbl ps)->∃ more,H' b=some (.tbl (ps++more)))
  (ns:∀ m,s.heap.Ns X.env.locals m->h'.Ns X.env.locals m) (hok:HOk X.prog X.w H' h') (hg:vi6 g'):
  Inv X pins σ H' { s with heap:=h',gens:=g',drawn:=d',toks:=t' }:=by
 have neL:∀ b o,X.s₀.heap.get? b=some o->b≠X.env.locals:=λ b o e=>jc6 (jb5 (va4 e) I.ok.above)
 have neC:∀ b o,X.s₀.heap.get? b=some o->b∉X.ex->b∉ch:=λ b o e hx hb=>by
  rcases (hch b hb).1 with z | z
  ·exact hx z
  ·exact absurd (jb5 (va4 e) z) (jf6 _)
 have cellK:∀ x c,X.env.cells.lookup x=some c->∀ v,s.heap.IsCell c v->h'.IsCell c v:=λ x c e v ⟨o,ho,hd⟩=>by
  have nch:c∉ch:=λ z=>(hch c z).2.2.1 x c e rfl
  by_cases hc:c∈X.fs
  ·obtain ⟨sl,q⟩:=slot c o (I.cne x c e) hc nch ho (I.freeC x c e)
   exact ⟨_,q,hd⟩
  ·exact ⟨o,keep c o (I.cne x c e) hc nch ho (I.freeC x c e),hd⟩
 refine ⟨I.ok,I.os,hg,⟨λ b o e n hb hx=>?_,λ b o e n hb hx=>?_,λ b o e n hx=>?_,λ b o e hx=>?_,λ b xs e=>tups b xs (I.base.tups b xs e),λ b o xs e=>frzs b o xs (I.base.frzs b o xs e),λ b ps e=>?_⟩,?_,λ x c e=>?_,?_,λ x c e=>?_,λ p hp=>?_,hok,I.len⟩
 ·exact keep b o (neL b o e) hb (neC b o e hx) (I.base.keep b o e n hb hx) (I.base.free b o e n hx)
 ·obtain ⟨sl,e1⟩:=I.base.slot b o e n hb hx
  obtain ⟨sl',e2⟩:=slot b _ (neL b o e) hb (neC b o e hx) e1 (I.base.free b o e n hx)
  exact ⟨sl',e2⟩
 ·obtain ⟨o',e1⟩:=I.base.there b o e hx
  exact free b o' (neC b o e hx) e1 (I.base.free b o e n hx)
 ·obtain ⟨o',e1⟩:=I.base.there b o e hx
  exact there b o' (neC b o e hx) e1
 ·obtain ⟨m1,e1⟩:=I.base.tbls b ps e
  obtain ⟨m2,e2⟩:=tbls b _ e1
  exact ⟨m1++m2,by rw [e2,jp1]⟩
 ·obtain ⟨m,hn,hl⟩:=I.loc
  refine ⟨m,ns m hn,λ i x v e1 e2 e3=>?_⟩
  obtain ⟨u,r,l⟩:=hl i x v e1 e2 e3
  refine ⟨u,r,?_⟩
  rcases l with l | ⟨k,c,e,z⟩
  ·exact .inl l
  ·exact .inr ⟨k,c,e,cellK x c e _ z⟩
 ·obtain ⟨v,z⟩:=I.cell x c e
  exact ⟨v,cellK x c e v z⟩
 ·obtain ⟨m,⟨o,_,_,ho,_⟩,_⟩:=I.loc
  exact free _ o (λ z=>(hch _ z).2.1 rfl) ho I.free
 ·obtain ⟨v,o,ho,hd⟩:=I.cell x c e
  exact free c o (λ z=>(hch c z).2.2.1 x c e rfl) ho (I.freeC x c e)
 ·obtain ⟨e,n,ne,nf,d⟩:=I.pin p hp
  have nch:p.1∉ch:=λ z=>(hch p.1 z).2.2.2 p hp rfl
  exact ⟨keep p.1 p.2 ne nf nch e n,free p.1 p.2 nch e n,ne,nf,d⟩
theorem Inv.un {t':Nat} (I:Inv X pins σ H s) (u:Un X.fs [] H H' s.heap h') (hok:HOk X.prog X.w H' h'):Inv X pins σ H' { s with heap:=h',toks:=t' }:=by
 obtain ⟨m,⟨o,es,ep,ho,r⟩,_⟩:=id I.loc
 obtain ⟨sl,hL⟩:=u.any ho I.free (by simp)
 exact I.step (g':=s.gens) (d':=s.drawn) (ch:=[]) (λ _ z=>nomatch z) (λ b o _ hb _ e n=>u.keep b o e n hb (by simp)) (λ b o _ hb _ e n=>u.slot b o e n hb (by simp)) (λ b o _ e n=>u.free b o e n (by simp)) (λ b o _ e=>u.there b o e (by simp)) u.tups u.frzs u.tbls (λ m' hm=>by
  obtain ⟨o',es',ep',ho',r'⟩:=hm
  rw [ho] at ho';cases ho'
  exact ⟨_,es',ep',hL,r'⟩) hok I.bare
theorem Inv.call {g':Array GenState}{t':Nat}{d':Drawn}{ch:List Addr} (I:Inv X pins σ H s) (u:Un (frs X.stack) ch H H' s.heap h') (hok:HOk X.prog X.w H' h') (hg:vi6 g')
  (hch:∀ b∈ch,(b∈X.ex\/X.s₀.heap.objs.size<=b)/\b≠X.env.locals/\(∀ x c,X.env.cells.lookup x=some c->c≠b)/\∀ p∈X.pn++pins,p.1≠b):
  Inv X pins σ H' { s with heap:=h',gens:=g',drawn:=d',toks:=t' }:=by
 obtain ⟨m,⟨o,es,ep,ho,r⟩,_⟩:=id I.loc
 obtain ⟨sl,hL⟩:=u.any ho I.free λ z=>(hch _ z).2.1 rfl
 exact I.step (ch:=ch) hch (λ b o hL hb hc e n=>u.keep b o e n (λ z=>(ja6.mp (I.stkSub b z)).elim hL hb) hc) (λ b o _ _ hc e n=>u.any e n hc) (λ b o hc e n=>u.free b o e n hc) (λ b o hc e=>u.there b o e hc) u.tups u.frzs u.tbls (λ m' hm=>by
  obtain ⟨o',es',ep',ho',r'⟩:=hm
  rw [ho] at ho';cases ho'
  exact ⟨_,es',ep',hL,r'⟩) hok hg
theorem Inv.turned {t':Nat}{it:Addr} (I:Inv X pins σ H s) (k:∀ b o,b≠it->s.heap.get? b=some o->h'.get? b=some o) (hn:H it=none) (hL:it≠X.env.locals)
  (h1:it∈X.ex\/X.s₀.heap.objs.size<=it) (h2:∀ x c,X.env.cells.lookup x=some c->c≠it) (h3:∀ p∈X.pn++pins,p.1≠it):Inv X pins σ H { s with heap:=h',toks:=t' }:=by
 have nit:∀ b u,H b=some u->b≠it:=λ b u e z=>by rw [z,hn] at e;cases e
 refine I.step (g':=s.gens) (d':=s.drawn) (ch:=[it]) (λ b hb=>?_) (λ b o _ _ hc e _=>k b o (λ z=>hc (by simp [z])) e) (λ b o _ _ hc e _=>⟨o.slots,k b o (λ z=>hc (by simp [z])) e⟩) (λ _ _ _ _ n=>n)
  (λ b o hc e=>⟨o,k b o (λ z=>hc (by simp [z])) e⟩) (λ _ _ e=>e) (λ _ _ _ e=>e) (λ b ps e=>⟨#[],by rw [e];simp⟩) (λ m hm=>?_) (λ b u e=>?_) I.bare
 ·have e:b=it:=by simpa using hb
  subst e
  exact ⟨h1,hL,h2,h3⟩
 ·obtain ⟨o,es,ep,ho,r⟩:=hm
  exact ⟨o,es,ep,k _ o (vd0 hL) ho,r⟩
 ·refine (I.hok b u e).stay (λ c v hc q=>k c v ?_ q) (λ _ q=>q) λ _ _ q=>q
  rcases hc with z | z
  ·rw [z];exact nit b u e
  ·exact nit c _ z
theorem Inv.tok (I:Inv X pins σ H s) (t:Nat):Inv X pins σ H { s with toks:=t }:=I.un (h':=s.heap) (t':=t) Un.refl I.hok
theorem Inv.kept {t':Nat} (I:Inv X pins σ H s) (k:∀ b u,s.heap.get? b=some u->h'.get? b=some u):Inv X pins σ H { s with heap:=h',toks:=t' }:=I.un (Un.kept k) (I.hok.kept k)
theorem Inv.laid {a:Addr}{o:HO}{t':Nat} (I:Inv X pins σ H s) (k:∀ b u,s.heap.get? b=some u->h'.get? b=some u) (hp:s.heap.objs.size<=a) (new:zzd X.prog X.w (upd H a o) h' a o):
  Inv X pins σ (upd H a o) { s with heap:=h',toks:=t' }:=I.un (Un.laid k hp (I.hok.fresh hp)) (I.hok.laid k hp new)
theorem Inv.write {x e:Addr}{o:HO}{t':Nat} (I:Inv X pins σ H s) (mu:Mut (H x)) (he:e=x\/H e=some (.own x)) (k:∀ b u,b≠e->s.heap.get? b=some u->h'.get? b=some u) (heo:∃ u,h'.get? e=some u)
  (new:zzd X.prog X.w (upd H x o) h' x o):Inv X pins σ (upd H x o) { s with heap:=h',toks:=t' }:=I.un (Un.write mu he k heo) (I.hok.write mu he k heo new)
theorem Inv.pins_of {pins':List (Addr×Obj)} (I:Inv X pins σ H s) (h:∀ p∈pins',s.heap.get? p.1=some p.2/\H p.1=none/\p.1≠X.env.locals/\p.1∉X.fs/\∀ v,p.2.data≠.cell v):Inv X pins' σ H s:=
 ⟨I.ok,I.os,I.bare,I.base,I.loc,I.cell,I.free,I.freeC,λ p hp=>(jc9.mp hp).elim (λ z=>I.pin p (jb0 _ z)) (h p),I.hok,I.len⟩
theorem qbz {N:List Str} (hN:N.Nodup) {i j:Nat}{x:Str} (a:N[i]?=some x) (b:N[j]?=some x):i=j:=by
 obtain ⟨h1,e1⟩:=jb3.mp a
 obtain ⟨h2,e2⟩:=jb3.mp b
 exact (List.getElem_inj hN).mp (e1.trans e2.symm)
theorem zgd {M:Model}{A:vc0}{E:va2->va3->Prop}{i:Nat}{x:Str}{v:V}{u:va2}{Q:Unit->va3->Prop} (I:Inv X pins σ H s) (hN:X.N.Nodup) (hi:X.N[i]?=some x) (hx:Loc X.env.scope x) (r:RelV v u)
  (h:∀ s',Inv X pins (σ.set i (some v)) H s'->(∃ a,vl7 a s.heap s'.heap/\(a=X.env.locals\/X.env.cells.lookup x=some a))->Q () s') (hf:X.fn x=true\/X.env.scope.names.lookup x=some .local:=by first | exact .inl rfl | exact .inr rfl | assumption):vb3 M A (storeName X.env x u) Q E s:=by
 obtain ⟨m,hn,hl⟩:=id I.loc
 have hcls:(X.env.scope.kind == .class || (X.env.scope.kind == .module && X.env.locals != X.env.globals))=false:=by rw [I.ok.kind];rfl
 have hiσ:i < σ.length:=by rw [I.len];exact (jb3.mp hi).1
 have cne:=I.cne
 have tracked:∀ {a:Addr}{h':Heap},(∃ o,s.heap.get? a=some o/\H a=none)->vl7 a s.heap h'->HOk X.prog X.w H h':=λ {a h'} ha hs b ob e=>by
  obtain ⟨_,_,hfree⟩:=ha
  refine (I.hok b ob e).stay (λ c w' hc q=>(hs.2 c ?_).trans q) (λ _ q=>q) λ _ _ q=>q
  rintro rfl
  rcases hc with rfl | hc
  ·rw [hfree] at e;cases e
  ·rw [hfree] at hc;cases hc
 rcases hx with hk | hk
 ·refine wpAny_storeName_local hk hn (λ h' hn' hs=>?_) hcls
  obtain ⟨oL,_,_,hoL,_⟩:=id hn
  refine h _ ⟨I.ok,I.os,I.bare,⟨λ b o e n hb hx=>?_,λ b o e n hb hx=>?_,I.base.free,λ b o e hx=>?_,I.base.tups,I.base.frzs,I.base.tbls⟩,⟨_,hn',λ j y v' e1 e2 e3=>?_⟩,λ y c e=>?_,I.free,I.freeC,λ p hp=>?_,tracked ⟨oL,hoL,I.free⟩ hs,by simpa using I.len⟩ ⟨_,hs,.inl rfl⟩
  ·exact (hs.2 b (jc6 (jb5 (va4 e) I.ok.above))).trans (I.base.keep b o e n hb hx)
  ·obtain ⟨sl,e1⟩:=I.base.slot b o e n hb hx
   exact ⟨sl,(hs.2 b (jc6 (jb5 (va4 e) I.ok.above))).trans e1⟩
  ·obtain ⟨o',e1⟩:=I.base.there b o e hx
   exact ⟨o',(hs.2 b (jc6 (jb5 (va4 e) I.ok.above))).trans e1⟩
  ·by_cases hj:j=i
   ·subst hj
    rw [hi] at e1;cases e1
    rw [jd6 hiσ] at e2
    cases e2
    exact ⟨u,r,.inl ⟨hk,by simp⟩⟩
   ·rw [jc7 (vd0 hj)] at e2
    obtain ⟨u',r',q⟩:=hl j y v' e1 e2 e3
    refine ⟨u',r',?_⟩
    rcases q with ⟨k,e⟩ | ⟨k,c,e,z⟩
    ·refine .inl ⟨k,?_⟩
     have:y≠x:=λ e=>hj (qbz hN e1 (e ▸ hi))
     simp [this,e]
    ·exact .inr ⟨k,c,e,z.sameBut hs (cne y c e)⟩
  ·obtain ⟨w',z⟩:=I.cell y c e
   exact ⟨w',z.sameBut hs (cne y c e)⟩
  ·obtain ⟨e,n,ne,nf,d⟩:=I.pin p hp
   exact ⟨(hs.2 p.1 ne).trans e,n,ne,nf,d⟩
 ·have hfn:X.fn x=true:=by
   rcases hf with z | z
   ·exact z
   ·rw [z] at hk;cases hk
  obtain ⟨c,hc⟩:=I.ok.has x (.inl hk)
  obtain ⟨w',z⟩:=I.cell x c hc
  refine wpAny_storeName_cell I.ok.kind hk hc z (λ h' hc' hs=>?_)
  obtain ⟨oc,hoc,hocd⟩:=id z
  refine h { s with heap:=h' } ⟨I.ok,I.os,I.bare,⟨λ b o e n hb hx=>?_,λ b o e n hb hx=>?_,I.base.free,λ b o e hx=>?_,I.base.tups,I.base.frzs,I.base.tbls⟩,⟨m,hn.sameBut hs (vd0 (cne x c hc)),λ j y v' e1 e2 e3=>?_⟩,λ y c' e=>?_,I.free,I.freeC,λ p hp=>?_,tracked ⟨oc,hoc,I.freeC x c hc⟩ hs,by simpa using I.len⟩ ⟨c,hs,.inr hc⟩
  ·exact (hs.2 b (jc6 (jb5 (va4 e) (I.ok.cab x c hfn hc)))).trans (I.base.keep b o e n hb hx)
  ·obtain ⟨sl,e1⟩:=I.base.slot b o e n hb hx
   exact ⟨sl,(hs.2 b (jc6 (jb5 (va4 e) (I.ok.cab x c hfn hc)))).trans e1⟩
  ·obtain ⟨o',e1⟩:=I.base.there b o e hx
   exact ⟨o',(hs.2 b (jc6 (jb5 (va4 e) (I.ok.cab x c hfn hc)))).trans e1⟩
  ·by_cases hj:j=i
   ·subst hj
    rw [hi] at e1;cases e1
    rw [jd6 hiσ] at e2
    cases e2
    exact ⟨u,r,.inr ⟨.inl hk,c,hc,hc'⟩⟩
   ·rw [jc7 (vd0 hj)] at e2
    obtain ⟨u',r',q⟩:=hl j y v' e1 e2 e3
    refine ⟨u',r',?_⟩
    rcases q with q | ⟨k,c',e,z'⟩
    ·exact .inl q
    ·refine .inr ⟨k,c',e,z'.sameBut hs ?_⟩
     rintro rfl
     exact hj (qbz hN e1 (I.ok.inj _ _ _ e hc ▸ hi))
  ·by_cases hcc:c'=c
   ·subst hcc;exact ⟨_,hc'⟩
   ·obtain ⟨w2,z2⟩:=I.cell y c' e
    exact ⟨w2,z2.sameBut hs hcc⟩
  ·obtain ⟨e,n,ne,nf,d⟩:=I.pin p hp
   refine ⟨(hs.2 p.1 ?_).trans e,n,ne,nf,d⟩
   intro q
   rw [q,hoc] at e
   have q':oc=p.2:=Option.some.inj e
   exact d w' (by rw [<- q'];exact hocd)
theorem qbh {M:Model}{A:vc0}{E:va2->va3->Prop}{i:Nat}{x:Str}{v:V}{u:va2}{Q:Unit->va3->Prop} (I:Inv X pins σ H s) (hN:X.N.Nodup) (hi:X.N[i]?=some x) (hx:Loc X.env.scope x) (r:RelV v u)
  (h:∀ s',Inv X pins (σ.set i (some v)) H s'->Q () s') (hf:X.fn x=true\/X.env.scope.names.lookup x=some .local:=by first | exact .inl rfl | exact .inr rfl | assumption):vb3 M A (storeName X.env x u) Q E s:=
 zgd I hN hi hx r (λ s' I' _=>h s' I') hf
theorem Inv.call' {s':va3}{ch:List Addr} (I:Inv X pins σ H s) (ho:s'.os=s.os) (u:Un (frs X.stack) ch H H' s.heap s'.heap) (hok:HOk X.prog X.w H' s'.heap) (hg:vi6 s'.gens)
  (hch:∀ b∈ch,(b∈X.ex\/X.s₀.heap.objs.size<=b)/\b≠X.env.locals/\(∀ x c,X.env.cells.lookup x=some c->c≠b)/\∀ p∈X.pn++pins,p.1≠b):Inv X pins σ H' s':=by
 obtain ⟨h',g',d',t',o'⟩:=s'
 have e:o'=s.os:=ho
 subst e
 exact I.call (g':=g') (t':=t') (d':=d') u hok hg hch
end
abbrev XK:=va2->Option Addr->Hp->Prop
abbrev St:=List (Option V)
abbrev VK:=V->Hp->Prop
abbrev TE:=St->Hp->VK->Prop
abbrev TT:=St->Hp->(Bool->Hp->Prop)->Prop
abbrev TA:=St->Hp->(List V->Hp->Prop)->Prop
structure Ends where
 nx:St->Hp->Prop
 rt:VK
 bk:St->Hp->Prop:=λ _ _=>False
 ct:St->Hp->Prop:=λ _ _=>False
abbrev TS:=Ends->St->Hp->Prop
def EP (X:Cx) (pins:List (Addr×Obj)) (σ:St) (Q:VK) (u:va2) (s':va3):Prop:=∃ v H',Inv X pins σ H' s'/\RelV v u/\Q v H'
def TP (X:Cx) (pins:List (Addr×Obj)) (σ:St) (Q:Bool->Hp->Prop) (b:Bool) (s':va3):Prop:=∃ H',Inv X pins σ H' s'/\Q b H'
def AP (X:Cx) (pins:List (Addr×Obj)) (σ:St) (Q:List V->Hp->Prop) (us:List va2) (s':va3):Prop:=∃ vs H',Inv X pins σ H' s'/\Vals vs us/\Q vs H'
def SP (X:Cx) (pins:List (Addr×Obj)) (D:Ends) (f:Flow) (s':va3):Prop:=
 match f with
 | .next=>∃ σ' H',Inv X pins σ' H' s'/\D.nx σ' H'
 | .brk=>∃ σ' H',Inv X pins σ' H' s'/\D.bk σ' H'
 | .cont=>∃ σ' H',Inv X pins σ' H' s'/\D.ct σ' H'
 | .ret u=>∃ v σ' H',Inv X pins σ' H' s'/\RelV v u/\D.rt v H'
def PE (X:Cx) (e:Expr) (t:TE):Prop:=
 ∀ (pins:List (Addr×Obj)) (s:va3) (σ:St) (H:Hp) (Q:VK),Inv X pins σ H s->t σ H Q->vb3 (vb4 X.prog X.w) X.A (eval e X.env) (EP X pins σ Q) X.xe s
def PT (X:Cx) (e:Expr) (t:TT):Prop:=
 ∀ (pins:List (Addr×Obj)) (s:va3) (σ:St) (H:Hp) (Q:Bool->Hp->Prop),Inv X pins σ H s->t σ H Q->vb3 (vb4 X.prog X.w) X.A (isTrue e X.env (eval e X.env)) (TP X pins σ Q) X.xe s
def PW (X:Cx) (e:Expr) (t:TT):Prop:=
 ∀ (whole:Sem va2) (pins:List (Addr×Obj)) (s:va3) (σ:St) (H:Hp) (Q:Bool->Hp->Prop),Inv X pins σ H s->t σ H Q->vb3 (vb4 X.prog X.w) X.A (isTrue e X.env whole) (TP X pins σ Q) X.xe s
theorem PW.pt {X:Cx}{e:Expr}{t:TT} (h:PW X e t):PT X e t:=h _
def PA (X:Cx) (es:List Expr) (t:TA):Prop:=
 ∀ (pos:Pos) (pins:List (Addr×Obj)) (s:va3) (σ:St) (H:Hp) (Q:List V->Hp->Prop),Inv X pins σ H s->t σ H Q->vb3 (vb4 X.prog X.w) X.A (spliced (vg1 pos (va7 es X.env))) (AP X pins σ Q) X.xe s
def PS (X:Cx) (st:Stmt) (t:TS):Prop:=
 ∀ (pins:List (Addr×Obj)) (s:va3) (σ:St) (H:Hp) (D:Ends),Inv X pins σ H s->t D σ H->vb3 (vb4 X.prog X.w) X.A (exec st X.env) (SP X pins D) X.xe s
def PSs (X:Cx) (st:List Stmt) (t:TS):Prop:=
 ∀ (pins:List (Addr×Obj)) (s:va3) (σ:St) (H:Hp) (D:Ends),Inv X pins σ H s->t D σ H->vb3 (vb4 X.prog X.w) X.A (execs st X.env) (SP X pins D) X.xe s
theorem thn {α:Type}{t:Sem α}{Q Q':α->va3->Prop}{M:Model}{A:vc0}{E:va2->va3->Prop}{s:va3} (h:vb3 M A t Q E s) (hQ:∀ a s,Q a s->Q' a s):vb3 M A t Q' E s:=ve9 h hQ λ _ _ x=>x
section
variable {X:Cx}
theorem bin {a b:Expr}{ta tb:TE} (ha:PE X a ta) (hb:PE X b tb) {pins:List (Addr×Obj)}{s:va3}{σ:St}{H:Hp}{R:V->V->Hp->Prop} (I:Inv X pins σ H s) (h:ta σ H λ x H1=>tb σ H1 λ y H2=>R x y H2)
  {α:Type}{Q:α->va3->Prop}{f:va2->va2->Sem α}
  (hf:∀ v u s2 x y H2,Inv X pins σ H2 s2->RelV x v->RelV y u->R x y H2->vb3 (vb4 X.prog X.w) X.A (f v u) Q X.xe s2):
  vb3 (vb4 X.prog X.w) X.A (eval a X.env) (λ v s₁=>vb3 (vb4 X.prog X.w) X.A (eval b X.env) (λ u s₂=>vb3 (vb4 X.prog X.w) X.A (f v u) Q X.xe s₂) X.xe s₁) X.xe s:=by
 refine thn (ha pins s σ H _ I h) λ v s1 ⟨x,H1,I1,r1,q1⟩=>?_
 refine thn (hb pins s1 σ H1 _ I1 q1) λ u s2 ⟨y,H2,I2,r2,q2⟩=>?_
 exact hf v u s2 x y H2 I2 r1 r2 q2
def tVar (i:Nat):TE:=λ σ H Q=>∃ v,σ[i]?=some (some v)/\Q v H
def tC (v:V):TE:=λ _ H Q=>Q v H
theorem qon {i:Nat}{x:Str}{pos:Pos} (hN:X.N[i]?=some x) (hv:Vis X.env.scope x) (hd:(x == ("__debug__" : Str))=false:=by decide) (hcd:(x == ("__classdict__" : Str))=false:=by decide):PE X (.Name x pos) (tVar i):=by
 intro pins s σ H Q I h
 obtain ⟨v,e,h⟩:=h
 obtain ⟨m,hn,hl⟩:=I.loc
 obtain ⟨u,r,l⟩:=hl i x v hN e hv
 have fin:EP X pins σ Q u s:=⟨v,H,I,r,h⟩
 rcases l with ⟨hk,hm⟩ | ⟨hk,c,hc,hcell⟩
 ·exact wpAny_Name (wpAny_loadName_local I.ok.kind hk hn hm fin) hd
 ·rcases hk with hk | hk
  ·exact wpAny_Name (wpAny_loadName_cell I.ok.kind hk hc hcell fin) hd
  ·exact wpAny_Name (wpAny_loadName_free I.ok.kind hk hc hcell fin hcd) hd
theorem qbt {i j pos}:PE X (.Constant (.int i) j pos) (tC (.int i)):=λ _ _ _ H _ I h=>wpAny_Constant_int ⟨.int i,H,I.tok _,⟨_,rfl⟩,h⟩
theorem qqn {b j pos}:PE X (.Constant (.bool b) j pos) (tC (.bl b)):=λ _ _ _ H _ I h=>Constant_bool ⟨.bl b,H,I,rfl,h⟩
theorem qor {j pos}:PE X (.Constant .none j pos) (tC .non):=λ _ _ _ H _ I h=>Constant_none ⟨.non,H,I,rfl,h⟩
theorem qop {x j pos}:PE X (.Constant (.str x) j pos) (tC (.str x)):=λ _ _ _ H _ I h=>Calls.Constant_str ⟨.str x,H,I.tok _,⟨_,rfl⟩,h⟩
def Gl (X:Cx) (x:Str):Prop:=X.env.kindOf x=some .globalImplicit
theorem qfq {E:va2->va3->Prop}{pins:List (Addr×Obj)}{s:va3}{σ:St}{H:Hp}{x:Str}{u:va2}{pos:Pos}{Q:va2->va3->Prop} (I:Inv X pins σ H s) (hg:Gl X x) (hm:X.mg x=some u) (h:Q u s)
  (hd:(x == ("__debug__" : Str))=false:=by decide):vb3 (vb4 X.prog X.w) X.A (eval (.Name x pos) X.env) Q E s:=
 vn8 I.ok.kind hg (Calls.loadGlobal_global (by rw [I.ok.glob];exact I.mod.glob.keeps I.bk) hm h) hd
theorem zjg {E:va2->va3->Prop}{pins:List (Addr×Obj)}{s:va3}{σ:St}{H:Hp}{x:Str}{u:va2}{pos:Pos}{Q:va2->va3->Prop} (I:Inv X pins σ H s) (hg:Gl X x) (hm:X.mg x=none) (hv:vg3 x=some u) (h:Q u s)
  (hn:x ≠ "__name__" := by decide) (hd:(x == ("__debug__" : Str))=false:=by decide):vb3 (vb4 X.prog X.w) X.A (eval (.Name x pos) X.env) Q E s:=by
 obtain ⟨mb,h1,h2⟩:=I.mod.blt
 exact vn8 I.ok.kind hg (Calls.loadGlobal_builtin (by rw [I.ok.glob];exact I.mod.glob.keeps I.bk) hm (by rw [I.ok.blt];exact h1.keeps I.bk) ((h2 x hn).trans hv) h) hd
theorem qly {x:Str}{v:V}{u:va2}{pos:Pos} (hg:Gl X x) (hm:X.mg x=some u) (r:RelV v u) (hd:(x == ("__debug__" : Str))=false:=by decide):PE X (.Name x pos) (tC v):=
 λ _ _ _ H _ I h=>qfq I hg hm ⟨v,H,I,r,h⟩ hd
theorem qe2 {x:Str}{v:V}{u:va2}{pos:Pos} (hg:Gl X x) (hm:X.mg x=none) (hv:vg3 x=some u) (r:RelV v u) (hn:x ≠ "__name__" := by decide) (hd:(x == ("__debug__" : Str))=false:=by decide):PE X (.Name x pos) (tC v):=
 λ _ _ _ H _ I h=>zjg I hg hm hv ⟨v,H,I,r,h⟩ hn hd
variable {a b:Expr}{ta tb:TE}{pos:Pos}
def PC (X:Cx) (op:vn7) (a b:Expr) (t:TE):Prop:=
 ∀ (pins:List (Addr×Obj)) (s:va3) (σ:St) (H:Hp) (Q:VK),Inv X pins σ H s->t σ H Q ->
  vb3 (vb4 X.prog X.w) X.A (eval a X.env) (λ v s₁=>vb3 (vb4 X.prog X.w) X.A (eval b X.env) (λ u s₂=>vb3 (vb4 X.prog X.w) X.A (vd2 op v u) (EP X pins σ Q) X.xe s₂) X.xe s₁) X.xe s
theorem zzx (b:Expr) {op:vn7} (h:op≠.In) (h2:op≠.NotIn):vg7 op b=false:=by
 have e1:(op == CmpOp.In)=false:=by cases op <;> first | rfl | exact absurd rfl h
 have e2:(op == CmpOp.NotIn)=false:=by cases op <;> first | rfl | exact absurd rfl h2
 cases b <;> simp [vg7,e1,e2]
def tB (t:TE):TT:=λ σ H Q=>t σ H λ x H1=>∃ c,x=.bl c/\Q c H1
theorem qoh {e:Expr}{t:TE} (h:PE X e t) (he:∀ whole,isTrue e X.env whole=(do let v<-whole;standAt e.pos;holding [v] (truthy v)):=by intro _;rfl):PT X e (tB t):=by
 intro pins s σ H Q I hw
 refine isTrue_plain (thn (h pins s σ H _ I hw) λ v s1 ⟨x,H1,I1,r1,q1⟩=>?_) (he _)
 obtain ⟨d,rfl,q⟩:=q1
 cases r1
 exact vc8 ⟨H1,I1,q⟩
variable {tA tB':TT}{rest:List Expr}
def tAnd (t u:TT):TT:=λ σ H Q=>t σ H λ c H1=>if c=true then u σ H1 Q else Q false H1
def tOr (t u:TT):TT:=λ σ H Q=>t σ H λ c H1=>if c=true then Q true H1 else u σ H1 Q
def tNot (t:TT):TT:=λ σ H Q=>t σ H λ c H1=>Q (!c) H1
theorem qlp (ha:PT X a tA):PW X (.BoolOp .And [a] pos) tA:=by
 intro wh pins s σ H Q I h
 refine isTrue_and (thn (ha pins s σ H Q I h) λ c s1 e=>?_)
 cases c with
 | true=>exact isTrue_and_nil e
 | false=>exact e
theorem qof (ha:PT X a tA):PW X (.BoolOp .Or [a] pos) tA:=by
 intro wh pins s σ H Q I h
 refine isTrue_or (thn (ha pins s σ H Q I h) λ c s1 e=>?_)
 cases c with
 | false=>exact isTrue_or_nil e
 | true=>exact e
theorem qog (ha:PT X a tA) (hb:PW X (.BoolOp .And (b::rest) pos) tB'):PW X (.BoolOp .And (a::b::rest) pos) (tAnd tA tB'):=by
 intro wh pins s σ H Q I h
 refine isTrue_and (thn (ha pins s σ H _ I h) λ c s1 ⟨H1,I1,q1⟩=>?_)
 cases c with
 | true=>exact hb wh pins s1 σ H1 Q I1 q1
 | false=>exact ⟨H1,I1,q1⟩
theorem qqi (ha:PT X a tA) (hb:PW X (.BoolOp .Or (b::rest) pos) tB'):PW X (.BoolOp .Or (a::b::rest) pos) (tOr tA tB'):=by
 intro wh pins s σ H Q I h
 refine isTrue_or (thn (ha pins s σ H _ I h) λ c s1 ⟨H1,I1,q1⟩=>?_)
 cases c with
 | true=>exact ⟨H1,I1,q1⟩
 | false=>exact hb wh pins s1 σ H1 Q I1 q1
theorem qoi (ha:PT X a tA):PT X (.UnaryOp .Not a pos) (tNot tA):=by
 intro pins s σ H Q I h
 exact isTrue_not (ha pins s σ H (λ c H1=>Q (!c) H1) I h)
def qny (ta tb:TE):TE:=λ σ H Q=>ta σ H λ x H1=>∃ c,x=.bl c/\if c=true then tb σ H1 Q else Q (.bl false) H1
def tOrV (ta tb:TE):TE:=λ σ H Q=>ta σ H λ x H1=>∃ c,x=.bl c/\if c=true then Q (.bl true) H1 else tb σ H1 Q
def qnt (ta:TE):TE:=λ σ H Q=>ta σ H λ x H1=>∃ c,x=.bl c/\Q (.bl (!c)) H1
theorem qju {op}{t:TE} (h:PE X a t):PE X (.BoolOp op [a] pos) t:=λ pins s σ H Q I hw=>BoolOp_one (h pins s σ H Q I hw)
theorem qou (ha:PE X a ta) (hb:PE X (.BoolOp .And (b::rest) pos) tb):PE X (.BoolOp .And (a::b::rest) pos) (qny ta tb):=by
 intro pins s σ H Q I h
 refine BoolOp_and (thn (ha pins s σ H _ I h) λ v s1 ⟨x,H1,I1,r1,q1⟩=>?_)
 obtain ⟨c,rfl,q1⟩:=q1
 cases r1
 refine vc8 ?_
 cases c with
 | true=>exact hb pins s1 σ H1 Q I1 q1
 | false=>exact ⟨.bl false,H1,I1,rfl,q1⟩
theorem qql (ha:PE X a ta) (hb:PE X (.BoolOp .Or (b::rest) pos) tb):PE X (.BoolOp .Or (a::b::rest) pos) (tOrV ta tb):=by
 intro pins s σ H Q I h
 refine BoolOp_or (thn (ha pins s σ H _ I h) λ v s1 ⟨x,H1,I1,r1,q1⟩=>?_)
 obtain ⟨c,rfl,q1⟩:=q1
 cases r1
 refine vc8 ?_
 cases c with
 | false=>exact hb pins s1 σ H1 Q I1 q1
 | true=>exact ⟨.bl true,H1,I1,rfl,q1⟩
theorem qoq (ha:PE X a ta):PE X (.UnaryOp .Not a pos) (qnt ta):=by
 intro pins s σ H Q I h
 refine UnaryOp_ (thn (ha pins s σ H _ I h) λ v s1 ⟨x,H1,I1,r1,q1⟩=>?_)
 obtain ⟨c,rfl,q1⟩:=q1
 cases r1
 exact not_of (vc8 ⟨.bl (!c),H1,I1,rfl,q1⟩)
end
def SqL (K:va9) (H:Hp) (a:Addr) (xs:List V):Prop:=
 Rd H a (.lst xs) \/
  ∃ (o:Obj) (its:Array va2) (n:Nat),K.lookup a=some o/\o.cls=.type "list" /\ o.dict=none/\o.data=.seq its n/\its.size<=va8/\Vals xs its.toList
def SqT (K:va9) (H:Hp) (a:Addr) (xs:List V):Prop:=
 Rd H a (.tup xs) \/
  ∃ (o:Obj) (its:Array va2) (n:Nat),K.lookup a=some o/\o.cls=.type "tuple" /\ o.data=.seq its n/\its.size<=va8/\Vals xs its.toList
def absV:va2->Option V
 | .none=>some .non
 | .bool b=>some (.bl b)
 | .int i _=>some (.int i)
 | .str x _=>some (.str x)
 | .bytes b _=>some (.byt b)
 | .float b _=>some (.flt b)
 | .ref a=>some (.ref a)
 | .type n=>some (.ty n)
 | _=>none
theorem RelV.abs {x:V}{u:va2} (r:RelV x u):absV u=some x:=by
 cases x with
 | non=>cases r;rfl
 | bl _=>cases r;rfl
 | int _=>obtain ⟨t,rfl⟩:=r;rfl
 | str _=>obtain ⟨t,rfl⟩:=r;rfl
 | byt _=>obtain ⟨t,rfl⟩:=r;rfl
 | flt _=>obtain ⟨t,rfl⟩:=r;rfl
 | ref _=>cases r;rfl
 | ty _=>cases r;rfl
theorem RelV.inj {x y:V}{u:va2} (r:RelV x u) (q:RelV y u):x=y:=Option.some.inj (r.abs.symm.trans q.abs)
theorem Vals.inj:∀ {xs ys:List V}{us:List va2},Vals xs us->Vals ys us->xs=ys
 | _,_,_,.nil,.nil=>rfl
 | _,_,_,.cons r t,.cons r' t'=>by rw [r.inj r',Vals.inj t t']
section
variable {X:Cx}{pins:List (Addr×Obj)}{σ:St}{H:Hp}{s:va3}{a:Addr}{xs ys:List V}
theorem SqT.of {K:va9} (h:H a=some (.tup xs)):SqT K H a xs:=.inl (.inl h)
theorem Inv.list (I:Inv X pins σ H s) (h:SqL X.K H a xs):∃ its:List va2,Vals xs its/\PlainL s.heap a its.toArray/\xs.length<=va8:=by
 rcases h with h | ⟨o,its,n,hk,hc,hd,hs,hz,r⟩
 ·obtain ⟨z,its,n,r,e⟩:=h.ok I.hok
  exact ⟨its,r,⟨_,n,e,rfl,rfl,rfl⟩,z⟩
 ·refine ⟨its.toList,r,⟨o,n,I.kIn a o hk,hc,hd,by simpa using hs⟩,?_⟩
  have e:=r.length
  simp only [jh4] at e
  omega
theorem Inv.tuple (I:Inv X pins σ H s) (h:SqT X.K H a xs):∃ its:List va2,Vals xs its/\IsTup s.heap a its.toArray/\xs.length<=va8:=by
 rcases h with h | ⟨o,its,n,hk,hc,hs,hz,r⟩
 ·obtain ⟨z,its,r,p⟩:=h.ok I.hok
  exact ⟨its,r,p,z⟩
 ·refine ⟨its.toList,r,⟨o,I.kIn a o hk,hc,n,by simpa using hs⟩,?_⟩
  have e:=r.length
  simp only [jh4] at e
  omega
theorem Inv.list_inj (I:Inv X pins σ H s) (h:SqL X.K H a xs) (h':SqL X.K H a ys):xs=ys:=by
 obtain ⟨its,r,⟨o,n,e,_,_,d⟩,_⟩:=I.list h
 obtain ⟨its',r',⟨o',n',e',_,_,d'⟩,_⟩:=I.list h'
 rw [e] at e';cases e'
 rw [d] at d'
 injection d' with d1 _
 have:its=its':=by simpa using congrArg jt5 d1
 subst this
 exact r.inj r'
theorem Inv.tuple_inj (I:Inv X pins σ H s) (h:SqT X.K H a xs) (h':SqT X.K H a ys):xs=ys:=by
 obtain ⟨its,r,⟨o,e,_,n,d⟩,_⟩:=I.tuple h
 obtain ⟨its',r',⟨o',e',_,n',d'⟩,_⟩:=I.tuple h'
 rw [e] at e';cases e'
 rw [d] at d'
 injection d' with d1 _
 have:its=its':=by simpa using congrArg jt5 d1
 subst this
 exact r.inj r'
end
section
variable {X:Cx}{pins:List (Addr×Obj)}{σ:St}{H:Hp}{s:va3}{E:va2->va3->Prop}
end
section
variable {X:Cx}{st:Stmt}{rest:List Stmt}{t u:TS}{e:Expr}{te:TE}{pos:Pos}
def qnu:TS:=λ D σ H=>D.nx σ H
def tSeq (t u:TS):TS:=λ D σ H=>t { D with nx:=u D } σ H
theorem qlw:PSs X [] qnu:=λ _ _ σ H _ I h=>vm1 ⟨σ,H,I,h⟩
theorem qh0 (h1:PS X st t) (h2:PSs X rest u):PSs X (st::rest) (tSeq t u):=by
 intro pins s σ H D I h
 refine wpAny_execs_cons (thn (h1 pins s σ H { D with nx:=u D } I h) λ f s1 q=>?_)
 cases f with
 | next=>
  obtain ⟨σ',H',I',q⟩:=q
  exact h2 pins s1 σ' H' D I' q
 | ret v=>exact q
 | brk=>exact q
 | cont=>exact q
theorem qlv (h1:PS X st t):PSs X [st] t:=by
 intro pins s σ H D I h
 refine wpAny_execs_cons (thn (h1 pins s σ H D I h) λ f s1 q=>?_)
 cases f with
 | next=>exact vm1 q
 | ret v=>exact q
 | brk=>exact q
 | cont=>exact q
theorem Inv.quiet {pins:List (Addr×Obj)}{σ:St}{H:Hp}{s:va3} (I:Inv X pins σ H s):interactive X.env=false:=by simp [interactive,I.ok.kind]
def qk4 (te:TE):TS:=λ D σ H=>te σ H λ _ H1=>D.nx σ H1
theorem qeq (he:PE X e te) (hs:swapsWith e none pos.line X.env=pure false:=by rfl):PS X (.Expr e pos) (qk4 te):=by
 intro pins s σ H D I h
 exact wpAny_Expr_any (thn (he pins s σ H _ I h) λ v s1 ⟨x,H1,I1,r1,q1⟩=>⟨σ,H1,I1,q1⟩) I.quiet hs
def tRet (te:TE):TS:=λ D σ H=>te σ H D.rt
theorem qjs (he:PE X e te):PS X (.Return (some e) pos) (tRet te):=by
 intro pins s σ H D I h
 exact wpAny_Return_some (thn (he pins s σ H _ I h) λ v s1 ⟨x,H1,I1,r1,q1⟩=>⟨x,σ,H1,I1,r1,q1⟩)
def tIfS (c:TT) (t u:TS):TS:=λ D σ H=>c σ H λ b H1=>if b=true then t D σ H1 else u D σ H1
theorem qqj {c:Expr}{a b:List Stmt}{tc:TT} (hc:PT X c tc) (ha:PSs X a t) (hb:PSs X b u):PS X (.If c a b pos) (tIfS tc t u):=by
 intro pins s σ H D I h
 refine wpAny_If (thn (hc pins s σ H _ I h) λ d s1 ⟨H1,I1,q1⟩=>?_)
 cases d with
 | true=>exact ha pins s1 σ H1 D I1 q1
 | false=>exact hb pins s1 σ H1 D I1 q1
def qd8:TS:=λ _ _ _=>False
theorem qbq:PS X st qd8:=λ _ _ _ _ _ _ h=>h.elim
end
abbrev TG:=V->St->Hp->(St->Hp->Prop)->Prop
abbrev TGs:=List V->St->Hp->(St->Hp->Prop)->Prop
def PG (X:Cx) (target:Expr) (t:TG):Prop:=
 ∀ (pins:List (Addr×Obj)) (s:va3) (σ:St) (H:Hp) (v:V) (u:va2) (Q:St->Hp->Prop),Inv X pins σ H s->RelV v u->t v σ H Q ->
  vb3 (vb4 X.prog X.w) X.A (vn3 target X.env u) (λ _ s'=>∃ σ' H',Inv X pins σ' H' s'/\Q σ' H') X.xe s
def PGs (X:Cx) (ts:List Expr) (t:TGs):Prop:=
 ∀ (pins:List (Addr×Obj)) (s:va3) (σ:St) (H:Hp) (vs:List V) (us:List va2) (Q:St->Hp->Prop),Inv X pins σ H s->Vals vs us->t vs σ H Q ->
  vb3 (vb4 X.prog X.w) X.A (assignInOrder ((vd8 ts X.env).map (·.2)) us) (λ _ s'=>∃ σ' H',Inv X pins σ' H' s'/\Q σ' H') X.xe s
abbrev TSet:=V->V->V->Hp->(Hp->Prop)->Prop
def PSet (X:Cx) (t:TSet):Prop:=
 ∀ (pins:List (Addr×Obj)) (s:va3) (σ:St) (H:Hp) (o i v:V) (ov iv u:va2) (Q:Hp->Prop),Inv X pins σ H s->RelV o ov->RelV i iv->RelV v u->t o i v H Q ->
  vb3 (vb4 X.prog X.w) X.A (setItem ov iv u) (λ _ s'=>∃ H',Inv X pins σ H' s'/\Q H') X.xe s
section
variable {X:Cx}{pos:Pos}
def zpn (i:Nat):TG:=λ v σ H Q=>Q (σ.set i (some v)) H
theorem zmy {i:Nat}{x:Str} (hN:X.N.Nodup) (hi:X.N[i]?=some x) (hx:Loc X.env.scope x) (hf:X.fn x=true\/X.env.scope.names.lookup x=some .local:=by first | exact .inl rfl | exact .inr rfl | assumption):PG X (.Name x pos) (zpn i):=by
 intro pins s σ H v u Q I r h
 exact wpAny_assign_Name (qbh I hN hi hx r (λ s' I'=>⟨_,H,I',h⟩) hf)
def gNil:TGs:=λ vs σ H Q=>vs=[]/\Q σ H
def qpq (t:TG) (u:TGs):TGs:=λ vs σ H Q=>∃ v r,vs=v::r/\t v σ H λ σ' H'=>u r σ' H' Q
theorem qey:PGs X [] gNil:=by
 intro pins s σ H vs us Q I r h
 obtain ⟨e,h⟩:=h
 subst e
 cases r
 exact assignInOrder_nil ⟨σ,H,I,h⟩
theorem qbs {e:Expr}{es:List Expr}{t:TG}{u:TGs} (h1:PG X e t) (h2:PGs X es u)
  (hs:(vd8 (e::es) X.env).map (·.2)=vn3 e X.env::(vd8 es X.env).map (·.2):=by rfl):PGs X (e::es) (qpq t u):=by
 intro pins s σ H vs us Q I r h
 obtain ⟨v,vr,e1,h⟩:=h
 subst e1
 cases r with
 | cons r rr=>
  rw [hs]
  refine assignInOrder_cons (thn (h1 pins s σ H _ _ _ I r h) λ _ s1 ⟨σ1,H1,I1,q1⟩=>?_)
  exact h2 pins s1 σ1 H1 _ _ Q I1 rr q1
def gTup (K:va9) (n:Nat) (t:TGs):TG:=λ v σ H Q=>∃ a xs,v=.ref a/\SqT K H a xs/\xs.length=n/\t xs σ H Q
theorem qez {es:List Expr}{k:Nat}{t:TGs}{n:Nat} (hc:X.calm=true) (h:PGs X es t)
  (hn:(vd8 es X.env).length=n:=by rfl) (hst:(vd8 es X.env).findIdx? (·.1)=none:=by rfl):PG X (.Tuple es k pos) (gTup X.K n t):=by
 intro pins s σ H v u Q I r hw
 obtain ⟨a,xs,e1,hq,hl,hw⟩:=hw
 subst e1
 cases r
 obtain ⟨its,rv,ht,hz⟩:=I.tuple hq
 refine assign_Tuple_tuple (I.ok.hd hc) ht (by simp [hn,<- hl,rv.length]) hst λ h' hx=>?_
 have I1:Inv X pins σ H { s with heap:=h' }:=I.kept (t':=s.toks) λ b o e=>hx b o (jc6 (va4 e)) e
 exact h pins _ σ H xs _ Q I1 (by simpa using rv) hw
def gSub (to ti:TE) (t:TSet):TG:=λ v σ H Q=>to σ H λ o H1=>ti σ H1 λ i H2=>t o i v H2 λ H3=>Q σ H3
theorem qe0 {o i:Expr}{to ti:TE}{t:TSet} (ho:PE X o to) (hi:PE X i ti) (hs:PSet X t)
  (ha:∀ v,vn3 (.Subscript o i pos) X.env v=(do
   let ov<-holding [v] (eval o X.env)
   let iv<-holding [v,ov] (eval i X.env)
   standAt pos
   holding [v,ov,iv] (setItem ov iv v)
   release [v,ov,iv] []):=by intro _;rfl):PG X (.Subscript o i pos) (gSub to ti t):=by
 intro pins s σ H v u Q I r h
 rw [ha]
 refine va0 (vd9 (thn (ho pins s σ H _ I h) λ ov s1 ⟨x,H1,I1,r1,q1⟩=>?_))
 refine va0 (vd9 (thn (hi pins s1 σ H1 _ I1 q1) λ iv s2 ⟨y,H2,I2,r2,q2⟩=>?_))
 refine va0 (wpAny_standAt (va0 (vd9 (thn (hs pins s2 σ H2 x y v ov iv u _ I2 r1 r2 r q2) λ _ s3 ⟨H3,I3,q3⟩=>?_))))
 exact wpAny_release ⟨σ,H3,I3,q3⟩
def tAsg (te:TE) (g:TG):TS:=λ D σ H=>te σ H λ x H1=>g x σ H1 D.nx
theorem qbr {tg e:Expr}{te:TE}{g:TG} (he:PE X e te) (hg:PG X tg g) (hs:swapsWithSole [tg] e pos.line X.env=pure false:=by rfl) (hw:swappedStores [tg] e X.env=pure none:=by rfl)
  (h1:(vd8 [tg] X.env).map (·.2)=[vn3 tg X.env]:=by rfl):PS X (.Assign [tg] e pos) (tAsg te g):=by
 intro pins s σ H D I h
 refine wpAny_Assign_stores (thn (he pins s σ H _ I h) λ v s1 ⟨x,H1,I1,r1,q1⟩=>?_) hs hw
 rw [h1]
 exact thn (hg pins s1 σ H1 x v _ I1 r1 q1) λ _ s2 q=>q
theorem qjr {i:Nat}{x:Str}{e:Expr}{te:TE}{pos':Pos} (hN:X.N.Nodup) (hi:X.N[i]?=some x) (hx:Loc X.env.scope x) (he:PE X e te) (hs:swapsWith e (some (.Name x pos')) pos.line X.env=pure false:=by rfl) (hf:X.fn x=true\/X.env.scope.names.lookup x=some .local:=by first | exact .inl rfl | exact .inr rfl | assumption):
  PS X (.Assign [.Name x pos'] e pos) (tAsg te (zpn i)):=by
 intro pins s σ H D I h
 refine wpAny_Assign_Name (thn (he pins s σ H _ I h) λ v s1 ⟨y,H1,I1,r1,q1⟩=>?_) hs
 exact qbh I1 hN hi hx r1 (λ s2 I2=>⟨_,H1,I2,q1⟩) hf
end
section
variable {X:Cx}{pos:Pos}
end
structure It where
 go:Nat->Hp->Prop
 yld:Nat->Hp->V->Hp->Prop
 stop:Nat->Hp->Prop
def FpOk (X:Cx) (pins:List (Addr×Obj)) (H:Hp) (b:Addr):Prop:=
 H b=none/\b≠X.env.locals/\b∉X.fs/\(b∈X.ex\/X.s₀.heap.objs.size<=b)/\(∀ x c,X.env.cells.lookup x=some c->c≠b)/\∀ p∈X.pn++pins,p.1≠b
theorem Inv.fpOk {X:Cx}{pins:List (Addr×Obj)}{σ:St}{H H':Hp}{s:va3}{b:Addr} (I:Inv X pins σ H s) (hb:s.heap.objs.size<=b) (hn:H' b=none):FpOk X pins H' b:=by
 refine ⟨hn,jg2 (jb5 I.lt hb),I.nofs hb,.inr (jd5 I.sz hb),λ x c e z=>?_,λ p hp z=>?_⟩
 ·obtain ⟨v,q⟩:=I.cell x c e
  exact absurd (jb5 q.lt (by rw [z];exact hb)) (jf6 _)
 ·exact absurd (jb5 (va4 (I.pin p hp).1) (by rw [z];exact hb)) (jf6 _)
structure Turn (P:vb0) (w:vc1) (K:va9) (tg:Expr) (J:It) (fp:List Addr) (it:Addr) (tn:Nat->Heap->Prop):Prop where
 mem:it∈fp
 obj:∀ i h,tn i h->∀ b∈fp,∃ o,h.get? b=some o/\∀ v,o.data≠.cell v
 keep:∀ i h h',tn i h->(∀ b∈fp,∀ o,h.get? b=some o->h'.get? b=some o)->tn i h'
 item:∀ (X:Cx),X.prog=P->X.w=w->X.K=K->X.calm=true->∀ (i:Nat) (pins:List (Addr×Obj)) (s:va3) (σ:St) (H:Hp) (E:va2->va3->Prop),Inv X pins σ H s->(∀ b∈fp,FpOk X pins H b)->tn i s.heap->J.go i H ->
  vb3 (vb4 P w) X.A (pyNext (.ref it)) (λ r s1=>∃ u,r=some u /\
   vb3 (vb4 P w) X.A (vj0 tg (.ref it) u) (λ _ s2=>∃ x H',Inv X pins σ H' s2/\RelV x u/\J.yld i H x H'/\tn (i + 1) s2.heap/\∀ b∈fp,H' b=none) E s1) E s
 done:∀ (X:Cx),X.prog=P->X.w=w->X.K=K->X.calm=true->∀ (i:Nat) (pins:List (Addr×Obj)) (s:va3) (σ:St) (H:Hp) (E:va2->va3->Prop),Inv X pins σ H s->(∀ b∈fp,FpOk X pins H b)->tn i s.heap->J.stop i H ->
  vb3 (vb4 P w) X.A (pyNext (.ref it)) (λ r s1=>r=none/\Inv X pins σ H s1) E s
 self:∀ (A:vc0) (i:Nat) (s:va3) (Q:va2->va3->Prop) (E:va2->va3->Prop),tn i s.heap->Q (.ref it) s->vb3 (vb4 P w) A (pyIter (.ref it)) Q E s
abbrev TI:=St->Hp->(It->Hp->Prop)->Prop
def PIE (X:Cx) (pins:List (Addr×Obj)) (σ:St) (tg:Expr) (R:It->Hp->Prop) (itv:va2) (s2:va3):Prop:=
 ∃ (it:Addr) (fp:List Addr) (tn:Nat->Heap->Prop) (J:It) (H':Hp),itv=.ref it/\Inv X pins σ H' s2/\Turn X.prog X.w X.K tg J fp it tn/\tn 0 s2.heap/\(∀ b∈fp,FpOk X pins H' b)/\R J H'
def PI (X:Cx) (tg iter:Expr) (wi:TI):Prop:=
 ∀ (pins:List (Addr×Obj)) (s:va3) (σ:St) (H:Hp) (R:It->Hp->Prop),Inv X pins σ H s->wi σ H R ->
  vb3 (vb4 X.prog X.w) X.A (eval iter X.env) (λ v s1=>vb3 (vb4 X.prog X.w) X.A (pyIter v) (PIE X pins σ tg R) X.xe s1) X.xe s
theorem qf9 {M:Model}{A:vc0}{E:va2->va3->Prop}{s:va3}{tg:Expr}{it:Addr}{u:va2}{o:Obj}{n:String}{vs:Array va2}{Q:Unit->va3->Prop} (ho:s.heap.get? it=some o) (hc:o.cls=.type n) (hd:o.data=.fields vs)
  (hn:["enumerate","zip","dict_itemiterator","dict_reverseitemiterator","odict_iterator","itertools.zip_longest","itertools.pairwise"].contains n=false) (hQ:Q () s):vb3 M A (vj0 tg (.ref it) u) Q E s:=by
 unfold vj0
 cases tg <;> first
  | exact va5 hQ
  | (cases u <;> first
    | exact va5 hQ
    | (refine va0 (wpAny_load ho ?_);rw [hc,hd];show vb3 M A (if (["enumerate","zip","dict_itemiterator","dict_reverseitemiterator","odict_iterator","itertools.zip_longest","itertools.pairwise"].contains n && vs[0]? == some (vm2 _))=true then _ else _) Q E s;rw [if_neg (by intro h;rw [hn,Bool.false_and] at h;cases h)];exact va5 hQ))
def Itl (K:va9) (a:Addr):It:=
 ⟨λ i H=>∃ xs x,SqL K H a xs/\xs[i]?=some x,λ i H x H'=>H'=H/\∀ xs,SqL K H a xs->xs[i]?=some x,λ i H=>∃ xs,SqL K H a xs/\xs.length<=i⟩
def Itt (K:va9) (a:Addr):It:=
 ⟨λ i H=>∃ xs x,SqT K H a xs/\xs[i]?=some x,λ i H x H'=>H'=H/\∀ xs,SqT K H a xs->xs[i]?=some x,λ i H=>∃ xs,SqT K H a xs/\xs.length<=i⟩
def Itr (lo:Int) (n:Nat):It:=⟨λ i _=>i < n,λ i H x H'=>H'=H/\x=.int (lo + i),λ i _=>n<=i⟩
theorem qdz {P:vb0}{w:vc1}{K:va9}{tg:Expr} (a it:Addr):Turn P w K tg (Itl K a) [it] it (λ i h=>h.IsListIter it a i) where
 mem:=by simp
 obj:=λ i h st b hb=>by
  have e:b=it:=by simpa using hb
  subst e
  obtain ⟨o,e,c,d⟩:=st
  exact ⟨o,e,λ v z=>by rw [d] at z;cases z⟩
 keep:=λ i h h' st k=>st.at λ o e=>k it (by simp) o e
 item:=by
  intro X hP hw hK hc i pins s σ H E I hf st hg
  subst hP hw hK
  obtain ⟨xs,x,hq,hx⟩:=hg
  obtain ⟨its,rv,p,hz⟩:=I.list hq
  obtain ⟨u,hu,ru⟩:=rv.get hx
  obtain ⟨f0,f1,f2,f3,f4,f5⟩:=hf it (by simp)
  refine wpAny_pyNext_list_item st p.isList (x:=u) (by simpa using hu) λ h' st' sb=>?_
  have I1:Inv X pins σ H { s with heap:=h' }:=I.turned (t':=s.toks) (λ b o hb e=>(sb.2 b hb).trans e) f0 f1 f3 f4 f5
  obtain ⟨o,e,c,d⟩:=id st'
  exact ⟨u,rfl,qf9 (s:={ s with heap:=h' }) e c d (by decide) ⟨x,H,I1,ru,⟨rfl,λ ys hy=>by rw [I.list_inj hy hq];exact hx⟩,st',λ b hb=>(hf b hb).1⟩⟩
 done:=by
  intro X hP hw hK hc i pins s σ H E I hf st hg
  subst hP hw hK
  obtain ⟨xs,hq,hx⟩:=hg
  obtain ⟨its,rv,p,hz⟩:=I.list hq
  obtain ⟨f0,f1,f2,f3,f4,f5⟩:=hf it (by simp)
  have hl:=rv.length
  exact wpAny_pyNext_list_end (I.ok.hd hc) st p.isList (by simp;omega) λ h' eb=>⟨rfl,I.turned (t':=s.toks) (λ b o hb e=>eb b o hb e) f0 f1 f3 f4 f5⟩
 self:=λ _ _ _ _ _ st h=>wpAny_pyIter_listiter st h
theorem qc4 {P:vb0}{w:vc1}{K:va9}{tg:Expr} (a it:Addr):Turn P w K tg (Itt K a) [it] it (λ i h=>h.IsTupleIter it a i) where
 mem:=by simp
 obj:=λ i h st b hb=>by
  have e:b=it:=by simpa using hb
  subst e
  obtain ⟨o,e,c,d⟩:=st
  exact ⟨o,e,λ v z=>by rw [d] at z;cases z⟩
 keep:=λ i h h' st k=>st.at λ o e=>k it (by simp) o e
 item:=by
  intro X hP hw hK hc i pins s σ H E I hf st hg
  subst hP hw hK
  obtain ⟨xs,x,hq,hx⟩:=hg
  obtain ⟨its,rv,p,hz⟩:=I.tuple hq
  obtain ⟨u,hu,ru⟩:=rv.get hx
  obtain ⟨f0,f1,f2,f3,f4,f5⟩:=hf it (by simp)
  refine wpAny_pyNext_tuple_item st (show s.heap.IsTuple a its.toArray from p) (x:=u) (by simpa using hu) λ h' st' sb=>?_
  have I1:Inv X pins σ H { s with heap:=h' }:=I.turned (t':=s.toks) (λ b o hb e=>(sb.2 b hb).trans e) f0 f1 f3 f4 f5
  obtain ⟨o,e,c,d⟩:=id st'
  exact ⟨u,rfl,qf9 (s:={ s with heap:=h' }) e c d (by decide) ⟨x,H,I1,ru,⟨rfl,λ ys hy=>by rw [I.tuple_inj hy hq];exact hx⟩,st',λ b hb=>(hf b hb).1⟩⟩
 done:=by
  intro X hP hw hK hc i pins s σ H E I hf st hg
  subst hP hw hK
  obtain ⟨xs,hq,hx⟩:=hg
  obtain ⟨its,rv,p,hz⟩:=I.tuple hq
  obtain ⟨f0,f1,f2,f3,f4,f5⟩:=hf it (by simp)
  have hl:=rv.length
  exact wpAny_pyNext_tuple_end (I.ok.hd hc) st (show s.heap.IsTuple a its.toArray from p) (by simp;omega) λ h' eb=>⟨rfl,I.turned (t':=s.toks) (λ b o hb e=>eb b o hb e) f0 f1 f3 f4 f5⟩
 self:=λ _ _ _ _ _ st h=>wpAny_pyIter_tupleiter st h
theorem qc5 {P:vb0}{w:vc1}{K:va9}{tg:Expr} (it:Addr) (lo:Int) (n:Nat):Turn P w K tg (Itr lo n) [it] it (λ i h=>IsRangeIter h it (lo + (i:Nat) * 1) ((n:Int) - (i:Nat)) 1) where
 mem:=by simp
 obj:=λ i h st b hb=>by
  have e:b=it:=by simpa using hb
  subst e
  exact ⟨_,st,λ v z=>by
   have z':Data.fields _=Data.cell v:=z
   cases z'⟩
 keep:=λ i h h' st k=>k it (by simp) _ st
 item:=by
  intro X hP hw hK hc i pins s σ H E I hf st hg
  subst hP hw hK
  obtain ⟨f0,f1,f2,f3,f4,f5⟩:=hf it (by simp)
  have W:=Walks.range (prog:=X.prog) (w:=X.w) (I.ok.hd hc) it lo 1 n
  refine W.item i s _ _ hg st λ v h' tk hv st' kk=>?_
  obtain ⟨t,rfl⟩:=hv
  have I1:Inv X pins σ H { s with heap:=h',toks:=tk }:=I.turned (λ b o hb e=>kk b o (by simpa using hb) e) f0 f1 f3 f4 f5
  refine ⟨_,rfl,qf9 (s:={ s with heap:=h',toks:=tk }) (n := "range_iterator") st' rfl rfl (by decide) ⟨.int (lo + i),H,I1,⟨t,?_⟩,⟨rfl,rfl⟩,st',λ b hb=>(hf b hb).1⟩⟩
  rw [Int.mul_one]
 done:=by
  intro X hP hw hK hc i pins s σ H E I hf st hg
  subst hP hw hK
  obtain ⟨f0,f1,f2,f3,f4,f5⟩:=hf it (by simp)
  exact wpAny_pyNext_range_end (I.ok.hd hc) st (by have:n<=i:=hg;omega) λ h' eb=>⟨rfl,I.turned (t':=s.toks) (λ b o hb e=>eb b o hb e) f0 f1 f3 f4 f5⟩
 self:=λ _ _ _ _ _ st h=>wpAny_pyIter_rangeiter st h
section
variable {X:Cx}{tg:Expr}
theorem qbn {pins:List (Addr×Obj)}{σ:St}{H:Hp}{s:va3}{R:It->Hp->Prop}{E:va2->va3->Prop}{lo hi:Int}{t u v:Tok}{tk:Nat} (I:Inv X pins σ H s) (h1:-(2 ^ 62)<=lo) (h2:lo < 2 ^ 62) (h3:-(2 ^ 62)<=hi) (h4:hi < 2 ^ 62)
  (q:R (Itr lo (hi - lo).toNat) H):vb3 (vb4 X.prog X.w) X.A (pyIter (.ref s.heap.objs.size)) (PIE X pins σ tg R) E { s with heap:=s.heap.push { cls:=.type "range",data:=.fields #[.int lo t,.int hi u,.int 1 v] },toks:=tk }:=by
 refine wpAny_pyIter_range (IsRange.new ..) (small_one h1 h2 h3 h4) ?_
 have I1:Inv X pins σ H { s with heap:=s.heap.push { cls:=.type "range",data:=.fields #[.int lo t,.int hi u,.int 1 v] },toks:=tk }:=I.kept λ b o e=>va1 _ e
 refine ⟨(s.heap.push { cls:=.type "range",data:=.fields #[.int lo t,.int hi u,.int 1 v] }).objs.size,[(s.heap.push { cls:=.type "range",data:=.fields #[.int lo t,.int hi u,.int 1 v] }).objs.size],_,_,H,rfl,
  I1.kept (t':=tk) λ b o e=>va1 _ e,qc5 _ lo (hi - lo).toNat,?_,λ b hb=>?_,q⟩
 ·have e1:lo + ((0:Nat):Int) * 1=lo:=by simp
  have e2:(((hi - lo).toNat:Nat):Int) - ((0:Nat):Int)=Builtin.Range.rangeSize lo hi 1:=by rw [rangeSize_one];split <;> omega
  show IsRangeIter _ _ (lo + ((0:Nat):Int) * 1) ((((hi - lo).toNat:Nat):Int) - ((0:Nat):Int)) 1
  rw [e1,e2]
  exact va6 _ rfl
 ·have e:b=(s.heap.push { cls:=.type "range",data:=.fields #[.int lo t,.int hi u,.int 1 v] }).objs.size:=by simpa using hb
  subst e
  exact I1.fpOk (jb2 _) (I1.hok.fresh (jb2 _))
def qih (ta:TA):TI:=λ σ H R=>ta σ H λ vs H1=>∃ j:Int,vs=[.int j]/\-(2 ^ 62)<=j/\j < 2 ^ 62/\R (Itr 0 j.toNat) H1
def qig (ta:TA):TI:=λ σ H R=>ta σ H λ vs H1=>∃ i j:Int,vs=[.int i,.int j]/\(-(2 ^ 62)<=i/\i < 2 ^ 62/\-(2 ^ 62)<=j/\j < 2 ^ 62)/\R (Itr i (j - i).toNat) H1
theorem qex {a:Expr}{ta:TA}{p pos:Pos} (hg:Gl X "range") (hm:X.mg "range" = none) (ha:PA X [a] ta) (hs:va7 [a] X.env=[(false,eval a X.env)]:=by rfl):PI X tg (.Call (.Name "range" p) [a] [] pos) (qih ta):=by
 intro pins s σ H R I h
 refine Call_ (zjg I hg hm boot_range (vc6 (thn (ha pos pins s σ H _ I h) λ us s1 ⟨vs,H1,I1,r1,q1⟩=>?_) hs rfl))
 obtain ⟨j,e,q1,q2,q⟩:=q1
 subst e
 cases r1 with
 | cons r rr=>
  cases rr
  obtain ⟨t,rfl⟩:=r
  exact call_range_1 (qbn I1 (by omega) (by omega) q1 q2 (by simpa using q))
theorem qew {a b:Expr}{ta:TA}{p pos:Pos} (hg:Gl X "range") (hm:X.mg "range" = none) (ha:PA X [a,b] ta) (hs:va7 [a,b] X.env=[(false,eval a X.env),(false,eval b X.env)]:=by rfl) (hs2:va7 [b] X.env=[(false,eval b X.env)]:=by rfl):
  PI X tg (.Call (.Name "range" p) [a,b] [] pos) (qig ta):=by
 intro pins s σ H R I h
 refine Call_ (zjg I hg hm boot_range (vc6 (thn (ha pos pins s σ H _ I h) λ us s1 ⟨vs,H1,I1,r1,q1⟩=>?_) (by rw [hs,hs2]) (by rw [hs2];rfl)))
 obtain ⟨i,j,e,⟨q1,q2,q3,q4⟩,q⟩:=q1
 subst e
 cases r1 with
 | cons r rr=>
  cases rr with
  | cons r' rr=>
   cases rr
   obtain ⟨t,rfl⟩:=r
   obtain ⟨t',rfl⟩:=r'
   exact call_range_2 (qbn I1 q1 q2 q3 q4 q)
def tFor (wi:TI) (g:TG) (tb:TS):TS:=λ D σ H=>wi σ H λ J H1=>∃ W:Nat->Nat->St->Hp->Prop,(∃ m,W 0 m σ H1)/\∀ i m σ H,W i m σ H ->
 (J.stop i H/\D.nx σ H)\/(J.go i H/\∃ N:St->Hp->Prop,(∀ σ' H',N σ' H'->∃ m',m' < m/\W (i + 1) m' σ' H')/\∀ x H',J.yld i H x H'->g x σ H' λ σ2 H2=>tb { D with nx:=N,ct:=N,bk:=D.nx } σ2 H2)
def zgm (fp:List Addr) (h:Heap):List (Addr×Obj):=fp.filterMap λ b=>(h.get? b).map λ o=>(b,o)
theorem zko {fp:List Addr}{h:Heap}{b:Addr}{o:Obj} (hb:b∈fp) (e:h.get? b=some o):(b,o)∈zgm fp h:=jm3.mpr ⟨b,hb,by rw [e];rfl⟩
theorem qfc {fp:List Addr}{h:Heap}{p:Addr×Obj} (hp:p∈zgm fp h):p.1∈fp/\h.get? p.1=some p.2:=by
 obtain ⟨b,hb,e⟩:=jm3.mp hp
 cases q:h.get? b with
 | none=>rw [q] at e;cases e
 | some o=>
  rw [q] at e
  have e':(b,o)=p:=Option.some.inj e
  subst e'
  exact ⟨hb,q⟩
theorem Inv.pinned {pins:List (Addr×Obj)}{σ:St}{H:Hp}{s:va3}{fp:List Addr} (I:Inv X pins σ H s) (hf:∀ b∈fp,FpOk X pins H b) (ho:∀ b∈fp,∃ o,s.heap.get? b=some o/\∀ v,o.data≠.cell v):Inv X (pins++zgm fp s.heap) σ H s:=
 I.pins_of λ p hp=>(jc9.mp hp).elim (λ z=>I.pin p (ja7 _ z)) λ z=>by
  obtain ⟨hb,e⟩:=qfc z
  obtain ⟨f0,f1,f2,_⟩:=hf p.1 hb
  obtain ⟨o,e',d⟩:=ho p.1 hb
  rw [e] at e';cases e'
  exact ⟨e,f0,f1,f2,d⟩
theorem Inv.unpinned {pins pl:List (Addr×Obj)}{σ:St}{H:Hp}{s:va3} (I:Inv X (pins++pl) σ H s):Inv X pins σ H s:=I.pins_of λ p hp=>I.pin p (ja7 _ (jb0 _ hp))
theorem zje {iter:Expr}{body:List Stmt}{wi:TI}{g:TG}{tb:TS}{pos:Pos} (hp:PassesOwn (vb4 X.prog X.w) X.A X.env X.xe) (hc:X.calm=true) (hi:PI X tg iter wi) (hg:PG X tg g) (hb:PSs X body tb)
  (hs:∀ x,vi0 iter X.env x=pure x:=by intro _;rfl):PS X (.For tg iter body [] pos) (tFor wi g tb):=by
 intro pins s σ H D I h
 refine wpAny_For (thn (hi pins s σ H _ I h) λ v s1 h1=>thn h1 λ itv s2 h2=>?_) hs
 obtain ⟨it,fp,tn,J,H2,e,I2,T,st2,f2,W,⟨m0,w0⟩,turn⟩:=h2
 subst e
 have stat:∀ {H':Hp},(∀ b∈fp,H' b=none)->∀ b∈fp,FpOk X pins H' b:=λ hn b hb=>⟨hn b hb,(f2 b hb).2⟩
 refine codeAny_forLoop_any (λ n s'=>∃ i σ' H',Inv X pins σ' H' s'/\tn i s'.heap/\(∀ b∈fp,H' b=none)/\W i n σ' H') ?_ m0 ⟨0,σ,H2,I2,st2,λ b hb=>(f2 b hb).1,w0⟩
 rintro n s3 ⟨i,σ3,H3,I3,st3,fr3,w3⟩
 rcases turn i n σ3 H3 w3 with ⟨stop,qn⟩ | ⟨go,N,hN,step⟩
 ·refine vg8 hp (thn (T.done X rfl rfl rfl hc i pins s3 σ3 H3 X.xe I3 (stat fr3) st3 stop) λ r s4 ⟨hr,I4⟩=>?_)
  subst hr
  exact vm1 ⟨σ3,H3,I4,qn⟩
 ·refine vg8 hp (thn (T.item X rfl rfl rfl hc i pins s3 σ3 H3 X.xe I3 (stat fr3) st3 go) λ r s4 ⟨u,hr,h4⟩=>?_)
  subst hr
  refine vg8 hp (thn h4 λ _ s5 ⟨x,H5,I5,r5,y5,st5,fr5⟩=>?_)
  have I5':=I5.pinned (stat fr5) (T.obj _ _ st5)
  refine vg8 hp (thn (hg _ s5 σ3 H5 x u _ I5' r5 (step x H5 y5)) λ _ s6 ⟨σ6,H6,I6,q6⟩=>?_)
  refine vg8 hp (thn (hb _ s6 σ6 H6 _ I6 q6) λ f s7 q7=>?_)
  have again:∀ {σ7:St}{H7:Hp},Inv X (pins++zgm fp s5.heap) σ7 H7 s7->N σ7 H7->∃ m,m < n/\∃ i σ' H',Inv X pins σ' H' s7/\tn i s7.heap/\(∀ b∈fp,H' b=none)/\W i m σ' H':=λ {σ7 H7} I7 n7=>by
   obtain ⟨m',hm,w7⟩:=hN σ7 H7 n7
   refine ⟨m',hm,i + 1,σ7,H7,I7.unpinned,T.keep _ _ _ st5 λ b hb o e=>(I7.pin (b,o) (ja7 _ (ja7 _ (zko hb e)))).1,λ b hb=>?_,w7⟩
   obtain ⟨o,e,d⟩:=T.obj _ _ st5 b hb
   exact (I7.pin (b,o) (ja7 _ (ja7 _ (zko hb e)))).2.1
  cases f with
  | next=>obtain ⟨σ7,H7,I7,n7⟩:=q7;exact again I7 n7
  | cont=>obtain ⟨σ7,H7,I7,n7⟩:=q7;exact again I7 n7
  | brk=>obtain ⟨σ7,H7,I7,q7⟩:=q7;exact ⟨σ7,H7,I7.unpinned,q7⟩
  | ret v=>obtain ⟨x7,σ7,H7,I7,r7,q7⟩:=q7;exact ⟨x7,σ7,H7,I7.unpinned,r7,q7⟩
end
abbrev R2:=V->V->Hp->VK->Prop
def OpR (X:Cx) (f:va2->va2->Sem va2) (r:R2):Prop:=
 ∀ (pins:List (Addr×Obj)) (s:va3) (σ:St) (H:Hp) (x y:V) (v u:va2) (Q:VK),Inv X pins σ H s->RelV x v->RelV y u->r x y H Q ->
  vb3 (vb4 X.prog X.w) X.A (f v u) (EP X pins σ Q) X.xe s
def UnR (X:Cx) (f:va2->Sem va2) (r:V->Hp->VK->Prop):Prop:=
 ∀ (pins:List (Addr×Obj)) (s:va3) (σ:St) (H:Hp) (x:V) (v:va2) (Q:VK),Inv X pins σ H s->RelV x v->r x H Q ->
  vb3 (vb4 X.prog X.w) X.A (f v) (EP X pins σ Q) X.xe s
def CallR (X:Cx) (f:va2) (r:List V->Hp->VK->Prop):Prop:=
 ∀ (pins:List (Addr×Obj)) (s:va3) (σ:St) (H:Hp) (xs:List V) (us:List va2) (Q:VK),Inv X pins σ H s->Vals xs us->r xs H Q ->
  vb3 (vb4 X.prog X.w) X.A (call f us) (EP X pins σ Q) X.xe s
def tOp (r:R2) (ta tb:TE):TE:=λ σ H Q=>ta σ H λ x H1=>tb σ H1 λ y H2=>r x y H2 Q
def tUn (r:V->Hp->VK->Prop) (ta:TE):TE:=λ σ H Q=>ta σ H λ x H1=>r x H1 Q
def rI (C:Int->Int->Prop) (g:Int->Int->V):R2:=λ x y H Q=>∃ i j,x=.int i/\y=.int j/\C i j/\Q (g i j) H
def rI0 (g:Int->Int->V):R2:=λ x y H Q=>∃ i j,x=.int i/\y=.int j/\Q (g i j) H
def rU (g:Int->V):V->Hp->VK->Prop:=λ x H Q=>∃ i,x=.int i/\Q (g i) H
section
variable {X:Cx}{a b c:Expr}{ta tb tc:TE}{pos:Pos}
theorem binT (ha:PE X a ta) (hb:PE X b tb) {pins:List (Addr×Obj)}{s:va3}{σ:St}{H:Hp}{R:V->V->Hp->Prop} (I:Inv X pins σ H s)
  (h:ta σ H λ x H1=>tb σ H1 λ y H2=>R x y H2) {Q:va2->va3->Prop}{f:va2->va2->Sem va2}
  (hf:∀ v u s2 x y H2,Inv X pins σ H2 s2->RelV x v->RelV y u->R x y H2->vb3 (vb4 X.prog X.w) X.A (f v u) Q X.xe s2):
  vb3 (vb4 X.prog X.w) X.A (eval a X.env) (λ v s₁=>vb3 (vb4 X.prog X.w) X.A (eval b X.env) (λ u s₂=>vb3 (vb4 X.prog X.w) X.A (f v u) Q X.xe s₂) X.xe s₁) X.xe s:=by
 refine thn (ha pins s σ H _ I h) λ v s1 ⟨x,H1,I1,r1,q1⟩=>?_
 refine thn (hb pins s1 σ H1 _ I1 q1) λ u s2 ⟨y,H2,I2,r2,q2⟩=>?_
 exact hf v u s2 x y H2 I2 r1 r2 q2
theorem qh2 {op:Operator}{r:R2} (ho:OpR X (vg0 op) r) (ha:PE X a ta) (hb:PE X b tb):PE X (.BinOp a op b pos) (tOp r ta tb):=by
 intro pins s σ H Q I h
 exact wpAny_BinOp (binT ha hb I h λ v u s2 x y H2 I2 rx ry q=>ho pins s2 σ H2 x y v u Q I2 rx ry q)
theorem qoo {op:UnaryOp}{r:V->Hp->VK->Prop} (ho:UnR X (unaryOp op) r) (ha:PE X a ta):PE X (.UnaryOp op a pos) (tUn r ta):=by
 intro pins s σ H Q I h
 exact UnaryOp_ (thn (ha pins s σ H _ I h) λ v s1 ⟨x,H1,I1,r1,q1⟩=>ho pins s1 σ H1 x v Q I1 r1 q1)
theorem opI {f:va2->va2->Sem va2}{C:Int->Int->Prop}{g:Int->Int->Int}
  (rule:∀ (i j:Int) (t u:Tok) (s:va3) (Q:va2->va3->Prop) (E:va2->va3->Prop),C i j->Q (.int (g i j) s.toks) { s with toks:=s.toks + 1 }->vb3 (vb4 X.prog X.w) X.A (f (.int i t) (.int j u)) Q E s):
  OpR X f (rI C λ i j=>.int (g i j)):=by
 intro pins s σ H x y v u Q I rx ry h
 obtain ⟨i,j,rfl,rfl,hc,q⟩:=h
 obtain ⟨t,rfl⟩:=rx
 obtain ⟨t',rfl⟩:=ry
 exact rule i j t t' s _ _ hc ⟨.int (g i j),H,I.tok _,⟨_,rfl⟩,q⟩
theorem opI0 {f:va2->va2->Sem va2}{g:Int->Int->Int}
  (rule:∀ (i j:Int) (t u:Tok) (s:va3) (Q:va2->va3->Prop) (E:va2->va3->Prop),Q (.int (g i j) s.toks) { s with toks:=s.toks + 1 }->vb3 (vb4 X.prog X.w) X.A (f (.int i t) (.int j u)) Q E s):
  OpR X f (rI0 λ i j=>.int (g i j)):=by
 intro pins s σ H x y v u Q I rx ry h
 obtain ⟨i,j,rfl,rfl,q⟩:=h
 obtain ⟨t,rfl⟩:=rx
 obtain ⟨t',rfl⟩:=ry
 exact rule i j t t' s _ _ ⟨.int (g i j),H,I.tok _,⟨_,rfl⟩,q⟩
theorem opB0 {f:va2->va2->Sem va2}{g:Int->Int->Bool}
  (rule:∀ (i j:Int) (t u:Tok) (s:va3) (Q:va2->va3->Prop) (E:va2->va3->Prop),Q (.bool (g i j)) s->vb3 (vb4 X.prog X.w) X.A (f (.int i t) (.int j u)) Q E s):
  OpR X f (rI0 λ i j=>.bl (g i j)):=by
 intro pins s σ H x y v u Q I rx ry h
 obtain ⟨i,j,rfl,rfl,q⟩:=h
 obtain ⟨t,rfl⟩:=rx
 obtain ⟨t',rfl⟩:=ry
 exact rule i j t t' s _ _ ⟨.bl (g i j),H,I,rfl,q⟩
def CPow (i j:Int):Prop:=0<=j/\j<=1000000/\i.natAbs < 2 ^ 64
def CMul (i j:Int):Prop:=(-(2 ^ 64) < i/\i < 2 ^ 64)\/(-(2 ^ 64) < j/\j < 2 ^ 64)
theorem CMul.ok {i j:Int} (h:CMul i j):IntMulOk i j:=by
 rcases h with ⟨h1,h2⟩ | ⟨h1,h2⟩
 ·exact .of_left (intBits_le_64 h1 h2)
 ·exact .of_right (intBits_le_64 h1 h2)
theorem qo8:OpR X (vg0 .Add) (rI0 λ i j=>.int (i + j)):=opI0 λ _ _ _ _ _ _ _ q=>add_int q
theorem qo0:OpR X (vg0 .Mult) (rI CMul λ i j=>.int (i * j)):=opI λ _ _ _ _ _ _ _ hc q=>mul_int q hc.ok
theorem qo1:OpR X (vg0 .Mod) (rI (λ _ j=>0 < j) λ i j=>.int (i % j)):=opI λ i j _ _ _ _ _ hc q=>by
 have h1:(0:Int) < j:=hc
 exact mod_int' (by omega) (by rw [Int.fmod_eq_emod_of_nonneg i (by omega)];exact q)
theorem qoy:OpR X (vg0 .Pow) (rI CPow λ i j=>.int (i ^ j.toNat)):=opI λ _ _ _ _ _ _ _ hc q=>pow_int_small hc.1 hc.2.1 hc.2.2 q
theorem unI {f:va2->Sem va2}{g:Int->Int}
  (rule:∀ (i:Int) (t:Tok) (s:va3) (Q:va2->va3->Prop) (E:va2->va3->Prop),Q (.int (g i) s.toks) { s with toks:=s.toks + 1 }->vb3 (vb4 X.prog X.w) X.A (f (.int i t)) Q E s):
  UnR X f (rU λ i=>.int (g i)):=by
 intro pins s σ H x v Q I rx h
 obtain ⟨i,rfl,q⟩:=h
 obtain ⟨t,rfl⟩:=rx
 exact rule i t s _ _ ⟨.int (g i),H,I.tok _,⟨_,rfl⟩,q⟩
theorem qjg:UnR X (unaryOp .USub) (rU λ i=>.int (-i)):=unI λ _ _ _ _ _ q=>neg_int q
end
def scal:V->V->Bool
 | .non,.non=>true | .non,.int _=>true | .int _,.non=>true | .non,.bl _=>true | .bl _,.non=>true | .non,.str _=>true | .str _,.non=>true
 | .int _,.int _=>true | .bl _,.bl _=>true | .str _,.str _=>true | .byt _,.byt _=>true
 | .int _,.str _=>true | .str _,.int _=>true | .bl _,.str _=>true | .str _,.bl _=>true
 | _,_=>false
def rEq:R2:=λ x y H Q=>scal x y=true/\Q (.bl (decide (x=y))) H
theorem qgh {i j:Int}:decide (V.int i=V.int j)=(i == j):=by
 rw [je2]
 simp
theorem qp1 {i j:Bool}:decide (V.bl i=V.bl j)=(i == j):=by
 rw [je2]
 simp
theorem qms {i j:Str}:decide (V.str i=V.str j)=(i == j):=by
 rw [je2]
 simp
theorem qmt {i j:Array UInt8}:decide (V.byt i=V.byt j)=(i.toList == j.toList):=by
 rw [je2]
 cases i
 cases j
 simp
section
variable {X:Cx}{a b c:Expr}{ta tb tc:TE}{pos:Pos}
theorem zzs {pins:List (Addr×Obj)}{σ:St}{H:Hp}{s:va3}{Q:VK}{k k':Bool} (I:Inv X pins σ H s) (q:Q (.bl k) H) (e:k=k'):EP X pins σ Q (.bool k') s:=by
 subst e
 exact ⟨.bl k,H,I,rfl,q⟩
theorem qqp:OpR X (vd2 .Eq) rEq:=by
 intro pins s σ H x y v u Q I rx ry h
 obtain ⟨hs,q⟩:=h
 cases x with
 | non=>
  cases rx
  cases y with
  | non=>cases ry;exact PySem.EqNone.eq_none_none (zzs I q (by simp))
  | bl j=>cases ry;exact PySem.EqNone.eq_none_bool (zzs I q (by simp))
  | int j=>obtain ⟨t',rfl⟩:=ry;exact PySem.EqNone.eq_none_int (zzs I q (by simp))
  | str j=>obtain ⟨t',rfl⟩:=ry;exact PySem.EqNone.eq_none_str (zzs I q (by simp))
  | _=>exact absurd (show false=true from hs) jb6
 | bl i=>
  cases rx
  cases y with
  | non=>cases ry;exact PySem.EqNone.eq_bool_none (zzs I q (by simp))
  | bl j=>cases ry;exact eq_bool (zzs I q qp1)
  | str j=>obtain ⟨t',rfl⟩:=ry;exact PySem.EqMixed.eq_bool_str (zzs I q (by simp))
  | _=>exact absurd (show false=true from hs) jb6
 | int i=>
  obtain ⟨t,rfl⟩:=rx
  cases y with
  | non=>cases ry;exact PySem.EqNone.eq_int_none (zzs I q (by simp))
  | int j=>obtain ⟨t',rfl⟩:=ry;exact eq_int (zzs I q qgh)
  | str j=>obtain ⟨t',rfl⟩:=ry;exact PySem.EqMixed.eq_int_str (zzs I q (by simp))
  | _=>exact absurd (show false=true from hs) jb6
 | str i=>
  obtain ⟨t,rfl⟩:=rx
  cases y with
  | non=>cases ry;exact PySem.EqNone.eq_str_none (zzs I q (by simp))
  | bl j=>cases ry;exact PySem.EqMixed.eq_str_bool (zzs I q (by simp))
  | int j=>obtain ⟨t',rfl⟩:=ry;exact PySem.EqMixed.eq_str_int (zzs I q (by simp))
  | str j=>obtain ⟨t',rfl⟩:=ry;exact eq_str (zzs I q qms)
  | _=>exact absurd (show false=true from hs) jb6
 | byt i=>
  obtain ⟨t,rfl⟩:=rx
  cases y with
  | byt j=>obtain ⟨t',rfl⟩:=ry;exact PySem.W.eq_bytes (zzs I q qmt)
  | _=>exact absurd (show false=true from hs) jb6
 | _=>cases y <;> exact absurd (show false=true from hs) jb6
theorem qo2:OpR X (vd2 .Lt) (rI0 λ i j=>.bl (decide (i < j))):=opB0 λ _ _ _ _ _ _ _ q=>lt_int q
theorem qo3:OpR X (vd2 .LtE) (rI0 λ i j=>.bl (decide (i<=j))):=opB0 λ _ _ _ _ _ _ _ q=>le_int q
theorem qo5:OpR X (vd2 .Gt) (rI0 λ i j=>.bl (decide (j < i))):=opB0 λ _ _ _ _ _ _ _ q=>gt_int q
theorem qo6:OpR X (vd2 .GtE) (rI0 λ i j=>.bl (decide (j<=i))):=opB0 λ _ _ _ _ _ _ _ q=>ge_int q
theorem OpR.or {f:va2->va2->Sem va2}{r r':R2} (h:OpR X f r) (h':OpR X f r'):OpR X f (λ x y H Q=>r x y H Q\/r' x y H Q):=by
 intro pins s σ H x y v u Q I rx ry q
 rcases q with q | q
 ·exact h pins s σ H x y v u Q I rx ry q
 ·exact h' pins s σ H x y v u Q I rx ry q
theorem qlz {op:vn7}{r:R2} (ho:OpR X (vd2 op) r) (ha:PE X a ta) (hb:PE X b tb) (hm:vg7 op b=false):PE X (.Compare a [op] [b] pos) (tOp r ta tb):=by
 intro pins s σ H Q I h
 exact wpAny_Compare1 (binT ha hb I h λ v u s2 x y H2 I2 rx ry q=>ho pins s2 σ H2 x y v u Q I2 rx ry q) hm
def qnh (t:TE):TT:=λ σ H Q=>t σ H λ x H'=>∃ k,x=.bl k/\Q k H'
theorem qlu {op:vn7}{r:R2} (ho:OpR X (vd2 op) r) (ha:PE X a ta) (hb:PE X b tb) (hm:vg7 op b=false):PT X (.Compare a [op] [b] pos) (qnh (tOp r ta tb)):=by
 intro pins s σ H Q I h
 refine wpAny_isTrue_Compare1 (thn (ha pins s σ H _ I h) λ v s1 ⟨x,H1,I1,r1,q1⟩=>thn (hb pins s1 σ H1 _ I1 q1) λ u s2 ⟨y,H2,I2,r2,q2⟩=>
  thn (ho pins s2 σ H2 x y v u _ I2 r1 r2 q2) λ c s3 ⟨z,H3,I3,r3,k,e,q3⟩=>?_) hm
 subst e
 cases r3
 exact vc8 ⟨H3,I3,q3⟩
def qea (r r':R2) (ta tb tc:TE):TE:=λ σ H Q=>ta σ H λ x H1=>tb σ H1 λ y H2=>r x y H2 λ z H3=>∃ k,z=.bl k /\
 (if k=true then tc σ H3 λ w' H4=>r' y w' H4 Q else Q (.bl false) H3)
theorem qh4 {op op':vn7}{r r':R2} (ho:OpR X (vd2 op) r) (ho':OpR X (vd2 op') r') (ha:PE X a ta) (hb:PE X b tb) (hc:PE X c tc)
  (hm:lastMarks [op,op'] [b,c]=false:=by with_unfolding_all rfl):PE X (.Compare a [op,op'] [b,c] pos) (qea r r' ta tb tc):=by
 intro pins s σ H Q I h
 refine Compare_chain (thn (ha pins s σ H _ I h) λ v s1 ⟨x,H1,I1,r1,q1⟩=>chain_link (thn (hb pins s1 σ H1 _ I1 q1) λ u s2 ⟨y,H2,I2,r2,q2⟩=>
  thn (ho pins s2 σ H2 x y v u _ I2 r1 r2 q2) λ d s3 ⟨z,H3,I3,r3,k,e,q3⟩=>?_)) hm
 subst e
 cases r3
 refine vc8 ?_
 cases k with
 | false=>exact ite_ff ⟨.bl false,H3,I3,rfl,q3⟩
 | true=>exact ite_tt (chain_last (thn (hc pins s3 σ H3 _ I3 q3) λ w' s4 ⟨z',H4,I4,r4,q4⟩=>ho' pins s4 σ H4 y z' u w' Q I4 r2 r4 q4))
theorem qhz {op op':vn7}{r r':R2} (ho:OpR X (vd2 op) r) (ho':OpR X (vd2 op') r') (ha:PE X a ta) (hb:PE X b tb) (hc:PE X c tc)
  (hm:lastMarks [op,op'] [b,c]=false:=by with_unfolding_all rfl):PT X (.Compare a [op,op'] [b,c] pos) (qnh (qea r r' ta tb tc)):=by
 intro pins s σ H Q I h
 refine isTrue_chain (thn (ha pins s σ H _ I h) λ v s1 ⟨x,H1,I1,r1,q1⟩=>test_link (thn (hb pins s1 σ H1 _ I1 q1) λ u s2 ⟨y,H2,I2,r2,q2⟩=>
  thn (ho pins s2 σ H2 x y v u _ I2 r1 r2 q2) λ d s3 ⟨z,H3,I3,r3,k,e,q3⟩=>?_)) hm
 subst e
 cases r3
 refine vc8 ?_
 cases k with
 | false=>
  obtain ⟨k',e',q'⟩:=q3
  cases e'
  exact ite_ff ⟨H3,I3,q'⟩
 | true=>
  refine ite_tt (test_last (thn (hc pins s3 σ H3 _ I3 q3) λ w' s4 ⟨z',H4,I4,r4,q4⟩=>thn (ho' pins s4 σ H4 y z' u w' _ I4 r2 r4 q4) λ d' s5 ⟨z2,H5,I5,r5,k2,e2,q5⟩=>?_))
  subst e2
  cases r5
  exact vc8 ⟨H5,I5,q5⟩
theorem zpz:(va8:Nat) < 2 ^ 63:=by rw [vk2];decide
theorem zyo {x:V}{us:List va2} (r:Vals [x] us):∃ u,us=[u]/\RelV x u:=by
 cases r with
 | cons r1 r2=>cases r2;exact ⟨_,rfl,r1⟩
theorem qdx {x y:V}{us:List va2} (r:Vals [x,y] us):∃ u w',us=[u,w']/\RelV x u/\RelV y w':=by
 cases r with
 | cons r1 r2=>
  cases r2 with
  | cons r3 r4=>cases r4;exact ⟨_,_,rfl,r1,r3⟩
theorem qgx (hc:X.calm=true):CallR X (.builtin "max") (λ xs H Q=>∃ i j,xs=[.int i,.int j]/\Q (.int (if j > i then j else i)) H):=by
 intro pins s σ H xs us Q I r h
 obtain ⟨i,j,rfl,q⟩:=h
 obtain ⟨u,w',rfl,⟨t,rfl⟩,⟨t',rfl⟩⟩:=qdx r
 refine max_two_ints (I.ok.hd hc) λ h' tk k=>⟨_,H,I.kept k,?_,q⟩
 by_cases hj:j > i
 ·rw [if_pos hj,if_pos hj];exact ⟨_,rfl⟩
 ·rw [if_neg hj,if_neg hj];exact ⟨_,rfl⟩
theorem qgv (hc:X.calm=true):CallR X (.builtin "min") (λ xs H Q=>∃ i j,xs=[.int i,.int j]/\Q (.int (if j < i then j else i)) H):=by
 intro pins s σ H xs us Q I r h
 obtain ⟨i,j,rfl,q⟩:=h
 obtain ⟨u,w',rfl,⟨t,rfl⟩,⟨t',rfl⟩⟩:=qdx r
 refine min_two_ints (I.ok.hd hc) λ h' tk k=>⟨_,H,I.kept k,?_,q⟩
 by_cases hj:j < i
 ·rw [if_pos hj,if_pos hj];exact ⟨_,rfl⟩
 ·rw [if_neg hj,if_neg hj];exact ⟨_,rfl⟩
theorem qgz:CallR X (.type "int") (λ xs H Q=>(∃ i,xs=[.int i]/\Q (.int i) H)\/∃ k,xs=[.bl k]/\Q (.int (if k then 1 else 0)) H):=by
 intro pins s σ H xs us Q I r h
 rcases h with ⟨i,rfl,q⟩ | ⟨k,rfl,q⟩
 ·obtain ⟨u,rfl,t,rfl⟩:=zyo r
  exact call_int_int ⟨.int i,H,I,⟨_,rfl⟩,q⟩
 ·obtain ⟨u,rfl,r1⟩:=zyo r
  cases r1
  exact call_int_bool ⟨.int (if k then 1 else 0),H,I.tok _,⟨_,rfl⟩,q⟩
end
structure ObjM (h:Heap) (x dx C:Addr) (mA:Str->Option va2):Prop where
 obj:h.get? x=some (vn4 C dx)
 ns:h.Ns1 dx mA
 ne:dx≠x
theorem qfl {h:Heap}{dx:Addr}{mA:Str->Option va2} (n:h.Ns1 dx mA):∃ od,h.get? dx=some od/\∀ name,vo4 name od=some (mA name):=by
 obtain ⟨o,es,ep,ho,hd,hk,_,hm⟩:=n
 refine ⟨o,ho,λ name=>?_⟩
 have e:=hm name
 unfold nsFind findBy at e
 rw [<- Array.find?_toList] at e
 unfold vo4
 rw [hd]
 dsimp only
 split
 ·rename_i y q
  rw [q] at e
  exact congrArg some e
 ·rename_i q
  rw [q] at e
  have a:es.toList.any (·.refKey)=false:=by
   rw [List.any_eq_false]
   intro y hy
   obtain ⟨z,t,hkey⟩:=hk y (Array.mem_toList_iff.mp hy)
   simp [DictEntry.refKey,hkey]
  have a':¬ es.toList.any (·.refKey)=true:=by rw [a];exact jb6
  rw [if_neg a']
  exact congrArg some e
theorem ObjM.look {h:Heap}{x dx C:Addr}{mA:Str->Option va2} (I:ObjM h x dx C mA):∃ od,PySem.W.InstAt h x (vn4 C dx) C (some od)/\∀ name,vo4 name od=some (mA name):=
 let ⟨od,ho,hl⟩:=qfl I.ns
 ⟨od,⟨I.obj,rfl,rfl,ho⟩,hl⟩
section
variable {prog:vb0}{w:vc1}{A:vc0}{E:va2->va3->Prop}{s:va3}{K:va9}{x dx C f:Addr}{mA:Str->Option va2}{name:Str}{v:va2}
end
section
variable {P:vb0}{w:vc1}{H H':Hp}{h h':Heap}{a C dx:Addr}{fs fs':List (Str×V)}
theorem qmf (hok:HOk P w H h) (e:H a=some (.ins C dx fs)):∃ mA,ObjM h a dx C mA/\(∀ f,RelO (fs.lookup f) (mA f))/\PySem.Within mA (fs.map (·.1))/\fs.length<=1000/\H dx=some (.own a):=by
 obtain ⟨d,z,ne,ob,mA,n,r,q⟩:=(show zzd P w H h a (.ins C dx fs) from hok a _ e)
 exact ⟨mA,⟨ob,n,ne⟩,r,q,z,d⟩
end
structure Cls (K:va9) (C:Addr):Prop where
 pg:PySem.W.plainGet K C Str.empty=true
 hd:PySem.W.hasDictIn K C=true
 po:PySem.W.plainOver K C=true
 sa:vb7 K (.ref C) "__setattr__" = some (some (.builtin "object.__setattr__"))
theorem Cls.get {K:va9}{C:Addr} (c:Cls K C) (f:Str):PySem.W.plainGet K C f=true:=c.pg
structure Con (K:va9) (C:Addr) (f:Str) (v:V) (u:va2):Prop where
 at_:vb7 K (.ref C) f=some (some u)
 rel:RelV v u
 get:PySem.W.specialIn K u "__get__" = some none
 cp:PySem.W.copiedNames.contains f=false
structure Meth (K:va9) (C:Addr) (m:Str) (f:Addr):Prop where
 at_:vb7 K (.ref C) m=some (some (.ref f))
 fn:PySem.W.isFn K (.ref f)=true
 kp:vf3 K (.ref f)=true
section
variable {X:Cx}{pins:List (Addr×Obj)}{σ:St}{H:Hp}{s:va3}{a C dx:Addr}{fs:List (Str×V)}{f:Str}{v:V}{A:vc0}{E:va2->va3->Prop}
end
section
variable {X:Cx}{o e value:Expr}{f:Str}{pos pos' tpos:Pos}{ta tv:TE}
end
section
variable {X:Cx}{pins:List (Addr×Obj)}{σ:St}{H:Hp}{s:va3}{A:vc0}{E:va2->va3->Prop}{Q:va2->va3->Prop}{c:va2}{b:Bool}
inductive TyOf (K:va9) (H:Hp):V->va2->Prop where
 | non:TyOf K H .non (.type "NoneType")
 | bl (x:Bool):TyOf K H (.bl x) (.type "bool")
 | int (i:Int):TyOf K H (.int i) (.type "int")
 | str (x:Str):TyOf K H (.str x) (.type "str")
 | flt (x:UInt64):TyOf K H (.flt x) (.type "float")
 | lst {a:Addr}{xs:List V} (e:H a=some (.lst xs)):TyOf K H (.ref a) (.type "list")
 | frz {a:Addr}{o:Obj}{xs:List V} (e:H a=some (.frz o (.lst xs))):TyOf K H (.ref a) (.type "list")
 | tup {a:Addr}{xs:List V} (e:H a=some (.tup xs)):TyOf K H (.ref a) (.type "tuple")
 | dK {a:Addr}{kvs:List (Key×V)} (e:H a=some (.dK kvs)):TyOf K H (.ref a) (.type "dict")
 | dT {a:Addr}{kvs:List (List Key×V)} (e:H a=some (.dT kvs)):TyOf K H (.ref a) (.type "dict")
 | ins {a C dx:Addr}{fs:List (Str×V)} (e:H a=some (.ins C dx fs)) (cl:Cls K C) (ha:vb7 K (.ref C) "__class__" = some (some (.builtin "object.__class__")))
   (hn:PySem.W.specialIn K (.builtin "object.__class__") "__get__" = some (some (.builtin "getset_descriptor.__get__"))) (htk:PySem.W.takesIn K (.builtin "object.__class__")=some true)
   (hm:ve0 K C (.type "object")=some true):TyOf K H (.ref a) (.ref C)
theorem qfv {x:V}{u t:va2} (I:Inv X pins σ H s) (rx:RelV x u) (ty:TyOf X.K H x t) (e:vc4 X.K t c=some b) (h:∀ tk,Q (.bool b) { s with toks:=tk }):
  vb3 (vb4 X.prog X.w) A (call (.builtin "isinstance") [u,c]) Q E s:=by
 cases ty with
 | non=>cases (show u=Value.none from rx);exact vc2 vl3 I.kIn True.intro e (λ z=>nomatch z) h
 | bl y=>cases (show u=Value.bool y from rx);exact vc2 PySem.W.kitx_bool I.kIn True.intro e (λ z=>nomatch z) h
 | int i=>obtain ⟨t,q⟩:=(show ∃ t,u=Value.int i t from rx);cases q;exact vc2 PySem.W.kitx_int I.kIn True.intro e (λ z=>nomatch z) h
 | str y=>obtain ⟨t,q⟩:=(show ∃ t,u=Value.str y t from rx);cases q;exact vc2 PySem.W.kitx_str I.kIn True.intro e (λ z=>nomatch z) h
 | flt y=>obtain ⟨t,q⟩:=(show ∃ t,u=Value.float y t from rx);cases q;exact vc2 PySem.W.kitx_float I.kIn True.intro e (λ z=>nomatch z) h
 | @lst a xs ea=>
  cases (show u=Value.ref a from rx)
  obtain ⟨_,_,n,_,h1⟩:=(show zzd X.prog X.w H s.heap a (.lst xs) from I.hok a _ ea)
  exact vc2 PySem.W.kitx_list I.kIn ⟨_,h1,rfl⟩ e (λ z=>nomatch z) h
 | @frz a ob xs ea=>
  cases (show u=Value.ref a from rx)
  obtain ⟨_,_,_,n,_,h1⟩:=(show zzd X.prog X.w H s.heap a (.frz ob (.lst xs)) from I.hok a _ ea)
  exact vc2 PySem.W.kitx_list I.kIn ⟨_,h1,rfl⟩ e (λ z=>nomatch z) h
 | @tup a xs ea=>
  cases (show u=Value.ref a from rx)
  obtain ⟨_,_,_,p⟩:=(show zzd X.prog X.w H s.heap a (.tup xs) from I.hok a _ ea)
  obtain ⟨o,h1,h2,_⟩:=p
  exact vc2 PySem.W.kitx_tuple I.kIn ⟨o,h1,h2⟩ e (λ z=>nomatch z) h
 | @dK a kvs ea=>
  cases (show u=Value.ref a from rx)
  obtain ⟨_,_,vs,_,p⟩:=(show zzd X.prog X.w H s.heap a (.dK kvs) from I.hok a _ ea)
  obtain ⟨o,es,ep,h1,h2,_⟩:=p
  exact vc2 PySem.W.kitx_dict I.kIn ⟨o,h1,h2.1⟩ e (λ z=>nomatch z) h
 | @dT a kvs ea=>
  cases (show u=Value.ref a from rx)
  obtain ⟨_,_,xs,_,o,es,ep,h1,h2,_⟩:=(show zzd X.prog X.w H s.heap a (.dT kvs) from I.hok a _ ea)
  exact vc2 PySem.W.kitx_dict I.kIn ⟨o,h1,h2.1⟩ e (λ z=>nomatch z) h
 | @ins a C dx fs ea cl ha hn htk hm=>
  cases (show u=Value.ref a from rx)
  obtain ⟨mA,O,_⟩:=qmf I.hok ea
  obtain ⟨od,J,_⟩:=O.look
  exact vc2 (PySem.W.kitx_own (cl.get _) cl.hd ha hn htk hm) I.kIn J e (λ z=>nomatch z) h
end
structure Room (k:Nat) (A:vc0):Prop where
 hd:A.handled=none
 dp:A.depth + 3 * k + 5 < recursionLimit
 un:A.units + 16 * k + 200 < vh0
 gd:A.guards=some []
theorem Room.mono {j k:Nat}{A:vc0} (r:Room k A) (h:j<=k):Room j A:=⟨r.hd,by have:=r.dp;omega,by have:=r.un;omega,r.gd⟩
theorem Room.deeper {k:Nat}{A:vc0} (r:Room (k + 1) A) (env:Env):Room k (A.deeper env):=
 ⟨r.hd,by have:=r.dp;show A.depth + 1 + 3 * k + 5 < _;omega,by have:=r.un;show A.units + 3 + 16 * k + 200 < _;omega,r.gd⟩
theorem Room.depth {k:Nat}{A:vc0} (r:Room k A):A.depth < recursionLimit:=by have:=r.dp;omega
theorem Room.units {k:Nat}{A:vc0} (r:Room k A):A.units + 64 < vh0:=by have:=r.un;omega
def tNil:TA:=λ _ H Q=>Q [] H
def qk5 (ta:TE) (tr:TA):TA:=λ σ H Q=>ta σ H λ x H1=>tr σ H1 λ xs H2=>Q (x::xs) H2
section
variable {X:Cx}{e:Expr}{es:List Expr}{te:TE}{t:TA}{pos:Pos}
theorem zpt:PA X [] tNil:=λ _ _ _ _ H Q I h=>Calls.spliced_nil ⟨[],H,I,.nil,h⟩
theorem zvc (ha:PE X e te) (hr:PA X es t) (hs:va7 (e::es) X.env=(false,eval e X.env)::va7 es X.env:=by rfl):PA X (e::es) (qk5 te t):=by
 intro pos pins s σ H Q I h
 rw [hs]
 show vb3 _ _ (spliced ((false,eval e X.env)::vg1 pos (va7 es X.env))) _ _ s
 refine Calls.spliced_cons (thn (ha pins s σ H _ I h) λ u s1 ⟨x,H1,I1,r1,q1⟩=>?_)
 exact thn (hr pos pins s1 σ H1 _ I1 q1) λ us s2 ⟨xs,H2,I2,r2,q2⟩=>⟨x::xs,H2,I2,.cons r1 r2,q2⟩
def tTup (t:TA):TE:=λ σ H Q=>t σ H λ xs H1=>xs.length<=va8/\∀ p,H1 p=none->Q (.ref p) (upd H1 p (.tup xs))
def tLst (t:TA):TE:=λ σ H Q=>t σ H λ xs H1=>xs.length<=va8/\∀ p,H1 p=none->Q (.ref p) (upd H1 p (.lst xs))
theorem qjt {x1} (h:PA X es t):PE X (.Tuple es x1 pos) (tTup t):=by
 intro pins s σ H Q I hq
 refine wpAny_Tuple_spliced (thn (h pos pins s σ H _ I hq) λ us s1 ⟨xs,H1,I1,r,z,q⟩=>⟨by rw [<- r.length];exact z,?_⟩)
 have hf:H1 s1.heap.objs.size=none:=I1.hok.fresh (jb2 _)
 refine ⟨.ref s1.heap.objs.size,upd H1 s1.heap.objs.size (.tup xs),I1.laid (t':=s1.toks) (λ b u e=>va1 _ e) (jb2 _) ?_,rfl,q _ hf⟩
 exact ⟨z,us,r,⟨_,va6 _ rfl,rfl,_,rfl⟩⟩
theorem qos (h:PA X es t):PE X (.List es pos) (tLst t):=by
 intro pins s σ H Q I hq
 refine wpAny_List_spliced (thn (h pos pins s σ H _ I hq) λ us s1 ⟨xs,H1,I1,r,z,q⟩=>⟨by rw [<- r.length];exact z,?_⟩)
 have hf:H1 s1.heap.objs.size=none:=I1.hok.fresh (jb2 _)
 refine ⟨.ref s1.heap.objs.size,upd H1 s1.heap.objs.size (.lst xs),I1.laid (t':=s1.toks) (λ b u e=>va1 _ e) (jb2 _) ?_,rfl,q _ hf⟩
 exact ⟨z,us,0,r,va6 _ rfl⟩
end
abbrev Sp:=List V->Hp->VK->XK->Prop
abbrev CXT:=List Env->Hp->va3->XK->va2->va3->Prop
structure Env0 (P:vb0) (w:vc1) (K:va9) (mg:Str->Option va2) (base:Heap) (A:vc0) (outer:List Env) (s:va3) (H:Hp):Prop where
 frames:A.frames=some outer
 mod:Mod K mg base
 bs:∀ b o,base.get? b=some o->s.heap.get? b=some o/\H b=none
 bsz:base.objs.size<=s.heap.objs.size
 funs:s.heap.FunFrames base outer
 frf:∀ b∈frs outer,H b=none
 hok:HOk P w H s.heap
 bare:vi6 s.gens
def CE (outer:List Env) (P:vb0) (w:vc1) (H:Hp) (s:va3) (Q:VK) (u:va2) (s':va3):Prop:=
 ∃ v H',s'.os=s.os/\vi6 s'.gens/\Un (frs outer) [] H H' s.heap s'.heap/\HOk P w H' s'.heap/\RelV v u/\Q v H'
def CR (CX:CXT) (outer:List Env) (P:vb0) (w:vc1) (H:Hp) (s:va3) (Q:VK) (E:XK) (r:Result) (s':va3):Prop:=
 match r with
 | .ok (.ret u)=>CE outer P w H s Q u s'
 | .ok _=>False
 | .error e=>CX outer H s E e s'
structure FnOk (P:vb0) (w:vc1) (K:va9) (mg:Str->Option va2) (base:Heap) (CX:CXT) (k:Nat) (f:Addr) (fd:vd6) (ps:List Str) (sp:Sp):Prop where
 len:∀ vs H Q E,sp vs H Q E->vs.length=ps.length
 run:∀ (A:vc0) (outer:List Env) (s:va3) (H:Hp) (args:Args) (us:List va2) (vs:List V) (Q:VK) (E:XK),Room k A->Env0 P w K mg base A outer s H->BindsTo s fd args (ps.zip us)->Vals vs us->sp vs H Q E ->
  vl1 (vb4 P w) A (.call (.ref f) args) (CR CX outer P w H s Q E) s
theorem FnOk.mono {P:vb0}{w:vc1}{K:va9}{mg:Str->Option va2}{base:Heap}{CX:CXT}{j k:Nat}{f:Addr}{fd:vd6}{ps:List Str}{sp:Sp} (F:FnOk P w K mg base CX j f fd ps sp) (h:j<=k):
  FnOk P w K mg base CX k f fd ps sp:=⟨F.len,λ A outer s H args us vs Q E hr=>F.run A outer s H args us vs Q E (hr.mono h)⟩
section
variable {X:Cx}{pins:List (Addr×Obj)}{σ:St}{H:Hp}{s s':va3}
theorem Inv.env0 (I:Inv X pins σ H s):Env0 X.prog X.w X.K X.mg X.base X.A X.stack s H:=
 ⟨I.ok.frames,I.ok.mod,I.bs,jd5 I.ok.bsz I.sz,I.stack,I.stkFree,I.hok,I.bare⟩
theorem Inv.after {Q:VK}{u:va2} (I:Inv X pins σ H s) (h:CE X.stack X.prog X.w H s Q u s'):EP X pins σ Q u s':=by
 obtain ⟨v,H',os,bare,un,hok,r,q⟩:=h
 obtain ⟨hh,g,d,t,os'⟩:=s'
 obtain rfl:os'=s.os:=os
 exact ⟨v,H',I.call (h':=hh) (g':=g) (d':=d) (t':=t) (ch:=[]) un hok bare (λ b z=>absurd z (by simp)),r,q⟩
end
def qad (K:va9) (fd:vd6) (ps:List Str) (ds:List va2):Prop:=
 ∀ (s:va3) (us:List va2),K.In s.heap->(us++ds).length=ps.length->BindsTo s fd ⟨us,[]⟩ (ps.zip (us++ds))
theorem qad.all {K:va9}{fd:vd6}{ps:List Str} (h:∀ us:List va2,us.length=ps.length->bindArgs fd ⟨us,[]⟩=pure (ps.zip us)):qad K fd ps []:=λ s us _ hl=>by
 rw [jj8] at hl ⊢
 exact .of_eq (h us hl)
section
variable {X:Cx}{CX:CXT}{k:Nat}{f C:Addr}{fd:vd6}{ps:List Str}{sp:Sp}{dvs:List V}{ds:List va2}{E:XK}{x m:Str}{p pos apos:Pos}{e o:Expr}{es:List Expr}{ta:TE}{t:TA}
structure Mk (K:va9) (C f:Addr):Prop where
 makes:PySem.W.makesIn K C=true
 init:vb7 K (.ref C) "__init__" = some (some (.ref f))
 fn:PySem.W.isFn K (.ref f)=true
 kp:vf3 K (.ref C)=true
end
section
variable {X:Cx}{CX:CXT}{k:Nat}{f C:Addr}{fd:vd6}{ps ks:List Str}{sp:Sp}{E:XK}{x m:Str}{p pos apos kpos:Pos}{e o:Expr}{es:List Expr}{kws:List Keyword}{te ta:TE}{t tk:TA}{nm:Option Str}
structure KBinds (K:va9) (fd:vd6) (ps ks:List Str) (g:List va2->List va2->List va2) (gV:List V->List V->List V):Prop where
 to:∀ (s:va3) (us ws:List va2),K.In s.heap->(g us ws).length=ps.length->BindsTo s fd ⟨us,ks.zip ws⟩ (ps.zip (g us ws))
 rel:∀ {vs:List V}{us:List va2}{zs:List V}{ws:List va2},Vals vs us->Vals zs ws->Vals (gV vs zs) (g us ws)
variable {g:List va2->List va2->List va2}{gV:List V->List V->List V}
end
structure FnScope (N P:List Str) (sc:ve5):Prop where
 kind:sc.kind=.function:=by rfl
 co:sc.isCoroutine=false:=by rfl
 gen:sc.isGenerator=false:=by rfl
 nd:N.Nodup:=by decide +kernel
 pre:N.take P.length=P:=by rfl
 par:∀ x∈P,sc.names.lookup x=some .local\/sc.names.lookup x=some .cell:=by decide +kernel
 nofree:∀ y∈sc.names,y.2≠.free:=by decide +kernel
theorem zhx {kindOf:Str->Option ve1}{x:Str}:∀ {binds:List (Str×va2)}{m:Str->Option va2},(∀ v,(x,v)∉binds)->bindL kindOf binds m x=m x
 | [],_,_=>rfl
 | (n,v)::r,m,h=>by
  unfold bindL
  rw [zhx λ w hw=>h w (ja1 _ hw)]
  split
  ·have:x≠n:=by rintro rfl;exact h v ja4
   simp [this]
  ·rfl
theorem zhz {kindOf:Str->Option ve1}{x:Str}:∀ {binds:List (Str×va2)}{m:Str->Option va2},(∀ v,(x,v)∉binds)->bindC kindOf binds m x=m x
 | [],_,_=>rfl
 | (n,v)::r,m,h=>by
  unfold bindC
  rw [zhz λ w hw=>h w (ja1 _ hw)]
  split
  ·rfl
  ·have:x≠n:=by rintro rfl;exact h v ja4
   simp [this]
theorem zhy {kindOf:Str->Option ve1}{x:Str}{v:va2}:∀ {P:List Str}{vs:List va2}{i:Nat}{m:Str->Option va2},P.Nodup->P[i]?=some x->vs[i]?=some v->kindOf x=some .local ->
  bindL kindOf (P.zip vs) m x=some v
 | [],_,_,_,_,h,_,_=>by simp at h
 | _::_,[],_,_,_,_,h,_=>by simp at h
 | p::P,w::vs,0,m,nd,h1,h2,hk=>by
  simp at h1 h2;subst h1;subst h2
  show bindL kindOf ((p,w)::P.zip vs) m p=_
  unfold bindL
  rw [zhx λ v hv=>(jg3.mp nd).1 (jh5 hv).1,if_pos hk]
  simp
 | p::P,w::vs,i + 1,m,nd,h1,h2,hk=>by
  show bindL kindOf ((p,w)::P.zip vs) m x=_
  unfold bindL
  exact zhy (i:=i) (jg3.mp nd).2 (by simpa using h1) (by simpa using h2) hk
theorem qaa {kindOf:Str->Option ve1}{x:Str}{v:va2}:∀ {P:List Str}{vs:List va2}{i:Nat}{m:Str->Option va2},P.Nodup->P[i]?=some x->vs[i]?=some v->kindOf x≠some .local ->
  bindC kindOf (P.zip vs) m x=some v
 | [],_,_,_,_,h,_,_=>by simp at h
 | _::_,[],_,_,_,_,h,_=>by simp at h
 | p::P,w::vs,0,m,nd,h1,h2,hk=>by
  simp at h1 h2;subst h1;subst h2
  show bindC kindOf ((p,w)::P.zip vs) m p=_
  unfold bindC
  rw [zhz λ v hv=>(jg3.mp nd).1 (jh5 hv).1,if_neg hk]
  simp
 | p::P,w::vs,i + 1,m,nd,h1,h2,hk=>by
  show bindC kindOf ((p,w)::P.zip vs) m x=_
  unfold bindC
  exact qaa (i:=i) (jg3.mp nd).2 (by simpa using h1) (by simpa using h2) hk
def start (N:List Str) (vs:List V):St:=vs.map some++jb1 (N.length - vs.length) none
def cxOf (CX:CXT) (P:vb0) (w:vc1) (K:va9) (mg:Str->Option va2) (base:Heap) (N:List Str) (qual:Str) (scope:ve5) (f:Addr) (cd:va2) (A:vc0) (outer:List Env) (s:va3) (H:Hp) (E:XK):Cx where
 prog:=P
 w:=w
 K:=K
 mg:=mg
 base:=base
 A:=A.deeper (vm9 qual scope s.heap.objs.size f cd)
 N:=N
 s₀:=s
 H₀:=H
 env:=vm9 qual scope s.heap.objs.size f cd
 outer:=outer
 stack:=vm9 qual scope s.heap.objs.size f cd::outer
 ex:=[]
 calm:=true
 fn:=λ _=>true
 pn:=[]
 xe:=λ e s'=>vb3 (vb4 P w) (A.deeper (vm9 qual scope s.heap.objs.size f cd)) (leaving (vm9 qual scope s.heap.objs.size f cd) e) (λ _ s''=>CX outer H s E e s'') (λ e' s''=>CX outer H s E e' s'') s'
theorem qcy {sc:ve5}{n:Nat}{x:Str} (h:sc.names.lookup x=some .cell):∃ c,(vc7 n sc.names []).lookup x=some c:=by
 have q:=PySem.W.cellsFrom_some sc.names n [] (.inl h)
 exact jn0.mp q
theorem qf0 {CX:CXT}{P:vb0}{w:vc1}{K:va9}{mg:Str->Option va2}{base:Heap}{N ps:List Str}{qual:Str}{scope:ve5}{f:Addr}{cd:va2}{A:vc0}{outer:List Env}{s s1:va3}{H:Hp}{E:XK}{us:List va2}{vs:List V}
  (S:FnScope N ps scope) (hd:A.handled=none) (e0:Env0 P w K mg base A outer s H) (hl:vs.length=ps.length) (r:Vals vs us)
  (x:InCallC s s.heap.objs.size (bindL (vm9 qual scope s.heap.objs.size f cd).kindOf (ps.zip us) λ _=>none) (vc7 (s.heap.objs.size + 1) scope.names []) (bindC (vm9 qual scope s.heap.objs.size f cd).kindOf (ps.zip us) λ _=>none) s1):
  Inv (cxOf CX P w K mg base N qual scope f cd A outer s H E) [] (start N vs) H s1:=by
 have hpl:ps.length<=N.length:=by have:=congrArg js0 S.pre;rw [jd8] at this;omega
 obtain ⟨h1,tk,rfl,hk⟩:=x.done
 have noA:∀ b:Addr,b∉(cxOf CX P w K mg base N qual scope f cd A outer s H E).ex:=λ b z=>absurd (show b∈([]:List Addr) from z) (by simp)
 refine ⟨⟨e0.mod,S.kind,rfl,rfl,jb2 _,λ y z c h1 h2=>?_,λ y hy=>?_,λ y c _ h=>?_,λ _=>hd,Around.frames_deeper e0.frames,.inr ⟨rfl,rfl⟩,λ b z=>absurd z (noA b),e0.bs,e0.bsz,λ b _ _=>noA b,λ b z=>absurd z (noA b),e0.funs,e0.frf⟩,
  rfl,e0.bare,Un.kept hk,⟨_,x.toInCall.ns,λ i y v h1 h2 h3=>?_⟩,λ y c h=>⟨_,x.cell y c h⟩,e0.hok.fresh (jb2 _),λ y c h=>?_,λ p hp=>absurd (show p∈([]:List (Addr×Obj)) from hp) (by simp),e0.hok.kept hk,?_⟩
 ·exact name_of_addr x.apart (vf5 h1) (vf5 h2)
 ·have hy:scope.names.lookup y=some .cell\/scope.names.lookup y=some .free:=hy
  rcases hy with hy | hy
  ·exact qcy hy
  ·exact absurd rfl (S.nofree _ (vf5 hy))
 ·exact jn9 (x.above y c (vf5 h))
 ·have hi:i < vs.length:=by
   unfold start at h2
   by_cases hi:i < vs.length
   ·exact hi
   ·rw [jd4 (by simpa using hi)] at h2
    rw [jd9] at h2
    split at h2 <;> cases h2
  have ha:vs[i]?=some v:=by
   unfold start at h2
   rw [jc4 (by simpa using hi),jc1] at h2
   cases e:vs[i]? with
   | none=>rw [e] at h2;cases h2
   | some a=>rw [e] at h2;cases h2;rfl
  obtain ⟨u,hu,rv⟩:=r.get ha
  have hp:ps[i]?=some y:=by
   rw [<- S.pre,jg6 (by omega)];exact h1
  have ndP:ps.Nodup:=by rw [<- S.pre];exact S.nd.sublist (List.take_sublist _ _)
  refine ⟨u,rv,?_⟩
  rcases S.par y (List.mem_of_getElem? hp) with k | k
  ·exact .inl ⟨k,zhy ndP hp hu k⟩
  ·obtain ⟨c,e⟩:=qcy (n:=s.heap.objs.size + 1) k
   refine .inr ⟨.inl k,c,e,?_⟩
   have q:=x.cell y c e
   rw [qaa ndP hp hu (by show scope.names.lookup y≠_;rw [k];decide)] at q
   exact q
 ·exact e0.hok.fresh (jn9 (x.above y c (vf5 h)))
 ·unfold start
  show _=N.length
  rw [jb4,ja3,je6]
  omega
theorem qqw {CX:CXT}{P:vb0}{w:vc1}{K:va9}{mg:Str->Option va2}{base:Heap}{k:Nat}{f:Addr}{name qual:Str}{params:Arguments}{body:List Stmt}{scope:ve5}{dV kV doc pm cdv ct oc:va2}{an od:Option Addr}
  {osl:Array (Option va2)}{N ps:List Str}{sp:Sp} (lk:K.lookup f=some ⟨oc,od,.func (vh7 name qual params body scope dV kV doc pm an cdv ct),osl⟩) (hcd:vo5 K cdv qual=true) (S:FnScope N ps scope)
  (len:∀ vs H Q E,sp vs H Q E->vs.length=ps.length)
  (hbody:∀ (A:vc0) (outer:List Env) (s:va3) (H:Hp) (vs:List V) (Q:VK) (E:XK),Room k (A.deeper (vm9 qual scope s.heap.objs.size f cdv))->sp vs H Q E ->
   ∃ t,PSs (cxOf CX P w K mg base N qual scope f cdv A outer s H E) body t/\t { nx:=λ _ H'=>Q .non H',rt:=Q } (start N vs) H):
  FnOk P w K mg base CX (k + 1) f (vh7 name qual params body scope dV kV doc pm an cdv ct) ps sp:=by
 refine ⟨len,λ A outer s H args us vs Q E hr e0 hb r hsp=>?_⟩
 have hl:=len _ _ _ _ hsp
 have KX:K.In s.heap:=e0.mod.kin.keeps λ b o e=>(e0.bs b o e).1
 have lim:s.heap.NoLimit:=e0.mod.nolimit.keeps λ b o e=>(e0.bs b o e).1
 have hkind:∀ y∈ps.zip us,scope.names.lookup y.1=some .local\/(scope.names.lookup y.1=some .cell/\((vc7 (s.heap.objs.size + 1) scope.names []).lookup y.1).isSome=true):=λ ⟨n,v⟩ hy=>by
  rcases S.par n (jh5 hy).1 with q | q
  ·exact .inl q
  ·exact .inr ⟨q,PySem.W.cellsFrom_some _ _ _ (.inl q)⟩
 refine codeAny_call_function hr.depth (KX _ _ lk) rfl S.co S.gen rfl (PySem.W.codeRec_of KX hcd) (hb _ _ _ _ ?_)
 refine wpAny_newFunctionEnv_cells S.kind hkind λ env he s1 x=>?_
 subst he
 refine ⟨lim.keeps x.toInCall.keep,codeAny_func ?_⟩
 obtain ⟨t,ht,hq⟩:=hbody A outer s H vs Q E (hr.deeper _) hsp
 have I:Inv (cxOf CX P w K mg base N qual scope f cdv A outer s H E) [] (start N vs) H s1:=qf0 S hr.hd e0 hl r x
 refine ve9 (ht [] s1 (start N vs) H _ I hq) (λ fl s' hs=>?_) λ e s' hs=>hs
 have fin:∀ {σ':St}{H':Hp}{v:V}{u:va2},Inv (cxOf CX P w K mg base N qual scope f cdv A outer s H E) [] σ' H' s'->RelV v u->Q v H'->CE outer P w H s Q u s':=
  λ {σ' H' v u} J rv q=>⟨v,H',J.os,J.bare,J.base,J.hok,rv,q⟩
 cases fl with
 | ret u=>
  obtain ⟨v,σ',H',J,rv,q⟩:=hs
  exact fin J rv q
 | next=>
  obtain ⟨σ',H',J,q⟩:=hs
  exact fin (v:=V.non) (u:=Value.none) J rfl q
 | brk=>
  obtain ⟨_,_,_,q⟩:=hs
  exact vf7 q
 | cont=>
  obtain ⟨_,_,_,q⟩:=hs
  exact vf7 q
section
variable {X:Cx}{x:Str}{p pos:Pos}{e:Expr}{es:List Expr}{t:TA}{id T:String}{r:List V->Hp->VK->Prop}
def tCB (r:List V->Hp->VK->Prop) (t:TA):TE:=λ σ H Q=>t σ H λ vs H1=>r vs H1 Q
theorem zzg (hc:CallR X (.builtin id) r) (hg:Gl X x) (hm:X.mg x=none) (hv:vg3 x=some (.builtin id)) (ha:PA X (e::es) t) (hn:x ≠ "__name__" := by decide) (hdb:(x == ("__debug__" : Str))=false:=by decide)
  (he:va7 (e::es) X.env=(false,eval e X.env)::va7 es X.env:=by rfl) (hpl:(vg1 pos (va7 es X.env)).any (·.1)=false:=by rfl):PE X (.Call (.Name x p) (e::es) [] pos) (tCB r t):=by
 intro pins s σ H Q I h
 refine vk5 (zjg I hg hm hv ?_ hn hdb)
 exact PyProof.Rows.callWith_builtin1 (thn (ha pos pins s σ H _ I h) λ us s1 ⟨vs,H1,I1,r1,q1⟩=>hc pins s1 σ H1 vs us Q I1 r1 q1) he hpl
theorem zbn (hc:CallR X (.type T) r) (hg:Gl X x) (hm:X.mg x=none) (hv:vg3 x=some (.type T)) (ha:PA X (e::es) t) (hn:x ≠ "__name__" := by decide) (hdb:(x == ("__debug__" : Str))=false:=by decide)
  (he:va7 (e::es) X.env=(false,eval e X.env)::va7 es X.env:=by rfl) (hpl:(vg1 pos (va7 es X.env)).any (·.1)=false:=by rfl):PE X (.Call (.Name x p) (e::es) [] pos) (tCB r t):=by
 intro pins s σ H Q I h
 refine vk5 (zjg I hg hm hv ?_ hn hdb)
 exact vc6 (thn (ha pos pins s σ H _ I h) λ us s1 ⟨vs,H1,I1,r1,q1⟩=>hc pins s1 σ H1 vs us Q I1 r1 q1) he hpl
end
end L2
namespace HT
open PySem PyProof.Rows
section
open PySem.SeqAt
open PySem.AutoSeq1 (wpAny_loadPart')
open PySem.MeetsSeq PySem.MeetsSeq2 PySem.MeetsSeq3
end
section
variable {prog:vb0}{w:vc1}{A:vc0}{E:va2->va3->Prop}{s:va3}
theorem cat_tup {t b:Addr}{vs ws:List va2}{Q:va2->va3->Prop} (ht:IsTup s.heap t vs.toArray) (hb:IsTup s.heap b ws.toArray) (hv:vs≠[])
  (h1:ws=[]->Q (.ref t) s) (h2:ws≠[]->Q (.ref s.heap.objs.size) { s with heap:=s.heap.push { cls:=.type "tuple",data:=.seq (vs++ws).toArray } })
  (hsz:vs.length + ws.length<=va8):vb3 (vb4 prog w) A (vg0 .Add (.ref t) (.ref b)) Q E s:=by
 obtain ⟨⟨cls,dd,data,sl⟩,ho,hc,n,hd⟩:=id ht
 obtain ⟨⟨cls2,dd2,data2,sl2⟩,ho2,hc2,n2,hd2⟩:=id hb
 simp only at hc hd hc2 hd2
 subst hc hd hc2 hd2
 have e:vs.toArray++ws.toArray=(vs++ws).toArray:=by simp
 by_cases hw:ws=[]
 ·exact concat_meets ⟨_,ho,rfl⟩ ⟨_,ho2,rfl⟩ vl8 seq_tuple_add vi8 vi5 (vi1 _ _)
   (tuple_addW1 t b vs.toArray ws.toArray n n2 dd dd2 sl sl2 (by simpa using hv) (by simp [hw])) ⟨ho,ho2,h1 hw⟩
 ·refine concat_meets ⟨_,ho,rfl⟩ ⟨_,ho2,rfl⟩ vl8 seq_tuple_add vi8 vi5 (vi1 _ _)
   (tuple_addW2 t b vs.toArray ws.toArray n n2 dd dd2 sl sl2 (by simpa using hv) (by simpa using hw) (by rw [jc0,jc0];exact hsz)) ⟨ho,ho2,?_⟩
  rw [e]
  exact h2 hw
def sIx (n d:Nat):Option Int->Nat
 | none=>d
 | some v=>if v < 0 then (v + (n:Int)).toNat else min v.toNat n
theorem sIx_nat (n d k:Nat):sIx n d (some (k:Int))=min k n:=by
 show (if (k:Int) < 0 then ((k:Int) + (n:Int)).toNat else min (k:Int).toNat n)=min k n
 rw [if_neg (by omega),je8]
theorem qob (n d:Nat) (hd:d<=n) (o:Option Int):sIx n d o<=n:=by
 cases o with
 | none=>exact hd
 | some v=>
  show (if v < 0 then (v + (n:Int)).toNat else min v.toNat n)<=n
  by_cases hv:v < 0
  ·rw [if_pos hv];omega
  ·rw [if_neg hv];exact jl2 _ _
theorem qgp (v:Int) (n d:Nat):(if v < 0 then max (v + (n:Int)) 0 else min v (n:Int))=((sIx n d (some v):Nat):Int):=by
 show (if v < 0 then max (v + (n:Int)) 0 else min v (n:Int))=(((if v < 0 then (v + (n:Int)).toNat else min v.toNat n):Nat):Int)
 by_cases hv:v < 0
 ·simp only [if_pos hv];omega
 ·simp only [if_neg hv];omega
theorem qdo (lo hi:Option Int) (n:Nat):vh9 lo hi 1 (n:Int)=(((sIx n 0 lo:Nat):Int),((sIx n n hi:Nat):Int)):=by
 have h1:¬ ((1:Int) < 0):=by omega
 unfold vh9
 simp only [h1,if_false]
 refine vl9 ?_ ?_
 ·cases lo with
  | none=>rfl
  | some v=>exact qgp v n 0
 ·cases hi with
  | none=>rfl
  | some v=>exact qgp v n n
theorem qde (i j:Nat):vf4 (i:Int) (j:Int) 1=j - i:=by
 unfold vf4
 have h1:(1:Int) > 0:=by omega
 simp only [h1,if_true,Int.ediv_one]
 split <;> omega
theorem zpq {v:va2}{o:Option Int}{Q:Option Int->va3->Prop} (p:IsPart v o) (h:Q o s):vb3 (vb4 prog w) A (Builtin.Slice.slicePartIndex v) Q E s:=by
 cases p with
 | none=>exact slicePart_none h
 | int i t=>exact slicePart_int h
theorem zji {sl:Addr}{vl vu:va2}{lo hi:Option Int}{n:Nat}{Q:Int×Int×Nat->va3->Prop} (hs:s.heap.IsSliceOf sl vl vu .none) (pl:IsPart vl lo) (pu:IsPart vu hi)
  (h:Q (((sIx n 0 lo:Nat):Int),1,sIx n n hi - sIx n 0 lo) s):vb3 (vb4 prog w) A (vn9 (.ref sl) (pure (n:Int))) Q E s:=by
 obtain ⟨os,hos,hcs,hds⟩:=id hs
 unfold vn9 Builtin.Slice.sliceFields
 refine va0 (va0 (vc9 hos hds (x:=vl) rfl (va0 (vc9 hos hds (x:=vu) rfl (va0 (vc9 hos hds (x:=.none) rfl (va5 ?_)))))))
 refine va0 (slicePart_none ?_)
 show vb3 _ _ (if ((1:Int) == 0)=true then _ else _) _ _ s
 rw [if_neg (by decide)]
 refine va0 (zpq pl (va0 (zpq pu (va0 (va5 ?_)))))
 show vb3 _ _ (match vh9 lo hi 1 (n:Int) with | (lo,hi)=>pure (lo,(1:Int),vf4 lo hi 1)) _ _ s
 rw [qdo lo hi n]
 show vb3 _ _ (pure (((sIx n 0 lo:Nat):Int),(1:Int),vf4 ((sIx n 0 lo:Nat):Int) ((sIx n n hi:Nat):Int) 1)) _ _ s
 rw [qde]
 exact va5 h
theorem qh1 (xs:Array va2) (i k:Nat):((ja2 k).filterMap λ (m:Nat)=>xs[((i:Int) + (m:Int) * 1).toNat]?).toArray=((xs.toList.drop i).take k).toArray:=by
 have e:(λ (m:Nat)=>xs[((i:Int) + (m:Int) * 1).toNat]?)=λ m=>xs[i + m]?:=by
  funext m
  have:((i:Int) + (m:Int) * 1).toNat=i + m:=by omega
  rw [this]
 rw [e]
 have:=pick_run xs i k
 rw [List.filterMap_map] at this
 have e2:((λ x=>xs[x]?) ∘ λ x=>i + x)=λ m=>xs[i + m]?:=rfl
 rw [e2] at this
 rw [this]
theorem getItem_tuple_cut {t sl:Addr}{items:Array va2}{vl vu:va2}{lo hi:Option Int}{Q:va2->va3->Prop} (ht:IsTup s.heap t items) (hs:s.heap.IsSliceOf sl vl vu .none) (pl:IsPart vl lo) (pu:IsPart vu hi)
  (hw:¬ (sIx items.size 0 lo=0/\sIx items.size items.size hi=items.size))
  (h:Q (.ref s.heap.objs.size) { s with heap:=s.heap.push { cls:=.type "tuple",data:=.seq ((items.toList.drop (sIx items.size 0 lo)).take (sIx items.size items.size hi - sIx items.size 0 lo)).toArray } })
  (hsz:items.size<=va8):vb3 (vb4 prog w) A (getItem (.ref t) (.ref sl)) Q E s:=by
 have htake:sizeOk (.seq ((items.toList.drop (sIx items.size 0 lo)).take (sIx items.size items.size hi - sIx items.size 0 lo)).toArray):=by
  show ((items.toList.drop (sIx items.size 0 lo)).take (sIx items.size items.size hi - sIx items.size 0 lo)).toArray.size<=va8
  rw [jc0,jd8,jn2,jh4]
  omega
 have hj:sIx items.size items.size hi<=items.size:=qob _ _ (jb2 _) hi
 obtain ⟨os,hos,hcs,hds⟩:=id hs
 have hTs:s.TypeIs (.ref sl) "slice" := ⟨os,hos,hcs⟩
 unfold getItem
 try with_reducible refine vd9 ?_
 first | refine va0 (va5 ?_) | skip
 refine va0 (wpAny_sequenceKey ht.typeIs (by decide) ?_)
 refine va0 (ve7 (name:=vj1 "__getitem__") ht.typeIs vl5
  (vd7 vl5 ht.typeIs entry_tuple_getitem ?_ (args_tuple_getitem _ _)))
 show vb3 _ _ (Builtin.Tuple.tupleItemsOf (.ref t) >>= _) _ _ s
 refine va0 (tupleItemsOf_ ht ?_)
 refine va0 (wpAny_typeOf hTs ?_)
 rw [if_pos (by decide)]
 refine va0 (zji hs pl pu ?_)
 have hno:¬ ((((sIx items.size 0 lo:Nat):Int) == 0 && (1:Int) == 1 && (sIx items.size items.size hi - sIx items.size 0 lo) == items.size)=true):=by
  intro q
  rw [ja5,ja5] at q
  have q1:((sIx items.size 0 lo:Nat):Int)=0:=eq_of_beq q.1.1
  have q2:sIx items.size items.size hi - sIx items.size 0 lo=items.size:=eq_of_beq q.2
  exact hw ⟨by omega,by omega⟩
 show vb3 _ _ (if (((sIx items.size 0 lo:Nat):Int) == 0 && (1:Int) == 1 && (sIx items.size items.size hi - sIx items.size 0 lo) == items.size)=true then _ else _) _ _ s
 rw [if_neg hno,qh1]
 first
  | exact va0 (m:=vf8 _) (ve2 (va5 ⟨_,rfl,va5 h⟩) htake)
  | exact va0 (m:=vf8 _) (ve2 (va0 (va5 (va5 ⟨_,rfl,va5 h⟩))) htake)
  | exact va0 (va0 (m:=vf8 _) (ve2 (va5 (va5 ⟨_,rfl,va5 h⟩)) htake))
  | exact va0 (va0 (m:=vf8 _) (ve2 (va5 ⟨_,rfl,va5 h⟩) htake))
end
end HT
namespace L2
open PySem PySem.Spec PyProof.Rows
abbrev TO:=St->Hp->(Option Int->Hp->Prop)->Prop
def PO (X:Cx) (e:Option Expr) (t:TO):Prop:=
 ∀ (pins:List (Addr×Obj)) (s:va3) (σ:St) (H:Hp) (Q:Option Int->Hp->Prop),Inv X pins σ H s->t σ H Q ->
  vb3 (vb4 X.prog X.w) X.A (evalPart e X.env) (λ u s'=>∃ o H',Inv X pins σ H' s'/\IsPart u o/\Q o H') X.xe s
def qag:TO:=λ _ H Q=>Q none H
def qns (t:TE):TO:=λ σ H Q=>t σ H λ x H1=>∃ i,x=.int i/\Q (some i) H1
section
variable {X:Cx}{e:Expr}{te:TE}{lo hi:Option Expr}{tl th:TO}{pos p2:Pos}
theorem qat:PO X none qag:=by
 intro pins s σ H Q I h
 rw [evalPart_none]
 exact va5 ⟨none,H,I,.none,h⟩
theorem zbm (h:PE X e te):PO X (some e) (qns te):=by
 intro pins s σ H Q I hw
 rw [evalPart_some]
 refine thn (h pins s σ H _ I hw) λ u s1 ⟨x,H1,I1,r1,q1⟩=>?_
 obtain ⟨i,rfl,q⟩:=q1
 obtain ⟨t,rfl⟩:=r1
 exact ⟨some i,H1,I1,.int i t,q⟩
def SlR (X:Cx) (r:V->Option Int->Option Int->Hp->VK->Prop):Prop:=
 ∀ (pins:List (Addr×Obj)) (s:va3) (σ:St) (H:Hp) (x:V) (v vl vu:va2) (lo hi:Option Int) (sl:Addr) (Q:VK),Inv X pins σ H s->RelV x v->s.heap.IsSliceOf sl vl vu .none->IsPart vl lo->IsPart vu hi->r x lo hi H Q ->
  ∃ T id,typeLookup (.type T) "__getitem__" = pure (some (.builtin id))/\s.TypeIs v T/\vb3 (vb4 X.prog X.w) X.A (getItem v (.ref sl)) (EP X pins σ Q) X.xe s
theorem SlR.or {r r':V->Option Int->Option Int->Hp->VK->Prop} (h:SlR X r) (h':SlR X r'):SlR X (λ x lo hi H Q=>r x lo hi H Q\/r' x lo hi H Q):=by
 intro pins s σ H x v vl vu lo hi sl Q I rx hs pl pu q
 rcases q with q | q
 ·exact h pins s σ H x v vl vu lo hi sl Q I rx hs pl pu q
 ·exact h' pins s σ H x v vl vu lo hi sl Q I rx hs pl pu q
def tSl (r:V->Option Int->Option Int->Hp->VK->Prop) (te:TE) (tl th:TO):TE:=λ σ H Q=>te σ H λ x H1=>tl σ H1 λ l H2=>th σ H2 λ u H3=>r x l u H3 Q
theorem zmz {r:V->Option Int->Option Int->Hp->VK->Prop} (hr:SlR X r) (he:PE X e te) (hl:PO X lo tl) (hu:PO X hi th):PE X (.Subscript e (.Slice lo hi none p2) pos) (tSl r te tl th):=by
 intro pins s σ H Q I h
 refine Subscript_ (thn (he pins s σ H _ I h) λ v s1 ⟨x,H1,I1,r1,q1⟩=>?_)
 refine wpAny_Slice (thn (hl pins s1 σ H1 _ I1 q1) λ vl s2 ⟨l,H2,I2,pl,q2⟩=>thn (hu pins s2 σ H2 _ I2 q2) λ vu s3 ⟨u,H3,I3,pu,q3⟩=>?_)
 rw [evalPart_none]
 refine va5 ?_
 have I4:Inv X pins σ H3 { s3 with heap:=s3.heap.push { cls:=.type "slice",data:=.fields #[vl,vu,.none] } }:=I3.kept (t':=s3.toks) λ b ob q=>va1 _ q
 obtain ⟨T,id,hT,ht,hg⟩:=hr pins { s3 with heap:=s3.heap.push { cls:=.type "slice",data:=.fields #[vl,vu,.none] } } σ H3 x v vl vu l u s3.heap.objs.size Q I4 r1 (Heap.IsSliceOf.new ..) pl pu q3
 show vb3 (vb4 X.prog X.w) X.A (vk6 e (.Slice lo hi none p2) v (.ref s3.heap.objs.size)) (EP X pins σ Q) X.xe { s3 with heap:=s3.heap.push { cls:=.type "slice",data:=.fields #[vl,vu,.none] } }
 exact tail_any (ops:=[.ref s3.heap.objs.size,v]) ht hT hg (by with_unfolding_all rfl)
def cutV (xs:List V) (lo hi:Option Int):List V:=(xs.drop (HT.sIx xs.length 0 lo)).take (HT.sIx xs.length xs.length hi - HT.sIx xs.length 0 lo)
theorem zpd (xs:List V) (lo hi:Option Int):(cutV xs lo hi).length<=xs.length:=by
 unfold cutV
 rw [jd8,jn2]
 omega
def rSlT (K:va9):V->Option Int->Option Int->Hp->VK->Prop:=λ x lo hi H Q=>∃ a xs,x=.ref a/\SqT K H a xs /\
 ¬ (HT.sIx xs.length 0 lo=0/\HT.sIx xs.length xs.length hi=xs.length)/\∀ p,H p=none->Q (.ref p) (upd H p (.tup (cutV xs lo hi)))
theorem qeg:SlR X (rSlT X.K):=by
 intro pins s σ H x v vl vu lo hi sl Q I rx hs pl pu h
 obtain ⟨a,xs,rfl,hx,hw,q⟩:=h
 cases rx
 obtain ⟨its,r,ht,hz⟩:=I.tuple hx
 have hlen:its.toArray.size=xs.length:=by rw [jc0];exact r.length.symm
 refine ⟨"tuple",_,PyProof.Rows.slot_tuple_getitem.lookup,ht.typeIs,?_⟩
 refine HT.getItem_tuple_cut ht hs pl pu (by rw [hlen];exact hw) ?_ (by rw [hlen];exact hz)
 rw [hlen]
 refine ⟨.ref s.heap.objs.size,_,I.laid (t':=s.toks) (o:=.tup (cutV xs lo hi)) (λ b ob q=>va1 _ q) (jb2 _) ?_,rfl,q _ (I.hok.fresh (jb2 _))⟩
 exact ⟨jd5 (zpd xs lo hi) hz,_,(r.drop (HT.sIx xs.length 0 lo)).take (HT.sIx xs.length xs.length hi - HT.sIx xs.length 0 lo),IsTup.new _ _⟩
def qqh (K:va9):R2:=λ x y H Q=>∃ a b xs ys,x=.ref a/\y=.ref b/\SqT K H a xs/\SqT K H b ys/\xs≠[]/\xs.length + ys.length<=va8 /\
 (ys=[]->Q (.ref a) H)/\(ys≠[]->∀ p,H p=none->Q (.ref p) (upd H p (.tup (xs++ys))))
theorem Vals.nil_iff {xs:List V}{us:List va2} (r:Vals xs us):us=[]↔xs=[]:=by
 cases r with
 | nil=>simp
 | cons _ _=>simp
theorem ql3:OpR X (vg0 .Add) (qqh X.K):=by
 intro pins s σ H x y v u Q I rx ry h
 obtain ⟨a,b,xs,ys,rfl,rfl,ha,hb,hx,hz,q1,q2⟩:=h
 cases rx
 cases ry
 obtain ⟨its,r1,p1,_⟩:=I.tuple ha
 obtain ⟨its2,r2,p2,_⟩:=I.tuple hb
 refine HT.cat_tup p1 p2 (λ z=>hx (r1.nil_iff.mp z)) (λ z=>⟨.ref a,H,I,rfl,q1 (r2.nil_iff.mp z)⟩) (λ z=>?_) (by rw [<- r1.length,<- r2.length];exact hz)
 refine ⟨.ref s.heap.objs.size,_,I.laid (t':=s.toks) (o:=.tup (xs++ys)) (λ b ob q=>va1 _ q) (jb2 _) ?_,rfl,q2 (λ w=>z (r2.nil_iff.mpr w)) _ (I.hok.fresh (jb2 _))⟩
 exact ⟨by rw [jb4];exact hz,_,r1.append r2,IsTup.new _ _⟩
end
def ixN (n:Nat) (i:Int):Option Nat:=if 0<=i then (if i < n then some i.toNat else none) else if -(n:Int)<=i then some (i + n).toNat else none
def atI {α:Type} (xs:List α) (i:Int):Option α:=(ixN xs.length i).bind λ j=>xs[j]?
theorem qfu {n:Nat}{i:Int}{j:Nat} (h:ixN n i=some j):seqIndex? i n=some j/\j < n/\-(n:Int)<=i/\i < n:=by
 unfold ixN at h
 by_cases h0:0<=i
 ·rw [if_pos h0] at h
  by_cases h1:i < n
  ·rw [if_pos h1] at h
   have e:i.toNat=j:=Option.some.inj h
   exact ⟨by rw [seqIndex_of h0 h1,e],by omega,by omega,h1⟩
  ·rw [if_neg h1] at h;cases h
 ·rw [if_neg h0] at h
  by_cases h1:-(n:Int)<=i
  ·rw [if_pos h1] at h
   have e:(i + n).toNat=j:=Option.some.inj h
   exact ⟨by rw [seqIndex_neg (by omega) h1,e],by omega,h1,by omega⟩
  ·rw [if_neg h1] at h;cases h
theorem qa8 {α:Type}{xs:List α}{i:Int}{v:α} (h:atI xs i=some v):∃ j,seqIndex? i xs.length=some j/\xs[j]?=some v/\j < xs.length/\-(xs.length:Int)<=i/\i < xs.length:=by
 unfold atI at h
 cases e:ixN xs.length i with
 | none=>rw [e] at h;cases h
 | some j=>
  rw [e] at h
  obtain ⟨h1,h2,h3,h4⟩:=qfu e
  exact ⟨j,h1,h,h2,h3,h4⟩
def qba (b:Expr):Prop:=∀ o i,subscripted b false o i=operate [o,i] (getItem o i)
def IxR (X:Cx) (r:R2):Prop:=
 ∀ (value slice:Expr) (pins:List (Addr×Obj)) (s:va3) (σ:St) (H:Hp) (x y:V) (v u:va2) (Q:VK),Inv X pins σ H s->RelV x v->RelV y u->r x y H Q ->
  subscripted slice false v u=operate [v,u] (getItem v u)->vb3 (vb4 X.prog X.w) X.A (vk6 value slice v u) (EP X pins σ Q) X.xe s
def MtR (X:Cx) (id:String) (r:V->List V->Hp->VK->Prop):Prop:=
 ∀ (pins:List (Addr×Obj)) (s:va3) (σ:St) (H:Hp) (x:V) (xs:List V) (v:va2) (us:List va2) (Q:VK),Inv X pins σ H s->RelV x v->Vals xs us->r x xs H Q ->
  vb3 (vb4 X.prog X.w) X.A (call (.builtin id) (v::us)) (EP X pins σ Q) X.xe s
section
variable {X:Cx}{a b:Expr}{ta tb:TE}{pos:Pos}
theorem IxR.or {r r':R2} (h:IxR X r) (h':IxR X r'):IxR X (λ x y H Q=>r x y H Q\/r' x y H Q):=by
 intro value slice pins s σ H x y v u Q I rx ry q hs
 rcases q with q | q
 ·exact h value slice pins s σ H x y v u Q I rx ry q hs
 ·exact h' value slice pins s σ H x y v u Q I rx ry q hs
theorem qot {r:R2} (hr:IxR X r) (ha:PE X a ta) (hb:PE X b tb) (hs:qba b):PE X (.Subscript a b pos) (tOp r ta tb):=by
 intro pins s σ H Q I h
 exact Subscript_ (binT ha hb I h λ v u s2 x y H2 I2 rx ry q=>hr a b pins s2 σ H2 x y v u Q I2 rx ry q (hs _ _))
def rIxL (K:va9):R2:=λ x y H Q=>∃ p xs i v,x=.ref p/\y=.int i/\SqL K H p xs/\atI xs i=some v/\Q v H
def rIxT (K:va9):R2:=λ x y H Q=>∃ p xs i v,x=.ref p/\y=.int i/\SqT K H p xs/\atI xs i=some v/\Q v H
def rIxS:R2:=λ x y H Q=>∃ z i c,x=.str z/\y=.int i/\z.length<=va8/\atI z.cps.toList i=some c/\Q (.str ⟨#[c]⟩) H
theorem qft:IxR X (rIxL X.K):=by
 intro value slice pins s σ H x y v u Q I rx ry h hs
 obtain ⟨p,xs,i,z,rfl,rfl,hq,he,q⟩:=h
 cases rx
 obtain ⟨t,rfl⟩:=ry
 obtain ⟨its,r,pl,hz⟩:=I.list hq
 obtain ⟨j,h1,h2,h3,h4,h5⟩:=qa8 he
 obtain ⟨w,ew,rw'⟩:=r.get h2
 have hl:=r.length
 have hn:=zpz
 have fin:EP X pins σ Q w s:=⟨z,H,I,rw',q⟩
 by_cases h0:0<=i
 ·have hj:i.toNat=j:=by
   rw [seqIndex_of h0 h5] at h1
   exact Option.some.inj h1
  exact item_listR pl.isList h0 (by omega) (by rw [hj];simpa using ew) fin hs
 ·have hj:(i + (its.toArray.size:Int)).toNat=j:=by
   rw [seqIndex_neg (by omega) h4] at h1
   rw [jc0,<- hl]
   exact Option.some.inj h1
  exact subscriptTail_builtinR (x:=w) pl.isList.typeIs slot_list_getitem.lookup
   (wpAny_getItem_list_neg (Q:=λ r s'=>r=w/\EP X pins σ Q r s') pl.isList (by omega) (by rw [jc0] <;> omega) (by omega) (by rw [hj];simpa using ew) ⟨rfl,fin⟩) hs
theorem qpk:IxR X (rIxT X.K):=by
 intro value slice pins s σ H x y v u Q I rx ry h hs
 obtain ⟨p,xs,i,z,rfl,rfl,hq,he,q⟩:=h
 cases rx
 obtain ⟨t,rfl⟩:=ry
 obtain ⟨its,r,pl,hz⟩:=I.tuple hq
 obtain ⟨j,h1,h2,h3,h4,h5⟩:=qa8 he
 obtain ⟨w,ew,rw'⟩:=r.get h2
 have hl:=r.length
 have hn:=zpz
 have fin:EP X pins σ Q w s:=⟨z,H,I,rw',q⟩
 exact subscriptTail_builtinR (x:=w) pl.typeIs slot_tuple_getitem.lookup
  (getItem_tuple (j:=j) (Q:=λ r s'=>r=w/\EP X pins σ Q r s') pl (by omega) (by omega) (by rw [jc0,<- hl];exact h1) (by simpa using ew) ⟨rfl,fin⟩) hs
theorem qpl:IxR X rIxS:=by
 intro value slice pins s σ H x y v u Q I rx ry h hs
 obtain ⟨z,i,c,rfl,rfl,hz,he,q⟩:=h
 obtain ⟨t,rfl⟩:=rx
 obtain ⟨t',rfl⟩:=ry
 obtain ⟨j,h1,h2,h3,h4,h5⟩:=qa8 he
 have hl:z.cps.toList.length=z.length:=by simp [Str.length]
 rw [hl] at h1 h4 h5
 have hn:=zpz
 exact tail_any (typeIs_str s z t) slot_str_getitem.lookup (getItem_str (c:=c) (by
  have e1:decide (i < -(2 ^ 63:Int))=false:=decide_eq_false (by omega)
  have e2:decide (i ≥ 2 ^ 63)=false:=decide_eq_false (by omega)
  rw [e1,e2,Bool.or_false]) (by rw [h1];simpa using h2) ⟨.str ⟨#[c]⟩,H,I.tok _,⟨_,rfl⟩,q⟩) hs
def rIx (K:va9):R2:=λ x y H Q=>rIxL K x y H Q\/rIxT K x y H Q\/rIxS x y H Q
theorem qpm:IxR X (rIx X.K):=qft.or (qpk.or qpl)
theorem qdj (its:List va2) (n j:Nat) (u:va2):vb6 (·.setIfInBounds j u) { cls:=.type "list",data:=.seq its.toArray n }={ cls:=.type "list",data:=.seq (its.set j u).toArray n }:=by
 simp [vb6]
theorem Inv.lst {pins:List (Addr×Obj)}{σ:St}{H:Hp}{s:va3}{p:Addr}{xs:List V} (I:Inv X pins σ H s) (h:H p=some (.lst xs)):
  ∃ (its:List va2) (n:Nat),Vals xs its/\s.heap.get? p=some { cls:=.type "list",data:=.seq its.toArray n }/\xs.length<=va8:=by
 obtain ⟨z,its,n,r,e⟩:=I.hok p _ h
 exact ⟨its,n,r,e,z⟩
theorem Inv.lstUpd {pins:List (Addr×Obj)}{σ:St}{H:Hp}{s:va3}{p:Addr}{xs ys:List V}{its its':List va2}{n n':Nat}{f:Obj->Obj} (I:Inv X pins σ H s) (h:H p=some (.lst xs))
  (ho:s.heap.get? p=some { cls:=.type "list",data:=.seq its.toArray n }) (hf:f { cls:=.type "list",data:=.seq its.toArray n }={ cls:=.type "list",data:=.seq its'.toArray n' }) (r:Vals ys its') (hz:ys.length<=va8) (t:Nat):
  Inv X pins σ (upd H p (.lst ys)) { s with heap:=s.heap.update p f,toks:=t }:=by
 have e:(s.heap.update p f).get? p=some { cls:=.type "list",data:=.seq its'.toArray n' }:=by
  rw [Heap.get?_update_self f ho (by rw [hf] <;> rfl),hf]
 refine I.write (x:=p) (e:=p) (by rw [h];trivial) (.inl rfl) (λ b u hb q=>(Heap.get?_update_other _ _ (vd0 hb)).trans q) ⟨_,e⟩ ?_
 exact ⟨hz,its',n',r,e⟩
def qhw:V->V->V->Hp->(Hp->Prop)->Prop:=λ o i v H Q=>∃ p xs k j,o=.ref p/\i=.int k/\H p=some (.lst xs)/\ixN xs.length k=some j/\Q (upd H p (.lst (xs.set j v)))
theorem zmv:PSet X qhw:=by
 intro pins s σ H o i v ov iv u Q I ro ri rv h
 obtain ⟨p,xs,k,j,rfl,rfl,hp,hj,q⟩:=h
 cases ro
 obtain ⟨t,rfl⟩:=ri
 obtain ⟨its,n,r,ho,hz⟩:=I.lst hp
 obtain ⟨h1,h2,h3,h4⟩:=qfu hj
 have hl:=r.length
 have hn:=zpz
 have I':Inv X pins σ (upd H p (.lst (xs.set j v))) { s with heap:=s.heap.update p (vb6 (·.setIfInBounds j u)) }:=
  I.lstUpd hp ho (qdj its n j u) (r.set rv j) (by rw [jf1];exact hz) s.toks
 by_cases h0:0<=k
 ·have hk:k.toNat=j:=by
   rw [seqIndex_of h0 h4] at h1
   exact Option.some.inj h1
  exact PySem.W.ki_setAt ho h0 (by omega) (by rw [jc0,<- hl];exact h4) (by rw [hk];exact ⟨_,I',q⟩)
 ·have hk:(k + (its.toArray.size:Int)).toNat=j:=by
   rw [seqIndex_neg (by omega) h3] at h1
   rw [jc0,<- hl]
   exact Option.some.inj h1
  exact PySem.W.ki_setBack ho (by omega) (by rw [jc0,<- hl];exact h3) (by omega) (by rw [hk];exact ⟨_,I',q⟩)
theorem zge (lo hi:Option Int) (n:Nat):(vg9 lo hi none n).1=((HT.sIx n 0 lo:Nat):Int)/\(vg9 lo hi none n).2.1=((HT.sIx n n hi:Nat):Int)/\(vg9 lo hi none n).2.2=1:=by
 refine ⟨?_,?_,rfl⟩
 ·cases lo with
  | none=>simp [vg9,HT.sIx]
  | some i=>
   simp only [vg9,HT.sIx,jr0,show (1:Int) > 0 by decide,if_true]
   by_cases h:i < 0
   ·simp only [h,if_true] <;> omega
   ·simp only [h,if_false] <;> omega
 ·cases hi with
  | none=>simp [vg9,HT.sIx]
  | some i=>
   simp only [vg9,HT.sIx,jr0,show (1:Int) > 0 by decide,if_true]
   by_cases h:i < 0
   ·simp only [h,if_true] <;> omega
   ·simp only [h,if_false] <;> omega
theorem zmu (its:List va2) (lo hi:Option Int):slicePick its.toArray lo hi none=((its.drop (HT.sIx its.length 0 lo)).take (HT.sIx its.length its.length hi - HT.sIx its.length 0 lo)).toArray:=by
 obtain ⟨h1,h2,h3⟩:=zge lo hi its.toArray.size
 unfold slicePick
 rw [h1,h2,h3]
 simp only [sliceRange_one,pick_run,jc0] <;> rfl
def rSlL (K:va9):V->Option Int->Option Int->Hp->VK->Prop:=λ x lo hi H Q=>∃ a xs,x=.ref a/\SqL K H a xs/\∀ p,H p=none->Q (.ref p) (upd H p (.lst (cutV xs lo hi)))
theorem qam:SlR X (rSlL X.K):=by
 intro pins s σ H x v vl vu lo hi sl Q I rx hs pl pu h
 obtain ⟨a,xs,rfl,hx,q⟩:=h
 cases rx
 obtain ⟨its,r,ht,hz⟩:=I.list hx
 have hlen:=r.length
 refine ⟨"list",_,slot_list_getitem.lookup,ht.isList.typeIs,?_⟩
 refine wpAny_getItem_list_slice ht.isList hs pl pu .none (by simp) ?_ (by rw [jc0] <;> omega)
 rw [zmu,<- hlen]
 refine ⟨.ref s.heap.objs.size,_,I.laid (t':=s.toks) (o:=.lst (cutV xs lo hi)) (λ b ob q=>va1 _ q) (jb2 _) ?_,rfl,q _ (I.hok.fresh (jb2 _))⟩
 exact ⟨jd5 (zpd xs lo hi) hz,_,0,(r.drop (HT.sIx xs.length 0 lo)).take (HT.sIx xs.length xs.length hi - HT.sIx xs.length 0 lo),va6 _ rfl⟩
theorem zhw:CallR X (.builtin "len") (λ xs H Q=>∃ p ys,xs=[.ref p]/\(SqL X.K H p ys\/SqT X.K H p ys)/\Q (.int ys.length) H):=by
 intro pins s σ H xs us Q I r h
 obtain ⟨p,ys,rfl,hq,q⟩:=h
 obtain ⟨u,rfl,rx⟩:=zyo r
 cases rx
 have hn:=zpz
 rcases hq with hq | hq
 ·obtain ⟨its,r',pl,hz⟩:=I.list hq
  have hlen:=r'.length
  exact Calls.call_len_list pl.isList (by simp only [jc0] <;> omega) ⟨.int ys.length,H,I.tok _,⟨s.toks + 1,by rw [jc0,hlen]⟩,q⟩
 ·obtain ⟨its,r',pl,hz⟩:=I.tuple hq
  have hlen:=r'.length
  exact len_tuple pl (by simp only [jc0] <;> omega) ⟨.int ys.length,H,I.tok _,⟨s.toks + 1,by rw [jc0,hlen]⟩,q⟩
theorem zhv:CallR X (.builtin "len") (λ xs H Q=>∃ z,xs=[.str z]/\z.length<=va8/\Q (.int z.length) H):=by
 intro pins s σ H xs us Q I r h
 obtain ⟨z,rfl,hz,q⟩:=h
 obtain ⟨u,rfl,t,rfl⟩:=zyo r
 have hn:=zpz
 exact len_str (by omega) ⟨.int z.length,H,I.tok _,⟨_,rfl⟩,q⟩
theorem CallR.or {f:va2}{r r':List V->Hp->VK->Prop} (h:CallR X f r) (h':CallR X f r'):CallR X f (λ xs H Q=>r xs H Q\/r' xs H Q):=by
 intro pins s σ H xs us Q I rs q
 rcases q with q | q
 ·exact h pins s σ H xs us Q I rs q
 ·exact h' pins s σ H xs us Q I rs q
theorem zhu:CallR X (.type "list") (λ xs H Q=>∃ p ys,xs=[.ref p]/\(SqL X.K H p ys\/SqT X.K H p ys)/\∀ l,H l=none->Q (.ref l) (upd H l (.lst ys))):=by
 intro pins s σ H xs us Q I r h
 obtain ⟨p,ys,rfl,hq,q⟩:=h
 obtain ⟨u,rfl,rx⟩:=zyo r
 cases rx
 have fin:∀ (its:List va2),Vals ys its->ys.length<=va8->∀ (h':Heap) (c':Nat),(∀ b o',s.heap.get? b=some o'->h'.get? b=some o') ->
   h'.get? s.heap.objs.size=some { cls:=.type "list",dict:=none,data:=.seq its.toArray c',slots:=#[] }->EP X pins σ Q (.ref s.heap.objs.size) { s with heap:=h' }:=λ its r' hz h' c' kp e=>
  ⟨.ref s.heap.objs.size,_,I.laid (t':=s.toks) kp (jb2 _) (show zzd X.prog X.w _ h' _ (.lst ys) from ⟨hz,its,c',r',e⟩),rfl,q _ (I.hok.fresh (jb2 _))⟩
 rcases hq with hq | hq
 ·obtain ⟨its,r',pl,hz⟩:=I.list hq
  have hlen:=r'.length
  obtain ⟨o,ho,hc,n,hd⟩:=pl.isList
  exact call_list_seq p (.inl rfl) ho hc hd (λ h' c' kp e=>fin its r' hz h' c' kp e) (by simp only [jc0] <;> omega)
 ·obtain ⟨its,r',pl,hz⟩:=I.tuple hq
  have hlen:=r'.length
  obtain ⟨o,ho,hc,n,hd⟩:=pl
  exact call_list_seq p (.inr rfl) ho hc hd (λ h' c' kp e=>fin its r' hz h' c' kp e) (by simp only [jc0] <;> omega)
theorem zfs:CallR X (.type "tuple") (λ xs H Q=>∃ p ys,xs=[.ref p]/\((SqL X.K H p ys/\∀ l,H l=none->Q (.ref l) (upd H l (.tup ys)))\/(SqT X.K H p ys/\Q (.ref p) H))):=by
 intro pins s σ H xs us Q I r h
 obtain ⟨p,ys,rfl,h⟩:=h
 obtain ⟨u,rfl,rx⟩:=zyo r
 cases rx
 rcases h with ⟨hq,q⟩ | ⟨hq,q⟩
 ·obtain ⟨its,r',pl,hz⟩:=I.list hq
  have hlen:=r'.length
  refine call_tuple_list pl.isList (λ h' kp=>?_) (by simp only [jc0] <;> omega)
  have I1:Inv X pins σ H { s with heap:=h' }:=I.kept (t':=s.toks) kp
  have I2:Inv X pins σ (upd H h'.objs.size (.tup ys)) { s with heap:=h'.push { cls:=.type "tuple",data:=.seq its.toArray } }:=
   I1.laid (t':=s.toks) (λ b o e=>va1 _ e) (jb2 _) (show zzd X.prog X.w _ _ _ (.tup ys) from ⟨hz,its,r',IsTup.new _ _⟩)
  exact ⟨.ref h'.objs.size,_,I2,rfl,q _ (I1.hok.fresh (jb2 _))⟩
 ·obtain ⟨its,r',pl,hz⟩:=I.tuple hq
  exact call_tuple_same pl ⟨.ref p,H,I,rfl,q⟩
def tyV (K:va9) (T:String) (x:V) (H:Hp):Prop:=match x with
 | .str _=>T = "str"
 | .int _=>T = "int"
 | .ref p=>(T = "list" /\ ∃ xs,SqL K H p xs)\/(T = "tuple" /\ ∃ o,K.lookup p=some o/\o.cls=.type "tuple" /\ o.dict=none) \/
   (T = "dict" /\ ((∃ kvs,H p=some (.dK kvs))\/∃ kvs,H p=some (.dT kvs)))\/(T = "set" /\ ∃ S n,H p=some (.set S n))
 | _=>False
theorem qnf {pins:List (Addr×Obj)}{σ:St}{H:Hp}{s:va3}{T:String}{x:V}{v:va2} (I:Inv X pins σ H s) (r:RelV x v) (ty:tyV X.K T x H):
  s.TypeIs v T/\∀ a,v=.ref a->∃ ob,s.heap.get? a=some ob/\ob.dict=none:=by
 cases x with
 | str z=>
  obtain ⟨t,rfl⟩:=r
  cases (show T = "str" from ty)
  exact ⟨typeIs_str s z t,λ _ e=>nomatch e⟩
 | int i=>
  obtain ⟨t,rfl⟩:=r
  cases (show T = "int" from ty)
  exact ⟨typeIs_int s i t,λ _ e=>nomatch e⟩
 | ref p=>
  cases r
  rcases ty with ⟨rfl,xs,hq⟩ | ⟨rfl,o,hk,hc,hd⟩ | ⟨rfl,hk⟩ | ⟨rfl,S,n,hk⟩
  ·obtain ⟨its,_,pl,_⟩:=I.list hq
   refine ⟨pl.isList.typeIs,λ a e=>?_⟩
   cases e
   obtain ⟨o,n,e,c,hd,_⟩:=pl
   exact ⟨o,e,hd⟩
  ·refine ⟨⟨o,I.kIn p o hk,hc⟩,λ a e=>?_⟩
   cases e
   exact ⟨o,I.kIn _ o hk,hd⟩
  ·have z:∃ o,s.heap.get? p=some o/\o.ExactDict:=by
    rcases hk with ⟨kvs,hk⟩ | ⟨kvs,hk⟩
    ·obtain ⟨_,_,_,_,o,_,_,e,ex,_⟩:=I.hok p _ hk
     exact ⟨o,e,ex⟩
    ·obtain ⟨_,_,_,_,o,_,_,e,ex,_⟩:=I.hok p _ hk
     exact ⟨o,e,ex⟩
   obtain ⟨o,e,ex⟩:=z
   refine ⟨⟨o,e,ex.1⟩,λ a e2=>?_⟩
   cases e2
   exact ⟨o,e,ex.2.1⟩
  ·obtain ⟨o,_,_,_,e,ex,_⟩:=I.hok p _ hk
   refine ⟨⟨o,e,ex.1⟩,λ a e2=>?_⟩
   cases e2
   exact ⟨o,e,ex.2.1⟩
 | _=>exact vf7 ty
def tBM (K:va9) (T:String) (r:V->List V->Hp->VK->Prop) (to:TE) (t:TA):TE:=λ σ H Q=>to σ H λ x H1=>tyV K T x H1/\t σ H1 λ xs H2=>r x xs H2 Q
variable {o e:Expr}{es:List Expr}{to:TE}{t:TA}{name:Str}{apos cpos:Pos}{T id:String}{r:V->List V->Hp->VK->Prop}
theorem qqm (pa:PlainAttrs T) (slot:Slot T name id) (hty:typeOf (.builtin id)=pure (.type "method_descriptor")) (hm:MtR X id r) (ho:PE X o to) (ha:PA X (e::es) t)
  (hbase:attributeBase o name X.env (eval o X.env)=eval o X.env:=by rfl)
  (hfew:((vg1 cpos (va7 (e::es) X.env)).all (λ x=>!x.1) && (backToKw cpos (keywordEach [] X.env)).all (λ x=>x.1.isSome)
   && decide ((e::es).length + ([]:List Keyword).length + (if ([]:List Keyword).isEmpty then 0 else 1) < 30))=true:=by rfl)
  (hline:(apos.endLine == cpos.line)=true:=by rfl) (hs:va7 (e::es) X.env=(false,eval e X.env)::va7 es X.env:=by rfl) (hplain:(vg1 cpos (va7 es X.env)).any (·.1)=false:=by rfl):
  PE X (.Call (.Attribute o name apos) (e::es) [] cpos) (tBM X.K T r to t):=by
 intro pins s σ H Q I h
 refine wpAny_Call_method_late hbase hfew hline rfl (thn (ho pins s σ H _ I h) λ v s1 ⟨x,H1,I1,r1,ty,q1⟩=>?_)
 obtain ⟨h1,h2⟩:=qnf I1 r1 ty
 refine ⟨T,id,pa,slot,hty,h1,h2,?_⟩
 have hA:=ha cpos pins s1 σ H1 _ I1 q1
 rw [hs] at hA ⊢
 refine Calls.callWith_builtin (by show (false || (vg1 cpos (va7 es X.env)).any (·.1))=false;rw [hplain] <;> rfl) (Calls.evalArgs_plain ?_)
 exact thn hA λ us s2 ⟨vs,H2,I2,r2,q2⟩=>hm pins s2 σ H2 x vs v us Q I2 r1 r2 q2
end
def MtM (X:Cx) (id:String) (r:V->List V->Hp->VK->Prop):Prop:=
 ∀ (pins:List (Addr×Obj)) (s:va3) (σ:St) (H:Hp) (x:V) (xs:List V) (v:va2) (us:List va2) (Q:VK),Inv X pins σ H s->RelV x v->Vals xs us->r x xs H Q ->
  vb3 (vb4 X.prog X.w) X.A (call (.builtin id) (v::us)) (EP X pins σ Q) X.xe s
theorem Vals.one:∀ {x:V}{us:List va2},Vals [x] us->∃ u,us=[u]/\RelV x u
 | _,_,.cons r .nil=>⟨_,rfl,r⟩
theorem Vals.rep {xs:List V}{us:List va2} (h:Vals xs us):∀ k:Nat,Vals (jb1 k xs).flatten (jb1 k us).flatten
 | 0=>.nil
 | k + 1=>by
  rw [jf8,jf8,ji2,ji2]
  exact Vals.append h (Vals.rep h k)
theorem zhd (its:List va2):∀ (k:Nat) (acc:List va2),
  jt0 (λ x1 x2=>x1++x2) acc.toArray (jb1 k its.toArray)=(acc++(jb1 k its).flatten).toArray
 | 0,acc=>by simp
 | k + 1,acc=>by
  have e:acc.toArray++its.toArray=(acc++its).toArray:=by simp
  have e2:(acc++its)++(jb1 k its).flatten=acc++(jb1 (k + 1) its).flatten:=by
   rw [jf8,ji2,jk3]
  rw [<- e2,<- zhd its k (acc++its),<- e,jf8,js1]
section
variable {X:Cx}{pins:List (Addr×Obj)}{σ:St}{H:Hp}{s:va3}{l b:Addr}{xs ys zs:List V}
theorem Inv.lset {its its':List va2}{n:Nat}{f:Array va2->Array va2}{t':Nat} (I:Inv X pins σ H s) (hH:H l=some (.lst xs))
  (e:s.heap.get? l=some { cls:=.type "list",data:=.seq its.toArray n }) (hf:f its.toArray=its'.toArray) (hv:Vals ys its') (hz:ys.length<=va8):
  Inv X pins σ (upd H l (.lst ys)) { s with heap:=s.heap.update l (vb6 f),toks:=t' }:=by
 have q:=PySem.IsL.update e f
 rw [hf] at q
 refine I.write (x:=l) (e:=l) (by rw [hH];exact trivial) (.inl rfl) (λ b' u hb hu=>(Heap.get?_update_other s.heap (vb6 f) (vd0 hb)).trans hu) ⟨_,q⟩ ?_
 exact ⟨hz,its',_,hv,q⟩
theorem Inv.lnew {its:List va2}{t':Nat} (I:Inv X pins σ H s) (hv:Vals ys its) (hz:ys.length<=va8):
  Inv X pins σ (upd H s.heap.objs.size (.lst ys)) { s with heap:=s.heap.push { cls:=.type "list",data:=.seq its.toArray },toks:=t' }:=
 I.laid (λ _ _ q=>va1 _ q) (jb2 _) ⟨hz,its,0,hv,va6 _ rfl⟩
theorem Inv.fresh (I:Inv X pins σ H s):H s.heap.objs.size=none:=I.hok.fresh (jb2 _)
theorem Inv.lstM (I:Inv X pins σ H s) (hH:H l=some (.lst xs)):xs.length<=va8/\∃ (its:List va2) (n:Nat),Vals xs its/\xs.length=its.length/\s.heap.get? l=some { cls:=.type "list",data:=.seq its.toArray n }:=by
 obtain ⟨z,its,n,r,e⟩:=I.hok l _ hH
 exact ⟨z,its,n,r,r.length,e⟩
theorem qia {n:Nat} (h:n<=va8):vi2 n=false:=by
 unfold vi2
 exact decide_eq_false (by omega)
end
section
variable {X:Cx}
def qen:V->List V->Hp->VK->Prop:=λ x vs H Q=>∃ l xs y,x=.ref l/\vs=[y]/\H l=some (.lst xs)/\xs.length < va8/\Q .non (upd H l (.lst (xs++[y])))
theorem zgt:MtM X "list.append" qen:=by
 intro pins s σ H x vs v us Q I rx rv h
 obtain ⟨l,xs,y,rfl,rfl,hH,hz,q⟩:=h
 cases rx
 obtain ⟨u,rfl,ru⟩:=rv.one
 obtain ⟨z,its,n,r,hl,e⟩:=I.lstM hH
 refine call_meets F.slot_list_append ⟨_,e,rfl⟩ F.entry_list_append (F.args_list_append_2 _ _) (PySem.list_append l its.toArray n u (by rw [jc0];omega)) ⟨e,?_⟩
 refine ⟨.non,_,I.lset (its':=its++[u]) hH e (by simp) (r.append (.cons ru .nil)) ?_,rfl,q⟩
 rw [jb4,jg4]
 omega
def rCat:R2:=λ x y H Q=>∃ l b xs zs,x=.ref l/\y=.ref b/\H l=some (.lst xs)/\H b=some (.lst zs)/\xs.length + zs.length<=va8/\∀ p,H p=none->Q (.ref p) (upd H p (.lst (xs++zs)))
theorem qjy:OpR X (vg0 .Add) rCat:=by
 intro pins s σ H x y v u Q I rx ry h
 obtain ⟨l,b,xs,zs,rfl,rfl,hH,hB,hz,q⟩:=h
 cases rx
 cases ry
 obtain ⟨z,its,n,r,hl,e⟩:=I.lstM hH
 obtain ⟨z2,its2,n2,r2,hl2,e2⟩:=I.lstM hB
 refine PySem.P.add_list e e2 ?_ (by rw [jc0,jc0];omega)
 have ea:its.toArray++its2.toArray=(its++its2).toArray:=by simp
 rw [ea]
 exact ⟨.ref _,_,I.lnew (t':=s.toks) (r.append r2) (by rw [jb4];omega),rfl,q _ I.fresh⟩
def rRep:R2:=λ x y H Q=>∃ l k xs,x=.ref l/\y=.int k/\H l=some (.lst xs)/\-(2 ^ 63)<=k/\k < 2 ^ 63/\xs.length * k.toNat<=va8 /\
 ∀ p,H p=none->Q (.ref p) (upd H p (.lst (jb1 k.toNat xs).flatten))
theorem qmd {α:Type} (xs:List α) (k:Nat):(jb1 k xs).flatten.length=k * xs.length:=by
 induction k with
 | zero=>simp
 | succ k ih=>rw [jf8,ji2,jb4,ih,jo0,Nat.add_comm]
theorem qox:OpR X (vg0 .Mult) rRep:=by
 intro pins s σ H x y v u Q I rx ry h
 obtain ⟨l,k,xs,rfl,rfl,hH,h1,h2,hz,q⟩:=h
 cases rx
 obtain ⟨t,rfl⟩:=ry
 obtain ⟨z,its,n,r,hl,e⟩:=I.lstM hH
 have hlen:its.toArray.size * k.toNat<=va8:=by rw [jc0,<- hl];exact hz
 have hcap:¬ its.toArray.size * k.toNat > (2 ^ 63 - 1) / 8:=by
  have:(va8:Nat)<=(2 ^ 63 - 1) / 8:=by decide
  omega
 have hfit:¬ (!Builtin.List.listFitsIndex k)=true:=by
  rw [fitsIndex_both h1 h2]
  exact jb6
 have hlong:¬ vi2 (its.toArray.size * k.toNat)=true:=by
  rw [qia hlen]
  exact jb6
 have hnew:jt0 (λ x1 x2=>x1++x2) #[] (jb1 (if its.toArray.isEmpty=true then 0 else k.toNat) its.toArray)=(jb1 k.toNat its).flatten.toArray:=by
  have f0:∀ m:Nat,jt0 (λ x1 x2=>x1++x2) #[] (jb1 m its.toArray)=(jb1 m its).flatten.toArray:=λ m=>by
   have:=zhd its m []
   rw [ji3] at this
   exact this
  rw [f0]
  cases its with
  | nil=>simp
  | cons a r'=>rw [if_neg (by simp)]
 refine wpAny_binaryOp_repeat_ref (T := "list") (U := "int") (by decide) ⟨_,e,rfl⟩ (λ s'=>typeIs_int s' k t) noFill_list_mul F.fills_int_mul F.slot_int_rmul repeat_list F.slot_int_index.lookup
  (call_meets F.slot_int_rmul (typeIs_int s k t) F.entry_int_rmul (F.args_int_rmul_2 _ _) (int___rmul___int_list k t l its.toArray n)
   ⟨e,rfl,⟨_,e,rfl⟩,call_meets F.slot_list_mul ⟨_,e,rfl⟩ F.entry_list_mul (F.args_list_mul_2 _ _) (AutoListH.list___mul___list_int_3 l its.toArray n k t hfit hcap hlong) ⟨e,?_⟩⟩)
 rw [hnew]
 exact ⟨.ref _,_,I.lnew (t':=s.toks) (r.rep k.toNat) (by rw [qmd,jf5];exact hz),rfl,q _ I.fresh⟩
end
section
variable {prog:vb0}{w:vc1}{A:vc0}{E:va2->va3->Prop}{s:va3}
end
section
variable {X:Cx}
end
end L2
namespace Att
open PySem PySem.W PySem.Calls PyProof.Rows
theorem zby {P:Params}{h:Heap}:∀ (ns:List Int) (vs:List va2),WellAll P h vs (ns.map WData.int)->vh2 vs ns:=by
 intro ns
 induction ns with
 | nil=>
  intro vs w
  rw [jf0] at w
  cases w
  exact .nil
 | cons n ns ih=>
  intro vs w
  rw [jb7] at w
  cases w with
  | cons a b=>
   cases a
   exact .cons _ _ (ih _ b)
theorem qeh {l:OpenLaw}{n:Nat} (hn:l.most=some n) {P:Params}{h:Heap}{args:List WData}{vals:List va2}
  (hpre:l.row.toRowW.claim.pre args=true) (hwl:WellAll P h vals args):
  ∃ a vs ns,vals=[Value.ref a]/\args=[WData.list (ns.map WData.int)]/\h.get? a=some { cls:=.type "list",data:=.seq vs.toArray }/\vh2 vs ns/\ns.length<=n:=by
 have hsh:WShape.hasAll [] args [.list .int]=true:=(pre_splitW hpre).1
 have hc:l.pre.holds [] { args:=args }=true:=(pre_splitW hpre).2
 obtain ⟨d,r,rfl,h1,h2⟩:=hasAllW_cons hsh
 obtain rfl:=hasAllW_nil h2
 obtain ⟨xs,rfl,h3⟩:=hasW_list h1
 obtain ⟨ns,rfl⟩:=items_int h3
 have hlen:ns.length<=n:=by
  unfold OpenLaw.pre at hc
  have h4:(WTm.not (.lt (.lit (.int (n:Int))) (.len (.arg 0)))).holds [] { args:=[.list (ns.map .int)] }=true:=by
   have h4:=(holds_andW hc).1
   rw [hn] at h4
   exact h4
  have h5:=condW_of h4 (w_not (w_lt w_lit (w_len_list (w_arg rfl))))
  rw [ja3] at h5
  refine Nat.le_of_not_lt λ q=>?_
  have q':(n:Int) < ((ns.length:Nat):Int):=by omega
  first
   | (rw [decide_eq_true q'] at h5;exact absurd h5 (by decide))
   | (simp at h5;omega)
 cases hwl with
 | cons w1 w2=>
  cases w2
  cases w1 with
  | list ho hall=>exact ⟨_,_,ns,rfl,rfl,ho,zby ns _ hall,hlen⟩
theorem qeu (l:OpenLaw) (args:List WData):l.row.toRowW.claim.post args (.bool true) args=true:=
 postW_of (r:=l.row.toRowW) (X:=(true == true))
  (show WShape.has [] (.bool true) .bool=true by first | rfl | decide | simp [WShape.has,WShape.arms,WShape.armsAll])
  (show (WTm.eq .res (.lit (.bool true))).value [] { args:=args,res:=some (.bool true),after:=args }=some (.bool (true == true)) from w_eq_bool (w_res rfl) w_lit) rfl
theorem attach_call {l:OpenLaw}{n:Nat}{q:vb0}{loose:List Str}{XP:(Str->Option va2)->Heap->Prop}{YP:vc1->Heap->Prop}{d:DefRec}
  (hn:l.most=some n) (hdf:d.params.defaults=[])
  (call:∀ (w:vc1) (s₀ s₁:va3) (mg mb:Str->Option va2) (fa:Addr) (o:Obj) (pm cd doc:va2) (a:Addr) (vs:List va2) (ns:List Int),
   Ground q loose [] XP w s₀ mg mb s₁.heap->YP w s₁.heap ->
   s₁.heap.get? fa=some o->o.data=.func (docDef d.name d.params d.body d.scope pm cd doc)->s₁.heap.CodeRec cd d.name->mg d.name=some (.ref fa) ->
   s₁.heap.get? a=some { cls:=.type "list",data:=.seq vs.toArray }->vh2 vs ns->ns.length<=n->s₁.gens=#[] ->
   vl1 (vb4 l.prog w) vn2 (.call (.ref fa) ⟨[.ref a],[]⟩) (λ r s'=>r=.ok (.ret (.bool true))/\OldK s₁.heap s'.heap/\s'.os=s₁.os/\vi6 s'.gens) s₁):
  WalkO q loose XP YP l.row.toRowW d [] (λ f vs=>PySem.call f vs):=by
 intro w s₀ s₁ mg mb G Y fa o pm cd doc dV kV ho hd hcd hD hmg hg args vals as hpre hlay hrd hwl hlo
 obtain rfl:dV=.none:=Dflts.none hD hdf
 obtain rfl:kV=.none:=Dflts.noKw hD
 obtain ⟨a,vs,ns,rfl,rfl,hobj,hints,hlen⟩:=qeh hn hpre hwl
 refine enter_call (codeAny_mono (call w s₀ s₁ mg mb fa o pm cd doc a vs ns G Y ho (fd_plain hd) hcd hmg hobj hints hlen hg) λ r s' hq=>?_)
 obtain ⟨rfl,h2,h3,h4⟩:=hq
 exact ⟨.inl ⟨.bool true,.bool true,[],rfl,λ _=>rfl,.bool true,qeu l _,λ _=>⟨List.Pairwise.nil,λ _ hm=>(nomatch hm)⟩⟩,h2,h3,h4⟩
section
variable {prog:vb0}{w:vc1}{A:vc0}{E:va2->va3->Prop}{s:va3}{K:Frag}
end
end Att
namespace L2
open PySem PySem.Spec PyProof.Rows
theorem zfz:∀ {vs:List va2}{ns:List Int},vh2 vs ns->Vals (ns.map V.int) vs
 | _,_,.nil=>.nil
 | _,_,.cons n t h=>.cons ⟨t,rfl⟩ (zfz h)
def Only (H:Hp):Prop:=∀ b,H b=none\/∃ o xs,H b=some (.frz o (.lst xs))
theorem qie {P:vb0}{w:vc1}{K:va9}{mg mb:Str->Option va2}{CX:CXT}{k:Nat}{fa a:Addr}{fd:vd6}{x:Str}{sp:Sp}{s₁:va3}{vs:List va2}{ns:List Int}
  (KX:K.In s₁.heap) (hns:s₁.heap.Ns vd3 mg) (hb:s₁.heap.Ns builtinsNs mb) (hbb:∀ x:Str,x ≠ "__name__" -> mb x=vg3 x) (hlim:s₁.heap.NoLimit) (hg:s₁.gens=#[])
  (ha:s₁.heap.get? a=some { cls:=.type "list",data:=.seq vs.toArray }) (hi:vh2 vs ns) (hl:ns.length<=va8) (hr:Room k vn2)
  (F:∀ base:Heap,K.In base->base.Ns vd3 mg->FnOk P w K mg base CX k fa fd [x] sp) (hbind:∀ (s:va3) (u:va2),BindsTo s fd ⟨[u],[]⟩ [(x,u)])
  (hsp:∀ H:Hp,Only H->SqL K H a (ns.map V.int)->sp [.ref a] H (λ v _=>v=.bl true) λ _ _ _=>False)
  (hCX:∀ H e s',CX [] H s₁ (λ _ _ _=>False) e s'->False):
  vl1 (vb4 P w) vn2 (.call (.ref fa) ⟨[.ref a],[]⟩) (λ r s'=>r=.ok (.ret (.bool true))/\OldK s₁.heap s'.heap/\s'.os=s₁.os/\vi6 s'.gens) s₁:=by
 have rv:=zfz hi
 have lenV:=hi.length
 have core:∀ H:Hp,Only H->SqL K H a (ns.map V.int)->HOk P w H s₁.heap->(∀ b,H b≠none->b=a)->(H a≠none->K.lookup a=none) ->
   vl1 (vb4 P w) vn2 (.call (.ref fa) ⟨[.ref a],[]⟩) (λ r s'=>r=.ok (.ret (.bool true))/\OldK s₁.heap s'.heap/\s'.os=s₁.os/\vi6 s'.gens) s₁:=by
  intro H hO hS hok hA hK
  have base_of:∀ {b:Addr}{o:Obj},s₁.heap.get? b=some o->H b=none->(hidT s₁.heap H).get? b=some o:=λ e n=>qii e n
  have noA:∀ {b:Addr}{o:Obj}{es:Array DictEntry}{ep:Nat},s₁.heap.get? b=some o->o.data=.dict es ep->H b=none:=λ {b o es ep} e d=>by
   cases q:H b with
   | none=>rfl
   | some u=>
    have e':b=a:=hA b (by rw [q];simp)
    subst e'
    rw [ha] at e;cases e
    have d':Data.seq vs.toArray _=Data.dict es ep:=d
    cases d'
  have nsK:∀ {b:Addr}{m:Str->Option va2},s₁.heap.Ns b m->(hidT s₁.heap H).Ns b m:=λ {b m} ⟨o,es,ep,e,d,r⟩=>⟨o,es,ep,base_of e (noA e d),d,r⟩
  have hKb:K.In (hidT s₁.heap H):=λ b o e=>base_of (KX b o e) (by
   cases q:H b with
   | none=>rfl
   | some u=>
    have e':b=a:=hA b (by rw [q];simp)
    subst e'
    rw [hK (by rw [q];simp)] at e;cases e)
  have hM:Mod K mg (hidT s₁.heap H):=⟨hKb,nsK hns,⟨mb,nsK hb,hbb⟩,let ⟨mc,h1,h2⟩:=hlim;⟨mc,nsK h1,h2⟩⟩
  have e0:Env0 P w K mg (hidT s₁.heap H) vn2 [] s₁ H:=⟨rfl,hM,λ b o e=>ql6 e,jq6 (qf4 _ _),trivial,λ b hb=>absurd (show b∈([]:List Addr) from hb) (by simp),hok,.of_eq hg⟩
  refine codeAny_mono ((F _ hKb (nsK hns)).run vn2 [] s₁ H ⟨[.ref a],[]⟩ [.ref a] [.ref a] _ _ hr e0 (hbind s₁ (.ref a)) (.cons rfl .nil) (hsp H hO hS)) λ r s' h=>?_
  cases r with
  | error e=>exact (hCX H e s' h).elim
  | ok fl=>
   cases fl with
   | next=>exact vf7 h
   | brk=>exact vf7 h
   | cont=>exact vf7 h
   | ret u=>
    obtain ⟨v,H',os,bare,un,hok',r',q⟩:=h
    have q':v=.bl true:=q
    subst q'
    obtain rfl:u=Value.bool true:=r'
    refine ⟨rfl,OldK.of_keep λ b o e=>?_,os,bare⟩
    cases q:H b with
    | none=>exact un.keep b o e q (by intro z;exact absurd (show b∈([]:List Addr) from z) (by simp)) (by simp)
    | some u=>
     rcases hO b with z | ⟨ob,xs,z⟩
     ·rw [q] at z;cases z
     ·have z2:=un.frzs b ob _ z
      obtain ⟨e1,_⟩:=hok b _ z
      obtain ⟨e2,_⟩:=hok' b _ z2
      rw [e] at e1;cases e1
      exact e2
 cases hk:K.lookup a with
 | some o=>
  have e:=KX a o hk
  rw [ha] at e
  cases e
  refine core (λ _=>none) (λ _=>.inl rfl) (.inr ⟨_,vs.toArray,_,hk,rfl,rfl,rfl,by rw [jc0,lenV];exact hl,by simpa using rv⟩) (λ b u z=>by have z':(none:Option HO)=some u:=z;cases z') (λ b z=>absurd rfl z) λ z=>absurd rfl z
 | none=>
  refine core (λ b=>if b=a then some (.frz { cls:=.type "list",data:=.seq vs.toArray } (.lst (ns.map V.int))) else none) (λ b=>?_) (.inl (.inr ⟨{ cls:=.type "list",data:=.seq vs.toArray },if_pos rfl⟩)) (λ b u z=>?_) (λ b z=>?_) λ _=>hk
  ·by_cases hb:b=a
   ·exact .inr ⟨_,_,if_pos hb⟩
   ·exact .inl (if_neg hb)
  ·by_cases hb:b=a
   ·have z':=(if_pos hb).symm.trans z
    cases z'
    subst hb
    exact ⟨ha,by rw [ja3];exact hl,vs,_,rv,ha⟩
   ·have z':=(if_neg hb).symm.trans z
    cases z'
  ·by_cases hb:b=a
   ·exact hb
   ·exact absurd (if_neg hb) z
structure Fun (K:va9) (x qual:Str) (st:Stmt) (f:Addr) (fd:vd6):Prop where
 ex:∃ (oc:va2) (od:Option Addr) (kV doc pm:va2) (an:Option Addr) (cdv ct:va2) (osl:Array (Option va2)),
  fd=vh7 x qual (zpc st) (zql st) (zqc st) .none kV doc pm an cdv ct/\K.lookup f=some ⟨oc,od,.func fd,osl⟩/\vo5 K cdv qual=true
 kp:vf3 K (.ref f)=true
section
variable {P:vb0}{w:vc1}{K:va9}{mg:Str->Option va2}{base:Heap}
theorem Fun.binds {x qual:Str}{st:Stmt}{f:Addr}{fd:vd6}{ps:List Str} (F:Fun K x qual st f fd)
  (h:∀ (kV doc pm:va2) (an:Option Addr) (cdv ct:va2) (us:List va2),us.length=ps.length->bindArgs (vh7 x qual (zpc st) (zql st) (zqc st) .none kV doc pm an cdv ct) ⟨us,[]⟩=pure (ps.zip us)):qad K fd ps []:=by
 obtain ⟨oc,od,kV,doc,pm,an,cdv,ct,osl,rfl,lk,hcd⟩:=F.ex
 exact .all (h kV doc pm an cdv ct)
theorem qpr {x qual:Str}{st:Stmt}{f:Addr}{oc:va2}{od an:Option Addr}{osl:Array (Option va2)}{kV doc pm cdv ct:va2} (l:K.lookup f=some ⟨oc,od,.func (vh7 x qual (zpc st) (zql st) (zqc st) .none kV doc pm an cdv ct),osl⟩)
  (c:vo5 K cdv qual=true) (k:vf3 K (.ref f)=true):Fun K x qual st f (vh7 x qual (zpc st) (zql st) (zqc st) .none kV doc pm an cdv ct):=⟨⟨oc,od,kV,doc,pm,an,cdv,ct,osl,rfl,l,c⟩,k⟩
end
section
variable {X:Cx}
end
section
variable {κ:Type} [DecidableEq κ]
end
section
variable {P:vb0}{w:vc1}{H:Hp}{h:Heap}{a:Addr}
theorem qqf {u:HO} (ok:HOk P w H h) (e:Rd H a u):zzd P w H h a u:=e.ok ok
theorem qqy {kvs:List (Key×V)} (ok:HOk P w H h) (e:Rd H a (.dK kvs)):kvs.length<=va8/\(a == vj5)=false/\∃ vs,KV kvs vs/\h.DictOf (zkg P w) a vs:=
 show zzd P w H h a (.dK kvs) from qqf ok e
theorem qis {kvs:List (Key×V)} (ok:HOk P w H h) (e:H a=some (.dK kvs)):kvs.length<=va8/\(a == vj5)=false/\∃ vs,KV kvs vs/\h.DictOf (zkg P w) a vs:=qqy ok (.inl e)
end
section
variable {X:Cx}{pins:List (Addr×Obj)}{σ:St}{H:Hp}{s:va3}{a:Addr}{y v:V}{u r:va2}{o:Option V}{A:vc0}{E:va2->va3->Prop}
theorem Inv.big (I:Inv X pins σ H s):vj5 < s.heap.objs.size:=by
 have h:vd3 < s.heap.objs.size:=(I.mod.glob.keeps I.bk).lt
 exact Nat.lt_trans (by decide) h
end
section
variable {X:Cx}{pins:List (Addr×Obj)}{σ:St}{H:Hp}{s:va3}{a:Addr}{kvs:List (Key×V)}{k:Key}{u:va2}{A:vc0}{E:va2->va3->Prop}
end
section
variable {X:Cx}{o i e value:Expr}{pos pos' tpos:Pos}{td ty tv:TE}
end
theorem qir {P:vb0}{w:vc1}{H:Hp} (h:Heap) (hb:vj5 < h.objs.size):zzd P w H (h.push { cls:=.type "dict",data:=.dict #[] }) h.objs.size (.dT []):=
 ⟨ji5 _,beq_eq_false_iff_ne.mpr (vd0 (jc6 hb)),[],.nil,_,#[],0,va6 _ rfl,⟨rfl,rfl,rfl⟩,rfl,rfl,jo7⟩
def qnx:TE:=λ _ H Q=>∀ p,H p=none->Q (.ref p) (upd H p (.dT []))
section
variable {X:Cx}{pos:Pos}
theorem qh3:PE X (.Dict [] [] pos) qnx:=λ pins s σ H Q I h=>
 wpAny_Dict_empty ⟨.ref s.heap.objs.size,_,I.laid (a:=s.heap.objs.size) (o:=.dT []) (t':=s.toks) (λ _ _ q=>va1 _ q) (jb2 _) (qir s.heap I.big),rfl,h _ (I.hok.fresh (jb2 _))⟩
end
end L2
namespace QQ
open PySem PySem.Spec PyProof.Rows L2
abbrev St:=L2.St
def KL (K:Frag) (a:Addr) (xs:List V):Prop:=∃ (o:Obj) (its:Array va2) (n:Nat),K.lookup a=some o/\o.cls=.type "list" /\ o.dict=none/\o.data=.seq its n/\its.size<=va8/\Vals xs its.toList
theorem qkn {K:Frag}{H:Hp}{a:Addr}{xs:List V} (h:SqL K H a xs):tyV K "list" (.ref a) H:=.inl ⟨rfl,xs,h⟩
def ItS (z:Str):It:=⟨λ i _=>i < z.cps.size,λ i H v H'=>H'=H/\∃ c,z.cps[i]?=some c/\v=.str ⟨#[c]⟩,λ i _=>z.cps.size<=i⟩
def qc0 (z:Str):Bool:=z.cps.all (·< 128)
def iSeq (K:Frag) (tl:TE):TI:=λ σ H R=>tl σ H λ x H1=>(∃ a,x=.ref a/\(((∃ xs,SqL K H1 a xs)/\R (Itl K a) H1)\/((∃ xs,SqT K H1 a xs)/\R (Itt K a) H1)))\/∃ z,x=.str z/\qc0 z=true/\R (ItS z) H1
def qai (k:Nat) (wi:TI) (g:TG) (tc:TT) (te:TE):TE:=λ σ H Q=>wi σ H λ J H1=>∀ D,H1 D=none->∃ W:Nat->Nat->List V->Hp->Prop,(∃ m,W 0 m [] (upd H1 D (.lst [])))/\∀ i m ys H,W i m ys H->H D=some (.lst ys) /\
 ((J.stop i H/\Q (.ref D) H)\/(J.go i H/\∀ x H',J.yld i H x H'->g x (σ++jb1 k none) H' λ σ2 H2=>tc σ2 H2 λ b H3=>if b=true then te σ2 H3 λ y H4=>H4 D=some (.lst ys)/\ys.length < va8/\∃ m',m' < m/\W (i + 1) m' (ys++[y]) (upd H4 D (.lst (ys++[y]))) else ∃ m',m' < m/\W (i + 1) m' ys H3))
inductive PV where
 | non | bl (b:Bool) | int (i:Int) | str (x:Str) | lst (xs:List PV) | tup (xs:List PV) | emp | dko | scr (ns:List Int) | dct (kvs:List (List Key×V)) | exn (c:Nat)
 deriving Inhabited
inductive MO where
 | l (xs:List V) | d (kvs:List (List Key×V))
def MO.ho:MO->HO
 | .l xs=>.lst xs
 | .d kvs=>.dT kvs
def qg5 (a C:Addr) (h:Heap):Prop:=∃ o vs,h.get? a=some o/\o.cls=.ref C/\o.data=.fields vs
def om:Nat:=1000
def pd (d:Nat):Nat:=if d=om then om else d - 1
theorem zfa:pd om=om:=rfl
theorem qau:pd 0=0:=rfl
mutual
def Own (K:Frag) (H:Hp) (Z:Addr->Prop):PV->Nat->V->List Addr->Prop
 | .non,_,v,fp=>v=.non/\fp=[]
 | .bl b,_,v,fp=>v=.bl b/\fp=[]
 | .int i,_,v,fp=>v=.int i/\fp=[]
 | .str x,_,v,fp=>v=.str x/\fp=[]
 | .emp,_,v,fp=>fp=[]/\∃ a,v=.ref a/\H a=some (.dK [])
 | .dko,_,v,fp=>fp=[]/\∃ a,v=.ref a/\∃ kvs,H a=some (.dK kvs)
 | .scr ns,_,v,fp=>fp=[]/\∃ a,v=.ref a/\((∃ o,H a=some (.frz o (.lst (ns.map V.int))))\/KL K a (ns.map V.int))
 | .exn c,_,v,fp=>fp=[]/\∃ a C,v=.ref a/\zvl K c=some C/\H a=some (.ext (qg5 a C))
 | .dct kvs,d,v,fp=>∃ a,v=.ref a/\((d=0/\(H a=some (.dT kvs)/\¬ Z a)/\fp=[])\/(d≠0/\H a=some (.dT kvs)/\fp=[a]))
 | .lst xs,d,v,fp=>∃ a vs,v=.ref a/\((d=0/\(H a=some (.lst vs)/\¬ Z a)/\fp=[]/\OwnL K H Z xs 0 vs [])\/(d≠0/\∃ f,H a=some (.lst vs)/\fp=a::f/\a∉f/\OwnL K H Z xs (pd d) vs f))
 | .tup xs,d,v,fp=>∃ a vs,v=.ref a/\H a=some (.tup vs)/\OwnL K H Z xs (pd d) vs fp
def OwnL (K:Frag) (H:Hp) (Z:Addr->Prop):List PV->Nat->List V->List Addr->Prop
 | [],_,vs,fp=>vs=[]/\fp=[]
 | x::xs,d,vs,fp=>∃ v r f1 f2,vs=v::r/\fp=f1++f2/\(∀ a∈f1,a∉f2)/\Own K H Z x d v f1/\OwnL K H Z xs d r f2
end
def Keep (S:Addr->Prop) (H H':Hp):Prop:=∀ a o,H a=some o->¬ S a->H' a=some o
section
variable {K:Frag}{H H':Hp}{Z Z' S:Addr->Prop}
mutual
theorem Own.lsts:∀ (x:PV) (d:Nat) (v:V) (fp:List Addr),Own K H Z x d v fp->∀ a∈fp,∃ o:MO,H a=some o.ho
 | .non,_,_,_,h,a,ha=>by rw [Own] at h;rw [h.2] at ha;cases ha
 | .bl _,_,_,_,h,a,ha=>by rw [Own] at h;rw [h.2] at ha;cases ha
 | .int _,_,_,_,h,a,ha=>by rw [Own] at h;rw [h.2] at ha;cases ha
 | .str _,_,_,_,h,a,ha=>by rw [Own] at h;rw [h.2] at ha;cases ha
 | .emp,_,_,_,h,a,ha=>by rw [Own] at h;rw [h.1] at ha;cases ha
 | .dko,_,_,_,h,a,ha=>by rw [Own] at h;rw [h.1] at ha;cases ha
 | .scr _,_,_,_,h,a,ha=>by rw [Own] at h;rw [h.1] at ha;cases ha
 | .exn _,_,_,_,h,a,ha=>by rw [Own] at h;rw [h.1] at ha;cases ha
 | .dct kvs,d,v,fp,h,a,ha=>by
  rw [Own] at h
  obtain ⟨b,_,⟨_,_,e⟩ | ⟨_,hb,e⟩⟩:=h
  ·rw [e] at ha;cases ha
  ·rw [e] at ha
   rw [jc3.mp ha]
   exact ⟨.d kvs,hb⟩
 | .lst xs,d,v,fp,h,a,ha=>by
  rw [Own] at h
  obtain ⟨b,vs,_,⟨_,_,e,_⟩ | ⟨_,f,hb,e,_,hl⟩⟩:=h
  ·rw [e] at ha;cases ha
  ·rw [e] at ha
   rcases ja6.mp ha with z | z
   ·exact ⟨.l vs,by rw [z];exact hb⟩
   ·exact OwnL.lsts xs _ vs f hl a z
 | .tup xs,d,v,fp,h,a,ha=>by
  rw [Own] at h
  obtain ⟨b,vs,_,_,hl⟩:=h
  exact OwnL.lsts xs _ vs fp hl a ha
theorem OwnL.lsts:∀ (xs:List PV) (d:Nat) (vs:List V) (fp:List Addr),OwnL K H Z xs d vs fp->∀ a∈fp,∃ o:MO,H a=some o.ho
 | [],_,_,_,h,a,ha=>by rw [OwnL] at h;rw [h.2] at ha;cases ha
 | x::xs,d,vs,fp,h,a,ha=>by
  rw [OwnL] at h
  obtain ⟨v,r,f1,f2,_,e,_,h1,h2⟩:=h
  rw [e] at ha
  rcases jc9.mp ha with z | z
  ·exact Own.lsts x d v f1 h1 a z
  ·exact OwnL.lsts xs d r f2 h2 a z
end
mutual
theorem Own.move (k:Keep S H H') (hS:∀ a,S a->Z a/\∃ o:MO,H a=some o.ho) (hz:∀ a,H a≠none->¬ Z a->¬ Z' a):
  ∀ (x:PV) (d:Nat) (v:V) (fp:List Addr),(∀ a∈fp,¬ S a)->Own K H Z x d v fp->Own K H' Z' x d v fp
 | .non,_,_,_,_,h=>by rw [Own] at h ⊢;exact h
 | .bl _,_,_,_,_,h=>by rw [Own] at h ⊢;exact h
 | .int _,_,_,_,_,h=>by rw [Own] at h ⊢;exact h
 | .str _,_,_,_,_,h=>by rw [Own] at h ⊢;exact h
 | .emp,_,_,_,_,h=>by
  rw [Own] at h ⊢
  obtain ⟨e,a,ev,ha⟩:=h
  exact ⟨e,a,ev,k a _ ha λ s=>by obtain ⟨_,o,e⟩:=hS a s;rw [ha] at e;cases o <;> cases e⟩
 | .dko,_,_,_,_,h=>by
  rw [Own] at h ⊢
  obtain ⟨e,a,ev,kvs,ha⟩:=h
  exact ⟨e,a,ev,kvs,k a _ ha λ s=>by obtain ⟨_,o,e⟩:=hS a s;rw [ha] at e;cases o <;> cases e⟩
 | .scr ns,_,_,_,_,h=>by
  rw [Own] at h ⊢
  obtain ⟨e,a,ev,⟨o,ha⟩ | ha⟩:=h
  ·exact ⟨e,a,ev,.inl ⟨o,k a _ ha λ s=>by obtain ⟨_,q,e⟩:=hS a s;rw [ha] at e;cases q <;> cases e⟩⟩
  ·exact ⟨e,a,ev,.inr ha⟩
 | .exn c,_,_,_,_,h=>by
  rw [Own] at h ⊢
  obtain ⟨e,a,C,ev,hc,ha⟩:=h
  exact ⟨e,a,C,ev,hc,k a _ ha λ s=>by obtain ⟨_,q,e⟩:=hS a s;rw [ha] at e;cases q <;> cases e⟩
 | .dct kvs,d,v,fp,hf,h=>by
  rw [Own] at h ⊢
  obtain ⟨b,ev,⟨d0,hr,e⟩ | ⟨d0,hb,e⟩⟩:=h
  ·exact ⟨b,ev,.inl ⟨d0,⟨k b _ hr.1 λ s=>hr.2 (hS b s).1,hz b (by rw [hr.1];simp) hr.2⟩,e⟩⟩
  ·exact ⟨b,ev,.inr ⟨d0,k b _ hb (hf b (by rw [e];exact ja4)),e⟩⟩
 | .lst xs,d,v,fp,hf,h=>by
  rw [Own] at h ⊢
  obtain ⟨b,vs,ev,⟨d0,hr,e,hl⟩ | ⟨d0,f,hb,e,nb,hl⟩⟩:=h
  ·refine ⟨b,vs,ev,.inl ⟨d0,?_,e,OwnL.move k hS hz xs 0 vs [] (λ _ z=>nomatch z) hl⟩⟩
   exact ⟨k b _ hr.1 λ s=>hr.2 (hS b s).1,hz b (by rw [hr.1];simp) hr.2⟩
  ·refine ⟨b,vs,ev,.inr ⟨d0,f,k b _ hb (hf b (by rw [e];exact ja4)),e,nb,?_⟩⟩
   exact OwnL.move k hS hz xs _ vs f (λ a ha=>hf a (by rw [e];exact ja1 _ ha)) hl
 | .tup xs,d,v,fp,hf,h=>by
  rw [Own] at h ⊢
  obtain ⟨b,vs,ev,hr,hl⟩:=h
  exact ⟨b,vs,ev,k b _ hr (λ s=>by obtain ⟨_,o,e⟩:=hS b s;rw [hr] at e;cases o <;> cases e),OwnL.move k hS hz xs _ vs fp hf hl⟩
theorem OwnL.move (k:Keep S H H') (hS:∀ a,S a->Z a/\∃ o:MO,H a=some o.ho) (hz:∀ a,H a≠none->¬ Z a->¬ Z' a):
  ∀ (xs:List PV) (d:Nat) (vs:List V) (fp:List Addr),(∀ a∈fp,¬ S a)->OwnL K H Z xs d vs fp->OwnL K H' Z' xs d vs fp
 | [],_,_,_,_,h=>by rw [OwnL] at h ⊢;exact h
 | x::xs,d,vs,fp,hf,h=>by
  rw [OwnL] at h ⊢
  obtain ⟨v,r,f1,f2,e1,e,dj,h1,h2⟩:=h
  exact ⟨v,r,f1,f2,e1,e,dj,Own.move k hS hz x d v f1 (λ a ha=>hf a (by rw [e];exact jb0 _ ha)) h1,OwnL.move k hS hz xs d r f2 (λ a ha=>hf a (by rw [e];exact ja7 _ ha)) h2⟩
end
mutual
theorem Own.freeze (hz:∀ a,Z' a->Z a):∀ (x:PV) (d:Nat) (v:V) (fp:List Addr),(∀ a∈fp,¬ Z' a)->Own K H Z x d v fp->Own K H Z' x 0 v []
 | .non,_,_,_,_,h=>by rw [Own] at h ⊢;exact ⟨h.1,rfl⟩
 | .bl _,_,_,_,_,h=>by rw [Own] at h ⊢;exact ⟨h.1,rfl⟩
 | .int _,_,_,_,_,h=>by rw [Own] at h ⊢;exact ⟨h.1,rfl⟩
 | .str _,_,_,_,_,h=>by rw [Own] at h ⊢;exact ⟨h.1,rfl⟩
 | .emp,_,_,_,_,h=>by rw [Own] at h ⊢;exact ⟨rfl,h.2⟩
 | .dko,_,_,_,_,h=>by rw [Own] at h ⊢;exact ⟨rfl,h.2⟩
 | .scr _,_,_,_,_,h=>by rw [Own] at h ⊢;exact ⟨rfl,h.2⟩
 | .exn _,_,_,_,_,h=>by rw [Own] at h ⊢;exact ⟨rfl,h.2⟩
 | .dct kvs,d,v,fp,hf,h=>by
  rw [Own] at h ⊢
  obtain ⟨b,ev,⟨d0,hr,e⟩ | ⟨d0,hb,e⟩⟩:=h
  ·exact ⟨b,ev,.inl ⟨rfl,⟨hr.1,λ z=>hr.2 (hz b z)⟩,rfl⟩⟩
  ·exact ⟨b,ev,.inl ⟨rfl,⟨hb,hf b (by rw [e];exact ja4)⟩,rfl⟩⟩
 | .lst xs,d,v,fp,hf,h=>by
  rw [Own] at h ⊢
  obtain ⟨b,vs,ev,⟨d0,hr,e,hl⟩ | ⟨d0,f,hb,e,nb,hl⟩⟩:=h
  ·refine ⟨b,vs,ev,.inl ⟨rfl,?_,rfl,OwnL.freeze hz xs 0 vs [] (λ _ z=>nomatch z) hl⟩⟩
   exact ⟨hr.1,λ z=>hr.2 (hz b z)⟩
  ·exact ⟨b,vs,ev,.inl ⟨rfl,⟨hb,hf b (by rw [e];exact ja4)⟩,rfl,OwnL.freeze hz xs _ vs f (λ a ha=>hf a (by rw [e];exact ja1 _ ha)) hl⟩⟩
 | .tup xs,d,v,fp,hf,h=>by
  rw [Own] at h ⊢
  obtain ⟨b,vs,ev,hr,hl⟩:=h
  exact ⟨b,vs,ev,hr,OwnL.freeze hz xs _ vs fp hf hl⟩
theorem OwnL.freeze (hz:∀ a,Z' a->Z a):∀ (xs:List PV) (d:Nat) (vs:List V) (fp:List Addr),(∀ a∈fp,¬ Z' a)->OwnL K H Z xs d vs fp->OwnL K H Z' xs 0 vs []
 | [],_,_,_,_,h=>by rw [OwnL] at h ⊢;exact ⟨h.1,rfl⟩
 | x::xs,d,vs,fp,hf,h=>by
  rw [OwnL] at h ⊢
  obtain ⟨v,r,f1,f2,e1,e,dj,h1,h2⟩:=h
  exact ⟨v,r,[],[],e1,rfl,λ _ z=>(nomatch z),Own.freeze hz x d v f1 (λ a ha=>hf a (by rw [e];exact jb0 _ ha)) h1,OwnL.freeze hz xs d r f2 (λ a ha=>hf a (by rw [e];exact ja7 _ ha)) h2⟩
end
mutual
theorem Own.full:∀ (x:PV) (v:V) (fp:List Addr),Own K H Z x om v fp->Own K H Z' x om v fp
 | .non,_,_,h=>by rw [Own] at h ⊢;exact h
 | .bl _,_,_,h=>by rw [Own] at h ⊢;exact h
 | .int _,_,_,h=>by rw [Own] at h ⊢;exact h
 | .str _,_,_,h=>by rw [Own] at h ⊢;exact h
 | .emp,_,_,h=>by rw [Own] at h ⊢;exact h
 | .dko,_,_,h=>by rw [Own] at h ⊢;exact h
 | .scr _,_,_,h=>by rw [Own] at h ⊢;exact h
 | .exn _,_,_,h=>by rw [Own] at h ⊢;exact h
 | .dct kvs,v,fp,h=>by
  rw [Own] at h ⊢
  obtain ⟨b,ev,⟨d0,_⟩ | ⟨d0,hb,e⟩⟩:=h
  ·exact absurd d0 (by decide)
  ·exact ⟨b,ev,.inr ⟨d0,hb,e⟩⟩
 | .lst xs,v,fp,h=>by
  rw [Own] at h ⊢
  obtain ⟨b,vs,ev,⟨d0,_⟩ | ⟨d0,f,hb,e,nb,hl⟩⟩:=h
  ·exact absurd d0 (by decide)
  ·exact ⟨b,vs,ev,.inr ⟨d0,f,hb,e,nb,OwnL.full xs vs f hl⟩⟩
 | .tup xs,v,fp,h=>by
  rw [Own] at h ⊢
  obtain ⟨b,vs,ev,hr,hl⟩:=h
  exact ⟨b,vs,ev,hr,OwnL.full xs vs fp hl⟩
theorem OwnL.full:∀ (xs:List PV) (vs:List V) (fp:List Addr),OwnL K H Z xs om vs fp->OwnL K H Z' xs om vs fp
 | [],_,_,h=>by rw [OwnL] at h ⊢;exact h
 | x::xs,vs,fp,h=>by
  rw [OwnL] at h ⊢
  obtain ⟨v,r,f1,f2,e1,e,dj,h1,h2⟩:=h
  exact ⟨v,r,f1,f2,e1,e,dj,Own.full x v f1 h1,OwnL.full xs r f2 h2⟩
end
theorem Own.weak (hz:∀ a,Z' a->Z a) {x:PV}{d:Nat}{v:V}{fp:List Addr} (h:Own K H Z x d v fp):Own K H Z' x d v fp:=
 Own.move (S:=λ _=>False) (λ _ _ h _=>h) (λ _ z=>z.elim) (λ a _ n z=>n (hz a z)) x d v fp (λ _ _ z=>z) h
theorem OwnL.weak (hz:∀ a,Z' a->Z a) {xs:List PV}{d:Nat}{vs:List V}{fp:List Addr} (h:OwnL K H Z xs d vs fp):OwnL K H Z' xs d vs fp:=
 OwnL.move (S:=λ _=>False) (λ _ _ h _=>h) (λ _ z=>z.elim) (λ a _ n z=>n (hz a z)) xs d vs fp (λ _ _ z=>z) h
end
abbrev Slot:=Option (PV×Nat)
abbrev Rho:=List Slot
inductive Rz (α:Type) where
 | ok (a:α) | exc (c:Nat) | no
def Rz.bind {α β:Type} (r:Rz α) (f:α->Rz β):Rz β:=match r with
 | .ok a=>f a
 | .exc c=>.exc c
 | .no=>.no
abbrev Fx:=Rho->Rz (PV×Nat×Rho)
abbrev Fa:=Rho->Rz (List (PV×Nat)×Rho)
abbrev Fb:=Rho->Rz (Bool×Rho)
structure Fm where
 K:Frag
 Ms:Nat->Bool
 Zo:Addr->Prop
 H₀:Hp
 W:St->Nat->Hp->Prop
 io:Option V
 al:Nat->List Nat
 pn:List (Nat×V):=[]
abbrev Fps:=Nat->List Addr
def Fm.Fre (M:Fm) (i:Nat):Prop:=(M.io≠none->i≠0)/\∀ p∈M.pn,p.1≠i
def Zf (M:Fm) (fps:Fps):Addr->Prop:=λ a=>M.Zo a\/∃ i,a∈fps i
def Zv (M:Fm) (vs:List Nat) (fps:Fps):Addr->Prop:=λ a=>M.Zo a\/∃ i,i∉vs/\a∈fps i
def Za (M:Fm) (fps:Fps) (i:Nat):Addr->Prop:=λ a=>M.Zo a\/∃ j,j∉M.al i/\a∈fps j
def Zt (M:Fm) (vs:List Nat) (fps:Fps) (fp:List Addr):Addr->Prop:=λ a=>Zv M vs fps a\/a∈fp
def Fm.plus (M:Fm) (fp:List Addr):Fm:={ M with Zo:=λ a=>M.Zo a\/a∈fp }
structure Rep (M:Fm) (ρ:Rho) (σ:St) (H:Hp) (fps:Fps):Prop where
 own:∀ i x d,ρ[i]?=some (some (x,d))->∃ v,σ[i]?=some (some v)/\Own M.K H (Za M fps i) x d v (fps i)
 non:∀ i,(∀ p,ρ[i]?≠some (some p))->fps i=[]
 dj:∀ i j,i≠j->∀ a∈fps i,a∉fps j
 zo:∀ i,∀ a∈fps i,¬ M.Zo a
 fr:∀ i,M.Ms i=false->∀ a∈fps i,M.H₀ a=none
 zd:∀ a,M.Zo a->H a≠none
 len:ρ.length=σ.length
 msf:∀ i x d,M.Ms i=true->ρ[i]?=some (some (x,d))->d=om
 h0:∀ a,M.H₀ a≠none->H a≠none
 iov:(∀ v,M.io=some v->σ[0]?=some (some v)/\M.Ms 0=true)/\∀ p∈M.pn,σ[p.1]?=some (some p.2)
def Agr (M:Fm) (ρ ρ':Rho):Prop:=(∀ i,M.Ms i=false->ρ'[i]?=ρ[i]?)/\ρ'.length=ρ.length
structure KD (M:Fm) (H:Hp) (fps:Fps) (H':Hp) (fps':Fps):Prop where
 keep:Keep (λ a=>∃ i,M.Ms i=true/\a∈fps i) H H'
 dom:∀ a,H a≠none->H' a≠none
 sub:∀ i,∀ a∈fps' i,a∈fps i\/H a=none
 same:∀ i,M.Ms i=false->fps' i=fps i
def Tmps (K:Frag) (H:Hp) (Z:Addr->Prop):List (PV×Nat)->List V->List Addr->Prop
 | [],vs,fp=>vs=[]/\fp=[]
 | (x,d)::xs,vs,fp=>∃ v r f1 f2,vs=v::r/\fp=f1++f2/\(∀ a∈f1,a∉f2)/\Own K H (λ a=>Z a\/a∈f1) x d v f1/\Tmps K H Z xs r f2
structure Temp (M:Fm) (vs:List Nat) (H:Hp) (H':Hp) (fps':Fps) (fp:List Addr):Prop where
 new:∀ a∈fp,H a=none
 ndj:∀ a∈fp,¬ Zf M fps' a
section
variable {M:Fm}{ρ ρ':Rho}{σ:St}{H H' H'':Hp}{fps fps' fps'':Fps}{vs vs':List Nat}
theorem Agr.refl:Agr M ρ ρ:=⟨λ _ _=>rfl,rfl⟩
theorem Agr.trans {ρ'':Rho} (a:Agr M ρ ρ') (b:Agr M ρ' ρ''):Agr M ρ ρ'':=⟨λ i hi=>(b.1 i hi).trans (a.1 i hi),b.2.trans a.2⟩
theorem KD.refl:KD M H fps H fps:=⟨λ _ _ h _=>h,λ _ h=>h,λ _ _ h=>.inl h,λ _ _=>rfl⟩
theorem KD.trans (a:KD M H fps H' fps') (b:KD M H' fps' H'' fps''):KD M H fps H'' fps'' where
 keep:=λ x o h n=>b.keep x o (a.keep x o h n) λ ⟨i,hi,hx⟩=>(a.sub i x hx).elim (λ z=>n ⟨i,hi,z⟩) λ z=>by rw [z] at h;cases h
 dom:=λ x h=>b.dom x (a.dom x h)
 sub:=λ i x hx=>(b.sub i x hx).elim (λ z=>a.sub i x z) λ z=>.inr (by
  cases e:H x with
  | none=>rfl
  | some o=>exact absurd z (a.dom x (by rw [e];simp)))
 same:=λ i hi=>(b.same i hi).trans (a.same i hi)
theorem Za.zf {i:Nat}{a:Addr} (h:Za M fps i a):Zf M fps a:=h.elim .inl λ ⟨j,_,h⟩=>.inr ⟨j,h⟩
theorem Za.of {i:Nat} (hal:M.al i=[]) {a:Addr} (h:Zf M fps a):Za M fps i a:=h.elim .inl λ ⟨j,h⟩=>.inr ⟨j,(by rw [hal];simp),h⟩
theorem Rep.own0 (r:Rep M ρ σ H fps) (hal:∀ i,M.al i=[]) (i:Nat) (x:PV) (d:Nat) (e:ρ[i]?=some (some (x,d))):∃ v,σ[i]?=some (some v)/\Own M.K H (Zf M fps) x d v (fps i):=
 let ⟨v,h1,h2⟩:=r.own i x d e;⟨v,h1,h2.weak λ _ h=>Za.of (hal i) h⟩
theorem Rep.lsts (r:Rep M ρ σ H fps) {i:Nat}{a:Addr} (h:a∈fps i):∃ o:MO,H a=some o.ho:=by
 by_cases hp:∃ p,ρ[i]?=some (some p)
 ·obtain ⟨⟨x,d⟩,e⟩:=hp
  obtain ⟨v,_,o⟩:=r.own i x d e
  exact Own.lsts x d v _ o a h
 ·rw [r.non i λ p e=>hp ⟨p,e⟩] at h;cases h
theorem Rep.zdom (r:Rep M ρ σ H fps) {a:Addr} (h:Zf M fps a):H a≠none:=by
 rcases h with h | ⟨i,h⟩
 ·exact r.zd a h
 ·obtain ⟨xs,e⟩:=r.lsts h;rw [e];simp
theorem Rep.nz (r:Rep M ρ σ H fps) {a:Addr} (h:H a=none):¬ Zf M fps a:=λ z=>r.zdom z h
theorem Zv.zf {a:Addr} (h:Zv M vs fps a):Zf M fps a:=h.elim .inl λ ⟨i,_,h⟩=>.inr ⟨i,h⟩
theorem Zv.mono (hv:∀ i∈vs',i∈vs) {a:Addr} (h:Zv M vs fps a):Zv M vs' fps a:=h.elim .inl λ ⟨i,n,h⟩=>.inr ⟨i,λ z=>n (hv i z),h⟩
theorem Zt.mono (hv:∀ i∈vs',i∈vs) {a:Addr}{fp:List Addr} (h:Zt M vs fps fp a):Zt M vs' fps fp a:=h.elim (λ h=>.inl (h.mono hv)) .inr
theorem KD.stay (k:KD M H fps H' fps') (r:Rep M ρ σ H fps) (hv:∀ i∈vs,M.Ms i=false) {x:PV}{d:Nat}{v:V}{fp:List Addr} (h:Own M.K H (Zt M vs fps fp) x d v fp) (hf:∀ a∈fp,¬ Zf M fps a):Own M.K H' (Zt M vs fps' fp) x d v fp:=by
 have h1:∀ a,(∃ i,M.Ms i=true/\a∈fps i)->Zt M vs fps fp a/\∃ o:MO,H a=some o.ho:=by
  rintro a ⟨i,hi,ha⟩
  exact ⟨.inl (.inr ⟨i,λ z=>(by rw [hv i z] at hi;cases hi),ha⟩),r.lsts ha⟩
 have h2:∀ a,H a≠none->¬ Zt M vs fps fp a->¬ Zt M vs fps' fp a:=by
  intro a hd nz z
  rcases z with (z | ⟨i,ni,hx⟩) | z
  ·exact nz (.inl (.inl z))
  ·rcases k.sub i a hx with z | z
   ·exact nz (.inl (.inr ⟨i,ni,z⟩))
   ·exact hd z
  ·exact nz (.inr z)
 exact Own.move k.keep h1 h2 x d v fp (λ a ha ⟨i,_,hx⟩=>hf a ha (.inr ⟨i,hx⟩)) h
theorem KD.stays (k:KD M H fps H' fps') (r:Rep M ρ σ H fps) (hv:∀ i∈vs,M.Ms i=false):∀ {xs:List (PV×Nat)}{ws:List V}{fp:List Addr},Tmps M.K H (Zv M vs fps) xs ws fp->(∀ a∈fp,¬ Zf M fps a)->Tmps M.K H' (Zv M vs fps') xs ws fp
 | [],_,_,h,_=>h
 | (x,d)::xs,ws,fp,h,hf=>by
  obtain ⟨v,s,f1,f2,e1,e2,dj,h1,h2⟩:=h
  exact ⟨v,s,f1,f2,e1,e2,dj,k.stay r hv h1 λ a ha=>hf a (by rw [e2];exact jb0 _ ha),k.stays r hv h2 λ a ha=>hf a (by rw [e2];exact ja7 _ ha)⟩
theorem Tmps.weak {K:Frag}{Z Z':Addr->Prop} (hz:∀ a,Z' a->Z a):∀ {xs:List (PV×Nat)}{ws:List V}{fp:List Addr},Tmps K H Z xs ws fp->Tmps K H Z' xs ws fp
 | [],_,_,h=>h
 | (x,d)::xs,ws,fp,h=>by
  obtain ⟨v,s,f1,f2,e1,e2,dj,h1,h2⟩:=h
  exact ⟨v,s,f1,f2,e1,e2,dj,h1.weak λ a h=>h.elim (λ h=>.inl (hz a h)) .inr,h2.weak hz⟩
theorem KD.grow (k:∀ a o,H a=some o->H' a=some o):KD M H fps H' fps:=⟨λ a o h _=>k a o h,λ a h=>by
 cases e:H a with
 | none=>exact absurd e h
 | some o=>rw [k a o e];simp,λ _ _ h=>.inl h,λ _ _=>rfl⟩
theorem Rep.grow (r:Rep M ρ σ H fps) (k:∀ a o,H a=some o->H' a=some o):Rep M ρ σ H' fps where
 own:=λ i x d e=>by
  obtain ⟨v,hv,o⟩:=r.own i x d e
  exact ⟨v,hv,Own.move (S:=λ _=>False) (λ a o h _=>k a o h) (λ _ z=>z.elim) (λ _ _ n=>n) x d v _ (λ _ _ z=>z) o⟩
 non:=r.non
 dj:=r.dj
 zo:=r.zo
 fr:=r.fr
 zd:=λ a h=>(KD.grow (M:=M) (fps:=fps) k).dom a (r.zd a h)
 len:=r.len
 msf:=r.msf
 h0:=λ a h=>(KD.grow (M:=M) (fps:=fps) k).dom a (r.h0 a h)
 iov:=r.iov
end
def tE (M:Fm) (f:Fx) (vs:List Nat):TE:=λ σ H Q=>∃ ρ fps,Rep M ρ σ H fps/\(match f ρ with
 | .ok (x,d,ρ')=>∀ v H' fps' fp,KD M H fps H' fps'->Agr M ρ ρ'->Rep M ρ' σ H' fps'->Own M.K H' (Zt M vs fps' fp) x d v fp->Temp M vs H H' fps' fp->Q v H'
 | .exc c=>∀ H' fps',KD M H fps H' fps'->M.W σ c H'
 | .no=>False)
def tL (M:Fm) (f:Fa) (vs:List Nat):TA:=λ σ H Q=>∃ ρ fps,Rep M ρ σ H fps/\(match f ρ with
 | .ok (xs,ρ')=>∀ ws H' fps' fp,KD M H fps H' fps'->Agr M ρ ρ'->Rep M ρ' σ H' fps'->Tmps M.K H' (Zv M vs fps') xs ws fp->Temp M vs H H' fps' fp->Q ws H'
 | .exc c=>∀ H' fps',KD M H fps H' fps'->M.W σ c H'
 | .no=>False)
def tT (M:Fm) (f:Fb):TT:=λ σ H Q=>∃ ρ fps,Rep M ρ σ H fps/\(match f ρ with
 | .ok (b,ρ')=>∀ H' fps',KD M H fps H' fps'->Agr M ρ ρ'->Rep M ρ' σ H' fps'->Q b H'
 | .exc c=>∀ H' fps',KD M H fps H' fps'->M.W σ c H'
 | .no=>False)
def Leaf (M:Fm) (H:Hp) (fps:Fps) (vs:List Nat) (F:List Addr) (z:PV) (d:Nat) (Q:VK):Prop:=
 ∀ u H' fp,(∀ a o,H a=some o->H' a=some o)->Own M.K H' (Zt M vs fps fp) z d u fp->(∀ a∈fp,a∈F\/H a=none)->Q u H'
section
variable {M:Fm}{ρ ρ':Rho}{σ:St}{H H' H'':Hp}{fps fps' fps'':Fps}{vs vs':List Nat}{f g:Fx}{fa:Fa}{fb:Fb}{Q:VK}
def bC (x:PV):Fx:=λ ρ=>.ok (x,om,ρ)
theorem zbd {x:PV}{v:V} (h:∀ K H Z,Own K H Z x om v []) {σ:St}{H:Hp}{Q:VK} (hq:tE M (bC x) [] σ H Q):tC v σ H Q:=by
 obtain ⟨ρ,fps,rep,q⟩:=hq
 exact q v H fps [] KD.refl Agr.refl rep (h _ _ _) ⟨λ _ z=>(nomatch z),λ _ z=>nomatch z⟩
def dv:PV->Nat
 | .lst _=>0
 | .tup _=>0
 | .dct _=>0
 | _=>om
def bVar (i:Nat):Fx:=λ ρ=>match ρ[i]? with
 | some (some (x,_))=>.ok (x,dv x,ρ)
 | _=>.no
theorem Own.view {K:Frag}{Z Z':Addr->Prop}{x:PV}{d:Nat}{v:V}{fp:List Addr} (hz:∀ a,Z' a->Z a) (hf:∀ a∈fp,¬ Z' a) (h:Own K H Z x d v fp):Own K H Z' x (dv x) v []:=by
 have q:=Own.freeze hz x d v fp hf h
 cases x with
 | lst xs=>exact q
 | tup xs=>exact q
 | dct kvs=>exact q
 | exn _=>rw [Own] at q ⊢;exact q
 | non=>rw [Own] at q ⊢;exact q
 | bl _=>rw [Own] at q ⊢;exact q
 | int _=>rw [Own] at q ⊢;exact q
 | str _=>rw [Own] at q ⊢;exact q
 | emp=>rw [Own] at q ⊢;exact q
 | dko=>rw [Own] at q ⊢;exact q
 | scr _=>rw [Own] at q ⊢;exact q
theorem qjk {i:Nat}{σ:St}{H:Hp}{Q:VK} (hq:tE M (bVar i) (i::M.al i) σ H Q):tVar i σ H Q:=by
 obtain ⟨ρ,fps,rep,q⟩:=hq
 unfold bVar at q
 cases e0:ρ[i]? with
 | none=>rw [e0] at q;exact q.elim
 | some sl=>
  cases sl with
  | none=>rw [e0] at q;exact q.elim
  | some p=>
   obtain ⟨x0,d0⟩:=p
   rw [e0] at q
   obtain ⟨v,hv,o⟩:=rep.own i x0 d0 e0
   refine ⟨v,hv,q v H fps [] KD.refl Agr.refl rep ((o.view (Z':=Zv M (i::M.al i) fps) (λ a h=>h.elim .inl λ ⟨j,n,h⟩=>.inr ⟨j,λ z=>n (ja1 _ z),h⟩) λ a ha z=>?_).weak λ a h=>h.elim id λ z=>nomatch z) ⟨λ _ z=>(nomatch z),λ _ z=>nomatch z⟩⟩
   rcases z with z | ⟨j,nj,hj⟩
   ·exact rep.zo i a ha z
   ·exact rep.dj i j (λ e=>nj (by simp [e])) a ha hj
def bBin (op:PV->Nat->PV->Nat->Option (PV×Nat)) (f g:Fx):Fx:=λ ρ=>(f ρ).bind λ (x,d,ρ1)=>(g ρ1).bind λ (y,e,ρ2)=>match op x d y e with
 | some (z,c)=>.ok (z,c,ρ2)
 | none=>.no
theorem zvd {op:PV->Nat->PV->Nat->Option (PV×Nat)}{r:R2} (hv:∀ i∈vs,M.Ms i=false)
  (leaf:∀ x d y e z c v w H fps f1 f2 Q,op x d y e=some (z,c)->Own M.K H (Zt M (vs++vs') fps f1) x d v f1->Own M.K H (Zt M (vs++vs') fps f2) y e w f2->(∀ a∈f1,a∉f2)->(∀ a∈f1++f2,¬ Zf M fps a)->(∀ a,Zf M fps a->H a≠none)->Leaf M H fps (vs++vs') (f1++f2) z c Q->r v w H Q)
  {σ:St}{H:Hp}{Q:VK} (hq:tE M (bBin op f g) (vs++vs') σ H Q):tOp r (tE M f vs) (tE M g vs') σ H Q:=by
 obtain ⟨ρ,fps,rep,q⟩:=hq
 refine ⟨ρ,fps,rep,?_⟩
 unfold bBin at q
 cases ef:f ρ with
 | no=>rw [ef] at q;exact q
 | exc c=>rw [ef] at q;exact q
 | ok p=>
  obtain ⟨x,d,ρ1⟩:=p
  rw [ef] at q
  intro v H1 fps1 f1 k1 g1 rep1 o1 t1
  refine ⟨ρ1,fps1,rep1,?_⟩
  dsimp only [Rz.bind] at q
  cases eg:g ρ1 with
  | no=>rw [eg] at q;exact q
  | exc c=>rw [eg] at q;exact λ H' fps' k=>q H' fps' (k1.trans k)
  | ok p2=>
   obtain ⟨y,e,ρ2⟩:=p2
   rw [eg] at q
   intro w H2 fps2 f2 k2 g2 rep2 o2 t2
   dsimp only at q
   cases eo:op x d y e with
   | none=>rw [eo] at q;exact q.elim
   | some zc=>
    obtain ⟨z,c⟩:=zc
    rw [eo] at q
    have o1':=k2.stay rep1 hv o1 t1.ndj
    have n1:∀ a∈f1,¬ Zf M fps2 a:=λ a ha z=>by
     rcases z with z | ⟨i,z⟩
     ·exact t1.ndj a ha (.inl z)
     ·rcases k2.sub i a z with z | z
      ·exact t1.ndj a ha (.inr ⟨i,z⟩)
      ·obtain ⟨xs,e⟩:=Own.lsts x d v f1 o1 a ha
       rw [z] at e;cases e
    refine leaf x d y e z c v w H2 fps2 f1 f2 Q eo (o1'.weak λ a h=>Zt.mono (λ i hi=>jb0 _ hi) h) (o2.weak λ a h=>Zt.mono (λ i hi=>ja7 _ hi) h) (λ a h1 h2=>?_) (λ a ha=>?_) (λ a h=>rep2.zdom h) λ u H3 fp k3 o3 hfp=>?_
    ·obtain ⟨xs,e⟩:=Own.lsts x d v f1 o1 a h1
     rw [t2.new a h2] at e;cases e
    ·rcases jc9.mp ha with z | z
     ·exact n1 a z
     ·exact t2.ndj a z
    ·have new:∀ a∈fp,H a=none:=λ a ha=>by
      have back:H1 a=none->H a=none:=λ e=>by
       cases e':H a with
       | none=>rfl
       | some o=>exact absurd e (k1.dom a (by rw [e'];simp))
      have back2:H2 a=none->H1 a=none:=λ e=>by
       cases e':H1 a with
       | none=>rfl
       | some o=>exact absurd e (k2.dom a (by rw [e'];simp))
      rcases hfp a ha with z | z
      ·rcases jc9.mp z with z | z
       ·exact t1.new a z
       ·exact back (t2.new a z)
      ·exact back (back2 z)
     refine q u H3 fps2 fp ((k1.trans k2).trans (KD.grow k3)) (g1.trans g2) (rep2.grow k3) o3 ⟨new,λ a ha=>?_⟩
     rcases hfp a ha with z | z
     ·rcases jc9.mp z with z | z
      ·exact n1 a z
      ·exact t2.ndj a z
     ·exact rep2.nz z
end
section
variable {M:Fm}{vs vs':List Nat}{f g:Fx}{fa:Fa}{fb gb:Fb}
def bUn (op:PV->Nat->Option (PV×Nat)) (f:Fx):Fx:=λ ρ=>(f ρ).bind λ (x,d,ρ1)=>match op x d with
 | some (z,c)=>.ok (z,c,ρ1)
 | none=>.no
theorem qc8 {op:PV->Nat->Option (PV×Nat)}{r:V->Hp->VK->Prop}
  (leaf:∀ x d z c v H fps f1 Q,op x d=some (z,c)->Own M.K H (Zt M vs fps f1) x d v f1->(∀ a∈f1,¬ Zf M fps a)->(∀ a,Zf M fps a->H a≠none)->Leaf M H fps vs f1 z c Q->r v H Q)
  {σ:St}{H:Hp}{Q:VK} (hq:tE M (bUn op f) vs σ H Q):tUn r (tE M f vs) σ H Q:=by
 obtain ⟨ρ,fps,rep,q⟩:=hq
 refine ⟨ρ,fps,rep,?_⟩
 unfold bUn at q
 cases ef:f ρ with
 | no=>rw [ef] at q;exact q
 | exc c=>rw [ef] at q;exact q
 | ok p=>
  obtain ⟨x,d,ρ1⟩:=p
  rw [ef] at q
  intro v H1 fps1 f1 k1 g1 rep1 o1 t1
  dsimp only [Rz.bind] at q
  cases eo:op x d with
  | none=>rw [eo] at q;exact q.elim
  | some zc=>
   obtain ⟨z,c⟩:=zc
   rw [eo] at q
   refine leaf x d z c v H1 fps1 f1 Q eo o1 t1.ndj (λ a h=>rep1.zdom h) λ u H3 fp k3 o3 hfp=>?_
   have back:∀ a,H1 a=none->H a=none:=λ a e=>by
    cases e':H a with
    | none=>rfl
    | some o=>exact absurd e (k1.dom a (by rw [e'];simp))
   refine q u H3 fps1 fp (k1.trans (KD.grow k3)) g1 (rep1.grow k3) o3 ⟨λ a ha=>(hfp a ha).elim (t1.new a) (back a),λ a ha=>(hfp a ha).elim (t1.ndj a) λ z=>rep1.nz z⟩
def aNil:Fa:=λ ρ=>.ok ([],ρ)
def zqa (f:Fx) (fa:Fa):Fa:=λ ρ=>(f ρ).bind λ (x,d,ρ1)=>(fa ρ1).bind λ (xs,ρ2)=>.ok ((x,d)::xs,ρ2)
theorem qnv {σ:St}{H:Hp}{Q:List V->Hp->Prop} (hq:tL M aNil [] σ H Q):tNil σ H Q:=by
 obtain ⟨ρ,fps,rep,q⟩:=hq
 exact q [] H fps [] KD.refl Agr.refl rep ⟨rfl,rfl⟩ ⟨λ _ z=>(nomatch z),λ _ z=>nomatch z⟩
theorem qkz (hv:∀ i∈vs,M.Ms i=false) {σ:St}{H:Hp}{Q:List V->Hp->Prop} (hq:tL M (zqa f fa) (vs++vs') σ H Q):qk5 (tE M f vs) (tL M fa vs') σ H Q:=by
 obtain ⟨ρ,fps,rep,q⟩:=hq
 refine ⟨ρ,fps,rep,?_⟩
 unfold zqa at q
 cases ef:f ρ with
 | no=>rw [ef] at q;exact q
 | exc c=>rw [ef] at q;exact q
 | ok p=>
  obtain ⟨x,d,ρ1⟩:=p
  rw [ef] at q
  intro v H1 fps1 f1 k1 g1 rep1 o1 t1
  refine ⟨ρ1,fps1,rep1,?_⟩
  dsimp only [Rz.bind] at q
  cases eg:fa ρ1 with
  | no=>rw [eg] at q;exact q
  | exc c=>rw [eg] at q;exact λ H' fps' k=>q H' fps' (k1.trans k)
  | ok p2=>
   obtain ⟨ys,ρ2⟩:=p2
   rw [eg] at q
   intro ws H2 fps2 f2 k2 g2 rep2 o2 t2
   dsimp only at q
   have o1':=k2.stay rep1 hv o1 t1.ndj
   have n1:∀ a∈f1,¬ Zf M fps2 a:=λ a ha z=>by
    rcases z with z | ⟨i,z⟩
    ·exact t1.ndj a ha (.inl z)
    ·rcases k2.sub i a z with z | z
     ·exact t1.ndj a ha (.inr ⟨i,z⟩)
     ·obtain ⟨xs,e⟩:=Own.lsts x d v f1 o1 a ha
      rw [z] at e;cases e
   have back:∀ a,H1 a=none->H a=none:=λ a e=>by
    cases e':H a with
    | none=>rfl
    | some o=>exact absurd e (k1.dom a (by rw [e'];simp))
   refine q (v::ws) H2 fps2 (f1++f2) (k1.trans k2) (g1.trans g2) rep2 ⟨v,ws,f1,f2,rfl,rfl,λ a h1 h2=>?_,o1'.weak λ a h=>Zt.mono (λ i hi=>jb0 _ hi) h,o2.weak λ a h=>h.mono λ i hi=>ja7 _ hi⟩ ⟨λ a ha=>?_,λ a ha=>?_⟩
   ·obtain ⟨xs,e⟩:=Own.lsts x d v f1 o1 a h1
    rw [t2.new a h2] at e;cases e
   ·rcases jc9.mp ha with z | z
    ·exact t1.new a z
    ·exact back a (t2.new a z)
   ·rcases jc9.mp ha with z | z
    ·exact n1 a z
    ·exact t2.ndj a z
def zqd (op:List (PV×Nat)->Option (PV×Nat)) (fa:Fa):Fx:=λ ρ=>(fa ρ).bind λ (xs,ρ1)=>match op xs with
 | some (z,c)=>.ok (z,c,ρ1)
 | none=>.no
theorem qah {op:List (PV×Nat)->Option (PV×Nat)}{r:List V->Hp->VK->Prop}
  (leaf:∀ xs z c ws H fps fp Q,op xs=some (z,c)->Tmps M.K H (Zv M vs fps) xs ws fp->(∀ a∈fp,¬ Zf M fps a)->(∀ a,Zf M fps a->H a≠none)->Leaf M H fps vs fp z c Q->r ws H Q)
  {σ:St}{H:Hp}{Q:VK} (hq:tE M (zqd op fa) vs σ H Q):tL M fa vs σ H λ ws H1=>r ws H1 Q:=by
 obtain ⟨ρ,fps,rep,q⟩:=hq
 refine ⟨ρ,fps,rep,?_⟩
 unfold zqd at q
 cases ef:fa ρ with
 | no=>rw [ef] at q;exact q
 | exc c=>rw [ef] at q;exact q
 | ok p=>
  obtain ⟨xs,ρ1⟩:=p
  rw [ef] at q
  intro ws H1 fps1 f1 k1 g1 rep1 o1 t1
  dsimp only [Rz.bind] at q
  cases eo:op xs with
  | none=>rw [eo] at q;exact q.elim
  | some zc=>
   obtain ⟨z,c⟩:=zc
   rw [eo] at q
   refine leaf xs z c ws H1 fps1 f1 Q eo o1 t1.ndj (λ a h=>rep1.zdom h) λ u H3 fp k3 o3 hfp=>?_
   have back:∀ a,H1 a=none->H a=none:=λ a e=>by
    cases e':H a with
    | none=>rfl
    | some o=>exact absurd e (k1.dom a (by rw [e'];simp))
   refine q u H3 fps1 fp (k1.trans (KD.grow k3)) g1 (rep1.grow k3) o3 ⟨λ a ha=>(hfp a ha).elim (t1.new a) (back a),λ a ha=>(hfp a ha).elim (t1.ndj a) λ z=>rep1.nz z⟩
def bT (f:Fx):Fb:=λ ρ=>(f ρ).bind λ (x,_,ρ1)=>match x with
 | .bl b=>.ok (b,ρ1)
 | _=>.no
theorem qd2 {σ:St}{H:Hp}{Q:Bool->Hp->Prop} (hq:tT M (bT f) σ H Q):tB (tE M f vs) σ H Q:=by
 obtain ⟨ρ,fps,rep,q⟩:=hq
 refine ⟨ρ,fps,rep,?_⟩
 unfold bT at q
 cases ef:f ρ with
 | no=>rw [ef] at q;exact q
 | exc c=>rw [ef] at q;exact q
 | ok p=>
  obtain ⟨x,d,ρ1⟩:=p
  rw [ef] at q
  intro v H1 fps1 f1 k1 g1 rep1 o1 t1
  dsimp only [Rz.bind] at q
  cases x with
  | bl b=>
   rw [Own] at o1
   exact ⟨b,o1.1,q H1 fps1 k1 g1 rep1⟩
  | _=>exact q.elim
def bAnd (f g:Fb):Fb:=λ ρ=>(f ρ).bind λ (b,ρ1)=>if b=true then g ρ1 else .ok (false,ρ1)
def bOr (f g:Fb):Fb:=λ ρ=>(f ρ).bind λ (b,ρ1)=>if b=true then .ok (true,ρ1) else g ρ1
def bNot (f:Fb):Fb:=λ ρ=>(f ρ).bind λ (b,ρ1)=>.ok (!b,ρ1)
theorem qnk {σ:St}{H:Hp}{Q:Bool->Hp->Prop} (hq:tT M (bAnd fb gb) σ H Q):tAnd (tT M fb) (tT M gb) σ H Q:=by
 obtain ⟨ρ,fps,rep,q⟩:=hq
 refine ⟨ρ,fps,rep,?_⟩
 unfold bAnd at q
 cases ef:fb ρ with
 | no=>rw [ef] at q;exact q
 | exc c=>rw [ef] at q;exact q
 | ok p=>
  obtain ⟨b,ρ1⟩:=p
  rw [ef] at q
  intro H1 fps1 k1 g1 rep1
  dsimp only [Rz.bind] at q
  cases b with
  | false=>exact (q H1 fps1 k1 g1 rep1)
  | true=>
   refine ⟨ρ1,fps1,rep1,?_⟩
   rw [if_pos rfl] at q
   cases eg:gb ρ1 with
   | no=>rw [eg] at q;exact q
   | exc c=>rw [eg] at q;exact λ H' fps' k=>q H' fps' (k1.trans k)
   | ok p2=>rw [eg] at q;exact λ H' fps' k g r=>q H' fps' (k1.trans k) (g1.trans g) r
theorem qqb {σ:St}{H:Hp}{Q:Bool->Hp->Prop} (hq:tT M (bOr fb gb) σ H Q):tOr (tT M fb) (tT M gb) σ H Q:=by
 obtain ⟨ρ,fps,rep,q⟩:=hq
 refine ⟨ρ,fps,rep,?_⟩
 unfold bOr at q
 cases ef:fb ρ with
 | no=>rw [ef] at q;exact q
 | exc c=>rw [ef] at q;exact q
 | ok p=>
  obtain ⟨b,ρ1⟩:=p
  rw [ef] at q
  intro H1 fps1 k1 g1 rep1
  dsimp only [Rz.bind] at q
  cases b with
  | true=>exact (q H1 fps1 k1 g1 rep1)
  | false=>
   refine ⟨ρ1,fps1,rep1,?_⟩
   rw [if_neg jb6] at q
   cases eg:gb ρ1 with
   | no=>rw [eg] at q;exact q
   | exc c=>rw [eg] at q;exact λ H' fps' k=>q H' fps' (k1.trans k)
   | ok p2=>rw [eg] at q;exact λ H' fps' k g r=>q H' fps' (k1.trans k) (g1.trans g) r
theorem qnj {σ:St}{H:Hp}{Q:Bool->Hp->Prop} (hq:tT M (bNot fb) σ H Q):tNot (tT M fb) σ H Q:=by
 obtain ⟨ρ,fps,rep,q⟩:=hq
 refine ⟨ρ,fps,rep,?_⟩
 unfold bNot at q
 cases ef:fb ρ with
 | no=>rw [ef] at q;exact q
 | exc c=>rw [ef] at q;exact q
 | ok p=>obtain ⟨b,ρ1⟩:=p;rw [ef] at q;exact q
theorem Tmps.all {K:Frag}{H:Hp}{Z:Addr->Prop}:∀ {xs:List (PV×Nat)}{ws:List V}{fp:List Addr},Tmps K H Z xs ws fp->(∀ p∈xs,p.2=om)->OwnL K H Z (xs.map (·.1)) om ws fp
 | [],_,_,h,_=>by rw [jf0,OwnL];exact h
 | (x,d)::xs,ws,fp,h,ha=>by
  obtain ⟨v,s,f1,f2,e1,e2,dj,h1,h2⟩:=h
  have e:d=om:=ha (x,d) ja4
  subst e
  rw [jb7,OwnL]
  exact ⟨v,s,f1,f2,e1,e2,dj,Own.full x v f1 h1,h2.all λ p hp=>ha p (ja1 _ hp)⟩
theorem Tmps.cold {K:Frag}{H:Hp}{Z:Addr->Prop}:∀ {xs:List (PV×Nat)}{ws:List V}{fp:List Addr},Tmps K H Z xs ws fp->(∀ a∈fp,¬ Z a)->OwnL K H Z (xs.map (·.1)) 0 ws []
 | [],_,_,h,_=>by rw [jf0,OwnL];exact ⟨h.1,rfl⟩
 | (x,d)::xs,ws,fp,h,ha=>by
  obtain ⟨v,s,f1,f2,e1,e2,dj,h1,h2⟩:=h
  rw [jb7,OwnL]
  exact ⟨v,s,[],[],e1,rfl,λ _ z=>(nomatch z),Own.freeze (λ _ z=>.inl z) x d v f1 (λ a z=>ha a (by rw [e2];exact jb0 _ z)) h1,h2.cold λ a z=>ha a (by rw [e2];exact ja7 _ z)⟩
theorem Tmps.length {K:Frag}{H:Hp}{Z:Addr->Prop}:∀ {xs:List (PV×Nat)}{ws:List V}{fp:List Addr},Tmps K H Z xs ws fp->ws.length=xs.length
 | [],_,_,h=>by rw [h.1];rfl
 | (x,d)::xs,ws,fp,h=>by
  obtain ⟨v,s,f1,f2,e1,e2,dj,h1,h2⟩:=h
  rw [e1,ja9,ja9,h2.length]
theorem OwnL.length {K:Frag}{H:Hp}{Z:Addr->Prop}:∀ {xs:List PV}{d:Nat}{ws:List V}{fp:List Addr},OwnL K H Z xs d ws fp->ws.length=xs.length
 | [],_,_,_,h=>by rw [OwnL] at h;rw [h.1];rfl
 | x::xs,d,ws,fp,h=>by
  rw [OwnL] at h
  obtain ⟨v,s,f1,f2,e1,e2,dj,h1,h2⟩:=h
  rw [e1,ja9,ja9,h2.length]
end
inductive Rs where
 | nx (ρ:Rho) | rt (x:PV) (d:Nat) (ρ:Rho) | bk (ρ:Rho) | ct (ρ:Rho) | exc (c:Nat) | no
abbrev Fs:=Rho->Rs
structure KS (M:Fm) (H:Hp) (fps:Fps) (H':Hp) (fps':Fps):Prop where
 keep:Keep (λ a=>∃ i,a∈fps i) H H'
 dom:∀ a,H a≠none->H' a≠none
 sub:∀ i,∀ a∈fps' i,(∃ j,a∈fps j)\/H a=none
def Zr (M:Fm) (fps:Fps):Addr->Prop:=λ a=>M.Zo a\/(M.io≠none/\a∈fps 0)
def RsOk (M:Fm) (D:Ends) (H:Hp) (fps:Fps):Rs->Prop
 | .nx ρ'=>∀ σ' H' fps',KS M H fps H' fps'->Rep M ρ' σ' H' fps'->D.nx σ' H'
 | .bk ρ'=>∀ σ' H' fps',KS M H fps H' fps'->Rep M ρ' σ' H' fps'->D.bk σ' H'
 | .ct ρ'=>∀ σ' H' fps',KS M H fps H' fps'->Rep M ρ' σ' H' fps'->D.ct σ' H'
 | .rt x d ρ'=>∀ v σ' H' fps' fp,KS M H fps H' fps'->Rep M ρ' σ' H' fps'->Own M.K H' (λ a=>Zr M fps' a\/a∈fp) x d v fp->(∀ a∈fp,M.H₀ a=none/\¬ Zr M fps' a)->D.rt v H'
 | .exc c=>∀ σ' H' fps',KS M H fps H' fps'->M.W σ' c H'
 | .no=>False
def tS (M:Fm) (f:Fs):TS:=λ D σ H=>∃ ρ fps,Rep M ρ σ H fps/\RsOk M D H fps (f ρ)
section
variable {M:Fm}{ρ ρ':Rho}{σ σ':St}{H H' H'':Hp}{fps fps' fps'':Fps}{vs vs':List Nat}
theorem KS.refl:KS M H fps H fps:=⟨λ _ _ h _=>h,λ _ h=>h,λ i _ h=>.inl ⟨i,h⟩⟩
theorem KD.ks (k:KD M H fps H' fps'):KS M H fps H' fps':=⟨λ a o h n=>k.keep a o h λ ⟨i,_,z⟩=>n ⟨i,z⟩,k.dom,λ i a h=>(k.sub i a h).elim (λ z=>.inl ⟨i,z⟩) .inr⟩
theorem KS.trans (a:KS M H fps H' fps') (b:KS M H' fps' H'' fps''):KS M H fps H'' fps'' where
 keep:=λ x o h n=>b.keep x o (a.keep x o h n) λ ⟨i,hx⟩=>(a.sub i x hx).elim (λ z=>n z) λ z=>by rw [z] at h;cases h
 dom:=λ x h=>b.dom x (a.dom x h)
 sub:=λ i x hx=>(b.sub i x hx).elim (λ ⟨j,z⟩=>a.sub j x z) λ z=>.inr (by
  cases e:H x with
  | none=>rfl
  | some o=>exact absurd z (a.dom x (by rw [e];simp)))
theorem KS.stay0 (k:KS M H fps H' fps') (r:Rep M ρ σ H fps) {x:PV}{v:V} (h:Own M.K H (Zf M fps) x 0 v []):Own M.K H' (Zf M fps') x 0 v []:=by
 refine Own.move k.keep (λ a ⟨i,ha⟩=>⟨.inr ⟨i,ha⟩,r.lsts ha⟩) ?_ x 0 v [] (λ _ z=>nomatch z) h
 intro a hd nz z
 rcases z with z | ⟨i,hx⟩
 ·exact nz (.inl z)
 ·rcases k.sub i a hx with z | z
  ·exact nz (.inr z)
  ·exact hd z
def sNil:Fs:=λ ρ=>.nx ρ
def sSeq (f g:Fs):Fs:=λ ρ=>match f ρ with
 | .nx ρ1=>g ρ1
 | r=>r
theorem qnq {D:Ends} (hq:tS M sNil D σ H):qnu D σ H:=by
 obtain ⟨ρ,fps,rep,q⟩:=hq
 exact q σ H fps KS.refl rep
def sIf (c:Fb) (f g:Fs):Fs:=λ ρ=>match c ρ with
 | .ok (b,ρ1)=>if b=true then f ρ1 else g ρ1
 | .exc e=>.exc e
 | .no=>.no
theorem RsOk.from {D:Ends}{r:Rs} (k1:KS M H fps H' fps') (q:RsOk M D H fps r):RsOk M D H' fps' r:=by
 cases r with
 | no=>exact q
 | exc c=>exact λ σ' H' fps' k=>q σ' H' fps' (k1.trans k)
 | rt x d ρ2=>exact λ v σ' H' fps' fp k=>q v σ' H' fps' fp (k1.trans k)
 | bk ρ2=>exact λ σ' H' fps' k=>q σ' H' fps' (k1.trans k)
 | ct ρ2=>exact λ σ' H' fps' k=>q σ' H' fps' (k1.trans k)
 | nx ρ2=>exact λ σ' H' fps' k=>q σ' H' fps' (k1.trans k)
theorem qnm {f g:Fs}{D:Ends} (hq:tS M (sSeq f g) D σ H):tSeq (tS M f) (tS M g) D σ H:=by
 obtain ⟨ρ,fps,rep,q⟩:=hq
 refine ⟨ρ,fps,rep,?_⟩
 unfold sSeq at q
 cases ef:f ρ with
 | no=>rw [ef] at q;exact q
 | exc c=>rw [ef] at q;exact q
 | rt x d ρ1=>rw [ef] at q;exact q
 | bk ρ1=>rw [ef] at q;exact q
 | ct ρ1=>rw [ef] at q;exact q
 | nx ρ1=>
  rw [ef] at q
  exact λ σ1 H1 fps1 k1 rep1=>⟨ρ1,fps1,rep1,RsOk.from k1 q⟩
theorem qqc {c:Fb}{f g:Fs}{D:Ends} (hq:tS M (sIf c f g) D σ H):tIfS (tT M c) (tS M f) (tS M g) D σ H:=by
 obtain ⟨ρ,fps,rep,q⟩:=hq
 refine ⟨ρ,fps,rep,?_⟩
 unfold sIf at q
 cases ef:c ρ with
 | no=>rw [ef] at q;exact q
 | exc c=>rw [ef] at q;exact λ H' fps' k=>q _ H' fps' k.ks
 | ok p=>
  obtain ⟨b,ρ1⟩:=p
  rw [ef] at q
  intro H1 fps1 k1 g1 rep1
  dsimp only at q
  cases b with
  | true=>
   rw [if_pos rfl] at q ⊢
   exact ⟨ρ1,fps1,rep1,RsOk.from k1.ks q⟩
  | false=>
   rw [if_neg jb6] at q ⊢
   exact ⟨ρ1,fps1,rep1,RsOk.from k1.ks q⟩
def cool (vs:List Nat):Nat->Rho->Rho
 | _,[]=>[]
 | k,s::r=>(if vs.contains k then s.map λ p=>(p.1,0) else s)::cool vs (k + 1) r
def zxk (d:Nat) (vs:List Nat) (ρ:Rho):Rho:=if d=om then ρ else cool vs 0 ρ
theorem zba (vs:List Nat):∀ (ρ:Rho) (k i:Nat),(cool vs k ρ)[i]?=(ρ[i]?).map λ s=>if vs.contains (k + i) then s.map λ p=>(p.1,0) else s
 | [],k,i=>by simp [cool]
 | s::r,k,0=>by simp [cool]
 | s::r,k,i + 1=>by
  rw [cool,jg9,zba vs r (k + 1) i,jg9]
  have:k + 1 + i=k + (i + 1):=by omega
  rw [this]
theorem zfn (vs:List Nat):∀ (ρ:Rho) (k:Nat),(cool vs k ρ).length=ρ.length
 | [],_=>rfl
 | s::r,k=>by rw [cool,ja9,zfn vs r (k + 1),ja9]
def zkx (vs:List Nat) (fps:Fps):Fps:=λ i=>if vs.contains i then [] else fps i
theorem zxx {a:Addr}{i:Nat} (h:a∈zkx vs fps i):a∈fps i/\i∉vs:=by
 unfold zkx at h
 split at h
 ·cases h
 ·rename_i n;exact ⟨h,λ z=>n (by simpa using z)⟩
theorem zkl {a:Addr} (h:Zf M (zkx vs fps) a):Zv M vs fps a:=h.elim .inl λ ⟨i,z⟩=>.inr ⟨i,(zxx z).2,(zxx z).1⟩
theorem Rep.cool (r:Rep M ρ σ H fps) (hal:∀ i,M.al i=[]) (hv:∀ i∈vs,M.Ms i=false):Rep M (cool vs 0 ρ) σ H (zkx vs fps) where
 own:=λ i x d e=>by
  rw [zba] at e
  cases e1:ρ[i]? with
  | none=>rw [e1] at e;cases e
  | some s=>
   rw [e1] at e
   simp only [jj9,jm4] at e
   by_cases hc:vs.contains i=true
   ·rw [if_pos hc] at e
    cases s with
    | none=>cases e
    | some p=>
     obtain ⟨x0,d0⟩:=p
     simp only [jj9,Option.some.injEq,Prod.mk.injEq] at e
     obtain ⟨rfl,rfl⟩:=e
     obtain ⟨v,hσ,o⟩:=r.own0 hal i x0 d0 e1
     refine ⟨v,hσ,Own.weak (Z:=Zf M (zkx vs fps)) (λ a h=>h.zf) ?_⟩
     have:zkx vs fps i=[]:=by unfold zkx;rw [if_pos hc]
     rw [this]
     exact Own.freeze (λ a h=>Zv.zf (zkl h)) x0 d0 v _ (λ a ha z=>by
      rcases z with z | ⟨j,z⟩
      ·exact r.zo i a ha z
      ·obtain ⟨z1,z2⟩:=zxx z
       exact r.dj i j (λ e=>z2 (by rw [<- e];simpa using hc)) a ha z1) o
   ·rw [if_neg hc] at e
    cases e
    obtain ⟨v,hσ,o⟩:=r.own0 hal i x d e1
    refine ⟨v,hσ,Own.weak (Z:=Zf M (zkx vs fps)) (λ a h=>h.zf) ?_⟩
    have:zkx vs fps i=fps i:=by unfold zkx;rw [if_neg hc]
    rw [this]
    exact o.weak λ a h=>Zv.zf (zkl h)
 non:=λ i h=>by
  unfold zkx
  split
  ·rfl
  ·rename_i hc
   refine r.non i λ p e=>h p ?_
   rw [zba,e]
   simp only [jj9,jm4]
   rw [if_neg hc]
 dj:=λ i j hij a ha hb=>r.dj i j hij a (zxx ha).1 (zxx hb).1
 zo:=λ i a ha=>r.zo i a (zxx ha).1
 fr:=λ i hi a ha=>r.fr i hi a (zxx ha).1
 zd:=r.zd
 len:=by rw [zfn];exact r.len
 msf:=λ i x d hi e=>by
  rw [zba] at e
  cases e1:ρ[i]? with
  | none=>rw [e1] at e;cases e
  | some s=>
   rw [e1] at e
   simp only [jj9,jm4] at e
   have hc:¬ vs.contains i=true:=λ z=>by rw [hv i (by simpa using z)] at hi;cases hi
   rw [if_neg hc] at e
   cases e
   exact r.msf i x d hi e1
 h0:=r.h0
 iov:=r.iov
theorem KS.cool (k:KS M H fps H' fps'):KS M H fps H' (zkx vs fps'):=⟨k.keep,k.dom,λ i a h=>k.sub i a (zxx h).1⟩
theorem Rep.wide {fp:List Addr} (hal:∀ i,∀ j∈M.al i,M.Ms j=false) (r:Rep M ρ σ H fps) (k:KD M H fps H' fps') (g:Agr M ρ ρ') (r':Rep M ρ' σ H' fps') (hf:∀ a∈fp,H a=none/\H' a≠none/\¬ Zf M fps' a):Rep (M.plus fp) ρ' σ H' fps' where
 own:=λ i x d e=>by
  by_cases hm:M.Ms i=true
  ·obtain ⟨v,hv,o⟩:=r'.own i x d e
   have hd:=r'.msf i x d hm e
   subst hd
   exact ⟨v,hv,Own.full x v _ o⟩
  ·have hm':M.Ms i=false:=by simpa using hm
   rw [g.1 i hm'] at e
   obtain ⟨v,hv,o⟩:=r.own i x d e
   refine ⟨v,hv,?_⟩
   rw [k.same i hm']
   refine Own.move k.keep (λ a ⟨j,hj,ha⟩=>⟨.inr ⟨j,λ z=>(by rw [hal i j z] at hj;cases hj),ha⟩,r.lsts ha⟩) ?_ x d v _ ?_ o
   ·intro a hd nz z
    rcases z with (z | z) | ⟨j,nj,z⟩
    ·exact nz (.inl z)
    ·exact hd (hf a z).1
    ·rcases k.sub j a z with z | z
     ·exact nz (.inr ⟨j,nj,z⟩)
     ·exact hd z
   ·rintro a ha ⟨j,hj,hx⟩
    exact r.dj i j (λ e=>by rw [e,hj] at hm';cases hm') a ha hx
 non:=r'.non
 dj:=r'.dj
 zo:=λ i a ha z=>z.elim (r'.zo i a ha) λ z=>(hf a z).2.2 (.inr ⟨i,ha⟩)
 fr:=r'.fr
 zd:=λ a z=>z.elim (r'.zd a) λ z=>(hf a z).2.1
 len:=r'.len
 msf:=r'.msf
 h0:=r'.h0
 iov:=r'.iov
theorem Rep.put {i:Nat}{x:PV}{d:Nat}{v:V}{fp:List Addr} (r:Rep (M.plus fp) ρ σ H fps) (h:Own M.K H (λ a=>Za M fps i a\/a∈fp) x d v fp) (hf:∀ a∈fp,M.H₀ a=none/\¬ M.Zo a) (hi:i < ρ.length) (hm:M.Ms i=true->d=om) (hio:M.Fre i):
  Rep M (ρ.set i (some (x,d))) (σ.set i (some v)) H (λ j=>if j=i then fp else fps j):=by
 have zz:∀ a,Zf M (λ j=>if j=i then fp else fps j) a->Zf M fps a\/a∈fp:=λ a h=>by
  rcases h with z | ⟨j,z⟩
  ·exact .inl (.inl z)
  ·by_cases e:j=i
   ·simp only [if_pos e] at z;exact .inr z
   ·simp only [if_neg e] at z;exact .inl (.inr ⟨j,z⟩)
 have zz2:∀ a,Zf M fps a\/a∈fp->Zf (M.plus fp) fps a:=λ a h=>h.elim (λ h=>h.elim (λ z=>.inl (.inl z)) λ z=>.inr z) λ z=>.inl (.inr z)
 refine ⟨λ j y e hj=>?_,λ j hj=>?_,λ j k hjk a ha hb=>?_,λ j a ha z=>?_,λ j hj a ha=>?_,λ a z=>r.zd a (.inl z),?_,λ j y e hj he=>?_,r.h0,?_⟩
 ·by_cases e:j=i
  ·subst e
   rw [jd6 hi] at hj
   cases hj
   refine ⟨v,by rw [jd6 (by rw [<- r.len];exact hi)],?_⟩
   rw [if_pos rfl]
   refine h.weak λ a h=>?_
   rcases h with z | ⟨k,nk,z⟩
   ·exact .inl (.inl z)
   ·by_cases ek:k=j
    ·simp only [if_pos ek] at z;exact .inr z
    ·simp only [if_neg ek] at z;exact .inl (.inr ⟨k,nk,z⟩)
  ·rw [jc7 (vd0 e)] at hj
   obtain ⟨w,hw,o⟩:=r.own j y _ hj
   refine ⟨w,by rw [jc7 (vd0 e)];exact hw,?_⟩
   rw [if_neg e]
   refine o.weak λ a h=>?_
   rcases h with z | ⟨k,nk,z⟩
   ·exact .inl (.inl z)
   ·by_cases ek:k=i
    ·simp only [if_pos ek] at z;exact .inl (.inr z)
    ·simp only [if_neg ek] at z;exact .inr ⟨k,nk,z⟩
 ·by_cases e:j=i
  ·subst e
   exact absurd (jd6 hi) (hj _)
  ·rw [if_neg e]
   exact r.non j λ p hp=>hj p (by rw [jc7 (vd0 e)];exact hp)
 ·by_cases e1:j=i
  ·by_cases e2:k=i
   ·exact hjk (e1.trans e2.symm)
   ·rw [if_pos e1] at ha
    rw [if_neg e2] at hb
    exact r.zo k a hb (.inr ha)
  ·rw [if_neg e1] at ha
   by_cases e2:k=i
   ·rw [if_pos e2] at hb
    exact r.zo j a ha (.inr hb)
   ·rw [if_neg e2] at hb
    exact r.dj j k hjk a ha hb
 ·by_cases e:j=i
  ·rw [if_pos e] at ha;exact (hf a ha).2 z
  ·rw [if_neg e] at ha;exact r.zo j a ha (.inl z)
 ·by_cases e:j=i
  ·rw [if_pos e] at ha;exact (hf a ha).1
  ·rw [if_neg e] at ha;exact r.fr j hj a ha
 ·rw [jf1,jf1];exact r.len
 ·by_cases e:j=i
  ·subst e
   rw [jd6 hi] at he
   cases he
   exact hm hj
  ·rw [jc7 (vd0 e)] at he
   exact r.msf j y _ hj he
 ·refine ⟨λ w hw=>?_,λ p hp=>?_⟩
  ·have h0:i≠0:=hio.1 (by rw [hw];simp)
   rw [jc7 h0]
   exact r.iov.1 w hw
  ·rw [jc7 (hio.2 p hp).symm]
   exact r.iov.2 p hp
def sSet (ms:Bool) (i:Nat) (f:Fx) (vs:List Nat):Fs:=λ ρ=>match f ρ with
 | .ok (x,d,ρ1)=>if i < ρ1.length/\(ms=true->d=om) then .nx ((zxk d vs ρ1).set i (some (x,d))) else .no
 | .exc c=>.exc c
 | .no=>.no
theorem Rep.store {i:Nat}{x:PV}{d:Nat}{v:V}{fp:List Addr} (rep:Rep M ρ σ H fps) (k:KD M H fps H' fps') (g:Agr M ρ ρ') (r':Rep M ρ' σ H' fps') (o:Own M.K H' (Zt M vs fps' fp) x d v fp) (t:Temp M vs H H' fps' fp)
  (hal:∀ i,M.al i=[]) (hv:∀ i∈vs,M.Ms i=false) (hi:i < ρ'.length) (hm:M.Ms i=true->d=om) (hio:M.Fre i):
  ∃ fps2,KS M H fps H' fps2/\Rep M ((zxk d vs ρ').set i (some (x,d))) (σ.set i (some v)) H' fps2:=by
 have back:∀ a,H a=none->M.H₀ a=none:=λ a e=>by
  cases e':M.H₀ a with
  | none=>rfl
  | some o=>exact absurd e (rep.h0 a (by rw [e'];simp))
 have w:Rep (M.plus fp) ρ' σ H' fps':=rep.wide (λ i j hj=>by rw [hal i] at hj;cases hj) k g r' λ a ha=>⟨t.new a ha,by obtain ⟨xs,e⟩:=Own.lsts x d v fp o a ha;rw [e];simp,t.ndj a ha⟩
 have hf:∀ a∈fp,M.H₀ a=none/\¬ M.Zo a:=λ a ha=>⟨back a (t.new a ha),λ z=>t.ndj a ha (.inl z)⟩
 have ks2:∀ {fps2:Fps},(∀ i a,a∈fps2 i->a∈fps' i)->KS M H fps H' (λ j=>if j=i then fp else fps2 j):=λ {fps2} h2=>⟨k.ks.keep,k.dom,λ j a ha=>by
  by_cases e:j=i
  ·simp only [if_pos e] at ha;exact .inr (t.new a ha)
  ·simp only [if_neg e] at ha;exact k.ks.sub j a (h2 j a ha)⟩
 unfold zxk
 by_cases hd:d=om
 ·rw [if_pos hd]
  refine ⟨_,ks2 λ _ _ h=>h,w.put (i:=i) (x:=x) (d:=d) (v:=v) ?_ hf hi hm hio⟩
  rw [hd] at o ⊢
  exact Own.full x v fp o
 ·rw [if_neg hd]
  refine ⟨_,ks2 λ _ _ h=>(zxx h).1,(w.cool (vs:=vs) hal hv).put (i:=i) (x:=x) (d:=d) (v:=v) ?_ hf (by rw [zfn];exact hi) hm hio⟩
  exact o.weak λ a h=>h.elim (λ h=>.inl (zkl h.zf)) .inr
theorem qjj {f:Fx}{i:Nat}{ms:Bool}{D:Ends} (hal:∀ i,M.al i=[]) (hv:∀ i∈vs,M.Ms i=false) (hms:M.Ms i=ms) (hio:M.Fre i) (hq:tS M (sSet ms i f vs) D σ H):tAsg (tE M f vs) (zpn i) D σ H:=by
 obtain ⟨ρ,fps,rep,q⟩:=hq
 refine ⟨ρ,fps,rep,?_⟩
 unfold sSet at q
 cases ef:f ρ with
 | no=>rw [ef] at q;exact q
 | exc c=>rw [ef] at q;exact λ H' fps' k=>q _ H' fps' k.ks
 | ok p=>
  obtain ⟨x,d,ρ1⟩:=p
  rw [ef] at q
  intro v H1 fps1 f1 k1 g1 rep1 o1 t1
  dsimp only at q
  by_cases hc:i < ρ1.length/\(ms=true->d=om)
  ·rw [if_pos hc] at q
   obtain ⟨fps2,k2,r2⟩:=Rep.store rep k1 g1 rep1 o1 t1 hal hv hc.1 (λ h=>hc.2 (by rw [<- hms];exact h)) hio
   exact q _ _ _ k2 r2
  ·rw [if_neg hc] at q;exact q.elim
end
section
variable {M:Fm}{ρ ρ':Rho}{σ σ':St}{H H' H'':Hp}{fps fps' fps'':Fps}{vs vs':List Nat}
theorem Zr.zf {a:Addr} (h:Zr M fps a):Zf M fps a:=h.elim .inl λ h=>.inr ⟨0,h.2⟩
theorem Rep.zr (r:Rep M ρ σ H fps) (hv:∀ i∈vs,M.Ms i=false) {a:Addr} (h:Zr M fps a):Zv M vs fps a:=by
 rcases h with h | ⟨h1,h2⟩
 ·exact .inl h
 ·refine .inr ⟨0,λ z=>?_,h2⟩
  cases e:M.io with
  | none=>exact h1 e
  | some v=>have:=(r.iov.1 v e).2;rw [hv 0 z] at this;cases this
theorem Rep.h0' (r:Rep M ρ σ H fps) {a:Addr} (e:H a=none):M.H₀ a=none:=by
 cases e':M.H₀ a with
 | none=>rfl
 | some o=>exact absurd e (r.h0 a (by rw [e'];simp))
def sRet (f:Fx):Fs:=λ ρ=>match f ρ with
 | .ok (x,d,ρ1)=>.rt x d ρ1
 | .exc c=>.exc c
 | .no=>.no
theorem qnn {f:Fx}{D:Ends} (hv:∀ i∈vs,M.Ms i=false) (hq:tS M (sRet f) D σ H):tRet (tE M f vs) D σ H:=by
 obtain ⟨ρ,fps,rep,q⟩:=hq
 refine ⟨ρ,fps,rep,?_⟩
 unfold sRet at q
 cases ef:f ρ with
 | no=>rw [ef] at q;exact q
 | exc c=>rw [ef] at q;exact λ H' fps' k=>q _ H' fps' k.ks
 | ok p=>
  obtain ⟨x,d,ρ1⟩:=p
  rw [ef] at q
  intro v H1 fps1 f1 k1 g1 rep1 o1 t1
  exact q v σ H1 fps1 f1 k1.ks rep1 (o1.weak λ a h=>h.elim (λ h=>.inl (rep1.zr hv h)) .inr) λ a ha=>⟨rep.h0' (t1.new a ha),λ z=>t1.ndj a ha z.zf⟩
def zjj (i:Nat):Fs:=λ ρ=>match ρ[i]? with
 | some (some (x,d))=>.rt x d ρ
 | _=>.no
theorem qkv {i:Nat}{D:Ends} (hal:∀ i,M.al i=[]) (hm:M.Ms i=false) (hq:tS M (zjj i) D σ H):tRet (tVar i) D σ H:=by
 obtain ⟨ρ,fps,rep,q⟩:=hq
 unfold zjj at q
 cases e0:ρ[i]? with
 | none=>rw [e0] at q;exact q.elim
 | some sl=>
  cases sl with
  | none=>rw [e0] at q;exact q.elim
  | some p=>
   obtain ⟨x,d⟩:=p
   rw [e0] at q
   obtain ⟨v,hv,o⟩:=rep.own0 hal i x d e0
   refine ⟨v,hv,q v σ H fps (fps i) KS.refl rep (o.weak λ a h=>h.elim Zr.zf λ z=>.inr ⟨i,z⟩) λ a ha=>⟨rep.fr i hm a ha,λ z=>?_⟩⟩
   rcases z with z | ⟨z1,z2⟩
   ·exact rep.zo i a ha z
   ·cases e:M.io with
    | none=>exact z1 e
    | some w=>exact rep.dj i 0 (λ e'=>by rw [e',(rep.iov.1 w e).2] at hm;cases hm) a ha z2
def zve (f:Fx):Fs:=λ ρ=>match f ρ with
 | .ok (_,_,ρ1)=>.nx ρ1
 | .exc c=>.exc c
 | .no=>.no
theorem qky {f:Fx}{D:Ends} (hq:tS M (zve f) D σ H):qk4 (tE M f vs) D σ H:=by
 obtain ⟨ρ,fps,rep,q⟩:=hq
 refine ⟨ρ,fps,rep,?_⟩
 unfold zve at q
 cases ef:f ρ with
 | no=>rw [ef] at q;exact q
 | exc c=>rw [ef] at q;exact λ H' fps' k=>q _ H' fps' k.ks
 | ok p=>
  obtain ⟨x,d,ρ1⟩:=p
  rw [ef] at q
  intro v H1 fps1 f1 k1 g1 rep1 o1 t1
  exact q σ H1 fps1 k1.ks rep1
theorem OwnL.snoc {K:Frag}{Z:Addr->Prop}{y:PV}{d:Nat}{w:V}{fy:List Addr}:∀ {xs:List PV}{ws:List V}{f:List Addr},OwnL K H Z xs d ws f->Own K H Z y d w fy->(∀ a∈f,a∉fy)->OwnL K H Z (xs++[y]) d (ws++[w]) (f++fy)
 | [],ws,f,h,hy,_=>by
  rw [OwnL] at h
  obtain ⟨rfl,rfl⟩:=h
  show OwnL K H Z [y] d [w] fy
  rw [OwnL]
  refine ⟨w,[],fy,[],rfl,by simp,λ _ _ z=>(nomatch z),hy,?_⟩
  rw [OwnL];exact ⟨rfl,rfl⟩
 | x::xs,ws,f,h,hy,hd=>by
  rw [OwnL] at h
  obtain ⟨v,s,f1,f2,rfl,rfl,dj,h1,h2⟩:=h
  show OwnL K H Z (x::(xs++[y])) d (v::(s++[w])) (f1++f2++fy)
  rw [OwnL]
  refine ⟨v,s++[w],f1,f2++fy,rfl,by rw [jk3],λ a ha hb=>?_,h1,h2.snoc hy λ a ha=>hd a (ja7 _ ha)⟩
  rcases jc9.mp hb with z | z
  ·exact dj a ha z
  ·exact hd a (jb0 _ ha) z
theorem Own.at {K:Frag}{Z Z':Addr->Prop}{a:Addr}{o:HO}{x:PV}{d:Nat}{v:V}{fp:List Addr} (h:Own K H Z x d v fp) (hZ:Z a) (hl:∃ o:MO,H a=some o.ho) (hf:a∉fp) (hz:∀ b,H b≠none->¬ Z b->¬ Z' b):Own K (upd H a o) Z' x d v fp:=
 Own.move (S:=λ b=>b=a) (λ b u hb n=>by rw [zqk n];exact hb) (λ b e=>by rw [e];exact ⟨hZ,hl⟩) hz x d v fp (λ b hb e=>hf (by rw [<- e];exact hb)) h
theorem OwnL.at {K:Frag}{Z Z':Addr->Prop}{a:Addr}{o:HO}{x:List PV}{d:Nat}{v:List V}{fp:List Addr} (h:OwnL K H Z x d v fp) (hZ:Z a) (hl:∃ o:MO,H a=some o.ho) (hf:a∉fp) (hz:∀ b,H b≠none->¬ Z b->¬ Z' b):OwnL K (upd H a o) Z' x d v fp:=
 OwnL.move (S:=λ b=>b=a) (λ b u hb n=>by rw [zqk n];exact hb) (λ b e=>by rw [e];exact ⟨hZ,hl⟩) hz x d v fp (λ b hb e=>hf (by rw [<- e];exact hb)) h
theorem Rep.rewrite {i:Nat}{xs:List PV}{d:Nat}{a:Addr}{ws:List V}{zs:List PV}{us:List V}{e:Nat}{f f' fp:List Addr} (hal:∀ i,M.al i=[]) (r:Rep (M.plus fp) ρ σ H fps) (hi:ρ[i]?=some (some (.lst xs,d))) (hσ:σ[i]?=some (some (.ref a)))
  (ha:H a=some (.lst ws)) (hfp:fps i=a::f) (hn:a∉f') (hsub:∀ b∈f',b∈f\/b∈fp) (he:e≠0) (hm:M.Ms i=true->e=om) (hH:∀ b∈fp,M.H₀ b=none/\¬ M.Zo b)
  (hnew:OwnL M.K (upd H a (.lst us)) (Zf M (λ j=>if j=i then a::f' else fps j)) zs (pd e) us f'):
  Rep M (ρ.set i (some (.lst zs,e))) σ (upd H a (.lst us)) (λ j=>if j=i then a::f' else fps j):=by
 have hlen:i < ρ.length:=(jb3.mp hi).1
 have hai:a∈fps i:=by rw [hfp];exact ja4
 have zz:∀ b,Zf M (λ j=>if j=i then a::f' else fps j) b->Zf (M.plus fp) fps b:=λ b h=>by
  rcases h with z | ⟨j,z⟩
  ·exact .inl (.inl z)
  ·by_cases ej:j=i
   ·simp only [if_pos ej] at z
    rcases ja6.mp z with z | z
    ·exact .inr ⟨i,by rw [z];exact hai⟩
    ·rcases hsub b z with z | z
     ·exact .inr ⟨i,by rw [hfp];exact ja1 _ z⟩
     ·exact .inl (.inr z)
   ·simp only [if_neg ej] at z;exact .inr ⟨j,z⟩
 have dm:∀ b,H b≠none->(upd H a (.lst us)) b≠none:=λ b h=>by
  by_cases eb:b=a
  ·rw [eb,zqm];simp
  ·rw [zqk eb];exact h
 have inI:∀ b,b∈a::f'->b∈fps i\/b∈fp:=λ b hb=>by
  rcases ja6.mp hb with z | z
  ·exact .inl (by rw [z];exact hai)
  ·rcases hsub b z with z | z
   ·exact .inl (by rw [hfp];exact ja1 _ z)
   ·exact .inr z
 refine ⟨λ j y c hj=>?_,λ j hj=>?_,λ j k hjk b hb hc=>?_,λ j b hb z=>?_,λ j hj b hb=>?_,λ b z=>dm b (r.zd b (.inl z)),by rw [jf1];exact r.len,λ j y c hj hc=>?_,λ b z=>dm b (r.h0 b z),r.iov⟩
 ·by_cases ej:j=i
  ·subst ej
   rw [jd6 hlen] at hj
   cases hj
   refine ⟨_,hσ,?_⟩
   rw [if_pos rfl,Own]
   exact ⟨a,us,rfl,.inr ⟨he,f',zqm,rfl,hn,hnew.weak λ _ h=>h.zf⟩⟩
  ·rw [jc7 (vd0 ej)] at hj
   obtain ⟨w,hw,ow⟩:=r.own0 hal j y c hj
   refine ⟨w,hw,?_⟩
   rw [if_neg ej]
   exact ow.at (.inr ⟨i,hai⟩) ⟨.l ws,ha⟩ (λ z=>r.dj j i ej a z hai) λ b _ nz z=>nz (zz b z.zf)
 ·by_cases ej:j=i
  ·subst ej;exact absurd (jd6 hlen) (hj _)
  ·rw [if_neg ej]
   exact r.non j λ p hp=>hj p (by rw [jc7 (vd0 ej)];exact hp)
 ·have one:∀ k,k≠i->∀ b,b∈a::f'->b∈fps k->False:=λ k hk b h1 h2=>(inI b h1).elim (λ z=>r.dj i k (vd0 hk) b z h2) λ z=>r.zo k b h2 (.inr z)
  by_cases e1:j=i
  ·by_cases e2:k=i
   ·exact hjk (e1.trans e2.symm)
   ·rw [if_pos e1] at hb
    rw [if_neg e2] at hc
    exact one k e2 b hb hc
  ·rw [if_neg e1] at hb
   by_cases e2:k=i
   ·rw [if_pos e2] at hc
    exact one j e1 b hc hb
   ·rw [if_neg e2] at hc
    exact r.dj j k hjk b hb hc
 ·by_cases ej:j=i
  ·rw [if_pos ej] at hb
   rcases inI b hb with y | y
   ·exact r.zo i b y (.inl z)
   ·exact (hH b y).2 z
  ·rw [if_neg ej] at hb;exact r.zo j b hb (.inl z)
 ·by_cases ej:j=i
  ·rw [if_pos ej] at hb
   rcases inI b hb with y | y
   ·exact r.fr i (by rw [<- ej];exact hj) b y
   ·exact (hH b y).1
  ·rw [if_neg ej] at hb;exact r.fr j hj b hb
 ·by_cases ej:j=i
  ·subst ej
   rw [jd6 hlen] at hc
   cases hc
   exact hm hj
  ·rw [jc7 (vd0 ej)] at hc
   exact r.msf j y c hj hc
end
section
variable {M:Fm}{ρ ρ':Rho}{σ σ':St}{H H' H'':Hp}{fps fps' fps'':Fps}{vs vs':List Nat}
theorem KS.write {a:Addr}{o:HO}{i:Nat}{f' fp:List Addr} (k:KS M H fps H' fps') (ha:∃ j,a∈fps j) (hs:∀ b∈a::f',b∈fps' i\/H b=none):
  KS M H fps (upd H' a o) (λ j=>if j=i then a::f' else fps' j) where
 keep:=λ b u hb n=>by rw [zqk (λ e=>n (by rw [e];exact ha))];exact k.keep b u hb n
 dom:=λ b hb=>by
  by_cases e:b=a
  ·rw [e,zqm];simp
  ·rw [zqk e];exact k.dom b hb
 sub:=λ j b hb=>by
  by_cases e:j=i
  ·simp only [if_pos e] at hb
   rcases hs b hb with z | z
   ·exact k.sub i b z
   ·exact .inr z
  ·simp only [if_neg e] at hb;exact k.sub j b hb
theorem Rep.behind {x:PV}{d:Nat}{v:V}{fp:List Addr} (rep:Rep M ρ σ H fps) (k:KD M H fps H' fps') (g:Agr M ρ ρ') (r':Rep M ρ' σ H' fps') (o:Own M.K H' (Zt M vs fps' fp) x d v fp) (t:Temp M vs H H' fps' fp)
  (hal:∀ i,M.al i=[]) (hv:∀ i∈vs,M.Ms i=false):∃ fps2,KS M H fps H' fps2/\Rep (M.plus fp) (zxk d vs ρ') σ H' fps2/\Own M.K H' (λ a=>Zf M fps2 a\/a∈fp) x d v fp/\(∀ a∈fp,¬ Zf M fps2 a)/\(∀ i a,a∈fps2 i->a∈fps' i)/\(∀ a∈fp,M.H₀ a=none/\¬ M.Zo a):=by
 have w:Rep (M.plus fp) ρ' σ H' fps':=rep.wide (λ i j hj=>by rw [hal i] at hj;cases hj) k g r' λ a ha=>⟨t.new a ha,by obtain ⟨xs,e⟩:=Own.lsts x d v fp o a ha;rw [e];simp,t.ndj a ha⟩
 have hf:∀ a∈fp,M.H₀ a=none/\¬ M.Zo a:=λ a ha=>⟨rep.h0' (t.new a ha),λ z=>t.ndj a ha (.inl z)⟩
 unfold zxk
 by_cases hd:d=om
 ·rw [if_pos hd]
  refine ⟨fps',k.ks,w,?_,t.ndj,λ _ _ h=>h,hf⟩
  rw [hd] at o ⊢
  exact Own.full x v fp o
 ·rw [if_neg hd]
  exact ⟨zkx vs fps',k.ks.cool,w.cool hal hv,o.weak λ a h=>h.elim (λ h=>.inl (zkl h)) .inr,λ a ha z=>t.ndj a ha (zkl z).zf,λ _ _ h=>(zxx h).1,hf⟩
def sApp (i:Nat) (f:Fx) (vs:List Nat):Fs:=λ ρ=>match ρ[i]? with
 | some (some (.lst _,0))=>.no
 | some (some (.lst _,_ + 1))=>(match f ρ with
  | .ok (y,e,ρ1)=>(match (zxk e vs ρ1)[i]? with
   | some (some (.lst xs,d))=>if d≠0/\xs.length < va8 then .nx ((zxk e vs ρ1).set i (some (.lst (xs++[y]),if d=om/\e=om then om else 1))) else .no
   | _=>.no)
  | .exc c=>.exc c
  | .no=>.no)
 | _=>.no
theorem qbu:pd 1=0:=by decide
theorem Own.list {K:Frag}{Z:Addr->Prop}{xs:List PV}{d:Nat}{v:V}{fp:List Addr} (h:Own K H Z (.lst xs) d v fp) (hd:d≠0):∃ a ws f,v=.ref a/\H a=some (.lst ws)/\fp=a::f/\a∉f/\OwnL K H Z xs (pd d) ws f:=by
 rw [Own] at h
 obtain ⟨a,ws,e,⟨d0,_⟩ | ⟨_,f,h1,h2,h3,h4⟩⟩:=h
 ·exact absurd d0 hd
 ·exact ⟨a,ws,f,e,h1,h2,h3,h4⟩
theorem qnr {f:Fx}{i:Nat}{D:Ends} (hal:∀ i,M.al i=[]) (hv:∀ i∈vs,M.Ms i=false) (hm:M.Ms i=false) (hq:tS M (sApp i f vs) D σ H):qk4 (tBM M.K "list" qen (tVar i) (qk5 (tE M f vs) tNil)) D σ H:=by
 obtain ⟨ρ,fps,rep,q⟩:=hq
 unfold sApp at q
 split at q
 ·exact q.elim
 ·rename_i xs0 d0 e0
  obtain ⟨v,hσ,o⟩:=rep.own0 hal i _ _ e0
  obtain ⟨a,ws0,fc0,rfl,ha0,hfp0,_,_⟩:=o.list (jr1 _)
  refine ⟨_,hσ,qkn (.inl (.inl ha0)),ρ,fps,rep,?_⟩
  cases ef:f ρ with
  | no=>rw [ef] at q;exact q
  | exc c=>rw [ef] at q;exact λ H' fps' k=>q _ H' fps' k.ks
  | ok p=>
   obtain ⟨y,e,ρ1⟩:=p
   rw [ef] at q
   intro w H1 fps1 fp k1 g1 rep1 o1 t1
   dsimp only at q
   split at q
   ·rename_i xs d es
    split at q
    ·rename_i hc
     obtain ⟨fps2,k2,r2,o2,n2,s2,h2⟩:=Rep.behind rep k1 g1 rep1 o1 t1 hal hv
     obtain ⟨v',hσ',ol⟩:=r2.own0 hal i _ _ es
     rw [hσ] at hσ'
     cases hσ'
     obtain ⟨a',ws,fc,ev,ha,hfp,nac,hol⟩:=ol.list hc.1
     cases ev
     have hai:a∈fps2 i:=by rw [hfp];exact ja4
     have hafp:a∉fp:=λ z=>n2 a z (.inr ⟨i,hai⟩)
     have hst:∃ j,a∈fps j:=⟨i,by have:=s2 i a hai;rw [k1.same i hm] at this;exact this⟩
     refine ⟨a,ws,w,rfl,rfl,ha,by rw [hol.length];exact hc.2,?_⟩
     by_cases ho:d=om/\e=om
     ·rw [if_pos ho] at q
      obtain ⟨rfl,rfl⟩:=ho
      refine q σ _ _ (k2.write (i:=i) (f':=fc++fp) (fp:=fp) hst λ b hb=>?_) (r2.rewrite hal es hσ ha hfp (λ z=>(jc9.mp z).elim nac hafp) (λ b hb=>jc9.mp hb) (by decide) (λ _=>rfl) h2 ?_)
      ·rcases ja6.mp hb with z | z
       ·exact .inl (by rw [z];exact hai)
       ·rcases jc9.mp z with z | z
        ·exact .inl (by rw [hfp];exact ja1 _ z)
        ·exact .inr (t1.new b z)
      ·have u1:OwnL M.K (upd H1 a (.lst (ws++[w]))) (λ _=>True) xs om ws fc:=(OwnL.full (Z':=λ _=>True) xs ws fc hol).at trivial ⟨.l ws,ha⟩ nac λ _ _ n=>absurd trivial n
       have u2:Own M.K (upd H1 a (.lst (ws++[w]))) (λ _=>True) y om w fp:=(Own.full (Z':=λ _=>True) y w fp o2).at trivial ⟨.l ws,ha⟩ hafp λ _ _ n=>absurd trivial n
       exact OwnL.full _ _ _ (u1.snoc u2 λ b hb z=>n2 b z (.inr ⟨i,by rw [hfp];exact ja1 _ hb⟩))
     ·rw [if_neg ho] at q
      refine q σ _ _ (k2.write (i:=i) (f':=[]) (fp:=fp) hst λ b hb=>?_) (r2.rewrite hal es hσ ha hfp (λ z=>nomatch z) (λ b hb=>nomatch hb) (by decide) (λ h=>by rw [hm] at h;cases h) h2 ?_)
      ·rcases ja6.mp hb with z | z
       ·exact .inl (by rw [z];exact hai)
       ·cases z
      ·rw [qbu]
       have zsub:∀ b,Zf M (λ j=>if j=i then [a] else fps2 j) b->Zf (M.plus fp) fps2 b:=λ b h=>by
        rcases h with z | ⟨j,z⟩
        ·exact .inl (.inl z)
        ·by_cases ej:j=i
         ·simp only [if_pos ej] at z
          rw [jc3.mp z]
          exact .inr ⟨i,hai⟩
         ·simp only [if_neg ej] at z;exact .inr ⟨j,z⟩
       have nf:∀ b∈fc,¬ Zf M (λ j=>if j=i then [a] else fps2 j) b:=λ b hb z=>by
        have hbi:b∈fps2 i:=by rw [hfp];exact ja1 _ hb
        rcases z with z | ⟨j,z⟩
        ·exact r2.zo i b hbi (.inl z)
        ·by_cases ej:j=i
         ·simp only [if_pos ej] at z
          rw [jc3.mp z] at hb;exact nac hb
         ·simp only [if_neg ej] at z;exact r2.dj i j (vd0 ej) b hbi z
       have nfp:∀ b∈fp,¬ Zf M (λ j=>if j=i then [a] else fps2 j) b:=λ b hb z=>by
        rcases z with z | ⟨j,z⟩
        ·exact n2 b hb (.inl z)
        ·by_cases ej:j=i
         ·simp only [if_pos ej] at z
          rw [jc3.mp z] at hb;exact hafp hb
         ·simp only [if_neg ej] at z;exact n2 b hb (.inr ⟨j,z⟩)
       have za:Zf M (λ j=>if j=i then [a] else fps2 j) a:=.inr ⟨i,by simp⟩
       have u1:=(OwnL.freeze (Z':=Zf M (λ j=>if j=i then [a] else fps2 j)) zsub xs _ ws fc nf hol)
       have u2:=(Own.freeze (Z':=Zf M (λ j=>if j=i then [a] else fps2 j)) (λ b h=>by
        rcases h with z | ⟨j,z⟩
        ·exact .inl (.inl z)
        ·by_cases ej:j=i
         ·simp only [if_pos ej] at z
          rw [jc3.mp z]
          exact .inl (.inr ⟨i,hai⟩)
         ·simp only [if_neg ej] at z;exact .inl (.inr ⟨j,z⟩)) y _ w fp nfp o2)
       exact (u1.at za ⟨.l ws,ha⟩ (λ z=>nomatch z) λ _ _ n=>n).snoc (u2.at za ⟨.l ws,ha⟩ (λ z=>nomatch z) λ _ _ n=>n) λ _ z=>nomatch z
    ·exact q.elim
   ·exact q.elim
 ·exact q.elim
def qab:PV->Bool
 | .lst _=>false
 | .tup _=>false
 | .dct _=>false
 | _=>true
theorem OwnL.set {K:Frag}{Z:Addr->Prop}{y:PV}{d:Nat}{w:V} (hy:Own K H Z y d w []):∀ {xs:List PV}{ws:List V}{f:List Addr} (k:Nat),OwnL K H Z xs d ws f->∃ f',(∀ b∈f',b∈f)/\OwnL K H Z (xs.set k y) d (ws.set k w) f'
 | [],ws,f,k,h=>by
  rw [OwnL] at h
  obtain ⟨rfl,rfl⟩:=h
  refine ⟨[],λ _ z=>z,?_⟩
  rw [jo1,jo1,OwnL];exact ⟨rfl,rfl⟩
 | x::xs,ws,f,0,h=>by
  rw [OwnL] at h
  obtain ⟨v,s,f1,f2,rfl,rfl,dj,h1,h2⟩:=h
  refine ⟨f2,λ b hb=>ja7 _ hb,?_⟩
  rw [jh8,jh8,OwnL]
  exact ⟨w,s,[],f2,rfl,rfl,λ _ z=>(nomatch z),hy,h2⟩
 | x::xs,ws,f,k + 1,h=>by
  rw [OwnL] at h
  obtain ⟨v,s,f1,f2,rfl,rfl,dj,h1,h2⟩:=h
  obtain ⟨f',hs,h'⟩:=h2.set hy k
  refine ⟨f1++f',λ b hb=>(jc9.mp hb).elim (λ z=>jb0 _ z) λ z=>ja7 _ (hs b z),?_⟩
  rw [jh9,jh9,OwnL]
  exact ⟨v,s.set k w,f1,f',rfl,rfl,λ b hb hc=>dj b hb (hs b hc),h1,h'⟩
theorem Own.atom {K:Frag}{Z Z':Addr->Prop}{y:PV}{d d':Nat}{w:V}{fp:List Addr} (hy:qab y=true) (h:Own K H Z y d w fp):fp=[]/\Own K H Z' y d' w []:=by
 cases y with
 | lst _=>cases hy
 | tup _=>cases hy
 | dct _=>cases hy
 | exn _=>rw [Own] at h ⊢;exact ⟨h.1,rfl,h.2⟩
 | emp=>rw [Own] at h ⊢;exact ⟨h.1,rfl,h.2⟩
 | dko=>rw [Own] at h ⊢;exact ⟨h.1,rfl,h.2⟩
 | scr _=>rw [Own] at h ⊢;exact ⟨h.1,rfl,h.2⟩
 | non=>rw [Own] at h ⊢;exact ⟨h.2,h.1,rfl⟩
 | bl _=>rw [Own] at h ⊢;exact ⟨h.2,h.1,rfl⟩
 | int _=>rw [Own] at h ⊢;exact ⟨h.2,h.1,rfl⟩
 | str _=>rw [Own] at h ⊢;exact ⟨h.2,h.1,rfl⟩
def sPut (i:Nat) (k:Int) (f:Fx):Fs:=λ ρ=>match f ρ with
 | .ok (y,_,ρ1)=>(match ρ1[i]? with
  | some (some (.lst xs,d))=>(match ixN xs.length k with
   | some j=>if d≠0/\qab y=true then .nx (ρ1.set i (some (.lst (xs.set j y),d))) else .no
   | none=>.no)
  | _=>.no)
 | .exc c=>.exc c
 | .no=>.no
theorem qno {f:Fx}{i:Nat}{k:Int}{D:Ends} (hal:∀ i,M.al i=[]) (hv:∀ i∈vs,M.Ms i=false) (hq:tS M (sPut i k f) D σ H):tAsg (tE M f vs) (gSub (tVar i) (tC (.int k)) qhw) D σ H:=by
 obtain ⟨ρ,fps,rep,q⟩:=hq
 refine ⟨ρ,fps,rep,?_⟩
 unfold sPut at q
 cases ef:f ρ with
 | no=>rw [ef] at q;exact q
 | exc c=>rw [ef] at q;exact λ H' fps' k=>q _ H' fps' k.ks
 | ok p=>
  obtain ⟨y,e,ρ1⟩:=p
  rw [ef] at q
  intro w H1 fps1 fp k1 g1 rep1 o1 t1
  dsimp only at q
  split at q
  ·rename_i xs d es
   split at q
   ·rename_i j ej
    split at q
    ·rename_i hc
     obtain ⟨rfl,_⟩:=Own.atom (Z':=λ _=>True) (d':=0) hc.2 o1
     obtain ⟨v',hσ',ol⟩:=rep1.own0 hal i _ _ es
     obtain ⟨a,ws,fc,rfl,ha,hfp,nac,hol⟩:=ol.list hc.1
     have hai:a∈fps1 i:=by rw [hfp];exact ja4
     refine ⟨_,hσ',a,ws,k,j,rfl,rfl,ha,by rw [hol.length];exact ej,?_⟩
     have rp:Rep (M.plus []) ρ1 σ H1 fps1:=rep.wide (λ i j hj=>by rw [hal i] at hj;cases hj) k1 g1 rep1 λ b hb=>nomatch hb
     obtain ⟨fc',hs',hset⟩:=hol.set (Own.atom (d':=pd d) hc.2 o1).2 j
     have inI:∀ b,b∈a::fc'->b∈fps1 i:=λ b hb=>(ja6.mp hb).elim (λ z=>by rw [z];exact hai) λ z=>by rw [hfp];exact ja1 _ (hs' b z)
     have hst:KS M H fps (upd H1 a (.lst (ws.set j w))) (λ j=>if j=i then a::fc' else fps1 j):=by
      refine ⟨λ b u hb n=>?_,λ b hb=>?_,λ j b hb=>?_⟩
      ·have hb1:=k1.ks.keep b u hb n
       rw [zqk]
       ·exact hb1
       ·rintro rfl
        rcases k1.ks.sub i b hai with z | z
        ·exact n z
        ·rw [z] at hb;cases hb
      ·by_cases eb:b=a
       ·rw [eb,zqm];simp
       ·rw [zqk eb];exact k1.dom b hb
      ·by_cases ej:j=i
       ·simp only [if_pos ej] at hb;exact k1.ks.sub i b (inI b hb)
       ·simp only [if_neg ej] at hb;exact k1.ks.sub j b hb
     refine q σ _ _ hst (rp.rewrite hal es hσ' ha hfp (λ z=>nac (hs' a z)) (λ b hb=>.inl (hs' b hb)) hc.1 (λ h=>rep1.msf i _ _ h es) (λ b hb=>nomatch hb) ?_)
     have nz:∀ b,Zf M (λ j=>if j=i then a::fc' else fps1 j) b->Zf M fps1 b:=λ b h=>by
      rcases h with z | ⟨j,z⟩
      ·exact .inl z
      ·by_cases ej:j=i
       ·simp only [if_pos ej] at z;exact .inr ⟨i,inI b z⟩
       ·simp only [if_neg ej] at z;exact .inr ⟨j,z⟩
     exact hset.at (.inr ⟨i,hai⟩) ⟨.l ws,ha⟩ (λ z=>nac (hs' a z)) λ b _ n z=>n (nz b z)
    ·exact q.elim
   ·exact q.elim
  ·exact q.elim
end
section
variable {is:List Nat}{M:Fm}{ρ ρ':Rho}{σ σ':St}{H H' H'':Hp}{fps fps' fps'':Fps}{vs vs':List Nat}
theorem Rep.plus0 (hal:∀ i,∀ j∈M.al i,M.Ms j=false) (r:Rep M ρ σ H fps):Rep (M.plus []) ρ σ H fps:=r.wide hal KD.refl Agr.refl r (λ _ z=>nomatch z)
def GOk (M:Fm) (al is:List Nat) (g:TG) (asg:PV->Rho->Option Rho):Prop:=∀ y v ρ σ H fps ρ' (Q:St->Hp->Prop),Rep M ρ σ H fps->Own M.K H (Zv M al fps) y 0 v []->asg y ρ=some ρ'->(∀ σ' fps',(∀ i,∀ a∈fps' i,a∈fps i)->(∀ i,i∉is->ρ'[i]?=ρ[i]?/\fps' i=fps i/\σ'[i]?=σ[i]?)->ρ'.length=ρ.length->Rep M ρ' σ' H fps'->Q σ' H)->g v σ H Q
def asgN (i:Nat):PV->Rho->Option Rho:=λ y ρ=>if i < ρ.length then some (ρ.set i (some (y,dv y))) else none
theorem Own.dv {K:Frag}{Z:Addr->Prop}{x:PV}{v:V} (h:Own K H Z x 0 v []):Own K H Z x (dv x) v []:=Own.view (fp:=[]) (λ _ z=>z) (λ _ z=>nomatch z) h
structure Bd (M:Fm) (al:List Nat) (i:Nat):Prop where
 ms:M.Ms i=false
 io:M.Fre i
 al:M.al i=al
 als:∀ i,∀ j∈M.al i,M.Ms j=false
theorem Rep.bind1 {al:List Nat}{i:Nat}{y:PV}{v:V} (r:Rep M ρ σ H fps) (o:Own M.K H (Zv M al fps) y 0 v []) (hi:i < ρ.length) (b:Bd M al i):
  Rep M (ρ.set i (some (y,dv y))) (σ.set i (some v)) H (λ j=>if j=i then [] else fps j):=by
 refine (r.plus0 b.als).put (o.dv.weak λ a h=>h.elim (λ h=>?_) λ z=>nomatch z) (λ _ z=>nomatch z) hi (λ h=>by rw [b.ms] at h;cases h) b.io
 rcases h with h | ⟨j,nj,h⟩
 ·exact .inl h
 ·exact .inr ⟨j,by rw [b.al] at nj;exact nj,h⟩
theorem qj5 {al:List Nat}{i:Nat} (b:Bd M al i):GOk M al [i] (zpn i) (asgN i):=by
 intro y v ρ σ H fps ρ' Q r o e q
 unfold asgN at e
 split at e
 ·rename_i hi
  cases e
  refine q _ _ (λ j a ha=>?_) (λ j nj=>?_) (by rw [jf1]) (r.bind1 o hi b)
  ·by_cases e:j=i
   ·simp only [if_pos e] at ha;cases ha
   ·simp only [if_neg e] at ha;exact ha
  ·have e:j≠i:=λ e=>nj (by simp [e])
   exact ⟨jc7 (vd0 e),if_neg e,jc7 (vd0 e)⟩
 ·cases e
def zmc:List Nat->TGs
 | []=>gNil
 | i::is=>qpq (zpn i) (zmc is)
def asgs:List Nat->List PV->Rho->Option Rho
 | [],[],ρ=>some ρ
 | i::is,y::ys,ρ=>(asgN i y ρ).bind (asgs is ys)
 | _,_,_=>none
def asgT (is:List Nat):PV->Rho->Option Rho:=λ y ρ=>match y with
 | .tup ys=>asgs is ys ρ
 | _=>none
theorem qga {al:List Nat}:∀ (is:List Nat) (ys:List PV) (ws:List V) (ρ:Rho) (σ:St) (H:Hp) (fps:Fps) (ρ':Rho) (Q:St->Hp->Prop),(∀ i∈is,Bd M al i)->Rep M ρ σ H fps->OwnL M.K H (Zv M al fps) ys 0 ws []->asgs is ys ρ=some ρ' ->
  (∀ σ' fps',(∀ i,∀ a∈fps' i,a∈fps i)->(∀ i,i∉is->ρ'[i]?=ρ[i]?/\fps' i=fps i/\σ'[i]?=σ[i]?)->ρ'.length=ρ.length->Rep M ρ' σ' H fps'->Q σ' H)->ws.length=is.length/\zmc is ws σ H Q
 | [],[],ws,ρ,σ,H,fps,ρ',Q,_,r,o,e,q=>by
  rw [OwnL] at o
  obtain ⟨rfl,_⟩:=o
  cases e
  exact ⟨rfl,rfl,q σ fps (λ _ _ h=>h) (λ _ _=>⟨rfl,rfl,rfl⟩) rfl r⟩
 | [],_::_,_,_,_,_,_,_,_,_,_,_,e,_=>by cases e
 | _::_,[],_,_,_,_,_,_,_,_,_,_,e,_=>by cases e
 | i::is,y::ys,ws,ρ,σ,H,fps,ρ',Q,hs,r,o,e,q=>by
  rw [OwnL] at o
  obtain ⟨v,s,f1,f2,rfl,ef,_,o1,o2⟩:=o
  obtain ⟨rfl,rfl⟩:f1=[]/\f2=[]:=by simpa using ef.symm
  unfold asgs at e
  cases e1:asgN i y ρ with
  | none=>rw [e1] at e;cases e
  | some ρ1=>
   rw [e1] at e
   unfold asgN at e1
   split at e1
   ·rename_i hi
    cases e1
    have bi:=hs i ja4
    have r':=r.bind1 o1 hi bi
    have sub:∀ j a,a∈(λ j=>if j=i then [] else fps j) j->a∈fps j:=λ j a z=>by
     by_cases ej:j=i
     ·simp only [if_pos ej] at z;cases z
     ·simp only [if_neg ej] at z;exact z
    have o2':OwnL M.K H (Zv M al (λ j=>if j=i then [] else fps j)) ys 0 s []:=o2.weak λ a h=>h.elim .inl λ ⟨j,nj,z⟩=>.inr ⟨j,nj,sub j a z⟩
    obtain ⟨hl,hg⟩:=qga is ys s _ _ H _ ρ' Q (λ j hj=>hs j (ja1 _ hj)) r' o2' e λ σ' fps' k' a' l' r''=>q σ' fps' (λ j a ha=>sub j a (k' j a ha)) (λ j hj=>by
     have ej:j≠i:=λ e=>hj (by rw [e];exact ja4)
     obtain ⟨z1,z2,z3⟩:=a' j λ z=>hj (ja1 _ z)
     rw [if_neg ej] at z2
     exact ⟨z1.trans (jc7 (vd0 ej)),z2,z3.trans (jc7 (vd0 ej))⟩) (l'.trans (by rw [jf1])) r''
    exact ⟨by rw [ja9,ja9,hl],v,s,rfl,hg⟩
   ·cases e1
theorem qmj {al:List Nat}{is:List Nat} (hs:∀ i∈is,Bd M al i):GOk M al is (gTup M.K is.length (zmc is)) (asgT is):=by
 intro y v ρ σ H fps ρ' Q r o e q
 unfold asgT at e
 split at e
 ·rename_i ys
  rw [Own] at o
  obtain ⟨a,ws,rfl,hr,ol⟩:=o
  obtain ⟨hl,hg⟩:=qga is ys ws ρ σ H fps ρ' Q hs r ol e q
  exact ⟨a,ws,rfl,.inl (.inl hr),hl,hg⟩
 ·cases e
def zwb (asg:PV->Rho->Option Rho) (body:Fs):List PV->Rho->Rs
 | [],ρ=>.nx ρ
 | x::xs,ρ=>match asg x ρ with
  | none=>.no
  | some ρ1=>match body ρ1 with
   | .nx ρ2=>zwb asg body xs ρ2
   | .ct ρ2=>zwb asg body xs ρ2
   | .bk ρ2=>.nx ρ2
   | .rt x d ρ2=>.rt x d ρ2
   | .exc c=>.exc c
   | .no=>.no
theorem zbz {g:TG}{asg:PV->Rho->Option Rho}{body:Fs}{D:Ends}{J:It}{els:List PV}{Pq:Hp->Fps->Prop} (hg:GOk M [] is g asg)
  (hP:∀ {ρ σ H fps H' fps'},Rep M ρ σ H fps->KS M H fps H' fps'->Pq H fps->Pq H' fps') (hgo:∀ {H fps i},Pq H fps->i < els.length->J.go i H) (hst:∀ {H fps i},Pq H fps->els.length<=i->J.stop i H)
  (hy:∀ {ρ σ H fps i x H'},Rep M ρ σ H fps->Pq H fps->i < els.length->J.yld i H x H'->(∀ a o,H a=some o->H' a=some o)/\∃ y,els[i]?=some y/\Own M.K H' (Zf M fps) y 0 x [])
  (rep:Rep M ρ σ H fps) (p:Pq H fps) (q:RsOk M D H fps (zwb asg body els ρ)):
  ∃ W:Nat->Nat->St->Hp->Prop,(∃ m,W 0 m σ H)/\∀ i m σ H,W i m σ H ->
   (J.stop i H/\D.nx σ H)\/(J.go i H/\∃ N:St->Hp->Prop,(∀ σ' H',N σ' H'->∃ m',m' < m/\W (i + 1) m' σ' H')/\∀ x H',J.yld i H x H'->g x σ H' λ σ2 H2=>(tS M body) { D with nx:=N,ct:=N,bk:=D.nx } σ2 H2):=by
 let W:Nat->Nat->St->Hp->Prop:=λ i m σ H=>m=els.length - i/\∃ ρ fps,Rep M ρ σ H fps/\Pq H fps/\RsOk M D H fps (zwb asg body (els.drop i) ρ)
 refine ⟨W,⟨els.length,by simp,ρ,fps,rep,p,by simpa using q⟩,?_⟩
 rintro i m σ H ⟨rfl,ρ,fps,r,p,q⟩
 by_cases hi:i < els.length
 ·right
  refine ⟨hgo p hi,W (i + 1) (els.length - (i + 1)),λ σ' H' w=>⟨_,by omega,w⟩,λ x H' y=>?_⟩
  obtain ⟨kx,z,ez,oz⟩:=hy r p hi y
  have k0:KS M H fps H' fps:=(KD.grow kx).ks
  have p:=hP r k0 p
  have r:=r.grow kx
  have q:=RsOk.from k0 q
  have ed:els.drop i=z::els.drop (i + 1):=by
   obtain ⟨h1,h2⟩:=jb3.mp ez
   rw [<- h2];exact jf2 h1
  rw [ed] at q
  unfold zwb at q
  cases ea:asg z ρ with
  | none=>rw [ea] at q;exact q.elim
  | some ρ1=>
   rw [ea] at q
   dsimp only at q
   refine hg z x ρ σ _ fps ρ1 _ r (oz.weak λ a h=>h.zf) ea λ σ1 fps1 s1 _ _ r1=>⟨ρ1,fps1,r1,?_⟩
   have k1:KS M H' fps H' fps1:=⟨λ _ _ h _=>h,λ _ h=>h,λ j a ha=>.inl ⟨j,s1 j a ha⟩⟩
   have p1:=hP r k1 p
   cases eb:body ρ1 with
   | no=>rw [eb] at q;exact q
   | exc c=>rw [eb] at q;exact RsOk.from (r:=.exc c) k1 q
   | rt x d ρ2=>rw [eb] at q;exact RsOk.from (r:=.rt x d ρ2) k1 q
   | bk ρ2=>rw [eb] at q;exact λ σ' H' fps' k=>q σ' H' fps' (k1.trans k)
   | nx ρ2=>rw [eb] at q;exact λ σ' H' fps' k r'=>⟨rfl,ρ2,fps',r',hP r1 k p1,RsOk.from (k1.trans k) q⟩
   | ct ρ2=>rw [eb] at q;exact λ σ' H' fps' k r'=>⟨rfl,ρ2,fps',r',hP r1 k p1,RsOk.from (k1.trans k) q⟩
 ·left
  have ed:els.drop i=[]:=jn6 (by omega)
  rw [ed] at q
  exact ⟨hst p (by omega),q σ H fps KS.refl r⟩
def zkc (lo:Int) (n:Nat):List PV:=(ja2 n).map λ (i:Nat)=>PV.int (lo + (i:Int))
theorem zzh (lo:Int) (n:Nat):(zkc lo n).length=n:=by simp [zkc]
def zqz:List (PV×Nat)->Option (Int×Int)
 | [(.int j,_)]=>if -(2 ^ 62)<=j/\j < 2 ^ 62 then some (0,j) else none
 | _=>none
def zpa:List (PV×Nat)->Option (Int×Int)
 | [(.int i,_),(.int j,_)]=>if -(2 ^ 62)<=i/\i < 2 ^ 62/\-(2 ^ 62)<=j/\j < 2 ^ 62 then some (i,j) else none
 | _=>none
def zvx (en:List (PV×Nat)->Option (Int×Int)) (fa:Fa) (asg:PV->Rho->Option Rho) (body:Fs):Fs:=λ ρ=>match fa ρ with
 | .ok (xs,ρ1)=>(match en xs with
  | some (i,j)=>zwb asg body (zkc i (j - i).toNat) ρ1
  | none=>.no)
 | .exc c=>.exc c
 | .no=>.no
theorem zyh {g:TG}{asg:PV->Rho->Option Rho}{body:Fs}{D:Ends}{lo:Int}{n:Nat} (hg:GOk M [] is g asg) (rep:Rep M ρ σ H fps) (q:RsOk M D H fps (zwb asg body (zkc lo n) ρ)):
  ∃ W:Nat->Nat->St->Hp->Prop,(∃ m,W 0 m σ H)/\∀ i m σ H,W i m σ H ->
   ((Itr lo n).stop i H/\D.nx σ H)\/((Itr lo n).go i H/\∃ N:St->Hp->Prop,(∀ σ' H',N σ' H'->∃ m',m' < m/\W (i + 1) m' σ' H')/\∀ x H',(Itr lo n).yld i H x H'->g x σ H' λ σ2 H2=>(tS M body) { D with nx:=N,ct:=N,bk:=D.nx } σ2 H2):=by
 refine zbz (Pq:=λ _ _=>True) hg (λ _ _ _=>trivial) (λ {H fps i} _ h=>?_) (λ {H fps i} _ h=>?_) (λ {ρ σ H fps i x H'} _ _ h y=>?_) rep trivial q
 ·rw [zzh] at h;exact h
 ·rw [zzh] at h;exact h
 ·rw [zzh] at h
  obtain ⟨e1,e2⟩:=y
  subst e1
  exact ⟨λ _ _ h=>h,.int (lo + i),by simp [zkc,h],by rw [e2,Own];exact ⟨rfl,rfl⟩⟩
theorem qd6 {g:TG}{asg:PV->Rho->Option Rho}{body:Fs}{fa:Fa}{D:Ends} (hg:GOk M [] is g asg) (hq:tS M (zvx zqz fa asg body) D σ H):tFor (qih (tL M fa vs)) g (tS M body) D σ H:=by
 obtain ⟨ρ,fps,rep,q⟩:=hq
 refine ⟨ρ,fps,rep,?_⟩
 unfold zvx at q
 cases ef:fa ρ with
 | no=>rw [ef] at q;exact q
 | exc c=>rw [ef] at q;exact λ H' fps' k=>q _ H' fps' k.ks
 | ok p=>
  obtain ⟨xs,ρ1⟩:=p
  rw [ef] at q
  intro ws H1 fps1 f1 k1 g1 rep1 o1 t1
  dsimp only at q
  cases ee:zqz xs with
  | none=>rw [ee] at q;exact q.elim
  | some ij=>
   obtain ⟨i,j⟩:=ij
   rw [ee] at q
   unfold zqz at ee
   split at ee
   ·rename_i j' d
    split at ee
    ·rename_i hb
     cases ee
     obtain ⟨v,r,f1,f2,rfl,_,_,h1,h2⟩:=o1
     obtain ⟨rfl,_⟩:=h2
     rw [Own] at h1
     obtain ⟨rfl,_⟩:=h1
     refine ⟨j,rfl,hb.1,hb.2,?_⟩
     have e:(j - 0).toNat=j.toNat:=by omega
     dsimp only at q
     rw [e] at q
     exact zyh hg rep1 (RsOk.from k1.ks q)
    ·cases ee
   ·cases ee
theorem qd5 {g:TG}{asg:PV->Rho->Option Rho}{body:Fs}{fa:Fa}{D:Ends} (hg:GOk M [] is g asg) (hq:tS M (zvx zpa fa asg body) D σ H):tFor (qig (tL M fa vs)) g (tS M body) D σ H:=by
 obtain ⟨ρ,fps,rep,q⟩:=hq
 refine ⟨ρ,fps,rep,?_⟩
 unfold zvx at q
 cases ef:fa ρ with
 | no=>rw [ef] at q;exact q
 | exc c=>rw [ef] at q;exact λ H' fps' k=>q _ H' fps' k.ks
 | ok p=>
  obtain ⟨xs,ρ1⟩:=p
  rw [ef] at q
  intro ws H1 fps1 f1 k1 g1 rep1 o1 t1
  dsimp only at q
  cases ee:zpa xs with
  | none=>rw [ee] at q;exact q.elim
  | some ij=>
   obtain ⟨i,j⟩:=ij
   rw [ee] at q
   unfold zpa at ee
   split at ee
   ·rename_i i' d j' d'
    split at ee
    ·rename_i hb
     cases ee
     obtain ⟨v,r,f1,f2,rfl,_,_,h1,h2⟩:=o1
     obtain ⟨v2,r2,f3,f4,rfl,_,_,h3,h4⟩:=h2
     obtain ⟨rfl,_⟩:=h4
     rw [Own] at h1 h3
     obtain ⟨rfl,_⟩:=h1
     obtain ⟨rfl,_⟩:=h3
     exact ⟨i,j,rfl,hb,zyh hg rep1 (RsOk.from k1.ks q)⟩
    ·cases ee
   ·cases ee
def zbj (z:Str):List PV:=z.cps.toList.map λ c=>.str ⟨#[c]⟩
def zku (f:Fx) (vs:List Nat) (asg:PV->Rho->Option Rho) (body:Fs):Fs:=λ ρ=>match f ρ with
 | .ok (.str z,d,ρ1)=>if qc0 z=true then zwb asg body (zbj z) (zxk d vs ρ1) else .no
 | .ok (.lst xs,d,ρ1)=>zwb asg body xs (zxk d vs ρ1)
 | .ok (.tup xs,d,ρ1)=>zwb asg body xs (zxk d vs ρ1)
 | .ok _=>.no
 | .exc c=>.exc c
 | .no=>.no
theorem OwnL.get {K:Frag}{Z:Addr->Prop}:∀ {xs:List PV}{ws:List V}{i:Nat}{w:V},OwnL K H Z xs 0 ws []->ws[i]?=some w->∃ x,xs[i]?=some x/\Own K H Z x 0 w []
 | [],ws,i,w,h,e=>by
  rw [OwnL] at h
  obtain ⟨rfl,_⟩:=h
  simp at e
 | x::xs,ws,i,w,h,e=>by
  rw [OwnL] at h
  obtain ⟨v,s,f1,f2,rfl,ef,_,o1,o2⟩:=h
  obtain ⟨rfl,rfl⟩:f1=[]/\f2=[]:=by simpa using ef.symm
  cases i with
  | zero=>simp at e;subst e;exact ⟨x,by simp,o1⟩
  | succ i=>obtain ⟨y,e1,e2⟩:=o2.get (i:=i) (w:=w) (by simpa using e);exact ⟨y,by simpa using e1,e2⟩
theorem Rep.seen {x:PV}{d:Nat}{v:V}{fp:List Addr} (rep:Rep M ρ σ H fps) (k:KD M H fps H' fps') (g:Agr M ρ ρ') (r':Rep M ρ' σ H' fps') (o:Own M.K H' (Zt M vs fps' fp) x d v fp) (t:Temp M vs H H' fps' fp)
  (hal:∀ i,M.al i=[]) (hv:∀ i∈vs,M.Ms i=false):∃ fps2,KS M H fps H' fps2/\Rep M (zxk d vs ρ') σ H' fps2/\Own M.K H' (Zf M fps2) x 0 v []:=by
 unfold zxk
 by_cases hd:d=om
 ·rw [if_pos hd]
  rw [hd] at o
  exact ⟨fps',k.ks,r',Own.freeze (λ _ z=>z) x om v fp (λ a ha=>t.ndj a ha) (Own.full x v fp o)⟩
 ·rw [if_neg hd]
  exact ⟨zkx vs fps',k.ks.cool,r'.cool hal hv,Own.freeze (λ a h=>.inl (zkl h)) x d v fp (λ a ha z=>t.ndj a ha (zkl z).zf) o⟩
theorem qd4 {g:TG}{asg:PV->Rho->Option Rho}{body:Fs}{f:Fx}{D:Ends} (hal:∀ i,M.al i=[]) (hv:∀ i∈vs,M.Ms i=false) (hg:GOk M [] is g asg) (hq:tS M (zku f vs asg body) D σ H):tFor (iSeq M.K (tE M f vs)) g (tS M body) D σ H:=by
 obtain ⟨ρ,fps,rep,q⟩:=hq
 refine ⟨ρ,fps,rep,?_⟩
 unfold zku at q
 cases ef:f ρ with
 | no=>rw [ef] at q;exact q
 | exc c=>rw [ef] at q;exact λ H' fps' k=>q _ H' fps' k.ks
 | ok p=>
  obtain ⟨x,d,ρ1⟩:=p
  rw [ef] at q
  intro v H1 fps1 f1 k1 g1 rep1 o1 t1
  obtain ⟨fps2,k2,r2,o2⟩:=Rep.seen rep k1 g1 rep1 o1 t1 hal hv
  cases x with
  | lst xs=>
   have o2':=o2
   rw [Own] at o2'
   obtain ⟨a,ws,rfl,⟨_,hr,_,ol⟩ | ⟨h,_⟩⟩:=o2'
   ·have sq:SqL M.K H1 a ws:=.inl (.inl hr.1)
    refine .inl ⟨a,rfl,.inl ⟨⟨ws,sq⟩,?_⟩⟩
    have one:∀ {H:Hp}{fps:Fps},Own M.K H (Zf M fps) (.lst xs) 0 (.ref a) []->∃ ws,SqL M.K H a ws/\OwnL M.K H (Zf M fps) xs 0 ws []:=λ o=>by
     rw [Own] at o
     obtain ⟨b,ws,e,⟨_,hr,_,ol⟩ | ⟨h,_⟩⟩:=o
     ·cases e;exact ⟨ws,.inl (.inl hr.1),ol⟩
     ·exact absurd rfl h
    refine zbz (Pq:=λ H fps=>Own M.K H (Zf M fps) (.lst xs) 0 (.ref a) []) (els:=xs) hg (λ r k o=>k.stay0 r o) (λ {H fps i} o h=>?_) (λ {H fps i} o h=>?_) (λ {ρ σ H fps i x H'} _ o h y=>?_) r2 o2 (RsOk.from k2 q)
    ·obtain ⟨ws,s,ol⟩:=one o
     exact ⟨ws,ws[i]'(by rw [ol.length];exact h),s,by simp⟩
    ·obtain ⟨ws,s,ol⟩:=one o
     exact ⟨ws,s,by rw [ol.length];exact h⟩
    ·obtain ⟨ws,s,ol⟩:=one o
     obtain ⟨e1,e2⟩:=y
     subst e1
     exact ⟨λ _ _ h=>h,ol.get (e2 ws s)⟩
   ·exact absurd rfl h
  | tup xs=>
   have o2':=o2
   rw [Own] at o2'
   obtain ⟨a,ws,rfl,hr,ol⟩:=o2'
   refine .inl ⟨a,rfl,.inr ⟨⟨ws,.inl (.inl hr)⟩,?_⟩⟩
   have one:∀ {H:Hp}{fps:Fps},Own M.K H (Zf M fps) (.tup xs) 0 (.ref a) []->∃ ws,SqT M.K H a ws/\OwnL M.K H (Zf M fps) xs 0 ws []:=λ o=>by
    rw [Own] at o
    obtain ⟨b,ws,e,hr,ol⟩:=o
    cases e;exact ⟨ws,.inl (.inl hr),ol⟩
   refine zbz (Pq:=λ H fps=>Own M.K H (Zf M fps) (.tup xs) 0 (.ref a) []) (els:=xs) hg (λ r k o=>k.stay0 r o) (λ {H fps i} o h=>?_) (λ {H fps i} o h=>?_) (λ {ρ σ H fps i x H'} _ o h y=>?_) r2 o2 (RsOk.from k2 q)
   ·obtain ⟨ws,s,ol⟩:=one o
    exact ⟨ws,ws[i]'(by rw [ol.length];exact h),s,by simp⟩
   ·obtain ⟨ws,s,ol⟩:=one o
    exact ⟨ws,s,by rw [ol.length];exact h⟩
   ·obtain ⟨ws,s,ol⟩:=one o
    obtain ⟨e1,e2⟩:=y
    subst e1
    exact ⟨λ _ _ h=>h,ol.get (e2 ws s)⟩
  | str z=>
   have o2':=o2
   rw [Own] at o2'
   obtain ⟨rfl,_⟩:=o2'
   dsimp only at q
   split at q
   ·rename_i ha
    refine .inr ⟨z,rfl,ha,?_⟩
    have hl:(zbj z).length=z.cps.size:=by unfold zbj;rw [ja3,jh4]
    refine zbz (Pq:=λ _ _=>True) (els:=zbj z) hg (λ _ _ _=>trivial) (λ {H fps i} _ h=>?_) (λ {H fps i} _ h=>?_) (λ {ρ σ H fps i x H'} _ _ h y=>?_) r2 trivial (RsOk.from k2 q)
    ·show i < z.cps.size
     omega
    ·show z.cps.size<=i
     omega
    ·obtain ⟨rfl,c,hc,rfl⟩:=y
     refine ⟨λ _ _ h=>h,.str ⟨#[c]⟩,?_,by rw [Own];exact ⟨rfl,rfl⟩⟩
     unfold zbj
     rw [jc1,jk7,hc]
     rfl
   ·exact q.elim
  | _=>exact q.elim
end
section
variable {M:Fm}{ρ ρ':Rho}{σ σ':St}{H H' H'':Hp}{fps fps' fps'':Fps}{vs vs':List Nat}
def Fm.comp (M:Fm) (D:Addr) (n:Nat) (vI:List Nat):Fm:={ M.plus [D] with W:=λ _ _ _=>False,al:=λ j=>if j < n then M.al j else vI }
theorem Rep.minus {fp:List Addr} (r:Rep (M.plus fp) ρ σ H fps):Rep M ρ σ H fps where
 own:=λ i x d e=>let ⟨v,h1,h2⟩:=r.own i x d e;⟨v,h1,h2.weak λ a h=>h.elim (λ h=>.inl (.inl h)) .inr⟩
 non:=r.non
 dj:=r.dj
 zo:=λ i a ha z=>r.zo i a ha (.inl z)
 fr:=r.fr
 zd:=λ a z=>r.zd a (.inl z)
 len:=r.len
 msf:=r.msf
 h0:=r.h0
 iov:=r.iov
theorem Rep.far (r:Rep M ρ σ H fps) {j:Nat} (h:ρ.length<=j):fps j=[]:=r.non j λ p e=>by
 rw [jj0.mpr h] at e;cases e
theorem Rep.ext {D:Addr}{k:Nat}{vI:List Nat} (r:Rep (M.plus [D]) ρ σ H fps):Rep (M.comp D ρ.length vI) (ρ++jb1 k none) (σ++jb1 k none) H fps where
 own:=λ i x d e=>by
  by_cases hi:i < ρ.length
  ·rw [jc4 hi] at e
   obtain ⟨v,h1,h2⟩:=r.own i x d e
   refine ⟨v,by rw [jc4 (by rw [<- r.len];exact hi)];exact h1,h2.weak λ a h=>?_⟩
   rcases h with h | ⟨j,nj,h⟩
   ·exact .inl h
   ·refine .inr ⟨j,?_,h⟩
    have:(M.comp D ρ.length vI).al i=M.al i:=if_pos hi
    rw [this] at nj;exact nj
  ·rw [jd4 (by omega),jd9] at e
   split at e <;> cases e
 non:=λ i h=>by
  by_cases hi:i < ρ.length
  ·exact r.non i λ p e=>h p (by rw [jc4 hi];exact e)
  ·exact r.far (by omega)
 dj:=r.dj
 zo:=r.zo
 fr:=r.fr
 zd:=r.zd
 len:=by simp [r.len]
 msf:=λ i x d hm e=>by
  by_cases hi:i < ρ.length
  ·rw [jc4 hi] at e;exact r.msf i x d hm e
  ·rw [jd4 (by omega),jd9] at e
   split at e <;> cases e
 h0:=r.h0
 iov:=⟨λ v hv=>by
  have h:=r.iov.1 v hv
  refine ⟨?_,h.2⟩
  have:0 < σ.length:=(jb3.mp h.1).1
  rw [jc4 this];exact h.1,λ p hp=>by
  have h:=r.iov.2 p hp
  rw [jc4 (jb3.mp h).1];exact h⟩
def cut (n:Nat) (fps:Fps):Fps:=λ j=>if j < n then fps j else []
theorem zvt {n i:Nat}{a:Addr} (h:a∈cut n fps i):a∈fps i/\i < n:=by
 unfold cut at h
 split at h
 ·rename_i hi;exact ⟨h,hi⟩
 ·cases h
theorem Rep.take {D:Addr}{n:Nat}{vI:List Nat} (r:Rep (M.comp D n vI) ρ σ H fps) (hσ:∀ i,i < n->σ[i]?=σ'[i]?) (hl:σ'.length=n) (hn:n<=ρ.length) (hio:(M.io≠none->0 < n)/\∀ p∈M.pn,p.1 < n):Rep (M.plus [D]) (ρ.take n) σ' H (cut n fps) where
 own:=λ i x d e=>by
  have hi:i < n:=by
   have:=(jb3.mp e).1
   rw [jd8] at this;omega
  rw [jg6 hi] at e
  obtain ⟨v,h1,h2⟩:=r.own i x d e
  refine ⟨v,by rw [<- hσ i hi];exact h1,?_⟩
  have:cut n fps i=fps i:=if_pos hi
  rw [this]
  refine h2.weak λ a h=>?_
  rcases h with h | ⟨j,nj,h⟩
  ·exact .inl h
  ·refine .inr ⟨j,?_,(zvt h).1⟩
   have:(M.comp D n vI).al i=M.al i:=if_pos hi
   rw [this];exact nj
 non:=λ i h=>by
  unfold cut
  split
  ·rename_i hi
   exact r.non i λ p e=>h p (by rw [jg6 hi];exact e)
  ·rfl
 dj:=λ i j hij a ha hb=>r.dj i j hij a (zvt ha).1 (zvt hb).1
 zo:=λ i a ha=>r.zo i a (zvt ha).1
 fr:=λ i hi a ha=>r.fr i hi a (zvt ha).1
 zd:=r.zd
 len:=by rw [jd8,hl];omega
 msf:=λ i x d hm e=>by
  have hi:i < n:=by
   have:=(jb3.mp e).1
   rw [jd8] at this;omega
  rw [jg6 hi] at e
  exact r.msf i x d hm e
 h0:=r.h0
 iov:=⟨λ v hv=>by
  have h:=r.iov.1 v hv
  refine ⟨?_,h.2⟩
  have h0:0 < n:=hio.1 (by
   have hv':M.io=some v:=hv
   rw [hv'];simp)
  rw [<- hσ 0 h0];exact h.1,λ p hp=>by rw [<- hσ p.1 (hio.2 p hp)];exact r.iov.2 p hp⟩
theorem Rep.touch {D:Addr}{us ws:List V} (r:Rep (M.plus [D]) ρ σ H fps) (hD:H D=some (.lst ws)):Rep (M.plus [D]) ρ σ (upd H D (.lst us)) fps:=by
 have zD:(M.plus [D]).Zo D:=.inr (by simp)
 have dm:∀ b,H b≠none->(upd H D (.lst us)) b≠none:=λ b h=>by
  by_cases eb:b=D
  ·rw [eb,zqm];simp
  ·rw [zqk eb];exact h
 exact ⟨λ i x d e=>let ⟨v,h1,h2⟩:=r.own i x d e;⟨v,h1,h2.at (.inl zD) ⟨.l ws,hD⟩ (λ z=>r.zo i D z zD) λ _ _ n=>n⟩,r.non,r.dj,r.zo,r.fr,λ a z=>dm a (r.zd a z),r.len,r.msf,λ a z=>dm a (r.h0 a z),r.iov⟩
theorem Tmps.snoc {K:Frag}{Z:Addr->Prop}{y:PV}{e:Nat}{w:V}{fe:List Addr} (hy:Own K H (λ a=>Z a\/a∈fe) y e w fe):∀ {xs:List (PV×Nat)}{ws:List V}{fp:List Addr},Tmps K H Z xs ws fp->(∀ a∈fp,a∉fe)->Tmps K H Z (xs++[(y,e)]) (ws++[w]) (fp++fe)
 | [],ws,fp,h,_=>by
  obtain ⟨rfl,rfl⟩:=h
  exact ⟨w,[],fe,[],rfl,by simp,λ _ _ z=>(nomatch z),hy,rfl,rfl⟩
 | (x,d)::xs,ws,fp,h,hd=>by
  obtain ⟨v,s,f1,f2,rfl,rfl,dj,h1,h2⟩:=h
  refine ⟨v,s++[w],f1,f2++fe,rfl,by rw [jk3],λ a ha hb=>?_,h1,h2.snoc hy λ a ha=>hd a (ja7 _ ha)⟩
  rcases jc9.mp hb with z | z
  ·exact dj a ha z
  ·exact hd a (jb0 _ ha) z
theorem Tmps.at {K:Frag}{Z:Addr->Prop}{a:Addr}{o:HO} (hZ:Z a) (hl:∃ o:MO,H a=some o.ho):∀ {xs:List (PV×Nat)}{ws:List V}{fp:List Addr},Tmps K H Z xs ws fp->a∉fp->Tmps K (upd H a o) Z xs ws fp
 | [],_,_,h,_=>h
 | (x,d)::xs,ws,fp,h,hf=>by
  obtain ⟨v,s,f1,f2,e1,rfl,dj,h1,h2⟩:=h
  exact ⟨v,s,f1,f2,e1,rfl,dj,h1.at (.inl hZ) hl (λ z=>hf (jb0 _ z)) λ _ _ n=>n,h2.at hZ hl λ z=>hf (ja7 _ z)⟩
theorem Tmps.lsts {K:Frag}{Z:Addr->Prop}:∀ {xs:List (PV×Nat)}{ws:List V}{fp:List Addr},Tmps K H Z xs ws fp->∀ a∈fp,∃ o:MO,H a=some o.ho
 | [],_,_,h,a,ha=>by rw [h.2] at ha;cases ha
 | (x,d)::xs,ws,fp,h,a,ha=>by
  obtain ⟨v,s,f1,f2,e1,rfl,dj,h1,h2⟩:=h
  rcases jc9.mp ha with z | z
  ·exact Own.lsts x d v f1 h1 a z
  ·exact h2.lsts a z
def Rz.bindN {α β:Type} (r:Rz α) (f:α->Rz β):Rz β:=match r with
 | .ok a=>f a
 | _=>.no
def zwx (k:Nat) (asg:PV->Rho->Option Rho) (test:Fb) (elt:Fx):List PV->Rho->List (PV×Nat)->Rz (List (PV×Nat)×Rho)
 | [],ρ,acc=>.ok (acc,ρ)
 | x::xs,ρ,acc=>match asg x (ρ++jb1 k none) with
  | none=>.no
  | some ρ1=>(test ρ1).bindN λ (b,ρ2)=>if b=true then (elt ρ2).bindN λ (y,e,ρ3)=>(if acc.length < va8 then zwx k asg test elt xs (ρ3.take ρ.length) (acc++[(y,e)]) else .no) else zwx k asg test elt xs (ρ2.take ρ.length) acc
theorem KD.seen {D:Addr}{x:PV}{v:V} (r:Rep M ρ σ H fps) (k:KD M H fps H' fps') (hD:H D=none) (hv:∀ i∈vs,M.Ms i=false) (o:Own M.K H (Zv M vs fps) x 0 v []):Own M.K H' (Zv (M.plus [D]) vs fps') x 0 v []:=by
 refine Own.move k.keep ?_ ?_ x 0 v [] (λ _ z=>nomatch z) o
 ·rintro a ⟨i,hi,ha⟩
  exact ⟨.inr ⟨i,λ z=>(by rw [hv i z] at hi;cases hi),ha⟩,r.lsts ha⟩
 ·intro a hd nz z
  rcases z with (z | z) | ⟨i,ni,hx⟩
  ·exact nz (.inl z)
  ·rw [jc3.mp z] at hd;exact hd hD
  ·rcases k.sub i a hx with z | z
   ·exact nz (.inr ⟨i,ni,z⟩)
   ·exact hd z
theorem zyj {g:TG}{is vI vE vo:List Nat}{asg:PV->Rho->Option Rho}{test:Fb}{elt:Fx}{k:Nat}{J:It}{els:List PV}{Q:VK}{n:Nat}{P:Fm->Prop}
  (hP:∀ D,P (M.comp D n vI)) (hn:n=ρ.length) (hal:∀ i,∀ j∈M.al i,M.Ms j=false) (hvI:∀ i∈vI,M.Ms i=false) (hvE:∀ i∈vE,M.Ms i=false) (his:∀ i∈is,n<=i) (hg:∀ D,GOk (M.comp D n vI) vI is g asg) (hvo:∀ i,i∈vE->i < n->i∈vo) (hvo2:∀ i∈vo,M.Ms i=false)
  (rep:Rep M ρ σ H fps)
  (hgo:∀ {D H' fps' i},H D=none->KD M H fps H' fps'->i < els.length->J.go i H') (hst:∀ {D H' fps' i},H D=none->KD M H fps H' fps'->els.length<=i->J.stop i H')
  (hy:∀ {D H' fps' i x H''},H D=none->KD M H fps H' fps'->i < els.length->J.yld i H' x H''->(∀ a o,H' a=some o->H'' a=some o)/\∃ z,els[i]?=some z/\Own M.K H'' (Zv (M.plus [D]) vI fps') z 0 x [])
  (q:match zwx k asg test elt els ρ [] with
   | .ok (acc,ρ')=>∀ D ws H' fps' fpl,KD M H fps H' fps'->Agr M ρ ρ'->Rep (M.plus [D]) ρ' σ H' fps'->H D=none->H' D=some (.lst ws)->Tmps M.K H' (Zv (M.plus [D]) vo fps') acc ws fpl->(∀ a∈fpl,H a=none/\¬ Zf (M.plus [D]) fps' a)->Q (.ref D) H'
   | _=>False):
  ∀ D,H D=none->∃ W:Nat->Nat->List V->Hp->Prop,(∃ m,W 0 m [] (upd H D (.lst [])))/\∀ i m ys H1,W i m ys H1->H1 D=some (.lst ys) /\
   ((J.stop i H1/\Q (.ref D) H1)\/(J.go i H1/\∀ x H',J.yld i H1 x H'->g x (σ++jb1 k none) H' λ σ2 H2=>∃ M',P M'/\tT M' test σ2 H2 λ b H3=>if b=true then ∃ M',P M'/\tE M' elt vE σ2 H3 λ y H4=>H4 D=some (.lst ys)/\ys.length < va8/\∃ m',m' < m/\W (i + 1) m' (ys++[y]) (upd H4 D (.lst (ys++[y]))) else ∃ m',m' < m/\W (i + 1) m' ys H3)):=by
 intro D hD
 subst hn
 let W:Nat->Nat->List V->Hp->Prop:=λ i m ys H1=>m=els.length - i/\∃ ρ1 fps1 acc fpl,Rep (M.plus [D]) ρ1 σ H1 fps1/\KD M H fps H1 fps1/\Agr M ρ ρ1/\Tmps M.K H1 (Zv (M.plus [D]) vo fps1) acc ys fpl/\(∀ a∈fpl,H a=none/\¬ Zf (M.plus [D]) fps1 a)/\H1 D=some (.lst ys)/\zwx k asg test elt (els.drop i) ρ1 acc=zwx k asg test elt els ρ []
 have k0:KD M H fps (upd H D (.lst [])) fps:=KD.grow λ a o h=>by rw [zqk (λ e=>by rw [e,hD] at h;cases h)];exact h
 have r0:Rep (M.plus [D]) ρ σ (upd H D (.lst [])) fps:=by
  refine rep.wide hal k0 Agr.refl (rep.grow λ a o h=>by rw [zqk (λ e=>by rw [e,hD] at h;cases h)];exact h) λ a ha=>?_
  rw [jc3.mp ha]
  exact ⟨hD,by rw [zqm];simp,rep.nz hD⟩
 refine ⟨W,⟨els.length,by simp,ρ,fps,[],[],r0,k0,Agr.refl,⟨rfl,rfl⟩,λ _ z=>(nomatch z),zqm,by simp⟩,?_⟩
 rintro i m ys H1 ⟨rfl,ρ1,fps1,acc,fpl,r1,k1,g1,tm,hf,h1D,ec⟩
 refine ⟨h1D,?_⟩
 have hlen:ρ1.length=ρ.length:=g1.2
 by_cases hi:i < els.length
 ·right
  refine ⟨hgo hD k1 hi,λ x H' hyl=>?_⟩
  obtain ⟨kx,z,ez,oz⟩:=hy hD k1 hi hyl
  have tm:=KD.stays (M:=M.plus [D]) (KD.grow kx) r1 hvo2 tm λ a ha=>(hf a ha).2
  have r1:=r1.grow kx
  have k1:=k1.trans (KD.grow (M:=M) (fps:=fps1) kx)
  have h1D:=kx D _ h1D
  have ed:els.drop i=z::els.drop (i + 1):=by
   obtain ⟨h1,h2⟩:=jb3.mp ez
   rw [<- h2];exact jf2 h1
  rw [ed] at ec
  have good:∃ a r,zwx k asg test elt els ρ []=.ok (a,r):=by
   cases e:zwx k asg test elt els ρ [] with
   | ok p=>exact ⟨p.1,p.2,rfl⟩
   | exc c=>rw [e] at q;exact q.elim
   | no=>rw [e] at q;exact q.elim
  obtain ⟨accF,ρF,eF⟩:=good
  rw [eF] at ec
  unfold zwx at ec
  cases ea:asg z (ρ1++jb1 k none) with
  | none=>rw [ea] at ec;cases ec
  | some ρ2=>
   rw [ea] at ec
   dsimp only at ec
   have rx:Rep (M.comp D ρ.length vI) (ρ1++jb1 k none) (σ++jb1 k none) H' fps1:=by rw [<- hlen];exact r1.ext
   refine hg D z x _ _ H' fps1 ρ2 _ rx oz ea λ σ2 fps2 s2 a2 l2 r2=>⟨_,hP D,ρ2,fps2,r2,?_⟩
   have hl2:ρ2.length=ρ.length + k:=by rw [l2,jb4,je6,hlen]
   have same2:∀ j,j < ρ.length->ρ2[j]?=ρ1[j]?/\fps2 j=fps1 j/\σ2[j]?=σ[j]?:=λ j hj=>by
    obtain ⟨z1,z2,z3⟩:=a2 j λ z=>absurd (his j z) (by omega)
    rw [jc4 (by omega)] at z1
    rw [jc4 (by rw [<- rep.len];omega)] at z3
    exact ⟨z1,z2,z3⟩
   have kd2:KD (M.comp D ρ.length vI) H' fps1 H' fps2->True:=λ _=>trivial
   cases et:test ρ2 with
   | exc c=>rw [et] at ec;cases ec
   | no=>rw [et] at ec;cases ec
   | ok p=>
    obtain ⟨b,ρ3⟩:=p
    rw [et] at ec
    intro H3 fps3 k3 g3 r3
    dsimp only [Rz.bindN] at ec
    have far:∀ {ρ4:Rho}{H4:Hp}{fps4:Fps},KD (M.comp D ρ.length vI) H' fps2 H4 fps4->Agr (M.comp D ρ.length vI) ρ2 ρ4->Rep (M.comp D ρ.length vI) ρ4 σ2 H4 fps4 ->
      KD M H fps H4 (cut ρ.length fps4)/\KD M H' fps1 H4 (cut ρ.length fps4)/\Agr M ρ (ρ4.take ρ.length)/\Rep (M.plus [D]) (ρ4.take ρ.length) σ H4 (cut ρ.length fps4)/\H4 D=some (.lst ys):=λ {ρ4 H4 fps4} k4 g4 r4=>by
     have kk:KD M H' fps1 H4 (cut ρ.length fps4):=by
      refine ⟨λ a o ha hn=>k4.keep a o ha λ ⟨j,hj,hx⟩=>hn ⟨j,hj,s2 j a hx⟩,k4.dom,λ j a ha=>?_,λ j hj=>?_⟩
      ·rcases k4.sub j a (zvt ha).1 with z | z
       ·exact .inl (s2 j a z)
       ·exact .inr z
      ·unfold cut
       by_cases hjl:j < ρ.length
       ·rw [if_pos hjl,k4.same j hj];exact (same2 j hjl).2.1
       ·rw [if_neg hjl];exact (r1.far (by omega)).symm
     refine ⟨k1.trans kk,kk,?_,r4.take (σ':=σ) (λ j hj=>(same2 j hj).2.2) rep.len.symm (by rw [g4.2,hl2];omega) ⟨λ hio=>?_,λ p hp=>by rw [rep.len];exact (jb3.mp (rep.iov.2 p hp)).1⟩,?_⟩
     ·refine ⟨λ j hj=>?_,by rw [jd8,g4.2,hl2];omega⟩
      by_cases hjl:j < ρ.length
      ·rw [jg6 hjl,g4.1 j hj,(same2 j hjl).1];exact g1.1 j hj
      ·rw [jj0.mpr (by rw [jd8];omega),jj0.mpr (by omega)]
     ·cases e:M.io with
      | none=>exact absurd e hio
      | some v=>
       have:=(jb3.mp (rep.iov.1 v e).1).1
       rw [rep.len];exact this
     ·exact k4.keep D _ h1D λ ⟨j,_,hx⟩=>r2.zo j D hx (.inr (by simp))
    have notZ:∀ {H4:Hp}{fps4:Fps},KD M H' fps1 H4 fps4->∀ {a},a∈fpl->¬ Zf (M.plus [D]) fps4 a:=λ {H4 fps4} k4 a ha z=>by
     rcases z with z | ⟨j,z⟩
     ·exact (hf a ha).2 (.inl z)
     ·rcases k4.sub j a z with z | z
      ·exact (hf a ha).2 (.inr ⟨j,z⟩)
      ·obtain ⟨xs,e⟩:=tm.lsts a ha
       rw [z] at e;cases e
    cases b with
    | false=>
     rw [if_neg jb6] at ec ⊢
     obtain ⟨f1,f2,f3,f4,f5⟩:=far k3 g3 r3
     refine ⟨els.length - (i + 1),by omega,rfl,ρ3.take ρ.length,cut ρ.length fps3,acc,fpl,f4,f1,f3,?_,λ a ha=>⟨(hf a ha).1,λ z=>?_⟩,f5,by rw [eF,<- hlen];exact ec⟩
     ·exact KD.stays (M:=M.plus [D]) (σ:=σ) (ρ:=ρ1) ⟨f2.keep,f2.dom,f2.sub,f2.same⟩ r1 hvo2 tm λ a ha=>(hf a ha).2
     ·exact notZ f2 ha z
    | true=>
     rw [if_pos rfl] at ec ⊢
     refine ⟨_,hP D,ρ3,fps3,r3,?_⟩
     cases ee:elt ρ3 with
     | exc c=>rw [ee] at ec;cases ec
     | no=>rw [ee] at ec;cases ec
     | ok p=>
      obtain ⟨y,e,ρ4⟩:=p
      rw [ee] at ec
      intro w H4 fps4 fe k4 g4 r4 o4 t4
      dsimp only at ec
      by_cases hz:acc.length < va8
      ·rw [if_pos hz] at ec
       obtain ⟨f1,f2,f3,f4,f5⟩:=far (k3.trans k4) (g3.trans g4) r4
       have tm4:Tmps M.K H4 (Zv (M.plus [D]) vo (cut ρ.length fps4)) acc ys fpl:=KD.stays (M:=M.plus [D]) (σ:=σ) (ρ:=ρ1) ⟨f2.keep,f2.dom,f2.sub,f2.same⟩ r1 hvo2 tm λ a ha=>(hf a ha).2
       have zD:Zv (M.plus [D]) vo (cut ρ.length fps4) D:=.inl (.inr (by simp))
       have hDe:D∉fe:=λ z=>t4.ndj D z (.inl (.inr (by simp)))
       have hDl:D∉fpl:=λ z=>(hf D z).2 (.inl (.inr (by simp)))
       have oy:Own M.K H4 (λ a=>Zv (M.plus [D]) vo (cut ρ.length fps4) a\/a∈fe) y e w fe:=o4.weak λ a h=>h.elim (λ h=>.inl (h.elim .inl λ ⟨j,nj,hx⟩=>.inr ⟨j,λ z=>nj (hvo j z (zvt hx).2),(zvt hx).1⟩)) .inr
       have back3:∀ a,H3 a=none->H' a=none:=λ a e=>by
        cases e':H' a with
        | none=>rfl
        | some o=>exact absurd e (k3.dom a (by rw [e'];simp))
       have back1:∀ a,H' a=none->H a=none:=λ a e=>by
        cases e':H a with
        | none=>rfl
        | some o=>exact absurd e (k1.dom a (by rw [e'];simp))
       have kt:KD M H fps (upd H4 D (.lst (ys++[w]))) (cut ρ.length fps4):=⟨λ a o ha hn=>by rw [zqk (λ e=>by rw [e,hD] at ha;cases ha)];exact f1.keep a o ha hn,λ a ha=>by
        by_cases eb:a=D
        ·rw [eb,zqm];simp
        ·rw [zqk eb];exact f1.dom a ha,f1.sub,f1.same⟩
       refine ⟨f5,by rw [tm.length];exact hz,els.length - (i + 1),by omega,rfl,ρ4.take ρ.length,cut ρ.length fps4,acc++[(y,e)],fpl++fe,f4.touch f5,kt,f3,?_,λ a ha=>?_,zqm,by rw [eF,<- hlen];exact ec⟩
       ·exact (tm4.at zD ⟨.l ys,f5⟩ hDl).snoc (oy.at (.inl zD) ⟨.l ys,f5⟩ hDe λ _ _ n=>n) λ a ha hb=>by
         obtain ⟨xs,e⟩:=tm.lsts a ha
         rw [back3 a (t4.new a hb)] at e;cases e
       ·rcases jc9.mp ha with z | z
        ·exact ⟨(hf a z).1,notZ f2 z⟩
        ·refine ⟨back1 a (back3 a (t4.new a z)),λ hz=>t4.ndj a z ?_⟩
         rcases hz with hz | ⟨j,hz⟩
         ·exact .inl hz
         ·exact .inr ⟨j,(zvt hz).1⟩
      ·rw [if_neg hz] at ec;cases ec
 ·left
  have ed:els.drop i=[]:=jn6 (by omega)
  rw [ed] at ec
  rw [<- ec] at q
  unfold zwx at q
  exact ⟨hst hD k1 (by omega),q D ys H1 fps1 fpl k1 g1 r1 hD h1D tm hf⟩
end
section
variable {M:Fm}{ρ ρ':Rho}{σ σ':St}{H H' H'':Hp}{fps fps' fps'':Fps}{vs vs':List Nat}
def zvv:List (PV×Nat)->Bool
 | []=>true
 | p::r=>(p.2 == om) && zvv r
theorem zkk:∀ {xs:List (PV×Nat)},zvv xs=true->∀ p∈xs,p.2=om
 | [],_,_,h=>nomatch h
 | p::r,h,q,hq=>by
  unfold zvv at h
  rw [ja5] at h
  rcases ja6.mp hq with e | e
  ·rw [e];exact eq_of_beq h.1
  ·exact zkk h.2 q e
def zzw (acc:List (PV×Nat)) (ρ:Rho):Rz (PV×Nat×Rho):=.ok (.lst (acc.map (·.1)),if zvv acc then om else 1,ρ)
def zqh (f:Fx) (k:Nat) (asg:PV->Rho->Option Rho) (test:Fb) (elt:Fx):Fx:=λ ρ=>match f ρ with
 | .ok (.lst xs,_,ρ1)=>(zwx k asg test elt xs ρ1 []).bindN λ (acc,ρ2)=>zzw acc ρ2
 | .ok (.tup xs,_,ρ1)=>(zwx k asg test elt xs ρ1 []).bindN λ (acc,ρ2)=>zzw acc ρ2
 | .ok (.str z,_,ρ1)=>if qc0 z=true then (zwx k asg test elt (zbj z) ρ1 []).bindN λ (acc,ρ2)=>zzw acc ρ2 else .no
 | .ok _=>.no
 | .exc c=>.exc c
 | .no=>.no
def zxs (en:List (PV×Nat)->Option (Int×Int)) (fa:Fa) (k:Nat) (asg:PV->Rho->Option Rho) (test:Fb) (elt:Fx):Fx:=λ ρ=>match fa ρ with
 | .ok (xs,ρ1)=>(match en xs with
  | some (i,j)=>(zwx k asg test elt (zkc i (j - i).toNat) ρ1 []).bindN λ (acc,ρ2)=>zzw acc ρ2
  | none=>.no)
 | .exc c=>.exc c
 | .no=>.no
theorem zfo {D:Addr}{acc:List (PV×Nat)}{ws:List V}{fpl:List Addr}{vo:List Nat}{Q:VK}{H0:Hp}{fps0:Fps}{ρ0:Rho}
  (rep0:Rep M ρ σ H fps) (k0:KD M H0 fps0 H fps) (g0:Agr M ρ0 ρ) (q:∀ v H' fps' fp,KD M H0 fps0 H' fps'->Agr M ρ0 ρ'->Rep M ρ' σ H' fps'->Own M.K H' (Zt M vo fps' fp) (.lst (acc.map (·.1))) (if zvv acc then om else 1) v fp->Temp M vo H0 H' fps' fp->Q v H')
  (k:KD M H fps H' fps') (g:Agr M ρ ρ') (r:Rep (M.plus [D]) ρ' σ H' fps') (hD:H D=none) (hD':H' D=some (.lst ws)) (tm:Tmps M.K H' (Zv (M.plus [D]) vo fps') acc ws fpl) (hf:∀ a∈fpl,H a=none/\¬ Zf (M.plus [D]) fps' a):Q (.ref D) H':=by
 have back:∀ a,H a=none->H0 a=none:=λ a e=>by
  cases e':H0 a with
  | none=>rfl
  | some o=>exact absurd e (k0.dom a (by rw [e'];simp))
 have nD:¬ Zf M fps' D:=λ z=>by
  rcases z with z | ⟨j,z⟩
  ·exact rep0.zd D z hD
  ·exact r.zo j D z (.inr (by simp))
 have hDl:D∉fpl:=λ z=>(hf D z).2 (.inl (.inr (by simp)))
 have zt:∀ a,Zt M vo fps' [D] a->Zv (M.plus [D]) vo fps' a:=λ a h=>h.elim (λ h=>h.elim (λ h=>.inl (.inl h)) .inr) λ h=>.inl (.inr h)
 cases ho:zvv acc with
 | true=>
  rw [ho] at q
  refine q (.ref D) H' fps' (D::fpl) (k0.trans k) (g0.trans g) r.minus ?_ ⟨λ a ha=>?_,λ a ha=>?_⟩
  ·rw [Own]
   exact ⟨D,ws,rfl,.inr ⟨(by decide),fpl,hD',rfl,hDl,OwnL.full _ ws fpl (tm.all (zkk ho))⟩⟩
  ·rcases ja6.mp ha with z | z
   ·rw [z];exact back D hD
   ·exact back a (hf a z).1
  ·rcases ja6.mp ha with z | z
   ·rw [z];exact nD
   ·exact λ y=>(hf a z).2 (y.elim (λ y=>.inl (.inl y)) .inr)
 | false=>
  rw [ho] at q
  refine q (.ref D) H' fps' [D] (k0.trans k) (g0.trans g) r.minus ?_ ⟨λ a ha=>?_,λ a ha=>?_⟩
  ·show Own M.K H' (Zt M vo fps' [D]) (.lst (acc.map (·.1))) 1 (.ref D) [D]
   rw [Own]
   refine ⟨D,ws,rfl,.inr ⟨(by decide),[],hD',rfl,(λ z=>nomatch z),?_⟩⟩
   rw [qbu]
   exact (tm.cold λ a ha z=>(hf a ha).2 z.zf).weak zt
  ·rw [jc3.mp ha];exact back D hD
  ·rw [jc3.mp ha];exact nD
theorem qhg {g:TG}{is vI vE vo:List Nat}{asg:PV->Rho->Option Rho}{test:Fb}{elt f:Fx}{k n:Nat}{Q:VK}{P:Fm->Prop}
  (hn:σ.length=n) (hP:∀ D,P (M.comp D n vI)) (hal:∀ i,∀ j∈M.al i,M.Ms j=false) (hvI:∀ i∈vI,M.Ms i=false) (hvE:∀ i∈vE,M.Ms i=false) (his:∀ i∈is,n<=i) (hg:∀ D,GOk (M.comp D n vI) vI is g asg)
  (hvo:∀ i,i∈vE->i < n->i∈vo) (hvo2:∀ i∈vo,M.Ms i=false) (hq:tE M (zqh f k asg test elt) vo σ H Q):
  qai k (iSeq M.K (tE M f vI)) g (λ σ H Q=>∃ M',P M'/\tT M' test σ H Q) (λ σ H Q=>∃ M',P M'/\tE M' elt vE σ H Q) σ H Q:=by
 obtain ⟨ρ,fps,rep,q⟩:=hq
 refine ⟨ρ,fps,rep,?_⟩
 unfold zqh at q
 cases ef:f ρ with
 | no=>rw [ef] at q;exact q
 | exc c=>rw [ef] at q;exact q
 | ok p=>
  obtain ⟨x,d,ρ1⟩:=p
  rw [ef] at q
  intro v H1 fps1 f1 k1 g1 rep1 o1 t1
  have o0:Own M.K H1 (Zv M vI fps1) x 0 v []:=Own.freeze (λ _ z=>.inl z) x d v f1 (λ a ha z=>t1.ndj a ha z.zf) o1
  have hl:n=ρ1.length:=by rw [rep1.len];exact hn.symm
  have fin:∀ (els:List PV),(match (zwx k asg test elt els ρ1 []).bindN λ (acc,ρ2)=>zzw acc ρ2 with
    | .ok (x,d,ρ')=>∀ v H' fps' fp,KD M H fps H' fps'->Agr M ρ ρ'->Rep M ρ' σ H' fps'->Own M.K H' (Zt M vo fps' fp) x d v fp->Temp M vo H H' fps' fp->Q v H'
    | .exc c=>∀ H' fps',KD M H fps H' fps'->M.W σ c H'
    | .no=>False)->(match zwx k asg test elt els ρ1 [] with
    | .ok (acc,ρ')=>∀ D ws H' fps' fpl,KD M H1 fps1 H' fps'->Agr M ρ1 ρ'->Rep (M.plus [D]) ρ' σ H' fps'->H1 D=none->H' D=some (.lst ws)->Tmps M.K H' (Zv (M.plus [D]) vo fps') acc ws fpl->(∀ a∈fpl,H1 a=none/\¬ Zf (M.plus [D]) fps' a)->Q (.ref D) H'
    | _=>False):=λ els q=>by
   cases ec:zwx k asg test elt els ρ1 [] with
   | no=>rw [ec] at q;exact q.elim
   | exc c=>rw [ec] at q;exact q.elim
   | ok p=>
    obtain ⟨acc,ρ2⟩:=p
    rw [ec] at q
    exact λ D ws H' fps' fpl k g r hD hD' tm hf=>zfo rep1 k1 g1 q k g r hD hD' tm hf
  cases x with
  | lst xs=>
   have one:∀ {Z:Addr->Prop}{H:Hp},Own M.K H Z (.lst xs) 0 v []->∃ a ws,v=.ref a/\SqL M.K H a ws/\OwnL M.K H Z xs 0 ws []:=λ o=>by
    rw [Own] at o
    obtain ⟨b,ws,e,⟨_,hr,_,ol⟩ | ⟨h,_⟩⟩:=o
    ·exact ⟨b,ws,e,.inl (.inl hr.1),ol⟩
    ·exact absurd rfl h
   obtain ⟨a,ws,rfl,sq,ol⟩:=one o0
   refine .inl ⟨a,rfl,.inl ⟨⟨ws,sq⟩,?_⟩⟩
   refine zyj (els:=xs) hP hl hal hvI hvE his hg hvo hvo2 rep1 (λ {D H' fps' i} hD k' h=>?_) (λ {D H' fps' i} hD k' h=>?_) (λ {D H' fps' i x H''} hD k' h y=>?_) (fin xs q)
   ·obtain ⟨a',ws,e,s,ol⟩:=one (KD.seen rep1 k' hD hvI o0)
    cases e
    exact ⟨ws,ws[i]'(by rw [ol.length];exact h),s,by simp⟩
   ·obtain ⟨a',ws,e,s,ol⟩:=one (KD.seen rep1 k' hD hvI o0)
    cases e
    exact ⟨ws,s,by rw [ol.length];exact h⟩
   ·obtain ⟨a',ws,e,s,ol⟩:=one (KD.seen rep1 k' hD hvI o0)
    cases e
    obtain ⟨e1,e2⟩:=y
    subst e1
    exact ⟨λ _ _ h=>h,ol.get (e2 ws s)⟩
  | tup xs=>
   have one:∀ {Z:Addr->Prop}{H:Hp},Own M.K H Z (.tup xs) 0 v []->∃ a ws,v=.ref a/\SqT M.K H a ws/\OwnL M.K H Z xs 0 ws []:=λ o=>by
    rw [Own] at o
    obtain ⟨a,ws,e,hr,ol⟩:=o
    exact ⟨a,ws,e,.inl (.inl hr),ol⟩
   obtain ⟨a,ws,rfl,sq,ol⟩:=one o0
   refine .inl ⟨a,rfl,.inr ⟨⟨ws,sq⟩,?_⟩⟩
   refine zyj (els:=xs) hP hl hal hvI hvE his hg hvo hvo2 rep1 (λ {D H' fps' i} hD k' h=>?_) (λ {D H' fps' i} hD k' h=>?_) (λ {D H' fps' i x H''} hD k' h y=>?_) (fin xs q)
   ·obtain ⟨a',ws,e,s,ol⟩:=one (KD.seen rep1 k' hD hvI o0)
    cases e
    exact ⟨ws,ws[i]'(by rw [ol.length];exact h),s,by simp⟩
   ·obtain ⟨a',ws,e,s,ol⟩:=one (KD.seen rep1 k' hD hvI o0)
    cases e
    exact ⟨ws,s,by rw [ol.length];exact h⟩
   ·obtain ⟨a',ws,e,s,ol⟩:=one (KD.seen rep1 k' hD hvI o0)
    cases e
    obtain ⟨e1,e2⟩:=y
    subst e1
    exact ⟨λ _ _ h=>h,ol.get (e2 ws s)⟩
  | str z=>
   have o0':=o0
   rw [Own] at o0'
   obtain ⟨rfl,_⟩:=o0'
   dsimp only at q
   by_cases ha:qc0 z=true
   ·rw [if_pos ha] at q
    refine .inr ⟨z,rfl,ha,?_⟩
    have hl':(zbj z).length=z.cps.size:=by unfold zbj;rw [ja3,jh4]
    refine zyj (els:=zbj z) hP hl hal hvI hvE his hg hvo hvo2 rep1 (λ {D H' fps' i} hD k' h=>?_) (λ {D H' fps' i} hD k' h=>?_) (λ {D H' fps' i x H''} hD k' h y=>?_) (fin (zbj z) q)
    ·show i < z.cps.size
     omega
    ·show z.cps.size<=i
     omega
    ·obtain ⟨rfl,c,hc,rfl⟩:=y
     refine ⟨λ _ _ h=>h,.str ⟨#[c]⟩,?_,by rw [Own];exact ⟨rfl,rfl⟩⟩
     unfold zbj
     rw [jc1,jk7,hc]
     rfl
   ·rw [if_neg ha] at q
    exact q.elim
  | _=>exact q.elim
theorem zmh {g:TG}{is vI vE vo:List Nat}{asg:PV->Rho->Option Rho}{test:Fb}{elt:Fx}{k n:Nat}{Q:VK}{P:Fm->Prop}{lo:Int}{m:Nat}{H0:Hp}{fps0:Fps}{ρ0:Rho}
  (hn:σ.length=n) (hP:∀ D,P (M.comp D n vI)) (hal:∀ i,∀ j∈M.al i,M.Ms j=false) (hvI:∀ i∈vI,M.Ms i=false) (hvE:∀ i∈vE,M.Ms i=false) (his:∀ i∈is,n<=i) (hg:∀ D,GOk (M.comp D n vI) vI is g asg)
  (hvo:∀ i,i∈vE->i < n->i∈vo) (hvo2:∀ i∈vo,M.Ms i=false) (k0:KD M H0 fps0 H fps) (g0:Agr M ρ0 ρ) (rep:Rep M ρ σ H fps)
  (q:match (zwx k asg test elt (zkc lo m) ρ []).bindN λ (acc,ρ2)=>zzw acc ρ2 with
    | .ok (x,d,ρ')=>∀ v H' fps' fp,KD M H0 fps0 H' fps'->Agr M ρ0 ρ'->Rep M ρ' σ H' fps'->Own M.K H' (Zt M vo fps' fp) x d v fp->Temp M vo H0 H' fps' fp->Q v H'
    | .exc c=>∀ H' fps',KD M H0 fps0 H' fps'->M.W σ c H'
    | .no=>False):
  ∀ D,H D=none->∃ W:Nat->Nat->List V->Hp->Prop,(∃ m,W 0 m [] (upd H D (.lst [])))/\∀ i j ys H1,W i j ys H1->H1 D=some (.lst ys) /\
   (((Itr lo m).stop i H1/\Q (.ref D) H1)\/((Itr lo m).go i H1/\∀ x H',(Itr lo m).yld i H1 x H'->g x (σ++jb1 k none) H' λ σ2 H2=>∃ M',P M'/\tT M' test σ2 H2 λ b H3=>if b=true then ∃ M',P M'/\tE M' elt vE σ2 H3 λ y H4=>H4 D=some (.lst ys)/\ys.length < va8/\∃ m',m' < j/\W (i + 1) m' (ys++[y]) (upd H4 D (.lst (ys++[y]))) else ∃ m',m' < j/\W (i + 1) m' ys H3)):=by
 have hl:n=ρ.length:=by rw [rep.len];exact hn.symm
 refine zyj (els:=zkc lo m) hP hl hal hvI hvE his hg hvo hvo2 rep (λ {D H' fps' i} hD k' h=>?_) (λ {D H' fps' i} hD k' h=>?_) (λ {D H' fps' i x H''} hD k' h y=>?_) ?_
 ·rw [zzh] at h;exact h
 ·rw [zzh] at h;exact h
 ·rw [zzh] at h
  obtain ⟨e1,e2⟩:=y
  subst e1
  exact ⟨λ _ _ h=>h,.int (lo + i),by simp [zkc,h],by rw [e2,Own];exact ⟨rfl,rfl⟩⟩
 ·cases ec:zwx k asg test elt (zkc lo m) ρ [] with
  | no=>rw [ec] at q;exact q.elim
  | exc c=>rw [ec] at q;exact q.elim
  | ok p=>
   obtain ⟨acc,ρ2⟩:=p
   rw [ec] at q
   exact λ D ws H' fps' fpl k g r hD hD' tm hf=>zfo rep k0 g0 q k g r hD hD' tm hf
theorem qhi {g:TG}{is vI vE vo:List Nat}{asg:PV->Rho->Option Rho}{test:Fb}{elt:Fx}{fa:Fa}{k n:Nat}{Q:VK}{P:Fm->Prop}
  (hn:σ.length=n) (hP:∀ D,P (M.comp D n vI)) (hal:∀ i,∀ j∈M.al i,M.Ms j=false) (hvI:∀ i∈vI,M.Ms i=false) (hvE:∀ i∈vE,M.Ms i=false) (his:∀ i∈is,n<=i) (hg:∀ D,GOk (M.comp D n vI) vI is g asg)
  (hvo:∀ i,i∈vE->i < n->i∈vo) (hvo2:∀ i∈vo,M.Ms i=false) (hq:tE M (zxs zqz fa k asg test elt) vo σ H Q):
  qai k (qih (tL M fa vs)) g (λ σ H Q=>∃ M',P M'/\tT M' test σ H Q) (λ σ H Q=>∃ M',P M'/\tE M' elt vE σ H Q) σ H Q:=by
 obtain ⟨ρ,fps,rep,q⟩:=hq
 refine ⟨ρ,fps,rep,?_⟩
 unfold zxs at q
 cases ef:fa ρ with
 | no=>rw [ef] at q;exact q
 | exc c=>rw [ef] at q;exact q
 | ok p=>
  obtain ⟨xs,ρ1⟩:=p
  rw [ef] at q
  intro ws H1 fps1 f1 k1 g1 rep1 o1 t1
  dsimp only at q
  cases ee:zqz xs with
  | none=>rw [ee] at q;exact q.elim
  | some ij=>
   obtain ⟨i,j⟩:=ij
   rw [ee] at q
   unfold zqz at ee
   split at ee
   ·rename_i j' d
    split at ee
    ·rename_i hb
     cases ee
     obtain ⟨v,r,f1,f2,rfl,_,_,h1,h2⟩:=o1
     obtain ⟨rfl,_⟩:=h2
     rw [Own] at h1
     obtain ⟨rfl,_⟩:=h1
     refine ⟨j,rfl,hb.1,hb.2,?_⟩
     have e:(j - 0).toNat=j.toNat:=by omega
     dsimp only at q
     rw [e] at q
     exact zmh hn hP hal hvI hvE his hg hvo hvo2 k1 g1 rep1 q
    ·cases ee
   ·cases ee
theorem qhh {g:TG}{is vI vE vo:List Nat}{asg:PV->Rho->Option Rho}{test:Fb}{elt:Fx}{fa:Fa}{k n:Nat}{Q:VK}{P:Fm->Prop}
  (hn:σ.length=n) (hP:∀ D,P (M.comp D n vI)) (hal:∀ i,∀ j∈M.al i,M.Ms j=false) (hvI:∀ i∈vI,M.Ms i=false) (hvE:∀ i∈vE,M.Ms i=false) (his:∀ i∈is,n<=i) (hg:∀ D,GOk (M.comp D n vI) vI is g asg)
  (hvo:∀ i,i∈vE->i < n->i∈vo) (hvo2:∀ i∈vo,M.Ms i=false) (hq:tE M (zxs zpa fa k asg test elt) vo σ H Q):
  qai k (qig (tL M fa vs)) g (λ σ H Q=>∃ M',P M'/\tT M' test σ H Q) (λ σ H Q=>∃ M',P M'/\tE M' elt vE σ H Q) σ H Q:=by
 obtain ⟨ρ,fps,rep,q⟩:=hq
 refine ⟨ρ,fps,rep,?_⟩
 unfold zxs at q
 cases ef:fa ρ with
 | no=>rw [ef] at q;exact q
 | exc c=>rw [ef] at q;exact q
 | ok p=>
  obtain ⟨xs,ρ1⟩:=p
  rw [ef] at q
  intro ws H1 fps1 f1 k1 g1 rep1 o1 t1
  dsimp only at q
  cases ee:zpa xs with
  | none=>rw [ee] at q;exact q.elim
  | some ij=>
   obtain ⟨i,j⟩:=ij
   rw [ee] at q
   unfold zpa at ee
   split at ee
   ·rename_i i' d j' d'
    split at ee
    ·rename_i hb
     cases ee
     obtain ⟨v,r,f1,f2,rfl,_,_,h1,h2⟩:=o1
     obtain ⟨v2,r2,f3,f4,rfl,_,_,h3,h4⟩:=h2
     obtain ⟨rfl,_⟩:=h4
     rw [Own] at h1 h3
     obtain ⟨rfl,_⟩:=h1
     obtain ⟨rfl,_⟩:=h3
     exact ⟨i,j,rfl,hb,zmh hn hP hal hvI hvE his hg hvo hvo2 k1 g1 rep1 q⟩
    ·cases ee
   ·cases ee
end
theorem qcu {K:Frag}{c:Nat}{C:Addr} (e:zvl K c=some C):c < 12:=by
 unfold zvl at e
 split at e
 ·rename_i x h
  exact (jb3.mp h).1
 ·cases e
structure XC (h:Heap) (K:Frag) (c:Nat) (C:Addr):Prop where
 obj:∃ bm N nm q bs hdct sn sub ab col dd k0 k1 k2 k3 k5 mN,h.get? C=some (excClassObj nm q C N bs bm hdct sn sub ab col dd k0 k1 k2 k3 k5 "ValueError.__new__")/\h.Ns N mN/\mN "__init__" = none/\OwnTail h bmV bm/\∀ d D,zvl K d=some D->(Value.ref C::bm).contains (.ref D)=isX c d
def XEof (W:Nat->Hp->Prop):XK:=λ v _ H'=>match v with
 | .int c _=>W c.toNat H'
 | _=>False
def CXr (P:vb0) (w:vc1) (K:Frag):CXT:=λ outer H s E e s'=>∃ (a C:Addr) (c:Nat) (H':Hp) (B:Heap) (a0:va2),e=.ref a/\zvl K c=some C/\s'.os=s.os/\vi6 s'.gens/\Un (frs outer) [] H H' s.heap s'.heap/\HOk P w H' s'.heap/\H' a=none/\s.heap.get? a=none /\
 Heap.FlyingW B outer a (.ref C) a0 s'.heap/\(∀ b o,s'.heap.get? b=some o->H' b≠none->B.get? b=some o)/\(∀ b o,s.heap.get? b=some o->H b=none->b∉frs outer->B.get? b=some o)/\(∀ b,H b≠none->H' b≠none)/\E (.int (c:Int) 0) none H'
theorem zfc {P:vb0}{w:vc1}{H:Hp}{h:Heap}{a:Addr}{o:HO} (x:zzd P w H h a o):∃ u,h.get? a=some u:=by
 cases o with
 | lst xs=>obtain ⟨_,_,_,_,e⟩:=x;exact ⟨_,e⟩
 | tup xs=>obtain ⟨_,_,_,o,e,_⟩:=x;exact ⟨_,e⟩
 | dK kvs=>obtain ⟨_,_,_,_,o,_,_,e,_⟩:=x;exact ⟨_,e⟩
 | dT kvs=>obtain ⟨_,_,_,_,o,_,_,e,_⟩:=x;exact ⟨_,e⟩
 | set S n=>obtain ⟨o,_,_,_,e,_⟩:=x;exact ⟨_,e⟩
 | ins C dx fs=>obtain ⟨_,_,_,e,_⟩:=x;exact ⟨_,e⟩
 | own y=>exact x
 | xd fs=>obtain ⟨_,⟨_,_,_,e,_⟩,_⟩:=x;exact ⟨_,e⟩
 | rng lo hi=>obtain ⟨_,_,_,e⟩:=x;exact ⟨_,e⟩
 | frz ob u=>obtain ⟨e,_⟩:=x;exact ⟨_,e⟩
 | tbl ps=>exact ⟨_,(show h.get? a=some _ from x)⟩
 | met f y=>exact ⟨_,(show h.get? a=some _ from x)⟩
 | ext φ=>exact x.2.1
section
variable {X:Cx}{pins:List (Addr×Obj)}{σ:St}{H H1:Hp}{s s2:va3}{h1 B:Heap}{a C:Addr}{a0:va2}{c:Nat}{E:XK}{P:vb0}{w:vc1}{K:Frag}
theorem qcj (I:L2.Inv X pins σ H s) (hex:X.ex=[]) (u:Un (frs X.stack) [] H H1 s.heap h1) (hok:HOk X.prog X.w H1 h1) (fl:Heap.FlyingW B X.outer a (.ref C) a0 s2.heap) (up:h1.UpToSlots s2.heap)
  (i1:∀ b o,h1.get? b=some o->H1 b≠none->B.get? b=some o) (i2:∀ b o,s.heap.get? b=some o->H b=none->b∉frs X.stack->B.get? b=some o) (ha:H1 a=none) (hn:s.heap.get? a=none)
  (hE:E (.int (c:Int) 0) none H1) (hd:∀ b,X.H₀ b≠none->H1 b≠none) (hc:zvl X.K c=some C) (ho:s2.os=s.os) (hg:vi6 s2.gens):CXr X.prog X.w X.K X.outer X.H₀ X.s₀ E (.ref a) s2:=by
 have nx:∀ b:Addr,b∉X.ex:=λ b z=>by rw [hex] at z;cases z
 have key:∀ b o,X.s₀.heap.get? b=some o->X.H₀ b=none->b∉frs X.outer->B.get? b=some o:=λ b o e n hb=>by
  refine i2 b o (I.base.keep b o e n hb (nx b)) (I.base.free b o e n (nx b)) λ z=>?_
  rcases ja6.mp (I.stkSub b z) with z | z
  ·exact absurd (jb5 (va4 e) I.ok.above) (by rw [z];exact jf6 _)
  ·exact hb z
 have fr:∀ b o,X.s₀.heap.get? b=some o->X.H₀ b=none->b∈frs X.outer->∃ sl,s2.heap.get? b=some { o with slots:=sl }:=λ b o e n hb=>by
  obtain ⟨sl,e1⟩:=I.base.slot b o e n hb (nx b)
  obtain ⟨sl',e2⟩:=u.any e1 (I.base.free b o e n (nx b)) (by simp)
  obtain ⟨_,o',ho',hnf⟩:=I.ok.funs.mem hb
  rw [e] at ho';cases ho'
  obtain ⟨sl2,e3⟩:=up b _ e2 hnf
  exact ⟨sl2,e3⟩
 have trk:∀ b v,H1 b≠none->h1.get? b=some v->s2.heap.get? b=some v:=λ b v hb e=>fl.1 b v (i1 b v e hb)
 have un:Un (frs X.outer) [] X.H₀ H1 X.s₀.heap s2.heap:=by
  refine ⟨λ b o e n hb _=>fl.1 b o (key b o e n hb),λ b o e n hb _=>fr b o e n hb,λ b o e n _=>?_,λ b o e _=>?_,λ b xs e=>u.tups b xs (I.base.tups b xs e),λ b o xs e=>u.frzs b o xs (I.base.frzs b o xs e),λ b ps e=>?_⟩
  ·obtain ⟨o',e'⟩:=I.base.there b o e (nx b)
   exact u.free b o' e' (I.base.free b o e n (nx b)) (by simp)
  ·by_cases h0:X.H₀ b=none
   ·by_cases hb:b∈frs X.outer
    ·obtain ⟨sl,e2⟩:=fr b o e h0 hb
     exact ⟨_,e2⟩
    ·exact ⟨o,fl.1 b o (key b o e h0 hb)⟩
   ·obtain ⟨o',e'⟩:=I.base.there b o e (nx b)
    obtain ⟨o2,e2⟩:=u.there b o' e' (by simp)
    exact ⟨o2,trk b o2 (hd b h0) e2⟩
  ·obtain ⟨m1,e1⟩:=I.base.tbls b ps e
   obtain ⟨m2,e2⟩:=u.tbls b _ e1
   exact ⟨m1++m2,by rw [e2,jp1]⟩
 refine ⟨a,C,c,H1,B,a0,rfl,hc,ho.trans I.os,hg,un,λ b o e=>?_,ha,?_,fl,λ b o e hb=>?_,key,hd,hE⟩
 ·refine (hok b o e).stay (λ d v hd q=>trk d v ?_ q) (λ _ q=>q) λ _ _ q=>q
  rcases hd with rfl | hd
  ·rw [e];simp
  ·rw [hd];simp
 ·cases q:X.s₀.heap.get? a with
  | none=>rfl
  | some o=>
   obtain ⟨o',e'⟩:=I.base.there a o q (nx a)
   rw [hn] at e';cases e'
 ·cases q:H1 b with
  | none=>exact absurd q hb
  | some o1=>
   obtain ⟨v,hv⟩:=zfc (hok b o1 q)
   have e2:=trk b v hb hv
   rw [e] at e2
   cases e2
   exact i1 b o hv hb
end
def zfv (CX:CXT) (X:Cx) (W:St->Nat->Hp->Prop):Prop:=∀ (pins:List (Addr×Obj)) (σ:St) (H:Hp) (s:va3) (e:va2) (s':va3),L2.Inv X pins σ H s->CX X.stack H s (XEof (W σ)) e s'->X.xe e s'
def qg4 (X:Cx) (W:St->Nat->Hp->Prop):Prop:=∀ (pins:List (Addr×Obj)) (σ:St) (H:Hp) (s:va3) (c:Nat) (C a:Addr) (h':Heap) (args:List va2),L2.Inv X pins σ H s->zvl X.K c=some C->Heap.MadeExcOf s.heap h' a (.ref C) args->W σ c H->X.xe (.ref a) { s with heap:=h' }
abbrev W0:St->Nat->Hp->Prop:=λ _ _ _=>False
theorem qov {P:vb0}{w:vc1}{K:Frag}{X:Cx}:zfv (CXr P w K) X W0:=λ _ _ _ _ _ _ _ h=>by
 obtain ⟨a,C,c,H',B,a0,_,_,_,_,_,_,_,_,_,_,_,_,hE⟩:=h
 exact vf7 hE
def WE (E:XK) (H:Hp):St->Nat->Hp->Prop:=λ _ c H'=>E (.int (c:Int) 0) none H'/\∀ b,H b≠none->H' b≠none
section
variable {P:vb0}{w:vc1}{K:Frag}{mg:Str->Option va2}{base:Heap}{N:List Str}{qual:Str}{scope:ve5}{f:Addr}{cd:va2}{A:vc0}{outer:List Env}{s:va3}{H:Hp}{E:XK}
theorem qh6:zfv (CXr P w K) (cxOf (CXr P w K) P w K mg base N qual scope f cd A outer s H E) (WE E H):=by
 intro pins σ H1 s1 e s' I h
 obtain ⟨a,C,c,H',B,a0,rfl,hc,ho,hg,un,hok,ha,hn,fl,i1,i2,hd,hE⟩:=h
 have hE':WE E H σ c H':=hE
 refine wpAny_leaves_onW (by exact I.ok.frames) rfl fl λ h2 f2 up=>?_
 exact qcj (s2:={ s' with heap:=h2 }) I rfl un hok f2 up i1 i2 ha hn hE'.1 hE'.2 hc ho hg
theorem qem:qg4 (cxOf (CXr P w K) P w K mg base N qual scope f cd A outer s H E) (WE E H):=by
 intro pins σ H1 s1 c C a h' args I hc hx hW
 have hin:∀ env∈(cxOf (CXr P w K) P w K mg base N qual scope f cd A outer s H E).stack,∀ b,env.frame=some b->b∈frs (cxOf (CXr P w K) P w K mg base N qual scope f cd A outer s H E).stack:=λ env he b hb=>jm3.mpr ⟨env,he,hb⟩
 have trk:∀ b,H1 b≠none->∃ o,s1.heap.get? b=some o:=λ b hb=>by
  cases q:H1 b with
  | none=>exact absurd q hb
  | some u=>exact zfc (I.hok b u q)
 have nfr:∀ b,H1 b≠none->b∉frs (cxOf (CXr P w K) P w K mg base N qual scope f cd A outer s H E).stack:=λ b hb z=>hb (I.stkFree b z)
 refine wpAny_leaves_madeW (base:=PySem.W.hideAll s1.heap (frs (cxOf (CXr P w K) P w K mg base N qual scope f cd A outer s H E).stack)) (h:=s1.heap) (by exact I.ok.frames) rfl (λ b o q=>PySem.W.of_hideAll _ q) (PySem.W.funFrames_hide I.stack hin) hx λ h2 t f2 _ _ up=>?_
 refine qcj (s2:={ s1 with heap:=h2 }) I rfl (Un.kept hx.keeps) (I.hok.kept hx.keeps) f2 up (λ b o e hb=>?_) (λ b o e _ hb=>vk3 _ e hb) ?_ hx.new hW.1 hW.2 hc rfl I.bare
 ·obtain ⟨o1,e1⟩:=trk b hb
  have e2:=hx.keeps b o1 e1
  rw [e] at e2
  cases e2
  exact vk3 _ e1 (nfr b hb)
 ·cases q:H1 a with
  | none=>rfl
  | some u=>
   obtain ⟨o,e⟩:=zfc (I.hok a u q)
   rw [hx.new] at e;cases e
theorem ql0:PassesOwn (vb4 P w) (cxOf (CXr P w K) P w K mg base N qual scope f cd A outer s H E).A (cxOf (CXr P w K) P w K mg base N qual scope f cd A outer s H E).env (cxOf (CXr P w K) P w K mg base N qual scope f cd A outer s H E).xe:=PassesOwn.leaving
end
section
variable {X:Cx}{CX:CXT}{k:Nat}{f:Addr}{fd:vd6}{ps:List Str}{sp:Sp}{x:Str}{p pos:Pos}{e:Expr}{es:List Expr}{t:TA}{W:St->Nat->Hp->Prop}
def qjl (sp:Sp) (W:St->Nat->Hp->Prop) (t:TA):TE:=λ σ H Q=>t σ H λ vs H1=>sp vs H1 Q (XEof (W σ))
theorem qh5 (F:FnOk X.prog X.w X.K X.mg X.base CX k f fd ps sp) (hr:Room k X.A) (hg:Gl X x) (hm:X.mg x=some (.ref f)) (hk:vf3 X.K (.ref f)=true) (hb:qad X.K fd ps []) (hx:zfv CX X W) (ha:PA X (e::es) t) (hdb:(x == ("__debug__" : Str))=false)
  (he:va7 (e::es) X.env=(false,eval e X.env)::va7 es X.env) (hpl:(vg1 pos (va7 es X.env)).any (·.1)=false):PE X (.Call (.Name x p) (e::es) [] pos) (qjl sp W t):=by
 intro pins s σ H Q I h
 refine vk5 (qfq I hg hm ?_ hdb)
 refine PySem.W.callWith_K (h₀:=X.base) I.ok.mod.kin hk (thn (ha pos pins s σ H _ I h) λ us s1 ⟨vs,H1,I1,r,q⟩=>⟨I1.kIn,?_⟩) he hpl
 have q':sp vs H1 Q (XEof (W σ)):=q
 have hl:(us++[]).length=ps.length:=by rw [jj8,<- r.length];exact F.len _ _ _ _ q'
 have hbd:=hb s1 us I1.kIn hl
 rw [jj8] at hbd
 refine wpAny_call (codeAny_mono (F.run X.A X.stack s1 H1 ⟨us,[]⟩ us vs Q (XEof (W σ)) hr I1.env0 hbd r q') λ r s' hq=>?_)
 cases r with
 | error e=>exact hx pins σ H1 s1 e s' I1 hq
 | ok fl=>
  cases fl with
  | ret u=>exact I1.after hq
  | next=>exact vf7 hq
  | brk=>exact vf7 hq
  | cont=>exact vf7 hq
end
def zvu (cells:List (Str×Addr)):List (Str×ve1)->List (Str×Addr)->List (Str×Addr)
 | [],cs=>cs
 | (n,k)::r,cs=>if k == .free then zvu cells r ((n,(cells.lookup n).getD 0)::cs) else zvu cells r cs
theorem zyl {scope:ve5}{env:Env} (h:∀ x∈scope.names,x.2=.free->∃ c,env.cells.lookup x.1=some c):closureFor scope env=pure (zvu env.cells scope.names []):=by
 unfold closureFor
 have all:∀ (l:List (Str×ve1)) (cs:List (Str×Addr)),(∀ x∈l,x.2=.free->∃ c,env.cells.lookup x.1=some c) ->
   (forIn l cs λ (x:Str×ve1) (cs:List (Str×Addr))=>if (x.2 == NameKind.free)=true then (do let a<-cellOf env x.1;pure (ForInStep.yield ((x.1,a)::cs))) else pure (ForInStep.yield cs):Sem (List (Str×Addr)))=pure (zvu env.cells l cs):=by
  intro l
  induction l with
  | nil=>intro cs _;rfl
  | cons x r ih=>
   intro cs hl
   obtain ⟨n,k⟩:=x
   rw [jl5]
   have ih':=λ cs=>ih cs λ y hy=>hl y (ja1 _ hy)
   by_cases hk:(k == NameKind.free)=true
   ·obtain ⟨c,hc⟩:=hl (n,k) ja4 (by simpa using hk)
    have e1:cellOf env n=pure c:=by unfold cellOf;rw [hc]
    rw [if_pos hk,e1]
    simp only [pure_bind]
    rw [ih',zvu,if_pos hk,hc]
    rfl
   ·rw [if_neg hk]
    simp only [pure_bind]
    rw [ih',zvu,if_neg hk]
 have:=all scope.names [] h
 simp only [bind_pure] at this ⊢
 exact this
theorem zxf (cells:List (Str×Addr)) (x:Str) (c:Addr):∀ (l:List (Str×ve1)) (cs:List (Str×Addr)),(∀ y∈l,y.2=.free->∃ c,cells.lookup y.1=some c)->(cs.lookup x=some c->cells.lookup x=some c)->(zvu cells l cs).lookup x=some c->cells.lookup x=some c
 | [],cs,_,h,e=>h e
 | (n,k)::r,cs,hl,h,e=>by
  unfold zvu at e
  split at e
  ·rename_i hk
   refine zxf cells x c r _ (λ y hy=>hl y (ja1 _ hy)) (λ e'=>?_) e
   rw [je1] at e'
   split at e'
   ·rename_i hx
    obtain ⟨c',hc⟩:=hl (n,k) ja4 (by simpa using hk)
    rw [hc] at e'
    cases e'
    rw [eq_of_beq hx];exact hc
   ·exact h e'
  ·exact zxf cells x c r cs (λ y hy=>hl y (ja1 _ hy)) h e
theorem zjc (cells:List (Str×Addr)) (x:Str):∀ (l:List (Str×ve1)) (cs:List (Str×Addr)),(∃ c,cs.lookup x=some c)->∃ c,(zvu cells l cs).lookup x=some c
 | [],cs,h=>h
 | (n,k)::r,cs,h=>by
  unfold zvu
  split
  ·refine zjc cells x r _ ?_
   rw [je1]
   split
   ·exact ⟨_,rfl⟩
   ·exact h
  ·exact zjc cells x r cs h
theorem zpg (cells:List (Str×Addr)) (x:Str):∀ (l:List (Str×ve1)) (cs:List (Str×Addr)),(x,NameKind.free)∈l->∃ c,(zvu cells l cs).lookup x=some c
 | [],_,h=>nomatch h
 | (n,k)::r,cs,h=>by
  unfold zvu
  rcases ja6.mp h with e | e
  ·cases e
   rw [if_pos (show (NameKind.free == NameKind.free)=true by decide)]
   exact zjc cells x r _ ⟨_,by rw [je1,beq_self_eq_true]⟩
  ·split
   ·exact zpg cells x r _ e
   ·exact zpg cells x r cs e
theorem zph:∀ (names:List (Str×ve1)) (n:Nat) (acc:List (Str×Addr)) (x:Str) (c:Addr),(vc7 n names acc).lookup x=some c->acc.lookup x=some c\/(n<=c/\(x,NameKind.cell)∈names)
 | [],n,acc,x,c,h=>.inl h
 | (m,k)::r,n,acc,x,c,h=>by
  unfold vc7 at h
  split at h
  ·rename_i hk
   have hk':k=.cell:=by simpa using hk
   rcases zph r _ _ x c h with z | ⟨z,y⟩
   ·rw [je1] at z
    split at z
    ·rename_i hx
     cases z
     exact .inr ⟨jb2 _,by rw [eq_of_beq hx,hk'];exact ja4⟩
    ·exact .inl z
   ·exact .inr ⟨jf9 z,ja1 _ y⟩
  ·rcases zph r _ _ x c h with z | ⟨z,y⟩
   ·exact .inl z
   ·exact .inr ⟨z,ja1 _ y⟩
theorem zfr:∀ (names:List (Str×ve1)) (n:Nat) (acc:List (Str×Addr)) (x:Str),(x,NameKind.cell)∉names->(vc7 n names acc).lookup x=acc.lookup x
 | [],n,acc,x,h=>rfl
 | (m,k)::r,n,acc,x,h=>by
  unfold vc7
  split
  ·rename_i hk
   have hk':k=.cell:=by simpa using hk
   rw [zfr r _ _ x λ z=>h (ja1 _ z),je1]
   split
   ·rename_i hx
    exact absurd (by rw [eq_of_beq hx,hk'];exact ja4) h
   ·rfl
  ·exact zfr r _ _ x λ z=>h (ja1 _ z)
theorem qcx:∀ (names:List (Str×ve1)) (n:Nat) (acc:List (Str×Addr)) (x:Str),(x,NameKind.cell)∈names->∃ c,(vc7 n names acc).lookup x=some c/\n<=c
 | [],n,acc,x,h=>nomatch h
 | (m,k)::r,n,acc,x,h=>by
  by_cases hr:(x,NameKind.cell)∈r
  ·unfold vc7
   split
   ·obtain ⟨c,e,l⟩:=qcx r (n + 1) ((m,n)::acc) x hr
    exact ⟨c,e,jf9 l⟩
   ·exact qcx r n acc x hr
  ·rcases ja6.mp h with e | e
   ·cases e
    unfold vc7
    rw [if_pos (by decide),zfr r _ _ _ hr,je1,beq_self_eq_true]
    exact ⟨n,rfl,jb2 _⟩
   ·exact absurd e hr
theorem qgq:∀ (names:List (Str×ve1)) (n:Nat) (acc:List (Str×Addr)),(∀ x y c,acc.lookup x=some c->acc.lookup y=some c->x=y)->(∀ x c,acc.lookup x=some c->c < n)->∀ x y c,(vc7 n names acc).lookup x=some c->(vc7 n names acc).lookup y=some c->x=y
 | [],n,acc,hi,_,x,y,c,h1,h2=>hi x y c h1 h2
 | (m,k)::r,n,acc,hi,hl,x,y,c,h1,h2=>by
  unfold vc7 at h1 h2
  split at h1
  ·rename_i hk
   rw [if_pos hk] at h2
   refine qgq r (n + 1) ((m,n)::acc) (λ x y c h1 h2=>?_) (λ x c h=>?_) x y c h1 h2
   ·rw [je1] at h1 h2
    split at h1
    ·rename_i e1
     cases h1
     split at h2
     ·rename_i e2
      rw [eq_of_beq e1,eq_of_beq e2]
     ·exact absurd (hl y _ h2) (jf6 _)
    ·split at h2
     ·cases h2
      exact absurd (hl x _ h1) (jf6 _)
     ·exact hi x y c h1 h2
   ·rw [je1] at h
    split at h
    ·cases h;exact jg7 _
    ·exact jg0 (hl x c h)
  ·rename_i hk
   rw [if_neg hk] at h2
   exact qgq r n acc hi hl x y c h1 h2
theorem qav:∀ (names:List (Str×ve1)) (h:Heap) (acc:List (Str×Addr)) (x:Str) (c:Addr),(vc7 h.objs.size names acc).lookup x=some c->acc.lookup x=some c\/(pushCells h names).IsCell c none
 | [],h,acc,x,c,e=>.inl e
 | (m,k)::r,h,acc,x,c,e=>by
  unfold vc7 at e
  unfold pushCells
  split at e
  ·rename_i hk
   rw [if_pos hk]
   have hs:(h.push { cls:=.type "cell",data:=.cell none }).objs.size=h.objs.size + 1:=vd1 ..
   have e':(vc7 (h.push { cls:=.type "cell",data:=.cell none }).objs.size r ((m,h.objs.size)::acc)).lookup x=some c:=by rw [hs];exact e
   rcases qav r _ _ x c e' with z | z
   ·rw [je1] at z
    split at z
    ·cases z
     exact .inr ⟨_,vm3 _ _ _ _ (va6 _ rfl),rfl⟩
    ·exact .inl z
   ·exact .inr z
  ·rename_i hk
   rw [if_neg hk]
   exact qav r h acc x c e
theorem zgr {M:Model}{A:vc0}{E:va2->va3->Prop}{s:va3}{scope:ve5}{globals:Addr}{cl:List (Str×Addr)}{qual:Str}{func:Option Addr}{code:va2}{around:Env}{builtins:Addr}{Q:Env->va3->Prop}
  (hQ:Q (newEnv scope s.heap.objs.size globals (vc7 (s.heap.objs.size + 1) scope.names cl) qual func code (some around) builtins) { s with heap:=pushCells (s.heap.push { cls:=.type "dict",data:=.dict #[] }) scope.names }):
  vb3 M A (vo2 scope globals cl [] qual func code (some around) builtins) Q E s:=by
 simp only [vo2,Option.isSome_some,if_true]
 refine va0 (wpAny_alloc ?_)
 refine va0 (wpAny_layCells _ (λ name kind cells=>by cases hkc:kind == NameKind.cell <;> simp [hkc]) _ _ _ _ ?_)
 rw [show ({ s with heap:=s.heap.push { cls:=.type "dict",data:=.dict #[] } }:va3).heap.objs.size=s.heap.objs.size + 1 from vd1 ..]
 exact va0 (va5 (va5 hQ))
def zhs (X:Cx) (scope:ve5) (C:Addr):List (Str×Addr):=vc7 (C + 1) scope.names (zvu X.env.cells scope.names [])
def zqq (X:Cx) (s2:va3) (H2:Hp) (scope:ve5) (C:Addr) (N':List Str) (fp:List Addr) (pins:List (Addr×Obj)):Cx:=
 { X with N:=N',s₀:=s2,H₀:=H2,env:=compEnvC scope (zhs X scope C) C X.env,outer:=X.stack,stack:=X.stack,ex:=fp,fn:=λ x=>scope.names.contains (x,NameKind.cell),pn:=X.pn++pins,xe:=λ _ _=>False }
structure CompOk (X:Cx) (scope:ve5) (N':List Str) (k:Nat):Prop where
 kind:scope.kind=.function
 dis:∀ x,(x,NameKind.free)∈scope.names->(x,NameKind.cell)∉scope.names
 names:∀ x∈scope.names,x.2=.local->scope.names.lookup x.1=some .local
 len:N'.length=X.N.length + k
 free:∀ x∈scope.names,x.2=.free->X.env.kindOf x.1=some .cell\/X.env.kindOf x.1=some .free
 kinds:∀ x,(vl0 scope X.env).names.lookup x=some .cell\/(vl0 scope X.env).names.lookup x=some .free->(x,NameKind.free)∈scope.names\/(x,NameKind.cell)∈scope.names
 capt:∀ (i:Nat) (x:Str),i < X.N.length->N'[i]?=some x->Vis (vl0 scope X.env) x->X.N[i]?=some x/\Vis X.env.scope x/\(x,NameKind.free)∈scope.names/\(vl0 scope X.env).names.lookup x≠some .local
section
variable {X:Cx}{scope:ve5}{N':List Str}{k:Nat}{pins:List (Addr×Obj)}{σ:St}{H2:Hp}{s2:va3}{fp:List Addr}{C:Addr}
theorem CompOk.cells (c:CompOk X scope N' k) (I:Inv X pins σ H2 s2):∀ x∈scope.names,x.2=.free->∃ a,X.env.cells.lookup x.1=some a:=λ x hx hf=>I.ok.has x.1 (c.free x hx hf)
theorem CompOk.cl (c:CompOk X scope N' k) (I:Inv X pins σ H2 s2) {x:Str}{a:Addr} (h:(zhs X scope C).lookup x=some a):X.env.cells.lookup x=some a\/(C + 1<=a/\(x,NameKind.cell)∈scope.names):=
 (zph _ _ _ x a h).imp (λ z=>zxf _ x a _ [] (c.cells I) (λ z=>nomatch z) z) id
theorem CompOk.old (c:CompOk X scope N' k) (I:Inv X pins σ H2 s2) {x:Str}{a:Addr} (h:X.env.cells.lookup x=some a):a < s2.heap.objs.size:=by
 obtain ⟨v,o,ho,_⟩:=I.cell x a h
 exact va4 ho
theorem CompOk.cap (c:CompOk X scope N' k) {x:Str} (h:(x,NameKind.free)∈scope.names):∃ a,(zhs X scope C).lookup x=some a/\(zvu X.env.cells scope.names []).lookup x=some a:=by
 obtain ⟨a,ha⟩:=zpg X.env.cells x scope.names [] h
 exact ⟨a,(zfr _ _ _ x (c.dis x h)).trans ha,ha⟩
theorem CompOk.ok (c:CompOk X scope N' k) (I:Inv X pins σ H2 s2) (hf:∀ b∈fp,FpOk X pins H2 b) (hC:s2.heap.objs.size<=C) (hfp:∀ b∈fp,b < s2.heap.objs.size):(zqq X s2 H2 scope C N' fp pins).Ok where
 mod:=I.ok.mod
 kind:=c.kind
 glob:=I.ok.glob
 blt:=I.ok.blt
 above:=hC
 inj:=λ x y a h1 h2=>qgq scope.names (C + 1) _ (λ x y a h1 h2=>I.ok.inj x y a (zxf _ x a _ [] (c.cells I) (λ z=>nomatch z) h1) (zxf _ y a _ [] (c.cells I) (λ z=>nomatch z) h2))
  (λ x a h=>jg0 (jb5 (c.old I (zxf _ x a _ [] (c.cells I) (λ z=>nomatch z) h)) hC)) x y a h1 h2
 has:=λ x hx=>(c.kinds x hx).elim (λ z=>let ⟨a,h,_⟩:=c.cap (C:=C) z;⟨a,h⟩) λ z=>let ⟨a,h,_⟩:=qcx scope.names (C + 1) (zvu X.env.cells scope.names []) x z;⟨a,h⟩
 cab:=λ x a h e=>by
  have hx:(x,NameKind.cell)∈scope.names:=by
   have h':scope.names.contains (x,NameKind.cell)=true:=h
   simpa using h'
  obtain ⟨a',e',l⟩:=qcx scope.names (C + 1) (zvu X.env.cells scope.names []) x hx
  have e2:(vc7 (C + 1) scope.names (zvu X.env.cells scope.names [])).lookup x=some a:=e
  rw [e'] at e2
  cases e2
  exact jd5 hC (jf9 l)
 hd:=I.ok.hd
 frames:=I.ok.frames
 stk:=.inl rfl
 exf:=λ b hb=>⟨jc6 (jb5 (hfp b hb) hC),λ x a h=>(c.cl I h).elim (λ z=>(hf b hb).2.2.2.2.1 x a z) λ z=>jg2 (jb5 (hfp b hb) (jd5 hC (jf9 z.1)))⟩
 bs:=I.bs
 bsz:=jd5 I.ok.bsz I.sz
 noex:=λ b o e hb=>by
  rcases (hf b hb).2.2.2.1 with z | z
  ·exact I.ok.noex b o e z
  ·exact absurd (jb5 (va4 e) (jd5 I.ok.bsz z)) (jf6 _)
 exfs:=λ b hb hz=>by
  rcases ja6.mp (I.stkSub b hz) with z | z
  ·exact (hf b hb).2.1 z
  ·exact (hf b hb).2.2.1 z
 funs:=I.stack
 frf:=I.stkFree
theorem CompOk.inv (c:CompOk X scope N' k) (I:Inv X pins σ H2 s2) (hf:∀ b∈fp,FpOk X pins H2 b) (hfp:∀ b∈fp,b < s2.heap.objs.size) {H3:Hp}{h':Heap}{t':Nat}{m:Str->Option va2}{D:Addr} (hCD:D≠C) (hD:s2.heap.objs.size<=D) (hC:s2.heap.objs.size<=C)
  (keep:∀ b o,s2.heap.get? b=some o->h'.get? b=some o) (ns:h'.Ns C m) (hH:∀ b,b≠D->H3 b=H2 b) (hok:HOk X.prog X.w H3 h') (hC3:H3 C=none) (hDC:D < C) (hcN:∀ x a,(zhs X scope C).lookup x=some a->C + 1<=a->h'.IsCell a none):
  Inv (zqq X s2 H2 scope C N' fp pins) [] (σ++jb1 k none) H3 { s2 with heap:=h',toks:=t' } where
 ok:=c.ok I hf hC hfp
 os:=rfl
 bare:=I.bare
 base:=by
  have nD:∀ b o,s2.heap.get? b=some o->b≠D:=λ b o e=>jc6 (jb5 (va4 e) hD)
  refine ⟨λ b o e _ _ _=>keep b o e,λ b o e _ _ _=>⟨o.slots,keep b o e⟩,λ b o e n _=>by rw [hH b (nD b o e)];exact n,λ b o e _=>⟨o,keep b o e⟩,λ b xs e=>?_,λ b o u e=>?_,λ b ps e=>⟨#[],?_⟩⟩
  ·have e:H2 b=some (.tup xs):=e
   rw [hH b (λ z=>by rw [z,I.hok.fresh hD] at e;cases e)];exact e
  ·have e:H2 b=some (.frz o u):=e
   rw [hH b (λ z=>by rw [z,I.hok.fresh hD] at e;cases e)];exact e
  ·have e:H2 b=some (.tbl ps):=e
   rw [hH b (λ z=>by rw [z,I.hok.fresh hD] at e;cases e)];simpa using e
 loc:=by
  refine ⟨m,ns,λ i x v e1 e2 e3=>?_⟩
  have hi:i < σ.length:=by
   by_cases hi:i < σ.length
   ·exact hi
   ·rw [jd4 (by omega),jd9] at e2
    split at e2 <;> cases e2
  rw [jc4 hi] at e2
  obtain ⟨n1,n2,n3,n4⟩:=c.capt i x (by rw [<- I.len];exact hi) e1 e3
  obtain ⟨m0,ns0,hl⟩:=I.loc
  obtain ⟨u,r,lk⟩:=hl i x v n1 e2 n2
  refine ⟨u,r,.inr ⟨?_,?_⟩⟩
  ·rcases e3 with z | z | z
   ·exact absurd z n4
   ·exact .inl z
   ·exact .inr z
  ·obtain ⟨a,ha,hb⟩:=c.cap (C:=C) n3
   have ha':=zxf _ x a _ [] (c.cells I) (λ z=>nomatch z) hb
   refine ⟨a,ha,?_⟩
   rcases lk with ⟨hk,_⟩ | ⟨hk,a2,ha2,hc⟩
   ·rcases c.free _ n3 rfl with z | z <;> rw [hk] at z <;> cases z
   ·rw [ha'] at ha2;cases ha2
    obtain ⟨o,ho,hd⟩:=hc
    exact ⟨o,keep _ _ ho,hd⟩
 cell:=λ x a h=>by
  rcases c.cl I h with z | z
  ·obtain ⟨v,o,ho,hd⟩:=I.cell x a z
   exact ⟨v,o,keep _ _ ho,hd⟩
  ·exact ⟨none,hcN x a h z.1⟩
 free:=hC3
 freeC:=λ x a h=>by
  rcases c.cl I h with ha | z
  ·obtain ⟨v,o,ho,hd⟩:=I.cell x a ha
   rw [hH a (jc6 (jb5 (va4 ho) hD))]
   exact I.freeC x a ha
  ·rw [hH a (jg2 (jb5 hDC (jf9 z.1)))]
   exact I.hok.fresh (jd5 hC (jf9 z.1))
 pin:=λ p hp=>by
  have hp':p∈X.pn++pins:=by simpa [zqq] using hp
  obtain ⟨e,n,ne,nf,d⟩:=I.pin p hp'
  have hlt:=va4 e
  exact ⟨keep _ _ e,by rw [hH p.1 (jc6 (jb5 hlt hD))];exact n,jc6 (jb5 hlt hC),λ z=>(ja6.mp (I.stkSub p.1 z)).elim ne nf,d⟩
 hok:=hok
 len:=by
  show (σ++jb1 k none).length=N'.length
  rw [jb4,je6,c.len,I.len]
def PTs (X:Cx) (ifs:List Expr) (t:TT):Prop:=
 ∀ (pins:List (Addr×Obj)) (s:va3) (σ:St) (H:Hp) (Q:Bool->Hp->Prop),Inv X pins σ H s->t σ H Q ->
  vb3 (vb4 X.prog X.w) X.A (forIn ifs true λ c r=>if r=true then do let ok<-isTrue c X.env (eval c X.env);pure (ForInStep.yield ok) else pure (ForInStep.yield r)) (TP X pins σ Q) X.xe s
theorem qlt {X:Cx}:PTs X [] (λ _ H Q=>Q true H):=λ _ _ _ H _ I h=>va5 ⟨H,I,h⟩
theorem qls {X:Cx}{c:Expr}{t:TT} (hc:PT X c t):PTs X [c] t:=by
 intro pins s σ H Q I h
 rw [jl5]
 refine va0 ?_
 rw [if_pos rfl]
 refine va0 (thn (hc pins s σ H Q I h) λ b s1 q=>va5 ?_)
 exact va5 q
theorem CompOk.again (c:CompOk X scope N' k) (I:Inv X pins σ H2 s2) {σ':St}{H':Hp}{s':va3}{ps:List (Addr×Obj)} (hfp:∀ b∈fp,FpOk X pins H2 b) (J:Inv (zqq X s2 H2 scope C N' fp pins) ps σ' H' s'):Inv (zqq X s2 H2 scope C N' fp pins) ps (σ++jb1 k none) H' s' where
 ok:=J.ok
 os:=J.os
 bare:=J.bare
 base:=J.base
 loc:=by
  obtain ⟨m,ns,_⟩:=J.loc
  refine ⟨m,ns,λ i x v e1 e2 e3=>?_⟩
  have hi:i < σ.length:=by
   by_cases hi:i < σ.length
   ·exact hi
   ·rw [jd4 (by omega),jd9] at e2
    split at e2 <;> cases e2
  rw [jc4 hi] at e2
  obtain ⟨n1,n2,n3,n4⟩:=c.capt i x (by rw [<- I.len];exact hi) e1 e3
  obtain ⟨m0,ns0,hl⟩:=I.loc
  obtain ⟨u,r,lk⟩:=hl i x v n1 e2 n2
  refine ⟨u,r,.inr ⟨?_,?_⟩⟩
  ·rcases e3 with z | z | z
   ·exact absurd z n4
   ·exact .inl z
   ·exact .inr z
  ·obtain ⟨a,ha,hb⟩:=c.cap (C:=C) n3
   have ha':=zxf _ x a _ [] (c.cells I) (λ z=>nomatch z) hb
   refine ⟨a,ha,?_⟩
   rcases lk with ⟨hk,_⟩ | ⟨hk,a2,ha2,hc⟩
   ·rcases c.free _ n3 rfl with z | z <;> rw [hk] at z <;> cases z
   ·rw [ha'] at ha2;cases ha2
    obtain ⟨o,ho,hd⟩:=hc
    obtain ⟨sl,ho'⟩:=J.base.any (b:=a) (ob:=o) ho (I.freeC x a ha') λ z=>(hfp a z).2.2.2.2.1 x a ha' rfl
    exact ⟨_,ho',hd⟩
 cell:=J.cell
 free:=J.free
 freeC:=J.freeC
 pin:=J.pin
 hok:=J.hok
 len:=by
  show (σ++jb1 k none).length=N'.length
  rw [jb4,je6,c.len,I.len]
theorem zyb {prog:vb0}{w:vc1}{A:vc0}{R:Result->va3->Prop}{s:va3}{elt target iter:Expr}{ifs:List Expr}{scope:ve5}{pos:Pos}{it acc:va2}{env:Env} (I:Nat->va3->Prop)
  (turn:∀ n s,I n s->vb3 (vb4 prog w) A (pyNext it) (λ r s₁=>match r with
   | none=>R (.ok .next) s₁
   | some v=>vb3 (vb4 prog w) A (vj0 target it v) (λ _ s₁'=>vb3 (vb4 prog w) A (vn3 target env v) (λ _ s₂=>
     vb3 (vb4 prog w) A (forIn ifs true λ c r=>if r=true then do let ok<-isTrue c env (eval c env);pure (ForInStep.yield ok) else pure (ForInStep.yield r)) (λ ok s₃=>
      if ok=true then vb3 (vb4 prog w) A (eval elt env) (λ x s₄=>
       vb3 (vb4 prog w) A (call (.builtin "list.append") [acc,x]) (λ _ s₅=>∃ m,m < n/\I m s₅) (λ _ _=>False) s₄) (λ _ _=>False) s₃
      else ∃ m,m < n/\I m s₃) (λ _ _=>False) s₂) (λ _ _=>False) s₁') (λ _ _=>False) s₁) (λ _ _=>False) s)
  (n:Nat) (h:I n s):
  vl1 (vb4 prog w) A (.compLoop (.ListComp elt [⟨target,iter,ifs,0⟩] scope pos) 0 it acc env) R s:=by
 refine codeAny_loop rfl I (λ n s hI=>?_) n h
 show vb3 _ A ((compTurn (.ListComp elt [⟨target,iter,ifs,0⟩] scope pos) 0 it acc env).onRaise (λ x=>do noteFrame x env;theTreesLotGoes x)) _ _ s
 refine wpAny_noted ?_
 rw [compTurn_list]
 refine va0 (wpAny_standAt (va0 (ve9 (turn n s hI) (λ r s₁ h₁=>?_) λ _ _ h'=>h'.elim)))
 cases r with
 | none=>exact va5 h₁
 | some v=>
  refine va0 (ve9 h₁ (λ _ s₁' h₁'=>?_) λ _ _ h'=>h'.elim)
  refine va0 (ve9 h₁' (λ _ s₂ h₂=>va0 (ve9 h₂ (λ ok s₃ h₃=>?_) λ _ _ h'=>h'.elim)) λ _ _ h'=>h'.elim)
  cases ok with
  | false=>exact va5 ⟨rfl,h₃⟩
  | true=>
   exact va0 (va0 (ve9 h₃ (λ x s₄ h₄=>va0 (ve9 h₄ (λ _ s₅ h₅=>va5 (va5 ⟨rfl,h₅⟩)) λ _ _ h'=>h'.elim)) λ _ _ h'=>h'.elim))
theorem zmj {elt iter tg:Expr}{ifs:List Expr}{pos:Pos}{J:It}{it:Addr}{tn:Nat->Heap->Prop}{g:TG}{tc:TT}{te:TE}{RR:va2->Addr->Result->va3->Prop}{Q:VK}{E:va2->va3->Prop}
  (c:CompOk X scope N' k) (hcalm:X.calm=true) (I:Inv X pins σ H2 s2) (T:Turn X.prog X.w X.K tg J fp it tn) (st:tn 0 s2.heap) (hf:∀ b∈fp,FpOk X pins H2 b)
  (hg:∀ C fp,PG (zqq X s2 H2 scope C N' fp pins) tg g) (hc:∀ C fp,PTs (zqq X s2 H2 scope C N' fp pins) ifs tc) (he:∀ C fp,PE (zqq X s2 H2 scope C N' fp pins) elt te)
  (h:∀ D,H2 D=none->∃ W:Nat->Nat->List V->Hp->Prop,(∃ m,W 0 m [] (upd H2 D (.lst [])))/\∀ i m ys H,W i m ys H->H D=some (.lst ys) /\
   ((J.stop i H/\Q (.ref D) H)\/(J.go i H/\∀ x H',J.yld i H x H'->g x (σ++jb1 k none) H' λ σ2 H2=>tc σ2 H2 λ b H3=>if b=true then te σ2 H3 λ y H4=>H4 D=some (.lst ys)/\ys.length < va8/\∃ m',m' < m/\W (i + 1) m' (ys++[y]) (upd H4 D (.lst (ys++[y]))) else ∃ m',m' < m/\W (i + 1) m' ys H3)))
  (hRR:∀ D C σ' H' s',s2.heap.objs.size<=C->Inv (zqq X s2 H2 scope C N' fp pins) [] σ' H' s'->Q (.ref D) H'->RR (.ref D) C (.ok .next) s')
  :
  vb3 (vb4 X.prog X.w) X.A (newList []) (λ acc s₃=>vb3 (vb4 X.prog X.w) X.A (vo2 scope X.env.globals (zvu X.env.cells scope.names []) [] X.env.qual none .none (some X.env)) (λ cenv s₄=>
   vl1 (vb4 X.prog X.w) X.A (.compStart (.ListComp elt [⟨tg,iter,ifs,0⟩] scope pos) 0 (.ref it) acc { cenv with scope:=vl0 scope X.env }) (RR acc cenv.locals) s₄) E s₃) E s2:=by
 refine ve2 (zgr ?_)
 dsimp only
 generalize hH2:s2.heap.push { cls:=.type "list",dict:=none,data:=.seq ([]:List va2).toArray }=HP
 obtain ⟨h₁,hh₁⟩:∃ h₁,h₁=pushCells (HP.push { cls:=.type "dict",data:=.dict #[] }) scope.names:=⟨_,rfl⟩
 rw [<- hh₁]
 have kk:∀ b o,HP.get? b=some o->h₁.get? b=some o:=λ b o e=>by rw [hh₁];exact vm3 _ _ b o (va1 _ e)
 have hns₁:h₁.Ns HP.objs.size (λ _=>none):=by rw [hh₁];exact (Heap.Ns.new HP (.type "dict")).keeps (vm3 _ _)
 have hC:HP.objs.size=s2.heap.objs.size + 1:=by rw [<- hH2,vd1]
 have hDC:s2.heap.objs.size≠HP.objs.size:=by rw [hC];exact jc6 (jg7 _)
 have hCle:s2.heap.objs.size<=HP.objs.size:=by rw [hC];exact jk4 _
 have hfp:∀ b∈fp,b < s2.heap.objs.size:=λ b hb=>by
  obtain ⟨o,e,_⟩:=T.obj 0 _ st b hb
  exact va4 e
 have below:∀ b,b < s2.heap.objs.size->b≠HP.objs.size:=λ b hb=>by rw [hC];exact jc6 (jg0 hb)
 have old:∀ b o,s2.heap.get? b=some o->h₁.get? b=some o:=λ b o e=>kk b o (hH2 ▸ va1 _ e)
 have hacc:h₁.get? s2.heap.objs.size=some { cls:=.type "list",dict:=none,data:=.seq ([]:List va2).toArray }:=kk _ _ (hH2 ▸ va6 _ rfl)
 have fD:H2 s2.heap.objs.size=none:=I.hok.fresh (jb2 _)
 obtain ⟨W,⟨m0,w0⟩,hW⟩:=h _ fD
 have hok3:HOk X.prog X.w (upd H2 s2.heap.objs.size (.lst [])) h₁:=I.hok.laid old (jb2 _) ⟨ji5 _,[],0,.nil,hacc⟩
 have st1:tn 0 h₁:=T.keep _ _ _ st λ b hb o e=>old b o e
 have I3:Inv (zqq X s2 H2 scope HP.objs.size N' fp pins) [] (σ++jb1 k none) (upd H2 s2.heap.objs.size (.lst [])) { s2 with heap:=h₁ }:=
  c.inv I hf hfp (t':=s2.toks) hDC (jb2 _) hCle old hns₁ (λ b hb=>zqk hb) hok3 (by rw [zqk (vd0 hDC)];exact I.hok.fresh hCle) (by rw [hC];exact jg7 _) (λ x a h l=>by
   have hs:(HP.push { cls:=.type "dict",data:=.dict #[] }).objs.size=HP.objs.size + 1:=vd1 ..
   have h':(vc7 (HP.push { cls:=.type "dict",data:=.dict #[] }).objs.size scope.names (zvu X.env.cells scope.names [])).lookup x=some a:=by rw [hs];exact h
   rcases qav scope.names _ _ x a h' with z | z
   ·exact absurd (jb5 (c.old I (zxf _ x a _ [] (c.cells I) (λ z=>nomatch z) z)) (jd5 hCle (jf9 l))) (jf6 _)
   ·rw [hh₁];exact z)
 have fx:∀ {H':Hp},(∀ b∈fp,H' b=none)->∀ b∈fp,FpOk (zqq X s2 H2 scope HP.objs.size N' fp pins) [] H' b:=λ hn b hb=>by
  obtain ⟨f0,f1,f2,f3,f4,f5⟩:=hf b hb
  refine ⟨hn b hb,jc6 (jb5 (hfp b hb) hCle),λ hz=>?_,.inl hb,λ x a h=>(c.cl I h).elim (λ z=>f4 x a z) λ z=>jg2 (jb5 (hfp b hb) (jd5 hCle (jf9 z.1))),λ p hp=>f5 p (by simpa [zqq] using hp)⟩
  rcases ja6.mp (I.stkSub b hz) with z | z
  ·exact f1 z
  ·exact f2 z
 have f0:∀ b∈fp,(upd H2 s2.heap.objs.size (.lst [])) b=none:=λ b hb=>by rw [zqk (jc6 (hfp b hb))];exact (hf b hb).1
 have loop:∀ s₃:va3,s₃={ s2 with heap:=h₁ } ->
   vl1 (vb4 X.prog X.w) X.A (.compLoop (.ListComp elt [⟨tg,iter,ifs,0⟩] scope pos) 0 (.ref it) (.ref s2.heap.objs.size) (compEnvC scope (zhs X scope HP.objs.size) HP.objs.size X.env))
    (RR (.ref s2.heap.objs.size) HP.objs.size) s₃:=by
  rintro s₃ rfl
  refine zyb (λ n s'=>∃ i H' ys,Inv (zqq X s2 H2 scope HP.objs.size N' fp pins) [] (σ++jb1 k none) H' s'/\tn i s'.heap/\(∀ b∈fp,H' b=none)/\W i n ys H') ?_ m0 ⟨0,_,[],I3,st1,f0,w0⟩
  rintro n s4 ⟨i,H4,ys,I4,st4,fr4,w4⟩
  obtain ⟨hD4,hcase⟩:=hW i n ys H4 w4
  rcases hcase with ⟨stop,qn⟩ | ⟨go,step⟩
  ·refine thn (T.done (zqq X s2 H2 scope HP.objs.size N' fp pins) rfl rfl rfl hcalm i [] s4 _ H4 (λ _ _=>False) I4 (fx fr4) st4 stop) λ r s5 ⟨hr,I5⟩=>?_
   subst hr
   exact hRR _ _ _ _ _ hCle I5 qn
  ·refine thn (T.item (zqq X s2 H2 scope HP.objs.size N' fp pins) rfl rfl rfl hcalm i [] s4 _ H4 (λ _ _=>False) I4 (fx fr4) st4 go) λ r s5 ⟨u,hr,h5⟩=>?_
   subst hr
   refine thn h5 λ _ s6 ⟨x,H6,I6,r6,y6,st6,fr6⟩=>?_
   have I6':=I6.pinned (fx fr6) (T.obj _ _ st6)
   have stays:∀ {σ':St}{H':Hp}{s':va3},Inv (zqq X s2 H2 scope HP.objs.size N' fp pins) ([]++zgm fp s6.heap) σ' H' s'->Inv (zqq X s2 H2 scope HP.objs.size N' fp pins) [] (σ++jb1 k none) H' s'/\tn (i + 1) s'.heap/\∀ b∈fp,H' b=none:=λ {σ' H' s'} J=>by
    refine ⟨c.again I hf J.unpinned,T.keep _ _ _ st6 λ b hb o e=>(J.pin (b,o) (ja7 _ (ja7 _ (zko hb e)))).1,λ b hb=>?_⟩
    obtain ⟨o,e,d⟩:=T.obj _ _ st6 b hb
    exact (J.pin (b,o) (ja7 _ (ja7 _ (zko hb e)))).2.1
   refine thn (hg _ _ _ s6 _ H6 x u _ I6' r6 (step x H6 y6)) λ _ s7 ⟨σ7,H7,I7,q7⟩=>?_
   refine thn (hc _ _ _ s7 σ7 H7 _ I7 q7) λ b s8 ⟨H8,I8,q8⟩=>?_
   cases b with
   | false=>
    rw [if_neg jb6] at q8 ⊢
    obtain ⟨m',hm,w'⟩:=q8
    obtain ⟨j1,j2,j3⟩:=stays I8
    exact ⟨m',hm,i + 1,H8,ys,j1,j2,j3,w'⟩
   | true=>
    rw [if_pos rfl] at q8 ⊢
    refine thn (he _ _ _ s8 σ7 H8 _ I8 q8) λ y s9 ⟨z,H9,I9,r9,hD9,hz9,m',hm,w'⟩=>?_
    refine thn (zgt (X:=zqq X s2 H2 scope HP.objs.size N' fp pins) _ s9 σ7 H9 (.ref s2.heap.objs.size) [z] (.ref s2.heap.objs.size) [y] (λ _ H'=>H'=upd H9 s2.heap.objs.size (.lst (ys++[z]))) I9 rfl (.cons r9 .nil) ⟨_,ys,z,rfl,rfl,hD9,hz9,rfl⟩) λ _ s10 ⟨_,H10,I10,_,e10⟩=>?_
    subst e10
    obtain ⟨j1,j2,j3⟩:=stays I10
    exact ⟨m',hm,i + 1,_,_,j1,j2,j3,w'⟩
 exact codeAny_compStart_list (loop _ rfl) (T.self _ 0 _ _ _ st1 (loop _ rfl))
theorem CompOk.out (I:Inv X pins σ H2 s2) (hf:∀ b∈fp,FpOk X pins H2 b) {σ':St}{H':Hp}{s':va3} (J:Inv (zqq X s2 H2 scope C N' fp pins) [] σ' H' s'):Inv X pins σ H' s':=
 I.call' (ch:=fp) J.os J.base J.hok J.bare λ b hb=>⟨(hf b hb).2.2.2.1,(hf b hb).2.1,(hf b hb).2.2.2.2.1,(hf b hb).2.2.2.2.2⟩
theorem CompOk.away (I:Inv X pins σ H2 s2) (hC:s2.heap.objs.size<=C) {σ':St}{H':Hp}{s':va3} (J:Inv X pins σ' H' s') (hC':H' C=none) {h':Heap} (sb:vl7 C s'.heap h'):Inv X pins σ' H' { s' with heap:=h' }:=by
 have lt:∀ b o,s2.heap.get? b=some o->b≠C:=λ b o e=>jc6 (jb5 (va4 e) hC)
 refine J.turned (t':=s'.toks) (it:=C) (λ b o hb e=>(sb.2 b hb).trans e) hC' (jg2 (jb5 I.lt hC)) (.inr (jd5 I.sz hC)) (λ x c h=>?_) λ p hp=>?_
 ·obtain ⟨v,o,ho,_⟩:=I.cell x c h
  exact lt c o ho
 ·exact lt p.1 p.2 (I.pin p hp).1
variable {elt iter tg:Expr}{ifs:List Expr}{pos:Pos}{wi:TI}{g:TG}{tc:TT}{te:TE}
theorem qe1 (c:CompOk X scope N' k) (hcalm:X.calm=true) (hi:PI X tg iter wi) (hg:∀ s2 H2 C fp pins,PG (zqq X s2 H2 scope C N' fp pins) tg g) (hc:∀ s2 H2 C fp pins,PTs (zqq X s2 H2 scope C N' fp pins) ifs tc)
  (he:∀ s2 H2 C fp pins,PE (zqq X s2 H2 scope C N' fp pins) elt te) (hs:∀ x,vi0 iter X.env x=pure x):PE X (.ListComp elt [⟨tg,iter,ifs,0⟩] scope pos) (qai k wi g tc te):=by
 intro pins s σ H Q I h
 rw [eval_ListComp]
 refine wpAny_comprehension_free (use:=none) rfl hs (zyl (c.cells I)) c.kind c.names ?_
 refine thn (hi pins s σ H _ I h) λ v s1 h1=>thn h1 λ itv s2 h2=>?_
 obtain ⟨it,fp,tn,J,H',e,I2,T,st2,f2,W⟩:=h2
 subst e
 refine zmj (RR:=λ acc C=>compPost (vb4 X.prog X.w) X.A X.xe none (EP X pins σ Q) acc C) c hcalm I2 T st2 f2 (λ C fp=>hg s2 H' C fp pins) (λ C fp=>hc s2 H' C fp pins) (λ C fp=>he s2 H' C fp pins) W λ D C σ' H3 s' hC J3 q=>?_
 obtain ⟨m,ns,_⟩:=J3.loc
 exact ⟨m,ns,λ h' sb=>⟨.ref D,H3,CompOk.away I2 hC (CompOk.out I2 f2 J3) J3.free sb,rfl,q⟩⟩
theorem qdd {i:Nat}{x:Str}{pos' spos:Pos} (hN:X.N.Nodup) (hi':X.N[i]?=some x) (hx:Loc X.env.scope x) (hfn:X.fn x=true\/X.env.scope.names.lookup x=some .local) (c:CompOk X scope N' k) (hcalm:X.calm=true) (hi:PI X tg iter wi) (hg:∀ s2 H2 C fp pins,PG (zqq X s2 H2 scope C N' fp pins) tg g) (hc:∀ s2 H2 C fp pins,PTs (zqq X s2 H2 scope C N' fp pins) ifs tc)
  (he:∀ s2 H2 C fp pins,PE (zqq X s2 H2 scope C N' fp pins) elt te) (hs:∀ x,vi0 iter X.env x=pure x):PS X (.Assign [.Name x pos'] (.ListComp elt [⟨tg,iter,ifs,0⟩] scope pos) spos) (tAsg (qai k wi g tc te) (zpn i)):=by
 have hsw:∃ b,swapsWith (.ListComp elt [⟨tg,iter,ifs,0⟩] scope pos) (some (.Name x pos')) spos.line X.env=pure b:=⟨_,rfl⟩
 obtain ⟨b,hsw⟩:=hsw
 cases b with
 | false=>exact qjr hN hi' hx (qe1 c hcalm hi hg hc he hs) hsw hfn
 | true=>
  intro pins s σ H D I h
  rw [exec_Assign_Name_used _ _ _ _ hsw]
  refine va0 (wpAny_standAt (va0 ?_))
  show vb3 _ X.A (do let _<-comprehension (.ListComp elt [⟨tg,iter,ifs,0⟩] scope pos) scope X.env _ (newList []) false (eval iter X.env) (some (vn3 (.Name x pos') X.env))) _ _ s
  refine va0 (ve9 (wpAny_comprehension_free (use:=some (vn3 (.Name x pos') X.env)) (Q:=λ _ s'=>SP X pins D .next s') rfl hs (zyl (c.cells I)) c.kind c.names ?_) (λ _ s' hq=>va5 (va5 hq)) λ _ _ e=>e)
  refine thn (hi pins s σ H _ I h) λ v s1 h1=>thn h1 λ itv s2 h2=>?_
  obtain ⟨it,fp,tn,J,H',e,I2,T,st2,f2,W⟩:=h2
  subst e
  refine zmj (Q:=λ x H1=>zpn i x σ H1 D.nx) (RR:=λ acc C=>compPost (vb4 X.prog X.w) X.A X.xe (some (vn3 (.Name x pos') X.env)) (λ _ s'=>SP X pins D .next s') acc C) c hcalm I2 T st2 f2 (λ C fp=>hg s2 H' C fp pins) (λ C fp=>hc s2 H' C fp pins) (λ C fp=>he s2 H' C fp pins) W λ E C σ' H3 s' hC J3 q=>?_
  obtain ⟨m,ns,_⟩:=J3.loc
  have I3:=CompOk.out I2 f2 J3
  show vb3 _ X.A (vn3 (.Name x pos') X.env (.ref E)) _ _ _
  refine wpAny_assign_Name (zgd I3 hN hi' hx (v:=.ref E) rfl (λ s'' I4 hsb=>?_) hfn)
  obtain ⟨a,sb,ha⟩:=hsb
  have hCa:C≠a:=by
   rcases ha with z | z
   ·rw [z];exact jg2 (jb5 I2.lt hC)
   ·obtain ⟨v,o,ho,_⟩:=I2.cell x a z
    exact jg2 (jb5 (va4 ho) hC)
  exact ⟨m,ns.sameBut sb hCa,λ h' sb'=>⟨_,H3,CompOk.away I2 hC I4 J3.free sb',q⟩⟩
theorem qhb {P:vb0}{w:vc1}{K:Frag}{tg:Expr} (z:Str) (tk:Tok) (it:Addr):Turn P w K tg (ItS z) [it] it (λ i h=>h.IsStrIter it "str_ascii_iterator" z tk i) where
 mem:=by simp
 obj:=λ i h st b hb=>by
  have e:b=it:=by simpa using hb
  subst e
  obtain ⟨o,e,c,d⟩:=st
  exact ⟨o,e,λ v z=>by rw [d] at z;cases z⟩
 keep:=λ i h h' st k=>by
  obtain ⟨o,e,r⟩:=st
  exact ⟨o,k it (by simp) o e,r⟩
 item:=by
  intro X hP hw hK hc i pins s σ H E I hf st hg
  subst hP hw hK
  have hi:i < z.cps.size:=hg
  obtain ⟨f0,f1,f2,f3,f4,f5⟩:=hf it (by simp)
  refine wpAny_pyNext_ascii_item st (c:=z.cps[i]) (by simp [hi]) λ h' st' sb=>?_
  have I1:Inv X pins σ H { s with heap:=h',toks:=s.toks + 1 }:=I.turned (t':=s.toks + 1) (λ b o hb e=>(sb.2 b hb).trans e) f0 f1 f3 f4 f5
  obtain ⟨o,e,c,d⟩:=id st'
  exact ⟨_,rfl,qf9 (s:={ s with heap:=h',toks:=s.toks + 1 }) e c d (by decide) ⟨.str ⟨#[z.cps[i]]⟩,H,I1,⟨_,rfl⟩,⟨rfl,z.cps[i],by simp [hi],rfl⟩,st',λ b hb=>(hf b hb).1⟩⟩
 done:=by
  intro X hP hw hK hc i pins s σ H E I hf st hg
  subst hP hw hK
  have hi:z.cps.size<=i:=hg
  obtain ⟨f0,f1,f2,f3,f4,f5⟩:=hf it (by simp)
  exact wpAny_pyNext_ascii_end (I.ok.hd hc) st (by simp;omega) λ h' eb=>⟨rfl,I.turned (t':=s.toks) (λ b o hb e=>eb b o hb e) f0 f1 f3 f4 f5⟩
 self:=λ _ _ _ _ _ st h=>wpAny_pyIter_striter_ascii st h
theorem qol {l:Expr}{tl:TE} (hl:PE X l tl):PI X tg l (iSeq X.K tl):=by
 intro pins s σ H R I h
 refine thn (hl pins s σ H _ I h) λ v s1 ⟨x,H1,I1,r1,q1⟩=>?_
 obtain ⟨a,e,⟨⟨xs,hq⟩,q⟩ | ⟨⟨xs,hq⟩,q⟩⟩ | ⟨z,e,ha,q⟩:=q1
 ·subst e
  cases r1
  obtain ⟨its,rv,p,hz⟩:=I1.list hq
  refine wpAny_pyIter_list p.isList ?_
  refine ⟨s1.heap.objs.size,[s1.heap.objs.size],_,_,H1,rfl,I1.kept (t':=s1.toks) λ b o e=>va1 _ e,qdz a _,⟨_,va6 _ rfl,rfl,rfl⟩,λ b hb=>?_,q⟩
  have e:b=s1.heap.objs.size:=by simpa using hb
  subst e
  exact I1.fpOk (jb2 _) (I1.hok.fresh (jb2 _))
 ·subst e
  cases r1
  obtain ⟨its,rv,p,hz⟩:=I1.tuple hq
  refine vh5 (show s1.heap.IsTuple a its.toArray from p) ?_
  refine ⟨s1.heap.objs.size,[s1.heap.objs.size],_,_,H1,rfl,I1.kept (t':=s1.toks) λ b o e=>va1 _ e,qc4 a _,⟨_,va6 _ rfl,rfl,rfl⟩,λ b hb=>?_,q⟩
  have e:b=s1.heap.objs.size:=by simpa using hb
  subst e
  exact I1.fpOk (jb2 _) (I1.hok.fresh (jb2 _))
 ·subst e
  obtain ⟨tk,rfl⟩:=r1
  refine wpAny_pyIter_ascii ha ?_
  refine ⟨s1.heap.objs.size,[s1.heap.objs.size],_,_,H1,rfl,I1.kept (t':=s1.toks) λ b o e=>va1 _ e,qhb z tk _,⟨_,va6 _ rfl,rfl,rfl⟩,λ b hb=>?_,q⟩
  have e:b=s1.heap.objs.size:=by simpa using hb
  subst e
  exact I1.fpOk (jb2 _) (I1.hok.fresh (jb2 _))
end
section
variable {M:Fm}{vs:List Nat}{H:Hp}{fps:Fps}{F:List Addr}{Q:VK}
theorem zxh {k:Int}{d:Nat} (h:Leaf M H fps vs F (.int k) d Q):Q (.int k) H:=h (.int k) H [] (λ _ _ h=>h) (by rw [Own];exact ⟨rfl,rfl⟩) (λ _ z=>nomatch z)
theorem zws {k:Bool}{d:Nat} (h:Leaf M H fps vs F (.bl k) d Q):Q (.bl k) H:=h (.bl k) H [] (λ _ _ h=>h) (by rw [Own];exact ⟨rfl,rfl⟩) (λ _ z=>nomatch z)
theorem qb6 {k:Str}{d:Nat} (h:Leaf M H fps vs F (.str k) d Q):Q (.str k) H:=h (.str k) H [] (λ _ _ h=>h) (by rw [Own];exact ⟨rfl,rfl⟩) (λ _ z=>nomatch z)
theorem zkh {x:PV}{v:V} (h:Leaf M H fps vs F x (dv x) Q) (o:Own M.K H (Zv M vs fps) x 0 v []):Q v H:=h v H [] (λ _ _ h=>h) (o.dv.weak λ a z=>z.elim id λ z=>nomatch z) (λ _ z=>nomatch z)
theorem zxy {p:Addr}{o:HO} (hp:H p=none):∀ a u,H a=some u->upd H p o a=some u:=λ a u h=>by rw [zqk (λ e=>by rw [e,hp] at h;cases h)];exact h
theorem zbw {xs:List PV}{ws:List V} (h:Leaf M H fps vs F (.lst xs) 1 Q) (o:OwnL M.K H (Zv M vs fps) xs 0 ws []) {p:Addr} (hp:H p=none):Q (.ref p) (upd H p (.lst ws)):=by
 refine h (.ref p) _ [p] (zxy hp) ?_ λ a ha=>.inr (by rw [jc3.mp ha];exact hp)
 rw [Own]
 refine ⟨p,ws,rfl,.inr ⟨(by decide),[],zqm,rfl,(λ z=>nomatch z),?_⟩⟩
 rw [qbu]
 exact OwnL.move (S:=λ _=>False) (λ a u ha _=>zxy hp a u ha) (λ _ z=>z.elim) (λ a hd nz z=>z.elim nz λ z=>hd (by rw [jc3.mp z];exact hp)) xs 0 ws [] (λ _ z=>nomatch z) o
def atoms:List PV->Bool
 | []=>true
 | x::xs=>qab x && atoms xs
def qa1:PV->Bool
 | .tup xs=>atoms xs
 | x=>qab x
def zft:List PV->Bool
 | []=>true
 | x::xs=>qa1 x && zft xs
def d1 (xs:List PV):Nat:=if zft xs=true then om else 1
theorem OwnL.ats {K:Frag}{H:Hp}{Z Z':Addr->Prop}:∀ {xs:List PV}{ws:List V}{d d':Nat},QQ.atoms xs=true->OwnL K H Z xs d' ws []->OwnL K H Z' xs d ws []
 | [],ws,d,_,_,h=>by rw [OwnL] at h ⊢;exact h
 | x::xs,ws,d,_,ha,h=>by
  unfold QQ.atoms at ha
  rw [ja5] at ha
  rw [OwnL] at h ⊢
  obtain ⟨v,s,f1,f2,rfl,ef,dj,h1,h2⟩:=h
  obtain ⟨rfl,rfl⟩:f1=[]/\f2=[]:=by simpa using ef.symm
  exact ⟨v,s,[],[],rfl,rfl,dj,(Own.atom ha.1 h1).2,h2.ats ha.2⟩
theorem Own.flat {K:Frag}{H:Hp}{Z Z':Addr->Prop}{x:PV}{v:V}{d d':Nat} (hx:qa1 x=true) (h:Own K H Z x d' v []):Own K H Z' x d v []:=by
 cases x with
 | tup xs=>
  rw [Own] at h ⊢
  obtain ⟨a,vs,e,ha,hl⟩:=h
  exact ⟨a,vs,e,ha,hl.ats hx⟩
 | lst _=>cases hx
 | dct _=>cases hx
 | exn _=>exact (Own.atom rfl h).2
 | emp=>exact (Own.atom rfl h).2
 | dko=>exact (Own.atom rfl h).2
 | scr _=>exact (Own.atom rfl h).2
 | non=>exact (Own.atom rfl h).2
 | bl _=>exact (Own.atom rfl h).2
 | int _=>exact (Own.atom rfl h).2
 | str _=>exact (Own.atom rfl h).2
theorem OwnL.ats0 {K:Frag}{H:Hp}{Z:Addr->Prop}:∀ {xs:List PV}{ws:List V}{d:Nat}{f:List Addr},QQ.atoms xs=true->OwnL K H Z xs d ws f->f=[]
 | [],ws,d,f,_,h=>by rw [OwnL] at h;exact h.2
 | x::xs,ws,d,f,ha,h=>by
  unfold QQ.atoms at ha
  rw [ja5] at ha
  rw [OwnL] at h
  obtain ⟨v,s,f1,f2,rfl,rfl,dj,h1,h2⟩:=h
  rw [(Own.atom (Z':=Z) (d':=d) ha.1 h1).1,h2.ats0 ha.2]
  rfl
theorem Own.flatA {K:Frag}{H:Hp}{Z Z':Addr->Prop}{x:PV}{v:V}{d d':Nat}{f:List Addr} (hx:qa1 x=true) (h:Own K H Z x d v f):f=[]/\Own K H Z' x d' v []:=by
 have e:f=[]:=by
  cases x with
  | tup xs=>
   rw [Own] at h
   obtain ⟨a,vs,e,ha,hl⟩:=h
   exact hl.ats0 hx
  | lst _=>cases hx
  | dct _=>cases hx
  | exn _=>exact (Own.atom (Z':=Z) (d':=d) rfl h).1
  | emp=>exact (Own.atom (Z':=Z) (d':=d) rfl h).1
  | dko=>exact (Own.atom (Z':=Z) (d':=d) rfl h).1
  | scr _=>exact (Own.atom (Z':=Z) (d':=d) rfl h).1
  | non=>exact (Own.atom (Z':=Z) (d':=d) rfl h).1
  | bl _=>exact (Own.atom (Z':=Z) (d':=d) rfl h).1
  | int _=>exact (Own.atom (Z':=Z) (d':=d) rfl h).1
  | str _=>exact (Own.atom (Z':=Z) (d':=d) rfl h).1
 subst e
 exact ⟨rfl,h.flat hx⟩
theorem OwnL.atoms {K:Frag}{H:Hp}{Z Z':Addr->Prop}:∀ {xs:List PV}{ws:List V}{d:Nat},zft xs=true->OwnL K H Z xs 0 ws []->OwnL K H Z' xs d ws []
 | [],ws,d,_,h=>by rw [OwnL] at h ⊢;exact h
 | x::xs,ws,d,ha,h=>by
  unfold zft at ha
  rw [ja5] at ha
  rw [OwnL] at h ⊢
  obtain ⟨v,s,f1,f2,rfl,ef,dj,h1,h2⟩:=h
  obtain ⟨rfl,rfl⟩:f1=[]/\f2=[]:=by simpa using ef.symm
  exact ⟨v,s,[],[],rfl,rfl,dj,h1.flat ha.1,h2.atoms ha.2⟩
theorem zwe {xs:List PV}{ws:List V} (h:Leaf M H fps vs F (.lst xs) (d1 xs) Q) (o:OwnL M.K H (Zv M vs fps) xs 0 ws []) {p:Addr} (hp:H p=none):Q (.ref p) (upd H p (.lst ws)):=by
 unfold d1 at h
 split at h
 ·rename_i ha
  refine h (.ref p) _ [p] (zxy hp) ?_ λ a ha=>.inr (by rw [jc3.mp ha];exact hp)
  rw [Own]
  refine ⟨p,ws,rfl,.inr ⟨(by decide),[],zqm,rfl,(λ z=>nomatch z),?_⟩⟩
  have o':OwnL M.K (upd H p (.lst ws)) (Zv M vs fps) xs 0 ws []:=OwnL.move (S:=λ _=>False) (λ a u ha _=>zxy hp a u ha) (λ _ z=>z.elim) (λ _ _ n=>n) xs 0 ws [] (λ _ z=>nomatch z) o
  exact o'.atoms ha
 ·exact zbw h o hp
theorem zjw {xs:List PV}{ws:List V} (h:Leaf M H fps vs F (.tup xs) 0 Q) (o:OwnL M.K H (Zv M vs fps) xs 0 ws []) {p:Addr} (hp:H p=none):Q (.ref p) (upd H p (.tup ws)):=by
 refine h (.ref p) _ [] (zxy hp) ?_ λ a ha=>nomatch ha
 rw [Own]
 refine ⟨p,ws,rfl,zqm,?_⟩
 rw [qau]
 exact OwnL.move (S:=λ _=>False) (λ a u ha _=>zxy hp a u ha) (λ _ z=>z.elim) (λ a hd nz z=>z.elim nz λ z=>nomatch z) xs 0 ws [] (λ _ z=>nomatch z) o
theorem zma {xs:List PV}{ws:List V} (h:Leaf M H fps vs F (.lst xs) om Q) {Z:Addr->Prop} (o:OwnL M.K H Z xs om ws F) {p:Addr} (hp:H p=none):Q (.ref p) (upd H p (.lst ws)):=by
 refine h (.ref p) _ (p::F) (zxy hp) ?_ λ a ha=>(ja6.mp ha).elim (λ e=>.inr (by rw [e];exact hp)) .inl
 rw [Own]
 refine ⟨p,ws,rfl,.inr ⟨(by decide),F,zqm,rfl,λ z=>?_,?_⟩⟩
 ·obtain ⟨ys,e⟩:=OwnL.lsts xs om ws F o p z
  rw [hp] at e;cases e
 ·exact OwnL.full xs ws F (OwnL.move (S:=λ _=>False) (Z':=Z) (λ a u ha _=>zxy hp a u ha) (λ _ z=>z.elim) (λ _ _ n=>n) xs om ws F (λ _ _ z=>z) o)
theorem qfp {xs:List PV}{ws:List V} (h:Leaf M H fps vs F (.tup xs) om Q) {Z:Addr->Prop} (o:OwnL M.K H Z xs om ws F) {p:Addr} (hp:H p=none):Q (.ref p) (upd H p (.tup ws)):=by
 refine h (.ref p) _ F (zxy hp) ?_ λ a ha=>.inl ha
 rw [Own]
 exact ⟨p,ws,rfl,zqm,OwnL.full xs ws F (OwnL.move (S:=λ _=>False) (Z':=Z) (λ a u ha _=>zxy hp a u ha) (λ _ z=>z.elim) (λ _ _ n=>n) xs om ws F (λ _ _ z=>z) o)⟩
end
theorem Own.seqL {K:Frag}{H:Hp}{Z:Addr->Prop}{xs:List PV}{d:Nat}{v:V}{fp:List Addr} (h:Own K H Z (.lst xs) d v fp):∃ a ws,v=.ref a/\SqL K H a ws/\ws.length=xs.length:=by
 rw [Own] at h
 obtain ⟨a,ws,e,⟨_,hr,_,ol⟩ | ⟨_,f,ha,_,_,ol⟩⟩:=h
 ·exact ⟨a,ws,e,.inl (.inl hr.1),ol.length⟩
 ·exact ⟨a,ws,e,.inl (.inl ha),ol.length⟩
theorem Own.seqT {K:Frag}{H:Hp}{Z:Addr->Prop}{xs:List PV}{d:Nat}{v:V}{fp:List Addr} (h:Own K H Z (.tup xs) d v fp):∃ a ws,v=.ref a/\SqT K H a ws/\ws.length=xs.length:=by
 rw [Own] at h
 obtain ⟨a,ws,e,hr,ol⟩:=h
 exact ⟨a,ws,e,.inl (.inl hr),ol.length⟩
theorem Own.coldL {K:Frag}{H:Hp}{Z:Addr->Prop}{xs:List PV}{v:V} (h:Own K H Z (.lst xs) 0 v []):∃ a ws,v=.ref a/\H a=some (.lst ws)/\OwnL K H Z xs 0 ws []:=by
 rw [Own] at h
 obtain ⟨a,ws,e,⟨_,hr,_,ol⟩ | ⟨h,_⟩⟩:=h
 ·exact ⟨a,ws,e,hr.1,ol⟩
 ·exact absurd rfl h
theorem Own.coldT {K:Frag}{H:Hp}{Z:Addr->Prop}{xs:List PV}{v:V} (h:Own K H Z (.tup xs) 0 v []):∃ a ws,v=.ref a/\H a=some (.tup ws)/\OwnL K H Z xs 0 ws []:=by
 rw [Own] at h
 exact h
theorem OwnL.app {K:Frag}{H:Hp}{Z:Addr->Prop}:∀ {xs ys:List PV}{ws us:List V},OwnL K H Z xs 0 ws []->OwnL K H Z ys 0 us []->OwnL K H Z (xs++ys) 0 (ws++us) []
 | [],ys,ws,us,h,h'=>by rw [OwnL] at h;obtain ⟨rfl,_⟩:=h;exact h'
 | x::xs,ys,ws,us,h,h'=>by
  rw [OwnL] at h
  obtain ⟨v,s,f1,f2,rfl,ef,dj,h1,h2⟩:=h
  obtain ⟨rfl,rfl⟩:f1=[]/\f2=[]:=by simpa using ef.symm
  show OwnL K H Z (x::(xs++ys)) 0 (v::(s++us)) []
  rw [OwnL]
  exact ⟨v,s++us,[],[],rfl,rfl,λ _ z=>(nomatch z),h1,h2.app h'⟩
theorem OwnL.drop {K:Frag}{H:Hp}{Z:Addr->Prop}:∀ {xs:List PV}{ws:List V} (n:Nat),OwnL K H Z xs 0 ws []->OwnL K H Z (xs.drop n) 0 (ws.drop n) []
 | xs,ws,0,h=>h
 | [],ws,n + 1,h=>by rw [OwnL] at h;obtain ⟨rfl,_⟩:=h;rw [jt2,jt2,OwnL];exact ⟨rfl,rfl⟩
 | x::xs,ws,n + 1,h=>by
  rw [OwnL] at h
  obtain ⟨v,s,f1,f2,rfl,ef,dj,h1,h2⟩:=h
  obtain ⟨rfl,rfl⟩:f1=[]/\f2=[]:=by simpa using ef.symm
  exact h2.drop n
theorem OwnL.take {K:Frag}{H:Hp}{Z:Addr->Prop}:∀ {xs:List PV}{ws:List V} (n:Nat),OwnL K H Z xs 0 ws []->OwnL K H Z (xs.take n) 0 (ws.take n) []
 | xs,ws,0,h=>by rw [jk6,jk6,OwnL];exact ⟨rfl,rfl⟩
 | [],ws,n + 1,h=>by rw [OwnL] at h;obtain ⟨rfl,_⟩:=h;rw [jp2,jp2,OwnL];exact ⟨rfl,rfl⟩
 | x::xs,ws,n + 1,h=>by
  rw [OwnL] at h
  obtain ⟨v,s,f1,f2,rfl,ef,dj,h1,h2⟩:=h
  obtain ⟨rfl,rfl⟩:f1=[]/\f2=[]:=by simpa using ef.symm
  rw [jl6,jl6,OwnL]
  exact ⟨v,s.take n,[],[],rfl,rfl,λ _ z=>(nomatch z),h1,h2.take n⟩
theorem OwnL.nth {K:Frag}{H:Hp}{Z:Addr->Prop}{xs:List PV}{ws:List V}{j:Nat}{x:PV} (h:OwnL K H Z xs 0 ws []) (e:xs[j]?=some x):∃ w,ws[j]?=some w/\Own K H Z x 0 w []:=by
 have hj:j < ws.length:=by rw [h.length];exact (jb3.mp e).1
 obtain ⟨y,e1,e2⟩:=h.get (i:=j) (w:=ws[j]) (by simp [hj])
 rw [e] at e1;cases e1
 exact ⟨_,by simp [hj],e2⟩
theorem cold {M:Fm}{vs:List Nat}{H:Hp}{fps:Fps}{x:PV}{d:Nat}{v:V}{fp:List Addr} (o:Own M.K H (Zt M vs fps fp) x d v fp) (hf:∀ a∈fp,¬ Zf M fps a):Own M.K H (Zv M vs fps) x 0 v []:=
 Own.freeze (λ _ z=>.inl z) x d v fp (λ a ha z=>hf a ha z.zf) o
def zqw:PV->Nat->PV->Nat->Option (PV×Nat)
 | .int i,_,.int j,_=>some (.int (i + j),om)
 | .lst xs,_,.lst ys,_=>if xs.length + ys.length<=va8 then some (.lst (xs++ys),d1 (xs++ys)) else none
 | .tup xs,_,.tup ys,_=>if xs.length + ys.length<=va8 then some (.tup (xs++ys),0) else none
 | _,_,_,_=>none
def qdg (p:Int->Int->Bool) (g:Int->Int->Int):PV->Nat->PV->Nat->Option (PV×Nat)
 | .int i,_,.int j,_=>if p i j then some (.int (g i j),om) else none
 | _,_,_,_=>none
def pMul (i j:Int):Bool:=(decide (-(2 ^ 64) < i) && decide (i < 2 ^ 64)) || (decide (-(2 ^ 64) < j) && decide (j < 2 ^ 64))
def pDiv (_ j:Int):Bool:=decide (0 < j) && decide (j < 2 ^ 128)
def pMod (_ j:Int):Bool:=decide (0 < j)
def pPow (i j:Int):Bool:=decide (0<=j) && decide (j<=1000) && decide (i.natAbs < 2 ^ 64)
def zxv:=qdg (λ _ _=>true) (λ i j=>i - j)
def repL (n:Nat) (xs:List PV):List PV:=(jb1 n xs).flatten
def zvh:PV->Nat->PV->Nat->Option (PV×Nat)
 | .int i,_,.int j,_=>if pMul i j then some (.int (i * j),om) else none
 | .lst xs,_,.int k,_=>if 0<=k/\k < 2 ^ 62/\xs.length * k.toNat<=va8 then some (.lst (repL k.toNat xs),d1 (repL k.toNat xs)) else none
 | _,_,_,_=>none
def zxg:=qdg pDiv (λ i j=>i / j)
def zqn:=qdg pMod (λ i j=>i % j)
def qh9:=qdg pPow (λ i j=>i ^ j.toNat)
section
variable {X:Cx}
theorem qh7:OpR X (vg0 .FloorDiv) (rI (λ _ j=>0 < j/\j < 2 ^ 128) λ i j=>.int (i / j)):=opI λ i j _ _ _ _ _ hc q=>by
 have h1:(0:Int) < j:=hc.1
 have h2:j < 2 ^ 128:=hc.2
 refine floordiv_int (by omega) (by rw [Int.fdiv_eq_ediv_of_nonneg i (by omega)];exact q) (.inl (PyProof.noPylong_of_log2 ?_))
 have h3:j.natAbs < 2 ^ 128:=by omega
 have h4:j.natAbs≠0:=by omega
 have:=(Nat.log2_lt h4).mpr h3
 omega
end
theorem zqv {X:Cx}{e:Expr}{t t':TE} (h:PE X e t) (i:∀ σ H Q,t' σ H Q->t σ H Q):PE X e t':=λ pins s σ H Q I q=>h pins s σ H Q I (i σ H Q q)
theorem zgl {X:Cx}{e:Expr}{t t':TT} (h:PT X e t) (i:∀ σ H Q,t' σ H Q->t σ H Q):PT X e t':=λ pins s σ H Q I q=>h pins s σ H Q I (i σ H Q q)
theorem qjq {X:Cx}{e:Expr}{t t':TT} (h:PW X e t) (i:∀ σ H Q,t' σ H Q->t σ H Q):PW X e t':=λ wh pins s σ H Q I q=>h wh pins s σ H Q I (i σ H Q q)
theorem qjw {X:Cx}{e:List Expr}{t t':TA} (h:PA X e t) (i:∀ σ H Q,t' σ H Q->t σ H Q):PA X e t':=λ p pins s σ H Q I q=>h p pins s σ H Q I (i σ H Q q)
theorem zwo {X:Cx}{e:Stmt}{t t':TS} (h:PS X e t) (i:∀ D σ H,t' D σ H->t D σ H):PS X e t':=λ pins s σ H D I q=>h pins s σ H D I (i D σ H q)
theorem qep {X:Cx}{e:List Stmt}{t t':TS} (h:PSs X e t) (i:∀ D σ H,t' D σ H->t D σ H):PSs X e t':=λ pins s σ H D I q=>h pins s σ H D I (i D σ H q)
section
variable {X:Cx}{M:Fm}{a b:Expr}{f g:Fx}{vs vs':List Nat}{pos:Pos}{σ:St}{H:Hp}{Q:VK}
theorem qh8:OpR X (vg0 .Add) (λ x y H Q=>∃ a b ys,x=.ref a/\y=.ref b/\SqT X.K H a []/\SqT X.K H b ys/\Q (.ref b) H):=by
 intro pins s σ H x y v u Q I rx ry h
 obtain ⟨a,b,ys,rfl,rfl,ha,hb,q⟩:=h
 cases rx
 cases ry
 obtain ⟨its,r1,p1,_⟩:=I.tuple ha
 obtain ⟨its2,r2,p2,_⟩:=I.tuple hb
 cases r1
 obtain ⟨⟨cls,dd,data,sl⟩,ho,hc,n,hd⟩:=id p1
 obtain ⟨⟨cls2,dd2,data2,sl2⟩,ho2,hc2,n2,hd2⟩:=id p2
 simp only at hc hd hc2 hd2
 subst hc hd hc2 hd2
 exact concat_meets ⟨_,ho,rfl⟩ ⟨_,ho2,rfl⟩ vl8 seq_tuple_add vi8 vi5 (vi1 _ _)
  (tuple_addW0 a b _ its2.toArray n n2 dd dd2 sl sl2 rfl) ⟨ho,ho2,⟨.ref b,H,I,rfl,q⟩⟩
theorem qn9 (hv:∀ i∈vs,M.Ms i=false) (hK:M.K=X.K) (ha:PE X a (tE M f vs)) (hb:PE X b (tE M g vs')):PE X (.BinOp a .Add b pos) (tE M (bBin zqw f g) (vs++vs')):=by
 refine zqv (qh2 (qo8.or (qjy.or (ql3.or qh8))) ha hb) λ σ H Q h=>zvd hv (λ x d y e z c v w H fps f1 f2 Q ho o1 o2 dj nz zd lf=>?_) h
 cases x with
 | int i=>
  cases y with
  | int j=>
   cases ho
   rw [Own] at o1 o2
   exact .inl ⟨i,j,o1.1,o2.1,zxh lf⟩
  | _=>cases ho
 | lst xs=>
  cases y with
  | lst ys=>
   dsimp only [zqw] at ho
   split at ho
   ·rename_i hl
    cases ho
    obtain ⟨p,ws,rfl,hp,ol⟩:=(cold o1 λ a ha=>nz a (jb0 _ ha)).coldL
    obtain ⟨p2,us,rfl,hp2,ol2⟩:=(cold o2 λ a ha=>nz a (ja7 _ ha)).coldL
    exact .inr (.inl ⟨p,p2,ws,us,rfl,rfl,hp,hp2,by rw [ol.length,ol2.length];exact hl,λ q hq=>zwe lf (ol.app ol2) hq⟩)
   ·cases ho
  | _=>cases ho
 | tup xs=>
  cases y with
  | tup ys=>
   dsimp only [zqw] at ho
   split at ho
   ·rename_i hl
    cases ho
    obtain ⟨p,ws,rfl,hp,ol⟩:=(cold o1 λ a ha=>nz a (jb0 _ ha)).coldT
    obtain ⟨p2,us,rfl,hp2,ol2⟩:=(cold o2 λ a ha=>nz a (ja7 _ ha)).coldT
    by_cases hw:ws=[]
    ·subst hw
     refine .inr (.inr (.inr ⟨p,p2,us,rfl,rfl,.inl (.inl hp),.inl (.inl hp2),?_⟩))
     have ex:xs=[]:=by
      have:=ol.length
      cases xs with
      | nil=>rfl
      | cons _ _=>simp at this
     subst ex
     exact zkh (x:=.tup ys) lf (by rw [Own];exact ⟨p2,us,rfl,hp2,ol2⟩)
    ·refine .inr (.inr (.inl ⟨p,p2,ws,us,rfl,rfl,.inl (.inl hp),.inl (.inl hp2),hw,by rw [ol.length,ol2.length];exact hl,λ hu=>?_,λ hu q hq=>zjw lf (ol.app ol2) hq⟩))
     subst hu
     have ey:ys=[]:=by
      have:=ol2.length
      cases ys with
      | nil=>rfl
      | cons _ _=>simp at this
     subst ey
     rw [jj8] at lf
     exact zkh (x:=.tup xs) lf (by rw [Own];exact ⟨p,ws,rfl,hp,ol⟩)
   ·cases ho
  | _=>cases ho
 | _=>cases ho
def qfa:PV->Nat->PV->Nat->Option (PV×Nat)
 | .lst xs,_,.lst ys,e=>if xs.length + ys.length<=va8 then some (.lst (xs++ys),if zft xs=true/\e=om then om else d1 (xs++ys)) else none
 | _,_,_,_=>none
theorem OwnL.appF {K:Frag}{H:Hp}{Z:Addr->Prop}{ys:List PV}{us:List V}{fc:List Addr} (h':OwnL K H Z ys om us fc):∀ {xs:List PV}{ws:List V},OwnL K H Z xs om ws []->OwnL K H Z (xs++ys) om (ws++us) fc
 | [],ws,h=>by rw [OwnL] at h;obtain ⟨rfl,_⟩:=h;exact h'
 | x::xs,ws,h=>by
  rw [OwnL] at h
  obtain ⟨v,s,f1,f2,rfl,ef,dj,h1,h2⟩:=h
  obtain ⟨rfl,rfl⟩:f1=[]/\f2=[]:=by simpa using ef.symm
  show OwnL K H Z (x::(xs++ys)) om (v::(s++us)) fc
  rw [OwnL]
  exact ⟨v,s++us,[],fc,rfl,rfl,λ _ z=>(nomatch z),h1,OwnL.appF h' h2⟩
theorem qlj (hv:∀ i∈vs,M.Ms i=false) (hK:M.K=X.K) (ha:PE X a (tE M f vs)) (hb:PE X b (tE M g vs')):PE X (.BinOp a .Add b pos) (tE M (bBin qfa f g) (vs++vs')):=by
 refine zqv (qh2 qjy ha hb) λ σ H Q h=>zvd hv (λ x d y e z c v w H fps f1 f2 Q ho o1 o2 dj nz zd lf=>?_) h
 cases x with
 | lst xs=>
  cases y with
  | lst ys=>
   dsimp only [qfa] at ho
   split at ho
   ·rename_i hl
    cases ho
    obtain ⟨p,ws,rfl,hp,ol⟩:=(cold o1 λ a ha=>nz a (jb0 _ ha)).coldL
    split at lf
    ·rename_i hc
     obtain ⟨ht,rfl⟩:=hc
     obtain ⟨p2,us,fc,rfl,hp2,ef,na,ol2⟩:=o2.list (by decide)
     refine ⟨p,p2,ws,us,rfl,rfl,hp,hp2,by rw [ol.length,ol2.length];exact hl,λ q hq=>?_⟩
     have lf':Leaf M H fps (vs++vs') fc (.lst (xs++ys)) om Q:=λ u H' fp h1 h2 h3=>lf u H' fp h1 h2 λ a ha=>(h3 a ha).elim (λ z=>.inl (ja7 _ (by rw [ef];exact ja1 _ z))) .inr
     exact zma lf' (OwnL.appF ol2 (ol.atoms ht)) hq
    ·obtain ⟨p2,us,rfl,hp2,ol2⟩:=(cold o2 λ a ha=>nz a (ja7 _ ha)).coldL
     exact ⟨p,p2,ws,us,rfl,rfl,hp,hp2,by rw [ol.length,ol2.length];exact hl,λ q hq=>zwe lf (ol.app ol2) hq⟩
   ·cases ho
  | _=>cases ho
 | _=>cases ho
theorem qbj {op:Operator}{p:Int->Int->Bool}{k:Int->Int->Int}{C:Int->Int->Prop} (hop:OpR X (vg0 op) (rI C λ i j=>.int (k i j))) (hC:∀ i j,p i j=true->C i j) (hv:∀ i∈vs,M.Ms i=false) (ha:PE X a (tE M f vs)) (hb:PE X b (tE M g vs')):
  PE X (.BinOp a op b pos) (tE M (bBin (qdg p k) f g) (vs++vs')):=by
 refine zqv (qh2 hop ha hb) λ σ H Q h=>zvd hv (λ x d y e z c v w H fps f1 f2 Q ho o1 o2 dj nz zd lf=>?_) h
 cases x with
 | int i=>
  cases y with
  | int j=>
   dsimp only [qdg] at ho
   split at ho
   ·rename_i hp
    cases ho
    rw [Own] at o1 o2
    exact ⟨i,j,o1.1,o2.1,hC i j hp,zxh lf⟩
   ·cases ho
  | _=>cases ho
 | _=>cases ho
theorem OwnL.rep {K:Frag}{H:Hp}{Z:Addr->Prop}{xs:List PV}{ws:List V} (h:OwnL K H Z xs 0 ws []):∀ n,OwnL K H Z (repL n xs) 0 (jb1 n ws).flatten []
 | 0=>by
  unfold repL
  rw [jo8,jo8,jr2,jr2,OwnL];exact ⟨rfl,rfl⟩
 | n + 1=>by
  have:=h.rep n
  unfold repL at this ⊢
  rw [jf8,jf8,ji2,ji2]
  exact h.app this
theorem ql1:OpR X (vg0 .Sub) (rI (λ _ _=>True) λ i j=>.int (i - j)):=opI λ _ _ _ _ _ _ _ _ q=>sub_int q
theorem cMul {i j:Int} (h:pMul i j=true):CMul i j:=by
 unfold pMul at h
 simp only [jg5,ja5,decide_eq_true_eq] at h
 exact h
theorem qn2 (hv:∀ i∈vs,M.Ms i=false) (ha:PE X a (tE M f vs)) (hb:PE X b (tE M g vs')):PE X (.BinOp a .Mult b pos) (tE M (bBin zvh f g) (vs++vs')):=by
 refine zqv (qh2 (qo0.or qox) ha hb) λ σ H Q h=>zvd hv (λ x d y e z c v w H fps f1 f2 Q ho o1 o2 dj nz zd lf=>?_) h
 cases x with
 | int i=>
  cases y with
  | int j=>
   dsimp only [zvh] at ho
   split at ho
   ·rename_i hp
    cases ho
    rw [Own] at o1 o2
    exact .inl ⟨i,j,o1.1,o2.1,cMul hp,zxh lf⟩
   ·cases ho
  | _=>cases ho
 | lst xs=>
  cases y with
  | int k=>
   dsimp only [zvh] at ho
   split at ho
   ·rename_i hl
    cases ho
    obtain ⟨p,ws,rfl,hp,ol⟩:=(cold o1 λ a ha=>nz a (jb0 _ ha)).coldL
    rw [Own] at o2
    exact .inr ⟨p,k,ws,rfl,o2.1,hp,by omega,by omega,by rw [ol.length];exact hl.2.2,λ q hq=>zwe lf (ol.rep k.toNat) hq⟩
   ·cases ho
  | _=>cases ho
 | _=>cases ho
theorem cDiv {i j:Int} (h:pDiv i j=true):0 < j/\j < 2 ^ 128:=by
 unfold pDiv at h
 simp only [ja5,decide_eq_true_eq] at h
 exact h
theorem cMod {i j:Int} (h:pMod i j=true):0 < j:=by
 unfold pMod at h
 simpa using h
theorem cPow {i j:Int} (h:pPow i j=true):CPow i j:=by
 unfold pPow at h
 simp only [ja5,decide_eq_true_eq] at h
 exact ⟨h.1.1,by omega,h.2⟩
def zvy:PV->Nat->Option (PV×Nat)
 | .int i,_=>some (.int (-i),om)
 | _,_=>none
theorem qn1 (ha:PE X a (tE M f vs)):PE X (.UnaryOp .USub a pos) (tE M (bUn zvy f) vs):=by
 refine zqv (qoo qjg ha) λ σ H Q h=>qc8 (λ x d z c v H fps f1 Q ho o1 nz zd lf=>?_) h
 cases x with
 | int i=>cases ho;rw [Own] at o1;exact ⟨i,o1.1,zxh lf⟩
 | _=>cases ho
def zwm (p:Int->Int->Bool):PV->Nat->PV->Nat->Option (PV×Nat)
 | .int i,_,.int j,_=>some (.bl (p i j),om)
 | _,_,_,_=>none
theorem zjx {p:Int->Int->Bool}{x y z:PV}{d e c:Nat}{v w:V}{fps:Fps}{f1 f2 F:List Addr}{Z Z':Addr->Prop} (ho:zwm p x d y e=some (z,c)) (o1:Own M.K H Z x d v f1) (o2:Own M.K H Z' y e w f2) (lf:Leaf M H fps vs F z c Q):rI0 (λ i j=>.bl (p i j)) v w H Q:=by
 cases x with
 | int i=>
  cases y with
  | int j=>
   cases ho
   rw [Own] at o1 o2
   exact ⟨i,j,o1.1,o2.1,zws lf⟩
  | _=>cases ho
 | _=>cases ho
def toDL (f:PV->Option vc5):List PV->Option (List vc5)
 | []=>some []
 | x::xs=>match f x,toDL f xs with
  | some a,some r=>some (a::r)
  | _,_=>none
def toD:Nat->PV->Option vc5
 | 0,_=>none
 | n + 1,x=>match x with
  | .non=>some .none
  | .bl b=>some (.bool b)
  | .int i=>some (.int i)
  | .str z=>if PyData.strOk z=true then some (.str z) else none
  | .lst xs=>(toDL (toD n) xs).map .list
  | .tup xs=>(toDL (toD n) xs).map .tuple
  | _=>none
def zyq (f:PV->PV->Bool):List PV->List PV->Bool
 | [],[]=>true
 | x::xs,y::ys=>f x y && zyq f xs ys
 | _,_=>false
def zbk:Nat->PV->PV->Bool
 | 0,_,_=>false
 | n + 1,x,y=>match x,y with
  | .non,.non=>true
  | .bl a,.bl b=>a == b
  | .int a,.int b=>a == b
  | .str a,.str b=>a == b
  | .emp,.emp=>true
  | .lst xs,.lst ys=>zyq (zbk n) xs ys
  | .tup xs,.tup ys=>zyq (zbk n) xs ys
  | _,_=>false
def opEq (neg:Bool) (x:PV) (_:Nat) (y:PV) (_:Nat):Option (PV×Nat):=match toD 20 x,toD 20 y with
 | some a,some b=>some (.bl (neg^^vb1 a b),om)
 | _,_=>match x,y with
  | .lst xs,.lst ys=>if zyq (zbk 20) xs ys=true then some (.bl (neg^^true),om) else if xs.length≠ys.length then some (.bl (neg^^false),om) else none
  | .str a,.str b=>some (.bl (neg^^(a == b)),om)
  | .emp,.emp=>some (.bl (neg^^true),om)
  | .tup xs,.tup ys=>if zyq (zbk 20) xs ys=true then some (.bl (neg^^true),om) else none
  | _,_=>none
theorem zkm {f:PV->Option vc5}{n:Nat} (hf:∀ x D,f x=some D->D.canLay0=true/\D.depth<=n):∀ {xs:List PV}{Ds:List vc5},toDL f xs=some Ds->vb2 Ds=true/\vb5 Ds<=n
 | [],Ds,h=>by cases h;rw [vb2,vb5];exact ⟨rfl,ji5 _⟩
 | x::xs,Ds,h=>by
  unfold toDL at h
  split at h
  ·rename_i a r h1 h2
   cases h
   have h3:=hf x a h1
   have h4:=zkm hf h2
   rw [vb2,vb5,h3.1,h4.1]
   exact ⟨rfl,Nat.max_le.mpr ⟨h3.2,h4.2⟩⟩
  ·cases h
theorem zzk:∀ (n:Nat) (x:PV) (D:vc5),toD n x=some D->D.canLay0=true/\D.depth<=n
 | 0,_,_,h=>by cases h
 | n + 1,x,D,h=>by
  unfold toD at h
  cases x with
  | non=>cases h;rw [vg2,vg4] <;> first | exact ⟨rfl,ji5 _⟩ | (intros;contradiction)
  | bl b=>cases h;rw [vg2,vg4] <;> first | exact ⟨rfl,ji5 _⟩ | (intros;contradiction)
  | int i=>cases h;rw [vg2,vg4] <;> first | exact ⟨rfl,ji5 _⟩ | (intros;contradiction)
  | str z=>
   dsimp only at h
   split at h
   ·rename_i hz
    cases h;rw [vg2,vg4] <;> first | exact ⟨hz,ji5 _⟩ | (intros;contradiction)
   ·cases h
  | lst xs=>
   obtain ⟨Ds,e,rfl⟩:=jc5.mp h
   have:=zkm (zzk n) e
   rw [vg2,vg4]
   exact ⟨this.1,jr3 this.2⟩
  | tup xs=>
   obtain ⟨Ds,e,rfl⟩:=jc5.mp h
   have:=zkm (zzk n) e
   rw [vg2,vg4]
   exact ⟨this.1,jr3 this.2⟩
  | emp=>cases h
  | dko=>cases h
  | scr ns=>cases h
  | dct _=>cases h
  | exn _=>cases h
theorem zwu {pins:List (Addr×Obj)}{s:va3}{Z:Addr->Prop} (I:L2.Inv X pins σ H s):∀ (n:Nat) (x:PV) (d:Nat) (v:V) (fp:List Addr) (u:va2) (D:vc5),toD n x=some D->Own X.K H Z x d v fp->RelV v u->∃ as,Reads s.heap u D as
 | 0,_,_,_,_,_,_,h,_,_=>by cases h
 | n + 1,x,d,v,fp,u,D,h,o,r=>by
  have all:∀ (xs:List PV) (d:Nat) (ws:List V) (fp:List Addr) (us:List va2) (Ds:List vc5),toDL (toD n) xs=some Ds->OwnL X.K H Z xs d ws fp->Vals ws us->∃ as,vi4 s.heap us Ds as:=λ xs=>by
   induction xs with
   | nil=>
    intro d ws fp us Ds h o r
    cases h
    rw [OwnL] at o
    obtain ⟨rfl,_⟩:=o
    cases r
    exact ⟨_,.nil⟩
   | cons y ys ih=>
    intro d ws fp us Ds h o r
    unfold toDL at h
    split at h
    ·rename_i a rr h1 h2
     cases h
     rw [OwnL] at o
     obtain ⟨v,s,f1,f2,rfl,_,_,o1,o2⟩:=o
     cases r with
     | cons r1 r2=>
      obtain ⟨as,ra⟩:=zwu I n y d v f1 _ a h1 o1 r1
      obtain ⟨bs,rb⟩:=ih d s f2 _ rr h2 o2 r2
      exact ⟨_,.cons ra rb⟩
    ·cases h
  unfold toD at h
  cases x with
  | non=>cases h;rw [Own] at o;obtain ⟨rfl,_⟩:=o;cases r;exact ⟨_,.none⟩
  | bl b=>cases h;rw [Own] at o;obtain ⟨rfl,_⟩:=o;cases r;exact ⟨_,.bool b⟩
  | int i=>cases h;rw [Own] at o;obtain ⟨rfl,_⟩:=o;obtain ⟨t,rfl⟩:=r;exact ⟨_,.int i t⟩
  | str z=>
   dsimp only at h
   split at h
   ·cases h;rw [Own] at o;obtain ⟨rfl,_⟩:=o;obtain ⟨t,rfl⟩:=r;exact ⟨_,.str z t⟩
   ·cases h
  | lst xs=>
   obtain ⟨Ds,e,rfl⟩:=jc5.mp h
   have hh:∃ a ws d' f,v=.ref a/\H a=some (.lst ws)/\OwnL X.K H Z xs d' ws f:=by
    rw [Own] at o
    obtain ⟨a,ws,ev,⟨_,hr,_,ol⟩ | ⟨_,f,ha,_,_,ol⟩⟩:=o
    ·exact ⟨a,ws,_,_,ev,hr.1,ol⟩
    ·exact ⟨a,ws,_,_,ev,ha,ol⟩
   obtain ⟨a,ws,d',f,rfl,ha,ol⟩:=hh
   cases r
   obtain ⟨its,rv,⟨ob,nn,e1,e2,e3,e4⟩,_⟩:=I.list (.inl (.inl ha))
   obtain ⟨as,ra⟩:=all xs d' ws f its Ds e ol rv
   exact ⟨_,.list e1 e2 e4 ra⟩
  | tup xs=>
   obtain ⟨Ds,e,rfl⟩:=jc5.mp h
   rw [Own] at o
   obtain ⟨a,ws,rfl,ha,ol⟩:=o
   cases r
   obtain ⟨its,rv,⟨ob,e1,e2,nn,e4⟩,_⟩:=I.tuple (.inl (.inl ha))
   obtain ⟨as,ra⟩:=all xs _ ws fp its Ds e ol rv
   exact ⟨_,.tuple e1 e2 e4 ra⟩
  | emp=>cases h
  | dko=>cases h
  | scr ns=>cases h
  | dct _=>cases h
  | exn _=>cases h
theorem zmg {K':Type} [DecidableEq K'] {prog:vb0}{w:vc1}{knd:KeyKind prog w K'}{P:vb0}{w0:vc1}{h:Heap}{a:Addr} (x:h.DictOf (zkg P w0) a []):h.DictOf knd a []:=by
 obtain ⟨o,es,ep,h1,h2,h3,h4,h5,h6⟩:=x
 generalize hes:es.toList=l at h5
 cases h5
 have e:es=#[]:=Array.toList_eq_nil_iff.mp hes
 subst e
 exact ⟨o,#[],ep,h1,h2,h3,by intro z hz;simp at hz,.nil,.nil⟩
theorem qpx {pins:List (Addr×Obj)}{s:va3} (I:L2.Inv X pins σ H s) {a b:Addr}{A:vc0} (ha:H a=some (.dK [])) (hb:H b=some (.dK [])) (hu:A.units < vh0):SeqAt.EqAt A s (.ref a) (.ref b) true:=by
 by_cases e:a=b
 ·subst e;exact vh1 _
 ·refine vk8 e λ prog w E Q hq=>?_
  obtain ⟨_,z1,vs,k1,d1⟩:=qis I.hok ha
  obtain ⟨_,z2,ws,k2,d2⟩:=qis I.hok hb
  cases k1
  cases k2
  exact PySem.W.keq_eq (knd:=zkg prog w) (r:=true) z1 z2 (zmg d1) (zmg d2) hu (λ _=>.nil) (by simpa using hq)
theorem zkn {Z:Addr->Prop}{xs:List PV}{d:Nat}{v:V}{fp:List Addr}{K:Frag} (o:Own K H Z (.lst xs) d v fp):∃ a ws d' f,v=.ref a/\H a=some (.lst ws)/\OwnL K H Z xs d' ws f:=by
 rw [Own] at o
 obtain ⟨a,ws,ev,⟨_,hr,_,ol⟩ | ⟨_,f,ha,_,_,ol⟩⟩:=o
 ·exact ⟨a,ws,_,_,ev,hr.1,ol⟩
 ·exact ⟨a,ws,_,_,ev,ha,ol⟩
theorem zyn {n:Nat}{e:Nat->Bool} (h:∀ j,j < n->e j=true):(ja2 n).all e=true:=jb8.mpr λ j hj=>h j (jb9.mp hj)
theorem qei {pins:List (Addr×Obj)}{s:va3}{Z Z':Addr->Prop} (I:L2.Inv X pins σ H s):∀ (n:Nat) (x y:PV) (d e:Nat) (v w:V) (f1 f2:List Addr) (u u':va2) (A:vc0),A.units + n < vh0->zbk n x y=true->Own X.K H Z x d v f1->Own X.K H Z' y e w f2->RelV v u->RelV w u'->SeqAt.EqAt A s u u' true
 | 0,_,_,_,_,_,_,_,_,_,_,_,_,h,_,_,_,_=>by cases h
 | n + 1,x,y,d,e,v,w,f1,f2,u,u',A,hu,h,o1,o2,r1,r2=>by
  have all:∀ (xs ys:List PV) (d e:Nat) (vs ws:List V) (f1 f2:List Addr) (us us':List va2),zyq (zbk n) xs ys=true->OwnL X.K H Z xs d vs f1->OwnL X.K H Z' ys e ws f2->Vals vs us->Vals ws us'->us.length=us'.length/\∀ j (h1:j < us.length) (h2:j < us'.length),SeqAt.EqAt A.in1 s us[j] us'[j] true:=λ xs=>by
   induction xs with
   | nil=>
    intro ys d e vs ws f1 f2 us us' h o1 o2 r1 r2
    cases ys with
    | cons _ _=>cases h
    | nil=>
     rw [OwnL] at o1 o2
     obtain ⟨rfl,_⟩:=o1
     obtain ⟨rfl,_⟩:=o2
     cases r1
     cases r2
     exact ⟨rfl,λ j h1 _=>nomatch h1⟩
   | cons x xs ih=>
    intro ys d e vs ws f1 f2 us us' h o1 o2 r1 r2
    cases ys with
    | nil=>cases h
    | cons y ys=>
     unfold zyq at h
     rw [ja5] at h
     rw [OwnL] at o1 o2
     obtain ⟨_,_,g1,g2,rfl,_,_,p1,p2⟩:=o1
     obtain ⟨_,_,k1,k2,rfl,_,_,q1,q2⟩:=o2
     cases r1 with
     | cons a1 a2=>
      cases r2 with
      | cons b1 b2=>
       have t:=ih ys d e _ _ g2 k2 _ _ h.2 p2 q2 a2 b2
       refine ⟨congrArg (·+ 1) t.1,λ j h1 h2=>?_⟩
       cases j with
       | zero=>exact qei I n x y d e _ _ g1 k1 _ _ A.in1 (by have e:A.in1.units=A.units + 1:=rfl;omega) h.1 p1 q1 a1 b1
       | succ j=>exact t.2 j (je0 h1) (je0 h2)
  cases x with
  | non=>cases y <;> first | (cases h;done) | (rw [Own] at o1 o2;obtain ⟨rfl,_⟩:=o1;obtain ⟨rfl,_⟩:=o2;cases r1;cases r2;exact vh1 _)
  | bl b=>cases y <;> first | (cases h;done) | (rw [Own] at o1 o2;obtain ⟨rfl,_⟩:=o1;obtain ⟨rfl,_⟩:=o2;cases r1;cases r2;have e:=eq_of_beq (show (b == _)=true from h);subst e;exact vh1 _)
  | int i=>cases y <;> first | (cases h;done) | (rw [Own] at o1 o2;obtain ⟨rfl,_⟩:=o1;obtain ⟨rfl,_⟩:=o2;obtain ⟨t,rfl⟩:=r1;obtain ⟨t',rfl⟩:=r2;have e:=eq_of_beq (show (i == _)=true from h);subst e;have z:=SeqAt.EqAt.int_int (A:=A) (s:=s) i t i t';rwa [beq_self_eq_true] at z)
  | str i=>cases y <;> first | (cases h;done) | (rw [Own] at o1 o2;obtain ⟨rfl,_⟩:=o1;obtain ⟨rfl,_⟩:=o2;obtain ⟨t,rfl⟩:=r1;obtain ⟨t',rfl⟩:=r2;have e:=eq_of_beq (show (i == _)=true from h);subst e;have z:=SeqAt.EqAt.str_str (A:=A) (s:=s) i t i t';rwa [beq_self_eq_true] at z)
  | emp=>cases y <;> first | (cases h;done) | (rw [Own] at o1 o2;obtain ⟨_,a,rfl,ha⟩:=o1;obtain ⟨_,b,rfl,hb⟩:=o2;cases r1;cases r2;exact qpx I ha hb (by omega))
  | dko=>cases h
  | lst xs=>
   cases y with
   | lst ys=>
    obtain ⟨a,ws,d',f,rfl,ha,ol⟩:=zkn o1
    obtain ⟨b,ws',e',f',rfl,hb,ol'⟩:=zkn o2
    cases r1
    cases r2
    obtain ⟨its,rv,p,_⟩:=I.list (.inl (.inl ha))
    obtain ⟨its',rv',p',_⟩:=I.list (.inl (.inl hb))
    have t:=all xs ys d' e' ws ws' f f' its its' h ol ol' rv rv'
    obtain ⟨ob,nn,e1,e2,e3,e4⟩:=p
    obtain ⟨ob',nn',e1',e2',e3',e4'⟩:=p'
    by_cases e:a=b
    ·subst e;exact vh1 _
    ·refine vk8 e ?_
     have z:=SeqAt.RcAt.lists (A:=A) (s:=s) (l:=a) (b:=b) (items:=its.toArray) (items2:=its'.toArray) (e:=λ _=>true) ⟨ob,e1,e2,nn,e4⟩ ⟨ob',e1',e2',nn',e4'⟩ (by simpa using t.1) (by omega) (λ j h1 h2=>by simpa using t.2 j (by simpa using h1) (by simpa using h2))
     rwa [zyn λ _ _=>rfl] at z
   | _=>cases h
  | tup xs=>
   cases y with
   | tup ys=>
    rw [Own] at o1 o2
    obtain ⟨a,ws,rfl,ha,ol⟩:=o1
    obtain ⟨b,ws',rfl,hb,ol'⟩:=o2
    cases r1
    cases r2
    obtain ⟨its,rv,⟨ob,e1,e2,nn,e4⟩,_⟩:=I.tuple (.inl (.inl ha))
    obtain ⟨its',rv',⟨ob',e1',e2',nn',e4'⟩,_⟩:=I.tuple (.inl (.inl hb))
    have t:=all xs ys _ _ ws ws' _ _ its its' h ol ol' rv rv'
    by_cases e:a=b
    ·subst e;exact vh1 _
    ·refine vk8 e ?_
     have z:=SeqAt.RcAt.tuples (A:=A) (s:=s) (l:=a) (b:=b) (items:=its.toArray) (items2:=its'.toArray) (e:=λ _=>true) ⟨ob,e1,e2,nn,e4⟩ ⟨ob',e1',e2',nn',e4'⟩ (by omega) (λ j h1 h2=>by simpa using t.2 j (by simpa using h1) (by simpa using h2))
     have z2:((its.toArray.size == its'.toArray.size):Bool)=true:=by simpa using t.1
     rwa [zyn λ _ _=>rfl,z2] at z
   | _=>cases h
  | scr ns=>cases y <;> cases h
  | dct _=>cases y <;> cases h
  | exn _=>cases y <;> cases h
theorem qbl {pins:List (Addr×Obj)}{s:va3}{Z Z':Addr->Prop} (I:L2.Inv X pins σ H s) {A:vc0} (hu:A.units + 64 < vh0):∀ (xs ys:List PV) (d e:Nat) (vs ws:List V) (f1 f2:List Addr) (us us':List va2),zyq (zbk 20) xs ys=true->OwnL X.K H Z xs d vs f1->OwnL X.K H Z' ys e ws f2->Vals vs us->Vals ws us'->us.length=us'.length/\∀ j (h1:j < us.length) (h2:j < us'.length),SeqAt.EqAt A.in1 s us[j] us'[j] true:=λ xs=>by
 induction xs with
 | nil=>
  intro ys d e vs ws f1 f2 us us' h o1 o2 r1 r2
  cases ys with
  | cons _ _=>cases h
  | nil=>
   rw [OwnL] at o1 o2
   obtain ⟨rfl,_⟩:=o1
   obtain ⟨rfl,_⟩:=o2
   cases r1
   cases r2
   exact ⟨rfl,λ j h1 _=>nomatch h1⟩
 | cons x xs ih=>
  intro ys d e vs ws f1 f2 us us' h o1 o2 r1 r2
  cases ys with
  | nil=>cases h
  | cons y ys=>
   unfold zyq at h
   rw [ja5] at h
   rw [OwnL] at o1 o2
   obtain ⟨_,_,g1,g2,rfl,_,_,p1,p2⟩:=o1
   obtain ⟨_,_,k1,k2,rfl,_,_,q1,q2⟩:=o2
   cases r1 with
   | cons a1 a2=>
    cases r2 with
    | cons b1 b2=>
     have t:=ih ys d e _ _ g2 k2 _ _ h.2 p2 q2 a2 b2
     refine ⟨congrArg (·+ 1) t.1,λ j h1 h2=>?_⟩
     cases j with
     | zero=>exact qei I 20 x y d e _ _ g1 k1 _ _ A.in1 (by have e:A.in1.units=A.units + 1:=rfl;omega) h.1 p1 q1 a1 b1
     | succ j=>exact t.2 j (je0 h1) (je0 h2)
theorem qbk {pins:List (Addr×Obj)}{s:va3}{Z Z':Addr->Prop} (I:L2.Inv X pins σ H s) {xs ys:List PV}{d e:Nat}{v w:V}{f1 f2:List Addr}{u u':va2}{A:vc0} (hu:A.units + 64 < vh0) (h:zyq (zbk 20) xs ys=true) (o1:Own X.K H Z (.lst xs) d v f1) (o2:Own X.K H Z' (.lst ys) e w f2) (r1:RelV v u) (r2:RelV w u'):SeqAt.RcAt A s u u' true/\vl6 A s u u' false:=by
 obtain ⟨a,ws,d',f,rfl,ha,ol⟩:=zkn o1
 obtain ⟨b,ws',e',f',rfl,hb,ol'⟩:=zkn o2
 cases r1
 cases r2
 obtain ⟨its,rv,⟨ob,nn,e1,e2,e3,e4⟩,_⟩:=I.list (.inl (.inl ha))
 obtain ⟨its',rv',⟨ob',nn',e1',e2',e3',e4'⟩,_⟩:=I.list (.inl (.inl hb))
 have t:=qbl I hu xs ys d' e' ws ws' f f' its its' h ol ol' rv rv'
 have z:=SeqAt.RcAt.lists (A:=A) (s:=s) (l:=a) (b:=b) (items:=its.toArray) (items2:=its'.toArray) (e:=λ _=>true) ⟨ob,e1,e2,nn,e4⟩ ⟨ob',e1',e2',nn',e4'⟩ (by simpa using t.1) (by omega) (λ j h1 h2=>by simpa using t.2 j (by simpa using h1) (by simpa using h2))
 have z':=SeqAt.RcNeAt.lists (A:=A) (s:=s) (l:=a) (b:=b) (items:=its.toArray) (items2:=its'.toArray) (e:=λ _=>true) ⟨ob,e1,e2,nn,e4⟩ ⟨ob',e1',e2',nn',e4'⟩ (by simpa using t.1) (by omega) (λ j h1 h2=>by simpa using t.2 j (by simpa using h1) (by simpa using h2))
 rw [zyn λ _ _=>rfl] at z z'
 exact ⟨z,z'⟩
theorem zgg {pins:List (Addr×Obj)}{s:va3}{Z Z':Addr->Prop} (I:L2.Inv X pins σ H s) {xs ys:List PV}{d e:Nat}{v w:V}{f1 f2:List Addr}{u u':va2}{A:vc0} (hu:A.units + 64 < vh0) (h:zyq (zbk 20) xs ys=true) (o1:Own X.K H Z (.tup xs) d v f1) (o2:Own X.K H Z' (.tup ys) e w f2) (r1:RelV v u) (r2:RelV w u'):SeqAt.RcAt A s u u' true/\vl6 A s u u' false:=by
 rw [Own] at o1
 rw [Own] at o2
 obtain ⟨a,ws,rfl,ha,ol⟩:=o1
 obtain ⟨b,ws',rfl,hb,ol'⟩:=o2
 cases r1
 cases r2
 obtain ⟨its,rv,⟨ob,e1,e2,nn,e4⟩,_⟩:=I.tuple (.inl (.inl ha))
 obtain ⟨its',rv',⟨ob',e1',e2',nn',e4'⟩,_⟩:=I.tuple (.inl (.inl hb))
 have t:=qbl I hu xs ys _ _ ws ws' _ _ its its' h ol ol' rv rv'
 have z:=SeqAt.RcAt.tuples (A:=A) (s:=s) (l:=a) (b:=b) (items:=its.toArray) (items2:=its'.toArray) (e:=λ _=>true) ⟨ob,e1,e2,nn,e4⟩ ⟨ob',e1',e2',nn',e4'⟩ (by omega) (λ j h1 h2=>by simpa using t.2 j (by simpa using h1) (by simpa using h2))
 have z':=SeqAt.RcNeAt.tuples (A:=A) (s:=s) (l:=a) (b:=b) (items:=its.toArray) (items2:=its'.toArray) (e:=λ _=>true) ⟨ob,e1,e2,nn,e4⟩ ⟨ob',e1',e2',nn',e4'⟩ (by omega) (λ j h1 h2=>by simpa using t.2 j (by simpa using h1) (by simpa using h2))
 have z2:((its.toArray.size == its'.toArray.size):Bool)=true:=by simpa using t.1
 rw [zyn λ _ _=>rfl,z2] at z z'
 exact ⟨z,z'⟩
theorem qfo {pins:List (Addr×Obj)}{s:va3}{Z Z':Addr->Prop} (I:L2.Inv X pins σ H s) {xs ys:List PV}{d e:Nat}{v w:V}{f1 f2:List Addr}{u u':va2}{A:vc0} (hu:A.units + 64 < vh0) (h:xs.length≠ys.length) (o1:Own X.K H Z (.lst xs) d v f1) (o2:Own X.K H Z' (.lst ys) e w f2) (r1:RelV v u) (r2:RelV w u'):SeqAt.RcAt A s u u' false/\vl6 A s u u' true:=by
 obtain ⟨a,ws,d',f,rfl,ha,ol⟩:=zkn o1
 obtain ⟨b,ws',e',f',rfl,hb,ol'⟩:=zkn o2
 cases r1
 cases r2
 obtain ⟨its,rv,⟨ob,nn,e1,e2,e3,e4⟩,_⟩:=I.list (.inl (.inl ha))
 obtain ⟨its',rv',⟨ob',nn',e1',e2',e3',e4'⟩,_⟩:=I.list (.inl (.inl hb))
 have hl:(its.toArray.size != its'.toArray.size)=true:=by
  have h1:=rv.length
  have h2:=rv'.length
  rw [ol.length] at h1
  rw [ol'.length] at h2
  simp only [jc0,bne_iff_ne]
  omega
 exact ⟨SeqAt.RcAt.lists_lengths ⟨ob,e1,e2,nn,e4⟩ ⟨ob',e1',e2',nn',e4'⟩ hl (by omega),SeqAt.RcNeAt.lists_lengths ⟨ob,e1,e2,nn,e4⟩ ⟨ob',e1',e2',nn',e4'⟩ hl (by omega)⟩
theorem qge {pins:List (Addr×Obj)}{s:va3}{Z Z':Addr->Prop} (I:L2.Inv X pins σ H s) {d e:Nat}{v w:V}{f1 f2:List Addr}{u u':va2}{A:vc0} (hu:A.units < vh0) (o1:Own X.K H Z .emp d v f1) (o2:Own X.K H Z' .emp e w f2) (r1:RelV v u) (r2:RelV w u'):SeqAt.RcAt A s u u' true/\vl6 A s u u' false:=by
 rw [Own] at o1
 rw [Own] at o2
 obtain ⟨_,a,rfl,ha⟩:=o1
 obtain ⟨_,b,rfl,hb⟩:=o2
 cases r1
 cases r2
 obtain ⟨_,z1,vs,k1,d1⟩:=qis I.hok ha
 obtain ⟨_,z2,ws,k2,d2⟩:=qis I.hok hb
 cases k1
 cases k2
 exact ⟨λ prog w E Q hq=>PySem.W.keq_eq (knd:=zkg prog w) (r:=true) z1 z2 (zmg d1) (zmg d2) hu (λ _=>.nil) (by simpa using hq),λ prog w E Q hq=>PySem.W.keq_ne (knd:=zkg prog w) (r:=true) z1 z2 (zmg d1) (zmg d2) hu (λ _=>.nil) (by simpa using hq)⟩
def rEqD (K:Frag) (neg:Bool):R2:=λ v w H Q=>∃ x y d e Z Z' f1 f2,Own K H Z x d v f1/\Own K H Z' y e w f2/\((∃ a b,toD 20 x=some a/\toD 20 y=some b/\Q (.bl (neg^^vb1 a b)) H)\/(∃ xs ys,x=.lst xs/\y=.lst ys/\zyq (zbk 20) xs ys=true/\Q (.bl (neg^^true)) H)\/(∃ xs ys,x=.lst xs/\y=.lst ys/\xs.length≠ys.length/\Q (.bl (neg^^false)) H)\/(∃ a b,x=.str a/\y=.str b/\Q (.bl (neg^^(a == b))) H)\/(x=.emp/\y=.emp/\Q (.bl (neg^^true)) H)\/∃ xs ys,x=.tup xs/\y=.tup ys/\zyq (zbk 20) xs ys=true/\Q (.bl (neg^^true)) H)
theorem qo7 (hu:X.A.units + 64 < vh0):OpR X (vd2 .Eq) (rEqD X.K false):=by
 intro pins s σ H v w u u' Q I rx ry h
 obtain ⟨x,y,d,e,Z,Z',f1,f2,o1,o2,⟨a,b,h1,h2,q⟩ | ⟨xs,ys,rfl,rfl,h,q⟩ | ⟨xs,ys,rfl,rfl,h,q⟩ | ⟨a,b,rfl,rfl,q⟩ | ⟨rfl,rfl,q⟩ | ⟨xs,ys,rfl,rfl,h,q⟩⟩:=h
 ·obtain ⟨as,ra⟩:=zwu I 20 x d v f1 u a h1 o1 rx
  obtain ⟨bs,rb⟩:=zwu I 20 y e w f2 u' b h2 o2 ry
  have l1:=zzk 20 x a h1
  have l2:=zzk 20 y b h2
  exact SeqAt.compareEq_reads ra rb l1.1 l2.1 (by have:=jl7 a.depth b.depth;omega) ⟨.bl _,H,I,rfl,by simpa using q⟩
 ·exact (qbk I hu h o1 o2 rx ry).1 _ _ _ _ ⟨.bl _,H,I,rfl,q⟩
 ·exact (qfo I hu h o1 o2 rx ry).1 _ _ _ _ ⟨.bl _,H,I,rfl,q⟩
 ·rw [Own] at o1 o2
  obtain ⟨rfl,_⟩:=o1
  obtain ⟨rfl,_⟩:=o2
  obtain ⟨t,rfl⟩:=rx
  obtain ⟨t',rfl⟩:=ry
  exact SeqAt.RcAt.str_str a t b t' _ _ _ _ ⟨.bl _,H,I,rfl,by simpa using q⟩
 ·exact (qge I (by omega) o1 o2 rx ry).1 _ _ _ _ ⟨.bl _,H,I,rfl,q⟩
 ·exact (zgg I hu h o1 o2 rx ry).1 _ _ _ _ ⟨.bl _,H,I,rfl,q⟩
theorem qoz (hu:X.A.units + 64 < vh0):OpR X (vd2 .NotEq) (rEqD X.K true):=by
 intro pins s σ H v w u u' Q I rx ry h
 obtain ⟨x,y,d,e,Z,Z',f1,f2,o1,o2,⟨a,b,h1,h2,q⟩ | ⟨xs,ys,rfl,rfl,h,q⟩ | ⟨xs,ys,rfl,rfl,h,q⟩ | ⟨a,b,rfl,rfl,q⟩ | ⟨rfl,rfl,q⟩ | ⟨xs,ys,rfl,rfl,h,q⟩⟩:=h
 ·obtain ⟨as,ra⟩:=zwu I 20 x d v f1 u a h1 o1 rx
  obtain ⟨bs,rb⟩:=zwu I 20 y e w f2 u' b h2 o2 ry
  have l1:=zzk 20 x a h1
  have l2:=zzk 20 y b h2
  exact SeqAt.compareNe_reads ra rb l1.1 l2.1 (by have:=jl7 a.depth b.depth;omega) ⟨.bl _,H,I,rfl,by simpa using q⟩
 ·exact (qbk I hu h o1 o2 rx ry).2 _ _ _ _ ⟨.bl _,H,I,rfl,q⟩
 ·exact (qfo I hu h o1 o2 rx ry).2 _ _ _ _ ⟨.bl _,H,I,rfl,q⟩
 ·rw [Own] at o1 o2
  obtain ⟨rfl,_⟩:=o1
  obtain ⟨rfl,_⟩:=o2
  obtain ⟨t,rfl⟩:=rx
  obtain ⟨t',rfl⟩:=ry
  exact SeqAt.RcNeAt.str_str a t b t' _ _ _ _ ⟨.bl _,H,I,rfl,by simpa using q⟩
 ·exact (qge I (by omega) o1 o2 rx ry).2 _ _ _ _ ⟨.bl _,H,I,rfl,q⟩
 ·exact (zgg I hu h o1 o2 rx ry).2 _ _ _ _ ⟨.bl _,H,I,rfl,q⟩
theorem qb8 {neg:Bool}{x y z:PV}{d e c:Nat}{v w:V}{fps:Fps}{f1 f2 F:List Addr}{Z Z':Addr->Prop} (hK:M.K=X.K) (ho:opEq neg x d y e=some (z,c)) (o1:Own M.K H Z x d v f1) (o2:Own M.K H Z' y e w f2) (lf:Leaf M H fps vs F z c Q):rEqD X.K neg v w H Q:=by
 rw [hK] at o1 o2
 refine ⟨x,y,d,e,Z,Z',f1,f2,o1,o2,?_⟩
 unfold opEq at ho
 split at ho
 ·rename_i a b ea eb
  cases ho
  exact .inl ⟨a,b,ea,eb,zws lf⟩
 ·split at ho
  ·rename_i xs ys _
   split at ho
   ·rename_i hc
    cases ho
    exact .inr (.inl ⟨xs,ys,rfl,rfl,hc,zws lf⟩)
   ·split at ho
    ·rename_i hc
     cases ho
     exact .inr (.inr (.inl ⟨xs,ys,rfl,rfl,hc,zws lf⟩))
    ·cases ho
  ·rename_i a b _
   cases ho
   exact .inr (.inr (.inr (.inl ⟨a,b,rfl,rfl,zws lf⟩)))
  ·cases ho
   exact .inr (.inr (.inr (.inr (.inl ⟨rfl,rfl,zws lf⟩))))
  ·rename_i xs ys _
   split at ho
   ·rename_i hc
    cases ho
    exact .inr (.inr (.inr (.inr (.inr ⟨xs,ys,rfl,rfl,hc,zws lf⟩))))
   ·cases ho
  ·cases ho
def zqb:PV->Nat->PV->Nat->Option (PV×Nat)
 | .lst xs,_,.int i,_=>(atI xs i).map λ z=>(z,dv z)
 | .tup xs,_,.int i,_=>(atI xs i).map λ z=>(z,dv z)
 | .scr ns,_,.int i,_=>(atI ns i).map λ z=>(.int z,om)
 | .str z,_,.int i,_=>if z.length<=va8 then (atI z.cps.toList i).map λ c=>(.str ⟨#[c]⟩,om) else none
 | _,_,_,_=>none
theorem qg1 {K:Frag}{Z:Addr->Prop}{xs:List PV}{ws:List V}{i:Int}{z:PV} (ol:OwnL K H Z xs 0 ws []) (e:atI xs i=some z):∃ w,atI ws i=some w/\Own K H Z z 0 w []:=by
 unfold atI at e ⊢
 rw [ol.length]
 cases ej:ixN xs.length i with
 | none=>rw [ej] at e;cases e
 | some j=>rw [ej] at e;exact ol.nth e
theorem qjn (hv:∀ i∈vs,M.Ms i=false) (hK:M.K=X.K) (hs:qba b) (ha:PE X a (tE M f vs)) (hb:PE X b (tE M g vs')):PE X (.Subscript a b pos) (tE M (bBin zqb f g) (vs++vs')):=by
 refine zqv (qot qpm ha hb hs) λ σ H Q h=>zvd hv (λ x d y e z c v w H fps f1 f2 Q ho o1 o2 dj nz zd lf=>?_) h
 cases y with
 | int i=>
  rw [Own] at o2
  cases x with
  | lst xs=>
   dsimp only [zqb] at ho
   obtain ⟨z',ez,e2⟩:=jc5.mp ho
   cases e2
   obtain ⟨p,ws,rfl,hp,ol⟩:=(cold o1 λ a ha=>nz a (jb0 _ ha)).coldL
   obtain ⟨w',e1,ow⟩:=qg1 ol ez
   exact .inl ⟨p,ws,i,w',rfl,o2.1,.inl (.inl hp),e1,zkh lf ow⟩
  | tup xs=>
   dsimp only [zqb] at ho
   obtain ⟨z',ez,e2⟩:=jc5.mp ho
   cases e2
   obtain ⟨p,ws,rfl,hp,ol⟩:=(cold o1 λ a ha=>nz a (jb0 _ ha)).coldT
   obtain ⟨w',e1,ow⟩:=qg1 ol ez
   exact .inr (.inl ⟨p,ws,i,w',rfl,o2.1,.inl (.inl hp),e1,zkh lf ow⟩)
  | scr ns=>
   dsimp only [zqb] at ho
   obtain ⟨z',ez,e2⟩:=jc5.mp ho
   cases e2
   rw [Own] at o1
   obtain ⟨_,p,rfl,hp⟩:=o1
   refine .inl ⟨p,ns.map V.int,i,.int z',rfl,o2.1,?_,?_,zxh lf⟩
   ·rw [<- hK]
    exact hp.elim (λ h=>.inl (.inr h)) .inr
   ·unfold atI at ez ⊢
    rw [ja3]
    cases ej:ixN ns.length i with
    | none=>rw [ej] at ez;cases ez
    | some j=>
     rw [ej] at ez
     show (ns.map V.int)[j]?=_
     rw [jc1]
     have:ns[j]?=some z':=ez
     rw [this];rfl
  | str z=>
   dsimp only [zqb] at ho
   split at ho
   ·rename_i hl
    obtain ⟨c',ez,e2⟩:=jc5.mp ho
    cases e2
    rw [Own] at o1
    exact .inr (.inr ⟨z,i,c',o1.1,o2.1,hl,ez,qb6 lf⟩)
   ·cases ho
  | _=>cases ho
 | _=>cases x <;> cases ho
def evO:Option Fx->Rho->Rz (Option Int×Rho)
 | none,ρ=>.ok (none,ρ)
 | some f,ρ=>(f ρ).bind λ (x,_,ρ1)=>match x with
  | .int i=>.ok (some i,ρ1)
  | _=>.no
def cutP (xs:List PV) (lo hi:Option Int):List PV:=(xs.drop (HT.sIx xs.length 0 lo)).take (HT.sIx xs.length xs.length hi - HT.sIx xs.length 0 lo)
def opSl (x:PV) (lo hi:Option Int):Option (PV×Nat):=match x with
 | .lst xs=>some (.lst (cutP xs lo hi),d1 (cutP xs lo hi))
 | .tup xs=>if HT.sIx xs.length 0 lo=0/\HT.sIx xs.length xs.length hi=xs.length then none else some (.tup (cutP xs lo hi),0)
 | _=>none
def bSl (f:Fx) (lo hi:Option Fx):Fx:=λ ρ=>(f ρ).bind λ (x,_,ρ1)=>(evO lo ρ1).bind λ (l,ρ2)=>(evO hi ρ2).bind λ (u,ρ3)=>match opSl x l u with
 | some (z,c)=>.ok (z,c,ρ3)
 | none=>.no
def tO (M:Fm):Option (Fx×List Nat)->TO
 | none=>qag
 | some (f,vs)=>qns (tE M f vs)
theorem qd7 {o:Option (Fx×List Nat)}{ρ:Rho}{fps:Fps}{R:Option Int->Hp->Prop} (rep:Rep M ρ σ H fps)
  (q:match evO (o.map (·.1)) ρ with
   | .ok (l,ρ')=>∀ H' fps',KD M H fps H' fps'->Agr M ρ ρ'->Rep M ρ' σ H' fps'->R l H'
   | .exc c=>∀ H' fps',KD M H fps H' fps'->M.W σ c H'
   | .no=>False):tO M o σ H R:=by
 cases o with
 | none=>exact q H fps KD.refl Agr.refl rep
 | some p=>
  obtain ⟨f,vs⟩:=p
  refine ⟨ρ,fps,rep,?_⟩
  dsimp only [Option.map,evO] at q
  cases ef:f ρ with
  | no=>rw [ef] at q;exact q
  | exc c=>rw [ef] at q;exact q
  | ok p=>
   obtain ⟨x,d,ρ1⟩:=p
   rw [ef] at q
   intro v H1 fps1 f1 k1 g1 rep1 o1 t1
   dsimp only [Rz.bind] at q
   cases x with
   | int i=>rw [Own] at o1;exact ⟨i,o1.1,q H1 fps1 k1 g1 rep1⟩
   | _=>exact q.elim
theorem qk0 {lo hi:Option (Fx×List Nat)} (hv:∀ i∈vs,M.Ms i=false) (hK:M.K=X.K) {σ:St}{H:Hp}{Q:VK} (hq:tE M (bSl f (lo.map (·.1)) (hi.map (·.1))) vs σ H Q):tSl (λ x lo hi H Q=>rSlL X.K x lo hi H Q\/rSlT X.K x lo hi H Q) (tE M f vs) (tO M lo) (tO M hi) σ H Q:=by
 obtain ⟨ρ,fps,rep,q⟩:=hq
 refine ⟨ρ,fps,rep,?_⟩
 unfold bSl at q
 cases ef:f ρ with
 | no=>rw [ef] at q;exact q
 | exc c=>rw [ef] at q;exact q
 | ok p=>
  obtain ⟨x,d,ρ1⟩:=p
  rw [ef] at q
  intro v H1 fps1 f1 k1 g1 rep1 o1 t1
  dsimp only [Rz.bind] at q
  refine qd7 rep1 ?_
  cases el:evO (lo.map (·.1)) ρ1 with
  | no=>rw [el] at q;exact q
  | exc c=>rw [el] at q;exact λ H' fps' k=>q H' fps' (k1.trans k)
  | ok p2=>
   obtain ⟨l,ρ2⟩:=p2
   rw [el] at q
   intro H2 fps2 k2 g2 rep2
   refine qd7 rep2 ?_
   dsimp only at q
   cases eh:evO (hi.map (·.1)) ρ2 with
   | no=>rw [eh] at q;exact q
   | exc c=>rw [eh] at q;exact λ H' fps' k=>q H' fps' ((k1.trans k2).trans k)
   | ok p3=>
    obtain ⟨u,ρ3⟩:=p3
    rw [eh] at q
    intro H3 fps3 k3 g3 rep3
    dsimp only at q
    have kk:=k2.trans k3
    have o3:=kk.stay rep1 hv o1 t1.ndj
    have n3:∀ a∈f1,¬ Zf M fps3 a:=λ a ha z=>by
     rcases z with z | ⟨i,z⟩
     ·exact t1.ndj a ha (.inl z)
     ·rcases kk.sub i a z with z | z
      ·exact t1.ndj a ha (.inr ⟨i,z⟩)
      ·obtain ⟨xs,e⟩:=Own.lsts x d v f1 o1 a ha
       rw [z] at e;cases e
    have back:∀ a,H3 a=none->H a=none:=λ a e=>by
     cases e':H a with
     | none=>rfl
     | some o=>exact absurd e ((k1.trans kk).dom a (by rw [e'];simp))
    cases eo:opSl x l u with
    | none=>rw [eo] at q;exact q.elim
    | some zc=>
     obtain ⟨z,c⟩:=zc
     rw [eo] at q
     have lf:Leaf M H3 fps3 vs f1 z c Q:=λ w H4 fp k4 o4 hfp=>q w H4 fps3 fp ((k1.trans kk).trans (KD.grow k4)) (g1.trans (g2.trans g3)) (rep3.grow k4) o4 ⟨λ a ha=>(hfp a ha).elim (t1.new a) (back a),λ a ha=>(hfp a ha).elim (n3 a) λ z=>rep3.nz z⟩
     have c0:=cold o3 n3
     unfold opSl at eo
     cases x with
     | lst xs=>
      cases eo
      obtain ⟨p,ws,rfl,hp,ol⟩:=c0.coldL
      refine .inl ⟨p,ws,rfl,.inl (.inl hp),λ q hq=>?_⟩
      have e:OwnL M.K H3 (Zv M vs fps3) (cutP xs l u) 0 (cutV ws l u) []:=by
       unfold cutP cutV
       rw [ol.length]
       exact (ol.drop _).take _
      exact zwe lf e hq
     | tup xs=>
      dsimp only at eo
      split at eo
      ·cases eo
      ·rename_i hw
       cases eo
       obtain ⟨p,ws,rfl,hp,ol⟩:=c0.coldT
       refine .inr ⟨p,ws,rfl,.inl (.inl hp),by rw [ol.length];exact hw,λ q hq=>?_⟩
       have e:OwnL M.K H3 (Zv M vs fps3) (cutP xs l u) 0 (cutV ws l u) []:=by
        unfold cutP cutV
        rw [ol.length]
        exact (ol.drop _).take _
       exact zjw lf e hq
     | _=>cases eo
def zgb:PV->String
 | .non => "NoneType"
 | .bl _ => "bool"
 | .int _ => "int"
 | .str _ => "str"
 | .lst _ => "list"
 | .tup _ => "tuple"
 | .emp => "dict"
 | .dko => "dict"
 | .dct _ => "dict"
 | _ => ""
def isiB (t T:String):Bool:=t == T || (t == "bool" && T == "int")
def isiT:List String:=["int","bool","str","list","tuple","dict"]
def zjk (T:String) (x:PV) (_:Nat):Option (PV×Nat):=match x with
 | .scr _=>none
 | .exn _=>none
 | _=>some (.bl (isiB (zgb x) T),om)
theorem Own.ty {K:Frag}{Z:Addr->Prop}{x:PV}{d:Nat}{v:V}{fp:List Addr} (h:Own K H Z x d v fp) (hs:∀ ns,x≠.scr ns) (hx:∀ c,x≠.exn c):TyOf K H v (.type (zgb x)):=by
 cases x with
 | non=>rw [Own] at h;rw [h.1];exact .non
 | bl b=>rw [Own] at h;rw [h.1];exact .bl b
 | int i=>rw [Own] at h;rw [h.1];exact .int i
 | str s=>rw [Own] at h;rw [h.1];exact .str s
 | emp=>rw [Own] at h;obtain ⟨_,a,e,ha⟩:=h;rw [e];exact .dK ha
 | dko=>rw [Own] at h;obtain ⟨_,a,e,_,ha⟩:=h;rw [e];exact .dK ha
 | scr ns=>exact absurd rfl (hs ns)
 | exn c=>exact absurd rfl (hx c)
 | dct kvs=>
  rw [Own] at h
  obtain ⟨a,e,⟨_,hr,_⟩ | ⟨_,ha,_⟩⟩:=h
  ·rw [e];exact .dT hr.1
  ·rw [e];exact .dT ha
 | lst xs=>
  rw [Own] at h
  obtain ⟨a,ws,e,⟨_,hr,_,_⟩ | ⟨_,f,ha,_⟩⟩:=h
  ·rw [e];exact .lst hr.1
  ·rw [e];exact .lst ha
 | tup xs=>
  rw [Own] at h
  obtain ⟨a,ws,e,hr,_⟩:=h
  rw [e];exact .tup hr
end
section
variable {X:Cx}{M:Fm}{a b:Expr}{f g:Fx}{fa:Fa}{vs vs':List Nat}{pos p:Pos}{σ:St}{H:Hp}{Q:VK}{e:Expr}{es:List Expr}
theorem qoa:PA X [] (tL M aNil []):=qjw zpt λ σ H Q h=>qnv h
theorem qlk (hv:∀ i∈vs,M.Ms i=false) (ha:PE X e (tE M f vs)) (hr:PA X es (tL M fa vs')) (hs:va7 (e::es) X.env=(false,eval e X.env)::va7 es X.env):PA X (e::es) (tL M (zqa f fa) (vs++vs')):=
 qjw (zvc ha hr hs) λ σ H Q h=>qkz hv h
theorem zze {op:List (PV×Nat)->Option (PV×Nat)}{r:List V->Hp->VK->Prop}
  (leaf:∀ xs z c ws H fps fp Q,op xs=some (z,c)->Tmps M.K H (Zv M vs fps) xs ws fp->(∀ a∈fp,¬ Zf M fps a)->(∀ a,Zf M fps a->H a≠none)->Leaf M H fps vs fp z c Q->r ws H Q)
  {σ:St}{H:Hp}{Q:VK} (hq:tE M (zqd op fa) vs σ H Q):tCB r (tL M fa vs) σ H Q:=qah leaf hq
def zqy (xs:List (PV×Nat)):Option (PV×Nat):=if xs.length<=va8 then some (.lst (xs.map (·.1)),if zvv xs then om else 1) else none
def zxt (xs:List (PV×Nat)):Option (PV×Nat):=if xs.length<=va8 then some (.tup (xs.map (·.1)),if zvv xs then om else 0) else none
theorem qn3 (h:PA X es (tL M fa vs)):PE X (.List es pos) (tE M (zqd zqy fa) vs):=by
 refine zqv (qos h) λ σ H Q h=>qah (r:=λ xs H1 Q=>xs.length<=va8/\∀ p,H1 p=none->Q (.ref p) (upd H1 p (.lst xs))) (λ xs z c ws H fps fp Q ho tm nz zd lf=>?_) h
 unfold zqy at ho
 split at ho
 ·rename_i hl
  refine ⟨by rw [tm.length];exact hl,λ q hq=>?_⟩
  cases eo:zvv xs with
  | true=>rw [eo] at ho;cases ho;exact zma lf (tm.all (zkk eo)) hq
  | false=>rw [eo] at ho;cases ho;exact zbw lf (tm.cold λ a ha z=>nz a ha z.zf) hq
 ·cases ho
theorem qn0 {x1:_} (h:PA X es (tL M fa vs)):PE X (.Tuple es x1 pos) (tE M (zqd zxt fa) vs):=by
 refine zqv (qjt h) λ σ H Q h=>qah (r:=λ xs H1 Q=>xs.length<=va8/\∀ p,H1 p=none->Q (.ref p) (upd H1 p (.tup xs))) (λ xs z c ws H fps fp Q ho tm nz zd lf=>?_) h
 unfold zxt at ho
 split at ho
 ·rename_i hl
  refine ⟨by rw [tm.length];exact hl,λ q hq=>?_⟩
  cases eo:zvv xs with
  | true=>rw [eo] at ho;cases ho;exact qfp lf (tm.all (zkk eo)) hq
  | false=>rw [eo] at ho;cases ho;exact zjw lf (tm.cold λ a ha z=>nz a ha z.zf) hq
 ·cases ho
theorem qi7:CallR X (.builtin "isinstance") (λ xs H Q=>∃ x t T k,xs=[x,.ty T]/\TyOf X.K H x t/\vc4 X.K t (.type T)=some k/\Q (.bl k) H):=by
 intro pins s σ H xs us Q I r h
 obtain ⟨x,t,T,k,rfl,ty,hk,q⟩:=h
 obtain ⟨u,w,rfl,r1,r2⟩:=qdx r
 cases r2
 exact qfv I r1 ty hk λ tk=>⟨.bl k,H,I.tok _,rfl,q⟩
theorem qpe (K:Frag) {T:String} (hT:T∈isiT) (x:PV) (hs:∀ ns,x≠.scr ns) (hx:∀ c,x≠.exn c):vc4 K (.type (zgb x)) (.type T)=some (isiB (zgb x) T):=by
 simp only [isiT,ja6,jd2,or_false] at hT
 cases x with
 | scr ns=>exact absurd rfl (hs ns)
 | exn c=>exact absurd rfl (hx c)
 | _=>rcases hT with h | h | h | h | h | h <;> subst h <;> rfl
theorem qn5 {T:String}{x T':Str}{p1 p2:Pos} (hT:T∈isiT) (hK:M.K=X.K) (ha:PE X e (tE M f vs)) (hg:Gl X "isinstance") (hm:X.mg "isinstance" = none) (hT':PE X (.Name T' p2) (tC (.ty T)))
  (hs1:va7 [e,.Name T' p2] X.env=[(false,eval e X.env),(false,eval (.Name T' p2) X.env)]) (hs2:va7 [Expr.Name T' p2] X.env=[(false,eval (.Name T' p2) X.env)]):
  PE X (.Call (.Name "isinstance" p1) [e,.Name T' p2] [] pos) (tE M (bUn (zjk T) f) vs):=by
 refine zqv (zzg qi7 hg hm rfl (zvc ha (zvc hT' zpt hs2) (by rw [hs1,hs2])) (he:=by rw [hs1,hs2]) (hpl:=by rw [hs2];rfl)) λ σ H Q h=>?_
 refine qc8 (r:=λ v H Q=>∃ x t T' k,[v,.ty T]=[x,.ty T']/\TyOf X.K H x t/\vc4 X.K t (.type T')=some k/\Q (.bl k) H) (λ x d z c v H fps f1 Q ho o1 nz zd lf=>?_) h
 have hs:∀ ns,x≠.scr ns:=λ ns e=>by subst e;cases ho
 have hx:∀ c,x≠.exn c:=λ c e=>by subst e;cases ho
 have e2:z=.bl (isiB (zgb x) T):=by
  cases x with
  | scr ns=>cases ho
  | exn c=>cases ho
  | _=>cases ho;rfl
 subst e2
 exact ⟨v,_,T,_,rfl,by rw [<- hK];exact o1.ty hs hx,qpe X.K hT x hs hx,zws lf⟩
def zwh:List (PV×Nat)->Option (PV×Nat)
 | [(.lst xs,_)]=>some (.int xs.length,om)
 | [(.tup xs,_)]=>some (.int xs.length,om)
 | [(.scr ns,_)]=>some (.int ns.length,om)
 | [(.str z,_)]=>if z.length<=va8 then some (.int z.length,om) else none
 | _=>none
theorem qn4 (hK:M.K=X.K) (hg:Gl X "len") (hm:X.mg "len" = none) (ha:PA X (e::es) (tL M fa vs)) (he:va7 (e::es) X.env=(false,eval e X.env)::va7 es X.env) (hpl:(vg1 pos (va7 es X.env)).any (·.1)=false):
  PE X (.Call (.Name "len" p) (e::es) [] pos) (tE M (zqd zwh fa) vs):=by
 refine zqv (zzg (zhw.or zhv) hg hm PySem.boot_len ha (he:=he) (hpl:=hpl)) λ σ H Q h=>zze (λ xs z c ws H fps fp Q ho tm nz zd lf=>?_) h
 unfold zwh at ho
 split at ho
 ·rename_i xs d
  cases ho
  obtain ⟨v,r,f1,f2,rfl,_,_,o1,h2⟩:=tm
  obtain ⟨rfl,_⟩:=h2
  obtain ⟨q,us,rfl,hs,hl⟩:=o1.seqL
  exact .inl ⟨q,us,rfl,.inl (by rw [<- hK];exact hs),by rw [hl];exact zxh lf⟩
 ·rename_i xs d
  cases ho
  obtain ⟨v,r,f1,f2,rfl,_,_,o1,h2⟩:=tm
  obtain ⟨rfl,_⟩:=h2
  obtain ⟨q,us,rfl,hs,hl⟩:=o1.seqT
  exact .inl ⟨q,us,rfl,.inr (by rw [<- hK];exact hs),by rw [hl];exact zxh lf⟩
 ·rename_i ns d
  cases ho
  obtain ⟨v,r,f1,f2,rfl,_,_,o1,h2⟩:=tm
  obtain ⟨rfl,_⟩:=h2
  rw [Own] at o1
  obtain ⟨_,q,rfl,hp⟩:=o1
  refine .inl ⟨q,ns.map V.int,rfl,.inl ?_,by rw [ja3];exact zxh lf⟩
  rw [<- hK]
  exact hp.elim (λ h=>.inl (.inr h)) .inr
 ·rename_i z d
  split at ho
  ·rename_i hl
   cases ho
   obtain ⟨v,r,f1,f2,rfl,_,_,o1,h2⟩:=tm
   obtain ⟨rfl,_⟩:=h2
   rw [Own] at o1
   obtain ⟨rfl,_⟩:=o1
   exact .inr ⟨_,rfl,hl,zxh lf⟩
  ·cases ho
 ·cases ho
def op2 (k:Int->Int->Int):List (PV×Nat)->Option (PV×Nat)
 | [(.int i,_),(.int j,_)]=>some (.int (k i j),om)
 | _=>none
theorem qb7 {k:Int->Int->Int}{xs:List (PV×Nat)}{z:PV}{c:Nat}{ws:List V}{fps:Fps}{fp F:List Addr}{Z:Addr->Prop} (ho:op2 k xs=some (z,c)) (tm:Tmps M.K H Z xs ws fp) (lf:Leaf M H fps vs F z c Q):∃ i j,ws=[.int i,.int j]/\Q (.int (k i j)) H:=by
 unfold op2 at ho
 split at ho
 ·rename_i i d j e
  cases ho
  obtain ⟨v,r,f1,f2,rfl,_,_,o1,h2⟩:=tm
  obtain ⟨v2,r2,f3,f4,rfl,_,_,o2,h3⟩:=h2
  obtain ⟨rfl,_⟩:=h3
  rw [Own] at o1 o2
  obtain ⟨rfl,_⟩:=o1
  obtain ⟨rfl,_⟩:=o2
  exact ⟨_,_,rfl,zxh lf⟩
 ·cases ho
def qe9:List (PV×Nat)->Option (PV×Nat)
 | [(.lst xs,_)]=>some (.tup xs,0)
 | [(.tup xs,_)]=>some (.tup xs,0)
 | _=>none
def zzn:List (PV×Nat)->Option (PV×Nat)
 | [(.lst xs,_)]=>some (.lst xs,d1 xs)
 | [(.tup xs,_)]=>some (.lst xs,d1 xs)
 | _=>none
theorem qlb (hK:M.K=X.K) (hg:Gl X "tuple") (hm:X.mg "tuple" = none) (ha:PA X (e::es) (tL M fa vs)) (he:va7 (e::es) X.env=(false,eval e X.env)::va7 es X.env) (hpl:(vg1 pos (va7 es X.env)).any (·.1)=false):
  PE X (.Call (.Name "tuple" p) (e::es) [] pos) (tE M (zqd qe9 fa) vs):=by
 refine zqv (zbn zfs hg hm rfl ha (he:=he) (hpl:=hpl)) λ σ H Q h=>zze (λ xs z c ws H fps fp Q ho tm nz zd lf=>?_) h
 unfold qe9 at ho
 split at ho
 ·rename_i xs d
  cases ho
  obtain ⟨v,r,f1,f2,rfl,rfl,_,o1,h2⟩:=tm
  obtain ⟨rfl,rfl⟩:=h2
  obtain ⟨q,us,rfl,hs,ol⟩:=(cold (fp:=f1) o1 λ a ha=>nz a (jb0 _ ha)).coldL
  exact ⟨q,us,rfl,.inl ⟨.inl (.inl hs),λ l hl=>zjw lf ol hl⟩⟩
 ·rename_i xs d
  cases ho
  obtain ⟨v,r,f1,f2,rfl,rfl,_,o1,h2⟩:=tm
  obtain ⟨rfl,rfl⟩:=h2
  have c0:=cold (fp:=f1) o1 λ a ha=>nz a (jb0 _ ha)
  obtain ⟨q,us,rfl,hs,ol⟩:=c0.coldT
  exact ⟨q,us,rfl,.inr ⟨.inl (.inl hs),zkh (x:=.tup xs) lf c0⟩⟩
 ·cases ho
theorem qlg (hK:M.K=X.K) (hg:Gl X "list") (hm:X.mg "list" = none) (ha:PA X (e::es) (tL M fa vs)) (he:va7 (e::es) X.env=(false,eval e X.env)::va7 es X.env) (hpl:(vg1 pos (va7 es X.env)).any (·.1)=false):
  PE X (.Call (.Name "list" p) (e::es) [] pos) (tE M (zqd zzn fa) vs):=by
 refine zqv (zbn zhu hg hm rfl ha (he:=he) (hpl:=hpl)) λ σ H Q h=>zze (λ xs z c ws H fps fp Q ho tm nz zd lf=>?_) h
 unfold zzn at ho
 split at ho
 ·rename_i xs d
  cases ho
  obtain ⟨v,r,f1,f2,rfl,rfl,_,o1,h2⟩:=tm
  obtain ⟨rfl,rfl⟩:=h2
  obtain ⟨q,us,rfl,hs,ol⟩:=(cold (fp:=f1) o1 λ a ha=>nz a (jb0 _ ha)).coldL
  exact ⟨q,us,rfl,.inl (.inl (.inl hs)),λ l hl=>zwe lf ol hl⟩
 ·rename_i xs d
  cases ho
  obtain ⟨v,r,f1,f2,rfl,rfl,_,o1,h2⟩:=tm
  obtain ⟨rfl,rfl⟩:=h2
  obtain ⟨q,us,rfl,hs,ol⟩:=(cold (fp:=f1) o1 λ a ha=>nz a (jb0 _ ha)).coldT
  exact ⟨q,us,rfl,.inr (.inl (.inl hs)),λ l hl=>zwe lf ol hl⟩
 ·cases ho
end
section
variable {X:Cx}{M:Fm}{a b:Expr}{f g:Fx}{fa:Fa}{vs vs':List Nat}{pos p:Pos}{σ:St}{H:Hp}{Q:VK}{e:Expr}{es:List Expr}
theorem qi8 (hc:X.calm=true):CallR X (.builtin "all") (λ xs H Q=>∃ (p:Addr) (bs:List Bool),xs=[.ref p]/\SqL X.K H p (bs.map V.bl)/\Q (.bl (bs.all id)) H):=by
 intro pins s σ H xs us Q I r h
 obtain ⟨p,bs,rfl,hq,q⟩:=h
 obtain ⟨u,rfl,rx⟩:=zyo r
 cases rx
 obtain ⟨its,rv,pl,hz⟩:=I.list hq
 have hl:=rv.length
 rw [ja3] at hl
 refine call_all_walk (wpAny_pyIter_list pl.isList ?_)
 have hlt:p < s.heap.objs.size:=by obtain ⟨o,n,e,_⟩:=pl;exact va4 e
 have hne:p≠s.heap.objs.size:=jc6 hlt
 refine ⟨s.heap.objs.size,_,_,its.toArray.size,_,_,λ i=>bs.getD i true,rfl,Walks.list (A:=X.A.in1) (show X.A.in1.handled=none from I.ok.hd hc) s.heap.objs.size p hne its.toArray,⟨⟨_,va6 _ rfl,rfl,rfl⟩,?_⟩,?_,λ h' tk k=>?_⟩
 ·exact pl.isList.at λ o e=>va1 _ e
 ·intro i v s' Q' E' hv hq'
  have hv':its[i]?=some v:=by simpa using hv
  have hi:i < bs.length:=by rw [hl];exact (jb3.mp hv').1
  obtain ⟨w,e1,e2⟩:=rv.get (i:=i) (x:=.bl bs[i]) (by simp [hi])
  rw [hv'] at e1
  cases e1
  cases e2
  refine vc8 ?_
  have:bs.getD i true=bs[i]:=by simp [jp3,hi]
  dsimp only at hq'
  rw [this] at hq'
  exact hq'
 ·have I1:L2.Inv X pins σ H { s with heap:=s.heap.push { cls:=.type "list_iterator",data:=.fields #[.ref p,vm2 0] } }:=I.kept (t':=s.toks) λ b o e=>va1 _ e
  obtain ⟨f0,f1,f2,f3,f4,f5⟩:=I.fpOk (H':=H) (jb2 s.heap.objs.size) (I.hok.fresh (jb2 _))
  have I2:L2.Inv X pins σ H { s with heap:=h',toks:=tk }:=I1.turned (t':=tk) (λ b o hb e=>k b o (by simpa using hb) e) f0 f1 f3 f4 f5
  refine ⟨.bl _,H,I2,rfl,?_⟩
  have e:(ja2 its.toArray.size).all (λ i=>bs.getD i true)=bs.all id:=by
   rw [jc0,<- hl]
   rw [je2]
   simp only [jb8,jb9,id]
   constructor
   ·intro h x hx
    obtain ⟨i,hi,rfl⟩:=jh6 hx
    have:=h i hi
    simpa [jp3,hi] using this
   ·intro h i hi
    simp [jp3,hi]
    exact h _ (je4 hi)
  rw [e]
  exact q
def allB:List PV->Option (List Bool)
 | []=>some []
 | .bl b::r=>(allB r).map (b::·)
 | _=>none
def zpl:List (PV×Nat)->Option (PV×Nat)
 | [(.lst xs,_)]=>(allB xs).map λ bs=>(.bl (bs.all id),om)
 | _=>none
theorem qc2 {K:Frag}{Z:Addr->Prop}:∀ {xs:List PV}{ws:List V}{bs:List Bool},allB xs=some bs->OwnL K H Z xs 0 ws []->ws=bs.map V.bl
 | [],ws,bs,e,h=>by cases e;rw [OwnL] at h;exact h.1
 | .bl b::r,ws,bs,e,h=>by
  obtain ⟨bs',e1,rfl⟩:=jc5.mp e
  rw [OwnL] at h
  obtain ⟨v,s,f1,f2,rfl,ef,dj,h1,h2⟩:=h
  obtain ⟨rfl,rfl⟩:f1=[]/\f2=[]:=by simpa using ef.symm
  rw [Own] at h1
  rw [h1.1,qc2 e1 h2]
  rfl
 | .non::_,_,_,e,_=>by cases e
 | .int _::_,_,_,e,_=>by cases e
 | .str _::_,_,_,e,_=>by cases e
 | .lst _::_,_,_,e,_=>by cases e
 | .tup _::_,_,_,e,_=>by cases e
 | .emp::_,_,_,e,_=>by cases e
 | .dko::_,_,_,e,_=>by cases e
 | .scr _::_,_,_,e,_=>by cases e
 | .dct _::_,_,_,e,_=>by cases e
 | .exn _::_,_,_,e,_=>by cases e
theorem qn8 (hc:X.calm=true) (hg:Gl X "all") (hm:X.mg "all" = none) (ha:PA X (e::es) (tL M fa vs)) (he:va7 (e::es) X.env=(false,eval e X.env)::va7 es X.env) (hpl:(vg1 pos (va7 es X.env)).any (·.1)=false):
  PE X (.Call (.Name "all" p) (e::es) [] pos) (tE M (zqd zpl fa) vs):=by
 refine zqv (zzg (qi8 hc) hg hm rfl ha (he:=he) (hpl:=hpl)) λ σ H Q h=>zze (λ xs z c ws H fps fp Q ho tm nz zd lf=>?_) h
 unfold zpl at ho
 split at ho
 ·rename_i xs d
  obtain ⟨bs,eb,e2⟩:=jc5.mp ho
  cases e2
  obtain ⟨v,r,f1,f2,rfl,rfl,_,o1,h2⟩:=tm
  obtain ⟨rfl,rfl⟩:=h2
  obtain ⟨q,us,rfl,hs,ol⟩:=(cold (fp:=f1) o1 λ a ha=>nz a (jb0 _ ha)).coldL
  have:=qc2 eb ol
  subst this
  exact ⟨q,bs,rfl,.inl (.inl hs),zws lf⟩
 ·cases ho
def zkr:List PV->Option (List Int)
 | []=>some []
 | .int i::r=>(zkr r).map (i::·)
 | _=>none
theorem zzi {K:Frag}{Z:Addr->Prop}:∀ {xs:List PV}{ws:List V}{ns:List Int},zkr xs=some ns->OwnL K H Z xs 0 ws []->ws=ns.map V.int
 | [],ws,ns,e,h=>by cases e;rw [OwnL] at h;exact h.1
 | .int b::r,ws,ns,e,h=>by
  obtain ⟨ns',e1,rfl⟩:=jc5.mp e
  rw [OwnL] at h
  obtain ⟨v,s,f1,f2,rfl,ef,dj,h1,h2⟩:=h
  obtain ⟨rfl,rfl⟩:f1=[]/\f2=[]:=by simpa using ef.symm
  rw [Own] at h1
  rw [h1.1,zzi e1 h2]
  rfl
 | .non::_,_,_,e,_=>by cases e
 | .bl _::_,_,_,e,_=>by cases e
 | .str _::_,_,_,e,_=>by cases e
 | .lst _::_,_,_,e,_=>by cases e
 | .tup _::_,_,_,e,_=>by cases e
 | .emp::_,_,_,e,_=>by cases e
 | .dko::_,_,_,e,_=>by cases e
 | .scr _::_,_,_,e,_=>by cases e
 | .dct _::_,_,_,e,_=>by cases e
 | .exn _::_,_,_,e,_=>by cases e
theorem zvj:∀ {ns:List Int}{its:List va2},Vals (ns.map V.int) its->∃ xs:List (Int×Tok),its=xs.map (λ p=>Value.int p.1 p.2)/\xs.map (·.1)=ns
 | [],its,h=>by cases h;exact ⟨[],rfl,rfl⟩
 | n::ns,its,h=>by
  cases h with
  | cons r rr=>
   obtain ⟨t,rfl⟩:=r
   obtain ⟨xs,rfl,rfl⟩:=zvj rr
   exact ⟨(n,t)::xs,rfl,rfl⟩
theorem qgu (hc:X.calm=true):CallR X (.builtin "min") (λ xs H Q=>∃ (p:Addr) (ns:List Int),xs=[.ref p]/\SqL X.K H p (ns.map V.int)/\ns≠[]/\∀ m,m∈ns->(∀ a∈ns,m<=a)->Q (.int m) H):=by
 intro pins s σ H xs us Q I r h
 obtain ⟨p,ns,rfl,hq,hn,q⟩:=h
 obtain ⟨u,rfl,rx⟩:=zyo r
 cases rx
 obtain ⟨its,rv,pl,hz⟩:=I.list hq
 obtain ⟨zs,rfl,rfl⟩:=zvj rv
 have e:(zs.map λ p=>Value.int p.1 p.2).toArray=vf9 zs.toArray:=by simp [vf9]
 rw [e] at pl
 have h0:0 < zs.length:=by
  cases zs with
  | nil=>exact absurd rfl hn
  | cons _ _=>simp
 refine min_intList (I.ok.hd hc) pl.isList (by simpa using h0) λ v h' tk hv k=>?_
 obtain ⟨l1,l2⟩:=argBest_lt (vh4 zs.toArray) (zs.toArray.size - 1)
 have hv':=hv
 obtain ⟨t,rfl⟩:=vm6 hv
 have at':∀ j,j < zs.length->vh4 zs.toArray j∈zs.map (·.1):=λ j hj=>by
  unfold vh4
  simp [hj]
  exact ⟨_,je4 hj⟩
 refine ⟨.int _,H,I.kept (t':=tk) k,⟨t,rfl⟩,q _ (at' _ ?_) λ a ha=>?_⟩
 ·have:zs.toArray.size=zs.length:=by simp
  omega
 ·obtain ⟨z,hz,rfl⟩:=je3.mp ha
  obtain ⟨j,hj,rfl⟩:=jh6 hz
  have hzs:zs.toArray.size=zs.length:=by simp
  have:=l2 j (by omega)
  have e:vh4 zs.toArray j=zs[j].1:=by unfold vh4;simp [hj]
  rw [e] at this
  exact this
theorem qdi {prog:vb0}{w:vc1}{A:vc0}{E:va2->va3->Prop}{s:va3}{l:Addr}{xs:Array (Int×Tok)}{Q:va2->va3->Prop} (hh:A.handled=none) (hl:s.heap.IsTuple l (vf9 xs)) (hne:0 < xs.size)
  (h:∀ v h' tk,(vf9 xs)[argBest (λ i j=>decide (vh4 xs i < vh4 xs j)) (xs.size - 1)]?=some v->(∀ b o,s.heap.get? b=some o->h'.get? b=some o)->Q v { s with heap:=h',toks:=tk }):
  vb3 (vb4 prog w) A (call (.builtin "min") [.ref l]) Q E s:=by
 have hlt:l < s.heap.objs.size:=by obtain ⟨_,e,_⟩:=hl;exact va4 e
 refine call_min_walk (vh5 hl ?_)
 refine ⟨_,[_,l],[_],_,_,_,_,rfl,Walks.tuple (A:=A.in1) hh _ l (jc6 hlt) (vf9 xs),⟨⟨_,va6 _ rfl,rfl,rfl⟩,hl.push _⟩,λ c hc=>?_,by simpa [vf9] using hne,CmpOf.ints_lt (vh4 xs) (λ _ _=>vm6),λ v h' tk hP hk=>?_⟩
 ·show c < (s.heap.push _).objs.size
  rw [vd1]
  rcases ja6.mp hc with rfl | hc
  ·exact jg7 _
  ·rcases ja6.mp hc with rfl | hc
   ·exact jg0 hlt
   ·cases hc
 ·exact h v h' tk (by simpa [vf9] using hP) λ c o e=>by
   refine hk c o (λ hm=>?_) (va1 _ e)
   rcases ja6.mp hm with e1 | hm
   ·exact absurd (e1 ▸ va4 e) (jf6 _)
   ·cases hm
theorem qgt (hc:X.calm=true):CallR X (.builtin "min") (λ xs H Q=>∃ (p:Addr) (ns:List Int),xs=[.ref p]/\SqT X.K H p (ns.map V.int)/\ns≠[]/\∀ m,m∈ns->(∀ a∈ns,m<=a)->Q (.int m) H):=by
 intro pins s σ H xs us Q I r h
 obtain ⟨p,ns,rfl,hq,hn,q⟩:=h
 obtain ⟨u,rfl,rx⟩:=zyo r
 cases rx
 obtain ⟨its,rv,pl,hz⟩:=I.tuple hq
 obtain ⟨zs,rfl,rfl⟩:=zvj rv
 have e:(zs.map λ p=>Value.int p.1 p.2).toArray=vf9 zs.toArray:=by simp [vf9]
 rw [e] at pl
 have h0:0 < zs.length:=by
  cases zs with
  | nil=>exact absurd rfl hn
  | cons _ _=>simp
 refine qdi (I.ok.hd hc) pl (by simpa using h0) λ v h' tk hv k=>?_
 obtain ⟨l1,l2⟩:=argBest_lt (vh4 zs.toArray) (zs.toArray.size - 1)
 have hv':=hv
 obtain ⟨t,rfl⟩:=vm6 hv
 have at':∀ j,j < zs.length->vh4 zs.toArray j∈zs.map (·.1):=λ j hj=>by
  unfold vh4
  simp [hj]
  exact ⟨_,je4 hj⟩
 refine ⟨.int _,H,I.kept (t':=tk) k,⟨t,rfl⟩,q _ (at' _ ?_) λ a ha=>?_⟩
 ·have:zs.toArray.size=zs.length:=by simp
  omega
 ·obtain ⟨z,hz,rfl⟩:=je3.mp ha
  obtain ⟨j,hj,rfl⟩:=jh6 hz
  have hzs:zs.toArray.size=zs.length:=by simp
  have:=l2 j (by omega)
  have e:vh4 zs.toArray j=zs[j].1:=by unfold vh4;simp [hj]
  rw [e] at this
  exact this
def qk9 (ns:List Int):Bool:=decide (ns.length<=2 ^ 20) && ns.all λ i=>decide (-(2 ^ 40)<=i) && decide (i<=2 ^ 40)
theorem qec {ns:List Int} (h:∀ i∈ns,-(2 ^ 40)<=i/\i<=2 ^ 40):∀ j:Nat,-(2 ^ 40) * (j:Int)<=(ns.take j).sum/\(ns.take j).sum<=2 ^ 40 * (j:Int):=by
 induction ns with
 | nil=>intro j;rw [jp2,jq7];omega
 | cons n ns ih=>
  intro j
  cases j with
  | zero=>rw [jk6,jq7];omega
  | succ j=>
   have:=ih (λ i hi=>h i (ja1 _ hi)) j
   have hn:=h n ja4
   rw [jl6,jl4]
   omega
theorem qgr (hc:X.calm=true):CallR X (.builtin "sum") (λ xs H Q=>∃ (p:Addr) (ns:List Int),xs=[.ref p]/\SqL X.K H p (ns.map V.int)/\qk9 ns=true/\Q (.int ns.sum) H):=by
 intro pins s σ H xs us Q I r h
 obtain ⟨p,ns,rfl,hq,hn,q⟩:=h
 obtain ⟨u,rfl,rx⟩:=zyo r
 cases rx
 obtain ⟨its,rv,pl,hz⟩:=I.list hq
 obtain ⟨zs,rfl,rfl⟩:=zvj rv
 have e:(zs.map λ p=>Value.int p.1 p.2).toArray=vf9 zs.toArray:=by simp [vf9]
 rw [e] at pl
 unfold qk9 at hn
 rw [ja5] at hn
 have hl:(zs.map (·.1)).length<=2 ^ 20:=by simpa using hn.1
 have hb:∀ i∈zs.map (·.1),-(2 ^ 40)<=i/\i<=2 ^ 40:=λ i hi=>by
  have:=jb8.mp hn.2 i hi
  rw [ja5] at this
  exact ⟨of_decide_eq_true this.1,of_decide_eq_true this.2⟩
 have sz:zs.toArray.size=zs.length:=by simp
 rw [ja3] at hl
 have pre:∀ j,preSum (vh4 zs.toArray) j=((zs.map (·.1)).take j).sum:=λ j=>by
  rw [preSum_eq]
 refine sum_intList (I.ok.hd hc) pl.isList (λ j hj=>⟨?_,?_⟩) λ h' tk t' k=>⟨.int _,H,I.kept (t':=tk) k,⟨t',rfl⟩,?_⟩
 ·have e1:vh4 zs.toArray j=zs[j].1:=by unfold vh4;simp [show j < zs.length by omega]
  have:=hb (zs[j]'(by omega)).1 (je3.mpr ⟨_,je4 _,rfl⟩)
  rw [e1]
  unfold InLong
  omega
 ·have:=qec hb (j + 1)
  rw [pre]
  unfold InLong
  omega
 ·rw [pre,sz]
  have:((zs.map (·.1)).take zs.length)=zs.map (·.1):=by
   rw [jn7];simp
  rw [this]
  exact q
def minI:Int->List Int->Int
 | n,[]=>n
 | n,m::r=>minI (if m < n then m else n) r
theorem zff:∀ (r:List Int) (n:Int),minI n r∈n::r
 | [],n=>ja4
 | m::r,n=>by
  unfold minI
  have:=zff r (if m < n then m else n)
  rcases ja6.mp this with h | h
  ·rw [h]
   split
   ·exact ja1 _ ja4
   ·exact ja4
  ·exact ja1 _ (ja1 _ h)
theorem minI_le:∀ (r:List Int) (n:Int),∀ a∈n::r,minI n r<=a
 | [],n,a,h=>by
  have:a=n:=by simpa using h
  rw [this];exact ji6 _
 | m::r,n,a,h=>by
  unfold minI
  have ih:=minI_le r (if m < n then m else n)
  have h1:=ih _ ja4
  have h2:(if m < n then m else n)<=n/\(if m < n then m else n)<=m:=by split <;> omega
  rcases ja6.mp h with e | h
  ·rw [e];omega
  ·rcases ja6.mp h with e | h
   ·rw [e];omega
   ·exact ih a (ja1 _ h)
theorem zpw {ns:List Int}{m m':Int} (h1:m∈ns) (h2:∀ a∈ns,m<=a) (h3:m'∈ns) (h4:∀ a∈ns,m'<=a):m=m':=by
 have:=h2 m' h3
 have:=h4 m h1
 omega
def zyu:List (PV×Nat)->Option (PV×Nat)
 | [(.lst xs,_)]=>match zkr xs with
  | some (n::r)=>some (.int (minI n r),om)
  | _=>none
 | [(.tup xs,_)]=>match zkr xs with
  | some (n::r)=>some (.int (minI n r),om)
  | _=>none
 | xs=>op2 (λ i j=>if j < i then j else i) xs
def ql4:List (PV×Nat)->Option (PV×Nat)
 | [(.lst xs,_)]=>match zkr xs with
  | some ns=>if qk9 ns=true then some (.int ns.sum,om) else none
  | none=>none
 | _=>none
theorem qle (hc:X.calm=true) (hg:Gl X "min") (hm:X.mg "min" = none) (ha:PA X (e::es) (tL M fa vs)) (he:va7 (e::es) X.env=(false,eval e X.env)::va7 es X.env) (hpl:(vg1 pos (va7 es X.env)).any (·.1)=false):
  PE X (.Call (.Name "min" p) (e::es) [] pos) (tE M (zqd zyu fa) vs):=by
 refine zqv (zzg (((qgv hc).or (qgu hc)).or (qgt hc)) hg hm rfl ha (he:=he) (hpl:=hpl)) λ σ H Q h=>zze (λ xs z c ws H fps fp Q ho tm nz zd lf=>?_) h
 unfold zyu at ho
 split at ho
 ·rename_i xs d
  split at ho
  ·rename_i n r eb
   cases ho
   obtain ⟨v,r',f1,f2,rfl,rfl,_,o1,h2⟩:=tm
   obtain ⟨rfl,rfl⟩:=h2
   obtain ⟨q,us,rfl,hs,ol⟩:=(cold (fp:=f1) o1 λ a ha=>nz a (jb0 _ ha)).coldL
   have:=zzi eb ol
   subst this
   refine .inl (.inr ⟨q,n::r,rfl,.inl (.inl hs),by simp,λ m h1 h2=>?_⟩)
   rw [zpw h1 h2 (zff r n) (minI_le r n)]
   exact zxh lf
  ·cases ho
 ·rename_i xs d
  split at ho
  ·rename_i n r eb
   cases ho
   obtain ⟨v,r',f1,f2,rfl,rfl,_,o1,h2⟩:=tm
   obtain ⟨rfl,rfl⟩:=h2
   obtain ⟨q,us,rfl,hs,ol⟩:=(cold (fp:=f1) o1 λ a ha=>nz a (jb0 _ ha)).coldT
   have:=zzi eb ol
   subst this
   refine .inr ⟨q,n::r,rfl,.inl (.inl hs),by simp,λ m h1 h2=>?_⟩
   rw [zpw h1 h2 (zff r n) (minI_le r n)]
   exact zxh lf
  ·cases ho
 ·exact .inl (.inl (qb7 ho tm lf))
theorem qlc (hc:X.calm=true) (hg:Gl X "sum") (hm:X.mg "sum" = none) (ha:PA X (e::es) (tL M fa vs)) (he:va7 (e::es) X.env=(false,eval e X.env)::va7 es X.env) (hpl:(vg1 pos (va7 es X.env)).any (·.1)=false):
  PE X (.Call (.Name "sum" p) (e::es) [] pos) (tE M (zqd ql4 fa) vs):=by
 refine zqv (zzg (qgr hc) hg hm rfl ha (he:=he) (hpl:=hpl)) λ σ H Q h=>zze (λ xs z c ws H fps fp Q ho tm nz zd lf=>?_) h
 unfold ql4 at ho
 split at ho
 ·rename_i xs d
  split at ho
  ·rename_i ns eb
   split at ho
   ·rename_i hk
    cases ho
    obtain ⟨v,r',f1,f2,rfl,rfl,_,o1,h2⟩:=tm
    obtain ⟨rfl,rfl⟩:=h2
    obtain ⟨q,us,rfl,hs,ol⟩:=(cold (fp:=f1) o1 λ a ha=>nz a (jb0 _ ha)).coldL
    have:=zzi eb ol
    subst this
    exact ⟨q,ns,rfl,.inl (.inl hs),hk,zxh lf⟩
   ·cases ho
  ·cases ho
 ·cases ho
abbrev Fn:=List PV->Rz (PV×Nat×PV)
def spF (K:Frag) (io:Bool) (n:Nat) (F:Fn):Sp:=λ ws H Q E=>ws.length=n/\∃ (xs:List PV) (Zo:Addr->Prop) (x0:PV) (v0:V) (fp0:List Addr),
 (∀ a,Zo a->H a≠none)/\(∀ a∈fp0,¬ Zo a)/\(io=false->fp0=[]/\OwnL K H Zo xs 0 ws []) /\
 (io=true->∃ xr wr,xs=x0::xr/\ws=v0::wr/\Own K H (λ _=>True) x0 om v0 fp0/\OwnL K H (λ a=>Zo a\/a∈fp0) xr 0 wr []) /\
 (match F xs with
  | .ok (y,d,z0)=>∀ v H' fp fp0',Keep (λ a=>a∈fp0) H H'->(∀ a,H a≠none->H' a≠none)->(∀ a∈fp0',a∈fp0\/H a=none)->(∀ a∈fp0',¬ Zo a)->(io=false->fp0'=[])->(io=true->Own K H' (λ _=>True) z0 om v0 fp0') ->
    Own K H' (λ a=>(Zo a\/a∈fp0')\/a∈fp) y d v fp->(∀ a∈fp,H a=none/\¬ (Zo a\/a∈fp0'))->Q v H'
  | .exc c=>∀ H',Keep (λ a=>a∈fp0) H H'->(∀ a,H a≠none->H' a≠none)->E (.int (c:Int) 0) none H'
  | .no=>False)
def zqe (F:Fn) (fa:Fa):Fx:=λ ρ=>(fa ρ).bind λ (xs,ρ1)=>match F (xs.map (·.1)) with
 | .ok (y,d,_)=>.ok (y,d,ρ1)
 | .exc c=>.exc c
 | .no=>.no
theorem qk2 {F:Fn}{n:Nat} (hF:∀ xs,xs.length≠n->F xs=.no) {σ:St}{H:Hp}{Q:VK} (hq:tE M (zqe F fa) vs σ H Q):qjl (spF M.K false n F) M.W (tL M fa vs) σ H Q:=by
 obtain ⟨ρ,fps,rep,q⟩:=hq
 refine ⟨ρ,fps,rep,?_⟩
 unfold zqe at q
 cases ef:fa ρ with
 | no=>rw [ef] at q;exact q
 | exc c=>rw [ef] at q;exact q
 | ok p=>
  obtain ⟨xs,ρ1⟩:=p
  rw [ef] at q
  intro ws H1 fps1 f1 k1 g1 rep1 o1 t1
  dsimp only [Rz.bind] at q
  have back:∀ a,H1 a=none->H a=none:=λ a e=>by
   cases e':H a with
   | none=>rfl
   | some o=>exact absurd e (k1.dom a (by rw [e'];simp))
  show spF M.K false n F ws H1 Q (XEof (M.W σ))
  have hlen:xs.length=n:=by
   by_cases e:xs.length=n
   ·exact e
   ·rw [hF (xs.map (·.1)) (by rw [ja3];exact e)] at q;exact q.elim
  refine ⟨by rw [o1.length,hlen],xs.map (·.1),Zv M vs fps1,.non,.non,[],λ a z=>rep1.zdom z.zf,λ _ z=>(nomatch z),λ _=>⟨rfl,o1.cold λ a ha z=>t1.ndj a ha z.zf⟩,(λ h=>nomatch h),?_⟩
  cases eF:F (xs.map (·.1)) with
  | no=>rw [eF] at q;exact q
  | exc c=>
   rw [eF] at q
   exact λ H' kp _=>q H' fps1 (k1.trans (KD.grow λ a o h=>kp a o h λ z=>nomatch z))
  | ok r=>
   obtain ⟨y,d,z0⟩:=r
   rw [eF] at q
   intro v H' fp fp0' kp dm _ _ h0 _ oy hf
   have e0:=h0 rfl
   subst e0
   have kk:∀ a o,H1 a=some o->H' a=some o:=λ a o h=>kp a o h λ z=>nomatch z
   refine q v H' fps1 fp (k1.trans (KD.grow kk)) g1 (rep1.grow kk) (oy.weak λ a h=>h.elim (λ h=>.inl (.inl h)) .inr) ⟨λ a ha=>back a (hf a ha).1,λ a ha=>rep1.nz (hf a ha).1⟩
end
section
variable {prog:vb0}{w:vc1}{A:vc0}{E:va2->va3->Prop}{s:va3}
theorem qfd {p q:Addr}{n:Nat}{us:Array va2}{u:va2}{Q:va2->va3->Prop} (st:s.heap.IsTupleIter p q n) (ht:s.heap.IsTuple q us) (hu:us[n]?=some u) (hQ:∀ h',h'.IsTupleIter p q (n + 1)->vl7 p s.heap h'->Q u { s with heap:=h' }):
  vb3 (vb4 prog w) A (vb8 (.ref p)) Q E s:=by
 obtain ⟨ob,eb,cb,db⟩:=id st
 obtain ⟨ot,et,_,nt,dt⟩:=ht
 unfold vb8;refine va0 (ve7 (name:=vj1 "__next__") st.typeIs vf2 (vd7 vf2 st.typeIs vn6 ?_ (vm0 _)))
 show vb3 _ _ (field (.ref p) 0 >>= _) _ _ s
 refine va0 (vc9 eb db (x:=.ref q) rfl ?_)
 show vb3 _ _ (if (Value.ref q == Value.none)=true then _ else _) _ _ s
 rw [if_neg (show ¬ ((Value.ref q == Value.none)=true) from jb6)]
 show vb3 _ _ (field (.ref p) 1 >>= _) _ _ s
 refine va0 (vc9 eb db (x:=.int n 0) rfl ?_)
 show vb3 _ _ (seqItems? (.ref q) >>= _) _ _ s
 refine va0 (ve8 et dt ?_)
 simp only [je8,hu]
 refine va0 (wpAny_setField eb db (by simp) (va5 ⟨u,rfl,va5 (hQ _ ?_ (Heap.SameBut.update ..))⟩))
 exact ⟨_,Heap.get?_update_self _ eb (Obj.isFreed_of_fields (Obj.data_mapFields db _)),(Obj.cls_mapFields ..).trans cb,by rw [Obj.data_mapFields db];simp [vm2]⟩
theorem zpv {p q:Addr}{n:Nat}{us:Array va2}{Q:va2->va3->Prop} (hh:A.handled=none) (st:s.heap.IsTupleIter p q n) (ht:s.heap.IsTuple q us) (hu:us[n]?=none)
  (hE:∀ h' e,Heap.ExtBut p s.heap h'->(∃ o,h'.get? e=some o/\o.cls=.type "StopIteration")->E (.ref e) { s with heap:=h' }):vb3 (vb4 prog w) A (vb8 (.ref p)) Q E s:=by
 obtain ⟨ob,eb,cb,db⟩:=id st
 obtain ⟨ot,et,_,nt,dt⟩:=ht
 unfold vb8;refine va0 (ve7 (name:=vj1 "__next__") st.typeIs vf2 (vd7 vf2 st.typeIs vn6 ?_ (vm0 _)))
 show vb3 _ _ (field (.ref p) 0 >>= _) _ _ s
 refine va0 (vc9 eb db (x:=.ref q) rfl ?_)
 show vb3 _ _ (if (Value.ref q == Value.none)=true then _ else _) _ _ s
 rw [if_neg (show ¬ ((Value.ref q == Value.none)=true) from jb6)]
 show vb3 _ _ (field (.ref p) 1 >>= _) _ _ s
 refine va0 (vc9 eb db (x:=.int n 0) rfl ?_)
 show vb3 _ _ (seqItems? (.ref q) >>= _) _ _ s
 refine va0 (ve8 et dt ?_)
 simp only [je8,hu]
 refine va0 (wpAny_rule (va0 (wpAny_setField eb db (by simp) ?_)))
 show vb3 _ _ (newExc (.type "StopIteration") [] >>= _) _ _ _;refine va0 ?_;simp only [newExc,newTuple]
 refine va0 (ve2 ?_ (by size_fits));refine va0 (m:=firstArgMember _ _) (wpAny_of_eq (a:=Value.none) (by first | rfl | (simp only [firstArgMember];rfl)) ?_)
 refine ve2 ?_ (by size_fits);simp only [raiseNew];refine va0 (wpAny_handled ?_)
 first | rw [show A.in1.handled=none from hh] | rw [hh];skip
 refine va0 (va5 (wpAny_throw (hE _ _ (((Heap.SameBut.update ..).extBut.push _).push _) ⟨_,va6 _ rfl,rfl⟩)))
structure ZApart (zz ti to p1 p2 q1 q2:Addr):Prop where
 ne1:ti≠zz
 ne2:to≠zz
 ne3:p1≠zz
 ne4:p2≠zz
 ne5:ti≠to
 ne6:ti≠p1
 ne7:ti≠p2
 ne8:to≠p1
 ne9:to≠p2
 nea:p1≠p2
 neb:q1≠zz
 nec:q1≠to
 ned:q1≠p1
 nee:q1≠p2
 nef:q2≠zz
 neg:q2≠to
 neh:q2≠p1
 nei:q2≠p2
section
variable {zz ti to p1 p2 q1 q2:Addr}{n1 n2:Nat}{us vs:Array va2}{u v a b:va2}
theorem qkl {Q:va2->va3->Prop} (D:ZApart zz ti to p1 p2 q1 q2) (hz:vj2 s.heap zz ti to .none) (hi:ve6 s.heap ti (.ref p1) (.ref p2)) (ho:ve6 s.heap to a b) (h1:s.heap.IsTupleIter p1 q1 n1) (h2:s.heap.IsTupleIter p2 q2 n2) (t1:s.heap.IsTuple q1 us) (t2:s.heap.IsTuple q2 vs) (hu:us[n1]?=some u) (hv:vs[n2]?=some v)
  (hQ:∀ h',vj2 h' zz ti to (vm2 s.heap.objs.size)->ve6 h' to u v->h'.IsTupleIter p1 q1 (n1 + 1)->h'.IsTupleIter p2 q2 (n2 + 1)->ve6 h' s.heap.objs.size u v->h'.objs.size=s.heap.objs.size + 1->(∀ c o,c≠zz->c≠to->c≠p1->c≠p2->s.heap.get? c=some o->h'.get? c=some o)->Q (.ref s.heap.objs.size) { s with heap:=h' }):
  vb3 (vb4 prog w) A (vf6.«zip.__next__» ⟨[.ref zz],[]⟩) (λ fin s'=>∃ v,fin=.done (.ret v)/\Q v s') E s:=by
 show vb3 _ _ (field (.ref zz) 2 >>= _) _ _ _;refine va0 (vc9 hz rfl (x:=.bool false) rfl ?_)
 show vb3 _ _ (field (.ref zz) 3 >>= _) _ _ _;refine va0 (vc9 hz rfl (x:=.ref ti) rfl ?_)
 refine va0 (ve8 hi rfl ?_)
 show vb3 _ _ (vd5 (.ref zz) >>= _) _ _ _;refine va0 ?_;unfold vd5
 refine va0 (vc9 hz rfl (x:=.none) rfl (va5 ?_));simp only [if_true]
 refine va0 (wpAny_rule ?_);refine va0 (vc9 hz rfl (x:=.ref to) rfl ?_)
 refine va0 (vf0 hz (by simp) λ g1 y1 k1=>?_)
 replace y1:vj2 g1 zz ti to .ellipsis:=y1
 refine va0 ?_;simp only [jl5,js7,jr4,js2]
 refine va0 (va0 (vk4 ?_));show vb3 _ _ (vb8 (.ref p1) >>= _) _ _ _
 refine va0 (qfd (h1.extBut k1.extBut D.ne3) (t1.extBut k1.extBut D.neb) hu λ g2 m2 k2=>va5 ?_)
 have o2:ve6 g2 to a b:=k2.extBut _ _ D.ne8 (k1.extBut _ _ D.ne2 ho)
 refine va0 (ve8 o2 rfl ?_)
 refine va0 (vj7 o2 λ g3 o3 k3=>?_)
 replace o3:ve6 g3 to u b:=o3
 refine va0 (wpAny_letGo (va5 ?_));refine va0 (va0 (vk4 ?_));show vb3 _ _ (vb8 (.ref p2) >>= _) _ _ _
 refine va0 (qfd (((h2.extBut k1.extBut D.ne4).extBut k2.extBut D.nea.symm).extBut k3.extBut D.ne9.symm) (((t2.extBut k1.extBut D.nef).extBut k2.extBut D.neh).extBut k3.extBut D.neg) hv λ g4 m4 k4=>va5 ?_)
 have o4:ve6 g4 to u b:=k4.extBut _ _ D.ne9 o3
 refine va0 (ve8 o4 rfl ?_)
 refine va0 (vj7 o4 λ g5 o5 k5=>?_)
 replace o5:ve6 g5 to u v:=o5
 refine va0 (wpAny_letGo (va5 (va5 ?_)));refine va0 (ve8 o5 rfl ?_);refine va0 (vj9 ?_)
 have sz:g5.objs.size=s.heap.objs.size:=by rw [k5.1,k4.1,k3.1,k2.1,k1.1]
 have y5:vj2 g5 zz ti to .ellipsis:=k5.extBut _ _ D.ne2.symm (k4.extBut _ _ D.ne4.symm (k3.extBut _ _ D.ne2.symm (k2.extBut _ _ D.ne3.symm y1)))
 have kk:∀ c o,c≠zz->c≠to->c≠p1->c≠p2->s.heap.get? c=some o->g5.get? c=some o:=λ c o c1 c2 c3 c4 e=>k5.extBut _ _ c2 (k4.extBut _ _ c4 (k3.extBut _ _ c2 (k2.extBut _ _ c3 (k1.extBut _ _ c1 e))))
 have m1:g5.IsTupleIter p1 q1 (n1 + 1):=((m2.extBut k3.extBut D.ne8.symm).extBut k4.extBut D.nea).extBut k5.extBut D.ne8.symm
 have m5:g5.IsTupleIter p2 q2 (n2 + 1):=m4.extBut k5.extBut D.ne9.symm
 have zlt:zz < g5.objs.size:=va4 y5
 show vb3 _ _ (vk1 (.ref zz) (.ref g5.objs.size) >>= _) _ _ _;refine va0 ?_;unfold vk1
 have y6:vj2 (g5.push { cls:=.type "tuple",data:=.seq #[u,v] }) zz ti to .ellipsis:=va1 _ y5
 refine va0 (vf0 y6 (by simp) λ g7 y7 k7=>?_)
 replace y7:vj2 g7 zz ti to (vm2 g5.objs.size):=y7
 refine vf0 y7 (by simp) λ g8 y8 k8=>?_
 replace y8:vj2 g8 zz ti to (vm2 g5.objs.size):=y8
 have up:∀ c o,c≠zz->g5.get? c=some o->g8.get? c=some o:=λ c o c1 e=>k8.extBut _ _ c1 (k7.extBut _ _ c1 (va1 _ e))
 have t8:ve6 g8 g5.objs.size u v:=k8.extBut _ _ (jg2 zlt) (k7.extBut _ _ (jg2 zlt) (va6 _ rfl))
 have z8:g8.objs.size=g5.objs.size + 1:=by rw [k8.1,k7.1,vd1]
 rw [sz] at y8 t8 z8
 refine va5 ⟨_,rfl,?_⟩
 show Q (.ref g5.objs.size) _
 rw [sz]
 exact hQ g8 y8 (up _ _ D.ne2 o5) (m1.at λ o e=>up _ o D.ne3 e) (m5.at λ o e=>up _ o D.ne4 e) t8 z8 λ c o c1 c2 c3 c4 e=>up c o c1 (kk c o c1 c2 c3 c4 e)
theorem qm9 {Q:Fin->va3->Prop} (hh:A.handled=none) (D:ZApart zz ti to p1 p2 q1 q2) (hz:vj2 s.heap zz ti to .none) (hi:ve6 s.heap ti (.ref p1) (.ref p2)) (ho:ve6 s.heap to a b) (h1:s.heap.IsTupleIter p1 q1 n1) (h2:s.heap.IsTupleIter p2 q2 n2) (t1:s.heap.IsTuple q1 us) (t2:s.heap.IsTuple q2 vs) (hend:us[n1]?=none\/vs[n2]?=none)
  (hE:∀ h' e,(∀ c o,c≠zz->c≠to->c≠p1->c≠p2->s.heap.get? c=some o->h'.get? c=some o)->(∃ o,h'.get? e=some o/\o.cls=.type "StopIteration")->E (.ref e) { s with heap:=h' }):
  vb3 (vb4 prog w) A (vf6.«zip.__next__» ⟨[.ref zz],[]⟩) Q E s:=by
 show vb3 _ _ (field (.ref zz) 2 >>= _) _ _ _;refine va0 (vc9 hz rfl (x:=.bool false) rfl ?_)
 show vb3 _ _ (field (.ref zz) 3 >>= _) _ _ _;refine va0 (vc9 hz rfl (x:=.ref ti) rfl ?_)
 refine va0 (ve8 hi rfl ?_)
 show vb3 _ _ (vd5 (.ref zz) >>= _) _ _ _;refine va0 ?_;unfold vd5
 refine va0 (vc9 hz rfl (x:=.none) rfl (va5 ?_));simp only [if_true]
 refine va0 (wpAny_rule ?_);refine va0 (vc9 hz rfl (x:=.ref to) rfl ?_)
 refine va0 (vf0 hz (by simp) λ g1 y1 k1=>?_)
 replace y1:vj2 g1 zz ti to .ellipsis:=y1
 refine va0 ?_;simp only [jl5,js7,jr4,js2]
 refine va0 (va0 (vk4 ?_));show vb3 _ _ (vb8 (.ref p1) >>= _) _ _ _
 cases hu:us[n1]? with
 | none=>
  refine va0 (zpv hh (h1.extBut k1.extBut D.ne3) (t1.extBut k1.extBut D.neb) hu λ g2 e k2 ⟨oe,xe,ce⟩=>?_)
  have y2:vj2 g2 zz ti to .ellipsis:=k2 _ _ D.ne3.symm y1
  have ne:e≠zz:=λ x=>by subst x;rw [y2] at xe;cases xe;simp at ce
  refine vf0 y2 (by simp) λ g3 _ k3=>hE g3 e (λ c o c1 _ c3 _ x=>k3.extBut _ _ c1 (k2 _ _ c3 (k1.extBut _ _ c1 x))) ⟨oe,k3.extBut _ _ ne xe,ce⟩
 | some u=>
  have hv:vs[n2]?=none:=by rcases hend with h | h;rw [hu] at h;cases h;exact h
  refine va0 (qfd (h1.extBut k1.extBut D.ne3) (t1.extBut k1.extBut D.neb) hu λ g2 m2 k2=>va5 ?_)
  have o2:ve6 g2 to a b:=k2.extBut _ _ D.ne8 (k1.extBut _ _ D.ne2 ho)
  refine va0 (ve8 o2 rfl ?_)
  refine va0 (vj7 o2 λ g3 o3 k3=>?_)
  refine va0 (wpAny_letGo (va5 ?_));refine va0 (va0 (vk4 ?_));show vb3 _ _ (vb8 (.ref p2) >>= _) _ _ _
  refine va0 (zpv hh (((h2.extBut k1.extBut D.ne4).extBut k2.extBut D.nea.symm).extBut k3.extBut D.ne9.symm) (((t2.extBut k1.extBut D.nef).extBut k2.extBut D.neh).extBut k3.extBut D.neg) hv λ g4 e k4 ⟨oe,xe,ce⟩=>?_)
  have y4:vj2 g4 zz ti to .ellipsis:=k4 _ _ D.ne4.symm (k3.extBut _ _ D.ne2.symm (k2.extBut _ _ D.ne3.symm y1))
  have ne:e≠zz:=λ x=>by subst x;rw [y4] at xe;cases xe;simp at ce
  refine vf0 y4 (by simp) λ g5 _ k5=>hE g5 e (λ c o c1 c2 c3 c4 x=>k5.extBut _ _ c1 (k4 _ _ c4 (k3.extBut _ _ c2 (k2.extBut _ _ c3 (k1.extBut _ _ c1 x))))) ⟨oe,k5.extBut _ _ ne xe,ce⟩
theorem ql8 {Q:Option va2->va3->Prop} (D:ZApart zz ti to p1 p2 q1 q2) (hz:vj2 s.heap zz ti to .none) (hi:ve6 s.heap ti (.ref p1) (.ref p2)) (ho:ve6 s.heap to a b) (h1:s.heap.IsTupleIter p1 q1 n1) (h2:s.heap.IsTupleIter p2 q2 n2) (t1:s.heap.IsTuple q1 us) (t2:s.heap.IsTuple q2 vs) (hu:us[n1]?=some u) (hv:vs[n2]?=some v)
  (hQ:∀ h',vj2 h' zz ti to (vm2 s.heap.objs.size)->ve6 h' to u v->h'.IsTupleIter p1 q1 (n1 + 1)->h'.IsTupleIter p2 q2 (n2 + 1)->ve6 h' s.heap.objs.size u v->h'.objs.size=s.heap.objs.size + 1->(∀ c o,c≠zz->c≠to->c≠p1->c≠p2->s.heap.get? c=some o->h'.get? c=some o)->Q (some (.ref s.heap.objs.size)) { s with heap:=h' }):
  vb3 (vb4 prog w) A (pyNext (.ref zz)) Q E s:=by
 have hT:s.TypeIs (.ref zz) "zip" := ⟨_,hz,rfl⟩
 unfold pyNext
 exact va0 (wpAny_attempt (ve7 (name:=vj1 "__next__") hT vj3 (vd7 vj3 hT F.entry_zip_next (qkl D hz hi ho h1 h2 t1 t2 hu hv λ h' a1 a2 a3 a4 a5 a6 a7=>va5 (hQ h' a1 a2 a3 a4 a5 a6 a7)) (F.args_zip_next_1 _))))
theorem qax {Q:Option va2->va3->Prop} (hh:A.handled=none) (D:ZApart zz ti to p1 p2 q1 q2) (hz:vj2 s.heap zz ti to .none) (hi:ve6 s.heap ti (.ref p1) (.ref p2)) (ho:ve6 s.heap to a b) (h1:s.heap.IsTupleIter p1 q1 n1) (h2:s.heap.IsTupleIter p2 q2 n2) (t1:s.heap.IsTuple q1 us) (t2:s.heap.IsTuple q2 vs) (hend:us[n1]?=none\/vs[n2]?=none)
  (hQ:∀ h',(∀ c o,c≠zz->c≠to->c≠p1->c≠p2->s.heap.get? c=some o->h'.get? c=some o)->Q none { s with heap:=h' }):vb3 (vb4 prog w) A (pyNext (.ref zz)) Q E s:=by
 have hT:s.TypeIs (.ref zz) "zip" := ⟨_,hz,rfl⟩
 unfold pyNext
 refine va0 (wpAny_attempt (ve7 (name:=vj1 "__next__") hT vj3 (vd7 vj3 hT F.entry_zip_next (qm9 hh D hz hi ho h1 h2 t1 t2 hend λ h' e hk ⟨o,xo,xc⟩=>?_) (F.args_zip_next_1 _))))
 exact va0 (wpAny_isInstance (T := "StopIteration") (b:=true) ⟨o,xo,xc⟩ isSubtype_stop (va5 (hQ _ hk)))
end
abbrev ztH1 (h:Heap) (q:Addr):Heap:=h.push { cls:=.type "tuple_iterator",data:=.fields #[.ref q,.int 0 0] }
abbrev ztH2 (h:Heap) (q r:Addr):Heap:=(ztH1 h q).push { cls:=.type "tuple_iterator",data:=.fields #[.ref r,.int 0 0] }
abbrev ztH3 (h:Heap) (q r:Addr):Heap:=(ztH2 h q r).push { cls:=.type "tuple",data:=.seq #[.ref h.objs.size,.ref (ztH1 h q).objs.size] }
abbrev ztH4 (h:Heap) (q r:Addr):Heap:=(ztH3 h q r).push { cls:=.type "tuple",data:=.seq #[.none,.none] }
abbrev ztH5 (h:Heap) (q r:Addr):Heap:=(ztH4 h q r).push { cls:=.type "zip",data:=.fields #[.none,.bool false,.bool false,.ref (ztH2 h q r).objs.size,.ref (ztH3 h q r).objs.size] }
theorem qib (q r:Addr) (us vs:Array va2):Meets (vf6.«zip.__new__» ⟨[.type "zip",.ref q,.ref r],[]⟩) (λ _ R s=>s.heap.IsTuple q us/\s.heap.IsTuple r vs/\R (.ok (.ret (.ref (ztH4 s.heap q r).objs.size))) { s with heap:=ztH5 s.heap q r }):=
 .of_wp λ prog w A R s h=>by
  obtain ⟨hp,g,d,tk,os⟩:=s;obtain ⟨t1,t2,h⟩:=h
  have hsub:=sub_zip
  have T1:Heap.IsTuple (Shared.heap ⟨hp,g,d,tk,os⟩) q us:=t1
  have T2:Heap.IsTuple (Shared.heap ⟨hp.push { cls:=.type "tuple_iterator",data:=.fields #[.ref q,.int 0 0] },g,d,tk,os⟩) r vs:=Heap.IsTuple.push t2 _
  wp_walk using vh5 T1,vh5 T2
  exact ⟨_,rfl,h⟩
theorem qm1 {q r:Addr}{us vs:Array va2}{Q:va2->va3->Prop} (t1:s.heap.IsTuple q us) (t2:s.heap.IsTuple r vs)
  (h:∀ h',vj2 h' (s.heap.objs.size + 4) (s.heap.objs.size + 2) (s.heap.objs.size + 3) .none->ve6 h' (s.heap.objs.size + 2) (.ref s.heap.objs.size) (.ref (s.heap.objs.size + 1))->ve6 h' (s.heap.objs.size + 3) .none .none->h'.IsTupleIter s.heap.objs.size q 0->h'.IsTupleIter (s.heap.objs.size + 1) r 0->h'.objs.size=s.heap.objs.size + 5->(∀ c o,s.heap.get? c=some o->h'.get? c=some o)->Q (.ref (s.heap.objs.size + 4)) { s with heap:=h' }):
  vb3 (vb4 prog w) A (call (.type "zip") [.ref q,.ref r]) Q E s:=by
 refine callType_new F.called_zip (by decide) (F.typeCall_zip_2 _ _) (F.newCall_zip_2 _ _) (λ obj=>F.args_object_init_3 obj _ _) F.entry_zip_new (qib q r us vs) ⟨t1,t2,?_⟩
 have z1:(ztH1 s.heap q).objs.size=s.heap.objs.size + 1:=vd1 ..
 have z2:(ztH2 s.heap q r).objs.size=s.heap.objs.size + 2:=by rw [vd1,z1]
 have z3:(ztH3 s.heap q r).objs.size=s.heap.objs.size + 3:=by rw [vd1,z2]
 have z4:(ztH4 s.heap q r).objs.size=s.heap.objs.size + 4:=by rw [vd1,z3]
 have z5:(ztH5 s.heap q r).objs.size=s.heap.objs.size + 5:=by rw [vd1,z4]
 have g5:(ztH5 s.heap q r).get? (ztH4 s.heap q r).objs.size=some _:=va6 _ rfl
 have g4:(ztH5 s.heap q r).get? (ztH3 s.heap q r).objs.size=some _:=va1 _ (va6 _ rfl)
 have g3:(ztH5 s.heap q r).get? (ztH2 s.heap q r).objs.size=some _:=va1 _ (va1 _ (va6 _ rfl))
 have g2:(ztH5 s.heap q r).get? (ztH1 s.heap q).objs.size=some _:=va1 _ (va1 _ (va1 _ (va6 _ rfl)))
 have g1:(ztH5 s.heap q r).get? s.heap.objs.size=some _:=va1 _ (va1 _ (va1 _ (va1 _ (va6 _ rfl))))
 show _/\_
 rw [z2,z3,z4] at g5;rw [z1,z2] at g3;rw [z3] at g4;rw [z1] at g2;rw [z4]
 exact ⟨⟨_,g5,rfl⟩,h _ g5 g3 g4 ⟨_,g1,rfl,rfl⟩ ⟨_,g2,rfl,rfl⟩ z5 λ c o x=>va1 _ (va1 _ (va1 _ (va1 _ (va1 _ x))))⟩
end
section
variable {X:Cx}{pins:List (Addr×Obj)}{σ:St}{H:Hp}{s:va3}{h':Heap}
theorem zyx {fp:List Addr}{a:Addr}{o:HO}{t':Nat} (I:Inv X pins σ H s) (k:∀ b u,b∉fp->s.heap.get? b=some u->h'.get? b=some u) (hf:∀ b∈fp,FpOk X pins H b) (ha:s.heap.objs.size<=a) (new:zzd X.prog X.w (upd H a o) h' a o):
  Inv X pins σ (upd H a o) { s with heap:=h',toks:=t' }:=by
 have hn:H a=none:=I.hok.fresh ha
 have nfp:∀ b u,H b=some u->b∉fp:=λ b u e z=>by rw [(hf b z).1] at e;cases e
 have up:∀ b u,H b=some u->upd H a o b=some u:=λ b u e=>by rw [zqk (λ z=>by rw [z,hn] at e;cases e)];exact e
 refine I.step (g':=s.gens) (d':=s.drawn) (ch:=fp) (λ b hb=>?_) (λ b u _ _ hc e _=>k b u hc e) (λ b u _ _ hc e _=>⟨u.slots,k b u hc e⟩) (λ b u _ e n=>?_) (λ b u hc e=>⟨u,k b u hc e⟩) (λ b xs e=>up b _ e) (λ b _ _ e=>up b _ e) (λ b ps e=>⟨#[],by rw [up b _ e];simp⟩) (λ m hm=>?_) (λ b u e=>?_) I.bare
 ·obtain ⟨_,f1,_,f3,f4,f5⟩:=hf b hb
  exact ⟨f3,f1,f4,f5⟩
 ·rw [zqk (λ z=>by rw [z] at e;exact absurd (va4 e) (Nat.not_lt.mpr ha))];exact n
 ·obtain ⟨u,es,ep,ho,r⟩:=hm
  exact ⟨u,es,ep,k _ u (λ z=>(hf _ z).2.1 rfl) ho,r⟩
 ·by_cases eb:b=a
  ·subst eb
   rw [zqm] at e
   cases e
   exact new
  ·rw [zqk eb] at e
   refine (I.hok b u e).stay (λ c v hc q=>k c v ?_ q) (λ c q=>up c _ q) λ c xs q=>up c _ q
   rcases hc with z | z
   ·rw [z];exact nfp b u e
   ·exact nfp c _ z
theorem zzp {fp:List Addr}{t':Nat} (I:Inv X pins σ H s) (k:∀ b u,b∉fp->s.heap.get? b=some u->h'.get? b=some u) (hf:∀ b∈fp,FpOk X pins H b):Inv X pins σ H { s with heap:=h',toks:=t' }:=by
 have nfp:∀ b u,H b=some u->b∉fp:=λ b u e z=>by rw [(hf b z).1] at e;cases e
 refine I.step (g':=s.gens) (d':=s.drawn) (ch:=fp) (λ b hb=>?_) (λ b u _ _ hc e _=>k b u hc e) (λ b u _ _ hc e _=>⟨u.slots,k b u hc e⟩) (λ _ _ _ _ n=>n) (λ b u hc e=>⟨u,k b u hc e⟩) (λ _ _ e=>e) (λ _ _ _ e=>e) (λ b ps e=>⟨#[],by rw [e];simp⟩) (λ m hm=>?_) (λ b u e=>?_) I.bare
 ·obtain ⟨_,f1,_,f3,f4,f5⟩:=hf b hb
  exact ⟨f3,f1,f4,f5⟩
 ·obtain ⟨u,es,ep,ho,r⟩:=hm
  exact ⟨u,es,ep,k _ u (λ z=>(hf _ z).2.1 rfl) ho,r⟩
 ·refine (I.hok b u e).stay (λ c v hc q=>k c v ?_ q) (λ _ q=>q) λ _ _ q=>q
  rcases hc with z | z
  ·rw [z];exact nfp b u e
  ·exact nfp c _ z
end
def ItRv (K:Frag) (a:Addr) (n:Nat):It:=
 ⟨λ i H=>i < n/\∃ xs x,SqL K H a xs/\xs[n - 1 - i]?=some x,λ i H x H'=>H'=H/\∀ xs,SqL K H a xs->xs[n - 1 - i]?=some x,λ i _=>n<=i⟩
theorem qhc {P:vb0}{w:vc1}{K:Frag}{tg:Expr} (a it:Addr) (n:Nat):Turn P w K tg (ItRv K a n) [it] it (λ i h=>i<=n/\h.IsRevIter it a ((n:Int) - 1 - (i:Int))) where
 mem:=by simp
 obj:=λ i h st b hb=>by
  have e:b=it:=by simpa using hb
  subst e
  obtain ⟨_,o,e,c,d⟩:=st
  exact ⟨o,e,λ v z=>by rw [d] at z;cases z⟩
 keep:=λ i h h' st k=>⟨st.1,st.2.at λ o e=>k it (by simp) o e⟩
 item:=by
  intro X hP hw hK hc i pins s σ H E I hf st hg
  subst hP hw hK
  obtain ⟨hn,xs,x,hq,hx⟩:=hg
  obtain ⟨its,rv,p,hz⟩:=I.list hq
  obtain ⟨u,hu,ru⟩:=rv.get hx
  have st2:=st.2
  rw [show (n:Int) - 1 - (i:Int)=((n - 1 - i:Nat):Int) by omega] at st2
  refine wpAny_pyNext_rev_item st2 p.isList (x:=u) (by simpa using hu) λ h' st' sb=>?_
  have I1:Inv X pins σ H { s with heap:=h' }:=zzp (t':=s.toks) I (λ b o hb e=>(sb.2 b (λ z=>hb (by simp [z]))).trans e) hf
  obtain ⟨o,e,c,d⟩:=id st'
  refine ⟨u,rfl,qf9 (s:={ s with heap:=h' }) e c d (by decide) ⟨x,H,I1,ru,⟨rfl,λ ys hy=>by rw [I.list_inj hy hq];exact hx⟩,⟨by omega,?_⟩,λ b hb=>(hf b hb).1⟩⟩
  rw [show (n:Int) - 1 - ((i + 1:Nat):Int)=((n - 1 - i:Nat):Int) - 1 by omega]
  exact st'
 done:=by
  intro X hP hw hK hc i pins s σ H E I hf st hg
  subst hP hw hK
  have hn:n<=i:=hg
  have st2:=st.2
  rw [show (n:Int) - 1 - (i:Int)=-1 by have:=st.1;omega] at st2
  exact wpAny_pyNext_rev_end (I.ok.hd hc) st2 λ h' eb=>⟨rfl,zzp (t':=s.toks) I (λ b o hb e=>eb b o (λ z=>hb (by simp [z])) e) hf⟩
 self:=λ _ _ _ _ _ st h=>wpAny_pyIter_revIter st.2 h
def ItEn (K:Frag) (a:Addr):It:=
 ⟨λ i H=>∃ xs x,SqL K H a xs/\xs[i]?=some x,λ i H v H'=>∃ T x,H T=none/\v=.ref T/\H'=upd H T (.tup [.int (i:Int),x])/\∀ xs,SqL K H a xs->xs[i]?=some x,λ i H=>∃ xs,SqL K H a xs/\xs.length<=i⟩
theorem qd0 {P:vb0}{w:vc1}{K:Frag}{es:List Expr}{k:Nat}{pos:Pos} (a e it:Addr) (hne:e≠it):Turn P w K (.Tuple es k pos) (ItEn K a) [e,it] e (λ i h=>(∃ old,IsEnum h e it (i:Int) old)/\h.IsListIter it a i) where
 mem:=by simp
 obj:=λ i h st b hb=>by
  obtain ⟨⟨old,he⟩,o,ho,c,d⟩:=st
  rcases ja6.mp hb with z | z
  ·rw [z];exact ⟨_,he,λ v z=>by cases z⟩
  ·rw [jc3.mp z];exact ⟨o,ho,λ v z=>by rw [d] at z;cases z⟩
 keep:=λ i h h' st k=>by
  obtain ⟨⟨old,he⟩,hi⟩:=st
  exact ⟨⟨old,k e (by simp) _ he⟩,hi.at λ o x=>k it (by simp) o x⟩
 item:=by
  intro X hP hw hK hc i pins s σ H E I hf st hg
  subst hP hw hK
  obtain ⟨xs,x,hq,hx⟩:=hg
  obtain ⟨its,rv,p,hz⟩:=I.list hq
  obtain ⟨u,hu,ru⟩:=rv.get hx
  obtain ⟨⟨old,he⟩,hit⟩:=st
  refine wpAny_pyNext_enum_item he hit p.isList (x:=u) (by simpa using hu) hne λ h' ho hit' hT hsz hk=>⟨_,rfl,?_⟩
  refine wpAny_letOwnedTupleGo_enum ho λ h2 he2 hs2=>?_
  have hs0:s.heap.objs.size≠e:=jg2 (va4 he)
  have hn:H s.heap.objs.size=none:=I.hok.fresh (jb2 _)
  have hT2:h2.get? s.heap.objs.size=some { cls:=.type "tuple",data:=.seq #[.int (i:Int) s.toks,u] }:=(hs2.2 _ hs0).trans hT
  have I1:Inv X pins σ (upd H s.heap.objs.size (.tup [.int (i:Int),x])) { s with heap:=h2,toks:=s.toks + 1 }:=by
   refine zyx (fp:=[e,it]) I (λ b u hb q=>(hs2.2 b (λ z=>hb (by simp [z]))).trans (hk b u (λ z=>hb (by simp [z])) (λ z=>hb (by simp [z])) q)) hf (jb2 _) ?_
   exact ⟨jd5 (by decide:2<=1000) (by decide),_,.cons ⟨_,rfl⟩ (.cons ru .nil),⟨_,hT2,rfl,_,rfl⟩⟩
  refine ⟨.ref s.heap.objs.size,_,I1,rfl,⟨_,x,hn,rfl,rfl,λ ys hy=>by rw [I.list_inj hy hq];exact hx⟩,⟨⟨u,?_⟩,hit'.at λ o q=>(hs2.2 it (vd0 hne)).trans q⟩,λ b hb=>?_⟩
  ·rw [show ((i + 1:Nat):Int)=(i:Int) + 1 by omega];exact he2
  ·have hb':=(hf b hb).1
   rw [zqk (λ z=>?_)]
   ·exact hb'
   ·rcases ja6.mp hb with y | y
    ·rw [y] at z;exact hs0 z.symm
    ·rw [jc3.mp y] at z
     obtain ⟨o,q,_⟩:=hit
     exact absurd (va4 q) (by rw [z];exact jf6 _)
 done:=by
  intro X hP hw hK hc i pins s σ H E I hf st hg
  subst hP hw hK
  obtain ⟨xs,hq,hx⟩:=hg
  obtain ⟨its,rv,p,hz⟩:=I.list hq
  obtain ⟨⟨old,he⟩,hit⟩:=st
  have hl:=rv.length
  exact wpAny_pyNext_enum_end (I.ok.hd hc) he hit p.isList (jh7 (by simp;omega)) λ h' eb=>⟨rfl,zzp (t':=s.toks) I (λ b o hb q=>eb b o (λ z=>hb (by simp [z])) q) hf⟩
 self:=λ _ _ _ _ _ st h=>by
  obtain ⟨⟨old,he⟩,_⟩:=st
  exact wpAny_pyIter_enum he h
def ItZp (K:Frag) (a b:Addr):It:=
 ⟨λ i H=>∃ xs ys x y,SqL K H a xs/\SqL K H b ys/\xs[i]?=some x/\ys[i]?=some y,λ i H v H'=>∃ T x y,H T=none/\v=.ref T/\H'=upd H T (.tup [x,y])/\∀ xs ys,SqL K H a xs->SqL K H b ys->xs[i]?=some x/\ys[i]?=some y,λ i H=>∃ xs ys,SqL K H a xs/\SqL K H b ys/\(xs.length<=i\/ys.length<=i)⟩
theorem zfw {h:Heap}{z TI TO i1 i2 l1 l2:Addr}{f0:va2}{a b c d:va2}{k1 k2:Nat}{xs ys:Array va2} (hTT:TI≠TO) (h12:i1≠i2) (hz:vj2 h z TI TO f0) (hTI:ve6 h TI a b) (hTO:ve6 h TO c d) (h1:h.IsListIter i1 l1 k1) (h2:h.IsListIter i2 l2 k2) (hl1:h.IsList l1 xs) (hl2:h.IsList l2 ys):ZipApart z TI TO i1 i2 l1 l2:=by
 obtain ⟨o1,e1,c1,_⟩:=h1
 obtain ⟨o2,e2,c2,_⟩:=h2
 obtain ⟨p1,q1,r1,_⟩:=hl1
 obtain ⟨p2,q2,r2,_⟩:=hl2
 have ne:∀ {x y:Addr}{o o':Obj}{n m:String},h.get? x=some o->h.get? y=some o'->o.cls=.type n->o'.cls=.type m->n≠m->x≠y:=λ {x y o o' n m} ex ey cx cy nm z=>by
  subst z
  rw [ex] at ey
  cases ey
  rw [cx] at cy
  injection cy with cy
  exact nm cy
 exact ⟨ne hTI hz rfl rfl (by decide),ne hTO hz rfl rfl (by decide),ne e1 hz c1 rfl (by decide),ne e2 hz c2 rfl (by decide),hTT,ne hTI e1 rfl c1 (by decide),ne hTI e2 rfl c2 (by decide),ne hTO e1 rfl c1 (by decide),ne hTO e2 rfl c2 (by decide),h12,
  ne q1 hz r1 rfl (by decide),ne q1 hTO r1 rfl (by decide),ne q1 e1 r1 c1 (by decide),ne q1 e2 r1 c2 (by decide),ne q2 hz r2 rfl (by decide),ne q2 hTO r2 rfl (by decide),ne q2 e1 r2 c1 (by decide),ne q2 e2 r2 c2 (by decide)⟩
theorem qha {P:vb0}{w:vc1}{K:Frag}{es:List Expr}{k:Nat}{pos:Pos} (l1 l2 z TI TO i1 i2:Addr) (hTT:TI≠TO) (h12:i1≠i2):
  Turn P w K (.Tuple es k pos) (ItZp K l1 l2) [z,TI,TO,i1,i2] z (λ i h=>vj2 h z TI TO .none/\ve6 h TI (.ref i1) (.ref i2)/\(∃ p q,ve6 h TO p q)/\h.IsListIter i1 l1 i/\h.IsListIter i2 l2 i) where
 mem:=by simp
 obj:=λ i h st b hb=>by
  obtain ⟨hz,hTI,⟨p,q,hTO⟩,⟨o1,e1,_,d1⟩,⟨o2,e2,_,d2⟩⟩:=st
  simp only [ja6,jd2,or_false] at hb
  rcases hb with rfl | rfl | rfl | rfl | rfl
  ·exact ⟨_,hz,λ v z=>by cases z⟩
  ·exact ⟨_,hTI,λ v z=>by cases z⟩
  ·exact ⟨_,hTO,λ v z=>by cases z⟩
  ·exact ⟨o1,e1,λ v z=>by rw [d1] at z;cases z⟩
  ·exact ⟨o2,e2,λ v z=>by rw [d2] at z;cases z⟩
 keep:=λ i h h' st k=>by
  obtain ⟨hz,hTI,⟨p,q,hTO⟩,h1,h2⟩:=st
  exact ⟨k z (by simp) _ hz,k TI (by simp) _ hTI,⟨p,q,k TO (by simp) _ hTO⟩,h1.at λ o x=>k i1 (by simp) o x,h2.at λ o x=>k i2 (by simp) o x⟩
 item:=by
  intro X hP hw hK hc i pins s σ H E I hf st hg
  subst hP hw hK
  obtain ⟨xs,ys,x,y,hq1,hq2,hx,hy⟩:=hg
  obtain ⟨its1,rv1,p1,hz1⟩:=I.list hq1
  obtain ⟨its2,rv2,p2,hz2⟩:=I.list hq2
  obtain ⟨u1,hu1,ru1⟩:=rv1.get hx
  obtain ⟨u2,hu2,ru2⟩:=rv2.get hy
  obtain ⟨hz,hTI,⟨p,q,hTO⟩,h1,h2⟩:=st
  have D:=zfw hTT h12 hz hTI hTO h1 h2 p1.isList p2.isList
  refine wpAny_pyNext_zip_item D hz hTI hTO h1 h2 p1.isList p2.isList (x:=u1) (y:=u2) (by simpa using hu1) (by simpa using hu2) λ h' a1 a2 a3 a4 a5 a6 hk=>⟨_,rfl,?_⟩
  refine vo0 a1 λ h2' hz' hs'=>?_
  have hn:H s.heap.objs.size=none:=I.hok.fresh (jb2 _)
  have hs0:s.heap.objs.size≠z:=jg2 (va4 hz)
  have I1:Inv X pins σ (upd H s.heap.objs.size (.tup [x,y])) { s with heap:=h2',toks:=s.toks }:=by
   refine zyx (fp:=[z,TI,TO,i1,i2]) I (λ b u hb e=>(hs'.2 b (λ z=>hb (by simp [z]))).trans (hk b u (λ z=>hb (by simp [z])) (λ z=>hb (by simp [z])) (λ z=>hb (by simp [z])) (λ z=>hb (by simp [z])) e)) hf (jb2 _) ?_
   exact ⟨jd5 (by decide:2<=1000) (by decide),_,.cons ru1 (.cons ru2 .nil),⟨_,(hs'.2 _ hs0).trans a5,rfl,_,rfl⟩⟩
  refine ⟨.ref s.heap.objs.size,_,I1,rfl,⟨_,x,y,hn,rfl,rfl,λ xs' ys' e1 e2=>⟨by rw [I.list_inj e1 hq1];exact hx,by rw [I.list_inj e2 hq2];exact hy⟩⟩,⟨hz',(hs'.2 _ D.TIz).trans (hk _ _ D.TIz D.TITO D.TIi1 D.TIi2 hTI),⟨_,_,(hs'.2 _ D.TOz).trans a2⟩,a3.at λ o e=>(hs'.2 _ D.i1z).trans e,a4.at λ o e=>(hs'.2 _ D.i2z).trans e⟩,λ b hb=>?_⟩
  have hb':=(hf b hb).1
  have lt:b < s.heap.objs.size:=by
   simp only [ja6,jd2,or_false] at hb
   rcases hb with rfl | rfl | rfl | rfl | rfl
   ·exact va4 hz
   ·exact va4 hTI
   ·exact va4 hTO
   ·obtain ⟨_,e,_⟩:=h1;exact va4 e
   ·obtain ⟨_,e,_⟩:=h2;exact va4 e
  rw [zqk (jc6 lt)]
  exact hb'
 done:=by
  intro X hP hw hK hc i pins s σ H E I hf st hg
  subst hP hw hK
  obtain ⟨xs,ys,hq1,hq2,hend⟩:=hg
  obtain ⟨its1,rv1,p1,hz1⟩:=I.list hq1
  obtain ⟨its2,rv2,p2,hz2⟩:=I.list hq2
  obtain ⟨hz,hTI,⟨p,q,hTO⟩,h1,h2⟩:=st
  have D:=zfw hTT h12 hz hTI hTO h1 h2 p1.isList p2.isList
  have r1:=rv1.length
  have r2:=rv2.length
  refine wpAny_pyNext_zip_end (I.ok.hd hc) D hz hTI hTO h1 h2 p1.isList p2.isList ?_ λ h' hk=>⟨rfl,zzp (t':=s.toks) I (λ b o hb e=>hk b o (λ z=>hb (by simp [z])) (λ z=>hb (by simp [z])) (λ z=>hb (by simp [z])) (λ z=>hb (by simp [z])) e) hf⟩
  rcases hend with h | h
  ·exact .inl (jh7 (by simp;omega))
  ·exact .inr (jh7 (by simp;omega))
 self:=λ _ _ _ _ _ st h=>vi7 st.1 h
def ItZt (a b:Addr):It:=
 ⟨λ i H=>∃ xs ys x y,H a=some (.tup xs)/\H b=some (.tup ys)/\xs[i]?=some x/\ys[i]?=some y,λ i H v H'=>∃ T x y,H T=none/\v=.ref T/\H'=upd H T (.tup [x,y])/\∀ xs ys,H a=some (.tup xs)->H b=some (.tup ys)->xs[i]?=some x/\ys[i]?=some y,λ i H=>∃ xs ys,H a=some (.tup xs)/\H b=some (.tup ys)/\(xs.length<=i\/ys.length<=i)⟩
theorem qbb {h:Heap}{H:Hp}{z TI TO i1 i2 l1 l2:Addr}{f0:va2}{a b c d:va2}{k1 k2:Nat}{xs ys:Array va2}{us vs:List V} (hTT:TI≠TO) (h12:i1≠i2) (hz:vj2 h z TI TO f0) (hTI:ve6 h TI a b) (hTO:ve6 h TO c d) (h1:h.IsTupleIter i1 l1 k1) (h2:h.IsTupleIter i2 l2 k2) (hl1:h.IsTuple l1 xs) (hl2:h.IsTuple l2 ys) (n1:H TO=none) (q1:H l1=some (.tup us)) (q2:H l2=some (.tup vs)):ZApart z TI TO i1 i2 l1 l2:=by
 obtain ⟨o1,e1,c1,_⟩:=h1
 obtain ⟨o2,e2,c2,_⟩:=h2
 obtain ⟨p1,m1,r1,_⟩:=hl1
 obtain ⟨p2,m2,r2,_⟩:=hl2
 have ne:∀ {x y:Addr}{o o':Obj}{n m:String},h.get? x=some o->h.get? y=some o'->o.cls=.type n->o'.cls=.type m->n≠m->x≠y:=λ {x y o o' n m} ex ey cx cy nm z=>by
  subst z
  rw [ex] at ey
  cases ey
  rw [cx] at cy
  injection cy with cy
  exact nm cy
 exact ⟨ne hTI hz rfl rfl (by decide),ne hTO hz rfl rfl (by decide),ne e1 hz c1 rfl (by decide),ne e2 hz c2 rfl (by decide),hTT,ne hTI e1 rfl c1 (by decide),ne hTI e2 rfl c2 (by decide),ne hTO e1 rfl c1 (by decide),ne hTO e2 rfl c2 (by decide),h12,
  ne m1 hz r1 rfl (by decide),(λ z=>by rw [z,n1] at q1;cases q1),ne m1 e1 r1 c1 (by decide),ne m1 e2 r1 c2 (by decide),ne m2 hz r2 rfl (by decide),(λ z=>by rw [z,n1] at q2;cases q2),ne m2 e1 r2 c1 (by decide),ne m2 e2 r2 c2 (by decide)⟩
theorem qkp {P:vb0}{w:vc1}{K:Frag}{es:List Expr}{k:Nat}{pos:Pos} (l1 l2 z TI TO i1 i2:Addr) (hTT:TI≠TO) (h12:i1≠i2):
  Turn P w K (.Tuple es k pos) (ItZt l1 l2) [z,TI,TO,i1,i2] z (λ i h=>vj2 h z TI TO .none/\ve6 h TI (.ref i1) (.ref i2)/\(∃ p q,ve6 h TO p q)/\h.IsTupleIter i1 l1 i/\h.IsTupleIter i2 l2 i) where
 mem:=by simp
 obj:=λ i h st b hb=>by
  obtain ⟨hz,hTI,⟨p,q,hTO⟩,⟨o1,e1,_,d1⟩,⟨o2,e2,_,d2⟩⟩:=st
  simp only [ja6,jd2,or_false] at hb
  rcases hb with rfl | rfl | rfl | rfl | rfl
  ·exact ⟨_,hz,λ v z=>by cases z⟩
  ·exact ⟨_,hTI,λ v z=>by cases z⟩
  ·exact ⟨_,hTO,λ v z=>by cases z⟩
  ·exact ⟨o1,e1,λ v z=>by rw [d1] at z;cases z⟩
  ·exact ⟨o2,e2,λ v z=>by rw [d2] at z;cases z⟩
 keep:=λ i h h' st k=>by
  obtain ⟨hz,hTI,⟨p,q,hTO⟩,h1,h2⟩:=st
  exact ⟨k z (by simp) _ hz,k TI (by simp) _ hTI,⟨p,q,k TO (by simp) _ hTO⟩,h1.at λ o x=>k i1 (by simp) o x,h2.at λ o x=>k i2 (by simp) o x⟩
 item:=by
  intro X hP hw hK hc i pins s σ H E I hf st hg
  subst hP hw hK
  obtain ⟨xs,ys,x,y,hq1,hq2,hx,hy⟩:=hg
  obtain ⟨its1,rv1,p1,hz1⟩:=I.tuple (.of hq1)
  obtain ⟨its2,rv2,p2,hz2⟩:=I.tuple (.of hq2)
  obtain ⟨u1,hu1,ru1⟩:=rv1.get hx
  obtain ⟨u2,hu2,ru2⟩:=rv2.get hy
  obtain ⟨hz,hTI,⟨p,q,hTO⟩,h1,h2⟩:=st
  have T1:s.heap.IsTuple l1 its1.toArray:=p1
  have T2:s.heap.IsTuple l2 its2.toArray:=p2
  have D:=qbb hTT h12 hz hTI hTO h1 h2 T1 T2 (hf TO (by simp)).1 hq1 hq2
  refine ql8 D hz hTI hTO h1 h2 T1 T2 (u:=u1) (v:=u2) (by simpa using hu1) (by simpa using hu2) λ h' a1 a2 a3 a4 a5 a6 hk=>⟨_,rfl,?_⟩
  refine vo0 a1 λ h2' hz' hs'=>?_
  have hn:H s.heap.objs.size=none:=I.hok.fresh (jb2 _)
  have hs0:s.heap.objs.size≠z:=jg2 (va4 hz)
  have I1:Inv X pins σ (upd H s.heap.objs.size (.tup [x,y])) { s with heap:=h2',toks:=s.toks }:=by
   refine zyx (fp:=[z,TI,TO,i1,i2]) I (λ b u hb e=>(hs'.2 b (λ z=>hb (by simp [z]))).trans (hk b u (λ z=>hb (by simp [z])) (λ z=>hb (by simp [z])) (λ z=>hb (by simp [z])) (λ z=>hb (by simp [z])) e)) hf (jb2 _) ?_
   exact ⟨jd5 (by decide:2<=1000) (by decide),_,.cons ru1 (.cons ru2 .nil),⟨_,(hs'.2 _ hs0).trans a5,rfl,_,rfl⟩⟩
  refine ⟨.ref s.heap.objs.size,_,I1,rfl,⟨_,x,y,hn,rfl,rfl,λ xs' ys' e1 e2=>⟨by rw [hq1] at e1;cases e1;exact hx,by rw [hq2] at e2;cases e2;exact hy⟩⟩,⟨hz',(hs'.2 _ D.ne1).trans (hk _ _ D.ne1 D.ne5 D.ne6 D.ne7 hTI),⟨_,_,(hs'.2 _ D.ne2).trans a2⟩,a3.at λ o e=>(hs'.2 _ D.ne3).trans e,a4.at λ o e=>(hs'.2 _ D.ne4).trans e⟩,λ b hb=>?_⟩
  have hb':=(hf b hb).1
  have lt:b < s.heap.objs.size:=by
   simp only [ja6,jd2,or_false] at hb
   rcases hb with rfl | rfl | rfl | rfl | rfl
   ·exact va4 hz
   ·exact va4 hTI
   ·exact va4 hTO
   ·obtain ⟨_,e,_⟩:=h1;exact va4 e
   ·obtain ⟨_,e,_⟩:=h2;exact va4 e
  rw [zqk (jc6 lt)]
  exact hb'
 done:=by
  intro X hP hw hK hc i pins s σ H E I hf st hg
  subst hP hw hK
  obtain ⟨xs,ys,hq1,hq2,hend⟩:=hg
  obtain ⟨its1,rv1,p1,hz1⟩:=I.tuple (.of hq1)
  obtain ⟨its2,rv2,p2,hz2⟩:=I.tuple (.of hq2)
  obtain ⟨hz,hTI,⟨p,q,hTO⟩,h1,h2⟩:=st
  have T1:s.heap.IsTuple l1 its1.toArray:=p1
  have T2:s.heap.IsTuple l2 its2.toArray:=p2
  have D:=qbb hTT h12 hz hTI hTO h1 h2 T1 T2 (hf TO (by simp)).1 hq1 hq2
  have r1:=rv1.length
  have r2:=rv2.length
  refine qax (I.ok.hd hc) D hz hTI hTO h1 h2 T1 T2 ?_ λ h' hk=>⟨rfl,zzp (t':=s.toks) I (λ b o hb e=>hk b o (λ z=>hb (by simp [z])) (λ z=>hb (by simp [z])) (λ z=>hb (by simp [z])) (λ z=>hb (by simp [z])) e) hf⟩
  rcases hend with h | h
  ·exact .inl (jh7 (by simp;omega))
  ·exact .inr (jh7 (by simp;omega))
 self:=λ _ _ _ _ _ st h=>vi7 st.1 h
section
variable {X:Cx}{tg:Expr}
def iRev (K:Frag) (ta:TA):TI:=λ σ H R=>ta σ H λ vs H1=>∃ a xs,vs=[.ref a]/\SqL K H1 a xs/\R (ItRv K a xs.length) H1
def iEnm (K:Frag) (ta:TA):TI:=λ σ H R=>ta σ H λ vs H1=>∃ a xs,vs=[.ref a]/\SqL K H1 a xs/\R (ItEn K a) H1
def iZip (K:Frag) (ta:TA):TI:=λ σ H R=>ta σ H λ vs H1=>∃ a b xs ys,vs=[.ref a,.ref b]/\((SqL K H1 a xs/\SqL K H1 b ys/\R (ItZp K a b) H1)\/(H1 a=some (.tup xs)/\H1 b=some (.tup ys)/\R (ItZt a b) H1))
theorem qom {a:Expr}{ta:TA}{p pos:Pos} (hg:Gl X "reversed") (hm:X.mg "reversed" = none) (ha:PA X [a] ta) (hs:va7 [a] X.env=[(false,eval a X.env)]):PI X tg (.Call (.Name "reversed" p) [a] [] pos) (iRev X.K ta):=by
 intro pins s σ H R I h
 refine Call_ (zjg I hg hm boot_reversed (vc6 (thn (ha pos pins s σ H _ I h) λ us s1 ⟨vs,H1,I1,r1,q1⟩=>?_) hs rfl))
 obtain ⟨b,xs,e,hq,q⟩:=q1
 subst e
 cases r1 with
 | cons r rr=>
  cases rr
  cases r
  obtain ⟨its,rv,pl,hz⟩:=I1.list hq
  have hl:=rv.length
  refine call_reversed_list pl.isList ?_
  have hT:(s1.heap.push (revObj b ((its.toArray.size:Int) - 1))).IsRevIter s1.heap.objs.size b ((its.toArray.size:Int) - 1):=⟨_,va6 _ rfl,rfl,rfl⟩
  refine wpAny_pyIter_revIter (s:={ s1 with heap:=s1.heap.push (revObj b ((its.toArray.size:Int) - 1)) }) hT ?_
  refine ⟨s1.heap.objs.size,[s1.heap.objs.size],_,_,H1,rfl,I1.kept (t':=s1.toks) λ b o e=>va1 _ e,qhc b _ xs.length,⟨ji5 _,?_⟩,λ c hc=>?_,q⟩
  ·rw [show (xs.length:Int) - 1 - ((0:Nat):Int)=(its.toArray.size:Int) - 1 by simp;omega]
   exact hT
  ·have e:c=s1.heap.objs.size:=by simpa using hc
   subst e
   exact I1.fpOk (jb2 _) (I1.hok.fresh (jb2 _))
theorem qlx {a:Expr}{ta:TA}{es:List Expr}{k:Nat}{tp p pos:Pos} (hg:Gl X "enumerate") (hm:X.mg "enumerate" = none) (ha:PA X [a] ta) (hs:va7 [a] X.env=[(false,eval a X.env)]):PI X (.Tuple es k tp) (.Call (.Name "enumerate" p) [a] [] pos) (iEnm X.K ta):=by
 intro pins s σ H R I h
 refine Call_ (zjg I hg hm boot_enumerate (vc6 (thn (ha pos pins s σ H _ I h) λ us s1 ⟨vs,H1,I1,r1,q1⟩=>?_) hs rfl))
 obtain ⟨b,xs,e,hq,q⟩:=q1
 subst e
 cases r1 with
 | cons r rr=>
  cases rr
  cases r
  obtain ⟨its,rv,pl,hz⟩:=I1.list hq
  refine call_enumerate_list pl.isList λ h' he hit hsz hk=>?_
  refine wpAny_pyIter_enum (s:={ s1 with heap:=h' }) he ?_
  refine ⟨s1.heap.objs.size + 1,[s1.heap.objs.size + 1,s1.heap.objs.size],_,_,H1,rfl,I1.kept (t':=s1.toks) hk,qd0 b _ _ (Nat.succ_ne_self _),⟨⟨_,he⟩,hit⟩,λ c hc=>?_,q⟩
  rcases ja6.mp hc with e | e
  ·rw [e];exact I1.fpOk (jk4 _) (I1.hok.fresh (jk4 _))
  ·rw [jc3.mp e];exact I1.fpOk (jb2 _) (I1.hok.fresh (jb2 _))
theorem qok {a b:Expr}{ta:TA}{es:List Expr}{k:Nat}{tp p pos:Pos} (hg:Gl X "zip") (hm:X.mg "zip" = none) (ha:PA X [a,b] ta) (hs:va7 [a,b] X.env=[(false,eval a X.env),(false,eval b X.env)]) (hs2:va7 [b] X.env=[(false,eval b X.env)]):
  PI X (.Tuple es k tp) (.Call (.Name "zip" p) [a,b] [] pos) (iZip X.K ta):=by
 intro pins s σ H R I h
 refine Call_ (zjg I hg hm boot_zip (vc6 (thn (ha pos pins s σ H _ I h) λ us s1 ⟨vs,H1,I1,r1,q1⟩=>?_) (by rw [hs,hs2]) (by rw [hs2];rfl)))
 obtain ⟨c,d,xs,ys,e,⟨hq1,hq2,q⟩ | ⟨hq1,hq2,q⟩⟩:=q1
 ·subst e
  cases r1 with
  | cons r rr=>
   cases rr with
   | cons r' rr=>
    cases rr
    cases r
    cases r'
    obtain ⟨its1,rv1,p1,hz1⟩:=I1.list hq1
    obtain ⟨its2,rv2,p2,hz2⟩:=I1.list hq2
    refine call_zip_2 p1.isList p2.isList λ h' hz hTI hTO h1 h2 hsz hk=>?_
    refine vi7 (s:={ s1 with heap:=h' }) hz ?_
    refine ⟨s1.heap.objs.size + 4,[s1.heap.objs.size + 4,s1.heap.objs.size + 2,s1.heap.objs.size + 3,s1.heap.objs.size,s1.heap.objs.size + 1],_,_,H1,rfl,I1.kept (t':=s1.toks) hk,qha c d _ _ _ _ _ (jc6 (jg7 _)) (jc6 (jg7 _)),⟨hz,hTI,⟨_,_,hTO⟩,h1,h2⟩,λ x hx=>?_,q⟩
    have:s1.heap.objs.size<=x:=by
     simp only [ja6,jd2,or_false] at hx
     rcases hx with rfl | rfl | rfl | rfl | rfl
     ·exact jg8 _ _
     ·exact jg8 _ _
     ·exact jg8 _ _
     ·exact jb2 _
     ·exact jg8 _ _
    exact I1.fpOk this (I1.hok.fresh this)
 ·subst e
  cases r1 with
  | cons r rr=>
   cases rr with
   | cons r' rr=>
    cases rr
    cases r
    cases r'
    obtain ⟨its1,rv1,p1,hz1⟩:=I1.tuple (.of hq1)
    obtain ⟨its2,rv2,p2,hz2⟩:=I1.tuple (.of hq2)
    refine qm1 (us:=its1.toArray) (vs:=its2.toArray) p1 p2 λ h' hz hTI hTO h1 h2 hsz hk=>?_
    refine vi7 (s:={ s1 with heap:=h' }) hz ?_
    refine ⟨s1.heap.objs.size + 4,[s1.heap.objs.size + 4,s1.heap.objs.size + 2,s1.heap.objs.size + 3,s1.heap.objs.size,s1.heap.objs.size + 1],_,_,H1,rfl,I1.kept (t':=s1.toks) hk,qkp c d _ _ _ _ _ (jc6 (jg7 _)) (jc6 (jg7 _)),⟨hz,hTI,⟨_,_,hTO⟩,h1,h2⟩,λ x hx=>?_,q⟩
    have:s1.heap.objs.size<=x:=by
     simp only [ja6,jd2,or_false] at hx
     rcases hx with rfl | rfl | rfl | rfl | rfl
     ·exact jg8 _ _
     ·exact jg8 _ _
     ·exact jg8 _ _
     ·exact jb2 _
     ·exact jg8 _ _
    exact I1.fpOk this (I1.hok.fresh this)
end
inductive Vw where
 | rev | enm | zp
def zhj:Nat->List PV->List PV
 | _,[]=>[]
 | i,x::xs=>.tup [.int (i:Int),x]::zhj (i + 1) xs
def zipL:List PV->List PV->List PV
 | x::xs,y::ys=>.tup [x,y]::zipL xs ys
 | _,_=>[]
def zvn:Vw->List PV->Option (List PV)
 | .rev,[.lst xs]=>some xs.reverse
 | .enm,[.lst xs]=>some (zhj 0 xs)
 | .zp,[.lst xs,.lst ys]=>some (zipL xs ys)
 | .zp,[.tup xs,.tup ys]=>some (zipL xs ys)
 | _,_=>none
def qnd (v:Vw) (K:Frag) (ws:List V) (H:Hp) (R:It->Hp->Prop):Prop:=match v with
 | .rev=>∃ a xs,ws=[.ref a]/\SqL K H a xs/\R (ItRv K a xs.length) H
 | .enm=>∃ a xs,ws=[.ref a]/\SqL K H a xs/\R (ItEn K a) H
 | .zp=>∃ a b xs ys,ws=[.ref a,.ref b]/\((SqL K H a xs/\SqL K H b ys/\R (ItZp K a b) H)\/(H a=some (.tup xs)/\H b=some (.tup ys)/\R (ItZt a b) H))
def iVw (v:Vw) (K:Frag) (ta:TA):TI:=λ σ H R=>ta σ H λ ws H1=>qnd v K ws H1 R
theorem zhh:∀ (xs:List PV) (k:Nat),(zhj k xs).length=xs.length
 | [],_=>rfl
 | x::xs,k=>by rw [zhj,ja9,zhh xs,ja9]
theorem zhi:∀ (xs:List PV) (k i:Nat),(zhj k xs)[i]?=(xs[i]?).map λ x=>PV.tup [.int ((k + i:Nat):Int),x]
 | [],_,_=>by simp [zhj]
 | x::xs,k,0=>by simp [zhj]
 | x::xs,k,i + 1=>by
  rw [zhj,jg9,zhi xs (k + 1) i,jg9,show k + 1 + i=k + (i + 1) by omega]
theorem zmk:∀ (xs ys:List PV),(zipL xs ys).length=min xs.length ys.length
 | [],ys=>by simp [zipL]
 | x::xs,[]=>by simp [zipL]
 | x::xs,y::ys=>by rw [zipL,ja9,zmk xs ys,ja9,ja9];omega
theorem zml:∀ (xs ys:List PV) (i:Nat) (x y:PV),xs[i]?=some x->ys[i]?=some y->(zipL xs ys)[i]?=some (.tup [x,y])
 | [],ys,i,x,y,h,_=>by simp at h
 | a::xs,[],i,x,y,_,h=>by simp at h
 | a::xs,b::ys,0,x,y,h,h'=>by simp at h h';subst h h';simp [zipL]
 | a::xs,b::ys,i + 1,x,y,h,h'=>by
  rw [zipL,jg9]
  exact zml xs ys i x y (by simpa using h) (by simpa using h')
theorem Own.growH {K:Frag}{H H':Hp}{Z:Addr->Prop}{x:PV}{v:V} (k:∀ a o,H a=some o->H' a=some o) (h:Own K H Z x 0 v []):Own K H' Z x 0 v []:=
 Own.move (S:=λ _=>False) (λ a o h _=>k a o h) (λ _ z=>z.elim) (λ _ _ n=>n) x 0 v [] (λ _ z=>nomatch z) h
theorem zke {K:Frag}{H:Hp}{Z:Addr->Prop}{xs:List PV}{v:V} (o:Own K H Z (.lst xs) 0 v []):∃ a ws,v=.ref a/\SqL K H a ws/\OwnL K H Z xs 0 ws []:=by
 rw [Own] at o
 obtain ⟨b,ws,e,⟨_,hr,_,ol⟩ | ⟨h,_⟩⟩:=o
 ·exact ⟨b,ws,e,.inl (.inl hr.1),ol⟩
 ·exact absurd rfl h
theorem zjr {K:Frag}{H:Hp}{Z:Addr->Prop}{xs:List PV}{v:V} (o:Own K H Z (.tup xs) 0 v []):∃ a ws,v=.ref a/\H a=some (.tup ws)/\OwnL K H Z xs 0 ws []:=by
 rw [Own] at o
 obtain ⟨a,ws,e,h,ol⟩:=o
 rw [qau] at ol
 exact ⟨a,ws,e,h,ol⟩
theorem zfb {K:Frag}{H:Hp}{Z:Addr->Prop}{x y:PV}{u v:V}{T:Addr} (hT:H T=some (.tup [u,v])) (ox:Own K H Z x 0 u []) (oy:Own K H Z y 0 v []):Own K H Z (.tup [x,y]) 0 (.ref T) []:=by
 rw [Own]
 refine ⟨T,_,rfl,hT,?_⟩
 rw [qau,OwnL]
 refine ⟨u,[v],[],[],rfl,rfl,(λ _ z=>nomatch z),ox,?_⟩
 rw [OwnL]
 exact ⟨v,[],[],[],rfl,rfl,(λ _ z=>nomatch z),oy,by rw [OwnL];exact ⟨rfl,rfl⟩⟩
theorem OwnL.one {K:Frag}{H:Hp}{Z:Addr->Prop}{x:PV}{ws:List V} (o:OwnL K H Z [x] 0 ws []):∃ v,ws=[v]/\Own K H Z x 0 v []:=by
 rw [OwnL] at o
 obtain ⟨v,r,f1,f2,rfl,ef,_,o1,o2⟩:=o
 obtain ⟨rfl,rfl⟩:f1=[]/\f2=[]:=by simpa using ef.symm
 rw [OwnL] at o2
 exact ⟨v,by rw [o2.1],o1⟩
theorem OwnL.two {K:Frag}{H:Hp}{Z:Addr->Prop}{x y:PV}{ws:List V} (o:OwnL K H Z [x,y] 0 ws []):∃ u v,ws=[u,v]/\Own K H Z x 0 u []/\Own K H Z y 0 v []:=by
 rw [OwnL] at o
 obtain ⟨u,r,f1,f2,rfl,ef,_,o1,o2⟩:=o
 obtain ⟨rfl,rfl⟩:f1=[]/\f2=[]:=by simpa using ef.symm
 obtain ⟨v,rfl,o3⟩:=o2.one
 exact ⟨u,v,rfl,o1,o3⟩
theorem OwnL.mono0 {K:Frag}{H H':Hp}{Z Z':Addr->Prop} (h:∀ x v,Own K H Z x 0 v []->Own K H' Z' x 0 v []):∀ {xs:List PV}{ws:List V},OwnL K H Z xs 0 ws []->OwnL K H' Z' xs 0 ws []
 | [],ws,o=>by rw [OwnL] at o ⊢;exact o
 | x::xs,ws,o=>by
  rw [OwnL] at o
  obtain ⟨u,r,f1,f2,rfl,ef,_,o1,o2⟩:=o
  obtain ⟨rfl,rfl⟩:f1=[]/\f2=[]:=by simpa using ef.symm
  rw [OwnL]
  exact ⟨u,r,[],[],rfl,rfl,(λ _ z=>nomatch z),h _ _ o1,OwnL.mono0 h o2⟩
theorem qnc {v:Vw}{ps els:List PV}{ws:List V}{K:Frag}{H:Hp}{Z:Addr->Prop} (he:zvn v ps=some els) (o:OwnL K H Z ps 0 ws []):∃ J,(∀ R:It->Hp->Prop,R J H->qnd v K ws H R)/\∀ H Z,OwnL K H Z ps 0 ws []->∀ i,(i < els.length->J.go i H)/\(els.length<=i->J.stop i H) /\
  (i < els.length->∀ x H',J.yld i H x H'->(∀ a o,H a=some o->H' a=some o)/\∃ y,els[i]?=some y/\Own K H' Z y 0 x []):=by
 unfold zvn at he
 split at he
 ·rename_i xs
  cases he
  obtain ⟨v,rfl,o1⟩:=o.one
  obtain ⟨a,us,rfl,sq,ol⟩:=zke o1
  refine ⟨ItRv K a us.length,λ R r=>⟨a,us,rfl,sq,r⟩,λ H' Z' o' i=>?_⟩
  obtain ⟨v',e,o1'⟩:=o'.one
  cases e
  obtain ⟨a',us',e,sq',ol'⟩:=zke o1'
  cases e
  have hl:=ol.length
  have hl':=ol'.length
  rw [jd1]
  refine ⟨λ h=>⟨by omega,us',us'[us.length - 1 - i]'(by omega),sq',by simp⟩,λ h=>?_,λ h x H2 y=>?_⟩
  ·show us.length<=i
   omega
  ·obtain ⟨rfl,e2⟩:=y
   refine ⟨λ _ _ h=>h,?_⟩
   obtain ⟨z,ez,oz⟩:=ol'.get (e2 us' sq')
   refine ⟨z,?_,oz⟩
   rw [jo2 (by omega),<- ez,hl]
 ·rename_i xs
  cases he
  obtain ⟨v,rfl,o1⟩:=o.one
  obtain ⟨a,us,rfl,sq,ol⟩:=zke o1
  refine ⟨ItEn K a,λ R r=>⟨a,us,rfl,sq,r⟩,λ H' Z' o' i=>?_⟩
  obtain ⟨v',e,o1'⟩:=o'.one
  cases e
  obtain ⟨a',us',e,sq',ol'⟩:=zke o1'
  cases e
  have hl':=ol'.length
  rw [zhh]
  refine ⟨λ h=>⟨us',us'[i]'(by omega),sq',by simp⟩,λ h=>⟨us',sq',by omega⟩,λ h x H2 y=>?_⟩
  obtain ⟨T,u,hT,rfl,rfl,e2⟩:=y
  have kx:∀ a o,H' a=some o->upd H' T (.tup [.int (i:Int),u]) a=some o:=λ a o h=>by rw [zqk (λ z=>by rw [z,hT] at h;cases h)];exact h
  refine ⟨kx,?_⟩
  obtain ⟨z,ez,oz⟩:=ol'.get (e2 us' sq')
  refine ⟨.tup [.int (i:Int),z],?_,zfb zqm (by rw [Own];exact ⟨rfl,rfl⟩) (oz.growH kx)⟩
  rw [zhi,ez]
  simp
 ·rename_i xs ys
  cases he
  obtain ⟨v1,v2,rfl,o1,o2⟩:=o.two
  obtain ⟨a,us,rfl,sq,ol⟩:=zke o1
  obtain ⟨b,vs,rfl,sq2,ol2⟩:=zke o2
  refine ⟨ItZp K a b,λ R r=>⟨a,b,us,vs,rfl,.inl ⟨sq,sq2,r⟩⟩,λ H' Z' o' i=>?_⟩
  obtain ⟨v1',v2',e,o1',o2'⟩:=o'.two
  cases e
  obtain ⟨a',us',e,sq',ol'⟩:=zke o1'
  cases e
  obtain ⟨b',vs',e,sq2',ol2'⟩:=zke o2'
  cases e
  have hl1:=ol'.length
  have hl2:=ol2'.length
  rw [zmk]
  refine ⟨λ h=>⟨us',vs',us'[i]'(by omega),vs'[i]'(by omega),sq',sq2',by simp,by simp⟩,λ h=>⟨us',vs',sq',sq2',by omega⟩,λ h x H2 y=>?_⟩
  obtain ⟨T,u,w,hT,rfl,rfl,e2⟩:=y
  have kx:∀ a o,H' a=some o->upd H' T (.tup [u,w]) a=some o:=λ a o h=>by rw [zqk (λ z=>by rw [z,hT] at h;cases h)];exact h
  obtain ⟨e3,e4⟩:=e2 us' vs' sq' sq2'
  obtain ⟨z1,ez1,oz1⟩:=ol'.get e3
  obtain ⟨z2,ez2,oz2⟩:=ol2'.get e4
  exact ⟨kx,.tup [z1,z2],zml _ _ _ _ _ ez1 ez2,zfb zqm (oz1.growH kx) (oz2.growH kx)⟩
 ·rename_i xs ys
  cases he
  obtain ⟨v1,v2,rfl,o1,o2⟩:=o.two
  obtain ⟨a,us,rfl,sq,ol⟩:=zjr o1
  obtain ⟨b,vs,rfl,sq2,ol2⟩:=zjr o2
  refine ⟨ItZt a b,λ R r=>⟨a,b,us,vs,rfl,.inr ⟨sq,sq2,r⟩⟩,λ H' Z' o' i=>?_⟩
  obtain ⟨v1',v2',e,o1',o2'⟩:=o'.two
  cases e
  obtain ⟨a',us',e,sq',ol'⟩:=zjr o1'
  cases e
  obtain ⟨b',vs',e,sq2',ol2'⟩:=zjr o2'
  cases e
  have hl1:=ol'.length
  have hl2:=ol2'.length
  rw [zmk]
  refine ⟨λ h=>⟨us',vs',us'[i]'(by omega),vs'[i]'(by omega),sq',sq2',by simp,by simp⟩,λ h=>⟨us',vs',sq',sq2',by omega⟩,λ h x H2 y=>?_⟩
  obtain ⟨T,u,w,hT,rfl,rfl,e2⟩:=y
  have kx:∀ a o,H' a=some o->upd H' T (.tup [u,w]) a=some o:=λ a o h=>by rw [zqk (λ z=>by rw [z,hT] at h;cases h)];exact h
  obtain ⟨e3,e4⟩:=e2 us' vs' sq' sq2'
  obtain ⟨z1,ez1,oz1⟩:=ol'.get e3
  obtain ⟨z2,ez2,oz2⟩:=ol2'.get e4
  exact ⟨kx,.tup [z1,z2],zml _ _ _ _ _ ez1 ez2,zfb zqm (oz1.growH kx) (oz2.growH kx)⟩
 ·cases he
section
variable {is:List Nat}{M:Fm}{ρ ρ':Rho}{σ σ':St}{H H' H'':Hp}{fps fps' fps'':Fps}{vs vs':List Nat}
def qdc (v:Vw) (fa:Fa) (vs:List Nat) (asg:PV->Rho->Option Rho) (body:Fs):Fs:=λ ρ=>match fa ρ with
 | .ok (xs,ρ1)=>(match zvn v (xs.map (·.1)) with
  | some els=>zwb asg body els (zxk (if zvv xs=true then om else 0) vs ρ1)
  | none=>.no)
 | .exc c=>.exc c
 | .no=>.no
def zwy (v:Vw) (fa:Fa) (k:Nat) (asg:PV->Rho->Option Rho) (test:Fb) (elt:Fx):Fx:=λ ρ=>match fa ρ with
 | .ok (xs,ρ1)=>(match zvn v (xs.map (·.1)) with
  | some els=>(zwx k asg test elt els ρ1 []).bindN λ (acc,ρ2)=>zzw acc ρ2
  | none=>.no)
 | .exc c=>.exc c
 | .no=>.no
theorem Rep.seens {xs:List (PV×Nat)}{ws:List V}{fp:List Addr} (rep:Rep M ρ σ H fps) (k:KD M H fps H' fps') (g:Agr M ρ ρ') (r':Rep M ρ' σ H' fps') (o:Tmps M.K H' (Zv M vs fps') xs ws fp) (t:Temp M vs H H' fps' fp)
  (hal:∀ i,M.al i=[]) (hv:∀ i∈vs,M.Ms i=false):∃ fps2,KS M H fps H' fps2/\Rep M (zxk (if zvv xs=true then om else 0) vs ρ') σ H' fps2/\OwnL M.K H' (Zf M fps2) (xs.map (·.1)) 0 ws []:=by
 unfold zxk
 cases ho:zvv xs with
 | true=>
  rw [if_pos rfl,if_pos rfl]
  refine ⟨fps',k.ks,r',?_⟩
  exact OwnL.freeze (λ _ z=>z) _ om ws fp (λ a ha=>t.ndj a ha) (OwnL.full _ ws fp (o.all (zkk ho)))
 | false=>
  rw [if_neg jb6,if_neg (by decide)]
  exact ⟨zkx vs fps',k.ks.cool,r'.cool hal hv,(o.cold λ a ha z=>t.ndj a ha z.zf).weak λ a h=>zkl h⟩
theorem qd3 {v:Vw}{g:TG}{asg:PV->Rho->Option Rho}{body:Fs}{fa:Fa}{D:Ends} (hal:∀ i,M.al i=[]) (hv:∀ i∈vs,M.Ms i=false) (hg:GOk M [] is g asg) (hq:tS M (qdc v fa vs asg body) D σ H):tFor (iVw v M.K (tL M fa vs)) g (tS M body) D σ H:=by
 obtain ⟨ρ,fps,rep,q⟩:=hq
 refine ⟨ρ,fps,rep,?_⟩
 unfold qdc at q
 cases ef:fa ρ with
 | no=>rw [ef] at q;exact q
 | exc c=>rw [ef] at q;exact λ H' fps' k=>q _ H' fps' k.ks
 | ok p=>
  obtain ⟨xs,ρ1⟩:=p
  rw [ef] at q
  intro ws H1 fps1 f1 k1 g1 rep1 o1 t1
  dsimp only at q
  cases ee:zvn v (xs.map (·.1)) with
  | none=>rw [ee] at q;exact q.elim
  | some els=>
   rw [ee] at q
   obtain ⟨fps2,k2,r2,o2⟩:=Rep.seens rep k1 g1 rep1 o1 t1 hal hv
   obtain ⟨J,hpre,hJ⟩:=qnc ee o2
   refine hpre _ ?_
   exact zbz (Pq:=λ H fps=>OwnL M.K H (Zf M fps) (xs.map λ (p:PV×Nat)=>p.1) 0 ws []) (els:=els) hg (λ r k o=>o.mono0 λ x v h=>k.stay0 r h) (λ {H fps i} o h=>(hJ H _ o i).1 h) (λ {H fps i} o h=>(hJ H _ o i).2.1 h) (λ {ρ σ H fps i x H'} _ o h y=>(hJ H _ o i).2.2 h x H' y) r2 o2 (RsOk.from k2 q)
theorem qhf {v:Vw}{g:TG}{is vI vE vo:List Nat}{asg:PV->Rho->Option Rho}{test:Fb}{elt:Fx}{fa:Fa}{k n:Nat}{Q:VK}{P:Fm->Prop}
  (hn:σ.length=n) (hP:∀ D,P (M.comp D n vI)) (hal:∀ i,∀ j∈M.al i,M.Ms j=false) (hvI:∀ i∈vI,M.Ms i=false) (hvE:∀ i∈vE,M.Ms i=false) (his:∀ i∈is,n<=i) (hg:∀ D,GOk (M.comp D n vI) vI is g asg)
  (hvo:∀ i,i∈vE->i < n->i∈vo) (hvo2:∀ i∈vo,M.Ms i=false) (hq:tE M (zwy v fa k asg test elt) vo σ H Q):
  qai k (iVw v M.K (tL M fa vI)) g (λ σ H Q=>∃ M',P M'/\tT M' test σ H Q) (λ σ H Q=>∃ M',P M'/\tE M' elt vE σ H Q) σ H Q:=by
 obtain ⟨ρ,fps,rep,q⟩:=hq
 refine ⟨ρ,fps,rep,?_⟩
 unfold zwy at q
 cases ef:fa ρ with
 | no=>rw [ef] at q;exact q
 | exc c=>rw [ef] at q;exact q
 | ok p=>
  obtain ⟨xs,ρ1⟩:=p
  rw [ef] at q
  intro ws H1 fps1 f1 k1 g1 rep1 o1 t1
  dsimp only at q
  cases ee:zvn v (xs.map (·.1)) with
  | none=>rw [ee] at q;exact q.elim
  | some els=>
   rw [ee] at q
   have hl:n=ρ1.length:=by rw [rep1.len];exact hn.symm
   have o0:OwnL M.K H1 (Zv M vI fps1) (xs.map (·.1)) 0 ws []:=o1.cold λ a ha z=>t1.ndj a ha z.zf
   obtain ⟨J,hpre,hJ⟩:=qnc ee o0
   refine hpre _ ?_
   have stay:∀ {D H' fps'},H1 D=none->KD M H1 fps1 H' fps'->OwnL M.K H' (Zv (M.plus [D]) vI fps') (xs.map (·.1)) 0 ws []:=λ hD k'=>o0.mono0 λ x v h=>KD.seen rep1 k' hD hvI h
   refine zyj (els:=els) hP hl hal hvI hvE his hg hvo hvo2 rep1 (λ {D H' fps' i} hD k' h=>(hJ H' _ (stay hD k') i).1 h) (λ {D H' fps' i} hD k' h=>(hJ H' _ (stay hD k') i).2.1 h) (λ {D H' fps' i x H''} hD k' h y=>(hJ H' _ (stay hD k') i).2.2 h x H'' y) ?_
   dsimp only at q
   cases ec:zwx k asg test elt els ρ1 [] with
   | no=>rw [ec] at q;exact q.elim
   | exc c=>rw [ec] at q;exact q.elim
   | ok p=>
    obtain ⟨acc,ρ2⟩:=p
    rw [ec] at q
    exact λ D ws H' fps' fpl k g r hD hD' tm hf=>zfo rep1 k1 g1 q k g r hD hD' tm hf
end
section
variable {X:Cx}{M:Fm}{f g:Fx}{fa:Fa}{vs vs':List Nat}{a b e:Expr}{es:List Expr}{pos p p2:Pos}{σ:St}{H:Hp}{Q:VK}
def opRv:PV->Nat->Option (PV×Nat)
 | .lst xs,_=>some (.lst xs.reverse,d1 xs.reverse)
 | .str z,_=>if z.length<=va8 then some (.str ⟨z.cps.toList.reverse.toArray⟩,om) else none
 | _,_=>none
def rRv (K:Frag):V->Hp->VK->Prop:=λ x H1 Q=>(∃ l xs,x=.ref l/\SqL K H1 l xs/\∀ p,H1 p=none->Q (.ref p) (upd H1 p (.lst xs.reverse)))\/∃ z,x=.str z/\z.length<=va8/\Q (.str ⟨z.cps.toList.reverse.toArray⟩) H1
theorem qll (z:Str) (tk u:Tok):PySem.sliceMade z tk none none (some (-1,u))=.str ⟨z.cps.toList.reverse.toArray⟩:=by
 unfold PySem.sliceMade PySem.slicePicked
 rw [if_neg (by simp)]
 have e:vh3 none none (-1) z.length=(ja2 z.cps.size).reverse:=by
  have e1:vh3 none none (-1) z.length=sliceRange ((z.length:Int) - 1) (-1) (-1):=rfl
  rw [e1,PySem.W.krv_sliceRange,PySem.W.krv_range]
  rfl
 show Made.str ⟨((vh3 none none (-1) z.length).filterMap (z.cps[·]?)).toArray⟩=_
 rw [e,List.filterMap_reverse,PySem.W.krv_all]
theorem qbc:∀ {xs:List V}{us:List va2},Vals xs us->Vals xs.reverse us.reverse
 | _,_,.nil=>.nil
 | _,_,.cons r rr=>by rw [jk5,jk5];exact (qbc rr).append (.cons r .nil)
theorem OwnL.snoc0 {K:Frag}{H:Hp}{Z:Addr->Prop}{x:PV}{v:V}:∀ {xs:List PV}{ws:List V},OwnL K H Z xs 0 ws []->Own K H Z x 0 v []->OwnL K H Z (xs++[x]) 0 (ws++[v]) []
 | [],ws,h,o=>by
  rw [OwnL] at h
  obtain ⟨rfl,_⟩:=h
  rw [ji3,ji3,OwnL]
  exact ⟨v,[],[],[],rfl,rfl,(λ _ z=>nomatch z),o,by rw [OwnL];exact ⟨rfl,rfl⟩⟩
 | y::xs,ws,h,o=>by
  rw [OwnL] at h
  obtain ⟨u,r,f1,f2,rfl,ef,_,o1,o2⟩:=h
  obtain ⟨rfl,rfl⟩:f1=[]/\f2=[]:=by simpa using ef.symm
  rw [jn3,jn3,OwnL]
  exact ⟨u,r++[v],[],[],rfl,rfl,(λ _ z=>nomatch z),o1,OwnL.snoc0 o2 o⟩
theorem OwnL.rev {K:Frag}{H:Hp}{Z:Addr->Prop}:∀ {xs:List PV}{ws:List V},OwnL K H Z xs 0 ws []->OwnL K H Z xs.reverse 0 ws.reverse []
 | [],ws,h=>by
  rw [OwnL] at h
  obtain ⟨rfl,_⟩:=h
  rw [List.reverse_nil,OwnL];exact ⟨rfl,rfl⟩
 | y::xs,ws,h=>by
  rw [OwnL] at h
  obtain ⟨u,r,f1,f2,rfl,ef,_,o1,o2⟩:=h
  obtain ⟨rfl,rfl⟩:f1=[]/\f2=[]:=by simpa using ef.symm
  rw [jk5,jk5]
  exact OwnL.snoc0 (OwnL.rev o2) o1
theorem qqk {te:TE}{k:Nat}{p3 p4:Pos} (he:PE X a te):PE X (.Subscript a (.Slice none none (some (.UnaryOp .USub (.Constant (.int 1) k p3) p4)) p2) pos) (tUn (rRv X.K) te):=by
 intro pins s σ H Q I h
 refine Subscript_ (thn (he pins s σ H _ I h) λ v s1 ⟨x,H1,I1,r1,q1⟩=>?_)
 have hp:=zbm (qoo (pos:=p4) qjg (qbt (X:=X) (i:=1) (j:=k) (pos:=p3)))
 have hn:PO X none qag:=qat
 obtain ⟨l,xs,rfl,hq,q⟩ | ⟨z,rfl,hz,q⟩:=q1
 ·cases r1
  refine wpAny_Slice (thn (hn pins s1 σ H1 (λ o H'=>o=none/\H'=H1) I1 ⟨rfl,rfl⟩) λ vl s2 ⟨o2,H2,I2,p2',e2⟩=>?_)
  obtain ⟨rfl,rfl⟩:=e2
  refine thn (hn pins s2 σ H2 (λ o H'=>o=none/\H'=H2) I2 ⟨rfl,rfl⟩) λ vu s3 ⟨o3,H3,I3,p3',e3⟩=>?_
  obtain ⟨rfl,rfl⟩:=e3
  refine thn (hp pins s3 σ H3 (λ o H'=>o=some (-1)/\H'=H3) I3 ⟨1,rfl,-1,rfl,rfl,rfl⟩) λ vk s4 ⟨o4,H4,I4,p4',e4⟩=>?_
  obtain ⟨rfl,rfl⟩:=e4
  have I5:Inv X pins σ H4 { s4 with heap:=s4.heap.push { cls:=.type "slice",data:=.fields #[vl,vu,vk] } }:=I4.kept (t':=s4.toks) λ b ob q=>va1 _ q
  obtain ⟨its,r,ht,hz⟩:=I5.list hq
  have hlen:=r.length
  show vb3 (vb4 X.prog X.w) X.A (vk6 a (.Slice none none (some (.UnaryOp .USub (.Constant (.int 1) k p3) p4)) p2) (.ref l) (.ref s4.heap.objs.size)) (EP X pins σ Q) X.xe { s4 with heap:=s4.heap.push { cls:=.type "slice",data:=.fields #[vl,vu,vk] } }
  refine tail_any (ops:=[.ref l,.ref s4.heap.objs.size]) ht.isList.typeIs slot_list_getitem.lookup ?_ (by with_unfolding_all rfl)
  refine wpAny_getItem_list_slice ht.isList (Heap.IsSliceOf.new ..) p2' p3' p4' (by simp) ?_ (by rw [jc0] <;> omega)
  rw [PySem.W.krv_pick]
  refine ⟨.ref _,_,I5.laid (o:=.lst xs.reverse) (λ b ob q=>va1 _ q) (jb2 _) ?_,rfl,q _ (I5.hok.fresh (jb2 _))⟩
  refine ⟨by rw [jd1];exact hz,its.reverse,0,qbc r,va6 _ rfl⟩
 ·obtain ⟨tk,rfl⟩:=r1
  refine wpAny_Slice (thn (hn pins s1 σ H1 (λ o H'=>o=none/\H'=H1) I1 ⟨rfl,rfl⟩) λ vl s2 ⟨o2,H2,I2,p2',e2⟩=>?_)
  obtain ⟨rfl,rfl⟩:=e2
  refine thn (hn pins s2 σ H2 (λ o H'=>o=none/\H'=H2) I2 ⟨rfl,rfl⟩) λ vu s3 ⟨o3,H3,I3,p3',e3⟩=>?_
  obtain ⟨rfl,rfl⟩:=e3
  refine thn (hp pins s3 σ H3 (λ o H'=>o=some (-1)/\H'=H3) I3 ⟨1,rfl,-1,rfl,rfl,rfl⟩) λ vk s4 ⟨o4,H4,I4,p4',e4⟩=>?_
  obtain ⟨rfl,rfl⟩:=e4
  cases p2'
  cases p3'
  cases p4' with
  | int _ u=>
   have I5:Inv X pins σ H4 { s4 with heap:=s4.heap.push { cls:=.type "slice",data:=.fields #[.none,.none,.int (-1) u] } }:=I4.kept (t':=s4.toks) λ b ob q=>va1 _ q
   show vb3 (vb4 X.prog X.w) X.A (vk6 a (.Slice none none (some (.UnaryOp .USub (.Constant (.int 1) k p3) p4)) p2) (.str z tk) (.ref s4.heap.objs.size)) (EP X pins σ Q) X.xe { s4 with heap:=s4.heap.push { cls:=.type "slice",data:=.fields #[.none,.none,.int (-1) u] } }
   refine tail_any (ops:=[.str z tk,.ref s4.heap.objs.size]) (typeIs_str _ z tk) PySem.F.slot_str_getitem.lookup ?_ (by with_unfolding_all rfl)
   refine wpAny_getItem_str_slice (l:=none) (u:=none) (st:=some (-1,u)) ⟨_,va6 _ rfl,rfl,rfl⟩ rfl ?_
   rw [qll]
   refine ⟨?_,.str _,H4,I5.tok _,⟨_,rfl⟩,q⟩
   show z.cps.toList.reverse.toArray.size<=va8
   have hz':z.cps.size<=va8:=hz
   simpa using hz'
theorem qqd {k:Nat}{p3 p4:Pos} (hK:M.K=X.K) (ha:PE X a (tE M f vs)):PE X (.Subscript a (.Slice none none (some (.UnaryOp .USub (.Constant (.int 1) k p3) p4)) p2) pos) (tE M (bUn opRv f) vs):=by
 refine zqv (qqk ha) λ σ H Q h=>qc8 (λ x d z c v H fps f1 Q ho o1 nz zd lf=>?_) h
 cases x with
 | lst xs=>
  cases ho
  obtain ⟨q,us,rfl,hs,ol⟩:=(cold o1 λ a ha=>nz a ha).coldL
  exact .inl ⟨q,us,rfl,.inl (.inl hs),λ l hl=>zwe lf (OwnL.rev ol) hl⟩
 | str z=>
  dsimp only [opRv] at ho
  split at ho
  ·rename_i hl
   cases ho
   rw [Own] at o1
   exact .inr ⟨z,o1.1,hl,qb6 lf⟩
  ·cases ho
 | _=>cases ho
def zbp:List (PV×Nat)->Option (PV×Nat)
 | [(.bl b,_)]=>some (.int (if b then 1 else 0),om)
 | [(.int i,_)]=>some (.int i,om)
 | _=>none
theorem qli (hg:Gl X "int") (hm:X.mg "int" = none) (ha:PA X (e::es) (tL M fa vs)) (he:va7 (e::es) X.env=(false,eval e X.env)::va7 es X.env) (hpl:(vg1 pos (va7 es X.env)).any (·.1)=false):
  PE X (.Call (.Name "int" p) (e::es) [] pos) (tE M (zqd zbp fa) vs):=by
 refine zqv (zbn qgz hg hm rfl ha (he:=he) (hpl:=hpl)) λ σ H Q h=>zze (λ xs z c ws H fps fp Q ho tm nz zd lf=>?_) h
 unfold zbp at ho
 split at ho
 ·cases ho
  obtain ⟨v,r,f1,f2,rfl,rfl,_,o1,h2⟩:=tm
  obtain ⟨rfl,rfl⟩:=h2
  rw [Own] at o1
  exact .inr ⟨_,by rw [o1.1],zxh lf⟩
 ·cases ho
  obtain ⟨v,r,f1,f2,rfl,rfl,_,o1,h2⟩:=tm
  obtain ⟨rfl,rfl⟩:=h2
  rw [Own] at o1
  exact .inl ⟨_,by rw [o1.1],zxh lf⟩
 ·cases ho
end
section
variable {M:Fm}{fa:Fa}{vs:List Nat}
def spM (K:Frag) (F:Fn):Sp:=λ ws H Q _=>∃ x0 v0 fp0,ws=[v0]/\Own K H (λ _=>True) x0 om v0 fp0/\(match F [x0] with
 | .ok (y,_,_)=>qab y=true/\∀ v H',Keep (λ a=>a∈fp0) H H'->(∀ a,H a≠none->H' a≠none)->Own K H' (λ _=>True) y om v []->Q v H'
 | _=>False)
end
section
variable {X:Cx}{M:Fm}{f g:Fx}{vs vs':List Nat}{σ:St}{H:Hp}{Q:VK}
end
section
variable {pg:vb0}{wd:vc1}{Ar:vc0}{Er:va2->va3->Prop}{st:va3}
end
section
variable {X:Cx}{M:Fm}{f:Fx}{vs:List Nat}{a:Expr}{pos p p2 pos2:Pos}
end
theorem zgv:∀ f n r:Nat,minRun' f n r<=n + r
 | 0,n,r=>jb2 _
 | f + 1,n,r=>by
  rw [minRun'_succ]
  split
  ·exact jb2 _
  ·have:=zgv f (n / 2) (max r (n % 2))
   omega
section
variable {prog:vb0}{w:vc1}{A:vc0}{E:va2->va3->Prop}{s:va3}{a₀:Array Keyed}
theorem qln {z:SortSt}{R:Option Nat->SortSt->Prop} (hk:IntKeys a₀) (h1:1<=a₀.size) (b:SBase a₀ z) (up:SortedTo (arrOf z) a₀.size) (hR:R (some a₀.size) z):wpS (vb4 prog w) A E s (countRun' 0 a₀.size) R z:=by
 rw [countRun0_eq]
 refine vj4 (wpS_ascLoop hk (jb2 _) (jb2 1) h1 b (λ i j hij hj=>up i j hij (by omega)) λ n q1 q2 _ q3=>?_)
 dsimp only
 have en:n=a₀.size:=by
  rcases q3 with e | e
  ·exact e
  ·by_cases hn:n=a₀.size
   ·exact hn
   ·have:=up (n - 1) n (by omega) (by omega)
    omega
 subst en
 rw [if_pos (beq_self_eq_true _)]
 exact wpS_pure hR
theorem qlm {z:SortSt}{R:Unit->SortSt->Prop} (hk:IntKeys a₀) (b:SBase a₀ z) (h1:1<=a₀.size) (up:SortedTo (arrOf z) a₀.size) (hR:∀ z',SDone a₀ z'->R () z'):wpS (vb4 prog w) A E s sortRuns' R z:=by
 rw [sortRuns'_eq]
 refine vj4 (wpS_get ?_)
 dsimp only
 have lr:=zgv a₀.size a₀.size 0
 simp only [b.size]
 generalize minRun' a₀.size a₀.size 0=mr at lr
 refine vj4 (wpS_mono (wpS_forRange (I:=λ x c z'=>(x=0/\c=(none,0)/\z'=z)\/(1<=x/\c=(none,a₀.size)/\SDone a₀ z')) (Q:=λ c z'=>c=(none,a₀.size)/\SDone a₀ z') ?st ?en (.inl ⟨rfl,rfl,rfl⟩)) ?po)
 case en=>
  rintro c z' (⟨hx,_,_⟩ | ⟨_,hc,hD⟩)
  ·omega
  ·exact ⟨hc,hD⟩
 case st=>
  rintro x c z' _ hx (⟨rfl,rfl,rfl⟩ | ⟨_,rfl,hD⟩)
  ·dsimp only
   rw [if_neg (by omega)]
   simp only [jq8,jm4]
   refine vj4 (qln hk h1 b up ?_)
   dsimp only
   rw [if_neg (by omega)]
   refine vj4 (wpS_get ?_)
   have hb:(pendingOf z').back?=none:=by rw [b.pend];rfl
   rw [hb]
   dsimp only
   exact vj4 (wpS_modify (wpS_pure (.inr ⟨by omega,rfl,b.done up⟩)))
  ·dsimp only
   rw [if_pos (jb2 _)]
   exact wpS_pure ⟨rfl,hD⟩
 case po=>
  rintro c z' ⟨rfl,hD⟩
  dsimp only
  refine vj4 (wpS_mono (wpS_forRange (I:=λ _ c y=>y=z'/\c=(none,())) (Q:=λ c y=>y=z'/\c=(none,())) ?_ (λ _ _ hh=>hh) ⟨rfl,rfl⟩) ?_)
  ·rintro x c y _ _ ⟨rfl,rfl⟩
   refine vj4 (wpS_get ?_)
   rw [if_pos (by rw [hD.2.2.1];exact jb2 1)]
   exact wpS_pure ⟨rfl,rfl⟩
  ·rintro c y ⟨rfl,rfl⟩
   exact wpS_pure (hR _ hD)
end
theorem qg9 {us:List va2}{ns:List Int} (hI:vh2 us ns) (up:ns.Pairwise (·<=·)):SortedTo (vm4 us) (vm4 us).size:=by
 have en:=hI.nums
 intro i j hij hj
 have hl:=pairsOf_size us
 have q:∀ m,m < us.length->K (vm4 us) m=(us.map numOf).getD m 0:=λ m hm=>by
  rw [K_eq (by omega)]
  simp [vm4,jp3,hm]
 rw [q i (by omega),q j (by omega),en]
 have ll:ns.length=us.length:=by rw [<- en,ja3]
 rcases jq9 i j with z | z
 ·have:=(List.pairwise_iff_getElem.mp up) i j (by omega) (by omega) z
  simpa [jp3,show i < ns.length by omega,show j < ns.length by omega] using this
 ·rw [show i=j by omega]
  exact ji6 _
section
variable {prog:vb0}{w:vc1}{A:vc0}{E:va2->va3->Prop}{s:va3}
theorem qla {a:Addr}{us:List va2}{ns:List Int}{n:Nat}{P:Fin->va3->Prop} (ho:s.heap.get? a=some (vc3 "list" us.toArray n)) (hI:vh2 us ns) (up:ns.Pairwise (·<=·)) (h1:2<=us.length) (hz:us.length<=va8)
  (h:∀ (out:Array va2) (ms:List Int),vh2 out.toList ms->ms.Perm ns->ms.Pairwise (·<=·)->P (.done (.ret .none)) { s with heap:=sortedHeap s.heap a us out }):vb3 (vb4 prog w) A (vf6.«list.sort» ⟨[.ref a],[]⟩) P E s:=by
 rw [vm5]
 have la:=va4 ho
 refine va0 (listItems_at ho rfl ?_)
 refine va0 (vg6 ho rfl ?_ (by simpa using hz))
 obtain ⟨e1,oa⟩:∃ e1,(s.heap.update a (vb6 λ _=>#[])).get? a=some (vc3 "list" #[] e1):=⟨_,vm8 ho (λ _=>#[])⟩
 refine va0 (vi3 oa rfl ?_)
 refine va0 (vj9 ?_)
 refine va0 (vg5 ?_)
 refine vd9 ?_
 have ob:(((s.heap.update a (vb6 λ _=>#[])).push (vc3 "tuple" us.toArray 0)).push (vc3 "list" #[] 0)).get? a=some (vc3 "list" #[] e1):=by
  rw [vf1 _ _ _ (by rw [vj6,vd4];exact jc6 (jg0 la)),vf1 _ _ _ (by rw [vd4];exact jc6 la)]
  exact oa
 show vb3 (vb4 prog w) A _ P E { s with heap:=((s.heap.update a (vb6 λ _=>#[])).push (vc3 "tuple" us.toArray 0)).push (vc3 "list" #[] 0) }
 dsimp only
 have lz:us.toArray.size=us.length:=by simp
 rw [if_neg (by omega),if_neg (by omega)]
 have dn:∀ z':SortSt,SDone (vm4 us) z'->P (.done (.ret .none)) { s with heap:=sortedHeap s.heap a us ((arrOf z').map (·.2)) }:=λ z' d=>by
  obtain ⟨ms,m1,m2,m3⟩:=sorted_out hI d.1 d.2.2.2
  exact h _ ms m1 m2 m3
 match us,h1,hI,up,lz,ob,dn,hz with
 | u1::u2::ur,_,hI,up,lz,ob,dn,hz=>
  rw [keyKind_ints hI]
  refine va0 (va5 ?_)
  refine va0 (ve9 (qlm (a₀:=vm4 (u1::u2::ur)) (z:=SortSt.mk' oneType' ((u1::u2::ur).toArray.zip (u1::u2::ur).toArray) #[] 7 none) (R:=λ _ z'=>SDone (vm4 (u1::u2::ur)) z') hI.intKeys ⟨Array.Perm.refl _,rfl,rfl,rfl⟩ (by rw [pairsOf_size];simp) (qg9 hI up) λ z' d=>d) ?_ λ _ _ e=>e)
  rintro ⟨⟨⟩,z'⟩ y ⟨rfl,d⟩
  dsimp only
  refine va0 (vi3 ob rfl ?_)
  refine va0 (vg6 ob rfl ?_ (hsz2:=by refine jd5 (jq6 ((Array.size_map ..).trans (d.1.size_eq.trans (pairsOf_size _)))) ?_;omega))
  rw [d.2.1]
  simp only [bne_self_eq_false,jm5,if_false]
  exact va5 (dn z' d)
theorem qee {l:Addr}{us:List va2}{ns:List Int}{Q:va2->va3->Prop} (hl:s.heap.IsList l us.toArray) (hI:vh2 us ns) (up:ns.Pairwise (·<=·)) (h1:2<=us.length) (hz:us.length<=va8)
  (h:∀ (out:Array va2) (ms:List Int),vh2 out.toList ms->ms.Perm ns->ms.Pairwise (·<=·)->Q (.ref (s.heap.objs.size + 1)) { s with heap:=vi9 s.heap us out }):vb3 (vb4 prog w) A (call (.builtin "sorted") [.ref l]) Q E s:=by
 refine vh8 kind_sorted plain_sorted entry_sorted (args_sorted1 _) ?_
 unfold vf6.«sorted»
 refine va0 (m:=checkCount "sorted" 1 1 _) (va5 ?_)
 refine va0 (collect_list hl ?_ hz)
 refine va0 (vg5 ?_)
 have lz:((s.heap.push (vc3 "list" #[] 0)).update s.heap.objs.size (vb6 (·++us.toArray))).objs.size=s.heap.objs.size + 1:=by
  rw [vd4,vj6]
 have oL:(((s.heap.push (vc3 "list" #[] 0)).update s.heap.objs.size (vb6 (·++us.toArray))).push (vc3 "list" us.toArray 0)).get? (s.heap.objs.size + 1)=some (vc3 "list" us.toArray 0):=by
  rw [<- lz];exact va6 _ rfl
 show vb3 _ _ _ _ _ { s with heap:=((s.heap.push (vc3 "list" #[] 0)).update s.heap.objs.size (vb6 (·++us.toArray))).push (vc3 "list" us.toArray 0) }
 rw [lz]
 refine va0 (vd9 (vd7 vo1 ⟨_,oL,rfl⟩ vn0 (qla oL hI up h1 hz λ out ms a1 a2 a3=>⟨_,rfl,?_⟩) (vo3 _)))
 exact va5 ⟨_,rfl,h out ms a1 a2 a3⟩
end
def ins (a:Int):List Int->List Int
 | []=>[a]
 | b::r=>if a<=b then a::b::r else b::ins a r
def srt:List Int->List Int
 | []=>[]
 | a::r=>ins a (srt r)
theorem zfi (a:Int):∀ l,(ins a l).Perm (a::l)
 | []=>.refl _
 | b::r=>by
  unfold ins
  split
  ·exact .refl _
  ·exact ((zfi a r).cons b).trans (.swap a b r)
theorem zmq:∀ l,(srt l).Perm l
 | []=>.refl _
 | a::r=>(zfi a _).trans ((zmq r).cons a)
theorem qj3 (a:Int):∀ l:List Int,l.Pairwise (·<=·)->(ins a l).Pairwise (·<=·)
 | [],_=>by simp [ins]
 | b::r,h=>by
  rw [ji0] at h
  unfold ins
  split
  ·rename_i hab
   refine ji0.mpr ⟨λ c hc=>?_,ji0.mpr h⟩
   rcases ja6.mp hc with rfl | hc
   ·exact hab
   ·exact jk8 hab (h.1 c hc)
  ·rename_i hab
   refine ji0.mpr ⟨λ c hc=>?_,qj3 a r h.2⟩
   rcases ja6.mp ((zfi a r).mem_iff.mp hc) with rfl | hc
   ·omega
   ·exact h.1 c hc
theorem qjm:∀ l:List Int,(srt l).Pairwise (·<=·)
 | []=>.nil
 | a::r=>qj3 a _ (qjm r)
theorem qjf:∀ {l l':List Int},l.Perm l'->l.Pairwise (·<=·)->l'.Pairwise (·<=·)->l=l'
 | [],l',p,_,_=>(List.nil_perm.mp p).symm
 | a::r,[],p,_,_=>by simpa using p.length_eq
 | a::r,b::r',p,h,h'=>by
  rw [ji0] at h h'
  have e:a=b:=by
   have h1:=p.mem_iff.mp (ja4 (a:=a) (l:=r))
   have h2:=p.mem_iff.mpr (ja4 (a:=b) (l:=r'))
   rcases ja6.mp h1 with z | z
   ·exact z
   ·rcases ja6.mp h2 with y | y
    ·exact y.symm
    ·exact js3 (h.1 b y) (h'.1 a z)
  subst e
  rw [qjf (List.perm_cons a |>.mp p) h.2 h'.2]
theorem zfh:∀ {ns:List Int}{us:List va2},Vals (ns.map V.int) us->vh2 us ns
 | [],_,.nil=>.nil
 | n::r,_,.cons h t=>by
  obtain ⟨k,rfl⟩:=h
  exact .cons _ _ (zfh t)
theorem qc1:∀ {us:List va2}{ns:List Int},vh2 us ns->Vals (ns.map V.int) us
 | _,_,.nil=>.nil
 | _,_,.cons _ _ t=>.cons ⟨_,rfl⟩ (qc1 t)
section
variable {X:Cx}{M:Fm}{fa:Fa}{vs:List Nat}{e:Expr}{es:List Expr}{pos p:Pos}
def qm8 (ns:List Int):Prop:=ns.length < 64\/(ns.Pairwise (·<=·)/\ns.length<=va8)
instance (ns:List Int):Decidable (qm8 ns):=inferInstanceAs (Decidable (_\/_))
theorem qi6:CallR X (.builtin "sorted") (λ xs H Q=>∃ q ns,xs=[.ref q]/\SqL X.K H q (ns.map V.int)/\qm8 ns/\∀ l,H l=none->Q (.ref l) (upd H l (.lst ((srt ns).map V.int)))):=by
 intro pins s σ H xs us Q I rv h
 obtain ⟨q,ns,rfl,hq,hl,k⟩:=h
 obtain ⟨u,rfl,rx⟩:=zyo rv
 cases rx
 obtain ⟨its,r,pl,hz⟩:=I.list hq
 have hlen:=r.length
 rw [ja3] at hlen
 have go:∀ (out:Array va2) (ns':List Int),vh2 out.toList ns'->ns'.Perm ns->ns'.Pairwise (·<=·)->EP X pins σ Q (.ref (s.heap.objs.size + 1)) { s with heap:=vi9 s.heap its out }:=λ out ns' a1 a2 a3=>by
  obtain ⟨c,hc⟩:=sortedAll_at s.heap its out
  have e1:ns'=srt ns:=qjf (a2.trans (zmq ns).symm) a3 (qjm ns)
  subst e1
  refine ⟨.ref _,_,I.laid (h':=vi9 s.heap its out) (t':=s.toks) (o:=.lst ((srt ns).map V.int)) (λ b o e=>sortedAll_old e) (jk4 _) ?_,rfl,k _ (I.hok.fresh (jk4 _))⟩
  refine ⟨by rw [ja3,(zmq ns).length_eq];exact hl.elim (λ h=>jd5 (jn9 h) (by decide)) (·.2),out.toList,c,qc1 a1,hc⟩
 by_cases h64:ns.length < 64
 ·exact sorted_ints pl.isList (zfh r) (by omega) go
 ·obtain ⟨up,hz'⟩:=hl.resolve_left h64
  exact qee pl.isList (zfh r) up (by omega) (by omega) go
def ql5:List (PV×Nat)->Option (PV×Nat)
 | [(.lst xs,_)]=>match zkr xs with
  | some ns=>if qm8 ns then some (.lst ((srt ns).map PV.int),om) else none
  | none=>none
 | _=>none
theorem qce {K:Frag}{H:Hp}{Z:Addr->Prop}:∀ ns:List Int,OwnL K H Z (ns.map PV.int) 0 (ns.map V.int) []
 | []=>by rw [jf0,jf0,OwnL];exact ⟨rfl,rfl⟩
 | n::r=>by
  rw [jb7,jb7,OwnL]
  exact ⟨_,_,[],[],rfl,rfl,(λ _ z=>nomatch z),by rw [Own];exact ⟨rfl,rfl⟩,qce r⟩
theorem qf1:∀ ns:List Int,zft (ns.map PV.int)=true
 | []=>rfl
 | n::r=>by
  rw [jb7]
  exact qf1 r
def maxI:Int->List Int->Int
 | n,[]=>n
 | n,m::r=>maxI (if m > n then m else n) r
theorem qb2:∀ (r:List Int) (n:Int),maxI n r∈n::r
 | [],n=>ja4
 | m::r,n=>by
  have q:=qb2 r (if m > n then m else n)
  show maxI (if m > n then m else n) r∈_
  rcases ja6.mp q with z | z
  ·rw [z]
   split <;> simp
  ·simp [z]
theorem qff:∀ (r:List Int) (n:Int),∀ a∈n::r,a<=maxI n r
 | [],n,a,h=>by
  have e:a=n:=by simpa using h
  rw [e];exact ji6 _
 | m::r,n,a,h=>by
  show a<=maxI (if m > n then m else n) r
  have q:=qff r (if m > n then m else n)
  have q1:=q _ ja4
  have q2:n<=(if m > n then m else n)/\m<=(if m > n then m else n):=by split <;> omega
  simp only [ja6] at h
  rcases h with z | z | z
  ·omega
  ·omega
  ·exact q a (ja1 _ z)
theorem qgw (hc:X.calm=true):CallR X (.builtin "max") (λ xs H Q=>∃ (q:Addr) (n:Int) (r:List Int),xs=[.ref q]/\SqL X.K H q ((n::r).map V.int)/\Q (.int (maxI n r)) H):=by
 intro pins s σ H xs us Q I rv h
 obtain ⟨q,n,r,rfl,hq,k0⟩:=h
 obtain ⟨u,rfl,rx⟩:=zyo rv
 cases rx
 obtain ⟨its,rv2,pl,hz⟩:=I.list hq
 obtain ⟨zs,rfl,ez⟩:=zvj rv2
 have e:(zs.map λ p=>Value.int p.1 p.2).toArray=vf9 zs.toArray:=by simp [vf9]
 rw [e] at pl
 have hsz:zs.toArray.size=zs.length:=by simp
 have h0:0 < zs.length:=by
  cases zs with
  | nil=>cases ez
  | cons _ _=>simp
 refine max_intList (I.ok.hd hc) pl.isList (by simpa using h0) λ v h' tk hv k=>?_
 obtain ⟨l1,l2⟩:=argBest_gt (vh4 zs.toArray) (zs.toArray.size - 1)
 obtain ⟨t,rfl⟩:=vm6 hv
 generalize argBest (λ i j=>decide (vh4 zs.toArray i > vh4 zs.toArray j)) (zs.toArray.size - 1)=b at *
 have num:∀ j,(hj:j < zs.length)->vh4 zs.toArray j=zs[j].1:=λ j hj=>by unfold vh4;simp [hj]
 have hm:vh4 zs.toArray b∈n::r:=by
  rw [num b (by omega),<- ez]
  exact je3.mpr ⟨_,je4 _,rfl⟩
 have hg:∀ a∈n::r,a<=vh4 zs.toArray b:=λ a ha=>by
  rw [<- ez] at ha
  obtain ⟨z,hz',rfl⟩:=je3.mp ha
  obtain ⟨j,hj,rfl⟩:=jh6 hz'
  rw [<- num j hj]
  exact l2 j (by omega)
 have eb:vh4 zs.toArray b=maxI n r:=js3 (qff r n _ hm) (hg _ (qb2 r n))
 exact ⟨.int _,H,I.kept (t':=tk) k,⟨t,rfl⟩,by rw [eb];exact k0⟩
def zkf:List (PV×Nat)->Option (PV×Nat)
 | [(.lst xs,_)]=>match zkr xs with
  | some (n::r)=>some (.int (maxI n r),om)
  | _=>none
 | xs=>op2 (λ i j=>if j > i then j else i) xs
theorem qlf (hc:X.calm=true) (hg:Gl X "max") (hm:X.mg "max" = none) (ha:PA X (e::es) (tL M fa vs)) (he:va7 (e::es) X.env=(false,eval e X.env)::va7 es X.env) (hpl:(vg1 pos (va7 es X.env)).any (·.1)=false):
  PE X (.Call (.Name "max" p) (e::es) [] pos) (tE M (zqd zkf fa) vs):=by
 refine zqv (zzg ((qgx hc).or (qgw hc)) hg hm rfl ha (he:=he) (hpl:=hpl)) λ σ H Q h=>zze (λ xs z c ws H fps fp Q ho tm nz zd lf=>?_) h
 unfold zkf at ho
 split at ho
 ·rename_i xs d
  split at ho
  ·rename_i n r eb
   cases ho
   obtain ⟨v,r',f1,f2,rfl,rfl,_,o1,h2⟩:=tm
   obtain ⟨rfl,rfl⟩:=h2
   obtain ⟨q,us,rfl,hs,ol⟩:=(cold (fp:=f1) o1 λ a ha=>nz a (jb0 _ ha)).coldL
   have:=zzi eb ol
   subst this
   exact .inr ⟨q,n,r,rfl,.inl (.inl hs),zxh lf⟩
  ·cases ho
 ·exact .inl (qb7 ho tm lf)
end
section
variable {X:Cx}{M:Fm}{H:Hp}{σ:St}
variable {e:Expr}{es:List Expr}{fa:Fa}{vs:List Nat}{p pos:Pos}
end
open PySem PySem.Spec PyProof.Rows L2 PySem.Builtin PySem.Builtin.ObjectAttr PySem.Builtin.Getset_descriptor
section
variable {prog:vb0}{w:vc1}{A:vc0}{E:va2->va3->Prop}{K:Frag}{h:Heap}{g:Array GenState}{d:Drawn}{t:Nat}{os:OsState}{a C:Addr}{oe:Obj}
theorem qp5 {R:Result->va3->Prop} (X:K.In h) (he:h.get? a=some oe) (hc:oe.cls=.ref C) (hm:ve0 K C (.type "object")=some true) (hq:R (.ok (.ret (.ref C))) ⟨h,g,d,t,os⟩):
  vl1 (vb4 prog w) A (.call (.builtin "getset_descriptor.__get__") ⟨[.builtin "object.__class__",.ref a,.ref C],[]⟩) R ⟨h,g,d,t,os⟩:=by
 have ty:PySem.W.Looks (vb4 prog w) h (typeOf (.ref a)) (.ref C):=hc ▸ (PySem.W.Looks.ld he).andThen .now
 have mr:=PySem.W.looks_mroIn (M:=vb4 prog w) X hm
 have pl:=PySem.W.KF.slot_gs.plain
 have en:=PySem.W.KF.entry_gs
 refine codeAny_call_builtin pl en (PySem.W.KF.slot_gs.check _ _ _ _ _ _ _ _
  PySem.W.KF.type_class (PySem.W.KF.args_gs _ _ _) ?_)
 unfold vf6.«getset_descriptor.__get__»
 unfold descrGet
 rw [PySem.W.dga_obj]
 refine va0 (va5 ?_)
 unfold descrGetter descrCheckInstance
 unfold descrNameAndClass isInstance
 simp only [PySem.W.KF.owner_class]
 repeat lk
 refine ⟨Code.quiet_builtin _ (by decide +kernel),vn1 PySem.W.KF.entry_class ?_⟩
 unfold vf6.«object.__class__»
 unfold shownTypeOf
 repeat lk
 exact hq
theorem qi4 {tk:Tok}{Q:Fin->va3->Prop} (X:K.In h) (he:h.get? a=some oe) (hc:oe.cls=.ref C) (hm:ve0 K C (.type "object")=some true) (hl:vb7 K (.ref C) "__class__" = some (some (.builtin "object.__class__")))
  (hq:Q (.done (.ret (.ref C))) ⟨h,g,d,t,os⟩):vb3 (vb4 prog w) A (vf6.«object.__getattribute__» ⟨[.ref a,.str "__class__" tk],[]⟩) Q E ⟨h,g,d,t,os⟩:=by
 have hT5:(⟨h,g,d,t,os⟩:va3).TypeIs (.builtin "object.__class__") "getset_descriptor" := F.typeOf_object_class
 have f5:=F.typeOf_object_class
 have f6:=F.slot_gs_get.lookup
 have f7:=F.slot_gs_set.lookup
 have L1:=vj8 (M:=vb4 prog w) X hl
 repeat (any_goals (first | assumption | (with_reducible refine vk9 he ?_;rw [hc]) | with_reducible refine L1.at ?_ | wp_step))
 refine qp5 X he hc hm ?_
 repeat (any_goals (first | assumption | wp_step))
theorem qi5 {nameV:va2}{Q:Unit->va3->Prop}{M:Model} (X:K.In h) (he:h.get? a=some oe) (hc:oe.cls=.ref C) (hb:ve0 K C (.type "BaseException")=some true) (hq:Q () ⟨h,g,d,t,os⟩):
  vb3 M A (checkBuiltinCall "BaseException.__getattribute__" ⟨[.ref a,nameV],[]⟩) Q E ⟨h,g,d,t,os⟩:=by
 have hk:builtinKind "BaseException.__getattribute__" = some .slot:=by decide +kernel
 have hsp:splitId "BaseException.__getattribute__" = some ("BaseException","__getattribute__"):=by decide +kernel
 have ha:=F.args_bexc_ga (.ref a) nameV
 have L1:=PySem.W.looks_mroIn (M:=M) X hb
 simp only [checkBuiltinCall,hk,hsp]
 refine va0 ?_
 unfold isInstance
 repeat (first | (with_reducible refine vk9 he ?_;rw [hc]) | with_reducible refine L1.at ?_ | wp_step)
 exact hq
theorem qq1 {tk:Tok}{Q:va2->va3->Prop} (X:K.In h) (he:h.get? a=some oe) (hc:oe.cls=.ref C) (hm:ve0 K C (.type "object")=some true) (hb:ve0 K C (.type "BaseException")=some true)
  (hl:vb7 K (.ref C) "__class__" = some (some (.builtin "object.__class__"))) (hga:vb7 K (.ref C) "__getattribute__" = some (some (.builtin "BaseException.__getattribute__"))) (hgh:vb7 K (.ref C) "__getattr__" = some none)
  (hq:Q (.ref C) ⟨h,g,d,t,os⟩):vb3 (vb4 prog w) A (getAttrBy (.ref a) (.str "__class__" tk) false) Q E ⟨h,g,d,t,os⟩:=by
 have f3:=PySem.F.attrBase_ValueError.ga.bind (.ref a)
 have L1:=vj8 (M:=vb4 prog w) X hga
 have L2':=vj8 (M:=vb4 prog w) X hgh
 have hx2:(Value.builtin "BaseException.__getattribute__" == Value.builtin "object.__getattribute__")=false:=by decide +kernel
 have hx1:(onTheHeap (Value.ref C) && Value.builtin "BaseException.__getattribute__" == Value.builtin "object.__getattribute__")=false:=by rw [hx2];rfl
 repeat (any_goals (first | assumption | (with_reducible refine vk9 he ?_;rw [hc]) | with_reducible refine L1.at ?_ | with_reducible refine L2'.at ?_ | wp_step))
 refine codeAny_call_builtin PySem.F.attrBase_ValueError.ga.plain F.entry_bexc_ga (qi5 X he hc hb (qi4 X he hc hm hl ?_))
 repeat (any_goals (first | assumption | wp_step))
theorem qmy {Q:Option va2->va3->Prop} (X:K.In h) (he:h.get? a=some oe) (hc:oe.cls=.ref C) (hm:ve0 K C (.type "object")=some true) (hb:ve0 K C (.type "BaseException")=some true)
  (hl:vb7 K (.ref C) "__class__" = some (some (.builtin "object.__class__"))) (hga:vb7 K (.ref C) "__getattribute__" = some (some (.builtin "BaseException.__getattribute__"))) (hgh:vb7 K (.ref C) "__getattr__" = some none)
  (hq:Q (some (.ref C)) ⟨h,g,d,t + 1,os⟩):vb3 (vb4 prog w) A (getAttr? (.ref a) "__class__") Q E ⟨h,g,d,t,os⟩:=by
 unfold getAttr?
 unfold getAttrBy?
 repeat (any_goals (first | assumption | with_reducible apply qq1 X he hc hm hb hl hga hgh | wp_step))
end
def clsV (K:Frag) (d:Nat) (u:va2):Bool:=(u == .type "ValueError" && d == 0) || (match zvl K d with
 | some D=>u == .ref D
 | none=>false)
section
variable {K:Frag}{a C:Addr}{c d:Nat}{u:va2}
theorem zmm (t:xKit K=true) (e:zvl K c=some C):zjb K C=true/\vc4 K (.type "NoneType") (.ref C)=some false/\vc4 K (.ref C) (.type "ValueError")=some true/\∀ d D,zvl K d=some D->vc4 K (.ref C) (.ref D)=some (isX c d):=by
 unfold xKit at t
 rw [ja5] at t
 have h:=jb8.mp t.2 c (jb9.mpr (qcu e))
 rw [e] at h
 dsimp only at h
 simp only [ja5] at h
 refine ⟨h.1.1.1,eq_of_beq h.1.1.2,eq_of_beq h.1.2,λ d D ed=>?_⟩
 have h2:=jb8.mp h.2 d (jb9.mpr (qcu ed))
 rw [ed] at h2
 exact eq_of_beq h2
theorem qfs (t:xKit K=true) (e:zvl K c=some C) (hu:clsV K d u=true):vc4 K (.ref C) u=some (isX c d):=by
 obtain ⟨_,_,h3,h4⟩:=zmm t e
 unfold clsV at hu
 rw [jg5] at hu
 rcases hu with hu | hu
 ·rw [ja5] at hu
  rw [eq_of_beq hu.1,h3,eq_of_beq hu.2]
  simp [isX]
 ·split at hu
  ·rename_i D hD
   rw [eq_of_beq hu]
   exact h4 d D hD
  ·cases hu
theorem qfr (t:xKit K=true) (hu:clsV K d u=true):vc4 K (.type "NoneType") u=some false:=by
 unfold clsV at hu
 rw [jg5] at hu
 rcases hu with hu | hu
 ·rw [ja5] at hu
  rw [eq_of_beq hu.1]
  unfold xKit at t
  rw [ja5] at t
  exact eq_of_beq t.1
 ·split at hu
  ·rename_i D hD
   rw [eq_of_beq hu]
   exact (zmm t hD).2.1
  ·cases hu
def zpf (K:Frag):List Nat->List va2->Bool
 | [],[]=>true
 | d::ds,u::us=>clsV K d u && zpf K ds us
 | _,_=>false
theorem qcc (t:xKit K=true) (e:zvl K c=some C):∀ {ds:List Nat}{us:List va2},zpf K ds us=true->vk0 K (.ref C) us=some (ds.any (isX c))
 | [],[],_=>rfl
 | [],_::_,h=>by cases h
 | _::_,[],h=>by cases h
 | d::ds,u::us,h=>by
  unfold zpf at h
  rw [ja5] at h
  unfold vk0
  rw [qfs t e h.1,List.any_cons]
  cases isX c d with
  | true=>rfl
  | false=>exact qcc t e h.2
theorem qcb (t:xKit K=true):∀ {ds:List Nat}{us:List va2},zpf K ds us=true->vk0 K (.type "NoneType") us=some false
 | [],[],_=>rfl
 | [],_::_,h=>by cases h
 | _::_,[],h=>by cases h
 | d::ds,u::us,h=>by
  unfold zpf at h
  rw [ja5] at h
  unfold vk0
  rw [qfr t h.1]
  exact qcb t h.2
theorem qgo (g:zjb K C=true):∃ c0 dd cd sl,K.lookup C=some ⟨c0,dd,.cls cd,sl⟩:=by
 unfold zjb at g
 simp only [ja5] at g
 have h:=g.1.1.1.1.1
 unfold PySem.W.clsIn at h
 split at h
 ·rename_i q;exact ⟨_,_,_,_,q⟩
 ·cases h
theorem qcd (g:zjb K C=true):PySem.W.KitX K (.ref a) (.ref C) (qg5 a C):=by
 obtain ⟨c0,dd,cd,sl,hl⟩:=qgo g
 unfold zjb at g
 simp only [ja5] at g
 obtain ⟨⟨⟨⟨⟨_,g1⟩,g2⟩,g3⟩,g4⟩,g5⟩:=g
 refine ⟨λ M h _ p=>?_,λ M h X _=>?_,λ h tp dd' its n sl' X htp=>?_,λ {prog w A E Q s} X p k=>?_⟩
 ·obtain ⟨o,vs,h1,h2,_⟩:=p
  exact h2 ▸ (PySem.W.Looks.ld h1).andThen .now
 ·intro A' Q' E' s' kp q
  unfold isType
  unfold loadHead
  exact va0 (wpAny_loadPart (kp _ _ (X _ _ hl)) (va5 q))
 ·cases hb:(Value.ref C == Value.ref tp) with
  | false=>rfl
  | true=>
   have ec:C=tp:=Value.ref.inj (eq_of_beq hb)
   have z:=X _ _ hl
   rw [ec,htp] at z
   cases z
 ·obtain ⟨o,vs,h1,h2,_⟩:=p
  obtain ⟨hp,gg,dr,tt,oo⟩:=s
  exact qmy X h1 h2 (eq_of_beq g1) (eq_of_beq g2) (eq_of_beq g3) (eq_of_beq g4) (eq_of_beq g5) k
end
section
variable {X:Cx}
def IsQ (K:Frag) (v:V) (H:Hp) (Q:VK) (ds:List Nat):Prop:=(v=.non/\Q (.bl false) H)\/∃ a C c,v=.ref a/\zvl K c=some C/\H a=some (.ext (qg5 a C))/\Q (.bl (ds.any (isX c))) H
theorem qck {pins:List (Addr×Obj)}{σ:St}{H:Hp}{s:va3}{a C:Addr} (I:L2.Inv X pins σ H s) (h:H a=some (.ext (qg5 a C))):qg5 a C s.heap:=(I.hok a _ h).1
theorem qgy (t:xKit X.K=true):CallR X (.builtin "isinstance") (λ xs H Q=>∃ v cv d,xs=[v,cv]/\(∀ u,RelV cv u->clsV X.K d u=true)/\IsQ X.K v H Q [d]):=by
 intro pins s σ H xs us Q I r h
 obtain ⟨v,cv,d,rfl,hcv,h⟩:=h
 obtain ⟨u,w,rfl,r1,r2⟩:=qdx r
 have hw:=hcv w r2
 rcases h with ⟨rfl,q⟩ | ⟨a,C,c,rfl,hC,ha,q⟩
 ·cases r1
  exact vc2 vl3 I.kIn True.intro (qfr t hw) (λ z=>nomatch z) λ tk=>⟨.bl false,H,I.tok _,rfl,q⟩
 ·obtain rfl:u=Value.ref a:=r1
  exact vc2 (qcd (zmm t hC).1) I.kIn (qck I ha) (qfs t hC hw) (λ z=>nomatch z) λ tk=>⟨.bl (isX c d),H,I.tok _,rfl,by simpa using q⟩
theorem qdn (t:xKit X.K=true):CallR X (.builtin "isinstance") (λ xs H Q=>∃ v p cvs ds,xs=[v,.ref p]/\H p=some (.tup cvs)/\(∀ us,Vals cvs us->zpf X.K ds us=true)/\IsQ X.K v H Q ds):=by
 intro pins s σ H xs us Q I r h
 obtain ⟨v,p,cvs,ds,rfl,hp,hcv,h⟩:=h
 obtain ⟨u,w,rfl,r1,r2⟩:=qdx r
 obtain rfl:w=Value.ref p:=r2
 obtain ⟨_,its,rv,o,ho,hc,n,hd⟩:=I.hok p _ hp
 have hi:=hcv its rv
 have ho':s.heap.get? p=some ⟨.type "tuple",o.dict,.seq its.toArray n,o.slots⟩:=by
  rw [ho]
  obtain ⟨oc,od,oda,os⟩:=o
  dsimp only at hc hd
  rw [hc,hd]
 rcases h with ⟨rfl,q⟩ | ⟨a,C,c,rfl,hC,ha,q⟩
 ·cases r1
  exact PySem.W.kia_tup vl3 I.kIn True.intro ho' (qcb t hi) (λ z=>nomatch z) λ tk=>⟨.bl false,H,I.tok _,rfl,q⟩
 ·obtain rfl:u=Value.ref a:=r1
  exact PySem.W.kia_tup (qcd (zmm t hC).1) I.kIn (qck I ha) ho' (qcc t hC hi) (λ z=>nomatch z) λ tk=>⟨.bl (ds.any (isX c)),H,I.tok _,rfl,q⟩
end
section
variable {X:Cx}{M:Fm}{f g:Fx}{vs vs':List Nat}{e:Expr}{es:List Expr}{pos p:Pos}{σ:St}{H:Hp}{Q:VK}
def zpu (ds:List Nat) (x:PV) (_:Nat):Option (PV×Nat):=match x with
 | .exn c=>some (.bl (ds.any (isX c)),om)
 | .non=>some (.bl false,om)
 | _=>none
theorem qj2 {K:Frag}{x z:PV}{ds:List Nat}{d c:Nat}{v:V}{Z:Addr->Prop}{H H':Hp}{f1:List Addr} (ho:zpu ds x d=some (z,c)) (o1:Own K H Z x d v f1) (k:∀ a o,H a=some o->H' a=some o) (q:∀ b,z=.bl b->Q (.bl b) H'):IsQ K v H' Q ds:=by
 cases x with
 | exn n=>
  cases ho
  rw [Own] at o1
  obtain ⟨_,a,C,rfl,hC,ha⟩:=o1
  exact .inr ⟨a,C,n,rfl,hC,k _ _ ha,q _ rfl⟩
 | non=>
  cases ho
  rw [Own] at o1
  obtain ⟨rfl,_⟩:=o1
  exact .inl ⟨rfl,q _ rfl⟩
 | _=>cases ho
theorem zgp {ds:List Nat}{x z:PV}{d c:Nat} (ho:zpu ds x d=some (z,c)):∃ b,z=.bl b/\c=om:=by
 cases x with
 | exn n=>cases ho;exact ⟨_,rfl,rfl⟩
 | non=>cases ho;exact ⟨_,rfl,rfl⟩
 | _=>cases ho
theorem qlh {cv:V}{d:Nat}{T':Str}{p1 p2:Pos} (t:xKit X.K=true) (hK:M.K=X.K) (ha:PE X e (tE M f vs)) (hg:Gl X "isinstance") (hm:X.mg "isinstance" = none) (hc:PE X (.Name T' p2) (tC cv)) (hcv:∀ u,RelV cv u->clsV X.K d u=true)
  (hs1:va7 [e,.Name T' p2] X.env=[(false,eval e X.env),(false,eval (.Name T' p2) X.env)]) (hs2:va7 [Expr.Name T' p2] X.env=[(false,eval (.Name T' p2) X.env)]):
  PE X (.Call (.Name "isinstance" p1) [e,.Name T' p2] [] pos) (tE M (bUn (zpu [d]) f) vs):=by
 refine zqv (zzg (qgy t) hg hm rfl (zvc ha (zvc hc zpt hs2) (by rw [hs1,hs2])) (he:=by rw [hs1,hs2]) (hpl:=by rw [hs2];rfl)) λ σ H Q h=>?_
 refine qc8 (r:=λ v H Q=>∃ x c n,[v,cv]=[x,c]/\(∀ u,RelV c u->clsV X.K n u=true)/\IsQ X.K x H Q [n]) (λ x d' z c v H fps f1 Q ho o1 nz zd lf=>?_) h
 obtain ⟨b,rfl,rfl⟩:=zgp ho
 exact ⟨v,cv,d,rfl,hcv,by rw [<- hK];exact qj2 ho o1 (λ _ _ h=>h) λ b' e=>by cases e;exact zws lf⟩
def tVs (cvs:List V):TA:=λ _ H Q=>Q cvs H
theorem qhq {cvs:List V}{ds:List Nat}{p1 p2:Pos}{k:Nat} (t:xKit X.K=true) (hK:M.K=X.K) (ha:PE X e (tE M f vs)) (hg:Gl X "isinstance") (hm:X.mg "isinstance" = none) (hc:PA X es (tVs cvs)) (hl:cvs.length<=va8) (hcv:∀ us,Vals cvs us->zpf X.K ds us=true)
  (hs1:va7 [e,.Tuple es k p2] X.env=[(false,eval e X.env),(false,eval (.Tuple es k p2) X.env)]) (hs2:va7 [Expr.Tuple es k p2] X.env=[(false,eval (.Tuple es k p2) X.env)]):
  PE X (.Call (.Name "isinstance" p1) [e,.Tuple es k p2] [] pos) (tE M (bUn (zpu ds) f) vs):=by
 refine zqv (zzg (qdn t) hg hm rfl (zvc ha (zvc (qjt hc) zpt hs2) (by rw [hs1,hs2])) (he:=by rw [hs1,hs2]) (hpl:=by rw [hs2];rfl)) λ σ H Q h=>?_
 refine qc8 (r:=λ v H Q=>cvs.length<=va8/\∀ q,H q=none->∃ x p' cvs' ds',[v,V.ref q]=[x,.ref p']/\upd H q (.tup cvs) p'=some (.tup cvs')/\(∀ us,Vals cvs' us->zpf X.K ds' us=true)/\IsQ X.K x (upd H q (.tup cvs)) Q ds') (λ x d' z c v H fps f1 Q ho o1 nz zd lf=>?_) h
 obtain ⟨b,rfl,rfl⟩:=zgp ho
 refine ⟨hl,λ q hq=>⟨v,q,cvs,ds,rfl,zqm,hcv,?_⟩⟩
 have kk:∀ a o,H a=some o->upd H q (.tup cvs) a=some o:=λ a o h=>by rw [zqk (λ z=>by rw [z,hq] at h;cases h)];exact h
 rw [<- hK]
 exact qj2 ho o1 kk λ b' e=>by cases e;exact lf (.bl b) _ [] kk (by rw [Own];exact ⟨rfl,rfl⟩) (λ _ z=>nomatch z)
end
section
variable {X:Cx}{M:Fm}{a b:Expr}{f g:Fx}{fa:Fa}{vs vs':List Nat}{pos p:Pos}{σ:St}{H:Hp}{Q:VK}{e:Expr}{es:List Expr}
def opIn (neg:Bool) (x:PV) (_:Nat) (y:PV) (_:Nat):Option (PV×Nat):=match x,y with
 | x,.lst ys=>(match toD 20 x,toDL (toD 20) ys with
  | some a,some bs=>some (.bl (neg^^bs.any λ b=>vb1 b a),om)
  | _,_=>none)
 | x,.tup ys=>(match toD 20 x,toDL (toD 20) ys with
  | some a,some bs=>some (.bl (neg^^bs.any λ b=>vb1 b a),om)
  | _,_=>none)
 | _,_=>none
def sqv (tp:Bool) (ys:List PV):PV:=match tp with
 | true=>.tup ys
 | false=>.lst ys
def sqd (tp:Bool) (ys:List vc5):vc5:=match tp with
 | true=>.tuple ys
 | false=>.list ys
def rInD (K:Frag) (neg:Bool):R2:=λ v w H Q=>∃ tp x ys d e Z Z' f1 f2 a bs,toD 20 x=some a/\toDL (toD 20) ys=some bs/\Own K H Z x d v f1/\Own K H Z' (sqv tp ys) e w f2/\Q (.bl (neg^^bs.any λ b=>vb1 b a)) H
theorem qji {tp:Bool}{ys:List PV}{bs:List vc5} (h:toDL (toD 20) ys=some bs):toD 21 (sqv tp ys)=some (sqd tp bs):=by
 cases tp with
 | true=>
  show (toDL (toD 20) ys).map PyData.tuple=_
  rw [h]
  rfl
 | false=>
  show (toDL (toD 20) ys).map PyData.list=_
  rw [h]
  rfl
theorem qo4 (hu:X.A.units + 64 < vh0):OpR X (vd2 .In) (rInD X.K false):=by
 intro pins s σ H v w u u' Q I rx ry h
 obtain ⟨tp,x,ys,d,e,Z,Z',f1,f2,a,bs,h1,h2,o1,o2,q⟩:=h
 obtain ⟨as,ra⟩:=zwu I 20 x d v f1 u a h1 o1 rx
 obtain ⟨bs',rb⟩:=zwu I 21 (sqv tp ys) e w f2 u' _ (qji h2) o2 ry
 have l1:=zzk 20 x a h1
 have l2:=zkm (λ x D h=>zzk 20 x D h) h2
 have hm:X.A.units + 1 + min (vb5 bs) a.depth < vh0:=by have:=jl2 (vb5 bs) a.depth;omega
 cases tp with
 | false=>exact SeqAt.in_list_reads rb ra l2.1 l1.1 hm ⟨.bl _,H,I,rfl,by simpa using q⟩
 | true=>exact SeqAt.in_tuple_reads rb ra l2.1 l1.1 hm ⟨.bl _,H,I,rfl,by simpa using q⟩
theorem qe8 (hu:X.A.units + 64 < vh0):OpR X (vd2 .NotIn) (rInD X.K true):=by
 intro pins s σ H v w u u' Q I rx ry h
 obtain ⟨tp,x,ys,d,e,Z,Z',f1,f2,a,bs,h1,h2,o1,o2,q⟩:=h
 obtain ⟨as,ra⟩:=zwu I 20 x d v f1 u a h1 o1 rx
 obtain ⟨bs',rb⟩:=zwu I 21 (sqv tp ys) e w f2 u' _ (qji h2) o2 ry
 have l1:=zzk 20 x a h1
 have l2:=zkm (λ x D h=>zzk 20 x D h) h2
 have hm:X.A.units + 1 + min (vb5 bs) a.depth < vh0:=by have:=jl2 (vb5 bs) a.depth;omega
 cases tp with
 | false=>exact SeqAt.notIn_list_reads rb ra l2.1 l1.1 hm ⟨.bl _,H,I,rfl,by simpa using q⟩
 | true=>exact SeqAt.notIn_tuple_reads rb ra l2.1 l1.1 hm ⟨.bl _,H,I,rfl,by simpa using q⟩
theorem qb9 {x y z:PV}{d e c:Nat}{v w:V}{fps:Fps}{f1 f2 F:List Addr}{Z Z':Addr->Prop}{neg:Bool} (hK:M.K=X.K) (ho:opIn neg x d y e=some (z,c)) (o1:Own M.K H Z x d v f1) (o2:Own M.K H Z' y e w f2) (lf:Leaf M H fps vs F z c Q):rInD X.K neg v w H Q:=by
 unfold opIn at ho
 split at ho
 ·rename_i ys
  split at ho
  ·rename_i a bs ea eb
   cases ho
   rw [hK] at o1
   rw [hK] at o2
   exact ⟨false,_,ys,d,e,Z,Z',f1,f2,a,bs,ea,eb,o1,o2,zws lf⟩
  ·cases ho
 ·rename_i ys
  split at ho
  ·rename_i a bs ea eb
   cases ho
   rw [hK] at o1
   rw [hK] at o2
   exact ⟨true,_,ys,d,e,Z,Z',f1,f2,a,bs,ea,eb,o1,o2,zws lf⟩
  ·cases ho
 ·cases ho
def bDct:Fx:=λ ρ=>.ok (.dct [],om,ρ)
theorem qn6:PE X (.Dict [] [] pos) (tE M bDct []):=by
 refine zqv qh3 λ σ H Q h p hp=>?_
 obtain ⟨ρ,fps,rep,q⟩:=h
 refine q (.ref p) _ fps [p] (KD.grow (zxy hp)) Agr.refl (rep.grow (zxy hp)) ?_ ⟨λ a ha=>by rw [jc3.mp ha];exact hp,λ a ha=>by rw [jc3.mp ha];exact rep.nz hp⟩
 rw [Own]
 exact ⟨p,rfl,.inr ⟨by decide,zqm,rfl⟩⟩
end
structure Sx where
 N:List Str
 sc:ve5
 ms:List Nat
 al:List (List Nat)
 Γ:List (Str×(Bool×Nat×Fn))
 Γm:List (Str×Fn)
 rz:Bool
 xc:List Nat
 pn:List Nat
def Sx.alF (S:Sx) (i:Nat):List Nat:=S.al.getD i []
def Sx.msF (S:Sx) (i:Nat):Bool:=S.ms.contains i
def zww (sc:ve5) (x:Str) (k:ve1):Bool:=sc.names.lookup x == some k
def visB (sc:ve5) (x:Str):Bool:=zww sc x .local || zww sc x .cell || zww sc x .free
def ixOf (N:List Str) (x:Str):Option Nat:=N.findIdx? (·== x)
def Sx.slot (S:Sx) (x:Str):Option Nat:=if visB S.sc x && !(x == ("__debug__" : Str)) && !(x == ("__classdict__" : Str)) then ixOf S.N x else none
def Sx.glob (S:Sx) (x:Str):Bool:=zww S.sc x .globalImplicit
structure XS (X:Cx) (P:vb0) (w:vc1) (K:Frag) (mg:Str->Option va2) (base:Heap) (lvl:Nat) (S:Sx) (Wx:St->Nat->Hp->Prop):Prop where
 prog:X.prog=P
 w:X.w=w
 K:X.K=K
 mg:X.mg=mg
 base:X.base=base
 N:X.N=S.N
 sc:X.env.scope=S.sc
 calm:X.calm=true
 room:Room lvl X.A
 po:PassesOwn (vb4 X.prog X.w) X.A X.env X.xe
 ps:zfv (CXr X.prog X.w X.K) X Wx
 rs:S.rz=true->qg4 X Wx
structure MS (M:Fm) (K:Frag) (S:Sx) (Wx:St->Nat->Hp->Prop):Prop where
 K:M.K=K
 ms:M.Ms=S.msF
 al:∀ i,i < S.N.length->M.al i=S.alF i
 als:∀ i,∀ j∈M.al i,M.Ms j=false
 W:M.W=Wx
 pn:∀ p∈M.pn,p.1 < S.N.length
def GSm (P:vb0) (w:vc1) (K:Frag) (mg:Str->Option va2) (base:Heap) (lvl:Nat) (Γm:List (Str×Fn)):Prop:=
 ∀ x F,Γm.lookup x=some F->(x == ("__debug__" : Str))=false/\∃ fa fd ps,mg x=some (.ref fa)/\vf3 K (.ref fa)=true/\qad K fd ps []/\FnOk P w K mg base (CXr P w K) lvl fa fd ps (spM K F)
def GX (K:Frag) (mg:Str->Option va2) (xc:List Nat):Prop:=xc≠[]->xTab K=true/\xKit K=true/\∀ c∈xc,∃ x C,XN[c]?=some x/\zvl K c=some C/\mg x=some (.ref C)/\(x == ("__debug__" : Str))=false
def GS (P:vb0) (w:vc1) (K:Frag) (mg:Str->Option va2) (base:Heap) (lvl:Nat) (Γ:List (Str×(Bool×Nat×Fn))):Prop:=
 (∀ x∈zkj,mg x=none)/\∀ x io n F,Γ.lookup x=some (io,n,F)->(x == ("__debug__" : Str))=false/\(∀ xs,xs.length≠n->F xs=.no) /\
  ∃ fa fd ps,mg x=some (.ref fa)/\vf3 K (.ref fa)=true/\qad K fd ps []/\ps.length=n/\FnOk P w K mg base (CXr P w K) lvl fa fd ps (spF K io n F)
section
variable {X:Cx}{P:vb0}{w:vc1}{K:Frag}{mg:Str->Option va2}{base:Heap}{lvl:Nat}{S:Sx}{Wx:St->Nat->Hp->Prop}{M:Fm}
theorem zwf {sc:ve5}{x:Str}{k:ve1} (h:zww sc x k=true):sc.names.lookup x=some k:=by
 unfold zww at h
 exact eq_of_beq h
theorem qje {sc:ve5}{x:Str} (h:visB sc x=true):Vis sc x:=by
 unfold visB at h
 rw [jg5,jg5] at h
 rcases h with (h | h) | h
 ·exact .inl (zwf h)
 ·exact .inr (.inl (zwf h))
 ·exact .inr (.inr (zwf h))
theorem zjy {N:List Str}{x:Str}{i:Nat} (h:ixOf N x=some i):N[i]?=some x:=by
 unfold ixOf at h
 rw [jk0] at h
 obtain ⟨hi,e,_⟩:=h
 have:N[i]=x:=eq_of_beq e
 rw [ja8 hi,this]
theorem XS.var (xs:XS X P w K mg base lvl S Wx) {x:Str}{i:Nat}{pos:Pos} (h:S.slot x=some i):PE X (.Name x pos) (tVar i):=by
 unfold Sx.slot at h
 split at h
 ·rename_i hc
  simp only [ja5,jq2] at hc
  exact qon (by rw [xs.N];exact zjy h) (by rw [xs.sc];exact qje hc.1.1) hc.1.2 hc.2
 ·cases h
theorem XS.gl (xs:XS X P w K mg base lvl S Wx) {x:Str} (h:S.glob x=true):Gl X x:=by
 show X.env.scope.names.lookup x=_
 rw [xs.sc]
 exact zwf h
theorem zxe {e:Expr}{es:List Expr}{env:Env} (h:∀ x p,e≠.Starred x p):va7 (e::es) env=(false,eval e env)::va7 es env:=by
 cases e with
 | Starred x p=>exact absurd rfl (h x p)
 | _=>rfl
def zbq:Expr->Bool
 | .Starred _ _=>false
 | _=>true
theorem zqp {e:Expr} (h:zbq e=true):∀ x p,e≠.Starred x p:=λ x p z=>by rw [z] at h;cases h
theorem zmp {env:Env}{pos:Pos}:∀ {es:List Expr},es.all zbq=true->(vg1 pos (va7 es env)).any (·.1)=false
 | [],_=>rfl
 | e::es,h=>by
  rw [jh0,ja5] at h
  rw [zxe (zqp h.1)]
  show (false || (vg1 pos (va7 es env)).any (·.1))=false
  rw [zmp h.2]
  rfl
def zbr:Expr->Bool
 | .Slice _ _ _ _=>false
 | _=>true
theorem zyt {b:Expr} (h:zbr b=true):qba b:=by
 intro o i
 cases b with
 | Slice _ _ _ _=>cases h
 | _=>rfl
def qqt:Expr->Bool
 | .List _ _=>true
 | _=>false
def qqq:Expr->Bool
 | .List es _=>es.any qqt
 | _=>false
def qp6 (b:Expr):Operator->Option (PV->Nat->PV->Nat->Option (PV×Nat))
 | .Add=>some (if qqq b=true then qfa else zqw)
 | .Sub=>some zxv
 | .Mult=>some zvh
 | .FloorDiv=>some zxg
 | .Mod=>some zqn
 | .Pow=>some qh9
 | _=>none
theorem qqe {a b:Expr}{op:Operator}{o:PV->Nat->PV->Nat->Option (PV×Nat)}{f g:Fx}{vs vs':List Nat}{pos:Pos} (h:qp6 b op=some o) (hv:∀ i∈vs,M.Ms i=false) (hK:M.K=X.K) (ha:PE X a (tE M f vs)) (hb:PE X b (tE M g vs')):PE X (.BinOp a op b pos) (tE M (bBin o f g) (vs++vs')):=by
 cases op <;> cases h
 ·split
  ·exact qlj hv hK ha hb
  ·exact qn9 hv hK ha hb
 ·exact qbj ql1 (λ _ _ _=>trivial) hv ha hb
 ·exact qn2 hv ha hb
 ·exact qbj qo1 (λ _ _=>cMod) hv ha hb
 ·exact qbj qoy (λ _ _=>cPow) hv ha hb
 ·exact qbj qh7 (λ _ _=>cDiv) hv ha hb
def isNm:Expr->Bool
 | .Set _ _ _=>false
 | _=>true
def qmx (b:Expr):vn7->Option (PV->Nat->PV->Nat->Option (PV×Nat))
 | .Lt=>some (zwm λ i j=>decide (i < j))
 | .LtE=>some (zwm λ i j=>decide (i<=j))
 | .Gt=>some (zwm λ i j=>decide (j < i))
 | .GtE=>some (zwm λ i j=>decide (j<=i))
 | .Eq=>some (opEq false)
 | .NotEq=>some (opEq true)
 | .In=>if isNm b=true then some (opIn false) else none
 | .NotIn=>if isNm b=true then some (opIn true) else none
 | _=>none
theorem qf2 {op:vn7}{b:Expr} (h:isNm b=true):vg7 op b=false:=by
 cases b with
 | Set _ _ _=>cases h
 | _=>rfl
theorem qi2 {op:vn7}{o:PV->Nat->PV->Nat->Option (PV×Nat)}{f g:Fx}{vs vs':List Nat}{b:Expr} (h:qmx b op=some o) (hu:X.A.units + 64 < vh0) (hv:∀ i∈vs,M.Ms i=false) (hK:M.K=X.K):
  ∃ r,OpR X (vd2 op) r/\vg7 op b=false/\∀ σ H Q,tE M (bBin o f g) (vs++vs') σ H Q->tOp r (tE M f vs) (tE M g vs') σ H Q:=by
 cases op
 ·cases h;exact ⟨_,qo7 hu,zzx _ (by decide) (by decide),λ σ H Q h=>zvd hv (λ x d y e z c v w H fps f1 f2 Q ho o1 o2 dj nz zd lf=>qb8 hK ho o1 o2 lf) h⟩
 ·cases h;exact ⟨_,qoz hu,zzx _ (by decide) (by decide),λ σ H Q h=>zvd hv (λ x d y e z c v w H fps f1 f2 Q ho o1 o2 dj nz zd lf=>qb8 hK ho o1 o2 lf) h⟩
 ·cases h;exact ⟨_,qo2,zzx _ (by decide) (by decide),λ σ H Q h=>zvd hv (λ x d y e z c v w H fps f1 f2 Q ho o1 o2 dj nz zd lf=>zjx ho o1 o2 lf) h⟩
 ·cases h;exact ⟨_,qo3,zzx _ (by decide) (by decide),λ σ H Q h=>zvd hv (λ x d y e z c v w H fps f1 f2 Q ho o1 o2 dj nz zd lf=>zjx ho o1 o2 lf) h⟩
 ·cases h;exact ⟨_,qo5,zzx _ (by decide) (by decide),λ σ H Q h=>zvd hv (λ x d y e z c v w H fps f1 f2 Q ho o1 o2 dj nz zd lf=>zjx ho o1 o2 lf) h⟩
 ·cases h;exact ⟨_,qo6,zzx _ (by decide) (by decide),λ σ H Q h=>zvd hv (λ x d y e z c v w H fps f1 f2 Q ho o1 o2 dj nz zd lf=>zjx ho o1 o2 lf) h⟩
 ·cases h
 ·cases h
 ·replace h:(if isNm b=true then some (opIn false) else none)=some o:=h
  split at h
  ·rename_i hb
   cases h
   exact ⟨_,qo4 hu,qf2 hb,λ σ H Q h=>zvd hv (λ x d y e z c v w H fps f1 f2 Q ho o1 o2 dj nz zd lf=>qb9 hK ho o1 o2 lf) h⟩
  ·cases h
 ·replace h:(if isNm b=true then some (opIn true) else none)=some o:=h
  split at h
  ·rename_i hb
   cases h
   exact ⟨_,qe8 hu,qf2 hb,λ σ H Q h=>zvd hv (λ x d y e z c v w H fps f1 f2 Q ho o1 o2 dj nz zd lf=>qb9 hK ho o1 o2 lf) h⟩
  ·cases h
def icmp:vn7->Option (Int->Int->Bool)
 | .Lt=>some λ i j=>decide (i < j)
 | .LtE=>some λ i j=>decide (i<=j)
 | .Gt=>some λ i j=>decide (j < i)
 | .GtE=>some λ i j=>decide (j<=i)
 | .Eq=>some λ i j=>decide (i=j)
 | _=>none
theorem ql2:OpR X (vd2 .Eq) (rI0 λ i j=>.bl (decide (i=j))):=λ pins s σ H x y v u Q I rx ry h=>qqp pins s σ H x y v u Q I rx ry (by
 obtain ⟨i,j,rfl,rfl,q⟩:=h
 refine ⟨rfl,?_⟩
 rw [qgh]
 exact q)
theorem zgx {op:vn7}{p:Int->Int->Bool} (h:icmp op=some p):OpR X (vd2 op) (rI0 λ i j=>.bl (p i j))/\op≠.In/\op≠.NotIn:=by
 cases op <;> cases h
 ·exact ⟨ql2,by decide,by decide⟩
 ·exact ⟨qo2,by decide,by decide⟩
 ·exact ⟨qo3,by decide,by decide⟩
 ·exact ⟨qo5,by decide,by decide⟩
 ·exact ⟨qo6,by decide,by decide⟩
def zym (p q:Int->Int->Bool) (f g h:Fx):Fx:=λ ρ=>(f ρ).bind λ (x,_,ρ1)=>(g ρ1).bind λ (y,_,ρ2)=>match x,y with
 | .int i,.int j=>if p i j=true then (h ρ2).bind λ (z,_,ρ3)=>(match z with
  | .int k=>.ok (.bl (q j k),om,ρ3)
  | _=>.no) else .ok (.bl false,om,ρ2)
 | _,_=>.no
theorem qbf {p q:Int->Int->Bool}{f g h:Fx}{vs v1 v2 v3:List Nat}{σ:St}{H:Hp}{Q:VK} (hq:tE M (zym p q f g h) vs σ H Q):qea (rI0 λ i j=>.bl (p i j)) (rI0 λ i j=>.bl (q i j)) (tE M f v1) (tE M g v2) (tE M h v3) σ H Q:=by
 obtain ⟨ρ,fps,rep,qq⟩:=hq
 refine ⟨ρ,fps,rep,?_⟩
 unfold zym at qq
 cases ef:f ρ with
 | no=>rw [ef] at qq;exact qq
 | exc c=>rw [ef] at qq;exact qq
 | ok p0=>
  obtain ⟨x,d,ρ1⟩:=p0
  rw [ef] at qq
  intro v H1 fps1 f1 k1 g1 rep1 o1 t1
  refine ⟨ρ1,fps1,rep1,?_⟩
  dsimp only [Rz.bind] at qq
  cases eg:g ρ1 with
  | no=>rw [eg] at qq;exact qq
  | exc c=>rw [eg] at qq;exact λ H' fps' k=>qq H' fps' (k1.trans k)
  | ok p2=>
   obtain ⟨y,e,ρ2⟩:=p2
   rw [eg] at qq
   intro w H2 fps2 f2 k2 g2 rep2 o2 t2
   cases x with
   | int i=>
    cases y with
    | int j=>
     dsimp only at qq
     rw [Own] at o1 o2
     obtain ⟨rfl,rfl⟩:=o1
     obtain ⟨rfl,rfl⟩:=o2
     refine ⟨i,j,rfl,rfl,p i j,rfl,?_⟩
     by_cases hp:p i j=true
     ·rw [if_pos hp] at qq ⊢
      refine ⟨ρ2,fps2,rep2,?_⟩
      cases eh:h ρ2 with
      | no=>rw [eh] at qq;exact qq
      | exc c=>rw [eh] at qq;exact λ H' fps' k=>qq H' fps' ((k1.trans k2).trans k)
      | ok p3=>
       obtain ⟨z,c,ρ3⟩:=p3
       rw [eh] at qq
       intro u H3 fps3 f3 k3 g3 rep3 o3 t3
       cases z with
       | int k=>
        dsimp only at qq
        rw [Own] at o3
        obtain ⟨rfl,rfl⟩:=o3
        exact ⟨j,k,rfl,rfl,qq _ H3 fps3 [] ((k1.trans k2).trans k3) ((g1.trans g2).trans g3) rep3 (by rw [Own];exact ⟨rfl,rfl⟩) ⟨λ _ z=>(nomatch z),λ _ z=>nomatch z⟩⟩
       | _=>exact qq.elim
     ·rw [if_neg hp] at qq ⊢
      exact qq _ H2 fps2 [] (k1.trans k2) (g1.trans g2) rep2 (by rw [Own];exact ⟨rfl,rfl⟩) ⟨λ _ z=>(nomatch z),λ _ z=>nomatch z⟩
    | _=>exact qq.elim
   | _=>exact qq.elim
def zwj (f g:Fx):Fx:=λ ρ=>(f ρ).bind λ (x,_,ρ1)=>match x with
 | .bl true=>g ρ1
 | .bl false=>.ok (.bl false,om,ρ1)
 | _=>.no
def bOrV (f g:Fx):Fx:=λ ρ=>(f ρ).bind λ (x,_,ρ1)=>match x with
 | .bl true=>.ok (.bl true,om,ρ1)
 | .bl false=>g ρ1
 | _=>.no
def zvp:PV->Nat->Option (PV×Nat)
 | .bl b,_=>some (.bl (!b),om)
 | _,_=>none
variable {f g:Fx}{vs vs':List Nat}{σ:St}{H:Hp}{Q:VK}
theorem qd9 {f:Fx}{ρ ρ1:Rho}{fps fps1:Fps}{H H1:Hp} (k1:KD M H fps H1 fps1) (g1:Agr M ρ ρ1) (rep1:Rep M ρ1 σ H1 fps1) (hs:∀ i∈vs,i∈vs')
  (q:match f ρ1 with
   | .ok (x,d,ρ')=>∀ v H' fps' fp,KD M H fps H' fps'->Agr M ρ ρ'->Rep M ρ' σ H' fps'->Own M.K H' (Zt M vs' fps' fp) x d v fp->Temp M vs' H H' fps' fp->Q v H'
   | .exc c=>∀ H' fps',KD M H fps H' fps'->M.W σ c H'
   | .no=>False):tE M f vs σ H1 Q:=by
 refine ⟨ρ1,fps1,rep1,?_⟩
 cases eg:f ρ1 with
 | no=>rw [eg] at q;exact q
 | exc c=>rw [eg] at q;exact λ H' fps' k=>q H' fps' (k1.trans k)
 | ok p2=>
  obtain ⟨x,d,ρ2⟩:=p2
  rw [eg] at q
  exact λ v H' fps' fp k g r o t=>q v H' fps' fp (k1.trans k) (g1.trans g) r (o.weak λ a h=>Zt.mono hs h) ⟨λ a ha=>(by
   have e:=t.new a ha
   cases e':H a with
   | none=>rfl
   | some o=>exact absurd e (k1.dom a (by rw [e'];simp))),t.ndj⟩
theorem qk3 (hq:tE M (zwj f g) (vs++vs') σ H Q):qny (tE M f vs) (tE M g vs') σ H Q:=by
 obtain ⟨ρ,fps,rep,q⟩:=hq
 refine ⟨ρ,fps,rep,?_⟩
 unfold zwj at q
 cases ef:f ρ with
 | no=>rw [ef] at q;exact q
 | exc c=>rw [ef] at q;exact q
 | ok p=>
  obtain ⟨x,d,ρ1⟩:=p
  rw [ef] at q
  intro v H1 fps1 f1 k1 g1 rep1 o1 t1
  dsimp only [Rz.bind] at q
  cases x with
  | bl b=>
   rw [Own] at o1
   refine ⟨b,o1.1,?_⟩
   cases b with
   | true=>exact qd9 k1 g1 rep1 (λ i hi=>ja7 _ hi) q
   | false=>exact q (.bl false) H1 fps1 [] k1 g1 rep1 (by rw [Own];exact ⟨rfl,rfl⟩) ⟨λ _ z=>(nomatch z),λ _ z=>nomatch z⟩
  | _=>exact q.elim
theorem qnw (hq:tE M (bOrV f g) (vs++vs') σ H Q):tOrV (tE M f vs) (tE M g vs') σ H Q:=by
 obtain ⟨ρ,fps,rep,q⟩:=hq
 refine ⟨ρ,fps,rep,?_⟩
 unfold bOrV at q
 cases ef:f ρ with
 | no=>rw [ef] at q;exact q
 | exc c=>rw [ef] at q;exact q
 | ok p=>
  obtain ⟨x,d,ρ1⟩:=p
  rw [ef] at q
  intro v H1 fps1 f1 k1 g1 rep1 o1 t1
  dsimp only [Rz.bind] at q
  cases x with
  | bl b=>
   rw [Own] at o1
   refine ⟨b,o1.1,?_⟩
   cases b with
   | false=>exact qd9 k1 g1 rep1 (λ i hi=>ja7 _ hi) q
   | true=>exact q (.bl true) H1 fps1 [] k1 g1 rep1 (by rw [Own];exact ⟨rfl,rfl⟩) ⟨λ _ z=>(nomatch z),λ _ z=>nomatch z⟩
  | _=>exact q.elim
theorem qk1 (hq:tE M (bUn zvp f) vs σ H Q):qnt (tE M f vs) σ H Q:=by
 refine qc8 (r:=λ x H1 Q=>∃ c,x=.bl c/\Q (.bl (!c)) H1) (λ x d z c v H fps f1 Q ho o1 nz zd lf=>?_) hq
 cases x with
 | bl b=>cases ho;rw [Own] at o1;exact ⟨b,o1.1,zws lf⟩
 | _=>cases ho
end
end QQ
namespace PySem.SeqAt
open AutoSeq1 (wpAny_loadPart')
open MeetsSeq MeetsSeq2 MeetsSeq3 SeqRoads2
def LtAt (A:vc0) (s:va3) (y x:va2) (b:Bool):Prop:=
 ∀ (prog:vb0) (w:vc1) (E:va2->va3->Prop) (Q:va2->va3->Prop),Q (.bool b) s->vb3 (vb4 prog w) A (richCompare .Lt y x) Q E s
def lexI (e l:Nat->Bool) (fin:Bool):List Nat->Bool
 | []=>fin
 | i::r=>if e i=true then lexI e l fin r else l i
theorem qfi (l b:Addr) (items items2:Array va2) (n n2:Nat) (dd dd2:Option Addr) (sl sl2:Array (Option va2)) (e lt:Nat->Bool) (k:Nat):
  ∀ i:Nat,i<=min items.size items2.size->min items.size items2.size - i=k->Meets (vf6.«list.__eq__.loop» ⟨[.ref l,.ref b,vm2 i,vm2 0],[]⟩)
   (λ A R s=>s.heap.get? l=some { cls:=.type "list",dict:=dd,data:=.seq items n,slots:=sl }/\s.heap.get? b=some { cls:=.type "list",dict:=dd2,data:=.seq items2 n2,slots:=sl2 } /\
    (∀ j (h1:j < items.size) (h2:j < items2.size),EqAt A.in1 s items[j] items2[j] (e j)/\LtAt A.in1 s items[j] items2[j] (lt j)) /\
    R (.ok (.ret (.bool (lexI e lt (decide (items.size < items2.size)) ((ja2 (min items.size items2.size)).drop i))))) s):=by
 induction k with
 | zero=>
  intro i hle hk prog w A R s h
  obtain ⟨hp,g,d,tk,os⟩:=s;obtain ⟨hl,hb,he,h⟩:=h
  wp_walk using wpAny_loadPart' hl,wpAny_loadPart' hb
  have hd:(ja2 (min items.size items2.size)).drop i=[]:=by simp;omega
  rw [hd] at h
  have fin:R (.ok (.ret (.bool (decide (items.size < items2.size))))) ⟨hp,g,d,tk,os⟩:=h
  by_cases h1:i < items.size
  ·have hi1:items[((i:Nat):Int).toNat]?=some items[i]:=by simp [h1]
   have hi2:items2[((i:Nat):Int).toNat]?=none:=by simp;omega
   rw [hi1,hi2]
   wp_walk using wpAny_loadPart' hl,wpAny_loadPart' hb
   exact fin
  ·have hi1:items[((i:Nat):Int).toNat]?=none:=by simp;omega
   rw [hi1]
   wp_walk using wpAny_loadPart' hl,wpAny_loadPart' hb
   exact fin
 | succ k ih=>
  intro i hle hk prog w A R s h
  obtain ⟨hp,g,d,tk,os⟩:=s;obtain ⟨hl,hb,he,h⟩:=h
  wp_walk using wpAny_loadPart' hl,wpAny_loadPart' hb
  have hlt:i < items.size:=by omega
  have hlt2:i < items2.size:=by omega
  have hi1:items[((i:Nat):Int).toNat]?=some items[i]:=by simp [hlt]
  have hi2:items2[((i:Nat):Int).toNat]?=some items2[i]:=by simp [hlt2]
  have hd:(ja2 (min items.size items2.size)).drop i=i::(ja2 (min items.size items2.size)).drop (i + 1):=by
   rw [jf2 (by rw [jc8];omega),jm6]
  have hc:((i:Int) + 1)=((i + 1:Nat):Int):=by push_cast;rfl
  rw [hd] at h
  rw [hi1,hi2]
  refine va0 ((he i hlt hlt2).1 prog w _ _ ?_)
  cases hb':e i with
  | true=>
   unfold lexI at h
   rw [hb',if_pos rfl] at h
   wp_walk
   rw [hc]
   exact ⟨plainId_quiet vk7 _,vn1 entry_eq_loop (by
    rw [Around.under_plainId vk7 _]
    exact ih (i + 1) (by omega) (by omega) prog w A R _ ⟨hl,hb,he,h⟩)⟩
  | false=>
   unfold lexI at h
   rw [hb',if_neg jb6] at h
   wp_walk using wpAny_loadPart' hl,wpAny_loadPart' hb
   rw [hi1,hi2]
   dsimp only
   refine va0 ((he i hlt hlt2).2 prog w _ _ ?_)
   wp_walk
   exact h
theorem qfn (l b:Addr) (items items2:Array va2) (n n2:Nat) (dd dd2:Option Addr) (sl sl2:Array (Option va2)) (e lt:Nat->Bool):
  Meets (vf6.«list.__lt__» ⟨[.ref l,.ref b],[]⟩)
   (λ A R s=>s.heap.get? l=some { cls:=.type "list",dict:=dd,data:=.seq items n,slots:=sl }/\s.heap.get? b=some { cls:=.type "list",dict:=dd2,data:=.seq items2 n2,slots:=sl2 } /\
    (∀ j (h1:j < items.size) (h2:j < items2.size),EqAt A.in1 s items[j] items2[j] (e j)/\LtAt A.in1 s items[j] items2[j] (lt j)) /\
    R (.ok (.ret (.bool (lexI e lt (decide (items.size < items2.size)) (ja2 (min items.size items2.size)))))) s):=by
 intro prog w A R s h
 obtain ⟨hp,g,d,tk,os⟩:=s;obtain ⟨hl,hb,he,h⟩:=h
 have f3:=AutoSeq1.sub_list_list
 wp_walk using wpAny_loadPart' hl,wpAny_loadPart' hb
 exact ⟨plainId_quiet vk7 _,vn1 entry_eq_loop (by
  rw [Around.under_plainId vk7 _]
  exact qfi l b items items2 n n2 dd dd2 sl sl2 e lt _ 0 (ji5 _) rfl prog w A R _ ⟨hl,hb,he,by simpa using h⟩)⟩
theorem qc6 (l b:Addr) (items items2:Array va2) (n n2:Nat) (dd dd2:Option Addr) (sl sl2:Array (Option va2)) (e lt:Nat->Bool):
  Meets (vf6.«tuple.__lt__» ⟨[.ref l,.ref b],[]⟩)
   (λ A R s=>s.heap.get? l=some { cls:=.type "tuple",dict:=dd,data:=.seq items n,slots:=sl }/\s.heap.get? b=some { cls:=.type "tuple",dict:=dd2,data:=.seq items2 n2,slots:=sl2 } /\
    (∀ j (h1:j < items.size) (h2:j < items2.size),EqAt A.in1 s items[j] items2[j] (e j)/\LtAt A.in1 s items[j] items2[j] (lt j)) /\
    R (.ok (.ret (.bool (lexI e lt (decide (items.size < items2.size)) (ja2 (min items.size items2.size)))))) s):=
 .of_wp λ prog w A R s h=>by
  obtain ⟨hp,g,d,tk,os⟩:=s;obtain ⟨hl,hb,he,h⟩:=h
  have f2:=AutoSeq1.sub_tuple_tuple
  have hZ:(items.toList.zip items2.toList).length=min items.size items2.size:=by simp
  wp_walk using wpAny_loadPart' hl,wpAny_loadPart' hb,wpAny_forIn_list _ (λ rest b s'=>b.1=none/\s'=⟨hp,g,d,tk,os⟩/\∃ i,rest=(items.toList.zip items2.toList).drop i /\
   R (.ok (.ret (.bool (lexI e lt (decide (items.size < items2.size)) ((ja2 (min items.size items2.size)).drop i))))) ⟨hp,g,d,tk,os⟩) _
  case turn=>
   rintro ⟨y,x⟩ rest b s' ⟨hb',rfl,i,hz,hR⟩
   have hlt:i < (items.toList.zip items2.toList).length:=by
    rcases jq9 i (items.toList.zip items2.toList).length with h' | h'
    ·exact h'
    ·rw [jn8 h'] at hz;cases hz
   have hm:i < min items.size items2.size:=hZ ▸ hlt
   have h1:i < items.size:=jb5 hm (jl7 _ _)
   have h2:i < items2.size:=jb5 hm (jl2 _ _)
   rw [jf2 hlt] at hz
   injection hz with hyx hrest
   have hy:y=items[i]:=by have:=congrArg Prod.fst hyx;simpa using this
   have hx:x=items2[i]:=by have:=congrArg Prod.snd hyx;simpa using this
   subst hy hx
   have hd:(ja2 (min items.size items2.size)).drop i=i::(ja2 (min items.size items2.size)).drop (i + 1):=by
    rw [jf2 (by rw [jc8];omega),jm6]
   rw [hd] at hR
   unfold lexI at hR
   refine va0 ((he i h1 h2).1 prog w _ _ ?_)
   cases hy:e i with
   | true=>
    rw [hy,if_pos rfl] at hR
    wp_walk
    exact ⟨rfl,rfl,i + 1,hrest,hR⟩
   | false=>
    rw [hy,if_neg jb6] at hR
    have h2':=(he i h1 h2).2
    unfold LtAt at h2'
    generalize richCompare .Lt items[i] items2[i]=rc at h2' ⊢
    wp_walk
    refine h2' prog w _ _ ?_
    wp_walk
    exact ⟨_,rfl,hR⟩
  case fin=>
   rintro ⟨b1,b2⟩ s' ⟨hb',rfl,i,hz,hR⟩
   simp only at hb'
   subst hb'
   have hge:min items.size items2.size<=i:=by
    rcases jq9 i (items.toList.zip items2.toList).length with h' | h'
    ·rw [jf2 h'] at hz;cases hz
    ·exact hZ ▸ h'
   rw [jn8 (by simpa using hge)] at hR
   wp_walk
   exact ⟨_,rfl,hR⟩
  case h=>
   exact ⟨rfl,rfl,0,rfl,h⟩
section
variable {A:vc0}{s:va3}
theorem LtAt.lists {l b:Addr}{items items2:Array va2}{e lt:Nat->Bool} (hl:s.heap.IsList l items) (hb:s.heap.IsList b items2) (hu:A.units < vh0)
  (he:∀ j (h1:j < items.size) (h2:j < items2.size),EqAt A.in1 s items[j] items2[j] (e j)/\LtAt A.in1 s items[j] items2[j] (lt j)):LtAt A s (.ref l) (.ref b) (lexI e lt (decide (items.size < items2.size)) (ja2 (min items.size items2.size))):=λ prog w E Q h=>by
 obtain ⟨⟨cls,dd,data,sl⟩,ho,hc,n,hd⟩:=id hl
 obtain ⟨⟨cls2,dd2,data2,sl2⟩,ho2,hc2,n2,hd2⟩:=id hb
 simp only at hc hd hc2 hd2
 subst hc hd hc2 hd2
 exact richCompare_meets_room (op:=.Lt) ⟨_,ho,rfl⟩ ⟨_,ho2,rfl⟩ F.slot_list_lt F.entry_list_lt (F.args_list_lt_2 _ _) (qfn l b items items2 n n2 dd dd2 sl sl2 e lt)
  ⟨ho,ho2,he,show Value.bool _≠Value.notImplemented/\Q (.bool _) s from ⟨(λ x=>nomatch x),h⟩⟩ hu
theorem LtAt.tuples {l b:Addr}{items items2:Array va2}{e lt:Nat->Bool} (hl:s.heap.IsTuple l items) (hb:s.heap.IsTuple b items2) (hu:A.units < vh0)
  (he:∀ j (h1:j < items.size) (h2:j < items2.size),EqAt A.in1 s items[j] items2[j] (e j)/\LtAt A.in1 s items[j] items2[j] (lt j)):LtAt A s (.ref l) (.ref b) (lexI e lt (decide (items.size < items2.size)) (ja2 (min items.size items2.size))):=λ prog w E Q h=>by
 obtain ⟨⟨cls,dd,data,sl⟩,ho,hc,n,hd⟩:=id hl
 obtain ⟨⟨cls2,dd2,data2,sl2⟩,ho2,hc2,n2,hd2⟩:=id hb
 simp only at hc hd hc2 hd2
 subst hc hd hc2 hd2
 exact richCompare_meets_room (op:=.Lt) ⟨_,ho,rfl⟩ ⟨_,ho2,rfl⟩ F.slot_tuple_lt F.entry_tuple_lt (F.args_tuple_lt_2 _ _) (qc6 l b items items2 n n2 dd dd2 sl sl2 e lt)
  ⟨ho,ho2,he,show Value.bool _≠Value.notImplemented/\Q (.bool _) s from ⟨(λ x=>nomatch x),h⟩⟩ hu
end
end PySem.SeqAt
namespace QQ
open PySem PySem.Spec PyProof.Rows L2 PySem.W
def runK {α:Type} (lt:Nat->Nat->Bool):KasT α->α
 | .ret a=>a
 | .ask i j k=>runK lt (k (lt i j))
def okK {α:Type} (n:Nat) (lt:Nat->Nat->Bool):KasT α->Bool
 | .ret _=>true
 | .ask i j k=>decide (i < n) && decide (j < n) && okK n lt (k (lt i j))
theorem qdt {α:Type}{cmp:Nat->Nat->(Bool->va3->Prop)->va3->Prop}{n:Nat}{lt:Nat->Nat->Bool}{s:va3} (hc:∀ i j,i < n->j < n->∀ C:Bool->va3->Prop,C (lt i j) s->cmp i j C s):∀ (t:KasT α) (Q:α->va3->Prop),okK n lt t=true->Q (runK lt t) s->t.kasWp cmp Q s
 | .ret _,_,_,h=>h
 | .ask i j k,Q,ok,h=>by
  unfold okK at ok
  rw [ja5,ja5] at ok
  exact hc i j (of_decide_eq_true ok.1.1) (of_decide_eq_true ok.1.2) _ (qdt hc _ Q ok.2 h)
section
variable {prog:vb0}{w:vc1}{A:vc0}{E:va2->va3->Prop}{s:va3}
structure Asks (prog:vb0) (w:vc1) (A:vc0) (us:List va2) (κ:SortKind) (lt:Nat->Nat->Bool) (s:va3):Prop where
 kind:∀ Q:SortKind->va3->Prop,Q κ s->vb3 (vb4 prog w) A (keyKind' us.toArray) Q (λ _ _=>False) s
 less:∀ i j,i < us.length->j < us.length->∀ C:Bool->va3->Prop,C (lt i j) s->vb3 (vb4 prog w) A (keyLt' κ (us.getD i Value.none) (us.getD j Value.none)) C (λ _ _=>False) s
theorem qef {a:Addr}{us:List va2}{n:Nat}{κ:SortKind}{lt:Nat->Nat->Bool}{P:Fin->va3->Prop} (ho:s.heap.get? a=some (vc3 "list" us.toArray n)) (h1:2<=us.length) (h64:us.length < 64)
  (hok:okK us.length lt (vh6 us.length)=true) (hask:∀ h',(∀ b o,b≠a->s.heap.get? b=some o->h'.get? b=some o)->Asks prog w A us κ lt { s with heap:=h' })
  (h:P (.done (.ret .none)) { s with heap:=sortedHeap s.heap a us (jk9 ((runK lt (vh6 us.length)).toList.map λ i=>us.getD i Value.none)) }):vb3 (vb4 prog w) A (vf6.«list.sort» ⟨[.ref a],[]⟩) P E s:=by
 rw [vm5]
 have la:=va4 ho
 have z:=vk2
 refine va0 (listItems_at ho rfl ?_)
 refine va0 (vg6 ho rfl ?_ (by simp;omega))
 obtain ⟨e1,oa⟩:∃ e1,(s.heap.update a (vb6 λ _=>#[])).get? a=some (vc3 "list" #[] e1):=⟨_,vm8 ho (λ _=>#[])⟩
 refine va0 (vi3 oa rfl ?_)
 refine va0 (vj9 ?_)
 refine va0 (vg5 ?_)
 refine vd9 ?_
 have ob:(((s.heap.update a (vb6 λ _=>#[])).push (vc3 "tuple" us.toArray 0)).push (vc3 "list" #[] 0)).get? a=some (vc3 "list" #[] e1):=by
  rw [vf1 _ _ _ (by rw [vj6,vd4];exact jc6 (jg0 la)),vf1 _ _ _ (by rw [vd4];exact jc6 la)]
  exact oa
 show vb3 (vb4 prog w) A _ P E { s with heap:=((s.heap.update a (vb6 λ _=>#[])).push (vc3 "tuple" us.toArray 0)).push (vc3 "list" #[] 0) }
 dsimp only
 have lz:us.toArray.size=us.length:=by simp
 rw [if_neg (by omega),if_neg (by omega)]
 have keep:∀ b o,b≠a->s.heap.get? b=some o->(((s.heap.update a (vb6 λ _=>(#[]:Array va2))).push (vc3 "tuple" us.toArray 0)).push (vc3 "list" #[] 0)).get? b=some o:=λ b o hb e=>
  va1 _ (va1 _ (by rw [Heap.get?_update_ne _ _ _ _ hb];exact e))
 have ask:=hask _ keep
 refine va0 (ve9 (ask.kind (λ κ' s0=>κ'=κ/\s0={ s with heap:=((s.heap.update a (vb6 λ _=>(#[]:Array va2))).push (vc3 "tuple" us.toArray 0)).push (vc3 "list" #[] 0) }) ⟨rfl,rfl⟩) (λ κ' s0 hk=>?_) λ _ _ x=>x.elim)
 obtain ⟨rfl,rfl⟩:=hk
 let p:Array Nat:=runK lt (vh6 us.length)
 refine va0 (ve9 (kat_run (ks:=us) (vs:=us) (Q:=λ st' s'=>s'={ s with heap:=((s.heap.update a (vb6 λ _=>(#[]:Array va2))).push (vc3 "tuple" us.toArray 0)).push (vc3 "list" #[] 0) }/\p.size=us.length/\arrOf st'=p.map (kas_item (us.toArray.zip us.toArray))/\failedOf st'=none) (G:=λ p' s'=>p'=p/\s'={ s with heap:=((s.heap.update a (vb6 λ _=>(#[]:Array va2))).push (vc3 "tuple" us.toArray 0)).push (vc3 "list" #[] 0) }) rfl h1 h64 (λ p' st' s' a1 a2 a3 a4=>by obtain ⟨rfl,rfl⟩:=a4;exact ⟨rfl,a1,a2,a3⟩) (qdt (n:=us.length) (lt:=lt) (λ i j hi hj C hC=>ask.less i j hi hj C hC) _ _ hok ⟨rfl,rfl⟩)) ?_ λ _ _ e=>e)
 rintro ⟨⟨⟩,st'⟩ s' ⟨rfl,hp,har,hf⟩
 dsimp only
 have hout:=kat_snds rfl har
 have hsz:(jk9 (p.toList.map λ i=>us.getD i Value.none)).size=us.length:=by rw [jc0,ja3,jh4,hp]
 rw [hout]
 refine va0 (vi3 ob rfl ?_)
 refine va0 (vg6 ob rfl ?_ (hsz2:=jd5 (jq6 hsz) (by omega)))
 rw [hf]
 simp only [bne_self_eq_false,jm5,if_false]
 exact va5 h
theorem qal {l:Addr}{us:List va2}{κ:SortKind}{lt:Nat->Nat->Bool}{Q:va2->va3->Prop} (hl:s.heap.IsList l us.toArray) (h1:2<=us.length) (h64:us.length < 64)
  (hok:okK us.length lt (vh6 us.length)=true) (hask:∀ h',(∀ b o,s.heap.get? b=some o->h'.get? b=some o)->Asks prog w A.in1.in1 us κ lt { s with heap:=h' })
  (h:Q (.ref (s.heap.objs.size + 1)) { s with heap:=vi9 s.heap us (jk9 ((runK lt (vh6 us.length)).toList.map λ i=>us.getD i Value.none)) }):vb3 (vb4 prog w) A (call (.builtin "sorted") [.ref l]) Q E s:=by
 have z:=vk2
 refine vh8 kind_sorted plain_sorted entry_sorted (args_sorted1 _) ?_
 unfold vf6.«sorted»
 refine va0 (m:=checkCount "sorted" 1 1 _) (va5 ?_)
 refine va0 (collect_list hl ?_ (by omega))
 refine va0 (vg5 ?_ (by omega))
 have lz:((s.heap.push (vc3 "list" #[] 0)).update s.heap.objs.size (vb6 (·++us.toArray))).objs.size=s.heap.objs.size + 1:=by
  rw [vd4,vj6]
 have oL:(((s.heap.push (vc3 "list" #[] 0)).update s.heap.objs.size (vb6 (·++us.toArray))).push (vc3 "list" us.toArray 0)).get? (s.heap.objs.size + 1)=some (vc3 "list" us.toArray 0):=by
  rw [<- lz];exact va6 _ rfl
 show vb3 _ _ _ _ _ { s with heap:=((s.heap.push (vc3 "list" #[] 0)).update s.heap.objs.size (vb6 (·++us.toArray))).push (vc3 "list" us.toArray 0) }
 rw [lz]
 refine va0 (vd9 (vd7 vo1 ⟨_,oL,rfl⟩ vn0 (qef (κ:=κ) oL h1 h64 hok (λ h' keep=>?_) ⟨_,rfl,?_⟩) (vo3 _)))
 ·refine hask h' λ b o e=>keep b o ?_ ?_
  ·exact jc6 (jg0 (va4 e))
  ·have hb:=va4 e
   exact va1 _ (by
    rw [Heap.get?_update_ne _ _ _ _ (jc6 hb)]
    exact va1 _ e)
 ·exact va5 ⟨_,rfl,h⟩
end
end QQ
namespace PySem.SeqAt
mutual
def ltD:vc5->vc5->Bool
 | .int i,.int j=>decide (i < j)
 | .list xs,.list ys=>ltDs xs ys
 | .tuple xs,.tuple ys=>ltDs xs ys
 | _,_=>false
def ltDs:List vc5->List vc5->Bool
 | _,[]=>false
 | [],_::_=>true
 | x::xs,y::ys=>if vb1 x y=true then ltDs xs ys else ltD x y
end
mutual
def cmD:vc5->vc5->Bool
 | .int _,.int _=>true
 | .list xs,.list ys=>cmDs xs ys
 | .tuple xs,.tuple ys=>cmDs xs ys
 | _,_=>false
def cmDs:List vc5->List vc5->Bool
 | [],_=>true
 | _::_,[]=>true
 | x::xs,y::ys=>cmD x y && cmDs xs ys
end
def qe3 (xs ys:List vc5) (j:Nat):Bool:=ltD (xs.getD j .none) (ys.getD j .none)
theorem qb4 (e l:Nat->Bool) (fin:Bool) (f:Nat->Nat):∀ L:List Nat,lexI e l fin (L.map f)=lexI (λ i=>e (f i)) (λ i=>l (f i)) fin L
 | []=>rfl
 | i::r=>by rw [jb7];unfold lexI;rw [qb4 e l fin f r]
theorem zbv:∀ xs ys:List vc5,lexI (pairEq xs ys) (qe3 xs ys) (decide (xs.length < ys.length)) (ja2 (min xs.length ys.length))=ltDs xs ys
 | xs,[]=>by
  rw [jo3,Nat.min_zero,js4]
  show decide (xs.length < 0)=ltDs xs []
  rw [decide_eq_false (by omega)]
  cases xs <;> rw [ltDs]
 | [],y::ys=>by
  rw [jo3,Nat.zero_min,js4,ltDs]
  show decide (0 < (y::ys).length)=true
  rw [ja9]
  exact decide_eq_true (by omega)
 | x::xs,y::ys=>by
  have ih:=zbv xs ys
  rw [ja9,ja9,show min (xs.length + 1) (ys.length + 1)=min xs.length ys.length + 1 by omega,List.range_succ_eq_map,ltDs]
  unfold lexI
  rw [qb4,show decide (xs.length + 1 < ys.length + 1)=decide (xs.length < ys.length) from decide_eq_decide.mpr (by omega)]
  show (if vb1 x y=true then lexI (pairEq xs ys) (qe3 xs ys) (decide (xs.length < ys.length)) (ja2 (min xs.length ys.length)) else ltD x y)=_
  rw [ih]
theorem qid {A:vc0}{s:va3}{i j:Int}{t u:Tok}:LtAt A s (.int i t) (.int j u) (decide (i < j)):=λ prog w E Q h=>wpAny_lt_int h
mutual
theorem zpy:∀ (da db:vc5) (A:vc0) (s:va3) (a b:va2) (as bs:List Addr),Reads s.heap a da as->Reads s.heap b db bs->cmD da db=true->da.canLay0=true->db.canLay0=true ->
  A.units + min da.depth db.depth < vh0->LtAt A s a b (ltD da db)
 | .int i,.int j,A,s,_,_,_,_,ra,rb,_,_,_,_=>by
  cases ra
  cases rb
  rw [ltD]
  exact qid
 | .list xs,.list ys,A,s,_,_,_,_,ra,rb,hc,ha,hb,hu=>by
  cases ra with
  | @list l o vs n _ as₁ h1 h2 h3 h4=>
   cases rb with
   | @list l' o' vs' n' _ bs₁ k1 k2 k3 k4=>
    have n1:vs.size=xs.length:=by simpa using ve4 _ _ _ h4
    have n2:vs'.size=ys.length:=by simpa using ve4 _ _ _ k4
    rw [ltD,<- zbv xs ys,<- n1,<- n2]
    rw [cmD] at hc
    refine LtAt.lists ⟨_,h1,h2,_,h3⟩ ⟨_,k1,k2,_,k3⟩ (room_here hu) λ j j1 j2=>⟨?_,?_⟩
    ·have:=eqAt_readsAll xs ys A.in1 s vs.toList vs'.toList _ _ h4 k4 ha hb (room_in hu) j (by simpa using j1) (by simpa using j2)
     simpa using this
    ·have:=zvq xs ys A.in1 s vs.toList vs'.toList _ _ h4 k4 hc ha hb (room_in hu) j (by simpa using j1) (by simpa using j2)
     simpa using this
 | .tuple xs,.tuple ys,A,s,_,_,_,_,ra,rb,hc,ha,hb,hu=>by
  cases ra with
  | @tuple l o vs n _ as₁ h1 h2 h3 h4=>
   cases rb with
   | @tuple l' o' vs' n' _ bs₁ k1 k2 k3 k4=>
    have n1:vs.size=xs.length:=by simpa using ve4 _ _ _ h4
    have n2:vs'.size=ys.length:=by simpa using ve4 _ _ _ k4
    rw [ltD,<- zbv xs ys,<- n1,<- n2]
    rw [cmD] at hc
    refine LtAt.tuples ⟨_,h1,h2,_,h3⟩ ⟨_,k1,k2,_,k3⟩ (room_here hu) λ j j1 j2=>⟨?_,?_⟩
    ·have:=eqAt_readsAll xs ys A.in1 s vs.toList vs'.toList _ _ h4 k4 ha hb (room_in hu) j (by simpa using j1) (by simpa using j2)
     simpa using this
    ·have:=zvq xs ys A.in1 s vs.toList vs'.toList _ _ h4 k4 hc ha hb (room_in hu) j (by simpa using j1) (by simpa using j2)
     simpa using this
 | .none,_,_,_,_,_,_,_,_,_,hc,_,_,_=>by rw [cmD] at hc;cases hc;all_goals (intros;contradiction)
 | .bool _,_,_,_,_,_,_,_,_,_,hc,_,_,_=>by rw [cmD] at hc;cases hc;all_goals (intros;contradiction)
 | .str _,_,_,_,_,_,_,_,_,_,hc,_,_,_=>by rw [cmD] at hc;cases hc;all_goals (intros;contradiction)
 | .dict _,_,_,_,_,_,_,_,_,_,hc,_,_,_=>by rw [cmD] at hc;cases hc;all_goals (intros;contradiction)
 | .int _,.none,_,_,_,_,_,_,_,_,hc,_,_,_=>by rw [cmD] at hc;cases hc;all_goals (intros;contradiction)
 | .int _,.bool _,_,_,_,_,_,_,_,_,hc,_,_,_=>by rw [cmD] at hc;cases hc;all_goals (intros;contradiction)
 | .int _,.str _,_,_,_,_,_,_,_,_,hc,_,_,_=>by rw [cmD] at hc;cases hc;all_goals (intros;contradiction)
 | .int _,.list _,_,_,_,_,_,_,_,_,hc,_,_,_=>by rw [cmD] at hc;cases hc;all_goals (intros;contradiction)
 | .int _,.tuple _,_,_,_,_,_,_,_,_,hc,_,_,_=>by rw [cmD] at hc;cases hc;all_goals (intros;contradiction)
 | .int _,.dict _,_,_,_,_,_,_,_,_,hc,_,_,_=>by rw [cmD] at hc;cases hc;all_goals (intros;contradiction)
 | .list _,.none,_,_,_,_,_,_,_,_,hc,_,_,_=>by rw [cmD] at hc;cases hc;all_goals (intros;contradiction)
 | .list _,.bool _,_,_,_,_,_,_,_,_,hc,_,_,_=>by rw [cmD] at hc;cases hc;all_goals (intros;contradiction)
 | .list _,.int _,_,_,_,_,_,_,_,_,hc,_,_,_=>by rw [cmD] at hc;cases hc;all_goals (intros;contradiction)
 | .list _,.str _,_,_,_,_,_,_,_,_,hc,_,_,_=>by rw [cmD] at hc;cases hc;all_goals (intros;contradiction)
 | .list _,.tuple _,_,_,_,_,_,_,_,_,hc,_,_,_=>by rw [cmD] at hc;cases hc;all_goals (intros;contradiction)
 | .list _,.dict _,_,_,_,_,_,_,_,_,hc,_,_,_=>by rw [cmD] at hc;cases hc;all_goals (intros;contradiction)
 | .tuple _,.none,_,_,_,_,_,_,_,_,hc,_,_,_=>by rw [cmD] at hc;cases hc;all_goals (intros;contradiction)
 | .tuple _,.bool _,_,_,_,_,_,_,_,_,hc,_,_,_=>by rw [cmD] at hc;cases hc;all_goals (intros;contradiction)
 | .tuple _,.int _,_,_,_,_,_,_,_,_,hc,_,_,_=>by rw [cmD] at hc;cases hc;all_goals (intros;contradiction)
 | .tuple _,.str _,_,_,_,_,_,_,_,_,hc,_,_,_=>by rw [cmD] at hc;cases hc;all_goals (intros;contradiction)
 | .tuple _,.list _,_,_,_,_,_,_,_,_,hc,_,_,_=>by rw [cmD] at hc;cases hc;all_goals (intros;contradiction)
 | .tuple _,.dict _,_,_,_,_,_,_,_,_,hc,_,_,_=>by rw [cmD] at hc;cases hc;all_goals (intros;contradiction)
theorem zvq:∀ (xs ys:List vc5) (A:vc0) (s:va3) (vs ws:List va2) (as bs:List Addr),vi4 s.heap vs xs as->vi4 s.heap ws ys bs->cmDs xs ys=true->vb2 xs=true->vb2 ys=true ->
  A.units + min (vb5 xs) (vb5 ys) < vh0->∀ j (h1:j < vs.length) (h2:j < ws.length),LtAt A s vs[j] ws[j] (qe3 xs ys j)
 | [],_,_,_,_,_,_,_,ra,_,_,_,_,_,j,h1,_=>by cases ra;exact absurd h1 (js5 _)
 | _::_,[],_,_,_,_,_,_,_,rb,_,_,_,_,j,_,h2=>by cases rb;exact absurd h2 (js5 _)
 | x::xs,y::ys,A,s,_,_,_,_,ra,rb,hc,ha,hb,hu,j,h1,h2=>by
  have ha':x.canLay0=true/\vb2 xs=true:=by simpa [vb2] using ha
  have hb':y.canLay0=true/\vb2 ys=true:=by simpa [vb2] using hb
  rw [cmDs,ja5] at hc
  cases ra with
  | cons r rs=>
   cases rb with
   | cons r' rs'=>
    cases j with
    | zero=>exact zpy x y A s _ _ _ _ r r' hc.1 ha'.1 hb'.1 (room_head hu)
    | succ j=>exact zvq xs ys A s _ _ _ _ rs rs' hc.2 ha'.2 hb'.2 (room_tail hu) j (je0 h1) (je0 h2)
end
end PySem.SeqAt
namespace QQ
open PySem PySem.Spec PyProof.Rows L2 PySem.W PySem.SeqAt
section
variable {prog:vb0}{w:vc1}{A:vc0}{E:va2->va3->Prop}{s:va3}
theorem zjh {Q:Bool->va3->Prop}{fin:Bool}:∀ (xs ys:List vc5) (vs ws:List va2) (as bs:List Addr) (i:Nat),vi4 s.heap vs xs as->vi4 s.heap ws ys bs->cmDs xs ys=true->vb2 xs=true->vb2 ys=true ->
  A.units + min (vb5 xs) (vb5 ys) < vh0->fin=decide (xs.length < ys.length)->Q (ltDs xs ys) s->KatLex prog w A false fin Q (vs.zip ws) i s
 | [],ys,_,ws,_,_,i,ra,rb,_,_,_,_,hf,h=>by
  cases ra
  rw [List.zip_nil_left]
  refine kat_nil ?_
  rw [hf]
  cases ys with
  | nil=>rw [ltDs] at h;exact h
  | cons y ys=>rw [ltDs] at h;exact h
 | x::xs,[],vs,_,_,_,i,ra,rb,_,_,_,_,hf,h=>by
  cases rb
  rw [List.zip_nil_right]
  refine kat_nil ?_
  rw [hf]
  rw [ltDs] at h
  exact h
 | x::xs,y::ys,_,_,_,_,i,ra,rb,hc,ha,hb,hu,hf,h=>by
  have ha':x.canLay0=true/\vb2 xs=true:=by simpa [vb2] using ha
  have hb':y.canLay0=true/\vb2 ys=true:=by simpa [vb2] using hb
  rw [cmDs,ja5] at hc
  rw [ltDs] at h
  cases ra with
  | cons r rs=>
   cases rb with
   | cons r' rs'=>
    rw [List.zip_cons_cons]
    refine kat_cons (eqAt_reads x y A s _ _ _ _ r r' ha'.1 hb'.1 (room_head hu) prog w _ _ ?_)
    cases he:vb1 x y with
    | true=>
     rw [he,if_pos rfl] at h
     refine kat_yes (zjh xs ys _ _ _ _ (i + 1) rs rs' hc.2 ha'.2 hb'.2 (room_tail hu) ?_ h)
     rw [hf,ja9,ja9]
     exact decide_eq_decide.mpr (by omega)
    | false=>
     rw [he,if_neg jb6] at h
     refine kat_no (kat_one _ _ ?_)
     exact zpy x y A s _ _ _ _ r r' hc.1 ha'.1 hb'.1 (room_head hu) prog w _ _ h
theorem zyy:∀ {us:List va2}{Ds:List vc5}{as:List Addr},vi4 s.heap us Ds as->∀ i,i < us.length->∃ bs,Reads s.heap (us.getD i Value.none) (Ds.getD i .none) bs
 | _,_,_,.nil,i,h=>by cases h
 | _,_,_,.cons r rs,0,_=>⟨_,r⟩
 | _,_,_,.cons r rs,i + 1,h=>zyy rs i (je0 h)
def tupT:vc5->Bool
 | .tuple (.tuple _::_)=>true
 | _=>false
theorem qd1 {M:Model}:∀ {us:List va2}{Ds:List vc5}{as:List Addr},vi4 s.heap us Ds as->Ds.all tupT=true->∃ fs,fs.length=us.length/\KatTups s.heap us fs/\∀ v∈fs,Looks M s.heap (typeOf v) (.type "tuple")
 | _,_,_,.nil,_=>⟨[],rfl,trivial,λ _ z=>nomatch z⟩
 | _,_,_,.cons r rs,h=>by
  rw [jh0,ja5] at h
  obtain ⟨fs,l,k,t⟩:=qd1 (M:=M) rs h.2
  cases r with
  | @tuple a o vs n xs as1 h1 h2 h3 h4=>
   cases xs with
   | nil=>cases h.1
   | cons x xs=>
    cases x with
    | tuple ys=>
     generalize e0:vs.toList=l0 at h4
     cases h4 with
     | @cons v0 vr _ _ _ _ r0 rr=>
      cases r0 with
      | @tuple a2 o2 vs2 n2 _ as2 g1 g2 g3 g4=>
       have hf:vs[0]?=some (.ref a2):=by
        rw [<- jk7,e0]
        rfl
       refine ⟨.ref a2::fs,by rw [ja9,ja9,l],KatTups.cons h1 h2 h3 hf k,λ v hv=>?_⟩
       rcases ja6.mp hv with rfl | hv
       ·have:Looks M s.heap (typeOf (.ref a2)) o2.cls:=(Looks.ld g1).andThen .now
        rw [g2] at this
        exact this
       ·exact t v hv
    | _=>cases h.1
  | _=>cases h.1
theorem qca:∀ {Ds:List vc5},vb2 Ds=true->∀ D∈Ds,D.canLay0=true
 | [],_,_,h=>by cases h
 | x::xs,hl,D,hD=>by
  have h2:x.canLay0=true/\vb2 xs=true:=by simpa [vb2] using hl
  rcases ja6.mp hD with e | hD
  ·rw [e];exact h2.1
  ·exact qca h2.2 D hD
theorem qg2 {us:List va2}{Ds:List vc5}{as:List Addr} (r:vi4 s.heap us Ds as) (hn:0 < us.length) (hf:Ds.all tupT=true) (hc:∀ D∈Ds,∀ D'∈Ds,cmD D D'=true) (hl:vb2 Ds=true) (hu:A.units + 64 < vh0) (hd:∀ D∈Ds,D.depth<=40):
  Asks prog w A us (tuples' false) (λ i j=>ltD (Ds.getD i .none) (Ds.getD j .none)) s:=by
 have len:=ve4 _ _ _ r
 refine ⟨λ Q hq=>?_,λ i j hi hj C hC=>?_⟩
 ·obtain ⟨fs,l,k,t⟩:=qd1 (M:=vb4 prog w) r hf
  exact kat_kind k (by omega) t (by decide) hq
 ·obtain ⟨bi,ri⟩:=zyy r i hi
  obtain ⟨bj,rj⟩:=zyy r j hj
  have gm:∀ i,i < us.length->Ds.getD i .none∈Ds:=λ i h=>by
   rw [ja0,ja8 (by omega)]
   exact je4 (by omega)
  have mi:=gm i hi
  have mj:=gm j hj
  have ti:=jb8.mp hf _ mi
  have tj:=jb8.mp hf _ mj
  have cij:=hc _ mi _ mj
  have lay:=qca hl
  have li:=lay _ mi
  have lj:=lay _ mj
  have di:=hd _ mi
  have dj:=hd _ mj
  revert hC
  generalize Ds.getD i .none=D at ri ti cij li di
  generalize Ds.getD j .none=D' at rj tj cij lj dj
  generalize us.getD i Value.none=u at ri ⊢
  generalize us.getD j Value.none=u' at rj ⊢
  intro hC
  cases ri with
  | @tuple a o vs n xs as1 h1 h2 h3 h4=>
   cases rj with
   | @tuple a' o' vs' n' ys as1' k1 k2 k3 k4=>
    rw [cmD] at cij
    have hC':C (ltDs xs ys) s:=by
     have:ltD (.tuple xs) (.tuple ys)=ltDs xs ys:=by rw [ltD]
     rw [<- this];exact hC
    have n1:vs.size=xs.length:=by simpa using ve4 _ _ _ h4
    have n2:vs'.size=ys.length:=by simpa using ve4 _ _ _ k4
    refine kat_lt h1 h3 k1 k3 (zjh xs ys _ _ _ _ 0 h4 k4 cij li lj ?_ (by rw [n1,n2]) hC')
    have e:(PyData.tuple xs).depth=vb5 xs + 1:=by simp [vg4]
    have:=jl7 (vb5 xs) (vb5 ys)
    omega
   | _=>cases tj
  | _=>cases ti
end
def rlt (r:List Nat) (i j:Nat):Bool:=decide (r.getD i 0 < r.getD j 0)
def zmr (n:Nat) (r:List Nat):Bool:=okK n (rlt r) (vh6 n) && ((runK (rlt r) (vh6 n)).toList.map (λ i=>r.getD i 0) == ja2 n) && (runK (rlt r) (vh6 n)).toList.all λ i=>decide (i < n)
def zjf:Nat->List Nat->List (List Nat)
 | 0,_=>[[]]
 | k + 1,av=>av.flatMap λ x=>(zjf k (av.erase x)).map (x::·)
theorem zps:∀ (l:List Nat) (av:List Nat),l.Nodup->(∀ x∈l,x∈av)->l∈zjf l.length av
 | [],av,_,_=>jc3.mpr rfl
 | x::l,av,hn,ha=>by
  rw [jg3] at hn
  rw [ja9]
  unfold zjf
  refine jr5.mpr ⟨x,ha x ja4,List.mem_map_of_mem (zps l _ hn.2 λ y hy=>?_)⟩
  refine (List.mem_erase_of_ne (λ e=>?_)).mpr (ha y (ja1 _ hy))
  rw [e] at hy
  exact hn.1 hy
theorem qhn:(zjf 2 (ja2 2)).all (zmr 2)=true:=by decide +kernel
theorem qhm:(zjf 3 (ja2 3)).all (zmr 3)=true:=by decide +kernel
theorem qhl:(zjf 4 (ja2 4)).all (zmr 4)=true:=by decide +kernel
theorem qhk:(zjf 5 (ja2 5)).all (zmr 5)=true:=by decide +kernel
theorem qhj:(zjf 6 (ja2 6)).all (zmr 6)=true:=by decide +kernel
theorem qak {r:List Nat} (h2:2<=r.length) (h6:r.length<=6) (hn:r.Nodup) (hl:∀ x∈r,x < r.length):zmr r.length r=true:=by
 have m:=zps r (ja2 r.length) hn λ x hx=>jb9.mpr (hl x hx)
 generalize r.length=n at h2 h6 m
 have:n=2\/n=3\/n=4\/n=5\/n=6:=by omega
 rcases this with rfl | rfl | rfl | rfl | rfl
 ·exact jb8.mp qhn _ m
 ·exact jb8.mp qhm _ m
 ·exact jb8.mp qhl _ m
 ·exact jb8.mp qhk _ m
 ·exact jb8.mp qhj _ m
section
variable {prog:vb0}{w:vc1}{A:vc0}{E:va2->va3->Prop}{s:va3}
theorem qho {a:Addr}{u:va2}{n:Nat}{P:Fin->va3->Prop} (ho:s.heap.get? a=some (vc3 "list" [u].toArray n)) (h:P (.done (.ret .none)) { s with heap:=sortedHeap s.heap a [u] [u].toArray }):vb3 (vb4 prog w) A (vf6.«list.sort» ⟨[.ref a],[]⟩) P E s:=by
 rw [vm5]
 have la:=va4 ho
 have z:=vk2
 refine va0 (listItems_at ho rfl ?_)
 refine va0 (vg6 ho rfl ?_ (by simp;omega))
 obtain ⟨e1,oa⟩:∃ e1,(s.heap.update a (vb6 λ _=>#[])).get? a=some (vc3 "list" #[] e1):=⟨_,vm8 ho (λ _=>#[])⟩
 refine va0 (vi3 oa rfl ?_)
 refine va0 (vj9 ?_)
 refine va0 (vg5 ?_)
 refine vd9 ?_
 have ob:(((s.heap.update a (vb6 λ _=>#[])).push (vc3 "tuple" [u].toArray 0)).push (vc3 "list" #[] 0)).get? a=some (vc3 "list" #[] e1):=by
  rw [vf1 _ _ _ (by rw [vj6,vd4];exact jc6 (jg0 la)),vf1 _ _ _ (by rw [vd4];exact jc6 la)]
  exact oa
 show vb3 (vb4 prog w) A _ P E { s with heap:=((s.heap.update a (vb6 λ _=>#[])).push (vc3 "tuple" [u].toArray 0)).push (vc3 "list" #[] 0) }
 dsimp only
 have lz:[u].toArray.size < 2:=by simp
 rw [if_pos lz,if_pos lz]
 refine va0 (va5 ?_)
 rw [StateT.run_pure]
 refine va0 (va5 ?_)
 dsimp only
 refine va0 (vi3 ob rfl ?_)
 have ea:ju0 (λ x:va2×va2=>x.snd) (arrOf (SortSt.mk' general' ([u].toArray.zip [u].toArray) #[] 7 none))=[u].toArray:=by
  show ju0 (λ x:va2×va2=>x.snd) ([u].toArray.zip [u].toArray)=_
  simp
 rw [ea]
 refine va0 (vg6 ob rfl ?_ (hsz2:=by simp))
 simp only [bne_self_eq_false,jm5,if_false]
 exact va5 h
theorem qda {l:Addr}{u:va2}{Q:va2->va3->Prop} (hl:s.heap.IsList l [u].toArray) (h:Q (.ref (s.heap.objs.size + 1)) { s with heap:=vi9 s.heap [u] [u].toArray }):vb3 (vb4 prog w) A (call (.builtin "sorted") [.ref l]) Q E s:=by
 have z:=vk2
 refine vh8 kind_sorted plain_sorted entry_sorted (args_sorted1 _) ?_
 unfold vf6.«sorted»
 refine va0 (m:=checkCount "sorted" 1 1 _) (va5 ?_)
 refine va0 (collect_list hl ?_ (by show 1<=_;omega))
 refine va0 (vg5 ?_ (by show 1<=_;omega))
 have lz:((s.heap.push (vc3 "list" #[] 0)).update s.heap.objs.size (vb6 (·++[u].toArray))).objs.size=s.heap.objs.size + 1:=by
  rw [vd4,vj6]
 have oL:(((s.heap.push (vc3 "list" #[] 0)).update s.heap.objs.size (vb6 (·++[u].toArray))).push (vc3 "list" [u].toArray 0)).get? (s.heap.objs.size + 1)=some (vc3 "list" [u].toArray 0):=by
  rw [<- lz];exact va6 _ rfl
 show vb3 _ _ _ _ _ { s with heap:=((s.heap.push (vc3 "list" #[] 0)).update s.heap.objs.size (vb6 (·++[u].toArray))).push (vc3 "list" [u].toArray 0) }
 rw [lz]
 refine va0 (vd9 (vd7 vo1 ⟨_,oL,rfl⟩ vn0 (qho oL ⟨_,rfl,?_⟩) (vo3 _)))
 exact va5 ⟨_,rfl,h⟩
end
def zka (Ds:List vc5):List Nat:=Ds.map λ D=>(Ds.filter λ D'=>ltD D' D).length
def zhc (Ds:List vc5):Bool:=decide (2<=Ds.length/\Ds.length<=6) && Ds.all tupT && (Ds.all λ D=>Ds.all λ D'=>cmD D D') && decide (zka Ds).Nodup && ((zka Ds).all λ k=>decide (k < Ds.length)) &&
 (ja2 Ds.length).all λ i=>(ja2 Ds.length).all λ j=>ltD (Ds.getD i .none) (Ds.getD j .none) == rlt (zka Ds) i j
def ordD (Ds:List vc5):List Nat:=if Ds.length=1 then [0] else (runK (rlt (zka Ds)) (vh6 Ds.length)).toList
theorem zga:∀ {ws:List V}{us:List va2},Vals ws us->∀ i,i < ws.length->RelV (ws.getD i .non) (us.getD i Value.none)
 | _,_,.nil,i,h=>by cases h
 | _,_,.cons r rs,0,_=>r
 | _,_,.cons r rs,i + 1,h=>zga rs i (je0 h)
theorem zfy {ws:List V}{us:List va2} (h:Vals ws us):∀ p:List Nat,(∀ i∈p,i < ws.length)->Vals (p.map λ i=>ws.getD i .non) (p.map λ i=>us.getD i Value.none)
 | [],_=>.nil
 | i::p,hp=>.cons (zga h i (hp i ja4)) (zfy h p λ j hj=>hp j (ja1 _ hj))
section
variable {X:Cx}{M:Fm}{fa:Fa}{vs:List Nat}{e:Expr}{es:List Expr}{pos p:Pos}
theorem qe4 {Ds:List vc5} (h:Ds.length=1\/zhc Ds=true):(∀ i∈ordD Ds,i < Ds.length)/\(ordD Ds).length=Ds.length:=by
 rcases h with h | h
 ·unfold ordD
  rw [if_pos h,h]
  exact ⟨λ i hi=>by rw [jc3.mp hi];decide,rfl⟩
 ·unfold zhc at h
  rw [ja5,ja5,ja5,ja5,ja5] at h
  obtain ⟨⟨⟨⟨⟨h1,_⟩,_⟩,h4⟩,h5⟩,_⟩:=h
  have h1:=of_decide_eq_true h1
  have lr:(zka Ds).length=Ds.length:=ja3 _
  have ok:=qak (r:=zka Ds) (by omega) (by omega) (of_decide_eq_true h4) (λ x hx=>by rw [lr];exact of_decide_eq_true (jb8.mp h5 x hx))
  rw [lr] at ok
  unfold zmr at ok
  rw [ja5,ja5] at ok
  unfold ordD
  rw [if_neg (by omega)]
  refine ⟨λ i hi=>of_decide_eq_true (jb8.mp ok.2 i hi),?_⟩
  have:=congrArg js0 (eq_of_beq ok.1.2)
  rw [ja3,jc8] at this
  exact this
theorem qgs (hu:X.A.units + 70 < vh0):CallR X (.builtin "sorted") (λ xs H Q=>∃ q ws ys d Z f Ds,xs=[.ref q]/\SqL X.K H q ws/\Own X.K H Z (.lst ys) d (.ref q) f/\toDL (toD 20) ys=some Ds/\(Ds.length=1\/zhc Ds=true)/\∀ l,H l=none->Q (.ref l) (upd H l (.lst ((ordD Ds).map λ i=>ws.getD i .non)))):=by
 intro pins s σ H xs us Q I rv h
 obtain ⟨q,ws,ys,d,Z,f,Ds,rfl,hq,ow,hD,hg,k⟩:=h
 obtain ⟨u,rfl,rx⟩:=zyo rv
 cases rx
 obtain ⟨its,r,pl,hz⟩:=I.list hq
 have hlen:=r.length
 obtain ⟨as,rd⟩:=zwu I 21 (.lst ys) d _ f (.ref q) (.list Ds) (by show (toDL (toD 20) ys).map PyData.list=_;rw [hD];rfl) ow rfl
 have lay:=zkm (λ x D h=>zzk 20 x D h) hD
 have rda:∃ bs,vi4 s.heap its Ds bs:=by
  obtain ⟨o,n,e1,e2,e3,e4⟩:=pl
  cases rd with
  | @list a o' vs n' xs as1 h1 h2 h3 h4=>
   rw [e1] at h1
   cases h1
   rw [e4] at h3
   cases h3
   exact ⟨_,by simpa using h4⟩
 obtain ⟨bs,rda⟩:=rda
 have ln:=ve4 _ _ _ rda
 have oo:=qe4 hg
 have go:EP X pins σ Q (.ref (s.heap.objs.size + 1)) { s with heap:=vi9 s.heap its (jk9 ((ordD Ds).map λ i=>its.getD i Value.none)) }:=by
  obtain ⟨c,hc⟩:=sortedAll_at s.heap its (jk9 ((ordD Ds).map λ i=>its.getD i Value.none))
  refine ⟨.ref _,_,I.laid (h':=vi9 s.heap its (jk9 ((ordD Ds).map λ i=>its.getD i Value.none))) (t':=s.toks) (o:=.lst ((ordD Ds).map λ i=>ws.getD i .non)) (λ b o e=>sortedAll_old e) (jk4 _) ?_,rfl,k _ (I.hok.fresh (jk4 _))⟩
  refine ⟨by rw [ja3,oo.2];omega,_,c,zfy r _ (λ i hi=>by have:=oo.1 i hi;omega),hc⟩
 by_cases h1:Ds.length=1
 ·match its,ln with
  | [u0],_=>
   refine qda pl.isList ?_
   have:(ordD Ds).map (λ i=>[u0].getD i Value.none)=[u0]:=by unfold ordD;rw [if_pos h1];rfl
   rw [this] at go
   exact go
  | [],ln=>rw [h1] at ln;cases ln
  | _::_::_,ln=>rw [h1] at ln;simp at ln
 ·have hg:=hg.resolve_left h1
  have eo:ordD Ds=(runK (rlt (zka Ds)) (vh6 its.length)).toList:=by unfold ordD;rw [if_neg h1,ln]
  rw [eo] at go
  unfold zhc at hg
  rw [ja5,ja5,ja5,ja5,ja5] at hg
  obtain ⟨⟨⟨⟨⟨g1,g2⟩,g3⟩,g4⟩,g5⟩,g6⟩:=hg
  have g1:=of_decide_eq_true g1
  have lr:(zka Ds).length=Ds.length:=ja3 _
  have ok:=qak (r:=zka Ds) (by omega) (by omega) (of_decide_eq_true g4) (λ x hx=>by rw [lr];exact of_decide_eq_true (jb8.mp g5 x hx))
  rw [lr] at ok
  unfold zmr at ok
  rw [ja5,ja5,<- ln] at ok
  refine qal (κ:=tuples' false) (lt:=rlt (zka Ds)) pl.isList (by omega) (by omega) ok.1.1 (λ h' kp=>?_) go
  have as:=qg2 (prog:=X.prog) (w:=X.w) (A:=X.A.in1.in1) (s:={ s with heap:=h' }) (ReadsAll.keeps kp rda) (by omega) g2 (λ D hD D' hD'=>jb8.mp (jb8.mp g3 D hD) D' hD') lay.1 (by show X.A.units + 1 + 1 + 64 < vh0;omega) (λ D hD=>by
   have:∀ (l:List vc5),D∈l->vb5 l<=20->D.depth<=40:=λ l=>by
    induction l with
    | nil=>intro h;cases h
    | cons x xs ih=>
     intro h hd
     have e:vb5 (x::xs)=max x.depth (vb5 xs):=by simp [vb5]
     rw [e] at hd
     rcases ja6.mp h with e2 | h
     ·rw [e2];omega
     ·exact ih h (by omega)
   exact this Ds hD lay.2)
  refine ⟨as.kind,λ i j hi hj C hC=>as.less i j hi hj C ?_⟩
  have:=eq_of_beq (jb8.mp (jb8.mp g6 i (jb9.mpr (by omega))) j (jb9.mpr (by omega)))
  rw [this]
  exact hC
def qbx:List (PV×Nat)->Option (PV×Nat)
 | [(.lst ys,_)]=>(match toDL (toD 20) ys with
  | some Ds=>if Ds.length=1\/zhc Ds=true then some (.lst ((ordD Ds).map λ i=>ys.getD i .non),1) else none
  | none=>none)
 | _=>none
def zbo (xs:List (PV×Nat)):Option (PV×Nat):=match ql5 xs with
 | some r=>some r
 | none=>qbx xs
theorem qbw {K:Frag}{H:Hp}{Z:Addr->Prop}:∀ {ys:List PV}{ws:List V},OwnL K H Z ys 0 ws []->∀ i,i < ys.length->Own K H Z (ys.getD i .non) 0 (ws.getD i .non) []
 | [],_,_,i,h=>by cases h
 | y::ys,ws,o,i,h=>by
  rw [OwnL] at o
  obtain ⟨v,s,f1,f2,rfl,e,dj,h1,h2⟩:=o
  obtain ⟨rfl,rfl⟩:=List.append_eq_nil_iff.mp e.symm
  cases i with
  | zero=>exact h1
  | succ i=>exact qbw h2 i (je0 h)
theorem qbv {K:Frag}{H:Hp}{Z:Addr->Prop}{ys:List PV}{ws:List V} (o:OwnL K H Z ys 0 ws []):∀ p:List Nat,(∀ i∈p,i < ys.length)->OwnL K H Z (p.map λ i=>ys.getD i .non) 0 (p.map λ i=>ws.getD i .non) []
 | [],_=>by rw [jf0,jf0,OwnL];exact ⟨rfl,rfl⟩
 | i::p,hp=>by
  rw [jb7,jb7,OwnL]
  exact ⟨_,_,[],[],rfl,rfl,(λ _ z=>nomatch z),qbw o i (hp i ja4),qbv o p λ j hj=>hp j (ja1 _ hj)⟩
theorem qbe {f:PV->Option vc5}:∀ {xs:List PV}{Ds:List vc5},toDL f xs=some Ds->Ds.length=xs.length
 | [],Ds,h=>by cases h;rfl
 | x::xs,Ds,h=>by
  unfold toDL at h
  split at h
  ·rename_i a r h1 h2
   cases h
   rw [ja9,ja9,qbe h2]
  ·cases h
theorem qld (hu:X.A.units + 70 < vh0) (hg:Gl X "sorted") (hm:X.mg "sorted" = none) (ha:PA X (e::es) (tL M fa vs)) (he:va7 (e::es) X.env=(false,eval e X.env)::va7 es X.env) (hpl:(vg1 pos (va7 es X.env)).any (·.1)=false) (hK:M.K=X.K):
  PE X (.Call (.Name "sorted" p) (e::es) [] pos) (tE M (zqd zbo fa) vs):=by
 refine zqv (zzg (L2.CallR.or qi6 (qgs hu)) hg hm rfl ha (he:=he) (hpl:=hpl)) λ σ H Q h=>zze (λ xs z c ws H fps fp Q ho tm nz zd lf=>?_) h
 unfold zbo at ho
 split at ho
 ·rename_i r hr
  cases ho
  left
  unfold ql5 at hr
  split at hr
  ·rename_i xs d
   split at hr
   ·rename_i ns eb
    split at hr
    ·rename_i hk
     cases hr
     obtain ⟨v,r',f1,f2,rfl,rfl,_,o1,h2⟩:=tm
     obtain ⟨rfl,rfl⟩:=h2
     obtain ⟨q,us,rfl,hs,ol⟩:=(cold (fp:=f1) o1 λ a ha=>nz a (jb0 _ ha)).coldL
     have:=zzi eb ol
     subst this
     refine ⟨q,ns,rfl,.inl (.inl hs),hk,λ l hl=>?_⟩
     have ed:om=d1 ((srt ns).map PV.int):=by unfold d1;rw [qf1];rfl
     rw [ed] at lf
     exact zwe lf (qce _) hl
    ·cases hr
   ·cases hr
  ·cases hr
 ·right
  unfold qbx at ho
  split at ho
  ·rename_i ys d h0
   split at ho
   ·rename_i Ds hD
    split at ho
    ·rename_i hk
     cases ho
     obtain ⟨v,r',f1,f2,rfl,rfl,_,o1,h2⟩:=tm
     obtain ⟨rfl,rfl⟩:=h2
     have oc:=cold (fp:=f1) o1 λ a ha=>nz a (jb0 _ ha)
     obtain ⟨q,us,rfl,hs,ol⟩:=oc.coldL
     refine ⟨q,us,ys,0,_,[],Ds,rfl,.inl (.inl hs),by rw [<- hK];exact oc,hD,hk,λ l hl=>?_⟩
     have oo:=qe4 hk
     exact zbw lf (qbv ol _ λ i hi=>by have:=oo.1 i hi;rw [qbe hD] at this;exact this) hl
    ·cases ho
   ·cases ho
  ·cases ho
end
open PySem PySem.Spec PyProof.Rows L2
abbrev D2:=Fx×List Nat
def zjm (d:Expr->Option D2):List Expr->Option (Fa×List Nat)
 | []=>some (aNil,[])
 | e::es=>match d e,zjm d es with
  | some (f,v),some (fa,u)=>some (zqa f fa,v++u)
  | _,_=>none
def qco (d:Expr->Option D2):List Expr->Option D2
 | []=>none
 | [e]=>d e
 | e::es=>match d e,qco d es with
  | some (f,v),some (g,u)=>some (zwj f g,v++u)
  | _,_=>none
def qiv (d:Expr->Option D2):List Expr->Option D2
 | []=>none
 | [e]=>d e
 | e::es=>match d e,qiv d es with
  | some (f,v),some (g,u)=>some (bOrV f g,v++u)
  | _,_=>none
def denC:Const->Option D2
 | .int i=>some (bC (.int i),[])
 | .bool b=>some (bC (.bl b),[])
 | .none=>some (bC .non,[])
 | .str x=>some (bC (.str x),[])
 | _=>none
def tyOf (x:Str):Option String:=if x = "int" then some "int" else if x = "bool" then some "bool" else if x = "str" then some "str" else if x = "list" then some "list" else if x = "tuple" then some "tuple" else if x = "dict" then some "dict" else none
def qm2 (x:Str):Option (List (PV×Nat)->Option (PV×Nat)):=
 if x = "len" then some zwh else if x = "all" then some zpl else if x = "max" then some zkf else if x = "min" then some zyu else if x = "sum" then some ql4
 else if x = "tuple" then some qe9 else if x = "list" then some zzn else if x = "int" then some zbp else if x = "sorted" then some zbo else none
def zxz (scope sc:ve5):ve5:={ scope with names:=scope.names.map λ (n,k)=>if (k == .free && sc.kind == .function && sc.names.lookup n == some .cell) then (n,.cell) else (n,k) }
def junk (i:Nat):Str:=⟨#[2000000 + i]⟩
def zgy (sc':ve5):Nat->List Str->List Str
 | _,[]=>[]
 | i,x::r=>(if zww sc' x .cell || zww sc' x .free then x else junk i)::zgy sc' (i + 1) r
def zfe:List Expr->Option (List Str)
 | []=>some []
 | .Name x _::r=>(zfe r).map (x::·)
 | _=>none
def tgA (n:Nat):Expr->Option (List Str×(PV->Rho->Option Rho))
 | .Name x _=>some ([x],asgN n)
 | .Tuple es _ _=>(zfe es).map λ xs=>(xs,asgT (jl8 n xs.length))
 | _=>none
def isTg:Expr->Bool
 | .Tuple _ _ _=>true
 | _=>false
def zxa (S:Sx) (scope:ve5) (xs:List Str) (vI:List Nat):Sx:=⟨zgy (zxz scope S.sc) 0 S.N++xs,zxz scope S.sc,S.ms,(ja2 S.N.length).map S.alF++jb1 xs.length vI,S.Γ,S.Γm,false,S.xc,S.pn⟩
def zfp (S:Sx) (scope:ve5) (xs:List Str) (vI:List Nat):Bool:=
 let S':=zxa S scope xs vI
 decide (scope.kind=.function) && scope.names.all (λ x=>x.2 != .free || !(scope.names.contains (x.1,.cell))) && scope.names.all (λ x=>x.2 != .local || scope.names.lookup x.1 == some .local)
 && scope.names.all (λ x=>x.2 != .free || (S.sc.names.lookup x.1 == some .cell || S.sc.names.lookup x.1 == some .free))
 && (ja2 S.N.length).all (λ i=>match S'.N[i]? with
  | some x=>!visB S'.sc x || (decide (S.N[i]?=some x) && visB S.sc x && scope.names.contains (x,.free) && !zww S'.sc x .local)
  | none=>true)
 && decide S'.N.Nodup && xs.all (λ x=>zww S'.sc x .local || (zww S'.sc x .cell && scope.names.contains (x,.cell))) && decide (S.N.length≠0) && (S.ms.all λ i=>decide (i < S.N.length))
inductive Iw where
 | rng (en:List (PV×Nat)->Option (Int×Int)) (fa:Fa) (vs:List Nat)
 | seq (f:Fx) (vs:List Nat)
 | vw (v:Vw) (fa:Fa) (vs:List Nat)
def Iw.vs:Iw->List Nat
 | .rng _ _ _=>[]
 | .seq _ vs=>vs
 | .vw _ _ vs=>vs
def twOk (tg:Expr):Iw->Bool
 | .vw .enm _ _=>isTg tg
 | .vw .zp _ _=>isTg tg
 | _=>true
def denI (d:Expr->Option D2) (S:Sx) (it:Expr):Option Iw:=match it with
 | .Call (.Name x _) [a] [] _=>if x = "range" /\ S.glob "range" = true then (match zjm d [a] with
   | some (fa,vs)=>some (.rng zqz fa vs)
   | none=>none) else if x = "reversed" /\ S.glob "reversed" = true then (match zjm d [a] with
   | some (fa,vs)=>some (.vw .rev fa vs)
   | none=>none) else if x = "enumerate" /\ S.glob "enumerate" = true then (match zjm d [a] with
   | some (fa,vs)=>some (.vw .enm fa vs)
   | none=>none) else (match d it with
   | some (f,vs)=>some (.seq f vs)
   | none=>none)
 | .Call (.Name x _) [a,b] [] _=>if x = "range" /\ S.glob "range" = true then (match zjm d [a,b] with
   | some (fa,vs)=>some (.rng zpa fa vs)
   | none=>none) else if x = "zip" /\ S.glob "zip" = true then (match zjm d [a,b] with
   | some (fa,vs)=>some (.vw .zp fa vs)
   | none=>none) else (match d it with
   | some (f,vs)=>some (.seq f vs)
   | none=>none)
 | _=>match d it with
   | some (f,vs)=>some (.seq f vs)
   | none=>none
def qg0 (iw:Iw) (k:Nat) (asg:PV->Rho->Option Rho) (test:Fb) (elt:Fx):Fx:=match iw with
 | .rng en fa _=>zxs en fa k asg test elt
 | .seq f _=>zqh f k asg test elt
 | .vw v fa _=>zwy v fa k asg test elt
def zqj:Fb:=λ ρ=>.ok (true,ρ)
def qcn (d:Expr->Option D2):List Expr->Option Fb
 | []=>some zqj
 | [c]=>(d c).map λ p=>bT p.1
 | _=>none
def qfy:Expr->Bool
 | .UnaryOp .USub c _=>(match c with
  | .Constant k _ _=>(match k with
   | .int i=>i == 1
   | _=>false)
  | _=>false)
 | _=>false
theorem qfx {e:Expr} (h:qfy e=true):∃ k p3 p4,e=.UnaryOp .USub (.Constant (.int 1) k p3) p4:=by
 unfold qfy at h
 split at h
 ·split at h
  ·split at h
   ·rename_i i
    have:i=1:=eq_of_beq h
    subst this
    exact ⟨_,_,_,rfl⟩
   ·cases h
  ·cases h
 ·cases h
def nmE:Expr->Option Str
 | .Name x _=>some x
 | _=>none
theorem zgq {e:Expr}{x:Str} (h:nmE e=some x):∃ p,e=.Name x p:=by
 cases e <;> first | (cases h;exact ⟨_,rfl⟩) | (cases h)
def ixC:Expr->Option Int
 | .Constant c _ _=>(match c with
  | .int i=>some i
  | _=>none)
 | _=>none
theorem qj1 {e:Expr}{i:Int} (h:ixC e=some i):∃ k p,e=.Constant (.int i) k p:=by
 unfold ixC at h
 split at h
 ·split at h
  ·cases h;exact ⟨_,_,rfl⟩
  ·cases h
 ·cases h
def qka (d:Sx->Expr->Option D2) (S:Sx) (a:Expr):Option Expr->Option Expr->Option Expr->Option D2
 | none,some hi,none=>match d S a,d S hi with
  | some (f,v),some (g,_)=>some (bSl f none (some g),v)
  | _,_=>none
 | some lo,none,none=>match d S a,d S lo with
  | some (f,v),some (g,_)=>some (bSl f (some g) none,v)
  | _,_=>none
 | some lo,some hi,none=>match d S a,d S lo,d S hi with
  | some (f,v),some (g,_),some (h,_)=>some (bSl f (some g) (some h),v)
  | _,_,_=>none
 | none,none,some st=>if qfy st=true then (match d S a with
  | some (f,v)=>some (bUn opRv f,v)
  | none=>none) else none
 | _,_,_=>none
def qj9 (d:Sx->Expr->Option D2) (S:Sx) (a b:Expr):Option D2:=match b with
 | .Slice lo hi st _=>qka d S a lo hi st
 | b=>match nmE a,ixC b with
  | some x,some i=>(match S.slot x with
   | some j=>if S.msF j=true then none else some (bBin zqb (bVar j) (bC (.int i)),(j::S.alF j)++[])
   | none=>none)
  | _,_=>match d S a,d S b with
   | some (f,v),some (g,u)=>if zbr b=true then some (bBin zqb f g,v++u) else none
   | _,_=>none
def qi3 (S:Sx) (T:Str):Option Nat:=if S.glob T=true/\S.xc≠[] then (if T = "ValueError" then some 0 else match XN.findIdx? (·== T) with
 | some c=>if S.xc.contains c=true then some c else none
 | none=>none) else none
def qcv (S:Sx):List Expr->Option (List Nat)
 | []=>some []
 | e::r=>match nmE e,qcv S r with
  | some T,some ds=>(qi3 S T).map (·::ds)
  | _,_=>none
def qkd (d:Expr->Option D2) (S:Sx) (e c:Expr):Option D2:=match d e with
 | some (f,v)=>if S.glob "isinstance" = true then (match c with
  | .Name T _=>(match tyOf T with
   | some t=>if S.glob T=true then some (bUn (zjk t) f,v) else none
   | none=>(qi3 S T).map λ n=>(bUn (zpu [n]) f,v))
  | .Tuple es _ _=>if es.length<=100/\es≠[] then (qcv S es).map λ ns=>(bUn (zpu ns) f,v) else none
  | _=>none) else none
 | none=>none
def zvs (d:Sx->Expr->Option D2) (S:Sx):Expr->Option D2
 | .Constant c _ _=>denC c
 | .Name x _=>match S.slot x with
  | some i=>if S.msF i=true then none else some (bVar i,i::S.alF i)
  | none=>none
 | .BinOp a op b _=>match d S a,d S b,qp6 b op with
  | some (f,v),some (g,u),some o=>some (bBin o f g,v++u)
  | _,_,_=>none
 | .UnaryOp .USub a _=>match d S a with
  | some (f,v)=>some (bUn zvy f,v)
  | none=>none
 | .UnaryOp .Not a _=>match d S a with
  | some (f,v)=>some (bUn zvp f,v)
  | none=>none
 | .BoolOp .And es _=>qco (d S) es
 | .BoolOp .Or es _=>qiv (d S) es
 | .Compare a [op] [b] _=>match d S a,d S b,qmx b op with
  | some (f,v),some (g,u),some o=>some (bBin o f g,v++u)
  | _,_,_=>none
 | .Compare a [op,op'] [b,c] _=>match d S a,d S b,d S c,icmp op,icmp op' with
  | some (f,_),some (g,_),some (h,_),some p,some q=>some (zym p q f g h,[])
  | _,_,_,_,_=>none
 | .List es _=>match zjm (d S) es with
  | some (fa,v)=>some (zqd zqy fa,v)
  | none=>none
 | .Tuple es _ _=>match zjm (d S) es with
  | some (fa,v)=>some (zqd zxt fa,v)
  | none=>none
 | .Subscript a b _=>qj9 d S a b
 | .Call (.Name x _) args [] _=>
  if x = "isinstance" then (match args with
   | [e,c]=>qkd (d S) S e c
   | _=>none)
  else match qm2 x with
  | some o=>(match args with
   | e::es=>(match zjm (d S) (e::es) with
    | some (fa,v)=>if S.glob x=true then some (zqd o fa,v) else none
    | none=>none)
   | []=>none)
  | none=>match S.Γ.lookup x with
   | some (false,_,F)=>(match args with
    | e::es=>(match zjm (d S) (e::es) with
     | some (fa,v)=>if S.glob x=true then some (zqe F fa,v) else none
     | none=>none)
    | []=>none)
   | some (true,_,F)=>none
   | none=>none
 | .ListComp elt [⟨tg,it,ifs,0⟩] scope _=>match tgA S.N.length tg,denI (d S) S it with
  | some (xs,asg),some iw=>if zfp S scope xs iw.vs=true/\twOk tg iw=true then (match qcn (d (zxa S scope xs iw.vs)) ifs,d (zxa S scope xs iw.vs) elt with
   | some t,some (g,vE)=>some (qg0 iw xs.length asg t g,iw.vs++vE.filter (λ i=>decide (i < S.N.length)))
   | _,_=>none) else none
  | _,_=>none
 | _=>none
def den:Nat->Sx->Expr->Option D2
 | 0,_,_=>none
 | n + 1,S,e=>zvs (den n) S e
section
variable {X:Cx}{P:vb0}{w:vc1}{K:Frag}{mg:Str->Option va2}{base:Heap}{lvl:Nat}{S:Sx}{Wx:St->Nat->Hp->Prop}{M:Fm}{f g:Fx}{vs vs':List Nat}{σ:St}{H:Hp}{Q:VK}
theorem qku {Q:Bool->Hp->Prop} (hq:tT M (bT (zwj f g)) σ H Q):tAnd (tT M (bT f)) (tT M (bT g)) σ H Q:=by
 refine qnk ?_
 have e:bT (zwj f g)=bAnd (bT f) (bT g):=by
  funext ρ
  unfold bT zwj bAnd
  dsimp only
  cases f ρ with
  | no=>rfl
  | exc c=>rfl
  | ok p=>
   obtain ⟨x,d,ρ1⟩:=p
   cases x with
   | bl b=>cases b <;> rfl
   | _=>rfl
 rw [<- e];exact hq
theorem qni {Q:Bool->Hp->Prop} (hq:tT M (bT (bOrV f g)) σ H Q):tOr (tT M (bT f)) (tT M (bT g)) σ H Q:=by
 refine qqb ?_
 have e:bT (bOrV f g)=bOr (bT f) (bT g):=by
  funext ρ
  unfold bT bOrV bOr
  dsimp only
  cases f ρ with
  | no=>rfl
  | exc c=>rfl
  | ok p=>
   obtain ⟨x,d,ρ1⟩:=p
   cases x with
   | bl b=>cases b <;> rfl
   | _=>rfl
 rw [<- e];exact hq
theorem qks {Q:Bool->Hp->Prop} (hq:tT M (bT (bUn zvp f)) σ H Q):tNot (tT M (bT f)) σ H Q:=by
 refine qnj ?_
 have e:bT (bUn zvp f)=bNot (bT f):=by
  funext ρ
  unfold bT bUn bNot
  dsimp only
  cases f ρ with
  | no=>rfl
  | exc c=>rfl
  | ok p=>
   obtain ⟨x,d,ρ1⟩:=p
   cases x with
   | bl b=>cases b <;> rfl
   | _=>rfl
 rw [<- e];exact hq
def Good (P:vb0) (w:vc1) (K:Frag) (mg:Str->Option va2) (base:Heap) (lvl:Nat) (S:Sx) (e:Expr) (f:Fx) (vs:List Nat):Prop:=
 (∀ i∈vs,S.msF i=false)/\zbq e=true/\∀ {Wx} X M,XS X P w K mg base lvl S Wx->MS M K S Wx->PE X e (tE M f vs)/\PT X e (tT M (bT f))
theorem MS.v (m:MS M K S Wx) (h:∀ i∈vs,S.msF i=false):∀ i∈vs,M.Ms i=false:=λ i hi=>by rw [m.ms];exact h i hi
theorem MS.k (m:MS M K S Wx) (xs:XS X P w K mg base lvl S Wx):M.K=X.K:=m.K.trans xs.K.symm
theorem zxd {e:Expr} (h1:∀ i∈vs,S.msF i=false) (h2:zbq e=true) (h3:∀ env whole,isTrue e env whole=(do let v<-whole;standAt e.pos;holding [v] (truthy v)))
  (h:∀ {Wx} X M,XS X P w K mg base lvl S Wx->MS M K S Wx->PE X e (tE M f vs)):Good P w K mg base lvl S e f vs:=
 ⟨h1,h2,λ X M xs m=>⟨h X M xs m,zgl (qoh (h X M xs m) λ wh=>h3 _ wh) λ σ H Q q=>qd2 q⟩⟩
theorem zwg {vs vs':List Nat} (h1:∀ i∈vs,S.msF i=false) (h2:∀ i∈vs',S.msF i=false):∀ i∈vs++vs',S.msF i=false:=λ i hi=>(jc9.mp hi).elim (h1 i) (h2 i)
theorem qil {a b:Expr}{op:vn7}{o:PV->Nat->PV->Nat->Option (PV×Nat)}{pos:Pos} (ho:qmx b op=some o) (ga:Good P w K mg base lvl S a f vs) (gb:Good P w K mg base lvl S b g vs'):Good P w K mg base lvl S (.Compare a [op] [b] pos) (bBin o f g) (vs++vs'):=by
 refine ⟨zwg ga.1 gb.1,rfl,λ X M xs m=>?_⟩
 obtain ⟨r,hr,hn,hi⟩:=qi2 (X:=X) (M:=M) (f:=f) (g:=g) (vs:=vs) (vs':=vs') ho xs.room.units (m.v ga.1) (m.k xs)
 have ha:=(ga.2.2 X M xs m).1
 have hb:=(gb.2.2 X M xs m).1
 exact ⟨zqv (qlz hr ha hb hn) hi,zgl (qlu hr ha hb hn) λ σ H Q q=>hi σ H _ (qd2 q)⟩
theorem qdl {a b c:Expr}{op op':vn7}{p q:Int->Int->Bool}{h:Fx}{v3:List Nat}{pos:Pos} (h1:icmp op=some p) (h2:icmp op'=some q) (ga:Good P w K mg base lvl S a f vs) (gb:Good P w K mg base lvl S b g vs') (gc:Good P w K mg base lvl S c h v3):Good P w K mg base lvl S (.Compare a [op,op'] [b,c] pos) (zym p q f g h) []:=by
 refine ⟨λ _ z=>(nomatch z),rfl,λ X M xs m=>?_⟩
 have r1:=zgx (X:=X) h1
 have r2:=zgx (X:=X) h2
 have ha:=(ga.2.2 X M xs m).1
 have hb:=(gb.2.2 X M xs m).1
 have hc:=(gc.2.2 X M xs m).1
 exact ⟨zqv (qh4 r1.1 r2.1 ha hb hc (zzx _ r2.2.1 r2.2.2)) λ σ H Q q=>qbf q,zgl (qhz r1.1 r2.1 ha hb hc (zzx _ r2.2.1 r2.2.2)) λ σ H Q q=>qbf (vs:=[]) (qd2 q)⟩
theorem qik {a:Expr}{pos:Pos} (ga:Good P w K mg base lvl S a f vs):Good P w K mg base lvl S (.UnaryOp .Not a pos) (bUn zvp f) vs:=
 ⟨ga.1,rfl,λ X M xs m=>⟨zqv (qoq (ga.2.2 X M xs m).1) λ σ H Q q=>qk1 q,zgl (qoi (ga.2.2 X M xs m).2) λ σ H Q q=>qks q⟩⟩
theorem zhm {d:Expr->Option D2} (hd:∀ e f vs,d e=some (f,vs)->Good P w K mg base lvl S e f vs) {pos:Pos}:∀ (es:List Expr) (f:Fx) (vs:List Nat),qco d es=some (f,vs)->(∀ i∈vs,S.msF i=false)/\∀ {Wx} X M,XS X P w K mg base lvl S Wx->MS M K S Wx->PE X (.BoolOp .And es pos) (tE M f vs)/\PW X (.BoolOp .And es pos) (tT M (bT f))
 | [],f,vs,h=>by cases h
 | [e],f,vs,h=>by
  have g:=hd e f vs h
  exact ⟨g.1,λ X M xs m=>⟨qju (g.2.2 X M xs m).1,qlp (g.2.2 X M xs m).2⟩⟩
 | e::e'::es,f,vs,h=>by
  unfold qco at h
  split at h
  ·rename_i f1 v1 f2 v2 h1 h2
   cases h
   have g1:=hd e f1 v1 h1
   have g2:=zhm hd (pos:=pos) (e'::es) f2 v2 h2
   exact ⟨zwg g1.1 g2.1,λ X M xs m=>⟨zqv (qou (g1.2.2 X M xs m).1 (g2.2 X M xs m).1) λ σ H Q q=>qk3 q,qjq (qog (g1.2.2 X M xs m).2 (g2.2 X M xs m).2) λ σ H Q q=>qku q⟩⟩
  ·cases h
theorem qcm {d:Expr->Option D2} (hd:∀ e f vs,d e=some (f,vs)->Good P w K mg base lvl S e f vs) {pos:Pos}:∀ (es:List Expr) (f:Fx) (vs:List Nat),qiv d es=some (f,vs)->(∀ i∈vs,S.msF i=false)/\∀ {Wx} X M,XS X P w K mg base lvl S Wx->MS M K S Wx->PE X (.BoolOp .Or es pos) (tE M f vs)/\PW X (.BoolOp .Or es pos) (tT M (bT f))
 | [],f,vs,h=>by cases h
 | [e],f,vs,h=>by
  have g:=hd e f vs h
  exact ⟨g.1,λ X M xs m=>⟨qju (g.2.2 X M xs m).1,qof (g.2.2 X M xs m).2⟩⟩
 | e::e'::es,f,vs,h=>by
  unfold qiv at h
  split at h
  ·rename_i f1 v1 f2 v2 h1 h2
   cases h
   have g1:=hd e f1 v1 h1
   have g2:=qcm hd (pos:=pos) (e'::es) f2 v2 h2
   exact ⟨zwg g1.1 g2.1,λ X M xs m=>⟨zqv (qql (g1.2.2 X M xs m).1 (g2.2 X M xs m).1) λ σ H Q q=>qnw q,qjq (qqi (g1.2.2 X M xs m).2 (g2.2 X M xs m).2) λ σ H Q q=>qni q⟩⟩
  ·cases h
theorem zwv {d:Expr->Option D2} (hd:∀ e f vs,d e=some (f,vs)->Good P w K mg base lvl S e f vs):∀ (es:List Expr) (fa:Fa) (vs:List Nat),zjm d es=some (fa,vs)->(∀ i∈vs,S.msF i=false)/\es.all zbq=true/\∀ {Wx} X M,XS X P w K mg base lvl S Wx->MS M K S Wx->PA X es (tL M fa vs)
 | [],fa,vs,h=>by cases h;exact ⟨λ _ z=>(nomatch z),rfl,λ X M _ _=>qoa⟩
 | e::es,fa,vs,h=>by
  unfold zjm at h
  split at h
  ·rename_i f1 v1 f2 v2 h1 h2
   cases h
   have g1:=hd e f1 v1 h1
   have g2:=zwv hd es f2 v2 h2
   exact ⟨zwg g1.1 g2.1,by rw [jh0,g1.2.1,g2.2.1];rfl,λ X M xs m=>qlk (m.v g1.1) (g1.2.2 X M xs m).1 (g2.2.2 X M xs m) (zxe (zqp g1.2.1))⟩
  ·cases h
theorem zys (scope:ve5) (env:Env):vl0 scope env=zxz scope env.scope:=rfl
theorem zkv {x:Str}{k:ve1}{sc:ve5}:∀ (l:List (Str×ve1)),(k=.cell\/k=.free)->(l.map λ (n,k)=>if (k == NameKind.free && sc.kind == .function && sc.names.lookup n == some .cell) then (n,NameKind.cell) else (n,k)).lookup x=some k->(x,NameKind.free)∈l\/(x,NameKind.cell)∈l
 | [],_,h=>by simp at h
 | (n,j)::r,hk,h=>by
  rw [jb7] at h
  have ih:=zkv (x:=x) (k:=k) (sc:=sc) r hk
  dsimp only at h
  by_cases hj:(j == NameKind.free && sc.kind == .function && sc.names.lookup n == some .cell)=true
  ·rw [if_pos hj,je1] at h
   split at h
   ·rename_i hx
    rw [ja5,ja5] at hj
    have e1:x=n:=eq_of_beq hx
    have e2:j=.free:=eq_of_beq hj.1.1
    rw [e1,e2];exact .inl ja4
   ·exact (ih h).imp (ja1 _) (ja1 _)
  ·rw [if_neg hj,je1] at h
   split at h
   ·rename_i hx
    have e1:x=n:=eq_of_beq hx
    have e2:j=k:=Option.some.inj h
    rcases hk with z | z
    ·rw [e1,e2,z];exact .inr ja4
    ·rw [e1,e2,z];exact .inl ja4
   ·exact (ih h).imp (ja1 _) (ja1 _)
theorem zvk (sc':ve5):∀ (N:List Str) (i:Nat),(zgy sc' i N).length=N.length
 | [],_=>rfl
 | x::r,i=>by rw [zgy,ja9,zvk sc' r (i + 1),ja9]
structure ChkOk (S:Sx) (scope:ve5) (xs:List Str) (vI:List Nat):Prop where
 kind:scope.kind=.function
 dis:∀ x,(x,NameKind.free)∈scope.names->(x,NameKind.cell)∉scope.names
 names:∀ x∈scope.names,x.2=.local->scope.names.lookup x.1=some .local
 free:∀ x∈scope.names,x.2=.free->S.sc.names.lookup x.1=some .cell\/S.sc.names.lookup x.1=some .free
 capt:∀ (i:Nat) (x:Str),i < S.N.length->(zxa S scope xs vI).N[i]?=some x->Vis (zxz scope S.sc) x->S.N[i]?=some x/\Vis S.sc x/\(x,NameKind.free)∈scope.names/\(zxz scope S.sc).names.lookup x≠some .local
 nd:(zxa S scope xs vI).N.Nodup
 loc:∀ x∈xs,(zxz scope S.sc).names.lookup x=some .local\/((zxz scope S.sc).names.lookup x=some .cell/\(x,NameKind.cell)∈scope.names)
 pos:S.N.length≠0
 ms:∀ i∈S.ms,i < S.N.length
theorem qkm {sc:ve5}{x:Str} (h:Vis sc x):visB sc x=true:=by
 unfold visB zww
 rcases h with h | h | h <;> rw [h] <;> simp
theorem qkj {scope:ve5}{xs:List Str}{vI:List Nat} (h:zfp S scope xs vI=true):ChkOk S scope xs vI:=by
 unfold zfp at h
 simp only [ja5,decide_eq_true_eq,jb8,bne_iff_ne,ne_eq,jg5] at h
 obtain ⟨⟨⟨⟨⟨⟨⟨⟨h1,h2⟩,h3⟩,h4⟩,h5⟩,h6⟩,h7⟩,h8⟩,h9⟩:=h
 refine ⟨h1,λ x hx hz=>(h2 (x,.free) hx).elim (λ z=>z rfl) λ z=>?_,λ x hx he=>(h3 x hx).elim (λ z=>absurd he z) λ z=>eq_of_beq z,λ x hx he=>(h4 x hx).elim (λ z=>absurd he z) λ z=>z.elim (λ z=>.inl (eq_of_beq z)) λ z=>.inr (eq_of_beq z),λ i x hi e hv=>?_,h6,λ x hx=>(h7 x hx).imp zwf λ z=>⟨zwf z.1,by simpa using z.2⟩,h8,h9⟩
 ·have z':(!(scope.names.contains (x,NameKind.cell)))=true:=z
  have:scope.names.contains (x,NameKind.cell)=true:=by simpa using hz
  rw [this] at z';cases z'
 have q:=h5 i (jb9.mpr hi)
 rw [e] at q
 dsimp only at q
 rw [jg5] at q
 rcases q with q | q
 ·have:visB (zxz scope S.sc) x=true:=qkm hv
  have q':(!visB (zxz scope S.sc) x)=true:=q
  rw [this] at q';cases q'
 ·simp only [ja5,decide_eq_true_eq,jq2] at q
  obtain ⟨⟨⟨q1,q2⟩,q3⟩,q4⟩:=q
  refine ⟨q1,qje q2,by simpa using q3,λ z=>?_⟩
  have:zww (zxz scope S.sc) x .local=true:=by unfold zww;rw [z];simp
  have q4':zww (zxz scope S.sc) x .local=false:=q4
  rw [this] at q4';cases q4'
theorem ChkOk.comp {scope:ve5}{ys:List Str}{vI:List Nat} (c:ChkOk S scope ys vI) (xs:XS X P w K mg base lvl S Wx):CompOk X scope (zxa S scope ys vI).N ys.length where
 kind:=c.kind
 dis:=c.dis
 names:=c.names
 len:=by
  show (zgy _ 0 S.N++ys).length=_
  rw [jb4,zvk,xs.N]
 free:=λ x hx he=>by
  show X.env.scope.names.lookup x.1=_\/X.env.scope.names.lookup x.1=_
  rw [xs.sc];exact c.free x hx he
 kinds:=λ x h=>by
  rcases h with h | h
  ·exact zkv (sc:=X.env.scope) scope.names (.inl rfl) h
  ·exact zkv (sc:=X.env.scope) scope.names (.inr rfl) h
 capt:=λ i x hi e hv=>by
  rw [zys,xs.sc] at hv ⊢
  rw [xs.N] at hi ⊢
  exact c.capt i x hi e hv
theorem ChkOk.xs {scope:ve5}{ys:List Str}{vI:List Nat} (c:ChkOk S scope ys vI) (xs:XS X P w K mg base lvl S Wx) (s2:va3) (H2:Hp) (C:Addr) (fp:List Addr) (pins:List (Addr×Obj)):XS (zqq X s2 H2 scope C (zxa S scope ys vI).N fp pins) P w K mg base lvl (zxa S scope ys vI) W0:=
 ⟨xs.prog,xs.w,xs.K,xs.mg,xs.base,rfl,by show vl0 scope X.env=_;rw [zys,xs.sc];rfl,xs.calm,xs.room,PassesOwn.never,qov,λ h=>nomatch h⟩
theorem zfu {scope:ve5}{ys:List Str}{vI:List Nat} (i:Nat):(zxa S scope ys vI).alF i=if i < S.N.length then S.alF i else if i < S.N.length + ys.length then vI else []:=by
 unfold Sx.alF zxa
 dsimp only
 rw [ja0]
 by_cases h:i < S.N.length
 ·rw [jc4 (by simpa using h),if_pos h]
  simp [h,Sx.alF,ja0]
 ·rw [jd4 (by simpa using h),if_neg h,jd9]
  simp only [ja3,jc8]
  by_cases h2:i < S.N.length + ys.length
  ·rw [if_pos h2,if_pos (by omega)];rfl
  ·rw [if_neg h2,if_neg (by omega)];rfl
theorem ChkOk.ms' {scope:ve5}{ys:List Str}{vI:List Nat} (c:ChkOk S scope ys vI) (m:MS M K S Wx) (hv:∀ i∈vI,S.msF i=false) (D:Addr):MS (M.comp D S.N.length vI) K (zxa S scope ys vI) W0 where
 W:=rfl
 K:=m.K
 ms:=m.ms
 al:=λ i hi=>by
  rw [zfu]
  show (if i < S.N.length then M.al i else vI)=_
  have hl:(zxa S scope ys vI).N.length=S.N.length + ys.length:=by
   show (zgy _ 0 S.N++ys).length=_
   rw [jb4,zvk]
  rw [hl] at hi
  by_cases h:i < S.N.length
  ·rw [if_pos h,if_pos h];exact m.al i h
  ·rw [if_neg h,if_neg h,if_pos hi]
 pn:=λ p hp=>by
  have h:=m.pn p hp
  show p.1 < (zgy _ 0 S.N++ys).length
  rw [jb4,zvk]
  omega
 als:=λ i j hj=>by
  have hj':j∈(if i < S.N.length then M.al i else vI):=hj
  show M.Ms j=false
  by_cases h:i < S.N.length
  ·rw [if_pos h] at hj';exact m.als i j hj'
  ·rw [if_neg h] at hj';rw [m.ms];exact hv j hj'
theorem zfj {n:Nat}{iter:Expr}{env:Env}{f:Fx}{vs:List Nat} (h:(∀ a b c,iter≠.Set a b c)):∀ x,vi0 iter env x=pure x:=by
 intro x
 cases iter with
 | Set a b c=>exact absurd rfl (h a b c)
 | _=>rfl
end
section
variable {X:Cx}{P:vb0}{w:vc1}{K:Frag}{mg:Str->Option va2}{base:Heap}{lvl:Nat}{S:Sx}{Wx:St->Nat->Hp->Prop}{M:Fm}{f g:Fx}{vs vs':List Nat}{σ:St}{H:Hp}{Q:VK}
theorem qko {T:Str}{t:String} (h:tyOf T=some t):t∈isiT/\T∈zkj/\vg3 T=some (.type t)/\(T == ("__debug__" : Str))=false/\T ≠ "__name__" := by
 unfold tyOf at h
 split at h
 ·rename_i e;cases h;rw [e];exact ⟨by decide,by decide +kernel,rfl,by decide +kernel,by decide +kernel⟩
 ·split at h
  ·rename_i e;cases h;rw [e];exact ⟨by decide,by decide +kernel,rfl,by decide +kernel,by decide +kernel⟩
  ·split at h
   ·rename_i e;cases h;rw [e];exact ⟨by decide,by decide +kernel,rfl,by decide +kernel,by decide +kernel⟩
   ·split at h
    ·rename_i e;cases h;rw [e];exact ⟨by decide,by decide +kernel,rfl,by decide +kernel,by decide +kernel⟩
    ·split at h
     ·rename_i e;cases h;rw [e];exact ⟨by decide,by decide +kernel,rfl,by decide +kernel,by decide +kernel⟩
     ·split at h
      ·rename_i e;cases h;rw [e];exact ⟨by decide,by decide +kernel,rfl,by decide +kernel,by decide +kernel⟩
      ·cases h
theorem qn7 {x:Str}{o:List (PV×Nat)->Option (PV×Nat)}{e:Expr}{es:List Expr}{fa:Fa}{p pos:Pos} (h:qm2 x=some o) (xs:XS X P w K mg base lvl S Wx) (m:MS M K S Wx) (hb:∀ x∈zkj,mg x=none) (hg:S.glob x=true) (hs:(e::es).all zbq=true) (ha:PA X (e::es) (tL M fa vs)):
  PE X (.Call (.Name x p) (e::es) [] pos) (tE M (zqd o fa) vs):=by
 rw [jh0,ja5] at hs
 have h1:va7 (e::es) X.env=(false,eval e X.env)::va7 es X.env:=zxe (zqp hs.1)
 have h2:(vg1 pos (va7 es X.env)).any (·.1)=false:=zmp hs.2
 have hm:∀ x∈zkj,X.mg x=none:=λ x hx=>by rw [xs.mg];exact hb x hx
 unfold qm2 at h
 split at h
 ·rename_i ex;cases h;subst ex;exact qn4 (m.k xs) (xs.gl hg) (hm _ (by decide +kernel)) ha h1 h2
 ·split at h
  ·rename_i ex;cases h;subst ex;exact qn8 xs.calm (xs.gl hg) (hm _ (by decide +kernel)) ha h1 h2
  ·split at h
   ·rename_i ex;cases h;subst ex;exact qlf xs.calm (xs.gl hg) (hm _ (by decide +kernel)) ha h1 h2
   ·split at h
    ·rename_i ex;cases h;subst ex;exact qle xs.calm (xs.gl hg) (hm _ (by decide +kernel)) ha h1 h2
    ·split at h
     ·rename_i ex;cases h;subst ex;exact qlc xs.calm (xs.gl hg) (hm _ (by decide +kernel)) ha h1 h2
     ·split at h
      ·rename_i ex;cases h;subst ex;exact qlb (m.k xs) (xs.gl hg) (hm _ (by decide +kernel)) ha h1 h2
      ·split at h
       ·rename_i ex;cases h;subst ex;exact qlg (m.k xs) (xs.gl hg) (hm _ (by decide +kernel)) ha h1 h2
       ·split at h
        ·rename_i ex;cases h;subst ex;exact qli (xs.gl hg) (hm _ (by decide +kernel)) ha h1 h2
        ·split at h
         ·rename_i ex;cases h;subst ex;exact qld (by have:=xs.room.un;omega) (xs.gl hg) (hm _ (by decide +kernel)) ha h1 h2 (m.k xs)
         ·cases h
def IwOk (P:vb0) (w:vc1) (K:Frag) (mg:Str->Option va2) (base:Heap) (lvl:Nat) (S:Sx) (it:Expr) (iw:Iw):Prop:=
 (∀ i∈iw.vs,S.msF i=false)/\(∀ a b c,it≠.Set a b c)/\∀ {Wx} X M,XS X P w K mg base lvl S Wx->MS M K S Wx->∀ tg,(match iw with
  | .rng en fa vs=>(en=zqz/\PI X tg it (qih (tL M fa vs)))\/(en=zpa/\PI X tg it (qig (tL M fa vs)))
  | .seq f vs=>PI X tg it (iSeq M.K (tE M f vs))
  | .vw v fa vs=>twOk tg (.vw v fa vs)=true->PI X tg it (iVw v M.K (tL M fa vs)))
theorem qij {it:Expr} (g:Good P w K mg base lvl S it f vs) (hs:∀ a b c,it≠.Set a b c):IwOk P w K mg base lvl S it (.seq f vs):=
 ⟨g.1,hs,λ X M xs m tg=>by
  show PI X tg it (iSeq M.K (tE M f vs))
  rw [m.k xs];exact qol (g.2.2 X M xs m).1⟩
theorem zfm {d:Expr->Option D2} (hd:∀ e f vs,d e=some (f,vs)->Good P w K mg base lvl S e f vs) (hset:∀ a b c,d (.Set a b c)=none) (hb:∀ x∈zkj,mg x=none) {it:Expr}{iw:Iw} (h:denI d S it=some iw):IwOk P w K mg base lvl S it iw:=by
 have seq:∀ {it:Expr}{iw:Iw},(match d it with
   | some (f,vs)=>some (Iw.seq f vs)
   | none=>none)=some iw->IwOk P w K mg base lvl S it iw:=λ {it iw} h=>by
  cases e:d it with
  | none=>rw [e] at h;cases h
  | some p=>
   obtain ⟨f,vs⟩:=p
   rw [e] at h;cases h
   exact qij (hd _ _ _ e) λ a b c z=>by rw [z,hset] at e;cases e
 unfold denI at h
 split at h
 ·rename_i x p a pos
  split at h
  ·rename_i hc
   obtain ⟨rfl,hg⟩:=hc
   split at h
   ·rename_i fa vs e
    cases h
    have g:=zwv hd _ _ _ e
    refine ⟨λ _ z=>(nomatch z),λ _ _ _ z=>(nomatch z),λ X M xs m tg=>.inl ⟨rfl,?_⟩⟩
    have hs:=g.2.1
    simp only [jh0,jm7,jh1] at hs
    exact qex (xs.gl hg) (by rw [xs.mg];exact hb _ (by decide +kernel)) (g.2.2 X M xs m) (zxe (zqp hs))
   ·cases h
  ·split at h
   ·rename_i hc
    obtain ⟨rfl,hg⟩:=hc
    split at h
    ·rename_i fa vs e
     cases h
     have g:=zwv hd _ _ _ e
     refine ⟨g.1,λ _ _ _ z=>(nomatch z),λ X M xs m tg _=>?_⟩
     have hs:=g.2.1
     simp only [jh0,jm7,jh1] at hs
     rw [m.k xs]
     exact qom (xs.gl hg) (by rw [xs.mg];exact hb _ (by decide +kernel)) (g.2.2 X M xs m) (zxe (zqp hs))
    ·cases h
   ·split at h
    ·rename_i hc
     obtain ⟨rfl,hg⟩:=hc
     split at h
     ·rename_i fa vs e
      cases h
      have g:=zwv hd _ _ _ e
      refine ⟨g.1,λ _ _ _ z=>(nomatch z),λ X M xs m tg ht=>?_⟩
      have hs:=g.2.1
      simp only [jh0,jm7,jh1] at hs
      rw [m.k xs]
      cases tg with
      | Tuple es k tp=>exact qlx (xs.gl hg) (by rw [xs.mg];exact hb _ (by decide +kernel)) (g.2.2 X M xs m) (zxe (zqp hs))
      | _=>cases ht
     ·cases h
    ·exact seq h
 ·rename_i x p a b pos
  split at h
  ·rename_i hc
   obtain ⟨rfl,hg⟩:=hc
   split at h
   ·rename_i fa vs e
    cases h
    have g:=zwv hd _ _ _ e
    refine ⟨λ _ z=>(nomatch z),λ _ _ _ z=>(nomatch z),λ X M xs m tg=>.inr ⟨rfl,?_⟩⟩
    have hs:=g.2.1
    simp only [jh0,jm7,jh1,ja5] at hs
    have s2:va7 [b] X.env=[(false,eval b X.env)]:=zxe (zqp hs.2)
    exact qew (xs.gl hg) (by rw [xs.mg];exact hb _ (by decide +kernel)) (g.2.2 X M xs m) (by rw [zxe (zqp hs.1),s2]) s2
   ·cases h
  ·split at h
   ·rename_i hc
    obtain ⟨rfl,hg⟩:=hc
    split at h
    ·rename_i fa vs e
     cases h
     have g:=zwv hd _ _ _ e
     refine ⟨g.1,λ _ _ _ z=>(nomatch z),λ X M xs m tg ht=>?_⟩
     have hs:=g.2.1
     simp only [jh0,jm7,jh1,ja5] at hs
     have s2:va7 [b] X.env=[(false,eval b X.env)]:=zxe (zqp hs.2)
     rw [m.k xs]
     cases tg with
     | Tuple es k tp=>exact qok (xs.gl hg) (by rw [xs.mg];exact hb _ (by decide +kernel)) (g.2.2 X M xs m) (by rw [zxe (zqp hs.1),s2]) s2
     | _=>cases ht
    ·cases h
   ·exact seq h
 ·exact seq h
theorem qhe {σ:St}{H:Hp}{Q:Bool->Hp->Prop} (h:∃ M',MS M' K S Wx/\tT M' zqj σ H Q):Q true H:=by
 obtain ⟨M',_,ρ,fps,rep,q⟩:=h
 exact q H fps KD.refl Agr.refl rep
structure CompParts (P:vb0) (w:vc1) (K:Frag) (mg:Str->Option va2) (base:Heap) (lvl:Nat) (S:Sx) (scope:ve5) (tg:Expr) (ys:List Str) (asg:PV->Rho->Option Rho) (it elt:Expr) (ifs:List Expr) (iw:Iw) (t:Fb) (g:Fx) (vE:List Nat):Prop where
 tga:tgA S.N.length tg=some (ys,asg)
 two:twOk tg iw=true
 chk:ChkOk S scope ys iw.vs
 iwo:IwOk P w K mg base lvl S it iw
 elt:Good P w K mg base lvl (zxa S scope ys iw.vs) elt g vE
 ifs:∀ {Wx} X M,XS X P w K mg base lvl (zxa S scope ys iw.vs) Wx->MS M K (zxa S scope ys iw.vs) Wx->PTs X ifs (λ σ H Q=>∃ M',MS M' K (zxa S scope ys iw.vs) Wx/\tT M' t σ H Q)
theorem qgk {scope:ve5}{tg:Expr}{ys:List Str}{asg:PV->Rho->Option Rho}{it elt:Expr}{ifs:List Expr}{iw:Iw}{t:Fb}{vE:List Nat} (c:CompParts P w K mg base lvl S scope tg ys asg it elt ifs iw t g vE):∀ i∈iw.vs++vE.filter (λ i=>decide (i < S.N.length)),S.msF i=false:=
 zwg c.iwo.1 λ i hi=>c.elt.1 i (jh3.mp hi).1
theorem zgn {X':Cx}:∀ {es:List Expr}{ys:List Str}{n:Nat},zfe es=some ys->X'.N.Nodup->(∀ j y,ys[j]?=some y->X'.N[n + j]?=some y)->(∀ y∈ys,Loc X'.env.scope y/\(X'.fn y=true\/X'.env.scope.names.lookup y=some .local))->PGs X' es (zmc (jl8 n ys.length))/\(vd8 es X'.env).length=ys.length/\(vd8 es X'.env).findIdx? (·.1)=none
 | [],ys,n,h,_,_,_=>by cases h;exact ⟨qey,rfl,rfl⟩
 | e::es,ys,n,h,hN,hi,hl=>by
  unfold zfe at h
  split at h
  ·cases ‹_::_=[]›
  ·rename_i x px r heq
   cases heq
   obtain ⟨zs,h2,rfl⟩:=jc5.mp h
   have hx:=hl x ja4
   obtain ⟨h1,h3,h4⟩:=zgn (n:=n + 1) h2 hN (λ j y e=>by rw [show n + 1 + j=n + (j + 1) by omega];exact hi (j + 1) y (by simpa using e)) λ y hy=>hl y (ja1 _ hy)
   rw [ja9,jr6]
   refine ⟨qbs (zmy hN (by have:=hi 0 x rfl;simpa using this) hx.1 hx.2) h1 rfl,by rw [vd8,ja9,h3] <;> (intros;contradiction),?_⟩
   rw [vd8,jp4,h4] <;> first | rfl | (intros;contradiction)
  ·cases h
theorem zmi {scope:ve5}{tg:Expr}{ys:List Str}{asg:PV->Rho->Option Rho}{pos:Pos}{it elt:Expr}{ifs:List Expr}{iw:Iw}{t:Fb}{vE:List Nat} (c:CompParts P w K mg base lvl S scope tg ys asg it elt ifs iw t g vE) (xs:XS X P w K mg base lvl S Wx) (m:MS M K S Wx):
  ∃ wi gg,PI X tg it wi/\CompOk X scope (zxa S scope ys iw.vs).N ys.length/\(∀ s2 H2 C fp pins,PG (zqq X s2 H2 scope C (zxa S scope ys iw.vs).N fp pins) tg gg) /\
   (∀ s2 H2 C fp pins,PTs (zqq X s2 H2 scope C (zxa S scope ys iw.vs).N fp pins) ifs (λ σ H Q=>∃ M',MS M' K (zxa S scope ys iw.vs) W0/\tT M' t σ H Q)) /\
   (∀ s2 H2 C fp pins,PE (zqq X s2 H2 scope C (zxa S scope ys iw.vs).N fp pins) elt (λ σ H Q=>∃ M',MS M' K (zxa S scope ys iw.vs) W0/\tE M' g vE σ H Q)) /\
   ∀ σ H Q,σ.length=S.N.length->tE M (qg0 iw ys.length asg t g) (iw.vs++vE.filter (λ i=>decide (i < S.N.length))) σ H Q ->
    qai ys.length wi gg (λ σ H Q=>∃ M',MS M' K (zxa S scope ys iw.vs) W0/\tT M' t σ H Q) (λ σ H Q=>∃ M',MS M' K (zxa S scope ys iw.vs) W0/\tE M' g vE σ H Q) σ H Q:=by
 have hvI:=m.v c.iwo.1
 have hP:∀ D,MS (M.comp D S.N.length iw.vs) K (zxa S scope ys iw.vs) W0:=λ D=>c.chk.ms' m c.iwo.1 D
 have hvE:∀ i∈vE,M.Ms i=false:=λ i hi=>by rw [m.ms];exact c.elt.1 i hi
 have hvo:∀ i,i∈vE->i < S.N.length->i∈iw.vs++vE.filter (λ i=>decide (i < S.N.length)):=λ i h1 h2=>ja7 _ (jh3.mpr ⟨h1,by simpa using h2⟩)
 have hvo2:=m.v (qgk c)
 have bd:∀ D i,S.N.length<=i->Bd (M.comp D S.N.length iw.vs) iw.vs i:=λ D i hi=>⟨by
   show M.Ms i=false
   rw [m.ms]
   unfold Sx.msF
   cases e:S.ms.contains i with
   | false=>rfl
   | true=>exact absurd (c.chk.ms _ (by simpa using e)) (by omega),⟨λ _=>by have:=c.chk.pos;omega,λ p hp=>by have:=m.pn p hp;omega⟩,if_neg (by omega),(hP D).als⟩
 have hix:∀ j y,ys[j]?=some y->(zxa S scope ys iw.vs).N[S.N.length + j]?=some y:=λ j y e=>by
  show (zgy _ 0 S.N++ys)[S.N.length + j]?=some y
  rw [jd4 (by rw [zvk];omega),zvk]
  simpa using e
 have hloc:∀ s2 H2 C fp pins,∀ y∈ys,Loc (zqq X s2 H2 scope C (zxa S scope ys iw.vs).N fp pins).env.scope y/\((zqq X s2 H2 scope C (zxa S scope ys iw.vs).N fp pins).fn y=true\/(zqq X s2 H2 scope C (zxa S scope ys iw.vs).N fp pins).env.scope.names.lookup y=some .local):=λ s2 H2 C fp pins y hy=>by
  have e:(zqq X s2 H2 scope C (zxa S scope ys iw.vs).N fp pins).env.scope=zxz scope S.sc:=by
   show vl0 scope X.env=_
   rw [zys,xs.sc]
  rw [e]
  rcases c.chk.loc y hy with z | z
  ·exact ⟨.inl z,.inr z⟩
  ·exact ⟨.inr z.1,.inl (by show scope.names.contains (y,NameKind.cell)=true;simpa using z.2)⟩
 have hpe:∀ s2 H2 C fp pins,PE (zqq X s2 H2 scope C (zxa S scope ys iw.vs).N fp pins) elt (λ σ H Q=>∃ M',MS M' K (zxa S scope ys iw.vs) W0/\tE M' g vE σ H Q):=λ s2 H2 C fp pins pi s σ H Q I ⟨M',m',q⟩=>
  (c.elt.2.2 _ M' (c.chk.xs xs s2 H2 C fp pins) m').1 pi s σ H Q I q
 have hpt:∀ s2 H2 C fp pins,PTs (zqq X s2 H2 scope C (zxa S scope ys iw.vs).N fp pins) ifs (λ σ H Q=>∃ M',MS M' K (zxa S scope ys iw.vs) W0/\tT M' t σ H Q):=λ s2 H2 C fp pins=>c.ifs _ (M.comp 0 S.N.length iw.vs) (c.chk.xs xs s2 H2 C fp pins) (hP 0)
 have tgp:∃ is gg,(∀ i∈is,S.N.length<=i)/\(∀ D,GOk (M.comp D S.N.length iw.vs) iw.vs is gg asg)/\∀ s2 H2 C fp pins,PG (zqq X s2 H2 scope C (zxa S scope ys iw.vs).N fp pins) tg gg:=by
  have ht:=c.tga
  unfold tgA at ht
  split at ht
  ·rename_i y py
   cases ht
   refine ⟨[S.N.length],zpn S.N.length,λ i hi=>by rw [jc3.mp hi];exact jb2 _,λ D=>qj5 (bd D _ (jb2 _)),λ s2 H2 C fp pins=>?_⟩
   exact zmy c.chk.nd (hix 0 y rfl) (hloc s2 H2 C fp pins y (by simp)).1 (hloc s2 H2 C fp pins y (by simp)).2
  ·rename_i es k tp
   obtain ⟨zs,h2,e⟩:=jc5.mp ht
   cases e
   refine ⟨jl8 S.N.length ys.length,gTup M.K ys.length (zmc (jl8 S.N.length ys.length)),λ i hi=>(jq3.mp hi).1,λ D=>?_,λ s2 H2 C fp pins=>?_⟩
   ·have:=qmj (M:=M.comp D S.N.length iw.vs) (al:=iw.vs) (is:=jl8 S.N.length ys.length) λ i hi=>bd D i (jq3.mp hi).1
    rw [List.length_range'] at this
    exact this
   ·obtain ⟨h1,h3,h4⟩:=zgn (X':=zqq X s2 H2 scope C (zxa S scope ys iw.vs).N fp pins) (n:=S.N.length) h2 c.chk.nd hix (hloc s2 H2 C fp pins)
    have:=qez (X:=zqq X s2 H2 scope C (zxa S scope ys iw.vs).N fp pins) (pos:=tp) (k:=k) xs.calm h1 h3 h4
    have e:(zqq X s2 H2 scope C (zxa S scope ys iw.vs).N fp pins).K=M.K:=(m.k xs).symm
    rw [e] at this
    exact this
  ·cases ht
 obtain ⟨is,gg,his,hg,hpg⟩:=tgp
 have hw:=c.iwo.2.2 X M xs m tg
 have htw:=c.two
 cases iw with
 | rng en fa vs=>
  rcases hw with ⟨rfl,hw⟩ | ⟨rfl,hw⟩
  ·exact ⟨_,gg,hw,c.chk.comp xs,hpg,hpt,hpe,λ σ H Q hl hq=>qhi hl hP m.als hvI hvE his hg hvo hvo2 hq⟩
  ·exact ⟨_,gg,hw,c.chk.comp xs,hpg,hpt,hpe,λ σ H Q hl hq=>qhh hl hP m.als hvI hvE his hg hvo hvo2 hq⟩
 | seq f vs=>exact ⟨_,gg,hw,c.chk.comp xs,hpg,hpt,hpe,λ σ H Q hl hq=>qhg hl hP m.als hvI hvE his hg hvo hvo2 hq⟩
 | vw v fa vs=>exact ⟨_,gg,hw htw,c.chk.comp xs,hpg,hpt,hpe,λ σ H Q hl hq=>qhf hl hP m.als hvI hvE his hg hvo hvo2 hq⟩
theorem qjv {e:Expr}{t t':TE} (h:PE X e t) (i:∀ σ H Q,σ.length=X.N.length->t' σ H Q->t σ H Q):PE X e t':=λ pins s σ H Q I q=>h pins s σ H Q I (i σ H Q I.len q)
theorem qoj {e:Stmt}{t t':TS} (h:PS X e t) (i:∀ D σ H,σ.length=X.N.length->t' D σ H->t D σ H):PS X e t':=λ pins s σ H D I q=>h pins s σ H D I (i D σ H I.len q)
theorem qf7 {scope:ve5}{tg:Expr}{ys:List Str}{asg:PV->Rho->Option Rho}{pos:Pos}{it elt:Expr}{ifs:List Expr}{iw:Iw}{t:Fb}{vE:List Nat} (c:CompParts P w K mg base lvl S scope tg ys asg it elt ifs iw t g vE):Good P w K mg base lvl S (.ListComp elt [⟨tg,it,ifs,0⟩] scope pos) (qg0 iw ys.length asg t g) (iw.vs++vE.filter (λ i=>decide (i < S.N.length))):=by
 refine zxd (qgk c) rfl (λ _ _=>rfl) λ X M xs m=>?_
 obtain ⟨wi,gg,h1,h2,h3,h4,h5,h6⟩:=zmi (pos:=pos) c xs m
 exact qjv (qe1 h2 xs.calm h1 h3 h4 h5 (zfj (n:=0) (f:=g) (vs:=[]) c.iwo.2.1)) λ σ H Q hl q=>h6 σ H Q (by rw [hl,xs.N]) q
theorem zhl {d:Expr->Option D2} (hd:∀ e f vs,d e=some (f,vs)->Good P w K mg base lvl S e f vs) {ifs:List Expr}{t:Fb} (h:qcn d ifs=some t) (X:Cx) (M:Fm) (xs:XS X P w K mg base lvl S Wx) (m:MS M K S Wx):PTs X ifs (λ σ H Q=>∃ M',MS M' K S Wx/\tT M' t σ H Q):=by
 unfold qcn at h
 split at h
 ·cases h
  intro pins s σ H Q I q
  exact qlt pins s σ H Q I (qhe q)
 ·obtain ⟨p,e,rfl⟩:=jc5.mp h
  obtain ⟨f,vs⟩:=p
  have g:=hd _ _ _ e
  intro pins s σ H Q I ⟨M',m',q⟩
  exact qls (g.2.2 X M' xs m').2 pins s σ H Q I q
 ·cases h
theorem zfl (n:Nat) (S:Sx) (a:List Expr) (b:Nat) (c:Pos):den n S (.Set a b c)=none:=by
 cases n <;> rfl
theorem qdh {e:Expr} (h:zbq e=true) (env:Env) (cpos:Pos):((vg1 cpos (va7 [e] env)).all (λ x=>!x.1) && (backToKw cpos (keywordEach [] env)).all (λ x=>x.1.isSome)
   && decide (([e]:List Expr).length + ([]:List Keyword).length + (if ([]:List Keyword).isEmpty then 0 else 1) < 30))=true:=by
 have:va7 [e] env=[(false,eval e env)]:=zxe (zqp h)
 rw [this]
 rfl
theorem zhe {T:Str}{c:Nat} (h:XN.findIdx? (·== T)=some c):XN[c]?=some T:=by
 obtain ⟨hlt,h1,_⟩:=jk0.mp h
 rw [ja8 hlt]
 exact congrArg some (eq_of_beq h1)
theorem qct {T:Str}{n:Nat} (GX:GX K mg S.xc) (hb:∀ x∈zkj,mg x=none) (h:qi3 S T=some n) (xs:XS X P w K mg base lvl S Wx):xKit X.K=true/\∃ cv,(∀ p2,PE X (.Name T p2) (tC cv))/\∀ u,RelV cv u->clsV X.K n u=true:=by
 unfold qi3 at h
 split at h
 ·rename_i hc
  obtain ⟨hg,hx⟩:=hc
  obtain ⟨_,hk,hcs⟩:=GX hx
  refine ⟨by rw [xs.K];exact hk,?_⟩
  split at h
  ·rename_i eT
   subst eT
   cases h
   refine ⟨.ty "ValueError",λ p2=>qe2 (xs.gl hg) (by rw [xs.mg];exact hb _ (by decide +kernel)) (u:=.type "ValueError") rfl rfl (by decide) (by decide),λ u r=>?_⟩
   cases r
   unfold clsV
   rfl
  ·split at h
   ·rename_i hc
    split at h
    ·rename_i hm
     cases h
     obtain ⟨x',C,h1,h2,h3,h4⟩:=hcs n (by simpa using hm)
     have ex:x'=T:=by
      have:=zhe hc
      rw [h1] at this
      exact Option.some.inj this
     subst ex
     refine ⟨.ref C,λ p2=>qly (xs.gl hg) (by rw [xs.mg];exact h3) rfl h4,λ u r=>?_⟩
     cases r
     unfold clsV
     rw [xs.K,h2]
     simp
    ·cases h
   ·cases h
 ·cases h
theorem zhr (GX:GX K mg S.xc) (hb:∀ x∈zkj,mg x=none) (xs:XS X P w K mg base lvl S Wx):∀ {es:List Expr}{ns:List Nat},qcv S es=some ns->es≠[]->xKit X.K=true/\∃ cvs,cvs.length=es.length/\PA X es (tVs cvs)/\∀ us,Vals cvs us->zpf X.K ns us=true
 | [],_,_,hn=>absurd rfl hn
 | e::r,ns,h,_=>by
  unfold qcv at h
  split at h
  ·rename_i T ds h1 h2
   obtain ⟨n,h3,rfl⟩:=jc5.mp h
   obtain ⟨p2,rfl⟩:=zgq h1
   obtain ⟨hk,cv,c1,c2⟩:=qct GX hb h3 xs
   refine ⟨hk,?_⟩
   have st:va7 (Expr.Name T p2::r) X.env=(false,eval (.Name T p2) X.env)::va7 r X.env:=rfl
   by_cases hr:r=[]
   ·subst hr
    cases h2
    refine ⟨[cv],rfl,λ a b c d e f g h=>(zvc (c1 p2) zpt st) a b c d e f g h,λ us v=>?_⟩
    cases v with
    | cons r rr=>
     cases rr
     unfold zpf
     rw [c2 _ r]
     rfl
   ·obtain ⟨_,cvs,l1,pa,l2⟩:=zhr GX hb xs h2 hr
    refine ⟨cv::cvs,by rw [ja9,ja9,l1],λ a b c d e f g h=>(zvc (c1 p2) pa st) a b c d e f g h,λ us v=>?_⟩
    cases v with
    | cons r rr=>
     unfold zpf
     rw [c2 _ r,l2 _ rr]
     rfl
  ·cases h
theorem zhk (GX:GX K mg S.xc) (G:GS P w K mg base lvl S.Γ) (Gm:GSm P w K mg base lvl S.Γm):∀ (n:Nat) (S':Sx) (e:Expr) (f:Fx) (vs:List Nat),S'.Γ=S.Γ->S'.Γm=S.Γm->S'.xc=S.xc->(∀ i,∀ j∈S'.alF i,S'.msF j=false)->den n S' e=some (f,vs)->Good P w K mg base lvl S' e f vs:=by
 intro n
 induction n with
 | zero=>intro S' e f vs _ _ _ _ h;cases h
 | succ n ih=>
  intro S' e f vs hΓ hΓm hX hS h
  have hd:∀ e f vs,den n S' e=some (f,vs)->Good P w K mg base lvl S' e f vs:=λ e f vs h=>ih S' e f vs hΓ hΓm hX hS h
  replace h:zvs (den n) S' e=some (f,vs):=h
  unfold zvs at h
  split at h
  ·unfold denC at h
   split at h
   ·cases h;exact zxd (λ _ z=>(nomatch z)) rfl (λ _ _=>rfl) λ X M xs m=>zqv qbt λ σ H Q q=>zbd (λ K H Z=>by rw [Own];exact ⟨rfl,rfl⟩) q
   ·cases h;exact zxd (λ _ z=>(nomatch z)) rfl (λ _ _=>rfl) λ X M xs m=>zqv qqn λ σ H Q q=>zbd (λ K H Z=>by rw [Own];exact ⟨rfl,rfl⟩) q
   ·cases h;exact zxd (λ _ z=>(nomatch z)) rfl (λ _ _=>rfl) λ X M xs m=>zqv qor λ σ H Q q=>zbd (λ K H Z=>by rw [Own];exact ⟨rfl,rfl⟩) q
   ·cases h;exact zxd (λ _ z=>(nomatch z)) rfl (λ _ _=>rfl) λ X M xs m=>zqv qop λ σ H Q q=>zbd (λ K H Z=>by rw [Own];exact ⟨rfl,rfl⟩) q
   ·cases h
  ·split at h
   ·rename_i i hi
    split at h
    ·cases h
    ·rename_i hm
     cases h
     refine zxd (λ j hj=>?_) rfl (λ _ _=>rfl) λ X M xs m=>qjv (xs.var hi) λ σ H Q hl q=>?_
     ·rcases ja6.mp hj with z | z
      ·rw [z];simpa using hm
      ·exact hS i j z
     ·have hlt:i < S'.N.length:=by
       unfold Sx.slot at hi
       split at hi
       ·exact (jb3.mp (zjy hi)).1
       ·cases hi
      rw [<- m.al i hlt] at q
      exact qjk q
   ·cases h
  ·split at h
   ·rename_i f1 v1 f2 v2 o h1 h2 h3
    cases h
    have g1:=hd _ _ _ h1
    have g2:=hd _ _ _ h2
    exact zxd (zwg g1.1 g2.1) rfl (λ _ _=>rfl) λ X M xs m=>qqe h3 (m.v g1.1) (m.k xs) (g1.2.2 X M xs m).1 (g2.2.2 X M xs m).1
   ·cases h
  ·split at h
   ·rename_i f1 v1 h1
    cases h
    have g1:=hd _ _ _ h1
    exact zxd g1.1 rfl (λ _ _=>rfl) λ X M xs m=>qn1 (g1.2.2 X M xs m).1
   ·cases h
  ·split at h
   ·rename_i f1 v1 h1
    cases h
    exact qik (hd _ _ _ h1)
   ·cases h
  ·rename_i es pos
   have g:=zhm hd (pos:=pos) _ _ _ h
   exact ⟨g.1,rfl,λ X M xs m=>⟨(g.2 X M xs m).1,(g.2 X M xs m).2.pt⟩⟩
  ·rename_i es pos
   have g:=qcm hd (pos:=pos) _ _ _ h
   exact ⟨g.1,rfl,λ X M xs m=>⟨(g.2 X M xs m).1,(g.2 X M xs m).2.pt⟩⟩
  ·split at h
   ·rename_i f1 v1 f2 v2 o h1 h2 h3
    cases h
    exact qil h3 (hd _ _ _ h1) (hd _ _ _ h2)
   ·cases h
  ·split at h
   ·rename_i f1 v1 f2 v2 f3 v3 p q h1 h2 h3 h4 h5
    cases h
    exact qdl h4 h5 (hd _ _ _ h1) (hd _ _ _ h2) (hd _ _ _ h3)
   ·cases h
  ·split at h
   ·rename_i fa v h1
    cases h
    have g:=zwv hd _ _ _ h1
    exact zxd g.1 rfl (λ _ _=>rfl) λ X M xs m=>qn3 (g.2.2 X M xs m)
   ·cases h
  ·split at h
   ·rename_i fa v h1
    cases h
    have g:=zwv hd _ _ _ h1
    exact zxd g.1 rfl (λ _ _=>rfl) λ X M xs m=>qn0 (g.2.2 X M xs m)
   ·cases h
  ·rename_i a b pos
   unfold qj9 at h
   split at h
   ·rename_i lo hi st p2
    unfold qka at h
    split at h
    ·split at h
     ·rename_i f1 v1 f2 v2 h1 h2
      cases h
      have g1:=hd _ _ _ h1
      have g2:=hd _ _ _ h2
      exact zxd g1.1 rfl (λ _ _=>rfl) λ X M xs m=>zqv (zmz (qam.or qeg) (g1.2.2 X M xs m).1 qat (zbm (g2.2.2 X M xs m).1)) λ σ H Q q=>qk0 (lo:=none) (hi:=some (f2,v2)) (m.v g1.1) (m.k xs) q
     ·cases h
    ·split at h
     ·rename_i f1 v1 f2 v2 h1 h2
      cases h
      have g1:=hd _ _ _ h1
      have g2:=hd _ _ _ h2
      exact zxd g1.1 rfl (λ _ _=>rfl) λ X M xs m=>zqv (zmz (qam.or qeg) (g1.2.2 X M xs m).1 (zbm (g2.2.2 X M xs m).1) qat) λ σ H Q q=>qk0 (lo:=some (f2,v2)) (hi:=none) (m.v g1.1) (m.k xs) q
     ·cases h
    ·split at h
     ·rename_i f1 v1 f2 v2 f3 v3 h1 h2 h3
      cases h
      have g1:=hd _ _ _ h1
      have g2:=hd _ _ _ h2
      have g3:=hd _ _ _ h3
      exact zxd g1.1 rfl (λ _ _=>rfl) λ X M xs m=>zqv (zmz (qam.or qeg) (g1.2.2 X M xs m).1 (zbm (g2.2.2 X M xs m).1) (zbm (g3.2.2 X M xs m).1)) λ σ H Q q=>qk0 (lo:=some (f2,v2)) (hi:=some (f3,v3)) (m.v g1.1) (m.k xs) q
     ·cases h
    ·rename_i st
     split at h
     ·rename_i hst
      obtain ⟨k,p3,p4,rfl⟩:=qfx hst
      split at h
      ·rename_i f1 v1 h1
       cases h
       have g1:=hd _ _ _ h1
       exact zxd g1.1 rfl (λ _ _=>rfl) λ X M xs m=>qqd (m.k xs) (g1.2.2 X M xs m).1
      ·cases h
     ·cases h
    ·cases h
   ·split at h
    ·rename_i x i hx hi
     obtain ⟨px,rfl⟩:=zgq hx
     obtain ⟨k,pi,rfl⟩:=qj1 hi
     split at h
     ·rename_i j hj
      split at h
      ·cases h
      ·rename_i hm
       cases h
       have hlt:j < S'.N.length:=by
        unfold Sx.slot at hj
        split at hj
        ·exact (jb3.mp (zjy hj)).1
        ·cases hj
       have hv:∀ i∈j::S'.alF j,S'.msF i=false:=λ i hi=>by
        rcases ja6.mp hi with z | z
        ·rw [z];simpa using hm
        ·exact hS j i z
       refine zxd (zwg hv λ _ z=>(nomatch z)) rfl (λ _ _=>rfl) λ X M xs m=>qjn (m.v hv) (m.k xs) (zyt rfl) (zqv (xs.var hj) λ σ H Q q=>?_) (zqv qbt λ σ H Q q=>zbd (λ K H Z=>by rw [Own];exact ⟨rfl,rfl⟩) q)
       rw [<- m.al j hlt] at q
       exact qjk q
     ·cases h
    ·split at h
     ·rename_i f1 v1 f2 v2 h1 h2
      split at h
      ·rename_i hn
       cases h
       have g1:=hd _ _ _ h1
       have g2:=hd _ _ _ h2
       exact zxd (zwg g1.1 g2.1) rfl (λ _ _=>rfl) λ X M xs m=>qjn (m.v g1.1) (m.k xs) (zyt hn) (g1.2.2 X M xs m).1 (g2.2.2 X M xs m).1
      ·cases h
     ·cases h
  ·split at h
   ·rename_i x p args pos _ hx
    subst hx
    split at h
    ·rename_i e c
     unfold qkd at h
     split at h
     ·rename_i f1 v1 h1
      split at h
      ·rename_i hgi
       have g1:=hd _ _ _ h1
       split at h
       ·rename_i T pT
        have s2:∀ {X:Cx},va7 [Expr.Name T pT] X.env=[(false,eval (.Name T pT) X.env)]:=rfl
        split at h
        ·rename_i t h2
         split at h
         ·rename_i hg
          cases h
          obtain ⟨t1,t2,t3,t4,t5⟩:=qko h2
          refine zxd g1.1 rfl (λ _ _=>rfl) λ X M xs m=>?_
          exact qn5 (x:=T) t1 (m.k xs) (g1.2.2 X M xs m).1 (xs.gl hgi) (by rw [xs.mg];exact G.1 _ (by decide +kernel)) (qe2 (xs.gl hg) (by rw [xs.mg];exact G.1 _ t2) t3 rfl t5 t4) (by rw [zxe (zqp g1.2.1),s2]) s2
         ·cases h
        ·obtain ⟨n,h3,e2⟩:=jc5.mp h
         cases e2
         refine zxd g1.1 rfl (λ _ _=>rfl) λ X M xs m=>?_
         obtain ⟨hk,cv,c1,c2⟩:=qct (by rw [hX];exact GX) G.1 h3 xs
         exact qlh hk (m.k xs) (g1.2.2 X M xs m).1 (xs.gl hgi) (by rw [xs.mg];exact G.1 _ (by decide +kernel)) (c1 pT) c2 (by rw [zxe (zqp g1.2.1),s2]) s2
       ·rename_i es k p2
        split at h
        ·rename_i hl
         obtain ⟨ns,h3,e2⟩:=jc5.mp h
         cases e2
         obtain ⟨hl,hne⟩:=hl
         refine zxd g1.1 rfl (λ _ _=>rfl) λ X M xs m=>?_
         have s2:va7 [Expr.Tuple es k p2] X.env=[(false,eval (.Tuple es k p2) X.env)]:=rfl
         obtain ⟨hk,cvs,l1,pa,l2⟩:=zhr (by rw [hX];exact GX) G.1 xs h3 hne
         exact qhq hk (m.k xs) (g1.2.2 X M xs m).1 (xs.gl hgi) (by rw [xs.mg];exact G.1 _ (by decide +kernel)) pa (by rw [l1];exact jd5 hl (by decide)) l2 (by rw [zxe (zqp g1.2.1),s2]) s2
        ·cases h
       ·cases h
      ·cases h
     ·cases h
    ·cases h
   ·split at h
    ·rename_i o ho
     split at h
     ·rename_i e es
      split at h
      ·rename_i fa v h1
       split at h
       ·rename_i hg
        cases h
        have g:=zwv hd _ _ _ h1
        exact zxd g.1 rfl (λ _ _=>rfl) λ X M xs m=>qn7 ho xs m G.1 hg g.2.1 (g.2.2 X M xs m)
       ·cases h
      ·cases h
     ·cases h
    ·split at h
     ·rename_i x p args pos _ _ _ _ nn F hF
      split at h
      ·rename_i e es
       split at h
       ·rename_i fa v h1
        split at h
        ·rename_i hg
         cases h
         have g:=zwv hd _ _ _ h1
         rw [hΓ] at hF
         obtain ⟨d1,d2,fa',fd,ps,d3,d4,d5,d6,d7⟩:=G.2 _ _ _ _ hF
         refine zxd g.1 rfl (λ _ _=>rfl) λ X M xs m=>?_
         have hs:=g.2.1
         rw [jh0,ja5] at hs
         obtain ⟨xp,xw,xK,xm,xb,_,_,_,xr,_⟩:=id xs
         subst xp xw xK xm xb
         have mk:M.K=X.K:=m.K
         have hps:=xs.ps
         rw [<- m.W] at hps
         refine zqv (qh5 d7 xr (xs.gl hg) d3 d4 d5 hps (g.2.2 X M xs m) d1 (zxe (zqp hs.1)) (zmp hs.2)) λ σ H Q q=>?_
         have:=qk2 d2 q
         rw [mk] at this
         exact this
        ·cases h
       ·cases h
      ·cases h
     ·cases h
     ·cases h
  ·split at h
   ·rename_i elt tg it ifs scope pos _ _ ys asg iw ht hi
    split at h
    ·rename_i hc
     split at h
     ·rename_i t g vE h1 h2
      cases h
      have ck:=qkj hc.1
      have giw:=zfm hd (zfl n S') G.1 hi
      have hS2:∀ i,∀ j∈(zxa S' scope ys iw.vs).alF i,(zxa S' scope ys iw.vs).msF j=false:=λ i j hj=>by
       rw [zfu] at hj
       show S'.msF j=false
       split at hj
       ·exact hS i j hj
       ·split at hj
        ·exact giw.1 j hj
        ·cases hj
      have hd2:∀ e f vs,den n (zxa S' scope ys iw.vs) e=some (f,vs)->Good P w K mg base lvl (zxa S' scope ys iw.vs) e f vs:=λ e f vs h=>ih _ e f vs hΓ hΓm hX hS2 h
      exact qf7 ⟨ht,hc.2,ck,giw,hd2 _ _ _ h2,zhl hd2 h1⟩
     ·cases h
    ·cases h
   ·cases h
  ·cases h
end
section
variable {is:List Nat}{M:Fm}{ρ ρ':Rho}{σ σ':St}{H H' H'':Hp}{fps fps' fps'':Fps}{vs vs':List Nat}
def sNo:Fs:=λ _=>.no
theorem qnp {t:TS}{D:Ends} (hq:tS M sNo D σ H):t D σ H:=by
 obtain ⟨ρ,fps,rep,q⟩:=hq
 exact q.elim
def sUnp (asg:PV->Rho->Option Rho) (f:Fx) (vs:List Nat):Fs:=λ ρ=>match f ρ with
 | .ok (x,d,ρ1)=>(match asg x (zxk d vs ρ1) with
  | some ρ2=>.nx ρ2
  | none=>.no)
 | .exc c=>.exc c
 | .no=>.no
theorem qnl {g:TG}{asg:PV->Rho->Option Rho}{f:Fx}{D:Ends} (hal:∀ i,M.al i=[]) (hv:∀ i∈vs,M.Ms i=false) (hg:GOk M [] is g asg) (hq:tS M (sUnp asg f vs) D σ H):tAsg (tE M f vs) g D σ H:=by
 obtain ⟨ρ,fps,rep,q⟩:=hq
 refine ⟨ρ,fps,rep,?_⟩
 unfold sUnp at q
 cases ef:f ρ with
 | no=>rw [ef] at q;exact q
 | exc c=>rw [ef] at q;exact λ H' fps' k=>q _ H' fps' k.ks
 | ok p=>
  obtain ⟨x,d,ρ1⟩:=p
  rw [ef] at q
  intro v H1 fps1 f1 k1 g1 rep1 o1 t1
  obtain ⟨fps2,k2,r2,o2⟩:=Rep.seen rep k1 g1 rep1 o1 t1 hal hv
  dsimp only at q
  cases ea:asg x (zxk d vs ρ1) with
  | none=>rw [ea] at q;exact q.elim
  | some ρ2=>
   rw [ea] at q
   refine hg x v _ σ H1 fps2 ρ2 _ r2 (o2.weak λ a h=>h.zf) ea λ σ' fps' s1 _ _ r'=>q σ' H1 fps' (k2.trans ⟨λ _ _ h _=>h,λ _ h=>h,λ j a ha=>.inl ⟨j,s1 j a ha⟩⟩) r'
theorem Rep.change {i:Nat}{x x':PV}{d d':Nat}{v:V}{f':List Addr} (hal:∀ i,M.al i=[]) (r:Rep M ρ σ H fps) (hi:ρ[i]?=some (some (x,d))) (hσ:σ[i]?=some (some v)) (k:Keep (λ a=>a∈fps i) H H') (dm:∀ a,H a≠none->H' a≠none) (hs:∀ b∈f',b∈fps i)
  (hm:M.Ms i=true->d'=om) (o:Own M.K H' (Zf M (λ j=>if j=i then f' else fps j)) x' d' v f'):Rep M (ρ.set i (some (x',d'))) σ H' (λ j=>if j=i then f' else fps j):=by
 have hlen:i < ρ.length:=(jb3.mp hi).1
 have inI:∀ j,∀ b∈(if j=i then f' else fps j),b∈fps j:=λ j b hb=>by
  by_cases e:j=i
  ·rw [if_pos e] at hb;rw [e];exact hs b hb
  ·rw [if_neg e] at hb;exact hb
 refine ⟨λ j y c hj=>?_,λ j hj=>?_,λ j k hjk b hb hc=>r.dj j k hjk b (inI j b hb) (inI k b hc),λ j b hb z=>r.zo j b (inI j b hb) z,λ j hj b hb=>r.fr j hj b (inI j b hb),λ b z=>dm b (r.zd b z),by rw [jf1];exact r.len,λ j y c hj hc=>?_,λ b z=>dm b (r.h0 b z),r.iov⟩
 ·by_cases ej:j=i
  ·subst ej
   rw [jd6 hlen] at hj
   cases hj
   refine ⟨v,hσ,?_⟩
   rw [if_pos rfl]
   exact o.weak λ a h=>h.zf
  ·rw [jc7 (vd0 ej)] at hj
   obtain ⟨u,hu,ou⟩:=r.own j y c hj
   refine ⟨u,hu,?_⟩
   rw [if_neg ej]
   refine Own.move (S:=λ a=>a∈fps i) k (λ a ha=>⟨.inr ⟨i,(by rw [hal j];intro z;cases z),ha⟩,r.lsts ha⟩) (λ a _ nz z=>nz ?_) y c u (fps j) (λ a ha z=>r.dj j i ej a ha z) ou
   rcases z with z | ⟨l,nl,z⟩
   ·exact .inl z
   ·exact .inr ⟨l,nl,inI l a z⟩
 ·by_cases ej:j=i
  ·subst ej
   exact absurd (jd6 hlen) (hj (x',d'))
  ·rw [if_neg ej]
   exact r.non j λ p hp=>hj p (by rw [jc7 (vd0 ej)];exact hp)
 ·by_cases ej:j=i
  ·subst ej
   rw [jd6 hlen] at hc
   cases hc
   exact hm hj
  ·rw [jc7 (vd0 ej)] at hc
   exact r.msf j y c hj hc
theorem OwnL.full' {K:Frag}{Z Z':Addr->Prop}{xs:List PV}{ws:List V}{f:List Addr} (h:OwnL K H Z xs om ws f):OwnL K H Z' xs om ws f:=OwnL.full xs ws f h
theorem OwnL.row {K:Frag}{Z:Addr->Prop}:∀ {xs:List PV}{ws:List V}{f:List Addr}{p:Nat}{cells:List PV},OwnL K H Z xs om ws f->xs[p]?=some (.lst cells)->∃ a us fc,ws[p]?=some (.ref a)/\H a=some (.lst us)/\a∈f/\OwnL K H Z cells om us fc/\(∀ b∈fc,b∈f)/\a∉fc /\
  ∀ (cells':List PV) (us':List V) (fc':List Addr),OwnL K (upd H a (.lst us')) (λ _=>True) cells' om us' fc'->(∀ b∈fc',b∈fc)->∃ f',(∀ b∈f',b∈f)/\OwnL K (upd H a (.lst us')) (λ _=>True) (xs.set p (.lst cells')) om ws f'
 | [],ws,f,p,cells,h,e=>by cases e
 | x::xs,ws,f,0,cells,h,e=>by
  cases e
  rw [OwnL] at h
  obtain ⟨v,s,f1,f2,rfl,rfl,dj,h1,h2⟩:=h
  obtain ⟨a,us,fc,rfl,ha,rfl,na,ol⟩:=h1.list (by decide:om≠0)
  rw [zfa] at ol
  refine ⟨a,us,fc,rfl,ha,by simp,ol,λ b hb=>by simp [hb],na,λ cells' us' fc' o hs=>⟨(a::fc')++f2,λ b hb=>?_,?_⟩⟩
  ·rcases jc9.mp hb with z | z
   ·rcases ja6.mp z with z | z
    ·simp [z]
    ·exact jb0 _ (ja1 _ (hs b z))
   ·exact ja7 _ z
  ·have n2:a∉f2:=dj a ja4
   rw [jh8,OwnL]
   refine ⟨.ref a,s,a::fc',f2,rfl,rfl,λ b hb=>?_,?_,?_⟩
   ·rcases ja6.mp hb with z | z
    ·rw [z];exact n2
    ·exact dj b (ja1 _ (hs b z))
   ·rw [Own]
    exact ⟨a,us',rfl,.inr ⟨by decide,fc',zqm,rfl,λ z=>na (hs a z),by rw [zfa];exact o⟩⟩
   ·exact (h2.full' (Z':=λ _=>True)).at trivial ⟨.l us,ha⟩ n2 λ _ _ n=>absurd trivial n
 | x::xs,ws,f,p + 1,cells,h,e=>by
  rw [OwnL] at h
  obtain ⟨v,s,f1,f2,rfl,rfl,dj,h1,h2⟩:=h
  obtain ⟨a,us,fc,e1,ha,hf,ol,hs,na,nx⟩:=h2.row (by simpa using e)
  refine ⟨a,us,fc,by simpa using e1,ha,ja7 _ hf,ol,λ b hb=>ja7 _ (hs b hb),na,λ cells' us' fc' o hs'=>?_⟩
  obtain ⟨f',s',o'⟩:=nx cells' us' fc' o hs'
  refine ⟨f1++f',λ b hb=>(jc9.mp hb).elim (λ z=>jb0 _ z) λ z=>ja7 _ (s' b z),?_⟩
  rw [jh9,OwnL]
  refine ⟨v,s,f1,f',rfl,rfl,λ b hb z=>dj b hb (s' b z),?_,o'⟩
  exact (Own.full (Z':=λ _=>True) x v f1 h1).at trivial ⟨.l us,ha⟩ (λ z=>dj a z hf) λ _ _ n=>absurd trivial n
theorem OwnL.setF {K:Frag}{Z:Addr->Prop}{y:PV}{d:Nat}{w:V}{fy:List Addr} (hy:Own K H Z y d w fy):∀ {xs:List PV}{ws:List V}{f:List Addr} (k:Nat),OwnL K H Z xs d ws f->(∀ b∈fy,b∉f)->∃ f',(∀ b∈f',b∈f\/b∈fy)/\OwnL K H Z (xs.set k y) d (ws.set k w) f'
 | [],ws,f,k,h,_=>by
  rw [OwnL] at h
  obtain ⟨rfl,rfl⟩:=h
  refine ⟨[],λ _ z=>(nomatch z),?_⟩
  rw [jo1,jo1,OwnL];exact ⟨rfl,rfl⟩
 | x::xs,ws,f,0,h,hd=>by
  rw [OwnL] at h
  obtain ⟨v,s,f1,f2,rfl,rfl,dj,h1,h2⟩:=h
  refine ⟨fy++f2,λ b hb=>(jc9.mp hb).elim .inr λ z=>.inl (ja7 _ z),?_⟩
  rw [jh8,jh8,OwnL]
  exact ⟨w,s,fy,f2,rfl,rfl,λ b hb z=>hd b hb (ja7 _ z),hy,h2⟩
 | x::xs,ws,f,k + 1,h,hd=>by
  rw [OwnL] at h
  obtain ⟨v,s,f1,f2,rfl,rfl,dj,h1,h2⟩:=h
  obtain ⟨f',hs,h'⟩:=h2.setF hy k λ b hb z=>hd b hb (ja7 _ z)
  refine ⟨f1++f',λ b hb=>(jc9.mp hb).elim (λ z=>.inl (jb0 _ z)) λ z=>(hs b z).elim (λ z=>.inl (ja7 _ z)) .inr,?_⟩
  rw [jh9,jh9,OwnL]
  exact ⟨v,s.set k w,f1,f',rfl,rfl,λ b hb hc=>(hs b hc).elim (dj b hb) λ z=>hd b z (jb0 _ hb),h1,h'⟩
theorem OwnL.rowP {K:Frag}{Z:Addr->Prop}:∀ {xs:List PV}{ws:List V}{f:List Addr}{p:Nat}{cells:List PV},OwnL K H Z xs om ws f->xs[p]?=some (.lst cells)->∃ a us fc,ws[p]?=some (.ref a)/\H a=some (.lst us)/\a∈f/\OwnL K H Z cells om us fc/\(∀ b∈fc,b∈f)/\a∉fc /\
  ∀ (cells':List PV) (us':List V) (fc' fy:List Addr),OwnL K (upd H a (.lst us')) (λ _=>True) cells' om us' fc'->(∀ b∈fc',b∈fc\/b∈fy)->(∀ b∈fy,b∉f)->∃ f',(∀ b∈f',b∈f\/b∈fy)/\OwnL K (upd H a (.lst us')) (λ _=>True) (xs.set p (.lst cells')) om ws f'
 | [],ws,f,p,cells,h,e=>by cases e
 | x::xs,ws,f,0,cells,h,e=>by
  cases e
  rw [OwnL] at h
  obtain ⟨v,s,f1,f2,rfl,rfl,dj,h1,h2⟩:=h
  obtain ⟨a,us,fc,rfl,ha,rfl,na,ol⟩:=h1.list (by decide:om≠0)
  rw [zfa] at ol
  refine ⟨a,us,fc,rfl,ha,by simp,ol,λ b hb=>by simp [hb],na,λ cells' us' fc' fy o hs hy=>⟨(a::fc')++f2,λ b hb=>?_,?_⟩⟩
  ·rcases jc9.mp hb with z | z
   ·rcases ja6.mp z with z | z
    ·simp [z]
    ·exact (hs b z).elim (λ z=>.inl (jb0 _ (ja1 _ z))) .inr
   ·exact .inl (ja7 _ z)
  ·have n2:a∉f2:=dj a ja4
   rw [jh8,OwnL]
   refine ⟨.ref a,s,a::fc',f2,rfl,rfl,λ b hb=>?_,?_,?_⟩
   ·rcases ja6.mp hb with z | z
    ·rw [z];exact n2
    ·exact (hs b z).elim (λ z=>dj b (ja1 _ z)) λ z w=>hy b z (ja7 _ w)
   ·rw [Own]
    exact ⟨a,us',rfl,.inr ⟨by decide,fc',zqm,rfl,λ z=>(hs a z).elim na λ z=>hy a z (jb0 _ ja4),by rw [zfa];exact o⟩⟩
   ·exact (h2.full' (Z':=λ _=>True)).at trivial ⟨.l us,ha⟩ n2 λ _ _ n=>absurd trivial n
 | x::xs,ws,f,p + 1,cells,h,e=>by
  rw [OwnL] at h
  obtain ⟨v,s,f1,f2,rfl,rfl,dj,h1,h2⟩:=h
  obtain ⟨a,us,fc,e1,ha,hf,ol,hs,na,nx⟩:=h2.rowP (by simpa using e)
  refine ⟨a,us,fc,by simpa using e1,ha,ja7 _ hf,ol,λ b hb=>ja7 _ (hs b hb),na,λ cells' us' fc' fy o hs' hy=>?_⟩
  obtain ⟨f',s',o'⟩:=nx cells' us' fc' fy o hs' λ b hb z=>hy b hb (ja7 _ z)
  refine ⟨f1++f',λ b hb=>(jc9.mp hb).elim (λ z=>.inl (jb0 _ z)) λ z=>(s' b z).elim (λ z=>.inl (ja7 _ z)) .inr,?_⟩
  rw [jh9,OwnL]
  refine ⟨v,s,f1,f',rfl,rfl,λ b hb z=>(s' b z).elim (dj b hb) λ z=>hy b z (jb0 _ hb),?_,o'⟩
  exact (Own.full (Z':=λ _=>True) x v f1 h1).at trivial ⟨.l us,ha⟩ (λ z=>dj a z hf) λ _ _ n=>absurd trivial n
def put2 (x:PV) (a b:Int) (y:PV):Option PV:=match x with
 | .lst rows=>(match ixN rows.length a with
  | some p=>(match rows[p]? with
   | some (.lst cells)=>(match ixN cells.length b with
    | some q=>some (.lst (rows.set p (.lst (cells.set q y))))
    | none=>none)
   | _=>none)
  | none=>none)
 | _=>none
def qao (i:Nat) (fi fj f:Fx):Fs:=λ ρ=>match f ρ with
 | .ok (y,e,ρ1)=>(match ρ1[i]? with
  | some (some (x,d))=>(match fi ρ1 with
   | .ok (.int a,_,ρ2)=>(match fj ρ2 with
    | .ok (.int b,_,ρ3)=>(match put2 x a b y with
     | some x'=>if d=om/\qa1 y=true then .nx (ρ3.set i (some (x',om))) else if d=om/\e=om then .nx (ρ3.set i (some (x',0))) else .no
     | none=>.no)
    | _=>.no)
   | _=>.no)
  | _=>.no)
 | _=>.no
theorem qeo {x x' y:PV}{a b:Int} (h:put2 x a b y=some x'):∃ rows p cells q,x=.lst rows/\ixN rows.length a=some p/\rows[p]?=some (.lst cells)/\ixN cells.length b=some q/\x'=.lst (rows.set p (.lst (cells.set q y))):=by
 unfold put2 at h
 split at h
 ·rename_i rows
  split at h
  ·rename_i p ep
   split at h
   ·rename_i cells er
    split at h
    ·rename_i q eq
     cases h
     exact ⟨rows,p,cells,q,rfl,ep,er,eq,rfl⟩
    ·cases h
   ·cases h
  ·cases h
 ·cases h
theorem KD.top (k:KD M H fps H' fps') (r:Rep M ρ σ H fps) {i:Nat}{a:Addr}{o:HO} (hm:M.Ms i=false) (ha:a∈fps i) (h:H a=some o):H' a=some o:=
 k.keep a o h λ ⟨j,hj,hb⟩=>r.dj i j (λ e=>by rw [e,hj] at hm;cases hm) a ha hb
theorem qkx {f fi fj:Fx}{vi vj:List Nat}{i:Nat}{D:Ends} (hal:∀ i,M.al i=[]) (hm:M.Ms i=false) (hq:tS M (qao i fi fj f) D σ H):tAsg (tE M f vs) (gSub (tOp (rIxL M.K) (tVar i) (tE M fi vi)) (tE M fj vj) qhw) D σ H:=by
 obtain ⟨ρ,fps,rep,q⟩:=hq
 refine ⟨ρ,fps,rep,?_⟩
 unfold qao at q
 cases ef:f ρ with
 | no=>rw [ef] at q;exact q
 | exc c=>rw [ef] at q;exact q.elim
 | ok p0=>
  obtain ⟨y,e,ρ1⟩:=p0
  rw [ef] at q
  intro w H1 fps1 fp k1 g1 rep1 o1 t1
  dsimp only at q
  cases ei:ρ1[i]? with
  | none=>rw [ei] at q;exact q.elim
  | some s1=>
   rw [ei] at q
   cases s1 with
   | none=>exact q.elim
   | some s1=>
    obtain ⟨x1,dx1⟩:=s1
    obtain ⟨v,hσ,_⟩:=rep1.own0 hal i _ _ ei
    dsimp only at q
    refine ⟨v,hσ,ρ1,fps1,rep1,?_⟩
    split at q
    ·rename_i a da ρ2 e1
     rw [e1]
     intro va H2 fps2 fpa k2 g2 rep2 oa ta
     rw [Own] at oa
     obtain ⟨rfl,rfl⟩:=oa
     split at q
     ·rename_i b db ρ3 e2
      split at q
      ·rename_i x' ex
       obtain ⟨rows,p,cells,jq,rfl,ep,er,eq,rfl⟩:=qeo ex
       split at q
       ·rename_i hc
        obtain ⟨rfl,hy⟩:=hc
        obtain ⟨rfl,oy⟩:=Own.flatA (Z':=λ _=>True) (d':=om) hy o1
        have e2i:ρ2[i]?=some (some (.lst rows,om)):=by rw [g2.1 i hm];exact ei
        obtain ⟨v2,hσ2,ol2⟩:=rep2.own0 hal i _ _ e2i
        rw [hσ] at hσ2
        cases hσ2
        obtain ⟨a0,ws,f2,rfl,ha2,hf2,na2,hol2⟩:=ol2.list (by decide:om≠0)
        rw [zfa] at hol2
        obtain ⟨r,us,fc,ew,hr,hrf,oc,sc,nrc,_⟩:=hol2.row er
        have hai:a0∈fps2 i:=by rw [hf2];exact ja4
        have hri2:r∈fps2 i:=by rw [hf2];exact ja1 _ hrf
        refine ⟨a0,ws,a,.ref r,rfl,rfl,.inl (.inl ha2),?_,ρ2,fps2,rep2,?_⟩
        ·unfold atI
         rw [hol2.length,ep]
         exact ew
        rw [e2]
        intro vb H3 fps3 fpb k3 g3 rep3 ob tb
        rw [Own] at ob
        obtain ⟨rfl,rfl⟩:=ob
        have e3:ρ3[i]?=some (some (.lst rows,om)):=by rw [g3.1 i hm];exact e2i
        obtain ⟨v3,hσ3,ol3⟩:=rep3.own0 hal i _ _ e3
        rw [hσ] at hσ3
        cases hσ3
        obtain ⟨a',ws3,f3,ev,ha3,hf3,na3,hol3⟩:=ol3.list (by decide:om≠0)
        cases ev
        have hai3:a0∈fps3 i:=by rw [hf3];exact ja4
        have ht:=k3.top rep2 hm hai ha2
        rw [ha3] at ht
        cases ht
        rw [zfa] at hol3
        obtain ⟨r',us3,fc3,ew3,hr3,hrf3,oc3,sc3,nrc3,nx⟩:=hol3.row er
        rw [ew] at ew3
        cases ew3
        have hri:r∈fps3 i:=by rw [hf3];exact ja1 _ hrf3
        refine ⟨r,us3,b,jq,rfl,rfl,hr3,by rw [oc3.length];exact eq,?_⟩
        have oy2:Own M.K H2 (λ _=>True) y om w []:=Own.move k2.keep (λ a ⟨_,_,h⟩=>⟨trivial,rep1.lsts h⟩) (λ _ _ n=>absurd trivial n) y om w [] (λ _ z=>nomatch z) oy
        have oy3:Own M.K H3 (λ _=>True) y om w []:=Own.move k3.keep (λ a ⟨_,_,h⟩=>⟨trivial,rep2.lsts h⟩) (λ _ _ n=>absurd trivial n) y om w [] (λ _ z=>nomatch z) oy2
        obtain ⟨fc',sc',oc'⟩:=(oc3.full' (Z':=λ _=>True)).set oy3 jq
        have oc2:OwnL M.K (upd H3 r (.lst (us3.set jq w))) (λ _=>True) (cells.set jq y) om (us3.set jq w) fc':=oc'.at trivial ⟨.l us3,hr3⟩ (λ z=>nrc3 (sc' r z)) λ _ _ n=>absurd trivial n
        obtain ⟨f',s',o'⟩:=nx _ _ fc' oc2 sc'
        have nea:a0≠r:=λ e=>na3 (by rw [e];exact hrf3)
        have dm:∀ b,H3 b≠none->(upd H3 r (.lst (us3.set jq w))) b≠none:=λ b h=>by
         by_cases eb:b=r
         ·rw [eb,zqm];simp
         ·rw [zqk eb];exact h
        have hsub:∀ b∈a0::f',b∈fps3 i:=λ b hb=>by
         rw [hf3]
         exact (ja6.mp hb).elim (λ z=>by rw [z];exact ja4) λ z=>ja1 _ (s' b z)
        have kw:KS M H3 fps3 (upd H3 r (.lst (us3.set jq w))) (λ j=>if j=i then a0::f' else fps3 j):=⟨λ b u hb n=>by rw [zqk (λ e=>n ⟨i,by rw [e];exact hri⟩)];exact hb,dm,λ j b hb=>by
         by_cases ej:j=i
         ·simp only [if_pos ej] at hb;exact .inl ⟨i,hsub b hb⟩
         ·simp only [if_neg ej] at hb;exact .inl ⟨j,hb⟩⟩
        refine q σ _ _ (((k1.ks.trans k2.ks).trans k3.ks).trans kw) (rep3.change hal e3 hσ (λ b u hb n=>by rw [zqk (λ e=>n (by rw [e];exact hri))];exact hb) dm hsub (λ _=>rfl) ?_)
        rw [Own]
        exact ⟨a0,ws,rfl,.inr ⟨by decide,f',by rw [zqk nea];exact ha3,rfl,λ z=>na3 (s' a0 z),o'.full'⟩⟩
       ·split at q
        ·rename_i hc
         obtain ⟨rfl,rfl⟩:=hc
         have oy:Own M.K H1 (λ _=>True) y om w fp:=Own.full _ _ _ o1
         have e2i:ρ2[i]?=some (some (.lst rows,om)):=by rw [g2.1 i hm];exact ei
         obtain ⟨v2,hσ2,ol2⟩:=rep2.own0 hal i _ _ e2i
         rw [hσ] at hσ2
         cases hσ2
         obtain ⟨a0,ws,f2,rfl,ha2,hf2,na2,hol2⟩:=ol2.list (by decide:om≠0)
         rw [zfa] at hol2
         obtain ⟨r,us,fc,ew,hr,hrf,oc,sc,nrc,_⟩:=hol2.row er
         have hai:a0∈fps2 i:=by rw [hf2];exact ja4
         refine ⟨a0,ws,a,.ref r,rfl,rfl,.inl (.inl ha2),?_,ρ2,fps2,rep2,?_⟩
         ·unfold atI
          rw [hol2.length,ep]
          exact ew
         rw [e2]
         intro vb H3 fps3 fpb k3 g3 rep3 ob tb
         rw [Own] at ob
         obtain ⟨rfl,rfl⟩:=ob
         have e3:ρ3[i]?=some (some (.lst rows,om)):=by rw [g3.1 i hm];exact e2i
         obtain ⟨v3,hσ3,ol3⟩:=rep3.own0 hal i _ _ e3
         rw [hσ] at hσ3
         cases hσ3
         obtain ⟨a',ws3,f3,ev,ha3,hf3,na3,hol3⟩:=ol3.list (by decide:om≠0)
         cases ev
         have hai3:a0∈fps3 i:=by rw [hf3];exact ja4
         have ht:=k3.top rep2 hm hai ha2
         rw [ha3] at ht
         cases ht
         rw [zfa] at hol3
         obtain ⟨r',us3,fc3,ew3,hr3,hrf3,oc3,sc3,nrc3,nx⟩:=hol3.rowP er
         rw [ew] at ew3
         cases ew3
         have hri:r∈fps3 i:=by rw [hf3];exact ja1 _ hrf3
         refine ⟨r,us3,b,jq,rfl,rfl,hr3,by rw [oc3.length];exact eq,?_⟩
         have n2:∀ b∈fp,¬ Zf M fps2 b:=λ b hb z=>by
          rcases z with z | ⟨j,z⟩
          ·exact t1.ndj b hb (.inl z)
          ·rcases k2.sub j b z with z | z
           ·exact t1.ndj b hb (.inr ⟨j,z⟩)
           ·obtain ⟨o,ho⟩:=Own.lsts y _ w fp oy b hb
            rw [ho] at z
            cases z
         have oy2:Own M.K H2 (λ _=>True) y om w fp:=Own.move k2.keep (λ a ⟨_,_,h⟩=>⟨trivial,rep1.lsts h⟩) (λ _ _ n=>absurd trivial n) y om w fp (λ a ha ⟨j,_,hj⟩=>t1.ndj a ha (.inr ⟨j,hj⟩)) oy
         have n3:∀ b∈fp,¬ Zf M fps3 b:=λ b hb z=>by
          rcases z with z | ⟨j,z⟩
          ·exact n2 b hb (.inl z)
          ·rcases k3.sub j b z with z | z
           ·exact n2 b hb (.inr ⟨j,z⟩)
           ·obtain ⟨o,ho⟩:=Own.lsts y _ w fp oy2 b hb
            rw [ho] at z
            cases z
         have oy3:Own M.K H3 (λ _=>True) y om w fp:=Own.move k3.keep (λ a ⟨_,_,h⟩=>⟨trivial,rep2.lsts h⟩) (λ _ _ n=>absurd trivial n) y om w fp (λ a ha ⟨j,_,hj⟩=>n2 a ha (.inr ⟨j,hj⟩)) oy2
         have nfp:∀ b∈fp,b∉f3:=λ b hb z=>n3 b hb (.inr ⟨i,by rw [hf3];exact ja1 _ z⟩)
         obtain ⟨fc',sc',oc'⟩:=(oc3.full' (Z':=λ _=>True)).setF oy3 jq λ b hb z=>nfp b hb (sc3 b z)
         have oc2:OwnL M.K (upd H3 r (.lst (us3.set jq w))) (λ _=>True) (cells.set jq y) om (us3.set jq w) fc':=oc'.at trivial ⟨.l us3,hr3⟩ (λ z=>(sc' r z).elim nrc3 λ z=>nfp r z hrf3) λ _ _ n=>absurd trivial n
         obtain ⟨f',s',o'⟩:=nx _ _ fc' fp oc2 sc' nfp
         have nea:a0≠r:=λ e=>na3 (by rw [e];exact hrf3)
         have dm:∀ b,H3 b≠none->(upd H3 r (.lst (us3.set jq w))) b≠none:=λ b h=>by
          by_cases eb:b=r
          ·rw [eb,zqm];simp
          ·rw [zqk eb];exact h
         have oF:Own M.K (upd H3 r (.lst (us3.set jq w))) (λ _=>True) (.lst (rows.set p (.lst (cells.set jq y)))) om (.ref a0) (a0::f'):=by
          rw [Own]
          exact ⟨a0,ws,rfl,.inr ⟨by decide,f',by rw [zqk nea];exact ha3,rfl,λ z=>(s' a0 z).elim na3 λ z=>n3 a0 z (.inr ⟨i,hai3⟩),by rw [zfa];exact o'⟩⟩
         have nz:∀ b∈a0::f',¬ Zf M (λ j=>if j=i then [] else fps3 j) b:=λ b hb z=>by
          have hz:Zf M fps3 b:=by
           rcases z with z | ⟨j,z⟩
           ·exact .inl z
           ·by_cases ej:j=i
            ·simp only [if_pos ej] at z;cases z
            ·simp only [if_neg ej] at z;exact .inr ⟨j,z⟩
          have hin:b∈fps3 i:=by
           rw [hf3]
           rcases ja6.mp hb with e | hb
           ·rw [e];exact ja4
           ·exact (s' b hb).elim (λ z=>ja1 _ z) λ z=>absurd hz (n3 b z)
          rcases z with z | ⟨j,z⟩
          ·exact rep3.zo i b hin z
          ·by_cases ej:j=i
           ·simp only [if_pos ej] at z;cases z
           ·simp only [if_neg ej] at z;exact rep3.dj i j (vd0 ej) b hin z
         have kw:KS M H3 fps3 (upd H3 r (.lst (us3.set jq w))) (λ j=>if j=i then [] else fps3 j):=⟨λ b u hb n=>by rw [zqk (λ e=>n ⟨i,by rw [e];exact hri⟩)];exact hb,dm,λ j b hb=>by
          by_cases ej:j=i
          ·simp only [if_pos ej] at hb;cases hb
          ·simp only [if_neg ej] at hb;exact .inl ⟨j,hb⟩⟩
         refine q σ _ _ (((k1.ks.trans k2.ks).trans k3.ks).trans kw) (rep3.change (f':=[]) hal e3 hσ (λ b u hb n=>by rw [zqk (λ e=>n (by rw [e];exact hri))];exact hb) dm (λ _ z=>nomatch z) (λ h=>by rw [hm] at h;cases h) ?_)
         exact Own.freeze (λ _ _=>trivial) _ _ _ _ nz oF
        ·exact q.elim
      ·exact q.elim
     ·exact q.elim
    ·exact q.elim
end
section
variable {M:Fm}{ρ ρ':Rho}{σ σ':St}{H H' H'':Hp}{fps fps' fps'':Fps}{vs vs':List Nat}
end
section
variable {is:List Nat}{M:Fm}{ρ ρ':Rho}{σ σ':St}{H H' H'':Hp}{fps fps' fps'':Fps}{vs vs':List Nat}{D:Ends}
end
section
variable {is:List Nat}{M:Fm}{ρ ρ':Rho}{σ σ':St}{H H' H'':Hp}{fps fps' fps'':Fps}{vs vs':List Nat}{D:Ends}
end
section
variable {M:Fm}{ρ ρ':Rho}{σ σ':St}{H H':Hp}{fps fps':Fps}{F F':Addr->Prop}{P P':List (Nat×V)}
end
section
variable {is:List Nat}{X:Cx}{M:Fm}{ρ ρ':Rho}{σ σ':St}{H H' H'':Hp}{fps fps' fps'':Fps}{vs vs':List Nat}{D:Ends}
def qqg:TSet:=λ o i v H Q=>qhw o i v H Q
def putX (x:PV) (k y:PV):Option PV:=match x,k with
 | .lst xs,.int i=>(match ixN xs.length i with
  | some j=>some (.lst (xs.set j y))
  | none=>none)
 | _,_=>none
def isL:PV->Bool
 | .lst _=>true
 | _=>false
def zyr (i:Nat) (fk f:Fx):Fs:=λ ρ=>match f ρ with
 | .ok (y,e,ρ1)=>(match ρ1[i]? with
  | some (some _)=>(match fk ρ1 with
   | .ok (k,_,ρ2)=>(match ρ2[i]? with
    | some (some (x,d))=>(match putX x k y with
     | some x'=>if d≠0/\qa1 y=true then .nx (ρ2.set i (some (x',d))) else if d≠0/\e=om/\isL x=true then .nx (ρ2.set i (some (x',1))) else .no
     | none=>.no)
    | _=>.no)
   | _=>.no)
  | _=>.no)
 | .exc c=>.exc c
 | .no=>.no
theorem Rep.poke {i:Nat}{x x':PV}{d:Nat}{a:Addr}{o':HO}{f':List Addr}{H0:Hp}{fps0:Fps} (hal:∀ i,M.al i=[]) (k0:KS M H0 fps0 H fps) (r:Rep M ρ σ H fps) (hi:ρ[i]?=some (some (x,d))) (hσ:σ[i]?=some (some (.ref a))) (ha:a∈fps i) (hs:∀ b∈f',b∈fps i)
  (o:Own M.K (upd H a o') (Zf M (λ j=>if j=i then f' else fps j)) x' d (.ref a) f'):KS M H0 fps0 (upd H a o') (λ j=>if j=i then f' else fps j)/\Rep M (ρ.set i (some (x',d))) σ (upd H a o') (λ j=>if j=i then f' else fps j):=by
 have dm:∀ b,H b≠none->upd H a o' b≠none:=λ b hb=>by
  by_cases eb:b=a
  ·rw [eb,zqm];simp
  ·rw [zqk eb];exact hb
 refine ⟨⟨λ b u hb n=>?_,λ b hb=>dm b (k0.dom b hb),λ j b hb=>?_⟩,r.change hal hi hσ (λ b u hb n=>?_) dm hs (λ h=>r.msf i _ _ h hi) o⟩
 ·have hb1:=k0.keep b u hb n
  rw [zqk]
  ·exact hb1
  ·rintro rfl
   rcases k0.sub i b ha with z | z
   ·exact n z
   ·rw [z] at hb;cases hb
 ·by_cases ej:j=i
  ·simp only [if_pos ej] at hb;exact k0.sub i b (hs b hb)
  ·simp only [if_neg ej] at hb;exact k0.sub j b hb
 ·rw [zqk]
  ·exact hb
  ·rintro rfl;exact n ha
theorem qkw {f fk:Fx}{vk:List Nat}{i:Nat} (hal:∀ i,M.al i=[]) (hm:M.Ms i=false) (hv:∀ i∈vs,M.Ms i=false) (hq:tS M (zyr i fk f) D σ H):tAsg (tE M f vs) (gSub (tVar i) (tE M fk vk) qqg) D σ H:=by
 obtain ⟨ρ,fps,rep,q⟩:=hq
 refine ⟨ρ,fps,rep,?_⟩
 unfold zyr at q
 cases ef:f ρ with
 | no=>rw [ef] at q;exact q
 | exc c=>rw [ef] at q;exact λ H' fps' k=>q _ H' fps' k.ks
 | ok p=>
  obtain ⟨y,e,ρ1⟩:=p
  rw [ef] at q
  intro w H1 fps1 fp k1 g1 rep1 o1 t1
  dsimp only at q
  cases e1:ρ1[i]? with
  | none=>rw [e1] at q;exact q.elim
  | some s1=>
   rw [e1] at q
   cases s1 with
   | none=>exact q.elim
   | some p1=>
   obtain ⟨x1,d1⟩:=p1
   dsimp only at q
   obtain ⟨v0,hσ,_⟩:=rep1.own i _ _ e1
   refine ⟨v0,hσ,ρ1,fps1,rep1,?_⟩
   cases ek:fk ρ1 with
   | no=>rw [ek] at q;exact q.elim
   | exc c=>rw [ek] at q;exact q.elim
   | ok p2=>
    obtain ⟨k,ek',ρ2⟩:=p2
    rw [ek] at q
    intro kv H2 fps2 f2 k2 g2 rep2 o2 t2
    dsimp only at q
    cases e2:ρ2[i]? with
    | none=>rw [e2] at q;exact q.elim
    | some s2=>
     rw [e2] at q
     cases s2 with
     | none=>exact q.elim
     | some p3=>
      obtain ⟨x,d⟩:=p3
      dsimp only at q
      cases ep:putX x k y with
      | none=>rw [ep] at q;exact q.elim
      | some x'=>
       rw [ep] at q
       dsimp only at q
       split at q
       ·rename_i hc
        obtain ⟨hd,hy⟩:=hc
        obtain ⟨v1,hσ1,ox⟩:=rep2.own0 hal i _ _ e2
        rw [hσ] at hσ1
        cases hσ1
        have k12:KS M H fps H2 fps2:=k1.ks.trans k2.ks
        unfold putX at ep
        split at ep
        ·rename_i xs n
         split at ep
         ·rename_i j ej
          cases ep
          rw [Own] at o2
          obtain ⟨rfl,_⟩:=o2
          obtain ⟨a,ws,fc,rfl,ha,hfp,nac,hol⟩:=ox.list hd
          have hai:a∈fps2 i:=by rw [hfp];exact ja4
          have ow:Own M.K H2 (Zf M fps2) y (pd d) w []:=(Own.flatA (d':=pd d) hy (k2.stay rep1 hv o1 t1.ndj)).2
          obtain ⟨fc',hs',hset⟩:=hol.set ow j
          have inI:∀ b,b∈a::fc'->b∈fps2 i:=λ b hb=>(ja6.mp hb).elim (λ z=>by rw [z];exact hai) λ z=>by rw [hfp];exact ja1 _ (hs' b z)
          have nz:∀ b,Zf M (λ j=>if j=i then a::fc' else fps2 j) b->Zf M fps2 b:=λ b h=>by
           rcases h with z | ⟨j,z⟩
           ·exact .inl z
           ·by_cases ej:j=i
            ·simp only [if_pos ej] at z;exact .inr ⟨i,inI b z⟩
            ·simp only [if_neg ej] at z;exact .inr ⟨j,z⟩
          refine ⟨a,ws,n,j,rfl,rfl,ha,by rw [hol.length];exact ej,?_⟩
          have pk:=rep2.poke (o':=.lst (ws.set j w)) (x':=.lst (xs.set j y)) (f':=a::fc') hal k12 e2 hσ hai inI (by
           rw [Own]
           exact ⟨a,_,rfl,.inr ⟨hd,fc',zqm,rfl,λ z=>nac (hs' a z),hset.at (.inr ⟨i,hai⟩) ⟨.l ws,ha⟩ (λ z=>nac (hs' a z)) λ b _ n z=>n (nz b z)⟩⟩)
          exact q σ _ _ pk.1 pk.2
         ·cases ep
        ·cases ep
       ·split at q
        ·rename_i hc
         obtain ⟨hd,rfl,hx⟩:=hc
         obtain ⟨v1,hσ1,ox⟩:=rep2.own0 hal i _ _ e2
         rw [hσ] at hσ1
         cases hσ1
         cases x with
         | lst xs=>
          unfold putX at ep
          cases k with
          | int n=>
           dsimp only at ep
           split at ep
           ·rename_i j ej
            cases ep
            rw [Own] at o2
            obtain ⟨rfl,_⟩:=o2
            obtain ⟨a,ws,fc,rfl,ha,hfp,nac,hol⟩:=ox.list hd
            have hai:a∈fps2 i:=by rw [hfp];exact ja4
            have oy:=k2.stay rep1 hv o1 t1.ndj
            have n2:∀ b∈fp,¬ Zf M fps2 b:=λ b hb z=>by
             rcases z with z | ⟨j,z⟩
             ·exact t1.ndj b hb (.inl z)
             ·rcases k2.sub j b z with z | z
              ·exact t1.ndj b hb (.inr ⟨j,z⟩)
              ·obtain ⟨o,ho⟩:=Own.lsts y _ w fp o1 b hb
               rw [ho] at z
               cases z
            have hafp:a∉fp:=λ z=>n2 a z (.inr ⟨i,hai⟩)
            have hst:∃ j,a∈fps j:=⟨i,by have:=(k1.trans k2).same i hm;rw [<- this];exact hai⟩
            have rw2:Rep (M.plus fp) ρ2 σ H2 fps2:=rep.wide (λ i j hj=>by rw [hal i] at hj;cases hj) (k1.trans k2) (g1.trans g2) rep2 λ b hb=>⟨t1.new b hb,by obtain ⟨o,ho⟩:=Own.lsts y _ w fp oy b hb;rw [ho];simp,n2 b hb⟩
            have h2:∀ b∈fp,M.H₀ b=none/\¬ M.Zo b:=λ b hb=>⟨rep.h0' (t1.new b hb),λ z=>n2 b hb (.inl z)⟩
            let Z:Addr->Prop:=Zf M (λ j=>if j=i then [a] else fps2 j)
            have zsub:∀ b,Z b->Zf M fps2 b:=λ b h=>by
             rcases h with z | ⟨j,z⟩
             ·exact .inl z
             ·by_cases ej:j=i
              ·simp only [if_pos ej] at z
               rw [jc3.mp z]
               exact .inr ⟨i,hai⟩
              ·simp only [if_neg ej] at z;exact .inr ⟨j,z⟩
            have nf:∀ b∈fc,¬ Z b:=λ b hb z=>by
             have hbi:b∈fps2 i:=by rw [hfp];exact ja1 _ hb
             rcases z with z | ⟨j,z⟩
             ·exact rep2.zo i b hbi z
             ·by_cases ej:j=i
              ·simp only [if_pos ej] at z
               rw [jc3.mp z] at hb;exact nac hb
              ·simp only [if_neg ej] at z;exact rep2.dj i j (vd0 ej) b hbi z
            have za:Z a:=.inr ⟨i,by simp⟩
            have u1:=OwnL.freeze (Z':=Z) zsub xs _ ws fc nf hol
            have u2:=Own.freeze (Z':=Z) (λ b _=>trivial) y _ w fp (λ b hb z=>n2 b hb (zsub b z)) (Own.full (Z':=λ _=>True) y w fp oy)
            obtain ⟨f',hs',u3⟩:=(u1.at za ⟨.l ws,ha⟩ (λ z=>nomatch z) λ _ _ n=>n).set (u2.at (o:=.lst (ws.set j w)) za ⟨.l ws,ha⟩ (λ z=>nomatch z) λ _ _ n=>n) j
            obtain rfl:f'=[]:=List.eq_nil_iff_forall_not_mem.mpr λ b hb=>nomatch hs' b hb
            refine ⟨a,ws,n,j,rfl,rfl,ha,by rw [hol.length];exact ej,?_⟩
            refine q σ _ _ ((k1.ks.trans k2.ks).write (i:=i) (f':=[]) (fp:=fp) hst λ b hb=>?_) (rw2.rewrite hal e2 hσ ha hfp (λ z=>nomatch z) (λ b hb=>nomatch hb) (by decide) (λ h=>by rw [hm] at h;cases h) h2 ?_)
            ·rcases ja6.mp hb with z | z
             ·exact .inl (by rw [z];exact hai)
             ·cases z
            ·rw [qbu]
             exact u3
           ·cases ep
          | _=>cases ep
         | _=>cases hx
        ·exact q.elim
end
section
variable {X:Cx}{W:St->Nat->Hp->Prop}
end
section
variable {X:Cx}{pins pins1:List (Addr×Obj)}{σ:St}{H:Hp}{s:va3}{e:va2->va3->Prop}
end
section
variable {M:Model}{A:vc0}{E:va2->va3->Prop}{K:Frag}
end
section
variable {X:Cx}{pins:List (Addr×Obj)}{σ:St}{H H1:Hp}{s:va3}{B:Heap}{a C:Addr}{a0:va2}{c:Nat}
end
section
variable {is:List Nat}{X:Cx}{M:Fm}{ρ ρ':Rho}{σ σ':St}{H H' H'':Hp}{fps fps' fps'':Fps}{vs vs':List Nat}{D:Ends}
end
section
variable {X:Cx}{M:Fm}{ρ:Rho}{σ:St}{H:Hp}{fps:Fps}
end
def qfz:Expr->Bool
 | .ListComp _ _ _ _=>true
 | .SetComp _ _ _ _=>true
 | .DictComp _ _ _ _ _=>true
 | _=>false
def qqs:Expr->Bool
 | .Tuple _ _ _=>true
 | .List _ _=>true
 | _=>false
def zqs (d:Stmt->Option Fs):List Stmt->Option Fs
 | []=>some sNil
 | [s]=>d s
 | s::r=>match d s,zqs d r with
  | some f,some g=>some (sSeq f g)
  | _,_=>none
def locB (S:Sx) (x:Str):Bool:=zww S.sc x .local || zww S.sc x .cell
def qfb (S:Sx) (i:Nat):Bool:=(decide (i≠0) || !S.msF 0) && !S.pn.contains i
def qoc (iw:Iw) (asg:PV->Rho->Option Rho) (body:Fs):Fs:=match iw with
 | .rng en fa _=>zvx en fa asg body
 | .seq f vs=>zku f vs asg body
 | .vw v fa vs=>qdc v fa vs asg body
def zbi (S:Sx):List Expr->Option (List Nat)
 | []=>some []
 | .Name x _::r=>match S.slot x,zbi S r with
  | some i,some is=>if locB S x=true/\qfb S i=true/\S.msF i=false then some (i::is) else none
  | _,_=>none
 | _=>none
def denA (S:Sx):Expr->Option D2
 | .Dict [] [] _=>some (bDct,[])
 | e=>den 60 S e
def qpy (S:Sx) (x at':Str) (apos:Pos) (e:Expr) (cpos:Pos):Option Fs:=if at' = "append" then (match S.slot x,den 60 S e with
   | some i,some (f,vs)=>if S.msF i=false/\(apos.endLine == cpos.line)=true then some (sApp i f vs) else none
   | _,_=>none) else none
def qqz (_:Sx) (_:Expr) (_:Str) (_:Pos) (_:Expr) (_:Pos):Option Fs:=none
def denX (S:Sx):Expr->Option Fs
 | .Call fn es [] p1=>(match fn with
  | .Attribute o at' apos=>(match nmE o,es with
   | some x,[e]=>qpy S x at' apos e p1
   | none,[e]=>qqz S o at' apos e p1
   | _,_=>none)
  | .Name x p=>(match den 60 S (.Call (.Name x p) es [] p1) with
   | some (f,_)=>some (zve f)
   | none=>none)
  | _=>none)
 | _=>none
section
variable {X:Cx}{M:Fm}{a b:Expr}{es:List Expr}{fa:Fa}{f g:Fx}{vs vs':List Nat}{pos:Pos}
end
def denO (S:Sx) (e:Expr):Option D2:=den 60 S e
def qkc (S:Sx) (t k e:Expr):Option Fs:=match t with
 | .Name x _=>(match ixC k with
  | some k=>(match S.slot x,den 60 S e with
    | some i,some (f,vs)=>some (sPut i k f)
    | _,_=>none)
  | none=>(match S.slot x,den 60 S k,denO S e with
    | some i,some (fk,_),some (f,_)=>if S.msF i=false/\zbr k=true then some (zyr i fk f) else none
    | _,_,_=>none))
 | .Subscript b i _=>(match nmE b with
  | some x=>(match S.slot x,den 60 S i,den 60 S k,denO S e with
    | some s,some (fi,_),some (fj,_),some (f,_)=>if S.msF s=false/\zbr i=true/\zbr k=true then some (qao s fi fj f) else none
    | _,_,_,_=>none)
  | none=>none)
 | _=>none
def qkf (S:Sx) (t e:Expr):Option Fs:=match t with
 | .Tuple es k p=>(match zbi S es,den 60 S e with
   | some is,some (f,vs)=>if qfz e=false/\qqs e=false then some (sUnp (asgT is) f vs) else none
   | _,_=>none)
 | .Name x _=>(match S.slot x,denA S e with
   | some i,some (f,vs)=>if locB S x=true/\qfb S i=true then some (sSet (S.msF i) i f vs) else none
   | _,_=>none)
 | .Subscript t k _=>qkc S t k e
 | _=>none
def qa4 (d:Stmt->Option Fs) (S:Sx) (body:List Stmt):Option Fs:=zqs d body
def qke (d:Stmt->Option Fs) (S:Sx) (t it:Expr) (body:List Stmt):Option Fs:=match t with
 | .Name x p=>(match S.slot x,denI (den 60 S) S it,qa4 d S body with
    | some i,some iw,some b=>if locB S x=true/\qfb S i=true/\S.msF i=false/\twOk (.Name x p) iw=true then some (qoc iw (asgN i) b) else none
    | _,_,_=>none)
 | .Tuple es k p=>(match zbi S es,denI (den 60 S) S it,qa4 d S body with
   | some is,some iw,some b=>some (qoc iw (asgT is) b)
   | _,_,_=>none)
 | _=>none
def qkb (S:Sx) (e:Expr):Option Fs:=match nmE e with
 | some x=>(match S.slot x with
   | some i=>if S.msF i=true then none else some (zjj i)
   | none=>none)
 | none=>(match den 60 S e with
   | some (f,vs)=>some (sRet f)
   | none=>none)
def qpz (_:Sx) (_:Expr) (_:Operator) (_:Expr):Option Fs:=none
def Sx.bare (S:Sx):Sx:={ S with ms:=[] }
def denT (S:Sx) (c:Expr):Option D2:=(den 60 S c).or (den 60 S.bare c)
def zyi (d:Stmt->Option Fs) (S:Sx):Stmt->Option Fs
 | .Raise _ _ _=>some sNo
 | .Expr v _=>denX S v
 | .Assign [t] e _=>qkf S t e
 | .If c a b _=>match denT S c,zqs d a,zqs d b with
  | some (f,_),some s,some t=>some (sIf (bT f) s t)
  | _,_,_=>none
 | .For t it body [] _=>qke d S t it body
 | .AugAssign t op e _=>qpz S t op e
 | .Return (some e) _=>qkb S e
 | _=>none
def qgf:Nat->Sx->Stmt->Option Fs
 | 0,_,_=>none
 | n + 1,S,st=>some ((zyi (qgf n S) S st).getD sNo)
section
variable {X:Cx}{P:vb0}{w:vc1}{K:Frag}{mg:Str->Option va2}{base:Heap}{lvl:Nat}{S:Sx}{Wx:St->Nat->Hp->Prop}{M:Fm}{f g:Fx}{vs vs':List Nat}{σ:St}{H:Hp}{Q:VK}
structure SM (X:Cx) (M:Fm) (K:Frag) (S:Sx) (Wx:St->Nat->Hp->Prop):Prop where
 ms:MS M K S Wx
 al:∀ i,M.al i=[]
 io:M.io≠none->S.msF 0=true
 pn:∀ p∈M.pn,p.1∈S.pn
 fn:∀ x,X.fn x=true
 nd:S.N.Nodup
 st:X.stack=X.env::X.outer
 fr:X.env.frame=some X.env.locals
def qa9 (P:vb0) (w:vc1) (K:Frag) (mg:Str->Option va2) (base:Heap) (lvl:Nat) (S:Sx) (st:Stmt) (f:Fs):Prop:=∀ {Wx} X M,XS X P w K mg base lvl S Wx->SM X M K S Wx->PS X st (tS M f)
theorem zki {d:Stmt->Option Fs} (hd:∀ st f,d st=some f->qa9 P w K mg base lvl S st f):∀ (sts:List Stmt) (f:Fs),zqs d sts=some f->∀ {Wx} X M,XS X P w K mg base lvl S Wx->SM X M K S Wx->PSs X sts (tS M f)
 | [],f,h=>by cases h;exact λ X M xs sm=>qep qlw λ D σ H q=>qnq q
 | [s],f,h=>λ X M xs sm=>qlv (hd s f h X M xs sm)
 | s::s'::r,f,h=>by
  unfold zqs at h
  split at h
  ·rename_i f1 f2 h1 h2
   cases h
   exact λ X M xs sm=>qep (qh0 (hd s f1 h1 X M xs sm) (zki hd (s'::r) f2 h2 X M xs sm)) λ D σ H q=>qnm q
  ·cases h
theorem zmt {x:Str}{i:Nat} (h:S.slot x=some i):S.N[i]?=some x:=by
 unfold Sx.slot at h
 split at h
 ·exact zjy h
 ·cases h
theorem qfm {x:Str} (h:locB S x=true):Loc S.sc x:=by
 unfold locB at h
 rw [jg5] at h
 exact h.elim (λ h=>.inl (zwf h)) λ h=>.inr (zwf h)
theorem zjs {i:Nat} (h:qfb S i=true) (sm:SM X M K S Wx):M.Fre i:=by
 unfold qfb at h
 rw [ja5,jg5] at h
 refine ⟨λ hio=>?_,λ p hp e=>?_⟩
 ·rcases h.1 with h | h
  ·simpa using h
  ·rw [sm.io hio] at h;cases h
 ·have z:=sm.pn p hp
  rw [e] at z
  have h2:=h.2
  rw [List.contains_iff_mem.mpr z] at h2
  cases h2
theorem qk6 {e:Expr}{t:Option Expr}{l:Nat}{env:Env} (h:qfz e=false):swapsWith e t l env=pure false:=by
 cases e with
 | ListComp _ _ _ _=>cases h
 | SetComp _ _ _ _=>cases h
 | DictComp _ _ _ _ _=>cases h
 | _=>rfl
theorem qit (GX:GX K mg S.xc) (G:GS P w K mg base lvl S.Γ) (Gm:GSm P w K mg base lvl S.Γm) (hS:∀ i,∀ j∈S.alF i,S.msF j=false) {n:Nat}{elt:Expr}{gs:List Comprehension}{scope:ve5}{pos:Pos} (h:den (n + 1) S (.ListComp elt gs scope pos)=some (f,vs)):
  ∃ tg ys asg it ifs iw t g vE,gs=[⟨tg,it,ifs,0⟩]/\CompParts P w K mg base lvl S scope tg ys asg it elt ifs iw t g vE/\f=qg0 iw ys.length asg t g/\vs=iw.vs++vE.filter (λ i=>decide (i < S.N.length)):=by
 have hd:∀ e f vs,den n S e=some (f,vs)->Good P w K mg base lvl S e f vs:=λ e f vs h=>zhk GX G Gm n S e f vs rfl rfl rfl hS h
 replace h:zvs (den n) S (.ListComp elt gs scope pos)=some (f,vs):=h
 match gs,h with
 | [],h=>simp [zvs] at h
 | _::_::_,h=>simp [zvs] at h
 | [⟨tg,it,ifs,a⟩],h=>
  by_cases ha:a=0
  ·subst ha
   replace h:(match tgA S.N.length tg,denI (den n S) S it with
    | some (xs,asg),some iw=>if zfp S scope xs iw.vs=true/\twOk tg iw=true then (match qcn (den n (zxa S scope xs iw.vs)) ifs,den n (zxa S scope xs iw.vs) elt with
     | some t,some (g,vE)=>some (qg0 iw xs.length asg t g,iw.vs++vE.filter (λ i=>decide (i < S.N.length)))
     | _,_=>none) else none
    | _,_=>none)=some (f,vs):=h
   split at h
   ·rename_i ys asg iw ht hi
    split at h
    ·rename_i hc
     split at h
     ·rename_i t g vE h1 h2
      cases h
      have ck:=qkj hc.1
      have giw:=zfm hd (zfl n S) G.1 hi
      have hS2:∀ i,∀ j∈(zxa S scope ys iw.vs).alF i,(zxa S scope ys iw.vs).msF j=false:=λ i j hj=>by
       rw [zfu] at hj
       show S.msF j=false
       split at hj
       ·exact hS i j hj
       ·split at hj
        ·exact giw.1 j hj
        ·cases hj
      have hd2:∀ e f vs,den n (zxa S scope ys iw.vs) e=some (f,vs)->Good P w K mg base lvl (zxa S scope ys iw.vs) e f vs:=λ e f vs h=>zhk GX G Gm n _ e f vs rfl rfl rfl hS2 h
      exact ⟨tg,ys,asg,it,ifs,iw,t,g,vE,rfl,⟨ht,hc.2,ck,giw,hd2 _ _ _ h2,zhl hd2 h1⟩,rfl,rfl⟩
     ·cases h
    ·cases h
   ·cases h
  ·simp [zvs,ha] at h
theorem zzy (xs:XS X P w K mg base lvl S Wx):PassesOwn (vb4 X.prog X.w) X.A X.env X.xe:=xs.po
theorem zbh {es:List Expr}{is:List Nat} (h:zbi S es=some is) (xs:XS X P w K mg base lvl S Wx) (sm:SM X M K S Wx):PGs X es (zmc is)/\(vd8 es X.env).length=is.length/\(vd8 es X.env).findIdx? (·.1)=none/\∀ i∈is,Bd M [] i:=by
 induction es generalizing is with
 | nil=>cases h;exact ⟨qey,rfl,rfl,λ _ z=>nomatch z⟩
 | cons e es ih=>
  unfold zbi at h
  split at h
  ·cases ‹_::_=[]›
  ·rename_i x px r heq
   cases heq
   split at h
   ·rename_i i js hi hr
    split at h
    ·rename_i hc
     cases h
     obtain ⟨h1,h2,h3,h4⟩:=ih hr
     have hN:X.N.Nodup:=by rw [xs.N];exact sm.nd
     have hi':X.N[i]?=some x:=by rw [xs.N];exact zmt hi
     have hx:Loc X.env.scope x:=by rw [xs.sc];exact qfm hc.1
     refine ⟨qbs (zmy hN hi' hx (.inl (sm.fn x))) h1 rfl,by rw [vd8,ja9,h2,ja9] <;> (intros;contradiction),?_,λ j hj=>?_⟩
     ·rw [vd8,jp4,h3] <;> first | rfl | (intros;contradiction)
     ·rcases ja6.mp hj with z | z
      ·rw [z];exact ⟨by rw [sm.ms.ms];exact hc.2.2,zjs hc.2.1 sm,sm.al i,sm.ms.als⟩
      ·exact h4 j z
    ·cases h
   ·cases h
  ·cases h
def Fm.bare (M:Fm):Fm:={ M with Ms:=λ _=>false,H₀:=λ _=>none,io:=none,pn:=[] }
theorem Rep.bare {ρ:Rho}{fps:Fps} (r:Rep M ρ σ H fps):Rep M.bare ρ σ H fps where
 own:=r.own
 non:=r.non
 dj:=r.dj
 zo:=r.zo
 fr:=λ _ _ _ _=>rfl
 zd:=r.zd
 len:=r.len
 msf:=λ _ _ _ h=>nomatch h
 h0:=λ _ h=>absurd rfl h
 iov:=And.intro (λ _ h=>nomatch h) (λ _ h=>nomatch h)
theorem qkt {fb:Fb}{Q:Bool->Hp->Prop} (hq:tT M fb σ H Q):tT M.bare fb σ H Q:=by
 obtain ⟨ρ,fps,rep,q⟩:=hq
 refine ⟨ρ,fps,rep.bare,?_⟩
 have gr:∀ H' fps',KD M.bare H fps H' fps'->∀ a o,H a=some o->H' a=some o:=λ H' fps' k a o h=>k.keep a o h λ ⟨_,z,_⟩=>nomatch z
 cases e:fb ρ with
 | ok p=>
  obtain ⟨b,ρ'⟩:=p
  rw [e] at q
  intro H' fps' k ag _
  have e1:ρ'=ρ:=List.ext_getElem? λ i=>ag.1 i rfl
  subst e1
  exact q H' fps (KD.grow (gr H' fps' k)) Agr.refl (rep.grow (gr H' fps' k))
 | exc c=>
  rw [e] at q
  intro H' fps' k
  exact q H' fps (KD.grow (gr H' fps' k))
 | no=>rw [e] at q;exact q
theorem qmp (GX:GX K mg S.xc) (G:GS P w K mg base lvl S.Γ) (Gm:GSm P w K mg base lvl S.Γm) (hS:∀ i,∀ j∈S.alF i,S.msF j=false) {c:Expr}{f:Fx}{vs:List Nat} (h:denT S c=some (f,vs)) (xs:XS X P w K mg base lvl S Wx) (m:MS M K S Wx):PT X c (tT M (bT f)):=by
 unfold denT at h
 cases e:den 60 S c with
 | some p=>
  rw [e] at h
  cases h
  exact ((zhk GX G Gm 60 S c f vs rfl rfl rfl hS e).2.2 X M xs m).2
 | none=>
  rw [e] at h
  have h2:den 60 S.bare c=some (f,vs):=h
  have gd:=(zhk (S:=S) GX G Gm 60 S.bare c f vs rfl rfl rfl (λ _ _ _=>rfl) h2).2.2 X M.bare ⟨xs.prog,xs.w,xs.K,xs.mg,xs.base,xs.N,xs.sc,xs.calm,xs.room,xs.po,xs.ps,xs.rs⟩ ⟨m.K,rfl,m.al,λ _ _ _=>rfl,m.W,λ _ h=>nomatch h⟩
  exact zgl gd.2 λ σ H Q q=>qkt q
theorem zmf {d:Stmt->Option Fs}{body:List Stmt}{f:Fs} (hd:∀ e f vs,den 60 S e=some (f,vs)->Good P w K mg base lvl S e f vs) (ih:∀ st f,d st=some f->qa9 P w K mg base lvl S st f) (h:qa4 d S body=some f):∀ {Wx} X M,XS X P w K mg base lvl S Wx->SM X M K S Wx->PSs X body (tS M f):=by
 exact zki ih _ _ h
theorem qmr {e:Expr}{f:Fx}{vs:List Nat} (hd:∀ e f vs,den 60 S e=some (f,vs)->Good P w K mg base lvl S e f vs) (h:denO S e=some (f,vs)):Good P w K mg base lvl S e f vs:=hd _ _ _ h
theorem qa3 (GX:GX K mg S.xc) (G:GS P w K mg base lvl S.Γ) (Gm:GSm P w K mg base lvl S.Γm) (hS:∀ i,∀ j∈S.alF i,S.msF j=false) {d:Stmt->Option Fs} (ih:∀ (st:Stmt) (f:Fs),d st=some f->qa9 P w K mg base lvl S st f):∀ (st:Stmt) (f:Fs),zyi d S st=some f->qa9 P w K mg base lvl S st f:=by
 have hd:∀ e f vs,den 60 S e=some (f,vs)->Good P w K mg base lvl S e f vs:=λ e f vs h=>zhk GX G Gm 60 S e f vs rfl rfl rfl hS h
 have hdO:∀ e f vs,denO S e=some (f,vs)->Good P w K mg base lvl S e f vs:=λ e f vs h=>qmr hd h
 have hdA:∀ e f vs,denA S e=some (f,vs)->Good P w K mg base lvl S e f vs:=λ e f vs h=>by
  unfold denA at h
  split at h
  ·cases h
   exact zxd (λ _ z=>nomatch z) rfl (λ _ _=>rfl) λ X M xs m=>qn6
  ·exact hd _ _ _ h
 intro st f h
 have core:True->qa9 P w K mg base lvl S st f:=λ _=>by
  unfold zyi at h
  split at h
  ·cases h
   intro Wx X M xs sm pins s σ H D I q
   exact (qbq pins s σ H D I (qnp (t:=qd8) q))
  ·rename_i v pos
   unfold denX at h
   split at h
   ·rename_i fn es cpos
    split at h
    ·rename_i o at' apos
     split at h
     ·rename_i x e hx
      obtain ⟨px,rfl⟩:=zgq hx
      unfold qpy at h
      split at h
      ·rename_i hat
       subst hat
       split at h
       ·rename_i i f1 v1 hi he
        split at h
        ·rename_i hc
         cases h
         have g:=hd _ _ _ he
         intro Wx X M xs sm
         have hb:=qqm (X:=X) (cpos:=cpos) PySem.F.plainAttrs_list PySem.F.slot_list_append PySem.F.type_list_append zgt (xs.var (pos:=px) hi) (zvc (g.2.2 X M xs sm.ms).1 zpt (zxe (zqp g.2.1))) rfl (qdh g.2.1 X.env cpos) hc.2 (zxe (zqp g.2.1)) rfl
         refine zwo (qeq hb rfl) λ D σ H q=>?_
         have:=qnr (D:=D) sm.al (sm.ms.v g.1) (by rw [sm.ms.ms];exact hc.1) q
         rw [sm.ms.k xs] at this
         exact this
        ·cases h
       ·cases h
      ·cases h
     ·rename_i e hx
      cases h
     ·cases h
    ·rename_i x p
     split at h
     ·rename_i f1 v1 he
      cases h
      intro Wx X M xs sm
      exact zwo (qeq ((hd _ _ _ he).2.2 X M xs sm.ms).1 rfl) λ D σ H q=>qky q
     ·cases h
    ·cases h
   ·cases h
  ·rename_i t e pos
   unfold qkf at h
   split at h
   ·rename_i es k p
    split at h
    ·rename_i is f1 v1 hs he
     split at h
     ·rename_i hc
      cases h
      have g:=hd _ _ _ he
      intro Wx X M xs sm
      obtain ⟨h1,h2,h3,h4⟩:=zbh hs xs sm
      have mk:M.K=X.K:=sm.ms.k xs
      refine zwo (qbr (g.2.2 X M xs sm.ms).1 (qez xs.calm h1 h2 h3) ?_ ?_ ?_) λ D σ H q=>?_
      ·cases e <;> first | rfl | (cases hc.1)
      ·cases e <;> first | rfl | (cases hc.2)
      ·rfl
      ·have:=qnl sm.al (sm.ms.v g.1) (qmj h4) q
       rw [mk] at this
       exact this
     ·cases h
    ·cases h
   ·rename_i x px
    split at h
    ·rename_i i f1 v1 hi he
     split at h
     ·rename_i hc
      cases h
      have g:=hdA _ _ _ he
      intro Wx X M xs sm
      have hN:X.N.Nodup:=by rw [xs.N];exact sm.nd
      have hi':X.N[i]?=some x:=by rw [xs.N];exact zmt hi
      have hx:Loc X.env.scope x:=by rw [xs.sc];exact qfm hc.1
      have mi:M.Ms i=S.msF i:=by rw [sm.ms.ms]
      cases hcp:qfz e with
      | false=>exact zwo (qjr hN hi' hx (g.2.2 X M xs sm.ms).1 (qk6 hcp) (.inl (sm.fn x))) λ D σ H q=>qjj sm.al (sm.ms.v g.1) mi (zjs hc.2 sm) q
      | true=>
       cases e with
       | ListComp elt gs scope cpos=>
        obtain ⟨tg,ys,asg,it,ifs,iw,t,g2,vE,rfl,cp,rfl,rfl⟩:=qit GX G Gm hS (show den 60 S _=_ from he)
        obtain ⟨wi,gg,h1,h2,h3,h4,h5,h6⟩:=zmi (pos:=cpos) cp xs sm.ms
        refine qoj (qdd hN hi' hx (.inl (sm.fn x)) h2 xs.calm h1 h3 h4 h5 (zfj (n:=0) (f:=g2) (vs:=[]) cp.iwo.2.1)) λ D σ H hl q=>?_
        exact h6 σ H _ (by rw [hl,xs.N]) (qjj sm.al (sm.ms.v g.1) mi (zjs hc.2 sm) q)
       | SetComp _ _ _ _=>simp [denA,den,zvs] at he
       | DictComp _ _ _ _ _=>simp [denA,den,zvs] at he
       | _=>cases hcp
     ·cases h
    ·cases h
   ·rename_i t k ps
    unfold qkc at h
    split at h
    ·rename_i x px
     split at h
     ·rename_i k hk
      obtain ⟨k',pk,rfl⟩:=qj1 hk
      split at h
      ·rename_i i f1 v1 hi he
       cases h
       have g:=hd _ _ _ he
       intro Wx X M xs sm
       refine zwo (qbr (g.2.2 X M xs sm.ms).1 (qe0 (xs.var hi) qbt zmv) ?_ ?_ rfl) λ D σ H q=>qno sm.al (sm.ms.v g.1) q
       ·cases e <;> rfl
       ·cases e <;> rfl
      ·cases h
     ·rename_i hk
      split at h
      ·rename_i i fk vk f1 v1 hi hk he
       split at h
       ·rename_i hc
        cases h
        have g:=hdO _ _ _ he
        intro Wx X M xs sm
        refine zwo (qbr (g.2.2 X M xs sm.ms).1 (qe0 (xs.var hi) ((hd _ _ _ hk).2.2 X M xs sm.ms).1 zmv ?_) ?_ ?_ rfl) λ D σ H q=>qkw sm.al (by rw [sm.ms.ms];exact hc.1) (sm.ms.v g.1) q
        ·intro v
         cases k <;> first | rfl | (cases hc.2)
        ·cases e <;> rfl
        ·cases e <;> rfl
       ·cases h
      ·cases h
    ·rename_i b i pi
     split at h
     ·rename_i x hx
      obtain ⟨px,rfl⟩:=zgq hx
      split at h
      ·rename_i s fi vi fj vj f1 v1 hs hi hj he
       split at h
       ·rename_i hc
        cases h
        intro Wx X M xs sm
        have mk:M.K=X.K:=sm.ms.k xs
        refine zwo (qbr ((hdO _ _ _ he).2.2 X M xs sm.ms).1 (qe0 (qot qft (xs.var hs) ((hd _ _ _ hi).2.2 X M xs sm.ms).1 (zyt hc.2.1)) ((hd _ _ _ hj).2.2 X M xs sm.ms).1 zmv ?_) ?_ ?_ rfl) λ D σ H q=>?_
        ·intro v
         cases k <;> first | rfl | (cases hc.2.2)
        ·cases e <;> rfl
        ·cases e <;> rfl
        ·have:=qkx (vs:=v1) (vi:=vi) (vj:=vj) sm.al (by rw [sm.ms.ms];exact hc.1) q
         rw [mk] at this
         exact this
       ·cases h
      ·cases h
     ·cases h
    ·cases h
   ·cases h
  ·split at h
   ·rename_i f1 v1 s t hc ha hb
    cases h
    intro Wx X M xs sm
    exact zwo (qqj (qmp GX G Gm hS hc xs sm.ms) (zki ih _ _ ha X M xs sm) (zki ih _ _ hb X M xs sm)) λ D σ H q=>qqc q
   ·cases h
  ·rename_i t it body pos
   unfold qke at h
   split at h
   ·rename_i x px
    split at h
    ·rename_i i iw b hi hw hb
     split at h
     ·rename_i hc
      cases h
      intro Wx X M xs sm
      have hN:X.N.Nodup:=by rw [xs.N];exact sm.nd
      have hi':X.N[i]?=some x:=by rw [xs.N];exact zmt hi
      have hx:Loc X.env.scope x:=by rw [xs.sc];exact qfm hc.1
      have giw:=zfm hd (zfl 60 S) G.1 hw
      have hbd:=zmf hd ih hb X M xs sm
      have hg:GOk M [] [i] (zpn i) (asgN i):=qj5 ⟨by rw [sm.ms.ms];exact hc.2.2.1,zjs hc.2.1 sm,sm.al i,sm.ms.als⟩
      have hpg:PG X (.Name x px) (zpn i):=zmy hN hi' hx (.inl (sm.fn x))
      have hpi:=giw.2.2 X M xs sm.ms (.Name x px)
      have hf:=zfj (n:=0) (env:=X.env) (f:=bVar 0) (vs:=[]) giw.2.1
      cases iw with
      | rng en fa vs=>
       rcases hpi with ⟨rfl,hpi⟩ | ⟨rfl,hpi⟩
       ·exact zwo (zje (zzy xs) xs.calm hpi hpg hbd hf) λ D σ H q=>qd6 hg q
       ·exact zwo (zje (zzy xs) xs.calm hpi hpg hbd hf) λ D σ H q=>qd5 hg q
      | seq f vs=>exact zwo (zje (zzy xs) xs.calm hpi hpg hbd hf) λ D σ H q=>qd4 sm.al (sm.ms.v giw.1) hg q
      | vw v fa vs=>exact zwo (zje (zzy xs) xs.calm (hpi hc.2.2.2) hpg hbd hf) λ D σ H q=>qd3 sm.al (sm.ms.v giw.1) hg q
     ·cases h
    ·cases h
   ·rename_i es k p
    split at h
    ·rename_i is iw b hs hw hb
     cases h
     intro Wx X M xs sm
     have giw:=zfm hd (zfl 60 S) G.1 hw
     have hbd:=zmf hd ih hb X M xs sm
     obtain ⟨h1,h2,h3,h4⟩:=zbh hs xs sm
     have mk:M.K=X.K:=sm.ms.k xs
     have hg:=qmj (M:=M) (al:=[]) h4
     have hpg:=qez (pos:=p) (k:=k) xs.calm h1 h2 h3
     rw [<- mk] at hpg
     have hpi:=giw.2.2 X M xs sm.ms (.Tuple es k p)
     have hf:=zfj (n:=0) (env:=X.env) (f:=bVar 0) (vs:=[]) giw.2.1
     cases iw with
     | rng en fa vs=>
      rcases hpi with ⟨rfl,hpi⟩ | ⟨rfl,hpi⟩
      ·exact zwo (zje (zzy xs) xs.calm hpi hpg hbd hf) λ D σ H q=>qd6 hg q
      ·exact zwo (zje (zzy xs) xs.calm hpi hpg hbd hf) λ D σ H q=>qd5 hg q
     | seq f vs=>exact zwo (zje (zzy xs) xs.calm hpi hpg hbd hf) λ D σ H q=>qd4 sm.al (sm.ms.v giw.1) hg q
     | vw v fa vs=>exact zwo (zje (zzy xs) xs.calm (hpi (by cases v <;> rfl)) hpg hbd hf) λ D σ H q=>qd3 sm.al (sm.ms.v giw.1) hg q
    ·cases h
   ·cases h
  ·rename_i t op e pos
   cases h
  ·rename_i e pos
   unfold qkb at h
   split at h
   ·rename_i x hx
    obtain ⟨px,rfl⟩:=zgq hx
    split at h
    ·rename_i i hi
     split at h
     ·cases h
     ·rename_i hm
      cases h
      intro Wx X M xs sm
      exact zwo (qjs (xs.var hi)) λ D σ H q=>qkv sm.al (by rw [sm.ms.ms];simpa using hm) q
    ·cases h
   ·rename_i hx
    split at h
    ·rename_i f1 v1 he
     cases h
     intro Wx X M xs sm
     exact zwo (qjs ((hd _ _ _ he).2.2 X M xs sm.ms).1) λ D σ H q=>qnn (sm.ms.v (hd _ _ _ he).1) q
    ·cases h
  ·cases h
 exact λ {Wx}=>core trivial
theorem qiu (GX:GX K mg S.xc) (G:GS P w K mg base lvl S.Γ) (Gm:GSm P w K mg base lvl S.Γm) (hS:∀ i,∀ j∈S.alF i,S.msF j=false):∀ (n:Nat) (st:Stmt) (f:Fs),qgf n S st=some f->qa9 P w K mg base lvl S st f:=by
 intro n
 induction n with
 | zero=>intro st f h;cases h
 | succ n ih=>
  intro st f h
  replace h:some ((zyi (qgf n S) S st).getD sNo)=some f:=h
  cases e0:zyi (qgf n S) S st with
  | none=>
   rw [e0] at h
   cases h
   intro Wx X M xs sm pins s σ H D I q
   exact (qbq pins s σ H D I (qnp (t:=qd8) q))
  | some f'=>
   rw [e0] at h
   cases h
   exact λ {Wx}=>qa3 GX G Gm hS ih _ _ e0
def denS:Nat->Sx->Stmt->Option Fs:=qgf
theorem qmq (GX:GX K mg S.xc) (G:GS P w K mg base lvl S.Γ) (Gm:GSm P w K mg base lvl S.Γm) (hS:∀ i,∀ j∈S.alF i,S.msF j=false):∀ (n:Nat) (st:Stmt) (f:Fs),denS n S st=some f->qa9 P w K mg base lvl S st f:=qiu GX G Gm hS
def zzl:Bool->List PV->Rho
 | true,x::xr=>some (x,om)::xr.map λ x=>some (x,dv x)
 | _,xs=>xs.map λ x=>some (x,dv x)
def finF (io:Bool) (y:PV) (d:Nat) (ρ:Rho):Rz (PV×Nat×PV):=match io with
 | false=>.ok (y,d,.non)
 | true=>match ρ[0]? with
  | some (some (z,_))=>.ok (y,d,z)
  | _=>.no
def mkFn (io:Bool) (np k:Nat) (b:Fs):Fn:=λ xs=>if xs.length=np then (match b (zzl io xs++jb1 k none) with
 | .rt y d ρ=>finF io y d ρ
 | .nx ρ=>finF io .non om ρ
 | .exc c=>.exc c
 | _=>.no) else .no
theorem zwl {io:Bool}{np k:Nat}{b:Fs}:∀ xs,xs.length≠np->mkFn io np k b xs=.no:=λ xs h=>by
 unfold mkFn
 rw [if_neg h]
theorem zpp {io:Bool}{xs:List PV}{i:Nat}{x:PV}{d:Nat} (h:(zzl io xs)[i]?=some (some (x,d))):xs[i]?=some x/\(d=dv x\/(io=true/\i=0/\d=om)):=by
 cases io with
 | false=>
  have h':(xs.map λ x=>(some (x,dv x):Slot))[i]?=some (some (x,d)):=h
  rw [jc1] at h'
  cases e:xs[i]? with
  | none=>rw [e] at h';cases h'
  | some y=>rw [e] at h';cases h';exact ⟨rfl,.inl rfl⟩
 | true=>
  cases xs with
  | nil=>simp [zzl] at h
  | cons y r=>
   cases i with
   | zero=>
    have h':some (some (y,om):Slot)=some (some (x,d)):=h
    cases h'
    exact ⟨rfl,.inr ⟨rfl,rfl,rfl⟩⟩
   | succ i=>
    have h':(r.map λ x=>(some (x,dv x):Slot))[i]?=some (some (x,d)):=h
    rw [jc1] at h'
    cases e:r[i]? with
    | none=>rw [e] at h';cases h'
    | some y'=>rw [e] at h';cases h';exact ⟨by simpa using e,.inl rfl⟩
theorem qdb (io:Bool) (xs:List PV):(zzl io xs).length=xs.length:=by
 cases io <;> cases xs <;> simp [zzl]
theorem qmk {x qual:Str}{st:Stmt}{f:Addr}{fd:vd6}{N ps:List Str}{k:Nat}{sp:Sp} (F:Fun K x qual st f fd) (S:FnScope N ps (zqc st)) (len:∀ vs H Q E,sp vs H Q E->vs.length=ps.length)
  (hbody:∀ (cdv:va2) (A:vc0) (outer:List Env) (s:va3) (H:Hp) (vs:List V) (Q:VK) (E:XK),Room k (A.deeper (vm9 qual (zqc st) s.heap.objs.size f cdv))->sp vs H Q E ->
   ∃ t,PSs (cxOf (CXr P w K) P w K mg base N qual (zqc st) f cdv A outer s H E) (zql st) t/\t { nx:=λ _ H'=>Q .non H',rt:=Q } (L2.start N vs) H):FnOk P w K mg base (CXr P w K) (k + 1) f fd ps sp:=by
 obtain ⟨oc,od,kV,doc,pm,an,cdv,ct,osl,rfl,lk,hcd⟩:=F.ex
 exact qqw lk hcd S len λ A outer s H vs Q E hr hsp=>hbody cdv A outer s H vs Q E hr hsp
theorem qqx {x qual:Str}{st:Stmt}{fa:Addr}{fd:vd6}{ps:List Str}{np k:Nat}{io:Bool}{b:Fs} (Fu:Fun K x qual st fa fd) (FS:FnScope S.N ps (zqc st)) (hsc:S.sc=zqc st) (hal:S.al=[]) (hnp:ps.length=np) (hk:S.N.length=np + k)
  (hms:∀ i∈S.ms,i < np->i=0/\io=true) (hio:io=true->S.msF 0=true/\0 < np) (GX:GX K mg S.xc) (G:GS P w K mg base lvl S.Γ) (Gm:GSm P w K mg base lvl S.Γm) (hb:zqs (denS 60 S) (zql st)=some b):
  FnOk P w K mg base (CXr P w K) (lvl + 1) fa fd ps (spF K io np (mkFn io np k b)):=by
 have hS:∀ i,∀ j∈S.alF i,S.msF j=false:=λ i j hj=>by
  unfold Sx.alF at hj
  rw [hal] at hj
  simp at hj
 refine qmk Fu FS (λ vs H Q E h=>h.1.trans hnp.symm) λ cdv A outer s H vs Q E hr h=>?_
 obtain ⟨hl,xs,Zo,x0,v0,fp0,hZ,hz0,h1,h2,q⟩:=h
 let M:Fm:={ K:=K,Ms:=S.msF,Zo:=Zo,H₀:=H,W:=WE E H,io:=if io=true then some v0 else none,al:=λ _=>[] }
 have hxs:XS (cxOf (CXr P w K) P w K mg base S.N qual (zqc st) fa cdv A outer s H E) P w K mg base lvl S (WE E H):=⟨rfl,rfl,rfl,rfl,rfl,rfl,hsc.symm,rfl,hr,ql0,qh6,λ _=>qem⟩
 have hsm:SM (cxOf (CXr P w K) P w K mg base S.N qual (zqc st) fa cdv A outer s H E) M K S (WE E H):=by
  refine ⟨⟨rfl,rfl,λ i _=>?_,(λ i j hj=>nomatch hj),rfl,λ _ h=>nomatch h⟩,λ _=>rfl,λ h=>?_,(λ _ h=>nomatch h),λ _=>rfl,FS.nd,rfl,rfl⟩
  ·show []=S.al.getD i []
   rw [hal];rfl
  ·have h':(if io=true then some v0 else none)≠none:=h
   cases io with
   | true=>exact (hio rfl).1
   | false=>exact absurd rfl h'
 refine ⟨tS M b,zki (qmq GX G Gm hS 60) _ _ hb _ M hxs hsm,zzl io xs++jb1 k none,λ i=>if i=0 then fp0 else [],?_,?_⟩
 ·have hlen:xs.length=vs.length:=by
   cases io with
   | false=>exact (h1 rfl).2.length.symm
   | true=>obtain ⟨xr,wr,rfl,rfl,_,o⟩:=h2 rfl;rw [ja9,ja9,o.length]
  have each:∀ i y d,(zzl io xs)[i]?=some (some (y,d))->∃ v,vs[i]?=some v/\Own K H (λ a=>Zo a\/a∈fp0) y d v (if i=0 then fp0 else []):=λ i y d e=>by
   obtain ⟨e1,e2⟩:=zpp e
   cases io with
   | false=>
    obtain ⟨rfl,o⟩:=h1 rfl
    obtain ⟨v,ev,ov⟩:=o.nth e1
    rcases e2 with rfl | ⟨z,_⟩
    ·refine ⟨v,ev,?_⟩
     rw [ite_self]
     exact ov.dv.weak λ a h=>h.elim id λ z=>nomatch z
    ·cases z
   | true=>
    obtain ⟨xr,wr,rfl,rfl,o0,o⟩:=h2 rfl
    cases i with
    | zero=>
     simp [zzl] at e
     obtain ⟨rfl,rfl⟩:=e
     exact ⟨v0,rfl,Own.full _ _ _ o0⟩
    | succ i=>
     obtain ⟨v,ev,ov⟩:=o.nth (j:=i) (by simpa using e1)
     rcases e2 with rfl | ⟨_,z,_⟩
     ·refine ⟨v,by simpa using ev,?_⟩
      rw [if_neg (jr1 i)]
      exact ov.dv
     ·cases z
  have inl:∀ i p,(zzl io xs++jb1 k none)[i]?=some (some p)->(zzl io xs)[i]?=some (some p):=λ i p e=>by
   by_cases hi:i < (zzl io xs).length
   ·rw [jc4 hi] at e;exact e
   ·rw [jd4 (by omega),jd9] at e
    split at e <;> cases e
  have domF:∀ a∈fp0,H a≠none:=λ a ha=>by
   cases io with
   | false=>rw [(h1 rfl).1] at ha;cases ha
   | true=>
    obtain ⟨xr,wr,rfl,rfl,o0,o⟩:=h2 rfl
    obtain ⟨ys,e⟩:=Own.lsts _ _ _ _ o0 a ha
    rw [e];simp
  refine ⟨λ i y d e=>?_,λ i h=>?_,λ i j hij a ha hb'=>?_,λ i a ha=>?_,λ i hi a ha=>?_,hZ,?_,λ i y d hi e=>?_,λ a h=>h,⟨λ v hv=>?_,λ _ h=>(nomatch h)⟩⟩
  ·obtain ⟨v,ev,ov⟩:=each i y d (inl i _ e)
   refine ⟨v,?_,ov.weak λ a h=>?_⟩
   ·unfold L2.start
    rw [jc4 (by rw [ja3];exact (jb3.mp ev).1),jc1,ev]
    rfl
   ·rcases h with h | ⟨j,_,h⟩
    ·exact .inl h
    ·by_cases ej:j=0
     ·simp only [if_pos ej] at h;exact .inr h
     ·simp only [if_neg ej] at h;cases h
  ·by_cases hi:i=0
   ·subst hi
    rw [if_pos rfl]
    cases io with
    | false=>exact (h1 rfl).1
    | true=>
     obtain ⟨xr,wr,rfl,rfl,_,_⟩:=h2 rfl
     exact absurd rfl (h (x0,om))
   ·rw [if_neg hi]
  ·by_cases e1:i=0
   ·by_cases e2:j=0
    ·exact hij (e1.trans e2.symm)
    ·rw [if_neg e2] at hb';cases hb'
   ·simp only [if_neg e1] at ha;cases ha
  ·by_cases e1:i=0
   ·simp only [if_pos e1] at ha;exact hz0 a ha
   ·simp only [if_neg e1] at ha;cases ha
  ·by_cases e1:i=0
   ·simp only [if_pos e1] at ha
    cases io with
    | false=>rw [(h1 rfl).1] at ha;cases ha
    | true=>
     have:=(hio rfl).1
     have hi':S.msF i=false:=hi
     rw [e1,this] at hi';cases hi'
   ·simp only [if_neg e1] at ha;cases ha
  ·unfold L2.start
   rw [jb4,qdb,je6,jb4,ja3,je6,hlen,hl,hk]
   omega
  ·have hm:i∈S.ms:=by
    have hi':S.msF i=true:=hi
    unfold Sx.msF at hi'
    simpa using hi'
   obtain ⟨e1,e2⟩:=zpp (inl i _ e)
   have hlt:i < np:=by
    have:=(jb3.mp e1).1
    rw [hlen,hl] at this;exact this
   obtain ⟨rfl,rfl⟩:=hms i hm hlt
   obtain ⟨xr,wr,rfl,rfl,_,_⟩:=h2 rfl
   have e':=inl 0 _ e
   simp [zzl] at e'
   exact e'.2.symm
  ·have hv':(if io=true then some v0 else none)=some v:=hv
   cases io with
   | false=>cases hv'
   | true=>
    cases hv'
    obtain ⟨xr,wr,rfl,rfl,_,_⟩:=h2 rfl
    exact ⟨rfl,(hio rfl).1⟩
 ·unfold mkFn at q
  have hlen:xs.length=np:=by
   by_cases e:xs.length=np
   ·exact e
   ·rw [if_neg e] at q;exact q.elim
  rw [if_pos hlen] at q
  have fin:∀ {y:PV}{d:Nat}{ρ':Rho}{v:V}{σ':St}{H':Hp}{fps':Fps}{fp:List Addr},(match finF io y d ρ' with
    | .ok (y,d,z0)=>∀ v H' fp fp0',Keep (λ a=>a∈fp0) H H'->(∀ a,H a≠none->H' a≠none)->(∀ a∈fp0',a∈fp0\/H a=none)->(∀ a∈fp0',¬ Zo a)->(io=false->fp0'=[])->(io=true->Own K H' (λ _=>True) z0 om v0 fp0') ->
      Own K H' (λ a=>(Zo a\/a∈fp0')\/a∈fp) y d v fp->(∀ a∈fp,H a=none/\¬ (Zo a\/a∈fp0'))->Q v H'
    | .exc c=>∀ H',Keep (λ a=>a∈fp0) H H'->(∀ a,H a≠none->H' a≠none)->E (.int (c:Int) 0) none H'
    | .no=>False)->KS M H (λ i=>if i=0 then fp0 else []) H' fps'->Rep M ρ' σ' H' fps'->Own M.K H' (λ a=>Zr M fps' a\/a∈fp) y d v fp->(∀ a∈fp,M.H₀ a=none/\¬ Zr M fps' a)->Q v H':=λ {y d ρ' v σ' H' fps' fp} q ks rp oy hf=>by
   have kp:Keep (λ a=>a∈fp0) H H':=λ a o h n=>ks.keep a o h λ ⟨i,hi⟩=>by
    by_cases e:i=0
    ·simp only [if_pos e] at hi;exact n hi
    ·simp only [if_neg e] at hi;cases hi
   cases io with
   | false=>
    refine q v H' fp [] kp ks.dom (λ _ z=>(nomatch z)) (λ _ z=>(nomatch z)) (λ _=>rfl) (λ h=>(nomatch h)) (oy.weak λ a h=>?_) λ a ha=>⟨(hf a ha).1,λ z=>(hf a ha).2 ?_⟩
    ·rcases h with (h | h) | h
     ·exact .inl (.inl h)
     ·cases h
     ·exact .inr h
    ·rcases z with z | z
     ·exact .inl z
     ·cases z
   | true=>
    unfold finF at q
    cases e0:ρ'[0]? with
    | none=>dsimp only at q;rw [e0] at q;exact q.elim
    | some s0=>
     dsimp only at q
     rw [e0] at q
     cases s0 with
     | none=>exact q.elim
     | some p0=>
      obtain ⟨z,dz⟩:=p0
      have hdz:=rp.msf 0 z dz (hio rfl).1 e0
      subst hdz
      obtain ⟨u,hu,ou⟩:=rp.own 0 z om e0
      have hu0:=(rp.iov.1 v0 rfl).1
      rw [hu] at hu0
      cases hu0
      refine q v H' fp (fps' 0) kp ks.dom (λ a ha=>?_) (λ a ha=>rp.zo 0 a ha) (λ h=>(nomatch h)) (λ _=>Own.full _ _ _ ou) (oy.weak λ a h=>?_) λ a ha=>⟨(hf a ha).1,λ z=>(hf a ha).2 ?_⟩
      ·rcases ks.sub 0 a ha with ⟨j,hj⟩ | z
       ·by_cases e:j=0
        ·simp only [if_pos e] at hj;exact .inl hj
        ·simp only [if_neg e] at hj;cases hj
       ·exact .inr z
      ·rcases h with (h | h) | h
       ·exact .inl (.inl h)
       ·exact .inl (.inr ⟨(λ z=>nomatch z),h⟩)
       ·exact .inr h
      ·rcases z with z | z
       ·exact .inl z
       ·exact .inr ⟨(λ z=>nomatch z),z⟩
  cases eb:b (zzl io xs++jb1 k none) with
  | no=>rw [eb] at q;exact q
  | exc c=>
   rw [eb] at q
   refine λ σ' H' fps' ks=>⟨q H' (λ a o h n=>ks.keep a o h λ ⟨i,hi⟩=>?_) ks.dom,ks.dom⟩
   by_cases e:i=0
   ·simp only [if_pos e] at hi;exact n hi
   ·simp only [if_neg e] at hi;cases hi
  | bk ρ=>rw [eb] at q;exact q.elim
  | ct ρ=>rw [eb] at q;exact q.elim
  | rt y d ρ'=>
   rw [eb] at q
   exact λ v σ' H' fps' fp ks rp oy hf=>fin q ks rp oy hf
  | nx ρ'=>
   rw [eb] at q
   exact λ σ' H' fps' ks rp=>fin (fp:=[]) q ks rp (by rw [Own];exact ⟨rfl,rfl⟩) λ _ z=>nomatch z
end
open PySem PySem.Spec PySem.W PySem.Calls PyProof.Rows L2
theorem zgc {tb:String->Option vf6}{p:vb0}{w:vc1}{n₀:Nat}{ann:Option va2}:∀ {n:Nat}{s r:SharedT}{t:Thread},zyp tb p w n₀ ann n s t=some r->topRun tb p w n₀ ann n s.abs t=some r.abs
 | 0,_,_,_,h=>by cases h
 | n + 1,s,r,t,h=>by
  unfold zyp at h
  unfold topRun
  cases e1:through t with
  | true=>rw [e1] at h;cases h;rfl
  | false=>
   rw [e1] at h
   cases e2:stepOk n₀ ann t with
   | false=>rw [e2] at h;cases h
   | true=>
    rw [e2] at h
    cases e3:stepT (denote tb) p w s t with
    | none=>rw [e3] at h;cases h
    | some z=>obtain ⟨s₂,t₂⟩:=z;rw [e3] at h;rw [stepT_spec e3];exact zgc h
theorem qi9 (P:Params) (os:OsState):(bootS P os).abs=⟨ve3 P,#[],boot_drawn,boot_toks,os⟩:=by kernel_rfl
theorem qm3 (P:Params):(ve3 P).isNs vd3=true:=by kernel_rfl
theorem qme {p q:vb0}{loose:List Str}{Xt:va3->Bool}{α:Type}{Yf:va3->α}{Ya:vc1->α}{N:Nat} (e:opening p=plainProg p.main.scope.names) (hN:Nat.ble 600 N=true) (f:∀ s,fenceModules? p s=some s)
  (run:∀ (w:vc1) (os:OsState),(zyp treeTable p w (ve3 w.params).objs.size ((ve3 w.params).nsMap vd3 "__annotations__") N (bootS w.params os) (topStub p)).map (λ s=>qa2 p q loose Xt Yf (ve3 w.params) s.abs)=some (true,openGood q loose,Ya w)):
  LeftO p q loose Xt Yf Ya N:=λ w=>by
 obtain ⟨⟨h,gs,d,k,os⟩,e1,e2⟩:=jc5.mp (boot_open e hN f w)
 obtain ⟨rfl,rfl,rfl,rfl⟩:h=ve3 w.params/\gs=#[]/\d=boot_drawn/\k=boot_toks:=by simpa using e2
 obtain ⟨s,r1,r2⟩:=jc5.mp (run w os)
 have r:=zgc r1
 rw [qi9] at r
 have r3:(_=_)/\(_ ,_)=(_,_):=vn5 r2
 obtain ⟨l1,l23⟩:=r3
 obtain ⟨l2,l3⟩:=vn5 l23
 have t:topFrom treeTable p w N ⟨ve3 w.params,#[],boot_drawn,boot_toks,os⟩=some s.abs:=by
  unfold topFrom
  dsimp only
  rw [qm3,r]
  show (match staticsOk (vm7 p.main.body) (ve3 w.params) s.abs.heap && namesBound p s.abs.heap && gensDone s.abs && laidKept (ve3 w.params) s.abs.heap with | true=>_ | false=>_)=_
  rw [l1]
 unfold openEnds
 rw [e1]
 show (topFrom treeTable p w N _).map _=_
 rw [t]
 exact congrArg some (vl9 l2 l3)
theorem qpd (h:Heap):(kof h).In h:=by
 intro a o
 unfold kof
 generalize ja2 h.objs.size=l
 induction l with
 | nil=>intro e;cases e
 | cons b l ih=>
  intro e
  rw [jj6] at e
  cases g:h.get? b with
  | none=>rw [g] at e;exact ih e
  | some z=>
   rw [g] at e
   dsimp only [jj9] at e
   rw [je1] at e
   split at e
   ·rename_i q
    cases e
    rw [beq_iff_eq.mp q]
    exact g
   ·exact ih e
theorem qp0 {K:Frag}{x:Str}{st:Stmt} (e:qa5 K x=some (qgg x st)):∃ (g:Addr) (fd:vd6),nsIn K vd3 x=some (some (.ref g))/\Fun K x x st g fd:=by
 unfold qa5 at e
 split at e
 ·rename_i g hg
  split at e
  ·rename_i oc od fd sl hl
   cases fd
   unfold qgg at e
   simp only [Option.some.injEq,DefSeen.mk.injEq] at e
   obtain ⟨rfl,rfl,rfl,rfl,rfl,rfl,rfl,rfl,rfl,hc⟩:=e
   refine ⟨g,_,hg,qpr hl hc ?_⟩
   unfold keepIn
   dsimp only
   rw [hl]
  ·cases e
 ·cases e
structure Given (ds:List (Str×Stmt)) (xc:List Nat) (K:Frag) (mg:Str->Option va2):Prop where
 df:∀ (i:Nat) (x:Str) (st:Stmt),ds[i]?=some (x,st)->∃ (g:Addr) (fd:vd6),mg x=some (.ref g)/\Fun K x x st g fd
 bn:∀ x∈zkj,mg x=none
 gx:GX K mg xc
theorem qfh {α β:Type}{f g:α->β}:∀ {l:List α},l.map f=l.map g->∀ {i:Nat}{a:α},l[i]?=some a->f a=g a
 | [],_,_,_,h=>by cases h
 | b::l,e,0,a,h=>by
  cases h
  exact (List.cons.inj e).1
 | b::l,e,i + 1,a,h=>qfh (List.cons.inj e).2 h
theorem qim {ds:List (Str×Stmt)}{xc:List Nat}{K:Frag}{mg:Str->Option va2}{h:Heap} (X:K.In h) (G:h.Ns vd3 mg) (e:zbx ds xc K=zgw ds):Given ds xc K mg:=by
 obtain ⟨e1,e2⟩:=vn5 e
 obtain ⟨e2,e3⟩:=vn5 e2
 refine ⟨λ i x st hi=>?_,λ x hx=>?_,λ hne=>?_⟩
 ·obtain ⟨g,fd,a,b⟩:=qp0 (qfh e1 hi)
  exact ⟨g,fd,mg_of X G a,b⟩
 ·obtain ⟨i,hi⟩:=List.getElem?_of_mem hx
  exact mg_none_of X G (qfh e2 hi)
 ·have hm:xc.isEmpty=false:=by
   cases xc with
   | nil=>exact absurd rfl hne
   | cons _ _=>rfl
  rw [hm,jt3,ja5,ja5] at e3
  refine ⟨e3.1.1,e3.1.2,λ c hc=>?_⟩
  have h1:=jb8.mp e3.2 c hc
  rw [ja5] at h1
  obtain ⟨C,hC⟩:=jn0.mp h1.1
  have hC':=hC
  unfold zvl at hC'
  cases hx:XN[c]? with
  | none=>rw [hx] at hC';cases hC'
  | some x=>
   rw [hx] at hC'
   dsimp only at hC'
   have h2:=h1.2
   rw [hx] at h2
   dsimp only at h2
   refine ⟨x,C,rfl,hC,?_,by simpa using h2⟩
   split at hC'
   ·rename_i D hD
    cases hC'
    exact mg_of X G hD
   ·cases hC'
theorem qmu {P:vb0}{w:vc1}{K:Frag}{outer:List Env}{H:Hp}{s:va3}{e:va2}{s2:va3} (z:CXr P w K outer H s (λ _ _ _=>False) e s2):False:=by
 obtain ⟨_,_,_,_,_,_,_,_,_,_,_,_,_,_,_,_,_,_,z⟩:=z
 exact z
theorem holds_by {l:OpenLaw}{q:vb0}{loose:List Str}{d:DefRec}{N k n:Nat}{ds:List (Str×Stmt)}{xc:List Nat}{F:Fn}{x:Str} (said:l.wellSaid=true)
  (e:opening l.prog=plainProg l.prog.main.scope.names) (hN:Nat.ble 600 N=true) (f:∀ s,fenceModules? l.prog s=some s)
  (run:∀ (w:vc1) (os:OsState),(zyp treeTable l.prog w (ve3 w.params).objs.size ((ve3 w.params).nsMap vd3 "__annotations__") N (bootS w.params os) (topStub l.prog)).map
   (λ s=>qa2 l.prog q loose (λ s=>xlAt q [] s && recOk (RowW.records l.row.toRowW) s) (λ s=>zbx ds xc (kof s.heap)) (ve3 w.params) s.abs)=some (true,openGood q loose,zgw ds))
  (hdef:defOf q l.row.name=some (d,[])) (hp:l.row.prog.theDef l.row.name=some (d.params,d.body,d.scope)) (hk:kwWritten? d.params.kwonlyargs d.params.kw_defaults=some []) (hwr:(!l.row.writes || l.row.records.isEmpty)=true)
  (ok:(chainsOk q && opensWell l.row.prog && (frees l.row.toRowW && l.row.within.isEmpty))=true) (hb:l.row.prog.bare) (hw:l.row.toRowW.promised)
  (hn:l.most=some n) (hn2:n<=va8) (hdf:d.params.defaults=[]) (hr:Room k vn2)
  (law:∀ (K:Frag) (w:vc1) (mg:Str->Option va2) (fa:Addr),Given ds xc K mg->mg d.name=some (.ref fa)->∃ fd:vd6,(∀ (s:va3) (u:va2),BindsTo s fd ⟨[u],[]⟩ [(x,u)]) /\
   ∀ base:Heap,FnOk l.prog w K mg base (CXr l.prog w K) k fa fd [x] (spF K false 1 F))
  (yes:∀ (K:Frag) (H:Hp) (a:Addr) (ns:List Int),ns.length<=n->Only H->SqL K H a (ns.map V.int)->spF K false 1 F [.ref a] H (λ v _=>v=.bl true) λ _ _ _=>False):l.Holds:=by
 refine holds_law said λ ws=>?_
 refine holds_open (q:=q) (loose:=loose) (Xt:=λ s=>xlAt q [] s && recOk (RowW.records l.row.toRowW) s) (XP:=XL q []) (Yf:=λ s=>zbx ds xc (kof s.heap)) (Ya:=λ _=>zgw ds) (YP:=λ _ h=>∃ K:Frag,K.In h/\zbx ds xc K=zgw ds) (N:=N)
  (qme e hN f run) (λ _ s z=>⟨_,qpd _,z⟩) (λ _ _ _ ⟨K,a,b⟩ kp=>⟨K,a.keeps kp,b⟩) (λ s e=>xl_of s (jo6.mp e).1) XL.keeps hdef hp hk (λ s e=>recFacts_of (jo6.mp e).2) hwr ws ok hb hw ?_
 refine Att.attach_call hn hdf λ w s₀ s₁ mg mb fa o pm cd doc a vs ns G Y ho hd hcd hmg hobj hints hlen hg=>?_
 obtain ⟨K,KX,hf⟩:=Y
 obtain ⟨fd,hbd,hF⟩:=law K w mg fa (qim KX G.T.g hf) hmg
 exact qie KX G.T.g G.T.b G.T.builtins G.T.nolimit hg hobj hints (jd5 hlen hn2) hr (λ base _ _=>hF base) hbd (λ H hO hS=>yes K H a ns hlen hO hS) λ H e s'=>qmu
section
variable {P:vb0}{w:vc1}{K:Frag}{mg:Str->Option va2}{base:Heap}
theorem len1 {us:List va2} (h:us.length=1):∃ a,us=[a]:=List.length_eq_one_iff.mp h
theorem len2 {us:List va2} (h:us.length=2):∃ a b,us=[a,b]:=by
 cases us with
 | nil=>cases h
 | cons a r=>obtain ⟨b,rfl⟩:=len1 (Nat.succ.inj h);exact ⟨a,b,rfl⟩
theorem len3 {us:List va2} (h:us.length=3):∃ a b c,us=[a,b,c]:=by
 cases us with
 | nil=>cases h
 | cons a r=>obtain ⟨b,c,rfl⟩:=len2 (Nat.succ.inj h);exact ⟨a,b,c,rfl⟩
theorem zxc {lvl:Nat} (hb:∀ x∈zkj,mg x=none):GS P w K mg base lvl []:=⟨hb,λ x io n F h=>by cases h⟩
theorem zzq {lvl:Nat}{x qual:Str}{st:Stmt}{fa:Addr}{fd:vd6}{ps:List Str}{io:Bool}{n:Nat}{F:Fn}{Γ:List (Str×(Bool×Nat×Fn))} (g:GS P w K mg base lvl Γ) (hx:(x == ("__debug__" : Str))=false) (hF:∀ xs,xs.length≠n->F xs=.no)
  (hm:mg x=some (.ref fa)) (Fu:Fun K x qual st fa fd) (hbd:qad K fd ps []) (hn:ps.length=n) (ok:FnOk P w K mg base (CXr P w K) lvl fa fd ps (spF K io n F)):GS P w K mg base lvl ((x,(io,n,F))::Γ):=by
 refine ⟨g.1,λ y io' n' F' h=>?_⟩
 rw [je1] at h
 split at h
 ·rename_i e
  cases h
  have:y=x:=eq_of_beq e
  subst this
  exact ⟨hx,hF,fa,fd,ps,hm,Fu.kp,hbd,hn,ok⟩
 ·exact g.2 y io' n' F' h
theorem qmi {lvl:Nat}:GSm P w K mg base lvl []:=λ x F h=>by cases h
theorem gcs {lvl j:Nat}{x qual:Str}{st:Stmt}{fa:Addr}{fd:vd6}{ps:List Str}{io:Bool}{n:Nat}{F:Fn}{Γ:List (Str×(Bool×Nat×Fn))} (g:GS P w K mg base lvl Γ) (hm:mg x=some (.ref fa)) (Fu:Fun K x qual st fa fd) (hbd:qad K fd ps []) (ok:FnOk P w K mg base (CXr P w K) j fa fd ps (spF K io n F)) (hl:j<=lvl:=by decide) (hx:(x == ("__debug__" : Str))=false:=by decide +kernel) (hF:∀ xs,xs.length≠n->F xs=.no:=by exact zwl) (hn:ps.length=n:=by rfl):GS P w K mg base lvl ((x,(io,n,F))::Γ):=zzq g hx hF hm Fu hbd hn (ok.mono hl)
theorem fnb (S:Sx) {lvl:Nat}{x qual:Str}{st:Stmt}{fa:Addr}{fd:vd6}{ps:List Str}{np k:Nat}{io:Bool}{b:Fs} (Fu:Fun K x qual st fa fd) (FS:FnScope S.N ps (zqc st)) (gX:GX K mg S.xc) (G:GS P w K mg base lvl S.Γ) (hb:zqs (denS 60 S) (zql st)=some b) (hsc:S.sc=zqc st:=by rfl) (hal:S.al=[]:=by rfl) (hnp:ps.length=np:=by rfl) (hk:S.N.length=np + k:=by rfl) (hms:∀ i∈S.ms,i < np->i=0/\io=true:=by decide) (hio:io=true->S.msF 0=true/\0 < np:=by first | exact λ h=>Bool.noConfusion h | exact λ _=>⟨rfl,by decide⟩) (Gm:GSm P w K mg base lvl S.Γm:=by exact qmi):FnOk P w K mg base (CXr P w K) (lvl + 1) fa fd ps (spF K io np (mkFn io np k b)):=qqx (S:=S) Fu FS hsc hal hnp hk hms hio gX G Gm hb
end
theorem sp_yes {K:Frag}{H:Hp}{a:Addr}{ns:List Int}{F:Fn} (hO:Only H) (hS:SqL K H a (ns.map V.int)) (h:∃ d z,F [.scr ns]=.ok (.bl true,d,z)):spF K false 1 F [.ref a] H (λ v _=>v=.bl true) λ _ _ _=>False:=by
 refine ⟨rfl,[.scr ns],λ _=>False,.non,.non,[],λ _ z=>z.elim,λ _ z=>(nomatch z),λ _=>⟨rfl,?_⟩,(λ h=>nomatch h),?_⟩
 ·rw [OwnL]
  refine ⟨.ref a,[],[],[],rfl,rfl,λ _ z=>(nomatch z),?_,by rw [OwnL];exact ⟨rfl,rfl⟩⟩
  rw [Own]
  refine ⟨rfl,a,rfl,?_⟩
  rcases hS with (h | h) | h
  ·rcases hO a with z | ⟨ob,xs,z⟩
   ·rw [h] at z;cases z
   ·rw [h] at z;cases z
  ·exact .inl h
  ·exact .inr h
 ·obtain ⟨d,z,e⟩:=h
  rw [e]
  intro v H' fp fp0' _ _ _ _ _ _ o _
  rw [Own] at o
  exact o.1
end QQ
namespace QV
open PySem PySem.Spec PyProof.Rows L2 QQ
theorem zxj {op:PV->Nat->PV->Nat->Option (PV×Nat)}{f g:Fx}{ρ ρ1 ρ2:Rho}{x y z:PV}{d e c:Nat} (h1:f ρ=.ok (x,d,ρ1)) (h2:g ρ1=.ok (y,e,ρ2)) (h3:op x d y e=some (z,c)):bBin op f g ρ=.ok (z,c,ρ2):=by
 unfold bBin
 rw [h1]
 dsimp only [Rz.bind]
 rw [h2]
 dsimp only
 rw [h3]
theorem qne {op:PV->Nat->Option (PV×Nat)}{f:Fx}{ρ ρ1:Rho}{x z:PV}{d c:Nat} (h1:f ρ=.ok (x,d,ρ1)) (h3:op x d=some (z,c)):bUn op f ρ=.ok (z,c,ρ1):=by
 unfold bUn
 rw [h1]
 dsimp only [Rz.bind]
 rw [h3]
theorem zqu {f:Fx}{fa:Fa}{ρ ρ1 ρ2:Rho}{x:PV}{d:Nat}{xs:List (PV×Nat)} (h1:f ρ=.ok (x,d,ρ1)) (h2:fa ρ1=.ok (xs,ρ2)):zqa f fa ρ=.ok ((x,d)::xs,ρ2):=by
 unfold zqa
 rw [h1]
 dsimp only [Rz.bind]
 rw [h2]
theorem zqr {f:Fx}{ρ ρ1:Rho}{x:PV}{d:Nat} (h1:f ρ=.ok (x,d,ρ1)):zqa f aNil ρ=.ok ([(x,d)],ρ1):=zqu h1 rfl
theorem zxb {op:List (PV×Nat)->Option (PV×Nat)}{fa:Fa}{ρ ρ1:Rho}{xs:List (PV×Nat)}{z:PV}{c:Nat} (h1:fa ρ=.ok (xs,ρ1)) (h2:op xs=some (z,c)):zqd op fa ρ=.ok (z,c,ρ1):=by
 unfold zqd
 rw [h1]
 dsimp only [Rz.bind]
 rw [h2]
theorem zqf {F:Fn}{fa:Fa}{ρ ρ1:Rho}{xs:List (PV×Nat)}{y z:PV}{d:Nat} (h1:fa ρ=.ok (xs,ρ1)) (h2:F (xs.map (·.1))=.ok (y,d,z)):zqe F fa ρ=.ok (y,d,ρ1):=by
 unfold zqe
 rw [h1]
 dsimp only [Rz.bind]
 rw [h2]
theorem zxo {f:Fx}{ρ ρ1:Rho}{x:PV}{d:Nat} (h:f ρ=.ok (x,d,ρ1)):sRet f ρ=.rt x d ρ1:=by
 unfold sRet
 rw [h]
theorem zkz {f:Fx}{ρ ρ1:Rho}{x:PV}{d:Nat} (h:f ρ=.ok (x,d,ρ1)):zve f ρ=.nx ρ1:=by
 unfold zve
 rw [h]
theorem setF {i:Nat}{f:Fx}{vs:List Nat}{ρ ρ1 ρ2:Rho}{x:PV}{d:Nat} (h:f ρ=.ok (x,d,ρ1)) (hc:i < ρ1.length) (e:(zxk d vs ρ1).set i (some (x,d))=ρ2):sSet false i f vs ρ=.nx ρ2:=by
 unfold sSet
 rw [h]
 dsimp only
 rw [if_pos ⟨hc,λ h=>nomatch h⟩,e]
theorem qbd {asg:PV->Rho->Option Rho}{f:Fx}{vs:List Nat}{ρ ρ1 ρ2:Rho}{x:PV}{d:Nat} (h:f ρ=.ok (x,d,ρ1)) (e:asg x (zxk d vs ρ1)=some ρ2):sUnp asg f vs ρ=.nx ρ2:=by
 unfold sUnp
 rw [h]
 dsimp only
 rw [e]
theorem zpj {i:Nat}{f:Fx}{vs:List Nat}{ρ ρ1 ρ2:Rho}{y:PV}{e:Nat}{xs:List PV}{d0 d:Nat}{xs0:List PV} (h0:ρ[i]?=some (some (.lst xs0,d0 + 1))) (h:f ρ=.ok (y,e,ρ1)) (h1:(zxk e vs ρ1)[i]?=some (some (.lst xs,d))) (hd:d≠0) (hl:xs.length < va8)
  (e2:(zxk e vs ρ1).set i (some (.lst (xs++[y]),if d=om/\e=om then om else 1))=ρ2):sApp i f vs ρ=.nx ρ2:=by
 unfold sApp
 rw [h0]
 dsimp only
 rw [h]
 dsimp only
 rw [h1]
 dsimp only
 rw [if_pos ⟨hd,hl⟩,e2]
theorem qlr {i:Nat}{fi fj f:Fx}{ρ ρ1 ρ2 ρ3 ρ4:Rho}{y x x':PV}{a b:Int}{d0 d1 d2:Nat} (h:f ρ=.ok (y,d0,ρ1)) (hx:ρ1[i]?=some (some (x,om))) (h1:fi ρ1=.ok (.int a,d1,ρ2)) (h2:fj ρ2=.ok (.int b,d2,ρ3)) (hp:put2 x a b y=some x') (hy:qa1 y=true) (e:ρ3.set i (some (x',om))=ρ4):qao i fi fj f ρ=.nx ρ4:=by
 unfold qao
 rw [h]
 dsimp only
 rw [hx]
 dsimp only
 rw [h1]
 dsimp only
 rw [h2]
 dsimp only
 rw [hp]
 dsimp only
 rw [if_pos ⟨rfl,hy⟩,e]
theorem zqg {f g:Fs}{ρ ρ1:Rho} (h:f ρ=.nx ρ1):sSeq f g ρ=g ρ1:=by
 unfold sSeq
 rw [h]
theorem qpp {c:Fb}{f g:Fs}{ρ ρ1:Rho}{b:Bool} (hc:c ρ=.ok (b,ρ1)):sIf c f g ρ=if b=true then f ρ1 else g ρ1:=by
 unfold sIf
 rw [hc]
theorem if_t {c:Fb}{f g:Fs}{ρ ρ1:Rho} (hc:c ρ=.ok (true,ρ1)):sIf c f g ρ=f ρ1:=by rw [qpp hc];rfl
theorem if_f {c:Fb}{f g:Fs}{ρ ρ1:Rho} (hc:c ρ=.ok (false,ρ1)):sIf c f g ρ=g ρ1:=by rw [qpp hc];rfl
theorem qan {c:Fb}{f g:Fs}{ρ ρ1:Rho} (hc:c ρ=.ok (false,ρ1)):sSeq (sIf c f sNil) g ρ=g ρ1:=zqg (by rw [if_f hc];rfl)
theorem zpr {f g:Fs}{ρ ρ1:Rho}{x:PV}{d:Nat} (h:f ρ=.rt x d ρ1):sSeq f g ρ=.rt x d ρ1:=by
 unfold sSeq
 rw [h]
theorem t_ok {f:Fx}{ρ ρ1:Rho}{b:Bool}{d:Nat} (h:f ρ=.ok (.bl b,d,ρ1)):bT f ρ=.ok (b,ρ1):=by
 unfold bT
 rw [h]
 rfl
theorem qby {f:Fx}{ρ ρ1:Rho}{b:Bool}{d:Nat} (h:f ρ=.ok (.bl b,d,ρ1)):bUn zvp f ρ=.ok (.bl (!b),om,ρ1):=qne h rfl
theorem zvw {f g:Fx}{ρ ρ1:Rho}{a b:Bool}{d:Nat} (h:f ρ=.ok (.bl a,d,ρ1)) (h2:a=true->g ρ1=.ok (.bl b,om,ρ1)) (hd:d=om):zwj f g ρ=.ok (.bl (a && b),om,ρ1):=by
 subst hd
 unfold zwj
 rw [h]
 cases a with
 | false=>rfl
 | true=>exact h2 rfl
theorem qow {f g:Fx}{ρ ρ1:Rho}{a b:Bool}{d:Nat} (h:f ρ=.ok (.bl a,d,ρ1)) (h2:a=false->g ρ1=.ok (.bl b,om,ρ1)) (hd:d=om):bOrV f g ρ=.ok (.bl (a || b),om,ρ1):=by
 subst hd
 unfold bOrV
 rw [h]
 cases a with
 | true=>rfl
 | false=>exact h2 rfl
theorem zgs {f g:Fx}{ρ ρ1 ρ2:Rho}{i j:Int}{d e:Nat} (h1:f ρ=.ok (.int i,d,ρ1)) (h2:g ρ1=.ok (.int j,e,ρ2)) (h:(-(2 ^ 64) < i/\i < 2 ^ 64)\/(-(2 ^ 64) < j/\j < 2 ^ 64)):bBin zvh f g ρ=.ok (.int (i * j),om,ρ2):=by
 refine zxj h1 h2 ?_
 show (if pMul i j=true then _ else _)=_
 rw [if_pos]
 unfold pMul
 rcases h with h | h
 ·rw [decide_eq_true h.1,decide_eq_true h.2];rfl
 ·rw [decide_eq_true h.1,decide_eq_true h.2];simp
theorem zwp {f g:Fx}{ρ ρ1 ρ2:Rho}{i j:Int}{d e:Nat} (h1:f ρ=.ok (.int i,d,ρ1)) (h2:g ρ1=.ok (.int j,e,ρ2)) (h:0 < j):bBin zqn f g ρ=.ok (.int (i % j),om,ρ2):=by
 refine zxj h1 h2 ?_
 show (if pMod i j=true then _ else _)=_
 rw [if_pos]
 exact decide_eq_true h
theorem zpb {f g:Fx}{ρ ρ1 ρ2:Rho}{i j:Int}{d e:Nat} (h1:f ρ=.ok (.int i,d,ρ1)) (h2:g ρ1=.ok (.int j,e,ρ2)) (h:0 < j) (h':j < 2 ^ 128):bBin zxg f g ρ=.ok (.int (i / j),om,ρ2):=by
 refine zxj h1 h2 ?_
 show (if pDiv i j=true then _ else _)=_
 rw [if_pos]
 unfold pDiv
 rw [decide_eq_true h,decide_eq_true h'];rfl
theorem zks {f g:Fx}{ρ ρ1 ρ2:Rho}{i j:Int}{d e:Nat} (h1:f ρ=.ok (.int i,d,ρ1)) (h2:g ρ1=.ok (.int j,e,ρ2)):bBin zqw f g ρ=.ok (.int (i + j),om,ρ2):=zxj h1 h2 rfl
theorem zjd {f g:Fx}{ρ ρ1 ρ2:Rho}{i j:Int}{d e:Nat} (h1:f ρ=.ok (.int i,d,ρ1)) (h2:g ρ1=.ok (.int j,e,ρ2)):bBin zxv f g ρ=.ok (.int (i - j),om,ρ2):=zxj h1 h2 rfl
theorem qp4 {p:Int->Int->Bool}{f g:Fx}{ρ ρ1 ρ2:Rho}{i j:Int}{d e:Nat} (h1:f ρ=.ok (.int i,d,ρ1)) (h2:g ρ1=.ok (.int j,e,ρ2)):bBin (zwm p) f g ρ=.ok (.bl (p i j),om,ρ2):=zxj h1 h2 rfl
theorem qcw {p q:Int->Int->Bool}{f g h:Fx}{ρ:Rho}{i j k:Int}{d e c:Nat} (h1:f ρ=.ok (.int i,d,ρ)) (h2:g ρ=.ok (.int j,e,ρ)) (h3:h ρ=.ok (.int k,c,ρ)):zym p q f g h ρ=.ok (.bl (p i j && q j k),om,ρ):=by
 unfold zym
 rw [h1]
 dsimp only [Rz.bind]
 rw [h2]
 dsimp only
 by_cases hp:p i j=true
 ·rw [if_pos hp,h3,hp];rfl
 ·rw [if_neg hp]
  have:p i j=false:=by simpa using hp
  rw [this];rfl
theorem eqI {neg:Bool}{i j:Int}{d e:Nat}:opEq neg (.int i) d (.int j) e=some (.bl (neg^^decide (i=j)),om):=by
 show some (PV.bl (neg^^vb1 (.int i) (.int j)),om)=_
 have:vb1 (.int i) (.int j)=decide (i=j):=by
  show (i == j)=_
  rfl
 rw [this]
theorem zky {neg:Bool}{f g:Fx}{ρ ρ1 ρ2:Rho}{i j:Int}{d e:Nat} (h1:f ρ=.ok (.int i,d,ρ1)) (h2:g ρ1=.ok (.int j,e,ρ2)):bBin (opEq neg) f g ρ=.ok (.bl (neg^^decide (i=j)),om,ρ2):=zxj h1 h2 eqI
def il (xs:List Int):PV:=.lst (xs.map .int)
def tb (t:List (List Int)):PV:=.lst (t.map il)
abbrev bx (a b c:Int):PV:=.tup [.int a,.int b,.int c]
theorem zzc {α:Type}{xs:List α}{k:Int}{x:α} (h0:0<=k) (h:xs[k.toNat]?=some x):atI xs k=some x:=by
 have hl:=(jb3.mp h).1
 unfold atI ixN
 rw [if_pos h0,if_pos (by omega)]
 exact h
theorem zye {f g:Fx}{ρ ρ1 ρ2:Rho}{xs:List Int}{k x:Int}{d e:Nat} (h1:f ρ=.ok (il xs,d,ρ1)) (h2:g ρ1=.ok (.int k,e,ρ2)) (h:atI xs k=some x):bBin zqb f g ρ=.ok (.int x,om,ρ2):=by
 refine zxj h1 h2 ?_
 show (atI (xs.map PV.int) k).map _=_
 have:atI (xs.map PV.int) k=some (.int x):=by
  unfold atI at h ⊢
  rw [ja3]
  cases e:ixN xs.length k with
  | none=>rw [e] at h;cases h
  | some j=>
   rw [e] at h
   have h':xs[j]?=some x:=h
   show (xs.map PV.int)[j]?=_
   rw [jc1,h'];rfl
 rw [this];rfl
theorem qcf {f g:Fx}{ρ ρ1 ρ2:Rho}{t:List (List Int)}{k:Int}{r:List Int}{d e:Nat} (h1:f ρ=.ok (tb t,d,ρ1)) (h2:g ρ1=.ok (.int k,e,ρ2)) (h:atI t k=some r):bBin zqb f g ρ=.ok (il r,0,ρ2):=by
 refine zxj h1 h2 ?_
 show (atI (t.map il) k).map _=_
 have:atI (t.map il) k=some (il r):=by
  unfold atI at h ⊢
  rw [ja3]
  cases e:ixN t.length k with
  | none=>rw [e] at h;cases h
  | some j=>
   rw [e] at h
   have h':t[j]?=some r:=h
   show (t.map il)[j]?=_
   rw [jc1,h'];rfl
 rw [this];rfl
theorem qb5 {fa:Fa}{ρ ρ1:Rho}{xs:List Int}{d:Nat} (h:fa ρ=.ok ([(il xs,d)],ρ1)):zqd zwh fa ρ=.ok (.int xs.length,om,ρ1):=by
 refine zxb h ?_
 show some (PV.int ((xs.map PV.int).length:Nat),om)=_
 rw [ja3]
theorem qj0 {fa:Fa}{ρ ρ1:Rho}{t:List (List Int)}{d:Nat} (h:fa ρ=.ok ([(tb t,d)],ρ1)):zqd zwh fa ρ=.ok (.int t.length,om,ρ1):=by
 refine zxb h ?_
 show some (PV.int ((t.map il).length:Nat),om)=_
 rw [ja3]
theorem zzt {α:Type}{n:Nat}{test:Fb}{elt:Fx}{enc q:α->PV}{e:α->Nat}{p:α->Bool}:∀ (xs:List α) (ρ:Rho) (acc:List (PV×Nat)),ρ.length=n->(∀ x∈xs,test (ρ++[some (enc x,dv (enc x))])=.ok (p x,ρ++[some (enc x,dv (enc x))])) ->
  (∀ x∈xs,p x=true->elt (ρ++[some (enc x,dv (enc x))])=.ok (q x,e x,ρ++[some (enc x,dv (enc x))]))->acc.length + xs.length<=va8->zwx 1 (asgN n) test elt (xs.map enc) ρ acc=.ok (acc++(xs.filter p).map (λ x=>(q x,e x)),ρ)
 | [],ρ,acc,_,_,_,_=>by simp [zwx]
 | x::xs,ρ,acc,hn,ht,he,hl=>by
  have ea:asgN n (enc x) (ρ++jb1 1 none)=some (ρ++[some (enc x,dv (enc x))]):=by
   unfold asgN
   rw [if_pos (by rw [jb4,hn];simp),List.set_append_right _ _ (by omega),hn]
   simp
  have ih:=λ acc h=>zzt (n:=n) (test:=test) (elt:=elt) (p:=p) (q:=q) (e:=e) (enc:=enc) xs ρ acc hn (λ y hy=>ht y (ja1 _ hy)) (λ y hy=>he y (ja1 _ hy)) h
  have tk:(ρ++[some (enc x,dv (enc x))]).take ρ.length=ρ:=by simp
  rw [ja9] at hl
  rw [jb7]
  unfold zwx
  rw [ea]
  dsimp only
  rw [ht x ja4]
  dsimp only [Rz.bindN]
  cases hp:p x with
  | false=>
   rw [if_neg jb6,tk,ih acc (by omega),je9 (by simp [hp])]
  | true=>
   rw [if_pos rfl,he x ja4 hp]
   dsimp only
   rw [if_pos (by omega),tk,ih _ (by rw [jb4,jg4];omega),jf7 hp]
   simp
theorem zzv {α:Type} (q:α->PV):∀ xs:List α,zvv (xs.map λ x=>(q x,om))=true
 | []=>rfl
 | x::xs=>by rw [jb7];unfold zvv;rw [zzv q xs];rfl
theorem zxi {α:Type}{n:Nat}{f elt:Fx}{enc q:α->PV}{ρ ρ1:Rho}{d:Nat} (xs:List α) (hf:f ρ=.ok (.lst (xs.map enc),d,ρ1)) (hn:ρ1.length=n) (he:∀ x∈xs,elt (ρ1++[some (enc x,dv (enc x))])=.ok (q x,om,ρ1++[some (enc x,dv (enc x))])) (hl:xs.length<=va8):
  zqh f 1 (asgN n) zqj elt ρ=.ok (.lst (xs.map q),om,ρ1):=by
 unfold zqh
 rw [hf]
 dsimp only
 rw [zzt (p:=λ _=>true) (q:=q) (e:=λ _=>om) xs ρ1 [] hn (λ _ _=>rfl) (λ x hx _=>he x hx) (by simpa using hl),jf4.mpr (λ _ _=>rfl)]
 show zzw (xs.map λ x=>(q x,om)) ρ1=_
 unfold zzw
 rw [zzv,jc2]
 rfl
theorem qi0 {α:Type}{n:Nat}{f elt:Fx}{enc q:α->PV}{ρ ρ1:Rho}{d:Nat} (xs:List α) (hf:f ρ=.ok (.tup (xs.map enc),d,ρ1)) (hn:ρ1.length=n) (he:∀ x∈xs,elt (ρ1++[some (enc x,dv (enc x))])=.ok (q x,om,ρ1++[some (enc x,dv (enc x))])) (hl:xs.length<=va8):
  zqh f 1 (asgN n) zqj elt ρ=.ok (.lst (xs.map q),om,ρ1):=by
 unfold zqh
 rw [hf]
 dsimp only
 rw [zzt (p:=λ _=>true) (q:=q) (e:=λ _=>om) xs ρ1 [] hn (λ _ _=>rfl) (λ x hx _=>he x hx) (by simpa using hl),jf4.mpr (λ _ _=>rfl)]
 show zzw (xs.map λ x=>(q x,om)) ρ1=_
 unfold zzw
 rw [zzv,jc2]
 rfl
theorem qi1 {α:Type}{n:Nat}{f elt:Fx}{test:Fb}{enc q:α->PV}{p:α->Bool}{ρ ρ1:Rho}{d:Nat} (xs:List α) (hf:f ρ=.ok (.lst (xs.map enc),d,ρ1)) (hn:ρ1.length=n) (ht:∀ x∈xs,test (ρ1++[some (enc x,dv (enc x))])=.ok (p x,ρ1++[some (enc x,dv (enc x))])) (he:∀ x∈xs,p x=true->elt (ρ1++[some (enc x,dv (enc x))])=.ok (q x,om,ρ1++[some (enc x,dv (enc x))])) (hl:xs.length<=va8):
  zqh f 1 (asgN n) test elt ρ=.ok (.lst ((xs.filter p).map q),om,ρ1):=by
 unfold zqh
 rw [hf]
 dsimp only
 rw [zzt (p:=p) (q:=q) (e:=λ _=>om) xs ρ1 [] hn ht he (by simpa using hl)]
 show zzw ((xs.filter p).map λ x=>(q x,om)) ρ1=_
 unfold zzw
 rw [zzv,jc2]
 rfl
theorem zgk (lo:Int) (n:Nat):zkc lo n=(ja2 n).map λ (k:Nat)=>PV.int (lo + (k:Int)):=rfl
theorem zva {n:Nat}{en:List (PV×Nat)->Option (Int×Int)}{fa:Fa}{elt:Fx}{q:Nat->PV}{ρ ρ1:Rho}{as:List (PV×Nat)}{lo hi:Int} (hf:fa ρ=.ok (as,ρ1)) (hen:en as=some (lo,hi)) (hn:ρ1.length=n) (he:∀ k,k < (hi - lo).toNat->elt (ρ1++[some (.int (lo + (k:Int)),om)])=.ok (q k,om,ρ1++[some (.int (lo + (k:Int)),om)])) (hl:(hi - lo).toNat<=va8):
  zxs en fa 1 (asgN n) zqj elt ρ=.ok (.lst ((ja2 (hi - lo).toNat).map q),om,ρ1):=by
 unfold zxs
 rw [hf]
 dsimp only
 rw [hen]
 dsimp only
 rw [zgk,zzt (enc:=λ (k:Nat)=>PV.int (lo + (k:Int))) (p:=λ _=>true) (q:=q) (e:=λ _=>om) (ja2 (hi - lo).toNat) ρ1 [] hn (λ _ _=>rfl) (λ x hx _=>he x (jb9.mp hx)) (by simpa using hl),jf4.mpr (λ _ _=>rfl)]
 show zzw ((ja2 (hi - lo).toNat).map λ x=>(q x,om)) ρ1=_
 unfold zzw
 rw [zzv,jc2]
 rfl
theorem qja {α:Type} (g:α->Bool) (xs:List α):QQ.allB (xs.map λ x=>.bl (g x))=some (xs.map g):=by
 induction xs with
 | nil=>rfl
 | cons x r ih=>rw [jb7,jb7,QQ.allB,ih];rfl
theorem all_ok {α:Type}{f:Fx}{ρ ρ1:Rho}{d:Nat}{g:α->Bool}{xs:List α} (h:f ρ=.ok (.lst (xs.map λ x=>.bl (g x)),d,ρ1)):zqd zpl (zqa f aNil) ρ=.ok (.bl (xs.all g),om,ρ1):=by
 refine zxb (zqr h) ?_
 show (QQ.allB _).map _=_
 rw [qja]
 simp
theorem qb3 {i:Nat}{body:Fs}{lo:Int} (I:Nat->Rho->Prop):∀ (m k:Nat) (ρ:Rho),I k ρ->(∀ j ρ,k<=j->j < k + m->I j ρ->i < ρ.length/\∃ ρ2,body (ρ.set i (some (.int (lo + (j:Int)),om)))=.nx ρ2/\I (j + 1) ρ2) ->
  ∃ ρ',zwb (asgN i) body ((jl8 k m).map λ (k:Nat)=>PV.int (lo + (k:Int))) ρ=.nx ρ'/\I (k + m) ρ'
 | 0,k,ρ,hi,_=>⟨ρ,rfl,hi⟩
 | m + 1,k,ρ,hi,hb=>by
  obtain ⟨h1,ρ2,e2,h2⟩:=hb k ρ (jb2 _) (by omega) hi
  obtain ⟨ρ',e',h'⟩:=qb3 (i:=i) (body:=body) (lo:=lo) I m (k + 1) ρ2 h2 λ j ρ a b=>hb j ρ (by omega) (by omega)
  refine ⟨ρ',?_,by rw [show k + (m + 1)=k + 1 + m by omega];exact h'⟩
  rw [jr6,jb7]
  unfold zwb
  have:asgN i (PV.int (lo + (k:Int))) ρ=some (ρ.set i (some (.int (lo + (k:Int)),om))):=by
   unfold asgN
   rw [if_pos h1];rfl
  rw [this]
  dsimp only
  rw [e2]
  exact e'
theorem zvr {i:Nat}{body:Fs}{en:List (PV×Nat)->Option (Int×Int)}{fa:Fa}{ρ ρ1:Rho}{as:List (PV×Nat)}{lo hi:Int} (I:Nat->Rho->Prop) (hf:fa ρ=.ok (as,ρ1)) (hen:en as=some (lo,hi)) (h0:I 0 ρ1)
  (hb:∀ j ρ,j < (hi - lo).toNat->I j ρ->i < ρ.length/\∃ ρ2,body (ρ.set i (some (.int (lo + (j:Int)),om)))=.nx ρ2/\I (j + 1) ρ2):∃ ρ',zvx en fa (asgN i) body ρ=.nx ρ'/\I (hi - lo).toNat ρ':=by
 obtain ⟨ρ',e,h⟩:=qb3 (i:=i) (body:=body) (lo:=lo) I (hi - lo).toNat 0 ρ1 h0 λ j ρ _ h hi=>hb j ρ (by omega) hi
 refine ⟨ρ',?_,by rw [jm4] at h;exact h⟩
 unfold zvx
 rw [hf]
 dsimp only
 rw [hen]
 dsimp only
 rw [zgk,List.range_eq_range']
 exact e
theorem zxq {j:Int}{d:Nat} (h1:-(2 ^ 62)<=j) (h2:j < 2 ^ 62):zqz [(.int j,d)]=some (0,j):=by
 show (if -(2 ^ 62)<=j/\j < 2 ^ 62 then some ((0:Int),j) else none)=_
 rw [if_pos ⟨h1,h2⟩]
theorem qiq {i j:Int}{d e:Nat} (h1:-(2 ^ 62)<=i) (h2:i < 2 ^ 62) (h3:-(2 ^ 62)<=j) (h4:j < 2 ^ 62):zpa [(.int i,d),(.int j,e)]=some (i,j):=by
 show (if -(2 ^ 62)<=i/\i < 2 ^ 62/\-(2 ^ 62)<=j/\j < 2 ^ 62 then some (i,j) else none)=_
 rw [if_pos ⟨h1,h2,h3,h4⟩]
theorem zwn {np k:Nat}{b:Fs}{xs:List PV}{ρ':Rho}{y:PV}{d:Nat} (hl:xs.length=np) (h:b (xs.map (λ x=>some (x,dv x))++jb1 k none)=.rt y d ρ'):mkFn false np k b xs=.ok (y,d,.non):=by
 unfold mkFn
 rw [if_pos hl]
 have:zzl false xs=xs.map λ x=>some (x,dv x):=rfl
 rw [this,h]
 rfl
theorem qpt {np k:Nat}{b:Fs}{xs:List PV}{ρ':Rho} (hl:xs.length=np) (h:b (xs.map (λ x=>some (x,dv x))++jb1 k none)=.nx ρ'):mkFn false np k b xs=.ok (.non,om,.non):=by
 unfold mkFn
 rw [if_pos hl]
 have:zzl false xs=xs.map λ x=>some (x,dv x):=rfl
 rw [this,h]
 rfl
def Xf_is_whole_number:Fs:=(sRet (zwj (bUn (zjk "int") (bVar 0)) (bUn zvp (bUn (zjk "bool") (bVar 0)))))
def f_is_whole_number:Fn:=mkFn false 1 0 Xf_is_whole_number
def Xf_is_box:Fs:=(sSeq (sIf (bT (bOrV (bUn zvp (bUn (zjk "tuple") (bVar 0))) (bBin (opEq true) (zqd zwh (zqa (bVar 0) (aNil))) (bC (.int 3))))) (sRet (bC (.bl false))) sNil)
 (sRet (zqd zpl (zqa (zqh (bVar 0) 1 (asgN 1) zqj (zwj (zqe f_is_whole_number (zqa (bVar 1) (aNil))) (bBin (zwm λ i j=>decide (j<=i)) (bVar 1) (bC (.int 1))))) (aNil)))))
def f_is_box:Fn:=mkFn false 1 0 Xf_is_box
def Xf_must_be_box:Fs:=(sIf (bT (bUn zvp (zqe f_is_box (zqa (bVar 0) (aNil))))) sNo sNil)
def f_must_be_box:Fn:=mkFn false 1 0 Xf_must_be_box
def Xf_is_row_of_heights:Fs:=(sSeq (sIf (bT (bOrV (bUn zvp (bUn (zjk "list") (bVar 0))) (bBin (opEq true) (zqd zwh (zqa (bVar 0) (aNil))) (bVar 1)))) (sRet (bC (.bl false))) sNil)
 (sRet (zqd zpl (zqa (zqh (bVar 0) 1 (asgN 3) zqj (zwj (zqe f_is_whole_number (zqa (bVar 3) (aNil))) (zym (λ i j=>decide (i<=j)) (λ i j=>decide (i<=j)) (bC (.int 0)) (bVar 3) (bVar 2)))) (aNil)))))
def f_is_row_of_heights:Fn:=mkFn false 3 0 Xf_is_row_of_heights
def Xf_never_rises:Fs:=(sRet (zqd zpl (zqa (zxs zpa (zqa (bC (.int 1)) (zqa (zqd zwh (zqa (bVar 0) (aNil))) (aNil))) 1 (asgN 1) zqj (bBin (zwm λ i j=>decide (i<=j)) (bBin zqb (bVar 0) (bVar 1)) (bBin zqb (bVar 0) (bBin zxv (bVar 1) (bC (.int 1)))))) (aNil))))
def f_never_rises:Fn:=mkFn false 1 0 Xf_never_rises
def Xf_column_of:Fs:=(sRet (zqh (bVar 0) 1 (asgN 2) zqj (bBin zqb (bVar 2) (bVar 1))))
def f_column_of:Fn:=mkFn false 2 0 Xf_column_of
def Xf_is_pile:Fs:=(sSeq (zve (zqe f_must_be_box (zqa (bVar 0) (aNil))))
 (sSeq (sUnp (asgT [2,3,4]) (bVar 0) [0])
 (sSeq (sIf (bT (bOrV (bUn zvp (bUn (zjk "list") (bVar 1))) (bBin (opEq true) (zqd zwh (zqa (bVar 1) (aNil))) (bVar 2)))) (sRet (bC (.bl false))) sNil)
 (sSeq (sIf (bT (bUn zvp (zqd zpl (zqa (zqh (bVar 1) 1 (asgN 5) zqj (zqe f_is_row_of_heights (zqa (bVar 5) (zqa (bVar 3) (zqa (bVar 4) (aNil)))))) (aNil))))) (sRet (bC (.bl false))) sNil)
 (sSeq (sIf (bT (bUn zvp (zqd zpl (zqa (zqh (bVar 1) 1 (asgN 5) zqj (zqe f_never_rises (zqa (bVar 5) (aNil)))) (aNil))))) (sRet (bC (.bl false))) sNil)
 (sRet (zqd zpl (zqa (zxs zqz (zqa (bVar 3) (aNil)) 1 (asgN 5) zqj (zqe f_never_rises (zqa (zqe f_column_of (zqa (bVar 1) (zqa (bVar 5) (aNil)))) (aNil)))) (aNil)))))))))
def f_is_pile:Fn:=mkFn false 2 3 Xf_is_pile
def Xf_must_be_pile:Fs:=(sIf (bT (bUn zvp (zqe f_is_pile (zqa (bVar 0) (zqa (bVar 1) (aNil)))))) sNo sNil)
def f_must_be_pile:Fn:=mkFn false 2 0 Xf_must_be_pile
def Xf_how_many_above:Fs:=(sRet (zqd zwh (zqa (zqh (bVar 0) 1 (asgN 2) (bT (bBin (zwm λ i j=>decide (j < i)) (bVar 2) (bVar 1))) (bVar 2)) (aNil))))
def f_how_many_above:Fn:=mkFn false 2 0 Xf_how_many_above
def Xb_cell_at:Fs:=(sSeq (sIf (bT (bBin (zwm λ i j=>decide (i < j)) (bVar 1) (zqd zwh (zqa (bVar 0) (aNil))))) (sRet (bBin zqb (bVar 0) (bVar 1))) sNil)
 (sRet (bC (.int 0))))
def b_cell_at:Fn:=mkFn false 2 0 Xb_cell_at
def Xf_mirrored_pile:Fs:=(sSeq (zve (zqe f_must_be_pile (zqa (bVar 0) (zqa (bVar 1) (aNil)))))
 (sRet (zxs zqz (zqa (bBin zqb (bVar 0) (bC (.int 1))) (aNil)) 1 (asgN 2) zqj (zqe f_column_of (zqa (bVar 1) (zqa (bVar 2) (aNil)))))))
def f_mirrored_pile:Fn:=mkFn false 2 0 Xf_mirrored_pile
def Xf_rolled_pile:Fs:=(sSeq (zve (zqe f_must_be_pile (zqa (bVar 0) (zqa (bVar 1) (aNil)))))
 (sSeq (sSet false 2 (zqd zqy (aNil)) [])
 (sSeq (zvx zqz (zqa (bBin zqb (bVar 0) (bC (.int 1))) (aNil)) (asgN 3) (sSeq (sSet false 4 (zqe f_column_of (zqa (bVar 1) (zqa (bVar 3) (aNil)))) [1,3])
 (sApp 2 (zxs zqz (zqa (bBin zqb (bVar 0) (bC (.int 2))) (aNil)) 1 (asgN 5) zqj (zqe f_how_many_above (zqa (bVar 4) (zqa (bVar 5) (aNil))))) [4])))
 (zjj 2))))
def f_rolled_pile:Fn:=mkFn false 2 3 Xf_rolled_pile
def Xf_rest_of:Fs:=(sSeq (zve (zqe f_must_be_pile (zqa (bVar 0) (zqa (bVar 1) (aNil)))))
 (sSeq (sSet false 2 (zqd zqy (aNil)) [])
 (sSeq (qdc .rev (zqa (bVar 1) (aNil)) [1] (asgN 3) (sApp 2 (zwy .rev (zqa (bVar 3) (aNil)) 1 (asgN 4) zqj (bBin zxv (bBin zqb (bVar 0) (bC (.int 2))) (bVar 4))) [3,0,3]))
 (zjj 2))))
def f_rest_of:Fn:=mkFn false 2 2 Xf_rest_of
def Xf_is_even:Fs:=(sSeq (zve (zqe f_must_be_pile (zqa (bVar 0) (zqa (bVar 1) (aNil)))))
 (sRet (zwj (bBin (opEq false) (bBin zqb (bVar 0) (bC (.int 0))) (bBin zqb (bVar 0) (bC (.int 1)))) (bBin (opEq false) (zqe f_mirrored_pile (zqa (bVar 0) (zqa (bVar 1) (aNil)))) (bVar 1)))))
def f_is_even:Fn:=mkFn false 2 0 Xf_is_even
def Xf_is_whole:Fs:=(sRet (bBin (opEq false) (zqe f_rest_of (zqa (bVar 0) (zqa (bVar 1) (aNil)))) (bVar 1)))
def f_is_whole:Fn:=mkFn false 2 0 Xf_is_whole
def Xf_is_round:Fs:=(sSeq (zve (zqe f_must_be_pile (zqa (bVar 0) (zqa (bVar 1) (aNil)))))
 (sRet (zwj (zym (λ i j=>decide (i=j)) (λ i j=>decide (i=j)) (bBin zqb (bVar 0) (bC (.int 0))) (bBin zqb (bVar 0) (bC (.int 1))) (bBin zqb (bVar 0) (bC (.int 2)))) (bBin (opEq false) (zqe f_rolled_pile (zqa (bVar 0) (zqa (bVar 1) (aNil)))) (bVar 1)))))
def f_is_round:Fn:=mkFn false 2 0 Xf_is_round
def Xc_numbers:Fs:=(sSeq (sSet false 2 (zqd zqy (aNil)) [])
 (sSeq (sSet false 3 (bVar 0) [0])
 (sSeq (sSet false 4 (bBin zqn (bVar 0) (bC (.int 2147483647))) [0])
 (sSeq (zvx zqz (zqa (bVar 1) (aNil)) (asgN 5) (sIf (bT (zwj (bBin (zwm λ i j=>decide (j<=i)) (bVar 0) (bBin qh9 (bC (.int 10)) (bC (.int 18)))) (bBin (zwm λ i j=>decide (j < i)) (bVar 3) (bC (.int 0))))) (sSeq (sApp 2 (bBin zqn (bVar 3) (bC (.int 64))) [3])
 (sSet false 3 (bBin zxg (bVar 3) (bC (.int 64))) [3])) (sSeq (sSet false 4 (bBin zqn (bBin zvh (bBin zqw (bBin zqw (bVar 4) (bBin zvh (bC (.int 7)) (bVar 5))) (bC (.int 3))) (bC (.int 48271))) (bC (.int 2147483647))) [4,5])
 (sSeq (sSet false 6 (bBin zqn (bBin zvh (bBin zqn (bBin zvh (bVar 4) (bVar 4)) (bC (.int 2147483629))) (bC (.int 69621))) (bC (.int 2147483587))) [4,4])
 (sApp 2 (bBin zqn (bBin zxg (bVar 6) (bC (.int 8))) (bC (.int 720720))) [6])))))
 (zjj 2)))))
def c_numbers:Fn:=mkFn false 2 5 Xc_numbers
def Xc_box:Fs:=(sSeq (sSet false 1 (zqd zxt (zqa (bBin zqw (bC (.int 1)) (bBin zqn (bBin zqb (bVar 0) (bC (.int 0))) (bC (.int 3)))) (zqa (bBin zqw (bC (.int 1)) (bBin zqn (bBin zqb (bVar 0) (bC (.int 1))) (bC (.int 3)))) (zqa (bBin zqw (bC (.int 1)) (bBin zqn (bBin zqb (bVar 0) (bC (.int 2))) (bC (.int 3)))) (aNil))))) [0,0,0])
 (sSeq (sIf (bT (bBin (opEq false) (bBin zqn (bBin zqb (bVar 0) (bC (.int 3))) (bC (.int 4))) (bC (.int 1)))) (sSet false 1 (zqd zxt (zqa (bBin zqw (bC (.int 1)) (bBin zqn (bBin zqb (bVar 0) (bC (.int 0))) (bC (.int 6)))) (zqa (bBin zqw (bC (.int 1)) (bBin zqn (bBin zqb (bVar 0) (bC (.int 1))) (bC (.int 6)))) (zqa (bBin zqw (bC (.int 1)) (bBin zqn (bBin zqb (bVar 0) (bC (.int 2))) (bC (.int 6)))) (aNil))))) [0,0,0]) sNil)
 (sSeq (sIf (bT (bBin (opEq false) (bBin zqn (bBin zqb (bVar 0) (bC (.int 3))) (bC (.int 4))) (bC (.int 2)))) (sSet false 1 (zqd zxt (zqa (bBin zqb (bVar 1) (bC (.int 0))) (zqa (bBin zqb (bVar 1) (bC (.int 0))) (zqa (bBin zqb (bVar 1) (bC (.int 0))) (aNil))))) [1,1,1]) sNil)
 (sSeq (sIf (bT (bBin (opEq false) (bBin zqn (bBin zqb (bVar 0) (bC (.int 3))) (bC (.int 8))) (bC (.int 3)))) (sSet false 1 (zqd zxt (zqa (bBin zqb (bVar 1) (bC (.int 0))) (zqa (bBin zqb (bVar 1) (bC (.int 0))) (zqa (bBin zqb (bVar 1) (bC (.int 2))) (aNil))))) [1,1,1]) sNil)
 (zjj 1)))))
def c_box:Fn:=mkFn false 1 1 Xc_box
def Xc_pile:Fs:=(sSeq (sSet false 2 (zqd zqy (aNil)) [])
 (sSeq (zvx zqz (zqa (bBin zqb (bVar 0) (bC (.int 0))) (aNil)) (asgN 3) (sSeq (sSet false 4 (zqd zqy (aNil)) [])
 (sSeq (zvx zqz (zqa (bBin zqb (bVar 0) (bC (.int 1))) (aNil)) (asgN 5) (sSeq (sSet false 6 (bBin zqb (bVar 0) (bC (.int 2))) [0])
 (sSeq (sIf (bT (bBin (zwm λ i j=>decide (j < i)) (bVar 3) (bC (.int 0)))) (sSet false 6 (bBin zqb (bBin zqb (bVar 2) (bBin zxv (bVar 3) (bC (.int 1)))) (bVar 5)) [2,3,5]) sNil)
 (sSeq (sIf (bT (bBin (zwm λ i j=>decide (j < i)) (bVar 5) (bC (.int 0)))) (sSet false 6 (zqd zyu (zqa (bVar 6) (zqa (bBin zqb (bVar 4) (bBin zxv (bVar 5) (bC (.int 1)))) (aNil)))) [6,4,5]) sNil)
 (sSeq (sSet false 7 (bBin zqb (bVar 1) (bBin zqw (bBin zvh (bC (.int 6)) (bVar 3)) (bVar 5))) [1,3,5])
 (sApp 4 (bBin zqb (zqd zqy (zqa (bBin zqn (bVar 7) (bBin zqw (bVar 6) (bC (.int 1)))) (zqa (zqd zkf (zqa (bC (.int 0)) (zqa (bBin zxv (bVar 6) (bBin zxg (bBin zqn (bVar 7) (bC (.int 3))) (bC (.int 2)))) (aNil)))) (zqa (bBin zqn (bVar 7) (bBin zqw (bVar 6) (bC (.int 1)))) (zqa (bVar 6) (aNil)))))) (bBin zqn (bBin zqb (bVar 1) (bC (.int 36))) (bC (.int 4)))) [7,6,6,7,7,6,6,1]))))))
 (sApp 2 (bVar 4) [4]))))
 (sSeq (sIf (bT (bBin (opEq false) (bBin zqn (bBin zqb (bVar 1) (bC (.int 36))) (bC (.int 4))) (bC (.int 3)))) (sSeq (zyr 2 (bUn zvy (bC (.int 1))) (zqh (bBin zqb (bVar 2) (bUn zvy (bC (.int 1)))) 1 (asgN 8) zqj (bBin zxv (bVar 8) (bBin zqn (bBin zqb (bVar 1) (bC (.int 37))) (bBin zqw (bVar 8) (bC (.int 1)))))))
 (zyr 2 (bUn zvy (bC (.int 1))) (zxs zqz (zqa (bBin zqb (bVar 0) (bC (.int 1))) (aNil)) 1 (asgN 8) zqj (zqd zyu (zqa (bSl (bBin zqb (bVar 2) (bUn zvy (bC (.int 1)))) none (some (bBin zqw (bVar 8) (bC (.int 1))))) (aNil)))))) sNil)
 (zjj 2))))
def c_pile:Fn:=mkFn false 2 6 Xc_pile
def Xc_cubes:Fs:=(sSeq (sSet false 1 (zqd zqy (aNil)) [])
 (sSeq (zvx zqz (zqa (zqd zwh (zqa (bVar 0) (aNil))) (aNil)) (asgN 2) (zvx zqz (zqa (zqd zwh (zqa (bBin zqb (bVar 0) (bVar 2)) (aNil))) (aNil)) (asgN 3) (sSet false 1 (bBin zqw (bVar 1) (zxs zqz (zqa (bBin zqb (bBin zqb (bVar 0) (bVar 2)) (bVar 3)) (aNil)) 1 (asgN 4) zqj (zqd zxt (zqa (bVar 2) (zqa (bVar 3) (zqa (bVar 4) (aNil))))))) [1,2,3])))
 (zjj 1)))
def c_cubes:Fn:=mkFn false 1 3 Xc_cubes
def Xc_of_cubes:Fs:=(sSeq (sSet false 2 (zxs zqz (zqa (bBin zqb (bVar 0) (bC (.int 0))) (aNil)) 1 (asgN 6) zqj (zxs zqz (zqa (bBin zqb (bVar 0) (bC (.int 1))) (aNil)) 1 (asgN 7) zqj (bC (.int 0)))) [])
 (sSeq (zku (bVar 1) [1] (asgT [3,4,5]) (qao 2 (bVar 3) (bVar 4) (bBin zqw (bBin zqb (bBin zqb (bVar 2) (bVar 3)) (bVar 4)) (bC (.int 1)))))
 (zjj 2)))
def c_of_cubes:Fn:=mkFn false 2 4 Xc_of_cubes
def Xc_turned:Fs:=(sSeq (sSet false 3 (bBin zqb (zqd zqy (zqa (zqd zqy (zqa (bC (.int 0)) (zqa (bC (.int 1)) (zqa (bC (.int 2)) (aNil))))) (zqa (zqd zqy (zqa (bC (.int 1)) (zqa (bC (.int 0)) (zqa (bC (.int 2)) (aNil))))) (zqa (zqd zqy (zqa (bC (.int 1)) (zqa (bC (.int 2)) (zqa (bC (.int 0)) (aNil))))) (zqa (zqd zqy (zqa (bC (.int 2)) (zqa (bC (.int 1)) (zqa (bC (.int 0)) (aNil))))) (zqa (zqd zqy (zqa (bC (.int 2)) (zqa (bC (.int 0)) (zqa (bC (.int 1)) (aNil))))) (zqa (zqd zqy (zqa (bC (.int 0)) (zqa (bC (.int 2)) (zqa (bC (.int 1)) (aNil))))) (aNil)))))))) (bVar 2)) [2])
 (sSeq (sSet false 4 (zqd zxt (zqa (bBin zqb (bVar 0) (bBin zqb (bVar 3) (bC (.int 0)))) (zqa (bBin zqb (bVar 0) (bBin zqb (bVar 3) (bC (.int 1)))) (zqa (bBin zqb (bVar 0) (bBin zqb (bVar 3) (bC (.int 2)))) (aNil))))) [0,3,0,3,0,3])
 (sSeq (sSet false 5 (zqh (zqe c_cubes (zqa (bVar 1) (aNil))) 1 (asgN 6) zqj (zqd zxt (zqa (bBin zqb (bVar 6) (bBin zqb (bVar 3) (bC (.int 0)))) (zqa (bBin zqb (bVar 6) (bBin zqb (bVar 3) (bC (.int 1)))) (zqa (bBin zqb (bVar 6) (bBin zqb (bVar 3) (bC (.int 2)))) (aNil)))))) [1,1,3,1,3,1,3])
 (sRet (zqd zxt (zqa (bVar 4) (zqa (zqe c_of_cubes (zqa (bVar 4) (zqa (bVar 5) (aNil)))) (aNil))))))))
def c_turned:Fn:=mkFn false 3 3 Xc_turned
def Xc_rest:Fs:=(sRet (zqh (bUn opRv (bVar 1)) 1 (asgN 2) zqj (zqh (bUn opRv (bVar 2)) 1 (asgN 3) zqj (bBin zxv (bBin zqb (bVar 0) (bC (.int 2))) (bVar 3)))))
def c_rest:Fn:=mkFn false 2 0 Xc_rest
def Xc_own:Fs:=(sSeq (sIf (bT (zwj (bBin (opEq false) (bVar 2) (bC (.int 0))) (bBin (opEq false) (bBin zqb (bVar 0) (bC (.int 0))) (bBin zqb (bVar 0) (bC (.int 1)))))) (sSeq (sSet false 3 (bBin zqb (zqe c_turned (zqa (bVar 0) (zqa (bVar 1) (zqa (bC (.int 1)) (aNil))))) (bC (.int 1))) [0,1])
 (sRet (zwy .zp (zqa (bVar 1) (zqa (bVar 3) (aNil))) 2 (asgT [7,8]) zqj (zwy .zp (zqa (bVar 7) (zqa (bVar 8) (aNil))) 2 (asgT [9,10]) zqj (zqd zkf (zqa (bVar 9) (zqa (bVar 10) (aNil)))))))) sNil)
 (sSeq (sIf (bT (zwj (bBin (opEq false) (bVar 2) (bC (.int 1))) (zwj (bBin (opEq false) (bBin zqb (bVar 0) (bC (.int 0))) (bBin zqb (bVar 0) (bC (.int 1)))) (bBin (opEq false) (bBin zqb (bVar 0) (bC (.int 1))) (bBin zqb (bVar 0) (bC (.int 2))))))) (sSeq (sSet false 4 (zqe c_cubes (zqa (bBin zqb (zqe c_turned (zqa (bVar 0) (zqa (bVar 1) (zqa (bC (.int 2)) (aNil))))) (bC (.int 1))) (aNil))) [0,1])
 (sSeq (sSet false 5 (zqe c_cubes (zqa (bBin zqb (zqe c_turned (zqa (bVar 0) (zqa (bVar 1) (zqa (bC (.int 4)) (aNil))))) (bC (.int 1))) (aNil))) [0,1])
 (sRet (zqe c_of_cubes (zqa (bVar 0) (zqa (zqh (zqe c_cubes (zqa (bVar 1) (aNil))) 1 (asgN 7) (bT (zwj (bBin (opIn false) (bVar 7) (bVar 4)) (bBin (opIn false) (bVar 7) (bVar 5)))) (bVar 7)) (aNil))))))) sNil)
 (sSeq (sIf (bT (zwj (bBin (opEq false) (bVar 2) (bC (.int 2))) (bBin (opEq false) (bBin zqn (bBin zqb (bVar 0) (bC (.int 0))) (bC (.int 2))) (bC (.int 0))))) (sSeq (sSet false 6 (zqh (bSl (bVar 1) none (some (bBin zxg (bBin zqb (bVar 0) (bC (.int 0))) (bC (.int 2))))) 1 (asgN 7) zqj (zqh (bVar 7) 1 (asgN 8) zqj (zqd zkf (zqa (bVar 8) (zqa (bBin zxv (bBin zqb (bVar 0) (bC (.int 2))) (bBin zxg (bBin zqb (bVar 0) (bC (.int 2))) (bC (.int 2)))) (aNil)))))) [1,1,1,0,0])
 (sRet (bBin zqw (bVar 6) (zqe c_rest (zqa (bVar 0) (zqa (bVar 6) (aNil))))))) sNil)
 (sSeq (sIf (bT (zwj (bBin (opEq false) (bVar 2) (bC (.int 3))) (bBin (opEq false) (bBin zqn (bBin zqb (bVar 0) (bC (.int 1))) (bC (.int 2))) (bC (.int 0))))) (sSeq (sSet false 6 (zqh (bVar 1) 1 (asgN 7) zqj (zqh (bSl (bVar 7) none (some (bBin zxg (bBin zqb (bVar 0) (bC (.int 1))) (bC (.int 2))))) 1 (asgN 8) zqj (zqd zkf (zqa (bVar 8) (zqa (bBin zxv (bBin zqb (bVar 0) (bC (.int 2))) (bBin zxg (bBin zqb (bVar 0) (bC (.int 2))) (bC (.int 2)))) (aNil)))))) [1,1,1,0,0])
 (sRet (zwy .zp (zqa (bVar 6) (zqa (bUn opRv (bVar 6)) (aNil))) 2 (asgT [7,8]) zqj (bBin zqw (bVar 7) (zqh (bUn opRv (bVar 8)) 1 (asgN 9) zqj (bBin zxv (bBin zqb (bVar 0) (bC (.int 2))) (bVar 9))))))) sNil)
 (sSeq (sIf (bT (bBin (opEq false) (bVar 2) (bC (.int 4)))) (sRet (zqh (bVar 1) 1 (asgN 7) zqj (zqh (bVar 7) 1 (asgN 8) zqj (bBin zxg (bBin zqb (bVar 0) (bC (.int 2))) (bC (.int 2)))))) sNil)
 (zjj 1))))))
def c_own:Fn:=mkFn false 3 4 Xc_own
theorem sz:(1000000:Nat)<=va8:=by decide
theorem qg6 (i:Int):f_is_whole_number [.int i]=.ok (.bl true,om,.non):=by kernel_rfl
def boxB (a b c:Int):Bool:=decide (1<=a) && (decide (1<=b) && decide (1<=c))
theorem qfw (a b c:Int):f_is_box [bx a b c]=.ok (.bl (boxB a b c),om,.non):=by
 have e0:∀ x∈[a,b,c],(zwj (zqe f_is_whole_number (zqa (bVar 1) (aNil))) (bBin (zwm λ i j=>decide (j<=i)) (bVar 1) (bC (.int 1)))) ([some (bx a b c,0)]++[some (.int x,om)])=.ok (.bl (decide (1<=x)),om,[some (bx a b c,0)]++[some (.int x,om)]):=λ x _=>by kernel_rfl
 have e1:=qi0 (n:=1) (f:=bVar 0) (ρ:=[some (bx a b c,0)]) (enc:=PV.int) (q:=λ x=>.bl (decide (1<=x))) (d:=0) [a,b,c] rfl rfl e0 (by have:=sz;show 3<=va8;omega)
 refine zwn rfl (ρ':=[some (bx a b c,0)]) ?_
 show Xf_is_box [some (bx a b c,0)]=_
 refine (qan (ρ1:=[some (bx a b c,0)]) (by kernel_rfl)).trans (zxo ?_)
 rw [all_ok e1]
 show Rz.ok (PV.bl (decide (1<=a) && (decide (1<=b) && (decide (1<=c) && true))),om,_)=_
 rw [jh1]
 rfl
theorem qay {a b c:Int} (h:boxB a b c=true):f_must_be_box [bx a b c]=.ok (.non,om,.non):=by
 refine qpt rfl (ρ':=[some (bx a b c,0)]) ?_
 have hb:=qfw a b c
 rw [h] at hb
 exact if_f (f:=sNo) (g:=sNil) (t_ok (qby (zqf (F:=f_is_box) (fa:=zqa (bVar 0) aNil) (ρ:=[some (bx a b c,0)]) (xs:=[(bx a b c,0)]) rfl hb)))
def rowB (xs:List Int) (c h:Int):Bool:=decide ((xs.length:Int)=c) && xs.all λ x=>decide (0<=x) && decide (x<=h)
theorem qod (xs:List Int) (c h:Int) (hl:xs.length<=1000):f_is_row_of_heights [il xs,.int c,.int h]=.ok (.bl (rowB xs c h),om,.non):=by
 have e0:∀ x∈xs,(zwj (zqe f_is_whole_number (zqa (bVar 3) (aNil))) (zym (λ i j=>decide (i<=j)) (λ i j=>decide (i<=j)) (bC (.int 0)) (bVar 3) (bVar 2))) ([some (il xs,0),some (.int c,om),some (.int h,om)]++[some (.int x,om)])=.ok (.bl (decide (0<=x) && decide (x<=h)),om,[some (il xs,0),some (.int c,om),some (.int h,om)]++[some (.int x,om)]):=λ x _=>
  zvw (a:=true) (zqf (xs:=[(.int x,om)]) rfl (qg6 x)) (λ _=>qcw (i:=0) (j:=x) (k:=h) rfl rfl rfl) rfl
 have e1:=zxi (n:=3) (f:=bVar 0) (ρ:=[some (il xs,0),some (.int c,om),some (.int h,om)]) (enc:=PV.int) (q:=λ x=>.bl (decide (0<=x) && decide (x<=h))) (d:=0) xs rfl rfl e0 (by have:=sz;omega)
 have t:bT (bOrV (bUn zvp (bUn (zjk "list") (bVar 0))) (bBin (opEq true) (zqd zwh (zqa (bVar 0) (aNil))) (bVar 1))) [some (il xs,0),some (.int c,om),some (.int h,om)]=.ok (!decide ((xs.length:Int)=c),[some (il xs,0),some (.int c,om),some (.int h,om)]):=by
  refine t_ok (d:=om) ((qow (a:=false) rfl (λ _=>zky (qb5 (xs:=xs) (d:=0) rfl) (j:=c) rfl) rfl).trans ?_)
  rw [jt3,Bool.true_xor]
 refine zwn rfl (ρ':=[some (il xs,0),some (.int c,om),some (.int h,om)]) ?_
 show Xf_is_row_of_heights [some (il xs,0),some (.int c,om),some (.int h,om)]=_
 unfold rowB
 by_cases hc:(xs.length:Int)=c
 ·rw [decide_eq_true hc] at t ⊢
  refine (qan t).trans (zxo ?_)
  rw [all_ok e1]
  rfl
 ·rw [decide_eq_false hc] at t ⊢
  exact zpr ((if_t t).trans rfl)
def nrB (xs:List Int):Bool:=(ja2 ((xs.length:Int) - 1).toNat).all λ k=>decide (xs.getD (k + 1) 0<=xs.getD k 0)
theorem qb0 (xs:List Int) (hl:xs.length<=1000):f_never_rises [il xs]=.ok (.bl (nrB xs),om,.non):=by
 have e0:∀ k,k < ((xs.length:Int) - 1).toNat->(bBin (zwm λ i j=>decide (i<=j)) (bBin zqb (bVar 0) (bVar 1)) (bBin zqb (bVar 0) (bBin zxv (bVar 1) (bC (.int 1))))) ([some (il xs,0)]++[some (.int (1 + (k:Int)),om)])=.ok (.bl (decide (xs.getD (k + 1) 0<=xs.getD k 0)),om,[some (il xs,0)]++[some (.int (1 + (k:Int)),om)]):=λ k hk=>by
  refine qp4 (i:=xs.getD (k + 1) 0) (j:=xs.getD k 0) (zye (xs:=xs) (k:=1 + (k:Int)) rfl rfl (zzc (by omega) ?_)) (zye (xs:=xs) (k:=1 + (k:Int) - 1) rfl rfl (zzc (by omega) ?_))
  ·rw [show (1 + (k:Int)).toNat=k + 1 by omega,ja8 (show k + 1 < xs.length by omega),ja0,ja8 (show k + 1 < xs.length by omega)];rfl
  ·rw [show (1 + (k:Int) - 1).toNat=k by omega,ja8 (show k < xs.length by omega),ja0,ja8 (show k < xs.length by omega)];rfl
 have e1:=zva (n:=1) (en:=zpa) (ρ:=[some (il xs,0)]) (q:=λ k=>.bl (decide (xs.getD (k + 1) 0<=xs.getD k 0))) (zqu (f:=bC (.int 1)) (d:=om) (x:=.int 1) rfl (zqr (qb5 (fa:=zqa (bVar 0) aNil) (xs:=xs) (d:=0) rfl))) (qiq (by decide) (by decide) (by omega) (by omega)) rfl e0 (by have:=sz;omega)
 exact zwn rfl (ρ':=[some (il xs,0)]) (zxo (all_ok e1))
def zwi (t:List (List Int)) (j:Nat):List Int:=t.map λ r=>r.getD j 0
theorem zxm {xs:List Int}{j:Nat} (h:j < xs.length):xs[j]?=some (xs.getD j 0):=by
 rw [ja0,ja8 h];rfl
theorem zxw {xs:List (List Int)}{j:Nat} (h:j < xs.length):xs[j]?=some (xs.getD j []):=by
 rw [ja0,ja8 h];rfl
theorem zpe (t:List (List Int)) (j:Nat) (hl:t.length<=1000) (hr:∀ r∈t,j < r.length):f_column_of [tb t,.int (j:Int)]=.ok (il (zwi t j),om,.non):=by
 have e0:∀ r∈t,(bBin zqb (bVar 2) (bVar 1)) ([some (tb t,0),some (.int (j:Int),om)]++[some (il r,0)])=.ok (.int (r.getD j 0),om,[some (tb t,0),some (.int (j:Int),om)]++[some (il r,0)]):=λ r hm=>
  zye (xs:=r) (k:=(j:Int)) rfl rfl (zzc (by omega) (zxm (hr r hm)))
 have e1:=zxi (n:=2) (f:=bVar 0) (ρ:=[some (tb t,0),some (.int (j:Int),om)]) (enc:=il) (q:=λ r=>.int (r.getD j 0)) (d:=0) t rfl rfl e0 (by have:=sz;omega)
 refine zwn rfl (ρ':=[some (tb t,0),some (.int (j:Int),om)]) ((zxo e1).trans ?_)
 unfold zwi il
 rw [jc2]
 rfl
theorem qjc (xs:List Int) (k:Int) (hl:xs.length<=1000):f_how_many_above [il xs,.int k]=.ok (.int ((xs.filter λ x=>decide (k < x)).length:Nat),om,.non):=by
 have e1:=qi1 (n:=2) (f:=bVar 0) (elt:=bVar 2) (test:=bT (bBin (zwm λ i j=>decide (j < i)) (bVar 2) (bVar 1))) (ρ:=[some (il xs,0),some (.int k,om)]) (enc:=PV.int) (q:=PV.int) (p:=λ x=>decide (k < x)) (d:=0) xs rfl rfl (λ x _=>rfl) (λ x _ _=>rfl) (by have:=sz;omega)
 exact zwn rfl (ρ':=[some (il xs,0),some (.int k,om)]) (zxo (qb5 (xs:=xs.filter λ x=>decide (k < x)) (zqr e1)))
def Tab (a b:Nat) (t:List (List Int)):Prop:=t.length=a/\∀ r∈t,r.length=b
def qev (a b:Nat) (c:Int) (t:List (List Int)):Bool:=(t.all λ r=>rowB r b c) && ((t.all nrB) && ((ja2 b).all λ j=>nrB (zwi t j)))
theorem qdk {a b:Nat}{c:Int}{t:List (List Int)} (ht:Tab a b t) (ha:1<=a/\a<=100) (hb:1<=b/\b<=100) (hc:1<=c):f_is_pile [bx a b c,tb t]=.ok (.bl (qev a b c t),om,.non):=by
 let R0:Rho:=[some (bx a b c,0),some (tb t,0),none,none,none]
 let R1:Rho:=[some (bx a b c,0),some (tb t,0),some (.int a,om),some (.int b,om),some (.int c,om)]
 have hbx:boxB a b c=true:=by unfold boxB;rw [decide_eq_true (by omega),decide_eq_true (by omega),decide_eq_true hc];rfl
 have hs:=sz
 have l1:=ht.1
 have s1:zve (zqe f_must_be_box (zqa (bVar 0) (aNil))) R0=.nx R0:=zkz (zqf (xs:=[(bx a b c,0)]) rfl (qay hbx))
 have s2:sUnp (asgT [2,3,4]) (bVar 0) [0] R0=.nx R1:=by kernel_rfl
 have t3:bT (bOrV (bUn zvp (bUn (zjk "list") (bVar 1))) (bBin (opEq true) (zqd zwh (zqa (bVar 1) (aNil))) (bVar 2))) R1=.ok (false,R1):=by
  refine t_ok (d:=om) ((qow (a:=false) rfl (λ _=>zky (qj0 (t:=t) (d:=0) rfl) (j:=(a:Int)) rfl) rfl).trans ?_)
  rw [l1];simp
 have e4:∀ r∈t,(zqe f_is_row_of_heights (zqa (bVar 5) (zqa (bVar 3) (zqa (bVar 4) (aNil))))) (R1++[some (il r,0)])=.ok (.bl (rowB r b c),om,R1++[some (il r,0)]):=λ r hr=>
  zqf (xs:=[(il r,0),(.int b,om),(.int c,om)]) rfl (qod r b c (by rw [ht.2 r hr];omega))
 have t4:=t_ok (qby (all_ok (zxi (n:=5) (f:=bVar 1) (ρ:=R1) (enc:=il) (q:=λ r=>.bl (rowB r b c)) (d:=0) t rfl rfl e4 (by omega))))
 have e5:∀ r∈t,(zqe f_never_rises (zqa (bVar 5) (aNil))) (R1++[some (il r,0)])=.ok (.bl (nrB r),om,R1++[some (il r,0)]):=λ r hr=>
  zqf (xs:=[(il r,0)]) rfl (qb0 r (by rw [ht.2 r hr];omega))
 have t5:=t_ok (qby (all_ok (zxi (n:=5) (f:=bVar 1) (ρ:=R1) (enc:=il) (q:=λ r=>.bl (nrB r)) (d:=0) t rfl rfl e5 (by omega))))
 have e6:∀ k,k < ((b:Int) - 0).toNat->(zqe f_never_rises (zqa (zqe f_column_of (zqa (bVar 1) (zqa (bVar 5) (aNil)))) (aNil))) (R1++[some (.int (0 + (k:Int)),om)])=.ok (.bl (nrB (zwi t k)),om,R1++[some (.int (0 + (k:Int)),om)]):=λ k hk=>by
  have e:=zpe t k (by omega) λ r hr=>by rw [ht.2 r hr];omega
  rw [jh2]
  exact zqf (xs:=[(il (zwi t k),om)]) (zqr (zqf (xs:=[(tb t,0),(.int (k:Int),om)]) rfl e)) (qb0 _ (by unfold zwi;rw [ja3];omega))
 have e7:=zva (n:=5) (en:=zqz) (fa:=zqa (bVar 3) aNil) (ρ:=R1) (q:=λ k=>.bl (nrB (zwi t k))) (as:=[(.int (b:Int),om)]) rfl (zxq (by omega) (by omega)) rfl e6 (by omega)
 rw [show ((b:Int) - 0).toNat=b by omega] at e7
 refine zwn rfl (ρ':=R1) ?_
 show Xf_is_pile R0=_
 unfold qev
 refine (zqg s1).trans ((zqg s2).trans ((qan t3).trans ?_))
 cases h1:t.all λ r=>rowB r b c with
 | false=>
  rw [h1] at t4
  exact zpr ((if_t t4).trans rfl)
 | true=>
  rw [h1] at t4
  refine (qan t4).trans ?_
  cases h2:t.all nrB with
  | false=>
   have h2':t.all (λ r=>nrB r)=false:=h2
   rw [h2'] at t5
   exact zpr ((if_t t5).trans rfl)
  | true=>
   have h2':t.all (λ r=>nrB r)=true:=h2
   rw [h2'] at t5
   exact (qan t5).trans (zxo (all_ok e7))
theorem zwd {a b:Nat}{c:Int}{t:List (List Int)} (ht:Tab a b t) (ha:1<=a/\a<=100) (hb:1<=b/\b<=100) (hc:1<=c) (h:qev a b c t=true):f_must_be_pile [bx a b c,tb t]=.ok (.non,om,.non):=by
 refine qpt rfl (ρ':=[some (bx a b c,0),some (tb t,0)]) ?_
 have hp:=qdk ht ha hb hc
 rw [h] at hp
 exact if_f (f:=sNo) (g:=sNil) (t_ok (qby (zqf (F:=f_is_pile) (fa:=zqa (bVar 0) (zqa (bVar 1) aNil)) (ρ:=[some (bx a b c,0),some (tb t,0)]) (xs:=[(bx a b c,0),(tb t,0)]) rfl hp)))
def cnt (xs:List Int) (k:Int):Int:=((xs.filter λ x=>decide (k < x)).length:Nat)
def zbf (t:List (List Int)) (k:Int):List Int:=t.map λ r=>cnt r k
def zqt (t:List (List Int)) (c:Nat):List (List Int):=(ja2 c).map λ (k:Nat)=>zbf t (k:Int)
theorem qaf (t:List (List Int)) (r:List Int):PV.lst ((t.map il)++[il r])=tb (t++[r]):=by
 unfold tb
 rw [jd3]
 rfl
def g (t:List (List Int)) (i j:Nat):Int:=(t.getD i []).getD j 0
structure Pile (a b:Nat) (c:Int) (t:List (List Int)):Prop where
 tab:Tab a b t
 lo:∀ i j,i < a->j < b->0<=g t i j
 hi:∀ i j,i < a->j < b->g t i j<=c
 dn:∀ i j,i + 1 < a->j < b->g t (i + 1) j<=g t i j
 rt:∀ i j,i < a->j + 1 < b->g t i (j + 1)<=g t i j
theorem qap {t:List (List Int)}{i:Nat} (h:i < t.length):t.getD i []∈t:=by
 rw [ja0,ja8 h]
 exact je4 h
theorem Tab.row {a b:Nat}{t:List (List Int)} (h:Tab a b t) {i:Nat} (hi:i < a):(t.getD i []).length=b:=h.2 _ (qap (by rw [h.1];exact hi))
theorem zjz {xs:List Int}{i:Nat} (h:i < xs.length):xs.getD i 0∈xs:=by
 rw [ja0,ja8 h]
 exact je4 h
theorem mem_getD {xs:List Int}{x:Int} (h:x∈xs):∃ i,i < xs.length/\xs.getD i 0=x:=by
 obtain ⟨i,hi,e⟩:=jh6 h
 exact ⟨i,hi,by rw [ja0,ja8 hi];exact e⟩
theorem zbt {t:List (List Int)}{r:List Int} (h:r∈t):∃ i,i < t.length/\t.getD i []=r:=by
 obtain ⟨i,hi,e⟩:=jh6 h
 exact ⟨i,hi,by rw [ja0,ja8 hi];exact e⟩
theorem zkp {xs ys:List Int} (hl:xs.length=ys.length) (h:∀ i,i < xs.length->xs.getD i 0=ys.getD i 0):xs=ys:=by
 refine jn4 hl λ i h1 h2=>?_
 have:=h i h1
 rw [ja0,ja8 h1,ja0,ja8 h2] at this
 exact this
theorem zwq {a b:Nat}{t u:List (List Int)} (ht:Tab a b t) (hu:Tab a b u) (h:∀ i j,i < a->j < b->g t i j=g u i j):t=u:=by
 refine jn4 (by rw [ht.1,hu.1]) λ i h1 h2=>?_
 have hi:i < a:=by rw [<- ht.1];exact h1
 have e1:t.getD i []=t[i]:=by rw [ja0,ja8 h1];rfl
 have e2:u.getD i []=u[i]:=by rw [ja0,ja8 h2];rfl
 rw [<- e1,<- e2]
 refine zkp (by rw [ht.row hi,hu.row hi]) λ j hj=>h i j hi (by rw [<- ht.row hi];exact hj)
theorem qbm {xs:List Int}{c h:Int}:rowB xs c h=true↔(xs.length:Int)=c/\∀ x∈xs,0<=x/\x<=h:=by
 unfold rowB
 rw [ja5,decide_eq_true_iff,jb8]
 constructor
 ·rintro ⟨h1,h2⟩
  refine ⟨h1,λ x hx=>?_⟩
  have:=h2 x hx
  rw [ja5,decide_eq_true_iff,decide_eq_true_iff] at this
  exact this
 ·rintro ⟨h1,h2⟩
  refine ⟨h1,λ x hx=>?_⟩
  rw [ja5,decide_eq_true_iff,decide_eq_true_iff]
  exact h2 x hx
theorem zfd {xs:List Int}:nrB xs=true↔∀ k,k + 1 < xs.length->xs.getD (k + 1) 0<=xs.getD k 0:=by
 unfold nrB
 rw [jb8]
 constructor
 ·intro h k hk
  exact of_decide_eq_true (h k (jb9.mpr (by omega)))
 ·intro h k hk
  have:=jb9.mp hk
  exact decide_eq_true (h k (by omega))
theorem zzu {t:List (List Int)}{i j:Nat} (h:i < t.length):(zwi t j).getD i 0=g t i j:=by
 unfold zwi g
 rw [ja0,jc1,ja8 h,ja0 (l:=t),ja8 h]
 rfl
theorem zzb {t:List (List Int)}{j:Nat}:(zwi t j).length=t.length:=by unfold zwi;rw [ja3]
theorem zvg {a b:Nat}{c:Int}{t:List (List Int)} (ht:Tab a b t):qev a b c t=true↔Pile a b c t:=by
 unfold qev
 rw [ja5,ja5,jb8,jb8,jb8]
 constructor
 ·rintro ⟨h1,h2,h3⟩
  have q:∀ i j,i < a->j < b->0<=g t i j/\g t i j<=c:=λ i j hi hj=>(qbm.mp (h1 _ (qap (by rw [ht.1];exact hi)))).2 _ (zjz (by rw [ht.row hi];exact hj))
  refine ⟨ht,λ i j hi hj=>(q i j hi hj).1,λ i j hi hj=>(q i j hi hj).2,λ i j hi hj=>?_,λ i j hi hj=>?_⟩
  ·have:=zfd.mp (h3 j (jb9.mpr hj)) i (by rw [zzb,ht.1];exact hi)
   rw [zzu (by rw [ht.1];exact hi),zzu (by rw [ht.1];omega)] at this
   exact this
  ·exact zfd.mp (h2 _ (qap (by rw [ht.1];exact hi))) j (by rw [ht.row hi];exact hj)
 ·intro p
  refine ⟨λ r hr=>qbm.mpr ⟨by rw [ht.2 r hr],λ x hx=>?_⟩,λ r hr=>zfd.mpr λ k hk=>?_,λ j hj=>zfd.mpr λ k hk=>?_⟩
  ·obtain ⟨i,hi,rfl⟩:=zbt hr
   obtain ⟨j,hj,rfl⟩:=mem_getD hx
   have hi':i < a:=by rw [<- ht.1];exact hi
   rw [ht.row hi'] at hj
   exact ⟨p.lo i j hi' hj,p.hi i j hi' hj⟩
  ·obtain ⟨i,hi,rfl⟩:=zbt hr
   have hi':i < a:=by rw [<- ht.1];exact hi
   rw [ht.row hi'] at hk
   exact p.rt i k hi' hk
  ·rw [zzb,ht.1] at hk
   rw [zzu (by rw [ht.1];exact hk),zzu (by rw [ht.1];omega)]
   exact p.dn k j hk (jb9.mp hj)
def mkT (a b:Nat) (f:Nat->Nat->Int):List (List Int):=(ja2 a).map λ i=>(ja2 b).map λ j=>f i j
theorem zzo {a b:Nat}{f:Nat->Nat->Int}:Tab a b (mkT a b f):=by
 refine ⟨by unfold mkT;rw [ja3,jc8],λ r hr=>?_⟩
 obtain ⟨i,_,rfl⟩:=je3.mp hr
 rw [ja3,jc8]
theorem zkw {b j:Nat}{f:Nat->Int} (hj:j < b):((ja2 b).map f).getD j 0=f j:=by
 rw [ja0,jc1,jo9 hj];rfl
theorem zbs {a i:Nat}{f:Nat->List Int} (hi:i < a):((ja2 a).map f).getD i []=f i:=by
 rw [ja0,jc1,jo9 hi];rfl
theorem zqo {a b i j:Nat}{f:Nat->Nat->Int} (hi:i < a) (hj:j < b):g (mkT a b f) i j=f i j:=by
 unfold g mkT
 rw [zbs hi,zkw hj]
theorem zwa {a b c:Nat}{t:List (List Int)} (ht:Tab a b t):Tab c a (zqt t c):=by
 refine ⟨by unfold zqt;rw [ja3,jc8],λ r hr=>?_⟩
 obtain ⟨i,_,rfl⟩:=je3.mp hr
 unfold zbf
 rw [ja3,ht.1]
theorem zqx {a b c k i:Nat}{t:List (List Int)} (ht:Tab a b t) (hk:k < c) (hi:i < a):g (zqt t c) k i=cnt (t.getD i []) k:=by
 unfold g zqt
 rw [zbs hk]
 unfold zbf
 rw [ja0,jc1,ja8 (by rw [ht.1];exact hi),ja0,ja8 (by rw [ht.1];exact hi)]
 rfl
theorem zvb {x k:Int}{r:List Int}:cnt (x::r) k=cnt r k + if k < x then 1 else 0:=by
 unfold cnt
 by_cases h:k < x
 ·rw [jf7 (p:=λ x=>decide (k < x)) (decide_eq_true h),ja9,if_pos h];omega
 ·rw [je9 (p:=λ x=>decide (k < x)) (by rw [decide_eq_true_iff];exact h),if_neg h];omega
theorem qcr (r:List Int) (k:Int):0<=cnt r k:=by unfold cnt;omega
theorem qgn (r:List Int) (k:Int):cnt r k<=r.length:=by
 unfold cnt
 have:=List.length_filter_le (λ x=>decide (k < x)) r
 omega
def Nr (r:List Int):Prop:=∀ k,k + 1 < r.length->r.getD (k + 1) 0<=r.getD k 0
theorem Nr.tail {x:Int}{r:List Int} (h:Nr (x::r)):Nr r:=λ k hk=>h (k + 1) (by rw [ja9];omega)
theorem Nr.le {r:List Int} (h:Nr r):∀ {i j:Nat},i<=j->j < r.length->r.getD j 0<=r.getD i 0:=by
 intro i j hij hj
 induction j with
 | zero=>
  have:i=0:=by omega
  rw [this];exact ji6 _
 | succ j ih=>
  by_cases e:i=j + 1
  ·rw [e];exact ji6 _
  ·exact jk8 (h j hj) (ih (by omega) (by omega))
theorem qcq {k:Int}:∀ {r:List Int},(∀ x∈r,x<=k)->cnt r k=0
 | [],_=>rfl
 | x::r,h=>by
  rw [zvb,if_neg (by have:=h x ja4;omega),qcq λ y hy=>h y (ja1 _ hy)];rfl
theorem qcs {k:Int}:∀ {r:List Int},Nr r->∀ {j:Nat},j < r.length->((j:Int) < cnt r k↔k < r.getD j 0)
 | [],_,j,h=>absurd h (by simp)
 | x::r,hn,j,hj=>by
  rw [zvb]
  by_cases hx:k < x
  ·rw [if_pos hx]
   cases j with
   | zero=>
    have:=qcr r k
    constructor
    ·intro _;exact hx
    ·intro _;omega
   | succ j=>
    have:=qcs (k:=k) hn.tail (j:=j) (by rw [ja9] at hj;omega)
    show ((j + 1:Nat):Int) < _↔k < r.getD j 0
    rw [<- this];omega
  ·rw [if_neg hx,qcq]
   ·have:=hn.le (i:=0) (j:=j) (by omega) hj
    have e:(x::r).getD 0 0=x:=rfl
    rw [e] at this
    constructor <;> intro h <;> omega
   ·intro y hy
    obtain ⟨i,hi,rfl⟩:=mem_getD hy
    have:=hn.le (i:=0) (j:=i + 1) (by omega) (by rw [ja9];omega)
    have e:(x::r).getD 0 0=x:=rfl
    have e':(x::r).getD (i + 1) 0=r.getD i 0:=rfl
    rw [e,e'] at this
    omega
theorem zfq {x k:Int}:∀ {r:List Int},cnt (r++[x]) k=cnt r k + if k < x then 1 else 0
 | []=>by rw [ji3,zvb]
 | y::r=>by rw [jn3,zvb,zvb,zfq];omega
theorem zhp {f:Nat->Int}{j H:Int}:∀ {c:Nat},(∀ k,k < c->(j < f k↔(k:Int) < H))->0<=H->cnt ((ja2 c).map f) j=min (c:Int) H
 | 0,_,h0=>by show (0:Int)=_;omega
 | c + 1,h,h0=>by
  rw [jd7,jd3,jp5,zfq,zhp (λ k hk=>h k (by omega)) h0]
  have:=h c (by omega)
  by_cases e:(c:Int) < H
  ·rw [if_pos (this.mpr e)];omega
  ·rw [if_neg (λ z=>e (this.mp z))];omega
theorem Pile.nr {a b:Nat}{c:Int}{t:List (List Int)} (p:Pile a b c t) {i:Nat} (hi:i < a):Nr (t.getD i []):=λ k hk=>p.rt i k hi (by rw [p.tab.row hi] at hk;exact hk)
theorem zjp {a b c:Nat}{t:List (List Int)} (p:Pile a b c t) {i j k:Nat} (hi:i < a) (hj:j < b) (hk:k < c):(j:Int) < g (zqt t c) k i↔(k:Int) < g t i j:=by
 rw [zqx p.tab hk hi]
 exact qcs (p.nr hi) (by rw [p.tab.row hi];exact hj)
theorem zho {a b c:Nat}{t:List (List Int)} (ht:Tab a b t) {i:Nat} (hi:i < a):zwi (zqt t c) i=(ja2 c).map λ (k:Nat)=>cnt (t.getD i []) (k:Int):=by
 refine zkp (by rw [zzb,(zwa (c:=c) ht).1,ja3,jc8]) λ k hk=>?_
 rw [zzb,(zwa (c:=c) ht).1] at hk
 rw [zzu (by rw [(zwa (c:=c) ht).1];exact hk),zqx ht hk hi,zkw hk]
theorem zpk {a b c:Nat}{t:List (List Int)} (p:Pile a b c t) {i j:Nat} (hi:i < a) (hj:j < b):cnt (zwi (zqt t c) i) j=g t i j:=by
 rw [zho p.tab hi,zhp (H:=g t i j) (λ k hk=>qcs (p.nr hi) (by rw [p.tab.row hi];exact hj)) (p.lo i j hi hj)]
 have:=p.hi i j hi hj
 omega
theorem zbe {a b c:Nat}{t:List (List Int)} (p:Pile a b c t):Pile c a b (zqt t c):=by
 refine ⟨zwa p.tab,λ k i hk hi=>?_,λ k i hk hi=>?_,λ k i hk hi=>?_,λ k i hk hi=>?_⟩
 ·rw [zqx p.tab hk hi];exact qcr _ _
 ·rw [zqx p.tab hk hi]
  have:=qgn (t.getD i []) k
  rw [p.tab.row hi] at this
  exact this
 ·refine jt9.mp λ z=>?_
  have h0:0<=g (zqt t c) k i:=by rw [zqx p.tab (by omega) hi];exact qcr _ _
  have hb:g (zqt t c) (k + 1) i<=b:=by
   rw [zqx p.tab hk hi]
   have:=qgn (t.getD i []) ((k + 1:Nat):Int)
   rw [p.tab.row hi] at this
   exact this
  have h1:=(zjp p (j:=(g (zqt t c) k i).toNat) hi (by omega) hk).mp (by omega)
  have h2:=(zjp p (j:=(g (zqt t c) k i).toNat) (k:=k) hi (by omega) (by omega)).mpr (by omega)
  omega
 ·refine jt9.mp λ z=>?_
  have h0:0<=g (zqt t c) k i:=by rw [zqx p.tab (by omega) (by omega)];exact qcr _ _
  have hb:g (zqt t c) k (i + 1)<=b:=by
   rw [zqx p.tab hk hi]
   have:=qgn (t.getD (i + 1) []) k
   rw [p.tab.row hi] at this
   exact this
  have h1:=(zjp p (j:=(g (zqt t c) k i).toNat) (k:=k) hi (by omega) hk).mp (by omega)
  have h2:=(zjp p (j:=(g (zqt t c) k i).toNat) (k:=k) (i:=i) (by omega) (by omega) (by omega)).mpr (by have:=p.dn i (g (zqt t c) k i).toNat hi (by omega);omega)
  omega
def putT (t:List (List Int)) (i j:Nat):List (List Int):=t.set i ((t.getD i []).set j (g t i j + 1))
theorem zzf {α:Type}{xs:List α}{i:Nat}{x d:α} (h:i < xs.length):(xs.set i x).getD i d=x:=by
 rw [ja0,jd6 h];rfl
theorem zkt {α:Type}{xs:List α}{i j:Nat}{x d:α} (h:i≠j):(xs.set i x).getD j d=xs.getD j d:=by
 rw [ja0,jc7 h,ja0]
theorem qbp {a b:Nat}{t:List (List Int)} (ht:Tab a b t) {i j:Nat} (hi:i < a):Tab a b (putT t i j):=by
 refine ⟨by unfold putT;rw [jf1,ht.1],λ r hr=>?_⟩
 rcases jj1 hr with h | h
 ·exact ht.2 r h
 ·rw [h,jf1,ht.row hi]
theorem qhx {a b:Nat}{t:List (List Int)} (ht:Tab a b t) {i j i':Nat} (hi:i < a):(putT t i j).getD i' []=if i'=i then (t.getD i []).set j ((t.getD i []).getD j 0 + 1) else t.getD i' []:=by
 unfold putT
 by_cases h:i'=i
 ·rw [if_pos h,h,zzf (by rw [ht.1];exact hi)];rfl
 ·rw [if_neg h,zkt (λ e=>h e.symm)]
theorem qhy {a b:Nat}{t:List (List Int)} (ht:Tab a b t) {i j i' j':Nat} (hi:i < a) (hj:j < b):g (putT t i j) i' j'=g t i' j' + if i'=i/\j'=j then 1 else 0:=by
 have e:g (putT t i j) i' j'=((putT t i j).getD i' []).getD j' 0:=rfl
 rw [e,qhx ht hi]
 by_cases h:i'=i
 ·rw [if_pos h]
  by_cases h2:j'=j
  ·rw [if_pos ⟨h,h2⟩,h2,zzf (by rw [ht.row hi];exact hj),h];rfl
  ·rw [if_neg (λ z=>h2 z.2),zkt (λ e=>h2 e.symm),h]
   show _=(t.getD i []).getD j' 0 + 0
   omega
 ·rw [if_neg h,if_neg (λ z=>h z.1)]
  show (t.getD i' []).getD j' 0=(t.getD i' []).getD j' 0 + 0
  omega
theorem zwt {α:Type}{f:PV->Option vc5}{e:α->PV}{q:α->vc5} (h:∀ x,f (e x)=some (q x)):∀ xs:List α,toDL f (xs.map e)=some (xs.map q)
 | []=>rfl
 | x::xs=>by rw [jb7,toDL,h,zwt h xs];rfl
theorem qng (n:Nat) (xs:List Int):toD (n + 2) (il xs)=some (.list (xs.map .int)):=by
 show (toDL (toD (n + 1)) (xs.map PV.int)).map PyData.list=_
 rw [zwt (q:=PyData.int) (λ x=>rfl)];rfl
theorem qjh (n:Nat) (t:List (List Int)):toD (n + 3) (tb t)=some (.list (t.map λ r=>.list (r.map .int))):=by
 show (toDL (toD (n + 2)) (t.map il)).map PyData.list=_
 rw [zwt (λ x=>qng n x)];rfl
theorem zme:∀ xs ys:List Int,vb9 (xs.map .int) (ys.map .int)=decide (xs=ys)
 | [],[]=>rfl
 | [],y::ys=>rfl
 | x::xs,[]=>rfl
 | x::xs,y::ys=>by
  rw [jb7,jb7,vb9,zme xs ys]
  show ((x == y) && _)=_
  by_cases h:x=y
  ·subst h
   by_cases h2:xs=ys
   ·subst h2;simp
   ·simp [h2]
  ·simp [h]
theorem zmd:∀ t u:List (List Int),vb9 (t.map λ r=>.list (r.map .int)) (u.map λ r=>.list (r.map .int))=decide (t=u)
 | [],[]=>rfl
 | [],y::ys=>rfl
 | x::xs,[]=>rfl
 | x::xs,y::ys=>by
  rw [jb7,jb7,vb9,zmd xs ys,vb1,zme]
  by_cases h:x=y
  ·subst h
   by_cases h2:xs=ys
   ·subst h2;simp
   ·simp [h2]
  ·simp [h]
theorem qmo {neg:Bool}{f h:Fx}{ρ ρ1 ρ2:Rho}{t u:List (List Int)}{d e:Nat} (h1:f ρ=.ok (tb t,d,ρ1)) (h2:h ρ1=.ok (tb u,e,ρ2)):bBin (opEq neg) f h ρ=.ok (.bl (neg^^decide (t=u)),om,ρ2):=by
 refine zxj h1 h2 ?_
 unfold opEq
 rw [qjh 17,qjh 17]
 show some (PV.bl (neg^^vb1 _ _),om)=_
 rw [vb1,zmd]
theorem qmg {f h:Fx}{ρ ρ1 ρ2:Rho}{xs:List Int}{k x:Int}{d e:Nat} (h1:f ρ=.ok (.scr xs,d,ρ1)) (h2:h ρ1=.ok (.int k,e,ρ2)) (hx:atI xs k=some x):bBin zqb f h ρ=.ok (.int x,om,ρ2):=by
 refine zxj h1 h2 ?_
 show (atI xs k).map _=_
 rw [hx];rfl
theorem qmz (ns:List Int) (k:Nat):b_cell_at [.scr ns,.int (k:Int)]=.ok (.int (ns.getD k 0),om,.non):=by
 let R:Rho:=[some (.scr ns,om),some (.int (k:Int),om)]
 have t1:bT (bBin (zwm λ i j=>decide (i < j)) (bVar 1) (zqd zwh (zqa (bVar 0) (aNil)))) R=.ok (decide ((k:Int) < (ns.length:Int)),R):=rfl
 refine zwn rfl (ρ':=R) ?_
 by_cases h:(k:Int) < (ns.length:Int)
 ·rw [decide_eq_true h] at t1
  exact zpr ((if_t t1).trans (zxo (qmg (xs:=ns) (k:=(k:Int)) (d:=om) rfl rfl (zzc (by omega) (zxm (by omega))))))
 ·rw [decide_eq_false h] at t1
  refine (qan t1).trans ((zxo (d:=om) rfl).trans ?_)
  rw [ja0,jl0 (by omega)]
  rfl
theorem qf3 (xs:List Int) (x:Int):PV.lst (xs.map PV.int++[.int x])=il (xs++[x]):=by unfold il;rw [jd3];rfl
theorem qcz {α:Type}{xs:List α}{x:α} (h:xs[xs.length - 1]?=some x):atI xs (-1)=some x:=by
 have hl:=(jb3.mp h).1
 unfold atI ixN
 rw [if_neg (by decide),if_pos (by omega),show (-1 + (xs.length:Int)).toNat=xs.length - 1 by omega]
 exact h
theorem qg3 {f h:Fx}{ρ ρ1 ρ2:Rho}{xs ys:List PV}{d e:Nat} (h1:f ρ=.ok (.lst xs,d,ρ1)) (h2:h ρ1=.ok (.lst ys,e,ρ2)) (hl:xs.length + ys.length<=va8):bBin zqw f h ρ=.ok (.lst (xs++ys),d1 (xs++ys),ρ2):=by
 refine zxj h1 h2 ?_
 show (if _ then _ else _)=_
 rw [if_pos hl]
theorem zmb:∀ xs:List Int,zkr (xs.map PV.int)=some xs
 | []=>rfl
 | x::xs=>by rw [jb7,zkr,zmb xs];rfl
theorem qpb {fa:Fa}{ρ ρ1:Rho}{x:Int}{xs:List Int}{d:Nat} (h:fa ρ=.ok ([(il (x::xs),d)],ρ1)):zqd zyu fa ρ=.ok (.int (minI x xs),om,ρ1):=by
 refine zxb h ?_
 show (match zkr ((x::xs).map PV.int) with | some (n::r)=>some (PV.int (minI n r),om) | _=>none)=_
 rw [zmb]
def upH (c:Int) (t:List (List Int)) (j:Nat):Int:=if t.length=0 then c else g t (t.length - 1) j
def topH (c:Int) (t:List (List Int)) (r:List Int) (j:Nat):Int:=if r.length=0 then upH c t j else min (upH c t j) (r.getD (r.length - 1) 0)
theorem qhp {t:List (List Int)}{r:List Int}{i:Nat}:(t++[r]).getD i []=if i < t.length then t.getD i [] else if i=t.length then r else []:=by
 by_cases h:i < t.length
 ·rw [if_pos h,ja0,jc4 h,ja0]
 ·rw [if_neg h]
  by_cases h2:i=t.length
  ·rw [if_pos h2,h2,ja0,jl9];rfl
  ·rw [if_neg h2,ja0,jl0 (by rw [jb4,jg4];omega)];rfl
theorem zjq {r:List Int}{x:Int}{i:Nat}:(r++[x]).getD i 0=if i < r.length then r.getD i 0 else if i=r.length then x else 0:=by
 by_cases h:i < r.length
 ·rw [if_pos h,ja0,jc4 h,ja0]
 ·rw [if_neg h]
  by_cases h2:i=r.length
  ·rw [if_pos h2,h2,ja0,jl9];rfl
  ·rw [if_neg h2,ja0,jl0 (by rw [jb4,jg4];omega)];rfl
theorem Pile.snoc {k b:Nat}{c:Int}{t:List (List Int)}{r:List Int} (p:Pile k b c t) (hr:r.length=b) (h:∀ y,y < b->0<=r.getD y 0/\r.getD y 0<=upH c t y) (hn:Nr r):Pile (k + 1) b c (t++[r]):=by
 have l:=p.tab.1
 have e:∀ i j,g (t++[r]) i j=if i < k then g t i j else if i=k then r.getD j 0 else 0:=λ i j=>by
  unfold g
  rw [qhp,l]
  split
  ·rfl
  ·split <;> rfl
 have u:∀ y,y < b->upH c t y<=c:=λ y hy=>by
  unfold upH
  split
  ·exact ji6 _
  ·exact p.hi _ _ (by omega) hy
 refine ⟨⟨by rw [jb4,l];rfl,λ x hx=>?_⟩,λ i j hi hj=>?_,λ i j hi hj=>?_,λ i j hi hj=>?_,λ i j hi hj=>?_⟩
 ·rcases jc9.mp hx with z | z
  ·exact p.tab.2 x z
  ·rw [jc3.mp z,hr]
 ·rw [e]
  by_cases z:i < k
  ·rw [if_pos z];exact p.lo i j z hj
  ·rw [if_neg z,if_pos (by omega)];exact (h j hj).1
 ·rw [e]
  by_cases z:i < k
  ·rw [if_pos z];exact p.hi i j z hj
  ·rw [if_neg z,if_pos (by omega)];exact jk8 (h j hj).2 (u j hj)
 ·rw [e,e]
  by_cases z:i + 1 < k
  ·rw [if_pos z,if_pos (by omega)];exact p.dn i j z hj
  ·rw [if_neg z,if_pos (by omega),if_pos (by omega)]
   have:=(h j hj).2
   unfold upH at this
   rw [if_neg (by omega),l,show k - 1=i by omega] at this
   exact this
 ·rw [e,e]
  by_cases z:i < k
  ·rw [if_pos z,if_pos z];exact p.rt i j z hj
  ·rw [if_neg z,if_neg z,if_pos (by omega),if_pos (by omega)];exact hn j (by rw [hr];exact hj)
theorem qac:∀ xs:List Int,zft (xs.map PV.int)=true
 | []=>rfl
 | x::xs=>by rw [jb7,zft,qac xs];rfl
theorem zhn (xs:List Int):d1 (xs.map PV.int)=om:=by unfold d1;rw [qac];rfl
theorem qmb {f:Fx}{ρ ρ1:Rho}{xs:List Int}{d:Nat} (h:f ρ=.ok (il xs,d,ρ1)):zqd zzn (zqa f aNil) ρ=.ok (il xs,om,ρ1):=by
 refine zxb (zqr h) ?_
 show some (PV.lst (xs.map PV.int),d1 (xs.map PV.int))=_
 rw [zhn];rfl
theorem qlq {t:List (List Int)}{i j:Nat}{v:Int} (hi:i < t.length) (hj:j < (t.getD i []).length):put2 (tb t) (i:Int) (j:Int) (.int v)=some (tb (t.set i ((t.getD i []).set j v))):=by
 unfold put2 tb
 dsimp only
 have e1:ixN (t.map il).length (i:Int)=some i:=by
  unfold ixN
  rw [ja3,if_pos (by omega),if_pos (by omega)]
  rfl
 have e2:(t.map il)[i]?=some (.lst ((t.getD i []).map PV.int)):=by
  rw [jc1,zxw hi];rfl
 have e3:ixN ((t.getD i []).map PV.int).length (j:Int)=some j:=by
  unfold ixN
  rw [ja3,if_pos (by omega),if_pos (by omega)]
  rfl
 rw [e1]
 dsimp only
 rw [e2]
 dsimp only
 rw [e3]
 dsimp only
 rw [jo4]
 unfold il
 rw [jo4]
theorem qa0 {f h k:Fx}{ρ ρ1 ρ2 ρ3:Rho}{t:List (List Int)}{a b i j:Nat}{d e e':Nat} (ht:Tab a b t) (h1:f ρ=.ok (tb t,d,ρ1)) (h2:h ρ1=.ok (.int (i:Int),e,ρ2)) (h3:k ρ2=.ok (.int (j:Int),e',ρ3)) (hi:i < a) (hj:j < b):bBin zqb (bBin zqb f h) k ρ=.ok (.int (g t i j),om,ρ3):=
 zye (xs:=t.getD i []) (k:=(j:Int)) (qcf (t:=t) (k:=(i:Int)) h1 h2 (zzc (by omega) (zxw (by rw [je8,ht.1];exact hi)))) h3 (zzc (by omega) (zxm (by rw [je8,ht.row hi];exact hj)))
theorem zbu {asg:PV->Rho->Option Rho}{body:Fs}:∀ (els:List PV) (I:Nat->Rho->Prop) (ρ:Rho),I 0 ρ->(∀ j x ρ,els[j]?=some x->I j ρ->∃ ρ1 ρ2,asg x ρ=some ρ1/\body ρ1=.nx ρ2/\I (j + 1) ρ2)->∃ ρ',zwb asg body els ρ=.nx ρ'/\I els.length ρ'
 | [],I,ρ,h,_=>⟨ρ,rfl,h⟩
 | x::xs,I,ρ,h,hb=>by
  obtain ⟨ρ1,ρ2,e1,e2,h2⟩:=hb 0 x ρ rfl h
  obtain ⟨ρ',e',h'⟩:=zbu xs (λ j=>I (j + 1)) ρ2 h2 λ j y ρ hy hi=>hb (j + 1) y ρ (by simpa using hy) hi
  refine ⟨ρ',?_,h'⟩
  unfold zwb
  rw [e1]
  dsimp only
  rw [e2]
  exact e'
theorem qin {v:Vw}{fa:Fa}{vs:List Nat}{asg:PV->Rho->Option Rho}{body:Fs}{ρ ρ1 ρ2:Rho}{xs:List (PV×Nat)}{els:List PV} (I:Nat->Rho->Prop) (hf:fa ρ=.ok (xs,ρ1)) (he:zvn v (xs.map (·.1))=some els) (ec:zxk (if zvv xs=true then om else 0) vs ρ1=ρ2) (h0:I 0 ρ2)
  (hb:∀ j x ρ,els[j]?=some x->I j ρ->∃ ρ1 ρ2,asg x ρ=some ρ1/\body ρ1=.nx ρ2/\I (j + 1) ρ2):∃ ρ',qdc v fa vs asg body ρ=.nx ρ'/\I els.length ρ':=by
 obtain ⟨ρ',e,h⟩:=zbu els I ρ2 h0 hb
 refine ⟨ρ',?_,h⟩
 unfold qdc
 rw [hf]
 dsimp only
 rw [he]
 dsimp only
 rw [ec]
 exact e
theorem qio {f:Fx}{vs:List Nat}{asg:PV->Rho->Option Rho}{body:Fs}{ρ ρ1 ρ2:Rho}{els:List PV}{d:Nat} (I:Nat->Rho->Prop) (hf:f ρ=.ok (.lst els,d,ρ1)) (ec:zxk d vs ρ1=ρ2) (h0:I 0 ρ2)
  (hb:∀ j x ρ,els[j]?=some x->I j ρ->∃ ρ1 ρ2,asg x ρ=some ρ1/\body ρ1=.nx ρ2/\I (j + 1) ρ2):∃ ρ',zku f vs asg body ρ=.nx ρ'/\I els.length ρ':=by
 obtain ⟨ρ',e,h⟩:=zbu els I ρ2 h0 hb
 refine ⟨ρ',?_,h⟩
 unfold zku
 rw [hf]
 dsimp only
 rw [ec]
 exact e
abbrev C3:=Nat×Nat×Nat
def c3 (x:C3):PV:=.tup [.int (x.1:Int),.int (x.2.1:Int),.int (x.2.2:Int)]
def ct (cs:List C3):PV:=.lst (cs.map c3)
def zpi (t:List (List Int)) (i j:Nat):List C3:=(ja2 (g t i j).toNat).map λ k=>(i,j,k)
def rowC (t:List (List Int)) (i b:Nat):List C3:=(ja2 b).flatMap (zpi t i)
def zqi (t:List (List Int)) (a b:Nat):List C3:=(ja2 a).flatMap λ i=>rowC t i b
theorem zbl (t:List (List Int)) (i j:Nat):rowC t i (j + 1)=rowC t i j++zpi t i j:=by
 unfold rowC
 rw [jd7,jm0]
 simp
theorem zya (t:List (List Int)) (i b:Nat):zqi t (i + 1) b=zqi t i b++rowC t i b:=by
 unfold zqi
 rw [jd7,jm0]
 simp
theorem zht (t:List (List Int)) (i j:Nat):(zpi t i j).length=(g t i j).toNat:=by unfold zpi;rw [ja3,jc8]
theorem zmw {a b c:Nat}{t:List (List Int)} (p:Pile a b c t) {i:Nat} (hi:i < a):∀ {j:Nat},j<=b->(rowC t i j).length<=j * c
 | 0,_=>by unfold rowC;simp
 | j + 1,h=>by
  rw [zbl,jb4,zht,jo0]
  have:=zmw p hi (j:=j) (by omega)
  have:=p.hi i j hi (by omega)
  omega
theorem zkq {a b c:Nat}{t:List (List Int)} (p:Pile a b c t):∀ {i:Nat},i<=a->(zqi t i b).length<=i * (b * c)
 | 0,_=>by unfold zqi;simp
 | i + 1,h=>by
  rw [zya,jb4,jo0]
  have:=zkq p (i:=i) (by omega)
  have:=zmw p (i:=i) (by omega) (j:=b) (jb2 _)
  omega
theorem qjo {a b:Nat}{t:List (List Int)} (ht:Tab a b t) {i:Nat} (hi:i < a):t.getD i []=(ja2 b).map (g t i):=
 zkp (by rw [ht.row hi,ja3,jc8]) λ j hj=>by
  rw [zkw (by rw [<- ht.row hi];exact hj)];rfl
theorem zhg:∀ x y:List C3,vb9 (x.map λ z=>PyData.tuple [.int (z.1:Int),.int (z.2.1:Int),.int (z.2.2:Int)]) (y.map λ z=>PyData.tuple [.int (z.1:Int),.int (z.2.1:Int),.int (z.2.2:Int)])=decide (x=y)
 | [],[]=>rfl
 | [],y::ys=>rfl
 | x::xs,[]=>rfl
 | x::xs,y::ys=>by
  rw [jb7,jb7,vb9,zhg xs ys,vb1]
  show (((x.1:Int) == (y.1:Int)) && (((x.2.1:Int) == (y.2.1:Int)) && (((x.2.2:Int) == (y.2.2:Int)) && true)) && _)=_
  by_cases h:x=y
  ·subst h
   by_cases h2:xs=ys
   ·subst h2;simp
   ·simp [h2]
  ·have:¬ (x.1=y.1/\x.2.1=y.2.1/\x.2.2=y.2.2):=λ ⟨a,b,c⟩=>h (vl9 a (vl9 b c))
   rw [decide_eq_false (λ z=>h (List.cons.inj z).1)]
   simp
   intro a b c
   exact absurd ⟨by omega,by omega,by omega⟩ this
theorem zxn {α β:Type}{f h:α->List β}:∀ {l:List α},(∀ x∈l,f x=h x)->l.flatMap f=l.flatMap h
 | [],_=>rfl
 | x::xs,e=>by rw [jq4,jq4,e x ja4,zxn λ y hy=>e y (ja1 _ hy)]
theorem zkb (k:Nat):∀ m:Nat,ja2 (m * k)=(ja2 m).flatMap λ i=>(ja2 k).map λ r=>i * k + r
 | 0=>by rw [Nat.zero_mul];rfl
 | m + 1=>by
  rw [jo0,List.range_add,zkb k m,jd7,jm0]
  simp
theorem zzz (n:Nat):∀ c:Nat,n<=c->(ja2 c).filter (λ r=>decide (r < n))=ja2 n
 | 0,h=>by rw [show n=0 by omega];rfl
 | c + 1,h=>by
  rw [jd7,jp6]
  by_cases e:n=c + 1
  ·have:(ja2 c).filter (λ r=>decide (r < n))=ja2 c:=jf4.mpr λ r hr=>decide_eq_true (by have:=jb9.mp hr;omega)
   rw [this,e,jd7,jf7 (p:=λ r=>decide (r < c + 1)) (decide_eq_true (by omega))]
   rfl
  ·rw [zzz n c (by omega),je9 (p:=λ r=>decide (r < n)) (by rw [decide_eq_true_iff];omega)]
   simp
def numC (b c n:Nat):C3:=(n / c / b,n / c % b,n % c)
def dueN (t:List (List Int)) (b c n:Nat):List C3:=((ja2 n).filter λ m=>decide (((m % c:Nat):Int) < g t (m / c / b) (m / c % b))).map (numC b c)
theorem qcl {a b c:Nat}{t:List (List Int)} (p:Pile a b c t) (hb:0 < b) (hc:0 < c):dueN t b c (a * b * c)=zqi t a b:=by
 unfold dueN
 rw [zkb c (a * b),jj7,jr7]
 have e:∀ q∈ja2 (a * b),(((ja2 c).map λ r=>q * c + r).filter λ m=>decide (((m % c:Nat):Int) < g t (m / c / b) (m / c % b))).map (numC b c)=zpi t (q / b) (q % b):=λ q hq=>by
  have hq':=jb9.mp hq
  have h1:q / b < a:=jl3 (by rw [jf5];exact hq')
  have h2:q % b < b:=jt1 _ hb
  have g0:=p.lo (q / b) (q % b) h1 h2
  have g1:=p.hi (q / b) (q % b) h1 h2
  rw [ji7,jc2]
  have e1:(ja2 c).filter ((λ m=>decide (((m % c:Nat):Int) < g t (m / c / b) (m / c % b))) ∘ λ r=>q * c + r)=(ja2 c).filter λ r=>decide (r < (g t (q / b) (q % b)).toNat):=by
   refine je5 λ r hr=>?_
   have hr':=jb9.mp hr
   show decide ((((q * c + r) % c:Nat):Int) < g t ((q * c + r) / c / b) ((q * c + r) / c % b))=_
   have d1:(q * c + r) % c=r:=by rw [jf5,jk1,jj2 hr']
   have d2:(q * c + r) / c=q:=by rw [jf5,jk2 hc,jj3 hr',jm8]
   rw [d1,d2]
   by_cases h:(r:Int) < g t (q / b) (q % b)
   ·rw [decide_eq_true h,decide_eq_true (by omega)]
   ·rw [decide_eq_false h,decide_eq_false (by omega)]
  rw [e1,zzz _ c (by omega)]
  unfold zpi
  refine jd0 λ r hr=>?_
  have hr':=jb9.mp hr
  show numC b c (q * c + r)=_
  unfold numC
  have d1:(q * c + r) % c=r:=by rw [jf5,jk1,jj2 (by omega)]
  have d2:(q * c + r) / c=q:=by rw [jf5,jk2 hc,jj3 (by omega),jm8]
  rw [d1,d2]
 rw [zxn e,zkb b a,jp7]
 unfold zqi
 refine zxn λ i _=>?_
 unfold rowC
 rw [jr8]
 refine zxn λ j hj=>?_
 have hj':=jb9.mp hj
 have d1:(i * b + j) % b=j:=by rw [jf5,jk1,jj2 hj']
 have d2:(i * b + j) / b=i:=by rw [jf5,jk2 hb,jj3 hj',jm8]
 rw [d1,d2]
def mirT (t:List (List Int)) (b:Nat):List (List Int):=(ja2 b).map λ j=>zwi t j
def rolT (t:List (List Int)) (b c:Nat):List (List Int):=(ja2 b).map λ j=>(ja2 c).map λ (k:Nat)=>cnt (zwi t j) (k:Int)
def zwk (t:List (List Int)) (c:Int):List (List Int):=t.reverse.map λ r=>r.reverse.map λ h=>c - h
theorem qjz {a b c:Nat}{t:List (List Int)} (p:Pile a b c t) (ha:1<=a/\a<=100) (hb:1<=b/\b<=100) (hc:1<=c):f_mirrored_pile [bx a b c,tb t]=.ok (tb (mirT t b),om,.non):=by
 have z:=sz
 have ht:=p.tab
 let R:Rho:=[some (bx a b c,0),some (tb t,0)]
 have s1:zve (zqe f_must_be_pile (zqa (bVar 0) (zqa (bVar 1) (aNil)))) R=.nx R:=zkz (zqf (xs:=[(bx a b c,0),(tb t,0)]) rfl (zwd ht ha hb (by omega) ((zvg ht).mpr p)))
 have e1:=zva (n:=2) (en:=zqz) (fa:=zqa (bBin zqb (bVar 0) (bC (.int 1))) (aNil)) (elt:=zqe f_column_of (zqa (bVar 1) (zqa (bVar 2) (aNil)))) (ρ:=R) (ρ1:=R) (as:=[(.int (b:Int),om)]) (lo:=0) (hi:=(b:Int)) (q:=λ j=>il (zwi t j)) rfl (zxq (by omega) (by omega)) rfl (λ k hk=>by
  rw [jh2]
  exact zqf (xs:=[(tb t,0),(.int (k:Int),om)]) rfl (zpe t k (by rw [ht.1];omega) λ r hr=>by rw [ht.2 r hr];omega)) (by omega)
 rw [show ((b:Int) - 0).toNat=b by omega] at e1
 have e2:PV.lst ((ja2 b).map λ j=>il (zwi t j))=tb (mirT t b):=by unfold tb mirT;rw [jc2];rfl
 rw [e2] at e1
 exact zwn rfl ((zqg s1).trans (zxo e1))
theorem qjp {a b c:Nat}{t:List (List Int)} (p:Pile a b c t) (ha:1<=a/\a<=100) (hb:1<=b/\b<=100) (hc:1<=c/\c<=100):f_rolled_pile [bx a b c,tb t]=.ok (tb (rolT t b c),om,.non):=by
 have z:=sz
 have ht:=p.tab
 have l1:=ht.1
 let R (q:List (List Int)) (s3 s4:QQ.Slot):Rho:=[some (bx a b c,0),some (tb t,0),some (tb q,om),s3,s4]
 have s1:zve (zqe f_must_be_pile (zqa (bVar 0) (zqa (bVar 1) (aNil)))) [some (bx a b c,0),some (tb t,0),none,none,none]=.nx [some (bx a b c,0),some (tb t,0),none,none,none]:=zkz (zqf (xs:=[(bx a b c,0),(tb t,0)]) rfl (zwd ht ha hb (by omega) ((zvg ht).mpr p)))
 have s2:sSet false 2 (zqd zqy (aNil)) [] [some (bx a b c,0),some (tb t,0),none,none,none]=.nx (R [] none none):=by kernel_rfl
 have e4:∀ (q:List (List Int)) (j:Nat) (s3:QQ.Slot),zxs zqz (zqa (bBin zqb (bVar 0) (bC (.int 2))) (aNil)) 1 (asgN 5) zqj (zqe f_how_many_above (zqa (bVar 4) (zqa (bVar 5) (aNil)))) (R q s3 (some (il (zwi t j),om)))=.ok (il ((ja2 c).map λ (k:Nat)=>cnt (zwi t j) (k:Int)),om,R q s3 (some (il (zwi t j),om))):=λ q j s3=>by
  rw [zva (n:=5) (en:=zqz) (fa:=zqa (bBin zqb (bVar 0) (bC (.int 2))) (aNil)) (ρ:=R q s3 (some (il (zwi t j),om))) (ρ1:=R q s3 (some (il (zwi t j),om))) (q:=λ (k:Nat)=>.int (cnt (zwi t j) (k:Int))) (as:=[(.int (c:Int),om)]) (by kernel_rfl) (zxq (by omega) (by omega)) rfl (λ k hk=>by
   rw [jh2]
   exact zqf (xs:=[(il (zwi t j),0),(.int (k:Int),om)]) rfl (qjc _ _ (by rw [zzb];omega))) (by omega),show ((c:Int) - 0).toNat=c by omega]
  unfold il
  rw [jc2]
  rfl
 obtain ⟨ρ',e6,s3,s4,rfl⟩:=zvr (i:=3) (body:=sSeq (sSet false 4 (zqe f_column_of (zqa (bVar 1) (zqa (bVar 3) (aNil)))) [1,3]) (sApp 2 (zxs zqz (zqa (bBin zqb (bVar 0) (bC (.int 2))) (aNil)) 1 (asgN 5) zqj (zqe f_how_many_above (zqa (bVar 4) (zqa (bVar 5) (aNil))))) [4])) (en:=zqz) (fa:=zqa (bBin zqb (bVar 0) (bC (.int 1))) (aNil)) (ρ:=R [] none none) (ρ1:=R [] none none) (as:=[(.int (b:Int),om)]) (lo:=0) (hi:=(b:Int))
  (λ k ρ=>∃ s3 s4,ρ=R (rolT t k c) s3 s4) (by kernel_rfl) (zxq (by omega) (by omega)) ⟨none,none,rfl⟩ (by
   rintro j ρ hj ⟨s3,s4,rfl⟩
   have u1:sSet false 4 (zqe f_column_of (zqa (bVar 1) (zqa (bVar 3) (aNil)))) [1,3] (R (rolT t j c) (some (.int (0 + (j:Int)),om)) s4)=.nx (R (rolT t j c) (some (.int (0 + (j:Int)),om)) (some (il (zwi t j),om))):=by
    rw [jh2]
    exact setF (zqf (xs:=[(tb t,0),(.int (j:Int),om)]) rfl (zpe t j (by omega) λ r hr=>by rw [ht.2 r hr];omega)) (show 4 < 5 by decide) rfl
   refine ⟨show 3 < 5 by decide,_,(zqg u1).trans (zpj (i:=2) (d0:=999) (d:=om) (xs:=(rolT t j c).map il) (xs0:=(rolT t j c).map il) rfl (e4 _ j _) rfl (by decide) (by unfold rolT;rw [ja3,ja3,jc8];omega) rfl),some (.int (0 + (j:Int)),om),some (il (zwi t j),om),?_⟩
   have:PV.lst ((rolT t j c).map il++[il ((ja2 c).map λ (k:Nat)=>cnt (zwi t j) (k:Int))])=tb (rolT t (j + 1) c):=by
    rw [qaf]
    unfold rolT
    rw [jd7,jd3]
    rfl
   rw [this]
   rfl)
 rw [show ((b:Int) - 0).toNat=b by omega] at e6
 exact zwn rfl ((zqg s1).trans ((zqg s2).trans ((zqg e6).trans rfl)))
theorem qiz {α:Type}{n:Nat}{v:Vw}{fa:Fa}{elt:Fx}{enc q:α->PV}{ρ ρ1:Rho}{as:List (PV×Nat)} (xs:List α) (hf:fa ρ=.ok (as,ρ1)) (hv:zvn v (as.map (·.1))=some (xs.map enc)) (hn:ρ1.length=n) (he:∀ x∈xs,elt (ρ1++[some (enc x,dv (enc x))])=.ok (q x,om,ρ1++[some (enc x,dv (enc x))])) (hl:xs.length<=va8):
  zwy v fa 1 (asgN n) zqj elt ρ=.ok (.lst (xs.map q),om,ρ1):=by
 unfold zwy
 rw [hf]
 dsimp only
 rw [hv]
 dsimp only
 rw [zzt (p:=λ _=>true) (q:=q) (e:=λ _=>om) xs ρ1 [] hn (λ _ _=>rfl) (λ x hx _=>he x hx) (by simpa using hl),jf4.mpr (λ _ _=>rfl)]
 show zzw (xs.map λ x=>(q x,om)) ρ1=_
 unfold zzw
 rw [zzv,jc2]
 rfl
theorem qhr {α:Type}{f:Fx}{ρ ρ1:Rho}{enc:α->PV}{xs:List α}{d:Nat} (h:f ρ=.ok (.lst (xs.map enc),d,ρ1)):bUn opRv f ρ=.ok (.lst (xs.reverse.map enc),d1 (xs.reverse.map enc),ρ1):=by
 refine qne h ?_
 show some (PV.lst (xs.map enc).reverse,d1 (xs.map enc).reverse)=_
 rw [jn5]
theorem qlo {a b c:Nat}{t:List (List Int)} (p:Pile a b c t) (ha:1<=a/\a<=100) (hb:1<=b/\b<=100) (hc:1<=c):f_rest_of [bx a b c,tb t]=.ok (tb (zwk t c),om,.non):=by
 have z:=sz
 have ht:=p.tab
 have l1:=ht.1
 let R (q:List (List Int)) (s3:QQ.Slot):Rho:=[some (bx a b c,0),some (tb t,0),some (tb q,om),s3]
 have s1:zve (zqe f_must_be_pile (zqa (bVar 0) (zqa (bVar 1) (aNil)))) [some (bx a b c,0),some (tb t,0),none,none]=.nx [some (bx a b c,0),some (tb t,0),none,none]:=zkz (zqf (xs:=[(bx a b c,0),(tb t,0)]) rfl (zwd ht ha hb (by omega) ((zvg ht).mpr p)))
 have s2:sSet false 2 (zqd zqy (aNil)) [] [some (bx a b c,0),some (tb t,0),none,none]=.nx (R [] none):=by kernel_rfl
 let rs (n:Nat):List (List Int):=(t.reverse.take n).map λ r=>r.reverse.map λ h=>(c:Int) - h
 obtain ⟨ρ',e6,s3,rfl⟩:=qin (v:=.rev) (fa:=zqa (bVar 1) (aNil)) (vs:=[1]) (asg:=asgN 3) (body:=sApp 2 (zwy .rev (zqa (bVar 3) (aNil)) 1 (asgN 4) zqj (bBin zxv (bBin zqb (bVar 0) (bC (.int 2))) (bVar 4))) [3,0,3]) (ρ:=R [] none) (xs:=[(tb t,0)]) (els:=t.reverse.map il)
  (λ n ρ=>∃ s3,ρ=R (rs n) s3) rfl (by show some (t.map il).reverse=_;rw [jn5]) rfl ⟨none,by show R [] none=R ((t.reverse.take 0).map _) none;rw [jk6];rfl⟩ (by
   rintro n y ρ hy ⟨s3,rfl⟩
   have hn:n < t.reverse.length:=by
    have:=(jb3.mp hy).1
    rw [ja3] at this
    exact this
   rw [jc1,ja8 hn] at hy
   cases hy
   let r:=t.reverse[n]
   have hr:r∈t:=jj4.mp (je4 hn)
   have e1:=qiz (n:=4) (v:=.rev) (fa:=zqa (bVar 3) (aNil)) (elt:=bBin zxv (bBin zqb (bVar 0) (bC (.int 2))) (bVar 4)) (enc:=PV.int) (q:=λ h=>.int ((c:Int) - h)) (ρ:=R (rs n) (some (il r,0))) (ρ1:=R (rs n) (some (il r,0))) (as:=[(il r,0)]) r.reverse rfl (by show some (r.map PV.int).reverse=_;rw [jn5]) rfl (λ h _=>zjd (i:=(c:Int)) (j:=h) rfl rfl) (by rw [jd1,ht.2 r hr];omega)
   have e2:PV.lst (r.reverse.map λ h=>.int ((c:Int) - h))=il (r.reverse.map λ h=>(c:Int) - h):=by unfold il;rw [jc2];rfl
   rw [e2] at e1
   refine ⟨R (rs n) (some (il r,0)),R (rs (n + 1)) (some (il r,0)),rfl,?_,_,rfl⟩
   have hlen:((rs n).map il).length < va8:=by
    have e:((rs n).map il).length=(t.reverse.take n).length:=by rw [ja3,ja3]
    rw [e,jd8,jd1]
    omega
   refine (zpj (i:=2) (d0:=999) (d:=om) (xs:=(rs n).map il) (xs0:=(rs n).map il) rfl e1 rfl (by decide) hlen rfl).trans ?_
   have:PV.lst ((rs n).map il++[il (r.reverse.map λ h=>(c:Int) - h)])=tb (rs (n + 1)):=by
    rw [qaf]
    show tb ((t.reverse.take n).map _++_)=tb ((t.reverse.take (n + 1)).map _)
    rw [js8,ja8 hn,jd3]
    rfl
   rw [this]
   rfl)
 rw [ja3,jd1] at e6
 have:rs t.length=zwk t c:=by
  show (t.reverse.take t.length).map _=_
  rw [jn7 (by rw [jd1];exact jb2 _)]
  rfl
 rw [this] at e6
 exact zwn rfl ((zqg s1).trans ((zqg s2).trans ((zqg e6).trans rfl)))
theorem zxu {a b:Nat}{t:List (List Int)} (ht:Tab a b t):Tab b a (mirT t b):=by
 refine ⟨by unfold mirT;rw [ja3,jc8],λ r hr=>?_⟩
 obtain ⟨j,_,rfl⟩:=je3.mp hr
 rw [zzb,ht.1]
theorem zxp {a b:Nat}{t:List (List Int)} (ht:Tab a b t) {i j:Nat} (hi:i < a) (hj:j < b):g (mirT t b) j i=g t i j:=by
 unfold g mirT
 rw [zbs hj,zzu (by rw [ht.1];exact hi)]
 rfl
theorem zyd {a b:Nat}{c:Int}{t:List (List Int)} (p:Pile a b c t):Pile b a c (mirT t b):=by
 refine ⟨zxu p.tab,λ j i hj hi=>?_,λ j i hj hi=>?_,λ j i hj hi=>?_,λ j i hj hi=>?_⟩
 ·rw [zxp p.tab hi hj];exact p.lo i j hi hj
 ·rw [zxp p.tab hi hj];exact p.hi i j hi hj
 ·rw [zxp p.tab hi hj,zxp p.tab hi (by omega)];exact p.rt i j hi hj
 ·rw [zxp p.tab hi hj,zxp p.tab (by omega) hj];exact p.dn i j hi hj
theorem zzm (t:List (List Int)) (b c:Nat):rolT t b c=mkT b c λ j k=>cnt (zwi t j) k:=rfl
theorem Pile.nrc {a b:Nat}{c:Int}{t:List (List Int)} (p:Pile a b c t) {j:Nat} (hj:j < b):Nr (zwi t j):=λ k hk=>by
 rw [zzb,p.tab.1] at hk
 rw [zzu (by rw [p.tab.1];exact hk),zzu (by rw [p.tab.1];omega)]
 exact p.dn k j hk hj
theorem qej {a b c:Nat}{t:List (List Int)} (p:Pile a b c t) {i j k:Nat} (hi:i < a) (hj:j < b) (hk:k < c):(i:Int) < g (rolT t b c) j k↔(k:Int) < g t i j:=by
 rw [zzm,zqo hj hk,<- zzu (t:=t) (by rw [p.tab.1];exact hi)]
 exact qcs (p.nrc hj) (by rw [zzb,p.tab.1];exact hi)
theorem zvo {a b c:Nat}{t:List (List Int)} (p:Pile a b c t):Pile b c a (rolT t b c):=by
 have e:=zyd p
 have s:=zbe e
 have q:rolT t b c=mirT (zqt (mirT t b) c) b:=by
  refine zwq (by rw [zzm];exact zzo) (zxu s.tab) λ j k hj hk=>?_
  rw [zzm,zqo hj hk,zxp s.tab hk hj,zqx e.tab hk hj]
  unfold mirT
  rw [zbs hj]
 rw [q]
 exact zyd s
theorem zhq {j k:Int}:∀ {xs ys:List Int},xs.length=ys.length->(∀ i,i < xs.length->(j < xs.getD i 0↔k < ys.getD i 0))->cnt xs j=cnt ys k
 | [],[],_,_=>rfl
 | [],y::ys,h,_=>by simp at h
 | x::xs,[],h,_=>by simp at h
 | x::xs,y::ys,h,e=>by
  rw [zvb,zvb,zhq (by simpa using h) λ i hi=>e (i + 1) (by rw [ja9];omega)]
  have:=e 0 (by simp)
  have e1:(x::xs).getD 0 0=x:=rfl
  have e2:(y::ys).getD 0 0=y:=rfl
  rw [e1,e2] at this
  by_cases hx:j < x
  ·rw [if_pos hx,if_pos (this.mp hx)]
  ·rw [if_neg hx,if_neg (λ z=>hx (this.mpr z))]
theorem qar {a b c:Nat}{t:List (List Int)} (p:Pile a b c t):rolT (rolT t b c) c a=zqt t c:=by
 have r:=zvo p
 refine zwq (by rw [zzm];exact zzo) (zwa p.tab) λ k i hk hi=>?_
 rw [zzm (rolT t b c),zqo hk hi,zqx p.tab hk hi]
 refine zhq (by rw [zzb,r.tab.1,p.tab.row hi]) λ j hj=>?_
 rw [zzb,r.tab.1] at hj
 rw [zzu (by rw [r.tab.1];exact hj),qej p hi hj hk]
 exact Iff.rfl
theorem zmx {α:Type}{xs:List α}{d:α}{i:Nat} (h:i < xs.length):xs.reverse.getD i d=xs.getD (xs.length - 1 - i) d:=by
 rw [ja0,jo2 h,ja0]
theorem zvf {a b:Nat}{c:Int}{t:List (List Int)} (ht:Tab a b t):Tab a b (zwk t c):=by
 refine ⟨by unfold zwk;rw [ja3,jd1,ht.1],λ r hr=>?_⟩
 obtain ⟨q,hq,rfl⟩:=je3.mp hr
 rw [ja3,jd1,ht.2 q (jj4.mp hq)]
theorem zfg {f:Int->Int}{xs:List Int}{j:Nat} (h:j < xs.length):(xs.map f).getD j 0=f (xs.getD j 0):=by
 rw [ja0,jc1,zxm h];rfl
theorem qfg {f:List Int->List Int}{t:List (List Int)}{j:Nat} (h:j < t.length):(t.map f).getD j []=f (t.getD j []):=by
 rw [ja0,jc1,zxw h];rfl
theorem zxr {a b:Nat}{c:Int}{t:List (List Int)} (ht:Tab a b t) {i j:Nat} (hi:i < a) (hj:j < b):g (zwk t c) i j=c - g t (a - 1 - i) (b - 1 - j):=by
 unfold g zwk
 have hi2:a - 1 - i < a:=by omega
 rw [qfg (by rw [jd1,ht.1];exact hi),zmx (by rw [ht.1];exact hi),ht.1,zfg (by rw [jd1,ht.row hi2];exact hj),zmx (by rw [ht.row hi2];exact hj),ht.row hi2]
theorem zgj {a b:Nat}{c:Int}{t:List (List Int)} (p:Pile a b c t):Pile a b c (zwk t c):=by
 refine ⟨zvf p.tab,λ i j hi hj=>?_,λ i j hi hj=>?_,λ i j hi hj=>?_,λ i j hi hj=>?_⟩
 ·rw [zxr p.tab hi hj];have:=p.hi (a - 1 - i) (b - 1 - j) (by omega) (by omega);omega
 ·rw [zxr p.tab hi hj];have:=p.lo (a - 1 - i) (b - 1 - j) (by omega) (by omega);omega
 ·rw [zxr p.tab hi hj,zxr p.tab (by omega) hj]
  have:=p.dn (a - 1 - (i + 1)) (b - 1 - j) (by omega) (by omega)
  rw [show a - 1 - (i + 1) + 1=a - 1 - i by omega] at this
  omega
 ·rw [zxr p.tab hi hj,zxr p.tab hi (by omega)]
  have:=p.rt (a - 1 - i) (b - 1 - (j + 1)) (by omega) (by omega)
  rw [show b - 1 - (j + 1) + 1=b - 1 - j by omega] at this
  omega
theorem qeb (x:Int):∀ c:Nat,0<=x->x<=c->((ja2 c).map λ (k:Nat)=>if (k:Int) < x then (1:Int) else 0).sum=x
 | 0,h0,h1=>by show (0:Int)=x;omega
 | c + 1,h0,h1=>by
  rw [jd7,jd3,je7]
  show _ + ((if (c:Int) < x then (1:Int) else 0) + 0)=x
  by_cases h:(c:Int) < x
  ·rw [if_pos h]
   have e:(ja2 c).map (λ (k:Nat)=>if (k:Int) < x then (1:Int) else 0)=(ja2 c).map (λ (k:Nat)=>if (k:Int) < (c:Int) then (1:Int) else 0):=jd0 λ k hk=>by
    have:=jb9.mp hk
    rw [if_pos (by omega),if_pos (by omega)]
   rw [e,qeb c c (by omega) (by omega)]
   omega
  ·rw [if_neg h,qeb x c h0 (by omega)]
   omega
theorem zmo {f h:Nat->Int}:∀ n:Nat,((ja2 n).map λ k=>f k + h k).sum=((ja2 n).map f).sum + ((ja2 n).map h).sum
 | 0=>rfl
 | n + 1=>by
  rw [jd7,jd3,jd3,jd3,je7,je7,je7,zmo n]
  simp only [jb7,jf0,jl4,jq7]
  omega
theorem zjo:∀ n:Nat,((ja2 n).map λ _=>(0:Int)).sum=0
 | 0=>rfl
 | n + 1=>by
  rw [jd7,jd3,je7,zjo n]
  rfl
theorem qgm (c:Nat):∀ r:List Int,(∀ x∈r,0<=x/\x<=c)->((ja2 c).map λ (k:Nat)=>cnt r (k:Int)).sum=r.sum
 | [],_=>zjo c
 | x::r,h=>by
  have e:(λ (k:Nat)=>cnt (x::r) (k:Int))=λ (k:Nat)=>cnt r (k:Int) + if (k:Int) < x then (1:Int) else 0:=funext λ k=>zvb
  rw [e,zmo,qgm c r λ y hy=>h y (ja1 _ hy),qeb x c (h x ja4).1 (h x ja4).2,jl4]
  omega
theorem zpo (c:Nat):∀ t:List (List Int),(∀ r∈t,∀ x∈r,0<=x/\x<=c)->((zqt t c).map jn1).sum=(t.map jn1).sum
 | [],_=>by
  unfold zqt
  rw [jc2]
  exact zjo c
 | r::t,h=>by
  have ih:=zpo c t λ q hq=>h q (ja1 _ hq)
  unfold zqt at ih ⊢
  rw [jc2] at ih ⊢
  have e:(jn1 ∘ λ (k:Nat)=>zbf (r::t) (k:Int))=λ (k:Nat)=>cnt r (k:Int) + (jn1 ∘ λ (k:Nat)=>zbf t (k:Int)) k:=funext λ k=>by
   show (zbf (r::t) (k:Int)).sum=_
   unfold zbf
   rw [jb7,jl4]
   rfl
  rw [e,zmo,ih,qgm c r (h r ja4),jb7,jl4]
theorem zyk {α:Type}{k:Nat}{asg:PV->Rho->Option Rho}{test:Fb}{elt:Fx}{enc q:α->PV}{E:α->Rho}{e:α->Nat}{p:α->Bool}:∀ (xs:List α) (ρ:Rho) (acc:List (PV×Nat)),(∀ x∈xs,asg (enc x) (ρ++jb1 k none)=some (ρ++E x)) ->
  (∀ x∈xs,test (ρ++E x)=.ok (p x,ρ++E x))->(∀ x∈xs,p x=true->elt (ρ++E x)=.ok (q x,e x,ρ++E x))->acc.length + xs.length<=va8->zwx k asg test elt (xs.map enc) ρ acc=.ok (acc++(xs.filter p).map (λ x=>(q x,e x)),ρ)
 | [],ρ,acc,_,_,_,_=>by simp [zwx]
 | x::xs,ρ,acc,ha,ht,he,hl=>by
  have ih:=λ acc h=>zyk (k:=k) (asg:=asg) (test:=test) (elt:=elt) (p:=p) (q:=q) (e:=e) (enc:=enc) (E:=E) xs ρ acc (λ y hy=>ha y (ja1 _ hy)) (λ y hy=>ht y (ja1 _ hy)) (λ y hy=>he y (ja1 _ hy)) h
  have tk:(ρ++E x).take ρ.length=ρ:=by simp
  rw [ja9] at hl
  rw [jb7]
  unfold zwx
  rw [ha x ja4]
  dsimp only
  rw [ht x ja4]
  dsimp only [Rz.bindN]
  cases hp:p x with
  | false=>rw [if_neg jb6,tk,ih acc (by omega),je9 (by simp [hp])]
  | true=>
   rw [if_pos rfl,he x ja4 hp]
   dsimp only
   rw [if_pos (by omega),tk,ih _ (by rw [jb4,jg4];omega),jf7 hp]
   simp
theorem zgu {α:Type}{q:α->PV}{xs:List α}{ρ:Rho}:zzw ([]++xs.map λ x=>(q x,om)) ρ=.ok (.lst (xs.map q),om,ρ):=by
 rw [ji3]
 unfold zzw
 rw [zzv,jc2]
 rfl
theorem qgl {α:Type}{k:Nat}{v:Vw}{fa:Fa}{asg:PV->Rho->Option Rho}{elt:Fx}{enc q:α->PV}{E:α->Rho}{ρ ρ1:Rho}{as:List (PV×Nat)} (xs:List α) (hf:fa ρ=.ok (as,ρ1)) (hv:zvn v (as.map (·.1))=some (xs.map enc)) (ha:∀ x∈xs,asg (enc x) (ρ1++jb1 k none)=some (ρ1++E x))
  (he:∀ x∈xs,elt (ρ1++E x)=.ok (q x,om,ρ1++E x)) (hl:xs.length<=va8):zwy v fa k asg zqj elt ρ=.ok (.lst (xs.map q),om,ρ1):=by
 unfold zwy
 rw [hf]
 dsimp only
 rw [hv]
 dsimp only
 rw [zyk (p:=λ _=>true) (q:=q) (e:=λ _=>om) xs ρ1 [] ha (λ _ _=>rfl) (λ x hx _=>he x hx) (by simpa using hl),jf4.mpr (λ _ _=>rfl)]
 exact zgu
theorem qp2 {α:Type}{k:Nat}{f:Fx}{asg:PV->Rho->Option Rho}{test:Fb}{elt:Fx}{enc q:α->PV}{E:α->Rho}{p:α->Bool}{ρ ρ1:Rho}{d:Nat} (xs:List α) (hf:f ρ=.ok (.lst (xs.map enc),d,ρ1)) (ha:∀ x∈xs,asg (enc x) (ρ1++jb1 k none)=some (ρ1++E x))
  (ht:∀ x∈xs,test (ρ1++E x)=.ok (p x,ρ1++E x)) (he:∀ x∈xs,p x=true->elt (ρ1++E x)=.ok (q x,om,ρ1++E x)) (hl:xs.length<=va8):zqh f k asg test elt ρ=.ok (.lst ((xs.filter p).map q),om,ρ1):=by
 unfold zqh
 rw [hf]
 dsimp only
 rw [zyk (p:=p) (q:=q) (e:=λ _=>om) xs ρ1 [] ha ht he (by simpa using hl)]
 exact zgu
theorem filter_all {α:Type} (xs:List α):xs.filter (λ _=>true)=xs:=jf4.mpr λ _ _=>rfl
theorem zjn {α β:Type} (f:α->PV) (h:β->PV):∀ (xs:List α) (ys:List β),zipL (xs.map f) (ys.map h)=(xs.zip ys).map λ z=>.tup [f z.1,h z.2]
 | [],_=>by simp [zipL]
 | _::_,[]=>by simp [zipL]
 | x::xs,y::ys=>by
  rw [jb7,jb7,zipL,zjn f h xs ys]
  rfl
def zT (h:Int->Int->Int) (t u:List (List Int)):List (List Int):=(t.zip u).map λ z=>jl1 h z.1 z.2
theorem qa6 {n i:Nat}{t:List (List Int)}{ρ:Rho}{d:Nat} (hf:bVar i ρ=.ok (tb t,d,ρ)) (hn:ρ.length=n) (hl:t.length<=1000):zqh (bVar i) 1 (asgN n) zqj (zqd zzn (zqa (bVar n) (aNil))) ρ=.ok (tb t,om,ρ):=
 have z:=sz
 zxi (n:=n) (enc:=il) (q:=il) t hf hn (λ r _=>qmb (d:=0) (by
  unfold bVar
  rw [jd4 (by omega),hn,jt6]
  rfl)) (by omega)
def CN:Fs:=(sIf (bT (zwj (bBin (zwm λ i j=>decide (j<=i)) (bVar 0) (bBin qh9 (bC (.int 10)) (bC (.int 18)))) (bBin (zwm λ i j=>decide (j < i)) (bVar 3) (bC (.int 0))))) (sSeq (sApp 2 (bBin zqn (bVar 3) (bC (.int 64))) [3])
 (sSet false 3 (bBin zxg (bVar 3) (bC (.int 64))) [3])) (sSeq (sSet false 4 (bBin zqn (bBin zvh (bBin zqw (bBin zqw (bVar 4) (bBin zvh (bC (.int 7)) (bVar 5))) (bC (.int 3))) (bC (.int 48271))) (bC (.int 2147483647))) [4,5])
 (sSeq (sSet false 6 (bBin zqn (bBin zvh (bBin zqn (bBin zvh (bVar 4) (bVar 4)) (bC (.int 2147483629))) (bC (.int 69621))) (bC (.int 2147483587))) [4,4])
 (sApp 2 (bBin zqn (bBin zxg (bVar 6) (bC (.int 8))) (bC (.int 720720))) [6]))))
theorem qmw (c:Int) (m:Nat) (hm:m<=1000):∃ ns:List Int,ns.length=m/\c_numbers [.int c,.int (m:Int)]=.ok (il ns,om,.non):=by
 have z:=sz
 let R (xs:List Int) (v w:Int) (s5 s6:QQ.Slot):Rho:=[some (.int c,om),some (.int (m:Int),om),some (il xs,om),some (.int v,om),some (.int w,om),s5,s6]
 let R0 (s2 s3 s4:QQ.Slot):Rho:=[some (.int c,om),some (.int (m:Int),om),s2,s3,s4,none,none]
 have s1:sSet false 2 (zqd zqy (aNil)) [] (R0 none none none)=.nx (R0 (some (il [],om)) none none):=by kernel_rfl
 have s2:sSet false 3 (bVar 0) [0] (R0 (some (il [],om)) none none)=.nx (R0 (some (il [],om)) (some (.int c,om)) none):=by kernel_rfl
 have s3:sSet false 4 (bBin zqn (bVar 0) (bC (.int 2147483647))) [0] (R0 (some (il [],om)) (some (.int c,om)) none)=.nx (R [] c (c % 2147483647) none none):=setF (zwp (i:=c) rfl rfl (by decide)) (show 4 < 7 by decide) rfl
 obtain ⟨ρ',e6,xs,v,w,s5,s6,rfl,hl⟩:=zvr (i:=5) (body:=CN) (en:=zqz) (fa:=zqa (bVar 1) (aNil)) (ρ:=R [] c (c % 2147483647) none none) (ρ1:=R [] c (c % 2147483647) none none) (as:=[(.int (m:Int),om)]) (lo:=0) (hi:=(m:Int))
  (λ k ρ=>∃ xs v w s5 s6,ρ=R xs v w s5 s6/\xs.length=k) rfl (zxq (by omega) (by omega)) ⟨[],c,_,none,none,rfl,rfl⟩ (by
   rintro j ρ hj ⟨xs,v,w,s5,s6,rfl,hl⟩
   let Q (xs:List Int) (v w:Int) (s6:QQ.Slot):Rho:=R xs v w (some (.int (0 + (j:Int)),om)) s6
   have app:∀ {f:Fx}{vs:List Nat}{v w:Int}{s6:QQ.Slot}{x:Int},f (Q xs v w s6)=.ok (.int x,om,Q xs v w s6)->sApp 2 f vs (Q xs v w s6)=.nx (Q (xs++[x]) v w s6):=λ {f vs v w s6 x} h=>by
    refine (zpj (i:=2) (d0:=999) (d:=om) (y:=.int x) (e:=om) (xs:=xs.map PV.int) (xs0:=xs.map PV.int) rfl h rfl (by decide) (by rw [ja3];omega) rfl).trans ?_
    rw [qf3]
    rfl
   have tt:bT (zwj (bBin (zwm λ i j=>decide (j<=i)) (bVar 0) (bBin qh9 (bC (.int 10)) (bC (.int 18)))) (bBin (zwm λ i j=>decide (j < i)) (bVar 3) (bC (.int 0)))) (Q xs v w s6)=.ok (decide ((10:Int) ^ 18<=c) && decide (0 < v),Q xs v w s6):=t_ok (zvw (b:=decide (0 < v)) (a:=decide ((10:Int) ^ 18<=c)) (d:=om) (by kernel_rfl) (λ _=>rfl) rfl)
   refine ⟨show 5 < 7 by decide,?_⟩
   cases hd:decide ((10:Int) ^ 18<=c) && decide (0 < v) with
   | true=>
    rw [hd] at tt
    refine ⟨Q (xs++[v % 64]) (v / 64) w s6,(if_t tt).trans ((zqg (app (zwp (i:=v) rfl rfl (by decide)))).trans (setF (zpb (i:=v) rfl rfl (by decide) (by decide)) (show 3 < 7 by decide) rfl)),_,_,_,_,_,rfl,?_⟩
    rw [jb4,hl];rfl
   | false=>
    rw [hd] at tt
    let w':=(w + 7 * (0 + (j:Int)) + 3) * 48271 % 2147483647
    have w0:=ji8 ((w + 7 * (0 + (j:Int)) + 3) * 48271) (show (2147483647:Int)≠0 by decide)
    have w1:=ji1 ((w + 7 * (0 + (j:Int)) + 3) * 48271) (show (0:Int) < 2147483647 by decide)
    have u1:sSet false 4 (bBin zqn (bBin zvh (bBin zqw (bBin zqw (bVar 4) (bBin zvh (bC (.int 7)) (bVar 5))) (bC (.int 3))) (bC (.int 48271))) (bC (.int 2147483647))) [4,5] (Q xs v w s6)=.nx (Q xs v w' s6):=setF (zwp (zgs (zks (zks (i:=w) rfl (zgs (i:=7) (j:=0 + (j:Int)) rfl rfl (.inl (by decide)))) (j:=3) rfl) (j:=48271) rfl (.inr (by decide))) (j:=2147483647) rfl (by decide)) (show 4 < 7 by decide) rfl
    let y:=w' * w' % 2147483629 * 69621 % 2147483587
    have u2:sSet false 6 (bBin zqn (bBin zvh (bBin zqn (bBin zvh (bVar 4) (bVar 4)) (bC (.int 2147483629))) (bC (.int 69621))) (bC (.int 2147483587))) [4,4] (Q xs v w' s6)=.nx (Q xs v w' (some (.int y,om))):=setF (zwp (zgs (zwp (zgs (i:=w') (j:=w') rfl rfl (.inl (by show -(2 ^ 64) < w'/\w' < 2 ^ 64;omega))) (j:=2147483629) rfl (by decide)) (j:=69621) rfl (.inr (by decide))) (j:=2147483587) rfl (by decide)) (show 6 < 7 by decide) rfl
    refine ⟨_,(if_f tt).trans ((zqg u1).trans ((zqg u2).trans (app (zwp (zpb (i:=y) rfl rfl (by decide) (by decide)) (j:=720720) rfl (by decide))))),_,_,_,_,_,rfl,?_⟩
    rw [jb4,hl];rfl)
 rw [show ((m:Int) - 0).toNat=m by omega] at hl
 exact ⟨xs,hl,zwn rfl ((zqg s1).trans ((zqg s2).trans ((zqg s3).trans ((zqg e6).trans rfl))))⟩
theorem qaz (x:Int) (m:Nat) (hm:0 < m):∃ n:Nat,1 + x % (m:Int)=(n:Int)/\1<=n/\n<=m:=by
 have h0:=ji8 x (show (m:Int)≠0 by omega)
 have h1:=ji1 x (show (0:Int) < m by omega)
 exact ⟨(1 + x % (m:Int)).toNat,by omega,by omega,by omega⟩
theorem qm0 (ys:List Int) (hl:ys.length=4):∃ a b c:Nat,(1<=a/\a<=6)/\(1<=b/\b<=6)/\(1<=c/\c<=6)/\c_box [il ys]=.ok (bx a b c,om,.non):=by
 let R (a b c:Nat):Rho:=[some (il ys,0),some (bx a b c,om)]
 have ix:∀ (k:Nat) (ρ:Rho),k < 4->bVar 0 ρ=.ok (il ys,0,ρ)->bBin zqb (bVar 0) (bC (.int (k:Int))) ρ=.ok (.int (ys.getD k 0),om,ρ):=λ k ρ hk h=>zye (xs:=ys) (k:=(k:Int)) h rfl (zzc (by omega) (zxm (by rw [je8];omega)))
 have tup:∀ (m:Nat) (ρ:Rho),0 < m->m<=6->bVar 0 ρ=.ok (il ys,0,ρ)->∃ a b c:Nat,(1<=a/\a<=6)/\(1<=b/\b<=6)/\(1<=c/\c<=6)/\zqd zxt (zqa (bBin zqw (bC (.int 1)) (bBin zqn (bBin zqb (bVar 0) (bC (.int 0))) (bC (.int (m:Int))))) (zqa (bBin zqw (bC (.int 1)) (bBin zqn (bBin zqb (bVar 0) (bC (.int 1))) (bC (.int (m:Int))))) (zqa (bBin zqw (bC (.int 1)) (bBin zqn (bBin zqb (bVar 0) (bC (.int 2))) (bC (.int (m:Int))))) (aNil)))) ρ=.ok (bx a b c,om,ρ):=λ m ρ h0 h6 hρ=>by
  obtain ⟨a,ea,ha⟩:=qaz (ys.getD 0 0) m h0
  obtain ⟨b,eb,hb⟩:=qaz (ys.getD 1 0) m h0
  obtain ⟨c,ec,hc⟩:=qaz (ys.getD 2 0) m h0
  refine ⟨a,b,c,by omega,by omega,by omega,?_⟩
  rw [<- ea,<- eb,<- ec]
  exact zxb (zqu (zks (i:=1) (d:=om) rfl (zwp (ix 0 ρ (by decide) hρ) rfl (by omega))) (zqu (zks (i:=1) (d:=om) rfl (zwp (ix 1 ρ (by decide) hρ) rfl (by omega))) (zqr (zks (i:=1) (d:=om) rfl (zwp (ix 2 ρ (by decide) hρ) rfl (by omega)))))) rfl
 obtain ⟨a,b,c,ha,hb,hc,e1⟩:=tup 3 [some (il ys,0),none] (by decide) (by decide) rfl
 have tst:∀ (m r:Int) (ρ:Rho),0 < m->bVar 0 ρ=.ok (il ys,0,ρ)->bT (bBin (opEq false) (bBin zqn (bBin zqb (bVar 0) (bC (.int 3))) (bC (.int m))) (bC (.int r))) ρ=.ok (decide (ys.getD 3 0 % m=r),ρ):=λ m r ρ hm h=>by
  have:=t_ok (zky (neg:=false) (zwp (ix 3 ρ (by decide) h) (g:=bC (.int m)) (j:=m) (e:=om) rfl hm) (g:=bC (.int r)) (j:=r) (e:=om) rfl)
  rw [jf3] at this
  exact this
 have v1:sSet false 1 (zqd zxt (zqa (bBin zqw (bC (.int 1)) (bBin zqn (bBin zqb (bVar 0) (bC (.int 0))) (bC (.int 3)))) (zqa (bBin zqw (bC (.int 1)) (bBin zqn (bBin zqb (bVar 0) (bC (.int 1))) (bC (.int 3)))) (zqa (bBin zqw (bC (.int 1)) (bBin zqn (bBin zqb (bVar 0) (bC (.int 2))) (bC (.int 3)))) (aNil))))) [0,0,0] [some (il ys,0),none]=.nx (R a b c):=setF e1 (show 1 < 2 by decide) rfl
 have v2:∃ a' b' c':Nat,(1<=a'/\a'<=6)/\(1<=b'/\b'<=6)/\(1<=c'/\c'<=6)/\(sIf (bT (bBin (opEq false) (bBin zqn (bBin zqb (bVar 0) (bC (.int 3))) (bC (.int 4))) (bC (.int 1)))) (sSet false 1 (zqd zxt (zqa (bBin zqw (bC (.int 1)) (bBin zqn (bBin zqb (bVar 0) (bC (.int 0))) (bC (.int 6)))) (zqa (bBin zqw (bC (.int 1)) (bBin zqn (bBin zqb (bVar 0) (bC (.int 1))) (bC (.int 6)))) (zqa (bBin zqw (bC (.int 1)) (bBin zqn (bBin zqb (bVar 0) (bC (.int 2))) (bC (.int 6)))) (aNil))))) [0,0,0]) sNil) (R a b c)=.nx (R a' b' c'):=by
  have tt:=tst 4 1 (R a b c) (by decide) rfl
  cases hd:decide (ys.getD 3 0 % 4=1) with
  | true=>
   rw [hd] at tt
   obtain ⟨a',b',c',ha',hb',hc',e2⟩:=tup 6 (R a b c) (by decide) (by decide) rfl
   exact ⟨a',b',c',ha',hb',hc',(if_t tt).trans (setF e2 (show 1 < 2 by decide) rfl)⟩
  | false=>rw [hd] at tt;exact ⟨a,b,c,ha,hb,hc,(if_f tt).trans rfl⟩
 obtain ⟨a1,b1,c1,ha1,hb1,hc1,v2⟩:=v2
 have v3:∃ a' b' c':Nat,(1<=a'/\a'<=6)/\(1<=b'/\b'<=6)/\(1<=c'/\c'<=6)/\(sIf (bT (bBin (opEq false) (bBin zqn (bBin zqb (bVar 0) (bC (.int 3))) (bC (.int 4))) (bC (.int 2)))) (sSet false 1 (zqd zxt (zqa (bBin zqb (bVar 1) (bC (.int 0))) (zqa (bBin zqb (bVar 1) (bC (.int 0))) (zqa (bBin zqb (bVar 1) (bC (.int 0))) (aNil))))) [1,1,1]) sNil) (R a1 b1 c1)=.nx (R a' b' c'):=by
  have tt:=tst 4 2 (R a1 b1 c1) (by decide) rfl
  cases hd:decide (ys.getD 3 0 % 4=2) with
  | true=>rw [hd] at tt;exact ⟨a1,a1,a1,ha1,ha1,ha1,(if_t tt).trans rfl⟩
  | false=>rw [hd] at tt;exact ⟨a1,b1,c1,ha1,hb1,hc1,(if_f tt).trans rfl⟩
 obtain ⟨a2,b2,c2,ha2,hb2,hc2,v3⟩:=v3
 have v4:∃ a' b' c':Nat,(1<=a'/\a'<=6)/\(1<=b'/\b'<=6)/\(1<=c'/\c'<=6)/\(sIf (bT (bBin (opEq false) (bBin zqn (bBin zqb (bVar 0) (bC (.int 3))) (bC (.int 8))) (bC (.int 3)))) (sSet false 1 (zqd zxt (zqa (bBin zqb (bVar 1) (bC (.int 0))) (zqa (bBin zqb (bVar 1) (bC (.int 0))) (zqa (bBin zqb (bVar 1) (bC (.int 2))) (aNil))))) [1,1,1]) sNil) (R a2 b2 c2)=.nx (R a' b' c'):=by
  have tt:=tst 8 3 (R a2 b2 c2) (by decide) rfl
  cases hd:decide (ys.getD 3 0 % 8=3) with
  | true=>rw [hd] at tt;exact ⟨a2,a2,c2,ha2,ha2,hc2,(if_t tt).trans rfl⟩
  | false=>rw [hd] at tt;exact ⟨a2,b2,c2,ha2,hb2,hc2,(if_f tt).trans rfl⟩
 obtain ⟨a3,b3,c3,ha3,hb3,hc3,v4⟩:=v4
 exact ⟨a3,b3,c3,ha3,hb3,hc3,zwn rfl ((zqg v1).trans ((zqg v2).trans ((zqg v3).trans ((zqg v4).trans rfl))))⟩
theorem qbo {i:Nat}{fk f:Fx}{ρ ρ1 ρ2 ρ3:Rho}{y:PV}{xs:List PV}{k:Int}{j d d2:Nat} (h:f ρ=.ok (y,om,ρ1)) (h0:ρ1[i]?=some (some (.lst xs,d))) (hk:fk ρ1=.ok (.int k,d2,ρ2)) (h1:ρ2[i]?=some (some (.lst xs,d))) (hj:ixN xs.length k=some j) (hd:d≠0) (hy:qa1 y=false) (e:ρ2.set i (some (.lst (xs.set j y),1))=ρ3):zyr i fk f ρ=.nx ρ3:=by
 unfold zyr
 rw [h]
 dsimp only
 rw [h0]
 dsimp only
 rw [hk]
 dsimp only
 rw [h1]
 dsimp only [putX]
 rw [hj]
 dsimp only
 rw [if_neg (λ z=>by rw [hy] at z;cases z.2),if_pos ⟨hd,rfl,rfl⟩,e]
def CH:Fx:=bBin zqb (zqd zqy (zqa (bBin zqn (bVar 7) (bBin zqw (bVar 6) (bC (.int 1)))) (zqa (zqd zkf (zqa (bC (.int 0)) (zqa (bBin zxv (bVar 6) (bBin zxg (bBin zqn (bVar 7) (bC (.int 3))) (bC (.int 2)))) (aNil)))) (zqa (bBin zqn (bVar 7) (bBin zqw (bVar 6) (bC (.int 1)))) (zqa (bVar 6) (aNil)))))) (bBin zqn (bBin zqb (bVar 1) (bC (.int 36))) (bC (.int 4)))
def CS:Fs:=(sSeq (sSet false 6 (bBin zqb (bVar 0) (bC (.int 2))) [0])
 (sSeq (sIf (bT (bBin (zwm λ i j=>decide (j < i)) (bVar 3) (bC (.int 0)))) (sSet false 6 (bBin zqb (bBin zqb (bVar 2) (bBin zxv (bVar 3) (bC (.int 1)))) (bVar 5)) [2,3,5]) sNil)
 (sSeq (sIf (bT (bBin (zwm λ i j=>decide (j < i)) (bVar 5) (bC (.int 0)))) (sSet false 6 (zqd zyu (zqa (bVar 6) (zqa (bBin zqb (bVar 4) (bBin zxv (bVar 5) (bC (.int 1)))) (aNil)))) [6,4,5]) sNil)
 (sSeq (sSet false 7 (bBin zqb (bVar 1) (bBin zqw (bBin zvh (bC (.int 6)) (bVar 3)) (bVar 5))) [1,3,5])
 (sApp 4 CH [7,6,6,7,7,6,6,1])))))
def CR:Fs:=(sSeq (sSet false 4 (zqd zqy (aNil)) [])
 (sSeq (zvx zqz (zqa (bBin zqb (bVar 0) (bC (.int 1))) (aNil)) (asgN 5) CS)
 (sApp 2 (bVar 4) [4])))
def CL1:Fx:=zqh (bBin zqb (bVar 2) (bUn zvy (bC (.int 1)))) 1 (asgN 8) zqj (bBin zxv (bVar 8) (bBin zqn (bBin zqb (bVar 1) (bC (.int 37))) (bBin zqw (bVar 8) (bC (.int 1)))))
def CL2:Fx:=zxs zqz (zqa (bBin zqb (bVar 0) (bC (.int 1))) (aNil)) 1 (asgN 8) zqj (zqd zyu (zqa (bSl (bBin zqb (bVar 2) (bUn zvy (bC (.int 1)))) none (some (bBin zqw (bVar 8) (bC (.int 1))))) (aNil)))
theorem qdp:Xc_pile=(sSeq (sSet false 2 (zqd zqy (aNil)) [])
 (sSeq (zvx zqz (zqa (bBin zqb (bVar 0) (bC (.int 0))) (aNil)) (asgN 3) CR)
 (sSeq (sIf (bT (bBin (opEq false) (bBin zqn (bBin zqb (bVar 1) (bC (.int 36))) (bC (.int 4))) (bC (.int 3)))) (sSeq (zyr 2 (bUn zvy (bC (.int 1))) CL1) (zyr 2 (bUn zvy (bC (.int 1))) CL2)) sNil)
 (zjj 2)))):=rfl
theorem zgf {a b c:Nat}{t:List (List Int)}{r:List Int} (p:Pile a b c t) (ha:1<=a) (hr:r.length=b) (hn:Nr r) (h:∀ y,y < b->0<=r.getD y 0/\r.getD y 0<=g t (a - 1) y):Pile a b c (t.set (a - 1) r):=by
 have l:=p.tab.1
 have e:∀ x y,x < a->g (t.set (a - 1) r) x y=if x=a - 1 then r.getD y 0 else g t x y:=λ x y hx=>by
  show ((t.set (a - 1) r).getD x []).getD y 0=_
  by_cases z:x=a - 1
  ·rw [if_pos z,z,zzf (by omega)]
  ·rw [if_neg z,zkt (λ q=>z q.symm)]
   rfl
 refine ⟨⟨by rw [jf1];exact l,λ s hs=>?_⟩,λ x y hx hy=>?_,λ x y hx hy=>?_,λ x y hx hy=>?_,λ x y hx hy=>?_⟩
 ·rcases jj1 hs with z | z
  ·exact p.tab.2 s z
  ·rw [z];exact hr
 ·rw [e x y hx]
  have:=p.lo x y hx hy
  have:=h y hy
  split <;> omega
 ·rw [e x y hx]
  have:=p.hi x y hx hy
  have:=p.hi (a - 1) y (by omega) hy
  have:=h y hy
  split <;> omega
 ·rw [e (x + 1) y hx,e x y (by omega)]
  have k:=p.dn x y hx hy
  have:=h y hy
  rw [if_neg (show ¬ x=a - 1 by omega)]
  split
  ·rename_i z
   rw [z] at k
   omega
  ·exact k
 ·rw [e x (y + 1) hx,e x y hx]
  have:=p.rt x y hx hy
  split
  ·exact hn y (by rw [hr];exact hy)
  ·omega
def zkd (r:List Int) (j:Nat):Int:=minI (r.getD 0 0) ((r.drop 1).take j)
theorem qfe {m:Int}:∀ {xs:List Int}{n:Int},m<=n->(∀ x∈xs,m<=x)->m<=minI n xs
 | [],n,h,_=>h
 | x::xs,n,h,hx=>by
  show m<=minI (if x < n then x else n) xs
  refine qfe ?_ λ y hy=>hx y (ja1 _ hy)
  have:=hx x ja4
  split <;> omega
theorem zyw:∀ {xs:List Int}{n:Int},minI n xs<=n
 | [],n=>ji6 _
 | x::xs,n=>by
  show minI (if x < n then x else n) xs<=n
  refine jk8 (zyw (xs:=xs)) ?_
  split <;> omega
theorem minI_le:∀ {xs:List Int}{n:Int}{x:Int},x∈xs->minI n xs<=x
 | y::xs,n,x,h=>by
  show minI (if y < n then y else n) xs<=x
  rcases ja6.mp h with rfl | h
  ·refine jk8 (zyw (xs:=xs)) ?_
   split <;> omega
  ·exact minI_le h
theorem qb1:∀ {xs:List Int}{n x:Int},minI n (xs++[x])<=minI n xs
 | [],n,x=>by
  show (if x < n then x else n)<=n
  split <;> omega
 | y::xs,n,x=>qb1 (xs:=xs) (n:=if y < n then y else n)
theorem qer {r:List Int}{j:Nat} (hj:j < r.length):zkd r j<=r.getD j 0:=by
 unfold zkd
 cases j with
 | zero=>exact zyw
 | succ j=>
  refine minI_le (List.mem_iff_getElem?.mpr ⟨j,?_⟩)
  rw [jm9,if_pos (by omega),jp8,show 1 + j=j + 1 by omega]
  exact zxm hj
theorem qes {r:List Int}{j:Nat}{m:Int} (h0:0 < r.length) (h:∀ x∈r,m<=x):m<=zkd r j:=qfe (h _ (zjz h0)) λ x hx=>h x (List.mem_of_mem_drop (ji9 hx))
theorem qet {r:List Int}{j:Nat} (hj:j + 1 < r.length):zkd r (j + 1)<=zkd r j:=by
 unfold zkd
 have:(r.drop 1).take (j + 1)=(r.drop 1).take j++[r.getD (j + 1) 0]:=by
  rw [List.take_add_one,jp8,show 1 + j=j + 1 by omega,zxm hj]
  rfl
 rw [this]
 exact qb1
theorem qhd {r:List Int}{j:Nat} (h0:0 < r.length):r.take (j + 1)=r.getD 0 0::(r.drop 1).take j:=by
 cases r with
 | nil=>cases h0
 | cons x r=>rfl
theorem qix {a b c:Nat} (xs:List Int) (hx:38<=xs.length) (ha:1<=a/\a<=6) (hb:1<=b/\b<=6) (hc:1<=c/\c<=99):∃ t d,Pile a b c t/\d≠0/\c_pile [bx a b c,il xs]=.ok (tb t,d,.non):=by
 have z:=sz
 let R (t:List (List Int)) (d2:Nat) (s3 s4 s5 s6 s7:QQ.Slot):Rho:=[some (bx a b c,0),some (il xs,0),some (tb t,d2),s3,s4,s5,s6,s7]
 have ix:∀ (k:Nat) (f:Fx) (ρ:Rho),k < 38->bVar 1 ρ=.ok (il xs,0,ρ)->f ρ=.ok (.int (k:Int),om,ρ)->bBin zqb (bVar 1) f ρ=.ok (.int (xs.getD k 0),om,ρ):=λ k f ρ hk h h2=>zye (xs:=xs) (k:=(k:Int)) h h2 (zzc (by omega) (zxm (by rw [je8];omega)))
 let m:Int:=xs.getD 36 0 % 4
 have m0:=ji8 (xs.getD 36 0) (show (4:Int)≠0 by decide)
 have m1:=ji1 (xs.getD 36 0) (show (0:Int) < 4 by decide)
 have em:∀ ρ,bVar 1 ρ=.ok (il xs,0,ρ)->bBin zqn (bBin zqb (bVar 1) (bC (.int 36))) (bC (.int 4)) ρ=.ok (.int m,om,ρ):=λ ρ h=>zwp (ix 36 (bC (.int 36)) ρ (by decide) h rfl) rfl (by decide)
 have s1:sSet false 2 (zqd zqy (aNil)) [] [some (bx a b c,0),some (il xs,0),none,none,none,none,none,none]=.nx (R [] om none none none none none):=by kernel_rfl
 have step:∀ (t:List (List Int)) (d2 k j:Nat) (r:List Int) (s6 s7:QQ.Slot),k < a->j < b->Pile k b c t->r.length=j->(∀ y,y < j->0<=r.getD y 0)->∃ h s6' s7',(0<=h/\h<=topH c t r j)/\CS (R t d2 (some (.int (k:Int),om)) (some (il r,om)) (some (.int (j:Int),om)) s6 s7)=.nx (R t d2 (some (.int (k:Int),om)) (some (il (r++[h]),om)) (some (.int (j:Int),om)) s6' s7'):=by
  intro t d2 k j r s6 s7 hk hj p hr hr0
  let Q (s6 s7:QQ.Slot):Rho:=R t d2 (some (.int (k:Int),om)) (some (il r,om)) (some (.int (j:Int),om)) s6 s7
  have l:=p.tab.1
  have v1:sSet false 6 (bBin zqb (bVar 0) (bC (.int 2))) [0] (Q s6 s7)=.nx (Q (some (.int (c:Int),om)) s7):=rfl
  have v2:sIf (bT (bBin (zwm λ i j=>decide (j < i)) (bVar 3) (bC (.int 0)))) (sSet false 6 (bBin zqb (bBin zqb (bVar 2) (bBin zxv (bVar 3) (bC (.int 1)))) (bVar 5)) [2,3,5]) sNil (Q (some (.int (c:Int),om)) s7)=.nx (Q (some (.int (upH c t j),om)) s7):=by
   have tt:bT (bBin (zwm λ i j=>decide (j < i)) (bVar 3) (bC (.int 0))) (Q (some (.int (c:Int),om)) s7)=.ok (decide ((0:Int) < (k:Int)),Q (some (.int (c:Int),om)) s7):=rfl
   by_cases h0:k=0
   ·rw [decide_eq_false (by omega)] at tt
    refine (if_f tt).trans ?_
    unfold upH
    rw [if_pos (by omega)]
    rfl
   ·rw [decide_eq_true (by omega)] at tt
    refine (if_t tt).trans ?_
    unfold upH
    rw [if_neg (by omega),l]
    have q:bBin zxv (bVar 3) (bC (.int 1)) (Q (some (.int (c:Int),om)) s7)=.ok (.int ((k - 1:Nat):Int),om,Q (some (.int (c:Int),om)) s7):=by
     rw [show ((k - 1:Nat):Int)=(k:Int) - 1 by omega]
     exact zjd (i:=(k:Int)) (j:=1) rfl rfl
    exact setF (qa0 (i:=k - 1) (j:=j) p.tab (d:=0) (e':=om) rfl q rfl (by omega) hj) (show 6 < 8 by decide) rfl
  have v3:sIf (bT (bBin (zwm λ i j=>decide (j < i)) (bVar 5) (bC (.int 0)))) (sSet false 6 (zqd zyu (zqa (bVar 6) (zqa (bBin zqb (bVar 4) (bBin zxv (bVar 5) (bC (.int 1)))) (aNil)))) [6,4,5]) sNil (Q (some (.int (upH c t j),om)) s7)=.nx (Q (some (.int (topH c t r j),om)) s7):=by
   have tt:bT (bBin (zwm λ i j=>decide (j < i)) (bVar 5) (bC (.int 0))) (Q (some (.int (upH c t j),om)) s7)=.ok (decide ((0:Int) < (j:Int)),Q (some (.int (upH c t j),om)) s7):=rfl
   by_cases h0:j=0
   ·rw [decide_eq_false (by omega)] at tt
    refine (if_f tt).trans ?_
    unfold topH
    rw [if_pos (by omega)]
    rfl
   ·rw [decide_eq_true (by omega)] at tt
    refine (if_t tt).trans ?_
    have q:bBin zxv (bVar 5) (bC (.int 1)) (Q (some (.int (upH c t j),om)) s7)=.ok (.int ((j - 1:Nat):Int),om,Q (some (.int (upH c t j),om)) s7):=by
     rw [show ((j - 1:Nat):Int)=(j:Int) - 1 by omega]
     exact zjd (i:=(j:Int)) (j:=1) rfl rfl
    have e1:topH c t r j=if r.getD (j - 1) 0 < upH c t j then r.getD (j - 1) 0 else upH c t j:=by
     unfold topH
     rw [if_neg (by omega),hr]
     split <;> omega
    rw [e1]
    exact setF (zxb (zqu (x:=.int (upH c t j)) (d:=om) rfl (zqr (zye (xs:=r) (k:=((j - 1:Nat):Int)) (d:=0) rfl q (zzc (by omega) (zxm (by rw [je8];omega)))))) rfl) (show 6 < 8 by decide) rfl
  have u0:0<=upH c t j:=by
   unfold upH
   split
   ·omega
   ·exact p.lo _ _ (by omega) hj
  have t0:0<=topH c t r j:=by
   unfold topH
   split
   ·exact u0
   ·have:=hr0 (r.length - 1) (by omega)
    omega
  let T:=topH c t r j
  let n:Int:=xs.getD (6 * k + j) 0
  have v4:sSet false 7 (bBin zqb (bVar 1) (bBin zqw (bBin zvh (bC (.int 6)) (bVar 3)) (bVar 5))) [1,3,5] (Q (some (.int T,om)) s7)=.nx (Q (some (.int T,om)) (some (.int n,om))):=by
   refine setF (ix (6 * k + j) _ _ (by omega) rfl ?_) (show 7 < 8 by decide) rfl
   rw [show ((6 * k + j:Nat):Int)=6 * (k:Int) + (j:Int) by omega]
   exact zks (zgs (i:=6) (j:=(k:Int)) rfl rfl (.inl (by decide))) (j:=(j:Int)) rfl
  let W:Rho:=Q (some (.int T,om)) (some (.int n,om))
  have a0:=ji8 n (show T + 1≠0 by omega)
  have a1:=ji1 n (show 0 < T + 1 by omega)
  have b0:=ji8 n (show (3:Int)≠0 by decide)
  have b1:=ji1 n (show (0:Int) < 3 by decide)
  let mx:Int:=if T - n % 3 / 2 > 0 then T - n % 3 / 2 else 0
  let ch:List Int:=[n % (T + 1),mx,n % (T + 1),T]
  have hmx:0<=mx/\mx<=T:=by
   show 0<=(if T - n % 3 / 2 > 0 then T - n % 3 / 2 else 0)/\(if T - n % 3 / 2 > 0 then T - n % 3 / 2 else 0)<=T
   split <;> omega
  have hch:∀ x∈ch,0<=x/\x<=T:=by
   intro x hx
   simp only [ch,ja6,jd2,or_false] at hx
   rcases hx with e | e | e | e <;> omega
  have f1:bBin zqn (bVar 7) (bBin zqw (bVar 6) (bC (.int 1))) W=.ok (.int (n % (T + 1)),om,W):=zwp (i:=n) rfl (zks (i:=T) (j:=1) rfl rfl) (by omega)
  have f2:zqd zkf (zqa (bC (.int 0)) (zqa (bBin zxv (bVar 6) (bBin zxg (bBin zqn (bVar 7) (bC (.int 3))) (bC (.int 2)))) (aNil))) W=.ok (.int mx,om,W):=zxb (zqu (x:=.int 0) (d:=om) rfl (zqr (zjd (i:=T) rfl (zpb (zwp (i:=n) (j:=3) rfl rfl (by decide)) (j:=2) rfl (by decide) (by decide))))) rfl
  have f5:zqd zqy (zqa (bBin zqn (bVar 7) (bBin zqw (bVar 6) (bC (.int 1)))) (zqa (zqd zkf (zqa (bC (.int 0)) (zqa (bBin zxv (bVar 6) (bBin zxg (bBin zqn (bVar 7) (bC (.int 3))) (bC (.int 2)))) (aNil)))) (zqa (bBin zqn (bVar 7) (bBin zqw (bVar 6) (bC (.int 1)))) (zqa (bVar 6) (aNil))))) W=.ok (il ch,om,W):=zxb (zqu f1 (zqu f2 (zqu f1 (zqr (x:=.int T) (d:=om) rfl)))) rfl
  have f6:CH W=.ok (.int (ch.getD m.toNat 0),om,W):=zye f5 (k:=m) (em W rfl) (zzc m0 (zxm (by show m.toNat < 4;omega)))
  have hm:=hch _ (zjz (xs:=ch) (i:=m.toNat) (by show m.toNat < 4;omega))
  refine ⟨ch.getD m.toNat 0,some (.int T,om),some (.int n,om),hm,(zqg v1).trans ((zqg v2).trans ((zqg v3).trans ((zqg v4).trans ((zpj (i:=4) (d0:=999) (d:=om) (xs:=r.map PV.int) (xs0:=r.map PV.int) rfl f6 rfl (by decide) (by rw [ja3];omega) rfl).trans ?_))))⟩
  rw [qf3]
  rfl
 obtain ⟨ρ',e6,t,d2,s3,s4,s5,s6,s7,rfl,pt,hd2⟩:=zvr (i:=3) (body:=CR) (en:=zqz) (fa:=zqa (bBin zqb (bVar 0) (bC (.int 0))) (aNil)) (ρ:=R [] om none none none none none) (ρ1:=R [] om none none none none none) (as:=[(.int (a:Int),om)]) (lo:=0) (hi:=(a:Int))
  (λ k ρ=>∃ t d2 s3 s4 s5 s6 s7,ρ=R t d2 s3 s4 s5 s6 s7/\Pile k b c t/\d2≠0) rfl (zxq (by omega) (by omega)) ⟨[],om,none,none,none,none,none,rfl,⟨⟨rfl,λ _ h=>nomatch h⟩,λ _ _ h=>absurd h (by omega),λ _ _ h=>absurd h (by omega),λ _ _ h=>absurd h (by omega),λ _ _ h=>absurd h (by omega)⟩,by decide⟩ (by
   rintro k ρ hk ⟨t,d2,s3,s4,s5,s6,s7,rfl,pt,hd2⟩
   have hk':k < a:=by omega
   rw [jh2]
   let K:QQ.Slot:=some (.int (k:Int),om)
   have u1:sSet false 4 (zqd zqy (aNil)) [] (R t d2 K s4 s5 s6 s7)=.nx (R t d2 K (some (il [],om)) s5 s6 s7):=rfl
   obtain ⟨ρ2,e2,r,t5,t6,t7,rfl,hr,hr0,hr1,hrn⟩:=zvr (i:=5) (body:=CS) (en:=zqz) (fa:=zqa (bBin zqb (bVar 0) (bC (.int 1))) (aNil)) (ρ:=R t d2 K (some (il [],om)) s5 s6 s7) (ρ1:=R t d2 K (some (il [],om)) s5 s6 s7) (as:=[(.int (b:Int),om)]) (lo:=0) (hi:=(b:Int))
    (λ j ρ=>∃ r s5 s6 s7,ρ=R t d2 K (some (il r,om)) s5 s6 s7/\r.length=j/\(∀ y,y < j->0<=r.getD y 0)/\(∀ y,y < j->r.getD y 0<=upH c t y)/\Nr r) rfl (zxq (by omega) (by omega)) ⟨[],s5,s6,s7,rfl,rfl,λ _ h=>absurd h (by omega),λ _ h=>absurd h (by omega),λ _ h=>absurd h (by simp)⟩ (by
     rintro j ρ hj ⟨r,s5,s6,s7,rfl,hr,hr0,hr1,hrn⟩
     obtain ⟨h,t6,t7,hh,eh⟩:=step t d2 k j r s6 s7 hk' (by omega) pt hr hr0
     refine ⟨show 5 < 8 by decide,R t d2 K (some (il (r++[h]),om)) (some (.int (j:Int),om)) t6 t7,?_,r++[h],some (.int (j:Int),om),t6,t7,rfl,by rw [jb4,hr];rfl,λ y hy=>?_,λ y hy=>?_,λ y hy=>?_⟩
     ·rw [jh2]
      exact eh
     ·rw [zjq]
      by_cases e:y < r.length
      ·rw [if_pos e];exact hr0 y (by omega)
      ·rw [if_neg e,if_pos (by omega)];exact hh.1
     ·rw [zjq]
      by_cases e:y < r.length
      ·rw [if_pos e];exact hr1 y (by omega)
      ·rw [if_neg e,if_pos (by omega),show y=j by omega]
       have:=hh.2
       unfold topH at this
       split at this <;> omega
     ·rw [jb4,jg4] at hy
      rw [zjq,zjq]
      by_cases e:y + 1 < r.length
      ·rw [if_pos e,if_pos (by omega)];exact hrn y e
      ·rw [if_neg e,if_pos (by omega),if_pos (by omega)]
       have:=hh.2
       unfold topH at this
       rw [if_neg (by omega),show r.length - 1=y by omega] at this
       omega)
   rw [show ((b:Int) - 0).toNat=b by omega] at hr hr0 hr1
   refine ⟨show 3 < 8 by decide,R (t++[r]) 1 K (some (il r,0)) t5 t6 t7,?_,t++[r],1,_,_,_,_,_,rfl,pt.snoc hr (λ y hy=>⟨hr0 y hy,hr1 y hy⟩) hrn,by decide⟩
   refine (zqg u1).trans ((zqg e2).trans ?_)
   obtain ⟨d0,rfl⟩:∃ d0,d2=d0 + 1:=⟨d2 - 1,by omega⟩
   refine (zpj (i:=2) (d0:=d0) (d:=d0 + 1) (y:=il r) (e:=0) (xs:=t.map il) (xs0:=t.map il) rfl rfl rfl hd2 (by rw [ja3,pt.tab.1];omega) rfl).trans ?_
   rw [qaf,if_neg (λ h=>absurd h.2 (by decide))]
   rfl)
 rw [show ((a:Int) - 0).toNat=a by omega] at pt
 let W (t:List (List Int)) (d:Nat):Rho:=R t d s3 s4 s5 s6 s7
 have l:=pt.tab.1
 have tt:=t_ok (zky (neg:=false) (em (W t d2) rfl) (g:=bC (.int 3)) (j:=3) (e:=om) rfl)
 rw [jf3] at tt
 have fin:∃ t' d,Pile a b c t'/\d≠0/\sIf (bT (bBin (opEq false) (bBin zqn (bBin zqb (bVar 1) (bC (.int 36))) (bC (.int 4))) (bC (.int 3)))) (sSeq (zyr 2 (bUn zvy (bC (.int 1))) CL1) (zyr 2 (bUn zvy (bC (.int 1))) CL2)) sNil (W t d2)=.nx (W t' d):=by
  cases hd:decide (m=3) with
  | false=>rw [hd] at tt;exact ⟨t,d2,pt,hd2,(if_f tt).trans rfl⟩
  | true=>
   rw [hd] at tt
   have last:∀ (t:List (List Int)) (d:Nat),Tab a b t->bBin zqb (bVar 2) (bUn zvy (bC (.int 1))) (W t d)=.ok (il (t.getD (a - 1) []),0,W t d):=λ t d ht=>qcf (t:=t) (k:=-1) (d:=0) rfl rfl (qcz (by rw [ht.1];exact zxw (by rw [ht.1];omega)))
   let r:=t.getD (a - 1) []
   have hr:r.length=b:=pt.tab.row (by omega)
   let w:Int:=xs.getD 37 0
   let r1:List Int:=r.map λ x=>x - w % (x + 1)
   have r0:∀ x∈r,0<=x:=λ x hx=>by
    obtain ⟨y,hy,e⟩:=QV.mem_getD hx
    rw [<- e]
    exact pt.lo (a - 1) y (by omega) (by omega)
   have c1:CL1 (W t d2)=.ok (il r1,om,W t d2):=by
    have k:=zxi (n:=8) (elt:=bBin zxv (bVar 8) (bBin zqn (bBin zqb (bVar 1) (bC (.int 37))) (bBin zqw (bVar 8) (bC (.int 1))))) (enc:=PV.int) (q:=λ x=>.int (x - w % (x + 1))) r (last t d2 pt.tab) rfl (λ x hx=>by
     have:=r0 x hx
     exact zjd (i:=x) (d:=om) rfl (zwp (ix 37 (bC (.int 37)) _ (by decide) rfl rfl) (zks (i:=x) (j:=1) (d:=om) (e:=om) rfl rfl) (by omega))) (by omega)
    refine k.trans ?_
    show Rz.ok (PV.lst _,om,_)=Rz.ok (PV.lst ((r.map λ x=>x - w % (x + 1)).map PV.int),om,_)
    rw [jc2]
    rfl
   have ij:∀ t:List (List Int),t.length=a->ixN (t.map il).length (-1)=some (a - 1):=λ t h=>by
    unfold ixN
    rw [ja3,h,if_neg (by decide),if_pos (by omega),show (-1 + (a:Int)).toNat=a - 1 by omega]
   have p1:zyr 2 (bUn zvy (bC (.int 1))) CL1 (W t d2)=.nx (W (t.set (a - 1) r1) 1):=qbo (ρ1:=W t d2) (ρ2:=W t d2) (xs:=t.map il) (d:=d2) (k:=-1) c1 rfl rfl rfl (ij t l) hd2 rfl (by
    show [some (bx a b c,0),some (il xs,0),some (PV.lst ((t.map il).set (a - 1) (il r1)),1),s3,s4,s5,s6,s7]=_
    rw [<- jo4]
    rfl)
   let t1:=t.set (a - 1) r1
   have l1:t1.length=a:=by show (t.set (a - 1) r1).length=a;rw [jf1];exact l
   have hr1:r1.length=b:=by show (r.map _).length=b;rw [ja3];exact hr
   have ht1:Tab a b t1:=⟨l1,λ s hs=>(jj1 hs).elim (pt.tab.2 s) λ e=>by rw [e];exact hr1⟩
   have g1:t1.getD (a - 1) []=r1:=zzf (by omega)
   let r2:List Int:=(ja2 b).map λ j=>zkd r1 j
   have c2:CL2 (W t1 1)=.ok (il r2,om,W t1 1):=by
    have k:=zva (n:=8) (en:=zqz) (fa:=zqa (bBin zqb (bVar 0) (bC (.int 1))) (aNil)) (elt:=zqd zyu (zqa (bSl (bBin zqb (bVar 2) (bUn zvy (bC (.int 1)))) none (some (bBin zqw (bVar 8) (bC (.int 1))))) (aNil))) (ρ:=W t1 1) (ρ1:=W t1 1) (as:=[(.int (b:Int),om)]) (lo:=0) (hi:=(b:Int)) (q:=λ j=>.int (zkd r1 j)) rfl (zxq (by omega) (by omega)) rfl (λ j hj=>by
     rw [jh2]
     let V:Rho:=W t1 1++[some (.int (j:Int),om)]
     have la:bBin zqb (bVar 2) (bUn zvy (bC (.int 1))) V=.ok (il r1,0,V):=by
      rw [<- g1]
      exact qcf (t:=t1) (k:=-1) (d:=0) rfl rfl (qcz (by rw [l1];exact zxw (by omega)))
     have ad:bBin zqw (bVar 8) (bC (.int 1)) V=.ok (.int ((j + 1:Nat):Int),om,V):=by
      rw [show ((j + 1:Nat):Int)=(j:Int) + 1 by omega]
      exact zks (i:=(j:Int)) (j:=1) rfl rfl
     have sl:bSl (bBin zqb (bVar 2) (bUn zvy (bC (.int 1)))) none (some (bBin zqw (bVar 8) (bC (.int 1)))) V=.ok (il (r1.getD 0 0::(r1.drop 1).take j),om,V):=by
      unfold bSl
      rw [la]
      dsimp only [Rz.bind,evO]
      rw [ad]
      show Rz.ok (PV.lst (cutP (r1.map PV.int) none (some ((j + 1:Nat):Int))),d1 (cutP (r1.map PV.int) none (some ((j + 1:Nat):Int))),V)=_
      have e:cutP (r1.map PV.int) none (some ((j + 1:Nat):Int))=(r1.getD 0 0::(r1.drop 1).take j).map PV.int:=by
       unfold cutP
       rw [HT.sIx_nat]
       show ((r1.map PV.int).drop 0).take (min (j + 1) (r1.map PV.int).length - 0)=_
       rw [js9,jq8,ja3,js6 (by omega),<- jp9,qhd (by omega)]
      rw [e,zhn]
      rfl
     exact qpb (zqr sl)) (by omega)
    refine k.trans ?_
    show Rz.ok (PV.lst ((ja2 ((b:Int) - 0).toNat).map λ j=>PV.int (zkd r1 j)),om,_)=Rz.ok (PV.lst (((ja2 b).map λ j=>zkd r1 j).map PV.int),om,_)
    rw [jc2,show ((b:Int) - 0).toNat=b by omega]
    rfl
   have p2:zyr 2 (bUn zvy (bC (.int 1))) CL2 (W t1 1)=.nx (W (t1.set (a - 1) r2) 1):=qbo (ρ1:=W t1 1) (ρ2:=W t1 1) (xs:=t1.map il) (d:=1) (k:=-1) c2 rfl rfl rfl (ij t1 l1) (by decide) rfl (by
    show [some (bx a b c,0),some (il xs,0),some (PV.lst ((t1.map il).set (a - 1) (il r2)),1),s3,s4,s5,s6,s7]=_
    rw [<- jo4]
    rfl)
   have et:t1.set (a - 1) r2=t.set (a - 1) r2:=by
    show (t.set (a - 1) r1).set (a - 1) r2=_
    rw [List.set_set]
   rw [et] at p2
   have hr2:r2.length=b:=by show ((ja2 b).map _).length=b;rw [ja3,jc8]
   have rl:∀ y,y < b->r1.getD y 0<=g t (a - 1) y/\0<=r1.getD y 0:=λ y hy=>by
    have e:r1.getD y 0=r.getD y 0 - w % (r.getD y 0 + 1):=by
     show (r.map _).getD y 0=_
     rw [ja0,jc1,zxm (by omega)]
     rfl
    have h0:=r0 _ (zjz (xs:=r) (i:=y) (by omega))
    have q0:=ji8 w (show r.getD y 0 + 1≠0 by omega)
    have q1:=ji1 w (show 0 < r.getD y 0 + 1 by omega)
    rw [e]
    have:g t (a - 1) y=r.getD y 0:=rfl
    omega
   have e2:∀ y,y < b->r2.getD y 0=zkd r1 y:=λ y hy=>zkw hy
   refine ⟨t.set (a - 1) r2,1,zgf pt ha.1 hr2 (λ y hy=>?_) (λ y hy=>?_),by decide,(if_t tt).trans ((zqg p1).trans p2)⟩
   ·rw [hr2] at hy
    rw [e2 _ hy,e2 y (by omega)]
    exact qet (by omega)
   ·rw [e2 y hy]
    refine ⟨qes (by omega) λ x hx=>?_,jk8 (qer (by omega)) (rl y hy).1⟩
    obtain ⟨q,hq,e⟩:=QV.mem_getD hx
    rw [<- e]
    exact (rl q (by omega)).2
 obtain ⟨t',d,pt',hd,ef⟩:=fin
 refine ⟨t',d,pt',hd,?_⟩
 show mkFn false 2 6 Xc_pile _=_
 rw [qdp]
 exact zwn rfl ((zqg s1).trans ((zqg e6).trans ((zqg ef).trans rfl)))
theorem orF {f g:Fx}{ρ ρ1:Rho}{d:Nat} (h:f ρ=.ok (.bl false,d,ρ1)):bOrV f g ρ=g ρ1:=by
 unfold bOrV
 rw [h]
 rfl
def zwz (a b:Nat):List (List Int):=jb1 a (jb1 b 0)
theorem zbc (a b:Nat):Tab a b (zwz a b):=⟨by unfold zwz;rw [je6],λ r hr=>by rw [(List.mem_replicate.mp hr).2,je6]⟩
theorem qdr {a b i j:Nat} (hi:i < a) (hj:j < b):g (zwz a b) i j=0:=by
 unfold g zwz
 rw [ja0,ja0,jd9,if_pos hi]
 show (jb1 b (0:Int))[j]?.getD 0=0
 rw [jd9,if_pos hj]
 rfl
def hT (t:List (List Int)):List C3->List (List Int)
 | []=>t
 | x::r=>hT (putT t x.1 x.2.1) r
theorem qf6 {a b:Nat}:∀ {cs:List C3}{t:List (List Int)},Tab a b t->(∀ x∈cs,x.1 < a/\x.2.1 < b)->Tab a b (hT t cs)
 | [],t,ht,_=>ht
 | x::r,t,ht,h=>qf6 (cs:=r) (t:=putT t x.1 x.2.1) (qbp ht (h x ja4).1) λ y hy=>h y (ja1 _ hy)
def hCnt (cs:List C3) (i j:Nat):Nat:=(cs.filter λ x=>decide (x.1=i/\x.2.1=j)).length
theorem qj4 {a b:Nat}{i j:Nat}:∀ {cs:List C3}{t:List (List Int)},Tab a b t->(∀ x∈cs,x.1 < a/\x.2.1 < b)->g (hT t cs) i j=g t i j + (hCnt cs i j:Nat)
 | [],t,ht,_=>by show g t i j=g t i j + ((0:Nat):Int);omega
 | x::r,t,ht,h=>by
  have hx:=h x ja4
  show g (hT (putT t x.1 x.2.1) r) i j=_
  rw [qj4 (qbp ht hx.1) λ y hy=>h y (ja1 _ hy),qhy ht hx.1 hx.2]
  unfold hCnt
  by_cases e:x.1=i/\x.2.1=j
  ·rw [if_pos ⟨e.1.symm,e.2.symm⟩,jf7 (p:=λ (x:C3)=>decide (x.1=i/\x.2.1=j)) (decide_eq_true e),ja9];omega
  ·rw [if_neg (λ z=>e ⟨z.1.symm,z.2.symm⟩),je9 (p:=λ (x:C3)=>decide (x.1=i/\x.2.1=j)) (by rw [decide_eq_true_iff];exact e)];omega
theorem qmh (t:List (List Int)) (x:C3):∀ cs:List C3,hT t (cs++[x])=putT (hT t cs) x.1 x.2.1:=λ cs=>by
 induction cs generalizing t with
 | nil=>rfl
 | cons y r ih=>exact ih (putT t y.1 y.2.1)
theorem qpa {α:Type}{a b c:Nat} (Q:C3->Bool) (F:C3->α) (hb:0 < b) (hc:0 < c):((ja2 (a * b * c)).filter λ m=>Q (numC b c m)).map (λ m=>F (numC b c m))=(ja2 a).flatMap λ i=>(ja2 b).flatMap λ j=>((ja2 c).filter λ k=>Q (i,j,k)).map λ k=>F (i,j,k):=by
 rw [zkb c (a * b),jj7,jr7]
 have d1:∀ q r,r < c->(q * c + r) % c=r:=λ q r hr=>by rw [jf5,jk1,jj2 hr]
 have d2:∀ q r,r < c->(q * c + r) / c=q:=λ q r hr=>by rw [jf5,jk2 hc,jj3 hr,jm8]
 have e:∀ q∈ja2 (a * b),(((ja2 c).map λ r=>q * c + r).filter λ m=>Q (numC b c m)).map (λ m=>F (numC b c m))=((ja2 c).filter λ k=>Q (q / b,q % b,k)).map λ k=>F (q / b,q % b,k):=λ q _=>by
  rw [ji7,jc2]
  have e1:(ja2 c).filter ((λ m=>Q (numC b c m)) ∘ λ r=>q * c + r)=(ja2 c).filter λ k=>Q (q / b,q % b,k):=by
   refine je5 λ r hr=>?_
   have hr':=jb9.mp hr
   show Q ((q * c + r) / c / b,(q * c + r) / c % b,(q * c + r) % c)=_
   rw [d1 q r hr',d2 q r hr']
  rw [e1]
  refine jd0 λ r hr=>?_
  have hr':=jb9.mp (jh3.mp hr).1
  show F ((q * c + r) / c / b,(q * c + r) / c % b,(q * c + r) % c)=_
  rw [d1 q r hr',d2 q r hr']
 rw [zxn e,zkb b a,jp7]
 refine zxn λ i _=>?_
 rw [jr8]
 refine zxn λ j hj=>?_
 have hj':=jb9.mp hj
 have d3:(i * b + j) % b=j:=by rw [jf5,jk1,jj2 hj']
 have d4:(i * b + j) / b=i:=by rw [jf5,jk2 hb,jj3 hj',jm8]
 rw [d3,d4]
theorem sumz:∀ n:Nat,((ja2 n).map λ _=>(0:Nat)).sum=0
 | 0=>rfl
 | n + 1=>by rw [jd7,jd3,je7,sumz n];rfl
theorem zwr {f:Nat->Nat}{i0:Nat}:∀ {n:Nat},i0 < n->(∀ i,i < n->i≠i0->f i=0)->((ja2 n).map f).sum=f i0
 | 0,h,_=>absurd h (by omega)
 | n + 1,h,e=>by
  rw [jd7,jd3,je7]
  show _ + (f n + 0)=_
  by_cases hn:i0=n
  ·have z:((ja2 n).map f).sum=0:=by
    have:(ja2 n).map f=(ja2 n).map λ _=>0:=jd0 λ i hi=>e i (by have:=jb9.mp hi;omega) (by have:=jb9.mp hi;omega)
    rw [this];exact sumz n
   rw [z,hn];omega
  ·rw [zwr (by omega) λ i hi=>e i (by omega),e n (by omega) (λ z=>hn z.symm)];omega
theorem ql7 {a b c:Nat} (Q:C3->Bool) (F:C3->C3) (x y:Nat):hCnt ((ja2 a).flatMap λ i=>(ja2 b).flatMap λ j=>((ja2 c).filter λ k=>Q (i,j,k)).map λ k=>F (i,j,k)) x y=((ja2 a).map λ i=>((ja2 b).map λ j=>((ja2 c).filter λ k=>Q (i,j,k) && decide ((F (i,j,k)).1=x/\(F (i,j,k)).2.1=y)).length).sum).sum:=by
 unfold hCnt
 rw [jj7,jp0]
 congr 1
 refine jd0 λ i _=>?_
 rw [jj7,jp0]
 congr 1
 refine jd0 λ j _=>?_
 rw [ji7,ja3,jq0]
 congr 1
 refine je5 λ k _=>?_
 rw [jt4]
 rfl
theorem zwc {α:Type}{P:α->Bool}{l:List α} (h:∀ x∈l,P x=false):(l.filter P).length=0:=by
 rw [List.filter_eq_nil_iff.mpr λ x hx=>by rw [h x hx];exact jb6];rfl
def inP (t:List (List Int)) (x:C3):Bool:=decide ((x.2.2:Int) < g t x.1 x.2.1)
theorem zfk (t:List (List Int)) (b c n:Nat):dueN t b c n=((ja2 n).filter λ m=>inP t (numC b c m)).map λ m=>numC b c m:=rfl
theorem qo9 {a b c m:Nat} (hb:0 < b) (hc:0 < c) (h:m < a * b * c):(numC b c m).1 < a/\(numC b c m).2.1 < b/\(numC b c m).2.2 < c:=by
 refine ⟨?_,jt1 _ hb,jt1 _ hc⟩
 show m / c / b < a
 refine jl3 (jl3 ?_)
 rw [jf5 c,jf5 b]
 exact h
theorem qcg {a b c A B:Nat}{t0:List (List Int)} (Q:C3->Bool) (F:C3->C3) (hb:0 < b) (hc:0 < c) (hF:∀ x:C3,x.1 < a->x.2.1 < b->x.2.2 < c->(F x).1 < A/\(F x).2.1 < B):
  (∀ x∈((ja2 (a * b * c)).filter λ m=>Q (numC b c m)).map (λ m=>F (numC b c m)),x.1 < A/\x.2.1 < B)/\Tab A B (hT (zwz A B) (((ja2 (a * b * c)).filter λ m=>Q (numC b c m)).map λ m=>F (numC b c m))) /\
  ∀ x y,x < A->y < B->g (hT (zwz A B) (((ja2 (a * b * c)).filter λ m=>Q (numC b c m)).map λ m=>F (numC b c m))) x y=((((ja2 a).map λ i=>((ja2 b).map λ j=>((ja2 c).filter λ k=>Q (i,j,k) && decide ((F (i,j,k)).1=x/\(F (i,j,k)).2.1=y)).length).sum).sum:Nat):Int):=by
 have h1:∀ x∈((ja2 (a * b * c)).filter λ m=>Q (numC b c m)).map (λ m=>F (numC b c m)),x.1 < A/\x.2.1 < B:=λ x hx=>by
  obtain ⟨m,hm,rfl⟩:=je3.mp hx
  have hm':=jb9.mp (jh3.mp hm).1
  obtain ⟨q1,q2,q3⟩:=qo9 (a:=a) hb hc hm'
  exact hF _ q1 q2 q3
 refine ⟨h1,qf6 (zbc A B) h1,λ x y hx hy=>?_⟩
 rw [qj4 (zbc A B) h1,qdr hx hy,qpa Q F hb hc,ql7]
 omega
theorem zyz {P:Nat->Bool}{y:Nat}:∀ {c:Nat},y < c->((ja2 c).filter λ k=>P k && decide (k=y)).length=if P y=true then 1 else 0
 | 0,h=>absurd h (by omega)
 | c + 1,h=>by
  rw [jd7,jp6,jb4]
  by_cases e:y=c
  ·rw [zwc λ k hk=>by rw [decide_eq_false (by have:=jb9.mp hk;omega),jg1]]
   subst e
   cases hp:P y with
   | true=>rw [jf7 (p:=λ k=>P k && decide (k=y)) (by rw [hp,decide_eq_true rfl];rfl)];rfl
   | false=>rw [je9 (p:=λ k=>P k && decide (k=y)) (by rw [hp];exact jb6)];rfl
  ·rw [zyz (by omega),je9 (p:=λ k=>P k && decide (k=y)) (by rw [decide_eq_false (λ z=>e z.symm),jg1];exact jb6)]
   rfl
theorem qa7 {f:Nat->Int}{y:Int}:∀ a:Nat,cnt ((ja2 a).map f) y=(((ja2 a).map λ i=>if y < f i then (1:Nat) else 0).sum:Nat)
 | 0=>rfl
 | a + 1=>by
  rw [jd7,jd3,jp5,zfq,qa7 a,jd3,je7]
  by_cases h:y < f a
  ·simp [h]
  ·simp [h]
theorem qqv {a b c:Nat}{t:List (List Int)} (p:Pile a b c t) (hb:0 < b) (hc:0 < c):(∀ x∈(dueN t b c (a * b * c)).map (λ x=>((x.2.1,x.1,x.2.2):C3)),x.1 < b/\x.2.1 < a)/\hT (zwz b a) ((dueN t b c (a * b * c)).map λ x=>((x.2.1,x.1,x.2.2):C3))=mirT t b:=by
 have e:(dueN t b c (a * b * c)).map (λ x=>((x.2.1,x.1,x.2.2):C3))=((ja2 (a * b * c)).filter λ m=>inP t (numC b c m)).map λ m=>(λ x:C3=>((x.2.1,x.1,x.2.2):C3)) (numC b c m):=by
  rw [zfk,jc2]
  rfl
 rw [e]
 obtain ⟨q1,q2,q3⟩:=qcg (a:=a) (A:=b) (B:=a) (t0:=[]) (inP t) (λ x:C3=>((x.2.1,x.1,x.2.2):C3)) hb hc λ x h1 h2 h3=>⟨h2,h1⟩
 refine ⟨q1,zwq q2 (zxu p.tab) λ x y hx hy=>?_⟩
 rw [q3 x y hx hy,zxp p.tab hy hx,zwr hy λ i hi ne=>?_,zwr hx λ j hj ne=>?_]
 ·have g0:=p.lo y x hy hx
  have g1:=p.hi y x hy hx
  have:((ja2 c).filter λ k=>inP t (y,x,k) && decide (((λ x:C3=>((x.2.1,x.1,x.2.2):C3)) (y,x,k)).1=x/\((λ x:C3=>((x.2.1,x.1,x.2.2):C3)) (y,x,k)).2.1=y))=ja2 (g t y x).toNat:=by
   rw [<- zzz (g t y x).toNat c (by omega)]
   refine je5 λ k _=>?_
   rw [decide_eq_true (show x=x/\y=y from ⟨rfl,rfl⟩),jh1]
   show decide ((k:Int) < g t y x)=decide (k < (g t y x).toNat)
   by_cases h:(k:Int) < g t y x
   ·rw [decide_eq_true h,decide_eq_true (by omega)]
   ·rw [decide_eq_false h,decide_eq_false (by omega)]
  rw [this,jc8]
  omega
 ·exact zwc λ k _=>by rw [decide_eq_false (λ z=>ne z.1),jg1]
 ·have:((ja2 b).map λ j=>((ja2 c).filter λ k=>inP t (i,j,k) && decide (((λ x:C3=>((x.2.1,x.1,x.2.2):C3)) (i,j,k)).1=x/\((λ x:C3=>((x.2.1,x.1,x.2.2):C3)) (i,j,k)).2.1=y)).length)=(ja2 b).map λ _=>0:=jd0 λ j _=>zwc λ k _=>by rw [decide_eq_false (λ z=>ne z.2),jg1]
  rw [this];exact sumz b
theorem qqu {a b c:Nat}{t:List (List Int)} (p:Pile a b c t) (hb:0 < b) (hc:0 < c):(∀ x∈(dueN t b c (a * b * c)).map (λ x=>((x.2.1,x.2.2,x.1):C3)),x.1 < b/\x.2.1 < c)/\hT (zwz b c) ((dueN t b c (a * b * c)).map λ x=>((x.2.1,x.2.2,x.1):C3))=rolT t b c:=by
 have e:(dueN t b c (a * b * c)).map (λ x=>((x.2.1,x.2.2,x.1):C3))=((ja2 (a * b * c)).filter λ m=>inP t (numC b c m)).map λ m=>(λ x:C3=>((x.2.1,x.2.2,x.1):C3)) (numC b c m):=by
  rw [zfk,jc2]
  rfl
 rw [e]
 obtain ⟨q1,q2,q3⟩:=qcg (a:=a) (A:=b) (B:=c) (t0:=[]) (inP t) (λ x:C3=>((x.2.1,x.2.2,x.1):C3)) hb hc λ x h1 h2 h3=>⟨h2,h3⟩
 refine ⟨q1,zwq q2 (by rw [zzm];exact zzo) λ x y hx hy=>?_⟩
 rw [q3 x y hx hy,zzm,zqo hx hy]
 have ec:zwi t x=(ja2 a).map λ i=>g t i x:=by
  refine zkp (by rw [zzb,p.tab.1,ja3,jc8]) λ i hi=>?_
  rw [zzb,p.tab.1] at hi
  rw [zzu (by rw [p.tab.1];exact hi),zkw hi]
 rw [ec,qa7]
 congr 2
 refine jd0 λ i _=>?_
 rw [zwr hx λ j hj ne=>?_]
 ·have:((ja2 c).filter λ k=>inP t (i,x,k) && decide (((λ x:C3=>((x.2.1,x.2.2,x.1):C3)) (i,x,k)).1=x/\((λ x:C3=>((x.2.1,x.2.2,x.1):C3)) (i,x,k)).2.1=y))=(ja2 c).filter λ k=>inP t (i,x,k) && decide (k=y):=je5 λ k _=>by
   by_cases h:k=y
   ·rw [decide_eq_true (show x=x/\k=y from ⟨rfl,h⟩),decide_eq_true h]
   ·rw [decide_eq_false (λ z=>h z.2),decide_eq_false h]
  rw [this,zyz hy]
  show (if decide ((y:Int) < g t i x)=true then 1 else 0)=_
  by_cases h:(y:Int) < g t i x
  ·rw [decide_eq_true h,if_pos rfl,if_pos h]
  ·rw [decide_eq_false h,if_neg jb6,if_neg h]
 ·exact zwc λ k _=>by rw [decide_eq_false (λ z=>ne z.1),jg1]
theorem zpx {t:List (List Int)}{a b:Nat}{x:C3}:x∈zqi t a b↔x.1 < a/\x.2.1 < b/\(x.2.2:Int) < g t x.1 x.2.1:=by
 obtain ⟨i,j,k⟩:=x
 unfold zqi rowC zpi
 simp only [jr5,jb9,je3,Prod.mk.injEq]
 constructor
 ·rintro ⟨i',hi,j',hj,k',hk,rfl,rfl,rfl⟩
  exact ⟨hi,hj,by omega⟩
 ·rintro ⟨hi,hj,hk⟩
  exact ⟨i,hi,j,hj,k,by omega,rfl,rfl,rfl⟩
theorem qma {a b:Nat}{t:List (List Int)} (ht:Tab a b t):mirT (mirT t b) a=t:=
 zwq (zxu (zxu ht)) ht λ i j hi hj=>by rw [zxp (zxu ht) hj hi,zxp ht hi hj]
theorem rol3 {a b c:Nat}{t:List (List Int)} (p:Pile a b c t):rolT (rolT (rolT t b c) c a) a b=t:=by
 rw [qar p,zzm]
 exact zwq zzo p.tab λ i j hi hj=>by rw [zqo hi hj,zpk p hi hj]
theorem ql9 {a b c:Nat}{t:List (List Int)} (p:Pile a b c t):mirT (rolT t b c) c=rolT (rolT (mirT t b) a c) c b:=by
 rw [qar (zyd p)]
 refine zwq (zxu (by rw [zzm];exact zzo)) (zwa (zxu p.tab)) λ k j hk hj=>?_
 rw [zxp (by rw [zzm];exact zzo) hj hk,zzm,zqo hj hk,zqx (zxu p.tab) hk hj]
 unfold mirT
 rw [zbs hj]
theorem qhu {a b:Nat}{c:Int}{t:List (List Int)} (ht:Tab a b t):zwk (mirT t b) c=mirT (zwk t c) b:=
 zwq (zvf (zxu ht)) (zxu (zvf ht)) λ j i hj hi=>by
  rw [zxr (zxu ht) hj hi,zxp ht (by omega) (by omega),zxp (zvf ht) hi hj,zxr ht hi hj]
theorem qht {a b c:Nat}{t:List (List Int)} (p:Pile a b c t):zwk (rolT t b c) a=rolT (zwk t c) b c:=by
 have q:=zgj p
 have r1:=zvo p
 have r2:=zvo q
 have r3:=zgj r1
 refine zwq r3.tab r2.tab λ j k hj hk=>?_
 have l1:=r3.lo j k hj hk
 have l2:=r2.lo j k hj hk
 have h1:=r3.hi j k hj hk
 have h2:=r2.hi j k hj hk
 have key:∀ i:Nat,i < a->((i:Int) < g (zwk (rolT t b c) a) j k↔(i:Int) < g (rolT (zwk t c) b c) j k):=λ i hi=>by
  rw [qej q hi hj hk,zxr r1.tab hj hk,zxr p.tab hi hj]
  have:=qej p (i:=a - 1 - i) (j:=b - 1 - j) (k:=c - 1 - k) (by omega) (by omega) (by omega)
  omega
 by_cases e:g (zwk (rolT t b c) a) j k < g (rolT (zwk t c) b c) j k
 ·have:=key (g (zwk (rolT t b c) a) j k).toNat (by omega)
  omega
 ·by_cases e':g (rolT (zwk t c) b c) j k < g (zwk (rolT t b c) a) j k
  ·have:=key (g (rolT (zwk t c) b c) j k).toNat (by omega)
   omega
  ·omega
def sumT (t:List (List Int)):Int:=(t.map jn1).sum
theorem qaj {a b:Nat}{t:List (List Int)} (ht:Tab a b t):sumT t=((ja2 a).map λ i=>((ja2 b).map λ j=>g t i j).sum).sum:=by
 have e:t.map jn1=(ja2 a).map λ i=>((ja2 b).map λ j=>g t i j).sum:=by
  refine zkp (by rw [ja3,ja3,jc8,ht.1]) λ i hi=>?_
  rw [ja3] at hi
  rw [zkw (by rw [<- ht.1];exact hi)]
  rw [ja0,jc1,ja8 hi]
  show t[i].sum=_
  have e2:t.getD i []=t[i]:=by rw [ja0,ja8 hi];rfl
  rw [<- e2,qjo ht (by rw [<- ht.1];exact hi)]
 unfold sumT
 rw [e]
theorem qbg {f:Nat->Nat->Int} (b:Nat):∀ a:Nat,((ja2 a).map λ i=>((ja2 b).map λ j=>f i j).sum).sum=((ja2 b).map λ j=>((ja2 a).map λ i=>f i j).sum).sum
 | 0=>by simp [zjo]
 | a + 1=>by
  rw [jd7,jd3,je7,qbg b a]
  have:((ja2 b).map λ j=>((ja2 a++[a]).map λ i=>f i j).sum)=(ja2 b).map λ j=>((ja2 a).map λ i=>f i j).sum + f a j:=jd0 λ j _=>by rw [jd3,je7];simp
  rw [this,zmo]
  simp
theorem qk8 {a b:Nat}{t:List (List Int)} (ht:Tab a b t):sumT (mirT t b)=sumT t:=by
 rw [qaj ht,qaj (zxu ht),qbg b a]
 refine congrArg jn1 (jd0 λ j hj=>congrArg jn1 (jd0 λ i hi=>?_))
 exact zxp ht (jb9.mp hi) (jb9.mp hj)
theorem qc9 {a b c:Nat}{t:List (List Int)} (p:Pile a b c t):sumT (zqt t c)=sumT t:=by
 refine zpo c t λ r hr x hx=>?_
 obtain ⟨i,hi,rfl⟩:=zbt hr
 obtain ⟨j,hj,rfl⟩:=mem_getD hx
 rw [p.tab.1] at hi
 rw [p.tab.row hi] at hj
 exact ⟨p.lo i j hi hj,p.hi i j hi hj⟩
theorem qk7 {a b c:Nat}{t:List (List Int)} (p:Pile a b c t):sumT (rolT t b c)=sumT t:=by
 have e:=qc9 (zvo p)
 rw [<- qar (zvo p),rol3 p] at e
 exact e.symm
theorem qq0:∀ r:List C3,d1 (r.map c3)=om:=by
 have:∀ r:List C3,zft (r.map c3)=true:=λ r=>by
  induction r with
  | nil=>rfl
  | cons z r ih=>
   rw [jb7]
   exact ih
 intro r
 unfold d1
 rw [this]
 rfl
section
variable {a b c:Nat}{t:List (List Int)}
def CCi:Fs:=sSet false 1 (bBin zqw (bVar 1) (zxs zqz (zqa (bBin zqb (bBin zqb (bVar 0) (bVar 2)) (bVar 3)) (aNil)) 1 (asgN 4) zqj (zqd zxt (zqa (bVar 2) (zqa (bVar 3) (zqa (bVar 4) (aNil))))))) [1,2,3]
theorem zvm (p:Pile a b c t) (ha:a<=6) (hb:b<=6) (hc:c<=6):c_cubes [tb t]=.ok (ct (zqi t a b),om,.non):=by
 have z:=sz
 have l:=p.tab.1
 let R (cs:List C3) (s2 s3:QQ.Slot):Rho:=[some (tb t,0),some (ct cs,om),s2,s3]
 have s1:sSet false 1 (zqd zqy (aNil)) [] [some (tb t,0),none,none,none]=.nx (R [] none none):=by kernel_rfl
 have bd:∀ {i j:Nat},i < a->j<=b->(zqi t i b++rowC t i j).length<=400:=λ {i j} hi hj=>by
  have k1:=zkq p (i:=i) (by omega)
  have k2:=zmw p hi hj
  have k3:b * c<=6 * 6:=ji4 hb hc
  have k4:i * (b * c)<=6 * (6 * 6):=ji4 (by omega) k3
  have k5:j * c<=6 * 6:=ji4 (by omega) hc
  rw [jb4]
  omega
 have qif:∀ (i j:Nat) (s3:QQ.Slot),i < a->j < b->CCi (R (zqi t i b++rowC t i j) (some (.int (i:Int),om)) (some (.int (j:Int),om)))=.nx (R (zqi t i b++rowC t i (j + 1)) (some (.int (i:Int),om)) (some (.int (j:Int),om))):=by
  intro i j s3 hi hj
  let X:=zqi t i b++rowC t i j
  let Q (cs:List C3):Rho:=R cs (some (.int (i:Int),om)) (some (.int (j:Int),om))
  have g0:=p.lo i j hi hj
  have g1:=p.hi i j hi hj
  have e1:=zva (n:=4) (en:=zqz) (fa:=zqa (bBin zqb (bBin zqb (bVar 0) (bVar 2)) (bVar 3)) (aNil)) (elt:=zqd zxt (zqa (bVar 2) (zqa (bVar 3) (zqa (bVar 4) (aNil))))) (ρ:=Q X) (ρ1:=Q X) (as:=[(.int (g t i j),om)]) (lo:=0) (hi:=g t i j) (q:=λ k=>c3 (i,j,k)) (zqr (qa0 (i:=i) (j:=j) p.tab (d:=0) (e:=om) (e':=om) rfl rfl rfl hi hj)) (zxq (by omega) (by omega)) rfl (λ k hk=>by rw [jh2];rfl) (by omega)
  have e2:PV.lst ((ja2 (g t i j - 0).toNat).map λ k=>c3 (i,j,k))=ct (zpi t i j):=by
   unfold ct zpi
   rw [jc2,Int.sub_zero]
   rfl
  rw [e2] at e1
  have b2:=bd hi (show j + 1<=b from hj)
  have ex:zqi t i b++rowC t i (j + 1)=X++zpi t i j:=by rw [zbl,<- jk3]
  rw [ex] at b2 ⊢
  refine setF (x:=ct (X++zpi t i j)) (d:=om) (zxj (x:=ct X) (d:=0) (ρ1:=Q X) rfl e1 ?_) (show 1 < 4 by decide) rfl
  unfold ct zqw
  dsimp only
  rw [if_pos (by rw [ja3,ja3,<- jb4];omega),<- jd3,qq0]
 obtain ⟨ρ',e6,s2,s3,rfl⟩:=zvr (i:=2) (body:=zvx zqz (zqa (zqd zwh (zqa (bBin zqb (bVar 0) (bVar 2)) (aNil))) (aNil)) (asgN 3) CCi) (en:=zqz) (fa:=zqa (zqd zwh (zqa (bVar 0) (aNil))) (aNil)) (ρ:=R [] none none) (ρ1:=R [] none none) (as:=[(.int (a:Int),om)]) (lo:=0) (hi:=(a:Int))
  (λ i ρ=>∃ s2 s3,ρ=R (zqi t i b) s2 s3) (by rw [<- l];exact zqr (qj0 (t:=t) (d:=0) rfl)) (zxq (by omega) (by omega)) ⟨none,none,rfl⟩ (by
   rintro i _ hi ⟨s2,s3,rfl⟩
   have hi':i < a:=by omega
   rw [jh2]
   let I:QQ.Slot:=some (.int (i:Int),om)
   obtain ⟨ρ2,e2,s3',rfl⟩:=zvr (i:=3) (body:=CCi) (en:=zqz) (fa:=zqa (zqd zwh (zqa (bBin zqb (bVar 0) (bVar 2)) (aNil))) (aNil)) (ρ:=R (zqi t i b) I s3) (ρ1:=R (zqi t i b) I s3) (as:=[(.int (b:Int),om)]) (lo:=0) (hi:=(b:Int))
    (λ j ρ=>∃ s3,ρ=R (zqi t i b++rowC t i j) I s3) (by
     have e:bBin zqb (bVar 0) (bVar 2) (R (zqi t i b) I s3)=.ok (il (t.getD i []),0,R (zqi t i b) I s3):=qcf (t:=t) (k:=(i:Int)) (d:=0) rfl rfl (zzc (by omega) (zxw (by rw [je8,l];exact hi')))
     have:=zqr (qb5 (zqr e))
     rw [p.tab.row hi'] at this
     exact this) (zxq (by omega) (by omega)) ⟨s3,by rw [show rowC t i 0=[] from rfl,jj8]⟩ (by
     rintro j _ hj ⟨s3,rfl⟩
     rw [jh2]
     exact ⟨show 3 < 4 by decide,_,qif i j s3 hi' (by omega),_,rfl⟩)
   refine ⟨show 2 < 4 by decide,_,e2,I,s3',?_⟩
   rw [show ((b:Int) - 0).toNat=b by omega,zya])
 rw [show ((a:Int) - 0).toNat=a by omega] at e6
 exact zwn rfl ((zqg s1).trans ((zqg e6).trans rfl))
theorem qki {cs:List C3} (ha:a<=1000) (hb:b<=1000) (h:∀ x∈cs,x.1 < a/\x.2.1 < b):c_of_cubes [bx a b c,ct cs]=.ok (tb (hT (zwz a b) cs),om,.non):=by
 have z:=sz
 let R0:Rho:=[some (bx a b c,0),some (ct cs,0),none,none,none,none]
 let R (t:List (List Int)) (s3 s4 s5:QQ.Slot):Rho:=[some (bx a b c,0),some (ct cs,0),some (tb t,om),s3,s4,s5]
 have row:∀ k:Nat,zxs zqz (zqa (bBin zqb (bVar 0) (bC (.int 1))) (aNil)) 1 (asgN 7) zqj (bC (.int 0)) (R0++[some (.int (0 + (k:Int)),om)])=.ok (il (jb1 b 0),om,R0++[some (.int (0 + (k:Int)),om)]):=λ k=>by
  have e:=zva (n:=7) (en:=zqz) (fa:=zqa (bBin zqb (bVar 0) (bC (.int 1))) (aNil)) (elt:=bC (.int 0)) (ρ:=R0++[some (.int (0 + (k:Int)),om)]) (ρ1:=R0++[some (.int (0 + (k:Int)),om)]) (as:=[(.int (b:Int),om)]) (lo:=0) (hi:=(b:Int)) (q:=λ _=>.int 0) rfl (zxq (by omega) (by omega)) rfl (λ _ _=>rfl) (by omega)
  refine e.trans ?_
  unfold il
  rw [show ((b:Int) - 0).toNat=b by omega,jq1,jm1,jc8]
 have e1:=zva (n:=6) (en:=zqz) (fa:=zqa (bBin zqb (bVar 0) (bC (.int 0))) (aNil)) (elt:=zxs zqz (zqa (bBin zqb (bVar 0) (bC (.int 1))) (aNil)) 1 (asgN 7) zqj (bC (.int 0))) (ρ:=R0) (ρ1:=R0) (as:=[(.int (a:Int),om)]) (lo:=0) (hi:=(a:Int)) (q:=λ _=>il (jb1 b 0)) rfl (zxq (by omega) (by omega)) rfl (λ k hk=>row k) (by omega)
 have e2:PV.lst ((ja2 ((a:Int) - 0).toNat).map λ _=>il (jb1 b 0))=tb (zwz a b):=by
  unfold tb zwz
  rw [show ((a:Int) - 0).toNat=a by omega,jq1,jm1,jc8]
 rw [e2] at e1
 have s1:sSet false 2 (zxs zqz (zqa (bBin zqb (bVar 0) (bC (.int 0))) (aNil)) 1 (asgN 6) zqj (zxs zqz (zqa (bBin zqb (bVar 0) (bC (.int 1))) (aNil)) 1 (asgN 7) zqj (bC (.int 0)))) [] R0=.nx (R (zwz a b) none none none):=setF e1 (show 2 < 6 by decide) rfl
 obtain ⟨ρ',e3,s3,s4,s5,rfl⟩:=qio (f:=bVar 1) (vs:=[1]) (asg:=asgT [3,4,5]) (body:=qao 2 (bVar 3) (bVar 4) (bBin zqw (bBin zqb (bBin zqb (bVar 2) (bVar 3)) (bVar 4)) (bC (.int 1)))) (ρ:=R (zwz a b) none none none) (ρ1:=R (zwz a b) none none none) (ρ2:=R (zwz a b) none none none) (els:=cs.map c3) (d:=0)
  (λ n ρ=>∃ s3 s4 s5,ρ=R (hT (zwz a b) (cs.take n)) s3 s4 s5) rfl rfl ⟨none,none,none,by rw [jk6];rfl⟩ (by
   rintro n y ρ hy ⟨s3,s4,s5,rfl⟩
   have hn:n < cs.length:=by
    have:=(jb3.mp hy).1
    rw [ja3] at this
    exact this
   rw [jc1,ja8 hn] at hy
   cases hy
   have hx:=h cs[n] (je4 hn)
   have ht:=qf6 (zbc a b) (cs:=cs.take n) λ x hx=>h x (ji9 hx)
   let Q (t:List (List Int)):Rho:=R t (some (.int (cs[n].1:Int),om)) (some (.int (cs[n].2.1:Int),om)) (some (.int (cs[n].2.2:Int),om))
   refine ⟨Q (hT (zwz a b) (cs.take n)),Q (hT (zwz a b) (cs.take (n + 1))),rfl,?_,_,_,_,rfl⟩
   have es:cs.take (n + 1)=cs.take n++[cs[n]]:=by rw [js8,ja8 hn];rfl
   rw [es,qmh]
   exact qlr (x:=tb (hT (zwz a b) (cs.take n))) (a:=(cs[n].1:Int)) (b:=(cs[n].2.1:Int)) (zks (qa0 (i:=cs[n].1) (j:=cs[n].2.1) ht (d:=0) rfl rfl rfl hx.1 hx.2) (j:=1) rfl) rfl rfl rfl (qlq (by rw [ht.1];exact hx.1) (by rw [ht.row hx.1];exact hx.2)) rfl rfl)
 rw [ja3,List.take_length] at e3
 exact zwn rfl ((zqg s1).trans ((zqg e3).trans rfl))
theorem qiw {m n:Nat} (ht:Tab m n t) (hm:m<=1000) (hn:n<=1000) (x y:Int) (k:Int):c_rest [bx x y k,tb t]=.ok (tb (zwk t k),om,.non):=by
 have z:=sz
 let R:Rho:=[some (bx x y k,0),some (tb t,0)]
 have e1:=zxi (n:=2) (f:=bUn opRv (bVar 1)) (elt:=zqh (bUn opRv (bVar 2)) 1 (asgN 3) zqj (bBin zxv (bBin zqb (bVar 0) (bC (.int 2))) (bVar 3))) (enc:=il) (q:=λ r=>il (r.reverse.map λ h=>k - h)) (ρ:=R) t.reverse (qhr (xs:=t) (enc:=il) (d:=0) rfl) rfl (λ r hr=>by
  have e2:=zxi (n:=3) (f:=bUn opRv (bVar 2)) (elt:=bBin zxv (bBin zqb (bVar 0) (bC (.int 2))) (bVar 3)) (enc:=PV.int) (q:=λ h=>.int (k - h)) (ρ:=R++[some (il r,0)]) r.reverse (qhr (xs:=r) (enc:=PV.int) (d:=0) rfl) rfl (λ h _=>zjd (i:=k) (j:=h) (d:=om) (e:=om) rfl rfl) (by rw [jd1,ht.2 r (jj4.mp hr)];omega)
  refine e2.trans ?_
  unfold il
  rw [jc2]
  rfl) (by rw [jd1,ht.1];omega)
 have e3:PV.lst (t.reverse.map λ r=>il (r.reverse.map λ h=>k - h))=tb (zwk t k):=by
  unfold tb zwk
  rw [jc2]
  rfl
 rw [e3] at e1
 exact zwn rfl (zxo e1)
end
theorem qjd {a b:Nat}{h:Int->Int->Int}{t u:List (List Int)} (ht:Tab a b t) (hu:Tab a b u):Tab a b (zT h t u):=by
 refine ⟨by unfold zT;rw [ja3,jm2,ht.1,hu.1,jt7],λ r hr=>?_⟩
 obtain ⟨z,hz,rfl⟩:=je3.mp hr
 rw [List.length_zipWith,ht.2 _ (jh5 hz).1,hu.2 _ (jh5 hz).2,jt7]
theorem zfx {a b:Nat}{h:Int->Int->Int}{t u:List (List Int)} (ht:Tab a b t) (hu:Tab a b u):zT h t u=mkT a b λ i j=>h (g t i j) (g u i j):=by
 refine zwq (qjd ht hu) zzo λ i j hi hj=>?_
 rw [zqo hi hj]
 have e1:(zT h t u).getD i []=jl1 h (t.getD i []) (u.getD i []):=by
  unfold zT
  rw [ja0,jc1,(List.getElem?_zip_eq_some (z:=(t.getD i [],u.getD i []))).mpr ⟨zxw (by rw [ht.1];exact hi),zxw (by rw [hu.1];exact hi)⟩]
  rfl
 show ((zT h t u).getD i []).getD j 0=_
 rw [e1,ja0,List.getElem?_zipWith,zxm (by rw [ht.row hi];exact hj),zxm (by rw [hu.row hi];exact hj)]
 rfl
def Xf_copy_of:Fs:=(sRet (zqh (bVar 0) 1 (asgN 1) zqj (zqd zzn (zqa (bVar 1) (aNil)))))
def f_copy_of:Fn:=mkFn false 1 0 Xf_copy_of
theorem qip {t:List (List Int)} (hl:t.length<=1000):f_copy_of [tb t]=.ok (tb t,om,.non):=zwn rfl (zxo (qa6 (i:=0) (n:=1) (d:=0) (ρ:=[some (tb t,0)]) rfl rfl hl))
def lowT (t u:List (List Int)):List (List Int):=zT (λ i j=>if j < i then j else i) t u
section
variable {a b c:Nat}{t u l:List (List Int)}
theorem qfk (ht:Tab a b t) (hu:Tab a b u) {x y:Nat} (hx:x < a) (hy:y < b):g (lowT t u) x y=if g u x y < g t x y then g u x y else g t x y:=by
 unfold lowT
 rw [zfx ht hu,zqo hx hy]
theorem qds (f:Int->Int->Int) (hf:∀ i j k m:Int,i<=k->j<=m->f i j<=f k m) (h0:∀ i j,f i j=i\/f i j=j) (p:Pile a b c t) (q:Pile a b c u):Pile a b c (zT f t u):=by
 refine ⟨qjd p.tab q.tab,λ x y hx hy=>?_,λ x y hx hy=>?_,λ x y hx hy=>?_,λ x y hx hy=>?_⟩
 ·rw [zfx p.tab q.tab,zqo hx hy]
  have:=p.lo x y hx hy
  have:=q.lo x y hx hy
  rcases h0 (g t x y) (g u x y) with e | e <;> omega
 ·rw [zfx p.tab q.tab,zqo hx hy]
  have:=p.hi x y hx hy
  have:=q.hi x y hx hy
  rcases h0 (g t x y) (g u x y) with e | e <;> omega
 ·rw [zfx p.tab q.tab,zqo hx hy,zqo (by omega) hy]
  exact hf _ _ _ _ (p.dn x y hx hy) (q.dn x y hx hy)
 ·rw [zfx p.tab q.tab,zqo hx hy,zqo hx (by omega)]
  exact hf _ _ _ _ (p.rt x y hx hy) (q.rt x y hx hy)
theorem zju (p:Pile a b c t) (q:Pile a b c u):Pile a b c (lowT t u):=qds _ (λ i j k m h1 h2=>by split <;> split <;> omega) (λ i j=>by split <;> simp) p q
end
def q3 (z:C3):vc5:=.tuple [.int (z.1:Int),.int (z.2.1:Int),.int (z.2.2:Int)]
theorem qj8 (x y:C3):vb1 (q3 x) (q3 y)=decide (x=y):=by
 have h:=zhg [x] [y]
 rw [jb7,jf0,jb7,jf0,vb9,vb9,jh1] at h
 refine h.trans ?_
 by_cases e:x=y
 ·rw [decide_eq_true e,e,decide_eq_true rfl]
 ·rw [decide_eq_false e,decide_eq_false λ z=>e (List.cons.inj z).1]
theorem qpo {f h:Fx}{ρ ρ1 ρ2:Rho}{x:C3}{cs:List C3}{d e:Nat} (h1:f ρ=.ok (c3 x,d,ρ1)) (h2:h ρ1=.ok (ct cs,e,ρ2)):bBin (opIn false) f h ρ=.ok (.bl (decide (x∈cs)),om,ρ2):=by
 refine zxj h1 h2 ?_
 show (match toD 20 (c3 x),toDL (toD 20) (cs.map c3) with | some a,some bs=>some (PV.bl (false^^bs.any λ b=>vb1 b a),om) | _,_=>none)=_
 rw [zwt (q:=q3) λ z=>rfl]
 show some (PV.bl (false^^(cs.map q3).any λ b=>vb1 b (q3 x)),om)=_
 rw [jf3,jt8]
 congr 3
 rw [je2,jr9,decide_eq_true_iff]
 constructor
 ·rintro ⟨y,hy,e⟩
  have e:vb1 (q3 y) (q3 x)=true:=e
  rw [qj8,decide_eq_true_iff] at e
  rw [<- e];exact hy
 ·intro hx
  exact ⟨x,hx,by show vb1 (q3 x) (q3 x)=true;rw [qj8,decide_eq_true rfl]⟩
section
variable {a b c:Nat}{t:List (List Int)}
def pm1 (x:C3):C3:=(x.2.1,x.1,x.2.2)
def pm2 (x:C3):C3:=(x.2.1,x.2.2,x.1)
def pm4 (x:C3):C3:=(x.2.2,x.1,x.2.1)
theorem h1_c (p:Pile a b c t) (hb:0 < b) (hc:0 < c):(∀ x∈(zqi t a b).map pm1,x.1 < b/\x.2.1 < a)/\hT (zwz b a) ((zqi t a b).map pm1)=mirT t b:=by
 have:=qqv p hb hc
 rw [qcl p hb hc] at this
 exact this
theorem h2_c (p:Pile a b c t) (hb:0 < b) (hc:0 < c):(∀ x∈(zqi t a b).map pm2,x.1 < b/\x.2.1 < c)/\hT (zwz b c) ((zqi t a b).map pm2)=rolT t b c:=by
 have:=qqu p hb hc
 rw [qcl p hb hc] at this
 exact this
theorem h4_c (p:Pile a b c t) (hb:0 < b) (hc:0 < c):(∀ x∈(zqi t a b).map pm4,x.1 < c/\x.2.1 < a)/\hT (zwz c a) ((zqi t a b).map pm4)=zqt t c:=by
 have e:(zqi t a b).map pm4=((ja2 (a * b * c)).filter λ m=>inP t (numC b c m)).map λ m=>pm4 (numC b c m):=by
  rw [<- qcl p hb hc,zfk,jc2]
  rfl
 rw [e]
 obtain ⟨q1,q2,q3⟩:=qcg (a:=a) (A:=c) (B:=a) (t0:=[]) (inP t) pm4 hb hc λ x h1 h2 h3=>⟨h3,h1⟩
 refine ⟨q1,zwq q2 (zwa p.tab) λ x y hx hy=>?_⟩
 rw [q3 x y hx hy,zqx p.tab hx hy,qjo p.tab hy,qa7]
 congr 1
 rw [zwr hy λ i hi ne=>?_]
 ·congr 1
  refine jd0 λ j _=>?_
  have:((ja2 c).filter λ k=>inP t (y,j,k) && decide ((pm4 (y,j,k)).1=x/\(pm4 (y,j,k)).2.1=y))=(ja2 c).filter λ k=>inP t (y,j,k) && decide (k=x):=je5 λ k _=>by
   by_cases h:k=x
   ·rw [decide_eq_true (show (pm4 (y,j,k)).1=x/\(pm4 (y,j,k)).2.1=y from ⟨h,rfl⟩),decide_eq_true h]
   ·rw [decide_eq_false (λ z=>h z.1),decide_eq_false h]
  rw [this,zyz hx]
  show (if decide ((x:Int) < g t y j)=true then 1 else 0)=_
  by_cases h:(x:Int) < g t y j
  ·rw [decide_eq_true h,if_pos rfl,if_pos h]
  ·rw [decide_eq_false h,if_neg jb6,if_neg h]
 ·have:∀ j,((ja2 c).filter λ k=>inP t (i,j,k) && decide ((pm4 (i,j,k)).1=x/\(pm4 (i,j,k)).2.1=y)).length=0:=λ j=>zwc λ k _=>by rw [decide_eq_false (λ z=>ne z.2),jg1]
  simp only [this]
  exact sumz b
theorem qae (ha:1<=a/\a<=6) (hb:1<=b/\b<=6) (hc:1<=c/\c<=6) (p:Pile a b c t) {w o1 o2 o3:Int}{A B C:Nat}{F:C3->C3}{t':List (List Int)}
  (v1:∀ s,sSet false 3 (bBin zqb (zqd zqy (zqa (zqd zqy (zqa (bC (.int 0)) (zqa (bC (.int 1)) (zqa (bC (.int 2)) (aNil))))) (zqa (zqd zqy (zqa (bC (.int 1)) (zqa (bC (.int 0)) (zqa (bC (.int 2)) (aNil))))) (zqa (zqd zqy (zqa (bC (.int 1)) (zqa (bC (.int 2)) (zqa (bC (.int 0)) (aNil))))) (zqa (zqd zqy (zqa (bC (.int 2)) (zqa (bC (.int 1)) (zqa (bC (.int 0)) (aNil))))) (zqa (zqd zqy (zqa (bC (.int 2)) (zqa (bC (.int 0)) (zqa (bC (.int 1)) (aNil))))) (zqa (zqd zqy (zqa (bC (.int 0)) (zqa (bC (.int 2)) (zqa (bC (.int 1)) (aNil))))) (aNil)))))))) (bVar 2)) [2] [some (bx a b c,0),s,some (.int w,om),none,none,none]=.nx [some (bx a b c,0),s,some (.int w,0),some (il [o1,o2,o3],0),none,none])
  (v2:∀ s,sSet false 4 (zqd zxt (zqa (bBin zqb (bVar 0) (bBin zqb (bVar 3) (bC (.int 0)))) (zqa (bBin zqb (bVar 0) (bBin zqb (bVar 3) (bC (.int 1)))) (zqa (bBin zqb (bVar 0) (bBin zqb (bVar 3) (bC (.int 2)))) (aNil))))) [0,3,0,3,0,3] [some (bx a b c,0),s,some (.int w,0),some (il [o1,o2,o3],0),none,none]=.nx [some (bx a b c,0),s,some (.int w,0),some (il [o1,o2,o3],0),some (bx A B C,om),none])
  (ve:∀ s (x:C3),zqd zxt (zqa (bBin zqb (bVar 6) (bBin zqb (bVar 3) (bC (.int 0)))) (zqa (bBin zqb (bVar 6) (bBin zqb (bVar 3) (bC (.int 1)))) (zqa (bBin zqb (bVar 6) (bBin zqb (bVar 3) (bC (.int 2)))) (aNil)))) ([some (bx a b c,0),s,some (.int w,0),some (il [o1,o2,o3],0),some (bx A B C,om),none]++[some (c3 x,0)])=.ok (c3 (F x),om,[some (bx a b c,0),s,some (.int w,0),some (il [o1,o2,o3],0),some (bx A B C,om),none]++[some (c3 x,0)]))
  (hA:A<=6) (hB:B<=6) (hF:(∀ x∈(zqi t a b).map F,x.1 < A/\x.2.1 < B)/\hT (zwz A B) ((zqi t a b).map F)=t'):∃ d,c_turned [bx a b c,tb t,.int w]=.ok (.tup [bx A B C,tb t'],d,.non):=by
 have z:=sz
 let R (s5:QQ.Slot):Rho:=[some (bx a b c,0),some (tb t,0),some (.int w,0),some (il [o1,o2,o3],0),some (bx A B C,om),s5]
 have k3:b * c<=6 * 6:=ji4 hb.2 hc.2
 have k4:a * (b * c)<=6 * (6 * 6):=ji4 ha.2 k3
 have cl:=zkq p (i:=a) (jb2 _)
 have e1:=qp2 (k:=1) (f:=zqe c_cubes (zqa (bVar 1) (aNil))) (asg:=asgN 6) (test:=zqj) (elt:=zqd zxt (zqa (bBin zqb (bVar 6) (bBin zqb (bVar 3) (bC (.int 0)))) (zqa (bBin zqb (bVar 6) (bBin zqb (bVar 3) (bC (.int 1)))) (zqa (bBin zqb (bVar 6) (bBin zqb (bVar 3) (bC (.int 2)))) (aNil))))) (enc:=c3) (q:=λ x=>c3 (F x)) (E:=λ x=>[some (c3 x,0)]) (p:=λ _=>true) (ρ:=R none) (zqi t a b) (zqf (xs:=[(tb t,0)]) rfl (zvm p ha.2 hb.2 hc.2)) (λ _ _=>rfl) (λ _ _=>rfl) (λ x _ _=>ve (some (tb t,0)) x) (by omega)
 rw [QV.filter_all] at e1
 have e2:PV.lst ((zqi t a b).map λ x=>c3 (F x))=ct ((zqi t a b).map F):=by
  unfold ct
  rw [jc2]
  rfl
 rw [e2] at e1
 have v3:sSet false 5 (zqh (zqe c_cubes (zqa (bVar 1) (aNil))) 1 (asgN 6) zqj (zqd zxt (zqa (bBin zqb (bVar 6) (bBin zqb (bVar 3) (bC (.int 0)))) (zqa (bBin zqb (bVar 6) (bBin zqb (bVar 3) (bC (.int 1)))) (zqa (bBin zqb (bVar 6) (bBin zqb (bVar 3) (bC (.int 2)))) (aNil)))))) [1,1,3,1,3,1,3] (R none)=.nx (R (some (ct ((zqi t a b).map F),om))):=setF e1 (show 5 < 6 by decide) rfl
 have e4:=qki (a:=A) (b:=B) (c:=C) (by omega) (by omega) hF.1
 rw [hF.2] at e4
 exact ⟨_,zwn rfl ((zqg (v1 (some (tb t,0)))).trans ((zqg (v2 (some (tb t,0)))).trans ((zqg v3).trans (zxo (zxb (zqu (x:=bx A B C) (d:=0) rfl (zqr (zqf (xs:=[(bx A B C,0),(ct ((zqi t a b).map F),0)]) rfl e4))) rfl)))))⟩
theorem qqa (ha:1<=a/\a<=6) (hb:1<=b/\b<=6) (hc:1<=c/\c<=6) (p:Pile a b c t):∃ d,c_turned [bx a b c,tb t,.int 1]=.ok (.tup [bx b a c,tb (mirT t b)],d,.non):=qae ha hb hc p (w:=1) (o1:=1) (o2:=0) (o3:=2) (F:=pm1) (λ s=>by kernel_rfl) (λ s=>by kernel_rfl) (λ s x=>rfl) hb.2 ha.2 (h1_c p (by omega) (by omega))
theorem qp9 (ha:1<=a/\a<=6) (hb:1<=b/\b<=6) (hc:1<=c/\c<=6) (p:Pile a b c t):∃ d,c_turned [bx a b c,tb t,.int 2]=.ok (.tup [bx b c a,tb (rolT t b c)],d,.non):=qae ha hb hc p (w:=2) (o1:=1) (o2:=2) (o3:=0) (F:=pm2) (λ s=>by kernel_rfl) (λ s=>by kernel_rfl) (λ s x=>rfl) hb.2 hc.2 (h2_c p (by omega) (by omega))
theorem qp8 (ha:1<=a/\a<=6) (hb:1<=b/\b<=6) (hc:1<=c/\c<=6) (p:Pile a b c t):∃ d,c_turned [bx a b c,tb t,.int 4]=.ok (.tup [bx c a b,tb (zqt t c)],d,.non):=qae ha hb hc p (w:=4) (o1:=2) (o2:=0) (o3:=1) (F:=pm4) (λ s=>by kernel_rfl) (λ s=>by kernel_rfl) (λ s x=>rfl) hc.2 ha.2 (h4_c p (by omega) (by omega))
end
section
variable {a b c:Nat}{t u l:List (List Int)}
end
section
variable {a b c:Nat}{t u:List (List Int)}
theorem zmn (ht:Tab a b t):t=(ja2 a).map λ i=>t.getD i []:=by
 refine jn4 (by rw [ja3,jc8,ht.1]) λ i h1 h2=>?_
 rw [List.getElem_map,jm6,ja0,ja8 h1]
 rfl
theorem qdq {α β:Type}{f:Nat->α}{h:Nat->β} (n:Nat):((ja2 n).map f).zip ((ja2 n).map h)=(ja2 n).map λ i=>(f i,h i):=by
 rw [List.zip_map,List.zip_eq_zipWith,List.zipWith_self,jc2]
 rfl
end
def mxm (m i:Int):Int:=if m > i then m else i
theorem qp7 {α:Type}{u v:List α}{x:Nat}{d:α}:(u++v).getD x d=if x < u.length then u.getD x d else v.getD (x - u.length) d:=by
 by_cases h:x < u.length
 ·rw [if_pos h,ja0,jc4 h,<- ja0]
 ·rw [if_neg h,ja0,jd4 (by omega),<- ja0]
theorem qq7 {u v:List (List Int)}{x y:Nat}:g (u++v) x y=if x < u.length then g u x y else g v (x - u.length) y:=by
 unfold g
 rw [qp7]
 split <;> rfl
section
variable {a b c:Nat}{t:List (List Int)}
def whF (a b h:Nat) (c:Int) (t:List (List Int)) (x y:Nat):Int:=if x < h then mxm (c - c / 2) (g t x y) else c - mxm (c - c / 2) (g t (a - 1 - x) (b - 1 - y))
def whG (a b h:Nat) (c:Int) (t:List (List Int)) (x y:Nat):Int:=if y < h then mxm (c - c / 2) (g t x y) else c - mxm (c - c / 2) (g t (a - 1 - x) (b - 1 - y))
theorem qg8 {h:Nat} (p:Pile a b c t) (hh:a=2 * h):Pile a b c (mkT a b (whF a b h c t)):=by
 refine ⟨zzo,λ x y hx hy=>?_,λ x y hx hy=>?_,λ x y hx hy=>?_,λ x y hx hy=>?_⟩
 ·rw [zqo hx hy]
  unfold whF mxm
  have:=p.lo x y hx hy
  have:=p.hi (a - 1 - x) (b - 1 - y) (by omega) (by omega)
  split <;> split <;> omega
 ·rw [zqo hx hy]
  unfold whF mxm
  have:=p.hi x y hx hy
  have:=p.lo (a - 1 - x) (b - 1 - y) (by omega) (by omega)
  split <;> split <;> omega
 ·rw [zqo hx hy,zqo (by omega) hy]
  unfold whF mxm
  have k1:=p.dn x y hx hy
  have k2:=p.dn (a - 1 - (x + 1)) (b - 1 - y) (by omega) (by omega)
  rw [show a - 1 - (x + 1) + 1=a - 1 - x by omega] at k2
  by_cases e1:x + 1 < h
  ·rw [if_pos e1,if_pos (show x < h by omega)]
   split <;> split <;> omega
  ·rw [if_neg e1]
   by_cases e2:x < h
   ·rw [if_pos e2]
    split <;> split <;> omega
   ·rw [if_neg e2]
    split <;> split <;> omega
 ·rw [zqo hx hy,zqo hx (by omega)]
  unfold whF mxm
  have k1:=p.rt x y hx hy
  have k2:=p.rt (a - 1 - x) (b - 1 - (y + 1)) (by omega) (by omega)
  rw [show b - 1 - (y + 1) + 1=b - 1 - y by omega] at k2
  by_cases e2:x < h
  ·rw [if_pos e2,if_pos e2]
   split <;> split <;> omega
  ·rw [if_neg e2,if_neg e2]
   split <;> split <;> omega
theorem qg7 {h:Nat} (p:Pile a b c t) (hh:b=2 * h):Pile a b c (mkT a b (whG a b h c t)):=by
 refine ⟨zzo,λ x y hx hy=>?_,λ x y hx hy=>?_,λ x y hx hy=>?_,λ x y hx hy=>?_⟩
 ·rw [zqo hx hy]
  unfold whG mxm
  have:=p.lo x y hx hy
  have:=p.hi (a - 1 - x) (b - 1 - y) (by omega) (by omega)
  split <;> split <;> omega
 ·rw [zqo hx hy]
  unfold whG mxm
  have:=p.hi x y hx hy
  have:=p.lo (a - 1 - x) (b - 1 - y) (by omega) (by omega)
  split <;> split <;> omega
 ·rw [zqo hx hy,zqo (by omega) hy]
  unfold whG mxm
  have k1:=p.dn x y hx hy
  have k2:=p.dn (a - 1 - (x + 1)) (b - 1 - y) (by omega) (by omega)
  rw [show a - 1 - (x + 1) + 1=a - 1 - x by omega] at k2
  by_cases e2:y < h
  ·rw [if_pos e2,if_pos e2]
   split <;> split <;> omega
  ·rw [if_neg e2,if_neg e2]
   split <;> split <;> omega
 ·rw [zqo hx hy,zqo hx (by omega)]
  unfold whG mxm
  have k1:=p.rt x y hx hy
  have k2:=p.rt (a - 1 - x) (b - 1 - (y + 1)) (by omega) (by omega)
  rw [show b - 1 - (y + 1) + 1=b - 1 - y by omega] at k2
  by_cases e1:y + 1 < h
  ·rw [if_pos e1,if_pos (show y < h by omega)]
   split <;> split <;> omega
  ·rw [if_neg e1]
   by_cases e2:y < h
   ·rw [if_pos e2]
    split <;> split <;> omega
   ·rw [if_neg e2]
    split <;> split <;> omega
def zvz (h:Nat) (m:Int) (t:List (List Int)):List (List Int):=(t.take h).map λ r=>r.map (mxm m)
def zjl (h:Nat) (m:Int) (t:List (List Int)):List (List Int):=t.map λ r=>(r.take h).map (mxm m)
theorem zgz {h:Nat}{m:Int} (ht:Tab a b t) (hh:h<=a):Tab h b (zvz h m t):=by
 refine ⟨by unfold zvz;rw [ja3,jd8,ht.1];omega,λ r hr=>?_⟩
 obtain ⟨s,hs,rfl⟩:=je3.mp hr
 rw [ja3]
 exact ht.2 s (ji9 hs)
theorem zhb {h:Nat}{m:Int} (ht:Tab a b t) (hh:h<=b):Tab a h (zjl h m t):=by
 refine ⟨by unfold zjl;rw [ja3,ht.1],λ r hr=>?_⟩
 obtain ⟨s,hs,rfl⟩:=je3.mp hr
 rw [ja3,jd8,ht.2 s hs]
 omega
theorem zha {h:Nat}{m:Int} (ht:Tab a b t) (hh:h<=a) {x y:Nat} (hx:x < h) (hy:y < b):g (zvz h m t) x y=mxm m (g t x y):=by
 have e:(zvz h m t).getD x []=(t.getD x []).map (mxm m):=by
  unfold zvz
  rw [ja0,jc1,jm9,if_pos hx,zxw (by rw [ht.1];omega)]
  rfl
 show ((zvz h m t).getD x []).getD y 0=_
 rw [e,zfg (by rw [ht.row (by omega)];exact hy)]
 rfl
theorem qf5 {h:Nat}{m:Int} (ht:Tab a b t) (hh:h<=b) {x y:Nat} (hx:x < a) (hy:y < h):g (zjl h m t) x y=mxm m (g t x y):=by
 have e:(zjl h m t).getD x []=((t.getD x []).take h).map (mxm m):=by
  unfold zjl
  rw [ja0,jc1,zxw (by rw [ht.1];omega)]
  rfl
 show ((zjl h m t).getD x []).getD y 0=_
 rw [e,zfg (by rw [jd8,ht.row (by omega)];omega),ja0,jm9,if_pos hy,<- ja0]
 rfl
theorem qnb {h:Nat} (ht:Tab a b t) (hh:a=2 * h):zvz h ((c:Int) - (c:Int) / 2) t++zwk (zvz h ((c:Int) - (c:Int) / 2) t) c=mkT a b (whF a b h c t):=by
 have h1:=zgz (m:=(c:Int) - (c:Int) / 2) ht (show h<=a by omega)
 have h2:Tab h b (zwk (zvz h ((c:Int) - (c:Int) / 2) t) c):=zvf h1
 refine zwq ⟨by rw [jb4,h1.1,h2.1];omega,λ r hr=>(jc9.mp hr).elim (h1.2 r) (h2.2 r)⟩ zzo λ x y hx hy=>?_
 rw [zqo hx hy,qq7,h1.1]
 unfold whF
 by_cases e:x < h
 ·rw [if_pos e,if_pos e,zha ht (by omega) e hy]
 ·rw [if_neg e,if_neg e,zxr h1 (by omega) hy,zha ht (by omega) (by omega) (by omega),show h - 1 - (x - h)=a - 1 - x by omega]
theorem qna {h:Nat} (ht:Tab a b t) (hh:b=2 * h):((zjl h ((c:Int) - (c:Int) / 2) t).zip (zjl h ((c:Int) - (c:Int) / 2) t).reverse).map (λ z=>z.1++z.2.reverse.map λ i=>(c:Int) - i)=mkT a b (whG a b h c t):=by
 have h1:=zhb (m:=(c:Int) - (c:Int) / 2) ht (show h<=b by omega)
 have hg:=λ {x y:Nat} hx hy=>qf5 (m:=(c:Int) - (c:Int) / 2) ht (show h<=b by omega) (x:=x) (y:=y) hx hy
 generalize zjl h ((c:Int) - (c:Int) / 2) t=H at h1 hg
 have er:H.reverse=(ja2 a).map λ i=>H.getD (a - 1 - i) []:=by
  have hr:Tab a h H.reverse:=⟨by rw [jd1];exact h1.1,λ r hr=>h1.2 r (jj4.mp hr)⟩
  rw [zmn hr]
  refine jd0 λ i hi=>?_
  have:=jb9.mp hi
  rw [zmx (by rw [h1.1];exact this),h1.1]
 have ez:H.zip H.reverse=(ja2 a).map λ i=>(H.getD i [],H.getD (a - 1 - i) []):=by
  conv=>lhs;lhs;rw [zmn h1]
  rw [er,qdq]
 rw [ez,jc2]
 unfold mkT
 refine jd0 λ i hi=>?_
 have hi:=jb9.mp hi
 show H.getD i []++(H.getD (a - 1 - i) []).reverse.map (λ i=>(c:Int) - i)=_
 have l1:=h1.row hi
 have l2:=h1.row (i:=a - 1 - i) (by omega)
 refine zkp (by rw [jb4,ja3,jd1,l1,l2,ja3,jc8];omega) λ y hy=>?_
 rw [jb4,ja3,jd1,l1,l2] at hy
 rw [zkw (by omega),qp7,l1]
 unfold whG
 by_cases e:y < h
 ·rw [if_pos e,if_pos e]
  exact hg hi e
 ·rw [if_neg e,if_neg e,ja0,jc1,zxm (by rw [jd1,l2];omega),zmx (by rw [l2];omega),l2]
  show (c:Int) - g H (a - 1 - i) (h - 1 - (y - h))=_
  rw [hg (by omega) (by omega),show h - 1 - (y - h)=b - 1 - y by omega]
theorem qgc (k:Int) (h0:0<=k) (h1:k<=c) (ht:Tab a b t):Pile a b c (t.map λ r=>r.map λ _=>k)/\True:=by
 have e:(t.map λ r=>r.map λ _=>k)=mkT a b λ _ _=>k:=by
  rw [zmn ht,jc2]
  unfold mkT
  refine jd0 λ i hi=>?_
  show (t.getD i []).map (λ _=>k)=_
  rw [jm1,jm1,ht.row (jb9.mp hi),jc8]
 rw [e]
 refine ⟨⟨zzo,λ x y hx hy=>?_,λ x y hx hy=>?_,λ x y hx hy=>?_,λ x y hx hy=>?_⟩,trivial⟩
 ·rw [zqo hx hy];exact h0
 ·rw [zqo hx hy];exact h1
 ·rw [zqo hx hy,zqo (by omega) hy];exact ji6 _
 ·rw [zqo hx hy,zqo hx (by omega)];exact ji6 _
theorem qc7 {r s:List (List Int)} (p:Pile a b c t) (q:Pile a b c r) (w:Pile a b c s) (hb:0 < b) (hc:0 < c):(∀ x∈(zqi t a b).filter (λ x=>decide (x∈zqi r a b) && decide (x∈zqi s a b)),x.1 < a/\x.2.1 < b)/\Pile a b c (hT (zwz a b) ((zqi t a b).filter λ x=>decide (x∈zqi r a b) && decide (x∈zqi s a b))):=by
 let Q (x:C3):Bool:=inP t x && (inP r x && inP s x)
 have e:(zqi t a b).filter (λ x=>decide (x∈zqi r a b) && decide (x∈zqi s a b))=((ja2 (a * b * c)).filter λ m=>Q (numC b c m)).map λ m=>id (numC b c m):=by
  have e1:(zqi t a b).filter (λ x=>decide (x∈zqi r a b) && decide (x∈zqi s a b))=(zqi t a b).filter λ x=>inP r x && inP s x:=je5 λ x hx=>by
   obtain ⟨m1,m2,_⟩:=zpx.mp hx
   have k:∀ u,decide (x∈zqi u a b)=inP u x:=λ u=>by
    unfold inP
    rw [je2,decide_eq_true_iff,decide_eq_true_iff,zpx]
    exact ⟨λ z=>z.2.2,λ z=>⟨m1,m2,z⟩⟩
   rw [k,k]
  rw [e1,<- qcl p hb hc,zfk,ji7,jq0]
  congr 1
  refine je5 λ m _=>?_
  show (inP r (numC b c m) && inP s (numC b c m) && inP t (numC b c m))=(inP t (numC b c m) && (inP r (numC b c m) && inP s (numC b c m)))
  rw [jt4]
 rw [e]
 obtain ⟨q1,q2,q3⟩:=qcg (a:=a) (A:=a) (B:=b) (t0:=[]) Q id hb hc λ x h1 h2 h3=>⟨h1,h2⟩
 refine ⟨q1,?_⟩
 have eq:hT (zwz a b) (((ja2 (a * b * c)).filter λ m=>Q (numC b c m)).map λ m=>id (numC b c m))=lowT (lowT t r) s:=by
  have pl:=zju p q
  refine zwq q2 (zju pl w).tab λ x y hx hy=>?_
  rw [q3 x y hx hy,qfk pl.tab w.tab hx hy,qfk p.tab q.tab hx hy]
  have g1:=p.lo x y hx hy
  have g2:=q.lo x y hx hy
  have g3:=w.lo x y hx hy
  have g4:=p.hi x y hx hy
  rw [zwr hx λ i hi ne=>?_,zwr hy λ j hj ne=>?_]
  ·let n:Nat:=(if g s x y < (if g r x y < g t x y then g r x y else g t x y) then g s x y else (if g r x y < g t x y then g r x y else g t x y)).toNat
   have hn:(n:Int)=(if g s x y < (if g r x y < g t x y then g r x y else g t x y) then g s x y else (if g r x y < g t x y then g r x y else g t x y)):=by
    show (((if g s x y < (if g r x y < g t x y then g r x y else g t x y) then g s x y else (if g r x y < g t x y then g r x y else g t x y)).toNat:Nat):Int)=_
    split <;> split <;> omega
   have k:((ja2 c).filter λ k=>Q (x,y,k) && decide ((id (x,y,k):C3).1=x/\(id (x,y,k):C3).2.1=y))=(ja2 c).filter λ k=>decide (k < n):=je5 λ k _=>by
    rw [decide_eq_true (show (id (x,y,k):C3).1=x/\(id (x,y,k):C3).2.1=y from ⟨rfl,rfl⟩),jh1]
    show (decide ((k:Int) < g t x y) && (decide ((k:Int) < g r x y) && decide ((k:Int) < g s x y)))=_
    rw [je2]
    simp only [ja5,decide_eq_true_iff]
    split at hn <;> split at hn <;> omega
   rw [k,zzz n c (by split at hn <;> split at hn <;> omega),jc8]
   exact hn
  ·exact zwc λ k _=>by rw [decide_eq_false (λ z=>ne z.2),jg1]
  ·have:∀ j,((ja2 c).filter λ k=>Q (i,j,k) && decide ((id (i,j,k):C3).1=x/\(id (i,j,k):C3).2.1=y)).length=0:=λ j=>zwc λ k _=>by rw [decide_eq_false (λ z=>ne z.1),jg1]
   simp only [this]
   exact sumz b
 rw [eq]
 exact zju (zju p q) w
end
theorem qp3 {α:Type}{k:Nat}{f:Fx}{asg:PV->Rho->Option Rho}{test:Fb}{elt:Fx}{enc q:α->PV}{E:α->Rho}{e:α->Nat}{p:α->Bool}{ρ ρ1:Rho}{d:Nat} (xs:List α) (hf:f ρ=.ok (.lst (xs.map enc),d,ρ1)) (ha:∀ x∈xs,asg (enc x) (ρ1++jb1 k none)=some (ρ1++E x))
  (ht:∀ x∈xs,test (ρ1++E x)=.ok (p x,ρ1++E x)) (he:∀ x∈xs,p x=true->elt (ρ1++E x)=.ok (q x,e x,ρ1++E x)) (hl:xs.length<=va8):∃ d',zqh f k asg test elt ρ=.ok (.lst ((xs.filter p).map q),d',ρ1):=by
 unfold zqh
 rw [hf]
 dsimp only
 rw [zyk (p:=p) (q:=q) (e:=e) xs ρ1 [] ha ht he (by simpa using hl)]
 refine ⟨if zvv ((xs.filter p).map λ x=>(q x,e x))=true then om else 1,?_⟩
 rw [ji3]
 show zzw _ ρ1=_
 unfold zzw
 rw [jc2]
 rfl
theorem qkg {α:Type}{e:α->PV} (xs:List α) (n:Nat) (h:n<=xs.length):cutP (xs.map e) none (some (n:Int))=(xs.take n).map e:=by
 unfold cutP
 rw [HT.sIx_nat]
 show ((xs.map e).drop 0).take (min n (xs.map e).length - 0)=_
 rw [js9,jq8,ja3,js6 h,jp9]
section
variable {a b c:Nat}{t:List (List Int)}
def M8:Fx:=zqd zkf (zqa (bVar 8) (zqa (bBin zxv (bBin zqb (bVar 0) (bC (.int 2))) (bBin zxg (bBin zqb (bVar 0) (bC (.int 2))) (bC (.int 2)))) (aNil)))
theorem qpc {ρ:Rho}{i:Int} (h0:bVar 0 ρ=.ok (bx a b c,0,ρ)) (h8:bVar 8 ρ=.ok (.int i,om,ρ)):M8 ρ=.ok (.int (mxm ((c:Int) - (c:Int) / 2) i),om,ρ):=by
 have hc:bBin zqb (bVar 0) (bC (.int 2)) ρ=.ok (.int (c:Int),om,ρ):=zxj (y:=.int 2) (e:=om) h0 rfl rfl
 exact zxb (zqu h8 (zqr (zjd hc (zpb hc (j:=2) rfl (by decide) (by decide))))) rfl
def B0:Fs:=(sSeq (sSet false 3 (bBin zqb (zqe c_turned (zqa (bVar 0) (zqa (bVar 1) (zqa (bC (.int 1)) (aNil))))) (bC (.int 1))) [0,1])
 (sRet (zwy .zp (zqa (bVar 1) (zqa (bVar 3) (aNil))) 2 (asgT [7,8]) zqj (zwy .zp (zqa (bVar 7) (zqa (bVar 8) (aNil))) 2 (asgT [9,10]) zqj (zqd zkf (zqa (bVar 9) (zqa (bVar 10) (aNil))))))))
def B1:Fs:=(sSeq (sSet false 4 (zqe c_cubes (zqa (bBin zqb (zqe c_turned (zqa (bVar 0) (zqa (bVar 1) (zqa (bC (.int 2)) (aNil))))) (bC (.int 1))) (aNil))) [0,1])
 (sSeq (sSet false 5 (zqe c_cubes (zqa (bBin zqb (zqe c_turned (zqa (bVar 0) (zqa (bVar 1) (zqa (bC (.int 4)) (aNil))))) (bC (.int 1))) (aNil))) [0,1])
 (sRet (zqe c_of_cubes (zqa (bVar 0) (zqa (zqh (zqe c_cubes (zqa (bVar 1) (aNil))) 1 (asgN 7) (bT (zwj (bBin (opIn false) (bVar 7) (bVar 4)) (bBin (opIn false) (bVar 7) (bVar 5)))) (bVar 7)) (aNil)))))))
def B2:Fs:=(sSeq (sSet false 6 (zqh (bSl (bVar 1) none (some (bBin zxg (bBin zqb (bVar 0) (bC (.int 0))) (bC (.int 2))))) 1 (asgN 7) zqj (zqh (bVar 7) 1 (asgN 8) zqj M8)) [1,1,1,0,0])
 (sRet (bBin zqw (bVar 6) (zqe c_rest (zqa (bVar 0) (zqa (bVar 6) (aNil)))))))
def B3':Fs:=(sSeq (sSet false 6 (zqh (bVar 1) 1 (asgN 7) zqj (zqh (bSl (bVar 7) none (some (bBin zxg (bBin zqb (bVar 0) (bC (.int 1))) (bC (.int 2))))) 1 (asgN 8) zqj M8)) [1,1,1,0,0])
 (sRet (zwy .zp (zqa (bVar 6) (zqa (bUn opRv (bVar 6)) (aNil))) 2 (asgT [7,8]) zqj (bBin zqw (bVar 7) (zqh (bUn opRv (bVar 8)) 1 (asgN 9) zqj (bBin zxv (bBin zqb (bVar 0) (bC (.int 2))) (bVar 9)))))))
def B4:Fs:=(sRet (zqh (bVar 1) 1 (asgN 7) zqj (zqh (bVar 7) 1 (asgN 8) zqj (bBin zxg (bBin zqb (bVar 0) (bC (.int 2))) (bC (.int 2))))))
abbrev OR (a b c:Nat) (t:List (List Int)) (w:Int) (s3 s4 s5 s6:QQ.Slot):Rho:=[some (bx a b c,0),some (tb t,0),some (.int w,om),s3,s4,s5,s6]
theorem qq6 {w:Int} (p:Pile a a c t) (ha:1<=a/\a<=6) (hc:1<=c/\c<=6):∃ t' d ρ',Pile a a c t'/\B0 (OR a a c t w none none none none)=.rt (tb t') d ρ':=by
 have z:=sz
 obtain ⟨d,e1⟩:=qqa ha ha hc p
 have pm:=zyd p
 let m:=mirT t a
 let R:Rho:=OR a a c t w (some (tb m,0)) none none none
 have v1:sSet false 3 (bBin zqb (zqe c_turned (zqa (bVar 0) (zqa (bVar 1) (zqa (bC (.int 1)) (aNil))))) (bC (.int 1))) [0,1] (OR a a c t w none none none none)=.nx R:=setF (x:=tb m) (d:=0) (zxj (y:=.int 1) (e:=om) (zqf (xs:=[(bx a a c,0),(tb t,0),(.int 1,om)]) rfl e1) rfl rfl) (show 3 < 7 by decide) rfl
 have row:∀ (r s:List Int),r.length<=6->zwy .zp (zqa (bVar 7) (zqa (bVar 8) (aNil))) 2 (asgT [9,10]) zqj (zqd zkf (zqa (bVar 9) (zqa (bVar 10) (aNil)))) (R++[some (il r,0),some (il s,0)])=.ok (il (jl1 (λ i j=>if j > i then j else i) r s),om,R++[some (il r,0),some (il s,0)]):=λ r s hr=>by
  rw [qgl (enc:=λ (z:Int×Int)=>.tup [.int z.1,.int z.2]) (q:=λ z=>.int (if z.2 > z.1 then z.2 else z.1)) (E:=λ z=>[some (.int z.1,om),some (.int z.2,om)]) (r.zip s) rfl (by show some (zipL (r.map PV.int) (s.map PV.int))=_;rw [zjn]) (λ _ _=>rfl) (λ z _=>rfl) (by rw [jm2];omega)]
  show Rz.ok (PV.lst _,om,_)=Rz.ok (PV.lst ((jl1 (λ i j=>if j > i then j else i) r s).map PV.int),om,_)
  rw [<- List.map_uncurry_zip_eq_zipWith,jc2]
  rfl
 have e2:=qgl (k:=2) (v:=.zp) (fa:=zqa (bVar 1) (zqa (bVar 3) (aNil))) (asg:=asgT [7,8]) (elt:=zwy .zp (zqa (bVar 7) (zqa (bVar 8) (aNil))) 2 (asgT [9,10]) zqj (zqd zkf (zqa (bVar 9) (zqa (bVar 10) (aNil))))) (enc:=λ (z:List Int×List Int)=>.tup [il z.1,il z.2]) (q:=λ z=>il (jl1 (λ i j=>if j > i then j else i) z.1 z.2)) (E:=λ z=>[some (il z.1,0),some (il z.2,0)]) (ρ:=R) (ρ1:=R) (as:=[(tb t,0),(tb m,0)]) (t.zip m) rfl (by show some (zipL (t.map il) (m.map il))=_;rw [zjn]) (λ _ _=>rfl) (λ z hz=>row z.1 z.2 (by rw [p.tab.2 _ (jh5 hz).1];exact ha.2)) (by rw [jm2,p.tab.1];omega)
 have e3:PV.lst ((t.zip m).map λ z=>il (jl1 (λ i j=>if j > i then j else i) z.1 z.2))=tb (zT (λ i j=>if j > i then j else i) t m):=by
  unfold tb zT
  rw [jc2]
  rfl
 rw [e3] at e2
 exact ⟨_,_,_,qds _ (λ i j k m h1 h2=>by split <;> split <;> omega) (λ i j=>by split <;> simp) p pm,(zqg v1).trans (zxo e2)⟩
theorem qq5 {w:Int} (p:Pile a a a t) (ha:1<=a/\a<=6):∃ t' d ρ',Pile a a a t'/\B1 (OR a a a t w none none none none)=.rt (tb t') d ρ':=by
 have z:=sz
 obtain ⟨d2,e2⟩:=qp9 ha ha ha p
 obtain ⟨d4,e4⟩:=qp8 ha ha ha p
 have pr:Pile a a a (rolT t a a):=zvo p
 have ps:Pile a a a (zqt t a):=zbe p
 let R0:Rho:=OR a a a t w none none none none
 let c1:=zqi (rolT t a a) a a
 let c2:=zqi (zqt t a) a a
 let R1:Rho:=OR a a a t w none (some (ct c1,om)) none none
 let R2:Rho:=OR a a a t w none (some (ct c1,om)) (some (ct c2,om)) none
 have v1:sSet false 4 (zqe c_cubes (zqa (bBin zqb (zqe c_turned (zqa (bVar 0) (zqa (bVar 1) (zqa (bC (.int 2)) (aNil))))) (bC (.int 1))) (aNil))) [0,1] R0=.nx R1:=setF (zqf (zqr (zxj (z:=tb (rolT t a a)) (c:=0) (y:=.int 1) (e:=om) (zqf (xs:=[(bx a a a,0),(tb t,0),(.int 2,om)]) rfl e2) rfl rfl)) (zvm pr ha.2 ha.2 ha.2)) (show 4 < 7 by decide) rfl
 have v2:sSet false 5 (zqe c_cubes (zqa (bBin zqb (zqe c_turned (zqa (bVar 0) (zqa (bVar 1) (zqa (bC (.int 4)) (aNil))))) (bC (.int 1))) (aNil))) [0,1] R1=.nx R2:=setF (zqf (zqr (zxj (z:=tb (zqt t a)) (c:=0) (y:=.int 1) (e:=om) (zqf (xs:=[(bx a a a,0),(tb t,0),(.int 4,om)]) rfl e4) rfl rfl)) (zvm ps ha.2 ha.2 ha.2)) (show 5 < 7 by decide) rfl
 have k3:a * a<=6 * 6:=ji4 ha.2 ha.2
 have k4:a * (a * a)<=6 * (6 * 6):=ji4 ha.2 k3
 have cl:=zkq p (i:=a) (jb2 _)
 obtain ⟨d5,e5⟩:=qp3 (k:=1) (f:=zqe c_cubes (zqa (bVar 1) (aNil))) (asg:=asgN 7) (test:=bT (zwj (bBin (opIn false) (bVar 7) (bVar 4)) (bBin (opIn false) (bVar 7) (bVar 5)))) (elt:=bVar 7) (enc:=c3) (q:=c3) (E:=λ x=>[some (c3 x,0)]) (e:=λ _=>0) (p:=λ x=>decide (x∈c1) && decide (x∈c2)) (ρ:=R2) (zqi t a a) (zqf (xs:=[(tb t,0)]) rfl (zvm p ha.2 ha.2 ha.2)) (λ _ _=>rfl) (λ x _=>t_ok (zvw (qpo (x:=x) (cs:=c1) (d:=0) (e:=0) (ρ:=R2++[some (c3 x,0)]) rfl rfl) (λ _=>qpo (x:=x) (cs:=c2) (d:=0) (e:=0) (ρ:=R2++[some (c3 x,0)]) rfl rfl) rfl)) (λ _ _ _=>rfl) (by omega)
 obtain ⟨h1,h2⟩:=qc7 p pr ps (by omega) (by omega)
 have e6:=qki (a:=a) (b:=a) (c:=a) (by omega) (by omega) h1
 exact ⟨_,_,_,h2,(zqg v1).trans ((zqg v2).trans (zxo (zqf (zqu (x:=bx a a a) (d:=0) rfl (zqr e5)) e6)))⟩
theorem qq4 {w:Int}{h:Nat} (p:Pile a b c t) (ha:1<=a/\a<=6) (hb:1<=b/\b<=6) (hc:1<=c/\c<=6) (hh:a=2 * h):∃ t' d ρ',Pile a b c t'/\B2 (OR a b c t w none none none none)=.rt (tb t') d ρ':=by
 have z:=sz
 let R0:Rho:=OR a b c t w none none none none
 let mm:Int:=(c:Int) - (c:Int) / 2
 have e0:bBin zxg (bBin zqb (bVar 0) (bC (.int 0))) (bC (.int 2)) R0=.ok (.int (h:Int),om,R0):=by
  rw [show (h:Int)=(a:Int) / 2 by omega]
  exact zpb (i:=(a:Int)) (j:=2) (zxj (x:=bx a b c) (d:=0) (y:=.int 0) (e:=om) rfl rfl rfl) rfl (by decide) (by decide)
 have e1:bSl (bVar 1) none (some (bBin zxg (bBin zqb (bVar 0) (bC (.int 0))) (bC (.int 2)))) R0=.ok (.lst ((t.take h).map il),d1 ((t.take h).map il),R0):=by
  unfold bSl
  rw [show bVar 1 R0=.ok (tb t,0,R0) from rfl]
  dsimp only [Rz.bind,evO]
  rw [e0]
  show Rz.ok (PV.lst (cutP (t.map il) none (some (h:Int))),d1 (cutP (t.map il) none (some (h:Int))),R0)=_
  rw [qkg _ _ (by rw [p.tab.1];omega)]
 have e2:=zxi (n:=7) (elt:=zqh (bVar 7) 1 (asgN 8) zqj M8) (enc:=il) (q:=λ r=>il (r.map (mxm mm))) (t.take h) e1 rfl (λ r hr=>by
  have k:=zxi (n:=8) (f:=bVar 7) (elt:=M8) (enc:=PV.int) (q:=λ i=>.int (mxm mm i)) (ρ:=R0++[some (il r,0)]) (ρ1:=R0++[some (il r,0)]) (d:=0) r rfl rfl (λ i _=>qpc rfl rfl) (by rw [p.tab.2 r (ji9 hr)];omega)
  refine k.trans ?_
  unfold il
  rw [jc2]
  rfl) (by rw [jd8,p.tab.1];omega)
 have e3:PV.lst ((t.take h).map λ r=>il (r.map (mxm mm)))=tb (zvz h mm t):=by
  unfold tb zvz
  rw [jc2]
  rfl
 rw [e3] at e2
 let R:Rho:=OR a b c t w none none none (some (tb (zvz h mm t),om))
 have v1:sSet false 6 (zqh (bSl (bVar 1) none (some (bBin zxg (bBin zqb (bVar 0) (bC (.int 0))) (bC (.int 2))))) 1 (asgN 7) zqj (zqh (bVar 7) 1 (asgN 8) zqj M8)) [1,1,1,0,0] R0=.nx R:=setF e2 (show 6 < 7 by decide) rfl
 have th:=zgz (m:=mm) p.tab (show h<=a by omega)
 have tr:Tab h b (zwk (zvz h mm t) c):=zvf th
 have e4:=qg3 (f:=bVar 6) (h:=zqe c_rest (zqa (bVar 0) (zqa (bVar 6) (aNil)))) (ρ:=R) (ρ1:=R) (xs:=(zvz h mm t).map il) (ys:=(zwk (zvz h mm t) c).map il) (d:=0) rfl (zqf (xs:=[(bx a b c,0),(tb (zvz h mm t),0)]) rfl (qiw th (by omega) (by omega) _ _ _)) (by rw [ja3,ja3,th.1,tr.1];omega)
 have e5:PV.lst ((zvz h mm t).map il++(zwk (zvz h mm t) c).map il)=tb (mkT a b (whF a b h c t)):=by
  rw [<- jd3,qnb p.tab hh]
  rfl
 rw [e5] at e4
 exact ⟨_,_,_,qg8 p hh,(zqg v1).trans (zxo e4)⟩
theorem qq3 {w:Int}{h:Nat} (p:Pile a b c t) (ha:1<=a/\a<=6) (hb:1<=b/\b<=6) (hc:1<=c/\c<=6) (hh:b=2 * h):∃ t' d ρ',Pile a b c t'/\B3' (OR a b c t w none none none none)=.rt (tb t') d ρ':=by
 have z:=sz
 let R0:Rho:=OR a b c t w none none none none
 let mm:Int:=(c:Int) - (c:Int) / 2
 have e2:=zxi (n:=7) (f:=bVar 1) (elt:=zqh (bSl (bVar 7) none (some (bBin zxg (bBin zqb (bVar 0) (bC (.int 1))) (bC (.int 2))))) 1 (asgN 8) zqj M8) (enc:=il) (q:=λ r=>il ((r.take h).map (mxm mm))) (ρ:=R0) (ρ1:=R0) (d:=0) t rfl rfl (λ r hr=>by
  let V:Rho:=R0++[some (il r,0)]
  have hr':=p.tab.2 r hr
  have e0:bBin zxg (bBin zqb (bVar 0) (bC (.int 1))) (bC (.int 2)) V=.ok (.int (h:Int),om,V):=by
   rw [show (h:Int)=(b:Int) / 2 by omega]
   exact zpb (i:=(b:Int)) (j:=2) (zxj (x:=bx a b c) (d:=0) (y:=.int 1) (e:=om) rfl rfl rfl) rfl (by decide) (by decide)
  have e1:bSl (bVar 7) none (some (bBin zxg (bBin zqb (bVar 0) (bC (.int 1))) (bC (.int 2)))) V=.ok (.lst ((r.take h).map PV.int),d1 ((r.take h).map PV.int),V):=by
   unfold bSl
   rw [show bVar 7 V=.ok (il r,0,V) from rfl]
   dsimp only [Rz.bind,evO]
   rw [e0]
   show Rz.ok (PV.lst (cutP (r.map PV.int) none (some (h:Int))),d1 (cutP (r.map PV.int) none (some (h:Int))),V)=_
   rw [qkg _ _ (by omega)]
  have k:=zxi (n:=8) (elt:=M8) (enc:=PV.int) (q:=λ i=>.int (mxm mm i)) (r.take h) e1 rfl (λ i _=>qpc rfl rfl) (by rw [jd8];omega)
  refine k.trans ?_
  unfold il
  rw [jc2]
  rfl) (by rw [p.tab.1];omega)
 have e3:PV.lst (t.map λ r=>il ((r.take h).map (mxm mm)))=tb (zjl h mm t):=by
  unfold tb zjl
  rw [jc2]
  rfl
 rw [e3] at e2
 let H:=zjl h mm t
 let R:Rho:=OR a b c t w none none none (some (tb H,om))
 have v1:sSet false 6 (zqh (bVar 1) 1 (asgN 7) zqj (zqh (bSl (bVar 7) none (some (bBin zxg (bBin zqb (bVar 0) (bC (.int 1))) (bC (.int 2))))) 1 (asgN 8) zqj M8)) [1,1,1,0,0] R0=.nx R:=setF e2 (show 6 < 7 by decide) rfl
 have th:Tab a h H:=zhb (m:=mm) p.tab (show h<=b by omega)
 have row:∀ (r s:List Int),r.length<=6->s.length<=6->bBin zqw (bVar 7) (zqh (bUn opRv (bVar 8)) 1 (asgN 9) zqj (bBin zxv (bBin zqb (bVar 0) (bC (.int 2))) (bVar 9))) (R++[some (il r,0),some (il s,0)])=.ok (il (r++s.reverse.map λ i=>(c:Int) - i),om,R++[some (il r,0),some (il s,0)]):=λ r s hr hs=>by
  let V:Rho:=R++[some (il r,0),some (il s,0)]
  have k:=zxi (n:=9) (f:=bUn opRv (bVar 8)) (elt:=bBin zxv (bBin zqb (bVar 0) (bC (.int 2))) (bVar 9)) (enc:=PV.int) (q:=λ i=>.int ((c:Int) - i)) (ρ:=V) s.reverse (qhr (xs:=s) (enc:=PV.int) (d:=0) rfl) rfl (λ i _=>zjd (i:=(c:Int)) (j:=i) (d:=om) (e:=om) rfl rfl) (by rw [jd1];omega)
  have k2:=qg3 (f:=bVar 7) (ρ:=V) (ρ1:=V) (xs:=r.map PV.int) (d:=0) rfl k (by rw [ja3,ja3,jd1];omega)
  have k3:r.map PV.int++s.reverse.map (λ i=>PV.int ((c:Int) - i))=(r++s.reverse.map λ i=>(c:Int) - i).map PV.int:=by
   rw [jd3,jc2]
   rfl
  rw [k3,zhn] at k2
  exact k2
 have e4:=qgl (k:=2) (v:=.zp) (fa:=zqa (bVar 6) (zqa (bUn opRv (bVar 6)) (aNil))) (asg:=asgT [7,8]) (elt:=bBin zqw (bVar 7) (zqh (bUn opRv (bVar 8)) 1 (asgN 9) zqj (bBin zxv (bBin zqb (bVar 0) (bC (.int 2))) (bVar 9)))) (enc:=λ (z:List Int×List Int)=>.tup [il z.1,il z.2]) (q:=λ z=>il (z.1++z.2.reverse.map λ i=>(c:Int) - i)) (E:=λ z=>[some (il z.1,0),some (il z.2,0)]) (ρ:=R) (ρ1:=R) (H.zip H.reverse) (zqu (x:=tb H) (d:=0) rfl (zqr (qhr (xs:=H) (enc:=il) (d:=0) rfl))) (by show some (zipL (H.map il) (H.reverse.map il))=_;rw [zjn]) (λ _ _=>rfl) (λ z hz=>row z.1 z.2 (by rw [th.2 _ (jh5 hz).1];omega) (by rw [th.2 _ (jj4.mp (jh5 hz).2)];omega)) (by rw [jm2,th.1];omega)
 have e5:PV.lst ((H.zip H.reverse).map λ z=>il (z.1++z.2.reverse.map λ i=>(c:Int) - i))=tb (mkT a b (whG a b h c t)):=by
  rw [<- qna p.tab hh]
  unfold tb
  rw [jc2]
  rfl
 rw [e5] at e4
 exact ⟨_,_,_,qg7 p hh,(zqg v1).trans (zxo e4)⟩
theorem qq2 {w:Int} (p:Pile a b c t) (ha:1<=a/\a<=6) (hb:1<=b/\b<=6) (hc:1<=c/\c<=6):∃ t' d ρ',Pile a b c t'/\B4 (OR a b c t w none none none none)=.rt (tb t') d ρ':=by
 have z:=sz
 let R0:Rho:=OR a b c t w none none none none
 have e2:=zxi (n:=7) (f:=bVar 1) (elt:=zqh (bVar 7) 1 (asgN 8) zqj (bBin zxg (bBin zqb (bVar 0) (bC (.int 2))) (bC (.int 2)))) (enc:=il) (q:=λ r=>il (r.map λ _=>(c:Int) / 2)) (ρ:=R0) (ρ1:=R0) (d:=0) t rfl rfl (λ r hr=>by
  have k:=zxi (n:=8) (f:=bVar 7) (elt:=bBin zxg (bBin zqb (bVar 0) (bC (.int 2))) (bC (.int 2))) (enc:=PV.int) (q:=λ _=>.int ((c:Int) / 2)) (ρ:=R0++[some (il r,0)]) (ρ1:=R0++[some (il r,0)]) (d:=0) r rfl rfl (λ i _=>zpb (i:=(c:Int)) (j:=2) (zxj (x:=bx a b c) (d:=0) (y:=.int 2) (e:=om) rfl rfl rfl) rfl (by decide) (by decide)) (by rw [p.tab.2 r hr];omega)
  refine k.trans ?_
  unfold il
  rw [jc2]
  rfl) (by rw [p.tab.1];omega)
 have e3:PV.lst (t.map λ r=>il (r.map λ _=>(c:Int) / 2))=tb (t.map λ r=>r.map λ _=>(c:Int) / 2):=by
  unfold tb
  rw [jc2]
  rfl
 rw [e3] at e2
 exact ⟨_,_,_,(qgc ((c:Int) / 2) (by omega) (by omega) p.tab).1,zxo e2⟩
theorem qgj {w:Int} (p:Pile a b c t) (ha:1<=a/\a<=6) (hb:1<=b/\b<=6) (hc:1<=c/\c<=6):∃ t' d,Pile a b c t'/\c_own [bx a b c,tb t,.int w]=.ok (tb t',d,.non):=by
 let R0:Rho:=OR a b c t w none none none none
 have ew:∀ k:Int,bBin (opEq false) (bVar 2) (bC (.int k)) R0=.ok (.bl (decide (w=k)),om,R0):=λ k=>by
  have:=zky (neg:=false) (f:=bVar 2) (g:=bC (.int k)) (ρ:=R0) (ρ1:=R0) (ρ2:=R0) (i:=w) (j:=k) (d:=om) (e:=om) rfl rfl
  rw [jf3] at this
  exact this
 have ab':bBin (opEq false) (bBin zqb (bVar 0) (bC (.int 0))) (bBin zqb (bVar 0) (bC (.int 1))) R0=.ok (.bl (decide ((a:Int)=b)),om,R0):=by
  have:=zky (neg:=false) (f:=bBin zqb (bVar 0) (bC (.int 0))) (g:=bBin zqb (bVar 0) (bC (.int 1))) (ρ:=R0) (ρ1:=R0) (ρ2:=R0) (i:=(a:Int)) (j:=(b:Int)) (d:=om) (e:=om) rfl rfl
  rw [jf3] at this
  exact this
 have bc':bBin (opEq false) (bBin zqb (bVar 0) (bC (.int 1))) (bBin zqb (bVar 0) (bC (.int 2))) R0=.ok (.bl (decide ((b:Int)=c)),om,R0):=by
  have:=zky (neg:=false) (f:=bBin zqb (bVar 0) (bC (.int 1))) (g:=bBin zqb (bVar 0) (bC (.int 2))) (ρ:=R0) (ρ1:=R0) (ρ2:=R0) (i:=(b:Int)) (j:=(c:Int)) (d:=om) (e:=om) rfl rfl
  rw [jf3] at this
  exact this
 have ev:∀ (k:Int) (n:Nat),bBin zqb (bVar 0) (bC (.int k)) R0=.ok (.int (n:Int),om,R0)->bBin (opEq false) (bBin zqn (bBin zqb (bVar 0) (bC (.int k))) (bC (.int 2))) (bC (.int 0)) R0=.ok (.bl (decide ((n:Int) % 2=0)),om,R0):=λ k n h=>by
  have:=zky (neg:=false) (zwp h (g:=bC (.int 2)) (j:=2) (e:=om) rfl (by decide)) (g:=bC (.int 0)) (j:=0) (e:=om) rfl
  rw [jf3] at this
  exact this
 have T0:=t_ok (zvw (ew 0) (λ _=>ab') rfl)
 have T1:=t_ok (zvw (ew 1) (λ _=>zvw ab' (λ _=>bc') rfl) rfl)
 have T2:=t_ok (zvw (ew 2) (λ _=>ev 0 a rfl) rfl)
 have T3:=t_ok (zvw (ew 3) (λ _=>ev 1 b rfl) rfl)
 have T4:=t_ok (ew 4)
 have goT:∀ {C:Fb}{B:Fs}{G:Fs},C R0=.ok (true,R0)->(∃ t' d ρ',Pile a b c t'/\B R0=.rt (tb t') d ρ')->∃ t' d ρ',Pile a b c t'/\sSeq (sIf C B sNil) G R0=.rt (tb t') d ρ':=λ hC ⟨t',d,ρ',hp,e⟩=>⟨t',d,ρ',hp,zpr ((if_t hC).trans e)⟩
 have goF:∀ {C:Fb}{B:Fs}{G:Fs},C R0=.ok (false,R0)->(∃ t' d ρ',Pile a b c t'/\G R0=.rt (tb t') d ρ')->∃ t' d ρ',Pile a b c t'/\sSeq (sIf C B sNil) G R0=.rt (tb t') d ρ':=λ hC ⟨t',d,ρ',hp,e⟩=>⟨t',d,ρ',hp,(qan hC).trans e⟩
 have main:∃ t' d ρ',Pile a b c t'/\Xc_own R0=.rt (tb t') d ρ':=by
  cases h0:decide (w=0) && decide ((a:Int)=b) with
  | true=>
   rw [h0] at T0
   refine goT T0 ?_
   have e:a=b:=by
    have:=(ja5 _ _ ▸ h0).2
    rw [decide_eq_true_iff] at this
    omega
   subst e
   exact qq6 p ha hc
  | false=>
   rw [h0] at T0
   refine goF T0 ?_
   cases h1:decide (w=1) && (decide ((a:Int)=b) && decide ((b:Int)=c)) with
   | true=>
    rw [h1] at T1
    refine goT T1 ?_
    rw [ja5,ja5,decide_eq_true_iff,decide_eq_true_iff,decide_eq_true_iff] at h1
    obtain rfl:a=b:=by omega
    obtain rfl:a=c:=by omega
    exact qq5 p ha
   | false=>
    rw [h1] at T1
    refine goF T1 ?_
    cases h2:decide (w=2) && decide ((a:Int) % 2=0) with
    | true=>
     rw [h2] at T2
     rw [ja5,decide_eq_true_iff,decide_eq_true_iff] at h2
     exact goT T2 (qq4 (h:=a / 2) p ha hb hc (by omega))
    | false=>
     rw [h2] at T2
     refine goF T2 ?_
     cases h3:decide (w=3) && decide ((b:Int) % 2=0) with
     | true=>
      rw [h3] at T3
      rw [ja5,decide_eq_true_iff,decide_eq_true_iff] at h3
      exact goT T3 (qq3 (h:=b / 2) p ha hb hc (by omega))
     | false=>
      rw [h3] at T3
      refine goF T3 ?_
      cases h4:decide (w=4) with
      | true=>rw [h4] at T4;exact goT T4 (qq2 p ha hb hc)
      | false=>rw [h4] at T4;exact goF T4 ⟨t,0,R0,p,rfl⟩
 obtain ⟨t',d,ρ',hp,e⟩:=main
 exact ⟨t',d,hp,zwn rfl e⟩
end
section
variable {a b c:Nat}{t:List (List Int)}
theorem qml (p:Pile a b c t) (ha:1<=a/\a<=6) (hb:1<=b/\b<=6) (hc:1<=c/\c<=6):f_is_even [bx a b c,tb t]=.ok (.bl (decide ((a:Int)=b) && decide (mirT t b=t)),om,.non):=by
 let R:Rho:=[some (bx a b c,0),some (tb t,0)]
 have v1:zve (zqe f_must_be_pile (zqa (bVar 0) (zqa (bVar 1) (aNil)))) R=.nx R:=zkz (zqf (xs:=[(bx a b c,0),(tb t,0)]) rfl (zwd p.tab (by omega) (by omega) (by omega) ((zvg p.tab).mpr p)))
 have k1:=zky (neg:=false) (f:=bBin zqb (bVar 0) (bC (.int 0))) (g:=bBin zqb (bVar 0) (bC (.int 1))) (ρ:=R) (ρ1:=R) (ρ2:=R) (i:=(a:Int)) (j:=(b:Int)) (d:=om) (e:=om) rfl rfl
 have k2:=qmo (neg:=false) (zqf (F:=f_mirrored_pile) (fa:=zqa (bVar 0) (zqa (bVar 1) aNil)) (ρ:=R) (xs:=[(bx a b c,0),(tb t,0)]) rfl (qjz p (by omega) (by omega) (by omega))) (h:=bVar 1) (u:=t) (e:=0) rfl
 rw [jf3] at k1 k2
 exact zwn rfl ((zqg v1).trans (zxo (zvw k1 (λ _=>k2) rfl)))
theorem qdu (p:Pile a b c t) (ha:1<=a/\a<=6) (hb:1<=b/\b<=6) (hc:1<=c/\c<=6):f_is_whole [bx a b c,tb t]=.ok (.bl (decide (zwk t c=t)),om,.non):=by
 let R:Rho:=[some (bx a b c,0),some (tb t,0)]
 have k2:=qmo (neg:=false) (zqf (F:=f_rest_of) (fa:=zqa (bVar 0) (zqa (bVar 1) aNil)) (ρ:=R) (xs:=[(bx a b c,0),(tb t,0)]) rfl (qlo p (by omega) (by omega) (by omega))) (h:=bVar 1) (u:=t) (e:=0) rfl
 rw [jf3] at k2
 exact zwn rfl (zxo k2)
theorem qhs (p:Pile a b c t) (ha:1<=a/\a<=6) (hb:1<=b/\b<=6) (hc:1<=c/\c<=6):f_is_round [bx a b c,tb t]=.ok (.bl ((decide ((a:Int)=b) && decide ((b:Int)=c)) && decide (rolT t b c=t)),om,.non):=by
 let R:Rho:=[some (bx a b c,0),some (tb t,0)]
 have v1:zve (zqe f_must_be_pile (zqa (bVar 0) (zqa (bVar 1) (aNil)))) R=.nx R:=zkz (zqf (xs:=[(bx a b c,0),(tb t,0)]) rfl (zwd p.tab (by omega) (by omega) (by omega) ((zvg p.tab).mpr p)))
 have k1:=qcw (p:=λ i j=>decide (i=j)) (q:=λ i j=>decide (i=j)) (f:=bBin zqb (bVar 0) (bC (.int 0))) (g:=bBin zqb (bVar 0) (bC (.int 1))) (h:=bBin zqb (bVar 0) (bC (.int 2))) (ρ:=R) (i:=(a:Int)) (j:=(b:Int)) (k:=(c:Int)) (d:=om) (e:=om) (c:=om) rfl rfl rfl
 have k2:=qmo (neg:=false) (zqf (F:=f_rolled_pile) (fa:=zqa (bVar 0) (zqa (bVar 1) aNil)) (ρ:=R) (xs:=[(bx a b c,0),(tb t,0)]) rfl (qjp p (by omega) (by omega) (by omega))) (h:=bVar 1) (u:=t) (e:=0) rfl
 rw [jf3] at k2
 exact zwn rfl ((zqg v1).trans (zxo (zvw k1 (λ _=>k2) rfl)))
end
end QV
namespace K53
open PySem PySem.Spec PyProof.Rows L2 QQ
abbrev GT:=List (Str×(Bool×Nat×Fn))
abbrev mS (N:List Str) (t:Stmt) (m:List Nat) (G:GT):Sx:=⟨N,zqc t,m,[],G,[],true,[0,1,2,3,4,5,6,7,8,9,10,11],[]⟩
def G0:GT:=[]
def S0:Sx:=⟨["thing"],zqc t0,[],[],G0,[],false,[],[]⟩
abbrev b0:Fs:=QV.Xf_is_whole_number
abbrev F0:Fn:=QV.f_is_whole_number
theorem h0:zqs (denS 60 S0) (zql t0)=some b0:=by kernel_rfl
def G1:GT:=[("is_whole_number",(false,1,F0))]
def S1:Sx:=⟨["thing"],zqc t1,[],[],G1,[],false,[],[]⟩
abbrev b1:Fs:=QV.Xf_is_box
abbrev F1:Fn:=QV.f_is_box
theorem h1:zqs (denS 60 S1) (zql t1)=some b1:=by kernel_rfl
def G2:GT:=[("is_box",(false,1,F1))]
def S2:Sx:=⟨["box"],zqc t2,[],[],G2,[],false,[],[]⟩
abbrev b2:Fs:=QV.Xf_must_be_box
abbrev F2:Fn:=QV.f_must_be_box
theorem h2:zqs (denS 60 S2) (zql t2)=some b2:=by kernel_rfl
def G3:GT:=[("is_whole_number",(false,1,F0))]
def S3:Sx:=⟨["thing","columns","height"],zqc t3,[],[],G3,[],false,[],[]⟩
abbrev b3:Fs:=QV.Xf_is_row_of_heights
abbrev F3:Fn:=QV.f_is_row_of_heights
theorem h3:zqs (denS 60 S3) (zql t3)=some b3:=by kernel_rfl
def G4:GT:=[]
def S4:Sx:=⟨["numbers"],zqc t4,[],[],G4,[],false,[],[]⟩
abbrev b4:Fs:=QV.Xf_never_rises
abbrev F4:Fn:=QV.f_never_rises
theorem h4:zqs (denS 60 S4) (zql t4)=some b4:=by kernel_rfl
def G5:GT:=[]
def S5:Sx:=⟨["table","j"],zqc t5,[],[],G5,[],false,[],[]⟩
abbrev b5:Fs:=QV.Xf_column_of
abbrev F5:Fn:=QV.f_column_of
theorem h5:zqs (denS 60 S5) (zql t5)=some b5:=by kernel_rfl
def G6:GT:=[("must_be_box",(false,1,F2)),("is_row_of_heights",(false,3,F3)),("never_rises",(false,1,F4)),("column_of",(false,2,F5))]
def S6:Sx:=⟨["box","thing","rows","columns","height"],zqc t6,[],[],G6,[],false,[],[]⟩
abbrev b6:Fs:=QV.Xf_is_pile
abbrev F6:Fn:=QV.f_is_pile
theorem h6:zqs (denS 60 S6) (zql t6)=some b6:=by kernel_rfl
def G7:GT:=[("is_pile",(false,2,F6))]
def S7:Sx:=⟨["box","pile"],zqc t7,[],[],G7,[],false,[],[]⟩
abbrev b7:Fs:=QV.Xf_must_be_pile
abbrev F7:Fn:=QV.f_must_be_pile
theorem h7:zqs (denS 60 S7) (zql t7)=some b7:=by kernel_rfl
def G8:GT:=[("column_of",(false,2,F5)),("must_be_pile",(false,2,F7))]
def S8:Sx:=⟨["box","pile"],zqc t8,[],[],G8,[],false,[],[]⟩
abbrev b8:Fs:=QV.Xf_mirrored_pile
abbrev F8:Fn:=QV.f_mirrored_pile
theorem h8:zqs (denS 60 S8) (zql t8)=some b8:=by kernel_rfl
def G9:GT:=[]
def S9:Sx:=⟨["numbers","level"],zqc t9,[],[],G9,[],false,[],[]⟩
abbrev b9:Fs:=QV.Xf_how_many_above
abbrev F9:Fn:=QV.f_how_many_above
theorem h9:zqs (denS 60 S9) (zql t9)=some b9:=by kernel_rfl
def G10:GT:=[("column_of",(false,2,F5)),("must_be_pile",(false,2,F7)),("how_many_above",(false,2,F9))]
def S10:Sx:=⟨["box","pile","rolled","j","column"],zqc t10,[],[],G10,[],false,[],[]⟩
abbrev b10:Fs:=QV.Xf_rolled_pile
abbrev F10:Fn:=QV.f_rolled_pile
theorem h10:zqs (denS 60 S10) (zql t10)=some b10:=by kernel_rfl
def G11:GT:=[("must_be_pile",(false,2,F7))]
def S11:Sx:=⟨["box","pile","rest","row"],zqc t11,[],[],G11,[],false,[],[]⟩
abbrev b11:Fs:=QV.Xf_rest_of
abbrev F11:Fn:=QV.f_rest_of
theorem h11:zqs (denS 60 S11) (zql t11)=some b11:=by kernel_rfl
def G12:GT:=[]
def S12:Sx:=⟨["pile"],zqc t12,[],[],G12,[],false,[],[]⟩
abbrev b12:Fs:=QV.Xf_copy_of
abbrev F12:Fn:=QV.f_copy_of
theorem h12:zqs (denS 60 S12) (zql t12)=some b12:=by kernel_rfl
def G13:GT:=[("must_be_pile",(false,2,F7)),("mirrored_pile",(false,2,F8))]
def S13:Sx:=⟨["box","pile"],zqc t13,[],[],G13,[],false,[],[]⟩
abbrev b13:Fs:=QV.Xf_is_even
abbrev F13:Fn:=QV.f_is_even
theorem h13:zqs (denS 60 S13) (zql t13)=some b13:=by kernel_rfl
def G14:GT:=[("rest_of",(false,2,F11))]
def S14:Sx:=⟨["box","pile"],zqc t14,[],[],G14,[],false,[],[]⟩
abbrev b14:Fs:=QV.Xf_is_whole
abbrev F14:Fn:=QV.f_is_whole
theorem h14:zqs (denS 60 S14) (zql t14)=some b14:=by kernel_rfl
def G15:GT:=[("must_be_pile",(false,2,F7)),("rolled_pile",(false,2,F10))]
def S15:Sx:=⟨["box","pile"],zqc t15,[],[],G15,[],false,[],[]⟩
abbrev b15:Fs:=QV.Xf_is_round
abbrev F15:Fn:=QV.f_is_round
theorem h15:zqs (denS 60 S15) (zql t15)=some b15:=by kernel_rfl
def G16:GT:=[("mirrored_pile",(false,2,F8))]
def S16:Sx:=⟨["form","box","pile","rows","columns","height"],zqc t16,[],[],G16,[],false,[],[]⟩
def b16:Fs:=(sSeq (sUnp (asgT [1,2]) (bVar 0) [0])
 (sSeq (sUnp (asgT [3,4,5]) (bVar 1) [1])
 (sRet (zqd zxt (zqa (zqd zxt (zqa (bVar 4) (zqa (bVar 3) (zqa (bVar 5) (aNil))))) (zqa (zqe F8 (zqa (bVar 1) (zqa (bVar 2) (aNil)))) (aNil)))))))
def F16:Fn:=mkFn false 1 5 b16
theorem h16:zqs (denS 60 S16) (zql t16)=some b16:=by kernel_rfl
def G17:GT:=[("rolled_pile",(false,2,F10))]
def S17:Sx:=⟨["form","box","pile","rows","columns","height"],zqc t17,[],[],G17,[],false,[],[]⟩
def b17:Fs:=(sSeq (sUnp (asgT [1,2]) (bVar 0) [0])
 (sSeq (sUnp (asgT [3,4,5]) (bVar 1) [1])
 (sRet (zqd zxt (zqa (zqd zxt (zqa (bVar 4) (zqa (bVar 5) (zqa (bVar 3) (aNil))))) (zqa (zqe F10 (zqa (bVar 1) (zqa (bVar 2) (aNil)))) (aNil)))))))
def F17:Fn:=mkFn false 1 5 b17
theorem h17:zqs (denS 60 S17) (zql t17)=some b17:=by kernel_rfl
def G18:GT:=[("must_be_pile",(false,2,F7)),("copy_of",(false,1,F12)),("mirrored_form",(false,1,F16)),("rolled_form",(false,1,F17))]
def S18:Sx:=⟨["box","pile","form","forms","first","once","other"],zqc t18,[],[],G18,[],false,[],[]⟩
def b18:Fs:=(sSeq (zve (zqe F7 (zqa (bVar 0) (zqa (bVar 1) (aNil)))))
 (sSeq (sSet false 2 (zqd zxt (zqa (bVar 0) (zqa (zqe F12 (zqa (bVar 1) (aNil))) (aNil)))) [0,1])
 (sSeq (sSet false 3 (zqd zqy (aNil)) [])
 (sSeq (zku (zqd zqy (zqa (bVar 2) (zqa (zqe F16 (zqa (bVar 2) (aNil))) (aNil)))) [2,2] (asgN 4) (sSeq (sSet false 5 (zqe F17 (zqa (bVar 4) (aNil))) [4])
 (zku (zqd zqy (zqa (bVar 4) (zqa (bVar 5) (zqa (zqe F17 (zqa (bVar 5) (aNil))) (aNil))))) [4,5,5] (asgN 6) (sIf (bT (bBin (opIn true) (bVar 6) (bVar 3))) (sApp 3 (bVar 6) [6]) sNil))))
 (sRet (zqd zbo (zqa (bVar 3) (aNil))))))))
def F18:Fn:=mkFn false 2 5 b18
theorem h18:zqs (denS 60 S18) (zql t18)=some b18:=by kernel_rfl
def G19:GT:=[]
def S19:Sx:=⟨["script","k"],zqc t19,[],[],G19,[],false,[],[]⟩
abbrev b19:Fs:=QV.Xb_cell_at
abbrev F19:Fn:=QV.b_cell_at
theorem h19:zqs (denS 60 S19) (zql t19)=some b19:=by kernel_rfl
def G20:GT:=[]
def S20:Sx:=⟨["cell","many","found","rest","stir","k","again"],zqc t20,[],[],G20,[],false,[],[]⟩
abbrev b20:Fs:=QV.Xc_numbers
abbrev F20:Fn:=QV.c_numbers
theorem h20:zqs (denS 60 S20) (zql t20)=some b20:=by kernel_rfl
def G21:GT:=[]
def S21:Sx:=⟨["xs","box"],zqc t21,[],[],G21,[],false,[],[]⟩
abbrev b21:Fs:=QV.Xc_box
abbrev F21:Fn:=QV.c_box
theorem h21:zqs (denS 60 S21) (zql t21)=some b21:=by kernel_rfl
def G22:GT:=[]
def S22:Sx:=⟨["box","xs","pile","i","row","j","top","number"],zqc t22,[],[],G22,[],false,[],[]⟩
abbrev b22:Fs:=QV.Xc_pile
abbrev F22:Fn:=QV.c_pile
theorem h22:zqs (denS 60 S22) (zql t22)=some b22:=by kernel_rfl
def G23:GT:=[]
def S23:Sx:=⟨["pile","cubes","i","j"],zqc t23,[],[],G23,[],false,[],[]⟩
abbrev b23:Fs:=QV.Xc_cubes
abbrev F23:Fn:=QV.c_cubes
theorem h23:zqs (denS 60 S23) (zql t23)=some b23:=by kernel_rfl
def G24:GT:=[]
def S24:Sx:=⟨["box","cubes","pile","i","j","k"],zqc t24,[],[],G24,[],false,[],[]⟩
abbrev b24:Fs:=QV.Xc_of_cubes
abbrev F24:Fn:=QV.c_of_cubes
theorem h24:zqs (denS 60 S24) (zql t24)=some b24:=by kernel_rfl
def G25:GT:=[("_law_cubes",(false,1,F23)),("_law_of_cubes",(false,2,F24))]
def S25:Sx:=⟨["box","pile","way","order","new","cubes"],zqc t25,[],[],G25,[],false,[],[]⟩
abbrev b25:Fs:=QV.Xc_turned
abbrev F25:Fn:=QV.c_turned
theorem h25:zqs (denS 60 S25) (zql t25)=some b25:=by kernel_rfl
def G26:GT:=[]
def S26:Sx:=⟨["box","pile"],zqc t26,[],[],G26,[],false,[],[]⟩
abbrev b26:Fs:=QV.Xc_rest
abbrev F26:Fn:=QV.c_rest
theorem h26:zqs (denS 60 S26) (zql t26)=some b26:=by kernel_rfl
def G27:GT:=[("_law_cubes",(false,1,F23)),("_law_of_cubes",(false,2,F24)),("_law_turned",(false,3,F25)),("_law_rest",(false,2,F26))]
def S27:Sx:=⟨["box","pile","way","other","one","two","half"],zqc t27,[],[],G27,[],false,[],[]⟩
abbrev b27:Fs:=QV.Xc_own
abbrev F27:Fn:=QV.c_own
theorem h27:zqs (denS 60 S27) (zql t27)=some b27:=by kernel_rfl
def G28:GT:=[("is_even",(false,2,F13)),("is_round",(false,2,F15))]
def S28:Sx:=⟨["forms","box","pile","even"],zqc t28,[],[],G28,[],false,[],[]⟩
def b28:Fs:=(sSeq (sSet false 3 (zqh (bVar 0) 1 (asgN 4) (bT (zqe F13 (zqa (bBin zqb (bVar 4) (bC (.int 0))) (zqa (zqh (bBin zqb (bVar 4) (bC (.int 1))) 1 (asgN 5) zqj (zqd zzn (zqa (bVar 5) (aNil)))) (aNil))))) (bVar 4)) [0,0])
 (sSeq (sIf (bT (zqe F15 (zqa (bVar 1) (zqa (bVar 2) (aNil))))) (sRet (bBin zqb (zqd zqy (zqa (bC (.int 2)) (zqa (bC (.int 1)) (aNil)))) (zqd zbp (zqa (zqe F13 (zqa (bVar 1) (zqa (bVar 2) (aNil)))) (aNil))))) sNil)
 (sRet (bBin zqb (zqd zqy (zqa (bC (.int 6)) (zqa (bC (.int 3)) (aNil)))) (zqd zbp (zqa (bBin (opEq true) (bVar 3) (zqd zqy (aNil))) (aNil)))))))
def F28:Fn:=mkFn false 3 1 b28
theorem h28:zqs (denS 60 S28) (zql t28)=some b28:=by kernel_rfl
def G29:GT:=[("is_whole",(false,2,F14)),("is_round",(false,2,F15)),("forms_of",(false,2,F18)),("_law_cell_at",(false,2,F19)),("_law_numbers",(false,2,F20)),("_law_box",(false,1,F21)),("_law_pile",(false,2,F22)),("_law_cubes",(false,1,F23)),("_law_own",(false,3,F27)),("_law_many",(false,3,F28))]
def S29:Sx:=⟨["script","k","xs","box","pile","forms","one_box","one"],zqc t29,[],[],G29,[],false,[],[]⟩
def b29:Fs:=(sSeq (zvx zqz (zqa (zqd zkf (zqa (bC (.int 1)) (zqa (zqd zyu (zqa (zqd zwh (zqa (bVar 0) (aNil))) (zqa (bC (.int 8)) (aNil)))) (aNil)))) (aNil)) (asgN 1) (sSeq (sSet false 2 (zqe F20 (zqa (zqe F19 (zqa (bVar 0) (zqa (bVar 1) (aNil)))) (zqa (bC (.int 46)) (aNil)))) [0,1])
 (sSeq (sSet false 3 (zqe F21 (zqa (bSl (bVar 2) (some (bC (.int 38))) (some (bC (.int 42)))) (aNil))) [2])
 (sSeq (sIf (bT (bBin (opEq false) (bBin zqn (bBin zqb (bVar 2) (bC (.int 43))) (bC (.int 2))) (bC (.int 0)))) (sSet false 3 (zqd zxt (zqa (bBin zqb (bVar 3) (bC (.int 0))) (zqa (bBin zqb (bVar 3) (bC (.int 0))) (zqa (bBin zqb (bVar 3) (bC (.int 0))) (aNil))))) [3,3,3]) sNil)
 (sSeq (sSet false 4 (zqe F27 (zqa (bVar 3) (zqa (zqe F22 (zqa (bVar 3) (zqa (bVar 2) (aNil)))) (zqa (bBin zqn (bBin zqb (bVar 2) (bC (.int 42))) (bC (.int 6))) (aNil))))) [3,3,2,2])
 (sSeq (sIf (bT (bBin (opEq false) (bBin zqn (bBin zqb (bVar 2) (bC (.int 43))) (bC (.int 4))) (bC (.int 2)))) (sSet false 4 (zqe F27 (zqa (bVar 3) (zqa (bVar 4) (zqa (bC (.int 0)) (aNil))))) [3,4]) sNil)
 (sSeq (sIf (bT (bBin (opEq false) (bBin zqn (bBin zqb (bVar 2) (bC (.int 43))) (bC (.int 8))) (bC (.int 2)))) (sSet false 4 (zqe F27 (zqa (bVar 3) (zqa (bVar 4) (zqa (bC (.int 1)) (aNil))))) [3,4]) sNil)
 (sSeq (sSet false 5 (zqe F18 (zqa (bVar 3) (zqa (zqh (bVar 4) 1 (asgN 8) zqj (zqd zzn (zqa (bVar 8) (aNil)))) (aNil)))) [3,4,4])
 (sSeq (sIf (bT (bOrV (bUn zvp (bUn (zjk "list") (bVar 5))) (bBin (opIn true) (zqd zxt (zqa (bVar 3) (zqa (bVar 4) (aNil)))) (bVar 5)))) (sRet (bC (.bl false))) sNil)
 (sSeq (sIf (bT (zwj (bBin (opEq false) (bBin zqb (bVar 3) (bC (.int 0))) (bBin zqb (bVar 3) (bC (.int 1)))) (zwj (bBin (opEq false) (bBin zqb (bVar 3) (bC (.int 1))) (bBin zqb (bVar 3) (bC (.int 2)))) (bBin (opEq true) (zqd zwh (zqa (bVar 5) (aNil))) (zqe F28 (zqa (bVar 5) (zqa (bVar 3) (zqa (bVar 4) (aNil))))))))) (sRet (bC (.bl false))) sNil)
 (zku (bVar 5) [5] (asgT [6,7]) (sSeq (sIf (bT (bBin (opEq true) (zqe F18 (zqa (bVar 6) (zqa (zqh (bVar 7) 1 (asgN 8) zqj (zqd zzn (zqa (bVar 8) (aNil)))) (aNil)))) (bVar 5))) (sRet (bC (.bl false))) sNil)
 (sSeq (sIf (bT (bBin (opEq true) (zqd zwh (zqa (zqe F23 (zqa (bVar 7) (aNil))) (aNil))) (zqd zwh (zqa (zqe F23 (zqa (bVar 4) (aNil))) (aNil))))) (sRet (bC (.bl false))) sNil)
 (sIf (bT (bOrV (bBin (opEq true) (zqe F15 (zqa (bVar 6) (zqa (bVar 7) (aNil)))) (zqe F15 (zqa (bVar 3) (zqa (bVar 4) (aNil))))) (bBin (opEq true) (zqe F14 (zqa (bVar 6) (zqa (bVar 7) (aNil)))) (zqe F14 (zqa (bVar 3) (zqa (bVar 4) (aNil))))))) (sRet (bC (.bl false))) sNil))))))))))))))
 (sRet (bC (.bl true))))
def F29:Fn:=mkFn false 1 7 b29
theorem h29:zqs (denS 60 S29) (zql t29)=some b29:=by kernel_rfl
end K53
namespace QV
open PySem PySem.Spec PyProof.Rows L2 QQ
section
variable {a b c:Nat}{t:List (List Int)}
end
abbrev Fo:=(Nat×Nat×Nat)×List (List Int)
def fP (f:Fo):PV:=.tup [bx f.1.1 f.1.2.1 f.1.2.2,tb f.2]
def fM (f:Fo):Fo:=((f.1.2.1,f.1.1,f.1.2.2),mirT f.2 f.1.2.1)
def fR (f:Fo):Fo:=((f.1.2.1,f.1.2.2,f.1.1),rolT f.2 f.1.2.1 f.1.2.2)
structure FOk (f:Fo):Prop where
 p:Pile f.1.1 f.1.2.1 f.1.2.2 f.2
 a1:1<=f.1.1/\f.1.1<=6
 b1:1<=f.1.2.1/\f.1.2.1<=6
 c1:1<=f.1.2.2/\f.1.2.2<=6
theorem FOk.m {f:Fo} (h:FOk f):FOk (fM f):=⟨zyd h.p,h.b1,h.a1,h.c1⟩
theorem FOk.r {f:Fo} (h:FOk f):FOk (fR f):=⟨zvo h.p,h.b1,h.c1,h.a1⟩
theorem mm {f:Fo} (h:FOk f):fM (fM f)=f:=by
 obtain ⟨⟨a,b,c⟩,t⟩:=f
 exact congrArg (Prod.mk (a,b,c)) (qma h.p.tab)
theorem rrr {f:Fo} (h:FOk f):fR (fR (fR f))=f:=by
 obtain ⟨⟨a,b,c⟩,t⟩:=f
 exact congrArg (Prod.mk (a,b,c)) (rol3 h.p)
theorem mr {f:Fo} (h:FOk f):fM (fR f)=fR (fR (fM f)):=by
 obtain ⟨⟨a,b,c⟩,t⟩:=f
 exact congrArg (Prod.mk (c,b,a)) (ql9 h.p)
def orb (f:Fo):List Fo:=[f,fR f,fR (fR f),fM f,fR (fM f),fR (fR (fM f))]
theorem zgo {f:Fo} (h:FOk f):∀ x∈orb f,FOk x:=by
 intro x hx
 simp only [orb,ja6,jd2,or_false] at hx
 rcases hx with rfl | rfl | rfl | rfl | rfl | rfl
 ·exact h
 ·exact h.r
 ·exact h.r.r
 ·exact h.m
 ·exact h.m.r
 ·exact h.m.r.r
theorem qe6 {f x:Fo} (h:FOk f) (hx:x∈orb f):f∈orb x:=by
 have inv1:fR (fM (fR (fM f)))=f:=by rw [mr h.m,mm h,rrr h]
 have inv2:fR (fR (fM (fR (fR (fM f)))))=f:=by
  rw [mr h.m.r,mr h.m,mm h,rrr h.r.r,rrr h]
 simp only [orb,ja6,jd2,or_false] at hx ⊢
 rcases hx with rfl | rfl | rfl | rfl | rfl | rfl
 ·exact .inl rfl
 ·exact .inr (.inr (.inl (rrr h).symm))
 ·exact .inr (.inl (rrr h).symm)
 ·exact .inr (.inr (.inr (.inl (mm h).symm)))
 ·exact .inr (.inr (.inr (.inr (.inl inv1.symm))))
 ·exact .inr (.inr (.inr (.inr (.inr inv2.symm))))
open PySem PySem.Spec PyProof.Rows L2 QQ PySem.SeqAt
structure Sto {α:Type} (lt:α->α->Bool):Prop where
 ir:∀ x,lt x x=false
 tr:∀ x y z,lt x y=true->lt y z=true->lt x z=true
 to:∀ x y,x≠y->lt x y=true\/lt y x=true
def lexB {α:Type} [DecidableEq α] (lt:α->α->Bool):List α->List α->Bool
 | _,[]=>false
 | [],_::_=>true
 | x::xs,y::ys=>if x=y then lexB lt xs ys else lt x y
theorem zjv {α:Type} [DecidableEq α] {lt:α->α->Bool} (h:Sto lt):Sto (lexB lt):=by
 refine ⟨λ x=>?_,λ x=>?_,λ x=>?_⟩
 ·induction x with
  | nil=>rfl
  | cons a r ih=>unfold lexB;rw [if_pos rfl];exact ih
 ·induction x with
  | nil=>
   intro y z h1 h2
   cases z with
   | nil=>cases y <;> cases h2
   | cons c z=>rfl
  | cons a x ih=>
   intro y z h1 h2
   cases y with
   | nil=>cases h1
   | cons b y=>
    cases z with
    | nil=>cases h2
    | cons c z=>
     unfold lexB at h1 h2 ⊢
     by_cases e1:a=b
     ·rw [if_pos e1] at h1
      subst e1
      by_cases e2:a=c
      ·rw [if_pos e2] at h2 ⊢
       exact ih y z h1 h2
      ·rw [if_neg e2] at h2 ⊢
       exact h2
     ·rw [if_neg e1] at h1
      by_cases e2:b=c
      ·rw [if_pos e2] at h2
       subst e2
       rw [if_neg e1]
       exact h1
      ·rw [if_neg e2] at h2
       have:=h.tr a b c h1 h2
       by_cases e3:a=c
       ·rw [e3,h.ir] at this;cases this
       ·rw [if_neg e3];exact this
 ·induction x with
  | nil=>
   intro y hn
   cases y with
   | nil=>exact absurd rfl hn
   | cons b y=>exact .inl rfl
  | cons a x ih=>
   intro y hn
   cases y with
   | nil=>exact .inr rfl
   | cons b y=>
    unfold lexB
    by_cases e:a=b
    ·rw [if_pos e,if_pos e.symm]
     exact ih y λ z=>hn (by rw [e,z])
    ·rw [if_neg e,if_neg (vd0 e)]
     exact h.to a b e
def ltZ (x y:Int):Bool:=decide (x < y)
theorem qfj:Sto ltZ:=⟨λ x=>decide_eq_false (by omega),λ x y z h1 h2=>decide_eq_true (by have:=of_decide_eq_true h1;have:=of_decide_eq_true h2;omega),λ x y h=>by
 by_cases e:x < y
 ·exact .inl (decide_eq_true e)
 ·exact .inr (decide_eq_true (by omega))⟩
def ltI:List Int->List Int->Bool:=lexB ltZ
def ltT:List (List Int)->List (List Int)->Bool:=lexB ltI
def b3 (f:Fo):List Int:=[(f.1.1:Int),(f.1.2.1:Int),(f.1.2.2:Int)]
def ltF (f g:Fo):Bool:=if b3 f=b3 g then ltT f.2 g.2 else ltI (b3 f) (b3 g)
theorem qkk {f g:Fo} (h:b3 f=b3 g):f.1=g.1:=by
 obtain ⟨⟨a,b,c⟩,t⟩:=f
 obtain ⟨⟨a',b',c'⟩,t'⟩:=g
 unfold b3 at h
 simp only [List.cons.injEq,and_true,Int.natCast_inj] at h
 obtain ⟨rfl,rfl,rfl⟩:=h
 rfl
theorem zza:Sto ltF:=by
 have hi:=zjv qfj
 have ht:=zjv hi
 refine ⟨λ x=>?_,λ x y z h1 h2=>?_,λ x y hn=>?_⟩
 ·unfold ltF;rw [if_pos rfl];exact ht.ir _
 ·unfold ltF at h1 h2 ⊢
  by_cases e1:b3 x=b3 y
  ·rw [if_pos e1] at h1
   rw [e1]
   by_cases e2:b3 y=b3 z
   ·rw [if_pos e2] at h2 ⊢
    exact ht.tr _ _ _ h1 h2
   ·rw [if_neg e2] at h2 ⊢
    exact h2
  ·rw [if_neg e1] at h1
   by_cases e2:b3 y=b3 z
   ·rw [<- e2,if_neg e1]
    exact h1
   ·rw [if_neg e2] at h2
    have:=hi.tr _ _ _ h1 h2
    by_cases e3:b3 x=b3 z
    ·rw [e3] at this
     have q:=hi.ir (b3 z)
     rw [show lexB ltZ (b3 z) (b3 z)=true from this] at q
     cases q
    ·rw [if_neg e3];exact this
 ·unfold ltF
  by_cases e:b3 x=b3 y
  ·rw [if_pos e,if_pos e.symm]
   exact ht.to _ _ λ z=>hn (vl9 (qkk e) z)
  ·rw [if_neg e,if_neg (vd0 e)]
   exact hi.to _ _ e
section
variable {α:Type}{lt:α->α->Bool}
def rnk (lt:α->α->Bool) (L:List α) (x:α):Nat:=(L.filter λ y=>lt y x).length
theorem zhf {p q:α->Bool}:∀ {L:List α},(∀ y∈L,p y=true->q y=true)->(L.filter p).length<=(L.filter q).length
 | [],_=>jb2 _
 | y::L,h=>by
  have ih:=zhf (L:=L) λ z hz=>h z (ja1 _ hz)
  rw [jj5,jj5]
  by_cases hp:p y=true
  ·rw [if_pos hp,if_pos (h y ja4 hp),ja9,ja9];omega
  ·rw [if_neg hp]
   by_cases hq:q y=true
   ·rw [if_pos hq,ja9];omega
   ·rw [if_neg hq];exact ih
theorem zja {p q:α->Bool}:∀ {L:List α}{x:α},x∈L->(∀ y∈L,p y=true->q y=true)->p x=false->q x=true->(L.filter p).length < (L.filter q).length
 | [],_,hx,_,_,_=>by cases hx
 | y::L,x,hx,h,hp,hq=>by
  rw [jj5,jj5]
  have le:=zhf (L:=L) λ z hz=>h z (ja1 _ hz)
  rcases ja6.mp hx with e | hx
  ·subst e
   rw [hp,hq,if_neg jb6,if_pos rfl,ja9]
   omega
  ·have ih:=zja hx (λ z hz=>h z (ja1 _ hz)) hp hq
   by_cases hp':p y=true
   ·rw [if_pos hp',if_pos (h y ja4 hp'),ja9,ja9];omega
   ·rw [if_neg hp']
    by_cases hq':q y=true
    ·rw [if_pos hq',ja9];omega
    ·rw [if_neg hq'];exact ih
theorem zgi (h:Sto lt) {L:List α}{x y:α} (hx:x∈L) (hxy:lt x y=true):rnk lt L x < rnk lt L y:=zja hx (λ z _ hz=>h.tr z x y hz hxy) (h.ir x) hxy
theorem qas (h:Sto lt) {L:List α}{x:α} (hx:x∈L):rnk lt L x < L.length:=by
 have:=zja (p:=λ y=>lt y x) (q:=λ _=>true) hx (λ _ _ _=>rfl) (h.ir x) rfl
 rw [jf4.mpr (λ _ _=>rfl)] at this
 exact this
theorem qel [DecidableEq α] (h:Sto lt) {L:List α}{x y:α} (hx:x∈L) (hy:y∈L):lt x y=decide (rnk lt L x < rnk lt L y):=by
 by_cases e:x=y
 ·rw [e,h.ir,decide_eq_false (by omega)]
 ·rcases h.to x y e with q | q
  ·rw [q,decide_eq_true (zgi h hx q)]
  ·have:=zgi h hy q
   rw [decide_eq_false (by omega)]
   cases e2:lt x y with
   | false=>rfl
   | true=>have:=zgi h hx e2;omega
theorem qek [DecidableEq α] (h:Sto lt) {L:List α}{x y:α} (hx:x∈L) (hy:y∈L) (e:rnk lt L x=rnk lt L y):x=y:=by
 by_cases ne:x=y
 ·exact ne
 ·rcases h.to x y ne with q | q
  ·have:=zgi h hx q;omega
  ·have:=zgi h hy q;omega
theorem zgh [DecidableEq α] (h:Sto lt) {L M:List α} (hM:M.Nodup) (hs:∀ x∈M,x∈L):(M.map (rnk lt L)).Nodup:=by
 induction M with
 | nil=>exact .nil
 | cons x M ih=>
  rw [jg3] at hM
  rw [jb7,jg3]
  refine ⟨λ z=>?_,ih hM.2 λ y hy=>hs y (ja1 _ hy)⟩
  obtain ⟨y,hy,e⟩:=je3.mp z
  have:=qek h (hs y (ja1 _ hy)) (hs x ja4) e
  rw [this] at hy
  exact hM.1 hy
end
def dI (r:List Int):vc5:=.list (r.map .int)
def dT (t:List (List Int)):vc5:=.list (t.map dI)
def fD (f:Fo):vc5:=.tuple [.tuple ((b3 f).map .int),dT f.2]
theorem fP_D (f:Fo):toD 20 (fP f)=some (fD f):=by
 have row:∀ r:List Int,toDL (toD 17) (r.map PV.int)=some (r.map PyData.int):=λ r=>zwt (q:=PyData.int) (λ _=>rfl) r
 have rows:toDL (toD 18) (f.2.map il)=some (f.2.map dI):=zwt (q:=dI) (λ r=>by
  show (toDL (toD 17) (r.map PV.int)).map PyData.list=_
  rw [row]
  rfl) f.2
 have e2:toD 19 (tb f.2)=some (dT f.2):=by
  show (toDL (toD 18) (f.2.map il)).map PyData.list=_
  rw [rows]
  rfl
 show (toDL (toD 19) [bx f.1.1 f.1.2.1 f.1.2.2,tb f.2]).map PyData.tuple=_
 unfold toDL
 unfold toDL
 unfold toDL
 rw [e2]
 rfl
theorem fs_D (fs:List Fo):toDL (toD 20) (fs.map fP)=some (fs.map fD):=zwt (q:=fD) fP_D fs
theorem qgd (x y:Int):vb1 (.int x) (.int y)=decide (x=y):=by
 rw [vb1]
 rfl
theorem zzj {α:Type} [DecidableEq α] {q:α->vc5} (h:∀ x y,vb1 (q x) (q y)=decide (x=y)):∀ xs ys:List α,vb9 (xs.map q) (ys.map q)=decide (xs=ys)
 | [],[]=>by simp [vb9]
 | [],_::_=>by simp [vb9]
 | _::_,[]=>by simp [vb9]
 | x::xs,y::ys=>by
  rw [jb7,jb7,vb9,h,zzj h xs ys,je2]
  simp
theorem zjt {α:Type} [DecidableEq α] {q:α->vc5}{lt:α->α->Bool} (h:∀ x y,vb1 (q x) (q y)=decide (x=y)) (hl:∀ x y,ltD (q x) (q y)=lt x y):∀ xs ys:List α,ltDs (xs.map q) (ys.map q)=lexB lt xs ys
 | xs,[]=>by rw [jf0];cases xs <;> (first | rw [jf0] | rw [jb7]) <;> rw [ltDs] <;> rfl
 | [],y::ys=>by rw [jf0,jb7,ltDs];rfl
 | x::xs,y::ys=>by
  rw [jb7,jb7,ltDs,h,hl,zjt h hl xs ys]
  show _=if x=y then lexB lt xs ys else lt x y
  by_cases e:x=y
  ·rw [decide_eq_true e,if_pos rfl,if_pos e]
  ·rw [decide_eq_false e,if_neg jb6,if_neg e]
theorem zbb {α:Type}{q:α->vc5} (h:∀ x y,cmD (q x) (q y)=true):∀ xs ys:List α,cmDs (xs.map q) (ys.map q)=true
 | [],_=>by rw [jf0,cmDs]
 | x::xs,[]=>by rw [jf0,jb7,cmDs]
 | x::xs,y::ys=>by rw [jb7,jb7,cmDs,h,zbb h xs ys];rfl
theorem qpv (x y:List Int):vb1 (dI x) (dI y)=decide (x=y):=by
 unfold dI
 rw [vb1]
 exact zzj qgd x y
theorem qpu (x y:List (List Int)):vb1 (dT x) (dT y)=decide (x=y):=by
 unfold dT
 rw [vb1]
 exact zzj qpv x y
theorem lt_Z (x y:Int):ltD (.int x) (.int y)=ltZ x y:=by rw [ltD];rfl
theorem lt_I (x y:List Int):ltD (dI x) (dI y)=ltI x y:=by
 unfold dI
 rw [ltD]
 exact zjt qgd lt_Z x y
theorem lt_T (x y:List (List Int)):ltD (dT x) (dT y)=ltT x y:=by
 unfold dT
 rw [ltD]
 exact zjt qpv lt_I x y
theorem qmn (f g:Fo):vb1 (fD f) (fD g)=decide (f=g):=by
 unfold fD
 rw [vb1,vb9,vb9,vb9,vb1,zzj qgd,qpu,jh1,je2,ja5,decide_eq_true_iff,decide_eq_true_iff,decide_eq_true_iff]
 exact ⟨λ h=>vl9 (qkk h.1) h.2,λ h=>by rw [h];exact ⟨rfl,rfl⟩⟩
theorem lt_F (f g:Fo):ltD (fD f) (fD g)=ltF f g:=by
 unfold fD
 rw [ltD,ltDs,ltDs,ltDs,vb1,zzj qgd,ltD,zjt qgd lt_Z,qpu,lt_T]
 unfold ltF
 by_cases e:b3 f=b3 g
 ·rw [decide_eq_true e,if_pos rfl,if_pos e]
  by_cases e2:f.2=g.2
  ·rw [decide_eq_true e2,if_pos rfl,e2]
   exact (zjv (zjv qfj)).ir g.2 |>.symm
  ·rw [decide_eq_false e2,if_neg jb6]
 ·rw [decide_eq_false e,if_neg jb6,if_neg e]
  rfl
theorem cm_F (f g:Fo):cmD (fD f) (fD g)=true:=by
 have z:∀ x y:Int,cmD (.int x) (.int y)=true:=λ x y=>by rw [cmD]
 have i:∀ x y:List Int,cmD (dI x) (dI y)=true:=λ x y=>by unfold dI;rw [cmD];exact zbb z x y
 unfold fD
 rw [cmD,cmDs,cmDs,cmDs,cmD,zbb z]
 unfold dT
 rw [cmD,zbb i]
 rfl
theorem qf8 {fs:List Fo} (hn:fs.Nodup) (h2:2<=fs.length) (h6:fs.length<=6):zhc (fs.map fD)=true:=by
 have hr:zka (fs.map fD)=fs.map (rnk ltF fs):=by
  unfold zka
  rw [jc2]
  refine jd0 λ f hf=>?_
  show ((fs.map fD).filter λ D'=>ltD D' (fD f)).length=_
  rw [ji7,ja3]
  unfold rnk
  congr 1
  exact je5 λ y _=>lt_F y f
 unfold zhc
 rw [ja5,ja5,ja5,ja5,ja5,hr,ja3]
 refine ⟨⟨⟨⟨⟨decide_eq_true ⟨h2,h6⟩,?_⟩,?_⟩,decide_eq_true (zgh zza hn λ _ h=>h)⟩,?_⟩,?_⟩
 ·rw [jo5,jb8]
  exact λ f _=>rfl
 ·rw [jo5,jb8]
  intro f _
  show (fs.map fD).all _=true
  rw [jo5,jb8]
  exact λ g _=>cm_F f g
 ·rw [jo5,jb8]
  exact λ f hf=>decide_eq_true (qas zza hf)
 ·rw [jb8]
  intro i hi
  rw [jb8]
  intro j hj
  have hi:=jb9.mp hi
  have hj:=jb9.mp hj
  have gd:∀ k,k < fs.length->(fs.map fD).getD k .none=fD fs[k]!/\(fs.map (rnk ltF fs)).getD k 0=rnk ltF fs fs[k]!/\fs[k]!∈fs:=λ k hk=>by
   have e:(fs[k]!)=fs[k]:=by simp [hk]
   rw [e]
   refine ⟨?_,?_,je4 hk⟩
   ·rw [ja0,jc1,ja8 hk];rfl
   ·rw [ja0,jc1,ja8 hk];rfl
  obtain ⟨a1,a2,a3⟩:=gd i hi
  obtain ⟨b1,b2,b3⟩:=gd j hj
  unfold rlt
  rw [a1,b1,a2,b2,lt_F,qel zza a3 b3]
  exact beq_self_eq_true _
open PySem PySem.Spec PyProof.Rows L2 QQ PySem.SeqAt PySem.W
def f00:Fo:=((0,0,0),[])
theorem qj6 {α β:Type}{fs:List α}{q:α->β}{i:Nat} (h:i < fs.length) (d0:α) (d:β):(fs.map q).getD i d=q (fs.getD i d0):=by
 rw [ja0,jc1,ja8 h,ja0,ja8 h]
 rfl
theorem qps {α:Type}{fs:List α}{i:Nat} (h:i < fs.length) (d0:α):fs.getD i d0∈fs:=by
 rw [ja0,ja8 h]
 exact je4 h
def srtL (fs:List Fo):List Fo:=(ordD (fs.map fD)).map λ i=>fs.getD i f00
theorem qhv (fs:List Fo):zka (fs.map fD)=fs.map (rnk ltF fs):=by
 unfold zka
 rw [jc2]
 refine jd0 λ f hf=>?_
 show ((fs.map fD).filter λ D'=>ltD D' (fD f)).length=_
 rw [ji7,ja3]
 unfold rnk
 congr 1
 exact je5 λ y _=>lt_F y f
theorem zbg {fs:List Fo} (hn:fs.Nodup) (h1:1<=fs.length) (h6:fs.length<=6):(srtL fs).map (rnk ltF fs)=ja2 fs.length:=by
 by_cases e:fs.length=1
 ·unfold srtL ordD
  rw [if_pos (by rw [ja3];exact e)]
  match fs,e with
  | [f],_=>
   show [rnk ltF [f] f]=[0]
   unfold rnk
   rw [jj5,zza.ir,if_neg jb6]
   rfl
 ·have g:=qf8 hn (by omega) h6
  have lr:(zka (fs.map fD)).length=fs.length:=by rw [qhv,ja3]
  have hn':(zka (fs.map fD)).Nodup:=by rw [qhv];exact zgh zza hn λ _ h=>h
  have ok:=qak (r:=zka (fs.map fD)) (by omega) (by omega) hn' (λ x hx=>by
   rw [lr]
   rw [qhv] at hx
   obtain ⟨f,hf,rfl⟩:=je3.mp hx
   exact qas zza hf)
  rw [lr] at ok
  unfold zmr at ok
  rw [ja5,ja5] at ok
  have em:=eq_of_beq ok.1.2
  unfold srtL ordD
  rw [if_neg (by rw [ja3];exact e),ja3,jc2,<- em]
  refine jd0 λ i hi=>?_
  have hi':=of_decide_eq_true (jb8.mp ok.2 i hi)
  rw [qhv]
  exact (qj6 hi' f00 0).symm
theorem qe5 {fs:List Fo} (hn:fs.Nodup) (h1:1<=fs.length) (h6:fs.length<=6):∀ i∈ordD (fs.map fD),i < fs.length:=by
 have g:(fs.map fD).length=1\/zhc (fs.map fD)=true:=by
  by_cases e:fs.length=1
  ·exact .inl (by rw [ja3];exact e)
  ·exact .inr (qf8 hn (by omega) h6)
 intro i hi
 have:=(qe4 g).1 i hi
 rw [ja3] at this
 exact this
theorem zms {fs:List Fo} (hn:fs.Nodup) (h1:1<=fs.length) (h6:fs.length<=6) (f:Fo):f∈srtL fs↔f∈fs:=by
 have sub:∀ f,f∈srtL fs->f∈fs:=λ f h=>by
  obtain ⟨i,hi,rfl⟩:=je3.mp h
  exact qps (qe5 hn h1 h6 i hi) f00
 refine ⟨sub f,λ h=>?_⟩
 have hr:rnk ltF fs f∈(srtL fs).map (rnk ltF fs):=by rw [zbg hn h1 h6];exact jb9.mpr (qas zza h)
 obtain ⟨g,hg,e⟩:=je3.mp hr
 rw [<- qek zza (sub g hg) h e]
 exact hg
theorem qed {fs:List Fo} (hn:fs.Nodup) (h1:1<=fs.length) (h6:fs.length<=6):(srtL fs).Pairwise λ x y=>ltF x y=true:=by
 have hr:=zbg hn h1 h6
 have up:((srtL fs).map (rnk ltF fs)).Pairwise (·< ·):=by rw [hr];exact List.pairwise_lt_range
 rw [List.pairwise_map] at up
 exact up.imp_of_mem λ {x y} hx hy h=>by
  rw [qel zza ((zms hn h1 h6 x).mp hx) ((zms hn h1 h6 y).mp hy)]
  exact decide_eq_true h
theorem qbi {fs:List Fo} (hn:fs.Nodup) (h1:1<=fs.length) (h6:fs.length<=6):(srtL fs).length=fs.length:=by
 have:=congrArg js0 (zbg hn h1 h6)
 rw [ja3,jc8] at this
 exact this
theorem qnz {fs:List Fo}{d:Nat} (hn:fs.Nodup) (h1:1<=fs.length) (h6:fs.length<=6):zbo [(.lst (fs.map fP),d)]=some (.lst ((srtL fs).map fP),1):=by
 have e0:ql5 [(.lst (fs.map fP),d)]=none:=by
  match fs,h1 with
  | f::r,_=>rfl
 unfold zbo
 rw [e0]
 show qbx [(.lst (fs.map fP),d)]=_
 unfold qbx
 dsimp only
 rw [fs_D]
 dsimp only
 rw [if_pos (by
  by_cases e:fs.length=1
  ·exact .inl (by rw [ja3];exact e)
  ·exact .inr (qf8 hn (by omega) h6))]
 congr 3
 unfold srtL
 rw [jc2]
 exact jd0 λ i hi=>qj6 (qe5 hn h1 h6 i hi) f00 _
theorem qpn {neg:Bool}{f h:Fx}{ρ ρ1 ρ2:Rho}{x:Fo}{gs:List Fo}{d e:Nat} (h1:f ρ=.ok (fP x,d,ρ1)) (h2:h ρ1=.ok (.lst (gs.map fP),e,ρ2)):bBin (opIn neg) f h ρ=.ok (.bl (neg^^decide (x∈gs)),om,ρ2):=by
 refine zxj h1 h2 ?_
 show (match toD 20 (fP x),toDL (toD 20) (gs.map fP) with | some a,some bs=>some (PV.bl (neg^^bs.any λ b=>vb1 b a),om) | _,_=>none)=_
 rw [fP_D,fs_D]
 show some (PV.bl (neg^^(gs.map fD).any λ b=>vb1 b (fD x)),om)=_
 rw [jt8]
 congr 4
 rw [je2,jr9,decide_eq_true_iff]
 constructor
 ·rintro ⟨y,hy,e⟩
  have e:vb1 (fD y) (fD x)=true:=e
  rw [qmn,decide_eq_true_iff] at e
  rw [<- e];exact hy
 ·intro hx
  exact ⟨x,hx,by show vb1 (fD x) (fD x)=true;rw [qmn,decide_eq_true rfl]⟩
def addN (acc:List Fo) (x:Fo):List Fo:=if x∈acc then acc else acc++[x]
def zpm (L:List Fo):List Fo:=L.foldl addN []
theorem qc3 (L:List Fo):∀ acc:List Fo,acc.Nodup->(L.foldl addN acc).Nodup/\(∀ x,x∈L.foldl addN acc↔x∈acc\/x∈L)/\(L.foldl addN acc).length<=acc.length + L.length:=by
 induction L with
 | nil=>exact λ acc h=>⟨h,λ x=>by simp,jb2 _⟩
 | cons y L ih=>
  intro acc h
  rw [js1]
  unfold addN
  by_cases e:y∈acc
  ·rw [if_pos e]
   obtain ⟨q1,q2,q3⟩:=ih acc h
   refine ⟨q1,λ x=>?_,by rw [ja9];unfold addN at q3;omega⟩
   rw [show (L.foldl (λ acc x=>if x∈acc then acc else acc++[x]) acc)=L.foldl addN acc from rfl,q2 x,ja6]
   exact ⟨λ z=>z.elim .inl λ w=>.inr (.inr w),λ z=>z.elim .inl λ w=>w.elim (λ v=>.inl (by rw [v];exact e)) .inr⟩
  ·rw [if_neg e]
   have hn:(acc++[y]).Nodup:=by
    rw [jq5]
    refine ⟨h,by simp,λ a ha b hb=>?_⟩
    rw [jc3.mp hb]
    exact λ z=>e (z ▸ ha)
   obtain ⟨q1,q2,q3⟩:=ih (acc++[y]) hn
   refine ⟨q1,λ x=>?_,?_⟩
   ·rw [show (L.foldl (λ acc x=>if x∈acc then acc else acc++[x]) (acc++[y]))=L.foldl addN (acc++[y]) from rfl,q2 x,jc9,jc3,ja6,or_assoc]
   ·rw [jb4] at q3
    rw [ja9]
    unfold addN at q3
    simp only [ja9,jo3] at q3
    omega
theorem zyv {f:Fo}:(zpm (orb f)).Nodup/\(∀ x,x∈zpm (orb f)↔x∈orb f)/\1<=(zpm (orb f)).length/\(zpm (orb f)).length<=6:=by
 obtain ⟨q1,q2,q3⟩:=qc3 (orb f) [] .nil
 refine ⟨q1,λ x=>by rw [show zpm (orb f)=(orb f).foldl addN [] from rfl,q2 x];simp,?_,q3⟩
 have:f∈zpm (orb f):=(q2 f).mpr (.inr ja4)
 exact List.length_pos_of_mem this
def fW (f:Fo):Fo:=(f.1,zwk f.2 f.1.2.2)
theorem qaw {P:Fo->Prop} (hR:∀ f,FOk f->P f->P (fR f)) (hM:∀ f,FOk f->P f->P (fM f)) {f x:Fo} (h:FOk f) (hx:x∈orb f) (hp:P f):P x:=by
 simp only [orb,ja6,jd2,or_false] at hx
 rcases hx with rfl | rfl | rfl | rfl | rfl | rfl
 ·exact hp
 ·exact hR _ h hp
 ·exact hR _ h.r (hR _ h hp)
 ·exact hM _ h hp
 ·exact hR _ h.m (hM _ h hp)
 ·exact hR _ h.m.r (hR _ h.m (hM _ h hp))
theorem qe7 {P:Fo->Prop} (hR:∀ f,FOk f->P f->P (fR f)) (hM:∀ f,FOk f->P f->P (fM f)) {f x:Fo} (h:FOk f) (hx:x∈orb f):P x↔P f:=⟨λ z=>qaw hR hM (zgo h x hx) (qe6 h hx) z,λ z=>qaw hR hM h hx z⟩
theorem zyc {f x:Fo} (h:FOk f) (hx:x∈orb f):fR x=x↔fR f=f:=qe7 (P:=λ y=>fR y=y) (λ y _ e=>congrArg fR e) (λ y hy e=>by
 have m:=mr hy
 rw [e] at m
 have:=congrArg fR m
 rw [rrr hy.m] at this
 exact this) h hx
theorem qdv {f x:Fo} (h:FOk f) (hx:x∈orb f):fW x=x↔fW f=f:=qe7 (P:=λ y=>fW y=y) (λ y hy e=>by
 have:fW (fR y)=fR (fW y):=congrArg (Prod.mk _) (qht hy.p)
 rw [this,e]) (λ y hy e=>by
 have:fW (fM y)=fM (fW y):=congrArg (Prod.mk _) (qhu hy.p.tab)
 rw [this,e]) h hx
theorem qdf {f y:Fo} (h:FOk f) (hy:y∈orb f):fR y∈orb f:=by
 have e1:=rrr h
 have e2:=rrr h.m
 simp only [orb,ja6,jd2,or_false] at hy ⊢
 rcases hy with rfl | rfl | rfl | rfl | rfl | rfl
 ·exact .inr (.inl rfl)
 ·exact .inr (.inr (.inl rfl))
 ·exact .inl e1
 ·exact .inr (.inr (.inr (.inr (.inl rfl))))
 ·exact .inr (.inr (.inr (.inr (.inr rfl))))
 ·exact .inr (.inr (.inr (.inl e2)))
theorem qqo {f y:Fo} (h:FOk f) (hy:y∈orb f):fM y∈orb f:=by
 have e1:fM (fR (fR f))=fR (fM f):=by rw [mr h.r,mr h,rrr h.m.r]
 have e2:fM (fR (fM f))=fR (fR f):=by rw [mr h.m,mm h]
 have e3:fM (fR (fR (fM f)))=fR f:=by rw [mr h.m.r,mr h.m,mm h,rrr h.r]
 simp only [orb,ja6,jd2,or_false] at hy ⊢
 rcases hy with rfl | rfl | rfl | rfl | rfl | rfl
 ·exact .inr (.inr (.inr (.inl rfl)))
 ·exact .inr (.inr (.inr (.inr (.inr (mr h)))))
 ·exact .inr (.inr (.inr (.inr (.inl e1))))
 ·exact .inl (mm h)
 ·exact .inr (.inr (.inl e2))
 ·exact .inr (.inl e3)
theorem qjx {f x:Fo} (h:FOk f) (hx:x∈orb f) (y:Fo):y∈orb x↔y∈orb f:=by
 have sub:∀ {f x:Fo},FOk f->x∈orb f->∀ y,y∈orb x->y∈orb f:=λ {f x} h hx y hy=>by
  simp only [orb,ja6,jd2,or_false] at hy
  have hm:=qqo h hx
  rcases hy with rfl | rfl | rfl | rfl | rfl | rfl
  ·exact hx
  ·exact qdf h hx
  ·exact qdf h (qdf h hx)
  ·exact hm
  ·exact qdf h hm
  ·exact qdf h (qdf h hm)
 exact ⟨sub h hx y,sub (zgo h x hx) (qe6 h hx) y⟩
theorem qgi {f x:Fo} (h:FOk f) (hx:x∈orb f):sumT x.2=sumT f.2:=qaw (P:=λ y=>sumT y.2=sumT f.2) (λ y hy e=>(qk7 hy.p).trans e) (λ y hy e=>(qk8 hy.p.tab).trans e) h hx rfl
theorem qdy:∀ {l m:List Fo},(∀ x,x∈l↔x∈m)->l.Pairwise (λ x y=>ltF x y=true)->m.Pairwise (λ x y=>ltF x y=true)->l=m
 | [],[],_,_,_=>rfl
 | [],y::m,h,_,_=>absurd ((h y).mpr ja4) (λ z=>nomatch z)
 | x::l,[],h,_,_=>absurd ((h x).mp ja4) (λ z=>nomatch z)
 | x::l,y::m,h,hl,hm=>by
  rw [ji0] at hl hm
  have no:∀ {a b:Fo},ltF a b=true->ltF b a=true->False:=λ {a b} p q=>by
   have:=zza.tr a b a p q
   rw [zza.ir] at this
   cases this
  have e:x=y:=by
   rcases ja6.mp ((h x).mp ja4) with e | hx
   ·exact e
   ·rcases ja6.mp ((h y).mpr ja4) with e | hy
    ·exact e.symm
    ·exact (no (hm.1 x hx) (hl.1 y hy)).elim
  subst e
  have nl:∀ {l:List Fo},(∀ a∈l,ltF x a=true)->x∉l:=λ {l} hh z=>by
   have:=hh x z
   rw [zza.ir] at this
   cases this
  rw [qdy (l:=l) (m:=m) (λ z=>?_) hl.2 hm.2]
  have hz:=h z
  constructor
  ·intro q
   rcases ja6.mp (hz.mp (ja1 _ q)) with e | r
   ·rw [e] at q;exact absurd q (nl hl.1)
   ·exact r
  ·intro q
   rcases ja6.mp (hz.mpr (ja1 _ q)) with e | r
   ·rw [e] at q;exact absurd q (nl hm.1)
   ·exact r
theorem qci (f:Fo):∃ l,l=srtL (zpm (orb f)):=⟨_,rfl⟩
noncomputable def forms (f:Fo):List Fo:=Classical.choose (qci f)
theorem zyg (f:Fo):forms f=srtL (zpm (orb f)):=Classical.choose_spec (qci f)
theorem zzr {f x:Fo}:x∈forms f↔x∈orb f:=by
 obtain ⟨q1,q2,q3,q4⟩:=zyv (f:=f)
 rw [zyg]
 exact (zms q1 q3 q4 x).trans (q2 x)
theorem qdm {f x:Fo} (h:FOk f) (hx:x∈orb f):forms x=forms f:=by
 obtain ⟨q1,q2,q3,q4⟩:=zyv (f:=f)
 obtain ⟨r1,r2,r3,r4⟩:=zyv (f:=x)
 have u1:=qed r1 r3 r4
 have u2:=qed q1 q3 q4
 rw [<- zyg] at u1 u2
 refine qdy (λ y=>?_) u1 u2
 exact (zzr (f:=x)).trans ((qjx h hx y).trans (zzr (f:=f)).symm)
theorem zyf {f:Fo}{E:List Fo} (hn:E.Nodup) (he:∀ x,x∈E↔x∈orb f):(forms f).length=E.length:=by
 obtain ⟨q1,q2,q3,q4⟩:=zyv (f:=f)
 rw [zyg,qbi q1 q3 q4]
 exact ((List.perm_ext_iff_of_nodup q1 hn).mpr λ x=>(q2 x).trans (he x).symm).length_eq
theorem qkq {f:Fo} (h:FOk f) (hr:fR f≠f):[f,fR f,fR (fR f)].Nodup:=by
 have a1:fR f≠fR (fR f):=λ e=>hr (by
  have e2:=congrArg (λ y=>fR (fR y)) e
  have e3:fR (fR (fR f))=fR (fR (fR (fR f))):=e2
  rw [rrr h] at e3
  exact e3.symm)
 have a2:f≠fR (fR f):=λ e=>hr (by
  have e2:=congrArg fR e
  rw [rrr h] at e2
  exact e2)
 simp only [jg3,ja6,jd2,or_false,not_or,not_false_eq_true,jo7,and_true]
 exact ⟨⟨λ e=>hr e.symm,a2⟩,a1⟩
theorem many {f:Fo} (h:FOk f):(forms f).length=if fR f=f then (if fM f=f then 1 else 2) else (if ∃ x∈orb f,fM x=x then 3 else 6):=by
 by_cases hr:fR f=f
 ·rw [if_pos hr]
  have hrm:fR (fM f)=fM f:=(zyc h (x:=fM f) (by simp [orb])).mpr hr
  by_cases hm:fM f=f
  ·rw [if_pos hm]
   refine zyf (E:=[f]) (by simp) λ x=>?_
   simp only [orb,hm,hr,ja6,jd2,or_false]
   simp
  ·rw [if_neg hm]
   refine zyf (E:=[f,fM f]) (by simp only [jg3,ja6,jd2,or_false,not_false_eq_true,jo7,and_true];exact λ e=>hm e.symm) λ x=>?_
   simp only [orb,hrm,hr,ja6,jd2,or_false]
   simp
 ·rw [if_neg hr]
  by_cases he:∃ x∈orb f,fM x=x
  ·rw [if_pos he]
   obtain ⟨x,hx,hm⟩:=he
   have xo:=zgo h x hx
   refine zyf (E:=[x,fR x,fR (fR x)]) (qkq xo λ z=>hr ((zyc h hx).mp z)) λ y=>?_
   rw [<- qjx h hx y]
   simp only [orb,hm,ja6,jd2,or_false]
   exact ⟨λ z=>z.elim .inl λ z=>z.elim (λ z=>.inr (.inl z)) λ z=>.inr (.inr (.inl z)),λ z=>z.elim .inl λ z=>z.elim (λ z=>.inr (.inl z)) λ z=>z.elim (λ z=>.inr (.inr z)) λ z=>z.elim .inl λ z=>z.elim (λ z=>.inr (.inl z)) λ z=>.inr (.inr z)⟩
  ·rw [if_neg he]
   refine zyf (E:=orb f) ?_ λ x=>Iff.rfl
   have n1:=qkq h hr
   have n2:=qkq h.m λ z=>hr ((zyc h (x:=fM f) (by simp [orb])).mp z)
   have no:fM f∉[f,fR f,fR (fR f)]:=λ z=>by
    refine he ?_
    simp only [ja6,jd2,or_false] at z
    rcases z with z | z | z
    ·exact ⟨f,by simp [orb],z⟩
    ·refine ⟨fR (fR f),by simp [orb],?_⟩
     rw [mr h.r,mr h,z,rrr h.r.r]
    ·refine ⟨fR f,by simp [orb],?_⟩
     rw [mr h,z,rrr h.r]
   have rc:∀ y,y∈[f,fR f,fR (fR f)]->fR y∈[f,fR f,fR (fR f)]:=λ y hy=>by
    have e1:=rrr h
    simp only [ja6,jd2,or_false] at hy ⊢
    rcases hy with rfl | rfl | rfl
    ·exact .inr (.inl rfl)
    ·exact .inr (.inr rfl)
    ·exact .inl e1
   have no2:fR (fM f)∉[f,fR f,fR (fR f)]:=λ z=>no (by have:=rc _ (rc _ z);rw [rrr h.m] at this;exact this)
   have no3:fR (fR (fM f))∉[f,fR f,fR (fR f)]:=λ z=>no (by have:=rc _ z;rw [rrr h.m] at this;exact this)
   show ([f,fR f,fR (fR f)]++[fM f,fR (fM f),fR (fR (fM f))]).Nodup
   rw [jq5]
   refine ⟨n1,n2,λ a ha b hb e=>?_⟩
   rw [e] at ha
   simp only [ja6,jd2,or_false] at hb
   rcases hb with rfl | rfl | rfl
   ·exact no ha
   ·exact no2 ha
   ·exact no3 ha
theorem qj7 {f:Fo} (h:FOk f):f_is_even [bx f.1.1 f.1.2.1 f.1.2.2,tb f.2]=.ok (.bl (decide (fM f=f)),om,.non):=by
 rw [qml h.p h.a1 h.b1 h.c1]
 congr 3
 rw [je2,ja5,decide_eq_true_iff,decide_eq_true_iff,decide_eq_true_iff]
 obtain ⟨⟨a,b,c⟩,t⟩:=f
 constructor
 ·rintro ⟨h1,h2⟩
  have e:a=b:=Int.ofNat.inj h1
  subst e
  exact congrArg (Prod.mk _) h2
 ·intro e
  have e1:b=a:=congrArg (λ y:Fo=>y.1.1) e
  exact ⟨by show (a:Int)=b;rw [e1],congrArg Prod.snd e⟩
theorem qaq {f:Fo} (h:FOk f):f_is_round [bx f.1.1 f.1.2.1 f.1.2.2,tb f.2]=.ok (.bl (decide (fR f=f)),om,.non):=by
 rw [qhs h.p h.a1 h.b1 h.c1]
 congr 3
 rw [je2,ja5,ja5,decide_eq_true_iff,decide_eq_true_iff,decide_eq_true_iff,decide_eq_true_iff]
 obtain ⟨⟨a,b,c⟩,t⟩:=f
 constructor
 ·rintro ⟨⟨h1,h2⟩,h3⟩
  have e:a=b:=Int.ofNat.inj h1
  have e':b=c:=Int.ofNat.inj h2
  subst e e'
  exact congrArg (Prod.mk _) h3
 ·intro e
  have e1:b=a:=congrArg (λ y:Fo=>y.1.1) e
  have e2:c=b:=congrArg (λ y:Fo=>y.1.2.1) e
  exact ⟨⟨by show (a:Int)=b;rw [e1],by show (b:Int)=c;rw [e2]⟩,congrArg Prod.snd e⟩
theorem qdw {f:Fo} (h:FOk f):f_is_whole [bx f.1.1 f.1.2.1 f.1.2.2,tb f.2]=.ok (.bl (decide (fW f=f)),om,.non):=by
 rw [qdu h.p h.a1 h.b1 h.c1]
 congr 3
 rw [je2,decide_eq_true_iff,decide_eq_true_iff]
 obtain ⟨⟨a,b,c⟩,t⟩:=f
 exact ⟨λ e=>congrArg (Prod.mk _) e,λ e=>congrArg Prod.snd e⟩
end QV
namespace K53
open PySem PySem.Spec PyProof.Rows L2 QQ QV
theorem qqr {f:Fo} (h:FOk f):F16 [fP f]=.ok (fP (fM f),om,.non):=by
 obtain ⟨⟨a,b,c⟩,t⟩:=f
 obtain ⟨p,ha,hb,hc⟩:=h
 let R (s1 s2 s3 s4 s5:QQ.Slot):Rho:=[some (fP ((a,b,c),t),0),s1,s2,s3,s4,s5]
 let B:QQ.Slot:=some (bx a b c,0)
 let T:QQ.Slot:=some (tb t,0)
 have v1:sUnp (asgT [1,2]) (bVar 0) [0] (R none none none none none)=.nx (R B T none none none):=qbd (x:=fP ((a,b,c),t)) (d:=0) rfl rfl
 let I (n:Nat):QQ.Slot:=some (.int (n:Int),om)
 have v2:sUnp (asgT [3,4,5]) (bVar 1) [1] (R B T none none none)=.nx (R B T (I a) (I b) (I c)):=qbd (x:=bx a b c) (d:=0) rfl rfl
 have e:=zqf (F:=F8) (fa:=zqa (bVar 1) (zqa (bVar 2) (aNil))) (ρ:=R B T (I a) (I b) (I c)) (ρ1:=R B T (I a) (I b) (I c)) (xs:=[(bx a b c,0),(tb t,0)]) rfl (qjz p ⟨ha.1,jd5 ha.2 (by decide)⟩ ⟨hb.1,jd5 hb.2 (by decide)⟩ hc.1)
 exact zwn rfl (ρ':=R B T (I a) (I b) (I c)) ((zqg v1).trans ((zqg v2).trans (zxo (zxb (zqu (x:=bx b a c) (d:=om) rfl (zqr e)) rfl))))
theorem qoe {f:Fo} (h:FOk f):F17 [fP f]=.ok (fP (fR f),om,.non):=by
 obtain ⟨⟨a,b,c⟩,t⟩:=f
 obtain ⟨p,ha,hb,hc⟩:=h
 let R (s1 s2 s3 s4 s5:QQ.Slot):Rho:=[some (fP ((a,b,c),t),0),s1,s2,s3,s4,s5]
 let B:QQ.Slot:=some (bx a b c,0)
 let T:QQ.Slot:=some (tb t,0)
 have v1:sUnp (asgT [1,2]) (bVar 0) [0] (R none none none none none)=.nx (R B T none none none):=qbd (x:=fP ((a,b,c),t)) (d:=0) rfl rfl
 let I (n:Nat):QQ.Slot:=some (.int (n:Int),om)
 have v2:sUnp (asgT [3,4,5]) (bVar 1) [1] (R B T none none none)=.nx (R B T (I a) (I b) (I c)):=qbd (x:=bx a b c) (d:=0) rfl rfl
 have e:=zqf (F:=F10) (fa:=zqa (bVar 1) (zqa (bVar 2) (aNil))) (ρ:=R B T (I a) (I b) (I c)) (ρ1:=R B T (I a) (I b) (I c)) (xs:=[(bx a b c,0),(tb t,0)]) rfl (qjp p ⟨ha.1,jd5 ha.2 (by decide)⟩ ⟨hb.1,jd5 hb.2 (by decide)⟩ ⟨hc.1,jd5 hc.2 (by decide)⟩)
 exact zwn rfl (ρ':=R B T (I a) (I b) (I c)) ((zqg v1).trans ((zqg v2).trans (zxo (zxb (zqu (x:=bx b c a) (d:=om) rfl (zqr e)) rfl))))
def IB:Fs:=sIf (bT (bBin (opIn true) (bVar 6) (bVar 3))) (sApp 3 (bVar 6) [6]) sNil
variable {s0 s1 s2 s4 s5 s6:QQ.Slot}
theorem qjb {acc:List Fo}{x:Fo}{d3:Nat} (hd:d3=om\/d3=1) (hl:acc.length<=100):∃ d3',(d3'=om\/d3'=1)/\IB [s0,s1,s2,some (.lst (acc.map fP),d3),s4,s5,some (fP x,0)]=.nx [s0,s1,s2,some (.lst ((addN acc x).map fP),d3'),s4,s5,some (fP x,0)]:=by
 have z:=sz
 let R:Rho:=[s0,s1,s2,some (.lst (acc.map fP),d3),s4,s5,some (fP x,0)]
 have c:=qpn (neg:=true) (f:=bVar 6) (h:=bVar 3) (ρ:=R) (ρ1:=R) (ρ2:=R) (x:=x) (gs:=acc) (d:=0) (e:=0) rfl rfl
 unfold addN
 by_cases e:x∈acc
 ·rw [decide_eq_true e] at c
  rw [if_pos e]
  exact ⟨d3,hd,(if_f (t_ok c)).trans rfl⟩
 ·rw [decide_eq_false e] at c
  rw [if_neg e]
  refine ⟨1,.inr rfl,(if_t (t_ok c)).trans ?_⟩
  have em:(acc++[x]).map fP=acc.map fP++[fP x]:=by rw [jd3];rfl
  rw [em]
  rcases hd with rfl | rfl
  ·exact zpj (i:=3) (xs0:=acc.map fP) (d0:=999) (y:=fP x) (e:=0) (xs:=acc.map fP) (d:=om) rfl rfl rfl (by decide) (by rw [ja3];omega) rfl
  ·exact zpj (i:=3) (xs0:=acc.map fP) (d0:=0) (y:=fP x) (e:=0) (xs:=acc.map fP) (d:=1) rfl rfl rfl (by decide) (by rw [ja3];omega) rfl
theorem qm7 (acc:List Fo) (x:Fo):(addN acc x).length<=acc.length + 1:=by
 unfold addN
 split
 ·omega
 ·rw [jb4];exact jb2 _
theorem qif:∀ (L:List Fo) (acc:List Fo) (d3:Nat) (s6:QQ.Slot),(d3=om\/d3=1)->acc.length + L.length<=100->∃ d3' s6',(d3'=om\/d3'=1)/\zwb (asgN 6) IB (L.map fP) [s0,s1,s2,some (.lst (acc.map fP),d3),s4,s5,s6]=.nx [s0,s1,s2,some (.lst ((L.foldl addN acc).map fP),d3'),s4,s5,s6']
 | [],acc,d3,s6,hd,_=>⟨d3,s6,hd,rfl⟩
 | x::L,acc,d3,s6,hd,hl=>by
  rw [ja9] at hl
  obtain ⟨d1,h1,e1⟩:=qjb (s0:=s0) (s1:=s1) (s2:=s2) (s4:=s4) (s5:=s5) (acc:=acc) (x:=x) hd (by omega)
  have:=qm7 acc x
  obtain ⟨d2,s6',h2,e2⟩:=qif L (addN acc x) d1 (some (fP x,0)) h1 (by omega)
  refine ⟨d2,s6',h2,?_⟩
  rw [jb7]
  unfold zwb
  show (match IB [s0,s1,s2,some (.lst (acc.map fP),d3),s4,s5,some (fP x,0)] with
   | .nx ρ2=>zwb (asgN 6) IB (L.map fP) ρ2
   | .ct ρ2=>zwb (asgN 6) IB (L.map fP) ρ2
   | .bk ρ2=>.nx ρ2
   | .rt y e ρ2=>.rt y e ρ2
   | .exc c=>.exc c
   | .no=>.no)=_
  rw [e1]
  exact e2
def OB:Fs:=sSeq (sSet false 5 (zqe F17 (zqa (bVar 4) (aNil))) [4]) (zku (zqd zqy (zqa (bVar 4) (zqa (bVar 5) (zqa (zqe F17 (zqa (bVar 5) (aNil))) (aNil))))) [4,5,5] (asgN 6) IB)
theorem outer {acc:List Fo}{x:Fo}{d3:Nat} (h:FOk x) (hd:d3=om\/d3=1) (hl:acc.length<=50):∃ d3' s5' s6',(d3'=om\/d3'=1)/\OB [s0,s1,s2,some (.lst (acc.map fP),d3),some (fP x,0),s5,s6]=.nx [s0,s1,s2,some (.lst (([x,fR x,fR (fR x)].foldl addN acc).map fP),d3'),some (fP x,0),s5',s6']:=by
 let R (s5 s6:QQ.Slot):Rho:=[s0,s1,s2,some (.lst (acc.map fP),d3),some (fP x,0),s5,s6]
 have v1:sSet false 5 (zqe F17 (zqa (bVar 4) (aNil))) [4] (R s5 s6)=.nx (R (some (fP (fR x),om)) s6):=setF (zqf (xs:=[(fP x,0)]) rfl (qoe h)) (show 5 < 7 by decide) rfl
 let R1:Rho:=R (some (fP (fR x),om)) s6
 have e1:=zxb (op:=zqy) (zqu (f:=bVar 4) (x:=fP x) (d:=0) (ρ:=R1) rfl (zqu (f:=bVar 5) (x:=fP (fR x)) (d:=0) rfl (zqr (zqf (F:=F17) (fa:=zqa (bVar 5) (aNil)) (ρ1:=R1) (xs:=[(fP (fR x),0)]) rfl (qoe h.r))))) (z:=.lst ([x,fR x,fR (fR x)].map fP)) (c:=1) rfl
 obtain ⟨d3',s6',h3,e2⟩:=qif (s0:=s0) (s1:=s1) (s2:=s2) (s4:=some (fP x,0)) (s5:=some (fP (fR x),0)) [x,fR x,fR (fR x)] acc d3 s6 hd (by show _ + 3<=100;omega)
 refine ⟨d3',some (fP (fR x),0),s6',h3,(zqg v1).trans ?_⟩
 unfold zku
 rw [e1]
 exact e2
theorem qm5:b18=sSeq (zve (zqe F7 (zqa (bVar 0) (zqa (bVar 1) (aNil))))) (sSeq (sSet false 2 (zqd zxt (zqa (bVar 0) (zqa (zqe F12 (zqa (bVar 1) (aNil))) (aNil)))) [0,1]) (sSeq (sSet false 3 (zqd zqy (aNil)) []) (sSeq (zku (zqd zqy (zqa (bVar 2) (zqa (zqe F16 (zqa (bVar 2) (aNil))) (aNil)))) [2,2] (asgN 4) OB) (sRet (zqd zbo (zqa (bVar 3) (aNil))))))):=rfl
theorem qch {f:Fo} (h:FOk f):F18 [bx f.1.1 f.1.2.1 f.1.2.2,tb f.2]=.ok (.lst ((forms f).map fP),1,.non):=by
 rw [zyg f]
 have z:=sz
 obtain ⟨p,ha,hb,hc⟩:=id h
 have l:=p.tab.1
 let S (s2 s3 s4 s5 s6:QQ.Slot):Rho:=[some (bx f.1.1 f.1.2.1 f.1.2.2,0),some (tb f.2,0),s2,s3,s4,s5,s6]
 have v0:zve (zqe F7 (zqa (bVar 0) (zqa (bVar 1) (aNil)))) (S none none none none none)=.nx (S none none none none none):=zkz (zqf (xs:=[(bx f.1.1 f.1.2.1 f.1.2.2,0),(tb f.2,0)]) rfl (zwd p.tab (by omega) (by omega) (by omega) ((zvg p.tab).mpr p)))
 have v1:sSet false 2 (zqd zxt (zqa (bVar 0) (zqa (zqe F12 (zqa (bVar 1) (aNil))) (aNil)))) [0,1] (S none none none none none)=.nx (S (some (fP f,0)) none none none none):=setF (zxb (zqu (f:=bVar 0) (x:=bx f.1.1 f.1.2.1 f.1.2.2) (d:=0) rfl (zqr (zqf (F:=F12) (xs:=[(tb f.2,0)]) rfl (qip (by omega))))) (z:=fP f) (c:=0) rfl) (show 2 < 7 by decide) rfl
 let FF:QQ.Slot:=some (fP f,0)
 have v2:sSet false 3 (zqd zqy (aNil)) [] (S FF none none none none)=.nx (S FF (some (.lst (([]:List Fo).map fP),om)) none none none):=by rfl
 let R2:Rho:=S FF (some (.lst (([]:List Fo).map fP),om)) none none none
 have e3:=zxb (op:=zqy) (zqu (f:=bVar 2) (x:=fP f) (d:=0) (ρ:=R2) rfl (zqr (zqf (F:=F16) (fa:=zqa (bVar 2) (aNil)) (ρ1:=R2) (xs:=[(fP f,0)]) rfl (qqr h)))) (z:=.lst [fP f,fP (fM f)]) (c:=1) rfl
 obtain ⟨d1,t5,t6,h1,o1⟩:=outer (s0:=some (bx f.1.1 f.1.2.1 f.1.2.2,0)) (s1:=some (tb f.2,0)) (s2:=FF) (s5:=none) (s6:=none) (acc:=[]) (x:=f) (d3:=om) h (.inl rfl) (by decide)
 have l1:([f,fR f,fR (fR f)].foldl addN []).length<=3:=(qc3 [f,fR f,fR (fR f)] [] .nil).2.2
 obtain ⟨d2,u5,u6,h2,o2⟩:=outer (s0:=some (bx f.1.1 f.1.2.1 f.1.2.2,0)) (s1:=some (tb f.2,0)) (s2:=FF) (s5:=t5) (s6:=t6) (acc:=[f,fR f,fR (fR f)].foldl addN []) (x:=fM f) (d3:=d1) h.m h1 (by omega)
 have v3:zku (zqd zqy (zqa (bVar 2) (zqa (zqe F16 (zqa (bVar 2) (aNil))) (aNil)))) [2,2] (asgN 4) OB R2=.nx (S FF (some (.lst ((zpm (orb f)).map fP),d2)) (some (fP (fM f),0)) u5 u6):=by
  unfold zku
  rw [e3]
  show zwb (asgN 4) OB [fP f,fP (fM f)] (S FF (some (.lst (([]:List Fo).map fP),om)) none none none)=_
  unfold zwb
  show (match OB [some (bx f.1.1 f.1.2.1 f.1.2.2,0),some (tb f.2,0),FF,some (.lst (([]:List Fo).map fP),om),some (fP f,0),none,none] with
   | .nx ρ2=>zwb (asgN 4) OB [fP (fM f)] ρ2
   | .ct ρ2=>zwb (asgN 4) OB [fP (fM f)] ρ2
   | .bk ρ2=>.nx ρ2
   | .rt y e ρ2=>.rt y e ρ2
   | .exc c=>.exc c
   | .no=>.no)=_
  rw [o1]
  show zwb (asgN 4) OB [fP (fM f)] _=_
  unfold zwb
  show (match OB [some (bx f.1.1 f.1.2.1 f.1.2.2,0),some (tb f.2,0),FF,some (.lst (([f,fR f,fR (fR f)].foldl addN []).map fP),d1),some (fP (fM f),0),t5,t6] with
   | .nx ρ2=>zwb (asgN 4) OB [] ρ2
   | .ct ρ2=>zwb (asgN 4) OB [] ρ2
   | .bk ρ2=>.nx ρ2
   | .rt y e ρ2=>.rt y e ρ2
   | .exc c=>.exc c
   | .no=>.no)=_
  rw [o2]
  rfl
 obtain ⟨q1,q2,q3,q4⟩:=zyv (f:=f)
 have hF:F18=mkFn false 2 5 b18:=rfl
 rw [hF,qm5]
 refine zwn rfl ((zqg v0).trans ((zqg v1).trans ((zqg v2).trans ((zqg v3).trans (zxo (zxb (zqr (f:=bVar 3) (x:=.lst ((zpm (orb f)).map fP)) (d:=0) rfl) (qnz q1 q3 q4)))))))
theorem eq_b {neg x y:Bool}{f g:Fx}{ρ ρ1 ρ2:Rho}{d e:Nat} (h1:f ρ=.ok (.bl x,d,ρ1)) (h2:g ρ1=.ok (.bl y,e,ρ2)):bBin (opEq neg) f g ρ=.ok (.bl (neg^^(x == y)),om,ρ2):=by
 refine zxj h1 h2 ?_
 show some (PV.bl (neg^^vb1 (.bool x) (.bool y)),om)=_
 rw [vb1]
theorem qpw {neg:Bool}{f g:Fx}{ρ ρ1 ρ2:Rho}{xs ys:List Fo}{d e:Nat} (h1:f ρ=.ok (.lst (xs.map fP),d,ρ1)) (h2:g ρ1=.ok (.lst (ys.map fP),e,ρ2)):bBin (opEq neg) f g ρ=.ok (.bl (neg^^decide (xs=ys)),om,ρ2):=by
 refine zxj h1 h2 ?_
 have D:∀ zs:List Fo,toD 20 (.lst (zs.map fP))=some (.list (zs.map fD)):=λ zs=>by
  show (toDL (toD 19) (zs.map fP)).map PyData.list=_
  have one:∀ f:Fo,toD 19 (fP f)=some (fD f):=λ f=>by
   have row:∀ r:List Int,toDL (toD 16) (r.map PV.int)=some (r.map PyData.int):=λ r=>zwt (q:=PyData.int) (λ _=>rfl) r
   have rows:toDL (toD 17) (f.2.map il)=some (f.2.map dI):=zwt (q:=dI) (λ r=>by
    show (toDL (toD 16) (r.map PV.int)).map PyData.list=_
    rw [row]
    rfl) f.2
   have e2:toD 18 (tb f.2)=some (dT f.2):=by
    show (toDL (toD 17) (f.2.map il)).map PyData.list=_
    rw [rows]
    rfl
   show (toDL (toD 18) [bx f.1.1 f.1.2.1 f.1.2.2,tb f.2]).map PyData.tuple=_
   unfold toDL
   unfold toDL
   unfold toDL
   rw [e2]
   rfl
  rw [zwt (q:=fD) one zs]
  rfl
 unfold opEq
 rw [D,D]
 dsimp only
 rw [vb1,zzj qmn]
theorem qmv {d:Nat}{vs:List Nat}{ρ:Rho}:zxk d vs ρ=ρ\/zxk d vs ρ=cool vs 0 ρ:=by
 unfold zxk
 split
 ·exact .inl rfl
 ·exact .inr rfl
theorem ix0 {i:Nat}{x:Fo}{ρ:Rho} (h:bVar i ρ=.ok (fP x,0,ρ)):bBin zqb (bVar i) (bC (.int 0)) ρ=.ok (bx x.1.1 x.1.2.1 x.1.2.2,0,ρ):=zxj (op:=zqb) h (g:=bC (.int 0)) (y:=.int 0) (e:=om) rfl rfl
theorem ix1 {i:Nat}{x:Fo}{ρ:Rho} (h:bVar i ρ=.ok (fP x,0,ρ)):bBin zqb (bVar i) (bC (.int 1)) ρ=.ok (tb x.2,0,ρ):=zxj (op:=zqb) h (g:=bC (.int 1)) (y:=.int 1) (e:=om) rfl rfl
theorem qiy {f:Fx}{n:Nat}{t:List (List Int)}{ρ:Rho}{d:Nat} (hf:f ρ=.ok (tb t,d,ρ)) (hn:ρ.length=n) (hl:t.length<=1000):zqh f 1 (asgN n) zqj (zqd zzn (zqa (bVar n) (aNil))) ρ=.ok (tb t,om,ρ):=by
 have z:=sz
 have e:=zxi (n:=n) (enc:=il) (q:=il) (elt:=zqd zzn (zqa (bVar n) (aNil))) t hf hn (λ r hr=>by
  have hv:bVar n (ρ++[some (il r,dv (il r))])=.ok (il r,0,ρ++[some (il r,dv (il r))]):=by
   unfold bVar
   rw [jd4 (by omega),hn,jt6]
   rfl
  exact zxb (zqr hv) (by show some (PV.lst (r.map PV.int),d1 (r.map PV.int))=_;rw [zhn];rfl)) (by omega)
 exact e
theorem qgb {f:Fo} (h:FOk f):f.2.length<=1000:=by have:=h.p.tab.1;have:=h.a1;omega
theorem qmm {L:List Fo}{s1 s2:QQ.Slot} (ok:∀ x∈L,FOk x) (l6:L.length<=6):∃ d,sSet false 3 (zqh (bVar 0) 1 (asgN 4) (bT (zqe F13 (zqa (bBin zqb (bVar 4) (bC (.int 0))) (zqa (zqh (bBin zqb (bVar 4) (bC (.int 1))) 1 (asgN 5) zqj (zqd zzn (zqa (bVar 5) (aNil)))) (aNil))))) (bVar 4)) [0,0] [some (.lst (L.map fP),0),s1,s2,none]=.nx [some (.lst (L.map fP),0),s1,s2,some (.lst ((L.filter λ x=>decide (fM x=x)).map fP),d)]:=by
 have z:=sz
 let S:Rho:=[some (.lst (L.map fP),0),s1,s2,none]
 let T:Fb:=bT (zqe F13 (zqa (bBin zqb (bVar 4) (bC (.int 0))) (zqa (zqh (bBin zqb (bVar 4) (bC (.int 1))) 1 (asgN 5) zqj (zqd zzn (zqa (bVar 5) (aNil)))) (aNil))))
 have cl:=zzt (n:=4) (test:=T) (elt:=bVar 4) (enc:=fP) (q:=fP) (e:=λ _=>0) (p:=λ x=>decide (fM x=x)) L S [] rfl (λ x hx=>by
  let ρ:Rho:=S++[some (fP x,0)]
  exact t_ok (zqf (F:=F13) (zqu (ix0 (i:=4) (x:=x) (ρ:=ρ) rfl) (zqr (qiy (n:=5) (ix1 (i:=4) (x:=x) (ρ:=ρ) rfl) rfl (qgb (ok x hx))))) (qj7 (ok x hx)))) (λ x hx _=>rfl) (by show 0 + _<=_;omega)
 have cs:zqh (bVar 0) 1 (asgN 4) T (bVar 4) S=.ok (.lst ((L.filter λ x=>decide (fM x=x)).map fP),if zvv ((L.filter λ x=>decide (fM x=x)).map λ x=>(fP x,0)) then om else 1,S):=by
  have e0:bVar 0 S=.ok (.lst (L.map fP),0,S):=rfl
  unfold zqh
  rw [e0]
  dsimp only
  rw [cl]
  dsimp only [Rz.bindN]
  unfold zzw
  rw [ji3,jc2]
  rfl
 rcases qmv (d:=if zvv ((L.filter λ x=>decide (fM x=x)).map λ x=>(fP x,0)) then om else 1) (vs:=[0,0]) (ρ:=S) with cc | cc
 ·exact ⟨_,setF cs (show 3 < 4 by decide) (by rw [cc];rfl)⟩
 ·exact ⟨_,setF cs (show 3 < 4 by decide) (by rw [cc];rfl)⟩
theorem qic {f:Fo} (h:FOk f):F28 [.lst ((forms f).map fP),bx f.1.1 f.1.2.1 f.1.2.2,tb f.2]=.ok (.int ((forms f).length:Int),om,.non):=by
 have z:=sz
 let S (s3:QQ.Slot):Rho:=[some (.lst ((forms f).map fP),0),some (bx f.1.1 f.1.2.1 f.1.2.2,0),some (tb f.2,0),s3]
 have ok:∀ x∈forms f,FOk x:=λ x hx=>zgo h x (zzr.mp hx)
 have l6:(forms f).length<=6:=by
  obtain ⟨q1,q2,q3,q4⟩:=zyv (f:=f)
  rw [zyg,qbi q1 q3 q4]
  exact q4
 let ev:List Fo:=(forms f).filter λ x=>decide (fM x=x)
 have v0:=qmm (L:=forms f) (s1:=some (bx f.1.1 f.1.2.1 f.1.2.2,0)) (s2:=some (tb f.2,0)) ok l6
 obtain ⟨d,v0⟩:=v0
 let R:Rho:=S (some (.lst (ev.map fP),d))
 have t1:=t_ok (zqf (F:=F15) (fa:=zqa (bVar 1) (zqa (bVar 2) (aNil))) (ρ:=R) (ρ1:=R) (xs:=[(bx f.1.1 f.1.2.1 f.1.2.2,0),(tb f.2,0)]) rfl (qaq h))
 have e2:=zqf (F:=F13) (fa:=zqa (bVar 1) (zqa (bVar 2) (aNil))) (ρ:=R) (ρ1:=R) (xs:=[(bx f.1.1 f.1.2.1 f.1.2.2,0),(tb f.2,0)]) rfl (qj7 h)
 have e3:=qpw (neg:=true) (xs:=ev) (ys:=[]) (f:=bVar 3) (g:=zqd zqy (aNil)) (ρ:=R) (ρ1:=R) (ρ2:=R) (d:=0) (e:=om) rfl rfl
 have pick:∀ (i j:Int) (b:Bool) {g:Fx},g R=.ok (.bl b,om,R)->bBin zqb (zqd zqy (zqa (bC (.int i)) (zqa (bC (.int j)) (aNil)))) (zqd zbp (zqa g (aNil))) R=.ok (.int (if b then j else i),om,R):=λ i j b {g} hg=>zxj (op:=zqb) (f:=zqd zqy (zqa (bC (.int i)) (zqa (bC (.int j)) (aNil)))) (x:=.lst [.int i,.int j]) (d:=om) rfl (zxb (op:=zbp) (zqr hg) (z:=.int (if b then 1 else 0)) (c:=om) rfl) (by cases b <;> rfl)
 rw [many h]
 by_cases hr:fR f=f
 ·rw [decide_eq_true hr] at t1
  rw [if_pos hr]
  have q:=pick 2 1 _ e2
  refine zwn rfl (ρ':=R) ((zqg v0).trans (zpr ((if_t t1).trans (zxo ?_))))
  by_cases hm:fM f=f
  ·rw [decide_eq_true hm] at q
   rw [if_pos hm]
   exact q
  ·rw [decide_eq_false hm] at q
   rw [if_neg hm]
   exact q
 ·rw [decide_eq_false hr] at t1
  rw [if_neg hr]
  have q:=pick 6 3 _ e3
  refine zwn rfl (ρ':=R) ((zqg v0).trans ((zqg ((if_f t1).trans rfl)).trans (zxo ?_)))
  by_cases he:∃ x∈orb f,fM x=x
  ·rw [if_pos he]
   have ne:ev≠[]:=λ z=>by
    obtain ⟨x,hx,hm⟩:=he
    have:x∈ev:=jh3.mpr ⟨zzr.mpr hx,decide_eq_true hm⟩
    rw [z] at this
    cases this
   rw [decide_eq_false ne] at q
   exact q
  ·rw [if_neg he]
   have en:ev=[]:=by
    cases e:ev with
    | nil=>rfl
    | cons x r=>
     have:x∈ev:=by rw [e];exact ja4
     obtain ⟨h1,h2⟩:=jh3.mp this
     exact absurd ⟨x,zzr.mp h1,of_decide_eq_true h2⟩ he
   rw [decide_eq_true en] at q
   exact q
theorem qcp {a b c:Nat}{t:List (List Int)} (p:Pile a b c t):((zqi t a b).length:Int)=sumT t:=by
 rw [qaj p.tab]
 have row:∀ i,i < a->∀ n,n<=b->((rowC t i n).length:Int)=((ja2 n).map λ j=>g t i j).sum:=λ i hi n=>by
  induction n with
  | zero=>intro _;rfl
  | succ n ih=>
   intro hn
   rw [zbl,jb4,zht,jd7,jd3,je7,<- ih (by omega)]
   have:=p.lo i n hi (by omega)
   simp
   omega
 have all:∀ n,n<=a->((zqi t n b).length:Int)=((ja2 n).map λ i=>((ja2 b).map λ j=>g t i j).sum).sum:=λ n=>by
  induction n with
  | zero=>intro _;rfl
  | succ n ih=>
   intro hn
   rw [zya,jb4,jd7,jd3,je7,<- ih (by omega)]
   have:=row n (by omega) b (jb2 _)
   simp
   omega
 exact all a (jb2 _)
theorem qkh {f:Fx}{ρ ρ1:Rho}{cs:List C3}{d:Nat} (h:f ρ=.ok (ct cs,d,ρ1)):zqd zwh (zqa f (aNil)) ρ=.ok (.int (cs.length:Int),om,ρ1):=zxb (zqr h) (by show some (PV.int ((cs.map c3).length:Int),om)=_;rw [ja3])
def W0:Fs:=sIf (bT (bBin (opEq true) (zqe F18 (zqa (bVar 6) (zqa (zqh (bVar 7) 1 (asgN 8) zqj (zqd zzn (zqa (bVar 8) (aNil)))) (aNil)))) (bVar 5))) (sRet (bC (.bl false))) sNil
def W1:Fs:=sIf (bT (bBin (opEq true) (zqd zwh (zqa (zqe F23 (zqa (bVar 7) (aNil))) (aNil))) (zqd zwh (zqa (zqe F23 (zqa (bVar 4) (aNil))) (aNil))))) (sRet (bC (.bl false))) sNil
def W2:Fs:=sIf (bT (bOrV (bBin (opEq true) (zqe F15 (zqa (bVar 6) (zqa (bVar 7) (aNil)))) (zqe F15 (zqa (bVar 3) (zqa (bVar 4) (aNil))))) (bBin (opEq true) (zqe F14 (zqa (bVar 6) (zqa (bVar 7) (aNil)))) (zqe F14 (zqa (bVar 3) (zqa (bVar 4) (aNil))))))) (sRet (bC (.bl false))) sNil
def WB:Fs:=sSeq W0 (sSeq W1 W2)
def P0:Fs:=sSet false 2 (zqe F20 (zqa (zqe F19 (zqa (bVar 0) (zqa (bVar 1) (aNil)))) (zqa (bC (.int 46)) (aNil)))) [0,1]
def P1:Fs:=sSet false 3 (zqe F21 (zqa (bSl (bVar 2) (some (bC (.int 38))) (some (bC (.int 42)))) (aNil))) [2]
def P2:Fs:=sIf (bT (bBin (opEq false) (bBin zqn (bBin zqb (bVar 2) (bC (.int 43))) (bC (.int 2))) (bC (.int 0)))) (sSet false 3 (zqd zxt (zqa (bBin zqb (bVar 3) (bC (.int 0))) (zqa (bBin zqb (bVar 3) (bC (.int 0))) (zqa (bBin zqb (bVar 3) (bC (.int 0))) (aNil))))) [3,3,3]) sNil
def P3:Fs:=sSet false 4 (zqe F27 (zqa (bVar 3) (zqa (zqe F22 (zqa (bVar 3) (zqa (bVar 2) (aNil)))) (zqa (bBin zqn (bBin zqb (bVar 2) (bC (.int 42))) (bC (.int 6))) (aNil))))) [3,3,2,2]
def P4:Fs:=sIf (bT (bBin (opEq false) (bBin zqn (bBin zqb (bVar 2) (bC (.int 43))) (bC (.int 4))) (bC (.int 2)))) (sSet false 4 (zqe F27 (zqa (bVar 3) (zqa (bVar 4) (zqa (bC (.int 0)) (aNil))))) [3,4]) sNil
def P5:Fs:=sIf (bT (bBin (opEq false) (bBin zqn (bBin zqb (bVar 2) (bC (.int 43))) (bC (.int 8))) (bC (.int 2)))) (sSet false 4 (zqe F27 (zqa (bVar 3) (zqa (bVar 4) (zqa (bC (.int 1)) (aNil))))) [3,4]) sNil
def P6:Fs:=sSet false 5 (zqe F18 (zqa (bVar 3) (zqa (zqh (bVar 4) 1 (asgN 8) zqj (zqd zzn (zqa (bVar 8) (aNil)))) (aNil)))) [3,4,4]
def P7:Fs:=sIf (bT (bOrV (bUn zvp (bUn (zjk "list") (bVar 5))) (bBin (opIn true) (zqd zxt (zqa (bVar 3) (zqa (bVar 4) (aNil)))) (bVar 5)))) (sRet (bC (.bl false))) sNil
def P8:Fs:=sIf (bT (zwj (bBin (opEq false) (bBin zqb (bVar 3) (bC (.int 0))) (bBin zqb (bVar 3) (bC (.int 1)))) (zwj (bBin (opEq false) (bBin zqb (bVar 3) (bC (.int 1))) (bBin zqb (bVar 3) (bC (.int 2)))) (bBin (opEq true) (zqd zwh (zqa (bVar 5) (aNil))) (zqe F28 (zqa (bVar 5) (zqa (bVar 3) (zqa (bVar 4) (aNil))))))))) (sRet (bC (.bl false))) sNil
def P9:Fs:=zku (bVar 5) [5] (asgT [6,7]) WB
def LK:Fs:=sSeq P0 (sSeq P1 (sSeq P2 (sSeq P3 (sSeq P4 (sSeq P5 (sSeq P6 (sSeq P7 (sSeq P8 P9))))))))
theorem qm4:b29=sSeq (zvx zqz (zqa (zqd zkf (zqa (bC (.int 1)) (zqa (zqd zyu (zqa (zqd zwh (zqa (bVar 0) (aNil))) (zqa (bC (.int 8)) (aNil)))) (aNil)))) (aNil)) (asgN 1) LK) (sRet (bC (.bl true))):=rfl
theorem qmc {s0 s1 s2:QQ.Slot}{f x:Fo}{d3 d4:Nat} (h:FOk f) (hx:x∈orb f):WB [s0,s1,s2,some (bx f.1.1 f.1.2.1 f.1.2.2,d3),some (tb f.2,d4),some (.lst ((forms f).map fP),0),some (bx x.1.1 x.1.2.1 x.1.2.2,0),some (tb x.2,0)]=.nx [s0,s1,s2,some (bx f.1.1 f.1.2.1 f.1.2.2,d3),some (tb f.2,d4),some (.lst ((forms f).map fP),0),some (bx x.1.1 x.1.2.1 x.1.2.2,0),some (tb x.2,0)]:=by
 let R:Rho:=[s0,s1,s2,some (bx f.1.1 f.1.2.1 f.1.2.2,d3),some (tb f.2,d4),some (.lst ((forms f).map fP),0),some (bx x.1.1 x.1.2.1 x.1.2.2,0),some (tb x.2,0)]
 have xo:=zgo h x hx
 have e0:=zqf (F:=F18) (zqu (f:=bVar 6) (x:=bx x.1.1 x.1.2.1 x.1.2.2) (d:=0) (ρ:=R) rfl (zqr (qa6 (n:=8) (i:=7) (d:=0) (ρ:=R) rfl rfl (qgb xo)))) (qch xo)
 rw [qdm h hx] at e0
 have c0:=qpw (neg:=true) e0 (g:=bVar 5) (ys:=forms f) (e:=0) rfl
 rw [decide_eq_true rfl] at c0
 have v0:W0 R=.nx R:=(if_f (t_ok c0)).trans rfl
 have l1:=qkh (zqf (F:=F23) (fa:=zqa (bVar 7) (aNil)) (ρ:=R) (ρ1:=R) (xs:=[(tb x.2,0)]) rfl (zvm xo.p xo.a1.2 xo.b1.2 xo.c1.2))
 have l2:=qkh (zqf (F:=F23) (fa:=zqa (bVar 4) (aNil)) (ρ:=R) (ρ1:=R) (xs:=[(tb f.2,0)]) rfl (zvm h.p h.a1.2 h.b1.2 h.c1.2))
 have c1:=zky (neg:=true) l1 l2
 rw [decide_eq_true (by rw [qcp xo.p,qcp h.p];exact qgi h hx)] at c1
 have v1:W1 R=.nx R:=(if_f (t_ok c1)).trans rfl
 have r1:=zqf (F:=F15) (fa:=zqa (bVar 6) (zqa (bVar 7) (aNil))) (ρ:=R) (ρ1:=R) (xs:=[(bx x.1.1 x.1.2.1 x.1.2.2,0),(tb x.2,0)]) rfl (qaq xo)
 have r2:=zqf (F:=F15) (fa:=zqa (bVar 3) (zqa (bVar 4) (aNil))) (ρ:=R) (ρ1:=R) (xs:=[(bx f.1.1 f.1.2.1 f.1.2.2,0),(tb f.2,0)]) rfl (qaq h)
 have w1:=zqf (F:=F14) (fa:=zqa (bVar 6) (zqa (bVar 7) (aNil))) (ρ:=R) (ρ1:=R) (xs:=[(bx x.1.1 x.1.2.1 x.1.2.2,0),(tb x.2,0)]) rfl (qdw xo)
 have w2:=zqf (F:=F14) (fa:=zqa (bVar 3) (zqa (bVar 4) (aNil))) (ρ:=R) (ρ1:=R) (xs:=[(bx f.1.1 f.1.2.1 f.1.2.2,0),(tb f.2,0)]) rfl (qdw h)
 have q1:=eq_b (neg:=true) r1 r2
 have q2:=eq_b (neg:=true) w1 w2
 rw [show decide (fR x=x)=decide (fR f=f) from decide_eq_decide.mpr (zyc h hx),beq_self_eq_true] at q1
 rw [show decide (fW x=x)=decide (fW f=f) from decide_eq_decide.mpr (qdv h hx),beq_self_eq_true] at q2
 have v2:W2 R=.nx R:=(if_f (t_ok ((orF q1).trans q2))).trans rfl
 exact (zqg v0).trans ((zqg v1).trans v2)
theorem walk {s0 s1 s2:QQ.Slot}{f:Fo}{d3 d4:Nat} (h:FOk f):∀ (L:List Fo) (s6 s7:QQ.Slot),(∀ x∈L,x∈orb f)->∃ t6 t7,zwb (asgT [6,7]) WB (L.map fP) [s0,s1,s2,some (bx f.1.1 f.1.2.1 f.1.2.2,d3),some (tb f.2,d4),some (.lst ((forms f).map fP),0),s6,s7]=.nx [s0,s1,s2,some (bx f.1.1 f.1.2.1 f.1.2.2,d3),some (tb f.2,d4),some (.lst ((forms f).map fP),0),t6,t7]
 | [],s6,s7,_=>⟨s6,s7,rfl⟩
 | x::L,s6,s7,hL=>by
  obtain ⟨t6,t7,e⟩:=walk (s0:=s0) (s1:=s1) (s2:=s2) (d3:=d3) (d4:=d4) h L (some (bx x.1.1 x.1.2.1 x.1.2.2,0)) (some (tb x.2,0)) λ y hy=>hL y (ja1 _ hy)
  refine ⟨t6,t7,?_⟩
  rw [jb7]
  unfold zwb
  show (match WB [s0,s1,s2,some (bx f.1.1 f.1.2.1 f.1.2.2,d3),some (tb f.2,d4),some (.lst ((forms f).map fP),0),some (bx x.1.1 x.1.2.1 x.1.2.2,0),some (tb x.2,0)] with
   | .nx ρ2=>zwb (asgT [6,7]) WB (L.map fP) ρ2
   | .ct ρ2=>zwb (asgT [6,7]) WB (L.map fP) ρ2
   | .bk ρ2=>.nx ρ2
   | .rt y e ρ2=>.rt y e ρ2
   | .exc c=>.exc c
   | .no=>.no)=_
  rw [qmc h (hL x ja4)]
  exact e
theorem qkr {s0 s1 s2 s5 s6 s7:QQ.Slot}{f:Fo}{d3 d4:Nat} (h:FOk f):∃ t3 t4 t5 t6 t7,sSeq P6 (sSeq P7 (sSeq P8 P9)) [s0,s1,s2,some (bx f.1.1 f.1.2.1 f.1.2.2,d3),some (tb f.2,d4),s5,s6,s7]=.nx [s0,s1,s2,t3,t4,t5,t6,t7]:=by
 let S (d3 d4:Nat) (s5 s6 s7:QQ.Slot):Rho:=[s0,s1,s2,some (bx f.1.1 f.1.2.1 f.1.2.2,d3),some (tb f.2,d4),s5,s6,s7]
 let L (d:Nat):QQ.Slot:=some (.lst ((forms f).map fP),d)
 have v6:P6 (S d3 d4 s5 s6 s7)=.nx (S 0 0 (L 1) s6 s7):=by
  have q:=zqf (F:=F18) (zqu (f:=bVar 3) (x:=bx f.1.1 f.1.2.1 f.1.2.2) (d:=0) (ρ:=S d3 d4 s5 s6 s7) rfl (zqr (qa6 (n:=8) (i:=4) (d:=0) (ρ:=S d3 d4 s5 s6 s7) rfl rfl (qgb h)))) (qch h)
  exact setF q (show 5 < 8 by decide) rfl
 let R:Rho:=S 0 0 (L 1) s6 s7
 have w1:bUn zvp (bUn (zjk "list") (bVar 5)) R=.ok (.bl false,om,R):=by rfl
 have w2:=qpn (neg:=true) (x:=f) (gs:=forms f) (zxb (op:=zxt) (zqu (f:=bVar 3) (x:=bx f.1.1 f.1.2.1 f.1.2.2) (d:=0) (ρ:=R) rfl (zqr (f:=bVar 4) (x:=tb f.2) (d:=0) rfl)) (z:=fP f) (c:=0) rfl) (h:=bVar 5) (e:=0) rfl
 rw [decide_eq_true (show f∈forms f from zzr.mpr ja4)] at w2
 have v7:P7 R=.nx R:=(if_f (t_ok ((orF w1).trans w2))).trans rfl
 have ln:zqd zwh (zqa (bVar 5) (aNil)) R=.ok (.int ((forms f).length:Int),om,R):=zxb (zqr (f:=bVar 5) (x:=.lst ((forms f).map fP)) (d:=0) rfl) (by show some (PV.int (((forms f).map fP).length:Int),om)=_;rw [ja3])
 have my:=zqf (F:=F28) (fa:=zqa (bVar 5) (zqa (bVar 3) (zqa (bVar 4) (aNil)))) (ρ:=R) (ρ1:=R) (xs:=[(.lst ((forms f).map fP),0),(bx f.1.1 f.1.2.1 f.1.2.2,0),(tb f.2,0)]) rfl (qic h)
 have w3:=zky (neg:=true) ln my
 rw [decide_eq_true rfl] at w3
 have e1:=zky (neg:=false) (f:=bBin zqb (bVar 3) (bC (.int 0))) (g:=bBin zqb (bVar 3) (bC (.int 1))) (ρ:=R) (ρ1:=R) (ρ2:=R) (i:=(f.1.1:Int)) (j:=(f.1.2.1:Int)) (d:=om) (e:=om) rfl rfl
 have e2:=zky (neg:=false) (f:=bBin zqb (bVar 3) (bC (.int 1))) (g:=bBin zqb (bVar 3) (bC (.int 2))) (ρ:=R) (ρ1:=R) (ρ2:=R) (i:=(f.1.2.1:Int)) (j:=(f.1.2.2:Int)) (d:=om) (e:=om) rfl rfl
 have w4:=zvw e1 (λ _=>zvw e2 (λ _=>w3) rfl) rfl
 rw [show (true^^true)=false from rfl,jg1,jg1] at w4
 have v8:P8 R=.nx R:=(if_f (t_ok w4)).trans rfl
 obtain ⟨t6,t7,e9⟩:=walk (s0:=s0) (s1:=s1) (s2:=s2) (d3:=0) (d4:=0) h (forms f) s6 s7 λ x hx=>zzr.mp hx
 have v9:P9 R=.nx (S 0 0 (L 0) t6 t7):=e9
 exact ⟨_,_,_,_,_,(zqg v6).trans ((zqg v7).trans ((zqg v8).trans v9))⟩
theorem qq8 {ns:List Int}{k:Nat}{s2 s3 s4 s5 s6 s7:QQ.Slot}:∃ t2 t3 t4 t5 t6 t7,LK [some (.scr ns,om),some (.int (k:Int),om),s2,s3,s4,s5,s6,s7]=.nx [some (.scr ns,om),some (.int (k:Int),om),t2,t3,t4,t5,t6,t7]:=by
 have z:=sz
 let S (s2 s3 s4:QQ.Slot):Rho:=[some (.scr ns,om),some (.int (k:Int),om),s2,s3,s4,s5,s6,s7]
 obtain ⟨xs,hx,e1⟩:=qmw (ns.getD k 0) 46 (by omega)
 have v0:P0 (S s2 s3 s4)=.nx (S (some (il xs,om)) s3 s4):=setF (zqf (zqu (zqf (xs:=[(.scr ns,om),(.int (k:Int),om)]) rfl (qmz ns k)) (zqr (x:=.int 46) (d:=om) rfl)) e1) (show 2 < 8 by decide) rfl
 have ix:∀ (n:Nat) (ρ:Rho),n < 46->bVar 2 ρ=.ok (il xs,0,ρ)->bBin zqb (bVar 2) (bC (.int (n:Int))) ρ=.ok (.int (xs.getD n 0),om,ρ):=λ n ρ hn h=>zye (xs:=xs) (k:=(n:Int)) h rfl (zzc (by omega) (zxm (by rw [je8];omega)))
 let R1:Rho:=S (some (il xs,om)) s3 s4
 let ys:List Int:=(xs.drop 38).take 4
 have hy:ys.length=4:=by show ((xs.drop 38).take 4).length=4;rw [jd8,jn2,hx];decide
 obtain ⟨a0,b0,c0,ha0,hb0,hc0,e2⟩:=qm0 ys hy
 have sl:bSl (bVar 2) (some (bC (.int 38))) (some (bC (.int 42))) R1=.ok (il ys,om,R1):=by
  show Rz.ok (PV.lst (cutP (xs.map PV.int) (some ((38:Nat):Int)) (some ((42:Nat):Int))),d1 (cutP (xs.map PV.int) (some ((38:Nat):Int)) (some ((42:Nat):Int))),R1)=_
  have e:cutP (xs.map PV.int) (some ((38:Nat):Int)) (some ((42:Nat):Int))=ys.map PV.int:=by
   unfold cutP
   rw [HT.sIx_nat,HT.sIx_nat,ja3,hx,<- List.map_drop,<- jp9]
   rfl
  rw [e,zhn]
  rfl
 have v1:P1 R1=.nx (S (some (il xs,om)) (some (bx a0 b0 c0,om)) s4):=setF (zqf (zqr sl) e2) (show 3 < 8 by decide) rfl
 let R2:Rho:=S (some (il xs,om)) (some (bx a0 b0 c0,om)) s4
 have v2:∃ a b c:Nat,(1<=a/\a<=6)/\(1<=b/\b<=6)/\(1<=c/\c<=6)/\P2 R2=.nx (S (some (il xs,om)) (some (bx a b c,om)) s4):=by
  have tt:=t_ok (zky (neg:=false) (zwp (ix 43 R2 (by decide) rfl) (g:=bC (.int 2)) (j:=2) (e:=om) rfl (by decide)) (g:=bC (.int 0)) (j:=0) (e:=om) rfl)
  rw [jf3] at tt
  cases hd:decide (xs.getD 43 0 % 2=0) with
  | true=>
   rw [hd] at tt
   exact ⟨a0,a0,a0,ha0,ha0,ha0,(if_t tt).trans (setF (zxb (zqu (x:=.int (a0:Int)) (d:=om) rfl (zqu (x:=.int (a0:Int)) (d:=om) rfl (zqr (x:=.int (a0:Int)) (d:=om) rfl))) (z:=bx a0 a0 a0) (c:=om) rfl) (show 3 < 8 by decide) rfl)⟩
  | false=>rw [hd] at tt;exact ⟨a0,b0,c0,ha0,hb0,hc0,(if_f tt).trans rfl⟩
 obtain ⟨a,b,c,ha,hb,hc,v2⟩:=v2
 let R3:Rho:=S (some (il xs,om)) (some (bx a b c,om)) s4
 obtain ⟨t0,d0,p0,_,e3⟩:=qix xs (by omega) ha hb (show 1<=c/\c<=99 by omega)
 have m6:=zwp (ix 42 R3 (by decide) rfl) (g:=bC (.int 6)) (j:=6) (e:=om) rfl (by decide)
 obtain ⟨t1,d1',p1,e4⟩:=qgj (w:=xs.getD 42 0 % 6) p0 ha hb hc
 have v3:∃ d2 d3,P3 R3=.nx (S (some (il xs,d2)) (some (bx a b c,d3)) (some (tb t1,d1'))):=by
  have q:=zqf (F:=F27) (zqu (f:=bVar 3) (x:=bx a b c) (d:=0) (ρ:=R3) rfl (zqu (zqf (F:=F22) (fa:=zqa (bVar 3) (zqa (bVar 2) (aNil))) (ρ1:=R3) (xs:=[(bx a b c,0),(il xs,0)]) rfl e3) (zqr m6))) e4
  rcases qmv (d:=d1') (vs:=[3,3,2,2]) (ρ:=R3) with cl | cl
  ·exact ⟨om,om,setF q (show 4 < 8 by decide) (by rw [cl];rfl)⟩
  ·exact ⟨0,0,setF q (show 4 < 8 by decide) (by rw [cl];rfl)⟩
 obtain ⟨d2,d3,v3⟩:=v3
 have own:∀ (m v w:Int) (t:List (List Int)) (d3 d4:Nat),0 < m->Pile a b c t->∃ t' d3' d4',Pile a b c t'/\sIf (bT (bBin (opEq false) (bBin zqn (bBin zqb (bVar 2) (bC (.int 43))) (bC (.int m))) (bC (.int v)))) (sSet false 4 (zqe F27 (zqa (bVar 3) (zqa (bVar 4) (zqa (bC (.int w)) (aNil))))) [3,4]) sNil (S (some (il xs,d2)) (some (bx a b c,d3)) (some (tb t,d4)))=.nx (S (some (il xs,d2)) (some (bx a b c,d3')) (some (tb t',d4'))):=λ m v w t d3 d4 hm p=>by
  let R:Rho:=S (some (il xs,d2)) (some (bx a b c,d3)) (some (tb t,d4))
  have tt:=t_ok (zky (neg:=false) (zwp (ix 43 R (by decide) rfl) (g:=bC (.int m)) (j:=m) (e:=om) rfl hm) (g:=bC (.int v)) (j:=v) (e:=om) rfl)
  rw [jf3] at tt
  cases hd:decide (xs.getD 43 0 % m=v) with
  | false=>rw [hd] at tt;exact ⟨t,d3,d4,p,(if_f tt).trans rfl⟩
  | true=>
   rw [hd] at tt
   obtain ⟨t',d',p',e⟩:=qgj (w:=w) p ha hb hc
   have q:=zqf (F:=F27) (fa:=zqa (bVar 3) (zqa (bVar 4) (zqa (bC (.int w)) (aNil)))) (ρ:=R) (ρ1:=R) (xs:=[(bx a b c,0),(tb t,0),(.int w,om)]) rfl e
   rcases qmv (d:=d') (vs:=[3,4]) (ρ:=R) with cl | cl
   ·exact ⟨t',d3,d',p',(if_t tt).trans (setF q (show 4 < 8 by decide) (by rw [cl];rfl))⟩
   ·exact ⟨t',0,d',p',(if_t tt).trans (setF q (show 4 < 8 by decide) (by rw [cl];rfl))⟩
 obtain ⟨t2,d3,d4,p2,v4⟩:=own 4 2 0 t1 d3 d1' (by decide) p1
 obtain ⟨t,d3,d4,p,v5⟩:=own 8 2 1 t2 d3 d4 (by decide) p2
 obtain ⟨u3,u4,u5,u6,u7,vt⟩:=qkr (s0:=some (.scr ns,om)) (s1:=some (.int (k:Int),om)) (s2:=some (il xs,d2)) (s5:=s5) (s6:=s6) (s7:=s7) (f:=((a,b,c),t)) (d3:=d3) (d4:=d4) ⟨p,ha,hb,hc⟩
 exact ⟨_,_,_,_,_,_,(zqg v0).trans ((zqg v1).trans ((zqg v2).trans ((zqg v3).trans ((zqg v4).trans ((zqg v5).trans vt)))))⟩
theorem law_true:∀ ns:List Int,ns.length<=63->∃ d z,F29 [.scr ns]=.ok (.bl true,d,z):=by
 intro ns hns
 let R (s1 s2 s3 s4 s5 s6 s7:QQ.Slot):Rho:=[some (.scr ns,om),s1,s2,s3,s4,s5,s6,s7]
 have hF:F29=mkFn false 1 7 b29:=rfl
 rw [hF,qm4]
 let R0:Rho:=R none none none none none none none
 let N:Int:=ns.length
 have hm:∃ m:Nat,m<=8/\(zqa (zqd zkf (zqa (bC (.int 1)) (zqa (zqd zyu (zqa (zqd zwh (zqa (bVar 0) (aNil))) (zqa (bC (.int 8)) (aNil)))) (aNil)))) (aNil)) R0=.ok ([(.int (m:Int),om)],R0):=by
  refine ⟨(if (if (8:Int) < N then 8 else N) > 1 then (if (8:Int) < N then 8 else N) else 1).toNat,?_,?_⟩
  ·split <;> split <;> omega
  ·have e:((((if (if (8:Int) < N then 8 else N) > 1 then (if (8:Int) < N then 8 else N) else 1).toNat:Nat)):Int)=(if (if (8:Int) < N then 8 else N) > 1 then (if (8:Int) < N then 8 else N) else 1):=by
    split <;> split <;> omega
   rw [e]
   rfl
 obtain ⟨m,hm15,em⟩:=hm
 obtain ⟨ρ1,l1,r1,r2,r3,r4,r5,r6,r7,rfl⟩:=zvr (i:=1) (body:=LK) (en:=zqz) (ρ:=R0) (lo:=0) (hi:=(m:Int)) (λ _ ρ=>∃ s1 s2 s3 s4 s5 s6 s7,ρ=R s1 s2 s3 s4 s5 s6 s7) em (zxq (by omega) (by omega)) ⟨_,_,_,_,_,_,_,rfl⟩ (by
  rintro k ρ hk ⟨s1,s2,s3,s4,s5,s6,s7,rfl⟩
  obtain ⟨t2,t3,t4,t5,t6,t7,e⟩:=qq8 (ns:=ns) (k:=k) (s2:=s2) (s3:=s3) (s4:=s4) (s5:=s5) (s6:=s6) (s7:=s7)
  refine ⟨show 1 < 8 by decide,_,?_,some (.int (k:Int),om),t2,t3,t4,t5,t6,t7,rfl⟩
  rw [jh2]
  exact e)
 exact ⟨_,_,zwn rfl ((zqg l1).trans rfl)⟩
open PySem PySem.Spec PyProof.Rows L2 QQ
section
variable {P:vb0}{w:vc1}{K:Frag}{mg:Str->Option va2}
theorem c0:FnScope S0.N ["thing"] (zqc t0):={}
theorem c1:FnScope S1.N ["thing"] (zqc t1):={}
theorem c2:FnScope S2.N ["box"] (zqc t2):={}
theorem c3:FnScope S3.N ["thing","columns","height"] (zqc t3):={}
theorem c4:FnScope S4.N ["numbers"] (zqc t4):={}
theorem c5:FnScope S5.N ["table","j"] (zqc t5):={}
theorem c6:FnScope S6.N ["box","thing"] (zqc t6):={}
theorem c7:FnScope S7.N ["box","pile"] (zqc t7):={}
theorem c8:FnScope S8.N ["box","pile"] (zqc t8):={}
theorem c9:FnScope S9.N ["numbers","level"] (zqc t9):={}
theorem c10:FnScope S10.N ["box","pile"] (zqc t10):={}
theorem c11:FnScope S11.N ["box","pile"] (zqc t11):={}
theorem c12:FnScope S12.N ["pile"] (zqc t12):={}
theorem c13:FnScope S13.N ["box","pile"] (zqc t13):={}
theorem c14:FnScope S14.N ["box","pile"] (zqc t14):={}
theorem c15:FnScope S15.N ["box","pile"] (zqc t15):={}
theorem c16:FnScope S16.N ["form"] (zqc t16):={}
theorem c17:FnScope S17.N ["form"] (zqc t17):={}
theorem c18:FnScope S18.N ["box","pile"] (zqc t18):={}
theorem c19:FnScope S19.N ["script","k"] (zqc t19):={}
theorem c20:FnScope S20.N ["cell","many"] (zqc t20):={}
theorem c21:FnScope S21.N ["xs"] (zqc t21):={}
theorem c22:FnScope S22.N ["box","xs"] (zqc t22):={}
theorem c23:FnScope S23.N ["pile"] (zqc t23):={}
theorem c24:FnScope S24.N ["box","cubes"] (zqc t24):={}
theorem c25:FnScope S25.N ["box","pile","way"] (zqc t25):={}
theorem c26:FnScope S26.N ["box","pile"] (zqc t26):={}
theorem c27:FnScope S27.N ["box","pile","way"] (zqc t27):={}
theorem c28:FnScope S28.N ["forms","box","pile"] (zqc t28):={}
theorem c29:FnScope S29.N ["script"] (zqc t29):={}
theorem all_ok {fa:Addr} (G:Given dfs [] K mg) (hm:mg "law" = some (.ref fa)):
  ∃ fd:vd6,(∀ (s:va3) (u:va2),BindsTo s fd ⟨[u],[]⟩ [("script",u)])/\∀ base:Heap,FnOk P w K mg base (CXr P w K) 9 fa fd ["script"] (spF K false 1 F29):=by
 have hb:=G.bn
 have gx:=G.gx
 obtain ⟨a0,d0,m0,f0⟩:=G.df 0 _ _ rfl
 obtain ⟨a1,d1,m1,f1⟩:=G.df 1 _ _ rfl
 obtain ⟨a2,d2,m2,f2⟩:=G.df 2 _ _ rfl
 obtain ⟨a3,d3,m3,f3⟩:=G.df 3 _ _ rfl
 obtain ⟨a4,d4,m4,f4⟩:=G.df 4 _ _ rfl
 obtain ⟨a5,d5,m5,f5⟩:=G.df 5 _ _ rfl
 obtain ⟨a6,d6,m6,f6⟩:=G.df 6 _ _ rfl
 obtain ⟨a7,d7,m7,f7⟩:=G.df 7 _ _ rfl
 obtain ⟨a8,d8,m8,f8⟩:=G.df 8 _ _ rfl
 obtain ⟨a9,d9,m9,f9⟩:=G.df 9 _ _ rfl
 obtain ⟨a10,d10,m10,f10⟩:=G.df 10 _ _ rfl
 obtain ⟨a11,d11,m11,f11⟩:=G.df 11 _ _ rfl
 obtain ⟨a12,d12,m12,f12⟩:=G.df 12 _ _ rfl
 obtain ⟨a13,d13,m13,f13⟩:=G.df 13 _ _ rfl
 obtain ⟨a14,d14,m14,f14⟩:=G.df 14 _ _ rfl
 obtain ⟨a15,d15,m15,f15⟩:=G.df 15 _ _ rfl
 obtain ⟨a16,d16,m16,f16⟩:=G.df 16 _ _ rfl
 obtain ⟨a17,d17,m17,f17⟩:=G.df 17 _ _ rfl
 obtain ⟨a18,d18,m18,f18⟩:=G.df 18 _ _ rfl
 obtain ⟨a19,d19,m19,f19⟩:=G.df 19 _ _ rfl
 obtain ⟨a20,d20,m20,f20⟩:=G.df 20 _ _ rfl
 obtain ⟨a21,d21,m21,f21⟩:=G.df 21 _ _ rfl
 obtain ⟨a22,d22,m22,f22⟩:=G.df 22 _ _ rfl
 obtain ⟨a23,d23,m23,f23⟩:=G.df 23 _ _ rfl
 obtain ⟨a24,d24,m24,f24⟩:=G.df 24 _ _ rfl
 obtain ⟨a25,d25,m25,f25⟩:=G.df 25 _ _ rfl
 obtain ⟨a26,d26,m26,f26⟩:=G.df 26 _ _ rfl
 obtain ⟨a27,d27,m27,f27⟩:=G.df 27 _ _ rfl
 obtain ⟨a28,d28,m28,f28⟩:=G.df 28 _ _ rfl
 obtain ⟨a29,d29,m29,f29⟩:=G.df 29 _ _ rfl
 cases hm.symm.trans m29
 have B0:=f0.binds (ps:=["thing"]) λ _ _ _ _ _ _ us hl=>by obtain ⟨_,rfl⟩:=len1 hl;rfl
 have B1:=f1.binds (ps:=["thing"]) λ _ _ _ _ _ _ us hl=>by obtain ⟨_,rfl⟩:=len1 hl;rfl
 have B2:=f2.binds (ps:=["box"]) λ _ _ _ _ _ _ us hl=>by obtain ⟨_,rfl⟩:=len1 hl;rfl
 have B3:=f3.binds (ps:=["thing","columns","height"]) λ _ _ _ _ _ _ us hl=>by obtain ⟨_,_,_,rfl⟩:=len3 hl;rfl
 have B4:=f4.binds (ps:=["numbers"]) λ _ _ _ _ _ _ us hl=>by obtain ⟨_,rfl⟩:=len1 hl;rfl
 have B5:=f5.binds (ps:=["table","j"]) λ _ _ _ _ _ _ us hl=>by obtain ⟨_,_,rfl⟩:=len2 hl;rfl
 have B6:=f6.binds (ps:=["box","thing"]) λ _ _ _ _ _ _ us hl=>by obtain ⟨_,_,rfl⟩:=len2 hl;rfl
 have B7:=f7.binds (ps:=["box","pile"]) λ _ _ _ _ _ _ us hl=>by obtain ⟨_,_,rfl⟩:=len2 hl;rfl
 have B8:=f8.binds (ps:=["box","pile"]) λ _ _ _ _ _ _ us hl=>by obtain ⟨_,_,rfl⟩:=len2 hl;rfl
 have B9:=f9.binds (ps:=["numbers","level"]) λ _ _ _ _ _ _ us hl=>by obtain ⟨_,_,rfl⟩:=len2 hl;rfl
 have B10:=f10.binds (ps:=["box","pile"]) λ _ _ _ _ _ _ us hl=>by obtain ⟨_,_,rfl⟩:=len2 hl;rfl
 have B11:=f11.binds (ps:=["box","pile"]) λ _ _ _ _ _ _ us hl=>by obtain ⟨_,_,rfl⟩:=len2 hl;rfl
 have B12:=f12.binds (ps:=["pile"]) λ _ _ _ _ _ _ us hl=>by obtain ⟨_,rfl⟩:=len1 hl;rfl
 have B13:=f13.binds (ps:=["box","pile"]) λ _ _ _ _ _ _ us hl=>by obtain ⟨_,_,rfl⟩:=len2 hl;rfl
 have B14:=f14.binds (ps:=["box","pile"]) λ _ _ _ _ _ _ us hl=>by obtain ⟨_,_,rfl⟩:=len2 hl;rfl
 have B15:=f15.binds (ps:=["box","pile"]) λ _ _ _ _ _ _ us hl=>by obtain ⟨_,_,rfl⟩:=len2 hl;rfl
 have B16:=f16.binds (ps:=["form"]) λ _ _ _ _ _ _ us hl=>by obtain ⟨_,rfl⟩:=len1 hl;rfl
 have B17:=f17.binds (ps:=["form"]) λ _ _ _ _ _ _ us hl=>by obtain ⟨_,rfl⟩:=len1 hl;rfl
 have B18:=f18.binds (ps:=["box","pile"]) λ _ _ _ _ _ _ us hl=>by obtain ⟨_,_,rfl⟩:=len2 hl;rfl
 have B19:=f19.binds (ps:=["script","k"]) λ _ _ _ _ _ _ us hl=>by obtain ⟨_,_,rfl⟩:=len2 hl;rfl
 have B20:=f20.binds (ps:=["cell","many"]) λ _ _ _ _ _ _ us hl=>by obtain ⟨_,_,rfl⟩:=len2 hl;rfl
 have B21:=f21.binds (ps:=["xs"]) λ _ _ _ _ _ _ us hl=>by obtain ⟨_,rfl⟩:=len1 hl;rfl
 have B22:=f22.binds (ps:=["box","xs"]) λ _ _ _ _ _ _ us hl=>by obtain ⟨_,_,rfl⟩:=len2 hl;rfl
 have B23:=f23.binds (ps:=["pile"]) λ _ _ _ _ _ _ us hl=>by obtain ⟨_,rfl⟩:=len1 hl;rfl
 have B24:=f24.binds (ps:=["box","cubes"]) λ _ _ _ _ _ _ us hl=>by obtain ⟨_,_,rfl⟩:=len2 hl;rfl
 have B25:=f25.binds (ps:=["box","pile","way"]) λ _ _ _ _ _ _ us hl=>by obtain ⟨_,_,_,rfl⟩:=len3 hl;rfl
 have B26:=f26.binds (ps:=["box","pile"]) λ _ _ _ _ _ _ us hl=>by obtain ⟨_,_,rfl⟩:=len2 hl;rfl
 have B27:=f27.binds (ps:=["box","pile","way"]) λ _ _ _ _ _ _ us hl=>by obtain ⟨_,_,_,rfl⟩:=len3 hl;rfl
 have B28:=f28.binds (ps:=["forms","box","pile"]) λ _ _ _ _ _ _ us hl=>by obtain ⟨_,_,_,rfl⟩:=len3 hl;rfl
 refine ⟨d29,?_,λ base=>?_⟩
 ·obtain ⟨_,_,_,_,_,_,_,_,_,rfl,_,_⟩:=f29.ex
  exact λ s v=>.of_eq rfl
 have o0:FnOk P w K mg base (CXr P w K) 1 a0 d0 ["thing"] (spF K false 1 F0):=fnb S0 f0 c0 gx (zxc hb) h0
 have o1:FnOk P w K mg base (CXr P w K) 2 a1 d1 ["thing"] (spF K false 1 F1):=fnb S1 f1 c1 gx (gcs (zxc hb) m0 f0 B0 o0) h1
 have o2:FnOk P w K mg base (CXr P w K) 3 a2 d2 ["box"] (spF K false 1 F2):=fnb S2 f2 c2 gx (gcs (zxc hb) m1 f1 B1 o1) h2
 have o3:FnOk P w K mg base (CXr P w K) 2 a3 d3 ["thing","columns","height"] (spF K false 3 F3):=fnb S3 f3 c3 gx (gcs (zxc hb) m0 f0 B0 o0) h3
 have o4:FnOk P w K mg base (CXr P w K) 1 a4 d4 ["numbers"] (spF K false 1 F4):=fnb S4 f4 c4 gx (zxc hb) h4
 have o5:FnOk P w K mg base (CXr P w K) 1 a5 d5 ["table","j"] (spF K false 2 F5):=fnb S5 f5 c5 gx (zxc hb) h5
 have o6:FnOk P w K mg base (CXr P w K) 4 a6 d6 ["box","thing"] (spF K false 2 F6):=fnb S6 f6 c6 gx (gcs (gcs (gcs (gcs (zxc hb) m5 f5 B5 o5) m4 f4 B4 o4) m3 f3 B3 o3) m2 f2 B2 o2) h6
 have o7:FnOk P w K mg base (CXr P w K) 5 a7 d7 ["box","pile"] (spF K false 2 F7):=fnb S7 f7 c7 gx (gcs (zxc hb) m6 f6 B6 o6) h7
 have o8:FnOk P w K mg base (CXr P w K) 6 a8 d8 ["box","pile"] (spF K false 2 F8):=fnb S8 f8 c8 gx (gcs (gcs (zxc hb) m7 f7 B7 o7) m5 f5 B5 o5) h8
 have o9:FnOk P w K mg base (CXr P w K) 1 a9 d9 ["numbers","level"] (spF K false 2 F9):=fnb S9 f9 c9 gx (zxc hb) h9
 have o10:FnOk P w K mg base (CXr P w K) 6 a10 d10 ["box","pile"] (spF K false 2 F10):=fnb S10 f10 c10 gx (gcs (gcs (gcs (zxc hb) m9 f9 B9 o9) m7 f7 B7 o7) m5 f5 B5 o5) h10
 have o11:FnOk P w K mg base (CXr P w K) 6 a11 d11 ["box","pile"] (spF K false 2 F11):=fnb S11 f11 c11 gx (gcs (zxc hb) m7 f7 B7 o7) h11
 have o12:FnOk P w K mg base (CXr P w K) 1 a12 d12 ["pile"] (spF K false 1 F12):=fnb S12 f12 c12 gx (zxc hb) h12
 have o13:FnOk P w K mg base (CXr P w K) 7 a13 d13 ["box","pile"] (spF K false 2 F13):=fnb S13 f13 c13 gx (gcs (gcs (zxc hb) m8 f8 B8 o8) m7 f7 B7 o7) h13
 have o14:FnOk P w K mg base (CXr P w K) 7 a14 d14 ["box","pile"] (spF K false 2 F14):=fnb S14 f14 c14 gx (gcs (zxc hb) m11 f11 B11 o11) h14
 have o15:FnOk P w K mg base (CXr P w K) 7 a15 d15 ["box","pile"] (spF K false 2 F15):=fnb S15 f15 c15 gx (gcs (gcs (zxc hb) m10 f10 B10 o10) m7 f7 B7 o7) h15
 have o16:FnOk P w K mg base (CXr P w K) 7 a16 d16 ["form"] (spF K false 1 F16):=fnb S16 f16 c16 gx (gcs (zxc hb) m8 f8 B8 o8) h16
 have o17:FnOk P w K mg base (CXr P w K) 7 a17 d17 ["form"] (spF K false 1 F17):=fnb S17 f17 c17 gx (gcs (zxc hb) m10 f10 B10 o10) h17
 have o18:FnOk P w K mg base (CXr P w K) 8 a18 d18 ["box","pile"] (spF K false 2 F18):=fnb S18 f18 c18 gx (gcs (gcs (gcs (gcs (zxc hb) m17 f17 B17 o17) m16 f16 B16 o16) m12 f12 B12 o12) m7 f7 B7 o7) h18
 have o19:FnOk P w K mg base (CXr P w K) 1 a19 d19 ["script","k"] (spF K false 2 F19):=fnb S19 f19 c19 gx (zxc hb) h19
 have o20:FnOk P w K mg base (CXr P w K) 1 a20 d20 ["cell","many"] (spF K false 2 F20):=fnb S20 f20 c20 gx (zxc hb) h20
 have o21:FnOk P w K mg base (CXr P w K) 1 a21 d21 ["xs"] (spF K false 1 F21):=fnb S21 f21 c21 gx (zxc hb) h21
 have o22:FnOk P w K mg base (CXr P w K) 1 a22 d22 ["box","xs"] (spF K false 2 F22):=fnb S22 f22 c22 gx (zxc hb) h22
 have o23:FnOk P w K mg base (CXr P w K) 1 a23 d23 ["pile"] (spF K false 1 F23):=fnb S23 f23 c23 gx (zxc hb) h23
 have o24:FnOk P w K mg base (CXr P w K) 1 a24 d24 ["box","cubes"] (spF K false 2 F24):=fnb S24 f24 c24 gx (zxc hb) h24
 have o25:FnOk P w K mg base (CXr P w K) 2 a25 d25 ["box","pile","way"] (spF K false 3 F25):=fnb S25 f25 c25 gx (gcs (gcs (zxc hb) m24 f24 B24 o24) m23 f23 B23 o23) h25
 have o26:FnOk P w K mg base (CXr P w K) 1 a26 d26 ["box","pile"] (spF K false 2 F26):=fnb S26 f26 c26 gx (zxc hb) h26
 have o27:FnOk P w K mg base (CXr P w K) 3 a27 d27 ["box","pile","way"] (spF K false 3 F27):=fnb S27 f27 c27 gx (gcs (gcs (gcs (gcs (zxc hb) m26 f26 B26 o26) m25 f25 B25 o25) m24 f24 B24 o24) m23 f23 B23 o23) h27
 have o28:FnOk P w K mg base (CXr P w K) 8 a28 d28 ["forms","box","pile"] (spF K false 3 F28):=fnb S28 f28 c28 gx (gcs (gcs (zxc hb) m15 f15 B15 o15) m13 f13 B13 o13) h28
 exact fnb S29 f29 c29 gx (zzq (zzq (zzq (zzq (zzq (zzq (zzq (zzq (zzq (zzq (zxc hb) (by decide +kernel) zwl m28 f28 B28 rfl (o28.mono (by decide))) (by decide +kernel) zwl m27 f27 B27 rfl (o27.mono (by decide))) (by decide +kernel) zwl m23 f23 B23 rfl (o23.mono (by decide))) (by decide +kernel) zwl m22 f22 B22 rfl (o22.mono (by decide))) (by decide +kernel) zwl m21 f21 B21 rfl (o21.mono (by decide))) (by decide +kernel) zwl m20 f20 B20 rfl (o20.mono (by decide))) (by decide +kernel) zwl m19 f19 B19 rfl (o19.mono (by decide))) (by decide +kernel) zwl m18 f18 B18 rfl (o18.mono (by decide))) (by decide +kernel) zwl m15 f15 B15 rfl (o15.mono (by decide))) (by decide +kernel) zwl m14 f14 B14 rfl (o14.mono (by decide))) h29
end
end K53
open PySem PySem.W PyProof.Rows
set_option maxRecDepth 100000 in
set_option maxHeartbeats 0 in
theorem PySem.Challenge.cw_cornerpiles_k53_whole_six_or_fewer_holds : PySem.Challenge.rw_cornerpiles_k53_whole_six_or_fewer.Holds := by
 refine QQ.holds_by (l:=PySem.Challenge.rw_cornerpiles_k53_whole_six_or_fewer) (q:=K53.view) (loose:=K53.loose) (N:=20000) (k:=9) (n:=63) (ds:=K53.dfs) (xc:=[]) (F:=K53.F29) (x := "script") ?said rfl rfl (λ _=>rfl) K53.run (by rfl) (by rfl) (by rfl) (by rfl) (by decide +kernel) ⟨rfl,rfl,rfl,rfl,rfl,by decide +kernel⟩ ?hw rfl (by decide) rfl ⟨rfl,by decide,by decide,rfl⟩ (λ _ _ _ _ G hm=>K53.all_ok G hm) (λ _ _ _ ns hl hO hS=>QQ.sp_yes hO hS (K53.law_true ns hl))
 case said=>decide +kernel
 case hw=>w_witness2
