import PyProof.Rows.All
import Wide.All
import OpenK.AllK
import Wide.FinOn
import Lean
import PyProof.EqAt
import PyProof.EqKinds
import PyProof.TupleCall
import PySem.Challenge.RW_cornerpiles_k28_whole_three_roads
open PySem renaming wpAny_bind->va0,wpAny_pure->va1,Value->va2,Shared->va4,sizeLine->va6,starEach->va9,Program->vb0,wpAny->vb1,model->vb2,World->vb4,wpAny_newObj_type->vb5,compareOp->vb7,cellsFrom->vb9,Around->vc0,wpAny_truthy_bool->vc1,wpAny_dictEntries->vc2,mainGlobals->vc3,FuncData->vc5,sysModules->vc6,assignEach->vc7,NameKind->vc8,DictEntry->vd0,Scope->vd1,wpAny_callSpecial?_slot->vd3,wpAny_typeNameOfWhole_valiter->vd4,wpAny_typeNameOfWhole_keyiter->vd5,wpAny_call_entry->vd6,wpAny_passesOwn->vd8,intItems->ve4,mem_of_lookup->ve5,wpAny_typeNameOf_valiter->ve6,wpAny_typeNameOf_keyiter->ve7,wpAny_holding->vf1,wpAny_dictEpoch->vf2,tupleKind->vf3,binaryOp->vf4,wpAny_mono->vf6,wpAny_fieldsOf->vf7,bootBuiltins->vf9,backTo->vg0,behindInMarks->vg1,sliceBounds->vg2,wpAny_Call_Name_kw->vg5,tupleKind_room_in1->vg6,numAt->vh6,foldedSetIterable->vh7,Operator->vi1,wpAny_isInstance->vi4,wpAny_specialOf->vi6,wpAny_notOrdered_dict->vi7,wpAny_isOneOf_valiter->vi8,wpAny_isOneOf_keyiter->vi9,wpAny_execs_nil->vj0,rawInt->vj1,letOwnedTupleGo->vj2,entryOfKey->vj3,wpAny_setField->vj5,firstArgMember->vj6,wpAny_attempt->vj9,pyNext->vk1,Paired->vk2,relabel->vk5,codeAny->vk6,PyData->vl3,noFill_tuple_add->vl5,cLine->vl6,wpAny_field->vl9,valueAt->vm0,seqIndex_of->vm1,pushCells_keeps->vm2,importedModules->vm3,getItem->vm4,callerA->vm6,assign->vm7,PassesOwn->vn1,IsRangeIter->vn2,CmpOp->vn3,newFunctionEnv->vn6
open PySem.Heap renaming get?_push_of_some->va3,lt_size->va5,get?_push_size->va7,get?_update_self->vd9,get?_update_other->vf5,SameBut->vh1,size_push->vh3
open PySem.W renaming Frag->va8,kia_one->vb8,boot_heap->vc9,keepIn->ve2,fnOf->vg8,findIn->vh2,kitOne->vj7,hideAll_get->vj8,methodObj->vk7,boot_heap->vk8,instObj->vm8,lookIn->vn7,codeIn->vn8
open PyProof.Rows renaming callWith_type1->vb3,AllBare->vi3,subscriptTail->vk0,slot_tuple_getitem->vk9,envOfC->vm5
open Ne renaming symm->vb6
open PySem.Builtin.Dict_items renaming ownsTuple->vc4
open PySem.F renaming slot_dict_valueiterator_next->vd2,slot_dict_keyiterator_next->vd7,args_tuple_add_2->vh8,entry_tuple_add->vi0,slot_tuple_add->vi5,args_dict_valueiterator_next_1->vk4,entry_dict_valueiterator_next->vl1,args_dict_keyiterator_next_1->vl4,entry_dict_keyiterator_next->vl7
open PySem.Builtin.List renaming listExtendWith->ve0,listTooLong->vf0
open PySem.Builtin.Dict renaming showsAll->ve1,entriesForEmpty->vl8
open PySem.Builtin.Slice renaming slicePlaces->ve3,sliceAdjust->vh5,sliceApplied->vn5
open False renaming elim->ve8
open PySem.Builtin.Tuple renaming tupleExact->ve9,tupleHashOf->vh4
open PySem.PyData renaming canLay0->vf8,depth->vg9,eqv->vj4,canLayAll0->vl0,depthAll->vm9
open PySem.Heap.SameBut renaming update->vg3
open PySem.Builtin.Str renaming strSliceIndices->vg4
open PySem.Str renaming ofString->vg7
open PySem.Obj renaming data_mapFields->vh0,mapSeq->vh9,mapFields->vi2
open PySem.Calls renaming spliced_cons->vk3,spliced_nil->vl2,Name_function_global->vn4
open Prod.mk renaming inj->vn0
open List renaming mem_cons_of_mem->ja0,mem_cons_self->ja1,replicate->ja2,length_map->ja3,mem_append_right->ja5,getD_eq_getElem?_getD->ja6,mem_append_left->ja7,getElem?_eq_some_iff->ja9,range->jb0,length_append->jb1,length_cons->jb2,mem_singleton->jb4,size_toArray->jb5,mem_cons->jb6,map_cons->jb7,getElem?_set_ne->jc0,all_eq_true->jc1,getElem?_append_left->jc2,getElem?_eq_getElem->jc4,length_replicate->jc5,getElem?_set_self->jc6,getElem?_map->jc7,getElem?_replicate->jc8,mem_range->jd0,mem_append->jd2,getElem?_append_right->jd3,mem_map->jd4,getD_cons_succ->jd5,length_singleton->jd7,map_map->jd8,lookup_cons->jd9,getElem?_cons_succ->je0,nil_append->je2,map_append->je4,length_take->je5,length_range->je6,length_set->je8,not_mem_nil->je9,replicate_succ->jf1,getElem?_take_of_lt->jf2,length_eq_zero_iff->jf3,append_assoc->jf5,getElem?_eq_none->jf7,all_cons->jf9,mem_filter->jg1,cons_append->jg4,flatten_cons->jg7,range_succ->jg8,map_congr_left->jg9,filter_eq_self->jh0,filter_cons->jh1,set_cons_succ->jh2,append_nil->jh3,map_nil->jh4,find?_cons->jh6,flatMap_cons->jh8,getElem?_eq_none_iff->jh9,getElem_mem->ji0,filterMap_cons->ji1,getElem_of_mem->ji2,flatMap_append->ji3,mem_map_of_mem->ji4,nodup_cons->ji5,zip_cons_cons->ji7,take_of_length_le->ji9,filter_eq_nil_iff->jj0,reverse_cons->jj2,range'->jj3,length_drop->jj7,mem_flatMap->jj9,any_cons->jk0,take_succ_cons->jk2,length_reverse->jk3,getElem?_range->jk4,getD_cons_zero->jk8,mem_filterMap->jl0,drop_eq_getElem_cons->jl2,take_zero->jl3,getLast?_eq_getElem?->jl4,filter_congr->jl6,nodup_append->jl7,foldl_append->jl8,range'_succ->jm0,map_flatMap->jm1,drop_eq_nil_of_le->jm2,of_mem_zip->jm3,getElem?_reverse->jm5,length_zip->jm6,all_nil->jm7,range_eq_range'->jn0,replicate_zero->jn3,set_cons_zero->jn6,take_nil->jn8,sum_cons->jn9,findIdx?_cons->jo0,pairwise_cons->jo1,ext_getElem?->jo2,mem_range'_1->jo5,pairwise_map->jo6,getLast?_nil->jo7,flatten_nil->jp0,map_reverse->jp2,foldl_cons->jp3,forIn_cons->jp4,length_nil->jp6,filter_map->jp8,foldl->jq0,drop_nil->jq1,sum->jq2,set_nil->jq6,getD->jq8,sum_nil->jq9,map_set->jr2
open Bool renaming and_eq_true->ja4,false_ne_true->jb9,eq_iff_iff->je1,or_eq_true->je3,false_eq_true->je7,and_true->jk1,and_eq_true_iff->jm9,false_xor->jn2,or_false->jn5,not_eq_true'->jo3,eq_false_iff->jo4,and_false->jp9
open Nat renaming le_refl->ja8,lt_of_lt_of_le->jb3,ne_of_lt->jc9,le_trans->jd1,lt_irrefl->jd6,add_sub_cancel->jf4,le_of_succ_le->jf6,ne_of_gt->jg0,lt_succ_self->jg3,zero_le->jg5,mul_le_mul_right->jg6,lt_succ_of_lt->jj1,zero_add->jj4,eq_of_beq_eq_true->jj5,le_of_ble_eq_true->jj6,le_add_right->jj8,ble->jk5,min_eq_left->jk6,le_of_lt->jk9,succ_ne_zero->jl9,min_le_left->jm4,mul_le_mul->jn1,beq->jo8,succ_le_succ->jp1,le_succ->jp5,mul_assoc->jq3,succ_mul->jq5,lt_trans->jq7,sub_self->jr0,sub_zero->jr3,add_mul->jr4,one_mul->jr5,ble_eq->jr6
open Option renaming map_eq_some_iff->jb8,map_some->ji6,bind_eq_some_iff->ji8,isSome_map->jl5,isSome_some->jn7,getD_none->jo9
open Int renaming toNat_natCast->jc3,zero_add->jf8,natCast_add->jh7,natCast_mul->jk7,emod_lt_of_pos->jl1,emod_nonneg->jm8,le_antisymm->jp7,le_of_eq->jr1
open Array renaming length_toList->jf0,getElem?_eq_none->jg2,getElem?_toList->jh5,append_assoc->jn4,toList->jq4
set_option Elab.async false
set_option linter.all false
set_option maxRecDepth 100000
set_option autoImplicit false
set_option maxHeartbeats 2000000
namespace L2
open PySem PySem.Spec PyProof.Rows
def zjv (s:Stmt):Arguments:=match s with
 | .FunctionDef _ a _ _ _ _ _ _ _ _=>a
 | _=>{ posonlyargs:=[],args:=[],vararg:=none,kwonlyargs:=[],kw_defaults:=[],kwarg:=none,defaults:=[] }
def zqj (s:Stmt):List Stmt:=match s with
 | .FunctionDef _ _ b _ _ _ _ _ _ _=>b
 | _=>[]
def zqb (s:Stmt):vd1:=match s with
 | .FunctionDef _ _ _ _ _ _ sc _ _ _=>sc
 | _=>{ kind:=.function,names:=[],isGenerator:=false,isCoroutine:=false }
end L2
namespace QQ
open PySem PySem.Spec PySem.W PySem.Calls PyProof.Rows L2
abbrev Frag:=va8
def zvl:List Str:=["len","isinstance","all","max","min","tuple","list","range","int","bool","str","dict","sum","enumerate","zip","reversed","set","ValueError","sorted","abs"]
def zkh (tb:String->Option Builtin) (p:vb0) (w:vb4) (n₀:Nat) (ann:Option va2):Nat->SharedT->Thread->Option SharedT
 | 0,_,_=>none
 | n + 1,s,t=>match through t with
  | true=>some s
  | false=>match stepOk n₀ ann t with
   | false=>none
   | true=>match stepT (denote tb) p w s t with
    | some (s',t')=>zkh tb p w n₀ ann n s' t'
    | none=>none
def ofL:List Obj->Nat->BT->BT
 | [],_,t=>t
 | o::r,n,t=>ofL r (n + 1) (t.ins n o)
noncomputable def bootT (P:Params):BT:=ofL (vc9 P).objs.toList 0 .nil
noncomputable def bootS (P:Params) (os:OsState):SharedT:=⟨bootT P,(vc9 P).objs.size,(vc9 P).life,#[],boot_drawn,boot_toks,os⟩
def zhn {α:Type} (p q:vb0) (loose:List Str) (Xt:va4->Bool) (Yf:va4->α) (H:Heap) (s:va4):=
 ((staticsOk (vm3 p.main.body) H s.heap && namesBound p s.heap && gensDone s && laidKept H s.heap),openSeen q loose (vm3 p.main.body) Xt true s,Yf s)
def kof (h:Heap):Frag:=(jb0 h.objs.size).filterMap λ a=>(h.get? a).map λ o=>(a,o)
structure DefSeen where
 name:Str
 qual:Str
 params:Arguments
 body:FuncBody
 scope:vd1
 globals:Addr
 closure:List (Str×Addr)
 defaults:va2
 builtins:Addr
 code:Bool
def zhr (K:Frag) (x:Str):Option DefSeen:=match nsIn K vc3 x with
 | some (some (.ref g))=>(match K.lookup g with
  | some ⟨_,_,.func fd,_⟩=>some ⟨fd.name,fd.qualname,fd.params,fd.body,fd.scope,fd.globals,fd.closure,fd.defaults,fd.builtins,codeIn K fd.code x⟩
  | _=>none)
 | _=>none
def qe2 (x:Str) (st:Stmt):DefSeen:=⟨x,x,zjv st,.stmts (zqj st),zqb st,mainNs,[],.none,0,true⟩
def zjq (ds:List (Str×Stmt)) (xc:List Nat) (K:Frag):List (Option DefSeen)×List (Option (Option va2))×Bool:=
 (ds.map λ d=>zhr K d.1,zvl.map λ x=>nsIn K vc3 x,xc.isEmpty)
def zfg (ds:List (Str×Stmt)):List (Option DefSeen)×List (Option (Option va2))×Bool:=(ds.map λ d=>some (qe2 d.1 d.2),zvl.map λ _=>some none,true)
end QQ
namespace K28
open PySem PySem.Spec PyProof.Rows L2 QQ
def top (i:Nat):Stmt:=PySem.Challenge.pw_cornerpiles_k28_whole_three_roads.main.body.getD i (.Pass ⟨0,0,0,0⟩)
abbrev t0:Stmt:=top 4
abbrev t1:Stmt:=top 5
abbrev t2:Stmt:=top 6
abbrev t3:Stmt:=top 8
abbrev t4:Stmt:=top 10
abbrev t5:Stmt:=top 11
abbrev t6:Stmt:=top 12
abbrev t7:Stmt:=top 13
abbrev t8:Stmt:=top 14
abbrev t9:Stmt:=top 15
abbrev t10:Stmt:=top 16
abbrev t11:Stmt:=top 18
abbrev t12:Stmt:=top 19
abbrev t13:Stmt:=top 20
abbrev t14:Stmt:=top 21
abbrev t15:Stmt:=top 22
abbrev t16:Stmt:=top 23
abbrev t17:Stmt:=top 24
abbrev t18:Stmt:=top 25
abbrev t19:Stmt:=top 26
abbrev t20:Stmt:=top 27
abbrev t21:Stmt:=top 28
abbrev t22:Stmt:=top 29
abbrev t23:Stmt:=top 31
abbrev t24:Stmt:=top 32
abbrev t25:Stmt:=top 33
abbrev t26:Stmt:=top 34
abbrev t27:Stmt:=top 35
abbrev t28:Stmt:=top 36
abbrev t29:Stmt:=top 37
abbrev t30:Stmt:=top 38
def dfs:List (Str×Stmt):=[(("is_whole_number" : Str),t0),(("is_box" : Str),t1),(("must_be_box" : Str),t2),(("places_of" : Str),t3),(("rows_of_heights" : Str),t4),(("added" : Str),t5),(("sums_of_lower_rows" : Str),t6),(("lies_between" : Str),t7),(("table_of_row" : Str),t8),(("tables_between" : Str),t9),(("tally_between" : Str),t10),(("tally_of_box" : Str),t11),(("count_by_rows" : Str),t12),(("how_many_texts" : Str),t13),(("row_without_first" : Str),t14),(("determinant" : Str),t15),(("count_by_ways" : Str),t16),(("numbers_above" : Str),t17),(("count_by_product" : Str),t18),(("by_cubes" : Str),t19),(("times_powers" : Str),t20),(("over_powers" : Str),t21),(("by_cubes_product" : Str),t22),(("_law_cell_at" : Str),t23),(("_law_mixed" : Str),t24),(("_law_box" : Str),t25),(("_law_turned" : Str),t26),(("_law_sums" : Str),t27),(("_law_product" : Str),t28),(("_law_powers" : Str),t29),(("law" : Str),t30)]
def view:vb0:={ PySem.Challenge.pw_cornerpiles_k28_whole_three_roads with main:={ PySem.Challenge.pw_cornerpiles_k28_whole_three_roads.main with body:=[t30] } }
def loose:List Str:=(PySem.Challenge.pw_cornerpiles_k28_whole_three_roads.main.scope.names.map λ x=>x.1).filter λ x=>!(x == ("law" : Str))
theorem run:∀ (w:PySem.World) (os:PySem.OsState),(zkh PySem.treeTable PySem.Challenge.rw_cornerpiles_k28_whole_three_roads.prog w (vk8 w.params).objs.size ((vk8 w.params).nsMap vc3 "__annotations__") 20000 (bootS w.params os) (PySem.W.topStub PySem.Challenge.rw_cornerpiles_k28_whole_three_roads.prog)).map (λ s=>zhn PySem.Challenge.rw_cornerpiles_k28_whole_three_roads.prog view loose (λ s=>PySem.W.xlAt view [] s && PySem.W.recOk (PySem.W.RowW.records PySem.Challenge.rw_cornerpiles_k28_whole_three_roads.row.toRowW) s) (λ s=>zjq dfs [] (kof s.heap)) (vk8 w.params) s.abs)=some (true,PySem.W.openGood view loose,zfg dfs):=λ w os=>by kernel_rfl
end K28
namespace L2
open PySem PySem.Spec PyProof.Rows
abbrev Key:=Sum Int Str
def qb4:Key->va2->Bool
 | .inl k,v=>Value.isInt k v
 | .inr x,v=>Value.isStrOf x v
def keyH (w:vb4):Key->Int
 | .inl k=>hashInt k
 | .inr x=>hashStr w x
theorem zxi:∀ {k:Key}{v:va2},qb4 k v=true->(∃ i t,k=Sum.inl i/\v=Value.int i t)\/(∃ x t,k=Sum.inr x/\v=Value.str x t)
 | .inl i,v,h=>by
  obtain ⟨t,e⟩:=Value.isInt_shape (k:=i) (v:=v) h;exact .inl ⟨i,t,rfl,e⟩
 | .inr x,v,h=>by
  obtain ⟨t,e⟩:=Value.isStrOf_shape (x:=x) (v:=v) h;exact .inr ⟨x,t,rfl,e⟩
theorem qeb (i:Int) (t:Tok):qb4 (.inl i) (.int i t)=true:=by simp [qb4,Value.isInt]
theorem qea (x:Str) (t:Tok):qb4 (.inr x) (.str x t)=true:=by simp [qb4,Value.isStrOf]
theorem qoc (a b:Int):decide ((Sum.inl a:Key)=Sum.inl b)=(a == b):=by
 by_cases e:a=b
 ·subst e;simp
 ·have h:¬ (Sum.inl a:Key)=Sum.inl b:=λ q=>e (Sum.inl.inj q);rw [decide_eq_false h];exact (beq_eq_false_iff_ne.mpr e).symm
theorem qn9 (a b:Str):decide ((Sum.inr a:Key)=Sum.inr b)=decide (a=b):=by
 by_cases e:a=b
 ·subst e;simp
 ·have h:¬ (Sum.inr a:Key)=Sum.inr b:=λ q=>e (Sum.inr.inj q);rw [decide_eq_false h,decide_eq_false e]
theorem qob (a:Int) (b:Str):decide ((Sum.inl a:Key)=Sum.inr b)=false:=decide_eq_false (λ q=>nomatch q)
theorem qoa (a:Str) (b:Int):decide ((Sum.inr a:Key)=Sum.inl b)=false:=decide_eq_false (λ q=>nomatch q)
def zxd (prog:vb0) (w:vb4):PySem.KeyKind prog w Key where
 is:=qb4
 hash:=keyH w
 inj:=λ v a b ha hb=>by
  rcases zxi ha with ⟨i,t,rfl,rfl⟩ | ⟨x,t,rfl,rfl⟩
  ·rcases zxi hb with ⟨j,u,rfl,e⟩ | ⟨y,u,rfl,e⟩
   ·injection e with e1 _;rw [e1]
   ·exact nomatch e
  ·rcases zxi hb with ⟨j,u,rfl,e⟩ | ⟨y,u,rfl,e⟩
   ·exact nomatch e
   ·injection e with e1 _;rw [e1]
 byValue:=λ k v h=>by
  rcases zxi h with ⟨i,t,rfl,rfl⟩ | ⟨x,t,rfl,rfl⟩ <;> rfl
 pyHash:=λ hv h=>by
  rcases zxi hv with ⟨i,t,rfl,rfl⟩ | ⟨x,t,rfl,rfl⟩
  ·exact wpAny_pyHash_int h
  ·exact wpAny_pyHash_str h
 eqBool:=λ hu hv h=>by
  rcases zxi hu with ⟨i,t,rfl,rfl⟩ | ⟨x,t,rfl,rfl⟩
  ·rcases zxi hv with ⟨j,u,rfl,rfl⟩ | ⟨y,u,rfl,rfl⟩
   ·rw [qoc] at h;exact wpAny_eqBool_int h
   ·rw [qob] at h;exact SeqAt.EqAt.int_str i t y u _ _ _ _ h
  ·rcases zxi hv with ⟨j,u,rfl,rfl⟩ | ⟨y,u,rfl,rfl⟩
   ·rw [qoa] at h;exact SeqAt.EqAt.str_int x t j u _ _ _ _ h
   ·rw [qn9] at h;exact wpAny_eqBool_str h
 «strs»:=λ k x t v h=>by
  rcases zxi h with ⟨i,u,rfl,e⟩ | ⟨y,u,rfl,e⟩
  ·exact nomatch e
  ·injection e with e1 _
   subst e1;cases v <;> rfl
theorem zha (prog:vb0) (w:vb4) (i:Int) (t:Tok):(zxd prog w).is (.inl i) (.int i t)=true:=qeb i t
theorem zgz (prog:vb0) (w:vb4) (x:Str) (t:Tok):(zxd prog w).is (.inr x) (.str x t)=true:=qea x t
inductive V where
 | non | bl (b:Bool) | int (i:Int) | str (x:Str) | byt (b:Array UInt8) | flt (b:UInt64) | ref (a:Addr) | ty (n:String)
 deriving DecidableEq
def RelV:V->va2->Prop
 | .non,u=>u=Value.none
 | .bl b,u=>u=Value.bool b
 | .int i,u=>∃ t,u=Value.int i t
 | .str x,u=>∃ t,u=Value.str x t
 | .byt b,u=>∃ t,u=Value.bytes b t
 | .flt b,u=>∃ t,u=Value.float b t
 | .ref a,u=>u=Value.ref a
 | .ty n,u=>u=Value.type n
abbrev Vals:List V->List va2->Prop:=vk2 RelV
theorem Vals.length {xs:List V}{us:List va2} (r:Vals xs us):xs.length=us.length:=Paired.length r
theorem Vals.get:∀ {xs:List V}{us:List va2}{i:Nat}{x:V},Vals xs us->xs[i]?=some x->∃ u,us[i]?=some u/\RelV x u
 | _,_,_,_,.nil,e=>by simp at e
 | _,_,0,_,.cons r _,e=>by simp at e;subst e;exact ⟨_,rfl,r⟩
 | _,_,i + 1,x,.cons _ t,e=>by
  obtain ⟨u,h1,h2⟩:=Vals.get (i:=i) (x:=x) t (by simpa using e);exact ⟨u,by simpa using h1,h2⟩
theorem Vals.set {x:V}{u:va2} (r:RelV x u):∀ {xs:List V}{us:List va2} (i:Nat),Vals xs us->Vals (xs.set i x) (us.set i u)
 | _,_,_,.nil=>.nil
 | _,_,0,.cons _ t=>.cons r t
 | _,_,i + 1,.cons q t=>.cons q (Vals.set r i t)
theorem Vals.append:∀ {xs ys:List V}{us ws:List va2},Vals xs us->Vals ys ws->Vals (xs++ys) (us++ws)
 | _,_,_,_,.nil,s=>s
 | _,_,_,_,.cons r t,s=>.cons r (Vals.append t s)
theorem Vals.take:∀ {xs:List V}{us:List va2} (n:Nat),Vals xs us->Vals (xs.take n) (us.take n)
 | _,_,0,_=>.nil
 | _,_,_ + 1,.nil=>.nil
 | _,_,n + 1,.cons r t=>.cons r (Vals.take n t)
theorem Vals.drop:∀ {xs:List V}{us:List va2} (n:Nat),Vals xs us->Vals (xs.drop n) (us.drop n)
 | _,_,0,r=>r
 | _,_,_ + 1,.nil=>.nil
 | _,_,n + 1,.cons _ t=>Vals.drop n t
def RelO:Option V->Option va2->Prop
 | some v,some u=>RelV v u
 | none,none=>True
 | _,_=>False
def KV {κ:Type}:List (κ×V)->List (κ×va2)->Prop:=vk2 λ (p:κ×V) (q:κ×va2)=>p.1=q.1/\RelV p.2 q.2
def kV:Key->V
 | .inl i=>.int i
 | .inr x=>.str x
inductive HO where
 | lst (xs:List V)
 | tup (xs:List V)
 | dK (kvs:List (Key×V)) | dT (kvs:List (List Key×V))
 | set (S:Int->Bool) (n:Nat)
 | ins (C dx:Addr) (fs:List (Str×V))
 | own (x:Addr)
 | xd (fs:List (Str×V))
 | met (f x:Addr)
 | rng (lo hi:Int)
 | frz (o:Obj) (u:HO)
 | tbl (ps:Array va2)
 | ext (φ:Heap->Prop)
abbrev Hp:=Addr->Option HO
def upd (H:Hp) (a:Addr) (o:HO):Hp:=λ b=>if b=a then some o else H b
theorem zqe {H:Hp}{a:Addr}{o:HO}:upd H a o a=some o:=by unfold upd;rw [if_pos rfl]
theorem zqg {H:Hp}{a b:Addr}{o:HO} (h:b≠a):upd H a o b=H b:=by unfold upd;rw [if_neg h]
theorem qpk {H:Hp}{a b:Addr}{o u:HO} (h:H a=some o) (h':H b=some u) (d:o≠u):a≠b:=by
 intro e;subst e;rw [h] at h';exact d (Option.some.inj h')
theorem zwm {H:Hp}{a b:Addr}{o:HO} (h:H a=some o) (h':H b=none):a≠b:=by
 intro e;subst e;rw [h] at h';cases h'
section
variable (P:vb0) (w:vb4)
def zxc (H:Hp) (h:Heap) (a:Addr):HO->Prop
 | .lst xs=>xs.length<=va6/\∃ (its:List va2) (n:Nat),Vals xs its/\h.get? a=some { cls:=.type "list",data:=.seq its.toArray n }
 | .tup xs=>xs.length<=va6/\∃ its:List va2,Vals xs its/\IsTup h a its.toArray
 | .dK kvs=>kvs.length<=va6/\(a == vc6)=false/\∃ vs,KV kvs vs/\h.DictOf (zxd P w) a vs
 | .dT kvs=>kvs.length<=va6/\(a == vc6)=false/\∃ xs:List (List Key×Addr×va2),
   vk2 (λ (p:List Key×V) (q:List Key×Addr×va2)=>p.1=q.1/\H q.2.1=some (.tup (p.1.map kV))/\RelV p.2 q.2.2) kvs xs /\
   ∃ o es ep,h.get? a=some o/\o.ExactDict/\o.data=.dict es ep/\es.toList=xs.map (vj3 (vf3 (zxd P w)))/\(xs.map (·.1)).Nodup
 | .set S n=>h.SetOf (intKind P w) a S n
 | .ins C dx fs=>H dx=some (.own a)/\fs.length<=1000/\dx≠a/\h.get? a=some (vm8 C dx) /\
   ∃ mA,h.Ns1 dx mA/\(∀ f,RelO (fs.lookup f) (mA f))/\PySem.Within mA (fs.map (·.1))
 | .own _=>∃ o,h.get? a=some o
 | .xd fs=>∃ mA,h.Ns1 a mA/\∀ f,RelO (fs.lookup f) (mA f)
 | .rng lo hi=>∃ t u v,h.get? a=some { cls:=.type "range",data:=.fields #[.int lo t,.int hi u,.int 1 v] }
 | .frz o u=>h.get? a=some o/\zxc H h a u
 | .tbl ps=>h.get? a=some { cls:=.none,data:=.fields ps }
 | .met f x=>h.get? a=some (vk7 (.ref f) (.ref x))
 | .ext φ=>φ h/\(∃ o,h.get? a=some o)/\∀ h1 h2:Heap,φ h1->(∀ o,h1.get? a=some o->h2.get? a=some o)->φ h2
def HOk (H:Hp) (h:Heap):Prop:=∀ a o,H a=some o->zxc P w H h a o
end
section
variable {P:vb0}{w:vb4}{H H':Hp}{h h':Heap}{a:Addr}{o:HO}
theorem zxc.lt (x:zxc P w H h a o):a < h.objs.size:=by
 cases o with
 | lst xs=>obtain ⟨_,_,_,_,e⟩:=x;exact va5 e
 | tup xs=>obtain ⟨_,_,_,p⟩:=x;exact p.lt
 | dK kvs=>obtain ⟨_,_,_,_,o,_,_,e,_⟩:=x;exact va5 e
 | dT kvs=>obtain ⟨_,_,_,_,o,_,_,e,_⟩:=x;exact va5 e
 | set S n=>obtain ⟨o,_,_,_,e,_⟩:=x;exact va5 e
 | ins C dx fs=>obtain ⟨_,_,_,e,_⟩:=x;exact va5 e
 | own y=>obtain ⟨_,e⟩:=x;exact va5 e
 | xd fs=>obtain ⟨_,⟨_,_,_,e,_⟩,_⟩:=x;exact va5 e
 | rng lo hi=>obtain ⟨_,_,_,e⟩:=x;exact va5 e
 | frz ob u=>obtain ⟨e,_⟩:=x;exact va5 e
 | tbl ps=>exact va5 (show h.get? a=some _ from x)
 | met f y=>exact va5 (show h.get? a=some _ from x)
 | ext φ=>obtain ⟨_,⟨_,e⟩,_⟩:=x;exact va5 e
theorem Paired.mapP {α β:Type}{F G:α->β->Prop}:∀ {l₁:List α}{l₂:List β},vk2 F l₁ l₂->(∀ a b,F a b->G a b)->vk2 G l₁ l₂
 | _,_,.nil,_=>.nil
 | _,_,.cons r t,f=>.cons (f _ _ r) (Paired.mapP t f)
theorem zxc.stay (x:zxc P w H h a o) (k:∀ b u,(b=a\/H b=some (.own a))->h.get? b=some u->h'.get? b=some u)
  (ho:∀ b,H b=some (.own a)->H' b=some (.own a)) (ht:∀ b xs,H b=some (.tup xs)->H' b=some (.tup xs)):zxc P w H' h' a o:=by
 induction o with
 | lst xs=>obtain ⟨z,its,n,r,e⟩:=x;exact ⟨z,its,n,r,k _ _ (.inl rfl) e⟩
 | tup xs=>obtain ⟨z,its,r,ob,e,c⟩:=x;exact ⟨z,its,r,ob,k _ _ (.inl rfl) e,c⟩
 | dK kvs=>obtain ⟨z,y,vs,r,ob,es,ep,e,c⟩:=x;exact ⟨z,y,vs,r,ob,es,ep,k _ _ (.inl rfl) e,c⟩
 | dT kvs=>
  obtain ⟨z,y,xs,r,ob,es,ep,e,c⟩:=x;exact ⟨z,y,xs,Paired.mapP r λ p q z=>⟨z.1,ht _ _ z.2.1,z.2.2⟩,ob,es,ep,k _ _ (.inl rfl) e,c⟩
 | set S n=>obtain ⟨ob,es,ep,t,e,c⟩:=x;exact ⟨ob,es,ep,t,k _ _ (.inl rfl) e,c⟩
 | ins C dx fs=>
  obtain ⟨d,z,ne,e,mA,⟨od,es,ep,e2,c⟩,r⟩:=x;exact ⟨ho _ d,z,ne,k _ _ (.inl rfl) e,mA,⟨od,es,ep,k _ _ (.inr d) e2,c⟩,r⟩
 | own y=>obtain ⟨ob,e⟩:=x;exact ⟨ob,k _ _ (.inl rfl) e⟩
 | xd fs=>obtain ⟨mA,⟨od,es,ep,e,c⟩,r⟩:=x;exact ⟨mA,⟨od,es,ep,k _ _ (.inl rfl) e,c⟩,r⟩
 | rng lo hi=>obtain ⟨t,u,v,e⟩:=x;exact ⟨t,u,v,k _ _ (.inl rfl) e⟩
 | frz ob u ih=>obtain ⟨e,q⟩:=x;exact ⟨k _ _ (.inl rfl) e,ih q⟩
 | tbl ps=>
  have e:h.get? a=some { cls:=.none,data:=.fields ps }:=x;show h'.get? a=some { cls:=.none,data:=.fields ps };exact k a _ (.inl rfl) e
 | met f y=>
  have e:h.get? a=some (vk7 (.ref f) (.ref y)):=x;show h'.get? a=some (vk7 (.ref f) (.ref y));exact k a _ (.inl rfl) e
 | ext φ=>obtain ⟨p,⟨o,e⟩,st⟩:=x;exact ⟨st _ _ p λ o q=>k _ _ (.inl rfl) q,⟨o,k _ _ (.inl rfl) e⟩,st⟩
theorem HOk.lt (x:HOk P w H h) (e:H a=some o):a < h.objs.size:=(x a o e).lt
theorem HOk.fresh (x:HOk P w H h) (e:h.objs.size<=a):H a=none:=by
 cases q:H a with
 | none=>rfl
 | some u=>exact absurd (jb3 (x.lt q) e) (jd6 _)
theorem HOk.kept (x:HOk P w H h) (k:∀ b u,h.get? b=some u->h'.get? b=some u):HOk P w H h':=λ a o e=>
 (x a o e).stay (λ b u _ q=>k b u q) (λ _ q=>q) λ _ _ q=>q
theorem HOk.laid (x:HOk P w H h) (k:∀ b u,h.get? b=some u->h'.get? b=some u) (hp:h.objs.size<=a) (new:zxc P w (upd H a o) h' a o):HOk P w (upd H a o) h':=λ b u e=>by
 have hn:=x.fresh hp;by_cases hb:b=a
 ·subst hb;rw [zqe] at e;cases e;exact new
 ·rw [zqg hb] at e;exact (x b u e).stay (λ c v _ q=>k c v q) (λ c q=>by rw [zqg (zwm q hn)];exact q) λ c xs q=>by rw [zqg (zwm q hn)];exact q
end
def Rd (H:Hp) (a:Addr) (u:HO):Prop:=H a=some u\/∃ o,H a=some (.frz o u)
theorem Rd.ok {P:vb0}{w:vb4}{H:Hp}{h:Heap}{a:Addr}{u:HO} (r:Rd H a u) (x:HOk P w H h):zxc P w H h a u:=by
 rcases r with r | ⟨o,r⟩
 ·exact x a u r
 ·obtain ⟨_,q⟩:=x a _ r;exact q
def Mut:Option HO->Prop
 | some (.lst _)=>True
 | some (.dK _)=>True
 | some (.dT _)=>True
 | some (.set _ _)=>True
 | some (.ins _ _ _)=>True
 | some (.ext _)=>True
 | _=>False
section
variable {P:vb0}{w:vb4}{H:Hp}{h h':Heap}{x e:Addr}{o':HO}
theorem HOk.write (ok:HOk P w H h) (mu:Mut (H x)) (he:e=x\/H e=some (.own x)) (k:∀ b u,b≠e->h.get? b=some u->h'.get? b=some u) (heo:∃ u,h'.get? e=some u)
  (new:zxc P w (upd H x o') h' x o'):HOk P w (upd H x o') h':=λ b u q=>by
 have nown:∀ c y,H c=some (.own y)->c≠x:=λ c y r z=>by subst z;rw [r] at mu;exact mu
 have ntup:∀ c xs,H c=some (.tup xs)->c≠x:=λ c xs r z=>by subst z;rw [r] at mu;exact mu
 by_cases hb:b=x
 ·subst hb;rw [zqe] at q;cases q;exact new
 ·rw [zqg hb] at q;by_cases hbe:b=e
  ·have q':H b=some (.own x):=by
    rcases he with z | z
    ·exact absurd (hbe.trans z) hb
    ·rw [hbe];exact z
   rw [q] at q';cases q';obtain ⟨v,hv⟩:=heo;exact ⟨v,by rw [hbe];exact hv⟩
  ·refine (ok b u q).stay (λ c v hc r=>k c v ?_ r) (λ c r=>by rw [zqg (nown c b r)];exact r) λ c xs r=>by rw [zqg (ntup c xs r)];exact r
   rcases hc with rfl | hc
   ·exact hbe
   ·rintro rfl;rcases he with z | z
    ·exact nown c b hc z
    ·rw [hc] at z;cases z;exact hb rfl
end
structure Un (fs ex:List Addr) (H H':Hp) (h h':Heap):Prop where
 keep:∀ b o,h.get? b=some o->H b=none->b∉fs->b∉ex->h'.get? b=some o
 slot:∀ b o,h.get? b=some o->H b=none->b∈fs->b∉ex->∃ sl,h'.get? b=some { o with slots:=sl }
 free:∀ b o,h.get? b=some o->H b=none->b∉ex->H' b=none
 there:∀ b o,h.get? b=some o->b∉ex->∃ o',h'.get? b=some o'
 tups:∀ b xs,H b=some (.tup xs)->H' b=some (.tup xs)
 frzs:∀ b o u,H b=some (.frz o u)->H' b=some (.frz o u)
 tbls:∀ b ps,H b=some (.tbl ps)->∃ more,H' b=some (.tbl (ps++more))
section
variable {fs fs' ex ex':List Addr}{H H1 H2:Hp}{h h1 h2 h':Heap}{a x e:Addr}{o:HO}
theorem Un.any (u:Un fs ex H H1 h h1) {b:Addr}{ob:Obj} (q:h.get? b=some ob) (n:H b=none) (hx:b∉ex):∃ sl,h1.get? b=some { ob with slots:=sl }:=by
 by_cases hb:b∈fs
 ·exact u.slot b ob q n hb hx
 ·exact ⟨ob.slots,u.keep b ob q n hb hx⟩
theorem Un.kept (k:∀ b u,h.get? b=some u->h'.get? b=some u):Un fs ex H H h h':=
 ⟨λ b ob q _ _ _=>k b ob q,λ b ob q _ _ _=>⟨ob.slots,k b ob q⟩,λ _ _ _ n _=>n,λ b ob q _=>⟨ob,k b ob q⟩,λ _ _ q=>q,λ _ _ _ q=>q,λ _ ps q=>⟨#[],by rw [q];simp⟩⟩
theorem Un.refl:Un fs ex H H h h:=Un.kept λ _ _ q=>q
theorem Un.laid (k:∀ b u,h.get? b=some u->h'.get? b=some u) (hp:h.objs.size<=a) (hn:H a=none):Un fs ex H (upd H a o) h h' where
 keep:=λ b u q _ _ _=>k b u q
 slot:=λ b u q _ _ _=>⟨u.slots,k b u q⟩
 free:=λ b u q n _=>by rw [zqg (jc9 (jb3 (va5 q) hp))];exact n
 there:=λ b u q _=>⟨u,k b u q⟩
 tups:=λ b xs q=>by rw [zqg (zwm q hn)];exact q
 frzs:=λ b u xs q=>by rw [zqg (zwm q hn)];exact q
 tbls:=λ b ps q=>⟨#[],by rw [zqg (zwm q hn),q];simp⟩
theorem Un.write (mu:Mut (H x)) (he:e=x\/H e=some (.own x)) (k:∀ b u,b≠e->h.get? b=some u->h'.get? b=some u) (heo:∃ u,h'.get? e=some u):Un fs ex H (upd H x o) h h':=by
 have hx:∀ b,H b=none->b≠x:=λ b n z=>by subst z;rw [n] at mu;exact mu
 have hb:∀ b,H b=none->b≠e:=λ b n z=>by
  subst z;rcases he with r | r
  ·exact hx b n r
  ·rw [n] at r;cases r
 have hm:∀ b u,H b=some u->¬ Mut (some u)->b≠x:=λ b u q nm z=>by subst z;rw [q] at mu;exact nm mu
 refine ⟨λ b u q n _ _=>k b u (hb b n) q,λ b u q n _ _=>⟨u.slots,k b u (hb b n) q⟩,λ b u q n _=>by rw [zqg (hx b n)];exact n,λ b u q _=>?_,
  λ b xs q=>by rw [zqg (hm b _ q λ z=>z)];exact q,λ b u xs q=>by rw [zqg (hm b _ q λ z=>z)];exact q,λ b ps q=>⟨#[],by rw [zqg (hm b _ q λ z=>z),q];simp⟩⟩
 by_cases hbe:b=e
 ·subst hbe;exact heo
 ·exact ⟨u,k b u hbe q⟩
end
def trk (h:Heap) (H:Hp):List Addr:=(jb0 h.objs.size).filter λ a=>(H a).isSome
def hidT (h:Heap) (H:Hp):Heap:=PySem.W.hideAll h (trk h H)
theorem qeo (h:Heap) (H:Hp):(hidT h H).objs.size=h.objs.size:=PySem.W.hideAll_size _ _
theorem qgy {h:Heap}{H:Hp}{b:Addr}{o:Obj} (e:h.get? b=some o) (n:H b=none):(hidT h H).get? b=some o:=
 vj8 _ e λ hm=>by
  have q:(H b).isSome=true:=(jg1.mp hm).2;rw [n] at q;simp at q
theorem qkg {h:Heap}{H:Hp}{b:Addr}{o:Obj} (e:(hidT h H).get? b=some o):h.get? b=some o/\H b=none:=by
 have e':h.get? b=some o:=PySem.W.of_hideAll (trk h H) e;refine ⟨e',?_⟩;cases q:H b with
 | none=>rfl
 | some x=>
  have hm:b∈trk h H:=jg1.mpr ⟨jd0.mpr (va5 e'),by simp [q]⟩;have z:(hidT h H).get? b=none:=PySem.W.hideAll_none (trk h H) hm;rw [z] at e;cases e
def qll (g h:Heap) (L:Addr):List (Addr×Obj):=(jb0 h.objs.size).filterMap λ a=>if a=L\/(g.get? a).isSome=true then none else (h.get? a).map λ o=>(a,o)
def rest (g h:Heap) (L d:Addr):List (Addr×Obj):=(qll g h L).filter λ p=>decide (p.1≠d)
structure Mod (K:va8) (mg:Str->Option va2) (base:Heap):Prop where
 kin:K.In base
 glob:base.Ns vc3 mg
 blt:∃ mb,base.Ns builtinsNs mb/\∀ x:Str,x ≠ "__name__" -> mb x=vf9 x
 nolimit:base.NoLimit
structure Cx where
 prog:vb0
 w:vb4
 K:va8
 mg:Str->Option va2
 base:Heap
 A:vc0
 N:List Str
 s₀:va4
 H₀:Hp
 env:Env
 outer:List Env
 stack:List Env
 ex:List Addr
 fn:Str->Bool
 calm:Bool
 pn:List (Addr×Obj)
 xe:va2->va4->Prop
def frs (l:List Env):List Addr:=l.filterMap (·.frame)
abbrev Cx.fs (X:Cx):List Addr:=frs X.outer
def Vis (sc:vd1) (x:Str):Prop:=sc.names.lookup x=some .local\/sc.names.lookup x=some .cell\/sc.names.lookup x=some .free
def Loc (sc:vd1) (x:Str):Prop:=sc.names.lookup x=some .local\/sc.names.lookup x=some .cell
def Look (env:Env) (h:Heap) (m:Str->Option va2) (x:Str) (u:va2):Prop:=
 (env.kindOf x=some .local/\m x=some u)\/((env.kindOf x=some .cell\/env.kindOf x=some .free)/\∃ c,env.cells.lookup x=some c/\h.IsCell c (some u))
structure Cx.Ok (X:Cx):Prop where
 mod:Mod X.K X.mg X.base
 kind:X.env.scope.kind=.function
 glob:X.env.globals=vc3
 blt:X.env.builtins=builtinsNs
 above:X.s₀.heap.objs.size<=X.env.locals
 inj:∀ x y c,X.env.cells.lookup x=some c->X.env.cells.lookup y=some c->x=y
 has:∀ x,(X.env.kindOf x=some .cell\/X.env.kindOf x=some .free)->∃ c,X.env.cells.lookup x=some c
 cab:∀ x c,X.fn x=true->X.env.cells.lookup x=some c->X.s₀.heap.objs.size<=c
 hd:X.calm=true->X.A.handled=none
 frames:X.A.frames=some X.stack
 stk:X.stack=X.outer\/(X.stack=X.env::X.outer/\X.env.frame=some X.env.locals)
 exf:∀ b∈X.ex,b≠X.env.locals/\∀ x c,X.env.cells.lookup x=some c->c≠b
 bs:∀ b o,X.base.get? b=some o->X.s₀.heap.get? b=some o/\X.H₀ b=none
 bsz:X.base.objs.size<=X.s₀.heap.objs.size
 noex:∀ b o,X.base.get? b=some o->b∉X.ex
 exfs:∀ b∈X.ex,b∉X.fs
 funs:X.s₀.heap.FunFrames X.base X.outer
 frf:∀ b∈X.fs,X.H₀ b=none
structure Inv (X:Cx) (pins:List (Addr×Obj)) (σ:List (Option V)) (H:Hp) (s:va4):Prop where
 ok:X.Ok
 os:s.os=X.s₀.os
 bare:vi3 s.gens
 base:Un X.fs X.ex X.H₀ H X.s₀.heap s.heap
 loc:∃ m,s.heap.Ns X.env.locals m/\∀ (i:Nat) (x:Str) (v:V),X.N[i]?=some x->σ[i]?=some (some v)->Vis X.env.scope x->∃ u,RelV v u/\Look X.env s.heap m x u
 cell:∀ x c,X.env.cells.lookup x=some c->∃ v,s.heap.IsCell c v
 free:H X.env.locals=none
 freeC:∀ x c,X.env.cells.lookup x=some c->H c=none
 pin:∀ p∈X.pn++pins,s.heap.get? p.1=some p.2/\H p.1=none/\p.1≠X.env.locals/\p.1∉X.fs/\∀ v,p.2.data≠.cell v
 hok:HOk X.prog X.w H s.heap
 len:σ.length=X.N.length
section
variable {X:Cx}{pins:List (Addr×Obj)}{σ:List (Option V)}{H H':Hp}{s:va4}{h':Heap}
theorem Cx.Ok.nofr (ok:X.Ok) {b:Addr}{o:Obj} (e:X.base.get? b=some o):b∉X.fs:=λ hb=>by
 have:=(ok.funs.mem hb).1
 rw [e] at this;cases this
theorem Inv.bs (I:Inv X pins σ H s):∀ b o,X.base.get? b=some o->s.heap.get? b=some o/\H b=none:=λ b o e=>
 ⟨I.base.keep b o (I.ok.bs b o e).1 (I.ok.bs b o e).2 (I.ok.nofr e) (I.ok.noex b o e),I.base.free b o (I.ok.bs b o e).1 (I.ok.bs b o e).2 (I.ok.noex b o e)⟩
theorem Inv.bk (I:Inv X pins σ H s):∀ b o,X.base.get? b=some o->s.heap.get? b=some o:=λ b o e=>(I.bs b o e).1
theorem Inv.mod (I:Inv X pins σ H s):Mod X.K X.mg X.base:=I.ok.mod
theorem Inv.kIn (I:Inv X pins σ H s):X.K.In s.heap:=I.ok.mod.kin.keeps I.bk
theorem Inv.lt (I:Inv X pins σ H s):X.env.locals < s.heap.objs.size:=let ⟨_,hn,_⟩:=I.loc;hn.lt
theorem Inv.sz (I:Inv X pins σ H s):X.s₀.heap.objs.size<=s.heap.objs.size:=jd1 I.ok.above (jk9 I.lt)
theorem Inv.nofs (I:Inv X pins σ H s) {a:Addr} (h:s.heap.objs.size<=a):a∉X.fs:=λ hb=>by
 obtain ⟨_,o,ho,_⟩:=I.ok.funs.mem hb;exact absurd (jb3 (va5 ho) (jd1 I.sz h)) (jd6 _)
theorem Inv.cne (I:Inv X pins σ H s):∀ x c,X.env.cells.lookup x=some c->c≠X.env.locals:=λ x c e z=>by
 obtain ⟨v,o,ho,hd⟩:=I.cell x c e;obtain ⟨m,⟨o',es,ep,ho',hd',_⟩,_⟩:=I.loc;rw [z,ho'] at ho;cases ho;rw [hd'] at hd;cases hd
theorem Inv.funs (I:Inv X pins σ H s):s.heap.FunFrames X.base X.outer:=by
 have all:∀ (l:List Env),(∀ b∈frs l,b∈X.fs)->X.s₀.heap.FunFrames X.base l->s.heap.FunFrames X.base l:=by
  intro l;induction l with
  | nil=>intro _ _;trivial
  | cons env r ih=>
   intro hs hl;obtain ⟨hk,⟨L,o,hf,hn,ho,hd⟩,hr⟩:=hl;have hL:L∈X.fs:=hs L (by unfold frs;rw [ji1,hf];exact ja1);obtain ⟨sl,e⟩:=I.base.slot L o ho (I.ok.frf L hL) hL λ z=>I.ok.exfs L z hL;exact ⟨hk,⟨L,_,hf,hn,e,hd⟩,ih (λ b hb=>hs b (by unfold frs;rw [ji1,hf];exact ja0 _ hb)) hr⟩
 exact all X.outer (λ _ hb=>hb) I.ok.funs
theorem Inv.stack (I:Inv X pins σ H s):s.heap.FunFrames X.base X.stack:=by
 rcases I.ok.stk with e | ⟨e,hf⟩
 ·rw [e];exact I.funs
 ·rw [e];obtain ⟨m,hn,_⟩:=I.loc;refine .cons (by rw [I.ok.kind];decide) hf hn ?_ I.funs;exact Heap.get?_none_of_le (jd1 I.ok.bsz I.ok.above)
theorem Inv.stkSub (I:Inv X pins σ H s):∀ b∈frs X.stack,b∈X.env.locals::X.fs:=λ b hb=>by
 rcases I.ok.stk with e | ⟨e,hf⟩
 ·rw [e] at hb;exact ja0 _ hb
 ·rw [e] at hb;unfold frs at hb;rw [ji1,hf] at hb;exact hb
theorem Inv.stkFree (I:Inv X pins σ H s):∀ b∈frs X.stack,H b=none:=λ b hb=>by
 rcases jb6.mp (I.stkSub b hb) with e | hb
 ·rw [e];exact I.free
 ·obtain ⟨_,o,ho,_⟩:=I.ok.funs.mem hb;exact I.base.free b o ho (I.ok.frf b hb) λ z=>I.ok.exfs b z hb
theorem Inv.step {g':Array GenState}{t':Nat}{d':Drawn}{ch:List Addr} (I:Inv X pins σ H s)
  (hch:∀ b∈ch,(b∈X.ex\/X.s₀.heap.objs.size<=b)/\b≠X.env.locals/\(∀ x c,X.env.cells.lookup x=some c->c≠b)/\∀ p∈X.pn++pins,p.1≠b)
  (keep:∀ b o,b≠X.env.locals->b∉X.fs->b∉ch->s.heap.get? b=some o->H b=none->h'.get? b=some o)
  (slot:∀ b o,b≠X.env.locals->b∈X.fs->b∉ch->s.heap.get? b=some o->H b=none->∃ sl,h'.get? b=some { o with slots:=sl }) (free:∀ b o,b∉ch->s.heap.get? b=some o->H b=none->H' b=none)
  (there:∀ b o,b∉ch->s.heap.get? b=some o->∃ o',h'.get? b=some o')
  (tups:∀ b xs,H b=some (.tup xs)->H' b=some (.tup xs)) (frzs:∀ b o u,H b=some (.frz o u)->H' b=some (.frz o u)) (tbls:∀ b ps,H b=some (.tbl ps)->∃ more,H' b=some (.tbl (ps++more)))
  (ns:∀ m,s.heap.Ns X.env.locals m->h'.Ns X.env.locals m) (hok:HOk X.prog X.w H' h') (hg:vi3 g'):
  Inv X pins σ H' { s with heap:=h',gens:=g',drawn:=d',toks:=t' }:=by
 have neL:∀ b o,X.s₀.heap.get? b=some o->b≠X.env.locals:=λ b o e=>jc9 (jb3 (va5 e) I.ok.above);have neC:∀ b o,X.s₀.heap.get? b=some o->b∉X.ex->b∉ch:=λ b o e hx hb=>by
  rcases (hch b hb).1 with z | z
  ·exact hx z
  ·exact absurd (jb3 (va5 e) z) (jd6 _)
 have cellK:∀ x c,X.env.cells.lookup x=some c->∀ v,s.heap.IsCell c v->h'.IsCell c v:=λ x c e v ⟨o,ho,hd⟩=>by
  have nch:c∉ch:=λ z=>(hch c z).2.2.1 x c e rfl;by_cases hc:c∈X.fs
  ·obtain ⟨sl,q⟩:=slot c o (I.cne x c e) hc nch ho (I.freeC x c e);exact ⟨_,q,hd⟩
  ·exact ⟨o,keep c o (I.cne x c e) hc nch ho (I.freeC x c e),hd⟩
 refine ⟨I.ok,I.os,hg,⟨λ b o e n hb hx=>?_,λ b o e n hb hx=>?_,λ b o e n hx=>?_,λ b o e hx=>?_,λ b xs e=>tups b xs (I.base.tups b xs e),λ b o xs e=>frzs b o xs (I.base.frzs b o xs e),λ b ps e=>?_⟩,?_,λ x c e=>?_,?_,λ x c e=>?_,λ p hp=>?_,hok,I.len⟩
 ·exact keep b o (neL b o e) hb (neC b o e hx) (I.base.keep b o e n hb hx) (I.base.free b o e n hx)
 ·obtain ⟨sl,e1⟩:=I.base.slot b o e n hb hx;obtain ⟨sl',e2⟩:=slot b _ (neL b o e) hb (neC b o e hx) e1 (I.base.free b o e n hx);exact ⟨sl',e2⟩
 ·obtain ⟨o',e1⟩:=I.base.there b o e hx;exact free b o' (neC b o e hx) e1 (I.base.free b o e n hx)
 ·obtain ⟨o',e1⟩:=I.base.there b o e hx;exact there b o' (neC b o e hx) e1
 ·obtain ⟨m1,e1⟩:=I.base.tbls b ps e;obtain ⟨m2,e2⟩:=tbls b _ e1;exact ⟨m1++m2,by rw [e2,jn4]⟩
 ·obtain ⟨m,hn,hl⟩:=I.loc;refine ⟨m,ns m hn,λ i x v e1 e2 e3=>?_⟩;obtain ⟨u,r,l⟩:=hl i x v e1 e2 e3;refine ⟨u,r,?_⟩;rcases l with l | ⟨k,c,e,z⟩
  ·exact .inl l
  ·exact .inr ⟨k,c,e,cellK x c e _ z⟩
 ·obtain ⟨v,z⟩:=I.cell x c e;exact ⟨v,cellK x c e v z⟩
 ·obtain ⟨m,⟨o,_,_,ho,_⟩,_⟩:=I.loc;exact free _ o (λ z=>(hch _ z).2.1 rfl) ho I.free
 ·obtain ⟨v,o,ho,hd⟩:=I.cell x c e;exact free c o (λ z=>(hch c z).2.2.1 x c e rfl) ho (I.freeC x c e)
 ·obtain ⟨e,n,ne,nf,d⟩:=I.pin p hp;have nch:p.1∉ch:=λ z=>(hch p.1 z).2.2.2 p hp rfl;exact ⟨keep p.1 p.2 ne nf nch e n,free p.1 p.2 nch e n,ne,nf,d⟩
theorem Inv.un {t':Nat} (I:Inv X pins σ H s) (u:Un X.fs [] H H' s.heap h') (hok:HOk X.prog X.w H' h'):Inv X pins σ H' { s with heap:=h',toks:=t' }:=by
 obtain ⟨m,⟨o,es,ep,ho,r⟩,_⟩:=id I.loc;obtain ⟨sl,hL⟩:=u.any ho I.free (by simp);exact I.step (g':=s.gens) (d':=s.drawn) (ch:=[]) (λ _ z=>nomatch z) (λ b o _ hb _ e n=>u.keep b o e n hb (by simp)) (λ b o _ hb _ e n=>u.slot b o e n hb (by simp)) (λ b o _ e n=>u.free b o e n (by simp)) (λ b o _ e=>u.there b o e (by simp)) u.tups u.frzs u.tbls (λ m' hm=>by
  obtain ⟨o',es',ep',ho',r'⟩:=hm;rw [ho] at ho';cases ho';exact ⟨_,es',ep',hL,r'⟩) hok I.bare
theorem Inv.call {g':Array GenState}{t':Nat}{d':Drawn}{ch:List Addr} (I:Inv X pins σ H s) (u:Un (frs X.stack) ch H H' s.heap h') (hok:HOk X.prog X.w H' h') (hg:vi3 g')
  (hch:∀ b∈ch,(b∈X.ex\/X.s₀.heap.objs.size<=b)/\b≠X.env.locals/\(∀ x c,X.env.cells.lookup x=some c->c≠b)/\∀ p∈X.pn++pins,p.1≠b):
  Inv X pins σ H' { s with heap:=h',gens:=g',drawn:=d',toks:=t' }:=by
 obtain ⟨m,⟨o,es,ep,ho,r⟩,_⟩:=id I.loc;obtain ⟨sl,hL⟩:=u.any ho I.free λ z=>(hch _ z).2.1 rfl;exact I.step (ch:=ch) hch (λ b o hL hb hc e n=>u.keep b o e n (λ z=>(jb6.mp (I.stkSub b z)).elim hL hb) hc) (λ b o _ _ hc e n=>u.any e n hc) (λ b o hc e n=>u.free b o e n hc) (λ b o hc e=>u.there b o e hc) u.tups u.frzs u.tbls (λ m' hm=>by
  obtain ⟨o',es',ep',ho',r'⟩:=hm;rw [ho] at ho';cases ho';exact ⟨_,es',ep',hL,r'⟩) hok hg
theorem Inv.turned {t':Nat}{it:Addr} (I:Inv X pins σ H s) (k:∀ b o,b≠it->s.heap.get? b=some o->h'.get? b=some o) (hn:H it=none) (hL:it≠X.env.locals)
  (h1:it∈X.ex\/X.s₀.heap.objs.size<=it) (h2:∀ x c,X.env.cells.lookup x=some c->c≠it) (h3:∀ p∈X.pn++pins,p.1≠it):Inv X pins σ H { s with heap:=h',toks:=t' }:=by
 have nit:∀ b u,H b=some u->b≠it:=λ b u e z=>by rw [z,hn] at e;cases e
 refine I.step (g':=s.gens) (d':=s.drawn) (ch:=[it]) (λ b hb=>?_) (λ b o _ _ hc e _=>k b o (λ z=>hc (by simp [z])) e) (λ b o _ _ hc e _=>⟨o.slots,k b o (λ z=>hc (by simp [z])) e⟩) (λ _ _ _ _ n=>n)
  (λ b o hc e=>⟨o,k b o (λ z=>hc (by simp [z])) e⟩) (λ _ _ e=>e) (λ _ _ _ e=>e) (λ b ps e=>⟨#[],by rw [e];simp⟩) (λ m hm=>?_) (λ b u e=>?_) I.bare
 ·have e:b=it:=by simpa using hb
  subst e;exact ⟨h1,hL,h2,h3⟩
 ·obtain ⟨o,es,ep,ho,r⟩:=hm;exact ⟨o,es,ep,k _ o (vb6 hL) ho,r⟩
 ·refine (I.hok b u e).stay (λ c v hc q=>k c v ?_ q) (λ _ q=>q) λ _ _ q=>q;rcases hc with z | z
  ·rw [z];exact nit b u e
  ·exact nit c _ z
theorem Inv.tok (I:Inv X pins σ H s) (t:Nat):Inv X pins σ H { s with toks:=t }:=I.un (h':=s.heap) (t':=t) Un.refl I.hok
theorem Inv.kept {t':Nat} (I:Inv X pins σ H s) (k:∀ b u,s.heap.get? b=some u->h'.get? b=some u):Inv X pins σ H { s with heap:=h',toks:=t' }:=I.un (Un.kept k) (I.hok.kept k)
theorem Inv.laid {a:Addr}{o:HO}{t':Nat} (I:Inv X pins σ H s) (k:∀ b u,s.heap.get? b=some u->h'.get? b=some u) (hp:s.heap.objs.size<=a) (new:zxc X.prog X.w (upd H a o) h' a o):
  Inv X pins σ (upd H a o) { s with heap:=h',toks:=t' }:=I.un (Un.laid k hp (I.hok.fresh hp)) (I.hok.laid k hp new)
theorem Inv.write {x e:Addr}{o:HO}{t':Nat} (I:Inv X pins σ H s) (mu:Mut (H x)) (he:e=x\/H e=some (.own x)) (k:∀ b u,b≠e->s.heap.get? b=some u->h'.get? b=some u) (heo:∃ u,h'.get? e=some u)
  (new:zxc X.prog X.w (upd H x o) h' x o):Inv X pins σ (upd H x o) { s with heap:=h',toks:=t' }:=I.un (Un.write mu he k heo) (I.hok.write mu he k heo new)
theorem Inv.pins_of {pins':List (Addr×Obj)} (I:Inv X pins σ H s) (h:∀ p∈pins',s.heap.get? p.1=some p.2/\H p.1=none/\p.1≠X.env.locals/\p.1∉X.fs/\∀ v,p.2.data≠.cell v):Inv X pins' σ H s:=
 ⟨I.ok,I.os,I.bare,I.base,I.loc,I.cell,I.free,I.freeC,λ p hp=>(jd2.mp hp).elim (λ z=>I.pin p (ja7 _ z)) (h p),I.hok,I.len⟩
theorem qaz {N:List Str} (hN:N.Nodup) {i j:Nat}{x:Str} (a:N[i]?=some x) (b:N[j]?=some x):i=j:=by
 obtain ⟨h1,e1⟩:=ja9.mp a;obtain ⟨h2,e2⟩:=ja9.mp b;exact (List.getElem_inj hN).mp (e1.trans e2.symm)
theorem zmt {M:Model}{A:vc0}{E:va2->va4->Prop}{i:Nat}{x:Str}{v:V}{u:va2}{Q:Unit->va4->Prop} (I:Inv X pins σ H s) (hN:X.N.Nodup) (hi:X.N[i]?=some x) (hx:Loc X.env.scope x) (r:RelV v u)
  (h:∀ s',Inv X pins (σ.set i (some v)) H s'->(∃ a,vh1 a s.heap s'.heap/\(a=X.env.locals\/X.env.cells.lookup x=some a))->Q () s') (hf:X.fn x=true\/X.env.scope.names.lookup x=some .local:=by first | exact .inl rfl | exact .inr rfl | assumption):vb1 M A (storeName X.env x u) Q E s:=by
 obtain ⟨m,hn,hl⟩:=id I.loc;have hcls:(X.env.scope.kind == .class || (X.env.scope.kind == .module && X.env.locals != X.env.globals))=false:=by rw [I.ok.kind];rfl
 have hiσ:i < σ.length:=by rw [I.len];exact (ja9.mp hi).1
 have cne:=I.cne;have tracked:∀ {a:Addr}{h':Heap},(∃ o,s.heap.get? a=some o/\H a=none)->vh1 a s.heap h'->HOk X.prog X.w H h':=λ {a h'} ha hs b ob e=>by
  obtain ⟨_,_,hfree⟩:=ha;refine (I.hok b ob e).stay (λ c w' hc q=>(hs.2 c ?_).trans q) (λ _ q=>q) λ _ _ q=>q;rintro rfl;rcases hc with rfl | hc
  ·rw [hfree] at e;cases e
  ·rw [hfree] at hc;cases hc
 rcases hx with hk | hk
 ·refine wpAny_storeName_local hk hn (λ h' hn' hs=>?_) hcls;obtain ⟨oL,_,_,hoL,_⟩:=id hn;refine h _ ⟨I.ok,I.os,I.bare,⟨λ b o e n hb hx=>?_,λ b o e n hb hx=>?_,I.base.free,λ b o e hx=>?_,I.base.tups,I.base.frzs,I.base.tbls⟩,⟨_,hn',λ j y v' e1 e2 e3=>?_⟩,λ y c e=>?_,I.free,I.freeC,λ p hp=>?_,tracked ⟨oL,hoL,I.free⟩ hs,by simpa using I.len⟩ ⟨_,hs,.inl rfl⟩
  ·exact (hs.2 b (jc9 (jb3 (va5 e) I.ok.above))).trans (I.base.keep b o e n hb hx)
  ·obtain ⟨sl,e1⟩:=I.base.slot b o e n hb hx;exact ⟨sl,(hs.2 b (jc9 (jb3 (va5 e) I.ok.above))).trans e1⟩
  ·obtain ⟨o',e1⟩:=I.base.there b o e hx;exact ⟨o',(hs.2 b (jc9 (jb3 (va5 e) I.ok.above))).trans e1⟩
  ·by_cases hj:j=i
   ·subst hj;rw [hi] at e1;cases e1;rw [jc6 hiσ] at e2;cases e2;exact ⟨u,r,.inl ⟨hk,by simp⟩⟩
   ·rw [jc0 (vb6 hj)] at e2;obtain ⟨u',r',q⟩:=hl j y v' e1 e2 e3;refine ⟨u',r',?_⟩;rcases q with ⟨k,e⟩ | ⟨k,c,e,z⟩
    ·refine .inl ⟨k,?_⟩
     have:y≠x:=λ e=>hj (qaz hN e1 (e ▸ hi))
     simp [this,e]
    ·exact .inr ⟨k,c,e,z.sameBut hs (cne y c e)⟩
  ·obtain ⟨w',z⟩:=I.cell y c e;exact ⟨w',z.sameBut hs (cne y c e)⟩
  ·obtain ⟨e,n,ne,nf,d⟩:=I.pin p hp;exact ⟨(hs.2 p.1 ne).trans e,n,ne,nf,d⟩
 ·have hfn:X.fn x=true:=by
   rcases hf with z | z
   ·exact z
   ·rw [z] at hk;cases hk
  obtain ⟨c,hc⟩:=I.ok.has x (.inl hk);obtain ⟨w',z⟩:=I.cell x c hc;refine wpAny_storeName_cell I.ok.kind hk hc z (λ h' hc' hs=>?_);obtain ⟨oc,hoc,hocd⟩:=id z;refine h { s with heap:=h' } ⟨I.ok,I.os,I.bare,⟨λ b o e n hb hx=>?_,λ b o e n hb hx=>?_,I.base.free,λ b o e hx=>?_,I.base.tups,I.base.frzs,I.base.tbls⟩,⟨m,hn.sameBut hs (vb6 (cne x c hc)),λ j y v' e1 e2 e3=>?_⟩,λ y c' e=>?_,I.free,I.freeC,λ p hp=>?_,tracked ⟨oc,hoc,I.freeC x c hc⟩ hs,by simpa using I.len⟩ ⟨c,hs,.inr hc⟩
  ·exact (hs.2 b (jc9 (jb3 (va5 e) (I.ok.cab x c hfn hc)))).trans (I.base.keep b o e n hb hx)
  ·obtain ⟨sl,e1⟩:=I.base.slot b o e n hb hx;exact ⟨sl,(hs.2 b (jc9 (jb3 (va5 e) (I.ok.cab x c hfn hc)))).trans e1⟩
  ·obtain ⟨o',e1⟩:=I.base.there b o e hx;exact ⟨o',(hs.2 b (jc9 (jb3 (va5 e) (I.ok.cab x c hfn hc)))).trans e1⟩
  ·by_cases hj:j=i
   ·subst hj;rw [hi] at e1;cases e1;rw [jc6 hiσ] at e2;cases e2;exact ⟨u,r,.inr ⟨.inl hk,c,hc,hc'⟩⟩
   ·rw [jc0 (vb6 hj)] at e2;obtain ⟨u',r',q⟩:=hl j y v' e1 e2 e3;refine ⟨u',r',?_⟩;rcases q with q | ⟨k,c',e,z'⟩
    ·exact .inl q
    ·refine .inr ⟨k,c',e,z'.sameBut hs ?_⟩;rintro rfl;exact hj (qaz hN e1 (I.ok.inj _ _ _ e hc ▸ hi))
  ·by_cases hcc:c'=c
   ·subst hcc;exact ⟨_,hc'⟩
   ·obtain ⟨w2,z2⟩:=I.cell y c' e;exact ⟨w2,z2.sameBut hs hcc⟩
  ·obtain ⟨e,n,ne,nf,d⟩:=I.pin p hp;refine ⟨(hs.2 p.1 ?_).trans e,n,ne,nf,d⟩;intro q;rw [q,hoc] at e;have q':oc=p.2:=Option.some.inj e;exact d w' (by rw [<- q'];exact hocd)
theorem zpe {M:Model}{A:vc0}{E:va2->va4->Prop}{i:Nat}{x:Str}{v:V}{u:va2}{Q:Unit->va4->Prop} (I:Inv X pins σ H s) (hN:X.N.Nodup) (hi:X.N[i]?=some x) (hx:Loc X.env.scope x) (r:RelV v u)
  (h:∀ s',Inv X pins (σ.set i (some v)) H s'->Q () s') (hf:X.fn x=true\/X.env.scope.names.lookup x=some .local:=by first | exact .inl rfl | exact .inr rfl | assumption):vb1 M A (storeName X.env x u) Q E s:=
 zmt I hN hi hx r (λ s' I' _=>h s' I') hf
theorem Inv.call' {s':va4}{ch:List Addr} (I:Inv X pins σ H s) (ho:s'.os=s.os) (u:Un (frs X.stack) ch H H' s.heap s'.heap) (hok:HOk X.prog X.w H' s'.heap) (hg:vi3 s'.gens)
  (hch:∀ b∈ch,(b∈X.ex\/X.s₀.heap.objs.size<=b)/\b≠X.env.locals/\(∀ x c,X.env.cells.lookup x=some c->c≠b)/\∀ p∈X.pn++pins,p.1≠b):Inv X pins σ H' s':=by
 obtain ⟨h',g',d',t',o'⟩:=s';have e:o'=s.os:=ho;subst e;exact I.call (g':=g') (t':=t') (d':=d') u hok hg hch
end
abbrev XK:=va2->Option Addr->Hp->Prop
abbrev St:=List (Option V)
abbrev VK:=V->Hp->Prop
abbrev TE:=St->Hp->VK->Prop
abbrev TT:=St->Hp->(Bool->Hp->Prop)->Prop
abbrev TA:=St->Hp->(List V->Hp->Prop)->Prop
structure Ends where
 nx:St->Hp->Prop
 rt:VK
 bk:St->Hp->Prop:=λ _ _=>False
 ct:St->Hp->Prop:=λ _ _=>False
abbrev TS:=Ends->St->Hp->Prop
def EP (X:Cx) (pins:List (Addr×Obj)) (σ:St) (Q:VK) (u:va2) (s':va4):Prop:=∃ v H',Inv X pins σ H' s'/\RelV v u/\Q v H'
def TP (X:Cx) (pins:List (Addr×Obj)) (σ:St) (Q:Bool->Hp->Prop) (b:Bool) (s':va4):Prop:=∃ H',Inv X pins σ H' s'/\Q b H'
def AP (X:Cx) (pins:List (Addr×Obj)) (σ:St) (Q:List V->Hp->Prop) (us:List va2) (s':va4):Prop:=∃ vs H',Inv X pins σ H' s'/\Vals vs us/\Q vs H'
def SP (X:Cx) (pins:List (Addr×Obj)) (D:Ends) (f:Flow) (s':va4):Prop:=
 match f with
 | .next=>∃ σ' H',Inv X pins σ' H' s'/\D.nx σ' H'
 | .brk=>∃ σ' H',Inv X pins σ' H' s'/\D.bk σ' H'
 | .cont=>∃ σ' H',Inv X pins σ' H' s'/\D.ct σ' H'
 | .ret u=>∃ v σ' H',Inv X pins σ' H' s'/\RelV v u/\D.rt v H'
def PE (X:Cx) (e:Expr) (t:TE):Prop:=
 ∀ (pins:List (Addr×Obj)) (s:va4) (σ:St) (H:Hp) (Q:VK),Inv X pins σ H s->t σ H Q->vb1 (vb2 X.prog X.w) X.A (eval e X.env) (EP X pins σ Q) X.xe s
def PT (X:Cx) (e:Expr) (t:TT):Prop:=
 ∀ (pins:List (Addr×Obj)) (s:va4) (σ:St) (H:Hp) (Q:Bool->Hp->Prop),Inv X pins σ H s->t σ H Q->vb1 (vb2 X.prog X.w) X.A (isTrue e X.env (eval e X.env)) (TP X pins σ Q) X.xe s
def PW (X:Cx) (e:Expr) (t:TT):Prop:=
 ∀ (whole:Sem va2) (pins:List (Addr×Obj)) (s:va4) (σ:St) (H:Hp) (Q:Bool->Hp->Prop),Inv X pins σ H s->t σ H Q->vb1 (vb2 X.prog X.w) X.A (isTrue e X.env whole) (TP X pins σ Q) X.xe s
theorem PW.pt {X:Cx}{e:Expr}{t:TT} (h:PW X e t):PT X e t:=h _
def PA (X:Cx) (es:List Expr) (t:TA):Prop:=
 ∀ (pos:Pos) (pins:List (Addr×Obj)) (s:va4) (σ:St) (H:Hp) (Q:List V->Hp->Prop),Inv X pins σ H s->t σ H Q->vb1 (vb2 X.prog X.w) X.A (spliced (vg0 pos (va9 es X.env))) (AP X pins σ Q) X.xe s
def PS (X:Cx) (st:Stmt) (t:TS):Prop:=
 ∀ (pins:List (Addr×Obj)) (s:va4) (σ:St) (H:Hp) (D:Ends),Inv X pins σ H s->t D σ H->vb1 (vb2 X.prog X.w) X.A (exec st X.env) (SP X pins D) X.xe s
def PSs (X:Cx) (st:List Stmt) (t:TS):Prop:=
 ∀ (pins:List (Addr×Obj)) (s:va4) (σ:St) (H:Hp) (D:Ends),Inv X pins σ H s->t D σ H->vb1 (vb2 X.prog X.w) X.A (execs st X.env) (SP X pins D) X.xe s
theorem thn {α:Type}{t:Sem α}{Q Q':α->va4->Prop}{M:Model}{A:vc0}{E:va2->va4->Prop}{s:va4} (h:vb1 M A t Q E s) (hQ:∀ a s,Q a s->Q' a s):vb1 M A t Q' E s:=vf6 h hQ λ _ _ x=>x
section
variable {X:Cx}
theorem bin {a b:Expr}{ta tb:TE} (ha:PE X a ta) (hb:PE X b tb) {pins:List (Addr×Obj)}{s:va4}{σ:St}{H:Hp}{R:V->V->Hp->Prop} (I:Inv X pins σ H s) (h:ta σ H λ x H1=>tb σ H1 λ y H2=>R x y H2)
  {α:Type}{Q:α->va4->Prop}{f:va2->va2->Sem α}
  (hf:∀ v u s2 x y H2,Inv X pins σ H2 s2->RelV x v->RelV y u->R x y H2->vb1 (vb2 X.prog X.w) X.A (f v u) Q X.xe s2):
  vb1 (vb2 X.prog X.w) X.A (eval a X.env) (λ v s₁=>vb1 (vb2 X.prog X.w) X.A (eval b X.env) (λ u s₂=>vb1 (vb2 X.prog X.w) X.A (f v u) Q X.xe s₂) X.xe s₁) X.xe s:=by
 refine thn (ha pins s σ H _ I h) λ v s1 ⟨x,H1,I1,r1,q1⟩=>?_;refine thn (hb pins s1 σ H1 _ I1 q1) λ u s2 ⟨y,H2,I2,r2,q2⟩=>?_;exact hf v u s2 x y H2 I2 r1 r2 q2
def tVar (i:Nat):TE:=λ σ H Q=>∃ v,σ[i]?=some (some v)/\Q v H
def tC (v:V):TE:=λ _ H Q=>Q v H
theorem qnc {i:Nat}{x:Str}{pos:Pos} (hN:X.N[i]?=some x) (hv:Vis X.env.scope x) (hd:(x == ("__debug__" : Str))=false:=by decide) (hcd:(x == ("__classdict__" : Str))=false:=by decide):PE X (.Name x pos) (tVar i):=by
 intro pins s σ H Q I h;obtain ⟨v,e,h⟩:=h;obtain ⟨m,hn,hl⟩:=I.loc;obtain ⟨u,r,l⟩:=hl i x v hN e hv;have fin:EP X pins σ Q u s:=⟨v,H,I,r,h⟩
 rcases l with ⟨hk,hm⟩ | ⟨hk,c,hc,hcell⟩
 ·exact wpAny_Name (wpAny_loadName_local I.ok.kind hk hn hm fin) hd
 ·rcases hk with hk | hk
  ·exact wpAny_Name (wpAny_loadName_cell I.ok.kind hk hc hcell fin) hd
  ·exact wpAny_Name (wpAny_loadName_free I.ok.kind hk hc hcell fin hcd) hd
theorem qdo {i j pos}:PE X (.Constant (.int i) j pos) (tC (.int i)):=λ _ _ _ H _ I h=>wpAny_Constant_int ⟨.int i,H,I.tok _,⟨_,rfl⟩,h⟩
theorem qph {b j pos}:PE X (.Constant (.bool b) j pos) (tC (.bl b)):=λ _ _ _ H _ I h=>Constant_bool ⟨.bl b,H,I,rfl,h⟩
theorem qnh {j pos}:PE X (.Constant .none j pos) (tC .non):=λ _ _ _ H _ I h=>Constant_none ⟨.non,H,I,rfl,h⟩
theorem qnf {x j pos}:PE X (.Constant (.str x) j pos) (tC (.str x)):=λ _ _ _ H _ I h=>Calls.Constant_str ⟨.str x,H,I.tok _,⟨_,rfl⟩,h⟩
def Gl (X:Cx) (x:Str):Prop:=X.env.kindOf x=some .globalImplicit
theorem qkm {E:va2->va4->Prop}{pins:List (Addr×Obj)}{s:va4}{σ:St}{H:Hp}{x:Str}{u:va2}{pos:Pos}{Q:va2->va4->Prop} (I:Inv X pins σ H s) (hg:Gl X x) (hm:X.mg x=some u) (h:Q u s)
  (hd:(x == ("__debug__" : Str))=false:=by decide):vb1 (vb2 X.prog X.w) X.A (eval (.Name x pos) X.env) Q E s:=
 vn4 I.ok.kind hg (Calls.loadGlobal_global (by rw [I.ok.glob];exact I.mod.glob.keeps I.bk) hm h) hd
theorem zvi {E:va2->va4->Prop}{pins:List (Addr×Obj)}{s:va4}{σ:St}{H:Hp}{x:Str}{u:va2}{pos:Pos}{Q:va2->va4->Prop} (I:Inv X pins σ H s) (hg:Gl X x) (hm:X.mg x=none) (hv:vf9 x=some u) (h:Q u s)
  (hn:x ≠ "__name__" := by decide) (hd:(x == ("__debug__" : Str))=false:=by decide):vb1 (vb2 X.prog X.w) X.A (eval (.Name x pos) X.env) Q E s:=by
 obtain ⟨mb,h1,h2⟩:=I.mod.blt;exact vn4 I.ok.kind hg (Calls.loadGlobal_builtin (by rw [I.ok.glob];exact I.mod.glob.keeps I.bk) hm (by rw [I.ok.blt];exact h1.keeps I.bk) ((h2 x hn).trans hv) h) hd
theorem qj7 {x:Str}{v:V}{u:va2}{pos:Pos} (hg:Gl X x) (hm:X.mg x=none) (hv:vf9 x=some u) (r:RelV v u) (hn:x ≠ "__name__" := by decide) (hd:(x == ("__debug__" : Str))=false:=by decide):PE X (.Name x pos) (tC v):=
 λ _ _ _ H _ I h=>zvi I hg hm hv ⟨v,H,I,r,h⟩ hn hd
variable {a b:Expr}{ta tb:TE}{pos:Pos}
def PC (X:Cx) (op:vn3) (a b:Expr) (t:TE):Prop:=
 ∀ (pins:List (Addr×Obj)) (s:va4) (σ:St) (H:Hp) (Q:VK),Inv X pins σ H s->t σ H Q ->
  vb1 (vb2 X.prog X.w) X.A (eval a X.env) (λ v s₁=>vb1 (vb2 X.prog X.w) X.A (eval b X.env) (λ u s₂=>vb1 (vb2 X.prog X.w) X.A (vb7 op v u) (EP X pins σ Q) X.xe s₂) X.xe s₁) X.xe s
theorem zwt (b:Expr) {op:vn3} (h:op≠.In) (h2:op≠.NotIn):vg1 op b=false:=by
 have e1:(op == CmpOp.In)=false:=by cases op <;> first | rfl | exact absurd rfl h
 have e2:(op == CmpOp.NotIn)=false:=by cases op <;> first | rfl | exact absurd rfl h2
 cases b <;> simp [vg1,e1,e2]
def tB (t:TE):TT:=λ σ H Q=>t σ H λ x H1=>∃ c,x=.bl c/\Q c H1
theorem qm5 {e:Expr}{t:TE} (h:PE X e t) (he:∀ whole,isTrue e X.env whole=(do let v<-whole;standAt e.pos;holding [v] (truthy v)):=by intro _;rfl):PT X e (tB t):=by
 intro pins s σ H Q I hw;refine isTrue_plain (thn (h pins s σ H _ I hw) λ v s1 ⟨x,H1,I1,r1,q1⟩=>?_) (he _);obtain ⟨d,rfl,q⟩:=q1;cases r1;exact vc1 ⟨H1,I1,q⟩
variable {tA tB':TT}{rest:List Expr}
def tAnd (t u:TT):TT:=λ σ H Q=>t σ H λ c H1=>if c=true then u σ H1 Q else Q false H1
def tOr (t u:TT):TT:=λ σ H Q=>t σ H λ c H1=>if c=true then Q true H1 else u σ H1 Q
def tNot (t:TT):TT:=λ σ H Q=>t σ H λ c H1=>Q (!c) H1
theorem qjp (ha:PT X a tA):PW X (.BoolOp .And [a] pos) tA:=by
 intro wh pins s σ H Q I h;refine isTrue_and (thn (ha pins s σ H Q I h) λ c s1 e=>?_);cases c with
 | true=>exact isTrue_and_nil e
 | false=>exact e
theorem qm3 (ha:PT X a tA):PW X (.BoolOp .Or [a] pos) tA:=by
 intro wh pins s σ H Q I h;refine isTrue_or (thn (ha pins s σ H Q I h) λ c s1 e=>?_);cases c with
 | false=>exact isTrue_or_nil e
 | true=>exact e
theorem qm4 (ha:PT X a tA) (hb:PW X (.BoolOp .And (b::rest) pos) tB'):PW X (.BoolOp .And (a::b::rest) pos) (tAnd tA tB'):=by
 intro wh pins s σ H Q I h;refine isTrue_and (thn (ha pins s σ H _ I h) λ c s1 ⟨H1,I1,q1⟩=>?_);cases c with
 | true=>exact hb wh pins s1 σ H1 Q I1 q1
 | false=>exact ⟨H1,I1,q1⟩
theorem qpc (ha:PT X a tA) (hb:PW X (.BoolOp .Or (b::rest) pos) tB'):PW X (.BoolOp .Or (a::b::rest) pos) (tOr tA tB'):=by
 intro wh pins s σ H Q I h;refine isTrue_or (thn (ha pins s σ H _ I h) λ c s1 ⟨H1,I1,q1⟩=>?_);cases c with
 | true=>exact ⟨H1,I1,q1⟩
 | false=>exact hb wh pins s1 σ H1 Q I1 q1
theorem qm6 (ha:PT X a tA):PT X (.UnaryOp .Not a pos) (tNot tA):=by
 intro pins s σ H Q I h;exact isTrue_not (ha pins s σ H (λ c H1=>Q (!c) H1) I h)
def qmf (ta tb:TE):TE:=λ σ H Q=>ta σ H λ x H1=>∃ c,x=.bl c/\if c=true then tb σ H1 Q else Q (.bl false) H1
def tOrV (ta tb:TE):TE:=λ σ H Q=>ta σ H λ x H1=>∃ c,x=.bl c/\if c=true then Q (.bl true) H1 else tb σ H1 Q
def ql7 (ta:TE):TE:=λ σ H Q=>ta σ H λ x H1=>∃ c,x=.bl c/\Q (.bl (!c)) H1
theorem qh3 {op}{t:TE} (h:PE X a t):PE X (.BoolOp op [a] pos) t:=λ pins s σ H Q I hw=>BoolOp_one (h pins s σ H Q I hw)
theorem qnk (ha:PE X a ta) (hb:PE X (.BoolOp .And (b::rest) pos) tb):PE X (.BoolOp .And (a::b::rest) pos) (qmf ta tb):=by
 intro pins s σ H Q I h;refine BoolOp_and (thn (ha pins s σ H _ I h) λ v s1 ⟨x,H1,I1,r1,q1⟩=>?_);obtain ⟨c,rfl,q1⟩:=q1;cases r1;refine vc1 ?_;cases c with
 | true=>exact hb pins s1 σ H1 Q I1 q1
 | false=>exact ⟨.bl false,H1,I1,rfl,q1⟩
theorem qpg (ha:PE X a ta) (hb:PE X (.BoolOp .Or (b::rest) pos) tb):PE X (.BoolOp .Or (a::b::rest) pos) (tOrV ta tb):=by
 intro pins s σ H Q I h;refine BoolOp_or (thn (ha pins s σ H _ I h) λ v s1 ⟨x,H1,I1,r1,q1⟩=>?_);obtain ⟨c,rfl,q1⟩:=q1;cases r1;refine vc1 ?_;cases c with
 | false=>exact hb pins s1 σ H1 Q I1 q1
 | true=>exact ⟨.bl true,H1,I1,rfl,q1⟩
theorem qng (ha:PE X a ta):PE X (.UnaryOp .Not a pos) (ql7 ta):=by
 intro pins s σ H Q I h;refine UnaryOp_ (thn (ha pins s σ H _ I h) λ v s1 ⟨x,H1,I1,r1,q1⟩=>?_);obtain ⟨c,rfl,q1⟩:=q1;cases r1;exact not_of (vc1 ⟨.bl (!c),H1,I1,rfl,q1⟩)
def tIf (t:TT) (ta tb:TE):TE:=λ σ H Q=>t σ H λ c H1=>if c=true then ta σ H1 Q else tb σ H1 Q
theorem qgg {c:Expr} (hc:PT X c tA) (ha:PE X a ta) (hb:PE X b tb):PE X (.IfExp c a b pos) (tIf tA ta tb):=by
 intro pins s σ H Q I h;refine wpAny_IfExp (thn (hc pins s σ H _ I h) λ d s1 ⟨H1,I1,q1⟩=>?_);cases d with
 | true=>exact ha pins s1 σ H1 Q I1 q1
 | false=>exact hb pins s1 σ H1 Q I1 q1
end
def SqL (K:va8) (H:Hp) (a:Addr) (xs:List V):Prop:=
 Rd H a (.lst xs) \/
  ∃ (o:Obj) (its:Array va2) (n:Nat),K.lookup a=some o/\o.cls=.type "list" /\ o.dict=none/\o.data=.seq its n/\its.size<=va6/\Vals xs its.toList
def SqT (K:va8) (H:Hp) (a:Addr) (xs:List V):Prop:=
 Rd H a (.tup xs) \/
  ∃ (o:Obj) (its:Array va2) (n:Nat),K.lookup a=some o/\o.cls=.type "tuple" /\ o.data=.seq its n/\its.size<=va6/\Vals xs its.toList
def absV:va2->Option V
 | .none=>some .non
 | .bool b=>some (.bl b)
 | .int i _=>some (.int i)
 | .str x _=>some (.str x)
 | .bytes b _=>some (.byt b)
 | .float b _=>some (.flt b)
 | .ref a=>some (.ref a)
 | .type n=>some (.ty n)
 | _=>none
theorem RelV.abs {x:V}{u:va2} (r:RelV x u):absV u=some x:=by
 cases x with
 | non=>cases r;rfl
 | bl _=>cases r;rfl
 | int _=>obtain ⟨t,rfl⟩:=r;rfl
 | str _=>obtain ⟨t,rfl⟩:=r;rfl
 | byt _=>obtain ⟨t,rfl⟩:=r;rfl
 | flt _=>obtain ⟨t,rfl⟩:=r;rfl
 | ref _=>cases r;rfl
 | ty _=>cases r;rfl
theorem RelV.inj {x y:V}{u:va2} (r:RelV x u) (q:RelV y u):x=y:=Option.some.inj (r.abs.symm.trans q.abs)
theorem Vals.inj:∀ {xs ys:List V}{us:List va2},Vals xs us->Vals ys us->xs=ys
 | _,_,_,.nil,.nil=>rfl
 | _,_,_,.cons r t,.cons r' t'=>by rw [r.inj r',Vals.inj t t']
section
variable {X:Cx}{pins:List (Addr×Obj)}{σ:St}{H:Hp}{s:va4}{a:Addr}{xs ys:List V}
theorem Inv.list (I:Inv X pins σ H s) (h:SqL X.K H a xs):∃ its:List va2,Vals xs its/\PlainL s.heap a its.toArray/\xs.length<=va6:=by
 rcases h with h | ⟨o,its,n,hk,hc,hd,hs,hz,r⟩
 ·obtain ⟨z,its,n,r,e⟩:=h.ok I.hok;exact ⟨its,r,⟨_,n,e,rfl,rfl,rfl⟩,z⟩
 ·refine ⟨its.toList,r,⟨o,n,I.kIn a o hk,hc,hd,by simpa using hs⟩,?_⟩;have e:=r.length;simp only [jf0] at e;omega
theorem Inv.tuple (I:Inv X pins σ H s) (h:SqT X.K H a xs):∃ its:List va2,Vals xs its/\IsTup s.heap a its.toArray/\xs.length<=va6:=by
 rcases h with h | ⟨o,its,n,hk,hc,hs,hz,r⟩
 ·obtain ⟨z,its,r,p⟩:=h.ok I.hok;exact ⟨its,r,p,z⟩
 ·refine ⟨its.toList,r,⟨o,I.kIn a o hk,hc,n,by simpa using hs⟩,?_⟩;have e:=r.length;simp only [jf0] at e;omega
theorem Inv.list_inj (I:Inv X pins σ H s) (h:SqL X.K H a xs) (h':SqL X.K H a ys):xs=ys:=by
 obtain ⟨its,r,⟨o,n,e,_,_,d⟩,_⟩:=I.list h;obtain ⟨its',r',⟨o',n',e',_,_,d'⟩,_⟩:=I.list h';rw [e] at e';cases e';rw [d] at d';injection d' with d1 _
 have:its=its':=by simpa using congrArg jq4 d1
 subst this;exact r.inj r'
theorem Inv.tuple_inj (I:Inv X pins σ H s) (h:SqT X.K H a xs) (h':SqT X.K H a ys):xs=ys:=by
 obtain ⟨its,r,⟨o,e,_,n,d⟩,_⟩:=I.tuple h;obtain ⟨its',r',⟨o',e',_,n',d'⟩,_⟩:=I.tuple h';rw [e] at e';cases e';rw [d] at d';injection d' with d1 _
 have:its=its':=by simpa using congrArg jq4 d1
 subst this;exact r.inj r'
end
section
variable {X:Cx}{pins:List (Addr×Obj)}{σ:St}{H:Hp}{s:va4}{E:va2->va4->Prop}
end
section
variable {X:Cx}{st:Stmt}{rest:List Stmt}{t u:TS}{e:Expr}{te:TE}{pos:Pos}
def ql8:TS:=λ D σ H=>D.nx σ H
def tSeq (t u:TS):TS:=λ D σ H=>t { D with nx:=u D } σ H
theorem qjv:PSs X [] ql8:=λ _ _ σ H _ I h=>vj0 ⟨σ,H,I,h⟩
theorem qgd (h1:PS X st t) (h2:PSs X rest u):PSs X (st::rest) (tSeq t u):=by
 intro pins s σ H D I h;refine wpAny_execs_cons (thn (h1 pins s σ H { D with nx:=u D } I h) λ f s1 q=>?_);cases f with
 | next=>
  obtain ⟨σ',H',I',q⟩:=q;exact h2 pins s1 σ' H' D I' q
 | ret v=>exact q
 | brk=>exact q
 | cont=>exact q
theorem qju (h1:PS X st t):PSs X [st] t:=by
 intro pins s σ H D I h;refine wpAny_execs_cons (thn (h1 pins s σ H D I h) λ f s1 q=>?_);cases f with
 | next=>exact vj0 q
 | ret v=>exact q
 | brk=>exact q
 | cont=>exact q
theorem Inv.quiet {pins:List (Addr×Obj)}{σ:St}{H:Hp}{s:va4} (I:Inv X pins σ H s):interactive X.env=false:=by simp [interactive,I.ok.kind]
def qf6 (te:TE):TS:=λ D σ H=>te σ H λ _ H1=>D.nx σ H1
theorem zgp (he:PE X e te) (hs:swapsWith e none pos.line X.env=pure false:=by rfl):PS X (.Expr e pos) (qf6 te):=by
 intro pins s σ H D I h;exact wpAny_Expr_any (thn (he pins s σ H _ I h) λ v s1 ⟨x,H1,I1,r1,q1⟩=>⟨σ,H1,I1,q1⟩) I.quiet hs
def tRet (te:TE):TS:=λ D σ H=>te σ H D.rt
theorem qh0 (he:PE X e te):PS X (.Return (some e) pos) (tRet te):=by
 intro pins s σ H D I h;exact wpAny_Return_some (thn (he pins s σ H _ I h) λ v s1 ⟨x,H1,I1,r1,q1⟩=>⟨x,σ,H1,I1,r1,q1⟩)
def tIfS (c:TT) (t u:TS):TS:=λ D σ H=>c σ H λ b H1=>if b=true then t D σ H1 else u D σ H1
theorem qpe {c:Expr}{a b:List Stmt}{tc:TT} (hc:PT X c tc) (ha:PSs X a t) (hb:PSs X b u):PS X (.If c a b pos) (tIfS tc t u):=by
 intro pins s σ H D I h;refine wpAny_If (thn (hc pins s σ H _ I h) λ d s1 ⟨H1,I1,q1⟩=>?_);cases d with
 | true=>exact ha pins s1 σ H1 D I1 q1
 | false=>exact hb pins s1 σ H1 D I1 q1
def qcr:TS:=λ _ _ _=>False
theorem qao:PS X st qcr:=λ _ _ _ _ _ _ h=>h.elim
end
abbrev TG:=V->St->Hp->(St->Hp->Prop)->Prop
abbrev TGs:=List V->St->Hp->(St->Hp->Prop)->Prop
def PG (X:Cx) (target:Expr) (t:TG):Prop:=
 ∀ (pins:List (Addr×Obj)) (s:va4) (σ:St) (H:Hp) (v:V) (u:va2) (Q:St->Hp->Prop),Inv X pins σ H s->RelV v u->t v σ H Q ->
  vb1 (vb2 X.prog X.w) X.A (vm7 target X.env u) (λ _ s'=>∃ σ' H',Inv X pins σ' H' s'/\Q σ' H') X.xe s
def PGs (X:Cx) (ts:List Expr) (t:TGs):Prop:=
 ∀ (pins:List (Addr×Obj)) (s:va4) (σ:St) (H:Hp) (vs:List V) (us:List va2) (Q:St->Hp->Prop),Inv X pins σ H s->Vals vs us->t vs σ H Q ->
  vb1 (vb2 X.prog X.w) X.A (assignInOrder ((vc7 ts X.env).map (·.2)) us) (λ _ s'=>∃ σ' H',Inv X pins σ' H' s'/\Q σ' H') X.xe s
abbrev TSet:=V->V->V->Hp->(Hp->Prop)->Prop
def PSet (X:Cx) (t:TSet):Prop:=
 ∀ (pins:List (Addr×Obj)) (s:va4) (σ:St) (H:Hp) (o i v:V) (ov iv u:va2) (Q:Hp->Prop),Inv X pins σ H s->RelV o ov->RelV i iv->RelV v u->t o i v H Q ->
  vb1 (vb2 X.prog X.w) X.A (setItem ov iv u) (λ _ s'=>∃ H',Inv X pins σ H' s'/\Q H') X.xe s
abbrev TIp:=V->V->Hp->VK->Prop
def PIp (X:Cx) (op:vi1) (t:TIp):Prop:=
 ∀ (pins:List (Addr×Obj)) (s:va4) (σ:St) (H:Hp) (x y:V) (v u:va2) (Q:VK),Inv X pins σ H s->RelV x v->RelV y u->t x y H Q ->
  vb1 (vb2 X.prog X.w) X.A (inplaceOp op v u) (EP X pins σ Q) X.xe s
section
variable {X:Cx}{pos:Pos}
def zkt (i:Nat):TG:=λ v σ H Q=>Q (σ.set i (some v)) H
theorem zjg {i:Nat}{x:Str} (hN:X.N.Nodup) (hi:X.N[i]?=some x) (hx:Loc X.env.scope x) (hf:X.fn x=true\/X.env.scope.names.lookup x=some .local:=by first | exact .inl rfl | exact .inr rfl | assumption):PG X (.Name x pos) (zkt i):=by
 intro pins s σ H v u Q I r h;exact wpAny_assign_Name (zpe I hN hi hx r (λ s' I'=>⟨_,H,I',h⟩) hf)
def gNil:TGs:=λ vs σ H Q=>vs=[]/\Q σ H
def qon (t:TG) (u:TGs):TGs:=λ vs σ H Q=>∃ v r,vs=v::r/\t v σ H λ σ' H'=>u r σ' H' Q
theorem qdm:PGs X [] gNil:=by
 intro pins s σ H vs us Q I r h;obtain ⟨e,h⟩:=h;subst e;cases r;exact assignInOrder_nil ⟨σ,H,I,h⟩
theorem qap {e:Expr}{es:List Expr}{t:TG}{u:TGs} (h1:PG X e t) (h2:PGs X es u)
  (hs:(vc7 (e::es) X.env).map (·.2)=vm7 e X.env::(vc7 es X.env).map (·.2):=by rfl):PGs X (e::es) (qon t u):=by
 intro pins s σ H vs us Q I r h;obtain ⟨v,vr,e1,h⟩:=h;subst e1;cases r with
 | cons r rr=>
  rw [hs];refine assignInOrder_cons (thn (h1 pins s σ H _ _ _ I r h) λ _ s1 ⟨σ1,H1,I1,q1⟩=>?_);exact h2 pins s1 σ1 H1 _ _ Q I1 rr q1
def gTup (K:va8) (n:Nat) (t:TGs):TG:=λ v σ H Q=>∃ a xs,v=.ref a/\SqT K H a xs/\xs.length=n/\t xs σ H Q
theorem qdn {es:List Expr}{k:Nat}{t:TGs}{n:Nat} (hc:X.calm=true) (h:PGs X es t)
  (hn:(vc7 es X.env).length=n:=by rfl) (hst:(vc7 es X.env).findIdx? (·.1)=none:=by rfl):PG X (.Tuple es k pos) (gTup X.K n t):=by
 intro pins s σ H v u Q I r hw;obtain ⟨a,xs,e1,hq,hl,hw⟩:=hw;subst e1;cases r;obtain ⟨its,rv,ht,hz⟩:=I.tuple hq;refine assign_Tuple_tuple (I.ok.hd hc) ht (by simp [hn,<- hl,rv.length]) hst λ h' hx=>?_;have I1:Inv X pins σ H { s with heap:=h' }:=I.kept (t':=s.toks) λ b o e=>hx b o (jc9 (va5 e)) e;exact h pins _ σ H xs _ Q I1 (by simpa using rv) hw
def gSub (to ti:TE) (t:TSet):TG:=λ v σ H Q=>to σ H λ o H1=>ti σ H1 λ i H2=>t o i v H2 λ H3=>Q σ H3
theorem qnb {o i:Expr}{to ti:TE}{t:TSet} (ho:PE X o to) (hi:PE X i ti) (hs:PSet X t)
  (ha:∀ v,vm7 (.Subscript o i pos) X.env v=(do
   let ov<-holding [v] (eval o X.env);let iv<-holding [v,ov] (eval i X.env)
   standAt pos
   holding [v,ov,iv] (setItem ov iv v)
   release [v,ov,iv] []):=by intro _;rfl):PG X (.Subscript o i pos) (gSub to ti t):=by
 intro pins s σ H v u Q I r h;rw [ha];refine va0 (vf1 (thn (ho pins s σ H _ I h) λ ov s1 ⟨x,H1,I1,r1,q1⟩=>?_));refine va0 (vf1 (thn (hi pins s1 σ H1 _ I1 q1) λ iv s2 ⟨y,H2,I2,r2,q2⟩=>?_));refine va0 (wpAny_standAt (va0 (vf1 (thn (hs pins s2 σ H2 x y v ov iv u _ I2 r1 r2 r q2) λ _ s3 ⟨H3,I3,q3⟩=>?_))));exact wpAny_release ⟨σ,H3,I3,q3⟩
def tAsg (te:TE) (g:TG):TS:=λ D σ H=>te σ H λ x H1=>g x σ H1 D.nx
theorem qh1 {tg e:Expr}{te:TE}{g:TG} (he:PE X e te) (hg:PG X tg g) (hs:swapsWithSole [tg] e pos.line X.env=pure false:=by rfl) (hw:swappedStores [tg] e X.env=pure none:=by rfl)
  (h1:(vc7 [tg] X.env).map (·.2)=[vm7 tg X.env]:=by rfl):PS X (.Assign [tg] e pos) (tAsg te g):=by
 intro pins s σ H D I h;refine wpAny_Assign_stores (thn (he pins s σ H _ I h) λ v s1 ⟨x,H1,I1,r1,q1⟩=>?_) hs hw;rw [h1];exact thn (hg pins s1 σ H1 x v _ I1 r1 q1) λ _ s2 q=>q
theorem qdg {i:Nat}{x:Str}{e:Expr}{te:TE}{pos':Pos} (hN:X.N.Nodup) (hi:X.N[i]?=some x) (hx:Loc X.env.scope x) (he:PE X e te) (hs:swapsWith e (some (.Name x pos')) pos.line X.env=pure false:=by rfl) (hf:X.fn x=true\/X.env.scope.names.lookup x=some .local:=by first | exact .inl rfl | exact .inr rfl | assumption):
  PS X (.Assign [.Name x pos'] e pos) (tAsg te (zkt i)):=by
 intro pins s σ H D I h;refine wpAny_Assign_Name (thn (he pins s σ H _ I h) λ v s1 ⟨y,H1,I1,r1,q1⟩=>?_) hs;exact zpe I1 hN hi hx r1 (λ s2 I2=>⟨_,H1,I2,q1⟩) hf
def tAug (i:Nat) (te:TE) (ti:TIp):TS:=λ D σ H=>∃ x,σ[i]?=some (some x)/\te σ H λ y H1=>ti x y H1 λ z H2=>D.nx (σ.set i (some z)) H2
theorem qm9 {i:Nat}{x:Str}{e:Expr}{te:TE}{op:vi1}{ti:TIp}{pos':Pos} (hN:X.N.Nodup) (hi:X.N[i]?=some x) (hx:Loc X.env.scope x) (he:PE X e te) (ho:PIp X op ti) (hf:X.fn x=true\/X.env.scope.names.lookup x=some .local:=by first | exact .inl rfl | exact .inr rfl | assumption):
  PS X (.AugAssign (.Name x pos') op e pos) (tAug i te ti):=by
 intro pins s σ H D I h;obtain ⟨v,e1,h⟩:=h;obtain ⟨m,hn,hl⟩:=I.loc;have vis:Vis X.env.scope x:=by rcases hx with k | k;exact .inl k;exact .inr (.inl k)
 obtain ⟨u,r,l⟩:=hl i x v hi e1 vis;refine wpAny_AugAssign_Name ?_;have go:vb1 (vb2 X.prog X.w) X.A (eval e X.env) (λ w s₂=>vb1 (vb2 X.prog X.w) X.A (inplaceOp op u w) (λ r s₃=>vb1 (vb2 X.prog X.w) X.A (storeName X.env x r) (λ _=>SP X pins D .next) X.xe s₃) X.xe s₂) X.xe s:=by
  refine thn (he pins s σ H _ I h) λ w s1 ⟨y,H1,I1,r1,q1⟩=>?_;refine thn (ho pins s1 σ H1 v y u w _ I1 r r1 q1) λ z s2 ⟨zv,H2,I2,r2,q2⟩=>?_;exact zpe I2 hN hi hx r2 (λ s3 I3=>⟨_,H2,I3,q2⟩) hf
 rcases l with ⟨hk,hm⟩ | ⟨hk,c,hc,hcell⟩
 ·exact wpAny_loadName_local I.ok.kind hk hn hm go
 ·rcases hk with hk | hk
  ·exact wpAny_loadName_cell I.ok.kind hk hc hcell go
  ·rcases hx with k | k
   ·have:X.env.scope.names.lookup x=some .free:=hk
    rw [k] at this;cases this
   ·have:X.env.scope.names.lookup x=some .free:=hk
    rw [k] at this;cases this
def qme (to ti te:TE) (tget:V->V->Hp->VK->Prop) (tip:TIp) (tset:TSet):TS:=λ D σ H=>to σ H λ o H1=>ti σ H1 λ i H2=>tget o i H2 λ x H3=>te σ H3 λ y H4=>tip x y H4 λ z H5=>tset o i z H5 λ H6=>D.nx σ H6
def PGet (X:Cx) (t:V->V->Hp->VK->Prop):Prop:=
 ∀ (pins:List (Addr×Obj)) (s:va4) (σ:St) (H:Hp) (o i:V) (ov iv:va2) (Q:VK),Inv X pins σ H s->RelV o ov->RelV i iv->t o i H Q ->
  vb1 (vb2 X.prog X.w) X.A (vm4 ov iv) (EP X pins σ Q) X.xe s
theorem qjw {o i e:Expr}{to ti te:TE}{tget:V->V->Hp->VK->Prop}{tip:TIp}{tset:TSet}{op:vi1}{tpos:Pos} (ho:PE X o to) (hi:PE X i ti) (hg:PGet X tget) (he:PE X e te) (hp:PIp X op tip) (hs:PSet X tset)
  (ha:∀ ov iv new,augStore i ov iv new=(do holding [new,ov,iv] (setItem ov iv new);release [new,ov,iv] [];pure .next):=by intros;rfl):PS X (.AugAssign (.Subscript o i tpos) op e pos) (qme to ti te tget tip tset):=by
 intro pins s σ H D I h;refine wpAny_AugAssign_SubscriptAny (thn (ho pins s σ H _ I h) λ ov s1 ⟨x1,H1,I1,r1,q1⟩=>?_) ha;refine thn (hi pins s1 σ H1 _ I1 q1) λ iv s2 ⟨x2,H2,I2,r2,q2⟩=>?_;refine thn (hg pins s2 σ H2 x1 x2 ov iv _ I2 r1 r2 q2) λ old s3 ⟨x3,H3,I3,r3,q3⟩=>?_;refine thn (he pins s3 σ H3 _ I3 q3) λ v s4 ⟨x4,H4,I4,r4,q4⟩=>?_;refine thn (hp pins s4 σ H4 x3 x4 old v _ I4 r3 r4 q4) λ new s5 ⟨x5,H5,I5,r5,q5⟩=>?_;exact thn (hs pins s5 σ H5 x1 x2 x5 ov iv new _ I5 r1 r2 r5 q5) λ _ s6 ⟨H6,I6,q6⟩=>⟨σ,H6,I6,q6⟩
def ipI (f:Int->Int->Int):TIp:=λ x y H Q=>∃ i j,x=.int i/\y=.int j/\Q (.int (f i j)) H
theorem qid:PIp X .Add (ipI λ i j=>i + j):=by
 intro pins s σ H x y v u Q I r1 r2 h;obtain ⟨i,j,e1,e2,q⟩:=h;subst e1;subst e2;obtain ⟨t,rfl⟩:=r1;obtain ⟨t',rfl⟩:=r2;exact iadd_int ⟨.int _,H,I.tok _,⟨_,rfl⟩,q⟩
theorem qic:PIp X .Sub (ipI λ i j=>i - j):=by
 intro pins s σ H x y v u Q I r1 r2 h;obtain ⟨i,j,e1,e2,q⟩:=h;subst e1;subst e2;obtain ⟨t,rfl⟩:=r1;obtain ⟨t',rfl⟩:=r2;exact isub_int ⟨.int _,H,I.tok _,⟨_,rfl⟩,q⟩
end
section
variable {X:Cx}{pos:Pos}
def qhq (c:TT) (tb:TS):TS:=λ D σ H=>∃ W:Nat->St->Hp->Prop,(∃ m,W m σ H)/\∀ m σ H,W m σ H ->
 c σ H λ b H1=>if b=true then ∃ N:St->Hp->Prop,(∀ σ' H',N σ' H'->∃ m',m' < m/\W m' σ' H')/\tb { D with nx:=N,ct:=N,bk:=D.nx } σ H1 else D.nx σ H1
theorem qge {c:Expr}{body:List Stmt}{tc:TT}{tb:TS} (hp:vn1 (vb2 X.prog X.w) X.A X.env X.xe) (hc:PT X c tc) (hb:PSs X body tb):PS X (.While c body [] pos) (qhq tc tb):=by
 intro pins s σ H D I h;obtain ⟨W,⟨m0,w0⟩,turn⟩:=h;refine wpAny_While (codeAny_whileLoop (λ n s'=>∃ σ' H',Inv X pins σ' H' s'/\W n σ' H') ?_ m0 ⟨σ,H,I,w0⟩);rintro n s1 ⟨σ1,H1,I1,w1⟩;refine vd8 hp (thn (hc pins s1 σ1 H1 _ I1 (turn n σ1 H1 w1)) λ b s2 ⟨H2,I2,q2⟩=>?_);cases b with
 | true=>
  obtain ⟨N,hN,q2⟩:=q2;rw [if_pos rfl];refine vd8 hp (thn (hb pins s2 σ1 H2 _ I2 q2) λ f s3 q3=>?_);cases f with
  | next=>
   obtain ⟨σ3,H3,I3,n3⟩:=q3;obtain ⟨m',hm,w3⟩:=hN σ3 H3 n3;exact ⟨m',hm,σ3,H3,I3,w3⟩
  | cont=>
   obtain ⟨σ3,H3,I3,n3⟩:=q3;obtain ⟨m',hm,w3⟩:=hN σ3 H3 n3;exact ⟨m',hm,σ3,H3,I3,w3⟩
  | brk=>exact q3
  | ret v=>exact q3
 | false=>
  rw [if_neg jb9];exact vj0 ⟨σ1,H2,I2,q2⟩
end
structure It where
 go:Nat->Hp->Prop
 yld:Nat->Hp->V->Hp->Prop
 stop:Nat->Hp->Prop
def FpOk (X:Cx) (pins:List (Addr×Obj)) (H:Hp) (b:Addr):Prop:=
 H b=none/\b≠X.env.locals/\b∉X.fs/\(b∈X.ex\/X.s₀.heap.objs.size<=b)/\(∀ x c,X.env.cells.lookup x=some c->c≠b)/\∀ p∈X.pn++pins,p.1≠b
theorem Inv.fpOk {X:Cx}{pins:List (Addr×Obj)}{σ:St}{H H':Hp}{s:va4}{b:Addr} (I:Inv X pins σ H s) (hb:s.heap.objs.size<=b) (hn:H' b=none):FpOk X pins H' b:=by
 refine ⟨hn,jg0 (jb3 I.lt hb),I.nofs hb,.inr (jd1 I.sz hb),λ x c e z=>?_,λ p hp z=>?_⟩
 ·obtain ⟨v,q⟩:=I.cell x c e;exact absurd (jb3 q.lt (by rw [z];exact hb)) (jd6 _)
 ·exact absurd (jb3 (va5 (I.pin p hp).1) (by rw [z];exact hb)) (jd6 _)
structure Turn (P:vb0) (w:vb4) (K:va8) (tg:Expr) (J:It) (fp:List Addr) (it:Addr) (tn:Nat->Heap->Prop):Prop where
 mem:it∈fp
 obj:∀ i h,tn i h->∀ b∈fp,∃ o,h.get? b=some o/\∀ v,o.data≠.cell v
 keep:∀ i h h',tn i h->(∀ b∈fp,∀ o,h.get? b=some o->h'.get? b=some o)->tn i h'
 item:∀ (X:Cx),X.prog=P->X.w=w->X.K=K->X.calm=true->∀ (i:Nat) (pins:List (Addr×Obj)) (s:va4) (σ:St) (H:Hp) (E:va2->va4->Prop),Inv X pins σ H s->(∀ b∈fp,FpOk X pins H b)->tn i s.heap->J.go i H ->
  vb1 (vb2 P w) X.A (vk1 (.ref it)) (λ r s1=>∃ u,r=some u /\
   vb1 (vb2 P w) X.A (vj2 tg (.ref it) u) (λ _ s2=>∃ x H',Inv X pins σ H' s2/\RelV x u/\J.yld i H x H'/\tn (i + 1) s2.heap/\∀ b∈fp,H' b=none) E s1) E s
 done:∀ (X:Cx),X.prog=P->X.w=w->X.K=K->X.calm=true->∀ (i:Nat) (pins:List (Addr×Obj)) (s:va4) (σ:St) (H:Hp) (E:va2->va4->Prop),Inv X pins σ H s->(∀ b∈fp,FpOk X pins H b)->tn i s.heap->J.stop i H ->
  vb1 (vb2 P w) X.A (vk1 (.ref it)) (λ r s1=>r=none/\Inv X pins σ H s1) E s
 self:∀ (A:vc0) (i:Nat) (s:va4) (Q:va2->va4->Prop) (E:va2->va4->Prop),tn i s.heap->Q (.ref it) s->vb1 (vb2 P w) A (pyIter (.ref it)) Q E s
abbrev TI:=St->Hp->(It->Hp->Prop)->Prop
def PIE (X:Cx) (pins:List (Addr×Obj)) (σ:St) (tg:Expr) (R:It->Hp->Prop) (itv:va2) (s2:va4):Prop:=
 ∃ (it:Addr) (fp:List Addr) (tn:Nat->Heap->Prop) (J:It) (H':Hp),itv=.ref it/\Inv X pins σ H' s2/\Turn X.prog X.w X.K tg J fp it tn/\tn 0 s2.heap/\(∀ b∈fp,FpOk X pins H' b)/\R J H'
def PI (X:Cx) (tg iter:Expr) (wi:TI):Prop:=
 ∀ (pins:List (Addr×Obj)) (s:va4) (σ:St) (H:Hp) (R:It->Hp->Prop),Inv X pins σ H s->wi σ H R ->
  vb1 (vb2 X.prog X.w) X.A (eval iter X.env) (λ v s1=>vb1 (vb2 X.prog X.w) X.A (pyIter v) (PIE X pins σ tg R) X.xe s1) X.xe s
theorem zhk {M:Model}{A:vc0}{E:va2->va4->Prop}{s:va4}{tg:Expr}{it:Addr}{u:va2}{o:Obj}{n:String}{vs:Array va2}{Q:Unit->va4->Prop} (ho:s.heap.get? it=some o) (hc:o.cls=.type n) (hd:o.data=.fields vs)
  (hn:["enumerate","zip","dict_itemiterator","dict_reverseitemiterator","odict_iterator","itertools.zip_longest","itertools.pairwise"].contains n=false) (hQ:Q () s):vb1 M A (vj2 tg (.ref it) u) Q E s:=by
 unfold vj2;cases tg <;> first
  | exact va1 hQ
  | (cases u <;> first
    | exact va1 hQ
    | (refine va0 (wpAny_load ho ?_);rw [hc,hd];show vb1 M A (if (["enumerate","zip","dict_itemiterator","dict_reverseitemiterator","odict_iterator","itertools.zip_longest","itertools.pairwise"].contains n && vs[0]? == some (vj1 _))=true then _ else _) Q E s;rw [if_neg (by intro h;rw [hn,Bool.false_and] at h;cases h)];exact va1 hQ))
def Itl (K:va8) (a:Addr):It:=
 ⟨λ i H=>∃ xs x,SqL K H a xs/\xs[i]?=some x,λ i H x H'=>H'=H/\∀ xs,SqL K H a xs->xs[i]?=some x,λ i H=>∃ xs,SqL K H a xs/\xs.length<=i⟩
def Itt (K:va8) (a:Addr):It:=
 ⟨λ i H=>∃ xs x,SqT K H a xs/\xs[i]?=some x,λ i H x H'=>H'=H/\∀ xs,SqT K H a xs->xs[i]?=some x,λ i H=>∃ xs,SqT K H a xs/\xs.length<=i⟩
def Itr (lo:Int) (n:Nat):It:=⟨λ i _=>i < n,λ i H x H'=>H'=H/\x=.int (lo + i),λ i _=>n<=i⟩
theorem qch {P:vb0}{w:vb4}{K:va8}{tg:Expr} (a it:Addr):Turn P w K tg (Itl K a) [it] it (λ i h=>h.IsListIter it a i) where
 mem:=by simp
 obj:=λ i h st b hb=>by
  have e:b=it:=by simpa using hb
  subst e;obtain ⟨o,e,c,d⟩:=st;exact ⟨o,e,λ v z=>by rw [d] at z;cases z⟩
 keep:=λ i h h' st k=>st.at λ o e=>k it (by simp) o e
 item:=by
  intro X hP hw hK hc i pins s σ H E I hf st hg;subst hP hw hK;obtain ⟨xs,x,hq,hx⟩:=hg;obtain ⟨its,rv,p,hz⟩:=I.list hq;obtain ⟨u,hu,ru⟩:=rv.get hx;obtain ⟨f0,f1,f2,f3,f4,f5⟩:=hf it (by simp);refine wpAny_pyNext_list_item st p.isList (x:=u) (by simpa using hu) λ h' st' sb=>?_;have I1:Inv X pins σ H { s with heap:=h' }:=I.turned (t':=s.toks) (λ b o hb e=>(sb.2 b hb).trans e) f0 f1 f3 f4 f5;obtain ⟨o,e,c,d⟩:=id st';exact ⟨u,rfl,zhk (s:={ s with heap:=h' }) e c d (by decide) ⟨x,H,I1,ru,⟨rfl,λ ys hy=>by rw [I.list_inj hy hq];exact hx⟩,st',λ b hb=>(hf b hb).1⟩⟩
 done:=by
  intro X hP hw hK hc i pins s σ H E I hf st hg;subst hP hw hK;obtain ⟨xs,hq,hx⟩:=hg;obtain ⟨its,rv,p,hz⟩:=I.list hq;obtain ⟨f0,f1,f2,f3,f4,f5⟩:=hf it (by simp);have hl:=rv.length;exact wpAny_pyNext_list_end (I.ok.hd hc) st p.isList (by simp;omega) λ h' eb=>⟨rfl,I.turned (t':=s.toks) (λ b o hb e=>eb b o hb e) f0 f1 f3 f4 f5⟩
 self:=λ _ _ _ _ _ st h=>wpAny_pyIter_listiter st h
theorem qbo {P:vb0}{w:vb4}{K:va8}{tg:Expr} (a it:Addr):Turn P w K tg (Itt K a) [it] it (λ i h=>h.IsTupleIter it a i) where
 mem:=by simp
 obj:=λ i h st b hb=>by
  have e:b=it:=by simpa using hb
  subst e;obtain ⟨o,e,c,d⟩:=st;exact ⟨o,e,λ v z=>by rw [d] at z;cases z⟩
 keep:=λ i h h' st k=>st.at λ o e=>k it (by simp) o e
 item:=by
  intro X hP hw hK hc i pins s σ H E I hf st hg;subst hP hw hK;obtain ⟨xs,x,hq,hx⟩:=hg;obtain ⟨its,rv,p,hz⟩:=I.tuple hq;obtain ⟨u,hu,ru⟩:=rv.get hx;obtain ⟨f0,f1,f2,f3,f4,f5⟩:=hf it (by simp);refine wpAny_pyNext_tuple_item st (show s.heap.IsTuple a its.toArray from p) (x:=u) (by simpa using hu) λ h' st' sb=>?_;have I1:Inv X pins σ H { s with heap:=h' }:=I.turned (t':=s.toks) (λ b o hb e=>(sb.2 b hb).trans e) f0 f1 f3 f4 f5;obtain ⟨o,e,c,d⟩:=id st';exact ⟨u,rfl,zhk (s:={ s with heap:=h' }) e c d (by decide) ⟨x,H,I1,ru,⟨rfl,λ ys hy=>by rw [I.tuple_inj hy hq];exact hx⟩,st',λ b hb=>(hf b hb).1⟩⟩
 done:=by
  intro X hP hw hK hc i pins s σ H E I hf st hg;subst hP hw hK;obtain ⟨xs,hq,hx⟩:=hg;obtain ⟨its,rv,p,hz⟩:=I.tuple hq;obtain ⟨f0,f1,f2,f3,f4,f5⟩:=hf it (by simp);have hl:=rv.length;exact wpAny_pyNext_tuple_end (I.ok.hd hc) st (show s.heap.IsTuple a its.toArray from p) (by simp;omega) λ h' eb=>⟨rfl,I.turned (t':=s.toks) (λ b o hb e=>eb b o hb e) f0 f1 f3 f4 f5⟩
 self:=λ _ _ _ _ _ st h=>wpAny_pyIter_tupleiter st h
theorem qbp {P:vb0}{w:vb4}{K:va8}{tg:Expr} (it:Addr) (lo:Int) (n:Nat):Turn P w K tg (Itr lo n) [it] it (λ i h=>vn2 h it (lo + (i:Nat) * 1) ((n:Int) - (i:Nat)) 1) where
 mem:=by simp
 obj:=λ i h st b hb=>by
  have e:b=it:=by simpa using hb
  subst e;exact ⟨_,st,λ v z=>by
   have z':Data.fields _=Data.cell v:=z;cases z'⟩
 keep:=λ i h h' st k=>k it (by simp) _ st
 item:=by
  intro X hP hw hK hc i pins s σ H E I hf st hg;subst hP hw hK;obtain ⟨f0,f1,f2,f3,f4,f5⟩:=hf it (by simp);have W:=Walks.range (prog:=X.prog) (w:=X.w) (I.ok.hd hc) it lo 1 n;refine W.item i s _ _ hg st λ v h' tk hv st' kk=>?_;obtain ⟨t,rfl⟩:=hv;have I1:Inv X pins σ H { s with heap:=h',toks:=tk }:=I.turned (λ b o hb e=>kk b o (by simpa using hb) e) f0 f1 f3 f4 f5;refine ⟨_,rfl,zhk (s:={ s with heap:=h',toks:=tk }) (n := "range_iterator") st' rfl rfl (by decide) ⟨.int (lo + i),H,I1,⟨t,?_⟩,⟨rfl,rfl⟩,st',λ b hb=>(hf b hb).1⟩⟩;rw [Int.mul_one]
 done:=by
  intro X hP hw hK hc i pins s σ H E I hf st hg;subst hP hw hK;obtain ⟨f0,f1,f2,f3,f4,f5⟩:=hf it (by simp);exact wpAny_pyNext_range_end (I.ok.hd hc) st (by have:n<=i:=hg;omega) λ h' eb=>⟨rfl,I.turned (t':=s.toks) (λ b o hb e=>eb b o hb e) f0 f1 f3 f4 f5⟩
 self:=λ _ _ _ _ _ st h=>wpAny_pyIter_rangeiter st h
section
variable {X:Cx}{tg:Expr}
theorem qan {pins:List (Addr×Obj)}{σ:St}{H:Hp}{s:va4}{R:It->Hp->Prop}{E:va2->va4->Prop}{lo hi:Int}{t u v:Tok}{tk:Nat} (I:Inv X pins σ H s) (h1:-(2 ^ 62)<=lo) (h2:lo < 2 ^ 62) (h3:-(2 ^ 62)<=hi) (h4:hi < 2 ^ 62)
  (q:R (Itr lo (hi - lo).toNat) H):vb1 (vb2 X.prog X.w) X.A (pyIter (.ref s.heap.objs.size)) (PIE X pins σ tg R) E { s with heap:=s.heap.push { cls:=.type "range",data:=.fields #[.int lo t,.int hi u,.int 1 v] },toks:=tk }:=by
 refine wpAny_pyIter_range (IsRange.new ..) (small_one h1 h2 h3 h4) ?_;have I1:Inv X pins σ H { s with heap:=s.heap.push { cls:=.type "range",data:=.fields #[.int lo t,.int hi u,.int 1 v] },toks:=tk }:=I.kept λ b o e=>va3 _ e;refine ⟨(s.heap.push { cls:=.type "range",data:=.fields #[.int lo t,.int hi u,.int 1 v] }).objs.size,[(s.heap.push { cls:=.type "range",data:=.fields #[.int lo t,.int hi u,.int 1 v] }).objs.size],_,_,H,rfl,
  I1.kept (t':=tk) λ b o e=>va3 _ e,qbp _ lo (hi - lo).toNat,?_,λ b hb=>?_,q⟩
 ·have e1:lo + ((0:Nat):Int) * 1=lo:=by simp
  have e2:(((hi - lo).toNat:Nat):Int) - ((0:Nat):Int)=Builtin.Range.rangeSize lo hi 1:=by rw [rangeSize_one];split <;> omega
  show vn2 _ _ (lo + ((0:Nat):Int) * 1) ((((hi - lo).toNat:Nat):Int) - ((0:Nat):Int)) 1;rw [e1,e2];exact va7 _ rfl
 ·have e:b=(s.heap.push { cls:=.type "range",data:=.fields #[.int lo t,.int hi u,.int 1 v] }).objs.size:=by simpa using hb
  subst e;exact I1.fpOk (ja8 _) (I1.hok.fresh (ja8 _))
def qgw (ta:TA):TI:=λ σ H R=>ta σ H λ vs H1=>∃ j:Int,vs=[.int j]/\-(2 ^ 62)<=j/\j < 2 ^ 62/\R (Itr 0 j.toNat) H1
def qgv (ta:TA):TI:=λ σ H R=>ta σ H λ vs H1=>∃ i j:Int,vs=[.int i,.int j]/\(-(2 ^ 62)<=i/\i < 2 ^ 62/\-(2 ^ 62)<=j/\j < 2 ^ 62)/\R (Itr i (j - i).toNat) H1
theorem qdl {a:Expr}{ta:TA}{p pos:Pos} (hg:Gl X "range") (hm:X.mg "range" = none) (ha:PA X [a] ta) (hs:va9 [a] X.env=[(false,eval a X.env)]:=by rfl):PI X tg (.Call (.Name "range" p) [a] [] pos) (qgw ta):=by
 intro pins s σ H R I h;refine Call_ (zvi I hg hm boot_range (vb3 (thn (ha pos pins s σ H _ I h) λ us s1 ⟨vs,H1,I1,r1,q1⟩=>?_) hs rfl));obtain ⟨j,e,q1,q2,q⟩:=q1;subst e;cases r1 with
 | cons r rr=>
  cases rr;obtain ⟨t,rfl⟩:=r;exact call_range_1 (qan I1 (by omega) (by omega) q1 q2 (by simpa using q))
theorem qdk {a b:Expr}{ta:TA}{p pos:Pos} (hg:Gl X "range") (hm:X.mg "range" = none) (ha:PA X [a,b] ta) (hs:va9 [a,b] X.env=[(false,eval a X.env),(false,eval b X.env)]:=by rfl) (hs2:va9 [b] X.env=[(false,eval b X.env)]:=by rfl):
  PI X tg (.Call (.Name "range" p) [a,b] [] pos) (qgv ta):=by
 intro pins s σ H R I h;refine Call_ (zvi I hg hm boot_range (vb3 (thn (ha pos pins s σ H _ I h) λ us s1 ⟨vs,H1,I1,r1,q1⟩=>?_) (by rw [hs,hs2]) (by rw [hs2];rfl)));obtain ⟨i,j,e,⟨q1,q2,q3,q4⟩,q⟩:=q1;subst e;cases r1 with
 | cons r rr=>
  cases rr with
  | cons r' rr=>
   cases rr;obtain ⟨t,rfl⟩:=r;obtain ⟨t',rfl⟩:=r';exact call_range_2 (qan I1 q1 q2 q3 q4 q)
def tFor (wi:TI) (g:TG) (tb:TS):TS:=λ D σ H=>wi σ H λ J H1=>∃ W:Nat->Nat->St->Hp->Prop,(∃ m,W 0 m σ H1)/\∀ i m σ H,W i m σ H ->
 (J.stop i H/\D.nx σ H)\/(J.go i H/\∃ N:St->Hp->Prop,(∀ σ' H',N σ' H'->∃ m',m' < m/\W (i + 1) m' σ' H')/\∀ x H',J.yld i H x H'->g x σ H' λ σ2 H2=>tb { D with nx:=N,ct:=N,bk:=D.nx } σ2 H2)
def zfa (fp:List Addr) (h:Heap):List (Addr×Obj):=fp.filterMap λ b=>(h.get? b).map λ o=>(b,o)
theorem zve {fp:List Addr}{h:Heap}{b:Addr}{o:Obj} (hb:b∈fp) (e:h.get? b=some o):(b,o)∈zfa fp h:=jl0.mpr ⟨b,hb,by rw [e];rfl⟩
theorem qdx {fp:List Addr}{h:Heap}{p:Addr×Obj} (hp:p∈zfa fp h):p.1∈fp/\h.get? p.1=some p.2:=by
 obtain ⟨b,hb,e⟩:=jl0.mp hp;cases q:h.get? b with
 | none=>rw [q] at e;cases e
 | some o=>
  rw [q] at e;have e':(b,o)=p:=Option.some.inj e;subst e';exact ⟨hb,q⟩
theorem Inv.pinned {pins:List (Addr×Obj)}{σ:St}{H:Hp}{s:va4}{fp:List Addr} (I:Inv X pins σ H s) (hf:∀ b∈fp,FpOk X pins H b) (ho:∀ b∈fp,∃ o,s.heap.get? b=some o/\∀ v,o.data≠.cell v):Inv X (pins++zfa fp s.heap) σ H s:=
 I.pins_of λ p hp=>(jd2.mp hp).elim (λ z=>I.pin p (ja5 _ z)) λ z=>by
  obtain ⟨hb,e⟩:=qdx z;obtain ⟨f0,f1,f2,_⟩:=hf p.1 hb;obtain ⟨o,e',d⟩:=ho p.1 hb;rw [e] at e';cases e';exact ⟨e,f0,f1,f2,d⟩
theorem Inv.unpinned {pins pl:List (Addr×Obj)}{σ:St}{H:Hp}{s:va4} (I:Inv X (pins++pl) σ H s):Inv X pins σ H s:=I.pins_of λ p hp=>I.pin p (ja5 _ (ja7 _ hp))
theorem zzp {iter:Expr}{body:List Stmt}{wi:TI}{g:TG}{tb:TS}{pos:Pos} (hp:vn1 (vb2 X.prog X.w) X.A X.env X.xe) (hc:X.calm=true) (hi:PI X tg iter wi) (hg:PG X tg g) (hb:PSs X body tb)
  (hs:∀ x,vh7 iter X.env x=pure x:=by intro _;rfl):PS X (.For tg iter body [] pos) (tFor wi g tb):=by
 intro pins s σ H D I h;refine wpAny_For (thn (hi pins s σ H _ I h) λ v s1 h1=>thn h1 λ itv s2 h2=>?_) hs;obtain ⟨it,fp,tn,J,H2,e,I2,T,st2,f2,W,⟨m0,w0⟩,turn⟩:=h2;subst e;have stat:∀ {H':Hp},(∀ b∈fp,H' b=none)->∀ b∈fp,FpOk X pins H' b:=λ hn b hb=>⟨hn b hb,(f2 b hb).2⟩
 refine codeAny_forLoop_any (λ n s'=>∃ i σ' H',Inv X pins σ' H' s'/\tn i s'.heap/\(∀ b∈fp,H' b=none)/\W i n σ' H') ?_ m0 ⟨0,σ,H2,I2,st2,λ b hb=>(f2 b hb).1,w0⟩;rintro n s3 ⟨i,σ3,H3,I3,st3,fr3,w3⟩;rcases turn i n σ3 H3 w3 with ⟨stop,qn⟩ | ⟨go,N,hN,step⟩
 ·refine vd8 hp (thn (T.done X rfl rfl rfl hc i pins s3 σ3 H3 X.xe I3 (stat fr3) st3 stop) λ r s4 ⟨hr,I4⟩=>?_);subst hr;exact vj0 ⟨σ3,H3,I4,qn⟩
 ·refine vd8 hp (thn (T.item X rfl rfl rfl hc i pins s3 σ3 H3 X.xe I3 (stat fr3) st3 go) λ r s4 ⟨u,hr,h4⟩=>?_);subst hr;refine vd8 hp (thn h4 λ _ s5 ⟨x,H5,I5,r5,y5,st5,fr5⟩=>?_);have I5':=I5.pinned (stat fr5) (T.obj _ _ st5);refine vd8 hp (thn (hg _ s5 σ3 H5 x u _ I5' r5 (step x H5 y5)) λ _ s6 ⟨σ6,H6,I6,q6⟩=>?_);refine vd8 hp (thn (hb _ s6 σ6 H6 _ I6 q6) λ f s7 q7=>?_);have again:∀ {σ7:St}{H7:Hp},Inv X (pins++zfa fp s5.heap) σ7 H7 s7->N σ7 H7->∃ m,m < n/\∃ i σ' H',Inv X pins σ' H' s7/\tn i s7.heap/\(∀ b∈fp,H' b=none)/\W i m σ' H':=λ {σ7 H7} I7 n7=>by
   obtain ⟨m',hm,w7⟩:=hN σ7 H7 n7;refine ⟨m',hm,i + 1,σ7,H7,I7.unpinned,T.keep _ _ _ st5 λ b hb o e=>(I7.pin (b,o) (ja5 _ (ja5 _ (zve hb e)))).1,λ b hb=>?_,w7⟩;obtain ⟨o,e,d⟩:=T.obj _ _ st5 b hb;exact (I7.pin (b,o) (ja5 _ (ja5 _ (zve hb e)))).2.1
  cases f with
  | next=>obtain ⟨σ7,H7,I7,n7⟩:=q7;exact again I7 n7
  | cont=>obtain ⟨σ7,H7,I7,n7⟩:=q7;exact again I7 n7
  | brk=>obtain ⟨σ7,H7,I7,q7⟩:=q7;exact ⟨σ7,H7,I7.unpinned,q7⟩
  | ret v=>obtain ⟨x7,σ7,H7,I7,r7,q7⟩:=q7;exact ⟨x7,σ7,H7,I7.unpinned,r7,q7⟩
end
abbrev R2:=V->V->Hp->VK->Prop
def OpR (X:Cx) (f:va2->va2->Sem va2) (r:R2):Prop:=
 ∀ (pins:List (Addr×Obj)) (s:va4) (σ:St) (H:Hp) (x y:V) (v u:va2) (Q:VK),Inv X pins σ H s->RelV x v->RelV y u->r x y H Q ->
  vb1 (vb2 X.prog X.w) X.A (f v u) (EP X pins σ Q) X.xe s
def UnR (X:Cx) (f:va2->Sem va2) (r:V->Hp->VK->Prop):Prop:=
 ∀ (pins:List (Addr×Obj)) (s:va4) (σ:St) (H:Hp) (x:V) (v:va2) (Q:VK),Inv X pins σ H s->RelV x v->r x H Q ->
  vb1 (vb2 X.prog X.w) X.A (f v) (EP X pins σ Q) X.xe s
def zvb (X:Cx) (f:va2) (r:List V->Hp->VK->Prop):Prop:=
 ∀ (pins:List (Addr×Obj)) (s:va4) (σ:St) (H:Hp) (xs:List V) (us:List va2) (Q:VK),Inv X pins σ H s->Vals xs us->r xs H Q ->
  vb1 (vb2 X.prog X.w) X.A (call f us) (EP X pins σ Q) X.xe s
def tOp (r:R2) (ta tb:TE):TE:=λ σ H Q=>ta σ H λ x H1=>tb σ H1 λ y H2=>r x y H2 Q
def tUn (r:V->Hp->VK->Prop) (ta:TE):TE:=λ σ H Q=>ta σ H λ x H1=>r x H1 Q
def rI (C:Int->Int->Prop) (g:Int->Int->V):R2:=λ x y H Q=>∃ i j,x=.int i/\y=.int j/\C i j/\Q (g i j) H
def rI0 (g:Int->Int->V):R2:=λ x y H Q=>∃ i j,x=.int i/\y=.int j/\Q (g i j) H
def rU (g:Int->V):V->Hp->VK->Prop:=λ x H Q=>∃ i,x=.int i/\Q (g i) H
section
variable {X:Cx}{a b c:Expr}{ta tb tc:TE}{pos:Pos}
theorem binT (ha:PE X a ta) (hb:PE X b tb) {pins:List (Addr×Obj)}{s:va4}{σ:St}{H:Hp}{R:V->V->Hp->Prop} (I:Inv X pins σ H s)
  (h:ta σ H λ x H1=>tb σ H1 λ y H2=>R x y H2) {Q:va2->va4->Prop}{f:va2->va2->Sem va2}
  (hf:∀ v u s2 x y H2,Inv X pins σ H2 s2->RelV x v->RelV y u->R x y H2->vb1 (vb2 X.prog X.w) X.A (f v u) Q X.xe s2):
  vb1 (vb2 X.prog X.w) X.A (eval a X.env) (λ v s₁=>vb1 (vb2 X.prog X.w) X.A (eval b X.env) (λ u s₂=>vb1 (vb2 X.prog X.w) X.A (f v u) Q X.xe s₂) X.xe s₁) X.xe s:=by
 refine thn (ha pins s σ H _ I h) λ v s1 ⟨x,H1,I1,r1,q1⟩=>?_;refine thn (hb pins s1 σ H1 _ I1 q1) λ u s2 ⟨y,H2,I2,r2,q2⟩=>?_;exact hf v u s2 x y H2 I2 r1 r2 q2
theorem qj3 {op:vi1}{r:R2} (ho:OpR X (vf4 op) r) (ha:PE X a ta) (hb:PE X b tb):PE X (.BinOp a op b pos) (tOp r ta tb):=by
 intro pins s σ H Q I h;exact wpAny_BinOp (binT ha hb I h λ v u s2 x y H2 I2 rx ry q=>ho pins s2 σ H2 x y v u Q I2 rx ry q)
theorem qnd {op:UnaryOp}{r:V->Hp->VK->Prop} (ho:UnR X (unaryOp op) r) (ha:PE X a ta):PE X (.UnaryOp op a pos) (tUn r ta):=by
 intro pins s σ H Q I h;exact UnaryOp_ (thn (ha pins s σ H _ I h) λ v s1 ⟨x,H1,I1,r1,q1⟩=>ho pins s1 σ H1 x v Q I1 r1 q1)
theorem opI {f:va2->va2->Sem va2}{C:Int->Int->Prop}{g:Int->Int->Int}
  (rule:∀ (i j:Int) (t u:Tok) (s:va4) (Q:va2->va4->Prop) (E:va2->va4->Prop),C i j->Q (.int (g i j) s.toks) { s with toks:=s.toks + 1 }->vb1 (vb2 X.prog X.w) X.A (f (.int i t) (.int j u)) Q E s):
  OpR X f (rI C λ i j=>.int (g i j)):=by
 intro pins s σ H x y v u Q I rx ry h;obtain ⟨i,j,rfl,rfl,hc,q⟩:=h;obtain ⟨t,rfl⟩:=rx;obtain ⟨t',rfl⟩:=ry;exact rule i j t t' s _ _ hc ⟨.int (g i j),H,I.tok _,⟨_,rfl⟩,q⟩
theorem opI0 {f:va2->va2->Sem va2}{g:Int->Int->Int}
  (rule:∀ (i j:Int) (t u:Tok) (s:va4) (Q:va2->va4->Prop) (E:va2->va4->Prop),Q (.int (g i j) s.toks) { s with toks:=s.toks + 1 }->vb1 (vb2 X.prog X.w) X.A (f (.int i t) (.int j u)) Q E s):
  OpR X f (rI0 λ i j=>.int (g i j)):=by
 intro pins s σ H x y v u Q I rx ry h;obtain ⟨i,j,rfl,rfl,q⟩:=h;obtain ⟨t,rfl⟩:=rx;obtain ⟨t',rfl⟩:=ry;exact rule i j t t' s _ _ ⟨.int (g i j),H,I.tok _,⟨_,rfl⟩,q⟩
theorem opB0 {f:va2->va2->Sem va2}{g:Int->Int->Bool}
  (rule:∀ (i j:Int) (t u:Tok) (s:va4) (Q:va2->va4->Prop) (E:va2->va4->Prop),Q (.bool (g i j)) s->vb1 (vb2 X.prog X.w) X.A (f (.int i t) (.int j u)) Q E s):
  OpR X f (rI0 λ i j=>.bl (g i j)):=by
 intro pins s σ H x y v u Q I rx ry h;obtain ⟨i,j,rfl,rfl,q⟩:=h;obtain ⟨t,rfl⟩:=rx;obtain ⟨t',rfl⟩:=ry;exact rule i j t t' s _ _ ⟨.bl (g i j),H,I,rfl,q⟩
def CPow (i j:Int):Prop:=0<=j/\j<=1000000/\i.natAbs < 2 ^ 64
def CMul (i j:Int):Prop:=(-(2 ^ 64) < i/\i < 2 ^ 64)\/(-(2 ^ 64) < j/\j < 2 ^ 64)
theorem CMul.ok {i j:Int} (h:CMul i j):IntMulOk i j:=by
 rcases h with ⟨h1,h2⟩ | ⟨h1,h2⟩
 ·exact .of_left (intBits_le_64 h1 h2)
 ·exact .of_right (intBits_le_64 h1 h2)
theorem qny:OpR X (vf4 .Add) (rI0 λ i j=>.int (i + j)):=opI0 λ _ _ _ _ _ _ _ q=>add_int q
theorem qnp:OpR X (vf4 .Mult) (rI CMul λ i j=>.int (i * j)):=opI λ _ _ _ _ _ _ _ hc q=>mul_int q hc.ok
theorem qnq:OpR X (vf4 .Mod) (rI (λ _ j=>0 < j) λ i j=>.int (i % j)):=opI λ i j _ _ _ _ _ hc q=>by
 have h1:(0:Int) < j:=hc;exact mod_int' (by omega) (by rw [Int.fmod_eq_emod_of_nonneg i (by omega)];exact q)
theorem qnn:OpR X (vf4 .Pow) (rI CPow λ i j=>.int (i ^ j.toNat)):=opI λ _ _ _ _ _ _ _ hc q=>pow_int_small hc.1 hc.2.1 hc.2.2 q
theorem unI {f:va2->Sem va2}{g:Int->Int}
  (rule:∀ (i:Int) (t:Tok) (s:va4) (Q:va2->va4->Prop) (E:va2->va4->Prop),Q (.int (g i) s.toks) { s with toks:=s.toks + 1 }->vb1 (vb2 X.prog X.w) X.A (f (.int i t)) Q E s):
  UnR X f (rU λ i=>.int (g i)):=by
 intro pins s σ H x v Q I rx h;obtain ⟨i,rfl,q⟩:=h;obtain ⟨t,rfl⟩:=rx;exact rule i t s _ _ ⟨.int (g i),H,I.tok _,⟨_,rfl⟩,q⟩
theorem qho:UnR X (unaryOp .USub) (rU λ i=>.int (-i)):=unI λ _ _ _ _ _ q=>neg_int q
end
def scal:V->V->Bool
 | .non,.non=>true | .non,.int _=>true | .int _,.non=>true | .non,.bl _=>true | .bl _,.non=>true | .non,.str _=>true | .str _,.non=>true
 | .int _,.int _=>true | .bl _,.bl _=>true | .str _,.str _=>true | .byt _,.byt _=>true
 | .int _,.str _=>true | .str _,.int _=>true | .bl _,.str _=>true | .str _,.bl _=>true
 | _,_=>false
def rEq:R2:=λ x y H Q=>scal x y=true/\Q (.bl (decide (x=y))) H
theorem qe3 {i j:Int}:decide (V.int i=V.int j)=(i == j):=by
 rw [je1];simp
theorem qou {i j:Bool}:decide (V.bl i=V.bl j)=(i == j):=by
 rw [je1];simp
theorem qk9 {i j:Str}:decide (V.str i=V.str j)=(i == j):=by
 rw [je1];simp
theorem qla {i j:Array UInt8}:decide (V.byt i=V.byt j)=(i.toList == j.toList):=by
 rw [je1];cases i;cases j;simp
section
variable {X:Cx}{a b c:Expr}{ta tb tc:TE}{pos:Pos}
theorem zwp {pins:List (Addr×Obj)}{σ:St}{H:Hp}{s:va4}{Q:VK}{k k':Bool} (I:Inv X pins σ H s) (q:Q (.bl k) H) (e:k=k'):EP X pins σ Q (.bool k') s:=by
 subst e;exact ⟨.bl k,H,I,rfl,q⟩
theorem qpj:OpR X (vb7 .Eq) rEq:=by
 intro pins s σ H x y v u Q I rx ry h;obtain ⟨hs,q⟩:=h;cases x with
 | non=>
  cases rx;cases y with
  | non=>cases ry;exact PySem.EqNone.eq_none_none (zwp I q (by simp))
  | bl j=>cases ry;exact PySem.EqNone.eq_none_bool (zwp I q (by simp))
  | int j=>obtain ⟨t',rfl⟩:=ry;exact PySem.EqNone.eq_none_int (zwp I q (by simp))
  | str j=>obtain ⟨t',rfl⟩:=ry;exact PySem.EqNone.eq_none_str (zwp I q (by simp))
  | _=>exact absurd (show false=true from hs) jb9
 | bl i=>
  cases rx;cases y with
  | non=>cases ry;exact PySem.EqNone.eq_bool_none (zwp I q (by simp))
  | bl j=>cases ry;exact eq_bool (zwp I q qou)
  | str j=>obtain ⟨t',rfl⟩:=ry;exact PySem.EqMixed.eq_bool_str (zwp I q (by simp))
  | _=>exact absurd (show false=true from hs) jb9
 | int i=>
  obtain ⟨t,rfl⟩:=rx;cases y with
  | non=>cases ry;exact PySem.EqNone.eq_int_none (zwp I q (by simp))
  | int j=>obtain ⟨t',rfl⟩:=ry;exact eq_int (zwp I q qe3)
  | str j=>obtain ⟨t',rfl⟩:=ry;exact PySem.EqMixed.eq_int_str (zwp I q (by simp))
  | _=>exact absurd (show false=true from hs) jb9
 | str i=>
  obtain ⟨t,rfl⟩:=rx;cases y with
  | non=>cases ry;exact PySem.EqNone.eq_str_none (zwp I q (by simp))
  | bl j=>cases ry;exact PySem.EqMixed.eq_str_bool (zwp I q (by simp))
  | int j=>obtain ⟨t',rfl⟩:=ry;exact PySem.EqMixed.eq_str_int (zwp I q (by simp))
  | str j=>obtain ⟨t',rfl⟩:=ry;exact eq_str (zwp I q qk9)
  | _=>exact absurd (show false=true from hs) jb9
 | byt i=>
  obtain ⟨t,rfl⟩:=rx;cases y with
  | byt j=>obtain ⟨t',rfl⟩:=ry;exact PySem.W.eq_bytes (zwp I q qla)
  | _=>exact absurd (show false=true from hs) jb9
 | _=>cases y <;> exact absurd (show false=true from hs) jb9
theorem qnr:OpR X (vb7 .Lt) (rI0 λ i j=>.bl (decide (i < j))):=opB0 λ _ _ _ _ _ _ _ q=>lt_int q
theorem qns:OpR X (vb7 .LtE) (rI0 λ i j=>.bl (decide (i<=j))):=opB0 λ _ _ _ _ _ _ _ q=>le_int q
theorem qnt:OpR X (vb7 .Gt) (rI0 λ i j=>.bl (decide (j < i))):=opB0 λ _ _ _ _ _ _ _ q=>gt_int q
theorem qnu:OpR X (vb7 .GtE) (rI0 λ i j=>.bl (decide (j<=i))):=opB0 λ _ _ _ _ _ _ _ q=>ge_int q
theorem OpR.or {f:va2->va2->Sem va2}{r r':R2} (h:OpR X f r) (h':OpR X f r'):OpR X f (λ x y H Q=>r x y H Q\/r' x y H Q):=by
 intro pins s σ H x y v u Q I rx ry q;rcases q with q | q
 ·exact h pins s σ H x y v u Q I rx ry q
 ·exact h' pins s σ H x y v u Q I rx ry q
theorem qj6 {op:vn3}{r:R2} (ho:OpR X (vb7 op) r) (ha:PE X a ta) (hb:PE X b tb) (hm:vg1 op b=false):PE X (.Compare a [op] [b] pos) (tOp r ta tb):=by
 intro pins s σ H Q I h;exact wpAny_Compare1 (binT ha hb I h λ v u s2 x y H2 I2 rx ry q=>ho pins s2 σ H2 x y v u Q I2 rx ry q) hm
def qls (t:TE):TT:=λ σ H Q=>t σ H λ x H'=>∃ k,x=.bl k/\Q k H'
theorem qjt {op:vn3}{r:R2} (ho:OpR X (vb7 op) r) (ha:PE X a ta) (hb:PE X b tb) (hm:vg1 op b=false):PT X (.Compare a [op] [b] pos) (qls (tOp r ta tb)):=by
 intro pins s σ H Q I h;refine wpAny_isTrue_Compare1 (thn (ha pins s σ H _ I h) λ v s1 ⟨x,H1,I1,r1,q1⟩=>thn (hb pins s1 σ H1 _ I1 q1) λ u s2 ⟨y,H2,I2,r2,q2⟩=>
  thn (ho pins s2 σ H2 x y v u _ I2 r1 r2 q2) λ c s3 ⟨z,H3,I3,r3,k,e,q3⟩=>?_) hm
 subst e;cases r3;exact vc1 ⟨H3,I3,q3⟩
def qct (r r':R2) (ta tb tc:TE):TE:=λ σ H Q=>ta σ H λ x H1=>tb σ H1 λ y H2=>r x y H2 λ z H3=>∃ k,z=.bl k /\
 (if k=true then tc σ H3 λ w' H4=>r' y w' H4 Q else Q (.bl false) H3)
theorem qgi {op op':vn3}{r r':R2} (ho:OpR X (vb7 op) r) (ho':OpR X (vb7 op') r') (ha:PE X a ta) (hb:PE X b tb) (hc:PE X c tc)
  (hm:lastMarks [op,op'] [b,c]=false:=by with_unfolding_all rfl):PE X (.Compare a [op,op'] [b,c] pos) (qct r r' ta tb tc):=by
 intro pins s σ H Q I h;refine Compare_chain (thn (ha pins s σ H _ I h) λ v s1 ⟨x,H1,I1,r1,q1⟩=>chain_link (thn (hb pins s1 σ H1 _ I1 q1) λ u s2 ⟨y,H2,I2,r2,q2⟩=>
  thn (ho pins s2 σ H2 x y v u _ I2 r1 r2 q2) λ d s3 ⟨z,H3,I3,r3,k,e,q3⟩=>?_)) hm
 subst e;cases r3;refine vc1 ?_;cases k with
 | false=>exact ite_ff ⟨.bl false,H3,I3,rfl,q3⟩
 | true=>exact ite_tt (chain_last (thn (hc pins s3 σ H3 _ I3 q3) λ w' s4 ⟨z',H4,I4,r4,q4⟩=>ho' pins s4 σ H4 y z' u w' Q I4 r2 r4 q4))
theorem qgc {op op':vn3}{r r':R2} (ho:OpR X (vb7 op) r) (ho':OpR X (vb7 op') r') (ha:PE X a ta) (hb:PE X b tb) (hc:PE X c tc)
  (hm:lastMarks [op,op'] [b,c]=false:=by with_unfolding_all rfl):PT X (.Compare a [op,op'] [b,c] pos) (qls (qct r r' ta tb tc)):=by
 intro pins s σ H Q I h;refine isTrue_chain (thn (ha pins s σ H _ I h) λ v s1 ⟨x,H1,I1,r1,q1⟩=>test_link (thn (hb pins s1 σ H1 _ I1 q1) λ u s2 ⟨y,H2,I2,r2,q2⟩=>
  thn (ho pins s2 σ H2 x y v u _ I2 r1 r2 q2) λ d s3 ⟨z,H3,I3,r3,k,e,q3⟩=>?_)) hm
 subst e;cases r3;refine vc1 ?_;cases k with
 | false=>
  obtain ⟨k',e',q'⟩:=q3;cases e';exact ite_ff ⟨H3,I3,q'⟩
 | true=>
  refine ite_tt (test_last (thn (hc pins s3 σ H3 _ I3 q3) λ w' s4 ⟨z',H4,I4,r4,q4⟩=>thn (ho' pins s4 σ H4 y z' u w' _ I4 r2 r4 q4) λ d' s5 ⟨z2,H5,I5,r5,k2,e2,q5⟩=>?_));subst e2;cases r5;exact vc1 ⟨H5,I5,q5⟩
theorem zjn:(va6:Nat) < 2 ^ 63:=by rw [sizeLine_eq];decide
theorem zhh:OpR X (inplaceOp .Add) (λ x y H Q=>∃ i j,x=.str i/\y=.str j/\i.length + j.length<=va6/\Q (.str (i++j)) H):=by
 intro pins s σ H x y v u Q I rx ry h;obtain ⟨i,j,rfl,rfl,hz,q⟩:=h;obtain ⟨t,rfl⟩:=rx;obtain ⟨t',rfl⟩:=ry;exact iadd_str (λ t' tk=>⟨.str (i++j),H,I.tok _,⟨_,rfl⟩,q⟩) hz
theorem zbz {x:V}{us:List va2} (r:Vals [x] us):∃ u,us=[u]/\RelV x u:=by
 cases r with
 | cons r1 r2=>cases r2;exact ⟨_,rfl,r1⟩
theorem qlo {x y:V}{us:List va2} (r:Vals [x,y] us):∃ u w',us=[u,w']/\RelV x u/\RelV y w':=by
 cases r with
 | cons r1 r2=>
  cases r2 with
  | cons r3 r4=>cases r4;exact ⟨_,_,rfl,r1,r3⟩
theorem qfk (hc:X.calm=true):zvb X (.builtin "max") (λ xs H Q=>∃ i j,xs=[.int i,.int j]/\Q (.int (if j > i then j else i)) H):=by
 intro pins s σ H xs us Q I r h;obtain ⟨i,j,rfl,q⟩:=h;obtain ⟨u,w',rfl,⟨t,rfl⟩,⟨t',rfl⟩⟩:=qlo r;refine max_two_ints (I.ok.hd hc) λ h' tk k=>⟨_,H,I.kept k,?_,q⟩
 by_cases hj:j > i
 ·rw [if_pos hj,if_pos hj];exact ⟨_,rfl⟩
 ·rw [if_neg hj,if_neg hj];exact ⟨_,rfl⟩
end
structure ObjM (h:Heap) (x dx C:Addr) (mA:Str->Option va2):Prop where
 obj:h.get? x=some (vm8 C dx)
 ns:h.Ns1 dx mA
 ne:dx≠x
theorem qd6 {h:Heap}{dx:Addr}{mA:Str->Option va2} (n:h.Ns1 dx mA):∃ od,h.get? dx=some od/\∀ name,vn7 name od=some (mA name):=by
 obtain ⟨o,es,ep,ho,hd,hk,_,hm⟩:=n;refine ⟨o,ho,λ name=>?_⟩;have e:=hm name;unfold nsFind findBy at e;rw [<- Array.find?_toList] at e;unfold vn7;rw [hd];dsimp only;split
 ·rename_i y q;rw [q] at e;exact congrArg some e
 ·rename_i q;rw [q] at e;have a:es.toList.any (·.refKey)=false:=by
   rw [List.any_eq_false];intro y hy;obtain ⟨z,t,hkey⟩:=hk y (Array.mem_toList_iff.mp hy);simp [DictEntry.refKey,hkey]
  have a':¬ es.toList.any (·.refKey)=true:=by rw [a];exact jb9
  rw [if_neg a'];exact congrArg some e
theorem ObjM.look {h:Heap}{x dx C:Addr}{mA:Str->Option va2} (I:ObjM h x dx C mA):∃ od,PySem.W.InstAt h x (vm8 C dx) C (some od)/\∀ name,vn7 name od=some (mA name):=
 let ⟨od,ho,hl⟩:=qd6 I.ns
 ⟨od,⟨I.obj,rfl,rfl,ho⟩,hl⟩
section
variable {prog:vb0}{w:vb4}{A:vc0}{E:va2->va4->Prop}{s:va4}{K:va8}{x dx C f:Addr}{mA:Str->Option va2}{name:Str}{v:va2}
end
theorem RelO.some_of {v:V}{o:Option va2} (r:RelO (some v) o):∃ u,o=some u/\RelV v u:=by
 cases o with
 | none=>exact (show False from r).elim
 | some u=>exact ⟨u,rfl,r⟩
section
variable {P:vb0}{w:vb4}{H H':Hp}{h h':Heap}{a C dx:Addr}{fs fs':List (Str×V)}
theorem qkt (hok:HOk P w H h) (e:H a=some (.ins C dx fs)):∃ mA,ObjM h a dx C mA/\(∀ f,RelO (fs.lookup f) (mA f))/\PySem.Within mA (fs.map (·.1))/\fs.length<=1000/\H dx=some (.own a):=by
 obtain ⟨d,z,ne,ob,mA,n,r,q⟩:=(show zxc P w H h a (.ins C dx fs) from hok a _ e)
 exact ⟨mA,⟨ob,n,ne⟩,r,q,z,d⟩
end
structure Cls (K:va8) (C:Addr):Prop where
 pg:PySem.W.plainGet K C Str.empty=true
 hd:PySem.W.hasDictIn K C=true
 po:PySem.W.plainOver K C=true
 sa:vh2 K (.ref C) "__setattr__" = some (some (.builtin "object.__setattr__"))
theorem Cls.get {K:va8}{C:Addr} (c:Cls K C) (f:Str):PySem.W.plainGet K C f=true:=c.pg
structure Con (K:va8) (C:Addr) (f:Str) (v:V) (u:va2):Prop where
 at_:vh2 K (.ref C) f=some (some u)
 rel:RelV v u
 get:PySem.W.specialIn K u "__get__" = some none
 cp:PySem.W.copiedNames.contains f=false
structure Meth (K:va8) (C:Addr) (m:Str) (f:Addr):Prop where
 at_:vh2 K (.ref C) m=some (some (.ref f))
 fn:PySem.W.isFn K (.ref f)=true
 kp:ve2 K (.ref f)=true
section
variable {X:Cx}{pins:List (Addr×Obj)}{σ:St}{H:Hp}{s:va4}{a C dx:Addr}{fs:List (Str×V)}{f:Str}{v:V}{A:vc0}{E:va2->va4->Prop}
end
section
variable {X:Cx}{o e value:Expr}{f:Str}{pos pos' tpos:Pos}{ta tv:TE}
end
section
variable {X:Cx}{pins:List (Addr×Obj)}{σ:St}{H:Hp}{s:va4}{A:vc0}{E:va2->va4->Prop}{Q:va2->va4->Prop}{c:va2}{b:Bool}
inductive TyOf (K:va8) (H:Hp):V->va2->Prop where
 | non:TyOf K H .non (.type "NoneType")
 | bl (x:Bool):TyOf K H (.bl x) (.type "bool")
 | int (i:Int):TyOf K H (.int i) (.type "int")
 | str (x:Str):TyOf K H (.str x) (.type "str")
 | flt (x:UInt64):TyOf K H (.flt x) (.type "float")
 | lst {a:Addr}{xs:List V} (e:H a=some (.lst xs)):TyOf K H (.ref a) (.type "list")
 | frz {a:Addr}{o:Obj}{xs:List V} (e:H a=some (.frz o (.lst xs))):TyOf K H (.ref a) (.type "list")
 | tup {a:Addr}{xs:List V} (e:H a=some (.tup xs)):TyOf K H (.ref a) (.type "tuple")
 | dK {a:Addr}{kvs:List (Key×V)} (e:H a=some (.dK kvs)):TyOf K H (.ref a) (.type "dict")
 | dT {a:Addr}{kvs:List (List Key×V)} (e:H a=some (.dT kvs)):TyOf K H (.ref a) (.type "dict")
 | ins {a C dx:Addr}{fs:List (Str×V)} (e:H a=some (.ins C dx fs)) (cl:Cls K C) (ha:vh2 K (.ref C) "__class__" = some (some (.builtin "object.__class__")))
   (hn:PySem.W.specialIn K (.builtin "object.__class__") "__get__" = some (some (.builtin "getset_descriptor.__get__"))) (htk:PySem.W.takesIn K (.builtin "object.__class__")=some true)
   (hm:PySem.W.mroIn K C (.type "object")=some true):TyOf K H (.ref a) (.ref C)
theorem qef {x:V}{u t:va2} (I:Inv X pins σ H s) (rx:RelV x u) (ty:TyOf X.K H x t) (e:vj7 X.K t c=some b) (h:∀ tk,Q (.bool b) { s with toks:=tk }):
  vb1 (vb2 X.prog X.w) A (call (.builtin "isinstance") [u,c]) Q E s:=by
 cases ty with
 | non=>cases (show u=Value.none from rx);exact vb8 PySem.W.kitx_none I.kIn True.intro e (λ z=>nomatch z) h
 | bl y=>cases (show u=Value.bool y from rx);exact vb8 PySem.W.kitx_bool I.kIn True.intro e (λ z=>nomatch z) h
 | int i=>obtain ⟨t,q⟩:=(show ∃ t,u=Value.int i t from rx);cases q;exact vb8 PySem.W.kitx_int I.kIn True.intro e (λ z=>nomatch z) h
 | str y=>obtain ⟨t,q⟩:=(show ∃ t,u=Value.str y t from rx);cases q;exact vb8 PySem.W.kitx_str I.kIn True.intro e (λ z=>nomatch z) h
 | flt y=>obtain ⟨t,q⟩:=(show ∃ t,u=Value.float y t from rx);cases q;exact vb8 PySem.W.kitx_float I.kIn True.intro e (λ z=>nomatch z) h
 | @lst a xs ea=>
  cases (show u=Value.ref a from rx);obtain ⟨_,_,n,_,h1⟩:=(show zxc X.prog X.w H s.heap a (.lst xs) from I.hok a _ ea)
  exact vb8 PySem.W.kitx_list I.kIn ⟨_,h1,rfl⟩ e (λ z=>nomatch z) h
 | @frz a ob xs ea=>
  cases (show u=Value.ref a from rx);obtain ⟨_,_,_,n,_,h1⟩:=(show zxc X.prog X.w H s.heap a (.frz ob (.lst xs)) from I.hok a _ ea)
  exact vb8 PySem.W.kitx_list I.kIn ⟨_,h1,rfl⟩ e (λ z=>nomatch z) h
 | @tup a xs ea=>
  cases (show u=Value.ref a from rx);obtain ⟨_,_,_,p⟩:=(show zxc X.prog X.w H s.heap a (.tup xs) from I.hok a _ ea)
  obtain ⟨o,h1,h2,_⟩:=p;exact vb8 PySem.W.kitx_tuple I.kIn ⟨o,h1,h2⟩ e (λ z=>nomatch z) h
 | @dK a kvs ea=>
  cases (show u=Value.ref a from rx);obtain ⟨_,_,vs,_,p⟩:=(show zxc X.prog X.w H s.heap a (.dK kvs) from I.hok a _ ea)
  obtain ⟨o,es,ep,h1,h2,_⟩:=p;exact vb8 PySem.W.kitx_dict I.kIn ⟨o,h1,h2.1⟩ e (λ z=>nomatch z) h
 | @dT a kvs ea=>
  cases (show u=Value.ref a from rx);obtain ⟨_,_,xs,_,o,es,ep,h1,h2,_⟩:=(show zxc X.prog X.w H s.heap a (.dT kvs) from I.hok a _ ea)
  exact vb8 PySem.W.kitx_dict I.kIn ⟨o,h1,h2.1⟩ e (λ z=>nomatch z) h
 | @ins a C dx fs ea cl ha hn htk hm=>
  cases (show u=Value.ref a from rx);obtain ⟨mA,O,_⟩:=qkt I.hok ea;obtain ⟨od,J,_⟩:=O.look;exact vb8 (PySem.W.kitx_own (cl.get _) cl.hd ha hn htk hm) I.kIn J e (λ z=>nomatch z) h
end
structure Room (k:Nat) (A:vc0):Prop where
 hd:A.handled=none
 dp:A.depth + 3 * k + 5 < recursionLimit
 un:A.units + 16 * k + 200 < vl6
 gd:A.guards=some []
theorem Room.mono {j k:Nat}{A:vc0} (r:Room k A) (h:j<=k):Room j A:=⟨r.hd,by have:=r.dp;omega,by have:=r.un;omega,r.gd⟩
theorem Room.deeper {k:Nat}{A:vc0} (r:Room (k + 1) A) (env:Env):Room k (A.deeper env):=
 ⟨r.hd,by have:=r.dp;show A.depth + 1 + 3 * k + 5 < _;omega,by have:=r.un;show A.units + 3 + 16 * k + 200 < _;omega,r.gd⟩
theorem Room.depth {k:Nat}{A:vc0} (r:Room k A):A.depth < recursionLimit:=by have:=r.dp;omega
theorem Room.units {k:Nat}{A:vc0} (r:Room k A):A.units + 64 < vl6:=by have:=r.un;omega
def tNil:TA:=λ _ H Q=>Q [] H
def qf7 (ta:TE) (tr:TA):TA:=λ σ H Q=>ta σ H λ x H1=>tr σ H1 λ xs H2=>Q (x::xs) H2
section
variable {X:Cx}{e:Expr}{es:List Expr}{te:TE}{t:TA}{pos:Pos}
theorem qar:PA X [] tNil:=λ _ _ _ _ H Q I h=>vl2 ⟨[],H,I,.nil,h⟩
theorem zji (ha:PE X e te) (hr:PA X es t) (hs:va9 (e::es) X.env=(false,eval e X.env)::va9 es X.env:=by rfl):PA X (e::es) (qf7 te t):=by
 intro pos pins s σ H Q I h;rw [hs];show vb1 _ _ (spliced ((false,eval e X.env)::vg0 pos (va9 es X.env))) _ _ s;refine vk3 (thn (ha pins s σ H _ I h) λ u s1 ⟨x,H1,I1,r1,q1⟩=>?_);exact thn (hr pos pins s1 σ H1 _ I1 q1) λ us s2 ⟨xs,H2,I2,r2,q2⟩=>⟨x::xs,H2,I2,.cons r1 r2,q2⟩
def tTup (t:TA):TE:=λ σ H Q=>t σ H λ xs H1=>xs.length<=va6/\∀ p,H1 p=none->Q (.ref p) (upd H1 p (.tup xs))
def tLst (t:TA):TE:=λ σ H Q=>t σ H λ xs H1=>xs.length<=va6/\∀ p,H1 p=none->Q (.ref p) (upd H1 p (.lst xs))
theorem qne {x1} (h:PA X es t):PE X (.Tuple es x1 pos) (tTup t):=by
 intro pins s σ H Q I hq;refine wpAny_Tuple_spliced (thn (h pos pins s σ H _ I hq) λ us s1 ⟨xs,H1,I1,r,z,q⟩=>⟨by rw [<- r.length];exact z,?_⟩);have hf:H1 s1.heap.objs.size=none:=I1.hok.fresh (ja8 _);refine ⟨.ref s1.heap.objs.size,upd H1 s1.heap.objs.size (.tup xs),I1.laid (t':=s1.toks) (λ b u e=>va3 _ e) (ja8 _) ?_,rfl,q _ hf⟩;exact ⟨z,us,r,⟨_,va7 _ rfl,rfl,_,rfl⟩⟩
theorem qh4 (h:PA X es t):PE X (.List es pos) (tLst t):=by
 intro pins s σ H Q I hq;refine wpAny_List_spliced (thn (h pos pins s σ H _ I hq) λ us s1 ⟨xs,H1,I1,r,z,q⟩=>⟨by rw [<- r.length];exact z,?_⟩);have hf:H1 s1.heap.objs.size=none:=I1.hok.fresh (ja8 _);refine ⟨.ref s1.heap.objs.size,upd H1 s1.heap.objs.size (.lst xs),I1.laid (t':=s1.toks) (λ b u e=>va3 _ e) (ja8 _) ?_,rfl,q _ hf⟩;exact ⟨z,us,0,r,va7 _ rfl⟩
end
abbrev Sp:=List V->Hp->VK->XK->Prop
abbrev CXT:=List Env->Hp->va4->XK->va2->va4->Prop
structure Env0 (P:vb0) (w:vb4) (K:va8) (mg:Str->Option va2) (base:Heap) (A:vc0) (outer:List Env) (s:va4) (H:Hp):Prop where
 frames:A.frames=some outer
 mod:Mod K mg base
 bs:∀ b o,base.get? b=some o->s.heap.get? b=some o/\H b=none
 bsz:base.objs.size<=s.heap.objs.size
 funs:s.heap.FunFrames base outer
 frf:∀ b∈frs outer,H b=none
 hok:HOk P w H s.heap
 bare:vi3 s.gens
def CE (outer:List Env) (P:vb0) (w:vb4) (H:Hp) (s:va4) (Q:VK) (u:va2) (s':va4):Prop:=
 ∃ v H',s'.os=s.os/\vi3 s'.gens/\Un (frs outer) [] H H' s.heap s'.heap/\HOk P w H' s'.heap/\RelV v u/\Q v H'
def CR (CX:CXT) (outer:List Env) (P:vb0) (w:vb4) (H:Hp) (s:va4) (Q:VK) (E:XK) (r:Result) (s':va4):Prop:=
 match r with
 | .ok (.ret u)=>CE outer P w H s Q u s'
 | .ok _=>False
 | .error e=>CX outer H s E e s'
structure FnOk (P:vb0) (w:vb4) (K:va8) (mg:Str->Option va2) (base:Heap) (CX:CXT) (k:Nat) (f:Addr) (fd:vc5) (ps:List Str) (sp:Sp):Prop where
 len:∀ vs H Q E,sp vs H Q E->vs.length=ps.length
 run:∀ (A:vc0) (outer:List Env) (s:va4) (H:Hp) (args:Args) (us:List va2) (vs:List V) (Q:VK) (E:XK),Room k A->Env0 P w K mg base A outer s H->BindsTo s fd args (ps.zip us)->Vals vs us->sp vs H Q E ->
  vk6 (vb2 P w) A (.call (.ref f) args) (CR CX outer P w H s Q E) s
theorem FnOk.mono {P:vb0}{w:vb4}{K:va8}{mg:Str->Option va2}{base:Heap}{CX:CXT}{j k:Nat}{f:Addr}{fd:vc5}{ps:List Str}{sp:Sp} (F:FnOk P w K mg base CX j f fd ps sp) (h:j<=k):
  FnOk P w K mg base CX k f fd ps sp:=⟨F.len,λ A outer s H args us vs Q E hr=>F.run A outer s H args us vs Q E (hr.mono h)⟩
section
variable {X:Cx}{pins:List (Addr×Obj)}{σ:St}{H:Hp}{s s':va4}
theorem Inv.env0 (I:Inv X pins σ H s):Env0 X.prog X.w X.K X.mg X.base X.A X.stack s H:=
 ⟨I.ok.frames,I.ok.mod,I.bs,jd1 I.ok.bsz I.sz,I.stack,I.stkFree,I.hok,I.bare⟩
theorem Inv.after {Q:VK}{u:va2} (I:Inv X pins σ H s) (h:CE X.stack X.prog X.w H s Q u s'):EP X pins σ Q u s':=by
 obtain ⟨v,H',os,bare,un,hok,r,q⟩:=h;obtain ⟨hh,g,d,t,os'⟩:=s';obtain rfl:os'=s.os:=os;exact ⟨v,H',I.call (h':=hh) (g':=g) (d':=d) (t':=t) (ch:=[]) un hok bare (λ b z=>absurd z (by simp)),r,q⟩
end
def zgh (K:va8) (fd:vc5) (ps:List Str) (ds:List va2):Prop:=
 ∀ (s:va4) (us:List va2),K.In s.heap->(us++ds).length=ps.length->BindsTo s fd ⟨us,[]⟩ (ps.zip (us++ds))
theorem zgh.all {K:va8}{fd:vc5}{ps:List Str} (h:∀ us:List va2,us.length=ps.length->bindArgs fd ⟨us,[]⟩=pure (ps.zip us)):zgh K fd ps []:=λ s us _ hl=>by
 rw [jh3] at hl ⊢;exact .of_eq (h us hl)
section
variable {X:Cx}{CX:CXT}{k:Nat}{f C:Addr}{fd:vc5}{ps:List Str}{sp:Sp}{dvs:List V}{ds:List va2}{E:XK}{x m:Str}{p pos apos:Pos}{e o:Expr}{es:List Expr}{ta:TE}{t:TA}
structure Mk (K:va8) (C f:Addr):Prop where
 makes:PySem.W.makesIn K C=true
 init:vh2 K (.ref C) "__init__" = some (some (.ref f))
 fn:PySem.W.isFn K (.ref f)=true
 kp:ve2 K (.ref C)=true
end
section
variable {X:Cx}{CX:CXT}{k:Nat}{f C:Addr}{fd:vc5}{ps ks:List Str}{sp:Sp}{E:XK}{x m:Str}{p pos apos kpos:Pos}{e o:Expr}{es:List Expr}{kws:List Keyword}{te ta:TE}{t tk:TA}{nm:Option Str}
structure KBinds (K:va8) (fd:vc5) (ps ks:List Str) (g:List va2->List va2->List va2) (gV:List V->List V->List V):Prop where
 to:∀ (s:va4) (us ws:List va2),K.In s.heap->(g us ws).length=ps.length->BindsTo s fd ⟨us,ks.zip ws⟩ (ps.zip (g us ws))
 rel:∀ {vs:List V}{us:List va2}{zs:List V}{ws:List va2},Vals vs us->Vals zs ws->Vals (gV vs zs) (g us ws)
variable {g:List va2->List va2->List va2}{gV:List V->List V->List V}
end
structure FnScope (N P:List Str) (sc:vd1):Prop where
 kind:sc.kind=.function:=by rfl
 co:sc.isCoroutine=false:=by rfl
 gen:sc.isGenerator=false:=by rfl
 nd:N.Nodup:=by decide +kernel
 pre:N.take P.length=P:=by rfl
 par:∀ x∈P,sc.names.lookup x=some .local\/sc.names.lookup x=some .cell:=by decide +kernel
 nofree:∀ y∈sc.names,y.2≠.free:=by decide +kernel
theorem zfz {kindOf:Str->Option vc8}{x:Str}:∀ {binds:List (Str×va2)}{m:Str->Option va2},(∀ v,(x,v)∉binds)->bindL kindOf binds m x=m x
 | [],_,_=>rfl
 | (n,v)::r,m,h=>by
  unfold bindL;rw [zfz λ w hw=>h w (ja0 _ hw)];split
  ·have:x≠n:=by rintro rfl;exact h v ja1
   simp [this]
  ·rfl
theorem zgb {kindOf:Str->Option vc8}{x:Str}:∀ {binds:List (Str×va2)}{m:Str->Option va2},(∀ v,(x,v)∉binds)->bindC kindOf binds m x=m x
 | [],_,_=>rfl
 | (n,v)::r,m,h=>by
  unfold bindC;rw [zgb λ w hw=>h w (ja0 _ hw)];split
  ·rfl
  ·have:x≠n:=by rintro rfl;exact h v ja1
   simp [this]
theorem zga {kindOf:Str->Option vc8}{x:Str}{v:va2}:∀ {P:List Str}{vs:List va2}{i:Nat}{m:Str->Option va2},P.Nodup->P[i]?=some x->vs[i]?=some v->kindOf x=some .local ->
  bindL kindOf (P.zip vs) m x=some v
 | [],_,_,_,_,h,_,_=>by simp at h
 | _::_,[],_,_,_,_,h,_=>by simp at h
 | p::P,w::vs,0,m,nd,h1,h2,hk=>by
  simp at h1 h2;subst h1;subst h2;show bindL kindOf ((p,w)::P.zip vs) m p=_;unfold bindL;rw [zfz λ v hv=>(ji5.mp nd).1 (jm3 hv).1,if_pos hk];simp
 | p::P,w::vs,i + 1,m,nd,h1,h2,hk=>by
  show bindL kindOf ((p,w)::P.zip vs) m x=_;unfold bindL;exact zga (i:=i) (ji5.mp nd).2 (by simpa using h1) (by simpa using h2) hk
theorem zgc {kindOf:Str->Option vc8}{x:Str}{v:va2}:∀ {P:List Str}{vs:List va2}{i:Nat}{m:Str->Option va2},P.Nodup->P[i]?=some x->vs[i]?=some v->kindOf x≠some .local ->
  bindC kindOf (P.zip vs) m x=some v
 | [],_,_,_,_,h,_,_=>by simp at h
 | _::_,[],_,_,_,_,h,_=>by simp at h
 | p::P,w::vs,0,m,nd,h1,h2,hk=>by
  simp at h1 h2;subst h1;subst h2;show bindC kindOf ((p,w)::P.zip vs) m p=_;unfold bindC;rw [zgb λ v hv=>(ji5.mp nd).1 (jm3 hv).1,if_neg hk];simp
 | p::P,w::vs,i + 1,m,nd,h1,h2,hk=>by
  show bindC kindOf ((p,w)::P.zip vs) m x=_;unfold bindC;exact zgc (i:=i) (ji5.mp nd).2 (by simpa using h1) (by simpa using h2) hk
def start (N:List Str) (vs:List V):St:=vs.map some++ja2 (N.length - vs.length) none
def cxOf (CX:CXT) (P:vb0) (w:vb4) (K:va8) (mg:Str->Option va2) (base:Heap) (N:List Str) (qual:Str) (scope:vd1) (f:Addr) (cd:va2) (A:vc0) (outer:List Env) (s:va4) (H:Hp) (E:XK):Cx where
 prog:=P
 w:=w
 K:=K
 mg:=mg
 base:=base
 A:=A.deeper (vm5 qual scope s.heap.objs.size f cd)
 N:=N
 s₀:=s
 H₀:=H
 env:=vm5 qual scope s.heap.objs.size f cd
 outer:=outer
 stack:=vm5 qual scope s.heap.objs.size f cd::outer
 ex:=[]
 calm:=true
 fn:=λ _=>true
 pn:=[]
 xe:=λ e s'=>vb1 (vb2 P w) (A.deeper (vm5 qual scope s.heap.objs.size f cd)) (leaving (vm5 qual scope s.heap.objs.size f cd) e) (λ _ s''=>CX outer H s E e s'') (λ e' s''=>CX outer H s E e' s'') s'
theorem qbj {sc:vd1}{n:Nat}{x:Str} (h:sc.names.lookup x=some .cell):∃ c,(vb9 n sc.names []).lookup x=some c:=by
 have q:=PySem.W.cellsFrom_some sc.names n [] (.inl h);exact Option.isSome_iff_exists.mp q
theorem qel {CX:CXT}{P:vb0}{w:vb4}{K:va8}{mg:Str->Option va2}{base:Heap}{N ps:List Str}{qual:Str}{scope:vd1}{f:Addr}{cd:va2}{A:vc0}{outer:List Env}{s s1:va4}{H:Hp}{E:XK}{us:List va2}{vs:List V}
  (S:FnScope N ps scope) (hd:A.handled=none) (e0:Env0 P w K mg base A outer s H) (hl:vs.length=ps.length) (r:Vals vs us)
  (x:InCallC s s.heap.objs.size (bindL (vm5 qual scope s.heap.objs.size f cd).kindOf (ps.zip us) λ _=>none) (vb9 (s.heap.objs.size + 1) scope.names []) (bindC (vm5 qual scope s.heap.objs.size f cd).kindOf (ps.zip us) λ _=>none) s1):
  Inv (cxOf CX P w K mg base N qual scope f cd A outer s H E) [] (start N vs) H s1:=by
 have hpl:ps.length<=N.length:=by have:=congrArg List.length S.pre;rw [je5] at this;omega
 obtain ⟨h1,tk,rfl,hk⟩:=x.done;have noA:∀ b:Addr,b∉(cxOf CX P w K mg base N qual scope f cd A outer s H E).ex:=λ b z=>absurd (show b∈([]:List Addr) from z) (by simp);refine ⟨⟨e0.mod,S.kind,rfl,rfl,ja8 _,λ y z c h1 h2=>?_,λ y hy=>?_,λ y c _ h=>?_,λ _=>hd,Around.frames_deeper e0.frames,.inr ⟨rfl,rfl⟩,λ b z=>absurd z (noA b),e0.bs,e0.bsz,λ b _ _=>noA b,λ b z=>absurd z (noA b),e0.funs,e0.frf⟩,
  rfl,e0.bare,Un.kept hk,⟨_,x.toInCall.ns,λ i y v h1 h2 h3=>?_⟩,λ y c h=>⟨_,x.cell y c h⟩,e0.hok.fresh (ja8 _),λ y c h=>?_,λ p hp=>absurd (show p∈([]:List (Addr×Obj)) from hp) (by simp),e0.hok.kept hk,?_⟩
 ·exact name_of_addr x.apart (ve5 h1) (ve5 h2)
 ·have hy:scope.names.lookup y=some .cell\/scope.names.lookup y=some .free:=hy;rcases hy with hy | hy
  ·exact qbj hy
  ·exact absurd rfl (S.nofree _ (ve5 hy))
 ·exact jk9 (x.above y c (ve5 h))
 ·have hi:i < vs.length:=by
   unfold start at h2;by_cases hi:i < vs.length
   ·exact hi
   ·rw [jd3 (by simpa using hi)] at h2;rw [jc8] at h2;split at h2 <;> cases h2
  have ha:vs[i]?=some v:=by
   unfold start at h2;rw [jc2 (by simpa using hi),jc7] at h2;cases e:vs[i]? with
   | none=>rw [e] at h2;cases h2
   | some a=>rw [e] at h2;cases h2;rfl
  obtain ⟨u,hu,rv⟩:=r.get ha;have hp:ps[i]?=some y:=by
   rw [<- S.pre,jf2 (by omega)];exact h1
  have ndP:ps.Nodup:=by rw [<- S.pre];exact S.nd.sublist (List.take_sublist _ _)
  refine ⟨u,rv,?_⟩;rcases S.par y (List.mem_of_getElem? hp) with k | k
  ·exact .inl ⟨k,zga ndP hp hu k⟩
  ·obtain ⟨c,e⟩:=qbj (n:=s.heap.objs.size + 1) k;refine .inr ⟨.inl k,c,e,?_⟩;have q:=x.cell y c e;rw [zgc ndP hp hu (by show scope.names.lookup y≠_;rw [k];decide)] at q;exact q
 ·exact e0.hok.fresh (jk9 (x.above y c (ve5 h)))
 ·unfold start;show _=N.length;rw [jb1,ja3,jc5];omega
theorem qpn {CX:CXT}{P:vb0}{w:vb4}{K:va8}{mg:Str->Option va2}{base:Heap}{k:Nat}{f:Addr}{name qual:Str}{params:Arguments}{body:List Stmt}{scope:vd1}{dV kV doc pm cdv ct oc:va2}{an od:Option Addr}
  {osl:Array (Option va2)}{N ps:List Str}{sp:Sp} (lk:K.lookup f=some ⟨oc,od,.func (vg8 name qual params body scope dV kV doc pm an cdv ct),osl⟩) (hcd:vn8 K cdv qual=true) (S:FnScope N ps scope)
  (len:∀ vs H Q E,sp vs H Q E->vs.length=ps.length)
  (hbody:∀ (A:vc0) (outer:List Env) (s:va4) (H:Hp) (vs:List V) (Q:VK) (E:XK),Room k (A.deeper (vm5 qual scope s.heap.objs.size f cdv))->sp vs H Q E ->
   ∃ t,PSs (cxOf CX P w K mg base N qual scope f cdv A outer s H E) body t/\t { nx:=λ _ H'=>Q .non H',rt:=Q } (start N vs) H):
  FnOk P w K mg base CX (k + 1) f (vg8 name qual params body scope dV kV doc pm an cdv ct) ps sp:=by
 refine ⟨len,λ A outer s H args us vs Q E hr e0 hb r hsp=>?_⟩;have hl:=len _ _ _ _ hsp;have KX:K.In s.heap:=e0.mod.kin.keeps λ b o e=>(e0.bs b o e).1;have lim:s.heap.NoLimit:=e0.mod.nolimit.keeps λ b o e=>(e0.bs b o e).1;have hkind:∀ y∈ps.zip us,scope.names.lookup y.1=some .local\/(scope.names.lookup y.1=some .cell/\((vb9 (s.heap.objs.size + 1) scope.names []).lookup y.1).isSome=true):=λ ⟨n,v⟩ hy=>by
  rcases S.par n (jm3 hy).1 with q | q
  ·exact .inl q
  ·exact .inr ⟨q,PySem.W.cellsFrom_some _ _ _ (.inl q)⟩
 refine codeAny_call_function hr.depth (KX _ _ lk) rfl S.co S.gen rfl (PySem.W.codeRec_of KX hcd) (hb _ _ _ _ ?_);refine wpAny_newFunctionEnv_cells S.kind hkind λ env he s1 x=>?_;subst he;refine ⟨lim.keeps x.toInCall.keep,codeAny_func ?_⟩;obtain ⟨t,ht,hq⟩:=hbody A outer s H vs Q E (hr.deeper _) hsp;have I:Inv (cxOf CX P w K mg base N qual scope f cdv A outer s H E) [] (start N vs) H s1:=qel S hr.hd e0 hl r x;refine vf6 (ht [] s1 (start N vs) H _ I hq) (λ fl s' hs=>?_) λ e s' hs=>hs;have fin:∀ {σ':St}{H':Hp}{v:V}{u:va2},Inv (cxOf CX P w K mg base N qual scope f cdv A outer s H E) [] σ' H' s'->RelV v u->Q v H'->CE outer P w H s Q u s':=
  λ {σ' H' v u} J rv q=>⟨v,H',J.os,J.bare,J.base,J.hok,rv,q⟩
 cases fl with
 | ret u=>
  obtain ⟨v,σ',H',J,rv,q⟩:=hs;exact fin J rv q
 | next=>
  obtain ⟨σ',H',J,q⟩:=hs;exact fin (v:=V.non) (u:=Value.none) J rfl q
 | brk=>
  obtain ⟨_,_,_,q⟩:=hs;exact ve8 q
 | cont=>
  obtain ⟨_,_,_,q⟩:=hs;exact ve8 q
section
variable {X:Cx}{x:Str}{p pos:Pos}{e:Expr}{es:List Expr}{t:TA}{id T:String}{r:List V->Hp->VK->Prop}
def tCB (r:List V->Hp->VK->Prop) (t:TA):TE:=λ σ H Q=>t σ H λ vs H1=>r vs H1 Q
theorem zvy (hc:zvb X (.builtin id) r) (hg:Gl X x) (hm:X.mg x=none) (hv:vf9 x=some (.builtin id)) (ha:PA X (e::es) t) (hn:x ≠ "__name__" := by decide) (hdb:(x == ("__debug__" : Str))=false:=by decide)
  (he:va9 (e::es) X.env=(false,eval e X.env)::va9 es X.env:=by rfl) (hpl:(vg0 pos (va9 es X.env)).any (·.1)=false:=by rfl):PE X (.Call (.Name x p) (e::es) [] pos) (tCB r t):=by
 intro pins s σ H Q I h;refine vg5 (zvi I hg hm hv ?_ hn hdb);exact PyProof.Rows.callWith_builtin1 (thn (ha pos pins s σ H _ I h) λ us s1 ⟨vs,H1,I1,r1,q1⟩=>hc pins s1 σ H1 vs us Q I1 r1 q1) he hpl
theorem zfc (hc:zvb X (.type T) r) (hg:Gl X x) (hm:X.mg x=none) (hv:vf9 x=some (.type T)) (ha:PA X (e::es) t) (hn:x ≠ "__name__" := by decide) (hdb:(x == ("__debug__" : Str))=false:=by decide)
  (he:va9 (e::es) X.env=(false,eval e X.env)::va9 es X.env:=by rfl) (hpl:(vg0 pos (va9 es X.env)).any (·.1)=false:=by rfl):PE X (.Call (.Name x p) (e::es) [] pos) (tCB r t):=by
 intro pins s σ H Q I h;refine vg5 (zvi I hg hm hv ?_ hn hdb);exact vb3 (thn (ha pos pins s σ H _ I h) λ us s1 ⟨vs,H1,I1,r1,q1⟩=>hc pins s1 σ H1 vs us Q I1 r1 q1) he hpl
end
end L2
namespace HT
open PySem PyProof.Rows
section
open PySem.SeqAt
open PySem.AutoSeq1 (wpAny_loadPart')
open PySem.MeetsSeq PySem.MeetsSeq2 PySem.MeetsSeq3
end
section
variable {prog:vb0}{w:vb4}{A:vc0}{E:va2->va4->Prop}{s:va4}
theorem cat_tup {t b:Addr}{vs ws:List va2}{Q:va2->va4->Prop} (ht:IsTup s.heap t vs.toArray) (hb:IsTup s.heap b ws.toArray) (hv:vs≠[])
  (h1:ws=[]->Q (.ref t) s) (h2:ws≠[]->Q (.ref s.heap.objs.size) { s with heap:=s.heap.push { cls:=.type "tuple",data:=.seq (vs++ws).toArray } })
  (hsz:vs.length + ws.length<=va6):vb1 (vb2 prog w) A (vf4 .Add (.ref t) (.ref b)) Q E s:=by
 obtain ⟨⟨cls,dd,data,sl⟩,ho,hc,n,hd⟩:=id ht;obtain ⟨⟨cls2,dd2,data2,sl2⟩,ho2,hc2,n2,hd2⟩:=id hb;simp only at hc hd hc2 hd2;subst hc hd hc2 hd2;have e:vs.toArray++ws.toArray=(vs++ws).toArray:=by simp
 by_cases hw:ws=[]
 ·exact concat_meets ⟨_,ho,rfl⟩ ⟨_,ho2,rfl⟩ vl5 seq_tuple_add vi5 vi0 (vh8 _ _)
   (tuple_addW1 t b vs.toArray ws.toArray n n2 dd dd2 sl sl2 (by simpa using hv) (by simp [hw])) ⟨ho,ho2,h1 hw⟩
 ·refine concat_meets ⟨_,ho,rfl⟩ ⟨_,ho2,rfl⟩ vl5 seq_tuple_add vi5 vi0 (vh8 _ _)
   (tuple_addW2 t b vs.toArray ws.toArray n n2 dd dd2 sl sl2 (by simpa using hv) (by simpa using hw) (by rw [jb5,jb5];exact hsz)) ⟨ho,ho2,?_⟩
  rw [e];exact h2 hw
def sIx (n d:Nat):Option Int->Nat
 | none=>d
 | some v=>if v < 0 then (v + (n:Int)).toNat else min v.toNat n
theorem sIx_none (n d:Nat):sIx n d none=d:=rfl
theorem sIx_nat (n d k:Nat):sIx n d (some (k:Int))=min k n:=by
 show (if (k:Int) < 0 then ((k:Int) + (n:Int)).toNat else min (k:Int).toNat n)=min k n;rw [if_neg (by omega),jc3]
theorem qmw (n d:Nat) (hd:d<=n) (o:Option Int):sIx n d o<=n:=by
 cases o with
 | none=>exact hd
 | some v=>
  show (if v < 0 then (v + (n:Int)).toNat else min v.toNat n)<=n;by_cases hv:v < 0
  ·rw [if_pos hv];omega
  ·rw [if_neg hv];exact Nat.min_le_right _ _
theorem qfe (v:Int) (n d:Nat):(if v < 0 then max (v + (n:Int)) 0 else min v (n:Int))=((sIx n d (some v):Nat):Int):=by
 show (if v < 0 then max (v + (n:Int)) 0 else min v (n:Int))=(((if v < 0 then (v + (n:Int)).toNat else min v.toNat n):Nat):Int);by_cases hv:v < 0
 ·simp only [if_pos hv];omega
 ·simp only [if_neg hv];omega
theorem qcc (lo hi:Option Int) (n:Nat):vh5 lo hi 1 (n:Int)=(((sIx n 0 lo:Nat):Int),((sIx n n hi:Nat):Int)):=by
 have h1:¬ ((1:Int) < 0):=by omega
 unfold vh5;simp only [h1,if_false];refine Prod.ext ?_ ?_
 ·cases lo with
  | none=>rfl
  | some v=>exact qfe v n 0
 ·cases hi with
  | none=>rfl
  | some v=>exact qfe v n n
theorem qbx (i j:Nat):ve3 (i:Int) (j:Int) 1=j - i:=by
 unfold ve3;have h1:(1:Int) > 0:=by omega
 simp only [h1,if_true,Int.ediv_one];split <;> omega
theorem zbi {v:va2}{o:Option Int}{Q:Option Int->va4->Prop} (p:IsPart v o) (h:Q o s):vb1 (vb2 prog w) A (Builtin.Slice.slicePartIndex v) Q E s:=by
 cases p with
 | none=>exact slicePart_none h
 | int i t=>exact slicePart_int h
theorem zyg {sl:Addr}{vl vu:va2}{lo hi:Option Int}{n:Nat}{Q:Int×Int×Nat->va4->Prop} (hs:s.heap.IsSliceOf sl vl vu .none) (pl:IsPart vl lo) (pu:IsPart vu hi)
  (h:Q (((sIx n 0 lo:Nat):Int),1,sIx n n hi - sIx n 0 lo) s):vb1 (vb2 prog w) A (vn5 (.ref sl) (pure (n:Int))) Q E s:=by
 obtain ⟨os,hos,hcs,hds⟩:=id hs;unfold vn5 Builtin.Slice.sliceFields;refine va0 (va0 (vl9 hos hds (x:=vl) rfl (va0 (vl9 hos hds (x:=vu) rfl (va0 (vl9 hos hds (x:=.none) rfl (va1 ?_)))))));refine va0 (slicePart_none ?_);show vb1 _ _ (if ((1:Int) == 0)=true then _ else _) _ _ s;rw [if_neg (by decide)];refine va0 (zbi pl (va0 (zbi pu (va0 (va1 ?_)))));show vb1 _ _ (match vh5 lo hi 1 (n:Int) with | (lo,hi)=>pure (lo,(1:Int),ve3 lo hi 1)) _ _ s;rw [qcc lo hi n];show vb1 _ _ (pure (((sIx n 0 lo:Nat):Int),(1:Int),ve3 ((sIx n 0 lo:Nat):Int) ((sIx n n hi:Nat):Int) 1)) _ _ s;rw [qbx];exact va1 h
theorem qgf (xs:Array va2) (i k:Nat):((jb0 k).filterMap λ (m:Nat)=>xs[((i:Int) + (m:Int) * 1).toNat]?).toArray=((xs.toList.drop i).take k).toArray:=by
 have e:(λ (m:Nat)=>xs[((i:Int) + (m:Int) * 1).toNat]?)=λ m=>xs[i + m]?:=by
  funext m
  have:((i:Int) + (m:Int) * 1).toNat=i + m:=by omega
  rw [this]
 rw [e]
 have:=pick_run xs i k
 rw [List.filterMap_map] at this;have e2:((λ x=>xs[x]?) ∘ λ x=>i + x)=λ m=>xs[i + m]?:=rfl;rw [e2] at this;rw [this]
theorem getItem_tuple_cut {t sl:Addr}{items:Array va2}{vl vu:va2}{lo hi:Option Int}{Q:va2->va4->Prop} (ht:IsTup s.heap t items) (hs:s.heap.IsSliceOf sl vl vu .none) (pl:IsPart vl lo) (pu:IsPart vu hi)
  (hw:¬ (sIx items.size 0 lo=0/\sIx items.size items.size hi=items.size))
  (h:Q (.ref s.heap.objs.size) { s with heap:=s.heap.push { cls:=.type "tuple",data:=.seq ((items.toList.drop (sIx items.size 0 lo)).take (sIx items.size items.size hi - sIx items.size 0 lo)).toArray } })
  (hsz:items.size<=va6):vb1 (vb2 prog w) A (vm4 (.ref t) (.ref sl)) Q E s:=by
 have htake:sizeOk (.seq ((items.toList.drop (sIx items.size 0 lo)).take (sIx items.size items.size hi - sIx items.size 0 lo)).toArray):=by
  show ((items.toList.drop (sIx items.size 0 lo)).take (sIx items.size items.size hi - sIx items.size 0 lo)).toArray.size<=va6;rw [jb5,je5,jj7,jf0];omega
 have hj:sIx items.size items.size hi<=items.size:=qmw _ _ (ja8 _) hi;obtain ⟨os,hos,hcs,hds⟩:=id hs;have hTs:s.TypeIs (.ref sl) "slice" := ⟨os,hos,hcs⟩
 unfold vm4
 try with_reducible refine vf1 ?_
 first | refine va0 (va1 ?_) | skip
 refine va0 (wpAny_sequenceKey ht.typeIs (by decide) ?_);refine va0 (vd3 (name:=vg7 "__getitem__") ht.typeIs vk9
  (vd6 vk9 ht.typeIs entry_tuple_getitem ?_ (args_tuple_getitem _ _)))
 show vb1 _ _ (Builtin.Tuple.tupleItemsOf (.ref t) >>= _) _ _ s;refine va0 (tupleItemsOf_ ht ?_);refine va0 (wpAny_typeOf hTs ?_);rw [if_pos (by decide)];refine va0 (zyg hs pl pu ?_);have hno:¬ ((((sIx items.size 0 lo:Nat):Int) == 0 && (1:Int) == 1 && (sIx items.size items.size hi - sIx items.size 0 lo) == items.size)=true):=by
  intro q;rw [ja4,ja4] at q;have q1:((sIx items.size 0 lo:Nat):Int)=0:=eq_of_beq q.1.1;have q2:sIx items.size items.size hi - sIx items.size 0 lo=items.size:=eq_of_beq q.2;exact hw ⟨by omega,by omega⟩
 show vb1 _ _ (if (((sIx items.size 0 lo:Nat):Int) == 0 && (1:Int) == 1 && (sIx items.size items.size hi - sIx items.size 0 lo) == items.size)=true then _ else _) _ _ s;rw [if_neg hno,qgf]
 first
  | exact va0 (m:=ve9 _) (vb5 (va1 ⟨_,rfl,va1 h⟩) htake)
  | exact va0 (m:=ve9 _) (vb5 (va0 (va1 (va1 ⟨_,rfl,va1 h⟩))) htake)
  | exact va0 (va0 (m:=ve9 _) (vb5 (va1 (va1 ⟨_,rfl,va1 h⟩)) htake))
  | exact va0 (va0 (m:=ve9 _) (vb5 (va1 ⟨_,rfl,va1 h⟩) htake))
end
end HT
namespace L2
open PySem PySem.Spec PyProof.Rows
abbrev TO:=St->Hp->(Option Int->Hp->Prop)->Prop
def PO (X:Cx) (e:Option Expr) (t:TO):Prop:=
 ∀ (pins:List (Addr×Obj)) (s:va4) (σ:St) (H:Hp) (Q:Option Int->Hp->Prop),Inv X pins σ H s->t σ H Q ->
  vb1 (vb2 X.prog X.w) X.A (evalPart e X.env) (λ u s'=>∃ o H',Inv X pins σ H' s'/\IsPart u o/\Q o H') X.xe s
def zgk:TO:=λ _ H Q=>Q none H
def ql6 (t:TE):TO:=λ σ H Q=>t σ H λ x H1=>∃ i,x=.int i/\Q (some i) H1
section
variable {X:Cx}{e:Expr}{te:TE}{lo hi:Option Expr}{tl th:TO}{pos p2:Pos}
theorem zgr:PO X none zgk:=by
 intro pins s σ H Q I h;rw [evalPart_none];exact va1 ⟨none,H,I,.none,h⟩
theorem zgq (h:PE X e te):PO X (some e) (ql6 te):=by
 intro pins s σ H Q I hw;rw [evalPart_some];refine thn (h pins s σ H _ I hw) λ u s1 ⟨x,H1,I1,r1,q1⟩=>?_;obtain ⟨i,rfl,q⟩:=q1;obtain ⟨t,rfl⟩:=r1;exact ⟨some i,H1,I1,.int i t,q⟩
def SlR (X:Cx) (r:V->Option Int->Option Int->Hp->VK->Prop):Prop:=
 ∀ (pins:List (Addr×Obj)) (s:va4) (σ:St) (H:Hp) (x:V) (v vl vu:va2) (lo hi:Option Int) (sl:Addr) (Q:VK),Inv X pins σ H s->RelV x v->s.heap.IsSliceOf sl vl vu .none->IsPart vl lo->IsPart vu hi->r x lo hi H Q ->
  ∃ T id,typeLookup (.type T) "__getitem__" = pure (some (.builtin id))/\s.TypeIs v T/\vb1 (vb2 X.prog X.w) X.A (vm4 v (.ref sl)) (EP X pins σ Q) X.xe s
theorem SlR.or {r r':V->Option Int->Option Int->Hp->VK->Prop} (h:SlR X r) (h':SlR X r'):SlR X (λ x lo hi H Q=>r x lo hi H Q\/r' x lo hi H Q):=by
 intro pins s σ H x v vl vu lo hi sl Q I rx hs pl pu q;rcases q with q | q
 ·exact h pins s σ H x v vl vu lo hi sl Q I rx hs pl pu q
 ·exact h' pins s σ H x v vl vu lo hi sl Q I rx hs pl pu q
def tSl (r:V->Option Int->Option Int->Hp->VK->Prop) (te:TE) (tl th:TO):TE:=λ σ H Q=>te σ H λ x H1=>tl σ H1 λ l H2=>th σ H2 λ u H3=>r x l u H3 Q
theorem qaq {r:V->Option Int->Option Int->Hp->VK->Prop} (hr:SlR X r) (he:PE X e te) (hl:PO X lo tl) (hu:PO X hi th):PE X (.Subscript e (.Slice lo hi none p2) pos) (tSl r te tl th):=by
 intro pins s σ H Q I h;refine Subscript_ (thn (he pins s σ H _ I h) λ v s1 ⟨x,H1,I1,r1,q1⟩=>?_);refine wpAny_Slice (thn (hl pins s1 σ H1 _ I1 q1) λ vl s2 ⟨l,H2,I2,pl,q2⟩=>thn (hu pins s2 σ H2 _ I2 q2) λ vu s3 ⟨u,H3,I3,pu,q3⟩=>?_);rw [evalPart_none];refine va1 ?_;have I4:Inv X pins σ H3 { s3 with heap:=s3.heap.push { cls:=.type "slice",data:=.fields #[vl,vu,.none] } }:=I3.kept (t':=s3.toks) λ b ob q=>va3 _ q;obtain ⟨T,id,hT,ht,hg⟩:=hr pins { s3 with heap:=s3.heap.push { cls:=.type "slice",data:=.fields #[vl,vu,.none] } } σ H3 x v vl vu l u s3.heap.objs.size Q I4 r1 (Heap.IsSliceOf.new ..) pl pu q3;show vb1 (vb2 X.prog X.w) X.A (vk0 e (.Slice lo hi none p2) v (.ref s3.heap.objs.size)) (EP X pins σ Q) X.xe { s3 with heap:=s3.heap.push { cls:=.type "slice",data:=.fields #[vl,vu,.none] } };exact tail_any (ops:=[.ref s3.heap.objs.size,v]) ht hT hg (by with_unfolding_all rfl)
def cutV (xs:List V) (lo hi:Option Int):List V:=(xs.drop (HT.sIx xs.length 0 lo)).take (HT.sIx xs.length xs.length hi - HT.sIx xs.length 0 lo)
theorem zjw (xs:List V) (lo hi:Option Int):(cutV xs lo hi).length<=xs.length:=by
 unfold cutV;rw [je5,jj7];omega
def rSlT (K:va8):V->Option Int->Option Int->Hp->VK->Prop:=λ x lo hi H Q=>∃ a xs,x=.ref a/\SqT K H a xs /\
 ¬ (HT.sIx xs.length 0 lo=0/\HT.sIx xs.length xs.length hi=xs.length)/\∀ p,H p=none->Q (.ref p) (upd H p (.tup (cutV xs lo hi)))
theorem qhu:SlR X (rSlT X.K):=by
 intro pins s σ H x v vl vu lo hi sl Q I rx hs pl pu h;obtain ⟨a,xs,rfl,hx,hw,q⟩:=h;cases rx;obtain ⟨its,r,ht,hz⟩:=I.tuple hx;have hlen:its.toArray.size=xs.length:=by rw [jb5];exact r.length.symm
 refine ⟨"tuple",_,PyProof.Rows.slot_tuple_getitem.lookup,ht.typeIs,?_⟩;refine HT.getItem_tuple_cut ht hs pl pu (by rw [hlen];exact hw) ?_ (by rw [hlen];exact hz);rw [hlen];refine ⟨.ref s.heap.objs.size,_,I.laid (t':=s.toks) (o:=.tup (cutV xs lo hi)) (λ b ob q=>va3 _ q) (ja8 _) ?_,rfl,q _ (I.hok.fresh (ja8 _))⟩;exact ⟨jd1 (zjw xs lo hi) hz,_,(r.drop (HT.sIx xs.length 0 lo)).take (HT.sIx xs.length xs.length hi - HT.sIx xs.length 0 lo),IsTup.new _ _⟩
def qpb (K:va8):R2:=λ x y H Q=>∃ a b xs ys,x=.ref a/\y=.ref b/\SqT K H a xs/\SqT K H b ys/\xs≠[]/\xs.length + ys.length<=va6 /\
 (ys=[]->Q (.ref a) H)/\(ys≠[]->∀ p,H p=none->Q (.ref p) (upd H p (.tup (xs++ys))))
theorem Vals.nil_iff {xs:List V}{us:List va2} (r:Vals xs us):us=[]↔xs=[]:=by
 cases r with
 | nil=>simp
 | cons _ _=>simp
theorem qke:OpR X (vf4 .Add) (qpb X.K):=by
 intro pins s σ H x y v u Q I rx ry h;obtain ⟨a,b,xs,ys,rfl,rfl,ha,hb,hx,hz,q1,q2⟩:=h;cases rx;cases ry;obtain ⟨its,r1,p1,_⟩:=I.tuple ha;obtain ⟨its2,r2,p2,_⟩:=I.tuple hb;refine HT.cat_tup p1 p2 (λ z=>hx (r1.nil_iff.mp z)) (λ z=>⟨.ref a,H,I,rfl,q1 (r2.nil_iff.mp z)⟩) (λ z=>?_) (by rw [<- r1.length,<- r2.length];exact hz);refine ⟨.ref s.heap.objs.size,_,I.laid (t':=s.toks) (o:=.tup (xs++ys)) (λ b ob q=>va3 _ q) (ja8 _) ?_,rfl,q2 (λ w=>z (r2.nil_iff.mpr w)) _ (I.hok.fresh (ja8 _))⟩;exact ⟨by rw [jb1];exact hz,_,r1.append r2,IsTup.new _ _⟩
end
def ixN (n:Nat) (i:Int):Option Nat:=if 0<=i then (if i < n then some i.toNat else none) else if -(n:Int)<=i then some (i + n).toNat else none
def atI {α:Type} (xs:List α) (i:Int):Option α:=(ixN xs.length i).bind λ j=>xs[j]?
theorem qed {n:Nat}{i:Int}{j:Nat} (h:ixN n i=some j):seqIndex? i n=some j/\j < n/\-(n:Int)<=i/\i < n:=by
 unfold ixN at h;by_cases h0:0<=i
 ·rw [if_pos h0] at h;by_cases h1:i < n
  ·rw [if_pos h1] at h;have e:i.toNat=j:=Option.some.inj h;exact ⟨by rw [vm1 h0 h1,e],by omega,by omega,h1⟩
  ·rw [if_neg h1] at h;cases h
 ·rw [if_neg h0] at h;by_cases h1:-(n:Int)<=i
  ·rw [if_pos h1] at h;have e:(i + n).toNat=j:=Option.some.inj h;exact ⟨by rw [seqIndex_neg (by omega) h1,e],by omega,h1,by omega⟩
  ·rw [if_neg h1] at h;cases h
theorem zma {α:Type}{xs:List α}{i:Int}{v:α} (h:atI xs i=some v):∃ j,seqIndex? i xs.length=some j/\xs[j]?=some v/\j < xs.length/\-(xs.length:Int)<=i/\i < xs.length:=by
 unfold atI at h;cases e:ixN xs.length i with
 | none=>rw [e] at h;cases h
 | some j=>
  rw [e] at h;obtain ⟨h1,h2,h3,h4⟩:=qed e;exact ⟨j,h1,h,h2,h3,h4⟩
def zmf (b:Expr):Prop:=∀ o i,subscripted b false o i=operate [o,i] (vm4 o i)
def IxR (X:Cx) (r:R2):Prop:=
 ∀ (value slice:Expr) (pins:List (Addr×Obj)) (s:va4) (σ:St) (H:Hp) (x y:V) (v u:va2) (Q:VK),Inv X pins σ H s->RelV x v->RelV y u->r x y H Q ->
  subscripted slice false v u=operate [v,u] (vm4 v u)->vb1 (vb2 X.prog X.w) X.A (vk0 value slice v u) (EP X pins σ Q) X.xe s
def MtR (X:Cx) (id:String) (r:V->List V->Hp->VK->Prop):Prop:=
 ∀ (pins:List (Addr×Obj)) (s:va4) (σ:St) (H:Hp) (x:V) (xs:List V) (v:va2) (us:List va2) (Q:VK),Inv X pins σ H s->RelV x v->Vals xs us->r x xs H Q ->
  vb1 (vb2 X.prog X.w) X.A (call (.builtin id) (v::us)) (EP X pins σ Q) X.xe s
section
variable {X:Cx}{a b:Expr}{ta tb:TE}{pos:Pos}
theorem IxR.or {r r':R2} (h:IxR X r) (h':IxR X r'):IxR X (λ x y H Q=>r x y H Q\/r' x y H Q):=by
 intro value slice pins s σ H x y v u Q I rx ry q hs;rcases q with q | q
 ·exact h value slice pins s σ H x y v u Q I rx ry q hs
 ·exact h' value slice pins s σ H x y v u Q I rx ry q hs
theorem qni {r:R2} (hr:IxR X r) (ha:PE X a ta) (hb:PE X b tb) (hs:zmf b):PE X (.Subscript a b pos) (tOp r ta tb):=by
 intro pins s σ H Q I h;exact Subscript_ (binT ha hb I h λ v u s2 x y H2 I2 rx ry q=>hr a b pins s2 σ H2 x y v u Q I2 rx ry q (hs _ _))
def rIxL (K:va8):R2:=λ x y H Q=>∃ p xs i v,x=.ref p/\y=.int i/\SqL K H p xs/\atI xs i=some v/\Q v H
def rIxT (K:va8):R2:=λ x y H Q=>∃ p xs i v,x=.ref p/\y=.int i/\SqT K H p xs/\atI xs i=some v/\Q v H
def rIxS:R2:=λ x y H Q=>∃ z i c,x=.str z/\y=.int i/\z.length<=va6/\atI z.cps.toList i=some c/\Q (.str ⟨#[c]⟩) H
theorem qko:IxR X (rIxL X.K):=by
 intro value slice pins s σ H x y v u Q I rx ry h hs;obtain ⟨p,xs,i,z,rfl,rfl,hq,he,q⟩:=h;cases rx;obtain ⟨t,rfl⟩:=ry;obtain ⟨its,r,pl,hz⟩:=I.list hq;obtain ⟨j,h1,h2,h3,h4,h5⟩:=zma he;obtain ⟨w,ew,rw'⟩:=r.get h2;have hl:=r.length;have hn:=zjn;have fin:EP X pins σ Q w s:=⟨z,H,I,rw',q⟩
 by_cases h0:0<=i
 ·have hj:i.toNat=j:=by
   rw [vm1 h0 h5] at h1;exact Option.some.inj h1
  exact item_listR pl.isList h0 (by omega) (by rw [hj];simpa using ew) fin hs
 ·have hj:(i + (its.toArray.size:Int)).toNat=j:=by
   rw [seqIndex_neg (by omega) h4] at h1;rw [jb5,<- hl];exact Option.some.inj h1
  exact subscriptTail_builtinR (x:=w) pl.isList.typeIs slot_list_getitem.lookup
   (wpAny_getItem_list_neg (Q:=λ r s'=>r=w/\EP X pins σ Q r s') pl.isList (by omega) (by rw [jb5] <;> omega) (by omega) (by rw [hj];simpa using ew) ⟨rfl,fin⟩) hs
theorem qod:IxR X (rIxT X.K):=by
 intro value slice pins s σ H x y v u Q I rx ry h hs;obtain ⟨p,xs,i,z,rfl,rfl,hq,he,q⟩:=h;cases rx;obtain ⟨t,rfl⟩:=ry;obtain ⟨its,r,pl,hz⟩:=I.tuple hq;obtain ⟨j,h1,h2,h3,h4,h5⟩:=zma he;obtain ⟨w,ew,rw'⟩:=r.get h2;have hl:=r.length;have hn:=zjn;have fin:EP X pins σ Q w s:=⟨z,H,I,rw',q⟩
 exact subscriptTail_builtinR (x:=w) pl.typeIs slot_tuple_getitem.lookup
  (getItem_tuple (j:=j) (Q:=λ r s'=>r=w/\EP X pins σ Q r s') pl (by omega) (by omega) (by rw [jb5,<- hl];exact h1) (by simpa using ew) ⟨rfl,fin⟩) hs
theorem qoe:IxR X rIxS:=by
 intro value slice pins s σ H x y v u Q I rx ry h hs;obtain ⟨z,i,c,rfl,rfl,hz,he,q⟩:=h;obtain ⟨t,rfl⟩:=rx;obtain ⟨t',rfl⟩:=ry;obtain ⟨j,h1,h2,h3,h4,h5⟩:=zma he;have hl:z.cps.toList.length=z.length:=by simp [Str.length]
 rw [hl] at h1 h4 h5;have hn:=zjn;exact tail_any (typeIs_str s z t) slot_str_getitem.lookup (getItem_str (c:=c) (by
  have e1:decide (i < -(2 ^ 63:Int))=false:=decide_eq_false (by omega);have e2:decide (i ≥ 2 ^ 63)=false:=decide_eq_false (by omega);rw [e1,e2,jn5]) (by rw [h1];simpa using h2) ⟨.str ⟨#[c]⟩,H,I.tok _,⟨_,rfl⟩,q⟩) hs
def rIx (K:va8):R2:=λ x y H Q=>rIxL K x y H Q\/rIxT K x y H Q\/rIxS x y H Q
theorem qia:IxR X (rIx X.K):=qko.or (qod.or qoe)
theorem qb3 (its:List va2) (n j:Nat) (u:va2):vh9 (·.setIfInBounds j u) { cls:=.type "list",data:=.seq its.toArray n }={ cls:=.type "list",data:=.seq (its.set j u).toArray n }:=by
 simp [vh9]
theorem Inv.lst {pins:List (Addr×Obj)}{σ:St}{H:Hp}{s:va4}{p:Addr}{xs:List V} (I:Inv X pins σ H s) (h:H p=some (.lst xs)):
  ∃ (its:List va2) (n:Nat),Vals xs its/\s.heap.get? p=some { cls:=.type "list",data:=.seq its.toArray n }/\xs.length<=va6:=by
 obtain ⟨z,its,n,r,e⟩:=I.hok p _ h;exact ⟨its,n,r,e,z⟩
theorem Inv.lstUpd {pins:List (Addr×Obj)}{σ:St}{H:Hp}{s:va4}{p:Addr}{xs ys:List V}{its its':List va2}{n n':Nat}{f:Obj->Obj} (I:Inv X pins σ H s) (h:H p=some (.lst xs))
  (ho:s.heap.get? p=some { cls:=.type "list",data:=.seq its.toArray n }) (hf:f { cls:=.type "list",data:=.seq its.toArray n }={ cls:=.type "list",data:=.seq its'.toArray n' }) (r:Vals ys its') (hz:ys.length<=va6) (t:Nat):
  Inv X pins σ (upd H p (.lst ys)) { s with heap:=s.heap.update p f,toks:=t }:=by
 have e:(s.heap.update p f).get? p=some { cls:=.type "list",data:=.seq its'.toArray n' }:=by
  rw [vd9 f ho (by rw [hf] <;> rfl),hf]
 refine I.write (x:=p) (e:=p) (by rw [h];trivial) (.inl rfl) (λ b u hb q=>(vf5 _ _ (vb6 hb)).trans q) ⟨_,e⟩ ?_;exact ⟨hz,its',n',r,e⟩
def qjo:V->V->V->Hp->(Hp->Prop)->Prop:=λ o i v H Q=>∃ p xs k j,o=.ref p/\i=.int k/\H p=some (.lst xs)/\ixN xs.length k=some j/\Q (upd H p (.lst (xs.set j v)))
theorem qah:PSet X qjo:=by
 intro pins s σ H o i v ov iv u Q I ro ri rv h;obtain ⟨p,xs,k,j,rfl,rfl,hp,hj,q⟩:=h;cases ro;obtain ⟨t,rfl⟩:=ri;obtain ⟨its,n,r,ho,hz⟩:=I.lst hp;obtain ⟨h1,h2,h3,h4⟩:=qed hj;have hl:=r.length;have hn:=zjn;have I':Inv X pins σ (upd H p (.lst (xs.set j v))) { s with heap:=s.heap.update p (vh9 (·.setIfInBounds j u)) }:=
  I.lstUpd hp ho (qb3 its n j u) (r.set rv j) (by rw [je8];exact hz) s.toks
 by_cases h0:0<=k
 ·have hk:k.toNat=j:=by
   rw [vm1 h0 h4] at h1;exact Option.some.inj h1
  exact PySem.W.ki_setAt ho h0 (by omega) (by rw [jb5,<- hl];exact h4) (by rw [hk];exact ⟨_,I',q⟩)
 ·have hk:(k + (its.toArray.size:Int)).toNat=j:=by
   rw [seqIndex_neg (by omega) h3] at h1;rw [jb5,<- hl];exact Option.some.inj h1
  exact PySem.W.ki_setBack ho (by omega) (by rw [jb5,<- hl];exact h3) (by omega) (by rw [hk];exact ⟨_,I',q⟩)
theorem zmu (lo hi:Option Int) (n:Nat):(vg2 lo hi none n).1=((HT.sIx n 0 lo:Nat):Int)/\(vg2 lo hi none n).2.1=((HT.sIx n n hi:Nat):Int)/\(vg2 lo hi none n).2.2=1:=by
 refine ⟨?_,?_,rfl⟩
 ·cases lo with
  | none=>simp [vg2,HT.sIx]
  | some i=>
   simp only [vg2,HT.sIx,jo9,show (1:Int) > 0 by decide,if_true];by_cases h:i < 0
   ·simp only [h,if_true] <;> omega
   ·simp only [h,if_false] <;> omega
 ·cases hi with
  | none=>simp [vg2,HT.sIx]
  | some i=>
   simp only [vg2,HT.sIx,jo9,show (1:Int) > 0 by decide,if_true];by_cases h:i < 0
   ·simp only [h,if_true] <;> omega
   ·simp only [h,if_false] <;> omega
theorem zpf (its:List va2) (lo hi:Option Int):slicePick its.toArray lo hi none=((its.drop (HT.sIx its.length 0 lo)).take (HT.sIx its.length its.length hi - HT.sIx its.length 0 lo)).toArray:=by
 obtain ⟨h1,h2,h3⟩:=zmu lo hi its.toArray.size;unfold slicePick;rw [h1,h2,h3];simp only [sliceRange_one,pick_run,jb5] <;> rfl
def rSlL (K:va8):V->Option Int->Option Int->Hp->VK->Prop:=λ x lo hi H Q=>∃ a xs,x=.ref a/\SqL K H a xs/\∀ p,H p=none->Q (.ref p) (upd H p (.lst (cutV xs lo hi)))
theorem qc1:SlR X (rSlL X.K):=by
 intro pins s σ H x v vl vu lo hi sl Q I rx hs pl pu h;obtain ⟨a,xs,rfl,hx,q⟩:=h;cases rx;obtain ⟨its,r,ht,hz⟩:=I.list hx;have hlen:=r.length;refine ⟨"list",_,slot_list_getitem.lookup,ht.isList.typeIs,?_⟩;refine wpAny_getItem_list_slice ht.isList hs pl pu .none (by simp) ?_ (by rw [jb5] <;> omega);rw [zpf,<- hlen];refine ⟨.ref s.heap.objs.size,_,I.laid (t':=s.toks) (o:=.lst (cutV xs lo hi)) (λ b ob q=>va3 _ q) (ja8 _) ?_,rfl,q _ (I.hok.fresh (ja8 _))⟩;exact ⟨jd1 (zjw xs lo hi) hz,_,0,(r.drop (HT.sIx xs.length 0 lo)).take (HT.sIx xs.length xs.length hi - HT.sIx xs.length 0 lo),va7 _ rfl⟩
theorem zfy:zvb X (.builtin "len") (λ xs H Q=>∃ p ys,xs=[.ref p]/\(SqL X.K H p ys\/SqT X.K H p ys)/\Q (.int ys.length) H):=by
 intro pins s σ H xs us Q I r h;obtain ⟨p,ys,rfl,hq,q⟩:=h;obtain ⟨u,rfl,rx⟩:=zbz r;cases rx;have hn:=zjn;rcases hq with hq | hq
 ·obtain ⟨its,r',pl,hz⟩:=I.list hq;have hlen:=r'.length;exact Calls.call_len_list pl.isList (by simp only [jb5] <;> omega) ⟨.int ys.length,H,I.tok _,⟨s.toks + 1,by rw [jb5,hlen]⟩,q⟩
 ·obtain ⟨its,r',pl,hz⟩:=I.tuple hq;have hlen:=r'.length;exact len_tuple pl (by simp only [jb5] <;> omega) ⟨.int ys.length,H,I.tok _,⟨s.toks + 1,by rw [jb5,hlen]⟩,q⟩
theorem zfx:zvb X (.builtin "len") (λ xs H Q=>∃ z,xs=[.str z]/\z.length<=va6/\Q (.int z.length) H):=by
 intro pins s σ H xs us Q I r h;obtain ⟨z,rfl,hz,q⟩:=h;obtain ⟨u,rfl,t,rfl⟩:=zbz r;have hn:=zjn;exact len_str (by omega) ⟨.int z.length,H,I.tok _,⟨_,rfl⟩,q⟩
theorem zvb.or {f:va2}{r r':List V->Hp->VK->Prop} (h:zvb X f r) (h':zvb X f r'):zvb X f (λ xs H Q=>r xs H Q\/r' xs H Q):=by
 intro pins s σ H xs us Q I rs q;rcases q with q | q
 ·exact h pins s σ H xs us Q I rs q
 ·exact h' pins s σ H xs us Q I rs q
theorem zfw:zvb X (.type "list") (λ xs H Q=>∃ p ys,xs=[.ref p]/\(SqL X.K H p ys\/SqT X.K H p ys)/\∀ l,H l=none->Q (.ref l) (upd H l (.lst ys))):=by
 intro pins s σ H xs us Q I r h;obtain ⟨p,ys,rfl,hq,q⟩:=h;obtain ⟨u,rfl,rx⟩:=zbz r;cases rx;have fin:∀ (its:List va2),Vals ys its->ys.length<=va6->∀ (h':Heap) (c':Nat),(∀ b o',s.heap.get? b=some o'->h'.get? b=some o') ->
   h'.get? s.heap.objs.size=some { cls:=.type "list",dict:=none,data:=.seq its.toArray c',slots:=#[] }->EP X pins σ Q (.ref s.heap.objs.size) { s with heap:=h' }:=λ its r' hz h' c' kp e=>
  ⟨.ref s.heap.objs.size,_,I.laid (t':=s.toks) kp (ja8 _) (show zxc X.prog X.w _ h' _ (.lst ys) from ⟨hz,its,c',r',e⟩),rfl,q _ (I.hok.fresh (ja8 _))⟩
 rcases hq with hq | hq
 ·obtain ⟨its,r',pl,hz⟩:=I.list hq;have hlen:=r'.length;obtain ⟨o,ho,hc,n,hd⟩:=pl.isList;exact call_list_seq p (.inl rfl) ho hc hd (λ h' c' kp e=>fin its r' hz h' c' kp e) (by simp only [jb5] <;> omega)
 ·obtain ⟨its,r',pl,hz⟩:=I.tuple hq;have hlen:=r'.length;obtain ⟨o,ho,hc,n,hd⟩:=pl;exact call_list_seq p (.inr rfl) ho hc hd (λ h' c' kp e=>fin its r' hz h' c' kp e) (by simp only [jb5] <;> omega)
def tyV (K:va8) (T:String) (x:V) (H:Hp):Prop:=match x with
 | .str _=>T = "str"
 | .int _=>T = "int"
 | .ref p=>(T = "list" /\ ∃ xs,SqL K H p xs)\/(T = "tuple" /\ ∃ o,K.lookup p=some o/\o.cls=.type "tuple" /\ o.dict=none) \/
   (T = "dict" /\ ((∃ kvs,H p=some (.dK kvs))\/∃ kvs,H p=some (.dT kvs)))\/(T = "set" /\ ∃ S n,H p=some (.set S n))
 | _=>False
theorem qlp {pins:List (Addr×Obj)}{σ:St}{H:Hp}{s:va4}{T:String}{x:V}{v:va2} (I:Inv X pins σ H s) (r:RelV x v) (ty:tyV X.K T x H):
  s.TypeIs v T/\∀ a,v=.ref a->∃ ob,s.heap.get? a=some ob/\ob.dict=none:=by
 cases x with
 | str z=>
  obtain ⟨t,rfl⟩:=r;cases (show T = "str" from ty);exact ⟨typeIs_str s z t,λ _ e=>nomatch e⟩
 | int i=>
  obtain ⟨t,rfl⟩:=r;cases (show T = "int" from ty);exact ⟨typeIs_int s i t,λ _ e=>nomatch e⟩
 | ref p=>
  cases r;rcases ty with ⟨rfl,xs,hq⟩ | ⟨rfl,o,hk,hc,hd⟩ | ⟨rfl,hk⟩ | ⟨rfl,S,n,hk⟩
  ·obtain ⟨its,_,pl,_⟩:=I.list hq;refine ⟨pl.isList.typeIs,λ a e=>?_⟩;cases e;obtain ⟨o,n,e,c,hd,_⟩:=pl;exact ⟨o,e,hd⟩
  ·refine ⟨⟨o,I.kIn p o hk,hc⟩,λ a e=>?_⟩;cases e;exact ⟨o,I.kIn _ o hk,hd⟩
  ·have z:∃ o,s.heap.get? p=some o/\o.ExactDict:=by
    rcases hk with ⟨kvs,hk⟩ | ⟨kvs,hk⟩
    ·obtain ⟨_,_,_,_,o,_,_,e,ex,_⟩:=I.hok p _ hk;exact ⟨o,e,ex⟩
    ·obtain ⟨_,_,_,_,o,_,_,e,ex,_⟩:=I.hok p _ hk;exact ⟨o,e,ex⟩
   obtain ⟨o,e,ex⟩:=z;refine ⟨⟨o,e,ex.1⟩,λ a e2=>?_⟩;cases e2;exact ⟨o,e,ex.2.1⟩
  ·obtain ⟨o,_,_,_,e,ex,_⟩:=I.hok p _ hk;refine ⟨⟨o,e,ex.1⟩,λ a e2=>?_⟩;cases e2;exact ⟨o,e,ex.2.1⟩
 | _=>exact ve8 ty
def tBM (K:va8) (T:String) (r:V->List V->Hp->VK->Prop) (to:TE) (t:TA):TE:=λ σ H Q=>to σ H λ x H1=>tyV K T x H1/\t σ H1 λ xs H2=>r x xs H2 Q
variable {o e:Expr}{es:List Expr}{to:TE}{t:TA}{name:Str}{apos cpos:Pos}{T id:String}{r:V->List V->Hp->VK->Prop}
theorem qnj (pa:PlainAttrs T) (slot:Slot T name id) (hty:typeOf (.builtin id)=pure (.type "method_descriptor")) (hm:MtR X id r) (ho:PE X o to) (ha:PA X (e::es) t)
  (hbase:attributeBase o name X.env (eval o X.env)=eval o X.env:=by rfl)
  (hfew:((vg0 cpos (va9 (e::es) X.env)).all (λ x=>!x.1) && (backToKw cpos (keywordEach [] X.env)).all (λ x=>x.1.isSome)
   && decide ((e::es).length + ([]:List Keyword).length + (if ([]:List Keyword).isEmpty then 0 else 1) < 30))=true:=by rfl)
  (hline:(apos.endLine == cpos.line)=true:=by rfl) (hs:va9 (e::es) X.env=(false,eval e X.env)::va9 es X.env:=by rfl) (hplain:(vg0 cpos (va9 es X.env)).any (·.1)=false:=by rfl):
  PE X (.Call (.Attribute o name apos) (e::es) [] cpos) (tBM X.K T r to t):=by
 intro pins s σ H Q I h;refine wpAny_Call_method_late hbase hfew hline rfl (thn (ho pins s σ H _ I h) λ v s1 ⟨x,H1,I1,r1,ty,q1⟩=>?_);obtain ⟨h1,h2⟩:=qlp I1 r1 ty;refine ⟨T,id,pa,slot,hty,h1,h2,?_⟩;have hA:=ha cpos pins s1 σ H1 _ I1 q1;rw [hs] at hA ⊢;refine Calls.callWith_builtin (by show (false || (vg0 cpos (va9 es X.env)).any (·.1))=false;rw [hplain] <;> rfl) (Calls.evalArgs_plain ?_);exact thn hA λ us s2 ⟨vs,H2,I2,r2,q2⟩=>hm pins s2 σ H2 x vs v us Q I2 r1 r2 q2
end
def MtM (X:Cx) (id:String) (r:V->List V->Hp->VK->Prop):Prop:=
 ∀ (pins:List (Addr×Obj)) (s:va4) (σ:St) (H:Hp) (x:V) (xs:List V) (v:va2) (us:List va2) (Q:VK),Inv X pins σ H s->RelV x v->Vals xs us->r x xs H Q ->
  vb1 (vb2 X.prog X.w) X.A (call (.builtin id) (v::us)) (EP X pins σ Q) X.xe s
theorem Vals.one:∀ {x:V}{us:List va2},Vals [x] us->∃ u,us=[u]/\RelV x u
 | _,_,.cons r .nil=>⟨_,rfl,r⟩
theorem Vals.rep {xs:List V}{us:List va2} (h:Vals xs us):∀ k:Nat,Vals (ja2 k xs).flatten (ja2 k us).flatten
 | 0=>.nil
 | k + 1=>by
  rw [jf1,jf1,jg7,jg7];exact Vals.append h (Vals.rep h k)
theorem zfo (its:List va2):∀ (k:Nat) (acc:List va2),
  jq0 (λ x1 x2=>x1++x2) acc.toArray (ja2 k its.toArray)=(acc++(ja2 k its).flatten).toArray
 | 0,acc=>by simp
 | k + 1,acc=>by
  have e:acc.toArray++its.toArray=(acc++its).toArray:=by simp
  have e2:(acc++its)++(ja2 k its).flatten=acc++(ja2 (k + 1) its).flatten:=by
   rw [jf1,jg7,jf5]
  rw [<- e2,<- zfo its k (acc++its),<- e,jf1,jp3]
section
variable {X:Cx}{pins:List (Addr×Obj)}{σ:St}{H:Hp}{s:va4}{l b:Addr}{xs ys zs:List V}
theorem Inv.lset {its its':List va2}{n:Nat}{f:Array va2->Array va2}{t':Nat} (I:Inv X pins σ H s) (hH:H l=some (.lst xs))
  (e:s.heap.get? l=some { cls:=.type "list",data:=.seq its.toArray n }) (hf:f its.toArray=its'.toArray) (hv:Vals ys its') (hz:ys.length<=va6):
  Inv X pins σ (upd H l (.lst ys)) { s with heap:=s.heap.update l (vh9 f),toks:=t' }:=by
 have q:=PySem.IsL.update e f;rw [hf] at q;refine I.write (x:=l) (e:=l) (by rw [hH];exact trivial) (.inl rfl) (λ b' u hb hu=>(vf5 s.heap (vh9 f) (vb6 hb)).trans hu) ⟨_,q⟩ ?_;exact ⟨hz,its',_,hv,q⟩
theorem Inv.lnew {its:List va2}{t':Nat} (I:Inv X pins σ H s) (hv:Vals ys its) (hz:ys.length<=va6):
  Inv X pins σ (upd H s.heap.objs.size (.lst ys)) { s with heap:=s.heap.push { cls:=.type "list",data:=.seq its.toArray },toks:=t' }:=
 I.laid (λ _ _ q=>va3 _ q) (ja8 _) ⟨hz,its,0,hv,va7 _ rfl⟩
theorem Inv.fresh (I:Inv X pins σ H s):H s.heap.objs.size=none:=I.hok.fresh (ja8 _)
theorem Inv.lstM (I:Inv X pins σ H s) (hH:H l=some (.lst xs)):xs.length<=va6/\∃ (its:List va2) (n:Nat),Vals xs its/\xs.length=its.length/\s.heap.get? l=some { cls:=.type "list",data:=.seq its.toArray n }:=by
 obtain ⟨z,its,n,r,e⟩:=I.hok l _ hH;exact ⟨z,its,n,r,r.length,e⟩
theorem qax {n:Nat} (h:n<=va6):vf0 n=false:=by
 unfold vf0;exact decide_eq_false (by omega)
end
section
variable {X:Cx}
def qdc:V->List V->Hp->VK->Prop:=λ x vs H Q=>∃ l xs y,x=.ref l/\vs=[y]/\H l=some (.lst xs)/\xs.length < va6/\Q .non (upd H l (.lst (xs++[y])))
theorem zff:MtM X "list.append" qdc:=by
 intro pins s σ H x vs v us Q I rx rv h;obtain ⟨l,xs,y,rfl,rfl,hH,hz,q⟩:=h;cases rx;obtain ⟨u,rfl,ru⟩:=rv.one;obtain ⟨z,its,n,r,hl,e⟩:=I.lstM hH;refine call_meets F.slot_list_append ⟨_,e,rfl⟩ F.entry_list_append (F.args_list_append_2 _ _) (PySem.list_append l its.toArray n u (by rw [jb5];omega)) ⟨e,?_⟩;refine ⟨.non,_,I.lset (its':=its++[u]) hH e (by simp) (r.append (.cons ru .nil)) ?_,rfl,q⟩;rw [jb1,jd7];omega
def qdb:V->List V->Hp->VK->Prop:=λ x vs H Q=>∃ l b xs zs,x=.ref l/\vs=[.ref b]/\H l=some (.lst xs)/\H b=some (.lst zs)/\xs.length + zs.length<=va6/\Q .non (upd H l (.lst (xs++zs)))
theorem qd1:MtM X "list.extend" qdb:=by
 intro pins s σ H x vs v us Q I rx rv h;obtain ⟨l,b,xs,zs,rfl,rfl,hH,hB,hz,q⟩:=h;cases rx;obtain ⟨u,rfl,ru⟩:=rv.one;cases ru;obtain ⟨z,its,n,r,hl,e⟩:=I.lstM hH;obtain ⟨z2,its2,n2,r2,hl2,e2⟩:=I.lstM hB;have hsz:its.toArray.size + its2.toArray.size<=va6:=by rw [jb5,jb5];omega
 have hlong:¬ (!its.toArray.isEmpty && vf0 (its.toArray.size + its2.toArray.size))=true:=by
  rw [qax hsz,jp9];exact jb9
 refine call_meets F.slot_list_extend ⟨_,e,rfl⟩ F.entry_list_extend (F.args_list_extend_2 _ _)
  (AutoSeq1.list_extend_list_list_0 l its.toArray n b its2.toArray n2 hlong (by rw [jb5];omega) (by omega)) ⟨e,e2,?_⟩
 refine ⟨.non,_,I.lset (its':=its++its2) hH e (by simp) (r.append r2) ?_,rfl,q⟩;rw [jb1];omega
def rCat:R2:=λ x y H Q=>∃ l b xs zs,x=.ref l/\y=.ref b/\H l=some (.lst xs)/\H b=some (.lst zs)/\xs.length + zs.length<=va6/\∀ p,H p=none->Q (.ref p) (upd H p (.lst (xs++zs)))
theorem qnx:OpR X (vf4 .Add) rCat:=by
 intro pins s σ H x y v u Q I rx ry h;obtain ⟨l,b,xs,zs,rfl,rfl,hH,hB,hz,q⟩:=h;cases rx;cases ry;obtain ⟨z,its,n,r,hl,e⟩:=I.lstM hH;obtain ⟨z2,its2,n2,r2,hl2,e2⟩:=I.lstM hB;refine PySem.P.add_list e e2 ?_ (by rw [jb5,jb5];omega);have ea:its.toArray++its2.toArray=(its++its2).toArray:=by simp
 rw [ea];exact ⟨.ref _,_,I.lnew (t':=s.toks) (r.append r2) (by rw [jb1];omega),rfl,q _ I.fresh⟩
def rRep:R2:=λ x y H Q=>∃ l k xs,x=.ref l/\y=.int k/\H l=some (.lst xs)/\-(2 ^ 63)<=k/\k < 2 ^ 63/\xs.length * k.toNat<=va6 /\
 ∀ p,H p=none->Q (.ref p) (upd H p (.lst (ja2 k.toNat xs).flatten))
theorem qkk {α:Type} (xs:List α) (k:Nat):(ja2 k xs).flatten.length=k * xs.length:=by
 induction k with
 | zero=>simp
 | succ k ih=>rw [jf1,jg7,jb1,ih,jq5,Nat.add_comm]
theorem qnm:OpR X (vf4 .Mult) rRep:=by
 intro pins s σ H x y v u Q I rx ry h;obtain ⟨l,k,xs,rfl,rfl,hH,h1,h2,hz,q⟩:=h;cases rx;obtain ⟨t,rfl⟩:=ry;obtain ⟨z,its,n,r,hl,e⟩:=I.lstM hH;have hlen:its.toArray.size * k.toNat<=va6:=by rw [jb5,<- hl];exact hz
 have hcap:¬ its.toArray.size * k.toNat > (2 ^ 63 - 1) / 8:=by
  have:(va6:Nat)<=(2 ^ 63 - 1) / 8:=by decide
  omega
 have hfit:¬ (!Builtin.List.listFitsIndex k)=true:=by
  rw [fitsIndex_both h1 h2];exact jb9
 have hlong:¬ vf0 (its.toArray.size * k.toNat)=true:=by
  rw [qax hlen];exact jb9
 have hnew:jq0 (λ x1 x2=>x1++x2) #[] (ja2 (if its.toArray.isEmpty=true then 0 else k.toNat) its.toArray)=(ja2 k.toNat its).flatten.toArray:=by
  have f0:∀ m:Nat,jq0 (λ x1 x2=>x1++x2) #[] (ja2 m its.toArray)=(ja2 m its).flatten.toArray:=λ m=>by
   have:=zfo its m []
   rw [je2] at this;exact this
  rw [f0];cases its with
  | nil=>simp
  | cons a r'=>rw [if_neg (by simp)]
 refine wpAny_binaryOp_repeat_ref (T := "list") (U := "int") (by decide) ⟨_,e,rfl⟩ (λ s'=>typeIs_int s' k t) noFill_list_mul F.fills_int_mul F.slot_int_rmul repeat_list F.slot_int_index.lookup
  (call_meets F.slot_int_rmul (typeIs_int s k t) F.entry_int_rmul (F.args_int_rmul_2 _ _) (int___rmul___int_list k t l its.toArray n)
   ⟨e,rfl,⟨_,e,rfl⟩,call_meets F.slot_list_mul ⟨_,e,rfl⟩ F.entry_list_mul (F.args_list_mul_2 _ _) (AutoListH.list___mul___list_int_3 l its.toArray n k t hfit hcap hlong) ⟨e,?_⟩⟩)
 rw [hnew];exact ⟨.ref _,_,I.lnew (t':=s.toks) (r.rep k.toNat) (by rw [qkk,Nat.mul_comm];exact hz),rfl,q _ I.fresh⟩
end
section
variable {prog:vb0}{w:vb4}{A:vc0}{E:va2->va4->Prop}{s:va4}
end
section
variable {X:Cx}
end
end L2
namespace Att
open PySem PySem.W PySem.Calls PyProof.Rows
theorem zjs {P:Params}{h:Heap}:∀ (ns:List Int) (vs:List va2),WellAll P h vs (ns.map WData.int)->IntsAre vs ns:=by
 intro ns;induction ns with
 | nil=>
  intro vs w;rw [jh4] at w;cases w;exact .nil
 | cons n ns ih=>
  intro vs w;rw [jb7] at w;cases w with
  | cons a b=>
   cases a;exact .cons _ _ (ih _ b)
theorem qc2 {l:OpenLaw}{n:Nat} (hn:l.most=some n) {P:Params}{h:Heap}{args:List WData}{vals:List va2}
  (hpre:l.row.toRowW.claim.pre args=true) (hwl:WellAll P h vals args):
  ∃ a vs ns,vals=[Value.ref a]/\args=[WData.list (ns.map WData.int)]/\h.get? a=some { cls:=.type "list",data:=.seq vs.toArray }/\IntsAre vs ns/\ns.length<=n:=by
 have hsh:WShape.hasAll [] args [.list .int]=true:=(pre_splitW hpre).1;have hc:l.pre.holds [] { args:=args }=true:=(pre_splitW hpre).2;obtain ⟨d,r,rfl,h1,h2⟩:=hasAllW_cons hsh;obtain rfl:=hasAllW_nil h2;obtain ⟨xs,rfl,h3⟩:=hasW_list h1;obtain ⟨ns,rfl⟩:=items_int h3;have hlen:ns.length<=n:=by
  unfold OpenLaw.pre at hc;have h4:(WTm.not (.lt (.lit (.int (n:Int))) (.len (.arg 0)))).holds [] { args:=[.list (ns.map .int)] }=true:=by
   have h4:=(holds_andW hc).1;rw [hn] at h4;exact h4
  have h5:=condW_of h4 (w_not (w_lt w_lit (w_len_list (w_arg rfl))));rw [ja3] at h5;refine Nat.le_of_not_lt λ q=>?_;have q':(n:Int) < ((ns.length:Nat):Int):=by omega
  first
   | (rw [decide_eq_true q'] at h5;exact absurd h5 (by decide))
   | (simp at h5;omega)
 cases hwl with
 | cons w1 w2=>
  cases w2;cases w1 with
  | list ho hall=>exact ⟨_,_,ns,rfl,rfl,ho,zjs ns _ hall,hlen⟩
theorem qdi (l:OpenLaw) (args:List WData):l.row.toRowW.claim.post args (.bool true) args=true:=
 postW_of (r:=l.row.toRowW) (X:=(true == true))
  (show WShape.has [] (.bool true) .bool=true by first | rfl | decide | simp [WShape.has,WShape.arms,WShape.armsAll])
  (show (WTm.eq .res (.lit (.bool true))).value [] { args:=args,res:=some (.bool true),after:=args }=some (.bool (true == true)) from w_eq_bool (w_res rfl) w_lit) rfl
theorem attach_call {l:OpenLaw}{n:Nat}{q:vb0}{loose:List Str}{XP:(Str->Option va2)->Heap->Prop}{YP:vb4->Heap->Prop}{d:DefRec}
  (hn:l.most=some n) (hdf:d.params.defaults=[])
  (call:∀ (w:vb4) (s₀ s₁:va4) (mg mb:Str->Option va2) (fa:Addr) (o:Obj) (pm cd doc:va2) (a:Addr) (vs:List va2) (ns:List Int),
   Ground q loose [] XP w s₀ mg mb s₁.heap->YP w s₁.heap ->
   s₁.heap.get? fa=some o->o.data=.func (docDef d.name d.params d.body d.scope pm cd doc)->s₁.heap.CodeRec cd d.name->mg d.name=some (.ref fa) ->
   s₁.heap.get? a=some { cls:=.type "list",data:=.seq vs.toArray }->IntsAre vs ns->ns.length<=n->s₁.gens=#[] ->
   vk6 (vb2 l.prog w) vm6 (.call (.ref fa) ⟨[.ref a],[]⟩) (λ r s'=>r=.ok (.ret (.bool true))/\OldK s₁.heap s'.heap/\s'.os=s₁.os/\vi3 s'.gens) s₁):
  WalkO q loose XP YP l.row.toRowW d [] (λ f vs=>PySem.call f vs):=by
 intro w s₀ s₁ mg mb G Y fa o pm cd doc dV kV ho hd hcd hD hmg hg args vals as hpre hlay hrd hwl hlo;obtain rfl:dV=.none:=Dflts.none hD hdf;obtain rfl:kV=.none:=Dflts.noKw hD;obtain ⟨a,vs,ns,rfl,rfl,hobj,hints,hlen⟩:=qc2 hn hpre hwl;refine enter_call (codeAny_mono (call w s₀ s₁ mg mb fa o pm cd doc a vs ns G Y ho (fd_plain hd) hcd hmg hobj hints hlen hg) λ r s' hq=>?_);obtain ⟨rfl,h2,h3,h4⟩:=hq;exact ⟨.inl ⟨.bool true,.bool true,[],rfl,λ _=>rfl,.bool true,qdi l _,λ _=>⟨List.Pairwise.nil,λ _ hm=>(nomatch hm)⟩⟩,h2,h3,h4⟩
section
variable {prog:vb0}{w:vb4}{A:vc0}{E:va2->va4->Prop}{s:va4}{K:Frag}
end
end Att
namespace L2
open PySem PySem.Spec PyProof.Rows
theorem zmj:∀ {vs:List va2}{ns:List Int},IntsAre vs ns->Vals (ns.map V.int) vs
 | _,_,.nil=>.nil
 | _,_,.cons n t h=>.cons ⟨t,rfl⟩ (zmj h)
def Only (H:Hp):Prop:=∀ b,H b=none\/∃ o xs,H b=some (.frz o (.lst xs))
theorem qgt {P:vb0}{w:vb4}{K:va8}{mg mb:Str->Option va2}{CX:CXT}{k:Nat}{fa a:Addr}{fd:vc5}{x:Str}{sp:Sp}{s₁:va4}{vs:List va2}{ns:List Int}
  (KX:K.In s₁.heap) (hns:s₁.heap.Ns vc3 mg) (hb:s₁.heap.Ns builtinsNs mb) (hbb:∀ x:Str,x ≠ "__name__" -> mb x=vf9 x) (hlim:s₁.heap.NoLimit) (hg:s₁.gens=#[])
  (ha:s₁.heap.get? a=some { cls:=.type "list",data:=.seq vs.toArray }) (hi:IntsAre vs ns) (hl:ns.length<=va6) (hr:Room k vm6)
  (F:∀ base:Heap,K.In base->base.Ns vc3 mg->FnOk P w K mg base CX k fa fd [x] sp) (hbind:∀ (s:va4) (u:va2),BindsTo s fd ⟨[u],[]⟩ [(x,u)])
  (hsp:∀ H:Hp,Only H->SqL K H a (ns.map V.int)->sp [.ref a] H (λ v _=>v=.bl true) λ _ _ _=>False)
  (hCX:∀ H e s',CX [] H s₁ (λ _ _ _=>False) e s'->False):
  vk6 (vb2 P w) vm6 (.call (.ref fa) ⟨[.ref a],[]⟩) (λ r s'=>r=.ok (.ret (.bool true))/\OldK s₁.heap s'.heap/\s'.os=s₁.os/\vi3 s'.gens) s₁:=by
 have rv:=zmj hi;have lenV:=hi.length;have core:∀ H:Hp,Only H->SqL K H a (ns.map V.int)->HOk P w H s₁.heap->(∀ b,H b≠none->b=a)->(H a≠none->K.lookup a=none) ->
   vk6 (vb2 P w) vm6 (.call (.ref fa) ⟨[.ref a],[]⟩) (λ r s'=>r=.ok (.ret (.bool true))/\OldK s₁.heap s'.heap/\s'.os=s₁.os/\vi3 s'.gens) s₁:=by
  intro H hO hS hok hA hK;have base_of:∀ {b:Addr}{o:Obj},s₁.heap.get? b=some o->H b=none->(hidT s₁.heap H).get? b=some o:=λ e n=>qgy e n;have noA:∀ {b:Addr}{o:Obj}{es:Array vd0}{ep:Nat},s₁.heap.get? b=some o->o.data=.dict es ep->H b=none:=λ {b o es ep} e d=>by
   cases q:H b with
   | none=>rfl
   | some u=>
    have e':b=a:=hA b (by rw [q];simp);subst e';rw [ha] at e;cases e;have d':Data.seq vs.toArray _=Data.dict es ep:=d;cases d'
  have nsK:∀ {b:Addr}{m:Str->Option va2},s₁.heap.Ns b m->(hidT s₁.heap H).Ns b m:=λ {b m} ⟨o,es,ep,e,d,r⟩=>⟨o,es,ep,base_of e (noA e d),d,r⟩
  have hKb:K.In (hidT s₁.heap H):=λ b o e=>base_of (KX b o e) (by
   cases q:H b with
   | none=>rfl
   | some u=>
    have e':b=a:=hA b (by rw [q];simp);subst e';rw [hK (by rw [q];simp)] at e;cases e)
  have hM:Mod K mg (hidT s₁.heap H):=⟨hKb,nsK hns,⟨mb,nsK hb,hbb⟩,let ⟨mc,h1,h2⟩:=hlim;⟨mc,nsK h1,h2⟩⟩
  have e0:Env0 P w K mg (hidT s₁.heap H) vm6 [] s₁ H:=⟨rfl,hM,λ b o e=>qkg e,Nat.le_of_eq (qeo _ _),trivial,λ b hb=>absurd (show b∈([]:List Addr) from hb) (by simp),hok,.of_eq hg⟩
  refine codeAny_mono ((F _ hKb (nsK hns)).run vm6 [] s₁ H ⟨[.ref a],[]⟩ [.ref a] [.ref a] _ _ hr e0 (hbind s₁ (.ref a)) (.cons rfl .nil) (hsp H hO hS)) λ r s' h=>?_;cases r with
  | error e=>exact (hCX H e s' h).elim
  | ok fl=>
   cases fl with
   | next=>exact ve8 h
   | brk=>exact ve8 h
   | cont=>exact ve8 h
   | ret u=>
    obtain ⟨v,H',os,bare,un,hok',r',q⟩:=h;have q':v=.bl true:=q;subst q';obtain rfl:u=Value.bool true:=r';refine ⟨rfl,OldK.of_keep λ b o e=>?_,os,bare⟩;cases q:H b with
    | none=>exact un.keep b o e q (by intro z;exact absurd (show b∈([]:List Addr) from z) (by simp)) (by simp)
    | some u=>
     rcases hO b with z | ⟨ob,xs,z⟩
     ·rw [q] at z;cases z
     ·have z2:=un.frzs b ob _ z;obtain ⟨e1,_⟩:=hok b _ z;obtain ⟨e2,_⟩:=hok' b _ z2;rw [e] at e1;cases e1;exact e2
 cases hk:K.lookup a with
 | some o=>
  have e:=KX a o hk;rw [ha] at e;cases e;refine core (λ _=>none) (λ _=>.inl rfl) (.inr ⟨_,vs.toArray,_,hk,rfl,rfl,rfl,by rw [jb5,lenV];exact hl,by simpa using rv⟩) (λ b u z=>by have z':(none:Option HO)=some u:=z;cases z') (λ b z=>absurd rfl z) λ z=>absurd rfl z
 | none=>
  refine core (λ b=>if b=a then some (.frz { cls:=.type "list",data:=.seq vs.toArray } (.lst (ns.map V.int))) else none) (λ b=>?_) (.inl (.inr ⟨{ cls:=.type "list",data:=.seq vs.toArray },if_pos rfl⟩)) (λ b u z=>?_) (λ b z=>?_) λ _=>hk
  ·by_cases hb:b=a
   ·exact .inr ⟨_,_,if_pos hb⟩
   ·exact .inl (if_neg hb)
  ·by_cases hb:b=a
   ·have z':=(if_pos hb).symm.trans z;cases z';subst hb;exact ⟨ha,by rw [ja3];exact hl,vs,_,rv,ha⟩
   ·have z':=(if_neg hb).symm.trans z;cases z'
  ·by_cases hb:b=a
   ·exact hb
   ·exact absurd (if_neg hb) z
structure Fun (K:va8) (x qual:Str) (st:Stmt) (f:Addr) (fd:vc5):Prop where
 ex:∃ (oc:va2) (od:Option Addr) (kV doc pm:va2) (an:Option Addr) (cdv ct:va2) (osl:Array (Option va2)),
  fd=vg8 x qual (zjv st) (zqj st) (zqb st) .none kV doc pm an cdv ct/\K.lookup f=some ⟨oc,od,.func fd,osl⟩/\vn8 K cdv qual=true
 kp:ve2 K (.ref f)=true
section
variable {P:vb0}{w:vb4}{K:va8}{mg:Str->Option va2}{base:Heap}
theorem Fun.binds {x qual:Str}{st:Stmt}{f:Addr}{fd:vc5}{ps:List Str} (F:Fun K x qual st f fd)
  (h:∀ (kV doc pm:va2) (an:Option Addr) (cdv ct:va2) (us:List va2),us.length=ps.length->bindArgs (vg8 x qual (zjv st) (zqj st) (zqb st) .none kV doc pm an cdv ct) ⟨us,[]⟩=pure (ps.zip us)):zgh K fd ps []:=by
 obtain ⟨oc,od,kV,doc,pm,an,cdv,ct,osl,rfl,lk,hcd⟩:=F.ex;exact .all (h kV doc pm an cdv ct)
theorem qoo {x qual:Str}{st:Stmt}{f:Addr}{oc:va2}{od an:Option Addr}{osl:Array (Option va2)}{kV doc pm cdv ct:va2} (l:K.lookup f=some ⟨oc,od,.func (vg8 x qual (zjv st) (zqj st) (zqb st) .none kV doc pm an cdv ct),osl⟩)
  (c:vn8 K cdv qual=true) (k:ve2 K (.ref f)=true):Fun K x qual st f (vg8 x qual (zjv st) (zqj st) (zqb st) .none kV doc pm an cdv ct):=⟨⟨oc,od,kV,doc,pm,an,cdv,ct,osl,rfl,l,c⟩,k⟩
end
section
variable {X:Cx}
end
end L2
namespace QQ
open PySem PySem.Spec PyProof.Rows L2
abbrev St:=L2.St
def KL (K:Frag) (a:Addr) (xs:List V):Prop:=∃ (o:Obj) (its:Array va2) (n:Nat),K.lookup a=some o/\o.cls=.type "list" /\ o.dict=none/\o.data=.seq its n/\its.size<=va6/\Vals xs its.toList
theorem qcg {K:Frag}{H:Hp}{a:Addr}{xs:List V} (h:SqL K H a xs):tyV K "list" (.ref a) H:=.inl ⟨rfl,xs,h⟩
def ItS (z:Str):It:=⟨λ i _=>i < z.cps.size,λ i H v H'=>H'=H/\∃ c,z.cps[i]?=some c/\v=.str ⟨#[c]⟩,λ i _=>z.cps.size<=i⟩
def qbl (z:Str):Bool:=z.cps.all (·< 128)
def iSeq (K:Frag) (tl:TE):TI:=λ σ H R=>tl σ H λ x H1=>(∃ a,x=.ref a/\(((∃ xs,SqL K H1 a xs)/\R (Itl K a) H1)\/((∃ xs,SqT K H1 a xs)/\R (Itt K a) H1)))\/∃ z,x=.str z/\qbl z=true/\R (ItS z) H1
def qbr (k:Nat) (wi:TI) (g:TG) (tc:TT) (te:TE):TE:=λ σ H Q=>wi σ H λ J H1=>∀ D,H1 D=none->∃ W:Nat->Nat->List V->Hp->Prop,(∃ m,W 0 m [] (upd H1 D (.lst [])))/\∀ i m ys H,W i m ys H->H D=some (.lst ys) /\
 ((J.stop i H/\Q (.ref D) H)\/(J.go i H/\∀ x H',J.yld i H x H'->g x (σ++ja2 k none) H' λ σ2 H2=>tc σ2 H2 λ b H3=>if b=true then te σ2 H3 λ y H4=>H4 D=some (.lst ys)/\ys.length < va6/\∃ m',m' < m/\W (i + 1) m' (ys++[y]) (upd H4 D (.lst (ys++[y]))) else ∃ m',m' < m/\W (i + 1) m' ys H3))
inductive PV where
 | non | bl (b:Bool) | int (i:Int) | str (x:Str) | lst (xs:List PV) | tup (xs:List PV) | emp | dko | scr (ns:List Int) | dct (kvs:List (List Key×V)) | dcl (ks:List (List Key)) (xs:List PV) | exn (c:Nat)
 deriving Inhabited
inductive MO where
 | l (xs:List V) | d (kvs:List (List Key×V))
def MO.ho:MO->HO
 | .l xs=>.lst xs
 | .d kvs=>.dT kvs
def XN:List Str:=["PileError","NoBox","NoPile","NoStairs","NoWays","NoRoad","NoNumber","NoPlace","TooMany","NoText","NoName","NoRow"]
def qfd (K:Frag) (c:Nat):Option Addr:=match XN[c]? with
 | some x=>(match PySem.W.nsIn K vc3 x with
  | some (some (.ref C))=>some C
  | _=>none)
 | none=>none
def qpv (a C:Addr) (h:Heap):Prop:=∃ o vs,h.get? a=some o/\o.cls=.ref C/\o.data=.fields vs
def om:Nat:=1000
def pd (d:Nat):Nat:=if d=om then om else d - 1
theorem qpi:pd om=om:=rfl
theorem zgt:pd 0=0:=rfl
mutual
def Own (K:Frag) (H:Hp) (Z:Addr->Prop):PV->Nat->V->List Addr->Prop
 | .non,_,v,fp=>v=.non/\fp=[]
 | .bl b,_,v,fp=>v=.bl b/\fp=[]
 | .int i,_,v,fp=>v=.int i/\fp=[]
 | .str x,_,v,fp=>v=.str x/\fp=[]
 | .emp,_,v,fp=>fp=[]/\∃ a,v=.ref a/\H a=some (.dK [])
 | .dko,_,v,fp=>fp=[]/\∃ a,v=.ref a/\∃ kvs,H a=some (.dK kvs)
 | .scr ns,_,v,fp=>fp=[]/\∃ a,v=.ref a/\((∃ o,H a=some (.frz o (.lst (ns.map V.int))))\/KL K a (ns.map V.int))
 | .exn c,_,v,fp=>fp=[]/\∃ a C,v=.ref a/\qfd K c=some C/\H a=some (.ext (qpv a C))
 | .dct kvs,d,v,fp=>∃ a,v=.ref a/\((d=0/\(Rd H a (.dT kvs)/\¬ Z a)/\fp=[])\/(d≠0/\H a=some (.dT kvs)/\fp=[a]))
 | .dcl ks xs,d,v,fp=>∃ a vs,v=.ref a/\ks.length=xs.length/\((d=0/\(Rd H a (.dT (ks.zip vs))/\¬ Z a)/\fp=[]/\OwnL K H Z xs 0 vs [])\/(d≠0/\∃ f,H a=some (.dT (ks.zip vs))/\fp=a::f/\a∉f/\OwnL K H Z xs (pd d) vs f))
 | .lst xs,d,v,fp=>∃ a vs,v=.ref a/\((d=0/\(H a=some (.lst vs)/\¬ Z a)/\fp=[]/\OwnL K H Z xs 0 vs [])\/(d≠0/\∃ f,H a=some (.lst vs)/\fp=a::f/\a∉f/\OwnL K H Z xs (pd d) vs f))
 | .tup xs,d,v,fp=>∃ a vs,v=.ref a/\H a=some (.tup vs)/\OwnL K H Z xs (pd d) vs fp
def OwnL (K:Frag) (H:Hp) (Z:Addr->Prop):List PV->Nat->List V->List Addr->Prop
 | [],_,vs,fp=>vs=[]/\fp=[]
 | x::xs,d,vs,fp=>∃ v r f1 f2,vs=v::r/\fp=f1++f2/\(∀ a∈f1,a∉f2)/\Own K H Z x d v f1/\OwnL K H Z xs d r f2
end
def Keep (S:Addr->Prop) (H H':Hp):Prop:=∀ a o,H a=some o->¬ S a->H' a=some o
theorem Rd.keepS {S:Addr->Prop}{H H':Hp}{a:Addr}{u:HO} (k:Keep S H H') (h:Rd H a u) (n:¬ S a):Rd H' a u:=h.elim (λ e=>.inl (k a _ e n)) λ ⟨o,e⟩=>.inr ⟨o,k a _ e n⟩
theorem Rd.ne {H:Hp}{a:Addr}{u:HO} (h:Rd H a u):H a≠none:=by
 rcases h with e | ⟨o,e⟩ <;> rw [e] <;> simp
section
variable {K:Frag}{H H':Hp}{Z Z' S:Addr->Prop}
mutual
theorem Own.lsts:∀ (x:PV) (d:Nat) (v:V) (fp:List Addr),Own K H Z x d v fp->∀ a∈fp,∃ o:MO,H a=some o.ho
 | .non,_,_,_,h,a,ha=>by rw [Own] at h;rw [h.2] at ha;cases ha
 | .bl _,_,_,_,h,a,ha=>by rw [Own] at h;rw [h.2] at ha;cases ha
 | .int _,_,_,_,h,a,ha=>by rw [Own] at h;rw [h.2] at ha;cases ha
 | .str _,_,_,_,h,a,ha=>by rw [Own] at h;rw [h.2] at ha;cases ha
 | .emp,_,_,_,h,a,ha=>by rw [Own] at h;rw [h.1] at ha;cases ha
 | .dko,_,_,_,h,a,ha=>by rw [Own] at h;rw [h.1] at ha;cases ha
 | .scr _,_,_,_,h,a,ha=>by rw [Own] at h;rw [h.1] at ha;cases ha
 | .exn _,_,_,_,h,a,ha=>by rw [Own] at h;rw [h.1] at ha;cases ha
 | .dct kvs,d,v,fp,h,a,ha=>by
  rw [Own] at h;obtain ⟨b,_,⟨_,_,e⟩ | ⟨_,hb,e⟩⟩:=h
  ·rw [e] at ha;cases ha
  ·rw [e] at ha;rw [jb4.mp ha];exact ⟨.d kvs,hb⟩
 | .dcl ks xs,d,v,fp,h,a,ha=>by
  rw [Own] at h;obtain ⟨b,vs,_,_,⟨_,_,e,_⟩ | ⟨_,f,hb,e,_,hl⟩⟩:=h
  ·rw [e] at ha;cases ha
  ·rw [e] at ha;rcases jb6.mp ha with z | z
   ·exact ⟨.d (ks.zip vs),by rw [z];exact hb⟩
   ·exact OwnL.lsts xs _ vs f hl a z
 | .lst xs,d,v,fp,h,a,ha=>by
  rw [Own] at h;obtain ⟨b,vs,_,⟨_,_,e,_⟩ | ⟨_,f,hb,e,_,hl⟩⟩:=h
  ·rw [e] at ha;cases ha
  ·rw [e] at ha;rcases jb6.mp ha with z | z
   ·exact ⟨.l vs,by rw [z];exact hb⟩
   ·exact OwnL.lsts xs _ vs f hl a z
 | .tup xs,d,v,fp,h,a,ha=>by
  rw [Own] at h;obtain ⟨b,vs,_,_,hl⟩:=h;exact OwnL.lsts xs _ vs fp hl a ha
theorem OwnL.lsts:∀ (xs:List PV) (d:Nat) (vs:List V) (fp:List Addr),OwnL K H Z xs d vs fp->∀ a∈fp,∃ o:MO,H a=some o.ho
 | [],_,_,_,h,a,ha=>by rw [OwnL] at h;rw [h.2] at ha;cases ha
 | x::xs,d,vs,fp,h,a,ha=>by
  rw [OwnL] at h;obtain ⟨v,r,f1,f2,_,e,_,h1,h2⟩:=h;rw [e] at ha;rcases jd2.mp ha with z | z
  ·exact Own.lsts x d v f1 h1 a z
  ·exact OwnL.lsts xs d r f2 h2 a z
end
mutual
theorem Own.move (k:Keep S H H') (hS:∀ a,S a->Z a/\∃ o:MO,H a=some o.ho) (hz:∀ a,H a≠none->¬ Z a->¬ Z' a):
  ∀ (x:PV) (d:Nat) (v:V) (fp:List Addr),(∀ a∈fp,¬ S a)->Own K H Z x d v fp->Own K H' Z' x d v fp
 | .non,_,_,_,_,h=>by rw [Own] at h ⊢;exact h
 | .bl _,_,_,_,_,h=>by rw [Own] at h ⊢;exact h
 | .int _,_,_,_,_,h=>by rw [Own] at h ⊢;exact h
 | .str _,_,_,_,_,h=>by rw [Own] at h ⊢;exact h
 | .emp,_,_,_,_,h=>by
  rw [Own] at h ⊢;obtain ⟨e,a,ev,ha⟩:=h;exact ⟨e,a,ev,k a _ ha λ s=>by obtain ⟨_,o,e⟩:=hS a s;rw [ha] at e;cases o <;> cases e⟩
 | .dko,_,_,_,_,h=>by
  rw [Own] at h ⊢;obtain ⟨e,a,ev,kvs,ha⟩:=h;exact ⟨e,a,ev,kvs,k a _ ha λ s=>by obtain ⟨_,o,e⟩:=hS a s;rw [ha] at e;cases o <;> cases e⟩
 | .scr ns,_,_,_,_,h=>by
  rw [Own] at h ⊢;obtain ⟨e,a,ev,⟨o,ha⟩ | ha⟩:=h
  ·exact ⟨e,a,ev,.inl ⟨o,k a _ ha λ s=>by obtain ⟨_,q,e⟩:=hS a s;rw [ha] at e;cases q <;> cases e⟩⟩
  ·exact ⟨e,a,ev,.inr ha⟩
 | .exn c,_,_,_,_,h=>by
  rw [Own] at h ⊢;obtain ⟨e,a,C,ev,hc,ha⟩:=h;exact ⟨e,a,C,ev,hc,k a _ ha λ s=>by obtain ⟨_,q,e⟩:=hS a s;rw [ha] at e;cases q <;> cases e⟩
 | .dct kvs,d,v,fp,hf,h=>by
  rw [Own] at h ⊢;obtain ⟨b,ev,⟨d0,hr,e⟩ | ⟨d0,hb,e⟩⟩:=h
  ·exact ⟨b,ev,.inl ⟨d0,⟨Rd.keepS k hr.1 λ s=>hr.2 (hS b s).1,hz b (Rd.ne hr.1) hr.2⟩,e⟩⟩
  ·exact ⟨b,ev,.inr ⟨d0,k b _ hb (hf b (by rw [e];exact ja1)),e⟩⟩
 | .dcl ks xs,d,v,fp,hf,h=>by
  rw [Own] at h ⊢;obtain ⟨b,vs,ev,en,⟨d0,hr,e,hl⟩ | ⟨d0,f,hb,e,nb,hl⟩⟩:=h
  ·refine ⟨b,vs,ev,en,.inl ⟨d0,?_,e,OwnL.move k hS hz xs 0 vs [] (λ _ z=>nomatch z) hl⟩⟩;exact ⟨Rd.keepS k hr.1 λ s=>hr.2 (hS b s).1,hz b (Rd.ne hr.1) hr.2⟩
  ·refine ⟨b,vs,ev,en,.inr ⟨d0,f,k b _ hb (hf b (by rw [e];exact ja1)),e,nb,?_⟩⟩;exact OwnL.move k hS hz xs _ vs f (λ a ha=>hf a (by rw [e];exact ja0 _ ha)) hl
 | .lst xs,d,v,fp,hf,h=>by
  rw [Own] at h ⊢;obtain ⟨b,vs,ev,⟨d0,hr,e,hl⟩ | ⟨d0,f,hb,e,nb,hl⟩⟩:=h
  ·refine ⟨b,vs,ev,.inl ⟨d0,?_,e,OwnL.move k hS hz xs 0 vs [] (λ _ z=>nomatch z) hl⟩⟩;exact ⟨k b _ hr.1 λ s=>hr.2 (hS b s).1,hz b (by rw [hr.1];simp) hr.2⟩
  ·refine ⟨b,vs,ev,.inr ⟨d0,f,k b _ hb (hf b (by rw [e];exact ja1)),e,nb,?_⟩⟩;exact OwnL.move k hS hz xs _ vs f (λ a ha=>hf a (by rw [e];exact ja0 _ ha)) hl
 | .tup xs,d,v,fp,hf,h=>by
  rw [Own] at h ⊢;obtain ⟨b,vs,ev,hr,hl⟩:=h;exact ⟨b,vs,ev,k b _ hr (λ s=>by obtain ⟨_,o,e⟩:=hS b s;rw [hr] at e;cases o <;> cases e),OwnL.move k hS hz xs _ vs fp hf hl⟩
theorem OwnL.move (k:Keep S H H') (hS:∀ a,S a->Z a/\∃ o:MO,H a=some o.ho) (hz:∀ a,H a≠none->¬ Z a->¬ Z' a):
  ∀ (xs:List PV) (d:Nat) (vs:List V) (fp:List Addr),(∀ a∈fp,¬ S a)->OwnL K H Z xs d vs fp->OwnL K H' Z' xs d vs fp
 | [],_,_,_,_,h=>by rw [OwnL] at h ⊢;exact h
 | x::xs,d,vs,fp,hf,h=>by
  rw [OwnL] at h ⊢;obtain ⟨v,r,f1,f2,e1,e,dj,h1,h2⟩:=h;exact ⟨v,r,f1,f2,e1,e,dj,Own.move k hS hz x d v f1 (λ a ha=>hf a (by rw [e];exact ja7 _ ha)) h1,OwnL.move k hS hz xs d r f2 (λ a ha=>hf a (by rw [e];exact ja5 _ ha)) h2⟩
end
mutual
theorem Own.freeze (hz:∀ a,Z' a->Z a):∀ (x:PV) (d:Nat) (v:V) (fp:List Addr),(∀ a∈fp,¬ Z' a)->Own K H Z x d v fp->Own K H Z' x 0 v []
 | .non,_,_,_,_,h=>by rw [Own] at h ⊢;exact ⟨h.1,rfl⟩
 | .bl _,_,_,_,_,h=>by rw [Own] at h ⊢;exact ⟨h.1,rfl⟩
 | .int _,_,_,_,_,h=>by rw [Own] at h ⊢;exact ⟨h.1,rfl⟩
 | .str _,_,_,_,_,h=>by rw [Own] at h ⊢;exact ⟨h.1,rfl⟩
 | .emp,_,_,_,_,h=>by rw [Own] at h ⊢;exact ⟨rfl,h.2⟩
 | .dko,_,_,_,_,h=>by rw [Own] at h ⊢;exact ⟨rfl,h.2⟩
 | .scr _,_,_,_,_,h=>by rw [Own] at h ⊢;exact ⟨rfl,h.2⟩
 | .exn _,_,_,_,_,h=>by rw [Own] at h ⊢;exact ⟨rfl,h.2⟩
 | .dct kvs,d,v,fp,hf,h=>by
  rw [Own] at h ⊢;obtain ⟨b,ev,⟨d0,hr,e⟩ | ⟨d0,hb,e⟩⟩:=h
  ·exact ⟨b,ev,.inl ⟨rfl,⟨hr.1,λ z=>hr.2 (hz b z)⟩,rfl⟩⟩
  ·exact ⟨b,ev,.inl ⟨rfl,⟨.inl hb,hf b (by rw [e];exact ja1)⟩,rfl⟩⟩
 | .dcl ks xs,d,v,fp,hf,h=>by
  rw [Own] at h ⊢;obtain ⟨b,vs,ev,en,⟨d0,hr,e,hl⟩ | ⟨d0,f,hb,e,nb,hl⟩⟩:=h
  ·refine ⟨b,vs,ev,en,.inl ⟨rfl,?_,rfl,OwnL.freeze hz xs 0 vs [] (λ _ z=>nomatch z) hl⟩⟩;exact ⟨hr.1,λ z=>hr.2 (hz b z)⟩
  ·exact ⟨b,vs,ev,en,.inl ⟨rfl,⟨.inl hb,hf b (by rw [e];exact ja1)⟩,rfl,OwnL.freeze hz xs _ vs f (λ a ha=>hf a (by rw [e];exact ja0 _ ha)) hl⟩⟩
 | .lst xs,d,v,fp,hf,h=>by
  rw [Own] at h ⊢;obtain ⟨b,vs,ev,⟨d0,hr,e,hl⟩ | ⟨d0,f,hb,e,nb,hl⟩⟩:=h
  ·refine ⟨b,vs,ev,.inl ⟨rfl,?_,rfl,OwnL.freeze hz xs 0 vs [] (λ _ z=>nomatch z) hl⟩⟩;exact ⟨hr.1,λ z=>hr.2 (hz b z)⟩
  ·exact ⟨b,vs,ev,.inl ⟨rfl,⟨hb,hf b (by rw [e];exact ja1)⟩,rfl,OwnL.freeze hz xs _ vs f (λ a ha=>hf a (by rw [e];exact ja0 _ ha)) hl⟩⟩
 | .tup xs,d,v,fp,hf,h=>by
  rw [Own] at h ⊢;obtain ⟨b,vs,ev,hr,hl⟩:=h;exact ⟨b,vs,ev,hr,OwnL.freeze hz xs _ vs fp hf hl⟩
theorem OwnL.freeze (hz:∀ a,Z' a->Z a):∀ (xs:List PV) (d:Nat) (vs:List V) (fp:List Addr),(∀ a∈fp,¬ Z' a)->OwnL K H Z xs d vs fp->OwnL K H Z' xs 0 vs []
 | [],_,_,_,_,h=>by rw [OwnL] at h ⊢;exact ⟨h.1,rfl⟩
 | x::xs,d,vs,fp,hf,h=>by
  rw [OwnL] at h ⊢;obtain ⟨v,r,f1,f2,e1,e,dj,h1,h2⟩:=h;exact ⟨v,r,[],[],e1,rfl,λ _ z=>(nomatch z),Own.freeze hz x d v f1 (λ a ha=>hf a (by rw [e];exact ja7 _ ha)) h1,OwnL.freeze hz xs d r f2 (λ a ha=>hf a (by rw [e];exact ja5 _ ha)) h2⟩
end
mutual
theorem Own.full:∀ (x:PV) (v:V) (fp:List Addr),Own K H Z x om v fp->Own K H Z' x om v fp
 | .non,_,_,h=>by rw [Own] at h ⊢;exact h
 | .bl _,_,_,h=>by rw [Own] at h ⊢;exact h
 | .int _,_,_,h=>by rw [Own] at h ⊢;exact h
 | .str _,_,_,h=>by rw [Own] at h ⊢;exact h
 | .emp,_,_,h=>by rw [Own] at h ⊢;exact h
 | .dko,_,_,h=>by rw [Own] at h ⊢;exact h
 | .scr _,_,_,h=>by rw [Own] at h ⊢;exact h
 | .exn _,_,_,h=>by rw [Own] at h ⊢;exact h
 | .dct kvs,v,fp,h=>by
  rw [Own] at h ⊢;obtain ⟨b,ev,⟨d0,_⟩ | ⟨d0,hb,e⟩⟩:=h
  ·exact absurd d0 (by decide)
  ·exact ⟨b,ev,.inr ⟨d0,hb,e⟩⟩
 | .dcl ks xs,v,fp,h=>by
  rw [Own] at h ⊢;obtain ⟨b,vs,ev,en,⟨d0,_⟩ | ⟨d0,f,hb,e,nb,hl⟩⟩:=h
  ·exact absurd d0 (by decide)
  ·exact ⟨b,vs,ev,en,.inr ⟨d0,f,hb,e,nb,OwnL.full xs vs f hl⟩⟩
 | .lst xs,v,fp,h=>by
  rw [Own] at h ⊢;obtain ⟨b,vs,ev,⟨d0,_⟩ | ⟨d0,f,hb,e,nb,hl⟩⟩:=h
  ·exact absurd d0 (by decide)
  ·exact ⟨b,vs,ev,.inr ⟨d0,f,hb,e,nb,OwnL.full xs vs f hl⟩⟩
 | .tup xs,v,fp,h=>by
  rw [Own] at h ⊢;obtain ⟨b,vs,ev,hr,hl⟩:=h;exact ⟨b,vs,ev,hr,OwnL.full xs vs fp hl⟩
theorem OwnL.full:∀ (xs:List PV) (vs:List V) (fp:List Addr),OwnL K H Z xs om vs fp->OwnL K H Z' xs om vs fp
 | [],_,_,h=>by rw [OwnL] at h ⊢;exact h
 | x::xs,vs,fp,h=>by
  rw [OwnL] at h ⊢;obtain ⟨v,r,f1,f2,e1,e,dj,h1,h2⟩:=h;exact ⟨v,r,f1,f2,e1,e,dj,Own.full x v f1 h1,OwnL.full xs r f2 h2⟩
end
theorem Own.weak (hz:∀ a,Z' a->Z a) {x:PV}{d:Nat}{v:V}{fp:List Addr} (h:Own K H Z x d v fp):Own K H Z' x d v fp:=
 Own.move (S:=λ _=>False) (λ _ _ h _=>h) (λ _ z=>z.elim) (λ a _ n z=>n (hz a z)) x d v fp (λ _ _ z=>z) h
theorem OwnL.weak (hz:∀ a,Z' a->Z a) {xs:List PV}{d:Nat}{vs:List V}{fp:List Addr} (h:OwnL K H Z xs d vs fp):OwnL K H Z' xs d vs fp:=
 OwnL.move (S:=λ _=>False) (λ _ _ h _=>h) (λ _ z=>z.elim) (λ a _ n z=>n (hz a z)) xs d vs fp (λ _ _ z=>z) h
end
abbrev Slot:=Option (PV×Nat)
abbrev Rho:=List Slot
inductive Rz (α:Type) where
 | ok (a:α) | exc (c:Nat) | no
def Rz.bind {α β:Type} (r:Rz α) (f:α->Rz β):Rz β:=match r with
 | .ok a=>f a
 | .exc c=>.exc c
 | .no=>.no
abbrev Fx:=Rho->Rz (PV×Nat×Rho)
abbrev Fa:=Rho->Rz (List (PV×Nat)×Rho)
abbrev Fb:=Rho->Rz (Bool×Rho)
structure Fm where
 K:Frag
 Ms:Nat->Bool
 Zo:Addr->Prop
 H₀:Hp
 W:St->Nat->Hp->Prop
 io:Option V
 al:Nat->List Nat
 pn:List (Nat×V):=[]
abbrev Fps:=Nat->List Addr
def Fm.Fre (M:Fm) (i:Nat):Prop:=(M.io≠none->i≠0)/\∀ p∈M.pn,p.1≠i
def Zf (M:Fm) (fps:Fps):Addr->Prop:=λ a=>M.Zo a\/∃ i,a∈fps i
def Zv (M:Fm) (vs:List Nat) (fps:Fps):Addr->Prop:=λ a=>M.Zo a\/∃ i,i∉vs/\a∈fps i
def Za (M:Fm) (fps:Fps) (i:Nat):Addr->Prop:=λ a=>M.Zo a\/∃ j,j∉M.al i/\a∈fps j
def Zt (M:Fm) (vs:List Nat) (fps:Fps) (fp:List Addr):Addr->Prop:=λ a=>Zv M vs fps a\/a∈fp
def Fm.plus (M:Fm) (fp:List Addr):Fm:={ M with Zo:=λ a=>M.Zo a\/a∈fp }
structure Rep (M:Fm) (ρ:Rho) (σ:St) (H:Hp) (fps:Fps):Prop where
 own:∀ i x d,ρ[i]?=some (some (x,d))->∃ v,σ[i]?=some (some v)/\Own M.K H (Za M fps i) x d v (fps i)
 non:∀ i,(∀ p,ρ[i]?≠some (some p))->fps i=[]
 dj:∀ i j,i≠j->∀ a∈fps i,a∉fps j
 zo:∀ i,∀ a∈fps i,¬ M.Zo a
 fr:∀ i,M.Ms i=false->∀ a∈fps i,M.H₀ a=none
 zd:∀ a,M.Zo a->H a≠none
 len:ρ.length=σ.length
 msf:∀ i x d,M.Ms i=true->ρ[i]?=some (some (x,d))->d=om
 h0:∀ a,M.H₀ a≠none->H a≠none
 iov:(∀ v,M.io=some v->σ[0]?=some (some v)/\M.Ms 0=true)/\∀ p∈M.pn,σ[p.1]?=some (some p.2)
def Agr (M:Fm) (ρ ρ':Rho):Prop:=(∀ i,M.Ms i=false->ρ'[i]?=ρ[i]?)/\ρ'.length=ρ.length
structure KD (M:Fm) (H:Hp) (fps:Fps) (H':Hp) (fps':Fps):Prop where
 keep:Keep (λ a=>∃ i,M.Ms i=true/\a∈fps i) H H'
 dom:∀ a,H a≠none->H' a≠none
 sub:∀ i,∀ a∈fps' i,a∈fps i\/H a=none
 same:∀ i,M.Ms i=false->fps' i=fps i
def Tmps (K:Frag) (H:Hp) (Z:Addr->Prop):List (PV×Nat)->List V->List Addr->Prop
 | [],vs,fp=>vs=[]/\fp=[]
 | (x,d)::xs,vs,fp=>∃ v r f1 f2,vs=v::r/\fp=f1++f2/\(∀ a∈f1,a∉f2)/\Own K H (λ a=>Z a\/a∈f1) x d v f1/\Tmps K H Z xs r f2
structure Temp (M:Fm) (vs:List Nat) (H:Hp) (H':Hp) (fps':Fps) (fp:List Addr):Prop where
 new:∀ a∈fp,H a=none
 ndj:∀ a∈fp,¬ Zf M fps' a
section
variable {M:Fm}{ρ ρ':Rho}{σ:St}{H H' H'':Hp}{fps fps' fps'':Fps}{vs vs':List Nat}
theorem Agr.refl:Agr M ρ ρ:=⟨λ _ _=>rfl,rfl⟩
theorem Agr.trans {ρ'':Rho} (a:Agr M ρ ρ') (b:Agr M ρ' ρ''):Agr M ρ ρ'':=⟨λ i hi=>(b.1 i hi).trans (a.1 i hi),b.2.trans a.2⟩
theorem KD.refl:KD M H fps H fps:=⟨λ _ _ h _=>h,λ _ h=>h,λ _ _ h=>.inl h,λ _ _=>rfl⟩
theorem KD.trans (a:KD M H fps H' fps') (b:KD M H' fps' H'' fps''):KD M H fps H'' fps'' where
 keep:=λ x o h n=>b.keep x o (a.keep x o h n) λ ⟨i,hi,hx⟩=>(a.sub i x hx).elim (λ z=>n ⟨i,hi,z⟩) λ z=>by rw [z] at h;cases h
 dom:=λ x h=>b.dom x (a.dom x h)
 sub:=λ i x hx=>(b.sub i x hx).elim (λ z=>a.sub i x z) λ z=>.inr (by
  cases e:H x with
  | none=>rfl
  | some o=>exact absurd z (a.dom x (by rw [e];simp)))
 same:=λ i hi=>(b.same i hi).trans (a.same i hi)
theorem Za.zf {i:Nat}{a:Addr} (h:Za M fps i a):Zf M fps a:=h.elim .inl λ ⟨j,_,h⟩=>.inr ⟨j,h⟩
theorem Za.of {i:Nat} (hal:M.al i=[]) {a:Addr} (h:Zf M fps a):Za M fps i a:=h.elim .inl λ ⟨j,h⟩=>.inr ⟨j,(by rw [hal];simp),h⟩
theorem Rep.own0 (r:Rep M ρ σ H fps) (hal:∀ i,M.al i=[]) (i:Nat) (x:PV) (d:Nat) (e:ρ[i]?=some (some (x,d))):∃ v,σ[i]?=some (some v)/\Own M.K H (Zf M fps) x d v (fps i):=
 let ⟨v,h1,h2⟩:=r.own i x d e;⟨v,h1,h2.weak λ _ h=>Za.of (hal i) h⟩
theorem Rep.lsts (r:Rep M ρ σ H fps) {i:Nat}{a:Addr} (h:a∈fps i):∃ o:MO,H a=some o.ho:=by
 by_cases hp:∃ p,ρ[i]?=some (some p)
 ·obtain ⟨⟨x,d⟩,e⟩:=hp;obtain ⟨v,_,o⟩:=r.own i x d e;exact Own.lsts x d v _ o a h
 ·rw [r.non i λ p e=>hp ⟨p,e⟩] at h;cases h
theorem Rep.zdom (r:Rep M ρ σ H fps) {a:Addr} (h:Zf M fps a):H a≠none:=by
 rcases h with h | ⟨i,h⟩
 ·exact r.zd a h
 ·obtain ⟨xs,e⟩:=r.lsts h;rw [e];simp
theorem Rep.nz (r:Rep M ρ σ H fps) {a:Addr} (h:H a=none):¬ Zf M fps a:=λ z=>r.zdom z h
theorem Zv.zf {a:Addr} (h:Zv M vs fps a):Zf M fps a:=h.elim .inl λ ⟨i,_,h⟩=>.inr ⟨i,h⟩
theorem Zv.mono (hv:∀ i∈vs',i∈vs) {a:Addr} (h:Zv M vs fps a):Zv M vs' fps a:=h.elim .inl λ ⟨i,n,h⟩=>.inr ⟨i,λ z=>n (hv i z),h⟩
theorem Zt.mono (hv:∀ i∈vs',i∈vs) {a:Addr}{fp:List Addr} (h:Zt M vs fps fp a):Zt M vs' fps fp a:=h.elim (λ h=>.inl (h.mono hv)) .inr
theorem KD.stay (k:KD M H fps H' fps') (r:Rep M ρ σ H fps) (hv:∀ i∈vs,M.Ms i=false) {x:PV}{d:Nat}{v:V}{fp:List Addr} (h:Own M.K H (Zt M vs fps fp) x d v fp) (hf:∀ a∈fp,¬ Zf M fps a):Own M.K H' (Zt M vs fps' fp) x d v fp:=by
 have h1:∀ a,(∃ i,M.Ms i=true/\a∈fps i)->Zt M vs fps fp a/\∃ o:MO,H a=some o.ho:=by
  rintro a ⟨i,hi,ha⟩;exact ⟨.inl (.inr ⟨i,λ z=>(by rw [hv i z] at hi;cases hi),ha⟩),r.lsts ha⟩
 have h2:∀ a,H a≠none->¬ Zt M vs fps fp a->¬ Zt M vs fps' fp a:=by
  intro a hd nz z;rcases z with (z | ⟨i,ni,hx⟩) | z
  ·exact nz (.inl (.inl z))
  ·rcases k.sub i a hx with z | z
   ·exact nz (.inl (.inr ⟨i,ni,z⟩))
   ·exact hd z
  ·exact nz (.inr z)
 exact Own.move k.keep h1 h2 x d v fp (λ a ha ⟨i,_,hx⟩=>hf a ha (.inr ⟨i,hx⟩)) h
theorem KD.stays (k:KD M H fps H' fps') (r:Rep M ρ σ H fps) (hv:∀ i∈vs,M.Ms i=false):∀ {xs:List (PV×Nat)}{ws:List V}{fp:List Addr},Tmps M.K H (Zv M vs fps) xs ws fp->(∀ a∈fp,¬ Zf M fps a)->Tmps M.K H' (Zv M vs fps') xs ws fp
 | [],_,_,h,_=>h
 | (x,d)::xs,ws,fp,h,hf=>by
  obtain ⟨v,s,f1,f2,e1,e2,dj,h1,h2⟩:=h;exact ⟨v,s,f1,f2,e1,e2,dj,k.stay r hv h1 λ a ha=>hf a (by rw [e2];exact ja7 _ ha),k.stays r hv h2 λ a ha=>hf a (by rw [e2];exact ja5 _ ha)⟩
theorem Tmps.weak {K:Frag}{Z Z':Addr->Prop} (hz:∀ a,Z' a->Z a):∀ {xs:List (PV×Nat)}{ws:List V}{fp:List Addr},Tmps K H Z xs ws fp->Tmps K H Z' xs ws fp
 | [],_,_,h=>h
 | (x,d)::xs,ws,fp,h=>by
  obtain ⟨v,s,f1,f2,e1,e2,dj,h1,h2⟩:=h;exact ⟨v,s,f1,f2,e1,e2,dj,h1.weak λ a h=>h.elim (λ h=>.inl (hz a h)) .inr,h2.weak hz⟩
theorem KD.grow (k:∀ a o,H a=some o->H' a=some o):KD M H fps H' fps:=⟨λ a o h _=>k a o h,λ a h=>by
 cases e:H a with
 | none=>exact absurd e h
 | some o=>rw [k a o e];simp,λ _ _ h=>.inl h,λ _ _=>rfl⟩
theorem Rep.grow (r:Rep M ρ σ H fps) (k:∀ a o,H a=some o->H' a=some o):Rep M ρ σ H' fps where
 own:=λ i x d e=>by
  obtain ⟨v,hv,o⟩:=r.own i x d e;exact ⟨v,hv,Own.move (S:=λ _=>False) (λ a o h _=>k a o h) (λ _ z=>z.elim) (λ _ _ n=>n) x d v _ (λ _ _ z=>z) o⟩
 non:=r.non
 dj:=r.dj
 zo:=r.zo
 fr:=r.fr
 zd:=λ a h=>(KD.grow (M:=M) (fps:=fps) k).dom a (r.zd a h)
 len:=r.len
 msf:=r.msf
 h0:=λ a h=>(KD.grow (M:=M) (fps:=fps) k).dom a (r.h0 a h)
 iov:=r.iov
end
def tE (M:Fm) (f:Fx) (vs:List Nat):TE:=λ σ H Q=>∃ ρ fps,Rep M ρ σ H fps/\(match f ρ with
 | .ok (x,d,ρ')=>∀ v H' fps' fp,KD M H fps H' fps'->Agr M ρ ρ'->Rep M ρ' σ H' fps'->Own M.K H' (Zt M vs fps' fp) x d v fp->Temp M vs H H' fps' fp->Q v H'
 | .exc c=>∀ H' fps',KD M H fps H' fps'->M.W σ c H'
 | .no=>False)
def tL (M:Fm) (f:Fa) (vs:List Nat):TA:=λ σ H Q=>∃ ρ fps,Rep M ρ σ H fps/\(match f ρ with
 | .ok (xs,ρ')=>∀ ws H' fps' fp,KD M H fps H' fps'->Agr M ρ ρ'->Rep M ρ' σ H' fps'->Tmps M.K H' (Zv M vs fps') xs ws fp->Temp M vs H H' fps' fp->Q ws H'
 | .exc c=>∀ H' fps',KD M H fps H' fps'->M.W σ c H'
 | .no=>False)
def tT (M:Fm) (f:Fb):TT:=λ σ H Q=>∃ ρ fps,Rep M ρ σ H fps/\(match f ρ with
 | .ok (b,ρ')=>∀ H' fps',KD M H fps H' fps'->Agr M ρ ρ'->Rep M ρ' σ H' fps'->Q b H'
 | .exc c=>∀ H' fps',KD M H fps H' fps'->M.W σ c H'
 | .no=>False)
def Leaf (M:Fm) (H:Hp) (fps:Fps) (vs:List Nat) (F:List Addr) (z:PV) (d:Nat) (Q:VK):Prop:=
 ∀ u H' fp,(∀ a o,H a=some o->H' a=some o)->Own M.K H' (Zt M vs fps fp) z d u fp->(∀ a∈fp,a∈F\/H a=none)->Q u H'
section
variable {M:Fm}{ρ ρ':Rho}{σ:St}{H H' H'':Hp}{fps fps' fps'':Fps}{vs vs':List Nat}{f g:Fx}{fa:Fa}{fb:Fb}{Q:VK}
def bC (x:PV):Fx:=λ ρ=>.ok (x,om,ρ)
theorem zyz {x:PV}{v:V} (h:∀ K H Z,Own K H Z x om v []) {σ:St}{H:Hp}{Q:VK} (hq:tE M (bC x) [] σ H Q):tC v σ H Q:=by
 obtain ⟨ρ,fps,rep,q⟩:=hq;exact q v H fps [] KD.refl Agr.refl rep (h _ _ _) ⟨λ _ z=>(nomatch z),λ _ z=>nomatch z⟩
def dv:PV->Nat
 | .lst _=>0
 | .tup _=>0
 | .dct _=>0
 | .dcl _ _=>0
 | _=>om
def bVar (i:Nat):Fx:=λ ρ=>match ρ[i]? with
 | some (some (x,_))=>.ok (x,dv x,ρ)
 | _=>.no
theorem Own.view {K:Frag}{Z Z':Addr->Prop}{x:PV}{d:Nat}{v:V}{fp:List Addr} (hz:∀ a,Z' a->Z a) (hf:∀ a∈fp,¬ Z' a) (h:Own K H Z x d v fp):Own K H Z' x (dv x) v []:=by
 have q:=Own.freeze hz x d v fp hf h;cases x with
 | lst xs=>exact q
 | tup xs=>exact q
 | dct kvs=>exact q
 | dcl ks xs=>exact q
 | exn _=>rw [Own] at q ⊢;exact q
 | non=>rw [Own] at q ⊢;exact q
 | bl _=>rw [Own] at q ⊢;exact q
 | int _=>rw [Own] at q ⊢;exact q
 | str _=>rw [Own] at q ⊢;exact q
 | emp=>rw [Own] at q ⊢;exact q
 | dko=>rw [Own] at q ⊢;exact q
 | scr _=>rw [Own] at q ⊢;exact q
theorem qhs {i:Nat}{σ:St}{H:Hp}{Q:VK} (hq:tE M (bVar i) (i::M.al i) σ H Q):tVar i σ H Q:=by
 obtain ⟨ρ,fps,rep,q⟩:=hq;unfold bVar at q;cases e0:ρ[i]? with
 | none=>rw [e0] at q;exact q.elim
 | some sl=>
  cases sl with
  | none=>rw [e0] at q;exact q.elim
  | some p=>
   obtain ⟨x0,d0⟩:=p;rw [e0] at q;obtain ⟨v,hv,o⟩:=rep.own i x0 d0 e0;refine ⟨v,hv,q v H fps [] KD.refl Agr.refl rep ((o.view (Z':=Zv M (i::M.al i) fps) (λ a h=>h.elim .inl λ ⟨j,n,h⟩=>.inr ⟨j,λ z=>n (ja0 _ z),h⟩) λ a ha z=>?_).weak λ a h=>h.elim id λ z=>nomatch z) ⟨λ _ z=>(nomatch z),λ _ z=>nomatch z⟩⟩;rcases z with z | ⟨j,nj,hj⟩
   ·exact rep.zo i a ha z
   ·exact rep.dj i j (λ e=>nj (by simp [e])) a ha hj
def bBin (op:PV->Nat->PV->Nat->Option (PV×Nat)) (f g:Fx):Fx:=λ ρ=>(f ρ).bind λ (x,d,ρ1)=>(g ρ1).bind λ (y,e,ρ2)=>match op x d y e with
 | some (z,c)=>.ok (z,c,ρ2)
 | none=>.no
theorem zwy {op:PV->Nat->PV->Nat->Option (PV×Nat)}{r:R2} (hv:∀ i∈vs,M.Ms i=false)
  (leaf:∀ x d y e z c v w H fps f1 f2 Q,op x d y e=some (z,c)->Own M.K H (Zt M (vs++vs') fps f1) x d v f1->Own M.K H (Zt M (vs++vs') fps f2) y e w f2->(∀ a∈f1,a∉f2)->(∀ a∈f1++f2,¬ Zf M fps a)->(∀ a,Zf M fps a->H a≠none)->Leaf M H fps (vs++vs') (f1++f2) z c Q->r v w H Q)
  {σ:St}{H:Hp}{Q:VK} (hq:tE M (bBin op f g) (vs++vs') σ H Q):tOp r (tE M f vs) (tE M g vs') σ H Q:=by
 obtain ⟨ρ,fps,rep,q⟩:=hq;refine ⟨ρ,fps,rep,?_⟩;unfold bBin at q;cases ef:f ρ with
 | no=>rw [ef] at q;exact q
 | exc c=>rw [ef] at q;exact q
 | ok p=>
  obtain ⟨x,d,ρ1⟩:=p;rw [ef] at q;intro v H1 fps1 f1 k1 g1 rep1 o1 t1;refine ⟨ρ1,fps1,rep1,?_⟩;dsimp only [Rz.bind] at q;cases eg:g ρ1 with
  | no=>rw [eg] at q;exact q
  | exc c=>rw [eg] at q;exact λ H' fps' k=>q H' fps' (k1.trans k)
  | ok p2=>
   obtain ⟨y,e,ρ2⟩:=p2;rw [eg] at q;intro w H2 fps2 f2 k2 g2 rep2 o2 t2;dsimp only at q;cases eo:op x d y e with
   | none=>rw [eo] at q;exact q.elim
   | some zc=>
    obtain ⟨z,c⟩:=zc;rw [eo] at q;have o1':=k2.stay rep1 hv o1 t1.ndj;have n1:∀ a∈f1,¬ Zf M fps2 a:=λ a ha z=>by
     rcases z with z | ⟨i,z⟩
     ·exact t1.ndj a ha (.inl z)
     ·rcases k2.sub i a z with z | z
      ·exact t1.ndj a ha (.inr ⟨i,z⟩)
      ·obtain ⟨xs,e⟩:=Own.lsts x d v f1 o1 a ha;rw [z] at e;cases e
    refine leaf x d y e z c v w H2 fps2 f1 f2 Q eo (o1'.weak λ a h=>Zt.mono (λ i hi=>ja7 _ hi) h) (o2.weak λ a h=>Zt.mono (λ i hi=>ja5 _ hi) h) (λ a h1 h2=>?_) (λ a ha=>?_) (λ a h=>rep2.zdom h) λ u H3 fp k3 o3 hfp=>?_
    ·obtain ⟨xs,e⟩:=Own.lsts x d v f1 o1 a h1;rw [t2.new a h2] at e;cases e
    ·rcases jd2.mp ha with z | z
     ·exact n1 a z
     ·exact t2.ndj a z
    ·have new:∀ a∈fp,H a=none:=λ a ha=>by
      have back:H1 a=none->H a=none:=λ e=>by
       cases e':H a with
       | none=>rfl
       | some o=>exact absurd e (k1.dom a (by rw [e'];simp))
      have back2:H2 a=none->H1 a=none:=λ e=>by
       cases e':H1 a with
       | none=>rfl
       | some o=>exact absurd e (k2.dom a (by rw [e'];simp))
      rcases hfp a ha with z | z
      ·rcases jd2.mp z with z | z
       ·exact t1.new a z
       ·exact back (t2.new a z)
      ·exact back (back2 z)
     refine q u H3 fps2 fp ((k1.trans k2).trans (KD.grow k3)) (g1.trans g2) (rep2.grow k3) o3 ⟨new,λ a ha=>?_⟩;rcases hfp a ha with z | z
     ·rcases jd2.mp z with z | z
      ·exact n1 a z
      ·exact t2.ndj a z
     ·exact rep2.nz z
end
section
variable {M:Fm}{vs vs':List Nat}{f g:Fx}{fa:Fa}{fb gb:Fb}
def bUn (op:PV->Nat->Option (PV×Nat)) (f:Fx):Fx:=λ ρ=>(f ρ).bind λ (x,d,ρ1)=>match op x d with
 | some (z,c)=>.ok (z,c,ρ1)
 | none=>.no
theorem qcs {op:PV->Nat->Option (PV×Nat)}{r:V->Hp->VK->Prop}
  (leaf:∀ x d z c v H fps f1 Q,op x d=some (z,c)->Own M.K H (Zt M vs fps f1) x d v f1->(∀ a∈f1,¬ Zf M fps a)->(∀ a,Zf M fps a->H a≠none)->Leaf M H fps vs f1 z c Q->r v H Q)
  {σ:St}{H:Hp}{Q:VK} (hq:tE M (bUn op f) vs σ H Q):tUn r (tE M f vs) σ H Q:=by
 obtain ⟨ρ,fps,rep,q⟩:=hq;refine ⟨ρ,fps,rep,?_⟩;unfold bUn at q;cases ef:f ρ with
 | no=>rw [ef] at q;exact q
 | exc c=>rw [ef] at q;exact q
 | ok p=>
  obtain ⟨x,d,ρ1⟩:=p;rw [ef] at q;intro v H1 fps1 f1 k1 g1 rep1 o1 t1;dsimp only [Rz.bind] at q;cases eo:op x d with
  | none=>rw [eo] at q;exact q.elim
  | some zc=>
   obtain ⟨z,c⟩:=zc;rw [eo] at q;refine leaf x d z c v H1 fps1 f1 Q eo o1 t1.ndj (λ a h=>rep1.zdom h) λ u H3 fp k3 o3 hfp=>?_;have back:∀ a,H1 a=none->H a=none:=λ a e=>by
    cases e':H a with
    | none=>rfl
    | some o=>exact absurd e (k1.dom a (by rw [e'];simp))
   refine q u H3 fps1 fp (k1.trans (KD.grow k3)) g1 (rep1.grow k3) o3 ⟨λ a ha=>(hfp a ha).elim (t1.new a) (back a),λ a ha=>(hfp a ha).elim (t1.ndj a) λ z=>rep1.nz z⟩
def aNil:Fa:=λ ρ=>.ok ([],ρ)
def zqa (f:Fx) (fa:Fa):Fa:=λ ρ=>(f ρ).bind λ (x,d,ρ1)=>(fa ρ1).bind λ (xs,ρ2)=>.ok ((x,d)::xs,ρ2)
theorem ql9 {σ:St}{H:Hp}{Q:List V->Hp->Prop} (hq:tL M aNil [] σ H Q):tNil σ H Q:=by
 obtain ⟨ρ,fps,rep,q⟩:=hq;exact q [] H fps [] KD.refl Agr.refl rep ⟨rfl,rfl⟩ ⟨λ _ z=>(nomatch z),λ _ z=>nomatch z⟩
theorem qi6 (hv:∀ i∈vs,M.Ms i=false) {σ:St}{H:Hp}{Q:List V->Hp->Prop} (hq:tL M (zqa f fa) (vs++vs') σ H Q):qf7 (tE M f vs) (tL M fa vs') σ H Q:=by
 obtain ⟨ρ,fps,rep,q⟩:=hq;refine ⟨ρ,fps,rep,?_⟩;unfold zqa at q;cases ef:f ρ with
 | no=>rw [ef] at q;exact q
 | exc c=>rw [ef] at q;exact q
 | ok p=>
  obtain ⟨x,d,ρ1⟩:=p;rw [ef] at q;intro v H1 fps1 f1 k1 g1 rep1 o1 t1;refine ⟨ρ1,fps1,rep1,?_⟩;dsimp only [Rz.bind] at q;cases eg:fa ρ1 with
  | no=>rw [eg] at q;exact q
  | exc c=>rw [eg] at q;exact λ H' fps' k=>q H' fps' (k1.trans k)
  | ok p2=>
   obtain ⟨ys,ρ2⟩:=p2;rw [eg] at q;intro ws H2 fps2 f2 k2 g2 rep2 o2 t2;dsimp only at q;have o1':=k2.stay rep1 hv o1 t1.ndj;have n1:∀ a∈f1,¬ Zf M fps2 a:=λ a ha z=>by
    rcases z with z | ⟨i,z⟩
    ·exact t1.ndj a ha (.inl z)
    ·rcases k2.sub i a z with z | z
     ·exact t1.ndj a ha (.inr ⟨i,z⟩)
     ·obtain ⟨xs,e⟩:=Own.lsts x d v f1 o1 a ha;rw [z] at e;cases e
   have back:∀ a,H1 a=none->H a=none:=λ a e=>by
    cases e':H a with
    | none=>rfl
    | some o=>exact absurd e (k1.dom a (by rw [e'];simp))
   refine q (v::ws) H2 fps2 (f1++f2) (k1.trans k2) (g1.trans g2) rep2 ⟨v,ws,f1,f2,rfl,rfl,λ a h1 h2=>?_,o1'.weak λ a h=>Zt.mono (λ i hi=>ja7 _ hi) h,o2.weak λ a h=>h.mono λ i hi=>ja5 _ hi⟩ ⟨λ a ha=>?_,λ a ha=>?_⟩
   ·obtain ⟨xs,e⟩:=Own.lsts x d v f1 o1 a h1;rw [t2.new a h2] at e;cases e
   ·rcases jd2.mp ha with z | z
    ·exact t1.new a z
    ·exact back a (t2.new a z)
   ·rcases jd2.mp ha with z | z
    ·exact n1 a z
    ·exact t2.ndj a z
def zqc (op:List (PV×Nat)->Option (PV×Nat)) (fa:Fa):Fx:=λ ρ=>(fa ρ).bind λ (xs,ρ1)=>match op xs with
 | some (z,c)=>.ok (z,c,ρ1)
 | none=>.no
theorem zpc {op:List (PV×Nat)->Option (PV×Nat)}{r:List V->Hp->VK->Prop}
  (leaf:∀ xs z c ws H fps fp Q,op xs=some (z,c)->Tmps M.K H (Zv M vs fps) xs ws fp->(∀ a∈fp,¬ Zf M fps a)->(∀ a,Zf M fps a->H a≠none)->Leaf M H fps vs fp z c Q->r ws H Q)
  {σ:St}{H:Hp}{Q:VK} (hq:tE M (zqc op fa) vs σ H Q):tL M fa vs σ H λ ws H1=>r ws H1 Q:=by
 obtain ⟨ρ,fps,rep,q⟩:=hq;refine ⟨ρ,fps,rep,?_⟩;unfold zqc at q;cases ef:fa ρ with
 | no=>rw [ef] at q;exact q
 | exc c=>rw [ef] at q;exact q
 | ok p=>
  obtain ⟨xs,ρ1⟩:=p;rw [ef] at q;intro ws H1 fps1 f1 k1 g1 rep1 o1 t1;dsimp only [Rz.bind] at q;cases eo:op xs with
  | none=>rw [eo] at q;exact q.elim
  | some zc=>
   obtain ⟨z,c⟩:=zc;rw [eo] at q;refine leaf xs z c ws H1 fps1 f1 Q eo o1 t1.ndj (λ a h=>rep1.zdom h) λ u H3 fp k3 o3 hfp=>?_;have back:∀ a,H1 a=none->H a=none:=λ a e=>by
    cases e':H a with
    | none=>rfl
    | some o=>exact absurd e (k1.dom a (by rw [e'];simp))
   refine q u H3 fps1 fp (k1.trans (KD.grow k3)) g1 (rep1.grow k3) o3 ⟨λ a ha=>(hfp a ha).elim (t1.new a) (back a),λ a ha=>(hfp a ha).elim (t1.ndj a) λ z=>rep1.nz z⟩
def bT (f:Fx):Fb:=λ ρ=>(f ρ).bind λ (x,_,ρ1)=>match x with
 | .bl b=>.ok (b,ρ1)
 | _=>.no
theorem qcl {σ:St}{H:Hp}{Q:Bool->Hp->Prop} (hq:tT M (bT f) σ H Q):tB (tE M f vs) σ H Q:=by
 obtain ⟨ρ,fps,rep,q⟩:=hq;refine ⟨ρ,fps,rep,?_⟩;unfold bT at q;cases ef:f ρ with
 | no=>rw [ef] at q;exact q
 | exc c=>rw [ef] at q;exact q
 | ok p=>
  obtain ⟨x,d,ρ1⟩:=p;rw [ef] at q;intro v H1 fps1 f1 k1 g1 rep1 o1 t1;dsimp only [Rz.bind] at q;cases x with
  | bl b=>
   rw [Own] at o1;exact ⟨b,o1.1,q H1 fps1 k1 g1 rep1⟩
  | _=>exact q.elim
def bAnd (f g:Fb):Fb:=λ ρ=>(f ρ).bind λ (b,ρ1)=>if b=true then g ρ1 else .ok (false,ρ1)
def bOr (f g:Fb):Fb:=λ ρ=>(f ρ).bind λ (b,ρ1)=>if b=true then .ok (true,ρ1) else g ρ1
def bNot (f:Fb):Fb:=λ ρ=>(f ρ).bind λ (b,ρ1)=>.ok (!b,ρ1)
theorem qlw {σ:St}{H:Hp}{Q:Bool->Hp->Prop} (hq:tT M (bAnd fb gb) σ H Q):tAnd (tT M fb) (tT M gb) σ H Q:=by
 obtain ⟨ρ,fps,rep,q⟩:=hq;refine ⟨ρ,fps,rep,?_⟩;unfold bAnd at q;cases ef:fb ρ with
 | no=>rw [ef] at q;exact q
 | exc c=>rw [ef] at q;exact q
 | ok p=>
  obtain ⟨b,ρ1⟩:=p;rw [ef] at q;intro H1 fps1 k1 g1 rep1;dsimp only [Rz.bind] at q;cases b with
  | false=>exact (q H1 fps1 k1 g1 rep1)
  | true=>
   refine ⟨ρ1,fps1,rep1,?_⟩;rw [if_pos rfl] at q;cases eg:gb ρ1 with
   | no=>rw [eg] at q;exact q
   | exc c=>rw [eg] at q;exact λ H' fps' k=>q H' fps' (k1.trans k)
   | ok p2=>rw [eg] at q;exact λ H' fps' k g r=>q H' fps' (k1.trans k) (g1.trans g) r
theorem qo2 {σ:St}{H:Hp}{Q:Bool->Hp->Prop} (hq:tT M (bOr fb gb) σ H Q):tOr (tT M fb) (tT M gb) σ H Q:=by
 obtain ⟨ρ,fps,rep,q⟩:=hq;refine ⟨ρ,fps,rep,?_⟩;unfold bOr at q;cases ef:fb ρ with
 | no=>rw [ef] at q;exact q
 | exc c=>rw [ef] at q;exact q
 | ok p=>
  obtain ⟨b,ρ1⟩:=p;rw [ef] at q;intro H1 fps1 k1 g1 rep1;dsimp only [Rz.bind] at q;cases b with
  | true=>exact (q H1 fps1 k1 g1 rep1)
  | false=>
   refine ⟨ρ1,fps1,rep1,?_⟩;rw [if_neg jb9] at q;cases eg:gb ρ1 with
   | no=>rw [eg] at q;exact q
   | exc c=>rw [eg] at q;exact λ H' fps' k=>q H' fps' (k1.trans k)
   | ok p2=>rw [eg] at q;exact λ H' fps' k g r=>q H' fps' (k1.trans k) (g1.trans g) r
theorem qlu {σ:St}{H:Hp}{Q:Bool->Hp->Prop} (hq:tT M (bNot fb) σ H Q):tNot (tT M fb) σ H Q:=by
 obtain ⟨ρ,fps,rep,q⟩:=hq;refine ⟨ρ,fps,rep,?_⟩;unfold bNot at q;cases ef:fb ρ with
 | no=>rw [ef] at q;exact q
 | exc c=>rw [ef] at q;exact q
 | ok p=>obtain ⟨b,ρ1⟩:=p;rw [ef] at q;exact q
theorem Tmps.all {K:Frag}{H:Hp}{Z:Addr->Prop}:∀ {xs:List (PV×Nat)}{ws:List V}{fp:List Addr},Tmps K H Z xs ws fp->(∀ p∈xs,p.2=om)->OwnL K H Z (xs.map (·.1)) om ws fp
 | [],_,_,h,_=>by rw [jh4,OwnL];exact h
 | (x,d)::xs,ws,fp,h,ha=>by
  obtain ⟨v,s,f1,f2,e1,e2,dj,h1,h2⟩:=h;have e:d=om:=ha (x,d) ja1;subst e;rw [jb7,OwnL];exact ⟨v,s,f1,f2,e1,e2,dj,Own.full x v f1 h1,h2.all λ p hp=>ha p (ja0 _ hp)⟩
theorem Tmps.cold {K:Frag}{H:Hp}{Z:Addr->Prop}:∀ {xs:List (PV×Nat)}{ws:List V}{fp:List Addr},Tmps K H Z xs ws fp->(∀ a∈fp,¬ Z a)->OwnL K H Z (xs.map (·.1)) 0 ws []
 | [],_,_,h,_=>by rw [jh4,OwnL];exact ⟨h.1,rfl⟩
 | (x,d)::xs,ws,fp,h,ha=>by
  obtain ⟨v,s,f1,f2,e1,e2,dj,h1,h2⟩:=h;rw [jb7,OwnL];exact ⟨v,s,[],[],e1,rfl,λ _ z=>(nomatch z),Own.freeze (λ _ z=>.inl z) x d v f1 (λ a z=>ha a (by rw [e2];exact ja7 _ z)) h1,h2.cold λ a z=>ha a (by rw [e2];exact ja5 _ z)⟩
theorem Tmps.length {K:Frag}{H:Hp}{Z:Addr->Prop}:∀ {xs:List (PV×Nat)}{ws:List V}{fp:List Addr},Tmps K H Z xs ws fp->ws.length=xs.length
 | [],_,_,h=>by rw [h.1];rfl
 | (x,d)::xs,ws,fp,h=>by
  obtain ⟨v,s,f1,f2,e1,e2,dj,h1,h2⟩:=h;rw [e1,jb2,jb2,h2.length]
theorem OwnL.length {K:Frag}{H:Hp}{Z:Addr->Prop}:∀ {xs:List PV}{d:Nat}{ws:List V}{fp:List Addr},OwnL K H Z xs d ws fp->ws.length=xs.length
 | [],_,_,_,h=>by rw [OwnL] at h;rw [h.1];rfl
 | x::xs,d,ws,fp,h=>by
  rw [OwnL] at h;obtain ⟨v,s,f1,f2,e1,e2,dj,h1,h2⟩:=h;rw [e1,jb2,jb2,h2.length]
end
inductive Rs where
 | nx (ρ:Rho) | rt (x:PV) (d:Nat) (ρ:Rho) | bk (ρ:Rho) | ct (ρ:Rho) | exc (c:Nat) | no
abbrev Fs:=Rho->Rs
structure KS (M:Fm) (H:Hp) (fps:Fps) (H':Hp) (fps':Fps):Prop where
 keep:Keep (λ a=>∃ i,a∈fps i) H H'
 dom:∀ a,H a≠none->H' a≠none
 sub:∀ i,∀ a∈fps' i,(∃ j,a∈fps j)\/H a=none
def Zr (M:Fm) (fps:Fps):Addr->Prop:=λ a=>M.Zo a\/(M.io≠none/\a∈fps 0)
def RsOk (M:Fm) (D:Ends) (H:Hp) (fps:Fps):Rs->Prop
 | .nx ρ'=>∀ σ' H' fps',KS M H fps H' fps'->Rep M ρ' σ' H' fps'->D.nx σ' H'
 | .bk ρ'=>∀ σ' H' fps',KS M H fps H' fps'->Rep M ρ' σ' H' fps'->D.bk σ' H'
 | .ct ρ'=>∀ σ' H' fps',KS M H fps H' fps'->Rep M ρ' σ' H' fps'->D.ct σ' H'
 | .rt x d ρ'=>∀ v σ' H' fps' fp,KS M H fps H' fps'->Rep M ρ' σ' H' fps'->Own M.K H' (λ a=>Zr M fps' a\/a∈fp) x d v fp->(∀ a∈fp,M.H₀ a=none/\¬ Zr M fps' a)->D.rt v H'
 | .exc c=>∀ σ' H' fps',KS M H fps H' fps'->M.W σ' c H'
 | .no=>False
def tS (M:Fm) (f:Fs):TS:=λ D σ H=>∃ ρ fps,Rep M ρ σ H fps/\RsOk M D H fps (f ρ)
section
variable {M:Fm}{ρ ρ':Rho}{σ σ':St}{H H' H'':Hp}{fps fps' fps'':Fps}{vs vs':List Nat}
theorem KS.refl:KS M H fps H fps:=⟨λ _ _ h _=>h,λ _ h=>h,λ i _ h=>.inl ⟨i,h⟩⟩
theorem KD.ks (k:KD M H fps H' fps'):KS M H fps H' fps':=⟨λ a o h n=>k.keep a o h λ ⟨i,_,z⟩=>n ⟨i,z⟩,k.dom,λ i a h=>(k.sub i a h).elim (λ z=>.inl ⟨i,z⟩) .inr⟩
theorem KS.trans (a:KS M H fps H' fps') (b:KS M H' fps' H'' fps''):KS M H fps H'' fps'' where
 keep:=λ x o h n=>b.keep x o (a.keep x o h n) λ ⟨i,hx⟩=>(a.sub i x hx).elim (λ z=>n z) λ z=>by rw [z] at h;cases h
 dom:=λ x h=>b.dom x (a.dom x h)
 sub:=λ i x hx=>(b.sub i x hx).elim (λ ⟨j,z⟩=>a.sub j x z) λ z=>.inr (by
  cases e:H x with
  | none=>rfl
  | some o=>exact absurd z (a.dom x (by rw [e];simp)))
theorem KS.stay0 (k:KS M H fps H' fps') (r:Rep M ρ σ H fps) {x:PV}{v:V} (h:Own M.K H (Zf M fps) x 0 v []):Own M.K H' (Zf M fps') x 0 v []:=by
 refine Own.move k.keep (λ a ⟨i,ha⟩=>⟨.inr ⟨i,ha⟩,r.lsts ha⟩) ?_ x 0 v [] (λ _ z=>nomatch z) h;intro a hd nz z;rcases z with z | ⟨i,hx⟩
 ·exact nz (.inl z)
 ·rcases k.sub i a hx with z | z
  ·exact nz (.inr z)
  ·exact hd z
def sNil:Fs:=λ ρ=>.nx ρ
def sSeq (f g:Fs):Fs:=λ ρ=>match f ρ with
 | .nx ρ1=>g ρ1
 | r=>r
theorem ql2 {D:Ends} (hq:tS M sNil D σ H):ql8 D σ H:=by
 obtain ⟨ρ,fps,rep,q⟩:=hq;exact q σ H fps KS.refl rep
def sIf (c:Fb) (f g:Fs):Fs:=λ ρ=>match c ρ with
 | .ok (b,ρ1)=>if b=true then f ρ1 else g ρ1
 | .exc e=>.exc e
 | .no=>.no
theorem RsOk.from {D:Ends}{r:Rs} (k1:KS M H fps H' fps') (q:RsOk M D H fps r):RsOk M D H' fps' r:=by
 cases r with
 | no=>exact q
 | exc c=>exact λ σ' H' fps' k=>q σ' H' fps' (k1.trans k)
 | rt x d ρ2=>exact λ v σ' H' fps' fp k=>q v σ' H' fps' fp (k1.trans k)
 | bk ρ2=>exact λ σ' H' fps' k=>q σ' H' fps' (k1.trans k)
 | ct ρ2=>exact λ σ' H' fps' k=>q σ' H' fps' (k1.trans k)
 | nx ρ2=>exact λ σ' H' fps' k=>q σ' H' fps' (k1.trans k)
theorem qlz {f g:Fs}{D:Ends} (hq:tS M (sSeq f g) D σ H):tSeq (tS M f) (tS M g) D σ H:=by
 obtain ⟨ρ,fps,rep,q⟩:=hq;refine ⟨ρ,fps,rep,?_⟩;unfold sSeq at q;cases ef:f ρ with
 | no=>rw [ef] at q;exact q
 | exc c=>rw [ef] at q;exact q
 | rt x d ρ1=>rw [ef] at q;exact q
 | bk ρ1=>rw [ef] at q;exact q
 | ct ρ1=>rw [ef] at q;exact q
 | nx ρ1=>
  rw [ef] at q;exact λ σ1 H1 fps1 k1 rep1=>⟨ρ1,fps1,rep1,RsOk.from k1 q⟩
theorem qo4 {c:Fb}{f g:Fs}{D:Ends} (hq:tS M (sIf c f g) D σ H):tIfS (tT M c) (tS M f) (tS M g) D σ H:=by
 obtain ⟨ρ,fps,rep,q⟩:=hq;refine ⟨ρ,fps,rep,?_⟩;unfold sIf at q;cases ef:c ρ with
 | no=>rw [ef] at q;exact q
 | exc c=>rw [ef] at q;exact λ H' fps' k=>q _ H' fps' k.ks
 | ok p=>
  obtain ⟨b,ρ1⟩:=p;rw [ef] at q;intro H1 fps1 k1 g1 rep1;dsimp only at q;cases b with
  | true=>
   rw [if_pos rfl] at q ⊢;exact ⟨ρ1,fps1,rep1,RsOk.from k1.ks q⟩
  | false=>
   rw [if_neg jb9] at q ⊢;exact ⟨ρ1,fps1,rep1,RsOk.from k1.ks q⟩
def cool (vs:List Nat):Nat->Rho->Rho
 | _,[]=>[]
 | k,s::r=>(if vs.contains k then s.map λ p=>(p.1,0) else s)::cool vs (k + 1) r
def zqp (d:Nat) (vs:List Nat) (ρ:Rho):Rho:=if d=om then ρ else cool vs 0 ρ
theorem zyu (vs:List Nat):∀ (ρ:Rho) (k i:Nat),(cool vs k ρ)[i]?=(ρ[i]?).map λ s=>if vs.contains (k + i) then s.map λ p=>(p.1,0) else s
 | [],k,i=>by simp [cool]
 | s::r,k,0=>by simp [cool]
 | s::r,k,i + 1=>by
  rw [cool,je0,zyu vs r (k + 1) i,je0]
  have:k + 1 + i=k + (i + 1):=by omega
  rw [this]
theorem zpw (vs:List Nat):∀ (ρ:Rho) (k:Nat),(cool vs k ρ).length=ρ.length
 | [],_=>rfl
 | s::r,k=>by rw [cool,jb2,zpw vs r (k + 1),jb2]
def zvs (vs:List Nat) (fps:Fps):Fps:=λ i=>if vs.contains i then [] else fps i
theorem zxp {a:Addr}{i:Nat} (h:a∈zvs vs fps i):a∈fps i/\i∉vs:=by
 unfold zvs at h;split at h
 ·cases h
 ·rename_i n;exact ⟨h,λ z=>n (by simpa using z)⟩
theorem zva {a:Addr} (h:Zf M (zvs vs fps) a):Zv M vs fps a:=h.elim .inl λ ⟨i,z⟩=>.inr ⟨i,(zxp z).2,(zxp z).1⟩
theorem Rep.cool (r:Rep M ρ σ H fps) (hal:∀ i,M.al i=[]) (hv:∀ i∈vs,M.Ms i=false):Rep M (cool vs 0 ρ) σ H (zvs vs fps) where
 own:=λ i x d e=>by
  rw [zyu] at e;cases e1:ρ[i]? with
  | none=>rw [e1] at e;cases e
  | some s=>
   rw [e1] at e;simp only [ji6,jj4] at e;by_cases hc:vs.contains i=true
   ·rw [if_pos hc] at e;cases s with
    | none=>cases e
    | some p=>
     obtain ⟨x0,d0⟩:=p;simp only [ji6,Option.some.injEq,Prod.mk.injEq] at e;obtain ⟨rfl,rfl⟩:=e;obtain ⟨v,hσ,o⟩:=r.own0 hal i x0 d0 e1;refine ⟨v,hσ,Own.weak (Z:=Zf M (zvs vs fps)) (λ a h=>h.zf) ?_⟩
     have:zvs vs fps i=[]:=by unfold zvs;rw [if_pos hc]
     rw [this];exact Own.freeze (λ a h=>Zv.zf (zva h)) x0 d0 v _ (λ a ha z=>by
      rcases z with z | ⟨j,z⟩
      ·exact r.zo i a ha z
      ·obtain ⟨z1,z2⟩:=zxp z;exact r.dj i j (λ e=>z2 (by rw [<- e];simpa using hc)) a ha z1) o
   ·rw [if_neg hc] at e;cases e;obtain ⟨v,hσ,o⟩:=r.own0 hal i x d e1;refine ⟨v,hσ,Own.weak (Z:=Zf M (zvs vs fps)) (λ a h=>h.zf) ?_⟩
    have:zvs vs fps i=fps i:=by unfold zvs;rw [if_neg hc]
    rw [this];exact o.weak λ a h=>Zv.zf (zva h)
 non:=λ i h=>by
  unfold zvs;split
  ·rfl
  ·rename_i hc;refine r.non i λ p e=>h p ?_;rw [zyu,e];simp only [ji6,jj4];rw [if_neg hc]
 dj:=λ i j hij a ha hb=>r.dj i j hij a (zxp ha).1 (zxp hb).1
 zo:=λ i a ha=>r.zo i a (zxp ha).1
 fr:=λ i hi a ha=>r.fr i hi a (zxp ha).1
 zd:=r.zd
 len:=by rw [zpw];exact r.len
 msf:=λ i x d hi e=>by
  rw [zyu] at e;cases e1:ρ[i]? with
  | none=>rw [e1] at e;cases e
  | some s=>
   rw [e1] at e;simp only [ji6,jj4] at e;have hc:¬ vs.contains i=true:=λ z=>by rw [hv i (by simpa using z)] at hi;cases hi
   rw [if_neg hc] at e;cases e;exact r.msf i x d hi e1
 h0:=r.h0
 iov:=r.iov
theorem KS.cool (k:KS M H fps H' fps'):KS M H fps H' (zvs vs fps'):=⟨k.keep,k.dom,λ i a h=>k.sub i a (zxp h).1⟩
theorem Rep.wide {fp:List Addr} (hal:∀ i,∀ j∈M.al i,M.Ms j=false) (r:Rep M ρ σ H fps) (k:KD M H fps H' fps') (g:Agr M ρ ρ') (r':Rep M ρ' σ H' fps') (hf:∀ a∈fp,H a=none/\H' a≠none/\¬ Zf M fps' a):Rep (M.plus fp) ρ' σ H' fps' where
 own:=λ i x d e=>by
  by_cases hm:M.Ms i=true
  ·obtain ⟨v,hv,o⟩:=r'.own i x d e;have hd:=r'.msf i x d hm e;subst hd;exact ⟨v,hv,Own.full x v _ o⟩
  ·have hm':M.Ms i=false:=by simpa using hm
   rw [g.1 i hm'] at e;obtain ⟨v,hv,o⟩:=r.own i x d e;refine ⟨v,hv,?_⟩;rw [k.same i hm'];refine Own.move k.keep (λ a ⟨j,hj,ha⟩=>⟨.inr ⟨j,λ z=>(by rw [hal i j z] at hj;cases hj),ha⟩,r.lsts ha⟩) ?_ x d v _ ?_ o
   ·intro a hd nz z;rcases z with (z | z) | ⟨j,nj,z⟩
    ·exact nz (.inl z)
    ·exact hd (hf a z).1
    ·rcases k.sub j a z with z | z
     ·exact nz (.inr ⟨j,nj,z⟩)
     ·exact hd z
   ·rintro a ha ⟨j,hj,hx⟩;exact r.dj i j (λ e=>by rw [e,hj] at hm';cases hm') a ha hx
 non:=r'.non
 dj:=r'.dj
 zo:=λ i a ha z=>z.elim (r'.zo i a ha) λ z=>(hf a z).2.2 (.inr ⟨i,ha⟩)
 fr:=r'.fr
 zd:=λ a z=>z.elim (r'.zd a) λ z=>(hf a z).2.1
 len:=r'.len
 msf:=r'.msf
 h0:=r'.h0
 iov:=r'.iov
theorem Rep.put {i:Nat}{x:PV}{d:Nat}{v:V}{fp:List Addr} (r:Rep (M.plus fp) ρ σ H fps) (h:Own M.K H (λ a=>Za M fps i a\/a∈fp) x d v fp) (hf:∀ a∈fp,M.H₀ a=none/\¬ M.Zo a) (hi:i < ρ.length) (hm:M.Ms i=true->d=om) (hio:M.Fre i):
  Rep M (ρ.set i (some (x,d))) (σ.set i (some v)) H (λ j=>if j=i then fp else fps j):=by
 have zz:∀ a,Zf M (λ j=>if j=i then fp else fps j) a->Zf M fps a\/a∈fp:=λ a h=>by
  rcases h with z | ⟨j,z⟩
  ·exact .inl (.inl z)
  ·by_cases e:j=i
   ·simp only [if_pos e] at z;exact .inr z
   ·simp only [if_neg e] at z;exact .inl (.inr ⟨j,z⟩)
 have zz2:∀ a,Zf M fps a\/a∈fp->Zf (M.plus fp) fps a:=λ a h=>h.elim (λ h=>h.elim (λ z=>.inl (.inl z)) λ z=>.inr z) λ z=>.inl (.inr z);refine ⟨λ j y e hj=>?_,λ j hj=>?_,λ j k hjk a ha hb=>?_,λ j a ha z=>?_,λ j hj a ha=>?_,λ a z=>r.zd a (.inl z),?_,λ j y e hj he=>?_,r.h0,?_⟩
 ·by_cases e:j=i
  ·subst e;rw [jc6 hi] at hj;cases hj;refine ⟨v,by rw [jc6 (by rw [<- r.len];exact hi)],?_⟩;rw [if_pos rfl];refine h.weak λ a h=>?_;rcases h with z | ⟨k,nk,z⟩
   ·exact .inl (.inl z)
   ·by_cases ek:k=j
    ·simp only [if_pos ek] at z;exact .inr z
    ·simp only [if_neg ek] at z;exact .inl (.inr ⟨k,nk,z⟩)
  ·rw [jc0 (vb6 e)] at hj;obtain ⟨w,hw,o⟩:=r.own j y _ hj;refine ⟨w,by rw [jc0 (vb6 e)];exact hw,?_⟩;rw [if_neg e];refine o.weak λ a h=>?_;rcases h with z | ⟨k,nk,z⟩
   ·exact .inl (.inl z)
   ·by_cases ek:k=i
    ·simp only [if_pos ek] at z;exact .inl (.inr z)
    ·simp only [if_neg ek] at z;exact .inr ⟨k,nk,z⟩
 ·by_cases e:j=i
  ·subst e;exact absurd (jc6 hi) (hj _)
  ·rw [if_neg e];exact r.non j λ p hp=>hj p (by rw [jc0 (vb6 e)];exact hp)
 ·by_cases e1:j=i
  ·by_cases e2:k=i
   ·exact hjk (e1.trans e2.symm)
   ·rw [if_pos e1] at ha;rw [if_neg e2] at hb;exact r.zo k a hb (.inr ha)
  ·rw [if_neg e1] at ha;by_cases e2:k=i
   ·rw [if_pos e2] at hb;exact r.zo j a ha (.inr hb)
   ·rw [if_neg e2] at hb;exact r.dj j k hjk a ha hb
 ·by_cases e:j=i
  ·rw [if_pos e] at ha;exact (hf a ha).2 z
  ·rw [if_neg e] at ha;exact r.zo j a ha (.inl z)
 ·by_cases e:j=i
  ·rw [if_pos e] at ha;exact (hf a ha).1
  ·rw [if_neg e] at ha;exact r.fr j hj a ha
 ·rw [je8,je8];exact r.len
 ·by_cases e:j=i
  ·subst e;rw [jc6 hi] at he;cases he;exact hm hj
  ·rw [jc0 (vb6 e)] at he;exact r.msf j y _ hj he
 ·refine ⟨λ w hw=>?_,λ p hp=>?_⟩
  ·have h0:i≠0:=hio.1 (by rw [hw];simp);rw [jc0 h0];exact r.iov.1 w hw
  ·rw [jc0 (hio.2 p hp).symm];exact r.iov.2 p hp
def sSet (ms:Bool) (i:Nat) (f:Fx) (vs:List Nat):Fs:=λ ρ=>match f ρ with
 | .ok (x,d,ρ1)=>if i < ρ1.length/\(ms=true->d=om) then .nx ((zqp d vs ρ1).set i (some (x,d))) else .no
 | .exc c=>.exc c
 | .no=>.no
theorem Rep.store {i:Nat}{x:PV}{d:Nat}{v:V}{fp:List Addr} (rep:Rep M ρ σ H fps) (k:KD M H fps H' fps') (g:Agr M ρ ρ') (r':Rep M ρ' σ H' fps') (o:Own M.K H' (Zt M vs fps' fp) x d v fp) (t:Temp M vs H H' fps' fp)
  (hal:∀ i,M.al i=[]) (hv:∀ i∈vs,M.Ms i=false) (hi:i < ρ'.length) (hm:M.Ms i=true->d=om) (hio:M.Fre i):
  ∃ fps2,KS M H fps H' fps2/\Rep M ((zqp d vs ρ').set i (some (x,d))) (σ.set i (some v)) H' fps2:=by
 have back:∀ a,H a=none->M.H₀ a=none:=λ a e=>by
  cases e':M.H₀ a with
  | none=>rfl
  | some o=>exact absurd e (rep.h0 a (by rw [e'];simp))
 have w:Rep (M.plus fp) ρ' σ H' fps':=rep.wide (λ i j hj=>by rw [hal i] at hj;cases hj) k g r' λ a ha=>⟨t.new a ha,by obtain ⟨xs,e⟩:=Own.lsts x d v fp o a ha;rw [e];simp,t.ndj a ha⟩
 have hf:∀ a∈fp,M.H₀ a=none/\¬ M.Zo a:=λ a ha=>⟨back a (t.new a ha),λ z=>t.ndj a ha (.inl z)⟩
 have ks2:∀ {fps2:Fps},(∀ i a,a∈fps2 i->a∈fps' i)->KS M H fps H' (λ j=>if j=i then fp else fps2 j):=λ {fps2} h2=>⟨k.ks.keep,k.dom,λ j a ha=>by
  by_cases e:j=i
  ·simp only [if_pos e] at ha;exact .inr (t.new a ha)
  ·simp only [if_neg e] at ha;exact k.ks.sub j a (h2 j a ha)⟩
 unfold zqp;by_cases hd:d=om
 ·rw [if_pos hd];refine ⟨_,ks2 λ _ _ h=>h,w.put (i:=i) (x:=x) (d:=d) (v:=v) ?_ hf hi hm hio⟩;rw [hd] at o ⊢;exact Own.full x v fp o
 ·rw [if_neg hd];refine ⟨_,ks2 λ _ _ h=>(zxp h).1,(w.cool (vs:=vs) hal hv).put (i:=i) (x:=x) (d:=d) (v:=v) ?_ hf (by rw [zpw];exact hi) hm hio⟩;exact o.weak λ a h=>h.elim (λ h=>.inl (zva h.zf)) .inr
theorem qhr {f:Fx}{i:Nat}{ms:Bool}{D:Ends} (hal:∀ i,M.al i=[]) (hv:∀ i∈vs,M.Ms i=false) (hms:M.Ms i=ms) (hio:M.Fre i) (hq:tS M (sSet ms i f vs) D σ H):tAsg (tE M f vs) (zkt i) D σ H:=by
 obtain ⟨ρ,fps,rep,q⟩:=hq;refine ⟨ρ,fps,rep,?_⟩;unfold sSet at q;cases ef:f ρ with
 | no=>rw [ef] at q;exact q
 | exc c=>rw [ef] at q;exact λ H' fps' k=>q _ H' fps' k.ks
 | ok p=>
  obtain ⟨x,d,ρ1⟩:=p;rw [ef] at q;intro v H1 fps1 f1 k1 g1 rep1 o1 t1;dsimp only at q;by_cases hc:i < ρ1.length/\(ms=true->d=om)
  ·rw [if_pos hc] at q;obtain ⟨fps2,k2,r2⟩:=Rep.store rep k1 g1 rep1 o1 t1 hal hv hc.1 (λ h=>hc.2 (by rw [<- hms];exact h)) hio;exact q _ _ _ k2 r2
  ·rw [if_neg hc] at q;exact q.elim
end
section
variable {M:Fm}{ρ ρ':Rho}{σ σ':St}{H H' H'':Hp}{fps fps' fps'':Fps}{vs vs':List Nat}
theorem Zr.zf {a:Addr} (h:Zr M fps a):Zf M fps a:=h.elim .inl λ h=>.inr ⟨0,h.2⟩
theorem Rep.zr (r:Rep M ρ σ H fps) (hv:∀ i∈vs,M.Ms i=false) {a:Addr} (h:Zr M fps a):Zv M vs fps a:=by
 rcases h with h | ⟨h1,h2⟩
 ·exact .inl h
 ·refine .inr ⟨0,λ z=>?_,h2⟩;cases e:M.io with
  | none=>exact h1 e
  | some v=>have:=(r.iov.1 v e).2;rw [hv 0 z] at this;cases this
theorem Rep.h0' (r:Rep M ρ σ H fps) {a:Addr} (e:H a=none):M.H₀ a=none:=by
 cases e':M.H₀ a with
 | none=>rfl
 | some o=>exact absurd e (r.h0 a (by rw [e'];simp))
def sRet (f:Fx):Fs:=λ ρ=>match f ρ with
 | .ok (x,d,ρ1)=>.rt x d ρ1
 | .exc c=>.exc c
 | .no=>.no
theorem ql0 {f:Fx}{D:Ends} (hv:∀ i∈vs,M.Ms i=false) (hq:tS M (sRet f) D σ H):tRet (tE M f vs) D σ H:=by
 obtain ⟨ρ,fps,rep,q⟩:=hq;refine ⟨ρ,fps,rep,?_⟩;unfold sRet at q;cases ef:f ρ with
 | no=>rw [ef] at q;exact q
 | exc c=>rw [ef] at q;exact λ H' fps' k=>q _ H' fps' k.ks
 | ok p=>
  obtain ⟨x,d,ρ1⟩:=p;rw [ef] at q;intro v H1 fps1 f1 k1 g1 rep1 o1 t1;exact q v σ H1 fps1 f1 k1.ks rep1 (o1.weak λ a h=>h.elim (λ h=>.inl (rep1.zr hv h)) .inr) λ a ha=>⟨rep.h0' (t1.new a ha),λ z=>t1.ndj a ha z.zf⟩
def zzt (i:Nat):Fs:=λ ρ=>match ρ[i]? with
 | some (some (x,d))=>.rt x d ρ
 | _=>.no
theorem qi0 {i:Nat}{D:Ends} (hal:∀ i,M.al i=[]) (hm:M.Ms i=false) (hq:tS M (zzt i) D σ H):tRet (tVar i) D σ H:=by
 obtain ⟨ρ,fps,rep,q⟩:=hq;unfold zzt at q;cases e0:ρ[i]? with
 | none=>rw [e0] at q;exact q.elim
 | some sl=>
  cases sl with
  | none=>rw [e0] at q;exact q.elim
  | some p=>
   obtain ⟨x,d⟩:=p;rw [e0] at q;obtain ⟨v,hv,o⟩:=rep.own0 hal i x d e0;refine ⟨v,hv,q v σ H fps (fps i) KS.refl rep (o.weak λ a h=>h.elim Zr.zf λ z=>.inr ⟨i,z⟩) λ a ha=>⟨rep.fr i hm a ha,λ z=>?_⟩⟩;rcases z with z | ⟨z1,z2⟩
   ·exact rep.zo i a ha z
   ·cases e:M.io with
    | none=>exact z1 e
    | some w=>exact rep.dj i 0 (λ e'=>by rw [e',(rep.iov.1 w e).2] at hm;cases hm) a ha z2
def zkj (f:Fx):Fs:=λ ρ=>match f ρ with
 | .ok (_,_,ρ1)=>.nx ρ1
 | .exc c=>.exc c
 | .no=>.no
theorem qi4 {f:Fx}{D:Ends} (hq:tS M (zkj f) D σ H):qf6 (tE M f vs) D σ H:=by
 obtain ⟨ρ,fps,rep,q⟩:=hq;refine ⟨ρ,fps,rep,?_⟩;unfold zkj at q;cases ef:f ρ with
 | no=>rw [ef] at q;exact q
 | exc c=>rw [ef] at q;exact λ H' fps' k=>q _ H' fps' k.ks
 | ok p=>
  obtain ⟨x,d,ρ1⟩:=p;rw [ef] at q;intro v H1 fps1 f1 k1 g1 rep1 o1 t1;exact q σ H1 fps1 k1.ks rep1
theorem OwnL.snoc {K:Frag}{Z:Addr->Prop}{y:PV}{d:Nat}{w:V}{fy:List Addr}:∀ {xs:List PV}{ws:List V}{f:List Addr},OwnL K H Z xs d ws f->Own K H Z y d w fy->(∀ a∈f,a∉fy)->OwnL K H Z (xs++[y]) d (ws++[w]) (f++fy)
 | [],ws,f,h,hy,_=>by
  rw [OwnL] at h;obtain ⟨rfl,rfl⟩:=h;show OwnL K H Z [y] d [w] fy;rw [OwnL];refine ⟨w,[],fy,[],rfl,by simp,λ _ _ z=>(nomatch z),hy,?_⟩;rw [OwnL];exact ⟨rfl,rfl⟩
 | x::xs,ws,f,h,hy,hd=>by
  rw [OwnL] at h;obtain ⟨v,s,f1,f2,rfl,rfl,dj,h1,h2⟩:=h;show OwnL K H Z (x::(xs++[y])) d (v::(s++[w])) (f1++f2++fy);rw [OwnL];refine ⟨v,s++[w],f1,f2++fy,rfl,by rw [jf5],λ a ha hb=>?_,h1,h2.snoc hy λ a ha=>hd a (ja5 _ ha)⟩;rcases jd2.mp hb with z | z
  ·exact dj a ha z
  ·exact hd a (ja7 _ ha) z
theorem Own.at {K:Frag}{Z Z':Addr->Prop}{a:Addr}{o:HO}{x:PV}{d:Nat}{v:V}{fp:List Addr} (h:Own K H Z x d v fp) (hZ:Z a) (hl:∃ o:MO,H a=some o.ho) (hf:a∉fp) (hz:∀ b,H b≠none->¬ Z b->¬ Z' b):Own K (upd H a o) Z' x d v fp:=
 Own.move (S:=λ b=>b=a) (λ b u hb n=>by rw [zqg n];exact hb) (λ b e=>by rw [e];exact ⟨hZ,hl⟩) hz x d v fp (λ b hb e=>hf (by rw [<- e];exact hb)) h
theorem OwnL.at {K:Frag}{Z Z':Addr->Prop}{a:Addr}{o:HO}{x:List PV}{d:Nat}{v:List V}{fp:List Addr} (h:OwnL K H Z x d v fp) (hZ:Z a) (hl:∃ o:MO,H a=some o.ho) (hf:a∉fp) (hz:∀ b,H b≠none->¬ Z b->¬ Z' b):OwnL K (upd H a o) Z' x d v fp:=
 OwnL.move (S:=λ b=>b=a) (λ b u hb n=>by rw [zqg n];exact hb) (λ b e=>by rw [e];exact ⟨hZ,hl⟩) hz x d v fp (λ b hb e=>hf (by rw [<- e];exact hb)) h
theorem Rep.rewrite {i:Nat}{xs:List PV}{d:Nat}{a:Addr}{ws:List V}{zs:List PV}{us:List V}{e:Nat}{f f' fp:List Addr} (hal:∀ i,M.al i=[]) (r:Rep (M.plus fp) ρ σ H fps) (hi:ρ[i]?=some (some (.lst xs,d))) (hσ:σ[i]?=some (some (.ref a)))
  (ha:H a=some (.lst ws)) (hfp:fps i=a::f) (hn:a∉f') (hsub:∀ b∈f',b∈f\/b∈fp) (he:e≠0) (hm:M.Ms i=true->e=om) (hH:∀ b∈fp,M.H₀ b=none/\¬ M.Zo b)
  (hnew:OwnL M.K (upd H a (.lst us)) (Zf M (λ j=>if j=i then a::f' else fps j)) zs (pd e) us f'):
  Rep M (ρ.set i (some (.lst zs,e))) σ (upd H a (.lst us)) (λ j=>if j=i then a::f' else fps j):=by
 have hlen:i < ρ.length:=(ja9.mp hi).1;have hai:a∈fps i:=by rw [hfp];exact ja1
 have zz:∀ b,Zf M (λ j=>if j=i then a::f' else fps j) b->Zf (M.plus fp) fps b:=λ b h=>by
  rcases h with z | ⟨j,z⟩
  ·exact .inl (.inl z)
  ·by_cases ej:j=i
   ·simp only [if_pos ej] at z;rcases jb6.mp z with z | z
    ·exact .inr ⟨i,by rw [z];exact hai⟩
    ·rcases hsub b z with z | z
     ·exact .inr ⟨i,by rw [hfp];exact ja0 _ z⟩
     ·exact .inl (.inr z)
   ·simp only [if_neg ej] at z;exact .inr ⟨j,z⟩
 have dm:∀ b,H b≠none->(upd H a (.lst us)) b≠none:=λ b h=>by
  by_cases eb:b=a
  ·rw [eb,zqe];simp
  ·rw [zqg eb];exact h
 have inI:∀ b,b∈a::f'->b∈fps i\/b∈fp:=λ b hb=>by
  rcases jb6.mp hb with z | z
  ·exact .inl (by rw [z];exact hai)
  ·rcases hsub b z with z | z
   ·exact .inl (by rw [hfp];exact ja0 _ z)
   ·exact .inr z
 refine ⟨λ j y c hj=>?_,λ j hj=>?_,λ j k hjk b hb hc=>?_,λ j b hb z=>?_,λ j hj b hb=>?_,λ b z=>dm b (r.zd b (.inl z)),by rw [je8];exact r.len,λ j y c hj hc=>?_,λ b z=>dm b (r.h0 b z),r.iov⟩
 ·by_cases ej:j=i
  ·subst ej;rw [jc6 hlen] at hj;cases hj;refine ⟨_,hσ,?_⟩;rw [if_pos rfl,Own];exact ⟨a,us,rfl,.inr ⟨he,f',zqe,rfl,hn,hnew.weak λ _ h=>h.zf⟩⟩
  ·rw [jc0 (vb6 ej)] at hj;obtain ⟨w,hw,ow⟩:=r.own0 hal j y c hj;refine ⟨w,hw,?_⟩;rw [if_neg ej];exact ow.at (.inr ⟨i,hai⟩) ⟨.l ws,ha⟩ (λ z=>r.dj j i ej a z hai) λ b _ nz z=>nz (zz b z.zf)
 ·by_cases ej:j=i
  ·subst ej;exact absurd (jc6 hlen) (hj _)
  ·rw [if_neg ej];exact r.non j λ p hp=>hj p (by rw [jc0 (vb6 ej)];exact hp)
 ·have one:∀ k,k≠i->∀ b,b∈a::f'->b∈fps k->False:=λ k hk b h1 h2=>(inI b h1).elim (λ z=>r.dj i k (vb6 hk) b z h2) λ z=>r.zo k b h2 (.inr z);by_cases e1:j=i
  ·by_cases e2:k=i
   ·exact hjk (e1.trans e2.symm)
   ·rw [if_pos e1] at hb;rw [if_neg e2] at hc;exact one k e2 b hb hc
  ·rw [if_neg e1] at hb;by_cases e2:k=i
   ·rw [if_pos e2] at hc;exact one j e1 b hc hb
   ·rw [if_neg e2] at hc;exact r.dj j k hjk b hb hc
 ·by_cases ej:j=i
  ·rw [if_pos ej] at hb;rcases inI b hb with y | y
   ·exact r.zo i b y (.inl z)
   ·exact (hH b y).2 z
  ·rw [if_neg ej] at hb;exact r.zo j b hb (.inl z)
 ·by_cases ej:j=i
  ·rw [if_pos ej] at hb;rcases inI b hb with y | y
   ·exact r.fr i (by rw [<- ej];exact hj) b y
   ·exact (hH b y).1
  ·rw [if_neg ej] at hb;exact r.fr j hj b hb
 ·by_cases ej:j=i
  ·subst ej;rw [jc6 hlen] at hc;cases hc;exact hm hj
  ·rw [jc0 (vb6 ej)] at hc;exact r.msf j y c hj hc
end
section
variable {M:Fm}{ρ ρ':Rho}{σ σ':St}{H H' H'':Hp}{fps fps' fps'':Fps}{vs vs':List Nat}
theorem KS.write {a:Addr}{o:HO}{i:Nat}{f' fp:List Addr} (k:KS M H fps H' fps') (ha:∃ j,a∈fps j) (hs:∀ b∈a::f',b∈fps' i\/H b=none):
  KS M H fps (upd H' a o) (λ j=>if j=i then a::f' else fps' j) where
 keep:=λ b u hb n=>by rw [zqg (λ e=>n (by rw [e];exact ha))];exact k.keep b u hb n
 dom:=λ b hb=>by
  by_cases e:b=a
  ·rw [e,zqe];simp
  ·rw [zqg e];exact k.dom b hb
 sub:=λ j b hb=>by
  by_cases e:j=i
  ·simp only [if_pos e] at hb;rcases hs b hb with z | z
   ·exact k.sub i b z
   ·exact .inr z
  ·simp only [if_neg e] at hb;exact k.sub j b hb
theorem Rep.behind {x:PV}{d:Nat}{v:V}{fp:List Addr} (rep:Rep M ρ σ H fps) (k:KD M H fps H' fps') (g:Agr M ρ ρ') (r':Rep M ρ' σ H' fps') (o:Own M.K H' (Zt M vs fps' fp) x d v fp) (t:Temp M vs H H' fps' fp)
  (hal:∀ i,M.al i=[]) (hv:∀ i∈vs,M.Ms i=false):∃ fps2,KS M H fps H' fps2/\Rep (M.plus fp) (zqp d vs ρ') σ H' fps2/\Own M.K H' (λ a=>Zf M fps2 a\/a∈fp) x d v fp/\(∀ a∈fp,¬ Zf M fps2 a)/\(∀ i a,a∈fps2 i->a∈fps' i)/\(∀ a∈fp,M.H₀ a=none/\¬ M.Zo a):=by
 have w:Rep (M.plus fp) ρ' σ H' fps':=rep.wide (λ i j hj=>by rw [hal i] at hj;cases hj) k g r' λ a ha=>⟨t.new a ha,by obtain ⟨xs,e⟩:=Own.lsts x d v fp o a ha;rw [e];simp,t.ndj a ha⟩
 have hf:∀ a∈fp,M.H₀ a=none/\¬ M.Zo a:=λ a ha=>⟨rep.h0' (t.new a ha),λ z=>t.ndj a ha (.inl z)⟩
 unfold zqp;by_cases hd:d=om
 ·rw [if_pos hd];refine ⟨fps',k.ks,w,?_,t.ndj,λ _ _ h=>h,hf⟩;rw [hd] at o ⊢;exact Own.full x v fp o
 ·rw [if_neg hd];exact ⟨zvs vs fps',k.ks.cool,w.cool hal hv,o.weak λ a h=>h.elim (λ h=>.inl (zva h)) .inr,λ a ha z=>t.ndj a ha (zva z).zf,λ _ _ h=>(zxp h).1,hf⟩
def sApp (i:Nat) (f:Fx) (vs:List Nat):Fs:=λ ρ=>match ρ[i]? with
 | some (some (.lst _,0))=>.no
 | some (some (.lst _,_ + 1))=>(match f ρ with
  | .ok (y,e,ρ1)=>(match (zqp e vs ρ1)[i]? with
   | some (some (.lst xs,d))=>if d≠0/\xs.length < va6 then .nx ((zqp e vs ρ1).set i (some (.lst (xs++[y]),if d=om/\e=om then om else 1))) else .no
   | _=>.no)
  | .exc c=>.exc c
  | .no=>.no)
 | _=>.no
theorem zbk:pd 1=0:=by decide
theorem Own.list {K:Frag}{Z:Addr->Prop}{xs:List PV}{d:Nat}{v:V}{fp:List Addr} (h:Own K H Z (.lst xs) d v fp) (hd:d≠0):∃ a ws f,v=.ref a/\H a=some (.lst ws)/\fp=a::f/\a∉f/\OwnL K H Z xs (pd d) ws f:=by
 rw [Own] at h;obtain ⟨a,ws,e,⟨d0,_⟩ | ⟨_,f,h1,h2,h3,h4⟩⟩:=h
 ·exact absurd d0 hd
 ·exact ⟨a,ws,f,e,h1,h2,h3,h4⟩
theorem ql5 {f:Fx}{i:Nat}{D:Ends} (hal:∀ i,M.al i=[]) (hv:∀ i∈vs,M.Ms i=false) (hm:M.Ms i=false) (hq:tS M (sApp i f vs) D σ H):qf6 (tBM M.K "list" qdc (tVar i) (qf7 (tE M f vs) tNil)) D σ H:=by
 obtain ⟨ρ,fps,rep,q⟩:=hq;unfold sApp at q;split at q
 ·exact q.elim
 ·rename_i xs0 d0 e0;obtain ⟨v,hσ,o⟩:=rep.own0 hal i _ _ e0;obtain ⟨a,ws0,fc0,rfl,ha0,hfp0,_,_⟩:=o.list (jl9 _);refine ⟨_,hσ,qcg (.inl (.inl ha0)),ρ,fps,rep,?_⟩;cases ef:f ρ with
  | no=>rw [ef] at q;exact q
  | exc c=>rw [ef] at q;exact λ H' fps' k=>q _ H' fps' k.ks
  | ok p=>
   obtain ⟨y,e,ρ1⟩:=p;rw [ef] at q;intro w H1 fps1 fp k1 g1 rep1 o1 t1;dsimp only at q;split at q
   ·rename_i xs d es;split at q
    ·rename_i hc;obtain ⟨fps2,k2,r2,o2,n2,s2,h2⟩:=Rep.behind rep k1 g1 rep1 o1 t1 hal hv;obtain ⟨v',hσ',ol⟩:=r2.own0 hal i _ _ es;rw [hσ] at hσ';cases hσ';obtain ⟨a',ws,fc,ev,ha,hfp,nac,hol⟩:=ol.list hc.1;cases ev;have hai:a∈fps2 i:=by rw [hfp];exact ja1
     have hafp:a∉fp:=λ z=>n2 a z (.inr ⟨i,hai⟩);have hst:∃ j,a∈fps j:=⟨i,by have:=s2 i a hai;rw [k1.same i hm] at this;exact this⟩
     refine ⟨a,ws,w,rfl,rfl,ha,by rw [hol.length];exact hc.2,?_⟩;by_cases ho:d=om/\e=om
     ·rw [if_pos ho] at q;obtain ⟨rfl,rfl⟩:=ho;refine q σ _ _ (k2.write (i:=i) (f':=fc++fp) (fp:=fp) hst λ b hb=>?_) (r2.rewrite hal es hσ ha hfp (λ z=>(jd2.mp z).elim nac hafp) (λ b hb=>jd2.mp hb) (by decide) (λ _=>rfl) h2 ?_)
      ·rcases jb6.mp hb with z | z
       ·exact .inl (by rw [z];exact hai)
       ·rcases jd2.mp z with z | z
        ·exact .inl (by rw [hfp];exact ja0 _ z)
        ·exact .inr (t1.new b z)
      ·have u1:OwnL M.K (upd H1 a (.lst (ws++[w]))) (λ _=>True) xs om ws fc:=(OwnL.full (Z':=λ _=>True) xs ws fc hol).at trivial ⟨.l ws,ha⟩ nac λ _ _ n=>absurd trivial n;have u2:Own M.K (upd H1 a (.lst (ws++[w]))) (λ _=>True) y om w fp:=(Own.full (Z':=λ _=>True) y w fp o2).at trivial ⟨.l ws,ha⟩ hafp λ _ _ n=>absurd trivial n;exact OwnL.full _ _ _ (u1.snoc u2 λ b hb z=>n2 b z (.inr ⟨i,by rw [hfp];exact ja0 _ hb⟩))
     ·rw [if_neg ho] at q;refine q σ _ _ (k2.write (i:=i) (f':=[]) (fp:=fp) hst λ b hb=>?_) (r2.rewrite hal es hσ ha hfp (λ z=>nomatch z) (λ b hb=>nomatch hb) (by decide) (λ h=>by rw [hm] at h;cases h) h2 ?_)
      ·rcases jb6.mp hb with z | z
       ·exact .inl (by rw [z];exact hai)
       ·cases z
      ·rw [zbk];have zsub:∀ b,Zf M (λ j=>if j=i then [a] else fps2 j) b->Zf (M.plus fp) fps2 b:=λ b h=>by
        rcases h with z | ⟨j,z⟩
        ·exact .inl (.inl z)
        ·by_cases ej:j=i
         ·simp only [if_pos ej] at z;rw [jb4.mp z];exact .inr ⟨i,hai⟩
         ·simp only [if_neg ej] at z;exact .inr ⟨j,z⟩
       have nf:∀ b∈fc,¬ Zf M (λ j=>if j=i then [a] else fps2 j) b:=λ b hb z=>by
        have hbi:b∈fps2 i:=by rw [hfp];exact ja0 _ hb
        rcases z with z | ⟨j,z⟩
        ·exact r2.zo i b hbi (.inl z)
        ·by_cases ej:j=i
         ·simp only [if_pos ej] at z;rw [jb4.mp z] at hb;exact nac hb
         ·simp only [if_neg ej] at z;exact r2.dj i j (vb6 ej) b hbi z
       have nfp:∀ b∈fp,¬ Zf M (λ j=>if j=i then [a] else fps2 j) b:=λ b hb z=>by
        rcases z with z | ⟨j,z⟩
        ·exact n2 b hb (.inl z)
        ·by_cases ej:j=i
         ·simp only [if_pos ej] at z;rw [jb4.mp z] at hb;exact hafp hb
         ·simp only [if_neg ej] at z;exact n2 b hb (.inr ⟨j,z⟩)
       have za:Zf M (λ j=>if j=i then [a] else fps2 j) a:=.inr ⟨i,by simp⟩;have u1:=(OwnL.freeze (Z':=Zf M (λ j=>if j=i then [a] else fps2 j)) zsub xs _ ws fc nf hol)
       have u2:=(Own.freeze (Z':=Zf M (λ j=>if j=i then [a] else fps2 j)) (λ b h=>by
        rcases h with z | ⟨j,z⟩
        ·exact .inl (.inl z)
        ·by_cases ej:j=i
         ·simp only [if_pos ej] at z;rw [jb4.mp z];exact .inl (.inr ⟨i,hai⟩)
         ·simp only [if_neg ej] at z;exact .inl (.inr ⟨j,z⟩)) y _ w fp nfp o2)
       exact (u1.at za ⟨.l ws,ha⟩ (λ z=>nomatch z) λ _ _ n=>n).snoc (u2.at za ⟨.l ws,ha⟩ (λ z=>nomatch z) λ _ _ n=>n) λ _ z=>nomatch z
    ·exact q.elim
   ·exact q.elim
 ·exact q.elim
def zgd:PV->Bool
 | .lst _=>false
 | .tup _=>false
 | .dct _=>false
 | .dcl _ _=>false
 | _=>true
theorem OwnL.set {K:Frag}{Z:Addr->Prop}{y:PV}{d:Nat}{w:V} (hy:Own K H Z y d w []):∀ {xs:List PV}{ws:List V}{f:List Addr} (k:Nat),OwnL K H Z xs d ws f->∃ f',(∀ b∈f',b∈f)/\OwnL K H Z (xs.set k y) d (ws.set k w) f'
 | [],ws,f,k,h=>by
  rw [OwnL] at h;obtain ⟨rfl,rfl⟩:=h;refine ⟨[],λ _ z=>z,?_⟩;rw [jq6,jq6,OwnL];exact ⟨rfl,rfl⟩
 | x::xs,ws,f,0,h=>by
  rw [OwnL] at h;obtain ⟨v,s,f1,f2,rfl,rfl,dj,h1,h2⟩:=h;refine ⟨f2,λ b hb=>ja5 _ hb,?_⟩;rw [jn6,jn6,OwnL];exact ⟨w,s,[],f2,rfl,rfl,λ _ z=>(nomatch z),hy,h2⟩
 | x::xs,ws,f,k + 1,h=>by
  rw [OwnL] at h;obtain ⟨v,s,f1,f2,rfl,rfl,dj,h1,h2⟩:=h;obtain ⟨f',hs,h'⟩:=h2.set hy k;refine ⟨f1++f',λ b hb=>(jd2.mp hb).elim (λ z=>ja7 _ z) λ z=>ja5 _ (hs b z),?_⟩;rw [jh2,jh2,OwnL];exact ⟨v,s.set k w,f1,f',rfl,rfl,λ b hb hc=>dj b hb (hs b hc),h1,h'⟩
theorem Own.atom {K:Frag}{Z Z':Addr->Prop}{y:PV}{d d':Nat}{w:V}{fp:List Addr} (hy:zgd y=true) (h:Own K H Z y d w fp):fp=[]/\Own K H Z' y d' w []:=by
 cases y with
 | lst _=>cases hy
 | tup _=>cases hy
 | dct _=>cases hy
 | dcl _ _=>cases hy
 | exn _=>rw [Own] at h ⊢;exact ⟨h.1,rfl,h.2⟩
 | emp=>rw [Own] at h ⊢;exact ⟨h.1,rfl,h.2⟩
 | dko=>rw [Own] at h ⊢;exact ⟨h.1,rfl,h.2⟩
 | scr _=>rw [Own] at h ⊢;exact ⟨h.1,rfl,h.2⟩
 | non=>rw [Own] at h ⊢;exact ⟨h.2,h.1,rfl⟩
 | bl _=>rw [Own] at h ⊢;exact ⟨h.2,h.1,rfl⟩
 | int _=>rw [Own] at h ⊢;exact ⟨h.2,h.1,rfl⟩
 | str _=>rw [Own] at h ⊢;exact ⟨h.2,h.1,rfl⟩
end
section
variable {is:List Nat}{M:Fm}{ρ ρ':Rho}{σ σ':St}{H H' H'':Hp}{fps fps' fps'':Fps}{vs vs':List Nat}
theorem Rep.plus0 (hal:∀ i,∀ j∈M.al i,M.Ms j=false) (r:Rep M ρ σ H fps):Rep (M.plus []) ρ σ H fps:=r.wide hal KD.refl Agr.refl r (λ _ z=>nomatch z)
def GOk (M:Fm) (al is:List Nat) (g:TG) (asg:PV->Rho->Option Rho):Prop:=∀ y v ρ σ H fps ρ' (Q:St->Hp->Prop),Rep M ρ σ H fps->Own M.K H (Zv M al fps) y 0 v []->asg y ρ=some ρ'->(∀ σ' fps',(∀ i,∀ a∈fps' i,a∈fps i)->(∀ i,i∉is->ρ'[i]?=ρ[i]?/\fps' i=fps i/\σ'[i]?=σ[i]?)->ρ'.length=ρ.length->Rep M ρ' σ' H fps'->Q σ' H)->g v σ H Q
def asgN (i:Nat):PV->Rho->Option Rho:=λ y ρ=>if i < ρ.length then some (ρ.set i (some (y,dv y))) else none
theorem Own.dv {K:Frag}{Z:Addr->Prop}{x:PV}{v:V} (h:Own K H Z x 0 v []):Own K H Z x (dv x) v []:=Own.view (fp:=[]) (λ _ z=>z) (λ _ z=>nomatch z) h
structure Bd (M:Fm) (al:List Nat) (i:Nat):Prop where
 ms:M.Ms i=false
 io:M.Fre i
 al:M.al i=al
 als:∀ i,∀ j∈M.al i,M.Ms j=false
theorem Rep.bind1 {al:List Nat}{i:Nat}{y:PV}{v:V} (r:Rep M ρ σ H fps) (o:Own M.K H (Zv M al fps) y 0 v []) (hi:i < ρ.length) (b:Bd M al i):
  Rep M (ρ.set i (some (y,dv y))) (σ.set i (some v)) H (λ j=>if j=i then [] else fps j):=by
 refine (r.plus0 b.als).put (o.dv.weak λ a h=>h.elim (λ h=>?_) λ z=>nomatch z) (λ _ z=>nomatch z) hi (λ h=>by rw [b.ms] at h;cases h) b.io;rcases h with h | ⟨j,nj,h⟩
 ·exact .inl h
 ·exact .inr ⟨j,by rw [b.al] at nj;exact nj,h⟩
theorem qer {al:List Nat}{i:Nat} (b:Bd M al i):GOk M al [i] (zkt i) (asgN i):=by
 intro y v ρ σ H fps ρ' Q r o e q;unfold asgN at e;split at e
 ·rename_i hi;cases e;refine q _ _ (λ j a ha=>?_) (λ j nj=>?_) (by rw [je8]) (r.bind1 o hi b)
  ·by_cases e:j=i
   ·simp only [if_pos e] at ha;cases ha
   ·simp only [if_neg e] at ha;exact ha
  ·have e:j≠i:=λ e=>nj (by simp [e]);exact ⟨jc0 (vb6 e),if_neg e,jc0 (vb6 e)⟩
 ·cases e
def zbq:List Nat->TGs
 | []=>gNil
 | i::is=>qon (zkt i) (zbq is)
def asgs:List Nat->List PV->Rho->Option Rho
 | [],[],ρ=>some ρ
 | i::is,y::ys,ρ=>(asgN i y ρ).bind (asgs is ys)
 | _,_,_=>none
def asgT (is:List Nat):PV->Rho->Option Rho:=λ y ρ=>match y with
 | .tup ys=>asgs is ys ρ
 | _=>none
theorem qeq {al:List Nat}:∀ (is:List Nat) (ys:List PV) (ws:List V) (ρ:Rho) (σ:St) (H:Hp) (fps:Fps) (ρ':Rho) (Q:St->Hp->Prop),(∀ i∈is,Bd M al i)->Rep M ρ σ H fps->OwnL M.K H (Zv M al fps) ys 0 ws []->asgs is ys ρ=some ρ' ->
  (∀ σ' fps',(∀ i,∀ a∈fps' i,a∈fps i)->(∀ i,i∉is->ρ'[i]?=ρ[i]?/\fps' i=fps i/\σ'[i]?=σ[i]?)->ρ'.length=ρ.length->Rep M ρ' σ' H fps'->Q σ' H)->ws.length=is.length/\zbq is ws σ H Q
 | [],[],ws,ρ,σ,H,fps,ρ',Q,_,r,o,e,q=>by
  rw [OwnL] at o;obtain ⟨rfl,_⟩:=o;cases e;exact ⟨rfl,rfl,q σ fps (λ _ _ h=>h) (λ _ _=>⟨rfl,rfl,rfl⟩) rfl r⟩
 | [],_::_,_,_,_,_,_,_,_,_,_,_,e,_=>by cases e
 | _::_,[],_,_,_,_,_,_,_,_,_,_,e,_=>by cases e
 | i::is,y::ys,ws,ρ,σ,H,fps,ρ',Q,hs,r,o,e,q=>by
  rw [OwnL] at o;obtain ⟨v,s,f1,f2,rfl,ef,_,o1,o2⟩:=o;obtain ⟨rfl,rfl⟩:f1=[]/\f2=[]:=by simpa using ef.symm
  unfold asgs at e;cases e1:asgN i y ρ with
  | none=>rw [e1] at e;cases e
  | some ρ1=>
   rw [e1] at e;unfold asgN at e1;split at e1
   ·rename_i hi;cases e1;have bi:=hs i ja1;have r':=r.bind1 o1 hi bi;have sub:∀ j a,a∈(λ j=>if j=i then [] else fps j) j->a∈fps j:=λ j a z=>by
     by_cases ej:j=i
     ·simp only [if_pos ej] at z;cases z
     ·simp only [if_neg ej] at z;exact z
    have o2':OwnL M.K H (Zv M al (λ j=>if j=i then [] else fps j)) ys 0 s []:=o2.weak λ a h=>h.elim .inl λ ⟨j,nj,z⟩=>.inr ⟨j,nj,sub j a z⟩;obtain ⟨hl,hg⟩:=qeq is ys s _ _ H _ ρ' Q (λ j hj=>hs j (ja0 _ hj)) r' o2' e λ σ' fps' k' a' l' r''=>q σ' fps' (λ j a ha=>sub j a (k' j a ha)) (λ j hj=>by
     have ej:j≠i:=λ e=>hj (by rw [e];exact ja1);obtain ⟨z1,z2,z3⟩:=a' j λ z=>hj (ja0 _ z);rw [if_neg ej] at z2;exact ⟨z1.trans (jc0 (vb6 ej)),z2,z3.trans (jc0 (vb6 ej))⟩) (l'.trans (by rw [je8])) r''
    exact ⟨by rw [jb2,jb2,hl],v,s,rfl,hg⟩
   ·cases e1
theorem qkx {al:List Nat}{is:List Nat} (hs:∀ i∈is,Bd M al i):GOk M al is (gTup M.K is.length (zbq is)) (asgT is):=by
 intro y v ρ σ H fps ρ' Q r o e q;unfold asgT at e;split at e
 ·rename_i ys;rw [Own] at o;obtain ⟨a,ws,rfl,hr,ol⟩:=o;obtain ⟨hl,hg⟩:=qeq is ys ws ρ σ H fps ρ' Q hs r ol e q;exact ⟨a,ws,rfl,.inl (.inl hr),hl,hg⟩
 ·cases e
def zxe (asg:PV->Rho->Option Rho) (body:Fs):List PV->Rho->Rs
 | [],ρ=>.nx ρ
 | x::xs,ρ=>match asg x ρ with
  | none=>.no
  | some ρ1=>match body ρ1 with
   | .nx ρ2=>zxe asg body xs ρ2
   | .ct ρ2=>zxe asg body xs ρ2
   | .bk ρ2=>.nx ρ2
   | .rt x d ρ2=>.rt x d ρ2
   | .exc c=>.exc c
   | .no=>.no
theorem zwv {g:TG}{asg:PV->Rho->Option Rho}{body:Fs}{D:Ends}{J:It}{els:List PV}{Pq:Hp->Fps->Prop} (hg:GOk M [] is g asg)
  (hP:∀ {ρ σ H fps H' fps'},Rep M ρ σ H fps->KS M H fps H' fps'->Pq H fps->Pq H' fps') (hgo:∀ {H fps i},Pq H fps->i < els.length->J.go i H) (hst:∀ {H fps i},Pq H fps->els.length<=i->J.stop i H)
  (hy:∀ {ρ σ H fps i x H'},Rep M ρ σ H fps->Pq H fps->i < els.length->J.yld i H x H'->(∀ a o,H a=some o->H' a=some o)/\∃ y,els[i]?=some y/\Own M.K H' (Zf M fps) y 0 x [])
  (rep:Rep M ρ σ H fps) (p:Pq H fps) (q:RsOk M D H fps (zxe asg body els ρ)):
  ∃ W:Nat->Nat->St->Hp->Prop,(∃ m,W 0 m σ H)/\∀ i m σ H,W i m σ H ->
   (J.stop i H/\D.nx σ H)\/(J.go i H/\∃ N:St->Hp->Prop,(∀ σ' H',N σ' H'->∃ m',m' < m/\W (i + 1) m' σ' H')/\∀ x H',J.yld i H x H'->g x σ H' λ σ2 H2=>(tS M body) { D with nx:=N,ct:=N,bk:=D.nx } σ2 H2):=by
 let W:Nat->Nat->St->Hp->Prop:=λ i m σ H=>m=els.length - i/\∃ ρ fps,Rep M ρ σ H fps/\Pq H fps/\RsOk M D H fps (zxe asg body (els.drop i) ρ);refine ⟨W,⟨els.length,by simp,ρ,fps,rep,p,by simpa using q⟩,?_⟩;rintro i m σ H ⟨rfl,ρ,fps,r,p,q⟩;by_cases hi:i < els.length
 ·right
  refine ⟨hgo p hi,W (i + 1) (els.length - (i + 1)),λ σ' H' w=>⟨_,by omega,w⟩,λ x H' y=>?_⟩;obtain ⟨kx,z,ez,oz⟩:=hy r p hi y;have k0:KS M H fps H' fps:=(KD.grow kx).ks;have p:=hP r k0 p;have r:=r.grow kx;have q:=RsOk.from k0 q;have ed:els.drop i=z::els.drop (i + 1):=by
   obtain ⟨h1,h2⟩:=ja9.mp ez;rw [<- h2];exact jl2 h1
  rw [ed] at q;unfold zxe at q;cases ea:asg z ρ with
  | none=>rw [ea] at q;exact q.elim
  | some ρ1=>
   rw [ea] at q;dsimp only at q;refine hg z x ρ σ _ fps ρ1 _ r (oz.weak λ a h=>h.zf) ea λ σ1 fps1 s1 _ _ r1=>⟨ρ1,fps1,r1,?_⟩
   have k1:KS M H' fps H' fps1:=⟨λ _ _ h _=>h,λ _ h=>h,λ j a ha=>.inl ⟨j,s1 j a ha⟩⟩
   have p1:=hP r k1 p;cases eb:body ρ1 with
   | no=>rw [eb] at q;exact q
   | exc c=>rw [eb] at q;exact RsOk.from (r:=.exc c) k1 q
   | rt x d ρ2=>rw [eb] at q;exact RsOk.from (r:=.rt x d ρ2) k1 q
   | bk ρ2=>rw [eb] at q;exact λ σ' H' fps' k=>q σ' H' fps' (k1.trans k)
   | nx ρ2=>rw [eb] at q;exact λ σ' H' fps' k r'=>⟨rfl,ρ2,fps',r',hP r1 k p1,RsOk.from (k1.trans k) q⟩
   | ct ρ2=>rw [eb] at q;exact λ σ' H' fps' k r'=>⟨rfl,ρ2,fps',r',hP r1 k p1,RsOk.from (k1.trans k) q⟩
 ·left
  have ed:els.drop i=[]:=jm2 (by omega);rw [ed] at q;exact ⟨hst p (by omega),q σ H fps KS.refl r⟩
def zzv (lo:Int) (n:Nat):List PV:=(jb0 n).map λ (i:Nat)=>PV.int (lo + (i:Int))
theorem zwl (lo:Int) (n:Nat):(zzv lo n).length=n:=by simp [zzv]
def zqt:List (PV×Nat)->Option (Int×Int)
 | [(.int j,_)]=>if -(2 ^ 62)<=j/\j < 2 ^ 62 then some (0,j) else none
 | _=>none
def zkv:List (PV×Nat)->Option (Int×Int)
 | [(.int i,_),(.int j,_)]=>if -(2 ^ 62)<=i/\i < 2 ^ 62/\-(2 ^ 62)<=j/\j < 2 ^ 62 then some (i,j) else none
 | _=>none
def zwe (en:List (PV×Nat)->Option (Int×Int)) (fa:Fa) (asg:PV->Rho->Option Rho) (body:Fs):Fs:=λ ρ=>match fa ρ with
 | .ok (xs,ρ1)=>(match en xs with
  | some (i,j)=>zxe asg body (zzv i (j - i).toNat) ρ1
  | none=>.no)
 | .exc c=>.exc c
 | .no=>.no
theorem zka {g:TG}{asg:PV->Rho->Option Rho}{body:Fs}{D:Ends}{lo:Int}{n:Nat} (hg:GOk M [] is g asg) (rep:Rep M ρ σ H fps) (q:RsOk M D H fps (zxe asg body (zzv lo n) ρ)):
  ∃ W:Nat->Nat->St->Hp->Prop,(∃ m,W 0 m σ H)/\∀ i m σ H,W i m σ H ->
   ((Itr lo n).stop i H/\D.nx σ H)\/((Itr lo n).go i H/\∃ N:St->Hp->Prop,(∀ σ' H',N σ' H'->∃ m',m' < m/\W (i + 1) m' σ' H')/\∀ x H',(Itr lo n).yld i H x H'->g x σ H' λ σ2 H2=>(tS M body) { D with nx:=N,ct:=N,bk:=D.nx } σ2 H2):=by
 refine zwv (Pq:=λ _ _=>True) hg (λ _ _ _=>trivial) (λ {H fps i} _ h=>?_) (λ {H fps i} _ h=>?_) (λ {ρ σ H fps i x H'} _ _ h y=>?_) rep trivial q
 ·rw [zwl] at h;exact h
 ·rw [zwl] at h;exact h
 ·rw [zwl] at h;obtain ⟨e1,e2⟩:=y;subst e1;exact ⟨λ _ _ h=>h,.int (lo + i),by simp [zzv,h],by rw [e2,Own];exact ⟨rfl,rfl⟩⟩
theorem qco {g:TG}{asg:PV->Rho->Option Rho}{body:Fs}{fa:Fa}{D:Ends} (hg:GOk M [] is g asg) (hq:tS M (zwe zqt fa asg body) D σ H):tFor (qgw (tL M fa vs)) g (tS M body) D σ H:=by
 obtain ⟨ρ,fps,rep,q⟩:=hq;refine ⟨ρ,fps,rep,?_⟩;unfold zwe at q;cases ef:fa ρ with
 | no=>rw [ef] at q;exact q
 | exc c=>rw [ef] at q;exact λ H' fps' k=>q _ H' fps' k.ks
 | ok p=>
  obtain ⟨xs,ρ1⟩:=p;rw [ef] at q;intro ws H1 fps1 f1 k1 g1 rep1 o1 t1;dsimp only at q;cases ee:zqt xs with
  | none=>rw [ee] at q;exact q.elim
  | some ij=>
   obtain ⟨i,j⟩:=ij;rw [ee] at q;unfold zqt at ee;split at ee
   ·rename_i j' d;split at ee
    ·rename_i hb;cases ee;obtain ⟨v,r,f1,f2,rfl,_,_,h1,h2⟩:=o1;obtain ⟨rfl,_⟩:=h2;rw [Own] at h1;obtain ⟨rfl,_⟩:=h1;refine ⟨j,rfl,hb.1,hb.2,?_⟩;have e:(j - 0).toNat=j.toNat:=by omega
     dsimp only at q;rw [e] at q;exact zka hg rep1 (RsOk.from k1.ks q)
    ·cases ee
   ·cases ee
theorem qcn {g:TG}{asg:PV->Rho->Option Rho}{body:Fs}{fa:Fa}{D:Ends} (hg:GOk M [] is g asg) (hq:tS M (zwe zkv fa asg body) D σ H):tFor (qgv (tL M fa vs)) g (tS M body) D σ H:=by
 obtain ⟨ρ,fps,rep,q⟩:=hq;refine ⟨ρ,fps,rep,?_⟩;unfold zwe at q;cases ef:fa ρ with
 | no=>rw [ef] at q;exact q
 | exc c=>rw [ef] at q;exact λ H' fps' k=>q _ H' fps' k.ks
 | ok p=>
  obtain ⟨xs,ρ1⟩:=p;rw [ef] at q;intro ws H1 fps1 f1 k1 g1 rep1 o1 t1;dsimp only at q;cases ee:zkv xs with
  | none=>rw [ee] at q;exact q.elim
  | some ij=>
   obtain ⟨i,j⟩:=ij;rw [ee] at q;unfold zkv at ee;split at ee
   ·rename_i i' d j' d';split at ee
    ·rename_i hb;cases ee;obtain ⟨v,r,f1,f2,rfl,_,_,h1,h2⟩:=o1;obtain ⟨v2,r2,f3,f4,rfl,_,_,h3,h4⟩:=h2;obtain ⟨rfl,_⟩:=h4;rw [Own] at h1 h3;obtain ⟨rfl,_⟩:=h1;obtain ⟨rfl,_⟩:=h3;exact ⟨i,j,rfl,hb,zka hg rep1 (RsOk.from k1.ks q)⟩
    ·cases ee
   ·cases ee
def zjc (z:Str):List PV:=z.cps.toList.map λ c=>.str ⟨#[c]⟩
def zzg (f:Fx) (vs:List Nat) (asg:PV->Rho->Option Rho) (body:Fs):Fs:=λ ρ=>match f ρ with
 | .ok (.str z,d,ρ1)=>if qbl z=true then zxe asg body (zjc z) (zqp d vs ρ1) else .no
 | .ok (.lst xs,d,ρ1)=>zxe asg body xs (zqp d vs ρ1)
 | .ok (.tup xs,d,ρ1)=>zxe asg body xs (zqp d vs ρ1)
 | .ok _=>.no
 | .exc c=>.exc c
 | .no=>.no
theorem OwnL.get {K:Frag}{Z:Addr->Prop}:∀ {xs:List PV}{ws:List V}{i:Nat}{w:V},OwnL K H Z xs 0 ws []->ws[i]?=some w->∃ x,xs[i]?=some x/\Own K H Z x 0 w []
 | [],ws,i,w,h,e=>by
  rw [OwnL] at h;obtain ⟨rfl,_⟩:=h;simp at e
 | x::xs,ws,i,w,h,e=>by
  rw [OwnL] at h;obtain ⟨v,s,f1,f2,rfl,ef,_,o1,o2⟩:=h;obtain ⟨rfl,rfl⟩:f1=[]/\f2=[]:=by simpa using ef.symm
  cases i with
  | zero=>simp at e;subst e;exact ⟨x,by simp,o1⟩
  | succ i=>obtain ⟨y,e1,e2⟩:=o2.get (i:=i) (w:=w) (by simpa using e);exact ⟨y,by simpa using e1,e2⟩
theorem Rep.seen {x:PV}{d:Nat}{v:V}{fp:List Addr} (rep:Rep M ρ σ H fps) (k:KD M H fps H' fps') (g:Agr M ρ ρ') (r':Rep M ρ' σ H' fps') (o:Own M.K H' (Zt M vs fps' fp) x d v fp) (t:Temp M vs H H' fps' fp)
  (hal:∀ i,M.al i=[]) (hv:∀ i∈vs,M.Ms i=false):∃ fps2,KS M H fps H' fps2/\Rep M (zqp d vs ρ') σ H' fps2/\Own M.K H' (Zf M fps2) x 0 v []:=by
 unfold zqp;by_cases hd:d=om
 ·rw [if_pos hd];rw [hd] at o;exact ⟨fps',k.ks,r',Own.freeze (λ _ z=>z) x om v fp (λ a ha=>t.ndj a ha) (Own.full x v fp o)⟩
 ·rw [if_neg hd];exact ⟨zvs vs fps',k.ks.cool,r'.cool hal hv,Own.freeze (λ a h=>.inl (zva h)) x d v fp (λ a ha z=>t.ndj a ha (zva z).zf) o⟩
theorem zgj {g:TG}{asg:PV->Rho->Option Rho}{body:Fs}{f:Fx}{D:Ends} (hal:∀ i,M.al i=[]) (hv:∀ i∈vs,M.Ms i=false) (hg:GOk M [] is g asg) (hq:tS M (zzg f vs asg body) D σ H):tFor (iSeq M.K (tE M f vs)) g (tS M body) D σ H:=by
 obtain ⟨ρ,fps,rep,q⟩:=hq;refine ⟨ρ,fps,rep,?_⟩;unfold zzg at q;cases ef:f ρ with
 | no=>rw [ef] at q;exact q
 | exc c=>rw [ef] at q;exact λ H' fps' k=>q _ H' fps' k.ks
 | ok p=>
  obtain ⟨x,d,ρ1⟩:=p;rw [ef] at q;intro v H1 fps1 f1 k1 g1 rep1 o1 t1;obtain ⟨fps2,k2,r2,o2⟩:=Rep.seen rep k1 g1 rep1 o1 t1 hal hv;cases x with
  | lst xs=>
   have o2':=o2;rw [Own] at o2';obtain ⟨a,ws,rfl,⟨_,hr,_,ol⟩ | ⟨h,_⟩⟩:=o2'
   ·have sq:SqL M.K H1 a ws:=.inl (.inl hr.1);refine .inl ⟨a,rfl,.inl ⟨⟨ws,sq⟩,?_⟩⟩;have one:∀ {H:Hp}{fps:Fps},Own M.K H (Zf M fps) (.lst xs) 0 (.ref a) []->∃ ws,SqL M.K H a ws/\OwnL M.K H (Zf M fps) xs 0 ws []:=λ o=>by
     rw [Own] at o;obtain ⟨b,ws,e,⟨_,hr,_,ol⟩ | ⟨h,_⟩⟩:=o
     ·cases e;exact ⟨ws,.inl (.inl hr.1),ol⟩
     ·exact absurd rfl h
    refine zwv (Pq:=λ H fps=>Own M.K H (Zf M fps) (.lst xs) 0 (.ref a) []) (els:=xs) hg (λ r k o=>k.stay0 r o) (λ {H fps i} o h=>?_) (λ {H fps i} o h=>?_) (λ {ρ σ H fps i x H'} _ o h y=>?_) r2 o2 (RsOk.from k2 q)
    ·obtain ⟨ws,s,ol⟩:=one o;exact ⟨ws,ws[i]'(by rw [ol.length];exact h),s,by simp⟩
    ·obtain ⟨ws,s,ol⟩:=one o;exact ⟨ws,s,by rw [ol.length];exact h⟩
    ·obtain ⟨ws,s,ol⟩:=one o;obtain ⟨e1,e2⟩:=y;subst e1;exact ⟨λ _ _ h=>h,ol.get (e2 ws s)⟩
   ·exact absurd rfl h
  | tup xs=>
   have o2':=o2;rw [Own] at o2';obtain ⟨a,ws,rfl,hr,ol⟩:=o2';refine .inl ⟨a,rfl,.inr ⟨⟨ws,.inl (.inl hr)⟩,?_⟩⟩;have one:∀ {H:Hp}{fps:Fps},Own M.K H (Zf M fps) (.tup xs) 0 (.ref a) []->∃ ws,SqT M.K H a ws/\OwnL M.K H (Zf M fps) xs 0 ws []:=λ o=>by
    rw [Own] at o;obtain ⟨b,ws,e,hr,ol⟩:=o;cases e;exact ⟨ws,.inl (.inl hr),ol⟩
   refine zwv (Pq:=λ H fps=>Own M.K H (Zf M fps) (.tup xs) 0 (.ref a) []) (els:=xs) hg (λ r k o=>k.stay0 r o) (λ {H fps i} o h=>?_) (λ {H fps i} o h=>?_) (λ {ρ σ H fps i x H'} _ o h y=>?_) r2 o2 (RsOk.from k2 q)
   ·obtain ⟨ws,s,ol⟩:=one o;exact ⟨ws,ws[i]'(by rw [ol.length];exact h),s,by simp⟩
   ·obtain ⟨ws,s,ol⟩:=one o;exact ⟨ws,s,by rw [ol.length];exact h⟩
   ·obtain ⟨ws,s,ol⟩:=one o;obtain ⟨e1,e2⟩:=y;subst e1;exact ⟨λ _ _ h=>h,ol.get (e2 ws s)⟩
  | str z=>
   have o2':=o2;rw [Own] at o2';obtain ⟨rfl,_⟩:=o2';dsimp only at q;split at q
   ·rename_i ha;refine .inr ⟨z,rfl,ha,?_⟩;have hl:(zjc z).length=z.cps.size:=by unfold zjc;rw [ja3,jf0]
    refine zwv (Pq:=λ _ _=>True) (els:=zjc z) hg (λ _ _ _=>trivial) (λ {H fps i} _ h=>?_) (λ {H fps i} _ h=>?_) (λ {ρ σ H fps i x H'} _ _ h y=>?_) r2 trivial (RsOk.from k2 q)
    ·show i < z.cps.size;omega
    ·show z.cps.size<=i;omega
    ·obtain ⟨rfl,c,hc,rfl⟩:=y;refine ⟨λ _ _ h=>h,.str ⟨#[c]⟩,?_,by rw [Own];exact ⟨rfl,rfl⟩⟩;unfold zjc;rw [jc7,jh5,hc];rfl
   ·exact q.elim
  | _=>exact q.elim
end
section
variable {M:Fm}{ρ ρ':Rho}{σ σ':St}{H H' H'':Hp}{fps fps' fps'':Fps}{vs vs':List Nat}
def Fm.comp (M:Fm) (D:Addr) (n:Nat) (vI:List Nat):Fm:={ M.plus [D] with W:=λ _ _ _=>False,al:=λ j=>if j < n then M.al j else vI }
theorem Rep.minus {fp:List Addr} (r:Rep (M.plus fp) ρ σ H fps):Rep M ρ σ H fps where
 own:=λ i x d e=>let ⟨v,h1,h2⟩:=r.own i x d e;⟨v,h1,h2.weak λ a h=>h.elim (λ h=>.inl (.inl h)) .inr⟩
 non:=r.non
 dj:=r.dj
 zo:=λ i a ha z=>r.zo i a ha (.inl z)
 fr:=r.fr
 zd:=λ a z=>r.zd a (.inl z)
 len:=r.len
 msf:=r.msf
 h0:=r.h0
 iov:=r.iov
theorem Rep.far (r:Rep M ρ σ H fps) {j:Nat} (h:ρ.length<=j):fps j=[]:=r.non j λ p e=>by
 rw [jh9.mpr h] at e;cases e
theorem Rep.ext {D:Addr}{k:Nat}{vI:List Nat} (r:Rep (M.plus [D]) ρ σ H fps):Rep (M.comp D ρ.length vI) (ρ++ja2 k none) (σ++ja2 k none) H fps where
 own:=λ i x d e=>by
  by_cases hi:i < ρ.length
  ·rw [jc2 hi] at e;obtain ⟨v,h1,h2⟩:=r.own i x d e;refine ⟨v,by rw [jc2 (by rw [<- r.len];exact hi)];exact h1,h2.weak λ a h=>?_⟩;rcases h with h | ⟨j,nj,h⟩
   ·exact .inl h
   ·refine .inr ⟨j,?_,h⟩
    have:(M.comp D ρ.length vI).al i=M.al i:=if_pos hi
    rw [this] at nj;exact nj
  ·rw [jd3 (by omega),jc8] at e;split at e <;> cases e
 non:=λ i h=>by
  by_cases hi:i < ρ.length
  ·exact r.non i λ p e=>h p (by rw [jc2 hi];exact e)
  ·exact r.far (by omega)
 dj:=r.dj
 zo:=r.zo
 fr:=r.fr
 zd:=r.zd
 len:=by simp [r.len]
 msf:=λ i x d hm e=>by
  by_cases hi:i < ρ.length
  ·rw [jc2 hi] at e;exact r.msf i x d hm e
  ·rw [jd3 (by omega),jc8] at e;split at e <;> cases e
 h0:=r.h0
 iov:=⟨λ v hv=>by
  have h:=r.iov.1 v hv;refine ⟨?_,h.2⟩
  have:0 < σ.length:=(ja9.mp h.1).1
  rw [jc2 this];exact h.1,λ p hp=>by
  have h:=r.iov.2 p hp;rw [jc2 (ja9.mp h).1];exact h⟩
def cut (n:Nat) (fps:Fps):Fps:=λ j=>if j < n then fps j else []
theorem zzn {n i:Nat}{a:Addr} (h:a∈cut n fps i):a∈fps i/\i < n:=by
 unfold cut at h;split at h
 ·rename_i hi;exact ⟨h,hi⟩
 ·cases h
theorem Rep.take {D:Addr}{n:Nat}{vI:List Nat} (r:Rep (M.comp D n vI) ρ σ H fps) (hσ:∀ i,i < n->σ[i]?=σ'[i]?) (hl:σ'.length=n) (hn:n<=ρ.length) (hio:(M.io≠none->0 < n)/\∀ p∈M.pn,p.1 < n):Rep (M.plus [D]) (ρ.take n) σ' H (cut n fps) where
 own:=λ i x d e=>by
  have hi:i < n:=by
   have:=(ja9.mp e).1
   rw [je5] at this;omega
  rw [jf2 hi] at e;obtain ⟨v,h1,h2⟩:=r.own i x d e;refine ⟨v,by rw [<- hσ i hi];exact h1,?_⟩
  have:cut n fps i=fps i:=if_pos hi
  rw [this];refine h2.weak λ a h=>?_;rcases h with h | ⟨j,nj,h⟩
  ·exact .inl h
  ·refine .inr ⟨j,?_,(zzn h).1⟩
   have:(M.comp D n vI).al i=M.al i:=if_pos hi
   rw [this];exact nj
 non:=λ i h=>by
  unfold cut;split
  ·rename_i hi;exact r.non i λ p e=>h p (by rw [jf2 hi];exact e)
  ·rfl
 dj:=λ i j hij a ha hb=>r.dj i j hij a (zzn ha).1 (zzn hb).1
 zo:=λ i a ha=>r.zo i a (zzn ha).1
 fr:=λ i hi a ha=>r.fr i hi a (zzn ha).1
 zd:=r.zd
 len:=by rw [je5,hl];omega
 msf:=λ i x d hm e=>by
  have hi:i < n:=by
   have:=(ja9.mp e).1
   rw [je5] at this;omega
  rw [jf2 hi] at e;exact r.msf i x d hm e
 h0:=r.h0
 iov:=⟨λ v hv=>by
  have h:=r.iov.1 v hv;refine ⟨?_,h.2⟩;have h0:0 < n:=hio.1 (by
   have hv':M.io=some v:=hv;rw [hv'];simp)
  rw [<- hσ 0 h0];exact h.1,λ p hp=>by rw [<- hσ p.1 (hio.2 p hp)];exact r.iov.2 p hp⟩
theorem Rep.touch {D:Addr}{us ws:List V} (r:Rep (M.plus [D]) ρ σ H fps) (hD:H D=some (.lst ws)):Rep (M.plus [D]) ρ σ (upd H D (.lst us)) fps:=by
 have zD:(M.plus [D]).Zo D:=.inr (by simp);have dm:∀ b,H b≠none->(upd H D (.lst us)) b≠none:=λ b h=>by
  by_cases eb:b=D
  ·rw [eb,zqe];simp
  ·rw [zqg eb];exact h
 exact ⟨λ i x d e=>let ⟨v,h1,h2⟩:=r.own i x d e;⟨v,h1,h2.at (.inl zD) ⟨.l ws,hD⟩ (λ z=>r.zo i D z zD) λ _ _ n=>n⟩,r.non,r.dj,r.zo,r.fr,λ a z=>dm a (r.zd a z),r.len,r.msf,λ a z=>dm a (r.h0 a z),r.iov⟩
theorem Tmps.snoc {K:Frag}{Z:Addr->Prop}{y:PV}{e:Nat}{w:V}{fe:List Addr} (hy:Own K H (λ a=>Z a\/a∈fe) y e w fe):∀ {xs:List (PV×Nat)}{ws:List V}{fp:List Addr},Tmps K H Z xs ws fp->(∀ a∈fp,a∉fe)->Tmps K H Z (xs++[(y,e)]) (ws++[w]) (fp++fe)
 | [],ws,fp,h,_=>by
  obtain ⟨rfl,rfl⟩:=h;exact ⟨w,[],fe,[],rfl,by simp,λ _ _ z=>(nomatch z),hy,rfl,rfl⟩
 | (x,d)::xs,ws,fp,h,hd=>by
  obtain ⟨v,s,f1,f2,rfl,rfl,dj,h1,h2⟩:=h;refine ⟨v,s++[w],f1,f2++fe,rfl,by rw [jf5],λ a ha hb=>?_,h1,h2.snoc hy λ a ha=>hd a (ja5 _ ha)⟩;rcases jd2.mp hb with z | z
  ·exact dj a ha z
  ·exact hd a (ja7 _ ha) z
theorem Tmps.at {K:Frag}{Z:Addr->Prop}{a:Addr}{o:HO} (hZ:Z a) (hl:∃ o:MO,H a=some o.ho):∀ {xs:List (PV×Nat)}{ws:List V}{fp:List Addr},Tmps K H Z xs ws fp->a∉fp->Tmps K (upd H a o) Z xs ws fp
 | [],_,_,h,_=>h
 | (x,d)::xs,ws,fp,h,hf=>by
  obtain ⟨v,s,f1,f2,e1,rfl,dj,h1,h2⟩:=h;exact ⟨v,s,f1,f2,e1,rfl,dj,h1.at (.inl hZ) hl (λ z=>hf (ja7 _ z)) λ _ _ n=>n,h2.at hZ hl λ z=>hf (ja5 _ z)⟩
theorem Tmps.lsts {K:Frag}{Z:Addr->Prop}:∀ {xs:List (PV×Nat)}{ws:List V}{fp:List Addr},Tmps K H Z xs ws fp->∀ a∈fp,∃ o:MO,H a=some o.ho
 | [],_,_,h,a,ha=>by rw [h.2] at ha;cases ha
 | (x,d)::xs,ws,fp,h,a,ha=>by
  obtain ⟨v,s,f1,f2,e1,rfl,dj,h1,h2⟩:=h;rcases jd2.mp ha with z | z
  ·exact Own.lsts x d v f1 h1 a z
  ·exact h2.lsts a z
def Rz.bindN {α β:Type} (r:Rz α) (f:α->Rz β):Rz β:=match r with
 | .ok a=>f a
 | _=>.no
def zwx (k:Nat) (asg:PV->Rho->Option Rho) (test:Fb) (elt:Fx):List PV->Rho->List (PV×Nat)->Rz (List (PV×Nat)×Rho)
 | [],ρ,acc=>.ok (acc,ρ)
 | x::xs,ρ,acc=>match asg x (ρ++ja2 k none) with
  | none=>.no
  | some ρ1=>(test ρ1).bindN λ (b,ρ2)=>if b=true then (elt ρ2).bindN λ (y,e,ρ3)=>(if acc.length < va6 then zwx k asg test elt xs (ρ3.take ρ.length) (acc++[(y,e)]) else .no) else zwx k asg test elt xs (ρ2.take ρ.length) acc
theorem KD.seen {D:Addr}{x:PV}{v:V} (r:Rep M ρ σ H fps) (k:KD M H fps H' fps') (hD:H D=none) (hv:∀ i∈vs,M.Ms i=false) (o:Own M.K H (Zv M vs fps) x 0 v []):Own M.K H' (Zv (M.plus [D]) vs fps') x 0 v []:=by
 refine Own.move k.keep ?_ ?_ x 0 v [] (λ _ z=>nomatch z) o
 ·rintro a ⟨i,hi,ha⟩;exact ⟨.inr ⟨i,λ z=>(by rw [hv i z] at hi;cases hi),ha⟩,r.lsts ha⟩
 ·intro a hd nz z;rcases z with (z | z) | ⟨i,ni,hx⟩
  ·exact nz (.inl z)
  ·rw [jb4.mp z] at hd;exact hd hD
  ·rcases k.sub i a hx with z | z
   ·exact nz (.inr ⟨i,ni,z⟩)
   ·exact hd z
theorem zyv {g:TG}{is vI vE vo:List Nat}{asg:PV->Rho->Option Rho}{test:Fb}{elt:Fx}{k:Nat}{J:It}{els:List PV}{Q:VK}{n:Nat}{P:Fm->Prop}
  (hP:∀ D,P (M.comp D n vI)) (hn:n=ρ.length) (hal:∀ i,∀ j∈M.al i,M.Ms j=false) (hvI:∀ i∈vI,M.Ms i=false) (hvE:∀ i∈vE,M.Ms i=false) (his:∀ i∈is,n<=i) (hg:∀ D,GOk (M.comp D n vI) vI is g asg) (hvo:∀ i,i∈vE->i < n->i∈vo) (hvo2:∀ i∈vo,M.Ms i=false)
  (rep:Rep M ρ σ H fps)
  (hgo:∀ {D H' fps' i},H D=none->KD M H fps H' fps'->i < els.length->J.go i H') (hst:∀ {D H' fps' i},H D=none->KD M H fps H' fps'->els.length<=i->J.stop i H')
  (hy:∀ {D H' fps' i x H''},H D=none->KD M H fps H' fps'->i < els.length->J.yld i H' x H''->(∀ a o,H' a=some o->H'' a=some o)/\∃ z,els[i]?=some z/\Own M.K H'' (Zv (M.plus [D]) vI fps') z 0 x [])
  (q:match zwx k asg test elt els ρ [] with
   | .ok (acc,ρ')=>∀ D ws H' fps' fpl,KD M H fps H' fps'->Agr M ρ ρ'->Rep (M.plus [D]) ρ' σ H' fps'->H D=none->H' D=some (.lst ws)->Tmps M.K H' (Zv (M.plus [D]) vo fps') acc ws fpl->(∀ a∈fpl,H a=none/\¬ Zf (M.plus [D]) fps' a)->Q (.ref D) H'
   | _=>False):
  ∀ D,H D=none->∃ W:Nat->Nat->List V->Hp->Prop,(∃ m,W 0 m [] (upd H D (.lst [])))/\∀ i m ys H1,W i m ys H1->H1 D=some (.lst ys) /\
   ((J.stop i H1/\Q (.ref D) H1)\/(J.go i H1/\∀ x H',J.yld i H1 x H'->g x (σ++ja2 k none) H' λ σ2 H2=>∃ M',P M'/\tT M' test σ2 H2 λ b H3=>if b=true then ∃ M',P M'/\tE M' elt vE σ2 H3 λ y H4=>H4 D=some (.lst ys)/\ys.length < va6/\∃ m',m' < m/\W (i + 1) m' (ys++[y]) (upd H4 D (.lst (ys++[y]))) else ∃ m',m' < m/\W (i + 1) m' ys H3)):=by
 intro D hD;subst hn;let W:Nat->Nat->List V->Hp->Prop:=λ i m ys H1=>m=els.length - i/\∃ ρ1 fps1 acc fpl,Rep (M.plus [D]) ρ1 σ H1 fps1/\KD M H fps H1 fps1/\Agr M ρ ρ1/\Tmps M.K H1 (Zv (M.plus [D]) vo fps1) acc ys fpl/\(∀ a∈fpl,H a=none/\¬ Zf (M.plus [D]) fps1 a)/\H1 D=some (.lst ys)/\zwx k asg test elt (els.drop i) ρ1 acc=zwx k asg test elt els ρ [];have k0:KD M H fps (upd H D (.lst [])) fps:=KD.grow λ a o h=>by rw [zqg (λ e=>by rw [e,hD] at h;cases h)];exact h
 have r0:Rep (M.plus [D]) ρ σ (upd H D (.lst [])) fps:=by
  refine rep.wide hal k0 Agr.refl (rep.grow λ a o h=>by rw [zqg (λ e=>by rw [e,hD] at h;cases h)];exact h) λ a ha=>?_;rw [jb4.mp ha];exact ⟨hD,by rw [zqe];simp,rep.nz hD⟩
 refine ⟨W,⟨els.length,by simp,ρ,fps,[],[],r0,k0,Agr.refl,⟨rfl,rfl⟩,λ _ z=>(nomatch z),zqe,by simp⟩,?_⟩;rintro i m ys H1 ⟨rfl,ρ1,fps1,acc,fpl,r1,k1,g1,tm,hf,h1D,ec⟩;refine ⟨h1D,?_⟩;have hlen:ρ1.length=ρ.length:=g1.2;by_cases hi:i < els.length
 ·right
  refine ⟨hgo hD k1 hi,λ x H' hyl=>?_⟩;obtain ⟨kx,z,ez,oz⟩:=hy hD k1 hi hyl;have tm:=KD.stays (M:=M.plus [D]) (KD.grow kx) r1 hvo2 tm λ a ha=>(hf a ha).2;have r1:=r1.grow kx;have k1:=k1.trans (KD.grow (M:=M) (fps:=fps1) kx);have h1D:=kx D _ h1D;have ed:els.drop i=z::els.drop (i + 1):=by
   obtain ⟨h1,h2⟩:=ja9.mp ez;rw [<- h2];exact jl2 h1
  rw [ed] at ec;have good:∃ a r,zwx k asg test elt els ρ []=.ok (a,r):=by
   cases e:zwx k asg test elt els ρ [] with
   | ok p=>exact ⟨p.1,p.2,rfl⟩
   | exc c=>rw [e] at q;exact q.elim
   | no=>rw [e] at q;exact q.elim
  obtain ⟨accF,ρF,eF⟩:=good;rw [eF] at ec;unfold zwx at ec;cases ea:asg z (ρ1++ja2 k none) with
  | none=>rw [ea] at ec;cases ec
  | some ρ2=>
   rw [ea] at ec;dsimp only at ec;have rx:Rep (M.comp D ρ.length vI) (ρ1++ja2 k none) (σ++ja2 k none) H' fps1:=by rw [<- hlen];exact r1.ext
   refine hg D z x _ _ H' fps1 ρ2 _ rx oz ea λ σ2 fps2 s2 a2 l2 r2=>⟨_,hP D,ρ2,fps2,r2,?_⟩
   have hl2:ρ2.length=ρ.length + k:=by rw [l2,jb1,jc5,hlen]
   have same2:∀ j,j < ρ.length->ρ2[j]?=ρ1[j]?/\fps2 j=fps1 j/\σ2[j]?=σ[j]?:=λ j hj=>by
    obtain ⟨z1,z2,z3⟩:=a2 j λ z=>absurd (his j z) (by omega);rw [jc2 (by omega)] at z1;rw [jc2 (by rw [<- rep.len];omega)] at z3;exact ⟨z1,z2,z3⟩
   have kd2:KD (M.comp D ρ.length vI) H' fps1 H' fps2->True:=λ _=>trivial;cases et:test ρ2 with
   | exc c=>rw [et] at ec;cases ec
   | no=>rw [et] at ec;cases ec
   | ok p=>
    obtain ⟨b,ρ3⟩:=p;rw [et] at ec;intro H3 fps3 k3 g3 r3;dsimp only [Rz.bindN] at ec;have far:∀ {ρ4:Rho}{H4:Hp}{fps4:Fps},KD (M.comp D ρ.length vI) H' fps2 H4 fps4->Agr (M.comp D ρ.length vI) ρ2 ρ4->Rep (M.comp D ρ.length vI) ρ4 σ2 H4 fps4 ->
      KD M H fps H4 (cut ρ.length fps4)/\KD M H' fps1 H4 (cut ρ.length fps4)/\Agr M ρ (ρ4.take ρ.length)/\Rep (M.plus [D]) (ρ4.take ρ.length) σ H4 (cut ρ.length fps4)/\H4 D=some (.lst ys):=λ {ρ4 H4 fps4} k4 g4 r4=>by
     have kk:KD M H' fps1 H4 (cut ρ.length fps4):=by
      refine ⟨λ a o ha hn=>k4.keep a o ha λ ⟨j,hj,hx⟩=>hn ⟨j,hj,s2 j a hx⟩,k4.dom,λ j a ha=>?_,λ j hj=>?_⟩
      ·rcases k4.sub j a (zzn ha).1 with z | z
       ·exact .inl (s2 j a z)
       ·exact .inr z
      ·unfold cut;by_cases hjl:j < ρ.length
       ·rw [if_pos hjl,k4.same j hj];exact (same2 j hjl).2.1
       ·rw [if_neg hjl];exact (r1.far (by omega)).symm
     refine ⟨k1.trans kk,kk,?_,r4.take (σ':=σ) (λ j hj=>(same2 j hj).2.2) rep.len.symm (by rw [g4.2,hl2];omega) ⟨λ hio=>?_,λ p hp=>by rw [rep.len];exact (ja9.mp (rep.iov.2 p hp)).1⟩,?_⟩
     ·refine ⟨λ j hj=>?_,by rw [je5,g4.2,hl2];omega⟩;by_cases hjl:j < ρ.length
      ·rw [jf2 hjl,g4.1 j hj,(same2 j hjl).1];exact g1.1 j hj
      ·rw [jh9.mpr (by rw [je5];omega),jh9.mpr (by omega)]
     ·cases e:M.io with
      | none=>exact absurd e hio
      | some v=>
       have:=(ja9.mp (rep.iov.1 v e).1).1
       rw [rep.len];exact this
     ·exact k4.keep D _ h1D λ ⟨j,_,hx⟩=>r2.zo j D hx (.inr (by simp))
    have notZ:∀ {H4:Hp}{fps4:Fps},KD M H' fps1 H4 fps4->∀ {a},a∈fpl->¬ Zf (M.plus [D]) fps4 a:=λ {H4 fps4} k4 a ha z=>by
     rcases z with z | ⟨j,z⟩
     ·exact (hf a ha).2 (.inl z)
     ·rcases k4.sub j a z with z | z
      ·exact (hf a ha).2 (.inr ⟨j,z⟩)
      ·obtain ⟨xs,e⟩:=tm.lsts a ha;rw [z] at e;cases e
    cases b with
    | false=>
     rw [if_neg jb9] at ec ⊢;obtain ⟨f1,f2,f3,f4,f5⟩:=far k3 g3 r3;refine ⟨els.length - (i + 1),by omega,rfl,ρ3.take ρ.length,cut ρ.length fps3,acc,fpl,f4,f1,f3,?_,λ a ha=>⟨(hf a ha).1,λ z=>?_⟩,f5,by rw [eF,<- hlen];exact ec⟩
     ·exact KD.stays (M:=M.plus [D]) (σ:=σ) (ρ:=ρ1) ⟨f2.keep,f2.dom,f2.sub,f2.same⟩ r1 hvo2 tm λ a ha=>(hf a ha).2
     ·exact notZ f2 ha z
    | true=>
     rw [if_pos rfl] at ec ⊢;refine ⟨_,hP D,ρ3,fps3,r3,?_⟩;cases ee:elt ρ3 with
     | exc c=>rw [ee] at ec;cases ec
     | no=>rw [ee] at ec;cases ec
     | ok p=>
      obtain ⟨y,e,ρ4⟩:=p;rw [ee] at ec;intro w H4 fps4 fe k4 g4 r4 o4 t4;dsimp only at ec;by_cases hz:acc.length < va6
      ·rw [if_pos hz] at ec;obtain ⟨f1,f2,f3,f4,f5⟩:=far (k3.trans k4) (g3.trans g4) r4;have tm4:Tmps M.K H4 (Zv (M.plus [D]) vo (cut ρ.length fps4)) acc ys fpl:=KD.stays (M:=M.plus [D]) (σ:=σ) (ρ:=ρ1) ⟨f2.keep,f2.dom,f2.sub,f2.same⟩ r1 hvo2 tm λ a ha=>(hf a ha).2;have zD:Zv (M.plus [D]) vo (cut ρ.length fps4) D:=.inl (.inr (by simp));have hDe:D∉fe:=λ z=>t4.ndj D z (.inl (.inr (by simp)));have hDl:D∉fpl:=λ z=>(hf D z).2 (.inl (.inr (by simp)));have oy:Own M.K H4 (λ a=>Zv (M.plus [D]) vo (cut ρ.length fps4) a\/a∈fe) y e w fe:=o4.weak λ a h=>h.elim (λ h=>.inl (h.elim .inl λ ⟨j,nj,hx⟩=>.inr ⟨j,λ z=>nj (hvo j z (zzn hx).2),(zzn hx).1⟩)) .inr;have back3:∀ a,H3 a=none->H' a=none:=λ a e=>by
        cases e':H' a with
        | none=>rfl
        | some o=>exact absurd e (k3.dom a (by rw [e'];simp))
       have back1:∀ a,H' a=none->H a=none:=λ a e=>by
        cases e':H a with
        | none=>rfl
        | some o=>exact absurd e (k1.dom a (by rw [e'];simp))
       have kt:KD M H fps (upd H4 D (.lst (ys++[w]))) (cut ρ.length fps4):=⟨λ a o ha hn=>by rw [zqg (λ e=>by rw [e,hD] at ha;cases ha)];exact f1.keep a o ha hn,λ a ha=>by
        by_cases eb:a=D
        ·rw [eb,zqe];simp
        ·rw [zqg eb];exact f1.dom a ha,f1.sub,f1.same⟩
       refine ⟨f5,by rw [tm.length];exact hz,els.length - (i + 1),by omega,rfl,ρ4.take ρ.length,cut ρ.length fps4,acc++[(y,e)],fpl++fe,f4.touch f5,kt,f3,?_,λ a ha=>?_,zqe,by rw [eF,<- hlen];exact ec⟩
       ·exact (tm4.at zD ⟨.l ys,f5⟩ hDl).snoc (oy.at (.inl zD) ⟨.l ys,f5⟩ hDe λ _ _ n=>n) λ a ha hb=>by
         obtain ⟨xs,e⟩:=tm.lsts a ha;rw [back3 a (t4.new a hb)] at e;cases e
       ·rcases jd2.mp ha with z | z
        ·exact ⟨(hf a z).1,notZ f2 z⟩
        ·refine ⟨back1 a (back3 a (t4.new a z)),λ hz=>t4.ndj a z ?_⟩;rcases hz with hz | ⟨j,hz⟩
         ·exact .inl hz
         ·exact .inr ⟨j,(zzn hz).1⟩
      ·rw [if_neg hz] at ec;cases ec
 ·left
  have ed:els.drop i=[]:=jm2 (by omega);rw [ed] at ec;rw [<- ec] at q;unfold zwx at q;exact ⟨hst hD k1 (by omega),q D ys H1 fps1 fpl k1 g1 r1 hD h1D tm hf⟩
end
section
variable {M:Fm}{ρ ρ':Rho}{σ σ':St}{H H' H'':Hp}{fps fps' fps'':Fps}{vs vs':List Nat}
def zzr:List (PV×Nat)->Bool
 | []=>true
 | p::r=>(p.2 == om) && zzr r
theorem zzz:∀ {xs:List (PV×Nat)},zzr xs=true->∀ p∈xs,p.2=om
 | [],_,_,h=>nomatch h
 | p::r,h,q,hq=>by
  unfold zzr at h;rw [ja4] at h;rcases jb6.mp hq with e | e
  ·rw [e];exact eq_of_beq h.1
  ·exact zzz h.2 q e
def zvg (acc:List (PV×Nat)) (ρ:Rho):Rz (PV×Nat×Rho):=.ok (.lst (acc.map (·.1)),if zzr acc then om else 1,ρ)
def zxy (f:Fx) (k:Nat) (asg:PV->Rho->Option Rho) (test:Fb) (elt:Fx):Fx:=λ ρ=>match f ρ with
 | .ok (.lst xs,_,ρ1)=>(zwx k asg test elt xs ρ1 []).bindN λ (acc,ρ2)=>zvg acc ρ2
 | .ok (.tup xs,_,ρ1)=>(zwx k asg test elt xs ρ1 []).bindN λ (acc,ρ2)=>zvg acc ρ2
 | .ok (.str z,_,ρ1)=>if qbl z=true then (zwx k asg test elt (zjc z) ρ1 []).bindN λ (acc,ρ2)=>zvg acc ρ2 else .no
 | .ok _=>.no
 | .exc c=>.exc c
 | .no=>.no
def zxg (en:List (PV×Nat)->Option (Int×Int)) (fa:Fa) (k:Nat) (asg:PV->Rho->Option Rho) (test:Fb) (elt:Fx):Fx:=λ ρ=>match fa ρ with
 | .ok (xs,ρ1)=>(match en xs with
  | some (i,j)=>(zwx k asg test elt (zzv i (j - i).toNat) ρ1 []).bindN λ (acc,ρ2)=>zvg acc ρ2
  | none=>.no)
 | .exc c=>.exc c
 | .no=>.no
theorem qbh {D:Addr}{acc:List (PV×Nat)}{ws:List V}{fpl:List Addr}{vo:List Nat}{Q:VK}{H0:Hp}{fps0:Fps}{ρ0:Rho}
  (rep0:Rep M ρ σ H fps) (k0:KD M H0 fps0 H fps) (g0:Agr M ρ0 ρ) (q:∀ v H' fps' fp,KD M H0 fps0 H' fps'->Agr M ρ0 ρ'->Rep M ρ' σ H' fps'->Own M.K H' (Zt M vo fps' fp) (.lst (acc.map (·.1))) (if zzr acc then om else 1) v fp->Temp M vo H0 H' fps' fp->Q v H')
  (k:KD M H fps H' fps') (g:Agr M ρ ρ') (r:Rep (M.plus [D]) ρ' σ H' fps') (hD:H D=none) (hD':H' D=some (.lst ws)) (tm:Tmps M.K H' (Zv (M.plus [D]) vo fps') acc ws fpl) (hf:∀ a∈fpl,H a=none/\¬ Zf (M.plus [D]) fps' a):Q (.ref D) H':=by
 have back:∀ a,H a=none->H0 a=none:=λ a e=>by
  cases e':H0 a with
  | none=>rfl
  | some o=>exact absurd e (k0.dom a (by rw [e'];simp))
 have nD:¬ Zf M fps' D:=λ z=>by
  rcases z with z | ⟨j,z⟩
  ·exact rep0.zd D z hD
  ·exact r.zo j D z (.inr (by simp))
 have hDl:D∉fpl:=λ z=>(hf D z).2 (.inl (.inr (by simp)));have zt:∀ a,Zt M vo fps' [D] a->Zv (M.plus [D]) vo fps' a:=λ a h=>h.elim (λ h=>h.elim (λ h=>.inl (.inl h)) .inr) λ h=>.inl (.inr h);cases ho:zzr acc with
 | true=>
  rw [ho] at q;refine q (.ref D) H' fps' (D::fpl) (k0.trans k) (g0.trans g) r.minus ?_ ⟨λ a ha=>?_,λ a ha=>?_⟩
  ·rw [Own];exact ⟨D,ws,rfl,.inr ⟨(by decide),fpl,hD',rfl,hDl,OwnL.full _ ws fpl (tm.all (zzz ho))⟩⟩
  ·rcases jb6.mp ha with z | z
   ·rw [z];exact back D hD
   ·exact back a (hf a z).1
  ·rcases jb6.mp ha with z | z
   ·rw [z];exact nD
   ·exact λ y=>(hf a z).2 (y.elim (λ y=>.inl (.inl y)) .inr)
 | false=>
  rw [ho] at q;refine q (.ref D) H' fps' [D] (k0.trans k) (g0.trans g) r.minus ?_ ⟨λ a ha=>?_,λ a ha=>?_⟩
  ·show Own M.K H' (Zt M vo fps' [D]) (.lst (acc.map (·.1))) 1 (.ref D) [D];rw [Own];refine ⟨D,ws,rfl,.inr ⟨(by decide),[],hD',rfl,(λ z=>nomatch z),?_⟩⟩;rw [zbk];exact (tm.cold λ a ha z=>(hf a ha).2 z.zf).weak zt
  ·rw [jb4.mp ha];exact back D hD
  ·rw [jb4.mp ha];exact nD
theorem qf3 {g:TG}{is vI vE vo:List Nat}{asg:PV->Rho->Option Rho}{test:Fb}{elt f:Fx}{k n:Nat}{Q:VK}{P:Fm->Prop}
  (hn:σ.length=n) (hP:∀ D,P (M.comp D n vI)) (hal:∀ i,∀ j∈M.al i,M.Ms j=false) (hvI:∀ i∈vI,M.Ms i=false) (hvE:∀ i∈vE,M.Ms i=false) (his:∀ i∈is,n<=i) (hg:∀ D,GOk (M.comp D n vI) vI is g asg)
  (hvo:∀ i,i∈vE->i < n->i∈vo) (hvo2:∀ i∈vo,M.Ms i=false) (hq:tE M (zxy f k asg test elt) vo σ H Q):
  qbr k (iSeq M.K (tE M f vI)) g (λ σ H Q=>∃ M',P M'/\tT M' test σ H Q) (λ σ H Q=>∃ M',P M'/\tE M' elt vE σ H Q) σ H Q:=by
 obtain ⟨ρ,fps,rep,q⟩:=hq;refine ⟨ρ,fps,rep,?_⟩;unfold zxy at q;cases ef:f ρ with
 | no=>rw [ef] at q;exact q
 | exc c=>rw [ef] at q;exact q
 | ok p=>
  obtain ⟨x,d,ρ1⟩:=p;rw [ef] at q;intro v H1 fps1 f1 k1 g1 rep1 o1 t1;have o0:Own M.K H1 (Zv M vI fps1) x 0 v []:=Own.freeze (λ _ z=>.inl z) x d v f1 (λ a ha z=>t1.ndj a ha z.zf) o1;have hl:n=ρ1.length:=by rw [rep1.len];exact hn.symm
  have fin:∀ (els:List PV),(match (zwx k asg test elt els ρ1 []).bindN λ (acc,ρ2)=>zvg acc ρ2 with
    | .ok (x,d,ρ')=>∀ v H' fps' fp,KD M H fps H' fps'->Agr M ρ ρ'->Rep M ρ' σ H' fps'->Own M.K H' (Zt M vo fps' fp) x d v fp->Temp M vo H H' fps' fp->Q v H'
    | .exc c=>∀ H' fps',KD M H fps H' fps'->M.W σ c H'
    | .no=>False)->(match zwx k asg test elt els ρ1 [] with
    | .ok (acc,ρ')=>∀ D ws H' fps' fpl,KD M H1 fps1 H' fps'->Agr M ρ1 ρ'->Rep (M.plus [D]) ρ' σ H' fps'->H1 D=none->H' D=some (.lst ws)->Tmps M.K H' (Zv (M.plus [D]) vo fps') acc ws fpl->(∀ a∈fpl,H1 a=none/\¬ Zf (M.plus [D]) fps' a)->Q (.ref D) H'
    | _=>False):=λ els q=>by
   cases ec:zwx k asg test elt els ρ1 [] with
   | no=>rw [ec] at q;exact q.elim
   | exc c=>rw [ec] at q;exact q.elim
   | ok p=>
    obtain ⟨acc,ρ2⟩:=p;rw [ec] at q;exact λ D ws H' fps' fpl k g r hD hD' tm hf=>qbh rep1 k1 g1 q k g r hD hD' tm hf
  cases x with
  | lst xs=>
   have one:∀ {Z:Addr->Prop}{H:Hp},Own M.K H Z (.lst xs) 0 v []->∃ a ws,v=.ref a/\SqL M.K H a ws/\OwnL M.K H Z xs 0 ws []:=λ o=>by
    rw [Own] at o;obtain ⟨b,ws,e,⟨_,hr,_,ol⟩ | ⟨h,_⟩⟩:=o
    ·exact ⟨b,ws,e,.inl (.inl hr.1),ol⟩
    ·exact absurd rfl h
   obtain ⟨a,ws,rfl,sq,ol⟩:=one o0;refine .inl ⟨a,rfl,.inl ⟨⟨ws,sq⟩,?_⟩⟩;refine zyv (els:=xs) hP hl hal hvI hvE his hg hvo hvo2 rep1 (λ {D H' fps' i} hD k' h=>?_) (λ {D H' fps' i} hD k' h=>?_) (λ {D H' fps' i x H''} hD k' h y=>?_) (fin xs q)
   ·obtain ⟨a',ws,e,s,ol⟩:=one (KD.seen rep1 k' hD hvI o0);cases e;exact ⟨ws,ws[i]'(by rw [ol.length];exact h),s,by simp⟩
   ·obtain ⟨a',ws,e,s,ol⟩:=one (KD.seen rep1 k' hD hvI o0);cases e;exact ⟨ws,s,by rw [ol.length];exact h⟩
   ·obtain ⟨a',ws,e,s,ol⟩:=one (KD.seen rep1 k' hD hvI o0);cases e;obtain ⟨e1,e2⟩:=y;subst e1;exact ⟨λ _ _ h=>h,ol.get (e2 ws s)⟩
  | tup xs=>
   have one:∀ {Z:Addr->Prop}{H:Hp},Own M.K H Z (.tup xs) 0 v []->∃ a ws,v=.ref a/\SqT M.K H a ws/\OwnL M.K H Z xs 0 ws []:=λ o=>by
    rw [Own] at o;obtain ⟨a,ws,e,hr,ol⟩:=o;exact ⟨a,ws,e,.inl (.inl hr),ol⟩
   obtain ⟨a,ws,rfl,sq,ol⟩:=one o0;refine .inl ⟨a,rfl,.inr ⟨⟨ws,sq⟩,?_⟩⟩;refine zyv (els:=xs) hP hl hal hvI hvE his hg hvo hvo2 rep1 (λ {D H' fps' i} hD k' h=>?_) (λ {D H' fps' i} hD k' h=>?_) (λ {D H' fps' i x H''} hD k' h y=>?_) (fin xs q)
   ·obtain ⟨a',ws,e,s,ol⟩:=one (KD.seen rep1 k' hD hvI o0);cases e;exact ⟨ws,ws[i]'(by rw [ol.length];exact h),s,by simp⟩
   ·obtain ⟨a',ws,e,s,ol⟩:=one (KD.seen rep1 k' hD hvI o0);cases e;exact ⟨ws,s,by rw [ol.length];exact h⟩
   ·obtain ⟨a',ws,e,s,ol⟩:=one (KD.seen rep1 k' hD hvI o0);cases e;obtain ⟨e1,e2⟩:=y;subst e1;exact ⟨λ _ _ h=>h,ol.get (e2 ws s)⟩
  | str z=>
   have o0':=o0;rw [Own] at o0';obtain ⟨rfl,_⟩:=o0';dsimp only at q;by_cases ha:qbl z=true
   ·rw [if_pos ha] at q;refine .inr ⟨z,rfl,ha,?_⟩;have hl':(zjc z).length=z.cps.size:=by unfold zjc;rw [ja3,jf0]
    refine zyv (els:=zjc z) hP hl hal hvI hvE his hg hvo hvo2 rep1 (λ {D H' fps' i} hD k' h=>?_) (λ {D H' fps' i} hD k' h=>?_) (λ {D H' fps' i x H''} hD k' h y=>?_) (fin (zjc z) q)
    ·show i < z.cps.size;omega
    ·show z.cps.size<=i;omega
    ·obtain ⟨rfl,c,hc,rfl⟩:=y;refine ⟨λ _ _ h=>h,.str ⟨#[c]⟩,?_,by rw [Own];exact ⟨rfl,rfl⟩⟩;unfold zjc;rw [jc7,jh5,hc];rfl
   ·rw [if_neg ha] at q;exact q.elim
  | _=>exact q.elim
theorem zbu {g:TG}{is vI vE vo:List Nat}{asg:PV->Rho->Option Rho}{test:Fb}{elt:Fx}{k n:Nat}{Q:VK}{P:Fm->Prop}{lo:Int}{m:Nat}{H0:Hp}{fps0:Fps}{ρ0:Rho}
  (hn:σ.length=n) (hP:∀ D,P (M.comp D n vI)) (hal:∀ i,∀ j∈M.al i,M.Ms j=false) (hvI:∀ i∈vI,M.Ms i=false) (hvE:∀ i∈vE,M.Ms i=false) (his:∀ i∈is,n<=i) (hg:∀ D,GOk (M.comp D n vI) vI is g asg)
  (hvo:∀ i,i∈vE->i < n->i∈vo) (hvo2:∀ i∈vo,M.Ms i=false) (k0:KD M H0 fps0 H fps) (g0:Agr M ρ0 ρ) (rep:Rep M ρ σ H fps)
  (q:match (zwx k asg test elt (zzv lo m) ρ []).bindN λ (acc,ρ2)=>zvg acc ρ2 with
    | .ok (x,d,ρ')=>∀ v H' fps' fp,KD M H0 fps0 H' fps'->Agr M ρ0 ρ'->Rep M ρ' σ H' fps'->Own M.K H' (Zt M vo fps' fp) x d v fp->Temp M vo H0 H' fps' fp->Q v H'
    | .exc c=>∀ H' fps',KD M H0 fps0 H' fps'->M.W σ c H'
    | .no=>False):
  ∀ D,H D=none->∃ W:Nat->Nat->List V->Hp->Prop,(∃ m,W 0 m [] (upd H D (.lst [])))/\∀ i j ys H1,W i j ys H1->H1 D=some (.lst ys) /\
   (((Itr lo m).stop i H1/\Q (.ref D) H1)\/((Itr lo m).go i H1/\∀ x H',(Itr lo m).yld i H1 x H'->g x (σ++ja2 k none) H' λ σ2 H2=>∃ M',P M'/\tT M' test σ2 H2 λ b H3=>if b=true then ∃ M',P M'/\tE M' elt vE σ2 H3 λ y H4=>H4 D=some (.lst ys)/\ys.length < va6/\∃ m',m' < j/\W (i + 1) m' (ys++[y]) (upd H4 D (.lst (ys++[y]))) else ∃ m',m' < j/\W (i + 1) m' ys H3)):=by
 have hl:n=ρ.length:=by rw [rep.len];exact hn.symm
 refine zyv (els:=zzv lo m) hP hl hal hvI hvE his hg hvo hvo2 rep (λ {D H' fps' i} hD k' h=>?_) (λ {D H' fps' i} hD k' h=>?_) (λ {D H' fps' i x H''} hD k' h y=>?_) ?_
 ·rw [zwl] at h;exact h
 ·rw [zwl] at h;exact h
 ·rw [zwl] at h;obtain ⟨e1,e2⟩:=y;subst e1;exact ⟨λ _ _ h=>h,.int (lo + i),by simp [zzv,h],by rw [e2,Own];exact ⟨rfl,rfl⟩⟩
 ·cases ec:zwx k asg test elt (zzv lo m) ρ [] with
  | no=>rw [ec] at q;exact q.elim
  | exc c=>rw [ec] at q;exact q.elim
  | ok p=>
   obtain ⟨acc,ρ2⟩:=p;rw [ec] at q;exact λ D ws H' fps' fpl k g r hD hD' tm hf=>qbh rep k0 g0 q k g r hD hD' tm hf
theorem qf5 {g:TG}{is vI vE vo:List Nat}{asg:PV->Rho->Option Rho}{test:Fb}{elt:Fx}{fa:Fa}{k n:Nat}{Q:VK}{P:Fm->Prop}
  (hn:σ.length=n) (hP:∀ D,P (M.comp D n vI)) (hal:∀ i,∀ j∈M.al i,M.Ms j=false) (hvI:∀ i∈vI,M.Ms i=false) (hvE:∀ i∈vE,M.Ms i=false) (his:∀ i∈is,n<=i) (hg:∀ D,GOk (M.comp D n vI) vI is g asg)
  (hvo:∀ i,i∈vE->i < n->i∈vo) (hvo2:∀ i∈vo,M.Ms i=false) (hq:tE M (zxg zqt fa k asg test elt) vo σ H Q):
  qbr k (qgw (tL M fa vs)) g (λ σ H Q=>∃ M',P M'/\tT M' test σ H Q) (λ σ H Q=>∃ M',P M'/\tE M' elt vE σ H Q) σ H Q:=by
 obtain ⟨ρ,fps,rep,q⟩:=hq;refine ⟨ρ,fps,rep,?_⟩;unfold zxg at q;cases ef:fa ρ with
 | no=>rw [ef] at q;exact q
 | exc c=>rw [ef] at q;exact q
 | ok p=>
  obtain ⟨xs,ρ1⟩:=p;rw [ef] at q;intro ws H1 fps1 f1 k1 g1 rep1 o1 t1;dsimp only at q;cases ee:zqt xs with
  | none=>rw [ee] at q;exact q.elim
  | some ij=>
   obtain ⟨i,j⟩:=ij;rw [ee] at q;unfold zqt at ee;split at ee
   ·rename_i j' d;split at ee
    ·rename_i hb;cases ee;obtain ⟨v,r,f1,f2,rfl,_,_,h1,h2⟩:=o1;obtain ⟨rfl,_⟩:=h2;rw [Own] at h1;obtain ⟨rfl,_⟩:=h1;refine ⟨j,rfl,hb.1,hb.2,?_⟩;have e:(j - 0).toNat=j.toNat:=by omega
     dsimp only at q;rw [e] at q;exact zbu hn hP hal hvI hvE his hg hvo hvo2 k1 g1 rep1 q
    ·cases ee
   ·cases ee
theorem qf4 {g:TG}{is vI vE vo:List Nat}{asg:PV->Rho->Option Rho}{test:Fb}{elt:Fx}{fa:Fa}{k n:Nat}{Q:VK}{P:Fm->Prop}
  (hn:σ.length=n) (hP:∀ D,P (M.comp D n vI)) (hal:∀ i,∀ j∈M.al i,M.Ms j=false) (hvI:∀ i∈vI,M.Ms i=false) (hvE:∀ i∈vE,M.Ms i=false) (his:∀ i∈is,n<=i) (hg:∀ D,GOk (M.comp D n vI) vI is g asg)
  (hvo:∀ i,i∈vE->i < n->i∈vo) (hvo2:∀ i∈vo,M.Ms i=false) (hq:tE M (zxg zkv fa k asg test elt) vo σ H Q):
  qbr k (qgv (tL M fa vs)) g (λ σ H Q=>∃ M',P M'/\tT M' test σ H Q) (λ σ H Q=>∃ M',P M'/\tE M' elt vE σ H Q) σ H Q:=by
 obtain ⟨ρ,fps,rep,q⟩:=hq;refine ⟨ρ,fps,rep,?_⟩;unfold zxg at q;cases ef:fa ρ with
 | no=>rw [ef] at q;exact q
 | exc c=>rw [ef] at q;exact q
 | ok p=>
  obtain ⟨xs,ρ1⟩:=p;rw [ef] at q;intro ws H1 fps1 f1 k1 g1 rep1 o1 t1;dsimp only at q;cases ee:zkv xs with
  | none=>rw [ee] at q;exact q.elim
  | some ij=>
   obtain ⟨i,j⟩:=ij;rw [ee] at q;unfold zkv at ee;split at ee
   ·rename_i i' d j' d';split at ee
    ·rename_i hb;cases ee;obtain ⟨v,r,f1,f2,rfl,_,_,h1,h2⟩:=o1;obtain ⟨v2,r2,f3,f4,rfl,_,_,h3,h4⟩:=h2;obtain ⟨rfl,_⟩:=h4;rw [Own] at h1 h3;obtain ⟨rfl,_⟩:=h1;obtain ⟨rfl,_⟩:=h3;exact ⟨i,j,rfl,hb,zbu hn hP hal hvI hvE his hg hvo hvo2 k1 g1 rep1 q⟩
    ·cases ee
   ·cases ee
end
def bmV:List va2:=[.type "ValueError",.type "Exception",.type "BaseException",.type "object"]
def isX (c d:Nat):Bool:=c == d || d == 0
structure XC (h:Heap) (K:Frag) (c:Nat) (C:Addr):Prop where
 obj:∃ bm N nm q bs hdct sn sub ab col dd k0 k1 k2 k3 k5 mN,h.get? C=some (excClassObj nm q C N bs bm hdct sn sub ab col dd k0 k1 k2 k3 k5 "ValueError.__new__")/\h.Ns N mN/\mN "__init__" = none/\OwnTail h bmV bm/\∀ d D,qfd K d=some D->(Value.ref C::bm).contains (.ref D)=isX c d
def XEof (W:Nat->Hp->Prop):XK:=λ v _ H'=>match v with
 | .int c _=>W c.toNat H'
 | _=>False
def CXr (P:vb0) (w:vb4) (K:Frag):CXT:=λ outer H s E e s'=>∃ (a C:Addr) (c:Nat) (H':Hp) (B:Heap) (a0:va2),e=.ref a/\qfd K c=some C/\s'.os=s.os/\vi3 s'.gens/\Un (frs outer) [] H H' s.heap s'.heap/\HOk P w H' s'.heap/\H' a=none/\s.heap.get? a=none /\
 Heap.FlyingW B outer a (.ref C) a0 s'.heap/\(∀ b o,s'.heap.get? b=some o->H' b≠none->B.get? b=some o)/\(∀ b o,s.heap.get? b=some o->H b=none->b∉frs outer->B.get? b=some o)/\(∀ b,H b≠none->H' b≠none)/\E (.int (c:Int) 0) none H'
theorem zpm {P:vb0}{w:vb4}{H:Hp}{h:Heap}{a:Addr}{o:HO} (x:zxc P w H h a o):∃ u,h.get? a=some u:=by
 cases o with
 | lst xs=>obtain ⟨_,_,_,_,e⟩:=x;exact ⟨_,e⟩
 | tup xs=>obtain ⟨_,_,_,o,e,_⟩:=x;exact ⟨_,e⟩
 | dK kvs=>obtain ⟨_,_,_,_,o,_,_,e,_⟩:=x;exact ⟨_,e⟩
 | dT kvs=>obtain ⟨_,_,_,_,o,_,_,e,_⟩:=x;exact ⟨_,e⟩
 | set S n=>obtain ⟨o,_,_,_,e,_⟩:=x;exact ⟨_,e⟩
 | ins C dx fs=>obtain ⟨_,_,_,e,_⟩:=x;exact ⟨_,e⟩
 | own y=>exact x
 | xd fs=>obtain ⟨_,⟨_,_,_,e,_⟩,_⟩:=x;exact ⟨_,e⟩
 | rng lo hi=>obtain ⟨_,_,_,e⟩:=x;exact ⟨_,e⟩
 | frz ob u=>obtain ⟨e,_⟩:=x;exact ⟨_,e⟩
 | tbl ps=>exact ⟨_,(show h.get? a=some _ from x)⟩
 | met f y=>exact ⟨_,(show h.get? a=some _ from x)⟩
 | ext φ=>exact x.2.1
section
variable {X:Cx}{pins:List (Addr×Obj)}{σ:St}{H H1:Hp}{s s2:va4}{h1 B:Heap}{a C:Addr}{a0:va2}{c:Nat}{E:XK}{P:vb0}{w:vb4}{K:Frag}
theorem qbd (I:L2.Inv X pins σ H s) (hex:X.ex=[]) (u:Un (frs X.stack) [] H H1 s.heap h1) (hok:HOk X.prog X.w H1 h1) (fl:Heap.FlyingW B X.outer a (.ref C) a0 s2.heap) (up:h1.UpToSlots s2.heap)
  (i1:∀ b o,h1.get? b=some o->H1 b≠none->B.get? b=some o) (i2:∀ b o,s.heap.get? b=some o->H b=none->b∉frs X.stack->B.get? b=some o) (ha:H1 a=none) (hn:s.heap.get? a=none)
  (hE:E (.int (c:Int) 0) none H1) (hd:∀ b,X.H₀ b≠none->H1 b≠none) (hc:qfd X.K c=some C) (ho:s2.os=s.os) (hg:vi3 s2.gens):CXr X.prog X.w X.K X.outer X.H₀ X.s₀ E (.ref a) s2:=by
 have nx:∀ b:Addr,b∉X.ex:=λ b z=>by rw [hex] at z;cases z
 have key:∀ b o,X.s₀.heap.get? b=some o->X.H₀ b=none->b∉frs X.outer->B.get? b=some o:=λ b o e n hb=>by
  refine i2 b o (I.base.keep b o e n hb (nx b)) (I.base.free b o e n (nx b)) λ z=>?_;rcases jb6.mp (I.stkSub b z) with z | z
  ·exact absurd (jb3 (va5 e) I.ok.above) (by rw [z];exact jd6 _)
  ·exact hb z
 have fr:∀ b o,X.s₀.heap.get? b=some o->X.H₀ b=none->b∈frs X.outer->∃ sl,s2.heap.get? b=some { o with slots:=sl }:=λ b o e n hb=>by
  obtain ⟨sl,e1⟩:=I.base.slot b o e n hb (nx b);obtain ⟨sl',e2⟩:=u.any e1 (I.base.free b o e n (nx b)) (by simp);obtain ⟨_,o',ho',hnf⟩:=I.ok.funs.mem hb;rw [e] at ho';cases ho';obtain ⟨sl2,e3⟩:=up b _ e2 hnf;exact ⟨sl2,e3⟩
 have trk:∀ b v,H1 b≠none->h1.get? b=some v->s2.heap.get? b=some v:=λ b v hb e=>fl.1 b v (i1 b v e hb);have un:Un (frs X.outer) [] X.H₀ H1 X.s₀.heap s2.heap:=by
  refine ⟨λ b o e n hb _=>fl.1 b o (key b o e n hb),λ b o e n hb _=>fr b o e n hb,λ b o e n _=>?_,λ b o e _=>?_,λ b xs e=>u.tups b xs (I.base.tups b xs e),λ b o xs e=>u.frzs b o xs (I.base.frzs b o xs e),λ b ps e=>?_⟩
  ·obtain ⟨o',e'⟩:=I.base.there b o e (nx b);exact u.free b o' e' (I.base.free b o e n (nx b)) (by simp)
  ·by_cases h0:X.H₀ b=none
   ·by_cases hb:b∈frs X.outer
    ·obtain ⟨sl,e2⟩:=fr b o e h0 hb;exact ⟨_,e2⟩
    ·exact ⟨o,fl.1 b o (key b o e h0 hb)⟩
   ·obtain ⟨o',e'⟩:=I.base.there b o e (nx b);obtain ⟨o2,e2⟩:=u.there b o' e' (by simp);exact ⟨o2,trk b o2 (hd b h0) e2⟩
  ·obtain ⟨m1,e1⟩:=I.base.tbls b ps e;obtain ⟨m2,e2⟩:=u.tbls b _ e1;exact ⟨m1++m2,by rw [e2,jn4]⟩
 refine ⟨a,C,c,H1,B,a0,rfl,hc,ho.trans I.os,hg,un,λ b o e=>?_,ha,?_,fl,λ b o e hb=>?_,key,hd,hE⟩
 ·refine (hok b o e).stay (λ d v hd q=>trk d v ?_ q) (λ _ q=>q) λ _ _ q=>q;rcases hd with rfl | hd
  ·rw [e];simp
  ·rw [hd];simp
 ·cases q:X.s₀.heap.get? a with
  | none=>rfl
  | some o=>
   obtain ⟨o',e'⟩:=I.base.there a o q (nx a);rw [hn] at e';cases e'
 ·cases q:H1 b with
  | none=>exact absurd q hb
  | some o1=>
   obtain ⟨v,hv⟩:=zpm (hok b o1 q);have e2:=trk b v hb hv;rw [e] at e2;cases e2;exact i1 b o hv hb
end
def zmg (CX:CXT) (X:Cx) (W:St->Nat->Hp->Prop):Prop:=∀ (pins:List (Addr×Obj)) (σ:St) (H:Hp) (s:va4) (e:va2) (s':va4),L2.Inv X pins σ H s->CX X.stack H s (XEof (W σ)) e s'->X.xe e s'
def qfs (X:Cx) (W:St->Nat->Hp->Prop):Prop:=∀ (pins:List (Addr×Obj)) (σ:St) (H:Hp) (s:va4) (c:Nat) (C a:Addr) (h':Heap) (args:List va2),L2.Inv X pins σ H s->qfd X.K c=some C->Heap.MadeExcOf s.heap h' a (.ref C) args->W σ c H->X.xe (.ref a) { s with heap:=h' }
abbrev W0:St->Nat->Hp->Prop:=λ _ _ _=>False
theorem qnl {P:vb0}{w:vb4}{K:Frag}{X:Cx}:zmg (CXr P w K) X W0:=λ _ _ _ _ _ _ _ h=>by
 obtain ⟨a,C,c,H',B,a0,_,_,_,_,_,_,_,_,_,_,_,_,hE⟩:=h;exact ve8 hE
def WE (E:XK) (H:Hp):St->Nat->Hp->Prop:=λ _ c H'=>E (.int (c:Int) 0) none H'/\∀ b,H b≠none->H' b≠none
section
variable {P:vb0}{w:vb4}{K:Frag}{mg:Str->Option va2}{base:Heap}{N:List Str}{qual:Str}{scope:vd1}{f:Addr}{cd:va2}{A:vc0}{outer:List Env}{s:va4}{H:Hp}{E:XK}
theorem qgk:zmg (CXr P w K) (cxOf (CXr P w K) P w K mg base N qual scope f cd A outer s H E) (WE E H):=by
 intro pins σ H1 s1 e s' I h;obtain ⟨a,C,c,H',B,a0,rfl,hc,ho,hg,un,hok,ha,hn,fl,i1,i2,hd,hE⟩:=h;have hE':WE E H σ c H':=hE;refine wpAny_leaves_onW (by exact I.ok.frames) rfl fl λ h2 f2 up=>?_;exact qbd (s2:={ s' with heap:=h2 }) I rfl un hok f2 up i1 i2 ha hn hE'.1 hE'.2 hc ho hg
theorem qda:qfs (cxOf (CXr P w K) P w K mg base N qual scope f cd A outer s H E) (WE E H):=by
 intro pins σ H1 s1 c C a h' args I hc hx hW;have hin:∀ env∈(cxOf (CXr P w K) P w K mg base N qual scope f cd A outer s H E).stack,∀ b,env.frame=some b->b∈frs (cxOf (CXr P w K) P w K mg base N qual scope f cd A outer s H E).stack:=λ env he b hb=>jl0.mpr ⟨env,he,hb⟩;have trk:∀ b,H1 b≠none->∃ o,s1.heap.get? b=some o:=λ b hb=>by
  cases q:H1 b with
  | none=>exact absurd q hb
  | some u=>exact zpm (I.hok b u q)
 have nfr:∀ b,H1 b≠none->b∉frs (cxOf (CXr P w K) P w K mg base N qual scope f cd A outer s H E).stack:=λ b hb z=>hb (I.stkFree b z);refine wpAny_leaves_madeW (base:=PySem.W.hideAll s1.heap (frs (cxOf (CXr P w K) P w K mg base N qual scope f cd A outer s H E).stack)) (h:=s1.heap) (by exact I.ok.frames) rfl (λ b o q=>PySem.W.of_hideAll _ q) (PySem.W.funFrames_hide I.stack hin) hx λ h2 t f2 _ _ up=>?_;refine qbd (s2:={ s1 with heap:=h2 }) I rfl (Un.kept hx.keeps) (I.hok.kept hx.keeps) f2 up (λ b o e hb=>?_) (λ b o e _ hb=>vj8 _ e hb) ?_ hx.new hW.1 hW.2 hc rfl I.bare
 ·obtain ⟨o1,e1⟩:=trk b hb;have e2:=hx.keeps b o1 e1;rw [e] at e2;cases e2;exact vj8 _ e1 (nfr b hb)
 ·cases q:H1 a with
  | none=>rfl
  | some u=>
   obtain ⟨o,e⟩:=zpm (I.hok a u q);rw [hx.new] at e;cases e
theorem qj8:vn1 (vb2 P w) (cxOf (CXr P w K) P w K mg base N qual scope f cd A outer s H E).A (cxOf (CXr P w K) P w K mg base N qual scope f cd A outer s H E).env (cxOf (CXr P w K) P w K mg base N qual scope f cd A outer s H E).xe:=PassesOwn.leaving
end
section
variable {X:Cx}{CX:CXT}{k:Nat}{f:Addr}{fd:vc5}{ps:List Str}{sp:Sp}{x:Str}{p pos:Pos}{e:Expr}{es:List Expr}{t:TA}{W:St->Nat->Hp->Prop}
def qht (sp:Sp) (W:St->Nat->Hp->Prop) (t:TA):TE:=λ σ H Q=>t σ H λ vs H1=>sp vs H1 Q (XEof (W σ))
theorem qgj (F:FnOk X.prog X.w X.K X.mg X.base CX k f fd ps sp) (hr:Room k X.A) (hg:Gl X x) (hm:X.mg x=some (.ref f)) (hk:ve2 X.K (.ref f)=true) (hb:zgh X.K fd ps []) (hx:zmg CX X W) (ha:PA X (e::es) t) (hdb:(x == ("__debug__" : Str))=false)
  (he:va9 (e::es) X.env=(false,eval e X.env)::va9 es X.env) (hpl:(vg0 pos (va9 es X.env)).any (·.1)=false):PE X (.Call (.Name x p) (e::es) [] pos) (qht sp W t):=by
 intro pins s σ H Q I h;refine vg5 (qkm I hg hm ?_ hdb);refine PySem.W.callWith_K (h₀:=X.base) I.ok.mod.kin hk (thn (ha pos pins s σ H _ I h) λ us s1 ⟨vs,H1,I1,r,q⟩=>⟨I1.kIn,?_⟩) he hpl;have q':sp vs H1 Q (XEof (W σ)):=q;have hl:(us++[]).length=ps.length:=by rw [jh3,<- r.length];exact F.len _ _ _ _ q'
 have hbd:=hb s1 us I1.kIn hl;rw [jh3] at hbd;refine wpAny_call (codeAny_mono (F.run X.A X.stack s1 H1 ⟨us,[]⟩ us vs Q (XEof (W σ)) hr I1.env0 hbd r q') λ r s' hq=>?_);cases r with
 | error e=>exact hx pins σ H1 s1 e s' I1 hq
 | ok fl=>
  cases fl with
  | ret u=>exact I1.after hq
  | next=>exact ve8 hq
  | brk=>exact ve8 hq
  | cont=>exact ve8 hq
end
def zzo (cells:List (Str×Addr)):List (Str×vc8)->List (Str×Addr)->List (Str×Addr)
 | [],cs=>cs
 | (n,k)::r,cs=>if k == .free then zzo cells r ((n,(cells.lookup n).getD 0)::cs) else zzo cells r cs
theorem zkd {scope:vd1}{env:Env} (h:∀ x∈scope.names,x.2=.free->∃ c,env.cells.lookup x.1=some c):closureFor scope env=pure (zzo env.cells scope.names []):=by
 unfold closureFor;have all:∀ (l:List (Str×vc8)) (cs:List (Str×Addr)),(∀ x∈l,x.2=.free->∃ c,env.cells.lookup x.1=some c) ->
   (forIn l cs λ (x:Str×vc8) (cs:List (Str×Addr))=>if (x.2 == NameKind.free)=true then (do let a<-cellOf env x.1;pure (ForInStep.yield ((x.1,a)::cs))) else pure (ForInStep.yield cs):Sem (List (Str×Addr)))=pure (zzo env.cells l cs):=by
  intro l;induction l with
  | nil=>intro cs _;rfl
  | cons x r ih=>
   intro cs hl;obtain ⟨n,k⟩:=x;rw [jp4];have ih':=λ cs=>ih cs λ y hy=>hl y (ja0 _ hy);by_cases hk:(k == NameKind.free)=true
   ·obtain ⟨c,hc⟩:=hl (n,k) ja1 (by simpa using hk);have e1:cellOf env n=pure c:=by unfold cellOf;rw [hc]
    rw [if_pos hk,e1];simp only [pure_bind];rw [ih',zzo,if_pos hk,hc];rfl
   ·rw [if_neg hk];simp only [pure_bind];rw [ih',zzo,if_neg hk]
 have:=all scope.names [] h
 simp only [bind_pure] at this ⊢;exact this
theorem zxb (cells:List (Str×Addr)) (x:Str) (c:Addr):∀ (l:List (Str×vc8)) (cs:List (Str×Addr)),(∀ y∈l,y.2=.free->∃ c,cells.lookup y.1=some c)->(cs.lookup x=some c->cells.lookup x=some c)->(zzo cells l cs).lookup x=some c->cells.lookup x=some c
 | [],cs,_,h,e=>h e
 | (n,k)::r,cs,hl,h,e=>by
  unfold zzo at e;split at e
  ·rename_i hk;refine zxb cells x c r _ (λ y hy=>hl y (ja0 _ hy)) (λ e'=>?_) e;rw [jd9] at e';split at e'
   ·rename_i hx;obtain ⟨c',hc⟩:=hl (n,k) ja1 (by simpa using hk);rw [hc] at e';cases e';rw [eq_of_beq hx];exact hc
   ·exact h e'
  ·exact zxb cells x c r cs (λ y hy=>hl y (ja0 _ hy)) h e
theorem zky (cells:List (Str×Addr)) (x:Str):∀ (l:List (Str×vc8)) (cs:List (Str×Addr)),(∃ c,cs.lookup x=some c)->∃ c,(zzo cells l cs).lookup x=some c
 | [],cs,h=>h
 | (n,k)::r,cs,h=>by
  unfold zzo;split
  ·refine zky cells x r _ ?_;rw [jd9];split
   ·exact ⟨_,rfl⟩
   ·exact h
  ·exact zky cells x r cs h
theorem zjy (cells:List (Str×Addr)) (x:Str):∀ (l:List (Str×vc8)) (cs:List (Str×Addr)),(x,NameKind.free)∈l->∃ c,(zzo cells l cs).lookup x=some c
 | [],_,h=>nomatch h
 | (n,k)::r,cs,h=>by
  unfold zzo;rcases jb6.mp h with e | e
  ·cases e;rw [if_pos (show (NameKind.free == NameKind.free)=true by decide)];exact zky cells x r _ ⟨_,by rw [jd9,beq_self_eq_true]⟩
  ·split
   ·exact zjy cells x r _ e
   ·exact zjy cells x r cs e
theorem zjz:∀ (names:List (Str×vc8)) (n:Nat) (acc:List (Str×Addr)) (x:Str) (c:Addr),(vb9 n names acc).lookup x=some c->acc.lookup x=some c\/(n<=c/\(x,NameKind.cell)∈names)
 | [],n,acc,x,c,h=>.inl h
 | (m,k)::r,n,acc,x,c,h=>by
  unfold vb9 at h;split at h
  ·rename_i hk;have hk':k=.cell:=by simpa using hk
   rcases zjz r _ _ x c h with z | ⟨z,y⟩
   ·rw [jd9] at z;split at z
    ·rename_i hx;cases z;exact .inr ⟨ja8 _,by rw [eq_of_beq hx,hk'];exact ja1⟩
    ·exact .inl z
   ·exact .inr ⟨jf6 z,ja0 _ y⟩
  ·rcases zjz r _ _ x c h with z | ⟨z,y⟩
   ·exact .inl z
   ·exact .inr ⟨z,ja0 _ y⟩
theorem zpz:∀ (names:List (Str×vc8)) (n:Nat) (acc:List (Str×Addr)) (x:Str),(x,NameKind.cell)∉names->(vb9 n names acc).lookup x=acc.lookup x
 | [],n,acc,x,h=>rfl
 | (m,k)::r,n,acc,x,h=>by
  unfold vb9;split
  ·rename_i hk;have hk':k=.cell:=by simpa using hk
   rw [zpz r _ _ x λ z=>h (ja0 _ z),jd9];split
   ·rename_i hx;exact absurd (by rw [eq_of_beq hx,hk'];exact ja1) h
   ·rfl
  ·exact zpz r _ _ x λ z=>h (ja0 _ z)
theorem qbi:∀ (names:List (Str×vc8)) (n:Nat) (acc:List (Str×Addr)) (x:Str),(x,NameKind.cell)∈names->∃ c,(vb9 n names acc).lookup x=some c/\n<=c
 | [],n,acc,x,h=>nomatch h
 | (m,k)::r,n,acc,x,h=>by
  by_cases hr:(x,NameKind.cell)∈r
  ·unfold vb9;split
   ·obtain ⟨c,e,l⟩:=qbi r (n + 1) ((m,n)::acc) x hr;exact ⟨c,e,jf6 l⟩
   ·exact qbi r n acc x hr
  ·rcases jb6.mp h with e | e
   ·cases e;unfold vb9;rw [if_pos (by decide),zpz r _ _ _ hr,jd9,beq_self_eq_true];exact ⟨n,rfl,ja8 _⟩
   ·exact absurd e hr
theorem qff:∀ (names:List (Str×vc8)) (n:Nat) (acc:List (Str×Addr)),(∀ x y c,acc.lookup x=some c->acc.lookup y=some c->x=y)->(∀ x c,acc.lookup x=some c->c < n)->∀ x y c,(vb9 n names acc).lookup x=some c->(vb9 n names acc).lookup y=some c->x=y
 | [],n,acc,hi,_,x,y,c,h1,h2=>hi x y c h1 h2
 | (m,k)::r,n,acc,hi,hl,x,y,c,h1,h2=>by
  unfold vb9 at h1 h2;split at h1
  ·rename_i hk;rw [if_pos hk] at h2;refine qff r (n + 1) ((m,n)::acc) (λ x y c h1 h2=>?_) (λ x c h=>?_) x y c h1 h2
   ·rw [jd9] at h1 h2;split at h1
    ·rename_i e1;cases h1;split at h2
     ·rename_i e2;rw [eq_of_beq e1,eq_of_beq e2]
     ·exact absurd (hl y _ h2) (jd6 _)
    ·split at h2
     ·cases h2;exact absurd (hl x _ h1) (jd6 _)
     ·exact hi x y c h1 h2
   ·rw [jd9] at h;split at h
    ·cases h;exact jg3 _
    ·exact jj1 (hl x c h)
  ·rename_i hk;rw [if_neg hk] at h2;exact qff r n acc hi hl x y c h1 h2
theorem zgu:∀ (names:List (Str×vc8)) (h:Heap) (acc:List (Str×Addr)) (x:Str) (c:Addr),(vb9 h.objs.size names acc).lookup x=some c->acc.lookup x=some c\/(pushCells h names).IsCell c none
 | [],h,acc,x,c,e=>.inl e
 | (m,k)::r,h,acc,x,c,e=>by
  unfold vb9 at e;unfold pushCells;split at e
  ·rename_i hk;rw [if_pos hk];have hs:(h.push { cls:=.type "cell",data:=.cell none }).objs.size=h.objs.size + 1:=vh3 ..;have e':(vb9 (h.push { cls:=.type "cell",data:=.cell none }).objs.size r ((m,h.objs.size)::acc)).lookup x=some c:=by rw [hs];exact e
   rcases zgu r _ _ x c e' with z | z
   ·rw [jd9] at z;split at z
    ·cases z;exact .inr ⟨_,vm2 _ _ _ _ (va7 _ rfl),rfl⟩
    ·exact .inl z
   ·exact .inr z
  ·rename_i hk;rw [if_neg hk];exact zgu r h acc x c e
theorem zfe {M:Model}{A:vc0}{E:va2->va4->Prop}{s:va4}{scope:vd1}{globals:Addr}{cl:List (Str×Addr)}{qual:Str}{func:Option Addr}{code:va2}{around:Env}{builtins:Addr}{Q:Env->va4->Prop}
  (hQ:Q (newEnv scope s.heap.objs.size globals (vb9 (s.heap.objs.size + 1) scope.names cl) qual func code (some around) builtins) { s with heap:=pushCells (s.heap.push { cls:=.type "dict",data:=.dict #[] }) scope.names }):
  vb1 M A (vn6 scope globals cl [] qual func code (some around) builtins) Q E s:=by
 simp only [vn6,jn7,if_true];refine va0 (wpAny_alloc ?_);refine va0 (wpAny_layCells _ (λ name kind cells=>by cases hkc:kind == NameKind.cell <;> simp [hkc]) _ _ _ _ ?_);rw [show ({ s with heap:=s.heap.push { cls:=.type "dict",data:=.dict #[] } }:va4).heap.objs.size=s.heap.objs.size + 1 from vh3 ..];exact va0 (va1 (va1 hQ))
def zfv (X:Cx) (scope:vd1) (C:Addr):List (Str×Addr):=vb9 (C + 1) scope.names (zzo X.env.cells scope.names [])
def zqo (X:Cx) (s2:va4) (H2:Hp) (scope:vd1) (C:Addr) (N':List Str) (fp:List Addr) (pins:List (Addr×Obj)):Cx:=
 { X with N:=N',s₀:=s2,H₀:=H2,env:=compEnvC scope (zfv X scope C) C X.env,outer:=X.stack,stack:=X.stack,ex:=fp,fn:=λ x=>scope.names.contains (x,NameKind.cell),pn:=X.pn++pins,xe:=λ _ _=>False }
structure CompOk (X:Cx) (scope:vd1) (N':List Str) (k:Nat):Prop where
 kind:scope.kind=.function
 dis:∀ x,(x,NameKind.free)∈scope.names->(x,NameKind.cell)∉scope.names
 names:∀ x∈scope.names,x.2=.local->scope.names.lookup x.1=some .local
 len:N'.length=X.N.length + k
 free:∀ x∈scope.names,x.2=.free->X.env.kindOf x.1=some .cell\/X.env.kindOf x.1=some .free
 kinds:∀ x,(vk5 scope X.env).names.lookup x=some .cell\/(vk5 scope X.env).names.lookup x=some .free->(x,NameKind.free)∈scope.names\/(x,NameKind.cell)∈scope.names
 capt:∀ (i:Nat) (x:Str),i < X.N.length->N'[i]?=some x->Vis (vk5 scope X.env) x->X.N[i]?=some x/\Vis X.env.scope x/\(x,NameKind.free)∈scope.names/\(vk5 scope X.env).names.lookup x≠some .local
section
variable {X:Cx}{scope:vd1}{N':List Str}{k:Nat}{pins:List (Addr×Obj)}{σ:St}{H2:Hp}{s2:va4}{fp:List Addr}{C:Addr}
theorem CompOk.cells (c:CompOk X scope N' k) (I:Inv X pins σ H2 s2):∀ x∈scope.names,x.2=.free->∃ a,X.env.cells.lookup x.1=some a:=λ x hx hf=>I.ok.has x.1 (c.free x hx hf)
theorem CompOk.cl (c:CompOk X scope N' k) (I:Inv X pins σ H2 s2) {x:Str}{a:Addr} (h:(zfv X scope C).lookup x=some a):X.env.cells.lookup x=some a\/(C + 1<=a/\(x,NameKind.cell)∈scope.names):=
 (zjz _ _ _ x a h).imp (λ z=>zxb _ x a _ [] (c.cells I) (λ z=>nomatch z) z) id
theorem CompOk.old (c:CompOk X scope N' k) (I:Inv X pins σ H2 s2) {x:Str}{a:Addr} (h:X.env.cells.lookup x=some a):a < s2.heap.objs.size:=by
 obtain ⟨v,o,ho,_⟩:=I.cell x a h;exact va5 ho
theorem CompOk.cap (c:CompOk X scope N' k) {x:Str} (h:(x,NameKind.free)∈scope.names):∃ a,(zfv X scope C).lookup x=some a/\(zzo X.env.cells scope.names []).lookup x=some a:=by
 obtain ⟨a,ha⟩:=zjy X.env.cells x scope.names [] h;exact ⟨a,(zpz _ _ _ x (c.dis x h)).trans ha,ha⟩
theorem CompOk.ok (c:CompOk X scope N' k) (I:Inv X pins σ H2 s2) (hf:∀ b∈fp,FpOk X pins H2 b) (hC:s2.heap.objs.size<=C) (hfp:∀ b∈fp,b < s2.heap.objs.size):(zqo X s2 H2 scope C N' fp pins).Ok where
 mod:=I.ok.mod
 kind:=c.kind
 glob:=I.ok.glob
 blt:=I.ok.blt
 above:=hC
 inj:=λ x y a h1 h2=>qff scope.names (C + 1) _ (λ x y a h1 h2=>I.ok.inj x y a (zxb _ x a _ [] (c.cells I) (λ z=>nomatch z) h1) (zxb _ y a _ [] (c.cells I) (λ z=>nomatch z) h2))
  (λ x a h=>jj1 (jb3 (c.old I (zxb _ x a _ [] (c.cells I) (λ z=>nomatch z) h)) hC)) x y a h1 h2
 has:=λ x hx=>(c.kinds x hx).elim (λ z=>let ⟨a,h,_⟩:=c.cap (C:=C) z;⟨a,h⟩) λ z=>let ⟨a,h,_⟩:=qbi scope.names (C + 1) (zzo X.env.cells scope.names []) x z;⟨a,h⟩
 cab:=λ x a h e=>by
  have hx:(x,NameKind.cell)∈scope.names:=by
   have h':scope.names.contains (x,NameKind.cell)=true:=h;simpa using h'
  obtain ⟨a',e',l⟩:=qbi scope.names (C + 1) (zzo X.env.cells scope.names []) x hx;have e2:(vb9 (C + 1) scope.names (zzo X.env.cells scope.names [])).lookup x=some a:=e;rw [e'] at e2;cases e2;exact jd1 hC (jf6 l)
 hd:=I.ok.hd
 frames:=I.ok.frames
 stk:=.inl rfl
 exf:=λ b hb=>⟨jc9 (jb3 (hfp b hb) hC),λ x a h=>(c.cl I h).elim (λ z=>(hf b hb).2.2.2.2.1 x a z) λ z=>jg0 (jb3 (hfp b hb) (jd1 hC (jf6 z.1)))⟩
 bs:=I.bs
 bsz:=jd1 I.ok.bsz I.sz
 noex:=λ b o e hb=>by
  rcases (hf b hb).2.2.2.1 with z | z
  ·exact I.ok.noex b o e z
  ·exact absurd (jb3 (va5 e) (jd1 I.ok.bsz z)) (jd6 _)
 exfs:=λ b hb hz=>by
  rcases jb6.mp (I.stkSub b hz) with z | z
  ·exact (hf b hb).2.1 z
  ·exact (hf b hb).2.2.1 z
 funs:=I.stack
 frf:=I.stkFree
theorem CompOk.inv (c:CompOk X scope N' k) (I:Inv X pins σ H2 s2) (hf:∀ b∈fp,FpOk X pins H2 b) (hfp:∀ b∈fp,b < s2.heap.objs.size) {H3:Hp}{h':Heap}{t':Nat}{m:Str->Option va2}{D:Addr} (hCD:D≠C) (hD:s2.heap.objs.size<=D) (hC:s2.heap.objs.size<=C)
  (keep:∀ b o,s2.heap.get? b=some o->h'.get? b=some o) (ns:h'.Ns C m) (hH:∀ b,b≠D->H3 b=H2 b) (hok:HOk X.prog X.w H3 h') (hC3:H3 C=none) (hDC:D < C) (hcN:∀ x a,(zfv X scope C).lookup x=some a->C + 1<=a->h'.IsCell a none):
  Inv (zqo X s2 H2 scope C N' fp pins) [] (σ++ja2 k none) H3 { s2 with heap:=h',toks:=t' } where
 ok:=c.ok I hf hC hfp
 os:=rfl
 bare:=I.bare
 base:=by
  have nD:∀ b o,s2.heap.get? b=some o->b≠D:=λ b o e=>jc9 (jb3 (va5 e) hD);refine ⟨λ b o e _ _ _=>keep b o e,λ b o e _ _ _=>⟨o.slots,keep b o e⟩,λ b o e n _=>by rw [hH b (nD b o e)];exact n,λ b o e _=>⟨o,keep b o e⟩,λ b xs e=>?_,λ b o u e=>?_,λ b ps e=>⟨#[],?_⟩⟩
  ·have e:H2 b=some (.tup xs):=e;rw [hH b (λ z=>by rw [z,I.hok.fresh hD] at e;cases e)];exact e
  ·have e:H2 b=some (.frz o u):=e;rw [hH b (λ z=>by rw [z,I.hok.fresh hD] at e;cases e)];exact e
  ·have e:H2 b=some (.tbl ps):=e;rw [hH b (λ z=>by rw [z,I.hok.fresh hD] at e;cases e)];simpa using e
 loc:=by
  refine ⟨m,ns,λ i x v e1 e2 e3=>?_⟩;have hi:i < σ.length:=by
   by_cases hi:i < σ.length
   ·exact hi
   ·rw [jd3 (by omega),jc8] at e2;split at e2 <;> cases e2
  rw [jc2 hi] at e2;obtain ⟨n1,n2,n3,n4⟩:=c.capt i x (by rw [<- I.len];exact hi) e1 e3;obtain ⟨m0,ns0,hl⟩:=I.loc;obtain ⟨u,r,lk⟩:=hl i x v n1 e2 n2;refine ⟨u,r,.inr ⟨?_,?_⟩⟩
  ·rcases e3 with z | z | z
   ·exact absurd z n4
   ·exact .inl z
   ·exact .inr z
  ·obtain ⟨a,ha,hb⟩:=c.cap (C:=C) n3;have ha':=zxb _ x a _ [] (c.cells I) (λ z=>nomatch z) hb;refine ⟨a,ha,?_⟩;rcases lk with ⟨hk,_⟩ | ⟨hk,a2,ha2,hc⟩
   ·rcases c.free _ n3 rfl with z | z <;> rw [hk] at z <;> cases z
   ·rw [ha'] at ha2;cases ha2;obtain ⟨o,ho,hd⟩:=hc;exact ⟨o,keep _ _ ho,hd⟩
 cell:=λ x a h=>by
  rcases c.cl I h with z | z
  ·obtain ⟨v,o,ho,hd⟩:=I.cell x a z;exact ⟨v,o,keep _ _ ho,hd⟩
  ·exact ⟨none,hcN x a h z.1⟩
 free:=hC3
 freeC:=λ x a h=>by
  rcases c.cl I h with ha | z
  ·obtain ⟨v,o,ho,hd⟩:=I.cell x a ha;rw [hH a (jc9 (jb3 (va5 ho) hD))];exact I.freeC x a ha
  ·rw [hH a (jg0 (jb3 hDC (jf6 z.1)))];exact I.hok.fresh (jd1 hC (jf6 z.1))
 pin:=λ p hp=>by
  have hp':p∈X.pn++pins:=by simpa [zqo] using hp
  obtain ⟨e,n,ne,nf,d⟩:=I.pin p hp';have hlt:=va5 e;exact ⟨keep _ _ e,by rw [hH p.1 (jc9 (jb3 hlt hD))];exact n,jc9 (jb3 hlt hC),λ z=>(jb6.mp (I.stkSub p.1 z)).elim ne nf,d⟩
 hok:=hok
 len:=by
  show (σ++ja2 k none).length=N'.length;rw [jb1,jc5,c.len,I.len]
def PTs (X:Cx) (ifs:List Expr) (t:TT):Prop:=
 ∀ (pins:List (Addr×Obj)) (s:va4) (σ:St) (H:Hp) (Q:Bool->Hp->Prop),Inv X pins σ H s->t σ H Q ->
  vb1 (vb2 X.prog X.w) X.A (forIn ifs true λ c r=>if r=true then do let ok<-isTrue c X.env (eval c X.env);pure (ForInStep.yield ok) else pure (ForInStep.yield r)) (TP X pins σ Q) X.xe s
theorem qjs {X:Cx}:PTs X [] (λ _ H Q=>Q true H):=λ _ _ _ H _ I h=>va1 ⟨H,I,h⟩
theorem qjr {X:Cx}{c:Expr}{t:TT} (hc:PT X c t):PTs X [c] t:=by
 intro pins s σ H Q I h;rw [jp4];refine va0 ?_;rw [if_pos rfl];refine va0 (thn (hc pins s σ H Q I h) λ b s1 q=>va1 ?_);exact va1 q
theorem CompOk.again (c:CompOk X scope N' k) (I:Inv X pins σ H2 s2) {σ':St}{H':Hp}{s':va4}{ps:List (Addr×Obj)} (hfp:∀ b∈fp,FpOk X pins H2 b) (J:Inv (zqo X s2 H2 scope C N' fp pins) ps σ' H' s'):Inv (zqo X s2 H2 scope C N' fp pins) ps (σ++ja2 k none) H' s' where
 ok:=J.ok
 os:=J.os
 bare:=J.bare
 base:=J.base
 loc:=by
  obtain ⟨m,ns,_⟩:=J.loc;refine ⟨m,ns,λ i x v e1 e2 e3=>?_⟩;have hi:i < σ.length:=by
   by_cases hi:i < σ.length
   ·exact hi
   ·rw [jd3 (by omega),jc8] at e2;split at e2 <;> cases e2
  rw [jc2 hi] at e2;obtain ⟨n1,n2,n3,n4⟩:=c.capt i x (by rw [<- I.len];exact hi) e1 e3;obtain ⟨m0,ns0,hl⟩:=I.loc;obtain ⟨u,r,lk⟩:=hl i x v n1 e2 n2;refine ⟨u,r,.inr ⟨?_,?_⟩⟩
  ·rcases e3 with z | z | z
   ·exact absurd z n4
   ·exact .inl z
   ·exact .inr z
  ·obtain ⟨a,ha,hb⟩:=c.cap (C:=C) n3;have ha':=zxb _ x a _ [] (c.cells I) (λ z=>nomatch z) hb;refine ⟨a,ha,?_⟩;rcases lk with ⟨hk,_⟩ | ⟨hk,a2,ha2,hc⟩
   ·rcases c.free _ n3 rfl with z | z <;> rw [hk] at z <;> cases z
   ·rw [ha'] at ha2;cases ha2;obtain ⟨o,ho,hd⟩:=hc;obtain ⟨sl,ho'⟩:=J.base.any (b:=a) (ob:=o) ho (I.freeC x a ha') λ z=>(hfp a z).2.2.2.2.1 x a ha' rfl;exact ⟨_,ho',hd⟩
 cell:=J.cell
 free:=J.free
 freeC:=J.freeC
 pin:=J.pin
 hok:=J.hok
 len:=by
  show (σ++ja2 k none).length=N'.length;rw [jb1,jc5,c.len,I.len]
theorem zvt {prog:vb0}{w:vb4}{A:vc0}{R:Result->va4->Prop}{s:va4}{elt target iter:Expr}{ifs:List Expr}{scope:vd1}{pos:Pos}{it acc:va2}{env:Env} (I:Nat->va4->Prop)
  (turn:∀ n s,I n s->vb1 (vb2 prog w) A (vk1 it) (λ r s₁=>match r with
   | none=>R (.ok .next) s₁
   | some v=>vb1 (vb2 prog w) A (vj2 target it v) (λ _ s₁'=>vb1 (vb2 prog w) A (vm7 target env v) (λ _ s₂=>
     vb1 (vb2 prog w) A (forIn ifs true λ c r=>if r=true then do let ok<-isTrue c env (eval c env);pure (ForInStep.yield ok) else pure (ForInStep.yield r)) (λ ok s₃=>
      if ok=true then vb1 (vb2 prog w) A (eval elt env) (λ x s₄=>
       vb1 (vb2 prog w) A (call (.builtin "list.append") [acc,x]) (λ _ s₅=>∃ m,m < n/\I m s₅) (λ _ _=>False) s₄) (λ _ _=>False) s₃
      else ∃ m,m < n/\I m s₃) (λ _ _=>False) s₂) (λ _ _=>False) s₁') (λ _ _=>False) s₁) (λ _ _=>False) s)
  (n:Nat) (h:I n s):
  vk6 (vb2 prog w) A (.compLoop (.ListComp elt [⟨target,iter,ifs,0⟩] scope pos) 0 it acc env) R s:=by
 refine codeAny_loop rfl I (λ n s hI=>?_) n h;show vb1 _ A ((compTurn (.ListComp elt [⟨target,iter,ifs,0⟩] scope pos) 0 it acc env).onRaise (λ x=>do noteFrame x env;theTreesLotGoes x)) _ _ s;refine wpAny_noted ?_;rw [compTurn_list];refine va0 (wpAny_standAt (va0 (vf6 (turn n s hI) (λ r s₁ h₁=>?_) λ _ _ h'=>h'.elim)));cases r with
 | none=>exact va1 h₁
 | some v=>
  refine va0 (vf6 h₁ (λ _ s₁' h₁'=>?_) λ _ _ h'=>h'.elim);refine va0 (vf6 h₁' (λ _ s₂ h₂=>va0 (vf6 h₂ (λ ok s₃ h₃=>?_) λ _ _ h'=>h'.elim)) λ _ _ h'=>h'.elim);cases ok with
  | false=>exact va1 ⟨rfl,h₃⟩
  | true=>
   exact va0 (va0 (vf6 h₃ (λ x s₄ h₄=>va0 (vf6 h₄ (λ _ s₅ h₅=>va1 (va1 ⟨rfl,h₅⟩)) λ _ _ h'=>h'.elim)) λ _ _ h'=>h'.elim))
theorem zbw {elt iter tg:Expr}{ifs:List Expr}{pos:Pos}{J:It}{it:Addr}{tn:Nat->Heap->Prop}{g:TG}{tc:TT}{te:TE}{RR:va2->Addr->Result->va4->Prop}{Q:VK}{E:va2->va4->Prop}
  (c:CompOk X scope N' k) (hcalm:X.calm=true) (I:Inv X pins σ H2 s2) (T:Turn X.prog X.w X.K tg J fp it tn) (st:tn 0 s2.heap) (hf:∀ b∈fp,FpOk X pins H2 b)
  (hg:∀ C fp,PG (zqo X s2 H2 scope C N' fp pins) tg g) (hc:∀ C fp,PTs (zqo X s2 H2 scope C N' fp pins) ifs tc) (he:∀ C fp,PE (zqo X s2 H2 scope C N' fp pins) elt te)
  (h:∀ D,H2 D=none->∃ W:Nat->Nat->List V->Hp->Prop,(∃ m,W 0 m [] (upd H2 D (.lst [])))/\∀ i m ys H,W i m ys H->H D=some (.lst ys) /\
   ((J.stop i H/\Q (.ref D) H)\/(J.go i H/\∀ x H',J.yld i H x H'->g x (σ++ja2 k none) H' λ σ2 H2=>tc σ2 H2 λ b H3=>if b=true then te σ2 H3 λ y H4=>H4 D=some (.lst ys)/\ys.length < va6/\∃ m',m' < m/\W (i + 1) m' (ys++[y]) (upd H4 D (.lst (ys++[y]))) else ∃ m',m' < m/\W (i + 1) m' ys H3)))
  (hRR:∀ D C σ' H' s',s2.heap.objs.size<=C->Inv (zqo X s2 H2 scope C N' fp pins) [] σ' H' s'->Q (.ref D) H'->RR (.ref D) C (.ok .next) s')
  :
  vb1 (vb2 X.prog X.w) X.A (newList []) (λ acc s₃=>vb1 (vb2 X.prog X.w) X.A (vn6 scope X.env.globals (zzo X.env.cells scope.names []) [] X.env.qual none .none (some X.env)) (λ cenv s₄=>
   vk6 (vb2 X.prog X.w) X.A (.compStart (.ListComp elt [⟨tg,iter,ifs,0⟩] scope pos) 0 (.ref it) acc { cenv with scope:=vk5 scope X.env }) (RR acc cenv.locals) s₄) E s₃) E s2:=by
 refine vb5 (zfe ?_);dsimp only;generalize hH2:s2.heap.push { cls:=.type "list",dict:=none,data:=.seq ([]:List va2).toArray }=HP;obtain ⟨h₁,hh₁⟩:∃ h₁,h₁=pushCells (HP.push { cls:=.type "dict",data:=.dict #[] }) scope.names:=⟨_,rfl⟩
 rw [<- hh₁];have kk:∀ b o,HP.get? b=some o->h₁.get? b=some o:=λ b o e=>by rw [hh₁];exact vm2 _ _ b o (va3 _ e)
 have hns₁:h₁.Ns HP.objs.size (λ _=>none):=by rw [hh₁];exact (Heap.Ns.new HP (.type "dict")).keeps (vm2 _ _)
 have hC:HP.objs.size=s2.heap.objs.size + 1:=by rw [<- hH2,vh3]
 have hDC:s2.heap.objs.size≠HP.objs.size:=by rw [hC];exact jc9 (jg3 _)
 have hCle:s2.heap.objs.size<=HP.objs.size:=by rw [hC];exact jp5 _
 have hfp:∀ b∈fp,b < s2.heap.objs.size:=λ b hb=>by
  obtain ⟨o,e,_⟩:=T.obj 0 _ st b hb;exact va5 e
 have below:∀ b,b < s2.heap.objs.size->b≠HP.objs.size:=λ b hb=>by rw [hC];exact jc9 (jj1 hb)
 have old:∀ b o,s2.heap.get? b=some o->h₁.get? b=some o:=λ b o e=>kk b o (hH2 ▸ va3 _ e);have hacc:h₁.get? s2.heap.objs.size=some { cls:=.type "list",dict:=none,data:=.seq ([]:List va2).toArray }:=kk _ _ (hH2 ▸ va7 _ rfl);have fD:H2 s2.heap.objs.size=none:=I.hok.fresh (ja8 _);obtain ⟨W,⟨m0,w0⟩,hW⟩:=h _ fD;have hok3:HOk X.prog X.w (upd H2 s2.heap.objs.size (.lst [])) h₁:=I.hok.laid old (ja8 _) ⟨jg5 _,[],0,.nil,hacc⟩;have st1:tn 0 h₁:=T.keep _ _ _ st λ b hb o e=>old b o e;have I3:Inv (zqo X s2 H2 scope HP.objs.size N' fp pins) [] (σ++ja2 k none) (upd H2 s2.heap.objs.size (.lst [])) { s2 with heap:=h₁ }:=
  c.inv I hf hfp (t':=s2.toks) hDC (ja8 _) hCle old hns₁ (λ b hb=>zqg hb) hok3 (by rw [zqg (vb6 hDC)];exact I.hok.fresh hCle) (by rw [hC];exact jg3 _) (λ x a h l=>by
   have hs:(HP.push { cls:=.type "dict",data:=.dict #[] }).objs.size=HP.objs.size + 1:=vh3 ..;have h':(vb9 (HP.push { cls:=.type "dict",data:=.dict #[] }).objs.size scope.names (zzo X.env.cells scope.names [])).lookup x=some a:=by rw [hs];exact h
   rcases zgu scope.names _ _ x a h' with z | z
   ·exact absurd (jb3 (c.old I (zxb _ x a _ [] (c.cells I) (λ z=>nomatch z) z)) (jd1 hCle (jf6 l))) (jd6 _)
   ·rw [hh₁];exact z)
 have fx:∀ {H':Hp},(∀ b∈fp,H' b=none)->∀ b∈fp,FpOk (zqo X s2 H2 scope HP.objs.size N' fp pins) [] H' b:=λ hn b hb=>by
  obtain ⟨f0,f1,f2,f3,f4,f5⟩:=hf b hb;refine ⟨hn b hb,jc9 (jb3 (hfp b hb) hCle),λ hz=>?_,.inl hb,λ x a h=>(c.cl I h).elim (λ z=>f4 x a z) λ z=>jg0 (jb3 (hfp b hb) (jd1 hCle (jf6 z.1))),λ p hp=>f5 p (by simpa [zqo] using hp)⟩;rcases jb6.mp (I.stkSub b hz) with z | z
  ·exact f1 z
  ·exact f2 z
 have f0:∀ b∈fp,(upd H2 s2.heap.objs.size (.lst [])) b=none:=λ b hb=>by rw [zqg (jc9 (hfp b hb))];exact (hf b hb).1
 have loop:∀ s₃:va4,s₃={ s2 with heap:=h₁ } ->
   vk6 (vb2 X.prog X.w) X.A (.compLoop (.ListComp elt [⟨tg,iter,ifs,0⟩] scope pos) 0 (.ref it) (.ref s2.heap.objs.size) (compEnvC scope (zfv X scope HP.objs.size) HP.objs.size X.env))
    (RR (.ref s2.heap.objs.size) HP.objs.size) s₃:=by
  rintro s₃ rfl;refine zvt (λ n s'=>∃ i H' ys,Inv (zqo X s2 H2 scope HP.objs.size N' fp pins) [] (σ++ja2 k none) H' s'/\tn i s'.heap/\(∀ b∈fp,H' b=none)/\W i n ys H') ?_ m0 ⟨0,_,[],I3,st1,f0,w0⟩;rintro n s4 ⟨i,H4,ys,I4,st4,fr4,w4⟩;obtain ⟨hD4,hcase⟩:=hW i n ys H4 w4;rcases hcase with ⟨stop,qn⟩ | ⟨go,step⟩
  ·refine thn (T.done (zqo X s2 H2 scope HP.objs.size N' fp pins) rfl rfl rfl hcalm i [] s4 _ H4 (λ _ _=>False) I4 (fx fr4) st4 stop) λ r s5 ⟨hr,I5⟩=>?_;subst hr;exact hRR _ _ _ _ _ hCle I5 qn
  ·refine thn (T.item (zqo X s2 H2 scope HP.objs.size N' fp pins) rfl rfl rfl hcalm i [] s4 _ H4 (λ _ _=>False) I4 (fx fr4) st4 go) λ r s5 ⟨u,hr,h5⟩=>?_;subst hr;refine thn h5 λ _ s6 ⟨x,H6,I6,r6,y6,st6,fr6⟩=>?_;have I6':=I6.pinned (fx fr6) (T.obj _ _ st6);have stays:∀ {σ':St}{H':Hp}{s':va4},Inv (zqo X s2 H2 scope HP.objs.size N' fp pins) ([]++zfa fp s6.heap) σ' H' s'->Inv (zqo X s2 H2 scope HP.objs.size N' fp pins) [] (σ++ja2 k none) H' s'/\tn (i + 1) s'.heap/\∀ b∈fp,H' b=none:=λ {σ' H' s'} J=>by
    refine ⟨c.again I hf J.unpinned,T.keep _ _ _ st6 λ b hb o e=>(J.pin (b,o) (ja5 _ (ja5 _ (zve hb e)))).1,λ b hb=>?_⟩;obtain ⟨o,e,d⟩:=T.obj _ _ st6 b hb;exact (J.pin (b,o) (ja5 _ (ja5 _ (zve hb e)))).2.1
   refine thn (hg _ _ _ s6 _ H6 x u _ I6' r6 (step x H6 y6)) λ _ s7 ⟨σ7,H7,I7,q7⟩=>?_;refine thn (hc _ _ _ s7 σ7 H7 _ I7 q7) λ b s8 ⟨H8,I8,q8⟩=>?_;cases b with
   | false=>
    rw [if_neg jb9] at q8 ⊢;obtain ⟨m',hm,w'⟩:=q8;obtain ⟨j1,j2,j3⟩:=stays I8;exact ⟨m',hm,i + 1,H8,ys,j1,j2,j3,w'⟩
   | true=>
    rw [if_pos rfl] at q8 ⊢;refine thn (he _ _ _ s8 σ7 H8 _ I8 q8) λ y s9 ⟨z,H9,I9,r9,hD9,hz9,m',hm,w'⟩=>?_;refine thn (zff (X:=zqo X s2 H2 scope HP.objs.size N' fp pins) _ s9 σ7 H9 (.ref s2.heap.objs.size) [z] (.ref s2.heap.objs.size) [y] (λ _ H'=>H'=upd H9 s2.heap.objs.size (.lst (ys++[z]))) I9 rfl (.cons r9 .nil) ⟨_,ys,z,rfl,rfl,hD9,hz9,rfl⟩) λ _ s10 ⟨_,H10,I10,_,e10⟩=>?_;subst e10;obtain ⟨j1,j2,j3⟩:=stays I10;exact ⟨m',hm,i + 1,_,_,j1,j2,j3,w'⟩
 exact codeAny_compStart_list (loop _ rfl) (T.self _ 0 _ _ _ st1 (loop _ rfl))
theorem CompOk.out (I:Inv X pins σ H2 s2) (hf:∀ b∈fp,FpOk X pins H2 b) {σ':St}{H':Hp}{s':va4} (J:Inv (zqo X s2 H2 scope C N' fp pins) [] σ' H' s'):Inv X pins σ H' s':=
 I.call' (ch:=fp) J.os J.base J.hok J.bare λ b hb=>⟨(hf b hb).2.2.2.1,(hf b hb).2.1,(hf b hb).2.2.2.2.1,(hf b hb).2.2.2.2.2⟩
theorem CompOk.away (I:Inv X pins σ H2 s2) (hC:s2.heap.objs.size<=C) {σ':St}{H':Hp}{s':va4} (J:Inv X pins σ' H' s') (hC':H' C=none) {h':Heap} (sb:vh1 C s'.heap h'):Inv X pins σ' H' { s' with heap:=h' }:=by
 have lt:∀ b o,s2.heap.get? b=some o->b≠C:=λ b o e=>jc9 (jb3 (va5 e) hC);refine J.turned (t':=s'.toks) (it:=C) (λ b o hb e=>(sb.2 b hb).trans e) hC' (jg0 (jb3 I.lt hC)) (.inr (jd1 I.sz hC)) (λ x c h=>?_) λ p hp=>?_
 ·obtain ⟨v,o,ho,_⟩:=I.cell x c h;exact lt c o ho
 ·exact lt p.1 p.2 (I.pin p hp).1
variable {elt iter tg:Expr}{ifs:List Expr}{pos:Pos}{wi:TI}{g:TG}{tc:TT}{te:TE}
theorem qdp (c:CompOk X scope N' k) (hcalm:X.calm=true) (hi:PI X tg iter wi) (hg:∀ s2 H2 C fp pins,PG (zqo X s2 H2 scope C N' fp pins) tg g) (hc:∀ s2 H2 C fp pins,PTs (zqo X s2 H2 scope C N' fp pins) ifs tc)
  (he:∀ s2 H2 C fp pins,PE (zqo X s2 H2 scope C N' fp pins) elt te) (hs:∀ x,vh7 iter X.env x=pure x):PE X (.ListComp elt [⟨tg,iter,ifs,0⟩] scope pos) (qbr k wi g tc te):=by
 intro pins s σ H Q I h;rw [eval_ListComp];refine wpAny_comprehension_free (use:=none) rfl hs (zkd (c.cells I)) c.kind c.names ?_;refine thn (hi pins s σ H _ I h) λ v s1 h1=>thn h1 λ itv s2 h2=>?_;obtain ⟨it,fp,tn,J,H',e,I2,T,st2,f2,W⟩:=h2;subst e;refine zbw (RR:=λ acc C=>compPost (vb2 X.prog X.w) X.A X.xe none (EP X pins σ Q) acc C) c hcalm I2 T st2 f2 (λ C fp=>hg s2 H' C fp pins) (λ C fp=>hc s2 H' C fp pins) (λ C fp=>he s2 H' C fp pins) W λ D C σ' H3 s' hC J3 q=>?_;obtain ⟨m,ns,_⟩:=J3.loc;exact ⟨m,ns,λ h' sb=>⟨.ref D,H3,CompOk.away I2 hC (CompOk.out I2 f2 J3) J3.free sb,rfl,q⟩⟩
theorem qbw {i:Nat}{x:Str}{pos' spos:Pos} (hN:X.N.Nodup) (hi':X.N[i]?=some x) (hx:Loc X.env.scope x) (hfn:X.fn x=true\/X.env.scope.names.lookup x=some .local) (c:CompOk X scope N' k) (hcalm:X.calm=true) (hi:PI X tg iter wi) (hg:∀ s2 H2 C fp pins,PG (zqo X s2 H2 scope C N' fp pins) tg g) (hc:∀ s2 H2 C fp pins,PTs (zqo X s2 H2 scope C N' fp pins) ifs tc)
  (he:∀ s2 H2 C fp pins,PE (zqo X s2 H2 scope C N' fp pins) elt te) (hs:∀ x,vh7 iter X.env x=pure x):PS X (.Assign [.Name x pos'] (.ListComp elt [⟨tg,iter,ifs,0⟩] scope pos) spos) (tAsg (qbr k wi g tc te) (zkt i)):=by
 have hsw:∃ b,swapsWith (.ListComp elt [⟨tg,iter,ifs,0⟩] scope pos) (some (.Name x pos')) spos.line X.env=pure b:=⟨_,rfl⟩
 obtain ⟨b,hsw⟩:=hsw;cases b with
 | false=>exact qdg hN hi' hx (qdp c hcalm hi hg hc he hs) hsw hfn
 | true=>
  intro pins s σ H D I h;rw [exec_Assign_Name_used _ _ _ _ hsw];refine va0 (wpAny_standAt (va0 ?_));show vb1 _ X.A (do let _<-comprehension (.ListComp elt [⟨tg,iter,ifs,0⟩] scope pos) scope X.env _ (newList []) false (eval iter X.env) (some (vm7 (.Name x pos') X.env))) _ _ s;refine va0 (vf6 (wpAny_comprehension_free (use:=some (vm7 (.Name x pos') X.env)) (Q:=λ _ s'=>SP X pins D .next s') rfl hs (zkd (c.cells I)) c.kind c.names ?_) (λ _ s' hq=>va1 (va1 hq)) λ _ _ e=>e);refine thn (hi pins s σ H _ I h) λ v s1 h1=>thn h1 λ itv s2 h2=>?_;obtain ⟨it,fp,tn,J,H',e,I2,T,st2,f2,W⟩:=h2;subst e;refine zbw (Q:=λ x H1=>zkt i x σ H1 D.nx) (RR:=λ acc C=>compPost (vb2 X.prog X.w) X.A X.xe (some (vm7 (.Name x pos') X.env)) (λ _ s'=>SP X pins D .next s') acc C) c hcalm I2 T st2 f2 (λ C fp=>hg s2 H' C fp pins) (λ C fp=>hc s2 H' C fp pins) (λ C fp=>he s2 H' C fp pins) W λ E C σ' H3 s' hC J3 q=>?_;obtain ⟨m,ns,_⟩:=J3.loc;have I3:=CompOk.out I2 f2 J3;show vb1 _ X.A (vm7 (.Name x pos') X.env (.ref E)) _ _ _;refine wpAny_assign_Name (zmt I3 hN hi' hx (v:=.ref E) rfl (λ s'' I4 hsb=>?_) hfn);obtain ⟨a,sb,ha⟩:=hsb;have hCa:C≠a:=by
   rcases ha with z | z
   ·rw [z];exact jg0 (jb3 I2.lt hC)
   ·obtain ⟨v,o,ho,_⟩:=I2.cell x a z;exact jg0 (jb3 (va5 ho) hC)
  exact ⟨m,ns.sameBut sb hCa,λ h' sb'=>⟨_,H3,CompOk.away I2 hC I4 J3.free sb',q⟩⟩
theorem qfu {P:vb0}{w:vb4}{K:Frag}{tg:Expr} (z:Str) (tk:Tok) (it:Addr):Turn P w K tg (ItS z) [it] it (λ i h=>h.IsStrIter it "str_ascii_iterator" z tk i) where
 mem:=by simp
 obj:=λ i h st b hb=>by
  have e:b=it:=by simpa using hb
  subst e;obtain ⟨o,e,c,d⟩:=st;exact ⟨o,e,λ v z=>by rw [d] at z;cases z⟩
 keep:=λ i h h' st k=>by
  obtain ⟨o,e,r⟩:=st;exact ⟨o,k it (by simp) o e,r⟩
 item:=by
  intro X hP hw hK hc i pins s σ H E I hf st hg;subst hP hw hK;have hi:i < z.cps.size:=hg;obtain ⟨f0,f1,f2,f3,f4,f5⟩:=hf it (by simp);refine wpAny_pyNext_ascii_item st (c:=z.cps[i]) (by simp [hi]) λ h' st' sb=>?_;have I1:Inv X pins σ H { s with heap:=h',toks:=s.toks + 1 }:=I.turned (t':=s.toks + 1) (λ b o hb e=>(sb.2 b hb).trans e) f0 f1 f3 f4 f5;obtain ⟨o,e,c,d⟩:=id st';exact ⟨_,rfl,zhk (s:={ s with heap:=h',toks:=s.toks + 1 }) e c d (by decide) ⟨.str ⟨#[z.cps[i]]⟩,H,I1,⟨_,rfl⟩,⟨rfl,z.cps[i],by simp [hi],rfl⟩,st',λ b hb=>(hf b hb).1⟩⟩
 done:=by
  intro X hP hw hK hc i pins s σ H E I hf st hg;subst hP hw hK;have hi:z.cps.size<=i:=hg;obtain ⟨f0,f1,f2,f3,f4,f5⟩:=hf it (by simp);exact wpAny_pyNext_ascii_end (I.ok.hd hc) st (by simp;omega) λ h' eb=>⟨rfl,I.turned (t':=s.toks) (λ b o hb e=>eb b o hb e) f0 f1 f3 f4 f5⟩
 self:=λ _ _ _ _ _ st h=>wpAny_pyIter_striter_ascii st h
theorem qh2 {l:Expr}{tl:TE} (hl:PE X l tl):PI X tg l (iSeq X.K tl):=by
 intro pins s σ H R I h;refine thn (hl pins s σ H _ I h) λ v s1 ⟨x,H1,I1,r1,q1⟩=>?_;obtain ⟨a,e,⟨⟨xs,hq⟩,q⟩ | ⟨⟨xs,hq⟩,q⟩⟩ | ⟨z,e,ha,q⟩:=q1
 ·subst e;cases r1;obtain ⟨its,rv,p,hz⟩:=I1.list hq;refine wpAny_pyIter_list p.isList ?_;refine ⟨s1.heap.objs.size,[s1.heap.objs.size],_,_,H1,rfl,I1.kept (t':=s1.toks) λ b o e=>va3 _ e,qch a _,⟨_,va7 _ rfl,rfl,rfl⟩,λ b hb=>?_,q⟩;have e:b=s1.heap.objs.size:=by simpa using hb
  subst e;exact I1.fpOk (ja8 _) (I1.hok.fresh (ja8 _))
 ·subst e;cases r1;obtain ⟨its,rv,p,hz⟩:=I1.tuple hq;refine wpAny_pyIter_tuple (show s1.heap.IsTuple a its.toArray from p) ?_;refine ⟨s1.heap.objs.size,[s1.heap.objs.size],_,_,H1,rfl,I1.kept (t':=s1.toks) λ b o e=>va3 _ e,qbo a _,⟨_,va7 _ rfl,rfl,rfl⟩,λ b hb=>?_,q⟩;have e:b=s1.heap.objs.size:=by simpa using hb
  subst e;exact I1.fpOk (ja8 _) (I1.hok.fresh (ja8 _))
 ·subst e;obtain ⟨tk,rfl⟩:=r1;refine wpAny_pyIter_ascii ha ?_;refine ⟨s1.heap.objs.size,[s1.heap.objs.size],_,_,H1,rfl,I1.kept (t':=s1.toks) λ b o e=>va3 _ e,qfu z tk _,⟨_,va7 _ rfl,rfl,rfl⟩,λ b hb=>?_,q⟩;have e:b=s1.heap.objs.size:=by simpa using hb
  subst e;exact I1.fpOk (ja8 _) (I1.hok.fresh (ja8 _))
end
end QQ
namespace L2
open PySem PySem.Spec PyProof.Rows
section
variable {κ:Type} [DecidableEq κ]
def valV (kvs:List (κ×V)) (k:κ):Option V:=(kvs.find? λ kv=>decide (kv.1=k)).map (·.2)
def putK (kvs:List (κ×V)) (k:κ) (v:V):List (κ×V):=
 if (kvs.any λ kv=>decide (kv.1=k))=true then kvs.map (λ kv=>if kv.1=k then (kv.1,v) else kv) else kvs++[(k,v)]
theorem zyk {p:κ×V}{r:List (κ×V)}{k:κ} (e:p.1=k):valV (p::r) k=some p.2:=by simp [valV,jh6,e]
theorem zyl {p:κ×V}{r:List (κ×V)}{k:κ} (e:¬ p.1=k):valV (p::r) k=valV r k:=by simp [valV,jh6,e]
theorem qab (k:κ):∀ kvs:List (κ×V),(kvs.any λ kv=>decide (kv.1=k))=(valV kvs k).isSome
 | []=>rfl
 | p::r=>by
  rw [jk0];by_cases e:p.1=k
  ·simp only [zyk e,decide_eq_true e,Bool.true_or,jn7]
  ·rw [zyl e,decide_eq_false e,Bool.false_or];exact qab k r
theorem zjo (kvs:List (κ×V)) (k:κ) (v:V):(putK kvs k v).length<=kvs.length + 1:=by
 unfold putK;split
 ·rw [ja3];omega
 ·rw [jb1,jb2,jp6];omega
theorem RelO.isSome_eq {o:Option V}{u:Option va2} (r:RelO o u):o.isSome=u.isSome:=by
 cases o with
 | none=>cases u with
  | none=>rfl
  | some _=>exact (show False from r).elim
 | some _=>cases u with
  | none=>exact (show False from r).elim
  | some _=>rfl
theorem KV.val {kvs:List (κ×V)}{vs:List (κ×va2)} (r:KV kvs vs) (k:κ):RelO (valV kvs k) (vm0 vs k):=by
 unfold KV at r;induction r with
 | nil=>exact True.intro
 | @cons p q ps qs h t ih=>
  obtain ⟨h1,h2⟩:=h;by_cases e:p.1=k
  ·have e':q.1=k:=h1.symm.trans e;have b:vm0 (q::qs) k=some q.2:=by simp [vm0,jh6,e']
   rw [zyk e,b];exact h2
  ·have e':¬ q.1=k:=λ z=>e (h1.trans z);have b:vm0 (q::qs) k=vm0 qs k:=by simp [vm0,jh6,e']
   rw [zyl e,b];exact ih
theorem KV.any {kvs:List (κ×V)}{vs:List (κ×va2)} (r:KV kvs vs) (k:κ):(kvs.any λ kv=>decide (kv.1=k))=vs.any λ kv=>decide (kv.1=k):=by
 unfold KV at r;induction r with
 | nil=>rfl
 | cons h t ih=>rw [jk0,jk0,ih,h.1]
theorem KV.repl {kvs:List (κ×V)}{vs:List (κ×va2)} (r:KV kvs vs) (k:κ) {y:V}{u:va2} (ry:RelV y u):
  KV (kvs.map λ kv=>if kv.1=k then (kv.1,y) else kv) (vs.map λ kv=>if kv.1=k then (kv.1,u) else kv):=by
 unfold KV at r ⊢;induction r with
 | nil=>exact .nil
 | @cons p q ps qs h t ih=>
  rw [jb7,jb7];refine .cons ?_ ih;obtain ⟨h1,h2⟩:=h;by_cases e:p.1=k
  ·rw [if_pos e,if_pos (h1.symm.trans e)];exact ⟨h1,ry⟩
  ·rw [if_neg e,if_neg (λ z=>e (h1.trans z))];exact ⟨h1,h2⟩
theorem KV.put {kvs:List (κ×V)}{vs:List (κ×va2)} (r:KV kvs vs) (k:κ) {y:V}{u:va2} (ry:RelV y u):KV (putK kvs k y) (stored vs k u):=by
 unfold putK stored;rw [r.any k];by_cases e:(vs.any λ kv=>decide (kv.1=k))=true
 ·rw [if_pos e,if_pos e];exact r.repl k ry
 ·rw [if_neg e,if_neg e];exact Paired.snoc r ⟨rfl,ry⟩
theorem KV.length {kvs:List (κ×V)}{vs:List (κ×va2)} (r:KV kvs vs):kvs.length=vs.length:=Paired.length r
end
theorem qec {P:vb0}{w:vb4}{k:Key}{u:va2} (r:RelV (kV k) u):(zxd P w).is k u=true:=by
 cases k with
 | inl i=>obtain ⟨t,e⟩:=(show ∃ t,u=Value.int i t from r);subst e;exact zha P w i t
 | inr x=>obtain ⟨t,e⟩:=(show ∃ t,u=Value.str x t from r);subst e;exact zgz P w x t
theorem zfk {P:vb0}{w:vb4}:∀ {ks:List Key}{us:List va2},Vals (ks.map kV) us->ItemsAre (zxd P w) ks us
 | [],_,r=>by rw [jh4] at r;cases r;exact .nil
 | k::ks,_,r=>by
  rw [jb7] at r;cases r with
  | cons h t=>exact .cons (qec h) (zfk t)
abbrev KT (H:Hp):List (List Key×V)->List (List Key×Addr×va2)->Prop:=vk2 λ p q=>p.1=q.1/\H q.2.1=some (.tup (p.1.map kV))/\RelV p.2 q.2.2
theorem KT.val {H:Hp}{kvs:List (List Key×V)}{xs:List (List Key×Addr×va2)} (r:KT H kvs xs) (k:List Key):RelO (valV kvs k) ((atKey xs k).map (·.2)):=by
 induction r with
 | nil=>exact True.intro
 | @cons p q ps qs h t ih=>
  obtain ⟨h1,_,h2⟩:=h;by_cases e:p.1=k
  ·have e':q.1=k:=h1.symm.trans e;have b:atKey (q::qs) k=some q.2:=by simp [atKey,jh6,e']
   rw [zyk e,b];exact h2
  ·have e':¬ q.1=k:=λ z=>e (h1.trans z);have b:atKey (q::qs) k=atKey qs k:=by simp [atKey,jh6,e']
   rw [zyl e,b];exact ih
theorem KT.repl {H:Hp}{kvs:List (List Key×V)}{xs:List (List Key×Addr×va2)} (r:KT H kvs xs) (k:List Key) {y:V}{u:va2} (ry:RelV y u):
  KT H (kvs.map λ kv=>if kv.1=k then (kv.1,y) else kv) (xs.map (putAt k u)):=by
 induction r with
 | nil=>exact .nil
 | @cons p q ps qs h t ih=>
  rw [jb7,jb7];refine .cons ?_ ih;obtain ⟨h1,h2,h3⟩:=h;unfold putAt;by_cases e:p.1=k
  ·rw [if_pos e,if_pos (h1.symm.trans e)];exact ⟨h1,h2,ry⟩
  ·rw [if_neg e,if_neg (λ z=>e (h1.trans z))];exact ⟨h1,h2,h3⟩
theorem KT.put {H:Hp}{kvs:List (List Key×V)}{xs:List (List Key×Addr×va2)} (r:KT H kvs xs) (k:List Key) {b:Addr}{y:V}{u:va2} (hb:H b=some (.tup (k.map kV))) (ry:RelV y u):
  KT H (putK kvs k y) (storedH xs k b u):=by
 have e:(kvs.any λ kv=>decide (kv.1=k))=(atKey xs k).isSome:=by
  rw [qab,(r.val k).isSome_eq,jl5]
 unfold putK storedH;rw [e];by_cases q:(atKey xs k).isSome=true
 ·rw [if_pos q,if_pos q];exact r.repl k ry
 ·rw [if_neg q,if_neg q];exact Paired.snoc r ⟨rfl,hb,ry⟩
theorem KT.keeps {H H':Hp}{kvs:List (List Key×V)}{xs:List (List Key×Addr×va2)} (r:KT H kvs xs) (ht:∀ b ys,H b=some (.tup ys)->H' b=some (.tup ys)):KT H' kvs xs:=
 Paired.mapP r λ _ _ z=>⟨z.1,ht _ _ z.2.1,z.2.2⟩
section
variable {P:vb0}{w:vb4}{H:Hp}{h:Heap}{a:Addr}
theorem qmz {u:HO} (ok:HOk P w H h) (e:Rd H a u):zxc P w H h a u:=e.ok ok
theorem qez {kvs:List (Key×V)} (ok:HOk P w H h) (e:Rd H a (.dK kvs)):kvs.length<=va6/\(a == vc6)=false/\∃ vs,KV kvs vs/\h.DictOf (zxd P w) a vs:=
 show zxc P w H h a (.dK kvs) from qmz ok e
theorem dk_of {kvs:List (Key×V)} (ok:HOk P w H h) (e:H a=some (.dK kvs)):kvs.length<=va6/\(a == vc6)=false/\∃ vs,KV kvs vs/\h.DictOf (zxd P w) a vs:=qez ok (.inl e)
theorem zfj {ks:List Key} (ok:HOk P w H h) (e:H a=some (.tup (ks.map kV))):(vf3 (zxd P w)).is h ks a:=by
 obtain ⟨_,its,r,o,h1,h2,n,h3⟩:=(show zxc P w H h a (.tup (ks.map kV)) from ok a _ e)
 exact ⟨o,its.toArray,n,h1,h2,h3,by simpa using zfk r⟩
theorem qey {kvs:List (List Key×V)} (ok:HOk P w H h) (e:Rd H a (.dT kvs)):kvs.length<=va6/\(a == vc6)=false /\
  ∃ xs,KT H kvs xs/\h.DictOfH (vf3 (zxd P w)) a xs:=by
 obtain ⟨z,y,xs,r,o,es,ep,h1,h2,h3,h4,h5⟩:=(show zxc P w H h a (.dT kvs) from qmz ok e)
 refine ⟨z,y,xs,r,o,es,ep,h1,h2,h3,h4,λ x hx=>?_,h5⟩;have all:∀ {l:List (List Key×V)}{m:List (List Key×Addr×va2)},KT H l m->∀ x∈m,(vf3 (zxd P w)).is h x.1 x.2.1:=by
  intro l m q;induction q with
  | nil=>intro x hx;exact nomatch hx
  | @cons p q ps qs hq t ih=>
   intro x hx;rcases jb6.mp hx with e | hx
   ·subst e;exact zfj ok (by rw [<- hq.1];exact hq.2.1)
   ·exact ih x hx
 exact all r x hx
theorem qpr {kvs:List (List Key×V)} (ok:HOk P w H h) (e:H a=some (.dT kvs)):kvs.length<=va6/\(a == vc6)=false /\
  ∃ xs,KT H kvs xs/\h.DictOfH (vf3 (zxd P w)) a xs:=qey ok (.inl e)
end
def DGet (H:Hp) (a:Addr) (y:V) (r:Option V):Prop:=
 (∃ kvs k,Rd H a (.dK kvs)/\y=kV k/\r=valV kvs k)\/∃ kvs k b,Rd H a (.dT kvs)/\y=.ref b/\H b=some (.tup (k.map kV))/\r=valV kvs k
def DPut (H:Hp) (a:Addr) (y v:V) (H':Hp):Prop:=
 (∃ kvs k,H a=some (.dK kvs)/\y=kV k/\kvs.length < va6/\H'=upd H a (.dK (putK kvs k v))) \/
 ∃ kvs k b,H a=some (.dT kvs)/\y=.ref b/\H b=some (.tup (k.map kV))/\kvs.length < va6/\H'=upd H a (.dT (putK kvs k v))
theorem DPut.t {H:Hp}{a b:Addr}{kvs:List (List Key×V)}{k:List Key}{v:V} (e:H a=some (.dT kvs)) (eb:H b=some (.tup (k.map kV))) (hl:kvs.length < va6):
  DPut H a (.ref b) v (upd H a (.dT (putK kvs k v))):=.inr ⟨kvs,k,b,e,rfl,eb,hl,rfl⟩
section
variable {X:Cx}{pins:List (Addr×Obj)}{σ:St}{H:Hp}{s:va4}{a:Addr}{y v:V}{u r:va2}{o:Option V}{A:vc0}{E:va2->va4->Prop}
theorem Inv.big (I:Inv X pins σ H s):vc6 < s.heap.objs.size:=by
 have h:vc3 < s.heap.objs.size:=(I.mod.glob.keeps I.bk).lt;exact jq7 (by decide) h
theorem qe6 {Q:va2->va4->Prop} (hu:A.units + 1 < vl6) (I:Inv X pins σ H s) (g:DGet H a y (some v)) (ry:RelV y u) (h:∀ w' s',Inv X pins σ H s'->RelV v w'->Q w' s'):
  vb1 (vb2 X.prog X.w) A (vm4 (.ref a) u) Q E s:=by
 rcases g with ⟨kvs,k,e,ey,l⟩ | ⟨kvs,k,b,e,ey,eb,l⟩
 ·subst ey;obtain ⟨z,hd,vs,rel,dd⟩:=qez I.hok e;obtain ⟨w',hw,rw'⟩:=RelO.some_of (v:=v) (o:=vm0 vs k) (by rw [l];exact rel.val k);exact wpAny_getItem_of (qec ry) dd.mapOf hw (h w' _ (I.tok _) rw')
 ·subst ey;cases (show u=Value.ref b from ry);obtain ⟨z,hd,xs,rel,dd⟩:=qey I.hok e;obtain ⟨w',hw,rw'⟩:=RelO.some_of (v:=v) (o:=(atKey xs k).map (·.2)) (by rw [l];exact rel.val k);obtain ⟨p,hp,hp2⟩:=jb8.mp hw;refine wpAny_getItem_heap (vg6 hu) (zfj I.hok eb) dd hp ?_;rw [hp2];exact h w' _ (I.tok _) rw'
theorem d_in {Q:va2->va4->Prop} (hu:A.units + 1 < vl6) (I:Inv X pins σ H s) (g:DGet H a y o) (ry:RelV y u) (h:∀ s',Inv X pins σ H s'->Q (.bool o.isSome) s'):
  vb1 (vb2 X.prog X.w) A (vb7 .In u (.ref a)) Q E s:=by
 rcases g with ⟨kvs,k,e,ey,l⟩ | ⟨kvs,k,b,e,ey,eb,l⟩
 ·subst ey;obtain ⟨z,hd,vs,rel,dd⟩:=qez I.hok e;refine wpAny_in_of (qec ry) hd dd.mapOf ?_;rw [<- (rel.val k).isSome_eq,<- l];exact h _ (I.tok _)
 ·subst ey;cases (show u=Value.ref b from ry);obtain ⟨z,hd,xs,rel,dd⟩:=qey I.hok e;refine wpAny_in_heap (vg6 hu) (zfj I.hok eb) hd dd ?_;have q:=(rel.val k).isSome_eq;rw [jl5] at q;rw [<- q,<- l];exact h _ (I.tok _)
theorem qlb {Q:va2->va4->Prop} (hu:A.units + 1 < vl6) (I:Inv X pins σ H s) (g:DGet H a y o) (ry:RelV y u) (h:∀ s',Inv X pins σ H s'->Q (.bool (!o.isSome)) s'):
  vb1 (vb2 X.prog X.w) A (vb7 .NotIn u (.ref a)) Q E s:=by
 rcases g with ⟨kvs,k,e,ey,l⟩ | ⟨kvs,k,b,e,ey,eb,l⟩
 ·subst ey;obtain ⟨z,hd,vs,rel,dd⟩:=qez I.hok e;refine wpAny_notIn_of (qec ry) hd dd.mapOf ?_;rw [<- (rel.val k).isSome_eq,<- l];exact h _ (I.tok _)
 ·subst ey;cases (show u=Value.ref b from ry);obtain ⟨z,hd,xs,rel,dd⟩:=qey I.hok e;refine wpAny_notIn_heap (vg6 hu) (zfj I.hok eb) hd dd ?_;have q:=(rel.val k).isSome_eq;rw [jl5] at q;rw [<- q,<- l];exact h _ (I.tok _)
theorem qe4 {h':Heap}{t':Nat}{ob:HO} (I:Inv X pins σ H s) (mu:Mut (H a)) (hs:vh1 a s.heap h') (he:∃ q,h'.get? a=some q) (new:zxc X.prog X.w (upd H a ob) h' a ob):
  Inv X pins σ (upd H a ob) { s with heap:=h',toks:=t' }:=
 I.write (x:=a) (e:=a) mu (.inl rfl) (λ b q hb z=>(hs.2 b hb).trans z) he new
theorem qor {P:vb0}{w:vb4}{H':Hp}{h':Heap}{kvs:List (Key×V)}{vs:List (Key×va2)} (z:kvs.length<=va6) (hd:(a == vc6)=false) (rel:KV kvs vs) (dd:h'.DictOf (zxd P w) a vs):
  zxc P w H' h' a (.dK kvs):=⟨z,hd,vs,rel,dd⟩
theorem qe5 {H':Hp}{Q:Unit->va4->Prop} (hu:A.units + 1 < vl6) (I:Inv X pins σ H s) (g:DPut H a y v H') (ry:RelV y u) (rv:RelV v r) (h:∀ s',Inv X pins σ H' s'->Q () s'):
  vb1 (vb2 X.prog X.w) A (setItem (.ref a) u r) Q E s:=by
 rcases g with ⟨kvs,k,e,ey,l,eH⟩ | ⟨kvs,k,b,e,ey,eb,l,eH⟩
 ·subst ey eH;obtain ⟨z,hd,vs,rel,dd⟩:=dk_of I.hok e;have hz:vs.length<=va6:=by rw [<- rel.length];exact z
  have hl:(putK kvs k v).length<=va6:=by have:=zjo kvs k v;omega
  refine wpAny_setItem_pairs (hsz:=hz) (qec ry) dd λ h' dd' hs=>h _ ?_;have he:∃ q,h'.get? a=some q:=let ⟨q,_,_,hq,_⟩:=dd';⟨q,hq⟩;exact qe4 I (by rw [e];exact True.intro) hs he (qor hl hd (rel.put k rv) dd')
 ·subst ey eH;cases (show u=Value.ref b from ry);obtain ⟨z,hd,xs,rel,dd⟩:=qpr I.hok e;have hz:xs.length<=va6:=by rw [<- Paired.length rel];exact z
  have hl:(putK kvs k v).length<=va6:=by have:=zjo kvs k v;omega
  refine wpAny_setItem_heap (hsz:=hz) (vg6 hu) (zfj I.hok eb) dd λ h' dd' hs=>h _ ?_;obtain ⟨q,es,ep,hq,h2,h3,h4,_,h5⟩:=dd';refine qe4 I (by rw [e];exact True.intro) hs ⟨q,hq⟩ ⟨hl,hd,_,(rel.put k eb rv).keeps λ c ys ec=>?_,q,es,ep,hq,h2,h3,h4,h5⟩;rw [zqg (qpk ec e (λ z=>nomatch z))];exact ec
end
section
variable {X:Cx}{pins:List (Addr×Obj)}{σ:St}{H:Hp}{s:va4}{a:Addr}{kvs:List (Key×V)}{k:Key}{u:va2}{A:vc0}{E:va2->va4->Prop}
end
theorem zhp {X:Cx}{pins:List (Addr×Obj)}{σ:St}{H:Hp}{s:va4}{a:Addr}{y:V}{o:Option V} (I:Inv X pins σ H s) (g:DGet H a y o):s.TypeIs (.ref a) "dict" := by
 rcases g with ⟨kvs,k,e,_,_⟩ | ⟨kvs,k,b,e,_,_,_⟩
 ·obtain ⟨_,_,vs,_,dd⟩:=qez I.hok e;exact dd.typeIs
 ·obtain ⟨_,_,xs,_,dd⟩:=qey I.hok e;exact dd.typeIs
section
variable {X:Cx}{o i e value:Expr}{pos pos' tpos:Pos}{td ty tv:TE}
end
theorem qg8 {P:vb0}{w:vb4}{H:Hp} (h:Heap) (hb:vc6 < h.objs.size):zxc P w H (h.push { cls:=.type "dict",data:=.dict #[] }) h.objs.size (.dT []):=
 ⟨jg5 _,beq_eq_false_iff_ne.mpr (vb6 (jc9 hb)),[],.nil,_,#[],0,va7 _ rfl,⟨rfl,rfl,rfl⟩,rfl,rfl,List.nodup_nil⟩
def qmd:TE:=λ _ H Q=>∀ p,H p=none->Q (.ref p) (upd H p (.dT []))
section
variable {X:Cx}{pos:Pos}
theorem qgh:PE X (.Dict [] [] pos) qmd:=λ pins s σ H Q I h=>
 wpAny_Dict_empty ⟨.ref s.heap.objs.size,_,I.laid (a:=s.heap.objs.size) (o:=.dT []) (t':=s.toks) (λ _ _ q=>va3 _ q) (ja8 _) (qg8 s.heap I.big),rfl,h _ (I.hok.fresh (ja8 _))⟩
end
end L2
namespace QQ
open PySem PySem.Spec PyProof.Rows L2
section
variable {M:Fm}{vs:List Nat}{H:Hp}{fps:Fps}{F:List Addr}{Q:VK}
theorem zxm {k:Int}{d:Nat} (h:Leaf M H fps vs F (.int k) d Q):Q (.int k) H:=h (.int k) H [] (λ _ _ h=>h) (by rw [Own];exact ⟨rfl,rfl⟩) (λ _ z=>nomatch z)
theorem zvp {k:Bool}{d:Nat} (h:Leaf M H fps vs F (.bl k) d Q):Q (.bl k) H:=h (.bl k) H [] (λ _ _ h=>h) (by rw [Own];exact ⟨rfl,rfl⟩) (λ _ z=>nomatch z)
theorem qa7 {k:Str}{d:Nat} (h:Leaf M H fps vs F (.str k) d Q):Q (.str k) H:=h (.str k) H [] (λ _ _ h=>h) (by rw [Own];exact ⟨rfl,rfl⟩) (λ _ z=>nomatch z)
theorem zwz {x:PV}{v:V} (h:Leaf M H fps vs F x (dv x) Q) (o:Own M.K H (Zv M vs fps) x 0 v []):Q v H:=h v H [] (λ _ _ h=>h) (o.dv.weak λ a z=>z.elim id λ z=>nomatch z) (λ _ z=>nomatch z)
theorem zqz {p:Addr}{o:HO} (hp:H p=none):∀ a u,H a=some u->upd H p o a=some u:=λ a u h=>by rw [zqg (λ e=>by rw [e,hp] at h;cases h)];exact h
theorem zjp {xs:List PV}{ws:List V} (h:Leaf M H fps vs F (.lst xs) 1 Q) (o:OwnL M.K H (Zv M vs fps) xs 0 ws []) {p:Addr} (hp:H p=none):Q (.ref p) (upd H p (.lst ws)):=by
 refine h (.ref p) _ [p] (zqz hp) ?_ λ a ha=>.inr (by rw [jb4.mp ha];exact hp);rw [Own];refine ⟨p,ws,rfl,.inr ⟨(by decide),[],zqe,rfl,(λ z=>nomatch z),?_⟩⟩;rw [zbk];exact OwnL.move (S:=λ _=>False) (λ a u ha _=>zqz hp a u ha) (λ _ z=>z.elim) (λ a hd nz z=>z.elim nz λ z=>hd (by rw [jb4.mp z];exact hp)) xs 0 ws [] (λ _ z=>nomatch z) o
def atoms:List PV->Bool
 | []=>true
 | x::xs=>zgd x && atoms xs
def qev:PV->Bool
 | .tup xs=>atoms xs
 | x=>zgd x
def qcb:List PV->Bool
 | []=>true
 | x::xs=>qev x && qcb xs
def d1 (xs:List PV):Nat:=if qcb xs=true then om else 1
theorem OwnL.ats {K:Frag}{H:Hp}{Z Z':Addr->Prop}:∀ {xs:List PV}{ws:List V}{d d':Nat},QQ.atoms xs=true->OwnL K H Z xs d' ws []->OwnL K H Z' xs d ws []
 | [],ws,d,_,_,h=>by rw [OwnL] at h ⊢;exact h
 | x::xs,ws,d,_,ha,h=>by
  unfold QQ.atoms at ha;rw [ja4] at ha;rw [OwnL] at h ⊢;obtain ⟨v,s,f1,f2,rfl,ef,dj,h1,h2⟩:=h;obtain ⟨rfl,rfl⟩:f1=[]/\f2=[]:=by simpa using ef.symm
  exact ⟨v,s,[],[],rfl,rfl,dj,(Own.atom ha.1 h1).2,h2.ats ha.2⟩
theorem Own.flat {K:Frag}{H:Hp}{Z Z':Addr->Prop}{x:PV}{v:V}{d d':Nat} (hx:qev x=true) (h:Own K H Z x d' v []):Own K H Z' x d v []:=by
 cases x with
 | tup xs=>
  rw [Own] at h ⊢;obtain ⟨a,vs,e,ha,hl⟩:=h;exact ⟨a,vs,e,ha,hl.ats hx⟩
 | lst _=>cases hx
 | dct _=>cases hx
 | dcl _ _=>cases hx
 | exn _=>exact (Own.atom rfl h).2
 | emp=>exact (Own.atom rfl h).2
 | dko=>exact (Own.atom rfl h).2
 | scr _=>exact (Own.atom rfl h).2
 | non=>exact (Own.atom rfl h).2
 | bl _=>exact (Own.atom rfl h).2
 | int _=>exact (Own.atom rfl h).2
 | str _=>exact (Own.atom rfl h).2
theorem OwnL.ats0 {K:Frag}{H:Hp}{Z:Addr->Prop}:∀ {xs:List PV}{ws:List V}{d:Nat}{f:List Addr},QQ.atoms xs=true->OwnL K H Z xs d ws f->f=[]
 | [],ws,d,f,_,h=>by rw [OwnL] at h;exact h.2
 | x::xs,ws,d,f,ha,h=>by
  unfold QQ.atoms at ha;rw [ja4] at ha;rw [OwnL] at h;obtain ⟨v,s,f1,f2,rfl,rfl,dj,h1,h2⟩:=h;rw [(Own.atom (Z':=Z) (d':=d) ha.1 h1).1,h2.ats0 ha.2];rfl
theorem Own.flatA {K:Frag}{H:Hp}{Z Z':Addr->Prop}{x:PV}{v:V}{d d':Nat}{f:List Addr} (hx:qev x=true) (h:Own K H Z x d v f):f=[]/\Own K H Z' x d' v []:=by
 have e:f=[]:=by
  cases x with
  | tup xs=>
   rw [Own] at h;obtain ⟨a,vs,e,ha,hl⟩:=h;exact hl.ats0 hx
  | lst _=>cases hx
  | dct _=>cases hx
  | dcl _ _=>cases hx
  | exn _=>exact (Own.atom (Z':=Z) (d':=d) rfl h).1
  | emp=>exact (Own.atom (Z':=Z) (d':=d) rfl h).1
  | dko=>exact (Own.atom (Z':=Z) (d':=d) rfl h).1
  | scr _=>exact (Own.atom (Z':=Z) (d':=d) rfl h).1
  | non=>exact (Own.atom (Z':=Z) (d':=d) rfl h).1
  | bl _=>exact (Own.atom (Z':=Z) (d':=d) rfl h).1
  | int _=>exact (Own.atom (Z':=Z) (d':=d) rfl h).1
  | str _=>exact (Own.atom (Z':=Z) (d':=d) rfl h).1
 subst e;exact ⟨rfl,h.flat hx⟩
theorem OwnL.atoms {K:Frag}{H:Hp}{Z Z':Addr->Prop}:∀ {xs:List PV}{ws:List V}{d:Nat},qcb xs=true->OwnL K H Z xs 0 ws []->OwnL K H Z' xs d ws []
 | [],ws,d,_,h=>by rw [OwnL] at h ⊢;exact h
 | x::xs,ws,d,ha,h=>by
  unfold qcb at ha;rw [ja4] at ha;rw [OwnL] at h ⊢;obtain ⟨v,s,f1,f2,rfl,ef,dj,h1,h2⟩:=h;obtain ⟨rfl,rfl⟩:f1=[]/\f2=[]:=by simpa using ef.symm
  exact ⟨v,s,[],[],rfl,rfl,dj,h1.flat ha.1,h2.atoms ha.2⟩
theorem zwf {xs:List PV}{ws:List V} (h:Leaf M H fps vs F (.lst xs) (d1 xs) Q) (o:OwnL M.K H (Zv M vs fps) xs 0 ws []) {p:Addr} (hp:H p=none):Q (.ref p) (upd H p (.lst ws)):=by
 unfold d1 at h;split at h
 ·rename_i ha;refine h (.ref p) _ [p] (zqz hp) ?_ λ a ha=>.inr (by rw [jb4.mp ha];exact hp);rw [Own];refine ⟨p,ws,rfl,.inr ⟨(by decide),[],zqe,rfl,(λ z=>nomatch z),?_⟩⟩;have o':OwnL M.K (upd H p (.lst ws)) (Zv M vs fps) xs 0 ws []:=OwnL.move (S:=λ _=>False) (λ a u ha _=>zqz hp a u ha) (λ _ z=>z.elim) (λ _ _ n=>n) xs 0 ws [] (λ _ z=>nomatch z) o;exact o'.atoms ha
 ·exact zjp h o hp
theorem zpp {xs:List PV}{ws:List V} (h:Leaf M H fps vs F (.tup xs) 0 Q) (o:OwnL M.K H (Zv M vs fps) xs 0 ws []) {p:Addr} (hp:H p=none):Q (.ref p) (upd H p (.tup ws)):=by
 refine h (.ref p) _ [] (zqz hp) ?_ λ a ha=>nomatch ha
 rw [Own];refine ⟨p,ws,rfl,zqe,?_⟩;rw [zgt];exact OwnL.move (S:=λ _=>False) (λ a u ha _=>zqz hp a u ha) (λ _ z=>z.elim) (λ a hd nz z=>z.elim nz λ z=>nomatch z) xs 0 ws [] (λ _ z=>nomatch z) o
theorem zbo {xs:List PV}{ws:List V} (h:Leaf M H fps vs F (.lst xs) om Q) {Z:Addr->Prop} (o:OwnL M.K H Z xs om ws F) {p:Addr} (hp:H p=none):Q (.ref p) (upd H p (.lst ws)):=by
 refine h (.ref p) _ (p::F) (zqz hp) ?_ λ a ha=>(jb6.mp ha).elim (λ e=>.inr (by rw [e];exact hp)) .inl;rw [Own];refine ⟨p,ws,rfl,.inr ⟨(by decide),F,zqe,rfl,λ z=>?_,?_⟩⟩
 ·obtain ⟨ys,e⟩:=OwnL.lsts xs om ws F o p z;rw [hp] at e;cases e
 ·exact OwnL.full xs ws F (OwnL.move (S:=λ _=>False) (Z':=Z) (λ a u ha _=>zqz hp a u ha) (λ _ z=>z.elim) (λ _ _ n=>n) xs om ws F (λ _ _ z=>z) o)
theorem qd7 {xs:List PV}{ws:List V} (h:Leaf M H fps vs F (.tup xs) om Q) {Z:Addr->Prop} (o:OwnL M.K H Z xs om ws F) {p:Addr} (hp:H p=none):Q (.ref p) (upd H p (.tup ws)):=by
 refine h (.ref p) _ F (zqz hp) ?_ λ a ha=>.inl ha;rw [Own];exact ⟨p,ws,rfl,zqe,OwnL.full xs ws F (OwnL.move (S:=λ _=>False) (Z':=Z) (λ a u ha _=>zqz hp a u ha) (λ _ z=>z.elim) (λ _ _ n=>n) xs om ws F (λ _ _ z=>z) o)⟩
end
theorem Own.seqL {K:Frag}{H:Hp}{Z:Addr->Prop}{xs:List PV}{d:Nat}{v:V}{fp:List Addr} (h:Own K H Z (.lst xs) d v fp):∃ a ws,v=.ref a/\SqL K H a ws/\ws.length=xs.length:=by
 rw [Own] at h;obtain ⟨a,ws,e,⟨_,hr,_,ol⟩ | ⟨_,f,ha,_,_,ol⟩⟩:=h
 ·exact ⟨a,ws,e,.inl (.inl hr.1),ol.length⟩
 ·exact ⟨a,ws,e,.inl (.inl ha),ol.length⟩
theorem Own.seqT {K:Frag}{H:Hp}{Z:Addr->Prop}{xs:List PV}{d:Nat}{v:V}{fp:List Addr} (h:Own K H Z (.tup xs) d v fp):∃ a ws,v=.ref a/\SqT K H a ws/\ws.length=xs.length:=by
 rw [Own] at h;obtain ⟨a,ws,e,hr,ol⟩:=h;exact ⟨a,ws,e,.inl (.inl hr),ol.length⟩
theorem Own.coldL {K:Frag}{H:Hp}{Z:Addr->Prop}{xs:List PV}{v:V} (h:Own K H Z (.lst xs) 0 v []):∃ a ws,v=.ref a/\H a=some (.lst ws)/\OwnL K H Z xs 0 ws []:=by
 rw [Own] at h;obtain ⟨a,ws,e,⟨_,hr,_,ol⟩ | ⟨h,_⟩⟩:=h
 ·exact ⟨a,ws,e,hr.1,ol⟩
 ·exact absurd rfl h
theorem Own.coldT {K:Frag}{H:Hp}{Z:Addr->Prop}{xs:List PV}{v:V} (h:Own K H Z (.tup xs) 0 v []):∃ a ws,v=.ref a/\H a=some (.tup ws)/\OwnL K H Z xs 0 ws []:=by
 rw [Own] at h;exact h
theorem OwnL.app {K:Frag}{H:Hp}{Z:Addr->Prop}:∀ {xs ys:List PV}{ws us:List V},OwnL K H Z xs 0 ws []->OwnL K H Z ys 0 us []->OwnL K H Z (xs++ys) 0 (ws++us) []
 | [],ys,ws,us,h,h'=>by rw [OwnL] at h;obtain ⟨rfl,_⟩:=h;exact h'
 | x::xs,ys,ws,us,h,h'=>by
  rw [OwnL] at h;obtain ⟨v,s,f1,f2,rfl,ef,dj,h1,h2⟩:=h;obtain ⟨rfl,rfl⟩:f1=[]/\f2=[]:=by simpa using ef.symm
  show OwnL K H Z (x::(xs++ys)) 0 (v::(s++us)) [];rw [OwnL];exact ⟨v,s++us,[],[],rfl,rfl,λ _ z=>(nomatch z),h1,h2.app h'⟩
theorem OwnL.drop {K:Frag}{H:Hp}{Z:Addr->Prop}:∀ {xs:List PV}{ws:List V} (n:Nat),OwnL K H Z xs 0 ws []->OwnL K H Z (xs.drop n) 0 (ws.drop n) []
 | xs,ws,0,h=>h
 | [],ws,n + 1,h=>by rw [OwnL] at h;obtain ⟨rfl,_⟩:=h;rw [jq1,jq1,OwnL];exact ⟨rfl,rfl⟩
 | x::xs,ws,n + 1,h=>by
  rw [OwnL] at h;obtain ⟨v,s,f1,f2,rfl,ef,dj,h1,h2⟩:=h;obtain ⟨rfl,rfl⟩:f1=[]/\f2=[]:=by simpa using ef.symm
  exact h2.drop n
theorem OwnL.take {K:Frag}{H:Hp}{Z:Addr->Prop}:∀ {xs:List PV}{ws:List V} (n:Nat),OwnL K H Z xs 0 ws []->OwnL K H Z (xs.take n) 0 (ws.take n) []
 | xs,ws,0,h=>by rw [jl3,jl3,OwnL];exact ⟨rfl,rfl⟩
 | [],ws,n + 1,h=>by rw [OwnL] at h;obtain ⟨rfl,_⟩:=h;rw [jn8,jn8,OwnL];exact ⟨rfl,rfl⟩
 | x::xs,ws,n + 1,h=>by
  rw [OwnL] at h;obtain ⟨v,s,f1,f2,rfl,ef,dj,h1,h2⟩:=h;obtain ⟨rfl,rfl⟩:f1=[]/\f2=[]:=by simpa using ef.symm
  rw [jk2,jk2,OwnL];exact ⟨v,s.take n,[],[],rfl,rfl,λ _ z=>(nomatch z),h1,h2.take n⟩
theorem OwnL.nth {K:Frag}{H:Hp}{Z:Addr->Prop}{xs:List PV}{ws:List V}{j:Nat}{x:PV} (h:OwnL K H Z xs 0 ws []) (e:xs[j]?=some x):∃ w,ws[j]?=some w/\Own K H Z x 0 w []:=by
 have hj:j < ws.length:=by rw [h.length];exact (ja9.mp e).1
 obtain ⟨y,e1,e2⟩:=h.get (i:=j) (w:=ws[j]) (by simp [hj]);rw [e] at e1;cases e1;exact ⟨_,by simp [hj],e2⟩
theorem cold {M:Fm}{vs:List Nat}{H:Hp}{fps:Fps}{x:PV}{d:Nat}{v:V}{fp:List Addr} (o:Own M.K H (Zt M vs fps fp) x d v fp) (hf:∀ a∈fp,¬ Zf M fps a):Own M.K H (Zv M vs fps) x 0 v []:=
 Own.freeze (λ _ z=>.inl z) x d v fp (λ a ha z=>hf a ha z.zf) o
def zqh:PV->Nat->PV->Nat->Option (PV×Nat)
 | .int i,_,.int j,_=>some (.int (i + j),om)
 | .lst xs,_,.lst ys,_=>if xs.length + ys.length<=va6 then some (.lst (xs++ys),d1 (xs++ys)) else none
 | .tup xs,_,.tup ys,_=>if xs.length + ys.length<=va6 then some (.tup (xs++ys),0) else none
 | _,_,_,_=>none
def qbz (p:Int->Int->Bool) (g:Int->Int->Int):PV->Nat->PV->Nat->Option (PV×Nat)
 | .int i,_,.int j,_=>if p i j then some (.int (g i j),om) else none
 | _,_,_,_=>none
def pMul (i j:Int):Bool:=(decide (-(2 ^ 64) < i) && decide (i < 2 ^ 64)) || (decide (-(2 ^ 64) < j) && decide (j < 2 ^ 64))
def pDiv (_ j:Int):Bool:=decide (0 < j) && decide (j.natAbs.log2 < 9000)
def pMod (_ j:Int):Bool:=decide (0 < j)
def pPow (i j:Int):Bool:=decide (0<=j) && decide (j<=1000) && decide (i.natAbs < 2 ^ 64)
def zxh:=qbz (λ _ _=>true) (λ i j=>i - j)
def repL (n:Nat) (xs:List PV):List PV:=(ja2 n xs).flatten
def zqs:PV->Nat->PV->Nat->Option (PV×Nat)
 | .int i,_,.int j,_=>if pMul i j then some (.int (i * j),om) else none
 | .lst xs,_,.int k,_=>if -(2 ^ 62)<=k/\k < 2 ^ 62/\xs.length * k.toNat<=va6 then some (.lst (repL k.toNat xs),d1 (repL k.toNat xs)) else none
 | _,_,_,_=>none
def zqq:=qbz pDiv (λ i j=>i / j)
def zws:=qbz pMod (λ i j=>i % j)
def qdt:=qbz pPow (λ i j=>i ^ j.toNat)
section
variable {X:Cx}
theorem qgl:OpR X (vf4 .FloorDiv) (rI (λ _ j=>0 < j/\j.natAbs.log2 < 9000) λ i j=>.int (i / j)):=opI λ i j _ _ _ _ _ hc q=>by
 have h1:(0:Int) < j:=hc.1;exact floordiv_int (by omega) (by rw [Int.fdiv_eq_ediv_of_nonneg i (by omega)];exact q) (.inl (PyProof.noPylong_of_log2 hc.2))
end
theorem zqr {X:Cx}{e:Expr}{t t':TE} (h:PE X e t) (i:∀ σ H Q,t' σ H Q->t σ H Q):PE X e t':=λ pins s σ H Q I q=>h pins s σ H Q I (i σ H Q q)
theorem zbj {X:Cx}{e:Expr}{t t':TT} (h:PT X e t) (i:∀ σ H Q,t' σ H Q->t σ H Q):PT X e t':=λ pins s σ H Q I q=>h pins s σ H Q I (i σ H Q q)
theorem qhz {X:Cx}{e:Expr}{t t':TT} (h:PW X e t) (i:∀ σ H Q,t' σ H Q->t σ H Q):PW X e t':=λ wh pins s σ H Q I q=>h wh pins s σ H Q I (i σ H Q q)
theorem qh6 {X:Cx}{e:List Expr}{t t':TA} (h:PA X e t) (i:∀ σ H Q,t' σ H Q->t σ H Q):PA X e t':=λ p pins s σ H Q I q=>h p pins s σ H Q I (i σ H Q q)
theorem zxl {X:Cx}{e:Stmt}{t t':TS} (h:PS X e t) (i:∀ D σ H,t' D σ H->t D σ H):PS X e t':=λ pins s σ H D I q=>h pins s σ H D I (i D σ H q)
theorem qde {X:Cx}{e:List Stmt}{t t':TS} (h:PSs X e t) (i:∀ D σ H,t' D σ H->t D σ H):PSs X e t':=λ pins s σ H D I q=>h pins s σ H D I (i D σ H q)
section
variable {X:Cx}{M:Fm}{a b:Expr}{f g:Fx}{vs vs':List Nat}{pos:Pos}{σ:St}{H:Hp}{Q:VK}
theorem qgm:OpR X (vf4 .Add) (λ x y H Q=>∃ a b ys,x=.ref a/\y=.ref b/\SqT X.K H a []/\SqT X.K H b ys/\Q (.ref b) H):=by
 intro pins s σ H x y v u Q I rx ry h;obtain ⟨a,b,ys,rfl,rfl,ha,hb,q⟩:=h;cases rx;cases ry;obtain ⟨its,r1,p1,_⟩:=I.tuple ha;obtain ⟨its2,r2,p2,_⟩:=I.tuple hb;cases r1;obtain ⟨⟨cls,dd,data,sl⟩,ho,hc,n,hd⟩:=id p1;obtain ⟨⟨cls2,dd2,data2,sl2⟩,ho2,hc2,n2,hd2⟩:=id p2;simp only at hc hd hc2 hd2;subst hc hd hc2 hd2;exact concat_meets ⟨_,ho,rfl⟩ ⟨_,ho2,rfl⟩ vl5 seq_tuple_add vi5 vi0 (vh8 _ _)
  (tuple_addW0 a b _ its2.toArray n n2 dd dd2 sl sl2 rfl) ⟨ho,ho2,⟨.ref b,H,I,rfl,q⟩⟩
theorem qmt (hv:∀ i∈vs,M.Ms i=false) (hK:M.K=X.K) (ha:PE X a (tE M f vs)) (hb:PE X b (tE M g vs')):PE X (.BinOp a .Add b pos) (tE M (bBin zqh f g) (vs++vs')):=by
 refine zqr (qj3 (qny.or (qnx.or (qke.or qgm))) ha hb) λ σ H Q h=>zwy hv (λ x d y e z c v w H fps f1 f2 Q ho o1 o2 dj nz zd lf=>?_) h;cases x with
 | int i=>
  cases y with
  | int j=>
   cases ho;rw [Own] at o1 o2;exact .inl ⟨i,j,o1.1,o2.1,zxm lf⟩
  | _=>cases ho
 | lst xs=>
  cases y with
  | lst ys=>
   dsimp only [zqh] at ho;split at ho
   ·rename_i hl;cases ho;obtain ⟨p,ws,rfl,hp,ol⟩:=(cold o1 λ a ha=>nz a (ja7 _ ha)).coldL;obtain ⟨p2,us,rfl,hp2,ol2⟩:=(cold o2 λ a ha=>nz a (ja5 _ ha)).coldL;exact .inr (.inl ⟨p,p2,ws,us,rfl,rfl,hp,hp2,by rw [ol.length,ol2.length];exact hl,λ q hq=>zwf lf (ol.app ol2) hq⟩)
   ·cases ho
  | _=>cases ho
 | tup xs=>
  cases y with
  | tup ys=>
   dsimp only [zqh] at ho;split at ho
   ·rename_i hl;cases ho;obtain ⟨p,ws,rfl,hp,ol⟩:=(cold o1 λ a ha=>nz a (ja7 _ ha)).coldT;obtain ⟨p2,us,rfl,hp2,ol2⟩:=(cold o2 λ a ha=>nz a (ja5 _ ha)).coldT;by_cases hw:ws=[]
    ·subst hw;refine .inr (.inr (.inr ⟨p,p2,us,rfl,rfl,.inl (.inl hp),.inl (.inl hp2),?_⟩));have ex:xs=[]:=by
      have:=ol.length
      cases xs with
      | nil=>rfl
      | cons _ _=>simp at this
     subst ex;exact zwz (x:=.tup ys) lf (by rw [Own];exact ⟨p2,us,rfl,hp2,ol2⟩)
    ·refine .inr (.inr (.inl ⟨p,p2,ws,us,rfl,rfl,.inl (.inl hp),.inl (.inl hp2),hw,by rw [ol.length,ol2.length];exact hl,λ hu=>?_,λ hu q hq=>zpp lf (ol.app ol2) hq⟩));subst hu;have ey:ys=[]:=by
      have:=ol2.length
      cases ys with
      | nil=>rfl
      | cons _ _=>simp at this
     subst ey;rw [jh3] at lf;exact zwz (x:=.tup xs) lf (by rw [Own];exact ⟨p,ws,rfl,hp,ol⟩)
   ·cases ho
  | _=>cases ho
 | _=>cases ho
theorem qai {op:vi1}{p:Int->Int->Bool}{k:Int->Int->Int}{C:Int->Int->Prop} (hop:OpR X (vf4 op) (rI C λ i j=>.int (k i j))) (hC:∀ i j,p i j=true->C i j) (hv:∀ i∈vs,M.Ms i=false) (ha:PE X a (tE M f vs)) (hb:PE X b (tE M g vs')):
  PE X (.BinOp a op b pos) (tE M (bBin (qbz p k) f g) (vs++vs')):=by
 refine zqr (qj3 hop ha hb) λ σ H Q h=>zwy hv (λ x d y e z c v w H fps f1 f2 Q ho o1 o2 dj nz zd lf=>?_) h;cases x with
 | int i=>
  cases y with
  | int j=>
   dsimp only [qbz] at ho;split at ho
   ·rename_i hp;cases ho;rw [Own] at o1 o2;exact ⟨i,j,o1.1,o2.1,hC i j hp,zxm lf⟩
   ·cases ho
  | _=>cases ho
 | _=>cases ho
theorem OwnL.rep {K:Frag}{H:Hp}{Z:Addr->Prop}{xs:List PV}{ws:List V} (h:OwnL K H Z xs 0 ws []):∀ n,OwnL K H Z (repL n xs) 0 (ja2 n ws).flatten []
 | 0=>by
  unfold repL;rw [jn3,jn3,jp0,jp0,OwnL];exact ⟨rfl,rfl⟩
 | n + 1=>by
  have:=h.rep n
  unfold repL at this ⊢;rw [jf1,jf1,jg7,jg7];exact h.app this
theorem qkc:OpR X (vf4 .Sub) (rI (λ _ _=>True) λ i j=>.int (i - j)):=opI λ _ _ _ _ _ _ _ _ q=>sub_int q
theorem cMul {i j:Int} (h:pMul i j=true):CMul i j:=by
 unfold pMul at h;simp only [je3,ja4,decide_eq_true_eq] at h;exact h
theorem qmk (hv:∀ i∈vs,M.Ms i=false) (ha:PE X a (tE M f vs)) (hb:PE X b (tE M g vs')):PE X (.BinOp a .Mult b pos) (tE M (bBin zqs f g) (vs++vs')):=by
 refine zqr (qj3 (qnp.or qnm) ha hb) λ σ H Q h=>zwy hv (λ x d y e z c v w H fps f1 f2 Q ho o1 o2 dj nz zd lf=>?_) h;cases x with
 | int i=>
  cases y with
  | int j=>
   dsimp only [zqs] at ho;split at ho
   ·rename_i hp;cases ho;rw [Own] at o1 o2;exact .inl ⟨i,j,o1.1,o2.1,cMul hp,zxm lf⟩
   ·cases ho
  | _=>cases ho
 | lst xs=>
  cases y with
  | int k=>
   dsimp only [zqs] at ho;split at ho
   ·rename_i hl;cases ho;obtain ⟨p,ws,rfl,hp,ol⟩:=(cold o1 λ a ha=>nz a (ja7 _ ha)).coldL;rw [Own] at o2;exact .inr ⟨p,k,ws,rfl,o2.1,hp,by omega,by omega,by rw [ol.length];exact hl.2.2,λ q hq=>zwf lf (ol.rep k.toNat) hq⟩
   ·cases ho
  | _=>cases ho
 | _=>cases ho
theorem cDiv {i j:Int} (h:pDiv i j=true):0 < j/\j.natAbs.log2 < 9000:=by
 unfold pDiv at h;simp only [ja4,decide_eq_true_eq] at h;exact h
theorem cMod {i j:Int} (h:pMod i j=true):0 < j:=by
 unfold pMod at h;simpa using h
theorem cPow {i j:Int} (h:pPow i j=true):CPow i j:=by
 unfold pPow at h;simp only [ja4,decide_eq_true_eq] at h;exact ⟨h.1.1,by omega,h.2⟩
def zyh:PV->Nat->Option (PV×Nat)
 | .int i,_=>some (.int (-i),om)
 | _,_=>none
theorem qmj (ha:PE X a (tE M f vs)):PE X (.UnaryOp .USub a pos) (tE M (bUn zyh f) vs):=by
 refine zqr (qnd qho ha) λ σ H Q h=>qcs (λ x d z c v H fps f1 Q ho o1 nz zd lf=>?_) h;cases x with
 | int i=>cases ho;rw [Own] at o1;exact ⟨i,o1.1,zxm lf⟩
 | _=>cases ho
def zxo (p:Int->Int->Bool):PV->Nat->PV->Nat->Option (PV×Nat)
 | .int i,_,.int j,_=>some (.bl (p i j),om)
 | _,_,_,_=>none
theorem zyp {p:Int->Int->Bool}{x y z:PV}{d e c:Nat}{v w:V}{fps:Fps}{f1 f2 F:List Addr}{Z Z':Addr->Prop} (ho:zxo p x d y e=some (z,c)) (o1:Own M.K H Z x d v f1) (o2:Own M.K H Z' y e w f2) (lf:Leaf M H fps vs F z c Q):rI0 (λ i j=>.bl (p i j)) v w H Q:=by
 cases x with
 | int i=>
  cases y with
  | int j=>
   cases ho;rw [Own] at o1 o2;exact ⟨i,j,o1.1,o2.1,zvp lf⟩
  | _=>cases ho
 | _=>cases ho
def sV:PV->Option V
 | .non=>some .non
 | .bl b=>some (.bl b)
 | .int i=>some (.int i)
 | .str x=>some (.str x)
 | _=>none
def toDL (f:PV->Option vl3):List PV->Option (List vl3)
 | []=>some []
 | x::xs=>match f x,toDL f xs with
  | some a,some r=>some (a::r)
  | _,_=>none
def toD:Nat->PV->Option vl3
 | 0,_=>none
 | n + 1,x=>match x with
  | .non=>some .none
  | .bl b=>some (.bool b)
  | .int i=>some (.int i)
  | .str z=>if PyData.strOk z=true then some (.str z) else none
  | .lst xs=>(toDL (toD n) xs).map .list
  | .tup xs=>(toDL (toD n) xs).map .tuple
  | _=>none
def opEq (neg:Bool) (x:PV) (_:Nat) (y:PV) (_:Nat):Option (PV×Nat):=match toD 20 x,toD 20 y with
 | some a,some b=>some (.bl (neg^^vj4 a b),om)
 | _,_=>none
theorem zpa {f:PV->Option vl3}{n:Nat} (hf:∀ x D,f x=some D->D.canLay0=true/\D.depth<=n):∀ {xs:List PV}{Ds:List vl3},toDL f xs=some Ds->vl0 Ds=true/\vm9 Ds<=n
 | [],Ds,h=>by cases h;rw [vl0,vm9];exact ⟨rfl,jg5 _⟩
 | x::xs,Ds,h=>by
  unfold toDL at h;split at h
  ·rename_i a r h1 h2;cases h;have h3:=hf x a h1;have h4:=zpa hf h2;rw [vl0,vm9,h3.1,h4.1];exact ⟨rfl,Nat.max_le.mpr ⟨h3.2,h4.2⟩⟩
  ·cases h
theorem zki:∀ (n:Nat) (x:PV) (D:vl3),toD n x=some D->D.canLay0=true/\D.depth<=n
 | 0,_,_,h=>by cases h
 | n + 1,x,D,h=>by
  unfold toD at h;cases x with
  | non=>cases h;rw [vf8,vg9] <;> first | exact ⟨rfl,jg5 _⟩ | (intros;contradiction)
  | bl b=>cases h;rw [vf8,vg9] <;> first | exact ⟨rfl,jg5 _⟩ | (intros;contradiction)
  | int i=>cases h;rw [vf8,vg9] <;> first | exact ⟨rfl,jg5 _⟩ | (intros;contradiction)
  | str z=>
   dsimp only at h;split at h
   ·rename_i hz;cases h;rw [vf8,vg9] <;> first | exact ⟨hz,jg5 _⟩ | (intros;contradiction)
   ·cases h
  | lst xs=>
   obtain ⟨Ds,e,rfl⟩:=jb8.mp h
   have:=zpa (zki n) e
   rw [vf8,vg9];exact ⟨this.1,jp1 this.2⟩
  | tup xs=>
   obtain ⟨Ds,e,rfl⟩:=jb8.mp h
   have:=zpa (zki n) e
   rw [vf8,vg9];exact ⟨this.1,jp1 this.2⟩
  | emp=>cases h
  | dko=>cases h
  | scr ns=>cases h
  | dct _=>cases h
  | dcl _ _=>cases h
  | exn _=>cases h
theorem zvw {pins:List (Addr×Obj)}{s:va4}{Z:Addr->Prop} (I:L2.Inv X pins σ H s):∀ (n:Nat) (x:PV) (d:Nat) (v:V) (fp:List Addr) (u:va2) (D:vl3),toD n x=some D->Own X.K H Z x d v fp->RelV v u->∃ as,Reads s.heap u D as
 | 0,_,_,_,_,_,_,h,_,_=>by cases h
 | n + 1,x,d,v,fp,u,D,h,o,r=>by
  have all:∀ (xs:List PV) (d:Nat) (ws:List V) (fp:List Addr) (us:List va2) (Ds:List vl3),toDL (toD n) xs=some Ds->OwnL X.K H Z xs d ws fp->Vals ws us->∃ as,ReadsAll s.heap us Ds as:=λ xs=>by
   induction xs with
   | nil=>
    intro d ws fp us Ds h o r;cases h;rw [OwnL] at o;obtain ⟨rfl,_⟩:=o;cases r;exact ⟨_,.nil⟩
   | cons y ys ih=>
    intro d ws fp us Ds h o r;unfold toDL at h;split at h
    ·rename_i a rr h1 h2;cases h;rw [OwnL] at o;obtain ⟨v,s,f1,f2,rfl,_,_,o1,o2⟩:=o;cases r with
     | cons r1 r2=>
      obtain ⟨as,ra⟩:=zvw I n y d v f1 _ a h1 o1 r1;obtain ⟨bs,rb⟩:=ih d s f2 _ rr h2 o2 r2;exact ⟨_,.cons ra rb⟩
    ·cases h
  unfold toD at h;cases x with
  | non=>cases h;rw [Own] at o;obtain ⟨rfl,_⟩:=o;cases r;exact ⟨_,.none⟩
  | bl b=>cases h;rw [Own] at o;obtain ⟨rfl,_⟩:=o;cases r;exact ⟨_,.bool b⟩
  | int i=>cases h;rw [Own] at o;obtain ⟨rfl,_⟩:=o;obtain ⟨t,rfl⟩:=r;exact ⟨_,.int i t⟩
  | str z=>
   dsimp only at h;split at h
   ·cases h;rw [Own] at o;obtain ⟨rfl,_⟩:=o;obtain ⟨t,rfl⟩:=r;exact ⟨_,.str z t⟩
   ·cases h
  | lst xs=>
   obtain ⟨Ds,e,rfl⟩:=jb8.mp h;have hh:∃ a ws d' f,v=.ref a/\H a=some (.lst ws)/\OwnL X.K H Z xs d' ws f:=by
    rw [Own] at o;obtain ⟨a,ws,ev,⟨_,hr,_,ol⟩ | ⟨_,f,ha,_,_,ol⟩⟩:=o
    ·exact ⟨a,ws,_,_,ev,hr.1,ol⟩
    ·exact ⟨a,ws,_,_,ev,ha,ol⟩
   obtain ⟨a,ws,d',f,rfl,ha,ol⟩:=hh;cases r;obtain ⟨its,rv,⟨ob,nn,e1,e2,e3,e4⟩,_⟩:=I.list (.inl (.inl ha));obtain ⟨as,ra⟩:=all xs d' ws f its Ds e ol rv;exact ⟨_,.list e1 e2 e4 ra⟩
  | tup xs=>
   obtain ⟨Ds,e,rfl⟩:=jb8.mp h;rw [Own] at o;obtain ⟨a,ws,rfl,ha,ol⟩:=o;cases r;obtain ⟨its,rv,⟨ob,e1,e2,nn,e4⟩,_⟩:=I.tuple (.inl (.inl ha));obtain ⟨as,ra⟩:=all xs _ ws fp its Ds e ol rv;exact ⟨_,.tuple e1 e2 e4 ra⟩
  | emp=>cases h
  | dko=>cases h
  | scr ns=>cases h
  | dct _=>cases h
  | dcl _ _=>cases h
  | exn _=>cases h
def rEqD (K:Frag) (neg:Bool):R2:=λ v w H Q=>∃ x y d e Z Z' f1 f2 a b,Own K H Z x d v f1/\Own K H Z' y e w f2/\toD 20 x=some a/\toD 20 y=some b/\Q (.bl (neg^^vj4 a b)) H
theorem qnv (hu:X.A.units + 64 < vl6):OpR X (vb7 .Eq) (rEqD X.K false):=by
 intro pins s σ H v w u u' Q I rx ry h;obtain ⟨x,y,d,e,Z,Z',f1,f2,a,b,o1,o2,h1,h2,q⟩:=h;obtain ⟨as,ra⟩:=zvw I 20 x d v f1 u a h1 o1 rx;obtain ⟨bs,rb⟩:=zvw I 20 y e w f2 u' b h2 o2 ry;have l1:=zki 20 x a h1;have l2:=zki 20 y b h2;exact SeqAt.compareEq_reads ra rb l1.1 l2.1 (by have:=jm4 a.depth b.depth;omega) ⟨.bl _,H,I,rfl,by simpa using q⟩
theorem qno (hu:X.A.units + 64 < vl6):OpR X (vb7 .NotEq) (rEqD X.K true):=by
 intro pins s σ H v w u u' Q I rx ry h;obtain ⟨x,y,d,e,Z,Z',f1,f2,a,b,o1,o2,h1,h2,q⟩:=h;obtain ⟨as,ra⟩:=zvw I 20 x d v f1 u a h1 o1 rx;obtain ⟨bs,rb⟩:=zvw I 20 y e w f2 u' b h2 o2 ry;have l1:=zki 20 x a h1;have l2:=zki 20 y b h2;exact SeqAt.compareNe_reads ra rb l1.1 l2.1 (by have:=jm4 a.depth b.depth;omega) ⟨.bl _,H,I,rfl,by simpa using q⟩
theorem qa8 {neg:Bool}{x y z:PV}{d e c:Nat}{v w:V}{fps:Fps}{f1 f2 F:List Addr}{Z Z':Addr->Prop} (hK:M.K=X.K) (ho:opEq neg x d y e=some (z,c)) (o1:Own M.K H Z x d v f1) (o2:Own M.K H Z' y e w f2) (lf:Leaf M H fps vs F z c Q):rEqD X.K neg v w H Q:=by
 rw [hK] at o1 o2;unfold opEq at ho;split at ho
 ·rename_i a b ea eb;cases ho;exact ⟨x,y,d,e,Z,Z',f1,f2,a,b,o1,o2,ea,eb,zvp lf⟩
 ·cases ho
def keyL:List PV->Option (List Key)
 | []=>some []
 | .int i::r=>(keyL r).map (.inl i::·)
 | .str x::r=>(keyL r).map (.inr x::·)
 | _=>none
theorem zzk {K:Frag}{Z:Addr->Prop}:∀ {xs:List PV}{ws:List V}{d:Nat}{fp:List Addr}{k:List Key},keyL xs=some k->OwnL K H Z xs d ws fp->ws=k.map kV
 | [],ws,d,fp,k,e,h=>by cases e;rw [OwnL] at h;exact h.1
 | .int i::r,ws,d,fp,k,e,h=>by
  obtain ⟨k',e1,rfl⟩:=jb8.mp e;rw [OwnL] at h;obtain ⟨v,s,f1,f2,rfl,ef,dj,h1,h2⟩:=h;rw [Own] at h1;rw [h1.1,zzk e1 h2];rfl
 | .str i::r,ws,d,fp,k,e,h=>by
  obtain ⟨k',e1,rfl⟩:=jb8.mp e;rw [OwnL] at h;obtain ⟨v,s,f1,f2,rfl,ef,dj,h1,h2⟩:=h;rw [Own] at h1;rw [h1.1,zzk e1 h2];rfl
 | .non::_,_,_,_,_,e,_=>by cases e
 | .bl _::_,_,_,_,_,e,_=>by cases e
 | .lst _::_,_,_,_,_,e,_=>by cases e
 | .tup _::_,_,_,_,_,e,_=>by cases e
 | .emp::_,_,_,_,_,e,_=>by cases e
 | .dko::_,_,_,_,_,e,_=>by cases e
 | .scr _::_,_,_,_,_,e,_=>by cases e
 | .dct _::_,_,_,_,_,e,_=>by cases e
 | .dcl _ _::_,_,_,_,_,e,_=>by cases e
 | .exn _::_,_,_,_,_,e,_=>by cases e
def kvX:List (List Key)->List PV->List Key->Option PV
 | k'::ks,x::xs,k=>if k'=k then some x else kvX ks xs k
 | _,_,_=>none
theorem zhg {K:Frag}{Z:Addr->Prop}{k:List Key}:∀ {ks:List (List Key)}{xs:List PV}{ws:List V},OwnL K H Z xs 0 ws []->ks.length=xs.length->(∀ x,kvX ks xs k=some x->∃ w,valV (ks.zip ws) k=some w/\Own K H Z x 0 w [])/\(kvX ks xs k=none->valV (ks.zip ws) k=none)
 | [],[],ws,h,_=>⟨λ x e=>(nomatch e),λ _=>rfl⟩
 | [],_::_,ws,h,e=>by cases e
 | _::_,[],ws,h,e=>by cases e
 | k'::ks,x::xs,ws,h,e=>by
  rw [OwnL] at h;obtain ⟨v,s,f1,f2,rfl,ef,_,o1,o2⟩:=h;obtain ⟨rfl,rfl⟩:f1=[]/\f2=[]:=by simpa using ef.symm
  have ih:=zhg (k:=k) o2 (by simpa using e);rw [ji7];unfold kvX;by_cases hk:k'=k
  ·rw [if_pos hk,zyk (p:=(k',v)) hk];exact ⟨λ y ey=>by cases ey;exact ⟨v,rfl,o1⟩,λ z=>(nomatch z)⟩
  ·rw [if_neg hk,zyl (p:=(k',v)) hk];exact ih
def zqd:PV->Nat->PV->Nat->Option (PV×Nat)
 | .lst xs,_,.int i,_=>(atI xs i).map λ z=>(z,dv z)
 | .tup xs,_,.int i,_=>(atI xs i).map λ z=>(z,dv z)
 | .scr ns,_,.int i,_=>(atI ns i).map λ z=>(.int z,om)
 | .str z,_,.int i,_=>if z.length<=va6 then (atI z.cps.toList i).map λ c=>(.str ⟨#[c]⟩,om) else none
 | .dcl ks xs,_,.tup key,_=>(match keyL key with
  | some k=>(kvX ks xs k).map λ z=>(z,dv z)
  | none=>none)
 | _,_,_,_=>none
def rDG:R2:=λ x y H Q=>∃ a v,x=.ref a/\DGet H a y (some v)/\Q v H
theorem qkp (hu:X.A.units + 1 < vl6):IxR X rDG:=by
 intro value slice pins s σ H x y v u Q I rx ry h hs;obtain ⟨a,w,rfl,g,q⟩:=h;obtain rfl:v=Value.ref a:=rx;exact tail_any (zhp I g) PySem.F.slot_dict_getitem.lookup (qe6 hu I g ry λ w' s' I' rw'=>⟨w,H,I',rw',q⟩) hs
theorem Own.dcl0 {K:Frag}{Z:Addr->Prop}{ks:List (List Key)}{xs:List PV}{v:V} (h:Own K H Z (.dcl ks xs) 0 v []):∃ a ws,v=.ref a/\ks.length=xs.length/\Rd H a (.dT (ks.zip ws))/\¬ Z a/\OwnL K H Z xs 0 ws []:=by
 rw [Own] at h;obtain ⟨a,ws,e,en,⟨_,hr,_,ol⟩ | ⟨h,_⟩⟩:=h
 ·exact ⟨a,ws,e,en,hr.1,hr.2,ol⟩
 ·exact absurd rfl h
theorem zhv {K:Frag}{Z:Addr->Prop}{xs:List PV}{ws:List V}{i:Int}{z:PV} (ol:OwnL K H Z xs 0 ws []) (e:atI xs i=some z):∃ w,atI ws i=some w/\Own K H Z z 0 w []:=by
 unfold atI at e ⊢;rw [ol.length];cases ej:ixN xs.length i with
 | none=>rw [ej] at e;cases e
 | some j=>rw [ej] at e;exact ol.nth e
theorem qhw (hu:X.A.units + 1 < vl6) (hv:∀ i∈vs,M.Ms i=false) (hK:M.K=X.K) (hs:zmf b) (ha:PE X a (tE M f vs)) (hb:PE X b (tE M g vs')):PE X (.Subscript a b pos) (tE M (bBin zqd f g) (vs++vs')):=by
 refine zqr (qni (qia.or (qkp hu)) ha hb hs) λ σ H Q h=>zwy hv (λ x d y e z c v w H fps f1 f2 Q ho o1 o2 dj nz zd lf=>?_) h;cases y with
 | int i=>
  rw [Own] at o2;cases x with
  | lst xs=>
   dsimp only [zqd] at ho;obtain ⟨z',ez,e2⟩:=jb8.mp ho;cases e2;obtain ⟨p,ws,rfl,hp,ol⟩:=(cold o1 λ a ha=>nz a (ja7 _ ha)).coldL;obtain ⟨w',e1,ow⟩:=zhv ol ez;exact .inl (.inl ⟨p,ws,i,w',rfl,o2.1,.inl (.inl hp),e1,zwz lf ow⟩)
  | tup xs=>
   dsimp only [zqd] at ho;obtain ⟨z',ez,e2⟩:=jb8.mp ho;cases e2;obtain ⟨p,ws,rfl,hp,ol⟩:=(cold o1 λ a ha=>nz a (ja7 _ ha)).coldT;obtain ⟨w',e1,ow⟩:=zhv ol ez;exact .inl (.inr (.inl ⟨p,ws,i,w',rfl,o2.1,.inl (.inl hp),e1,zwz lf ow⟩))
  | scr ns=>
   dsimp only [zqd] at ho;obtain ⟨z',ez,e2⟩:=jb8.mp ho;cases e2;rw [Own] at o1;obtain ⟨_,p,rfl,hp⟩:=o1;refine .inl (.inl ⟨p,ns.map V.int,i,.int z',rfl,o2.1,?_,?_,zxm lf⟩)
   ·rw [<- hK];exact hp.elim (λ h=>.inl (.inr h)) .inr
   ·unfold atI at ez ⊢;rw [ja3];cases ej:ixN ns.length i with
    | none=>rw [ej] at ez;cases ez
    | some j=>
     rw [ej] at ez;show (ns.map V.int)[j]?=_;rw [jc7]
     have:ns[j]?=some z':=ez
     rw [this];rfl
  | str z=>
   dsimp only [zqd] at ho;split at ho
   ·rename_i hl;obtain ⟨c',ez,e2⟩:=jb8.mp ho;cases e2;rw [Own] at o1;exact .inl (.inr (.inr ⟨z,i,c',o1.1,o2.1,hl,ez,qa7 lf⟩))
   ·cases ho
  | _=>cases ho
 | tup key=>
  cases x with
  | dcl ks xs=>
   dsimp only [zqd] at ho;split at ho
   ·rename_i k ek;obtain ⟨z',ez,e2⟩:=jb8.mp ho;cases e2;obtain ⟨a,ws,rfl,en,hr,nz',ol⟩:=(cold o1 λ a ha=>nz a (ja7 _ ha)).dcl0;obtain ⟨w',ew,ow⟩:=(zhg (k:=k) ol en).1 _ ez;rw [Own] at o2;obtain ⟨b,us,rfl,hb,okey⟩:=o2
    have:=zzk ek okey
    subst this;exact .inr ⟨a,w',rfl,.inr ⟨_,k,b,hr,rfl,hb,ew.symm⟩,zwz lf ow⟩
   ·cases ho
  | _=>cases ho
 | _=>cases x <;> cases ho
def evO:Option Fx->Rho->Rz (Option Int×Rho)
 | none,ρ=>.ok (none,ρ)
 | some f,ρ=>(f ρ).bind λ (x,_,ρ1)=>match x with
  | .int i=>.ok (some i,ρ1)
  | _=>.no
def cutP (xs:List PV) (lo hi:Option Int):List PV:=(xs.drop (HT.sIx xs.length 0 lo)).take (HT.sIx xs.length xs.length hi - HT.sIx xs.length 0 lo)
def opSl (x:PV) (lo hi:Option Int):Option (PV×Nat):=match x with
 | .lst xs=>some (.lst (cutP xs lo hi),d1 (cutP xs lo hi))
 | .tup xs=>if HT.sIx xs.length 0 lo=0/\HT.sIx xs.length xs.length hi=xs.length then none else some (.tup (cutP xs lo hi),0)
 | _=>none
def bSl (f:Fx) (lo hi:Option Fx):Fx:=λ ρ=>(f ρ).bind λ (x,_,ρ1)=>(evO lo ρ1).bind λ (l,ρ2)=>(evO hi ρ2).bind λ (u,ρ3)=>match opSl x l u with
 | some (z,c)=>.ok (z,c,ρ3)
 | none=>.no
def tO (M:Fm):Option (Fx×List Nat)->TO
 | none=>zgk
 | some (f,vs)=>ql6 (tE M f vs)
theorem qcq {o:Option (Fx×List Nat)}{ρ:Rho}{fps:Fps}{R:Option Int->Hp->Prop} (rep:Rep M ρ σ H fps)
  (q:match evO (o.map (·.1)) ρ with
   | .ok (l,ρ')=>∀ H' fps',KD M H fps H' fps'->Agr M ρ ρ'->Rep M ρ' σ H' fps'->R l H'
   | .exc c=>∀ H' fps',KD M H fps H' fps'->M.W σ c H'
   | .no=>False):tO M o σ H R:=by
 cases o with
 | none=>exact q H fps KD.refl Agr.refl rep
 | some p=>
  obtain ⟨f,vs⟩:=p;refine ⟨ρ,fps,rep,?_⟩;dsimp only [Option.map,evO] at q;cases ef:f ρ with
  | no=>rw [ef] at q;exact q
  | exc c=>rw [ef] at q;exact q
  | ok p=>
   obtain ⟨x,d,ρ1⟩:=p;rw [ef] at q;intro v H1 fps1 f1 k1 g1 rep1 o1 t1;dsimp only [Rz.bind] at q;cases x with
   | int i=>rw [Own] at o1;exact ⟨i,o1.1,q H1 fps1 k1 g1 rep1⟩
   | _=>exact q.elim
theorem qma {lo hi:Option (Fx×List Nat)} (hv:∀ i∈vs,M.Ms i=false) (hK:M.K=X.K) {σ:St}{H:Hp}{Q:VK} (hq:tE M (bSl f (lo.map (·.1)) (hi.map (·.1))) vs σ H Q):tSl (λ x lo hi H Q=>rSlL X.K x lo hi H Q\/rSlT X.K x lo hi H Q) (tE M f vs) (tO M lo) (tO M hi) σ H Q:=by
 obtain ⟨ρ,fps,rep,q⟩:=hq;refine ⟨ρ,fps,rep,?_⟩;unfold bSl at q;cases ef:f ρ with
 | no=>rw [ef] at q;exact q
 | exc c=>rw [ef] at q;exact q
 | ok p=>
  obtain ⟨x,d,ρ1⟩:=p;rw [ef] at q;intro v H1 fps1 f1 k1 g1 rep1 o1 t1;dsimp only [Rz.bind] at q;refine qcq rep1 ?_;cases el:evO (lo.map (·.1)) ρ1 with
  | no=>rw [el] at q;exact q
  | exc c=>rw [el] at q;exact λ H' fps' k=>q H' fps' (k1.trans k)
  | ok p2=>
   obtain ⟨l,ρ2⟩:=p2;rw [el] at q;intro H2 fps2 k2 g2 rep2;refine qcq rep2 ?_;dsimp only at q;cases eh:evO (hi.map (·.1)) ρ2 with
   | no=>rw [eh] at q;exact q
   | exc c=>rw [eh] at q;exact λ H' fps' k=>q H' fps' ((k1.trans k2).trans k)
   | ok p3=>
    obtain ⟨u,ρ3⟩:=p3;rw [eh] at q;intro H3 fps3 k3 g3 rep3;dsimp only at q;have kk:=k2.trans k3;have o3:=kk.stay rep1 hv o1 t1.ndj;have n3:∀ a∈f1,¬ Zf M fps3 a:=λ a ha z=>by
     rcases z with z | ⟨i,z⟩
     ·exact t1.ndj a ha (.inl z)
     ·rcases kk.sub i a z with z | z
      ·exact t1.ndj a ha (.inr ⟨i,z⟩)
      ·obtain ⟨xs,e⟩:=Own.lsts x d v f1 o1 a ha;rw [z] at e;cases e
    have back:∀ a,H3 a=none->H a=none:=λ a e=>by
     cases e':H a with
     | none=>rfl
     | some o=>exact absurd e ((k1.trans kk).dom a (by rw [e'];simp))
    cases eo:opSl x l u with
    | none=>rw [eo] at q;exact q.elim
    | some zc=>
     obtain ⟨z,c⟩:=zc;rw [eo] at q;have lf:Leaf M H3 fps3 vs f1 z c Q:=λ w H4 fp k4 o4 hfp=>q w H4 fps3 fp ((k1.trans kk).trans (KD.grow k4)) (g1.trans (g2.trans g3)) (rep3.grow k4) o4 ⟨λ a ha=>(hfp a ha).elim (t1.new a) (back a),λ a ha=>(hfp a ha).elim (n3 a) λ z=>rep3.nz z⟩;have c0:=cold o3 n3;unfold opSl at eo;cases x with
     | lst xs=>
      cases eo;obtain ⟨p,ws,rfl,hp,ol⟩:=c0.coldL;refine .inl ⟨p,ws,rfl,.inl (.inl hp),λ q hq=>?_⟩;have e:OwnL M.K H3 (Zv M vs fps3) (cutP xs l u) 0 (cutV ws l u) []:=by
       unfold cutP cutV;rw [ol.length];exact (ol.drop _).take _
      exact zwf lf e hq
     | tup xs=>
      dsimp only at eo;split at eo
      ·cases eo
      ·rename_i hw;cases eo;obtain ⟨p,ws,rfl,hp,ol⟩:=c0.coldT;refine .inr ⟨p,ws,rfl,.inl (.inl hp),by rw [ol.length];exact hw,λ q hq=>?_⟩;have e:OwnL M.K H3 (Zv M vs fps3) (cutP xs l u) 0 (cutV ws l u) []:=by
        unfold cutP cutV;rw [ol.length];exact (ol.drop _).take _
       exact zpp lf e hq
     | _=>cases eo
def zmm:PV->String
 | .non => "NoneType"
 | .bl _ => "bool"
 | .int _ => "int"
 | .str _ => "str"
 | .lst _ => "list"
 | .tup _ => "tuple"
 | .emp => "dict"
 | .dko => "dict"
 | .dct _ => "dict"
 | .dcl _ _ => "dict"
 | _ => ""
def isiB (t T:String):Bool:=t == T || (t == "bool" && T == "int")
def isiT:List String:=["int","bool","str","list","tuple","dict"]
def qdv (T:String) (x:PV) (_:Nat):Option (PV×Nat):=match x with
 | .scr _=>none
 | .exn _=>none
 | .dct _=>none
 | .dcl _ _=>none
 | _=>some (.bl (isiB (zmm x) T),om)
theorem Own.ty {K:Frag}{Z:Addr->Prop}{x:PV}{d:Nat}{v:V}{fp:List Addr} (h:Own K H Z x d v fp) (hs:∀ ns,x≠.scr ns) (hx:∀ c,x≠.exn c) (hd1:∀ kvs,x≠.dct kvs) (hd2:∀ ks xs,x≠.dcl ks xs):TyOf K H v (.type (zmm x)):=by
 cases x with
 | non=>rw [Own] at h;rw [h.1];exact .non
 | bl b=>rw [Own] at h;rw [h.1];exact .bl b
 | int i=>rw [Own] at h;rw [h.1];exact .int i
 | str s=>rw [Own] at h;rw [h.1];exact .str s
 | emp=>rw [Own] at h;obtain ⟨_,a,e,ha⟩:=h;rw [e];exact .dK ha
 | dko=>rw [Own] at h;obtain ⟨_,a,e,_,ha⟩:=h;rw [e];exact .dK ha
 | scr ns=>exact absurd rfl (hs ns)
 | exn c=>exact absurd rfl (hx c)
 | dct kvs=>exact absurd rfl (hd1 kvs)
 | dcl ks xs=>exact absurd rfl (hd2 ks xs)
 | lst xs=>
  rw [Own] at h;obtain ⟨a,ws,e,⟨_,hr,_,_⟩ | ⟨_,f,ha,_⟩⟩:=h
  ·rw [e];exact .lst hr.1
  ·rw [e];exact .lst ha
 | tup xs=>
  rw [Own] at h;obtain ⟨a,ws,e,hr,_⟩:=h;rw [e];exact .tup hr
end
section
variable {X:Cx}{M:Fm}{a b:Expr}{f g:Fx}{fa:Fa}{vs vs':List Nat}{pos p:Pos}{σ:St}{H:Hp}{Q:VK}{e:Expr}{es:List Expr}
theorem qmu:PA X [] (tL M aNil []):=qh6 qar λ σ H Q h=>ql9 h
theorem qjj (hv:∀ i∈vs,M.Ms i=false) (ha:PE X e (tE M f vs)) (hr:PA X es (tL M fa vs')) (hs:va9 (e::es) X.env=(false,eval e X.env)::va9 es X.env):PA X (e::es) (tL M (zqa f fa) (vs++vs')):=
 qh6 (zji ha hr hs) λ σ H Q h=>qi6 hv h
theorem zvc {op:List (PV×Nat)->Option (PV×Nat)}{r:List V->Hp->VK->Prop}
  (leaf:∀ xs z c ws H fps fp Q,op xs=some (z,c)->Tmps M.K H (Zv M vs fps) xs ws fp->(∀ a∈fp,¬ Zf M fps a)->(∀ a,Zf M fps a->H a≠none)->Leaf M H fps vs fp z c Q->r ws H Q)
  {σ:St}{H:Hp}{Q:VK} (hq:tE M (zqc op fa) vs σ H Q):tCB r (tL M fa vs) σ H Q:=zpc leaf hq
def zql (xs:List (PV×Nat)):Option (PV×Nat):=if xs.length<=va6 then some (.lst (xs.map (·.1)),if zzr xs then om else 1) else none
def zwa (xs:List (PV×Nat)):Option (PV×Nat):=if xs.length<=va6 then some (.tup (xs.map (·.1)),if zzr xs then om else 0) else none
theorem qml (h:PA X es (tL M fa vs)):PE X (.List es pos) (tE M (zqc zql fa) vs):=by
 refine zqr (qh4 h) λ σ H Q h=>zpc (r:=λ xs H1 Q=>xs.length<=va6/\∀ p,H1 p=none->Q (.ref p) (upd H1 p (.lst xs))) (λ xs z c ws H fps fp Q ho tm nz zd lf=>?_) h;unfold zql at ho;split at ho
 ·rename_i hl;refine ⟨by rw [tm.length];exact hl,λ q hq=>?_⟩;cases eo:zzr xs with
  | true=>rw [eo] at ho;cases ho;exact zbo lf (tm.all (zzz eo)) hq
  | false=>rw [eo] at ho;cases ho;exact zjp lf (tm.cold λ a ha z=>nz a ha z.zf) hq
 ·cases ho
theorem qmi {x1:_} (h:PA X es (tL M fa vs)):PE X (.Tuple es x1 pos) (tE M (zqc zwa fa) vs):=by
 refine zqr (qne h) λ σ H Q h=>zpc (r:=λ xs H1 Q=>xs.length<=va6/\∀ p,H1 p=none->Q (.ref p) (upd H1 p (.tup xs))) (λ xs z c ws H fps fp Q ho tm nz zd lf=>?_) h;unfold zwa at ho;split at ho
 ·rename_i hl;refine ⟨by rw [tm.length];exact hl,λ q hq=>?_⟩;cases eo:zzr xs with
  | true=>rw [eo] at ho;cases ho;exact qd7 lf (tm.all (zzz eo)) hq
  | false=>rw [eo] at ho;cases ho;exact zpp lf (tm.cold λ a ha z=>nz a ha z.zf) hq
 ·cases ho
theorem Inv.big {pins:List (Addr×Obj)}{s:va4} (I:L2.Inv X pins σ H s):vc6 < s.heap.objs.size:=by
 have h:vc3 < s.heap.objs.size:=(I.mod.glob.keeps I.bk).lt;exact jq7 (by decide) h
theorem qj5:PE X (.Dict [] [] pos) (λ _ H Q=>∀ p,H p=none->Q (.ref p) (upd H p (.dK []))):=λ pins s σ H Q I h=>
 wpAny_Dict_empty ⟨.ref s.heap.objs.size,_,I.laid (a:=s.heap.objs.size) (o:=.dK []) (t':=s.toks) (λ _ _ q=>va3 _ q) (ja8 _) ⟨jg5 _,beq_eq_false_iff_ne.mpr (vb6 (jc9 (Inv.big I))),[],.nil,Heap.DictOf.new s.heap⟩,rfl,h _ (I.hok.fresh (ja8 _))⟩
theorem qmp:PE X (.Dict [] [] pos) (tE M (bC .emp) []):=by
 refine zqr qj5 λ σ H Q h p hp=>?_;obtain ⟨ρ,fps,rep,q⟩:=h;refine q (.ref p) _ fps [] (KD.grow (zqz hp)) Agr.refl (rep.grow (zqz hp)) ?_ ⟨λ _ z=>(nomatch z),λ _ z=>nomatch z⟩;rw [Own];exact ⟨rfl,p,rfl,zqe⟩
theorem qhi:zvb X (.builtin "isinstance") (λ xs H Q=>∃ x t T k,xs=[x,.ty T]/\TyOf X.K H x t/\vj7 X.K t (.type T)=some k/\Q (.bl k) H):=by
 intro pins s σ H xs us Q I r h;obtain ⟨x,t,T,k,rfl,ty,hk,q⟩:=h;obtain ⟨u,w,rfl,r1,r2⟩:=qlo r;cases r2;exact qef I r1 ty hk λ tk=>⟨.bl k,H,I.tok _,rfl,q⟩
theorem qn8 (K:Frag) {T:String} (hT:T∈isiT) (x:PV) (hs:∀ ns,x≠.scr ns) (hx:∀ c,x≠.exn c):vj7 K (.type (zmm x)) (.type T)=some (isiB (zmm x) T):=by
 simp only [isiT,jb6,je9,or_false] at hT;cases x with
 | scr ns=>exact absurd rfl (hs ns)
 | exn c=>exact absurd rfl (hx c)
 | _=>rcases hT with h | h | h | h | h | h <;> subst h <;> rfl
theorem qmn {T:String}{x T':Str}{p1 p2:Pos} (hT:T∈isiT) (hK:M.K=X.K) (ha:PE X e (tE M f vs)) (hg:Gl X "isinstance") (hm:X.mg "isinstance" = none) (hT':PE X (.Name T' p2) (tC (.ty T)))
  (hs1:va9 [e,.Name T' p2] X.env=[(false,eval e X.env),(false,eval (.Name T' p2) X.env)]) (hs2:va9 [Expr.Name T' p2] X.env=[(false,eval (.Name T' p2) X.env)]):
  PE X (.Call (.Name "isinstance" p1) [e,.Name T' p2] [] pos) (tE M (bUn (qdv T) f) vs):=by
 refine zqr (zvy qhi hg hm rfl (zji ha (zji hT' qar hs2) (by rw [hs1,hs2])) (he:=by rw [hs1,hs2]) (hpl:=by rw [hs2];rfl)) λ σ H Q h=>?_;refine qcs (r:=λ v H Q=>∃ x t T' k,[v,.ty T]=[x,.ty T']/\TyOf X.K H x t/\vj7 X.K t (.type T')=some k/\Q (.bl k) H) (λ x d z c v H fps f1 Q ho o1 nz zd lf=>?_) h;have hs:∀ ns,x≠.scr ns:=λ ns e=>by subst e;cases ho
 have hx:∀ c,x≠.exn c:=λ c e=>by subst e;cases ho
 have hd1:∀ kvs,x≠.dct kvs:=λ c e=>by subst e;cases ho
 have hd2:∀ ks xs,x≠.dcl ks xs:=λ c d e=>by subst e;cases ho
 have e2:z=.bl (isiB (zmm x) T):=by
  cases x with
  | scr ns=>cases ho
  | exn c=>cases ho
  | dct _=>cases ho
  | dcl _ _=>cases ho
  | _=>cases ho;rfl
 subst e2;exact ⟨v,_,T,_,rfl,by rw [<- hK];exact o1.ty hs hx hd1 hd2,qn8 X.K hT x hs hx,zvp lf⟩
def zxv:List (PV×Nat)->Option (PV×Nat)
 | [(.lst xs,_)]=>some (.int xs.length,om)
 | [(.tup xs,_)]=>some (.int xs.length,om)
 | [(.scr ns,_)]=>some (.int ns.length,om)
 | [(.str z,_)]=>if z.length<=va6 then some (.int z.length,om) else none
 | _=>none
theorem qmm (hK:M.K=X.K) (hg:Gl X "len") (hm:X.mg "len" = none) (ha:PA X (e::es) (tL M fa vs)) (he:va9 (e::es) X.env=(false,eval e X.env)::va9 es X.env) (hpl:(vg0 pos (va9 es X.env)).any (·.1)=false):
  PE X (.Call (.Name "len" p) (e::es) [] pos) (tE M (zqc zxv fa) vs):=by
 refine zqr (zvy (zfy.or zfx) hg hm PySem.boot_len ha (he:=he) (hpl:=hpl)) λ σ H Q h=>zvc (λ xs z c ws H fps fp Q ho tm nz zd lf=>?_) h;unfold zxv at ho;split at ho
 ·rename_i xs d;cases ho;obtain ⟨v,r,f1,f2,rfl,_,_,o1,h2⟩:=tm;obtain ⟨rfl,_⟩:=h2;obtain ⟨q,us,rfl,hs,hl⟩:=o1.seqL;exact .inl ⟨q,us,rfl,.inl (by rw [<- hK];exact hs),by rw [hl];exact zxm lf⟩
 ·rename_i xs d;cases ho;obtain ⟨v,r,f1,f2,rfl,_,_,o1,h2⟩:=tm;obtain ⟨rfl,_⟩:=h2;obtain ⟨q,us,rfl,hs,hl⟩:=o1.seqT;exact .inl ⟨q,us,rfl,.inr (by rw [<- hK];exact hs),by rw [hl];exact zxm lf⟩
 ·rename_i ns d;cases ho;obtain ⟨v,r,f1,f2,rfl,_,_,o1,h2⟩:=tm;obtain ⟨rfl,_⟩:=h2;rw [Own] at o1;obtain ⟨_,q,rfl,hp⟩:=o1;refine .inl ⟨q,ns.map V.int,rfl,.inl ?_,by rw [ja3];exact zxm lf⟩;rw [<- hK];exact hp.elim (λ h=>.inl (.inr h)) .inr
 ·rename_i z d;split at ho
  ·rename_i hl;cases ho;obtain ⟨v,r,f1,f2,rfl,_,_,o1,h2⟩:=tm;obtain ⟨rfl,_⟩:=h2;rw [Own] at o1;obtain ⟨rfl,_⟩:=o1;exact .inr ⟨_,rfl,hl,zxm lf⟩
  ·cases ho
 ·cases ho
def op2 (k:Int->Int->Int):List (PV×Nat)->Option (PV×Nat)
 | [(.int i,_),(.int j,_)]=>some (.int (k i j),om)
 | _=>none
theorem qgr {k:Int->Int->Int}{xs:List (PV×Nat)}{z:PV}{c:Nat}{ws:List V}{fps:Fps}{fp F:List Addr}{Z:Addr->Prop} (ho:op2 k xs=some (z,c)) (tm:Tmps M.K H Z xs ws fp) (lf:Leaf M H fps vs F z c Q):∃ i j,ws=[.int i,.int j]/\Q (.int (k i j)) H:=by
 unfold op2 at ho;split at ho
 ·rename_i i d j e;cases ho;obtain ⟨v,r,f1,f2,rfl,_,_,o1,h2⟩:=tm;obtain ⟨v2,r2,f3,f4,rfl,_,_,o2,h3⟩:=h2;obtain ⟨rfl,_⟩:=h3;rw [Own] at o1 o2;obtain ⟨rfl,_⟩:=o1;obtain ⟨rfl,_⟩:=o2;exact ⟨_,_,rfl,zxm lf⟩
 ·cases ho
def zbl:List (PV×Nat)->Option (PV×Nat)
 | [(.lst xs,_)]=>some (.lst xs,d1 xs)
 | [(.tup xs,_)]=>some (.lst xs,d1 xs)
 | _=>none
theorem qjf (hK:M.K=X.K) (hg:Gl X "list") (hm:X.mg "list" = none) (ha:PA X (e::es) (tL M fa vs)) (he:va9 (e::es) X.env=(false,eval e X.env)::va9 es X.env) (hpl:(vg0 pos (va9 es X.env)).any (·.1)=false):
  PE X (.Call (.Name "list" p) (e::es) [] pos) (tE M (zqc zbl fa) vs):=by
 refine zqr (zfc zfw hg hm rfl ha (he:=he) (hpl:=hpl)) λ σ H Q h=>zvc (λ xs z c ws H fps fp Q ho tm nz zd lf=>?_) h;unfold zbl at ho;split at ho
 ·rename_i xs d;cases ho;obtain ⟨v,r,f1,f2,rfl,rfl,_,o1,h2⟩:=tm;obtain ⟨rfl,rfl⟩:=h2;obtain ⟨q,us,rfl,hs,ol⟩:=(cold (fp:=f1) o1 λ a ha=>nz a (ja7 _ ha)).coldL;exact ⟨q,us,rfl,.inl (.inl (.inl hs)),λ l hl=>zwf lf ol hl⟩
 ·rename_i xs d;cases ho;obtain ⟨v,r,f1,f2,rfl,rfl,_,o1,h2⟩:=tm;obtain ⟨rfl,rfl⟩:=h2;obtain ⟨q,us,rfl,hs,ol⟩:=(cold (fp:=f1) o1 λ a ha=>nz a (ja7 _ ha)).coldT;exact ⟨q,us,rfl,.inr (.inl (.inl hs)),λ l hl=>zwf lf ol hl⟩
 ·cases ho
end
section
variable {X:Cx}{M:Fm}{a b:Expr}{f g:Fx}{fa:Fa}{vs vs':List Nat}{pos p:Pos}{σ:St}{H:Hp}{Q:VK}{e:Expr}{es:List Expr}
theorem qhj (hc:X.calm=true):zvb X (.builtin "all") (λ xs H Q=>∃ (p:Addr) (bs:List Bool),xs=[.ref p]/\SqL X.K H p (bs.map V.bl)/\Q (.bl (bs.all id)) H):=by
 intro pins s σ H xs us Q I r h;obtain ⟨p,bs,rfl,hq,q⟩:=h;obtain ⟨u,rfl,rx⟩:=zbz r;cases rx;obtain ⟨its,rv,pl,hz⟩:=I.list hq;have hl:=rv.length;rw [ja3] at hl;refine call_all_walk (wpAny_pyIter_list pl.isList ?_);have hlt:p < s.heap.objs.size:=by obtain ⟨o,n,e,_⟩:=pl;exact va5 e
 have hne:p≠s.heap.objs.size:=jc9 hlt;refine ⟨s.heap.objs.size,_,_,its.toArray.size,_,_,λ i=>bs.getD i true,rfl,Walks.list (A:=X.A.in1) (show X.A.in1.handled=none from I.ok.hd hc) s.heap.objs.size p hne its.toArray,⟨⟨_,va7 _ rfl,rfl,rfl⟩,?_⟩,?_,λ h' tk k=>?_⟩
 ·exact pl.isList.at λ o e=>va3 _ e
 ·intro i v s' Q' E' hv hq';have hv':its[i]?=some v:=by simpa using hv
  have hi:i < bs.length:=by rw [hl];exact (ja9.mp hv').1
  obtain ⟨w,e1,e2⟩:=rv.get (i:=i) (x:=.bl bs[i]) (by simp [hi]);rw [hv'] at e1;cases e1;cases e2;refine vc1 ?_
  have:bs.getD i true=bs[i]:=by simp [jq8,hi]
  dsimp only at hq';rw [this] at hq';exact hq'
 ·have I1:L2.Inv X pins σ H { s with heap:=s.heap.push { cls:=.type "list_iterator",data:=.fields #[.ref p,vj1 0] } }:=I.kept (t':=s.toks) λ b o e=>va3 _ e;obtain ⟨f0,f1,f2,f3,f4,f5⟩:=I.fpOk (H':=H) (ja8 s.heap.objs.size) (I.hok.fresh (ja8 _));have I2:L2.Inv X pins σ H { s with heap:=h',toks:=tk }:=I1.turned (t':=tk) (λ b o hb e=>k b o (by simpa using hb) e) f0 f1 f3 f4 f5;refine ⟨.bl _,H,I2,rfl,?_⟩;have e:(jb0 its.toArray.size).all (λ i=>bs.getD i true)=bs.all id:=by
   rw [jb5,<- hl];rw [je1];simp only [jc1,jd0,id];constructor
   ·intro h x hx;obtain ⟨i,hi,rfl⟩:=ji2 hx
    have:=h i hi
    simpa [jq8,hi] using this
   ·intro h i hi;simp [jq8,hi];exact h _ (ji0 hi)
  rw [e];exact q
def allB:List PV->Option (List Bool)
 | []=>some []
 | .bl b::r=>(allB r).map (b::·)
 | _=>none
def qb0:List (PV×Nat)->Option (PV×Nat)
 | [(.lst xs,_)]=>(allB xs).map λ bs=>(.bl (bs.all id),om)
 | _=>none
theorem qbm {K:Frag}{Z:Addr->Prop}:∀ {xs:List PV}{ws:List V}{bs:List Bool},allB xs=some bs->OwnL K H Z xs 0 ws []->ws=bs.map V.bl
 | [],ws,bs,e,h=>by cases e;rw [OwnL] at h;exact h.1
 | .bl b::r,ws,bs,e,h=>by
  obtain ⟨bs',e1,rfl⟩:=jb8.mp e;rw [OwnL] at h;obtain ⟨v,s,f1,f2,rfl,ef,dj,h1,h2⟩:=h;obtain ⟨rfl,rfl⟩:f1=[]/\f2=[]:=by simpa using ef.symm
  rw [Own] at h1;rw [h1.1,qbm e1 h2];rfl
 | .non::_,_,_,e,_=>by cases e
 | .int _::_,_,_,e,_=>by cases e
 | .str _::_,_,_,e,_=>by cases e
 | .lst _::_,_,_,e,_=>by cases e
 | .tup _::_,_,_,e,_=>by cases e
 | .emp::_,_,_,e,_=>by cases e
 | .dko::_,_,_,e,_=>by cases e
 | .scr _::_,_,_,e,_=>by cases e
 | .dct _::_,_,_,e,_=>by cases e
 | .dcl _ _::_,_,_,e,_=>by cases e
 | .exn _::_,_,_,e,_=>by cases e
theorem qms (hc:X.calm=true) (hg:Gl X "all") (hm:X.mg "all" = none) (ha:PA X (e::es) (tL M fa vs)) (he:va9 (e::es) X.env=(false,eval e X.env)::va9 es X.env) (hpl:(vg0 pos (va9 es X.env)).any (·.1)=false):
  PE X (.Call (.Name "all" p) (e::es) [] pos) (tE M (zqc qb0 fa) vs):=by
 refine zqr (zvy (qhj hc) hg hm rfl ha (he:=he) (hpl:=hpl)) λ σ H Q h=>zvc (λ xs z c ws H fps fp Q ho tm nz zd lf=>?_) h;unfold qb0 at ho;split at ho
 ·rename_i xs d;obtain ⟨bs,eb,e2⟩:=jb8.mp ho;cases e2;obtain ⟨v,r,f1,f2,rfl,rfl,_,o1,h2⟩:=tm;obtain ⟨rfl,rfl⟩:=h2;obtain ⟨q,us,rfl,hs,ol⟩:=(cold (fp:=f1) o1 λ a ha=>nz a (ja7 _ ha)).coldL
  have:=qbm eb ol
  subst this;exact ⟨q,bs,rfl,.inl (.inl hs),zvp lf⟩
 ·cases ho
def zvj:List PV->Option (List Int)
 | []=>some []
 | .int i::r=>(zvj r).map (i::·)
 | _=>none
theorem zzb {K:Frag}{Z:Addr->Prop}:∀ {xs:List PV}{ws:List V}{ns:List Int},zvj xs=some ns->OwnL K H Z xs 0 ws []->ws=ns.map V.int
 | [],ws,ns,e,h=>by cases e;rw [OwnL] at h;exact h.1
 | .int b::r,ws,ns,e,h=>by
  obtain ⟨ns',e1,rfl⟩:=jb8.mp e;rw [OwnL] at h;obtain ⟨v,s,f1,f2,rfl,ef,dj,h1,h2⟩:=h;obtain ⟨rfl,rfl⟩:f1=[]/\f2=[]:=by simpa using ef.symm
  rw [Own] at h1;rw [h1.1,zzb e1 h2];rfl
 | .non::_,_,_,e,_=>by cases e
 | .bl _::_,_,_,e,_=>by cases e
 | .str _::_,_,_,e,_=>by cases e
 | .lst _::_,_,_,e,_=>by cases e
 | .tup _::_,_,_,e,_=>by cases e
 | .emp::_,_,_,e,_=>by cases e
 | .dko::_,_,_,e,_=>by cases e
 | .scr _::_,_,_,e,_=>by cases e
 | .dct _::_,_,_,e,_=>by cases e
 | .dcl _ _::_,_,_,e,_=>by cases e
 | .exn _::_,_,_,e,_=>by cases e
theorem zza:∀ {ns:List Int}{its:List va2},Vals (ns.map V.int) its->∃ xs:List (Int×Tok),its=xs.map (λ p=>Value.int p.1 p.2)/\xs.map (·.1)=ns
 | [],its,h=>by cases h;exact ⟨[],rfl,rfl⟩
 | n::ns,its,h=>by
  cases h with
  | cons r rr=>
   obtain ⟨t,rfl⟩:=r;obtain ⟨xs,rfl,rfl⟩:=zza rr;exact ⟨(n,t)::xs,rfl,rfl⟩
def zyf (ns:List Int):Bool:=decide (ns.length<=2 ^ 20) && ns.all λ i=>decide (-(2 ^ 40)<=i) && decide (i<=2 ^ 40)
theorem qcw {ns:List Int} (h:∀ i∈ns,-(2 ^ 40)<=i/\i<=2 ^ 40):∀ j:Nat,-(2 ^ 40) * (j:Int)<=(ns.take j).sum/\(ns.take j).sum<=2 ^ 40 * (j:Int):=by
 induction ns with
 | nil=>intro j;rw [jn8,jq9];omega
 | cons n ns ih=>
  intro j;cases j with
  | zero=>rw [jl3,jq9];omega
  | succ j=>
   have:=ih (λ i hi=>h i (ja0 _ hi)) j
   have hn:=h n ja1;rw [jk2,jn9];omega
theorem qfh (hc:X.calm=true):zvb X (.builtin "sum") (λ xs H Q=>∃ (p:Addr) (ns:List Int),xs=[.ref p]/\SqL X.K H p (ns.map V.int)/\zyf ns=true/\Q (.int ns.sum) H):=by
 intro pins s σ H xs us Q I r h;obtain ⟨p,ns,rfl,hq,hn,q⟩:=h;obtain ⟨u,rfl,rx⟩:=zbz r;cases rx;obtain ⟨its,rv,pl,hz⟩:=I.list hq;obtain ⟨zs,rfl,rfl⟩:=zza rv;have e:(zs.map λ p=>Value.int p.1 p.2).toArray=ve4 zs.toArray:=by simp [ve4]
 rw [e] at pl;unfold zyf at hn;rw [ja4] at hn;have hl:(zs.map (·.1)).length<=2 ^ 20:=by simpa using hn.1
 have hb:∀ i∈zs.map (·.1),-(2 ^ 40)<=i/\i<=2 ^ 40:=λ i hi=>by
  have:=jc1.mp hn.2 i hi
  rw [ja4] at this;exact ⟨of_decide_eq_true this.1,of_decide_eq_true this.2⟩
 have sz:zs.toArray.size=zs.length:=by simp
 rw [ja3] at hl;have pre:∀ j,preSum (vh6 zs.toArray) j=((zs.map (·.1)).take j).sum:=λ j=>by
  rw [preSum_eq]
 refine sum_intList (I.ok.hd hc) pl.isList (λ j hj=>⟨?_,?_⟩) λ h' tk t' k=>⟨.int _,H,I.kept (t':=tk) k,⟨t',rfl⟩,?_⟩
 ·have e1:vh6 zs.toArray j=zs[j].1:=by unfold vh6;simp [show j < zs.length by omega]
  have:=hb (zs[j]'(by omega)).1 (jd4.mpr ⟨_,ji0 _,rfl⟩)
  rw [e1];unfold InLong;omega
 ·have:=qcw hb (j + 1)
  rw [pre];unfold InLong;omega
 ·rw [pre,sz]
  have:((zs.map (·.1)).take zs.length)=zs.map (·.1):=by
   rw [ji9];simp
  rw [this];exact q
def zvn:List (PV×Nat)->Option (PV×Nat)
 | [(.lst xs,_)]=>match zvj xs with
  | some ns=>if zyf ns=true then some (.int ns.sum,om) else none
  | none=>none
 | [(.tup xs,_)]=>match zvj xs with
  | some ns=>some (.int ns.sum,om)
  | none=>none
 | _=>none
theorem qfg (hc:X.calm=true):zvb X (.builtin "sum") (λ xs H Q=>∃ (p:Addr) (ns:List Int),xs=[.ref p]/\SqT X.K H p (ns.map V.int)/\Q (.int ns.sum) H):=by
 intro pins s σ H xs us Q I r h;obtain ⟨p,ns,rfl,hq,q⟩:=h;obtain ⟨u,rfl,rx⟩:=zbz r;cases rx;obtain ⟨its,rv,pl,hz⟩:=I.tuple hq;obtain ⟨zs,rfl,rfl⟩:=zza rv;have e:(zs.map λ p=>Value.int p.1 p.2).toArray=ve4 zs.toArray:=by simp [ve4]
 rw [e] at pl;refine PySem.W.ktm_sumG (I.ok.hd hc) (show s.heap.IsTuple p (ve4 zs.toArray) from pl) λ h' tk t' k=>⟨.int _,H,I.kept (t':=tk) k,⟨t',rfl⟩,?_⟩
 rw [preSum_eq,ji9 (by simp)];exact q
theorem qjc (hc:X.calm=true) (hg:Gl X "sum") (hm:X.mg "sum" = none) (ha:PA X (e::es) (tL M fa vs)) (he:va9 (e::es) X.env=(false,eval e X.env)::va9 es X.env) (hpl:(vg0 pos (va9 es X.env)).any (·.1)=false):
  PE X (.Call (.Name "sum" p) (e::es) [] pos) (tE M (zqc zvn fa) vs):=by
 refine zqr (zvy ((qfh hc).or (qfg hc)) hg hm rfl ha (he:=he) (hpl:=hpl)) λ σ H Q h=>zvc (λ xs z c ws H fps fp Q ho tm nz zd lf=>?_) h;unfold zvn at ho;split at ho
 ·rename_i xs d;split at ho
  ·rename_i ns eb;split at ho
   ·rename_i hk;cases ho;obtain ⟨v,r',f1,f2,rfl,rfl,_,o1,h2⟩:=tm;obtain ⟨rfl,rfl⟩:=h2;obtain ⟨q,us,rfl,hs,ol⟩:=(cold (fp:=f1) o1 λ a ha=>nz a (ja7 _ ha)).coldL
    have:=zzb eb ol
    subst this;exact .inl ⟨q,ns,rfl,.inl (.inl hs),hk,zxm lf⟩
   ·cases ho
  ·cases ho
 ·rename_i xs d;split at ho
  ·rename_i ns eb;cases ho;obtain ⟨v,r',f1,f2,rfl,rfl,_,o1,h2⟩:=tm;obtain ⟨rfl,rfl⟩:=h2;obtain ⟨q,us,rfl,hs,ol⟩:=(cold (fp:=f1) o1 λ a ha=>nz a (ja7 _ ha)).coldT
   have:=zzb eb ol
   subst this;exact .inr ⟨q,ns,rfl,.inl (.inl hs),zxm lf⟩
  ·cases ho
 ·cases ho
abbrev Fn:=List PV->Rz (PV×Nat×PV)
def spF (K:Frag) (io:Bool) (n:Nat) (F:Fn):Sp:=λ ws H Q E=>ws.length=n/\∃ (xs:List PV) (Zo:Addr->Prop) (x0:PV) (v0:V) (fp0:List Addr),
 (∀ a,Zo a->H a≠none)/\(∀ a∈fp0,¬ Zo a)/\(io=false->fp0=[]/\OwnL K H Zo xs 0 ws []) /\
 (io=true->∃ xr wr,xs=x0::xr/\ws=v0::wr/\Own K H (λ _=>True) x0 om v0 fp0/\OwnL K H (λ a=>Zo a\/a∈fp0) xr 0 wr []) /\
 (match F xs with
  | .ok (y,d,z0)=>∀ v H' fp fp0',Keep (λ a=>a∈fp0) H H'->(∀ a,H a≠none->H' a≠none)->(∀ a∈fp0',a∈fp0\/H a=none)->(∀ a∈fp0',¬ Zo a)->(io=false->fp0'=[])->(io=true->Own K H' (λ _=>True) z0 om v0 fp0') ->
    Own K H' (λ a=>(Zo a\/a∈fp0')\/a∈fp) y d v fp->(∀ a∈fp,H a=none/\¬ (Zo a\/a∈fp0'))->Q v H'
  | .exc c=>∀ H',Keep (λ a=>a∈fp0) H H'->(∀ a,H a≠none->H' a≠none)->E (.int (c:Int) 0) none H'
  | .no=>False)
def zqf (F:Fn) (fa:Fa):Fx:=λ ρ=>(fa ρ).bind λ (xs,ρ1)=>match F (xs.map (·.1)) with
 | .ok (y,d,_)=>.ok (y,d,ρ1)
 | .exc c=>.exc c
 | .no=>.no
theorem qi8 {F:Fn}{n:Nat} (hF:∀ xs,xs.length≠n->F xs=.no) {σ:St}{H:Hp}{Q:VK} (hq:tE M (zqf F fa) vs σ H Q):qht (spF M.K false n F) M.W (tL M fa vs) σ H Q:=by
 obtain ⟨ρ,fps,rep,q⟩:=hq;refine ⟨ρ,fps,rep,?_⟩;unfold zqf at q;cases ef:fa ρ with
 | no=>rw [ef] at q;exact q
 | exc c=>rw [ef] at q;exact q
 | ok p=>
  obtain ⟨xs,ρ1⟩:=p;rw [ef] at q;intro ws H1 fps1 f1 k1 g1 rep1 o1 t1;dsimp only [Rz.bind] at q;have back:∀ a,H1 a=none->H a=none:=λ a e=>by
   cases e':H a with
   | none=>rfl
   | some o=>exact absurd e (k1.dom a (by rw [e'];simp))
  show spF M.K false n F ws H1 Q (XEof (M.W σ));have hlen:xs.length=n:=by
   by_cases e:xs.length=n
   ·exact e
   ·rw [hF (xs.map (·.1)) (by rw [ja3];exact e)] at q;exact q.elim
  refine ⟨by rw [o1.length,hlen],xs.map (·.1),Zv M vs fps1,.non,.non,[],λ a z=>rep1.zdom z.zf,λ _ z=>(nomatch z),λ _=>⟨rfl,o1.cold λ a ha z=>t1.ndj a ha z.zf⟩,(λ h=>nomatch h),?_⟩;cases eF:F (xs.map (·.1)) with
  | no=>rw [eF] at q;exact q
  | exc c=>
   rw [eF] at q;exact λ H' kp _=>q H' fps1 (k1.trans (KD.grow λ a o h=>kp a o h λ z=>nomatch z))
  | ok r=>
   obtain ⟨y,d,z0⟩:=r;rw [eF] at q;intro v H' fp fp0' kp dm _ _ h0 _ oy hf;have e0:=h0 rfl;subst e0;have kk:∀ a o,H1 a=some o->H' a=some o:=λ a o h=>kp a o h λ z=>nomatch z
   refine q v H' fps1 fp (k1.trans (KD.grow kk)) g1 (rep1.grow kk) (oy.weak λ a h=>h.elim (λ h=>.inl (.inl h)) .inr) ⟨λ a ha=>back a (hf a ha).1,λ a ha=>rep1.nz (hf a ha).1⟩
end
section
variable {prog:vb0}{w:vb4}{A:vc0}{E:va2->va4->Prop}{s:va4}
structure ZApart (zz ti to p1 p2 q1 q2:Addr):Prop where
 ne1:ti≠zz
 ne2:to≠zz
 ne3:p1≠zz
 ne4:p2≠zz
 ne5:ti≠to
 ne6:ti≠p1
 ne7:ti≠p2
 ne8:to≠p1
 ne9:to≠p2
 nea:p1≠p2
 neb:q1≠zz
 nec:q1≠to
 ned:q1≠p1
 nee:q1≠p2
 nef:q2≠zz
 neg:q2≠to
 neh:q2≠p1
 nei:q2≠p2
section
variable {zz ti to p1 p2 q1 q2:Addr}{n1 n2:Nat}{us vs:Array va2}{u v a b:va2}
end
end
section
variable {X:Cx}{pins:List (Addr×Obj)}{σ:St}{H:Hp}{s:va4}{h':Heap}
theorem zbp {fp:List Addr}{a:Addr}{o:HO}{t':Nat} (I:Inv X pins σ H s) (k:∀ b u,b∉fp->s.heap.get? b=some u->h'.get? b=some u) (hf:∀ b∈fp,FpOk X pins H b) (ha:s.heap.objs.size<=a) (new:zxc X.prog X.w (upd H a o) h' a o):
  Inv X pins σ (upd H a o) { s with heap:=h',toks:=t' }:=by
 have hn:H a=none:=I.hok.fresh ha;have nfp:∀ b u,H b=some u->b∉fp:=λ b u e z=>by rw [(hf b z).1] at e;cases e
 have up:∀ b u,H b=some u->upd H a o b=some u:=λ b u e=>by rw [zqg (λ z=>by rw [z,hn] at e;cases e)];exact e
 refine I.step (g':=s.gens) (d':=s.drawn) (ch:=fp) (λ b hb=>?_) (λ b u _ _ hc e _=>k b u hc e) (λ b u _ _ hc e _=>⟨u.slots,k b u hc e⟩) (λ b u _ e n=>?_) (λ b u hc e=>⟨u,k b u hc e⟩) (λ b xs e=>up b _ e) (λ b _ _ e=>up b _ e) (λ b ps e=>⟨#[],by rw [up b _ e];simp⟩) (λ m hm=>?_) (λ b u e=>?_) I.bare
 ·obtain ⟨_,f1,_,f3,f4,f5⟩:=hf b hb;exact ⟨f3,f1,f4,f5⟩
 ·rw [zqg (λ z=>by rw [z] at e;exact absurd (va5 e) (Nat.not_lt.mpr ha))];exact n
 ·obtain ⟨u,es,ep,ho,r⟩:=hm;exact ⟨u,es,ep,k _ u (λ z=>(hf _ z).2.1 rfl) ho,r⟩
 ·by_cases eb:b=a
  ·subst eb;rw [zqe] at e;cases e;exact new
  ·rw [zqg eb] at e;refine (I.hok b u e).stay (λ c v hc q=>k c v ?_ q) (λ c q=>up c _ q) λ c xs q=>up c _ q;rcases hc with z | z
   ·rw [z];exact nfp b u e
   ·exact nfp c _ z
theorem zjr {fp:List Addr}{t':Nat} (I:Inv X pins σ H s) (k:∀ b u,b∉fp->s.heap.get? b=some u->h'.get? b=some u) (hf:∀ b∈fp,FpOk X pins H b):Inv X pins σ H { s with heap:=h',toks:=t' }:=by
 have nfp:∀ b u,H b=some u->b∉fp:=λ b u e z=>by rw [(hf b z).1] at e;cases e
 refine I.step (g':=s.gens) (d':=s.drawn) (ch:=fp) (λ b hb=>?_) (λ b u _ _ hc e _=>k b u hc e) (λ b u _ _ hc e _=>⟨u.slots,k b u hc e⟩) (λ _ _ _ _ n=>n) (λ b u hc e=>⟨u,k b u hc e⟩) (λ _ _ e=>e) (λ _ _ _ e=>e) (λ b ps e=>⟨#[],by rw [e];simp⟩) (λ m hm=>?_) (λ b u e=>?_) I.bare
 ·obtain ⟨_,f1,_,f3,f4,f5⟩:=hf b hb;exact ⟨f3,f1,f4,f5⟩
 ·obtain ⟨u,es,ep,ho,r⟩:=hm;exact ⟨u,es,ep,k _ u (λ z=>(hf _ z).2.1 rfl) ho,r⟩
 ·refine (I.hok b u e).stay (λ c v hc q=>k c v ?_ q) (λ _ q=>q) λ _ _ q=>q;rcases hc with z | z
  ·rw [z];exact nfp b u e
  ·exact nfp c _ z
end
def ItRv (K:Frag) (a:Addr) (n:Nat):It:=
 ⟨λ i H=>i < n/\∃ xs x,SqL K H a xs/\xs[n - 1 - i]?=some x,λ i H x H'=>H'=H/\∀ xs,SqL K H a xs->xs[n - 1 - i]?=some x,λ i _=>n<=i⟩
def ItEn (K:Frag) (a:Addr):It:=
 ⟨λ i H=>∃ xs x,SqL K H a xs/\xs[i]?=some x,λ i H v H'=>∃ T x,H T=none/\v=.ref T/\H'=upd H T (.tup [.int (i:Int),x])/\∀ xs,SqL K H a xs->xs[i]?=some x,λ i H=>∃ xs,SqL K H a xs/\xs.length<=i⟩
theorem qci {P:vb0}{w:vb4}{K:Frag}{es:List Expr}{k:Nat}{pos:Pos} (a e it:Addr) (hne:e≠it):Turn P w K (.Tuple es k pos) (ItEn K a) [e,it] e (λ i h=>(∃ old,IsEnum h e it (i:Int) old)/\h.IsListIter it a i) where
 mem:=by simp
 obj:=λ i h st b hb=>by
  obtain ⟨⟨old,he⟩,o,ho,c,d⟩:=st;rcases jb6.mp hb with z | z
  ·rw [z];exact ⟨_,he,λ v z=>by cases z⟩
  ·rw [jb4.mp z];exact ⟨o,ho,λ v z=>by rw [d] at z;cases z⟩
 keep:=λ i h h' st k=>by
  obtain ⟨⟨old,he⟩,hi⟩:=st;exact ⟨⟨old,k e (by simp) _ he⟩,hi.at λ o x=>k it (by simp) o x⟩
 item:=by
  intro X hP hw hK hc i pins s σ H E I hf st hg;subst hP hw hK;obtain ⟨xs,x,hq,hx⟩:=hg;obtain ⟨its,rv,p,hz⟩:=I.list hq;obtain ⟨u,hu,ru⟩:=rv.get hx;obtain ⟨⟨old,he⟩,hit⟩:=st;refine wpAny_pyNext_enum_item he hit p.isList (x:=u) (by simpa using hu) hne λ h' ho hit' hT hsz hk=>⟨_,rfl,?_⟩
  refine wpAny_letOwnedTupleGo_enum ho λ h2 he2 hs2=>?_;have hs0:s.heap.objs.size≠e:=jg0 (va5 he);have hn:H s.heap.objs.size=none:=I.hok.fresh (ja8 _);have hT2:h2.get? s.heap.objs.size=some { cls:=.type "tuple",data:=.seq #[.int (i:Int) s.toks,u] }:=(hs2.2 _ hs0).trans hT;have I1:Inv X pins σ (upd H s.heap.objs.size (.tup [.int (i:Int),x])) { s with heap:=h2,toks:=s.toks + 1 }:=by
   refine zbp (fp:=[e,it]) I (λ b u hb q=>(hs2.2 b (λ z=>hb (by simp [z]))).trans (hk b u (λ z=>hb (by simp [z])) (λ z=>hb (by simp [z])) q)) hf (ja8 _) ?_;exact ⟨jd1 (by decide:2<=1000) (by decide),_,.cons ⟨_,rfl⟩ (.cons ru .nil),⟨_,hT2,rfl,_,rfl⟩⟩
  refine ⟨.ref s.heap.objs.size,_,I1,rfl,⟨_,x,hn,rfl,rfl,λ ys hy=>by rw [I.list_inj hy hq];exact hx⟩,⟨⟨u,?_⟩,hit'.at λ o q=>(hs2.2 it (vb6 hne)).trans q⟩,λ b hb=>?_⟩
  ·rw [show ((i + 1:Nat):Int)=(i:Int) + 1 by omega];exact he2
  ·have hb':=(hf b hb).1;rw [zqg (λ z=>?_)]
   ·exact hb'
   ·rcases jb6.mp hb with y | y
    ·rw [y] at z;exact hs0 z.symm
    ·rw [jb4.mp y] at z;obtain ⟨o,q,_⟩:=hit;exact absurd (va5 q) (by rw [z];exact jd6 _)
 done:=by
  intro X hP hw hK hc i pins s σ H E I hf st hg;subst hP hw hK;obtain ⟨xs,hq,hx⟩:=hg;obtain ⟨its,rv,p,hz⟩:=I.list hq;obtain ⟨⟨old,he⟩,hit⟩:=st;have hl:=rv.length;exact wpAny_pyNext_enum_end (I.ok.hd hc) he hit p.isList (jg2 (by simp;omega)) λ h' eb=>⟨rfl,zjr (t':=s.toks) I (λ b o hb q=>eb b o (λ z=>hb (by simp [z])) q) hf⟩
 self:=λ _ _ _ _ _ st h=>by
  obtain ⟨⟨old,he⟩,_⟩:=st;exact wpAny_pyIter_enum he h
def ItZp (K:Frag) (a b:Addr):It:=
 ⟨λ i H=>∃ xs ys x y,SqL K H a xs/\SqL K H b ys/\xs[i]?=some x/\ys[i]?=some y,λ i H v H'=>∃ T x y,H T=none/\v=.ref T/\H'=upd H T (.tup [x,y])/\∀ xs ys,SqL K H a xs->SqL K H b ys->xs[i]?=some x/\ys[i]?=some y,λ i H=>∃ xs ys,SqL K H a xs/\SqL K H b ys/\(xs.length<=i\/ys.length<=i)⟩
theorem zmh {h:Heap}{z TI TO i1 i2 l1 l2:Addr}{f0:va2}{a b c d:va2}{k1 k2:Nat}{xs ys:Array va2} (hTT:TI≠TO) (h12:i1≠i2) (hz:IsZip h z TI TO f0) (hTI:IsPair h TI a b) (hTO:IsPair h TO c d) (h1:h.IsListIter i1 l1 k1) (h2:h.IsListIter i2 l2 k2) (hl1:h.IsList l1 xs) (hl2:h.IsList l2 ys):ZipApart z TI TO i1 i2 l1 l2:=by
 obtain ⟨o1,e1,c1,_⟩:=h1;obtain ⟨o2,e2,c2,_⟩:=h2;obtain ⟨p1,q1,r1,_⟩:=hl1;obtain ⟨p2,q2,r2,_⟩:=hl2;have ne:∀ {x y:Addr}{o o':Obj}{n m:String},h.get? x=some o->h.get? y=some o'->o.cls=.type n->o'.cls=.type m->n≠m->x≠y:=λ {x y o o' n m} ex ey cx cy nm z=>by
  subst z;rw [ex] at ey;cases ey;rw [cx] at cy;injection cy with cy
  exact nm cy
 exact ⟨ne hTI hz rfl rfl (by decide),ne hTO hz rfl rfl (by decide),ne e1 hz c1 rfl (by decide),ne e2 hz c2 rfl (by decide),hTT,ne hTI e1 rfl c1 (by decide),ne hTI e2 rfl c2 (by decide),ne hTO e1 rfl c1 (by decide),ne hTO e2 rfl c2 (by decide),h12,
  ne q1 hz r1 rfl (by decide),ne q1 hTO r1 rfl (by decide),ne q1 e1 r1 c1 (by decide),ne q1 e2 r1 c2 (by decide),ne q2 hz r2 rfl (by decide),ne q2 hTO r2 rfl (by decide),ne q2 e1 r2 c1 (by decide),ne q2 e2 r2 c2 (by decide)⟩
theorem qft {P:vb0}{w:vb4}{K:Frag}{es:List Expr}{k:Nat}{pos:Pos} (l1 l2 z TI TO i1 i2:Addr) (hTT:TI≠TO) (h12:i1≠i2):
  Turn P w K (.Tuple es k pos) (ItZp K l1 l2) [z,TI,TO,i1,i2] z (λ i h=>IsZip h z TI TO .none/\IsPair h TI (.ref i1) (.ref i2)/\(∃ p q,IsPair h TO p q)/\h.IsListIter i1 l1 i/\h.IsListIter i2 l2 i) where
 mem:=by simp
 obj:=λ i h st b hb=>by
  obtain ⟨hz,hTI,⟨p,q,hTO⟩,⟨o1,e1,_,d1⟩,⟨o2,e2,_,d2⟩⟩:=st;simp only [jb6,je9,or_false] at hb;rcases hb with rfl | rfl | rfl | rfl | rfl
  ·exact ⟨_,hz,λ v z=>by cases z⟩
  ·exact ⟨_,hTI,λ v z=>by cases z⟩
  ·exact ⟨_,hTO,λ v z=>by cases z⟩
  ·exact ⟨o1,e1,λ v z=>by rw [d1] at z;cases z⟩
  ·exact ⟨o2,e2,λ v z=>by rw [d2] at z;cases z⟩
 keep:=λ i h h' st k=>by
  obtain ⟨hz,hTI,⟨p,q,hTO⟩,h1,h2⟩:=st;exact ⟨k z (by simp) _ hz,k TI (by simp) _ hTI,⟨p,q,k TO (by simp) _ hTO⟩,h1.at λ o x=>k i1 (by simp) o x,h2.at λ o x=>k i2 (by simp) o x⟩
 item:=by
  intro X hP hw hK hc i pins s σ H E I hf st hg;subst hP hw hK;obtain ⟨xs,ys,x,y,hq1,hq2,hx,hy⟩:=hg;obtain ⟨its1,rv1,p1,hz1⟩:=I.list hq1;obtain ⟨its2,rv2,p2,hz2⟩:=I.list hq2;obtain ⟨u1,hu1,ru1⟩:=rv1.get hx;obtain ⟨u2,hu2,ru2⟩:=rv2.get hy;obtain ⟨hz,hTI,⟨p,q,hTO⟩,h1,h2⟩:=st;have D:=zmh hTT h12 hz hTI hTO h1 h2 p1.isList p2.isList;refine wpAny_pyNext_zip_item D hz hTI hTO h1 h2 p1.isList p2.isList (x:=u1) (y:=u2) (by simpa using hu1) (by simpa using hu2) λ h' a1 a2 a3 a4 a5 a6 hk=>⟨_,rfl,?_⟩
  refine wpAny_letOwnedTupleGo_zip a1 λ h2' hz' hs'=>?_;have hn:H s.heap.objs.size=none:=I.hok.fresh (ja8 _);have hs0:s.heap.objs.size≠z:=jg0 (va5 hz);have I1:Inv X pins σ (upd H s.heap.objs.size (.tup [x,y])) { s with heap:=h2',toks:=s.toks }:=by
   refine zbp (fp:=[z,TI,TO,i1,i2]) I (λ b u hb e=>(hs'.2 b (λ z=>hb (by simp [z]))).trans (hk b u (λ z=>hb (by simp [z])) (λ z=>hb (by simp [z])) (λ z=>hb (by simp [z])) (λ z=>hb (by simp [z])) e)) hf (ja8 _) ?_;exact ⟨jd1 (by decide:2<=1000) (by decide),_,.cons ru1 (.cons ru2 .nil),⟨_,(hs'.2 _ hs0).trans a5,rfl,_,rfl⟩⟩
  refine ⟨.ref s.heap.objs.size,_,I1,rfl,⟨_,x,y,hn,rfl,rfl,λ xs' ys' e1 e2=>⟨by rw [I.list_inj e1 hq1];exact hx,by rw [I.list_inj e2 hq2];exact hy⟩⟩,⟨hz',(hs'.2 _ D.TIz).trans (hk _ _ D.TIz D.TITO D.TIi1 D.TIi2 hTI),⟨_,_,(hs'.2 _ D.TOz).trans a2⟩,a3.at λ o e=>(hs'.2 _ D.i1z).trans e,a4.at λ o e=>(hs'.2 _ D.i2z).trans e⟩,λ b hb=>?_⟩;have hb':=(hf b hb).1;have lt:b < s.heap.objs.size:=by
   simp only [jb6,je9,or_false] at hb;rcases hb with rfl | rfl | rfl | rfl | rfl
   ·exact va5 hz
   ·exact va5 hTI
   ·exact va5 hTO
   ·obtain ⟨_,e,_⟩:=h1;exact va5 e
   ·obtain ⟨_,e,_⟩:=h2;exact va5 e
  rw [zqg (jc9 lt)];exact hb'
 done:=by
  intro X hP hw hK hc i pins s σ H E I hf st hg;subst hP hw hK;obtain ⟨xs,ys,hq1,hq2,hend⟩:=hg;obtain ⟨its1,rv1,p1,hz1⟩:=I.list hq1;obtain ⟨its2,rv2,p2,hz2⟩:=I.list hq2;obtain ⟨hz,hTI,⟨p,q,hTO⟩,h1,h2⟩:=st;have D:=zmh hTT h12 hz hTI hTO h1 h2 p1.isList p2.isList;have r1:=rv1.length;have r2:=rv2.length;refine wpAny_pyNext_zip_end (I.ok.hd hc) D hz hTI hTO h1 h2 p1.isList p2.isList ?_ λ h' hk=>⟨rfl,zjr (t':=s.toks) I (λ b o hb e=>hk b o (λ z=>hb (by simp [z])) (λ z=>hb (by simp [z])) (λ z=>hb (by simp [z])) (λ z=>hb (by simp [z])) e) hf⟩
  rcases hend with h | h
  ·exact .inl (jg2 (by simp;omega))
  ·exact .inr (jg2 (by simp;omega))
 self:=λ _ _ _ _ _ st h=>wpAny_pyIter_zip st.1 h
section
variable {X:Cx}{tg:Expr}
def iEnm (K:Frag) (ta:TA):TI:=λ σ H R=>ta σ H λ vs H1=>∃ a xs,vs=[.ref a]/\SqL K H1 a xs/\R (ItEn K a) H1
def iZip (K:Frag) (ta:TA):TI:=λ σ H R=>ta σ H λ vs H1=>∃ a b xs ys,vs=[.ref a,.ref b]/\(SqL K H1 a xs/\SqL K H1 b ys/\R (ItZp K a b) H1)
theorem qj0 {a:Expr}{ta:TA}{es:List Expr}{k:Nat}{tp p pos:Pos} (hg:Gl X "enumerate") (hm:X.mg "enumerate" = none) (ha:PA X [a] ta) (hs:va9 [a] X.env=[(false,eval a X.env)]):PI X (.Tuple es k tp) (.Call (.Name "enumerate" p) [a] [] pos) (iEnm X.K ta):=by
 intro pins s σ H R I h;refine Call_ (zvi I hg hm boot_enumerate (vb3 (thn (ha pos pins s σ H _ I h) λ us s1 ⟨vs,H1,I1,r1,q1⟩=>?_) hs rfl));obtain ⟨b,xs,e,hq,q⟩:=q1;subst e;cases r1 with
 | cons r rr=>
  cases rr;cases r;obtain ⟨its,rv,pl,hz⟩:=I1.list hq;refine call_enumerate_list pl.isList λ h' he hit hsz hk=>?_;refine wpAny_pyIter_enum (s:={ s1 with heap:=h' }) he ?_;refine ⟨s1.heap.objs.size + 1,[s1.heap.objs.size + 1,s1.heap.objs.size],_,_,H1,rfl,I1.kept (t':=s1.toks) hk,qci b _ _ (Nat.succ_ne_self _),⟨⟨_,he⟩,hit⟩,λ c hc=>?_,q⟩;rcases jb6.mp hc with e | e
  ·rw [e];exact I1.fpOk (jp5 _) (I1.hok.fresh (jp5 _))
  ·rw [jb4.mp e];exact I1.fpOk (ja8 _) (I1.hok.fresh (ja8 _))
theorem qna {a b:Expr}{ta:TA}{es:List Expr}{k:Nat}{tp p pos:Pos} (hg:Gl X "zip") (hm:X.mg "zip" = none) (ha:PA X [a,b] ta) (hs:va9 [a,b] X.env=[(false,eval a X.env),(false,eval b X.env)]) (hs2:va9 [b] X.env=[(false,eval b X.env)]):
  PI X (.Tuple es k tp) (.Call (.Name "zip" p) [a,b] [] pos) (iZip X.K ta):=by
 intro pins s σ H R I h;refine Call_ (zvi I hg hm boot_zip (vb3 (thn (ha pos pins s σ H _ I h) λ us s1 ⟨vs,H1,I1,r1,q1⟩=>?_) (by rw [hs,hs2]) (by rw [hs2];rfl)));obtain ⟨c,d,xs,ys,e,hq1,hq2,q⟩:=q1
 ·subst e;cases r1 with
  | cons r rr=>
   cases rr with
   | cons r' rr=>
    cases rr;cases r;cases r';obtain ⟨its1,rv1,p1,hz1⟩:=I1.list hq1;obtain ⟨its2,rv2,p2,hz2⟩:=I1.list hq2;refine call_zip_2 p1.isList p2.isList λ h' hz hTI hTO h1 h2 hsz hk=>?_;refine wpAny_pyIter_zip (s:={ s1 with heap:=h' }) hz ?_;refine ⟨s1.heap.objs.size + 4,[s1.heap.objs.size + 4,s1.heap.objs.size + 2,s1.heap.objs.size + 3,s1.heap.objs.size,s1.heap.objs.size + 1],_,_,H1,rfl,I1.kept (t':=s1.toks) hk,qft c d _ _ _ _ _ (jc9 (jg3 _)) (jc9 (jg3 _)),⟨hz,hTI,⟨_,_,hTO⟩,h1,h2⟩,λ x hx=>?_,q⟩
    have:s1.heap.objs.size<=x:=by
     simp only [jb6,je9,or_false] at hx;rcases hx with rfl | rfl | rfl | rfl | rfl
     ·exact jj8 _ _
     ·exact jj8 _ _
     ·exact jj8 _ _
     ·exact ja8 _
     ·exact jj8 _ _
    exact I1.fpOk this (I1.hok.fresh this)
end
inductive Vw where
 | rev | enm | zp
def zyj:Nat->List PV->List PV
 | _,[]=>[]
 | i,x::xs=>.tup [.int (i:Int),x]::zyj (i + 1) xs
def zipL:List PV->List PV->List PV
 | x::xs,y::ys=>.tup [x,y]::zipL xs ys
 | _,_=>[]
def zkg:Vw->List PV->Option (List PV)
 | .rev,[.lst xs]=>some xs.reverse
 | .enm,[.lst xs]=>some (zyj 0 xs)
 | .zp,[.lst xs,.lst ys]=>some (zipL xs ys)
 | _,_=>none
def qln (v:Vw) (K:Frag) (ws:List V) (H:Hp) (R:It->Hp->Prop):Prop:=match v with
 | .rev=>∃ a xs,ws=[.ref a]/\SqL K H a xs/\R (ItRv K a xs.length) H
 | .enm=>∃ a xs,ws=[.ref a]/\SqL K H a xs/\R (ItEn K a) H
 | .zp=>∃ a b xs ys,ws=[.ref a,.ref b]/\(SqL K H a xs/\SqL K H b ys/\R (ItZp K a b) H)
def iVw (v:Vw) (K:Frag) (ta:TA):TI:=λ σ H R=>ta σ H λ ws H1=>qln v K ws H1 R
theorem zjt:∀ (xs:List PV) (k:Nat),(zyj k xs).length=xs.length
 | [],_=>rfl
 | x::xs,k=>by rw [zyj,jb2,zjt xs,jb2]
theorem zju:∀ (xs:List PV) (k i:Nat),(zyj k xs)[i]?=(xs[i]?).map λ x=>PV.tup [.int ((k + i:Nat):Int),x]
 | [],_,_=>by simp [zyj]
 | x::xs,k,0=>by simp [zyj]
 | x::xs,k,i + 1=>by
  rw [zyj,je0,zju xs (k + 1) i,je0,show k + 1 + i=k + (i + 1) by omega]
theorem zhz:∀ (xs ys:List PV),(zipL xs ys).length=min xs.length ys.length
 | [],ys=>by simp [zipL]
 | x::xs,[]=>by simp [zipL]
 | x::xs,y::ys=>by rw [zipL,jb2,zhz xs ys,jb2,jb2];omega
theorem qaa:∀ (xs ys:List PV) (i:Nat) (x y:PV),xs[i]?=some x->ys[i]?=some y->(zipL xs ys)[i]?=some (.tup [x,y])
 | [],ys,i,x,y,h,_=>by simp at h
 | a::xs,[],i,x,y,_,h=>by simp at h
 | a::xs,b::ys,0,x,y,h,h'=>by simp at h h';subst h h';simp [zipL]
 | a::xs,b::ys,i + 1,x,y,h,h'=>by
  rw [zipL,je0];exact qaa xs ys i x y (by simpa using h) (by simpa using h')
theorem Own.growH {K:Frag}{H H':Hp}{Z:Addr->Prop}{x:PV}{v:V} (k:∀ a o,H a=some o->H' a=some o) (h:Own K H Z x 0 v []):Own K H' Z x 0 v []:=
 Own.move (S:=λ _=>False) (λ a o h _=>k a o h) (λ _ z=>z.elim) (λ _ _ n=>n) x 0 v [] (λ _ z=>nomatch z) h
theorem zzw {K:Frag}{H:Hp}{Z:Addr->Prop}{xs:List PV}{v:V} (o:Own K H Z (.lst xs) 0 v []):∃ a ws,v=.ref a/\SqL K H a ws/\OwnL K H Z xs 0 ws []:=by
 rw [Own] at o;obtain ⟨b,ws,e,⟨_,hr,_,ol⟩ | ⟨h,_⟩⟩:=o
 ·exact ⟨b,ws,e,.inl (.inl hr.1),ol⟩
 ·exact absurd rfl h
theorem qas {K:Frag}{H:Hp}{Z:Addr->Prop}{x y:PV}{u v:V}{T:Addr} (hT:H T=some (.tup [u,v])) (ox:Own K H Z x 0 u []) (oy:Own K H Z y 0 v []):Own K H Z (.tup [x,y]) 0 (.ref T) []:=by
 rw [Own];refine ⟨T,_,rfl,hT,?_⟩;rw [zgt,OwnL];refine ⟨u,[v],[],[],rfl,rfl,(λ _ z=>nomatch z),ox,?_⟩;rw [OwnL];exact ⟨v,[],[],[],rfl,rfl,(λ _ z=>nomatch z),oy,by rw [OwnL];exact ⟨rfl,rfl⟩⟩
theorem OwnL.one {K:Frag}{H:Hp}{Z:Addr->Prop}{x:PV}{ws:List V} (o:OwnL K H Z [x] 0 ws []):∃ v,ws=[v]/\Own K H Z x 0 v []:=by
 rw [OwnL] at o;obtain ⟨v,r,f1,f2,rfl,ef,_,o1,o2⟩:=o;obtain ⟨rfl,rfl⟩:f1=[]/\f2=[]:=by simpa using ef.symm
 rw [OwnL] at o2;exact ⟨v,by rw [o2.1],o1⟩
theorem OwnL.two {K:Frag}{H:Hp}{Z:Addr->Prop}{x y:PV}{ws:List V} (o:OwnL K H Z [x,y] 0 ws []):∃ u v,ws=[u,v]/\Own K H Z x 0 u []/\Own K H Z y 0 v []:=by
 rw [OwnL] at o;obtain ⟨u,r,f1,f2,rfl,ef,_,o1,o2⟩:=o;obtain ⟨rfl,rfl⟩:f1=[]/\f2=[]:=by simpa using ef.symm
 obtain ⟨v,rfl,o3⟩:=o2.one;exact ⟨u,v,rfl,o1,o3⟩
theorem OwnL.mono0 {K:Frag}{H H':Hp}{Z Z':Addr->Prop} (h:∀ x v,Own K H Z x 0 v []->Own K H' Z' x 0 v []):∀ {xs:List PV}{ws:List V},OwnL K H Z xs 0 ws []->OwnL K H' Z' xs 0 ws []
 | [],ws,o=>by rw [OwnL] at o ⊢;exact o
 | x::xs,ws,o=>by
  rw [OwnL] at o;obtain ⟨u,r,f1,f2,rfl,ef,_,o1,o2⟩:=o;obtain ⟨rfl,rfl⟩:f1=[]/\f2=[]:=by simpa using ef.symm
  rw [OwnL];exact ⟨u,r,[],[],rfl,rfl,(λ _ z=>nomatch z),h _ _ o1,OwnL.mono0 h o2⟩
theorem qo1 {v:Vw}{ps els:List PV}{ws:List V}{K:Frag}{H:Hp}{Z:Addr->Prop} (he:zkg v ps=some els) (o:OwnL K H Z ps 0 ws []):∃ J,(∀ R:It->Hp->Prop,R J H->qln v K ws H R)/\∀ H Z,OwnL K H Z ps 0 ws []->∀ i,(i < els.length->J.go i H)/\(els.length<=i->J.stop i H) /\
  (i < els.length->∀ x H',J.yld i H x H'->(∀ a o,H a=some o->H' a=some o)/\∃ y,els[i]?=some y/\Own K H' Z y 0 x []):=by
 unfold zkg at he;split at he
 ·rename_i xs;cases he;obtain ⟨v,rfl,o1⟩:=o.one;obtain ⟨a,us,rfl,sq,ol⟩:=zzw o1;refine ⟨ItRv K a us.length,λ R r=>⟨a,us,rfl,sq,r⟩,λ H' Z' o' i=>?_⟩;obtain ⟨v',e,o1'⟩:=o'.one;cases e;obtain ⟨a',us',e,sq',ol'⟩:=zzw o1';cases e;have hl:=ol.length;have hl':=ol'.length;rw [jk3];refine ⟨λ h=>⟨by omega,us',us'[us.length - 1 - i]'(by omega),sq',by simp⟩,λ h=>?_,λ h x H2 y=>?_⟩
  ·show us.length<=i;omega
  ·obtain ⟨rfl,e2⟩:=y;refine ⟨λ _ _ h=>h,?_⟩;obtain ⟨z,ez,oz⟩:=ol'.get (e2 us' sq');refine ⟨z,?_,oz⟩;rw [jm5 (by omega),<- ez,hl]
 ·rename_i xs;cases he;obtain ⟨v,rfl,o1⟩:=o.one;obtain ⟨a,us,rfl,sq,ol⟩:=zzw o1;refine ⟨ItEn K a,λ R r=>⟨a,us,rfl,sq,r⟩,λ H' Z' o' i=>?_⟩;obtain ⟨v',e,o1'⟩:=o'.one;cases e;obtain ⟨a',us',e,sq',ol'⟩:=zzw o1';cases e;have hl':=ol'.length;rw [zjt];refine ⟨λ h=>⟨us',us'[i]'(by omega),sq',by simp⟩,λ h=>⟨us',sq',by omega⟩,λ h x H2 y=>?_⟩;obtain ⟨T,u,hT,rfl,rfl,e2⟩:=y;have kx:∀ a o,H' a=some o->upd H' T (.tup [.int (i:Int),u]) a=some o:=λ a o h=>by rw [zqg (λ z=>by rw [z,hT] at h;cases h)];exact h
  refine ⟨kx,?_⟩;obtain ⟨z,ez,oz⟩:=ol'.get (e2 us' sq');refine ⟨.tup [.int (i:Int),z],?_,qas zqe (by rw [Own];exact ⟨rfl,rfl⟩) (oz.growH kx)⟩;rw [zju,ez];simp
 ·rename_i xs ys;cases he;obtain ⟨v1,v2,rfl,o1,o2⟩:=o.two;obtain ⟨a,us,rfl,sq,ol⟩:=zzw o1;obtain ⟨b,vs,rfl,sq2,ol2⟩:=zzw o2;refine ⟨ItZp K a b,λ R r=>⟨a,b,us,vs,rfl,sq,sq2,r⟩,λ H' Z' o' i=>?_⟩;obtain ⟨v1',v2',e,o1',o2'⟩:=o'.two;cases e;obtain ⟨a',us',e,sq',ol'⟩:=zzw o1';cases e;obtain ⟨b',vs',e,sq2',ol2'⟩:=zzw o2';cases e;have hl1:=ol'.length;have hl2:=ol2'.length;rw [zhz];refine ⟨λ h=>⟨us',vs',us'[i]'(by omega),vs'[i]'(by omega),sq',sq2',by simp,by simp⟩,λ h=>⟨us',vs',sq',sq2',by omega⟩,λ h x H2 y=>?_⟩;obtain ⟨T,u,w,hT,rfl,rfl,e2⟩:=y;have kx:∀ a o,H' a=some o->upd H' T (.tup [u,w]) a=some o:=λ a o h=>by rw [zqg (λ z=>by rw [z,hT] at h;cases h)];exact h
  obtain ⟨e3,e4⟩:=e2 us' vs' sq' sq2';obtain ⟨z1,ez1,oz1⟩:=ol'.get e3;obtain ⟨z2,ez2,oz2⟩:=ol2'.get e4;exact ⟨kx,.tup [z1,z2],qaa _ _ _ _ _ ez1 ez2,qas zqe (oz1.growH kx) (oz2.growH kx)⟩
 ·cases he
section
variable {is:List Nat}{M:Fm}{ρ ρ':Rho}{σ σ':St}{H H' H'':Hp}{fps fps' fps'':Fps}{vs vs':List Nat}
def zba (v:Vw) (fa:Fa) (vs:List Nat) (asg:PV->Rho->Option Rho) (body:Fs):Fs:=λ ρ=>match fa ρ with
 | .ok (xs,ρ1)=>(match zkg v (xs.map (·.1)) with
  | some els=>zxe asg body els (zqp (if zzr xs=true then om else 0) vs ρ1)
  | none=>.no)
 | .exc c=>.exc c
 | .no=>.no
theorem Rep.seens {xs:List (PV×Nat)}{ws:List V}{fp:List Addr} (rep:Rep M ρ σ H fps) (k:KD M H fps H' fps') (g:Agr M ρ ρ') (r':Rep M ρ' σ H' fps') (o:Tmps M.K H' (Zv M vs fps') xs ws fp) (t:Temp M vs H H' fps' fp)
  (hal:∀ i,M.al i=[]) (hv:∀ i∈vs,M.Ms i=false):∃ fps2,KS M H fps H' fps2/\Rep M (zqp (if zzr xs=true then om else 0) vs ρ') σ H' fps2/\OwnL M.K H' (Zf M fps2) (xs.map (·.1)) 0 ws []:=by
 unfold zqp;cases ho:zzr xs with
 | true=>
  rw [if_pos rfl,if_pos rfl];refine ⟨fps',k.ks,r',?_⟩;exact OwnL.freeze (λ _ z=>z) _ om ws fp (λ a ha=>t.ndj a ha) (OwnL.full _ ws fp (o.all (zzz ho)))
 | false=>
  rw [if_neg jb9,if_neg (by decide)];exact ⟨zvs vs fps',k.ks.cool,r'.cool hal hv,(o.cold λ a ha z=>t.ndj a ha z.zf).weak λ a h=>zva h⟩
theorem qcm {v:Vw}{g:TG}{asg:PV->Rho->Option Rho}{body:Fs}{fa:Fa}{D:Ends} (hal:∀ i,M.al i=[]) (hv:∀ i∈vs,M.Ms i=false) (hg:GOk M [] is g asg) (hq:tS M (zba v fa vs asg body) D σ H):tFor (iVw v M.K (tL M fa vs)) g (tS M body) D σ H:=by
 obtain ⟨ρ,fps,rep,q⟩:=hq;refine ⟨ρ,fps,rep,?_⟩;unfold zba at q;cases ef:fa ρ with
 | no=>rw [ef] at q;exact q
 | exc c=>rw [ef] at q;exact λ H' fps' k=>q _ H' fps' k.ks
 | ok p=>
  obtain ⟨xs,ρ1⟩:=p;rw [ef] at q;intro ws H1 fps1 f1 k1 g1 rep1 o1 t1;dsimp only at q;cases ee:zkg v (xs.map (·.1)) with
  | none=>rw [ee] at q;exact q.elim
  | some els=>
   rw [ee] at q;obtain ⟨fps2,k2,r2,o2⟩:=Rep.seens rep k1 g1 rep1 o1 t1 hal hv;obtain ⟨J,hpre,hJ⟩:=qo1 ee o2;refine hpre _ ?_;exact zwv (Pq:=λ H fps=>OwnL M.K H (Zf M fps) (xs.map λ (p:PV×Nat)=>p.1) 0 ws []) (els:=els) hg (λ r k o=>o.mono0 λ x v h=>k.stay0 r h) (λ {H fps i} o h=>(hJ H _ o i).1 h) (λ {H fps i} o h=>(hJ H _ o i).2.1 h) (λ {ρ σ H fps i x H'} _ o h y=>(hJ H _ o i).2.2 h x H' y) r2 o2 (RsOk.from k2 q)
end
section
variable {X:Cx}{M:Fm}{f g:Fx}{fa:Fa}{vs vs':List Nat}{a b e:Expr}{es:List Expr}{pos p p2:Pos}{σ:St}{H:Hp}{Q:VK}
def opRv:PV->Nat->Option (PV×Nat)
 | .lst xs,_=>some (.lst xs.reverse,d1 xs.reverse)
 | .str z,_=>if z.length<=va6 then some (.str ⟨z.cps.toList.reverse.toArray⟩,om) else none
 | _,_=>none
def rRv (K:Frag):V->Hp->VK->Prop:=λ x H1 Q=>(∃ l xs,x=.ref l/\SqL K H1 l xs/\∀ p,H1 p=none->Q (.ref p) (upd H1 p (.lst xs.reverse)))\/∃ z,x=.str z/\z.length<=va6/\Q (.str ⟨z.cps.toList.reverse.toArray⟩) H1
theorem qjk (z:Str) (tk u:Tok):PySem.sliceMade z tk none none (some (-1,u))=.str ⟨z.cps.toList.reverse.toArray⟩:=by
 unfold PySem.sliceMade PySem.slicePicked;rw [if_neg (by simp)];have e:vg4 none none (-1) z.length=(jb0 z.cps.size).reverse:=by
  have e1:vg4 none none (-1) z.length=sliceRange ((z.length:Int) - 1) (-1) (-1):=rfl;rw [e1,PySem.W.krv_sliceRange,PySem.W.krv_range];rfl
 show Made.str ⟨((vg4 none none (-1) z.length).filterMap (z.cps[·]?)).toArray⟩=_;rw [e,List.filterMap_reverse,PySem.W.krv_all]
theorem zby:∀ {xs:List V}{us:List va2},Vals xs us->Vals xs.reverse us.reverse
 | _,_,.nil=>.nil
 | _,_,.cons r rr=>by rw [jj2,jj2];exact (zby rr).append (.cons r .nil)
theorem OwnL.snoc0 {K:Frag}{H:Hp}{Z:Addr->Prop}{x:PV}{v:V}:∀ {xs:List PV}{ws:List V},OwnL K H Z xs 0 ws []->Own K H Z x 0 v []->OwnL K H Z (xs++[x]) 0 (ws++[v]) []
 | [],ws,h,o=>by
  rw [OwnL] at h;obtain ⟨rfl,_⟩:=h;rw [je2,je2,OwnL];exact ⟨v,[],[],[],rfl,rfl,(λ _ z=>nomatch z),o,by rw [OwnL];exact ⟨rfl,rfl⟩⟩
 | y::xs,ws,h,o=>by
  rw [OwnL] at h;obtain ⟨u,r,f1,f2,rfl,ef,_,o1,o2⟩:=h;obtain ⟨rfl,rfl⟩:f1=[]/\f2=[]:=by simpa using ef.symm
  rw [jg4,jg4,OwnL];exact ⟨u,r++[v],[],[],rfl,rfl,(λ _ z=>nomatch z),o1,OwnL.snoc0 o2 o⟩
theorem OwnL.append0 {K:Frag}{H:Hp}{Z:Addr->Prop}{ys:List PV}{us:List V} (h2:OwnL K H Z ys 0 us []):∀ {xs:List PV}{ws:List V},OwnL K H Z xs 0 ws []->OwnL K H Z (xs++ys) 0 (ws++us) []
 | [],ws,h=>by
  rw [OwnL] at h;obtain ⟨rfl,_⟩:=h;exact h2
 | y::xs,ws,h=>by
  rw [OwnL] at h;obtain ⟨u,r,f1,f2,rfl,ef,_,o1,o2⟩:=h;obtain ⟨rfl,rfl⟩:f1=[]/\f2=[]:=by simpa using ef.symm
  rw [jg4,jg4,OwnL];exact ⟨u,r++us,[],[],rfl,rfl,(λ _ z=>nomatch z),o1,OwnL.append0 h2 o2⟩
theorem OwnL.rev {K:Frag}{H:Hp}{Z:Addr->Prop}:∀ {xs:List PV}{ws:List V},OwnL K H Z xs 0 ws []->OwnL K H Z xs.reverse 0 ws.reverse []
 | [],ws,h=>by
  rw [OwnL] at h;obtain ⟨rfl,_⟩:=h;rw [List.reverse_nil,OwnL];exact ⟨rfl,rfl⟩
 | y::xs,ws,h=>by
  rw [OwnL] at h;obtain ⟨u,r,f1,f2,rfl,ef,_,o1,o2⟩:=h;obtain ⟨rfl,rfl⟩:f1=[]/\f2=[]:=by simpa using ef.symm
  rw [jj2,jj2];exact OwnL.snoc0 (OwnL.rev o2) o1
theorem qpf {te:TE}{k:Nat}{p3 p4:Pos} (he:PE X a te):PE X (.Subscript a (.Slice none none (some (.UnaryOp .USub (.Constant (.int 1) k p3) p4)) p2) pos) (tUn (rRv X.K) te):=by
 intro pins s σ H Q I h;refine Subscript_ (thn (he pins s σ H _ I h) λ v s1 ⟨x,H1,I1,r1,q1⟩=>?_);have hp:=zgq (qnd (pos:=p4) qho (qdo (X:=X) (i:=1) (j:=k) (pos:=p3)));have hn:PO X none zgk:=zgr;obtain ⟨l,xs,rfl,hq,q⟩ | ⟨z,rfl,hz,q⟩:=q1
 ·cases r1;refine wpAny_Slice (thn (hn pins s1 σ H1 (λ o H'=>o=none/\H'=H1) I1 ⟨rfl,rfl⟩) λ vl s2 ⟨o2,H2,I2,p2',e2⟩=>?_);obtain ⟨rfl,rfl⟩:=e2;refine thn (hn pins s2 σ H2 (λ o H'=>o=none/\H'=H2) I2 ⟨rfl,rfl⟩) λ vu s3 ⟨o3,H3,I3,p3',e3⟩=>?_;obtain ⟨rfl,rfl⟩:=e3;refine thn (hp pins s3 σ H3 (λ o H'=>o=some (-1)/\H'=H3) I3 ⟨1,rfl,-1,rfl,rfl,rfl⟩) λ vk s4 ⟨o4,H4,I4,p4',e4⟩=>?_;obtain ⟨rfl,rfl⟩:=e4;have I5:Inv X pins σ H4 { s4 with heap:=s4.heap.push { cls:=.type "slice",data:=.fields #[vl,vu,vk] } }:=I4.kept (t':=s4.toks) λ b ob q=>va3 _ q;obtain ⟨its,r,ht,hz⟩:=I5.list hq;have hlen:=r.length;show vb1 (vb2 X.prog X.w) X.A (vk0 a (.Slice none none (some (.UnaryOp .USub (.Constant (.int 1) k p3) p4)) p2) (.ref l) (.ref s4.heap.objs.size)) (EP X pins σ Q) X.xe { s4 with heap:=s4.heap.push { cls:=.type "slice",data:=.fields #[vl,vu,vk] } };refine tail_any (ops:=[.ref l,.ref s4.heap.objs.size]) ht.isList.typeIs slot_list_getitem.lookup ?_ (by with_unfolding_all rfl);refine wpAny_getItem_list_slice ht.isList (Heap.IsSliceOf.new ..) p2' p3' p4' (by simp) ?_ (by rw [jb5] <;> omega);rw [PySem.W.krv_pick];refine ⟨.ref _,_,I5.laid (o:=.lst xs.reverse) (λ b ob q=>va3 _ q) (ja8 _) ?_,rfl,q _ (I5.hok.fresh (ja8 _))⟩;refine ⟨by rw [jk3];exact hz,its.reverse,0,zby r,va7 _ rfl⟩
 ·obtain ⟨tk,rfl⟩:=r1;refine wpAny_Slice (thn (hn pins s1 σ H1 (λ o H'=>o=none/\H'=H1) I1 ⟨rfl,rfl⟩) λ vl s2 ⟨o2,H2,I2,p2',e2⟩=>?_);obtain ⟨rfl,rfl⟩:=e2;refine thn (hn pins s2 σ H2 (λ o H'=>o=none/\H'=H2) I2 ⟨rfl,rfl⟩) λ vu s3 ⟨o3,H3,I3,p3',e3⟩=>?_;obtain ⟨rfl,rfl⟩:=e3;refine thn (hp pins s3 σ H3 (λ o H'=>o=some (-1)/\H'=H3) I3 ⟨1,rfl,-1,rfl,rfl,rfl⟩) λ vk s4 ⟨o4,H4,I4,p4',e4⟩=>?_;obtain ⟨rfl,rfl⟩:=e4;cases p2';cases p3';cases p4' with
  | int _ u=>
   have I5:Inv X pins σ H4 { s4 with heap:=s4.heap.push { cls:=.type "slice",data:=.fields #[.none,.none,.int (-1) u] } }:=I4.kept (t':=s4.toks) λ b ob q=>va3 _ q;show vb1 (vb2 X.prog X.w) X.A (vk0 a (.Slice none none (some (.UnaryOp .USub (.Constant (.int 1) k p3) p4)) p2) (.str z tk) (.ref s4.heap.objs.size)) (EP X pins σ Q) X.xe { s4 with heap:=s4.heap.push { cls:=.type "slice",data:=.fields #[.none,.none,.int (-1) u] } };refine tail_any (ops:=[.str z tk,.ref s4.heap.objs.size]) (typeIs_str _ z tk) PySem.F.slot_str_getitem.lookup ?_ (by with_unfolding_all rfl);refine wpAny_getItem_str_slice (l:=none) (u:=none) (st:=some (-1,u)) ⟨_,va7 _ rfl,rfl,rfl⟩ rfl ?_;rw [qjk];refine ⟨?_,.str _,H4,I5.tok _,⟨_,rfl⟩,q⟩;show z.cps.toList.reverse.toArray.size<=va6;have hz':z.cps.size<=va6:=hz;simpa using hz'
theorem qo7 {k:Nat}{p3 p4:Pos} (hK:M.K=X.K) (ha:PE X a (tE M f vs)):PE X (.Subscript a (.Slice none none (some (.UnaryOp .USub (.Constant (.int 1) k p3) p4)) p2) pos) (tE M (bUn opRv f) vs):=by
 refine zqr (qpf ha) λ σ H Q h=>qcs (λ x d z c v H fps f1 Q ho o1 nz zd lf=>?_) h;cases x with
 | lst xs=>
  cases ho;obtain ⟨q,us,rfl,hs,ol⟩:=(cold o1 λ a ha=>nz a ha).coldL;exact .inl ⟨q,us,rfl,.inl (.inl hs),λ l hl=>zwf lf (OwnL.rev ol) hl⟩
 | str z=>
  dsimp only [opRv] at ho;split at ho
  ·rename_i hl;cases ho;rw [Own] at o1;exact .inr ⟨z,o1.1,hl,qa7 lf⟩
  ·cases ho
 | _=>cases ho
end
section
variable {M:Fm}{fa:Fa}{vs:List Nat}
def spM (K:Frag) (F:Fn):Sp:=λ ws H Q _=>∃ x0 v0 fp0,ws=[v0]/\Own K H (λ _=>True) x0 om v0 fp0/\(match F [x0] with
 | .ok (y,_,_)=>zgd y=true/\∀ v H',Keep (λ a=>a∈fp0) H H'->(∀ a,H a≠none->H' a≠none)->Own K H' (λ _=>True) y om v []->Q v H'
 | _=>False)
end
def sMv (i j:Nat):Fs:=λ ρ=>match ρ[j]? with
 | some (some (x,d))=>if i≠j/\i < ρ.length then .nx ((ρ.set j none).set i (some (x,d))) else .no
 | _=>.no
section
variable {X:Cx}{M:Fm}{ρ:Rho}{σ:St}{H H':Hp}{fps:Fps}{D:Ends}
theorem qo3 {i j:Nat} (hal:∀ i,M.al i=[]) (hmi:M.Ms i=false) (hmj:M.Ms j=false) (hio:M.Fre i) (hq:tS M (sMv i j) D σ H):tAsg (tVar j) (zkt i) D σ H:=by
 obtain ⟨ρ,fps,rep,q⟩:=hq;unfold sMv at q;split at q
 ·rename_i x d ej;split at q
  ·rename_i hc;obtain ⟨ne,hi⟩:=hc;obtain ⟨v,hv,ow⟩:=rep.own j x d ej;refine ⟨v,hv,?_⟩;let f2:Fps:=λ k=>if k=i then fps j else if k=j then [] else fps k
   have e1:f2 i=fps j:=if_pos rfl;have e2:f2 j=[]:=by show (if j=i then _ else _)=_;rw [if_neg (vb6 ne),if_pos rfl]
   have e3:∀ k,k≠i->k≠j->f2 k=fps k:=λ k h1 h2=>by show (if k=i then _ else _)=_;rw [if_neg h1,if_neg h2]
   have sub:∀ k a,a∈f2 k->∃ l,a∈fps l/\(k=i->l=j)/\(k≠i->l=k)/\(k≠i->k≠j):=λ k a h=>by
    by_cases h1:k=i
    ·rw [h1,e1] at h;exact ⟨j,h,λ _=>rfl,λ z=>absurd h1 z,λ z=>absurd h1 z⟩
    ·by_cases h2:k=j
     ·rw [h2,e2] at h;cases h
     ·rw [e3 k h1 h2] at h;exact ⟨k,h,λ z=>absurd z h1,λ _=>rfl,λ _=>h2⟩
   have za:∀ k l a,Za M f2 k a->Za M fps l a:=λ k l a h=>by
    rcases h with h | ⟨m,_,h⟩
    ·exact .inl h
    ·obtain ⟨n,hn,_⟩:=sub m a h;exact .inr ⟨n,by rw [hal l];exact je9,hn⟩
   have lj:j < ρ.length:=by
    have:=ja9.mp ej
    exact this.1
   have g1:((ρ.set j none).set i (some (x,d)))[i]?=some (some (x,d)):=by rw [jc6 (by rw [je8];exact hi)]
   have g2:((ρ.set j none).set i (some (x,d)))[j]?=some none:=by rw [jc0 ne,jc6 lj]
   have g3:∀ k,k≠i->k≠j->((ρ.set j none).set i (some (x,d)))[k]?=ρ[k]?:=λ k h1 h2=>by rw [jc0 (vb6 h1),jc0 (vb6 h2)]
   have s1:∀ k,k≠i->(σ.set i (some v))[k]?=σ[k]?:=λ k h=>jc0 (vb6 h);refine q _ H f2 ⟨λ a o h _=>h,λ a h=>h,λ k a h=>.inl ?_⟩ ⟨λ k y c hk=>?_,λ k hk=>?_,λ k l hkl a ha hb=>?_,λ k a ha=>?_,λ k hk a ha=>?_,rep.zd,?_,λ k y c hm hk=>?_,rep.h0,⟨λ w hw=>?_,λ p hp=>?_⟩⟩
   ·obtain ⟨l,hl,_⟩:=sub k a h;exact ⟨l,hl⟩
   ·by_cases h1:k=i
    ·rw [h1] at hk ⊢;rw [g1] at hk;cases hk;refine ⟨v,jc6 (by rw [<- rep.len];exact hi),?_⟩;rw [e1];exact ow.weak λ a h=>za i j a h
    ·by_cases h2:k=j
     ·rw [h2,g2] at hk;cases hk
     ·rw [g3 k h1 h2] at hk;obtain ⟨w,hw,o⟩:=rep.own k y c hk;refine ⟨w,by rw [s1 k h1];exact hw,?_⟩;rw [e3 k h1 h2];exact o.weak λ a h=>za k k a h
   ·by_cases h1:k=i
    ·rw [h1] at hk;exact absurd g1 (hk _)
    ·by_cases h2:k=j
     ·rw [h2];exact e2
     ·rw [e3 k h1 h2];exact rep.non k λ p hp=>hk p (by rw [g3 k h1 h2];exact hp)
   ·obtain ⟨k',hk',a1,a2,a3⟩:=sub k a ha;obtain ⟨l',hl',b1,b2,b3⟩:=sub l a hb;refine rep.dj k' l' ?_ a hk' hl';by_cases h1:k=i
    ·have h2:l≠i:=λ z=>hkl (h1.trans z.symm);rw [a1 h1,b2 h2];exact vb6 (b3 h2)
    ·rw [a2 h1];by_cases h2:l=i
     ·rw [b1 h2];exact a3 h1
     ·rw [b2 h2];exact hkl
   ·obtain ⟨l,hl,_⟩:=sub k a ha;exact rep.zo l a hl
   ·obtain ⟨l,hl,a1,a2,_⟩:=sub k a ha;by_cases h1:k=i
    ·rw [a1 h1] at hl;exact rep.fr j hmj a hl
    ·rw [a2 h1] at hl;exact rep.fr k hk a hl
   ·rw [je8,je8,je8];exact rep.len
   ·by_cases h1:k=i
    ·rw [h1,hmi] at hm;cases hm
    ·by_cases h2:k=j
     ·rw [h2,hmj] at hm;cases hm
     ·rw [g3 k h1 h2] at hk;exact rep.msf k y c hm hk
   ·have:=rep.iov.1 w hw
    refine ⟨?_,this.2⟩;rw [s1 0 (vb6 (hio.1 (by rw [hw];simp)))];exact this.1
   ·rw [s1 p.1 (hio.2 p hp)];exact rep.iov.2 p hp
  ·exact q.elim
 ·exact q.elim
end
section
variable {X:Cx}{M:Fm}{f g:Fx}{vs vs':List Nat}{σ:St}{H:Hp}{Q:VK}
end
theorem qdz:typeLookup (.type "list_reverseiterator") "__len__" = pure none:=by rw [typeLookup_type,builtinLookup_eq_fast];kernel_rfl
theorem qgx:typeLookup (.type "list_reverseiterator") "__length_hint__" = pure (some (.builtin "list_reverseiterator.__length_hint__")):=by rw [typeLookup_type,builtinLookup_eq_fast];kernel_rfl
section
variable {pg:vb0}{wd:vb4}{Ar:vc0}{Er:va2->va4->Prop}{st:va4}
theorem qk4 {Rz':Result->va4->Prop}{l it:Addr}{xs:Array va2} (hd0:Ar.handled=none) (lne:l≠it) (hri:st.heap.IsRevIter it l ((xs.size:Int) - 1)) (hl:st.heap.IsList l xs) (hz:xs.size<=va6) (N:Addr) (nI:N≠it) (nl:N≠l) (rv:va2) (c0:Nat) (hN:st.heap.get? N=some { cls:=.type "list",data:=.seq #[] c0 })
  (good:∀ hp tk out c2,(∀ b o,b≠N->b≠it->st.heap.get? b=some o->hp.get? b=some o)->hp.get? N=some { cls:=.type "list",dict:=none,data:=.seq out c2,slots:=#[] }->ItemsOf (λ i v=>xs[xs.size - 1 - i]?=some v) out xs.size->Rz' (.ok (.ret rv)) { st with heap:=hp,toks:=tk }):
  vb1 (vb2 pg wd) Ar.in1 (ve0 (.ref N) (.ref it) rv) (λ z t=>match z with | .done f=>Rz' (.ok f) t | .again k=>k.quiet=true/\vk6 (vb2 pg wd) Ar k Rz' t) (λ e t=>Rz' (.error e) t) st:=by
 have walk:=(Walks.listRev (prog:=pg) (w:=wd) (A:=Ar.in1) hd0 it l lne xs).toS;have tI:st.TypeIs (.ref it) "list_reverseiterator" := hri.typeIs;have other:Builtin.List.listSameRef (.ref N) (.ref it)=false:=by simp [Builtin.List.listSameRef,nI]
 delta ve0;refine va0 (wpAny_typeOf tI ?_);rw [if_neg (by rw [other];decide)];refine va0 (wpAny_pyIter_revIter hri (va0 (vf1 ?_)));delta Builtin.List.listLengthHint;refine va0 (vi6 tI qdz ?_);show vb1 _ Ar.in1 (specialOf (Value.ref it) (vg7 "__length_hint__") >>= _) _ _ _;refine va0 (vi6 tI qgx ?_);generalize en:("list_reverseiterator.__length_hint__" : String)=nm
 wp_delta
 rw [show splitId nm=some ("list_reverseiterator","__length_hint__") from by subst en;decide +kernel];subst en;refine va0 (vi4 (b:=true) tI (by rw [isSubtype_type];kernel_rfl) (va1 ?_));rw [if_neg (by decide)];refine va1 ⟨plainId_quiet F.plain_extend_loop _,codeAny_extend_loopS walk hz _ (by simp [nI,nl]) _ xs.size 0 _ _ _ rfl (jg5 _) ⟨jg5 _,by simpa using hri,hl⟩ hN (ItemsOf.nil _) λ t out c2 mv hN' all=>?_⟩;rw [Moved.eq_with mv];exact good t.heap t.toks out c2 (λ b o hb hb2 e=>mv.heap b o (by simp [hb,hb2]) e) hN' all
theorem qgq {Qv:va2->va4->Prop}{l it:Addr}{xs:Array va2} (hd0:Ar.handled=none) (lne:l≠it) (hri:st.heap.IsRevIter it l ((xs.size:Int) - 1)) (hl:st.heap.IsList l xs) (hz:xs.size<=va6)
  (good:∀ hp tk out c2,(∀ b o,b≠it->st.heap.get? b=some o->hp.get? b=some o)->hp.get? st.heap.objs.size=some { cls:=.type "list",dict:=none,data:=.seq out c2,slots:=#[] }->ItemsOf (λ i v=>xs[xs.size - 1 - i]?=some v) out xs.size->Qv (.ref st.heap.objs.size) { st with heap:=hp,toks:=tk }):vb1 (vb2 pg wd) Ar (call (.type "list") [.ref it]) Qv Er st:=by
 let one:Obj:={ cls:=.type "list",data:=.seq #[] }
 refine callType_codes (Q₁:=λ v t=>v=.ref st.heap.objs.size/\t={ st with heap:=st.heap.push one }) F.called_list (F.typeCall_list_1 _) F.entry_list_init (code_list_new _ ⟨rfl,rfl⟩) λ v t made=>?_;obtain ⟨rfl,rfl⟩:=made;have hN:(st.heap.push one).get? st.heap.objs.size=some one:=va7 _ rfl;refine ⟨⟨_,hN,rfl⟩,F.args_list_init_2 _ _,?_⟩;have nI:st.heap.objs.size≠it:=λ e=>by obtain ⟨o,ho,_⟩:=hri;exact jd6 _ (e ▸ va5 ho)
 have nl:st.heap.objs.size≠l:=λ e=>by obtain ⟨o,ho,_⟩:=hl;exact jd6 _ (e ▸ va5 ho)
 show vb1 _ Ar.in1.in1 (do let old<-Builtin.List.listItems (.ref st.heap.objs.size);Builtin.List.listUpdate (.ref st.heap.objs.size) (λ _=>#[]);letGo old.toList.reverse;ve0 (.ref st.heap.objs.size) (.ref it) .none) _ _ _;refine va0 ?_;delta Builtin.List.listItems;refine va0 (wpAny_seqItems hN rfl (va1 ?_));show vb1 _ _ (updateSeq st.heap.objs.size (λ _=>#[]) >>= λ _=>letGo (#[]:Array va2).toList.reverse >>= λ _=>ve0 (.ref st.heap.objs.size) (.ref it) .none) _ _ _;refine va0 (wpAny_updateSeq hN rfl (va0 (wpAny_letGo ?_)));have hN2:=vd9 (vh9 (λ _=>(#[]:Array va2))) hN rfl;have rest:∀ b o,b≠st.heap.objs.size->st.heap.get? b=some o->((st.heap.push one).update st.heap.objs.size (vh9 (λ _=>(#[]:Array va2)))).get? b=some o:=λ b o hb e=>(vf5 _ _ (vb6 hb)).trans (va3 _ e);refine qk4 (Ar:=Ar.in1) hd0 lne (hri.at λ o e=>rest it o (vb6 nI) e) (hl.at λ o e=>rest l o (vb6 nl) e) hz st.heap.objs.size nI nl .none _ hN2 λ hp tk out c2 hk hN' all=>?_;exact ⟨rfl,good hp tk out c2 (λ b o hb e=>by
  have hb':b≠st.heap.objs.size:=λ z=>jd6 _ (z ▸ va5 e);exact hk b o hb' hb (rest b o hb' e)) hN' all⟩
end
theorem qee {its:List va2}{acc:Array va2} (h:ItemsOf (λ i v=>its.toArray[its.toArray.size - 1 - i]?=some v) acc its.toArray.size):acc.toList=its.reverse:=by
 obtain ⟨hs,hi⟩:=h;simp only [jb5] at hs hi;refine jo2 λ j=>?_;by_cases hj:j < its.length
 ·have e:acc[j]?=some acc[j]:=Array.getElem?_eq_getElem (by omega)
  have:=hi j _ e
  rw [jh5,e,jm5 hj,<- this];simp
 ·rw [jf7 (by simp;omega),jf7 (by simp;omega)]
section
variable {X:Cx}{M:Fm}{f:Fx}{vs:List Nat}{a:Expr}{pos p p2 pos2:Pos}
def rRvL (K:Frag):V->Hp->VK->Prop:=λ x H1 Q=>∃ l xs,x=.ref l/\SqL K H1 l xs/\∀ p,H1 p=none->Q (.ref p) (upd H1 p (.lst xs.reverse))
theorem qj4 {te:TE} (hc:X.calm=true) (hgL:Gl X "list") (hmL:X.mg "list" = none) (hgR:Gl X "reversed") (hmR:X.mg "reversed" = none) (ha:PE X a te) (hs:va9 [a] X.env=[(false,eval a X.env)]):
  PE X (.Call (.Name "list" p) [.Call (.Name "reversed" p2) [a] [] pos2] [] pos) (tUn (rRvL X.K) te):=by
 intro pins s σ H Q I h;refine vg5 (zvi I hgL hmL boot_list ?_ (by decide) (by decide));refine vb3 ?_ rfl rfl;show vb1 _ _ (spliced ((false,eval (.Call (.Name "reversed" p2) [a] [] pos2) X.env)::[])) _ _ s;refine vk3 ?_;refine Call_ (zvi I hgR hmR boot_reversed (vb3 ?_ hs rfl));rw [hs];show vb1 _ _ (spliced ((false,eval a X.env)::[])) _ _ s;refine vk3 (thn (ha pins s σ H _ I h) λ u s1 ⟨x,H1,I1,r1,q1⟩=>vl2 ?_);obtain ⟨l,xs,rfl,hq,q⟩:=q1;cases r1;obtain ⟨its,rv,pl,hz⟩:=I1.list hq;have hlen:=rv.length;refine call_reversed_list pl.isList ?_;refine vl2 ?_;have hT:(s1.heap.push (revObj l ((its.toArray.size:Int) - 1))).IsRevIter s1.heap.objs.size l ((its.toArray.size:Int) - 1):=⟨_,va7 _ rfl,rfl,rfl⟩
 have hlt:s1.heap.objs.size < (s1.heap.push (revObj l ((its.toArray.size:Int) - 1))).objs.size:=va5 (va7 _ rfl);have hne:l≠s1.heap.objs.size:=λ e=>by obtain ⟨o,ho,_⟩:=pl.isList;exact jd6 _ (e ▸ va5 ho)
 refine qgq (st:={ s1 with heap:=s1.heap.push (revObj l ((its.toArray.size:Int) - 1)) }) (I1.ok.hd hc) hne hT (pl.isList.at λ o e=>va3 _ e) (by rw [jb5];omega) λ h' tk acc' c' hk hS' hacc=>?_;have ea:=qee hacc;refine ⟨.ref _,_,I1.laid (h':=h') (t':=tk) (o:=.lst xs.reverse) (λ b o e=>hk b o (λ z=>jd6 _ (z ▸ va5 e)) (va3 _ e)) (jk9 hlt) ?_,rfl,q _ (I1.hok.fresh (jk9 hlt))⟩;refine ⟨by rw [jk3];exact hz,its.reverse,c',zby rv,?_⟩;rw [<- ea];exact hS'
def qkf:PV->Nat->Option (PV×Nat)
 | .lst xs,_=>some (.lst xs.reverse,d1 xs.reverse)
 | _,_=>none
theorem qjg (hK:M.K=X.K) (hc:X.calm=true) (hgL:Gl X "list") (hmL:X.mg "list" = none) (hgR:Gl X "reversed") (hmR:X.mg "reversed" = none) (hs:va9 [a] X.env=[(false,eval a X.env)]) (ha:PE X a (tE M f vs)):
  PE X (.Call (.Name "list" p) [.Call (.Name "reversed" p2) [a] [] pos2] [] pos) (tE M (bUn qkf f) vs):=by
 refine zqr (qj4 hc hgL hmL hgR hmR ha hs) λ σ H Q h=>qcs (λ x d z c v H fps f1 Q ho o1 nz zd lf=>?_) h;cases x with
 | lst xs=>
  cases ho;obtain ⟨q,us,rfl,hs,ol⟩:=(cold o1 λ a ha=>nz a ha).coldL;exact ⟨q,us,rfl,.inl (.inl hs),λ l hl=>zwf lf (OwnL.rev ol) hl⟩
 | _=>cases ho
end
section
variable {prog:vb0}{w:vb4}{A:vc0}{E:va2->va4->Prop}{s:va4}{a₀:Array Keyed}
end
section
variable {prog:vb0}{w:vb4}{A:vc0}{E:va2->va4->Prop}{s:va4}
end
section
variable {X:Cx}{M:Fm}{fa:Fa}{vs:List Nat}{e:Expr}{es:List Expr}{pos p:Pos}
def qpt (ns:List Int):Prop:=ns.length < 64\/(ns.Pairwise (·<=·)/\ns.length<=va6)
instance (ns:List Int):Decidable (qpt ns):=inferInstanceAs (Decidable (_\/_))
def maxI:Int->List Int->Int
 | n,[]=>n
 | n,m::r=>maxI (if m > n then m else n) r
theorem zyo:∀ (r:List Int) (n:Int),maxI n r∈n::r
 | [],n=>ja1
 | m::r,n=>by
  have q:=zyo r (if m > n then m else n);show maxI (if m > n then m else n) r∈_;rcases jb6.mp q with z | z
  ·rw [z];split <;> simp
  ·simp [z]
theorem zhb:∀ (r:List Int) (n:Int),∀ a∈n::r,a<=maxI n r
 | [],n,a,h=>by
  have e:a=n:=by simpa using h
  rw [e];exact Int.le_refl _
 | m::r,n,a,h=>by
  show a<=maxI (if m > n then m else n) r;have q:=zhb r (if m > n then m else n);have q1:=q _ ja1;have q2:n<=(if m > n then m else n)/\m<=(if m > n then m else n):=by split <;> omega
  simp only [jb6] at h;rcases h with z | z | z
  ·omega
  ·omega
  ·exact q a (ja0 _ z)
theorem qfj (hc:X.calm=true):zvb X (.builtin "max") (λ xs H Q=>∃ (q:Addr) (n:Int) (r:List Int),xs=[.ref q]/\SqL X.K H q ((n::r).map V.int)/\Q (.int (maxI n r)) H):=by
 intro pins s σ H xs us Q I rv h;obtain ⟨q,n,r,rfl,hq,k0⟩:=h;obtain ⟨u,rfl,rx⟩:=zbz rv;cases rx;obtain ⟨its,rv2,pl,hz⟩:=I.list hq;obtain ⟨zs,rfl,ez⟩:=zza rv2;have e:(zs.map λ p=>Value.int p.1 p.2).toArray=ve4 zs.toArray:=by simp [ve4]
 rw [e] at pl;have hsz:zs.toArray.size=zs.length:=by simp
 have h0:0 < zs.length:=by
  cases zs with
  | nil=>cases ez
  | cons _ _=>simp
 refine max_intList (I.ok.hd hc) pl.isList (by simpa using h0) λ v h' tk hv k=>?_;obtain ⟨l1,l2⟩:=argBest_gt (vh6 zs.toArray) (zs.toArray.size - 1);obtain ⟨t,rfl⟩:=intItems_at hv;generalize argBest (λ i j=>decide (vh6 zs.toArray i > vh6 zs.toArray j)) (zs.toArray.size - 1)=b at *;have num:∀ j,(hj:j < zs.length)->vh6 zs.toArray j=zs[j].1:=λ j hj=>by unfold vh6;simp [hj]
 have hm:vh6 zs.toArray b∈n::r:=by
  rw [num b (by omega),<- ez];exact jd4.mpr ⟨_,ji0 _,rfl⟩
 have hg:∀ a∈n::r,a<=vh6 zs.toArray b:=λ a ha=>by
  rw [<- ez] at ha;obtain ⟨z,hz',rfl⟩:=jd4.mp ha;obtain ⟨j,hj,rfl⟩:=ji2 hz';rw [<- num j hj];exact l2 j (by omega)
 have eb:vh6 zs.toArray b=maxI n r:=jp7 (zhb r n _ hm) (hg _ (zyo r n));exact ⟨.int _,H,I.kept (t':=tk) k,⟨t,rfl⟩,by rw [eb];exact k0⟩
def qby:List (PV×Nat)->Option (PV×Nat)
 | [(.lst xs,_)]=>match zvj xs with
  | some (n::r)=>some (.int (maxI n r),om)
  | _=>none
 | [(.tup xs,_)]=>match zvj xs with
  | some (n::r)=>some (.int (maxI n r),om)
  | _=>none
 | xs=>op2 (λ i j=>if j > i then j else i) xs
theorem qb2 {prog:vb0}{w:vb4}{A:vc0}{E:va2->va4->Prop}{s:va4}{l:Addr}{xs:Array (Int×Tok)}{Q:va2->va4->Prop} (hh:A.handled=none) (hl:s.heap.IsTuple l (ve4 xs)) (hne:0 < xs.size)
  (h:∀ v h' tk,(ve4 xs)[argBest (λ i j=>decide (vh6 xs i > vh6 xs j)) (xs.size - 1)]?=some v->(∀ b o,s.heap.get? b=some o->h'.get? b=some o)->Q v { s with heap:=h',toks:=tk }):
  vb1 (vb2 prog w) A (call (.builtin "max") [.ref l]) Q E s:=by
 have hlt:l < s.heap.objs.size:=by obtain ⟨_,e,_⟩:=hl;exact va5 e
 refine call_max_walk (wpAny_pyIter_tuple hl ?_);refine ⟨_,[_,l],[_],_,_,_,_,rfl,Walks.tuple (A:=A.in1) hh _ l (jc9 hlt) (ve4 xs),⟨⟨_,va7 _ rfl,rfl,rfl⟩,hl.push _⟩,λ c hc=>?_,by simpa [ve4] using hne,CmpOf.ints_gt (vh6 xs) (λ _ _=>intItems_at),λ v h' tk hP hk=>?_⟩
 ·show c < (s.heap.push _).objs.size;rw [vh3];rcases jb6.mp hc with rfl | hc
  ·exact jg3 _
  ·rcases jb6.mp hc with rfl | hc
   ·exact jj1 hlt
   ·cases hc
 ·exact h v h' tk (by simpa [ve4] using hP) λ c o e=>by
   refine hk c o (λ hm=>?_) (va3 _ e);rcases jb6.mp hm with e1 | hm
   ·exact absurd (e1 ▸ va5 e) (jd6 _)
   ·cases hm
theorem qfi (hc:X.calm=true):zvb X (.builtin "max") (λ xs H Q=>∃ (q:Addr) (n:Int) (r:List Int),xs=[.ref q]/\SqT X.K H q ((n::r).map V.int)/\Q (.int (maxI n r)) H):=by
 intro pins s σ H xs us Q I rv h;obtain ⟨q,n,r,rfl,hq,k0⟩:=h;obtain ⟨u,rfl,rx⟩:=zbz rv;cases rx;obtain ⟨its,rv2,pl,hz⟩:=I.tuple hq;obtain ⟨zs,rfl,ez⟩:=zza rv2;have e:(zs.map λ p=>Value.int p.1 p.2).toArray=ve4 zs.toArray:=by simp [ve4]
 rw [e] at pl;have hsz:zs.toArray.size=zs.length:=by simp
 have h0:0 < zs.length:=by
  cases zs with
  | nil=>cases ez
  | cons _ _=>simp
 refine qb2 (I.ok.hd hc) pl (by simpa using h0) λ v h' tk hv k=>?_;obtain ⟨l1,l2⟩:=argBest_gt (vh6 zs.toArray) (zs.toArray.size - 1);obtain ⟨t,rfl⟩:=intItems_at hv;generalize argBest (λ i j=>decide (vh6 zs.toArray i > vh6 zs.toArray j)) (zs.toArray.size - 1)=b at *;have num:∀ j,(hj:j < zs.length)->vh6 zs.toArray j=zs[j].1:=λ j hj=>by unfold vh6;simp [hj]
 have hm:vh6 zs.toArray b∈n::r:=by
  rw [num b (by omega),<- ez];exact jd4.mpr ⟨_,ji0 _,rfl⟩
 have hg:∀ a∈n::r,a<=vh6 zs.toArray b:=λ a ha=>by
  rw [<- ez] at ha;obtain ⟨z,hz',rfl⟩:=jd4.mp ha;obtain ⟨j,hj,rfl⟩:=ji2 hz';rw [<- num j hj];exact l2 j (by omega)
 have eb:vh6 zs.toArray b=maxI n r:=jp7 (zhb r n _ hm) (hg _ (zyo r n));exact ⟨.int _,H,I.kept (t':=tk) k,⟨t,rfl⟩,by rw [eb];exact k0⟩
theorem qjd (hc:X.calm=true) (hg:Gl X "max") (hm:X.mg "max" = none) (ha:PA X (e::es) (tL M fa vs)) (he:va9 (e::es) X.env=(false,eval e X.env)::va9 es X.env) (hpl:(vg0 pos (va9 es X.env)).any (·.1)=false):
  PE X (.Call (.Name "max" p) (e::es) [] pos) (tE M (zqc qby fa) vs):=by
 refine zqr (zvy (((qfk hc).or (qfj hc)).or (qfi hc)) hg hm rfl ha (he:=he) (hpl:=hpl)) λ σ H Q h=>zvc (λ xs z c ws H fps fp Q ho tm nz zd lf=>?_) h;unfold qby at ho;split at ho
 ·rename_i xs d;split at ho
  ·rename_i n r eb;cases ho;obtain ⟨v,r',f1,f2,rfl,rfl,_,o1,h2⟩:=tm;obtain ⟨rfl,rfl⟩:=h2;obtain ⟨q,us,rfl,hs,ol⟩:=(cold (fp:=f1) o1 λ a ha=>nz a (ja7 _ ha)).coldL
   have:=zzb eb ol
   subst this;exact .inl (.inr ⟨q,n,r,rfl,.inl (.inl hs),zxm lf⟩)
  ·cases ho
 ·rename_i xs d;split at ho
  ·rename_i n r eb;cases ho;obtain ⟨v,r',f1,f2,rfl,rfl,_,o1,h2⟩:=tm;obtain ⟨rfl,rfl⟩:=h2;obtain ⟨q,us,rfl,hs,ol⟩:=(cold (fp:=f1) o1 λ a ha=>nz a (ja7 _ ha)).coldT
   have:=zzb eb ol
   subst this;exact .inr ⟨q,n,r,rfl,.inl (.inl hs),zxm lf⟩
  ·cases ho
 ·exact .inl (.inl (qgr ho tm lf))
end
open PySem PySem.Spec PyProof.Rows L2 PySem.Builtin PySem.Builtin.ObjectAttr PySem.Builtin.Getset_descriptor
section
variable {prog:vb0}{w:vb4}{A:vc0}{E:va2->va4->Prop}{K:Frag}{h:Heap}{g:Array GenState}{d:Drawn}{t:Nat}{os:OsState}{a C:Addr}{oe:Obj}
end
section
variable {K:Frag}{a C:Addr}{c d:Nat}{u:va2}
end
section
variable {X:Cx}
end
section
variable {X:Cx}{M:Fm}{f g:Fx}{vs vs':List Nat}{e:Expr}{es:List Expr}{pos p:Pos}{σ:St}{H:Hp}{Q:VK}
end
section
variable {X:Cx}{M:Fm}{a b:Expr}{f g:Fx}{fa:Fa}{vs vs':List Nat}{pos p:Pos}{σ:St}{H:Hp}{Q:VK}{e:Expr}{es:List Expr}
def opIn (neg:Bool) (x:PV) (_:Nat) (y:PV) (_:Nat):Option (PV×Nat):=match x,y with
 | .tup ks,.dct kvs=>(keyL ks).map λ k=>(.bl (neg^^(valV kvs k).isSome),om)
 | .tup key,.dcl ks xs=>(keyL key).map λ k=>(.bl (neg^^(kvX ks xs k).isSome),om)
 | _,_=>none
def rDIn (neg:Bool):R2:=λ v w H Q=>∃ a o,w=.ref a/\DGet H a v o/\Q (.bl (neg^^o.isSome)) H
theorem qnw (hu:X.A.units + 1 < vl6):OpR X (vb7 .In) (rDIn false):=by
 intro pins s σ H x y v u Q I rx ry h;obtain ⟨a,o,rfl,g,q⟩:=h;obtain rfl:u=Value.ref a:=ry;exact d_in hu I g rx λ s3 I3=>⟨.bl o.isSome,H,I3,rfl,by simpa using q⟩
theorem qds (hu:X.A.units + 1 < vl6):OpR X (vb7 .NotIn) (rDIn true):=by
 intro pins s σ H x y v u Q I rx ry h;obtain ⟨a,o,rfl,g,q⟩:=h;obtain rfl:u=Value.ref a:=ry;exact qlb hu I g rx λ s3 I3=>⟨.bl (!o.isSome),H,I3,rfl,by simpa using q⟩
theorem qa9 {x y z:PV}{d e c:Nat}{v w:V}{fps:Fps}{f1 f2 F:List Addr}{Z Z':Addr->Prop}{neg:Bool} (hK:M.K=X.K) (ho:opIn neg x d y e=some (z,c)) (o1:Own M.K H Z x d v f1) (o2:Own M.K H Z' y e w f2) (lf:Leaf M H fps vs F z c Q):rDIn neg v w H Q:=by
 unfold opIn at ho;split at ho
 ·rename_i ks kvs;obtain ⟨k,ek,e2⟩:=jb8.mp ho;cases e2;rw [Own] at o1;rw [Own] at o2;obtain ⟨b,ws,rfl,hb,ol⟩:=o1
  have:=zzk ek ol
  subst this;have h2:∃ a,w=.ref a/\Rd H a (.dT kvs):=by
   obtain ⟨a,ea,⟨_,hr,_⟩ | ⟨_,ha,_⟩⟩:=o2
   ·exact ⟨a,ea,hr.1⟩
   ·exact ⟨a,ea,.inl ha⟩
  obtain ⟨a,rfl,ha⟩:=h2;exact ⟨a,_,rfl,.inr ⟨_,k,b,ha,rfl,hb,rfl⟩,zvp lf⟩
 ·rename_i key ks xs;obtain ⟨k,ek,e2⟩:=jb8.mp ho;cases e2;rw [Own] at o1;obtain ⟨b,us,rfl,hb,okey⟩:=o1
  have:=zzk ek okey
  subst this;obtain ⟨a,ws,rfl,en,hr,_,ol⟩:=(Own.freeze (Z':=λ _=>False) (λ _ z=>z.elim) _ _ _ _ (λ _ _ z=>z) o2).dcl0;have kv:=zhg (k:=k) ol en;have e3:(kvX ks xs k).isSome=(valV (ks.zip ws) k).isSome:=by
   cases ex:kvX ks xs k with
   | none=>rw [kv.2 ex];rfl
   | some x=>obtain ⟨w',ew,_⟩:=kv.1 x ex;rw [ew];rfl
  rw [e3] at lf;exact ⟨a,_,rfl,.inr ⟨_,k,b,hr,rfl,hb,rfl⟩,zvp lf⟩
 ·cases ho
def bDct:Fx:=λ ρ=>.ok (.dct [],om,ρ)
theorem qmq:PE X (.Dict [] [] pos) (tE M bDct []):=by
 refine zqr qgh λ σ H Q h p hp=>?_;obtain ⟨ρ,fps,rep,q⟩:=h;refine q (.ref p) _ fps [p] (KD.grow (zqz hp)) Agr.refl (rep.grow (zqz hp)) ?_ ⟨λ a ha=>by rw [jb4.mp ha];exact hp,λ a ha=>by rw [jb4.mp ha];exact rep.nz hp⟩;rw [Own];exact ⟨p,rfl,.inr ⟨by decide,zqe,rfl⟩⟩
end
structure Sx where
 N:List Str
 sc:vd1
 ms:List Nat
 al:List (List Nat)
 Γ:List (Str×(Bool×Nat×Fn))
 Γm:List (Str×Fn)
 rz:Bool
 xc:List Nat
 pn:List Nat
def Sx.alF (S:Sx) (i:Nat):List Nat:=S.al.getD i []
def Sx.msF (S:Sx) (i:Nat):Bool:=S.ms.contains i
def zwj (sc:vd1) (x:Str) (k:vc8):Bool:=sc.names.lookup x == some k
def visB (sc:vd1) (x:Str):Bool:=zwj sc x .local || zwj sc x .cell || zwj sc x .free
def ixOf (N:List Str) (x:Str):Option Nat:=N.findIdx? (·== x)
def Sx.slot (S:Sx) (x:Str):Option Nat:=if visB S.sc x && !(x == ("__debug__" : Str)) && !(x == ("__classdict__" : Str)) then ixOf S.N x else none
def Sx.glob (S:Sx) (x:Str):Bool:=zwj S.sc x .globalImplicit
structure XS (X:Cx) (P:vb0) (w:vb4) (K:Frag) (mg:Str->Option va2) (base:Heap) (lvl:Nat) (S:Sx) (Wx:St->Nat->Hp->Prop):Prop where
 prog:X.prog=P
 w:X.w=w
 K:X.K=K
 mg:X.mg=mg
 base:X.base=base
 N:X.N=S.N
 sc:X.env.scope=S.sc
 calm:X.calm=true
 room:Room lvl X.A
 po:vn1 (vb2 X.prog X.w) X.A X.env X.xe
 ps:zmg (CXr X.prog X.w X.K) X Wx
 rs:S.rz=true->qfs X Wx
structure MS (M:Fm) (K:Frag) (S:Sx) (Wx:St->Nat->Hp->Prop):Prop where
 K:M.K=K
 ms:M.Ms=S.msF
 al:∀ i,i < S.N.length->M.al i=S.alF i
 als:∀ i,∀ j∈M.al i,M.Ms j=false
 W:M.W=Wx
 pn:∀ p∈M.pn,p.1 < S.N.length
def GSm (P:vb0) (w:vb4) (K:Frag) (mg:Str->Option va2) (base:Heap) (lvl:Nat) (Γm:List (Str×Fn)):Prop:=
 ∀ x F,Γm.lookup x=some F->(x == ("__debug__" : Str))=false/\∃ fa fd ps,mg x=some (.ref fa)/\ve2 K (.ref fa)=true/\zgh K fd ps []/\FnOk P w K mg base (CXr P w K) lvl fa fd ps (spM K F)
def GX (_:Frag) (_:Str->Option va2) (xc:List Nat):Prop:=xc=[]
def GS (P:vb0) (w:vb4) (K:Frag) (mg:Str->Option va2) (base:Heap) (lvl:Nat) (Γ:List (Str×(Bool×Nat×Fn))):Prop:=
 (∀ x∈zvl,mg x=none)/\∀ x io n F,Γ.lookup x=some (io,n,F)->(x == ("__debug__" : Str))=false/\(∀ xs,xs.length≠n->F xs=.no) /\
  ∃ fa fd ps,mg x=some (.ref fa)/\ve2 K (.ref fa)=true/\zgh K fd ps []/\ps.length=n/\FnOk P w K mg base (CXr P w K) lvl fa fd ps (spF K io n F)
section
variable {X:Cx}{P:vb0}{w:vb4}{K:Frag}{mg:Str->Option va2}{base:Heap}{lvl:Nat}{S:Sx}{Wx:St->Nat->Hp->Prop}{M:Fm}
theorem zxx {sc:vd1}{x:Str}{k:vc8} (h:zwj sc x k=true):sc.names.lookup x=some k:=by
 unfold zwj at h;exact eq_of_beq h
theorem qhn {sc:vd1}{x:Str} (h:visB sc x=true):Vis sc x:=by
 unfold visB at h;rw [je3,je3] at h;rcases h with (h | h) | h
 ·exact .inl (zxx h)
 ·exact .inr (.inl (zxx h))
 ·exact .inr (.inr (zxx h))
theorem zyr {N:List Str}{x:Str}{i:Nat} (h:ixOf N x=some i):N[i]?=some x:=by
 unfold ixOf at h;rw [List.findIdx?_eq_some_iff_getElem] at h;obtain ⟨hi,e,_⟩:=h
 have:N[i]=x:=eq_of_beq e
 rw [jc4 hi,this]
theorem XS.var (xs:XS X P w K mg base lvl S Wx) {x:Str}{i:Nat}{pos:Pos} (h:S.slot x=some i):PE X (.Name x pos) (tVar i):=by
 unfold Sx.slot at h;split at h
 ·rename_i hc;simp only [ja4,jo3] at hc;exact qnc (by rw [xs.N];exact zyr h) (by rw [xs.sc];exact qhn hc.1.1) hc.1.2 hc.2
 ·cases h
theorem XS.gl (xs:XS X P w K mg base lvl S Wx) {x:Str} (h:S.glob x=true):Gl X x:=by
 show X.env.scope.names.lookup x=_;rw [xs.sc];exact zxx h
theorem zqx {e:Expr}{es:List Expr}{env:Env} (h:∀ x p,e≠.Starred x p):va9 (e::es) env=(false,eval e env)::va9 es env:=by
 cases e with
 | Starred x p=>exact absurd rfl (h x p)
 | _=>rfl
def zjk:Expr->Bool
 | .Starred _ _=>false
 | _=>true
theorem zqm {e:Expr} (h:zjk e=true):∀ x p,e≠.Starred x p:=λ x p z=>by rw [z] at h;cases h
theorem zym {env:Env}{pos:Pos}:∀ {es:List Expr},es.all zjk=true->(vg0 pos (va9 es env)).any (·.1)=false
 | [],_=>rfl
 | e::es,h=>by
  rw [jf9,ja4] at h;rw [zqx (zqm h.1)];show (false || (vg0 pos (va9 es env)).any (·.1))=false;rw [zym h.2];rfl
def zjl:Expr->Bool
 | .Slice _ _ _ _=>false
 | _=>true
theorem zkm {b:Expr} (h:zjl b=true):zmf b:=by
 intro o i;cases b with
 | Slice _ _ _ _=>cases h
 | _=>rfl
def qoy (b:Expr):vi1->Option (PV->Nat->PV->Nat->Option (PV×Nat))
 | .Add=>some zqh
 | .Sub=>some zxh
 | .Mult=>some zqs
 | .FloorDiv=>some zqq
 | .Mod=>some zws
 | .Pow=>some qdt
 | _=>none
theorem qo8 {a b:Expr}{op:vi1}{o:PV->Nat->PV->Nat->Option (PV×Nat)}{f g:Fx}{vs vs':List Nat}{pos:Pos} (h:qoy b op=some o) (hv:∀ i∈vs,M.Ms i=false) (hK:M.K=X.K) (ha:PE X a (tE M f vs)) (hb:PE X b (tE M g vs')):PE X (.BinOp a op b pos) (tE M (bBin o f g) (vs++vs')):=by
 cases op <;> cases h
 ·exact qmt hv hK ha hb
 ·exact qai qkc (λ _ _ _=>trivial) hv ha hb
 ·exact qmk hv ha hb
 ·exact qai qnq (λ _ _=>cMod) hv ha hb
 ·exact qai qnn (λ _ _=>cPow) hv ha hb
 ·exact qai qgl (λ _ _=>cDiv) hv ha hb
def isNm:Expr->Bool
 | .Set _ _ _=>false
 | _=>true
def qle (b:Expr):vn3->Option (PV->Nat->PV->Nat->Option (PV×Nat))
 | .Lt=>some (zxo λ i j=>decide (i < j))
 | .LtE=>some (zxo λ i j=>decide (i<=j))
 | .Gt=>some (zxo λ i j=>decide (j < i))
 | .GtE=>some (zxo λ i j=>decide (j<=i))
 | .Eq=>some (opEq false)
 | .NotEq=>some (opEq true)
 | .In=>if isNm b=true then some (opIn false) else none
 | .NotIn=>if isNm b=true then some (opIn true) else none
 | _=>none
theorem qen {op:vn3}{b:Expr} (h:isNm b=true):vg1 op b=false:=by
 cases b with
 | Set _ _ _=>cases h
 | _=>rfl
theorem qhg {op:vn3}{o:PV->Nat->PV->Nat->Option (PV×Nat)}{f g:Fx}{vs vs':List Nat}{b:Expr} (h:qle b op=some o) (hu:X.A.units + 64 < vl6) (hv:∀ i∈vs,M.Ms i=false) (hK:M.K=X.K):
  ∃ r,OpR X (vb7 op) r/\vg1 op b=false/\∀ σ H Q,tE M (bBin o f g) (vs++vs') σ H Q->tOp r (tE M f vs) (tE M g vs') σ H Q:=by
 cases op
 ·cases h;exact ⟨_,qnv hu,zwt _ (by decide) (by decide),λ σ H Q h=>zwy hv (λ x d y e z c v w H fps f1 f2 Q ho o1 o2 dj nz zd lf=>qa8 hK ho o1 o2 lf) h⟩
 ·cases h;exact ⟨_,qno hu,zwt _ (by decide) (by decide),λ σ H Q h=>zwy hv (λ x d y e z c v w H fps f1 f2 Q ho o1 o2 dj nz zd lf=>qa8 hK ho o1 o2 lf) h⟩
 ·cases h;exact ⟨_,qnr,zwt _ (by decide) (by decide),λ σ H Q h=>zwy hv (λ x d y e z c v w H fps f1 f2 Q ho o1 o2 dj nz zd lf=>zyp ho o1 o2 lf) h⟩
 ·cases h;exact ⟨_,qns,zwt _ (by decide) (by decide),λ σ H Q h=>zwy hv (λ x d y e z c v w H fps f1 f2 Q ho o1 o2 dj nz zd lf=>zyp ho o1 o2 lf) h⟩
 ·cases h;exact ⟨_,qnt,zwt _ (by decide) (by decide),λ σ H Q h=>zwy hv (λ x d y e z c v w H fps f1 f2 Q ho o1 o2 dj nz zd lf=>zyp ho o1 o2 lf) h⟩
 ·cases h;exact ⟨_,qnu,zwt _ (by decide) (by decide),λ σ H Q h=>zwy hv (λ x d y e z c v w H fps f1 f2 Q ho o1 o2 dj nz zd lf=>zyp ho o1 o2 lf) h⟩
 ·cases h
 ·cases h
 ·replace h:(if isNm b=true then some (opIn false) else none)=some o:=h;split at h
  ·rename_i hb;cases h;exact ⟨_,qnw (by omega),qen hb,λ σ H Q h=>zwy hv (λ x d y e z c v w H fps f1 f2 Q ho o1 o2 dj nz zd lf=>qa9 hK ho o1 o2 lf) h⟩
  ·cases h
 ·replace h:(if isNm b=true then some (opIn true) else none)=some o:=h;split at h
  ·rename_i hb;cases h;exact ⟨_,qds (by omega),qen hb,λ σ H Q h=>zwy hv (λ x d y e z c v w H fps f1 f2 Q ho o1 o2 dj nz zd lf=>qa9 hK ho o1 o2 lf) h⟩
  ·cases h
def icmp:vn3->Option (Int->Int->Bool)
 | .Lt=>some λ i j=>decide (i < j)
 | .LtE=>some λ i j=>decide (i<=j)
 | .Gt=>some λ i j=>decide (j < i)
 | .GtE=>some λ i j=>decide (j<=i)
 | .Eq=>some λ i j=>decide (i=j)
 | _=>none
theorem qkd:OpR X (vb7 .Eq) (rI0 λ i j=>.bl (decide (i=j))):=λ pins s σ H x y v u Q I rx ry h=>qpj pins s σ H x y v u Q I rx ry (by
 obtain ⟨i,j,rfl,rfl,q⟩:=h;refine ⟨rfl,?_⟩;rw [qe3];exact q)
theorem zfl {op:vn3}{p:Int->Int->Bool} (h:icmp op=some p):OpR X (vb7 op) (rI0 λ i j=>.bl (p i j))/\op≠.In/\op≠.NotIn:=by
 cases op <;> cases h
 ·exact ⟨qkd,by decide,by decide⟩
 ·exact ⟨qnr,by decide,by decide⟩
 ·exact ⟨qns,by decide,by decide⟩
 ·exact ⟨qnt,by decide,by decide⟩
 ·exact ⟨qnu,by decide,by decide⟩
def zye (p q:Int->Int->Bool) (f g h:Fx):Fx:=λ ρ=>(f ρ).bind λ (x,_,ρ1)=>(g ρ1).bind λ (y,_,ρ2)=>match x,y with
 | .int i,.int j=>if p i j=true then (h ρ2).bind λ (z,_,ρ3)=>(match z with
  | .int k=>.ok (.bl (q j k),om,ρ3)
  | _=>.no) else .ok (.bl false,om,ρ2)
 | _,_=>.no
theorem qaf {p q:Int->Int->Bool}{f g h:Fx}{vs v1 v2 v3:List Nat}{σ:St}{H:Hp}{Q:VK} (hq:tE M (zye p q f g h) vs σ H Q):qct (rI0 λ i j=>.bl (p i j)) (rI0 λ i j=>.bl (q i j)) (tE M f v1) (tE M g v2) (tE M h v3) σ H Q:=by
 obtain ⟨ρ,fps,rep,qq⟩:=hq;refine ⟨ρ,fps,rep,?_⟩;unfold zye at qq;cases ef:f ρ with
 | no=>rw [ef] at qq;exact qq
 | exc c=>rw [ef] at qq;exact qq
 | ok p0=>
  obtain ⟨x,d,ρ1⟩:=p0;rw [ef] at qq;intro v H1 fps1 f1 k1 g1 rep1 o1 t1;refine ⟨ρ1,fps1,rep1,?_⟩;dsimp only [Rz.bind] at qq;cases eg:g ρ1 with
  | no=>rw [eg] at qq;exact qq
  | exc c=>rw [eg] at qq;exact λ H' fps' k=>qq H' fps' (k1.trans k)
  | ok p2=>
   obtain ⟨y,e,ρ2⟩:=p2;rw [eg] at qq;intro w H2 fps2 f2 k2 g2 rep2 o2 t2;cases x with
   | int i=>
    cases y with
    | int j=>
     dsimp only at qq;rw [Own] at o1 o2;obtain ⟨rfl,rfl⟩:=o1;obtain ⟨rfl,rfl⟩:=o2;refine ⟨i,j,rfl,rfl,p i j,rfl,?_⟩;by_cases hp:p i j=true
     ·rw [if_pos hp] at qq ⊢;refine ⟨ρ2,fps2,rep2,?_⟩;cases eh:h ρ2 with
      | no=>rw [eh] at qq;exact qq
      | exc c=>rw [eh] at qq;exact λ H' fps' k=>qq H' fps' ((k1.trans k2).trans k)
      | ok p3=>
       obtain ⟨z,c,ρ3⟩:=p3;rw [eh] at qq;intro u H3 fps3 f3 k3 g3 rep3 o3 t3;cases z with
       | int k=>
        dsimp only at qq;rw [Own] at o3;obtain ⟨rfl,rfl⟩:=o3;exact ⟨j,k,rfl,rfl,qq _ H3 fps3 [] ((k1.trans k2).trans k3) ((g1.trans g2).trans g3) rep3 (by rw [Own];exact ⟨rfl,rfl⟩) ⟨λ _ z=>(nomatch z),λ _ z=>nomatch z⟩⟩
       | _=>exact qq.elim
     ·rw [if_neg hp] at qq ⊢;exact qq _ H2 fps2 [] (k1.trans k2) (g1.trans g2) rep2 (by rw [Own];exact ⟨rfl,rfl⟩) ⟨λ _ z=>(nomatch z),λ _ z=>nomatch z⟩
    | _=>exact qq.elim
   | _=>exact qq.elim
def zkz (f g:Fx):Fx:=λ ρ=>(f ρ).bind λ (x,_,ρ1)=>match x with
 | .bl true=>g ρ1
 | .bl false=>.ok (.bl false,om,ρ1)
 | _=>.no
def bOrV (f g:Fx):Fx:=λ ρ=>(f ρ).bind λ (x,_,ρ1)=>match x with
 | .bl true=>.ok (.bl true,om,ρ1)
 | .bl false=>g ρ1
 | _=>.no
def zpl:PV->Nat->Option (PV×Nat)
 | .bl b,_=>some (.bl (!b),om)
 | _,_=>none
variable {f g:Fx}{vs vs':List Nat}{σ:St}{H:Hp}{Q:VK}
theorem zpd {f:Fx}{ρ ρ1:Rho}{fps fps1:Fps}{H H1:Hp} (k1:KD M H fps H1 fps1) (g1:Agr M ρ ρ1) (rep1:Rep M ρ1 σ H1 fps1) (hs:∀ i∈vs,i∈vs')
  (q:match f ρ1 with
   | .ok (x,d,ρ')=>∀ v H' fps' fp,KD M H fps H' fps'->Agr M ρ ρ'->Rep M ρ' σ H' fps'->Own M.K H' (Zt M vs' fps' fp) x d v fp->Temp M vs' H H' fps' fp->Q v H'
   | .exc c=>∀ H' fps',KD M H fps H' fps'->M.W σ c H'
   | .no=>False):tE M f vs σ H1 Q:=by
 refine ⟨ρ1,fps1,rep1,?_⟩;cases eg:f ρ1 with
 | no=>rw [eg] at q;exact q
 | exc c=>rw [eg] at q;exact λ H' fps' k=>q H' fps' (k1.trans k)
 | ok p2=>
  obtain ⟨x,d,ρ2⟩:=p2;rw [eg] at q;exact λ v H' fps' fp k g r o t=>q v H' fps' fp (k1.trans k) (g1.trans g) r (o.weak λ a h=>Zt.mono hs h) ⟨λ a ha=>(by
   have e:=t.new a ha;cases e':H a with
   | none=>rfl
   | some o=>exact absurd e (k1.dom a (by rw [e'];simp))),t.ndj⟩
theorem qi9 (hq:tE M (zkz f g) (vs++vs') σ H Q):qmf (tE M f vs) (tE M g vs') σ H Q:=by
 obtain ⟨ρ,fps,rep,q⟩:=hq;refine ⟨ρ,fps,rep,?_⟩;unfold zkz at q;cases ef:f ρ with
 | no=>rw [ef] at q;exact q
 | exc c=>rw [ef] at q;exact q
 | ok p=>
  obtain ⟨x,d,ρ1⟩:=p;rw [ef] at q;intro v H1 fps1 f1 k1 g1 rep1 o1 t1;dsimp only [Rz.bind] at q;cases x with
  | bl b=>
   rw [Own] at o1;refine ⟨b,o1.1,?_⟩;cases b with
   | true=>exact zpd k1 g1 rep1 (λ i hi=>ja5 _ hi) q
   | false=>exact q (.bl false) H1 fps1 [] k1 g1 rep1 (by rw [Own];exact ⟨rfl,rfl⟩) ⟨λ _ z=>(nomatch z),λ _ z=>nomatch z⟩
  | _=>exact q.elim
theorem qmb (hq:tE M (bOrV f g) (vs++vs') σ H Q):tOrV (tE M f vs) (tE M g vs') σ H Q:=by
 obtain ⟨ρ,fps,rep,q⟩:=hq;refine ⟨ρ,fps,rep,?_⟩;unfold bOrV at q;cases ef:f ρ with
 | no=>rw [ef] at q;exact q
 | exc c=>rw [ef] at q;exact q
 | ok p=>
  obtain ⟨x,d,ρ1⟩:=p;rw [ef] at q;intro v H1 fps1 f1 k1 g1 rep1 o1 t1;dsimp only [Rz.bind] at q;cases x with
  | bl b=>
   rw [Own] at o1;refine ⟨b,o1.1,?_⟩;cases b with
   | false=>exact zpd k1 g1 rep1 (λ i hi=>ja5 _ hi) q
   | true=>exact q (.bl true) H1 fps1 [] k1 g1 rep1 (by rw [Own];exact ⟨rfl,rfl⟩) ⟨λ _ z=>(nomatch z),λ _ z=>nomatch z⟩
  | _=>exact q.elim
theorem qi7 (hq:tE M (bUn zpl f) vs σ H Q):ql7 (tE M f vs) σ H Q:=by
 refine qcs (r:=λ x H1 Q=>∃ c,x=.bl c/\Q (.bl (!c)) H1) (λ x d z c v H fps f1 Q ho o1 nz zd lf=>?_) hq;cases x with
 | bl b=>cases ho;rw [Own] at o1;exact ⟨b,o1.1,zvp lf⟩
 | _=>cases ho
end
def bIfE (c:Fb) (f g:Fx):Fx:=λ ρ=>(c ρ).bind λ (b,ρ1)=>if b=true then f ρ1 else g ρ1
section
variable {X:Cx}{M:Fm}{c:Fb}{f g:Fx}{vs vs':List Nat}{σ:St}{H:Hp}{Q:VK}
theorem qmc (hq:tE M (bIfE c f g) (vs++vs') σ H Q):tIf (tT M c) (tE M f vs) (tE M g vs') σ H Q:=by
 obtain ⟨ρ,fps,rep,q⟩:=hq;refine ⟨ρ,fps,rep,?_⟩;unfold bIfE at q;cases ec:c ρ with
 | no=>rw [ec] at q;exact q
 | exc c=>rw [ec] at q;exact q
 | ok p=>
  obtain ⟨b,ρ1⟩:=p;rw [ec] at q;intro H1 fps1 k1 g1 rep1;dsimp only [Rz.bind] at q;cases b with
  | true=>exact zpd k1 g1 rep1 (λ i hi=>ja7 _ hi) q
  | false=>exact zpd k1 g1 rep1 (λ i hi=>ja5 _ hi) q
theorem qmo {t a b:Expr}{pos:Pos} (ht:PT X t (tT M c)) (ha:PE X a (tE M f vs)) (hb:PE X b (tE M g vs')):PE X (.IfExp t a b pos) (tE M (bIfE c f g) (vs++vs')):=zqr (qgg ht ha hb) λ σ H Q q=>qmc q
def tIfT (t u v:TT):TT:=λ σ H Q=>t σ H λ c H1=>if c=true then u σ H1 Q else v σ H1 Q
theorem qm7 {t a b:Expr}{pos:Pos}{tA tB tC:TT} (ht:PT X t tA) (ha:PT X a tB) (hb:PT X b tC):PT X (.IfExp t a b pos) (tIfT tA tB tC):=by
 intro pins s σ H Q I h;unfold PySem.isTrue;refine va0 (thn (ht pins s σ H _ I h) λ d s1 ⟨H1,I1,q1⟩=>?_);cases d with
 | true=>exact ha pins s1 σ H1 Q I1 q1
 | false=>exact hb pins s1 σ H1 Q I1 q1
theorem qoz:bT (bIfE c f g)=λ ρ=>(c ρ).bind λ (b,ρ1)=>if b=true then bT f ρ1 else bT g ρ1:=by
 funext ρ;unfold bT bIfE;dsimp only;cases c ρ with
 | no=>rfl
 | exc c=>rfl
 | ok p=>
  obtain ⟨b,ρ1⟩:=p;cases b <;> rfl
theorem qlv {Q:Bool->Hp->Prop} (hq:tT M (bT (bIfE c f g)) σ H Q):tIfT (tT M c) (tT M (bT f)) (tT M (bT g)) σ H Q:=by
 rw [qoz] at hq;obtain ⟨ρ,fps,rep,q⟩:=hq;refine ⟨ρ,fps,rep,?_⟩;dsimp only at q;cases ef:c ρ with
 | no=>rw [ef] at q;exact q
 | exc c=>rw [ef] at q;exact q
 | ok p=>
  obtain ⟨b,ρ1⟩:=p;rw [ef] at q;intro H1 fps1 k1 g1 rep1;dsimp only [Rz.bind] at q;cases b with
  | false=>
   refine ⟨ρ1,fps1,rep1,?_⟩;rw [if_neg (by decide)] at q;cases eg:bT g ρ1 with
   | no=>rw [eg] at q;exact q
   | exc c=>rw [eg] at q;exact λ H' fps' k=>q H' fps' (k1.trans k)
   | ok p2=>rw [eg] at q;exact λ H' fps' k g r=>q H' fps' (k1.trans k) (g1.trans g) r
  | true=>
   refine ⟨ρ1,fps1,rep1,?_⟩;rw [if_pos rfl] at q;cases eg:bT f ρ1 with
   | no=>rw [eg] at q;exact q
   | exc c=>rw [eg] at q;exact λ H' fps' k=>q H' fps' (k1.trans k)
   | ok p2=>rw [eg] at q;exact λ H' fps' k g r=>q H' fps' (k1.trans k) (g1.trans g) r
end
def RawD (h:Heap) (d:Addr) (es:Array vd0) (ep:Nat):Prop:=∃ o,h.get? d=some o/\o.ExactDict/\o.data=.dict es ep
theorem RawD.to {h h':Heap}{d:Addr}{es:Array vd0}{ep:Nat} (x:RawD h d es ep) (k:∀ o,h.get? d=some o->h'.get? d=some o):RawD h' d es ep:=let ⟨o,e,r⟩:=x;⟨o,k o e,r⟩
section
variable {pg:vb0}{wd:vb4}{Ar:vc0}{Er:va2->va4->Prop}{st:va4}{d it:Addr}{es:Array vd0}{ep i:Nat}
theorem RawD.ty (x:RawD st.heap d es ep):st.TypeIs (.ref d) "dict" := let ⟨o,e,c,_⟩:=x;⟨o,e,c.1⟩
theorem qam {Qv:va2->va4->Prop} (nm:(d == vc6)=false) (x:RawD st.heap d es ep)
  (q:Qv (.ref st.heap.objs.size) { st with heap:=st.heap.push { cls:=.type "dict_keyiterator",data:=.fields #[.ref d,.int 0 0,.int es.size 0,.int ep 0] } }):
  vb1 (vb2 pg wd) Ar (pyIter (.ref d)) Qv Er st:=by
 obtain ⟨o,e1,c1,e2⟩:=id x;have tD:st.TypeIs (.ref d) "dict" := x.ty;refine wpAny_pyIter_slot tD F.slot_dict_iter (vd6 F.slot_dict_iter tD F.entry_dict_iter ?_ (F.args_dict_iter_1 _));delta Builtin.«dict.__iter__»;refine va0 ?_;delta Builtin.Dict.dictSlotNone;refine va0 (vi7 tD (show vb1 _ _ (pure (Value.ref d)) _ _ st from va1 ?_));show vb1 _ _ (ve1 d >>= _) _ _ st;delta ve1;rw [if_neg (by rw [nm];exact jb9)];refine va0 (va1 (va0 (vc2 e1 e2 (va0 (vf2 e1 e2 (va0 (vb5 (va1 ⟨_,rfl,"dict_keyiterator",_,⟨_,va7 _ rfl,rfl⟩,F.slot_dict_keyiterator_next.lookup,?_⟩))))))));simpa [vj1] using q
theorem qgb {Qv:Option va2->va4->Prop}{e:vd0} (ki:st.heap.IsKeyIter it d i es.size ep) (x:RawD st.heap d es ep) (hx:es[i]?=some e)
  (q:∀ hp,hp.IsKeyIter it d (i + 1) es.size ep->vh1 it st.heap hp->Qv (some e.key) { st with heap:=hp }):
  vb1 (vb2 pg wd) Ar (vk1 (.ref it)) Qv Er st:=by
 obtain ⟨u,i1,i2,i3⟩:=id ki;obtain ⟨o,e1,c1,e2⟩:=id x;delta vk1;refine va0 (vj9 (vd3 (name:=vg7 "__next__") ki.typeIs vd7 (vd6 vd7 ki.typeIs vl7 ?_ (vl4 _))));refine va0 (va1 (va0 (va0 ?_)))
 first | refine va0 (vd5 ki.typeIs (va1 (va0 (vf7 i1 i3 ?_)))) | refine va0 (ve7 ki.typeIs (va1 (va0 (vf7 i1 i3 ?_))))
 simp only [show vc4 "dict_keyiterator" = false from by decide,je7,if_false];show vb1 _ _ (if (Value.ref d == Value.none)=true then _ else _) _ _ st;have nn:¬ ((Value.ref d == Value.none)=true):=jb9;rw [if_neg nn];refine va0 (va1 (va0 (vc2 e1 e2 ?_)));rw [if_neg (by simp)];refine va0 (va1 (va0 (vf2 e1 e2 ?_)));rw [if_neg (by simp)];refine va1 ?_;have nl:¬ ((i:Int) < 0):=by omega
 simp only [nl,if_false,jc3,hx];refine va0 ?_
 first | refine va0 (vd5 ki.typeIs (va1 (va0 (vi9 ki.typeIs ?_)))) | refine va0 (ve7 ki.typeIs (va1 (va0 (vi9 ki.typeIs ?_))))
 show vb1 _ _ (setField (.ref it) 1 (vj1 ((i:Int) + 1)) >>= _) _ _ st;refine va0 (vj5 i1 i3 (by simp) ?_);have k2:(st.heap.update it (vi2 (·.setIfInBounds 1 (vj1 ((i:Int) + 1))))).IsKeyIter it d (i + 1) es.size ep:=
  ⟨_,vd9 _ i1 (Obj.isFreed_of_fields (vh0 i3 _)),(Obj.cls_mapFields ..).trans i2,by rw [vh0 i3];simp [vj1]⟩
 refine va0 (vf1 (va0 (vi9 (s:={ st with heap:=st.heap.update it (vi2 (·.setIfInBounds 1 (vj1 ((i:Int) + 1)))) }) k2.typeIs ?_)));show vb1 _ _ (pure e.key) _ _ _;exact va1 (va1 ⟨_,rfl,va1 (q _ k2 (vg3 ..))⟩)
end
def kP:Key->PV
 | .inl i=>.int i
 | .inr x=>.str x
def tupK (k:List Key):PV:=.tup (k.map kP)
section
variable {X:Cx}
end
section
variable {K:Frag}{H:Hp}{Z:Addr->Prop}
theorem qat:∀ (k:List Key),OwnL K H Z (k.map kP) 0 (k.map kV) []
 | []=>by rw [jh4,jh4,OwnL];exact ⟨rfl,rfl⟩
 | k::r=>by
  rw [jb7,jb7,OwnL];refine ⟨_,_,[],[],rfl,rfl,λ _ z=>(nomatch z),?_,qat r⟩;cases k <;> (show Own K H Z _ 0 _ []) <;> exact ⟨rfl,rfl⟩
end
section
variable {pg:vb0}{wd:vb4}{Ar:vc0}{Er:va2->va4->Prop}{st:va4}{d it:Addr}{es:Array vd0}{ep i:Nat}
theorem qc9 {Qv:Option va2->va4->Prop} (hd0:Ar.handled=none) (ki:st.heap.IsKeyIter it d i es.size ep) (x:RawD st.heap d es ep) (hge:es.size<=i)
  (q:∀ hp,Heap.ExtBut it st.heap hp->Qv none { st with heap:=hp }):vb1 (vb2 pg wd) Ar (vk1 (.ref it)) Qv Er st:=by
 obtain ⟨u,i1,i2,i3⟩:=id ki;obtain ⟨o,e1,c1,e2⟩:=id x;delta vk1;refine va0 (vj9 (vd3 (name:=vg7 "__next__") ki.typeIs vd7 (vd6 vd7 ki.typeIs vl7 ?_ (vl4 _))));refine va0 (va1 (va0 (va0 ?_)))
 first | refine va0 (vd5 ki.typeIs (va1 (va0 (vf7 i1 i3 ?_)))) | refine va0 (ve7 ki.typeIs (va1 (va0 (vf7 i1 i3 ?_))))
 simp only [show vc4 "dict_keyiterator" = false from by decide,je7,if_false];show vb1 _ _ (if (Value.ref d == Value.none)=true then _ else _) _ _ st;have nn:¬ ((Value.ref d == Value.none)=true):=jb9;rw [if_neg nn];refine va0 (va1 (va0 (vc2 e1 e2 ?_)));rw [if_neg (by simp)];refine va0 (va1 (va0 (vf2 e1 e2 ?_)));rw [if_neg (by simp)];refine va1 ?_;have nl:¬ ((i:Int) < 0):=by omega
 simp only [nl,if_false,jc3,jg2 hge];refine va0 ?_
 first | refine va0 (vd5 ki.typeIs (va1 ?_)) | refine va0 (ve7 ki.typeIs (va1 ?_))
 show vb1 _ _ (setField (.ref it) 0 .none >>= _) _ _ st;refine va0 (vj5 i1 i3 (by simp) ?_);show vb1 _ _ (newExc (.type "StopIteration") [] >>= _) _ _ _;refine va0 ?_;simp only [newExc,newTuple];refine va0 (vb5 (va0 (m:=vj6 _ _) (wpAny_of_eq (a:=Value.none) (by first | rfl | (simp only [vj6];rfl)) (vb5 ?_ (by size_fits)))) (by size_fits));simp only [raiseNew];refine va0 (wpAny_handled ?_);rw [show Ar.in1.handled=none from hd0];refine va0 (va1 (wpAny_throw (E:=_) ?_));refine va0 (vi4 (b:=true) (T := "StopIteration") ⟨_,va7 _ rfl,rfl⟩ isSubtype_stop ?_);exact va1 (q _ (((vg3 ..).extBut.push _).push _))
theorem zmz {v:Addr}{Qv:va2->va4->Prop} (hv:st.heap.IsValuesView v d) (x:RawD st.heap d es ep)
  (q:Qv (.ref st.heap.objs.size) { st with heap:=st.heap.push { cls:=.type "dict_valueiterator",data:=.fields #[.ref d,.int 0 0,.int es.size 0,.int ep 0] } }):
  vb1 (vb2 pg wd) Ar (pyIter (.ref v)) Qv Er st:=by
 obtain ⟨ov,hov,hcv,hdv⟩:=id hv;obtain ⟨o,e1,c1,e2⟩:=id x;refine wpAny_pyIter_slot hv.typeIs F.slot_dict_values_iter (vd6 F.slot_dict_values_iter hv.typeIs F.entry_dict_values_iter ?_ (F.args_dict_values_iter_1 _));delta Builtin.«dict_values.__iter__»;refine va0 (va1 ?_);refine va0 ?_;delta Builtin.Dict_items.dictOf;refine va0 (vl9 hov hdv (x:=.ref d) rfl (va1 ?_));refine va0 ?_;delta Builtin.Dict_items.newIterator;refine va0 (vc2 e1 e2 ?_);refine va0 (vf2 e1 e2 ?_);have hown:vc4 "dict_valueiterator" = false:=by decide
 simp only [hown,je7,if_false];refine vb5 (va1 ⟨_,rfl,"dict_valueiterator",_,⟨_,va7 _ rfl,rfl⟩,F.slot_dict_valueiterator_next.lookup,?_⟩);simpa [vj1] using q
theorem qc7 {Qv:Option va2->va4->Prop}{e:vd0} (ki:st.heap.IsValIter it d i es.size ep) (x:RawD st.heap d es ep) (hx:es[i]?=some e)
  (q:∀ hp,hp.IsValIter it d (i + 1) es.size ep->vh1 it st.heap hp->Qv (some e.val) { st with heap:=hp }):
  vb1 (vb2 pg wd) Ar (vk1 (.ref it)) Qv Er st:=by
 obtain ⟨u,i1,i2,i3⟩:=id ki;obtain ⟨o,e1,c1,e2⟩:=id x;delta vk1;refine va0 (vj9 (vd3 (name:=vg7 "__next__") ki.typeIs vd2 (vd6 vd2 ki.typeIs vl1 ?_ (vk4 _))));refine va0 (va1 ?_);refine va0 ?_;refine va0 ?_
 first | refine va0 (vd4 ki.typeIs (va1 ?_)) | refine va0 (ve6 ki.typeIs (va1 ?_))
 refine va0 (vf7 i1 i3 ?_);simp only [show vc4 "dict_valueiterator" = false from by decide,je7,if_false];show vb1 _ _ (if (Value.ref d == Value.none)=true then _ else _) _ _ st;rw [if_neg (show ¬ ((Value.ref d == Value.none)=true) from jb9)];refine va0 (va1 ?_);refine va0 (vc2 e1 e2 ?_);rw [if_neg (by simp)];refine va0 (va1 ?_);refine va0 (vf2 e1 e2 ?_);rw [if_neg (by simp)];refine va1 ?_;simp only [show ¬ ((i:Int) < 0) from by omega,if_false,jc3,hx];refine va0 ?_
 first | refine va0 (vd4 ki.typeIs (va1 ?_)) | refine va0 (ve6 ki.typeIs (va1 ?_))
 refine va0 (vi8 ki.typeIs ?_);show vb1 _ _ (setField (.ref it) 1 (vj1 ((i:Int) + 1)) >>= _) _ _ st;refine va0 (vj5 i1 i3 (by simp) ?_);have k2:(st.heap.update it (vi2 (·.setIfInBounds 1 (vj1 ((i:Int) + 1))))).IsValIter it d (i + 1) es.size ep:=
  ⟨_,vd9 _ i1 (Obj.isFreed_of_fields (vh0 i3 _)),(Obj.cls_mapFields ..).trans i2,by rw [vh0 i3];simp [vj1]⟩
 refine va0 (vf1 ?_);refine va0 (vi8 (s:={ st with heap:=st.heap.update it (vi2 (·.setIfInBounds 1 (vj1 ((i:Int) + 1)))) }) k2.typeIs ?_);refine va0 (vi8 (s:={ st with heap:=st.heap.update it (vi2 (·.setIfInBounds 1 (vj1 ((i:Int) + 1)))) }) k2.typeIs ?_);show vb1 _ _ (pure e.val) _ _ _;exact va1 (va1 ⟨_,rfl,va1 (q _ k2 (vg3 ..))⟩)
theorem qc8 {Qv:Option va2->va4->Prop} (hd0:Ar.handled=none) (ki:st.heap.IsValIter it d i es.size ep) (x:RawD st.heap d es ep) (hge:es.size<=i)
  (q:∀ hp,Heap.ExtBut it st.heap hp->Qv none { st with heap:=hp }):vb1 (vb2 pg wd) Ar (vk1 (.ref it)) Qv Er st:=by
 obtain ⟨u,i1,i2,i3⟩:=id ki;obtain ⟨o,e1,c1,e2⟩:=id x;delta vk1;refine va0 (vj9 (vd3 (name:=vg7 "__next__") ki.typeIs vd2 (vd6 vd2 ki.typeIs vl1 ?_ (vk4 _))));refine va0 (va1 ?_);refine va0 ?_;refine va0 ?_
 first | refine va0 (vd4 ki.typeIs (va1 ?_)) | refine va0 (ve6 ki.typeIs (va1 ?_))
 refine va0 (vf7 i1 i3 ?_);simp only [show vc4 "dict_valueiterator" = false from by decide,je7,if_false];show vb1 _ _ (if (Value.ref d == Value.none)=true then _ else _) _ _ st;rw [if_neg (show ¬ ((Value.ref d == Value.none)=true) from jb9)];refine va0 (va1 ?_);refine va0 (vc2 e1 e2 ?_);rw [if_neg (by simp)];refine va0 (va1 ?_);refine va0 (vf2 e1 e2 ?_);rw [if_neg (by simp)];refine va1 ?_;simp only [show ¬ ((i:Int) < 0) from by omega,if_false,jc3,jg2 hge];refine va0 ?_
 first | refine va0 (vd4 ki.typeIs (va1 ?_)) | refine va0 (ve6 ki.typeIs (va1 ?_))
 show vb1 _ _ (setField (.ref it) 0 .none >>= _) _ _ st;refine va0 (vj5 i1 i3 (by simp) ?_);show vb1 _ _ (newExc (.type "StopIteration") [] >>= _) _ _ _;refine va0 ?_;simp only [newExc,newTuple];refine va0 (vb5 ?_ (by size_fits));refine va0 (m:=vj6 _ _) (wpAny_of_eq (a:=Value.none) (by first | rfl | (simp only [vj6];rfl)) ?_);refine vb5 ?_ (by size_fits);simp only [raiseNew];refine va0 (wpAny_handled ?_);rw [show Ar.in1.handled=none from hd0];refine va0 (va1 (wpAny_throw (E:=_) ?_));refine va0 (vi4 (b:=true) (T := "StopIteration") ⟨_,va7 _ rfl,rfl⟩ isSubtype_stop ?_);exact va1 (q _ (((vg3 ..).extBut.push _).push _))
end
def ItK (a:Addr) (o:Obj) (kvs:List (List Key×V)):It:=⟨λ i H=>H a=some (.frz o (.dT kvs))/\i < kvs.length,λ i H v H'=>H'=H/\∃ b p,v=.ref b/\kvs[i]?=some p/\H b=some (.tup (p.1.map kV)),λ i H=>H a=some (.frz o (.dT kvs))/\kvs.length<=i⟩
def ItW (a:Addr) (o:Obj) (kvs:List (List Key×V)):It:=⟨λ i H=>H a=some (.frz o (.dT kvs))/\i < kvs.length,λ i H v H'=>H'=H/\∃ p,v=p.2/\kvs[i]?=some p,λ i H=>H a=some (.frz o (.dT kvs))/\kvs.length<=i⟩
theorem zko {α β:Type}{R:α->β->Prop}:∀ {xs:List α}{ys:List β},vk2 R xs ys->∀ {i:Nat}{x:α},xs[i]?=some x->∃ y,ys[i]?=some y/\R x y
 | _,_,.nil,i,x,e=>by simp at e
 | _,_,.cons h t,0,x,e=>by simp at e;subst e;exact ⟨_,rfl,h⟩
 | _,_,.cons h t,i + 1,x,e=>by
  rw [je0] at e ⊢;exact zko t e
theorem zkn {α β:Type}{R:α->β->Prop}:∀ {xs:List α}{ys:List β},vk2 R xs ys->xs.length=ys.length
 | _,_,.nil=>rfl
 | _,_,.cons _ t=>by rw [jb2,jb2,zkn t]
theorem known {X:Cx}{pins:List (Addr×Obj)}{σ:St}{H:Hp}{s:va4}{a:Addr}{o:Obj}{kvs:List (List Key×V)}{es:Array vd0}{ep:Nat} (I:Inv X pins σ H s) (hd:o.data=.dict es ep) (h:H a=some (.frz o (.dT kvs))):
  s.heap.get? a=some o/\o.ExactDict/\es.size=kvs.length/\∀ (i:Nat) (p:List Key×V),kvs[i]?=some p->∃ (e:vd0) (b:Addr),es[i]?=some e/\e.key=.ref b/\H b=some (.tup (p.1.map kV))/\RelV p.2 e.val:=by
 obtain ⟨e0,hz,nm,ys,pr,o',es',ep',e1,c1,d1,l1,nd⟩:=(show zxc X.prog X.w H s.heap a (.frz o (.dT kvs)) from I.hok a _ h)
 cases e0.symm.trans e1;cases hd.symm.trans d1;have hl:es.size=ys.length:=by rw [<- jf0,l1,ja3]
 refine ⟨e0,c1,by rw [hl,zkn pr],λ i p hp=>?_⟩;obtain ⟨q,hq,hk,hb,hv⟩:=zko pr hp;refine ⟨vj3 (vf3 (zxd X.prog X.w)) q,q.2.1,?_,rfl,hb,hv⟩;rw [<- jh5,l1,jc7,hq];rfl
theorem zmo {P:vb0}{w:vb4}{K:Frag}{tg:Expr}{o:Obj}{kvs:List (List Key×V)}{es:Array vd0}{ep:Nat} (hd:o.data=.dict es ep) (a it:Addr):Turn P w K tg (ItK a o kvs) [it] it (λ i h=>h.IsKeyIter it a i es.size ep) where
 mem:=by simp
 obj:=λ i h st b hb=>by
  have e:b=it:=by simpa using hb
  subst e;obtain ⟨o,e,c,d⟩:=st;exact ⟨o,e,λ v z=>by rw [d] at z;cases z⟩
 keep:=λ i h h' st k=>st.at λ o e=>k it (by simp) o e
 item:=by
  intro X hP hw hK hc i pins s σ H E I hf st hg;subst hP hw hK;obtain ⟨h1,hi⟩:=hg;obtain ⟨e0,c0,sz,at'⟩:=known I hd h1;obtain ⟨f0,f1,f2,f3,f4,f5⟩:=hf it (by simp);have hx:kvs[i]?=some kvs[i]:=jc4 hi;obtain ⟨en,b,he,ek,hb,_⟩:=at' i _ hx;refine qgb st ⟨o,e0,c0,hd⟩ he λ hp k2 sb=>?_;have I1:Inv X pins σ H { s with heap:=hp }:=I.turned (t':=s.toks) (λ b o hb e=>(sb.2 b hb).trans e) f0 f1 f3 f4 f5;obtain ⟨o',e,c,d⟩:=id k2;refine ⟨en.key,rfl,zhk (s:={ s with heap:=hp }) e c d (by decide) ⟨.ref b,H,I1,ek,⟨rfl,b,_,rfl,hx,hb⟩,k2,λ b hb=>(hf b hb).1⟩⟩
 done:=by
  intro X hP hw hK hc i pins s σ H E I hf st hg;subst hP hw hK;obtain ⟨h1,hi⟩:=hg;obtain ⟨e0,c0,sz,at'⟩:=known I hd h1;obtain ⟨f0,f1,f2,f3,f4,f5⟩:=hf it (by simp);exact qc9 (I.ok.hd hc) st ⟨o,e0,c0,hd⟩ (by omega) λ h' eb=>⟨rfl,I.turned (t':=s.toks) (λ b o hb e=>eb b o hb e) f0 f1 f3 f4 f5⟩
 self:=λ _ _ _ _ _ st h=>wpAny_pyIter_keyiter st h
theorem zmn {P:vb0}{w:vb4}{K:Frag}{tg:Expr}{o:Obj}{kvs:List (List Key×V)}{es:Array vd0}{ep:Nat} (hd:o.data=.dict es ep) (a it:Addr):Turn P w K tg (ItW a o kvs) [it] it (λ i h=>h.IsValIter it a i es.size ep) where
 mem:=by simp
 obj:=λ i h st b hb=>by
  have e:b=it:=by simpa using hb
  subst e;obtain ⟨o,e,c,d⟩:=st;exact ⟨o,e,λ v z=>by rw [d] at z;cases z⟩
 keep:=λ i h h' st k=>st.at λ o e=>k it (by simp) o e
 item:=by
  intro X hP hw hK hc i pins s σ H E I hf st hg;subst hP hw hK;obtain ⟨h1,hi⟩:=hg;obtain ⟨e0,c0,sz,at'⟩:=known I hd h1;obtain ⟨f0,f1,f2,f3,f4,f5⟩:=hf it (by simp);have hx:kvs[i]?=some kvs[i]:=jc4 hi;obtain ⟨en,b,he,ek,hb,hv⟩:=at' i _ hx;refine qc7 st ⟨o,e0,c0,hd⟩ he λ hp k2 sb=>?_;have I1:Inv X pins σ H { s with heap:=hp }:=I.turned (t':=s.toks) (λ b o hb e=>(sb.2 b hb).trans e) f0 f1 f3 f4 f5;obtain ⟨o',e,c,d⟩:=id k2;refine ⟨en.val,rfl,zhk (s:={ s with heap:=hp }) e c d (by decide) ⟨kvs[i].2,H,I1,hv,⟨rfl,_,rfl,hx⟩,k2,λ b hb=>(hf b hb).1⟩⟩
 done:=by
  intro X hP hw hK hc i pins s σ H E I hf st hg;subst hP hw hK;obtain ⟨h1,hi⟩:=hg;obtain ⟨e0,c0,sz,at'⟩:=known I hd h1;obtain ⟨f0,f1,f2,f3,f4,f5⟩:=hf it (by simp);exact qc8 (I.ok.hd hc) st ⟨o,e0,c0,hd⟩ (by omega) λ h' eb=>⟨rfl,I.turned (t':=s.toks) (λ b o hb e=>eb b o hb e) f0 f1 f3 f4 f5⟩
 self:=λ _ _ _ _ _ st h=>wpAny_pyIter_valiter st h
section
variable {X:Cx}{pins:List (Addr×Obj)}{σ:St}{H:Hp}{s:va4}{a:Addr}{kvs:List (List Key×V)}{o:Obj}
def zkf (X:Cx) (a:Addr):Prop:=∀ o u,X.H₀ a≠some (.frz o u)
theorem qes (I:Inv X pins σ H s) (h:H a=some (.dT kvs)):∃ o es ep,s.heap.get? a=some o/\o.ExactDict/\o.data=.dict es ep/\(a == vc6)=false/\Inv X pins σ (upd H a (.frz o (.dT kvs))) s/\zkf X a:=by
 have hO:=(show zxc X.prog X.w H s.heap a (.dT kvs) from I.hok a _ h)
 obtain ⟨hz,nm,ys,pr,o,es,ep,e1,c1,d1,l1,nd⟩:=id hO;have na:∀ b u,H b=some u->u≠.dT kvs->b≠a:=λ b u q n z=>by subst z;rw [h] at q;cases q;exact n rfl
 have nn:∀ b,H b=none->b≠a:=λ b q z=>by subst z;rw [h] at q;cases q
 have tp:∀ b xs,H b=some (.tup xs)->upd H a (.frz o (.dT kvs)) b=some (.tup xs):=λ b xs q=>by rw [zqg (na b _ q (λ z=>nomatch z))];exact q
 refine ⟨o,es,ep,e1,c1,d1,nm,⟨I.ok,I.os,I.bare,⟨I.base.keep,I.base.slot,λ b ob q n hx=>?_,I.base.there,λ b xs q=>tp b xs (I.base.tups b xs q),λ b ob u q=>?_,λ b ps q=>?_⟩,I.loc,I.cell,?_,λ x c q=>?_,λ p hp=>?_,λ b u q=>?_,I.len⟩,λ ob u z=>?_⟩
 ·have:=I.base.free b ob q n hx
  rw [zqg (nn b this)];exact this
 ·have:=I.base.frzs b ob u q
  rw [zqg (na b _ this (λ z=>nomatch z))];exact this
 ·obtain ⟨m,z⟩:=I.base.tbls b ps q;exact ⟨m,by rw [zqg (na b _ z (λ z=>nomatch z))];exact z⟩
 ·rw [zqg (nn _ I.free)];exact I.free
 ·rw [zqg (nn _ (I.freeC x c q))];exact I.freeC x c q
 ·obtain ⟨p1,p2,p3⟩:=I.pin p hp;exact ⟨p1,by rw [zqg (nn _ p2)];exact p2,p3⟩
 ·have stay:∀ {b:Addr}{u:HO},zxc X.prog X.w H s.heap b u->zxc X.prog X.w (upd H a (.frz o (.dT kvs))) s.heap b u:=λ x=>x.stay (λ _ _ _ e=>e) (λ c q=>by rw [zqg (na c _ q (λ z=>nomatch z))];exact q) tp;by_cases hb:b=a
  ·subst hb;rw [zqe] at q;cases q;exact ⟨e1,stay hO⟩
  ·rw [zqg hb] at q;exact stay (I.hok b u q)
 ·have:=I.base.frzs a ob u z
  rw [h] at this;cases this
theorem qfy (I:Inv X pins σ H s) (h:H a=some (.frz o (.dT kvs))) (hX:zkf X a):Inv X pins σ (upd H a (.dT kvs)) s:=by
 have hO:=(show zxc X.prog X.w H s.heap a (.frz o (.dT kvs)) from I.hok a _ h)
 have na:∀ b u,H b=some u->u≠.frz o (.dT kvs)->b≠a:=λ b u q n z=>by subst z;rw [h] at q;cases q;exact n rfl
 have nn:∀ b,H b=none->b≠a:=λ b q z=>by subst z;rw [h] at q;cases q
 have tp:∀ b xs,H b=some (.tup xs)->upd H a (.dT kvs) b=some (.tup xs):=λ b xs q=>by rw [zqg (na b _ q (λ z=>nomatch z))];exact q
 refine ⟨I.ok,I.os,I.bare,⟨I.base.keep,I.base.slot,λ b ob q n hx=>?_,I.base.there,λ b xs q=>tp b xs (I.base.tups b xs q),λ b ob u q=>?_,λ b ps q=>?_⟩,I.loc,I.cell,?_,λ x c q=>?_,λ p hp=>?_,λ b u q=>?_,I.len⟩
 ·have:=I.base.free b ob q n hx
  rw [zqg (nn b this)];exact this
 ·have:=I.base.frzs b ob u q
  rw [zqg (λ z=>hX ob u (by rw [<- z];exact q))];exact this
 ·obtain ⟨m,z⟩:=I.base.tbls b ps q;exact ⟨m,by rw [zqg (na b _ z (λ z=>nomatch z))];exact z⟩
 ·rw [zqg (nn _ I.free)];exact I.free
 ·rw [zqg (nn _ (I.freeC x c q))];exact I.freeC x c q
 ·obtain ⟨p1,p2,p3⟩:=I.pin p hp;exact ⟨p1,by rw [zqg (nn _ p2)];exact p2,p3⟩
 ·have stay:∀ {b:Addr}{u:HO},zxc X.prog X.w H s.heap b u->zxc X.prog X.w (upd H a (.dT kvs)) s.heap b u:=λ x=>x.stay (λ _ _ _ e=>e) (λ c q=>by rw [zqg (na c _ q (λ z=>nomatch z))];exact q) tp;by_cases hb:b=a
  ·subst hb;rw [zqe] at q;cases q;exact stay hO.2
  ·rw [zqg hb] at q;exact stay (I.hok b u q)
def thaw (X:Cx) (D:Ends):Ends where
 nx:=λ σ H=>D.nx σ H\/∃ a o kvs,H a=some (.frz o (.dT kvs))/\zkf X a/\D.nx σ (upd H a (.dT kvs))
 rt:=λ v H=>D.rt v H\/∃ a o kvs,H a=some (.frz o (.dT kvs))/\zkf X a/\D.rt v (upd H a (.dT kvs))
 bk:=λ σ H=>D.bk σ H\/∃ a o kvs,H a=some (.frz o (.dT kvs))/\zkf X a/\D.bk σ (upd H a (.dT kvs))
 ct:=λ σ H=>D.ct σ H\/∃ a o kvs,H a=some (.frz o (.dT kvs))/\zkf X a/\D.ct σ (upd H a (.dT kvs))
theorem qdf {st:Stmt}{t:TS} (h:PS X st t):PS X st (λ D σ H=>t (thaw X D) σ H):=by
 intro pins s σ H D I q;refine thn (h pins s σ H (thaw X D) I q) λ f s' z=>?_;cases f with
 | next=>
  obtain ⟨σ',H',I',q | ⟨a,o,kvs,ha,hX,q⟩⟩:=z
  ·exact ⟨σ',H',I',q⟩
  ·exact ⟨σ',_,qfy I' ha hX,q⟩
 | brk=>
  obtain ⟨σ',H',I',q | ⟨a,o,kvs,ha,hX,q⟩⟩:=z
  ·exact ⟨σ',H',I',q⟩
  ·exact ⟨σ',_,qfy I' ha hX,q⟩
 | cont=>
  obtain ⟨σ',H',I',q | ⟨a,o,kvs,ha,hX,q⟩⟩:=z
  ·exact ⟨σ',H',I',q⟩
  ·exact ⟨σ',_,qfy I' ha hX,q⟩
 | ret u=>
  obtain ⟨v,σ',H',I',r,q | ⟨a,o,kvs,ha,hX,q⟩⟩:=z
  ·exact ⟨v,σ',H',I',r,q⟩
  ·exact ⟨v,σ',_,qfy I' ha hX,r,q⟩
theorem qpd {st:Stmt}{t u:TS} (h:PS X st t) (h':PS X st u):PS X st (λ D σ H=>t D σ H\/u D σ H):=λ pins s σ H D I q=>q.elim (h pins s σ H D I) (h' pins s σ H D I)
def qoj (X:Cx) (tl:TE):TI:=λ σ H R=>tl σ H λ x H1=>∃ a kvs,x=.ref a/\((H1 a=some (.dT kvs)/\∀ o,zkf X a->R (ItK a o kvs) (upd H1 a (.frz o (.dT kvs))))\/∃ o,H1 a=some (.frz o (.dT kvs))/\R (ItK a o kvs) H1)
theorem qjz {tg l:Expr}{tl:TE} (hl:PE X l tl):PI X tg l (qoj X tl):=by
 intro pins s σ H R I h;refine thn (hl pins s σ H _ I h) λ v s1 ⟨x,H1,I1,r1,q1⟩=>?_;obtain ⟨a,kvs,rfl,⟨ha,q⟩ | ⟨o,ha,q⟩⟩:=q1
 ·cases r1;obtain ⟨o,es,ep,e0,c0,d0,nm,I2,hX⟩:=qes I1 ha;refine qam nm ⟨o,e0,c0,d0⟩ ?_;refine ⟨s1.heap.objs.size,[s1.heap.objs.size],_,_,_,rfl,I2.kept (t':=s1.toks) λ b o e=>va3 _ e,zmo d0 a _,⟨_,va7 _ rfl,rfl,rfl⟩,λ b hb=>?_,q o hX⟩;have e:b=s1.heap.objs.size:=by simpa using hb
  subst e;exact I2.fpOk (ja8 _) (I2.hok.fresh (ja8 _))
 ·cases r1;obtain ⟨e0,hz,nm,ys,pr,o',es,ep,e1,c1,d1,l1,nd⟩:=(show zxc X.prog X.w H1 s1.heap a (.frz o (.dT kvs)) from I1.hok a _ ha)
  cases e0.symm.trans e1;refine qam nm ⟨o,e0,c1,d1⟩ ?_;refine ⟨s1.heap.objs.size,[s1.heap.objs.size],_,_,_,rfl,I1.kept (t':=s1.toks) λ b o e=>va3 _ e,zmo d1 a _,⟨_,va7 _ rfl,rfl,rfl⟩,λ b hb=>?_,q⟩;have e:b=s1.heap.objs.size:=by simpa using hb
  subst e;exact I1.fpOk (ja8 _) (I1.hok.fresh (ja8 _))
theorem qb1 {pg:vb0}{wd:vb4} (d:Addr) (hd:(d == vc6)=false):
  MeetsIn pg wd (Builtin.«dict.values» ⟨[.ref d],[]⟩) (λ _ R s=>s.TypeIs (.ref d) "dict" /\
   R (.ok (.ret (.ref s.heap.objs.size))) { s with heap:=s.heap.push { cls:=.type "dict_values",data:=.fields #[.ref d] } }):=
 .of_wp λ A R s ⟨hm,h⟩=>by
  refine va0 ?_;delta Builtin.Dict.noArgs;refine va0 (vi7 hm ?_);show vb1 _ _ (pure d) _ _ s;refine va1 ?_;show vb1 _ _ (ve1 d >>= _) _ _ s;delta ve1;rw [if_neg (by rw [hd];exact jb9)];refine va0 (va1 ?_);exact va0 (vb5 (va1 ⟨_,rfl,h⟩))
def qlr (to:TE):TE:=λ σ H Q=>to σ H λ x H1=>∃ a kvs,x=.ref a/\Rd H1 a (.dT kvs)/\∀ v,H1 v=none->Q (.ref v) (upd H1 v (.ext λ h=>h.IsValuesView v a))
theorem qj2 {o:Expr}{to:TE}{apos cpos:Pos} (ho:PE X o to) (hbase:attributeBase o "values" X.env (eval o X.env)=eval o X.env:=by rfl) (hline:(apos.endLine == cpos.line)=true:=by rfl):PE X (.Call (.Attribute o "values" apos) [] [] cpos) (qlr to):=by
 intro pins s σ H Q I h;refine wpAny_Call_method0_late hbase hline (thn (ho pins s σ H _ I h) λ v s1 ⟨x,H1,I1,r1,a,kvs,ex,rd,q⟩=>?_);subst ex;cases r1;obtain ⟨hz,nm,ys,pr,ob,es,ep,e1,c1,d1,l1,nd⟩:=(show zxc X.prog X.w H1 s1.heap a (.dT kvs) from Rd.ok rd I1.hok)
 have ty:s1.TypeIs (.ref a) "dict" := ⟨ob,e1,c1.1⟩
 refine ⟨"dict","dict.values",PySem.F.plainAttrs_dict,PySem.F.slot_dict_values,PySem.F.type_dict_values,ty,λ b e=>by cases e;exact ⟨ob,e1,c1.2.1⟩,Calls.callWith_builtin rfl (PySem.evalArgs_none ?_)⟩;refine call_meetsIn PySem.F.slot_dict_values ty PySem.F.entry_dict_values (PySem.F.args_dict_values_1 _) (qb1 a nm) ⟨ty,?_⟩;refine ⟨.ref s1.heap.objs.size,_,I1.laid (t':=s1.toks) (λ b o e=>va3 _ e) (ja8 _) ?_,rfl,q _ (I1.hok.fresh (ja8 _))⟩;exact ⟨⟨_,va7 _ rfl,rfl,rfl⟩,⟨_,va7 _ rfl⟩,λ h1 h2 x k=>by obtain ⟨o,e,r⟩:=x;exact ⟨o,k o e,r⟩⟩
def qoi (X:Cx) (tl:TE):TI:=λ σ H R=>tl σ H λ x H1=>∃ v a kvs,x=.ref v/\H1 v=some (.ext λ h=>h.IsValuesView v a)/\((H1 a=some (.dT kvs)/\∀ o,zkf X a->R (ItW a o kvs) (upd H1 a (.frz o (.dT kvs))))\/∃ o,H1 a=some (.frz o (.dT kvs))/\R (ItW a o kvs) H1)
theorem qjy {tg l:Expr}{tl:TE} (hl:PE X l tl):PI X tg l (qoi X tl):=by
 intro pins s σ H R I h;refine thn (hl pins s σ H _ I h) λ v s1 ⟨x,H1,I1,r1,q1⟩=>?_;obtain ⟨vv,a,kvs,rfl,hv,q1⟩:=q1;cases r1;have view:s1.heap.IsValuesView vv a:=(show zxc X.prog X.w H1 s1.heap vv (.ext λ h=>h.IsValuesView vv a) from I1.hok vv _ hv).1;rcases q1 with ⟨ha,q⟩ | ⟨o,ha,q⟩
 ·obtain ⟨o,es,ep,e0,c0,d0,nm,I2,hX⟩:=qes I1 ha;refine zmz view ⟨o,e0,c0,d0⟩ ?_;refine ⟨s1.heap.objs.size,[s1.heap.objs.size],_,_,_,rfl,I2.kept (t':=s1.toks) λ b o e=>va3 _ e,zmn d0 a _,⟨_,va7 _ rfl,rfl,rfl⟩,λ b hb=>?_,q o hX⟩;have e:b=s1.heap.objs.size:=by simpa using hb
  subst e;exact I2.fpOk (ja8 _) (I2.hok.fresh (ja8 _))
 ·obtain ⟨e0,hz,nm,ys,pr,o',es,ep,e1,c1,d1,l1,nd⟩:=(show zxc X.prog X.w H1 s1.heap a (.frz o (.dT kvs)) from I1.hok a _ ha)
  cases e0.symm.trans e1;refine zmz view ⟨o,e0,c1,d1⟩ ?_;refine ⟨s1.heap.objs.size,[s1.heap.objs.size],_,_,_,rfl,I1.kept (t':=s1.toks) λ b o e=>va3 _ e,zmn d1 a _,⟨_,va7 _ rfl,rfl,rfl⟩,λ b hb=>?_,q⟩;have e:b=s1.heap.objs.size:=by simpa using hb
  subst e;exact I1.fpOk (ja8 _) (I1.hok.fresh (ja8 _))
end
section
variable {K:Frag}{H H':Hp}{Z:Addr->Prop}{a:Addr}{kvs:List (List Key×V)}
theorem qm0 {kvs':List (List Key×V)} (h:Rd H a (.dT kvs)) (h':Rd H a (.dT kvs')):kvs'=kvs:=by
 rcases h with h | ⟨o,h⟩ <;> rcases h' with h' | ⟨o',h'⟩ <;> rw [h] at h' <;> cases h' <;> rfl
theorem qo9 {u:HO} (h:Rd H a (.dT kvs)) (h':H a=some u) (n:u≠.dT kvs) (n2:∀ o,u≠.frz o (.dT kvs)):False:=by
 rcases h with h | ⟨o,h⟩
 ·rw [h] at h';cases h';exact n rfl
 ·rw [h] at h';cases h';exact n2 o rfl
variable (k:∀ b u,H b=some u->b≠a->H' b=some u) (ha:Rd H a (.dT kvs)) (ha':Rd H' a (.dT kvs))
include k ha ha'
theorem qm1 {b:Addr}{kvs':List (List Key×V)} (h:Rd H b (.dT kvs')):Rd H' b (.dT kvs'):=by
 by_cases e:b=a
 ·subst e;rw [qm0 ha h];exact ha'
 ·rcases h with h | ⟨o,h⟩
  ·exact .inl (k b _ h e)
  ·exact .inr ⟨o,k b _ h e⟩
theorem zhu {b:Addr}{u:HO} (h:H b=some u) (n:u≠.dT kvs) (n2:∀ o,u≠.frz o (.dT kvs)):H' b=some u:=k b u h λ e=>by subst e;exact qo9 ha h n n2
mutual
theorem Own.rdAt:∀ (x:PV) (d:Nat) (v:V) (fp:List Addr),a∉fp->Own K H Z x d v fp->Own K H' Z x d v fp
 | .non,_,_,_,_,h=>by rw [Own] at h ⊢;exact h
 | .bl _,_,_,_,_,h=>by rw [Own] at h ⊢;exact h
 | .int _,_,_,_,_,h=>by rw [Own] at h ⊢;exact h
 | .str _,_,_,_,_,h=>by rw [Own] at h ⊢;exact h
 | .emp,_,_,_,_,h=>by
  rw [Own] at h ⊢;obtain ⟨e,b,ev,hb⟩:=h;exact ⟨e,b,ev,zhu k ha ha' hb (λ z=>nomatch z) λ _ z=>nomatch z⟩
 | .dko,_,_,_,_,h=>by
  rw [Own] at h ⊢;obtain ⟨e,b,ev,kk,hb⟩:=h;exact ⟨e,b,ev,kk,zhu k ha ha' hb (λ z=>nomatch z) λ _ z=>nomatch z⟩
 | .scr _,_,_,_,_,h=>by
  rw [Own] at h ⊢;obtain ⟨e,b,ev,⟨o,hb⟩ | hb⟩:=h
  ·exact ⟨e,b,ev,.inl ⟨o,zhu k ha ha' hb (λ z=>nomatch z) λ _ z=>nomatch z⟩⟩
  ·exact ⟨e,b,ev,.inr hb⟩
 | .exn _,_,_,_,_,h=>by
  rw [Own] at h ⊢;obtain ⟨e,b,C,ev,hc,hb⟩:=h;exact ⟨e,b,C,ev,hc,zhu k ha ha' hb (λ z=>nomatch z) λ _ z=>nomatch z⟩
 | .dct kk,d,v,fp,hf,h=>by
  rw [Own] at h ⊢;obtain ⟨b,ev,⟨d0,hr,e⟩ | ⟨d0,hb,e⟩⟩:=h
  ·exact ⟨b,ev,.inl ⟨d0,⟨qm1 k ha ha' hr.1,hr.2⟩,e⟩⟩
  ·exact ⟨b,ev,.inr ⟨d0,k b _ hb λ z=>hf (by rw [e,<- z];exact ja1),e⟩⟩
 | .dcl ks xs,d,v,fp,hf,h=>by
  rw [Own] at h ⊢;obtain ⟨b,vs,ev,en,⟨d0,hr,e,hl⟩ | ⟨d0,f,hb,e,nb,hl⟩⟩:=h
  ·exact ⟨b,vs,ev,en,.inl ⟨d0,⟨qm1 k ha ha' hr.1,hr.2⟩,e,OwnL.rdAt xs 0 vs [] (λ z=>nomatch z) hl⟩⟩
  ·exact ⟨b,vs,ev,en,.inr ⟨d0,f,k b _ hb (λ z=>hf (by rw [e,<- z];exact ja1)),e,nb,OwnL.rdAt xs _ vs f (λ z=>hf (by rw [e];exact ja0 _ z)) hl⟩⟩
 | .lst xs,d,v,fp,hf,h=>by
  rw [Own] at h ⊢;obtain ⟨b,vs,ev,⟨d0,hr,e,hl⟩ | ⟨d0,f,hb,e,nb,hl⟩⟩:=h
  ·exact ⟨b,vs,ev,.inl ⟨d0,⟨zhu k ha ha' hr.1 (λ z=>nomatch z) (λ _ z=>nomatch z),hr.2⟩,e,OwnL.rdAt xs 0 vs [] (λ z=>nomatch z) hl⟩⟩
  ·exact ⟨b,vs,ev,.inr ⟨d0,f,zhu k ha ha' hb (λ z=>nomatch z) (λ _ z=>nomatch z),e,nb,OwnL.rdAt xs _ vs f (λ z=>hf (by rw [e];exact ja0 _ z)) hl⟩⟩
 | .tup xs,d,v,fp,hf,h=>by
  rw [Own] at h ⊢;obtain ⟨b,vs,ev,hr,hl⟩:=h;exact ⟨b,vs,ev,zhu k ha ha' hr (λ z=>nomatch z) (λ _ z=>nomatch z),OwnL.rdAt xs _ vs fp hf hl⟩
theorem OwnL.rdAt:∀ (xs:List PV) (d:Nat) (vs:List V) (fp:List Addr),a∉fp->OwnL K H Z xs d vs fp->OwnL K H' Z xs d vs fp
 | [],_,_,_,_,h=>by rw [OwnL] at h ⊢;exact h
 | x::xs,d,vs,fp,hf,h=>by
  rw [OwnL] at h ⊢;obtain ⟨v,r,f1,f2,e1,e,dj,h1,h2⟩:=h;exact ⟨v,r,f1,f2,e1,e,dj,Own.rdAt x d v f1 (λ z=>hf (by rw [e];exact ja7 _ z)) h1,OwnL.rdAt xs d r f2 (λ z=>hf (by rw [e];exact ja5 _ z)) h2⟩
end
end
section
variable {M:Fm}{ρ:Rho}{σ:St}{H H':Hp}{fps:Fps}{a:Addr}{kvs:List (List Key×V)}
theorem Rep.rdAt (k:∀ b u,H b=some u->b≠a->H' b=some u) (ha:Rd H a (.dT kvs)) (ha':Rd H' a (.dT kvs)) (hn:∀ i,a∉fps i) (r:Rep M ρ σ H fps):Rep M ρ σ H' fps where
 own:=λ i x d e=>let ⟨v,h1,h2⟩:=r.own i x d e;⟨v,h1,Own.rdAt k ha ha' x d v _ (hn i) h2⟩
 non:=r.non
 dj:=r.dj
 zo:=r.zo
 fr:=r.fr
 zd:=λ b z=>by
  by_cases e:b=a
  ·rw [e];exact Rd.ne ha'
  ·cases e2:H b with
   | none=>exact absurd e2 (r.zd b z)
   | some u=>rw [k b u e2 e];simp
 len:=r.len
 msf:=r.msf
 h0:=λ b z=>by
  by_cases e:b=a
  ·rw [e];exact Rd.ne ha'
  ·cases e2:H b with
   | none=>exact absurd e2 (r.h0 b z)
   | some u=>rw [k b u e2 e];simp
 iov:=r.iov
def qay:Rs->Bool
 | .exc _=>false
 | _=>true
theorem RsOk.known {X:Cx}{D:Ends}{o:Obj}{r:Rs} (h:H a=some (.dT kvs)) (hn:∀ i,a∉fps i) (hX:zkf X a) (ne:qay r=true) (q:RsOk M D H fps r):RsOk M (thaw X D) (upd H a (.frz o (.dT kvs))) fps r:=by
 have back:∀ {H':Hp}{fps':Fps},KS M (upd H a (.frz o (.dT kvs))) fps H' fps'->H' a=some (.frz o (.dT kvs))/\KS M H fps (upd H' a (.dT kvs)) fps'/\∀ i,a∉fps' i:=λ {H' fps'} ks=>by
  have h1:H' a=some (.frz o (.dT kvs)):=ks.keep a _ zqe λ ⟨i,z⟩=>hn i z;refine ⟨h1,⟨λ b u hb n=>?_,λ b hb=>?_,λ i b hb=>?_⟩,λ i z=>?_⟩
  ·by_cases e:b=a
   ·rw [e] at hb ⊢;rw [zqe,<- hb,h]
   ·rw [zqg e];exact ks.keep b u (by rw [zqg e];exact hb) n
  ·by_cases e:b=a
   ·rw [e,zqe];simp
   ·rw [zqg e];exact ks.dom b (by rw [zqg e];exact hb)
  ·rcases ks.sub i b hb with z | z
   ·exact .inl z
   ·by_cases e:b=a
    ·rw [e,zqe] at z;cases z
    ·rw [zqg e] at z;exact .inr z
  ·rcases ks.sub i a z with ⟨j,z⟩ | z
   ·exact hn j z
   ·rw [zqe] at z;cases z
 have un:∀ {H':Hp},H' a=some (.frz o (.dT kvs))->∀ b u,H' b=some u->b≠a->upd H' a (.dT kvs) b=some u:=λ _ b u hb e=>by rw [zqg e];exact hb
 cases r with
 | no=>exact q
 | exc c=>cases ne
 | nx ρ'=>exact λ σ' H' fps' ks rep=>let ⟨h1,k2,n2⟩:=back ks;.inr ⟨a,o,kvs,h1,hX,q σ' _ fps' k2 (rep.rdAt (un h1) (.inr ⟨o,h1⟩) (.inl zqe) n2)⟩
 | bk ρ'=>exact λ σ' H' fps' ks rep=>let ⟨h1,k2,n2⟩:=back ks;.inr ⟨a,o,kvs,h1,hX,q σ' _ fps' k2 (rep.rdAt (un h1) (.inr ⟨o,h1⟩) (.inl zqe) n2)⟩
 | ct ρ'=>exact λ σ' H' fps' ks rep=>let ⟨h1,k2,n2⟩:=back ks;.inr ⟨a,o,kvs,h1,hX,q σ' _ fps' k2 (rep.rdAt (un h1) (.inr ⟨o,h1⟩) (.inl zqe) n2)⟩
 | rt x d ρ'=>
  intro v σ' H' fps' fp ks rep own hfp;obtain ⟨h1,k2,n2⟩:=back ks;have nfp:a∉fp:=λ z=>by
   obtain ⟨m,hm⟩:=Own.lsts x d v fp own a z;rw [h1] at hm;cases m <;> cases hm
  exact .inr ⟨a,o,kvs,h1,hX,q v σ' _ fps' fp k2 (rep.rdAt (un h1) (.inr ⟨o,h1⟩) (.inl zqe) n2) (Own.rdAt (un h1) (.inr ⟨o,h1⟩) (.inl zqe) x d v fp nfp own) hfp⟩
theorem RsOk.thaw0 {X:Cx}{D:Ends}{r:Rs} (q:RsOk M D H fps r):RsOk M (thaw X D) H fps r:=by
 cases r with
 | no=>exact q
 | exc c=>exact q
 | nx ρ'=>exact λ σ' H' fps' ks rep=>.inl (q σ' H' fps' ks rep)
 | bk ρ'=>exact λ σ' H' fps' ks rep=>.inl (q σ' H' fps' ks rep)
 | ct ρ'=>exact λ σ' H' fps' ks rep=>.inl (q σ' H' fps' ks rep)
 | rt x d ρ'=>exact λ v σ' H' fps' fp ks rep own hfp=>.inl (q v σ' H' fps' fp ks rep own hfp)
end
def soft (r:Rs):Rs:=if qay r=true then r else .no
def zmv (f:Fx) (vs:List Nat) (asg:PV->Rho->Option Rho) (body:Fs):Fs:=λ ρ=>match f ρ with
 | .ok (.dcl ks _,d,ρ1)=>soft (zxe asg body (ks.map tupK) (zqp d vs ρ1))
 | _=>zzg f vs asg body ρ
section
variable {X:Cx}{M:Fm}{ρ ρ':Rho}{σ σ':St}{H H':Hp}{fps fps':Fps}{vs is:List Nat}
theorem qcz {D:Ends}{r:Rs} (q:RsOk M D H fps (soft r)):qay r=true/\RsOk M D H fps r:=by
 unfold soft at q;by_cases h:qay r=true
 ·rw [if_pos h] at q;exact ⟨h,q⟩
 ·rw [if_neg h] at q;exact q.elim
theorem qdq {K:Frag}{Z:Addr->Prop}{b:Addr}{k:List Key} (h:H b=some (.tup (k.map kV))):Own K H Z (tupK k) 0 (.ref b) []:=by
 unfold tupK;rw [Own];exact ⟨b,_,rfl,h,by rw [zgt];exact qat _⟩
theorem zbx {ks:List (List Key)}{ws:List V}{i:Nat}{p:List Key×V} (h:(ks.zip ws)[i]?=some p):ks[i]?=some p.1/\ws[i]?=some p.2:=by
 rw [List.getElem?_zip_eq_some] at h;exact h
theorem qi3 {g:TG}{asg:PV->Rho->Option Rho}{body:Fs}{f:Fx}{D:Ends} (hal:∀ i,M.al i=[]) (hv:∀ i∈vs,M.Ms i=false) (hg:GOk M [] is g asg) (hq:tS M (zmv f vs asg body) D σ H):
  tFor (iSeq M.K (tE M f vs)) g (tS M body) D σ H\/tFor (qoj X (tE M f vs)) g (tS M body) (thaw X D) σ H:=by
 obtain ⟨ρ,fps,rep,q⟩:=id hq;unfold zmv at q;split at q
 ·rename_i ks xs d ρ1 ef
  right
  refine ⟨ρ,fps,rep,?_⟩;rw [ef];intro v H1 fps1 f1 k1 g1 rep1 o1 t1;obtain ⟨fps2,k2,r2,o2⟩:=Rep.seen rep k1 g1 rep1 o1 t1 hal hv;obtain ⟨ne,q⟩:=qcz q;have q2:=RsOk.from k2 q;obtain ⟨a,ws,rfl,en,hr,nz,ol⟩:=o2.dcl0;have hn:∀ i,a∉fps2 i:=λ i z=>nz (.inr ⟨i,z⟩);have lz:(ks.zip ws).length=(ks.map tupK).length:=by rw [jm6,ja3];have:=ol.length;omega
  refine ⟨a,ks.zip ws,rfl,?_⟩;rcases hr with hr | ⟨o,hr⟩
  ·refine .inl ⟨hr,λ o hX=>?_⟩;have up:∀ b u,H1 b=some u->b≠a->upd H1 a (.frz o (.dT (ks.zip ws))) b=some u:=λ b u hb e=>by rw [zqg e];exact hb
   refine zwv (Pq:=λ H fps=>H a=some (.frz o (.dT (ks.zip ws)))/\∀ i,a∉fps i) (els:=ks.map tupK) hg (λ _ ks p=>?_) (λ {H fps i} p h=>⟨p.1,by rw [lz];exact h⟩) (λ {H fps i} p h=>⟨p.1,by rw [lz];exact h⟩) (λ {ρ σ H fps i x H'} _ p h y=>?_) (r2.rdAt up (.inl hr) (.inr ⟨o,zqe⟩) hn) ⟨zqe,hn⟩ (RsOk.known hr hn hX ne q2)
   ·have e:=ks.keep a _ p.1 λ ⟨i,z⟩=>p.2 i z;refine ⟨e,λ i z=>?_⟩;rcases ks.sub i a z with ⟨j,z⟩ | z
    ·exact p.2 j z
    ·rw [p.1] at z;cases z
   ·obtain ⟨rfl,b,p',rfl,hp,hb⟩:=y;refine ⟨λ _ _ h=>h,tupK p'.1,?_,qdq hb⟩;rw [jc7,(zbx hp).1];rfl
  ·refine .inr ⟨o,hr,?_⟩;refine zwv (Pq:=λ H fps=>H a=some (.frz o (.dT (ks.zip ws)))/\∀ i,a∉fps i) (els:=ks.map tupK) hg (λ _ ks p=>?_) (λ {H fps i} p h=>⟨p.1,by rw [lz];exact h⟩) (λ {H fps i} p h=>⟨p.1,by rw [lz];exact h⟩) (λ {ρ σ H fps i x H'} _ p h y=>?_) r2 ⟨hr,hn⟩ q2.thaw0
   ·have e:=ks.keep a _ p.1 λ ⟨i,z⟩=>p.2 i z;refine ⟨e,λ i z=>?_⟩;rcases ks.sub i a z with ⟨j,z⟩ | z
    ·exact p.2 j z
    ·rw [p.1] at z;cases z
   ·obtain ⟨rfl,b,p',rfl,hp,hb⟩:=y;refine ⟨λ _ _ h=>h,tupK p'.1,?_,qdq hb⟩;rw [jc7,(zbx hp).1];rfl
 ·left
  exact zgj hal hv hg ⟨ρ,fps,rep,q⟩
def qbu (f:Fx) (vs:List Nat) (asg:PV->Rho->Option Rho) (body:Fs):Fs:=λ ρ=>match f ρ with
 | .ok (.dcl _ xs,d,ρ1)=>soft (zxe asg body xs (zqp d vs ρ1))
 | _=>.no
theorem qi2 {g:TG}{asg:PV->Rho->Option Rho}{body:Fs}{f:Fx}{D:Ends} (hal:∀ i,M.al i=[]) (hv:∀ i∈vs,M.Ms i=false) (hg:GOk M [] is g asg) (hq:tS M (qbu f vs asg body) D σ H):
  tFor (qoi X (qlr (tE M f vs))) g (tS M body) (thaw X D) σ H:=by
 obtain ⟨ρ,fps,rep,q⟩:=id hq;unfold qbu at q;split at q
 ·rename_i ks xs d ρ1 ef;refine ⟨ρ,fps,rep,?_⟩;rw [ef];intro v H1 fps1 f1 k1 g1 rep1 o1 t1;obtain ⟨fps2,k2,r2,o2⟩:=Rep.seen rep k1 g1 rep1 o1 t1 hal hv;obtain ⟨ne,q⟩:=qcz q;obtain ⟨a,ws,rfl,en,hr,nz,ol⟩:=o2.dcl0;refine ⟨a,ks.zip ws,rfl,hr,λ vw hvw=>?_⟩;have gr:=zqz (o:=.ext λ h=>h.IsValuesView vw a) hvw;have kv:KS M H1 fps2 (upd H1 vw (.ext λ h=>h.IsValuesView vw a)) fps2:=(KD.grow gr).ks;have q2:=RsOk.from (k2.trans kv) q;have r3:=r2.grow gr;have o3:=kv.stay0 r2 o2;obtain ⟨a',ws',ea,en',hr',nz',ol'⟩:=o3.dcl0;cases ea;have hn:∀ i,a∉fps2 i:=λ i z=>nz (.inr ⟨i,z⟩);have lz:(ks.zip ws').length=xs.length:=by rw [jm6];have:=ol'.length;omega
  have va:vw≠a:=λ z=>by rw [z] at hvw;exact Rd.ne hr hvw
  refine ⟨vw,a,ks.zip ws',rfl,zqe,?_⟩;rcases hr' with hr' | ⟨o,hr'⟩
  ·refine .inl ⟨hr',λ o hX=>?_⟩;let H2:=upd H1 vw (.ext λ h=>h.IsValuesView vw a);have up:∀ b u,H2 b=some u->b≠a->upd H2 a (.frz o (.dT (ks.zip ws'))) b=some u:=λ b u hb e=>by rw [zqg e];exact hb
   refine zwv (Pq:=λ H fps=>H a=some (.frz o (.dT (ks.zip ws')))/\(∀ i,a∉fps i)/\OwnL M.K H (Zf M fps) xs 0 ws' []) (els:=xs) hg (λ {ρ σ H fps H' fps'} r ks p=>?_) (λ {H fps i} p h=>⟨p.1,by rw [lz];exact h⟩) (λ {H fps i} p h=>⟨p.1,by rw [lz];exact h⟩) (λ {ρ σ H fps i x H'} _ p h y=>?_) (r3.rdAt up (.inl hr') (.inr ⟨o,zqe⟩) hn) ⟨zqe,hn,OwnL.rdAt up (.inl hr') (.inr ⟨o,zqe⟩) xs 0 ws' [] je9 ol'⟩ (RsOk.known hr' hn hX ne q2)
   ·have e:=ks.keep a _ p.1 λ ⟨i,z⟩=>p.2.1 i z;refine ⟨e,λ i z=>?_,?_⟩
    ·rcases ks.sub i a z with ⟨j,z⟩ | z
     ·exact p.2.1 j z
     ·rw [p.1] at z;cases z
    ·exact OwnL.move ks.keep (λ b ⟨i,hb⟩=>⟨.inr ⟨i,hb⟩,r.lsts hb⟩) (λ b hb nzb z=>by
      rcases z with z | ⟨i,z⟩
      ·exact nzb (.inl z)
      ·rcases ks.sub i b z with z | z
       ·exact nzb (.inr z)
       ·exact hb z) xs 0 ws' [] (λ _ z=>nomatch z) p.2.2
   ·obtain ⟨rfl,p',rfl,hp⟩:=y;exact ⟨λ _ _ h=>h,p.2.2.get (zbx hp).2⟩
  ·refine .inr ⟨o,hr',?_⟩;refine zwv (Pq:=λ H fps=>H a=some (.frz o (.dT (ks.zip ws')))/\(∀ i,a∉fps i)/\OwnL M.K H (Zf M fps) xs 0 ws' []) (els:=xs) hg (λ {ρ σ H fps H' fps'} r ks p=>?_) (λ {H fps i} p h=>⟨p.1,by rw [lz];exact h⟩) (λ {H fps i} p h=>⟨p.1,by rw [lz];exact h⟩) (λ {ρ σ H fps i x H'} _ p h y=>?_) r3 ⟨hr',hn,ol'⟩ q2.thaw0
   ·have e:=ks.keep a _ p.1 λ ⟨i,z⟩=>p.2.1 i z;refine ⟨e,λ i z=>?_,?_⟩
    ·rcases ks.sub i a z with ⟨j,z⟩ | z
     ·exact p.2.1 j z
     ·rw [p.1] at z;cases z
    ·exact OwnL.move ks.keep (λ b ⟨i,hb⟩=>⟨.inr ⟨i,hb⟩,r.lsts hb⟩) (λ b hb nzb z=>by
      rcases z with z | ⟨i,z⟩
      ·exact nzb (.inl z)
      ·rcases ks.sub i b z with z | z
       ·exact nzb (.inr z)
       ·exact hb z) xs 0 ws' [] (λ _ z=>nomatch z) p.2.2
   ·obtain ⟨rfl,p',rfl,hp⟩:=y;exact ⟨λ _ _ h=>h,p.2.2.get (zbx hp).2⟩
 ·exact q.elim
end
section
variable {pg:vb0}{wd:vb4}{Ar:vc0}{Er:va2->va4->Prop}{st:va4}{d:Addr}{es:Array vd0}{ep:Nat}
theorem zgn {b:Addr}{Qv:Bool->va4->Prop} (hT:st.TypeIs (.ref b) "tuple") (q:Qv false st):vb1 (vb2 pg wd) Ar (Builtin.Dict.quietEq (.ref b)) Qv Er st:=by
 delta Builtin.Dict.quietEq;refine va0 (vi6 hT F.slot_tuple_eq.lookup ?_);exact va1 q
theorem qhc {nm:String}{Qv:Array vd0->va4->Prop} (x:RawD st.heap d es ep) (ht:∀ e∈es.toList,∃ b,e.key=.ref b/\st.TypeIs (.ref b) "tuple") (hh:∀ e∈es.toList,¬ (es.filter (·.hash == e.hash)).size > 1) (q:Qv es st):
  vb1 (vb2 pg wd) Ar (vl8 nm d) Qv Er st:=by
 obtain ⟨o,e1,c1,e2⟩:=id x;delta vl8;refine va0 (vc2 e1 e2 ?_);refine va0 ?_;rw [<- Array.forIn_toList];refine wpAny_forIn_list _ (λ rest _ s'=>s'=st/\∀ e∈rest,e∈es.toList) _ ?_ ?_ _ _ ⟨rfl,λ _ h=>h⟩
 ·rintro e rest b s' ⟨rfl,hr⟩;have he:=hr e ja1;obtain ⟨b',ek,hT⟩:=ht e he;rw [ek];refine va0 (zgn hT ?_);rw [if_pos (by decide),if_neg (hh e he)];exact va1 ⟨rfl,λ z hz=>hr z (ja0 _ hz)⟩
 ·rintro b s' ⟨rfl,_⟩;exact va1 q
end
def isI:Key->Bool
 | .inl _=>true
 | .inr _=>false
def qol:Key->Int
 | .inl i=>hashInt i
 | .inr _=>0
def zbc (k:List Key):Int:=reduceHash (vh4 (k.map qol))
def dkOk (ks:List (List Key)):Bool:=(ks.all λ k=>k.all isI) && (ks.all λ k=>decide ((ks.filter λ k'=>zbc k' == zbc k).length<=1))
theorem qkv {P:vb0}{w:vb4}{k:List Key} (h:k.all isI=true):(vf3 (zxd P w)).hash k=zbc k:=by
 show reduceHash (vh4 (k.map (zxd P w).hash))=reduceHash (vh4 (k.map qol));congr 2;apply jg9;intro x hx
 have:=jc1.mp h x hx
 cases x with
 | inl i=>rfl
 | inr x=>cases this
theorem zbe {pg:vb0}{wd:vb4}{Ar:vc0}{Er:va2->va4->Prop}{st:va4}{d:Addr}{es:Array vd0}{ep:Nat}{Qv:va2->va4->Prop} (nm:(d == vc6)=false) (x:RawD st.heap d es ep) (ne:es.size≠0) (hz:es.size<=va6)
  (ht:∀ e∈es.toList,∃ b,e.key=.ref b/\∀ h':Heap,(∀ o,st.heap.get? b=some o->h'.get? b=some o)->Shared.TypeIs { st with heap:=h' } (.ref b) "tuple") (hh:∀ e∈es.toList,¬ (es.filter (·.hash == e.hash)).size > 1)
  (good:∀ h',(∀ b o,st.heap.get? b=some o->h'.get? b=some o)->(∃ o' ep',h'.get? st.heap.objs.size=some o'/\o'.ExactDict/\o'.data=.dict es ep')->Qv (.ref st.heap.objs.size) { st with heap:=h' }):
  vb1 (vb2 pg wd) Ar (call (.type "dict") [.ref d]) Qv Er st:=by
 refine callType_codes (Q₁:=λ obj s₁=>obj=.ref st.heap.objs.size/\s₁={ st with heap:=st.heap.push { cls:=.type "dict",data:=.dict #[] } }) F.kt_called_dict (F.kt_typeCall_dict_1 _) F.entry_dict_init (kt_code_dict_new _ ⟨rfl,rfl⟩) ?_;rintro obj s₁ ⟨rfl,rfl⟩;obtain ⟨o,e1,c1,e2⟩:=id x;have hl:=va5 e1;have hdo:st.heap.objs.size≠d:=λ e=>by rw [e] at hl;exact jd6 _ hl
 have kp:∀ b ob,st.heap.get? b=some ob->(st.heap.push { cls:=.type "dict",data:=.dict #[] }).get? b=some ob:=λ b ob e=>va3 _ e;have e1':=kp d o e1;have hN:(st.heap.push { cls:=.type "dict",data:=.dict #[] }).get? st.heap.objs.size=some { cls:=.type "dict",data:=.dict #[] }:=va7 _ rfl;have tyN:Shared.TypeIs { st with heap:=st.heap.push { cls:=.type "dict",data:=.dict #[] } } (.ref st.heap.objs.size) "dict" := ⟨_,hN,rfl⟩
 have tyO:Shared.TypeIs { st with heap:=st.heap.push { cls:=.type "dict",data:=.dict #[] } } (.ref d) "dict" := ⟨o,e1',c1.1⟩
 refine ⟨tyN,F.args_dict_init_2 _ _,?_⟩;unfold Builtin.«dict.__init__»;refine va0 ?_;unfold Builtin.Dict.selfAndRest;refine va0 (vi7 tyN ?_);show vb1 _ _ (pure (st.heap.objs.size,[Value.ref d])) _ _ _;refine va1 ?_;show vb1 _ _ (Builtin.Dict.updateFrom "dict.__init__" st.heap.objs.size (.ref d) [] .none) _ _ _;unfold Builtin.Dict.updateFrom;refine va0 (wpAny_typeOf tyO ?_);rw [if_neg (by decide)];refine va0 ?_;unfold Builtin.Dict.merge;refine va0 ?_;unfold Builtin.Dict.readDirectly;refine va0 (vi4 tyO isSubtype_dict_dict ?_);simp only [Bool.not_true,je7,if_false];refine va0 (vi6 tyO F.slot_dict_iter.lookup (va1 ?_));simp only [beq_self_eq_true,if_true];refine va0 (va1 ?_);show vb1 _ _ (Builtin.Dict.mergeDict "dict.__init__" st.heap.objs.size d) _ _ _;unfold Builtin.Dict.mergeDict;rw [if_neg (by simpa using hdo)];unfold ve1;rw [if_neg (by rw [nm];exact jb9)];refine va0 (va1 ?_);refine va0 (vc2 e1' e2 ?_);have few:(decide (es.size<=8) && es.all λ e=>(keyPart e.key).isSome)=false:=by
  have:(es.all λ e=>(keyPart e.key).isSome)=false:=by
   rw [jo4];intro h;have hm:es[0]'(by omega)∈es.toList:=by simp
   obtain ⟨b,ek,_⟩:=ht _ hm
   have:=(Array.all_eq_true.mp h) 0 (by omega)
   rw [ek] at this;cases this
  rw [this,jp9]
 dsimp only;rw [few];simp only [Bool.not_false,if_true];refine va0 (vc2 hN rfl ?_);simp only [Array.isEmpty_empty,if_true];refine va0 (qhc (x.to λ o e=>kp d o e) (λ e he=>?_) hh ?_)
 ·obtain ⟨b,ek,hT⟩:=ht e he;exact ⟨b,ek,hT _ λ o e=>kp b o e⟩
 ·have nem:(!es.isEmpty)=true:=by
   cases he:es.isEmpty with
   | false=>rfl
   | true=>exact absurd (by rw [Array.isEmpty_iff.mp he];rfl) ne
  rw [if_pos nem];refine va0 (wpAny_updateDictKeysTo hN rfl (va1 ?_) (by omega));show vb1 _ _ (Builtin.Dict.addKeywords st.heap.objs.size [] >>= _) _ _ _;refine va0 (va1 (va1 ⟨rfl,good _ (λ b ob e=>?_) ⟨_,_,vd9 _ hN (Obj.isFreed_of_dict (Obj.data_mapDictKeys rfl _)),?_,Obj.data_mapDictKeys rfl _⟩⟩))
  ·have hb:=va5 e;rw [vf5 _ _ (jg0 hb)];exact kp b ob e
  ·exact Obj.ExactDict.mapDictKeys ⟨rfl,rfl,rfl⟩ _
theorem zjh {α β:Type}{R S:α->β->Prop}:∀ {xs:List α}{ys:List β},vk2 R xs ys->(∀ x y,R x y->S x y)->vk2 S xs ys
 | _,_,.nil,_=>.nil
 | _,_,.cons h t,f=>.cons (f _ _ h) (zjh t f)
variable {X:Cx}
theorem qfl:zvb X (.type "dict") (λ xs H Q=>∃ a kvs,xs=[.ref a]/\Rd H a (.dT kvs)/\kvs≠[]/\dkOk (kvs.map (·.1))=true/\∀ l,H l=none->Q (.ref l) (upd H l (.dT kvs))):=by
 intro pins s σ H xs us Q I r h;obtain ⟨a,kvs,rfl,rd,ne,dk,q⟩:=h;obtain ⟨u,rfl,rx⟩:=zbz r;cases rx;obtain ⟨hz,nm,ys,pr,o,es,ep,h1,h2,h3,h4,h5⟩:=(show zxc X.prog X.w H s.heap a (.dT kvs) from Rd.ok rd I.hok)
 have ln:kvs.length=ys.length:=zkn pr;have hl:es.size=ys.length:=by rw [<- jf0,h4,ja3]
 have kk:ys.map (·.1)=kvs.map (·.1):=by
  clear h4 h5 ln hl hz dk ne q rd h1 h2 h3;induction pr with
  | nil=>rfl
  | cons x _ ih=>rw [jb7,jb7,ih,x.1]
 unfold dkOk at dk;rw [ja4,jc1,jc1,<- kk] at dk;have hash:∀ y∈ys,(vj3 (vf3 (zxd X.prog X.w)) y).hash=zbc y.1:=λ y hy=>qkv (dk.1 _ (jd4.mpr ⟨y,hy,rfl⟩));refine zbe nm ⟨o,h1,h2,h3⟩ (λ z=>ne (jf3.mp (by omega))) (by omega) (λ e he=>?_) (λ e he=>?_) λ h' kp ⟨o',ep',e1,c1,d1⟩=>?_
 ·rw [h4] at he;obtain ⟨y,hy,rfl⟩:=jd4.mp he;obtain ⟨i,hi,ei⟩:=ji2 hy;have hk:kvs[i]?=some (kvs[i]'(by omega)):=jc4 _;obtain ⟨y',hy',hp⟩:=zko pr hk;rw [jc4 hi,ei] at hy';cases hy';obtain ⟨_,its,_,ot,et,ct⟩:=(show zxc X.prog X.w H s.heap y.2.1 (.tup _) from I.hok _ _ hp.2.1)
  exact ⟨y.2.1,rfl,λ h' k=>⟨ot,k ot et,ct.1⟩⟩
 ·rw [h4] at he;obtain ⟨y,hy,rfl⟩:=jd4.mp he;have d2:=of_decide_eq_true (dk.2 _ (jd4.mpr ⟨y,hy,rfl⟩));rw [<- jf0,Array.toList_filter,h4,jp8,ja3];rw [jp8,ja3] at d2;have ef:ys.filter ((λ e:vd0=>e.hash == (vj3 (vf3 (zxd X.prog X.w)) y).hash) ∘ vj3 (vf3 (zxd X.prog X.w)))=ys.filter ((λ k'=>zbc k' == zbc y.1) ∘ λ x=>x.1):=jl6 λ z hz'=>by
   show ((vj3 (vf3 (zxd X.prog X.w)) z).hash == _)=(zbc z.1 == zbc y.1);rw [hash z hz',hash y hy]
  rw [ef];omega
 ·have fr:H s.heap.objs.size=none:=I.hok.fresh (ja8 _);have pr':vk2 (λ (p:List Key×V) (q:List Key×Addr×va2)=>p.1=q.1/\upd H s.heap.objs.size (.dT kvs) q.2.1=some (.tup (p.1.map kV))/\RelV p.2 q.2.2) kvs ys:=by
   have up:∀ b xs,H b=some (.tup xs)->upd H s.heap.objs.size (.dT kvs) b=some (.tup xs):=λ b xs e=>by rw [zqg (zwm e fr)];exact e
   exact zjh pr λ p q x=>⟨x.1,up _ _ x.2.1,x.2.2⟩
  refine ⟨.ref s.heap.objs.size,_,I.laid (t':=s.toks) kp (ja8 _) (show zxc X.prog X.w (upd H s.heap.objs.size (.dT kvs)) h' s.heap.objs.size (.dT kvs) from ⟨hz,?_,ys,pr',o',es,ep',e1,c1,d1,h4,h5⟩),rfl,q _ fr⟩;have big:=Inv.big I;exact beq_false_of_ne (jg0 big)
section
variable {X:Cx}{M:Fm}{ρ:Rho}{σ:St}{H H':Hp}{fps:Fps}{vs:List Nat}{fa:Fa}{Q:VK}{F:List Addr}{e:Expr}{es:List Expr}{p pos:Pos}
theorem qgs {ks:List (List Key)}{xs:List PV}{ws:List V} (h:Leaf M H fps vs F (.dcl ks xs) 1 Q) (en:ks.length=xs.length) (o:OwnL M.K H (Zv M vs fps) xs 0 ws []) {p:Addr} (hp:H p=none):Q (.ref p) (upd H p (.dT (ks.zip ws))):=by
 refine h (.ref p) _ [p] (zqz hp) ?_ λ a ha=>.inr (by rw [jb4.mp ha];exact hp);rw [Own];refine ⟨p,ws,rfl,en,.inr ⟨(by decide),[],zqe,rfl,je9,?_⟩⟩;rw [zbk];exact OwnL.move (S:=λ _=>False) (λ a u ha _=>zqz hp a u ha) (λ _ z=>z.elim) (λ a hd nz z=>z.elim nz λ z=>hd (by rw [jb4.mp z];exact hp)) xs 0 ws [] (λ _ z=>nomatch z) o
def zfd:List (PV×Nat)->Option (PV×Nat)
 | [(.dcl ks xs,_)]=>if dkOk ks=true/\ks≠[] then some (.dcl ks xs,1) else none
 | _=>none
theorem qcd {ks:List (List Key)}{ws:List V} (h:ks.length=ws.length):(ks.zip ws).map (·.1)=ks:=by
 rw [List.map_fst_zip (by omega)]
theorem qji (hK:M.K=X.K) (hg:Gl X "dict") (hm:X.mg "dict" = none) (ha:PA X (e::es) (tL M fa vs)) (he:va9 (e::es) X.env=(false,eval e X.env)::va9 es X.env) (hpl:(vg0 pos (va9 es X.env)).any (·.1)=false):
  PE X (.Call (.Name "dict" p) (e::es) [] pos) (tE M (zqc zfd fa) vs):=by
 refine zqr (zfc qfl hg hm rfl ha (he:=he) (hpl:=hpl)) λ σ H Q h=>zvc (λ xs z c ws H fps fp Q ho tm nz zd lf=>?_) h;unfold zfd at ho;split at ho
 ·rename_i ks xs d;split at ho
  ·rename_i hk;cases ho;obtain ⟨v,r,f1,f2,rfl,rfl,_,o1,h2⟩:=tm;obtain ⟨rfl,rfl⟩:=h2;obtain ⟨a,us,rfl,en,hr,_,ol⟩:=(cold (fp:=f1) o1 λ a ha=>nz a (ja7 _ ha)).dcl0;have el:ks.length=us.length:=by rw [en,ol.length]
   refine ⟨a,_,rfl,hr,λ z=>hk.2 ?_,by rw [qcd el];exact hk.1,λ l hl=>qgs lf en ol hl⟩
   have:=qcd el
   rw [z] at this;exact this.symm
  ·cases ho
 ·cases ho
end
def Itd (lo:Int) (n:Nat):It:=⟨λ i _=>i < n,λ i H v H'=>H'=H/\v=.int (lo - (i:Nat)),λ i _=>n<=i⟩
theorem qcj {P:vb0}{w:vb4}{K:Frag}{tg:Expr} (it:Addr) (lo:Int) (n:Nat):Turn P w K tg (Itd lo n) [it] it (λ i h=>vn2 h it (lo + (i:Nat) * (-1)) ((n:Int) - (i:Nat)) (-1)) where
 mem:=by simp
 obj:=λ i h st b hb=>by
  have e:b=it:=by simpa using hb
  subst e;exact ⟨_,st,λ v z=>by
   have z':Data.fields _=Data.cell v:=z;cases z'⟩
 keep:=λ i h h' st k=>k it (by simp) _ st
 item:=by
  intro X hP hw hK hc i pins s σ H E I hf st hg;subst hP hw hK;obtain ⟨f0,f1,f2,f3,f4,f5⟩:=hf it (by simp);have W:=Walks.range (prog:=X.prog) (w:=X.w) (I.ok.hd hc) it lo (-1) n;refine W.item i s _ _ hg st λ v h' tk hv st' kk=>?_;obtain ⟨t,rfl⟩:=hv;have I1:Inv X pins σ H { s with heap:=h',toks:=tk }:=I.turned (λ b o hb e=>kk b o (by simpa using hb) e) f0 f1 f3 f4 f5;refine ⟨_,rfl,zhk (s:={ s with heap:=h',toks:=tk }) (n := "range_iterator") st' rfl rfl (by decide) ⟨.int (lo - i),H,I1,⟨t,?_⟩,⟨rfl,rfl⟩,st',λ b hb=>(hf b hb).1⟩⟩;rw [show lo + (i:Int) * -1=lo - i by omega]
 done:=by
  intro X hP hw hK hc i pins s σ H E I hf st hg;subst hP hw hK;obtain ⟨f0,f1,f2,f3,f4,f5⟩:=hf it (by simp);exact wpAny_pyNext_range_end (I.ok.hd hc) st (by have:n<=i:=hg;omega) λ h' eb=>⟨rfl,I.turned (t':=s.toks) (λ b o hb e=>eb b o hb e) f0 f1 f3 f4 f5⟩
 self:=λ _ _ _ _ _ st h=>wpAny_pyIter_rangeiter st h
section
variable {X:Cx}{tg:Expr}
theorem qk6 {pins:List (Addr×Obj)}{σ:St}{H:Hp}{s:va4}{R:It->Hp->Prop}{E:va2->va4->Prop}{lo hi:Int}{t u v:Tok}{tk:Nat} (I:Inv X pins σ H s) (h1:-(2 ^ 62)<=lo) (h2:lo < 2 ^ 62) (h3:-(2 ^ 62)<=hi) (h4:hi < 2 ^ 62)
  (q:R (Itd lo (lo - hi).toNat) H):vb1 (vb2 X.prog X.w) X.A (pyIter (.ref s.heap.objs.size)) (PIE X pins σ tg R) E { s with heap:=s.heap.push { cls:=.type "range",data:=.fields #[.int lo t,.int hi u,.int (-1) v] },toks:=tk }:=by
 refine wpAny_pyIter_range (IsRange.new ..) (PySem.W.small_down h1 h2 h3 h4) ?_;have I1:Inv X pins σ H { s with heap:=s.heap.push { cls:=.type "range",data:=.fields #[.int lo t,.int hi u,.int (-1) v] },toks:=tk }:=I.kept λ b o e=>va3 _ e;refine ⟨(s.heap.push { cls:=.type "range",data:=.fields #[.int lo t,.int hi u,.int (-1) v] }).objs.size,[(s.heap.push { cls:=.type "range",data:=.fields #[.int lo t,.int hi u,.int (-1) v] }).objs.size],_,_,H,rfl,
  I1.kept (t':=tk) λ b o e=>va3 _ e,qcj _ lo (lo - hi).toNat,?_,λ b hb=>?_,q⟩
 ·have e1:lo + ((0:Nat):Int) * (-1)=lo:=by simp
  have e2:(((lo - hi).toNat:Nat):Int) - ((0:Nat):Int)=Builtin.Range.rangeSize lo hi (-1):=by rw [PySem.W.rangeSize_downNat];simp
  show vn2 _ _ (lo + ((0:Nat):Int) * (-1)) ((((lo - hi).toNat:Nat):Int) - ((0:Nat):Int)) (-1);rw [e1,e2];exact va7 _ rfl
 ·have e:b=(s.heap.push { cls:=.type "range",data:=.fields #[.int lo t,.int hi u,.int (-1) v] }).objs.size:=by simpa using hb
  subst e;exact I1.fpOk (ja8 _) (I1.hok.fresh (ja8 _))
def qok (ta:TA):TI:=λ σ H R=>ta σ H λ vs H1=>∃ i j:Int,vs=[.int i,.int j,.int (-1)]/\(-(2 ^ 40)<=i/\i < 2 ^ 40/\-(2 ^ 40)<=j/\j < 2 ^ 40)/\R (Itd i (i - j).toNat) H1
theorem qj1 {e:Expr}{es:List Expr}{ta:TA}{p pos:Pos} (hg:Gl X "range") (hm:X.mg "range" = none) (ha:PA X (e::es) ta) (he:va9 (e::es) X.env=(false,eval e X.env)::va9 es X.env) (hpl:(vg0 pos (va9 es X.env)).any (·.1)=false):
  PI X tg (.Call (.Name "range" p) (e::es) [] pos) (qok ta):=by
 intro pins s σ H R I h;refine Call_ (zvi I hg hm boot_range (vb3 (thn (ha pos pins s σ H _ I h) λ us s1 ⟨vs,H1,I1,r1,q1⟩=>?_) he hpl));obtain ⟨i,j,e,⟨q1,q2,q3,q4⟩,q⟩:=q1;subst e;cases r1 with
 | cons r rr=>
  cases rr with
  | cons r' rr=>
   cases rr with
   | cons r'' rr=>
    cases rr;obtain ⟨t,rfl⟩:=r;obtain ⟨t',rfl⟩:=r';obtain ⟨t'',rfl⟩:=r'';exact call_range_3 (by decide) (qk6 I1 (by omega) (by omega) (by omega) (by omega) q) (.inl (PyProof.noPylong_small (by omega)))
end
section
variable {M:Fm}{ρ:Rho}{σ:St}{H:Hp}{fps:Fps}{vs is:List Nat}
def zbd (i:Int) (n:Nat):List PV:=(jb0 n).map λ (k:Nat)=>PV.int (i - (k:Int))
def qb7:List (PV×Nat)->Option (Int×Nat)
 | [(.int i,_),(.int j,_),(.int k,_)]=>if k=-1/\-(2 ^ 40)<=i/\i < 2 ^ 40/\-(2 ^ 40)<=j/\j < 2 ^ 40 then some (i,(i - j).toNat) else none
 | _=>none
def zjd (fa:Fa) (asg:PV->Rho->Option Rho) (body:Fs):Fs:=λ ρ=>match fa ρ with
 | .ok (xs,ρ1)=>(match qb7 xs with
  | some (i,n)=>zxe asg body (zbd i n) ρ1
  | none=>.no)
 | .exc c=>.exc c
 | .no=>.no
theorem qf2 {g:TG}{asg:PV->Rho->Option Rho}{body:Fs}{fa:Fa}{D:Ends} (hg:GOk M [] is g asg) (hq:tS M (zjd fa asg body) D σ H):tFor (qok (tL M fa vs)) g (tS M body) D σ H:=by
 obtain ⟨ρ,fps,rep,q⟩:=hq;refine ⟨ρ,fps,rep,?_⟩;unfold zjd at q;cases ef:fa ρ with
 | no=>rw [ef] at q;exact q
 | exc c=>rw [ef] at q;exact λ H' fps' k=>q _ H' fps' k.ks
 | ok p=>
  obtain ⟨xs,ρ1⟩:=p;rw [ef] at q;intro ws H1 fps1 f1 k1 g1 rep1 o1 t1;dsimp only at q;cases ee:qb7 xs with
  | none=>rw [ee] at q;exact q.elim
  | some r=>
   obtain ⟨ii,n⟩:=r;rw [ee] at q;dsimp only at q;unfold qb7 at ee;split at ee
   ·rename_i i0 d1 j d2 k d3;split at ee
    ·rename_i hc;cases ee;obtain ⟨rfl,hb⟩:=hc;obtain ⟨v1,r1,fa1,fb1,rfl,rfl,_,h1,h2⟩:=o1;obtain ⟨v2,r2,fa2,fb2,rfl,rfl,_,h3,h4⟩:=h2;obtain ⟨v3,r3,fa3,fb3,rfl,rfl,_,h5,h6⟩:=h4;obtain ⟨rfl,rfl⟩:=h6;rw [Own] at h1 h3 h5;obtain ⟨rfl,_⟩:=h1;obtain ⟨rfl,_⟩:=h3;obtain ⟨rfl,_⟩:=h5;refine ⟨ii,j,rfl,hb,?_⟩;have hl:(zbd ii (ii - j).toNat).length=(ii - j).toNat:=by unfold zbd;rw [ja3,je6]
     refine zwv (Pq:=λ _ _=>True) (els:=zbd ii (ii - j).toNat) hg (λ _ _ _=>trivial) (λ {H fps i} _ h=>by rw [hl] at h;exact h) (λ {H fps i} _ h=>by rw [hl] at h;exact h) (λ {ρ σ H fps i x H'} _ _ h y=>?_) rep1 trivial (RsOk.from k1.ks q);obtain ⟨rfl,rfl⟩:=y;refine ⟨λ _ _ h=>h,.int (ii - (i:Nat)),?_,by rw [Own];exact ⟨rfl,rfl⟩⟩;rw [hl] at h;unfold zbd;rw [jc7,jk4 h];rfl
    ·cases ee
   ·cases ee
end
abbrev D2:=Fx×List Nat
def zkw (d:Expr->Option D2):List Expr->Option (Fa×List Nat)
 | []=>some (aNil,[])
 | e::es=>match d e,zkw d es with
  | some (f,v),some (fa,u)=>some (zqa f fa,v++u)
  | _,_=>none
def qbg (d:Expr->Option D2):List Expr->Option D2
 | []=>none
 | [e]=>d e
 | e::es=>match d e,qbg d es with
  | some (f,v),some (g,u)=>some (zkz f g,v++u)
  | _,_=>none
def qhb (d:Expr->Option D2):List Expr->Option D2
 | []=>none
 | [e]=>d e
 | e::es=>match d e,qhb d es with
  | some (f,v),some (g,u)=>some (bOrV f g,v++u)
  | _,_=>none
def denC:Const->Option D2
 | .int i=>some (bC (.int i),[])
 | .bool b=>some (bC (.bl b),[])
 | .none=>some (bC .non,[])
 | .str x=>some (bC (.str x),[])
 | _=>none
def tyOf (x:Str):Option String:=if x = "int" then some "int" else if x = "bool" then some "bool" else if x = "str" then some "str" else if x = "list" then some "list" else if x = "tuple" then some "tuple" else if x = "dict" then some "dict" else none
def qlh (x:Str):Option (List (PV×Nat)->Option (PV×Nat)):=
 if x = "len" then some zxv else if x = "all" then some qb0 else if x = "max" then some qby else if x = "sum" then some zvn else if x = "list" then some zbl else if x = "dict" then some zfd else none
def zxq (scope sc:vd1):vd1:={ scope with names:=scope.names.map λ (n,k)=>if (k == .free && sc.kind == .function && sc.names.lookup n == some .cell) then (n,.cell) else (n,k) }
def junk (i:Nat):Str:=⟨#[2000000 + i]⟩
def zfm (sc':vd1):Nat->List Str->List Str
 | _,[]=>[]
 | i,x::r=>(if zwj sc' x .cell || zwj sc' x .free then x else junk i)::zfm sc' (i + 1) r
def zpn:List Expr->Option (List Str)
 | []=>some []
 | .Name x _::r=>(zpn r).map (x::·)
 | _=>none
def tgA (n:Nat):Expr->Option (List Str×(PV->Rho->Option Rho))
 | .Name x _=>some ([x],asgN n)
 | .Tuple es _ _=>(zpn es).map λ xs=>(xs,asgT (jj3 n xs.length))
 | _=>none
def isTg:Expr->Bool
 | .Tuple _ _ _=>true
 | _=>false
def zqv (S:Sx) (scope:vd1) (xs:List Str) (vI:List Nat):Sx:=⟨zfm (zxq scope S.sc) 0 S.N++xs,zxq scope S.sc,S.ms,(jb0 S.N.length).map S.alF++ja2 xs.length vI,S.Γ,S.Γm,false,S.xc,S.pn⟩
def zpy (S:Sx) (scope:vd1) (xs:List Str) (vI:List Nat):Bool:=
 let S':=zqv S scope xs vI;decide (scope.kind=.function) && scope.names.all (λ x=>x.2 != .free || !(scope.names.contains (x.1,.cell))) && scope.names.all (λ x=>x.2 != .local || scope.names.lookup x.1 == some .local)
 && scope.names.all (λ x=>x.2 != .free || (S.sc.names.lookup x.1 == some .cell || S.sc.names.lookup x.1 == some .free))
 && (jb0 S.N.length).all (λ i=>match S'.N[i]? with
  | some x=>!visB S'.sc x || (decide (S.N[i]?=some x) && visB S.sc x && scope.names.contains (x,.free) && !zwj S'.sc x .local)
  | none=>true)
 && decide S'.N.Nodup && xs.all (λ x=>zwj S'.sc x .local || (zwj S'.sc x .cell && scope.names.contains (x,.cell))) && decide (S.N.length≠0) && (S.ms.all λ i=>decide (i < S.N.length))
inductive Iw where
 | rng (en:List (PV×Nat)->Option (Int×Int)) (fa:Fa) (vs:List Nat)
 | seq (f:Fx) (vs:List Nat)
 | vw (v:Vw) (fa:Fa) (vs:List Nat)
def Iw.vs:Iw->List Nat
 | .rng _ _ _=>[]
 | .seq _ vs=>vs
 | .vw _ _ vs=>vs
def twOk (tg:Expr):Iw->Bool
 | .vw .enm _ _=>isTg tg
 | .vw .zp _ _=>isTg tg
 | _=>true
def denI (d:Expr->Option D2) (S:Sx) (it:Expr):Option Iw:=match it with
 | .Call (.Name x _) [a] [] _=>if x = "range" /\ S.glob "range" = true then (match zkw d [a] with
   | some (fa,vs)=>some (.rng zqt fa vs)
   | none=>none) else if x = "enumerate" /\ S.glob "enumerate" = true then (match zkw d [a] with
   | some (fa,vs)=>some (.vw .enm fa vs)
   | none=>none) else (match d it with
   | some (f,vs)=>some (.seq f vs)
   | none=>none)
 | .Call (.Name x _) [a,b] [] _=>if x = "range" /\ S.glob "range" = true then (match zkw d [a,b] with
   | some (fa,vs)=>some (.rng zkv fa vs)
   | none=>none) else if x = "zip" /\ S.glob "zip" = true then (match zkw d [a,b] with
   | some (fa,vs)=>some (.vw .zp fa vs)
   | none=>none) else (match d it with
   | some (f,vs)=>some (.seq f vs)
   | none=>none)
 | _=>match d it with
   | some (f,vs)=>some (.seq f vs)
   | none=>none
def qfo (iw:Iw) (k:Nat) (asg:PV->Rho->Option Rho) (test:Fb) (elt:Fx):Fx:=match iw with
 | .rng en fa _=>zxg en fa k asg test elt
 | .seq f _=>zxy f k asg test elt
 | .vw _ _ _=>λ _=>.no
def zxz:Fb:=λ ρ=>.ok (true,ρ)
def qbf (d:Expr->Option D2):List Expr->Option Fb
 | []=>some zxz
 | [c]=>(d c).map λ p=>bT p.1
 | _=>none
def qei:Expr->Bool
 | .UnaryOp .USub c _=>(match c with
  | .Constant k _ _=>(match k with
   | .int i=>i == 1
   | _=>false)
  | _=>false)
 | _=>false
theorem qeh {e:Expr} (h:qei e=true):∃ k p3 p4,e=.UnaryOp .USub (.Constant (.int 1) k p3) p4:=by
 unfold qei at h;split at h
 ·split at h
  ·split at h
   ·rename_i i
    have:i=1:=eq_of_beq h
    subst this;exact ⟨_,_,_,rfl⟩
   ·cases h
  ·cases h
 ·cases h
def nmE:Expr->Option Str
 | .Name x _=>some x
 | _=>none
theorem qa0 {e:Expr}{x:Str} (h:nmE e=some x):∃ p,e=.Name x p:=by
 cases e <;> first | (cases h;exact ⟨_,rfl⟩) | (cases h)
def ixC:Expr->Option Int
 | .Constant c _ _=>(match c with
  | .int i=>some i
  | _=>none)
 | _=>none
theorem qof {e:Expr}{i:Int} (h:ixC e=some i):∃ k p,e=.Constant (.int i) k p:=by
 unfold ixC at h;split at h
 ·split at h
  ·cases h;exact ⟨_,_,rfl⟩
  ·cases h
 ·cases h
def qii (d:Sx->Expr->Option D2) (S:Sx) (a:Expr):Option Expr->Option Expr->Option Expr->Option D2
 | none,some hi,none=>match d S a,d S hi with
  | some (f,v),some (g,_)=>some (bSl f none (some g),v)
  | _,_=>none
 | some lo,none,none=>match d S a,d S lo with
  | some (f,v),some (g,_)=>some (bSl f (some g) none,v)
  | _,_=>none
 | none,none,some st=>if qei st=true then (match d S a with
  | some (f,v)=>some (bUn opRv f,v)
  | none=>none) else none
 | _,_,_=>none
def qih (d:Sx->Expr->Option D2) (S:Sx) (a b:Expr):Option D2:=match b with
 | .Slice lo hi st _=>qii d S a lo hi st
 | b=>match nmE a,ixC b with
  | some x,some i=>(match S.slot x with
   | some j=>if S.msF j=true then none else some (bBin zqd (bVar j) (bC (.int i)),(j::S.alF j)++[])
   | none=>none)
  | _,_=>match d S a,d S b with
   | some (f,v),some (g,u)=>if zjl b=true then some (bBin zqd f g,v++u) else none
   | _,_=>none
def qil (d:Expr->Option D2) (S:Sx) (e c:Expr):Option D2:=match d e with
 | some (f,v)=>if S.glob "isinstance" = true then (match c with
  | .Name T _=>(match tyOf T with
   | some t=>if S.glob T=true then some (bUn (qdv t) f,v) else none
   | none=>none)
  | _=>none) else none
 | none=>none
def qd5 (x:Str):List Expr->Option Expr
 | [.Call (.Name y _) [a] [] _]=>if x = "list" /\ y = "reversed" then some a else none
 | _=>none
theorem qkj {x:Str}{args:List Expr}{a:Expr} (h:qd5 x args=some a):x = "list" /\ ∃ p pos,args=[.Call (.Name "reversed" p) [a] [] pos]:=by
 unfold qd5 at h;split at h
 ·split at h
  ·rename_i hc;cases h;obtain ⟨rfl,rfl⟩:=hc;exact ⟨rfl,_,_,rfl⟩
  ·cases h
 ·cases h
def zzm (d:Sx->Expr->Option D2) (S:Sx):Expr->Option D2
 | .Constant c _ _=>denC c
 | .Name x _=>match S.slot x with
  | some i=>if S.msF i=true then none else some (bVar i,i::S.alF i)
  | none=>none
 | .BinOp a op b _=>match d S a,d S b,qoy b op with
  | some (f,v),some (g,u),some o=>some (bBin o f g,v++u)
  | _,_,_=>none
 | .UnaryOp .USub a _=>match d S a with
  | some (f,v)=>some (bUn zyh f,v)
  | none=>none
 | .UnaryOp .Not a _=>match d S a with
  | some (f,v)=>some (bUn zpl f,v)
  | none=>none
 | .BoolOp .And es _=>qbg (d S) es
 | .BoolOp .Or es _=>qhb (d S) es
 | .IfExp t a b _=>match d S t,d S a,d S b with
  | some (c,_),some (f,v),some (g,u)=>some (bIfE (bT c) f g,v++u)
  | _,_,_=>none
 | .Compare a [op] [b] _=>match d S a,d S b,qle b op with
  | some (f,v),some (g,u),some o=>some (bBin o f g,v++u)
  | _,_,_=>none
 | .Compare a [op,op'] [b,c] _=>match d S a,d S b,d S c,icmp op,icmp op' with
  | some (f,_),some (g,_),some (h,_),some p,some q=>some (zye p q f g h,[])
  | _,_,_,_,_=>none
 | .List es _=>match zkw (d S) es with
  | some (fa,v)=>some (zqc zql fa,v)
  | none=>none
 | .Tuple es _ _=>match zkw (d S) es with
  | some (fa,v)=>some (zqc zwa fa,v)
  | none=>none
 | .Dict [] [] _=>some (bC .emp,[])
 | .Subscript a b _=>qih d S a b
 | .Call (.Name x _) args [] _=>
  if x = "isinstance" then (match args with
   | [e,c]=>qil (d S) S e c
   | _=>none)
  else match qd5 x args with
  | some a=>(match d S a with
   | some (f,v)=>if S.glob "list" = true/\S.glob "reversed" = true then some (bUn qkf f,v) else none
   | none=>none)
  | none=>match qlh x with
  | some o=>(match args with
   | e::es=>(match zkw (d S) (e::es) with
    | some (fa,v)=>if S.glob x=true then some (zqc o fa,v) else none
    | none=>none)
   | []=>none)
  | none=>match S.Γ.lookup x with
   | some (false,_,F)=>(match args with
    | e::es=>(match zkw (d S) (e::es) with
     | some (fa,v)=>if S.glob x=true then some (zqf F fa,v) else none
     | none=>none)
    | []=>none)
   | some (true,_,F)=>none
   | none=>none
 | .ListComp elt [⟨tg,it,ifs,0⟩] scope _=>match tgA S.N.length tg,denI (d S) S it with
  | some (xs,asg),some iw=>if zpy S scope xs iw.vs=true/\twOk tg iw=true then (match qbf (d (zqv S scope xs iw.vs)) ifs,d (zqv S scope xs iw.vs) elt with
   | some t,some (g,vE)=>some (qfo iw xs.length asg t g,iw.vs++vE.filter (λ i=>decide (i < S.N.length)))
   | _,_=>none) else none
  | _,_=>none
 | _=>none
def den:Nat->Sx->Expr->Option D2
 | 0,_,_=>none
 | n + 1,S,e=>zzm (den n) S e
section
variable {X:Cx}{P:vb0}{w:vb4}{K:Frag}{mg:Str->Option va2}{base:Heap}{lvl:Nat}{S:Sx}{Wx:St->Nat->Hp->Prop}{M:Fm}{f g:Fx}{vs vs':List Nat}{σ:St}{H:Hp}{Q:VK}
theorem qiz {Q:Bool->Hp->Prop} (hq:tT M (bT (zkz f g)) σ H Q):tAnd (tT M (bT f)) (tT M (bT g)) σ H Q:=by
 refine qlw ?_;have e:bT (zkz f g)=bAnd (bT f) (bT g):=by
  funext ρ;unfold bT zkz bAnd;dsimp only;cases f ρ with
  | no=>rfl
  | exc c=>rfl
  | ok p=>
   obtain ⟨x,d,ρ1⟩:=p;cases x with
   | bl b=>cases b <;> rfl
   | _=>rfl
 rw [<- e];exact hq
theorem qlt {Q:Bool->Hp->Prop} (hq:tT M (bT (bOrV f g)) σ H Q):tOr (tT M (bT f)) (tT M (bT g)) σ H Q:=by
 refine qo2 ?_;have e:bT (bOrV f g)=bOr (bT f) (bT g):=by
  funext ρ;unfold bT bOrV bOr;dsimp only;cases f ρ with
  | no=>rfl
  | exc c=>rfl
  | ok p=>
   obtain ⟨x,d,ρ1⟩:=p;cases x with
   | bl b=>cases b <;> rfl
   | _=>rfl
 rw [<- e];exact hq
theorem qix {Q:Bool->Hp->Prop} (hq:tT M (bT (bUn zpl f)) σ H Q):tNot (tT M (bT f)) σ H Q:=by
 refine qlu ?_;have e:bT (bUn zpl f)=bNot (bT f):=by
  funext ρ;unfold bT bUn bNot;dsimp only;cases f ρ with
  | no=>rfl
  | exc c=>rfl
  | ok p=>
   obtain ⟨x,d,ρ1⟩:=p;cases x with
   | bl b=>cases b <;> rfl
   | _=>rfl
 rw [<- e];exact hq
def Good (P:vb0) (w:vb4) (K:Frag) (mg:Str->Option va2) (base:Heap) (lvl:Nat) (S:Sx) (e:Expr) (f:Fx) (vs:List Nat):Prop:=
 (∀ i∈vs,S.msF i=false)/\zjk e=true/\∀ {Wx} X M,XS X P w K mg base lvl S Wx->MS M K S Wx->PE X e (tE M f vs)/\PT X e (tT M (bT f))
theorem MS.v (m:MS M K S Wx) (h:∀ i∈vs,S.msF i=false):∀ i∈vs,M.Ms i=false:=λ i hi=>by rw [m.ms];exact h i hi
theorem MS.k (m:MS M K S Wx) (xs:XS X P w K mg base lvl S Wx):M.K=X.K:=m.K.trans xs.K.symm
theorem zqy {e:Expr} (h1:∀ i∈vs,S.msF i=false) (h2:zjk e=true) (h3:∀ env whole,isTrue e env whole=(do let v<-whole;standAt e.pos;holding [v] (truthy v)))
  (h:∀ {Wx} X M,XS X P w K mg base lvl S Wx->MS M K S Wx->PE X e (tE M f vs)):Good P w K mg base lvl S e f vs:=
 ⟨h1,h2,λ X M xs m=>⟨h X M xs m,zbj (qm5 (h X M xs m) λ wh=>h3 _ wh) λ σ H Q q=>qcl q⟩⟩
theorem zxk {vs vs':List Nat} (h1:∀ i∈vs,S.msF i=false) (h2:∀ i∈vs',S.msF i=false):∀ i∈vs++vs',S.msF i=false:=λ i hi=>(jd2.mp hi).elim (h1 i) (h2 i)
theorem qg1 {a b:Expr}{op:vn3}{o:PV->Nat->PV->Nat->Option (PV×Nat)}{pos:Pos} (ho:qle b op=some o) (ga:Good P w K mg base lvl S a f vs) (gb:Good P w K mg base lvl S b g vs'):Good P w K mg base lvl S (.Compare a [op] [b] pos) (bBin o f g) (vs++vs'):=by
 refine ⟨zxk ga.1 gb.1,rfl,λ X M xs m=>?_⟩;obtain ⟨r,hr,hn,hi⟩:=qhg (X:=X) (M:=M) (f:=f) (g:=g) (vs:=vs) (vs':=vs') ho xs.room.units (m.v ga.1) (m.k xs);have ha:=(ga.2.2 X M xs m).1;have hb:=(gb.2.2 X M xs m).1;exact ⟨zqr (qj6 hr ha hb hn) hi,zbj (qjt hr ha hb hn) λ σ H Q q=>hi σ H _ (qcl q)⟩
theorem qb5 {a b c:Expr}{op op':vn3}{p q:Int->Int->Bool}{h:Fx}{v3:List Nat}{pos:Pos} (h1:icmp op=some p) (h2:icmp op'=some q) (ga:Good P w K mg base lvl S a f vs) (gb:Good P w K mg base lvl S b g vs') (gc:Good P w K mg base lvl S c h v3):Good P w K mg base lvl S (.Compare a [op,op'] [b,c] pos) (zye p q f g h) []:=by
 refine ⟨λ _ z=>(nomatch z),rfl,λ X M xs m=>?_⟩;have r1:=zfl (X:=X) h1;have r2:=zfl (X:=X) h2;have ha:=(ga.2.2 X M xs m).1;have hb:=(gb.2.2 X M xs m).1;have hc:=(gc.2.2 X M xs m).1;exact ⟨zqr (qgi r1.1 r2.1 ha hb hc (zwt _ r2.2.1 r2.2.2)) λ σ H Q q=>qaf q,zbj (qgc r1.1 r2.1 ha hb hc (zwt _ r2.2.1 r2.2.2)) λ σ H Q q=>qaf (vs:=[]) (qcl q)⟩
theorem qg0 {a:Expr}{pos:Pos} (ga:Good P w K mg base lvl S a f vs):Good P w K mg base lvl S (.UnaryOp .Not a pos) (bUn zpl f) vs:=
 ⟨ga.1,rfl,λ X M xs m=>⟨zqr (qng (ga.2.2 X M xs m).1) λ σ H Q q=>qi7 q,zbj (qm6 (ga.2.2 X M xs m).2) λ σ H Q q=>qix q⟩⟩
theorem zft {d:Expr->Option D2} (hd:∀ e f vs,d e=some (f,vs)->Good P w K mg base lvl S e f vs) {pos:Pos}:∀ (es:List Expr) (f:Fx) (vs:List Nat),qbg d es=some (f,vs)->(∀ i∈vs,S.msF i=false)/\∀ {Wx} X M,XS X P w K mg base lvl S Wx->MS M K S Wx->PE X (.BoolOp .And es pos) (tE M f vs)/\PW X (.BoolOp .And es pos) (tT M (bT f))
 | [],f,vs,h=>by cases h
 | [e],f,vs,h=>by
  have g:=hd e f vs h;exact ⟨g.1,λ X M xs m=>⟨qh3 (g.2.2 X M xs m).1,qjp (g.2.2 X M xs m).2⟩⟩
 | e::e'::es,f,vs,h=>by
  unfold qbg at h;split at h
  ·rename_i f1 v1 f2 v2 h1 h2;cases h;have g1:=hd e f1 v1 h1;have g2:=zft hd (pos:=pos) (e'::es) f2 v2 h2;exact ⟨zxk g1.1 g2.1,λ X M xs m=>⟨zqr (qnk (g1.2.2 X M xs m).1 (g2.2 X M xs m).1) λ σ H Q q=>qi9 q,qhz (qm4 (g1.2.2 X M xs m).2 (g2.2 X M xs m).2) λ σ H Q q=>qiz q⟩⟩
  ·cases h
theorem qbe {d:Expr->Option D2} (hd:∀ e f vs,d e=some (f,vs)->Good P w K mg base lvl S e f vs) {pos:Pos}:∀ (es:List Expr) (f:Fx) (vs:List Nat),qhb d es=some (f,vs)->(∀ i∈vs,S.msF i=false)/\∀ {Wx} X M,XS X P w K mg base lvl S Wx->MS M K S Wx->PE X (.BoolOp .Or es pos) (tE M f vs)/\PW X (.BoolOp .Or es pos) (tT M (bT f))
 | [],f,vs,h=>by cases h
 | [e],f,vs,h=>by
  have g:=hd e f vs h;exact ⟨g.1,λ X M xs m=>⟨qh3 (g.2.2 X M xs m).1,qm3 (g.2.2 X M xs m).2⟩⟩
 | e::e'::es,f,vs,h=>by
  unfold qhb at h;split at h
  ·rename_i f1 v1 f2 v2 h1 h2;cases h;have g1:=hd e f1 v1 h1;have g2:=qbe hd (pos:=pos) (e'::es) f2 v2 h2;exact ⟨zxk g1.1 g2.1,λ X M xs m=>⟨zqr (qpg (g1.2.2 X M xs m).1 (g2.2 X M xs m).1) λ σ H Q q=>qmb q,qhz (qpc (g1.2.2 X M xs m).2 (g2.2 X M xs m).2) λ σ H Q q=>qlt q⟩⟩
  ·cases h
theorem zwb {d:Expr->Option D2} (hd:∀ e f vs,d e=some (f,vs)->Good P w K mg base lvl S e f vs):∀ (es:List Expr) (fa:Fa) (vs:List Nat),zkw d es=some (fa,vs)->(∀ i∈vs,S.msF i=false)/\es.all zjk=true/\∀ {Wx} X M,XS X P w K mg base lvl S Wx->MS M K S Wx->PA X es (tL M fa vs)
 | [],fa,vs,h=>by cases h;exact ⟨λ _ z=>(nomatch z),rfl,λ X M _ _=>qmu⟩
 | e::es,fa,vs,h=>by
  unfold zkw at h;split at h
  ·rename_i f1 v1 f2 v2 h1 h2;cases h;have g1:=hd e f1 v1 h1;have g2:=zwb hd es f2 v2 h2;exact ⟨zxk g1.1 g2.1,by rw [jf9,g1.2.1,g2.2.1];rfl,λ X M xs m=>qjj (m.v g1.1) (g1.2.2 X M xs m).1 (g2.2.2 X M xs m) (zqx (zqm g1.2.1))⟩
  ·cases h
theorem zkl (scope:vd1) (env:Env):vk5 scope env=zxq scope env.scope:=rfl
theorem zvm {x:Str}{k:vc8}{sc:vd1}:∀ (l:List (Str×vc8)),(k=.cell\/k=.free)->(l.map λ (n,k)=>if (k == NameKind.free && sc.kind == .function && sc.names.lookup n == some .cell) then (n,NameKind.cell) else (n,k)).lookup x=some k->(x,NameKind.free)∈l\/(x,NameKind.cell)∈l
 | [],_,h=>by simp at h
 | (n,j)::r,hk,h=>by
  rw [jb7] at h;have ih:=zvm (x:=x) (k:=k) (sc:=sc) r hk;dsimp only at h;by_cases hj:(j == NameKind.free && sc.kind == .function && sc.names.lookup n == some .cell)=true
  ·rw [if_pos hj,jd9] at h;split at h
   ·rename_i hx;rw [ja4,ja4] at hj;have e1:x=n:=eq_of_beq hx;have e2:j=.free:=eq_of_beq hj.1.1;rw [e1,e2];exact .inl ja1
   ·exact (ih h).imp (ja0 _) (ja0 _)
  ·rw [if_neg hj,jd9] at h;split at h
   ·rename_i hx;have e1:x=n:=eq_of_beq hx;have e2:j=k:=Option.some.inj h;rcases hk with z | z
    ·rw [e1,e2,z];exact .inr ja1
    ·rw [e1,e2,z];exact .inl ja1
   ·exact (ih h).imp (ja0 _) (ja0 _)
theorem zzc (sc':vd1):∀ (N:List Str) (i:Nat),(zfm sc' i N).length=N.length
 | [],_=>rfl
 | x::r,i=>by rw [zfm,jb2,zzc sc' r (i + 1),jb2]
structure ChkOk (S:Sx) (scope:vd1) (xs:List Str) (vI:List Nat):Prop where
 kind:scope.kind=.function
 dis:∀ x,(x,NameKind.free)∈scope.names->(x,NameKind.cell)∉scope.names
 names:∀ x∈scope.names,x.2=.local->scope.names.lookup x.1=some .local
 free:∀ x∈scope.names,x.2=.free->S.sc.names.lookup x.1=some .cell\/S.sc.names.lookup x.1=some .free
 capt:∀ (i:Nat) (x:Str),i < S.N.length->(zqv S scope xs vI).N[i]?=some x->Vis (zxq scope S.sc) x->S.N[i]?=some x/\Vis S.sc x/\(x,NameKind.free)∈scope.names/\(zxq scope S.sc).names.lookup x≠some .local
 nd:(zqv S scope xs vI).N.Nodup
 loc:∀ x∈xs,(zxq scope S.sc).names.lookup x=some .local\/((zxq scope S.sc).names.lookup x=some .cell/\(x,NameKind.cell)∈scope.names)
 pos:S.N.length≠0
 ms:∀ i∈S.ms,i < S.N.length
theorem qit {sc:vd1}{x:Str} (h:Vis sc x):visB sc x=true:=by
 unfold visB zwj;rcases h with h | h | h <;> rw [h] <;> simp
theorem qiq {scope:vd1}{xs:List Str}{vI:List Nat} (h:zpy S scope xs vI=true):ChkOk S scope xs vI:=by
 unfold zpy at h;simp only [ja4,decide_eq_true_eq,jc1,bne_iff_ne,ne_eq,je3] at h;obtain ⟨⟨⟨⟨⟨⟨⟨⟨h1,h2⟩,h3⟩,h4⟩,h5⟩,h6⟩,h7⟩,h8⟩,h9⟩:=h;refine ⟨h1,λ x hx hz=>(h2 (x,.free) hx).elim (λ z=>z rfl) λ z=>?_,λ x hx he=>(h3 x hx).elim (λ z=>absurd he z) λ z=>eq_of_beq z,λ x hx he=>(h4 x hx).elim (λ z=>absurd he z) λ z=>z.elim (λ z=>.inl (eq_of_beq z)) λ z=>.inr (eq_of_beq z),λ i x hi e hv=>?_,h6,λ x hx=>(h7 x hx).imp zxx λ z=>⟨zxx z.1,by simpa using z.2⟩,h8,h9⟩
 ·have z':(!(scope.names.contains (x,NameKind.cell)))=true:=z
  have:scope.names.contains (x,NameKind.cell)=true:=by simpa using hz
  rw [this] at z';cases z'
 have q:=h5 i (jd0.mpr hi);rw [e] at q;dsimp only at q;rw [je3] at q;rcases q with q | q
 ·have:visB (zxq scope S.sc) x=true:=qit hv
  have q':(!visB (zxq scope S.sc) x)=true:=q;rw [this] at q';cases q'
 ·simp only [ja4,decide_eq_true_eq,jo3] at q;obtain ⟨⟨⟨q1,q2⟩,q3⟩,q4⟩:=q;refine ⟨q1,qhn q2,by simpa using q3,λ z=>?_⟩
  have:zwj (zxq scope S.sc) x .local=true:=by unfold zwj;rw [z];simp
  have q4':zwj (zxq scope S.sc) x .local=false:=q4;rw [this] at q4';cases q4'
theorem ChkOk.comp {scope:vd1}{ys:List Str}{vI:List Nat} (c:ChkOk S scope ys vI) (xs:XS X P w K mg base lvl S Wx):CompOk X scope (zqv S scope ys vI).N ys.length where
 kind:=c.kind
 dis:=c.dis
 names:=c.names
 len:=by
  show (zfm _ 0 S.N++ys).length=_;rw [jb1,zzc,xs.N]
 free:=λ x hx he=>by
  show X.env.scope.names.lookup x.1=_\/X.env.scope.names.lookup x.1=_;rw [xs.sc];exact c.free x hx he
 kinds:=λ x h=>by
  rcases h with h | h
  ·exact zvm (sc:=X.env.scope) scope.names (.inl rfl) h
  ·exact zvm (sc:=X.env.scope) scope.names (.inr rfl) h
 capt:=λ i x hi e hv=>by
  rw [zkl,xs.sc] at hv ⊢;rw [xs.N] at hi ⊢;exact c.capt i x hi e hv
theorem ChkOk.xs {scope:vd1}{ys:List Str}{vI:List Nat} (c:ChkOk S scope ys vI) (xs:XS X P w K mg base lvl S Wx) (s2:va4) (H2:Hp) (C:Addr) (fp:List Addr) (pins:List (Addr×Obj)):XS (zqo X s2 H2 scope C (zqv S scope ys vI).N fp pins) P w K mg base lvl (zqv S scope ys vI) W0:=
 ⟨xs.prog,xs.w,xs.K,xs.mg,xs.base,rfl,by show vk5 scope X.env=_;rw [zkl,xs.sc];rfl,xs.calm,xs.room,PassesOwn.never,qnl,λ h=>nomatch h⟩
theorem zmb {scope:vd1}{ys:List Str}{vI:List Nat} (i:Nat):(zqv S scope ys vI).alF i=if i < S.N.length then S.alF i else if i < S.N.length + ys.length then vI else []:=by
 unfold Sx.alF zqv;dsimp only;rw [ja6];by_cases h:i < S.N.length
 ·rw [jc2 (by simpa using h),if_pos h];simp [h,Sx.alF,ja6]
 ·rw [jd3 (by simpa using h),if_neg h,jc8];simp only [ja3,je6];by_cases h2:i < S.N.length + ys.length
  ·rw [if_pos h2,if_pos (by omega)];rfl
  ·rw [if_neg h2,if_neg (by omega)];rfl
theorem ChkOk.ms' {scope:vd1}{ys:List Str}{vI:List Nat} (c:ChkOk S scope ys vI) (m:MS M K S Wx) (hv:∀ i∈vI,S.msF i=false) (D:Addr):MS (M.comp D S.N.length vI) K (zqv S scope ys vI) W0 where
 W:=rfl
 K:=m.K
 ms:=m.ms
 al:=λ i hi=>by
  rw [zmb];show (if i < S.N.length then M.al i else vI)=_;have hl:(zqv S scope ys vI).N.length=S.N.length + ys.length:=by
   show (zfm _ 0 S.N++ys).length=_;rw [jb1,zzc]
  rw [hl] at hi;by_cases h:i < S.N.length
  ·rw [if_pos h,if_pos h];exact m.al i h
  ·rw [if_neg h,if_neg h,if_pos hi]
 pn:=λ p hp=>by
  have h:=m.pn p hp;show p.1 < (zfm _ 0 S.N++ys).length;rw [jb1,zzc];omega
 als:=λ i j hj=>by
  have hj':j∈(if i < S.N.length then M.al i else vI):=hj;show M.Ms j=false;by_cases h:i < S.N.length
  ·rw [if_pos h] at hj';exact m.als i j hj'
  ·rw [if_neg h] at hj';rw [m.ms];exact hv j hj'
theorem zvr {n:Nat}{iter:Expr}{env:Env}{f:Fx}{vs:List Nat} (h:(∀ a b c,iter≠.Set a b c)):∀ x,vh7 iter env x=pure x:=by
 intro x;cases iter with
 | Set a b c=>exact absurd rfl (h a b c)
 | _=>rfl
end
section
variable {X:Cx}{P:vb0}{w:vb4}{K:Frag}{mg:Str->Option va2}{base:Heap}{lvl:Nat}{S:Sx}{Wx:St->Nat->Hp->Prop}{M:Fm}{f g:Fx}{vs vs':List Nat}{σ:St}{H:Hp}{Q:VK}
theorem qiv {T:Str}{t:String} (h:tyOf T=some t):t∈isiT/\T∈zvl/\vf9 T=some (.type t)/\(T == ("__debug__" : Str))=false/\T ≠ "__name__" := by
 unfold tyOf at h;split at h
 ·rename_i e;cases h;rw [e];exact ⟨by decide,by decide +kernel,rfl,by decide +kernel,by decide +kernel⟩
 ·split at h
  ·rename_i e;cases h;rw [e];exact ⟨by decide,by decide +kernel,rfl,by decide +kernel,by decide +kernel⟩
  ·split at h
   ·rename_i e;cases h;rw [e];exact ⟨by decide,by decide +kernel,rfl,by decide +kernel,by decide +kernel⟩
   ·split at h
    ·rename_i e;cases h;rw [e];exact ⟨by decide,by decide +kernel,rfl,by decide +kernel,by decide +kernel⟩
    ·split at h
     ·rename_i e;cases h;rw [e];exact ⟨by decide,by decide +kernel,rfl,by decide +kernel,by decide +kernel⟩
     ·split at h
      ·rename_i e;cases h;rw [e];exact ⟨by decide,by decide +kernel,rfl,by decide +kernel,by decide +kernel⟩
      ·cases h
theorem qmr {x:Str}{o:List (PV×Nat)->Option (PV×Nat)}{e:Expr}{es:List Expr}{fa:Fa}{p pos:Pos} (h:qlh x=some o) (xs:XS X P w K mg base lvl S Wx) (m:MS M K S Wx) (hb:∀ x∈zvl,mg x=none) (hg:S.glob x=true) (hs:(e::es).all zjk=true) (ha:PA X (e::es) (tL M fa vs)):
  PE X (.Call (.Name x p) (e::es) [] pos) (tE M (zqc o fa) vs):=by
 rw [jf9,ja4] at hs;have h1:va9 (e::es) X.env=(false,eval e X.env)::va9 es X.env:=zqx (zqm hs.1);have h2:(vg0 pos (va9 es X.env)).any (·.1)=false:=zym hs.2;have hm:∀ x∈zvl,X.mg x=none:=λ x hx=>by rw [xs.mg];exact hb x hx
 unfold qlh at h;split at h
 ·rename_i ex;cases h;subst ex;exact qmm (m.k xs) (xs.gl hg) (hm _ (by decide +kernel)) ha h1 h2
 ·split at h
  ·rename_i ex;cases h;subst ex;exact qms xs.calm (xs.gl hg) (hm _ (by decide +kernel)) ha h1 h2
  ·split at h
   ·rename_i ex;cases h;subst ex;exact qjd xs.calm (xs.gl hg) (hm _ (by decide +kernel)) ha h1 h2
   ·split at h
    ·rename_i ex;cases h;subst ex;exact qjc xs.calm (xs.gl hg) (hm _ (by decide +kernel)) ha h1 h2
    ·split at h
     ·rename_i ex;cases h;subst ex;exact qjf (m.k xs) (xs.gl hg) (hm _ (by decide +kernel)) ha h1 h2
     ·split at h
      ·rename_i ex;cases h;subst ex;exact qji (m.k xs) (xs.gl hg) (hm _ (by decide +kernel)) ha h1 h2
      ·cases h
def IwOk (P:vb0) (w:vb4) (K:Frag) (mg:Str->Option va2) (base:Heap) (lvl:Nat) (S:Sx) (it:Expr) (iw:Iw):Prop:=
 (∀ i∈iw.vs,S.msF i=false)/\(∀ a b c,it≠.Set a b c)/\∀ {Wx} X M,XS X P w K mg base lvl S Wx->MS M K S Wx->∀ tg,(match iw with
  | .rng en fa vs=>(en=zqt/\PI X tg it (qgw (tL M fa vs)))\/(en=zkv/\PI X tg it (qgv (tL M fa vs)))
  | .seq f vs=>PI X tg it (iSeq M.K (tE M f vs))
  | .vw v fa vs=>twOk tg (.vw v fa vs)=true->PI X tg it (iVw v M.K (tL M fa vs)))
theorem qgz {it:Expr} (g:Good P w K mg base lvl S it f vs) (hs:∀ a b c,it≠.Set a b c):IwOk P w K mg base lvl S it (.seq f vs):=
 ⟨g.1,hs,λ X M xs m tg=>by
  show PI X tg it (iSeq M.K (tE M f vs));rw [m.k xs];exact qh2 (g.2.2 X M xs m).1⟩
theorem zpu {d:Expr->Option D2} (hd:∀ e f vs,d e=some (f,vs)->Good P w K mg base lvl S e f vs) (hset:∀ a b c,d (.Set a b c)=none) (hb:∀ x∈zvl,mg x=none) {it:Expr}{iw:Iw} (h:denI d S it=some iw):IwOk P w K mg base lvl S it iw:=by
 have seq:∀ {it:Expr}{iw:Iw},(match d it with
   | some (f,vs)=>some (Iw.seq f vs)
   | none=>none)=some iw->IwOk P w K mg base lvl S it iw:=λ {it iw} h=>by
  cases e:d it with
  | none=>rw [e] at h;cases h
  | some p=>
   obtain ⟨f,vs⟩:=p;rw [e] at h;cases h;exact qgz (hd _ _ _ e) λ a b c z=>by rw [z,hset] at e;cases e
 unfold denI at h;split at h
 ·rename_i x p a pos;split at h
  ·rename_i hc;obtain ⟨rfl,hg⟩:=hc;split at h
   ·rename_i fa vs e;cases h;have g:=zwb hd _ _ _ e;refine ⟨λ _ z=>(nomatch z),λ _ _ _ z=>(nomatch z),λ X M xs m tg=>.inl ⟨rfl,?_⟩⟩;have hs:=g.2.1;simp only [jf9,jm7,jk1] at hs;exact qdl (xs.gl hg) (by rw [xs.mg];exact hb _ (by decide +kernel)) (g.2.2 X M xs m) (zqx (zqm hs))
   ·cases h
  ·split at h
   ·rename_i hc;obtain ⟨rfl,hg⟩:=hc;split at h
    ·rename_i fa vs e;cases h;have g:=zwb hd _ _ _ e;refine ⟨g.1,λ _ _ _ z=>(nomatch z),λ X M xs m tg ht=>?_⟩;have hs:=g.2.1;simp only [jf9,jm7,jk1] at hs;rw [m.k xs];cases tg with
     | Tuple es k tp=>exact qj0 (xs.gl hg) (by rw [xs.mg];exact hb _ (by decide +kernel)) (g.2.2 X M xs m) (zqx (zqm hs))
     | _=>cases ht
    ·cases h
   ·exact seq h
 ·rename_i x p a b pos;split at h
  ·rename_i hc;obtain ⟨rfl,hg⟩:=hc;split at h
   ·rename_i fa vs e;cases h;have g:=zwb hd _ _ _ e;refine ⟨λ _ z=>(nomatch z),λ _ _ _ z=>(nomatch z),λ X M xs m tg=>.inr ⟨rfl,?_⟩⟩;have hs:=g.2.1;simp only [jf9,jm7,jk1,ja4] at hs;have s2:va9 [b] X.env=[(false,eval b X.env)]:=zqx (zqm hs.2);exact qdk (xs.gl hg) (by rw [xs.mg];exact hb _ (by decide +kernel)) (g.2.2 X M xs m) (by rw [zqx (zqm hs.1),s2]) s2
   ·cases h
  ·split at h
   ·rename_i hc;obtain ⟨rfl,hg⟩:=hc;split at h
    ·rename_i fa vs e;cases h;have g:=zwb hd _ _ _ e;refine ⟨g.1,λ _ _ _ z=>(nomatch z),λ X M xs m tg ht=>?_⟩;have hs:=g.2.1;simp only [jf9,jm7,jk1,ja4] at hs;have s2:va9 [b] X.env=[(false,eval b X.env)]:=zqx (zqm hs.2);rw [m.k xs];cases tg with
     | Tuple es k tp=>exact qna (xs.gl hg) (by rw [xs.mg];exact hb _ (by decide +kernel)) (g.2.2 X M xs m) (by rw [zqx (zqm hs.1),s2]) s2
     | _=>cases ht
    ·cases h
   ·exact seq h
 ·exact seq h
theorem qf0 {σ:St}{H:Hp}{Q:Bool->Hp->Prop} (h:∃ M',MS M' K S Wx/\tT M' zxz σ H Q):Q true H:=by
 obtain ⟨M',_,ρ,fps,rep,q⟩:=h;exact q H fps KD.refl Agr.refl rep
structure CompParts (P:vb0) (w:vb4) (K:Frag) (mg:Str->Option va2) (base:Heap) (lvl:Nat) (S:Sx) (scope:vd1) (tg:Expr) (ys:List Str) (asg:PV->Rho->Option Rho) (it elt:Expr) (ifs:List Expr) (iw:Iw) (t:Fb) (g:Fx) (vE:List Nat):Prop where
 tga:tgA S.N.length tg=some (ys,asg)
 two:twOk tg iw=true
 chk:ChkOk S scope ys iw.vs
 iwo:IwOk P w K mg base lvl S it iw
 elt:Good P w K mg base lvl (zqv S scope ys iw.vs) elt g vE
 ifs:∀ {Wx} X M,XS X P w K mg base lvl (zqv S scope ys iw.vs) Wx->MS M K (zqv S scope ys iw.vs) Wx->PTs X ifs (λ σ H Q=>∃ M',MS M' K (zqv S scope ys iw.vs) Wx/\tT M' t σ H Q)
theorem qfc {scope:vd1}{tg:Expr}{ys:List Str}{asg:PV->Rho->Option Rho}{it elt:Expr}{ifs:List Expr}{iw:Iw}{t:Fb}{vE:List Nat} (c:CompParts P w K mg base lvl S scope tg ys asg it elt ifs iw t g vE):∀ i∈iw.vs++vE.filter (λ i=>decide (i < S.N.length)),S.msF i=false:=
 zxk c.iwo.1 λ i hi=>c.elt.1 i (jg1.mp hi).1
theorem zfb {X':Cx}:∀ {es:List Expr}{ys:List Str}{n:Nat},zpn es=some ys->X'.N.Nodup->(∀ j y,ys[j]?=some y->X'.N[n + j]?=some y)->(∀ y∈ys,Loc X'.env.scope y/\(X'.fn y=true\/X'.env.scope.names.lookup y=some .local))->PGs X' es (zbq (jj3 n ys.length))/\(vc7 es X'.env).length=ys.length/\(vc7 es X'.env).findIdx? (·.1)=none
 | [],ys,n,h,_,_,_=>by cases h;exact ⟨qdm,rfl,rfl⟩
 | e::es,ys,n,h,hN,hi,hl=>by
  unfold zpn at h;split at h
  ·cases ‹_::_=[]›
  ·rename_i x px r heq;cases heq;obtain ⟨zs,h2,rfl⟩:=jb8.mp h;have hx:=hl x ja1;obtain ⟨h1,h3,h4⟩:=zfb (n:=n + 1) h2 hN (λ j y e=>by rw [show n + 1 + j=n + (j + 1) by omega];exact hi (j + 1) y (by simpa using e)) λ y hy=>hl y (ja0 _ hy);rw [jb2,jm0];refine ⟨qap (zjg hN (by have:=hi 0 x rfl;simpa using this) hx.1 hx.2) h1 rfl,by rw [vc7,jb2,h3] <;> (intros;contradiction),?_⟩;rw [vc7,jo0,h4] <;> first | rfl | (intros;contradiction)
  ·cases h
theorem zbv {scope:vd1}{tg:Expr}{ys:List Str}{asg:PV->Rho->Option Rho}{pos:Pos}{it elt:Expr}{ifs:List Expr}{iw:Iw}{t:Fb}{vE:List Nat} (c:CompParts P w K mg base lvl S scope tg ys asg it elt ifs iw t g vE) (xs:XS X P w K mg base lvl S Wx) (m:MS M K S Wx):
  ∃ wi gg,PI X tg it wi/\CompOk X scope (zqv S scope ys iw.vs).N ys.length/\(∀ s2 H2 C fp pins,PG (zqo X s2 H2 scope C (zqv S scope ys iw.vs).N fp pins) tg gg) /\
   (∀ s2 H2 C fp pins,PTs (zqo X s2 H2 scope C (zqv S scope ys iw.vs).N fp pins) ifs (λ σ H Q=>∃ M',MS M' K (zqv S scope ys iw.vs) W0/\tT M' t σ H Q)) /\
   (∀ s2 H2 C fp pins,PE (zqo X s2 H2 scope C (zqv S scope ys iw.vs).N fp pins) elt (λ σ H Q=>∃ M',MS M' K (zqv S scope ys iw.vs) W0/\tE M' g vE σ H Q)) /\
   ∀ σ H Q,σ.length=S.N.length->tE M (qfo iw ys.length asg t g) (iw.vs++vE.filter (λ i=>decide (i < S.N.length))) σ H Q ->
    qbr ys.length wi gg (λ σ H Q=>∃ M',MS M' K (zqv S scope ys iw.vs) W0/\tT M' t σ H Q) (λ σ H Q=>∃ M',MS M' K (zqv S scope ys iw.vs) W0/\tE M' g vE σ H Q) σ H Q:=by
 have hvI:=m.v c.iwo.1;have hP:∀ D,MS (M.comp D S.N.length iw.vs) K (zqv S scope ys iw.vs) W0:=λ D=>c.chk.ms' m c.iwo.1 D;have hvE:∀ i∈vE,M.Ms i=false:=λ i hi=>by rw [m.ms];exact c.elt.1 i hi
 have hvo:∀ i,i∈vE->i < S.N.length->i∈iw.vs++vE.filter (λ i=>decide (i < S.N.length)):=λ i h1 h2=>ja5 _ (jg1.mpr ⟨h1,by simpa using h2⟩);have hvo2:=m.v (qfc c);have bd:∀ D i,S.N.length<=i->Bd (M.comp D S.N.length iw.vs) iw.vs i:=λ D i hi=>⟨by
   show M.Ms i=false;rw [m.ms];unfold Sx.msF;cases e:S.ms.contains i with
   | false=>rfl
   | true=>exact absurd (c.chk.ms _ (by simpa using e)) (by omega),⟨λ _=>by have:=c.chk.pos;omega,λ p hp=>by have:=m.pn p hp;omega⟩,if_neg (by omega),(hP D).als⟩
 have hix:∀ j y,ys[j]?=some y->(zqv S scope ys iw.vs).N[S.N.length + j]?=some y:=λ j y e=>by
  show (zfm _ 0 S.N++ys)[S.N.length + j]?=some y;rw [jd3 (by rw [zzc];omega),zzc];simpa using e
 have hloc:∀ s2 H2 C fp pins,∀ y∈ys,Loc (zqo X s2 H2 scope C (zqv S scope ys iw.vs).N fp pins).env.scope y/\((zqo X s2 H2 scope C (zqv S scope ys iw.vs).N fp pins).fn y=true\/(zqo X s2 H2 scope C (zqv S scope ys iw.vs).N fp pins).env.scope.names.lookup y=some .local):=λ s2 H2 C fp pins y hy=>by
  have e:(zqo X s2 H2 scope C (zqv S scope ys iw.vs).N fp pins).env.scope=zxq scope S.sc:=by
   show vk5 scope X.env=_;rw [zkl,xs.sc]
  rw [e];rcases c.chk.loc y hy with z | z
  ·exact ⟨.inl z,.inr z⟩
  ·exact ⟨.inr z.1,.inl (by show scope.names.contains (y,NameKind.cell)=true;simpa using z.2)⟩
 have hpe:∀ s2 H2 C fp pins,PE (zqo X s2 H2 scope C (zqv S scope ys iw.vs).N fp pins) elt (λ σ H Q=>∃ M',MS M' K (zqv S scope ys iw.vs) W0/\tE M' g vE σ H Q):=λ s2 H2 C fp pins pi s σ H Q I ⟨M',m',q⟩=>
  (c.elt.2.2 _ M' (c.chk.xs xs s2 H2 C fp pins) m').1 pi s σ H Q I q
 have hpt:∀ s2 H2 C fp pins,PTs (zqo X s2 H2 scope C (zqv S scope ys iw.vs).N fp pins) ifs (λ σ H Q=>∃ M',MS M' K (zqv S scope ys iw.vs) W0/\tT M' t σ H Q):=λ s2 H2 C fp pins=>c.ifs _ (M.comp 0 S.N.length iw.vs) (c.chk.xs xs s2 H2 C fp pins) (hP 0);have tgp:∃ is gg,(∀ i∈is,S.N.length<=i)/\(∀ D,GOk (M.comp D S.N.length iw.vs) iw.vs is gg asg)/\∀ s2 H2 C fp pins,PG (zqo X s2 H2 scope C (zqv S scope ys iw.vs).N fp pins) tg gg:=by
  have ht:=c.tga;unfold tgA at ht;split at ht
  ·rename_i y py;cases ht;refine ⟨[S.N.length],zkt S.N.length,λ i hi=>by rw [jb4.mp hi];exact ja8 _,λ D=>qer (bd D _ (ja8 _)),λ s2 H2 C fp pins=>?_⟩;exact zjg c.chk.nd (hix 0 y rfl) (hloc s2 H2 C fp pins y (by simp)).1 (hloc s2 H2 C fp pins y (by simp)).2
  ·rename_i es k tp;obtain ⟨zs,h2,e⟩:=jb8.mp ht;cases e;refine ⟨jj3 S.N.length ys.length,gTup M.K ys.length (zbq (jj3 S.N.length ys.length)),λ i hi=>(jo5.mp hi).1,λ D=>?_,λ s2 H2 C fp pins=>?_⟩
   ·have:=qkx (M:=M.comp D S.N.length iw.vs) (al:=iw.vs) (is:=jj3 S.N.length ys.length) λ i hi=>bd D i (jo5.mp hi).1
    rw [List.length_range'] at this;exact this
   ·obtain ⟨h1,h3,h4⟩:=zfb (X':=zqo X s2 H2 scope C (zqv S scope ys iw.vs).N fp pins) (n:=S.N.length) h2 c.chk.nd hix (hloc s2 H2 C fp pins)
    have:=qdn (X:=zqo X s2 H2 scope C (zqv S scope ys iw.vs).N fp pins) (pos:=tp) (k:=k) xs.calm h1 h3 h4
    have e:(zqo X s2 H2 scope C (zqv S scope ys iw.vs).N fp pins).K=M.K:=(m.k xs).symm;rw [e] at this;exact this
  ·cases ht
 obtain ⟨is,gg,his,hg,hpg⟩:=tgp;have hw:=c.iwo.2.2 X M xs m tg;have htw:=c.two;cases iw with
 | rng en fa vs=>
  rcases hw with ⟨rfl,hw⟩ | ⟨rfl,hw⟩
  ·exact ⟨_,gg,hw,c.chk.comp xs,hpg,hpt,hpe,λ σ H Q hl hq=>qf5 hl hP m.als hvI hvE his hg hvo hvo2 hq⟩
  ·exact ⟨_,gg,hw,c.chk.comp xs,hpg,hpt,hpe,λ σ H Q hl hq=>qf4 hl hP m.als hvI hvE his hg hvo hvo2 hq⟩
 | seq f vs=>exact ⟨_,gg,hw,c.chk.comp xs,hpg,hpt,hpe,λ σ H Q hl hq=>qf3 hl hP m.als hvI hvE his hg hvo hvo2 hq⟩
 | vw v fa vs=>exact ⟨_,gg,hw htw,c.chk.comp xs,hpg,hpt,hpe,λ σ H Q hl hq=>by obtain ⟨_,_,_,q⟩:=hq;exact q.elim⟩
theorem qh5 {e:Expr}{t t':TE} (h:PE X e t) (i:∀ σ H Q,σ.length=X.N.length->t' σ H Q->t σ H Q):PE X e t':=λ pins s σ H Q I q=>h pins s σ H Q I (i σ H Q I.len q)
theorem qm8 {e:Stmt}{t t':TS} (h:PS X e t) (i:∀ D σ H,σ.length=X.N.length->t' D σ H->t D σ H):PS X e t':=λ pins s σ H D I q=>h pins s σ H D I (i D σ H I.len q)
theorem qep {scope:vd1}{tg:Expr}{ys:List Str}{asg:PV->Rho->Option Rho}{pos:Pos}{it elt:Expr}{ifs:List Expr}{iw:Iw}{t:Fb}{vE:List Nat} (c:CompParts P w K mg base lvl S scope tg ys asg it elt ifs iw t g vE):Good P w K mg base lvl S (.ListComp elt [⟨tg,it,ifs,0⟩] scope pos) (qfo iw ys.length asg t g) (iw.vs++vE.filter (λ i=>decide (i < S.N.length))):=by
 refine zqy (qfc c) rfl (λ _ _=>rfl) λ X M xs m=>?_;obtain ⟨wi,gg,h1,h2,h3,h4,h5,h6⟩:=zbv (pos:=pos) c xs m;exact qh5 (qdp h2 xs.calm h1 h3 h4 h5 (zvr (n:=0) (f:=g) (vs:=[]) c.iwo.2.1)) λ σ H Q hl q=>h6 σ H Q (by rw [hl,xs.N]) q
theorem zfs {d:Expr->Option D2} (hd:∀ e f vs,d e=some (f,vs)->Good P w K mg base lvl S e f vs) {ifs:List Expr}{t:Fb} (h:qbf d ifs=some t) (X:Cx) (M:Fm) (xs:XS X P w K mg base lvl S Wx) (m:MS M K S Wx):PTs X ifs (λ σ H Q=>∃ M',MS M' K S Wx/\tT M' t σ H Q):=by
 unfold qbf at h;split at h
 ·cases h;intro pins s σ H Q I q;exact qjs pins s σ H Q I (qf0 q)
 ·obtain ⟨p,e,rfl⟩:=jb8.mp h;obtain ⟨f,vs⟩:=p;have g:=hd _ _ _ e;intro pins s σ H Q I ⟨M',m',q⟩;exact qjr (g.2.2 X M' xs m').2 pins s σ H Q I q
 ·cases h
theorem zpt (n:Nat) (S:Sx) (a:List Expr) (b:Nat) (c:Pos):den n S (.Set a b c)=none:=by
 cases n <;> rfl
theorem zbm {e:Expr} (h:zjk e=true) (env:Env) (cpos:Pos):((vg0 cpos (va9 [e] env)).all (λ x=>!x.1) && (backToKw cpos (keywordEach [] env)).all (λ x=>x.1.isSome)
   && decide (([e]:List Expr).length + ([]:List Keyword).length + (if ([]:List Keyword).isEmpty then 0 else 1) < 30))=true:=by
 have:va9 [e] env=[(false,eval e env)]:=zqx (zqm h)
 rw [this];rfl
theorem zfr (GX:GX K mg S.xc) (G:GS P w K mg base lvl S.Γ) (Gm:GSm P w K mg base lvl S.Γm):∀ (n:Nat) (S':Sx) (e:Expr) (f:Fx) (vs:List Nat),S'.Γ=S.Γ->S'.Γm=S.Γm->S'.xc=S.xc->(∀ i,∀ j∈S'.alF i,S'.msF j=false)->den n S' e=some (f,vs)->Good P w K mg base lvl S' e f vs:=by
 intro n;induction n with
 | zero=>intro S' e f vs _ _ _ _ h;cases h
 | succ n ih=>
  intro S' e f vs hΓ hΓm hX hS h;have hd:∀ e f vs,den n S' e=some (f,vs)->Good P w K mg base lvl S' e f vs:=λ e f vs h=>ih S' e f vs hΓ hΓm hX hS h;replace h:zzm (den n) S' e=some (f,vs):=h;unfold zzm at h;split at h
  ·unfold denC at h;split at h
   ·cases h;exact zqy (λ _ z=>(nomatch z)) rfl (λ _ _=>rfl) λ X M xs m=>zqr qdo λ σ H Q q=>zyz (λ K H Z=>by rw [Own];exact ⟨rfl,rfl⟩) q
   ·cases h;exact zqy (λ _ z=>(nomatch z)) rfl (λ _ _=>rfl) λ X M xs m=>zqr qph λ σ H Q q=>zyz (λ K H Z=>by rw [Own];exact ⟨rfl,rfl⟩) q
   ·cases h;exact zqy (λ _ z=>(nomatch z)) rfl (λ _ _=>rfl) λ X M xs m=>zqr qnh λ σ H Q q=>zyz (λ K H Z=>by rw [Own];exact ⟨rfl,rfl⟩) q
   ·cases h;exact zqy (λ _ z=>(nomatch z)) rfl (λ _ _=>rfl) λ X M xs m=>zqr qnf λ σ H Q q=>zyz (λ K H Z=>by rw [Own];exact ⟨rfl,rfl⟩) q
   ·cases h
  ·split at h
   ·rename_i i hi;split at h
    ·cases h
    ·rename_i hm;cases h;refine zqy (λ j hj=>?_) rfl (λ _ _=>rfl) λ X M xs m=>qh5 (xs.var hi) λ σ H Q hl q=>?_
     ·rcases jb6.mp hj with z | z
      ·rw [z];simpa using hm
      ·exact hS i j z
     ·have hlt:i < S'.N.length:=by
       unfold Sx.slot at hi;split at hi
       ·exact (ja9.mp (zyr hi)).1
       ·cases hi
      rw [<- m.al i hlt] at q;exact qhs q
   ·cases h
  ·split at h
   ·rename_i f1 v1 f2 v2 o h1 h2 h3;cases h;have g1:=hd _ _ _ h1;have g2:=hd _ _ _ h2;exact zqy (zxk g1.1 g2.1) rfl (λ _ _=>rfl) λ X M xs m=>qo8 h3 (m.v g1.1) (m.k xs) (g1.2.2 X M xs m).1 (g2.2.2 X M xs m).1
   ·cases h
  ·split at h
   ·rename_i f1 v1 h1;cases h;have g1:=hd _ _ _ h1;exact zqy g1.1 rfl (λ _ _=>rfl) λ X M xs m=>qmj (g1.2.2 X M xs m).1
   ·cases h
  ·split at h
   ·rename_i f1 v1 h1;cases h;exact qg0 (hd _ _ _ h1)
   ·cases h
  ·rename_i es pos;have g:=zft hd (pos:=pos) _ _ _ h;exact ⟨g.1,rfl,λ X M xs m=>⟨(g.2 X M xs m).1,(g.2 X M xs m).2.pt⟩⟩
  ·rename_i es pos;have g:=qbe hd (pos:=pos) _ _ _ h;exact ⟨g.1,rfl,λ X M xs m=>⟨(g.2 X M xs m).1,(g.2 X M xs m).2.pt⟩⟩
  ·split at h
   ·rename_i c v0 f1 v1 g1 v2 h0 h1 h2;cases h;have g0:=hd _ _ _ h0;have ga:=hd _ _ _ h1;have gb:=hd _ _ _ h2;exact ⟨zxk ga.1 gb.1,rfl,λ X M xs m=>⟨qmo (g0.2.2 X M xs m).2 (ga.2.2 X M xs m).1 (gb.2.2 X M xs m).1,zbj (qm7 (g0.2.2 X M xs m).2 (ga.2.2 X M xs m).2 (gb.2.2 X M xs m).2) λ σ H Q q=>qlv q⟩⟩
   ·cases h
  ·split at h
   ·rename_i f1 v1 f2 v2 o h1 h2 h3;cases h;exact qg1 h3 (hd _ _ _ h1) (hd _ _ _ h2)
   ·cases h
  ·split at h
   ·rename_i f1 v1 f2 v2 f3 v3 p q h1 h2 h3 h4 h5;cases h;exact qb5 h4 h5 (hd _ _ _ h1) (hd _ _ _ h2) (hd _ _ _ h3)
   ·cases h
  ·split at h
   ·rename_i fa v h1;cases h;have g:=zwb hd _ _ _ h1;exact zqy g.1 rfl (λ _ _=>rfl) λ X M xs m=>qml (g.2.2 X M xs m)
   ·cases h
  ·split at h
   ·rename_i fa v h1;cases h;have g:=zwb hd _ _ _ h1;exact zqy g.1 rfl (λ _ _=>rfl) λ X M xs m=>qmi (g.2.2 X M xs m)
   ·cases h
  ·cases h;exact zqy (λ _ z=>(nomatch z)) rfl (λ _ _=>rfl) λ X M xs m=>qmp
  ·rename_i a b pos;unfold qih at h;split at h
   ·rename_i lo hi st p2;unfold qii at h;split at h
    ·split at h
     ·rename_i f1 v1 f2 v2 h1 h2;cases h;have g1:=hd _ _ _ h1;have g2:=hd _ _ _ h2;exact zqy g1.1 rfl (λ _ _=>rfl) λ X M xs m=>zqr (qaq (qc1.or qhu) (g1.2.2 X M xs m).1 zgr (zgq (g2.2.2 X M xs m).1)) λ σ H Q q=>qma (lo:=none) (hi:=some (f2,v2)) (m.v g1.1) (m.k xs) q
     ·cases h
    ·split at h
     ·rename_i f1 v1 f2 v2 h1 h2;cases h;have g1:=hd _ _ _ h1;have g2:=hd _ _ _ h2;exact zqy g1.1 rfl (λ _ _=>rfl) λ X M xs m=>zqr (qaq (qc1.or qhu) (g1.2.2 X M xs m).1 (zgq (g2.2.2 X M xs m).1) zgr) λ σ H Q q=>qma (lo:=some (f2,v2)) (hi:=none) (m.v g1.1) (m.k xs) q
     ·cases h
    ·rename_i st;split at h
     ·rename_i hst;obtain ⟨k,p3,p4,rfl⟩:=qeh hst;split at h
      ·rename_i f1 v1 h1;cases h;have g1:=hd _ _ _ h1;exact zqy g1.1 rfl (λ _ _=>rfl) λ X M xs m=>qo7 (m.k xs) (g1.2.2 X M xs m).1
      ·cases h
     ·cases h
    ·cases h
   ·split at h
    ·rename_i x i hx hi;obtain ⟨px,rfl⟩:=qa0 hx;obtain ⟨k,pi,rfl⟩:=qof hi;split at h
     ·rename_i j hj;split at h
      ·cases h
      ·rename_i hm;cases h;have hlt:j < S'.N.length:=by
        unfold Sx.slot at hj;split at hj
        ·exact (ja9.mp (zyr hj)).1
        ·cases hj
       have hv:∀ i∈j::S'.alF j,S'.msF i=false:=λ i hi=>by
        rcases jb6.mp hi with z | z
        ·rw [z];simpa using hm
        ·exact hS j i z
       refine zqy (zxk hv λ _ z=>(nomatch z)) rfl (λ _ _=>rfl) λ X M xs m=>qhw (by have:=xs.room.units;omega) (m.v hv) (m.k xs) (zkm rfl) (zqr (xs.var hj) λ σ H Q q=>?_) (zqr qdo λ σ H Q q=>zyz (λ K H Z=>by rw [Own];exact ⟨rfl,rfl⟩) q);rw [<- m.al j hlt] at q;exact qhs q
     ·cases h
    ·split at h
     ·rename_i f1 v1 f2 v2 h1 h2;split at h
      ·rename_i hn;cases h;have g1:=hd _ _ _ h1;have g2:=hd _ _ _ h2;exact zqy (zxk g1.1 g2.1) rfl (λ _ _=>rfl) λ X M xs m=>qhw (by have:=xs.room.units;omega) (m.v g1.1) (m.k xs) (zkm hn) (g1.2.2 X M xs m).1 (g2.2.2 X M xs m).1
      ·cases h
     ·cases h
  ·split at h
   ·rename_i x p args pos _ hx;subst hx;split at h
    ·rename_i e c;unfold qil at h;split at h
     ·rename_i f1 v1 h1;split at h
      ·rename_i hgi;have g1:=hd _ _ _ h1;split at h
       ·rename_i T pT;have s2:∀ {X:Cx},va9 [Expr.Name T pT] X.env=[(false,eval (.Name T pT) X.env)]:=rfl;split at h
        ·rename_i t h2;split at h
         ·rename_i hg;cases h;obtain ⟨t1,t2,t3,t4,t5⟩:=qiv h2;refine zqy g1.1 rfl (λ _ _=>rfl) λ X M xs m=>?_;exact qmn (x:=T) t1 (m.k xs) (g1.2.2 X M xs m).1 (xs.gl hgi) (by rw [xs.mg];exact G.1 _ (by decide +kernel)) (qj7 (xs.gl hg) (by rw [xs.mg];exact G.1 _ t2) t3 rfl t5 t4) (by rw [zqx (zqm g1.2.1),s2]) s2
         ·cases h
        ·cases h
       ·cases h
      ·cases h
     ·cases h
    ·cases h
   ·split at h
    ·rename_i a ha;split at h
     ·rename_i f1 v1 h1;split at h
      ·rename_i hc;cases h;obtain ⟨rfl,p2,pos2,rfl⟩:=qkj ha;have g1:=hd _ _ _ h1;exact zqy g1.1 rfl (λ _ _=>rfl) λ X M xs m=>qjg (m.k xs) xs.calm (xs.gl hc.1) (by rw [xs.mg];exact G.1 _ (by decide +kernel)) (xs.gl hc.2) (by rw [xs.mg];exact G.1 _ (by decide +kernel)) (by rw [zqx (zqm g1.2.1)];rfl) (g1.2.2 X M xs m).1
      ·cases h
     ·cases h
    split at h
    ·rename_i o ho;split at h
     ·rename_i e es;split at h
      ·rename_i fa v h1;split at h
       ·rename_i hg;cases h;have g:=zwb hd _ _ _ h1;exact zqy g.1 rfl (λ _ _=>rfl) λ X M xs m=>qmr ho xs m G.1 hg g.2.1 (g.2.2 X M xs m)
       ·cases h
      ·cases h
     ·cases h
    ·split at h
     ·rename_i x p args pos _ _ _ _ nn F hF;split at h
      ·rename_i e es;split at h
       ·rename_i fa v h1;split at h
        ·rename_i hg;cases h;have g:=zwb hd _ _ _ h1;rw [hΓ] at hF;obtain ⟨d1,d2,fa',fd,ps,d3,d4,d5,d6,d7⟩:=G.2 _ _ _ _ hF;refine zqy g.1 rfl (λ _ _=>rfl) λ X M xs m=>?_;have hs:=g.2.1;rw [jf9,ja4] at hs;obtain ⟨xp,xw,xK,xm,xb,_,_,_,xr,_⟩:=id xs;subst xp xw xK xm xb;have mk:M.K=X.K:=m.K;have hps:=xs.ps;rw [<- m.W] at hps;refine zqr (qgj d7 xr (xs.gl hg) d3 d4 d5 hps (g.2.2 X M xs m) d1 (zqx (zqm hs.1)) (zym hs.2)) λ σ H Q q=>?_
         have:=qi8 d2 q
         rw [mk] at this;exact this
        ·cases h
       ·cases h
      ·cases h
     ·cases h
     ·cases h
  ·split at h
   ·rename_i elt tg it ifs scope pos _ _ ys asg iw ht hi;split at h
    ·rename_i hc;split at h
     ·rename_i t g vE h1 h2;cases h;have ck:=qiq hc.1;have giw:=zpu hd (zpt n S') G.1 hi;have hS2:∀ i,∀ j∈(zqv S' scope ys iw.vs).alF i,(zqv S' scope ys iw.vs).msF j=false:=λ i j hj=>by
       rw [zmb] at hj;show S'.msF j=false;split at hj
       ·exact hS i j hj
       ·split at hj
        ·exact giw.1 j hj
        ·cases hj
      have hd2:∀ e f vs,den n (zqv S' scope ys iw.vs) e=some (f,vs)->Good P w K mg base lvl (zqv S' scope ys iw.vs) e f vs:=λ e f vs h=>ih _ e f vs hΓ hΓm hX hS2 h;exact qep ⟨ht,hc.2,ck,giw,hd2 _ _ _ h2,zfs hd2 h1⟩
     ·cases h
    ·cases h
   ·cases h
  ·cases h
end
section
variable {is:List Nat}{M:Fm}{ρ ρ':Rho}{σ σ':St}{H H' H'':Hp}{fps fps' fps'':Fps}{vs vs':List Nat}
def sNo:Fs:=λ _=>.no
theorem ql1 {t:TS}{D:Ends} (hq:tS M sNo D σ H):t D σ H:=by
 obtain ⟨ρ,fps,rep,q⟩:=hq;exact q.elim
def sUnp (asg:PV->Rho->Option Rho) (f:Fx) (vs:List Nat):Fs:=λ ρ=>match f ρ with
 | .ok (x,d,ρ1)=>(match asg x (zqp d vs ρ1) with
  | some ρ2=>.nx ρ2
  | none=>.no)
 | .exc c=>.exc c
 | .no=>.no
theorem qly {g:TG}{asg:PV->Rho->Option Rho}{f:Fx}{D:Ends} (hal:∀ i,M.al i=[]) (hv:∀ i∈vs,M.Ms i=false) (hg:GOk M [] is g asg) (hq:tS M (sUnp asg f vs) D σ H):tAsg (tE M f vs) g D σ H:=by
 obtain ⟨ρ,fps,rep,q⟩:=hq;refine ⟨ρ,fps,rep,?_⟩;unfold sUnp at q;cases ef:f ρ with
 | no=>rw [ef] at q;exact q
 | exc c=>rw [ef] at q;exact λ H' fps' k=>q _ H' fps' k.ks
 | ok p=>
  obtain ⟨x,d,ρ1⟩:=p;rw [ef] at q;intro v H1 fps1 f1 k1 g1 rep1 o1 t1;obtain ⟨fps2,k2,r2,o2⟩:=Rep.seen rep k1 g1 rep1 o1 t1 hal hv;dsimp only at q;cases ea:asg x (zqp d vs ρ1) with
  | none=>rw [ea] at q;exact q.elim
  | some ρ2=>
   rw [ea] at q;refine hg x v _ σ H1 fps2 ρ2 _ r2 (o2.weak λ a h=>h.zf) ea λ σ' fps' s1 _ _ r'=>q σ' H1 fps' (k2.trans ⟨λ _ _ h _=>h,λ _ h=>h,λ j a ha=>.inl ⟨j,s1 j a ha⟩⟩) r'
theorem Rep.change {i:Nat}{x x':PV}{d d':Nat}{v:V}{f':List Addr} (hal:∀ i,M.al i=[]) (r:Rep M ρ σ H fps) (hi:ρ[i]?=some (some (x,d))) (hσ:σ[i]?=some (some v)) (k:Keep (λ a=>a∈fps i) H H') (dm:∀ a,H a≠none->H' a≠none) (hs:∀ b∈f',b∈fps i)
  (hm:M.Ms i=true->d'=om) (o:Own M.K H' (Zf M (λ j=>if j=i then f' else fps j)) x' d' v f'):Rep M (ρ.set i (some (x',d'))) σ H' (λ j=>if j=i then f' else fps j):=by
 have hlen:i < ρ.length:=(ja9.mp hi).1;have inI:∀ j,∀ b∈(if j=i then f' else fps j),b∈fps j:=λ j b hb=>by
  by_cases e:j=i
  ·rw [if_pos e] at hb;rw [e];exact hs b hb
  ·rw [if_neg e] at hb;exact hb
 refine ⟨λ j y c hj=>?_,λ j hj=>?_,λ j k hjk b hb hc=>r.dj j k hjk b (inI j b hb) (inI k b hc),λ j b hb z=>r.zo j b (inI j b hb) z,λ j hj b hb=>r.fr j hj b (inI j b hb),λ b z=>dm b (r.zd b z),by rw [je8];exact r.len,λ j y c hj hc=>?_,λ b z=>dm b (r.h0 b z),r.iov⟩
 ·by_cases ej:j=i
  ·subst ej;rw [jc6 hlen] at hj;cases hj;refine ⟨v,hσ,?_⟩;rw [if_pos rfl];exact o.weak λ a h=>h.zf
  ·rw [jc0 (vb6 ej)] at hj;obtain ⟨u,hu,ou⟩:=r.own j y c hj;refine ⟨u,hu,?_⟩;rw [if_neg ej];refine Own.move (S:=λ a=>a∈fps i) k (λ a ha=>⟨.inr ⟨i,(by rw [hal j];intro z;cases z),ha⟩,r.lsts ha⟩) (λ a _ nz z=>nz ?_) y c u (fps j) (λ a ha z=>r.dj j i ej a ha z) ou;rcases z with z | ⟨l,nl,z⟩
   ·exact .inl z
   ·exact .inr ⟨l,nl,inI l a z⟩
 ·by_cases ej:j=i
  ·subst ej;exact absurd (jc6 hlen) (hj (x',d'))
  ·rw [if_neg ej];exact r.non j λ p hp=>hj p (by rw [jc0 (vb6 ej)];exact hp)
 ·by_cases ej:j=i
  ·subst ej;rw [jc6 hlen] at hc;cases hc;exact hm hj
  ·rw [jc0 (vb6 ej)] at hc;exact r.msf j y c hj hc
def sExt (i:Nat) (f:Fx) (vs:List Nat):Fs:=λ ρ=>match ρ[i]? with
 | some (some (.lst _,0))=>.no
 | some (some (.lst _,_ + 1))=>(match f ρ with
  | .ok (.lst ys,e,ρ1)=>(match (zqp e vs ρ1)[i]? with
   | some (some (.lst xs,d))=>if d≠0/\xs.length + ys.length<=va6 then .nx ((zqp e vs ρ1).set i (some (.lst (xs++ys),1))) else .no
   | _=>.no)
  | .ok _=>.no
  | .exc c=>.exc c
  | .no=>.no)
 | _=>.no
theorem ql3 {f:Fx}{i:Nat}{D:Ends} (hal:∀ i,M.al i=[]) (hv:∀ i∈vs,M.Ms i=false) (hm:M.Ms i=false) (hq:tS M (sExt i f vs) D σ H):qf6 (tBM M.K "list" qdb (tVar i) (qf7 (tE M f vs) tNil)) D σ H:=by
 obtain ⟨ρ,fps,rep,q⟩:=hq;unfold sExt at q;split at q
 ·exact q.elim
 ·rename_i xs0 d0 e0;obtain ⟨v,hσ,o⟩:=rep.own0 hal i _ _ e0;obtain ⟨a,ws0,fc0,rfl,ha0,hfp0,_,_⟩:=o.list (jl9 _);refine ⟨_,hσ,qcg (.inl (.inl ha0)),ρ,fps,rep,?_⟩;cases ef:f ρ with
  | no=>rw [ef] at q;exact q
  | exc c=>rw [ef] at q;exact λ H' fps' k=>q _ H' fps' k.ks
  | ok p=>
   obtain ⟨y,e,ρ1⟩:=p;rw [ef] at q;cases y with
   | lst ys=>
    intro w H1 fps1 fp k1 g1 rep1 o1 t1;dsimp only at q;split at q
    ·rename_i xs d es;split at q
     ·rename_i hc;obtain ⟨fps2,k2,r2,o2,n2,s2,h2⟩:=Rep.behind rep k1 g1 rep1 o1 t1 hal hv;obtain ⟨v',hσ',ol⟩:=r2.own0 hal i _ _ es;rw [hσ] at hσ';cases hσ';obtain ⟨a',ws,fc,ev,ha,hfp,nac,hol⟩:=ol.list hc.1;cases ev;have hai:a∈fps2 i:=by rw [hfp];exact ja1
      have hafp:a∉fp:=λ z=>n2 a z (.inr ⟨i,hai⟩);have hst:∃ j,a∈fps j:=⟨i,by have:=s2 i a hai;rw [k1.same i hm] at this;exact this⟩
      have zsub:∀ b,Zf M (λ j=>if j=i then [a] else fps2 j) b->Zf (M.plus fp) fps2 b:=λ b h=>by
       rcases h with z | ⟨j,z⟩
       ·exact .inl (.inl z)
       ·by_cases ej:j=i
        ·simp only [if_pos ej] at z;rw [jb4.mp z];exact .inr ⟨i,hai⟩
        ·simp only [if_neg ej] at z;exact .inr ⟨j,z⟩
      have nf:∀ b∈fc,¬ Zf M (λ j=>if j=i then [a] else fps2 j) b:=λ b hb z=>by
       have hbi:b∈fps2 i:=by rw [hfp];exact ja0 _ hb
       rcases z with z | ⟨j,z⟩
       ·exact r2.zo i b hbi (.inl z)
       ·by_cases ej:j=i
        ·simp only [if_pos ej] at z;rw [jb4.mp z] at hb;exact nac hb
        ·simp only [if_neg ej] at z;exact r2.dj i j (vb6 ej) b hbi z
      have nfp:∀ b∈fp,¬ Zf M (λ j=>if j=i then [a] else fps2 j) b:=λ b hb z=>by
       rcases z with z | ⟨j,z⟩
       ·exact n2 b hb (.inl z)
       ·by_cases ej:j=i
        ·simp only [if_pos ej] at z;rw [jb4.mp z] at hb;exact hafp hb
        ·simp only [if_neg ej] at z;exact n2 b hb (.inr ⟨j,z⟩)
      have za:Zf M (λ j=>if j=i then [a] else fps2 j) a:=.inr ⟨i,by simp⟩;have u1:=(OwnL.freeze (Z':=Zf M (λ j=>if j=i then [a] else fps2 j)) zsub xs _ ws fc nf hol)
      have u2:=(Own.freeze (Z':=Zf M (λ j=>if j=i then [a] else fps2 j)) (λ b h=>by
       rcases h with z | ⟨j,z⟩
       ·exact .inl (.inl z)
       ·by_cases ej:j=i
        ·simp only [if_pos ej] at z;rw [jb4.mp z];exact .inl (.inr ⟨i,hai⟩)
        ·simp only [if_neg ej] at z;exact .inl (.inr ⟨j,z⟩)) (.lst ys) _ w fp nfp o2)
      obtain ⟨b,us,rfl,hb,u3⟩:=u2.coldL;refine ⟨a,b,ws,us,rfl,rfl,ha,hb,by rw [hol.length,u3.length];exact hc.2,?_⟩;refine q σ _ _ (k2.write (i:=i) (f':=[]) (fp:=fp) hst λ b hb=>?_) (r2.rewrite hal es hσ ha hfp (λ z=>nomatch z) (λ b hb=>nomatch hb) (by decide) (λ h=>by rw [hm] at h;cases h) h2 ?_)
      ·rcases jb6.mp hb with z | z
       ·exact .inl (by rw [z];exact hai)
       ·cases z
      ·rw [zbk];exact OwnL.append0 (u3.at za ⟨.l ws,ha⟩ (λ z=>nomatch z) λ _ _ n=>n) (u1.at za ⟨.l ws,ha⟩ (λ z=>nomatch z) λ _ _ n=>n)
     ·exact q.elim
    ·exact q.elim
   | _=>exact q.elim
 ·exact q.elim
def sAug (g:Int->Int->Int) (sd:Bool) (i:Nat) (f:Fx):Fs:=λ ρ=>match ρ[i]? with
 | some (some (.int a,_))=>(match f ρ with
  | .ok (.int b,_,ρ1)=>if i < ρ1.length then .nx (ρ1.set i (some (.int (g a b),om))) else .no
  | .ok _=>.no
  | .exc c=>.exc c
  | .no=>.no)
 | some (some (.str a,_))=>(match f ρ with
  | .ok (.str b,_,ρ1)=>if i < ρ1.length/\sd=true/\a.length + b.length<=va6 then .nx (ρ1.set i (some (.str (a++b),om))) else .no
  | .ok _=>.no
  | .exc c=>.exc c
  | .no=>.no)
 | _=>.no
def ipS (g:Int->Int->Int) (sd:Bool):TIp:=λ x y H Q=>ipI g x y H Q\/(sd=true/\∃ i j,x=.str i/\y=.str j/\i.length + j.length<=va6/\Q (.str (i++j)) H)
theorem qkr {X:Cx}:PIp X .Add (ipS (λ i j=>i + j) true):=by
 intro pins s σ H x y v u Q I rx ry h;rcases h with h | ⟨_,h⟩
 ·exact qid pins s σ H x y v u Q I rx ry h
 ·exact zhh pins s σ H x y v u Q I rx ry h
theorem qkq {X:Cx}:PIp X .Sub (ipS (λ i j=>i - j) false):=by
 intro pins s σ H x y v u Q I rx ry h;rcases h with h | ⟨z,_⟩
 ·exact qic pins s σ H x y v u Q I rx ry h
 ·cases z
theorem ql4 {g:Int->Int->Int}{sd:Bool}{f:Fx}{i:Nat}{D:Ends} (hal:∀ i,M.al i=[]) (hm:M.Ms i=false) (hio:M.Fre i) (hq:tS M (sAug g sd i f) D σ H):tAug i (tE M f vs) (ipS g sd) D σ H:=by
 obtain ⟨ρ,fps,rep,q⟩:=hq;unfold sAug at q;split at q
 ·rename_i a d0 e0;obtain ⟨v,hσ,o⟩:=rep.own0 hal i _ _ e0;rw [Own] at o;obtain ⟨rfl,_⟩:=o;refine ⟨_,hσ,ρ,fps,rep,?_⟩;cases ef:f ρ with
  | no=>rw [ef] at q;exact q
  | exc c=>rw [ef] at q;exact λ H' fps' k=>q _ H' fps' k.ks
  | ok p=>
   obtain ⟨y,e,ρ1⟩:=p;rw [ef] at q;cases y with
   | int b=>
    intro w H1 fps1 fp k1 g1 rep1 o1 t1;rw [Own] at o1;obtain ⟨rfl,_⟩:=o1;refine .inl ⟨a,b,rfl,rfl,?_⟩;dsimp only at q;split at q
    ·rename_i hl;have bd:Bd M [] i:=⟨hm,hio,hal i,λ i j hj=>by rw [hal i] at hj;cases hj⟩
     have r2:=rep1.bind1 (y:=.int (g a b)) (v:=.int (g a b)) (al:=[]) (by rw [Own];exact ⟨rfl,rfl⟩) hl bd;refine q _ H1 _ (k1.ks.trans ⟨λ _ _ h _=>h,λ _ h=>h,λ j b hb=>.inl ⟨j,?_⟩⟩) r2;by_cases ej:j=i
     ·simp only [if_pos ej] at hb;cases hb
     ·simp only [if_neg ej] at hb;exact hb
    ·exact q.elim
   | _=>exact q.elim
 ·rename_i a d0 e0;obtain ⟨v,hσ,o⟩:=rep.own0 hal i _ _ e0;rw [Own] at o;obtain ⟨rfl,_⟩:=o;refine ⟨_,hσ,ρ,fps,rep,?_⟩;cases ef:f ρ with
  | no=>rw [ef] at q;exact q
  | exc c=>rw [ef] at q;exact λ H' fps' k=>q _ H' fps' k.ks
  | ok p=>
   obtain ⟨y,e,ρ1⟩:=p;rw [ef] at q;cases y with
   | str b=>
    intro w H1 fps1 fp k1 g1 rep1 o1 t1;rw [Own] at o1;obtain ⟨rfl,_⟩:=o1;dsimp only at q;split at q
    ·rename_i hl;refine .inr ⟨hl.2.1,a,b,rfl,rfl,hl.2.2,?_⟩;have bd:Bd M [] i:=⟨hm,hio,hal i,λ i j hj=>by rw [hal i] at hj;cases hj⟩
     have r2:=rep1.bind1 (y:=.str (a++b)) (v:=.str (a++b)) (al:=[]) (by rw [Own];exact ⟨rfl,rfl⟩) hl.1 bd;refine q _ H1 _ (k1.ks.trans ⟨λ _ _ h _=>h,λ _ h=>h,λ j b hb=>.inl ⟨j,?_⟩⟩) r2;by_cases ej:j=i
     ·simp only [if_pos ej] at hb;cases hb
     ·simp only [if_neg ej] at hb;exact hb
    ·exact q.elim
   | _=>exact q.elim
 ·exact q.elim
end
theorem qg3 {X:Cx}:PGet X (rIxL X.K):=by
 intro pins s σ H o i ov iv Q I rx ry h;obtain ⟨p,xs,k,z,rfl,rfl,hq,he,q⟩:=h;cases rx;obtain ⟨t,rfl⟩:=ry;obtain ⟨its,r,pl,hz⟩:=I.list hq;obtain ⟨j,h1,h2,h3,h4,h5⟩:=zma he;obtain ⟨w,ew,rw'⟩:=r.get h2;have hl:=r.length;have hn:=zjn;have fin:EP X pins σ Q w s:=⟨z,H,I,rw',q⟩
 by_cases h0:0<=k
 ·have hj:k.toNat=j:=by
   rw [vm1 h0 h5] at h1;exact Option.some.inj h1
  exact wpAny_getItem_list pl.isList h0 (by omega) (by rw [hj];simpa using ew) fin
 ·have hj:(k + (its.toArray.size:Int)).toNat=j:=by
   rw [seqIndex_neg (by omega) h4] at h1;rw [jb5,<- hl];exact Option.some.inj h1
  exact wpAny_getItem_list_neg pl.isList (by omega) (by rw [jb5] <;> omega) (by omega) (by rw [hj];simpa using ew) fin
section
variable {M:Fm}{ρ ρ':Rho}{σ σ':St}{H H' H'':Hp}{fps fps' fps'':Fps}{vs vs':List Nat}
end
section
variable {is:List Nat}{M:Fm}{ρ ρ':Rho}{σ σ':St}{H H' H'':Hp}{fps fps' fps'':Fps}{vs vs':List Nat}{D:Ends}
end
section
variable {is:List Nat}{M:Fm}{ρ ρ':Rho}{σ σ':St}{H H' H'':Hp}{fps fps' fps'':Fps}{vs vs':List Nat}{D:Ends}
end
section
variable {is:List Nat}{X:Cx}{M:Fm}{ρ ρ':Rho}{σ σ':St}{H H' H'':Hp}{fps fps' fps'':Fps}{vs vs':List Nat}{D:Ends}
def qm2:TSet:=λ o i v H Q=>∃ a H',o=.ref a/\DPut H a i v H'/\Q H'
def qpa:TSet:=λ o i v H Q=>qjo o i v H Q\/qm2 o i v H Q
theorem qo6 (hu:X.A.units + 1 < vl6):PSet X qm2:=by
 intro pins s σ H o i v ov iv u Q I ro ri rv h;obtain ⟨a,H',rfl,g,q⟩:=h;obtain rfl:ov=Value.ref a:=ro;exact qe5 hu I g ri rv λ s' I'=>⟨H',I',q⟩
theorem PSet.or {t t':TSet} (h:PSet X t) (h':PSet X t'):PSet X (λ o i v H Q=>t o i v H Q\/t' o i v H Q):=by
 intro pins s σ H o i v ov iv u Q I ro ri rv q;rcases q with q | q
 ·exact h pins s σ H o i v ov iv u Q I ro ri rv q
 ·exact h' pins s σ H o i v ov iv u Q I ro ri rv q
theorem qmv {K:Frag}{Z:Addr->Prop}{y:PV}{u:V}{d:Nat}{w:V}{fp:List Addr} (h:sV y=some u) (o:Own K H Z y d w fp):w=u/\zgd y=true:=by
 cases y <;> cases h <;> (rw [Own] at o;exact ⟨o.1,rfl⟩)
def putX (x:PV) (k y:PV):Option PV:=match x,k with
 | .lst xs,.int i=>(match ixN xs.length i with
  | some j=>some (.lst (xs.set j y))
  | none=>none)
 | .dct kvs,.tup ks=>(match keyL ks,sV y with
  | some k,some u=>if kvs.length < va6 then some (.dct (putK kvs k u)) else none
  | _,_=>none)
 | _,_=>none
def zpq (k:List Key) (y:PV):List (List Key)->List PV->List PV
 | k'::ks,x::xs=>(if k'=k then y else x)::zpq k y ks xs
 | _,_=>[]
def hasK (ks:List (List Key)) (k:List Key):Bool:=ks.any λ k'=>decide (k'=k)
def zkc (ks:List (List Key)) (xs:List PV) (k:List Key) (y:PV):PV:=if hasK ks k=true then .dcl ks (zpq k y ks xs) else .dcl (ks++[k]) (xs++[y])
def qn6:PV->Option (List (List Key)×List PV)
 | .dct []=>some ([],[])
 | .dcl ks xs=>some (ks,xs)
 | _=>none
theorem zfi {K:Frag}{Z:Addr->Prop}{k:List Key}{y:PV}{w:V} (hy:Own K H Z y 0 w []):∀ {ks:List (List Key)}{xs:List PV}{ws:List V},OwnL K H Z xs 0 ws []->ks.length=xs.length->∃ ws',(ks.zip ws).map (λ kv=>if kv.1=k then (kv.1,w) else kv)=ks.zip ws'/\OwnL K H Z (zpq k y ks xs) 0 ws' []/\(zpq k y ks xs).length=ks.length
 | [],[],ws,h,_=>⟨[],rfl,by unfold zpq;rw [OwnL];exact ⟨rfl,rfl⟩,rfl⟩
 | [],_::_,ws,h,e=>by cases e
 | _::_,[],ws,h,e=>by cases e
 | k'::ks,x::xs,ws,h,e=>by
  rw [OwnL] at h;obtain ⟨v,s,f1,f2,rfl,ef,_,o1,o2⟩:=h;obtain ⟨rfl,rfl⟩:f1=[]/\f2=[]:=by simpa using ef.symm
  obtain ⟨ws',e1,o3,e3⟩:=zfi hy (k:=k) o2 (by simpa using e);refine ⟨(if k'=k then w else v)::ws',?_,?_,by unfold zpq;rw [jb2,e3,jb2]⟩
  ·rw [ji7,jb7,e1,ji7];congr 1;dsimp only;split <;> rfl
  ·unfold zpq;rw [OwnL];refine ⟨_,_,[],[],rfl,rfl,λ _ z=>(nomatch z),?_,o3⟩;split
   ·exact hy
   ·exact o1
theorem qce {k:List Key}:∀ {ks:List (List Key)}{ws:List V},ks.length=ws.length->((ks.zip ws).any λ kv=>decide (kv.1=k))=hasK ks k
 | [],[],_=>rfl
 | [],_::_,e=>by cases e
 | _::_,[],e=>by cases e
 | k'::ks,w::ws,e=>by
  have:=qce (k:=k) (ks:=ks) (ws:=ws) (by simpa using e)
  unfold hasK at this ⊢;rw [ji7,jk0,jk0,this]
theorem qb8 {K:Frag}{Z:Addr->Prop}{k:List Key}{y:PV}{w:V}{ks:List (List Key)}{xs:List PV}{ws:List V} (hy:Own K H Z y 0 w []) (h:OwnL K H Z xs 0 ws []) (e:ks.length=xs.length):∃ ks' xs' ws',zkc ks xs k y=.dcl ks' xs'/\putK (ks.zip ws) k w=ks'.zip ws'/\OwnL K H Z xs' 0 ws' []/\ks'.length=xs'.length:=by
 unfold zkc putK;rw [qce (by rw [e,h.length])];by_cases hk:hasK ks k=true
 ·rw [if_pos hk,if_pos hk];obtain ⟨ws',e1,o1,e2⟩:=zfi hy (k:=k) h e;exact ⟨ks,_,ws',rfl,e1,o1,e2.symm⟩
 ·rw [if_neg hk,if_neg hk];refine ⟨_,_,ws++[w],rfl,?_,?_,by rw [jb1,jb1,e];rfl⟩
  ·rw [List.zip_append (by rw [e,h.length])];rfl
  ·have:=h.snoc hy (λ _ z=>nomatch z)
   exact this
def isL:PV->Bool
 | .lst _=>true
 | _=>false
def zwd (i:Nat) (fk f:Fx):Fs:=λ ρ=>match f ρ with
 | .ok (y,e,ρ1)=>(match ρ1[i]? with
  | some (some _)=>(match fk ρ1 with
   | .ok (k,_,ρ2)=>(match ρ2[i]? with
    | some (some (x,d))=>(match putX x k y with
     | some x'=>if d≠0/\qev y=true then .nx (ρ2.set i (some (x',d))) else if d≠0/\e=om/\isL x=true then .nx (ρ2.set i (some (x',1))) else .no
     | none=>match qn6 x,k with
      | some (ks,xs),.tup key=>(match keyL key with
       | some kk=>if d≠0/\e=om/\ks.length < va6 then .nx (ρ2.set i (some (zkc ks xs kk y,1))) else .no
       | none=>.no)
      | _,_=>.no)
    | _=>.no)
   | _=>.no)
  | _=>.no)
 | .exc c=>.exc c
 | .no=>.no
theorem Rep.poke {i:Nat}{x x':PV}{d:Nat}{a:Addr}{o':HO}{f':List Addr}{H0:Hp}{fps0:Fps} (hal:∀ i,M.al i=[]) (k0:KS M H0 fps0 H fps) (r:Rep M ρ σ H fps) (hi:ρ[i]?=some (some (x,d))) (hσ:σ[i]?=some (some (.ref a))) (ha:a∈fps i) (hs:∀ b∈f',b∈fps i)
  (o:Own M.K (upd H a o') (Zf M (λ j=>if j=i then f' else fps j)) x' d (.ref a) f'):KS M H0 fps0 (upd H a o') (λ j=>if j=i then f' else fps j)/\Rep M (ρ.set i (some (x',d))) σ (upd H a o') (λ j=>if j=i then f' else fps j):=by
 have dm:∀ b,H b≠none->upd H a o' b≠none:=λ b hb=>by
  by_cases eb:b=a
  ·rw [eb,zqe];simp
  ·rw [zqg eb];exact hb
 refine ⟨⟨λ b u hb n=>?_,λ b hb=>dm b (k0.dom b hb),λ j b hb=>?_⟩,r.change hal hi hσ (λ b u hb n=>?_) dm hs (λ h=>r.msf i _ _ h hi) o⟩
 ·have hb1:=k0.keep b u hb n;rw [zqg]
  ·exact hb1
  ·rintro rfl;rcases k0.sub i b ha with z | z
   ·exact n z
   ·rw [z] at hb;cases hb
 ·by_cases ej:j=i
  ·simp only [if_pos ej] at hb;exact k0.sub i b (hs b hb)
  ·simp only [if_neg ej] at hb;exact k0.sub j b hb
 ·rw [zqg]
  ·exact hb
  ·rintro rfl;exact n ha
theorem qi1 {f fk:Fx}{vk:List Nat}{i:Nat} (hal:∀ i,M.al i=[]) (hm:M.Ms i=false) (hv:∀ i∈vs,M.Ms i=false) (hq:tS M (zwd i fk f) D σ H):tAsg (tE M f vs) (gSub (tVar i) (tE M fk vk) qpa) D σ H:=by
 obtain ⟨ρ,fps,rep,q⟩:=hq;refine ⟨ρ,fps,rep,?_⟩;unfold zwd at q;cases ef:f ρ with
 | no=>rw [ef] at q;exact q
 | exc c=>rw [ef] at q;exact λ H' fps' k=>q _ H' fps' k.ks
 | ok p=>
  obtain ⟨y,e,ρ1⟩:=p;rw [ef] at q;intro w H1 fps1 fp k1 g1 rep1 o1 t1;dsimp only at q;cases e1:ρ1[i]? with
  | none=>rw [e1] at q;exact q.elim
  | some s1=>
   rw [e1] at q;cases s1 with
   | none=>exact q.elim
   | some p1=>
   obtain ⟨x1,d1⟩:=p1;dsimp only at q;obtain ⟨v0,hσ,_⟩:=rep1.own i _ _ e1;refine ⟨v0,hσ,ρ1,fps1,rep1,?_⟩;cases ek:fk ρ1 with
   | no=>rw [ek] at q;exact q.elim
   | exc c=>rw [ek] at q;exact q.elim
   | ok p2=>
    obtain ⟨k,ek',ρ2⟩:=p2;rw [ek] at q;intro kv H2 fps2 f2 k2 g2 rep2 o2 t2;dsimp only at q;cases e2:ρ2[i]? with
    | none=>rw [e2] at q;exact q.elim
    | some s2=>
     rw [e2] at q;cases s2 with
     | none=>exact q.elim
     | some p3=>
      obtain ⟨x,d⟩:=p3;dsimp only at q;cases ep:putX x k y with
      | none=>
       rw [ep] at q;dsimp only at q;split at q
       ·rename_i ks xs key ekv;split at q
        ·rename_i kk ekk;split at q
         ·rename_i hc;obtain ⟨hd,rfl,hlk⟩:=hc;obtain ⟨v1,hσ1,ox⟩:=rep2.own0 hal i _ _ e2;rw [hσ] at hσ1;cases hσ1;have hx:∃ a ws fc,v0=.ref a/\H2 a=some (.dT (ks.zip ws))/\fps2 i=a::fc/\a∉fc/\ks.length=xs.length/\OwnL M.K H2 (Zf M fps2) xs (pd d) ws fc:=by
           unfold qn6 at ekv;split at ekv
           ·cases ekv;rw [Own] at ox;obtain ⟨a,ea,⟨d0,_⟩ | ⟨_,ha,hf⟩⟩:=ox
            ·exact absurd d0 hd
            ·exact ⟨a,[],[],ea,ha,hf,je9,rfl,by rw [OwnL];exact ⟨rfl,rfl⟩⟩
           ·cases ekv;rw [Own] at ox;obtain ⟨a,ws,ea,en,⟨d0,_⟩ | ⟨_,fc,ha,hf,na,ol⟩⟩:=ox
            ·exact absurd d0 hd
            ·exact ⟨a,ws,fc,ea,ha,hf,na,en,ol⟩
           ·cases ekv
          obtain ⟨a,ws,fc,rfl,ha,hfp,nac,en,hol⟩:=hx;rw [Own] at o2;obtain ⟨kb,us,rfl,hkb,okey⟩:=o2
          have:=zzk ekk okey
          subst this;have hai:a∈fps2 i:=by rw [hfp];exact ja1
          have oy:=k2.stay rep1 hv o1 t1.ndj;have n2:∀ b∈fp,¬ Zf M fps2 b:=λ b hb z=>by
           rcases z with z | ⟨j,z⟩
           ·exact t1.ndj b hb (.inl z)
           ·rcases k2.sub j b z with z | z
            ·exact t1.ndj b hb (.inr ⟨j,z⟩)
            ·obtain ⟨o,ho⟩:=Own.lsts y _ w fp o1 b hb;rw [ho] at z;cases z
          have hafp:a∉fp:=λ z=>n2 a z (.inr ⟨i,hai⟩);have hst:∃ j,a∈fps j:=⟨i,by have:=(k1.trans k2).same i hm;rw [<- this];exact hai⟩
          let Z:Addr->Prop:=Zf M (λ j=>if j=i then [a] else fps2 j);have zsub:∀ b,Z b->Zf M fps2 b:=λ b h=>by
           rcases h with z | ⟨j,z⟩
           ·exact .inl z
           ·by_cases ej:j=i
            ·simp only [if_pos ej] at z;rw [jb4.mp z];exact .inr ⟨i,hai⟩
            ·simp only [if_neg ej] at z;exact .inr ⟨j,z⟩
          have nf:∀ b∈fc,¬ Z b:=λ b hb z=>by
           have hbi:b∈fps2 i:=by rw [hfp];exact ja0 _ hb
           rcases z with z | ⟨j,z⟩
           ·exact rep2.zo i b hbi z
           ·by_cases ej:j=i
            ·simp only [if_pos ej] at z;rw [jb4.mp z] at hb;exact nac hb
            ·simp only [if_neg ej] at z;exact rep2.dj i j (vb6 ej) b hbi z
          have za:Z a:=.inr ⟨i,by simp⟩;have u1:=OwnL.freeze (Z':=Z) zsub xs _ ws fc nf hol;have u2:=Own.freeze (Z':=Z) (λ b _=>trivial) y _ w fp (λ b hb z=>n2 b hb (zsub b z)) (Own.full (Z':=λ _=>True) y w fp oy);obtain ⟨ks',xs',ws',ex',ew',ox',en'⟩:=qb8 (k:=kk) u2 u1 en;have u3:=ox'.at (o:=.dT (putK (ks.zip ws) kk w)) za ⟨.d (ks.zip ws),ha⟩ (λ z=>nomatch z) λ _ _ n=>n;rw [ex'] at q;have hzl:(ks.zip ws).length < va6:=by rw [jm6];have:=jm4 ks.length ws.length;omega
          refine .inr ⟨a,_,rfl,DPut.t ha hkb hzl,?_⟩;refine q σ _ _ ((k1.ks.trans k2.ks).write (i:=i) (f':=[]) (fp:=fp) hst λ b hb=>?_) (rep2.change (x':=.dcl ks' xs') (d':=1) (f':=[a]) hal e2 hσ (λ b u hb n=>by rw [zqg (λ z=>n (by rw [z];exact hai))];exact hb) (λ b hb=>?_) (λ b hb=>by rw [jb4.mp hb];exact hai) (λ h=>by rw [hm] at h;cases h) ?_)
          ·rcases jb6.mp hb with z | z
           ·exact .inl (by rw [z];exact hai)
           ·cases z
          ·by_cases eb:b=a
           ·rw [eb,zqe];simp
           ·rw [zqg eb];exact hb
          ·rw [Own];exact ⟨a,ws',rfl,en',.inr ⟨by decide,[],by rw [zqe,ew'],rfl,je9,u3⟩⟩
         ·exact q.elim
        ·exact q.elim
       ·exact q.elim
      | some x'=>
       rw [ep] at q;dsimp only at q;split at q
       ·rename_i hc;obtain ⟨hd,hy⟩:=hc;obtain ⟨v1,hσ1,ox⟩:=rep2.own0 hal i _ _ e2;rw [hσ] at hσ1;cases hσ1;have k12:KS M H fps H2 fps2:=k1.ks.trans k2.ks;unfold putX at ep;split at ep
        ·rename_i xs n;split at ep
         ·rename_i j ej;cases ep;rw [Own] at o2;obtain ⟨rfl,_⟩:=o2;obtain ⟨a,ws,fc,rfl,ha,hfp,nac,hol⟩:=ox.list hd;have hai:a∈fps2 i:=by rw [hfp];exact ja1
          have ow:Own M.K H2 (Zf M fps2) y (pd d) w []:=(Own.flatA (d':=pd d) hy (k2.stay rep1 hv o1 t1.ndj)).2;obtain ⟨fc',hs',hset⟩:=hol.set ow j;have inI:∀ b,b∈a::fc'->b∈fps2 i:=λ b hb=>(jb6.mp hb).elim (λ z=>by rw [z];exact hai) λ z=>by rw [hfp];exact ja0 _ (hs' b z)
          have nz:∀ b,Zf M (λ j=>if j=i then a::fc' else fps2 j) b->Zf M fps2 b:=λ b h=>by
           rcases h with z | ⟨j,z⟩
           ·exact .inl z
           ·by_cases ej:j=i
            ·simp only [if_pos ej] at z;exact .inr ⟨i,inI b z⟩
            ·simp only [if_neg ej] at z;exact .inr ⟨j,z⟩
          refine .inl ⟨a,ws,n,j,rfl,rfl,ha,by rw [hol.length];exact ej,?_⟩;have pk:=rep2.poke (o':=.lst (ws.set j w)) (x':=.lst (xs.set j y)) (f':=a::fc') hal k12 e2 hσ hai inI (by
           rw [Own];exact ⟨a,_,rfl,.inr ⟨hd,fc',zqe,rfl,λ z=>nac (hs' a z),hset.at (.inr ⟨i,hai⟩) ⟨.l ws,ha⟩ (λ z=>nac (hs' a z)) λ b _ n z=>n (nz b z)⟩⟩)
          exact q σ _ _ pk.1 pk.2
         ·cases ep
        ·rename_i kvs ks;split at ep
         ·rename_i kk u ekk eu;split at ep
          ·rename_i hl;cases ep;obtain ⟨rfl,_⟩:=qmv eu o1;rw [Own] at o2;obtain ⟨b,ws,rfl,hb,ol⟩:=o2
           have:=zzk ekk ol
           subst this;have hx:∃ a,v0=.ref a/\H2 a=some (.dT kvs)/\fps2 i=[a]:=by
            rw [Own] at ox;obtain ⟨a,ea,⟨d0,_⟩ | ⟨_,ha,hf⟩⟩:=ox
            ·exact absurd d0 hd
            ·exact ⟨a,ea,ha,hf⟩
           obtain ⟨a,rfl,ha,hf⟩:=hx;have hai:a∈fps2 i:=by rw [hf];exact ja1
           refine .inr ⟨a,_,rfl,DPut.t ha hb hl,?_⟩;have pk:=rep2.poke (o':=.dT (putK kvs kk w)) (x':=.dct (putK kvs kk w)) (f':=[a]) hal k12 e2 hσ hai (λ b hb=>by rw [jb4.mp hb];exact hai) (by
            rw [Own];exact ⟨a,rfl,.inr ⟨hd,zqe,rfl⟩⟩)
           exact q σ _ _ pk.1 pk.2
          ·cases ep
         ·cases ep
        ·cases ep
       ·split at q
        ·rename_i hc;obtain ⟨hd,rfl,hx⟩:=hc;obtain ⟨v1,hσ1,ox⟩:=rep2.own0 hal i _ _ e2;rw [hσ] at hσ1;cases hσ1;cases x with
         | lst xs=>
          unfold putX at ep;cases k with
          | int n=>
           dsimp only at ep;split at ep
           ·rename_i j ej;cases ep;rw [Own] at o2;obtain ⟨rfl,_⟩:=o2;obtain ⟨a,ws,fc,rfl,ha,hfp,nac,hol⟩:=ox.list hd;have hai:a∈fps2 i:=by rw [hfp];exact ja1
            have oy:=k2.stay rep1 hv o1 t1.ndj;have n2:∀ b∈fp,¬ Zf M fps2 b:=λ b hb z=>by
             rcases z with z | ⟨j,z⟩
             ·exact t1.ndj b hb (.inl z)
             ·rcases k2.sub j b z with z | z
              ·exact t1.ndj b hb (.inr ⟨j,z⟩)
              ·obtain ⟨o,ho⟩:=Own.lsts y _ w fp o1 b hb;rw [ho] at z;cases z
            have hafp:a∉fp:=λ z=>n2 a z (.inr ⟨i,hai⟩);have hst:∃ j,a∈fps j:=⟨i,by have:=(k1.trans k2).same i hm;rw [<- this];exact hai⟩
            have rw2:Rep (M.plus fp) ρ2 σ H2 fps2:=rep.wide (λ i j hj=>by rw [hal i] at hj;cases hj) (k1.trans k2) (g1.trans g2) rep2 λ b hb=>⟨t1.new b hb,by obtain ⟨o,ho⟩:=Own.lsts y _ w fp oy b hb;rw [ho];simp,n2 b hb⟩
            have h2:∀ b∈fp,M.H₀ b=none/\¬ M.Zo b:=λ b hb=>⟨rep.h0' (t1.new b hb),λ z=>n2 b hb (.inl z)⟩
            let Z:Addr->Prop:=Zf M (λ j=>if j=i then [a] else fps2 j);have zsub:∀ b,Z b->Zf M fps2 b:=λ b h=>by
             rcases h with z | ⟨j,z⟩
             ·exact .inl z
             ·by_cases ej:j=i
              ·simp only [if_pos ej] at z;rw [jb4.mp z];exact .inr ⟨i,hai⟩
              ·simp only [if_neg ej] at z;exact .inr ⟨j,z⟩
            have nf:∀ b∈fc,¬ Z b:=λ b hb z=>by
             have hbi:b∈fps2 i:=by rw [hfp];exact ja0 _ hb
             rcases z with z | ⟨j,z⟩
             ·exact rep2.zo i b hbi z
             ·by_cases ej:j=i
              ·simp only [if_pos ej] at z;rw [jb4.mp z] at hb;exact nac hb
              ·simp only [if_neg ej] at z;exact rep2.dj i j (vb6 ej) b hbi z
            have za:Z a:=.inr ⟨i,by simp⟩;have u1:=OwnL.freeze (Z':=Z) zsub xs _ ws fc nf hol;have u2:=Own.freeze (Z':=Z) (λ b _=>trivial) y _ w fp (λ b hb z=>n2 b hb (zsub b z)) (Own.full (Z':=λ _=>True) y w fp oy);obtain ⟨f',hs',u3⟩:=(u1.at za ⟨.l ws,ha⟩ (λ z=>nomatch z) λ _ _ n=>n).set (u2.at (o:=.lst (ws.set j w)) za ⟨.l ws,ha⟩ (λ z=>nomatch z) λ _ _ n=>n) j;obtain rfl:f'=[]:=List.eq_nil_iff_forall_not_mem.mpr λ b hb=>nomatch hs' b hb
            refine .inl ⟨a,ws,n,j,rfl,rfl,ha,by rw [hol.length];exact ej,?_⟩;refine q σ _ _ ((k1.ks.trans k2.ks).write (i:=i) (f':=[]) (fp:=fp) hst λ b hb=>?_) (rw2.rewrite hal e2 hσ ha hfp (λ z=>nomatch z) (λ b hb=>nomatch hb) (by decide) (λ h=>by rw [hm] at h;cases h) h2 ?_)
            ·rcases jb6.mp hb with z | z
             ·exact .inl (by rw [z];exact hai)
             ·cases z
            ·rw [zbk];exact u3
           ·cases ep
          | _=>cases ep
         | _=>cases hx
        ·exact q.elim
end
section
variable {X:Cx}{W:St->Nat->Hp->Prop}
end
section
variable {X:Cx}{pins pins1:List (Addr×Obj)}{σ:St}{H:Hp}{s:va4}{e:va2->va4->Prop}
end
section
variable {M:Model}{A:vc0}{E:va2->va4->Prop}{K:Frag}
end
section
variable {X:Cx}{pins:List (Addr×Obj)}{σ:St}{H H1:Hp}{s:va4}{B:Heap}{a C:Addr}{a0:va2}{c:Nat}
end
section
variable {is:List Nat}{X:Cx}{M:Fm}{ρ ρ':Rho}{σ σ':St}{H H' H'':Hp}{fps fps' fps'':Fps}{vs vs':List Nat}{D:Ends}
end
def zhe (c:Fb) (b:Fs):Nat->Fs
 | 0,_=>.no
 | n + 1,ρ=>match c ρ with
  | .ok (true,ρ1)=>(match b ρ1 with
   | .nx ρ2=>zhe c b n ρ2
   | .ct ρ2=>zhe c b n ρ2
   | .bk ρ2=>.nx ρ2
   | .rt x d ρ2=>.rt x d ρ2
   | .exc e=>.exc e
   | .no=>.no)
  | .ok (false,ρ1)=>.nx ρ1
  | .exc e=>.exc e
  | .no=>.no
def qhx (c:Fb) (b:Fs):Fs:=zhe c b 300
theorem qf1 {M:Fm}{c:Fb}{b:Fs}{n:Nat}{D:Ends}{σ:St}{H:Hp} (hq:tS M (zhe c b n) D σ H):qhq (tT M c) (tS M b) D σ H:=by
 refine ⟨λ m σ H=>tS M (zhe c b m) D σ H,⟨n,hq⟩,?_⟩;rintro m σ H ⟨ρ,fps,rep,q⟩;cases m with
 | zero=>exact q.elim
 | succ m=>
  unfold zhe at q;refine ⟨ρ,fps,rep,?_⟩;cases ec:c ρ with
  | no=>rw [ec] at q;exact q
  | exc x=>rw [ec] at q;exact λ H' fps' k=>q _ H' fps' k.ks
  | ok p=>
   obtain ⟨bb,ρ1⟩:=p;rw [ec] at q;intro H1 fps1 k1 g1 rep1;cases bb with
   | false=>
    rw [if_neg jb9];exact q σ H1 fps1 k1.ks rep1
   | true=>
    rw [if_pos rfl];refine ⟨λ σ H=>tS M (zhe c b m) D σ H,λ σ' H' w=>⟨m,jg3 m,w⟩,ρ1,fps1,rep1,?_⟩;dsimp only at q;have q:=RsOk.from k1.ks q;cases eb:b ρ1 with
    | no=>rw [eb] at q;exact q
    | exc x=>rw [eb] at q;exact q
    | rt x d ρ2=>rw [eb] at q;exact q
    | bk ρ2=>rw [eb] at q;exact q
    | nx ρ2=>rw [eb] at q;exact λ σ' H' fps' k r'=>⟨ρ2,fps',r',RsOk.from k q⟩
    | ct ρ2=>rw [eb] at q;exact λ σ' H' fps' k r'=>⟨ρ2,fps',r',RsOk.from k q⟩
section
variable {M:Fm}{ρ ρ':Rho}{σ σ':St}{H H':Hp}{fps fps':Fps}{F F':Addr->Prop}{P P':List (Nat×V)}
end
section
variable {X:Cx}{M:Fm}{ρ:Rho}{σ:St}{H:Hp}{fps:Fps}
end
section
variable {X:Cx}{M:Fm}{ρ:Rho}{σ:St}{H H':Hp}{fps:Fps}{vs:List Nat}{fa:Fa}{Q:VK}{F:List Addr}{e:Expr}{es:List Expr}{p pos:Pos}
def zgm (g:Int->Int->Int) (i:Nat) (fj f:Fx):Fs:=λ ρ=>match ρ[i]?,fj ρ with
 | some (some (.lst xs,d)),.ok (.int b,_,ρ1)=>(match f ρ1 with
  | .ok (.int w,_,ρ2)=>(match ixN xs.length b with
   | some j=>(match xs[j]? with
    | some (.int v)=>if d≠0 then .nx (ρ2.set i (some (.lst (xs.set j (.int (g v w))),d))) else .no
    | _=>.no)
   | none=>.no)
  | _=>.no)
 | _,_=>.no
theorem OwnL.atInt {K:Frag}{Z:Addr->Prop}{d:Nat}{v:Int}:∀ {xs:List PV}{ws:List V}{f:List Addr}{j:Nat},OwnL K H Z xs d ws f->xs[j]?=some (.int v)->ws[j]?=some (.int v)
 | [],ws,f,j,h,e=>by simp at e
 | x::xs,ws,f,0,h,e=>by
  cases e;rw [OwnL] at h;obtain ⟨u,s,f1,f2,rfl,_,_,h1,_⟩:=h;rw [Own] at h1;rw [h1.1];rfl
 | x::xs,ws,f,j + 1,h,e=>by
  rw [OwnL] at h;obtain ⟨u,s,f1,f2,rfl,_,_,_,h2⟩:=h;rw [je0] at e ⊢;exact h2.atInt e
theorem qi5 {g:Int->Int->Int}{f fj:Fx}{vj:List Nat}{i:Nat}{D:Ends} (hal:∀ i,M.al i=[]) (hm:M.Ms i=false) (hq:tS M (zgm g i fj f) D σ H):qme (tVar i) (tE M fj vj) (tE M f vs) (rIxL M.K) (ipI g) qjo D σ H:=by
 obtain ⟨ρ,fps,rep,q⟩:=hq;unfold zgm at q;split at q
 ·rename_i xs d b db ρ1 ei e1;split at q
  ·rename_i w dw ρ2 e2;split at q
   ·rename_i j ej;split at q
    ·rename_i v0 ev0;split at q
     ·rename_i hd;obtain ⟨v,hσ,ov⟩:=rep.own0 hal i _ _ ei;obtain ⟨a0,_,_,rfl,_⟩:=ov.list hd;refine ⟨.ref a0,hσ,ρ,fps,rep,?_⟩;rw [e1];intro vb H1 fps1 fpb k1 g1 rep1 ob tb;rw [Own] at ob;obtain ⟨rfl,rfl⟩:=ob;have ei1:ρ1[i]?=some (some (.lst xs,d)):=by rw [g1.1 i hm];exact ei
      obtain ⟨v1,hσ1,ov1⟩:=rep1.own0 hal i _ _ ei1;rw [hσ] at hσ1;cases hσ1;obtain ⟨a1,ws1,f1,ea1,ha1,hf1,na1,hol1⟩:=ov1.list hd;cases ea1;refine ⟨a0,ws1,b,.int v0,rfl,rfl,.inl (.inl ha1),(by unfold atI;rw [hol1.length,ej];exact hol1.atInt ev0),ρ1,fps1,rep1,?_⟩;rw [e2];intro vw H2 fps2 fpw k2 g2 rep2 ow tw;rw [Own] at ow;obtain ⟨rfl,rfl⟩:=ow;refine ⟨v0,w,rfl,rfl,?_⟩;have ei2:ρ2[i]?=some (some (.lst xs,d)):=by rw [g2.1 i hm];exact ei1
      obtain ⟨v2,hσ2,ov2⟩:=rep2.own0 hal i _ _ ei2;rw [hσ] at hσ2;cases hσ2;obtain ⟨a2,ws2,f2,ea2,ha2,hf2,na2,hol2⟩:=ov2.list hd;cases ea2;refine ⟨a0,ws2,b,j,rfl,rfl,ha2,by rw [hol2.length];exact ej,?_⟩;have hai:a0∈fps2 i:=by rw [hf2];exact ja1
      have oy:Own M.K H2 (Zf M fps2) (.int (g v0 w)) (pd d) (.int (g v0 w)) []:=by rw [Own];exact ⟨rfl,rfl⟩
      obtain ⟨fc',hs',hset⟩:=hol2.set oy j;have inI:∀ b,b∈a0::fc'->b∈fps2 i:=λ b hb=>(jb6.mp hb).elim (λ z=>by rw [z];exact hai) λ z=>by rw [hf2];exact ja0 _ (hs' b z)
      have dm:∀ b,H2 b≠none->(upd H2 a0 (.lst (ws2.set j (.int (g v0 w))))) b≠none:=λ b h=>by
       by_cases eb:b=a0
       ·rw [eb,zqe];simp
       ·rw [zqg eb];exact h
      have nz:∀ b,Zf M (λ j=>if j=i then a0::fc' else fps2 j) b->Zf M fps2 b:=λ b h=>by
       rcases h with z | ⟨j,z⟩
       ·exact .inl z
       ·by_cases ej:j=i
        ·simp only [if_pos ej] at z;exact .inr ⟨i,inI b z⟩
        ·simp only [if_neg ej] at z;exact .inr ⟨j,z⟩
      have kw:KS M H2 fps2 (upd H2 a0 (.lst (ws2.set j (.int (g v0 w))))) (λ j=>if j=i then a0::fc' else fps2 j):=⟨λ b u hb n=>by rw [zqg (λ e=>n ⟨i,by rw [e];exact hai⟩)];exact hb,dm,λ j b hb=>by
       by_cases ej:j=i
       ·simp only [if_pos ej] at hb;exact .inl ⟨i,inI b hb⟩
       ·simp only [if_neg ej] at hb;exact .inl ⟨j,hb⟩⟩
      refine q σ _ _ ((k1.ks.trans k2.ks).trans kw) (rep2.change hal ei2 hσ (λ b u hb n=>by rw [zqg (λ e=>n (by rw [e];exact hai))];exact hb) dm inI (λ h=>by rw [hm] at h;cases h) ?_);rw [Own];exact ⟨a0,_,rfl,.inr ⟨hd,fc',zqe,rfl,λ z=>na2 (hs' a0 z),hset.at (.inr ⟨i,hai⟩) ⟨.l ws2,ha2⟩ (λ z=>na2 (hs' a0 z)) λ b _ n z=>n (nz b z)⟩⟩
     ·exact q.elim
    ·exact q.elim
   ·exact q.elim
  ·exact q.elim
 ·exact q.elim
end
def qek:Expr->Bool
 | .ListComp _ _ _ _=>true
 | .SetComp _ _ _ _=>true
 | .DictComp _ _ _ _ _=>true
 | _=>false
def qpl:Expr->Bool
 | .Tuple _ _ _=>true
 | .List _ _=>true
 | _=>false
def zqn (d:Stmt->Option Fs):List Stmt->Option Fs
 | []=>some sNil
 | [s]=>d s
 | s::r=>match d s,zqn d r with
  | some f,some g=>some (sSeq f g)
  | _,_=>none
def locB (S:Sx) (x:Str):Bool:=zwj S.sc x .local || zwj S.sc x .cell
def zgx (S:Sx) (i:Nat):Bool:=(decide (i≠0) || !S.msF 0) && !S.pn.contains i
def qmx (iw:Iw) (asg:PV->Rho->Option Rho) (body:Fs):Fs:=match iw with
 | .rng en fa _=>zwe en fa asg body
 | .seq f vs=>zzg f vs asg body
 | .vw v fa vs=>zba v fa vs asg body
def qhl:vi1->Option ((Int->Int->Int)×Bool)
 | .Add=>some (λ i j=>i + j,true)
 | .Sub=>some (λ i j=>i - j,false)
 | _=>none
def zjb (S:Sx):List Expr->Option (List Nat)
 | []=>some []
 | .Name x _::r=>match S.slot x,zjb S r with
  | some i,some is=>if locB S x=true/\zgx S i=true/\S.msF i=false then some (i::is) else none
  | _,_=>none
 | _=>none
def Sx.nr (S:Sx):Sx:={ S with rz:=false }
def denA (S:Sx):Expr->Option D2
 | .Dict [] [] _=>some (bDct,[])
 | e=>den 60 S e
def qos (S:Sx) (x at':Str) (apos:Pos) (e:Expr) (cpos:Pos):Option Fs:=if at' = "append" then (match S.slot x,den 60 S e with
   | some i,some (f,vs)=>if S.msF i=false/\(apos.endLine == cpos.line)=true then some (sApp i f vs) else none
   | _,_=>none) else if at' = "extend" then (match S.slot x,den 60 S e with
   | some i,some (f,vs)=>if S.msF i=false/\(apos.endLine == cpos.line)=true then some (sExt i f vs) else none
   | _,_=>none) else none
def qps (_:Sx) (_:Expr) (_:Str) (_:Pos) (_:Expr) (_:Pos):Option Fs:=none
def denX (S:Sx):Expr->Option Fs
 | .Call fn es [] p1=>(match fn with
  | .Attribute o at' apos=>(match nmE o,es with
   | some x,[e]=>qos S x at' apos e p1
   | none,[e]=>qps S o at' apos e p1
   | _,_=>none)
  | .Name x p=>(match den 60 S (.Call (.Name x p) es [] p1) with
   | some (f,_)=>some (zkj f)
   | none=>none)
  | _=>none)
 | _=>none
def qdw:PV->Nat->PV->Nat->Option (PV×Nat)
 | .lst xs,d,.int i,_=>(atI xs i).map λ z=>(z,if d=om then om else dv z)
 | _,_,_,_=>none
theorem OwnL.nthF {K:Frag}{H:Hp}{Z:Addr->Prop}{d:Nat}{x:PV}:∀ {xs:List PV}{ws:List V}{f:List Addr}{j:Nat},OwnL K H Z xs d ws f->xs[j]?=some x->∃ w fx,ws[j]?=some w/\Own K H Z x d w fx/\∀ a∈fx,a∈f
 | [],_,_,_,_,e=>by cases e
 | y::ys,ws,f,j,h,e=>by
  rw [OwnL] at h;obtain ⟨v,s,f1,f2,rfl,rfl,_,h1,h2⟩:=h;cases j with
  | zero=>cases e;exact ⟨v,f1,rfl,h1,λ a ha=>ja7 _ ha⟩
  | succ j=>
   obtain ⟨w,fx,e1,o,s'⟩:=h2.nthF (j:=j) (by simpa using e);exact ⟨w,fx,by simpa using e1,o,λ a ha=>ja5 _ (s' a ha)⟩
def omF:List (PV×Nat)->Bool
 | []=>true
 | p::r=>((p.2 == om) || qev p.1) && omF r
def qdu (xs:List (PV×Nat)):Option (PV×Nat):=if xs.length<=va6 then some (.lst (xs.map (·.1)),if omF xs then om else 1) else none
theorem Tmps.allF {K:Frag}{H:Hp}{Z:Addr->Prop}:∀ {xs:List (PV×Nat)}{ws:List V}{fp:List Addr},Tmps K H Z xs ws fp->omF xs=true->OwnL K H Z (xs.map (·.1)) om ws fp
 | [],_,_,h,_=>by rw [jh4,OwnL];exact h
 | (x,d)::xs,ws,fp,h,ha=>by
  obtain ⟨v,s,f1,f2,e1,e2,dj,h1,h2⟩:=h;unfold omF at ha;rw [ja4,je3] at ha;rw [jb7,OwnL];rcases ha.1 with e | e
  ·have e:d=om:=eq_of_beq e;subst e;exact ⟨v,s,f1,f2,e1,e2,dj,Own.full x v f1 h1,h2.allF ha.2⟩
  ·obtain ⟨rfl,o⟩:=Own.flatA (Z':=Z) (d':=om) e h1;exact ⟨v,s,[],f2,e1,e2,dj,o,h2.allF ha.2⟩
section
variable {X:Cx}{M:Fm}{a b:Expr}{es:List Expr}{fa:Fa}{f g:Fx}{vs vs':List Nat}{pos:Pos}
theorem qje (h:PA X es (tL M fa vs)):PE X (.List es pos) (tE M (zqc qdu fa) vs):=by
 refine zqr (qh4 h) λ σ H Q h=>zpc (r:=λ xs H1 Q=>xs.length<=va6/\∀ p,H1 p=none->Q (.ref p) (upd H1 p (.lst xs))) (λ xs z c ws H fps fp Q ho tm nz zd lf=>?_) h;unfold qdu at ho;split at ho
 ·rename_i hl;refine ⟨by rw [tm.length];exact hl,λ q hq=>?_⟩;cases eo:omF xs with
  | true=>rw [eo] at ho;cases ho;exact zbo lf (tm.allF eo) hq
  | false=>rw [eo] at ho;cases ho;exact zjp lf (tm.cold λ a ha z=>nz a ha z.zf) hq
 ·cases ho
theorem qjh (hv:∀ i∈vs,M.Ms i=false) (hs:zmf b) (ha:PE X a (tE M f vs)) (hb:PE X b (tE M g vs')):PE X (.Subscript a b pos) (tE M (bBin qdw f g) (vs++vs')):=by
 refine zqr (qni qia ha hb hs) λ σ H Q h=>zwy hv (λ x d y e z c v w H fps f1 f2 Q ho o1 o2 dj nz zd lf=>?_) h;unfold qdw at ho;split at ho
 ·rename_i xs i;obtain ⟨z',ez,e2⟩:=jb8.mp ho;rw [Own] at o2;by_cases hd:d=om
  ·subst hd;rw [if_pos rfl] at e2;cases e2;obtain ⟨p,ws,fc,rfl,hp,rfl,nac,ol⟩:=o1.list (by decide:om≠0);rw [qpi] at ol;unfold atI at ez;cases ej:ixN xs.length i with
   | none=>rw [ej] at ez;cases ez
   | some j=>
    rw [ej] at ez;obtain ⟨w',fz,e1,ow,sb⟩:=ol.nthF ez;refine .inl ⟨p,ws,i,w',rfl,o2.1,.inl (.inl hp),?_,lf w' H fz (λ _ _ h=>h) (Own.full _ _ _ ow) λ a ha=>.inl (ja7 _ (ja0 _ (sb a ha)))⟩;unfold atI;rw [ol.length,ej];exact e1
  ·rw [if_neg hd] at e2;cases e2;obtain ⟨p,ws,rfl,hp,ol⟩:=(cold o1 λ a ha=>nz a (ja7 _ ha)).coldL;obtain ⟨w',e1,ow⟩:=zhv ol ez;exact .inl ⟨p,ws,i,w',rfl,o2.1,.inl (.inl hp),e1,zwz lf ow⟩
 ·cases ho
end
def denO (S:Sx) (e:Expr):Option D2:=match e with
 | .Subscript (.List es _) b _=>(match zkw (den 60 S) es,den 60 S b with
  | some (fa,v),some (g,u)=>if zjl b=true then some (bBin qdw (zqc qdu fa) g,v++u) else none
  | _,_=>none)
 | e=>den 60 S e
def qik (S:Sx) (t k e:Expr):Option Fs:=match t with
 | .Name x _=>(match S.slot x,den 60 S k,denO S e with
  | some i,some (fk,_),some (f,_)=>if S.msF i=false/\zjl k=true then some (zwd i fk f) else none
  | _,_,_=>none)
 | _=>none
def qkh:List (Str×Str):=[("found","wider"),("found","left")]
def mvOf (S:Sx) (x:Str) (i:Nat) (e:Expr):Option Nat:=match nmE e with
 | some y=>(match S.slot y with
  | some j=>if qkh.contains (x,y)=true/\S.msF i=false/\S.msF j=false then some j else none
  | none=>none)
 | none=>none
def qio (S:Sx) (t e:Expr):Option Fs:=match t with
 | .Tuple es k p=>(match zjb S es,den 60 S e with
   | some is,some (f,vs)=>if qek e=false/\qpl e=false then some (sUnp (asgT is) f vs) else none
   | _,_=>none)
 | .Name x _=>(match S.slot x,denA S e with
   | some i,some (f,vs)=>if locB S x=true/\zgx S i=true then (match mvOf S x i e with
    | some j=>some (sMv i j)
    | none=>some (sSet (S.msF i) i f vs)) else none
   | _,_=>none)
 | .Subscript t k _=>qik S t k e
 | _=>none
def zpv (d:Stmt->Option Fs) (S:Sx) (body:List Stmt):Option Fs:=zqn d body
def qov:List Str:=["table","behind"]
def forD (d:Stmt->Option Fs) (S:Sx) (x:Str) (it:Expr) (body:List Stmt):Option Fs:=match S.slot x,zpv d S body with
 | some i,some b=>if locB S x=true/\zgx S i=true/\S.msF i=false then (match it with
   | .Name y _=>if qov.contains y=true then (match den 60 S it with
    | some (f,vs)=>some (zmv f vs (asgN i) b)
    | none=>none) else none
   | .Call (.Attribute (.Subscript o k p) at' apos) [] [] cpos=>if at' = "values" /\ (apos.endLine == cpos.line)=true then (match den 60 S (.Subscript o k p) with
    | some (f,vs)=>some (qbu f vs (asgN i) b)
    | none=>none) else none
   | .Call (.Name r _) [e1,e2,e3] [] _=>if r = "range" /\ S.glob "range" = true then (match zkw (den 60 S) [e1,e2,e3] with
    | some (fa,_)=>some (zjd fa (asgN i) b)
    | none=>none) else none
   | _=>none) else none
 | _,_=>none
def qim (d:Stmt->Option Fs) (S:Sx) (t it:Expr) (body:List Stmt):Option Fs:=match t with
 | .Name x p=>(match forD d S x it body with
  | some f=>some f
  | none=>match S.slot x,denI (den 60 S) S it,zpv d S body with
    | some i,some iw,some b=>if locB S x=true/\zgx S i=true/\S.msF i=false/\twOk (.Name x p) iw=true then some (qmx iw (asgN i) b) else none
    | _,_,_=>none)
 | .Tuple es k p=>(match zjb S es,denI (den 60 S) S it,zpv d S body with
   | some is,some iw,some b=>some (qmx iw (asgT is) b)
   | _,_,_=>none)
 | _=>none
def qij (S:Sx) (e:Expr):Option Fs:=match nmE e with
 | some x=>(match S.slot x with
   | some i=>if S.msF i=true then none else some (zzt i)
   | none=>none)
 | none=>(match den 60 S e with
   | some (f,vs)=>some (sRet f)
   | none=>none)
def qin (S:Sx) (t:Expr) (op:vi1) (e:Expr):Option Fs:=match t with
 | .Name x _=>(match S.slot x,den 60 S e,qhl op with
  | some i,some (f,_),some (g,sd)=>if locB S x=true/\zgx S i=true/\S.msF i=false then some (sAug g sd i f) else none
  | _,_,_=>none)
 | .Subscript o k _=>(match o with
  | .Name x _=>(match S.slot x,den 60 S k,den 60 S e,qhl op with
   | some s,some (fj,_),some (f,_),some (g,_)=>if S.msF s=false/\zjl k=true then some (zgm g s fj f) else none
   | _,_,_,_=>none)
  | _=>none)
 | _=>none
def Sx.bare (S:Sx):Sx:={ S with ms:=[] }
def denT (S:Sx) (c:Expr):Option D2:=(den 60 S c).or (den 60 S.bare c)
def zkb (d:Stmt->Option Fs) (S:Sx):Stmt->Option Fs
 | .Raise _ _ _=>some sNo
 | .Expr v _=>denX S v
 | .Assign [t] e _=>qio S t e
 | .If c a b _=>match denT S c,zqn d a,zqn d b with
  | some (f,_),some s,some t=>some (sIf (bT f) s t)
  | _,_,_=>none
 | .For t it body [] _=>qim d S t it body
 | .While c body [] _=>match denT S c,zqn d body with
  | some (f,_),some b=>some (qhx (bT f) b)
  | _,_=>none
 | .AugAssign t op e _=>qin S t op e
 | .Return (some e) _=>qij S e
 | _=>none
def qe1:Nat->Sx->Stmt->Option Fs
 | 0,_,_=>none
 | n + 1,S,st=>some ((zkb (qe1 n S) S st).getD sNo)
section
variable {X:Cx}{P:vb0}{w:vb4}{K:Frag}{mg:Str->Option va2}{base:Heap}{lvl:Nat}{S:Sx}{Wx:St->Nat->Hp->Prop}{M:Fm}{f g:Fx}{vs vs':List Nat}{σ:St}{H:Hp}{Q:VK}
structure SM (X:Cx) (M:Fm) (K:Frag) (S:Sx) (Wx:St->Nat->Hp->Prop):Prop where
 ms:MS M K S Wx
 al:∀ i,M.al i=[]
 io:M.io≠none->S.msF 0=true
 pn:∀ p∈M.pn,p.1∈S.pn
 fn:∀ x,X.fn x=true
 nd:S.N.Nodup
 st:X.stack=X.env::X.outer
 fr:X.env.frame=some X.env.locals
def zme (P:vb0) (w:vb4) (K:Frag) (mg:Str->Option va2) (base:Heap) (lvl:Nat) (S:Sx) (st:Stmt) (f:Fs):Prop:=∀ {Wx} X M,XS X P w K mg base lvl S Wx->SM X M K S Wx->PS X st (tS M f)
theorem zzd {d:Stmt->Option Fs} (hd:∀ st f,d st=some f->zme P w K mg base lvl S st f):∀ (sts:List Stmt) (f:Fs),zqn d sts=some f->∀ {Wx} X M,XS X P w K mg base lvl S Wx->SM X M K S Wx->PSs X sts (tS M f)
 | [],f,h=>by cases h;exact λ X M xs sm=>qde qjv λ D σ H q=>ql2 q
 | [s],f,h=>λ X M xs sm=>qju (hd s f h X M xs sm)
 | s::s'::r,f,h=>by
  unfold zqn at h;split at h
  ·rename_i f1 f2 h1 h2;cases h;exact λ X M xs sm=>qde (qgd (hd s f1 h1 X M xs sm) (zzd hd (s'::r) f2 h2 X M xs sm)) λ D σ H q=>qlz q
  ·cases h
theorem zvd {x:Str}{i:Nat} (h:S.slot x=some i):S.N[i]?=some x:=by
 unfold Sx.slot at h;split at h
 ·exact zyr h
 ·cases h
theorem zbn {x:Str} (h:locB S x=true):Loc S.sc x:=by
 unfold locB at h;rw [je3] at h;exact h.elim (λ h=>.inl (zxx h)) λ h=>.inr (zxx h)
theorem zzh {i:Nat} (h:zgx S i=true) (sm:SM X M K S Wx):M.Fre i:=by
 unfold zgx at h;rw [ja4,je3] at h;refine ⟨λ hio=>?_,λ p hp e=>?_⟩
 ·rcases h.1 with h | h
  ·simpa using h
  ·rw [sm.io hio] at h;cases h
 ·have z:=sm.pn p hp;rw [e] at z;have h2:=h.2;rw [List.contains_iff_mem.mpr z] at h2;cases h2
theorem qcu {e:Expr}{t:Option Expr}{l:Nat}{env:Env} (h:qek e=false):swapsWith e t l env=pure false:=by
 cases e with
 | ListComp _ _ _ _=>cases h
 | SetComp _ _ _ _=>cases h
 | DictComp _ _ _ _ _=>cases h
 | _=>rfl
theorem qg9 (GX:GX K mg S.xc) (G:GS P w K mg base lvl S.Γ) (Gm:GSm P w K mg base lvl S.Γm) (hS:∀ i,∀ j∈S.alF i,S.msF j=false) {n:Nat}{elt:Expr}{gs:List Comprehension}{scope:vd1}{pos:Pos} (h:den (n + 1) S (.ListComp elt gs scope pos)=some (f,vs)):
  ∃ tg ys asg it ifs iw t g vE,gs=[⟨tg,it,ifs,0⟩]/\CompParts P w K mg base lvl S scope tg ys asg it elt ifs iw t g vE/\f=qfo iw ys.length asg t g/\vs=iw.vs++vE.filter (λ i=>decide (i < S.N.length)):=by
 have hd:∀ e f vs,den n S e=some (f,vs)->Good P w K mg base lvl S e f vs:=λ e f vs h=>zfr GX G Gm n S e f vs rfl rfl rfl hS h;replace h:zzm (den n) S (.ListComp elt gs scope pos)=some (f,vs):=h
 match gs,h with
 | [],h=>simp [zzm] at h
 | _::_::_,h=>simp [zzm] at h
 | [⟨tg,it,ifs,a⟩],h=>
  by_cases ha:a=0
  ·subst ha;replace h:(match tgA S.N.length tg,denI (den n S) S it with
    | some (xs,asg),some iw=>if zpy S scope xs iw.vs=true/\twOk tg iw=true then (match qbf (den n (zqv S scope xs iw.vs)) ifs,den n (zqv S scope xs iw.vs) elt with
     | some t,some (g,vE)=>some (qfo iw xs.length asg t g,iw.vs++vE.filter (λ i=>decide (i < S.N.length)))
     | _,_=>none) else none
    | _,_=>none)=some (f,vs):=h
   split at h
   ·rename_i ys asg iw ht hi;split at h
    ·rename_i hc;split at h
     ·rename_i t g vE h1 h2;cases h;have ck:=qiq hc.1;have giw:=zpu hd (zpt n S) G.1 hi;have hS2:∀ i,∀ j∈(zqv S scope ys iw.vs).alF i,(zqv S scope ys iw.vs).msF j=false:=λ i j hj=>by
       rw [zmb] at hj;show S.msF j=false;split at hj
       ·exact hS i j hj
       ·split at hj
        ·exact giw.1 j hj
        ·cases hj
      have hd2:∀ e f vs,den n (zqv S scope ys iw.vs) e=some (f,vs)->Good P w K mg base lvl (zqv S scope ys iw.vs) e f vs:=λ e f vs h=>zfr GX G Gm n _ e f vs rfl rfl rfl hS2 h;exact ⟨tg,ys,asg,it,ifs,iw,t,g,vE,rfl,⟨ht,hc.2,ck,giw,hd2 _ _ _ h2,zfs hd2 h1⟩,rfl,rfl⟩
     ·cases h
    ·cases h
   ·cases h
  ·simp [zzm,ha] at h
theorem zxr (xs:XS X P w K mg base lvl S Wx):vn1 (vb2 X.prog X.w) X.A X.env X.xe:=xs.po
theorem zja {es:List Expr}{is:List Nat} (h:zjb S es=some is) (xs:XS X P w K mg base lvl S Wx) (sm:SM X M K S Wx):PGs X es (zbq is)/\(vc7 es X.env).length=is.length/\(vc7 es X.env).findIdx? (·.1)=none/\∀ i∈is,Bd M [] i:=by
 induction es generalizing is with
 | nil=>cases h;exact ⟨qdm,rfl,rfl,λ _ z=>nomatch z⟩
 | cons e es ih=>
  unfold zjb at h;split at h
  ·cases ‹_::_=[]›
  ·rename_i x px r heq;cases heq;split at h
   ·rename_i i js hi hr;split at h
    ·rename_i hc;cases h;obtain ⟨h1,h2,h3,h4⟩:=ih hr;have hN:X.N.Nodup:=by rw [xs.N];exact sm.nd
     have hi':X.N[i]?=some x:=by rw [xs.N];exact zvd hi
     have hx:Loc X.env.scope x:=by rw [xs.sc];exact zbn hc.1
     refine ⟨qap (zjg hN hi' hx (.inl (sm.fn x))) h1 rfl,by rw [vc7,jb2,h2,jb2] <;> (intros;contradiction),?_,λ j hj=>?_⟩
     ·rw [vc7,jo0,h3] <;> first | rfl | (intros;contradiction)
     ·rcases jb6.mp hj with z | z
      ·rw [z];exact ⟨by rw [sm.ms.ms];exact hc.2.2,zzh hc.2.1 sm,sm.al i,sm.ms.als⟩
      ·exact h4 j z
    ·cases h
   ·cases h
  ·cases h
def Fm.bare (M:Fm):Fm:={ M with Ms:=λ _=>false,H₀:=λ _=>none,io:=none,pn:=[] }
theorem Rep.bare {ρ:Rho}{fps:Fps} (r:Rep M ρ σ H fps):Rep M.bare ρ σ H fps where
 own:=r.own
 non:=r.non
 dj:=r.dj
 zo:=r.zo
 fr:=λ _ _ _ _=>rfl
 zd:=r.zd
 len:=r.len
 msf:=λ _ _ _ h=>nomatch h
 h0:=λ _ h=>absurd rfl h
 iov:=And.intro (λ _ h=>nomatch h) (λ _ h=>nomatch h)
theorem qiy {fb:Fb}{Q:Bool->Hp->Prop} (hq:tT M fb σ H Q):tT M.bare fb σ H Q:=by
 obtain ⟨ρ,fps,rep,q⟩:=hq;refine ⟨ρ,fps,rep.bare,?_⟩;have gr:∀ H' fps',KD M.bare H fps H' fps'->∀ a o,H a=some o->H' a=some o:=λ H' fps' k a o h=>k.keep a o h λ ⟨_,z,_⟩=>nomatch z
 cases e:fb ρ with
 | ok p=>
  obtain ⟨b,ρ'⟩:=p;rw [e] at q;intro H' fps' k ag _;have e1:ρ'=ρ:=jo2 λ i=>ag.1 i rfl;subst e1;exact q H' fps (KD.grow (gr H' fps' k)) Agr.refl (rep.grow (gr H' fps' k))
 | exc c=>
  rw [e] at q;intro H' fps' k;exact q H' fps (KD.grow (gr H' fps' k))
 | no=>rw [e] at q;exact q
theorem qe0 (GX:GX K mg S.xc) (G:GS P w K mg base lvl S.Γ) (Gm:GSm P w K mg base lvl S.Γm) (hS:∀ i,∀ j∈S.alF i,S.msF j=false) {c:Expr}{f:Fx}{vs:List Nat} (h:denT S c=some (f,vs)) (xs:XS X P w K mg base lvl S Wx) (m:MS M K S Wx):PT X c (tT M (bT f)):=by
 unfold denT at h;cases e:den 60 S c with
 | some p=>
  rw [e] at h;cases h;exact ((zfr GX G Gm 60 S c f vs rfl rfl rfl hS e).2.2 X M xs m).2
 | none=>
  rw [e] at h;have h2:den 60 S.bare c=some (f,vs):=h;have gd:=(zfr (S:=S) GX G Gm 60 S.bare c f vs rfl rfl rfl (λ _ _ _=>rfl) h2).2.2 X M.bare ⟨xs.prog,xs.w,xs.K,xs.mg,xs.base,xs.N,xs.sc,xs.calm,xs.room,xs.po,xs.ps,xs.rs⟩ ⟨m.K,rfl,m.al,λ _ _ _=>rfl,m.W,λ _ h=>nomatch h⟩;exact zbj gd.2 λ σ H Q q=>qiy q
theorem zkx {d:Stmt->Option Fs}{body:List Stmt}{f:Fs} (hd:∀ e f vs,den 60 S e=some (f,vs)->Good P w K mg base lvl S e f vs) (ih:∀ st f,d st=some f->zme P w K mg base lvl S st f) (h:zpv d S body=some f):∀ {Wx} X M,XS X P w K mg base lvl S Wx->SM X M K S Wx->PSs X body (tS M f):=by
 exact zzd ih _ _ h
theorem qk2 {d:Stmt->Option Fs}{body:List Stmt}{f:Fs}{x:Str}{it:Expr}{px pos:Pos} (hb:∀ x∈zvl,mg x=none) (hd:∀ e f vs,den 60 S e=some (f,vs)->Good P w K mg base lvl S e f vs) (ih:∀ st f,d st=some f->zme P w K mg base lvl S st f) (h:forD d S x it body=some f):zme P w K mg base lvl S (.For (.Name x px) it body [] pos) f:=by
 unfold forD at h;split at h
 ·rename_i i b hi hbody;split at h
  ·rename_i hc;have base:∀ {Wx} X M,XS X P w K mg base lvl S Wx->SM X M K S Wx->PSs X body (tS M b)/\GOk M [] [i] (zkt i) (asgN i)/\PG X (.Name x px) (zkt i):=λ X M xs sm=>by
    have hN:X.N.Nodup:=by rw [xs.N];exact sm.nd
    have hi':X.N[i]?=some x:=by rw [xs.N];exact zvd hi
    have hx:Loc X.env.scope x:=by rw [xs.sc];exact zbn hc.1
    exact ⟨zkx hd ih hbody X M xs sm,qer ⟨by rw [sm.ms.ms];exact hc.2.2,zzh hc.2.1 sm,sm.al i,sm.ms.als⟩,zjg hN hi' hx (.inl (sm.fn x))⟩
   split at h
   ·rename_i y py;split at h
    ·split at h
     ·rename_i f1 v1 he;cases h;have g:=hd _ _ _ he;intro Wx X M xs sm;obtain ⟨hbd,hg,hpg⟩:=base X M xs sm;have hf:=zvr (n:=0) (env:=X.env) (iter:=.Name y py) (f:=bVar 0) (vs:=[]) (λ _ _ _ z=>nomatch z);have pe:=(g.2.2 X M xs sm.ms).1;refine zxl (qpd (zzp (pos:=pos) (zxr xs) xs.calm (qh2 pe) hpg hbd hf) (qdf (zzp (pos:=pos) (zxr xs) xs.calm (qjz pe) hpg hbd hf))) λ D σ H q=>?_
      have:=qi3 (X:=X) sm.al (sm.ms.v g.1) hg q
      rw [sm.ms.k xs] at this;exact this
     ·cases h
    ·cases h
   ·rename_i o k p at' apos cpos;split at h
    ·rename_i hv;obtain ⟨rfl,hl⟩:=hv;split at h
     ·rename_i f1 v1 he;cases h;have g:=hd _ _ _ he;intro Wx X M xs sm;obtain ⟨hbd,hg,hpg⟩:=base X M xs sm;have hf:=zvr (n:=0) (env:=X.env) (iter:=.Call (.Attribute (.Subscript o k p) "values" apos) [] [] cpos) (f:=bVar 0) (vs:=[]) (λ _ _ _ z=>nomatch z);have pe:=(g.2.2 X M xs sm.ms).1;exact zxl (qdf (zzp (pos:=pos) (zxr xs) xs.calm (qjy (qj2 (apos:=apos) (cpos:=cpos) pe rfl hl)) hpg hbd hf)) λ D σ H q=>qi2 (X:=X) sm.al (sm.ms.v g.1) hg q
     ·cases h
    ·cases h
   ·rename_i r pr e1 e2 e3 cpos;split at h
    ·rename_i hr;obtain ⟨rfl,hgl⟩:=hr;split at h
     ·rename_i fa v1 he;cases h;have g:=zwb hd _ _ _ he;intro Wx X M xs sm;obtain ⟨hbd,hg,hpg⟩:=base X M xs sm;have hs:=g.2.1;rw [jf9,ja4] at hs;have hf:=zvr (n:=0) (env:=X.env) (iter:=.Call (.Name "range" pr) [e1,e2,e3] [] cpos) (f:=bVar 0) (vs:=[]) (λ _ _ _ z=>nomatch z);exact zxl (zzp (pos:=pos) (zxr xs) xs.calm (qj1 (xs.gl hgl) (by rw [xs.mg];exact hb _ (by decide +kernel)) (g.2.2 X M xs sm.ms) (zqx (zqm hs.1)) (zym hs.2)) hpg hbd hf) λ D σ H q=>qf2 (vs:=v1) hg q
     ·cases h
    ·cases h
   ·cases h
  ·cases h
 ·cases h
theorem qk8 {e:Expr}{f:Fx}{vs:List Nat} (hd:∀ e f vs,den 60 S e=some (f,vs)->Good P w K mg base lvl S e f vs) (h:denO S e=some (f,vs)):Good P w K mg base lvl S e f vs:=by
 unfold denO at h;split at h
 ·split at h
  ·rename_i f1 v1 f2 v2 h1 h2;split at h
   ·rename_i hn;cases h;have g1:=zwb hd _ _ _ h1;have g2:=hd _ _ _ h2;exact zqy (zxk g1.1 g2.1) rfl (λ _ _=>rfl) λ X M xs m=>qjh (m.v g1.1) (zkm hn) (qje (g1.2.2 X M xs m)) (g2.2.2 X M xs m).1
   ·cases h
  ·cases h
 ·exact hd _ _ _ h
theorem zhq (GX:GX K mg S.xc) (G:GS P w K mg base lvl S.Γ) (Gm:GSm P w K mg base lvl S.Γm) (hS:∀ i,∀ j∈S.alF i,S.msF j=false) {d:Stmt->Option Fs} (ih:∀ (st:Stmt) (f:Fs),d st=some f->zme P w K mg base lvl S st f):∀ (st:Stmt) (f:Fs),zkb d S st=some f->zme P w K mg base lvl S st f:=by
 have hd:∀ e f vs,den 60 S e=some (f,vs)->Good P w K mg base lvl S e f vs:=λ e f vs h=>zfr GX G Gm 60 S e f vs rfl rfl rfl hS h;have hdO:∀ e f vs,denO S e=some (f,vs)->Good P w K mg base lvl S e f vs:=λ e f vs h=>qk8 hd h;have hdA:∀ e f vs,denA S e=some (f,vs)->Good P w K mg base lvl S e f vs:=λ e f vs h=>by
  unfold denA at h;split at h
  ·cases h;exact zqy (λ _ z=>nomatch z) rfl (λ _ _=>rfl) λ X M xs m=>qmq
  ·exact hd _ _ _ h
 intro st f h;have core:True->zme P w K mg base lvl S st f:=λ _=>by
  unfold zkb at h;split at h
  ·cases h;intro Wx X M xs sm pins s σ H D I q;exact (qao pins s σ H D I (ql1 (t:=qcr) q))
  ·rename_i v pos;unfold denX at h;split at h
   ·rename_i fn es cpos;split at h
    ·rename_i o at' apos;split at h
     ·rename_i x e hx;obtain ⟨px,rfl⟩:=qa0 hx;unfold qos at h;split at h
      ·rename_i hat;subst hat;split at h
       ·rename_i i f1 v1 hi he;split at h
        ·rename_i hc;cases h;have g:=hd _ _ _ he;intro Wx X M xs sm;have hb:=qnj (X:=X) (cpos:=cpos) PySem.F.plainAttrs_list PySem.F.slot_list_append PySem.F.type_list_append zff (xs.var (pos:=px) hi) (zji (g.2.2 X M xs sm.ms).1 qar (zqx (zqm g.2.1))) rfl (zbm g.2.1 X.env cpos) hc.2 (zqx (zqm g.2.1)) rfl;refine zxl (zgp hb rfl) λ D σ H q=>?_
         have:=ql5 (D:=D) sm.al (sm.ms.v g.1) (by rw [sm.ms.ms];exact hc.1) q
         rw [sm.ms.k xs] at this;exact this
        ·cases h
       ·cases h
      ·split at h
       ·rename_i hat;subst hat;split at h
        ·rename_i i f1 v1 hi he;split at h
         ·rename_i hc;cases h;have g:=hd _ _ _ he;intro Wx X M xs sm;have hb:=qnj (X:=X) (cpos:=cpos) PySem.F.plainAttrs_list PySem.F.slot_list_extend PySem.F.type_list_extend qd1 (xs.var (pos:=px) hi) (zji (g.2.2 X M xs sm.ms).1 qar (zqx (zqm g.2.1))) rfl (zbm g.2.1 X.env cpos) hc.2 (zqx (zqm g.2.1)) rfl;refine zxl (zgp hb rfl) λ D σ H q=>?_
          have:=ql3 (D:=D) sm.al (sm.ms.v g.1) (by rw [sm.ms.ms];exact hc.1) q
          rw [sm.ms.k xs] at this;exact this
         ·cases h
        ·cases h
       ·cases h
     ·rename_i e hx;cases h
     ·cases h
    ·rename_i x p;split at h
     ·rename_i f1 v1 he;cases h;intro Wx X M xs sm;exact zxl (zgp ((hd _ _ _ he).2.2 X M xs sm.ms).1 rfl) λ D σ H q=>qi4 q
     ·cases h
    ·cases h
   ·cases h
  ·rename_i t e pos;unfold qio at h;split at h
   ·rename_i es k p;split at h
    ·rename_i is f1 v1 hs he;split at h
     ·rename_i hc;cases h;have g:=hd _ _ _ he;intro Wx X M xs sm;obtain ⟨h1,h2,h3,h4⟩:=zja hs xs sm;have mk:M.K=X.K:=sm.ms.k xs;refine zxl (qh1 (g.2.2 X M xs sm.ms).1 (qdn xs.calm h1 h2 h3) ?_ ?_ ?_) λ D σ H q=>?_
      ·cases e <;> first | rfl | (cases hc.1)
      ·cases e <;> first | rfl | (cases hc.2)
      ·rfl
      ·have:=qly sm.al (sm.ms.v g.1) (qkx h4) q
       rw [mk] at this;exact this
     ·cases h
    ·cases h
   ·rename_i x px;split at h
    ·rename_i i f1 v1 hi he;split at h
     ·rename_i hc;cases hmv:mvOf S x i e with
      | some j=>
       rw [hmv] at h;cases h;unfold mvOf at hmv;split at hmv
       ·rename_i y hy;obtain ⟨py,rfl⟩:=qa0 hy;split at hmv
        ·rename_i j' hj;split at hmv
         ·rename_i hm;cases hmv;intro Wx X M xs sm;have hN:X.N.Nodup:=by rw [xs.N];exact sm.nd
          have hi':X.N[i]?=some x:=by rw [xs.N];exact zvd hi
          have hx:Loc X.env.scope x:=by rw [xs.sc];exact zbn hc.1
          exact zxl (qdg hN hi' hx (xs.var hj) (qcu rfl) (.inl (sm.fn x))) λ D σ H q=>qo3 sm.al (by rw [sm.ms.ms];exact hm.2.1) (by rw [sm.ms.ms];exact hm.2.2) (zzh hc.2 sm) q
         ·cases hmv
        ·cases hmv
       ·cases hmv
      | none=>
      rw [hmv] at h;cases h;have g:=hdA _ _ _ he;intro Wx X M xs sm;have hN:X.N.Nodup:=by rw [xs.N];exact sm.nd
      have hi':X.N[i]?=some x:=by rw [xs.N];exact zvd hi
      have hx:Loc X.env.scope x:=by rw [xs.sc];exact zbn hc.1
      have mi:M.Ms i=S.msF i:=by rw [sm.ms.ms]
      cases hcp:qek e with
      | false=>exact zxl (qdg hN hi' hx (g.2.2 X M xs sm.ms).1 (qcu hcp) (.inl (sm.fn x))) λ D σ H q=>qhr sm.al (sm.ms.v g.1) mi (zzh hc.2 sm) q
      | true=>
       cases e with
       | ListComp elt gs scope cpos=>
        obtain ⟨tg,ys,asg,it,ifs,iw,t,g2,vE,rfl,cp,rfl,rfl⟩:=qg9 GX G Gm hS (show den 60 S _=_ from he);obtain ⟨wi,gg,h1,h2,h3,h4,h5,h6⟩:=zbv (pos:=cpos) cp xs sm.ms;refine qm8 (qbw hN hi' hx (.inl (sm.fn x)) h2 xs.calm h1 h3 h4 h5 (zvr (n:=0) (f:=g2) (vs:=[]) cp.iwo.2.1)) λ D σ H hl q=>?_;exact h6 σ H _ (by rw [hl,xs.N]) (qhr sm.al (sm.ms.v g.1) mi (zzh hc.2 sm) q)
       | SetComp _ _ _ _=>simp [denA,den,zzm] at he
       | DictComp _ _ _ _ _=>simp [denA,den,zzm] at he
       | _=>cases hcp
     ·cases h
    ·cases h
   ·rename_i t k ps;unfold qik at h;split at h
    ·rename_i x px;split at h
     ·rename_i i fk vk f1 v1 hi hk he;split at h
      ·rename_i hc;cases h;have g:=hdO _ _ _ he;intro Wx X M xs sm;refine zxl (qh1 (g.2.2 X M xs sm.ms).1 (qnb (xs.var hi) ((hd _ _ _ hk).2.2 X M xs sm.ms).1 (PSet.or qah (qo6 (by have:=xs.room.units;omega))) ?_) ?_ ?_ rfl) λ D σ H q=>qi1 sm.al (by rw [sm.ms.ms];exact hc.1) (sm.ms.v g.1) q
       ·intro v;cases k <;> first | rfl | (cases hc.2)
       ·cases e <;> rfl
       ·cases e <;> rfl
      ·cases h
     ·cases h
    ·cases h
   ·cases h
  ·split at h
   ·rename_i f1 v1 s t hc ha hb;cases h;intro Wx X M xs sm;exact zxl (qpe (qe0 GX G Gm hS hc xs sm.ms) (zzd ih _ _ ha X M xs sm) (zzd ih _ _ hb X M xs sm)) λ D σ H q=>qo4 q
   ·cases h
  ·rename_i t it body pos;unfold qim at h;split at h
   ·rename_i x px;split at h
    ·rename_i f' hf;cases h;exact λ {Wx}=>qk2 G.1 hd ih hf
    split at h
    ·rename_i i iw b hi hw hb;split at h
     ·rename_i hc;cases h;intro Wx X M xs sm;have hN:X.N.Nodup:=by rw [xs.N];exact sm.nd
      have hi':X.N[i]?=some x:=by rw [xs.N];exact zvd hi
      have hx:Loc X.env.scope x:=by rw [xs.sc];exact zbn hc.1
      have giw:=zpu hd (zpt 60 S) G.1 hw;have hbd:=zkx hd ih hb X M xs sm;have hg:GOk M [] [i] (zkt i) (asgN i):=qer ⟨by rw [sm.ms.ms];exact hc.2.2.1,zzh hc.2.1 sm,sm.al i,sm.ms.als⟩;have hpg:PG X (.Name x px) (zkt i):=zjg hN hi' hx (.inl (sm.fn x));have hpi:=giw.2.2 X M xs sm.ms (.Name x px);have hf:=zvr (n:=0) (env:=X.env) (f:=bVar 0) (vs:=[]) giw.2.1;cases iw with
      | rng en fa vs=>
       rcases hpi with ⟨rfl,hpi⟩ | ⟨rfl,hpi⟩
       ·exact zxl (zzp (zxr xs) xs.calm hpi hpg hbd hf) λ D σ H q=>qco hg q
       ·exact zxl (zzp (zxr xs) xs.calm hpi hpg hbd hf) λ D σ H q=>qcn hg q
      | seq f vs=>exact zxl (zzp (zxr xs) xs.calm hpi hpg hbd hf) λ D σ H q=>zgj sm.al (sm.ms.v giw.1) hg q
      | vw v fa vs=>exact zxl (zzp (zxr xs) xs.calm (hpi hc.2.2.2) hpg hbd hf) λ D σ H q=>qcm sm.al (sm.ms.v giw.1) hg q
     ·cases h
    ·cases h
   ·rename_i es k p;split at h
    ·rename_i is iw b hs hw hb;cases h;intro Wx X M xs sm;have giw:=zpu hd (zpt 60 S) G.1 hw;have hbd:=zkx hd ih hb X M xs sm;obtain ⟨h1,h2,h3,h4⟩:=zja hs xs sm;have mk:M.K=X.K:=sm.ms.k xs;have hg:=qkx (M:=M) (al:=[]) h4;have hpg:=qdn (pos:=p) (k:=k) xs.calm h1 h2 h3;rw [<- mk] at hpg;have hpi:=giw.2.2 X M xs sm.ms (.Tuple es k p);have hf:=zvr (n:=0) (env:=X.env) (f:=bVar 0) (vs:=[]) giw.2.1;cases iw with
     | rng en fa vs=>
      rcases hpi with ⟨rfl,hpi⟩ | ⟨rfl,hpi⟩
      ·exact zxl (zzp (zxr xs) xs.calm hpi hpg hbd hf) λ D σ H q=>qco hg q
      ·exact zxl (zzp (zxr xs) xs.calm hpi hpg hbd hf) λ D σ H q=>qcn hg q
     | seq f vs=>exact zxl (zzp (zxr xs) xs.calm hpi hpg hbd hf) λ D σ H q=>zgj sm.al (sm.ms.v giw.1) hg q
     | vw v fa vs=>exact zxl (zzp (zxr xs) xs.calm (hpi (by cases v <;> rfl)) hpg hbd hf) λ D σ H q=>qcm sm.al (sm.ms.v giw.1) hg q
    ·cases h
   ·cases h
  ·split at h
   ·rename_i f1 v1 b hc hb;cases h;intro Wx X M xs sm;exact zxl (qge xs.po (qe0 GX G Gm hS hc xs sm.ms) (zzd ih _ _ hb X M xs sm)) λ D σ H q=>qf1 q
   ·cases h
  ·rename_i t op e pos;unfold qin at h;split at h
   ·rename_i x px;split at h
    ·rename_i i f1 v1 g sd hi he hop;split at h
     ·rename_i hc;cases h;intro Wx X M xs sm;have hN:X.N.Nodup:=by rw [xs.N];exact sm.nd
      have hi':X.N[i]?=some x:=by rw [xs.N];exact zvd hi
      have hx:Loc X.env.scope x:=by rw [xs.sc];exact zbn hc.1
      have hp:PIp X op (ipS g sd):=by
       unfold qhl at hop;split at hop
       ·cases hop;exact qkr
       ·cases hop;exact qkq
       ·cases hop
      exact zxl (qm9 hN hi' hx ((hd _ _ _ he).2.2 X M xs sm.ms).1 hp (.inl (sm.fn x))) λ D σ H q=>ql4 sm.al (by rw [sm.ms.ms];exact hc.2.2) (zzh hc.2.1 sm) q
     ·cases h
    ·cases h
   ·rename_i o k pk;split at h
    ·rename_i x px;split at h
     ·rename_i s fj vj f1 v1 g sd hs hj he hop;split at h
      ·rename_i hc;cases h;intro Wx X M xs sm;have mk:M.K=X.K:=sm.ms.k xs;have hp:PIp X op (ipI g):=by
        unfold qhl at hop;split at hop
        ·cases hop;exact qid
        ·cases hop;exact qic
        ·cases hop
       refine zxl (qjw (xs.var hs) ((hd _ _ _ hj).2.2 X M xs sm.ms).1 qg3 ((hd _ _ _ he).2.2 X M xs sm.ms).1 hp qah ?_) λ D σ H q=>?_
       ·intro _ _ _;cases k <;> first | rfl | (cases hc.2)
       ·have:=qi5 (vs:=v1) (vj:=vj) sm.al (by rw [sm.ms.ms];exact hc.1) q
        rw [mk] at this;exact this
      ·cases h
     ·cases h
    ·cases h
   ·cases h
  ·rename_i e pos;unfold qij at h;split at h
   ·rename_i x hx;obtain ⟨px,rfl⟩:=qa0 hx;split at h
    ·rename_i i hi;split at h
     ·cases h
     ·rename_i hm;cases h;intro Wx X M xs sm;exact zxl (qh0 (xs.var hi)) λ D σ H q=>qi0 sm.al (by rw [sm.ms.ms];simpa using hm) q
    ·cases h
   ·rename_i hx;split at h
    ·rename_i f1 v1 he;cases h;intro Wx X M xs sm;exact zxl (qh0 ((hd _ _ _ he).2.2 X M xs sm.ms).1) λ D σ H q=>ql0 (sm.ms.v (hd _ _ _ he).1) q
    ·cases h
  ·cases h
 exact λ {Wx}=>core trivial
theorem qha (GX:GX K mg S.xc) (G:GS P w K mg base lvl S.Γ) (Gm:GSm P w K mg base lvl S.Γm) (hS:∀ i,∀ j∈S.alF i,S.msF j=false):∀ (n:Nat) (st:Stmt) (f:Fs),qe1 n S st=some f->zme P w K mg base lvl S st f:=by
 intro n;induction n with
 | zero=>intro st f h;cases h
 | succ n ih=>
  intro st f h;replace h:some ((zkb (qe1 n S) S st).getD sNo)=some f:=h;cases e0:zkb (qe1 n S) S st with
  | none=>
   rw [e0] at h;cases h;intro Wx X M xs sm pins s σ H D I q;exact (qao pins s σ H D I (ql1 (t:=qcr) q))
  | some f'=>
   rw [e0] at h;cases h;exact λ {Wx}=>zhq GX G Gm hS ih _ _ e0
def denS:Nat->Sx->Stmt->Option Fs:=qe1
theorem qk7 (GX:GX K mg S.xc) (G:GS P w K mg base lvl S.Γ) (Gm:GSm P w K mg base lvl S.Γm) (hS:∀ i,∀ j∈S.alF i,S.msF j=false):∀ (n:Nat) (st:Stmt) (f:Fs),denS n S st=some f->zme P w K mg base lvl S st f:=qha GX G Gm hS
def zwo:Bool->List PV->Rho
 | true,x::xr=>some (x,om)::xr.map λ x=>some (x,dv x)
 | _,xs=>xs.map λ x=>some (x,dv x)
def finF (io:Bool) (y:PV) (d:Nat) (ρ:Rho):Rz (PV×Nat×PV):=match io with
 | false=>.ok (y,d,.non)
 | true=>match ρ[0]? with
  | some (some (z,_))=>.ok (y,d,z)
  | _=>.no
def mkFn (io:Bool) (np k:Nat) (b:Fs):Fn:=λ xs=>if xs.length=np then (match b (zwo io xs++ja2 k none) with
 | .rt y d ρ=>finF io y d ρ
 | .nx ρ=>finF io .non om ρ
 | .exc c=>.exc c
 | _=>.no) else .no
theorem zxs {io:Bool}{np k:Nat}{b:Fs}:∀ xs,xs.length≠np->mkFn io np k b xs=.no:=λ xs h=>by
 unfold mkFn;rw [if_neg h]
theorem zbh {io:Bool}{xs:List PV}{i:Nat}{x:PV}{d:Nat} (h:(zwo io xs)[i]?=some (some (x,d))):xs[i]?=some x/\(d=dv x\/(io=true/\i=0/\d=om)):=by
 cases io with
 | false=>
  have h':(xs.map λ x=>(some (x,dv x):Slot))[i]?=some (some (x,d)):=h;rw [jc7] at h';cases e:xs[i]? with
  | none=>rw [e] at h';cases h'
  | some y=>rw [e] at h';cases h';exact ⟨rfl,.inl rfl⟩
 | true=>
  cases xs with
  | nil=>simp [zwo] at h
  | cons y r=>
   cases i with
   | zero=>
    have h':some (some (y,om):Slot)=some (some (x,d)):=h;cases h';exact ⟨rfl,.inr ⟨rfl,rfl,rfl⟩⟩
   | succ i=>
    have h':(r.map λ x=>(some (x,dv x):Slot))[i]?=some (some (x,d)):=h;rw [jc7] at h';cases e:r[i]? with
    | none=>rw [e] at h';cases h'
    | some y'=>rw [e] at h';cases h';exact ⟨by simpa using e,.inl rfl⟩
theorem qbs (io:Bool) (xs:List PV):(zwo io xs).length=xs.length:=by
 cases io <;> cases xs <;> simp [zwo]
theorem qky {x qual:Str}{st:Stmt}{f:Addr}{fd:vc5}{N ps:List Str}{k:Nat}{sp:Sp} (F:Fun K x qual st f fd) (S:FnScope N ps (zqb st)) (len:∀ vs H Q E,sp vs H Q E->vs.length=ps.length)
  (hbody:∀ (cdv:va2) (A:vc0) (outer:List Env) (s:va4) (H:Hp) (vs:List V) (Q:VK) (E:XK),Room k (A.deeper (vm5 qual (zqb st) s.heap.objs.size f cdv))->sp vs H Q E ->
   ∃ t,PSs (cxOf (CXr P w K) P w K mg base N qual (zqb st) f cdv A outer s H E) (zqj st) t/\t { nx:=λ _ H'=>Q .non H',rt:=Q } (L2.start N vs) H):FnOk P w K mg base (CXr P w K) (k + 1) f fd ps sp:=by
 obtain ⟨oc,od,kV,doc,pm,an,cdv,ct,osl,rfl,lk,hcd⟩:=F.ex;exact qpn lk hcd S len λ A outer s H vs Q E hr hsp=>hbody cdv A outer s H vs Q E hr hsp
theorem qpp {x qual:Str}{st:Stmt}{fa:Addr}{fd:vc5}{ps:List Str}{np k:Nat}{io:Bool}{b:Fs} (Fu:Fun K x qual st fa fd) (FS:FnScope S.N ps (zqb st)) (hsc:S.sc=zqb st) (hal:S.al=[]) (hnp:ps.length=np) (hk:S.N.length=np + k)
  (hms:∀ i∈S.ms,i < np->i=0/\io=true) (hio:io=true->S.msF 0=true/\0 < np) (GX:GX K mg S.xc) (G:GS P w K mg base lvl S.Γ) (Gm:GSm P w K mg base lvl S.Γm) (hb:zqn (denS 60 S) (zqj st)=some b):
  FnOk P w K mg base (CXr P w K) (lvl + 1) fa fd ps (spF K io np (mkFn io np k b)):=by
 have hS:∀ i,∀ j∈S.alF i,S.msF j=false:=λ i j hj=>by
  unfold Sx.alF at hj;rw [hal] at hj;simp at hj
 refine qky Fu FS (λ vs H Q E h=>h.1.trans hnp.symm) λ cdv A outer s H vs Q E hr h=>?_;obtain ⟨hl,xs,Zo,x0,v0,fp0,hZ,hz0,h1,h2,q⟩:=h;let M:Fm:={ K:=K,Ms:=S.msF,Zo:=Zo,H₀:=H,W:=WE E H,io:=if io=true then some v0 else none,al:=λ _=>[] }
 have hxs:XS (cxOf (CXr P w K) P w K mg base S.N qual (zqb st) fa cdv A outer s H E) P w K mg base lvl S (WE E H):=⟨rfl,rfl,rfl,rfl,rfl,rfl,hsc.symm,rfl,hr,qj8,qgk,λ _=>qda⟩
 have hsm:SM (cxOf (CXr P w K) P w K mg base S.N qual (zqb st) fa cdv A outer s H E) M K S (WE E H):=by
  refine ⟨⟨rfl,rfl,λ i _=>?_,(λ i j hj=>nomatch hj),rfl,λ _ h=>nomatch h⟩,λ _=>rfl,λ h=>?_,(λ _ h=>nomatch h),λ _=>rfl,FS.nd,rfl,rfl⟩
  ·show []=S.al.getD i [];rw [hal];rfl
  ·have h':(if io=true then some v0 else none)≠none:=h;cases io with
   | true=>exact (hio rfl).1
   | false=>exact absurd rfl h'
 refine ⟨tS M b,zzd (qk7 GX G Gm hS 60) _ _ hb _ M hxs hsm,zwo io xs++ja2 k none,λ i=>if i=0 then fp0 else [],?_,?_⟩
 ·have hlen:xs.length=vs.length:=by
   cases io with
   | false=>exact (h1 rfl).2.length.symm
   | true=>obtain ⟨xr,wr,rfl,rfl,_,o⟩:=h2 rfl;rw [jb2,jb2,o.length]
  have each:∀ i y d,(zwo io xs)[i]?=some (some (y,d))->∃ v,vs[i]?=some v/\Own K H (λ a=>Zo a\/a∈fp0) y d v (if i=0 then fp0 else []):=λ i y d e=>by
   obtain ⟨e1,e2⟩:=zbh e;cases io with
   | false=>
    obtain ⟨rfl,o⟩:=h1 rfl;obtain ⟨v,ev,ov⟩:=o.nth e1;rcases e2 with rfl | ⟨z,_⟩
    ·refine ⟨v,ev,?_⟩;rw [ite_self];exact ov.dv.weak λ a h=>h.elim id λ z=>nomatch z
    ·cases z
   | true=>
    obtain ⟨xr,wr,rfl,rfl,o0,o⟩:=h2 rfl;cases i with
    | zero=>
     simp [zwo] at e;obtain ⟨rfl,rfl⟩:=e;exact ⟨v0,rfl,Own.full _ _ _ o0⟩
    | succ i=>
     obtain ⟨v,ev,ov⟩:=o.nth (j:=i) (by simpa using e1);rcases e2 with rfl | ⟨_,z,_⟩
     ·refine ⟨v,by simpa using ev,?_⟩;rw [if_neg (jl9 i)];exact ov.dv
     ·cases z
  have inl:∀ i p,(zwo io xs++ja2 k none)[i]?=some (some p)->(zwo io xs)[i]?=some (some p):=λ i p e=>by
   by_cases hi:i < (zwo io xs).length
   ·rw [jc2 hi] at e;exact e
   ·rw [jd3 (by omega),jc8] at e;split at e <;> cases e
  have domF:∀ a∈fp0,H a≠none:=λ a ha=>by
   cases io with
   | false=>rw [(h1 rfl).1] at ha;cases ha
   | true=>
    obtain ⟨xr,wr,rfl,rfl,o0,o⟩:=h2 rfl;obtain ⟨ys,e⟩:=Own.lsts _ _ _ _ o0 a ha;rw [e];simp
  refine ⟨λ i y d e=>?_,λ i h=>?_,λ i j hij a ha hb'=>?_,λ i a ha=>?_,λ i hi a ha=>?_,hZ,?_,λ i y d hi e=>?_,λ a h=>h,⟨λ v hv=>?_,λ _ h=>(nomatch h)⟩⟩
  ·obtain ⟨v,ev,ov⟩:=each i y d (inl i _ e);refine ⟨v,?_,ov.weak λ a h=>?_⟩
   ·unfold L2.start;rw [jc2 (by rw [ja3];exact (ja9.mp ev).1),jc7,ev];rfl
   ·rcases h with h | ⟨j,_,h⟩
    ·exact .inl h
    ·by_cases ej:j=0
     ·simp only [if_pos ej] at h;exact .inr h
     ·simp only [if_neg ej] at h;cases h
  ·by_cases hi:i=0
   ·subst hi;rw [if_pos rfl];cases io with
    | false=>exact (h1 rfl).1
    | true=>
     obtain ⟨xr,wr,rfl,rfl,_,_⟩:=h2 rfl;exact absurd rfl (h (x0,om))
   ·rw [if_neg hi]
  ·by_cases e1:i=0
   ·by_cases e2:j=0
    ·exact hij (e1.trans e2.symm)
    ·rw [if_neg e2] at hb';cases hb'
   ·simp only [if_neg e1] at ha;cases ha
  ·by_cases e1:i=0
   ·simp only [if_pos e1] at ha;exact hz0 a ha
   ·simp only [if_neg e1] at ha;cases ha
  ·by_cases e1:i=0
   ·simp only [if_pos e1] at ha;cases io with
    | false=>rw [(h1 rfl).1] at ha;cases ha
    | true=>
     have:=(hio rfl).1
     have hi':S.msF i=false:=hi;rw [e1,this] at hi';cases hi'
   ·simp only [if_neg e1] at ha;cases ha
  ·unfold L2.start;rw [jb1,qbs,jc5,jb1,ja3,jc5,hlen,hl,hk];omega
  ·have hm:i∈S.ms:=by
    have hi':S.msF i=true:=hi;unfold Sx.msF at hi';simpa using hi'
   obtain ⟨e1,e2⟩:=zbh (inl i _ e);have hlt:i < np:=by
    have:=(ja9.mp e1).1
    rw [hlen,hl] at this;exact this
   obtain ⟨rfl,rfl⟩:=hms i hm hlt;obtain ⟨xr,wr,rfl,rfl,_,_⟩:=h2 rfl;have e':=inl 0 _ e;simp [zwo] at e';exact e'.2.symm
  ·have hv':(if io=true then some v0 else none)=some v:=hv;cases io with
   | false=>cases hv'
   | true=>
    cases hv';obtain ⟨xr,wr,rfl,rfl,_,_⟩:=h2 rfl;exact ⟨rfl,(hio rfl).1⟩
 ·unfold mkFn at q;have hlen:xs.length=np:=by
   by_cases e:xs.length=np
   ·exact e
   ·rw [if_neg e] at q;exact q.elim
  rw [if_pos hlen] at q;have fin:∀ {y:PV}{d:Nat}{ρ':Rho}{v:V}{σ':St}{H':Hp}{fps':Fps}{fp:List Addr},(match finF io y d ρ' with
    | .ok (y,d,z0)=>∀ v H' fp fp0',Keep (λ a=>a∈fp0) H H'->(∀ a,H a≠none->H' a≠none)->(∀ a∈fp0',a∈fp0\/H a=none)->(∀ a∈fp0',¬ Zo a)->(io=false->fp0'=[])->(io=true->Own K H' (λ _=>True) z0 om v0 fp0') ->
      Own K H' (λ a=>(Zo a\/a∈fp0')\/a∈fp) y d v fp->(∀ a∈fp,H a=none/\¬ (Zo a\/a∈fp0'))->Q v H'
    | .exc c=>∀ H',Keep (λ a=>a∈fp0) H H'->(∀ a,H a≠none->H' a≠none)->E (.int (c:Int) 0) none H'
    | .no=>False)->KS M H (λ i=>if i=0 then fp0 else []) H' fps'->Rep M ρ' σ' H' fps'->Own M.K H' (λ a=>Zr M fps' a\/a∈fp) y d v fp->(∀ a∈fp,M.H₀ a=none/\¬ Zr M fps' a)->Q v H':=λ {y d ρ' v σ' H' fps' fp} q ks rp oy hf=>by
   have kp:Keep (λ a=>a∈fp0) H H':=λ a o h n=>ks.keep a o h λ ⟨i,hi⟩=>by
    by_cases e:i=0
    ·simp only [if_pos e] at hi;exact n hi
    ·simp only [if_neg e] at hi;cases hi
   cases io with
   | false=>
    refine q v H' fp [] kp ks.dom (λ _ z=>(nomatch z)) (λ _ z=>(nomatch z)) (λ _=>rfl) (λ h=>(nomatch h)) (oy.weak λ a h=>?_) λ a ha=>⟨(hf a ha).1,λ z=>(hf a ha).2 ?_⟩
    ·rcases h with (h | h) | h
     ·exact .inl (.inl h)
     ·cases h
     ·exact .inr h
    ·rcases z with z | z
     ·exact .inl z
     ·cases z
   | true=>
    unfold finF at q;cases e0:ρ'[0]? with
    | none=>dsimp only at q;rw [e0] at q;exact q.elim
    | some s0=>
     dsimp only at q;rw [e0] at q;cases s0 with
     | none=>exact q.elim
     | some p0=>
      obtain ⟨z,dz⟩:=p0;have hdz:=rp.msf 0 z dz (hio rfl).1 e0;subst hdz;obtain ⟨u,hu,ou⟩:=rp.own 0 z om e0;have hu0:=(rp.iov.1 v0 rfl).1;rw [hu] at hu0;cases hu0;refine q v H' fp (fps' 0) kp ks.dom (λ a ha=>?_) (λ a ha=>rp.zo 0 a ha) (λ h=>(nomatch h)) (λ _=>Own.full _ _ _ ou) (oy.weak λ a h=>?_) λ a ha=>⟨(hf a ha).1,λ z=>(hf a ha).2 ?_⟩
      ·rcases ks.sub 0 a ha with ⟨j,hj⟩ | z
       ·by_cases e:j=0
        ·simp only [if_pos e] at hj;exact .inl hj
        ·simp only [if_neg e] at hj;cases hj
       ·exact .inr z
      ·rcases h with (h | h) | h
       ·exact .inl (.inl h)
       ·exact .inl (.inr ⟨(λ z=>nomatch z),h⟩)
       ·exact .inr h
      ·rcases z with z | z
       ·exact .inl z
       ·exact .inr ⟨(λ z=>nomatch z),z⟩
  cases eb:b (zwo io xs++ja2 k none) with
  | no=>rw [eb] at q;exact q
  | exc c=>
   rw [eb] at q;refine λ σ' H' fps' ks=>⟨q H' (λ a o h n=>ks.keep a o h λ ⟨i,hi⟩=>?_) ks.dom,ks.dom⟩
   by_cases e:i=0
   ·simp only [if_pos e] at hi;exact n hi
   ·simp only [if_neg e] at hi;cases hi
  | bk ρ=>rw [eb] at q;exact q.elim
  | ct ρ=>rw [eb] at q;exact q.elim
  | rt y d ρ'=>
   rw [eb] at q;exact λ v σ' H' fps' fp ks rp oy hf=>fin q ks rp oy hf
  | nx ρ'=>
   rw [eb] at q;exact λ σ' H' fps' ks rp=>fin (fp:=[]) q ks rp (by rw [Own];exact ⟨rfl,rfl⟩) λ _ z=>nomatch z
end
open PySem PySem.Spec PySem.W PySem.Calls PyProof.Rows L2
theorem zmp {tb:String->Option Builtin}{p:vb0}{w:vb4}{n₀:Nat}{ann:Option va2}:∀ {n:Nat}{s r:SharedT}{t:Thread},zkh tb p w n₀ ann n s t=some r->topRun tb p w n₀ ann n s.abs t=some r.abs
 | 0,_,_,_,h=>by cases h
 | n + 1,s,r,t,h=>by
  unfold zkh at h;unfold topRun;cases e1:through t with
  | true=>rw [e1] at h;cases h;rfl
  | false=>
   rw [e1] at h;cases e2:stepOk n₀ ann t with
   | false=>rw [e2] at h;cases h
   | true=>
    rw [e2] at h;cases e3:stepT (denote tb) p w s t with
    | none=>rw [e3] at h;cases h
    | some z=>obtain ⟨s₂,t₂⟩:=z;rw [e3] at h;rw [stepT_spec e3];exact zmp h
theorem qhk (P:Params) (os:OsState):(bootS P os).abs=⟨vc9 P,#[],boot_drawn,boot_toks,os⟩:=by kernel_rfl
theorem qli (P:Params):(vc9 P).isNs vc3=true:=by kernel_rfl
theorem qkl {p q:vb0}{loose:List Str}{Xt:va4->Bool}{α:Type}{Yf:va4->α}{Ya:vb4->α}{N:Nat} (e:opening p=plainProg p.main.scope.names) (hN:jk5 600 N=true) (f:∀ s,fenceModules? p s=some s)
  (run:∀ (w:vb4) (os:OsState),(zkh treeTable p w (vc9 w.params).objs.size ((vc9 w.params).nsMap vc3 "__annotations__") N (bootS w.params os) (topStub p)).map (λ s=>zhn p q loose Xt Yf (vc9 w.params) s.abs)=some (true,openGood q loose,Ya w)):
  LeftO p q loose Xt Yf Ya N:=λ w=>by
 obtain ⟨⟨h,gs,d,k,os⟩,e1,e2⟩:=jb8.mp (boot_open e hN f w);obtain ⟨rfl,rfl,rfl,rfl⟩:h=vc9 w.params/\gs=#[]/\d=boot_drawn/\k=boot_toks:=by simpa using e2
 obtain ⟨s,r1,r2⟩:=jb8.mp (run w os);have r:=zmp r1;rw [qhk] at r;have r3:(_=_)/\(_ ,_)=(_,_):=vn0 r2;obtain ⟨l1,l23⟩:=r3;obtain ⟨l2,l3⟩:=vn0 l23;have t:topFrom treeTable p w N ⟨vc9 w.params,#[],boot_drawn,boot_toks,os⟩=some s.abs:=by
  unfold topFrom;dsimp only;rw [qli,r];show (match staticsOk (vm3 p.main.body) (vc9 w.params) s.abs.heap && namesBound p s.abs.heap && gensDone s.abs && laidKept (vc9 w.params) s.abs.heap with | true=>_ | false=>_)=_;rw [l1]
 unfold openEnds;rw [e1];show (topFrom treeTable p w N _).map _=_;rw [t];exact congrArg some (Prod.ext l2 l3)
theorem qn7 (h:Heap):(kof h).In h:=by
 intro a o;unfold kof;generalize jb0 h.objs.size=l;induction l with
 | nil=>intro e;cases e
 | cons b l ih=>
  intro e;rw [ji1] at e;cases g:h.get? b with
  | none=>rw [g] at e;exact ih e
  | some z=>
   rw [g] at e;dsimp only [ji6] at e;rw [jd9] at e;split at e
   ·rename_i q;cases e;rw [beq_iff_eq.mp q];exact g
   ·exact ih e
theorem qot {K:Frag}{x:Str}{st:Stmt} (e:zhr K x=some (qe2 x st)):∃ (g:Addr) (fd:vc5),nsIn K vc3 x=some (some (.ref g))/\Fun K x x st g fd:=by
 unfold zhr at e;split at e
 ·rename_i g hg;split at e
  ·rename_i oc od fd sl hl;cases fd;unfold qe2 at e;simp only [Option.some.injEq,DefSeen.mk.injEq] at e;obtain ⟨rfl,rfl,rfl,rfl,rfl,rfl,rfl,rfl,rfl,hc⟩:=e;refine ⟨g,_,hg,qoo hl hc ?_⟩;unfold keepIn;dsimp only;rw [hl]
  ·cases e
 ·cases e
structure Given (ds:List (Str×Stmt)) (xc:List Nat) (K:Frag) (mg:Str->Option va2):Prop where
 df:∀ (i:Nat) (x:Str) (st:Stmt),ds[i]?=some (x,st)->∃ (g:Addr) (fd:vc5),mg x=some (.ref g)/\Fun K x x st g fd
 bn:∀ x∈zvl,mg x=none
 gx:GX K mg xc
theorem qd3 {α β:Type}{f g:α->β}:∀ {l:List α},l.map f=l.map g->∀ {i:Nat}{a:α},l[i]?=some a->f a=g a
 | [],_,_,_,h=>by cases h
 | b::l,e,0,a,h=>by
  cases h;exact (List.cons.inj e).1
 | b::l,e,i + 1,a,h=>qd3 (List.cons.inj e).2 h
theorem qg2 {ds:List (Str×Stmt)}{xc:List Nat}{K:Frag}{mg:Str->Option va2}{h:Heap} (X:K.In h) (G:h.Ns vc3 mg) (e:zjq ds xc K=zfg ds):Given ds xc K mg:=by
 obtain ⟨e1,e2⟩:=vn0 e;obtain ⟨e2,e3⟩:=vn0 e2;refine ⟨λ i x st hi=>?_,λ x hx=>?_,?_⟩
 ·obtain ⟨g,fd,a,b⟩:=qot (qd3 e1 hi);exact ⟨g,fd,mg_of X G a,b⟩
 ·obtain ⟨i,hi⟩:=List.getElem?_of_mem hx;exact mg_none_of X G (qd3 e2 hi)
 ·cases xc with
  | nil=>rfl
  | cons _ _=>cases e3
theorem qlc {P:vb0}{w:vb4}{K:Frag}{outer:List Env}{H:Hp}{s:va4}{e:va2}{s2:va4} (z:CXr P w K outer H s (λ _ _ _=>False) e s2):False:=by
 obtain ⟨_,_,_,_,_,_,_,_,_,_,_,_,_,_,_,_,_,_,z⟩:=z;exact z
theorem holds_by {l:OpenLaw}{q:vb0}{loose:List Str}{d:DefRec}{N k n:Nat}{ds:List (Str×Stmt)}{xc:List Nat}{F:Fn}{x:Str} (said:l.wellSaid=true)
  (e:opening l.prog=plainProg l.prog.main.scope.names) (hN:jk5 600 N=true) (f:∀ s,fenceModules? l.prog s=some s)
  (run:∀ (w:vb4) (os:OsState),(zkh treeTable l.prog w (vc9 w.params).objs.size ((vc9 w.params).nsMap vc3 "__annotations__") N (bootS w.params os) (topStub l.prog)).map
   (λ s=>zhn l.prog q loose (λ s=>xlAt q [] s && recOk (RowW.records l.row.toRowW) s) (λ s=>zjq ds xc (kof s.heap)) (vc9 w.params) s.abs)=some (true,openGood q loose,zfg ds))
  (hdef:defOf q l.row.name=some (d,[])) (hp:l.row.prog.theDef l.row.name=some (d.params,d.body,d.scope)) (hk:kwWritten? d.params.kwonlyargs d.params.kw_defaults=some []) (hwr:(!l.row.writes || l.row.records.isEmpty)=true)
  (ok:(chainsOk q && opensWell l.row.prog && (frees l.row.toRowW && l.row.within.isEmpty))=true) (hb:l.row.prog.bare) (hw:l.row.toRowW.promised)
  (hn:l.most=some n) (hn2:n<=va6) (hdf:d.params.defaults=[]) (hr:Room k vm6)
  (law:∀ (K:Frag) (w:vb4) (mg:Str->Option va2) (fa:Addr),Given ds xc K mg->mg d.name=some (.ref fa)->∃ fd:vc5,(∀ (s:va4) (u:va2),BindsTo s fd ⟨[u],[]⟩ [(x,u)]) /\
   ∀ base:Heap,FnOk l.prog w K mg base (CXr l.prog w K) k fa fd [x] (spF K false 1 F))
  (yes:∀ (K:Frag) (H:Hp) (a:Addr) (ns:List Int),ns.length<=n->Only H->SqL K H a (ns.map V.int)->spF K false 1 F [.ref a] H (λ v _=>v=.bl true) λ _ _ _=>False):l.Holds:=by
 refine holds_law said λ ws=>?_;refine holds_open (q:=q) (loose:=loose) (Xt:=λ s=>xlAt q [] s && recOk (RowW.records l.row.toRowW) s) (XP:=XL q []) (Yf:=λ s=>zjq ds xc (kof s.heap)) (Ya:=λ _=>zfg ds) (YP:=λ _ h=>∃ K:Frag,K.In h/\zjq ds xc K=zfg ds) (N:=N)
  (qkl e hN f run) (λ _ s z=>⟨_,qn7 _,z⟩) (λ _ _ _ ⟨K,a,b⟩ kp=>⟨K,a.keeps kp,b⟩) (λ s e=>xl_of s (jm9.mp e).1) XL.keeps hdef hp hk (λ s e=>recFacts_of (jm9.mp e).2) hwr ws ok hb hw ?_
 refine Att.attach_call hn hdf λ w s₀ s₁ mg mb fa o pm cd doc a vs ns G Y ho hd hcd hmg hobj hints hlen hg=>?_;obtain ⟨K,KX,hf⟩:=Y;obtain ⟨fd,hbd,hF⟩:=law K w mg fa (qg2 KX G.T.g hf) hmg;exact qgt KX G.T.g G.T.b G.T.builtins G.T.nolimit hg hobj hints (jd1 hlen hn2) hr (λ base _ _=>hF base) hbd (λ H hO hS=>yes K H a ns hlen hO hS) λ H e s'=>qlc
section
variable {P:vb0}{w:vb4}{K:Frag}{mg:Str->Option va2}{base:Heap}
theorem len1 {us:List va2} (h:us.length=1):∃ a,us=[a]:=List.length_eq_one_iff.mp h
theorem len2 {us:List va2} (h:us.length=2):∃ a b,us=[a,b]:=by
 cases us with
 | nil=>cases h
 | cons a r=>obtain ⟨b,rfl⟩:=len1 (Nat.succ.inj h);exact ⟨a,b,rfl⟩
theorem len3 {us:List va2} (h:us.length=3):∃ a b c,us=[a,b,c]:=by
 cases us with
 | nil=>cases h
 | cons a r=>obtain ⟨b,c,rfl⟩:=len2 (Nat.succ.inj h);exact ⟨a,b,c,rfl⟩
theorem len4 {us:List va2} (h:us.length=4):∃ a b c d,us=[a,b,c,d]:=by
 cases us with
 | nil=>cases h
 | cons a r=>obtain ⟨b,c,d,rfl⟩:=len3 (Nat.succ.inj h);exact ⟨a,b,c,d,rfl⟩
theorem zqw {lvl:Nat} (hb:∀ x∈zvl,mg x=none):GS P w K mg base lvl []:=⟨hb,λ x io n F h=>by cases h⟩
theorem zwk {lvl:Nat}{x qual:Str}{st:Stmt}{fa:Addr}{fd:vc5}{ps:List Str}{io:Bool}{n:Nat}{F:Fn}{Γ:List (Str×(Bool×Nat×Fn))} (g:GS P w K mg base lvl Γ) (hx:(x == ("__debug__" : Str))=false) (hF:∀ xs,xs.length≠n->F xs=.no)
  (hm:mg x=some (.ref fa)) (Fu:Fun K x qual st fa fd) (hbd:zgh K fd ps []) (hn:ps.length=n) (ok:FnOk P w K mg base (CXr P w K) lvl fa fd ps (spF K io n F)):GS P w K mg base lvl ((x,(io,n,F))::Γ):=by
 refine ⟨g.1,λ y io' n' F' h=>?_⟩;rw [jd9] at h;split at h
 ·rename_i e;cases h
  have:y=x:=eq_of_beq e
  subst this;exact ⟨hx,hF,fa,fd,ps,hm,Fu.kp,hbd,hn,ok⟩
 ·exact g.2 y io' n' F' h
theorem qkw {lvl:Nat}:GSm P w K mg base lvl []:=λ x F h=>by cases h
theorem gcs {lvl j:Nat}{x qual:Str}{st:Stmt}{fa:Addr}{fd:vc5}{ps:List Str}{io:Bool}{n:Nat}{F:Fn}{Γ:List (Str×(Bool×Nat×Fn))} (g:GS P w K mg base lvl Γ) (hm:mg x=some (.ref fa)) (Fu:Fun K x qual st fa fd) (hbd:zgh K fd ps []) (ok:FnOk P w K mg base (CXr P w K) j fa fd ps (spF K io n F)) (hl:j<=lvl:=by decide) (hx:(x == ("__debug__" : Str))=false:=by decide +kernel) (hF:∀ xs,xs.length≠n->F xs=.no:=by exact zxs) (hn:ps.length=n:=by rfl):GS P w K mg base lvl ((x,(io,n,F))::Γ):=zwk g hx hF hm Fu hbd hn (ok.mono hl)
theorem fnb (S:Sx) {lvl:Nat}{x qual:Str}{st:Stmt}{fa:Addr}{fd:vc5}{ps:List Str}{np k:Nat}{io:Bool}{b:Fs} (Fu:Fun K x qual st fa fd) (FS:FnScope S.N ps (zqb st)) (gX:GX K mg S.xc) (G:GS P w K mg base lvl S.Γ) (hb:zqn (denS 60 S) (zqj st)=some b) (hsc:S.sc=zqb st:=by rfl) (hal:S.al=[]:=by rfl) (hnp:ps.length=np:=by rfl) (hk:S.N.length=np + k:=by rfl) (hms:∀ i∈S.ms,i < np->i=0/\io=true:=by decide) (hio:io=true->S.msF 0=true/\0 < np:=by first | exact λ h=>Bool.noConfusion h | exact λ _=>⟨rfl,by decide⟩) (Gm:GSm P w K mg base lvl S.Γm:=by exact qkw):FnOk P w K mg base (CXr P w K) (lvl + 1) fa fd ps (spF K io np (mkFn io np k b)):=qpp (S:=S) Fu FS hsc hal hnp hk hms hio gX G Gm hb
end
theorem sp_yes {K:Frag}{H:Hp}{a:Addr}{ns:List Int}{F:Fn} (hO:Only H) (hS:SqL K H a (ns.map V.int)) (h:∃ d z,F [.scr ns]=.ok (.bl true,d,z)):spF K false 1 F [.ref a] H (λ v _=>v=.bl true) λ _ _ _=>False:=by
 refine ⟨rfl,[.scr ns],λ _=>False,.non,.non,[],λ _ z=>z.elim,λ _ z=>(nomatch z),λ _=>⟨rfl,?_⟩,(λ h=>nomatch h),?_⟩
 ·rw [OwnL];refine ⟨.ref a,[],[],[],rfl,rfl,λ _ z=>(nomatch z),?_,by rw [OwnL];exact ⟨rfl,rfl⟩⟩;rw [Own];refine ⟨rfl,a,rfl,?_⟩;rcases hS with (h | h) | h
  ·rcases hO a with z | ⟨ob,xs,z⟩
   ·rw [h] at z;cases z
   ·rw [h] at z;cases z
  ·exact .inl h
  ·exact .inr h
 ·obtain ⟨d,z,e⟩:=h;rw [e];intro v H' fp fp0' _ _ _ _ _ _ o _;rw [Own] at o;exact o.1
end QQ
namespace QV
open PySem PySem.Spec PyProof.Rows L2 QQ
theorem zxn {op:PV->Nat->PV->Nat->Option (PV×Nat)}{f g:Fx}{ρ ρ1 ρ2:Rho}{x y z:PV}{d e c:Nat} (h1:f ρ=.ok (x,d,ρ1)) (h2:g ρ1=.ok (y,e,ρ2)) (h3:op x d y e=some (z,c)):bBin op f g ρ=.ok (z,c,ρ2):=by
 unfold bBin;rw [h1];dsimp only [Rz.bind];rw [h2];dsimp only;rw [h3]
theorem qiu {op:PV->Nat->Option (PV×Nat)}{f:Fx}{ρ ρ1:Rho}{x z:PV}{d c:Nat} (h1:f ρ=.ok (x,d,ρ1)) (h3:op x d=some (z,c)):bUn op f ρ=.ok (z,c,ρ1):=by
 unfold bUn;rw [h1];dsimp only [Rz.bind];rw [h3]
theorem zxf {f:Fx}{fa:Fa}{ρ ρ1 ρ2:Rho}{x:PV}{d:Nat}{xs:List (PV×Nat)} (h1:f ρ=.ok (x,d,ρ1)) (h2:fa ρ1=.ok (xs,ρ2)):zqa f fa ρ=.ok ((x,d)::xs,ρ2):=by
 unfold zqa;rw [h1];dsimp only [Rz.bind];rw [h2]
theorem zxj {f:Fx}{ρ ρ1:Rho}{x:PV}{d:Nat} (h1:f ρ=.ok (x,d,ρ1)):zqa f aNil ρ=.ok ([(x,d)],ρ1):=zxf h1 rfl
theorem zwh {op:List (PV×Nat)->Option (PV×Nat)}{fa:Fa}{ρ ρ1:Rho}{xs:List (PV×Nat)}{z:PV}{c:Nat} (h1:fa ρ=.ok (xs,ρ1)) (h2:op xs=some (z,c)):zqc op fa ρ=.ok (z,c,ρ1):=by
 unfold zqc;rw [h1];dsimp only [Rz.bind];rw [h2]
theorem zqk {F:Fn}{fa:Fa}{ρ ρ1:Rho}{xs:List (PV×Nat)}{y z:PV}{d:Nat} (h1:fa ρ=.ok (xs,ρ1)) (h2:F (xs.map (·.1))=.ok (y,d,z)):zqf F fa ρ=.ok (y,d,ρ1):=by
 unfold zqf;rw [h1];dsimp only [Rz.bind];rw [h2]
theorem zzu {f:Fx}{ρ ρ1:Rho}{x:PV}{d:Nat} (h:f ρ=.ok (x,d,ρ1)):sRet f ρ=.rt x d ρ1:=by
 unfold sRet;rw [h]
theorem zho {f:Fx}{ρ ρ1:Rho}{x:PV}{d:Nat} (h:f ρ=.ok (x,d,ρ1)):zkj f ρ=.nx ρ1:=by
 unfold zkj;rw [h]
theorem setF {i:Nat}{f:Fx}{vs:List Nat}{ρ ρ1 ρ2:Rho}{x:PV}{d:Nat} (h:f ρ=.ok (x,d,ρ1)) (hc:i < ρ1.length) (e:(zqp d vs ρ1).set i (some (x,d))=ρ2):sSet false i f vs ρ=.nx ρ2:=by
 unfold sSet;rw [h];dsimp only;rw [if_pos ⟨hc,λ h=>nomatch h⟩,e]
theorem qir {i:Nat}{f:Fx}{vs:List Nat}{ρ ρ1 ρ2:Rho}{y:PV}{e:Nat}{xs:List PV}{d0 d:Nat}{xs0:List PV} (h0:ρ[i]?=some (some (.lst xs0,d0 + 1))) (h:f ρ=.ok (y,e,ρ1)) (h1:(zqp e vs ρ1)[i]?=some (some (.lst xs,d))) (hd:d≠0) (hl:xs.length < va6)
  (e2:(zqp e vs ρ1).set i (some (.lst (xs++[y]),if d=om/\e=om then om else 1))=ρ2):sApp i f vs ρ=.nx ρ2:=by
 unfold sApp;rw [h0];dsimp only;rw [h];dsimp only;rw [h1];dsimp only;rw [if_pos ⟨hd,hl⟩,e2]
theorem zqi {f g:Fs}{ρ ρ1:Rho} (h:f ρ=.nx ρ1):sSeq f g ρ=g ρ1:=by
 unfold sSeq;rw [h]
theorem qoh {c:Fb}{f g:Fs}{ρ ρ1:Rho}{b:Bool} (hc:c ρ=.ok (b,ρ1)):sIf c f g ρ=if b=true then f ρ1 else g ρ1:=by
 unfold sIf;rw [hc]
theorem if_t {c:Fb}{f g:Fs}{ρ ρ1:Rho} (hc:c ρ=.ok (true,ρ1)):sIf c f g ρ=f ρ1:=by rw [qoh hc];rfl
theorem if_f {c:Fb}{f g:Fs}{ρ ρ1:Rho} (hc:c ρ=.ok (false,ρ1)):sIf c f g ρ=g ρ1:=by rw [qoh hc];rfl
theorem qbt {c:Fb}{f g:Fs}{ρ ρ1:Rho} (hc:c ρ=.ok (false,ρ1)):sSeq (sIf c f sNil) g ρ=g ρ1:=zqi (by rw [if_f hc];rfl)
theorem qhv {f g:Fs}{ρ ρ1:Rho}{x:PV}{d:Nat} (h:f ρ=.rt x d ρ1):sSeq f g ρ=.rt x d ρ1:=by
 unfold sSeq;rw [h]
theorem t_ok {f:Fx}{ρ ρ1:Rho}{b:Bool}{d:Nat} (h:f ρ=.ok (.bl b,d,ρ1)):bT f ρ=.ok (b,ρ1):=by
 unfold bT;rw [h];rfl
theorem qnz {f:Fx}{ρ ρ1:Rho}{b:Bool}{d:Nat} (h:f ρ=.ok (.bl b,d,ρ1)):bUn zpl f ρ=.ok (.bl (!b),om,ρ1):=qiu h rfl
theorem qo0 {f g:Fx}{ρ ρ1:Rho}{a b:Bool}{d:Nat} (h:f ρ=.ok (.bl a,d,ρ1)) (h2:a=true->g ρ1=.ok (.bl b,om,ρ1)) (hd:d=om):zkz f g ρ=.ok (.bl (a && b),om,ρ1):=by
 subst hd;unfold zkz;rw [h];cases a with
 | false=>rfl
 | true=>exact h2 rfl
theorem qkb {f g:Fx}{ρ ρ1:Rho}{a b:Bool}{d:Nat} (h:f ρ=.ok (.bl a,d,ρ1)) (h2:a=false->g ρ1=.ok (.bl b,om,ρ1)) (hd:d=om):bOrV f g ρ=.ok (.bl (a || b),om,ρ1):=by
 subst hd;unfold bOrV;rw [h];cases a with
 | true=>rfl
 | false=>exact h2 rfl
theorem zzx {f g:Fx}{ρ ρ1 ρ2:Rho}{i j:Int}{d e:Nat} (h1:f ρ=.ok (.int i,d,ρ1)) (h2:g ρ1=.ok (.int j,e,ρ2)) (h:(-(2 ^ 64) < i/\i < 2 ^ 64)\/(-(2 ^ 64) < j/\j < 2 ^ 64)):bBin zqs f g ρ=.ok (.int (i * j),om,ρ2):=by
 refine zxn h1 h2 ?_;show (if pMul i j=true then _ else _)=_;rw [if_pos];unfold pMul;rcases h with h | h
 ·rw [decide_eq_true h.1,decide_eq_true h.2];rfl
 ·rw [decide_eq_true h.1,decide_eq_true h.2];simp
theorem zyc {f g:Fx}{ρ ρ1 ρ2:Rho}{i j:Int}{d e:Nat} (h1:f ρ=.ok (.int i,d,ρ1)) (h2:g ρ1=.ok (.int j,e,ρ2)) (h:0 < j):bBin zws f g ρ=.ok (.int (i % j),om,ρ2):=by
 refine zxn h1 h2 ?_;show (if pMod i j=true then _ else _)=_;rw [if_pos];exact decide_eq_true h
theorem zfq {f g:Fx}{ρ ρ1 ρ2:Rho}{i j:Int}{d e:Nat} (h1:f ρ=.ok (.int i,d,ρ1)) (h2:g ρ1=.ok (.int j,e,ρ2)) (h:0 < j) (h':j < 2 ^ 128):bBin zqq f g ρ=.ok (.int (i / j),om,ρ2):=by
 refine zxn h1 h2 ?_;show (if pDiv i j=true then _ else _)=_;rw [if_pos];have h3:j.natAbs < 2 ^ 128:=by omega
 have h4:j.natAbs≠0:=by omega
 have h5:j.natAbs.log2 < 9000:=by have:=(Nat.log2_lt h4).mpr h3;omega
 unfold pDiv;rw [decide_eq_true h,decide_eq_true h5];rfl
theorem zwq {f g:Fx}{ρ ρ1 ρ2:Rho}{i j:Int}{d e:Nat} (h1:f ρ=.ok (.int i,d,ρ1)) (h2:g ρ1=.ok (.int j,e,ρ2)):bBin zqh f g ρ=.ok (.int (i + j),om,ρ2):=zxn h1 h2 rfl
theorem zvh {f g:Fx}{ρ ρ1 ρ2:Rho}{i j:Int}{d e:Nat} (h1:f ρ=.ok (.int i,d,ρ1)) (h2:g ρ1=.ok (.int j,e,ρ2)):bBin zxh f g ρ=.ok (.int (i - j),om,ρ2):=zxn h1 h2 rfl
theorem zjx {p:Int->Int->Bool}{f g:Fx}{ρ ρ1 ρ2:Rho}{i j:Int}{d e:Nat} (h1:f ρ=.ok (.int i,d,ρ1)) (h2:g ρ1=.ok (.int j,e,ρ2)):bBin (zxo p) f g ρ=.ok (.bl (p i j),om,ρ2):=zxn h1 h2 rfl
theorem qhh {p q:Int->Int->Bool}{f g h:Fx}{ρ:Rho}{i j k:Int}{d e c:Nat} (h1:f ρ=.ok (.int i,d,ρ)) (h2:g ρ=.ok (.int j,e,ρ)) (h3:h ρ=.ok (.int k,c,ρ)):zye p q f g h ρ=.ok (.bl (p i j && q j k),om,ρ):=by
 unfold zye;rw [h1];dsimp only [Rz.bind];rw [h2];dsimp only;by_cases hp:p i j=true
 ·rw [if_pos hp,h3,hp];rfl
 ·rw [if_neg hp]
  have:p i j=false:=by simpa using hp
  rw [this];rfl
theorem eqI {neg:Bool}{i j:Int}{d e:Nat}:opEq neg (.int i) d (.int j) e=some (.bl (neg^^decide (i=j)),om):=by
 show some (PV.bl (neg^^vj4 (.int i) (.int j)),om)=_
 have:vj4 (.int i) (.int j)=decide (i=j):=by
  show (i == j)=_;rfl
 rw [this]
theorem zhm {neg:Bool}{f g:Fx}{ρ ρ1 ρ2:Rho}{i j:Int}{d e:Nat} (h1:f ρ=.ok (.int i,d,ρ1)) (h2:g ρ1=.ok (.int j,e,ρ2)):bBin (opEq neg) f g ρ=.ok (.bl (neg^^decide (i=j)),om,ρ2):=zxn h1 h2 eqI
def il (xs:List Int):PV:=.lst (xs.map .int)
def tb (t:List (List Int)):PV:=.lst (t.map il)
abbrev bx (a b c:Int):PV:=.tup [.int a,.int b,.int c]
theorem zwc {α:Type}{xs:List α}{k:Int}{x:α} (h0:0<=k) (h:xs[k.toNat]?=some x):atI xs k=some x:=by
 have hl:=(ja9.mp h).1;unfold atI ixN;rw [if_pos h0,if_pos (by omega)];exact h
theorem zvk {f g:Fx}{ρ ρ1 ρ2:Rho}{xs:List Int}{k x:Int}{d e:Nat} (h1:f ρ=.ok (il xs,d,ρ1)) (h2:g ρ1=.ok (.int k,e,ρ2)) (h:atI xs k=some x):bBin zqd f g ρ=.ok (.int x,om,ρ2):=by
 refine zxn h1 h2 ?_;show (atI (xs.map PV.int) k).map _=_
 have:atI (xs.map PV.int) k=some (.int x):=by
  unfold atI at h ⊢;rw [ja3];cases e:ixN xs.length k with
  | none=>rw [e] at h;cases h
  | some j=>
   rw [e] at h;have h':xs[j]?=some x:=h;show (xs.map PV.int)[j]?=_;rw [jc7,h'];rfl
 rw [this];rfl
theorem qie {f g:Fx}{ρ ρ1 ρ2:Rho}{t:List (List Int)}{k:Int}{r:List Int}{d e:Nat} (h1:f ρ=.ok (tb t,d,ρ1)) (h2:g ρ1=.ok (.int k,e,ρ2)) (h:atI t k=some r):bBin zqd f g ρ=.ok (il r,0,ρ2):=by
 refine zxn h1 h2 ?_;show (atI (t.map il) k).map _=_
 have:atI (t.map il) k=some (il r):=by
  unfold atI at h ⊢;rw [ja3];cases e:ixN t.length k with
  | none=>rw [e] at h;cases h
  | some j=>
   rw [e] at h;have h':t[j]?=some r:=h;show (t.map il)[j]?=_;rw [jc7,h'];rfl
 rw [this];rfl
theorem zyd {fa:Fa}{ρ ρ1:Rho}{xs:List Int}{d:Nat} (h:fa ρ=.ok ([(il xs,d)],ρ1)):zqc zxv fa ρ=.ok (.int xs.length,om,ρ1):=by
 refine zwh h ?_;show some (PV.int ((xs.map PV.int).length:Nat),om)=_;rw [ja3]
theorem zze {α:Type}{n:Nat}{test:Fb}{elt:Fx}{enc q:α->PV}{e:α->Nat}{p:α->Bool}:∀ (xs:List α) (ρ:Rho) (acc:List (PV×Nat)),ρ.length=n->(∀ x∈xs,test (ρ++[some (enc x,dv (enc x))])=.ok (p x,ρ++[some (enc x,dv (enc x))])) ->
  (∀ x∈xs,p x=true->elt (ρ++[some (enc x,dv (enc x))])=.ok (q x,e x,ρ++[some (enc x,dv (enc x))]))->acc.length + xs.length<=va6->zwx 1 (asgN n) test elt (xs.map enc) ρ acc=.ok (acc++(xs.filter p).map (λ x=>(q x,e x)),ρ)
 | [],ρ,acc,_,_,_,_=>by simp [zwx]
 | x::xs,ρ,acc,hn,ht,he,hl=>by
  have ea:asgN n (enc x) (ρ++ja2 1 none)=some (ρ++[some (enc x,dv (enc x))]):=by
   unfold asgN;rw [if_pos (by rw [jb1,hn];simp),List.set_append_right _ _ (by omega),hn];simp
  have ih:=λ acc h=>zze (n:=n) (test:=test) (elt:=elt) (p:=p) (q:=q) (e:=e) (enc:=enc) xs ρ acc hn (λ y hy=>ht y (ja0 _ hy)) (λ y hy=>he y (ja0 _ hy)) h;have tk:(ρ++[some (enc x,dv (enc x))]).take ρ.length=ρ:=by simp
  rw [jb2] at hl;rw [jb7];unfold zwx;rw [ea];dsimp only;rw [ht x ja1];dsimp only [Rz.bindN];cases hp:p x with
  | false=>
   rw [if_neg jb9,tk,ih acc (by omega),List.filter_cons_of_neg (by simp [hp])]
  | true=>
   rw [if_pos rfl,he x ja1 hp];dsimp only;rw [if_pos (by omega),tk,ih _ (by rw [jb1,jd7];omega),List.filter_cons_of_pos hp];simp
theorem zzy {α:Type} (q:α->PV):∀ xs:List α,zzr (xs.map λ x=>(q x,om))=true
 | []=>rfl
 | x::xs=>by rw [jb7];unfold zzr;rw [zzy q xs];rfl
theorem qhe {α:Type}{n:Nat}{f elt:Fx}{enc q:α->PV}{ρ ρ1:Rho}{d:Nat} (xs:List α) (hf:f ρ=.ok (.lst (xs.map enc),d,ρ1)) (hn:ρ1.length=n) (he:∀ x∈xs,elt (ρ1++[some (enc x,dv (enc x))])=.ok (q x,om,ρ1++[some (enc x,dv (enc x))])) (hl:xs.length<=va6):
  zxy f 1 (asgN n) zxz elt ρ=.ok (.lst (xs.map q),om,ρ1):=by
 unfold zxy;rw [hf];dsimp only;rw [zze (p:=λ _=>true) (q:=q) (e:=λ _=>om) xs ρ1 [] hn (λ _ _=>rfl) (λ x hx _=>he x hx) (by simpa using hl),jh0.mpr (λ _ _=>rfl)];show zvg (xs.map λ x=>(q x,om)) ρ1=_;unfold zvg;rw [zzy,jd8];rfl
theorem qhd {α:Type}{n:Nat}{f elt:Fx}{enc q:α->PV}{ρ ρ1:Rho}{d:Nat} (xs:List α) (hf:f ρ=.ok (.tup (xs.map enc),d,ρ1)) (hn:ρ1.length=n) (he:∀ x∈xs,elt (ρ1++[some (enc x,dv (enc x))])=.ok (q x,om,ρ1++[some (enc x,dv (enc x))])) (hl:xs.length<=va6):
  zxy f 1 (asgN n) zxz elt ρ=.ok (.lst (xs.map q),om,ρ1):=by
 unfold zxy;rw [hf];dsimp only;rw [zze (p:=λ _=>true) (q:=q) (e:=λ _=>om) xs ρ1 [] hn (λ _ _=>rfl) (λ x hx _=>he x hx) (by simpa using hl),jh0.mpr (λ _ _=>rfl)];show zvg (xs.map λ x=>(q x,om)) ρ1=_;unfold zvg;rw [zzy,jd8];rfl
theorem qhf {α:Type}{n:Nat}{f elt:Fx}{test:Fb}{enc q:α->PV}{p:α->Bool}{ρ ρ1:Rho}{d:Nat} (xs:List α) (hf:f ρ=.ok (.lst (xs.map enc),d,ρ1)) (hn:ρ1.length=n) (ht:∀ x∈xs,test (ρ1++[some (enc x,dv (enc x))])=.ok (p x,ρ1++[some (enc x,dv (enc x))])) (he:∀ x∈xs,p x=true->elt (ρ1++[some (enc x,dv (enc x))])=.ok (q x,om,ρ1++[some (enc x,dv (enc x))])) (hl:xs.length<=va6):
  zxy f 1 (asgN n) test elt ρ=.ok (.lst ((xs.filter p).map q),om,ρ1):=by
 unfold zxy;rw [hf];dsimp only;rw [zze (p:=p) (q:=q) (e:=λ _=>om) xs ρ1 [] hn ht he (by simpa using hl)];show zvg ((xs.filter p).map λ x=>(q x,om)) ρ1=_;unfold zvg;rw [zzy,jd8];rfl
theorem zvx (lo:Int) (n:Nat):zzv lo n=(jb0 n).map λ (k:Nat)=>PV.int (lo + (k:Int)):=rfl
theorem zpx {n:Nat}{en:List (PV×Nat)->Option (Int×Int)}{fa:Fa}{elt:Fx}{q:Nat->PV}{ρ ρ1:Rho}{as:List (PV×Nat)}{lo hi:Int} (hf:fa ρ=.ok (as,ρ1)) (hen:en as=some (lo,hi)) (hn:ρ1.length=n) (he:∀ k,k < (hi - lo).toNat->elt (ρ1++[some (.int (lo + (k:Int)),om)])=.ok (q k,om,ρ1++[some (.int (lo + (k:Int)),om)])) (hl:(hi - lo).toNat<=va6):
  zxg en fa 1 (asgN n) zxz elt ρ=.ok (.lst ((jb0 (hi - lo).toNat).map q),om,ρ1):=by
 unfold zxg;rw [hf];dsimp only;rw [hen];dsimp only;rw [zvx,zze (enc:=λ (k:Nat)=>PV.int (lo + (k:Int))) (p:=λ _=>true) (q:=q) (e:=λ _=>om) (jb0 (hi - lo).toNat) ρ1 [] hn (λ _ _=>rfl) (λ x hx _=>he x (jd0.mp hx)) (by simpa using hl),jh0.mpr (λ _ _=>rfl)];show zvg ((jb0 (hi - lo).toNat).map λ x=>(q x,om)) ρ1=_;unfold zvg;rw [zzy,jd8];rfl
theorem qhm {α:Type} (g:α->Bool) (xs:List α):QQ.allB (xs.map λ x=>.bl (g x))=some (xs.map g):=by
 induction xs with
 | nil=>rfl
 | cons x r ih=>rw [jb7,jb7,QQ.allB,ih];rfl
theorem all_ok {α:Type}{f:Fx}{ρ ρ1:Rho}{d:Nat}{g:α->Bool}{xs:List α} (h:f ρ=.ok (.lst (xs.map λ x=>.bl (g x)),d,ρ1)):zqc qb0 (zqa f aNil) ρ=.ok (.bl (xs.all g),om,ρ1):=by
 refine zwh (zxj h) ?_;show (QQ.allB _).map _=_;rw [qhm];simp
theorem qa6 {i:Nat}{body:Fs}{lo:Int} (I:Nat->Rho->Prop):∀ (m k:Nat) (ρ:Rho),I k ρ->(∀ j ρ,k<=j->j < k + m->I j ρ->i < ρ.length/\∃ ρ2,body (ρ.set i (some (.int (lo + (j:Int)),om)))=.nx ρ2/\I (j + 1) ρ2) ->
  ∃ ρ',zxe (asgN i) body ((jj3 k m).map λ (k:Nat)=>PV.int (lo + (k:Int))) ρ=.nx ρ'/\I (k + m) ρ'
 | 0,k,ρ,hi,_=>⟨ρ,rfl,hi⟩
 | m + 1,k,ρ,hi,hb=>by
  obtain ⟨h1,ρ2,e2,h2⟩:=hb k ρ (ja8 _) (by omega) hi;obtain ⟨ρ',e',h'⟩:=qa6 (i:=i) (body:=body) (lo:=lo) I m (k + 1) ρ2 h2 λ j ρ a b=>hb j ρ (by omega) (by omega);refine ⟨ρ',?_,by rw [show k + (m + 1)=k + 1 + m by omega];exact h'⟩;rw [jm0,jb7];unfold zxe
  have:asgN i (PV.int (lo + (k:Int))) ρ=some (ρ.set i (some (.int (lo + (k:Int)),om))):=by
   unfold asgN;rw [if_pos h1];rfl
  rw [this];dsimp only;rw [e2];exact e'
theorem zzl {i:Nat}{body:Fs}{en:List (PV×Nat)->Option (Int×Int)}{fa:Fa}{ρ ρ1:Rho}{as:List (PV×Nat)}{lo hi:Int} (I:Nat->Rho->Prop) (hf:fa ρ=.ok (as,ρ1)) (hen:en as=some (lo,hi)) (h0:I 0 ρ1)
  (hb:∀ j ρ,j < (hi - lo).toNat->I j ρ->i < ρ.length/\∃ ρ2,body (ρ.set i (some (.int (lo + (j:Int)),om)))=.nx ρ2/\I (j + 1) ρ2):∃ ρ',zwe en fa (asgN i) body ρ=.nx ρ'/\I (hi - lo).toNat ρ':=by
 obtain ⟨ρ',e,h⟩:=qa6 (i:=i) (body:=body) (lo:=lo) I (hi - lo).toNat 0 ρ1 h0 λ j ρ _ h hi=>hb j ρ (by omega) hi;refine ⟨ρ',?_,by rw [jj4] at h;exact h⟩;unfold zwe;rw [hf];dsimp only;rw [hen];dsimp only;rw [zvx,jn0];exact e
theorem zxt {j:Int}{d:Nat} (h1:-(2 ^ 62)<=j) (h2:j < 2 ^ 62):zqt [(.int j,d)]=some (0,j):=by
 show (if -(2 ^ 62)<=j/\j < 2 ^ 62 then some ((0:Int),j) else none)=_;rw [if_pos ⟨h1,h2⟩]
theorem zww {np k:Nat}{b:Fs}{xs:List PV}{ρ':Rho}{y:PV}{d:Nat} (hl:xs.length=np) (h:b (xs.map (λ x=>some (x,dv x))++ja2 k none)=.rt y d ρ'):mkFn false np k b xs=.ok (y,d,.non):=by
 unfold mkFn;rw [if_pos hl]
 have:zwo false xs=xs.map λ x=>some (x,dv x):=rfl
 rw [this,h];rfl
theorem qpo {np k:Nat}{b:Fs}{xs:List PV}{ρ':Rho} (hl:xs.length=np) (h:b (xs.map (λ x=>some (x,dv x))++ja2 k none)=.nx ρ'):mkFn false np k b xs=.ok (.non,om,.non):=by
 unfold mkFn;rw [if_pos hl]
 have:zwo false xs=xs.map λ x=>some (x,dv x):=rfl
 rw [this,h];rfl
def Xf_is_whole_number:Fs:=(sRet (zkz (bUn (qdv "int") (bVar 0)) (bUn zpl (bUn (qdv "bool") (bVar 0)))))
def f_is_whole_number:Fn:=mkFn false 1 0 Xf_is_whole_number
def Xf_is_box:Fs:=(sSeq (sIf (bT (bOrV (bUn zpl (bUn (qdv "tuple") (bVar 0))) (bBin (opEq true) (zqc zxv (zqa (bVar 0) (aNil))) (bC (.int 3))))) (sRet (bC (.bl false))) sNil)
 (sRet (zqc qb0 (zqa (zxy (bVar 0) 1 (asgN 1) zxz (zkz (zqf f_is_whole_number (zqa (bVar 1) (aNil))) (bBin (zxo λ i j=>decide (j<=i)) (bVar 1) (bC (.int 1))))) (aNil)))))
def f_is_box:Fn:=mkFn false 1 0 Xf_is_box
def Xf_must_be_box:Fs:=(sIf (bT (bUn zpl (zqf f_is_box (zqa (bVar 0) (aNil))))) sNo sNil)
def f_must_be_box:Fn:=mkFn false 1 0 Xf_must_be_box
def Xb_cell_at:Fs:=(sSeq (sIf (bT (bBin (zxo λ i j=>decide (i < j)) (bVar 1) (zqc zxv (zqa (bVar 0) (aNil))))) (sRet (bBin zqd (bVar 0) (bVar 1))) sNil)
 (sRet (bC (.int 0))))
def b_cell_at:Fn:=mkFn false 2 0 Xb_cell_at
def Xf_places_of:Fs:=(sSeq (sSet false 1 (zqc zql (aNil)) [])
 (sSeq (zwe zqt (zqa (bBin zqd (bVar 0) (bC (.int 0))) (aNil)) (asgN 2) (sExt 1 (zxg zqt (zqa (bBin zqd (bVar 0) (bC (.int 1))) (aNil)) 1 (asgN 3) zxz (zqc zwa (zqa (bVar 2) (zqa (bVar 3) (aNil))))) [2]))
 (zzt 1)))
def f_places_of:Fn:=mkFn false 1 2 Xf_places_of
theorem sz:(1000000:Nat)<=va6:=by decide
def boxB (a b c:Int):Bool:=decide (1<=a) && (decide (1<=b) && decide (1<=c))
theorem qeg (a b c:Int):f_is_box [bx a b c]=.ok (.bl (boxB a b c),om,.non):=by
 have e0:∀ x∈[a,b,c],(zkz (zqf f_is_whole_number (zqa (bVar 1) (aNil))) (bBin (zxo λ i j=>decide (j<=i)) (bVar 1) (bC (.int 1)))) ([some (bx a b c,0)]++[some (.int x,om)])=.ok (.bl (decide (1<=x)),om,[some (bx a b c,0)]++[some (.int x,om)]):=λ x _=>by kernel_rfl
 have e1:=qhd (n:=1) (f:=bVar 0) (ρ:=[some (bx a b c,0)]) (enc:=PV.int) (q:=λ x=>.bl (decide (1<=x))) (d:=0) [a,b,c] rfl rfl e0 (by have:=sz;show 3<=va6;omega);refine zww rfl (ρ':=[some (bx a b c,0)]) ?_;show Xf_is_box [some (bx a b c,0)]=_;refine (qbt (ρ1:=[some (bx a b c,0)]) (by kernel_rfl)).trans (zzu ?_);rw [all_ok e1];show Rz.ok (PV.bl (decide (1<=a) && (decide (1<=b) && (decide (1<=c) && true))),om,_)=_;rw [jk1];rfl
theorem zvo {a b c:Int} (h:boxB a b c=true):f_must_be_box [bx a b c]=.ok (.non,om,.non):=by
 refine qpo rfl (ρ':=[some (bx a b c,0)]) ?_;have hb:=qeg a b c;rw [h] at hb;exact if_f (f:=sNo) (g:=sNil) (t_ok (qnz (zqk (F:=f_is_box) (fa:=zqa (bVar 0) aNil) (ρ:=[some (bx a b c,0)]) (xs:=[(bx a b c,0)]) rfl hb)))
theorem zwi {xs:List Int}{j:Nat} (h:j < xs.length):xs[j]?=some (xs.getD j 0):=by
 rw [ja6,jc4 h];rfl
theorem zfn {xs:List (List Int)}{j:Nat} (h:j < xs.length):xs[j]?=some (xs.getD j []):=by
 rw [ja6,jc4 h];rfl
def Tab (a b:Nat) (t:List (List Int)):Prop:=t.length=a/\∀ r∈t,r.length=b
def g (t:List (List Int)) (i j:Nat):Int:=(t.getD i []).getD j 0
structure Pile (a b:Nat) (c:Int) (t:List (List Int)):Prop where
 tab:Tab a b t
 lo:∀ i j,i < a->j < b->0<=g t i j
 hi:∀ i j,i < a->j < b->g t i j<=c
 dn:∀ i j,i + 1 < a->j < b->g t (i + 1) j<=g t i j
 rt:∀ i j,i < a->j + 1 < b->g t i (j + 1)<=g t i j
theorem qjn {t:List (List Int)}{i:Nat} (h:i < t.length):t.getD i []∈t:=by
 rw [ja6,jc4 h];exact ji0 h
theorem Tab.row {a b:Nat}{t:List (List Int)} (h:Tab a b t) {i:Nat} (hi:i < a):(t.getD i []).length=b:=h.2 _ (qjn (by rw [h.1];exact hi))
theorem qac {α:Type}{f:PV->Option vl3}{e:α->PV}{q:α->vl3} (h:∀ x,f (e x)=some (q x)):∀ xs:List α,toDL f (xs.map e)=some (xs.map q)
 | []=>rfl
 | x::xs=>by rw [jb7,toDL,h,qac h xs];rfl
theorem qhp (n:Nat) (xs:List Int):toD (n + 2) (il xs)=some (.list (xs.map .int)):=by
 show (toDL (toD (n + 1)) (xs.map PV.int)).map PyData.list=_;rw [qac (q:=PyData.int) (λ x=>rfl)];rfl
theorem zbt:∀ xs ys:List Int,PyData.eqvAll (xs.map .int) (ys.map .int)=decide (xs=ys)
 | [],[]=>rfl
 | [],y::ys=>rfl
 | x::xs,[]=>rfl
 | x::xs,y::ys=>by
  rw [jb7,jb7,PyData.eqvAll,zbt xs ys];show ((x == y) && _)=_;by_cases h:x=y
  ·subst h;by_cases h2:xs=ys
   ·subst h2;simp
   ·simp [h2]
  ·simp [h]
theorem qk5 {neg:Bool}{f h:Fx}{ρ ρ1 ρ2:Rho}{xs ys:List Int}{d e:Nat} (h1:f ρ=.ok (il xs,d,ρ1)) (h2:h ρ1=.ok (il ys,e,ρ2)):bBin (opEq neg) f h ρ=.ok (.bl (neg^^decide (xs=ys)),om,ρ2):=by
 refine zxn h1 h2 ?_;unfold opEq;rw [qhp 18,qhp 18];show some (PV.bl (neg^^vj4 _ _),om)=_;rw [vj4,zbt]
theorem qku {f h:Fx}{ρ ρ1 ρ2:Rho}{xs:List Int}{k x:Int}{d e:Nat} (h1:f ρ=.ok (.scr xs,d,ρ1)) (h2:h ρ1=.ok (.int k,e,ρ2)) (hx:atI xs k=some x):bBin zqd f h ρ=.ok (.int x,om,ρ2):=by
 refine zxn h1 h2 ?_;show (atI xs k).map _=_;rw [hx];rfl
theorem qlf (ns:List Int) (k:Nat):b_cell_at [.scr ns,.int (k:Int)]=.ok (.int (ns.getD k 0),om,.non):=by
 let R:Rho:=[some (.scr ns,om),some (.int (k:Int),om)]
 have t1:bT (bBin (zxo λ i j=>decide (i < j)) (bVar 1) (zqc zxv (zqa (bVar 0) (aNil)))) R=.ok (decide ((k:Int) < (ns.length:Int)),R):=rfl;refine zww rfl (ρ':=R) ?_;by_cases h:(k:Int) < (ns.length:Int)
 ·rw [decide_eq_true h] at t1;exact qhv ((if_t t1).trans (zzu (qku (xs:=ns) (k:=(k:Int)) (d:=om) rfl rfl (zwc (by omega) (zwi (by omega))))))
 ·rw [decide_eq_false h] at t1;refine (qbt t1).trans ((zzu (d:=om) rfl).trans ?_);rw [ja6,jf7 (by omega)];rfl
theorem qlm {f h:Fx}{ρ ρ1 ρ2:Rho}{xs ys:List PV}{d e:Nat} (h1:f ρ=.ok (.lst xs,d,ρ1)) (h2:h ρ1=.ok (.lst ys,e,ρ2)) (hl:xs.length + ys.length<=va6):bBin zqh f h ρ=.ok (.lst (xs++ys),d1 (xs++ys),ρ2):=by
 refine zxn h1 h2 ?_;show (if _ then _ else _)=_;rw [if_pos hl]
theorem zks:∀ xs:List Int,zvj (xs.map PV.int)=some xs
 | []=>rfl
 | x::xs=>by rw [jb7,zvj,zks xs];rfl
theorem zge:∀ xs:List Int,qcb (xs.map PV.int)=true
 | []=>rfl
 | x::xs=>by rw [jb7,qcb,zge xs];rfl
theorem zfu (xs:List Int):d1 (xs.map PV.int)=om:=by unfold d1;rw [zge];rfl
theorem qki {f:Fx}{ρ ρ1:Rho}{xs:List Int}{d:Nat} (h:f ρ=.ok (il xs,d,ρ1)):zqc zbl (zqa f aNil) ρ=.ok (il xs,om,ρ1):=by
 refine zwh (zxj h) ?_;show some (PV.lst (xs.map PV.int),d1 (xs.map PV.int))=_;rw [zfu];rfl
theorem zjm {asg:PV->Rho->Option Rho}{body:Fs}:∀ (els:List PV) (I:Nat->Rho->Prop) (ρ:Rho),I 0 ρ->(∀ j x ρ,els[j]?=some x->I j ρ->∃ ρ1 ρ2,asg x ρ=some ρ1/\body ρ1=.nx ρ2/\I (j + 1) ρ2)->∃ ρ',zxe asg body els ρ=.nx ρ'/\I els.length ρ'
 | [],I,ρ,h,_=>⟨ρ,rfl,h⟩
 | x::xs,I,ρ,h,hb=>by
  obtain ⟨ρ1,ρ2,e1,e2,h2⟩:=hb 0 x ρ rfl h;obtain ⟨ρ',e',h'⟩:=zjm xs (λ j=>I (j + 1)) ρ2 h2 λ j y ρ hy hi=>hb (j + 1) y ρ (by simpa using hy) hi;refine ⟨ρ',?_,h'⟩;unfold zxe;rw [e1];dsimp only;rw [e2];exact e'
theorem qg5 {v:Vw}{fa:Fa}{vs:List Nat}{asg:PV->Rho->Option Rho}{body:Fs}{ρ ρ1 ρ2:Rho}{xs:List (PV×Nat)}{els:List PV} (I:Nat->Rho->Prop) (hf:fa ρ=.ok (xs,ρ1)) (he:zkg v (xs.map (·.1))=some els) (ec:zqp (if zzr xs=true then om else 0) vs ρ1=ρ2) (h0:I 0 ρ2)
  (hb:∀ j x ρ,els[j]?=some x->I j ρ->∃ ρ1 ρ2,asg x ρ=some ρ1/\body ρ1=.nx ρ2/\I (j + 1) ρ2):∃ ρ',zba v fa vs asg body ρ=.nx ρ'/\I els.length ρ':=by
 obtain ⟨ρ',e,h⟩:=zjm els I ρ2 h0 hb;refine ⟨ρ',?_,h⟩;unfold zba;rw [hf];dsimp only;rw [he];dsimp only;rw [ec];exact e
theorem qif {i:Nat}{f:Fx}{vs:List Nat}{ρ ρ1 ρ2:Rho}{ys:List PV}{e:Nat}{xs:List PV}{d0 d:Nat}{xs0:List PV} (h0:ρ[i]?=some (some (.lst xs0,d0 + 1))) (h:f ρ=.ok (.lst ys,e,ρ1)) (h1:(zqp e vs ρ1)[i]?=some (some (.lst xs,d))) (hd:d≠0) (hl:xs.length + ys.length<=va6)
  (e2:(zqp e vs ρ1).set i (some (.lst (xs++ys),1))=ρ2):sExt i f vs ρ=.nx ρ2:=by
 unfold sExt;rw [h0];dsimp only;rw [h];dsimp only;rw [h1];dsimp only;rw [if_pos ⟨hd,hl⟩,e2]
theorem qf8 {xs:List Int} (h1:xs.length<=1000) (h2:∀ x∈xs,-1000000<=x/\x<=1000000):zyf xs=true:=by
 unfold zyf;rw [ja4,decide_eq_true_iff,jc1];refine ⟨by omega,λ x hx=>?_⟩
 have:=h2 x hx
 rw [ja4,decide_eq_true_iff,decide_eq_true_iff];omega
theorem qcv {fa:Fa}{ρ ρ1:Rho}{xs:List Int}{d:Nat} (h:fa ρ=.ok ([(il xs,d)],ρ1)) (hs:zyf xs=true):zqc zvn fa ρ=.ok (.int xs.sum,om,ρ1):=by
 refine zwh h ?_;show (match zvj (xs.map PV.int) with | some ns=>if zyf ns=true then some (PV.int ns.sum,om) else none | none=>none)=_;rw [zks];dsimp only;rw [if_pos hs]
theorem zvf {α:Type}{asg:PV->Rho->Option Rho}{body:Fs}{enc:α->PV} (P:List α->Rho->Prop):∀ (xs pre:List α) (ρ:Rho),P pre ρ->(∀ p x s ρ,pre++xs=p++x::s->P p ρ->∃ ρ1 ρ2,asg (enc x) ρ=some ρ1/\body ρ1=.nx ρ2/\P (p++[x]) ρ2) ->
  ∃ ρ',zxe asg body (xs.map enc) ρ=.nx ρ'/\P (pre++xs) ρ'
 | [],pre,ρ,h,_=>⟨ρ,rfl,by simpa using h⟩
 | x::xs,pre,ρ,h,hb=>by
  obtain ⟨ρ1,ρ2,e1,e2,h2⟩:=hb pre x xs ρ rfl h;obtain ⟨ρ',e',h'⟩:=zvf P xs (pre++[x]) ρ2 h2 λ p y s ρ e=>hb p y s ρ (by rw [<- e];simp);refine ⟨ρ',?_,by simpa using h'⟩;rw [jb7];unfold zxe;rw [e1];dsimp only;rw [e2];exact e'
theorem qkz {v:Vw}{fa:Fa}{vs:List Nat}{asg:PV->Rho->Option Rho}{body:Fs}{ρ ρ1 ρ2:Rho}{r:Rs}{xs:List (PV×Nat)}{els:List PV} (hf:fa ρ=.ok (xs,ρ1)) (he:zkg v (xs.map (·.1))=some els) (ec:zqp (if zzr xs=true then om else 0) vs ρ1=ρ2) (h:zxe asg body els ρ2=r):zba v fa vs asg body ρ=r:=by
 unfold zba;rw [hf];dsimp only;rw [he];dsimp only;rw [ec,h]
theorem zvq {f:Fx}{vs:List Nat}{asg:PV->Rho->Option Rho}{body:Fs}{ρ ρ1 ρ2:Rho}{r:Rs}{els:List PV}{d:Nat} (hf:f ρ=.ok (.lst els,d,ρ1)) (ec:zqp d vs ρ1=ρ2) (h:zxe asg body els ρ2=r):zzg f vs asg body ρ=r:=by
 unfold zzg;rw [hf];dsimp only;rw [ec,h]
theorem qk1 {en:List (PV×Nat)->Option (Int×Int)}{fa:Fa}{asg:PV->Rho->Option Rho}{body:Fs}{ρ ρ1:Rho}{r:Rs}{as:List (PV×Nat)}{n:Nat} (hf:fa ρ=.ok (as,ρ1)) (hen:en as=some (0,(n:Int))) (h:zxe asg body ((jb0 n).map λ (k:Nat)=>.int (k:Int)) ρ1=r):zwe en fa asg body ρ=r:=by
 unfold zwe;rw [hf];dsimp only;rw [hen];dsimp only;rw [zvx,show ((n:Int) - 0).toNat=n by omega,<- h];congr 2;funext k;rw [jf8]
def zxu (a b:Nat):List (Nat×Nat):=(jb0 a).flatMap λ i=>(jb0 b).map λ j=>(i,j)
def pr (z:Nat×Nat):PV:=.tup [.int (z.1:Int),.int (z.2:Int)]
theorem zgs {a b:Nat}{z:Nat×Nat}:z∈zxu a b↔z.1 < a/\z.2 < b:=by
 unfold zxu;simp only [jj9,jd4,jd0];constructor
 ·rintro ⟨i,hi,j,hj,rfl⟩;exact ⟨hi,hj⟩
 ·intro h;exact ⟨z.1,h.1,z.2,h.2,rfl⟩
theorem qbb {α:Type}{q:Nat->List α}{b:Nat} (h:∀ i,(q i).length=b):∀ a,((jb0 a).flatMap q).length=a * b
 | 0=>by simp
 | a + 1=>by rw [jg8,ji3,jb1,qbb h a,jq5];simp [h]
theorem zjf (a b:Nat):(zxu a b).length=a * b:=qbb (λ i=>by rw [ja3,je6]) a
theorem qmy {R:Rho}{fn:Fx}{b i:Nat}{n:Nat} (hb:b<=100) (hn:R.length=n) (hf:fn R=.ok (.int (b:Int),om,R)) (he:∀ k,k < b->zqc zwa (zqa (bVar 2) (zqa (bVar n) (aNil))) (R++[some (.int (k:Int),om)])=.ok (pr (i,k),om,R++[some (.int (k:Int),om)])):
  zxg zqt (zqa fn (aNil)) 1 (asgN n) zxz (zqc zwa (zqa (bVar 2) (zqa (bVar n) (aNil)))) R=.ok (.lst (((jb0 b).map λ j=>(i,j)).map pr),om,R):=by
 have z:=sz;have w:=zpx (n:=n) (en:=zqt) (fa:=zqa fn aNil) (elt:=zqc zwa (zqa (bVar 2) (zqa (bVar n) (aNil)))) (ρ:=R) (ρ1:=R) (as:=[(.int (b:Int),om)]) (lo:=0) (hi:=(b:Int)) (q:=λ m=>pr (i,m)) (zxj hf) (zxt (by omega) (by omega)) hn (λ m hm=>by rw [jf8];exact he m (by omega)) (by omega);rw [w,show ((b:Int) - 0).toNat=b by omega,jd8];rfl
theorem zyb (a b:Nat):zxu (a + 1) b=zxu a b++(jb0 b).map λ j=>(a,j):=by
 unfold zxu;rw [jg8,ji3];simp
theorem qdj {a b c:Nat} (ha:a<=100) (hb:b<=100):∃ d,d≠0/\f_places_of [bx a b c]=.ok (.lst ((zxu a b).map pr),d,.non):=by
 have z:=sz;let R (s1 s2:QQ.Slot):Rho:=[some (bx a b c,0),s1,s2]
 have s1:sSet false 1 (zqc zql (aNil)) [] (R none none)=.nx (R (some (.lst [],om)) none):=by kernel_rfl
 obtain ⟨ρ',e',d,s2,hd,rfl⟩:=zzl (i:=2) (en:=zqt) (fa:=zqa (bBin zqd (bVar 0) (bC (.int 0))) aNil) (body:=sExt 1 (zxg zqt (zqa (bBin zqd (bVar 0) (bC (.int 1))) (aNil)) 1 (asgN 3) zxz (zqc zwa (zqa (bVar 2) (zqa (bVar 3) (aNil))))) [2]) (ρ:=R (some (.lst [],om)) none) (lo:=0) (hi:=(a:Int)) (as:=[(.int (a:Int),om)])
  (λ k ρ=>∃ d s2,d≠0/\ρ=R (some (.lst ((zxu k b).map pr),d)) s2) rfl (zxt (by omega) (by omega)) ⟨om,none,by decide,rfl⟩ (by
   rintro i _ hi ⟨d,s2,hd,rfl⟩;obtain ⟨d0,rfl⟩:∃ d0,d=d0 + 1:=⟨d - 1,by omega⟩
   rw [jf8];refine ⟨(show 2 < 3 by decide),_,qif (i:=1) (d0:=d0) (d:=d0 + 1) rfl (qmy (R:=R (some (.lst ((zxu i b).map pr),d0 + 1)) (some (.int (i:Int),om))) (i:=i) hb rfl rfl λ k _=>rfl) rfl hd ?_ rfl,1,some (.int (i:Int),om),by decide,?_⟩
   ·rw [ja3,ja3,ja3,je6,zjf]
    have:i * b<=100 * 100:=jn1 (by omega) hb
    omega
   ·show R (some (PV.lst ((zxu i b).map pr++((jb0 b).map λ j=>(i,j)).map pr),1)) _=R (some (PV.lst ((zxu (i + 1) b).map pr),1)) _;rw [zyb,je4])
 rw [show ((a:Int) - 0).toNat=a by omega] at e';exact ⟨d,hd,zww rfl ((zqi s1).trans ((zqi e').trans rfl))⟩
def Xf_rows_of_heights:Fs:=(sSeq (sSet false 2 (zqc zql (zqa (zqc zwa (aNil)) (aNil))) [])
 (sSeq (zwe zqt (zqa (bVar 0) (aNil)) (asgN 3) (sSeq (sSet false 4 (zqc zql (aNil)) [])
 (sSeq (zzg (bVar 2) [2] (asgN 5) (sSeq (sSet false 6 (bIfE (bT (bBin (zxo λ i j=>decide (j < i)) (bVar 3) (bC (.int 0)))) (bBin zqd (bVar 5) (bUn zyh (bC (.int 1)))) (bVar 1)) [5,1])
 (sExt 4 (zxg zqt (zqa (bBin zqh (bVar 6) (bC (.int 1))) (aNil)) 1 (asgN 7) zxz (bBin zqh (bVar 5) (zqc zwa (zqa (bVar 7) (aNil))))) [5])))
 (sSet false 2 (bVar 4) [4]))))
 (zzt 2)))
def f_rows_of_heights:Fn:=mkFn false 2 5 Xf_rows_of_heights
def Xf_added:Fs:=(sSeq (sSet false 2 (bBin zqh (zqc zbl (zqa (bVar 0) (aNil))) (bBin zqs (zqc zql (zqa (bC (.int 0)) (aNil))) (bBin zxh (zqc zxv (zqa (bVar 1) (aNil))) (zqc zxv (zqa (bVar 0) (aNil)))))) [0,1,0])
 (sSeq (zba .enm (zqa (bVar 1) (aNil)) [1] (asgT [3,4]) (zgm (λ i j=>i + j) 2 (bVar 3) (bVar 4)))
 (zzt 2)))
def f_added:Fn:=mkFn false 2 3 Xf_added
def Xf_sums_of_lower_rows:Fs:=(sSeq (sSet false 2 (zqc zfd (zqa (bVar 0) (aNil))) [0])
 (sSeq (zwe zqt (zqa (bVar 1) (aNil)) (asgN 3) (zmv (bVar 0) [0] (asgN 4) (sSeq (sSet false 5 (bBin zqh (bBin zqh (bSl (bVar 4) none (some (bVar 3))) (zqc zwa (zqa (bBin zxh (bBin zqd (bVar 4) (bVar 3)) (bC (.int 1))) (aNil)))) (bSl (bVar 4) (some (bBin zqh (bVar 3) (bC (.int 1)))) none)) [4,4,3,4])
 (sIf (bT (bBin (opIn false) (bVar 5) (bVar 2))) (zwd 2 (bVar 4) (zqf f_added (zqa (bBin zqd (bVar 2) (bVar 4)) (zqa (bBin zqd (bVar 2) (bVar 5)) (aNil))))) sNil))))
 (zzt 2)))
def f_sums_of_lower_rows:Fn:=mkFn false 2 4 Xf_sums_of_lower_rows
def Xf_lies_between:Fs:=(sRet (zqc qb0 (zqa (zxg zqt (zqa (zqc zxv (zqa (bVar 0) (aNil))) (aNil)) 1 (asgN 3) zxz (zye (λ i j=>decide (i<=j)) (λ i j=>decide (i<=j)) (bBin zqd (bVar 1) (bVar 3)) (bBin zqd (bVar 0) (bVar 3)) (bBin zqd (bVar 2) (bVar 3)))) (aNil))))
def f_lies_between:Fn:=mkFn false 3 0 Xf_lies_between
def Xf_table_of_row:Fs:=(sSeq (sSet false 4 bDct [])
 (sSeq (zmv (bVar 0) [0] (asgN 5) (sIf (bT (zqf f_lies_between (zqa (bVar 5) (zqa (bVar 1) (zqa (bVar 2) (aNil)))))) (zwd 4 (bVar 5) (bBin zqh (bBin zqs (zqc zql (zqa (bC (.int 0)) (aNil))) (zqc zvn (zqa (zxy (bVar 3) 1 (asgN 6) zxz (bBin zqd (bVar 5) (bVar 6))) (aNil)))) (bBin zqd (bVar 0) (bVar 5)))) (zwd 4 (bVar 5) (zqc zql (aNil)))))
 (zzt 4)))
def f_table_of_row:Fn:=mkFn false 4 2 Xf_table_of_row
def Xf_tables_between:Fs:=(sSeq (sUnp (asgT [4,5,6]) (bVar 0) [0])
 (sSeq (sSet false 7 bDct [])
 (sSeq (zzg (zqf f_rows_of_heights (zqa (bVar 5) (zqa (bVar 6) (aNil)))) [5,6] (asgN 8) (zwd 7 (bVar 8) (bIfE (bT (bBin (opEq false) (zqc zvn (zqa (bVar 8) (aNil))) (bC (.int 0)))) (zqc zql (zqa (bC (.int 1)) (aNil))) (zqc zql (aNil)))))
 (sSeq (sSet false 9 (zqc zql (aNil)) [])
 (sSeq (zjd (zqa (bBin zxh (bVar 4) (bC (.int 1))) (zqa (bUn zyh (bC (.int 1))) (zqa (bUn zyh (bC (.int 1))) (aNil)))) (asgN 10) (sSeq (sSet false 11 (zxy (bVar 3) 1 (asgN 12) (bT (bBin (opEq false) (bBin zqd (bVar 12) (bC (.int 0))) (bVar 10))) (bBin zqd (bVar 12) (bC (.int 1)))) [3,3])
 (sSeq (sSet false 7 (zqf f_table_of_row (zqa (zqf f_sums_of_lower_rows (zqa (bVar 7) (zqa (bVar 5) (aNil)))) (zqa (bBin zqd (bVar 1) (bVar 10)) (zqa (bBin zqd (bVar 2) (bVar 10)) (zqa (bVar 11) (aNil)))))) [7,5,1,10,2,10,11])
 (sApp 9 (bVar 7) [7]))))
 (sRet (bUn qkf (bVar 9))))))))
def f_tables_between:Fn:=mkFn false 4 8 Xf_tables_between
def Xf_tally_between:Fs:=(sSeq (sSet false 4 (zqc zql (aNil)) [])
 (sSeq (qbu (bBin zqd (zqf f_tables_between (zqa (bVar 0) (zqa (bVar 1) (zqa (bVar 2) (zqa (bVar 3) (aNil)))))) (bC (.int 0))) [0,1,2,3] (asgN 5) (sSet false 4 (zqf f_added (zqa (bVar 4) (zqa (bVar 5) (aNil)))) [4,5]))
 (zzt 4)))
def f_tally_between:Fn:=mkFn false 4 2 Xf_tally_between
def Xf_tally_of_box:Fs:=(sSeq (sUnp (asgT [2,3,4]) (bVar 0) [0])
 (sSeq (sSet false 5 (zxg zqt (zqa (bVar 2) (aNil)) 1 (asgN 7) zxz (bBin zqs (zqc zql (zqa (bC (.int 0)) (aNil))) (bVar 3))) [3])
 (sSeq (sSet false 6 (zxg zqt (zqa (bVar 2) (aNil)) 1 (asgN 7) zxz (bBin zqs (zqc zql (zqa (bVar 4) (aNil))) (bVar 3))) [4,3])
 (sRet (zqf f_tally_between (zqa (bVar 0) (zqa (bVar 5) (zqa (bVar 6) (zqa (bVar 1) (aNil))))))))))
def f_tally_of_box:Fn:=mkFn false 2 5 Xf_tally_of_box
def Xf_count_by_rows:Fs:=(sSeq (zkj (zqf f_must_be_box (zqa (bVar 0) (aNil))))
 (sRet (zqc zvn (zqa (zqf f_tally_of_box (zqa (bVar 0) (zqa (zqc zql (aNil)) (aNil)))) (aNil)))))
def f_count_by_rows:Fn:=mkFn false 1 0 Xf_count_by_rows
def zyi (a b:Int):List Int:=(jb0 (b - a).toNat).map λ k=>a + (k:Nat)
theorem qa1 {a b x:Int}:x∈zyi a b↔a<=x/\x < b:=by
 unfold zyi;simp only [jd4,jd0];constructor
 ·rintro ⟨k,hk,rfl⟩;omega
 ·rintro ⟨h1,h2⟩;exact ⟨(x - a).toNat,by omega,by omega⟩
def topR (hi ah:Int) (row:List Int):Int:=match row.getLast? with
 | none=>min hi ah
 | some m=>min (min hi ah) m
def zzq (lo hi ah:Nat->Int):Nat->List (List Int)
 | 0=>[[]]
 | n + 1=>(zzq lo hi ah n).flatMap λ row=>(zyi (lo n) (topR (hi n) (ah n) row + 1)).map λ x=>row++[x]
theorem zje (lo hi ah:Nat->Int):∀ (n:Nat) (r:List Int),r∈zzq lo hi ah n->r.length=n
 | 0,r,h=>by simp [zzq] at h;simp [h]
 | n + 1,r,h=>by
  rw [zzq,jj9] at h;obtain ⟨q,h1,h2⟩:=h;obtain ⟨x,_,rfl⟩:=jd4.mp h2;simp [zje lo hi ah n q h1]
theorem zvz {r:List Int}{n:Nat} (h:r.length=n + 1):r.getLast?=some (r.getD n 0):=by
 rw [jl4,h,jf4,ja6,jc4 (by omega)];rfl
theorem zgl {r:List Int}{x:Int}{n j:Nat} (h:r.length=n):(r++[x]).getD j 0=if j=n then x else r.getD j 0:=by
 rw [ja6,ja6,List.getElem?_append];by_cases hj:j < n
 ·rw [if_pos (by omega),if_neg (by omega)]
 ·rw [if_neg (by omega)];by_cases e:j=n
  ·rw [if_pos e,e,h,jr0];rfl
  ·rw [if_neg e,jf7 (by simp;omega),jf7 (by omega)]
theorem zmw {lo hi ah:Nat->Int}:∀ {n:Nat}{r:List Int},r∈zzq lo hi ah n->r.length=n/\(∀ j,j < n->lo j<=r.getD j 0/\r.getD j 0<=hi j/\r.getD j 0<=ah j)/\∀ j,j + 1 < n->r.getD (j + 1) 0<=r.getD j 0
 | 0,r,h=>by
  have e:r=[]:=by simpa [zzq] using h
  subst e;exact ⟨rfl,λ j h=>by omega,λ j h=>by omega⟩
 | n + 1,r,h=>by
  rw [zzq,jj9] at h;obtain ⟨q,h1,h2⟩:=h;obtain ⟨x,hx,rfl⟩:=jd4.mp h2;obtain ⟨l,b,m⟩:=zmw h1;obtain ⟨x1,x2⟩:=qa1.mp hx;have t1:topR (hi n) (ah n) q<=hi n/\topR (hi n) (ah n) q<=ah n/\(0 < n->topR (hi n) (ah n) q<=q.getD (n - 1) 0):=by
   unfold topR;cases n with
   | zero=>
    have e:q=[]:=jf3.mp l;subst e;exact ⟨by show min _ _<=_;omega,by show min _ _<=_;omega,λ h=>by omega⟩
   | succ n=>
    rw [zvz l];exact ⟨by show min (min _ _) _<=_;omega,by show min (min _ _) _<=_;omega,λ _=>by show min (min _ _) _<=_;rw [jf4];omega⟩
  refine ⟨by rw [jb1,l];rfl,λ j hj=>?_,λ j hj=>?_⟩
  ·rw [zgl l];by_cases e:j=n
   ·subst e;rw [if_pos rfl];omega
   ·rw [if_neg e];exact b j (by omega)
  ·rw [zgl l,zgl l,if_neg (show ¬ j=n by omega)];by_cases e:j + 1=n
   ·rw [if_pos e]
    have:=t1.2.2 (by omega)
    rw [show n - 1=j by omega] at this;omega
   ·rw [if_neg e];exact m j (by omega)
theorem zbr {α β:Type}{f:α->List β}{m:Nat}:∀ (l:List α),(∀ a∈l,(f a).length<=m)->(l.flatMap f).length<=l.length * m
 | [],_=>by simp
 | a::l,h=>by
  rw [jh8,jb1,jb2,jr4,jr5];have h1:=h a ja1;have h2:=zbr l λ x hx=>h x (ja0 _ hx);omega
theorem qgu (a b:Int):(zyi a b).length=(b - a).toNat:=by unfold zyi;rw [ja3,je6]
theorem qiw (hi ah:Int) (row:List Int):topR hi ah row<=hi:=by
 unfold topR;split <;> omega
theorem qak {lo hi ah:Nat->Int}{m:Nat}:∀ (n:Nat),(∀ j,j < n->hi j - lo j + 1<=m)->(zzq lo hi ah n).length<=m ^ n
 | 0,_=>by simp [zzq]
 | n + 1,h=>by
  rw [zzq];refine jd1 (zbr (m:=m) _ λ r hr=>?_) ?_
  ·rw [ja3,qgu]
   have:=qiw (hi n) (ah n) r
   have:=h n (by omega)
   omega
  ·rw [Nat.pow_succ];exact jg6 m (qak n λ j hj=>h j (by omega))
def ltR:List Int->List Int->Bool
 | [],[]=>false
 | [],_::_=>true
 | _::_,[]=>false
 | x::xs,y::ys=>decide (x < y) || (decide (x=y) && ltR xs ys)
theorem zhc:∀ r:List Int,ltR r r=false
 | []=>rfl
 | x::r=>by simp [ltR,zhc r]
theorem qa5:∀ {r q:List Int},ltR r q=true->ltR q r=false
 | [],[],h=>by cases h
 | [],_::_,_=>rfl
 | _::_,[],h=>by cases h
 | x::r,y::q,h=>by
  simp only [ltR,je3,ja4,decide_eq_true_iff] at h;rcases h with h | ⟨h,h2⟩
  ·simp only [ltR,Bool.or_eq_false_iff,Bool.and_eq_false_iff,decide_eq_false_iff_not];exact ⟨by omega,.inl (by omega)⟩
  ·subst h;simp [ltR,qa5 h2]
theorem qa3:∀ {r q:List Int} (x y:Int),r.length=q.length->ltR r q=true->ltR (r++[x]) (q++[y])=true
 | [],[],_,_,_,h=>by cases h
 | [],_::_,_,_,e,_=>by cases e
 | _::_,[],_,_,e,_=>by cases e
 | a::r,b::q,x,y,e,h=>by
  simp only [ltR,je3,ja4,decide_eq_true_iff,jg4] at h ⊢;rcases h with h | ⟨h,h2⟩
  ·exact .inl h
  ·exact .inr ⟨h,qa3 x y (by simpa using e) h2⟩
theorem qa4:∀ (r:List Int) {x y:Int},x < y->ltR (r++[x]) (r++[y])=true
 | [],x,y,h=>by simp [ltR,h]
 | a::r,x,y,h=>by simp [ltR,qa4 r h]
theorem qks (a:Int):∀ (n:Nat) (b:Int),(b - a).toNat=n->(zyi a b).Pairwise (·< ·):=by
 intro n b _;unfold zyi;rw [jo6];refine List.Pairwise.imp (λ {i j} h=>?_) List.pairwise_lt_range;show a + (i:Int) < a + (j:Int);omega
theorem qaj {lo hi ah:Nat->Int}:∀ (n:Nat),(zzq lo hi ah n).Pairwise λ r q=>ltR r q=true
 | 0=>by simp [zzq]
 | n + 1=>by
  rw [zzq,List.pairwise_flatMap];refine ⟨λ r hr=>?_,?_⟩
  ·rw [jo6];exact List.Pairwise.imp (λ {x y} h=>qa4 r h) (qks _ _ _ rfl)
  ·refine List.Pairwise.imp_of_mem (λ {r q} hr hq h u hu v hv=>?_) (qaj n);obtain ⟨x,_,rfl⟩:=jd4.mp hu;obtain ⟨y,_,rfl⟩:=jd4.mp hv;exact qa3 x y (by rw [zje _ _ _ n r hr,zje _ _ _ n q hq]) h
theorem zmx {lo hi ah:Nat->Int}:∀ {n:Nat}{r:List Int},r.length=n->(∀ j,j < n->lo j<=r.getD j 0/\r.getD j 0<=hi j/\r.getD j 0<=ah j)->(∀ j,j + 1 < n->r.getD (j + 1) 0<=r.getD j 0)->r∈zzq lo hi ah n
 | 0,r,h,_,_=>by rw [jf3.mp h];simp [zzq]
 | n + 1,r,h,h1,h2=>by
  have hn:r≠[]:=λ e=>by rw [e] at h;cases h
  obtain ⟨q,x,rfl⟩:∃ q x,r=q++[x]:=⟨r.dropLast,r.getLast hn,(List.dropLast_concat_getLast hn).symm⟩
  have hq:q.length=n:=by simpa using h
  have g1:∀ j,j < n->(q++[x]).getD j 0=q.getD j 0:=λ j hj=>by rw [zgl hq,if_neg (by omega)]
  have g2:(q++[x]).getD n 0=x:=by rw [zgl hq,if_pos rfl]
  have mq:q∈zzq lo hi ah n:=zmx hq (λ j hj=>by have:=h1 j (by omega);rwa [g1 j hj] at this) (λ j hj=>by have:=h2 j (by omega);rwa [g1 j (by omega),g1 (j + 1) (by omega)] at this);rw [zzq,jj9];refine ⟨q,mq,jd4.mpr ⟨x,qa1.mpr ⟨?_,?_⟩,rfl⟩⟩
  ·have:=(h1 n (by omega)).1;rwa [g2] at this
  ·have a1:=(h1 n (by omega)).2;rw [g2] at a1;unfold topR;cases n with
   | zero=>rw [jf3.mp hq];simp only [jo7];omega
   | succ m=>
    have a2:=h2 m (by omega);rw [g2,g1 m (by omega)] at a2;rw [zvz hq];simp only;omega
def zqu (b:Nat) (c:Int):List (List Int):=zzq (λ _=>0) (λ _=>c) (λ _=>c) b
structure RowB (b:Nat) (c:Int) (r:List Int):Prop where
 len:r.length=b
 lo:∀ j,j < b->0<=r.getD j 0
 hi:∀ j,j < b->r.getD j 0<=c
 nr:∀ j,j + 1 < b->r.getD (j + 1) 0<=r.getD j 0
theorem zxa {b:Nat}{c:Int}{r:List Int}:r∈zqu b c↔RowB b c r:=by
 constructor
 ·intro h;obtain ⟨h1,h2,h3⟩:=zmw h;exact ⟨h1,λ j hj=>(h2 j hj).1,λ j hj=>(h2 j hj).2.1,h3⟩
 ·intro h;exact zmx h.len (λ j hj=>⟨h.lo j hj,h.hi j hj,h.hi j hj⟩) h.nr
theorem qal (b:Nat) (c:Int):(zqu b c).Pairwise λ r q=>ltR r q=true:=qaj b
theorem zyn (b:Nat) (c:Int):(zqu b c).Nodup:=List.Pairwise.imp (λ {r q} h e=>by rw [e,zhc] at h;cases h) (qal b c)
def addL:List Int->List Int->List Int
 | [],ys=>ys
 | x::xs,[]=>x::xs
 | x::xs,y::ys=>(x + y)::addL xs ys
theorem zke:∀ xs:List Int,addL xs []=xs
 | []=>rfl
 | _::_=>rfl
theorem zgg:∀ xs ys:List Int,addL xs ys=addL ys xs
 | [],ys=>by rw [zke];rfl
 | x::xs,[]=>rfl
 | x::xs,y::ys=>by rw [addL,addL,zgg xs ys,Int.add_comm]
theorem zzf:∀ xs ys zs:List Int,addL (addL xs ys) zs=addL xs (addL ys zs)
 | [],ys,zs=>rfl
 | x::xs,[],zs=>rfl
 | x::xs,y::ys,[]=>rfl
 | x::xs,y::ys,z::zs=>by simp only [addL];rw [zzf xs ys zs,Int.add_assoc]
theorem zmd:∀ xs ys:List Int,(addL xs ys).length=max xs.length ys.length
 | [],ys=>by simp [addL]
 | x::xs,[]=>by simp [addL]
 | x::xs,y::ys=>by simp only [addL,jb2,zmd xs ys];omega
def sumT (f:List Int->List Int) (l:List (List Int)):List Int:=l.foldr (λ r s=>addL (f r) s) []
theorem zwn {f:List Int->List Int}{r:List Int}{l:List (List Int)}:sumT f (r::l)=addL (f r) (sumT f l):=rfl
theorem zbg {f:List Int->List Int}{p q s:List Int->Bool}:∀ (l:List (List Int)),(∀ r∈l,s r=(p r || q r))->(∀ r∈l,p r=true->q r=false)->sumT f (l.filter s)=addL (sumT f (l.filter p)) (sumT f (l.filter q))
 | [],_,_=>rfl
 | r::l,h,d=>by
  have ih:=zbg (f:=f) l (λ a ha=>h a (ja0 _ ha)) (λ a ha=>d a (ja0 _ ha));have hs:=h r ja1;have hd:=d r ja1;rw [jh1,jh1,jh1,hs];cases hp:p r with
  | true=>
   rw [hd hp];simp only [jn5,if_true,je7,if_false,zwn,ih,zzf]
  | false=>
   cases hq:q r with
   | true=>
    simp only [Bool.or_true,if_true,je7,if_false,zwn,ih];rw [<- zzf,<- zzf,zgg (f r)]
   | false=>simp only [jn5,je7,if_false,ih]
theorem qag {f:List Int->List Int}{p:List Int->Bool}{r:List Int}:∀ {l:List (List Int)},l.Nodup->r∈l->(∀ q∈l,p q=decide (q=r))->sumT f (l.filter p)=f r
 | [],_,h,_=>by cases h
 | a::l,nd,h,hp=>by
  rw [ji5] at nd;rw [jh1,hp a ja1];by_cases e:a=r
  ·subst e
   have:l.filter p=[]:=by
    rw [jj0];intro q hq;rw [hp q (ja0 _ hq),decide_eq_true_iff];rintro rfl;exact nd.1 hq
   rw [decide_eq_true rfl,if_pos rfl,this,zwn];exact zke _
  ·rw [decide_eq_false e,if_neg (by simp)];rcases jb6.mp h with h | h
   ·exact absurd h.symm e
   ·exact qag nd.2 h λ q hq=>hp q (ja0 _ hq)
def lowB (b j:Nat) (r q:List Int):Bool:=(jb0 b).all λ i=>if i < j then decide (q.getD i 0<=r.getD i 0) else decide (q.getD i 0=r.getD i 0)
theorem zwu {b j:Nat}{r q:List Int}:lowB b j r q=true↔∀ i,i < b->(i < j->q.getD i 0<=r.getD i 0)/\(j<=i->q.getD i 0=r.getD i 0):=by
 unfold lowB;rw [jc1];constructor
 ·intro h i hi
  have:=h i (jd0.mpr hi)
  by_cases e:i < j
  ·rw [if_pos e,decide_eq_true_iff] at this;exact ⟨λ _=>this,λ e'=>absurd e (by omega)⟩
  ·rw [if_neg e,decide_eq_true_iff] at this;exact ⟨λ e'=>absurd e' e,λ _=>this⟩
 ·intro h i hi
  have:=h i (jd0.mp hi)
  by_cases e:i < j
  ·rw [if_pos e,decide_eq_true_iff];exact this.1 e
  ·rw [if_neg e,decide_eq_true_iff];exact this.2 (by omega)
def sumJ (b:Nat) (c:Int) (f:List Int->List Int) (j:Nat) (r:List Int):List Int:=sumT f ((zqu b c).filter (lowB b j r))
def lowR (r:List Int) (j:Nat):List Int:=r.take j++[r.getD j 0 - 1]++r.drop (j + 1)
theorem qgp {r:List Int}{j:Nat} (h:j < r.length):(lowR r j).length=r.length:=by
 unfold lowR;simp;omega
theorem zzi {r:List Int}{j i:Nat} (h:j < r.length):(lowR r j).getD i 0=if i=j then r.getD j 0 - 1 else r.getD i 0:=by
 unfold lowR;simp only [ja6,jf5];by_cases h1:i < j
 ·rw [jc2 (by simp;omega),if_neg (by omega),jf2 h1]
 ·rw [jd3 (by simp;omega)];have hl:(r.take j).length=j:=by simp;omega
  rw [hl];by_cases h2:i=j
  ·subst h2;simp
  ·rw [if_neg h2,show i - j=(i - j - 1) + 1 by omega,List.singleton_append,je0,List.getElem?_drop];congr 2;omega
theorem zhd:∀ {r:List Int}{j:Nat},j < r.length->ltR (lowR r j) r=true
 | [],_,h=>by cases h
 | x::r,0,_=>by simp [lowR,ltR];omega
 | x::r,j + 1,h=>by
  have ih:=zhd (r:=r) (j:=j) (by simpa using h);unfold lowR at ih ⊢;simp [ltR] at ih ⊢;exact ih
theorem zpo {r q:List Int}{b:Nat} (h1:r.length=b) (h2:q.length=b) (h:∀ i,i < b->q.getD i 0=r.getD i 0):q=r:=by
 apply List.ext_getElem (by omega);intro i hi hi'
 have:=h i (by omega)
 rw [ja6,ja6,jc4 hi,jc4 hi'] at this;simpa using this
theorem qcy {b:Nat}{c:Int}{f:List Int->List Int}{r:List Int} (h:r∈zqu b c):sumJ b c f 0 r=f r:=by
 unfold sumJ;refine qag (zyn b c) h λ q hq=>?_;rw [je1,zwu,decide_eq_true_iff];have h1:=zxa.mp h;have h2:=zxa.mp hq;constructor
 ·intro e;exact zpo h1.len h2.len λ i hi=>(e i hi).2 (by omega)
 ·rintro rfl i _;exact ⟨λ z=>absurd z (by omega),λ _=>rfl⟩
theorem zms {b:Nat}{c:Int}{f:List Int->List Int}{r:List Int}{j:Nat} (h:r∈zqu b c) (hj:j < b):sumJ b c f (j + 1) r=if lowR r j∈zqu b c then addL (sumJ b c f j r) (sumJ b c f (j + 1) (lowR r j)) else sumJ b c f j r:=by
 have h1:=zxa.mp h;have hl:j < r.length:=by rw [h1.len];exact hj
 split
 ·rename_i hm;unfold sumJ;refine zbg _ (λ q hq=>?_) (λ q hq=>?_)
  ·have h2:=zxa.mp hq;rw [je1,je3,zwu,zwu,zwu];constructor
   ·intro e;by_cases ej:q.getD j 0=r.getD j 0
    ·refine .inl λ i hi=>⟨λ z=>(e i hi).1 (by omega),λ z=>?_⟩
     by_cases ei:i=j
     ·subst ei;exact ej
     ·exact (e i hi).2 (by omega)
    ·refine .inr λ i hi=>?_;rw [zzi hl];refine ⟨λ z=>?_,λ z=>?_⟩
     ·have:=(e i hi).1 z
      split
      ·rename_i e';subst e';omega
      ·exact this
     ·rw [if_neg (by omega)];exact (e i hi).2 z
   ·rintro (e | e) i hi
    ·refine ⟨λ z=>?_,λ z=>(e i hi).2 (by omega)⟩;by_cases ei:i < j
     ·exact (e i hi).1 ei
     ·exact jr1 ((e i hi).2 (by omega))
    ·have e':=e i hi;rw [zzi hl] at e';refine ⟨λ z=>?_,λ z=>?_⟩
     ·have:=e'.1 z
      split at this
      ·rename_i e2;subst e2;omega
      ·exact this
     ·have:=e'.2 z
      rwa [if_neg (by omega)] at this
  ·intro e;rw [jo4];intro e2;rw [zwu] at e e2;have a1:=(e j hj).2 (ja8 _);have a2:=(e2 j hj).1 (by omega);rw [zzi hl,if_pos rfl] at a2;omega
 ·rename_i hm;unfold sumJ;congr 1;apply jl6;intro q hq;have h2:=zxa.mp hq;rw [je1,zwu,zwu];constructor
  ·intro e i hi;refine ⟨λ z=>(e i hi).1 (by omega),λ z=>?_⟩;by_cases ei:i=j
   ·subst ei;have a1:=(e i hi).1 (by omega);by_cases ej:q.getD i 0=r.getD i 0
    ·exact ej
    ·refine absurd (zxa.mpr ⟨by rw [qgp hl,h1.len],λ k hk=>?_,λ k hk=>?_,λ k hk=>?_⟩) hm
     ·rw [zzi hl]
      have:=h2.lo i hi
      have:=h1.lo k hk
      split <;> omega
     ·rw [zzi hl]
      have:=h1.hi k hk
      split
      ·rename_i e';subst e';omega
      ·exact this
     ·rw [zzi hl,zzi hl];have b1:=h1.nr k hk;by_cases c1:k + 1=i
      ·rw [if_pos c1,if_neg (by omega)];subst c1;omega
      ·rw [if_neg c1];by_cases c2:k=i
       ·rw [if_pos c2];subst c2;have b2:=h2.nr k hk;have b3:=(e (k + 1) hk).2 (by omega);omega
       ·rw [if_neg c2];exact b1
   ·exact (e i hi).2 (by omega)
  ·intro e i hi;refine ⟨λ z=>?_,λ z=>(e i hi).2 (by omega)⟩;by_cases ei:i < j
   ·exact (e i hi).1 ei
   ·exact jr1 ((e i hi).2 (by omega))
def leR (b:Nat) (q r:List Int):Bool:=(jb0 b).all λ i=>decide (q.getD i 0<=r.getD i 0)
theorem qd8 {b:Nat}{r q:List Int}:leR b q r=true↔∀ i,i < b->q.getD i 0<=r.getD i 0:=by
 unfold leR;rw [jc1];exact ⟨λ h i hi=>by simpa using h i (jd0.mpr hi),λ h i hi=>by simpa using h i (jd0.mp hi)⟩
def sumB (b:Nat) (c:Int) (f:List Int->List Int) (r:List Int):List Int:=sumT f ((zqu b c).filter λ q=>leR b q r)
theorem qga {b:Nat}{c:Int}{f:List Int->List Int}{r:List Int}:sumJ b c f b r=sumB b c f r:=by
 unfold sumJ sumB;congr 1;apply jl6;intro q _;rw [je1,zwu,qd8];exact ⟨λ h i hi=>(h i hi).1 hi,λ h i hi=>⟨λ _=>h i hi,λ z=>absurd z (by omega)⟩⟩
theorem zpk (v:Int):∀ n:Nat,repL n [.int v]=(ja2 n v).map PV.int
 | 0=>rfl
 | n + 1=>by
  show [PV.int v]++repL n [.int v]=_;rw [zpk v n];rfl
theorem qhy {f g:Fx}{ρ ρ1 ρ2:Rho}{v:Int}{n:Nat}{d e:Nat} (h1:f ρ=.ok (.lst [.int v],d,ρ1)) (h2:g ρ1=.ok (.int (n:Int),e,ρ2)) (hn:n<=1000):bBin zqs f g ρ=.ok (il (ja2 n v),om,ρ2):=by
 refine zxn h1 h2 ?_;have z:=sz;unfold zqs;dsimp only;rw [if_pos ⟨by omega,by omega,by rw [jd7,jc3];omega⟩,jc3,zpk,zfu];rfl
theorem qis {f g:Fx}{ρ ρ1 ρ2:Rho}{xs ys:List Int}{d e:Nat} (h1:f ρ=.ok (il xs,d,ρ1)) (h2:g ρ1=.ok (il ys,e,ρ2)) (hl:xs.length + ys.length<=1000000):bBin zqh f g ρ=.ok (il (xs++ys),om,ρ2):=by
 have:=qlm h1 h2 (by rw [ja3,ja3];exact jd1 hl sz)
 rw [this,<- je4,zfu];rfl
theorem zgy {f g:Fx}{ρ ρ1 ρ2:Rho}{k:Int}{d e:Nat} (h1:f ρ=.ok (.lst [.int 0],d,ρ1)) (h2:g ρ1=.ok (.int k,e,ρ2)) (hk:-1000000<=k/\k<=1000000):bBin zqs f g ρ=.ok (il (ja2 k.toNat 0),om,ρ2):=by
 refine zxn h1 h2 ?_;have z:=sz;unfold zqs;dsimp only;rw [if_pos ⟨by omega,by omega,by rw [jd7];omega⟩,zpk,zfu];rfl
theorem qlk {i:Nat}{fj f:Fx}{ρ ρ2:Rho}{xs:List Int}{w:Int}{j d d1 d2:Nat} (hx:ρ[i]?=some (some (il xs,d))) (hd:d≠0) (hj:fj ρ=.ok (.int (j:Int),d1,ρ)) (hf:f ρ=.ok (.int w,d2,ρ)) (hl:j < xs.length) (e:ρ.set i (some (il (xs.set j (xs.getD j 0 + w)),d))=ρ2):zgm (λ i j=>i + j) i fj f ρ=.nx ρ2:=by
 unfold zgm;rw [hx,hj];show (match f ρ with | .ok (.int w,_,ρ2)=>_ | _=>Rs.no)=_;rw [hf];dsimp only;have e1:ixN (xs.map PV.int).length (j:Int)=some j:=by
  unfold ixN;rw [if_pos (by omega),ja3,if_pos (by omega),jc3]
 rw [e1];dsimp only;have e2:(xs.map PV.int)[j]?=some (.int (xs.getD j 0)):=by
  rw [jc7,ja6,jc4 hl];rfl
 rw [e2];dsimp only;rw [if_pos hd,<- e,il,jr2]
theorem zgf:∀ (t p:List Int) (y:Int),p.length < t.length->addL t (p++[y])=(addL t p).set p.length ((addL t p).getD p.length 0 + y)
 | [],p,y,h=>by simp at h
 | a::t,[],y,h=>by simp [addL,zke]
 | a::t,b::p,y,h=>by
  have:=zgf t p y (by simpa using h)
  simp only [jg4,addL,jb2,jh2,jd5];rw [this]
theorem zmc:∀ (xs ys:List Int),addL (xs++ja2 (ys.length - xs.length) 0) ys=addL xs ys
 | [],[]=>rfl
 | [],y::ys=>by
  have:=zmc [] ys
  simp only [je2,jp6,jr3,jb2,jf1,addL,jf8] at this ⊢;rw [this]
 | x::xs,[]=>by simp [addL]
 | x::xs,y::ys=>by
  have:=zmc xs ys
  simp only [jg4,jb2,Nat.add_sub_add_right,addL];rw [this]
theorem qbn {xs ys:List Int} (hx:xs.length<=1000) (hy:ys.length<=1000):f_added [il xs,il ys]=.ok (il (addL xs ys),om,.non):=by
 let L (t:List Int) (s3 s4:QQ.Slot):Rho:=[some (il xs,0),some (il ys,0),some (il t,om),s3,s4]
 let base:=xs++ja2 (ys.length - xs.length) 0;have hbl:ys.length<=base.length:=by simp [base];omega
 have v1:sSet false 2 (bBin zqh (zqc zbl (zqa (bVar 0) (aNil))) (bBin zqs (zqc zql (zqa (bC (.int 0)) (aNil))) (bBin zxh (zqc zxv (zqa (bVar 1) (aNil))) (zqc zxv (zqa (bVar 0) (aNil)))))) [0,1,0] [some (il xs,0),some (il ys,0),none,none,none]=.nx (L base none none):=by
  have e1:=zgy (f:=zqc zql (zqa (bC (.int 0)) (aNil))) (ρ:=[some (il xs,0),some (il ys,0),none,none,none]) (d:=om) rfl (zvh (zyd (xs:=ys) (fa:=zqa (bVar 1) aNil) (d:=0) rfl) (zyd (xs:=xs) (fa:=zqa (bVar 0) aNil) (d:=0) rfl)) (by omega);rw [show ((ys.length:Int) - (xs.length:Int)).toNat=ys.length - xs.length by omega] at e1;exact setF (qis (qki (f:=bVar 0) (xs:=xs) (d:=0) rfl) e1 (by rw [jc5];omega)) (show 2 < 5 by decide) rfl
 obtain ⟨ρ',v2,s3,s4,rfl⟩:=qg5 (v:=.enm) (fa:=zqa (bVar 1) aNil) (vs:=[1]) (asg:=asgT [3,4]) (body:=zgm (λ i j=>i + j) 2 (bVar 3) (bVar 4)) (ρ:=L base none none) (ρ1:=L base none none) (ρ2:=L base none none) (xs:=[(il ys,0)]) (els:=zyj 0 (ys.map PV.int)) (λ j ρ=>∃ s3 s4,ρ=L (addL base (ys.take j)) s3 s4) rfl rfl rfl ⟨none,none,by rw [jl3,zke]⟩ (by
  rintro j x _ hx ⟨s3,s4,rfl⟩;rw [zju,jc7] at hx;cases ey:ys[j]? with
  | none=>rw [ey] at hx;cases hx
  | some y=>
   rw [ey] at hx;obtain rfl:PV.tup [.int ((0 + j:Nat):Int),.int y]=x:=Option.some.inj hx;have hj:j < ys.length:=(ja9.mp ey).1;have ht:ys.take (j + 1)=ys.take j++[y]:=by rw [List.take_add_one,ey];rfl
   have hl:(ys.take j).length=j:=by rw [je5];omega
   refine ⟨L (addL base (ys.take j)) (some (.int ((0 + j:Nat):Int),om)) (some (.int y,om)),L (addL base (ys.take (j + 1))) (some (.int ((0 + j:Nat):Int),om)) (some (.int y,om)),rfl,?_,_,_,rfl⟩;refine qlk (xs:=addL base (ys.take j)) (w:=y) (j:=j) (d:=om) (d1:=om) (d2:=om) rfl (by decide) (by rw [jj4];rfl) rfl (by rw [zmd];omega) ?_;rw [ht,zgf base (ys.take j) y (by rw [hl];omega),hl]
   rfl)
 rw [zjt,ja3,List.take_length,show addL base ys=addL xs ys from zmc xs ys] at v2;exact zww rfl ((zqi v1).trans ((zqi v2).trans rfl))
def keyR (r:List Int):List Key:=r.map Sum.inl
def tupR (r:List Int):PV:=.tup (r.map PV.int)
theorem qfv (r:List Int):tupK (keyR r)=tupR r:=by
 unfold tupK keyR tupR;rw [jd8];rfl
theorem zzj:∀ r:List Int,keyL (r.map PV.int)=some (keyR r)
 | []=>rfl
 | x::r=>by rw [jb7,keyL,zzj r];rfl
theorem zyq:∀ {r q:List Int},keyR r=keyR q->r=q
 | [],[],_=>rfl
 | [],_::_,h=>by cases h
 | _::_,[],h=>by cases h
 | x::r,y::q,h=>by
  have h1:(Sum.inl x:Key)::keyR r=Sum.inl y::keyR q:=h;injection h1 with h2 h3
  injection h2 with h2
  rw [h2,zyq h3]
def tabV (R:List (List Int)) (f:List Int->List Int):PV:=.dcl (R.map keyR) (R.map λ r=>il (f r))
theorem zhf {h:List Int->PV}{r:List Int}:∀ {R:List (List Int)},kvX (R.map keyR) (R.map h) (keyR r)=if r∈R then some (h r) else none
 | []=>rfl
 | q::R=>by
  rw [jb7,jb7,kvX];by_cases e:q=r
  ·subst e;rw [if_pos rfl,if_pos ja1]
  ·rw [if_neg λ z=>e (zyq z),zhf]
   have:r∈q::R↔r∈R:=by rw [jb6];exact ⟨λ z=>z.resolve_left λ z=>e z.symm,.inr⟩
   simp only [this]
theorem zfh {h:List Int->PV}{r:List Int}{y:PV}:∀ {R:List (List Int)},zpq (keyR r) y (R.map keyR) (R.map h)=R.map λ q=>if q=r then y else h q
 | []=>rfl
 | q::R=>by
  rw [jb7,jb7,zpq,zfh,jb7];congr 1;by_cases e:q=r
  ·subst e;rw [if_pos rfl,if_pos rfl]
  ·rw [if_neg λ z=>e (zyq z),if_neg e]
theorem qba {r:List Int}{R:List (List Int)}:hasK (R.map keyR) (keyR r)=decide (r∈R):=by
 unfold hasK;rw [List.any_map,je1,List.any_eq_true,decide_eq_true_iff];constructor
 ·rintro ⟨q,hq,e⟩
  have:keyR q=keyR r:=by simpa using e
  rw [<- zyq this];exact hq
 ·intro h;exact ⟨r,h,by simp⟩
theorem zhj {f g:Fx}{ρ ρ1 ρ2:Rho}{R:List (List Int)}{h:List Int->List Int}{r:List Int}{d e:Nat} (h1:f ρ=.ok (tabV R h,d,ρ1)) (h2:g ρ1=.ok (tupR r,e,ρ2)) (hr:r∈R):bBin zqd f g ρ=.ok (il (h r),0,ρ2):=by
 refine zxn h1 h2 ?_;show (match keyL (r.map PV.int) with | some k=>(kvX (R.map keyR) (R.map λ r=>il (h r)) k).map λ z=>(z,dv z) | none=>none)=_;rw [zzj];dsimp only;rw [zhf (h:=λ r=>il (h r)),if_pos hr];rfl
theorem qog {f g:Fx}{ρ ρ1 ρ2:Rho}{R:List (List Int)}{h:List Int->List Int}{r:List Int}{d e:Nat} (h1:f ρ=.ok (tupR r,d,ρ1)) (h2:g ρ1=.ok (tabV R h,e,ρ2)):bBin (opIn false) f g ρ=.ok (.bl (decide (r∈R)),om,ρ2):=by
 refine zxn h1 h2 ?_;show (keyL (r.map PV.int)).map (λ k=>(PV.bl (false^^(kvX (R.map keyR) (R.map λ r=>il (h r)) k).isSome),om))=_;rw [zzj];show some (PV.bl (false^^(kvX (R.map keyR) (R.map λ r=>il (h r)) (keyR r)).isSome),om)=_;rw [zhf (h:=λ r=>il (h r)),jn2];by_cases e:r∈R
 ·rw [if_pos e,decide_eq_true e];rfl
 ·rw [if_neg e,decide_eq_false e];rfl
theorem zbf {R:List (List Int)}{f h:List Int->List Int} (e:∀ r∈R,f r=h r):tabV R f=tabV R h:=by
 unfold tabV;congr 1;exact jg9 λ r hr=>by rw [e r hr]
theorem qjq {i:Nat}{fk f:Fx}{ρ ρ1 ρ2:Rho}{R:List (List Int)}{h:List Int->List Int}{r:List Int}{y:List Int}{d e:Nat} (hf:f ρ=.ok (il y,om,ρ1)) (hx:ρ1[i]?=some (some (tabV R h,d))) (hd:d≠0) (hk:fk ρ1=.ok (tupR r,e,ρ1)) (hr:r∈R) (hl:R.length < 1000000) (e2:ρ1.set i (some (tabV R (λ q=>if q=r then y else h q),1))=ρ2):zwd i fk f ρ=.nx ρ2:=by
 have z:=sz;unfold zwd;rw [hf];dsimp only;rw [hx];dsimp only;rw [hk];dsimp only;rw [hx];show (match keyL (r.map PV.int) with | some kk=>if d≠0/\om=om/\(R.map keyR).length < va6 then Rs.nx (ρ1.set i (some (zkc (R.map keyR) (R.map λ r=>il (h r)) kk (il y),1))) else .no | none=>.no)=_;rw [zzj];dsimp only;rw [if_pos ⟨hd,rfl,by rw [ja3];omega⟩,<- e2];unfold zkc;rw [qba,decide_eq_true hr,if_pos rfl,zfh (h:=λ r=>il (h r))];unfold tabV;congr 5;refine jg9 λ q _=>?_;dsimp only;split <;> rfl
theorem zgo {i:Nat}{fk f:Fx}{ρ ρ1 ρ2:Rho}{R:List (List Int)}{h:List Int->List Int}{r:List Int}{y:List Int}{d e:Nat}{x:PV} (hf:f ρ=.ok (il y,om,ρ1)) (hx:ρ1[i]?=some (some (x,d))) (hxe:x=tabV R h\/(x=.dct []/\R=[])) (hd:d≠0) (hk:fk ρ1=.ok (tupR r,e,ρ1)) (hr:r∉R) (hy:h r=y) (hl:R.length < 1000000) (e2:ρ1.set i (some (tabV (R++[r]) h,1))=ρ2):zwd i fk f ρ=.nx ρ2:=by
 have z:=sz;have fin:zkc (R.map keyR) (R.map λ r=>il (h r)) (keyR r) (il y)=tabV (R++[r]) h:=by
  unfold zkc;rw [qba,decide_eq_false hr,if_neg (by simp)];unfold tabV;rw [je4,je4];simp [hy]
 unfold zwd;rw [hf];dsimp only;rw [hx];dsimp only;rw [hk];dsimp only;rw [hx];rcases hxe with rfl | ⟨rfl,rfl⟩
 ·show (match keyL (r.map PV.int) with | some kk=>if d≠0/\om=om/\(R.map keyR).length < va6 then Rs.nx (ρ1.set i (some (zkc (R.map keyR) (R.map λ r=>il (h r)) kk (il y),1))) else .no | none=>.no)=_;rw [zzj];dsimp only;rw [if_pos ⟨hd,rfl,by rw [ja3];omega⟩,<- e2,fin]
 ·have ep:putX (.dct []) (tupR r) (il y)=none:=by
   show (match keyL (r.map PV.int),(none:Option V) with | some k,some u=>_ | _,_=>none)=_;rw [zzj]
  dsimp only;rw [ep];show (match keyL (r.map PV.int) with | some kk=>if d≠0/\om=om/\0 < va6 then Rs.nx (ρ1.set i (some (zkc [] [] kk (il y),1))) else .no | none=>.no)=_;rw [zzj];dsimp only;rw [if_pos ⟨hd,rfl,by omega⟩,<- e2];exact congrArg (λ z=>Rs.nx (ρ1.set i (some (z,1)))) fin
theorem qet {f:Fx}{vs:List Nat}{asg:PV->Rho->Option Rho}{body:Fs}{ρ ρ1 ρ2 ρ3:Rho}{R:List (List Int)}{h:List Int->List Int}{d:Nat} (hf:f ρ=.ok (tabV R h,d,ρ1)) (ec:zqp d vs ρ1=ρ2) (hl:zxe asg body (R.map tupR) ρ2=.nx ρ3):zmv f vs asg body ρ=.nx ρ3:=by
 unfold zmv;rw [hf];show soft (zxe asg body ((R.map keyR).map tupK) (zqp d vs ρ1))=_;rw [jd8,ec,show (tupK ∘ keyR)=tupR from funext qfv,hl];rfl
theorem qk0 {f:Fx}{vs:List Nat}{asg:PV->Rho->Option Rho}{body:Fs}{ρ ρ1 ρ2 ρ3:Rho}{R:List (List Int)}{h:List Int->List Int}{d:Nat} (hf:f ρ=.ok (tabV R h,d,ρ1)) (ec:zqp d vs ρ1=ρ2) (hl:zxe asg body (R.map λ r=>il (h r)) ρ2=.nx ρ3):qbu f vs asg body ρ=.nx ρ3:=by
 unfold qbu;rw [hf];show soft (zxe asg body (R.map λ r=>il (h r)) (zqp d vs ρ1))=_;rw [ec,hl];rfl
theorem zhx {f h:Fx}{ρ ρ1 ρ2:Rho}{xs ys:List Int}{d e:Nat} (h1:f ρ=.ok (tupR xs,d,ρ1)) (h2:h ρ1=.ok (tupR ys,e,ρ2)) (hl:xs.length + ys.length<=1000000):bBin zqh f h ρ=.ok (tupR (xs++ys),0,ρ2):=by
 have z:=sz;refine zxn h1 h2 ?_;show (if _ then _ else _)=_;rw [if_pos (by rw [ja3,ja3];omega),<- je4];rfl
theorem zps {f g:Fx}{ρ ρ1 ρ2:Rho}{xs:List Int}{k x:Int}{d e:Nat} (h1:f ρ=.ok (tupR xs,d,ρ1)) (h2:g ρ1=.ok (.int k,e,ρ2)) (h:atI xs k=some x):bBin zqd f g ρ=.ok (.int x,om,ρ2):=by
 refine zxn h1 h2 ?_;show (atI (xs.map PV.int) k).map _=_
 have:atI (xs.map PV.int) k=some (.int x):=by
  unfold atI at h ⊢;rw [ja3];cases e:ixN xs.length k with
  | none=>rw [e] at h;cases h
  | some j=>
   rw [e] at h;have h':xs[j]?=some x:=h;show (xs.map PV.int)[j]?=_;rw [jc7,h'];rfl
 rw [this];rfl
theorem qo5 {f g:Fx}{ρ:Rho}{xs:List Int}{j d e:Nat} (h1:f ρ=.ok (tupR xs,d,ρ)) (h2:g ρ=.ok (.int (j:Int),e,ρ)) (hj:j < xs.length):bSl f none (some g) ρ=.ok (tupR (xs.take j),0,ρ):=by
 unfold bSl;rw [h1];dsimp only [Rz.bind,evO];rw [h2];dsimp only;have e1:opSl (tupR xs) none (some (j:Int))=some (tupR (xs.take j),0):=by
  unfold opSl tupR;dsimp only;rw [HT.sIx_none,HT.sIx_nat,ja3,if_neg (by rw [jk6 (by omega)];omega)];unfold cutP;rw [HT.sIx_none,HT.sIx_nat,ja3,jk6 (by omega),List.drop_zero,jr3,List.map_take]
 rw [e1]
theorem qjb {f g:Fx}{ρ:Rho}{xs:List Int}{j d e:Nat} (h1:f ρ=.ok (tupR xs,d,ρ)) (h2:g ρ=.ok (.int (j:Int),e,ρ)) (h0:0 < j) (hj:j<=xs.length):bSl f (some g) none ρ=.ok (tupR (xs.drop j),0,ρ):=by
 unfold bSl;rw [h1];dsimp only [Rz.bind,evO];rw [h2];dsimp only;have e1:opSl (tupR xs) (some (j:Int)) none=some (tupR (xs.drop j),0):=by
  unfold opSl tupR;dsimp only;rw [HT.sIx_none,HT.sIx_nat,ja3,if_neg (by rw [jk6 (by omega)];omega)];unfold cutP;rw [HT.sIx_none,HT.sIx_nat,ja3,jk6 (by omega),List.map_drop,ji9 (by rw [jj7,ja3];omega)]
 rw [e1]
theorem zvv {f:List Int->List Int}{m:Nat}:∀ {l:List (List Int)},(∀ r∈l,(f r).length<=m)->(sumT f l).length<=m
 | [],_=>jg5 _
 | r::l,h=>by
  rw [zwn,zmd]
  have:=h r ja1
  have:=zvv (l:=l) λ q hq=>h q (ja0 _ hq)
  omega
theorem qf9 {b:Nat}{c:Int}{f:List Int->List Int}{m j:Nat}{r:List Int} (h:∀ r∈zqu b c,(f r).length<=m):(sumJ b c f j r).length<=m:=zvv λ q hq=>h q (jg1.mp hq).1
def midT (b:Nat) (c:Int) (f:List Int->List Int) (j:Nat) (pre:List (List Int)) (r:List Int):List Int:=if r∈pre then sumJ b c f (j + 1) r else sumJ b c f j r
theorem mid0 (b:Nat) (c:Int) (f:List Int->List Int) (j:Nat):midT b c f j []=sumJ b c f j:=by
 funext r;unfold midT;rw [if_neg (by simp)]
theorem qja {b:Nat}{c:Int}{f:List Int->List Int} (hb:1<=b/\b<=1000) (hd:dkOk ((zqu b c).map keyR)=true) (hn:zqu b c≠[]) (hR:(zqu b c).length < 1000000) (hf:∀ r∈zqu b c,(f r).length<=1000):f_sums_of_lower_rows [tabV (zqu b c) f,.int (b:Int)]=.ok (tabV (zqu b c) (sumB b c f),1,.non):=by
 let R:=zqu b c;let L (h:List Int->List Int) (s3 s4 s5:QQ.Slot):Rho:=[some (tabV R f,0),some (.int (b:Int),om),some (tabV R h,1),s3,s4,s5]
 have v1:sSet false 2 (zqc zfd (zqa (bVar 0) (aNil))) [0] [some (tabV R f,0),some (.int (b:Int),om),none,none,none,none]=.nx (L f none none none):=by
  refine setF (x:=tabV R f) (d:=1) (zwh (zxj (x:=tabV R f) (d:=0) rfl) ?_) (show 2 < 6 by decide) rfl;show (if dkOk (R.map keyR)=true/\R.map keyR≠[] then some (tabV R f,1) else none)=_;rw [if_pos ⟨hd,λ z=>hn (List.map_eq_nil_iff.mp z)⟩]
 have start:L f none none none=L (sumJ b c f 0) none none none:=by
  have:tabV R f=tabV R (sumJ b c f 0):=zbf λ r hr=>(qcy hr).symm
  show [_,_,some (tabV R f,1),_,_,_]=[_,_,some (tabV R (sumJ b c f 0),1),_,_,_];rw [this]
 obtain ⟨ρ',v2,s3,s4,s5,rfl⟩:=zzl (i:=3) (en:=zqt) (fa:=zqa (bVar 1) aNil) (body:=(zmv (bVar 0) [0] (asgN 4) (sSeq (sSet false 5 (bBin zqh (bBin zqh (bSl (bVar 4) none (some (bVar 3))) (zqc zwa (zqa (bBin zxh (bBin zqd (bVar 4) (bVar 3)) (bC (.int 1))) (aNil)))) (bSl (bVar 4) (some (bBin zqh (bVar 3) (bC (.int 1)))) none)) [4,4,3,4])
 (sIf (bT (bBin (opIn false) (bVar 5) (bVar 2))) (zwd 2 (bVar 4) (zqf f_added (zqa (bBin zqd (bVar 2) (bVar 4)) (zqa (bBin zqd (bVar 2) (bVar 5)) (aNil))))) sNil)))) (ρ:=L f none none none) (ρ1:=L f none none none) (as:=[(.int (b:Int),om)]) (lo:=0) (hi:=(b:Int))
  (λ j ρ=>∃ s3 s4 s5,ρ=L (sumJ b c f j) s3 s4 s5) rfl (zxt (by omega) (by omega)) ⟨none,none,none,start⟩ (by
  rintro j _ hj ⟨s3,s4,s5,rfl⟩;have hjb:j < b:=by omega
  refine ⟨by show 3 < 6;decide,?_⟩;rw [jf8];let M (h:List Int->List Int) (d3:Nat) (s4 s5:QQ.Slot):Rho:=L h (some (.int (j:Int),d3)) s4 s5;obtain ⟨ρ2,e2,d3',s4',s5',rfl⟩:=zvf (asg:=asgN 4) (enc:=tupR) (body:=(sSeq (sSet false 5 (bBin zqh (bBin zqh (bSl (bVar 4) none (some (bVar 3))) (zqc zwa (zqa (bBin zxh (bBin zqd (bVar 4) (bVar 3)) (bC (.int 1))) (aNil)))) (bSl (bVar 4) (some (bBin zqh (bVar 3) (bC (.int 1)))) none)) [4,4,3,4])
 (sIf (bT (bBin (opIn false) (bVar 5) (bVar 2))) (zwd 2 (bVar 4) (zqf f_added (zqa (bBin zqd (bVar 2) (bVar 4)) (zqa (bBin zqd (bVar 2) (bVar 5)) (aNil))))) sNil))) (λ pre ρ=>∃ d3 s4 s5,ρ=M (midT b c f j pre) d3 s4 s5) R [] (M (sumJ b c f j) om s4 s5) ⟨om,s4,s5,by rw [mid0 b c f j]⟩ (by
   rintro pre r post _ ep ⟨d3,s4,s5,rfl⟩;rw [je2] at ep;have hr:r∈R:=by rw [ep];exact ja5 _ ja1
   have h1:=zxa.mp hr;have hl:j < r.length:=by rw [h1.len];exact hjb
   have hrp:r∉pre:=λ z=>by
    have:=zyn b c
    rw [show zqu b c=pre++r::post from ep,jl7] at this;exact this.2.2 r z r ja1 rfl
   let N (d3 d4:Nat) (s5:QQ.Slot):Rho:=M (midT b c f j pre) d3 (some (tupR r,d4)) s5;have w1:sSet false 5 (bBin zqh (bBin zqh (bSl (bVar 4) none (some (bVar 3))) (zqc zwa (zqa (bBin zxh (bBin zqd (bVar 4) (bVar 3)) (bC (.int 1))) (aNil)))) (bSl (bVar 4) (some (bBin zqh (bVar 3) (bC (.int 1)))) none)) [4,4,3,4] (N d3 0 s5)=.nx (N 0 0 (some (tupR (lowR r j),0))):=by
    have a1:=qo5 (f:=bVar 4) (g:=bVar 3) (ρ:=N d3 0 s5) (xs:=r) (j:=j) (d:=0) (e:=om) rfl rfl hl;have a2:zqc zwa (zqa (bBin zxh (bBin zqd (bVar 4) (bVar 3)) (bC (.int 1))) (aNil)) (N d3 0 s5)=.ok (tupR [r.getD j 0 - 1],om,N d3 0 s5):=zwh (zxj (zvh (j:=1) (e:=om) (zps (xs:=r) (k:=(j:Int)) (d:=0) (e:=om) rfl rfl (zwc (by omega) (by rw [jc3];exact zwi hl))) rfl)) rfl;have a3:=qjb (f:=bVar 4) (g:=bBin zqh (bVar 3) (bC (.int 1))) (ρ:=N d3 0 s5) (xs:=r) (j:=j + 1) (d:=0) (e:=om) rfl rfl (by omega) (by omega);have a4:=zhx (zhx a1 a2 (by rw [je5,jd7];omega)) a3 (by rw [jb1,je5,jd7,jj7];have:=h1.len;omega);exact setF a4 (show 5 < 6 by decide) rfl
   have w2:=qog (f:=bVar 5) (g:=bVar 2) (ρ:=N 0 0 (some (tupR (lowR r j),0))) (r:=lowR r j) (R:=R) (h:=midT b c f j pre) (d:=0) (e:=0) rfl rfl;have fl:∀ q,(midT b c f j pre q).length<=1000:=λ q=>by
    unfold midT;split <;> exact qf9 hf
   by_cases hm:lowR r j∈R
   ·have hp:lowR r j∈pre:=by
     have pw:=qal b c;rw [show zqu b c=pre++r::post from ep,List.pairwise_append,jo1] at pw;rw [ep,jd2,jb6] at hm;rcases hm with hm | hm | hm
     ·exact hm
     ·have:=zhd hl
      rw [hm,zhc] at this;cases this
     ·have:=qa5 (zhd hl)
      rw [pw.2.1.1 _ hm] at this;cases this
    rw [decide_eq_true hm] at w2;have w3:zwd 2 (bVar 4) (zqf f_added (zqa (bBin zqd (bVar 2) (bVar 4)) (zqa (bBin zqd (bVar 2) (bVar 5)) (aNil)))) (N 0 0 (some (tupR (lowR r j),0)))=.nx (M (midT b c f j (pre++[r])) 0 (some (tupR r,0)) (some (tupR (lowR r j),0))):=by
     have c1:=zhj (f:=bVar 2) (g:=bVar 4) (ρ:=N 0 0 (some (tupR (lowR r j),0))) (R:=R) (h:=midT b c f j pre) (r:=r) (d:=0) (e:=0) rfl rfl hr;have c2:=zhj (f:=bVar 2) (g:=bVar 5) (ρ:=N 0 0 (some (tupR (lowR r j),0))) (R:=R) (h:=midT b c f j pre) (r:=lowR r j) (d:=0) (e:=0) rfl rfl hm;refine qjq (R:=R) (h:=midT b c f j pre) (r:=r) (d:=1) (e:=0) (zqk (zxf c1 (zxj c2)) (qbn (fl _) (fl _))) rfl (by decide) rfl hr hR ?_;show M (λ q=>if q=r then addL (midT b c f j pre r) (midT b c f j pre (lowR r j)) else midT b c f j pre q) _ _ _=_;congr 1;funext q;by_cases e:q=r
     ·subst e;rw [if_pos rfl];unfold midT;rw [if_neg hrp,if_pos hp,if_pos (by simp),zms hr hjb,if_pos hm]
     ·rw [if_neg e];unfold midT
      have:q∈pre++[r]↔q∈pre:=by simp [e]
      simp only [this]
    exact ⟨N d3 0 s5,_,rfl,(zqi w1).trans ((if_t (t_ok w2)).trans w3),_,_,_,rfl⟩
   ·rw [decide_eq_false hm] at w2;refine ⟨N d3 0 s5,_,rfl,(zqi w1).trans ((if_f (t_ok w2)).trans rfl),0,some (tupR r,0),some (tupR (lowR r j),0),?_⟩;show M (midT b c f j pre) _ _ _=_;congr 1;funext q;unfold midT;by_cases e:q=r
    ·subst e;rw [if_neg hrp,if_pos (by simp),zms hr hjb,if_neg hm]
    ·have:q∈pre++[r]↔q∈pre:=by simp [e]
     simp only [this])
  refine ⟨_,qet (R:=R) (h:=f) (d:=0) (ρ2:=M (sumJ b c f j) om s4 s5) rfl rfl e2,some (.int (j:Int),d3'),s4',s5',?_⟩;show L (midT b c f j ([]++R)) _ _ _=_
  have:tabV R (midT b c f j ([]++R))=tabV R (sumJ b c f (j + 1)):=zbf λ r hr=>by
   unfold midT;rw [je2,if_pos hr]
  show [_,_,some (tabV R (midT b c f j ([]++R)),1),_,_,_]=[_,_,some (tabV R (sumJ b c f (j + 1)),1),_,_,_];rw [this])
 rw [show ((b:Int) - 0).toNat=b by omega,show sumJ b c f b=sumB b c f from funext λ r=>qga] at v2;exact zww rfl ((zqi v1).trans ((zqi v2).trans rfl))
def betw (b:Nat) (lo r hi:List Int):Bool:=(jb0 b).all λ j=>decide (lo.getD j 0<=r.getD j 0) && decide (r.getD j 0<=hi.getD j 0)
theorem qlj {b:Nat}{lo r hi:List Int} (h1:lo.length=b) (h2:r.length=b) (h3:hi.length=b) (hb:b<=1000):f_lies_between [tupR r,il lo,il hi]=.ok (.bl (betw b lo r hi),om,.non):=by
 have z:=sz;let R:Rho:=[some (tupR r,0),some (il lo,0),some (il hi,0)]
 have e0:zqc zxv (zqa (bVar 0) (aNil)) R=.ok (.int (b:Int),om,R):=by
  refine zwh (xs:=[(tupR r,0)]) rfl ?_;show some (PV.int ((r.map PV.int).length:Nat),om)=_;rw [ja3,h2]
 have e1:=zpx (n:=3) (en:=zqt) (fa:=zqa (zqc zxv (zqa (bVar 0) (aNil))) aNil) (elt:=zye (λ i j=>decide (i<=j)) (λ i j=>decide (i<=j)) (bBin zqd (bVar 1) (bVar 3)) (bBin zqd (bVar 0) (bVar 3)) (bBin zqd (bVar 2) (bVar 3))) (q:=λ j=>.bl (decide (lo.getD j 0<=r.getD j 0) && decide (r.getD j 0<=hi.getD j 0))) (ρ:=R) (ρ1:=R) (as:=[(.int (b:Int),om)]) (lo:=0) (hi:=(b:Int)) (zxj e0) (zxt (by omega) (by omega)) rfl (λ k hk=>by
  have hkb:k < b:=by omega
  rw [jf8];exact qhh (zvk (xs:=lo) (k:=(k:Int)) (d:=0) (e:=om) rfl rfl (zwc (by omega) (by rw [jc3];exact zwi (by omega)))) (zps (xs:=r) (k:=(k:Int)) (d:=0) (e:=om) rfl rfl (zwc (by omega) (by rw [jc3];exact zwi (by omega)))) (zvk (xs:=hi) (k:=(k:Int)) (d:=0) (e:=om) rfl rfl (zwc (by omega) (by rw [jc3];exact zwi (by omega))))) (by omega)
 rw [show ((b:Int) - 0).toNat=b by omega] at e1;exact zww rfl (zzu (all_ok (xs:=jb0 b) (g:=λ j=>decide (lo.getD j 0<=r.getD j 0) && decide (r.getD j 0<=hi.getD j 0)) e1))
def cntR (ct:List Nat) (r:List Int):Int:=(ct.map λ j=>r.getD j 0).sum
def zbb (b:Nat) (lo hi:List Int) (ct:List Nat) (g:List Int->List Int) (r:List Int):List Int:=if betw b lo r hi=true then ja2 (cntR ct r).toNat 0++g r else []
theorem zht {b:Nat}{c:Nat}{r:List Int} (h:RowB b c r):∀ {ct:List Nat},(∀ j∈ct,j < b)->0<=cntR ct r/\cntR ct r<=ct.length * c
 | [],_=>by simp [cntR]
 | j::ct,hc=>by
  have h1:=zht h (ct:=ct) λ k hk=>hc k (ja0 _ hk);have h2:=h.lo j (hc j ja1);have h3:=h.hi j (hc j ja1);have e:cntR (j::ct) r=r.getD j 0 + cntR ct r:=rfl;rw [e,jb2,jh7,Int.add_mul];omega
theorem zmy {b:Nat}{c:Nat}{lo hi:List Int}{ct:List Nat}{g:List Int->List Int} (h1:lo.length=b) (h3:hi.length=b) (hb:b<=1000) (hct:∀ j∈ct,j < b) (hcl:ct.length * c<=1000/\ct.length<=1000/\c<=1000) (hn:zqu b c≠[]) (hR:(zqu b c).length < 1000000) (hg:∀ r∈zqu b c,(g r).length<=1000):
  f_table_of_row [tabV (zqu b c) g,il lo,il hi,.lst (ct.map λ (j:Nat)=>.int (j:Int))]=.ok (tabV (zqu b c) (zbb b lo hi ct g),1,.non):=by
 have z:=sz;let R:=zqu b c;let L (s4 s5:QQ.Slot):Rho:=[some (tabV R g,0),some (il lo,0),some (il hi,0),some (.lst (ct.map λ (j:Nat)=>.int (j:Int)),0),s4,s5]
 let T:=zbb b lo hi ct g;obtain ⟨ρ',v2,s5,s4,hs,rfl⟩:=zvf (asg:=asgN 5) (enc:=tupR) (body:=(sIf (bT (zqf f_lies_between (zqa (bVar 5) (zqa (bVar 1) (zqa (bVar 2) (aNil)))))) (zwd 4 (bVar 5) (bBin zqh (bBin zqs (zqc zql (zqa (bC (.int 0)) (aNil))) (zqc zvn (zqa (zxy (bVar 3) 1 (asgN 6) zxz (bBin zqd (bVar 5) (bVar 6))) (aNil)))) (bBin zqd (bVar 0) (bVar 5)))) (zwd 4 (bVar 5) (zqc zql (aNil))))) (λ pre ρ=>∃ s5 s4,((pre=[]/\s4=some (.dct [],om))\/(pre≠[]/\s4=some (tabV pre T,1)))/\ρ=L s4 s5) R [] (L (some (.dct [],om)) none) ⟨none,some (.dct [],om),.inl ⟨rfl,rfl⟩,rfl⟩ (by
  rintro pre r post _ ep ⟨s5,s4,hs,rfl⟩;rw [je2] at ep;have hr:r∈R:=by rw [ep];exact ja5 _ ja1
  have h2:=zxa.mp hr;have hrp:r∉pre:=λ z=>by
   have:=zyn b c
   rw [show zqu b c=pre++r::post from ep,jl7] at this;exact this.2.2 r z r ja1 rfl
  have hpl:pre.length < 1000000:=by
   have:R.length=pre.length + (post.length + 1):=by rw [ep];simp
   have:R.length < 1000000:=hR
   omega
  obtain ⟨x4,d4,rfl,hx,hd⟩:∃ x4 d4,s4=some (x4,d4)/\(x4=tabV pre T\/(x4=.dct []/\pre=[]))/\d4≠0:=by
   rcases hs with ⟨e1,e2⟩ | ⟨e1,e2⟩
   ·exact ⟨_,_,e2,.inr ⟨rfl,e1⟩,by decide⟩
   ·exact ⟨_,_,e2,.inl rfl,by decide⟩
  let N:Rho:=L (some (x4,d4)) (some (tupR r,0));have t:=t_ok (zqk (F:=f_lies_between) (fa:=zqa (bVar 5) (zqa (bVar 1) (zqa (bVar 2) (aNil)))) (ρ:=N) (ρ1:=N) (xs:=[(tupR r,0),(il lo,0),(il hi,0)]) rfl (qlj h1 h2.len h3 hb));have fin:∃ ρ2,(sIf (bT (zqf f_lies_between (zqa (bVar 5) (zqa (bVar 1) (zqa (bVar 2) (aNil)))))) (zwd 4 (bVar 5) (bBin zqh (bBin zqs (zqc zql (zqa (bC (.int 0)) (aNil))) (zqc zvn (zqa (zxy (bVar 3) 1 (asgN 6) zxz (bBin zqd (bVar 5) (bVar 6))) (aNil)))) (bBin zqd (bVar 0) (bVar 5)))) (zwd 4 (bVar 5) (zqc zql (aNil)))) N=.nx ρ2/\ρ2=L (some (tabV (pre++[r]) T,1)) (some (tupR r,0)):=by
   refine ⟨_,?_,rfl⟩;cases hbt:betw b lo r hi with
   | true=>
    rw [hbt] at t;have cs:=qhe (n:=6) (f:=bVar 3) (elt:=bBin zqd (bVar 5) (bVar 6)) (enc:=λ (j:Nat)=>PV.int (j:Int)) (q:=λ j=>.int (r.getD j 0)) (ρ:=N) (ρ1:=N) (d:=0) ct rfl rfl (λ j hj=>zps (xs:=r) (k:=(j:Int)) (d:=0) (e:=om) rfl rfl (zwc (by omega) (by rw [jc3];exact zwi (by rw [h2.len];exact hct j hj)))) (by omega);have cs':zxy (bVar 3) 1 (asgN 6) zxz (bBin zqd (bVar 5) (bVar 6)) N=.ok (il (ct.map λ j=>r.getD j 0),om,N):=by
     rw [cs];unfold il;rw [jd8];rfl
    have sok:zyf (ct.map λ j=>r.getD j 0)=true:=qf8 (by rw [ja3];omega) (λ x hx=>by
     obtain ⟨j,hj,rfl⟩:=jd4.mp hx;have a1:=h2.lo j (hct j hj);have a2:=h2.hi j (hct j hj)
     omega)
    have sm:=qcv (zxj cs') sok;have cb:=zht h2 hct;have cc:((ct.length * c:Nat):Int)<=1000:=by omega
    rw [jk7] at cc;have e1:=zgy (f:=zqc zql (zqa (bC (.int 0)) (aNil))) (ρ:=N) (ρ1:=N) (d:=om) rfl sm (by show -1000000<=cntR ct r/\cntR ct r<=1000000;omega);have e2:=qis e1 (zhj (f:=bVar 0) (g:=bVar 5) (R:=R) (h:=g) (r:=r) (d:=0) (e:=0) rfl rfl hr) (by
     have:=hg r hr
     rw [jc5];show (cntR ct r).toNat + _<=_
     omega)
    refine (if_t t).trans (zgo (R:=pre) (h:=T) (r:=r) (d:=d4) (e:=0) (x:=x4) e2 rfl hx hd rfl hrp ?_ hpl rfl);show zbb b lo hi ct g r=_;unfold zbb;rw [hbt,if_pos rfl];rfl
   | false=>
    rw [hbt] at t;refine (if_f t).trans (zgo (R:=pre) (h:=T) (r:=r) (y:=[]) (d:=d4) (e:=0) (x:=x4) (f:=zqc zql aNil) (ρ1:=N) rfl rfl hx hd rfl hrp ?_ hpl rfl);show zbb b lo hi ct g r=_;unfold zbb;rw [hbt,if_neg (by simp)]
  obtain ⟨ρ2,f1,rfl⟩:=fin;exact ⟨N,_,rfl,f1,_,_,.inr ⟨by simp,rfl⟩,rfl⟩)
 rcases hs with ⟨e,_⟩ | ⟨_,rfl⟩
 ·exact absurd e hn
 ·have v1:sSet false 4 bDct [] (L none none)=.nx (L (some (.dct [],om)) none):=rfl;exact zww rfl ((zqi v1).trans ((zqi (qet (R:=R) (h:=g) (d:=0) rfl rfl v2)).trans rfl))
theorem qld {n:Nat}{en:List (PV×Nat)->Option (Int×Int)}{fa:Fa}{elt:Fx}{q:Nat->PV}{ρ ρ1:Rho}{as:List (PV×Nat)}{lo hi:Int} (hf:fa ρ=.ok (as,ρ1)) (hen:en as=some (lo,hi)) (hn:ρ1.length=n) (he:∀ k,k < (hi - lo).toNat->elt (ρ1++[some (.int (lo + (k:Int)),om)])=.ok (q k,0,ρ1++[some (.int (lo + (k:Int)),om)])) (hl:(hi - lo).toNat<=va6):
  ∃ e,zxg en fa 1 (asgN n) zxz elt ρ=.ok (.lst ((jb0 (hi - lo).toNat).map q),e,ρ1):=by
 refine ⟨if zzr ((jb0 (hi - lo).toNat).map λ (k:Nat)=>(q k,0)) then om else 1,?_⟩;unfold zxg;rw [hf];dsimp only;rw [hen];dsimp only;rw [zvx,zze (enc:=λ (k:Nat)=>PV.int (lo + (k:Int))) (p:=λ _=>true) (q:=q) (e:=λ _=>0) (jb0 (hi - lo).toNat) ρ1 [] hn (λ _ _=>rfl) (λ x hx _=>he x (jd0.mp hx)) (by simpa using hl),jh0.mpr (λ _ _=>rfl)];show zvg ((jb0 (hi - lo).toNat).map λ x=>(q x,0)) ρ1=_;unfold zvg;rw [jd8];rfl
theorem qjl {b c:Nat} (hb:1<=b/\b<=1000) (hc:c<=1000) (hR:∀ n,n<=b->(zqu n c).length<=500000):f_rows_of_heights [.int (b:Int),.int (c:Int)]=.ok (.lst ((zqu b c).map tupR),0,.non):=by
 have z:=sz;let L (x2:PV) (d2:Nat) (s3 s4 s5 s6:QQ.Slot) (d1:Nat):Rho:=[some (.int (b:Int),om),some (.int (c:Int),d1),some (x2,d2),s3,s4,s5,s6]
 have v1:sSet false 2 (zqc zql (zqa (zqc zwa (aNil)) (aNil))) [] [some (.int (b:Int),om),some (.int (c:Int),om),none,none,none,none,none]=.nx (L (.lst [tupR []]) om none none none none om):=rfl;obtain ⟨ρ',v2,d1,d2,s3,s4,s5,s6,hd2,rfl⟩:=zzl (i:=3) (en:=zqt) (fa:=zqa (bVar 0) aNil) (body:=(sSeq (sSet false 4 (zqc zql (aNil)) [])
 (sSeq (zzg (bVar 2) [2] (asgN 5) (sSeq (sSet false 6 (bIfE (bT (bBin (zxo λ i j=>decide (j < i)) (bVar 3) (bC (.int 0)))) (bBin zqd (bVar 5) (bUn zyh (bC (.int 1)))) (bVar 1)) [5,1])
 (sExt 4 (zxg zqt (zqa (bBin zqh (bVar 6) (bC (.int 1))) (aNil)) 1 (asgN 7) zxz (bBin zqh (bVar 5) (zqc zwa (zqa (bVar 7) (aNil))))) [5])))
 (sSet false 2 (bVar 4) [4])))) (ρ:=L (.lst [tupR []]) om none none none none om) (ρ1:=L (.lst [tupR []]) om none none none none om) (as:=[(.int (b:Int),om)]) (lo:=0) (hi:=(b:Int))
  (λ j ρ=>∃ d1 d2 s3 s4 s5 s6,(0 < j->d2=0)/\ρ=L (.lst ((zqu j c).map tupR)) d2 s3 s4 s5 s6 d1) rfl (zxt (by omega) (by omega)) ⟨om,om,none,none,none,none,λ h=>absurd h (by omega),rfl⟩ (by
  rintro j _ hj ⟨d1,d2,s3,s4,s5,s6,_,rfl⟩;have hjb:j < b:=by omega
  refine ⟨by show 3 < 7;decide,?_⟩;rw [jf8];let R:=zqu j c;let M (xs:List PV) (d4 d1 d2 d3:Nat) (s5 s6:QQ.Slot):Rho:=[some (.int (b:Int),om),some (.int (c:Int),d1),some (.lst (R.map tupR),d2),some (.int (j:Int),d3),some (.lst xs,d4),s5,s6]
  let nx (r:List Int):List (List Int):=(zyi 0 (topR c c r + 1)).map λ x=>r++[x];have hnx:zqu (j + 1) c=R.flatMap nx:=rfl;obtain ⟨ρ2,e2,d1',d3',d4',s5',s6',hd4,rfl⟩:=zvf (asg:=asgN 5) (enc:=tupR) (body:=(sSeq (sSet false 6 (bIfE (bT (bBin (zxo λ i j=>decide (j < i)) (bVar 3) (bC (.int 0)))) (bBin zqd (bVar 5) (bUn zyh (bC (.int 1)))) (bVar 1)) [5,1])
 (sExt 4 (zxg zqt (zqa (bBin zqh (bVar 6) (bC (.int 1))) (aNil)) 1 (asgN 7) zxz (bBin zqh (bVar 5) (zqc zwa (zqa (bVar 7) (aNil))))) [5]))) (λ pre ρ=>∃ d1 d3 d4 s5 s6,d4≠0/\ρ=M ((pre.flatMap nx).map tupR) d4 d1 0 d3 s5 s6) R [] (M [] om d1 0 om s5 s6) ⟨d1,om,om,s5,s6,by decide,rfl⟩ (by
   rintro pre r post _ ep ⟨d1,d3,d4,s5,s6,hd4,rfl⟩;rw [je2] at ep;have hr:r∈R:=by rw [ep];exact ja5 _ ja1
   have h2:=zxa.mp hr;let N (d1 d5:Nat) (s6:QQ.Slot):Rho:=M ((pre.flatMap nx).map tupR) d4 d1 0 d3 (some (tupR r,d5)) s6;have ht:∃ m:Nat,topR c c r=(m:Int)/\m<=c/\bIfE (bT (bBin (zxo λ i j=>decide (j < i)) (bVar 3) (bC (.int 0)))) (bBin zqd (bVar 5) (bUn zyh (bC (.int 1)))) (bVar 1) (N d1 0 s6)=.ok (.int (m:Int),om,N d1 0 s6):=by
    have tt:=t_ok (zjx (p:=λ i j=>decide (j < i)) (f:=bVar 3) (g:=bC (.int 0)) (ρ:=N d1 0 s6) (i:=(j:Int)) (j:=0) (d:=om) (e:=om) rfl rfl);cases j with
    | zero=>
     refine ⟨c,?_,ja8 _,?_⟩
     ·unfold topR;rw [jf3.mp h2.len];simp only [jo7];omega
     ·unfold bIfE;rw [tt];rfl
    | succ i=>
     have g1:=zvz h2.len;have g2:=h2.lo i (by omega);have g3:=h2.hi i (by omega);obtain ⟨m,hm⟩:∃ m:Nat,r.getD i 0=(m:Int):=⟨(r.getD i 0).toNat,by omega⟩
     refine ⟨m,?_,by omega,?_⟩
     ·unfold topR;rw [g1];simp only;omega
     ·unfold bIfE;rw [tt];dsimp only [Rz.bind];rw [if_pos (by rw [decide_eq_true_iff];omega)];refine zps (xs:=r) (k:=-1) (d:=0) (e:=om) rfl rfl ?_;unfold atI ixN;rw [if_neg (by decide),if_pos (by rw [h2.len];omega),h2.len,<- hm];rw [show (-1 + ((i + 1:Nat):Int)).toNat=i by omega];exact zwi (by rw [h2.len];omega)
   obtain ⟨m,tm,hmc,ev⟩:=ht;have w1:sSet false 6 (bIfE (bT (bBin (zxo λ i j=>decide (j < i)) (bVar 3) (bC (.int 0)))) (bBin zqd (bVar 5) (bUn zyh (bC (.int 1)))) (bVar 1)) [5,1] (N d1 0 s6)=.nx (N d1 0 (some (.int (m:Int),om))):=setF ev (show 6 < 7 by decide) rfl;have ct:∃ e,zxg zqt (zqa (bBin zqh (bVar 6) (bC (.int 1))) (aNil)) 1 (asgN 7) zxz (bBin zqh (bVar 5) (zqc zwa (zqa (bVar 7) (aNil)))) (N d1 0 (some (.int (m:Int),om)))=.ok (.lst ((nx r).map tupR),e,N d1 0 (some (.int (m:Int),om))):=by
    let W:Rho:=N d1 0 (some (.int (m:Int),om));have e1:(nx r).map tupR=(jb0 (m + 1)).map λ (k:Nat)=>tupR (r++[(0:Int) + (k:Int)]):=by
     show ((zyi 0 (topR c c r + 1)).map λ x=>r++[x]).map tupR=_;unfold zyi;rw [tm,jd8,jd8,show ((m:Int) + 1 - 0).toNat=m + 1 by omega];rfl
    have hc:=qld (n:=7) (en:=zqt) (fa:=zqa (bBin zqh (bVar 6) (bC (.int 1))) (aNil)) (elt:=bBin zqh (bVar 5) (zqc zwa (zqa (bVar 7) (aNil)))) (q:=λ k=>tupR (r++[(0:Int) + (k:Int)])) (ρ:=W) (ρ1:=W) (as:=[(.int ((m:Int) + 1),om)]) (lo:=0) (hi:=(m:Int) + 1) rfl (zxt (by omega) (by omega)) rfl (λ k hk=>by
     exact zhx (f:=bVar 5) (h:=zqc zwa (zqa (bVar 7) (aNil))) (xs:=r) (ys:=[(0:Int) + (k:Int)]) (d:=0) (e:=om) rfl rfl (by rw [h2.len,jd7];omega)) (by omega)
    rw [show ((m:Int) + 1 - 0).toNat=m + 1 by omega,<- e1] at hc;exact hc
   obtain ⟨e,ct⟩:=ct;have hjl:(zqu (j + 1) c).length<=500000:=hR (j + 1) (by omega);have hln:((pre.flatMap nx).map tupR).length + ((nx r).map tupR).length<=va6:=by
    have:(zqu (j + 1) c).length=(pre.flatMap nx).length + ((nx r).length + (post.flatMap nx).length):=by
     rw [hnx,ep,ji3,jh8,jb1,jb1]
    rw [ja3,ja3];omega
   have w2:sExt 4 (zxg zqt (zqa (bBin zqh (bVar 6) (bC (.int 1))) (aNil)) 1 (asgN 7) zxz (bBin zqh (bVar 5) (zqc zwa (zqa (bVar 7) (aNil))))) [5] (N d1 0 (some (.int (m:Int),om)))=.nx (M (((pre++[r]).flatMap nx).map tupR) 1 d1 0 d3 (some (tupR r,0)) (some (.int (m:Int),om))):=by
    obtain ⟨k,rfl⟩:∃ k,d4=k + 1:=⟨d4 - 1,by omega⟩
    have hcool:zqp e [5] (N d1 0 (some (.int (m:Int),om)))=N d1 0 (some (.int (m:Int),om)):=by
     unfold zqp;split <;> rfl
    refine qif (xs:=(pre.flatMap nx).map tupR) (xs0:=(pre.flatMap nx).map tupR) (d0:=k) (d:=k + 1) rfl ct (by rw [hcool];rfl) (by omega) hln ?_;rw [hcool,ji3,je4];simp only [jh8,List.flatMap_nil,jh3];rfl
   exact ⟨N d1 0 s6,_,rfl,(zqi w1).trans w2,d1,d3,1,_,_,by decide,rfl⟩)
  have u1:sSet false 4 (zqc zql (aNil)) [] (L (.lst (R.map tupR)) d2 (some (.int (j:Int),om)) s4 s5 s6 d1)=.nx (M [] om d1 d2 om s5 s6):=rfl;have u2:zzg (bVar 2) [2] (asgN 5) (sSeq (sSet false 6 (bIfE (bT (bBin (zxo λ i j=>decide (j < i)) (bVar 3) (bC (.int 0)))) (bBin zqd (bVar 5) (bUn zyh (bC (.int 1)))) (bVar 1)) [5,1])
 (sExt 4 (zxg zqt (zqa (bBin zqh (bVar 6) (bC (.int 1))) (aNil)) 1 (asgN 7) zxz (bBin zqh (bVar 5) (zqc zwa (zqa (bVar 7) (aNil))))) [5])) (M [] om d1 d2 om s5 s6)=_:=zvq (els:=R.map tupR) (d:=0) rfl rfl e2
  refine ⟨_,(zqi u1).trans ((zqi u2).trans (setF (x:=.lst (((([]:List (List Int))++R).flatMap nx).map tupR)) (d:=0) rfl (show 2 < 7 by decide) rfl)),d1',0,some (.int (j:Int),d3'),some (.lst (((([]:List (List Int))++R).flatMap nx).map tupR),0),s5',s6',λ _=>rfl,?_⟩
  rfl)
 rw [show ((b:Int) - 0).toNat=b by omega] at v2;have hd:d2=0:=hd2 (by omega);subst hd;exact zww rfl ((zqi v1).trans ((zqi v2).trans rfl))
structure BoxT (a b c:Nat):Prop where
 ha:1<=a/\a<=100
 hb:1<=b/\b<=100
 hc:c<=100
 dk:dkOk ((zqu b c).map keyR)=true
 rl:∀ n,n<=b->(zqu n c).length<=500000
theorem zpj {b c:Nat}:zqu b c≠[]:=λ e=>by
 have:ja2 b (0:Int)∈zqu b c:=zxa.mpr ⟨jc5,λ j hj=>by simp [ja6,jc8,hj],λ j hj=>by simp [ja6,jc8,hj],λ j hj=>by simp [ja6,jc8,hj,show j < b by omega]⟩
 rw [e] at this;cases this
def zkr (r:List Int):List Int:=if r.sum=0 then [1] else []
def tabN (a b:Nat) (c:Int) (lo hi:Nat->List Int) (ct:Nat->List Nat):Nat->List Int->List Int
 | 0=>zkr
 | k + 1=>zbb b (lo (a - 1 - k)) (hi (a - 1 - k)) (ct (a - 1 - k)) (sumB b c (tabN a b c lo hi ct k))
theorem zpb {a b c:Nat}{lo hi:Nat->List Int}{ct:Nat->List Nat}{m:Nat} (hct:∀ i,(ct i).length<=m) (hcb:∀ i,∀ j∈ct i,j < b):∀ (k:Nat),∀ r∈zqu b c,(tabN a b c lo hi ct k r).length<=1 + k * (m * c)
 | 0,r,_=>by
  unfold tabN zkr;split <;> simp
 | k + 1,r,hr=>by
  have ih:=zpb (a:=a) (b:=b) (c:=c) (lo:=lo) (hi:=hi) hct hcb k;unfold tabN zbb;split
  ·rw [jb1,jc5];have h1:(sumB b c (tabN a b c lo hi ct k) r).length<=1 + k * (m * c):=zvv λ q hq=>ih q (jg1.mp hq).1;have h2:=(zht (zxa.mp hr) (hcb (a - 1 - k))).2;have h3:(ct (a - 1 - k)).length * c<=m * c:=jg6 _ (hct _);have h4:(cntR (ct (a - 1 - k)) r).toNat<=m * c:=by
    have:(((ct (a - 1 - k)).length * c:Nat):Int)=((ct (a - 1 - k)).length:Int) * (c:Int):=jk7 _ _
    omega
   have h5:(k + 1) * (m * c)=k * (m * c) + m * c:=by rw [jr4,jr5]
   omega
  ·simp
def ctP (ps:List (Nat×Nat)) (i:Nat):List Nat:=(ps.filter λ z=>decide (z.1=i)).map (·.2)
theorem zhs {ps:List (Nat×Nat)}{b i:Nat} (h:∀ z∈ps,z.2 < b):∀ j∈ctP ps i,j < b:=λ j hj=>by
 obtain ⟨z,hz,rfl⟩:=jd4.mp hj;exact h z (jg1.mp hz).1
theorem qg6 {fa:Fa}{asg:PV->Rho->Option Rho}{body:Fs}{ρ ρ1:Rho}{r:Rs}{as:List (PV×Nat)}{i:Int}{n:Nat} (hf:fa ρ=.ok (as,ρ1)) (hen:qb7 as=some (i,n)) (h:zxe asg body (zbd i n) ρ1=r):zjd fa asg body ρ=r:=by
 unfold zjd;rw [hf];dsimp only;rw [hen];exact h
theorem qg7 {i j:Int}{d1 d2 d3:Nat} (h1:-(2 ^ 40)<=i) (h2:i < 2 ^ 40) (h3:-(2 ^ 40)<=j) (h4:j < 2 ^ 40):qb7 [(.int i,d1),(.int j,d2),(.int (-1),d3)]=some (i,(i - j).toNat):=by
 show (if (-1:Int)=-1/\-(2 ^ 40)<=i/\i < 2 ^ 40/\-(2 ^ 40)<=j/\j < 2 ^ 40 then some (i,(i - j).toNat) else none)=_;rw [if_pos ⟨rfl,h1,h2,h3,h4⟩]
theorem qck {a b c:Nat} (B:BoxT a b c) {low high:List (List Int)} (hl:Tab a b low) (hh:Tab a b high) {ps:List (Nat×Nat)} (hp:∀ z∈ps,z.2 < b) {m:Nat} (hm:∀ i,(ctP ps i).length<=m) (hmc:1 + a * (m * c)<=1000) (hpl:ps.length<=1000):
  ∃ d,f_tables_between [bx a b c,tb low,tb high,.lst (ps.map pr)]=.ok (.lst ((jb0 a).map λ k=>tabV (zqu b c) (tabN a b c (λ i=>low.getD i []) (λ i=>high.getD i []) (ctP ps) (k + 1))).reverse,d,.non):=by
 have z:=sz;obtain ⟨ha,hb,hc,dk,rl⟩:=B;let R:=zqu b c;let T:=tabN a b c (λ i=>low.getD i []) (λ i=>high.getD i []) (ctP ps);have hRl:R.length < 1000000:=by have:=rl b (ja8 _);show (zqu b c).length < _;omega
 let L (d5 d6:Nat) (s7 s8 s9 s10 s11:QQ.Slot):Rho:=[some (bx a b c,0),some (tb low,0),some (tb high,0),some (.lst (ps.map pr),0),some (.int (a:Int),om),some (.int (b:Int),d5),some (.int (c:Int),d6),s7,s8,s9,s10,s11]
 have v1:sUnp (asgT [4,5,6]) (bVar 0) [0] [some (bx a b c,0),some (tb low,0),some (tb high,0),some (.lst (ps.map pr),0),none,none,none,none,none,none,none,none]=.nx (L om om none none none none none):=rfl;have v2:sSet false 7 bDct [] (L om om none none none none none)=.nx (L om om (some (.dct [],om)) none none none none):=rfl;obtain ⟨ρ3,e3,s8,s7,hs,rfl⟩:=zvf (asg:=asgN 8) (enc:=tupR) (body:=zwd 7 (bVar 8) (bIfE (bT (bBin (opEq false) (zqc zvn (zqa (bVar 8) (aNil))) (bC (.int 0)))) (zqc zql (zqa (bC (.int 1)) (aNil))) (zqc zql (aNil)))) (λ pre ρ=>∃ s8 s7,((pre=[]/\s7=some (.dct [],om))\/(pre≠[]/\s7=some (tabV pre zkr,1)))/\ρ=L 0 0 s7 s8 none none none) R [] (L 0 0 (some (.dct [],om)) none none none none) ⟨none,_,.inl ⟨rfl,rfl⟩,rfl⟩ (by
  rintro pre r post _ ep ⟨s8,s7,hs,rfl⟩;rw [je2] at ep;have hrp:r∉pre:=λ z=>by
   have:=zyn b c
   rw [show zqu b c=pre++r::post from ep,jl7] at this;exact this.2.2 r z r ja1 rfl
  have hpl:pre.length < 1000000:=by
   have:R.length=pre.length + (post.length + 1):=by rw [ep];simp
   omega
  obtain ⟨x4,d4,rfl,hx,hd⟩:∃ x4 d4,s7=some (x4,d4)/\(x4=tabV pre zkr\/(x4=.dct []/\pre=[]))/\d4≠0:=by
   rcases hs with ⟨e1,e2⟩ | ⟨e1,e2⟩
   ·exact ⟨_,_,e2,.inr ⟨rfl,e1⟩,by decide⟩
   ·exact ⟨_,_,e2,.inl rfl,by decide⟩
  let N:Rho:=L 0 0 (some (x4,d4)) (some (tupR r,0)) none none none;have e1:zqc zvn (zqa (bVar 8) (aNil)) N=.ok (.int r.sum,om,N):=by
   refine zwh (xs:=[(tupR r,0)]) rfl ?_;show (match zvj (r.map PV.int) with | some ns=>some (PV.int ns.sum,om) | none=>none)=_;rw [zks]
  have e2:=t_ok (zhm (neg:=false) (g:=bC (.int 0)) (j:=0) (e:=om) e1 rfl);have e3:bIfE (bT (bBin (opEq false) (zqc zvn (zqa (bVar 8) (aNil))) (bC (.int 0)))) (zqc zql (zqa (bC (.int 1)) (aNil))) (zqc zql (aNil)) N=.ok (il (zkr r),om,N):=by
   unfold bIfE;rw [e2];dsimp only [Rz.bind];rw [jn2];unfold zkr;by_cases h0:r.sum=0
   ·rw [decide_eq_true h0,if_pos rfl,if_pos h0];rfl
   ·rw [decide_eq_false h0,if_neg (by simp),if_neg h0];rfl
  exact ⟨N,_,rfl,zgo (R:=pre) (h:=zkr) (r:=r) (d:=d4) (e:=0) (x:=x4) e3 rfl hx hd rfl hrp rfl hpl rfl,some (tupR r,0),_,.inr ⟨by simp,rfl⟩,rfl⟩)
 have hs:s7=some (tabV R zkr,1):=by
  rcases hs with ⟨e,_⟩ | ⟨_,e⟩
  ·exact absurd e zpj
  ·exact e
 subst hs;have v3:zzg (zqf f_rows_of_heights (zqa (bVar 5) (zqa (bVar 6) (aNil)))) [5,6] (asgN 8) (zwd 7 (bVar 8) (bIfE (bT (bBin (opEq false) (zqc zvn (zqa (bVar 8) (aNil))) (bC (.int 0)))) (zqc zql (zqa (bC (.int 1)) (aNil))) (zqc zql (aNil)))) (L om om (some (.dct [],om)) none none none none)=.nx (L 0 0 (some (tabV R zkr,1)) s8 none none none):=zvq (els:=R.map tupR) (d:=0) (zqk (xs:=[(.int (b:Int),om),(.int (c:Int),om)]) rfl (qjl (by omega) (by omega) rl)) rfl e3;have v4:sSet false 9 (zqc zql (aNil)) [] (L 0 0 (some (tabV R zkr,1)) s8 none none none)=.nx (L 0 0 (some (tabV R zkr,1)) s8 (some (.lst [],om)) none none):=rfl;obtain ⟨ρ5,e5,d7,d9,s10,s11,hd9,rfl⟩:=zjm (asg:=asgN 10) (body:=(sSeq (sSet false 11 (zxy (bVar 3) 1 (asgN 12) (bT (bBin (opEq false) (bBin zqd (bVar 12) (bC (.int 0))) (bVar 10))) (bBin zqd (bVar 12) (bC (.int 1)))) [3,3])
 (sSeq (sSet false 7 (zqf f_table_of_row (zqa (zqf f_sums_of_lower_rows (zqa (bVar 7) (zqa (bVar 5) (aNil)))) (zqa (bBin zqd (bVar 1) (bVar 10)) (zqa (bBin zqd (bVar 2) (bVar 10)) (zqa (bVar 11) (aNil)))))) [7,5,1,10,2,10,11])
 (sApp 9 (bVar 7) [7])))) (zbd ((a:Int) - 1) a) (λ k ρ=>∃ d7 d9 s10 s11,d9≠0/\ρ=L 0 0 (some (tabV R (T k),d7)) s8 (some (.lst ((jb0 k).map λ t=>tabV R (T (t + 1))),d9)) s10 s11) (L 0 0 (some (tabV R zkr,1)) s8 (some (.lst [],om)) none none) ⟨1,om,none,none,by decide,rfl⟩ (by
  rintro k x _ hx ⟨d7,d9,s10,s11,hd9,rfl⟩;unfold zbd at hx;rw [jc7] at hx;have hk:k < a:=by
   cases e:(jb0 a)[k]? with
   | none=>rw [e] at hx;cases hx
   | some t=>have:=(ja9.mp e).1;simpa using this
  rw [jk4 hk] at hx;obtain rfl:PV.int ((a:Int) - 1 - (k:Int))=x:=Option.some.inj hx;let i:=a - 1 - k;have hi:i < a:=by show a - 1 - k < a;omega
  have ei:(a:Int) - 1 - (k:Int)=(i:Int):=by show _=((a - 1 - k:Nat):Int);omega
  rw [ei];let N (d7 d10:Nat) (s11:QQ.Slot):Rho:=L 0 0 (some (tabV R (T k),d7)) s8 (some (.lst ((jb0 k).map λ t=>tabV R (T (t + 1))),d9)) (some (.int (i:Int),d10)) s11;have w1:sSet false 11 (zxy (bVar 3) 1 (asgN 12) (bT (bBin (opEq false) (bBin zqd (bVar 12) (bC (.int 0))) (bVar 10))) (bBin zqd (bVar 12) (bC (.int 1)))) [3,3] (N d7 om s11)=.nx (N d7 om (some (.lst ((ctP ps i).map λ (j:Nat)=>.int (j:Int)),om))):=by
   have cf:=qhf (n:=12) (f:=bVar 3) (enc:=pr) (q:=λ z=>.int (z.2:Int)) (p:=λ z=>decide (z.1=i)) (test:=bT (bBin (opEq false) (bBin zqd (bVar 12) (bC (.int 0))) (bVar 10))) (elt:=bBin zqd (bVar 12) (bC (.int 1))) (ρ:=N d7 om s11) (ρ1:=N d7 om s11) (d:=0) ps rfl rfl (λ z _=>by
    have e1:bBin zqd (bVar 12) (bC (.int 0)) (N d7 om s11++[some (pr z,dv (pr z))])=.ok (.int (z.1:Int),om,N d7 om s11++[some (pr z,dv (pr z))]):=rfl;have e2:=t_ok (zhm (neg:=false) (g:=bVar 10) (j:=(i:Int)) (e:=om) e1 rfl);have e4:decide ((z.1:Int)=(i:Int))=decide (z.1=i):=by
     rw [je1,decide_eq_true_iff,decide_eq_true_iff];omega
    rw [e2,jn2,e4]) (λ z _ _=>rfl) (by omega)
   have cf':zxy (bVar 3) 1 (asgN 12) (bT (bBin (opEq false) (bBin zqd (bVar 12) (bC (.int 0))) (bVar 10))) (bBin zqd (bVar 12) (bC (.int 1))) (N d7 om s11)=.ok (.lst ((ctP ps i).map λ (j:Nat)=>.int (j:Int)),om,N d7 om s11):=by
    rw [cf];unfold ctP;rw [jd8];rfl
   exact setF cf' (show 11 < 12 by decide) rfl
  let N2:Rho:=N d7 om (some (.lst ((ctP ps i).map λ (j:Nat)=>.int (j:Int)),om));have hkm:1 + k * (m * c)<=1000:=by
   have:k * (m * c)<=a * (m * c):=jg6 _ (by omega)
   omega
  have tl:∀ r∈R,(T k r).length<=1000:=λ r hr=>jd1 (zpb hm (λ i=>zhs hp) k r hr) hkm;have c1:zqf f_sums_of_lower_rows (zqa (bVar 7) (zqa (bVar 5) (aNil))) N2=.ok (tabV R (sumB b c (T k)),1,N2):=zqk (xs:=[(tabV R (T k),0),(.int (b:Int),om)]) rfl (qja (by omega) dk zpj hRl tl);have gl:low[i]?=some (low.getD i []):=zfn (by rw [hl.1];exact hi);have gh:high[i]?=some (high.getD i []):=zfn (by rw [hh.1];exact hi);have c2:bBin zqd (bVar 1) (bVar 10) N2=.ok (il (low.getD i []),0,N2):=qie (t:=low) (k:=(i:Int)) (d:=0) (e:=om) rfl rfl (zwc (by omega) (by rw [jc3];exact gl));have c3:bBin zqd (bVar 2) (bVar 10) N2=.ok (il (high.getD i []),0,N2):=qie (t:=high) (k:=(i:Int)) (d:=0) (e:=om) rfl rfl (zwc (by omega) (by rw [jc3];exact gh));have hcm:(ctP ps i).length * c<=1000:=by
   have e1:(ctP ps i).length * c<=m * c:=jg6 _ (hm i);have e2:1 * (m * c)<=a * (m * c):=jg6 _ (by omega);omega
  have hcl:(ctP ps i).length<=1000:=by
   unfold ctP;rw [ja3];exact jd1 (List.length_filter_le _ _) hpl
  have rt:=zmy (b:=b) (c:=c) (lo:=low.getD i []) (hi:=high.getD i []) (ct:=ctP ps i) (g:=sumB b c (T k)) (Tab.row hl hi) (Tab.row hh hi) (by omega) (zhs hp) ⟨hcm,hcl,by omega⟩ zpj hRl (λ r hr=>zvv λ q hq=>tl q (jg1.mp hq).1);have w2:sSet false 7 (zqf f_table_of_row (zqa (zqf f_sums_of_lower_rows (zqa (bVar 7) (zqa (bVar 5) (aNil)))) (zqa (bBin zqd (bVar 1) (bVar 10)) (zqa (bBin zqd (bVar 2) (bVar 10)) (zqa (bVar 11) (aNil)))))) [7,5,1,10,2,10,11] N2=.nx (L 0 0 (some (tabV R (T (k + 1)),1)) s8 (some (.lst ((jb0 k).map λ t=>tabV R (T (t + 1))),d9)) (some (.int (i:Int),0)) (some (.lst ((ctP ps i).map λ (j:Nat)=>.int (j:Int)),0))):=
   setF (x:=tabV R (T (k + 1))) (d:=1) (zqk (xs:=[(tabV R (sumB b c (T k)),1),(il (low.getD i []),0),(il (high.getD i []),0),(.lst ((ctP ps i).map λ (j:Nat)=>.int (j:Int)),0)]) (zxf c1 (zxf c2 (zxf c3 (zxj rfl)))) rt) (show 7 < 12 by decide) rfl
  have w3:sApp 9 (bVar 7) [7] (L 0 0 (some (tabV R (T (k + 1)),1)) s8 (some (.lst ((jb0 k).map λ t=>tabV R (T (t + 1))),d9)) (some (.int (i:Int),0)) (some (.lst ((ctP ps i).map λ (j:Nat)=>.int (j:Int)),0)))=.nx (L 0 0 (some (tabV R (T (k + 1)),0)) s8 (some (.lst ((jb0 (k + 1)).map λ t=>tabV R (T (t + 1))),1)) (some (.int (i:Int),0)) (some (.lst ((ctP ps i).map λ (j:Nat)=>.int (j:Int)),0))):=by
   obtain ⟨e,rfl⟩:∃ e,d9=e + 1:=⟨d9 - 1,by omega⟩
   refine qir (xs0:=(jb0 k).map λ t=>tabV R (T (t + 1))) (xs:=(jb0 k).map λ t=>tabV R (T (t + 1))) (d0:=e) (d:=e + 1) (y:=tabV R (T (k + 1))) (e:=0) rfl rfl rfl (by omega) (by rw [ja3,je6];omega) ?_;rw [if_neg (λ h=>absurd h.2 (by decide)),jg8,je4];rfl
  exact ⟨N d7 om s11,_,rfl,(zqi w1).trans ((zqi w2).trans w3),0,1,some (.int (i:Int),0),some (.lst ((ctP ps i).map λ (j:Nat)=>.int (j:Int)),0),by decide,rfl⟩)
 have hdl:(zbd ((a:Int) - 1) a).length=a:=by unfold zbd;rw [ja3,je6]
 rw [hdl] at e5;have v5:zjd (zqa (bBin zxh (bVar 4) (bC (.int 1))) (zqa (bUn zyh (bC (.int 1))) (zqa (bUn zyh (bC (.int 1))) (aNil)))) (asgN 10) (sSeq (sSet false 11 (zxy (bVar 3) 1 (asgN 12) (bT (bBin (opEq false) (bBin zqd (bVar 12) (bC (.int 0))) (bVar 10))) (bBin zqd (bVar 12) (bC (.int 1)))) [3,3])
 (sSeq (sSet false 7 (zqf f_table_of_row (zqa (zqf f_sums_of_lower_rows (zqa (bVar 7) (zqa (bVar 5) (aNil)))) (zqa (bBin zqd (bVar 1) (bVar 10)) (zqa (bBin zqd (bVar 2) (bVar 10)) (zqa (bVar 11) (aNil)))))) [7,5,1,10,2,10,11])
 (sApp 9 (bVar 7) [7]))) (L 0 0 (some (tabV R zkr,1)) s8 (some (.lst [],om)) none none)=.nx (L 0 0 (some (tabV R (T a),d7)) s8 (some (.lst ((jb0 a).map λ t=>tabV R (T (t + 1))),d9)) s10 s11):=by
  have en:qb7 [(.int ((a:Int) - 1),om),(.int (-1),om),(.int (-1),om)]=some ((a:Int) - 1,a):=by
   rw [qg7 (by omega) (by omega) (by omega) (by omega),show ((a:Int) - 1 - -1).toNat=a by omega]
  exact qg6 (as:=[(.int ((a:Int) - 1),om),(.int (-1),om),(.int (-1),om)]) rfl en e5
 exact ⟨_,zww rfl ((zqi v1).trans ((zqi v2).trans ((zqi v3).trans ((zqi v4).trans ((zqi v5).trans (zzu (qiu (x:=.lst ((jb0 a).map λ t=>tabV R (T (t + 1)))) (d:=0) rfl rfl)))))))⟩
theorem zku {f:List Int->List Int}:∀ (l:List (List Int)) (acc:List Int),l.foldl (λ s r=>addL s (f r)) acc=addL acc (sumT f l)
 | [],acc=>(zke acc).symm
 | r::l,acc=>by rw [jp3,zku l,zwn,zzf]
def zvu (a b c:Nat) (low high:List (List Int)) (ps:List (Nat×Nat)):List Int:=sumT (tabN a b c (λ i=>low.getD i []) (λ i=>high.getD i []) (ctP ps) a) (zqu b c)
theorem qfz {a b c:Nat} (B:BoxT a b c) {low high:List (List Int)} (hl:Tab a b low) (hh:Tab a b high) {ps:List (Nat×Nat)} (hp:∀ z∈ps,z.2 < b) {m:Nat} (hm:∀ i,(ctP ps i).length<=m) (hmc:1 + a * (m * c)<=1000) (hpl:ps.length<=1000):
  f_tally_between [bx a b c,tb low,tb high,.lst (ps.map pr)]=.ok (il (zvu a b c low high ps),om,.non):=by
 have z:=sz;obtain ⟨dt,ht⟩:=qck B hl hh hp hm hmc hpl;let R:=zqu b c;let T:=tabN a b c (λ i=>low.getD i []) (λ i=>high.getD i []) (ctP ps);let L (s4 s5:QQ.Slot):Rho:=[some (bx a b c,0),some (tb low,0),some (tb high,0),some (.lst (ps.map pr),0),s4,s5]
 have v1:sSet false 4 (zqc zql (aNil)) [] (L none none)=.nx (L (some (il [],om)) none):=rfl;have tl:∀ r∈R,(T a r).length<=1000:=λ r hr=>jd1 (zpb hm (λ i=>zhs hp) a r hr) hmc;obtain ⟨ρ',e2,s5,rfl⟩:=zvf (asg:=asgN 5) (enc:=λ r=>il (T a r)) (body:=sSet false 4 (zqf f_added (zqa (bVar 4) (zqa (bVar 5) (aNil)))) [4,5]) (λ pre ρ=>∃ s5,ρ=L (some (il (pre.foldl (λ s r=>addL s (T a r)) []),om)) s5) R [] (L (some (il [],om)) none) ⟨none,rfl⟩ (by
  rintro pre r post _ ep ⟨s5,rfl⟩;rw [je2] at ep;have hr:r∈R:=by rw [ep];exact ja5 _ ja1
  have hpre:(pre.foldl (λ s r=>addL s (T a r)) []).length<=1000:=by
   rw [zku];exact zvv λ q hq=>tl q (by rw [ep];exact ja7 _ hq)
  refine ⟨L (some (il (pre.foldl (λ s r=>addL s (T a r)) []),om)) (some (il (T a r),0)),_,rfl,setF (x:=il (addL (pre.foldl (λ s r=>addL s (T a r)) []) (T a r))) (d:=om) (zqk (xs:=[(il (pre.foldl (λ s r=>addL s (T a r)) []),0),(il (T a r),0)]) rfl (qbn hpre (tl r hr))) (show 4 < 6 by decide) rfl,some (il (T a r),0),?_⟩;rw [jl8]
  rfl)
 have hidx:bBin zqd (zqf f_tables_between (zqa (bVar 0) (zqa (bVar 1) (zqa (bVar 2) (zqa (bVar 3) (aNil)))))) (bC (.int 0)) (L (some (il [],om)) none)=.ok (tabV R (T a),0,L (some (il [],om)) none):=by
  refine zxn (zqk (xs:=[(bx a b c,0),(tb low,0),(tb high,0),(.lst (ps.map pr),0)]) rfl ht) (y:=.int 0) (e:=om) rfl ?_;show (atI _ 0).map _=_;rw [zwc (x:=tabV R (T a)) (by decide) ?_]
  ·rfl
  ·obtain ⟨k,rfl⟩:∃ k,a=k + 1:=⟨a - 1,by have:=B.ha;omega⟩
   show (List.reverse _)[0]?=_;rw [jg8,je4,List.reverse_append];rfl
 have v2:=qk0 (asg:=asgN 5) (body:=sSet false 4 (zqf f_added (zqa (bVar 4) (zqa (bVar 5) (aNil)))) [4,5]) (vs:=[0,1,2,3]) (ρ2:=L (some (il [],om)) none) hidx rfl e2;have he:([]++R).foldl (λ s r=>addL s (T a r)) []=zvu a b c low high ps:=by
  rw [je2,zku];rfl
 rw [he] at v2;exact zww rfl ((zqi v1).trans ((zqi v2).trans rfl))
def zxw (a b:Nat) (x:Int):List (List Int):=ja2 a (ja2 b x)
theorem zfp (a b:Nat) (x:Int):Tab a b (zxw a b x):=⟨jc5,λ r hr=>by rw [(List.mem_replicate.mp hr).2,jc5]⟩
theorem qeu {a b n:Nat}{v:Int}{f g:Fx}{ρ:Rho}{d:Nat} (hn:ρ.length=n) (ha:a<=1000) (hb:b<=1000) (h0:f ρ=.ok (.int (a:Int),d,ρ)) (h1:∀ k,g (ρ++[some (.int (k:Int),om)])=.ok (il (ja2 b v),om,ρ++[some (.int (k:Int),om)])):zxg zqt (zqa f (aNil)) 1 (asgN n) zxz g ρ=.ok (tb (zxw a b v),om,ρ):=by
 have z:=sz;have w:=zpx (n:=n) (en:=zqt) (fa:=zqa f aNil) (elt:=g) (q:=λ _=>il (ja2 b v)) (ρ:=ρ) (ρ1:=ρ) (as:=[(.int (a:Int),d)]) (lo:=0) (hi:=(a:Int)) (zxj h0) (zxt (by omega) (by omega)) hn (λ k _=>by
  have:=h1 ((0:Int) + (k:Int))
  exact h1 ((0:Int) + (k:Int))) (by omega)
 rw [w,show ((a:Int) - 0).toNat=a by omega];unfold tb zxw;rw [List.map_replicate,List.map_const',je6]
theorem zya {a b c:Nat} (B:BoxT a b c) {ps:List (Nat×Nat)} (hp:∀ z∈ps,z.2 < b) {m:Nat} (hm:∀ i,(ctP ps i).length<=m) (hmc:1 + a * (m * c)<=1000) (hpl:ps.length<=1000):
  f_tally_of_box [bx a b c,.lst (ps.map pr)]=.ok (il (zvu a b c (zxw a b 0) (zxw a b c) ps),om,.non):=by
 have z:=sz;have ha:=B.ha;have hb:=B.hb;let L (d3 d4:Nat) (s5 s6:QQ.Slot):Rho:=[some (bx a b c,0),some (.lst (ps.map pr),0),some (.int (a:Int),om),some (.int (b:Int),d3),some (.int (c:Int),d4),s5,s6]
 have v1:sUnp (asgT [2,3,4]) (bVar 0) [0] [some (bx a b c,0),some (.lst (ps.map pr),0),none,none,none,none,none]=.nx (L om om none none):=rfl;have v2:sSet false 5 (zxg zqt (zqa (bVar 2) (aNil)) 1 (asgN 7) zxz (bBin zqs (zqc zql (zqa (bC (.int 0)) (aNil))) (bVar 3))) [3] (L om om none none)=.nx (L om om (some (tb (zxw a b 0),om)) none):=
  setF (qeu (n:=7) (d:=om) rfl (by omega) (by omega) rfl (λ k=>qhy (n:=b) (v:=0) (d:=om) (e:=om) rfl rfl (by omega))) (show 5 < 7 by decide) rfl
 have v3:sSet false 6 (zxg zqt (zqa (bVar 2) (aNil)) 1 (asgN 7) zxz (bBin zqs (zqc zql (zqa (bVar 4) (aNil))) (bVar 3))) [4,3] (L om om (some (tb (zxw a b 0),om)) none)=.nx (L om om (some (tb (zxw a b 0),om)) (some (tb (zxw a b c),om))):=
  setF (qeu (n:=7) (d:=om) rfl (by omega) (by omega) rfl (λ k=>qhy (n:=b) (v:=(c:Int)) (d:=om) (e:=om) rfl rfl (by omega))) (show 6 < 7 by decide) rfl
 exact zww rfl ((zqi v1).trans ((zqi v2).trans ((zqi v3).trans (zzu (zqk (xs:=[(bx a b c,0),(tb (zxw a b 0),0),(tb (zxw a b c),0),(.lst (ps.map pr),0)]) rfl (qfz B (zfp a b 0) (zfp a b c) hp hm hmc hpl))))))
theorem qfa (i:Nat):ctP [] i=[]:=rfl
theorem qca {a b c:Nat} (B:BoxT a b c) (hc:1<=c) (hs:zyf (zvu a b c (zxw a b 0) (zxw a b c) [])=true):f_count_by_rows [bx a b c]=.ok (.int (zvu a b c (zxw a b 0) (zxw a b c) []).sum,om,.non):=by
 have ha:=B.ha;have hb:=B.hb;have mb:f_must_be_box [bx a b c]=.ok (.non,om,.non):=zvo (by unfold boxB;rw [decide_eq_true (by omega),decide_eq_true (by omega),decide_eq_true (by omega)];rfl);have v1:zkj (zqf f_must_be_box (zqa (bVar 0) (aNil))) [some (bx a b c,0)]=.nx [some (bx a b c,0)]:=zho (zqk (xs:=[(bx a b c,0)]) rfl mb);have t:=zya B (ps:=[]) (λ z hz=>by cases hz) (m:=0) (λ i=>by rw [qfa];exact ja8 _) (by omega) (by simp);exact zww rfl ((zqi v1).trans (zzu (qcv (zxj (zqk (xs:=[(bx a b c,0),(.lst [],om)]) rfl t)) hs)))
def topM (c:Nat) (row:List Nat):Nat:=match row.getLast? with
 | none=>c
 | some m=>m
def zwr (c:Nat):Nat->List (List Nat)
 | 0=>[[]]
 | n + 1=>(zwr c n).flatMap λ row=>(jb0 (topM c row + 1)).map λ x=>row++[x]
def leN:List Nat->List Nat->Bool
 | x::xs,y::ys=>jk5 x y && leN xs ys
 | _,_=>true
def addN:List Nat->List Nat->List Nat
 | [],ys=>ys
 | x::xs,[]=>x::xs
 | x::xs,y::ys=>Nat.add x y::addN xs ys
def sumN (r:List Nat):List (List Nat×List Nat)->List Nat
 | []=>[]
 | p::l=>bif leN p.1 r then addN p.2 (sumN r l) else sumN r l
def zyw:Nat->List Nat->List Nat
 | 0,l=>l
 | n + 1,l=>0::zyw n l
def qmg (w:List Nat->Nat) (t:List (List Nat×List Nat)):List (List Nat×List Nat):=t.map λ p=>(p.1,zyw (w p.1) (sumN p.1 t))
def qkn (rows:List (List Nat)):List (List Nat×List Nat):=rows.map λ r=>(r,bif r.all (jo8 0) then [1] else [])
def tabM (rows:List (List Nat)) (w:List Nat->Nat):Nat->List (List Nat×List Nat)
 | 0=>qkn rows
 | k + 1=>qmg w (tabM rows w k)
def allM (t:List (List Nat×List Nat)):List Nat:=t.foldr (λ p s=>addN p.2 s) []
def up (r:List Nat):List Int:=r.map λ (n:Nat)=>(n:Int)
theorem zml (r:List Nat) (j:Nat):(up r).getD j 0=((r.getD j 0:Nat):Int):=by
 unfold up;simp only [ja6,jc7];cases r[j]? <;> rfl
theorem zmk (r:List Nat):(up r).length=r.length:=by simp [up]
theorem zbs {α β:Type}{f g:α->List β}:∀ {l:List α},(∀ x∈l,f x=g x)->l.flatMap f=l.flatMap g
 | [],_=>rfl
 | x::l,h=>by rw [jh8,jh8,h x ja1,zbs λ y hy=>h y (ja0 _ hy)]
theorem zkk (c:Nat):∀ b,(zwr c b).map up=zqu b c
 | 0=>rfl
 | b + 1=>by
  have ih:=zkk c b;show _=(zqu b c).flatMap λ row=>(zyi 0 (topR c c row + 1)).map λ x=>row++[x];rw [<- ih,List.flatMap_map,zwr,jm1];refine zbs λ row hrow=>?_;have hr:RowB b c (up row):=zxa.mp (by rw [<- ih];exact ji4 hrow);have ht:topR c c (up row)=((topM c row:Nat):Int):=by
   unfold topR topM;cases b with
   | zero=>
    have:row=[]:=jf3.mp (by rw [<- zmk];exact hr.len)
    subst this;show min (c:Int) c=c;omega
   | succ n=>
    have h1:=zvz hr.len;have h2:row.getLast?=some (row.getD n 0):=by
     have hl:row.length=n + 1:=by rw [<- zmk];exact hr.len
     rw [jl4,hl,jf4,ja6,jc4 (by omega)];rfl
    rw [h1,h2];have h3:=hr.hi n (by omega);rw [zml] at h3 ⊢;simp only;omega
  rw [ht,jd8];unfold zyi;rw [show ((topM c row:Nat):Int) + 1 - 0=((topM c row + 1:Nat):Int) by omega,jc3,jd8];apply jg9;intro x _;show up (row++[x])=up row++[(0:Int) + (x:Int)];rw [jf8];unfold up;rw [je4];rfl
theorem zhy:∀ x y:List Nat,up (addN x y)=addL (up x) (up y)
 | [],y=>rfl
 | x::xs,[]=>rfl
 | x::xs,y::ys=>by
  have:=zhy xs ys
  show ((x + y:Nat):Int)::up (addN xs ys)=((x:Int) + (y:Int))::addL (up xs) (up ys);rw [this,jh7]
theorem qd9:∀ {q r:List Nat},q.length=r.length->(leN q r=true↔∀ i,i < q.length->q.getD i 0<=r.getD i 0)
 | [],[],_=>⟨λ _ i hi=>absurd hi (Nat.not_lt_zero i),λ _=>rfl⟩
 | [],_::_,h=>by cases h
 | _::_,[],h=>by cases h
 | x::q,y::r,h=>by
  have ih:=qd9 (q:=q) (r:=r) (by simpa using h);rw [leN,ja4,ih,jr6];constructor
  ·rintro ⟨h1,h2⟩ i hi;cases i with
   | zero=>simpa using h1
   | succ i=>simpa using h2 i (by simpa using hi)
  ·intro h;exact ⟨by simpa using h 0 (by simp),λ i hi=>by simpa using h (i + 1) (by simpa using hi)⟩
theorem qn5 {b:Nat}{q r:List Nat} (h1:q.length=b) (h2:r.length=b):leN q r=leR b (up q) (up r):=by
 rw [je1,qd9 (by omega),qd8,h1];constructor
 ·intro h i hi
  have:=h i hi
  rw [zml,zml];omega
 ·intro h i hi
  have:=h i hi
  rw [zml,zml] at this;omega
theorem zmi:∀ (n:Nat) (l:List Nat),up (zyw n l)=ja2 n 0++up l
 | 0,l=>rfl
 | n + 1,l=>by
  show ((0:Nat):Int)::up (zyw n l)=_;rw [zmi n l];rfl
def hM (rows:List (List Nat)) (w:List Nat->Nat):Nat->List Nat->List Nat
 | 0,r=>bif r.all (jo8 0) then [1] else []
 | k + 1,r=>zyw (w r) (sumN r (tabM rows w k))
theorem zgi (rows:List (List Nat)) (w:List Nat->Nat):∀ k,tabM rows w k=rows.map λ r=>(r,hM rows w k r)
 | 0=>rfl
 | k + 1=>by
  have ih:=zgi rows w k;show (tabM rows w k).map (λ p=>(p.1,zyw (w p.1) (sumN p.1 (tabM rows w k))))=_
  conv=>lhs;arg 2;rw [ih]
  rw [jd8];rfl
theorem qcx {b:Nat}{r:List Nat}{h:List Nat->List Nat}{f:List Int->List Int} (h2:r.length=b):∀ {l:List (List Nat)},(∀ q∈l,q.length=b)->(∀ q∈l,up (h q)=f (up q))->up (sumN r (l.map λ q=>(q,h q)))=sumT f ((l.map up).filter λ q=>leR b q (up r))
 | [],_,_=>rfl
 | q::l,h1,h3=>by
  have ih:=qcx (h:=h) (f:=f) h2 (l:=l) (λ x hx=>h1 x (ja0 _ hx)) (λ x hx=>h3 x (ja0 _ hx));rw [jb7,sumN,jb7,jh1,<- qn5 (h1 q ja1) h2];cases leN q r with
  | true=>rw [cond_true,zhy,ih,if_pos rfl,zwn,h3 q ja1]
  | false=>rw [cond_false,ih,if_neg (by simp)]
theorem qfn {a b c i:Nat}{r:List Int} (h:RowB b c r) (hi:i < a):betw b ((zxw a b 0).getD i []) r ((zxw a b c).getD i [])=true:=by
 have e:∀ x:Int,(zxw a b x).getD i []=ja2 b x:=λ x=>by
  unfold zxw;rw [ja6,jc8,if_pos hi];rfl
 unfold betw;rw [e,e,jc1];intro j hj;have hj:=jd0.mp hj;have g:∀ x:Int,(ja2 b x).getD j 0=x:=λ x=>by rw [ja6,jc8,if_pos hj];rfl
 rw [g,g,ja4,decide_eq_true_iff,decide_eq_true_iff];exact ⟨h.lo j hj,h.hi j hj⟩
theorem zzs:∀ {r:List Nat},(up r).sum=0↔r.all (jo8 0)=true
 | []=>by simp [up]
 | x::r=>by
  have ih:=zzs (r:=r);have pos:∀ r:List Nat,0<=(up r).sum:=λ r=>by
   induction r with
   | nil=>simp [up]
   | cons x r ih=>show 0<=(x:Int) + (up r).sum;omega
  have:=pos r
  show (x:Int) + (up r).sum=0↔_;rw [jf9,ja4,<- ih];constructor
  ·intro h;refine ⟨?_,by omega⟩
   have:x=0:=by omega
   rw [this];rfl
  ·rintro ⟨h1,h2⟩
   have:0=x:=jj5 h1
   omega
theorem qom {a b c:Nat}{ct:Nat->List Nat}{w:List Nat->Nat} (hw:∀ i,i < a->∀ r∈zwr c b,(cntR (ct i) (up r)).toNat=w r):∀ (k:Nat),k<=a->∀ r∈zwr c b,up (hM (zwr c b) w k r)=tabN a b c (λ i=>(zxw a b 0).getD i []) (λ i=>(zxw a b c).getD i []) ct k (up r)
 | 0,_,r,hr=>by
  show up (bif r.all (jo8 0) then [1] else [])=if (up r).sum=0 then [1] else []
  cases h:r.all (jo8 0) with
  | true=>rw [if_pos (zzs.mpr h)];rfl
  | false=>rw [if_neg λ z=>by rw [zzs.mp z] at h;cases h];rfl
 | k + 1,hk,r,hr=>by
  have ih:=qom hw k (by omega);have hrb:∀ q∈zwr c b,RowB b c (up q):=λ q hq=>zxa.mp (by rw [<- zkk];exact ji4 hq);have hlen:∀ q∈zwr c b,q.length=b:=λ q hq=>by rw [<- zmk];exact (hrb q hq).len
  show up (zyw (w r) (sumN r (tabM (zwr c b) w k)))=zbb b _ _ _ _ (up r);unfold zbb;rw [if_pos (qfn (hrb r hr) (by omega)),zmi,hw _ (by omega) r hr,zgi,qcx (hlen r hr) hlen ih,zkk];rfl
theorem qad {a b c:Nat}{ps:List (Nat×Nat)}{w:List Nat->Nat} (hw:∀ i,i < a->∀ r∈zwr c b,(cntR (ctP ps i) (up r)).toNat=w r):zvu a b c (zxw a b 0) (zxw a b c) ps=up (allM (tabM (zwr c b) w a)):=by
 have h:=qom (a:=a) (b:=b) (c:=c) hw a (ja8 _);unfold zvu;rw [zgi,<- zkk];generalize zwr c b=l at h;clear hw
 have:∀ l':List (List Nat),(∀ r∈l',up (hM l w a r)=tabN a b c (λ i=>(zxw a b 0).getD i []) (λ i=>(zxw a b c).getD i []) (ctP ps) a (up r))->sumT (tabN a b c (λ i=>(zxw a b 0).getD i []) (λ i=>(zxw a b c).getD i []) (ctP ps) a) (l'.map up)=up (allM (l'.map λ r=>(r,hM l w a r))):=λ l'=>by
  induction l' with
  | nil=>intro _;rfl
  | cons r l' ih=>
   intro h;rw [jb7,zwn,ih λ q hq=>h q (ja0 _ hq),<- h r ja1];exact (zhy _ _).symm
 exact this l h
end QV
namespace K28
open PySem PySem.Spec PyProof.Rows L2 QQ
abbrev GT:=List (Str×(Bool×Nat×Fn))
abbrev mS (N:List Str) (t:Stmt) (m:List Nat) (G:GT):Sx:=⟨N,zqb t,m,[],G,[],true,[0,1,2,3,4,5,6,7,8,9,10,11],[]⟩
def G0:GT:=[]
def S0:Sx:=⟨["thing"],zqb t0,[],[],G0,[],false,[],[]⟩
abbrev b0:Fs:=QV.Xf_is_whole_number
abbrev F0:Fn:=QV.f_is_whole_number
theorem h0:zqn (denS 60 S0) (zqj t0)=some b0:=by kernel_rfl
def G1:GT:=[("is_whole_number",(false,1,F0))]
def S1:Sx:=⟨["thing"],zqb t1,[],[],G1,[],false,[],[]⟩
abbrev b1:Fs:=QV.Xf_is_box
abbrev F1:Fn:=QV.f_is_box
theorem h1:zqn (denS 60 S1) (zqj t1)=some b1:=by kernel_rfl
def G2:GT:=[("is_box",(false,1,F1))]
def S2:Sx:=⟨["box"],zqb t2,[],[],G2,[],false,[],[]⟩
abbrev b2:Fs:=QV.Xf_must_be_box
abbrev F2:Fn:=QV.f_must_be_box
theorem h2:zqn (denS 60 S2) (zqj t2)=some b2:=by kernel_rfl
def G3:GT:=[]
def S3:Sx:=⟨["box","places","i"],zqb t3,[],[],G3,[],false,[],[]⟩
abbrev b3:Fs:=QV.Xf_places_of
abbrev F3:Fn:=QV.f_places_of
theorem h3:zqn (denS 60 S3) (zqj t3)=some b3:=by kernel_rfl
def G4:GT:=[]
def S4:Sx:=⟨["columns","height","rows","j","longer","row","most"],zqb t4,[],[],G4,[],false,[],[]⟩
abbrev b4:Fs:=QV.Xf_rows_of_heights
abbrev F4:Fn:=QV.f_rows_of_heights
theorem h4:zqn (denS 60 S4) (zqj t4)=some b4:=by kernel_rfl
def G5:GT:=[]
def S5:Sx:=⟨["tally","other","total","n","many"],zqb t5,[],[],G5,[],false,[],[]⟩
abbrev b5:Fs:=QV.Xf_added
abbrev F5:Fn:=QV.f_added
theorem h5:zqn (denS 60 S5) (zqj t5)=some b5:=by kernel_rfl
def G6:GT:=[("added",(false,2,F5))]
def S6:Sx:=⟨["table","columns","sums","j","row","lower"],zqb t6,[],[],G6,[],false,[],[]⟩
abbrev b6:Fs:=QV.Xf_sums_of_lower_rows
abbrev F6:Fn:=QV.f_sums_of_lower_rows
theorem h6:zqn (denS 60 S6) (zqj t6)=some b6:=by kernel_rfl
def G7:GT:=[]
def S7:Sx:=⟨["row","low","high"],zqb t7,[],[],G7,[],false,[],[]⟩
abbrev b7:Fs:=QV.Xf_lies_between
abbrev F7:Fn:=QV.f_lies_between
theorem h7:zqn (denS 60 S7) (zqj t7)=some b7:=by kernel_rfl
def G8:GT:=[("lies_between",(false,3,F7))]
def S8:Sx:=⟨["behind","low","high","counted","table","row"],zqb t8,[],[],G8,[],false,[],[]⟩
abbrev b8:Fs:=QV.Xf_table_of_row
abbrev F8:Fn:=QV.f_table_of_row
theorem h8:zqn (denS 60 S8) (zqj t8)=some b8:=by kernel_rfl
def G9:GT:=[("rows_of_heights",(false,2,F4)),("sums_of_lower_rows",(false,2,F6)),("table_of_row",(false,4,F8))]
def S9:Sx:=⟨["box","low","high","places","rows","columns","height","table","row","tables","i","counted"],zqb t9,[],[],G9,[],false,[],[]⟩
abbrev b9:Fs:=QV.Xf_tables_between
abbrev F9:Fn:=QV.f_tables_between
theorem h9:zqn (denS 60 S9) (zqj t9)=some b9:=by kernel_rfl
def G10:GT:=[("added",(false,2,F5)),("tables_between",(false,4,F9))]
def S10:Sx:=⟨["box","low","high","places","total","tally"],zqb t10,[],[],G10,[],false,[],[]⟩
abbrev b10:Fs:=QV.Xf_tally_between
abbrev F10:Fn:=QV.f_tally_between
theorem h10:zqn (denS 60 S10) (zqj t10)=some b10:=by kernel_rfl
def G11:GT:=[("tally_between",(false,4,F10))]
def S11:Sx:=⟨["box","places","rows","columns","height","empty","full"],zqb t11,[],[],G11,[],false,[],[]⟩
abbrev b11:Fs:=QV.Xf_tally_of_box
abbrev F11:Fn:=QV.f_tally_of_box
theorem h11:zqn (denS 60 S11) (zqj t11)=some b11:=by kernel_rfl
def G12:GT:=[("must_be_box",(false,1,F2)),("tally_of_box",(false,2,F11))]
def S12:Sx:=⟨["box"],zqb t12,[],[],G12,[],false,[],[]⟩
abbrev b12:Fs:=QV.Xf_count_by_rows
abbrev F12:Fn:=QV.f_count_by_rows
theorem h12:zqn (denS 60 S12) (zqj t12)=some b12:=by kernel_rfl
def G13:GT:=[]
def S13:Sx:=⟨["downs","rights","many","n"],zqb t13,[],[],G13,[],false,[],[]⟩
def b13:Fs:=(sSeq (sIf (bT (bOrV (bBin (zxo λ i j=>decide (i < j)) (bVar 0) (bC (.int 0))) (bBin (zxo λ i j=>decide (i < j)) (bVar 1) (bC (.int 0))))) (sRet (bC (.int 0))) sNil)
 (sSeq (sSet false 2 (bC (.int 1)) [])
 (sSeq (zwe zkv (zqa (bC (.int 1)) (zqa (bBin zqh (bVar 0) (bC (.int 1))) (aNil))) (asgN 3) (sSet false 2 (bBin zqq (bBin zqs (bVar 2) (bBin zqh (bVar 1) (bVar 3))) (bVar 3)) [2,1,3,3]))
 (zzt 2))))
def F13:Fn:=mkFn false 2 2 b13
theorem h13:zqn (denS 60 S13) (zqj t13)=some b13:=by kernel_rfl
def G14:GT:=[]
def S14:Sx:=⟨["row","first","divisor"],zqb t14,[],[],G14,[],false,[],[]⟩
def b14:Fs:=(sRet (zxg zkv (zqa (bC (.int 1)) (zqa (zqc zxv (zqa (bVar 0) (aNil))) (aNil))) 1 (asgN 3) zxz (bBin zqq (bBin zxh (bBin zqs (bBin zqd (bVar 1) (bC (.int 0))) (bBin zqd (bVar 0) (bVar 3))) (bBin zqs (bBin zqd (bVar 0) (bC (.int 0))) (bBin zqd (bVar 1) (bVar 3)))) (bVar 2))))
def F14:Fn:=mkFn false 3 0 b14
theorem h14:zqn (denS 60 S14) (zqj t14)=some b14:=by kernel_rfl
def G15:GT:=[("row_without_first",(false,3,F14))]
def S15:Sx:=⟨["table","rest","divisor","first"],zqb t15,[],[],G15,[],false,[],[]⟩
def b15:Fs:=(sSeq (sSet false 1 (bVar 0) [0])
 (sSeq (sSet false 2 (bC (.int 1)) [])
 (sSeq (qhx (bT (bBin (zxo λ i j=>decide (j < i)) (zqc zxv (zqa (bVar 1) (aNil))) (bC (.int 1)))) (sSeq (sSet false 3 (bBin zqd (bVar 1) (bC (.int 0))) [1])
 (sSeq (sSet false 1 (zxy (bSl (bVar 1) (some (bC (.int 1))) none) 1 (asgN 4) zxz (zqf F14 (zqa (bVar 4) (zqa (bVar 3) (zqa (bVar 2) (aNil)))))) [1,1,3,2])
 (sSet false 2 (bBin zqd (bVar 3) (bC (.int 0))) [3]))))
 (sRet (bBin zqd (bBin zqd (bVar 1) (bC (.int 0))) (bC (.int 0)))))))
def F15:Fn:=mkFn false 1 3 b15
theorem h15:zqn (denS 60 S15) (zqj t15)=some b15:=by kernel_rfl
def G16:GT:=[("must_be_box",(false,1,F2)),("how_many_texts",(false,2,F13)),("determinant",(false,1,F15))]
def S16:Sx:=⟨["box","rows","columns","height","table","i"],zqb t16,[],[],G16,[],false,[],[]⟩
def b16:Fs:=(sSeq (zkj (zqf F2 (zqa (bVar 0) (aNil))))
 (sSeq (sUnp (asgT [1,2,3]) (bVar 0) [0])
 (sSeq (sSet false 4 (zqc zql (aNil)) [])
 (sSeq (zwe zqt (zqa (bVar 3) (aNil)) (asgN 5) (sApp 4 (zxg zqt (zqa (bVar 3) (aNil)) 1 (asgN 6) zxz (zqf F13 (zqa (bBin zqh (bBin zxh (bVar 1) (bVar 5)) (bVar 6)) (zqa (bBin zxh (bBin zqh (bVar 2) (bVar 5)) (bVar 6)) (aNil))))) [1,5,2,5]))
 (sRet (zqf F15 (zqa (bVar 4) (aNil))))))))
def F16:Fn:=mkFn false 1 5 b16
theorem h16:zqn (denS 60 S16) (zqj t16)=some b16:=by kernel_rfl
def G17:GT:=[]
def S17:Sx:=⟨["box","rows","columns","height","numbers","i","j"],zqb t17,[],[],G17,[],false,[],[]⟩
def b17:Fs:=(sSeq (sUnp (asgT [1,2,3]) (bVar 0) [0])
 (sSeq (sSet false 4 (zqc zql (aNil)) [])
 (sSeq (zwe zkv (zqa (bC (.int 1)) (zqa (bBin zqh (bVar 1) (bC (.int 1))) (aNil))) (asgN 5) (zwe zkv (zqa (bC (.int 1)) (zqa (bBin zqh (bVar 2) (bC (.int 1))) (aNil))) (asgN 6) (sExt 4 (zxg zkv (zqa (bC (.int 1)) (zqa (bBin zqh (bVar 3) (bC (.int 1))) (aNil))) 1 (asgN 7) zxz (bBin zxh (bBin zqh (bBin zqh (bVar 5) (bVar 6)) (bVar 7)) (bC (.int 1)))) [5,6])))
 (zzt 4))))
def F17:Fn:=mkFn false 1 6 b17
theorem h17:zqn (denS 60 S17) (zqj t17)=some b17:=by kernel_rfl
def G18:GT:=[("must_be_box",(false,1,F2)),("numbers_above",(false,1,F17))]
def S18:Sx:=⟨["box","top","bottom","number"],zqb t18,[],[],G18,[],false,[],[]⟩
def b18:Fs:=(sSeq (zkj (zqf F2 (zqa (bVar 0) (aNil))))
 (sSeq (sSet false 1 (bC (.int 1)) [])
 (sSeq (sSet false 2 (bC (.int 1)) [])
 (sSeq (zzg (zqf F17 (zqa (bVar 0) (aNil))) [0] (asgN 3) (sSeq (sSet false 1 (bBin zqs (bVar 1) (bVar 3)) [1,3])
 (sSet false 2 (bBin zqs (bVar 2) (bBin zxh (bVar 3) (bC (.int 1)))) [2,3])))
 (sRet (bBin zqq (bVar 1) (bVar 2)))))))
def F18:Fn:=mkFn false 1 3 b18
theorem h18:zqn (denS 60 S18) (zqj t18)=some b18:=by kernel_rfl
def G19:GT:=[("must_be_box",(false,1,F2)),("places_of",(false,1,F3)),("tally_of_box",(false,2,F11))]
def S19:Sx:=⟨["box"],zqb t19,[],[],G19,[],false,[],[]⟩
def b19:Fs:=(sSeq (zkj (zqf F2 (zqa (bVar 0) (aNil))))
 (sRet (zqf F11 (zqa (bVar 0) (zqa (zqf F3 (zqa (bVar 0) (aNil))) (aNil))))))
def F19:Fn:=mkFn false 1 0 b19
theorem h19:zqn (denS 60 S19) (zqj t19)=some b19:=by kernel_rfl
def G20:GT:=[]
def S20:Sx:=⟨["numbers","powers","product","last_ones","n"],zqb t20,[],[],G20,[],false,[],[]⟩
def b20:Fs:=(sSeq (sSet false 2 (zqc zql (aNil)) [])
 (sSeq (sSet false 3 (bC (.int 0)) [])
 (sSeq (zwe zqt (zqa (bBin zxh (bBin zqh (zqc zxv (zqa (bVar 0) (aNil))) (bVar 1)) (bC (.int 1))) (aNil)) (asgN 4) (sSeq (sIf (bT (bBin (zxo λ i j=>decide (i < j)) (bVar 4) (zqc zxv (zqa (bVar 0) (aNil))))) (sAug (λ i j=>i + j) true 3 (bBin zqd (bVar 0) (bVar 4))) sNil)
 (sSeq (sIf (bT (bBin (zxo λ i j=>decide (j<=i)) (bVar 4) (bVar 1))) (sAug (λ i j=>i - j) false 3 (bBin zqd (bVar 0) (bBin zxh (bVar 4) (bVar 1)))) sNil)
 (sApp 2 (bVar 3) [3]))))
 (zzt 2))))
def F20:Fn:=mkFn false 2 3 b20
theorem h20:zqn (denS 60 S20) (zqj t20)=some b20:=by kernel_rfl
def G21:GT:=[]
def S21:Sx:=⟨["numbers","powers","quotient","last_ones","n"],zqb t21,[],[],G21,[],false,[],[]⟩
def b21:Fs:=(sSeq (sSet false 2 (zqc zql (aNil)) [])
 (sSeq (sSet false 3 (bC (.int 0)) [])
 (sSeq (zwe zqt (zqa (bBin zqh (bBin zxh (zqc zxv (zqa (bVar 0) (aNil))) (bVar 1)) (bC (.int 1))) (aNil)) (asgN 4) (sSeq (sIf (bT (bBin (zxo λ i j=>decide (j<=i)) (bVar 4) (bVar 1))) (sAug (λ i j=>i - j) false 3 (bBin zqd (bVar 2) (bBin zxh (bVar 4) (bVar 1)))) sNil)
 (sSeq (sApp 2 (bBin zxh (bBin zqd (bVar 0) (bVar 4)) (bVar 3)) [0,4,3])
 (sAug (λ i j=>i + j) true 3 (bBin zqd (bVar 2) (bVar 4))))))
 (zzt 2))))
def F21:Fn:=mkFn false 2 3 b21
theorem h21:zqn (denS 60 S21) (zqj t21)=some b21:=by kernel_rfl
def G22:GT:=[("must_be_box",(false,1,F2)),("numbers_above",(false,1,F17)),("times_powers",(false,2,F20)),("over_powers",(false,2,F21))]
def S22:Sx:=⟨["box","numbers","powers"],zqb t22,[],[],G22,[],false,[],[]⟩
def b22:Fs:=(sSeq (zkj (zqf F2 (zqa (bVar 0) (aNil))))
 (sSeq (sSet false 1 (zqc zql (zqa (bC (.int 1)) (aNil))) [])
 (sSeq (zzg (zqf F17 (zqa (bVar 0) (aNil))) [0] (asgN 2) (sSet false 1 (zqf F20 (zqa (bVar 1) (zqa (bVar 2) (aNil)))) [1,2]))
 (sSeq (zzg (zqf F17 (zqa (bVar 0) (aNil))) [0] (asgN 2) (sSet false 1 (zqf F21 (zqa (bVar 1) (zqa (bBin zxh (bVar 2) (bC (.int 1))) (aNil)))) [1,2]))
 (zzt 1)))))
def F22:Fn:=mkFn false 1 2 b22
theorem h22:zqn (denS 60 S22) (zqj t22)=some b22:=by kernel_rfl
def G23:GT:=[]
def S23:Sx:=⟨["script","k"],zqb t23,[],[],G23,[],false,[],[]⟩
abbrev b23:Fs:=QV.Xb_cell_at
abbrev F23:Fn:=QV.b_cell_at
theorem h23:zqn (denS 60 S23) (zqj t23)=some b23:=by kernel_rfl
def G24:GT:=[]
def S24:Sx:=⟨["cell","k","number"],zqb t24,[],[],G24,[],false,[],[]⟩
def b24:Fs:=(sSeq (sIf (bT (bBin (zxo λ i j=>decide (j<=i)) (bVar 0) (bBin qdt (bC (.int 10)) (bC (.int 18))))) (zzt 0) sNil)
 (sSeq (sSet false 2 (bBin zws (bBin zqh (bBin zqh (bBin zqh (bBin zqs (bVar 0) (bC (.int 48271))) (bBin zqs (bBin zqs (bC (.int 7919)) (bVar 1)) (bVar 1))) (bBin zqs (bC (.int 104729)) (bVar 1))) (bC (.int 29))) (bC (.int 2147483647))) [0,1,1,1])
 (sSeq (sSet false 2 (bBin zws (bBin zqs (bVar 2) (bVar 2)) (bC (.int 2147483629))) [2,2])
 (sRet (bBin zqh (bBin zqh (bBin zqs (bBin zqs (bVar 2) (bVar 2)) (bVar 2)) (bBin zqs (bC (.int 1000003)) (bVar 2))) (bVar 1))))))
def F24:Fn:=mkFn false 2 1 b24
theorem h24:zqn (denS 60 S24) (zqj t24)=some b24:=by kernel_rfl
def G25:GT:=[]
def S25:Sx:=⟨["left","rows","columns","height"],zqb t25,[],[],G25,[],false,[],[]⟩
def b25:Fs:=(sRet (zqc zwa (zqa (bBin zqh (bC (.int 1)) (bBin zws (bVar 0) (bVar 1))) (zqa (bBin zqh (bC (.int 1)) (bBin zws (bBin zqq (bVar 0) (bVar 1)) (bVar 2))) (zqa (bBin zqh (bC (.int 1)) (bBin zws (bBin zqq (bVar 0) (bBin zqs (bVar 1) (bVar 2))) (bVar 3))) (aNil))))))
def F25:Fn:=mkFn false 4 0 b25
theorem h25:zqn (denS 60 S25) (zqj t25)=some b25:=by kernel_rfl
def G26:GT:=[]
def S26:Sx:=⟨["box","way","a","b","c"],zqb t26,[],[],G26,[],false,[],[]⟩
def b26:Fs:=(sSeq (sUnp (asgT [2,3,4]) (bVar 0) [0])
 (sRet (bBin zqd (zqc zql (zqa (zqc zwa (zqa (bVar 2) (zqa (bVar 3) (zqa (bVar 4) (aNil))))) (zqa (zqc zwa (zqa (bVar 2) (zqa (bVar 4) (zqa (bVar 3) (aNil))))) (zqa (zqc zwa (zqa (bVar 3) (zqa (bVar 2) (zqa (bVar 4) (aNil))))) (zqa (zqc zwa (zqa (bVar 3) (zqa (bVar 4) (zqa (bVar 2) (aNil))))) (zqa (zqc zwa (zqa (bVar 4) (zqa (bVar 2) (zqa (bVar 3) (aNil))))) (zqa (zqc zwa (zqa (bVar 4) (zqa (bVar 3) (zqa (bVar 2) (aNil))))) (aNil)))))))) (bVar 1))))
def F26:Fn:=mkFn false 2 3 b26
theorem h26:zqn (denS 60 S26) (zqj t26)=some b26:=by kernel_rfl
def G27:GT:=[]
def S27:Sx:=⟨["box","found","i","j","k"],zqb t27,[],[],G27,[],false,[],[]⟩
def b27:Fs:=(sSeq (sSet false 1 (zqc zql (aNil)) [])
 (sSeq (zwe zqt (zqa (bBin zqd (bVar 0) (bC (.int 0))) (aNil)) (asgN 2) (zwe zqt (zqa (bBin zqd (bVar 0) (bC (.int 1))) (aNil)) (asgN 3) (zwe zqt (zqa (bBin zqd (bVar 0) (bC (.int 2))) (aNil)) (asgN 4) (sApp 1 (bBin zqh (bBin zqh (bBin zqh (bVar 2) (bVar 3)) (bVar 4)) (bC (.int 1))) [2,3,4]))))
 (zzt 1)))
def F27:Fn:=mkFn false 1 4 b27
theorem h27:zqn (denS 60 S27) (zqj t27)=some b27:=by kernel_rfl
def G28:GT:=[("_law_sums",(false,1,F27))]
def S28:Sx:=⟨["box","top","bottom","number"],zqb t28,[],[],G28,[],false,[],[]⟩
def b28:Fs:=(sSeq (sSet false 1 (bC (.int 1)) [])
 (sSeq (sSet false 2 (bC (.int 1)) [])
 (sSeq (zzg (zqf F27 (zqa (bVar 0) (aNil))) [0] (asgN 3) (sSeq (sSet false 1 (bBin zqs (bVar 1) (bBin zqh (bVar 3) (bC (.int 1)))) [1,3])
 (sSet false 2 (bBin zqs (bVar 2) (bVar 3)) [2,3])))
 (sRet (bBin zqq (bVar 1) (bVar 2))))))
def F28:Fn:=mkFn false 1 3 b28
theorem h28:zqn (denS 60 S28) (zqj t28)=some b28:=by kernel_rfl
def G29:GT:=[("_law_sums",(false,1,F27))]
def S29:Sx:=⟨["box","found","number","wider","at","one","step","left","share"],zqb t29,[],[],G29,[],false,[],[]⟩
def b29:Fs:=(sSeq (sSet false 1 (zqc zql (zqa (bC (.int 1)) (aNil))) [])
 (sSeq (zzg (zqf F27 (zqa (bVar 0) (aNil))) [0] (asgN 2) (sSeq (sSet false 3 (bBin zqs (zqc zql (zqa (bC (.int 0)) (aNil))) (bBin zqh (zqc zxv (zqa (bVar 1) (aNil))) (bVar 2))) [1,2])
 (sSeq (zba .enm (zqa (bVar 1) (aNil)) [1] (asgT [4,5]) (zwe zqt (zqa (bBin zqh (bVar 2) (bC (.int 1))) (aNil)) (asgN 6) (zwd 3 (bBin zqh (bVar 4) (bVar 6)) (bBin zqh (bBin zqd (bVar 3) (bBin zqh (bVar 4) (bVar 6))) (bVar 5)))))
 (sMv 1 3))))
 (sSeq (zzg (zqf F27 (zqa (bVar 0) (aNil))) [0] (asgN 2) (sSeq (sSet false 7 (zqc zql (aNil)) [])
 (sSeq (zwe zqt (zqa (bBin zqh (bBin zxh (zqc zxv (zqa (bVar 1) (aNil))) (bVar 2)) (bC (.int 1))) (aNil)) (asgN 4) (sSeq (sSet false 8 (bBin zqd (bVar 1) (bVar 4)) [1,4])
 (sSeq (sApp 7 (bVar 8) [8])
 (zwe zqt (zqa (bVar 2) (aNil)) (asgN 6) (zwd 1 (bBin zqh (bVar 4) (bVar 6)) (bBin zxh (bBin zqd (bVar 1) (bBin zqh (bVar 4) (bVar 6))) (bVar 8)))))))
 (sMv 1 7))))
 (zzt 1))))
def F29:Fn:=mkFn false 1 8 b29
theorem h29:zqn (denS 60 S29) (zqj t29)=some b29:=by kernel_rfl
def G30:GT:=[("count_by_rows",(false,1,F12)),("count_by_ways",(false,1,F16)),("count_by_product",(false,1,F18)),("by_cubes",(false,1,F19)),("by_cubes_product",(false,1,F22)),("_law_cell_at",(false,2,F23)),("_law_mixed",(false,2,F24)),("_law_box",(false,4,F25)),("_law_turned",(false,2,F26)),("_law_product",(false,1,F28)),("_law_powers",(false,1,F29))]
def S30:Sx:=⟨["script","left","box","many","one","drawn","middle","small","due"],zqb t30,[],[],G30,[],false,[],[]⟩
def b30:Fs:=(sSeq (sSet false 1 (zqf F24 (zqa (zqf F23 (zqa (bVar 0) (zqa (bC (.int 0)) (aNil)))) (zqa (bC (.int 0)) (aNil)))) [0])
 (sSeq (sSet false 2 (zqf F25 (zqa (bVar 1) (zqa (bC (.int 6)) (zqa (bC (.int 6)) (zqa (bC (.int 6)) (aNil)))))) [1])
 (sSeq (sSet false 3 (zqf F28 (zqa (bVar 2) (aNil))) [2])
 (sSeq (zzg (zqc zql (zqa (bVar 2) (zqa (zqf F26 (zqa (bVar 2) (zqa (bBin zws (bBin zqq (bVar 1) (bC (.int 216))) (bC (.int 6))) (aNil)))) (aNil)))) [2,2,1] (asgN 4) (sIf (bT (bOrV (bBin (opEq true) (zqf F16 (zqa (bVar 4) (aNil))) (bVar 3)) (bBin (opEq true) (zqf F18 (zqa (bVar 4) (aNil))) (bVar 3)))) (sRet (bC (.bl false))) sNil))
 (sSeq (sIf (bT (bBin (zxo λ i j=>decide (i < j)) (bVar 3) (bBin zqh (bC (.int 1)) (zqc qby (zqa (bVar 2) (aNil)))))) (sRet (bC (.bl false))) sNil)
 (sSeq (sSet false 5 (zqf F24 (zqa (zqf F23 (zqa (bVar 0) (zqa (bC (.int 1)) (aNil)))) (zqa (bC (.int 1)) (aNil)))) [0])
 (sSeq (sSet false 6 (bBin zqd (zqc zql (zqa (zqf F25 (zqa (bBin zqq (bVar 5) (bC (.int 2))) (zqa (bC (.int 3)) (zqa (bC (.int 5)) (zqa (bC (.int 4)) (aNil)))))) (zqa (zqf F25 (zqa (bBin zqq (bVar 5) (bC (.int 2))) (zqa (bC (.int 6)) (zqa (bC (.int 6)) (zqa (bC (.int 2)) (aNil)))))) (aNil)))) (bBin zws (bVar 5) (bC (.int 2)))) [5,5,5])
 (sSeq (sIf (bT (bBin (opEq true) (zqf F12 (zqa (bVar 6) (aNil))) (zqf F28 (zqa (bVar 6) (aNil))))) (sRet (bC (.bl false))) sNil)
 (sSeq (sSet false 5 (zqf F24 (zqa (zqf F23 (zqa (bVar 0) (zqa (bC (.int 2)) (aNil)))) (zqa (bC (.int 2)) (aNil)))) [0])
 (sSeq (sSet false 7 (bBin zqd (zqc zql (zqa (zqf F25 (zqa (bBin zqq (bVar 5) (bC (.int 3))) (zqa (bC (.int 3)) (zqa (bC (.int 4)) (zqa (bC (.int 3)) (aNil)))))) (zqa (zqf F25 (zqa (bBin zqq (bVar 5) (bC (.int 3))) (zqa (bC (.int 4)) (zqa (bC (.int 6)) (zqa (bC (.int 1)) (aNil)))))) (zqa (zqf F25 (zqa (bBin zqq (bVar 5) (bC (.int 3))) (zqa (bC (.int 3)) (zqa (bC (.int 2)) (zqa (bC (.int 6)) (aNil)))))) (aNil))))) (bBin zws (bVar 5) (bC (.int 3)))) [5,5,5,5])
 (sSeq (sSet false 8 (zqf F29 (zqa (bVar 7) (aNil))) [7])
 (sSeq (sIf (bT (bOrV (bBin (opEq true) (zqf F19 (zqa (bVar 7) (aNil))) (bVar 8)) (bOrV (bBin (opEq true) (zqf F22 (zqa (bVar 7) (aNil))) (bVar 8)) (bBin (opEq true) (bVar 8) (bUn opRv (bVar 8)))))) (sRet (bC (.bl false))) sNil)
 (sRet (zkz (bBin (opEq false) (zqc zvn (zqa (bVar 8) (aNil))) (zqf F12 (zqa (bVar 7) (aNil)))) (bBin (opEq false) (zqc zxv (zqa (bVar 8) (aNil))) (bBin zqh (bBin zqs (bBin zqs (bBin zqd (bVar 7) (bC (.int 0))) (bBin zqd (bVar 7) (bC (.int 1)))) (bBin zqd (bVar 7) (bC (.int 2)))) (bC (.int 1))))))))))))))))))
def F30:Fn:=mkFn false 1 8 b30
theorem h30:zqn (denS 60 S30) (zqj t30)=some b30:=by kernel_rfl
open PySem PySem.Spec PyProof.Rows L2 QQ QV
def isN (z:Rz (PV×Nat×PV)) (n:Int):Bool:=match z with
 | .ok (.int m,d,.non)=>m == n && d == om
 | _=>false
theorem qej {z:Rz (PV×Nat×PV)}{n:Int} (h:isN z n=true):z=.ok (.int n,om,.non):=by
 unfold isN at h;split at h
 ·rw [ja4] at h;rw [eq_of_beq h.1,eq_of_beq h.2]
 ·cases h
def tops (a b c:Nat):Nat×Nat:=(jb0 a).foldl (λ p i=>(jb0 b).foldl (λ p j=>(jb0 c).foldl (λ p k=>(p.1 * (i + j + k + 2),p.2 * (i + j + k + 1))) p) p) (1,1)
def many (a b c:Nat):Nat:=(tops a b c).1 / (tops a b c).2
def fitW (a b c:Nat):Bool:=isN (F16 [bx a b c]) (many a b c) && isN (F18 [bx a b c]) (many a b c) && isN (F28 [bx a b c]) (many a b c)
theorem zhl {a b c:Nat} (h:fitW a b c=true):F16 [bx a b c]=.ok (.int (many a b c),om,.non)/\F18 [bx a b c]=.ok (.int (many a b c),om,.non)/\F28 [bx a b c]=.ok (.int (many a b c),om,.non):=by
 unfold fitW at h;rw [ja4,ja4] at h;exact ⟨qej h.1.1,qej h.1.2,qej h.2⟩
def fit6 (a b:Nat):Bool:=(jb0 6).all λ c=>fitW a b (c + 1)
theorem w11:fit6 1 1=true:=by kernel_rfl
theorem w12:fit6 1 2=true:=by kernel_rfl
theorem w13:fit6 1 3=true:=by kernel_rfl
theorem w14:fit6 1 4=true:=by kernel_rfl
theorem w15:fit6 1 5=true:=by kernel_rfl
theorem w16:fit6 1 6=true:=by kernel_rfl
theorem w21:fit6 2 1=true:=by kernel_rfl
theorem w22:fit6 2 2=true:=by kernel_rfl
theorem w23:fit6 2 3=true:=by kernel_rfl
theorem w24:fit6 2 4=true:=by kernel_rfl
theorem w25:fit6 2 5=true:=by kernel_rfl
theorem w26:fit6 2 6=true:=by kernel_rfl
theorem w31:fit6 3 1=true:=by kernel_rfl
theorem w32:fit6 3 2=true:=by kernel_rfl
theorem w33:fit6 3 3=true:=by kernel_rfl
theorem w34:fit6 3 4=true:=by kernel_rfl
theorem w35:fit6 3 5=true:=by kernel_rfl
theorem w36:fit6 3 6=true:=by kernel_rfl
theorem w41:fit6 4 1=true:=by kernel_rfl
theorem w42:fit6 4 2=true:=by kernel_rfl
theorem w43:fit6 4 3=true:=by kernel_rfl
theorem w44:fit6 4 4=true:=by kernel_rfl
theorem w45:fit6 4 5=true:=by kernel_rfl
theorem w46:fit6 4 6=true:=by kernel_rfl
theorem w51:fit6 5 1=true:=by kernel_rfl
theorem w52:fit6 5 2=true:=by kernel_rfl
theorem w53:fit6 5 3=true:=by kernel_rfl
theorem w54:fit6 5 4=true:=by kernel_rfl
theorem w55:fit6 5 5=true:=by kernel_rfl
theorem w56:fit6 5 6=true:=by kernel_rfl
theorem w61:fit6 6 1=true:=by kernel_rfl
theorem w62:fit6 6 2=true:=by kernel_rfl
theorem w63:fit6 6 3=true:=by kernel_rfl
theorem w64:fit6 6 4=true:=by kernel_rfl
theorem w65:fit6 6 5=true:=by kernel_rfl
theorem w66:fit6 6 6=true:=by kernel_rfl
theorem six {P:Nat->Prop} (h1:P 1) (h2:P 2) (h3:P 3) (h4:P 4) (h5:P 5) (h6:P 6):∀ a,1<=a/\a<=6->P a:=λ a h=>by
 have e:a=1\/a=2\/a=3\/a=4\/a=5\/a=6:=by omega
 rcases e with rfl | rfl | rfl | rfl | rfl | rfl
 ·exact h1
 ·exact h2
 ·exact h3
 ·exact h4
 ·exact h5
 ·exact h6
theorem fits:∀ a,1<=a/\a<=6->∀ b,1<=b/\b<=6->∀ c,1<=c/\c<=6->fitW a b c=true:=λ a ha b hb c hc=>by
 have h:fit6 a b=true:=six (P:=λ a=>∀ b,1<=b/\b<=6->fit6 a b=true) (six w11 w12 w13 w14 w15 w16) (six w21 w22 w23 w24 w25 w26) (six w31 w32 w33 w34 w35 w36) (six w41 w42 w43 w44 w45 w46) (six w51 w52 w53 w54 w55 w56) (six w61 w62 w63 w64 w65 w66) a ha b hb;unfold fit6 at h;have h:=jc1.mp h (c - 1) (jd0.mpr (by omega));rwa [show c - 1 + 1=c by omega] at h
def qlq:Bool:=(jb0 6).all λ a=>(jb0 6).all λ b=>(jb0 6).all λ c=>many (a + 1) (b + 1) (c + 1) == many (a + 1) (c + 1) (b + 1) && (many (a + 1) (b + 1) (c + 1) == many (b + 1) (a + 1) (c + 1) && jk5 (1 + (a + 1)) (many (a + 1) (b + 1) (c + 1)))
theorem qbq:qlq=true:=by kernel_rfl
theorem turn {a b c:Nat} (ha:1<=a/\a<=6) (hb:1<=b/\b<=6) (hc:1<=c/\c<=6):many a b c=many a c b/\many a b c=many b a c/\1 + a<=many a b c:=by
 have h:=qbq;unfold qlq at h;have h:=jc1.mp h (a - 1) (jd0.mpr (by omega));have h:=jc1.mp h (b - 1) (jd0.mpr (by omega));have h:=jc1.mp h (c - 1) (jd0.mpr (by omega));rw [show a - 1 + 1=a by omega,show b - 1 + 1=b by omega,show c - 1 + 1=c by omega,ja4,ja4] at h;exact ⟨eq_of_beq h.1,eq_of_beq h.2.1,jj6 h.2.2⟩
def gN (l:List Int):Nat->Int:=λ j=>l.getD j 0
theorem qg4 {l:List Int}{b k:Nat} (h:l.length=b) (hk:k < b):atI l (k:Int)=some (gN l k):=zwc (by omega) (by
 rw [jc3];unfold gN;rw [ja6,jc4 (by omega)];rfl)
theorem qgo (c:Int) (k:Nat) (hk:k<=1000):∃ l:Int,F24 [.int c,.int k]=.ok (.int l,om,.non):=by
 have hF:F24=mkFn false 2 1 b24:=rfl;rw [hF];let R (s:QQ.Slot):Rho:=[some (.int c,om),some (.int (k:Int),om),s]
 have hp:bBin qdt (bC (.int 10)) (bC (.int 18)) (R none)=.ok (.int (10 ^ 18),om,R none):=rfl;by_cases h:c ≥ 10 ^ 18
 ·have hc:bT (bBin (zxo λ i j=>decide (j<=i)) (bVar 0) (bBin qdt (bC (.int 10)) (bC (.int 18)))) (R none)=.ok (true,R none):=by
   have:=t_ok (zjx (p:=λ i j=>decide (j<=i)) (f:=bVar 0) (ρ:=R none) (i:=c) (d:=om) rfl hp)
   rw [this,decide_eq_true h]
  exact ⟨c,zww rfl (qhv ((if_t hc).trans rfl))⟩
 ·have hc:bT (bBin (zxo λ i j=>decide (j<=i)) (bVar 0) (bBin qdt (bC (.int 10)) (bC (.int 18)))) (R none)=.ok (false,R none):=by
   have:=t_ok (zjx (p:=λ i j=>decide (j<=i)) (f:=bVar 0) (ρ:=R none) (i:=c) (d:=om) rfl hp)
   rw [this,decide_eq_false h]
  have e1:bBin zws (bBin zqh (bBin zqh (bBin zqh (bBin zqs (bVar 0) (bC (.int 48271))) (bBin zqs (bBin zqs (bC (.int 7919)) (bVar 1)) (bVar 1))) (bBin zqs (bC (.int 104729)) (bVar 1))) (bC (.int 29))) (bC (.int 2147483647)) (R none)=.ok (.int ((c * 48271 + 7919 * (k:Int) * (k:Int) + 104729 * (k:Int) + 29) % 2147483647),om,R none):=
   zyc (zwq (zwq (zwq (zzx (d:=om) (e:=om) rfl rfl (.inr (by decide))) (zzx (e:=om) (zzx (d:=om) (e:=om) (j:=(k:Int)) rfl rfl (.inl (by decide))) rfl (.inr (by omega)))) (zzx (d:=om) (e:=om) (j:=(k:Int)) rfl rfl (.inl (by decide)))) (e:=om) rfl) (e:=om) rfl (by decide)
  generalize hn:(c * 48271 + 7919 * (k:Int) * (k:Int) + 104729 * (k:Int) + 29) % 2147483647=n at e1;have b1:0<=n/\n < 2147483647:=by omega
  have e2:bBin zws (bBin zqs (bVar 2) (bVar 2)) (bC (.int 2147483629)) (R (some (.int n,om)))=.ok (.int (n * n % 2147483629),om,R (some (.int n,om))):=zyc (zzx (d:=om) (e:=om) (i:=n) (j:=n) rfl rfl (.inl (by omega))) (e:=om) rfl (by decide);generalize hm:n * n % 2147483629=m at e2;have b2:0<=m/\m < 2147483629:=by omega
  have e3:bBin zqh (bBin zqh (bBin zqs (bBin zqs (bVar 2) (bVar 2)) (bVar 2)) (bBin zqs (bC (.int 1000003)) (bVar 2))) (bVar 1) (R (some (.int m,om)))=.ok (.int (m * m * m + 1000003 * m + (k:Int)),om,R (some (.int m,om))):=
   zwq (e:=om) (zwq (zzx (e:=om) (zzx (d:=om) (e:=om) (i:=m) (j:=m) rfl rfl (.inl (by omega))) rfl (.inr (by omega))) (zzx (d:=om) (e:=om) (j:=m) rfl rfl (.inl (by decide)))) rfl
  exact ⟨_,zww rfl ((qbt hc).trans ((zqi (setF e1 (show 2 < 3 by decide) rfl)).trans ((zqi (setF e2 (show 2 < 3 by decide) rfl)).trans (zzu e3))))⟩
theorem qd0 {i:Int} (h:0<=i):∃ n:Nat,i=(n:Int):=⟨i.toNat,by omega⟩
def qc3 (f:PV->PV->Bool):List PV->List PV->Bool
 | [],[]=>true
 | x::xs,y::ys=>f x y && qc3 f xs ys
 | _,_=>false
def qc4:Nat->PV->PV->Bool
 | 0,_,_=>false
 | n + 1,x,y=>match x,y with
  | .non,.non=>true
  | .bl a,.bl b=>a == b
  | .int a,.int b=>a == b
  | .str a,.str b=>a == b
  | .emp,.emp=>true
  | .lst xs,.lst ys=>qc3 (qc4 n) xs ys
  | .tup xs,.tup ys=>qc3 (qc4 n) xs ys
  | _,_=>false
theorem zpg {f:PV->PV->Bool} (hf:∀ x y,f x y=true->x=y):∀ xs ys,qc3 f xs ys=true->xs=ys
 | [],[],_=>rfl
 | [],_::_,h=>by cases h
 | _::_,[],h=>by cases h
 | x::xs,y::ys,h=>by
  unfold qc3 at h;rw [ja4] at h;rw [hf x y h.1,zpg hf xs ys h.2]
theorem zph:∀ (n:Nat) (x y:PV),qc4 n x y=true->x=y
 | 0,_,_,h=>by cases h
 | n + 1,x,y,h=>by
  unfold qc4 at h;split at h
  ·rfl
  ·rw [eq_of_beq h]
  ·rw [eq_of_beq h]
  ·rw [eq_of_beq h]
  ·rfl
  ·rw [zpg (zph n) _ _ h]
  ·rw [zpg (zph n) _ _ h]
  ·cases h
def qlx (ns:List Int) (p:Nat) (st:Int×List Int) (n:Nat):Int×List Int:=
 let l1:=if n < ns.length then st.1 + ns.getD n 0 else st.1
 let l2:=if p<=n then l1 - ns.getD (n - p) 0 else l1
 (l2,st.2++[l2])
def tRun (ns:List Int) (p n:Nat):Int×List Int:=(jb0 n).foldl (qlx ns p) (0,[])
def zmq (ns:List Int) (p:Nat):List Int:=(tRun ns p (ns.length + p - 1)).2
def qgn (ns:List Int) (p:Nat) (st:Int×List Int) (n:Nat):Int×List Int:=
 let l1:=if p<=n then st.1 - st.2.getD (n - p) 0 else st.1
 let q:=ns.getD n 0 - l1
 (l1 + q,st.2++[q])
def oRun (ns:List Int) (p n:Nat):Int×List Int:=(jb0 n).foldl (qgn ns p) (0,[])
def qdr (ns:List Int) (p:Nat):List Int:=(oRun ns p (ns.length - p + 1)).2
theorem zyy (ns:List Int) (p n:Nat):tRun ns p (n + 1)=qlx ns p (tRun ns p n) n:=by unfold tRun;rw [jg8,jl8];rfl
theorem zjj (ns:List Int) (p n:Nat):oRun ns p (n + 1)=qgn ns p (oRun ns p n) n:=by unfold oRun;rw [jg8,jl8];rfl
theorem qaw (ns:List Int) (p:Nat):∀ n,(oRun ns p n).2.length=n
 | 0=>rfl
 | n + 1=>by rw [zjj];show ((oRun ns p n).2++[_]).length=n + 1;rw [jb1,qaw ns p n];rfl
theorem qae (ns:List Int) (p:Nat):∀ n,(tRun ns p n).2.length=n
 | 0=>rfl
 | n + 1=>by rw [zyy];show ((tRun ns p n).2++[_]).length=n + 1;rw [jb1,qae ns p n];rfl
theorem qbk {g:Int->Int->Int}{sd:Bool}{i:Nat}{f:Fx}{ρ ρ1 ρ2:Rho}{a b:Int}{d e:Nat} (h0:ρ[i]?=some (some (.int a,d))) (h:f ρ=.ok (.int b,e,ρ1)) (hi:i < ρ1.length) (e2:ρ1.set i (some (.int (g a b),om))=ρ2):sAug g sd i f ρ=.nx ρ2:=by
 unfold sAug;rw [h0];dsimp only;rw [h];dsimp only;rw [if_pos hi,e2]
theorem qfp {i:Nat}{f:Fx}{vs:List Nat}{ρ ρ2:Rho}{l:List Int}{v:Int} (h0:ρ[i]?=some (some (il l,om))) (h:f ρ=.ok (.int v,om,ρ)) (hl:l.length<=100000) (e2:ρ.set i (some (il (l++[v]),om))=ρ2):sApp i f vs ρ=.nx ρ2:=by
 have z:=sz;refine qir (d0:=om - 1) (d:=om) (y:=.int v) (e:=om) (ρ1:=ρ) (xs0:=l.map PV.int) (xs:=l.map PV.int) h0 h h0 (by decide) (by rw [ja3];omega) ?_;have e:il (l++[v])=.lst (l.map PV.int++[.int v]):=by unfold il;rw [je4];rfl
 rw [e] at e2;exact e2
def BT:Fs:=(sSeq (sIf (bT (bBin (zxo λ i j=>decide (i < j)) (bVar 4) (zqc zxv (zqa (bVar 0) (aNil))))) (sAug (λ i j=>i + j) true 3 (bBin zqd (bVar 0) (bVar 4))) sNil)
 (sSeq (sIf (bT (bBin (zxo λ i j=>decide (j<=i)) (bVar 4) (bVar 1))) (sAug (λ i j=>i - j) false 3 (bBin zqd (bVar 0) (bBin zxh (bVar 4) (bVar 1)))) sNil)
 (sApp 2 (bVar 3) [3])))
theorem qfw {ns:List Int}{p:Nat} (hp:1<=p/\p<=100) (hl:ns.length<=900):F20 [il ns,.int (p:Int)]=.ok (il (zmq ns p),om,.non):=by
 have z:=sz;have hF:F20=mkFn false 2 3 b20:=rfl;rw [hF];let R (s2 s3 s4:QQ.Slot):Rho:=[some (il ns,0),some (.int (p:Int),om),s2,s3,s4]
 let S (l:Int) (q:List Int) (s4:QQ.Slot):Rho:=R (some (il q,om)) (some (.int l,om)) s4;let N:Nat:=ns.length + p - 1;obtain ⟨ρ',e',s4,rfl⟩:=zzl (i:=4) (en:=zqt) (fa:=zqa (bBin zxh (bBin zqh (zqc zxv (zqa (bVar 0) (aNil))) (bVar 1)) (bC (.int 1))) (aNil)) (ρ:=S 0 [] none) (ρ1:=S 0 [] none) (as:=[(.int (N:Int),om)]) (lo:=0) (hi:=(N:Int)) (body:=BT)
  (λ n ρ=>∃ s4,ρ=S (tRun ns p n).1 (tRun ns p n).2 s4) (zxj (by
   have:=zvh (g:=bC (.int 1)) (j:=1) (e:=om) (zwq (g:=bVar 1) (j:=(p:Int)) (e:=om) (zyd (fa:=zqa (bVar 0) aNil) (ρ:=S 0 [] none) (xs:=ns) (d:=0) (zxj rfl)) rfl) rfl
   rw [this];congr 2;show PV.int ((ns.length:Int) + p - 1)=PV.int ((ns.length + p - 1:Nat):Int);congr 1
   omega)) (zxt (by omega) (by omega)) ⟨none,rfl⟩ (by
  rintro n _ hn ⟨s4,rfl⟩;have hn:n < N:=by omega
  have hN:N=ns.length + p - 1:=rfl;refine ⟨(show 4 < 5 by decide),?_⟩;rw [jf8];let l:=(tRun ns p n).1;let q:=(tRun ns p n).2;have ql:q.length=n:=qae ns p n;let l1:=if n < ns.length then l + ns.getD n 0 else l
  let l2:=if p<=n then l1 - ns.getD (n - p) 0 else l1
  let s4':QQ.Slot:=some (.int (n:Int),om);have u1:sIf (bT (bBin (zxo λ i j=>decide (i < j)) (bVar 4) (zqc zxv (zqa (bVar 0) (aNil))))) (sAug (λ i j=>i + j) true 3 (bBin zqd (bVar 0) (bVar 4))) sNil (S l q s4')=.nx (S l1 q s4'):=by
   have t:=t_ok (zjx (p:=λ i j=>decide (i < j)) (f:=bVar 4) (ρ:=S l q s4') (i:=(n:Int)) (d:=om) rfl (zyd (fa:=zqa (bVar 0) aNil) (xs:=ns) (d:=0) (zxj rfl)));show _=Rs.nx (S (if n < ns.length then l + ns.getD n 0 else l) q s4');by_cases h:n < ns.length
   ·rw [decide_eq_true (by omega)] at t;rw [if_t t,if_pos h];exact qbk (a:=l) (d:=om) rfl (zvk (xs:=ns) (k:=(n:Int)) (d:=0) (e:=om) rfl rfl (qg4 rfl h)) (show 3 < 5 by decide) rfl
   ·rw [decide_eq_false (by omega)] at t;rw [if_f t,if_neg h];rfl
  have u2:sIf (bT (bBin (zxo λ i j=>decide (j<=i)) (bVar 4) (bVar 1))) (sAug (λ i j=>i - j) false 3 (bBin zqd (bVar 0) (bBin zxh (bVar 4) (bVar 1)))) sNil (S l1 q s4')=.nx (S l2 q s4'):=by
   have t:=t_ok (zjx (p:=λ i j=>decide (j<=i)) (f:=bVar 4) (g:=bVar 1) (ρ:=S l1 q s4') (i:=(n:Int)) (j:=(p:Int)) (d:=om) (e:=om) rfl rfl);show _=Rs.nx (S (if p<=n then l1 - ns.getD (n - p) 0 else l1) q s4');by_cases h:p<=n
   ·rw [decide_eq_true (by omega)] at t;rw [if_t t,if_pos h];refine qbk (a:=l1) (d:=om) (b:=ns.getD (n - p) 0) rfl (zvk (xs:=ns) (k:=(n:Int) - (p:Int)) (d:=0) (e:=om) rfl (zvh (i:=(n:Int)) (j:=(p:Int)) (d:=om) (e:=om) rfl rfl) ?_) (show 3 < 5 by decide) rfl;rw [show (n:Int) - (p:Int)=((n - p:Nat):Int) by omega];exact qg4 rfl (by omega)
   ·rw [decide_eq_false (by omega)] at t;rw [if_f t,if_neg h];rfl
  have u3:sApp 2 (bVar 3) [3] (S l2 q s4')=.nx (S l2 (q++[l2]) s4'):=qfp (l:=q) (v:=l2) rfl rfl (by omega) rfl;refine ⟨_,(zqi u1).trans ((zqi u2).trans u3),s4',?_⟩;rw [zyy];rfl)
 rw [show ((N:Int) - 0).toNat=N by omega] at e';exact zww rfl ((zqi (show sSet false 2 (zqc zql (aNil)) [] (R none none none)=.nx (R (some (il [],om)) none none) from rfl)).trans ((zqi (show sSet false 3 (bC (.int 0)) [] (R (some (il [],om)) none none)=.nx (S 0 [] none) from rfl)).trans ((zqi e').trans rfl)))
def BO:Fs:=(sSeq (sIf (bT (bBin (zxo λ i j=>decide (j<=i)) (bVar 4) (bVar 1))) (sAug (λ i j=>i - j) false 3 (bBin zqd (bVar 2) (bBin zxh (bVar 4) (bVar 1)))) sNil)
 (sSeq (sApp 2 (bBin zxh (bBin zqd (bVar 0) (bVar 4)) (bVar 3)) [0,4,3])
 (sAug (λ i j=>i + j) true 3 (bBin zqd (bVar 2) (bVar 4)))))
theorem qj9 {ns:List Int}{p:Nat} (hp:1<=p/\p<=ns.length) (hl:ns.length<=900):F21 [il ns,.int (p:Int)]=.ok (il (qdr ns p),om,.non):=by
 have z:=sz;have hF:F21=mkFn false 2 3 b21:=rfl;rw [hF];let R (s2 s3 s4:QQ.Slot):Rho:=[some (il ns,0),some (.int (p:Int),om),s2,s3,s4]
 let S (l:Int) (q:List Int) (s4:QQ.Slot):Rho:=R (some (il q,om)) (some (.int l,om)) s4;let N:Nat:=ns.length - p + 1;obtain ⟨ρ',e',s4,rfl⟩:=zzl (i:=4) (en:=zqt) (fa:=zqa (bBin zqh (bBin zxh (zqc zxv (zqa (bVar 0) (aNil))) (bVar 1)) (bC (.int 1))) (aNil)) (ρ:=S 0 [] none) (ρ1:=S 0 [] none) (as:=[(.int (N:Int),om)]) (lo:=0) (hi:=(N:Int)) (body:=BO)
  (λ n ρ=>∃ s4,ρ=S (oRun ns p n).1 (oRun ns p n).2 s4) (zxj (by
   have:=zwq (g:=bC (.int 1)) (j:=1) (e:=om) (zvh (g:=bVar 1) (j:=(p:Int)) (e:=om) (zyd (fa:=zqa (bVar 0) aNil) (ρ:=S 0 [] none) (xs:=ns) (d:=0) (zxj rfl)) rfl) rfl
   rw [this];congr 2;show PV.int ((ns.length:Int) - p + 1)=PV.int ((ns.length - p + 1:Nat):Int);congr 1
   omega)) (zxt (by omega) (by omega)) ⟨none,rfl⟩ (by
  rintro n _ hn ⟨s4,rfl⟩;have hn:n < N:=by omega
  have hN:N=ns.length - p + 1:=rfl;refine ⟨(show 4 < 5 by decide),?_⟩;rw [jf8];let l:=(oRun ns p n).1;let q:=(oRun ns p n).2;have ql:q.length=n:=qaw ns p n;let l1:=if p<=n then l - q.getD (n - p) 0 else l
  let v:=ns.getD n 0 - l1;let s4':QQ.Slot:=some (.int (n:Int),om);have u1:sIf (bT (bBin (zxo λ i j=>decide (j<=i)) (bVar 4) (bVar 1))) (sAug (λ i j=>i - j) false 3 (bBin zqd (bVar 2) (bBin zxh (bVar 4) (bVar 1)))) sNil (S l q s4')=.nx (S l1 q s4'):=by
   have t:=t_ok (zjx (p:=λ i j=>decide (j<=i)) (f:=bVar 4) (g:=bVar 1) (ρ:=S l q s4') (i:=(n:Int)) (j:=(p:Int)) (d:=om) (e:=om) rfl rfl);show _=Rs.nx (S (if p<=n then l - q.getD (n - p) 0 else l) q s4');by_cases h:p<=n
   ·rw [decide_eq_true (by omega)] at t;rw [if_t t,if_pos h];refine qbk (a:=l) (d:=om) (b:=q.getD (n - p) 0) rfl (zvk (xs:=q) (k:=(n:Int) - (p:Int)) (d:=0) (e:=om) rfl (zvh (i:=(n:Int)) (j:=(p:Int)) (d:=om) (e:=om) rfl rfl) ?_) (show 3 < 5 by decide) rfl;rw [show (n:Int) - (p:Int)=((n - p:Nat):Int) by omega];exact qg4 ql (by omega)
   ·rw [decide_eq_false (by omega)] at t;rw [if_f t,if_neg h];rfl
  have u2:sApp 2 (bBin zxh (bBin zqd (bVar 0) (bVar 4)) (bVar 3)) [0,4,3] (S l1 q s4')=.nx (S l1 (q++[v]) s4'):=qfp (l:=q) (v:=v) rfl (zvh (j:=l1) (e:=om) (zvk (xs:=ns) (k:=(n:Int)) (d:=0) (e:=om) rfl rfl (qg4 rfl (by omega))) rfl) (by omega) rfl;have u3:sAug (λ i j=>i + j) true 3 (bBin zqd (bVar 2) (bVar 4)) (S l1 (q++[v]) s4')=.nx (S (l1 + v) (q++[v]) s4'):=by
   refine qbk (a:=l1) (d:=om) (b:=v) rfl (zvk (xs:=q++[v]) (k:=(n:Int)) (d:=0) (e:=om) rfl rfl (zwc (by omega) ?_)) (show 3 < 5 by decide) rfl;rw [jc3,<- ql];simp
  refine ⟨_,(zqi u1).trans ((zqi u2).trans u3),s4',?_⟩;rw [zjj];rfl)
 rw [show ((N:Int) - 0).toNat=N by omega] at e';exact zww rfl ((zqi (show sSet false 2 (zqc zql (aNil)) [] (R none none none)=.nx (R (some (il [],om)) none none) from rfl)).trans ((zqi (show sSet false 3 (bC (.int 0)) [] (R (some (il [],om)) none none)=.nx (S 0 [] none) from rfl)).trans ((zqi e').trans rfl)))
def zyx:List Nat->List Int->Option (List Int)
 | [],l=>some l
 | p::ps,l=>if 1<=p/\p<=100/\l.length<=900 then zyx ps (zmq l p) else none
def zgw:List Nat->List Int->Option (List Int)
 | [],l=>some l
 | p::ps,l=>if 1<=p - 1/\p - 1<=l.length/\l.length<=900 then zgw ps (qdr l (p - 1)) else none
def nums (a b c:Nat):List Nat:=(jb0 a).flatMap λ i=>(jb0 b).flatMap λ j=>(jb0 c).map λ k=>i + j + k + 2
def natP (n:Nat):PV:=.int (n:Int)
section
variable {a b c:Nat}
def T (a b c:Nat) (l:List Int) (s2:QQ.Slot):Rho:=[some (bx a b c,0),some (il l,om),s2]
theorem qn1:∀ (ps:List Nat) (l r:List Int) (s2:QQ.Slot),zyx ps l=some r->∃ s2',zxe (asgN 2) (sSet false 1 (zqf F20 (zqa (bVar 1) (zqa (bVar 2) (aNil)))) [1,2]) (ps.map natP) (T a b c l s2)=.nx (T a b c r s2')
 | [],l,r,s2,h=>by cases h;exact ⟨s2,rfl⟩
 | p::ps,l,r,s2,h=>by
  unfold zyx at h;split at h
  ·rename_i hc;obtain ⟨s2',e⟩:=qn1 ps _ r (some (natP p,om)) h;refine ⟨s2',?_⟩;rw [jb7];have w:sSet false 1 (zqf F20 (zqa (bVar 1) (zqa (bVar 2) (aNil)))) [1,2] (T a b c l (some (natP p,om)))=.nx (T a b c (zmq l p) (some (natP p,om))):=setF (zqk (xs:=[(il l,0),(.int (p:Int),om)]) rfl (qfw ⟨hc.1,hc.2.1⟩ hc.2.2)) (show 1 < 3 by decide) rfl;show (match asgN 2 (natP p) (T a b c l s2) with | none=>Rs.no | some ρ1=>match sSet false 1 (zqf F20 (zqa (bVar 1) (zqa (bVar 2) (aNil)))) [1,2] ρ1 with | .nx ρ2=>zxe _ _ (ps.map natP) ρ2 | .ct ρ2=>zxe _ _ (ps.map natP) ρ2 | .bk ρ2=>.nx ρ2 | .rt x d ρ2=>.rt x d ρ2 | .exc c=>.exc c | .no=>.no)=_;rw [show asgN 2 (natP p) (T a b c l s2)=some (T a b c l (some (natP p,om))) from rfl];dsimp only;rw [w];exact e
  ·cases h
theorem qn2:∀ (ps:List Nat) (l r:List Int) (s2:QQ.Slot),zgw ps l=some r->∃ s2',zxe (asgN 2) (sSet false 1 (zqf F21 (zqa (bVar 1) (zqa (bBin zxh (bVar 2) (bC (.int 1))) (aNil)))) [1,2]) (ps.map natP) (T a b c l s2)=.nx (T a b c r s2')
 | [],l,r,s2,h=>by cases h;exact ⟨s2,rfl⟩
 | p::ps,l,r,s2,h=>by
  unfold zgw at h;split at h
  ·rename_i hc;obtain ⟨s2',e⟩:=qn2 ps _ r (some (natP p,om)) h;refine ⟨s2',?_⟩;rw [jb7];have sb:bBin zxh (bVar 2) (bC (.int 1)) (T a b c l (some (natP p,om)))=.ok (.int ((p - 1:Nat):Int),om,T a b c l (some (natP p,om))):=by
    have:=zvh (f:=bVar 2) (g:=bC (.int 1)) (ρ:=T a b c l (some (natP p,om))) (i:=(p:Int)) (j:=1) (d:=om) (e:=om) rfl rfl
    rw [this,show (p:Int) - 1=((p - 1:Nat):Int) by omega]
   have w:sSet false 1 (zqf F21 (zqa (bVar 1) (zqa (bBin zxh (bVar 2) (bC (.int 1))) (aNil)))) [1,2] (T a b c l (some (natP p,om)))=.nx (T a b c (qdr l (p - 1)) (some (natP p,om))):=setF (zqk (xs:=[(il l,0),(.int ((p - 1:Nat):Int),om)]) (zxf rfl (zxj sb)) (qj9 ⟨hc.1,hc.2.1⟩ hc.2.2)) (show 1 < 3 by decide) rfl;show (match asgN 2 (natP p) (T a b c l s2) with | none=>Rs.no | some ρ1=>match sSet false 1 (zqf F21 (zqa (bVar 1) (zqa (bBin zxh (bVar 2) (bC (.int 1))) (aNil)))) [1,2] ρ1 with | .nx ρ2=>zxe _ _ (ps.map natP) ρ2 | .ct ρ2=>zxe _ _ (ps.map natP) ρ2 | .bk ρ2=>.nx ρ2 | .rt x d ρ2=>.rt x d ρ2 | .exc c=>.exc c | .no=>.no)=_;rw [show asgN 2 (natP p) (T a b c l s2)=some (T a b c l (some (natP p,om))) from rfl];dsimp only;rw [w];exact e
  ·cases h
theorem qjx {h:List Int} (ha:1<=a) (hb:1<=b) (hc:1<=c) (n17:∃ d,F17 [bx a b c]=.ok (.lst ((nums a b c).map natP),d,.non)) (e:(zyx (nums a b c) [1]).bind (zgw (nums a b c))=some h):F22 [bx a b c]=.ok (il h,om,.non):=by
 have hF:F22=mkFn false 1 2 b22:=rfl;rw [hF];obtain ⟨l,e1,e2⟩:=ji8.mp e;obtain ⟨dn,n17⟩:=n17;have cl:∀ l s2,zqp dn [0] (T a b c l s2)=T a b c l s2:=λ l s2=>by
  unfold zqp;split <;> rfl
 have bb:boxB a b c=true:=by unfold boxB;simp;omega
 have v1:zkj (zqf F2 (zqa (bVar 0) (aNil))) [some (bx a b c,0),none,none]=.nx [some (bx a b c,0),none,none]:=zho (zqk (xs:=[(bx a b c,0)]) rfl (zvo bb));have v2:sSet false 1 (zqc zql (zqa (bC (.int 1)) (aNil))) [] [some (bx a b c,0),none,none]=.nx (T a b c [1] none):=rfl;obtain ⟨s2,w1⟩:=qn1 (a:=a) (b:=b) (c:=c) (nums a b c) [1] l none e1;obtain ⟨s2',w2⟩:=qn2 (a:=a) (b:=b) (c:=c) (nums a b c) l h s2 e2;have c17:∀ l s2,zqf F17 (zqa (bVar 0) (aNil)) (T a b c l s2)=.ok (.lst ((nums a b c).map natP),dn,T a b c l s2):=λ l s2=>zqk (xs:=[(bx a b c,0)]) rfl n17;exact zww rfl ((zqi v1).trans ((zqi v2).trans ((zqi (zvq (els:=(nums a b c).map natP) (d:=dn) (c17 _ _) (cl _ _) w1)).trans ((zqi (zvq (els:=(nums a b c).map natP) (d:=dn) (c17 _ _) (cl _ _) w2)).trans rfl))))
end
def fN {α:Type} (n:Nat) (f:Nat->α):α:=match n with
 | 0=>f 0
 | k + 1=>f (k + 1)
theorem qk3 {α:Type} (n:Nat) (f:Nat->α):fN n f=f n:=by cases n <;> rfl
def fI {α:Type} (x:Int) (f:Int->α):α:=match x with
 | .ofNat n=>fN n λ m=>f (.ofNat m)
 | .negSucc n=>fN n λ m=>f (.negSucc m)
theorem qpq {α:Type} (x:Int) (f:Int->α):fI x f=f x:=by
 cases x with
 | ofNat n=>exact qk3 n λ m=>f (.ofNat m)
 | negSucc n=>exact qk3 n λ m=>f (.negSucc m)
def fL {α:Type}:List Int->(List Int->α)->α
 | [],f=>f []
 | x::l,f=>fI x λ y=>fL l λ l'=>f (y::l')
theorem qb6 {α:Type}:∀ (l:List Int) (f:List Int->α),fL l f=f l
 | [],f=>rfl
 | x::l,f=>by rw [fL,qpq,qb6 l]
def inc:Nat->Nat->Int->List Int->List Int
 | _,_,_,[]=>[]
 | 0,0,_,x::l=>x::l
 | 0,m + 1,v,x::l=>(x + v)::inc 0 m v l
 | k + 1,m,v,x::l=>x::inc k m v l
theorem zwg:∀ (k m:Nat) (v:Int) (l:List Int),(inc k m v l).length=l.length
 | _,_,_,[]=>by simp [inc]
 | 0,0,_,x::l=>by simp [inc]
 | 0,m + 1,v,x::l=>by simp [inc,zwg 0 m v l]
 | k + 1,m,v,x::l=>by simp [inc,zwg k m v l]
theorem zys:∀ (k:Nat) (v:Int) (l:List Int),inc k 0 v l=l
 | _,_,[]=>by simp [inc]
 | 0,_,x::l=>by simp [inc]
 | k + 1,v,x::l=>by simp [inc,zys k v l]
theorem zyt:∀ (k m:Nat) (v:Int) (l:List Int),k + m < l.length->(inc k m v l).set (k + m) ((inc k m v l).getD (k + m) 0 + v)=inc k (m + 1) v l
 | _,_,_,[],h=>by simp at h
 | 0,0,v,x::l,h=>by simp [inc,zys]
 | 0,m + 1,v,x::l,h=>by
  have ih:=zyt 0 m v l (by simp at h ⊢;omega);rw [jj4] at ih ⊢;simp only [inc,jd5,jh2];rw [ih]
 | k + 1,m,v,x::l,h=>by
  have ih:=zyt k m v l (by simp at h;omega);rw [show k + 1 + m=(k + m) + 1 by omega];simp only [inc,jd5,jh2];rw [ih]
theorem zhi:∀ (p:List Int) (m:Nat) (v:Int) (l:List Int),inc p.length m v (p++l)=p++inc 0 m v l
 | [],m,v,l=>rfl
 | x::p,m,v,l=>by
  show inc (p.length + 1) m v (x::(p++l))=_;rw [inc,zhi p m v l];rfl
theorem qem:∀ (k m:Nat) (v:Int) (l:List Int),l.length<=k->inc k m v l=l
 | _,_,_,[],_=>by simp [inc]
 | 0,_,_,x::l,h=>by simp at h
 | k + 1,m,v,x::l,h=>by rw [inc,qem k m v l (by simpa using h)]
def cvW (m:Nat):Nat->List Int->List Int->List Int
 | _,[],w=>w
 | k,x::xs,w=>cvW m (k + 1) xs (inc k m x w)
def cvL (m:Nat):List Int->List Int->List Int
 | [],w=>w
 | x::xs,w=>match inc 0 m x w with
  | []=>[]
  | y::w'=>y::cvL m xs w'
theorem qe7 (m:Nat):∀ (xs:List Int) (k:Nat) (w:List Int),w.length<=k->cvW m k xs w=w
 | [],k,w,_=>rfl
 | x::xs,k,w,h=>by rw [cvW,qem k m x w h,qe7 m xs (k + 1) w (by omega)]
theorem qip (m:Nat):∀ (xs p w:List Int),cvW m p.length xs (p++w)=p++cvL m xs w
 | [],p,w=>rfl
 | x::xs,p,w=>by
  rw [cvW,zhi,cvL];have hl:=zwg 0 m x w;cases e:inc 0 m x w with
  | nil=>rw [qe7 m xs _ _ (by simp)]
  | cons y w'=>
   have:=qip m xs (p++[y]) w'
   rw [jb1,jd7,jf5,jf5] at this;exact this
def dvF (n:Nat):Nat->Nat->List Int->List Int->List Int×List Int
 | 0,_,l,q=>(l,q)
 | m + 1,k,l,q=>dvF n m (k + 1) (inc k n (-(l.getD k 0)) l) (q++[l.getD k 0])
def dvL (n:Nat):Nat->List Int->List Int
 | 0,_=>[]
 | _ + 1,[]=>[]
 | m + 1,x::l=>x::dvL n m (inc 0 (n - 1) (-x) l)
theorem qig {n:Nat} (hn:1<=n):∀ (m:Nat) (p l q:List Int),m<=l.length->(dvF n m p.length (p++l) q).2=q++dvL n m l
 | 0,p,l,q,_=>by simp [dvF,dvL]
 | m + 1,p,[],q,h=>by simp at h
 | m + 1,p,x::l,q,h=>by
  have g:(p++x::l).getD p.length 0=x:=by simp [ja6]
  obtain ⟨n',rfl⟩:∃ n',n=n' + 1:=⟨n - 1,by omega⟩
  rw [dvF,g,zhi,inc,dvL,jf4]
  have:=qig hn m (p++[x + -x]) (inc 0 n' (-x) l) (q++[x]) (by rw [zwg];simpa using h)
  rw [jb1,jd7,jf5,jf5] at this;exact this
def mulA:List Nat->List Int->Option (List Int)
 | [],l=>some l
 | n::ns,l=>if l.length + n<=900 then fL (cvL (n + 1) l (ja2 (l.length + n) 0)) (mulA ns) else none
def divA:List Nat->List Int->Option (List Int)
 | [],l=>some l
 | n::ns,l=>if 1<=n/\n<=l.length/\l.length<=890 then fL (dvL n (l.length + 1 - n) l) (divA ns) else none
theorem qdd {i:Nat}{fk f:Fx}{ρ ρ2:Rho}{xs:List Int}{v:Int}{j d d1 d2:Nat} (hf:f ρ=.ok (.int v,d2,ρ)) (hx:ρ[i]?=some (some (il xs,d))) (hd:d≠0) (hk:fk ρ=.ok (.int (j:Int),d1,ρ)) (hj:j < xs.length) (e:ρ.set i (some (il (xs.set j v),d))=ρ2):zwd i fk f ρ=.nx ρ2:=by
 have ep:putX (il xs) (.int (j:Int)) (.int v)=some (il (xs.set j v)):=by
  show (match ixN (xs.map PV.int).length (j:Int) with | some k=>some (PV.lst ((xs.map PV.int).set k (.int v))) | none=>none)=_
  have:ixN (xs.map PV.int).length (j:Int)=some j:=by
   unfold ixN;rw [if_pos (by omega),ja3,if_pos (by omega),jc3]
  rw [this];show some (PV.lst _)=some (PV.lst _);rw [jr2]
 unfold zwd;rw [hf];dsimp only;rw [hx];dsimp only;rw [hk];dsimp only;rw [hx];dsimp only;rw [ep];dsimp only;rw [if_pos ⟨hd,rfl⟩,e]
theorem zkq {asg:PV->Rho->Option Rho}{body:Fs}{x:PV}{xs:List PV}{ρ ρ1 ρ2:Rho} (h1:asg x ρ=some ρ1) (h2:body ρ1=.nx ρ2):zxe asg body (x::xs) ρ=zxe asg body xs ρ2:=by
 rw [zxe,h1];dsimp only;rw [h2]
def P (bx0:PV) (s1 s2 s3 s4 s5 s6 s7 s8:QQ.Slot):Rho:=[some (bx0,0),s1,s2,s3,s4,s5,s6,s7,s8]
def MI:Fs:=zwe zqt (zqa (bBin zqh (bVar 2) (bC (.int 1))) (aNil)) (asgN 6) (zwd 3 (bBin zqh (bVar 4) (bVar 6)) (bBin zqh (bBin zqd (bVar 3) (bBin zqh (bVar 4) (bVar 6))) (bVar 5)))
def DI:Fs:=zwe zqt (zqa (bVar 2) (aNil)) (asgN 6) (zwd 1 (bBin zqh (bVar 4) (bVar 6)) (bBin zxh (bBin zqd (bVar 1) (bBin zqh (bVar 4) (bVar 6))) (bVar 8)))
theorem qpu {bx0:PV}{s1 s6 s7 s8:QQ.Slot}{n k d2 d3 d4 d5:Nat}{v:Int}{w:List Int} (hn:n<=1000) (hk:k<=1000) (hw:k + n < w.length) (hd:d3≠0):∃ s6',MI (P bx0 s1 (some (.int (n:Int),d2)) (some (il w,d3)) (some (.int (k:Int),d4)) (some (.int v,d5)) s6 s7 s8)=.nx (P bx0 s1 (some (.int (n:Int),d2)) (some (il (inc k (n + 1) v w),d3)) (some (.int (k:Int),d4)) (some (.int v,d5)) s6' s7 s8):=by
 let Q (t:List Int) (s6:QQ.Slot):Rho:=P bx0 s1 (some (.int (n:Int),d2)) (some (il t,d3)) (some (.int (k:Int),d4)) (some (.int v,d5)) s6 s7 s8;obtain ⟨ρ',e,s6',rfl⟩:=zzl (i:=6) (en:=zqt) (fa:=zqa (bBin zqh (bVar 2) (bC (.int 1))) (aNil)) (body:=zwd 3 (bBin zqh (bVar 4) (bVar 6)) (bBin zqh (bBin zqd (bVar 3) (bBin zqh (bVar 4) (bVar 6))) (bVar 5))) (ρ:=Q w s6) (ρ1:=Q w s6) (as:=[(.int ((n:Int) + 1),om)]) (lo:=0) (hi:=(n:Int) + 1) (λ s ρ=>∃ s6,ρ=Q (inc k s v w) s6) rfl (zxt (by omega) (by omega)) ⟨s6,by rw [zys]⟩ (by
  rintro s _ hs ⟨s6,rfl⟩;refine ⟨(show 6 < 9 by decide),?_⟩;rw [jf8];have hks:k + s < (inc k s v w).length:=by rw [zwg];omega
  let W:Rho:=Q (inc k s v w) (some (.int (s:Int),om));have ia:bBin zqh (bVar 4) (bVar 6) W=.ok (.int ((k + s:Nat):Int),om,W):=by
   have:bBin zqh (bVar 4) (bVar 6) W=.ok (.int ((k:Int) + (s:Int)),om,W):=rfl
   rw [this,jh7]
  have ev:=zwq (g:=bVar 5) (j:=v) (e:=om) (zvk (f:=bVar 3) (ρ:=W) (xs:=inc k s v w) (d:=0) rfl ia (zwc (by omega) (by rw [jc3];exact zwi hks))) rfl;exact ⟨_,qdd (xs:=inc k s v w) (j:=k + s) (d:=d3) ev rfl hd ia hks rfl,some (.int (s:Int),om),by rw [<- zyt k s v w (by omega)];rfl⟩)
 rw [show ((n:Int) + 1 - 0).toNat=n + 1 by omega] at e;exact ⟨s6',e⟩
theorem qpw {bx0:PV}{s3 s5 s6 s7:QQ.Slot}{n k d1 d2 d4 d8:Nat}{x:Int}{w:List Int} (hn:n<=1000) (hk:k<=1000) (hw:k + n<=w.length) (hd:d1≠0):∃ s6',DI (P bx0 (some (il w,d1)) (some (.int (n:Int),d2)) s3 (some (.int (k:Int),d4)) s5 s6 s7 (some (.int x,d8)))=.nx (P bx0 (some (il (inc k n (-x) w),d1)) (some (.int (n:Int),d2)) s3 (some (.int (k:Int),d4)) s5 s6' s7 (some (.int x,d8))):=by
 let Q (t:List Int) (s6:QQ.Slot):Rho:=P bx0 (some (il t,d1)) (some (.int (n:Int),d2)) s3 (some (.int (k:Int),d4)) s5 s6 s7 (some (.int x,d8));obtain ⟨ρ',e,s6',rfl⟩:=zzl (i:=6) (en:=zqt) (fa:=zqa (bVar 2) (aNil)) (body:=zwd 1 (bBin zqh (bVar 4) (bVar 6)) (bBin zxh (bBin zqd (bVar 1) (bBin zqh (bVar 4) (bVar 6))) (bVar 8))) (ρ:=Q w s6) (ρ1:=Q w s6) (as:=[(.int (n:Int),om)]) (lo:=0) (hi:=(n:Int)) (λ s ρ=>∃ s6,ρ=Q (inc k s (-x) w) s6) rfl (zxt (by omega) (by omega)) ⟨s6,by rw [zys]⟩ (by
  rintro s _ hs ⟨s6,rfl⟩;refine ⟨(show 6 < 9 by decide),?_⟩;rw [jf8];have hks:k + s < (inc k s (-x) w).length:=by rw [zwg];omega
  let W:Rho:=Q (inc k s (-x) w) (some (.int (s:Int),om));have ia:bBin zqh (bVar 4) (bVar 6) W=.ok (.int ((k + s:Nat):Int),om,W):=by
   have:bBin zqh (bVar 4) (bVar 6) W=.ok (.int ((k:Int) + (s:Int)),om,W):=rfl
   rw [this,jh7]
  have ev:=zvh (g:=bVar 8) (j:=x) (e:=om) (zvk (f:=bVar 1) (ρ:=W) (xs:=inc k s (-x) w) (d:=0) rfl ia (zwc (by omega) (by rw [jc3];exact zwi hks))) rfl;rw [Int.sub_eq_add_neg] at ev;exact ⟨_,qdd (xs:=inc k s (-x) w) (j:=k + s) (d:=d1) ev rfl hd ia hks rfl,some (.int (s:Int),om),by rw [<- zyt k s (-x) w (by omega)];rfl⟩)
 rw [show ((n:Int) - 0).toNat=n by omega] at e;exact ⟨s6',e⟩
theorem qn3 {bx0:PV}{s1 s7 s8:QQ.Slot}{n d2:Nat} (hn:n<=900):∀ (xs w:List Int) (k:Nat) (s4 s5 s6:QQ.Slot),k + xs.length + n<=w.length->w.length<=900->∃ s4' s5' s6',zxe (asgT [4,5]) MI (zyj k (xs.map PV.int)) (P bx0 s1 (some (.int (n:Int),d2)) (some (il w,om)) s4 s5 s6 s7 s8)=.nx (P bx0 s1 (some (.int (n:Int),d2)) (some (il (cvW (n + 1) k xs w),om)) s4' s5' s6' s7 s8)
 | [],w,k,s4,s5,s6,_,_=>⟨s4,s5,s6,rfl⟩
 | x::xs,w,k,s4,s5,s6,h,hw=>by
  rw [jb2] at h;obtain ⟨s6',e⟩:=qpu (bx0:=bx0) (s1:=s1) (s6:=s6) (s7:=s7) (s8:=s8) (n:=n) (k:=k) (d2:=d2) (d3:=om) (d4:=om) (d5:=om) (v:=x) (w:=w) (by omega) (by omega) (by omega) (by decide);obtain ⟨a,b,c,e2⟩:=qn3 (bx0:=bx0) (s1:=s1) (s7:=s7) (s8:=s8) (d2:=d2) hn xs (inc k (n + 1) x w) (k + 1) (some (.int (k:Int),om)) (some (.int x,om)) s6' (by rw [zwg];omega) (by rw [zwg];exact hw);refine ⟨a,b,c,?_⟩;rw [jb7,zyj];exact (zkq (ρ1:=P bx0 s1 (some (.int (n:Int),d2)) (some (il w,om)) (some (.int (k:Int),om)) (some (.int x,om)) s6 s7 s8) rfl e).trans e2
def DB:Fs:=(sSeq (sSet false 8 (bBin zqd (bVar 1) (bVar 4)) [1,4])
 (sSeq (sApp 7 (bVar 8) [8]) DI))
theorem qn4 {bx0:PV}{s3 s5:QQ.Slot}{n d2:Nat} (hn:n<=900):∀ (m:Nat) (w q:List Int) (k:Nat) (s4 s6 s8:QQ.Slot),k + m + n<=w.length + 1->(m≠0->1<=n)->w.length<=900->q.length + m<=1000->∃ s4' s6' s8',zxe (asgN 4) DB ((jj3 k m).map λ (k:Nat)=>PV.int (k:Int)) (P bx0 (some (il w,om)) (some (.int (n:Int),d2)) s3 s4 s5 s6 (some (il q,om)) s8)=.nx (P bx0 (some (il (dvF n m k w q).1,om)) (some (.int (n:Int),d2)) s3 s4' s5 s6' (some (il (dvF n m k w q).2,om)) s8')
 | 0,w,q,k,s4,s6,s8,_,_,_,_=>⟨s4,s6,s8,rfl⟩
 | m + 1,w,q,k,s4,s6,s8,h,h1,hw,hq=>by
  have hn1:=h1 (by omega);have hkw:k < w.length:=by omega
  let x:=w.getD k 0;obtain ⟨s6',e⟩:=qpw (bx0:=bx0) (s3:=s3) (s5:=s5) (s6:=s6) (s7:=some (il (q++[x]),om)) (n:=n) (k:=k) (d1:=om) (d2:=d2) (d4:=om) (d8:=om) (x:=x) (w:=w) (by omega) (by omega) (by omega) (by decide);obtain ⟨a,b,c,e2⟩:=qn4 (bx0:=bx0) (s3:=s3) (s5:=s5) (d2:=d2) hn m (inc k n (-x) w) (q++[x]) (k + 1) (some (.int (k:Int),om)) s6' (some (.int x,om)) (by rw [zwg];omega) (λ _=>hn1) (by rw [zwg];exact hw) (by rw [jb1,jd7];omega);refine ⟨a,b,c,?_⟩;have u1:sSet false 8 (bBin zqd (bVar 1) (bVar 4)) [1,4] (P bx0 (some (il w,om)) (some (.int (n:Int),d2)) s3 (some (.int (k:Int),om)) s5 s6 (some (il q,om)) s8)=.nx (P bx0 (some (il w,om)) (some (.int (n:Int),d2)) s3 (some (.int (k:Int),om)) s5 s6 (some (il q,om)) (some (.int x,om))):=setF (zvk (xs:=w) (k:=(k:Int)) (d:=0) (e:=om) rfl rfl (zwc (by omega) (by rw [jc3];exact zwi hkw))) (show 8 < 9 by decide) rfl;have u2:sApp 7 (bVar 8) [8] (P bx0 (some (il w,om)) (some (.int (n:Int),d2)) s3 (some (.int (k:Int),om)) s5 s6 (some (il q,om)) (some (.int x,om)))=.nx (P bx0 (some (il w,om)) (some (.int (n:Int),d2)) s3 (some (.int (k:Int),om)) s5 s6 (some (il (q++[x]),om)) (some (.int x,om))):=qfp rfl rfl (by omega) rfl;have u:=(zqi u1).trans ((zqi (g:=DI) u2).trans e);rw [jm0,jb7];exact (zkq (body:=DB) (ρ1:=P bx0 (some (il w,om)) (some (.int (n:Int),d2)) s3 (some (.int (k:Int),om)) s5 s6 (some (il q,om)) s8) rfl u).trans e2
def MB:Fs:=(sSeq (sSet false 3 (bBin zqs (zqc zql (zqa (bC (.int 0)) (aNil))) (bBin zqh (zqc zxv (zqa (bVar 1) (aNil))) (bVar 2))) [1,2])
 (sSeq (zba .enm (zqa (bVar 1) (aNil)) [1] (asgT [4,5]) MI)
 (sMv 1 3)))
def DD:Fs:=(sSeq (sSet false 7 (zqc zql (aNil)) [])
 (sSeq (zwe zqt (zqa (bBin zqh (bBin zxh (zqc zxv (zqa (bVar 1) (aNil))) (bVar 2)) (bC (.int 1))) (aNil)) (asgN 4) DB)
 (sMv 1 7)))
theorem qh7 {bx0:PV}:∀ (ns:List Nat) (l r:List Int) (s2 s3 s4 s5 s6 s7 s8:QQ.Slot),mulA ns l=some r->∃ s2' s3' s4' s5' s6',zxe (asgN 2) MB (ns.map natP) (P bx0 (some (il l,om)) s2 s3 s4 s5 s6 s7 s8)=.nx (P bx0 (some (il r,om)) s2' s3' s4' s5' s6' s7 s8)
 | [],l,r,s2,s3,s4,s5,s6,s7,s8,h=>by cases h;exact ⟨s2,s3,s4,s5,s6,rfl⟩
 | n::ns,l,r,s2,s3,s4,s5,s6,s7,s8,h=>by
  have z:=sz;rw [mulA] at h;split at h
  ·rename_i hl;rw [qb6] at h;have u1:sSet false 3 (bBin zqs (zqc zql (zqa (bC (.int 0)) (aNil))) (bBin zqh (zqc zxv (zqa (bVar 1) (aNil))) (bVar 2))) [1,2] (P bx0 (some (il l,om)) (some (.int (n:Int),om)) s3 s4 s5 s6 s7 s8)=.nx (P bx0 (some (il l,om)) (some (.int (n:Int),om)) (some (il (ja2 (l.length + n) 0),om)) s4 s5 s6 s7 s8):=by
    have e1:=zgy (f:=zqc zql (zqa (bC (.int 0)) (aNil))) (ρ:=P bx0 (some (il l,om)) (some (.int (n:Int),om)) s3 s4 s5 s6 s7 s8) (d:=om) rfl (zwq (zyd (xs:=l) (fa:=zqa (bVar 1) aNil) (d:=0) rfl) (j:=(n:Int)) (e:=om) (g:=bVar 2) rfl) (by omega);rw [show ((l.length:Int) + (n:Int)).toNat=l.length + n by omega] at e1;exact setF e1 (show 3 < 9 by decide) rfl
   obtain ⟨s4',s5',s6',e⟩:=qn3 (bx0:=bx0) (s1:=some (il l,0)) (s7:=s7) (s8:=s8) (n:=n) (d2:=om) (by omega) l (ja2 (l.length + n) 0) 0 s4 s5 s6 (by rw [jc5];omega) (by rw [jc5];omega);have ec:cvW (n + 1) 0 l (ja2 (l.length + n) 0)=cvL (n + 1) l (ja2 (l.length + n) 0):=qip (n + 1) l [] _;rw [ec] at e;have u2:=qkz (v:=.enm) (fa:=zqa (bVar 1) aNil) (vs:=[1]) (ρ:=P bx0 (some (il l,om)) (some (.int (n:Int),om)) (some (il (ja2 (l.length + n) 0),om)) s4 s5 s6 s7 s8) (xs:=[(il l,0)]) (els:=zyj 0 (l.map PV.int)) rfl rfl rfl e;have u3:sMv 1 3 (P bx0 (some (il l,0)) (some (.int (n:Int),om)) (some (il (cvL (n + 1) l (ja2 (l.length + n) 0)),om)) s4' s5' s6' s7 s8)=.nx (P bx0 (some (il (cvL (n + 1) l (ja2 (l.length + n) 0)),om)) (some (.int (n:Int),om)) none s4' s5' s6' s7 s8):=rfl;obtain ⟨a2,a3,a4,a5,a6,e2⟩:=qh7 (bx0:=bx0) ns _ r (some (.int (n:Int),om)) none s4' s5' s6' s7 s8 h;refine ⟨a2,a3,a4,a5,a6,?_⟩;rw [jb7];exact (zkq (body:=MB) (ρ1:=P bx0 (some (il l,om)) (some (.int (n:Int),om)) s3 s4 s5 s6 s7 s8) rfl ((zqi u1).trans ((zqi u2).trans u3))).trans e2
  ·cases h
theorem qh8 {bx0:PV}:∀ (ns:List Nat) (l r:List Int) (s2 s3 s4 s5 s6 s7 s8:QQ.Slot),divA ns l=some r->∃ s2' s4' s6' s7' s8',zxe (asgN 2) DD (ns.map natP) (P bx0 (some (il l,om)) s2 s3 s4 s5 s6 s7 s8)=.nx (P bx0 (some (il r,om)) s2' s3 s4' s5 s6' s7' s8')
 | [],l,r,s2,s3,s4,s5,s6,s7,s8,h=>by cases h;exact ⟨s2,s4,s6,s7,s8,rfl⟩
 | n::ns,l,r,s2,s3,s4,s5,s6,s7,s8,h=>by
  have z:=sz;rw [divA] at h;split at h
  ·rename_i hl;rw [qb6] at h;have u1:sSet false 7 (zqc zql (aNil)) [] (P bx0 (some (il l,om)) (some (.int (n:Int),om)) s3 s4 s5 s6 s7 s8)=.nx (P bx0 (some (il l,om)) (some (.int (n:Int),om)) s3 s4 s5 s6 (some (il [],om)) s8):=rfl;obtain ⟨s4',s6',s8',e⟩:=qn4 (bx0:=bx0) (s3:=s3) (s5:=s5) (n:=n) (d2:=om) (by omega) (l.length + 1 - n) l [] 0 s4 s6 s8 (by omega) (λ _=>hl.1) (by omega) (by simp;omega);have ed:(dvF n (l.length + 1 - n) 0 l []).2=dvL n (l.length + 1 - n) l:=qig hl.1 _ [] l [] (by omega);let W:Rho:=P bx0 (some (il l,om)) (some (.int (n:Int),om)) s3 s4 s5 s6 (some (il [],om)) s8;have en:(zqa (bBin zqh (bBin zxh (zqc zxv (zqa (bVar 1) (aNil))) (bVar 2)) (bC (.int 1))) (aNil)) W=.ok ([(.int ((l.length + 1 - n:Nat):Int),om)],W):=by
    refine zxj ?_;rw [zwq (j:=1) (e:=om) (g:=bC (.int 1)) (zvh (zyd (xs:=l) (fa:=zqa (bVar 1) aNil) (ρ:=W) (d:=0) rfl) (j:=(n:Int)) (e:=om) (g:=bVar 2) rfl) rfl];congr 3;omega
   rw [<- jn0] at e;have u2:=qk1 (en:=zqt) (asg:=asgN 4) (body:=DB) en (zxt (by omega) (by omega)) e;rw [ed] at u2;have u3:sMv 1 7 (P bx0 (some (il (dvF n (l.length + 1 - n) 0 l []).1,om)) (some (.int (n:Int),om)) s3 s4' s5 s6' (some (il (dvL n (l.length + 1 - n) l),om)) s8')=.nx (P bx0 (some (il (dvL n (l.length + 1 - n) l),om)) (some (.int (n:Int),om)) s3 s4' s5 s6' none s8'):=rfl;obtain ⟨a2,a4,a6,a7,a8,e2⟩:=qh8 (bx0:=bx0) ns _ r (some (.int (n:Int),om)) s3 s4' s5 s6' none s8' h;refine ⟨a2,a4,a6,a7,a8,?_⟩;rw [jb7];exact (zkq (body:=DD) (ρ1:=P bx0 (some (il l,om)) (some (.int (n:Int),om)) s3 s4 s5 s6 s7 s8) rfl ((zqi u1).trans ((zqi u2).trans u3))).trans e2
  ·cases h
def sums (a b c:Nat):List Nat:=(jb0 a).flatMap λ i=>(jb0 b).flatMap λ j=>(jb0 c).map λ k=>i + j + k + 1
theorem qdh {a b c:Nat}{h:List Int} (n27:∃ d,F27 [bx a b c]=.ok (.lst ((sums a b c).map natP),d,.non)) (e:(mulA (sums a b c) [1]).bind (divA (sums a b c))=some h):F29 [bx a b c]=.ok (il h,om,.non):=by
 obtain ⟨d,n27⟩:=n27;obtain ⟨r,e1,e2⟩:=ji8.mp e;have hF:F29=mkFn false 1 8 b29:=rfl;rw [hF];have v1:sSet false 1 (zqc zql (zqa (bC (.int 1)) (aNil))) [] (P (bx a b c) none none none none none none none none)=.nx (P (bx a b c) (some (il [1],om)) none none none none none none none):=rfl;have call:∀ s1 s2 s3 s4 s5 s6 s7 s8,zqf F27 (zqa (bVar 0) (aNil)) (P (bx a b c) s1 s2 s3 s4 s5 s6 s7 s8)=.ok (.lst ((sums a b c).map natP),d,P (bx a b c) s1 s2 s3 s4 s5 s6 s7 s8):=λ s1 s2 s3 s4 s5 s6 s7 s8=>zqk (xs:=[(bx a b c,0)]) rfl n27;have cool:∀ s1 s2 s3 s4 s5 s6 s7 s8,zqp d [0] (P (bx a b c) s1 s2 s3 s4 s5 s6 s7 s8)=P (bx a b c) s1 s2 s3 s4 s5 s6 s7 s8:=λ s1 s2 s3 s4 s5 s6 s7 s8=>by
  unfold zqp;split <;> rfl
 obtain ⟨s2,s3,s4,s5,s6,l1⟩:=qh7 (bx0:=bx a b c) (sums a b c) [1] r none none none none none none none e1;have v2:=zvq (vs:=[0]) (call _ none none none none none none none) (cool _ _ _ _ _ _ _ _) l1;obtain ⟨t2,t4,t6,t7,t8,l2⟩:=qh8 (bx0:=bx a b c) (sums a b c) r h s2 s3 s4 s5 s6 none none e2;have v3:=zvq (vs:=[0]) (call _ s2 s3 s4 s5 s6 none none) (cool _ _ _ _ _ _ _ _) l2;exact zww rfl ((zqi v1).trans ((zqi v2).trans ((zqi v3).trans rfl)))
def Wc (p:Nat):List Int->Nat->Int
 | [],_=>0
 | x::_,0=>if 0 < p then x else 0
 | x::xs,n + 1=>(if n + 1 < p then x else 0) + Wc p xs n
theorem zpr:∀ (m:Nat) (v:Int) (l:List Int) (n:Nat),n < l.length->(inc 0 m v l).getD n 0=l.getD n 0 + (if n < m then v else 0)
 | _,_,[],n,h=>by simp at h
 | 0,v,x::l,n,h=>by simp [inc]
 | m + 1,v,x::l,0,h=>by simp [inc]
 | m + 1,v,x::l,n + 1,h=>by
  simp only [inc,jd5];rw [zpr m v l n (by simpa using h)];congr 1;by_cases e:n < m
  ·rw [if_pos e,if_pos (by omega)]
  ·rw [if_neg e,if_neg (by omega)]
theorem qe8 (m:Nat):∀ (xs w:List Int),(cvL m xs w).length=w.length
 | [],w=>rfl
 | x::xs,w=>by
  rw [cvL];have hl:=zwg 0 m x w;cases e:inc 0 m x w with
  | nil=>rw [e] at hl;simpa using hl
  | cons y w'=>rw [e] at hl;simp only [jb2,qe8 m xs w'] at hl ⊢;exact hl
theorem qe9 (p:Nat):∀ (xs w:List Int) (n:Nat),n < w.length->(cvL p xs w).getD n 0=w.getD n 0 + Wc p xs n
 | [],w,n,h=>by simp [cvL,Wc]
 | x::xs,w,n,h=>by
  have hl:=zwg 0 p x w;have hg:=zpr p x w;rw [cvL];cases e:inc 0 p x w with
  | nil=>rw [e] at hl;simp at hl;rw [<- hl] at h;simp at h
  | cons y w'=>
   rw [e] at hl hg;cases n with
   | zero=>
    have:=hg 0 h
    simpa [Wc] using this
   | succ n=>
    have h1:=hg (n + 1) h;have h2:n < w'.length:=by rw [<- hl] at h;simpa using h
    simp only [jd5] at h1 ⊢;rw [qe9 p xs w' n h2,h1,Wc];omega
theorem qfq (p:Nat) (hp:1<=p):∀ xs:List Int,Wc p xs 0=xs.getD 0 0
 | []=>rfl
 | x::xs=>by simp [Wc];omega
theorem qfr (p:Nat) (hp:1<=p):∀ (xs:List Int) (n:Nat),Wc p xs (n + 1)=Wc p xs n + xs.getD (n + 1) 0 - (if p<=n + 1 then xs.getD (n + 1 - p) 0 else 0)
 | [],n=>by simp [Wc]
 | x::xs,0=>by
  rw [Wc,Wc,qfq p hp,jd5];by_cases e:p=1
  ·subst e;simp;omega
  ·rw [if_pos (by omega),if_pos (by omega),if_neg (by omega)];omega
 | x::xs,n + 1=>by
  have ih:=qfr p hp xs n;rw [Wc,ih,Wc,jd5];by_cases e1:p<=n + 1
  ·rw [if_pos e1,if_neg (by omega),if_neg (by omega),if_pos (by omega),show n + 1 + 1 - p=(n + 1 - p) + 1 by omega,jd5];omega
  ·by_cases e2:p=n + 2
   ·subst e2;rw [if_neg (by omega),if_neg (by omega),if_pos (by omega),if_pos (by omega),jr0,jk8];omega
   ·rw [if_neg e1,if_pos (by omega),if_pos (by omega),if_neg (by omega)];omega
theorem qcp (ns:List Int) (p:Nat) (hp:1<=p):∀ n,tRun ns p n=((match n with | 0=>0 | k + 1=>Wc p ns k),(jb0 n).map (Wc p ns))
 | 0=>rfl
 | n + 1=>by
  rw [zyy,qcp ns p hp n];have key:(let l1:=if n < ns.length then (match n with | 0=>(0:Int) | k + 1=>Wc p ns k) + ns.getD n 0 else (match n with | 0=>(0:Int) | k + 1=>Wc p ns k);if p<=n then l1 - ns.getD (n - p) 0 else l1)=Wc p ns n:=by
   have e0:(if n < ns.length then (match n with | 0=>(0:Int) | k + 1=>Wc p ns k) + ns.getD n 0 else (match n with | 0=>(0:Int) | k + 1=>Wc p ns k))=(match n with | 0=>(0:Int) | k + 1=>Wc p ns k) + ns.getD n 0:=by
    split
    ·rfl
    ·have:ns.getD n 0=0:=by rw [ja6,jf7 (by omega)];rfl
     rw [this];omega
   dsimp only;rw [e0];cases n with
   | zero=>rw [if_neg (by omega),qfq p hp];simp
   | succ k=>
    rw [qfr p hp];dsimp only;split <;> omega
  show ((_:Int),_++[_])=_;rw [jg8,je4];exact Prod.ext key (congrArg (λ z=>(jb0 n).map (Wc p ns)++[z]) key)
theorem qa2 (f:Nat->Int) {n k:Nat} (h:k < n):((jb0 n).map f).getD k 0=f k:=by
 rw [ja6,jc7,jk4 h];rfl
theorem qfx (ns:List Int) (p:Nat) (hp:1<=p):zmq ns p=cvL p ns (ja2 (ns.length + p - 1) 0):=by
 unfold zmq;rw [qcp ns p hp];refine zpo (b:=ns.length + p - 1) (by rw [qe8,jc5]) (by rw [ja3,je6]) λ i hi=>?_;rw [qa2 _ hi,qe9 p ns _ i (by rw [jc5];exact hi),ja6,jc8,if_pos hi];show _=0 + _;omega
def RecD (p:Nat) (l D:List Int) (m:Nat):Prop:=D.length=m/\∀ n,n < m->D.getD n 0=l.getD n 0 - (if n=0 then 0 else l.getD (n - 1) 0) + (if p<=n then D.getD (n - p) 0 else 0)
theorem RecD.uniq {p:Nat} (hp:1<=p) {l D E:List Int}{m:Nat} (h1:RecD p l D m) (h2:RecD p l E m):D=E:=by
 refine zpo h2.1 h1.1 λ i hi=>?_;induction i using Nat.strongRecOn with
 | ind i ih=>
  rw [h1.2 i hi,h2.2 i hi];congr 1;split
  ·exact ih (i - p) (by omega) (by omega)
  ·rfl
theorem qex {p:Nat} (hp:1<=p):∀ (m:Nat) (l:List Int),m<=l.length->RecD p l (dvL p m l) m
 | 0,l,_=>by
  refine ⟨by cases l <;> rfl,λ n h=>absurd h (by omega)⟩
 | m + 1,[],h=>by simp at h
 | m + 1,x::l,h=>by
  have hm:m<=l.length:=by simpa using h
  obtain ⟨h1,h2⟩:=qex hp m (inc 0 (p - 1) (-x) l) (by rw [zwg];exact hm);rw [dvL];refine ⟨by rw [jb2,h1],λ n hn=>?_⟩;cases n with
  | zero=>simp;omega
  | succ n=>
   have hn':n < m:=by omega
   have hD:=h2 n hn';have g0:=zpr (p - 1) (-x) l n (by omega);rw [jd5,jd5,if_neg (show ¬ n + 1=0 by omega),jf4,hD,g0];cases n with
   | zero=>
    rw [if_pos rfl,if_neg (show ¬ p<=0 by omega),jk8];by_cases e:p=1
    ·subst e;rw [if_neg (show ¬ 0 < 1 - 1 by omega),if_pos (show 1<=0 + 1 by omega)];show _=l.getD 0 0 - x + x;omega
    ·rw [if_pos (show 0 < p - 1 by omega),if_neg (show ¬ p<=0 + 1 by omega)];omega
   | succ n=>
    have g1:=zpr (p - 1) (-x) l n (by omega);rw [if_neg (show ¬ n + 1=0 by omega),jf4,g1,jd5];by_cases e1:p<=n + 1
    ·rw [if_pos e1,if_neg (show ¬ n + 1 < p - 1 by omega),if_neg (show ¬ n < p - 1 by omega),if_pos (show p<=n + 1 + 1 by omega),show n + 1 + 1 - p=(n + 1 - p) + 1 by omega,jd5];omega
    ·by_cases e2:p=n + 2
     ·have a1:¬ n + 1 < p - 1:=by omega
      have a2:n < p - 1:=by omega
      have a3:p<=n + 1 + 1:=by omega
      have a4:n + 1 + 1 - p=0:=by omega
      rw [if_neg e1,if_neg a1,if_pos a2,if_pos a3,a4,jk8];omega
     ·rw [if_neg e1,if_pos (show n + 1 < p - 1 by omega),if_pos (show n < p - 1 by omega),if_neg (show ¬ p<=n + 1 + 1 by omega)];omega
theorem qav (ns:List Int) (p:Nat) (hp:1<=p):∀ n,(oRun ns p n).1=(if n=0 then 0 else ns.getD (n - 1) 0)/\RecD p ns (oRun ns p n).2 n
 | 0=>⟨rfl,rfl,λ n h=>absurd h (by omega)⟩
 | n + 1=>by
  obtain ⟨h1,h2,h3⟩:=qav ns p hp n;rw [zjj];let st:=oRun ns p n;let l1:=if p<=n then st.1 - st.2.getD (n - p) 0 else st.1
  have e1:(qgn ns p st n).1=l1 + (ns.getD n 0 - l1):=rfl;have e2:(qgn ns p st n).2=st.2++[ns.getD n 0 - l1]:=rfl;refine ⟨by rw [e1,if_neg (by omega),jf4];omega,by rw [e2,jb1,h2];rfl,λ k hk=>?_⟩;have low:∀ j,j < n->(st.2++[ns.getD n 0 - l1]).getD j 0=st.2.getD j 0:=λ j hj=>by rw [zgl (n:=n) h2,if_neg (by omega)]
  rw [e2];by_cases ek:k=n
  ·subst ek;rw [zgl (n:=k) h2,if_pos rfl];by_cases ep:p<=k
   ·rw [if_pos ep,low _ (by omega)];show ns.getD k 0 - (if p<=k then st.1 - st.2.getD (k - p) 0 else st.1)=_;rw [if_pos ep,h1];omega
   ·rw [if_neg ep];show ns.getD k 0 - (if p<=k then st.1 - st.2.getD (k - p) 0 else st.1)=_;rw [if_neg ep,h1];omega
  ·rw [low k (by omega),h3 k (by omega)];congr 1;split
   ·rw [low _ (by omega)]
   ·rfl
theorem qka (ns:List Int) (p:Nat) (hp:1<=p) (hl:p<=ns.length):qdr ns p=dvL p (ns.length + 1 - p) ns:=by
 unfold qdr;rw [show ns.length + 1 - p=ns.length - p + 1 by omega];exact RecD.uniq hp (qav ns p hp _).2 (qex hp _ ns (by omega))
theorem zmr:∀ (ns:List Nat) (l r:List Int),(∀ n∈ns,n<=99)->mulA ns l=some r->zyx (ns.map (·+ 1)) l=some r
 | [],l,r,_,h=>h
 | n::ns,l,r,hn,h=>by
  rw [mulA] at h;split at h
  ·rename_i hl;rw [qb6] at h;have h9:=hn n ja1;rw [jb7,zyx,if_pos ⟨by omega,by omega,by omega⟩,qfx l (n + 1) (by omega),show l.length + (n + 1) - 1=l.length + n by omega];exact zmr ns _ r (λ m hm=>hn m (ja0 _ hm)) h
  ·cases h
theorem qau:∀ (ns:List Nat) (l r:List Int),divA ns l=some r->zgw (ns.map (·+ 1)) l=some r
 | [],l,r,h=>h
 | n::ns,l,r,h=>by
  rw [divA] at h;split at h
  ·rename_i hl;rw [qb6] at h;rw [jb7,zgw,jf4,if_pos ⟨hl.1,hl.2.1,by omega⟩,qka l n hl.1 hl.2.1];exact qau ns _ r h
  ·cases h
theorem qdy (a b c:Nat):nums a b c=(sums a b c).map (·+ 1):=by
 unfold nums sums;rw [jm1];congr 1;funext i;rw [jm1];congr 1;funext j;rw [jd8];rfl
theorem qlg {a b c:Nat}{h:List Int} (h1:∀ n∈sums a b c,n<=99) (e:(mulA (sums a b c) [1]).bind (divA (sums a b c))=some h):(zyx (nums a b c) [1]).bind (zgw (nums a b c))=some h:=by
 obtain ⟨r,e1,e2⟩:=ji8.mp e;rw [qdy,zmr _ _ _ h1 e1];exact qau _ _ _ e2
def fLN {α:Type}:List Nat->(List Nat->α)->α
 | [],f=>f []
 | x::l,f=>fN x λ y=>fLN l λ l'=>f (y::l')
theorem qbc {α:Type}:∀ (l:List Nat) (f:List Nat->α),fLN l f=f l
 | [],f=>rfl
 | x::l,f=>by rw [fLN,qk3,qbc l]
def fT {α:Type}:List (List Nat×List Nat)->(List (List Nat×List Nat)->α)->α
 | [],f=>f []
 | p::l,f=>fLN p.2 λ y=>fT l λ l'=>f ((p.1,y)::l')
theorem qop {α:Type}:∀ (l:List (List Nat×List Nat)) (f:List (List Nat×List Nat)->α),fT l f=f l
 | [],f=>rfl
 | p::l,f=>by rw [fT,qbc,qop l]
def allA (w:List Nat->Nat) (chk:Nat->List Nat->Bool):Nat->Nat->List (List Nat×List Nat)->Bool
 | 0,_,_=>true
 | n + 1,k,t=>fT (qmg w t) λ t'=>fLN (allM t') (chk (k + 1)) && allA w chk n (k + 1) t'
theorem zhw {rows:List (List Nat)}{w:List Nat->Nat}{chk:Nat->List Nat->Bool}:∀ (n k:Nat),allA w chk n k (tabM rows w k)=true->∀ i,k < i->i<=k + n->chk i (allM (tabM rows w i))=true
 | 0,k,_,i,h1,h2=>by omega
 | n + 1,k,h,i,h1,h2=>by
  rw [allA,qop,ja4,qbc] at h;by_cases e:i=k + 1
  ·subst e;exact h.1
  ·exact zhw n (k + 1) h.2 i (by omega) (by omega)
def qc6 {α:Type}:List (List Nat)->(List (List Nat)->α)->α
 | [],f=>f []
 | r::l,f=>fLN r λ r'=>qc6 l λ l'=>f (r'::l')
theorem zpi {α:Type}:∀ (l:List (List Nat)) (f:List (List Nat)->α),qc6 l f=f l
 | [],f=>rfl
 | r::l,f=>by rw [qc6,qbc,zpi l]
def cntB (b c A:Nat):Bool:=qc6 (zwr c b) λ rows=>allA (λ _=>0) (λ a l=>l == [many a b c]) A 0 (qkn rows)
theorem qow {b c A:Nat} (h:cntB b c A=true) {a:Nat} (ha:1<=a/\a<=A):allM (tabM (zwr c b) (λ _=>0) a)=[many a b c]:=by
 unfold cntB at h;rw [zpi] at h;exact eq_of_beq (zhw (rows:=zwr c b) A 0 h a (by omega) (by omega))
def isW (r:Rz (PV×Nat×PV)) (y:PV):Bool:=match r with
 | .ok (x,_,.non)=>qc4 5 x y
 | _=>false
theorem qib {r:Rz (PV×Nat×PV)}{y:PV} (h:isW r y=true):∃ d,r=.ok (y,d,.non):=by
 unfold isW at h;split at h
 ·exact ⟨_,by rw [zph 5 _ _ h]⟩
 ·cases h
def eqO (o:Option (List Int)) (l:List Int):Bool:=match o with
 | some h=>h == l
 | none=>false
theorem qoq {o:Option (List Int)}{l:List Int} (h:eqO o l=true):o=some l:=by
 unfold eqO at h;split at h
 ·rw [eq_of_beq h]
 ·cases h
def chkS (b c a:Nat) (l:List Nat):Bool:=eqO ((mulA (sums a b c) [1]).bind (divA (sums a b c))) (up l) && (isW (F17 [bx a b c]) (.lst ((nums a b c).map natP)) && (isW (F27 [bx a b c]) (.lst ((sums a b c).map natP)) && ((sums a b c).all (λ n=>jk5 n 99) && (l == l.reverse && (jo8 l.sum (many a b c) && jo8 l.length (a * b * c + 1))))))
def smB (b c A:Nat):Bool:=qc6 (zwr c b) λ rows=>allA jq2 (chkS b c) A 0 (qkn rows)
structure Sml (a b c:Nat) (l:List Nat):Prop where
 tab:allM (tabM (zwr c b) jq2 a)=l
 pw:(mulA (sums a b c) [1]).bind (divA (sums a b c))=some (up l)
 n17:∃ d,F17 [bx a b c]=.ok (.lst ((nums a b c).map natP),d,.non)
 n27:∃ d,F27 [bx a b c]=.ok (.lst ((sums a b c).map natP),d,.non)
 s99:∀ n∈sums a b c,n<=99
 rev:l=l.reverse
 sm:l.sum=many a b c
 len:l.length=a * b * c + 1
theorem qc0 {b c A:Nat} (h:smB b c A=true) {a:Nat} (ha:1<=a/\a<=A):∃ l,Sml a b c l:=by
 unfold smB at h;rw [zpi] at h
 have:=zhw (rows:=zwr c b) A 0 h a (by omega) (by omega)
 unfold chkS at this;simp only [ja4] at this;obtain ⟨h1,h2,h3,h4,h5,h6,h7⟩:=this;exact ⟨_,rfl,qoq h1,qib h2,qib h3,λ n hn=>jj6 (jc1.mp h4 n hn),eq_of_beq h5,jj5 h6,jj5 h7⟩
def ndB:List Int->Bool
 | []=>true
 | x::l=>l.all (λ y=>!(x == y)) && ndB l
theorem qn0:∀ {l:List Int},ndB l=true->l.Pairwise (·≠·)
 | [],_=>List.Pairwise.nil
 | x::l,h=>by
  rw [ndB,ja4] at h;refine List.Pairwise.cons (λ y hy=>?_) (qn0 h.2)
  have:=jc1.mp h.1 y hy
  simpa using this
def qpm (r:List Nat):Int:=zbc (r.map λ (n:Nat)=>Sum.inl (n:Int))
def dkB (b c:Nat):Bool:=fL ((zwr c b).map qpm) ndB
theorem qew {α:Type}{f:α->Int}:∀ {l:List α}{x:Int},(l.map f).Pairwise (·≠·)->(l.filter λ y=>f y == x).length<=1
 | [],_,_=>by simp
 | y::l,x,h=>by
  rw [jb7,jo1] at h;rw [jh1];split
  ·rename_i e
   have:l.filter (λ z=>f z == x)=[]:=by
    rw [jj0];intro z hz e2;exact h.1 _ (ji4 hz) ((eq_of_beq e).trans (eq_of_beq e2).symm)
   rw [this];simp
  ·exact qew h.2
theorem dk_of {b c:Nat} (h:dkB b c=true):dkOk ((zqu b c).map keyR)=true:=by
 unfold dkB at h;rw [qb6] at h;have hp:=qn0 h;have ek:(zqu b c).map keyR=(zwr c b).map λ r=>r.map λ (n:Nat)=>(Sum.inl (n:Int):Key):=by
  rw [<- zkk,jd8];apply jg9;intro r _;show (up r).map _=_;unfold up;rw [jd8];rfl
 unfold dkOk;rw [ja4,jc1,jc1];refine ⟨λ k hk=>?_,λ k hk=>?_⟩
 ·rw [ek] at hk;obtain ⟨r,_,rfl⟩:=jd4.mp hk;rw [jc1];intro x hx;obtain ⟨n,_,rfl⟩:=jd4.mp hx;rfl
 ·rw [decide_eq_true_iff];refine qew (f:=zbc) ?_;rw [ek,jd8];exact hp
theorem qjm {n:Nat}{c:Nat}:(zqu n c).length<=(c + 1) ^ n:=qak (m:=c + 1) n λ j _=>by omega
theorem qox {a b c:Nat} (ha:1<=a/\a<=6) (hb:1<=b/\b<=6) (hc:c<=6) (h:dkB b c=true):BoxT a b c:=by
 refine ⟨by omega,by omega,by omega,dk_of h,λ n hn=>?_⟩;have h1:(c + 1) ^ n<=7 ^ n:=Nat.pow_le_pow_left (by omega) n;have h2:7 ^ n<=7 ^ 6:=Nat.pow_le_pow_right (by omega) (by omega)
 have:=qjm (n:=n) (c:=c)
 omega
theorem qc5 {a b c:Nat} (B:BoxT a b c) (hc:1<=c) (h:allM (tabM (zwr c b) (λ _=>0) a)=[many a b c]) (hm:many a b c<=2 ^ 40):F12 [bx a b c]=.ok (.int (many a b c),om,.non):=by
 have e:zvu a b c (zxw a b 0) (zxw a b c) []=[(many a b c:Int)]:=by
  rw [qad (w:=λ _=>0) (λ i _ r _=>by rw [qfa];rfl),h];rfl
 have:=qca B hc (by
  rw [e];unfold zyf;rw [ja4,decide_eq_true_iff,jc1];refine ⟨by simp,λ x hx=>?_⟩;rw [jb4.mp hx,ja4,decide_eq_true_iff,decide_eq_true_iff]
  have:((many a b c:Nat):Int)<=((2 ^ 40:Nat):Int):=by exact_mod_cast hm
  constructor
  ·omega
  ·simpa using this)
 rw [e] at this;refine this.trans ?_;simp
theorem qfb (a b i:Nat):ctP (zxu a b) i=if i < a then jb0 b else []:=by
 unfold ctP;induction a with
 | zero=>rfl
 | succ a ih=>
  rw [zyb,List.filter_append,je4,ih];by_cases e:i=a
  ·subst e;rw [if_neg (by omega),if_pos (by omega),je2,jh0.mpr (λ z hz=>by
    obtain ⟨j,_,rfl⟩:=jd4.mp hz
    simp),jd8]
   show (jb0 b).map id=_;rw [List.map_id]
  ·have:((jb0 b).map λ j=>(a,j)).filter (λ z=>decide (z.1=i))=[]:=by
    rw [jj0];intro z hz;obtain ⟨j,_,rfl⟩:=jd4.mp hz;simp;omega
   rw [this,jh4,jh3];by_cases h:i < a
   ·rw [if_pos h,if_pos (by omega)]
   ·rw [if_neg h,if_neg (by omega)]
theorem qbv:∀ (r:List Int),(jb0 r.length).map (λ j=>r.getD j 0)=r:=λ r=>by
 refine zpo (b:=r.length) rfl (by rw [ja3,je6]) λ i hi=>?_;exact qa2 (λ j=>r.getD j 0) hi
theorem qcf:∀ r:List Nat,(up r).sum=((r.sum:Nat):Int)
 | []=>rfl
 | x::r=>by
  show (x:Int) + (up r).sum=_;rw [qcf r,jn9,jh7]
theorem qb9 {a b c:Nat} (B:BoxT a b c) (hc:1<=c) (hab:1 + a * (b * c)<=1000) {l:List Nat} (h:allM (tabM (zwr c b) jq2 a)=l):F19 [bx a b c]=.ok (il (up l),om,.non):=by
 have ha:=B.ha;have hb:=B.hb;have e:zvu a b c (zxw a b 0) (zxw a b c) (zxu a b)=up l:=by
  rw [qad (w:=jq2) (λ i hi r hr=>?_),h];have hrl:(up r).length=b:=(zxa.mp (by rw [<- zkk];exact ji4 hr):RowB b c (up r)).len;rw [qfb,if_pos hi];unfold cntR;rw [<- hrl,qbv,qcf,jc3]
 obtain ⟨d,hd,hp⟩:=qdj (a:=a) (b:=b) (c:=c) (by omega) (by omega);have hF:F19=mkFn false 1 0 b19:=rfl;rw [hF];have mb:F2 [bx a b c]=.ok (.non,om,.non):=zvo (by unfold boxB;rw [decide_eq_true (by omega),decide_eq_true (by omega),decide_eq_true (by omega)];rfl);have v1:zkj (zqf F2 (zqa (bVar 0) (aNil))) [some (bx a b c,0)]=.nx [some (bx a b c,0)]:=zho (zqk (xs:=[(bx a b c,0)]) rfl mb);have t:=zya B (ps:=zxu a b) (λ z hz=>(zgs.mp hz).2) (m:=b) (λ i=>by rw [qfb];split <;> simp) hab (by
  rw [zjf]
  have:a * b * 1<=a * b * c:=Nat.mul_le_mul_left _ hc
  rw [Nat.mul_one,jq3] at this
  omega)
 rw [e] at t;exact zww rfl ((zqi v1).trans (zzu (zqk (xs:=[(bx a b c,0),(.lst ((zxu a b).map pr),d)]) (zxf rfl (zxj (zqk (xs:=[(bx a b c,0)]) rfl hp))) t)))
def okM (b c A:Nat):Bool:=dkB b c && cntB b c A
def zgv (B C c0:Nat) (f:Nat->Nat->Bool):Bool:=(jb0 B).all λ b=>(jb0 C).all λ c=>f (b + 1) (c + c0)
theorem zkp {B C c0:Nat}{f:Nat->Nat->Bool} (h:zgv B C c0 f=true) {b c:Nat} (hb:1<=b/\b<=B) (hc:c0<=c/\c < c0 + C):f b c=true:=by
 have h1:=jc1.mp (jc1.mp h (b - 1) (jd0.mpr (by omega))) (c - c0) (jd0.mpr (by omega));rwa [show b - 1 + 1=b by omega,show c - c0 + c0=c by omega] at h1
theorem m1:zgv 6 2 1 (λ b c=>okM b c 6)=true:=by kernel_rfl
theorem m2:zgv 5 2 3 (λ b c=>okM b c 3)=true:=by kernel_rfl
theorem m3:zgv 2 2 5 (λ b c=>okM b c 3)=true:=by kernel_rfl
theorem s1:zgv 6 1 1 (λ b c=>smB b c 4)=true:=by kernel_rfl
theorem s2:zgv 4 2 2 (λ b c=>smB b c 3)=true:=by kernel_rfl
theorem s3:zgv 2 3 4 (λ b c=>smB b c 3)=true:=by kernel_rfl
theorem boxN (l:Int) {r s t:Int} (hr:1<=r/\r<=6) (hs:1<=s/\s<=6) (ht:1<=t/\t<=6):∃ x y z:Nat,(1<=x/\(x:Int)<=r)/\(1<=y/\(y:Int)<=s)/\(1<=z/\(z:Int)<=t)/\F25 [.int l,.int r,.int s,.int t]=.ok (bx x y z,om,.non):=by
 have hF:F25=mkFn false 4 0 b25:=rfl;rw [hF];let R:Rho:=[some (.int l,om),some (.int r,om),some (.int s,om),some (.int t,om)]
 have q1:=jm8 l (show r≠0 by omega);have q2:=jl1 l (show 0 < r by omega);have q3:=jm8 (l / r) (show s≠0 by omega);have q4:=jl1 (l / r) (show 0 < s by omega);have q5:=jm8 (l / (r * s)) (show t≠0 by omega);have q6:=jl1 (l / (r * s)) (show 0 < t by omega);have rs0:0 < r * s:=Int.mul_pos (by omega) (by omega);have rs1:r * s<=6 * 6:=Int.mul_le_mul hr.2 hs.2 (by omega) (by omega);obtain ⟨x,hx⟩:=qd0 (i:=1 + l % r) (by omega);obtain ⟨y,hy⟩:=qd0 (i:=1 + l / r % s) (by omega);obtain ⟨z,hz⟩:=qd0 (i:=1 + l / (r * s) % t) (by omega);refine ⟨x,y,z,by omega,by omega,by omega,?_⟩;have e1:bBin zqh (bC (.int 1)) (bBin zws (bVar 0) (bVar 1)) R=.ok (.int (1 + l % r),om,R):=zwq (d:=om) rfl (zyc (i:=l) (d:=om) (e:=om) rfl rfl (by omega));have e2:bBin zqh (bC (.int 1)) (bBin zws (bBin zqq (bVar 0) (bVar 1)) (bVar 2)) R=.ok (.int (1 + l / r % s),om,R):=zwq (d:=om) rfl (zyc (zfq (i:=l) (d:=om) (e:=om) rfl rfl (by omega) (by omega)) (e:=om) rfl (by omega));have e3:bBin zqh (bC (.int 1)) (bBin zws (bBin zqq (bVar 0) (bBin zqs (bVar 1) (bVar 2))) (bVar 3)) R=.ok (.int (1 + l / (r * s) % t),om,R):=zwq (d:=om) rfl (zyc (zfq (i:=l) (d:=om) (e:=om) rfl (zzx (i:=r) (j:=s) (d:=om) (e:=om) rfl rfl (.inl (by omega))) (by omega) (by omega)) (e:=om) rfl (by omega));rw [hx] at e1;rw [hy] at e2;rw [hz] at e3;exact zww rfl (zzu (zwh (zxf e1 (zxf e2 (zxj e3))) rfl))
theorem turned {a b c:Nat} (ha:1<=a/\a<=6) (hb:1<=b/\b<=6) (hc:1<=c/\c<=6) {w:Int} (h:0<=w/\w < 6):∃ (x y z:Nat) (d:Nat),(1<=x/\x<=6)/\(1<=y/\y<=6)/\(1<=z/\z<=6)/\many x y z=many a b c/\F26 [bx a b c,.int w]=.ok (bx x y z,d,.non):=by
 have e:w=0\/w=1\/w=2\/w=3\/w=4\/w=5:=by omega
 have t1:=turn ha hb hc;have t2:=turn ha hc hb;have t3:=turn hb ha hc;have t4:=turn hc ha hb;rcases e with rfl | rfl | rfl | rfl | rfl | rfl
 ·exact ⟨a,b,c,0,ha,hb,hc,rfl,rfl⟩
 ·exact ⟨a,c,b,0,ha,hc,hb,t1.1.symm,rfl⟩
 ·exact ⟨b,a,c,0,hb,ha,hc,t1.2.1.symm,rfl⟩
 ·exact ⟨b,c,a,0,hb,hc,ha,by rw [<- t3.1,<- t1.2.1],rfl⟩
 ·exact ⟨c,a,b,0,hc,ha,hb,by rw [<- t2.2.1,<- t1.1],rfl⟩
 ·exact ⟨c,b,a,0,hc,hb,ha,by rw [<- t4.1,<- t2.2.1,<- t1.1],rfl⟩
def cndB (a b c:Nat):Bool:=(jk5 b 5 && (jk5 c 4 && jk5 a 3)) || (jk5 c 2 || (jk5 b 2 && jk5 a 3))
def mleB:Bool:=(jb0 6).all λ a=>(jb0 6).all λ b=>(jb0 6).all λ c=>!cndB (a + 1) (b + 1) (c + 1) || jk5 (many (a + 1) (b + 1) (c + 1)) (2 ^ 40)
theorem qd2:mleB=true:=by kernel_rfl
theorem qd4 {a b c:Nat} (ha:1<=a/\a<=6) (hb:1<=b/\b<=6) (hc:1<=c/\c<=6) (h:(b<=5/\c<=4/\a<=3)\/c<=2\/(b<=2/\a<=3)):many a b c<=2 ^ 40:=by
 have q:=qd2;unfold mleB at q;have q:=jc1.mp q (a - 1) (jd0.mpr (by omega));have q:=jc1.mp q (b - 1) (jd0.mpr (by omega));have q:=jc1.mp q (c - 1) (jd0.mpr (by omega));rw [show a - 1 + 1=a by omega,show b - 1 + 1=b by omega,show c - 1 + 1=c by omega] at q;have hc:cndB a b c=true:=by
  unfold cndB;simp only [je3,ja4,jr6];omega
 rw [hc] at q;exact jj6 q
theorem qh9:∀ {l:List Nat}{n:Nat},n∈l->n<=l.sum
 | [],_,h=>by cases h
 | x::l,n,h=>by
  rw [jn9];rcases jb6.mp h with rfl | h
  ·omega
  ·have:=qh9 h
   omega
theorem qfm {a b c:Nat} (ha:1<=a/\a<=6) (hb:1<=b/\b<=6) (hc:1<=c/\c<=6) (h:(b<=5/\c<=4/\a<=3)\/c<=2\/(b<=2/\a<=3)):BoxT a b c/\F12 [bx a b c]=.ok (.int (many a b c),om,.non):=by
 have go:∀ A,a<=A->okM b c A=true->BoxT a b c/\F12 [bx a b c]=.ok (.int (many a b c),om,.non):=λ A hA q=>by
  unfold okM at q;rw [ja4] at q;have B:=qox ha hb hc.2 q.1;exact ⟨B,qc5 B hc.1 (qow q.2 ⟨ha.1,hA⟩) (qd4 ha hb hc h)⟩
 by_cases c2:c<=2
 ·exact go 6 ha.2 (zkp m1 hb (by omega))
 ·by_cases c4:c<=4
  ·exact go 3 (by omega) (zkp m2 (by omega) (by omega))
  ·exact go 3 (by omega) (zkp m3 (by omega) (by omega))
theorem qmh {a b c:Nat} (ha:1<=a) (hb:1<=b) (hc:1<=c) (h:(a<=3/\b<=4/\c<=3)\/(a<=4/\b<=6/\c<=1)\/(a<=3/\b<=2/\c<=6)):∃ l,Sml a b c l:=by
 by_cases c1:c=1
 ·exact qc0 (zkp s1 (by omega) (by omega)) (by omega)
 ·by_cases c3:c<=3
  ·exact qc0 (zkp s2 (by omega) (by omega)) (by omega)
  ·exact qc0 (zkp s3 (by omega) (by omega)) (by omega)
theorem law_true:∀ ns:List Int,ns.length<=63->∃ d z,F30 [.scr ns]=.ok (.bl true,d,z):=by
 intro ns hns;have z:=sz;have hF:F30=mkFn false 1 8 b30:=rfl;rw [hF];let R (s1 s2 s3 s4 s5 s6 s7 s8:QQ.Slot):Rho:=[some (.scr ns,om),s1,s2,s3,s4,s5,s6,s7,s8]
 have mx:∀ k:Nat,k<=1000->∃ l:Int,∀ s1 s2 s3 s4 s5 s6 s7 s8,zqf F24 (zqa (zqf F23 (zqa (bVar 0) (zqa (bC (.int (k:Int))) (aNil)))) (zqa (bC (.int (k:Int))) (aNil))) (R s1 s2 s3 s4 s5 s6 s7 s8)=.ok (.int l,om,R s1 s2 s3 s4 s5 s6 s7 s8):=λ k hk=>by
  obtain ⟨l,el⟩:=qgo (ns.getD k 0) k hk;exact ⟨l,λ s1 s2 s3 s4 s5 s6 s7 s8=>zqk (xs:=[(.int (ns.getD k 0),om),(.int (k:Int),om)]) (zxf (zqk (xs:=[(.scr ns,om),(.int (k:Int),om)]) rfl (qlf ns k)) (zxj rfl)) el⟩
 obtain ⟨l,el⟩:=mx 0 (by omega);obtain ⟨l1,el1⟩:=mx 1 (by omega);obtain ⟨l2,el2⟩:=mx 2 (by omega);obtain ⟨a,b,c,ha,hb,hc,eb⟩:=boxN l (r:=6) (s:=6) (t:=6) (by omega) (by omega) (by omega);have ha:1<=a/\a<=6:=by omega
 have hb:1<=b/\b<=6:=by omega
 have hc:1<=c/\c<=6:=by omega
 obtain ⟨x,y,w,dt,hx,hy,hw,em,et⟩:=turned ha hb hc (w:=l / 216 % 6) (by omega);have f1:=zhl (fits a ha b hb c hc);have f2:=zhl (fits x hx y hy w hw);rw [em] at f2;let m:=many a b c;have v1:sSet false 1 (zqf F24 (zqa (zqf F23 (zqa (bVar 0) (zqa (bC (.int 0)) (aNil)))) (zqa (bC (.int 0)) (aNil)))) [0] (R none none none none none none none none)=.nx (R (some (.int l,om)) none none none none none none none):=setF (el _ _ _ _ _ _ _ _) (show 1 < 9 by decide) rfl;have v2:sSet false 2 (zqf F25 (zqa (bVar 1) (zqa (bC (.int 6)) (zqa (bC (.int 6)) (zqa (bC (.int 6)) (aNil)))))) [1] (R (some (.int l,om)) none none none none none none none)=.nx (R (some (.int l,om)) (some (bx a b c,om)) none none none none none none):=setF (zqk (xs:=[(.int l,om),(.int 6,om),(.int 6,om),(.int 6,om)]) rfl eb) (show 2 < 9 by decide) rfl;have v3:sSet false 3 (zqf F28 (zqa (bVar 2) (aNil))) [2] (R (some (.int l,om)) (some (bx a b c,om)) none none none none none none)=.nx (R (some (.int l,om)) (some (bx a b c,om)) (some (.int (m:Int),om)) none none none none none):=setF (zqk (xs:=[(bx a b c,0)]) rfl f1.2.2) (show 3 < 9 by decide) rfl;have body:∀ {p q r:Nat}{d1 d2:Nat},F16 [bx p q r]=.ok (.int (m:Int),om,.non)->F18 [bx p q r]=.ok (.int (m:Int),om,.non)->sIf (bT (bOrV (bBin (opEq true) (zqf F16 (zqa (bVar 4) (aNil))) (bVar 3)) (bBin (opEq true) (zqf F18 (zqa (bVar 4) (aNil))) (bVar 3)))) (sRet (bC (.bl false))) sNil (R (some (.int l,d1)) (some (bx a b c,d2)) (some (.int (m:Int),om)) (some (bx p q r,0)) none none none none)=.nx (R (some (.int l,d1)) (some (bx a b c,d2)) (some (.int (m:Int),om)) (some (bx p q r,0)) none none none none):=by
  intro p q r d1 d2 h1 h2;let W:Rho:=R (some (.int l,d1)) (some (bx a b c,d2)) (some (.int (m:Int),om)) (some (bx p q r,0)) none none none none;have e1:=zhm (neg:=true) (g:=bVar 3) (j:=(m:Int)) (e:=om) (zqk (fa:=zqa (bVar 4) aNil) (ρ:=W) (ρ1:=W) (xs:=[(bx p q r,0)]) rfl h1) rfl;have e2:=zhm (neg:=true) (g:=bVar 3) (j:=(m:Int)) (e:=om) (zqk (fa:=zqa (bVar 4) aNil) (ρ:=W) (ρ1:=W) (xs:=[(bx p q r,0)]) rfl h2) rfl;rw [decide_eq_true rfl] at e1 e2;exact (if_f (t_ok (qkb (a:=false) (b:=false) e1 (λ _=>e2) rfl))).trans rfl
 have v4:∃ d1 d2,zzg (zqc zql (zqa (bVar 2) (zqa (zqf F26 (zqa (bVar 2) (zqa (bBin zws (bBin zqq (bVar 1) (bC (.int 216))) (bC (.int 6))) (aNil)))) (aNil)))) [2,2,1] (asgN 4) (sIf (bT (bOrV (bBin (opEq true) (zqf F16 (zqa (bVar 4) (aNil))) (bVar 3)) (bBin (opEq true) (zqf F18 (zqa (bVar 4) (aNil))) (bVar 3)))) (sRet (bC (.bl false))) sNil) (R (some (.int l,om)) (some (bx a b c,om)) (some (.int (m:Int),om)) none none none none none)=.nx (R (some (.int l,d1)) (some (bx a b c,d2)) (some (.int (m:Int),om)) (some (bx x y w,0)) none none none none):=by
  let W:Rho:=R (some (.int l,om)) (some (bx a b c,om)) (some (.int (m:Int),om)) none none none none none;have q1:bBin zws (bBin zqq (bVar 1) (bC (.int 216))) (bC (.int 6)) W=.ok (.int (l / 216 % 6),om,W):=zyc (j:=6) (e:=om) (zfq (i:=l) (j:=216) (d:=om) (e:=om) rfl rfl (by decide) (by decide)) rfl (by decide);have q2:zqc zql (zqa (bVar 2) (zqa (zqf F26 (zqa (bVar 2) (zqa (bBin zws (bBin zqq (bVar 1) (bC (.int 216))) (bC (.int 6))) (aNil)))) (aNil))) W=.ok (.lst [bx a b c,bx x y w],1,W):=zwh (zxf (x:=bx a b c) (d:=0) rfl (zxj (zqk (xs:=[(bx a b c,0),(.int (l / 216 % 6),om)]) (zxf rfl (zxj q1)) et))) rfl;refine ⟨0,0,zvq (els:=[bx a b c,bx x y w]) (d:=1) (ρ2:=R (some (.int l,0)) (some (bx a b c,0)) (some (.int (m:Int),om)) none none none none none) q2 rfl ?_⟩;exact (zkq rfl (body f1.1 f1.2.1)).trans ((zkq rfl (body f2.1 f2.2.1)).trans rfl)
 obtain ⟨d1,d2,v4⟩:=v4;let W5 (s5 s6 s7 s8:QQ.Slot):Rho:=R (some (.int l,d1)) (some (bx a b c,d2)) (some (.int (m:Int),om)) (some (bx x y w,0)) s5 s6 s7 s8;have t5:bT (bBin (zxo λ i j=>decide (i < j)) (bVar 3) (bBin zqh (bC (.int 1)) (zqc qby (zqa (bVar 2) (aNil))))) (W5 none none none none)=.ok (false,W5 none none none none):=by
  have e1:zqc qby (zqa (bVar 2) (aNil)) (W5 none none none none)=.ok (.int (maxI (a:Int) [(b:Int),(c:Int)]),om,W5 none none none none):=zwh (xs:=[(bx a b c,0)]) rfl rfl;have e2:=t_ok (zjx (p:=λ i j=>decide (i < j)) (f:=bVar 3) (ρ:=W5 none none none none) (i:=(m:Int)) (d:=om) rfl (zwq (f:=bC (.int 1)) (i:=1) (d:=om) rfl e1));have hm:¬ (m:Int) < 1 + maxI (a:Int) [(b:Int),(c:Int)]:=by
   have mm:=zyo [(b:Int),(c:Int)] (a:Int);have t1:=turn ha hb hc;have t2:=turn ha hc hb;have t3:=turn hb ha hc;have t4:=turn hc ha hb;have k1:1 + a<=m:=t1.2.2;have k2:1 + b<=m:=by show _<=many a b c;rw [t1.2.1];exact t3.2.2
   have k3:1 + c<=m:=by show _<=many a b c;rw [t1.1,t2.2.1];exact t4.2.2
   simp only [jb6,je9,or_false] at mm;omega
  rw [decide_eq_false hm] at e2;exact e2
 obtain ⟨a1,b1,c1,ha1,hb1,hc1,eb1⟩:=boxN (l1 / 2) (r:=3) (s:=5) (t:=4) (by omega) (by omega) (by omega);obtain ⟨a2,b2,c2,ha2,hb2,hc2,eb2⟩:=boxN (l1 / 2) (r:=6) (s:=6) (t:=2) (by omega) (by omega) (by omega);have v6:sSet false 5 (zqf F24 (zqa (zqf F23 (zqa (bVar 0) (zqa (bC (.int 1)) (aNil)))) (zqa (bC (.int 1)) (aNil)))) [0] (W5 none none none none)=.nx (W5 (some (.int l1,om)) none none none):=setF (el1 _ _ _ _ _ _ _ _) (show 5 < 9 by decide) rfl;have v7:∃ (p q r d5:Nat),(1<=p/\p<=6)/\(1<=q/\q<=6)/\(1<=r/\r<=6)/\((q<=5/\r<=4/\p<=3)\/r<=2\/(q<=2/\p<=3))/\sSet false 6 (bBin zqd (zqc zql (zqa (zqf F25 (zqa (bBin zqq (bVar 5) (bC (.int 2))) (zqa (bC (.int 3)) (zqa (bC (.int 5)) (zqa (bC (.int 4)) (aNil)))))) (zqa (zqf F25 (zqa (bBin zqq (bVar 5) (bC (.int 2))) (zqa (bC (.int 6)) (zqa (bC (.int 6)) (zqa (bC (.int 2)) (aNil)))))) (aNil)))) (bBin zws (bVar 5) (bC (.int 2)))) [5,5,5] (W5 (some (.int l1,om)) none none none)=.nx (W5 (some (.int l1,d5)) (some (bx p q r,0)) none none):=by
  let W:Rho:=W5 (some (.int l1,om)) none none none;have qd:bBin zqq (bVar 5) (bC (.int 2)) W=.ok (.int (l1 / 2),om,W):=zfq (i:=l1) (j:=2) (d:=om) (e:=om) rfl rfl (by decide) (by decide);have k1:=zqk (F:=F25) (fa:=zqa (bBin zqq (bVar 5) (bC (.int 2))) (zqa (bC (.int 3)) (zqa (bC (.int 5)) (zqa (bC (.int 4)) (aNil))))) (ρ:=W) (xs:=[(.int (l1 / 2),om),(.int 3,om),(.int 5,om),(.int 4,om)]) (zxf qd rfl) eb1;have k2:=zqk (F:=F25) (fa:=zqa (bBin zqq (bVar 5) (bC (.int 2))) (zqa (bC (.int 6)) (zqa (bC (.int 6)) (zqa (bC (.int 2)) (aNil))))) (ρ:=W) (xs:=[(.int (l1 / 2),om),(.int 6,om),(.int 6,om),(.int 2,om)]) (zxf qd rfl) eb2;have kl:zqc zql (zqa (zqf F25 (zqa (bBin zqq (bVar 5) (bC (.int 2))) (zqa (bC (.int 3)) (zqa (bC (.int 5)) (zqa (bC (.int 4)) (aNil)))))) (zqa (zqf F25 (zqa (bBin zqq (bVar 5) (bC (.int 2))) (zqa (bC (.int 6)) (zqa (bC (.int 6)) (zqa (bC (.int 2)) (aNil)))))) (aNil))) W=.ok (.lst [bx a1 b1 c1,bx a2 b2 c2],om,W):=zwh (zxf k1 (zxj k2)) rfl;have km:bBin zws (bVar 5) (bC (.int 2)) W=.ok (.int (l1 % 2),om,W):=zyc (i:=l1) (j:=2) (d:=om) (e:=om) rfl rfl (by decide);have e01:l1 % 2=0\/l1 % 2=1:=by omega
  rcases e01 with e | e
  ·rw [e] at km;exact ⟨a1,b1,c1,0,by omega,by omega,by omega,.inl (by omega),setF (zxn kl km (z:=bx a1 b1 c1) (c:=0) rfl) (show 6 < 9 by decide) rfl⟩
  ·rw [e] at km;exact ⟨a2,b2,c2,0,by omega,by omega,by omega,.inr (.inl (by omega)),setF (zxn kl km (z:=bx a2 b2 c2) (c:=0) rfl) (show 6 < 9 by decide) rfl⟩
 obtain ⟨p,q,r,d5,hp,hq,hr,hpq,v7⟩:=v7;let W8 (s5 s7 s8:QQ.Slot):Rho:=W5 s5 (some (bx p q r,0)) s7 s8;have t8:bT (bBin (opEq true) (zqf F12 (zqa (bVar 6) (aNil))) (zqf F28 (zqa (bVar 6) (aNil)))) (W8 (some (.int l1,d5)) none none)=.ok (false,W8 (some (.int l1,d5)) none none):=by
  have e1:=(qfm hp hq hr hpq).2;have e2:=(zhl (fits p hp q hq r hr)).2.2;have e3:=zhm (neg:=true) (zqk (F:=F12) (fa:=zqa (bVar 6) aNil) (ρ:=W8 (some (.int l1,d5)) none none) (xs:=[(bx p q r,0)]) rfl e1) (zqk (F:=F28) (fa:=zqa (bVar 6) aNil) (xs:=[(bx p q r,0)]) rfl e2);rw [decide_eq_true rfl] at e3;exact t_ok e3
 obtain ⟨i1,j1,k1,hi1,hj1,hk1,ek1⟩:=boxN (l2 / 3) (r:=3) (s:=4) (t:=3) (by omega) (by omega) (by omega);obtain ⟨i2,j2,k2,hi2,hj2,hk2,ek2⟩:=boxN (l2 / 3) (r:=4) (s:=6) (t:=1) (by omega) (by omega) (by omega);obtain ⟨i3,j3,k3,hi3,hj3,hk3,ek3⟩:=boxN (l2 / 3) (r:=3) (s:=2) (t:=6) (by omega) (by omega) (by omega);have v9:sSet false 5 (zqf F24 (zqa (zqf F23 (zqa (bVar 0) (zqa (bC (.int 2)) (aNil)))) (zqa (bC (.int 2)) (aNil)))) [0] (W8 (some (.int l1,d5)) none none)=.nx (W8 (some (.int l2,om)) none none):=setF (el2 _ _ _ _ _ _ _ _) (show 5 < 9 by decide) rfl;have v10:∃ (i j k d5:Nat),1<=i/\1<=j/\1<=k/\((i<=3/\j<=4/\k<=3)\/(i<=4/\j<=6/\k<=1)\/(i<=3/\j<=2/\k<=6))/\sSet false 7 (bBin zqd (zqc zql (zqa (zqf F25 (zqa (bBin zqq (bVar 5) (bC (.int 3))) (zqa (bC (.int 3)) (zqa (bC (.int 4)) (zqa (bC (.int 3)) (aNil)))))) (zqa (zqf F25 (zqa (bBin zqq (bVar 5) (bC (.int 3))) (zqa (bC (.int 4)) (zqa (bC (.int 6)) (zqa (bC (.int 1)) (aNil)))))) (zqa (zqf F25 (zqa (bBin zqq (bVar 5) (bC (.int 3))) (zqa (bC (.int 3)) (zqa (bC (.int 2)) (zqa (bC (.int 6)) (aNil)))))) (aNil))))) (bBin zws (bVar 5) (bC (.int 3)))) [5,5,5,5] (W8 (some (.int l2,om)) none none)=.nx (W8 (some (.int l2,d5)) (some (bx i j k,0)) none):=by
  let W:Rho:=W8 (some (.int l2,om)) none none;have qd:bBin zqq (bVar 5) (bC (.int 3)) W=.ok (.int (l2 / 3),om,W):=zfq (i:=l2) (j:=3) (d:=om) (e:=om) rfl rfl (by decide) (by decide);have c1:=zqk (F:=F25) (fa:=zqa (bBin zqq (bVar 5) (bC (.int 3))) (zqa (bC (.int 3)) (zqa (bC (.int 4)) (zqa (bC (.int 3)) (aNil))))) (ρ:=W) (xs:=[(.int (l2 / 3),om),(.int 3,om),(.int 4,om),(.int 3,om)]) (zxf qd rfl) ek1;have c2:=zqk (F:=F25) (fa:=zqa (bBin zqq (bVar 5) (bC (.int 3))) (zqa (bC (.int 4)) (zqa (bC (.int 6)) (zqa (bC (.int 1)) (aNil))))) (ρ:=W) (xs:=[(.int (l2 / 3),om),(.int 4,om),(.int 6,om),(.int 1,om)]) (zxf qd rfl) ek2;have c3:=zqk (F:=F25) (fa:=zqa (bBin zqq (bVar 5) (bC (.int 3))) (zqa (bC (.int 3)) (zqa (bC (.int 2)) (zqa (bC (.int 6)) (aNil))))) (ρ:=W) (xs:=[(.int (l2 / 3),om),(.int 3,om),(.int 2,om),(.int 6,om)]) (zxf qd rfl) ek3;have kl:zqc zql (zqa (zqf F25 (zqa (bBin zqq (bVar 5) (bC (.int 3))) (zqa (bC (.int 3)) (zqa (bC (.int 4)) (zqa (bC (.int 3)) (aNil)))))) (zqa (zqf F25 (zqa (bBin zqq (bVar 5) (bC (.int 3))) (zqa (bC (.int 4)) (zqa (bC (.int 6)) (zqa (bC (.int 1)) (aNil)))))) (zqa (zqf F25 (zqa (bBin zqq (bVar 5) (bC (.int 3))) (zqa (bC (.int 3)) (zqa (bC (.int 2)) (zqa (bC (.int 6)) (aNil)))))) (aNil)))) W=.ok (.lst [bx i1 j1 k1,bx i2 j2 k2,bx i3 j3 k3],om,W):=zwh (zxf c1 (zxf c2 (zxj c3))) rfl;have km:bBin zws (bVar 5) (bC (.int 3)) W=.ok (.int (l2 % 3),om,W):=zyc (i:=l2) (j:=3) (d:=om) (e:=om) rfl rfl (by decide);have e012:l2 % 3=0\/l2 % 3=1\/l2 % 3=2:=by omega
  rcases e012 with e | e | e
  ·rw [e] at km;exact ⟨i1,j1,k1,0,by omega,by omega,by omega,.inl (by omega),setF (zxn kl km (z:=bx i1 j1 k1) (c:=0) rfl) (show 7 < 9 by decide) rfl⟩
  ·rw [e] at km;exact ⟨i2,j2,k2,0,by omega,by omega,by omega,.inr (.inl (by omega)),setF (zxn kl km (z:=bx i2 j2 k2) (c:=0) rfl) (show 7 < 9 by decide) rfl⟩
  ·rw [e] at km;exact ⟨i3,j3,k3,0,by omega,by omega,by omega,.inr (.inr (by omega)),setF (zxn kl km (z:=bx i3 j3 k3) (c:=0) rfl) (show 7 < 9 by decide) rfl⟩
 obtain ⟨i,j,k,d6,hi,hj,hk,hijk,v10⟩:=v10;obtain ⟨sl,S⟩:=qmh hi hj hk hijk;obtain ⟨B,eR⟩:=qfm (a:=i) (b:=j) (c:=k) (by omega) (by omega) (by omega) (by omega);have hab:1 + i * (j * k)<=1000:=by
  have e1:j * k<=6 * 6:=jn1 (by omega) (by omega);have e2:i * (j * k)<=6 * (6 * 6):=jn1 (by omega) e1;omega
 have e29:=qdh S.n27 S.pw;have e22:=qjx hi hj hk S.n17 (qlg S.s99 S.pw);have e19:=qb9 B hk hab S.tab;let due:=up sl;have v11:sSet false 8 (zqf F29 (zqa (bVar 7) (aNil))) [7] (W8 (some (.int l2,d6)) (some (bx i j k,0)) none)=.nx (W8 (some (.int l2,d6)) (some (bx i j k,0)) (some (il due,om))):=setF (zqk (xs:=[(bx i j k,0)]) rfl e29) (show 8 < 9 by decide) rfl;let W12:Rho:=W8 (some (.int l2,d6)) (some (bx i j k,0)) (some (il due,om));have t12:bT (bOrV (bBin (opEq true) (zqf F19 (zqa (bVar 7) (aNil))) (bVar 8)) (bOrV (bBin (opEq true) (zqf F22 (zqa (bVar 7) (aNil))) (bVar 8)) (bBin (opEq true) (bVar 8) (bUn opRv (bVar 8))))) W12=.ok (false,W12):=by
  have q1:=qk5 (neg:=true) (h:=bVar 8) (ys:=due) (e:=0) (zqk (F:=F19) (fa:=zqa (bVar 7) aNil) (ρ:=W12) (xs:=[(bx i j k,0)]) rfl e19) rfl;have q2:=qk5 (neg:=true) (h:=bVar 8) (ys:=due) (e:=0) (zqk (F:=F22) (fa:=zqa (bVar 7) aNil) (ρ:=W12) (xs:=[(bx i j k,0)]) rfl e22) rfl;have rv:bUn opRv (bVar 8) W12=.ok (il due,om,W12):=by
   refine qiu (x:=il due) (d:=0) rfl ?_;show some (PV.lst (due.map PV.int).reverse,QQ.d1 (due.map PV.int).reverse)=_;have er0:(up sl).reverse=up sl:=by
    have e1:(up sl).reverse=up sl.reverse:=by unfold up;rw [jp2]
    rw [e1];exact congrArg up S.rev.symm
   have er:((up sl).map PV.int).reverse=(up sl).map PV.int:=by rw [<- jp2,er0]
   rw [show (due.map PV.int).reverse=due.map PV.int from er,zfu];rfl
  have q3:=qk5 (neg:=true) (f:=bVar 8) (ρ:=W12) (xs:=due) (d:=0) rfl rv;rw [decide_eq_true rfl] at q1 q2 q3;exact t_ok (qkb (a:=false) (b:=false) q1 (λ _=>qkb (a:=false) (b:=false) q2 (λ _=>q3) rfl) rfl)
 have v13:zkz (bBin (opEq false) (zqc zvn (zqa (bVar 8) (aNil))) (zqf F12 (zqa (bVar 7) (aNil)))) (bBin (opEq false) (zqc zxv (zqa (bVar 8) (aNil))) (bBin zqh (bBin zqs (bBin zqs (bBin zqd (bVar 7) (bC (.int 0))) (bBin zqd (bVar 7) (bC (.int 1)))) (bBin zqd (bVar 7) (bC (.int 2)))) (bC (.int 1)))) W12=.ok (.bl true,om,W12):=by
  have hm:many i j k<=2 ^ 40:=qd4 (by omega) (by omega) (by omega) (by omega);have sok:zyf due=true:=by
   unfold zyf;rw [ja4,decide_eq_true_iff,jc1];refine ⟨?_,λ x hx=>?_⟩
   ·show (up sl).length<=_;rw [zmk,S.len,jq3]
    have:(1000:Nat)<=2 ^ 20:=by decide
    omega
   ·obtain ⟨n,hn,rfl⟩:=jd4.mp hx
    have:n<=sl.sum:=qh9 hn
    rw [S.sm] at this;have h4:(n:Int)<=((2 ^ 40:Nat):Int):=by exact_mod_cast jd1 this hm
    rw [ja4,decide_eq_true_iff,decide_eq_true_iff];exact ⟨by omega,by simpa using h4⟩
  have q1:=zhm (neg:=false) (qcv (fa:=zqa (bVar 8) aNil) (ρ:=W12) (xs:=due) (d:=0) rfl sok) (zqk (F:=F12) (fa:=zqa (bVar 7) aNil) (xs:=[(bx i j k,0)]) rfl eR);have es:due.sum=((many i j k:Nat):Int):=by show (up sl).sum=_;rw [qcf,S.sm]
  rw [es,decide_eq_true rfl] at q1;have q2:bBin zqh (bBin zqs (bBin zqs (bBin zqd (bVar 7) (bC (.int 0))) (bBin zqd (bVar 7) (bC (.int 1)))) (bBin zqd (bVar 7) (bC (.int 2)))) (bC (.int 1)) W12=.ok (.int ((i:Int) * j * k + 1),om,W12):=zwq (g:=bC (.int 1)) (j:=1) (e:=om) (zzx (j:=(k:Int)) (e:=om) (g:=bBin zqd (bVar 7) (bC (.int 2))) (zzx (f:=bBin zqd (bVar 7) (bC (.int 0))) (g:=bBin zqd (bVar 7) (bC (.int 1))) (ρ:=W12) (i:=(i:Int)) (j:=(j:Int)) (d:=om) (e:=om) rfl rfl (.inl (by omega))) rfl (.inr (by omega))) rfl;have q3:=zhm (neg:=false) (zyd (fa:=zqa (bVar 8) aNil) (ρ:=W12) (xs:=due) (d:=0) rfl) q2;have el:((due.length:Nat):Int)=(i:Int) * j * k + 1:=by
   show (((up sl).length:Nat):Int)=_;rw [zmk,S.len,jh7,jk7,jk7];rfl
  rw [el,decide_eq_true rfl] at q3;exact qo0 (a:=true) (b:=true) q1 (λ _=>q3) rfl
 exact ⟨_,_,zww rfl ((zqi v1).trans ((zqi v2).trans ((zqi v3).trans ((zqi v4).trans ((qbt t5).trans ((zqi v6).trans ((zqi v7).trans ((qbt t8).trans ((zqi v9).trans ((zqi v10).trans ((zqi v11).trans ((qbt t12).trans (zzu v13)))))))))))))⟩
section
variable {P:vb0}{w:vb4}{K:Frag}{mg:Str->Option va2}
theorem c0:FnScope S0.N ["thing"] (zqb t0):={}
theorem c1:FnScope S1.N ["thing"] (zqb t1):={}
theorem c2:FnScope S2.N ["box"] (zqb t2):={}
theorem c3:FnScope S3.N ["box"] (zqb t3):={}
theorem c4:FnScope S4.N ["columns","height"] (zqb t4):={}
theorem c5:FnScope S5.N ["tally","other"] (zqb t5):={}
theorem c6:FnScope S6.N ["table","columns"] (zqb t6):={}
theorem c7:FnScope S7.N ["row","low","high"] (zqb t7):={}
theorem c8:FnScope S8.N ["behind","low","high","counted"] (zqb t8):={}
theorem c9:FnScope S9.N ["box","low","high","places"] (zqb t9):={}
theorem c10:FnScope S10.N ["box","low","high","places"] (zqb t10):={}
theorem c11:FnScope S11.N ["box","places"] (zqb t11):={}
theorem c12:FnScope S12.N ["box"] (zqb t12):={}
theorem c13:FnScope S13.N ["downs","rights"] (zqb t13):={}
theorem c14:FnScope S14.N ["row","first","divisor"] (zqb t14):={}
theorem c15:FnScope S15.N ["table"] (zqb t15):={}
theorem c16:FnScope S16.N ["box"] (zqb t16):={}
theorem c17:FnScope S17.N ["box"] (zqb t17):={}
theorem c18:FnScope S18.N ["box"] (zqb t18):={}
theorem c19:FnScope S19.N ["box"] (zqb t19):={}
theorem c20:FnScope S20.N ["numbers","powers"] (zqb t20):={}
theorem c21:FnScope S21.N ["numbers","powers"] (zqb t21):={}
theorem c22:FnScope S22.N ["box"] (zqb t22):={}
theorem c23:FnScope S23.N ["script","k"] (zqb t23):={}
theorem c24:FnScope S24.N ["cell","k"] (zqb t24):={}
theorem c25:FnScope S25.N ["left","rows","columns","height"] (zqb t25):={}
theorem c26:FnScope S26.N ["box","way"] (zqb t26):={}
theorem c27:FnScope S27.N ["box"] (zqb t27):={}
theorem c28:FnScope S28.N ["box"] (zqb t28):={}
theorem c29:FnScope S29.N ["box"] (zqb t29):={}
theorem c30:FnScope S30.N ["script"] (zqb t30):={}
theorem all_ok {fa:Addr} (G:Given dfs [] K mg) (hm:mg "law" = some (.ref fa)):
  ∃ fd:vc5,(∀ (s:va4) (u:va2),BindsTo s fd ⟨[u],[]⟩ [("script",u)])/\∀ base:Heap,FnOk P w K mg base (CXr P w K) 7 fa fd ["script"] (spF K false 1 F30):=by
 have hb:=G.bn;have gx:=G.gx;obtain ⟨a0,d0,m0,f0⟩:=G.df 0 _ _ rfl;obtain ⟨a1,d1,m1,f1⟩:=G.df 1 _ _ rfl;obtain ⟨a2,d2,m2,f2⟩:=G.df 2 _ _ rfl;obtain ⟨a3,d3,m3,f3⟩:=G.df 3 _ _ rfl;obtain ⟨a4,d4,m4,f4⟩:=G.df 4 _ _ rfl;obtain ⟨a5,d5,m5,f5⟩:=G.df 5 _ _ rfl;obtain ⟨a6,d6,m6,f6⟩:=G.df 6 _ _ rfl;obtain ⟨a7,d7,m7,f7⟩:=G.df 7 _ _ rfl;obtain ⟨a8,d8,m8,f8⟩:=G.df 8 _ _ rfl;obtain ⟨a9,d9,m9,f9⟩:=G.df 9 _ _ rfl;obtain ⟨a10,d10,m10,f10⟩:=G.df 10 _ _ rfl;obtain ⟨a11,d11,m11,f11⟩:=G.df 11 _ _ rfl;obtain ⟨a12,d12,m12,f12⟩:=G.df 12 _ _ rfl;obtain ⟨a13,d13,m13,f13⟩:=G.df 13 _ _ rfl;obtain ⟨a14,d14,m14,f14⟩:=G.df 14 _ _ rfl;obtain ⟨a15,d15,m15,f15⟩:=G.df 15 _ _ rfl;obtain ⟨a16,d16,m16,f16⟩:=G.df 16 _ _ rfl;obtain ⟨a17,d17,m17,f17⟩:=G.df 17 _ _ rfl;obtain ⟨a18,d18,m18,f18⟩:=G.df 18 _ _ rfl;obtain ⟨a19,d19,m19,f19⟩:=G.df 19 _ _ rfl;obtain ⟨a20,d20,m20,f20⟩:=G.df 20 _ _ rfl;obtain ⟨a21,d21,m21,f21⟩:=G.df 21 _ _ rfl;obtain ⟨a22,d22,m22,f22⟩:=G.df 22 _ _ rfl;obtain ⟨a23,d23,m23,f23⟩:=G.df 23 _ _ rfl;obtain ⟨a24,d24,m24,f24⟩:=G.df 24 _ _ rfl;obtain ⟨a25,d25,m25,f25⟩:=G.df 25 _ _ rfl;obtain ⟨a26,d26,m26,f26⟩:=G.df 26 _ _ rfl;obtain ⟨a27,d27,m27,f27⟩:=G.df 27 _ _ rfl;obtain ⟨a28,d28,m28,f28⟩:=G.df 28 _ _ rfl;obtain ⟨a29,d29,m29,f29⟩:=G.df 29 _ _ rfl;obtain ⟨a30,d30,m30,f30⟩:=G.df 30 _ _ rfl;cases hm.symm.trans m30;have B0:=f0.binds (ps:=["thing"]) λ _ _ _ _ _ _ us hl=>by obtain ⟨_,rfl⟩:=len1 hl;rfl
 have B1:=f1.binds (ps:=["thing"]) λ _ _ _ _ _ _ us hl=>by obtain ⟨_,rfl⟩:=len1 hl;rfl
 have B2:=f2.binds (ps:=["box"]) λ _ _ _ _ _ _ us hl=>by obtain ⟨_,rfl⟩:=len1 hl;rfl
 have B3:=f3.binds (ps:=["box"]) λ _ _ _ _ _ _ us hl=>by obtain ⟨_,rfl⟩:=len1 hl;rfl
 have B4:=f4.binds (ps:=["columns","height"]) λ _ _ _ _ _ _ us hl=>by obtain ⟨_,_,rfl⟩:=len2 hl;rfl
 have B5:=f5.binds (ps:=["tally","other"]) λ _ _ _ _ _ _ us hl=>by obtain ⟨_,_,rfl⟩:=len2 hl;rfl
 have B6:=f6.binds (ps:=["table","columns"]) λ _ _ _ _ _ _ us hl=>by obtain ⟨_,_,rfl⟩:=len2 hl;rfl
 have B7:=f7.binds (ps:=["row","low","high"]) λ _ _ _ _ _ _ us hl=>by obtain ⟨_,_,_,rfl⟩:=len3 hl;rfl
 have B8:=f8.binds (ps:=["behind","low","high","counted"]) λ _ _ _ _ _ _ us hl=>by obtain ⟨_,_,_,_,rfl⟩:=len4 hl;rfl
 have B9:=f9.binds (ps:=["box","low","high","places"]) λ _ _ _ _ _ _ us hl=>by obtain ⟨_,_,_,_,rfl⟩:=len4 hl;rfl
 have B10:=f10.binds (ps:=["box","low","high","places"]) λ _ _ _ _ _ _ us hl=>by obtain ⟨_,_,_,_,rfl⟩:=len4 hl;rfl
 have B11:=f11.binds (ps:=["box","places"]) λ _ _ _ _ _ _ us hl=>by obtain ⟨_,_,rfl⟩:=len2 hl;rfl
 have B12:=f12.binds (ps:=["box"]) λ _ _ _ _ _ _ us hl=>by obtain ⟨_,rfl⟩:=len1 hl;rfl
 have B13:=f13.binds (ps:=["downs","rights"]) λ _ _ _ _ _ _ us hl=>by obtain ⟨_,_,rfl⟩:=len2 hl;rfl
 have B14:=f14.binds (ps:=["row","first","divisor"]) λ _ _ _ _ _ _ us hl=>by obtain ⟨_,_,_,rfl⟩:=len3 hl;rfl
 have B15:=f15.binds (ps:=["table"]) λ _ _ _ _ _ _ us hl=>by obtain ⟨_,rfl⟩:=len1 hl;rfl
 have B16:=f16.binds (ps:=["box"]) λ _ _ _ _ _ _ us hl=>by obtain ⟨_,rfl⟩:=len1 hl;rfl
 have B17:=f17.binds (ps:=["box"]) λ _ _ _ _ _ _ us hl=>by obtain ⟨_,rfl⟩:=len1 hl;rfl
 have B18:=f18.binds (ps:=["box"]) λ _ _ _ _ _ _ us hl=>by obtain ⟨_,rfl⟩:=len1 hl;rfl
 have B19:=f19.binds (ps:=["box"]) λ _ _ _ _ _ _ us hl=>by obtain ⟨_,rfl⟩:=len1 hl;rfl
 have B20:=f20.binds (ps:=["numbers","powers"]) λ _ _ _ _ _ _ us hl=>by obtain ⟨_,_,rfl⟩:=len2 hl;rfl
 have B21:=f21.binds (ps:=["numbers","powers"]) λ _ _ _ _ _ _ us hl=>by obtain ⟨_,_,rfl⟩:=len2 hl;rfl
 have B22:=f22.binds (ps:=["box"]) λ _ _ _ _ _ _ us hl=>by obtain ⟨_,rfl⟩:=len1 hl;rfl
 have B23:=f23.binds (ps:=["script","k"]) λ _ _ _ _ _ _ us hl=>by obtain ⟨_,_,rfl⟩:=len2 hl;rfl
 have B24:=f24.binds (ps:=["cell","k"]) λ _ _ _ _ _ _ us hl=>by obtain ⟨_,_,rfl⟩:=len2 hl;rfl
 have B25:=f25.binds (ps:=["left","rows","columns","height"]) λ _ _ _ _ _ _ us hl=>by obtain ⟨_,_,_,_,rfl⟩:=len4 hl;rfl
 have B26:=f26.binds (ps:=["box","way"]) λ _ _ _ _ _ _ us hl=>by obtain ⟨_,_,rfl⟩:=len2 hl;rfl
 have B27:=f27.binds (ps:=["box"]) λ _ _ _ _ _ _ us hl=>by obtain ⟨_,rfl⟩:=len1 hl;rfl
 have B28:=f28.binds (ps:=["box"]) λ _ _ _ _ _ _ us hl=>by obtain ⟨_,rfl⟩:=len1 hl;rfl
 have B29:=f29.binds (ps:=["box"]) λ _ _ _ _ _ _ us hl=>by obtain ⟨_,rfl⟩:=len1 hl;rfl
 refine ⟨d30,?_,λ base=>?_⟩
 ·obtain ⟨_,_,_,_,_,_,_,_,_,rfl,_,_⟩:=f30.ex;exact λ s v=>.of_eq rfl
 have o0:FnOk P w K mg base (CXr P w K) 1 a0 d0 ["thing"] (spF K false 1 F0):=fnb S0 f0 c0 gx (zqw hb) h0;have o1:FnOk P w K mg base (CXr P w K) 2 a1 d1 ["thing"] (spF K false 1 F1):=fnb S1 f1 c1 gx (gcs (zqw hb) m0 f0 B0 o0) h1;have o2:FnOk P w K mg base (CXr P w K) 3 a2 d2 ["box"] (spF K false 1 F2):=fnb S2 f2 c2 gx (gcs (zqw hb) m1 f1 B1 o1) h2;have o3:FnOk P w K mg base (CXr P w K) 1 a3 d3 ["box"] (spF K false 1 F3):=fnb S3 f3 c3 gx (zqw hb) h3;have o4:FnOk P w K mg base (CXr P w K) 1 a4 d4 ["columns","height"] (spF K false 2 F4):=fnb S4 f4 c4 gx (zqw hb) h4;have o5:FnOk P w K mg base (CXr P w K) 1 a5 d5 ["tally","other"] (spF K false 2 F5):=fnb S5 f5 c5 gx (zqw hb) h5;have o6:FnOk P w K mg base (CXr P w K) 2 a6 d6 ["table","columns"] (spF K false 2 F6):=fnb S6 f6 c6 gx (gcs (zqw hb) m5 f5 B5 o5) h6;have o7:FnOk P w K mg base (CXr P w K) 1 a7 d7 ["row","low","high"] (spF K false 3 F7):=fnb S7 f7 c7 gx (zqw hb) h7;have o8:FnOk P w K mg base (CXr P w K) 2 a8 d8 ["behind","low","high","counted"] (spF K false 4 F8):=fnb S8 f8 c8 gx (gcs (zqw hb) m7 f7 B7 o7) h8;have o9:FnOk P w K mg base (CXr P w K) 3 a9 d9 ["box","low","high","places"] (spF K false 4 F9):=fnb S9 f9 c9 gx (gcs (gcs (gcs (zqw hb) m8 f8 B8 o8) m6 f6 B6 o6) m4 f4 B4 o4) h9;have o10:FnOk P w K mg base (CXr P w K) 4 a10 d10 ["box","low","high","places"] (spF K false 4 F10):=fnb S10 f10 c10 gx (gcs (gcs (zqw hb) m9 f9 B9 o9) m5 f5 B5 o5) h10;have o11:FnOk P w K mg base (CXr P w K) 5 a11 d11 ["box","places"] (spF K false 2 F11):=fnb S11 f11 c11 gx (gcs (zqw hb) m10 f10 B10 o10) h11;have o12:FnOk P w K mg base (CXr P w K) 6 a12 d12 ["box"] (spF K false 1 F12):=fnb S12 f12 c12 gx (gcs (gcs (zqw hb) m11 f11 B11 o11) m2 f2 B2 o2) h12;have o13:FnOk P w K mg base (CXr P w K) 1 a13 d13 ["downs","rights"] (spF K false 2 F13):=fnb S13 f13 c13 gx (zqw hb) h13;have o14:FnOk P w K mg base (CXr P w K) 1 a14 d14 ["row","first","divisor"] (spF K false 3 F14):=fnb S14 f14 c14 gx (zqw hb) h14;have o15:FnOk P w K mg base (CXr P w K) 2 a15 d15 ["table"] (spF K false 1 F15):=fnb S15 f15 c15 gx (gcs (zqw hb) m14 f14 B14 o14) h15;have o16:FnOk P w K mg base (CXr P w K) 4 a16 d16 ["box"] (spF K false 1 F16):=fnb S16 f16 c16 gx (gcs (gcs (gcs (zqw hb) m15 f15 B15 o15) m13 f13 B13 o13) m2 f2 B2 o2) h16;have o17:FnOk P w K mg base (CXr P w K) 1 a17 d17 ["box"] (spF K false 1 F17):=fnb S17 f17 c17 gx (zqw hb) h17;have o18:FnOk P w K mg base (CXr P w K) 4 a18 d18 ["box"] (spF K false 1 F18):=fnb S18 f18 c18 gx (gcs (gcs (zqw hb) m17 f17 B17 o17) m2 f2 B2 o2) h18;have o19:FnOk P w K mg base (CXr P w K) 6 a19 d19 ["box"] (spF K false 1 F19):=fnb S19 f19 c19 gx (gcs (gcs (gcs (zqw hb) m11 f11 B11 o11) m3 f3 B3 o3) m2 f2 B2 o2) h19;have o20:FnOk P w K mg base (CXr P w K) 1 a20 d20 ["numbers","powers"] (spF K false 2 F20):=fnb S20 f20 c20 gx (zqw hb) h20;have o21:FnOk P w K mg base (CXr P w K) 1 a21 d21 ["numbers","powers"] (spF K false 2 F21):=fnb S21 f21 c21 gx (zqw hb) h21;have o22:FnOk P w K mg base (CXr P w K) 4 a22 d22 ["box"] (spF K false 1 F22):=fnb S22 f22 c22 gx (gcs (gcs (gcs (gcs (zqw hb) m21 f21 B21 o21) m20 f20 B20 o20) m17 f17 B17 o17) m2 f2 B2 o2) h22;have o23:FnOk P w K mg base (CXr P w K) 1 a23 d23 ["script","k"] (spF K false 2 F23):=fnb S23 f23 c23 gx (zqw hb) h23;have o24:FnOk P w K mg base (CXr P w K) 1 a24 d24 ["cell","k"] (spF K false 2 F24):=fnb S24 f24 c24 gx (zqw hb) h24;have o25:FnOk P w K mg base (CXr P w K) 1 a25 d25 ["left","rows","columns","height"] (spF K false 4 F25):=fnb S25 f25 c25 gx (zqw hb) h25;have o26:FnOk P w K mg base (CXr P w K) 1 a26 d26 ["box","way"] (spF K false 2 F26):=fnb S26 f26 c26 gx (zqw hb) h26;have o27:FnOk P w K mg base (CXr P w K) 1 a27 d27 ["box"] (spF K false 1 F27):=fnb S27 f27 c27 gx (zqw hb) h27;have o28:FnOk P w K mg base (CXr P w K) 2 a28 d28 ["box"] (spF K false 1 F28):=fnb S28 f28 c28 gx (gcs (zqw hb) m27 f27 B27 o27) h28;have o29:FnOk P w K mg base (CXr P w K) 2 a29 d29 ["box"] (spF K false 1 F29):=fnb S29 f29 c29 gx (gcs (zqw hb) m27 f27 B27 o27) h29;exact fnb S30 f30 c30 gx (zwk (zwk (zwk (zwk (zwk (zwk (zwk (zwk (zwk (zwk (zwk (zqw hb) (by decide +kernel) zxs m29 f29 B29 rfl (o29.mono (by decide))) (by decide +kernel) zxs m28 f28 B28 rfl (o28.mono (by decide))) (by decide +kernel) zxs m26 f26 B26 rfl (o26.mono (by decide))) (by decide +kernel) zxs m25 f25 B25 rfl (o25.mono (by decide))) (by decide +kernel) zxs m24 f24 B24 rfl (o24.mono (by decide))) (by decide +kernel) zxs m23 f23 B23 rfl (o23.mono (by decide))) (by decide +kernel) zxs m22 f22 B22 rfl (o22.mono (by decide))) (by decide +kernel) zxs m19 f19 B19 rfl (o19.mono (by decide))) (by decide +kernel) zxs m18 f18 B18 rfl (o18.mono (by decide))) (by decide +kernel) zxs m16 f16 B16 rfl (o16.mono (by decide))) (by decide +kernel) zxs m12 f12 B12 rfl (o12.mono (by decide))) h30
end
end K28
open PySem PySem.W PyProof.Rows
set_option maxRecDepth 100000 in
set_option maxHeartbeats 0 in
theorem PySem.Challenge.cw_cornerpiles_k28_whole_three_roads_holds : PySem.Challenge.rw_cornerpiles_k28_whole_three_roads.Holds := by
 refine QQ.holds_by (l:=PySem.Challenge.rw_cornerpiles_k28_whole_three_roads) (q:=K28.view) (loose:=K28.loose) (N:=20000) (k:=7) (n:=63) (ds:=K28.dfs) (xc:=[]) (F:=K28.F30) (x := "script") ?said rfl rfl (λ _=>rfl) K28.run (by rfl) (by rfl) (by rfl) (by rfl) (by decide +kernel) ⟨rfl,rfl,rfl,rfl,rfl,by decide +kernel⟩ ?hw rfl (by decide) rfl ⟨rfl,by decide,by decide,rfl⟩ (λ _ _ _ _ G hm=>K28.all_ok G hm) (λ _ _ _ ns hl hO hS=>QQ.sp_yes hO hS (K28.law_true ns hl))
 case said=>decide +kernel
 case hw=>w_witness2
