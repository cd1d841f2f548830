import PyProof.Rows.All
import Wide.All
import OpenK.AllK
import Wide.FinOn
import Lean
import PyProof.EqAt
import PyProof.EqKinds
import PyProof.TupleCall
import PySem.Challenge.RW_cornerpiles_k33_whole_heights_part_all
open PySem renaming wpAny_bind->va0,wpAny_pure->va1,Value->va2,Shared->va3,sizeLine->va5,starEach->va9,Program->vb0,wpAny->vb1,model->vb3,wpAny_newObj_type->vb4,compareOp->vb6,World->vb7,wpAny_truthy_bool->vc1,Around->vc3,cellsFrom->vc4,wpAny_dictEntries->vc5,mainGlobals->vc6,wpAny_holding->vc7,FuncData->vc9,sysModules->vd0,assignEach->vd1,NameKind->vd2,Scope->vd4,DictEntry->vd5,wpAny_callSpecial?_slot->vd7,plainId_quiet->vd8,intItems->vd9,wpAny_typeNameOfWhole_valiter->ve0,wpAny_typeNameOfWhole_keyiter->ve1,wpAny_call_entry->ve2,wpAny_updateSeq->ve4,wpAny_letGo->vf2,mem_of_lookup->vf3,wpAny_typeNameOf_valiter->vf4,wpAny_typeNameOf_keyiter->vf5,bootBuiltins->vf6,wpAny_dictEpoch->vg0,wpAny_Call_Name_kw->vg1,tupleKind->vg2,binaryOp->vg3,backTo->vg4,wpAny_mono->vg5,wpAny_tryCatch->vg6,wpAny_fieldsOf->vg7,behindInMarks->vh0,wpAny_passesOwn->vh1,sliceBounds->vh2,tupleKind_room_in1->vh4,wpAny_seqItems->vh8,pyNext->vi2,foldedSetIterable->vi3,Operator->vi7,wpAny_isInstance->vj0,wpAny_specialOf->vj2,wpAny_notOrdered_dict->vj3,wpAny_isOneOf_valiter->vj4,wpAny_isOneOf_keyiter->vj5,rawInt->vj6,letOwnedTupleGo->vj7,codeAny_builtin->vj8,codeAny->vj9,entryOfKey->vk0,wpAny_setField->vk1,firstArgMember->vk2,numAt->vk5,wpAny_standAt->vk7,wpAny_attempt->vk8,Paired->vk9,relabel->vl2,holding->vl3,noFill_tuple_add->vm0,cLine->vm1,wpAny_of_eq->vm4,wpAny_field->vm5,wpAny_execs_nil->vm6,valueAt->vm7,updateSeq->vm8,seqIndex_of->vm9,pushCells_keeps->vn0,keywordEach->vn1,importedModules->vn2,getItem->vn3,callerA->vn5,assign->vn6,IsRangeIter->vn9,CmpOp->vo0,Builtin->vo1,newFunctionEnv->vo4
open PySem.Heap renaming get?_push_of_some->va4,lt_size->va6,get?_push_size->va7,get?_update_other->vb2,get?_update_self->vc0,SameBut->vh7,size_push->vk4
open PySem.W renaming Frag->va8,kia_one->vc2,boot_heap->vd3,keepIn->ve8,fnOf->vh5,findIn->vh9,kitOne->vk3,hideAll_get->vk6,methodObj->vl4,boot_heap->vl5,instObj->vn7,lookIn->vo5,codeIn->vo6
open PyProof.Rows renaming callWith_type1->vb5,IntsAre->vg8,AllBare->vi9,slot_tuple_getitem->vl6,envOfC->vn4
open PySem.Str renaming ofString->vb8
open Ne renaming symm->vb9
open PySem.Builtin.Dict_items renaming ownsTuple->vc8
open PySem.F renaming slot_dict_valueiterator_next->vd6,slot_dict_keyiterator_next->ve3,plain_min_loop->vf0,plain_max_loop->vf1,args_tuple_add_2->vi4,entry_tuple_add->vi6,slot_tuple_add->vj1,args_dict_valueiterator_next_1->vl1,entry_dict_valueiterator_next->vl7,args_dict_keyiterator_next_1->vl9,entry_dict_keyiterator_next->vm2
open PySem.Builtin.List renaming listExtendWith->ve5,listTooLong->vf9
open PySem.Builtin.Dict renaming showsAll->ve6,entriesForEmpty->vm3
open PySem.Builtin.Builtins renaming bindParams->ve7
open PySem.Builtin.Slice renaming slicePlaces->ve9,sliceAdjust->vi1,sliceApplied->vo3
open False renaming elim->vf7
open PySem.Builtin.Tuple renaming tupleExact->vf8,tupleHashOf->vi0
open PySem.Around renaming under_plainId->vg9
open PySem.Heap.SameBut renaming update->vh3
open PySem.Obj renaming data_mapFields->vh6,mapSeq->vi5,mapFields->vi8
open PySem.Calls renaming spliced_cons->vl0,spliced_nil->vl8,Name_function_global->vo2
open Prod.mk renaming inj->vn8
open List renaming getD_eq_getElem?_getD->ja0,mem_cons_of_mem->ja1,mem_cons_self->ja2,length_map->ja3,mem_append_right->ja5,replicate->ja6,range->ja7,mem_append_left->ja8,length_append->jb0,length_cons->jb1,getElem?_eq_some_iff->jb2,getElem?_append_left->jb3,mem_singleton->jb4,all_eq_true->jb5,getElem?_eq_getElem->jb8,size_toArray->jb9,mem_cons->jc0,getElem?_map->jc1,map_cons->jc2,getElem?_set_ne->jc4,getElem?_set_self->jc5,mem_range->jc6,getElem?_append_right->jc8,mem_append->jd0,mem_map->jd2,getElem?_replicate->jd3,mem_filter->jd4,length_replicate->jd5,length_singleton->jd6,map_map->jd7,length_set->je0,getElem?_eq_none->je1,lookup_cons->je2,filter_cons->je3,map_append->je4,replicate_succ->je5,getElem?_cons_succ->je6,nil_append->je7,length_range->je8,length_take->jf0,getElem?_take_of_lt->jf5,length_eq_zero_iff->jf6,not_mem_nil->jf8,cons_append->jf9,filter_eq_self->jg1,range_succ->jg2,length_filter_le->jg3,getElem?_range->jg6,zip_cons_cons->jg8,all_cons->jg9,length_nil->jh1,flatten_cons->jh2,filter_congr->jh3,flatMap_cons->jh4,map_congr_left->jh5,mem_flatMap->jh7,append_nil->jh9,nodup_cons->ji0,map_nil->ji1,find?_cons->ji3,drop_eq_getElem_cons->ji5,getElem?_eq_none_iff->ji6,filterMap_cons->ji9,getElem_of_mem->jj1,flatMap_append->jj2,drop_eq_nil_of_le->jj6,take_of_length_le->jj7,filter_eq_nil_iff->jj8,append_assoc->jj9,reverse_cons->jk0,length_drop->jk3,getElem_mem->jk4,any_cons->jk6,take_succ_cons->jk7,length_zip->jk8,filter_map->jk9,range'->jl0,getElem?_concat_length->jl1,mem_filterMap->jl4,set_cons_succ->jl6,take_zero->jl8,getLast?_eq_getElem?->jl9,nodup_append->jm2,sum_cons->jm3,filter_cons_of_neg->jm4,filter_cons_of_pos->jm5,ext_getElem->jm7,length_eq_one_iff->jm8,of_mem_zip->jm9,getElem?_reverse->jn1,all_nil->jn2,all_append->jn3,mem_of_getElem?->jn5,getElem?_append->jn7,replicate_zero->jn8,length_reverse->jn9,filter_flatMap->jo0,set_cons_zero->jo3,take_nil->jo5,findIdx?_cons->jo7,pairwise_cons->jo9,ext_getElem?->jp0,mem_range'_1->jp2,pairwise_map->jp3,getLast?_nil->jp4,flatten_nil->jp9,range'_succ->jq0,foldl_cons->jq1,forIn_cons->jq2,foldl->jq6,drop_nil->jq8,set_nil->jr1,getD->jr3,sum_nil->jr4
open Nat renaming le_refl->ja4,lt_of_lt_of_le->jb6,le_trans->jc9,ne_of_lt->jd1,lt_irrefl->jd8,le_of_succ_le->jg0,pow_le_pow_right->jg4,ne_of_gt->jg5,mul_le_mul_right->jh0,pow_le_pow_left->jh6,lt_succ_self->ji8,zero_le->jj0,le_add_right->jk5,min_eq_left->jl2,le_of_lt->jl3,zero_add->jl5,add_sub_cancel->jl7,lt_succ_of_lt->jm0,succ_ne_zero->jm6,mul_comm->jn0,pow_succ->jn4,sub_self->jp6,sub_zero->jp7,le_succ->jq3,mul_le_mul->jq5,succ_mul->jr0,lt_trans->jr2,add_mul->jr7,one_mul->jr8
open Bool renaming and_eq_true->ja9,false_ne_true->jb7,eq_iff_iff->jd9,false_eq_true->je9,or_eq_true->jf3,false_xor->ji7,and_true->jj4,eq_false_iff->jk1,and_false->jk2,and_eq_true_iff->jn6,or_false->jo2,true_xor->jo6,true_and->jo8,not_eq_true'->jp1,false_or->jq7
open Option renaming map_eq_some_iff->jc3,map_some->jj3,isSome_map->jm1,isSome_some->jo4,getD_none->jp8,map->js0
open Int renaming toNat_natCast->jc7,zero_add->jf1,le_trans->jf2,le_refl->jf7,emod_lt_of_pos->jh8,emod_nonneg->ji4,natCast_mul->jj5,emod_eq_of_lt->jp5,natCast_add->jq4,add_zero->jr5,le_of_eq->jr6,add_mul->jr9
open Array renaming length_toList->jf4,getElem?_eq_none->jg7,getElem?_toList->ji2,append_assoc->jo1,toList->jq9
set_option Elab.async false
set_option linter.all false
set_option maxRecDepth 100000
set_option autoImplicit false
set_option maxHeartbeats 2000000
namespace L2
open PySem PySem.Spec PyProof.Rows
def zpk (s:Stmt):Arguments:=match s with
 | .FunctionDef _ a _ _ _ _ _ _ _ _=>a
 | _=>{ posonlyargs:=[],args:=[],vararg:=none,kwonlyargs:=[],kw_defaults:=[],kwarg:=none,defaults:=[] }
def zqm (s:Stmt):List Stmt:=match s with
 | .FunctionDef _ _ b _ _ _ _ _ _ _=>b
 | _=>[]
def zqb (s:Stmt):vd4:=match s with
 | .FunctionDef _ _ _ _ _ _ sc _ _ _=>sc
 | _=>{ kind:=.function,names:=[],isGenerator:=false,isCoroutine:=false }
end L2
namespace QQ
open PySem PySem.Spec PySem.W PySem.Calls PyProof.Rows L2
abbrev Frag:=va8
def zkq:List Str:=["len","isinstance","all","max","min","tuple","list","range","int","bool","str","dict","sum","enumerate","zip","reversed","set","ValueError","sorted","abs"]
def zyt (tb:String->Option vo1) (p:vb0) (w:vb7) (n₀:Nat) (ann:Option va2):Nat->SharedT->Thread->Option SharedT
 | 0,_,_=>none
 | n + 1,s,t=>match through t with
  | true=>some s
  | false=>match stepOk n₀ ann t with
   | false=>none
   | true=>match stepT (denote tb) p w s t with
    | some (s',t')=>zyt tb p w n₀ ann n s' t'
    | none=>none
def ofL:List Obj->Nat->BT->BT
 | [],_,t=>t
 | o::r,n,t=>ofL r (n + 1) (t.ins n o)
noncomputable def bootT (P:Params):BT:=ofL (vd3 P).objs.toList 0 .nil
noncomputable def bootS (P:Params) (os:OsState):SharedT:=⟨bootT P,(vd3 P).objs.size,(vd3 P).life,#[],boot_drawn,boot_toks,os⟩
def qbh {α:Type} (p q:vb0) (loose:List Str) (Xt:va3->Bool) (Yf:va3->α) (H:Heap) (s:va3):=
 ((staticsOk (vn2 p.main.body) H s.heap && namesBound p s.heap && gensDone s && laidKept H s.heap),openSeen q loose (vn2 p.main.body) Xt true s,Yf s)
def kof (h:Heap):Frag:=(ja7 h.objs.size).filterMap λ a=>(h.get? a).map λ o=>(a,o)
structure DefSeen where
 name:Str
 qual:Str
 params:Arguments
 body:FuncBody
 scope:vd4
 globals:Addr
 closure:List (Str×Addr)
 defaults:va2
 builtins:Addr
 code:Bool
def qbk (K:Frag) (x:Str):Option DefSeen:=match nsIn K vc6 x with
 | some (some (.ref g))=>(match K.lookup g with
  | some ⟨_,_,.func fd,_⟩=>some ⟨fd.name,fd.qualname,fd.params,fd.body,fd.scope,fd.globals,fd.closure,fd.defaults,fd.builtins,codeIn K fd.code x⟩
  | _=>none)
 | _=>none
def qg0 (x:Str) (st:Stmt):DefSeen:=⟨x,x,zpk st,.stmts (zqm st),zqb st,mainNs,[],.none,0,true⟩
def zby (ds:List (Str×Stmt)) (xc:List Nat) (K:Frag):List (Option DefSeen)×List (Option (Option va2))×Bool:=
 (ds.map λ d=>qbk K d.1,zkq.map λ x=>nsIn K vc6 x,xc.isEmpty)
def zho (ds:List (Str×Stmt)):List (Option DefSeen)×List (Option (Option va2))×Bool:=(ds.map λ d=>some (qg0 d.1 d.2),zkq.map λ _=>some none,true)
end QQ
namespace K33
open PySem PySem.Spec PyProof.Rows L2 QQ
def top (i:Nat):Stmt:=PySem.Challenge.pw_cornerpiles_k33_whole_heights_part_all.main.body.getD i (.Pass ⟨0,0,0,0⟩)
abbrev t0:Stmt:=top 7
abbrev t1:Stmt:=top 8
abbrev t2:Stmt:=top 9
abbrev t3:Stmt:=top 10
abbrev t4:Stmt:=top 11
abbrev t5:Stmt:=top 12
abbrev t6:Stmt:=top 13
abbrev t7:Stmt:=top 14
abbrev t8:Stmt:=top 16
abbrev t9:Stmt:=top 17
abbrev t10:Stmt:=top 18
abbrev t11:Stmt:=top 19
abbrev t12:Stmt:=top 21
abbrev t13:Stmt:=top 22
abbrev t14:Stmt:=top 23
abbrev t15:Stmt:=top 24
abbrev t16:Stmt:=top 25
abbrev t17:Stmt:=top 26
abbrev t18:Stmt:=top 27
abbrev t19:Stmt:=top 29
abbrev t20:Stmt:=top 30
abbrev t21:Stmt:=top 31
abbrev t22:Stmt:=top 32
abbrev t23:Stmt:=top 33
abbrev t24:Stmt:=top 34
abbrev t25:Stmt:=top 35
abbrev t26:Stmt:=top 36
abbrev t27:Stmt:=top 38
abbrev t28:Stmt:=top 39
abbrev t29:Stmt:=top 40
abbrev t30:Stmt:=top 41
abbrev t31:Stmt:=top 42
abbrev t32:Stmt:=top 43
def dfs:List (Str×Stmt):=[(("is_whole_number" : Str),t0),(("is_box" : Str),t1),(("must_be_box" : Str),t2),(("is_row_of_heights" : Str),t3),(("never_rises" : Str),t4),(("column_of" : Str),t5),(("is_pile" : Str),t6),(("must_be_pile" : Str),t7),(("must_be_two_piles" : Str),t8),(("places_of" : Str),t9),(("is_place" : Str),t10),(("lies_below" : Str),t11),(("rows_of_heights" : Str),t12),(("added" : Str),t13),(("sums_of_lower_rows" : Str),t14),(("lies_between" : Str),t15),(("table_of_row" : Str),t16),(("tables_between" : Str),t17),(("tally_between" : Str),t18),(("how_many_between" : Str),t19),(("rows_behind" : Str),t20),(("how_many_ahead_of" : Str),t21),(("number_between" : Str),t22),(("must_be_told_heights" : Str),t23),(("least_height" : Str),t24),(("greatest_height" : Str),t25),(("bounds_with" : Str),t26),(("_law_cell_at" : Str),t27),(("_law_mixed" : Str),t28),(("_law_box" : Str),t29),(("_law_pile" : Str),t30),(("_law_many" : Str),t31),(("law" : Str),t32)]
def view:vb0:={ PySem.Challenge.pw_cornerpiles_k33_whole_heights_part_all with main:={ PySem.Challenge.pw_cornerpiles_k33_whole_heights_part_all.main with body:=[t32] } }
def loose:List Str:=(PySem.Challenge.pw_cornerpiles_k33_whole_heights_part_all.main.scope.names.map λ x=>x.1).filter λ x=>!(x == ("law" : Str))
theorem run:∀ (w:PySem.World) (os:PySem.OsState),(zyt PySem.treeTable PySem.Challenge.rw_cornerpiles_k33_whole_heights_part_all.prog w (vl5 w.params).objs.size ((vl5 w.params).nsMap vc6 "__annotations__") 20000 (bootS w.params os) (PySem.W.topStub PySem.Challenge.rw_cornerpiles_k33_whole_heights_part_all.prog)).map (λ s=>qbh PySem.Challenge.rw_cornerpiles_k33_whole_heights_part_all.prog view loose (λ s=>PySem.W.xlAt view [] s && PySem.W.recOk (PySem.W.RowW.records PySem.Challenge.rw_cornerpiles_k33_whole_heights_part_all.row.toRowW) s) (λ s=>zby dfs [] (kof s.heap)) (vl5 w.params) s.abs)=some (true,PySem.W.openGood view loose,zho dfs):=λ w os=>by kernel_rfl
end K33
namespace L2
open PySem PySem.Spec PyProof.Rows
abbrev Key:=Sum Int Str
def qdr:Key->va2->Bool
 | .inl k,v=>Value.isInt k v
 | .inr x,v=>Value.isStrOf x v
def keyH (w:vb7):Key->Int
 | .inl k=>hashInt k
 | .inr x=>hashStr w x
theorem zxt:∀ {k:Key}{v:va2},qdr k v=true->(∃ i t,k=Sum.inl i/\v=Value.int i t)\/(∃ x t,k=Sum.inr x/\v=Value.str x t)
 | .inl i,v,h=>by
  obtain ⟨t,e⟩:=Value.isInt_shape (k:=i) (v:=v) h;exact .inl ⟨i,t,rfl,e⟩
 | .inr x,v,h=>by
  obtain ⟨t,e⟩:=Value.isStrOf_shape (x:=x) (v:=v) h;exact .inr ⟨x,t,rfl,e⟩
theorem qgc (i:Int) (t:Tok):qdr (.inl i) (.int i t)=true:=by simp [qdr,Value.isInt]
theorem qgb (x:Str) (t:Tok):qdr (.inr x) (.str x t)=true:=by simp [qdr,Value.isStrOf]
theorem qqb (a b:Int):decide ((Sum.inl a:Key)=Sum.inl b)=(a == b):=by
 by_cases e:a=b
 ·subst e;simp
 ·have h:¬ (Sum.inl a:Key)=Sum.inl b:=λ q=>e (Sum.inl.inj q);rw [decide_eq_false h];exact (beq_eq_false_iff_ne.mpr e).symm
theorem qp8 (a b:Str):decide ((Sum.inr a:Key)=Sum.inr b)=decide (a=b):=by
 by_cases e:a=b
 ·subst e;simp
 ·have h:¬ (Sum.inr a:Key)=Sum.inr b:=λ q=>e (Sum.inr.inj q);rw [decide_eq_false h,decide_eq_false e]
theorem qqa (a:Int) (b:Str):decide ((Sum.inl a:Key)=Sum.inr b)=false:=decide_eq_false (λ q=>nomatch q)
theorem qp9 (a:Str) (b:Int):decide ((Sum.inr a:Key)=Sum.inl b)=false:=decide_eq_false (λ q=>nomatch q)
def zxq (prog:vb0) (w:vb7):PySem.KeyKind prog w Key where
 is:=qdr
 hash:=keyH w
 inj:=λ v a b ha hb=>by
  rcases zxt ha with ⟨i,t,rfl,rfl⟩ | ⟨x,t,rfl,rfl⟩
  ·rcases zxt hb with ⟨j,u,rfl,e⟩ | ⟨y,u,rfl,e⟩
   ·injection e with e1 _;rw [e1]
   ·exact nomatch e
  ·rcases zxt hb with ⟨j,u,rfl,e⟩ | ⟨y,u,rfl,e⟩
   ·exact nomatch e
   ·injection e with e1 _;rw [e1]
 byValue:=λ k v h=>by
  rcases zxt h with ⟨i,t,rfl,rfl⟩ | ⟨x,t,rfl,rfl⟩ <;> rfl
 pyHash:=λ hv h=>by
  rcases zxt hv with ⟨i,t,rfl,rfl⟩ | ⟨x,t,rfl,rfl⟩
  ·exact wpAny_pyHash_int h
  ·exact wpAny_pyHash_str h
 eqBool:=λ hu hv h=>by
  rcases zxt hu with ⟨i,t,rfl,rfl⟩ | ⟨x,t,rfl,rfl⟩
  ·rcases zxt hv with ⟨j,u,rfl,rfl⟩ | ⟨y,u,rfl,rfl⟩
   ·rw [qqb] at h;exact wpAny_eqBool_int h
   ·rw [qqa] at h;exact SeqAt.EqAt.int_str i t y u _ _ _ _ h
  ·rcases zxt hv with ⟨j,u,rfl,rfl⟩ | ⟨y,u,rfl,rfl⟩
   ·rw [qp9] at h;exact SeqAt.EqAt.str_int x t j u _ _ _ _ h
   ·rw [qp8] at h;exact wpAny_eqBool_str h
 «strs»:=λ k x t v h=>by
  rcases zxt h with ⟨i,u,rfl,e⟩ | ⟨y,u,rfl,e⟩
  ·exact nomatch e
  ·injection e with e1 _
   subst e1;cases v <;> rfl
theorem qa4 (prog:vb0) (w:vb7) (i:Int) (t:Tok):(zxq prog w).is (.inl i) (.int i t)=true:=qgc i t
theorem qa3 (prog:vb0) (w:vb7) (x:Str) (t:Tok):(zxq prog w).is (.inr x) (.str x t)=true:=qgb x t
inductive V where
 | non | bl (b:Bool) | int (i:Int) | str (x:Str) | byt (b:Array UInt8) | flt (b:UInt64) | ref (a:Addr) | ty (n:String)
 deriving DecidableEq
def RelV:V->va2->Prop
 | .non,u=>u=Value.none
 | .bl b,u=>u=Value.bool b
 | .int i,u=>∃ t,u=Value.int i t
 | .str x,u=>∃ t,u=Value.str x t
 | .byt b,u=>∃ t,u=Value.bytes b t
 | .flt b,u=>∃ t,u=Value.float b t
 | .ref a,u=>u=Value.ref a
 | .ty n,u=>u=Value.type n
abbrev Vals:List V->List va2->Prop:=vk9 RelV
theorem Vals.length {xs:List V}{us:List va2} (r:Vals xs us):xs.length=us.length:=Paired.length r
theorem Vals.get:∀ {xs:List V}{us:List va2}{i:Nat}{x:V},Vals xs us->xs[i]?=some x->∃ u,us[i]?=some u/\RelV x u
 | _,_,_,_,.nil,e=>by simp at e
 | _,_,0,_,.cons r _,e=>by simp at e;subst e;exact ⟨_,rfl,r⟩
 | _,_,i + 1,x,.cons _ t,e=>by
  obtain ⟨u,h1,h2⟩:=Vals.get (i:=i) (x:=x) t (by simpa using e);exact ⟨u,by simpa using h1,h2⟩
theorem Vals.set {x:V}{u:va2} (r:RelV x u):∀ {xs:List V}{us:List va2} (i:Nat),Vals xs us->Vals (xs.set i x) (us.set i u)
 | _,_,_,.nil=>.nil
 | _,_,0,.cons _ t=>.cons r t
 | _,_,i + 1,.cons q t=>.cons q (Vals.set r i t)
theorem Vals.append:∀ {xs ys:List V}{us ws:List va2},Vals xs us->Vals ys ws->Vals (xs++ys) (us++ws)
 | _,_,_,_,.nil,s=>s
 | _,_,_,_,.cons r t,s=>.cons r (Vals.append t s)
theorem Vals.take:∀ {xs:List V}{us:List va2} (n:Nat),Vals xs us->Vals (xs.take n) (us.take n)
 | _,_,0,_=>.nil
 | _,_,_ + 1,.nil=>.nil
 | _,_,n + 1,.cons r t=>.cons r (Vals.take n t)
theorem Vals.drop:∀ {xs:List V}{us:List va2} (n:Nat),Vals xs us->Vals (xs.drop n) (us.drop n)
 | _,_,0,r=>r
 | _,_,_ + 1,.nil=>.nil
 | _,_,n + 1,.cons _ t=>Vals.drop n t
def RelO:Option V->Option va2->Prop
 | some v,some u=>RelV v u
 | none,none=>True
 | _,_=>False
def KV {κ:Type}:List (κ×V)->List (κ×va2)->Prop:=vk9 λ (p:κ×V) (q:κ×va2)=>p.1=q.1/\RelV p.2 q.2
def kV:Key->V
 | .inl i=>.int i
 | .inr x=>.str x
inductive HO where
 | lst (xs:List V)
 | tup (xs:List V)
 | dK (kvs:List (Key×V)) | dT (kvs:List (List Key×V))
 | set (S:Int->Bool) (n:Nat)
 | ins (C dx:Addr) (fs:List (Str×V))
 | own (x:Addr)
 | xd (fs:List (Str×V))
 | met (f x:Addr)
 | rng (lo hi:Int)
 | frz (o:Obj) (u:HO)
 | tbl (ps:Array va2)
 | ext (φ:Heap->Prop)
abbrev Hp:=Addr->Option HO
def upd (H:Hp) (a:Addr) (o:HO):Hp:=λ b=>if b=a then some o else H b
theorem zqe {H:Hp}{a:Addr}{o:HO}:upd H a o a=some o:=by unfold upd;rw [if_pos rfl]
theorem zqf {H:Hp}{a b:Addr}{o:HO} (h:b≠a):upd H a o b=H b:=by unfold upd;rw [if_neg h]
theorem qrh {H:Hp}{a b:Addr}{o u:HO} (h:H a=some o) (h':H b=some u) (d:o≠u):a≠b:=by
 intro e;subst e;rw [h] at h';exact d (Option.some.inj h')
theorem zwv {H:Hp}{a b:Addr}{o:HO} (h:H a=some o) (h':H b=none):a≠b:=by
 intro e;subst e;rw [h] at h';cases h'
section
variable (P:vb0) (w:vb7)
def zxp (H:Hp) (h:Heap) (a:Addr):HO->Prop
 | .lst xs=>xs.length<=va5/\∃ (its:List va2) (n:Nat),Vals xs its/\h.get? a=some { cls:=.type "list",data:=.seq its.toArray n }
 | .tup xs=>xs.length<=va5/\∃ its:List va2,Vals xs its/\IsTup h a its.toArray
 | .dK kvs=>kvs.length<=va5/\(a == vd0)=false/\∃ vs,KV kvs vs/\h.DictOf (zxq P w) a vs
 | .dT kvs=>kvs.length<=va5/\(a == vd0)=false/\∃ xs:List (List Key×Addr×va2),
   vk9 (λ (p:List Key×V) (q:List Key×Addr×va2)=>p.1=q.1/\H q.2.1=some (.tup (p.1.map kV))/\RelV p.2 q.2.2) kvs xs /\
   ∃ o es ep,h.get? a=some o/\o.ExactDict/\o.data=.dict es ep/\es.toList=xs.map (vk0 (vg2 (zxq P w)))/\(xs.map (·.1)).Nodup
 | .set S n=>h.SetOf (intKind P w) a S n
 | .ins C dx fs=>H dx=some (.own a)/\fs.length<=1000/\dx≠a/\h.get? a=some (vn7 C dx) /\
   ∃ mA,h.Ns1 dx mA/\(∀ f,RelO (fs.lookup f) (mA f))/\PySem.Within mA (fs.map (·.1))
 | .own _=>∃ o,h.get? a=some o
 | .xd fs=>∃ mA,h.Ns1 a mA/\∀ f,RelO (fs.lookup f) (mA f)
 | .rng lo hi=>∃ t u v,h.get? a=some { cls:=.type "range",data:=.fields #[.int lo t,.int hi u,.int 1 v] }
 | .frz o u=>h.get? a=some o/\zxp H h a u
 | .tbl ps=>h.get? a=some { cls:=.none,data:=.fields ps }
 | .met f x=>h.get? a=some (vl4 (.ref f) (.ref x))
 | .ext φ=>φ h/\(∃ o,h.get? a=some o)/\∀ h1 h2:Heap,φ h1->(∀ o,h1.get? a=some o->h2.get? a=some o)->φ h2
def HOk (H:Hp) (h:Heap):Prop:=∀ a o,H a=some o->zxp P w H h a o
end
section
variable {P:vb0}{w:vb7}{H H':Hp}{h h':Heap}{a:Addr}{o:HO}
theorem zxp.lt (x:zxp P w H h a o):a < h.objs.size:=by
 cases o with
 | lst xs=>obtain ⟨_,_,_,_,e⟩:=x;exact va6 e
 | tup xs=>obtain ⟨_,_,_,p⟩:=x;exact p.lt
 | dK kvs=>obtain ⟨_,_,_,_,o,_,_,e,_⟩:=x;exact va6 e
 | dT kvs=>obtain ⟨_,_,_,_,o,_,_,e,_⟩:=x;exact va6 e
 | set S n=>obtain ⟨o,_,_,_,e,_⟩:=x;exact va6 e
 | ins C dx fs=>obtain ⟨_,_,_,e,_⟩:=x;exact va6 e
 | own y=>obtain ⟨_,e⟩:=x;exact va6 e
 | xd fs=>obtain ⟨_,⟨_,_,_,e,_⟩,_⟩:=x;exact va6 e
 | rng lo hi=>obtain ⟨_,_,_,e⟩:=x;exact va6 e
 | frz ob u=>obtain ⟨e,_⟩:=x;exact va6 e
 | tbl ps=>exact va6 (show h.get? a=some _ from x)
 | met f y=>exact va6 (show h.get? a=some _ from x)
 | ext φ=>obtain ⟨_,⟨_,e⟩,_⟩:=x;exact va6 e
theorem Paired.mapP {α β:Type}{F G:α->β->Prop}:∀ {l₁:List α}{l₂:List β},vk9 F l₁ l₂->(∀ a b,F a b->G a b)->vk9 G l₁ l₂
 | _,_,.nil,_=>.nil
 | _,_,.cons r t,f=>.cons (f _ _ r) (Paired.mapP t f)
theorem zxp.stay (x:zxp P w H h a o) (k:∀ b u,(b=a\/H b=some (.own a))->h.get? b=some u->h'.get? b=some u)
  (ho:∀ b,H b=some (.own a)->H' b=some (.own a)) (ht:∀ b xs,H b=some (.tup xs)->H' b=some (.tup xs)):zxp P w H' h' a o:=by
 induction o with
 | lst xs=>obtain ⟨z,its,n,r,e⟩:=x;exact ⟨z,its,n,r,k _ _ (.inl rfl) e⟩
 | tup xs=>obtain ⟨z,its,r,ob,e,c⟩:=x;exact ⟨z,its,r,ob,k _ _ (.inl rfl) e,c⟩
 | dK kvs=>obtain ⟨z,y,vs,r,ob,es,ep,e,c⟩:=x;exact ⟨z,y,vs,r,ob,es,ep,k _ _ (.inl rfl) e,c⟩
 | dT kvs=>
  obtain ⟨z,y,xs,r,ob,es,ep,e,c⟩:=x;exact ⟨z,y,xs,Paired.mapP r λ p q z=>⟨z.1,ht _ _ z.2.1,z.2.2⟩,ob,es,ep,k _ _ (.inl rfl) e,c⟩
 | set S n=>obtain ⟨ob,es,ep,t,e,c⟩:=x;exact ⟨ob,es,ep,t,k _ _ (.inl rfl) e,c⟩
 | ins C dx fs=>
  obtain ⟨d,z,ne,e,mA,⟨od,es,ep,e2,c⟩,r⟩:=x;exact ⟨ho _ d,z,ne,k _ _ (.inl rfl) e,mA,⟨od,es,ep,k _ _ (.inr d) e2,c⟩,r⟩
 | own y=>obtain ⟨ob,e⟩:=x;exact ⟨ob,k _ _ (.inl rfl) e⟩
 | xd fs=>obtain ⟨mA,⟨od,es,ep,e,c⟩,r⟩:=x;exact ⟨mA,⟨od,es,ep,k _ _ (.inl rfl) e,c⟩,r⟩
 | rng lo hi=>obtain ⟨t,u,v,e⟩:=x;exact ⟨t,u,v,k _ _ (.inl rfl) e⟩
 | frz ob u ih=>obtain ⟨e,q⟩:=x;exact ⟨k _ _ (.inl rfl) e,ih q⟩
 | tbl ps=>
  have e:h.get? a=some { cls:=.none,data:=.fields ps }:=x;show h'.get? a=some { cls:=.none,data:=.fields ps };exact k a _ (.inl rfl) e
 | met f y=>
  have e:h.get? a=some (vl4 (.ref f) (.ref y)):=x;show h'.get? a=some (vl4 (.ref f) (.ref y));exact k a _ (.inl rfl) e
 | ext φ=>obtain ⟨p,⟨o,e⟩,st⟩:=x;exact ⟨st _ _ p λ o q=>k _ _ (.inl rfl) q,⟨o,k _ _ (.inl rfl) e⟩,st⟩
theorem HOk.lt (x:HOk P w H h) (e:H a=some o):a < h.objs.size:=(x a o e).lt
theorem HOk.fresh (x:HOk P w H h) (e:h.objs.size<=a):H a=none:=by
 cases q:H a with
 | none=>rfl
 | some u=>exact absurd (jb6 (x.lt q) e) (jd8 _)
theorem HOk.kept (x:HOk P w H h) (k:∀ b u,h.get? b=some u->h'.get? b=some u):HOk P w H h':=λ a o e=>
 (x a o e).stay (λ b u _ q=>k b u q) (λ _ q=>q) λ _ _ q=>q
theorem HOk.laid (x:HOk P w H h) (k:∀ b u,h.get? b=some u->h'.get? b=some u) (hp:h.objs.size<=a) (new:zxp P w (upd H a o) h' a o):HOk P w (upd H a o) h':=λ b u e=>by
 have hn:=x.fresh hp;by_cases hb:b=a
 ·subst hb;rw [zqe] at e;cases e;exact new
 ·rw [zqf hb] at e;exact (x b u e).stay (λ c v _ q=>k c v q) (λ c q=>by rw [zqf (zwv q hn)];exact q) λ c xs q=>by rw [zqf (zwv q hn)];exact q
end
def Rd (H:Hp) (a:Addr) (u:HO):Prop:=H a=some u\/∃ o,H a=some (.frz o u)
theorem Rd.ok {P:vb0}{w:vb7}{H:Hp}{h:Heap}{a:Addr}{u:HO} (r:Rd H a u) (x:HOk P w H h):zxp P w H h a u:=by
 rcases r with r | ⟨o,r⟩
 ·exact x a u r
 ·obtain ⟨_,q⟩:=x a _ r;exact q
def Mut:Option HO->Prop
 | some (.lst _)=>True
 | some (.dK _)=>True
 | some (.dT _)=>True
 | some (.set _ _)=>True
 | some (.ins _ _ _)=>True
 | some (.ext _)=>True
 | _=>False
section
variable {P:vb0}{w:vb7}{H:Hp}{h h':Heap}{x e:Addr}{o':HO}
theorem HOk.write (ok:HOk P w H h) (mu:Mut (H x)) (he:e=x\/H e=some (.own x)) (k:∀ b u,b≠e->h.get? b=some u->h'.get? b=some u) (heo:∃ u,h'.get? e=some u)
  (new:zxp P w (upd H x o') h' x o'):HOk P w (upd H x o') h':=λ b u q=>by
 have nown:∀ c y,H c=some (.own y)->c≠x:=λ c y r z=>by subst z;rw [r] at mu;exact mu
 have ntup:∀ c xs,H c=some (.tup xs)->c≠x:=λ c xs r z=>by subst z;rw [r] at mu;exact mu
 by_cases hb:b=x
 ·subst hb;rw [zqe] at q;cases q;exact new
 ·rw [zqf hb] at q;by_cases hbe:b=e
  ·have q':H b=some (.own x):=by
    rcases he with z | z
    ·exact absurd (hbe.trans z) hb
    ·rw [hbe];exact z
   rw [q] at q';cases q';obtain ⟨v,hv⟩:=heo;exact ⟨v,by rw [hbe];exact hv⟩
  ·refine (ok b u q).stay (λ c v hc r=>k c v ?_ r) (λ c r=>by rw [zqf (nown c b r)];exact r) λ c xs r=>by rw [zqf (ntup c xs r)];exact r
   rcases hc with rfl | hc
   ·exact hbe
   ·rintro rfl;rcases he with z | z
    ·exact nown c b hc z
    ·rw [hc] at z;cases z;exact hb rfl
end
structure Un (fs ex:List Addr) (H H':Hp) (h h':Heap):Prop where
 keep:∀ b o,h.get? b=some o->H b=none->b∉fs->b∉ex->h'.get? b=some o
 slot:∀ b o,h.get? b=some o->H b=none->b∈fs->b∉ex->∃ sl,h'.get? b=some { o with slots:=sl }
 free:∀ b o,h.get? b=some o->H b=none->b∉ex->H' b=none
 there:∀ b o,h.get? b=some o->b∉ex->∃ o',h'.get? b=some o'
 tups:∀ b xs,H b=some (.tup xs)->H' b=some (.tup xs)
 frzs:∀ b o u,H b=some (.frz o u)->H' b=some (.frz o u)
 tbls:∀ b ps,H b=some (.tbl ps)->∃ more,H' b=some (.tbl (ps++more))
section
variable {fs fs' ex ex':List Addr}{H H1 H2:Hp}{h h1 h2 h':Heap}{a x e:Addr}{o:HO}
theorem Un.any (u:Un fs ex H H1 h h1) {b:Addr}{ob:Obj} (q:h.get? b=some ob) (n:H b=none) (hx:b∉ex):∃ sl,h1.get? b=some { ob with slots:=sl }:=by
 by_cases hb:b∈fs
 ·exact u.slot b ob q n hb hx
 ·exact ⟨ob.slots,u.keep b ob q n hb hx⟩
theorem Un.kept (k:∀ b u,h.get? b=some u->h'.get? b=some u):Un fs ex H H h h':=
 ⟨λ b ob q _ _ _=>k b ob q,λ b ob q _ _ _=>⟨ob.slots,k b ob q⟩,λ _ _ _ n _=>n,λ b ob q _=>⟨ob,k b ob q⟩,λ _ _ q=>q,λ _ _ _ q=>q,λ _ ps q=>⟨#[],by rw [q];simp⟩⟩
theorem Un.refl:Un fs ex H H h h:=Un.kept λ _ _ q=>q
theorem Un.laid (k:∀ b u,h.get? b=some u->h'.get? b=some u) (hp:h.objs.size<=a) (hn:H a=none):Un fs ex H (upd H a o) h h' where
 keep:=λ b u q _ _ _=>k b u q
 slot:=λ b u q _ _ _=>⟨u.slots,k b u q⟩
 free:=λ b u q n _=>by rw [zqf (jd1 (jb6 (va6 q) hp))];exact n
 there:=λ b u q _=>⟨u,k b u q⟩
 tups:=λ b xs q=>by rw [zqf (zwv q hn)];exact q
 frzs:=λ b u xs q=>by rw [zqf (zwv q hn)];exact q
 tbls:=λ b ps q=>⟨#[],by rw [zqf (zwv q hn),q];simp⟩
theorem Un.write (mu:Mut (H x)) (he:e=x\/H e=some (.own x)) (k:∀ b u,b≠e->h.get? b=some u->h'.get? b=some u) (heo:∃ u,h'.get? e=some u):Un fs ex H (upd H x o) h h':=by
 have hx:∀ b,H b=none->b≠x:=λ b n z=>by subst z;rw [n] at mu;exact mu
 have hb:∀ b,H b=none->b≠e:=λ b n z=>by
  subst z;rcases he with r | r
  ·exact hx b n r
  ·rw [n] at r;cases r
 have hm:∀ b u,H b=some u->¬ Mut (some u)->b≠x:=λ b u q nm z=>by subst z;rw [q] at mu;exact nm mu
 refine ⟨λ b u q n _ _=>k b u (hb b n) q,λ b u q n _ _=>⟨u.slots,k b u (hb b n) q⟩,λ b u q n _=>by rw [zqf (hx b n)];exact n,λ b u q _=>?_,
  λ b xs q=>by rw [zqf (hm b _ q λ z=>z)];exact q,λ b u xs q=>by rw [zqf (hm b _ q λ z=>z)];exact q,λ b ps q=>⟨#[],by rw [zqf (hm b _ q λ z=>z),q];simp⟩⟩
 by_cases hbe:b=e
 ·subst hbe;exact heo
 ·exact ⟨u,k b u hbe q⟩
end
def trk (h:Heap) (H:Hp):List Addr:=(ja7 h.objs.size).filter λ a=>(H a).isSome
def hidT (h:Heap) (H:Hp):Heap:=PySem.W.hideAll h (trk h H)
theorem qgl (h:Heap) (H:Hp):(hidT h H).objs.size=h.objs.size:=PySem.W.hideAll_size _ _
theorem qi3 {h:Heap}{H:Hp}{b:Addr}{o:Obj} (e:h.get? b=some o) (n:H b=none):(hidT h H).get? b=some o:=
 vk6 _ e λ hm=>by
  have q:(H b).isSome=true:=(jd4.mp hm).2;rw [n] at q;simp at q
theorem qmg {h:Heap}{H:Hp}{b:Addr}{o:Obj} (e:(hidT h H).get? b=some o):h.get? b=some o/\H b=none:=by
 have e':h.get? b=some o:=PySem.W.of_hideAll (trk h H) e;refine ⟨e',?_⟩;cases q:H b with
 | none=>rfl
 | some x=>
  have hm:b∈trk h H:=jd4.mpr ⟨jc6.mpr (va6 e'),by simp [q]⟩;have z:(hidT h H).get? b=none:=PySem.W.hideAll_none (trk h H) hm;rw [z] at e;cases e
def qnm (g h:Heap) (L:Addr):List (Addr×Obj):=(ja7 h.objs.size).filterMap λ a=>if a=L\/(g.get? a).isSome=true then none else (h.get? a).map λ o=>(a,o)
def rest (g h:Heap) (L d:Addr):List (Addr×Obj):=(qnm g h L).filter λ p=>decide (p.1≠d)
structure Mod (K:va8) (mg:Str->Option va2) (base:Heap):Prop where
 kin:K.In base
 glob:base.Ns vc6 mg
 blt:∃ mb,base.Ns builtinsNs mb/\∀ x:Str,x ≠ "__name__" -> mb x=vf6 x
 nolimit:base.NoLimit
structure Cx where
 prog:vb0
 w:vb7
 K:va8
 mg:Str->Option va2
 base:Heap
 A:vc3
 N:List Str
 s₀:va3
 H₀:Hp
 env:Env
 outer:List Env
 stack:List Env
 ex:List Addr
 fn:Str->Bool
 calm:Bool
 pn:List (Addr×Obj)
 xe:va2->va3->Prop
def frs (l:List Env):List Addr:=l.filterMap (·.frame)
abbrev Cx.fs (X:Cx):List Addr:=frs X.outer
def Vis (sc:vd4) (x:Str):Prop:=sc.names.lookup x=some .local\/sc.names.lookup x=some .cell\/sc.names.lookup x=some .free
def Loc (sc:vd4) (x:Str):Prop:=sc.names.lookup x=some .local\/sc.names.lookup x=some .cell
def Look (env:Env) (h:Heap) (m:Str->Option va2) (x:Str) (u:va2):Prop:=
 (env.kindOf x=some .local/\m x=some u)\/((env.kindOf x=some .cell\/env.kindOf x=some .free)/\∃ c,env.cells.lookup x=some c/\h.IsCell c (some u))
structure Cx.Ok (X:Cx):Prop where
 mod:Mod X.K X.mg X.base
 kind:X.env.scope.kind=.function
 glob:X.env.globals=vc6
 blt:X.env.builtins=builtinsNs
 above:X.s₀.heap.objs.size<=X.env.locals
 inj:∀ x y c,X.env.cells.lookup x=some c->X.env.cells.lookup y=some c->x=y
 has:∀ x,(X.env.kindOf x=some .cell\/X.env.kindOf x=some .free)->∃ c,X.env.cells.lookup x=some c
 cab:∀ x c,X.fn x=true->X.env.cells.lookup x=some c->X.s₀.heap.objs.size<=c
 hd:X.calm=true->X.A.handled=none
 frames:X.A.frames=some X.stack
 stk:X.stack=X.outer\/(X.stack=X.env::X.outer/\X.env.frame=some X.env.locals)
 exf:∀ b∈X.ex,b≠X.env.locals/\∀ x c,X.env.cells.lookup x=some c->c≠b
 bs:∀ b o,X.base.get? b=some o->X.s₀.heap.get? b=some o/\X.H₀ b=none
 bsz:X.base.objs.size<=X.s₀.heap.objs.size
 noex:∀ b o,X.base.get? b=some o->b∉X.ex
 exfs:∀ b∈X.ex,b∉X.fs
 funs:X.s₀.heap.FunFrames X.base X.outer
 frf:∀ b∈X.fs,X.H₀ b=none
structure Inv (X:Cx) (pins:List (Addr×Obj)) (σ:List (Option V)) (H:Hp) (s:va3):Prop where
 ok:X.Ok
 os:s.os=X.s₀.os
 bare:vi9 s.gens
 base:Un X.fs X.ex X.H₀ H X.s₀.heap s.heap
 loc:∃ m,s.heap.Ns X.env.locals m/\∀ (i:Nat) (x:Str) (v:V),X.N[i]?=some x->σ[i]?=some (some v)->Vis X.env.scope x->∃ u,RelV v u/\Look X.env s.heap m x u
 cell:∀ x c,X.env.cells.lookup x=some c->∃ v,s.heap.IsCell c v
 free:H X.env.locals=none
 freeC:∀ x c,X.env.cells.lookup x=some c->H c=none
 pin:∀ p∈X.pn++pins,s.heap.get? p.1=some p.2/\H p.1=none/\p.1≠X.env.locals/\p.1∉X.fs/\∀ v,p.2.data≠.cell v
 hok:HOk X.prog X.w H s.heap
 len:σ.length=X.N.length
section
variable {X:Cx}{pins:List (Addr×Obj)}{σ:List (Option V)}{H H':Hp}{s:va3}{h':Heap}
theorem Cx.Ok.nofr (ok:X.Ok) {b:Addr}{o:Obj} (e:X.base.get? b=some o):b∉X.fs:=λ hb=>by
 have:=(ok.funs.mem hb).1
 rw [e] at this;cases this
theorem Inv.bs (I:Inv X pins σ H s):∀ b o,X.base.get? b=some o->s.heap.get? b=some o/\H b=none:=λ b o e=>
 ⟨I.base.keep b o (I.ok.bs b o e).1 (I.ok.bs b o e).2 (I.ok.nofr e) (I.ok.noex b o e),I.base.free b o (I.ok.bs b o e).1 (I.ok.bs b o e).2 (I.ok.noex b o e)⟩
theorem Inv.bk (I:Inv X pins σ H s):∀ b o,X.base.get? b=some o->s.heap.get? b=some o:=λ b o e=>(I.bs b o e).1
theorem Inv.mod (I:Inv X pins σ H s):Mod X.K X.mg X.base:=I.ok.mod
theorem Inv.kIn (I:Inv X pins σ H s):X.K.In s.heap:=I.ok.mod.kin.keeps I.bk
theorem Inv.lt (I:Inv X pins σ H s):X.env.locals < s.heap.objs.size:=let ⟨_,hn,_⟩:=I.loc;hn.lt
theorem Inv.sz (I:Inv X pins σ H s):X.s₀.heap.objs.size<=s.heap.objs.size:=jc9 I.ok.above (jl3 I.lt)
theorem Inv.nofs (I:Inv X pins σ H s) {a:Addr} (h:s.heap.objs.size<=a):a∉X.fs:=λ hb=>by
 obtain ⟨_,o,ho,_⟩:=I.ok.funs.mem hb;exact absurd (jb6 (va6 ho) (jc9 I.sz h)) (jd8 _)
theorem Inv.cne (I:Inv X pins σ H s):∀ x c,X.env.cells.lookup x=some c->c≠X.env.locals:=λ x c e z=>by
 obtain ⟨v,o,ho,hd⟩:=I.cell x c e;obtain ⟨m,⟨o',es,ep,ho',hd',_⟩,_⟩:=I.loc;rw [z,ho'] at ho;cases ho;rw [hd'] at hd;cases hd
theorem Inv.funs (I:Inv X pins σ H s):s.heap.FunFrames X.base X.outer:=by
 have all:∀ (l:List Env),(∀ b∈frs l,b∈X.fs)->X.s₀.heap.FunFrames X.base l->s.heap.FunFrames X.base l:=by
  intro l;induction l with
  | nil=>intro _ _;trivial
  | cons env r ih=>
   intro hs hl;obtain ⟨hk,⟨L,o,hf,hn,ho,hd⟩,hr⟩:=hl;have hL:L∈X.fs:=hs L (by unfold frs;rw [ji9,hf];exact ja2);obtain ⟨sl,e⟩:=I.base.slot L o ho (I.ok.frf L hL) hL λ z=>I.ok.exfs L z hL;exact ⟨hk,⟨L,_,hf,hn,e,hd⟩,ih (λ b hb=>hs b (by unfold frs;rw [ji9,hf];exact ja1 _ hb)) hr⟩
 exact all X.outer (λ _ hb=>hb) I.ok.funs
theorem Inv.stack (I:Inv X pins σ H s):s.heap.FunFrames X.base X.stack:=by
 rcases I.ok.stk with e | ⟨e,hf⟩
 ·rw [e];exact I.funs
 ·rw [e];obtain ⟨m,hn,_⟩:=I.loc;refine .cons (by rw [I.ok.kind];decide) hf hn ?_ I.funs;exact Heap.get?_none_of_le (jc9 I.ok.bsz I.ok.above)
theorem Inv.stkSub (I:Inv X pins σ H s):∀ b∈frs X.stack,b∈X.env.locals::X.fs:=λ b hb=>by
 rcases I.ok.stk with e | ⟨e,hf⟩
 ·rw [e] at hb;exact ja1 _ hb
 ·rw [e] at hb;unfold frs at hb;rw [ji9,hf] at hb;exact hb
theorem Inv.stkFree (I:Inv X pins σ H s):∀ b∈frs X.stack,H b=none:=λ b hb=>by
 rcases jc0.mp (I.stkSub b hb) with e | hb
 ·rw [e];exact I.free
 ·obtain ⟨_,o,ho,_⟩:=I.ok.funs.mem hb;exact I.base.free b o ho (I.ok.frf b hb) λ z=>I.ok.exfs b z hb
theorem Inv.step {g':Array GenState}{t':Nat}{d':Drawn}{ch:List Addr} (I:Inv X pins σ H s)
  (hch:∀ b∈ch,(b∈X.ex\/X.s₀.heap.objs.size<=b)/\b≠X.env.locals/\(∀ x c,X.env.cells.lookup x=some c->c≠b)/\∀ p∈X.pn++pins,p.1≠b)
  (keep:∀ b o,b≠X.env.locals->b∉X.fs->b∉ch->s.heap.get? b=some o->H b=none->h'.get? b=some o)
  (slot:∀ b o,b≠X.env.locals->b∈X.fs->b∉ch->s.heap.get? b=some o->H b=none->∃ sl,h'.get? b=some { o with slots:=sl }) (free:∀ b o,b∉ch->s.heap.get? b=some o->H b=none->H' b=none)
  (there:∀ b o,b∉ch->s.heap.get? b=some o->∃ o',h'.get? b=some o')
  (tups:∀ b xs,H b=some (.tup xs)->H' b=some (.tup xs)) (frzs:∀ b o u,H b=some (.frz o u)->H' b=some (.frz o u)) (tbls:∀ b ps,H b=some (.tbl ps)->∃ more,H' b=some (.tbl (ps++more)))
  (ns:∀ m,s.heap.Ns X.env.locals m->h'.Ns X.env.locals m) (hok:HOk X.prog X.w H' h') (hg:vi9 g'):
  Inv X pins σ H' { s with heap:=h',gens:=g',drawn:=d',toks:=t' }:=by
 have neL:∀ b o,X.s₀.heap.get? b=some o->b≠X.env.locals:=λ b o e=>jd1 (jb6 (va6 e) I.ok.above);have neC:∀ b o,X.s₀.heap.get? b=some o->b∉X.ex->b∉ch:=λ b o e hx hb=>by
  rcases (hch b hb).1 with z | z
  ·exact hx z
  ·exact absurd (jb6 (va6 e) z) (jd8 _)
 have cellK:∀ x c,X.env.cells.lookup x=some c->∀ v,s.heap.IsCell c v->h'.IsCell c v:=λ x c e v ⟨o,ho,hd⟩=>by
  have nch:c∉ch:=λ z=>(hch c z).2.2.1 x c e rfl;by_cases hc:c∈X.fs
  ·obtain ⟨sl,q⟩:=slot c o (I.cne x c e) hc nch ho (I.freeC x c e);exact ⟨_,q,hd⟩
  ·exact ⟨o,keep c o (I.cne x c e) hc nch ho (I.freeC x c e),hd⟩
 refine ⟨I.ok,I.os,hg,⟨λ b o e n hb hx=>?_,λ b o e n hb hx=>?_,λ b o e n hx=>?_,λ b o e hx=>?_,λ b xs e=>tups b xs (I.base.tups b xs e),λ b o xs e=>frzs b o xs (I.base.frzs b o xs e),λ b ps e=>?_⟩,?_,λ x c e=>?_,?_,λ x c e=>?_,λ p hp=>?_,hok,I.len⟩
 ·exact keep b o (neL b o e) hb (neC b o e hx) (I.base.keep b o e n hb hx) (I.base.free b o e n hx)
 ·obtain ⟨sl,e1⟩:=I.base.slot b o e n hb hx;obtain ⟨sl',e2⟩:=slot b _ (neL b o e) hb (neC b o e hx) e1 (I.base.free b o e n hx);exact ⟨sl',e2⟩
 ·obtain ⟨o',e1⟩:=I.base.there b o e hx;exact free b o' (neC b o e hx) e1 (I.base.free b o e n hx)
 ·obtain ⟨o',e1⟩:=I.base.there b o e hx;exact there b o' (neC b o e hx) e1
 ·obtain ⟨m1,e1⟩:=I.base.tbls b ps e;obtain ⟨m2,e2⟩:=tbls b _ e1;exact ⟨m1++m2,by rw [e2,jo1]⟩
 ·obtain ⟨m,hn,hl⟩:=I.loc;refine ⟨m,ns m hn,λ i x v e1 e2 e3=>?_⟩;obtain ⟨u,r,l⟩:=hl i x v e1 e2 e3;refine ⟨u,r,?_⟩;rcases l with l | ⟨k,c,e,z⟩
  ·exact .inl l
  ·exact .inr ⟨k,c,e,cellK x c e _ z⟩
 ·obtain ⟨v,z⟩:=I.cell x c e;exact ⟨v,cellK x c e v z⟩
 ·obtain ⟨m,⟨o,_,_,ho,_⟩,_⟩:=I.loc;exact free _ o (λ z=>(hch _ z).2.1 rfl) ho I.free
 ·obtain ⟨v,o,ho,hd⟩:=I.cell x c e;exact free c o (λ z=>(hch c z).2.2.1 x c e rfl) ho (I.freeC x c e)
 ·obtain ⟨e,n,ne,nf,d⟩:=I.pin p hp;have nch:p.1∉ch:=λ z=>(hch p.1 z).2.2.2 p hp rfl;exact ⟨keep p.1 p.2 ne nf nch e n,free p.1 p.2 nch e n,ne,nf,d⟩
theorem Inv.un {t':Nat} (I:Inv X pins σ H s) (u:Un X.fs [] H H' s.heap h') (hok:HOk X.prog X.w H' h'):Inv X pins σ H' { s with heap:=h',toks:=t' }:=by
 obtain ⟨m,⟨o,es,ep,ho,r⟩,_⟩:=id I.loc;obtain ⟨sl,hL⟩:=u.any ho I.free (by simp);exact I.step (g':=s.gens) (d':=s.drawn) (ch:=[]) (λ _ z=>nomatch z) (λ b o _ hb _ e n=>u.keep b o e n hb (by simp)) (λ b o _ hb _ e n=>u.slot b o e n hb (by simp)) (λ b o _ e n=>u.free b o e n (by simp)) (λ b o _ e=>u.there b o e (by simp)) u.tups u.frzs u.tbls (λ m' hm=>by
  obtain ⟨o',es',ep',ho',r'⟩:=hm;rw [ho] at ho';cases ho';exact ⟨_,es',ep',hL,r'⟩) hok I.bare
theorem Inv.call {g':Array GenState}{t':Nat}{d':Drawn}{ch:List Addr} (I:Inv X pins σ H s) (u:Un (frs X.stack) ch H H' s.heap h') (hok:HOk X.prog X.w H' h') (hg:vi9 g')
  (hch:∀ b∈ch,(b∈X.ex\/X.s₀.heap.objs.size<=b)/\b≠X.env.locals/\(∀ x c,X.env.cells.lookup x=some c->c≠b)/\∀ p∈X.pn++pins,p.1≠b):
  Inv X pins σ H' { s with heap:=h',gens:=g',drawn:=d',toks:=t' }:=by
 obtain ⟨m,⟨o,es,ep,ho,r⟩,_⟩:=id I.loc;obtain ⟨sl,hL⟩:=u.any ho I.free λ z=>(hch _ z).2.1 rfl;exact I.step (ch:=ch) hch (λ b o hL hb hc e n=>u.keep b o e n (λ z=>(jc0.mp (I.stkSub b z)).elim hL hb) hc) (λ b o _ _ hc e n=>u.any e n hc) (λ b o hc e n=>u.free b o e n hc) (λ b o hc e=>u.there b o e hc) u.tups u.frzs u.tbls (λ m' hm=>by
  obtain ⟨o',es',ep',ho',r'⟩:=hm;rw [ho] at ho';cases ho';exact ⟨_,es',ep',hL,r'⟩) hok hg
theorem Inv.turned {t':Nat}{it:Addr} (I:Inv X pins σ H s) (k:∀ b o,b≠it->s.heap.get? b=some o->h'.get? b=some o) (hn:H it=none) (hL:it≠X.env.locals)
  (h1:it∈X.ex\/X.s₀.heap.objs.size<=it) (h2:∀ x c,X.env.cells.lookup x=some c->c≠it) (h3:∀ p∈X.pn++pins,p.1≠it):Inv X pins σ H { s with heap:=h',toks:=t' }:=by
 have nit:∀ b u,H b=some u->b≠it:=λ b u e z=>by rw [z,hn] at e;cases e
 refine I.step (g':=s.gens) (d':=s.drawn) (ch:=[it]) (λ b hb=>?_) (λ b o _ _ hc e _=>k b o (λ z=>hc (by simp [z])) e) (λ b o _ _ hc e _=>⟨o.slots,k b o (λ z=>hc (by simp [z])) e⟩) (λ _ _ _ _ n=>n)
  (λ b o hc e=>⟨o,k b o (λ z=>hc (by simp [z])) e⟩) (λ _ _ e=>e) (λ _ _ _ e=>e) (λ b ps e=>⟨#[],by rw [e];simp⟩) (λ m hm=>?_) (λ b u e=>?_) I.bare
 ·have e:b=it:=by simpa using hb
  subst e;exact ⟨h1,hL,h2,h3⟩
 ·obtain ⟨o,es,ep,ho,r⟩:=hm;exact ⟨o,es,ep,k _ o (vb9 hL) ho,r⟩
 ·refine (I.hok b u e).stay (λ c v hc q=>k c v ?_ q) (λ _ q=>q) λ _ _ q=>q;rcases hc with z | z
  ·rw [z];exact nit b u e
  ·exact nit c _ z
theorem Inv.tok (I:Inv X pins σ H s) (t:Nat):Inv X pins σ H { s with toks:=t }:=I.un (h':=s.heap) (t':=t) Un.refl I.hok
theorem Inv.kept {t':Nat} (I:Inv X pins σ H s) (k:∀ b u,s.heap.get? b=some u->h'.get? b=some u):Inv X pins σ H { s with heap:=h',toks:=t' }:=I.un (Un.kept k) (I.hok.kept k)
theorem Inv.laid {a:Addr}{o:HO}{t':Nat} (I:Inv X pins σ H s) (k:∀ b u,s.heap.get? b=some u->h'.get? b=some u) (hp:s.heap.objs.size<=a) (new:zxp X.prog X.w (upd H a o) h' a o):
  Inv X pins σ (upd H a o) { s with heap:=h',toks:=t' }:=I.un (Un.laid k hp (I.hok.fresh hp)) (I.hok.laid k hp new)
theorem Inv.write {x e:Addr}{o:HO}{t':Nat} (I:Inv X pins σ H s) (mu:Mut (H x)) (he:e=x\/H e=some (.own x)) (k:∀ b u,b≠e->s.heap.get? b=some u->h'.get? b=some u) (heo:∃ u,h'.get? e=some u)
  (new:zxp X.prog X.w (upd H x o) h' x o):Inv X pins σ (upd H x o) { s with heap:=h',toks:=t' }:=I.un (Un.write mu he k heo) (I.hok.write mu he k heo new)
theorem Inv.pins_of {pins':List (Addr×Obj)} (I:Inv X pins σ H s) (h:∀ p∈pins',s.heap.get? p.1=some p.2/\H p.1=none/\p.1≠X.env.locals/\p.1∉X.fs/\∀ v,p.2.data≠.cell v):Inv X pins' σ H s:=
 ⟨I.ok,I.os,I.bare,I.base,I.loc,I.cell,I.free,I.freeC,λ p hp=>(jd0.mp hp).elim (λ z=>I.pin p (ja8 _ z)) (h p),I.hok,I.len⟩
theorem qci {N:List Str} (hN:N.Nodup) {i j:Nat}{x:Str} (a:N[i]?=some x) (b:N[j]?=some x):i=j:=by
 obtain ⟨h1,e1⟩:=jb2.mp a;obtain ⟨h2,e2⟩:=jb2.mp b;exact (List.getElem_inj hN).mp (e1.trans e2.symm)
theorem zgv {M:Model}{A:vc3}{E:va2->va3->Prop}{i:Nat}{x:Str}{v:V}{u:va2}{Q:Unit->va3->Prop} (I:Inv X pins σ H s) (hN:X.N.Nodup) (hi:X.N[i]?=some x) (hx:Loc X.env.scope x) (r:RelV v u)
  (h:∀ s',Inv X pins (σ.set i (some v)) H s'->(∃ a,vh7 a s.heap s'.heap/\(a=X.env.locals\/X.env.cells.lookup x=some a))->Q () s') (hf:X.fn x=true\/X.env.scope.names.lookup x=some .local:=by first | exact .inl rfl | exact .inr rfl | assumption):vb1 M A (storeName X.env x u) Q E s:=by
 obtain ⟨m,hn,hl⟩:=id I.loc;have hcls:(X.env.scope.kind == .class || (X.env.scope.kind == .module && X.env.locals != X.env.globals))=false:=by rw [I.ok.kind];rfl
 have hiσ:i < σ.length:=by rw [I.len];exact (jb2.mp hi).1
 have cne:=I.cne;have tracked:∀ {a:Addr}{h':Heap},(∃ o,s.heap.get? a=some o/\H a=none)->vh7 a s.heap h'->HOk X.prog X.w H h':=λ {a h'} ha hs b ob e=>by
  obtain ⟨_,_,hfree⟩:=ha;refine (I.hok b ob e).stay (λ c w' hc q=>(hs.2 c ?_).trans q) (λ _ q=>q) λ _ _ q=>q;rintro rfl;rcases hc with rfl | hc
  ·rw [hfree] at e;cases e
  ·rw [hfree] at hc;cases hc
 rcases hx with hk | hk
 ·refine wpAny_storeName_local hk hn (λ h' hn' hs=>?_) hcls;obtain ⟨oL,_,_,hoL,_⟩:=id hn;refine h _ ⟨I.ok,I.os,I.bare,⟨λ b o e n hb hx=>?_,λ b o e n hb hx=>?_,I.base.free,λ b o e hx=>?_,I.base.tups,I.base.frzs,I.base.tbls⟩,⟨_,hn',λ j y v' e1 e2 e3=>?_⟩,λ y c e=>?_,I.free,I.freeC,λ p hp=>?_,tracked ⟨oL,hoL,I.free⟩ hs,by simpa using I.len⟩ ⟨_,hs,.inl rfl⟩
  ·exact (hs.2 b (jd1 (jb6 (va6 e) I.ok.above))).trans (I.base.keep b o e n hb hx)
  ·obtain ⟨sl,e1⟩:=I.base.slot b o e n hb hx;exact ⟨sl,(hs.2 b (jd1 (jb6 (va6 e) I.ok.above))).trans e1⟩
  ·obtain ⟨o',e1⟩:=I.base.there b o e hx;exact ⟨o',(hs.2 b (jd1 (jb6 (va6 e) I.ok.above))).trans e1⟩
  ·by_cases hj:j=i
   ·subst hj;rw [hi] at e1;cases e1;rw [jc5 hiσ] at e2;cases e2;exact ⟨u,r,.inl ⟨hk,by simp⟩⟩
   ·rw [jc4 (vb9 hj)] at e2;obtain ⟨u',r',q⟩:=hl j y v' e1 e2 e3;refine ⟨u',r',?_⟩;rcases q with ⟨k,e⟩ | ⟨k,c,e,z⟩
    ·refine .inl ⟨k,?_⟩
     have:y≠x:=λ e=>hj (qci hN e1 (e ▸ hi))
     simp [this,e]
    ·exact .inr ⟨k,c,e,z.sameBut hs (cne y c e)⟩
  ·obtain ⟨w',z⟩:=I.cell y c e;exact ⟨w',z.sameBut hs (cne y c e)⟩
  ·obtain ⟨e,n,ne,nf,d⟩:=I.pin p hp;exact ⟨(hs.2 p.1 ne).trans e,n,ne,nf,d⟩
 ·have hfn:X.fn x=true:=by
   rcases hf with z | z
   ·exact z
   ·rw [z] at hk;cases hk
  obtain ⟨c,hc⟩:=I.ok.has x (.inl hk);obtain ⟨w',z⟩:=I.cell x c hc;refine wpAny_storeName_cell I.ok.kind hk hc z (λ h' hc' hs=>?_);obtain ⟨oc,hoc,hocd⟩:=id z;refine h { s with heap:=h' } ⟨I.ok,I.os,I.bare,⟨λ b o e n hb hx=>?_,λ b o e n hb hx=>?_,I.base.free,λ b o e hx=>?_,I.base.tups,I.base.frzs,I.base.tbls⟩,⟨m,hn.sameBut hs (vb9 (cne x c hc)),λ j y v' e1 e2 e3=>?_⟩,λ y c' e=>?_,I.free,I.freeC,λ p hp=>?_,tracked ⟨oc,hoc,I.freeC x c hc⟩ hs,by simpa using I.len⟩ ⟨c,hs,.inr hc⟩
  ·exact (hs.2 b (jd1 (jb6 (va6 e) (I.ok.cab x c hfn hc)))).trans (I.base.keep b o e n hb hx)
  ·obtain ⟨sl,e1⟩:=I.base.slot b o e n hb hx;exact ⟨sl,(hs.2 b (jd1 (jb6 (va6 e) (I.ok.cab x c hfn hc)))).trans e1⟩
  ·obtain ⟨o',e1⟩:=I.base.there b o e hx;exact ⟨o',(hs.2 b (jd1 (jb6 (va6 e) (I.ok.cab x c hfn hc)))).trans e1⟩
  ·by_cases hj:j=i
   ·subst hj;rw [hi] at e1;cases e1;rw [jc5 hiσ] at e2;cases e2;exact ⟨u,r,.inr ⟨.inl hk,c,hc,hc'⟩⟩
   ·rw [jc4 (vb9 hj)] at e2;obtain ⟨u',r',q⟩:=hl j y v' e1 e2 e3;refine ⟨u',r',?_⟩;rcases q with q | ⟨k,c',e,z'⟩
    ·exact .inl q
    ·refine .inr ⟨k,c',e,z'.sameBut hs ?_⟩;rintro rfl;exact hj (qci hN e1 (I.ok.inj _ _ _ e hc ▸ hi))
  ·by_cases hcc:c'=c
   ·subst hcc;exact ⟨_,hc'⟩
   ·obtain ⟨w2,z2⟩:=I.cell y c' e;exact ⟨w2,z2.sameBut hs hcc⟩
  ·obtain ⟨e,n,ne,nf,d⟩:=I.pin p hp;refine ⟨(hs.2 p.1 ?_).trans e,n,ne,nf,d⟩;intro q;rw [q,hoc] at e;have q':oc=p.2:=Option.some.inj e;exact d w' (by rw [<- q'];exact hocd)
theorem zfb {M:Model}{A:vc3}{E:va2->va3->Prop}{i:Nat}{x:Str}{v:V}{u:va2}{Q:Unit->va3->Prop} (I:Inv X pins σ H s) (hN:X.N.Nodup) (hi:X.N[i]?=some x) (hx:Loc X.env.scope x) (r:RelV v u)
  (h:∀ s',Inv X pins (σ.set i (some v)) H s'->Q () s') (hf:X.fn x=true\/X.env.scope.names.lookup x=some .local:=by first | exact .inl rfl | exact .inr rfl | assumption):vb1 M A (storeName X.env x u) Q E s:=
 zgv I hN hi hx r (λ s' I' _=>h s' I') hf
theorem Inv.call' {s':va3}{ch:List Addr} (I:Inv X pins σ H s) (ho:s'.os=s.os) (u:Un (frs X.stack) ch H H' s.heap s'.heap) (hok:HOk X.prog X.w H' s'.heap) (hg:vi9 s'.gens)
  (hch:∀ b∈ch,(b∈X.ex\/X.s₀.heap.objs.size<=b)/\b≠X.env.locals/\(∀ x c,X.env.cells.lookup x=some c->c≠b)/\∀ p∈X.pn++pins,p.1≠b):Inv X pins σ H' s':=by
 obtain ⟨h',g',d',t',o'⟩:=s';have e:o'=s.os:=ho;subst e;exact I.call (g':=g') (t':=t') (d':=d') u hok hg hch
end
abbrev XK:=va2->Option Addr->Hp->Prop
abbrev St:=List (Option V)
abbrev VK:=V->Hp->Prop
abbrev TE:=St->Hp->VK->Prop
abbrev TT:=St->Hp->(Bool->Hp->Prop)->Prop
abbrev TA:=St->Hp->(List V->Hp->Prop)->Prop
structure Ends where
 nx:St->Hp->Prop
 rt:VK
 bk:St->Hp->Prop:=λ _ _=>False
 ct:St->Hp->Prop:=λ _ _=>False
abbrev TS:=Ends->St->Hp->Prop
def EP (X:Cx) (pins:List (Addr×Obj)) (σ:St) (Q:VK) (u:va2) (s':va3):Prop:=∃ v H',Inv X pins σ H' s'/\RelV v u/\Q v H'
def TP (X:Cx) (pins:List (Addr×Obj)) (σ:St) (Q:Bool->Hp->Prop) (b:Bool) (s':va3):Prop:=∃ H',Inv X pins σ H' s'/\Q b H'
def AP (X:Cx) (pins:List (Addr×Obj)) (σ:St) (Q:List V->Hp->Prop) (us:List va2) (s':va3):Prop:=∃ vs H',Inv X pins σ H' s'/\Vals vs us/\Q vs H'
def SP (X:Cx) (pins:List (Addr×Obj)) (D:Ends) (f:Flow) (s':va3):Prop:=
 match f with
 | .next=>∃ σ' H',Inv X pins σ' H' s'/\D.nx σ' H'
 | .brk=>∃ σ' H',Inv X pins σ' H' s'/\D.bk σ' H'
 | .cont=>∃ σ' H',Inv X pins σ' H' s'/\D.ct σ' H'
 | .ret u=>∃ v σ' H',Inv X pins σ' H' s'/\RelV v u/\D.rt v H'
def PE (X:Cx) (e:Expr) (t:TE):Prop:=
 ∀ (pins:List (Addr×Obj)) (s:va3) (σ:St) (H:Hp) (Q:VK),Inv X pins σ H s->t σ H Q->vb1 (vb3 X.prog X.w) X.A (eval e X.env) (EP X pins σ Q) X.xe s
def PT (X:Cx) (e:Expr) (t:TT):Prop:=
 ∀ (pins:List (Addr×Obj)) (s:va3) (σ:St) (H:Hp) (Q:Bool->Hp->Prop),Inv X pins σ H s->t σ H Q->vb1 (vb3 X.prog X.w) X.A (isTrue e X.env (eval e X.env)) (TP X pins σ Q) X.xe s
def PW (X:Cx) (e:Expr) (t:TT):Prop:=
 ∀ (whole:Sem va2) (pins:List (Addr×Obj)) (s:va3) (σ:St) (H:Hp) (Q:Bool->Hp->Prop),Inv X pins σ H s->t σ H Q->vb1 (vb3 X.prog X.w) X.A (isTrue e X.env whole) (TP X pins σ Q) X.xe s
theorem PW.pt {X:Cx}{e:Expr}{t:TT} (h:PW X e t):PT X e t:=h _
def PA (X:Cx) (es:List Expr) (t:TA):Prop:=
 ∀ (pos:Pos) (pins:List (Addr×Obj)) (s:va3) (σ:St) (H:Hp) (Q:List V->Hp->Prop),Inv X pins σ H s->t σ H Q->vb1 (vb3 X.prog X.w) X.A (spliced (vg4 pos (va9 es X.env))) (AP X pins σ Q) X.xe s
def PS (X:Cx) (st:Stmt) (t:TS):Prop:=
 ∀ (pins:List (Addr×Obj)) (s:va3) (σ:St) (H:Hp) (D:Ends),Inv X pins σ H s->t D σ H->vb1 (vb3 X.prog X.w) X.A (exec st X.env) (SP X pins D) X.xe s
def PSs (X:Cx) (st:List Stmt) (t:TS):Prop:=
 ∀ (pins:List (Addr×Obj)) (s:va3) (σ:St) (H:Hp) (D:Ends),Inv X pins σ H s->t D σ H->vb1 (vb3 X.prog X.w) X.A (execs st X.env) (SP X pins D) X.xe s
theorem thn {α:Type}{t:Sem α}{Q Q':α->va3->Prop}{M:Model}{A:vc3}{E:va2->va3->Prop}{s:va3} (h:vb1 M A t Q E s) (hQ:∀ a s,Q a s->Q' a s):vb1 M A t Q' E s:=vg5 h hQ λ _ _ x=>x
section
variable {X:Cx}
theorem bin {a b:Expr}{ta tb:TE} (ha:PE X a ta) (hb:PE X b tb) {pins:List (Addr×Obj)}{s:va3}{σ:St}{H:Hp}{R:V->V->Hp->Prop} (I:Inv X pins σ H s) (h:ta σ H λ x H1=>tb σ H1 λ y H2=>R x y H2)
  {α:Type}{Q:α->va3->Prop}{f:va2->va2->Sem α}
  (hf:∀ v u s2 x y H2,Inv X pins σ H2 s2->RelV x v->RelV y u->R x y H2->vb1 (vb3 X.prog X.w) X.A (f v u) Q X.xe s2):
  vb1 (vb3 X.prog X.w) X.A (eval a X.env) (λ v s₁=>vb1 (vb3 X.prog X.w) X.A (eval b X.env) (λ u s₂=>vb1 (vb3 X.prog X.w) X.A (f v u) Q X.xe s₂) X.xe s₁) X.xe s:=by
 refine thn (ha pins s σ H _ I h) λ v s1 ⟨x,H1,I1,r1,q1⟩=>?_;refine thn (hb pins s1 σ H1 _ I1 q1) λ u s2 ⟨y,H2,I2,r2,q2⟩=>?_;exact hf v u s2 x y H2 I2 r1 r2 q2
def tVar (i:Nat):TE:=λ σ H Q=>∃ v,σ[i]?=some (some v)/\Q v H
def tC (v:V):TE:=λ _ H Q=>Q v H
theorem qpe {i:Nat}{x:Str}{pos:Pos} (hN:X.N[i]?=some x) (hv:Vis X.env.scope x) (hd:(x == ("__debug__" : Str))=false:=by decide) (hcd:(x == ("__classdict__" : Str))=false:=by decide):PE X (.Name x pos) (tVar i):=by
 intro pins s σ H Q I h;obtain ⟨v,e,h⟩:=h;obtain ⟨m,hn,hl⟩:=I.loc;obtain ⟨u,r,l⟩:=hl i x v hN e hv;have fin:EP X pins σ Q u s:=⟨v,H,I,r,h⟩
 rcases l with ⟨hk,hm⟩ | ⟨hk,c,hc,hcell⟩
 ·exact wpAny_Name (wpAny_loadName_local I.ok.kind hk hn hm fin) hd
 ·rcases hk with hk | hk
  ·exact wpAny_Name (wpAny_loadName_cell I.ok.kind hk hc hcell fin) hd
  ·exact wpAny_Name (wpAny_loadName_free I.ok.kind hk hc hcell fin hcd) hd
theorem qkb {i j pos}:PE X (.Constant (.int i) j pos) (tC (.int i)):=λ _ _ _ H _ I h=>wpAny_Constant_int ⟨.int i,H,I.tok _,⟨_,rfl⟩,h⟩
theorem qrd {b j pos}:PE X (.Constant (.bool b) j pos) (tC (.bl b)):=λ _ _ _ H _ I h=>Constant_bool ⟨.bl b,H,I,rfl,h⟩
theorem qpi {j pos}:PE X (.Constant .none j pos) (tC .non):=λ _ _ _ H _ I h=>Constant_none ⟨.non,H,I,rfl,h⟩
theorem qpg {x j pos}:PE X (.Constant (.str x) j pos) (tC (.str x)):=λ _ _ _ H _ I h=>Calls.Constant_str ⟨.str x,H,I.tok _,⟨_,rfl⟩,h⟩
def Gl (X:Cx) (x:Str):Prop:=X.env.kindOf x=some .globalImplicit
theorem qmr {E:va2->va3->Prop}{pins:List (Addr×Obj)}{s:va3}{σ:St}{H:Hp}{x:Str}{u:va2}{pos:Pos}{Q:va2->va3->Prop} (I:Inv X pins σ H s) (hg:Gl X x) (hm:X.mg x=some u) (h:Q u s)
  (hd:(x == ("__debug__" : Str))=false:=by decide):vb1 (vb3 X.prog X.w) X.A (eval (.Name x pos) X.env) Q E s:=
 vo2 I.ok.kind hg (Calls.loadGlobal_global (by rw [I.ok.glob];exact I.mod.glob.keeps I.bk) hm h) hd
theorem zvr {E:va2->va3->Prop}{pins:List (Addr×Obj)}{s:va3}{σ:St}{H:Hp}{x:Str}{u:va2}{pos:Pos}{Q:va2->va3->Prop} (I:Inv X pins σ H s) (hg:Gl X x) (hm:X.mg x=none) (hv:vf6 x=some u) (h:Q u s)
  (hn:x ≠ "__name__" := by decide) (hd:(x == ("__debug__" : Str))=false:=by decide):vb1 (vb3 X.prog X.w) X.A (eval (.Name x pos) X.env) Q E s:=by
 obtain ⟨mb,h1,h2⟩:=I.mod.blt;exact vo2 I.ok.kind hg (Calls.loadGlobal_builtin (by rw [I.ok.glob];exact I.mod.glob.keeps I.bk) hm (by rw [I.ok.blt];exact h1.keeps I.bk) ((h2 x hn).trans hv) h) hd
theorem ql8 {x:Str}{v:V}{u:va2}{pos:Pos} (hg:Gl X x) (hm:X.mg x=none) (hv:vf6 x=some u) (r:RelV v u) (hn:x ≠ "__name__" := by decide) (hd:(x == ("__debug__" : Str))=false:=by decide):PE X (.Name x pos) (tC v):=
 λ _ _ _ H _ I h=>zvr I hg hm hv ⟨v,H,I,r,h⟩ hn hd
variable {a b:Expr}{ta tb:TE}{pos:Pos}
def PC (X:Cx) (op:vo0) (a b:Expr) (t:TE):Prop:=
 ∀ (pins:List (Addr×Obj)) (s:va3) (σ:St) (H:Hp) (Q:VK),Inv X pins σ H s->t σ H Q ->
  vb1 (vb3 X.prog X.w) X.A (eval a X.env) (λ v s₁=>vb1 (vb3 X.prog X.w) X.A (eval b X.env) (λ u s₂=>vb1 (vb3 X.prog X.w) X.A (vb6 op v u) (EP X pins σ Q) X.xe s₂) X.xe s₁) X.xe s
theorem zwi (b:Expr) {op:vo0} (h:op≠.In) (h2:op≠.NotIn):vh0 op b=false:=by
 have e1:(op == CmpOp.In)=false:=by cases op <;> first | rfl | exact absurd rfl h
 have e2:(op == CmpOp.NotIn)=false:=by cases op <;> first | rfl | exact absurd rfl h2
 cases b <;> simp [vh0,e1,e2]
def tB (t:TE):TT:=λ σ H Q=>t σ H λ x H1=>∃ c,x=.bl c/\Q c H1
theorem qo5 {e:Expr}{t:TE} (h:PE X e t) (he:∀ whole,isTrue e X.env whole=(do let v<-whole;standAt e.pos;vl3 [v] (truthy v)):=by intro _;rfl):PT X e (tB t):=by
 intro pins s σ H Q I hw;refine isTrue_plain (thn (h pins s σ H _ I hw) λ v s1 ⟨x,H1,I1,r1,q1⟩=>?_) (he _);obtain ⟨d,rfl,q⟩:=q1;cases r1;exact vc1 ⟨H1,I1,q⟩
variable {tA tB':TT}{rest:List Expr}
def tAnd (t u:TT):TT:=λ σ H Q=>t σ H λ c H1=>if c=true then u σ H1 Q else Q false H1
def tOr (t u:TT):TT:=λ σ H Q=>t σ H λ c H1=>if c=true then Q true H1 else u σ H1 Q
def tNot (t:TT):TT:=λ σ H Q=>t σ H λ c H1=>Q (!c) H1
theorem qlp (ha:PT X a tA):PW X (.BoolOp .And [a] pos) tA:=by
 intro wh pins s σ H Q I h;refine isTrue_and (thn (ha pins s σ H Q I h) λ c s1 e=>?_);cases c with
 | true=>exact isTrue_and_nil e
 | false=>exact e
theorem qo3 (ha:PT X a tA):PW X (.BoolOp .Or [a] pos) tA:=by
 intro wh pins s σ H Q I h;refine isTrue_or (thn (ha pins s σ H Q I h) λ c s1 e=>?_);cases c with
 | false=>exact isTrue_or_nil e
 | true=>exact e
theorem qo4 (ha:PT X a tA) (hb:PW X (.BoolOp .And (b::rest) pos) tB'):PW X (.BoolOp .And (a::b::rest) pos) (tAnd tA tB'):=by
 intro wh pins s σ H Q I h;refine isTrue_and (thn (ha pins s σ H _ I h) λ c s1 ⟨H1,I1,q1⟩=>?_);cases c with
 | true=>exact hb wh pins s1 σ H1 Q I1 q1
 | false=>exact ⟨H1,I1,q1⟩
theorem qq8 (ha:PT X a tA) (hb:PW X (.BoolOp .Or (b::rest) pos) tB'):PW X (.BoolOp .Or (a::b::rest) pos) (tOr tA tB'):=by
 intro wh pins s σ H Q I h;refine isTrue_or (thn (ha pins s σ H _ I h) λ c s1 ⟨H1,I1,q1⟩=>?_);cases c with
 | true=>exact ⟨H1,I1,q1⟩
 | false=>exact hb wh pins s1 σ H1 Q I1 q1
theorem qo6 (ha:PT X a tA):PT X (.UnaryOp .Not a pos) (tNot tA):=by
 intro pins s σ H Q I h;exact isTrue_not (ha pins s σ H (λ c H1=>Q (!c) H1) I h)
def qof (ta tb:TE):TE:=λ σ H Q=>ta σ H λ x H1=>∃ c,x=.bl c/\if c=true then tb σ H1 Q else Q (.bl false) H1
def tOrV (ta tb:TE):TE:=λ σ H Q=>ta σ H λ x H1=>∃ c,x=.bl c/\if c=true then Q (.bl true) H1 else tb σ H1 Q
def qn8 (ta:TE):TE:=λ σ H Q=>ta σ H λ x H1=>∃ c,x=.bl c/\Q (.bl (!c)) H1
theorem qj9 {op}{t:TE} (h:PE X a t):PE X (.BoolOp op [a] pos) t:=λ pins s σ H Q I hw=>BoolOp_one (h pins s σ H Q I hw)
theorem qpl (ha:PE X a ta) (hb:PE X (.BoolOp .And (b::rest) pos) tb):PE X (.BoolOp .And (a::b::rest) pos) (qof ta tb):=by
 intro pins s σ H Q I h;refine BoolOp_and (thn (ha pins s σ H _ I h) λ v s1 ⟨x,H1,I1,r1,q1⟩=>?_);obtain ⟨c,rfl,q1⟩:=q1;cases r1;refine vc1 ?_;cases c with
 | true=>exact hb pins s1 σ H1 Q I1 q1
 | false=>exact ⟨.bl false,H1,I1,rfl,q1⟩
theorem pe_or (ha:PE X a ta) (hb:PE X (.BoolOp .Or (b::rest) pos) tb):PE X (.BoolOp .Or (a::b::rest) pos) (tOrV ta tb):=by
 intro pins s σ H Q I h;refine BoolOp_or (thn (ha pins s σ H _ I h) λ v s1 ⟨x,H1,I1,r1,q1⟩=>?_);obtain ⟨c,rfl,q1⟩:=q1;cases r1;refine vc1 ?_;cases c with
 | false=>exact hb pins s1 σ H1 Q I1 q1
 | true=>exact ⟨.bl true,H1,I1,rfl,q1⟩
theorem qph (ha:PE X a ta):PE X (.UnaryOp .Not a pos) (qn8 ta):=by
 intro pins s σ H Q I h;refine UnaryOp_ (thn (ha pins s σ H _ I h) λ v s1 ⟨x,H1,I1,r1,q1⟩=>?_);obtain ⟨c,rfl,q1⟩:=q1;cases r1;exact not_of (vc1 ⟨.bl (!c),H1,I1,rfl,q1⟩)
def tIf (t:TT) (ta tb:TE):TE:=λ σ H Q=>t σ H λ c H1=>if c=true then ta σ H1 Q else tb σ H1 Q
theorem qif {c:Expr} (hc:PT X c tA) (ha:PE X a ta) (hb:PE X b tb):PE X (.IfExp c a b pos) (tIf tA ta tb):=by
 intro pins s σ H Q I h;refine wpAny_IfExp (thn (hc pins s σ H _ I h) λ d s1 ⟨H1,I1,q1⟩=>?_);cases d with
 | true=>exact ha pins s1 σ H1 Q I1 q1
 | false=>exact hb pins s1 σ H1 Q I1 q1
end
def SqL (K:va8) (H:Hp) (a:Addr) (xs:List V):Prop:=
 Rd H a (.lst xs) \/
  ∃ (o:Obj) (its:Array va2) (n:Nat),K.lookup a=some o/\o.cls=.type "list" /\ o.dict=none/\o.data=.seq its n/\its.size<=va5/\Vals xs its.toList
def SqT (K:va8) (H:Hp) (a:Addr) (xs:List V):Prop:=
 Rd H a (.tup xs) \/
  ∃ (o:Obj) (its:Array va2) (n:Nat),K.lookup a=some o/\o.cls=.type "tuple" /\ o.data=.seq its n/\its.size<=va5/\Vals xs its.toList
def absV:va2->Option V
 | .none=>some .non
 | .bool b=>some (.bl b)
 | .int i _=>some (.int i)
 | .str x _=>some (.str x)
 | .bytes b _=>some (.byt b)
 | .float b _=>some (.flt b)
 | .ref a=>some (.ref a)
 | .type n=>some (.ty n)
 | _=>none
theorem RelV.abs {x:V}{u:va2} (r:RelV x u):absV u=some x:=by
 cases x with
 | non=>cases r;rfl
 | bl _=>cases r;rfl
 | int _=>obtain ⟨t,rfl⟩:=r;rfl
 | str _=>obtain ⟨t,rfl⟩:=r;rfl
 | byt _=>obtain ⟨t,rfl⟩:=r;rfl
 | flt _=>obtain ⟨t,rfl⟩:=r;rfl
 | ref _=>cases r;rfl
 | ty _=>cases r;rfl
theorem RelV.inj {x y:V}{u:va2} (r:RelV x u) (q:RelV y u):x=y:=Option.some.inj (r.abs.symm.trans q.abs)
theorem Vals.inj:∀ {xs ys:List V}{us:List va2},Vals xs us->Vals ys us->xs=ys
 | _,_,_,.nil,.nil=>rfl
 | _,_,_,.cons r t,.cons r' t'=>by rw [r.inj r',Vals.inj t t']
section
variable {X:Cx}{pins:List (Addr×Obj)}{σ:St}{H:Hp}{s:va3}{a:Addr}{xs ys:List V}
theorem Inv.list (I:Inv X pins σ H s) (h:SqL X.K H a xs):∃ its:List va2,Vals xs its/\PlainL s.heap a its.toArray/\xs.length<=va5:=by
 rcases h with h | ⟨o,its,n,hk,hc,hd,hs,hz,r⟩
 ·obtain ⟨z,its,n,r,e⟩:=h.ok I.hok;exact ⟨its,r,⟨_,n,e,rfl,rfl,rfl⟩,z⟩
 ·refine ⟨its.toList,r,⟨o,n,I.kIn a o hk,hc,hd,by simpa using hs⟩,?_⟩;have e:=r.length;simp only [jf4] at e;omega
theorem Inv.tuple (I:Inv X pins σ H s) (h:SqT X.K H a xs):∃ its:List va2,Vals xs its/\IsTup s.heap a its.toArray/\xs.length<=va5:=by
 rcases h with h | ⟨o,its,n,hk,hc,hs,hz,r⟩
 ·obtain ⟨z,its,r,p⟩:=h.ok I.hok;exact ⟨its,r,p,z⟩
 ·refine ⟨its.toList,r,⟨o,I.kIn a o hk,hc,n,by simpa using hs⟩,?_⟩;have e:=r.length;simp only [jf4] at e;omega
theorem Inv.list_inj (I:Inv X pins σ H s) (h:SqL X.K H a xs) (h':SqL X.K H a ys):xs=ys:=by
 obtain ⟨its,r,⟨o,n,e,_,_,d⟩,_⟩:=I.list h;obtain ⟨its',r',⟨o',n',e',_,_,d'⟩,_⟩:=I.list h';rw [e] at e';cases e';rw [d] at d';injection d' with d1 _
 have:its=its':=by simpa using congrArg jq9 d1
 subst this;exact r.inj r'
theorem Inv.tuple_inj (I:Inv X pins σ H s) (h:SqT X.K H a xs) (h':SqT X.K H a ys):xs=ys:=by
 obtain ⟨its,r,⟨o,e,_,n,d⟩,_⟩:=I.tuple h;obtain ⟨its',r',⟨o',e',_,n',d'⟩,_⟩:=I.tuple h';rw [e] at e';cases e';rw [d] at d';injection d' with d1 _
 have:its=its':=by simpa using congrArg jq9 d1
 subst this;exact r.inj r'
end
section
variable {X:Cx}{pins:List (Addr×Obj)}{σ:St}{H:Hp}{s:va3}{E:va2->va3->Prop}
end
section
variable {X:Cx}{st:Stmt}{rest:List Stmt}{t u:TS}{e:Expr}{te:TE}{pos:Pos}
def qn9:TS:=λ D σ H=>D.nx σ H
def tSeq (t u:TS):TS:=λ D σ H=>t { D with nx:=u D } σ H
theorem qlv:PSs X [] qn9:=λ _ _ σ H _ I h=>vm6 ⟨σ,H,I,h⟩
theorem qic (h1:PS X st t) (h2:PSs X rest u):PSs X (st::rest) (tSeq t u):=by
 intro pins s σ H D I h;refine wpAny_execs_cons (thn (h1 pins s σ H { D with nx:=u D } I h) λ f s1 q=>?_);cases f with
 | next=>
  obtain ⟨σ',H',I',q⟩:=q;exact h2 pins s1 σ' H' D I' q
 | ret v=>exact q
 | brk=>exact q
 | cont=>exact q
theorem qlu (h1:PS X st t):PSs X [st] t:=by
 intro pins s σ H D I h;refine wpAny_execs_cons (thn (h1 pins s σ H D I h) λ f s1 q=>?_);cases f with
 | next=>exact vm6 q
 | ret v=>exact q
 | brk=>exact q
 | cont=>exact q
theorem Inv.quiet {pins:List (Addr×Obj)}{σ:St}{H:Hp}{s:va3} (I:Inv X pins σ H s):interactive X.env=false:=by simp [interactive,I.ok.kind]
def qh1 (te:TE):TS:=λ D σ H=>te σ H λ _ H1=>D.nx σ H1
theorem qav (he:PE X e te) (hs:swapsWith e none pos.line X.env=pure false:=by rfl):PS X (.Expr e pos) (qh1 te):=by
 intro pins s σ H D I h;exact wpAny_Expr_any (thn (he pins s σ H _ I h) λ v s1 ⟨x,H1,I1,r1,q1⟩=>⟨σ,H1,I1,q1⟩) I.quiet hs
def tRet (te:TE):TS:=λ D σ H=>te σ H D.rt
theorem qe3 (he:PE X e te):PS X (.Return (some e) pos) (tRet te):=by
 intro pins s σ H D I h;exact wpAny_Return_some (thn (he pins s σ H _ I h) λ v s1 ⟨x,H1,I1,r1,q1⟩=>⟨x,σ,H1,I1,r1,q1⟩)
def tIfS (c:TT) (t u:TS):TS:=λ D σ H=>c σ H λ b H1=>if b=true then t D σ H1 else u D σ H1
theorem qra {c:Expr}{a b:List Stmt}{tc:TT} (hc:PT X c tc) (ha:PSs X a t) (hb:PSs X b u):PS X (.If c a b pos) (tIfS tc t u):=by
 intro pins s σ H D I h;refine wpAny_If (thn (hc pins s σ H _ I h) λ d s1 ⟨H1,I1,q1⟩=>?_);cases d with
 | true=>exact ha pins s1 σ H1 D I1 q1
 | false=>exact hb pins s1 σ H1 D I1 q1
def qeg:TS:=λ _ _ _=>False
theorem qcb:PS X st qeg:=λ _ _ _ _ _ _ h=>h.elim
end
abbrev TG:=V->St->Hp->(St->Hp->Prop)->Prop
abbrev TGs:=List V->St->Hp->(St->Hp->Prop)->Prop
def PG (X:Cx) (target:Expr) (t:TG):Prop:=
 ∀ (pins:List (Addr×Obj)) (s:va3) (σ:St) (H:Hp) (v:V) (u:va2) (Q:St->Hp->Prop),Inv X pins σ H s->RelV v u->t v σ H Q ->
  vb1 (vb3 X.prog X.w) X.A (vn6 target X.env u) (λ _ s'=>∃ σ' H',Inv X pins σ' H' s'/\Q σ' H') X.xe s
def PGs (X:Cx) (ts:List Expr) (t:TGs):Prop:=
 ∀ (pins:List (Addr×Obj)) (s:va3) (σ:St) (H:Hp) (vs:List V) (us:List va2) (Q:St->Hp->Prop),Inv X pins σ H s->Vals vs us->t vs σ H Q ->
  vb1 (vb3 X.prog X.w) X.A (assignInOrder ((vd1 ts X.env).map (·.2)) us) (λ _ s'=>∃ σ' H',Inv X pins σ' H' s'/\Q σ' H') X.xe s
abbrev TSet:=V->V->V->Hp->(Hp->Prop)->Prop
def PSet (X:Cx) (t:TSet):Prop:=
 ∀ (pins:List (Addr×Obj)) (s:va3) (σ:St) (H:Hp) (o i v:V) (ov iv u:va2) (Q:Hp->Prop),Inv X pins σ H s->RelV o ov->RelV i iv->RelV v u->t o i v H Q ->
  vb1 (vb3 X.prog X.w) X.A (setItem ov iv u) (λ _ s'=>∃ H',Inv X pins σ H' s'/\Q H') X.xe s
abbrev TIp:=V->V->Hp->VK->Prop
def PIp (X:Cx) (op:vi7) (t:TIp):Prop:=
 ∀ (pins:List (Addr×Obj)) (s:va3) (σ:St) (H:Hp) (x y:V) (v u:va2) (Q:VK),Inv X pins σ H s->RelV x v->RelV y u->t x y H Q ->
  vb1 (vb3 X.prog X.w) X.A (inplaceOp op v u) (EP X pins σ Q) X.xe s
section
variable {X:Cx}{pos:Pos}
def zjk (i:Nat):TG:=λ v σ H Q=>Q (σ.set i (some v)) H
theorem zbn {i:Nat}{x:Str} (hN:X.N.Nodup) (hi:X.N[i]?=some x) (hx:Loc X.env.scope x) (hf:X.fn x=true\/X.env.scope.names.lookup x=some .local:=by first | exact .inl rfl | exact .inr rfl | assumption):PG X (.Name x pos) (zjk i):=by
 intro pins s σ H v u Q I r h;exact wpAny_assign_Name (zfb I hN hi hx r (λ s' I'=>⟨_,H,I',h⟩) hf)
def gNil:TGs:=λ vs σ H Q=>vs=[]/\Q σ H
def qql (t:TG) (u:TGs):TGs:=λ vs σ H Q=>∃ v r,vs=v::r/\t v σ H λ σ' H'=>u r σ' H' Q
theorem qfc:PGs X [] gNil:=by
 intro pins s σ H vs us Q I r h;obtain ⟨e,h⟩:=h;subst e;cases r;exact assignInOrder_nil ⟨σ,H,I,h⟩
theorem qcc {e:Expr}{es:List Expr}{t:TG}{u:TGs} (h1:PG X e t) (h2:PGs X es u)
  (hs:(vd1 (e::es) X.env).map (·.2)=vn6 e X.env::(vd1 es X.env).map (·.2):=by rfl):PGs X (e::es) (qql t u):=by
 intro pins s σ H vs us Q I r h;obtain ⟨v,vr,e1,h⟩:=h;subst e1;cases r with
 | cons r rr=>
  rw [hs];refine assignInOrder_cons (thn (h1 pins s σ H _ _ _ I r h) λ _ s1 ⟨σ1,H1,I1,q1⟩=>?_);exact h2 pins s1 σ1 H1 _ _ Q I1 rr q1
def gTup (K:va8) (n:Nat) (t:TGs):TG:=λ v σ H Q=>∃ a xs,v=.ref a/\SqT K H a xs/\xs.length=n/\t xs σ H Q
theorem qfd {es:List Expr}{k:Nat}{t:TGs}{n:Nat} (hc:X.calm=true) (h:PGs X es t)
  (hn:(vd1 es X.env).length=n:=by rfl) (hst:(vd1 es X.env).findIdx? (·.1)=none:=by rfl):PG X (.Tuple es k pos) (gTup X.K n t):=by
 intro pins s σ H v u Q I r hw;obtain ⟨a,xs,e1,hq,hl,hw⟩:=hw;subst e1;cases r;obtain ⟨its,rv,ht,hz⟩:=I.tuple hq;refine assign_Tuple_tuple (I.ok.hd hc) ht (by simp [hn,<- hl,rv.length]) hst λ h' hx=>?_;have I1:Inv X pins σ H { s with heap:=h' }:=I.kept (t':=s.toks) λ b o e=>hx b o (jd1 (va6 e)) e;exact h pins _ σ H xs _ Q I1 (by simpa using rv) hw
def gSub (to ti:TE) (t:TSet):TG:=λ v σ H Q=>to σ H λ o H1=>ti σ H1 λ i H2=>t o i v H2 λ H3=>Q σ H3
theorem qpd {o i:Expr}{to ti:TE}{t:TSet} (ho:PE X o to) (hi:PE X i ti) (hs:PSet X t)
  (ha:∀ v,vn6 (.Subscript o i pos) X.env v=(do
   let ov<-vl3 [v] (eval o X.env);let iv<-vl3 [v,ov] (eval i X.env)
   standAt pos
   vl3 [v,ov,iv] (setItem ov iv v)
   release [v,ov,iv] []):=by intro _;rfl):PG X (.Subscript o i pos) (gSub to ti t):=by
 intro pins s σ H v u Q I r h;rw [ha];refine va0 (vc7 (thn (ho pins s σ H _ I h) λ ov s1 ⟨x,H1,I1,r1,q1⟩=>?_));refine va0 (vc7 (thn (hi pins s1 σ H1 _ I1 q1) λ iv s2 ⟨y,H2,I2,r2,q2⟩=>?_));refine va0 (vk7 (va0 (vc7 (thn (hs pins s2 σ H2 x y v ov iv u _ I2 r1 r2 r q2) λ _ s3 ⟨H3,I3,q3⟩=>?_))));exact wpAny_release ⟨σ,H3,I3,q3⟩
def tAsg (te:TE) (g:TG):TS:=λ D σ H=>te σ H λ x H1=>g x σ H1 D.nx
theorem qj7 {tg e:Expr}{te:TE}{g:TG} (he:PE X e te) (hg:PG X tg g) (hs:swapsWithSole [tg] e pos.line X.env=pure false:=by rfl) (hw:swappedStores [tg] e X.env=pure none:=by rfl)
  (h1:(vd1 [tg] X.env).map (·.2)=[vn6 tg X.env]:=by rfl):PS X (.Assign [tg] e pos) (tAsg te g):=by
 intro pins s σ H D I h;refine wpAny_Assign_stores (thn (he pins s σ H _ I h) λ v s1 ⟨x,H1,I1,r1,q1⟩=>?_) hs hw;rw [h1];exact thn (hg pins s1 σ H1 x v _ I1 r1 q1) λ _ s2 q=>q
theorem qj6 {i:Nat}{x:Str}{e:Expr}{te:TE}{pos':Pos} (hN:X.N.Nodup) (hi:X.N[i]?=some x) (hx:Loc X.env.scope x) (he:PE X e te) (hs:swapsWith e (some (.Name x pos')) pos.line X.env=pure false:=by rfl) (hf:X.fn x=true\/X.env.scope.names.lookup x=some .local:=by first | exact .inl rfl | exact .inr rfl | assumption):
  PS X (.Assign [.Name x pos'] e pos) (tAsg te (zjk i)):=by
 intro pins s σ H D I h;refine wpAny_Assign_Name (thn (he pins s σ H _ I h) λ v s1 ⟨y,H1,I1,r1,q1⟩=>?_) hs;exact zfb I1 hN hi hx r1 (λ s2 I2=>⟨_,H1,I2,q1⟩) hf
def tAug (i:Nat) (te:TE) (ti:TIp):TS:=λ D σ H=>∃ x,σ[i]?=some (some x)/\te σ H λ y H1=>ti x y H1 λ z H2=>D.nx (σ.set i (some z)) H2
theorem qo9 {i:Nat}{x:Str}{e:Expr}{te:TE}{op:vi7}{ti:TIp}{pos':Pos} (hN:X.N.Nodup) (hi:X.N[i]?=some x) (hx:Loc X.env.scope x) (he:PE X e te) (ho:PIp X op ti) (hf:X.fn x=true\/X.env.scope.names.lookup x=some .local:=by first | exact .inl rfl | exact .inr rfl | assumption):
  PS X (.AugAssign (.Name x pos') op e pos) (tAug i te ti):=by
 intro pins s σ H D I h;obtain ⟨v,e1,h⟩:=h;obtain ⟨m,hn,hl⟩:=I.loc;have vis:Vis X.env.scope x:=by rcases hx with k | k;exact .inl k;exact .inr (.inl k)
 obtain ⟨u,r,l⟩:=hl i x v hi e1 vis;refine wpAny_AugAssign_Name ?_;have go:vb1 (vb3 X.prog X.w) X.A (eval e X.env) (λ w s₂=>vb1 (vb3 X.prog X.w) X.A (inplaceOp op u w) (λ r s₃=>vb1 (vb3 X.prog X.w) X.A (storeName X.env x r) (λ _=>SP X pins D .next) X.xe s₃) X.xe s₂) X.xe s:=by
  refine thn (he pins s σ H _ I h) λ w s1 ⟨y,H1,I1,r1,q1⟩=>?_;refine thn (ho pins s1 σ H1 v y u w _ I1 r r1 q1) λ z s2 ⟨zv,H2,I2,r2,q2⟩=>?_;exact zfb I2 hN hi hx r2 (λ s3 I3=>⟨_,H2,I3,q2⟩) hf
 rcases l with ⟨hk,hm⟩ | ⟨hk,c,hc,hcell⟩
 ·exact wpAny_loadName_local I.ok.kind hk hn hm go
 ·rcases hk with hk | hk
  ·exact wpAny_loadName_cell I.ok.kind hk hc hcell go
  ·rcases hx with k | k
   ·have:X.env.scope.names.lookup x=some .free:=hk
    rw [k] at this;cases this
   ·have:X.env.scope.names.lookup x=some .free:=hk
    rw [k] at this;cases this
def qoe (to ti te:TE) (tget:V->V->Hp->VK->Prop) (tip:TIp) (tset:TSet):TS:=λ D σ H=>to σ H λ o H1=>ti σ H1 λ i H2=>tget o i H2 λ x H3=>te σ H3 λ y H4=>tip x y H4 λ z H5=>tset o i z H5 λ H6=>D.nx σ H6
def PGet (X:Cx) (t:V->V->Hp->VK->Prop):Prop:=
 ∀ (pins:List (Addr×Obj)) (s:va3) (σ:St) (H:Hp) (o i:V) (ov iv:va2) (Q:VK),Inv X pins σ H s->RelV o ov->RelV i iv->t o i H Q ->
  vb1 (vb3 X.prog X.w) X.A (vn3 ov iv) (EP X pins σ Q) X.xe s
theorem qlw {o i e:Expr}{to ti te:TE}{tget:V->V->Hp->VK->Prop}{tip:TIp}{tset:TSet}{op:vi7}{tpos:Pos} (ho:PE X o to) (hi:PE X i ti) (hg:PGet X tget) (he:PE X e te) (hp:PIp X op tip) (hs:PSet X tset)
  (ha:∀ ov iv new,augStore i ov iv new=(do vl3 [new,ov,iv] (setItem ov iv new);release [new,ov,iv] [];pure .next):=by intros;rfl):PS X (.AugAssign (.Subscript o i tpos) op e pos) (qoe to ti te tget tip tset):=by
 intro pins s σ H D I h;refine wpAny_AugAssign_SubscriptAny (thn (ho pins s σ H _ I h) λ ov s1 ⟨x1,H1,I1,r1,q1⟩=>?_) ha;refine thn (hi pins s1 σ H1 _ I1 q1) λ iv s2 ⟨x2,H2,I2,r2,q2⟩=>?_;refine thn (hg pins s2 σ H2 x1 x2 ov iv _ I2 r1 r2 q2) λ old s3 ⟨x3,H3,I3,r3,q3⟩=>?_;refine thn (he pins s3 σ H3 _ I3 q3) λ v s4 ⟨x4,H4,I4,r4,q4⟩=>?_;refine thn (hp pins s4 σ H4 x3 x4 old v _ I4 r3 r4 q4) λ new s5 ⟨x5,H5,I5,r5,q5⟩=>?_;exact thn (hs pins s5 σ H5 x1 x2 x5 ov iv new _ I5 r1 r2 r5 q5) λ _ s6 ⟨H6,I6,q6⟩=>⟨σ,H6,I6,q6⟩
def ipI (f:Int->Int->Int):TIp:=λ x y H Q=>∃ i j,x=.int i/\y=.int j/\Q (.int (f i j)) H
theorem qkg:PIp X .Add (ipI λ i j=>i + j):=by
 intro pins s σ H x y v u Q I r1 r2 h;obtain ⟨i,j,e1,e2,q⟩:=h;subst e1;subst e2;obtain ⟨t,rfl⟩:=r1;obtain ⟨t',rfl⟩:=r2;exact iadd_int ⟨.int _,H,I.tok _,⟨_,rfl⟩,q⟩
theorem qkf:PIp X .Sub (ipI λ i j=>i - j):=by
 intro pins s σ H x y v u Q I r1 r2 h;obtain ⟨i,j,e1,e2,q⟩:=h;subst e1;subst e2;obtain ⟨t,rfl⟩:=r1;obtain ⟨t',rfl⟩:=r2;exact isub_int ⟨.int _,H,I.tok _,⟨_,rfl⟩,q⟩
end
section
variable {X:Cx}{pos:Pos}
end
structure It where
 go:Nat->Hp->Prop
 yld:Nat->Hp->V->Hp->Prop
 stop:Nat->Hp->Prop
def FpOk (X:Cx) (pins:List (Addr×Obj)) (H:Hp) (b:Addr):Prop:=
 H b=none/\b≠X.env.locals/\b∉X.fs/\(b∈X.ex\/X.s₀.heap.objs.size<=b)/\(∀ x c,X.env.cells.lookup x=some c->c≠b)/\∀ p∈X.pn++pins,p.1≠b
theorem Inv.fpOk {X:Cx}{pins:List (Addr×Obj)}{σ:St}{H H':Hp}{s:va3}{b:Addr} (I:Inv X pins σ H s) (hb:s.heap.objs.size<=b) (hn:H' b=none):FpOk X pins H' b:=by
 refine ⟨hn,jg5 (jb6 I.lt hb),I.nofs hb,.inr (jc9 I.sz hb),λ x c e z=>?_,λ p hp z=>?_⟩
 ·obtain ⟨v,q⟩:=I.cell x c e;exact absurd (jb6 q.lt (by rw [z];exact hb)) (jd8 _)
 ·exact absurd (jb6 (va6 (I.pin p hp).1) (by rw [z];exact hb)) (jd8 _)
structure Turn (P:vb0) (w:vb7) (K:va8) (tg:Expr) (J:It) (fp:List Addr) (it:Addr) (tn:Nat->Heap->Prop):Prop where
 mem:it∈fp
 obj:∀ i h,tn i h->∀ b∈fp,∃ o,h.get? b=some o/\∀ v,o.data≠.cell v
 keep:∀ i h h',tn i h->(∀ b∈fp,∀ o,h.get? b=some o->h'.get? b=some o)->tn i h'
 item:∀ (X:Cx),X.prog=P->X.w=w->X.K=K->X.calm=true->∀ (i:Nat) (pins:List (Addr×Obj)) (s:va3) (σ:St) (H:Hp) (E:va2->va3->Prop),Inv X pins σ H s->(∀ b∈fp,FpOk X pins H b)->tn i s.heap->J.go i H ->
  vb1 (vb3 P w) X.A (vi2 (.ref it)) (λ r s1=>∃ u,r=some u /\
   vb1 (vb3 P w) X.A (vj7 tg (.ref it) u) (λ _ s2=>∃ x H',Inv X pins σ H' s2/\RelV x u/\J.yld i H x H'/\tn (i + 1) s2.heap/\∀ b∈fp,H' b=none) E s1) E s
 done:∀ (X:Cx),X.prog=P->X.w=w->X.K=K->X.calm=true->∀ (i:Nat) (pins:List (Addr×Obj)) (s:va3) (σ:St) (H:Hp) (E:va2->va3->Prop),Inv X pins σ H s->(∀ b∈fp,FpOk X pins H b)->tn i s.heap->J.stop i H ->
  vb1 (vb3 P w) X.A (vi2 (.ref it)) (λ r s1=>r=none/\Inv X pins σ H s1) E s
 self:∀ (A:vc3) (i:Nat) (s:va3) (Q:va2->va3->Prop) (E:va2->va3->Prop),tn i s.heap->Q (.ref it) s->vb1 (vb3 P w) A (pyIter (.ref it)) Q E s
abbrev TI:=St->Hp->(It->Hp->Prop)->Prop
def PIE (X:Cx) (pins:List (Addr×Obj)) (σ:St) (tg:Expr) (R:It->Hp->Prop) (itv:va2) (s2:va3):Prop:=
 ∃ (it:Addr) (fp:List Addr) (tn:Nat->Heap->Prop) (J:It) (H':Hp),itv=.ref it/\Inv X pins σ H' s2/\Turn X.prog X.w X.K tg J fp it tn/\tn 0 s2.heap/\(∀ b∈fp,FpOk X pins H' b)/\R J H'
def PI (X:Cx) (tg iter:Expr) (wi:TI):Prop:=
 ∀ (pins:List (Addr×Obj)) (s:va3) (σ:St) (H:Hp) (R:It->Hp->Prop),Inv X pins σ H s->wi σ H R ->
  vb1 (vb3 X.prog X.w) X.A (eval iter X.env) (λ v s1=>vb1 (vb3 X.prog X.w) X.A (pyIter v) (PIE X pins σ tg R) X.xe s1) X.xe s
theorem qbe {M:Model}{A:vc3}{E:va2->va3->Prop}{s:va3}{tg:Expr}{it:Addr}{u:va2}{o:Obj}{n:String}{vs:Array va2}{Q:Unit->va3->Prop} (ho:s.heap.get? it=some o) (hc:o.cls=.type n) (hd:o.data=.fields vs)
  (hn:["enumerate","zip","dict_itemiterator","dict_reverseitemiterator","odict_iterator","itertools.zip_longest","itertools.pairwise"].contains n=false) (hQ:Q () s):vb1 M A (vj7 tg (.ref it) u) Q E s:=by
 unfold vj7;cases tg <;> first
  | exact va1 hQ
  | (cases u <;> first
    | exact va1 hQ
    | (refine va0 (wpAny_load ho ?_);rw [hc,hd];show vb1 M A (if (["enumerate","zip","dict_itemiterator","dict_reverseitemiterator","odict_iterator","itertools.zip_longest","itertools.pairwise"].contains n && vs[0]? == some (vj6 _))=true then _ else _) Q E s;rw [if_neg (by intro h;rw [hn,Bool.false_and] at h;cases h)];exact va1 hQ))
def Itl (K:va8) (a:Addr):It:=
 ⟨λ i H=>∃ xs x,SqL K H a xs/\xs[i]?=some x,λ i H x H'=>H'=H/\∀ xs,SqL K H a xs->xs[i]?=some x,λ i H=>∃ xs,SqL K H a xs/\xs.length<=i⟩
def Itt (K:va8) (a:Addr):It:=
 ⟨λ i H=>∃ xs x,SqT K H a xs/\xs[i]?=some x,λ i H x H'=>H'=H/\∀ xs,SqT K H a xs->xs[i]?=some x,λ i H=>∃ xs,SqT K H a xs/\xs.length<=i⟩
def Itr (lo:Int) (n:Nat):It:=⟨λ i _=>i < n,λ i H x H'=>H'=H/\x=.int (lo + i),λ i _=>n<=i⟩
theorem qd4 {P:vb0}{w:vb7}{K:va8}{tg:Expr} (a it:Addr):Turn P w K tg (Itl K a) [it] it (λ i h=>h.IsListIter it a i) where
 mem:=by simp
 obj:=λ i h st b hb=>by
  have e:b=it:=by simpa using hb
  subst e;obtain ⟨o,e,c,d⟩:=st;exact ⟨o,e,λ v z=>by rw [d] at z;cases z⟩
 keep:=λ i h h' st k=>st.at λ o e=>k it (by simp) o e
 item:=by
  intro X hP hw hK hc i pins s σ H E I hf st hg;subst hP hw hK;obtain ⟨xs,x,hq,hx⟩:=hg;obtain ⟨its,rv,p,hz⟩:=I.list hq;obtain ⟨u,hu,ru⟩:=rv.get hx;obtain ⟨f0,f1,f2,f3,f4,f5⟩:=hf it (by simp);refine wpAny_pyNext_list_item st p.isList (x:=u) (by simpa using hu) λ h' st' sb=>?_;have I1:Inv X pins σ H { s with heap:=h' }:=I.turned (t':=s.toks) (λ b o hb e=>(sb.2 b hb).trans e) f0 f1 f3 f4 f5;obtain ⟨o,e,c,d⟩:=id st';exact ⟨u,rfl,qbe (s:={ s with heap:=h' }) e c d (by decide) ⟨x,H,I1,ru,⟨rfl,λ ys hy=>by rw [I.list_inj hy hq];exact hx⟩,st',λ b hb=>(hf b hb).1⟩⟩
 done:=by
  intro X hP hw hK hc i pins s σ H E I hf st hg;subst hP hw hK;obtain ⟨xs,hq,hx⟩:=hg;obtain ⟨its,rv,p,hz⟩:=I.list hq;obtain ⟨f0,f1,f2,f3,f4,f5⟩:=hf it (by simp);have hl:=rv.length;exact wpAny_pyNext_list_end (I.ok.hd hc) st p.isList (by simp;omega) λ h' eb=>⟨rfl,I.turned (t':=s.toks) (λ b o hb e=>eb b o hb e) f0 f1 f3 f4 f5⟩
 self:=λ _ _ _ _ _ st h=>wpAny_pyIter_listiter st h
theorem qdc {P:vb0}{w:vb7}{K:va8}{tg:Expr} (a it:Addr):Turn P w K tg (Itt K a) [it] it (λ i h=>h.IsTupleIter it a i) where
 mem:=by simp
 obj:=λ i h st b hb=>by
  have e:b=it:=by simpa using hb
  subst e;obtain ⟨o,e,c,d⟩:=st;exact ⟨o,e,λ v z=>by rw [d] at z;cases z⟩
 keep:=λ i h h' st k=>st.at λ o e=>k it (by simp) o e
 item:=by
  intro X hP hw hK hc i pins s σ H E I hf st hg;subst hP hw hK;obtain ⟨xs,x,hq,hx⟩:=hg;obtain ⟨its,rv,p,hz⟩:=I.tuple hq;obtain ⟨u,hu,ru⟩:=rv.get hx;obtain ⟨f0,f1,f2,f3,f4,f5⟩:=hf it (by simp);refine wpAny_pyNext_tuple_item st (show s.heap.IsTuple a its.toArray from p) (x:=u) (by simpa using hu) λ h' st' sb=>?_;have I1:Inv X pins σ H { s with heap:=h' }:=I.turned (t':=s.toks) (λ b o hb e=>(sb.2 b hb).trans e) f0 f1 f3 f4 f5;obtain ⟨o,e,c,d⟩:=id st';exact ⟨u,rfl,qbe (s:={ s with heap:=h' }) e c d (by decide) ⟨x,H,I1,ru,⟨rfl,λ ys hy=>by rw [I.tuple_inj hy hq];exact hx⟩,st',λ b hb=>(hf b hb).1⟩⟩
 done:=by
  intro X hP hw hK hc i pins s σ H E I hf st hg;subst hP hw hK;obtain ⟨xs,hq,hx⟩:=hg;obtain ⟨its,rv,p,hz⟩:=I.tuple hq;obtain ⟨f0,f1,f2,f3,f4,f5⟩:=hf it (by simp);have hl:=rv.length;exact wpAny_pyNext_tuple_end (I.ok.hd hc) st (show s.heap.IsTuple a its.toArray from p) (by simp;omega) λ h' eb=>⟨rfl,I.turned (t':=s.toks) (λ b o hb e=>eb b o hb e) f0 f1 f3 f4 f5⟩
 self:=λ _ _ _ _ _ st h=>wpAny_pyIter_tupleiter st h
theorem qdd {P:vb0}{w:vb7}{K:va8}{tg:Expr} (it:Addr) (lo:Int) (n:Nat):Turn P w K tg (Itr lo n) [it] it (λ i h=>vn9 h it (lo + (i:Nat) * 1) ((n:Int) - (i:Nat)) 1) where
 mem:=by simp
 obj:=λ i h st b hb=>by
  have e:b=it:=by simpa using hb
  subst e;exact ⟨_,st,λ v z=>by
   have z':Data.fields _=Data.cell v:=z;cases z'⟩
 keep:=λ i h h' st k=>k it (by simp) _ st
 item:=by
  intro X hP hw hK hc i pins s σ H E I hf st hg;subst hP hw hK;obtain ⟨f0,f1,f2,f3,f4,f5⟩:=hf it (by simp);have W:=Walks.range (prog:=X.prog) (w:=X.w) (I.ok.hd hc) it lo 1 n;refine W.item i s _ _ hg st λ v h' tk hv st' kk=>?_;obtain ⟨t,rfl⟩:=hv;have I1:Inv X pins σ H { s with heap:=h',toks:=tk }:=I.turned (λ b o hb e=>kk b o (by simpa using hb) e) f0 f1 f3 f4 f5;refine ⟨_,rfl,qbe (s:={ s with heap:=h',toks:=tk }) (n := "range_iterator") st' rfl rfl (by decide) ⟨.int (lo + i),H,I1,⟨t,?_⟩,⟨rfl,rfl⟩,st',λ b hb=>(hf b hb).1⟩⟩;rw [Int.mul_one]
 done:=by
  intro X hP hw hK hc i pins s σ H E I hf st hg;subst hP hw hK;obtain ⟨f0,f1,f2,f3,f4,f5⟩:=hf it (by simp);exact wpAny_pyNext_range_end (I.ok.hd hc) st (by have:n<=i:=hg;omega) λ h' eb=>⟨rfl,I.turned (t':=s.toks) (λ b o hb e=>eb b o hb e) f0 f1 f3 f4 f5⟩
 self:=λ _ _ _ _ _ st h=>wpAny_pyIter_rangeiter st h
section
variable {X:Cx}{tg:Expr}
theorem qca {pins:List (Addr×Obj)}{σ:St}{H:Hp}{s:va3}{R:It->Hp->Prop}{E:va2->va3->Prop}{lo hi:Int}{t u v:Tok}{tk:Nat} (I:Inv X pins σ H s) (h1:-(2 ^ 62)<=lo) (h2:lo < 2 ^ 62) (h3:-(2 ^ 62)<=hi) (h4:hi < 2 ^ 62)
  (q:R (Itr lo (hi - lo).toNat) H):vb1 (vb3 X.prog X.w) X.A (pyIter (.ref s.heap.objs.size)) (PIE X pins σ tg R) E { s with heap:=s.heap.push { cls:=.type "range",data:=.fields #[.int lo t,.int hi u,.int 1 v] },toks:=tk }:=by
 refine wpAny_pyIter_range (IsRange.new ..) (small_one h1 h2 h3 h4) ?_;have I1:Inv X pins σ H { s with heap:=s.heap.push { cls:=.type "range",data:=.fields #[.int lo t,.int hi u,.int 1 v] },toks:=tk }:=I.kept λ b o e=>va4 _ e;refine ⟨(s.heap.push { cls:=.type "range",data:=.fields #[.int lo t,.int hi u,.int 1 v] }).objs.size,[(s.heap.push { cls:=.type "range",data:=.fields #[.int lo t,.int hi u,.int 1 v] }).objs.size],_,_,H,rfl,
  I1.kept (t':=tk) λ b o e=>va4 _ e,qdd _ lo (hi - lo).toNat,?_,λ b hb=>?_,q⟩
 ·have e1:lo + ((0:Nat):Int) * 1=lo:=by simp
  have e2:(((hi - lo).toNat:Nat):Int) - ((0:Nat):Int)=Builtin.Range.rangeSize lo hi 1:=by rw [rangeSize_one];split <;> omega
  show vn9 _ _ (lo + ((0:Nat):Int) * 1) ((((hi - lo).toNat:Nat):Int) - ((0:Nat):Int)) 1;rw [e1,e2];exact va7 _ rfl
 ·have e:b=(s.heap.push { cls:=.type "range",data:=.fields #[.int lo t,.int hi u,.int 1 v] }).objs.size:=by simpa using hb
  subst e;exact I1.fpOk (ja4 _) (I1.hok.fresh (ja4 _))
def qi1 (ta:TA):TI:=λ σ H R=>ta σ H λ vs H1=>∃ j:Int,vs=[.int j]/\-(2 ^ 62)<=j/\j < 2 ^ 62/\R (Itr 0 j.toNat) H1
def qi0 (ta:TA):TI:=λ σ H R=>ta σ H λ vs H1=>∃ i j:Int,vs=[.int i,.int j]/\(-(2 ^ 62)<=i/\i < 2 ^ 62/\-(2 ^ 62)<=j/\j < 2 ^ 62)/\R (Itr i (j - i).toNat) H1
theorem qfa {a:Expr}{ta:TA}{p pos:Pos} (hg:Gl X "range") (hm:X.mg "range" = none) (ha:PA X [a] ta) (hs:va9 [a] X.env=[(false,eval a X.env)]:=by rfl):PI X tg (.Call (.Name "range" p) [a] [] pos) (qi1 ta):=by
 intro pins s σ H R I h;refine Call_ (zvr I hg hm boot_range (vb5 (thn (ha pos pins s σ H _ I h) λ us s1 ⟨vs,H1,I1,r1,q1⟩=>?_) hs rfl));obtain ⟨j,e,q1,q2,q⟩:=q1;subst e;cases r1 with
 | cons r rr=>
  cases rr;obtain ⟨t,rfl⟩:=r;exact call_range_1 (qca I1 (by omega) (by omega) q1 q2 (by simpa using q))
theorem qe9 {a b:Expr}{ta:TA}{p pos:Pos} (hg:Gl X "range") (hm:X.mg "range" = none) (ha:PA X [a,b] ta) (hs:va9 [a,b] X.env=[(false,eval a X.env),(false,eval b X.env)]:=by rfl) (hs2:va9 [b] X.env=[(false,eval b X.env)]:=by rfl):
  PI X tg (.Call (.Name "range" p) [a,b] [] pos) (qi0 ta):=by
 intro pins s σ H R I h;refine Call_ (zvr I hg hm boot_range (vb5 (thn (ha pos pins s σ H _ I h) λ us s1 ⟨vs,H1,I1,r1,q1⟩=>?_) (by rw [hs,hs2]) (by rw [hs2];rfl)));obtain ⟨i,j,e,⟨q1,q2,q3,q4⟩,q⟩:=q1;subst e;cases r1 with
 | cons r rr=>
  cases rr with
  | cons r' rr=>
   cases rr;obtain ⟨t,rfl⟩:=r;obtain ⟨t',rfl⟩:=r';exact call_range_2 (qca I1 q1 q2 q3 q4 q)
def tFor (wi:TI) (g:TG) (tb:TS):TS:=λ D σ H=>wi σ H λ J H1=>∃ W:Nat->Nat->St->Hp->Prop,(∃ m,W 0 m σ H1)/\∀ i m σ H,W i m σ H ->
 (J.stop i H/\D.nx σ H)\/(J.go i H/\∃ N:St->Hp->Prop,(∀ σ' H',N σ' H'->∃ m',m' < m/\W (i + 1) m' σ' H')/\∀ x H',J.yld i H x H'->g x σ H' λ σ2 H2=>tb { D with nx:=N,ct:=N,bk:=D.nx } σ2 H2)
def zhe (fp:List Addr) (h:Heap):List (Addr×Obj):=fp.filterMap λ b=>(h.get? b).map λ o=>(b,o)
theorem zkc {fp:List Addr}{h:Heap}{b:Addr}{o:Obj} (hb:b∈fp) (e:h.get? b=some o):(b,o)∈zhe fp h:=jl4.mpr ⟨b,hb,by rw [e];rfl⟩
theorem qfo {fp:List Addr}{h:Heap}{p:Addr×Obj} (hp:p∈zhe fp h):p.1∈fp/\h.get? p.1=some p.2:=by
 obtain ⟨b,hb,e⟩:=jl4.mp hp;cases q:h.get? b with
 | none=>rw [q] at e;cases e
 | some o=>
  rw [q] at e;have e':(b,o)=p:=Option.some.inj e;subst e';exact ⟨hb,q⟩
theorem Inv.pinned {pins:List (Addr×Obj)}{σ:St}{H:Hp}{s:va3}{fp:List Addr} (I:Inv X pins σ H s) (hf:∀ b∈fp,FpOk X pins H b) (ho:∀ b∈fp,∃ o,s.heap.get? b=some o/\∀ v,o.data≠.cell v):Inv X (pins++zhe fp s.heap) σ H s:=
 I.pins_of λ p hp=>(jd0.mp hp).elim (λ z=>I.pin p (ja5 _ z)) λ z=>by
  obtain ⟨hb,e⟩:=qfo z;obtain ⟨f0,f1,f2,_⟩:=hf p.1 hb;obtain ⟨o,e',d⟩:=ho p.1 hb;rw [e] at e';cases e';exact ⟨e,f0,f1,f2,d⟩
theorem Inv.unpinned {pins pl:List (Addr×Obj)}{σ:St}{H:Hp}{s:va3} (I:Inv X (pins++pl) σ H s):Inv X pins σ H s:=I.pins_of λ p hp=>I.pin p (ja5 _ (ja8 _ hp))
theorem zve {iter:Expr}{body:List Stmt}{wi:TI}{g:TG}{tb:TS}{pos:Pos} (hp:PassesOwn (vb3 X.prog X.w) X.A X.env X.xe) (hc:X.calm=true) (hi:PI X tg iter wi) (hg:PG X tg g) (hb:PSs X body tb)
  (hs:∀ x,vi3 iter X.env x=pure x:=by intro _;rfl):PS X (.For tg iter body [] pos) (tFor wi g tb):=by
 intro pins s σ H D I h;refine wpAny_For (thn (hi pins s σ H _ I h) λ v s1 h1=>thn h1 λ itv s2 h2=>?_) hs;obtain ⟨it,fp,tn,J,H2,e,I2,T,st2,f2,W,⟨m0,w0⟩,turn⟩:=h2;subst e;have stat:∀ {H':Hp},(∀ b∈fp,H' b=none)->∀ b∈fp,FpOk X pins H' b:=λ hn b hb=>⟨hn b hb,(f2 b hb).2⟩
 refine codeAny_forLoop_any (λ n s'=>∃ i σ' H',Inv X pins σ' H' s'/\tn i s'.heap/\(∀ b∈fp,H' b=none)/\W i n σ' H') ?_ m0 ⟨0,σ,H2,I2,st2,λ b hb=>(f2 b hb).1,w0⟩;rintro n s3 ⟨i,σ3,H3,I3,st3,fr3,w3⟩;rcases turn i n σ3 H3 w3 with ⟨stop,qn⟩ | ⟨go,N,hN,step⟩
 ·refine vh1 hp (thn (T.done X rfl rfl rfl hc i pins s3 σ3 H3 X.xe I3 (stat fr3) st3 stop) λ r s4 ⟨hr,I4⟩=>?_);subst hr;exact vm6 ⟨σ3,H3,I4,qn⟩
 ·refine vh1 hp (thn (T.item X rfl rfl rfl hc i pins s3 σ3 H3 X.xe I3 (stat fr3) st3 go) λ r s4 ⟨u,hr,h4⟩=>?_);subst hr;refine vh1 hp (thn h4 λ _ s5 ⟨x,H5,I5,r5,y5,st5,fr5⟩=>?_);have I5':=I5.pinned (stat fr5) (T.obj _ _ st5);refine vh1 hp (thn (hg _ s5 σ3 H5 x u _ I5' r5 (step x H5 y5)) λ _ s6 ⟨σ6,H6,I6,q6⟩=>?_);refine vh1 hp (thn (hb _ s6 σ6 H6 _ I6 q6) λ f s7 q7=>?_);have again:∀ {σ7:St}{H7:Hp},Inv X (pins++zhe fp s5.heap) σ7 H7 s7->N σ7 H7->∃ m,m < n/\∃ i σ' H',Inv X pins σ' H' s7/\tn i s7.heap/\(∀ b∈fp,H' b=none)/\W i m σ' H':=λ {σ7 H7} I7 n7=>by
   obtain ⟨m',hm,w7⟩:=hN σ7 H7 n7;refine ⟨m',hm,i + 1,σ7,H7,I7.unpinned,T.keep _ _ _ st5 λ b hb o e=>(I7.pin (b,o) (ja5 _ (ja5 _ (zkc hb e)))).1,λ b hb=>?_,w7⟩;obtain ⟨o,e,d⟩:=T.obj _ _ st5 b hb;exact (I7.pin (b,o) (ja5 _ (ja5 _ (zkc hb e)))).2.1
  cases f with
  | next=>obtain ⟨σ7,H7,I7,n7⟩:=q7;exact again I7 n7
  | cont=>obtain ⟨σ7,H7,I7,n7⟩:=q7;exact again I7 n7
  | brk=>obtain ⟨σ7,H7,I7,q7⟩:=q7;exact ⟨σ7,H7,I7.unpinned,q7⟩
  | ret v=>obtain ⟨x7,σ7,H7,I7,r7,q7⟩:=q7;exact ⟨x7,σ7,H7,I7.unpinned,r7,q7⟩
end
abbrev R2:=V->V->Hp->VK->Prop
def OpR (X:Cx) (f:va2->va2->Sem va2) (r:R2):Prop:=
 ∀ (pins:List (Addr×Obj)) (s:va3) (σ:St) (H:Hp) (x y:V) (v u:va2) (Q:VK),Inv X pins σ H s->RelV x v->RelV y u->r x y H Q ->
  vb1 (vb3 X.prog X.w) X.A (f v u) (EP X pins σ Q) X.xe s
def UnR (X:Cx) (f:va2->Sem va2) (r:V->Hp->VK->Prop):Prop:=
 ∀ (pins:List (Addr×Obj)) (s:va3) (σ:St) (H:Hp) (x:V) (v:va2) (Q:VK),Inv X pins σ H s->RelV x v->r x H Q ->
  vb1 (vb3 X.prog X.w) X.A (f v) (EP X pins σ Q) X.xe s
def zkl (X:Cx) (f:va2) (r:List V->Hp->VK->Prop):Prop:=
 ∀ (pins:List (Addr×Obj)) (s:va3) (σ:St) (H:Hp) (xs:List V) (us:List va2) (Q:VK),Inv X pins σ H s->Vals xs us->r xs H Q ->
  vb1 (vb3 X.prog X.w) X.A (call f us) (EP X pins σ Q) X.xe s
def tOp (r:R2) (ta tb:TE):TE:=λ σ H Q=>ta σ H λ x H1=>tb σ H1 λ y H2=>r x y H2 Q
def tUn (r:V->Hp->VK->Prop) (ta:TE):TE:=λ σ H Q=>ta σ H λ x H1=>r x H1 Q
def rI (C:Int->Int->Prop) (g:Int->Int->V):R2:=λ x y H Q=>∃ i j,x=.int i/\y=.int j/\C i j/\Q (g i j) H
def rI0 (g:Int->Int->V):R2:=λ x y H Q=>∃ i j,x=.int i/\y=.int j/\Q (g i j) H
def rU (g:Int->V):V->Hp->VK->Prop:=λ x H Q=>∃ i,x=.int i/\Q (g i) H
section
variable {X:Cx}{a b c:Expr}{ta tb tc:TE}{pos:Pos}
theorem binT (ha:PE X a ta) (hb:PE X b tb) {pins:List (Addr×Obj)}{s:va3}{σ:St}{H:Hp}{R:V->V->Hp->Prop} (I:Inv X pins σ H s)
  (h:ta σ H λ x H1=>tb σ H1 λ y H2=>R x y H2) {Q:va2->va3->Prop}{f:va2->va2->Sem va2}
  (hf:∀ v u s2 x y H2,Inv X pins σ H2 s2->RelV x v->RelV y u->R x y H2->vb1 (vb3 X.prog X.w) X.A (f v u) Q X.xe s2):
  vb1 (vb3 X.prog X.w) X.A (eval a X.env) (λ v s₁=>vb1 (vb3 X.prog X.w) X.A (eval b X.env) (λ u s₂=>vb1 (vb3 X.prog X.w) X.A (f v u) Q X.xe s₂) X.xe s₁) X.xe s:=by
 refine thn (ha pins s σ H _ I h) λ v s1 ⟨x,H1,I1,r1,q1⟩=>?_;refine thn (hb pins s1 σ H1 _ I1 q1) λ u s2 ⟨y,H2,I2,r2,q2⟩=>?_;exact hf v u s2 x y H2 I2 r1 r2 q2
theorem ql4 {op:vi7}{r:R2} (ho:OpR X (vg3 op) r) (ha:PE X a ta) (hb:PE X b tb):PE X (.BinOp a op b pos) (tOp r ta tb):=by
 intro pins s σ H Q I h;exact wpAny_BinOp (binT ha hb I h λ v u s2 x y H2 I2 rx ry q=>ho pins s2 σ H2 x y v u Q I2 rx ry q)
theorem qrc {op:UnaryOp}{r:V->Hp->VK->Prop} (ho:UnR X (unaryOp op) r) (ha:PE X a ta):PE X (.UnaryOp op a pos) (tUn r ta):=by
 intro pins s σ H Q I h;exact UnaryOp_ (thn (ha pins s σ H _ I h) λ v s1 ⟨x,H1,I1,r1,q1⟩=>ho pins s1 σ H1 x v Q I1 r1 q1)
theorem opI {f:va2->va2->Sem va2}{C:Int->Int->Prop}{g:Int->Int->Int}
  (rule:∀ (i j:Int) (t u:Tok) (s:va3) (Q:va2->va3->Prop) (E:va2->va3->Prop),C i j->Q (.int (g i j) s.toks) { s with toks:=s.toks + 1 }->vb1 (vb3 X.prog X.w) X.A (f (.int i t) (.int j u)) Q E s):
  OpR X f (rI C λ i j=>.int (g i j)):=by
 intro pins s σ H x y v u Q I rx ry h;obtain ⟨i,j,rfl,rfl,hc,q⟩:=h;obtain ⟨t,rfl⟩:=rx;obtain ⟨t',rfl⟩:=ry;exact rule i j t t' s _ _ hc ⟨.int (g i j),H,I.tok _,⟨_,rfl⟩,q⟩
theorem opI0 {f:va2->va2->Sem va2}{g:Int->Int->Int}
  (rule:∀ (i j:Int) (t u:Tok) (s:va3) (Q:va2->va3->Prop) (E:va2->va3->Prop),Q (.int (g i j) s.toks) { s with toks:=s.toks + 1 }->vb1 (vb3 X.prog X.w) X.A (f (.int i t) (.int j u)) Q E s):
  OpR X f (rI0 λ i j=>.int (g i j)):=by
 intro pins s σ H x y v u Q I rx ry h;obtain ⟨i,j,rfl,rfl,q⟩:=h;obtain ⟨t,rfl⟩:=rx;obtain ⟨t',rfl⟩:=ry;exact rule i j t t' s _ _ ⟨.int (g i j),H,I.tok _,⟨_,rfl⟩,q⟩
theorem opB0 {f:va2->va2->Sem va2}{g:Int->Int->Bool}
  (rule:∀ (i j:Int) (t u:Tok) (s:va3) (Q:va2->va3->Prop) (E:va2->va3->Prop),Q (.bool (g i j)) s->vb1 (vb3 X.prog X.w) X.A (f (.int i t) (.int j u)) Q E s):
  OpR X f (rI0 λ i j=>.bl (g i j)):=by
 intro pins s σ H x y v u Q I rx ry h;obtain ⟨i,j,rfl,rfl,q⟩:=h;obtain ⟨t,rfl⟩:=rx;obtain ⟨t',rfl⟩:=ry;exact rule i j t t' s _ _ ⟨.bl (g i j),H,I,rfl,q⟩
def CPow (i j:Int):Prop:=0<=j/\j<=1000000/\i.natAbs < 2 ^ 64
def CMul (i j:Int):Prop:=(-(2 ^ 64) < i/\i < 2 ^ 64)\/(-(2 ^ 64) < j/\j < 2 ^ 64)
theorem CMul.ok {i j:Int} (h:CMul i j):IntMulOk i j:=by
 rcases h with ⟨h1,h2⟩ | ⟨h1,h2⟩
 ·exact .of_left (intBits_le_64 h1 h2)
 ·exact .of_right (intBits_le_64 h1 h2)
theorem qp0:OpR X (vg3 .Add) (rI0 λ i j=>.int (i + j)):=opI0 λ _ _ _ _ _ _ _ q=>add_int q
theorem qpp:OpR X (vg3 .Mult) (rI CMul λ i j=>.int (i * j)):=opI λ _ _ _ _ _ _ _ hc q=>mul_int q hc.ok
theorem qpq:OpR X (vg3 .Mod) (rI (λ _ j=>0 < j) λ i j=>.int (i % j)):=opI λ i j _ _ _ _ _ hc q=>by
 have h1:(0:Int) < j:=hc;exact mod_int' (by omega) (by rw [Int.fmod_eq_emod_of_nonneg i (by omega)];exact q)
theorem qpo:OpR X (vg3 .Pow) (rI CPow λ i j=>.int (i ^ j.toNat)):=opI λ _ _ _ _ _ _ _ hc q=>pow_int_small hc.1 hc.2.1 hc.2.2 q
theorem unI {f:va2->Sem va2}{g:Int->Int}
  (rule:∀ (i:Int) (t:Tok) (s:va3) (Q:va2->va3->Prop) (E:va2->va3->Prop),Q (.int (g i) s.toks) { s with toks:=s.toks + 1 }->vb1 (vb3 X.prog X.w) X.A (f (.int i t)) Q E s):
  UnR X f (rU λ i=>.int (g i)):=by
 intro pins s σ H x v Q I rx h;obtain ⟨i,rfl,q⟩:=h;obtain ⟨t,rfl⟩:=rx;exact rule i t s _ _ ⟨.int (g i),H,I.tok _,⟨_,rfl⟩,q⟩
theorem qnr:UnR X (unaryOp .USub) (rU λ i=>.int (-i)):=unI λ _ _ _ _ _ q=>neg_int q
end
def scal:V->V->Bool
 | .non,.non=>true | .non,.int _=>true | .int _,.non=>true | .non,.bl _=>true | .bl _,.non=>true | .non,.str _=>true | .str _,.non=>true
 | .int _,.int _=>true | .bl _,.bl _=>true | .str _,.str _=>true | .byt _,.byt _=>true
 | .int _,.str _=>true | .str _,.int _=>true | .bl _,.str _=>true | .str _,.bl _=>true
 | _,_=>false
def rEq:R2:=λ x y H Q=>scal x y=true/\Q (.bl (decide (x=y))) H
def rNe:R2:=λ x y H Q=>scal x y=true/\Q (.bl (!decide (x=y))) H
theorem zfv {i j:Int}:decide (V.int i=V.int j)=(i == j):=by
 rw [jd9];simp
theorem qkq {i j:Bool}:decide (V.bl i=V.bl j)=(i == j):=by
 rw [jd9];simp
theorem qg1 {i j:Str}:decide (V.str i=V.str j)=(i == j):=by
 rw [jd9];simp
theorem qg2 {i j:Array UInt8}:decide (V.byt i=V.byt j)=(i.toList == j.toList):=by
 rw [jd9];cases i;cases j;simp
section
variable {X:Cx}{a b c:Expr}{ta tb tc:TE}{pos:Pos}
theorem zxe {pins:List (Addr×Obj)}{σ:St}{H:Hp}{s:va3}{Q:VK}{k k':Bool} (I:Inv X pins σ H s) (q:Q (.bl k) H) (e:k=k'):EP X pins σ Q (.bool k') s:=by
 subst e;exact ⟨.bl k,H,I,rfl,q⟩
theorem qrg:OpR X (vb6 .Eq) rEq:=by
 intro pins s σ H x y v u Q I rx ry h;obtain ⟨hs,q⟩:=h;cases x with
 | non=>
  cases rx;cases y with
  | non=>cases ry;exact PySem.EqNone.eq_none_none (zxe I q (by simp))
  | bl j=>cases ry;exact PySem.EqNone.eq_none_bool (zxe I q (by simp))
  | int j=>obtain ⟨t',rfl⟩:=ry;exact PySem.EqNone.eq_none_int (zxe I q (by simp))
  | str j=>obtain ⟨t',rfl⟩:=ry;exact PySem.EqNone.eq_none_str (zxe I q (by simp))
  | _=>exact absurd (show false=true from hs) jb7
 | bl i=>
  cases rx;cases y with
  | non=>cases ry;exact PySem.EqNone.eq_bool_none (zxe I q (by simp))
  | bl j=>cases ry;exact eq_bool (zxe I q qkq)
  | str j=>obtain ⟨t',rfl⟩:=ry;exact PySem.EqMixed.eq_bool_str (zxe I q (by simp))
  | _=>exact absurd (show false=true from hs) jb7
 | int i=>
  obtain ⟨t,rfl⟩:=rx;cases y with
  | non=>cases ry;exact PySem.EqNone.eq_int_none (zxe I q (by simp))
  | int j=>obtain ⟨t',rfl⟩:=ry;exact eq_int (zxe I q zfv)
  | str j=>obtain ⟨t',rfl⟩:=ry;exact PySem.EqMixed.eq_int_str (zxe I q (by simp))
  | _=>exact absurd (show false=true from hs) jb7
 | str i=>
  obtain ⟨t,rfl⟩:=rx;cases y with
  | non=>cases ry;exact PySem.EqNone.eq_str_none (zxe I q (by simp))
  | bl j=>cases ry;exact PySem.EqMixed.eq_str_bool (zxe I q (by simp))
  | int j=>obtain ⟨t',rfl⟩:=ry;exact PySem.EqMixed.eq_str_int (zxe I q (by simp))
  | str j=>obtain ⟨t',rfl⟩:=ry;exact eq_str (zxe I q qg1)
  | _=>exact absurd (show false=true from hs) jb7
 | byt i=>
  obtain ⟨t,rfl⟩:=rx;cases y with
  | byt j=>obtain ⟨t',rfl⟩:=ry;exact PySem.W.eq_bytes (zxe I q qg2)
  | _=>exact absurd (show false=true from hs) jb7
 | _=>cases y <;> exact absurd (show false=true from hs) jb7
theorem qrf:OpR X (vb6 .NotEq) rNe:=by
 intro pins s σ H x y v u Q I rx ry h;obtain ⟨hs,q⟩:=h;cases x with
 | non=>
  cases rx;cases y with
  | non=>cases ry;exact PySem.EqNone.ne_none_none (zxe I q (by simp))
  | bl j=>cases ry;exact PySem.EqNone.ne_none_bool (zxe I q (by simp))
  | int j=>obtain ⟨t',rfl⟩:=ry;exact PySem.EqNone.ne_none_int (zxe I q (by simp))
  | str j=>obtain ⟨t',rfl⟩:=ry;exact PySem.EqNone.ne_none_str (zxe I q (by simp))
  | _=>exact absurd (show false=true from hs) jb7
 | bl i=>
  cases rx;cases y with
  | non=>cases ry;exact PySem.EqNone.ne_bool_none (zxe I q (by simp))
  | bl j=>cases ry;exact ne_bool (zxe I q (congrArg not qkq))
  | str j=>obtain ⟨t',rfl⟩:=ry;exact PySem.EqMixed.ne_bool_str (zxe I q (by simp))
  | _=>exact absurd (show false=true from hs) jb7
 | int i=>
  obtain ⟨t,rfl⟩:=rx;cases y with
  | non=>cases ry;exact PySem.EqNone.ne_int_none (zxe I q (by simp))
  | int j=>obtain ⟨t',rfl⟩:=ry;exact ne_int (zxe I q (congrArg not zfv))
  | str j=>obtain ⟨t',rfl⟩:=ry;exact PySem.EqMixed.ne_int_str (zxe I q (by simp))
  | _=>exact absurd (show false=true from hs) jb7
 | str i=>
  obtain ⟨t,rfl⟩:=rx;cases y with
  | non=>cases ry;exact PySem.EqNone.ne_str_none (zxe I q (by simp))
  | bl j=>cases ry;exact PySem.EqMixed.ne_str_bool (zxe I q (by simp))
  | int j=>obtain ⟨t',rfl⟩:=ry;exact PySem.EqMixed.ne_str_int (zxe I q (by simp))
  | str j=>obtain ⟨t',rfl⟩:=ry;exact ne_str (zxe I q (congrArg not qg1))
  | _=>exact absurd (show false=true from hs) jb7
 | byt i=>
  obtain ⟨t,rfl⟩:=rx;cases y with
  | byt j=>obtain ⟨t',rfl⟩:=ry;exact PySem.W.ne_bytes (zxe I q (congrArg not qg2))
  | _=>exact absurd (show false=true from hs) jb7
 | _=>cases y <;> exact absurd (show false=true from hs) jb7
theorem qps:OpR X (vb6 .Lt) (rI0 λ i j=>.bl (decide (i < j))):=opB0 λ _ _ _ _ _ _ _ q=>lt_int q
theorem qpt:OpR X (vb6 .LtE) (rI0 λ i j=>.bl (decide (i<=j))):=opB0 λ _ _ _ _ _ _ _ q=>le_int q
theorem qpw:OpR X (vb6 .Gt) (rI0 λ i j=>.bl (decide (j < i))):=opB0 λ _ _ _ _ _ _ _ q=>gt_int q
theorem qpx:OpR X (vb6 .GtE) (rI0 λ i j=>.bl (decide (j<=i))):=opB0 λ _ _ _ _ _ _ _ q=>ge_int q
theorem qpu:OpR X (vb6 .Is) (λ x y H Q=>y=.non/\Q (.bl (decide (x=.non))) H):=by
 intro pins s σ H x y v u Q I rx ry h;obtain ⟨rfl,q⟩:=h;cases ry;refine is_none_gen (zxe I q ?_);cases x <;> first
  | (cases rx;rfl)
  | (obtain ⟨t,rfl⟩:=rx;rfl)
theorem qmc:OpR X (vb6 .IsNot) (λ x y H Q=>y=.non/\Q (.bl (!decide (x=.non))) H):=by
 intro pins s σ H x y v u Q I rx ry h;obtain ⟨rfl,q⟩:=h;cases ry;refine isnot_none_gen (zxe I q ?_);cases x <;> first
  | (cases rx;rfl)
  | (obtain ⟨t,rfl⟩:=rx;rfl)
theorem OpR.or {f:va2->va2->Sem va2}{r r':R2} (h:OpR X f r) (h':OpR X f r'):OpR X f (λ x y H Q=>r x y H Q\/r' x y H Q):=by
 intro pins s σ H x y v u Q I rx ry q;rcases q with q | q
 ·exact h pins s σ H x y v u Q I rx ry q
 ·exact h' pins s σ H x y v u Q I rx ry q
theorem ql7 {op:vo0}{r:R2} (ho:OpR X (vb6 op) r) (ha:PE X a ta) (hb:PE X b tb) (hm:vh0 op b=false):PE X (.Compare a [op] [b] pos) (tOp r ta tb):=by
 intro pins s σ H Q I h;exact wpAny_Compare1 (binT ha hb I h λ v u s2 x y H2 I2 rx ry q=>ho pins s2 σ H2 x y v u Q I2 rx ry q) hm
def qnv (t:TE):TT:=λ σ H Q=>t σ H λ x H'=>∃ k,x=.bl k/\Q k H'
theorem qlt {op:vo0}{r:R2} (ho:OpR X (vb6 op) r) (ha:PE X a ta) (hb:PE X b tb) (hm:vh0 op b=false):PT X (.Compare a [op] [b] pos) (qnv (tOp r ta tb)):=by
 intro pins s σ H Q I h;refine wpAny_isTrue_Compare1 (thn (ha pins s σ H _ I h) λ v s1 ⟨x,H1,I1,r1,q1⟩=>thn (hb pins s1 σ H1 _ I1 q1) λ u s2 ⟨y,H2,I2,r2,q2⟩=>
  thn (ho pins s2 σ H2 x y v u _ I2 r1 r2 q2) λ c s3 ⟨z,H3,I3,r3,k,e,q3⟩=>?_) hm
 subst e;cases r3;exact vc1 ⟨H3,I3,q3⟩
def qei (r r':R2) (ta tb tc:TE):TE:=λ σ H Q=>ta σ H λ x H1=>tb σ H1 λ y H2=>r x y H2 λ z H3=>∃ k,z=.bl k /\
 (if k=true then tc σ H3 λ w' H4=>r' y w' H4 Q else Q (.bl false) H3)
theorem qih {op op':vo0}{r r':R2} (ho:OpR X (vb6 op) r) (ho':OpR X (vb6 op') r') (ha:PE X a ta) (hb:PE X b tb) (hc:PE X c tc)
  (hm:lastMarks [op,op'] [b,c]=false:=by with_unfolding_all rfl):PE X (.Compare a [op,op'] [b,c] pos) (qei r r' ta tb tc):=by
 intro pins s σ H Q I h;refine Compare_chain (thn (ha pins s σ H _ I h) λ v s1 ⟨x,H1,I1,r1,q1⟩=>chain_link (thn (hb pins s1 σ H1 _ I1 q1) λ u s2 ⟨y,H2,I2,r2,q2⟩=>
  thn (ho pins s2 σ H2 x y v u _ I2 r1 r2 q2) λ d s3 ⟨z,H3,I3,r3,k,e,q3⟩=>?_)) hm
 subst e;cases r3;refine vc1 ?_;cases k with
 | false=>exact ite_ff ⟨.bl false,H3,I3,rfl,q3⟩
 | true=>exact ite_tt (chain_last (thn (hc pins s3 σ H3 _ I3 q3) λ w' s4 ⟨z',H4,I4,r4,q4⟩=>ho' pins s4 σ H4 y z' u w' Q I4 r2 r4 q4))
theorem qib {op op':vo0}{r r':R2} (ho:OpR X (vb6 op) r) (ho':OpR X (vb6 op') r') (ha:PE X a ta) (hb:PE X b tb) (hc:PE X c tc)
  (hm:lastMarks [op,op'] [b,c]=false:=by with_unfolding_all rfl):PT X (.Compare a [op,op'] [b,c] pos) (qnv (qei r r' ta tb tc)):=by
 intro pins s σ H Q I h;refine isTrue_chain (thn (ha pins s σ H _ I h) λ v s1 ⟨x,H1,I1,r1,q1⟩=>test_link (thn (hb pins s1 σ H1 _ I1 q1) λ u s2 ⟨y,H2,I2,r2,q2⟩=>
  thn (ho pins s2 σ H2 x y v u _ I2 r1 r2 q2) λ d s3 ⟨z,H3,I3,r3,k,e,q3⟩=>?_)) hm
 subst e;cases r3;refine vc1 ?_;cases k with
 | false=>
  obtain ⟨k',e',q'⟩:=q3;cases e';exact ite_ff ⟨H3,I3,q'⟩
 | true=>
  refine ite_tt (test_last (thn (hc pins s3 σ H3 _ I3 q3) λ w' s4 ⟨z',H4,I4,r4,q4⟩=>thn (ho' pins s4 σ H4 y z' u w' _ I4 r2 r4 q4) λ d' s5 ⟨z2,H5,I5,r5,k2,e2,q5⟩=>?_));subst e2;cases r5;exact vc1 ⟨H5,I5,q5⟩
theorem zbv:(va5:Nat) < 2 ^ 63:=by rw [sizeLine_eq];decide
theorem qbb:OpR X (inplaceOp .Add) (λ x y H Q=>∃ i j,x=.str i/\y=.str j/\i.length + j.length<=va5/\Q (.str (i++j)) H):=by
 intro pins s σ H x y v u Q I rx ry h;obtain ⟨i,j,rfl,rfl,hz,q⟩:=h;obtain ⟨t,rfl⟩:=rx;obtain ⟨t',rfl⟩:=ry;exact iadd_str (λ t' tk=>⟨.str (i++j),H,I.tok _,⟨_,rfl⟩,q⟩) hz
theorem zpu {x:V}{us:List va2} (r:Vals [x] us):∃ u,us=[u]/\RelV x u:=by
 cases r with
 | cons r1 r2=>cases r2;exact ⟨_,rfl,r1⟩
theorem qno {x y:V}{us:List va2} (r:Vals [x,y] us):∃ u w',us=[u,w']/\RelV x u/\RelV y w':=by
 cases r with
 | cons r1 r2=>
  cases r2 with
  | cons r3 r4=>cases r4;exact ⟨_,_,rfl,r1,r3⟩
theorem qhi (hc:X.calm=true):zkl X (.builtin "min") (λ xs H Q=>∃ i j,xs=[.int i,.int j]/\Q (.int (if j < i then j else i)) H):=by
 intro pins s σ H xs us Q I r h;obtain ⟨i,j,rfl,q⟩:=h;obtain ⟨u,w',rfl,⟨t,rfl⟩,⟨t',rfl⟩⟩:=qno r;refine min_two_ints (I.ok.hd hc) λ h' tk k=>⟨_,H,I.kept k,?_,q⟩
 by_cases hj:j < i
 ·rw [if_pos hj,if_pos hj];exact ⟨_,rfl⟩
 ·rw [if_neg hj,if_neg hj];exact ⟨_,rfl⟩
end
structure ObjM (h:Heap) (x dx C:Addr) (mA:Str->Option va2):Prop where
 obj:h.get? x=some (vn7 C dx)
 ns:h.Ns1 dx mA
 ne:dx≠x
theorem qf4 {h:Heap}{dx:Addr}{mA:Str->Option va2} (n:h.Ns1 dx mA):∃ od,h.get? dx=some od/\∀ name,vo5 name od=some (mA name):=by
 obtain ⟨o,es,ep,ho,hd,hk,_,hm⟩:=n;refine ⟨o,ho,λ name=>?_⟩;have e:=hm name;unfold nsFind findBy at e;rw [<- Array.find?_toList] at e;unfold vo5;rw [hd];dsimp only;split
 ·rename_i y q;rw [q] at e;exact congrArg some e
 ·rename_i q;rw [q] at e;have a:es.toList.any (·.refKey)=false:=by
   rw [List.any_eq_false];intro y hy;obtain ⟨z,t,hkey⟩:=hk y (Array.mem_toList_iff.mp hy);simp [DictEntry.refKey,hkey]
  have a':¬ es.toList.any (·.refKey)=true:=by rw [a];exact jb7
  rw [if_neg a'];exact congrArg some e
theorem ObjM.look {h:Heap}{x dx C:Addr}{mA:Str->Option va2} (I:ObjM h x dx C mA):∃ od,PySem.W.InstAt h x (vn7 C dx) C (some od)/\∀ name,vo5 name od=some (mA name):=
 let ⟨od,ho,hl⟩:=qf4 I.ns
 ⟨od,⟨I.obj,rfl,rfl,ho⟩,hl⟩
section
variable {prog:vb0}{w:vb7}{A:vc3}{E:va2->va3->Prop}{s:va3}{K:va8}{x dx C f:Addr}{mA:Str->Option va2}{name:Str}{v:va2}
end
theorem RelO.some_of {v:V}{o:Option va2} (r:RelO (some v) o):∃ u,o=some u/\RelV v u:=by
 cases o with
 | none=>exact (show False from r).elim
 | some u=>exact ⟨u,rfl,r⟩
section
variable {P:vb0}{w:vb7}{H H':Hp}{h h':Heap}{a C dx:Addr}{fs fs':List (Str×V)}
theorem qmx (hok:HOk P w H h) (e:H a=some (.ins C dx fs)):∃ mA,ObjM h a dx C mA/\(∀ f,RelO (fs.lookup f) (mA f))/\PySem.Within mA (fs.map (·.1))/\fs.length<=1000/\H dx=some (.own a):=by
 obtain ⟨d,z,ne,ob,mA,n,r,q⟩:=(show zxp P w H h a (.ins C dx fs) from hok a _ e)
 exact ⟨mA,⟨ob,n,ne⟩,r,q,z,d⟩
end
structure Cls (K:va8) (C:Addr):Prop where
 pg:PySem.W.plainGet K C Str.empty=true
 hd:PySem.W.hasDictIn K C=true
 po:PySem.W.plainOver K C=true
 sa:vh9 K (.ref C) "__setattr__" = some (some (.builtin "object.__setattr__"))
theorem Cls.get {K:va8}{C:Addr} (c:Cls K C) (f:Str):PySem.W.plainGet K C f=true:=c.pg
structure Con (K:va8) (C:Addr) (f:Str) (v:V) (u:va2):Prop where
 at_:vh9 K (.ref C) f=some (some u)
 rel:RelV v u
 get:PySem.W.specialIn K u "__get__" = some none
 cp:PySem.W.copiedNames.contains f=false
structure Meth (K:va8) (C:Addr) (m:Str) (f:Addr):Prop where
 at_:vh9 K (.ref C) m=some (some (.ref f))
 fn:PySem.W.isFn K (.ref f)=true
 kp:ve8 K (.ref f)=true
section
variable {X:Cx}{pins:List (Addr×Obj)}{σ:St}{H:Hp}{s:va3}{a C dx:Addr}{fs:List (Str×V)}{f:Str}{v:V}{A:vc3}{E:va2->va3->Prop}
end
section
variable {X:Cx}{o e value:Expr}{f:Str}{pos pos' tpos:Pos}{ta tv:TE}
end
section
variable {X:Cx}{pins:List (Addr×Obj)}{σ:St}{H:Hp}{s:va3}{A:vc3}{E:va2->va3->Prop}{Q:va2->va3->Prop}{c:va2}{b:Bool}
inductive TyOf (K:va8) (H:Hp):V->va2->Prop where
 | non:TyOf K H .non (.type "NoneType")
 | bl (x:Bool):TyOf K H (.bl x) (.type "bool")
 | int (i:Int):TyOf K H (.int i) (.type "int")
 | str (x:Str):TyOf K H (.str x) (.type "str")
 | flt (x:UInt64):TyOf K H (.flt x) (.type "float")
 | lst {a:Addr}{xs:List V} (e:H a=some (.lst xs)):TyOf K H (.ref a) (.type "list")
 | frz {a:Addr}{o:Obj}{xs:List V} (e:H a=some (.frz o (.lst xs))):TyOf K H (.ref a) (.type "list")
 | tup {a:Addr}{xs:List V} (e:H a=some (.tup xs)):TyOf K H (.ref a) (.type "tuple")
 | dK {a:Addr}{kvs:List (Key×V)} (e:H a=some (.dK kvs)):TyOf K H (.ref a) (.type "dict")
 | dT {a:Addr}{kvs:List (List Key×V)} (e:H a=some (.dT kvs)):TyOf K H (.ref a) (.type "dict")
 | ins {a C dx:Addr}{fs:List (Str×V)} (e:H a=some (.ins C dx fs)) (cl:Cls K C) (ha:vh9 K (.ref C) "__class__" = some (some (.builtin "object.__class__")))
   (hn:PySem.W.specialIn K (.builtin "object.__class__") "__get__" = some (some (.builtin "getset_descriptor.__get__"))) (htk:PySem.W.takesIn K (.builtin "object.__class__")=some true)
   (hm:PySem.W.mroIn K C (.type "object")=some true):TyOf K H (.ref a) (.ref C)
theorem qgg {x:V}{u t:va2} (I:Inv X pins σ H s) (rx:RelV x u) (ty:TyOf X.K H x t) (e:vk3 X.K t c=some b) (h:∀ tk,Q (.bool b) { s with toks:=tk }):
  vb1 (vb3 X.prog X.w) A (call (.builtin "isinstance") [u,c]) Q E s:=by
 cases ty with
 | non=>cases (show u=Value.none from rx);exact vc2 PySem.W.kitx_none I.kIn True.intro e (λ z=>nomatch z) h
 | bl y=>cases (show u=Value.bool y from rx);exact vc2 PySem.W.kitx_bool I.kIn True.intro e (λ z=>nomatch z) h
 | int i=>obtain ⟨t,q⟩:=(show ∃ t,u=Value.int i t from rx);cases q;exact vc2 PySem.W.kitx_int I.kIn True.intro e (λ z=>nomatch z) h
 | str y=>obtain ⟨t,q⟩:=(show ∃ t,u=Value.str y t from rx);cases q;exact vc2 PySem.W.kitx_str I.kIn True.intro e (λ z=>nomatch z) h
 | flt y=>obtain ⟨t,q⟩:=(show ∃ t,u=Value.float y t from rx);cases q;exact vc2 PySem.W.kitx_float I.kIn True.intro e (λ z=>nomatch z) h
 | @lst a xs ea=>
  cases (show u=Value.ref a from rx);obtain ⟨_,_,n,_,h1⟩:=(show zxp X.prog X.w H s.heap a (.lst xs) from I.hok a _ ea)
  exact vc2 PySem.W.kitx_list I.kIn ⟨_,h1,rfl⟩ e (λ z=>nomatch z) h
 | @frz a ob xs ea=>
  cases (show u=Value.ref a from rx);obtain ⟨_,_,_,n,_,h1⟩:=(show zxp X.prog X.w H s.heap a (.frz ob (.lst xs)) from I.hok a _ ea)
  exact vc2 PySem.W.kitx_list I.kIn ⟨_,h1,rfl⟩ e (λ z=>nomatch z) h
 | @tup a xs ea=>
  cases (show u=Value.ref a from rx);obtain ⟨_,_,_,p⟩:=(show zxp X.prog X.w H s.heap a (.tup xs) from I.hok a _ ea)
  obtain ⟨o,h1,h2,_⟩:=p;exact vc2 PySem.W.kitx_tuple I.kIn ⟨o,h1,h2⟩ e (λ z=>nomatch z) h
 | @dK a kvs ea=>
  cases (show u=Value.ref a from rx);obtain ⟨_,_,vs,_,p⟩:=(show zxp X.prog X.w H s.heap a (.dK kvs) from I.hok a _ ea)
  obtain ⟨o,es,ep,h1,h2,_⟩:=p;exact vc2 PySem.W.kitx_dict I.kIn ⟨o,h1,h2.1⟩ e (λ z=>nomatch z) h
 | @dT a kvs ea=>
  cases (show u=Value.ref a from rx);obtain ⟨_,_,xs,_,o,es,ep,h1,h2,_⟩:=(show zxp X.prog X.w H s.heap a (.dT kvs) from I.hok a _ ea)
  exact vc2 PySem.W.kitx_dict I.kIn ⟨o,h1,h2.1⟩ e (λ z=>nomatch z) h
 | @ins a C dx fs ea cl ha hn htk hm=>
  cases (show u=Value.ref a from rx);obtain ⟨mA,O,_⟩:=qmx I.hok ea;obtain ⟨od,J,_⟩:=O.look;exact vc2 (PySem.W.kitx_own (cl.get _) cl.hd ha hn htk hm) I.kIn J e (λ z=>nomatch z) h
end
structure Room (k:Nat) (A:vc3):Prop where
 hd:A.handled=none
 dp:A.depth + 3 * k + 5 < recursionLimit
 un:A.units + 16 * k + 200 < vm1
 gd:A.guards=some []
theorem Room.mono {j k:Nat}{A:vc3} (r:Room k A) (h:j<=k):Room j A:=⟨r.hd,by have:=r.dp;omega,by have:=r.un;omega,r.gd⟩
theorem Room.deeper {k:Nat}{A:vc3} (r:Room (k + 1) A) (env:Env):Room k (A.deeper env):=
 ⟨r.hd,by have:=r.dp;show A.depth + 1 + 3 * k + 5 < _;omega,by have:=r.un;show A.units + 3 + 16 * k + 200 < _;omega,r.gd⟩
theorem Room.depth {k:Nat}{A:vc3} (r:Room k A):A.depth < recursionLimit:=by have:=r.dp;omega
theorem Room.units {k:Nat}{A:vc3} (r:Room k A):A.units + 64 < vm1:=by have:=r.un;omega
def tNil:TA:=λ _ H Q=>Q [] H
def qeh (ta:TE) (tr:TA):TA:=λ σ H Q=>ta σ H λ x H1=>tr σ H1 λ xs H2=>Q (x::xs) H2
section
variable {X:Cx}{e:Expr}{es:List Expr}{te:TE}{t:TA}{pos:Pos}
theorem zhh:PA X [] tNil:=λ _ _ _ _ H Q I h=>vl8 ⟨[],H,I,.nil,h⟩
theorem zyz (ha:PE X e te) (hr:PA X es t) (hs:va9 (e::es) X.env=(false,eval e X.env)::va9 es X.env:=by rfl):PA X (e::es) (qeh te t):=by
 intro pos pins s σ H Q I h;rw [hs];show vb1 _ _ (spliced ((false,eval e X.env)::vg4 pos (va9 es X.env))) _ _ s;refine vl0 (thn (ha pins s σ H _ I h) λ u s1 ⟨x,H1,I1,r1,q1⟩=>?_);exact thn (hr pos pins s1 σ H1 _ I1 q1) λ us s2 ⟨xs,H2,I2,r2,q2⟩=>⟨x::xs,H2,I2,.cons r1 r2,q2⟩
def tTup (t:TA):TE:=λ σ H Q=>t σ H λ xs H1=>xs.length<=va5/\∀ p,H1 p=none->Q (.ref p) (upd H1 p (.tup xs))
def tLst (t:TA):TE:=λ σ H Q=>t σ H λ xs H1=>xs.length<=va5/\∀ p,H1 p=none->Q (.ref p) (upd H1 p (.lst xs))
theorem qpf {x1} (h:PA X es t):PE X (.Tuple es x1 pos) (tTup t):=by
 intro pins s σ H Q I hq;refine wpAny_Tuple_spliced (thn (h pos pins s σ H _ I hq) λ us s1 ⟨xs,H1,I1,r,z,q⟩=>⟨by rw [<- r.length];exact z,?_⟩);have hf:H1 s1.heap.objs.size=none:=I1.hok.fresh (ja4 _);refine ⟨.ref s1.heap.objs.size,upd H1 s1.heap.objs.size (.tup xs),I1.laid (t':=s1.toks) (λ b u e=>va4 _ e) (ja4 _) ?_,rfl,q _ hf⟩;exact ⟨z,us,r,⟨_,va7 _ rfl,rfl,_,rfl⟩⟩
theorem qka (h:PA X es t):PE X (.List es pos) (tLst t):=by
 intro pins s σ H Q I hq;refine wpAny_List_spliced (thn (h pos pins s σ H _ I hq) λ us s1 ⟨xs,H1,I1,r,z,q⟩=>⟨by rw [<- r.length];exact z,?_⟩);have hf:H1 s1.heap.objs.size=none:=I1.hok.fresh (ja4 _);refine ⟨.ref s1.heap.objs.size,upd H1 s1.heap.objs.size (.lst xs),I1.laid (t':=s1.toks) (λ b u e=>va4 _ e) (ja4 _) ?_,rfl,q _ hf⟩;exact ⟨z,us,0,r,va7 _ rfl⟩
end
abbrev Sp:=List V->Hp->VK->XK->Prop
abbrev CXT:=List Env->Hp->va3->XK->va2->va3->Prop
structure Env0 (P:vb0) (w:vb7) (K:va8) (mg:Str->Option va2) (base:Heap) (A:vc3) (outer:List Env) (s:va3) (H:Hp):Prop where
 frames:A.frames=some outer
 mod:Mod K mg base
 bs:∀ b o,base.get? b=some o->s.heap.get? b=some o/\H b=none
 bsz:base.objs.size<=s.heap.objs.size
 funs:s.heap.FunFrames base outer
 frf:∀ b∈frs outer,H b=none
 hok:HOk P w H s.heap
 bare:vi9 s.gens
def CE (outer:List Env) (P:vb0) (w:vb7) (H:Hp) (s:va3) (Q:VK) (u:va2) (s':va3):Prop:=
 ∃ v H',s'.os=s.os/\vi9 s'.gens/\Un (frs outer) [] H H' s.heap s'.heap/\HOk P w H' s'.heap/\RelV v u/\Q v H'
def CR (CX:CXT) (outer:List Env) (P:vb0) (w:vb7) (H:Hp) (s:va3) (Q:VK) (E:XK) (r:Result) (s':va3):Prop:=
 match r with
 | .ok (.ret u)=>CE outer P w H s Q u s'
 | .ok _=>False
 | .error e=>CX outer H s E e s'
structure FnOk (P:vb0) (w:vb7) (K:va8) (mg:Str->Option va2) (base:Heap) (CX:CXT) (k:Nat) (f:Addr) (fd:vc9) (ps:List Str) (sp:Sp):Prop where
 len:∀ vs H Q E,sp vs H Q E->vs.length=ps.length
 run:∀ (A:vc3) (outer:List Env) (s:va3) (H:Hp) (args:Args) (us:List va2) (vs:List V) (Q:VK) (E:XK),Room k A->Env0 P w K mg base A outer s H->BindsTo s fd args (ps.zip us)->Vals vs us->sp vs H Q E ->
  vj9 (vb3 P w) A (.call (.ref f) args) (CR CX outer P w H s Q E) s
theorem FnOk.mono {P:vb0}{w:vb7}{K:va8}{mg:Str->Option va2}{base:Heap}{CX:CXT}{j k:Nat}{f:Addr}{fd:vc9}{ps:List Str}{sp:Sp} (F:FnOk P w K mg base CX j f fd ps sp) (h:j<=k):
  FnOk P w K mg base CX k f fd ps sp:=⟨F.len,λ A outer s H args us vs Q E hr=>F.run A outer s H args us vs Q E (hr.mono h)⟩
section
variable {X:Cx}{pins:List (Addr×Obj)}{σ:St}{H:Hp}{s s':va3}
theorem Inv.env0 (I:Inv X pins σ H s):Env0 X.prog X.w X.K X.mg X.base X.A X.stack s H:=
 ⟨I.ok.frames,I.ok.mod,I.bs,jc9 I.ok.bsz I.sz,I.stack,I.stkFree,I.hok,I.bare⟩
theorem Inv.after {Q:VK}{u:va2} (I:Inv X pins σ H s) (h:CE X.stack X.prog X.w H s Q u s'):EP X pins σ Q u s':=by
 obtain ⟨v,H',os,bare,un,hok,r,q⟩:=h;obtain ⟨hh,g,d,t,os'⟩:=s';obtain rfl:os'=s.os:=os;exact ⟨v,H',I.call (h':=hh) (g':=g) (d':=d) (t':=t) (ch:=[]) un hok bare (λ b z=>absurd z (by simp)),r,q⟩
end
def qan (K:va8) (fd:vc9) (ps:List Str) (ds:List va2):Prop:=
 ∀ (s:va3) (us:List va2),K.In s.heap->(us++ds).length=ps.length->BindsTo s fd ⟨us,[]⟩ (ps.zip (us++ds))
theorem qan.all {K:va8}{fd:vc9}{ps:List Str} (h:∀ us:List va2,us.length=ps.length->bindArgs fd ⟨us,[]⟩=pure (ps.zip us)):qan K fd ps []:=λ s us _ hl=>by
 rw [jh9] at hl ⊢;exact .of_eq (h us hl)
section
variable {X:Cx}{CX:CXT}{k:Nat}{f C:Addr}{fd:vc9}{ps:List Str}{sp:Sp}{dvs:List V}{ds:List va2}{E:XK}{x m:Str}{p pos apos:Pos}{e o:Expr}{es:List Expr}{ta:TE}{t:TA}
structure Mk (K:va8) (C f:Addr):Prop where
 makes:PySem.W.makesIn K C=true
 init:vh9 K (.ref C) "__init__" = some (some (.ref f))
 fn:PySem.W.isFn K (.ref f)=true
 kp:ve8 K (.ref C)=true
end
def PK (X:Cx) (kws:List Keyword) (t:TA):Prop:=
 ∀ (pos:Pos) (pins:List (Addr×Obj)) (s:va3) (σ:St) (H:Hp) (Q:List V->Hp->Prop),Inv X pins σ H s->t σ H Q->vb1 (vb3 X.prog X.w) X.A (evalAll ((backToKw pos (vn1 kws X.env)).map (·.2))) (AP X pins σ Q) X.xe s
section
variable {X:Cx}{CX:CXT}{k:Nat}{f C:Addr}{fd:vc9}{ps ks:List Str}{sp:Sp}{E:XK}{x m:Str}{p pos apos kpos:Pos}{e o:Expr}{es:List Expr}{kws:List Keyword}{te ta:TE}{t tk:TA}{nm:Option Str}
theorem qpb:PK X [] tNil:=λ _ _ _ _ H Q I h=>wpAny_evalAll_nil ⟨[],H,I,.nil,h⟩
theorem qly (ha:PE X e te) (hr:PK X kws t):PK X (⟨nm,e,kpos⟩::kws) (qeh te t):=by
 intro pos pins s σ H Q I h;show vb1 _ _ (evalAll ((do let v<-eval e X.env;standAt pos;pure v)::(backToKw pos (vn1 kws X.env)).map (·.2))) _ _ s;refine wpAny_evalAll_cons (va0 (thn (ha pins s σ H _ I h) λ u s1 ⟨x,H1,I1,r1,q1⟩=>va0 (vk7 (va1 ?_))));exact thn (hr pos pins s1 σ H1 _ I1 q1) λ us s2 ⟨xs,H2,I2,r2,q2⟩=>⟨x::xs,H2,I2,.cons r1 r2,q2⟩
structure KBinds (K:va8) (fd:vc9) (ps ks:List Str) (g:List va2->List va2->List va2) (gV:List V->List V->List V):Prop where
 to:∀ (s:va3) (us ws:List va2),K.In s.heap->(g us ws).length=ps.length->BindsTo s fd ⟨us,ks.zip ws⟩ (ps.zip (g us ws))
 rel:∀ {vs:List V}{us:List va2}{zs:List V}{ws:List va2},Vals vs us->Vals zs ws->Vals (gV vs zs) (g us ws)
variable {g:List va2->List va2->List va2}{gV:List V->List V->List V}
end
structure FnScope (N P:List Str) (sc:vd4):Prop where
 kind:sc.kind=.function:=by rfl
 co:sc.isCoroutine=false:=by rfl
 gen:sc.isGenerator=false:=by rfl
 nd:N.Nodup:=by decide +kernel
 pre:N.take P.length=P:=by rfl
 par:∀ x∈P,sc.names.lookup x=some .local\/sc.names.lookup x=some .cell:=by decide +kernel
 nofree:∀ y∈sc.names,y.2≠.free:=by decide +kernel
theorem qae {kindOf:Str->Option vd2}{x:Str}:∀ {binds:List (Str×va2)}{m:Str->Option va2},(∀ v,(x,v)∉binds)->bindL kindOf binds m x=m x
 | [],_,_=>rfl
 | (n,v)::r,m,h=>by
  unfold bindL;rw [qae λ w hw=>h w (ja1 _ hw)];split
  ·have:x≠n:=by rintro rfl;exact h v ja2
   simp [this]
  ·rfl
theorem qag {kindOf:Str->Option vd2}{x:Str}:∀ {binds:List (Str×va2)}{m:Str->Option va2},(∀ v,(x,v)∉binds)->bindC kindOf binds m x=m x
 | [],_,_=>rfl
 | (n,v)::r,m,h=>by
  unfold bindC;rw [qag λ w hw=>h w (ja1 _ hw)];split
  ·rfl
  ·have:x≠n:=by rintro rfl;exact h v ja2
   simp [this]
theorem qaf {kindOf:Str->Option vd2}{x:Str}{v:va2}:∀ {P:List Str}{vs:List va2}{i:Nat}{m:Str->Option va2},P.Nodup->P[i]?=some x->vs[i]?=some v->kindOf x=some .local ->
  bindL kindOf (P.zip vs) m x=some v
 | [],_,_,_,_,h,_,_=>by simp at h
 | _::_,[],_,_,_,_,h,_=>by simp at h
 | p::P,w::vs,0,m,nd,h1,h2,hk=>by
  simp at h1 h2;subst h1;subst h2;show bindL kindOf ((p,w)::P.zip vs) m p=_;unfold bindL;rw [qae λ v hv=>(ji0.mp nd).1 (jm9 hv).1,if_pos hk];simp
 | p::P,w::vs,i + 1,m,nd,h1,h2,hk=>by
  show bindL kindOf ((p,w)::P.zip vs) m x=_;unfold bindL;exact qaf (i:=i) (ji0.mp nd).2 (by simpa using h1) (by simpa using h2) hk
theorem qah {kindOf:Str->Option vd2}{x:Str}{v:va2}:∀ {P:List Str}{vs:List va2}{i:Nat}{m:Str->Option va2},P.Nodup->P[i]?=some x->vs[i]?=some v->kindOf x≠some .local ->
  bindC kindOf (P.zip vs) m x=some v
 | [],_,_,_,_,h,_,_=>by simp at h
 | _::_,[],_,_,_,_,h,_=>by simp at h
 | p::P,w::vs,0,m,nd,h1,h2,hk=>by
  simp at h1 h2;subst h1;subst h2;show bindC kindOf ((p,w)::P.zip vs) m p=_;unfold bindC;rw [qag λ v hv=>(ji0.mp nd).1 (jm9 hv).1,if_neg hk];simp
 | p::P,w::vs,i + 1,m,nd,h1,h2,hk=>by
  show bindC kindOf ((p,w)::P.zip vs) m x=_;unfold bindC;exact qah (i:=i) (ji0.mp nd).2 (by simpa using h1) (by simpa using h2) hk
def start (N:List Str) (vs:List V):St:=vs.map some++ja6 (N.length - vs.length) none
def cxOf (CX:CXT) (P:vb0) (w:vb7) (K:va8) (mg:Str->Option va2) (base:Heap) (N:List Str) (qual:Str) (scope:vd4) (f:Addr) (cd:va2) (A:vc3) (outer:List Env) (s:va3) (H:Hp) (E:XK):Cx where
 prog:=P
 w:=w
 K:=K
 mg:=mg
 base:=base
 A:=A.deeper (vn4 qual scope s.heap.objs.size f cd)
 N:=N
 s₀:=s
 H₀:=H
 env:=vn4 qual scope s.heap.objs.size f cd
 outer:=outer
 stack:=vn4 qual scope s.heap.objs.size f cd::outer
 ex:=[]
 calm:=true
 fn:=λ _=>true
 pn:=[]
 xe:=λ e s'=>vb1 (vb3 P w) (A.deeper (vn4 qual scope s.heap.objs.size f cd)) (leaving (vn4 qual scope s.heap.objs.size f cd) e) (λ _ s''=>CX outer H s E e s'') (λ e' s''=>CX outer H s E e' s'') s'
theorem qc2 {sc:vd4}{n:Nat}{x:Str} (h:sc.names.lookup x=some .cell):∃ c,(vc4 n sc.names []).lookup x=some c:=by
 have q:=PySem.W.cellsFrom_some sc.names n [] (.inl h);exact Option.isSome_iff_exists.mp q
theorem qgj {CX:CXT}{P:vb0}{w:vb7}{K:va8}{mg:Str->Option va2}{base:Heap}{N ps:List Str}{qual:Str}{scope:vd4}{f:Addr}{cd:va2}{A:vc3}{outer:List Env}{s s1:va3}{H:Hp}{E:XK}{us:List va2}{vs:List V}
  (S:FnScope N ps scope) (hd:A.handled=none) (e0:Env0 P w K mg base A outer s H) (hl:vs.length=ps.length) (r:Vals vs us)
  (x:InCallC s s.heap.objs.size (bindL (vn4 qual scope s.heap.objs.size f cd).kindOf (ps.zip us) λ _=>none) (vc4 (s.heap.objs.size + 1) scope.names []) (bindC (vn4 qual scope s.heap.objs.size f cd).kindOf (ps.zip us) λ _=>none) s1):
  Inv (cxOf CX P w K mg base N qual scope f cd A outer s H E) [] (start N vs) H s1:=by
 have hpl:ps.length<=N.length:=by have:=congrArg List.length S.pre;rw [jf0] at this;omega
 obtain ⟨h1,tk,rfl,hk⟩:=x.done;have noA:∀ b:Addr,b∉(cxOf CX P w K mg base N qual scope f cd A outer s H E).ex:=λ b z=>absurd (show b∈([]:List Addr) from z) (by simp);refine ⟨⟨e0.mod,S.kind,rfl,rfl,ja4 _,λ y z c h1 h2=>?_,λ y hy=>?_,λ y c _ h=>?_,λ _=>hd,Around.frames_deeper e0.frames,.inr ⟨rfl,rfl⟩,λ b z=>absurd z (noA b),e0.bs,e0.bsz,λ b _ _=>noA b,λ b z=>absurd z (noA b),e0.funs,e0.frf⟩,
  rfl,e0.bare,Un.kept hk,⟨_,x.toInCall.ns,λ i y v h1 h2 h3=>?_⟩,λ y c h=>⟨_,x.cell y c h⟩,e0.hok.fresh (ja4 _),λ y c h=>?_,λ p hp=>absurd (show p∈([]:List (Addr×Obj)) from hp) (by simp),e0.hok.kept hk,?_⟩
 ·exact name_of_addr x.apart (vf3 h1) (vf3 h2)
 ·have hy:scope.names.lookup y=some .cell\/scope.names.lookup y=some .free:=hy;rcases hy with hy | hy
  ·exact qc2 hy
  ·exact absurd rfl (S.nofree _ (vf3 hy))
 ·exact jl3 (x.above y c (vf3 h))
 ·have hi:i < vs.length:=by
   unfold start at h2;by_cases hi:i < vs.length
   ·exact hi
   ·rw [jc8 (by simpa using hi)] at h2;rw [jd3] at h2;split at h2 <;> cases h2
  have ha:vs[i]?=some v:=by
   unfold start at h2;rw [jb3 (by simpa using hi),jc1] at h2;cases e:vs[i]? with
   | none=>rw [e] at h2;cases h2
   | some a=>rw [e] at h2;cases h2;rfl
  obtain ⟨u,hu,rv⟩:=r.get ha;have hp:ps[i]?=some y:=by
   rw [<- S.pre,jf5 (by omega)];exact h1
  have ndP:ps.Nodup:=by rw [<- S.pre];exact S.nd.sublist (List.take_sublist _ _)
  refine ⟨u,rv,?_⟩;rcases S.par y (jn5 hp) with k | k
  ·exact .inl ⟨k,qaf ndP hp hu k⟩
  ·obtain ⟨c,e⟩:=qc2 (n:=s.heap.objs.size + 1) k;refine .inr ⟨.inl k,c,e,?_⟩;have q:=x.cell y c e;rw [qah ndP hp hu (by show scope.names.lookup y≠_;rw [k];decide)] at q;exact q
 ·exact e0.hok.fresh (jl3 (x.above y c (vf3 h)))
 ·unfold start;show _=N.length;rw [jb0,ja3,jd5];omega
theorem qrj {CX:CXT}{P:vb0}{w:vb7}{K:va8}{mg:Str->Option va2}{base:Heap}{k:Nat}{f:Addr}{name qual:Str}{params:Arguments}{body:List Stmt}{scope:vd4}{dV kV doc pm cdv ct oc:va2}{an od:Option Addr}
  {osl:Array (Option va2)}{N ps:List Str}{sp:Sp} (lk:K.lookup f=some ⟨oc,od,.func (vh5 name qual params body scope dV kV doc pm an cdv ct),osl⟩) (hcd:vo6 K cdv qual=true) (S:FnScope N ps scope)
  (len:∀ vs H Q E,sp vs H Q E->vs.length=ps.length)
  (hbody:∀ (A:vc3) (outer:List Env) (s:va3) (H:Hp) (vs:List V) (Q:VK) (E:XK),Room k (A.deeper (vn4 qual scope s.heap.objs.size f cdv))->sp vs H Q E ->
   ∃ t,PSs (cxOf CX P w K mg base N qual scope f cdv A outer s H E) body t/\t { nx:=λ _ H'=>Q .non H',rt:=Q } (start N vs) H):
  FnOk P w K mg base CX (k + 1) f (vh5 name qual params body scope dV kV doc pm an cdv ct) ps sp:=by
 refine ⟨len,λ A outer s H args us vs Q E hr e0 hb r hsp=>?_⟩;have hl:=len _ _ _ _ hsp;have KX:K.In s.heap:=e0.mod.kin.keeps λ b o e=>(e0.bs b o e).1;have lim:s.heap.NoLimit:=e0.mod.nolimit.keeps λ b o e=>(e0.bs b o e).1;have hkind:∀ y∈ps.zip us,scope.names.lookup y.1=some .local\/(scope.names.lookup y.1=some .cell/\((vc4 (s.heap.objs.size + 1) scope.names []).lookup y.1).isSome=true):=λ ⟨n,v⟩ hy=>by
  rcases S.par n (jm9 hy).1 with q | q
  ·exact .inl q
  ·exact .inr ⟨q,PySem.W.cellsFrom_some _ _ _ (.inl q)⟩
 refine codeAny_call_function hr.depth (KX _ _ lk) rfl S.co S.gen rfl (PySem.W.codeRec_of KX hcd) (hb _ _ _ _ ?_);refine wpAny_newFunctionEnv_cells S.kind hkind λ env he s1 x=>?_;subst he;refine ⟨lim.keeps x.toInCall.keep,codeAny_func ?_⟩;obtain ⟨t,ht,hq⟩:=hbody A outer s H vs Q E (hr.deeper _) hsp;have I:Inv (cxOf CX P w K mg base N qual scope f cdv A outer s H E) [] (start N vs) H s1:=qgj S hr.hd e0 hl r x;refine vg5 (ht [] s1 (start N vs) H _ I hq) (λ fl s' hs=>?_) λ e s' hs=>hs;have fin:∀ {σ':St}{H':Hp}{v:V}{u:va2},Inv (cxOf CX P w K mg base N qual scope f cdv A outer s H E) [] σ' H' s'->RelV v u->Q v H'->CE outer P w H s Q u s':=
  λ {σ' H' v u} J rv q=>⟨v,H',J.os,J.bare,J.base,J.hok,rv,q⟩
 cases fl with
 | ret u=>
  obtain ⟨v,σ',H',J,rv,q⟩:=hs;exact fin J rv q
 | next=>
  obtain ⟨σ',H',J,q⟩:=hs;exact fin (v:=V.non) (u:=Value.none) J rfl q
 | brk=>
  obtain ⟨_,_,_,q⟩:=hs;exact vf7 q
 | cont=>
  obtain ⟨_,_,_,q⟩:=hs;exact vf7 q
section
variable {X:Cx}{x:Str}{p pos:Pos}{e:Expr}{es:List Expr}{t:TA}{id T:String}{r:List V->Hp->VK->Prop}
def tCB (r:List V->Hp->VK->Prop) (t:TA):TE:=λ σ H Q=>t σ H λ vs H1=>r vs H1 Q
theorem zyh (hc:zkl X (.builtin id) r) (hg:Gl X x) (hm:X.mg x=none) (hv:vf6 x=some (.builtin id)) (ha:PA X (e::es) t) (hn:x ≠ "__name__" := by decide) (hdb:(x == ("__debug__" : Str))=false:=by decide)
  (he:va9 (e::es) X.env=(false,eval e X.env)::va9 es X.env:=by rfl) (hpl:(vg4 pos (va9 es X.env)).any (·.1)=false:=by rfl):PE X (.Call (.Name x p) (e::es) [] pos) (tCB r t):=by
 intro pins s σ H Q I h;refine vg1 (zvr I hg hm hv ?_ hn hdb);exact PyProof.Rows.callWith_builtin1 (thn (ha pos pins s σ H _ I h) λ us s1 ⟨vs,H1,I1,r1,q1⟩=>hc pins s1 σ H1 vs us Q I1 r1 q1) he hpl
theorem zbo (hc:zkl X (.type T) r) (hg:Gl X x) (hm:X.mg x=none) (hv:vf6 x=some (.type T)) (ha:PA X (e::es) t) (hn:x ≠ "__name__" := by decide) (hdb:(x == ("__debug__" : Str))=false:=by decide)
  (he:va9 (e::es) X.env=(false,eval e X.env)::va9 es X.env:=by rfl) (hpl:(vg4 pos (va9 es X.env)).any (·.1)=false:=by rfl):PE X (.Call (.Name x p) (e::es) [] pos) (tCB r t):=by
 intro pins s σ H Q I h;refine vg1 (zvr I hg hm hv ?_ hn hdb);exact vb5 (thn (ha pos pins s σ H _ I h) λ us s1 ⟨vs,H1,I1,r1,q1⟩=>hc pins s1 σ H1 vs us Q I1 r1 q1) he hpl
end
end L2
namespace HT
open PySem PyProof.Rows
def lexLt:List Int->List Int->Bool
 | [],[]=>false
 | [],_::_=>true
 | _::_,[]=>false
 | x::xs,y::ys=>if x=y then lexLt xs ys else decide (x < y)
theorem qdq (x y:Int) (xs ys:List Int):lexLt (x::xs) (y::ys)=if x=y then lexLt xs ys else decide (x < y):=rfl
theorem zfn:lexLt [] []=false:=rfl
theorem zpw (y:Int) (ys:List Int):lexLt [] (y::ys)=true:=rfl
theorem zpx (x:Int) (xs:List Int):lexLt (x::xs) []=false:=rfl
theorem qjc (A:vc3) (s:va3) (a:Int) (t:Tok) (c:Int) (u:Tok):∃ e,SeqAt.EqAt A s (.int a t) (.int c u) e/\(e=true↔a=c):=
 ⟨(a == c),SeqAt.EqAt.int_int a t c u,by simp⟩
theorem qh9 (A:vc3) (s:va3) (a:Int) (t:Tok) (c:Int) (u:Tok) (prog:vb0) (w:vb7) (E:va2->va3->Prop) (Q:va2->va3->Prop) (h:Q (.bool (decide (a < c))) s):
  vb1 (vb3 prog w) A (richCompare .Lt (.int a t) (.int c u)) Q E s:=
 (PyProof.Rows.lt_int h:vb1 (vb3 prog w) A (vb6 .Lt (.int a t) (.int c u)) Q E s)
section
open PySem.SeqAt
open PySem.AutoSeq1 (wpAny_loadPart')
open PySem.MeetsSeq PySem.MeetsSeq2 PySem.MeetsSeq3
theorem zmx (l b:Addr) (items items2:Array va2) (n n2:Nat) (dd dd2:Option Addr) (sl sl2:Array (Option va2)) (ns ms:List Int) (hi:vg8 items.toList ns) (hj:vg8 items2.toList ms):
  Meets (vo1.«tuple.__lt__» ⟨[.ref l,.ref b],[]⟩)
   (λ _ R s=>s.heap.get? l=some { cls:=.type "tuple",dict:=dd,data:=.seq items n,slots:=sl }/\s.heap.get? b=some { cls:=.type "tuple",dict:=dd2,data:=.seq items2 n2,slots:=sl2 } /\
    R (.ok (.ret (.bool (lexLt ns ms)))) s):=
 .of_wp λ prog w A R s h=>by
  obtain ⟨hp,g,d,tk,os⟩:=s;obtain ⟨hl,hb,h⟩:=h;have f2:=AutoSeq1.sub_tuple_tuple;have z1:items.size=ns.length:=by rw [<- hi.length];simp
  have z2:items2.size=ms.length:=by rw [<- hj.length];simp
  wp_walk using wpAny_loadPart' hl,wpAny_loadPart' hb,wpAny_forIn_list _ (λ rest b s'=>b.1=none/\s'=⟨hp,g,d,tk,os⟩/\∃ (vs ws:List va2) (ns' ms':List Int),rest=vs.zip ws /\
   vg8 vs ns'/\vg8 ws ms'/\ns'.length + items2.size=ms'.length + items.size/\R (.ok (.ret (.bool (lexLt ns' ms')))) ⟨hp,g,d,tk,os⟩) _
  case turn=>
   rintro ⟨y,x⟩ rest b s' ⟨hb',rfl,vs,ws,ns',ms',hz,hvi,hwi,hlen,hR⟩;cases hvi with
   | nil=>rw [List.zip_nil_left] at hz;cases hz
   | cons a t hvi'=>
    cases hwi with
    | nil=>rw [List.zip_nil_right] at hz;cases hz
    | cons c u hwi'=>
     rw [jg8] at hz;injection hz with hyx hrest
     injection hyx with hy hx
     subst hy hx;rw [qdq] at hR;simp only [jb1] at hlen;obtain ⟨e,he,hiff⟩:=qjc A.in1 ⟨hp,g,d,tk,os⟩ a t c u;refine va0 (he prog w _ _ ?_);cases e with
     | true=>
      rw [if_pos (hiff.mp rfl)] at hR
      wp_walk
      exact ⟨rfl,rfl,_,_,_,_,hrest,hvi',hwi',by omega,hR⟩
     | false=>
      rw [if_neg (λ q=>absurd (hiff.mpr q) jb7)] at hR;have hri:=qh9 A.in1 ⟨hp,g,d,tk,os⟩ a t c u prog w
      wp_walk using hri
      exact ⟨_,rfl,by simpa using hR⟩
  case fin=>
   rintro ⟨b1,b2⟩ s' ⟨hb',rfl,vs,ws,ns',ms',hz,hvi,hwi,hlen,hR⟩;simp only at hb';subst hb';have hv:lexLt ns' ms'=decide (items.size < items2.size):=by
    cases hvi with
    | nil=>
     cases hwi with
     | nil=>
      simp only [jh1] at hlen;rw [zfn];exact (decide_eq_false (by omega)).symm
     | cons c u hw=>
      simp only [jh1,jb1] at hlen;rw [zpw];exact (decide_eq_true (by omega)).symm
    | cons a t hv=>
     cases hwi with
     | nil=>
      simp only [jh1,jb1] at hlen;rw [zpx];exact (decide_eq_false (by omega)).symm
     | cons c u hw=>
      rw [jg8] at hz;cases hz
   rw [hv] at hR
   wp_walk
   exact ⟨_,rfl,by simpa [Builtin.Tuple.tupleCompareSizes] using hR⟩
  case h=>
   exact ⟨rfl,rfl,items.toList,items2.toList,ns,ms,rfl,hi,hj,by omega,h⟩
end
section
variable {prog:vb0}{w:vb7}{A:vc3}{E:va2->va3->Prop}{s:va3}
theorem lt_tupInts {l b:Addr}{items items2:Array va2}{ns ms:List Int}{Q:va2->va3->Prop} (hl:IsTup s.heap l items) (hb:IsTup s.heap b items2) (hi:vg8 items.toList ns) (hj:vg8 items2.toList ms)
  (hu:A.units < vm1) (h:Q (.bool (lexLt ns ms)) s):vb1 (vb3 prog w) A (vb6 .Lt (.ref l) (.ref b)) Q E s:=by
 obtain ⟨⟨cls,dd,data,sl⟩,ho,hc,n,hd⟩:=id hl;obtain ⟨⟨cls2,dd2,data2,sl2⟩,ho2,hc2,n2,hd2⟩:=id hb;simp only at hc hd hc2 hd2;subst hc hd hc2 hd2;exact richCompare_meets_room (op:=.Lt) ⟨_,ho,rfl⟩ ⟨_,ho2,rfl⟩ PySem.F.slot_tuple_lt PySem.F.entry_tuple_lt (PySem.F.args_tuple_lt_2 _ _) (zmx l b items items2 n n2 dd dd2 sl sl2 ns ms hi hj)
  ⟨ho,ho2,show Value.bool (lexLt ns ms)≠Value.notImplemented/\Q (.bool (lexLt ns ms)) s from ⟨(λ x=>nomatch x),h⟩⟩ hu
theorem cat_tup {t b:Addr}{vs ws:List va2}{Q:va2->va3->Prop} (ht:IsTup s.heap t vs.toArray) (hb:IsTup s.heap b ws.toArray) (hv:vs≠[])
  (h1:ws=[]->Q (.ref t) s) (h2:ws≠[]->Q (.ref s.heap.objs.size) { s with heap:=s.heap.push { cls:=.type "tuple",data:=.seq (vs++ws).toArray } })
  (hsz:vs.length + ws.length<=va5):vb1 (vb3 prog w) A (vg3 .Add (.ref t) (.ref b)) Q E s:=by
 obtain ⟨⟨cls,dd,data,sl⟩,ho,hc,n,hd⟩:=id ht;obtain ⟨⟨cls2,dd2,data2,sl2⟩,ho2,hc2,n2,hd2⟩:=id hb;simp only at hc hd hc2 hd2;subst hc hd hc2 hd2;have e:vs.toArray++ws.toArray=(vs++ws).toArray:=by simp
 by_cases hw:ws=[]
 ·exact concat_meets ⟨_,ho,rfl⟩ ⟨_,ho2,rfl⟩ vm0 seq_tuple_add vj1 vi6 (vi4 _ _)
   (tuple_addW1 t b vs.toArray ws.toArray n n2 dd dd2 sl sl2 (by simpa using hv) (by simp [hw])) ⟨ho,ho2,h1 hw⟩
 ·refine concat_meets ⟨_,ho,rfl⟩ ⟨_,ho2,rfl⟩ vm0 seq_tuple_add vj1 vi6 (vi4 _ _)
   (tuple_addW2 t b vs.toArray ws.toArray n n2 dd dd2 sl sl2 (by simpa using hv) (by simpa using hw) (by rw [jb9,jb9];exact hsz)) ⟨ho,ho2,?_⟩
  rw [e];exact h2 hw
def sIx (n d:Nat):Option Int->Nat
 | none=>d
 | some v=>if v < 0 then (v + (n:Int)).toNat else min v.toNat n
theorem sIx_none (n d:Nat):sIx n d none=d:=rfl
theorem sIx_nat (n d k:Nat):sIx n d (some (k:Int))=min k n:=by
 show (if (k:Int) < 0 then ((k:Int) + (n:Int)).toNat else min (k:Int).toNat n)=min k n;rw [if_neg (by omega),jc7]
theorem qou (n d:Nat) (hd:d<=n) (o:Option Int):sIx n d o<=n:=by
 cases o with
 | none=>exact hd
 | some v=>
  show (if v < 0 then (v + (n:Int)).toNat else min v.toNat n)<=n;by_cases hv:v < 0
  ·rw [if_pos hv];omega
  ·rw [if_neg hv];exact Nat.min_le_right _ _
theorem qhd (v:Int) (n d:Nat):(if v < 0 then max (v + (n:Int)) 0 else min v (n:Int))=((sIx n d (some v):Nat):Int):=by
 show (if v < 0 then max (v + (n:Int)) 0 else min v (n:Int))=(((if v < 0 then (v + (n:Int)).toNat else min v.toNat n):Nat):Int);by_cases hv:v < 0
 ·simp only [if_pos hv];omega
 ·simp only [if_neg hv];omega
theorem qdz (lo hi:Option Int) (n:Nat):vi1 lo hi 1 (n:Int)=(((sIx n 0 lo:Nat):Int),((sIx n n hi:Nat):Int)):=by
 have h1:¬ ((1:Int) < 0):=by omega
 unfold vi1;simp only [h1,if_false];refine Prod.ext ?_ ?_
 ·cases lo with
  | none=>rfl
  | some v=>exact qhd v n 0
 ·cases hi with
  | none=>rfl
  | some v=>exact qhd v n n
theorem qdj (i j:Nat):ve9 (i:Int) (j:Int) 1=j - i:=by
 unfold ve9;have h1:(1:Int) > 0:=by omega
 simp only [h1,if_true,Int.ediv_one];split <;> omega
theorem zmf {v:va2}{o:Option Int}{Q:Option Int->va3->Prop} (p:IsPart v o) (h:Q o s):vb1 (vb3 prog w) A (Builtin.Slice.slicePartIndex v) Q E s:=by
 cases p with
 | none=>exact slicePart_none h
 | int i t=>exact slicePart_int h
theorem zjg {sl:Addr}{vl vu:va2}{lo hi:Option Int}{n:Nat}{Q:Int×Int×Nat->va3->Prop} (hs:s.heap.IsSliceOf sl vl vu .none) (pl:IsPart vl lo) (pu:IsPart vu hi)
  (h:Q (((sIx n 0 lo:Nat):Int),1,sIx n n hi - sIx n 0 lo) s):vb1 (vb3 prog w) A (vo3 (.ref sl) (pure (n:Int))) Q E s:=by
 obtain ⟨os,hos,hcs,hds⟩:=id hs;unfold vo3 Builtin.Slice.sliceFields;refine va0 (va0 (vm5 hos hds (x:=vl) rfl (va0 (vm5 hos hds (x:=vu) rfl (va0 (vm5 hos hds (x:=.none) rfl (va1 ?_)))))));refine va0 (slicePart_none ?_);show vb1 _ _ (if ((1:Int) == 0)=true then _ else _) _ _ s;rw [if_neg (by decide)];refine va0 (zmf pl (va0 (zmf pu (va0 (va1 ?_)))));show vb1 _ _ (match vi1 lo hi 1 (n:Int) with | (lo,hi)=>pure (lo,(1:Int),ve9 lo hi 1)) _ _ s;rw [qdz lo hi n];show vb1 _ _ (pure (((sIx n 0 lo:Nat):Int),(1:Int),ve9 ((sIx n 0 lo:Nat):Int) ((sIx n n hi:Nat):Int) 1)) _ _ s;rw [qdj];exact va1 h
theorem qie (xs:Array va2) (i k:Nat):((ja7 k).filterMap λ (m:Nat)=>xs[((i:Int) + (m:Int) * 1).toNat]?).toArray=((xs.toList.drop i).take k).toArray:=by
 have e:(λ (m:Nat)=>xs[((i:Int) + (m:Int) * 1).toNat]?)=λ m=>xs[i + m]?:=by
  funext m
  have:((i:Int) + (m:Int) * 1).toNat=i + m:=by omega
  rw [this]
 rw [e]
 have:=pick_run xs i k
 rw [List.filterMap_map] at this;have e2:((λ x=>xs[x]?) ∘ λ x=>i + x)=λ m=>xs[i + m]?:=rfl;rw [e2] at this;rw [this]
theorem getItem_tuple_cut {t sl:Addr}{items:Array va2}{vl vu:va2}{lo hi:Option Int}{Q:va2->va3->Prop} (ht:IsTup s.heap t items) (hs:s.heap.IsSliceOf sl vl vu .none) (pl:IsPart vl lo) (pu:IsPart vu hi)
  (hw:¬ (sIx items.size 0 lo=0/\sIx items.size items.size hi=items.size))
  (h:Q (.ref s.heap.objs.size) { s with heap:=s.heap.push { cls:=.type "tuple",data:=.seq ((items.toList.drop (sIx items.size 0 lo)).take (sIx items.size items.size hi - sIx items.size 0 lo)).toArray } })
  (hsz:items.size<=va5):vb1 (vb3 prog w) A (vn3 (.ref t) (.ref sl)) Q E s:=by
 have htake:sizeOk (.seq ((items.toList.drop (sIx items.size 0 lo)).take (sIx items.size items.size hi - sIx items.size 0 lo)).toArray):=by
  show ((items.toList.drop (sIx items.size 0 lo)).take (sIx items.size items.size hi - sIx items.size 0 lo)).toArray.size<=va5;rw [jb9,jf0,jk3,jf4];omega
 have hj:sIx items.size items.size hi<=items.size:=qou _ _ (ja4 _) hi;obtain ⟨os,hos,hcs,hds⟩:=id hs;have hTs:s.TypeIs (.ref sl) "slice" := ⟨os,hos,hcs⟩
 unfold vn3
 try with_reducible refine vc7 ?_
 first | refine va0 (va1 ?_) | skip
 refine va0 (wpAny_sequenceKey ht.typeIs (by decide) ?_);refine va0 (vd7 (name:=vb8 "__getitem__") ht.typeIs vl6
  (ve2 vl6 ht.typeIs entry_tuple_getitem ?_ (args_tuple_getitem _ _)))
 show vb1 _ _ (Builtin.Tuple.tupleItemsOf (.ref t) >>= _) _ _ s;refine va0 (tupleItemsOf_ ht ?_);refine va0 (wpAny_typeOf hTs ?_);rw [if_pos (by decide)];refine va0 (zjg hs pl pu ?_);have hno:¬ ((((sIx items.size 0 lo:Nat):Int) == 0 && (1:Int) == 1 && (sIx items.size items.size hi - sIx items.size 0 lo) == items.size)=true):=by
  intro q;rw [ja9,ja9] at q;have q1:((sIx items.size 0 lo:Nat):Int)=0:=eq_of_beq q.1.1;have q2:sIx items.size items.size hi - sIx items.size 0 lo=items.size:=eq_of_beq q.2;exact hw ⟨by omega,by omega⟩
 show vb1 _ _ (if (((sIx items.size 0 lo:Nat):Int) == 0 && (1:Int) == 1 && (sIx items.size items.size hi - sIx items.size 0 lo) == items.size)=true then _ else _) _ _ s;rw [if_neg hno,qie]
 first
  | exact va0 (m:=vf8 _) (vb4 (va1 ⟨_,rfl,va1 h⟩) htake)
  | exact va0 (m:=vf8 _) (vb4 (va0 (va1 (va1 ⟨_,rfl,va1 h⟩))) htake)
  | exact va0 (va0 (m:=vf8 _) (vb4 (va1 (va1 ⟨_,rfl,va1 h⟩)) htake))
  | exact va0 (va0 (m:=vf8 _) (vb4 (va1 ⟨_,rfl,va1 h⟩) htake))
end
end HT
namespace L2
open PySem PySem.Spec PyProof.Rows
abbrev TO:=St->Hp->(Option Int->Hp->Prop)->Prop
def PO (X:Cx) (e:Option Expr) (t:TO):Prop:=
 ∀ (pins:List (Addr×Obj)) (s:va3) (σ:St) (H:Hp) (Q:Option Int->Hp->Prop),Inv X pins σ H s->t σ H Q ->
  vb1 (vb3 X.prog X.w) X.A (evalPart e X.env) (λ u s'=>∃ o H',Inv X pins σ H' s'/\IsPart u o/\Q o H') X.xe s
def qef:TO:=λ _ H Q=>Q none H
def qn7 (t:TE):TO:=λ σ H Q=>t σ H λ x H1=>∃ i,x=.int i/\Q (some i) H1
theorem zmp {ns:List Int}:∀ {us:List va2},Vals (ns.map V.int) us->vg8 us ns:=by
 induction ns with
 | nil=>intro us r;rw [ji1] at r;cases r;exact .nil
 | cons n ns ih=>
  intro us r;rw [jc2] at r;cases r with
  | cons r1 r2=>
   obtain ⟨t,e⟩:=r1;subst e;exact .cons n t (ih r2)
section
variable {X:Cx}{e:Expr}{te:TE}{lo hi:Option Expr}{tl th:TO}{pos p2:Pos}
theorem qe6:PO X none qef:=by
 intro pins s σ H Q I h;rw [evalPart_none];exact va1 ⟨none,H,I,.none,h⟩
theorem qe5 (h:PE X e te):PO X (some e) (qn7 te):=by
 intro pins s σ H Q I hw;rw [evalPart_some];refine thn (h pins s σ H _ I hw) λ u s1 ⟨x,H1,I1,r1,q1⟩=>?_;obtain ⟨i,rfl,q⟩:=q1;obtain ⟨t,rfl⟩:=r1;exact ⟨some i,H1,I1,.int i t,q⟩
def SlR (X:Cx) (r:V->Option Int->Option Int->Hp->VK->Prop):Prop:=
 ∀ (pins:List (Addr×Obj)) (s:va3) (σ:St) (H:Hp) (x:V) (v vl vu:va2) (lo hi:Option Int) (sl:Addr) (Q:VK),Inv X pins σ H s->RelV x v->s.heap.IsSliceOf sl vl vu .none->IsPart vl lo->IsPart vu hi->r x lo hi H Q ->
  ∃ T id,typeLookup (.type T) "__getitem__" = pure (some (.builtin id))/\s.TypeIs v T/\vb1 (vb3 X.prog X.w) X.A (vn3 v (.ref sl)) (EP X pins σ Q) X.xe s
theorem SlR.or {r r':V->Option Int->Option Int->Hp->VK->Prop} (h:SlR X r) (h':SlR X r'):SlR X (λ x lo hi H Q=>r x lo hi H Q\/r' x lo hi H Q):=by
 intro pins s σ H x v vl vu lo hi sl Q I rx hs pl pu q;rcases q with q | q
 ·exact h pins s σ H x v vl vu lo hi sl Q I rx hs pl pu q
 ·exact h' pins s σ H x v vl vu lo hi sl Q I rx hs pl pu q
def tSl (r:V->Option Int->Option Int->Hp->VK->Prop) (te:TE) (tl th:TO):TE:=λ σ H Q=>te σ H λ x H1=>tl σ H1 λ l H2=>th σ H2 λ u H3=>r x l u H3 Q
theorem qcd {r:V->Option Int->Option Int->Hp->VK->Prop} (hr:SlR X r) (he:PE X e te) (hl:PO X lo tl) (hu:PO X hi th):PE X (.Subscript e (.Slice lo hi none p2) pos) (tSl r te tl th):=by
 intro pins s σ H Q I h;refine Subscript_ (thn (he pins s σ H _ I h) λ v s1 ⟨x,H1,I1,r1,q1⟩=>?_);refine wpAny_Slice (thn (hl pins s1 σ H1 _ I1 q1) λ vl s2 ⟨l,H2,I2,pl,q2⟩=>thn (hu pins s2 σ H2 _ I2 q2) λ vu s3 ⟨u,H3,I3,pu,q3⟩=>?_);rw [evalPart_none];refine va1 ?_;have I4:Inv X pins σ H3 { s3 with heap:=s3.heap.push { cls:=.type "slice",data:=.fields #[vl,vu,.none] } }:=I3.kept (t':=s3.toks) λ b ob q=>va4 _ q;obtain ⟨T,id,hT,ht,hg⟩:=hr pins { s3 with heap:=s3.heap.push { cls:=.type "slice",data:=.fields #[vl,vu,.none] } } σ H3 x v vl vu l u s3.heap.objs.size Q I4 r1 (Heap.IsSliceOf.new ..) pl pu q3;show vb1 (vb3 X.prog X.w) X.A (subscriptTail e (.Slice lo hi none p2) v (.ref s3.heap.objs.size)) (EP X pins σ Q) X.xe { s3 with heap:=s3.heap.push { cls:=.type "slice",data:=.fields #[vl,vu,.none] } };exact tail_any (ops:=[.ref s3.heap.objs.size,v]) ht hT hg (by with_unfolding_all rfl)
def cutV (xs:List V) (lo hi:Option Int):List V:=(xs.drop (HT.sIx xs.length 0 lo)).take (HT.sIx xs.length xs.length hi - HT.sIx xs.length 0 lo)
theorem zpl (xs:List V) (lo hi:Option Int):(cutV xs lo hi).length<=xs.length:=by
 unfold cutV;rw [jf0,jk3];omega
def rSlT (K:va8):V->Option Int->Option Int->Hp->VK->Prop:=λ x lo hi H Q=>∃ a xs,x=.ref a/\SqT K H a xs /\
 ¬ (HT.sIx xs.length 0 lo=0/\HT.sIx xs.length xs.length hi=xs.length)/\∀ p,H p=none->Q (.ref p) (upd H p (.tup (cutV xs lo hi)))
theorem qj3:SlR X (rSlT X.K):=by
 intro pins s σ H x v vl vu lo hi sl Q I rx hs pl pu h;obtain ⟨a,xs,rfl,hx,hw,q⟩:=h;cases rx;obtain ⟨its,r,ht,hz⟩:=I.tuple hx;have hlen:its.toArray.size=xs.length:=by rw [jb9];exact r.length.symm
 refine ⟨"tuple",_,PyProof.Rows.slot_tuple_getitem.lookup,ht.typeIs,?_⟩;refine HT.getItem_tuple_cut ht hs pl pu (by rw [hlen];exact hw) ?_ (by rw [hlen];exact hz);rw [hlen];refine ⟨.ref s.heap.objs.size,_,I.laid (t':=s.toks) (o:=.tup (cutV xs lo hi)) (λ b ob q=>va4 _ q) (ja4 _) ?_,rfl,q _ (I.hok.fresh (ja4 _))⟩;exact ⟨jc9 (zpl xs lo hi) hz,_,(r.drop (HT.sIx xs.length 0 lo)).take (HT.sIx xs.length xs.length hi - HT.sIx xs.length 0 lo),IsTup.new _ _⟩
def rLtT (K:va8):R2:=λ x y H Q=>∃ a b ns ms,x=.ref a/\y=.ref b/\SqT K H a (ns.map V.int)/\SqT K H b (ms.map V.int)/\Q (.bl (HT.lexLt ns ms)) H
theorem qpr (hu:X.A.units < vm1):OpR X (vb6 .Lt) (rLtT X.K):=by
 intro pins s σ H x y v u Q I rx ry h;obtain ⟨a,b,ns,ms,rfl,rfl,ha,hb,q⟩:=h;cases rx;cases ry;obtain ⟨its,r1,p1,_⟩:=I.tuple ha;obtain ⟨its2,r2,p2,_⟩:=I.tuple hb;have i1:vg8 its.toArray.toList ns:=zmp r1;have i2:vg8 its2.toArray.toList ms:=zmp r2;exact HT.lt_tupInts p1 p2 i1 i2 hu ⟨.bl (HT.lexLt ns ms),H,I,rfl,q⟩
def qq7 (K:va8):R2:=λ x y H Q=>∃ a b xs ys,x=.ref a/\y=.ref b/\SqT K H a xs/\SqT K H b ys/\xs≠[]/\xs.length + ys.length<=va5 /\
 (ys=[]->Q (.ref a) H)/\(ys≠[]->∀ p,H p=none->Q (.ref p) (upd H p (.tup (xs++ys))))
theorem Vals.nil_iff {xs:List V}{us:List va2} (r:Vals xs us):us=[]↔xs=[]:=by
 cases r with
 | nil=>simp
 | cons _ _=>simp
theorem qme:OpR X (vg3 .Add) (qq7 X.K):=by
 intro pins s σ H x y v u Q I rx ry h;obtain ⟨a,b,xs,ys,rfl,rfl,ha,hb,hx,hz,q1,q2⟩:=h;cases rx;cases ry;obtain ⟨its,r1,p1,_⟩:=I.tuple ha;obtain ⟨its2,r2,p2,_⟩:=I.tuple hb;refine HT.cat_tup p1 p2 (λ z=>hx (r1.nil_iff.mp z)) (λ z=>⟨.ref a,H,I,rfl,q1 (r2.nil_iff.mp z)⟩) (λ z=>?_) (by rw [<- r1.length,<- r2.length];exact hz);refine ⟨.ref s.heap.objs.size,_,I.laid (t':=s.toks) (o:=.tup (xs++ys)) (λ b ob q=>va4 _ q) (ja4 _) ?_,rfl,q2 (λ w=>z (r2.nil_iff.mpr w)) _ (I.hok.fresh (ja4 _))⟩;exact ⟨by rw [jb0];exact hz,_,r1.append r2,IsTup.new _ _⟩
end
def ixN (n:Nat) (i:Int):Option Nat:=if 0<=i then (if i < n then some i.toNat else none) else if -(n:Int)<=i then some (i + n).toNat else none
def atI {α:Type} (xs:List α) (i:Int):Option α:=(ixN xs.length i).bind λ j=>xs[j]?
theorem qge {n:Nat}{i:Int}{j:Nat} (h:ixN n i=some j):seqIndex? i n=some j/\j < n/\-(n:Int)<=i/\i < n:=by
 unfold ixN at h;by_cases h0:0<=i
 ·rw [if_pos h0] at h;by_cases h1:i < n
  ·rw [if_pos h1] at h;have e:i.toNat=j:=Option.some.inj h;exact ⟨by rw [vm9 h0 h1,e],by omega,by omega,h1⟩
  ·rw [if_neg h1] at h;cases h
 ·rw [if_neg h0] at h;by_cases h1:-(n:Int)<=i
  ·rw [if_pos h1] at h;have e:(i + n).toNat=j:=Option.some.inj h;exact ⟨by rw [seqIndex_neg (by omega) h1,e],by omega,h1,by omega⟩
  ·rw [if_neg h1] at h;cases h
theorem zga {α:Type}{xs:List α}{i:Int}{v:α} (h:atI xs i=some v):∃ j,seqIndex? i xs.length=some j/\xs[j]?=some v/\j < xs.length/\-(xs.length:Int)<=i/\i < xs.length:=by
 unfold atI at h;cases e:ixN xs.length i with
 | none=>rw [e] at h;cases h
 | some j=>
  rw [e] at h;obtain ⟨h1,h2,h3,h4⟩:=qge e;exact ⟨j,h1,h,h2,h3,h4⟩
def zge (b:Expr):Prop:=∀ o i,subscripted b false o i=operate [o,i] (vn3 o i)
def IxR (X:Cx) (r:R2):Prop:=
 ∀ (value slice:Expr) (pins:List (Addr×Obj)) (s:va3) (σ:St) (H:Hp) (x y:V) (v u:va2) (Q:VK),Inv X pins σ H s->RelV x v->RelV y u->r x y H Q ->
  subscripted slice false v u=operate [v,u] (vn3 v u)->vb1 (vb3 X.prog X.w) X.A (subscriptTail value slice v u) (EP X pins σ Q) X.xe s
def MtR (X:Cx) (id:String) (r:V->List V->Hp->VK->Prop):Prop:=
 ∀ (pins:List (Addr×Obj)) (s:va3) (σ:St) (H:Hp) (x:V) (xs:List V) (v:va2) (us:List va2) (Q:VK),Inv X pins σ H s->RelV x v->Vals xs us->r x xs H Q ->
  vb1 (vb3 X.prog X.w) X.A (call (.builtin id) (v::us)) (EP X pins σ Q) X.xe s
section
variable {X:Cx}{a b:Expr}{ta tb:TE}{pos:Pos}
theorem IxR.or {r r':R2} (h:IxR X r) (h':IxR X r'):IxR X (λ x y H Q=>r x y H Q\/r' x y H Q):=by
 intro value slice pins s σ H x y v u Q I rx ry q hs;rcases q with q | q
 ·exact h value slice pins s σ H x y v u Q I rx ry q hs
 ·exact h' value slice pins s σ H x y v u Q I rx ry q hs
theorem qpj {r:R2} (hr:IxR X r) (ha:PE X a ta) (hb:PE X b tb) (hs:zge b):PE X (.Subscript a b pos) (tOp r ta tb):=by
 intro pins s σ H Q I h;exact Subscript_ (binT ha hb I h λ v u s2 x y H2 I2 rx ry q=>hr a b pins s2 σ H2 x y v u Q I2 rx ry q (hs _ _))
def rIxL (K:va8):R2:=λ x y H Q=>∃ p xs i v,x=.ref p/\y=.int i/\SqL K H p xs/\atI xs i=some v/\Q v H
def rIxT (K:va8):R2:=λ x y H Q=>∃ p xs i v,x=.ref p/\y=.int i/\SqT K H p xs/\atI xs i=some v/\Q v H
def rIxS:R2:=λ x y H Q=>∃ z i c,x=.str z/\y=.int i/\z.length<=va5/\atI z.cps.toList i=some c/\Q (.str ⟨#[c]⟩) H
theorem qms:IxR X (rIxL X.K):=by
 intro value slice pins s σ H x y v u Q I rx ry h hs;obtain ⟨p,xs,i,z,rfl,rfl,hq,he,q⟩:=h;cases rx;obtain ⟨t,rfl⟩:=ry;obtain ⟨its,r,pl,hz⟩:=I.list hq;obtain ⟨j,h1,h2,h3,h4,h5⟩:=zga he;obtain ⟨w,ew,rw'⟩:=r.get h2;have hl:=r.length;have hn:=zbv;have fin:EP X pins σ Q w s:=⟨z,H,I,rw',q⟩
 by_cases h0:0<=i
 ·have hj:i.toNat=j:=by
   rw [vm9 h0 h5] at h1;exact Option.some.inj h1
  exact item_listR pl.isList h0 (by omega) (by rw [hj];simpa using ew) fin hs
 ·have hj:(i + (its.toArray.size:Int)).toNat=j:=by
   rw [seqIndex_neg (by omega) h4] at h1;rw [jb9,<- hl];exact Option.some.inj h1
  exact subscriptTail_builtinR (x:=w) pl.isList.typeIs slot_list_getitem.lookup
   (wpAny_getItem_list_neg (Q:=λ r s'=>r=w/\EP X pins σ Q r s') pl.isList (by omega) (by rw [jb9] <;> omega) (by omega) (by rw [hj];simpa using ew) ⟨rfl,fin⟩) hs
theorem qqc:IxR X (rIxT X.K):=by
 intro value slice pins s σ H x y v u Q I rx ry h hs;obtain ⟨p,xs,i,z,rfl,rfl,hq,he,q⟩:=h;cases rx;obtain ⟨t,rfl⟩:=ry;obtain ⟨its,r,pl,hz⟩:=I.tuple hq;obtain ⟨j,h1,h2,h3,h4,h5⟩:=zga he;obtain ⟨w,ew,rw'⟩:=r.get h2;have hl:=r.length;have hn:=zbv;have fin:EP X pins σ Q w s:=⟨z,H,I,rw',q⟩
 exact subscriptTail_builtinR (x:=w) pl.typeIs slot_tuple_getitem.lookup
  (getItem_tuple (j:=j) (Q:=λ r s'=>r=w/\EP X pins σ Q r s') pl (by omega) (by omega) (by rw [jb9,<- hl];exact h1) (by simpa using ew) ⟨rfl,fin⟩) hs
theorem qqd:IxR X rIxS:=by
 intro value slice pins s σ H x y v u Q I rx ry h hs;obtain ⟨z,i,c,rfl,rfl,hz,he,q⟩:=h;obtain ⟨t,rfl⟩:=rx;obtain ⟨t',rfl⟩:=ry;obtain ⟨j,h1,h2,h3,h4,h5⟩:=zga he;have hl:z.cps.toList.length=z.length:=by simp [Str.length]
 rw [hl] at h1 h4 h5;have hn:=zbv;exact tail_any (typeIs_str s z t) slot_str_getitem.lookup (getItem_str (c:=c) (by
  have e1:decide (i < -(2 ^ 63:Int))=false:=decide_eq_false (by omega);have e2:decide (i ≥ 2 ^ 63)=false:=decide_eq_false (by omega);rw [e1,e2,jo2]) (by rw [h1];simpa using h2) ⟨.str ⟨#[c]⟩,H,I.tok _,⟨_,rfl⟩,q⟩) hs
def rIx (K:va8):R2:=λ x y H Q=>rIxL K x y H Q\/rIxT K x y H Q\/rIxS x y H Q
theorem qkd:IxR X (rIx X.K):=qms.or (qqc.or qqd)
theorem qdo (its:List va2) (n j:Nat) (u:va2):vi5 (·.setIfInBounds j u) { cls:=.type "list",data:=.seq its.toArray n }={ cls:=.type "list",data:=.seq (its.set j u).toArray n }:=by
 simp [vi5]
theorem Inv.lst {pins:List (Addr×Obj)}{σ:St}{H:Hp}{s:va3}{p:Addr}{xs:List V} (I:Inv X pins σ H s) (h:H p=some (.lst xs)):
  ∃ (its:List va2) (n:Nat),Vals xs its/\s.heap.get? p=some { cls:=.type "list",data:=.seq its.toArray n }/\xs.length<=va5:=by
 obtain ⟨z,its,n,r,e⟩:=I.hok p _ h;exact ⟨its,n,r,e,z⟩
theorem Inv.lstUpd {pins:List (Addr×Obj)}{σ:St}{H:Hp}{s:va3}{p:Addr}{xs ys:List V}{its its':List va2}{n n':Nat}{f:Obj->Obj} (I:Inv X pins σ H s) (h:H p=some (.lst xs))
  (ho:s.heap.get? p=some { cls:=.type "list",data:=.seq its.toArray n }) (hf:f { cls:=.type "list",data:=.seq its.toArray n }={ cls:=.type "list",data:=.seq its'.toArray n' }) (r:Vals ys its') (hz:ys.length<=va5) (t:Nat):
  Inv X pins σ (upd H p (.lst ys)) { s with heap:=s.heap.update p f,toks:=t }:=by
 have e:(s.heap.update p f).get? p=some { cls:=.type "list",data:=.seq its'.toArray n' }:=by
  rw [vc0 f ho (by rw [hf] <;> rfl),hf]
 refine I.write (x:=p) (e:=p) (by rw [h];trivial) (.inl rfl) (λ b u hb q=>(vb2 _ _ (vb9 hb)).trans q) ⟨_,e⟩ ?_;exact ⟨hz,its',n',r,e⟩
def qlo:V->V->V->Hp->(Hp->Prop)->Prop:=λ o i v H Q=>∃ p xs k j,o=.ref p/\i=.int k/\H p=some (.lst xs)/\ixN xs.length k=some j/\Q (upd H p (.lst (xs.set j v)))
theorem qb2:PSet X qlo:=by
 intro pins s σ H o i v ov iv u Q I ro ri rv h;obtain ⟨p,xs,k,j,rfl,rfl,hp,hj,q⟩:=h;cases ro;obtain ⟨t,rfl⟩:=ri;obtain ⟨its,n,r,ho,hz⟩:=I.lst hp;obtain ⟨h1,h2,h3,h4⟩:=qge hj;have hl:=r.length;have hn:=zbv;have I':Inv X pins σ (upd H p (.lst (xs.set j v))) { s with heap:=s.heap.update p (vi5 (·.setIfInBounds j u)) }:=
  I.lstUpd hp ho (qdo its n j u) (r.set rv j) (by rw [je0];exact hz) s.toks
 by_cases h0:0<=k
 ·have hk:k.toNat=j:=by
   rw [vm9 h0 h4] at h1;exact Option.some.inj h1
  exact PySem.W.ki_setAt ho h0 (by omega) (by rw [jb9,<- hl];exact h4) (by rw [hk];exact ⟨_,I',q⟩)
 ·have hk:(k + (its.toArray.size:Int)).toNat=j:=by
   rw [seqIndex_neg (by omega) h3] at h1;rw [jb9,<- hl];exact Option.some.inj h1
  exact PySem.W.ki_setBack ho (by omega) (by rw [jb9,<- hl];exact h3) (by omega) (by rw [hk];exact ⟨_,I',q⟩)
theorem zgw (lo hi:Option Int) (n:Nat):(vh2 lo hi none n).1=((HT.sIx n 0 lo:Nat):Int)/\(vh2 lo hi none n).2.1=((HT.sIx n n hi:Nat):Int)/\(vh2 lo hi none n).2.2=1:=by
 refine ⟨?_,?_,rfl⟩
 ·cases lo with
  | none=>simp [vh2,HT.sIx]
  | some i=>
   simp only [vh2,HT.sIx,jp8,show (1:Int) > 0 by decide,if_true];by_cases h:i < 0
   ·simp only [h,if_true] <;> omega
   ·simp only [h,if_false] <;> omega
 ·cases hi with
  | none=>simp [vh2,HT.sIx]
  | some i=>
   simp only [vh2,HT.sIx,jp8,show (1:Int) > 0 by decide,if_true];by_cases h:i < 0
   ·simp only [h,if_true] <;> omega
   ·simp only [h,if_false] <;> omega
theorem zfd (its:List va2) (lo hi:Option Int):slicePick its.toArray lo hi none=((its.drop (HT.sIx its.length 0 lo)).take (HT.sIx its.length its.length hi - HT.sIx its.length 0 lo)).toArray:=by
 obtain ⟨h1,h2,h3⟩:=zgw lo hi its.toArray.size;unfold slicePick;rw [h1,h2,h3];simp only [sliceRange_one,pick_run,jb9] <;> rfl
def rSlL (K:va8):V->Option Int->Option Int->Hp->VK->Prop:=λ x lo hi H Q=>∃ a xs,x=.ref a/\SqL K H a xs/\∀ p,H p=none->Q (.ref p) (upd H p (.lst (cutV xs lo hi)))
theorem qep:SlR X (rSlL X.K):=by
 intro pins s σ H x v vl vu lo hi sl Q I rx hs pl pu h;obtain ⟨a,xs,rfl,hx,q⟩:=h;cases rx;obtain ⟨its,r,ht,hz⟩:=I.list hx;have hlen:=r.length;refine ⟨"list",_,slot_list_getitem.lookup,ht.isList.typeIs,?_⟩;refine wpAny_getItem_list_slice ht.isList hs pl pu .none (by simp) ?_ (by rw [jb9] <;> omega);rw [zfd,<- hlen];refine ⟨.ref s.heap.objs.size,_,I.laid (t':=s.toks) (o:=.lst (cutV xs lo hi)) (λ b ob q=>va4 _ q) (ja4 _) ?_,rfl,q _ (I.hok.fresh (ja4 _))⟩;exact ⟨jc9 (zpl xs lo hi) hz,_,0,(r.drop (HT.sIx xs.length 0 lo)).take (HT.sIx xs.length xs.length hi - HT.sIx xs.length 0 lo),va7 _ rfl⟩
theorem qad:zkl X (.builtin "len") (λ xs H Q=>∃ p ys,xs=[.ref p]/\(SqL X.K H p ys\/SqT X.K H p ys)/\Q (.int ys.length) H):=by
 intro pins s σ H xs us Q I r h;obtain ⟨p,ys,rfl,hq,q⟩:=h;obtain ⟨u,rfl,rx⟩:=zpu r;cases rx;have hn:=zbv;rcases hq with hq | hq
 ·obtain ⟨its,r',pl,hz⟩:=I.list hq;have hlen:=r'.length;exact Calls.call_len_list pl.isList (by simp only [jb9] <;> omega) ⟨.int ys.length,H,I.tok _,⟨s.toks + 1,by rw [jb9,hlen]⟩,q⟩
 ·obtain ⟨its,r',pl,hz⟩:=I.tuple hq;have hlen:=r'.length;exact len_tuple pl (by simp only [jb9] <;> omega) ⟨.int ys.length,H,I.tok _,⟨s.toks + 1,by rw [jb9,hlen]⟩,q⟩
theorem qac:zkl X (.builtin "len") (λ xs H Q=>∃ z,xs=[.str z]/\z.length<=va5/\Q (.int z.length) H):=by
 intro pins s σ H xs us Q I r h;obtain ⟨z,rfl,hz,q⟩:=h;obtain ⟨u,rfl,t,rfl⟩:=zpu r;have hn:=zbv;exact len_str (by omega) ⟨.int z.length,H,I.tok _,⟨_,rfl⟩,q⟩
theorem zkl.or {f:va2}{r r':List V->Hp->VK->Prop} (h:zkl X f r) (h':zkl X f r'):zkl X f (λ xs H Q=>r xs H Q\/r' xs H Q):=by
 intro pins s σ H xs us Q I rs q;rcases q with q | q
 ·exact h pins s σ H xs us Q I rs q
 ·exact h' pins s σ H xs us Q I rs q
theorem qab:zkl X (.type "list") (λ xs H Q=>∃ p ys,xs=[.ref p]/\(SqL X.K H p ys\/SqT X.K H p ys)/\∀ l,H l=none->Q (.ref l) (upd H l (.lst ys))):=by
 intro pins s σ H xs us Q I r h;obtain ⟨p,ys,rfl,hq,q⟩:=h;obtain ⟨u,rfl,rx⟩:=zpu r;cases rx;have fin:∀ (its:List va2),Vals ys its->ys.length<=va5->∀ (h':Heap) (c':Nat),(∀ b o',s.heap.get? b=some o'->h'.get? b=some o') ->
   h'.get? s.heap.objs.size=some { cls:=.type "list",dict:=none,data:=.seq its.toArray c',slots:=#[] }->EP X pins σ Q (.ref s.heap.objs.size) { s with heap:=h' }:=λ its r' hz h' c' kp e=>
  ⟨.ref s.heap.objs.size,_,I.laid (t':=s.toks) kp (ja4 _) (show zxp X.prog X.w _ h' _ (.lst ys) from ⟨hz,its,c',r',e⟩),rfl,q _ (I.hok.fresh (ja4 _))⟩
 rcases hq with hq | hq
 ·obtain ⟨its,r',pl,hz⟩:=I.list hq;have hlen:=r'.length;obtain ⟨o,ho,hc,n,hd⟩:=pl.isList;exact call_list_seq p (.inl rfl) ho hc hd (λ h' c' kp e=>fin its r' hz h' c' kp e) (by simp only [jb9] <;> omega)
 ·obtain ⟨its,r',pl,hz⟩:=I.tuple hq;have hlen:=r'.length;obtain ⟨o,ho,hc,n,hd⟩:=pl;exact call_list_seq p (.inr rfl) ho hc hd (λ h' c' kp e=>fin its r' hz h' c' kp e) (by simp only [jb9] <;> omega)
theorem zfz:zkl X (.type "tuple") (λ xs H Q=>∃ p ys,xs=[.ref p]/\((SqL X.K H p ys/\∀ l,H l=none->Q (.ref l) (upd H l (.tup ys)))\/(SqT X.K H p ys/\Q (.ref p) H))):=by
 intro pins s σ H xs us Q I r h;obtain ⟨p,ys,rfl,h⟩:=h;obtain ⟨u,rfl,rx⟩:=zpu r;cases rx;rcases h with ⟨hq,q⟩ | ⟨hq,q⟩
 ·obtain ⟨its,r',pl,hz⟩:=I.list hq;have hlen:=r'.length;refine call_tuple_list pl.isList (λ h' kp=>?_) (by simp only [jb9] <;> omega);have I1:Inv X pins σ H { s with heap:=h' }:=I.kept (t':=s.toks) kp;have I2:Inv X pins σ (upd H h'.objs.size (.tup ys)) { s with heap:=h'.push { cls:=.type "tuple",data:=.seq its.toArray } }:=
   I1.laid (t':=s.toks) (λ b o e=>va4 _ e) (ja4 _) (show zxp X.prog X.w _ _ _ (.tup ys) from ⟨hz,its,r',IsTup.new _ _⟩)
  exact ⟨.ref h'.objs.size,_,I2,rfl,q _ (I1.hok.fresh (ja4 _))⟩
 ·obtain ⟨its,r',pl,hz⟩:=I.tuple hq;exact call_tuple_same pl ⟨.ref p,H,I,rfl,q⟩
def tyV (K:va8) (T:String) (x:V) (H:Hp):Prop:=match x with
 | .str _=>T = "str"
 | .int _=>T = "int"
 | .ref p=>(T = "list" /\ ∃ xs,SqL K H p xs)\/(T = "tuple" /\ ∃ o,K.lookup p=some o/\o.cls=.type "tuple" /\ o.dict=none) \/
   (T = "dict" /\ ((∃ kvs,H p=some (.dK kvs))\/∃ kvs,H p=some (.dT kvs)))\/(T = "set" /\ ∃ S n,H p=some (.set S n))
 | _=>False
theorem qns {pins:List (Addr×Obj)}{σ:St}{H:Hp}{s:va3}{T:String}{x:V}{v:va2} (I:Inv X pins σ H s) (r:RelV x v) (ty:tyV X.K T x H):
  s.TypeIs v T/\∀ a,v=.ref a->∃ ob,s.heap.get? a=some ob/\ob.dict=none:=by
 cases x with
 | str z=>
  obtain ⟨t,rfl⟩:=r;cases (show T = "str" from ty);exact ⟨typeIs_str s z t,λ _ e=>nomatch e⟩
 | int i=>
  obtain ⟨t,rfl⟩:=r;cases (show T = "int" from ty);exact ⟨typeIs_int s i t,λ _ e=>nomatch e⟩
 | ref p=>
  cases r;rcases ty with ⟨rfl,xs,hq⟩ | ⟨rfl,o,hk,hc,hd⟩ | ⟨rfl,hk⟩ | ⟨rfl,S,n,hk⟩
  ·obtain ⟨its,_,pl,_⟩:=I.list hq;refine ⟨pl.isList.typeIs,λ a e=>?_⟩;cases e;obtain ⟨o,n,e,c,hd,_⟩:=pl;exact ⟨o,e,hd⟩
  ·refine ⟨⟨o,I.kIn p o hk,hc⟩,λ a e=>?_⟩;cases e;exact ⟨o,I.kIn _ o hk,hd⟩
  ·have z:∃ o,s.heap.get? p=some o/\o.ExactDict:=by
    rcases hk with ⟨kvs,hk⟩ | ⟨kvs,hk⟩
    ·obtain ⟨_,_,_,_,o,_,_,e,ex,_⟩:=I.hok p _ hk;exact ⟨o,e,ex⟩
    ·obtain ⟨_,_,_,_,o,_,_,e,ex,_⟩:=I.hok p _ hk;exact ⟨o,e,ex⟩
   obtain ⟨o,e,ex⟩:=z;refine ⟨⟨o,e,ex.1⟩,λ a e2=>?_⟩;cases e2;exact ⟨o,e,ex.2.1⟩
  ·obtain ⟨o,_,_,_,e,ex,_⟩:=I.hok p _ hk;refine ⟨⟨o,e,ex.1⟩,λ a e2=>?_⟩;cases e2;exact ⟨o,e,ex.2.1⟩
 | _=>exact vf7 ty
def tBM (K:va8) (T:String) (r:V->List V->Hp->VK->Prop) (to:TE) (t:TA):TE:=λ σ H Q=>to σ H λ x H1=>tyV K T x H1/\t σ H1 λ xs H2=>r x xs H2 Q
variable {o e:Expr}{es:List Expr}{to:TE}{t:TA}{name:Str}{apos cpos:Pos}{T id:String}{r:V->List V->Hp->VK->Prop}
theorem qpk (pa:PlainAttrs T) (slot:Slot T name id) (hty:typeOf (.builtin id)=pure (.type "method_descriptor")) (hm:MtR X id r) (ho:PE X o to) (ha:PA X (e::es) t)
  (hbase:attributeBase o name X.env (eval o X.env)=eval o X.env:=by rfl)
  (hfew:((vg4 cpos (va9 (e::es) X.env)).all (λ x=>!x.1) && (backToKw cpos (vn1 [] X.env)).all (λ x=>x.1.isSome)
   && decide ((e::es).length + ([]:List Keyword).length + (if ([]:List Keyword).isEmpty then 0 else 1) < 30))=true:=by rfl)
  (hline:(apos.endLine == cpos.line)=true:=by rfl) (hs:va9 (e::es) X.env=(false,eval e X.env)::va9 es X.env:=by rfl) (hplain:(vg4 cpos (va9 es X.env)).any (·.1)=false:=by rfl):
  PE X (.Call (.Attribute o name apos) (e::es) [] cpos) (tBM X.K T r to t):=by
 intro pins s σ H Q I h;refine wpAny_Call_method_late hbase hfew hline rfl (thn (ho pins s σ H _ I h) λ v s1 ⟨x,H1,I1,r1,ty,q1⟩=>?_);obtain ⟨h1,h2⟩:=qns I1 r1 ty;refine ⟨T,id,pa,slot,hty,h1,h2,?_⟩;have hA:=ha cpos pins s1 σ H1 _ I1 q1;rw [hs] at hA ⊢;refine Calls.callWith_builtin (by show (false || (vg4 cpos (va9 es X.env)).any (·.1))=false;rw [hplain] <;> rfl) (Calls.evalArgs_plain ?_);exact thn hA λ us s2 ⟨vs,H2,I2,r2,q2⟩=>hm pins s2 σ H2 x vs v us Q I2 r1 r2 q2
end
def MtM (X:Cx) (id:String) (r:V->List V->Hp->VK->Prop):Prop:=
 ∀ (pins:List (Addr×Obj)) (s:va3) (σ:St) (H:Hp) (x:V) (xs:List V) (v:va2) (us:List va2) (Q:VK),Inv X pins σ H s->RelV x v->Vals xs us->r x xs H Q ->
  vb1 (vb3 X.prog X.w) X.A (call (.builtin id) (v::us)) (EP X pins σ Q) X.xe s
theorem Vals.one:∀ {x:V}{us:List va2},Vals [x] us->∃ u,us=[u]/\RelV x u
 | _,_,.cons r .nil=>⟨_,rfl,r⟩
theorem Vals.rep {xs:List V}{us:List va2} (h:Vals xs us):∀ k:Nat,Vals (ja6 k xs).flatten (ja6 k us).flatten
 | 0=>.nil
 | k + 1=>by
  rw [je5,je5,jh2,jh2];exact Vals.append h (Vals.rep h k)
theorem zhw (its:List va2):∀ (k:Nat) (acc:List va2),
  jq6 (λ x1 x2=>x1++x2) acc.toArray (ja6 k its.toArray)=(acc++(ja6 k its).flatten).toArray
 | 0,acc=>by simp
 | k + 1,acc=>by
  have e:acc.toArray++its.toArray=(acc++its).toArray:=by simp
  have e2:(acc++its)++(ja6 k its).flatten=acc++(ja6 (k + 1) its).flatten:=by
   rw [je5,jh2,jj9]
  rw [<- e2,<- zhw its k (acc++its),<- e,je5,jq1]
section
variable {X:Cx}{pins:List (Addr×Obj)}{σ:St}{H:Hp}{s:va3}{l b:Addr}{xs ys zs:List V}
theorem Inv.lset {its its':List va2}{n:Nat}{f:Array va2->Array va2}{t':Nat} (I:Inv X pins σ H s) (hH:H l=some (.lst xs))
  (e:s.heap.get? l=some { cls:=.type "list",data:=.seq its.toArray n }) (hf:f its.toArray=its'.toArray) (hv:Vals ys its') (hz:ys.length<=va5):
  Inv X pins σ (upd H l (.lst ys)) { s with heap:=s.heap.update l (vi5 f),toks:=t' }:=by
 have q:=PySem.IsL.update e f;rw [hf] at q;refine I.write (x:=l) (e:=l) (by rw [hH];exact trivial) (.inl rfl) (λ b' u hb hu=>(vb2 s.heap (vi5 f) (vb9 hb)).trans hu) ⟨_,q⟩ ?_;exact ⟨hz,its',_,hv,q⟩
theorem Inv.lnew {its:List va2}{t':Nat} (I:Inv X pins σ H s) (hv:Vals ys its) (hz:ys.length<=va5):
  Inv X pins σ (upd H s.heap.objs.size (.lst ys)) { s with heap:=s.heap.push { cls:=.type "list",data:=.seq its.toArray },toks:=t' }:=
 I.laid (λ _ _ q=>va4 _ q) (ja4 _) ⟨hz,its,0,hv,va7 _ rfl⟩
theorem Inv.fresh (I:Inv X pins σ H s):H s.heap.objs.size=none:=I.hok.fresh (ja4 _)
theorem Inv.lstM (I:Inv X pins σ H s) (hH:H l=some (.lst xs)):xs.length<=va5/\∃ (its:List va2) (n:Nat),Vals xs its/\xs.length=its.length/\s.heap.get? l=some { cls:=.type "list",data:=.seq its.toArray n }:=by
 obtain ⟨z,its,n,r,e⟩:=I.hok l _ hH;exact ⟨z,its,n,r,r.length,e⟩
theorem qcg {n:Nat} (h:n<=va5):vf9 n=false:=by
 unfold vf9;exact decide_eq_false (by omega)
end
section
variable {X:Cx}
def qe0:V->List V->Hp->VK->Prop:=λ x vs H Q=>∃ l xs y,x=.ref l/\vs=[y]/\H l=some (.lst xs)/\xs.length < va5/\Q .non (upd H l (.lst (xs++[y])))
theorem zhl:MtM X "list.append" qe0:=by
 intro pins s σ H x vs v us Q I rx rv h;obtain ⟨l,xs,y,rfl,rfl,hH,hz,q⟩:=h;cases rx;obtain ⟨u,rfl,ru⟩:=rv.one;obtain ⟨z,its,n,r,hl,e⟩:=I.lstM hH;refine call_meets F.slot_list_append ⟨_,e,rfl⟩ F.entry_list_append (F.args_list_append_2 _ _) (PySem.list_append l its.toArray n u (by rw [jb9];omega)) ⟨e,?_⟩;refine ⟨.non,_,I.lset (its':=its++[u]) hH e (by simp) (r.append (.cons ru .nil)) ?_,rfl,q⟩;rw [jb0,jd6];omega
def qey:V->List V->Hp->VK->Prop:=λ x vs H Q=>∃ l b xs zs,x=.ref l/\vs=[.ref b]/\H l=some (.lst xs)/\H b=some (.lst zs)/\xs.length + zs.length<=va5/\Q .non (upd H l (.lst (xs++zs)))
theorem qft:MtM X "list.extend" qey:=by
 intro pins s σ H x vs v us Q I rx rv h;obtain ⟨l,b,xs,zs,rfl,rfl,hH,hB,hz,q⟩:=h;cases rx;obtain ⟨u,rfl,ru⟩:=rv.one;cases ru;obtain ⟨z,its,n,r,hl,e⟩:=I.lstM hH;obtain ⟨z2,its2,n2,r2,hl2,e2⟩:=I.lstM hB;have hsz:its.toArray.size + its2.toArray.size<=va5:=by rw [jb9,jb9];omega
 have hlong:¬ (!its.toArray.isEmpty && vf9 (its.toArray.size + its2.toArray.size))=true:=by
  rw [qcg hsz,jk2];exact jb7
 refine call_meets F.slot_list_extend ⟨_,e,rfl⟩ F.entry_list_extend (F.args_list_extend_2 _ _)
  (AutoSeq1.list_extend_list_list_0 l its.toArray n b its2.toArray n2 hlong (by rw [jb9];omega) (by omega)) ⟨e,e2,?_⟩
 refine ⟨.non,_,I.lset (its':=its++its2) hH e (by simp) (r.append r2) ?_,rfl,q⟩;rw [jb0];omega
def rCat:R2:=λ x y H Q=>∃ l b xs zs,x=.ref l/\y=.ref b/\H l=some (.lst xs)/\H b=some (.lst zs)/\xs.length + zs.length<=va5/\∀ p,H p=none->Q (.ref p) (upd H p (.lst (xs++zs)))
theorem qpz:OpR X (vg3 .Add) rCat:=by
 intro pins s σ H x y v u Q I rx ry h;obtain ⟨l,b,xs,zs,rfl,rfl,hH,hB,hz,q⟩:=h;cases rx;cases ry;obtain ⟨z,its,n,r,hl,e⟩:=I.lstM hH;obtain ⟨z2,its2,n2,r2,hl2,e2⟩:=I.lstM hB;refine PySem.P.add_list e e2 ?_ (by rw [jb9,jb9];omega);have ea:its.toArray++its2.toArray=(its++its2).toArray:=by simp
 rw [ea];exact ⟨.ref _,_,I.lnew (t':=s.toks) (r.append r2) (by rw [jb0];omega),rfl,q _ I.fresh⟩
def rRep:R2:=λ x y H Q=>∃ l k xs,x=.ref l/\y=.int k/\H l=some (.lst xs)/\-(2 ^ 63)<=k/\k < 2 ^ 63/\xs.length * k.toNat<=va5 /\
 ∀ p,H p=none->Q (.ref p) (upd H p (.lst (ja6 k.toNat xs).flatten))
theorem qmo {α:Type} (xs:List α) (k:Nat):(ja6 k xs).flatten.length=k * xs.length:=by
 induction k with
 | zero=>simp
 | succ k ih=>rw [je5,jh2,jb0,ih,jr0,Nat.add_comm]
theorem qpn:OpR X (vg3 .Mult) rRep:=by
 intro pins s σ H x y v u Q I rx ry h;obtain ⟨l,k,xs,rfl,rfl,hH,h1,h2,hz,q⟩:=h;cases rx;obtain ⟨t,rfl⟩:=ry;obtain ⟨z,its,n,r,hl,e⟩:=I.lstM hH;have hlen:its.toArray.size * k.toNat<=va5:=by rw [jb9,<- hl];exact hz
 have hcap:¬ its.toArray.size * k.toNat > (2 ^ 63 - 1) / 8:=by
  have:(va5:Nat)<=(2 ^ 63 - 1) / 8:=by decide
  omega
 have hfit:¬ (!Builtin.List.listFitsIndex k)=true:=by
  rw [fitsIndex_both h1 h2];exact jb7
 have hlong:¬ vf9 (its.toArray.size * k.toNat)=true:=by
  rw [qcg hlen];exact jb7
 have hnew:jq6 (λ x1 x2=>x1++x2) #[] (ja6 (if its.toArray.isEmpty=true then 0 else k.toNat) its.toArray)=(ja6 k.toNat its).flatten.toArray:=by
  have f0:∀ m:Nat,jq6 (λ x1 x2=>x1++x2) #[] (ja6 m its.toArray)=(ja6 m its).flatten.toArray:=λ m=>by
   have:=zhw its m []
   rw [je7] at this;exact this
  rw [f0];cases its with
  | nil=>simp
  | cons a r'=>rw [if_neg (by simp)]
 refine wpAny_binaryOp_repeat_ref (T := "list") (U := "int") (by decide) ⟨_,e,rfl⟩ (λ s'=>typeIs_int s' k t) noFill_list_mul F.fills_int_mul F.slot_int_rmul repeat_list F.slot_int_index.lookup
  (call_meets F.slot_int_rmul (typeIs_int s k t) F.entry_int_rmul (F.args_int_rmul_2 _ _) (int___rmul___int_list k t l its.toArray n)
   ⟨e,rfl,⟨_,e,rfl⟩,call_meets F.slot_list_mul ⟨_,e,rfl⟩ F.entry_list_mul (F.args_list_mul_2 _ _) (AutoListH.list___mul___list_int_3 l its.toArray n k t hfit hcap hlong) ⟨e,?_⟩⟩)
 rw [hnew];exact ⟨.ref _,_,I.lnew (t':=s.toks) (r.rep k.toNat) (by rw [qmo,jn0];exact hz),rfl,q _ I.fresh⟩
end
section
variable {prog:vb0}{w:vb7}{A:vc3}{E:va2->va3->Prop}{s:va3}
end
section
variable {X:Cx}
end
end L2
namespace Att
open PySem PySem.W PySem.Calls PyProof.Rows
theorem zpb {P:Params}{h:Heap}:∀ (ns:List Int) (vs:List va2),WellAll P h vs (ns.map WData.int)->vg8 vs ns:=by
 intro ns;induction ns with
 | nil=>
  intro vs w;rw [ji1] at w;cases w;exact .nil
 | cons n ns ih=>
  intro vs w;rw [jc2] at w;cases w with
  | cons a b=>
   cases a;exact .cons _ _ (ih _ b)
theorem qeq {l:OpenLaw}{n:Nat} (hn:l.most=some n) {P:Params}{h:Heap}{args:List WData}{vals:List va2}
  (hpre:l.row.toRowW.claim.pre args=true) (hwl:WellAll P h vals args):
  ∃ a vs ns,vals=[Value.ref a]/\args=[WData.list (ns.map WData.int)]/\h.get? a=some { cls:=.type "list",data:=.seq vs.toArray }/\vg8 vs ns/\ns.length<=n:=by
 have hsh:WShape.hasAll [] args [.list .int]=true:=(pre_splitW hpre).1;have hc:l.pre.holds [] { args:=args }=true:=(pre_splitW hpre).2;obtain ⟨d,r,rfl,h1,h2⟩:=hasAllW_cons hsh;obtain rfl:=hasAllW_nil h2;obtain ⟨xs,rfl,h3⟩:=hasW_list h1;obtain ⟨ns,rfl⟩:=items_int h3;have hlen:ns.length<=n:=by
  unfold OpenLaw.pre at hc;have h4:(WTm.not (.lt (.lit (.int (n:Int))) (.len (.arg 0)))).holds [] { args:=[.list (ns.map .int)] }=true:=by
   have h4:=(holds_andW hc).1;rw [hn] at h4;exact h4
  have h5:=condW_of h4 (w_not (w_lt w_lit (w_len_list (w_arg rfl))));rw [ja3] at h5;refine Nat.le_of_not_lt λ q=>?_;have q':(n:Int) < ((ns.length:Nat):Int):=by omega
  first
   | (rw [decide_eq_true q'] at h5;exact absurd h5 (by decide))
   | (simp at h5;omega)
 cases hwl with
 | cons w1 w2=>
  cases w2;cases w1 with
  | list ho hall=>exact ⟨_,_,ns,rfl,rfl,ho,zpb ns _ hall,hlen⟩
theorem qe4 (l:OpenLaw) (args:List WData):l.row.toRowW.claim.post args (.bool true) args=true:=
 postW_of (r:=l.row.toRowW) (X:=(true == true))
  (show WShape.has [] (.bool true) .bool=true by first | rfl | decide | simp [WShape.has,WShape.arms,WShape.armsAll])
  (show (WTm.eq .res (.lit (.bool true))).value [] { args:=args,res:=some (.bool true),after:=args }=some (.bool (true == true)) from w_eq_bool (w_res rfl) w_lit) rfl
theorem attach_call {l:OpenLaw}{n:Nat}{q:vb0}{loose:List Str}{XP:(Str->Option va2)->Heap->Prop}{YP:vb7->Heap->Prop}{d:DefRec}
  (hn:l.most=some n) (hdf:d.params.defaults=[])
  (call:∀ (w:vb7) (s₀ s₁:va3) (mg mb:Str->Option va2) (fa:Addr) (o:Obj) (pm cd doc:va2) (a:Addr) (vs:List va2) (ns:List Int),
   Ground q loose [] XP w s₀ mg mb s₁.heap->YP w s₁.heap ->
   s₁.heap.get? fa=some o->o.data=.func (docDef d.name d.params d.body d.scope pm cd doc)->s₁.heap.CodeRec cd d.name->mg d.name=some (.ref fa) ->
   s₁.heap.get? a=some { cls:=.type "list",data:=.seq vs.toArray }->vg8 vs ns->ns.length<=n->s₁.gens=#[] ->
   vj9 (vb3 l.prog w) vn5 (.call (.ref fa) ⟨[.ref a],[]⟩) (λ r s'=>r=.ok (.ret (.bool true))/\OldK s₁.heap s'.heap/\s'.os=s₁.os/\vi9 s'.gens) s₁):
  WalkO q loose XP YP l.row.toRowW d [] (λ f vs=>PySem.call f vs):=by
 intro w s₀ s₁ mg mb G Y fa o pm cd doc dV kV ho hd hcd hD hmg hg args vals as hpre hlay hrd hwl hlo;obtain rfl:dV=.none:=Dflts.none hD hdf;obtain rfl:kV=.none:=Dflts.noKw hD;obtain ⟨a,vs,ns,rfl,rfl,hobj,hints,hlen⟩:=qeq hn hpre hwl;refine enter_call (codeAny_mono (call w s₀ s₁ mg mb fa o pm cd doc a vs ns G Y ho (fd_plain hd) hcd hmg hobj hints hlen hg) λ r s' hq=>?_);obtain ⟨rfl,h2,h3,h4⟩:=hq;exact ⟨.inl ⟨.bool true,.bool true,[],rfl,λ _=>rfl,.bool true,qe4 l _,λ _=>⟨List.Pairwise.nil,λ _ hm=>(nomatch hm)⟩⟩,h2,h3,h4⟩
section
variable {prog:vb0}{w:vb7}{A:vc3}{E:va2->va3->Prop}{s:va3}{K:Frag}
end
end Att
namespace L2
open PySem PySem.Spec PyProof.Rows
theorem zgj:∀ {vs:List va2}{ns:List Int},vg8 vs ns->Vals (ns.map V.int) vs
 | _,_,.nil=>.nil
 | _,_,.cons n t h=>.cons ⟨t,rfl⟩ (zgj h)
def Only (H:Hp):Prop:=∀ b,H b=none\/∃ o xs,H b=some (.frz o (.lst xs))
theorem qiy {P:vb0}{w:vb7}{K:va8}{mg mb:Str->Option va2}{CX:CXT}{k:Nat}{fa a:Addr}{fd:vc9}{x:Str}{sp:Sp}{s₁:va3}{vs:List va2}{ns:List Int}
  (KX:K.In s₁.heap) (hns:s₁.heap.Ns vc6 mg) (hb:s₁.heap.Ns builtinsNs mb) (hbb:∀ x:Str,x ≠ "__name__" -> mb x=vf6 x) (hlim:s₁.heap.NoLimit) (hg:s₁.gens=#[])
  (ha:s₁.heap.get? a=some { cls:=.type "list",data:=.seq vs.toArray }) (hi:vg8 vs ns) (hl:ns.length<=va5) (hr:Room k vn5)
  (F:∀ base:Heap,K.In base->base.Ns vc6 mg->FnOk P w K mg base CX k fa fd [x] sp) (hbind:∀ (s:va3) (u:va2),BindsTo s fd ⟨[u],[]⟩ [(x,u)])
  (hsp:∀ H:Hp,Only H->SqL K H a (ns.map V.int)->sp [.ref a] H (λ v _=>v=.bl true) λ _ _ _=>False)
  (hCX:∀ H e s',CX [] H s₁ (λ _ _ _=>False) e s'->False):
  vj9 (vb3 P w) vn5 (.call (.ref fa) ⟨[.ref a],[]⟩) (λ r s'=>r=.ok (.ret (.bool true))/\OldK s₁.heap s'.heap/\s'.os=s₁.os/\vi9 s'.gens) s₁:=by
 have rv:=zgj hi;have lenV:=hi.length;have core:∀ H:Hp,Only H->SqL K H a (ns.map V.int)->HOk P w H s₁.heap->(∀ b,H b≠none->b=a)->(H a≠none->K.lookup a=none) ->
   vj9 (vb3 P w) vn5 (.call (.ref fa) ⟨[.ref a],[]⟩) (λ r s'=>r=.ok (.ret (.bool true))/\OldK s₁.heap s'.heap/\s'.os=s₁.os/\vi9 s'.gens) s₁:=by
  intro H hO hS hok hA hK;have base_of:∀ {b:Addr}{o:Obj},s₁.heap.get? b=some o->H b=none->(hidT s₁.heap H).get? b=some o:=λ e n=>qi3 e n;have noA:∀ {b:Addr}{o:Obj}{es:Array vd5}{ep:Nat},s₁.heap.get? b=some o->o.data=.dict es ep->H b=none:=λ {b o es ep} e d=>by
   cases q:H b with
   | none=>rfl
   | some u=>
    have e':b=a:=hA b (by rw [q];simp);subst e';rw [ha] at e;cases e;have d':Data.seq vs.toArray _=Data.dict es ep:=d;cases d'
  have nsK:∀ {b:Addr}{m:Str->Option va2},s₁.heap.Ns b m->(hidT s₁.heap H).Ns b m:=λ {b m} ⟨o,es,ep,e,d,r⟩=>⟨o,es,ep,base_of e (noA e d),d,r⟩
  have hKb:K.In (hidT s₁.heap H):=λ b o e=>base_of (KX b o e) (by
   cases q:H b with
   | none=>rfl
   | some u=>
    have e':b=a:=hA b (by rw [q];simp);subst e';rw [hK (by rw [q];simp)] at e;cases e)
  have hM:Mod K mg (hidT s₁.heap H):=⟨hKb,nsK hns,⟨mb,nsK hb,hbb⟩,let ⟨mc,h1,h2⟩:=hlim;⟨mc,nsK h1,h2⟩⟩
  have e0:Env0 P w K mg (hidT s₁.heap H) vn5 [] s₁ H:=⟨rfl,hM,λ b o e=>qmg e,Nat.le_of_eq (qgl _ _),trivial,λ b hb=>absurd (show b∈([]:List Addr) from hb) (by simp),hok,.of_eq hg⟩
  refine codeAny_mono ((F _ hKb (nsK hns)).run vn5 [] s₁ H ⟨[.ref a],[]⟩ [.ref a] [.ref a] _ _ hr e0 (hbind s₁ (.ref a)) (.cons rfl .nil) (hsp H hO hS)) λ r s' h=>?_;cases r with
  | error e=>exact (hCX H e s' h).elim
  | ok fl=>
   cases fl with
   | next=>exact vf7 h
   | brk=>exact vf7 h
   | cont=>exact vf7 h
   | ret u=>
    obtain ⟨v,H',os,bare,un,hok',r',q⟩:=h;have q':v=.bl true:=q;subst q';obtain rfl:u=Value.bool true:=r';refine ⟨rfl,OldK.of_keep λ b o e=>?_,os,bare⟩;cases q:H b with
    | none=>exact un.keep b o e q (by intro z;exact absurd (show b∈([]:List Addr) from z) (by simp)) (by simp)
    | some u=>
     rcases hO b with z | ⟨ob,xs,z⟩
     ·rw [q] at z;cases z
     ·have z2:=un.frzs b ob _ z;obtain ⟨e1,_⟩:=hok b _ z;obtain ⟨e2,_⟩:=hok' b _ z2;rw [e] at e1;cases e1;exact e2
 cases hk:K.lookup a with
 | some o=>
  have e:=KX a o hk;rw [ha] at e;cases e;refine core (λ _=>none) (λ _=>.inl rfl) (.inr ⟨_,vs.toArray,_,hk,rfl,rfl,rfl,by rw [jb9,lenV];exact hl,by simpa using rv⟩) (λ b u z=>by have z':(none:Option HO)=some u:=z;cases z') (λ b z=>absurd rfl z) λ z=>absurd rfl z
 | none=>
  refine core (λ b=>if b=a then some (.frz { cls:=.type "list",data:=.seq vs.toArray } (.lst (ns.map V.int))) else none) (λ b=>?_) (.inl (.inr ⟨{ cls:=.type "list",data:=.seq vs.toArray },if_pos rfl⟩)) (λ b u z=>?_) (λ b z=>?_) λ _=>hk
  ·by_cases hb:b=a
   ·exact .inr ⟨_,_,if_pos hb⟩
   ·exact .inl (if_neg hb)
  ·by_cases hb:b=a
   ·have z':=(if_pos hb).symm.trans z;cases z';subst hb;exact ⟨ha,by rw [ja3];exact hl,vs,_,rv,ha⟩
   ·have z':=(if_neg hb).symm.trans z;cases z'
  ·by_cases hb:b=a
   ·exact hb
   ·exact absurd (if_neg hb) z
structure Fun (K:va8) (x qual:Str) (st:Stmt) (f:Addr) (fd:vc9):Prop where
 ex:∃ (oc:va2) (od:Option Addr) (kV doc pm:va2) (an:Option Addr) (cdv ct:va2) (osl:Array (Option va2)),
  fd=vh5 x qual (zpk st) (zqm st) (zqb st) .none kV doc pm an cdv ct/\K.lookup f=some ⟨oc,od,.func fd,osl⟩/\vo6 K cdv qual=true
 kp:ve8 K (.ref f)=true
section
variable {P:vb0}{w:vb7}{K:va8}{mg:Str->Option va2}{base:Heap}
theorem Fun.binds {x qual:Str}{st:Stmt}{f:Addr}{fd:vc9}{ps:List Str} (F:Fun K x qual st f fd)
  (h:∀ (kV doc pm:va2) (an:Option Addr) (cdv ct:va2) (us:List va2),us.length=ps.length->bindArgs (vh5 x qual (zpk st) (zqm st) (zqb st) .none kV doc pm an cdv ct) ⟨us,[]⟩=pure (ps.zip us)):qan K fd ps []:=by
 obtain ⟨oc,od,kV,doc,pm,an,cdv,ct,osl,rfl,lk,hcd⟩:=F.ex;exact .all (h kV doc pm an cdv ct)
theorem qqm {x qual:Str}{st:Stmt}{f:Addr}{oc:va2}{od an:Option Addr}{osl:Array (Option va2)}{kV doc pm cdv ct:va2} (l:K.lookup f=some ⟨oc,od,.func (vh5 x qual (zpk st) (zqm st) (zqb st) .none kV doc pm an cdv ct),osl⟩)
  (c:vo6 K cdv qual=true) (k:ve8 K (.ref f)=true):Fun K x qual st f (vh5 x qual (zpk st) (zqm st) (zqb st) .none kV doc pm an cdv ct):=⟨⟨oc,od,kV,doc,pm,an,cdv,ct,osl,rfl,l,c⟩,k⟩
end
section
variable {X:Cx}
end
end L2
namespace QQ
open PySem PySem.Spec PyProof.Rows L2
abbrev St:=L2.St
def KL (K:Frag) (a:Addr) (xs:List V):Prop:=∃ (o:Obj) (its:Array va2) (n:Nat),K.lookup a=some o/\o.cls=.type "list" /\ o.dict=none/\o.data=.seq its n/\its.size<=va5/\Vals xs its.toList
theorem qd2 {K:Frag}{H:Hp}{a:Addr}{xs:List V} (h:SqL K H a xs):tyV K "list" (.ref a) H:=.inl ⟨rfl,xs,h⟩
def ItS (z:Str):It:=⟨λ i _=>i < z.cps.size,λ i H v H'=>H'=H/\∃ c,z.cps[i]?=some c/\v=.str ⟨#[c]⟩,λ i _=>z.cps.size<=i⟩
def qc7 (z:Str):Bool:=z.cps.all (·< 128)
def iSeq (K:Frag) (tl:TE):TI:=λ σ H R=>tl σ H λ x H1=>(∃ a,x=.ref a/\(((∃ xs,SqL K H1 a xs)/\R (Itl K a) H1)\/((∃ xs,SqT K H1 a xs)/\R (Itt K a) H1)))\/∃ z,x=.str z/\qc7 z=true/\R (ItS z) H1
def zgp (k:Nat) (wi:TI) (g:TG) (tc:TT) (te:TE):TE:=λ σ H Q=>wi σ H λ J H1=>∀ D,H1 D=none->∃ W:Nat->Nat->List V->Hp->Prop,(∃ m,W 0 m [] (upd H1 D (.lst [])))/\∀ i m ys H,W i m ys H->H D=some (.lst ys) /\
 ((J.stop i H/\Q (.ref D) H)\/(J.go i H/\∀ x H',J.yld i H x H'->g x (σ++ja6 k none) H' λ σ2 H2=>tc σ2 H2 λ b H3=>if b=true then te σ2 H3 λ y H4=>H4 D=some (.lst ys)/\ys.length < va5/\∃ m',m' < m/\W (i + 1) m' (ys++[y]) (upd H4 D (.lst (ys++[y]))) else ∃ m',m' < m/\W (i + 1) m' ys H3))
inductive PV where
 | non | bl (b:Bool) | int (i:Int) | str (x:Str) | lst (xs:List PV) | tup (xs:List PV) | emp | dko | scr (ns:List Int) | dct (kvs:List (List Key×V)) | dcl (ks:List (List Key)) (xs:List PV) | exn (c:Nat)
 deriving Inhabited
inductive MO where
 | l (xs:List V) | d (kvs:List (List Key×V))
def MO.ho:MO->HO
 | .l xs=>.lst xs
 | .d kvs=>.dT kvs
def XN:List Str:=["PileError","NoBox","NoPile","NoStairs","NoWays","NoRoad","NoNumber","NoPlace","TooMany","NoText","NoName","NoRow"]
def qhc (K:Frag) (c:Nat):Option Addr:=match XN[c]? with
 | some x=>(match PySem.W.nsIn K vc6 x with
  | some (some (.ref C))=>some C
  | _=>none)
 | none=>none
def qrp (a C:Addr) (h:Heap):Prop:=∃ o vs,h.get? a=some o/\o.cls=.ref C/\o.data=.fields vs
def om:Nat:=1000
def pd (d:Nat):Nat:=if d=om then om else d - 1
theorem qre:pd om=om:=rfl
theorem qaw:pd 0=0:=rfl
mutual
def Own (K:Frag) (H:Hp) (Z:Addr->Prop):PV->Nat->V->List Addr->Prop
 | .non,_,v,fp=>v=.non/\fp=[]
 | .bl b,_,v,fp=>v=.bl b/\fp=[]
 | .int i,_,v,fp=>v=.int i/\fp=[]
 | .str x,_,v,fp=>v=.str x/\fp=[]
 | .emp,_,v,fp=>fp=[]/\∃ a,v=.ref a/\H a=some (.dK [])
 | .dko,_,v,fp=>fp=[]/\∃ a,v=.ref a/\∃ kvs,H a=some (.dK kvs)
 | .scr ns,_,v,fp=>fp=[]/\∃ a,v=.ref a/\((∃ o,H a=some (.frz o (.lst (ns.map V.int))))\/KL K a (ns.map V.int))
 | .exn c,_,v,fp=>fp=[]/\∃ a C,v=.ref a/\qhc K c=some C/\H a=some (.ext (qrp a C))
 | .dct kvs,d,v,fp=>∃ a,v=.ref a/\((d=0/\(Rd H a (.dT kvs)/\¬ Z a)/\fp=[])\/(d≠0/\H a=some (.dT kvs)/\fp=[a]))
 | .dcl ks xs,d,v,fp=>∃ a vs,v=.ref a/\ks.length=xs.length/\((d=0/\(Rd H a (.dT (ks.zip vs))/\¬ Z a)/\fp=[]/\OwnL K H Z xs 0 vs [])\/(d≠0/\∃ f,H a=some (.dT (ks.zip vs))/\fp=a::f/\a∉f/\OwnL K H Z xs (pd d) vs f))
 | .lst xs,d,v,fp=>∃ a vs,v=.ref a/\((d=0/\(H a=some (.lst vs)/\¬ Z a)/\fp=[]/\OwnL K H Z xs 0 vs [])\/(d≠0/\∃ f,H a=some (.lst vs)/\fp=a::f/\a∉f/\OwnL K H Z xs (pd d) vs f))
 | .tup xs,d,v,fp=>∃ a vs,v=.ref a/\H a=some (.tup vs)/\OwnL K H Z xs (pd d) vs fp
def OwnL (K:Frag) (H:Hp) (Z:Addr->Prop):List PV->Nat->List V->List Addr->Prop
 | [],_,vs,fp=>vs=[]/\fp=[]
 | x::xs,d,vs,fp=>∃ v r f1 f2,vs=v::r/\fp=f1++f2/\(∀ a∈f1,a∉f2)/\Own K H Z x d v f1/\OwnL K H Z xs d r f2
end
def Keep (S:Addr->Prop) (H H':Hp):Prop:=∀ a o,H a=some o->¬ S a->H' a=some o
theorem Rd.keepS {S:Addr->Prop}{H H':Hp}{a:Addr}{u:HO} (k:Keep S H H') (h:Rd H a u) (n:¬ S a):Rd H' a u:=h.elim (λ e=>.inl (k a _ e n)) λ ⟨o,e⟩=>.inr ⟨o,k a _ e n⟩
theorem Rd.ne {H:Hp}{a:Addr}{u:HO} (h:Rd H a u):H a≠none:=by
 rcases h with e | ⟨o,e⟩ <;> rw [e] <;> simp
section
variable {K:Frag}{H H':Hp}{Z Z' S:Addr->Prop}
mutual
theorem Own.lsts:∀ (x:PV) (d:Nat) (v:V) (fp:List Addr),Own K H Z x d v fp->∀ a∈fp,∃ o:MO,H a=some o.ho
 | .non,_,_,_,h,a,ha=>by rw [Own] at h;rw [h.2] at ha;cases ha
 | .bl _,_,_,_,h,a,ha=>by rw [Own] at h;rw [h.2] at ha;cases ha
 | .int _,_,_,_,h,a,ha=>by rw [Own] at h;rw [h.2] at ha;cases ha
 | .str _,_,_,_,h,a,ha=>by rw [Own] at h;rw [h.2] at ha;cases ha
 | .emp,_,_,_,h,a,ha=>by rw [Own] at h;rw [h.1] at ha;cases ha
 | .dko,_,_,_,h,a,ha=>by rw [Own] at h;rw [h.1] at ha;cases ha
 | .scr _,_,_,_,h,a,ha=>by rw [Own] at h;rw [h.1] at ha;cases ha
 | .exn _,_,_,_,h,a,ha=>by rw [Own] at h;rw [h.1] at ha;cases ha
 | .dct kvs,d,v,fp,h,a,ha=>by
  rw [Own] at h;obtain ⟨b,_,⟨_,_,e⟩ | ⟨_,hb,e⟩⟩:=h
  ·rw [e] at ha;cases ha
  ·rw [e] at ha;rw [jb4.mp ha];exact ⟨.d kvs,hb⟩
 | .dcl ks xs,d,v,fp,h,a,ha=>by
  rw [Own] at h;obtain ⟨b,vs,_,_,⟨_,_,e,_⟩ | ⟨_,f,hb,e,_,hl⟩⟩:=h
  ·rw [e] at ha;cases ha
  ·rw [e] at ha;rcases jc0.mp ha with z | z
   ·exact ⟨.d (ks.zip vs),by rw [z];exact hb⟩
   ·exact OwnL.lsts xs _ vs f hl a z
 | .lst xs,d,v,fp,h,a,ha=>by
  rw [Own] at h;obtain ⟨b,vs,_,⟨_,_,e,_⟩ | ⟨_,f,hb,e,_,hl⟩⟩:=h
  ·rw [e] at ha;cases ha
  ·rw [e] at ha;rcases jc0.mp ha with z | z
   ·exact ⟨.l vs,by rw [z];exact hb⟩
   ·exact OwnL.lsts xs _ vs f hl a z
 | .tup xs,d,v,fp,h,a,ha=>by
  rw [Own] at h;obtain ⟨b,vs,_,_,hl⟩:=h;exact OwnL.lsts xs _ vs fp hl a ha
theorem OwnL.lsts:∀ (xs:List PV) (d:Nat) (vs:List V) (fp:List Addr),OwnL K H Z xs d vs fp->∀ a∈fp,∃ o:MO,H a=some o.ho
 | [],_,_,_,h,a,ha=>by rw [OwnL] at h;rw [h.2] at ha;cases ha
 | x::xs,d,vs,fp,h,a,ha=>by
  rw [OwnL] at h;obtain ⟨v,r,f1,f2,_,e,_,h1,h2⟩:=h;rw [e] at ha;rcases jd0.mp ha with z | z
  ·exact Own.lsts x d v f1 h1 a z
  ·exact OwnL.lsts xs d r f2 h2 a z
end
mutual
theorem Own.move (k:Keep S H H') (hS:∀ a,S a->Z a/\∃ o:MO,H a=some o.ho) (hz:∀ a,H a≠none->¬ Z a->¬ Z' a):
  ∀ (x:PV) (d:Nat) (v:V) (fp:List Addr),(∀ a∈fp,¬ S a)->Own K H Z x d v fp->Own K H' Z' x d v fp
 | .non,_,_,_,_,h=>by rw [Own] at h ⊢;exact h
 | .bl _,_,_,_,_,h=>by rw [Own] at h ⊢;exact h
 | .int _,_,_,_,_,h=>by rw [Own] at h ⊢;exact h
 | .str _,_,_,_,_,h=>by rw [Own] at h ⊢;exact h
 | .emp,_,_,_,_,h=>by
  rw [Own] at h ⊢;obtain ⟨e,a,ev,ha⟩:=h;exact ⟨e,a,ev,k a _ ha λ s=>by obtain ⟨_,o,e⟩:=hS a s;rw [ha] at e;cases o <;> cases e⟩
 | .dko,_,_,_,_,h=>by
  rw [Own] at h ⊢;obtain ⟨e,a,ev,kvs,ha⟩:=h;exact ⟨e,a,ev,kvs,k a _ ha λ s=>by obtain ⟨_,o,e⟩:=hS a s;rw [ha] at e;cases o <;> cases e⟩
 | .scr ns,_,_,_,_,h=>by
  rw [Own] at h ⊢;obtain ⟨e,a,ev,⟨o,ha⟩ | ha⟩:=h
  ·exact ⟨e,a,ev,.inl ⟨o,k a _ ha λ s=>by obtain ⟨_,q,e⟩:=hS a s;rw [ha] at e;cases q <;> cases e⟩⟩
  ·exact ⟨e,a,ev,.inr ha⟩
 | .exn c,_,_,_,_,h=>by
  rw [Own] at h ⊢;obtain ⟨e,a,C,ev,hc,ha⟩:=h;exact ⟨e,a,C,ev,hc,k a _ ha λ s=>by obtain ⟨_,q,e⟩:=hS a s;rw [ha] at e;cases q <;> cases e⟩
 | .dct kvs,d,v,fp,hf,h=>by
  rw [Own] at h ⊢;obtain ⟨b,ev,⟨d0,hr,e⟩ | ⟨d0,hb,e⟩⟩:=h
  ·exact ⟨b,ev,.inl ⟨d0,⟨Rd.keepS k hr.1 λ s=>hr.2 (hS b s).1,hz b (Rd.ne hr.1) hr.2⟩,e⟩⟩
  ·exact ⟨b,ev,.inr ⟨d0,k b _ hb (hf b (by rw [e];exact ja2)),e⟩⟩
 | .dcl ks xs,d,v,fp,hf,h=>by
  rw [Own] at h ⊢;obtain ⟨b,vs,ev,en,⟨d0,hr,e,hl⟩ | ⟨d0,f,hb,e,nb,hl⟩⟩:=h
  ·refine ⟨b,vs,ev,en,.inl ⟨d0,?_,e,OwnL.move k hS hz xs 0 vs [] (λ _ z=>nomatch z) hl⟩⟩;exact ⟨Rd.keepS k hr.1 λ s=>hr.2 (hS b s).1,hz b (Rd.ne hr.1) hr.2⟩
  ·refine ⟨b,vs,ev,en,.inr ⟨d0,f,k b _ hb (hf b (by rw [e];exact ja2)),e,nb,?_⟩⟩;exact OwnL.move k hS hz xs _ vs f (λ a ha=>hf a (by rw [e];exact ja1 _ ha)) hl
 | .lst xs,d,v,fp,hf,h=>by
  rw [Own] at h ⊢;obtain ⟨b,vs,ev,⟨d0,hr,e,hl⟩ | ⟨d0,f,hb,e,nb,hl⟩⟩:=h
  ·refine ⟨b,vs,ev,.inl ⟨d0,?_,e,OwnL.move k hS hz xs 0 vs [] (λ _ z=>nomatch z) hl⟩⟩;exact ⟨k b _ hr.1 λ s=>hr.2 (hS b s).1,hz b (by rw [hr.1];simp) hr.2⟩
  ·refine ⟨b,vs,ev,.inr ⟨d0,f,k b _ hb (hf b (by rw [e];exact ja2)),e,nb,?_⟩⟩;exact OwnL.move k hS hz xs _ vs f (λ a ha=>hf a (by rw [e];exact ja1 _ ha)) hl
 | .tup xs,d,v,fp,hf,h=>by
  rw [Own] at h ⊢;obtain ⟨b,vs,ev,hr,hl⟩:=h;exact ⟨b,vs,ev,k b _ hr (λ s=>by obtain ⟨_,o,e⟩:=hS b s;rw [hr] at e;cases o <;> cases e),OwnL.move k hS hz xs _ vs fp hf hl⟩
theorem OwnL.move (k:Keep S H H') (hS:∀ a,S a->Z a/\∃ o:MO,H a=some o.ho) (hz:∀ a,H a≠none->¬ Z a->¬ Z' a):
  ∀ (xs:List PV) (d:Nat) (vs:List V) (fp:List Addr),(∀ a∈fp,¬ S a)->OwnL K H Z xs d vs fp->OwnL K H' Z' xs d vs fp
 | [],_,_,_,_,h=>by rw [OwnL] at h ⊢;exact h
 | x::xs,d,vs,fp,hf,h=>by
  rw [OwnL] at h ⊢;obtain ⟨v,r,f1,f2,e1,e,dj,h1,h2⟩:=h;exact ⟨v,r,f1,f2,e1,e,dj,Own.move k hS hz x d v f1 (λ a ha=>hf a (by rw [e];exact ja8 _ ha)) h1,OwnL.move k hS hz xs d r f2 (λ a ha=>hf a (by rw [e];exact ja5 _ ha)) h2⟩
end
mutual
theorem Own.freeze (hz:∀ a,Z' a->Z a):∀ (x:PV) (d:Nat) (v:V) (fp:List Addr),(∀ a∈fp,¬ Z' a)->Own K H Z x d v fp->Own K H Z' x 0 v []
 | .non,_,_,_,_,h=>by rw [Own] at h ⊢;exact ⟨h.1,rfl⟩
 | .bl _,_,_,_,_,h=>by rw [Own] at h ⊢;exact ⟨h.1,rfl⟩
 | .int _,_,_,_,_,h=>by rw [Own] at h ⊢;exact ⟨h.1,rfl⟩
 | .str _,_,_,_,_,h=>by rw [Own] at h ⊢;exact ⟨h.1,rfl⟩
 | .emp,_,_,_,_,h=>by rw [Own] at h ⊢;exact ⟨rfl,h.2⟩
 | .dko,_,_,_,_,h=>by rw [Own] at h ⊢;exact ⟨rfl,h.2⟩
 | .scr _,_,_,_,_,h=>by rw [Own] at h ⊢;exact ⟨rfl,h.2⟩
 | .exn _,_,_,_,_,h=>by rw [Own] at h ⊢;exact ⟨rfl,h.2⟩
 | .dct kvs,d,v,fp,hf,h=>by
  rw [Own] at h ⊢;obtain ⟨b,ev,⟨d0,hr,e⟩ | ⟨d0,hb,e⟩⟩:=h
  ·exact ⟨b,ev,.inl ⟨rfl,⟨hr.1,λ z=>hr.2 (hz b z)⟩,rfl⟩⟩
  ·exact ⟨b,ev,.inl ⟨rfl,⟨.inl hb,hf b (by rw [e];exact ja2)⟩,rfl⟩⟩
 | .dcl ks xs,d,v,fp,hf,h=>by
  rw [Own] at h ⊢;obtain ⟨b,vs,ev,en,⟨d0,hr,e,hl⟩ | ⟨d0,f,hb,e,nb,hl⟩⟩:=h
  ·refine ⟨b,vs,ev,en,.inl ⟨rfl,?_,rfl,OwnL.freeze hz xs 0 vs [] (λ _ z=>nomatch z) hl⟩⟩;exact ⟨hr.1,λ z=>hr.2 (hz b z)⟩
  ·exact ⟨b,vs,ev,en,.inl ⟨rfl,⟨.inl hb,hf b (by rw [e];exact ja2)⟩,rfl,OwnL.freeze hz xs _ vs f (λ a ha=>hf a (by rw [e];exact ja1 _ ha)) hl⟩⟩
 | .lst xs,d,v,fp,hf,h=>by
  rw [Own] at h ⊢;obtain ⟨b,vs,ev,⟨d0,hr,e,hl⟩ | ⟨d0,f,hb,e,nb,hl⟩⟩:=h
  ·refine ⟨b,vs,ev,.inl ⟨rfl,?_,rfl,OwnL.freeze hz xs 0 vs [] (λ _ z=>nomatch z) hl⟩⟩;exact ⟨hr.1,λ z=>hr.2 (hz b z)⟩
  ·exact ⟨b,vs,ev,.inl ⟨rfl,⟨hb,hf b (by rw [e];exact ja2)⟩,rfl,OwnL.freeze hz xs _ vs f (λ a ha=>hf a (by rw [e];exact ja1 _ ha)) hl⟩⟩
 | .tup xs,d,v,fp,hf,h=>by
  rw [Own] at h ⊢;obtain ⟨b,vs,ev,hr,hl⟩:=h;exact ⟨b,vs,ev,hr,OwnL.freeze hz xs _ vs fp hf hl⟩
theorem OwnL.freeze (hz:∀ a,Z' a->Z a):∀ (xs:List PV) (d:Nat) (vs:List V) (fp:List Addr),(∀ a∈fp,¬ Z' a)->OwnL K H Z xs d vs fp->OwnL K H Z' xs 0 vs []
 | [],_,_,_,_,h=>by rw [OwnL] at h ⊢;exact ⟨h.1,rfl⟩
 | x::xs,d,vs,fp,hf,h=>by
  rw [OwnL] at h ⊢;obtain ⟨v,r,f1,f2,e1,e,dj,h1,h2⟩:=h;exact ⟨v,r,[],[],e1,rfl,λ _ z=>(nomatch z),Own.freeze hz x d v f1 (λ a ha=>hf a (by rw [e];exact ja8 _ ha)) h1,OwnL.freeze hz xs d r f2 (λ a ha=>hf a (by rw [e];exact ja5 _ ha)) h2⟩
end
mutual
theorem Own.full:∀ (x:PV) (v:V) (fp:List Addr),Own K H Z x om v fp->Own K H Z' x om v fp
 | .non,_,_,h=>by rw [Own] at h ⊢;exact h
 | .bl _,_,_,h=>by rw [Own] at h ⊢;exact h
 | .int _,_,_,h=>by rw [Own] at h ⊢;exact h
 | .str _,_,_,h=>by rw [Own] at h ⊢;exact h
 | .emp,_,_,h=>by rw [Own] at h ⊢;exact h
 | .dko,_,_,h=>by rw [Own] at h ⊢;exact h
 | .scr _,_,_,h=>by rw [Own] at h ⊢;exact h
 | .exn _,_,_,h=>by rw [Own] at h ⊢;exact h
 | .dct kvs,v,fp,h=>by
  rw [Own] at h ⊢;obtain ⟨b,ev,⟨d0,_⟩ | ⟨d0,hb,e⟩⟩:=h
  ·exact absurd d0 (by decide)
  ·exact ⟨b,ev,.inr ⟨d0,hb,e⟩⟩
 | .dcl ks xs,v,fp,h=>by
  rw [Own] at h ⊢;obtain ⟨b,vs,ev,en,⟨d0,_⟩ | ⟨d0,f,hb,e,nb,hl⟩⟩:=h
  ·exact absurd d0 (by decide)
  ·exact ⟨b,vs,ev,en,.inr ⟨d0,f,hb,e,nb,OwnL.full xs vs f hl⟩⟩
 | .lst xs,v,fp,h=>by
  rw [Own] at h ⊢;obtain ⟨b,vs,ev,⟨d0,_⟩ | ⟨d0,f,hb,e,nb,hl⟩⟩:=h
  ·exact absurd d0 (by decide)
  ·exact ⟨b,vs,ev,.inr ⟨d0,f,hb,e,nb,OwnL.full xs vs f hl⟩⟩
 | .tup xs,v,fp,h=>by
  rw [Own] at h ⊢;obtain ⟨b,vs,ev,hr,hl⟩:=h;exact ⟨b,vs,ev,hr,OwnL.full xs vs fp hl⟩
theorem OwnL.full:∀ (xs:List PV) (vs:List V) (fp:List Addr),OwnL K H Z xs om vs fp->OwnL K H Z' xs om vs fp
 | [],_,_,h=>by rw [OwnL] at h ⊢;exact h
 | x::xs,vs,fp,h=>by
  rw [OwnL] at h ⊢;obtain ⟨v,r,f1,f2,e1,e,dj,h1,h2⟩:=h;exact ⟨v,r,f1,f2,e1,e,dj,Own.full x v f1 h1,OwnL.full xs r f2 h2⟩
end
theorem Own.weak (hz:∀ a,Z' a->Z a) {x:PV}{d:Nat}{v:V}{fp:List Addr} (h:Own K H Z x d v fp):Own K H Z' x d v fp:=
 Own.move (S:=λ _=>False) (λ _ _ h _=>h) (λ _ z=>z.elim) (λ a _ n z=>n (hz a z)) x d v fp (λ _ _ z=>z) h
theorem OwnL.weak (hz:∀ a,Z' a->Z a) {xs:List PV}{d:Nat}{vs:List V}{fp:List Addr} (h:OwnL K H Z xs d vs fp):OwnL K H Z' xs d vs fp:=
 OwnL.move (S:=λ _=>False) (λ _ _ h _=>h) (λ _ z=>z.elim) (λ a _ n z=>n (hz a z)) xs d vs fp (λ _ _ z=>z) h
end
abbrev Slot:=Option (PV×Nat)
abbrev Rho:=List Slot
inductive Rz (α:Type) where
 | ok (a:α) | exc (c:Nat) | no
def Rz.bind {α β:Type} (r:Rz α) (f:α->Rz β):Rz β:=match r with
 | .ok a=>f a
 | .exc c=>.exc c
 | .no=>.no
abbrev Fx:=Rho->Rz (PV×Nat×Rho)
abbrev Fa:=Rho->Rz (List (PV×Nat)×Rho)
abbrev Fb:=Rho->Rz (Bool×Rho)
structure Fm where
 K:Frag
 Ms:Nat->Bool
 Zo:Addr->Prop
 H₀:Hp
 W:St->Nat->Hp->Prop
 io:Option V
 al:Nat->List Nat
 pn:List (Nat×V):=[]
abbrev Fps:=Nat->List Addr
def Fm.Fre (M:Fm) (i:Nat):Prop:=(M.io≠none->i≠0)/\∀ p∈M.pn,p.1≠i
def Zf (M:Fm) (fps:Fps):Addr->Prop:=λ a=>M.Zo a\/∃ i,a∈fps i
def Zv (M:Fm) (vs:List Nat) (fps:Fps):Addr->Prop:=λ a=>M.Zo a\/∃ i,i∉vs/\a∈fps i
def Za (M:Fm) (fps:Fps) (i:Nat):Addr->Prop:=λ a=>M.Zo a\/∃ j,j∉M.al i/\a∈fps j
def Zt (M:Fm) (vs:List Nat) (fps:Fps) (fp:List Addr):Addr->Prop:=λ a=>Zv M vs fps a\/a∈fp
def Fm.plus (M:Fm) (fp:List Addr):Fm:={ M with Zo:=λ a=>M.Zo a\/a∈fp }
structure Rep (M:Fm) (ρ:Rho) (σ:St) (H:Hp) (fps:Fps):Prop where
 own:∀ i x d,ρ[i]?=some (some (x,d))->∃ v,σ[i]?=some (some v)/\Own M.K H (Za M fps i) x d v (fps i)
 non:∀ i,(∀ p,ρ[i]?≠some (some p))->fps i=[]
 dj:∀ i j,i≠j->∀ a∈fps i,a∉fps j
 zo:∀ i,∀ a∈fps i,¬ M.Zo a
 fr:∀ i,M.Ms i=false->∀ a∈fps i,M.H₀ a=none
 zd:∀ a,M.Zo a->H a≠none
 len:ρ.length=σ.length
 msf:∀ i x d,M.Ms i=true->ρ[i]?=some (some (x,d))->d=om
 h0:∀ a,M.H₀ a≠none->H a≠none
 iov:(∀ v,M.io=some v->σ[0]?=some (some v)/\M.Ms 0=true)/\∀ p∈M.pn,σ[p.1]?=some (some p.2)
def Agr (M:Fm) (ρ ρ':Rho):Prop:=(∀ i,M.Ms i=false->ρ'[i]?=ρ[i]?)/\ρ'.length=ρ.length
structure KD (M:Fm) (H:Hp) (fps:Fps) (H':Hp) (fps':Fps):Prop where
 keep:Keep (λ a=>∃ i,M.Ms i=true/\a∈fps i) H H'
 dom:∀ a,H a≠none->H' a≠none
 sub:∀ i,∀ a∈fps' i,a∈fps i\/H a=none
 same:∀ i,M.Ms i=false->fps' i=fps i
def Tmps (K:Frag) (H:Hp) (Z:Addr->Prop):List (PV×Nat)->List V->List Addr->Prop
 | [],vs,fp=>vs=[]/\fp=[]
 | (x,d)::xs,vs,fp=>∃ v r f1 f2,vs=v::r/\fp=f1++f2/\(∀ a∈f1,a∉f2)/\Own K H (λ a=>Z a\/a∈f1) x d v f1/\Tmps K H Z xs r f2
structure Temp (M:Fm) (vs:List Nat) (H:Hp) (H':Hp) (fps':Fps) (fp:List Addr):Prop where
 new:∀ a∈fp,H a=none
 ndj:∀ a∈fp,¬ Zf M fps' a
section
variable {M:Fm}{ρ ρ':Rho}{σ:St}{H H' H'':Hp}{fps fps' fps'':Fps}{vs vs':List Nat}
theorem Agr.refl:Agr M ρ ρ:=⟨λ _ _=>rfl,rfl⟩
theorem Agr.trans {ρ'':Rho} (a:Agr M ρ ρ') (b:Agr M ρ' ρ''):Agr M ρ ρ'':=⟨λ i hi=>(b.1 i hi).trans (a.1 i hi),b.2.trans a.2⟩
theorem KD.refl:KD M H fps H fps:=⟨λ _ _ h _=>h,λ _ h=>h,λ _ _ h=>.inl h,λ _ _=>rfl⟩
theorem KD.trans (a:KD M H fps H' fps') (b:KD M H' fps' H'' fps''):KD M H fps H'' fps'' where
 keep:=λ x o h n=>b.keep x o (a.keep x o h n) λ ⟨i,hi,hx⟩=>(a.sub i x hx).elim (λ z=>n ⟨i,hi,z⟩) λ z=>by rw [z] at h;cases h
 dom:=λ x h=>b.dom x (a.dom x h)
 sub:=λ i x hx=>(b.sub i x hx).elim (λ z=>a.sub i x z) λ z=>.inr (by
  cases e:H x with
  | none=>rfl
  | some o=>exact absurd z (a.dom x (by rw [e];simp)))
 same:=λ i hi=>(b.same i hi).trans (a.same i hi)
theorem Za.zf {i:Nat}{a:Addr} (h:Za M fps i a):Zf M fps a:=h.elim .inl λ ⟨j,_,h⟩=>.inr ⟨j,h⟩
theorem Za.of {i:Nat} (hal:M.al i=[]) {a:Addr} (h:Zf M fps a):Za M fps i a:=h.elim .inl λ ⟨j,h⟩=>.inr ⟨j,(by rw [hal];simp),h⟩
theorem Rep.own0 (r:Rep M ρ σ H fps) (hal:∀ i,M.al i=[]) (i:Nat) (x:PV) (d:Nat) (e:ρ[i]?=some (some (x,d))):∃ v,σ[i]?=some (some v)/\Own M.K H (Zf M fps) x d v (fps i):=
 let ⟨v,h1,h2⟩:=r.own i x d e;⟨v,h1,h2.weak λ _ h=>Za.of (hal i) h⟩
theorem Rep.lsts (r:Rep M ρ σ H fps) {i:Nat}{a:Addr} (h:a∈fps i):∃ o:MO,H a=some o.ho:=by
 by_cases hp:∃ p,ρ[i]?=some (some p)
 ·obtain ⟨⟨x,d⟩,e⟩:=hp;obtain ⟨v,_,o⟩:=r.own i x d e;exact Own.lsts x d v _ o a h
 ·rw [r.non i λ p e=>hp ⟨p,e⟩] at h;cases h
theorem Rep.zdom (r:Rep M ρ σ H fps) {a:Addr} (h:Zf M fps a):H a≠none:=by
 rcases h with h | ⟨i,h⟩
 ·exact r.zd a h
 ·obtain ⟨xs,e⟩:=r.lsts h;rw [e];simp
theorem Rep.nz (r:Rep M ρ σ H fps) {a:Addr} (h:H a=none):¬ Zf M fps a:=λ z=>r.zdom z h
theorem Zv.zf {a:Addr} (h:Zv M vs fps a):Zf M fps a:=h.elim .inl λ ⟨i,_,h⟩=>.inr ⟨i,h⟩
theorem Zv.mono (hv:∀ i∈vs',i∈vs) {a:Addr} (h:Zv M vs fps a):Zv M vs' fps a:=h.elim .inl λ ⟨i,n,h⟩=>.inr ⟨i,λ z=>n (hv i z),h⟩
theorem Zt.mono (hv:∀ i∈vs',i∈vs) {a:Addr}{fp:List Addr} (h:Zt M vs fps fp a):Zt M vs' fps fp a:=h.elim (λ h=>.inl (h.mono hv)) .inr
theorem KD.stay (k:KD M H fps H' fps') (r:Rep M ρ σ H fps) (hv:∀ i∈vs,M.Ms i=false) {x:PV}{d:Nat}{v:V}{fp:List Addr} (h:Own M.K H (Zt M vs fps fp) x d v fp) (hf:∀ a∈fp,¬ Zf M fps a):Own M.K H' (Zt M vs fps' fp) x d v fp:=by
 have h1:∀ a,(∃ i,M.Ms i=true/\a∈fps i)->Zt M vs fps fp a/\∃ o:MO,H a=some o.ho:=by
  rintro a ⟨i,hi,ha⟩;exact ⟨.inl (.inr ⟨i,λ z=>(by rw [hv i z] at hi;cases hi),ha⟩),r.lsts ha⟩
 have h2:∀ a,H a≠none->¬ Zt M vs fps fp a->¬ Zt M vs fps' fp a:=by
  intro a hd nz z;rcases z with (z | ⟨i,ni,hx⟩) | z
  ·exact nz (.inl (.inl z))
  ·rcases k.sub i a hx with z | z
   ·exact nz (.inl (.inr ⟨i,ni,z⟩))
   ·exact hd z
  ·exact nz (.inr z)
 exact Own.move k.keep h1 h2 x d v fp (λ a ha ⟨i,_,hx⟩=>hf a ha (.inr ⟨i,hx⟩)) h
theorem KD.stays (k:KD M H fps H' fps') (r:Rep M ρ σ H fps) (hv:∀ i∈vs,M.Ms i=false):∀ {xs:List (PV×Nat)}{ws:List V}{fp:List Addr},Tmps M.K H (Zv M vs fps) xs ws fp->(∀ a∈fp,¬ Zf M fps a)->Tmps M.K H' (Zv M vs fps') xs ws fp
 | [],_,_,h,_=>h
 | (x,d)::xs,ws,fp,h,hf=>by
  obtain ⟨v,s,f1,f2,e1,e2,dj,h1,h2⟩:=h;exact ⟨v,s,f1,f2,e1,e2,dj,k.stay r hv h1 λ a ha=>hf a (by rw [e2];exact ja8 _ ha),k.stays r hv h2 λ a ha=>hf a (by rw [e2];exact ja5 _ ha)⟩
theorem Tmps.weak {K:Frag}{Z Z':Addr->Prop} (hz:∀ a,Z' a->Z a):∀ {xs:List (PV×Nat)}{ws:List V}{fp:List Addr},Tmps K H Z xs ws fp->Tmps K H Z' xs ws fp
 | [],_,_,h=>h
 | (x,d)::xs,ws,fp,h=>by
  obtain ⟨v,s,f1,f2,e1,e2,dj,h1,h2⟩:=h;exact ⟨v,s,f1,f2,e1,e2,dj,h1.weak λ a h=>h.elim (λ h=>.inl (hz a h)) .inr,h2.weak hz⟩
theorem KD.grow (k:∀ a o,H a=some o->H' a=some o):KD M H fps H' fps:=⟨λ a o h _=>k a o h,λ a h=>by
 cases e:H a with
 | none=>exact absurd e h
 | some o=>rw [k a o e];simp,λ _ _ h=>.inl h,λ _ _=>rfl⟩
theorem Rep.grow (r:Rep M ρ σ H fps) (k:∀ a o,H a=some o->H' a=some o):Rep M ρ σ H' fps where
 own:=λ i x d e=>by
  obtain ⟨v,hv,o⟩:=r.own i x d e;exact ⟨v,hv,Own.move (S:=λ _=>False) (λ a o h _=>k a o h) (λ _ z=>z.elim) (λ _ _ n=>n) x d v _ (λ _ _ z=>z) o⟩
 non:=r.non
 dj:=r.dj
 zo:=r.zo
 fr:=r.fr
 zd:=λ a h=>(KD.grow (M:=M) (fps:=fps) k).dom a (r.zd a h)
 len:=r.len
 msf:=r.msf
 h0:=λ a h=>(KD.grow (M:=M) (fps:=fps) k).dom a (r.h0 a h)
 iov:=r.iov
end
def tE (M:Fm) (f:Fx) (vs:List Nat):TE:=λ σ H Q=>∃ ρ fps,Rep M ρ σ H fps/\(match f ρ with
 | .ok (x,d,ρ')=>∀ v H' fps' fp,KD M H fps H' fps'->Agr M ρ ρ'->Rep M ρ' σ H' fps'->Own M.K H' (Zt M vs fps' fp) x d v fp->Temp M vs H H' fps' fp->Q v H'
 | .exc c=>∀ H' fps',KD M H fps H' fps'->M.W σ c H'
 | .no=>False)
def tL (M:Fm) (f:Fa) (vs:List Nat):TA:=λ σ H Q=>∃ ρ fps,Rep M ρ σ H fps/\(match f ρ with
 | .ok (xs,ρ')=>∀ ws H' fps' fp,KD M H fps H' fps'->Agr M ρ ρ'->Rep M ρ' σ H' fps'->Tmps M.K H' (Zv M vs fps') xs ws fp->Temp M vs H H' fps' fp->Q ws H'
 | .exc c=>∀ H' fps',KD M H fps H' fps'->M.W σ c H'
 | .no=>False)
def tT (M:Fm) (f:Fb):TT:=λ σ H Q=>∃ ρ fps,Rep M ρ σ H fps/\(match f ρ with
 | .ok (b,ρ')=>∀ H' fps',KD M H fps H' fps'->Agr M ρ ρ'->Rep M ρ' σ H' fps'->Q b H'
 | .exc c=>∀ H' fps',KD M H fps H' fps'->M.W σ c H'
 | .no=>False)
def Leaf (M:Fm) (H:Hp) (fps:Fps) (vs:List Nat) (F:List Addr) (z:PV) (d:Nat) (Q:VK):Prop:=
 ∀ u H' fp,(∀ a o,H a=some o->H' a=some o)->Own M.K H' (Zt M vs fps fp) z d u fp->(∀ a∈fp,a∈F\/H a=none)->Q u H'
section
variable {M:Fm}{ρ ρ':Rho}{σ:St}{H H' H'':Hp}{fps fps' fps'':Fps}{vs vs':List Nat}{f g:Fx}{fa:Fa}{fb:Fb}{Q:VK}
def bC (x:PV):Fx:=λ ρ=>.ok (x,om,ρ)
theorem zbd {x:PV}{v:V} (h:∀ K H Z,Own K H Z x om v []) {σ:St}{H:Hp}{Q:VK} (hq:tE M (bC x) [] σ H Q):tC v σ H Q:=by
 obtain ⟨ρ,fps,rep,q⟩:=hq;exact q v H fps [] KD.refl Agr.refl rep (h _ _ _) ⟨λ _ z=>(nomatch z),λ _ z=>nomatch z⟩
def dv:PV->Nat
 | .lst _=>0
 | .tup _=>0
 | .dct _=>0
 | .dcl _ _=>0
 | _=>om
def bVar (i:Nat):Fx:=λ ρ=>match ρ[i]? with
 | some (some (x,_))=>.ok (x,dv x,ρ)
 | _=>.no
theorem Own.view {K:Frag}{Z Z':Addr->Prop}{x:PV}{d:Nat}{v:V}{fp:List Addr} (hz:∀ a,Z' a->Z a) (hf:∀ a∈fp,¬ Z' a) (h:Own K H Z x d v fp):Own K H Z' x (dv x) v []:=by
 have q:=Own.freeze hz x d v fp hf h;cases x with
 | lst xs=>exact q
 | tup xs=>exact q
 | dct kvs=>exact q
 | dcl ks xs=>exact q
 | exn _=>rw [Own] at q ⊢;exact q
 | non=>rw [Own] at q ⊢;exact q
 | bl _=>rw [Own] at q ⊢;exact q
 | int _=>rw [Own] at q ⊢;exact q
 | str _=>rw [Own] at q ⊢;exact q
 | emp=>rw [Own] at q ⊢;exact q
 | dko=>rw [Own] at q ⊢;exact q
 | scr _=>rw [Own] at q ⊢;exact q
theorem qj0 {i:Nat}{σ:St}{H:Hp}{Q:VK} (hq:tE M (bVar i) (i::M.al i) σ H Q):tVar i σ H Q:=by
 obtain ⟨ρ,fps,rep,q⟩:=hq;unfold bVar at q;cases e0:ρ[i]? with
 | none=>rw [e0] at q;exact q.elim
 | some sl=>
  cases sl with
  | none=>rw [e0] at q;exact q.elim
  | some p=>
   obtain ⟨x0,d0⟩:=p;rw [e0] at q;obtain ⟨v,hv,o⟩:=rep.own i x0 d0 e0;refine ⟨v,hv,q v H fps [] KD.refl Agr.refl rep ((o.view (Z':=Zv M (i::M.al i) fps) (λ a h=>h.elim .inl λ ⟨j,n,h⟩=>.inr ⟨j,λ z=>n (ja1 _ z),h⟩) λ a ha z=>?_).weak λ a h=>h.elim id λ z=>nomatch z) ⟨λ _ z=>(nomatch z),λ _ z=>nomatch z⟩⟩;rcases z with z | ⟨j,nj,hj⟩
   ·exact rep.zo i a ha z
   ·exact rep.dj i j (λ e=>nj (by simp [e])) a ha hj
def bBin (op:PV->Nat->PV->Nat->Option (PV×Nat)) (f g:Fx):Fx:=λ ρ=>(f ρ).bind λ (x,d,ρ1)=>(g ρ1).bind λ (y,e,ρ2)=>match op x d y e with
 | some (z,c)=>.ok (z,c,ρ2)
 | none=>.no
theorem zwt {op:PV->Nat->PV->Nat->Option (PV×Nat)}{r:R2} (hv:∀ i∈vs,M.Ms i=false)
  (leaf:∀ x d y e z c v w H fps f1 f2 Q,op x d y e=some (z,c)->Own M.K H (Zt M (vs++vs') fps f1) x d v f1->Own M.K H (Zt M (vs++vs') fps f2) y e w f2->(∀ a∈f1,a∉f2)->(∀ a∈f1++f2,¬ Zf M fps a)->(∀ a,Zf M fps a->H a≠none)->Leaf M H fps (vs++vs') (f1++f2) z c Q->r v w H Q)
  {σ:St}{H:Hp}{Q:VK} (hq:tE M (bBin op f g) (vs++vs') σ H Q):tOp r (tE M f vs) (tE M g vs') σ H Q:=by
 obtain ⟨ρ,fps,rep,q⟩:=hq;refine ⟨ρ,fps,rep,?_⟩;unfold bBin at q;cases ef:f ρ with
 | no=>rw [ef] at q;exact q
 | exc c=>rw [ef] at q;exact q
 | ok p=>
  obtain ⟨x,d,ρ1⟩:=p;rw [ef] at q;intro v H1 fps1 f1 k1 g1 rep1 o1 t1;refine ⟨ρ1,fps1,rep1,?_⟩;dsimp only [Rz.bind] at q;cases eg:g ρ1 with
  | no=>rw [eg] at q;exact q
  | exc c=>rw [eg] at q;exact λ H' fps' k=>q H' fps' (k1.trans k)
  | ok p2=>
   obtain ⟨y,e,ρ2⟩:=p2;rw [eg] at q;intro w H2 fps2 f2 k2 g2 rep2 o2 t2;dsimp only at q;cases eo:op x d y e with
   | none=>rw [eo] at q;exact q.elim
   | some zc=>
    obtain ⟨z,c⟩:=zc;rw [eo] at q;have o1':=k2.stay rep1 hv o1 t1.ndj;have n1:∀ a∈f1,¬ Zf M fps2 a:=λ a ha z=>by
     rcases z with z | ⟨i,z⟩
     ·exact t1.ndj a ha (.inl z)
     ·rcases k2.sub i a z with z | z
      ·exact t1.ndj a ha (.inr ⟨i,z⟩)
      ·obtain ⟨xs,e⟩:=Own.lsts x d v f1 o1 a ha;rw [z] at e;cases e
    refine leaf x d y e z c v w H2 fps2 f1 f2 Q eo (o1'.weak λ a h=>Zt.mono (λ i hi=>ja8 _ hi) h) (o2.weak λ a h=>Zt.mono (λ i hi=>ja5 _ hi) h) (λ a h1 h2=>?_) (λ a ha=>?_) (λ a h=>rep2.zdom h) λ u H3 fp k3 o3 hfp=>?_
    ·obtain ⟨xs,e⟩:=Own.lsts x d v f1 o1 a h1;rw [t2.new a h2] at e;cases e
    ·rcases jd0.mp ha with z | z
     ·exact n1 a z
     ·exact t2.ndj a z
    ·have new:∀ a∈fp,H a=none:=λ a ha=>by
      have back:H1 a=none->H a=none:=λ e=>by
       cases e':H a with
       | none=>rfl
       | some o=>exact absurd e (k1.dom a (by rw [e'];simp))
      have back2:H2 a=none->H1 a=none:=λ e=>by
       cases e':H1 a with
       | none=>rfl
       | some o=>exact absurd e (k2.dom a (by rw [e'];simp))
      rcases hfp a ha with z | z
      ·rcases jd0.mp z with z | z
       ·exact t1.new a z
       ·exact back (t2.new a z)
      ·exact back (back2 z)
     refine q u H3 fps2 fp ((k1.trans k2).trans (KD.grow k3)) (g1.trans g2) (rep2.grow k3) o3 ⟨new,λ a ha=>?_⟩;rcases hfp a ha with z | z
     ·rcases jd0.mp z with z | z
      ·exact n1 a z
      ·exact t2.ndj a z
     ·exact rep2.nz z
end
section
variable {M:Fm}{vs vs':List Nat}{f g:Fx}{fa:Fa}{fb gb:Fb}
def bUn (op:PV->Nat->Option (PV×Nat)) (f:Fx):Fx:=λ ρ=>(f ρ).bind λ (x,d,ρ1)=>match op x d with
 | some (z,c)=>.ok (z,c,ρ1)
 | none=>.no
theorem qhx {op:PV->Nat->Option (PV×Nat)}{r:V->Hp->VK->Prop}
  (leaf:∀ x d z c v H fps f1 Q,op x d=some (z,c)->Own M.K H (Zt M vs fps f1) x d v f1->(∀ a∈f1,¬ Zf M fps a)->(∀ a,Zf M fps a->H a≠none)->Leaf M H fps vs f1 z c Q->r v H Q)
  {σ:St}{H:Hp}{Q:VK} (hq:tE M (bUn op f) vs σ H Q):tUn r (tE M f vs) σ H Q:=by
 obtain ⟨ρ,fps,rep,q⟩:=hq;refine ⟨ρ,fps,rep,?_⟩;unfold bUn at q;cases ef:f ρ with
 | no=>rw [ef] at q;exact q
 | exc c=>rw [ef] at q;exact q
 | ok p=>
  obtain ⟨x,d,ρ1⟩:=p;rw [ef] at q;intro v H1 fps1 f1 k1 g1 rep1 o1 t1;dsimp only [Rz.bind] at q;cases eo:op x d with
  | none=>rw [eo] at q;exact q.elim
  | some zc=>
   obtain ⟨z,c⟩:=zc;rw [eo] at q;refine leaf x d z c v H1 fps1 f1 Q eo o1 t1.ndj (λ a h=>rep1.zdom h) λ u H3 fp k3 o3 hfp=>?_;have back:∀ a,H1 a=none->H a=none:=λ a e=>by
    cases e':H a with
    | none=>rfl
    | some o=>exact absurd e (k1.dom a (by rw [e'];simp))
   refine q u H3 fps1 fp (k1.trans (KD.grow k3)) g1 (rep1.grow k3) o3 ⟨λ a ha=>(hfp a ha).elim (t1.new a) (back a),λ a ha=>(hfp a ha).elim (t1.ndj a) λ z=>rep1.nz z⟩
def aNil:Fa:=λ ρ=>.ok ([],ρ)
def zqa (f:Fx) (fa:Fa):Fa:=λ ρ=>(f ρ).bind λ (x,d,ρ1)=>(fa ρ1).bind λ (xs,ρ2)=>.ok ((x,d)::xs,ρ2)
theorem qjz {σ:St}{H:Hp}{Q:List V->Hp->Prop} (hq:tL M aNil [] σ H Q):tNil σ H Q:=by
 obtain ⟨ρ,fps,rep,q⟩:=hq;exact q [] H fps [] KD.refl Agr.refl rep ⟨rfl,rfl⟩ ⟨λ _ z=>(nomatch z),λ _ z=>nomatch z⟩
theorem qap (hv:∀ i∈vs,M.Ms i=false) {σ:St}{H:Hp}{Q:List V->Hp->Prop} (hq:tL M (zqa f fa) (vs++vs') σ H Q):qeh (tE M f vs) (tL M fa vs') σ H Q:=by
 obtain ⟨ρ,fps,rep,q⟩:=hq;refine ⟨ρ,fps,rep,?_⟩;unfold zqa at q;cases ef:f ρ with
 | no=>rw [ef] at q;exact q
 | exc c=>rw [ef] at q;exact q
 | ok p=>
  obtain ⟨x,d,ρ1⟩:=p;rw [ef] at q;intro v H1 fps1 f1 k1 g1 rep1 o1 t1;refine ⟨ρ1,fps1,rep1,?_⟩;dsimp only [Rz.bind] at q;cases eg:fa ρ1 with
  | no=>rw [eg] at q;exact q
  | exc c=>rw [eg] at q;exact λ H' fps' k=>q H' fps' (k1.trans k)
  | ok p2=>
   obtain ⟨ys,ρ2⟩:=p2;rw [eg] at q;intro ws H2 fps2 f2 k2 g2 rep2 o2 t2;dsimp only at q;have o1':=k2.stay rep1 hv o1 t1.ndj;have n1:∀ a∈f1,¬ Zf M fps2 a:=λ a ha z=>by
    rcases z with z | ⟨i,z⟩
    ·exact t1.ndj a ha (.inl z)
    ·rcases k2.sub i a z with z | z
     ·exact t1.ndj a ha (.inr ⟨i,z⟩)
     ·obtain ⟨xs,e⟩:=Own.lsts x d v f1 o1 a ha;rw [z] at e;cases e
   have back:∀ a,H1 a=none->H a=none:=λ a e=>by
    cases e':H a with
    | none=>rfl
    | some o=>exact absurd e (k1.dom a (by rw [e'];simp))
   refine q (v::ws) H2 fps2 (f1++f2) (k1.trans k2) (g1.trans g2) rep2 ⟨v,ws,f1,f2,rfl,rfl,λ a h1 h2=>?_,o1'.weak λ a h=>Zt.mono (λ i hi=>ja8 _ hi) h,o2.weak λ a h=>h.mono λ i hi=>ja5 _ hi⟩ ⟨λ a ha=>?_,λ a ha=>?_⟩
   ·obtain ⟨xs,e⟩:=Own.lsts x d v f1 o1 a h1;rw [t2.new a h2] at e;cases e
   ·rcases jd0.mp ha with z | z
    ·exact t1.new a z
    ·exact back a (t2.new a z)
   ·rcases jd0.mp ha with z | z
    ·exact n1 a z
    ·exact t2.ndj a z
def zqd (op:List (PV×Nat)->Option (PV×Nat)) (fa:Fa):Fx:=λ ρ=>(fa ρ).bind λ (xs,ρ1)=>match op xs with
 | some (z,c)=>.ok (z,c,ρ1)
 | none=>.no
theorem zmy {op:List (PV×Nat)->Option (PV×Nat)}{r:List V->Hp->VK->Prop}
  (leaf:∀ xs z c ws H fps fp Q,op xs=some (z,c)->Tmps M.K H (Zv M vs fps) xs ws fp->(∀ a∈fp,¬ Zf M fps a)->(∀ a,Zf M fps a->H a≠none)->Leaf M H fps vs fp z c Q->r ws H Q)
  {σ:St}{H:Hp}{Q:VK} (hq:tE M (zqd op fa) vs σ H Q):tL M fa vs σ H λ ws H1=>r ws H1 Q:=by
 obtain ⟨ρ,fps,rep,q⟩:=hq;refine ⟨ρ,fps,rep,?_⟩;unfold zqd at q;cases ef:fa ρ with
 | no=>rw [ef] at q;exact q
 | exc c=>rw [ef] at q;exact q
 | ok p=>
  obtain ⟨xs,ρ1⟩:=p;rw [ef] at q;intro ws H1 fps1 f1 k1 g1 rep1 o1 t1;dsimp only [Rz.bind] at q;cases eo:op xs with
  | none=>rw [eo] at q;exact q.elim
  | some zc=>
   obtain ⟨z,c⟩:=zc;rw [eo] at q;refine leaf xs z c ws H1 fps1 f1 Q eo o1 t1.ndj (λ a h=>rep1.zdom h) λ u H3 fp k3 o3 hfp=>?_;have back:∀ a,H1 a=none->H a=none:=λ a e=>by
    cases e':H a with
    | none=>rfl
    | some o=>exact absurd e (k1.dom a (by rw [e'];simp))
   refine q u H3 fps1 fp (k1.trans (KD.grow k3)) g1 (rep1.grow k3) o3 ⟨λ a ha=>(hfp a ha).elim (t1.new a) (back a),λ a ha=>(hfp a ha).elim (t1.ndj a) λ z=>rep1.nz z⟩
def bT (f:Fx):Fb:=λ ρ=>(f ρ).bind λ (x,_,ρ1)=>match x with
 | .bl b=>.ok (b,ρ1)
 | _=>.no
theorem qea {σ:St}{H:Hp}{Q:Bool->Hp->Prop} (hq:tT M (bT f) σ H Q):tB (tE M f vs) σ H Q:=by
 obtain ⟨ρ,fps,rep,q⟩:=hq;refine ⟨ρ,fps,rep,?_⟩;unfold bT at q;cases ef:f ρ with
 | no=>rw [ef] at q;exact q
 | exc c=>rw [ef] at q;exact q
 | ok p=>
  obtain ⟨x,d,ρ1⟩:=p;rw [ef] at q;intro v H1 fps1 f1 k1 g1 rep1 o1 t1;dsimp only [Rz.bind] at q;cases x with
  | bl b=>
   rw [Own] at o1;exact ⟨b,o1.1,q H1 fps1 k1 g1 rep1⟩
  | _=>exact q.elim
def bAnd (f g:Fb):Fb:=λ ρ=>(f ρ).bind λ (b,ρ1)=>if b=true then g ρ1 else .ok (false,ρ1)
def bOr (f g:Fb):Fb:=λ ρ=>(f ρ).bind λ (b,ρ1)=>if b=true then .ok (true,ρ1) else g ρ1
def bNot (f:Fb):Fb:=λ ρ=>(f ρ).bind λ (b,ρ1)=>.ok (!b,ρ1)
theorem qnz {σ:St}{H:Hp}{Q:Bool->Hp->Prop} (hq:tT M (bAnd fb gb) σ H Q):tAnd (tT M fb) (tT M gb) σ H Q:=by
 obtain ⟨ρ,fps,rep,q⟩:=hq;refine ⟨ρ,fps,rep,?_⟩;unfold bAnd at q;cases ef:fb ρ with
 | no=>rw [ef] at q;exact q
 | exc c=>rw [ef] at q;exact q
 | ok p=>
  obtain ⟨b,ρ1⟩:=p;rw [ef] at q;intro H1 fps1 k1 g1 rep1;dsimp only [Rz.bind] at q;cases b with
  | false=>exact (q H1 fps1 k1 g1 rep1)
  | true=>
   refine ⟨ρ1,fps1,rep1,?_⟩;rw [if_pos rfl] at q;cases eg:gb ρ1 with
   | no=>rw [eg] at q;exact q
   | exc c=>rw [eg] at q;exact λ H' fps' k=>q H' fps' (k1.trans k)
   | ok p2=>rw [eg] at q;exact λ H' fps' k g r=>q H' fps' (k1.trans k) (g1.trans g) r
theorem qqx {σ:St}{H:Hp}{Q:Bool->Hp->Prop} (hq:tT M (bOr fb gb) σ H Q):tOr (tT M fb) (tT M gb) σ H Q:=by
 obtain ⟨ρ,fps,rep,q⟩:=hq;refine ⟨ρ,fps,rep,?_⟩;unfold bOr at q;cases ef:fb ρ with
 | no=>rw [ef] at q;exact q
 | exc c=>rw [ef] at q;exact q
 | ok p=>
  obtain ⟨b,ρ1⟩:=p;rw [ef] at q;intro H1 fps1 k1 g1 rep1;dsimp only [Rz.bind] at q;cases b with
  | true=>exact (q H1 fps1 k1 g1 rep1)
  | false=>
   refine ⟨ρ1,fps1,rep1,?_⟩;rw [if_neg jb7] at q;cases eg:gb ρ1 with
   | no=>rw [eg] at q;exact q
   | exc c=>rw [eg] at q;exact λ H' fps' k=>q H' fps' (k1.trans k)
   | ok p2=>rw [eg] at q;exact λ H' fps' k g r=>q H' fps' (k1.trans k) (g1.trans g) r
theorem qnx {σ:St}{H:Hp}{Q:Bool->Hp->Prop} (hq:tT M (bNot fb) σ H Q):tNot (tT M fb) σ H Q:=by
 obtain ⟨ρ,fps,rep,q⟩:=hq;refine ⟨ρ,fps,rep,?_⟩;unfold bNot at q;cases ef:fb ρ with
 | no=>rw [ef] at q;exact q
 | exc c=>rw [ef] at q;exact q
 | ok p=>obtain ⟨b,ρ1⟩:=p;rw [ef] at q;exact q
theorem Tmps.all {K:Frag}{H:Hp}{Z:Addr->Prop}:∀ {xs:List (PV×Nat)}{ws:List V}{fp:List Addr},Tmps K H Z xs ws fp->(∀ p∈xs,p.2=om)->OwnL K H Z (xs.map (·.1)) om ws fp
 | [],_,_,h,_=>by rw [ji1,OwnL];exact h
 | (x,d)::xs,ws,fp,h,ha=>by
  obtain ⟨v,s,f1,f2,e1,e2,dj,h1,h2⟩:=h;have e:d=om:=ha (x,d) ja2;subst e;rw [jc2,OwnL];exact ⟨v,s,f1,f2,e1,e2,dj,Own.full x v f1 h1,h2.all λ p hp=>ha p (ja1 _ hp)⟩
theorem Tmps.cold {K:Frag}{H:Hp}{Z:Addr->Prop}:∀ {xs:List (PV×Nat)}{ws:List V}{fp:List Addr},Tmps K H Z xs ws fp->(∀ a∈fp,¬ Z a)->OwnL K H Z (xs.map (·.1)) 0 ws []
 | [],_,_,h,_=>by rw [ji1,OwnL];exact ⟨h.1,rfl⟩
 | (x,d)::xs,ws,fp,h,ha=>by
  obtain ⟨v,s,f1,f2,e1,e2,dj,h1,h2⟩:=h;rw [jc2,OwnL];exact ⟨v,s,[],[],e1,rfl,λ _ z=>(nomatch z),Own.freeze (λ _ z=>.inl z) x d v f1 (λ a z=>ha a (by rw [e2];exact ja8 _ z)) h1,h2.cold λ a z=>ha a (by rw [e2];exact ja5 _ z)⟩
theorem Tmps.length {K:Frag}{H:Hp}{Z:Addr->Prop}:∀ {xs:List (PV×Nat)}{ws:List V}{fp:List Addr},Tmps K H Z xs ws fp->ws.length=xs.length
 | [],_,_,h=>by rw [h.1];rfl
 | (x,d)::xs,ws,fp,h=>by
  obtain ⟨v,s,f1,f2,e1,e2,dj,h1,h2⟩:=h;rw [e1,jb1,jb1,h2.length]
theorem OwnL.length {K:Frag}{H:Hp}{Z:Addr->Prop}:∀ {xs:List PV}{d:Nat}{ws:List V}{fp:List Addr},OwnL K H Z xs d ws fp->ws.length=xs.length
 | [],_,_,_,h=>by rw [OwnL] at h;rw [h.1];rfl
 | x::xs,d,ws,fp,h=>by
  rw [OwnL] at h;obtain ⟨v,s,f1,f2,e1,e2,dj,h1,h2⟩:=h;rw [e1,jb1,jb1,h2.length]
end
inductive Rs where
 | nx (ρ:Rho) | rt (x:PV) (d:Nat) (ρ:Rho) | bk (ρ:Rho) | ct (ρ:Rho) | exc (c:Nat) | no
abbrev Fs:=Rho->Rs
structure KS (M:Fm) (H:Hp) (fps:Fps) (H':Hp) (fps':Fps):Prop where
 keep:Keep (λ a=>∃ i,a∈fps i) H H'
 dom:∀ a,H a≠none->H' a≠none
 sub:∀ i,∀ a∈fps' i,(∃ j,a∈fps j)\/H a=none
def Zr (M:Fm) (fps:Fps):Addr->Prop:=λ a=>M.Zo a\/(M.io≠none/\a∈fps 0)
def RsOk (M:Fm) (D:Ends) (H:Hp) (fps:Fps):Rs->Prop
 | .nx ρ'=>∀ σ' H' fps',KS M H fps H' fps'->Rep M ρ' σ' H' fps'->D.nx σ' H'
 | .bk ρ'=>∀ σ' H' fps',KS M H fps H' fps'->Rep M ρ' σ' H' fps'->D.bk σ' H'
 | .ct ρ'=>∀ σ' H' fps',KS M H fps H' fps'->Rep M ρ' σ' H' fps'->D.ct σ' H'
 | .rt x d ρ'=>∀ v σ' H' fps' fp,KS M H fps H' fps'->Rep M ρ' σ' H' fps'->Own M.K H' (λ a=>Zr M fps' a\/a∈fp) x d v fp->(∀ a∈fp,M.H₀ a=none/\¬ Zr M fps' a)->D.rt v H'
 | .exc c=>∀ σ' H' fps',KS M H fps H' fps'->M.W σ' c H'
 | .no=>False
def tS (M:Fm) (f:Fs):TS:=λ D σ H=>∃ ρ fps,Rep M ρ σ H fps/\RsOk M D H fps (f ρ)
section
variable {M:Fm}{ρ ρ':Rho}{σ σ':St}{H H' H'':Hp}{fps fps' fps'':Fps}{vs vs':List Nat}
theorem KS.refl:KS M H fps H fps:=⟨λ _ _ h _=>h,λ _ h=>h,λ i _ h=>.inl ⟨i,h⟩⟩
theorem KD.ks (k:KD M H fps H' fps'):KS M H fps H' fps':=⟨λ a o h n=>k.keep a o h λ ⟨i,_,z⟩=>n ⟨i,z⟩,k.dom,λ i a h=>(k.sub i a h).elim (λ z=>.inl ⟨i,z⟩) .inr⟩
theorem KS.trans (a:KS M H fps H' fps') (b:KS M H' fps' H'' fps''):KS M H fps H'' fps'' where
 keep:=λ x o h n=>b.keep x o (a.keep x o h n) λ ⟨i,hx⟩=>(a.sub i x hx).elim (λ z=>n z) λ z=>by rw [z] at h;cases h
 dom:=λ x h=>b.dom x (a.dom x h)
 sub:=λ i x hx=>(b.sub i x hx).elim (λ ⟨j,z⟩=>a.sub j x z) λ z=>.inr (by
  cases e:H x with
  | none=>rfl
  | some o=>exact absurd z (a.dom x (by rw [e];simp)))
theorem KS.stay0 (k:KS M H fps H' fps') (r:Rep M ρ σ H fps) {x:PV}{v:V} (h:Own M.K H (Zf M fps) x 0 v []):Own M.K H' (Zf M fps') x 0 v []:=by
 refine Own.move k.keep (λ a ⟨i,ha⟩=>⟨.inr ⟨i,ha⟩,r.lsts ha⟩) ?_ x 0 v [] (λ _ z=>nomatch z) h;intro a hd nz z;rcases z with z | ⟨i,hx⟩
 ·exact nz (.inl z)
 ·rcases k.sub i a hx with z | z
  ·exact nz (.inr z)
  ·exact hd z
def sNil:Fs:=λ ρ=>.nx ρ
def sSeq (f g:Fs):Fs:=λ ρ=>match f ρ with
 | .nx ρ1=>g ρ1
 | r=>r
theorem qn3 {D:Ends} (hq:tS M sNil D σ H):qn9 D σ H:=by
 obtain ⟨ρ,fps,rep,q⟩:=hq;exact q σ H fps KS.refl rep
def sIf (c:Fb) (f g:Fs):Fs:=λ ρ=>match c ρ with
 | .ok (b,ρ1)=>if b=true then f ρ1 else g ρ1
 | .exc e=>.exc e
 | .no=>.no
theorem RsOk.from {D:Ends}{r:Rs} (k1:KS M H fps H' fps') (q:RsOk M D H fps r):RsOk M D H' fps' r:=by
 cases r with
 | no=>exact q
 | exc c=>exact λ σ' H' fps' k=>q σ' H' fps' (k1.trans k)
 | rt x d ρ2=>exact λ v σ' H' fps' fp k=>q v σ' H' fps' fp (k1.trans k)
 | bk ρ2=>exact λ σ' H' fps' k=>q σ' H' fps' (k1.trans k)
 | ct ρ2=>exact λ σ' H' fps' k=>q σ' H' fps' (k1.trans k)
 | nx ρ2=>exact λ σ' H' fps' k=>q σ' H' fps' (k1.trans k)
theorem qn1 {f g:Fs}{D:Ends} (hq:tS M (sSeq f g) D σ H):tSeq (tS M f) (tS M g) D σ H:=by
 obtain ⟨ρ,fps,rep,q⟩:=hq;refine ⟨ρ,fps,rep,?_⟩;unfold sSeq at q;cases ef:f ρ with
 | no=>rw [ef] at q;exact q
 | exc c=>rw [ef] at q;exact q
 | rt x d ρ1=>rw [ef] at q;exact q
 | bk ρ1=>rw [ef] at q;exact q
 | ct ρ1=>rw [ef] at q;exact q
 | nx ρ1=>
  rw [ef] at q;exact λ σ1 H1 fps1 k1 rep1=>⟨ρ1,fps1,rep1,RsOk.from k1 q⟩
theorem qqy {c:Fb}{f g:Fs}{D:Ends} (hq:tS M (sIf c f g) D σ H):tIfS (tT M c) (tS M f) (tS M g) D σ H:=by
 obtain ⟨ρ,fps,rep,q⟩:=hq;refine ⟨ρ,fps,rep,?_⟩;unfold sIf at q;cases ef:c ρ with
 | no=>rw [ef] at q;exact q
 | exc c=>rw [ef] at q;exact λ H' fps' k=>q _ H' fps' k.ks
 | ok p=>
  obtain ⟨b,ρ1⟩:=p;rw [ef] at q;intro H1 fps1 k1 g1 rep1;dsimp only at q;cases b with
  | true=>
   rw [if_pos rfl] at q ⊢;exact ⟨ρ1,fps1,rep1,RsOk.from k1.ks q⟩
  | false=>
   rw [if_neg jb7] at q ⊢;exact ⟨ρ1,fps1,rep1,RsOk.from k1.ks q⟩
def cool (vs:List Nat):Nat->Rho->Rho
 | _,[]=>[]
 | k,s::r=>(if vs.contains k then s.map λ p=>(p.1,0) else s)::cool vs (k + 1) r
def zqo (d:Nat) (vs:List Nat) (ρ:Rho):Rho:=if d=om then ρ else cool vs 0 ρ
theorem zyn (vs:List Nat):∀ (ρ:Rho) (k i:Nat),(cool vs k ρ)[i]?=(ρ[i]?).map λ s=>if vs.contains (k + i) then s.map λ p=>(p.1,0) else s
 | [],k,i=>by simp [cool]
 | s::r,k,0=>by simp [cool]
 | s::r,k,i + 1=>by
  rw [cool,je6,zyn vs r (k + 1) i,je6]
  have:k + 1 + i=k + (i + 1):=by omega
  rw [this]
theorem zjv (vs:List Nat):∀ (ρ:Rho) (k:Nat),(cool vs k ρ).length=ρ.length
 | [],_=>rfl
 | s::r,k=>by rw [cool,jb1,zjv vs r (k + 1),jb1]
def zkw (vs:List Nat) (fps:Fps):Fps:=λ i=>if vs.contains i then [] else fps i
theorem zwd {a:Addr}{i:Nat} (h:a∈zkw vs fps i):a∈fps i/\i∉vs:=by
 unfold zkw at h;split at h
 ·cases h
 ·rename_i n;exact ⟨h,λ z=>n (by simpa using z)⟩
theorem zvy {a:Addr} (h:Zf M (zkw vs fps) a):Zv M vs fps a:=h.elim .inl λ ⟨i,z⟩=>.inr ⟨i,(zwd z).2,(zwd z).1⟩
theorem Rep.cool (r:Rep M ρ σ H fps) (hal:∀ i,M.al i=[]) (hv:∀ i∈vs,M.Ms i=false):Rep M (cool vs 0 ρ) σ H (zkw vs fps) where
 own:=λ i x d e=>by
  rw [zyn] at e;cases e1:ρ[i]? with
  | none=>rw [e1] at e;cases e
  | some s=>
   rw [e1] at e;simp only [jj3,jl5] at e;by_cases hc:vs.contains i=true
   ·rw [if_pos hc] at e;cases s with
    | none=>cases e
    | some p=>
     obtain ⟨x0,d0⟩:=p;simp only [jj3,Option.some.injEq,Prod.mk.injEq] at e;obtain ⟨rfl,rfl⟩:=e;obtain ⟨v,hσ,o⟩:=r.own0 hal i x0 d0 e1;refine ⟨v,hσ,Own.weak (Z:=Zf M (zkw vs fps)) (λ a h=>h.zf) ?_⟩
     have:zkw vs fps i=[]:=by unfold zkw;rw [if_pos hc]
     rw [this];exact Own.freeze (λ a h=>Zv.zf (zvy h)) x0 d0 v _ (λ a ha z=>by
      rcases z with z | ⟨j,z⟩
      ·exact r.zo i a ha z
      ·obtain ⟨z1,z2⟩:=zwd z;exact r.dj i j (λ e=>z2 (by rw [<- e];simpa using hc)) a ha z1) o
   ·rw [if_neg hc] at e;cases e;obtain ⟨v,hσ,o⟩:=r.own0 hal i x d e1;refine ⟨v,hσ,Own.weak (Z:=Zf M (zkw vs fps)) (λ a h=>h.zf) ?_⟩
    have:zkw vs fps i=fps i:=by unfold zkw;rw [if_neg hc]
    rw [this];exact o.weak λ a h=>Zv.zf (zvy h)
 non:=λ i h=>by
  unfold zkw;split
  ·rfl
  ·rename_i hc;refine r.non i λ p e=>h p ?_;rw [zyn,e];simp only [jj3,jl5];rw [if_neg hc]
 dj:=λ i j hij a ha hb=>r.dj i j hij a (zwd ha).1 (zwd hb).1
 zo:=λ i a ha=>r.zo i a (zwd ha).1
 fr:=λ i hi a ha=>r.fr i hi a (zwd ha).1
 zd:=r.zd
 len:=by rw [zjv];exact r.len
 msf:=λ i x d hi e=>by
  rw [zyn] at e;cases e1:ρ[i]? with
  | none=>rw [e1] at e;cases e
  | some s=>
   rw [e1] at e;simp only [jj3,jl5] at e;have hc:¬ vs.contains i=true:=λ z=>by rw [hv i (by simpa using z)] at hi;cases hi
   rw [if_neg hc] at e;cases e;exact r.msf i x d hi e1
 h0:=r.h0
 iov:=r.iov
theorem KS.cool (k:KS M H fps H' fps'):KS M H fps H' (zkw vs fps'):=⟨k.keep,k.dom,λ i a h=>k.sub i a (zwd h).1⟩
theorem Rep.wide {fp:List Addr} (hal:∀ i,∀ j∈M.al i,M.Ms j=false) (r:Rep M ρ σ H fps) (k:KD M H fps H' fps') (g:Agr M ρ ρ') (r':Rep M ρ' σ H' fps') (hf:∀ a∈fp,H a=none/\H' a≠none/\¬ Zf M fps' a):Rep (M.plus fp) ρ' σ H' fps' where
 own:=λ i x d e=>by
  by_cases hm:M.Ms i=true
  ·obtain ⟨v,hv,o⟩:=r'.own i x d e;have hd:=r'.msf i x d hm e;subst hd;exact ⟨v,hv,Own.full x v _ o⟩
  ·have hm':M.Ms i=false:=by simpa using hm
   rw [g.1 i hm'] at e;obtain ⟨v,hv,o⟩:=r.own i x d e;refine ⟨v,hv,?_⟩;rw [k.same i hm'];refine Own.move k.keep (λ a ⟨j,hj,ha⟩=>⟨.inr ⟨j,λ z=>(by rw [hal i j z] at hj;cases hj),ha⟩,r.lsts ha⟩) ?_ x d v _ ?_ o
   ·intro a hd nz z;rcases z with (z | z) | ⟨j,nj,z⟩
    ·exact nz (.inl z)
    ·exact hd (hf a z).1
    ·rcases k.sub j a z with z | z
     ·exact nz (.inr ⟨j,nj,z⟩)
     ·exact hd z
   ·rintro a ha ⟨j,hj,hx⟩;exact r.dj i j (λ e=>by rw [e,hj] at hm';cases hm') a ha hx
 non:=r'.non
 dj:=r'.dj
 zo:=λ i a ha z=>z.elim (r'.zo i a ha) λ z=>(hf a z).2.2 (.inr ⟨i,ha⟩)
 fr:=r'.fr
 zd:=λ a z=>z.elim (r'.zd a) λ z=>(hf a z).2.1
 len:=r'.len
 msf:=r'.msf
 h0:=r'.h0
 iov:=r'.iov
theorem Rep.put {i:Nat}{x:PV}{d:Nat}{v:V}{fp:List Addr} (r:Rep (M.plus fp) ρ σ H fps) (h:Own M.K H (λ a=>Za M fps i a\/a∈fp) x d v fp) (hf:∀ a∈fp,M.H₀ a=none/\¬ M.Zo a) (hi:i < ρ.length) (hm:M.Ms i=true->d=om) (hio:M.Fre i):
  Rep M (ρ.set i (some (x,d))) (σ.set i (some v)) H (λ j=>if j=i then fp else fps j):=by
 have zz:∀ a,Zf M (λ j=>if j=i then fp else fps j) a->Zf M fps a\/a∈fp:=λ a h=>by
  rcases h with z | ⟨j,z⟩
  ·exact .inl (.inl z)
  ·by_cases e:j=i
   ·simp only [if_pos e] at z;exact .inr z
   ·simp only [if_neg e] at z;exact .inl (.inr ⟨j,z⟩)
 have zz2:∀ a,Zf M fps a\/a∈fp->Zf (M.plus fp) fps a:=λ a h=>h.elim (λ h=>h.elim (λ z=>.inl (.inl z)) λ z=>.inr z) λ z=>.inl (.inr z);refine ⟨λ j y e hj=>?_,λ j hj=>?_,λ j k hjk a ha hb=>?_,λ j a ha z=>?_,λ j hj a ha=>?_,λ a z=>r.zd a (.inl z),?_,λ j y e hj he=>?_,r.h0,?_⟩
 ·by_cases e:j=i
  ·subst e;rw [jc5 hi] at hj;cases hj;refine ⟨v,by rw [jc5 (by rw [<- r.len];exact hi)],?_⟩;rw [if_pos rfl];refine h.weak λ a h=>?_;rcases h with z | ⟨k,nk,z⟩
   ·exact .inl (.inl z)
   ·by_cases ek:k=j
    ·simp only [if_pos ek] at z;exact .inr z
    ·simp only [if_neg ek] at z;exact .inl (.inr ⟨k,nk,z⟩)
  ·rw [jc4 (vb9 e)] at hj;obtain ⟨w,hw,o⟩:=r.own j y _ hj;refine ⟨w,by rw [jc4 (vb9 e)];exact hw,?_⟩;rw [if_neg e];refine o.weak λ a h=>?_;rcases h with z | ⟨k,nk,z⟩
   ·exact .inl (.inl z)
   ·by_cases ek:k=i
    ·simp only [if_pos ek] at z;exact .inl (.inr z)
    ·simp only [if_neg ek] at z;exact .inr ⟨k,nk,z⟩
 ·by_cases e:j=i
  ·subst e;exact absurd (jc5 hi) (hj _)
  ·rw [if_neg e];exact r.non j λ p hp=>hj p (by rw [jc4 (vb9 e)];exact hp)
 ·by_cases e1:j=i
  ·by_cases e2:k=i
   ·exact hjk (e1.trans e2.symm)
   ·rw [if_pos e1] at ha;rw [if_neg e2] at hb;exact r.zo k a hb (.inr ha)
  ·rw [if_neg e1] at ha;by_cases e2:k=i
   ·rw [if_pos e2] at hb;exact r.zo j a ha (.inr hb)
   ·rw [if_neg e2] at hb;exact r.dj j k hjk a ha hb
 ·by_cases e:j=i
  ·rw [if_pos e] at ha;exact (hf a ha).2 z
  ·rw [if_neg e] at ha;exact r.zo j a ha (.inl z)
 ·by_cases e:j=i
  ·rw [if_pos e] at ha;exact (hf a ha).1
  ·rw [if_neg e] at ha;exact r.fr j hj a ha
 ·rw [je0,je0];exact r.len
 ·by_cases e:j=i
  ·subst e;rw [jc5 hi] at he;cases he;exact hm hj
  ·rw [jc4 (vb9 e)] at he;exact r.msf j y _ hj he
 ·refine ⟨λ w hw=>?_,λ p hp=>?_⟩
  ·have h0:i≠0:=hio.1 (by rw [hw];simp);rw [jc4 h0];exact r.iov.1 w hw
  ·rw [jc4 (hio.2 p hp).symm];exact r.iov.2 p hp
def sSet (ms:Bool) (i:Nat) (f:Fx) (vs:List Nat):Fs:=λ ρ=>match f ρ with
 | .ok (x,d,ρ1)=>if i < ρ1.length/\(ms=true->d=om) then .nx ((zqo d vs ρ1).set i (some (x,d))) else .no
 | .exc c=>.exc c
 | .no=>.no
theorem Rep.store {i:Nat}{x:PV}{d:Nat}{v:V}{fp:List Addr} (rep:Rep M ρ σ H fps) (k:KD M H fps H' fps') (g:Agr M ρ ρ') (r':Rep M ρ' σ H' fps') (o:Own M.K H' (Zt M vs fps' fp) x d v fp) (t:Temp M vs H H' fps' fp)
  (hal:∀ i,M.al i=[]) (hv:∀ i∈vs,M.Ms i=false) (hi:i < ρ'.length) (hm:M.Ms i=true->d=om) (hio:M.Fre i):
  ∃ fps2,KS M H fps H' fps2/\Rep M ((zqo d vs ρ').set i (some (x,d))) (σ.set i (some v)) H' fps2:=by
 have back:∀ a,H a=none->M.H₀ a=none:=λ a e=>by
  cases e':M.H₀ a with
  | none=>rfl
  | some o=>exact absurd e (rep.h0 a (by rw [e'];simp))
 have w:Rep (M.plus fp) ρ' σ H' fps':=rep.wide (λ i j hj=>by rw [hal i] at hj;cases hj) k g r' λ a ha=>⟨t.new a ha,by obtain ⟨xs,e⟩:=Own.lsts x d v fp o a ha;rw [e];simp,t.ndj a ha⟩
 have hf:∀ a∈fp,M.H₀ a=none/\¬ M.Zo a:=λ a ha=>⟨back a (t.new a ha),λ z=>t.ndj a ha (.inl z)⟩
 have ks2:∀ {fps2:Fps},(∀ i a,a∈fps2 i->a∈fps' i)->KS M H fps H' (λ j=>if j=i then fp else fps2 j):=λ {fps2} h2=>⟨k.ks.keep,k.dom,λ j a ha=>by
  by_cases e:j=i
  ·simp only [if_pos e] at ha;exact .inr (t.new a ha)
  ·simp only [if_neg e] at ha;exact k.ks.sub j a (h2 j a ha)⟩
 unfold zqo;by_cases hd:d=om
 ·rw [if_pos hd];refine ⟨_,ks2 λ _ _ h=>h,w.put (i:=i) (x:=x) (d:=d) (v:=v) ?_ hf hi hm hio⟩;rw [hd] at o ⊢;exact Own.full x v fp o
 ·rw [if_neg hd];refine ⟨_,ks2 λ _ _ h=>(zwd h).1,(w.cool (vs:=vs) hal hv).put (i:=i) (x:=x) (d:=d) (v:=v) ?_ hf (by rw [zjv];exact hi) hm hio⟩;exact o.weak λ a h=>h.elim (λ h=>.inl (zvy h.zf)) .inr
theorem qjx {f:Fx}{i:Nat}{ms:Bool}{D:Ends} (hal:∀ i,M.al i=[]) (hv:∀ i∈vs,M.Ms i=false) (hms:M.Ms i=ms) (hio:M.Fre i) (hq:tS M (sSet ms i f vs) D σ H):tAsg (tE M f vs) (zjk i) D σ H:=by
 obtain ⟨ρ,fps,rep,q⟩:=hq;refine ⟨ρ,fps,rep,?_⟩;unfold sSet at q;cases ef:f ρ with
 | no=>rw [ef] at q;exact q
 | exc c=>rw [ef] at q;exact λ H' fps' k=>q _ H' fps' k.ks
 | ok p=>
  obtain ⟨x,d,ρ1⟩:=p;rw [ef] at q;intro v H1 fps1 f1 k1 g1 rep1 o1 t1;dsimp only at q;by_cases hc:i < ρ1.length/\(ms=true->d=om)
  ·rw [if_pos hc] at q;obtain ⟨fps2,k2,r2⟩:=Rep.store rep k1 g1 rep1 o1 t1 hal hv hc.1 (λ h=>hc.2 (by rw [<- hms];exact h)) hio;exact q _ _ _ k2 r2
  ·rw [if_neg hc] at q;exact q.elim
end
section
variable {M:Fm}{ρ ρ':Rho}{σ σ':St}{H H' H'':Hp}{fps fps' fps'':Fps}{vs vs':List Nat}
theorem Zr.zf {a:Addr} (h:Zr M fps a):Zf M fps a:=h.elim .inl λ h=>.inr ⟨0,h.2⟩
theorem Rep.zr (r:Rep M ρ σ H fps) (hv:∀ i∈vs,M.Ms i=false) {a:Addr} (h:Zr M fps a):Zv M vs fps a:=by
 rcases h with h | ⟨h1,h2⟩
 ·exact .inl h
 ·refine .inr ⟨0,λ z=>?_,h2⟩;cases e:M.io with
  | none=>exact h1 e
  | some v=>have:=(r.iov.1 v e).2;rw [hv 0 z] at this;cases this
theorem Rep.h0' (r:Rep M ρ σ H fps) {a:Addr} (e:H a=none):M.H₀ a=none:=by
 cases e':M.H₀ a with
 | none=>rfl
 | some o=>exact absurd e (r.h0 a (by rw [e'];simp))
def sRet (f:Fx):Fs:=λ ρ=>match f ρ with
 | .ok (x,d,ρ1)=>.rt x d ρ1
 | .exc c=>.exc c
 | .no=>.no
theorem qjy {f:Fx}{D:Ends} (hv:∀ i∈vs,M.Ms i=false) (hq:tS M (sRet f) D σ H):tRet (tE M f vs) D σ H:=by
 obtain ⟨ρ,fps,rep,q⟩:=hq;refine ⟨ρ,fps,rep,?_⟩;unfold sRet at q;cases ef:f ρ with
 | no=>rw [ef] at q;exact q
 | exc c=>rw [ef] at q;exact λ H' fps' k=>q _ H' fps' k.ks
 | ok p=>
  obtain ⟨x,d,ρ1⟩:=p;rw [ef] at q;intro v H1 fps1 f1 k1 g1 rep1 o1 t1;exact q v σ H1 fps1 f1 k1.ks rep1 (o1.weak λ a h=>h.elim (λ h=>.inl (rep1.zr hv h)) .inr) λ a ha=>⟨rep.h0' (t1.new a ha),λ z=>t1.ndj a ha z.zf⟩
def zjh (i:Nat):Fs:=λ ρ=>match ρ[i]? with
 | some (some (x,d))=>.rt x d ρ
 | _=>.no
theorem qk2 {i:Nat}{D:Ends} (hal:∀ i,M.al i=[]) (hm:M.Ms i=false) (hq:tS M (zjh i) D σ H):tRet (tVar i) D σ H:=by
 obtain ⟨ρ,fps,rep,q⟩:=hq;unfold zjh at q;cases e0:ρ[i]? with
 | none=>rw [e0] at q;exact q.elim
 | some sl=>
  cases sl with
  | none=>rw [e0] at q;exact q.elim
  | some p=>
   obtain ⟨x,d⟩:=p;rw [e0] at q;obtain ⟨v,hv,o⟩:=rep.own0 hal i x d e0;refine ⟨v,hv,q v σ H fps (fps i) KS.refl rep (o.weak λ a h=>h.elim Zr.zf λ z=>.inr ⟨i,z⟩) λ a ha=>⟨rep.fr i hm a ha,λ z=>?_⟩⟩;rcases z with z | ⟨z1,z2⟩
   ·exact rep.zo i a ha z
   ·cases e:M.io with
    | none=>exact z1 e
    | some w=>exact rep.dj i 0 (λ e'=>by rw [e',(rep.iov.1 w e).2] at hm;cases hm) a ha z2
def zzm (f:Fx):Fs:=λ ρ=>match f ρ with
 | .ok (_,_,ρ1)=>.nx ρ1
 | .exc c=>.exc c
 | .no=>.no
theorem qk6 {f:Fx}{D:Ends} (hq:tS M (zzm f) D σ H):qh1 (tE M f vs) D σ H:=by
 obtain ⟨ρ,fps,rep,q⟩:=hq;refine ⟨ρ,fps,rep,?_⟩;unfold zzm at q;cases ef:f ρ with
 | no=>rw [ef] at q;exact q
 | exc c=>rw [ef] at q;exact λ H' fps' k=>q _ H' fps' k.ks
 | ok p=>
  obtain ⟨x,d,ρ1⟩:=p;rw [ef] at q;intro v H1 fps1 f1 k1 g1 rep1 o1 t1;exact q σ H1 fps1 k1.ks rep1
theorem OwnL.snoc {K:Frag}{Z:Addr->Prop}{y:PV}{d:Nat}{w:V}{fy:List Addr}:∀ {xs:List PV}{ws:List V}{f:List Addr},OwnL K H Z xs d ws f->Own K H Z y d w fy->(∀ a∈f,a∉fy)->OwnL K H Z (xs++[y]) d (ws++[w]) (f++fy)
 | [],ws,f,h,hy,_=>by
  rw [OwnL] at h;obtain ⟨rfl,rfl⟩:=h;show OwnL K H Z [y] d [w] fy;rw [OwnL];refine ⟨w,[],fy,[],rfl,by simp,λ _ _ z=>(nomatch z),hy,?_⟩;rw [OwnL];exact ⟨rfl,rfl⟩
 | x::xs,ws,f,h,hy,hd=>by
  rw [OwnL] at h;obtain ⟨v,s,f1,f2,rfl,rfl,dj,h1,h2⟩:=h;show OwnL K H Z (x::(xs++[y])) d (v::(s++[w])) (f1++f2++fy);rw [OwnL];refine ⟨v,s++[w],f1,f2++fy,rfl,by rw [jj9],λ a ha hb=>?_,h1,h2.snoc hy λ a ha=>hd a (ja5 _ ha)⟩;rcases jd0.mp hb with z | z
  ·exact dj a ha z
  ·exact hd a (ja8 _ ha) z
theorem Own.at {K:Frag}{Z Z':Addr->Prop}{a:Addr}{o:HO}{x:PV}{d:Nat}{v:V}{fp:List Addr} (h:Own K H Z x d v fp) (hZ:Z a) (hl:∃ o:MO,H a=some o.ho) (hf:a∉fp) (hz:∀ b,H b≠none->¬ Z b->¬ Z' b):Own K (upd H a o) Z' x d v fp:=
 Own.move (S:=λ b=>b=a) (λ b u hb n=>by rw [zqf n];exact hb) (λ b e=>by rw [e];exact ⟨hZ,hl⟩) hz x d v fp (λ b hb e=>hf (by rw [<- e];exact hb)) h
theorem OwnL.at {K:Frag}{Z Z':Addr->Prop}{a:Addr}{o:HO}{x:List PV}{d:Nat}{v:List V}{fp:List Addr} (h:OwnL K H Z x d v fp) (hZ:Z a) (hl:∃ o:MO,H a=some o.ho) (hf:a∉fp) (hz:∀ b,H b≠none->¬ Z b->¬ Z' b):OwnL K (upd H a o) Z' x d v fp:=
 OwnL.move (S:=λ b=>b=a) (λ b u hb n=>by rw [zqf n];exact hb) (λ b e=>by rw [e];exact ⟨hZ,hl⟩) hz x d v fp (λ b hb e=>hf (by rw [<- e];exact hb)) h
theorem Rep.rewrite {i:Nat}{xs:List PV}{d:Nat}{a:Addr}{ws:List V}{zs:List PV}{us:List V}{e:Nat}{f f' fp:List Addr} (hal:∀ i,M.al i=[]) (r:Rep (M.plus fp) ρ σ H fps) (hi:ρ[i]?=some (some (.lst xs,d))) (hσ:σ[i]?=some (some (.ref a)))
  (ha:H a=some (.lst ws)) (hfp:fps i=a::f) (hn:a∉f') (hsub:∀ b∈f',b∈f\/b∈fp) (he:e≠0) (hm:M.Ms i=true->e=om) (hH:∀ b∈fp,M.H₀ b=none/\¬ M.Zo b)
  (hnew:OwnL M.K (upd H a (.lst us)) (Zf M (λ j=>if j=i then a::f' else fps j)) zs (pd e) us f'):
  Rep M (ρ.set i (some (.lst zs,e))) σ (upd H a (.lst us)) (λ j=>if j=i then a::f' else fps j):=by
 have hlen:i < ρ.length:=(jb2.mp hi).1;have hai:a∈fps i:=by rw [hfp];exact ja2
 have zz:∀ b,Zf M (λ j=>if j=i then a::f' else fps j) b->Zf (M.plus fp) fps b:=λ b h=>by
  rcases h with z | ⟨j,z⟩
  ·exact .inl (.inl z)
  ·by_cases ej:j=i
   ·simp only [if_pos ej] at z;rcases jc0.mp z with z | z
    ·exact .inr ⟨i,by rw [z];exact hai⟩
    ·rcases hsub b z with z | z
     ·exact .inr ⟨i,by rw [hfp];exact ja1 _ z⟩
     ·exact .inl (.inr z)
   ·simp only [if_neg ej] at z;exact .inr ⟨j,z⟩
 have dm:∀ b,H b≠none->(upd H a (.lst us)) b≠none:=λ b h=>by
  by_cases eb:b=a
  ·rw [eb,zqe];simp
  ·rw [zqf eb];exact h
 have inI:∀ b,b∈a::f'->b∈fps i\/b∈fp:=λ b hb=>by
  rcases jc0.mp hb with z | z
  ·exact .inl (by rw [z];exact hai)
  ·rcases hsub b z with z | z
   ·exact .inl (by rw [hfp];exact ja1 _ z)
   ·exact .inr z
 refine ⟨λ j y c hj=>?_,λ j hj=>?_,λ j k hjk b hb hc=>?_,λ j b hb z=>?_,λ j hj b hb=>?_,λ b z=>dm b (r.zd b (.inl z)),by rw [je0];exact r.len,λ j y c hj hc=>?_,λ b z=>dm b (r.h0 b z),r.iov⟩
 ·by_cases ej:j=i
  ·subst ej;rw [jc5 hlen] at hj;cases hj;refine ⟨_,hσ,?_⟩;rw [if_pos rfl,Own];exact ⟨a,us,rfl,.inr ⟨he,f',zqe,rfl,hn,hnew.weak λ _ h=>h.zf⟩⟩
  ·rw [jc4 (vb9 ej)] at hj;obtain ⟨w,hw,ow⟩:=r.own0 hal j y c hj;refine ⟨w,hw,?_⟩;rw [if_neg ej];exact ow.at (.inr ⟨i,hai⟩) ⟨.l ws,ha⟩ (λ z=>r.dj j i ej a z hai) λ b _ nz z=>nz (zz b z.zf)
 ·by_cases ej:j=i
  ·subst ej;exact absurd (jc5 hlen) (hj _)
  ·rw [if_neg ej];exact r.non j λ p hp=>hj p (by rw [jc4 (vb9 ej)];exact hp)
 ·have one:∀ k,k≠i->∀ b,b∈a::f'->b∈fps k->False:=λ k hk b h1 h2=>(inI b h1).elim (λ z=>r.dj i k (vb9 hk) b z h2) λ z=>r.zo k b h2 (.inr z);by_cases e1:j=i
  ·by_cases e2:k=i
   ·exact hjk (e1.trans e2.symm)
   ·rw [if_pos e1] at hb;rw [if_neg e2] at hc;exact one k e2 b hb hc
  ·rw [if_neg e1] at hb;by_cases e2:k=i
   ·rw [if_pos e2] at hc;exact one j e1 b hc hb
   ·rw [if_neg e2] at hc;exact r.dj j k hjk b hb hc
 ·by_cases ej:j=i
  ·rw [if_pos ej] at hb;rcases inI b hb with y | y
   ·exact r.zo i b y (.inl z)
   ·exact (hH b y).2 z
  ·rw [if_neg ej] at hb;exact r.zo j b hb (.inl z)
 ·by_cases ej:j=i
  ·rw [if_pos ej] at hb;rcases inI b hb with y | y
   ·exact r.fr i (by rw [<- ej];exact hj) b y
   ·exact (hH b y).1
  ·rw [if_neg ej] at hb;exact r.fr j hj b hb
 ·by_cases ej:j=i
  ·subst ej;rw [jc5 hlen] at hc;cases hc;exact hm hj
  ·rw [jc4 (vb9 ej)] at hc;exact r.msf j y c hj hc
end
section
variable {M:Fm}{ρ ρ':Rho}{σ σ':St}{H H' H'':Hp}{fps fps' fps'':Fps}{vs vs':List Nat}
theorem KS.write {a:Addr}{o:HO}{i:Nat}{f' fp:List Addr} (k:KS M H fps H' fps') (ha:∃ j,a∈fps j) (hs:∀ b∈a::f',b∈fps' i\/H b=none):
  KS M H fps (upd H' a o) (λ j=>if j=i then a::f' else fps' j) where
 keep:=λ b u hb n=>by rw [zqf (λ e=>n (by rw [e];exact ha))];exact k.keep b u hb n
 dom:=λ b hb=>by
  by_cases e:b=a
  ·rw [e,zqe];simp
  ·rw [zqf e];exact k.dom b hb
 sub:=λ j b hb=>by
  by_cases e:j=i
  ·simp only [if_pos e] at hb;rcases hs b hb with z | z
   ·exact k.sub i b z
   ·exact .inr z
  ·simp only [if_neg e] at hb;exact k.sub j b hb
theorem Rep.behind {x:PV}{d:Nat}{v:V}{fp:List Addr} (rep:Rep M ρ σ H fps) (k:KD M H fps H' fps') (g:Agr M ρ ρ') (r':Rep M ρ' σ H' fps') (o:Own M.K H' (Zt M vs fps' fp) x d v fp) (t:Temp M vs H H' fps' fp)
  (hal:∀ i,M.al i=[]) (hv:∀ i∈vs,M.Ms i=false):∃ fps2,KS M H fps H' fps2/\Rep (M.plus fp) (zqo d vs ρ') σ H' fps2/\Own M.K H' (λ a=>Zf M fps2 a\/a∈fp) x d v fp/\(∀ a∈fp,¬ Zf M fps2 a)/\(∀ i a,a∈fps2 i->a∈fps' i)/\(∀ a∈fp,M.H₀ a=none/\¬ M.Zo a):=by
 have w:Rep (M.plus fp) ρ' σ H' fps':=rep.wide (λ i j hj=>by rw [hal i] at hj;cases hj) k g r' λ a ha=>⟨t.new a ha,by obtain ⟨xs,e⟩:=Own.lsts x d v fp o a ha;rw [e];simp,t.ndj a ha⟩
 have hf:∀ a∈fp,M.H₀ a=none/\¬ M.Zo a:=λ a ha=>⟨rep.h0' (t.new a ha),λ z=>t.ndj a ha (.inl z)⟩
 unfold zqo;by_cases hd:d=om
 ·rw [if_pos hd];refine ⟨fps',k.ks,w,?_,t.ndj,λ _ _ h=>h,hf⟩;rw [hd] at o ⊢;exact Own.full x v fp o
 ·rw [if_neg hd];exact ⟨zkw vs fps',k.ks.cool,w.cool hal hv,o.weak λ a h=>h.elim (λ h=>.inl (zvy h)) .inr,λ a ha z=>t.ndj a ha (zvy z).zf,λ _ _ h=>(zwd h).1,hf⟩
def sApp (i:Nat) (f:Fx) (vs:List Nat):Fs:=λ ρ=>match ρ[i]? with
 | some (some (.lst _,0))=>.no
 | some (some (.lst _,_ + 1))=>(match f ρ with
  | .ok (y,e,ρ1)=>(match (zqo e vs ρ1)[i]? with
   | some (some (.lst xs,d))=>if d≠0/\xs.length < va5 then .nx ((zqo e vs ρ1).set i (some (.lst (xs++[y]),if d=om/\e=om then om else 1))) else .no
   | _=>.no)
  | .exc c=>.exc c
  | .no=>.no)
 | _=>.no
theorem zmi:pd 1=0:=by decide
theorem Own.list {K:Frag}{Z:Addr->Prop}{xs:List PV}{d:Nat}{v:V}{fp:List Addr} (h:Own K H Z (.lst xs) d v fp) (hd:d≠0):∃ a ws f,v=.ref a/\H a=some (.lst ws)/\fp=a::f/\a∉f/\OwnL K H Z xs (pd d) ws f:=by
 rw [Own] at h;obtain ⟨a,ws,e,⟨d0,_⟩ | ⟨_,f,h1,h2,h3,h4⟩⟩:=h
 ·exact absurd d0 hd
 ·exact ⟨a,ws,f,e,h1,h2,h3,h4⟩
theorem qn6 {f:Fx}{i:Nat}{D:Ends} (hal:∀ i,M.al i=[]) (hv:∀ i∈vs,M.Ms i=false) (hm:M.Ms i=false) (hq:tS M (sApp i f vs) D σ H):qh1 (tBM M.K "list" qe0 (tVar i) (qeh (tE M f vs) tNil)) D σ H:=by
 obtain ⟨ρ,fps,rep,q⟩:=hq;unfold sApp at q;split at q
 ·exact q.elim
 ·rename_i xs0 d0 e0;obtain ⟨v,hσ,o⟩:=rep.own0 hal i _ _ e0;obtain ⟨a,ws0,fc0,rfl,ha0,hfp0,_,_⟩:=o.list (jm6 _);refine ⟨_,hσ,qd2 (.inl (.inl ha0)),ρ,fps,rep,?_⟩;cases ef:f ρ with
  | no=>rw [ef] at q;exact q
  | exc c=>rw [ef] at q;exact λ H' fps' k=>q _ H' fps' k.ks
  | ok p=>
   obtain ⟨y,e,ρ1⟩:=p;rw [ef] at q;intro w H1 fps1 fp k1 g1 rep1 o1 t1;dsimp only at q;split at q
   ·rename_i xs d es;split at q
    ·rename_i hc;obtain ⟨fps2,k2,r2,o2,n2,s2,h2⟩:=Rep.behind rep k1 g1 rep1 o1 t1 hal hv;obtain ⟨v',hσ',ol⟩:=r2.own0 hal i _ _ es;rw [hσ] at hσ';cases hσ';obtain ⟨a',ws,fc,ev,ha,hfp,nac,hol⟩:=ol.list hc.1;cases ev;have hai:a∈fps2 i:=by rw [hfp];exact ja2
     have hafp:a∉fp:=λ z=>n2 a z (.inr ⟨i,hai⟩);have hst:∃ j,a∈fps j:=⟨i,by have:=s2 i a hai;rw [k1.same i hm] at this;exact this⟩
     refine ⟨a,ws,w,rfl,rfl,ha,by rw [hol.length];exact hc.2,?_⟩;by_cases ho:d=om/\e=om
     ·rw [if_pos ho] at q;obtain ⟨rfl,rfl⟩:=ho;refine q σ _ _ (k2.write (i:=i) (f':=fc++fp) (fp:=fp) hst λ b hb=>?_) (r2.rewrite hal es hσ ha hfp (λ z=>(jd0.mp z).elim nac hafp) (λ b hb=>jd0.mp hb) (by decide) (λ _=>rfl) h2 ?_)
      ·rcases jc0.mp hb with z | z
       ·exact .inl (by rw [z];exact hai)
       ·rcases jd0.mp z with z | z
        ·exact .inl (by rw [hfp];exact ja1 _ z)
        ·exact .inr (t1.new b z)
      ·have u1:OwnL M.K (upd H1 a (.lst (ws++[w]))) (λ _=>True) xs om ws fc:=(OwnL.full (Z':=λ _=>True) xs ws fc hol).at trivial ⟨.l ws,ha⟩ nac λ _ _ n=>absurd trivial n;have u2:Own M.K (upd H1 a (.lst (ws++[w]))) (λ _=>True) y om w fp:=(Own.full (Z':=λ _=>True) y w fp o2).at trivial ⟨.l ws,ha⟩ hafp λ _ _ n=>absurd trivial n;exact OwnL.full _ _ _ (u1.snoc u2 λ b hb z=>n2 b z (.inr ⟨i,by rw [hfp];exact ja1 _ hb⟩))
     ·rw [if_neg ho] at q;refine q σ _ _ (k2.write (i:=i) (f':=[]) (fp:=fp) hst λ b hb=>?_) (r2.rewrite hal es hσ ha hfp (λ z=>nomatch z) (λ b hb=>nomatch hb) (by decide) (λ h=>by rw [hm] at h;cases h) h2 ?_)
      ·rcases jc0.mp hb with z | z
       ·exact .inl (by rw [z];exact hai)
       ·cases z
      ·rw [zmi];have zsub:∀ b,Zf M (λ j=>if j=i then [a] else fps2 j) b->Zf (M.plus fp) fps2 b:=λ b h=>by
        rcases h with z | ⟨j,z⟩
        ·exact .inl (.inl z)
        ·by_cases ej:j=i
         ·simp only [if_pos ej] at z;rw [jb4.mp z];exact .inr ⟨i,hai⟩
         ·simp only [if_neg ej] at z;exact .inr ⟨j,z⟩
       have nf:∀ b∈fc,¬ Zf M (λ j=>if j=i then [a] else fps2 j) b:=λ b hb z=>by
        have hbi:b∈fps2 i:=by rw [hfp];exact ja1 _ hb
        rcases z with z | ⟨j,z⟩
        ·exact r2.zo i b hbi (.inl z)
        ·by_cases ej:j=i
         ·simp only [if_pos ej] at z;rw [jb4.mp z] at hb;exact nac hb
         ·simp only [if_neg ej] at z;exact r2.dj i j (vb9 ej) b hbi z
       have nfp:∀ b∈fp,¬ Zf M (λ j=>if j=i then [a] else fps2 j) b:=λ b hb z=>by
        rcases z with z | ⟨j,z⟩
        ·exact n2 b hb (.inl z)
        ·by_cases ej:j=i
         ·simp only [if_pos ej] at z;rw [jb4.mp z] at hb;exact hafp hb
         ·simp only [if_neg ej] at z;exact n2 b hb (.inr ⟨j,z⟩)
       have za:Zf M (λ j=>if j=i then [a] else fps2 j) a:=.inr ⟨i,by simp⟩;have u1:=(OwnL.freeze (Z':=Zf M (λ j=>if j=i then [a] else fps2 j)) zsub xs _ ws fc nf hol)
       have u2:=(Own.freeze (Z':=Zf M (λ j=>if j=i then [a] else fps2 j)) (λ b h=>by
        rcases h with z | ⟨j,z⟩
        ·exact .inl (.inl z)
        ·by_cases ej:j=i
         ·simp only [if_pos ej] at z;rw [jb4.mp z];exact .inl (.inr ⟨i,hai⟩)
         ·simp only [if_neg ej] at z;exact .inl (.inr ⟨j,z⟩)) y _ w fp nfp o2)
       exact (u1.at za ⟨.l ws,ha⟩ (λ z=>nomatch z) λ _ _ n=>n).snoc (u2.at za ⟨.l ws,ha⟩ (λ z=>nomatch z) λ _ _ n=>n) λ _ z=>nomatch z
    ·exact q.elim
   ·exact q.elim
 ·exact q.elim
def qai:PV->Bool
 | .lst _=>false
 | .tup _=>false
 | .dct _=>false
 | .dcl _ _=>false
 | _=>true
theorem OwnL.set {K:Frag}{Z:Addr->Prop}{y:PV}{d:Nat}{w:V} (hy:Own K H Z y d w []):∀ {xs:List PV}{ws:List V}{f:List Addr} (k:Nat),OwnL K H Z xs d ws f->∃ f',(∀ b∈f',b∈f)/\OwnL K H Z (xs.set k y) d (ws.set k w) f'
 | [],ws,f,k,h=>by
  rw [OwnL] at h;obtain ⟨rfl,rfl⟩:=h;refine ⟨[],λ _ z=>z,?_⟩;rw [jr1,jr1,OwnL];exact ⟨rfl,rfl⟩
 | x::xs,ws,f,0,h=>by
  rw [OwnL] at h;obtain ⟨v,s,f1,f2,rfl,rfl,dj,h1,h2⟩:=h;refine ⟨f2,λ b hb=>ja5 _ hb,?_⟩;rw [jo3,jo3,OwnL];exact ⟨w,s,[],f2,rfl,rfl,λ _ z=>(nomatch z),hy,h2⟩
 | x::xs,ws,f,k + 1,h=>by
  rw [OwnL] at h;obtain ⟨v,s,f1,f2,rfl,rfl,dj,h1,h2⟩:=h;obtain ⟨f',hs,h'⟩:=h2.set hy k;refine ⟨f1++f',λ b hb=>(jd0.mp hb).elim (λ z=>ja8 _ z) λ z=>ja5 _ (hs b z),?_⟩;rw [jl6,jl6,OwnL];exact ⟨v,s.set k w,f1,f',rfl,rfl,λ b hb hc=>dj b hb (hs b hc),h1,h'⟩
theorem Own.atom {K:Frag}{Z Z':Addr->Prop}{y:PV}{d d':Nat}{w:V}{fp:List Addr} (hy:qai y=true) (h:Own K H Z y d w fp):fp=[]/\Own K H Z' y d' w []:=by
 cases y with
 | lst _=>cases hy
 | tup _=>cases hy
 | dct _=>cases hy
 | dcl _ _=>cases hy
 | exn _=>rw [Own] at h ⊢;exact ⟨h.1,rfl,h.2⟩
 | emp=>rw [Own] at h ⊢;exact ⟨h.1,rfl,h.2⟩
 | dko=>rw [Own] at h ⊢;exact ⟨h.1,rfl,h.2⟩
 | scr _=>rw [Own] at h ⊢;exact ⟨h.1,rfl,h.2⟩
 | non=>rw [Own] at h ⊢;exact ⟨h.2,h.1,rfl⟩
 | bl _=>rw [Own] at h ⊢;exact ⟨h.2,h.1,rfl⟩
 | int _=>rw [Own] at h ⊢;exact ⟨h.2,h.1,rfl⟩
 | str _=>rw [Own] at h ⊢;exact ⟨h.2,h.1,rfl⟩
end
section
variable {is:List Nat}{M:Fm}{ρ ρ':Rho}{σ σ':St}{H H' H'':Hp}{fps fps' fps'':Fps}{vs vs':List Nat}
theorem Rep.plus0 (hal:∀ i,∀ j∈M.al i,M.Ms j=false) (r:Rep M ρ σ H fps):Rep (M.plus []) ρ σ H fps:=r.wide hal KD.refl Agr.refl r (λ _ z=>nomatch z)
def GOk (M:Fm) (al is:List Nat) (g:TG) (asg:PV->Rho->Option Rho):Prop:=∀ y v ρ σ H fps ρ' (Q:St->Hp->Prop),Rep M ρ σ H fps->Own M.K H (Zv M al fps) y 0 v []->asg y ρ=some ρ'->(∀ σ' fps',(∀ i,∀ a∈fps' i,a∈fps i)->(∀ i,i∉is->ρ'[i]?=ρ[i]?/\fps' i=fps i/\σ'[i]?=σ[i]?)->ρ'.length=ρ.length->Rep M ρ' σ' H fps'->Q σ' H)->g v σ H Q
def asgN (i:Nat):PV->Rho->Option Rho:=λ y ρ=>if i < ρ.length then some (ρ.set i (some (y,dv y))) else none
theorem Own.dv {K:Frag}{Z:Addr->Prop}{x:PV}{v:V} (h:Own K H Z x 0 v []):Own K H Z x (dv x) v []:=Own.view (fp:=[]) (λ _ z=>z) (λ _ z=>nomatch z) h
structure Bd (M:Fm) (al:List Nat) (i:Nat):Prop where
 ms:M.Ms i=false
 io:M.Fre i
 al:M.al i=al
 als:∀ i,∀ j∈M.al i,M.Ms j=false
theorem Rep.bind1 {al:List Nat}{i:Nat}{y:PV}{v:V} (r:Rep M ρ σ H fps) (o:Own M.K H (Zv M al fps) y 0 v []) (hi:i < ρ.length) (b:Bd M al i):
  Rep M (ρ.set i (some (y,dv y))) (σ.set i (some v)) H (λ j=>if j=i then [] else fps j):=by
 refine (r.plus0 b.als).put (o.dv.weak λ a h=>h.elim (λ h=>?_) λ z=>nomatch z) (λ _ z=>nomatch z) hi (λ h=>by rw [b.ms] at h;cases h) b.io;rcases h with h | ⟨j,nj,h⟩
 ·exact .inl h
 ·exact .inr ⟨j,by rw [b.al] at nj;exact nj,h⟩
theorem qgr {al:List Nat}{i:Nat} (b:Bd M al i):GOk M al [i] (zjk i) (asgN i):=by
 intro y v ρ σ H fps ρ' Q r o e q;unfold asgN at e;split at e
 ·rename_i hi;cases e;refine q _ _ (λ j a ha=>?_) (λ j nj=>?_) (by rw [je0]) (r.bind1 o hi b)
  ·by_cases e:j=i
   ·simp only [if_pos e] at ha;cases ha
   ·simp only [if_neg e] at ha;exact ha
  ·have e:j≠i:=λ e=>nj (by simp [e]);exact ⟨jc4 (vb9 e),if_neg e,jc4 (vb9 e)⟩
 ·cases e
def zmq:List Nat->TGs
 | []=>gNil
 | i::is=>qql (zjk i) (zmq is)
def asgs:List Nat->List PV->Rho->Option Rho
 | [],[],ρ=>some ρ
 | i::is,y::ys,ρ=>(asgN i y ρ).bind (asgs is ys)
 | _,_,_=>none
def asgT (is:List Nat):PV->Rho->Option Rho:=λ y ρ=>match y with
 | .tup ys=>asgs is ys ρ
 | _=>none
theorem qgq {al:List Nat}:∀ (is:List Nat) (ys:List PV) (ws:List V) (ρ:Rho) (σ:St) (H:Hp) (fps:Fps) (ρ':Rho) (Q:St->Hp->Prop),(∀ i∈is,Bd M al i)->Rep M ρ σ H fps->OwnL M.K H (Zv M al fps) ys 0 ws []->asgs is ys ρ=some ρ' ->
  (∀ σ' fps',(∀ i,∀ a∈fps' i,a∈fps i)->(∀ i,i∉is->ρ'[i]?=ρ[i]?/\fps' i=fps i/\σ'[i]?=σ[i]?)->ρ'.length=ρ.length->Rep M ρ' σ' H fps'->Q σ' H)->ws.length=is.length/\zmq is ws σ H Q
 | [],[],ws,ρ,σ,H,fps,ρ',Q,_,r,o,e,q=>by
  rw [OwnL] at o;obtain ⟨rfl,_⟩:=o;cases e;exact ⟨rfl,rfl,q σ fps (λ _ _ h=>h) (λ _ _=>⟨rfl,rfl,rfl⟩) rfl r⟩
 | [],_::_,_,_,_,_,_,_,_,_,_,_,e,_=>by cases e
 | _::_,[],_,_,_,_,_,_,_,_,_,_,e,_=>by cases e
 | i::is,y::ys,ws,ρ,σ,H,fps,ρ',Q,hs,r,o,e,q=>by
  rw [OwnL] at o;obtain ⟨v,s,f1,f2,rfl,ef,_,o1,o2⟩:=o;obtain ⟨rfl,rfl⟩:f1=[]/\f2=[]:=by simpa using ef.symm
  unfold asgs at e;cases e1:asgN i y ρ with
  | none=>rw [e1] at e;cases e
  | some ρ1=>
   rw [e1] at e;unfold asgN at e1;split at e1
   ·rename_i hi;cases e1;have bi:=hs i ja2;have r':=r.bind1 o1 hi bi;have sub:∀ j a,a∈(λ j=>if j=i then [] else fps j) j->a∈fps j:=λ j a z=>by
     by_cases ej:j=i
     ·simp only [if_pos ej] at z;cases z
     ·simp only [if_neg ej] at z;exact z
    have o2':OwnL M.K H (Zv M al (λ j=>if j=i then [] else fps j)) ys 0 s []:=o2.weak λ a h=>h.elim .inl λ ⟨j,nj,z⟩=>.inr ⟨j,nj,sub j a z⟩;obtain ⟨hl,hg⟩:=qgq is ys s _ _ H _ ρ' Q (λ j hj=>hs j (ja1 _ hj)) r' o2' e λ σ' fps' k' a' l' r''=>q σ' fps' (λ j a ha=>sub j a (k' j a ha)) (λ j hj=>by
     have ej:j≠i:=λ e=>hj (by rw [e];exact ja2);obtain ⟨z1,z2,z3⟩:=a' j λ z=>hj (ja1 _ z);rw [if_neg ej] at z2;exact ⟨z1.trans (jc4 (vb9 ej)),z2,z3.trans (jc4 (vb9 ej))⟩) (l'.trans (by rw [je0])) r''
    exact ⟨by rw [jb1,jb1,hl],v,s,rfl,hg⟩
   ·cases e1
theorem qm2 {al:List Nat}{is:List Nat} (hs:∀ i∈is,Bd M al i):GOk M al is (gTup M.K is.length (zmq is)) (asgT is):=by
 intro y v ρ σ H fps ρ' Q r o e q;unfold asgT at e;split at e
 ·rename_i ys;rw [Own] at o;obtain ⟨a,ws,rfl,hr,ol⟩:=o;obtain ⟨hl,hg⟩:=qgq is ys ws ρ σ H fps ρ' Q hs r ol e q;exact ⟨a,ws,rfl,.inl (.inl hr),hl,hg⟩
 ·cases e
def zwk (asg:PV->Rho->Option Rho) (body:Fs):List PV->Rho->Rs
 | [],ρ=>.nx ρ
 | x::xs,ρ=>match asg x ρ with
  | none=>.no
  | some ρ1=>match body ρ1 with
   | .nx ρ2=>zwk asg body xs ρ2
   | .ct ρ2=>zwk asg body xs ρ2
   | .bk ρ2=>.nx ρ2
   | .rt x d ρ2=>.rt x d ρ2
   | .exc c=>.exc c
   | .no=>.no
theorem zzn {g:TG}{asg:PV->Rho->Option Rho}{body:Fs}{D:Ends}{J:It}{els:List PV}{Pq:Hp->Fps->Prop} (hg:GOk M [] is g asg)
  (hP:∀ {ρ σ H fps H' fps'},Rep M ρ σ H fps->KS M H fps H' fps'->Pq H fps->Pq H' fps') (hgo:∀ {H fps i},Pq H fps->i < els.length->J.go i H) (hst:∀ {H fps i},Pq H fps->els.length<=i->J.stop i H)
  (hy:∀ {ρ σ H fps i x H'},Rep M ρ σ H fps->Pq H fps->i < els.length->J.yld i H x H'->(∀ a o,H a=some o->H' a=some o)/\∃ y,els[i]?=some y/\Own M.K H' (Zf M fps) y 0 x [])
  (rep:Rep M ρ σ H fps) (p:Pq H fps) (q:RsOk M D H fps (zwk asg body els ρ)):
  ∃ W:Nat->Nat->St->Hp->Prop,(∃ m,W 0 m σ H)/\∀ i m σ H,W i m σ H ->
   (J.stop i H/\D.nx σ H)\/(J.go i H/\∃ N:St->Hp->Prop,(∀ σ' H',N σ' H'->∃ m',m' < m/\W (i + 1) m' σ' H')/\∀ x H',J.yld i H x H'->g x σ H' λ σ2 H2=>(tS M body) { D with nx:=N,ct:=N,bk:=D.nx } σ2 H2):=by
 let W:Nat->Nat->St->Hp->Prop:=λ i m σ H=>m=els.length - i/\∃ ρ fps,Rep M ρ σ H fps/\Pq H fps/\RsOk M D H fps (zwk asg body (els.drop i) ρ);refine ⟨W,⟨els.length,by simp,ρ,fps,rep,p,by simpa using q⟩,?_⟩;rintro i m σ H ⟨rfl,ρ,fps,r,p,q⟩;by_cases hi:i < els.length
 ·right
  refine ⟨hgo p hi,W (i + 1) (els.length - (i + 1)),λ σ' H' w=>⟨_,by omega,w⟩,λ x H' y=>?_⟩;obtain ⟨kx,z,ez,oz⟩:=hy r p hi y;have k0:KS M H fps H' fps:=(KD.grow kx).ks;have p:=hP r k0 p;have r:=r.grow kx;have q:=RsOk.from k0 q;have ed:els.drop i=z::els.drop (i + 1):=by
   obtain ⟨h1,h2⟩:=jb2.mp ez;rw [<- h2];exact ji5 h1
  rw [ed] at q;unfold zwk at q;cases ea:asg z ρ with
  | none=>rw [ea] at q;exact q.elim
  | some ρ1=>
   rw [ea] at q;dsimp only at q;refine hg z x ρ σ _ fps ρ1 _ r (oz.weak λ a h=>h.zf) ea λ σ1 fps1 s1 _ _ r1=>⟨ρ1,fps1,r1,?_⟩
   have k1:KS M H' fps H' fps1:=⟨λ _ _ h _=>h,λ _ h=>h,λ j a ha=>.inl ⟨j,s1 j a ha⟩⟩
   have p1:=hP r k1 p;cases eb:body ρ1 with
   | no=>rw [eb] at q;exact q
   | exc c=>rw [eb] at q;exact RsOk.from (r:=.exc c) k1 q
   | rt x d ρ2=>rw [eb] at q;exact RsOk.from (r:=.rt x d ρ2) k1 q
   | bk ρ2=>rw [eb] at q;exact λ σ' H' fps' k=>q σ' H' fps' (k1.trans k)
   | nx ρ2=>rw [eb] at q;exact λ σ' H' fps' k r'=>⟨rfl,ρ2,fps',r',hP r1 k p1,RsOk.from (k1.trans k) q⟩
   | ct ρ2=>rw [eb] at q;exact λ σ' H' fps' k r'=>⟨rfl,ρ2,fps',r',hP r1 k p1,RsOk.from (k1.trans k) q⟩
 ·left
  have ed:els.drop i=[]:=jj6 (by omega);rw [ed] at q;exact ⟨hst p (by omega),q σ H fps KS.refl r⟩
def zvn (lo:Int) (n:Nat):List PV:=(ja7 n).map λ (i:Nat)=>PV.int (lo + (i:Int))
theorem zwu (lo:Int) (n:Nat):(zvn lo n).length=n:=by simp [zvn]
def zqu:List (PV×Nat)->Option (Int×Int)
 | [(.int j,_)]=>if -(2 ^ 62)<=j/\j < 2 ^ 62 then some (0,j) else none
 | _=>none
def zph:List (PV×Nat)->Option (Int×Int)
 | [(.int i,_),(.int j,_)]=>if -(2 ^ 62)<=i/\i < 2 ^ 62/\-(2 ^ 62)<=j/\j < 2 ^ 62 then some (i,j) else none
 | _=>none
def zvk (en:List (PV×Nat)->Option (Int×Int)) (fa:Fa) (asg:PV->Rho->Option Rho) (body:Fs):Fs:=λ ρ=>match fa ρ with
 | .ok (xs,ρ1)=>(match en xs with
  | some (i,j)=>zwk asg body (zvn i (j - i).toNat) ρ1
  | none=>.no)
 | .exc c=>.exc c
 | .no=>.no
theorem zyk {g:TG}{asg:PV->Rho->Option Rho}{body:Fs}{D:Ends}{lo:Int}{n:Nat} (hg:GOk M [] is g asg) (rep:Rep M ρ σ H fps) (q:RsOk M D H fps (zwk asg body (zvn lo n) ρ)):
  ∃ W:Nat->Nat->St->Hp->Prop,(∃ m,W 0 m σ H)/\∀ i m σ H,W i m σ H ->
   ((Itr lo n).stop i H/\D.nx σ H)\/((Itr lo n).go i H/\∃ N:St->Hp->Prop,(∀ σ' H',N σ' H'->∃ m',m' < m/\W (i + 1) m' σ' H')/\∀ x H',(Itr lo n).yld i H x H'->g x σ H' λ σ2 H2=>(tS M body) { D with nx:=N,ct:=N,bk:=D.nx } σ2 H2):=by
 refine zzn (Pq:=λ _ _=>True) hg (λ _ _ _=>trivial) (λ {H fps i} _ h=>?_) (λ {H fps i} _ h=>?_) (λ {ρ σ H fps i x H'} _ _ h y=>?_) rep trivial q
 ·rw [zwu] at h;exact h
 ·rw [zwu] at h;exact h
 ·rw [zwu] at h;obtain ⟨e1,e2⟩:=y;subst e1;exact ⟨λ _ _ h=>h,.int (lo + i),by simp [zvn,h],by rw [e2,Own];exact ⟨rfl,rfl⟩⟩
theorem qed {g:TG}{asg:PV->Rho->Option Rho}{body:Fs}{fa:Fa}{D:Ends} (hg:GOk M [] is g asg) (hq:tS M (zvk zqu fa asg body) D σ H):tFor (qi1 (tL M fa vs)) g (tS M body) D σ H:=by
 obtain ⟨ρ,fps,rep,q⟩:=hq;refine ⟨ρ,fps,rep,?_⟩;unfold zvk at q;cases ef:fa ρ with
 | no=>rw [ef] at q;exact q
 | exc c=>rw [ef] at q;exact λ H' fps' k=>q _ H' fps' k.ks
 | ok p=>
  obtain ⟨xs,ρ1⟩:=p;rw [ef] at q;intro ws H1 fps1 f1 k1 g1 rep1 o1 t1;dsimp only at q;cases ee:zqu xs with
  | none=>rw [ee] at q;exact q.elim
  | some ij=>
   obtain ⟨i,j⟩:=ij;rw [ee] at q;unfold zqu at ee;split at ee
   ·rename_i j' d;split at ee
    ·rename_i hb;cases ee;obtain ⟨v,r,f1,f2,rfl,_,_,h1,h2⟩:=o1;obtain ⟨rfl,_⟩:=h2;rw [Own] at h1;obtain ⟨rfl,_⟩:=h1;refine ⟨j,rfl,hb.1,hb.2,?_⟩;have e:(j - 0).toNat=j.toNat:=by omega
     dsimp only at q;rw [e] at q;exact zyk hg rep1 (RsOk.from k1.ks q)
    ·cases ee
   ·cases ee
theorem qec {g:TG}{asg:PV->Rho->Option Rho}{body:Fs}{fa:Fa}{D:Ends} (hg:GOk M [] is g asg) (hq:tS M (zvk zph fa asg body) D σ H):tFor (qi0 (tL M fa vs)) g (tS M body) D σ H:=by
 obtain ⟨ρ,fps,rep,q⟩:=hq;refine ⟨ρ,fps,rep,?_⟩;unfold zvk at q;cases ef:fa ρ with
 | no=>rw [ef] at q;exact q
 | exc c=>rw [ef] at q;exact λ H' fps' k=>q _ H' fps' k.ks
 | ok p=>
  obtain ⟨xs,ρ1⟩:=p;rw [ef] at q;intro ws H1 fps1 f1 k1 g1 rep1 o1 t1;dsimp only at q;cases ee:zph xs with
  | none=>rw [ee] at q;exact q.elim
  | some ij=>
   obtain ⟨i,j⟩:=ij;rw [ee] at q;unfold zph at ee;split at ee
   ·rename_i i' d j' d';split at ee
    ·rename_i hb;cases ee;obtain ⟨v,r,f1,f2,rfl,_,_,h1,h2⟩:=o1;obtain ⟨v2,r2,f3,f4,rfl,_,_,h3,h4⟩:=h2;obtain ⟨rfl,_⟩:=h4;rw [Own] at h1 h3;obtain ⟨rfl,_⟩:=h1;obtain ⟨rfl,_⟩:=h3;exact ⟨i,j,rfl,hb,zyk hg rep1 (RsOk.from k1.ks q)⟩
    ·cases ee
   ·cases ee
def zbh (z:Str):List PV:=z.cps.toList.map λ c=>.str ⟨#[c]⟩
def zji (f:Fx) (vs:List Nat) (asg:PV->Rho->Option Rho) (body:Fs):Fs:=λ ρ=>match f ρ with
 | .ok (.str z,d,ρ1)=>if qc7 z=true then zwk asg body (zbh z) (zqo d vs ρ1) else .no
 | .ok (.lst xs,d,ρ1)=>zwk asg body xs (zqo d vs ρ1)
 | .ok (.tup xs,d,ρ1)=>zwk asg body xs (zqo d vs ρ1)
 | .ok _=>.no
 | .exc c=>.exc c
 | .no=>.no
theorem OwnL.get {K:Frag}{Z:Addr->Prop}:∀ {xs:List PV}{ws:List V}{i:Nat}{w:V},OwnL K H Z xs 0 ws []->ws[i]?=some w->∃ x,xs[i]?=some x/\Own K H Z x 0 w []
 | [],ws,i,w,h,e=>by
  rw [OwnL] at h;obtain ⟨rfl,_⟩:=h;simp at e
 | x::xs,ws,i,w,h,e=>by
  rw [OwnL] at h;obtain ⟨v,s,f1,f2,rfl,ef,_,o1,o2⟩:=h;obtain ⟨rfl,rfl⟩:f1=[]/\f2=[]:=by simpa using ef.symm
  cases i with
  | zero=>simp at e;subst e;exact ⟨x,by simp,o1⟩
  | succ i=>obtain ⟨y,e1,e2⟩:=o2.get (i:=i) (w:=w) (by simpa using e);exact ⟨y,by simpa using e1,e2⟩
theorem Rep.seen {x:PV}{d:Nat}{v:V}{fp:List Addr} (rep:Rep M ρ σ H fps) (k:KD M H fps H' fps') (g:Agr M ρ ρ') (r':Rep M ρ' σ H' fps') (o:Own M.K H' (Zt M vs fps' fp) x d v fp) (t:Temp M vs H H' fps' fp)
  (hal:∀ i,M.al i=[]) (hv:∀ i∈vs,M.Ms i=false):∃ fps2,KS M H fps H' fps2/\Rep M (zqo d vs ρ') σ H' fps2/\Own M.K H' (Zf M fps2) x 0 v []:=by
 unfold zqo;by_cases hd:d=om
 ·rw [if_pos hd];rw [hd] at o;exact ⟨fps',k.ks,r',Own.freeze (λ _ z=>z) x om v fp (λ a ha=>t.ndj a ha) (Own.full x v fp o)⟩
 ·rw [if_neg hd];exact ⟨zkw vs fps',k.ks.cool,r'.cool hal hv,Own.freeze (λ a h=>.inl (zvy h)) x d v fp (λ a ha z=>t.ndj a ha (zvy z).zf) o⟩
theorem qao {g:TG}{asg:PV->Rho->Option Rho}{body:Fs}{f:Fx}{D:Ends} (hal:∀ i,M.al i=[]) (hv:∀ i∈vs,M.Ms i=false) (hg:GOk M [] is g asg) (hq:tS M (zji f vs asg body) D σ H):tFor (iSeq M.K (tE M f vs)) g (tS M body) D σ H:=by
 obtain ⟨ρ,fps,rep,q⟩:=hq;refine ⟨ρ,fps,rep,?_⟩;unfold zji at q;cases ef:f ρ with
 | no=>rw [ef] at q;exact q
 | exc c=>rw [ef] at q;exact λ H' fps' k=>q _ H' fps' k.ks
 | ok p=>
  obtain ⟨x,d,ρ1⟩:=p;rw [ef] at q;intro v H1 fps1 f1 k1 g1 rep1 o1 t1;obtain ⟨fps2,k2,r2,o2⟩:=Rep.seen rep k1 g1 rep1 o1 t1 hal hv;cases x with
  | lst xs=>
   have o2':=o2;rw [Own] at o2';obtain ⟨a,ws,rfl,⟨_,hr,_,ol⟩ | ⟨h,_⟩⟩:=o2'
   ·have sq:SqL M.K H1 a ws:=.inl (.inl hr.1);refine .inl ⟨a,rfl,.inl ⟨⟨ws,sq⟩,?_⟩⟩;have one:∀ {H:Hp}{fps:Fps},Own M.K H (Zf M fps) (.lst xs) 0 (.ref a) []->∃ ws,SqL M.K H a ws/\OwnL M.K H (Zf M fps) xs 0 ws []:=λ o=>by
     rw [Own] at o;obtain ⟨b,ws,e,⟨_,hr,_,ol⟩ | ⟨h,_⟩⟩:=o
     ·cases e;exact ⟨ws,.inl (.inl hr.1),ol⟩
     ·exact absurd rfl h
    refine zzn (Pq:=λ H fps=>Own M.K H (Zf M fps) (.lst xs) 0 (.ref a) []) (els:=xs) hg (λ r k o=>k.stay0 r o) (λ {H fps i} o h=>?_) (λ {H fps i} o h=>?_) (λ {ρ σ H fps i x H'} _ o h y=>?_) r2 o2 (RsOk.from k2 q)
    ·obtain ⟨ws,s,ol⟩:=one o;exact ⟨ws,ws[i]'(by rw [ol.length];exact h),s,by simp⟩
    ·obtain ⟨ws,s,ol⟩:=one o;exact ⟨ws,s,by rw [ol.length];exact h⟩
    ·obtain ⟨ws,s,ol⟩:=one o;obtain ⟨e1,e2⟩:=y;subst e1;exact ⟨λ _ _ h=>h,ol.get (e2 ws s)⟩
   ·exact absurd rfl h
  | tup xs=>
   have o2':=o2;rw [Own] at o2';obtain ⟨a,ws,rfl,hr,ol⟩:=o2';refine .inl ⟨a,rfl,.inr ⟨⟨ws,.inl (.inl hr)⟩,?_⟩⟩;have one:∀ {H:Hp}{fps:Fps},Own M.K H (Zf M fps) (.tup xs) 0 (.ref a) []->∃ ws,SqT M.K H a ws/\OwnL M.K H (Zf M fps) xs 0 ws []:=λ o=>by
    rw [Own] at o;obtain ⟨b,ws,e,hr,ol⟩:=o;cases e;exact ⟨ws,.inl (.inl hr),ol⟩
   refine zzn (Pq:=λ H fps=>Own M.K H (Zf M fps) (.tup xs) 0 (.ref a) []) (els:=xs) hg (λ r k o=>k.stay0 r o) (λ {H fps i} o h=>?_) (λ {H fps i} o h=>?_) (λ {ρ σ H fps i x H'} _ o h y=>?_) r2 o2 (RsOk.from k2 q)
   ·obtain ⟨ws,s,ol⟩:=one o;exact ⟨ws,ws[i]'(by rw [ol.length];exact h),s,by simp⟩
   ·obtain ⟨ws,s,ol⟩:=one o;exact ⟨ws,s,by rw [ol.length];exact h⟩
   ·obtain ⟨ws,s,ol⟩:=one o;obtain ⟨e1,e2⟩:=y;subst e1;exact ⟨λ _ _ h=>h,ol.get (e2 ws s)⟩
  | str z=>
   have o2':=o2;rw [Own] at o2';obtain ⟨rfl,_⟩:=o2';dsimp only at q;split at q
   ·rename_i ha;refine .inr ⟨z,rfl,ha,?_⟩;have hl:(zbh z).length=z.cps.size:=by unfold zbh;rw [ja3,jf4]
    refine zzn (Pq:=λ _ _=>True) (els:=zbh z) hg (λ _ _ _=>trivial) (λ {H fps i} _ h=>?_) (λ {H fps i} _ h=>?_) (λ {ρ σ H fps i x H'} _ _ h y=>?_) r2 trivial (RsOk.from k2 q)
    ·show i < z.cps.size;omega
    ·show z.cps.size<=i;omega
    ·obtain ⟨rfl,c,hc,rfl⟩:=y;refine ⟨λ _ _ h=>h,.str ⟨#[c]⟩,?_,by rw [Own];exact ⟨rfl,rfl⟩⟩;unfold zbh;rw [jc1,ji2,hc];rfl
   ·exact q.elim
  | _=>exact q.elim
end
section
variable {M:Fm}{ρ ρ':Rho}{σ σ':St}{H H' H'':Hp}{fps fps' fps'':Fps}{vs vs':List Nat}
def Fm.comp (M:Fm) (D:Addr) (n:Nat) (vI:List Nat):Fm:={ M.plus [D] with W:=λ _ _ _=>False,al:=λ j=>if j < n then M.al j else vI }
theorem Rep.minus {fp:List Addr} (r:Rep (M.plus fp) ρ σ H fps):Rep M ρ σ H fps where
 own:=λ i x d e=>let ⟨v,h1,h2⟩:=r.own i x d e;⟨v,h1,h2.weak λ a h=>h.elim (λ h=>.inl (.inl h)) .inr⟩
 non:=r.non
 dj:=r.dj
 zo:=λ i a ha z=>r.zo i a ha (.inl z)
 fr:=r.fr
 zd:=λ a z=>r.zd a (.inl z)
 len:=r.len
 msf:=r.msf
 h0:=r.h0
 iov:=r.iov
theorem Rep.far (r:Rep M ρ σ H fps) {j:Nat} (h:ρ.length<=j):fps j=[]:=r.non j λ p e=>by
 rw [ji6.mpr h] at e;cases e
theorem Rep.ext {D:Addr}{k:Nat}{vI:List Nat} (r:Rep (M.plus [D]) ρ σ H fps):Rep (M.comp D ρ.length vI) (ρ++ja6 k none) (σ++ja6 k none) H fps where
 own:=λ i x d e=>by
  by_cases hi:i < ρ.length
  ·rw [jb3 hi] at e;obtain ⟨v,h1,h2⟩:=r.own i x d e;refine ⟨v,by rw [jb3 (by rw [<- r.len];exact hi)];exact h1,h2.weak λ a h=>?_⟩;rcases h with h | ⟨j,nj,h⟩
   ·exact .inl h
   ·refine .inr ⟨j,?_,h⟩
    have:(M.comp D ρ.length vI).al i=M.al i:=if_pos hi
    rw [this] at nj;exact nj
  ·rw [jc8 (by omega),jd3] at e;split at e <;> cases e
 non:=λ i h=>by
  by_cases hi:i < ρ.length
  ·exact r.non i λ p e=>h p (by rw [jb3 hi];exact e)
  ·exact r.far (by omega)
 dj:=r.dj
 zo:=r.zo
 fr:=r.fr
 zd:=r.zd
 len:=by simp [r.len]
 msf:=λ i x d hm e=>by
  by_cases hi:i < ρ.length
  ·rw [jb3 hi] at e;exact r.msf i x d hm e
  ·rw [jc8 (by omega),jd3] at e;split at e <;> cases e
 h0:=r.h0
 iov:=⟨λ v hv=>by
  have h:=r.iov.1 v hv;refine ⟨?_,h.2⟩
  have:0 < σ.length:=(jb2.mp h.1).1
  rw [jb3 this];exact h.1,λ p hp=>by
  have h:=r.iov.2 p hp;rw [jb3 (jb2.mp h).1];exact h⟩
def cut (n:Nat) (fps:Fps):Fps:=λ j=>if j < n then fps j else []
theorem zvc {n i:Nat}{a:Addr} (h:a∈cut n fps i):a∈fps i/\i < n:=by
 unfold cut at h;split at h
 ·rename_i hi;exact ⟨h,hi⟩
 ·cases h
theorem Rep.take {D:Addr}{n:Nat}{vI:List Nat} (r:Rep (M.comp D n vI) ρ σ H fps) (hσ:∀ i,i < n->σ[i]?=σ'[i]?) (hl:σ'.length=n) (hn:n<=ρ.length) (hio:(M.io≠none->0 < n)/\∀ p∈M.pn,p.1 < n):Rep (M.plus [D]) (ρ.take n) σ' H (cut n fps) where
 own:=λ i x d e=>by
  have hi:i < n:=by
   have:=(jb2.mp e).1
   rw [jf0] at this;omega
  rw [jf5 hi] at e;obtain ⟨v,h1,h2⟩:=r.own i x d e;refine ⟨v,by rw [<- hσ i hi];exact h1,?_⟩
  have:cut n fps i=fps i:=if_pos hi
  rw [this];refine h2.weak λ a h=>?_;rcases h with h | ⟨j,nj,h⟩
  ·exact .inl h
  ·refine .inr ⟨j,?_,(zvc h).1⟩
   have:(M.comp D n vI).al i=M.al i:=if_pos hi
   rw [this];exact nj
 non:=λ i h=>by
  unfold cut;split
  ·rename_i hi;exact r.non i λ p e=>h p (by rw [jf5 hi];exact e)
  ·rfl
 dj:=λ i j hij a ha hb=>r.dj i j hij a (zvc ha).1 (zvc hb).1
 zo:=λ i a ha=>r.zo i a (zvc ha).1
 fr:=λ i hi a ha=>r.fr i hi a (zvc ha).1
 zd:=r.zd
 len:=by rw [jf0,hl];omega
 msf:=λ i x d hm e=>by
  have hi:i < n:=by
   have:=(jb2.mp e).1
   rw [jf0] at this;omega
  rw [jf5 hi] at e;exact r.msf i x d hm e
 h0:=r.h0
 iov:=⟨λ v hv=>by
  have h:=r.iov.1 v hv;refine ⟨?_,h.2⟩;have h0:0 < n:=hio.1 (by
   have hv':M.io=some v:=hv;rw [hv'];simp)
  rw [<- hσ 0 h0];exact h.1,λ p hp=>by rw [<- hσ p.1 (hio.2 p hp)];exact r.iov.2 p hp⟩
theorem Rep.touch {D:Addr}{us ws:List V} (r:Rep (M.plus [D]) ρ σ H fps) (hD:H D=some (.lst ws)):Rep (M.plus [D]) ρ σ (upd H D (.lst us)) fps:=by
 have zD:(M.plus [D]).Zo D:=.inr (by simp);have dm:∀ b,H b≠none->(upd H D (.lst us)) b≠none:=λ b h=>by
  by_cases eb:b=D
  ·rw [eb,zqe];simp
  ·rw [zqf eb];exact h
 exact ⟨λ i x d e=>let ⟨v,h1,h2⟩:=r.own i x d e;⟨v,h1,h2.at (.inl zD) ⟨.l ws,hD⟩ (λ z=>r.zo i D z zD) λ _ _ n=>n⟩,r.non,r.dj,r.zo,r.fr,λ a z=>dm a (r.zd a z),r.len,r.msf,λ a z=>dm a (r.h0 a z),r.iov⟩
theorem Tmps.snoc {K:Frag}{Z:Addr->Prop}{y:PV}{e:Nat}{w:V}{fe:List Addr} (hy:Own K H (λ a=>Z a\/a∈fe) y e w fe):∀ {xs:List (PV×Nat)}{ws:List V}{fp:List Addr},Tmps K H Z xs ws fp->(∀ a∈fp,a∉fe)->Tmps K H Z (xs++[(y,e)]) (ws++[w]) (fp++fe)
 | [],ws,fp,h,_=>by
  obtain ⟨rfl,rfl⟩:=h;exact ⟨w,[],fe,[],rfl,by simp,λ _ _ z=>(nomatch z),hy,rfl,rfl⟩
 | (x,d)::xs,ws,fp,h,hd=>by
  obtain ⟨v,s,f1,f2,rfl,rfl,dj,h1,h2⟩:=h;refine ⟨v,s++[w],f1,f2++fe,rfl,by rw [jj9],λ a ha hb=>?_,h1,h2.snoc hy λ a ha=>hd a (ja5 _ ha)⟩;rcases jd0.mp hb with z | z
  ·exact dj a ha z
  ·exact hd a (ja8 _ ha) z
theorem Tmps.at {K:Frag}{Z:Addr->Prop}{a:Addr}{o:HO} (hZ:Z a) (hl:∃ o:MO,H a=some o.ho):∀ {xs:List (PV×Nat)}{ws:List V}{fp:List Addr},Tmps K H Z xs ws fp->a∉fp->Tmps K (upd H a o) Z xs ws fp
 | [],_,_,h,_=>h
 | (x,d)::xs,ws,fp,h,hf=>by
  obtain ⟨v,s,f1,f2,e1,rfl,dj,h1,h2⟩:=h;exact ⟨v,s,f1,f2,e1,rfl,dj,h1.at (.inl hZ) hl (λ z=>hf (ja8 _ z)) λ _ _ n=>n,h2.at hZ hl λ z=>hf (ja5 _ z)⟩
theorem Tmps.lsts {K:Frag}{Z:Addr->Prop}:∀ {xs:List (PV×Nat)}{ws:List V}{fp:List Addr},Tmps K H Z xs ws fp->∀ a∈fp,∃ o:MO,H a=some o.ho
 | [],_,_,h,a,ha=>by rw [h.2] at ha;cases ha
 | (x,d)::xs,ws,fp,h,a,ha=>by
  obtain ⟨v,s,f1,f2,e1,rfl,dj,h1,h2⟩:=h;rcases jd0.mp ha with z | z
  ·exact Own.lsts x d v f1 h1 a z
  ·exact h2.lsts a z
def Rz.bindN {α β:Type} (r:Rz α) (f:α->Rz β):Rz β:=match r with
 | .ok a=>f a
 | _=>.no
def zwm (k:Nat) (asg:PV->Rho->Option Rho) (test:Fb) (elt:Fx):List PV->Rho->List (PV×Nat)->Rz (List (PV×Nat)×Rho)
 | [],ρ,acc=>.ok (acc,ρ)
 | x::xs,ρ,acc=>match asg x (ρ++ja6 k none) with
  | none=>.no
  | some ρ1=>(test ρ1).bindN λ (b,ρ2)=>if b=true then (elt ρ2).bindN λ (y,e,ρ3)=>(if acc.length < va5 then zwm k asg test elt xs (ρ3.take ρ.length) (acc++[(y,e)]) else .no) else zwm k asg test elt xs (ρ2.take ρ.length) acc
theorem KD.seen {D:Addr}{x:PV}{v:V} (r:Rep M ρ σ H fps) (k:KD M H fps H' fps') (hD:H D=none) (hv:∀ i∈vs,M.Ms i=false) (o:Own M.K H (Zv M vs fps) x 0 v []):Own M.K H' (Zv (M.plus [D]) vs fps') x 0 v []:=by
 refine Own.move k.keep ?_ ?_ x 0 v [] (λ _ z=>nomatch z) o
 ·rintro a ⟨i,hi,ha⟩;exact ⟨.inr ⟨i,λ z=>(by rw [hv i z] at hi;cases hi),ha⟩,r.lsts ha⟩
 ·intro a hd nz z;rcases z with (z | z) | ⟨i,ni,hx⟩
  ·exact nz (.inl z)
  ·rw [jb4.mp z] at hd;exact hd hD
  ·rcases k.sub i a hx with z | z
   ·exact nz (.inr ⟨i,ni,z⟩)
   ·exact hd z
theorem zki {g:TG}{is vI vE vo:List Nat}{asg:PV->Rho->Option Rho}{test:Fb}{elt:Fx}{k:Nat}{J:It}{els:List PV}{Q:VK}{n:Nat}{P:Fm->Prop}
  (hP:∀ D,P (M.comp D n vI)) (hn:n=ρ.length) (hal:∀ i,∀ j∈M.al i,M.Ms j=false) (hvI:∀ i∈vI,M.Ms i=false) (hvE:∀ i∈vE,M.Ms i=false) (his:∀ i∈is,n<=i) (hg:∀ D,GOk (M.comp D n vI) vI is g asg) (hvo:∀ i,i∈vE->i < n->i∈vo) (hvo2:∀ i∈vo,M.Ms i=false)
  (rep:Rep M ρ σ H fps)
  (hgo:∀ {D H' fps' i},H D=none->KD M H fps H' fps'->i < els.length->J.go i H') (hst:∀ {D H' fps' i},H D=none->KD M H fps H' fps'->els.length<=i->J.stop i H')
  (hy:∀ {D H' fps' i x H''},H D=none->KD M H fps H' fps'->i < els.length->J.yld i H' x H''->(∀ a o,H' a=some o->H'' a=some o)/\∃ z,els[i]?=some z/\Own M.K H'' (Zv (M.plus [D]) vI fps') z 0 x [])
  (q:match zwm k asg test elt els ρ [] with
   | .ok (acc,ρ')=>∀ D ws H' fps' fpl,KD M H fps H' fps'->Agr M ρ ρ'->Rep (M.plus [D]) ρ' σ H' fps'->H D=none->H' D=some (.lst ws)->Tmps M.K H' (Zv (M.plus [D]) vo fps') acc ws fpl->(∀ a∈fpl,H a=none/\¬ Zf (M.plus [D]) fps' a)->Q (.ref D) H'
   | _=>False):
  ∀ D,H D=none->∃ W:Nat->Nat->List V->Hp->Prop,(∃ m,W 0 m [] (upd H D (.lst [])))/\∀ i m ys H1,W i m ys H1->H1 D=some (.lst ys) /\
   ((J.stop i H1/\Q (.ref D) H1)\/(J.go i H1/\∀ x H',J.yld i H1 x H'->g x (σ++ja6 k none) H' λ σ2 H2=>∃ M',P M'/\tT M' test σ2 H2 λ b H3=>if b=true then ∃ M',P M'/\tE M' elt vE σ2 H3 λ y H4=>H4 D=some (.lst ys)/\ys.length < va5/\∃ m',m' < m/\W (i + 1) m' (ys++[y]) (upd H4 D (.lst (ys++[y]))) else ∃ m',m' < m/\W (i + 1) m' ys H3)):=by
 intro D hD;subst hn;let W:Nat->Nat->List V->Hp->Prop:=λ i m ys H1=>m=els.length - i/\∃ ρ1 fps1 acc fpl,Rep (M.plus [D]) ρ1 σ H1 fps1/\KD M H fps H1 fps1/\Agr M ρ ρ1/\Tmps M.K H1 (Zv (M.plus [D]) vo fps1) acc ys fpl/\(∀ a∈fpl,H a=none/\¬ Zf (M.plus [D]) fps1 a)/\H1 D=some (.lst ys)/\zwm k asg test elt (els.drop i) ρ1 acc=zwm k asg test elt els ρ [];have k0:KD M H fps (upd H D (.lst [])) fps:=KD.grow λ a o h=>by rw [zqf (λ e=>by rw [e,hD] at h;cases h)];exact h
 have r0:Rep (M.plus [D]) ρ σ (upd H D (.lst [])) fps:=by
  refine rep.wide hal k0 Agr.refl (rep.grow λ a o h=>by rw [zqf (λ e=>by rw [e,hD] at h;cases h)];exact h) λ a ha=>?_;rw [jb4.mp ha];exact ⟨hD,by rw [zqe];simp,rep.nz hD⟩
 refine ⟨W,⟨els.length,by simp,ρ,fps,[],[],r0,k0,Agr.refl,⟨rfl,rfl⟩,λ _ z=>(nomatch z),zqe,by simp⟩,?_⟩;rintro i m ys H1 ⟨rfl,ρ1,fps1,acc,fpl,r1,k1,g1,tm,hf,h1D,ec⟩;refine ⟨h1D,?_⟩;have hlen:ρ1.length=ρ.length:=g1.2;by_cases hi:i < els.length
 ·right
  refine ⟨hgo hD k1 hi,λ x H' hyl=>?_⟩;obtain ⟨kx,z,ez,oz⟩:=hy hD k1 hi hyl;have tm:=KD.stays (M:=M.plus [D]) (KD.grow kx) r1 hvo2 tm λ a ha=>(hf a ha).2;have r1:=r1.grow kx;have k1:=k1.trans (KD.grow (M:=M) (fps:=fps1) kx);have h1D:=kx D _ h1D;have ed:els.drop i=z::els.drop (i + 1):=by
   obtain ⟨h1,h2⟩:=jb2.mp ez;rw [<- h2];exact ji5 h1
  rw [ed] at ec;have good:∃ a r,zwm k asg test elt els ρ []=.ok (a,r):=by
   cases e:zwm k asg test elt els ρ [] with
   | ok p=>exact ⟨p.1,p.2,rfl⟩
   | exc c=>rw [e] at q;exact q.elim
   | no=>rw [e] at q;exact q.elim
  obtain ⟨accF,ρF,eF⟩:=good;rw [eF] at ec;unfold zwm at ec;cases ea:asg z (ρ1++ja6 k none) with
  | none=>rw [ea] at ec;cases ec
  | some ρ2=>
   rw [ea] at ec;dsimp only at ec;have rx:Rep (M.comp D ρ.length vI) (ρ1++ja6 k none) (σ++ja6 k none) H' fps1:=by rw [<- hlen];exact r1.ext
   refine hg D z x _ _ H' fps1 ρ2 _ rx oz ea λ σ2 fps2 s2 a2 l2 r2=>⟨_,hP D,ρ2,fps2,r2,?_⟩
   have hl2:ρ2.length=ρ.length + k:=by rw [l2,jb0,jd5,hlen]
   have same2:∀ j,j < ρ.length->ρ2[j]?=ρ1[j]?/\fps2 j=fps1 j/\σ2[j]?=σ[j]?:=λ j hj=>by
    obtain ⟨z1,z2,z3⟩:=a2 j λ z=>absurd (his j z) (by omega);rw [jb3 (by omega)] at z1;rw [jb3 (by rw [<- rep.len];omega)] at z3;exact ⟨z1,z2,z3⟩
   have kd2:KD (M.comp D ρ.length vI) H' fps1 H' fps2->True:=λ _=>trivial;cases et:test ρ2 with
   | exc c=>rw [et] at ec;cases ec
   | no=>rw [et] at ec;cases ec
   | ok p=>
    obtain ⟨b,ρ3⟩:=p;rw [et] at ec;intro H3 fps3 k3 g3 r3;dsimp only [Rz.bindN] at ec;have far:∀ {ρ4:Rho}{H4:Hp}{fps4:Fps},KD (M.comp D ρ.length vI) H' fps2 H4 fps4->Agr (M.comp D ρ.length vI) ρ2 ρ4->Rep (M.comp D ρ.length vI) ρ4 σ2 H4 fps4 ->
      KD M H fps H4 (cut ρ.length fps4)/\KD M H' fps1 H4 (cut ρ.length fps4)/\Agr M ρ (ρ4.take ρ.length)/\Rep (M.plus [D]) (ρ4.take ρ.length) σ H4 (cut ρ.length fps4)/\H4 D=some (.lst ys):=λ {ρ4 H4 fps4} k4 g4 r4=>by
     have kk:KD M H' fps1 H4 (cut ρ.length fps4):=by
      refine ⟨λ a o ha hn=>k4.keep a o ha λ ⟨j,hj,hx⟩=>hn ⟨j,hj,s2 j a hx⟩,k4.dom,λ j a ha=>?_,λ j hj=>?_⟩
      ·rcases k4.sub j a (zvc ha).1 with z | z
       ·exact .inl (s2 j a z)
       ·exact .inr z
      ·unfold cut;by_cases hjl:j < ρ.length
       ·rw [if_pos hjl,k4.same j hj];exact (same2 j hjl).2.1
       ·rw [if_neg hjl];exact (r1.far (by omega)).symm
     refine ⟨k1.trans kk,kk,?_,r4.take (σ':=σ) (λ j hj=>(same2 j hj).2.2) rep.len.symm (by rw [g4.2,hl2];omega) ⟨λ hio=>?_,λ p hp=>by rw [rep.len];exact (jb2.mp (rep.iov.2 p hp)).1⟩,?_⟩
     ·refine ⟨λ j hj=>?_,by rw [jf0,g4.2,hl2];omega⟩;by_cases hjl:j < ρ.length
      ·rw [jf5 hjl,g4.1 j hj,(same2 j hjl).1];exact g1.1 j hj
      ·rw [ji6.mpr (by rw [jf0];omega),ji6.mpr (by omega)]
     ·cases e:M.io with
      | none=>exact absurd e hio
      | some v=>
       have:=(jb2.mp (rep.iov.1 v e).1).1
       rw [rep.len];exact this
     ·exact k4.keep D _ h1D λ ⟨j,_,hx⟩=>r2.zo j D hx (.inr (by simp))
    have notZ:∀ {H4:Hp}{fps4:Fps},KD M H' fps1 H4 fps4->∀ {a},a∈fpl->¬ Zf (M.plus [D]) fps4 a:=λ {H4 fps4} k4 a ha z=>by
     rcases z with z | ⟨j,z⟩
     ·exact (hf a ha).2 (.inl z)
     ·rcases k4.sub j a z with z | z
      ·exact (hf a ha).2 (.inr ⟨j,z⟩)
      ·obtain ⟨xs,e⟩:=tm.lsts a ha;rw [z] at e;cases e
    cases b with
    | false=>
     rw [if_neg jb7] at ec ⊢;obtain ⟨f1,f2,f3,f4,f5⟩:=far k3 g3 r3;refine ⟨els.length - (i + 1),by omega,rfl,ρ3.take ρ.length,cut ρ.length fps3,acc,fpl,f4,f1,f3,?_,λ a ha=>⟨(hf a ha).1,λ z=>?_⟩,f5,by rw [eF,<- hlen];exact ec⟩
     ·exact KD.stays (M:=M.plus [D]) (σ:=σ) (ρ:=ρ1) ⟨f2.keep,f2.dom,f2.sub,f2.same⟩ r1 hvo2 tm λ a ha=>(hf a ha).2
     ·exact notZ f2 ha z
    | true=>
     rw [if_pos rfl] at ec ⊢;refine ⟨_,hP D,ρ3,fps3,r3,?_⟩;cases ee:elt ρ3 with
     | exc c=>rw [ee] at ec;cases ec
     | no=>rw [ee] at ec;cases ec
     | ok p=>
      obtain ⟨y,e,ρ4⟩:=p;rw [ee] at ec;intro w H4 fps4 fe k4 g4 r4 o4 t4;dsimp only at ec;by_cases hz:acc.length < va5
      ·rw [if_pos hz] at ec;obtain ⟨f1,f2,f3,f4,f5⟩:=far (k3.trans k4) (g3.trans g4) r4;have tm4:Tmps M.K H4 (Zv (M.plus [D]) vo (cut ρ.length fps4)) acc ys fpl:=KD.stays (M:=M.plus [D]) (σ:=σ) (ρ:=ρ1) ⟨f2.keep,f2.dom,f2.sub,f2.same⟩ r1 hvo2 tm λ a ha=>(hf a ha).2;have zD:Zv (M.plus [D]) vo (cut ρ.length fps4) D:=.inl (.inr (by simp));have hDe:D∉fe:=λ z=>t4.ndj D z (.inl (.inr (by simp)));have hDl:D∉fpl:=λ z=>(hf D z).2 (.inl (.inr (by simp)));have oy:Own M.K H4 (λ a=>Zv (M.plus [D]) vo (cut ρ.length fps4) a\/a∈fe) y e w fe:=o4.weak λ a h=>h.elim (λ h=>.inl (h.elim .inl λ ⟨j,nj,hx⟩=>.inr ⟨j,λ z=>nj (hvo j z (zvc hx).2),(zvc hx).1⟩)) .inr;have back3:∀ a,H3 a=none->H' a=none:=λ a e=>by
        cases e':H' a with
        | none=>rfl
        | some o=>exact absurd e (k3.dom a (by rw [e'];simp))
       have back1:∀ a,H' a=none->H a=none:=λ a e=>by
        cases e':H a with
        | none=>rfl
        | some o=>exact absurd e (k1.dom a (by rw [e'];simp))
       have kt:KD M H fps (upd H4 D (.lst (ys++[w]))) (cut ρ.length fps4):=⟨λ a o ha hn=>by rw [zqf (λ e=>by rw [e,hD] at ha;cases ha)];exact f1.keep a o ha hn,λ a ha=>by
        by_cases eb:a=D
        ·rw [eb,zqe];simp
        ·rw [zqf eb];exact f1.dom a ha,f1.sub,f1.same⟩
       refine ⟨f5,by rw [tm.length];exact hz,els.length - (i + 1),by omega,rfl,ρ4.take ρ.length,cut ρ.length fps4,acc++[(y,e)],fpl++fe,f4.touch f5,kt,f3,?_,λ a ha=>?_,zqe,by rw [eF,<- hlen];exact ec⟩
       ·exact (tm4.at zD ⟨.l ys,f5⟩ hDl).snoc (oy.at (.inl zD) ⟨.l ys,f5⟩ hDe λ _ _ n=>n) λ a ha hb=>by
         obtain ⟨xs,e⟩:=tm.lsts a ha;rw [back3 a (t4.new a hb)] at e;cases e
       ·rcases jd0.mp ha with z | z
        ·exact ⟨(hf a z).1,notZ f2 z⟩
        ·refine ⟨back1 a (back3 a (t4.new a z)),λ hz=>t4.ndj a z ?_⟩;rcases hz with hz | ⟨j,hz⟩
         ·exact .inl hz
         ·exact .inr ⟨j,(zvc hz).1⟩
      ·rw [if_neg hz] at ec;cases ec
 ·left
  have ed:els.drop i=[]:=jj6 (by omega);rw [ed] at ec;rw [<- ec] at q;unfold zwm at q;exact ⟨hst hD k1 (by omega),q D ys H1 fps1 fpl k1 g1 r1 hD h1D tm hf⟩
end
section
variable {M:Fm}{ρ ρ':Rho}{σ σ':St}{H H' H'':Hp}{fps fps' fps'':Fps}{vs vs':List Nat}
def zzf:List (PV×Nat)->Bool
 | []=>true
 | p::r=>(p.2 == om) && zzf r
theorem zvx:∀ {xs:List (PV×Nat)},zzf xs=true->∀ p∈xs,p.2=om
 | [],_,_,h=>nomatch h
 | p::r,h,q,hq=>by
  unfold zzf at h;rw [ja9] at h;rcases jc0.mp hq with e | e
  ·rw [e];exact eq_of_beq h.1
  ·exact zvx h.2 q e
def zze (acc:List (PV×Nat)) (ρ:Rho):Rz (PV×Nat×Rho):=.ok (.lst (acc.map (·.1)),if zzf acc then om else 1,ρ)
def zxa (f:Fx) (k:Nat) (asg:PV->Rho->Option Rho) (test:Fb) (elt:Fx):Fx:=λ ρ=>match f ρ with
 | .ok (.lst xs,_,ρ1)=>(zwm k asg test elt xs ρ1 []).bindN λ (acc,ρ2)=>zze acc ρ2
 | .ok (.tup xs,_,ρ1)=>(zwm k asg test elt xs ρ1 []).bindN λ (acc,ρ2)=>zze acc ρ2
 | .ok (.str z,_,ρ1)=>if qc7 z=true then (zwm k asg test elt (zbh z) ρ1 []).bindN λ (acc,ρ2)=>zze acc ρ2 else .no
 | .ok _=>.no
 | .exc c=>.exc c
 | .no=>.no
def zxd (en:List (PV×Nat)->Option (Int×Int)) (fa:Fa) (k:Nat) (asg:PV->Rho->Option Rho) (test:Fb) (elt:Fx):Fx:=λ ρ=>match fa ρ with
 | .ok (xs,ρ1)=>(match en xs with
  | some (i,j)=>(zwm k asg test elt (zvn i (j - i).toNat) ρ1 []).bindN λ (acc,ρ2)=>zze acc ρ2
  | none=>.no)
 | .exc c=>.exc c
 | .no=>.no
theorem zjw {D:Addr}{acc:List (PV×Nat)}{ws:List V}{fpl:List Addr}{vo:List Nat}{Q:VK}{H0:Hp}{fps0:Fps}{ρ0:Rho}
  (rep0:Rep M ρ σ H fps) (k0:KD M H0 fps0 H fps) (g0:Agr M ρ0 ρ) (q:∀ v H' fps' fp,KD M H0 fps0 H' fps'->Agr M ρ0 ρ'->Rep M ρ' σ H' fps'->Own M.K H' (Zt M vo fps' fp) (.lst (acc.map (·.1))) (if zzf acc then om else 1) v fp->Temp M vo H0 H' fps' fp->Q v H')
  (k:KD M H fps H' fps') (g:Agr M ρ ρ') (r:Rep (M.plus [D]) ρ' σ H' fps') (hD:H D=none) (hD':H' D=some (.lst ws)) (tm:Tmps M.K H' (Zv (M.plus [D]) vo fps') acc ws fpl) (hf:∀ a∈fpl,H a=none/\¬ Zf (M.plus [D]) fps' a):Q (.ref D) H':=by
 have back:∀ a,H a=none->H0 a=none:=λ a e=>by
  cases e':H0 a with
  | none=>rfl
  | some o=>exact absurd e (k0.dom a (by rw [e'];simp))
 have nD:¬ Zf M fps' D:=λ z=>by
  rcases z with z | ⟨j,z⟩
  ·exact rep0.zd D z hD
  ·exact r.zo j D z (.inr (by simp))
 have hDl:D∉fpl:=λ z=>(hf D z).2 (.inl (.inr (by simp)));have zt:∀ a,Zt M vo fps' [D] a->Zv (M.plus [D]) vo fps' a:=λ a h=>h.elim (λ h=>h.elim (λ h=>.inl (.inl h)) .inr) λ h=>.inl (.inr h);cases ho:zzf acc with
 | true=>
  rw [ho] at q;refine q (.ref D) H' fps' (D::fpl) (k0.trans k) (g0.trans g) r.minus ?_ ⟨λ a ha=>?_,λ a ha=>?_⟩
  ·rw [Own];exact ⟨D,ws,rfl,.inr ⟨(by decide),fpl,hD',rfl,hDl,OwnL.full _ ws fpl (tm.all (zvx ho))⟩⟩
  ·rcases jc0.mp ha with z | z
   ·rw [z];exact back D hD
   ·exact back a (hf a z).1
  ·rcases jc0.mp ha with z | z
   ·rw [z];exact nD
   ·exact λ y=>(hf a z).2 (y.elim (λ y=>.inl (.inl y)) .inr)
 | false=>
  rw [ho] at q;refine q (.ref D) H' fps' [D] (k0.trans k) (g0.trans g) r.minus ?_ ⟨λ a ha=>?_,λ a ha=>?_⟩
  ·show Own M.K H' (Zt M vo fps' [D]) (.lst (acc.map (·.1))) 1 (.ref D) [D];rw [Own];refine ⟨D,ws,rfl,.inr ⟨(by decide),[],hD',rfl,(λ z=>nomatch z),?_⟩⟩;rw [zmi];exact (tm.cold λ a ha z=>(hf a ha).2 z.zf).weak zt
  ·rw [jb4.mp ha];exact back D hD
  ·rw [jb4.mp ha];exact nD
theorem qbx {g:TG}{is vI vE vo:List Nat}{asg:PV->Rho->Option Rho}{test:Fb}{elt f:Fx}{k n:Nat}{Q:VK}{P:Fm->Prop}
  (hn:σ.length=n) (hP:∀ D,P (M.comp D n vI)) (hal:∀ i,∀ j∈M.al i,M.Ms j=false) (hvI:∀ i∈vI,M.Ms i=false) (hvE:∀ i∈vE,M.Ms i=false) (his:∀ i∈is,n<=i) (hg:∀ D,GOk (M.comp D n vI) vI is g asg)
  (hvo:∀ i,i∈vE->i < n->i∈vo) (hvo2:∀ i∈vo,M.Ms i=false) (hq:tE M (zxa f k asg test elt) vo σ H Q):
  zgp k (iSeq M.K (tE M f vI)) g (λ σ H Q=>∃ M',P M'/\tT M' test σ H Q) (λ σ H Q=>∃ M',P M'/\tE M' elt vE σ H Q) σ H Q:=by
 obtain ⟨ρ,fps,rep,q⟩:=hq;refine ⟨ρ,fps,rep,?_⟩;unfold zxa at q;cases ef:f ρ with
 | no=>rw [ef] at q;exact q
 | exc c=>rw [ef] at q;exact q
 | ok p=>
  obtain ⟨x,d,ρ1⟩:=p;rw [ef] at q;intro v H1 fps1 f1 k1 g1 rep1 o1 t1;have o0:Own M.K H1 (Zv M vI fps1) x 0 v []:=Own.freeze (λ _ z=>.inl z) x d v f1 (λ a ha z=>t1.ndj a ha z.zf) o1;have hl:n=ρ1.length:=by rw [rep1.len];exact hn.symm
  have fin:∀ (els:List PV),(match (zwm k asg test elt els ρ1 []).bindN λ (acc,ρ2)=>zze acc ρ2 with
    | .ok (x,d,ρ')=>∀ v H' fps' fp,KD M H fps H' fps'->Agr M ρ ρ'->Rep M ρ' σ H' fps'->Own M.K H' (Zt M vo fps' fp) x d v fp->Temp M vo H H' fps' fp->Q v H'
    | .exc c=>∀ H' fps',KD M H fps H' fps'->M.W σ c H'
    | .no=>False)->(match zwm k asg test elt els ρ1 [] with
    | .ok (acc,ρ')=>∀ D ws H' fps' fpl,KD M H1 fps1 H' fps'->Agr M ρ1 ρ'->Rep (M.plus [D]) ρ' σ H' fps'->H1 D=none->H' D=some (.lst ws)->Tmps M.K H' (Zv (M.plus [D]) vo fps') acc ws fpl->(∀ a∈fpl,H1 a=none/\¬ Zf (M.plus [D]) fps' a)->Q (.ref D) H'
    | _=>False):=λ els q=>by
   cases ec:zwm k asg test elt els ρ1 [] with
   | no=>rw [ec] at q;exact q.elim
   | exc c=>rw [ec] at q;exact q.elim
   | ok p=>
    obtain ⟨acc,ρ2⟩:=p;rw [ec] at q;exact λ D ws H' fps' fpl k g r hD hD' tm hf=>zjw rep1 k1 g1 q k g r hD hD' tm hf
  cases x with
  | lst xs=>
   have one:∀ {Z:Addr->Prop}{H:Hp},Own M.K H Z (.lst xs) 0 v []->∃ a ws,v=.ref a/\SqL M.K H a ws/\OwnL M.K H Z xs 0 ws []:=λ o=>by
    rw [Own] at o;obtain ⟨b,ws,e,⟨_,hr,_,ol⟩ | ⟨h,_⟩⟩:=o
    ·exact ⟨b,ws,e,.inl (.inl hr.1),ol⟩
    ·exact absurd rfl h
   obtain ⟨a,ws,rfl,sq,ol⟩:=one o0;refine .inl ⟨a,rfl,.inl ⟨⟨ws,sq⟩,?_⟩⟩;refine zki (els:=xs) hP hl hal hvI hvE his hg hvo hvo2 rep1 (λ {D H' fps' i} hD k' h=>?_) (λ {D H' fps' i} hD k' h=>?_) (λ {D H' fps' i x H''} hD k' h y=>?_) (fin xs q)
   ·obtain ⟨a',ws,e,s,ol⟩:=one (KD.seen rep1 k' hD hvI o0);cases e;exact ⟨ws,ws[i]'(by rw [ol.length];exact h),s,by simp⟩
   ·obtain ⟨a',ws,e,s,ol⟩:=one (KD.seen rep1 k' hD hvI o0);cases e;exact ⟨ws,s,by rw [ol.length];exact h⟩
   ·obtain ⟨a',ws,e,s,ol⟩:=one (KD.seen rep1 k' hD hvI o0);cases e;obtain ⟨e1,e2⟩:=y;subst e1;exact ⟨λ _ _ h=>h,ol.get (e2 ws s)⟩
  | tup xs=>
   have one:∀ {Z:Addr->Prop}{H:Hp},Own M.K H Z (.tup xs) 0 v []->∃ a ws,v=.ref a/\SqT M.K H a ws/\OwnL M.K H Z xs 0 ws []:=λ o=>by
    rw [Own] at o;obtain ⟨a,ws,e,hr,ol⟩:=o;exact ⟨a,ws,e,.inl (.inl hr),ol⟩
   obtain ⟨a,ws,rfl,sq,ol⟩:=one o0;refine .inl ⟨a,rfl,.inr ⟨⟨ws,sq⟩,?_⟩⟩;refine zki (els:=xs) hP hl hal hvI hvE his hg hvo hvo2 rep1 (λ {D H' fps' i} hD k' h=>?_) (λ {D H' fps' i} hD k' h=>?_) (λ {D H' fps' i x H''} hD k' h y=>?_) (fin xs q)
   ·obtain ⟨a',ws,e,s,ol⟩:=one (KD.seen rep1 k' hD hvI o0);cases e;exact ⟨ws,ws[i]'(by rw [ol.length];exact h),s,by simp⟩
   ·obtain ⟨a',ws,e,s,ol⟩:=one (KD.seen rep1 k' hD hvI o0);cases e;exact ⟨ws,s,by rw [ol.length];exact h⟩
   ·obtain ⟨a',ws,e,s,ol⟩:=one (KD.seen rep1 k' hD hvI o0);cases e;obtain ⟨e1,e2⟩:=y;subst e1;exact ⟨λ _ _ h=>h,ol.get (e2 ws s)⟩
  | str z=>
   have o0':=o0;rw [Own] at o0';obtain ⟨rfl,_⟩:=o0';dsimp only at q;by_cases ha:qc7 z=true
   ·rw [if_pos ha] at q;refine .inr ⟨z,rfl,ha,?_⟩;have hl':(zbh z).length=z.cps.size:=by unfold zbh;rw [ja3,jf4]
    refine zki (els:=zbh z) hP hl hal hvI hvE his hg hvo hvo2 rep1 (λ {D H' fps' i} hD k' h=>?_) (λ {D H' fps' i} hD k' h=>?_) (λ {D H' fps' i x H''} hD k' h y=>?_) (fin (zbh z) q)
    ·show i < z.cps.size;omega
    ·show z.cps.size<=i;omega
    ·obtain ⟨rfl,c,hc,rfl⟩:=y;refine ⟨λ _ _ h=>h,.str ⟨#[c]⟩,?_,by rw [Own];exact ⟨rfl,rfl⟩⟩;unfold zbh;rw [jc1,ji2,hc];rfl
   ·rw [if_neg ha] at q;exact q.elim
  | _=>exact q.elim
theorem zms {g:TG}{is vI vE vo:List Nat}{asg:PV->Rho->Option Rho}{test:Fb}{elt:Fx}{k n:Nat}{Q:VK}{P:Fm->Prop}{lo:Int}{m:Nat}{H0:Hp}{fps0:Fps}{ρ0:Rho}
  (hn:σ.length=n) (hP:∀ D,P (M.comp D n vI)) (hal:∀ i,∀ j∈M.al i,M.Ms j=false) (hvI:∀ i∈vI,M.Ms i=false) (hvE:∀ i∈vE,M.Ms i=false) (his:∀ i∈is,n<=i) (hg:∀ D,GOk (M.comp D n vI) vI is g asg)
  (hvo:∀ i,i∈vE->i < n->i∈vo) (hvo2:∀ i∈vo,M.Ms i=false) (k0:KD M H0 fps0 H fps) (g0:Agr M ρ0 ρ) (rep:Rep M ρ σ H fps)
  (q:match (zwm k asg test elt (zvn lo m) ρ []).bindN λ (acc,ρ2)=>zze acc ρ2 with
    | .ok (x,d,ρ')=>∀ v H' fps' fp,KD M H0 fps0 H' fps'->Agr M ρ0 ρ'->Rep M ρ' σ H' fps'->Own M.K H' (Zt M vo fps' fp) x d v fp->Temp M vo H0 H' fps' fp->Q v H'
    | .exc c=>∀ H' fps',KD M H0 fps0 H' fps'->M.W σ c H'
    | .no=>False):
  ∀ D,H D=none->∃ W:Nat->Nat->List V->Hp->Prop,(∃ m,W 0 m [] (upd H D (.lst [])))/\∀ i j ys H1,W i j ys H1->H1 D=some (.lst ys) /\
   (((Itr lo m).stop i H1/\Q (.ref D) H1)\/((Itr lo m).go i H1/\∀ x H',(Itr lo m).yld i H1 x H'->g x (σ++ja6 k none) H' λ σ2 H2=>∃ M',P M'/\tT M' test σ2 H2 λ b H3=>if b=true then ∃ M',P M'/\tE M' elt vE σ2 H3 λ y H4=>H4 D=some (.lst ys)/\ys.length < va5/\∃ m',m' < j/\W (i + 1) m' (ys++[y]) (upd H4 D (.lst (ys++[y]))) else ∃ m',m' < j/\W (i + 1) m' ys H3)):=by
 have hl:n=ρ.length:=by rw [rep.len];exact hn.symm
 refine zki (els:=zvn lo m) hP hl hal hvI hvE his hg hvo hvo2 rep (λ {D H' fps' i} hD k' h=>?_) (λ {D H' fps' i} hD k' h=>?_) (λ {D H' fps' i x H''} hD k' h y=>?_) ?_
 ·rw [zwu] at h;exact h
 ·rw [zwu] at h;exact h
 ·rw [zwu] at h;obtain ⟨e1,e2⟩:=y;subst e1;exact ⟨λ _ _ h=>h,.int (lo + i),by simp [zvn,h],by rw [e2,Own];exact ⟨rfl,rfl⟩⟩
 ·cases ec:zwm k asg test elt (zvn lo m) ρ [] with
  | no=>rw [ec] at q;exact q.elim
  | exc c=>rw [ec] at q;exact q.elim
  | ok p=>
   obtain ⟨acc,ρ2⟩:=p;rw [ec] at q;exact λ D ws H' fps' fpl k g r hD hD' tm hf=>zjw rep k0 g0 q k g r hD hD' tm hf
theorem qh0 {g:TG}{is vI vE vo:List Nat}{asg:PV->Rho->Option Rho}{test:Fb}{elt:Fx}{fa:Fa}{k n:Nat}{Q:VK}{P:Fm->Prop}
  (hn:σ.length=n) (hP:∀ D,P (M.comp D n vI)) (hal:∀ i,∀ j∈M.al i,M.Ms j=false) (hvI:∀ i∈vI,M.Ms i=false) (hvE:∀ i∈vE,M.Ms i=false) (his:∀ i∈is,n<=i) (hg:∀ D,GOk (M.comp D n vI) vI is g asg)
  (hvo:∀ i,i∈vE->i < n->i∈vo) (hvo2:∀ i∈vo,M.Ms i=false) (hq:tE M (zxd zqu fa k asg test elt) vo σ H Q):
  zgp k (qi1 (tL M fa vs)) g (λ σ H Q=>∃ M',P M'/\tT M' test σ H Q) (λ σ H Q=>∃ M',P M'/\tE M' elt vE σ H Q) σ H Q:=by
 obtain ⟨ρ,fps,rep,q⟩:=hq;refine ⟨ρ,fps,rep,?_⟩;unfold zxd at q;cases ef:fa ρ with
 | no=>rw [ef] at q;exact q
 | exc c=>rw [ef] at q;exact q
 | ok p=>
  obtain ⟨xs,ρ1⟩:=p;rw [ef] at q;intro ws H1 fps1 f1 k1 g1 rep1 o1 t1;dsimp only at q;cases ee:zqu xs with
  | none=>rw [ee] at q;exact q.elim
  | some ij=>
   obtain ⟨i,j⟩:=ij;rw [ee] at q;unfold zqu at ee;split at ee
   ·rename_i j' d;split at ee
    ·rename_i hb;cases ee;obtain ⟨v,r,f1,f2,rfl,_,_,h1,h2⟩:=o1;obtain ⟨rfl,_⟩:=h2;rw [Own] at h1;obtain ⟨rfl,_⟩:=h1;refine ⟨j,rfl,hb.1,hb.2,?_⟩;have e:(j - 0).toNat=j.toNat:=by omega
     dsimp only at q;rw [e] at q;exact zms hn hP hal hvI hvE his hg hvo hvo2 k1 g1 rep1 q
    ·cases ee
   ·cases ee
theorem qhz {g:TG}{is vI vE vo:List Nat}{asg:PV->Rho->Option Rho}{test:Fb}{elt:Fx}{fa:Fa}{k n:Nat}{Q:VK}{P:Fm->Prop}
  (hn:σ.length=n) (hP:∀ D,P (M.comp D n vI)) (hal:∀ i,∀ j∈M.al i,M.Ms j=false) (hvI:∀ i∈vI,M.Ms i=false) (hvE:∀ i∈vE,M.Ms i=false) (his:∀ i∈is,n<=i) (hg:∀ D,GOk (M.comp D n vI) vI is g asg)
  (hvo:∀ i,i∈vE->i < n->i∈vo) (hvo2:∀ i∈vo,M.Ms i=false) (hq:tE M (zxd zph fa k asg test elt) vo σ H Q):
  zgp k (qi0 (tL M fa vs)) g (λ σ H Q=>∃ M',P M'/\tT M' test σ H Q) (λ σ H Q=>∃ M',P M'/\tE M' elt vE σ H Q) σ H Q:=by
 obtain ⟨ρ,fps,rep,q⟩:=hq;refine ⟨ρ,fps,rep,?_⟩;unfold zxd at q;cases ef:fa ρ with
 | no=>rw [ef] at q;exact q
 | exc c=>rw [ef] at q;exact q
 | ok p=>
  obtain ⟨xs,ρ1⟩:=p;rw [ef] at q;intro ws H1 fps1 f1 k1 g1 rep1 o1 t1;dsimp only at q;cases ee:zph xs with
  | none=>rw [ee] at q;exact q.elim
  | some ij=>
   obtain ⟨i,j⟩:=ij;rw [ee] at q;unfold zph at ee;split at ee
   ·rename_i i' d j' d';split at ee
    ·rename_i hb;cases ee;obtain ⟨v,r,f1,f2,rfl,_,_,h1,h2⟩:=o1;obtain ⟨v2,r2,f3,f4,rfl,_,_,h3,h4⟩:=h2;obtain ⟨rfl,_⟩:=h4;rw [Own] at h1 h3;obtain ⟨rfl,_⟩:=h1;obtain ⟨rfl,_⟩:=h3;exact ⟨i,j,rfl,hb,zms hn hP hal hvI hvE his hg hvo hvo2 k1 g1 rep1 q⟩
    ·cases ee
   ·cases ee
end
def bmV:List va2:=[.type "ValueError",.type "Exception",.type "BaseException",.type "object"]
def isX (c d:Nat):Bool:=c == d || d == 0
structure XC (h:Heap) (K:Frag) (c:Nat) (C:Addr):Prop where
 obj:∃ bm N nm q bs hdct sn sub ab col dd k0 k1 k2 k3 k5 mN,h.get? C=some (excClassObj nm q C N bs bm hdct sn sub ab col dd k0 k1 k2 k3 k5 "ValueError.__new__")/\h.Ns N mN/\mN "__init__" = none/\OwnTail h bmV bm/\∀ d D,qhc K d=some D->(Value.ref C::bm).contains (.ref D)=isX c d
def XEof (W:Nat->Hp->Prop):XK:=λ v _ H'=>match v with
 | .int c _=>W c.toNat H'
 | _=>False
def CXr (P:vb0) (w:vb7) (K:Frag):CXT:=λ outer H s E e s'=>∃ (a C:Addr) (c:Nat) (H':Hp) (B:Heap) (a0:va2),e=.ref a/\qhc K c=some C/\s'.os=s.os/\vi9 s'.gens/\Un (frs outer) [] H H' s.heap s'.heap/\HOk P w H' s'.heap/\H' a=none/\s.heap.get? a=none /\
 Heap.FlyingW B outer a (.ref C) a0 s'.heap/\(∀ b o,s'.heap.get? b=some o->H' b≠none->B.get? b=some o)/\(∀ b o,s.heap.get? b=some o->H b=none->b∉frs outer->B.get? b=some o)/\(∀ b,H b≠none->H' b≠none)/\E (.int (c:Int) 0) none H'
theorem zfi {P:vb0}{w:vb7}{H:Hp}{h:Heap}{a:Addr}{o:HO} (x:zxp P w H h a o):∃ u,h.get? a=some u:=by
 cases o with
 | lst xs=>obtain ⟨_,_,_,_,e⟩:=x;exact ⟨_,e⟩
 | tup xs=>obtain ⟨_,_,_,o,e,_⟩:=x;exact ⟨_,e⟩
 | dK kvs=>obtain ⟨_,_,_,_,o,_,_,e,_⟩:=x;exact ⟨_,e⟩
 | dT kvs=>obtain ⟨_,_,_,_,o,_,_,e,_⟩:=x;exact ⟨_,e⟩
 | set S n=>obtain ⟨o,_,_,_,e,_⟩:=x;exact ⟨_,e⟩
 | ins C dx fs=>obtain ⟨_,_,_,e,_⟩:=x;exact ⟨_,e⟩
 | own y=>exact x
 | xd fs=>obtain ⟨_,⟨_,_,_,e,_⟩,_⟩:=x;exact ⟨_,e⟩
 | rng lo hi=>obtain ⟨_,_,_,e⟩:=x;exact ⟨_,e⟩
 | frz ob u=>obtain ⟨e,_⟩:=x;exact ⟨_,e⟩
 | tbl ps=>exact ⟨_,(show h.get? a=some _ from x)⟩
 | met f y=>exact ⟨_,(show h.get? a=some _ from x)⟩
 | ext φ=>exact x.2.1
section
variable {X:Cx}{pins:List (Addr×Obj)}{σ:St}{H H1:Hp}{s s2:va3}{h1 B:Heap}{a C:Addr}{a0:va2}{c:Nat}{E:XK}{P:vb0}{w:vb7}{K:Frag}
theorem qcw (I:L2.Inv X pins σ H s) (hex:X.ex=[]) (u:Un (frs X.stack) [] H H1 s.heap h1) (hok:HOk X.prog X.w H1 h1) (fl:Heap.FlyingW B X.outer a (.ref C) a0 s2.heap) (up:h1.UpToSlots s2.heap)
  (i1:∀ b o,h1.get? b=some o->H1 b≠none->B.get? b=some o) (i2:∀ b o,s.heap.get? b=some o->H b=none->b∉frs X.stack->B.get? b=some o) (ha:H1 a=none) (hn:s.heap.get? a=none)
  (hE:E (.int (c:Int) 0) none H1) (hd:∀ b,X.H₀ b≠none->H1 b≠none) (hc:qhc X.K c=some C) (ho:s2.os=s.os) (hg:vi9 s2.gens):CXr X.prog X.w X.K X.outer X.H₀ X.s₀ E (.ref a) s2:=by
 have nx:∀ b:Addr,b∉X.ex:=λ b z=>by rw [hex] at z;cases z
 have key:∀ b o,X.s₀.heap.get? b=some o->X.H₀ b=none->b∉frs X.outer->B.get? b=some o:=λ b o e n hb=>by
  refine i2 b o (I.base.keep b o e n hb (nx b)) (I.base.free b o e n (nx b)) λ z=>?_;rcases jc0.mp (I.stkSub b z) with z | z
  ·exact absurd (jb6 (va6 e) I.ok.above) (by rw [z];exact jd8 _)
  ·exact hb z
 have fr:∀ b o,X.s₀.heap.get? b=some o->X.H₀ b=none->b∈frs X.outer->∃ sl,s2.heap.get? b=some { o with slots:=sl }:=λ b o e n hb=>by
  obtain ⟨sl,e1⟩:=I.base.slot b o e n hb (nx b);obtain ⟨sl',e2⟩:=u.any e1 (I.base.free b o e n (nx b)) (by simp);obtain ⟨_,o',ho',hnf⟩:=I.ok.funs.mem hb;rw [e] at ho';cases ho';obtain ⟨sl2,e3⟩:=up b _ e2 hnf;exact ⟨sl2,e3⟩
 have trk:∀ b v,H1 b≠none->h1.get? b=some v->s2.heap.get? b=some v:=λ b v hb e=>fl.1 b v (i1 b v e hb);have un:Un (frs X.outer) [] X.H₀ H1 X.s₀.heap s2.heap:=by
  refine ⟨λ b o e n hb _=>fl.1 b o (key b o e n hb),λ b o e n hb _=>fr b o e n hb,λ b o e n _=>?_,λ b o e _=>?_,λ b xs e=>u.tups b xs (I.base.tups b xs e),λ b o xs e=>u.frzs b o xs (I.base.frzs b o xs e),λ b ps e=>?_⟩
  ·obtain ⟨o',e'⟩:=I.base.there b o e (nx b);exact u.free b o' e' (I.base.free b o e n (nx b)) (by simp)
  ·by_cases h0:X.H₀ b=none
   ·by_cases hb:b∈frs X.outer
    ·obtain ⟨sl,e2⟩:=fr b o e h0 hb;exact ⟨_,e2⟩
    ·exact ⟨o,fl.1 b o (key b o e h0 hb)⟩
   ·obtain ⟨o',e'⟩:=I.base.there b o e (nx b);obtain ⟨o2,e2⟩:=u.there b o' e' (by simp);exact ⟨o2,trk b o2 (hd b h0) e2⟩
  ·obtain ⟨m1,e1⟩:=I.base.tbls b ps e;obtain ⟨m2,e2⟩:=u.tbls b _ e1;exact ⟨m1++m2,by rw [e2,jo1]⟩
 refine ⟨a,C,c,H1,B,a0,rfl,hc,ho.trans I.os,hg,un,λ b o e=>?_,ha,?_,fl,λ b o e hb=>?_,key,hd,hE⟩
 ·refine (hok b o e).stay (λ d v hd q=>trk d v ?_ q) (λ _ q=>q) λ _ _ q=>q;rcases hd with rfl | hd
  ·rw [e];simp
  ·rw [hd];simp
 ·cases q:X.s₀.heap.get? a with
  | none=>rfl
  | some o=>
   obtain ⟨o',e'⟩:=I.base.there a o q (nx a);rw [hn] at e';cases e'
 ·cases q:H1 b with
  | none=>exact absurd q hb
  | some o1=>
   obtain ⟨v,hv⟩:=zfi (hok b o1 q);have e2:=trk b v hb hv;rw [e] at e2;cases e2;exact i1 b o hv hb
end
def zgf (CX:CXT) (X:Cx) (W:St->Nat->Hp->Prop):Prop:=∀ (pins:List (Addr×Obj)) (σ:St) (H:Hp) (s:va3) (e:va2) (s':va3),L2.Inv X pins σ H s->CX X.stack H s (XEof (W σ)) e s'->X.xe e s'
def qhp (X:Cx) (W:St->Nat->Hp->Prop):Prop:=∀ (pins:List (Addr×Obj)) (σ:St) (H:Hp) (s:va3) (c:Nat) (C a:Addr) (h':Heap) (args:List va2),L2.Inv X pins σ H s->qhc X.K c=some C->Heap.MadeExcOf s.heap h' a (.ref C) args->W σ c H->X.xe (.ref a) { s with heap:=h' }
abbrev W0:St->Nat->Hp->Prop:=λ _ _ _=>False
theorem qpm {P:vb0}{w:vb7}{K:Frag}{X:Cx}:zgf (CXr P w K) X W0:=λ _ _ _ _ _ _ _ h=>by
 obtain ⟨a,C,c,H',B,a0,_,_,_,_,_,_,_,_,_,_,_,_,hE⟩:=h;exact vf7 hE
def WE (E:XK) (H:Hp):St->Nat->Hp->Prop:=λ _ c H'=>E (.int (c:Int) 0) none H'/\∀ b,H b≠none->H' b≠none
section
variable {P:vb0}{w:vb7}{K:Frag}{mg:Str->Option va2}{base:Heap}{N:List Str}{qual:Str}{scope:vd4}{f:Addr}{cd:va2}{A:vc3}{outer:List Env}{s:va3}{H:Hp}{E:XK}
theorem qij:zgf (CXr P w K) (cxOf (CXr P w K) P w K mg base N qual scope f cd A outer s H E) (WE E H):=by
 intro pins σ H1 s1 e s' I h;obtain ⟨a,C,c,H',B,a0,rfl,hc,ho,hg,un,hok,ha,hn,fl,i1,i2,hd,hE⟩:=h;have hE':WE E H σ c H':=hE;refine wpAny_leaves_onW (by exact I.ok.frames) rfl fl λ h2 f2 up=>?_;exact qcw (s2:={ s' with heap:=h2 }) I rfl un hok f2 up i1 i2 ha hn hE'.1 hE'.2 hc ho hg
theorem qex:qhp (cxOf (CXr P w K) P w K mg base N qual scope f cd A outer s H E) (WE E H):=by
 intro pins σ H1 s1 c C a h' args I hc hx hW;have hin:∀ env∈(cxOf (CXr P w K) P w K mg base N qual scope f cd A outer s H E).stack,∀ b,env.frame=some b->b∈frs (cxOf (CXr P w K) P w K mg base N qual scope f cd A outer s H E).stack:=λ env he b hb=>jl4.mpr ⟨env,he,hb⟩;have trk:∀ b,H1 b≠none->∃ o,s1.heap.get? b=some o:=λ b hb=>by
  cases q:H1 b with
  | none=>exact absurd q hb
  | some u=>exact zfi (I.hok b u q)
 have nfr:∀ b,H1 b≠none->b∉frs (cxOf (CXr P w K) P w K mg base N qual scope f cd A outer s H E).stack:=λ b hb z=>hb (I.stkFree b z);refine wpAny_leaves_madeW (base:=PySem.W.hideAll s1.heap (frs (cxOf (CXr P w K) P w K mg base N qual scope f cd A outer s H E).stack)) (h:=s1.heap) (by exact I.ok.frames) rfl (λ b o q=>PySem.W.of_hideAll _ q) (PySem.W.funFrames_hide I.stack hin) hx λ h2 t f2 _ _ up=>?_;refine qcw (s2:={ s1 with heap:=h2 }) I rfl (Un.kept hx.keeps) (I.hok.kept hx.keeps) f2 up (λ b o e hb=>?_) (λ b o e _ hb=>vk6 _ e hb) ?_ hx.new hW.1 hW.2 hc rfl I.bare
 ·obtain ⟨o1,e1⟩:=trk b hb;have e2:=hx.keeps b o1 e1;rw [e] at e2;cases e2;exact vk6 _ e1 (nfr b hb)
 ·cases q:H1 a with
  | none=>rfl
  | some u=>
   obtain ⟨o,e⟩:=zfi (I.hok a u q);rw [hx.new] at e;cases e
theorem ql9:PassesOwn (vb3 P w) (cxOf (CXr P w K) P w K mg base N qual scope f cd A outer s H E).A (cxOf (CXr P w K) P w K mg base N qual scope f cd A outer s H E).env (cxOf (CXr P w K) P w K mg base N qual scope f cd A outer s H E).xe:=PassesOwn.leaving
end
section
variable {X:Cx}{CX:CXT}{k:Nat}{f:Addr}{fd:vc9}{ps:List Str}{sp:Sp}{x:Str}{p pos:Pos}{e:Expr}{es:List Expr}{t:TA}{W:St->Nat->Hp->Prop}
def qj1 (sp:Sp) (W:St->Nat->Hp->Prop) (t:TA):TE:=λ σ H Q=>t σ H λ vs H1=>sp vs H1 Q (XEof (W σ))
theorem qii (F:FnOk X.prog X.w X.K X.mg X.base CX k f fd ps sp) (hr:Room k X.A) (hg:Gl X x) (hm:X.mg x=some (.ref f)) (hk:ve8 X.K (.ref f)=true) (hb:qan X.K fd ps []) (hx:zgf CX X W) (ha:PA X (e::es) t) (hdb:(x == ("__debug__" : Str))=false)
  (he:va9 (e::es) X.env=(false,eval e X.env)::va9 es X.env) (hpl:(vg4 pos (va9 es X.env)).any (·.1)=false):PE X (.Call (.Name x p) (e::es) [] pos) (qj1 sp W t):=by
 intro pins s σ H Q I h;refine vg1 (qmr I hg hm ?_ hdb);refine PySem.W.callWith_K (h₀:=X.base) I.ok.mod.kin hk (thn (ha pos pins s σ H _ I h) λ us s1 ⟨vs,H1,I1,r,q⟩=>⟨I1.kIn,?_⟩) he hpl;have q':sp vs H1 Q (XEof (W σ)):=q;have hl:(us++[]).length=ps.length:=by rw [jh9,<- r.length];exact F.len _ _ _ _ q'
 have hbd:=hb s1 us I1.kIn hl;rw [jh9] at hbd;refine wpAny_call (codeAny_mono (F.run X.A X.stack s1 H1 ⟨us,[]⟩ us vs Q (XEof (W σ)) hr I1.env0 hbd r q') λ r s' hq=>?_);cases r with
 | error e=>exact hx pins σ H1 s1 e s' I1 hq
 | ok fl=>
  cases fl with
  | ret u=>exact I1.after hq
  | next=>exact vf7 hq
  | brk=>exact vf7 hq
  | cont=>exact vf7 hq
end
def zvd (cells:List (Str×Addr)):List (Str×vd2)->List (Str×Addr)->List (Str×Addr)
 | [],cs=>cs
 | (n,k)::r,cs=>if k == .free then zvd cells r ((n,(cells.lookup n).getD 0)::cs) else zvd cells r cs
theorem zyp {scope:vd4}{env:Env} (h:∀ x∈scope.names,x.2=.free->∃ c,env.cells.lookup x.1=some c):closureFor scope env=pure (zvd env.cells scope.names []):=by
 unfold closureFor;have all:∀ (l:List (Str×vd2)) (cs:List (Str×Addr)),(∀ x∈l,x.2=.free->∃ c,env.cells.lookup x.1=some c) ->
   (forIn l cs λ (x:Str×vd2) (cs:List (Str×Addr))=>if (x.2 == NameKind.free)=true then (do let a<-cellOf env x.1;pure (ForInStep.yield ((x.1,a)::cs))) else pure (ForInStep.yield cs):Sem (List (Str×Addr)))=pure (zvd env.cells l cs):=by
  intro l;induction l with
  | nil=>intro cs _;rfl
  | cons x r ih=>
   intro cs hl;obtain ⟨n,k⟩:=x;rw [jq2];have ih':=λ cs=>ih cs λ y hy=>hl y (ja1 _ hy);by_cases hk:(k == NameKind.free)=true
   ·obtain ⟨c,hc⟩:=hl (n,k) ja2 (by simpa using hk);have e1:cellOf env n=pure c:=by unfold cellOf;rw [hc]
    rw [if_pos hk,e1];simp only [pure_bind];rw [ih',zvd,if_pos hk,hc];rfl
   ·rw [if_neg hk];simp only [pure_bind];rw [ih',zvd,if_neg hk]
 have:=all scope.names [] h
 simp only [bind_pure] at this ⊢;exact this
theorem zxn (cells:List (Str×Addr)) (x:Str) (c:Addr):∀ (l:List (Str×vd2)) (cs:List (Str×Addr)),(∀ y∈l,y.2=.free->∃ c,cells.lookup y.1=some c)->(cs.lookup x=some c->cells.lookup x=some c)->(zvd cells l cs).lookup x=some c->cells.lookup x=some c
 | [],cs,_,h,e=>h e
 | (n,k)::r,cs,hl,h,e=>by
  unfold zvd at e;split at e
  ·rename_i hk;refine zxn cells x c r _ (λ y hy=>hl y (ja1 _ hy)) (λ e'=>?_) e;rw [je2] at e';split at e'
   ·rename_i hx;obtain ⟨c',hc⟩:=hl (n,k) ja2 (by simpa using hk);rw [hc] at e';cases e';rw [eq_of_beq hx];exact hc
   ·exact h e'
  ·exact zxn cells x c r cs (λ y hy=>hl y (ja1 _ hy)) h e
theorem zjd (cells:List (Str×Addr)) (x:Str):∀ (l:List (Str×vd2)) (cs:List (Str×Addr)),(∃ c,cs.lookup x=some c)->∃ c,(zvd cells l cs).lookup x=some c
 | [],cs,h=>h
 | (n,k)::r,cs,h=>by
  unfold zvd;split
  ·refine zjd cells x r _ ?_;rw [je2];split
   ·exact ⟨_,rfl⟩
   ·exact h
  ·exact zjd cells x r cs h
theorem zpq (cells:List (Str×Addr)) (x:Str):∀ (l:List (Str×vd2)) (cs:List (Str×Addr)),(x,NameKind.free)∈l->∃ c,(zvd cells l cs).lookup x=some c
 | [],_,h=>nomatch h
 | (n,k)::r,cs,h=>by
  unfold zvd;rcases jc0.mp h with e | e
  ·cases e;rw [if_pos (show (NameKind.free == NameKind.free)=true by decide)];exact zjd cells x r _ ⟨_,by rw [je2,beq_self_eq_true]⟩
  ·split
   ·exact zpq cells x r _ e
   ·exact zpq cells x r cs e
theorem zpr:∀ (names:List (Str×vd2)) (n:Nat) (acc:List (Str×Addr)) (x:Str) (c:Addr),(vc4 n names acc).lookup x=some c->acc.lookup x=some c\/(n<=c/\(x,NameKind.cell)∈names)
 | [],n,acc,x,c,h=>.inl h
 | (m,k)::r,n,acc,x,c,h=>by
  unfold vc4 at h;split at h
  ·rename_i hk;have hk':k=.cell:=by simpa using hk
   rcases zpr r _ _ x c h with z | ⟨z,y⟩
   ·rw [je2] at z;split at z
    ·rename_i hx;cases z;exact .inr ⟨ja4 _,by rw [eq_of_beq hx,hk'];exact ja2⟩
    ·exact .inl z
   ·exact .inr ⟨jg0 z,ja1 _ y⟩
  ·rcases zpr r _ _ x c h with z | ⟨z,y⟩
   ·exact .inl z
   ·exact .inr ⟨z,ja1 _ y⟩
theorem zfy:∀ (names:List (Str×vd2)) (n:Nat) (acc:List (Str×Addr)) (x:Str),(x,NameKind.cell)∉names->(vc4 n names acc).lookup x=acc.lookup x
 | [],n,acc,x,h=>rfl
 | (m,k)::r,n,acc,x,h=>by
  unfold vc4;split
  ·rename_i hk;have hk':k=.cell:=by simpa using hk
   rw [zfy r _ _ x λ z=>h (ja1 _ z),je2];split
   ·rename_i hx;exact absurd (by rw [eq_of_beq hx,hk'];exact ja2) h
   ·rfl
  ·exact zfy r _ _ x λ z=>h (ja1 _ z)
theorem qc1:∀ (names:List (Str×vd2)) (n:Nat) (acc:List (Str×Addr)) (x:Str),(x,NameKind.cell)∈names->∃ c,(vc4 n names acc).lookup x=some c/\n<=c
 | [],n,acc,x,h=>nomatch h
 | (m,k)::r,n,acc,x,h=>by
  by_cases hr:(x,NameKind.cell)∈r
  ·unfold vc4;split
   ·obtain ⟨c,e,l⟩:=qc1 r (n + 1) ((m,n)::acc) x hr;exact ⟨c,e,jg0 l⟩
   ·exact qc1 r n acc x hr
  ·rcases jc0.mp h with e | e
   ·cases e;unfold vc4;rw [if_pos (by decide),zfy r _ _ _ hr,je2,beq_self_eq_true];exact ⟨n,rfl,ja4 _⟩
   ·exact absurd e hr
theorem qhf:∀ (names:List (Str×vd2)) (n:Nat) (acc:List (Str×Addr)),(∀ x y c,acc.lookup x=some c->acc.lookup y=some c->x=y)->(∀ x c,acc.lookup x=some c->c < n)->∀ x y c,(vc4 n names acc).lookup x=some c->(vc4 n names acc).lookup y=some c->x=y
 | [],n,acc,hi,_,x,y,c,h1,h2=>hi x y c h1 h2
 | (m,k)::r,n,acc,hi,hl,x,y,c,h1,h2=>by
  unfold vc4 at h1 h2;split at h1
  ·rename_i hk;rw [if_pos hk] at h2;refine qhf r (n + 1) ((m,n)::acc) (λ x y c h1 h2=>?_) (λ x c h=>?_) x y c h1 h2
   ·rw [je2] at h1 h2;split at h1
    ·rename_i e1;cases h1;split at h2
     ·rename_i e2;rw [eq_of_beq e1,eq_of_beq e2]
     ·exact absurd (hl y _ h2) (jd8 _)
    ·split at h2
     ·cases h2;exact absurd (hl x _ h1) (jd8 _)
     ·exact hi x y c h1 h2
   ·rw [je2] at h;split at h
    ·cases h;exact ji8 _
    ·exact jm0 (hl x c h)
  ·rename_i hk;rw [if_neg hk] at h2;exact qhf r n acc hi hl x y c h1 h2
theorem qax:∀ (names:List (Str×vd2)) (h:Heap) (acc:List (Str×Addr)) (x:Str) (c:Addr),(vc4 h.objs.size names acc).lookup x=some c->acc.lookup x=some c\/(pushCells h names).IsCell c none
 | [],h,acc,x,c,e=>.inl e
 | (m,k)::r,h,acc,x,c,e=>by
  unfold vc4 at e;unfold pushCells;split at e
  ·rename_i hk;rw [if_pos hk];have hs:(h.push { cls:=.type "cell",data:=.cell none }).objs.size=h.objs.size + 1:=vk4 ..;have e':(vc4 (h.push { cls:=.type "cell",data:=.cell none }).objs.size r ((m,h.objs.size)::acc)).lookup x=some c:=by rw [hs];exact e
   rcases qax r _ _ x c e' with z | z
   ·rw [je2] at z;split at z
    ·cases z;exact .inr ⟨_,vn0 _ _ _ _ (va7 _ rfl),rfl⟩
    ·exact .inl z
   ·exact .inr z
  ·rename_i hk;rw [if_neg hk];exact qax r h acc x c e
theorem zhk {M:Model}{A:vc3}{E:va2->va3->Prop}{s:va3}{scope:vd4}{globals:Addr}{cl:List (Str×Addr)}{qual:Str}{func:Option Addr}{code:va2}{around:Env}{builtins:Addr}{Q:Env->va3->Prop}
  (hQ:Q (newEnv scope s.heap.objs.size globals (vc4 (s.heap.objs.size + 1) scope.names cl) qual func code (some around) builtins) { s with heap:=pushCells (s.heap.push { cls:=.type "dict",data:=.dict #[] }) scope.names }):
  vb1 M A (vo4 scope globals cl [] qual func code (some around) builtins) Q E s:=by
 simp only [vo4,jo4,if_true];refine va0 (wpAny_alloc ?_);refine va0 (wpAny_layCells _ (λ name kind cells=>by cases hkc:kind == NameKind.cell <;> simp [hkc]) _ _ _ _ ?_);rw [show ({ s with heap:=s.heap.push { cls:=.type "dict",data:=.dict #[] } }:va3).heap.objs.size=s.heap.objs.size + 1 from vk4 ..];exact va0 (va1 (va1 hQ))
def qaa (X:Cx) (scope:vd4) (C:Addr):List (Str×Addr):=vc4 (C + 1) scope.names (zvd X.env.cells scope.names [])
def zqq (X:Cx) (s2:va3) (H2:Hp) (scope:vd4) (C:Addr) (N':List Str) (fp:List Addr) (pins:List (Addr×Obj)):Cx:=
 { X with N:=N',s₀:=s2,H₀:=H2,env:=compEnvC scope (qaa X scope C) C X.env,outer:=X.stack,stack:=X.stack,ex:=fp,fn:=λ x=>scope.names.contains (x,NameKind.cell),pn:=X.pn++pins,xe:=λ _ _=>False }
structure CompOk (X:Cx) (scope:vd4) (N':List Str) (k:Nat):Prop where
 kind:scope.kind=.function
 dis:∀ x,(x,NameKind.free)∈scope.names->(x,NameKind.cell)∉scope.names
 names:∀ x∈scope.names,x.2=.local->scope.names.lookup x.1=some .local
 len:N'.length=X.N.length + k
 free:∀ x∈scope.names,x.2=.free->X.env.kindOf x.1=some .cell\/X.env.kindOf x.1=some .free
 kinds:∀ x,(vl2 scope X.env).names.lookup x=some .cell\/(vl2 scope X.env).names.lookup x=some .free->(x,NameKind.free)∈scope.names\/(x,NameKind.cell)∈scope.names
 capt:∀ (i:Nat) (x:Str),i < X.N.length->N'[i]?=some x->Vis (vl2 scope X.env) x->X.N[i]?=some x/\Vis X.env.scope x/\(x,NameKind.free)∈scope.names/\(vl2 scope X.env).names.lookup x≠some .local
section
variable {X:Cx}{scope:vd4}{N':List Str}{k:Nat}{pins:List (Addr×Obj)}{σ:St}{H2:Hp}{s2:va3}{fp:List Addr}{C:Addr}
theorem CompOk.cells (c:CompOk X scope N' k) (I:Inv X pins σ H2 s2):∀ x∈scope.names,x.2=.free->∃ a,X.env.cells.lookup x.1=some a:=λ x hx hf=>I.ok.has x.1 (c.free x hx hf)
theorem CompOk.cl (c:CompOk X scope N' k) (I:Inv X pins σ H2 s2) {x:Str}{a:Addr} (h:(qaa X scope C).lookup x=some a):X.env.cells.lookup x=some a\/(C + 1<=a/\(x,NameKind.cell)∈scope.names):=
 (zpr _ _ _ x a h).imp (λ z=>zxn _ x a _ [] (c.cells I) (λ z=>nomatch z) z) id
theorem CompOk.old (c:CompOk X scope N' k) (I:Inv X pins σ H2 s2) {x:Str}{a:Addr} (h:X.env.cells.lookup x=some a):a < s2.heap.objs.size:=by
 obtain ⟨v,o,ho,_⟩:=I.cell x a h;exact va6 ho
theorem CompOk.cap (c:CompOk X scope N' k) {x:Str} (h:(x,NameKind.free)∈scope.names):∃ a,(qaa X scope C).lookup x=some a/\(zvd X.env.cells scope.names []).lookup x=some a:=by
 obtain ⟨a,ha⟩:=zpq X.env.cells x scope.names [] h;exact ⟨a,(zfy _ _ _ x (c.dis x h)).trans ha,ha⟩
theorem CompOk.ok (c:CompOk X scope N' k) (I:Inv X pins σ H2 s2) (hf:∀ b∈fp,FpOk X pins H2 b) (hC:s2.heap.objs.size<=C) (hfp:∀ b∈fp,b < s2.heap.objs.size):(zqq X s2 H2 scope C N' fp pins).Ok where
 mod:=I.ok.mod
 kind:=c.kind
 glob:=I.ok.glob
 blt:=I.ok.blt
 above:=hC
 inj:=λ x y a h1 h2=>qhf scope.names (C + 1) _ (λ x y a h1 h2=>I.ok.inj x y a (zxn _ x a _ [] (c.cells I) (λ z=>nomatch z) h1) (zxn _ y a _ [] (c.cells I) (λ z=>nomatch z) h2))
  (λ x a h=>jm0 (jb6 (c.old I (zxn _ x a _ [] (c.cells I) (λ z=>nomatch z) h)) hC)) x y a h1 h2
 has:=λ x hx=>(c.kinds x hx).elim (λ z=>let ⟨a,h,_⟩:=c.cap (C:=C) z;⟨a,h⟩) λ z=>let ⟨a,h,_⟩:=qc1 scope.names (C + 1) (zvd X.env.cells scope.names []) x z;⟨a,h⟩
 cab:=λ x a h e=>by
  have hx:(x,NameKind.cell)∈scope.names:=by
   have h':scope.names.contains (x,NameKind.cell)=true:=h;simpa using h'
  obtain ⟨a',e',l⟩:=qc1 scope.names (C + 1) (zvd X.env.cells scope.names []) x hx;have e2:(vc4 (C + 1) scope.names (zvd X.env.cells scope.names [])).lookup x=some a:=e;rw [e'] at e2;cases e2;exact jc9 hC (jg0 l)
 hd:=I.ok.hd
 frames:=I.ok.frames
 stk:=.inl rfl
 exf:=λ b hb=>⟨jd1 (jb6 (hfp b hb) hC),λ x a h=>(c.cl I h).elim (λ z=>(hf b hb).2.2.2.2.1 x a z) λ z=>jg5 (jb6 (hfp b hb) (jc9 hC (jg0 z.1)))⟩
 bs:=I.bs
 bsz:=jc9 I.ok.bsz I.sz
 noex:=λ b o e hb=>by
  rcases (hf b hb).2.2.2.1 with z | z
  ·exact I.ok.noex b o e z
  ·exact absurd (jb6 (va6 e) (jc9 I.ok.bsz z)) (jd8 _)
 exfs:=λ b hb hz=>by
  rcases jc0.mp (I.stkSub b hz) with z | z
  ·exact (hf b hb).2.1 z
  ·exact (hf b hb).2.2.1 z
 funs:=I.stack
 frf:=I.stkFree
theorem CompOk.inv (c:CompOk X scope N' k) (I:Inv X pins σ H2 s2) (hf:∀ b∈fp,FpOk X pins H2 b) (hfp:∀ b∈fp,b < s2.heap.objs.size) {H3:Hp}{h':Heap}{t':Nat}{m:Str->Option va2}{D:Addr} (hCD:D≠C) (hD:s2.heap.objs.size<=D) (hC:s2.heap.objs.size<=C)
  (keep:∀ b o,s2.heap.get? b=some o->h'.get? b=some o) (ns:h'.Ns C m) (hH:∀ b,b≠D->H3 b=H2 b) (hok:HOk X.prog X.w H3 h') (hC3:H3 C=none) (hDC:D < C) (hcN:∀ x a,(qaa X scope C).lookup x=some a->C + 1<=a->h'.IsCell a none):
  Inv (zqq X s2 H2 scope C N' fp pins) [] (σ++ja6 k none) H3 { s2 with heap:=h',toks:=t' } where
 ok:=c.ok I hf hC hfp
 os:=rfl
 bare:=I.bare
 base:=by
  have nD:∀ b o,s2.heap.get? b=some o->b≠D:=λ b o e=>jd1 (jb6 (va6 e) hD);refine ⟨λ b o e _ _ _=>keep b o e,λ b o e _ _ _=>⟨o.slots,keep b o e⟩,λ b o e n _=>by rw [hH b (nD b o e)];exact n,λ b o e _=>⟨o,keep b o e⟩,λ b xs e=>?_,λ b o u e=>?_,λ b ps e=>⟨#[],?_⟩⟩
  ·have e:H2 b=some (.tup xs):=e;rw [hH b (λ z=>by rw [z,I.hok.fresh hD] at e;cases e)];exact e
  ·have e:H2 b=some (.frz o u):=e;rw [hH b (λ z=>by rw [z,I.hok.fresh hD] at e;cases e)];exact e
  ·have e:H2 b=some (.tbl ps):=e;rw [hH b (λ z=>by rw [z,I.hok.fresh hD] at e;cases e)];simpa using e
 loc:=by
  refine ⟨m,ns,λ i x v e1 e2 e3=>?_⟩;have hi:i < σ.length:=by
   by_cases hi:i < σ.length
   ·exact hi
   ·rw [jc8 (by omega),jd3] at e2;split at e2 <;> cases e2
  rw [jb3 hi] at e2;obtain ⟨n1,n2,n3,n4⟩:=c.capt i x (by rw [<- I.len];exact hi) e1 e3;obtain ⟨m0,ns0,hl⟩:=I.loc;obtain ⟨u,r,lk⟩:=hl i x v n1 e2 n2;refine ⟨u,r,.inr ⟨?_,?_⟩⟩
  ·rcases e3 with z | z | z
   ·exact absurd z n4
   ·exact .inl z
   ·exact .inr z
  ·obtain ⟨a,ha,hb⟩:=c.cap (C:=C) n3;have ha':=zxn _ x a _ [] (c.cells I) (λ z=>nomatch z) hb;refine ⟨a,ha,?_⟩;rcases lk with ⟨hk,_⟩ | ⟨hk,a2,ha2,hc⟩
   ·rcases c.free _ n3 rfl with z | z <;> rw [hk] at z <;> cases z
   ·rw [ha'] at ha2;cases ha2;obtain ⟨o,ho,hd⟩:=hc;exact ⟨o,keep _ _ ho,hd⟩
 cell:=λ x a h=>by
  rcases c.cl I h with z | z
  ·obtain ⟨v,o,ho,hd⟩:=I.cell x a z;exact ⟨v,o,keep _ _ ho,hd⟩
  ·exact ⟨none,hcN x a h z.1⟩
 free:=hC3
 freeC:=λ x a h=>by
  rcases c.cl I h with ha | z
  ·obtain ⟨v,o,ho,hd⟩:=I.cell x a ha;rw [hH a (jd1 (jb6 (va6 ho) hD))];exact I.freeC x a ha
  ·rw [hH a (jg5 (jb6 hDC (jg0 z.1)))];exact I.hok.fresh (jc9 hC (jg0 z.1))
 pin:=λ p hp=>by
  have hp':p∈X.pn++pins:=by simpa [zqq] using hp
  obtain ⟨e,n,ne,nf,d⟩:=I.pin p hp';have hlt:=va6 e;exact ⟨keep _ _ e,by rw [hH p.1 (jd1 (jb6 hlt hD))];exact n,jd1 (jb6 hlt hC),λ z=>(jc0.mp (I.stkSub p.1 z)).elim ne nf,d⟩
 hok:=hok
 len:=by
  show (σ++ja6 k none).length=N'.length;rw [jb0,jd5,c.len,I.len]
def PTs (X:Cx) (ifs:List Expr) (t:TT):Prop:=
 ∀ (pins:List (Addr×Obj)) (s:va3) (σ:St) (H:Hp) (Q:Bool->Hp->Prop),Inv X pins σ H s->t σ H Q ->
  vb1 (vb3 X.prog X.w) X.A (forIn ifs true λ c r=>if r=true then do let ok<-isTrue c X.env (eval c X.env);pure (ForInStep.yield ok) else pure (ForInStep.yield r)) (TP X pins σ Q) X.xe s
theorem qls {X:Cx}:PTs X [] (λ _ H Q=>Q true H):=λ _ _ _ H _ I h=>va1 ⟨H,I,h⟩
theorem qlr {X:Cx}{c:Expr}{t:TT} (hc:PT X c t):PTs X [c] t:=by
 intro pins s σ H Q I h;rw [jq2];refine va0 ?_;rw [if_pos rfl];refine va0 (thn (hc pins s σ H Q I h) λ b s1 q=>va1 ?_);exact va1 q
theorem CompOk.again (c:CompOk X scope N' k) (I:Inv X pins σ H2 s2) {σ':St}{H':Hp}{s':va3}{ps:List (Addr×Obj)} (hfp:∀ b∈fp,FpOk X pins H2 b) (J:Inv (zqq X s2 H2 scope C N' fp pins) ps σ' H' s'):Inv (zqq X s2 H2 scope C N' fp pins) ps (σ++ja6 k none) H' s' where
 ok:=J.ok
 os:=J.os
 bare:=J.bare
 base:=J.base
 loc:=by
  obtain ⟨m,ns,_⟩:=J.loc;refine ⟨m,ns,λ i x v e1 e2 e3=>?_⟩;have hi:i < σ.length:=by
   by_cases hi:i < σ.length
   ·exact hi
   ·rw [jc8 (by omega),jd3] at e2;split at e2 <;> cases e2
  rw [jb3 hi] at e2;obtain ⟨n1,n2,n3,n4⟩:=c.capt i x (by rw [<- I.len];exact hi) e1 e3;obtain ⟨m0,ns0,hl⟩:=I.loc;obtain ⟨u,r,lk⟩:=hl i x v n1 e2 n2;refine ⟨u,r,.inr ⟨?_,?_⟩⟩
  ·rcases e3 with z | z | z
   ·exact absurd z n4
   ·exact .inl z
   ·exact .inr z
  ·obtain ⟨a,ha,hb⟩:=c.cap (C:=C) n3;have ha':=zxn _ x a _ [] (c.cells I) (λ z=>nomatch z) hb;refine ⟨a,ha,?_⟩;rcases lk with ⟨hk,_⟩ | ⟨hk,a2,ha2,hc⟩
   ·rcases c.free _ n3 rfl with z | z <;> rw [hk] at z <;> cases z
   ·rw [ha'] at ha2;cases ha2;obtain ⟨o,ho,hd⟩:=hc;obtain ⟨sl,ho'⟩:=J.base.any (b:=a) (ob:=o) ho (I.freeC x a ha') λ z=>(hfp a z).2.2.2.2.1 x a ha' rfl;exact ⟨_,ho',hd⟩
 cell:=J.cell
 free:=J.free
 freeC:=J.freeC
 pin:=J.pin
 hok:=J.hok
 len:=by
  show (σ++ja6 k none).length=N'.length;rw [jb0,jd5,c.len,I.len]
theorem zkx {prog:vb0}{w:vb7}{A:vc3}{R:Result->va3->Prop}{s:va3}{elt target iter:Expr}{ifs:List Expr}{scope:vd4}{pos:Pos}{it acc:va2}{env:Env} (I:Nat->va3->Prop)
  (turn:∀ n s,I n s->vb1 (vb3 prog w) A (vi2 it) (λ r s₁=>match r with
   | none=>R (.ok .next) s₁
   | some v=>vb1 (vb3 prog w) A (vj7 target it v) (λ _ s₁'=>vb1 (vb3 prog w) A (vn6 target env v) (λ _ s₂=>
     vb1 (vb3 prog w) A (forIn ifs true λ c r=>if r=true then do let ok<-isTrue c env (eval c env);pure (ForInStep.yield ok) else pure (ForInStep.yield r)) (λ ok s₃=>
      if ok=true then vb1 (vb3 prog w) A (eval elt env) (λ x s₄=>
       vb1 (vb3 prog w) A (call (.builtin "list.append") [acc,x]) (λ _ s₅=>∃ m,m < n/\I m s₅) (λ _ _=>False) s₄) (λ _ _=>False) s₃
      else ∃ m,m < n/\I m s₃) (λ _ _=>False) s₂) (λ _ _=>False) s₁') (λ _ _=>False) s₁) (λ _ _=>False) s)
  (n:Nat) (h:I n s):
  vj9 (vb3 prog w) A (.compLoop (.ListComp elt [⟨target,iter,ifs,0⟩] scope pos) 0 it acc env) R s:=by
 refine codeAny_loop rfl I (λ n s hI=>?_) n h;show vb1 _ A ((compTurn (.ListComp elt [⟨target,iter,ifs,0⟩] scope pos) 0 it acc env).onRaise (λ x=>do noteFrame x env;theTreesLotGoes x)) _ _ s;refine wpAny_noted ?_;rw [compTurn_list];refine va0 (vk7 (va0 (vg5 (turn n s hI) (λ r s₁ h₁=>?_) λ _ _ h'=>h'.elim)));cases r with
 | none=>exact va1 h₁
 | some v=>
  refine va0 (vg5 h₁ (λ _ s₁' h₁'=>?_) λ _ _ h'=>h'.elim);refine va0 (vg5 h₁' (λ _ s₂ h₂=>va0 (vg5 h₂ (λ ok s₃ h₃=>?_) λ _ _ h'=>h'.elim)) λ _ _ h'=>h'.elim);cases ok with
  | false=>exact va1 ⟨rfl,h₃⟩
  | true=>
   exact va0 (va0 (vg5 h₃ (λ x s₄ h₄=>va0 (vg5 h₄ (λ _ s₅ h₅=>va1 (va1 ⟨rfl,h₅⟩)) λ _ _ h'=>h'.elim)) λ _ _ h'=>h'.elim))
theorem zmu {elt iter tg:Expr}{ifs:List Expr}{pos:Pos}{J:It}{it:Addr}{tn:Nat->Heap->Prop}{g:TG}{tc:TT}{te:TE}{RR:va2->Addr->Result->va3->Prop}{Q:VK}{E:va2->va3->Prop}
  (c:CompOk X scope N' k) (hcalm:X.calm=true) (I:Inv X pins σ H2 s2) (T:Turn X.prog X.w X.K tg J fp it tn) (st:tn 0 s2.heap) (hf:∀ b∈fp,FpOk X pins H2 b)
  (hg:∀ C fp,PG (zqq X s2 H2 scope C N' fp pins) tg g) (hc:∀ C fp,PTs (zqq X s2 H2 scope C N' fp pins) ifs tc) (he:∀ C fp,PE (zqq X s2 H2 scope C N' fp pins) elt te)
  (h:∀ D,H2 D=none->∃ W:Nat->Nat->List V->Hp->Prop,(∃ m,W 0 m [] (upd H2 D (.lst [])))/\∀ i m ys H,W i m ys H->H D=some (.lst ys) /\
   ((J.stop i H/\Q (.ref D) H)\/(J.go i H/\∀ x H',J.yld i H x H'->g x (σ++ja6 k none) H' λ σ2 H2=>tc σ2 H2 λ b H3=>if b=true then te σ2 H3 λ y H4=>H4 D=some (.lst ys)/\ys.length < va5/\∃ m',m' < m/\W (i + 1) m' (ys++[y]) (upd H4 D (.lst (ys++[y]))) else ∃ m',m' < m/\W (i + 1) m' ys H3)))
  (hRR:∀ D C σ' H' s',s2.heap.objs.size<=C->Inv (zqq X s2 H2 scope C N' fp pins) [] σ' H' s'->Q (.ref D) H'->RR (.ref D) C (.ok .next) s')
  :
  vb1 (vb3 X.prog X.w) X.A (newList []) (λ acc s₃=>vb1 (vb3 X.prog X.w) X.A (vo4 scope X.env.globals (zvd X.env.cells scope.names []) [] X.env.qual none .none (some X.env)) (λ cenv s₄=>
   vj9 (vb3 X.prog X.w) X.A (.compStart (.ListComp elt [⟨tg,iter,ifs,0⟩] scope pos) 0 (.ref it) acc { cenv with scope:=vl2 scope X.env }) (RR acc cenv.locals) s₄) E s₃) E s2:=by
 refine vb4 (zhk ?_);dsimp only;generalize hH2:s2.heap.push { cls:=.type "list",dict:=none,data:=.seq ([]:List va2).toArray }=HP;obtain ⟨h₁,hh₁⟩:∃ h₁,h₁=pushCells (HP.push { cls:=.type "dict",data:=.dict #[] }) scope.names:=⟨_,rfl⟩
 rw [<- hh₁];have kk:∀ b o,HP.get? b=some o->h₁.get? b=some o:=λ b o e=>by rw [hh₁];exact vn0 _ _ b o (va4 _ e)
 have hns₁:h₁.Ns HP.objs.size (λ _=>none):=by rw [hh₁];exact (Heap.Ns.new HP (.type "dict")).keeps (vn0 _ _)
 have hC:HP.objs.size=s2.heap.objs.size + 1:=by rw [<- hH2,vk4]
 have hDC:s2.heap.objs.size≠HP.objs.size:=by rw [hC];exact jd1 (ji8 _)
 have hCle:s2.heap.objs.size<=HP.objs.size:=by rw [hC];exact jq3 _
 have hfp:∀ b∈fp,b < s2.heap.objs.size:=λ b hb=>by
  obtain ⟨o,e,_⟩:=T.obj 0 _ st b hb;exact va6 e
 have zkz:∀ b,b < s2.heap.objs.size->b≠HP.objs.size:=λ b hb=>by rw [hC];exact jd1 (jm0 hb)
 have old:∀ b o,s2.heap.get? b=some o->h₁.get? b=some o:=λ b o e=>kk b o (hH2 ▸ va4 _ e);have hacc:h₁.get? s2.heap.objs.size=some { cls:=.type "list",dict:=none,data:=.seq ([]:List va2).toArray }:=kk _ _ (hH2 ▸ va7 _ rfl);have fD:H2 s2.heap.objs.size=none:=I.hok.fresh (ja4 _);obtain ⟨W,⟨m0,w0⟩,hW⟩:=h _ fD;have hok3:HOk X.prog X.w (upd H2 s2.heap.objs.size (.lst [])) h₁:=I.hok.laid old (ja4 _) ⟨jj0 _,[],0,.nil,hacc⟩;have st1:tn 0 h₁:=T.keep _ _ _ st λ b hb o e=>old b o e;have I3:Inv (zqq X s2 H2 scope HP.objs.size N' fp pins) [] (σ++ja6 k none) (upd H2 s2.heap.objs.size (.lst [])) { s2 with heap:=h₁ }:=
  c.inv I hf hfp (t':=s2.toks) hDC (ja4 _) hCle old hns₁ (λ b hb=>zqf hb) hok3 (by rw [zqf (vb9 hDC)];exact I.hok.fresh hCle) (by rw [hC];exact ji8 _) (λ x a h l=>by
   have hs:(HP.push { cls:=.type "dict",data:=.dict #[] }).objs.size=HP.objs.size + 1:=vk4 ..;have h':(vc4 (HP.push { cls:=.type "dict",data:=.dict #[] }).objs.size scope.names (zvd X.env.cells scope.names [])).lookup x=some a:=by rw [hs];exact h
   rcases qax scope.names _ _ x a h' with z | z
   ·exact absurd (jb6 (c.old I (zxn _ x a _ [] (c.cells I) (λ z=>nomatch z) z)) (jc9 hCle (jg0 l))) (jd8 _)
   ·rw [hh₁];exact z)
 have fx:∀ {H':Hp},(∀ b∈fp,H' b=none)->∀ b∈fp,FpOk (zqq X s2 H2 scope HP.objs.size N' fp pins) [] H' b:=λ hn b hb=>by
  obtain ⟨f0,f1,f2,f3,f4,f5⟩:=hf b hb;refine ⟨hn b hb,jd1 (jb6 (hfp b hb) hCle),λ hz=>?_,.inl hb,λ x a h=>(c.cl I h).elim (λ z=>f4 x a z) λ z=>jg5 (jb6 (hfp b hb) (jc9 hCle (jg0 z.1))),λ p hp=>f5 p (by simpa [zqq] using hp)⟩;rcases jc0.mp (I.stkSub b hz) with z | z
  ·exact f1 z
  ·exact f2 z
 have f0:∀ b∈fp,(upd H2 s2.heap.objs.size (.lst [])) b=none:=λ b hb=>by rw [zqf (jd1 (hfp b hb))];exact (hf b hb).1
 have loop:∀ s₃:va3,s₃={ s2 with heap:=h₁ } ->
   vj9 (vb3 X.prog X.w) X.A (.compLoop (.ListComp elt [⟨tg,iter,ifs,0⟩] scope pos) 0 (.ref it) (.ref s2.heap.objs.size) (compEnvC scope (qaa X scope HP.objs.size) HP.objs.size X.env))
    (RR (.ref s2.heap.objs.size) HP.objs.size) s₃:=by
  rintro s₃ rfl;refine zkx (λ n s'=>∃ i H' ys,Inv (zqq X s2 H2 scope HP.objs.size N' fp pins) [] (σ++ja6 k none) H' s'/\tn i s'.heap/\(∀ b∈fp,H' b=none)/\W i n ys H') ?_ m0 ⟨0,_,[],I3,st1,f0,w0⟩;rintro n s4 ⟨i,H4,ys,I4,st4,fr4,w4⟩;obtain ⟨hD4,hcase⟩:=hW i n ys H4 w4;rcases hcase with ⟨stop,qn⟩ | ⟨go,step⟩
  ·refine thn (T.done (zqq X s2 H2 scope HP.objs.size N' fp pins) rfl rfl rfl hcalm i [] s4 _ H4 (λ _ _=>False) I4 (fx fr4) st4 stop) λ r s5 ⟨hr,I5⟩=>?_;subst hr;exact hRR _ _ _ _ _ hCle I5 qn
  ·refine thn (T.item (zqq X s2 H2 scope HP.objs.size N' fp pins) rfl rfl rfl hcalm i [] s4 _ H4 (λ _ _=>False) I4 (fx fr4) st4 go) λ r s5 ⟨u,hr,h5⟩=>?_;subst hr;refine thn h5 λ _ s6 ⟨x,H6,I6,r6,y6,st6,fr6⟩=>?_;have I6':=I6.pinned (fx fr6) (T.obj _ _ st6);have stays:∀ {σ':St}{H':Hp}{s':va3},Inv (zqq X s2 H2 scope HP.objs.size N' fp pins) ([]++zhe fp s6.heap) σ' H' s'->Inv (zqq X s2 H2 scope HP.objs.size N' fp pins) [] (σ++ja6 k none) H' s'/\tn (i + 1) s'.heap/\∀ b∈fp,H' b=none:=λ {σ' H' s'} J=>by
    refine ⟨c.again I hf J.unpinned,T.keep _ _ _ st6 λ b hb o e=>(J.pin (b,o) (ja5 _ (ja5 _ (zkc hb e)))).1,λ b hb=>?_⟩;obtain ⟨o,e,d⟩:=T.obj _ _ st6 b hb;exact (J.pin (b,o) (ja5 _ (ja5 _ (zkc hb e)))).2.1
   refine thn (hg _ _ _ s6 _ H6 x u _ I6' r6 (step x H6 y6)) λ _ s7 ⟨σ7,H7,I7,q7⟩=>?_;refine thn (hc _ _ _ s7 σ7 H7 _ I7 q7) λ b s8 ⟨H8,I8,q8⟩=>?_;cases b with
   | false=>
    rw [if_neg jb7] at q8 ⊢;obtain ⟨m',hm,w'⟩:=q8;obtain ⟨j1,j2,j3⟩:=stays I8;exact ⟨m',hm,i + 1,H8,ys,j1,j2,j3,w'⟩
   | true=>
    rw [if_pos rfl] at q8 ⊢;refine thn (he _ _ _ s8 σ7 H8 _ I8 q8) λ y s9 ⟨z,H9,I9,r9,hD9,hz9,m',hm,w'⟩=>?_;refine thn (zhl (X:=zqq X s2 H2 scope HP.objs.size N' fp pins) _ s9 σ7 H9 (.ref s2.heap.objs.size) [z] (.ref s2.heap.objs.size) [y] (λ _ H'=>H'=upd H9 s2.heap.objs.size (.lst (ys++[z]))) I9 rfl (.cons r9 .nil) ⟨_,ys,z,rfl,rfl,hD9,hz9,rfl⟩) λ _ s10 ⟨_,H10,I10,_,e10⟩=>?_;subst e10;obtain ⟨j1,j2,j3⟩:=stays I10;exact ⟨m',hm,i + 1,_,_,j1,j2,j3,w'⟩
 exact codeAny_compStart_list (loop _ rfl) (T.self _ 0 _ _ _ st1 (loop _ rfl))
theorem CompOk.out (I:Inv X pins σ H2 s2) (hf:∀ b∈fp,FpOk X pins H2 b) {σ':St}{H':Hp}{s':va3} (J:Inv (zqq X s2 H2 scope C N' fp pins) [] σ' H' s'):Inv X pins σ H' s':=
 I.call' (ch:=fp) J.os J.base J.hok J.bare λ b hb=>⟨(hf b hb).2.2.2.1,(hf b hb).2.1,(hf b hb).2.2.2.2.1,(hf b hb).2.2.2.2.2⟩
theorem CompOk.away (I:Inv X pins σ H2 s2) (hC:s2.heap.objs.size<=C) {σ':St}{H':Hp}{s':va3} (J:Inv X pins σ' H' s') (hC':H' C=none) {h':Heap} (sb:vh7 C s'.heap h'):Inv X pins σ' H' { s' with heap:=h' }:=by
 have lt:∀ b o,s2.heap.get? b=some o->b≠C:=λ b o e=>jd1 (jb6 (va6 e) hC);refine J.turned (t':=s'.toks) (it:=C) (λ b o hb e=>(sb.2 b hb).trans e) hC' (jg5 (jb6 I.lt hC)) (.inr (jc9 I.sz hC)) (λ x c h=>?_) λ p hp=>?_
 ·obtain ⟨v,o,ho,_⟩:=I.cell x c h;exact lt c o ho
 ·exact lt p.1 p.2 (I.pin p hp).1
variable {elt iter tg:Expr}{ifs:List Expr}{pos:Pos}{wi:TI}{g:TG}{tc:TT}{te:TE}
theorem zff (c:CompOk X scope N' k) (hcalm:X.calm=true) (hi:PI X tg iter wi) (hg:∀ s2 H2 C fp pins,PG (zqq X s2 H2 scope C N' fp pins) tg g) (hc:∀ s2 H2 C fp pins,PTs (zqq X s2 H2 scope C N' fp pins) ifs tc)
  (he:∀ s2 H2 C fp pins,PE (zqq X s2 H2 scope C N' fp pins) elt te) (hs:∀ x,vi3 iter X.env x=pure x):PE X (.ListComp elt [⟨tg,iter,ifs,0⟩] scope pos) (zgp k wi g tc te):=by
 intro pins s σ H Q I h;rw [eval_ListComp];refine wpAny_comprehension_free (use:=none) rfl hs (zyp (c.cells I)) c.kind c.names ?_;refine thn (hi pins s σ H _ I h) λ v s1 h1=>thn h1 λ itv s2 h2=>?_;obtain ⟨it,fp,tn,J,H',e,I2,T,st2,f2,W⟩:=h2;subst e;refine zmu (RR:=λ acc C=>compPost (vb3 X.prog X.w) X.A X.xe none (EP X pins σ Q) acc C) c hcalm I2 T st2 f2 (λ C fp=>hg s2 H' C fp pins) (λ C fp=>hc s2 H' C fp pins) (λ C fp=>he s2 H' C fp pins) W λ D C σ' H3 s' hC J3 q=>?_;obtain ⟨m,ns,_⟩:=J3.loc;exact ⟨m,ns,λ h' sb=>⟨.ref D,H3,CompOk.away I2 hC (CompOk.out I2 f2 J3) J3.free sb,rfl,q⟩⟩
theorem qdi {i:Nat}{x:Str}{pos' spos:Pos} (hN:X.N.Nodup) (hi':X.N[i]?=some x) (hx:Loc X.env.scope x) (hfn:X.fn x=true\/X.env.scope.names.lookup x=some .local) (c:CompOk X scope N' k) (hcalm:X.calm=true) (hi:PI X tg iter wi) (hg:∀ s2 H2 C fp pins,PG (zqq X s2 H2 scope C N' fp pins) tg g) (hc:∀ s2 H2 C fp pins,PTs (zqq X s2 H2 scope C N' fp pins) ifs tc)
  (he:∀ s2 H2 C fp pins,PE (zqq X s2 H2 scope C N' fp pins) elt te) (hs:∀ x,vi3 iter X.env x=pure x):PS X (.Assign [.Name x pos'] (.ListComp elt [⟨tg,iter,ifs,0⟩] scope pos) spos) (tAsg (zgp k wi g tc te) (zjk i)):=by
 have hsw:∃ b,swapsWith (.ListComp elt [⟨tg,iter,ifs,0⟩] scope pos) (some (.Name x pos')) spos.line X.env=pure b:=⟨_,rfl⟩
 obtain ⟨b,hsw⟩:=hsw;cases b with
 | false=>exact qj6 hN hi' hx (zff c hcalm hi hg hc he hs) hsw hfn
 | true=>
  intro pins s σ H D I h;rw [exec_Assign_Name_used _ _ _ _ hsw];refine va0 (vk7 (va0 ?_));show vb1 _ X.A (do let _<-comprehension (.ListComp elt [⟨tg,iter,ifs,0⟩] scope pos) scope X.env _ (newList []) false (eval iter X.env) (some (vn6 (.Name x pos') X.env))) _ _ s;refine va0 (vg5 (wpAny_comprehension_free (use:=some (vn6 (.Name x pos') X.env)) (Q:=λ _ s'=>SP X pins D .next s') rfl hs (zyp (c.cells I)) c.kind c.names ?_) (λ _ s' hq=>va1 (va1 hq)) λ _ _ e=>e);refine thn (hi pins s σ H _ I h) λ v s1 h1=>thn h1 λ itv s2 h2=>?_;obtain ⟨it,fp,tn,J,H',e,I2,T,st2,f2,W⟩:=h2;subst e;refine zmu (Q:=λ x H1=>zjk i x σ H1 D.nx) (RR:=λ acc C=>compPost (vb3 X.prog X.w) X.A X.xe (some (vn6 (.Name x pos') X.env)) (λ _ s'=>SP X pins D .next s') acc C) c hcalm I2 T st2 f2 (λ C fp=>hg s2 H' C fp pins) (λ C fp=>hc s2 H' C fp pins) (λ C fp=>he s2 H' C fp pins) W λ E C σ' H3 s' hC J3 q=>?_;obtain ⟨m,ns,_⟩:=J3.loc;have I3:=CompOk.out I2 f2 J3;show vb1 _ X.A (vn6 (.Name x pos') X.env (.ref E)) _ _ _;refine wpAny_assign_Name (zgv I3 hN hi' hx (v:=.ref E) rfl (λ s'' I4 hsb=>?_) hfn);obtain ⟨a,sb,ha⟩:=hsb;have hCa:C≠a:=by
   rcases ha with z | z
   ·rw [z];exact jg5 (jb6 I2.lt hC)
   ·obtain ⟨v,o,ho,_⟩:=I2.cell x a z;exact jg5 (jb6 (va6 ho) hC)
  exact ⟨m,ns.sameBut sb hCa,λ h' sb'=>⟨_,H3,CompOk.away I2 hC I4 J3.free sb',q⟩⟩
theorem qhr {P:vb0}{w:vb7}{K:Frag}{tg:Expr} (z:Str) (tk:Tok) (it:Addr):Turn P w K tg (ItS z) [it] it (λ i h=>h.IsStrIter it "str_ascii_iterator" z tk i) where
 mem:=by simp
 obj:=λ i h st b hb=>by
  have e:b=it:=by simpa using hb
  subst e;obtain ⟨o,e,c,d⟩:=st;exact ⟨o,e,λ v z=>by rw [d] at z;cases z⟩
 keep:=λ i h h' st k=>by
  obtain ⟨o,e,r⟩:=st;exact ⟨o,k it (by simp) o e,r⟩
 item:=by
  intro X hP hw hK hc i pins s σ H E I hf st hg;subst hP hw hK;have hi:i < z.cps.size:=hg;obtain ⟨f0,f1,f2,f3,f4,f5⟩:=hf it (by simp);refine wpAny_pyNext_ascii_item st (c:=z.cps[i]) (by simp [hi]) λ h' st' sb=>?_;have I1:Inv X pins σ H { s with heap:=h',toks:=s.toks + 1 }:=I.turned (t':=s.toks + 1) (λ b o hb e=>(sb.2 b hb).trans e) f0 f1 f3 f4 f5;obtain ⟨o,e,c,d⟩:=id st';exact ⟨_,rfl,qbe (s:={ s with heap:=h',toks:=s.toks + 1 }) e c d (by decide) ⟨.str ⟨#[z.cps[i]]⟩,H,I1,⟨_,rfl⟩,⟨rfl,z.cps[i],by simp [hi],rfl⟩,st',λ b hb=>(hf b hb).1⟩⟩
 done:=by
  intro X hP hw hK hc i pins s σ H E I hf st hg;subst hP hw hK;have hi:z.cps.size<=i:=hg;obtain ⟨f0,f1,f2,f3,f4,f5⟩:=hf it (by simp);exact wpAny_pyNext_ascii_end (I.ok.hd hc) st (by simp;omega) λ h' eb=>⟨rfl,I.turned (t':=s.toks) (λ b o hb e=>eb b o hb e) f0 f1 f3 f4 f5⟩
 self:=λ _ _ _ _ _ st h=>wpAny_pyIter_striter_ascii st h
theorem qj8 {l:Expr}{tl:TE} (hl:PE X l tl):PI X tg l (iSeq X.K tl):=by
 intro pins s σ H R I h;refine thn (hl pins s σ H _ I h) λ v s1 ⟨x,H1,I1,r1,q1⟩=>?_;obtain ⟨a,e,⟨⟨xs,hq⟩,q⟩ | ⟨⟨xs,hq⟩,q⟩⟩ | ⟨z,e,ha,q⟩:=q1
 ·subst e;cases r1;obtain ⟨its,rv,p,hz⟩:=I1.list hq;refine wpAny_pyIter_list p.isList ?_;refine ⟨s1.heap.objs.size,[s1.heap.objs.size],_,_,H1,rfl,I1.kept (t':=s1.toks) λ b o e=>va4 _ e,qd4 a _,⟨_,va7 _ rfl,rfl,rfl⟩,λ b hb=>?_,q⟩;have e:b=s1.heap.objs.size:=by simpa using hb
  subst e;exact I1.fpOk (ja4 _) (I1.hok.fresh (ja4 _))
 ·subst e;cases r1;obtain ⟨its,rv,p,hz⟩:=I1.tuple hq;refine wpAny_pyIter_tuple (show s1.heap.IsTuple a its.toArray from p) ?_;refine ⟨s1.heap.objs.size,[s1.heap.objs.size],_,_,H1,rfl,I1.kept (t':=s1.toks) λ b o e=>va4 _ e,qdc a _,⟨_,va7 _ rfl,rfl,rfl⟩,λ b hb=>?_,q⟩;have e:b=s1.heap.objs.size:=by simpa using hb
  subst e;exact I1.fpOk (ja4 _) (I1.hok.fresh (ja4 _))
 ·subst e;obtain ⟨tk,rfl⟩:=r1;refine wpAny_pyIter_ascii ha ?_;refine ⟨s1.heap.objs.size,[s1.heap.objs.size],_,_,H1,rfl,I1.kept (t':=s1.toks) λ b o e=>va4 _ e,qhr z tk _,⟨_,va7 _ rfl,rfl,rfl⟩,λ b hb=>?_,q⟩;have e:b=s1.heap.objs.size:=by simpa using hb
  subst e;exact I1.fpOk (ja4 _) (I1.hok.fresh (ja4 _))
end
end QQ
namespace L2
open PySem PySem.Spec PyProof.Rows
section
variable {κ:Type} [DecidableEq κ]
def valV (kvs:List (κ×V)) (k:κ):Option V:=(kvs.find? λ kv=>decide (kv.1=k)).map (·.2)
def putK (kvs:List (κ×V)) (k:κ) (v:V):List (κ×V):=
 if (kvs.any λ kv=>decide (kv.1=k))=true then kvs.map (λ kv=>if kv.1=k then (kv.1,v) else kv) else kvs++[(k,v)]
theorem zjl {p:κ×V}{r:List (κ×V)}{k:κ} (e:p.1=k):valV (p::r) k=some p.2:=by simp [valV,ji3,e]
theorem zjm {p:κ×V}{r:List (κ×V)}{k:κ} (e:¬ p.1=k):valV (p::r) k=valV r k:=by simp [valV,ji3,e]
theorem qbv (k:κ):∀ kvs:List (κ×V),(kvs.any λ kv=>decide (kv.1=k))=(valV kvs k).isSome
 | []=>rfl
 | p::r=>by
  rw [jk6];by_cases e:p.1=k
  ·simp only [zjl e,decide_eq_true e,Bool.true_or,jo4]
  ·rw [zjm e,decide_eq_false e,jq7];exact qbv k r
theorem zbw (kvs:List (κ×V)) (k:κ) (v:V):(putK kvs k v).length<=kvs.length + 1:=by
 unfold putK;split
 ·rw [ja3];omega
 ·rw [jb0,jb1,jh1];omega
theorem RelO.isSome_eq {o:Option V}{u:Option va2} (r:RelO o u):o.isSome=u.isSome:=by
 cases o with
 | none=>cases u with
  | none=>rfl
  | some _=>exact (show False from r).elim
 | some _=>cases u with
  | none=>exact (show False from r).elim
  | some _=>rfl
theorem KV.val {kvs:List (κ×V)}{vs:List (κ×va2)} (r:KV kvs vs) (k:κ):RelO (valV kvs k) (vm7 vs k):=by
 unfold KV at r;induction r with
 | nil=>exact True.intro
 | @cons p q ps qs h t ih=>
  obtain ⟨h1,h2⟩:=h;by_cases e:p.1=k
  ·have e':q.1=k:=h1.symm.trans e;have b:vm7 (q::qs) k=some q.2:=by simp [vm7,ji3,e']
   rw [zjl e,b];exact h2
  ·have e':¬ q.1=k:=λ z=>e (h1.trans z);have b:vm7 (q::qs) k=vm7 qs k:=by simp [vm7,ji3,e']
   rw [zjm e,b];exact ih
theorem KV.any {kvs:List (κ×V)}{vs:List (κ×va2)} (r:KV kvs vs) (k:κ):(kvs.any λ kv=>decide (kv.1=k))=vs.any λ kv=>decide (kv.1=k):=by
 unfold KV at r;induction r with
 | nil=>rfl
 | cons h t ih=>rw [jk6,jk6,ih,h.1]
theorem KV.repl {kvs:List (κ×V)}{vs:List (κ×va2)} (r:KV kvs vs) (k:κ) {y:V}{u:va2} (ry:RelV y u):
  KV (kvs.map λ kv=>if kv.1=k then (kv.1,y) else kv) (vs.map λ kv=>if kv.1=k then (kv.1,u) else kv):=by
 unfold KV at r ⊢;induction r with
 | nil=>exact .nil
 | @cons p q ps qs h t ih=>
  rw [jc2,jc2];refine .cons ?_ ih;obtain ⟨h1,h2⟩:=h;by_cases e:p.1=k
  ·rw [if_pos e,if_pos (h1.symm.trans e)];exact ⟨h1,ry⟩
  ·rw [if_neg e,if_neg (λ z=>e (h1.trans z))];exact ⟨h1,h2⟩
theorem KV.put {kvs:List (κ×V)}{vs:List (κ×va2)} (r:KV kvs vs) (k:κ) {y:V}{u:va2} (ry:RelV y u):KV (putK kvs k y) (stored vs k u):=by
 unfold putK stored;rw [r.any k];by_cases e:(vs.any λ kv=>decide (kv.1=k))=true
 ·rw [if_pos e,if_pos e];exact r.repl k ry
 ·rw [if_neg e,if_neg e];exact Paired.snoc r ⟨rfl,ry⟩
theorem KV.length {kvs:List (κ×V)}{vs:List (κ×va2)} (r:KV kvs vs):kvs.length=vs.length:=Paired.length r
end
theorem qgd {P:vb0}{w:vb7}{k:Key}{u:va2} (r:RelV (kV k) u):(zxq P w).is k u=true:=by
 cases k with
 | inl i=>obtain ⟨t,e⟩:=(show ∃ t,u=Value.int i t from r);subst e;exact qa4 P w i t
 | inr x=>obtain ⟨t,e⟩:=(show ∃ t,u=Value.str x t from r);subst e;exact qa3 P w x t
theorem zhs {P:vb0}{w:vb7}:∀ {ks:List Key}{us:List va2},Vals (ks.map kV) us->ItemsAre (zxq P w) ks us
 | [],_,r=>by rw [ji1] at r;cases r;exact .nil
 | k::ks,_,r=>by
  rw [jc2] at r;cases r with
  | cons h t=>exact .cons (qgd h) (zhs t)
abbrev KT (H:Hp):List (List Key×V)->List (List Key×Addr×va2)->Prop:=vk9 λ p q=>p.1=q.1/\H q.2.1=some (.tup (p.1.map kV))/\RelV p.2 q.2.2
theorem KT.val {H:Hp}{kvs:List (List Key×V)}{xs:List (List Key×Addr×va2)} (r:KT H kvs xs) (k:List Key):RelO (valV kvs k) ((atKey xs k).map (·.2)):=by
 induction r with
 | nil=>exact True.intro
 | @cons p q ps qs h t ih=>
  obtain ⟨h1,_,h2⟩:=h;by_cases e:p.1=k
  ·have e':q.1=k:=h1.symm.trans e;have b:atKey (q::qs) k=some q.2:=by simp [atKey,ji3,e']
   rw [zjl e,b];exact h2
  ·have e':¬ q.1=k:=λ z=>e (h1.trans z);have b:atKey (q::qs) k=atKey qs k:=by simp [atKey,ji3,e']
   rw [zjm e,b];exact ih
theorem KT.repl {H:Hp}{kvs:List (List Key×V)}{xs:List (List Key×Addr×va2)} (r:KT H kvs xs) (k:List Key) {y:V}{u:va2} (ry:RelV y u):
  KT H (kvs.map λ kv=>if kv.1=k then (kv.1,y) else kv) (xs.map (putAt k u)):=by
 induction r with
 | nil=>exact .nil
 | @cons p q ps qs h t ih=>
  rw [jc2,jc2];refine .cons ?_ ih;obtain ⟨h1,h2,h3⟩:=h;unfold putAt;by_cases e:p.1=k
  ·rw [if_pos e,if_pos (h1.symm.trans e)];exact ⟨h1,h2,ry⟩
  ·rw [if_neg e,if_neg (λ z=>e (h1.trans z))];exact ⟨h1,h2,h3⟩
theorem KT.put {H:Hp}{kvs:List (List Key×V)}{xs:List (List Key×Addr×va2)} (r:KT H kvs xs) (k:List Key) {b:Addr}{y:V}{u:va2} (hb:H b=some (.tup (k.map kV))) (ry:RelV y u):
  KT H (putK kvs k y) (storedH xs k b u):=by
 have e:(kvs.any λ kv=>decide (kv.1=k))=(atKey xs k).isSome:=by
  rw [qbv,(r.val k).isSome_eq,jm1]
 unfold putK storedH;rw [e];by_cases q:(atKey xs k).isSome=true
 ·rw [if_pos q,if_pos q];exact r.repl k ry
 ·rw [if_neg q,if_neg q];exact Paired.snoc r ⟨rfl,hb,ry⟩
theorem KT.keeps {H H':Hp}{kvs:List (List Key×V)}{xs:List (List Key×Addr×va2)} (r:KT H kvs xs) (ht:∀ b ys,H b=some (.tup ys)->H' b=some (.tup ys)):KT H' kvs xs:=
 Paired.mapP r λ _ _ z=>⟨z.1,ht _ _ z.2.1,z.2.2⟩
section
variable {P:vb0}{w:vb7}{H:Hp}{h:Heap}{a:Addr}
theorem qoz {u:HO} (ok:HOk P w H h) (e:Rd H a u):zxp P w H h a u:=e.ok ok
theorem qgx {kvs:List (Key×V)} (ok:HOk P w H h) (e:Rd H a (.dK kvs)):kvs.length<=va5/\(a == vd0)=false/\∃ vs,KV kvs vs/\h.DictOf (zxq P w) a vs:=
 show zxp P w H h a (.dK kvs) from qoz ok e
theorem dk_of {kvs:List (Key×V)} (ok:HOk P w H h) (e:H a=some (.dK kvs)):kvs.length<=va5/\(a == vd0)=false/\∃ vs,KV kvs vs/\h.DictOf (zxq P w) a vs:=qgx ok (.inl e)
theorem zhr {ks:List Key} (ok:HOk P w H h) (e:H a=some (.tup (ks.map kV))):(vg2 (zxq P w)).is h ks a:=by
 obtain ⟨_,its,r,o,h1,h2,n,h3⟩:=(show zxp P w H h a (.tup (ks.map kV)) from ok a _ e)
 exact ⟨o,its.toArray,n,h1,h2,h3,by simpa using zhs r⟩
theorem qgw {kvs:List (List Key×V)} (ok:HOk P w H h) (e:Rd H a (.dT kvs)):kvs.length<=va5/\(a == vd0)=false /\
  ∃ xs,KT H kvs xs/\h.DictOfH (vg2 (zxq P w)) a xs:=by
 obtain ⟨z,y,xs,r,o,es,ep,h1,h2,h3,h4,h5⟩:=(show zxp P w H h a (.dT kvs) from qoz ok e)
 refine ⟨z,y,xs,r,o,es,ep,h1,h2,h3,h4,λ x hx=>?_,h5⟩;have all:∀ {l:List (List Key×V)}{m:List (List Key×Addr×va2)},KT H l m->∀ x∈m,(vg2 (zxq P w)).is h x.1 x.2.1:=by
  intro l m q;induction q with
  | nil=>intro x hx;exact nomatch hx
  | @cons p q ps qs hq t ih=>
   intro x hx;rcases jc0.mp hx with e | hx
   ·subst e;exact zhr ok (by rw [<- hq.1];exact hq.2.1)
   ·exact ih x hx
 exact all r x hx
theorem qrl {kvs:List (List Key×V)} (ok:HOk P w H h) (e:H a=some (.dT kvs)):kvs.length<=va5/\(a == vd0)=false /\
  ∃ xs,KT H kvs xs/\h.DictOfH (vg2 (zxq P w)) a xs:=qgw ok (.inl e)
end
def DGet (H:Hp) (a:Addr) (y:V) (r:Option V):Prop:=
 (∃ kvs k,Rd H a (.dK kvs)/\y=kV k/\r=valV kvs k)\/∃ kvs k b,Rd H a (.dT kvs)/\y=.ref b/\H b=some (.tup (k.map kV))/\r=valV kvs k
def DPut (H:Hp) (a:Addr) (y v:V) (H':Hp):Prop:=
 (∃ kvs k,H a=some (.dK kvs)/\y=kV k/\kvs.length < va5/\H'=upd H a (.dK (putK kvs k v))) \/
 ∃ kvs k b,H a=some (.dT kvs)/\y=.ref b/\H b=some (.tup (k.map kV))/\kvs.length < va5/\H'=upd H a (.dT (putK kvs k v))
theorem DPut.t {H:Hp}{a b:Addr}{kvs:List (List Key×V)}{k:List Key}{v:V} (e:H a=some (.dT kvs)) (eb:H b=some (.tup (k.map kV))) (hl:kvs.length < va5):
  DPut H a (.ref b) v (upd H a (.dT (putK kvs k v))):=.inr ⟨kvs,k,b,e,rfl,eb,hl,rfl⟩
section
variable {X:Cx}{pins:List (Addr×Obj)}{σ:St}{H:Hp}{s:va3}{a:Addr}{y v:V}{u r:va2}{o:Option V}{A:vc3}{E:va2->va3->Prop}
theorem Inv.big (I:Inv X pins σ H s):vd0 < s.heap.objs.size:=by
 have h:vc6 < s.heap.objs.size:=(I.mod.glob.keeps I.bk).lt;exact jr2 (by decide) h
theorem qg5 {Q:va2->va3->Prop} (hu:A.units + 1 < vm1) (I:Inv X pins σ H s) (g:DGet H a y (some v)) (ry:RelV y u) (h:∀ w' s',Inv X pins σ H s'->RelV v w'->Q w' s'):
  vb1 (vb3 X.prog X.w) A (vn3 (.ref a) u) Q E s:=by
 rcases g with ⟨kvs,k,e,ey,l⟩ | ⟨kvs,k,b,e,ey,eb,l⟩
 ·subst ey;obtain ⟨z,hd,vs,rel,dd⟩:=qgx I.hok e;obtain ⟨w',hw,rw'⟩:=RelO.some_of (v:=v) (o:=vm7 vs k) (by rw [l];exact rel.val k);exact wpAny_getItem_of (qgd ry) dd.mapOf hw (h w' _ (I.tok _) rw')
 ·subst ey;cases (show u=Value.ref b from ry);obtain ⟨z,hd,xs,rel,dd⟩:=qgw I.hok e;obtain ⟨w',hw,rw'⟩:=RelO.some_of (v:=v) (o:=(atKey xs k).map (·.2)) (by rw [l];exact rel.val k);obtain ⟨p,hp,hp2⟩:=jc3.mp hw;refine wpAny_getItem_heap (vh4 hu) (zhr I.hok eb) dd hp ?_;rw [hp2];exact h w' _ (I.tok _) rw'
theorem d_in {Q:va2->va3->Prop} (hu:A.units + 1 < vm1) (I:Inv X pins σ H s) (g:DGet H a y o) (ry:RelV y u) (h:∀ s',Inv X pins σ H s'->Q (.bool o.isSome) s'):
  vb1 (vb3 X.prog X.w) A (vb6 .In u (.ref a)) Q E s:=by
 rcases g with ⟨kvs,k,e,ey,l⟩ | ⟨kvs,k,b,e,ey,eb,l⟩
 ·subst ey;obtain ⟨z,hd,vs,rel,dd⟩:=qgx I.hok e;refine wpAny_in_of (qgd ry) hd dd.mapOf ?_;rw [<- (rel.val k).isSome_eq,<- l];exact h _ (I.tok _)
 ·subst ey;cases (show u=Value.ref b from ry);obtain ⟨z,hd,xs,rel,dd⟩:=qgw I.hok e;refine wpAny_in_heap (vh4 hu) (zhr I.hok eb) hd dd ?_;have q:=(rel.val k).isSome_eq;rw [jm1] at q;rw [<- q,<- l];exact h _ (I.tok _)
theorem qnc {Q:va2->va3->Prop} (hu:A.units + 1 < vm1) (I:Inv X pins σ H s) (g:DGet H a y o) (ry:RelV y u) (h:∀ s',Inv X pins σ H s'->Q (.bool (!o.isSome)) s'):
  vb1 (vb3 X.prog X.w) A (vb6 .NotIn u (.ref a)) Q E s:=by
 rcases g with ⟨kvs,k,e,ey,l⟩ | ⟨kvs,k,b,e,ey,eb,l⟩
 ·subst ey;obtain ⟨z,hd,vs,rel,dd⟩:=qgx I.hok e;refine wpAny_notIn_of (qgd ry) hd dd.mapOf ?_;rw [<- (rel.val k).isSome_eq,<- l];exact h _ (I.tok _)
 ·subst ey;cases (show u=Value.ref b from ry);obtain ⟨z,hd,xs,rel,dd⟩:=qgw I.hok e;refine wpAny_notIn_heap (vh4 hu) (zhr I.hok eb) hd dd ?_;have q:=(rel.val k).isSome_eq;rw [jm1] at q;rw [<- q,<- l];exact h _ (I.tok _)
theorem qg3 {h':Heap}{t':Nat}{ob:HO} (I:Inv X pins σ H s) (mu:Mut (H a)) (hs:vh7 a s.heap h') (he:∃ q,h'.get? a=some q) (new:zxp X.prog X.w (upd H a ob) h' a ob):
  Inv X pins σ (upd H a ob) { s with heap:=h',toks:=t' }:=
 I.write (x:=a) (e:=a) mu (.inl rfl) (λ b q hb z=>(hs.2 b hb).trans z) he new
theorem qqn {P:vb0}{w:vb7}{H':Hp}{h':Heap}{kvs:List (Key×V)}{vs:List (Key×va2)} (z:kvs.length<=va5) (hd:(a == vd0)=false) (rel:KV kvs vs) (dd:h'.DictOf (zxq P w) a vs):
  zxp P w H' h' a (.dK kvs):=⟨z,hd,vs,rel,dd⟩
theorem qg4 {H':Hp}{Q:Unit->va3->Prop} (hu:A.units + 1 < vm1) (I:Inv X pins σ H s) (g:DPut H a y v H') (ry:RelV y u) (rv:RelV v r) (h:∀ s',Inv X pins σ H' s'->Q () s'):
  vb1 (vb3 X.prog X.w) A (setItem (.ref a) u r) Q E s:=by
 rcases g with ⟨kvs,k,e,ey,l,eH⟩ | ⟨kvs,k,b,e,ey,eb,l,eH⟩
 ·subst ey eH;obtain ⟨z,hd,vs,rel,dd⟩:=dk_of I.hok e;have hz:vs.length<=va5:=by rw [<- rel.length];exact z
  have hl:(putK kvs k v).length<=va5:=by have:=zbw kvs k v;omega
  refine wpAny_setItem_pairs (hsz:=hz) (qgd ry) dd λ h' dd' hs=>h _ ?_;have he:∃ q,h'.get? a=some q:=let ⟨q,_,_,hq,_⟩:=dd';⟨q,hq⟩;exact qg3 I (by rw [e];exact True.intro) hs he (qqn hl hd (rel.put k rv) dd')
 ·subst ey eH;cases (show u=Value.ref b from ry);obtain ⟨z,hd,xs,rel,dd⟩:=qrl I.hok e;have hz:xs.length<=va5:=by rw [<- Paired.length rel];exact z
  have hl:(putK kvs k v).length<=va5:=by have:=zbw kvs k v;omega
  refine wpAny_setItem_heap (hsz:=hz) (vh4 hu) (zhr I.hok eb) dd λ h' dd' hs=>h _ ?_;obtain ⟨q,es,ep,hq,h2,h3,h4,_,h5⟩:=dd';refine qg3 I (by rw [e];exact True.intro) hs ⟨q,hq⟩ ⟨hl,hd,_,(rel.put k eb rv).keeps λ c ys ec=>?_,q,es,ep,hq,h2,h3,h4,h5⟩;rw [zqf (qrh ec e (λ z=>nomatch z))];exact ec
end
section
variable {X:Cx}{pins:List (Addr×Obj)}{σ:St}{H:Hp}{s:va3}{a:Addr}{kvs:List (Key×V)}{k:Key}{u:va2}{A:vc3}{E:va2->va3->Prop}
end
theorem qbi {X:Cx}{pins:List (Addr×Obj)}{σ:St}{H:Hp}{s:va3}{a:Addr}{y:V}{o:Option V} (I:Inv X pins σ H s) (g:DGet H a y o):s.TypeIs (.ref a) "dict" := by
 rcases g with ⟨kvs,k,e,_,_⟩ | ⟨kvs,k,b,e,_,_,_⟩
 ·obtain ⟨_,_,vs,_,dd⟩:=qgx I.hok e;exact dd.typeIs
 ·obtain ⟨_,_,xs,_,dd⟩:=qgw I.hok e;exact dd.typeIs
section
variable {X:Cx}{o i e value:Expr}{pos pos' tpos:Pos}{td ty tv:TE}
end
theorem qjf {P:vb0}{w:vb7}{H:Hp} (h:Heap) (hb:vd0 < h.objs.size):zxp P w H (h.push { cls:=.type "dict",data:=.dict #[] }) h.objs.size (.dT []):=
 ⟨jj0 _,beq_eq_false_iff_ne.mpr (vb9 (jd1 hb)),[],.nil,_,#[],0,va7 _ rfl,⟨rfl,rfl,rfl⟩,rfl,rfl,List.nodup_nil⟩
def qod:TE:=λ _ H Q=>∀ p,H p=none->Q (.ref p) (upd H p (.dT []))
section
variable {X:Cx}{pos:Pos}
theorem qig:PE X (.Dict [] [] pos) qod:=λ pins s σ H Q I h=>
 wpAny_Dict_empty ⟨.ref s.heap.objs.size,_,I.laid (a:=s.heap.objs.size) (o:=.dT []) (t':=s.toks) (λ _ _ q=>va4 _ q) (ja4 _) (qjf s.heap I.big),rfl,h _ (I.hok.fresh (ja4 _))⟩
end
end L2
namespace QQ
open PySem PySem.Spec PyProof.Rows L2
section
variable {M:Fm}{vs:List Nat}{H:Hp}{fps:Fps}{F:List Addr}{Q:VK}
theorem zwb {k:Int}{d:Nat} (h:Leaf M H fps vs F (.int k) d Q):Q (.int k) H:=h (.int k) H [] (λ _ _ h=>h) (by rw [Own];exact ⟨rfl,rfl⟩) (λ _ z=>nomatch z)
theorem zzx {k:Bool}{d:Nat} (h:Leaf M H fps vs F (.bl k) d Q):Q (.bl k) H:=h (.bl k) H [] (λ _ _ h=>h) (by rw [Own];exact ⟨rfl,rfl⟩) (λ _ z=>nomatch z)
theorem qiv {k:Str}{d:Nat} (h:Leaf M H fps vs F (.str k) d Q):Q (.str k) H:=h (.str k) H [] (λ _ _ h=>h) (by rw [Own];exact ⟨rfl,rfl⟩) (λ _ z=>nomatch z)
theorem zza {x:PV}{v:V} (h:Leaf M H fps vs F x (dv x) Q) (o:Own M.K H (Zv M vs fps) x 0 v []):Q v H:=h v H [] (λ _ _ h=>h) (o.dv.weak λ a z=>z.elim id λ z=>nomatch z) (λ _ z=>nomatch z)
theorem zxl {p:Addr}{o:HO} (hp:H p=none):∀ a u,H a=some u->upd H p o a=some u:=λ a u h=>by rw [zqf (λ e=>by rw [e,hp] at h;cases h)];exact h
theorem zbx {xs:List PV}{ws:List V} (h:Leaf M H fps vs F (.lst xs) 1 Q) (o:OwnL M.K H (Zv M vs fps) xs 0 ws []) {p:Addr} (hp:H p=none):Q (.ref p) (upd H p (.lst ws)):=by
 refine h (.ref p) _ [p] (zxl hp) ?_ λ a ha=>.inr (by rw [jb4.mp ha];exact hp);rw [Own];refine ⟨p,ws,rfl,.inr ⟨(by decide),[],zqe,rfl,(λ z=>nomatch z),?_⟩⟩;rw [zmi];exact OwnL.move (S:=λ _=>False) (λ a u ha _=>zxl hp a u ha) (λ _ z=>z.elim) (λ a hd nz z=>z.elim nz λ z=>hd (by rw [jb4.mp z];exact hp)) xs 0 ws [] (λ _ z=>nomatch z) o
def atoms:List PV->Bool
 | []=>true
 | x::xs=>qai x && atoms xs
def qgu:PV->Bool
 | .tup xs=>atoms xs
 | x=>qai x
def qdy:List PV->Bool
 | []=>true
 | x::xs=>qgu x && qdy xs
def d1 (xs:List PV):Nat:=if qdy xs=true then om else 1
theorem OwnL.ats {K:Frag}{H:Hp}{Z Z':Addr->Prop}:∀ {xs:List PV}{ws:List V}{d d':Nat},QQ.atoms xs=true->OwnL K H Z xs d' ws []->OwnL K H Z' xs d ws []
 | [],ws,d,_,_,h=>by rw [OwnL] at h ⊢;exact h
 | x::xs,ws,d,_,ha,h=>by
  unfold QQ.atoms at ha;rw [ja9] at ha;rw [OwnL] at h ⊢;obtain ⟨v,s,f1,f2,rfl,ef,dj,h1,h2⟩:=h;obtain ⟨rfl,rfl⟩:f1=[]/\f2=[]:=by simpa using ef.symm
  exact ⟨v,s,[],[],rfl,rfl,dj,(Own.atom ha.1 h1).2,h2.ats ha.2⟩
theorem Own.flat {K:Frag}{H:Hp}{Z Z':Addr->Prop}{x:PV}{v:V}{d d':Nat} (hx:qgu x=true) (h:Own K H Z x d' v []):Own K H Z' x d v []:=by
 cases x with
 | tup xs=>
  rw [Own] at h ⊢;obtain ⟨a,vs,e,ha,hl⟩:=h;exact ⟨a,vs,e,ha,hl.ats hx⟩
 | lst _=>cases hx
 | dct _=>cases hx
 | dcl _ _=>cases hx
 | exn _=>exact (Own.atom rfl h).2
 | emp=>exact (Own.atom rfl h).2
 | dko=>exact (Own.atom rfl h).2
 | scr _=>exact (Own.atom rfl h).2
 | non=>exact (Own.atom rfl h).2
 | bl _=>exact (Own.atom rfl h).2
 | int _=>exact (Own.atom rfl h).2
 | str _=>exact (Own.atom rfl h).2
theorem OwnL.ats0 {K:Frag}{H:Hp}{Z:Addr->Prop}:∀ {xs:List PV}{ws:List V}{d:Nat}{f:List Addr},QQ.atoms xs=true->OwnL K H Z xs d ws f->f=[]
 | [],ws,d,f,_,h=>by rw [OwnL] at h;exact h.2
 | x::xs,ws,d,f,ha,h=>by
  unfold QQ.atoms at ha;rw [ja9] at ha;rw [OwnL] at h;obtain ⟨v,s,f1,f2,rfl,rfl,dj,h1,h2⟩:=h;rw [(Own.atom (Z':=Z) (d':=d) ha.1 h1).1,h2.ats0 ha.2];rfl
theorem Own.flatA {K:Frag}{H:Hp}{Z Z':Addr->Prop}{x:PV}{v:V}{d d':Nat}{f:List Addr} (hx:qgu x=true) (h:Own K H Z x d v f):f=[]/\Own K H Z' x d' v []:=by
 have e:f=[]:=by
  cases x with
  | tup xs=>
   rw [Own] at h;obtain ⟨a,vs,e,ha,hl⟩:=h;exact hl.ats0 hx
  | lst _=>cases hx
  | dct _=>cases hx
  | dcl _ _=>cases hx
  | exn _=>exact (Own.atom (Z':=Z) (d':=d) rfl h).1
  | emp=>exact (Own.atom (Z':=Z) (d':=d) rfl h).1
  | dko=>exact (Own.atom (Z':=Z) (d':=d) rfl h).1
  | scr _=>exact (Own.atom (Z':=Z) (d':=d) rfl h).1
  | non=>exact (Own.atom (Z':=Z) (d':=d) rfl h).1
  | bl _=>exact (Own.atom (Z':=Z) (d':=d) rfl h).1
  | int _=>exact (Own.atom (Z':=Z) (d':=d) rfl h).1
  | str _=>exact (Own.atom (Z':=Z) (d':=d) rfl h).1
 subst e;exact ⟨rfl,h.flat hx⟩
theorem OwnL.atoms {K:Frag}{H:Hp}{Z Z':Addr->Prop}:∀ {xs:List PV}{ws:List V}{d:Nat},qdy xs=true->OwnL K H Z xs 0 ws []->OwnL K H Z' xs d ws []
 | [],ws,d,_,h=>by rw [OwnL] at h ⊢;exact h
 | x::xs,ws,d,ha,h=>by
  unfold qdy at ha;rw [ja9] at ha;rw [OwnL] at h ⊢;obtain ⟨v,s,f1,f2,rfl,ef,dj,h1,h2⟩:=h;obtain ⟨rfl,rfl⟩:f1=[]/\f2=[]:=by simpa using ef.symm
  exact ⟨v,s,[],[],rfl,rfl,dj,h1.flat ha.1,h2.atoms ha.2⟩
theorem zww {xs:List PV}{ws:List V} (h:Leaf M H fps vs F (.lst xs) (d1 xs) Q) (o:OwnL M.K H (Zv M vs fps) xs 0 ws []) {p:Addr} (hp:H p=none):Q (.ref p) (upd H p (.lst ws)):=by
 unfold d1 at h;split at h
 ·rename_i ha;refine h (.ref p) _ [p] (zxl hp) ?_ λ a ha=>.inr (by rw [jb4.mp ha];exact hp);rw [Own];refine ⟨p,ws,rfl,.inr ⟨(by decide),[],zqe,rfl,(λ z=>nomatch z),?_⟩⟩;have o':OwnL M.K (upd H p (.lst ws)) (Zv M vs fps) xs 0 ws []:=OwnL.move (S:=λ _=>False) (λ a u ha _=>zxl hp a u ha) (λ _ z=>z.elim) (λ _ _ n=>n) xs 0 ws [] (λ _ z=>nomatch z) o;exact o'.atoms ha
 ·exact zbx h o hp
theorem zjs {xs:List PV}{ws:List V} (h:Leaf M H fps vs F (.tup xs) 0 Q) (o:OwnL M.K H (Zv M vs fps) xs 0 ws []) {p:Addr} (hp:H p=none):Q (.ref p) (upd H p (.tup ws)):=by
 refine h (.ref p) _ [] (zxl hp) ?_ λ a ha=>nomatch ha
 rw [Own];refine ⟨p,ws,rfl,zqe,?_⟩;rw [qaw];exact OwnL.move (S:=λ _=>False) (λ a u ha _=>zxl hp a u ha) (λ _ z=>z.elim) (λ a hd nz z=>z.elim nz λ z=>nomatch z) xs 0 ws [] (λ _ z=>nomatch z) o
theorem zmn {xs:List PV}{ws:List V} (h:Leaf M H fps vs F (.lst xs) om Q) {Z:Addr->Prop} (o:OwnL M.K H Z xs om ws F) {p:Addr} (hp:H p=none):Q (.ref p) (upd H p (.lst ws)):=by
 refine h (.ref p) _ (p::F) (zxl hp) ?_ λ a ha=>(jc0.mp ha).elim (λ e=>.inr (by rw [e];exact hp)) .inl;rw [Own];refine ⟨p,ws,rfl,.inr ⟨(by decide),F,zqe,rfl,λ z=>?_,?_⟩⟩
 ·obtain ⟨ys,e⟩:=OwnL.lsts xs om ws F o p z;rw [hp] at e;cases e
 ·exact OwnL.full xs ws F (OwnL.move (S:=λ _=>False) (Z':=Z) (λ a u ha _=>zxl hp a u ha) (λ _ z=>z.elim) (λ _ _ n=>n) xs om ws F (λ _ _ z=>z) o)
theorem qf7 {xs:List PV}{ws:List V} (h:Leaf M H fps vs F (.tup xs) om Q) {Z:Addr->Prop} (o:OwnL M.K H Z xs om ws F) {p:Addr} (hp:H p=none):Q (.ref p) (upd H p (.tup ws)):=by
 refine h (.ref p) _ F (zxl hp) ?_ λ a ha=>.inl ha;rw [Own];exact ⟨p,ws,rfl,zqe,OwnL.full xs ws F (OwnL.move (S:=λ _=>False) (Z':=Z) (λ a u ha _=>zxl hp a u ha) (λ _ z=>z.elim) (λ _ _ n=>n) xs om ws F (λ _ _ z=>z) o)⟩
end
theorem Own.seqL {K:Frag}{H:Hp}{Z:Addr->Prop}{xs:List PV}{d:Nat}{v:V}{fp:List Addr} (h:Own K H Z (.lst xs) d v fp):∃ a ws,v=.ref a/\SqL K H a ws/\ws.length=xs.length:=by
 rw [Own] at h;obtain ⟨a,ws,e,⟨_,hr,_,ol⟩ | ⟨_,f,ha,_,_,ol⟩⟩:=h
 ·exact ⟨a,ws,e,.inl (.inl hr.1),ol.length⟩
 ·exact ⟨a,ws,e,.inl (.inl ha),ol.length⟩
theorem Own.seqT {K:Frag}{H:Hp}{Z:Addr->Prop}{xs:List PV}{d:Nat}{v:V}{fp:List Addr} (h:Own K H Z (.tup xs) d v fp):∃ a ws,v=.ref a/\SqT K H a ws/\ws.length=xs.length:=by
 rw [Own] at h;obtain ⟨a,ws,e,hr,ol⟩:=h;exact ⟨a,ws,e,.inl (.inl hr),ol.length⟩
theorem Own.coldL {K:Frag}{H:Hp}{Z:Addr->Prop}{xs:List PV}{v:V} (h:Own K H Z (.lst xs) 0 v []):∃ a ws,v=.ref a/\H a=some (.lst ws)/\OwnL K H Z xs 0 ws []:=by
 rw [Own] at h;obtain ⟨a,ws,e,⟨_,hr,_,ol⟩ | ⟨h,_⟩⟩:=h
 ·exact ⟨a,ws,e,hr.1,ol⟩
 ·exact absurd rfl h
theorem Own.coldT {K:Frag}{H:Hp}{Z:Addr->Prop}{xs:List PV}{v:V} (h:Own K H Z (.tup xs) 0 v []):∃ a ws,v=.ref a/\H a=some (.tup ws)/\OwnL K H Z xs 0 ws []:=by
 rw [Own] at h;exact h
theorem OwnL.app {K:Frag}{H:Hp}{Z:Addr->Prop}:∀ {xs ys:List PV}{ws us:List V},OwnL K H Z xs 0 ws []->OwnL K H Z ys 0 us []->OwnL K H Z (xs++ys) 0 (ws++us) []
 | [],ys,ws,us,h,h'=>by rw [OwnL] at h;obtain ⟨rfl,_⟩:=h;exact h'
 | x::xs,ys,ws,us,h,h'=>by
  rw [OwnL] at h;obtain ⟨v,s,f1,f2,rfl,ef,dj,h1,h2⟩:=h;obtain ⟨rfl,rfl⟩:f1=[]/\f2=[]:=by simpa using ef.symm
  show OwnL K H Z (x::(xs++ys)) 0 (v::(s++us)) [];rw [OwnL];exact ⟨v,s++us,[],[],rfl,rfl,λ _ z=>(nomatch z),h1,h2.app h'⟩
theorem OwnL.drop {K:Frag}{H:Hp}{Z:Addr->Prop}:∀ {xs:List PV}{ws:List V} (n:Nat),OwnL K H Z xs 0 ws []->OwnL K H Z (xs.drop n) 0 (ws.drop n) []
 | xs,ws,0,h=>h
 | [],ws,n + 1,h=>by rw [OwnL] at h;obtain ⟨rfl,_⟩:=h;rw [jq8,jq8,OwnL];exact ⟨rfl,rfl⟩
 | x::xs,ws,n + 1,h=>by
  rw [OwnL] at h;obtain ⟨v,s,f1,f2,rfl,ef,dj,h1,h2⟩:=h;obtain ⟨rfl,rfl⟩:f1=[]/\f2=[]:=by simpa using ef.symm
  exact h2.drop n
theorem OwnL.take {K:Frag}{H:Hp}{Z:Addr->Prop}:∀ {xs:List PV}{ws:List V} (n:Nat),OwnL K H Z xs 0 ws []->OwnL K H Z (xs.take n) 0 (ws.take n) []
 | xs,ws,0,h=>by rw [jl8,jl8,OwnL];exact ⟨rfl,rfl⟩
 | [],ws,n + 1,h=>by rw [OwnL] at h;obtain ⟨rfl,_⟩:=h;rw [jo5,jo5,OwnL];exact ⟨rfl,rfl⟩
 | x::xs,ws,n + 1,h=>by
  rw [OwnL] at h;obtain ⟨v,s,f1,f2,rfl,ef,dj,h1,h2⟩:=h;obtain ⟨rfl,rfl⟩:f1=[]/\f2=[]:=by simpa using ef.symm
  rw [jk7,jk7,OwnL];exact ⟨v,s.take n,[],[],rfl,rfl,λ _ z=>(nomatch z),h1,h2.take n⟩
theorem OwnL.nth {K:Frag}{H:Hp}{Z:Addr->Prop}{xs:List PV}{ws:List V}{j:Nat}{x:PV} (h:OwnL K H Z xs 0 ws []) (e:xs[j]?=some x):∃ w,ws[j]?=some w/\Own K H Z x 0 w []:=by
 have hj:j < ws.length:=by rw [h.length];exact (jb2.mp e).1
 obtain ⟨y,e1,e2⟩:=h.get (i:=j) (w:=ws[j]) (by simp [hj]);rw [e] at e1;cases e1;exact ⟨_,by simp [hj],e2⟩
theorem cold {M:Fm}{vs:List Nat}{H:Hp}{fps:Fps}{x:PV}{d:Nat}{v:V}{fp:List Addr} (o:Own M.K H (Zt M vs fps fp) x d v fp) (hf:∀ a∈fp,¬ Zf M fps a):Own M.K H (Zv M vs fps) x 0 v []:=
 Own.freeze (λ _ z=>.inl z) x d v fp (λ a ha z=>hf a ha z.zf) o
def zqj:PV->Nat->PV->Nat->Option (PV×Nat)
 | .int i,_,.int j,_=>some (.int (i + j),om)
 | .lst xs,_,.lst ys,_=>if xs.length + ys.length<=va5 then some (.lst (xs++ys),d1 (xs++ys)) else none
 | .tup xs,_,.tup ys,_=>if xs.length + ys.length<=va5 then some (.tup (xs++ys),0) else none
 | _,_,_,_=>none
def qdl (p:Int->Int->Bool) (g:Int->Int->Int):PV->Nat->PV->Nat->Option (PV×Nat)
 | .int i,_,.int j,_=>if p i j then some (.int (g i j),om) else none
 | _,_,_,_=>none
def pMul (i j:Int):Bool:=(decide (-(2 ^ 64) < i) && decide (i < 2 ^ 64)) || (decide (-(2 ^ 64) < j) && decide (j < 2 ^ 64))
def pDiv (_ j:Int):Bool:=decide (0 < j) && decide (j.natAbs.log2 < 9000)
def pMod (_ j:Int):Bool:=decide (0 < j)
def pPow (i j:Int):Bool:=decide (0<=j) && decide (j<=1000) && decide (i.natAbs < 2 ^ 64)
def zzd:=qdl (λ _ _=>true) (λ i j=>i - j)
def repL (n:Nat) (xs:List PV):List PV:=(ja6 n xs).flatten
def zxw:PV->Nat->PV->Nat->Option (PV×Nat)
 | .int i,_,.int j,_=>if pMul i j then some (.int (i * j),om) else none
 | .lst xs,_,.int k,_=>if -(2 ^ 62)<=k/\k < 2 ^ 62/\xs.length * k.toNat<=va5 then some (.lst (repL k.toNat xs),d1 (repL k.toNat xs)) else none
 | _,_,_,_=>none
def zxm:=qdl pDiv (λ i j=>i / j)
def zxj:=qdl pMod (λ i j=>i % j)
def qfl:=qdl pPow (λ i j=>i ^ j.toNat)
section
variable {X:Cx}
theorem qil:OpR X (vg3 .FloorDiv) (rI (λ _ j=>0 < j/\j.natAbs.log2 < 9000) λ i j=>.int (i / j)):=opI λ i j _ _ _ _ _ hc q=>by
 have h1:(0:Int) < j:=hc.1;exact floordiv_int (by omega) (by rw [Int.fdiv_eq_ediv_of_nonneg i (by omega)];exact q) (.inl (PyProof.noPylong_of_log2 hc.2))
end
theorem zqw {X:Cx}{e:Expr}{t t':TE} (h:PE X e t) (i:∀ σ H Q,t' σ H Q->t σ H Q):PE X e t':=λ pins s σ H Q I q=>h pins s σ H Q I (i σ H Q q)
theorem zmg {X:Cx}{e:Expr}{t t':TT} (h:PT X e t) (i:∀ σ H Q,t' σ H Q->t σ H Q):PT X e t':=λ pins s σ H Q I q=>h pins s σ H Q I (i σ H Q q)
theorem qj5 {X:Cx}{e:Expr}{t t':TT} (h:PW X e t) (i:∀ σ H Q,t' σ H Q->t σ H Q):PW X e t':=λ wh pins s σ H Q I q=>h wh pins s σ H Q I (i σ H Q q)
theorem qkc {X:Cx}{e:List Expr}{t t':TA} (h:PA X e t) (i:∀ σ H Q,t' σ H Q->t σ H Q):PA X e t':=λ p pins s σ H Q I q=>h p pins s σ H Q I (i σ H Q q)
theorem zwa {X:Cx}{e:Stmt}{t t':TS} (h:PS X e t) (i:∀ D σ H,t' D σ H->t D σ H):PS X e t':=λ pins s σ H D I q=>h pins s σ H D I (i D σ H q)
theorem qe1 {X:Cx}{e:List Stmt}{t t':TS} (h:PSs X e t) (i:∀ D σ H,t' D σ H->t D σ H):PSs X e t':=λ pins s σ H D I q=>h pins s σ H D I (i D σ H q)
section
variable {X:Cx}{M:Fm}{a b:Expr}{f g:Fx}{vs vs':List Nat}{pos:Pos}{σ:St}{H:Hp}{Q:VK}
theorem qim:OpR X (vg3 .Add) (λ x y H Q=>∃ a b ys,x=.ref a/\y=.ref b/\SqT X.K H a []/\SqT X.K H b ys/\Q (.ref b) H):=by
 intro pins s σ H x y v u Q I rx ry h;obtain ⟨a,b,ys,rfl,rfl,ha,hb,q⟩:=h;cases rx;cases ry;obtain ⟨its,r1,p1,_⟩:=I.tuple ha;obtain ⟨its2,r2,p2,_⟩:=I.tuple hb;cases r1;obtain ⟨⟨cls,dd,data,sl⟩,ho,hc,n,hd⟩:=id p1;obtain ⟨⟨cls2,dd2,data2,sl2⟩,ho2,hc2,n2,hd2⟩:=id p2;simp only at hc hd hc2 hd2;subst hc hd hc2 hd2;exact concat_meets ⟨_,ho,rfl⟩ ⟨_,ho2,rfl⟩ vm0 seq_tuple_add vj1 vi6 (vi4 _ _)
  (tuple_addW0 a b _ its2.toArray n n2 dd dd2 sl sl2 rfl) ⟨ho,ho2,⟨.ref b,H,I,rfl,q⟩⟩
theorem qor (hv:∀ i∈vs,M.Ms i=false) (hK:M.K=X.K) (ha:PE X a (tE M f vs)) (hb:PE X b (tE M g vs')):PE X (.BinOp a .Add b pos) (tE M (bBin zqj f g) (vs++vs')):=by
 refine zqw (ql4 (qp0.or (qpz.or (qme.or qim))) ha hb) λ σ H Q h=>zwt hv (λ x d y e z c v w H fps f1 f2 Q ho o1 o2 dj nz zd lf=>?_) h;cases x with
 | int i=>
  cases y with
  | int j=>
   cases ho;rw [Own] at o1 o2;exact .inl ⟨i,j,o1.1,o2.1,zwb lf⟩
  | _=>cases ho
 | lst xs=>
  cases y with
  | lst ys=>
   dsimp only [zqj] at ho;split at ho
   ·rename_i hl;cases ho;obtain ⟨p,ws,rfl,hp,ol⟩:=(cold o1 λ a ha=>nz a (ja8 _ ha)).coldL;obtain ⟨p2,us,rfl,hp2,ol2⟩:=(cold o2 λ a ha=>nz a (ja5 _ ha)).coldL;exact .inr (.inl ⟨p,p2,ws,us,rfl,rfl,hp,hp2,by rw [ol.length,ol2.length];exact hl,λ q hq=>zww lf (ol.app ol2) hq⟩)
   ·cases ho
  | _=>cases ho
 | tup xs=>
  cases y with
  | tup ys=>
   dsimp only [zqj] at ho;split at ho
   ·rename_i hl;cases ho;obtain ⟨p,ws,rfl,hp,ol⟩:=(cold o1 λ a ha=>nz a (ja8 _ ha)).coldT;obtain ⟨p2,us,rfl,hp2,ol2⟩:=(cold o2 λ a ha=>nz a (ja5 _ ha)).coldT;by_cases hw:ws=[]
    ·subst hw;refine .inr (.inr (.inr ⟨p,p2,us,rfl,rfl,.inl (.inl hp),.inl (.inl hp2),?_⟩));have ex:xs=[]:=by
      have:=ol.length
      cases xs with
      | nil=>rfl
      | cons _ _=>simp at this
     subst ex;exact zza (x:=.tup ys) lf (by rw [Own];exact ⟨p2,us,rfl,hp2,ol2⟩)
    ·refine .inr (.inr (.inl ⟨p,p2,ws,us,rfl,rfl,.inl (.inl hp),.inl (.inl hp2),hw,by rw [ol.length,ol2.length];exact hl,λ hu=>?_,λ hu q hq=>zjs lf (ol.app ol2) hq⟩));subst hu;have ey:ys=[]:=by
      have:=ol2.length
      cases ys with
      | nil=>rfl
      | cons _ _=>simp at this
     subst ey;rw [jh9] at lf;exact zza (x:=.tup xs) lf (by rw [Own];exact ⟨p,ws,rfl,hp,ol⟩)
   ·cases ho
  | _=>cases ho
 | _=>cases ho
theorem qb3 {op:vi7}{p:Int->Int->Bool}{k:Int->Int->Int}{C:Int->Int->Prop} (hop:OpR X (vg3 op) (rI C λ i j=>.int (k i j))) (hC:∀ i j,p i j=true->C i j) (hv:∀ i∈vs,M.Ms i=false) (ha:PE X a (tE M f vs)) (hb:PE X b (tE M g vs')):
  PE X (.BinOp a op b pos) (tE M (bBin (qdl p k) f g) (vs++vs')):=by
 refine zqw (ql4 hop ha hb) λ σ H Q h=>zwt hv (λ x d y e z c v w H fps f1 f2 Q ho o1 o2 dj nz zd lf=>?_) h;cases x with
 | int i=>
  cases y with
  | int j=>
   dsimp only [qdl] at ho;split at ho
   ·rename_i hp;cases ho;rw [Own] at o1 o2;exact ⟨i,j,o1.1,o2.1,hC i j hp,zwb lf⟩
   ·cases ho
  | _=>cases ho
 | _=>cases ho
theorem OwnL.rep {K:Frag}{H:Hp}{Z:Addr->Prop}{xs:List PV}{ws:List V} (h:OwnL K H Z xs 0 ws []):∀ n,OwnL K H Z (repL n xs) 0 (ja6 n ws).flatten []
 | 0=>by
  unfold repL;rw [jn8,jn8,jp9,jp9,OwnL];exact ⟨rfl,rfl⟩
 | n + 1=>by
  have:=h.rep n
  unfold repL at this ⊢;rw [je5,je5,jh2,jh2];exact h.app this
theorem qmb:OpR X (vg3 .Sub) (rI (λ _ _=>True) λ i j=>.int (i - j)):=opI λ _ _ _ _ _ _ _ _ q=>sub_int q
theorem cMul {i j:Int} (h:pMul i j=true):CMul i j:=by
 unfold pMul at h;simp only [jf3,ja9,decide_eq_true_eq] at h;exact h
theorem qoi (hv:∀ i∈vs,M.Ms i=false) (ha:PE X a (tE M f vs)) (hb:PE X b (tE M g vs')):PE X (.BinOp a .Mult b pos) (tE M (bBin zxw f g) (vs++vs')):=by
 refine zqw (ql4 (qpp.or qpn) ha hb) λ σ H Q h=>zwt hv (λ x d y e z c v w H fps f1 f2 Q ho o1 o2 dj nz zd lf=>?_) h;cases x with
 | int i=>
  cases y with
  | int j=>
   dsimp only [zxw] at ho;split at ho
   ·rename_i hp;cases ho;rw [Own] at o1 o2;exact .inl ⟨i,j,o1.1,o2.1,cMul hp,zwb lf⟩
   ·cases ho
  | _=>cases ho
 | lst xs=>
  cases y with
  | int k=>
   dsimp only [zxw] at ho;split at ho
   ·rename_i hl;cases ho;obtain ⟨p,ws,rfl,hp,ol⟩:=(cold o1 λ a ha=>nz a (ja8 _ ha)).coldL;rw [Own] at o2;exact .inr ⟨p,k,ws,rfl,o2.1,hp,by omega,by omega,by rw [ol.length];exact hl.2.2,λ q hq=>zww lf (ol.rep k.toNat) hq⟩
   ·cases ho
  | _=>cases ho
 | _=>cases ho
theorem cDiv {i j:Int} (h:pDiv i j=true):0 < j/\j.natAbs.log2 < 9000:=by
 unfold pDiv at h;simp only [ja9,decide_eq_true_eq] at h;exact h
theorem cMod {i j:Int} (h:pMod i j=true):0 < j:=by
 unfold pMod at h;simpa using h
theorem cPow {i j:Int} (h:pPow i j=true):CPow i j:=by
 unfold pPow at h;simp only [ja9,decide_eq_true_eq] at h;exact ⟨h.1.1,by omega,h.2⟩
def zjj:PV->Nat->Option (PV×Nat)
 | .int i,_=>some (.int (-i),om)
 | _,_=>none
theorem qoh (ha:PE X a (tE M f vs)):PE X (.UnaryOp .USub a pos) (tE M (bUn zjj f) vs):=by
 refine zqw (qrc qnr ha) λ σ H Q h=>qhx (λ x d z c v H fps f1 Q ho o1 nz zd lf=>?_) h;cases x with
 | int i=>cases ho;rw [Own] at o1;exact ⟨i,o1.1,zwb lf⟩
 | _=>cases ho
def zxo (p:Int->Int->Bool):PV->Nat->PV->Nat->Option (PV×Nat)
 | .int i,_,.int j,_=>some (.bl (p i j),om)
 | _,_,_,_=>none
theorem zke {p:Int->Int->Bool}{x y z:PV}{d e c:Nat}{v w:V}{fps:Fps}{f1 f2 F:List Addr}{Z Z':Addr->Prop} (ho:zxo p x d y e=some (z,c)) (o1:Own M.K H Z x d v f1) (o2:Own M.K H Z' y e w f2) (lf:Leaf M H fps vs F z c Q):rI0 (λ i j=>.bl (p i j)) v w H Q:=by
 cases x with
 | int i=>
  cases y with
  | int j=>
   cases ho;rw [Own] at o1 o2;exact ⟨i,j,o1.1,o2.1,zzx lf⟩
  | _=>cases ho
 | _=>cases ho
def sV:PV->Option V
 | .non=>some .non
 | .bl b=>some (.bl b)
 | .int i=>some (.int i)
 | .str x=>some (.str x)
 | _=>none
def opEq (neg:Bool):=zxo λ i j=>neg^^decide (i=j)
theorem qfj:OpR X (vb6 .Eq) (rI0 λ i j=>.bl (false^^decide (i=j))):=λ pins s σ H x y v u Q I rx ry h=>qrg pins s σ H x y v u Q I rx ry (by
 obtain ⟨i,j,rfl,rfl,q⟩:=h;refine ⟨rfl,?_⟩;rw [zfv];simp only [ji7] at q;exact q)
theorem qmd:OpR X (vb6 .NotEq) (rI0 λ i j=>.bl (true^^decide (i=j))):=λ pins s σ H x y v u Q I rx ry h=>qrf pins s σ H x y v u Q I rx ry (by
 obtain ⟨i,j,rfl,rfl,q⟩:=h;refine ⟨rfl,?_⟩;rw [zfv];simp only [jo6] at q;exact q)
def isNon:PV->Bool
 | .non=>true
 | _=>false
def opIs (neg:Bool):PV->Nat->PV->Nat->Option (PV×Nat)
 | .bl a,_,.bl b,_=>some (.bl (neg^^(a == b)),om)
 | x,_,.non,_=>some (.bl (neg^^isNon x),om)
 | _,_,_,_=>none
theorem qpv:OpR X (vb6 .Is) (λ x y H Q=>∃ i j,x=.bl i/\y=.bl j/\Q (.bl (i == j)) H):=by
 intro pins s σ H x y v u Q I rx ry h;obtain ⟨i,j,rfl,rfl,q⟩:=h;cases rx;cases ry;exact is_bool ⟨.bl _,H,I,rfl,q⟩
theorem qfi:OpR X (vb6 .IsNot) (λ x y H Q=>∃ i j,x=.bl i/\y=.bl j/\Q (.bl (i != j)) H):=by
 intro pins s σ H x y v u Q I rx ry h;obtain ⟨i,j,rfl,rfl,q⟩:=h;cases rx;cases ry;exact isnot_bool ⟨.bl _,H,I,rfl,q⟩
theorem Own.isNon {K:Frag}{Z:Addr->Prop}{x:PV}{d:Nat}{v:V}{fp:List Addr} (o:Own K H Z x d v fp):decide (v=.non)=QQ.isNon x:=by
 cases x with
 | non=>rw [Own] at o;rw [o.1];rfl
 | bl b=>rw [Own] at o;rw [o.1];rfl
 | int b=>rw [Own] at o;rw [o.1];rfl
 | str b=>rw [Own] at o;rw [o.1];rfl
 | emp=>rw [Own] at o;obtain ⟨_,a,rfl,_⟩:=o;rfl
 | dko=>rw [Own] at o;obtain ⟨_,a,rfl,_⟩:=o;rfl
 | scr ns=>rw [Own] at o;obtain ⟨_,a,rfl,_⟩:=o;rfl
 | exn c=>rw [Own] at o;obtain ⟨_,a,_,rfl,_⟩:=o;rfl
 | dct kvs=>rw [Own] at o;obtain ⟨a,rfl,_⟩:=o;rfl
 | dcl ks xs=>rw [Own] at o;obtain ⟨a,ws,rfl,_⟩:=o;rfl
 | lst xs=>rw [Own] at o;obtain ⟨a,ws,rfl,_⟩:=o;rfl
 | tup xs=>rw [Own] at o;obtain ⟨a,ws,rfl,_⟩:=o;rfl
theorem qf8 {x y z:PV}{d e c:Nat}{v w:V}{fps:Fps}{f1 f2 F:List Addr}{Z Z':Addr->Prop}{neg:Bool} (ho:opIs neg x d y e=some (z,c)) (o1:Own M.K H Z x d v f1) (o2:Own M.K H Z' y e w f2) (lf:Leaf M H fps vs F z c Q):(∃ i j,v=.bl i/\w=.bl j/\Q (.bl (neg^^(i == j))) H)\/(w=.non/\Q (.bl (neg^^decide (v=.non))) H):=by
 unfold opIs at ho;split at ho
 ·cases ho;rw [Own] at o1 o2;exact .inl ⟨_,_,o1.1,o2.1,zzx lf⟩
 ·cases ho;rw [Own] at o2;rw [o1.isNon];exact .inr ⟨o2.1,zzx lf⟩
 ·cases ho
def keyL:List PV->Option (List Key)
 | []=>some []
 | .int i::r=>(keyL r).map (.inl i::·)
 | .str x::r=>(keyL r).map (.inr x::·)
 | _=>none
theorem zzz {K:Frag}{Z:Addr->Prop}:∀ {xs:List PV}{ws:List V}{d:Nat}{fp:List Addr}{k:List Key},keyL xs=some k->OwnL K H Z xs d ws fp->ws=k.map kV
 | [],ws,d,fp,k,e,h=>by cases e;rw [OwnL] at h;exact h.1
 | .int i::r,ws,d,fp,k,e,h=>by
  obtain ⟨k',e1,rfl⟩:=jc3.mp e;rw [OwnL] at h;obtain ⟨v,s,f1,f2,rfl,ef,dj,h1,h2⟩:=h;rw [Own] at h1;rw [h1.1,zzz e1 h2];rfl
 | .str i::r,ws,d,fp,k,e,h=>by
  obtain ⟨k',e1,rfl⟩:=jc3.mp e;rw [OwnL] at h;obtain ⟨v,s,f1,f2,rfl,ef,dj,h1,h2⟩:=h;rw [Own] at h1;rw [h1.1,zzz e1 h2];rfl
 | .non::_,_,_,_,_,e,_=>by cases e
 | .bl _::_,_,_,_,_,e,_=>by cases e
 | .lst _::_,_,_,_,_,e,_=>by cases e
 | .tup _::_,_,_,_,_,e,_=>by cases e
 | .emp::_,_,_,_,_,e,_=>by cases e
 | .dko::_,_,_,_,_,e,_=>by cases e
 | .scr _::_,_,_,_,_,e,_=>by cases e
 | .dct _::_,_,_,_,_,e,_=>by cases e
 | .dcl _ _::_,_,_,_,_,e,_=>by cases e
 | .exn _::_,_,_,_,_,e,_=>by cases e
def kvX:List (List Key)->List PV->List Key->Option PV
 | k'::ks,x::xs,k=>if k'=k then some x else kvX ks xs k
 | _,_,_=>none
theorem qba {K:Frag}{Z:Addr->Prop}{k:List Key}:∀ {ks:List (List Key)}{xs:List PV}{ws:List V},OwnL K H Z xs 0 ws []->ks.length=xs.length->(∀ x,kvX ks xs k=some x->∃ w,valV (ks.zip ws) k=some w/\Own K H Z x 0 w [])/\(kvX ks xs k=none->valV (ks.zip ws) k=none)
 | [],[],ws,h,_=>⟨λ x e=>(nomatch e),λ _=>rfl⟩
 | [],_::_,ws,h,e=>by cases e
 | _::_,[],ws,h,e=>by cases e
 | k'::ks,x::xs,ws,h,e=>by
  rw [OwnL] at h;obtain ⟨v,s,f1,f2,rfl,ef,_,o1,o2⟩:=h;obtain ⟨rfl,rfl⟩:f1=[]/\f2=[]:=by simpa using ef.symm
  have ih:=qba (k:=k) o2 (by simpa using e);rw [jg8];unfold kvX;by_cases hk:k'=k
  ·rw [if_pos hk,zjl (p:=(k',v)) hk];exact ⟨λ y ey=>by cases ey;exact ⟨v,rfl,o1⟩,λ z=>(nomatch z)⟩
  ·rw [if_neg hk,zjm (p:=(k',v)) hk];exact ih
def zqc:PV->Nat->PV->Nat->Option (PV×Nat)
 | .lst xs,_,.int i,_=>(atI xs i).map λ z=>(z,dv z)
 | .tup xs,_,.int i,_=>(atI xs i).map λ z=>(z,dv z)
 | .scr ns,_,.int i,_=>(atI ns i).map λ z=>(.int z,om)
 | .str z,_,.int i,_=>if z.length<=va5 then (atI z.cps.toList i).map λ c=>(.str ⟨#[c]⟩,om) else none
 | .dcl ks xs,_,.tup key,_=>(match keyL key with
  | some k=>(kvX ks xs k).map λ z=>(z,dv z)
  | none=>none)
 | _,_,_,_=>none
def rDG:R2:=λ x y H Q=>∃ a v,x=.ref a/\DGet H a y (some v)/\Q v H
theorem qmt (hu:X.A.units + 1 < vm1):IxR X rDG:=by
 intro value slice pins s σ H x y v u Q I rx ry h hs;obtain ⟨a,w,rfl,g,q⟩:=h;obtain rfl:v=Value.ref a:=rx;exact tail_any (qbi I g) PySem.F.slot_dict_getitem.lookup (qg5 hu I g ry λ w' s' I' rw'=>⟨w,H,I',rw',q⟩) hs
theorem Own.dcl0 {K:Frag}{Z:Addr->Prop}{ks:List (List Key)}{xs:List PV}{v:V} (h:Own K H Z (.dcl ks xs) 0 v []):∃ a ws,v=.ref a/\ks.length=xs.length/\Rd H a (.dT (ks.zip ws))/\¬ Z a/\OwnL K H Z xs 0 ws []:=by
 rw [Own] at h;obtain ⟨a,ws,e,en,⟨_,hr,_,ol⟩ | ⟨h,_⟩⟩:=h
 ·exact ⟨a,ws,e,en,hr.1,hr.2,ol⟩
 ·exact absurd rfl h
theorem qbp {K:Frag}{Z:Addr->Prop}{xs:List PV}{ws:List V}{i:Int}{z:PV} (ol:OwnL K H Z xs 0 ws []) (e:atI xs i=some z):∃ w,atI ws i=some w/\Own K H Z z 0 w []:=by
 unfold atI at e ⊢;rw [ol.length];cases ej:ixN xs.length i with
 | none=>rw [ej] at e;cases e
 | some j=>rw [ej] at e;exact ol.nth e
theorem qj4 (hu:X.A.units + 1 < vm1) (hv:∀ i∈vs,M.Ms i=false) (hK:M.K=X.K) (hs:zge b) (ha:PE X a (tE M f vs)) (hb:PE X b (tE M g vs')):PE X (.Subscript a b pos) (tE M (bBin zqc f g) (vs++vs')):=by
 refine zqw (qpj (qkd.or (qmt hu)) ha hb hs) λ σ H Q h=>zwt hv (λ x d y e z c v w H fps f1 f2 Q ho o1 o2 dj nz zd lf=>?_) h;cases y with
 | int i=>
  rw [Own] at o2;cases x with
  | lst xs=>
   dsimp only [zqc] at ho;obtain ⟨z',ez,e2⟩:=jc3.mp ho;cases e2;obtain ⟨p,ws,rfl,hp,ol⟩:=(cold o1 λ a ha=>nz a (ja8 _ ha)).coldL;obtain ⟨w',e1,ow⟩:=qbp ol ez;exact .inl (.inl ⟨p,ws,i,w',rfl,o2.1,.inl (.inl hp),e1,zza lf ow⟩)
  | tup xs=>
   dsimp only [zqc] at ho;obtain ⟨z',ez,e2⟩:=jc3.mp ho;cases e2;obtain ⟨p,ws,rfl,hp,ol⟩:=(cold o1 λ a ha=>nz a (ja8 _ ha)).coldT;obtain ⟨w',e1,ow⟩:=qbp ol ez;exact .inl (.inr (.inl ⟨p,ws,i,w',rfl,o2.1,.inl (.inl hp),e1,zza lf ow⟩))
  | scr ns=>
   dsimp only [zqc] at ho;obtain ⟨z',ez,e2⟩:=jc3.mp ho;cases e2;rw [Own] at o1;obtain ⟨_,p,rfl,hp⟩:=o1;refine .inl (.inl ⟨p,ns.map V.int,i,.int z',rfl,o2.1,?_,?_,zwb lf⟩)
   ·rw [<- hK];exact hp.elim (λ h=>.inl (.inr h)) .inr
   ·unfold atI at ez ⊢;rw [ja3];cases ej:ixN ns.length i with
    | none=>rw [ej] at ez;cases ez
    | some j=>
     rw [ej] at ez;show (ns.map V.int)[j]?=_;rw [jc1]
     have:ns[j]?=some z':=ez
     rw [this];rfl
  | str z=>
   dsimp only [zqc] at ho;split at ho
   ·rename_i hl;obtain ⟨c',ez,e2⟩:=jc3.mp ho;cases e2;rw [Own] at o1;exact .inl (.inr (.inr ⟨z,i,c',o1.1,o2.1,hl,ez,qiv lf⟩))
   ·cases ho
  | _=>cases ho
 | tup key=>
  cases x with
  | dcl ks xs=>
   dsimp only [zqc] at ho;split at ho
   ·rename_i k ek;obtain ⟨z',ez,e2⟩:=jc3.mp ho;cases e2;obtain ⟨a,ws,rfl,en,hr,nz',ol⟩:=(cold o1 λ a ha=>nz a (ja8 _ ha)).dcl0;obtain ⟨w',ew,ow⟩:=(qba (k:=k) ol en).1 _ ez;rw [Own] at o2;obtain ⟨b,us,rfl,hb,okey⟩:=o2
    have:=zzz ek okey
    subst this;exact .inr ⟨a,w',rfl,.inr ⟨_,k,b,hr,rfl,hb,ew.symm⟩,zza lf ow⟩
   ·cases ho
  | _=>cases ho
 | _=>cases x <;> cases ho
def evO:Option Fx->Rho->Rz (Option Int×Rho)
 | none,ρ=>.ok (none,ρ)
 | some f,ρ=>(f ρ).bind λ (x,_,ρ1)=>match x with
  | .int i=>.ok (some i,ρ1)
  | _=>.no
def cutP (xs:List PV) (lo hi:Option Int):List PV:=(xs.drop (HT.sIx xs.length 0 lo)).take (HT.sIx xs.length xs.length hi - HT.sIx xs.length 0 lo)
def opSl (x:PV) (lo hi:Option Int):Option (PV×Nat):=match x with
 | .lst xs=>some (.lst (cutP xs lo hi),d1 (cutP xs lo hi))
 | .tup xs=>if HT.sIx xs.length 0 lo=0/\HT.sIx xs.length xs.length hi=xs.length then none else some (.tup (cutP xs lo hi),0)
 | _=>none
def bSl (f:Fx) (lo hi:Option Fx):Fx:=λ ρ=>(f ρ).bind λ (x,_,ρ1)=>(evO lo ρ1).bind λ (l,ρ2)=>(evO hi ρ2).bind λ (u,ρ3)=>match opSl x l u with
 | some (z,c)=>.ok (z,c,ρ3)
 | none=>.no
def tO (M:Fm):Option (Fx×List Nat)->TO
 | none=>qef
 | some (f,vs)=>qn7 (tE M f vs)
theorem qee {o:Option (Fx×List Nat)}{ρ:Rho}{fps:Fps}{R:Option Int->Hp->Prop} (rep:Rep M ρ σ H fps)
  (q:match evO (o.map (·.1)) ρ with
   | .ok (l,ρ')=>∀ H' fps',KD M H fps H' fps'->Agr M ρ ρ'->Rep M ρ' σ H' fps'->R l H'
   | .exc c=>∀ H' fps',KD M H fps H' fps'->M.W σ c H'
   | .no=>False):tO M o σ H R:=by
 cases o with
 | none=>exact q H fps KD.refl Agr.refl rep
 | some p=>
  obtain ⟨f,vs⟩:=p;refine ⟨ρ,fps,rep,?_⟩;dsimp only [js0,evO] at q;cases ef:f ρ with
  | no=>rw [ef] at q;exact q
  | exc c=>rw [ef] at q;exact q
  | ok p=>
   obtain ⟨x,d,ρ1⟩:=p;rw [ef] at q;intro v H1 fps1 f1 k1 g1 rep1 o1 t1;dsimp only [Rz.bind] at q;cases x with
   | int i=>rw [Own] at o1;exact ⟨i,o1.1,q H1 fps1 k1 g1 rep1⟩
   | _=>exact q.elim
theorem qoa {lo hi:Option (Fx×List Nat)} (hv:∀ i∈vs,M.Ms i=false) (hK:M.K=X.K) {σ:St}{H:Hp}{Q:VK} (hq:tE M (bSl f (lo.map (·.1)) (hi.map (·.1))) vs σ H Q):tSl (λ x lo hi H Q=>rSlL X.K x lo hi H Q\/rSlT X.K x lo hi H Q) (tE M f vs) (tO M lo) (tO M hi) σ H Q:=by
 obtain ⟨ρ,fps,rep,q⟩:=hq;refine ⟨ρ,fps,rep,?_⟩;unfold bSl at q;cases ef:f ρ with
 | no=>rw [ef] at q;exact q
 | exc c=>rw [ef] at q;exact q
 | ok p=>
  obtain ⟨x,d,ρ1⟩:=p;rw [ef] at q;intro v H1 fps1 f1 k1 g1 rep1 o1 t1;dsimp only [Rz.bind] at q;refine qee rep1 ?_;cases el:evO (lo.map (·.1)) ρ1 with
  | no=>rw [el] at q;exact q
  | exc c=>rw [el] at q;exact λ H' fps' k=>q H' fps' (k1.trans k)
  | ok p2=>
   obtain ⟨l,ρ2⟩:=p2;rw [el] at q;intro H2 fps2 k2 g2 rep2;refine qee rep2 ?_;dsimp only at q;cases eh:evO (hi.map (·.1)) ρ2 with
   | no=>rw [eh] at q;exact q
   | exc c=>rw [eh] at q;exact λ H' fps' k=>q H' fps' ((k1.trans k2).trans k)
   | ok p3=>
    obtain ⟨u,ρ3⟩:=p3;rw [eh] at q;intro H3 fps3 k3 g3 rep3;dsimp only at q;have kk:=k2.trans k3;have o3:=kk.stay rep1 hv o1 t1.ndj;have n3:∀ a∈f1,¬ Zf M fps3 a:=λ a ha z=>by
     rcases z with z | ⟨i,z⟩
     ·exact t1.ndj a ha (.inl z)
     ·rcases kk.sub i a z with z | z
      ·exact t1.ndj a ha (.inr ⟨i,z⟩)
      ·obtain ⟨xs,e⟩:=Own.lsts x d v f1 o1 a ha;rw [z] at e;cases e
    have back:∀ a,H3 a=none->H a=none:=λ a e=>by
     cases e':H a with
     | none=>rfl
     | some o=>exact absurd e ((k1.trans kk).dom a (by rw [e'];simp))
    cases eo:opSl x l u with
    | none=>rw [eo] at q;exact q.elim
    | some zc=>
     obtain ⟨z,c⟩:=zc;rw [eo] at q;have lf:Leaf M H3 fps3 vs f1 z c Q:=λ w H4 fp k4 o4 hfp=>q w H4 fps3 fp ((k1.trans kk).trans (KD.grow k4)) (g1.trans (g2.trans g3)) (rep3.grow k4) o4 ⟨λ a ha=>(hfp a ha).elim (t1.new a) (back a),λ a ha=>(hfp a ha).elim (n3 a) λ z=>rep3.nz z⟩;have c0:=cold o3 n3;unfold opSl at eo;cases x with
     | lst xs=>
      cases eo;obtain ⟨p,ws,rfl,hp,ol⟩:=c0.coldL;refine .inl ⟨p,ws,rfl,.inl (.inl hp),λ q hq=>?_⟩;have e:OwnL M.K H3 (Zv M vs fps3) (cutP xs l u) 0 (cutV ws l u) []:=by
       unfold cutP cutV;rw [ol.length];exact (ol.drop _).take _
      exact zww lf e hq
     | tup xs=>
      dsimp only at eo;split at eo
      ·cases eo
      ·rename_i hw;cases eo;obtain ⟨p,ws,rfl,hp,ol⟩:=c0.coldT;refine .inr ⟨p,ws,rfl,.inl (.inl hp),by rw [ol.length];exact hw,λ q hq=>?_⟩;have e:OwnL M.K H3 (Zv M vs fps3) (cutP xs l u) 0 (cutV ws l u) []:=by
        unfold cutP cutV;rw [ol.length];exact (ol.drop _).take _
       exact zjs lf e hq
     | _=>cases eo
def zgk:PV->String
 | .non => "NoneType"
 | .bl _ => "bool"
 | .int _ => "int"
 | .str _ => "str"
 | .lst _ => "list"
 | .tup _ => "tuple"
 | .emp => "dict"
 | .dko => "dict"
 | .dct _ => "dict"
 | .dcl _ _ => "dict"
 | _ => ""
def isiB (t T:String):Bool:=t == T || (t == "bool" && T == "int")
def isiT:List String:=["int","bool","str","list","tuple","dict"]
def zfh (T:String) (x:PV) (_:Nat):Option (PV×Nat):=match x with
 | .scr _=>none
 | .exn _=>none
 | .dct _=>none
 | .dcl _ _=>none
 | _=>some (.bl (isiB (zgk x) T),om)
theorem Own.ty {K:Frag}{Z:Addr->Prop}{x:PV}{d:Nat}{v:V}{fp:List Addr} (h:Own K H Z x d v fp) (hs:∀ ns,x≠.scr ns) (hx:∀ c,x≠.exn c) (hd1:∀ kvs,x≠.dct kvs) (hd2:∀ ks xs,x≠.dcl ks xs):TyOf K H v (.type (zgk x)):=by
 cases x with
 | non=>rw [Own] at h;rw [h.1];exact .non
 | bl b=>rw [Own] at h;rw [h.1];exact .bl b
 | int i=>rw [Own] at h;rw [h.1];exact .int i
 | str s=>rw [Own] at h;rw [h.1];exact .str s
 | emp=>rw [Own] at h;obtain ⟨_,a,e,ha⟩:=h;rw [e];exact .dK ha
 | dko=>rw [Own] at h;obtain ⟨_,a,e,_,ha⟩:=h;rw [e];exact .dK ha
 | scr ns=>exact absurd rfl (hs ns)
 | exn c=>exact absurd rfl (hx c)
 | dct kvs=>exact absurd rfl (hd1 kvs)
 | dcl ks xs=>exact absurd rfl (hd2 ks xs)
 | lst xs=>
  rw [Own] at h;obtain ⟨a,ws,e,⟨_,hr,_,_⟩ | ⟨_,f,ha,_⟩⟩:=h
  ·rw [e];exact .lst hr.1
  ·rw [e];exact .lst ha
 | tup xs=>
  rw [Own] at h;obtain ⟨a,ws,e,hr,_⟩:=h;rw [e];exact .tup hr
end
section
variable {X:Cx}{M:Fm}{a b:Expr}{f g:Fx}{fa:Fa}{vs vs':List Nat}{pos p:Pos}{σ:St}{H:Hp}{Q:VK}{e:Expr}{es:List Expr}
theorem qos:PA X [] (tL M aNil []):=qkc zhh λ σ H Q h=>qjz h
theorem qlm (hv:∀ i∈vs,M.Ms i=false) (ha:PE X e (tE M f vs)) (hr:PA X es (tL M fa vs')) (hs:va9 (e::es) X.env=(false,eval e X.env)::va9 es X.env):PA X (e::es) (tL M (zqa f fa) (vs++vs')):=
 qkc (zyz ha hr hs) λ σ H Q h=>qap hv h
theorem zzg {op:List (PV×Nat)->Option (PV×Nat)}{r:List V->Hp->VK->Prop}
  (leaf:∀ xs z c ws H fps fp Q,op xs=some (z,c)->Tmps M.K H (Zv M vs fps) xs ws fp->(∀ a∈fp,¬ Zf M fps a)->(∀ a,Zf M fps a->H a≠none)->Leaf M H fps vs fp z c Q->r ws H Q)
  {σ:St}{H:Hp}{Q:VK} (hq:tE M (zqd op fa) vs σ H Q):tCB r (tL M fa vs) σ H Q:=zmy leaf hq
def zqs (xs:List (PV×Nat)):Option (PV×Nat):=if xs.length<=va5 then some (.lst (xs.map (·.1)),if zzf xs then om else 1) else none
def zxy (xs:List (PV×Nat)):Option (PV×Nat):=if xs.length<=va5 then some (.tup (xs.map (·.1)),if zzf xs then om else 0) else none
theorem qoj (h:PA X es (tL M fa vs)):PE X (.List es pos) (tE M (zqd zqs fa) vs):=by
 refine zqw (qka h) λ σ H Q h=>zmy (r:=λ xs H1 Q=>xs.length<=va5/\∀ p,H1 p=none->Q (.ref p) (upd H1 p (.lst xs))) (λ xs z c ws H fps fp Q ho tm nz zd lf=>?_) h;unfold zqs at ho;split at ho
 ·rename_i hl;refine ⟨by rw [tm.length];exact hl,λ q hq=>?_⟩;cases eo:zzf xs with
  | true=>rw [eo] at ho;cases ho;exact zmn lf (tm.all (zvx eo)) hq
  | false=>rw [eo] at ho;cases ho;exact zbx lf (tm.cold λ a ha z=>nz a ha z.zf) hq
 ·cases ho
theorem qog {x1:_} (h:PA X es (tL M fa vs)):PE X (.Tuple es x1 pos) (tE M (zqd zxy fa) vs):=by
 refine zqw (qpf h) λ σ H Q h=>zmy (r:=λ xs H1 Q=>xs.length<=va5/\∀ p,H1 p=none->Q (.ref p) (upd H1 p (.tup xs))) (λ xs z c ws H fps fp Q ho tm nz zd lf=>?_) h;unfold zxy at ho;split at ho
 ·rename_i hl;refine ⟨by rw [tm.length];exact hl,λ q hq=>?_⟩;cases eo:zzf xs with
  | true=>rw [eo] at ho;cases ho;exact qf7 lf (tm.all (zvx eo)) hq
  | false=>rw [eo] at ho;cases ho;exact zjs lf (tm.cold λ a ha z=>nz a ha z.zf) hq
 ·cases ho
theorem Inv.big {pins:List (Addr×Obj)}{s:va3} (I:L2.Inv X pins σ H s):vd0 < s.heap.objs.size:=by
 have h:vc6 < s.heap.objs.size:=(I.mod.glob.keeps I.bk).lt;exact jr2 (by decide) h
theorem ql6:PE X (.Dict [] [] pos) (λ _ H Q=>∀ p,H p=none->Q (.ref p) (upd H p (.dK []))):=λ pins s σ H Q I h=>
 wpAny_Dict_empty ⟨.ref s.heap.objs.size,_,I.laid (a:=s.heap.objs.size) (o:=.dK []) (t':=s.toks) (λ _ _ q=>va4 _ q) (ja4 _) ⟨jj0 _,beq_eq_false_iff_ne.mpr (vb9 (jd1 (Inv.big I))),[],.nil,Heap.DictOf.new s.heap⟩,rfl,h _ (I.hok.fresh (ja4 _))⟩
theorem qon:PE X (.Dict [] [] pos) (tE M (bC .emp) []):=by
 refine zqw ql6 λ σ H Q h p hp=>?_;obtain ⟨ρ,fps,rep,q⟩:=h;refine q (.ref p) _ fps [] (KD.grow (zxl hp)) Agr.refl (rep.grow (zxl hp)) ?_ ⟨λ _ z=>(nomatch z),λ _ z=>nomatch z⟩;rw [Own];exact ⟨rfl,p,rfl,zqe⟩
theorem qjq:zkl X (.builtin "isinstance") (λ xs H Q=>∃ x t T k,xs=[x,.ty T]/\TyOf X.K H x t/\vk3 X.K t (.type T)=some k/\Q (.bl k) H):=by
 intro pins s σ H xs us Q I r h;obtain ⟨x,t,T,k,rfl,ty,hk,q⟩:=h;obtain ⟨u,w,rfl,r1,r2⟩:=qno r;cases r2;exact qgg I r1 ty hk λ tk=>⟨.bl k,H,I.tok _,rfl,q⟩
theorem qp7 (K:Frag) {T:String} (hT:T∈isiT) (x:PV) (hs:∀ ns,x≠.scr ns) (hx:∀ c,x≠.exn c):vk3 K (.type (zgk x)) (.type T)=some (isiB (zgk x) T):=by
 simp only [isiT,jc0,jf8,or_false] at hT;cases x with
 | scr ns=>exact absurd rfl (hs ns)
 | exn c=>exact absurd rfl (hx c)
 | _=>rcases hT with h | h | h | h | h | h <;> subst h <;> rfl
theorem qol {T:String}{x T':Str}{p1 p2:Pos} (hT:T∈isiT) (hK:M.K=X.K) (ha:PE X e (tE M f vs)) (hg:Gl X "isinstance") (hm:X.mg "isinstance" = none) (hT':PE X (.Name T' p2) (tC (.ty T)))
  (hs1:va9 [e,.Name T' p2] X.env=[(false,eval e X.env),(false,eval (.Name T' p2) X.env)]) (hs2:va9 [Expr.Name T' p2] X.env=[(false,eval (.Name T' p2) X.env)]):
  PE X (.Call (.Name "isinstance" p1) [e,.Name T' p2] [] pos) (tE M (bUn (zfh T) f) vs):=by
 refine zqw (zyh qjq hg hm rfl (zyz ha (zyz hT' zhh hs2) (by rw [hs1,hs2])) (he:=by rw [hs1,hs2]) (hpl:=by rw [hs2];rfl)) λ σ H Q h=>?_;refine qhx (r:=λ v H Q=>∃ x t T' k,[v,.ty T]=[x,.ty T']/\TyOf X.K H x t/\vk3 X.K t (.type T')=some k/\Q (.bl k) H) (λ x d z c v H fps f1 Q ho o1 nz zd lf=>?_) h;have hs:∀ ns,x≠.scr ns:=λ ns e=>by subst e;cases ho
 have hx:∀ c,x≠.exn c:=λ c e=>by subst e;cases ho
 have hd1:∀ kvs,x≠.dct kvs:=λ c e=>by subst e;cases ho
 have hd2:∀ ks xs,x≠.dcl ks xs:=λ c d e=>by subst e;cases ho
 have e2:z=.bl (isiB (zgk x) T):=by
  cases x with
  | scr ns=>cases ho
  | exn c=>cases ho
  | dct _=>cases ho
  | dcl _ _=>cases ho
  | _=>cases ho;rfl
 subst e2;exact ⟨v,_,T,_,rfl,by rw [<- hK];exact o1.ty hs hx hd1 hd2,qp7 X.K hT x hs hx,zzx lf⟩
def zws:List (PV×Nat)->Option (PV×Nat)
 | [(.lst xs,_)]=>some (.int xs.length,om)
 | [(.tup xs,_)]=>some (.int xs.length,om)
 | [(.scr ns,_)]=>some (.int ns.length,om)
 | [(.str z,_)]=>if z.length<=va5 then some (.int z.length,om) else none
 | _=>none
theorem qok (hK:M.K=X.K) (hg:Gl X "len") (hm:X.mg "len" = none) (ha:PA X (e::es) (tL M fa vs)) (he:va9 (e::es) X.env=(false,eval e X.env)::va9 es X.env) (hpl:(vg4 pos (va9 es X.env)).any (·.1)=false):
  PE X (.Call (.Name "len" p) (e::es) [] pos) (tE M (zqd zws fa) vs):=by
 refine zqw (zyh (qad.or qac) hg hm PySem.boot_len ha (he:=he) (hpl:=hpl)) λ σ H Q h=>zzg (λ xs z c ws H fps fp Q ho tm nz zd lf=>?_) h;unfold zws at ho;split at ho
 ·rename_i xs d;cases ho;obtain ⟨v,r,f1,f2,rfl,_,_,o1,h2⟩:=tm;obtain ⟨rfl,_⟩:=h2;obtain ⟨q,us,rfl,hs,hl⟩:=o1.seqL;exact .inl ⟨q,us,rfl,.inl (by rw [<- hK];exact hs),by rw [hl];exact zwb lf⟩
 ·rename_i xs d;cases ho;obtain ⟨v,r,f1,f2,rfl,_,_,o1,h2⟩:=tm;obtain ⟨rfl,_⟩:=h2;obtain ⟨q,us,rfl,hs,hl⟩:=o1.seqT;exact .inl ⟨q,us,rfl,.inr (by rw [<- hK];exact hs),by rw [hl];exact zwb lf⟩
 ·rename_i ns d;cases ho;obtain ⟨v,r,f1,f2,rfl,_,_,o1,h2⟩:=tm;obtain ⟨rfl,_⟩:=h2;rw [Own] at o1;obtain ⟨_,q,rfl,hp⟩:=o1;refine .inl ⟨q,ns.map V.int,rfl,.inl ?_,by rw [ja3];exact zwb lf⟩;rw [<- hK];exact hp.elim (λ h=>.inl (.inr h)) .inr
 ·rename_i z d;split at ho
  ·rename_i hl;cases ho;obtain ⟨v,r,f1,f2,rfl,_,_,o1,h2⟩:=tm;obtain ⟨rfl,_⟩:=h2;rw [Own] at o1;obtain ⟨rfl,_⟩:=o1;exact .inr ⟨_,rfl,hl,zwb lf⟩
  ·cases ho
 ·cases ho
def op2 (k:Int->Int->Int):List (PV×Nat)->Option (PV×Nat)
 | [(.int i,_),(.int j,_)]=>some (.int (k i j),om)
 | _=>none
theorem qiw {k:Int->Int->Int}{xs:List (PV×Nat)}{z:PV}{c:Nat}{ws:List V}{fps:Fps}{fp F:List Addr}{Z:Addr->Prop} (ho:op2 k xs=some (z,c)) (tm:Tmps M.K H Z xs ws fp) (lf:Leaf M H fps vs F z c Q):∃ i j,ws=[.int i,.int j]/\Q (.int (k i j)) H:=by
 unfold op2 at ho;split at ho
 ·rename_i i d j e;cases ho;obtain ⟨v,r,f1,f2,rfl,_,_,o1,h2⟩:=tm;obtain ⟨v2,r2,f3,f4,rfl,_,_,o2,h3⟩:=h2;obtain ⟨rfl,_⟩:=h3;rw [Own] at o1 o2;obtain ⟨rfl,_⟩:=o1;obtain ⟨rfl,_⟩:=o2;exact ⟨_,_,rfl,zwb lf⟩
 ·cases ho
def zmj:List (PV×Nat)->Option (PV×Nat)
 | [(.lst xs,_)]=>some (.tup xs,0)
 | [(.tup xs,_)]=>some (.tup xs,0)
 | _=>none
def zkm:List (PV×Nat)->Option (PV×Nat)
 | [(.lst xs,_)]=>some (.lst xs,d1 xs)
 | [(.tup xs,_)]=>some (.lst xs,d1 xs)
 | _=>none
theorem qle (hK:M.K=X.K) (hg:Gl X "tuple") (hm:X.mg "tuple" = none) (ha:PA X (e::es) (tL M fa vs)) (he:va9 (e::es) X.env=(false,eval e X.env)::va9 es X.env) (hpl:(vg4 pos (va9 es X.env)).any (·.1)=false):
  PE X (.Call (.Name "tuple" p) (e::es) [] pos) (tE M (zqd zmj fa) vs):=by
 refine zqw (zbo zfz hg hm rfl ha (he:=he) (hpl:=hpl)) λ σ H Q h=>zzg (λ xs z c ws H fps fp Q ho tm nz zd lf=>?_) h;unfold zmj at ho;split at ho
 ·rename_i xs d;cases ho;obtain ⟨v,r,f1,f2,rfl,rfl,_,o1,h2⟩:=tm;obtain ⟨rfl,rfl⟩:=h2;obtain ⟨q,us,rfl,hs,ol⟩:=(cold (fp:=f1) o1 λ a ha=>nz a (ja8 _ ha)).coldL;exact ⟨q,us,rfl,.inl ⟨.inl (.inl hs),λ l hl=>zjs lf ol hl⟩⟩
 ·rename_i xs d;cases ho;obtain ⟨v,r,f1,f2,rfl,rfl,_,o1,h2⟩:=tm;obtain ⟨rfl,rfl⟩:=h2;have c0:=cold (fp:=f1) o1 λ a ha=>nz a (ja8 _ ha);obtain ⟨q,us,rfl,hs,ol⟩:=c0.coldT;exact ⟨q,us,rfl,.inr ⟨.inl (.inl hs),zza (x:=.tup xs) lf c0⟩⟩
 ·cases ho
theorem qli (hK:M.K=X.K) (hg:Gl X "list") (hm:X.mg "list" = none) (ha:PA X (e::es) (tL M fa vs)) (he:va9 (e::es) X.env=(false,eval e X.env)::va9 es X.env) (hpl:(vg4 pos (va9 es X.env)).any (·.1)=false):
  PE X (.Call (.Name "list" p) (e::es) [] pos) (tE M (zqd zkm fa) vs):=by
 refine zqw (zbo qab hg hm rfl ha (he:=he) (hpl:=hpl)) λ σ H Q h=>zzg (λ xs z c ws H fps fp Q ho tm nz zd lf=>?_) h;unfold zkm at ho;split at ho
 ·rename_i xs d;cases ho;obtain ⟨v,r,f1,f2,rfl,rfl,_,o1,h2⟩:=tm;obtain ⟨rfl,rfl⟩:=h2;obtain ⟨q,us,rfl,hs,ol⟩:=(cold (fp:=f1) o1 λ a ha=>nz a (ja8 _ ha)).coldL;exact ⟨q,us,rfl,.inl (.inl (.inl hs)),λ l hl=>zww lf ol hl⟩
 ·rename_i xs d;cases ho;obtain ⟨v,r,f1,f2,rfl,rfl,_,o1,h2⟩:=tm;obtain ⟨rfl,rfl⟩:=h2;obtain ⟨q,us,rfl,hs,ol⟩:=(cold (fp:=f1) o1 λ a ha=>nz a (ja8 _ ha)).coldT;exact ⟨q,us,rfl,.inr (.inl (.inl hs)),λ l hl=>zww lf ol hl⟩
 ·cases ho
end
section
variable {X:Cx}{M:Fm}{a b:Expr}{f g:Fx}{fa:Fa}{vs vs':List Nat}{pos p:Pos}{σ:St}{H:Hp}{Q:VK}{e:Expr}{es:List Expr}
theorem qjr (hc:X.calm=true):zkl X (.builtin "all") (λ xs H Q=>∃ (p:Addr) (bs:List Bool),xs=[.ref p]/\SqL X.K H p (bs.map V.bl)/\Q (.bl (bs.all id)) H):=by
 intro pins s σ H xs us Q I r h;obtain ⟨p,bs,rfl,hq,q⟩:=h;obtain ⟨u,rfl,rx⟩:=zpu r;cases rx;obtain ⟨its,rv,pl,hz⟩:=I.list hq;have hl:=rv.length;rw [ja3] at hl;refine call_all_walk (wpAny_pyIter_list pl.isList ?_);have hlt:p < s.heap.objs.size:=by obtain ⟨o,n,e,_⟩:=pl;exact va6 e
 have hne:p≠s.heap.objs.size:=jd1 hlt;refine ⟨s.heap.objs.size,_,_,its.toArray.size,_,_,λ i=>bs.getD i true,rfl,Walks.list (A:=X.A.in1) (show X.A.in1.handled=none from I.ok.hd hc) s.heap.objs.size p hne its.toArray,⟨⟨_,va7 _ rfl,rfl,rfl⟩,?_⟩,?_,λ h' tk k=>?_⟩
 ·exact pl.isList.at λ o e=>va4 _ e
 ·intro i v s' Q' E' hv hq';have hv':its[i]?=some v:=by simpa using hv
  have hi:i < bs.length:=by rw [hl];exact (jb2.mp hv').1
  obtain ⟨w,e1,e2⟩:=rv.get (i:=i) (x:=.bl bs[i]) (by simp [hi]);rw [hv'] at e1;cases e1;cases e2;refine vc1 ?_
  have:bs.getD i true=bs[i]:=by simp [jr3,hi]
  dsimp only at hq';rw [this] at hq';exact hq'
 ·have I1:L2.Inv X pins σ H { s with heap:=s.heap.push { cls:=.type "list_iterator",data:=.fields #[.ref p,vj6 0] } }:=I.kept (t':=s.toks) λ b o e=>va4 _ e;obtain ⟨f0,f1,f2,f3,f4,f5⟩:=I.fpOk (H':=H) (ja4 s.heap.objs.size) (I.hok.fresh (ja4 _));have I2:L2.Inv X pins σ H { s with heap:=h',toks:=tk }:=I1.turned (t':=tk) (λ b o hb e=>k b o (by simpa using hb) e) f0 f1 f3 f4 f5;refine ⟨.bl _,H,I2,rfl,?_⟩;have e:(ja7 its.toArray.size).all (λ i=>bs.getD i true)=bs.all id:=by
   rw [jb9,<- hl];rw [jd9];simp only [jb5,jc6,id];constructor
   ·intro h x hx;obtain ⟨i,hi,rfl⟩:=jj1 hx
    have:=h i hi
    simpa [jr3,hi] using this
   ·intro h i hi;simp [jr3,hi];exact h _ (jk4 hi)
  rw [e];exact q
def allB:List PV->Option (List Bool)
 | []=>some []
 | .bl b::r=>(allB r).map (b::·)
 | _=>none
def zvh:List (PV×Nat)->Option (PV×Nat)
 | [(.lst xs,_)]=>(allB xs).map λ bs=>(.bl (bs.all id),om)
 | _=>none
theorem qc9 {K:Frag}{Z:Addr->Prop}:∀ {xs:List PV}{ws:List V}{bs:List Bool},allB xs=some bs->OwnL K H Z xs 0 ws []->ws=bs.map V.bl
 | [],ws,bs,e,h=>by cases e;rw [OwnL] at h;exact h.1
 | .bl b::r,ws,bs,e,h=>by
  obtain ⟨bs',e1,rfl⟩:=jc3.mp e;rw [OwnL] at h;obtain ⟨v,s,f1,f2,rfl,ef,dj,h1,h2⟩:=h;obtain ⟨rfl,rfl⟩:f1=[]/\f2=[]:=by simpa using ef.symm
  rw [Own] at h1;rw [h1.1,qc9 e1 h2];rfl
 | .non::_,_,_,e,_=>by cases e
 | .int _::_,_,_,e,_=>by cases e
 | .str _::_,_,_,e,_=>by cases e
 | .lst _::_,_,_,e,_=>by cases e
 | .tup _::_,_,_,e,_=>by cases e
 | .emp::_,_,_,e,_=>by cases e
 | .dko::_,_,_,e,_=>by cases e
 | .scr _::_,_,_,e,_=>by cases e
 | .dct _::_,_,_,e,_=>by cases e
 | .dcl _ _::_,_,_,e,_=>by cases e
 | .exn _::_,_,_,e,_=>by cases e
theorem qoq (hc:X.calm=true) (hg:Gl X "all") (hm:X.mg "all" = none) (ha:PA X (e::es) (tL M fa vs)) (he:va9 (e::es) X.env=(false,eval e X.env)::va9 es X.env) (hpl:(vg4 pos (va9 es X.env)).any (·.1)=false):
  PE X (.Call (.Name "all" p) (e::es) [] pos) (tE M (zqd zvh fa) vs):=by
 refine zqw (zyh (qjr hc) hg hm rfl ha (he:=he) (hpl:=hpl)) λ σ H Q h=>zzg (λ xs z c ws H fps fp Q ho tm nz zd lf=>?_) h;unfold zvh at ho;split at ho
 ·rename_i xs d;obtain ⟨bs,eb,e2⟩:=jc3.mp ho;cases e2;obtain ⟨v,r,f1,f2,rfl,rfl,_,o1,h2⟩:=tm;obtain ⟨rfl,rfl⟩:=h2;obtain ⟨q,us,rfl,hs,ol⟩:=(cold (fp:=f1) o1 λ a ha=>nz a (ja8 _ ha)).coldL
  have:=qc9 eb ol
  subst this;exact ⟨q,bs,rfl,.inl (.inl hs),zzx lf⟩
 ·cases ho
def zzj:List PV->Option (List Int)
 | []=>some []
 | .int i::r=>(zzj r).map (i::·)
 | _=>none
theorem zwx {K:Frag}{Z:Addr->Prop}:∀ {xs:List PV}{ws:List V}{ns:List Int},zzj xs=some ns->OwnL K H Z xs 0 ws []->ws=ns.map V.int
 | [],ws,ns,e,h=>by cases e;rw [OwnL] at h;exact h.1
 | .int b::r,ws,ns,e,h=>by
  obtain ⟨ns',e1,rfl⟩:=jc3.mp e;rw [OwnL] at h;obtain ⟨v,s,f1,f2,rfl,ef,dj,h1,h2⟩:=h;obtain ⟨rfl,rfl⟩:f1=[]/\f2=[]:=by simpa using ef.symm
  rw [Own] at h1;rw [h1.1,zwx e1 h2];rfl
 | .non::_,_,_,e,_=>by cases e
 | .bl _::_,_,_,e,_=>by cases e
 | .str _::_,_,_,e,_=>by cases e
 | .lst _::_,_,_,e,_=>by cases e
 | .tup _::_,_,_,e,_=>by cases e
 | .emp::_,_,_,e,_=>by cases e
 | .dko::_,_,_,e,_=>by cases e
 | .scr _::_,_,_,e,_=>by cases e
 | .dct _::_,_,_,e,_=>by cases e
 | .dcl _ _::_,_,_,e,_=>by cases e
 | .exn _::_,_,_,e,_=>by cases e
theorem zkg:∀ {ns:List Int}{its:List va2},Vals (ns.map V.int) its->∃ xs:List (Int×Tok),its=xs.map (λ p=>Value.int p.1 p.2)/\xs.map (·.1)=ns
 | [],its,h=>by cases h;exact ⟨[],rfl,rfl⟩
 | n::ns,its,h=>by
  cases h with
  | cons r rr=>
   obtain ⟨t,rfl⟩:=r;obtain ⟨xs,rfl,rfl⟩:=zkg rr;exact ⟨(n,t)::xs,rfl,rfl⟩
def zyb (ns:List Int):Bool:=decide (ns.length<=2 ^ 20) && ns.all λ i=>decide (-(2 ^ 40)<=i) && decide (i<=2 ^ 40)
theorem qej {ns:List Int} (h:∀ i∈ns,-(2 ^ 40)<=i/\i<=2 ^ 40):∀ j:Nat,-(2 ^ 40) * (j:Int)<=(ns.take j).sum/\(ns.take j).sum<=2 ^ 40 * (j:Int):=by
 induction ns with
 | nil=>intro j;rw [jo5,jr4];omega
 | cons n ns ih=>
  intro j;cases j with
  | zero=>rw [jl8,jr4];omega
  | succ j=>
   have:=ih (λ i hi=>h i (ja1 _ hi)) j
   have hn:=h n ja2;rw [jk7,jm3];omega
theorem qhh (hc:X.calm=true):zkl X (.builtin "sum") (λ xs H Q=>∃ (p:Addr) (ns:List Int),xs=[.ref p]/\SqL X.K H p (ns.map V.int)/\zyb ns=true/\Q (.int ns.sum) H):=by
 intro pins s σ H xs us Q I r h;obtain ⟨p,ns,rfl,hq,hn,q⟩:=h;obtain ⟨u,rfl,rx⟩:=zpu r;cases rx;obtain ⟨its,rv,pl,hz⟩:=I.list hq;obtain ⟨zs,rfl,rfl⟩:=zkg rv;have e:(zs.map λ p=>Value.int p.1 p.2).toArray=vd9 zs.toArray:=by simp [vd9]
 rw [e] at pl;unfold zyb at hn;rw [ja9] at hn;have hl:(zs.map (·.1)).length<=2 ^ 20:=by simpa using hn.1
 have hb:∀ i∈zs.map (·.1),-(2 ^ 40)<=i/\i<=2 ^ 40:=λ i hi=>by
  have:=jb5.mp hn.2 i hi
  rw [ja9] at this;exact ⟨of_decide_eq_true this.1,of_decide_eq_true this.2⟩
 have sz:zs.toArray.size=zs.length:=by simp
 rw [ja3] at hl;have pre:∀ j,preSum (vk5 zs.toArray) j=((zs.map (·.1)).take j).sum:=λ j=>by
  rw [preSum_eq]
 refine sum_intList (I.ok.hd hc) pl.isList (λ j hj=>⟨?_,?_⟩) λ h' tk t' k=>⟨.int _,H,I.kept (t':=tk) k,⟨t',rfl⟩,?_⟩
 ·have e1:vk5 zs.toArray j=zs[j].1:=by unfold vk5;simp [show j < zs.length by omega]
  have:=hb (zs[j]'(by omega)).1 (jd2.mpr ⟨_,jk4 _,rfl⟩)
  rw [e1];unfold InLong;omega
 ·have:=qej hb (j + 1)
  rw [pre];unfold InLong;omega
 ·rw [pre,sz]
  have:((zs.map (·.1)).take zs.length)=zs.map (·.1):=by
   rw [jj7];simp
  rw [this];exact q
def zhi (xs:List (PV×Nat)):Option (PV×Nat):=op2 (λ i j=>if j < i then j else i) xs
def zvg:List (PV×Nat)->Option (PV×Nat)
 | [(.lst xs,_)]=>match zzj xs with
  | some ns=>if zyb ns=true then some (.int ns.sum,om) else none
  | none=>none
 | [(.tup xs,_)]=>match zzj xs with
  | some ns=>some (.int ns.sum,om)
  | none=>none
 | _=>none
theorem qhg (hc:X.calm=true):zkl X (.builtin "sum") (λ xs H Q=>∃ (p:Addr) (ns:List Int),xs=[.ref p]/\SqT X.K H p (ns.map V.int)/\Q (.int ns.sum) H):=by
 intro pins s σ H xs us Q I r h;obtain ⟨p,ns,rfl,hq,q⟩:=h;obtain ⟨u,rfl,rx⟩:=zpu r;cases rx;obtain ⟨its,rv,pl,hz⟩:=I.tuple hq;obtain ⟨zs,rfl,rfl⟩:=zkg rv;have e:(zs.map λ p=>Value.int p.1 p.2).toArray=vd9 zs.toArray:=by simp [vd9]
 rw [e] at pl;refine PySem.W.ktm_sumG (I.ok.hd hc) (show s.heap.IsTuple p (vd9 zs.toArray) from pl) λ h' tk t' k=>⟨.int _,H,I.kept (t':=tk) k,⟨t',rfl⟩,?_⟩
 rw [preSum_eq,jj7 (by simp)];exact q
theorem qlg (hc:X.calm=true) (hg:Gl X "min") (hm:X.mg "min" = none) (ha:PA X (e::es) (tL M fa vs)) (he:va9 (e::es) X.env=(false,eval e X.env)::va9 es X.env) (hpl:(vg4 pos (va9 es X.env)).any (·.1)=false):
  PE X (.Call (.Name "min" p) (e::es) [] pos) (tE M (zqd zhi fa) vs):=by
 exact zqw (zyh (qhi hc) hg hm rfl ha (he:=he) (hpl:=hpl)) λ σ H Q h=>zzg (λ xs z c ws H fps fp Q ho tm nz zd lf=>qiw ho tm lf) h
theorem qlf (hc:X.calm=true) (hg:Gl X "sum") (hm:X.mg "sum" = none) (ha:PA X (e::es) (tL M fa vs)) (he:va9 (e::es) X.env=(false,eval e X.env)::va9 es X.env) (hpl:(vg4 pos (va9 es X.env)).any (·.1)=false):
  PE X (.Call (.Name "sum" p) (e::es) [] pos) (tE M (zqd zvg fa) vs):=by
 refine zqw (zyh ((qhh hc).or (qhg hc)) hg hm rfl ha (he:=he) (hpl:=hpl)) λ σ H Q h=>zzg (λ xs z c ws H fps fp Q ho tm nz zd lf=>?_) h;unfold zvg at ho;split at ho
 ·rename_i xs d;split at ho
  ·rename_i ns eb;split at ho
   ·rename_i hk;cases ho;obtain ⟨v,r',f1,f2,rfl,rfl,_,o1,h2⟩:=tm;obtain ⟨rfl,rfl⟩:=h2;obtain ⟨q,us,rfl,hs,ol⟩:=(cold (fp:=f1) o1 λ a ha=>nz a (ja8 _ ha)).coldL
    have:=zwx eb ol
    subst this;exact .inl ⟨q,ns,rfl,.inl (.inl hs),hk,zwb lf⟩
   ·cases ho
  ·cases ho
 ·rename_i xs d;split at ho
  ·rename_i ns eb;cases ho;obtain ⟨v,r',f1,f2,rfl,rfl,_,o1,h2⟩:=tm;obtain ⟨rfl,rfl⟩:=h2;obtain ⟨q,us,rfl,hs,ol⟩:=(cold (fp:=f1) o1 λ a ha=>nz a (ja8 _ ha)).coldT
   have:=zwx eb ol
   subst this;exact .inr ⟨q,ns,rfl,.inl (.inl hs),zwb lf⟩
  ·cases ho
 ·cases ho
abbrev Fn:=List PV->Rz (PV×Nat×PV)
def spF (K:Frag) (io:Bool) (n:Nat) (F:Fn):Sp:=λ ws H Q E=>ws.length=n/\∃ (xs:List PV) (Zo:Addr->Prop) (x0:PV) (v0:V) (fp0:List Addr),
 (∀ a,Zo a->H a≠none)/\(∀ a∈fp0,¬ Zo a)/\(io=false->fp0=[]/\OwnL K H Zo xs 0 ws []) /\
 (io=true->∃ xr wr,xs=x0::xr/\ws=v0::wr/\Own K H (λ _=>True) x0 om v0 fp0/\OwnL K H (λ a=>Zo a\/a∈fp0) xr 0 wr []) /\
 (match F xs with
  | .ok (y,d,z0)=>∀ v H' fp fp0',Keep (λ a=>a∈fp0) H H'->(∀ a,H a≠none->H' a≠none)->(∀ a∈fp0',a∈fp0\/H a=none)->(∀ a∈fp0',¬ Zo a)->(io=false->fp0'=[])->(io=true->Own K H' (λ _=>True) z0 om v0 fp0') ->
    Own K H' (λ a=>(Zo a\/a∈fp0')\/a∈fp) y d v fp->(∀ a∈fp,H a=none/\¬ (Zo a\/a∈fp0'))->Q v H'
  | .exc c=>∀ H',Keep (λ a=>a∈fp0) H H'->(∀ a,H a≠none->H' a≠none)->E (.int (c:Int) 0) none H'
  | .no=>False)
def zqg (F:Fn) (fa:Fa):Fx:=λ ρ=>(fa ρ).bind λ (xs,ρ1)=>match F (xs.map (·.1)) with
 | .ok (y,d,_)=>.ok (y,d,ρ1)
 | .exc c=>.exc c
 | .no=>.no
theorem qk9 {F:Fn}{n:Nat} (hF:∀ xs,xs.length≠n->F xs=.no) {σ:St}{H:Hp}{Q:VK} (hq:tE M (zqg F fa) vs σ H Q):qj1 (spF M.K false n F) M.W (tL M fa vs) σ H Q:=by
 obtain ⟨ρ,fps,rep,q⟩:=hq;refine ⟨ρ,fps,rep,?_⟩;unfold zqg at q;cases ef:fa ρ with
 | no=>rw [ef] at q;exact q
 | exc c=>rw [ef] at q;exact q
 | ok p=>
  obtain ⟨xs,ρ1⟩:=p;rw [ef] at q;intro ws H1 fps1 f1 k1 g1 rep1 o1 t1;dsimp only [Rz.bind] at q;have back:∀ a,H1 a=none->H a=none:=λ a e=>by
   cases e':H a with
   | none=>rfl
   | some o=>exact absurd e (k1.dom a (by rw [e'];simp))
  show spF M.K false n F ws H1 Q (XEof (M.W σ));have hlen:xs.length=n:=by
   by_cases e:xs.length=n
   ·exact e
   ·rw [hF (xs.map (·.1)) (by rw [ja3];exact e)] at q;exact q.elim
  refine ⟨by rw [o1.length,hlen],xs.map (·.1),Zv M vs fps1,.non,.non,[],λ a z=>rep1.zdom z.zf,λ _ z=>(nomatch z),λ _=>⟨rfl,o1.cold λ a ha z=>t1.ndj a ha z.zf⟩,(λ h=>nomatch h),?_⟩;cases eF:F (xs.map (·.1)) with
  | no=>rw [eF] at q;exact q
  | exc c=>
   rw [eF] at q;exact λ H' kp _=>q H' fps1 (k1.trans (KD.grow λ a o h=>kp a o h λ z=>nomatch z))
  | ok r=>
   obtain ⟨y,d,z0⟩:=r;rw [eF] at q;intro v H' fp fp0' kp dm _ _ h0 _ oy hf;have e0:=h0 rfl;subst e0;have kk:∀ a o,H1 a=some o->H' a=some o:=λ a o h=>kp a o h λ z=>nomatch z
   refine q v H' fps1 fp (k1.trans (KD.grow kk)) g1 (rep1.grow kk) (oy.weak λ a h=>h.elim (λ h=>.inl (.inl h)) .inr) ⟨λ a ha=>back a (hf a ha).1,λ a ha=>rep1.nz (hf a ha).1⟩
end
section
variable {prog:vb0}{w:vb7}{A:vc3}{E:va2->va3->Prop}{s:va3}
structure ZApart (zz ti to p1 p2 q1 q2:Addr):Prop where
 ne1:ti≠zz
 ne2:to≠zz
 ne3:p1≠zz
 ne4:p2≠zz
 ne5:ti≠to
 ne6:ti≠p1
 ne7:ti≠p2
 ne8:to≠p1
 ne9:to≠p2
 nea:p1≠p2
 neb:q1≠zz
 nec:q1≠to
 ned:q1≠p1
 nee:q1≠p2
 nef:q2≠zz
 neg:q2≠to
 neh:q2≠p1
 nei:q2≠p2
section
variable {zz ti to p1 p2 q1 q2:Addr}{n1 n2:Nat}{us vs:Array va2}{u v a b:va2}
end
end
section
variable {X:Cx}{pins:List (Addr×Obj)}{σ:St}{H:Hp}{s:va3}{h':Heap}
theorem zmo {fp:List Addr}{a:Addr}{o:HO}{t':Nat} (I:Inv X pins σ H s) (k:∀ b u,b∉fp->s.heap.get? b=some u->h'.get? b=some u) (hf:∀ b∈fp,FpOk X pins H b) (ha:s.heap.objs.size<=a) (new:zxp X.prog X.w (upd H a o) h' a o):
  Inv X pins σ (upd H a o) { s with heap:=h',toks:=t' }:=by
 have hn:H a=none:=I.hok.fresh ha;have nfp:∀ b u,H b=some u->b∉fp:=λ b u e z=>by rw [(hf b z).1] at e;cases e
 have up:∀ b u,H b=some u->upd H a o b=some u:=λ b u e=>by rw [zqf (λ z=>by rw [z,hn] at e;cases e)];exact e
 refine I.step (g':=s.gens) (d':=s.drawn) (ch:=fp) (λ b hb=>?_) (λ b u _ _ hc e _=>k b u hc e) (λ b u _ _ hc e _=>⟨u.slots,k b u hc e⟩) (λ b u _ e n=>?_) (λ b u hc e=>⟨u,k b u hc e⟩) (λ b xs e=>up b _ e) (λ b _ _ e=>up b _ e) (λ b ps e=>⟨#[],by rw [up b _ e];simp⟩) (λ m hm=>?_) (λ b u e=>?_) I.bare
 ·obtain ⟨_,f1,_,f3,f4,f5⟩:=hf b hb;exact ⟨f3,f1,f4,f5⟩
 ·rw [zqf (λ z=>by rw [z] at e;exact absurd (va6 e) (Nat.not_lt.mpr ha))];exact n
 ·obtain ⟨u,es,ep,ho,r⟩:=hm;exact ⟨u,es,ep,k _ u (λ z=>(hf _ z).2.1 rfl) ho,r⟩
 ·by_cases eb:b=a
  ·subst eb;rw [zqe] at e;cases e;exact new
  ·rw [zqf eb] at e;refine (I.hok b u e).stay (λ c v hc q=>k c v ?_ q) (λ c q=>up c _ q) λ c xs q=>up c _ q;rcases hc with z | z
   ·rw [z];exact nfp b u e
   ·exact nfp c _ z
theorem zpa {fp:List Addr}{t':Nat} (I:Inv X pins σ H s) (k:∀ b u,b∉fp->s.heap.get? b=some u->h'.get? b=some u) (hf:∀ b∈fp,FpOk X pins H b):Inv X pins σ H { s with heap:=h',toks:=t' }:=by
 have nfp:∀ b u,H b=some u->b∉fp:=λ b u e z=>by rw [(hf b z).1] at e;cases e
 refine I.step (g':=s.gens) (d':=s.drawn) (ch:=fp) (λ b hb=>?_) (λ b u _ _ hc e _=>k b u hc e) (λ b u _ _ hc e _=>⟨u.slots,k b u hc e⟩) (λ _ _ _ _ n=>n) (λ b u hc e=>⟨u,k b u hc e⟩) (λ _ _ e=>e) (λ _ _ _ e=>e) (λ b ps e=>⟨#[],by rw [e];simp⟩) (λ m hm=>?_) (λ b u e=>?_) I.bare
 ·obtain ⟨_,f1,_,f3,f4,f5⟩:=hf b hb;exact ⟨f3,f1,f4,f5⟩
 ·obtain ⟨u,es,ep,ho,r⟩:=hm;exact ⟨u,es,ep,k _ u (λ z=>(hf _ z).2.1 rfl) ho,r⟩
 ·refine (I.hok b u e).stay (λ c v hc q=>k c v ?_ q) (λ _ q=>q) λ _ _ q=>q;rcases hc with z | z
  ·rw [z];exact nfp b u e
  ·exact nfp c _ z
end
def ItRv (K:Frag) (a:Addr) (n:Nat):It:=
 ⟨λ i H=>i < n/\∃ xs x,SqL K H a xs/\xs[n - 1 - i]?=some x,λ i H x H'=>H'=H/\∀ xs,SqL K H a xs->xs[n - 1 - i]?=some x,λ i _=>n<=i⟩
def ItEn (K:Frag) (a:Addr):It:=
 ⟨λ i H=>∃ xs x,SqL K H a xs/\xs[i]?=some x,λ i H v H'=>∃ T x,H T=none/\v=.ref T/\H'=upd H T (.tup [.int (i:Int),x])/\∀ xs,SqL K H a xs->xs[i]?=some x,λ i H=>∃ xs,SqL K H a xs/\xs.length<=i⟩
theorem qd5 {P:vb0}{w:vb7}{K:Frag}{es:List Expr}{k:Nat}{pos:Pos} (a e it:Addr) (hne:e≠it):Turn P w K (.Tuple es k pos) (ItEn K a) [e,it] e (λ i h=>(∃ old,IsEnum h e it (i:Int) old)/\h.IsListIter it a i) where
 mem:=by simp
 obj:=λ i h st b hb=>by
  obtain ⟨⟨old,he⟩,o,ho,c,d⟩:=st;rcases jc0.mp hb with z | z
  ·rw [z];exact ⟨_,he,λ v z=>by cases z⟩
  ·rw [jb4.mp z];exact ⟨o,ho,λ v z=>by rw [d] at z;cases z⟩
 keep:=λ i h h' st k=>by
  obtain ⟨⟨old,he⟩,hi⟩:=st;exact ⟨⟨old,k e (by simp) _ he⟩,hi.at λ o x=>k it (by simp) o x⟩
 item:=by
  intro X hP hw hK hc i pins s σ H E I hf st hg;subst hP hw hK;obtain ⟨xs,x,hq,hx⟩:=hg;obtain ⟨its,rv,p,hz⟩:=I.list hq;obtain ⟨u,hu,ru⟩:=rv.get hx;obtain ⟨⟨old,he⟩,hit⟩:=st;refine wpAny_pyNext_enum_item he hit p.isList (x:=u) (by simpa using hu) hne λ h' ho hit' hT hsz hk=>⟨_,rfl,?_⟩
  refine wpAny_letOwnedTupleGo_enum ho λ h2 he2 hs2=>?_;have hs0:s.heap.objs.size≠e:=jg5 (va6 he);have hn:H s.heap.objs.size=none:=I.hok.fresh (ja4 _);have hT2:h2.get? s.heap.objs.size=some { cls:=.type "tuple",data:=.seq #[.int (i:Int) s.toks,u] }:=(hs2.2 _ hs0).trans hT;have I1:Inv X pins σ (upd H s.heap.objs.size (.tup [.int (i:Int),x])) { s with heap:=h2,toks:=s.toks + 1 }:=by
   refine zmo (fp:=[e,it]) I (λ b u hb q=>(hs2.2 b (λ z=>hb (by simp [z]))).trans (hk b u (λ z=>hb (by simp [z])) (λ z=>hb (by simp [z])) q)) hf (ja4 _) ?_;exact ⟨jc9 (by decide:2<=1000) (by decide),_,.cons ⟨_,rfl⟩ (.cons ru .nil),⟨_,hT2,rfl,_,rfl⟩⟩
  refine ⟨.ref s.heap.objs.size,_,I1,rfl,⟨_,x,hn,rfl,rfl,λ ys hy=>by rw [I.list_inj hy hq];exact hx⟩,⟨⟨u,?_⟩,hit'.at λ o q=>(hs2.2 it (vb9 hne)).trans q⟩,λ b hb=>?_⟩
  ·rw [show ((i + 1:Nat):Int)=(i:Int) + 1 by omega];exact he2
  ·have hb':=(hf b hb).1;rw [zqf (λ z=>?_)]
   ·exact hb'
   ·rcases jc0.mp hb with y | y
    ·rw [y] at z;exact hs0 z.symm
    ·rw [jb4.mp y] at z;obtain ⟨o,q,_⟩:=hit;exact absurd (va6 q) (by rw [z];exact jd8 _)
 done:=by
  intro X hP hw hK hc i pins s σ H E I hf st hg;subst hP hw hK;obtain ⟨xs,hq,hx⟩:=hg;obtain ⟨its,rv,p,hz⟩:=I.list hq;obtain ⟨⟨old,he⟩,hit⟩:=st;have hl:=rv.length;exact wpAny_pyNext_enum_end (I.ok.hd hc) he hit p.isList (jg7 (by simp;omega)) λ h' eb=>⟨rfl,zpa (t':=s.toks) I (λ b o hb q=>eb b o (λ z=>hb (by simp [z])) q) hf⟩
 self:=λ _ _ _ _ _ st h=>by
  obtain ⟨⟨old,he⟩,_⟩:=st;exact wpAny_pyIter_enum he h
def ItZp (K:Frag) (a b:Addr):It:=
 ⟨λ i H=>∃ xs ys x y,SqL K H a xs/\SqL K H b ys/\xs[i]?=some x/\ys[i]?=some y,λ i H v H'=>∃ T x y,H T=none/\v=.ref T/\H'=upd H T (.tup [x,y])/\∀ xs ys,SqL K H a xs->SqL K H b ys->xs[i]?=some x/\ys[i]?=some y,λ i H=>∃ xs ys,SqL K H a xs/\SqL K H b ys/\(xs.length<=i\/ys.length<=i)⟩
theorem zgg {h:Heap}{z TI TO i1 i2 l1 l2:Addr}{f0:va2}{a b c d:va2}{k1 k2:Nat}{xs ys:Array va2} (hTT:TI≠TO) (h12:i1≠i2) (hz:IsZip h z TI TO f0) (hTI:IsPair h TI a b) (hTO:IsPair h TO c d) (h1:h.IsListIter i1 l1 k1) (h2:h.IsListIter i2 l2 k2) (hl1:h.IsList l1 xs) (hl2:h.IsList l2 ys):ZipApart z TI TO i1 i2 l1 l2:=by
 obtain ⟨o1,e1,c1,_⟩:=h1;obtain ⟨o2,e2,c2,_⟩:=h2;obtain ⟨p1,q1,r1,_⟩:=hl1;obtain ⟨p2,q2,r2,_⟩:=hl2;have ne:∀ {x y:Addr}{o o':Obj}{n m:String},h.get? x=some o->h.get? y=some o'->o.cls=.type n->o'.cls=.type m->n≠m->x≠y:=λ {x y o o' n m} ex ey cx cy nm z=>by
  subst z;rw [ex] at ey;cases ey;rw [cx] at cy;injection cy with cy
  exact nm cy
 exact ⟨ne hTI hz rfl rfl (by decide),ne hTO hz rfl rfl (by decide),ne e1 hz c1 rfl (by decide),ne e2 hz c2 rfl (by decide),hTT,ne hTI e1 rfl c1 (by decide),ne hTI e2 rfl c2 (by decide),ne hTO e1 rfl c1 (by decide),ne hTO e2 rfl c2 (by decide),h12,
  ne q1 hz r1 rfl (by decide),ne q1 hTO r1 rfl (by decide),ne q1 e1 r1 c1 (by decide),ne q1 e2 r1 c2 (by decide),ne q2 hz r2 rfl (by decide),ne q2 hTO r2 rfl (by decide),ne q2 e1 r2 c1 (by decide),ne q2 e2 r2 c2 (by decide)⟩
theorem qhq {P:vb0}{w:vb7}{K:Frag}{es:List Expr}{k:Nat}{pos:Pos} (l1 l2 z TI TO i1 i2:Addr) (hTT:TI≠TO) (h12:i1≠i2):
  Turn P w K (.Tuple es k pos) (ItZp K l1 l2) [z,TI,TO,i1,i2] z (λ i h=>IsZip h z TI TO .none/\IsPair h TI (.ref i1) (.ref i2)/\(∃ p q,IsPair h TO p q)/\h.IsListIter i1 l1 i/\h.IsListIter i2 l2 i) where
 mem:=by simp
 obj:=λ i h st b hb=>by
  obtain ⟨hz,hTI,⟨p,q,hTO⟩,⟨o1,e1,_,d1⟩,⟨o2,e2,_,d2⟩⟩:=st;simp only [jc0,jf8,or_false] at hb;rcases hb with rfl | rfl | rfl | rfl | rfl
  ·exact ⟨_,hz,λ v z=>by cases z⟩
  ·exact ⟨_,hTI,λ v z=>by cases z⟩
  ·exact ⟨_,hTO,λ v z=>by cases z⟩
  ·exact ⟨o1,e1,λ v z=>by rw [d1] at z;cases z⟩
  ·exact ⟨o2,e2,λ v z=>by rw [d2] at z;cases z⟩
 keep:=λ i h h' st k=>by
  obtain ⟨hz,hTI,⟨p,q,hTO⟩,h1,h2⟩:=st;exact ⟨k z (by simp) _ hz,k TI (by simp) _ hTI,⟨p,q,k TO (by simp) _ hTO⟩,h1.at λ o x=>k i1 (by simp) o x,h2.at λ o x=>k i2 (by simp) o x⟩
 item:=by
  intro X hP hw hK hc i pins s σ H E I hf st hg;subst hP hw hK;obtain ⟨xs,ys,x,y,hq1,hq2,hx,hy⟩:=hg;obtain ⟨its1,rv1,p1,hz1⟩:=I.list hq1;obtain ⟨its2,rv2,p2,hz2⟩:=I.list hq2;obtain ⟨u1,hu1,ru1⟩:=rv1.get hx;obtain ⟨u2,hu2,ru2⟩:=rv2.get hy;obtain ⟨hz,hTI,⟨p,q,hTO⟩,h1,h2⟩:=st;have D:=zgg hTT h12 hz hTI hTO h1 h2 p1.isList p2.isList;refine wpAny_pyNext_zip_item D hz hTI hTO h1 h2 p1.isList p2.isList (x:=u1) (y:=u2) (by simpa using hu1) (by simpa using hu2) λ h' a1 a2 a3 a4 a5 a6 hk=>⟨_,rfl,?_⟩
  refine wpAny_letOwnedTupleGo_zip a1 λ h2' hz' hs'=>?_;have hn:H s.heap.objs.size=none:=I.hok.fresh (ja4 _);have hs0:s.heap.objs.size≠z:=jg5 (va6 hz);have I1:Inv X pins σ (upd H s.heap.objs.size (.tup [x,y])) { s with heap:=h2',toks:=s.toks }:=by
   refine zmo (fp:=[z,TI,TO,i1,i2]) I (λ b u hb e=>(hs'.2 b (λ z=>hb (by simp [z]))).trans (hk b u (λ z=>hb (by simp [z])) (λ z=>hb (by simp [z])) (λ z=>hb (by simp [z])) (λ z=>hb (by simp [z])) e)) hf (ja4 _) ?_;exact ⟨jc9 (by decide:2<=1000) (by decide),_,.cons ru1 (.cons ru2 .nil),⟨_,(hs'.2 _ hs0).trans a5,rfl,_,rfl⟩⟩
  refine ⟨.ref s.heap.objs.size,_,I1,rfl,⟨_,x,y,hn,rfl,rfl,λ xs' ys' e1 e2=>⟨by rw [I.list_inj e1 hq1];exact hx,by rw [I.list_inj e2 hq2];exact hy⟩⟩,⟨hz',(hs'.2 _ D.TIz).trans (hk _ _ D.TIz D.TITO D.TIi1 D.TIi2 hTI),⟨_,_,(hs'.2 _ D.TOz).trans a2⟩,a3.at λ o e=>(hs'.2 _ D.i1z).trans e,a4.at λ o e=>(hs'.2 _ D.i2z).trans e⟩,λ b hb=>?_⟩;have hb':=(hf b hb).1;have lt:b < s.heap.objs.size:=by
   simp only [jc0,jf8,or_false] at hb;rcases hb with rfl | rfl | rfl | rfl | rfl
   ·exact va6 hz
   ·exact va6 hTI
   ·exact va6 hTO
   ·obtain ⟨_,e,_⟩:=h1;exact va6 e
   ·obtain ⟨_,e,_⟩:=h2;exact va6 e
  rw [zqf (jd1 lt)];exact hb'
 done:=by
  intro X hP hw hK hc i pins s σ H E I hf st hg;subst hP hw hK;obtain ⟨xs,ys,hq1,hq2,hend⟩:=hg;obtain ⟨its1,rv1,p1,hz1⟩:=I.list hq1;obtain ⟨its2,rv2,p2,hz2⟩:=I.list hq2;obtain ⟨hz,hTI,⟨p,q,hTO⟩,h1,h2⟩:=st;have D:=zgg hTT h12 hz hTI hTO h1 h2 p1.isList p2.isList;have r1:=rv1.length;have r2:=rv2.length;refine wpAny_pyNext_zip_end (I.ok.hd hc) D hz hTI hTO h1 h2 p1.isList p2.isList ?_ λ h' hk=>⟨rfl,zpa (t':=s.toks) I (λ b o hb e=>hk b o (λ z=>hb (by simp [z])) (λ z=>hb (by simp [z])) (λ z=>hb (by simp [z])) (λ z=>hb (by simp [z])) e) hf⟩
  rcases hend with h | h
  ·exact .inl (jg7 (by simp;omega))
  ·exact .inr (jg7 (by simp;omega))
 self:=λ _ _ _ _ _ st h=>wpAny_pyIter_zip st.1 h
section
variable {X:Cx}{tg:Expr}
def iEnm (K:Frag) (ta:TA):TI:=λ σ H R=>ta σ H λ vs H1=>∃ a xs,vs=[.ref a]/\SqL K H1 a xs/\R (ItEn K a) H1
def iZip (K:Frag) (ta:TA):TI:=λ σ H R=>ta σ H λ vs H1=>∃ a b xs ys,vs=[.ref a,.ref b]/\(SqL K H1 a xs/\SqL K H1 b ys/\R (ItZp K a b) H1)
theorem ql0 {a:Expr}{ta:TA}{es:List Expr}{k:Nat}{tp p pos:Pos} (hg:Gl X "enumerate") (hm:X.mg "enumerate" = none) (ha:PA X [a] ta) (hs:va9 [a] X.env=[(false,eval a X.env)]):PI X (.Tuple es k tp) (.Call (.Name "enumerate" p) [a] [] pos) (iEnm X.K ta):=by
 intro pins s σ H R I h;refine Call_ (zvr I hg hm boot_enumerate (vb5 (thn (ha pos pins s σ H _ I h) λ us s1 ⟨vs,H1,I1,r1,q1⟩=>?_) hs rfl));obtain ⟨b,xs,e,hq,q⟩:=q1;subst e;cases r1 with
 | cons r rr=>
  cases rr;cases r;obtain ⟨its,rv,pl,hz⟩:=I1.list hq;refine call_enumerate_list pl.isList λ h' he hit hsz hk=>?_;refine wpAny_pyIter_enum (s:={ s1 with heap:=h' }) he ?_;refine ⟨s1.heap.objs.size + 1,[s1.heap.objs.size + 1,s1.heap.objs.size],_,_,H1,rfl,I1.kept (t':=s1.toks) hk,qd5 b _ _ (Nat.succ_ne_self _),⟨⟨_,he⟩,hit⟩,λ c hc=>?_,q⟩;rcases jc0.mp hc with e | e
  ·rw [e];exact I1.fpOk (jq3 _) (I1.hok.fresh (jq3 _))
  ·rw [jb4.mp e];exact I1.fpOk (ja4 _) (I1.hok.fresh (ja4 _))
theorem qpc {a b:Expr}{ta:TA}{es:List Expr}{k:Nat}{tp p pos:Pos} (hg:Gl X "zip") (hm:X.mg "zip" = none) (ha:PA X [a,b] ta) (hs:va9 [a,b] X.env=[(false,eval a X.env),(false,eval b X.env)]) (hs2:va9 [b] X.env=[(false,eval b X.env)]):
  PI X (.Tuple es k tp) (.Call (.Name "zip" p) [a,b] [] pos) (iZip X.K ta):=by
 intro pins s σ H R I h;refine Call_ (zvr I hg hm boot_zip (vb5 (thn (ha pos pins s σ H _ I h) λ us s1 ⟨vs,H1,I1,r1,q1⟩=>?_) (by rw [hs,hs2]) (by rw [hs2];rfl)));obtain ⟨c,d,xs,ys,e,hq1,hq2,q⟩:=q1
 ·subst e;cases r1 with
  | cons r rr=>
   cases rr with
   | cons r' rr=>
    cases rr;cases r;cases r';obtain ⟨its1,rv1,p1,hz1⟩:=I1.list hq1;obtain ⟨its2,rv2,p2,hz2⟩:=I1.list hq2;refine call_zip_2 p1.isList p2.isList λ h' hz hTI hTO h1 h2 hsz hk=>?_;refine wpAny_pyIter_zip (s:={ s1 with heap:=h' }) hz ?_;refine ⟨s1.heap.objs.size + 4,[s1.heap.objs.size + 4,s1.heap.objs.size + 2,s1.heap.objs.size + 3,s1.heap.objs.size,s1.heap.objs.size + 1],_,_,H1,rfl,I1.kept (t':=s1.toks) hk,qhq c d _ _ _ _ _ (jd1 (ji8 _)) (jd1 (ji8 _)),⟨hz,hTI,⟨_,_,hTO⟩,h1,h2⟩,λ x hx=>?_,q⟩
    have:s1.heap.objs.size<=x:=by
     simp only [jc0,jf8,or_false] at hx;rcases hx with rfl | rfl | rfl | rfl | rfl
     ·exact jk5 _ _
     ·exact jk5 _ _
     ·exact jk5 _ _
     ·exact ja4 _
     ·exact jk5 _ _
    exact I1.fpOk this (I1.hok.fresh this)
end
inductive Vw where
 | rev | enm | zp
def zfr:Nat->List PV->List PV
 | _,[]=>[]
 | i,x::xs=>.tup [.int (i:Int),x]::zfr (i + 1) xs
def zipL:List PV->List PV->List PV
 | x::xs,y::ys=>.tup [x,y]::zipL xs ys
 | _,_=>[]
def zjz:Vw->List PV->Option (List PV)
 | .rev,[.lst xs]=>some xs.reverse
 | .enm,[.lst xs]=>some (zfr 0 xs)
 | .zp,[.lst xs,.lst ys]=>some (zipL xs ys)
 | _,_=>none
def qnn (v:Vw) (K:Frag) (ws:List V) (H:Hp) (R:It->Hp->Prop):Prop:=match v with
 | .rev=>∃ a xs,ws=[.ref a]/\SqL K H a xs/\R (ItRv K a xs.length) H
 | .enm=>∃ a xs,ws=[.ref a]/\SqL K H a xs/\R (ItEn K a) H
 | .zp=>∃ a b xs ys,ws=[.ref a,.ref b]/\(SqL K H a xs/\SqL K H b ys/\R (ItZp K a b) H)
def iVw (v:Vw) (K:Frag) (ta:TA):TI:=λ σ H R=>ta σ H λ ws H1=>qnn v K ws H1 R
theorem zpf:∀ (xs:List PV) (k:Nat),(zfr k xs).length=xs.length
 | [],_=>rfl
 | x::xs,k=>by rw [zfr,jb1,zpf xs,jb1]
theorem zpg:∀ (xs:List PV) (k i:Nat),(zfr k xs)[i]?=(xs[i]?).map λ x=>PV.tup [.int ((k + i:Nat):Int),x]
 | [],_,_=>by simp [zfr]
 | x::xs,k,0=>by simp [zfr]
 | x::xs,k,i + 1=>by
  rw [zfr,je6,zpg xs (k + 1) i,je6,show k + 1 + i=k + (i + 1) by omega]
theorem qbr:∀ (xs ys:List PV),(zipL xs ys).length=min xs.length ys.length
 | [],ys=>by simp [zipL]
 | x::xs,[]=>by simp [zipL]
 | x::xs,y::ys=>by rw [zipL,jb1,qbr xs ys,jb1,jb1];omega
theorem qbs:∀ (xs ys:List PV) (i:Nat) (x y:PV),xs[i]?=some x->ys[i]?=some y->(zipL xs ys)[i]?=some (.tup [x,y])
 | [],ys,i,x,y,h,_=>by simp at h
 | a::xs,[],i,x,y,_,h=>by simp at h
 | a::xs,b::ys,0,x,y,h,h'=>by simp at h h';subst h h';simp [zipL]
 | a::xs,b::ys,i + 1,x,y,h,h'=>by
  rw [zipL,je6];exact qbs xs ys i x y (by simpa using h) (by simpa using h')
theorem Own.growH {K:Frag}{H H':Hp}{Z:Addr->Prop}{x:PV}{v:V} (k:∀ a o,H a=some o->H' a=some o) (h:Own K H Z x 0 v []):Own K H' Z x 0 v []:=
 Own.move (S:=λ _=>False) (λ a o h _=>k a o h) (λ _ z=>z.elim) (λ _ _ n=>n) x 0 v [] (λ _ z=>nomatch z) h
theorem zvq {K:Frag}{H:Hp}{Z:Addr->Prop}{xs:List PV}{v:V} (o:Own K H Z (.lst xs) 0 v []):∃ a ws,v=.ref a/\SqL K H a ws/\OwnL K H Z xs 0 ws []:=by
 rw [Own] at o;obtain ⟨b,ws,e,⟨_,hr,_,ol⟩ | ⟨h,_⟩⟩:=o
 ·exact ⟨b,ws,e,.inl (.inl hr.1),ol⟩
 ·exact absurd rfl h
theorem qce {K:Frag}{H:Hp}{Z:Addr->Prop}{x y:PV}{u v:V}{T:Addr} (hT:H T=some (.tup [u,v])) (ox:Own K H Z x 0 u []) (oy:Own K H Z y 0 v []):Own K H Z (.tup [x,y]) 0 (.ref T) []:=by
 rw [Own];refine ⟨T,_,rfl,hT,?_⟩;rw [qaw,OwnL];refine ⟨u,[v],[],[],rfl,rfl,(λ _ z=>nomatch z),ox,?_⟩;rw [OwnL];exact ⟨v,[],[],[],rfl,rfl,(λ _ z=>nomatch z),oy,by rw [OwnL];exact ⟨rfl,rfl⟩⟩
theorem OwnL.one {K:Frag}{H:Hp}{Z:Addr->Prop}{x:PV}{ws:List V} (o:OwnL K H Z [x] 0 ws []):∃ v,ws=[v]/\Own K H Z x 0 v []:=by
 rw [OwnL] at o;obtain ⟨v,r,f1,f2,rfl,ef,_,o1,o2⟩:=o;obtain ⟨rfl,rfl⟩:f1=[]/\f2=[]:=by simpa using ef.symm
 rw [OwnL] at o2;exact ⟨v,by rw [o2.1],o1⟩
theorem OwnL.two {K:Frag}{H:Hp}{Z:Addr->Prop}{x y:PV}{ws:List V} (o:OwnL K H Z [x,y] 0 ws []):∃ u v,ws=[u,v]/\Own K H Z x 0 u []/\Own K H Z y 0 v []:=by
 rw [OwnL] at o;obtain ⟨u,r,f1,f2,rfl,ef,_,o1,o2⟩:=o;obtain ⟨rfl,rfl⟩:f1=[]/\f2=[]:=by simpa using ef.symm
 obtain ⟨v,rfl,o3⟩:=o2.one;exact ⟨u,v,rfl,o1,o3⟩
theorem OwnL.mono0 {K:Frag}{H H':Hp}{Z Z':Addr->Prop} (h:∀ x v,Own K H Z x 0 v []->Own K H' Z' x 0 v []):∀ {xs:List PV}{ws:List V},OwnL K H Z xs 0 ws []->OwnL K H' Z' xs 0 ws []
 | [],ws,o=>by rw [OwnL] at o ⊢;exact o
 | x::xs,ws,o=>by
  rw [OwnL] at o;obtain ⟨u,r,f1,f2,rfl,ef,_,o1,o2⟩:=o;obtain ⟨rfl,rfl⟩:f1=[]/\f2=[]:=by simpa using ef.symm
  rw [OwnL];exact ⟨u,r,[],[],rfl,rfl,(λ _ z=>nomatch z),h _ _ o1,OwnL.mono0 h o2⟩
theorem qqw {v:Vw}{ps els:List PV}{ws:List V}{K:Frag}{H:Hp}{Z:Addr->Prop} (he:zjz v ps=some els) (o:OwnL K H Z ps 0 ws []):∃ J,(∀ R:It->Hp->Prop,R J H->qnn v K ws H R)/\∀ H Z,OwnL K H Z ps 0 ws []->∀ i,(i < els.length->J.go i H)/\(els.length<=i->J.stop i H) /\
  (i < els.length->∀ x H',J.yld i H x H'->(∀ a o,H a=some o->H' a=some o)/\∃ y,els[i]?=some y/\Own K H' Z y 0 x []):=by
 unfold zjz at he;split at he
 ·rename_i xs;cases he;obtain ⟨v,rfl,o1⟩:=o.one;obtain ⟨a,us,rfl,sq,ol⟩:=zvq o1;refine ⟨ItRv K a us.length,λ R r=>⟨a,us,rfl,sq,r⟩,λ H' Z' o' i=>?_⟩;obtain ⟨v',e,o1'⟩:=o'.one;cases e;obtain ⟨a',us',e,sq',ol'⟩:=zvq o1';cases e;have hl:=ol.length;have hl':=ol'.length;rw [jn9];refine ⟨λ h=>⟨by omega,us',us'[us.length - 1 - i]'(by omega),sq',by simp⟩,λ h=>?_,λ h x H2 y=>?_⟩
  ·show us.length<=i;omega
  ·obtain ⟨rfl,e2⟩:=y;refine ⟨λ _ _ h=>h,?_⟩;obtain ⟨z,ez,oz⟩:=ol'.get (e2 us' sq');refine ⟨z,?_,oz⟩;rw [jn1 (by omega),<- ez,hl]
 ·rename_i xs;cases he;obtain ⟨v,rfl,o1⟩:=o.one;obtain ⟨a,us,rfl,sq,ol⟩:=zvq o1;refine ⟨ItEn K a,λ R r=>⟨a,us,rfl,sq,r⟩,λ H' Z' o' i=>?_⟩;obtain ⟨v',e,o1'⟩:=o'.one;cases e;obtain ⟨a',us',e,sq',ol'⟩:=zvq o1';cases e;have hl':=ol'.length;rw [zpf];refine ⟨λ h=>⟨us',us'[i]'(by omega),sq',by simp⟩,λ h=>⟨us',sq',by omega⟩,λ h x H2 y=>?_⟩;obtain ⟨T,u,hT,rfl,rfl,e2⟩:=y;have kx:∀ a o,H' a=some o->upd H' T (.tup [.int (i:Int),u]) a=some o:=λ a o h=>by rw [zqf (λ z=>by rw [z,hT] at h;cases h)];exact h
  refine ⟨kx,?_⟩;obtain ⟨z,ez,oz⟩:=ol'.get (e2 us' sq');refine ⟨.tup [.int (i:Int),z],?_,qce zqe (by rw [Own];exact ⟨rfl,rfl⟩) (oz.growH kx)⟩;rw [zpg,ez];simp
 ·rename_i xs ys;cases he;obtain ⟨v1,v2,rfl,o1,o2⟩:=o.two;obtain ⟨a,us,rfl,sq,ol⟩:=zvq o1;obtain ⟨b,vs,rfl,sq2,ol2⟩:=zvq o2;refine ⟨ItZp K a b,λ R r=>⟨a,b,us,vs,rfl,sq,sq2,r⟩,λ H' Z' o' i=>?_⟩;obtain ⟨v1',v2',e,o1',o2'⟩:=o'.two;cases e;obtain ⟨a',us',e,sq',ol'⟩:=zvq o1';cases e;obtain ⟨b',vs',e,sq2',ol2'⟩:=zvq o2';cases e;have hl1:=ol'.length;have hl2:=ol2'.length;rw [qbr];refine ⟨λ h=>⟨us',vs',us'[i]'(by omega),vs'[i]'(by omega),sq',sq2',by simp,by simp⟩,λ h=>⟨us',vs',sq',sq2',by omega⟩,λ h x H2 y=>?_⟩;obtain ⟨T,u,w,hT,rfl,rfl,e2⟩:=y;have kx:∀ a o,H' a=some o->upd H' T (.tup [u,w]) a=some o:=λ a o h=>by rw [zqf (λ z=>by rw [z,hT] at h;cases h)];exact h
  obtain ⟨e3,e4⟩:=e2 us' vs' sq' sq2';obtain ⟨z1,ez1,oz1⟩:=ol'.get e3;obtain ⟨z2,ez2,oz2⟩:=ol2'.get e4;exact ⟨kx,.tup [z1,z2],qbs _ _ _ _ _ ez1 ez2,qce zqe (oz1.growH kx) (oz2.growH kx)⟩
 ·cases he
section
variable {is:List Nat}{M:Fm}{ρ ρ':Rho}{σ σ':St}{H H' H'':Hp}{fps fps' fps'':Fps}{vs vs':List Nat}
def qaq (v:Vw) (fa:Fa) (vs:List Nat) (asg:PV->Rho->Option Rho) (body:Fs):Fs:=λ ρ=>match fa ρ with
 | .ok (xs,ρ1)=>(match zjz v (xs.map (·.1)) with
  | some els=>zwk asg body els (zqo (if zzf xs=true then om else 0) vs ρ1)
  | none=>.no)
 | .exc c=>.exc c
 | .no=>.no
theorem Rep.seens {xs:List (PV×Nat)}{ws:List V}{fp:List Addr} (rep:Rep M ρ σ H fps) (k:KD M H fps H' fps') (g:Agr M ρ ρ') (r':Rep M ρ' σ H' fps') (o:Tmps M.K H' (Zv M vs fps') xs ws fp) (t:Temp M vs H H' fps' fp)
  (hal:∀ i,M.al i=[]) (hv:∀ i∈vs,M.Ms i=false):∃ fps2,KS M H fps H' fps2/\Rep M (zqo (if zzf xs=true then om else 0) vs ρ') σ H' fps2/\OwnL M.K H' (Zf M fps2) (xs.map (·.1)) 0 ws []:=by
 unfold zqo;cases ho:zzf xs with
 | true=>
  rw [if_pos rfl,if_pos rfl];refine ⟨fps',k.ks,r',?_⟩;exact OwnL.freeze (λ _ z=>z) _ om ws fp (λ a ha=>t.ndj a ha) (OwnL.full _ ws fp (o.all (zvx ho)))
 | false=>
  rw [if_neg jb7,if_neg (by decide)];exact ⟨zkw vs fps',k.ks.cool,r'.cool hal hv,(o.cold λ a ha z=>t.ndj a ha z.zf).weak λ a h=>zvy h⟩
theorem qeb {v:Vw}{g:TG}{asg:PV->Rho->Option Rho}{body:Fs}{fa:Fa}{D:Ends} (hal:∀ i,M.al i=[]) (hv:∀ i∈vs,M.Ms i=false) (hg:GOk M [] is g asg) (hq:tS M (qaq v fa vs asg body) D σ H):tFor (iVw v M.K (tL M fa vs)) g (tS M body) D σ H:=by
 obtain ⟨ρ,fps,rep,q⟩:=hq;refine ⟨ρ,fps,rep,?_⟩;unfold qaq at q;cases ef:fa ρ with
 | no=>rw [ef] at q;exact q
 | exc c=>rw [ef] at q;exact λ H' fps' k=>q _ H' fps' k.ks
 | ok p=>
  obtain ⟨xs,ρ1⟩:=p;rw [ef] at q;intro ws H1 fps1 f1 k1 g1 rep1 o1 t1;dsimp only at q;cases ee:zjz v (xs.map (·.1)) with
  | none=>rw [ee] at q;exact q.elim
  | some els=>
   rw [ee] at q;obtain ⟨fps2,k2,r2,o2⟩:=Rep.seens rep k1 g1 rep1 o1 t1 hal hv;obtain ⟨J,hpre,hJ⟩:=qqw ee o2;refine hpre _ ?_;exact zzn (Pq:=λ H fps=>OwnL M.K H (Zf M fps) (xs.map λ (p:PV×Nat)=>p.1) 0 ws []) (els:=els) hg (λ r k o=>o.mono0 λ x v h=>k.stay0 r h) (λ {H fps i} o h=>(hJ H _ o i).1 h) (λ {H fps i} o h=>(hJ H _ o i).2.1 h) (λ {ρ σ H fps i x H'} _ o h y=>(hJ H _ o i).2.2 h x H' y) r2 o2 (RsOk.from k2 q)
end
section
variable {X:Cx}{M:Fm}{f g:Fx}{fa:Fa}{vs vs':List Nat}{a b e:Expr}{es:List Expr}{pos p p2:Pos}{σ:St}{H:Hp}{Q:VK}
theorem qbu:∀ {xs:List V}{us:List va2},Vals xs us->Vals xs.reverse us.reverse
 | _,_,.nil=>.nil
 | _,_,.cons r rr=>by rw [jk0,jk0];exact (qbu rr).append (.cons r .nil)
theorem OwnL.snoc0 {K:Frag}{H:Hp}{Z:Addr->Prop}{x:PV}{v:V}:∀ {xs:List PV}{ws:List V},OwnL K H Z xs 0 ws []->Own K H Z x 0 v []->OwnL K H Z (xs++[x]) 0 (ws++[v]) []
 | [],ws,h,o=>by
  rw [OwnL] at h;obtain ⟨rfl,_⟩:=h;rw [je7,je7,OwnL];exact ⟨v,[],[],[],rfl,rfl,(λ _ z=>nomatch z),o,by rw [OwnL];exact ⟨rfl,rfl⟩⟩
 | y::xs,ws,h,o=>by
  rw [OwnL] at h;obtain ⟨u,r,f1,f2,rfl,ef,_,o1,o2⟩:=h;obtain ⟨rfl,rfl⟩:f1=[]/\f2=[]:=by simpa using ef.symm
  rw [jf9,jf9,OwnL];exact ⟨u,r++[v],[],[],rfl,rfl,(λ _ z=>nomatch z),o1,OwnL.snoc0 o2 o⟩
theorem OwnL.append0 {K:Frag}{H:Hp}{Z:Addr->Prop}{ys:List PV}{us:List V} (h2:OwnL K H Z ys 0 us []):∀ {xs:List PV}{ws:List V},OwnL K H Z xs 0 ws []->OwnL K H Z (xs++ys) 0 (ws++us) []
 | [],ws,h=>by
  rw [OwnL] at h;obtain ⟨rfl,_⟩:=h;exact h2
 | y::xs,ws,h=>by
  rw [OwnL] at h;obtain ⟨u,r,f1,f2,rfl,ef,_,o1,o2⟩:=h;obtain ⟨rfl,rfl⟩:f1=[]/\f2=[]:=by simpa using ef.symm
  rw [jf9,jf9,OwnL];exact ⟨u,r++us,[],[],rfl,rfl,(λ _ z=>nomatch z),o1,OwnL.append0 h2 o2⟩
theorem OwnL.rev {K:Frag}{H:Hp}{Z:Addr->Prop}:∀ {xs:List PV}{ws:List V},OwnL K H Z xs 0 ws []->OwnL K H Z xs.reverse 0 ws.reverse []
 | [],ws,h=>by
  rw [OwnL] at h;obtain ⟨rfl,_⟩:=h;rw [List.reverse_nil,OwnL];exact ⟨rfl,rfl⟩
 | y::xs,ws,h=>by
  rw [OwnL] at h;obtain ⟨u,r,f1,f2,rfl,ef,_,o1,o2⟩:=h;obtain ⟨rfl,rfl⟩:f1=[]/\f2=[]:=by simpa using ef.symm
  rw [jk0,jk0];exact OwnL.snoc0 (OwnL.rev o2) o1
end
section
variable {M:Fm}{fa:Fa}{vs:List Nat}
def spM (K:Frag) (F:Fn):Sp:=λ ws H Q _=>∃ x0 v0 fp0,ws=[v0]/\Own K H (λ _=>True) x0 om v0 fp0/\(match F [x0] with
 | .ok (y,_,_)=>qai y=true/\∀ v H',Keep (λ a=>a∈fp0) H H'->(∀ a,H a≠none->H' a≠none)->Own K H' (λ _=>True) y om v []->Q v H'
 | _=>False)
end
section
variable {X:Cx}{M:Fm}{f g:Fx}{vs vs':List Nat}{σ:St}{H:Hp}{Q:VK}
end
theorem qfq:typeLookup (.type "list_reverseiterator") "__len__" = pure none:=by rw [typeLookup_type,builtinLookup_eq_fast];kernel_rfl
theorem qi2:typeLookup (.type "list_reverseiterator") "__length_hint__" = pure (some (.builtin "list_reverseiterator.__length_hint__")):=by rw [typeLookup_type,builtinLookup_eq_fast];kernel_rfl
section
variable {pg:vb0}{wd:vb7}{Ar:vc3}{Er:va2->va3->Prop}{st:va3}
theorem qm7 {Rz':Result->va3->Prop}{l it:Addr}{xs:Array va2} (hd0:Ar.handled=none) (lne:l≠it) (hri:st.heap.IsRevIter it l ((xs.size:Int) - 1)) (hl:st.heap.IsList l xs) (hz:xs.size<=va5) (N:Addr) (nI:N≠it) (nl:N≠l) (rv:va2) (c0:Nat) (hN:st.heap.get? N=some { cls:=.type "list",data:=.seq #[] c0 })
  (good:∀ hp tk out c2,(∀ b o,b≠N->b≠it->st.heap.get? b=some o->hp.get? b=some o)->hp.get? N=some { cls:=.type "list",dict:=none,data:=.seq out c2,slots:=#[] }->ItemsOf (λ i v=>xs[xs.size - 1 - i]?=some v) out xs.size->Rz' (.ok (.ret rv)) { st with heap:=hp,toks:=tk }):
  vb1 (vb3 pg wd) Ar.in1 (ve5 (.ref N) (.ref it) rv) (λ z t=>match z with | .done f=>Rz' (.ok f) t | .again k=>k.quiet=true/\vj9 (vb3 pg wd) Ar k Rz' t) (λ e t=>Rz' (.error e) t) st:=by
 have walk:=(Walks.listRev (prog:=pg) (w:=wd) (A:=Ar.in1) hd0 it l lne xs).toS;have tI:st.TypeIs (.ref it) "list_reverseiterator" := hri.typeIs;have other:Builtin.List.listSameRef (.ref N) (.ref it)=false:=by simp [Builtin.List.listSameRef,nI]
 delta ve5;refine va0 (wpAny_typeOf tI ?_);rw [if_neg (by rw [other];decide)];refine va0 (wpAny_pyIter_revIter hri (va0 (vc7 ?_)));delta Builtin.List.listLengthHint;refine va0 (vj2 tI qfq ?_);show vb1 _ Ar.in1 (specialOf (Value.ref it) (vb8 "__length_hint__") >>= _) _ _ _;refine va0 (vj2 tI qi2 ?_);generalize en:("list_reverseiterator.__length_hint__" : String)=nm
 wp_delta
 rw [show splitId nm=some ("list_reverseiterator","__length_hint__") from by subst en;decide +kernel];subst en;refine va0 (vj0 (b:=true) tI (by rw [isSubtype_type];kernel_rfl) (va1 ?_));rw [if_neg (by decide)];refine va1 ⟨vd8 F.plain_extend_loop _,codeAny_extend_loopS walk hz _ (by simp [nI,nl]) _ xs.size 0 _ _ _ rfl (jj0 _) ⟨jj0 _,by simpa using hri,hl⟩ hN (ItemsOf.nil _) λ t out c2 mv hN' all=>?_⟩;rw [Moved.eq_with mv];exact good t.heap t.toks out c2 (λ b o hb hb2 e=>mv.heap b o (by simp [hb,hb2]) e) hN' all
theorem qit {Qv:va2->va3->Prop}{l it:Addr}{xs:Array va2} (hd0:Ar.handled=none) (lne:l≠it) (hri:st.heap.IsRevIter it l ((xs.size:Int) - 1)) (hl:st.heap.IsList l xs) (hz:xs.size<=va5)
  (good:∀ hp tk out c2,(∀ b o,b≠it->st.heap.get? b=some o->hp.get? b=some o)->hp.get? st.heap.objs.size=some { cls:=.type "list",dict:=none,data:=.seq out c2,slots:=#[] }->ItemsOf (λ i v=>xs[xs.size - 1 - i]?=some v) out xs.size->Qv (.ref st.heap.objs.size) { st with heap:=hp,toks:=tk }):vb1 (vb3 pg wd) Ar (call (.type "list") [.ref it]) Qv Er st:=by
 let one:Obj:={ cls:=.type "list",data:=.seq #[] }
 refine callType_codes (Q₁:=λ v t=>v=.ref st.heap.objs.size/\t={ st with heap:=st.heap.push one }) F.called_list (F.typeCall_list_1 _) F.entry_list_init (code_list_new _ ⟨rfl,rfl⟩) λ v t made=>?_;obtain ⟨rfl,rfl⟩:=made;have hN:(st.heap.push one).get? st.heap.objs.size=some one:=va7 _ rfl;refine ⟨⟨_,hN,rfl⟩,F.args_list_init_2 _ _,?_⟩;have nI:st.heap.objs.size≠it:=λ e=>by obtain ⟨o,ho,_⟩:=hri;exact jd8 _ (e ▸ va6 ho)
 have nl:st.heap.objs.size≠l:=λ e=>by obtain ⟨o,ho,_⟩:=hl;exact jd8 _ (e ▸ va6 ho)
 show vb1 _ Ar.in1.in1 (do let old<-Builtin.List.listItems (.ref st.heap.objs.size);Builtin.List.listUpdate (.ref st.heap.objs.size) (λ _=>#[]);letGo old.toList.reverse;ve5 (.ref st.heap.objs.size) (.ref it) .none) _ _ _;refine va0 ?_;delta Builtin.List.listItems;refine va0 (vh8 hN rfl (va1 ?_));show vb1 _ _ (vm8 st.heap.objs.size (λ _=>#[]) >>= λ _=>letGo (#[]:Array va2).toList.reverse >>= λ _=>ve5 (.ref st.heap.objs.size) (.ref it) .none) _ _ _;refine va0 (ve4 hN rfl (va0 (vf2 ?_)));have hN2:=vc0 (vi5 (λ _=>(#[]:Array va2))) hN rfl;have rest:∀ b o,b≠st.heap.objs.size->st.heap.get? b=some o->((st.heap.push one).update st.heap.objs.size (vi5 (λ _=>(#[]:Array va2)))).get? b=some o:=λ b o hb e=>(vb2 _ _ (vb9 hb)).trans (va4 _ e);refine qm7 (Ar:=Ar.in1) hd0 lne (hri.at λ o e=>rest it o (vb9 nI) e) (hl.at λ o e=>rest l o (vb9 nl) e) hz st.heap.objs.size nI nl .none _ hN2 λ hp tk out c2 hk hN' all=>?_;exact ⟨rfl,good hp tk out c2 (λ b o hb e=>by
  have hb':b≠st.heap.objs.size:=λ z=>jd8 _ (z ▸ va6 e);exact hk b o hb' hb (rest b o hb' e)) hN' all⟩
end
theorem qgf {its:List va2}{acc:Array va2} (h:ItemsOf (λ i v=>its.toArray[its.toArray.size - 1 - i]?=some v) acc its.toArray.size):acc.toList=its.reverse:=by
 obtain ⟨hs,hi⟩:=h;simp only [jb9] at hs hi;refine jp0 λ j=>?_;by_cases hj:j < its.length
 ·have e:acc[j]?=some acc[j]:=Array.getElem?_eq_getElem (by omega)
  have:=hi j _ e
  rw [ji2,e,jn1 hj,<- this];simp
 ·rw [je1 (by simp;omega),je1 (by simp;omega)]
section
variable {X:Cx}{M:Fm}{f:Fx}{vs:List Nat}{a:Expr}{pos p p2 pos2:Pos}
def rRvL (K:Frag):V->Hp->VK->Prop:=λ x H1 Q=>∃ l xs,x=.ref l/\SqL K H1 l xs/\∀ p,H1 p=none->Q (.ref p) (upd H1 p (.lst xs.reverse))
theorem ql5 {te:TE} (hc:X.calm=true) (hgL:Gl X "list") (hmL:X.mg "list" = none) (hgR:Gl X "reversed") (hmR:X.mg "reversed" = none) (ha:PE X a te) (hs:va9 [a] X.env=[(false,eval a X.env)]):
  PE X (.Call (.Name "list" p) [.Call (.Name "reversed" p2) [a] [] pos2] [] pos) (tUn (rRvL X.K) te):=by
 intro pins s σ H Q I h;refine vg1 (zvr I hgL hmL boot_list ?_ (by decide) (by decide));refine vb5 ?_ rfl rfl;show vb1 _ _ (spliced ((false,eval (.Call (.Name "reversed" p2) [a] [] pos2) X.env)::[])) _ _ s;refine vl0 ?_;refine Call_ (zvr I hgR hmR boot_reversed (vb5 ?_ hs rfl));rw [hs];show vb1 _ _ (spliced ((false,eval a X.env)::[])) _ _ s;refine vl0 (thn (ha pins s σ H _ I h) λ u s1 ⟨x,H1,I1,r1,q1⟩=>vl8 ?_);obtain ⟨l,xs,rfl,hq,q⟩:=q1;cases r1;obtain ⟨its,rv,pl,hz⟩:=I1.list hq;have hlen:=rv.length;refine call_reversed_list pl.isList ?_;refine vl8 ?_;have hT:(s1.heap.push (revObj l ((its.toArray.size:Int) - 1))).IsRevIter s1.heap.objs.size l ((its.toArray.size:Int) - 1):=⟨_,va7 _ rfl,rfl,rfl⟩
 have hlt:s1.heap.objs.size < (s1.heap.push (revObj l ((its.toArray.size:Int) - 1))).objs.size:=va6 (va7 _ rfl);have hne:l≠s1.heap.objs.size:=λ e=>by obtain ⟨o,ho,_⟩:=pl.isList;exact jd8 _ (e ▸ va6 ho)
 refine qit (st:={ s1 with heap:=s1.heap.push (revObj l ((its.toArray.size:Int) - 1)) }) (I1.ok.hd hc) hne hT (pl.isList.at λ o e=>va4 _ e) (by rw [jb9];omega) λ h' tk acc' c' hk hS' hacc=>?_;have ea:=qgf hacc;refine ⟨.ref _,_,I1.laid (h':=h') (t':=tk) (o:=.lst xs.reverse) (λ b o e=>hk b o (λ z=>jd8 _ (z ▸ va6 e)) (va4 _ e)) (jl3 hlt) ?_,rfl,q _ (I1.hok.fresh (jl3 hlt))⟩;refine ⟨by rw [jn9];exact hz,its.reverse,c',qbu rv,?_⟩;rw [<- ea];exact hS'
def qmf:PV->Nat->Option (PV×Nat)
 | .lst xs,_=>some (.lst xs.reverse,d1 xs.reverse)
 | _,_=>none
theorem qlj (hK:M.K=X.K) (hc:X.calm=true) (hgL:Gl X "list") (hmL:X.mg "list" = none) (hgR:Gl X "reversed") (hmR:X.mg "reversed" = none) (hs:va9 [a] X.env=[(false,eval a X.env)]) (ha:PE X a (tE M f vs)):
  PE X (.Call (.Name "list" p) [.Call (.Name "reversed" p2) [a] [] pos2] [] pos) (tE M (bUn qmf f) vs):=by
 refine zqw (ql5 hc hgL hmL hgR hmR ha hs) λ σ H Q h=>qhx (λ x d z c v H fps f1 Q ho o1 nz zd lf=>?_) h;cases x with
 | lst xs=>
  cases ho;obtain ⟨q,us,rfl,hs,ol⟩:=(cold o1 λ a ha=>nz a ha).coldL;exact ⟨q,us,rfl,.inl (.inl hs),λ l hl=>zww lf (OwnL.rev ol) hl⟩
 | _=>cases ho
end
section
variable {prog:vb0}{w:vb7}{A:vc3}{E:va2->va3->Prop}{s:va3}{a₀:Array Keyed}
end
section
variable {prog:vb0}{w:vb7}{A:vc3}{E:va2->va3->Prop}{s:va3}
end
section
variable {X:Cx}{M:Fm}{fa:Fa}{vs:List Nat}{e:Expr}{es:List Expr}{pos p:Pos}
def qro (ns:List Int):Prop:=ns.length < 64\/(ns.Pairwise (·<=·)/\ns.length<=va5)
instance (ns:List Int):Decidable (qro ns):=inferInstanceAs (Decidable (_\/_))
end
open PySem PySem.Spec PyProof.Rows L2 PySem.Builtin PySem.Builtin.ObjectAttr PySem.Builtin.Getset_descriptor
section
variable {prog:vb0}{w:vb7}{A:vc3}{E:va2->va3->Prop}{K:Frag}{h:Heap}{g:Array GenState}{d:Drawn}{t:Nat}{os:OsState}{a C:Addr}{oe:Obj}
end
section
variable {K:Frag}{a C:Addr}{c d:Nat}{u:va2}
end
section
variable {X:Cx}
end
section
variable {X:Cx}{M:Fm}{f g:Fx}{vs vs':List Nat}{e:Expr}{es:List Expr}{pos p:Pos}{σ:St}{H:Hp}{Q:VK}
end
section
variable {X:Cx}{M:Fm}{a b:Expr}{f g:Fx}{fa:Fa}{vs vs':List Nat}{pos p:Pos}{σ:St}{H:Hp}{Q:VK}{e:Expr}{es:List Expr}
def opIn (neg:Bool) (x:PV) (_:Nat) (y:PV) (_:Nat):Option (PV×Nat):=match x,y with
 | .tup ks,.dct kvs=>(keyL ks).map λ k=>(.bl (neg^^(valV kvs k).isSome),om)
 | .tup key,.dcl ks xs=>(keyL key).map λ k=>(.bl (neg^^(kvX ks xs k).isSome),om)
 | _,_=>none
def rDIn (neg:Bool):R2:=λ v w H Q=>∃ a o,w=.ref a/\DGet H a v o/\Q (.bl (neg^^o.isSome)) H
theorem qpy (hu:X.A.units + 1 < vm1):OpR X (vb6 .In) (rDIn false):=by
 intro pins s σ H x y v u Q I rx ry h;obtain ⟨a,o,rfl,g,q⟩:=h;obtain rfl:u=Value.ref a:=ry;exact d_in hu I g rx λ s3 I3=>⟨.bl o.isSome,H,I3,rfl,by simpa using q⟩
theorem qfk (hu:X.A.units + 1 < vm1):OpR X (vb6 .NotIn) (rDIn true):=by
 intro pins s σ H x y v u Q I rx ry h;obtain ⟨a,o,rfl,g,q⟩:=h;obtain rfl:u=Value.ref a:=ry;exact qnc hu I g rx λ s3 I3=>⟨.bl (!o.isSome),H,I3,rfl,by simpa using q⟩
theorem qcq {x y z:PV}{d e c:Nat}{v w:V}{fps:Fps}{f1 f2 F:List Addr}{Z Z':Addr->Prop}{neg:Bool} (hK:M.K=X.K) (ho:opIn neg x d y e=some (z,c)) (o1:Own M.K H Z x d v f1) (o2:Own M.K H Z' y e w f2) (lf:Leaf M H fps vs F z c Q):rDIn neg v w H Q:=by
 unfold opIn at ho;split at ho
 ·rename_i ks kvs;obtain ⟨k,ek,e2⟩:=jc3.mp ho;cases e2;rw [Own] at o1;rw [Own] at o2;obtain ⟨b,ws,rfl,hb,ol⟩:=o1
  have:=zzz ek ol
  subst this;have h2:∃ a,w=.ref a/\Rd H a (.dT kvs):=by
   obtain ⟨a,ea,⟨_,hr,_⟩ | ⟨_,ha,_⟩⟩:=o2
   ·exact ⟨a,ea,hr.1⟩
   ·exact ⟨a,ea,.inl ha⟩
  obtain ⟨a,rfl,ha⟩:=h2;exact ⟨a,_,rfl,.inr ⟨_,k,b,ha,rfl,hb,rfl⟩,zzx lf⟩
 ·rename_i key ks xs;obtain ⟨k,ek,e2⟩:=jc3.mp ho;cases e2;rw [Own] at o1;obtain ⟨b,us,rfl,hb,okey⟩:=o1
  have:=zzz ek okey
  subst this;obtain ⟨a,ws,rfl,en,hr,_,ol⟩:=(Own.freeze (Z':=λ _=>False) (λ _ z=>z.elim) _ _ _ _ (λ _ _ z=>z) o2).dcl0;have kv:=qba (k:=k) ol en;have e3:(kvX ks xs k).isSome=(valV (ks.zip ws) k).isSome:=by
   cases ex:kvX ks xs k with
   | none=>rw [kv.2 ex];rfl
   | some x=>obtain ⟨w',ew,_⟩:=kv.1 x ex;rw [ew];rfl
  rw [e3] at lf;exact ⟨a,_,rfl,.inr ⟨_,k,b,hr,rfl,hb,rfl⟩,zzx lf⟩
 ·cases ho
def bDct:Fx:=λ ρ=>.ok (.dct [],om,ρ)
theorem qoo:PE X (.Dict [] [] pos) (tE M bDct []):=by
 refine zqw qig λ σ H Q h p hp=>?_;obtain ⟨ρ,fps,rep,q⟩:=h;refine q (.ref p) _ fps [p] (KD.grow (zxl hp)) Agr.refl (rep.grow (zxl hp)) ?_ ⟨λ a ha=>by rw [jb4.mp ha];exact hp,λ a ha=>by rw [jb4.mp ha];exact rep.nz hp⟩;rw [Own];exact ⟨p,rfl,.inr ⟨by decide,zqe,rfl⟩⟩
end
structure Sx where
 N:List Str
 sc:vd4
 ms:List Nat
 al:List (List Nat)
 Γ:List (Str×(Bool×Nat×Fn))
 Γm:List (Str×Fn)
 rz:Bool
 xc:List Nat
 pn:List Nat
def Sx.alF (S:Sx) (i:Nat):List Nat:=S.al.getD i []
def Sx.msF (S:Sx) (i:Nat):Bool:=S.ms.contains i
def zwr (sc:vd4) (x:Str) (k:vd2):Bool:=sc.names.lookup x == some k
def visB (sc:vd4) (x:Str):Bool:=zwr sc x .local || zwr sc x .cell || zwr sc x .free
def ixOf (N:List Str) (x:Str):Option Nat:=N.findIdx? (·== x)
def Sx.slot (S:Sx) (x:Str):Option Nat:=if visB S.sc x && !(x == ("__debug__" : Str)) && !(x == ("__classdict__" : Str)) then ixOf S.N x else none
def Sx.glob (S:Sx) (x:Str):Bool:=zwr S.sc x .globalImplicit
structure XS (X:Cx) (P:vb0) (w:vb7) (K:Frag) (mg:Str->Option va2) (base:Heap) (lvl:Nat) (S:Sx) (Wx:St->Nat->Hp->Prop):Prop where
 prog:X.prog=P
 w:X.w=w
 K:X.K=K
 mg:X.mg=mg
 base:X.base=base
 N:X.N=S.N
 sc:X.env.scope=S.sc
 calm:X.calm=true
 room:Room lvl X.A
 po:PassesOwn (vb3 X.prog X.w) X.A X.env X.xe
 ps:zgf (CXr X.prog X.w X.K) X Wx
 rs:S.rz=true->qhp X Wx
structure MS (M:Fm) (K:Frag) (S:Sx) (Wx:St->Nat->Hp->Prop):Prop where
 K:M.K=K
 ms:M.Ms=S.msF
 al:∀ i,i < S.N.length->M.al i=S.alF i
 als:∀ i,∀ j∈M.al i,M.Ms j=false
 W:M.W=Wx
 pn:∀ p∈M.pn,p.1 < S.N.length
def GSm (P:vb0) (w:vb7) (K:Frag) (mg:Str->Option va2) (base:Heap) (lvl:Nat) (Γm:List (Str×Fn)):Prop:=
 ∀ x F,Γm.lookup x=some F->(x == ("__debug__" : Str))=false/\∃ fa fd ps,mg x=some (.ref fa)/\ve8 K (.ref fa)=true/\qan K fd ps []/\FnOk P w K mg base (CXr P w K) lvl fa fd ps (spM K F)
def GX (_:Frag) (_:Str->Option va2) (xc:List Nat):Prop:=xc=[]
def GS (P:vb0) (w:vb7) (K:Frag) (mg:Str->Option va2) (base:Heap) (lvl:Nat) (Γ:List (Str×(Bool×Nat×Fn))):Prop:=
 (∀ x∈zkq,mg x=none)/\∀ x io n F,Γ.lookup x=some (io,n,F)->(x == ("__debug__" : Str))=false/\(∀ xs,xs.length≠n->F xs=.no) /\
  ∃ fa fd ps,mg x=some (.ref fa)/\ve8 K (.ref fa)=true/\qan K fd ps []/\ps.length=n/\FnOk P w K mg base (CXr P w K) lvl fa fd ps (spF K io n F)
section
variable {X:Cx}{P:vb0}{w:vb7}{K:Frag}{mg:Str->Option va2}{base:Heap}{lvl:Nat}{S:Sx}{Wx:St->Nat->Hp->Prop}{M:Fm}
theorem zwh {sc:vd4}{x:Str}{k:vd2} (h:zwr sc x k=true):sc.names.lookup x=some k:=by
 unfold zwr at h;exact eq_of_beq h
theorem qjv {sc:vd4}{x:Str} (h:visB sc x=true):Vis sc x:=by
 unfold visB at h;rw [jf3,jf3] at h;rcases h with (h | h) | h
 ·exact .inl (zwh h)
 ·exact .inr (.inl (zwh h))
 ·exact .inr (.inr (zwh h))
theorem zju {N:List Str}{x:Str}{i:Nat} (h:ixOf N x=some i):N[i]?=some x:=by
 unfold ixOf at h;rw [List.findIdx?_eq_some_iff_getElem] at h;obtain ⟨hi,e,_⟩:=h
 have:N[i]=x:=eq_of_beq e
 rw [jb8 hi,this]
theorem XS.var (xs:XS X P w K mg base lvl S Wx) {x:Str}{i:Nat}{pos:Pos} (h:S.slot x=some i):PE X (.Name x pos) (tVar i):=by
 unfold Sx.slot at h;split at h
 ·rename_i hc;simp only [ja9,jp1] at hc;exact qpe (by rw [xs.N];exact zju h) (by rw [xs.sc];exact qjv hc.1.1) hc.1.2 hc.2
 ·cases h
theorem XS.gl (xs:XS X P w K mg base lvl S Wx) {x:Str} (h:S.glob x=true):Gl X x:=by
 show X.env.scope.names.lookup x=_;rw [xs.sc];exact zwh h
theorem zqy {e:Expr}{es:List Expr}{env:Env} (h:∀ x p,e≠.Starred x p):va9 (e::es) env=(false,eval e env)::va9 es env:=by
 cases e with
 | Starred x p=>exact absurd rfl (h x p)
 | _=>rfl
def zbq:Expr->Bool
 | .Starred _ _=>false
 | _=>true
theorem zqn {e:Expr} (h:zbq e=true):∀ x p,e≠.Starred x p:=λ x p z=>by rw [z] at h;cases h
theorem zjp {env:Env}{pos:Pos}:∀ {es:List Expr},es.all zbq=true->(vg4 pos (va9 es env)).any (·.1)=false
 | [],_=>rfl
 | e::es,h=>by
  rw [jg9,ja9] at h;rw [zqy (zqn h.1)];show (false || (vg4 pos (va9 es env)).any (·.1))=false;rw [zjp h.2];rfl
def zbr:Expr->Bool
 | .Slice _ _ _ _=>false
 | _=>true
theorem zyw {b:Expr} (h:zbr b=true):zge b:=by
 intro o i;cases b with
 | Slice _ _ _ _=>cases h
 | _=>rfl
def qqs (b:Expr):vi7->Option (PV->Nat->PV->Nat->Option (PV×Nat))
 | .Add=>some zqj
 | .Sub=>some zzd
 | .Mult=>some zxw
 | .FloorDiv=>some zxm
 | .Mod=>some zxj
 | .Pow=>some qfl
 | _=>none
theorem qq2 {a b:Expr}{op:vi7}{o:PV->Nat->PV->Nat->Option (PV×Nat)}{f g:Fx}{vs vs':List Nat}{pos:Pos} (h:qqs b op=some o) (hv:∀ i∈vs,M.Ms i=false) (hK:M.K=X.K) (ha:PE X a (tE M f vs)) (hb:PE X b (tE M g vs')):PE X (.BinOp a op b pos) (tE M (bBin o f g) (vs++vs')):=by
 cases op <;> cases h
 ·exact qor hv hK ha hb
 ·exact qb3 qmb (λ _ _ _=>trivial) hv ha hb
 ·exact qoi hv ha hb
 ·exact qb3 qpq (λ _ _=>cMod) hv ha hb
 ·exact qb3 qpo (λ _ _=>cPow) hv ha hb
 ·exact qb3 qil (λ _ _=>cDiv) hv ha hb
def isNm:Expr->Bool
 | .Set _ _ _=>false
 | _=>true
def qq4:Expr->Bool
 | .Name x _=>decide (x = "row")
 | _=>false
def opLt:PV->Nat->PV->Nat->Option (PV×Nat)
 | .tup xs,_,.tup ys,_=>(match zzj xs,zzj ys with
  | some a,some b=>some (.bl (HT.lexLt a b),om)
  | _,_=>none)
 | _,_,_,_=>none
def qjp (b:Expr):vo0->Option (PV->Nat->PV->Nat->Option (PV×Nat))
 | .Lt=>if qq4 b=true then some opLt else some (zxo λ i j=>decide (i < j))
 | .LtE=>some (zxo λ i j=>decide (i<=j))
 | .Gt=>some (zxo λ i j=>decide (j < i))
 | .GtE=>some (zxo λ i j=>decide (j<=i))
 | .Eq=>some (opEq false)
 | .NotEq=>some (opEq true)
 | .Is=>some (opIs false)
 | .IsNot=>some (opIs true)
 | .In=>if isNm b=true then some (opIn false) else none
 | .NotIn=>if isNm b=true then some (opIn true) else none
theorem qgk {op:vo0}{b:Expr} (h:isNm b=true):vh0 op b=false:=by
 cases b with
 | Set _ _ _=>cases h
 | _=>rfl
theorem qjo {op:vo0}{o:PV->Nat->PV->Nat->Option (PV×Nat)}{f g:Fx}{vs vs':List Nat}{b:Expr} (h:qjp b op=some o) (hu:X.A.units + 64 < vm1) (hv:∀ i∈vs,M.Ms i=false) (hK:M.K=X.K):
  ∃ r,OpR X (vb6 op) r/\vh0 op b=false/\∀ σ H Q,tE M (bBin o f g) (vs++vs') σ H Q->tOp r (tE M f vs) (tE M g vs') σ H Q:=by
 cases op
 ·cases h;exact ⟨_,qfj,zwi _ (by decide) (by decide),λ σ H Q h=>zwt hv (λ x d y e z c v w H fps f1 f2 Q ho o1 o2 dj nz zd lf=>zke ho o1 o2 lf) h⟩
 ·cases h;exact ⟨_,qmd,zwi _ (by decide) (by decide),λ σ H Q h=>zwt hv (λ x d y e z c v w H fps f1 f2 Q ho o1 o2 dj nz zd lf=>zke ho o1 o2 lf) h⟩
 ·unfold qjp at h;dsimp only at h;split at h
  ·cases h;refine ⟨_,qpr (by omega),zwi _ (by decide) (by decide),λ σ H Q h=>zwt hv (λ x d y e z c v w H fps f1 f2 Q ho o1 o2 dj nz zd lf=>?_) h⟩;unfold opLt at ho;split at ho
   ·rename_i xs d' ys e';split at ho
    ·rename_i a b' ea eb;cases ho;obtain ⟨p,us,rfl,hs,ol⟩:=(cold (fp:=f1) o1 λ a ha=>nz a (ja8 _ ha)).coldT;obtain ⟨p',us',rfl,hs',ol'⟩:=(cold (fp:=f2) o2 λ a ha=>nz a (ja5 _ ha)).coldT;have h1:=zwx ea ol;have h2:=zwx eb ol';subst h1;subst h2;exact ⟨p,p',a,b',rfl,rfl,.inl (.inl hs),.inl (.inl hs'),zzx lf⟩
    ·cases ho
   ·cases ho
  ·cases h;exact ⟨_,qps,zwi _ (by decide) (by decide),λ σ H Q h=>zwt hv (λ x d y e z c v w H fps f1 f2 Q ho o1 o2 dj nz zd lf=>zke ho o1 o2 lf) h⟩
 ·cases h;exact ⟨_,qpt,zwi _ (by decide) (by decide),λ σ H Q h=>zwt hv (λ x d y e z c v w H fps f1 f2 Q ho o1 o2 dj nz zd lf=>zke ho o1 o2 lf) h⟩
 ·cases h;exact ⟨_,qpw,zwi _ (by decide) (by decide),λ σ H Q h=>zwt hv (λ x d y e z c v w H fps f1 f2 Q ho o1 o2 dj nz zd lf=>zke ho o1 o2 lf) h⟩
 ·cases h;exact ⟨_,qpx,zwi _ (by decide) (by decide),λ σ H Q h=>zwt hv (λ x d y e z c v w H fps f1 f2 Q ho o1 o2 dj nz zd lf=>zke ho o1 o2 lf) h⟩
 ·cases h;refine ⟨_,qpv.or qpu,zwi _ (by decide) (by decide),λ σ H Q h=>zwt hv (λ x d y e z c v w H fps f1 f2 Q ho o1 o2 dj nz zd lf=>?_) h⟩;rcases qf8 ho o1 o2 lf with ⟨i,j,e1,e2,q⟩ | ⟨e1,q⟩
  ·exact .inl ⟨i,j,e1,e2,by simpa using q⟩
  ·exact .inr ⟨e1,by rw [ji7] at q;exact q⟩
 ·cases h;refine ⟨_,qfi.or qmc,zwi _ (by decide) (by decide),λ σ H Q h=>zwt hv (λ x d y e z c v w H fps f1 f2 Q ho o1 o2 dj nz zd lf=>?_) h⟩;rcases qf8 ho o1 o2 lf with ⟨i,j,e1,e2,q⟩ | ⟨e1,q⟩
  ·exact .inl ⟨i,j,e1,e2,by simpa [bne] using q⟩
  ·exact .inr ⟨e1,by rw [jo6] at q;exact q⟩
 ·replace h:(if isNm b=true then some (opIn false) else none)=some o:=h;split at h
  ·rename_i hb;cases h;exact ⟨_,qpy (by omega),qgk hb,λ σ H Q h=>zwt hv (λ x d y e z c v w H fps f1 f2 Q ho o1 o2 dj nz zd lf=>qcq hK ho o1 o2 lf) h⟩
  ·cases h
 ·replace h:(if isNm b=true then some (opIn true) else none)=some o:=h;split at h
  ·rename_i hb;cases h;exact ⟨_,qfk (by omega),qgk hb,λ σ H Q h=>zwt hv (λ x d y e z c v w H fps f1 f2 Q ho o1 o2 dj nz zd lf=>qcq hK ho o1 o2 lf) h⟩
  ·cases h
def icmp:vo0->Option (Int->Int->Bool)
 | .Lt=>some λ i j=>decide (i < j)
 | .LtE=>some λ i j=>decide (i<=j)
 | .Gt=>some λ i j=>decide (j < i)
 | .GtE=>some λ i j=>decide (j<=i)
 | .Eq=>some λ i j=>decide (i=j)
 | _=>none
theorem zht {op:vo0}{p:Int->Int->Bool} (h:icmp op=some p):OpR X (vb6 op) (rI0 λ i j=>.bl (p i j))/\op≠.In/\op≠.NotIn:=by
 cases op <;> cases h
 ·refine ⟨?_,by decide,by decide⟩;have:=qfj (X:=X);simp only [ji7] at this;exact this
 ·exact ⟨qps,by decide,by decide⟩
 ·exact ⟨qpt,by decide,by decide⟩
 ·exact ⟨qpw,by decide,by decide⟩
 ·exact ⟨qpx,by decide,by decide⟩
def zzl (p q:Int->Int->Bool) (f g h:Fx):Fx:=λ ρ=>(f ρ).bind λ (x,_,ρ1)=>(g ρ1).bind λ (y,_,ρ2)=>match x,y with
 | .int i,.int j=>if p i j=true then (h ρ2).bind λ (z,_,ρ3)=>(match z with
  | .int k=>.ok (.bl (q j k),om,ρ3)
  | _=>.no) else .ok (.bl false,om,ρ2)
 | _,_=>.no
theorem qby {p q:Int->Int->Bool}{f g h:Fx}{vs v1 v2 v3:List Nat}{σ:St}{H:Hp}{Q:VK} (hq:tE M (zzl p q f g h) vs σ H Q):qei (rI0 λ i j=>.bl (p i j)) (rI0 λ i j=>.bl (q i j)) (tE M f v1) (tE M g v2) (tE M h v3) σ H Q:=by
 obtain ⟨ρ,fps,rep,qq⟩:=hq;refine ⟨ρ,fps,rep,?_⟩;unfold zzl at qq;cases ef:f ρ with
 | no=>rw [ef] at qq;exact qq
 | exc c=>rw [ef] at qq;exact qq
 | ok p0=>
  obtain ⟨x,d,ρ1⟩:=p0;rw [ef] at qq;intro v H1 fps1 f1 k1 g1 rep1 o1 t1;refine ⟨ρ1,fps1,rep1,?_⟩;dsimp only [Rz.bind] at qq;cases eg:g ρ1 with
  | no=>rw [eg] at qq;exact qq
  | exc c=>rw [eg] at qq;exact λ H' fps' k=>qq H' fps' (k1.trans k)
  | ok p2=>
   obtain ⟨y,e,ρ2⟩:=p2;rw [eg] at qq;intro w H2 fps2 f2 k2 g2 rep2 o2 t2;cases x with
   | int i=>
    cases y with
    | int j=>
     dsimp only at qq;rw [Own] at o1 o2;obtain ⟨rfl,rfl⟩:=o1;obtain ⟨rfl,rfl⟩:=o2;refine ⟨i,j,rfl,rfl,p i j,rfl,?_⟩;by_cases hp:p i j=true
     ·rw [if_pos hp] at qq ⊢;refine ⟨ρ2,fps2,rep2,?_⟩;cases eh:h ρ2 with
      | no=>rw [eh] at qq;exact qq
      | exc c=>rw [eh] at qq;exact λ H' fps' k=>qq H' fps' ((k1.trans k2).trans k)
      | ok p3=>
       obtain ⟨z,c,ρ3⟩:=p3;rw [eh] at qq;intro u H3 fps3 f3 k3 g3 rep3 o3 t3;cases z with
       | int k=>
        dsimp only at qq;rw [Own] at o3;obtain ⟨rfl,rfl⟩:=o3;exact ⟨j,k,rfl,rfl,qq _ H3 fps3 [] ((k1.trans k2).trans k3) ((g1.trans g2).trans g3) rep3 (by rw [Own];exact ⟨rfl,rfl⟩) ⟨λ _ z=>(nomatch z),λ _ z=>nomatch z⟩⟩
       | _=>exact qq.elim
     ·rw [if_neg hp] at qq ⊢;exact qq _ H2 fps2 [] (k1.trans k2) (g1.trans g2) rep2 (by rw [Own];exact ⟨rfl,rfl⟩) ⟨λ _ z=>(nomatch z),λ _ z=>nomatch z⟩
    | _=>exact qq.elim
   | _=>exact qq.elim
def zzs (f g:Fx):Fx:=λ ρ=>(f ρ).bind λ (x,_,ρ1)=>match x with
 | .bl true=>g ρ1
 | .bl false=>.ok (.bl false,om,ρ1)
 | _=>.no
def bOrV (f g:Fx):Fx:=λ ρ=>(f ρ).bind λ (x,_,ρ1)=>match x with
 | .bl true=>.ok (.bl true,om,ρ1)
 | .bl false=>g ρ1
 | _=>.no
def zwo:PV->Nat->Option (PV×Nat)
 | .bl b,_=>some (.bl (!b),om)
 | _,_=>none
variable {f g:Fx}{vs vs':List Nat}{σ:St}{H:Hp}{Q:VK}
theorem zmz {f:Fx}{ρ ρ1:Rho}{fps fps1:Fps}{H H1:Hp} (k1:KD M H fps H1 fps1) (g1:Agr M ρ ρ1) (rep1:Rep M ρ1 σ H1 fps1) (hs:∀ i∈vs,i∈vs')
  (q:match f ρ1 with
   | .ok (x,d,ρ')=>∀ v H' fps' fp,KD M H fps H' fps'->Agr M ρ ρ'->Rep M ρ' σ H' fps'->Own M.K H' (Zt M vs' fps' fp) x d v fp->Temp M vs' H H' fps' fp->Q v H'
   | .exc c=>∀ H' fps',KD M H fps H' fps'->M.W σ c H'
   | .no=>False):tE M f vs σ H1 Q:=by
 refine ⟨ρ1,fps1,rep1,?_⟩;cases eg:f ρ1 with
 | no=>rw [eg] at q;exact q
 | exc c=>rw [eg] at q;exact λ H' fps' k=>q H' fps' (k1.trans k)
 | ok p2=>
  obtain ⟨x,d,ρ2⟩:=p2;rw [eg] at q;exact λ v H' fps' fp k g r o t=>q v H' fps' fp (k1.trans k) (g1.trans g) r (o.weak λ a h=>Zt.mono hs h) ⟨λ a ha=>(by
   have e:=t.new a ha;cases e':H a with
   | none=>rfl
   | some o=>exact absurd e (k1.dom a (by rw [e'];simp))),t.ndj⟩
theorem qla (hq:tE M (zzs f g) (vs++vs') σ H Q):qof (tE M f vs) (tE M g vs') σ H Q:=by
 obtain ⟨ρ,fps,rep,q⟩:=hq;refine ⟨ρ,fps,rep,?_⟩;unfold zzs at q;cases ef:f ρ with
 | no=>rw [ef] at q;exact q
 | exc c=>rw [ef] at q;exact q
 | ok p=>
  obtain ⟨x,d,ρ1⟩:=p;rw [ef] at q;intro v H1 fps1 f1 k1 g1 rep1 o1 t1;dsimp only [Rz.bind] at q;cases x with
  | bl b=>
   rw [Own] at o1;refine ⟨b,o1.1,?_⟩;cases b with
   | true=>exact zmz k1 g1 rep1 (λ i hi=>ja5 _ hi) q
   | false=>exact q (.bl false) H1 fps1 [] k1 g1 rep1 (by rw [Own];exact ⟨rfl,rfl⟩) ⟨λ _ z=>(nomatch z),λ _ z=>nomatch z⟩
  | _=>exact q.elim
theorem qob (hq:tE M (bOrV f g) (vs++vs') σ H Q):tOrV (tE M f vs) (tE M g vs') σ H Q:=by
 obtain ⟨ρ,fps,rep,q⟩:=hq;refine ⟨ρ,fps,rep,?_⟩;unfold bOrV at q;cases ef:f ρ with
 | no=>rw [ef] at q;exact q
 | exc c=>rw [ef] at q;exact q
 | ok p=>
  obtain ⟨x,d,ρ1⟩:=p;rw [ef] at q;intro v H1 fps1 f1 k1 g1 rep1 o1 t1;dsimp only [Rz.bind] at q;cases x with
  | bl b=>
   rw [Own] at o1;refine ⟨b,o1.1,?_⟩;cases b with
   | false=>exact zmz k1 g1 rep1 (λ i hi=>ja5 _ hi) q
   | true=>exact q (.bl true) H1 fps1 [] k1 g1 rep1 (by rw [Own];exact ⟨rfl,rfl⟩) ⟨λ _ z=>(nomatch z),λ _ z=>nomatch z⟩
  | _=>exact q.elim
theorem qk8 (hq:tE M (bUn zwo f) vs σ H Q):qn8 (tE M f vs) σ H Q:=by
 refine qhx (r:=λ x H1 Q=>∃ c,x=.bl c/\Q (.bl (!c)) H1) (λ x d z c v H fps f1 Q ho o1 nz zd lf=>?_) hq;cases x with
 | bl b=>cases ho;rw [Own] at o1;exact ⟨b,o1.1,zzx lf⟩
 | _=>cases ho
end
def bIfE (c:Fb) (f g:Fx):Fx:=λ ρ=>(c ρ).bind λ (b,ρ1)=>if b=true then f ρ1 else g ρ1
section
variable {X:Cx}{M:Fm}{c:Fb}{f g:Fx}{vs vs':List Nat}{σ:St}{H:Hp}{Q:VK}
theorem qoc (hq:tE M (bIfE c f g) (vs++vs') σ H Q):tIf (tT M c) (tE M f vs) (tE M g vs') σ H Q:=by
 obtain ⟨ρ,fps,rep,q⟩:=hq;refine ⟨ρ,fps,rep,?_⟩;unfold bIfE at q;cases ec:c ρ with
 | no=>rw [ec] at q;exact q
 | exc c=>rw [ec] at q;exact q
 | ok p=>
  obtain ⟨b,ρ1⟩:=p;rw [ec] at q;intro H1 fps1 k1 g1 rep1;dsimp only [Rz.bind] at q;cases b with
  | true=>exact zmz k1 g1 rep1 (λ i hi=>ja8 _ hi) q
  | false=>exact zmz k1 g1 rep1 (λ i hi=>ja5 _ hi) q
theorem qom {t a b:Expr}{pos:Pos} (ht:PT X t (tT M c)) (ha:PE X a (tE M f vs)) (hb:PE X b (tE M g vs')):PE X (.IfExp t a b pos) (tE M (bIfE c f g) (vs++vs')):=zqw (qif ht ha hb) λ σ H Q q=>qoc q
def tIfT (t u v:TT):TT:=λ σ H Q=>t σ H λ c H1=>if c=true then u σ H1 Q else v σ H1 Q
theorem qo7 {t a b:Expr}{pos:Pos}{tA tB tC:TT} (ht:PT X t tA) (ha:PT X a tB) (hb:PT X b tC):PT X (.IfExp t a b pos) (tIfT tA tB tC):=by
 intro pins s σ H Q I h;unfold PySem.isTrue;refine va0 (thn (ht pins s σ H _ I h) λ d s1 ⟨H1,I1,q1⟩=>?_);cases d with
 | true=>exact ha pins s1 σ H1 Q I1 q1
 | false=>exact hb pins s1 σ H1 Q I1 q1
theorem qqt:bT (bIfE c f g)=λ ρ=>(c ρ).bind λ (b,ρ1)=>if b=true then bT f ρ1 else bT g ρ1:=by
 funext ρ;unfold bT bIfE;dsimp only;cases c ρ with
 | no=>rfl
 | exc c=>rfl
 | ok p=>
  obtain ⟨b,ρ1⟩:=p;cases b <;> rfl
theorem qny {Q:Bool->Hp->Prop} (hq:tT M (bT (bIfE c f g)) σ H Q):tIfT (tT M c) (tT M (bT f)) (tT M (bT g)) σ H Q:=by
 rw [qqt] at hq;obtain ⟨ρ,fps,rep,q⟩:=hq;refine ⟨ρ,fps,rep,?_⟩;dsimp only at q;cases ef:c ρ with
 | no=>rw [ef] at q;exact q
 | exc c=>rw [ef] at q;exact q
 | ok p=>
  obtain ⟨b,ρ1⟩:=p;rw [ef] at q;intro H1 fps1 k1 g1 rep1;dsimp only [Rz.bind] at q;cases b with
  | false=>
   refine ⟨ρ1,fps1,rep1,?_⟩;rw [if_neg (by decide)] at q;cases eg:bT g ρ1 with
   | no=>rw [eg] at q;exact q
   | exc c=>rw [eg] at q;exact λ H' fps' k=>q H' fps' (k1.trans k)
   | ok p2=>rw [eg] at q;exact λ H' fps' k g r=>q H' fps' (k1.trans k) (g1.trans g) r
  | true=>
   refine ⟨ρ1,fps1,rep1,?_⟩;rw [if_pos rfl] at q;cases eg:bT f ρ1 with
   | no=>rw [eg] at q;exact q
   | exc c=>rw [eg] at q;exact λ H' fps' k=>q H' fps' (k1.trans k)
   | ok p2=>rw [eg] at q;exact λ H' fps' k g r=>q H' fps' (k1.trans k) (g1.trans g) r
end
def qnt:Option (Int×Tok)->Array va2
 | none=>#[]
 | some p=>#[.int p.1 p.2,.int p.1 p.2]
def zkk (bt:Int->Int->Bool) (val:Nat->Int):Nat->Nat->Option Int->Option Int
 | 0,_,b=>b
 | k + 1,j,none=>zkk bt val k (j + 1) (some (val j))
 | k + 1,j,some m=>zkk bt val k (j + 1) (some (if bt (val j) m=true then val j else m))
def IsD (dv:va2) (o:Option Int) (r:va2):Prop:=match o with
 | none=>r=dv
 | some m=>∃ t,r=.int m t
def gtI (i j:Int):Bool:=decide (i > j)
def ltI (i j:Int):Bool:=decide (i < j)
section
variable {prog:vb0}{w:vb7}{A:vc3}{R:Result->va3->Prop}{I:Addr}{fp wr:List Addr}{n:Nat}{P:Nat->va2->Prop}{St:Nat->Heap->Prop}
theorem qfx (W:Walks prog w A.in1 I fp wr n P St) (val:Nat->Int) (hval:∀ i v,P i v->∃ t,v=.int (val i) t) (S:Addr) (hSf:S∉fp) (dn:Str) (dv:va2):
  ∀ (k j:Nat) (s:va3) (c:Nat) (b:Option (Int×Tok)),n - j=k->j<=n->St j s.heap->s.heap.get? S=some { cls:=.type "list",dict:=none,data:=.seq (qnt b) c,slots:=#[] } ->
  (∀ r h' tk,IsD dv (zkk gtI val k j (b.map (·.1))) r->(∀ a o,a∉wr->a≠S->s.heap.get? a=some o->h'.get? a=some o)->R (.ok (.ret r)) { s with heap:=h',toks:=tk }) ->
  vj9 (vb3 prog w) A (.builtin "max.loop" ⟨[.ref I,.none,.ref S],[(dn,dv)]⟩) R s:=by
 have hSw:S∉wr:=λ h=>hSf (W.sub _ h);have nm:(toString "max" ++ toString ".loop" : String) = "max.loop" := by decide
 intro k;induction k with
 | zero=>
  intro j s c b hk hj hst hS hR;refine vj8 F.entry_max_loop ?_;rw [vg9 vf1 _];show vb1 _ A.in1 (seqItems? (.ref S) >>= _) _ _ s;refine va0 (vh8 hS rfl ?_);show vb1 _ A.in1 (tryCatch (vi2 (.ref I)) _ >>= _) _ _ s;refine va0 (vg6 (W.done s _ _ ((show j=n by omega) ▸ hst) λ h1 tk1 k1=>?_));have hS1:=k1 S _ hSw hS;cases b with
  | none=>exact va0 (wpAny_rule (va1 (hR dv h1 tk1 rfl λ a o h _ e=>k1 a o h e)))
  | some p=>
   obtain ⟨m,t⟩:=p;show vb1 _ A.in1 (vm8 S (λ _=>#[]) >>= _) _ _ _;refine va0 ?_;refine ve4 hS1 rfl (va0 (vf2 (va1 ?_))) (hz:=(by decide:2<=va5));exact hR _ _ _ ⟨t,rfl⟩ λ a o h h' e=>(vb2 _ _ (vb9 h')).trans (k1 a o h e)
 | succ k ih=>
  intro j s c b hk hj hst hS hR;refine vj8 F.entry_max_loop ?_;rw [vg9 vf1 _];show vb1 _ A.in1 (seqItems? (.ref S) >>= _) _ _ s;refine va0 (vh8 hS rfl ?_);show vb1 _ A.in1 (tryCatch (vi2 (.ref I)) _ >>= _) _ _ s;refine va0 (vg6 (W.item j s _ _ (by omega) hst λ v h1 tk1 hP st1 k1=>?_));obtain ⟨t,rfl⟩:=hval j v hP;have hS1:=k1 S _ hSw hS;have up:∀ (ls:Array va2) (c1:Nat),∀ a∈fp,∀ o,h1.get? a=some o->(h1.update S λ o=>{ o with data:=.seq ls c1 }).get? a=some o:=λ ls c1 a ha o e=>(vb2 _ _ (λ h:S=a=>hSf (by rw [h];exact ha))).trans e;cases b with
  | none=>
   show vb1 _ A.in1 (vm8 S (λ _=>#[.int (val j) t,.int (val j) t]) >>= _) _ _ _;refine va0 ?_;refine ve4 hS1 rfl ?_;rw [nm];refine va1 ⟨vd8 vf1 _,ih (j + 1) _ _ (some (val j,t)) (by omega) (by omega) (W.frame _ _ _ st1 λ a ha o e=>?_) (vc0 _ hS1 rfl) λ r h2 tk2 q k2=>?_⟩
   ·exact (vb2 _ _ (λ h:S=a=>hSf (by rw [h];exact ha))).trans e
   ·exact hR r h2 tk2 q λ a o h h' e=>k2 a o h h' ((vb2 _ _ (vb9 h')).trans (k1 a o h e))
  | some p=>
   obtain ⟨m,t'⟩:=p;show vb1 _ A.in1 (tryCatch (vl3 [.int (val j) t,.int (val j) t] (richCompare .Gt (.int (val j) t) (.int m t') >>= _)) _ >>= _) _ _ _;refine va0 (vg6 (vc7 (va0 (CmpOf.ints_gt (P:=λ i v=>∃ t,v=.int (if i=0 then val j else m) t) (λ i=>if i=0 then val j else m) (λ _ _ h=>h) 0 1 _ _ _ _ _ ⟨t,rfl⟩ ⟨t',rfl⟩ ?_))));refine va0 (vc7 (vc1 ?_));refine va0 (vf2 (va1 ?_));by_cases hb:val j > m
   ·rw [if_pos (by simpa using hb)];refine va0 ?_;refine ve4 hS1 rfl (va0 (vf2 ?_)) (hz:=(by decide:2<=va5));rw [nm];refine va1 ⟨vd8 vf1 _,ih (j + 1) _ _ (some (val j,t)) (by omega) (by omega) (W.frame _ _ _ st1 λ a ha o e=>?_) (vc0 _ hS1 rfl) λ r h2 tk2 q k2=>?_⟩
    ·exact (vb2 _ _ (λ h:S=a=>hSf (by rw [h];exact ha))).trans e
    ·refine hR r h2 tk2 ?_ λ a o h h' e=>k2 a o h h' ((vb2 _ _ (vb9 h')).trans (k1 a o h e));show IsD dv (zkk gtI val k (j + 1) (some (if gtI (val j) m=true then val j else m))) r;rw [if_pos (by simpa [gtI] using hb)];exact q
   ·rw [if_neg (by simpa using hb)];refine va0 (vf2 ?_);rw [nm];refine va1 ⟨vd8 vf1 _,ih (j + 1) _ _ (some (m,t')) (by omega) (by omega) st1 hS1 λ r h2 tk2 q k2=>?_⟩;refine hR r h2 tk2 ?_ λ a o h h' e=>k2 a o h h' (k1 a o h e);show IsD dv (zkk gtI val k (j + 1) (some (if gtI (val j) m=true then val j else m))) r;rw [if_neg (by simpa [gtI] using hb)];exact q
theorem qfv (W:Walks prog w A.in1 I fp wr n P St) (val:Nat->Int) (hval:∀ i v,P i v->∃ t,v=.int (val i) t) (S:Addr) (hSf:S∉fp) (dn:Str) (dv:va2):
  ∀ (k j:Nat) (s:va3) (c:Nat) (b:Option (Int×Tok)),n - j=k->j<=n->St j s.heap->s.heap.get? S=some { cls:=.type "list",dict:=none,data:=.seq (qnt b) c,slots:=#[] } ->
  (∀ r h' tk,IsD dv (zkk ltI val k j (b.map (·.1))) r->(∀ a o,a∉wr->a≠S->s.heap.get? a=some o->h'.get? a=some o)->R (.ok (.ret r)) { s with heap:=h',toks:=tk }) ->
  vj9 (vb3 prog w) A (.builtin "min.loop" ⟨[.ref I,.none,.ref S],[(dn,dv)]⟩) R s:=by
 have hSw:S∉wr:=λ h=>hSf (W.sub _ h);have nm:(toString "min" ++ toString ".loop" : String) = "min.loop" := by decide
 intro k;induction k with
 | zero=>
  intro j s c b hk hj hst hS hR;refine vj8 F.entry_min_loop ?_;rw [vg9 vf0 _];show vb1 _ A.in1 (seqItems? (.ref S) >>= _) _ _ s;refine va0 (vh8 hS rfl ?_);show vb1 _ A.in1 (tryCatch (vi2 (.ref I)) _ >>= _) _ _ s;refine va0 (vg6 (W.done s _ _ ((show j=n by omega) ▸ hst) λ h1 tk1 k1=>?_));have hS1:=k1 S _ hSw hS;cases b with
  | none=>exact va0 (wpAny_rule (va1 (hR dv h1 tk1 rfl λ a o h _ e=>k1 a o h e)))
  | some p=>
   obtain ⟨m,t⟩:=p;show vb1 _ A.in1 (vm8 S (λ _=>#[]) >>= _) _ _ _;refine va0 ?_;refine ve4 hS1 rfl (va0 (vf2 (va1 ?_))) (hz:=(by decide:2<=va5));exact hR _ _ _ ⟨t,rfl⟩ λ a o h h' e=>(vb2 _ _ (vb9 h')).trans (k1 a o h e)
 | succ k ih=>
  intro j s c b hk hj hst hS hR;refine vj8 F.entry_min_loop ?_;rw [vg9 vf0 _];show vb1 _ A.in1 (seqItems? (.ref S) >>= _) _ _ s;refine va0 (vh8 hS rfl ?_);show vb1 _ A.in1 (tryCatch (vi2 (.ref I)) _ >>= _) _ _ s;refine va0 (vg6 (W.item j s _ _ (by omega) hst λ v h1 tk1 hP st1 k1=>?_));obtain ⟨t,rfl⟩:=hval j v hP;have hS1:=k1 S _ hSw hS;have up:∀ (ls:Array va2) (c1:Nat),∀ a∈fp,∀ o,h1.get? a=some o->(h1.update S λ o=>{ o with data:=.seq ls c1 }).get? a=some o:=λ ls c1 a ha o e=>(vb2 _ _ (λ h:S=a=>hSf (by rw [h];exact ha))).trans e;cases b with
  | none=>
   show vb1 _ A.in1 (vm8 S (λ _=>#[.int (val j) t,.int (val j) t]) >>= _) _ _ _;refine va0 ?_;refine ve4 hS1 rfl ?_;rw [nm];refine va1 ⟨vd8 vf0 _,ih (j + 1) _ _ (some (val j,t)) (by omega) (by omega) (W.frame _ _ _ st1 λ a ha o e=>?_) (vc0 _ hS1 rfl) λ r h2 tk2 q k2=>?_⟩
   ·exact (vb2 _ _ (λ h:S=a=>hSf (by rw [h];exact ha))).trans e
   ·exact hR r h2 tk2 q λ a o h h' e=>k2 a o h h' ((vb2 _ _ (vb9 h')).trans (k1 a o h e))
  | some p=>
   obtain ⟨m,t'⟩:=p;show vb1 _ A.in1 (tryCatch (vl3 [.int (val j) t,.int (val j) t] (richCompare .Lt (.int (val j) t) (.int m t') >>= _)) _ >>= _) _ _ _;refine va0 (vg6 (vc7 (va0 (CmpOf.ints_lt (P:=λ i v=>∃ t,v=.int (if i=0 then val j else m) t) (λ i=>if i=0 then val j else m) (λ _ _ h=>h) 0 1 _ _ _ _ _ ⟨t,rfl⟩ ⟨t',rfl⟩ ?_))));refine va0 (vc7 (vc1 ?_));refine va0 (vf2 (va1 ?_));by_cases hb:val j < m
   ·rw [if_pos (by simpa using hb)];refine va0 ?_;refine ve4 hS1 rfl (va0 (vf2 ?_)) (hz:=(by decide:2<=va5));rw [nm];refine va1 ⟨vd8 vf0 _,ih (j + 1) _ _ (some (val j,t)) (by omega) (by omega) (W.frame _ _ _ st1 λ a ha o e=>?_) (vc0 _ hS1 rfl) λ r h2 tk2 q k2=>?_⟩
    ·exact (vb2 _ _ (λ h:S=a=>hSf (by rw [h];exact ha))).trans e
    ·refine hR r h2 tk2 ?_ λ a o h h' e=>k2 a o h h' ((vb2 _ _ (vb9 h')).trans (k1 a o h e));show IsD dv (zkk ltI val k (j + 1) (some (if ltI (val j) m=true then val j else m))) r;rw [if_pos (by simpa [ltI] using hb)];exact q
   ·rw [if_neg (by simpa using hb)];refine va0 (vf2 ?_);rw [nm];refine va1 ⟨vd8 vf0 _,ih (j + 1) _ _ (some (m,t')) (by omega) (by omega) st1 hS1 λ r h2 tk2 q k2=>?_⟩;refine hR r h2 tk2 ?_ λ a o h h' e=>k2 a o h h' (k1 a o h e);show IsD dv (zkk ltI val k (j + 1) (some (if ltI (val j) m=true then val j else m))) r;rw [if_neg (by simpa [ltI] using hb)];exact q
theorem qfy (a v:va2):argsOk "max" ⟨[a],[(vb8 "default",v)]⟩:=by unfold argsOk;kernel_rfl
theorem qiq {l:Addr}{xs:Array (Int×Tok)}{dv:va2}{s:va3}{E:va2->va3->Prop}{Q:va2->va3->Prop} (hh:A.handled=none) (hl:s.heap.IsList l (vd9 xs))
  (h:∀ r h' tk,IsD dv (zkk gtI (vk5 xs) xs.size 0 none) r->(∀ b o,s.heap.get? b=some o->h'.get? b=some o)->Q r { s with heap:=h',toks:=tk }):
  vb1 (vb3 prog w) A (call (.builtin "max") [.ref l] [(vb8 "default",dv)]) Q E s:=by
 have nm:(toString "max" ++ toString ".loop" : String) = "max.loop" := by decide
 refine kmb_tree F.kind_max F.plain_max F.entry_max (qfy _ _) ?_;show vb1 _ A.in1 (ve7 "max" ["key","default"] 0 ⟨[],[(vb8 "default",dv)]⟩ >>= _) _ _ s;refine va0 (vm4 (show ve7 "max" ["key","default"] 0 ⟨[],[(vb8 "default",dv)]⟩=pure [none,some dv] from rfl) ?_);refine va0 (va1 ?_);refine va0 (iter_intList hl λ s2 e st hfp hlI=>?_);refine va0 (vb4 ?_);rw [nm];have W:=Walks.list (prog:=prog) (w:=w) (A:=A.in1) hh s.heap.objs.size l hlI (vd9 xs);have hSf:s2.heap.objs.size∉[s.heap.objs.size,l]:=λ hm=>jd8 _ (hfp _ hm);have hsz:(vd9 xs).size=xs.size:=by simp [vd9]
 refine va1 ⟨vd8 vf1 _,qfx W (vk5 xs) (λ _ _=>intItems_at) s2.heap.objs.size hSf _ dv xs.size 0 _ _ none (by rw [hsz];rfl) (jj0 _) (W.frame _ _ _ st λ b _ o e=>va4 _ e) (va7 _ rfl) λ r h' tk q k=>?_⟩;subst e;exact h r h' tk q (old_kept λ b o hb e=>k b o hb (jd1 (va6 e)) (va4 _ e))
theorem qfw (a v:va2):argsOk "min" ⟨[a],[(vb8 "default",v)]⟩:=by unfold argsOk;kernel_rfl
theorem qio {l:Addr}{xs:Array (Int×Tok)}{dv:va2}{s:va3}{E:va2->va3->Prop}{Q:va2->va3->Prop} (hh:A.handled=none) (hl:s.heap.IsList l (vd9 xs))
  (h:∀ r h' tk,IsD dv (zkk ltI (vk5 xs) xs.size 0 none) r->(∀ b o,s.heap.get? b=some o->h'.get? b=some o)->Q r { s with heap:=h',toks:=tk }):
  vb1 (vb3 prog w) A (call (.builtin "min") [.ref l] [(vb8 "default",dv)]) Q E s:=by
 have nm:(toString "min" ++ toString ".loop" : String) = "min.loop" := by decide
 refine kmb_tree F.kind_min F.plain_min F.entry_min (qfw _ _) ?_;show vb1 _ A.in1 (ve7 "min" ["key","default"] 0 ⟨[],[(vb8 "default",dv)]⟩ >>= _) _ _ s;refine va0 (vm4 (show ve7 "min" ["key","default"] 0 ⟨[],[(vb8 "default",dv)]⟩=pure [none,some dv] from rfl) ?_);refine va0 (va1 ?_);refine va0 (iter_intList hl λ s2 e st hfp hlI=>?_);refine va0 (vb4 ?_);rw [nm];have W:=Walks.list (prog:=prog) (w:=w) (A:=A.in1) hh s.heap.objs.size l hlI (vd9 xs);have hSf:s2.heap.objs.size∉[s.heap.objs.size,l]:=λ hm=>jd8 _ (hfp _ hm);have hsz:(vd9 xs).size=xs.size:=by simp [vd9]
 refine va1 ⟨vd8 vf0 _,qfv W (vk5 xs) (λ _ _=>intItems_at) s2.heap.objs.size hSf _ dv xs.size 0 _ _ none (by rw [hsz];rfl) (jj0 _) (W.frame _ _ _ st λ b _ o e=>va4 _ e) (va7 _ rfl) λ r h' tk q k=>?_⟩;subst e;exact h r h' tk q (old_kept λ b o hb e=>k b o hb (jd1 (va6 e)) (va4 _ e))
def zvw (bt:Int->Int->Bool):Int->List Int->Int
 | n,[]=>n
 | n,m::r=>zvw bt (if bt m n=true then m else n) r
theorem qhl {bt:Int->Int->Bool}{zs:List (Int×Tok)}:∀ (l:List (Int×Tok)) (j:Nat) (m:Int),zs.drop j=l->zkk bt (vk5 zs.toArray) l.length j (some m)=some (zvw bt m (l.map (·.1)))
 | [],j,m,h=>rfl
 | z::l,j,m,h=>by
  have hj:j < zs.length:=by
   rcases Nat.lt_or_ge j zs.length with h' | h'
   ·exact h'
   ·rw [jj6 h'] at h;cases h
  have e1:=ji5 hj;rw [h] at e1;have ez:zs[j]=z:=(List.cons.inj e1).1.symm;have en:vk5 zs.toArray j=z.1:=by unfold vk5;simp [hj,ez]
  show zkk bt (vk5 zs.toArray) l.length (j + 1) (some (if bt (vk5 zs.toArray j) m=true then vk5 zs.toArray j else m))=_;rw [en];exact qhl l (j + 1) _ (List.cons.inj e1).2.symm
def zky (bt:Int->Int->Bool):List Int->Option Int
 | []=>none
 | n::r=>some (zvw bt n r)
theorem qnj {bt:Int->Int->Bool}{zs:List (Int×Tok)}:zkk bt (vk5 zs.toArray) zs.length 0 none=zky bt (zs.map (·.1)):=by
 cases zs with
 | nil=>rfl
 | cons z l=>exact qhl (zs:=z::l) l 1 z.1 rfl
end
section
variable {X:Cx}{M:Fm}{f g:Fx}{vs vs':List Nat}{e e2:Expr}{p kp pos:Pos}
def zje (bt:Int->Int->Bool):List (PV×Nat)->Option (PV×Nat)
 | [(.lst xs,_),(.int d,_)]=>match zzj xs with
  | some ns=>some (.int ((zky bt ns).getD d),om)
  | none=>none
 | _=>none
def qez (K:Frag) (bt:Int->Int->Bool):List V->Hp->VK->Prop:=λ ws H Q=>∃ (q:Addr) (ns:List Int) (d:Int),ws=[.ref q,.int d]/\SqL K H q (ns.map V.int)/\Q (.int ((zky bt ns).getD d)) H
theorem qh2 {bt:Int->Int->Bool}{fa:Fa}{σ:St}{H:Hp}{Q:VK} (hK:M.K=X.K) (h:tE M (zqd (zje bt) fa) vs σ H Q):tCB (qez X.K bt) (tL M fa vs) σ H Q:=zzg (λ xs z c ws H fps fp Q ho tm nz zd lf=>by
 unfold zje at ho;split at ho
 ·rename_i xs d1 d d2;split at ho
  ·rename_i ns eb;cases ho;obtain ⟨v,r',f1,f2,rfl,rfl,_,o1,h2⟩:=tm;obtain ⟨v2,r2,f3,f4,rfl,rfl,_,o2,h3⟩:=h2;obtain ⟨rfl,rfl⟩:=h3;rw [Own] at o2;obtain ⟨rfl,rfl⟩:=o2;obtain ⟨q,us,rfl,hs,ol⟩:=(cold (fp:=f1) o1 λ a ha=>nz a (ja8 _ ha)).coldL
   have:=zwx eb ol
   subst this;exact ⟨q,ns,d,rfl,.inl (.inl hs),zwb lf⟩
  ·cases ho
 ·cases ho) h
theorem qlx:PK X [] (tL M aNil []):=λ pos pins s σ H Q I h=>qpb pos pins s σ H Q I (qjz h)
theorem qer {bt:Int->Int->Bool}{pins:List (Addr×Obj)}{s:va3}{σ:St}{H:Hp}{Q:VK}{us ws:List va2}{vs zs:List V}{id:String} (hc:X.calm=true)
  (hrun:∀ {l:Addr}{xs:Array (Int×Tok)}{dv:va2}{s:va3}{Q:va2->va3->Prop},X.A.handled=none->s.heap.IsList l (vd9 xs) ->
   (∀ r h' tk,IsD dv (zkk bt (vk5 xs) xs.size 0 none) r->(∀ b o,s.heap.get? b=some o->h'.get? b=some o)->Q r { s with heap:=h',toks:=tk })->vb1 (vb3 X.prog X.w) X.A (call (.builtin id) [.ref l] [(vb8 "default",dv)]) Q X.xe s)
  (I:Inv X pins σ H s) (rv:Vals vs us) (rz:Vals zs ws) (h1:vs.length=1) (h:qez X.K bt (vs++zs) H Q):vb1 (vb3 X.prog X.w) X.A (call (.builtin id) us ([vb8 "default"].zip ws)) (EP X pins σ Q) X.xe s:=by
 obtain ⟨q,ns,d,ee,hq,k0⟩:=h;obtain ⟨v,rfl⟩:=jm8.mp h1;obtain ⟨rfl,rfl⟩:v=.ref q/\zs=[.int d]:=by simpa using ee
 obtain ⟨u,rfl,rx⟩:=zpu rv;obtain ⟨u2,rfl,rx2⟩:=zpu rz;cases rx;obtain ⟨its,rv2,pl,hz⟩:=I.list hq;obtain ⟨zs,rfl,ez⟩:=zkg rv2;have e:(zs.map λ p=>Value.int p.1 p.2).toArray=vd9 zs.toArray:=by simp [vd9]
 rw [e] at pl;refine hrun (I.ok.hd hc) pl.isList λ r h' tk q k=>?_;have eb:zkk bt (vk5 zs.toArray) zs.toArray.size 0 none=zky bt ns:=by
  rw [<- ez,<- qnj];simp
 rw [eb] at q;cases eo:zky bt ns with
 | none=>
  rw [eo] at q k0;have q':r=u2:=q;subst q';exact ⟨.int d,H,I.kept (t':=tk) k,rx2,k0⟩
 | some m=>
  rw [eo] at q k0;exact ⟨.int m,H,I.kept (t':=tk) k,q,k0⟩
theorem qb4 {bt:Int->Int->Bool}{x:Str}{id:String} (hc:X.calm=true) (hK:M.K=X.K) (hg:Gl X x) (hm:X.mg x=none) (hv:vf6 x=some (.builtin id)) (hn:x ≠ "__name__") (hdb:(x == ("__debug__" : Str))=false) (hms:∀ i∈vs,M.Ms i=false) (hms':∀ i∈vs',M.Ms i=false)
  (hrun:∀ {l:Addr}{xs:Array (Int×Tok)}{dv:va2}{s:va3}{Q:va2->va3->Prop},X.A.handled=none->s.heap.IsList l (vd9 xs) ->
   (∀ r h' tk,IsD dv (zkk bt (vk5 xs) xs.size 0 none) r->(∀ b o,s.heap.get? b=some o->h'.get? b=some o)->Q r { s with heap:=h',toks:=tk })->vb1 (vb3 X.prog X.w) X.A (call (.builtin id) [.ref l] [(vb8 "default",dv)]) Q X.xe s)
  (ha:PE X e (tE M f vs)) (hb:PE X e2 (tE M g vs')) (hs:va9 [e] X.env=[(false,eval e X.env)]):
  PE X (.Call (.Name x p) [e] [⟨some (vb8 "default"),e2,kp⟩] pos) (tE M (zqd (zje bt) (zqa f (zqa g aNil))) (vs++(vs'++[]))):=by
 intro pins s σ H Q I h;have h2:=qap hms (qh2 hK h);refine vg1 (zvr I hg hm hv ?_ hn hdb);have hs':va9 [e] X.env=(false,eval e X.env)::va9 [] X.env:=hs;refine callWith_kw (thn ((zyz ha zhh hs') pos pins s σ H (λ ws H1=>ws.length=1/\tL M (zqa g aNil) (vs'++[]) σ H1 λ xs H2=>qez X.K bt (ws++xs) H2 Q) I ?_) λ us s1 ⟨vs1,H1,I1,r1,l1,q1⟩=>?_) ?_ ?_ ?_ ?_
 ·show tE M f vs σ H λ x H1=>([x]:List V).length=1/\tL M (zqa g aNil) (vs'++[]) σ H1 λ xs H2=>qez X.K bt (x::xs) H2 Q;obtain ⟨ρ,fps,rep,q⟩:=(show tE M f vs σ H λ x H1=>tL M (zqa g aNil) (vs'++[]) σ H1 λ xs H2=>qez X.K bt (x::xs) H2 Q from h2)
  refine ⟨ρ,fps,rep,?_⟩;cases ef:f ρ with
  | no=>rw [ef] at q;exact q
  | exc c=>rw [ef] at q;exact q
  | ok p=>rw [ef] at q;exact λ v H' fps' fp k g r o t=>⟨rfl,q v H' fps' fp k g r o t⟩
 ·refine thn ((qly hb qlx) pos pins s1 σ H1 _ I1 (qap hms' q1)) λ ws s2 ⟨zs,H2,I2,rz,q2⟩=>?_;exact qer hc hrun I2 r1 rz l1 q2
 ·rw [hs];rfl
 ·rw [hs];rfl
 ·rfl
 ·rfl
end
def RawD (h:Heap) (d:Addr) (es:Array vd5) (ep:Nat):Prop:=∃ o,h.get? d=some o/\o.ExactDict/\o.data=.dict es ep
theorem RawD.to {h h':Heap}{d:Addr}{es:Array vd5}{ep:Nat} (x:RawD h d es ep) (k:∀ o,h.get? d=some o->h'.get? d=some o):RawD h' d es ep:=let ⟨o,e,r⟩:=x;⟨o,k o e,r⟩
section
variable {pg:vb0}{wd:vb7}{Ar:vc3}{Er:va2->va3->Prop}{st:va3}{d it:Addr}{es:Array vd5}{ep i:Nat}
theorem RawD.ty (x:RawD st.heap d es ep):st.TypeIs (.ref d) "dict" := let ⟨o,e,c,_⟩:=x;⟨o,e,c.1⟩
theorem qb9 {Qv:va2->va3->Prop} (nm:(d == vd0)=false) (x:RawD st.heap d es ep)
  (q:Qv (.ref st.heap.objs.size) { st with heap:=st.heap.push { cls:=.type "dict_keyiterator",data:=.fields #[.ref d,.int 0 0,.int es.size 0,.int ep 0] } }):
  vb1 (vb3 pg wd) Ar (pyIter (.ref d)) Qv Er st:=by
 obtain ⟨o,e1,c1,e2⟩:=id x;have tD:st.TypeIs (.ref d) "dict" := x.ty;refine wpAny_pyIter_slot tD F.slot_dict_iter (ve2 F.slot_dict_iter tD F.entry_dict_iter ?_ (F.args_dict_iter_1 _));delta vo1.«dict.__iter__»;refine va0 ?_;delta Builtin.Dict.dictSlotNone;refine va0 (vj3 tD (show vb1 _ _ (pure (Value.ref d)) _ _ st from va1 ?_));show vb1 _ _ (ve6 d >>= _) _ _ st;delta ve6;rw [if_neg (by rw [nm];exact jb7)];refine va0 (va1 (va0 (vc5 e1 e2 (va0 (vg0 e1 e2 (va0 (vb4 (va1 ⟨_,rfl,"dict_keyiterator",_,⟨_,va7 _ rfl,rfl⟩,F.slot_dict_keyiterator_next.lookup,?_⟩))))))));simpa [vj6] using q
theorem qia {Qv:Option va2->va3->Prop}{e:vd5} (ki:st.heap.IsKeyIter it d i es.size ep) (x:RawD st.heap d es ep) (hx:es[i]?=some e)
  (q:∀ hp,hp.IsKeyIter it d (i + 1) es.size ep->vh7 it st.heap hp->Qv (some e.key) { st with heap:=hp }):
  vb1 (vb3 pg wd) Ar (vi2 (.ref it)) Qv Er st:=by
 obtain ⟨u,i1,i2,i3⟩:=id ki;obtain ⟨o,e1,c1,e2⟩:=id x;delta vi2;refine va0 (vk8 (vd7 (name:=vb8 "__next__") ki.typeIs ve3 (ve2 ve3 ki.typeIs vm2 ?_ (vl9 _))));refine va0 (va1 (va0 (va0 ?_)))
 first | refine va0 (ve1 ki.typeIs (va1 (va0 (vg7 i1 i3 ?_)))) | refine va0 (vf5 ki.typeIs (va1 (va0 (vg7 i1 i3 ?_))))
 simp only [show vc8 "dict_keyiterator" = false from by decide,je9,if_false];show vb1 _ _ (if (Value.ref d == Value.none)=true then _ else _) _ _ st;have nn:¬ ((Value.ref d == Value.none)=true):=jb7;rw [if_neg nn];refine va0 (va1 (va0 (vc5 e1 e2 ?_)));rw [if_neg (by simp)];refine va0 (va1 (va0 (vg0 e1 e2 ?_)));rw [if_neg (by simp)];refine va1 ?_;have nl:¬ ((i:Int) < 0):=by omega
 simp only [nl,if_false,jc7,hx];refine va0 ?_
 first | refine va0 (ve1 ki.typeIs (va1 (va0 (vj5 ki.typeIs ?_)))) | refine va0 (vf5 ki.typeIs (va1 (va0 (vj5 ki.typeIs ?_))))
 show vb1 _ _ (setField (.ref it) 1 (vj6 ((i:Int) + 1)) >>= _) _ _ st;refine va0 (vk1 i1 i3 (by simp) ?_);have k2:(st.heap.update it (vi8 (·.setIfInBounds 1 (vj6 ((i:Int) + 1))))).IsKeyIter it d (i + 1) es.size ep:=
  ⟨_,vc0 _ i1 (Obj.isFreed_of_fields (vh6 i3 _)),(Obj.cls_mapFields ..).trans i2,by rw [vh6 i3];simp [vj6]⟩
 refine va0 (vc7 (va0 (vj5 (s:={ st with heap:=st.heap.update it (vi8 (·.setIfInBounds 1 (vj6 ((i:Int) + 1)))) }) k2.typeIs ?_)));show vb1 _ _ (pure e.key) _ _ _;exact va1 (va1 ⟨_,rfl,va1 (q _ k2 (vh3 ..))⟩)
end
def kP:Key->PV
 | .inl i=>.int i
 | .inr x=>.str x
def tupK (k:List Key):PV:=.tup (k.map kP)
section
variable {X:Cx}
end
section
variable {K:Frag}{H:Hp}{Z:Addr->Prop}
theorem qcf:∀ (k:List Key),OwnL K H Z (k.map kP) 0 (k.map kV) []
 | []=>by rw [ji1,ji1,OwnL];exact ⟨rfl,rfl⟩
 | k::r=>by
  rw [jc2,jc2,OwnL];refine ⟨_,_,[],[],rfl,rfl,λ _ z=>(nomatch z),?_,qcf r⟩;cases k <;> (show Own K H Z _ 0 _ []) <;> exact ⟨rfl,rfl⟩
end
section
variable {pg:vb0}{wd:vb7}{Ar:vc3}{Er:va2->va3->Prop}{st:va3}{d it:Addr}{es:Array vd5}{ep i:Nat}
theorem qev {Qv:Option va2->va3->Prop} (hd0:Ar.handled=none) (ki:st.heap.IsKeyIter it d i es.size ep) (x:RawD st.heap d es ep) (hge:es.size<=i)
  (q:∀ hp,Heap.ExtBut it st.heap hp->Qv none { st with heap:=hp }):vb1 (vb3 pg wd) Ar (vi2 (.ref it)) Qv Er st:=by
 obtain ⟨u,i1,i2,i3⟩:=id ki;obtain ⟨o,e1,c1,e2⟩:=id x;delta vi2;refine va0 (vk8 (vd7 (name:=vb8 "__next__") ki.typeIs ve3 (ve2 ve3 ki.typeIs vm2 ?_ (vl9 _))));refine va0 (va1 (va0 (va0 ?_)))
 first | refine va0 (ve1 ki.typeIs (va1 (va0 (vg7 i1 i3 ?_)))) | refine va0 (vf5 ki.typeIs (va1 (va0 (vg7 i1 i3 ?_))))
 simp only [show vc8 "dict_keyiterator" = false from by decide,je9,if_false];show vb1 _ _ (if (Value.ref d == Value.none)=true then _ else _) _ _ st;have nn:¬ ((Value.ref d == Value.none)=true):=jb7;rw [if_neg nn];refine va0 (va1 (va0 (vc5 e1 e2 ?_)));rw [if_neg (by simp)];refine va0 (va1 (va0 (vg0 e1 e2 ?_)));rw [if_neg (by simp)];refine va1 ?_;have nl:¬ ((i:Int) < 0):=by omega
 simp only [nl,if_false,jc7,jg7 hge];refine va0 ?_
 first | refine va0 (ve1 ki.typeIs (va1 ?_)) | refine va0 (vf5 ki.typeIs (va1 ?_))
 show vb1 _ _ (setField (.ref it) 0 .none >>= _) _ _ st;refine va0 (vk1 i1 i3 (by simp) ?_);show vb1 _ _ (newExc (.type "StopIteration") [] >>= _) _ _ _;refine va0 ?_;simp only [newExc,newTuple];refine va0 (vb4 (va0 (m:=vk2 _ _) (vm4 (a:=Value.none) (by first | rfl | (simp only [vk2];rfl)) (vb4 ?_ (by size_fits)))) (by size_fits));simp only [raiseNew];refine va0 (wpAny_handled ?_);rw [show Ar.in1.handled=none from hd0];refine va0 (va1 (wpAny_throw (E:=_) ?_));refine va0 (vj0 (b:=true) (T := "StopIteration") ⟨_,va7 _ rfl,rfl⟩ isSubtype_stop ?_);exact va1 (q _ (((vh3 ..).extBut.push _).push _))
theorem zhc {v:Addr}{Qv:va2->va3->Prop} (hv:st.heap.IsValuesView v d) (x:RawD st.heap d es ep)
  (q:Qv (.ref st.heap.objs.size) { st with heap:=st.heap.push { cls:=.type "dict_valueiterator",data:=.fields #[.ref d,.int 0 0,.int es.size 0,.int ep 0] } }):
  vb1 (vb3 pg wd) Ar (pyIter (.ref v)) Qv Er st:=by
 obtain ⟨ov,hov,hcv,hdv⟩:=id hv;obtain ⟨o,e1,c1,e2⟩:=id x;refine wpAny_pyIter_slot hv.typeIs F.slot_dict_values_iter (ve2 F.slot_dict_values_iter hv.typeIs F.entry_dict_values_iter ?_ (F.args_dict_values_iter_1 _));delta vo1.«dict_values.__iter__»;refine va0 (va1 ?_);refine va0 ?_;delta Builtin.Dict_items.dictOf;refine va0 (vm5 hov hdv (x:=.ref d) rfl (va1 ?_));refine va0 ?_;delta Builtin.Dict_items.newIterator;refine va0 (vc5 e1 e2 ?_);refine va0 (vg0 e1 e2 ?_);have hown:vc8 "dict_valueiterator" = false:=by decide
 simp only [hown,je9,if_false];refine vb4 (va1 ⟨_,rfl,"dict_valueiterator",_,⟨_,va7 _ rfl,rfl⟩,F.slot_dict_valueiterator_next.lookup,?_⟩);simpa [vj6] using q
theorem qet {Qv:Option va2->va3->Prop}{e:vd5} (ki:st.heap.IsValIter it d i es.size ep) (x:RawD st.heap d es ep) (hx:es[i]?=some e)
  (q:∀ hp,hp.IsValIter it d (i + 1) es.size ep->vh7 it st.heap hp->Qv (some e.val) { st with heap:=hp }):
  vb1 (vb3 pg wd) Ar (vi2 (.ref it)) Qv Er st:=by
 obtain ⟨u,i1,i2,i3⟩:=id ki;obtain ⟨o,e1,c1,e2⟩:=id x;delta vi2;refine va0 (vk8 (vd7 (name:=vb8 "__next__") ki.typeIs vd6 (ve2 vd6 ki.typeIs vl7 ?_ (vl1 _))));refine va0 (va1 ?_);refine va0 ?_;refine va0 ?_
 first | refine va0 (ve0 ki.typeIs (va1 ?_)) | refine va0 (vf4 ki.typeIs (va1 ?_))
 refine va0 (vg7 i1 i3 ?_);simp only [show vc8 "dict_valueiterator" = false from by decide,je9,if_false];show vb1 _ _ (if (Value.ref d == Value.none)=true then _ else _) _ _ st;rw [if_neg (show ¬ ((Value.ref d == Value.none)=true) from jb7)];refine va0 (va1 ?_);refine va0 (vc5 e1 e2 ?_);rw [if_neg (by simp)];refine va0 (va1 ?_);refine va0 (vg0 e1 e2 ?_);rw [if_neg (by simp)];refine va1 ?_;simp only [show ¬ ((i:Int) < 0) from by omega,if_false,jc7,hx];refine va0 ?_
 first | refine va0 (ve0 ki.typeIs (va1 ?_)) | refine va0 (vf4 ki.typeIs (va1 ?_))
 refine va0 (vj4 ki.typeIs ?_);show vb1 _ _ (setField (.ref it) 1 (vj6 ((i:Int) + 1)) >>= _) _ _ st;refine va0 (vk1 i1 i3 (by simp) ?_);have k2:(st.heap.update it (vi8 (·.setIfInBounds 1 (vj6 ((i:Int) + 1))))).IsValIter it d (i + 1) es.size ep:=
  ⟨_,vc0 _ i1 (Obj.isFreed_of_fields (vh6 i3 _)),(Obj.cls_mapFields ..).trans i2,by rw [vh6 i3];simp [vj6]⟩
 refine va0 (vc7 ?_);refine va0 (vj4 (s:={ st with heap:=st.heap.update it (vi8 (·.setIfInBounds 1 (vj6 ((i:Int) + 1)))) }) k2.typeIs ?_);refine va0 (vj4 (s:={ st with heap:=st.heap.update it (vi8 (·.setIfInBounds 1 (vj6 ((i:Int) + 1)))) }) k2.typeIs ?_);show vb1 _ _ (pure e.val) _ _ _;exact va1 (va1 ⟨_,rfl,va1 (q _ k2 (vh3 ..))⟩)
theorem qeu {Qv:Option va2->va3->Prop} (hd0:Ar.handled=none) (ki:st.heap.IsValIter it d i es.size ep) (x:RawD st.heap d es ep) (hge:es.size<=i)
  (q:∀ hp,Heap.ExtBut it st.heap hp->Qv none { st with heap:=hp }):vb1 (vb3 pg wd) Ar (vi2 (.ref it)) Qv Er st:=by
 obtain ⟨u,i1,i2,i3⟩:=id ki;obtain ⟨o,e1,c1,e2⟩:=id x;delta vi2;refine va0 (vk8 (vd7 (name:=vb8 "__next__") ki.typeIs vd6 (ve2 vd6 ki.typeIs vl7 ?_ (vl1 _))));refine va0 (va1 ?_);refine va0 ?_;refine va0 ?_
 first | refine va0 (ve0 ki.typeIs (va1 ?_)) | refine va0 (vf4 ki.typeIs (va1 ?_))
 refine va0 (vg7 i1 i3 ?_);simp only [show vc8 "dict_valueiterator" = false from by decide,je9,if_false];show vb1 _ _ (if (Value.ref d == Value.none)=true then _ else _) _ _ st;rw [if_neg (show ¬ ((Value.ref d == Value.none)=true) from jb7)];refine va0 (va1 ?_);refine va0 (vc5 e1 e2 ?_);rw [if_neg (by simp)];refine va0 (va1 ?_);refine va0 (vg0 e1 e2 ?_);rw [if_neg (by simp)];refine va1 ?_;simp only [show ¬ ((i:Int) < 0) from by omega,if_false,jc7,jg7 hge];refine va0 ?_
 first | refine va0 (ve0 ki.typeIs (va1 ?_)) | refine va0 (vf4 ki.typeIs (va1 ?_))
 show vb1 _ _ (setField (.ref it) 0 .none >>= _) _ _ st;refine va0 (vk1 i1 i3 (by simp) ?_);show vb1 _ _ (newExc (.type "StopIteration") [] >>= _) _ _ _;refine va0 ?_;simp only [newExc,newTuple];refine va0 (vb4 ?_ (by size_fits));refine va0 (m:=vk2 _ _) (vm4 (a:=Value.none) (by first | rfl | (simp only [vk2];rfl)) ?_);refine vb4 ?_ (by size_fits);simp only [raiseNew];refine va0 (wpAny_handled ?_);rw [show Ar.in1.handled=none from hd0];refine va0 (va1 (wpAny_throw (E:=_) ?_));refine va0 (vj0 (b:=true) (T := "StopIteration") ⟨_,va7 _ rfl,rfl⟩ isSubtype_stop ?_);exact va1 (q _ (((vh3 ..).extBut.push _).push _))
end
def ItK (a:Addr) (o:Obj) (kvs:List (List Key×V)):It:=⟨λ i H=>H a=some (.frz o (.dT kvs))/\i < kvs.length,λ i H v H'=>H'=H/\∃ b p,v=.ref b/\kvs[i]?=some p/\H b=some (.tup (p.1.map kV)),λ i H=>H a=some (.frz o (.dT kvs))/\kvs.length<=i⟩
def ItW (a:Addr) (o:Obj) (kvs:List (List Key×V)):It:=⟨λ i H=>H a=some (.frz o (.dT kvs))/\i < kvs.length,λ i H v H'=>H'=H/\∃ p,v=p.2/\kvs[i]?=some p,λ i H=>H a=some (.frz o (.dT kvs))/\kvs.length<=i⟩
theorem zyy {α β:Type}{R:α->β->Prop}:∀ {xs:List α}{ys:List β},vk9 R xs ys->∀ {i:Nat}{x:α},xs[i]?=some x->∃ y,ys[i]?=some y/\R x y
 | _,_,.nil,i,x,e=>by simp at e
 | _,_,.cons h t,0,x,e=>by simp at e;subst e;exact ⟨_,rfl,h⟩
 | _,_,.cons h t,i + 1,x,e=>by
  rw [je6] at e ⊢;exact zyy t e
theorem zyx {α β:Type}{R:α->β->Prop}:∀ {xs:List α}{ys:List β},vk9 R xs ys->xs.length=ys.length
 | _,_,.nil=>rfl
 | _,_,.cons _ t=>by rw [jb1,jb1,zyx t]
theorem known {X:Cx}{pins:List (Addr×Obj)}{σ:St}{H:Hp}{s:va3}{a:Addr}{o:Obj}{kvs:List (List Key×V)}{es:Array vd5}{ep:Nat} (I:Inv X pins σ H s) (hd:o.data=.dict es ep) (h:H a=some (.frz o (.dT kvs))):
  s.heap.get? a=some o/\o.ExactDict/\es.size=kvs.length/\∀ (i:Nat) (p:List Key×V),kvs[i]?=some p->∃ (e:vd5) (b:Addr),es[i]?=some e/\e.key=.ref b/\H b=some (.tup (p.1.map kV))/\RelV p.2 e.val:=by
 obtain ⟨e0,hz,nm,ys,pr,o',es',ep',e1,c1,d1,l1,nd⟩:=(show zxp X.prog X.w H s.heap a (.frz o (.dT kvs)) from I.hok a _ h)
 cases e0.symm.trans e1;cases hd.symm.trans d1;have hl:es.size=ys.length:=by rw [<- jf4,l1,ja3]
 refine ⟨e0,c1,by rw [hl,zyx pr],λ i p hp=>?_⟩;obtain ⟨q,hq,hk,hb,hv⟩:=zyy pr hp;refine ⟨vk0 (vg2 (zxq X.prog X.w)) q,q.2.1,?_,rfl,hb,hv⟩;rw [<- ji2,l1,jc1,hq];rfl
theorem zgm {P:vb0}{w:vb7}{K:Frag}{tg:Expr}{o:Obj}{kvs:List (List Key×V)}{es:Array vd5}{ep:Nat} (hd:o.data=.dict es ep) (a it:Addr):Turn P w K tg (ItK a o kvs) [it] it (λ i h=>h.IsKeyIter it a i es.size ep) where
 mem:=by simp
 obj:=λ i h st b hb=>by
  have e:b=it:=by simpa using hb
  subst e;obtain ⟨o,e,c,d⟩:=st;exact ⟨o,e,λ v z=>by rw [d] at z;cases z⟩
 keep:=λ i h h' st k=>st.at λ o e=>k it (by simp) o e
 item:=by
  intro X hP hw hK hc i pins s σ H E I hf st hg;subst hP hw hK;obtain ⟨h1,hi⟩:=hg;obtain ⟨e0,c0,sz,at'⟩:=known I hd h1;obtain ⟨f0,f1,f2,f3,f4,f5⟩:=hf it (by simp);have hx:kvs[i]?=some kvs[i]:=jb8 hi;obtain ⟨en,b,he,ek,hb,_⟩:=at' i _ hx;refine qia st ⟨o,e0,c0,hd⟩ he λ hp k2 sb=>?_;have I1:Inv X pins σ H { s with heap:=hp }:=I.turned (t':=s.toks) (λ b o hb e=>(sb.2 b hb).trans e) f0 f1 f3 f4 f5;obtain ⟨o',e,c,d⟩:=id k2;refine ⟨en.key,rfl,qbe (s:={ s with heap:=hp }) e c d (by decide) ⟨.ref b,H,I1,ek,⟨rfl,b,_,rfl,hx,hb⟩,k2,λ b hb=>(hf b hb).1⟩⟩
 done:=by
  intro X hP hw hK hc i pins s σ H E I hf st hg;subst hP hw hK;obtain ⟨h1,hi⟩:=hg;obtain ⟨e0,c0,sz,at'⟩:=known I hd h1;obtain ⟨f0,f1,f2,f3,f4,f5⟩:=hf it (by simp);exact qev (I.ok.hd hc) st ⟨o,e0,c0,hd⟩ (by omega) λ h' eb=>⟨rfl,I.turned (t':=s.toks) (λ b o hb e=>eb b o hb e) f0 f1 f3 f4 f5⟩
 self:=λ _ _ _ _ _ st h=>wpAny_pyIter_keyiter st h
theorem zgl {P:vb0}{w:vb7}{K:Frag}{tg:Expr}{o:Obj}{kvs:List (List Key×V)}{es:Array vd5}{ep:Nat} (hd:o.data=.dict es ep) (a it:Addr):Turn P w K tg (ItW a o kvs) [it] it (λ i h=>h.IsValIter it a i es.size ep) where
 mem:=by simp
 obj:=λ i h st b hb=>by
  have e:b=it:=by simpa using hb
  subst e;obtain ⟨o,e,c,d⟩:=st;exact ⟨o,e,λ v z=>by rw [d] at z;cases z⟩
 keep:=λ i h h' st k=>st.at λ o e=>k it (by simp) o e
 item:=by
  intro X hP hw hK hc i pins s σ H E I hf st hg;subst hP hw hK;obtain ⟨h1,hi⟩:=hg;obtain ⟨e0,c0,sz,at'⟩:=known I hd h1;obtain ⟨f0,f1,f2,f3,f4,f5⟩:=hf it (by simp);have hx:kvs[i]?=some kvs[i]:=jb8 hi;obtain ⟨en,b,he,ek,hb,hv⟩:=at' i _ hx;refine qet st ⟨o,e0,c0,hd⟩ he λ hp k2 sb=>?_;have I1:Inv X pins σ H { s with heap:=hp }:=I.turned (t':=s.toks) (λ b o hb e=>(sb.2 b hb).trans e) f0 f1 f3 f4 f5;obtain ⟨o',e,c,d⟩:=id k2;refine ⟨en.val,rfl,qbe (s:={ s with heap:=hp }) e c d (by decide) ⟨kvs[i].2,H,I1,hv,⟨rfl,_,rfl,hx⟩,k2,λ b hb=>(hf b hb).1⟩⟩
 done:=by
  intro X hP hw hK hc i pins s σ H E I hf st hg;subst hP hw hK;obtain ⟨h1,hi⟩:=hg;obtain ⟨e0,c0,sz,at'⟩:=known I hd h1;obtain ⟨f0,f1,f2,f3,f4,f5⟩:=hf it (by simp);exact qeu (I.ok.hd hc) st ⟨o,e0,c0,hd⟩ (by omega) λ h' eb=>⟨rfl,I.turned (t':=s.toks) (λ b o hb e=>eb b o hb e) f0 f1 f3 f4 f5⟩
 self:=λ _ _ _ _ _ st h=>wpAny_pyIter_valiter st h
section
variable {X:Cx}{pins:List (Addr×Obj)}{σ:St}{H:Hp}{s:va3}{a:Addr}{kvs:List (List Key×V)}{o:Obj}
def zkr (X:Cx) (a:Addr):Prop:=∀ o u,X.H₀ a≠some (.frz o u)
theorem qgs (I:Inv X pins σ H s) (h:H a=some (.dT kvs)):∃ o es ep,s.heap.get? a=some o/\o.ExactDict/\o.data=.dict es ep/\(a == vd0)=false/\Inv X pins σ (upd H a (.frz o (.dT kvs))) s/\zkr X a:=by
 have hO:=(show zxp X.prog X.w H s.heap a (.dT kvs) from I.hok a _ h)
 obtain ⟨hz,nm,ys,pr,o,es,ep,e1,c1,d1,l1,nd⟩:=id hO;have na:∀ b u,H b=some u->u≠.dT kvs->b≠a:=λ b u q n z=>by subst z;rw [h] at q;cases q;exact n rfl
 have nn:∀ b,H b=none->b≠a:=λ b q z=>by subst z;rw [h] at q;cases q
 have tp:∀ b xs,H b=some (.tup xs)->upd H a (.frz o (.dT kvs)) b=some (.tup xs):=λ b xs q=>by rw [zqf (na b _ q (λ z=>nomatch z))];exact q
 refine ⟨o,es,ep,e1,c1,d1,nm,⟨I.ok,I.os,I.bare,⟨I.base.keep,I.base.slot,λ b ob q n hx=>?_,I.base.there,λ b xs q=>tp b xs (I.base.tups b xs q),λ b ob u q=>?_,λ b ps q=>?_⟩,I.loc,I.cell,?_,λ x c q=>?_,λ p hp=>?_,λ b u q=>?_,I.len⟩,λ ob u z=>?_⟩
 ·have:=I.base.free b ob q n hx
  rw [zqf (nn b this)];exact this
 ·have:=I.base.frzs b ob u q
  rw [zqf (na b _ this (λ z=>nomatch z))];exact this
 ·obtain ⟨m,z⟩:=I.base.tbls b ps q;exact ⟨m,by rw [zqf (na b _ z (λ z=>nomatch z))];exact z⟩
 ·rw [zqf (nn _ I.free)];exact I.free
 ·rw [zqf (nn _ (I.freeC x c q))];exact I.freeC x c q
 ·obtain ⟨p1,p2,p3⟩:=I.pin p hp;exact ⟨p1,by rw [zqf (nn _ p2)];exact p2,p3⟩
 ·have stay:∀ {b:Addr}{u:HO},zxp X.prog X.w H s.heap b u->zxp X.prog X.w (upd H a (.frz o (.dT kvs))) s.heap b u:=λ x=>x.stay (λ _ _ _ e=>e) (λ c q=>by rw [zqf (na c _ q (λ z=>nomatch z))];exact q) tp;by_cases hb:b=a
  ·subst hb;rw [zqe] at q;cases q;exact ⟨e1,stay hO⟩
  ·rw [zqf hb] at q;exact stay (I.hok b u q)
 ·have:=I.base.frzs a ob u z
  rw [h] at this;cases this
theorem qd9 (I:Inv X pins σ H s) (h:H a=some (.frz o (.dT kvs))) (hX:zkr X a):Inv X pins σ (upd H a (.dT kvs)) s:=by
 have hO:=(show zxp X.prog X.w H s.heap a (.frz o (.dT kvs)) from I.hok a _ h)
 have na:∀ b u,H b=some u->u≠.frz o (.dT kvs)->b≠a:=λ b u q n z=>by subst z;rw [h] at q;cases q;exact n rfl
 have nn:∀ b,H b=none->b≠a:=λ b q z=>by subst z;rw [h] at q;cases q
 have tp:∀ b xs,H b=some (.tup xs)->upd H a (.dT kvs) b=some (.tup xs):=λ b xs q=>by rw [zqf (na b _ q (λ z=>nomatch z))];exact q
 refine ⟨I.ok,I.os,I.bare,⟨I.base.keep,I.base.slot,λ b ob q n hx=>?_,I.base.there,λ b xs q=>tp b xs (I.base.tups b xs q),λ b ob u q=>?_,λ b ps q=>?_⟩,I.loc,I.cell,?_,λ x c q=>?_,λ p hp=>?_,λ b u q=>?_,I.len⟩
 ·have:=I.base.free b ob q n hx
  rw [zqf (nn b this)];exact this
 ·have:=I.base.frzs b ob u q
  rw [zqf (λ z=>hX ob u (by rw [<- z];exact q))];exact this
 ·obtain ⟨m,z⟩:=I.base.tbls b ps q;exact ⟨m,by rw [zqf (na b _ z (λ z=>nomatch z))];exact z⟩
 ·rw [zqf (nn _ I.free)];exact I.free
 ·rw [zqf (nn _ (I.freeC x c q))];exact I.freeC x c q
 ·obtain ⟨p1,p2,p3⟩:=I.pin p hp;exact ⟨p1,by rw [zqf (nn _ p2)];exact p2,p3⟩
 ·have stay:∀ {b:Addr}{u:HO},zxp X.prog X.w H s.heap b u->zxp X.prog X.w (upd H a (.dT kvs)) s.heap b u:=λ x=>x.stay (λ _ _ _ e=>e) (λ c q=>by rw [zqf (na c _ q (λ z=>nomatch z))];exact q) tp;by_cases hb:b=a
  ·subst hb;rw [zqe] at q;cases q;exact stay hO.2
  ·rw [zqf hb] at q;exact stay (I.hok b u q)
def thaw (X:Cx) (D:Ends):Ends where
 nx:=λ σ H=>D.nx σ H\/∃ a o kvs,H a=some (.frz o (.dT kvs))/\zkr X a/\D.nx σ (upd H a (.dT kvs))
 rt:=λ v H=>D.rt v H\/∃ a o kvs,H a=some (.frz o (.dT kvs))/\zkr X a/\D.rt v (upd H a (.dT kvs))
 bk:=λ σ H=>D.bk σ H\/∃ a o kvs,H a=some (.frz o (.dT kvs))/\zkr X a/\D.bk σ (upd H a (.dT kvs))
 ct:=λ σ H=>D.ct σ H\/∃ a o kvs,H a=some (.frz o (.dT kvs))/\zkr X a/\D.ct σ (upd H a (.dT kvs))
theorem qe2 {st:Stmt}{t:TS} (h:PS X st t):PS X st (λ D σ H=>t (thaw X D) σ H):=by
 intro pins s σ H D I q;refine thn (h pins s σ H (thaw X D) I q) λ f s' z=>?_;cases f with
 | next=>
  obtain ⟨σ',H',I',q | ⟨a,o,kvs,ha,hX,q⟩⟩:=z
  ·exact ⟨σ',H',I',q⟩
  ·exact ⟨σ',_,qd9 I' ha hX,q⟩
 | brk=>
  obtain ⟨σ',H',I',q | ⟨a,o,kvs,ha,hX,q⟩⟩:=z
  ·exact ⟨σ',H',I',q⟩
  ·exact ⟨σ',_,qd9 I' ha hX,q⟩
 | cont=>
  obtain ⟨σ',H',I',q | ⟨a,o,kvs,ha,hX,q⟩⟩:=z
  ·exact ⟨σ',H',I',q⟩
  ·exact ⟨σ',_,qd9 I' ha hX,q⟩
 | ret u=>
  obtain ⟨v,σ',H',I',r,q | ⟨a,o,kvs,ha,hX,q⟩⟩:=z
  ·exact ⟨v,σ',H',I',r,q⟩
  ·exact ⟨v,σ',_,qd9 I' ha hX,r,q⟩
theorem qq9 {st:Stmt}{t u:TS} (h:PS X st t) (h':PS X st u):PS X st (λ D σ H=>t D σ H\/u D σ H):=λ pins s σ H D I q=>q.elim (h pins s σ H D I) (h' pins s σ H D I)
def qmz (X:Cx) (tl:TE):TI:=λ σ H R=>tl σ H λ x H1=>∃ a kvs,x=.ref a/\((H1 a=some (.dT kvs)/\∀ o,zkr X a->R (ItK a o kvs) (upd H1 a (.frz o (.dT kvs))))\/∃ o,H1 a=some (.frz o (.dT kvs))/\R (ItK a o kvs) H1)
theorem qfb {tg l:Expr}{tl:TE} (hl:PE X l tl):PI X tg l (qmz X tl):=by
 intro pins s σ H R I h;refine thn (hl pins s σ H _ I h) λ v s1 ⟨x,H1,I1,r1,q1⟩=>?_;obtain ⟨a,kvs,rfl,⟨ha,q⟩ | ⟨o,ha,q⟩⟩:=q1
 ·cases r1;obtain ⟨o,es,ep,e0,c0,d0,nm,I2,hX⟩:=qgs I1 ha;refine qb9 nm ⟨o,e0,c0,d0⟩ ?_;refine ⟨s1.heap.objs.size,[s1.heap.objs.size],_,_,_,rfl,I2.kept (t':=s1.toks) λ b o e=>va4 _ e,zgm d0 a _,⟨_,va7 _ rfl,rfl,rfl⟩,λ b hb=>?_,q o hX⟩;have e:b=s1.heap.objs.size:=by simpa using hb
  subst e;exact I2.fpOk (ja4 _) (I2.hok.fresh (ja4 _))
 ·cases r1;obtain ⟨e0,hz,nm,ys,pr,o',es,ep,e1,c1,d1,l1,nd⟩:=(show zxp X.prog X.w H1 s1.heap a (.frz o (.dT kvs)) from I1.hok a _ ha)
  cases e0.symm.trans e1;refine qb9 nm ⟨o,e0,c1,d1⟩ ?_;refine ⟨s1.heap.objs.size,[s1.heap.objs.size],_,_,_,rfl,I1.kept (t':=s1.toks) λ b o e=>va4 _ e,zgm d1 a _,⟨_,va7 _ rfl,rfl,rfl⟩,λ b hb=>?_,q⟩;have e:b=s1.heap.objs.size:=by simpa using hb
  subst e;exact I1.fpOk (ja4 _) (I1.hok.fresh (ja4 _))
theorem qdn {pg:vb0}{wd:vb7} (d:Addr) (hd:(d == vd0)=false):
  MeetsIn pg wd (vo1.«dict.values» ⟨[.ref d],[]⟩) (λ _ R s=>s.TypeIs (.ref d) "dict" /\
   R (.ok (.ret (.ref s.heap.objs.size))) { s with heap:=s.heap.push { cls:=.type "dict_values",data:=.fields #[.ref d] } }):=
 .of_wp λ A R s ⟨hm,h⟩=>by
  refine va0 ?_;delta Builtin.Dict.noArgs;refine va0 (vj3 hm ?_);show vb1 _ _ (pure d) _ _ s;refine va1 ?_;show vb1 _ _ (ve6 d >>= _) _ _ s;delta ve6;rw [if_neg (by rw [hd];exact jb7)];refine va0 (va1 ?_);exact va0 (vb4 (va1 ⟨_,rfl,h⟩))
def qnu (to:TE):TE:=λ σ H Q=>to σ H λ x H1=>∃ a kvs,x=.ref a/\Rd H1 a (.dT kvs)/\∀ v,H1 v=none->Q (.ref v) (upd H1 v (.ext λ h=>h.IsValuesView v a))
theorem ql2 {o:Expr}{to:TE}{apos cpos:Pos} (ho:PE X o to) (hbase:attributeBase o "values" X.env (eval o X.env)=eval o X.env:=by rfl) (hline:(apos.endLine == cpos.line)=true:=by rfl):PE X (.Call (.Attribute o "values" apos) [] [] cpos) (qnu to):=by
 intro pins s σ H Q I h;refine wpAny_Call_method0_late hbase hline (thn (ho pins s σ H _ I h) λ v s1 ⟨x,H1,I1,r1,a,kvs,ex,rd,q⟩=>?_);subst ex;cases r1;obtain ⟨hz,nm,ys,pr,ob,es,ep,e1,c1,d1,l1,nd⟩:=(show zxp X.prog X.w H1 s1.heap a (.dT kvs) from Rd.ok rd I1.hok)
 have ty:s1.TypeIs (.ref a) "dict" := ⟨ob,e1,c1.1⟩
 refine ⟨"dict","dict.values",PySem.F.plainAttrs_dict,PySem.F.slot_dict_values,PySem.F.type_dict_values,ty,λ b e=>by cases e;exact ⟨ob,e1,c1.2.1⟩,Calls.callWith_builtin rfl (PySem.evalArgs_none ?_)⟩;refine call_meetsIn PySem.F.slot_dict_values ty PySem.F.entry_dict_values (PySem.F.args_dict_values_1 _) (qdn a nm) ⟨ty,?_⟩;refine ⟨.ref s1.heap.objs.size,_,I1.laid (t':=s1.toks) (λ b o e=>va4 _ e) (ja4 _) ?_,rfl,q _ (I1.hok.fresh (ja4 _))⟩;exact ⟨⟨_,va7 _ rfl,rfl,rfl⟩,⟨_,va7 _ rfl⟩,λ h1 h2 x k=>by obtain ⟨o,e,r⟩:=x;exact ⟨o,k o e,r⟩⟩
def qqi (X:Cx) (tl:TE):TI:=λ σ H R=>tl σ H λ x H1=>∃ v a kvs,x=.ref v/\H1 v=some (.ext λ h=>h.IsValuesView v a)/\((H1 a=some (.dT kvs)/\∀ o,zkr X a->R (ItW a o kvs) (upd H1 a (.frz o (.dT kvs))))\/∃ o,H1 a=some (.frz o (.dT kvs))/\R (ItW a o kvs) H1)
theorem qlz {tg l:Expr}{tl:TE} (hl:PE X l tl):PI X tg l (qqi X tl):=by
 intro pins s σ H R I h;refine thn (hl pins s σ H _ I h) λ v s1 ⟨x,H1,I1,r1,q1⟩=>?_;obtain ⟨vv,a,kvs,rfl,hv,q1⟩:=q1;cases r1;have view:s1.heap.IsValuesView vv a:=(show zxp X.prog X.w H1 s1.heap vv (.ext λ h=>h.IsValuesView vv a) from I1.hok vv _ hv).1;rcases q1 with ⟨ha,q⟩ | ⟨o,ha,q⟩
 ·obtain ⟨o,es,ep,e0,c0,d0,nm,I2,hX⟩:=qgs I1 ha;refine zhc view ⟨o,e0,c0,d0⟩ ?_;refine ⟨s1.heap.objs.size,[s1.heap.objs.size],_,_,_,rfl,I2.kept (t':=s1.toks) λ b o e=>va4 _ e,zgl d0 a _,⟨_,va7 _ rfl,rfl,rfl⟩,λ b hb=>?_,q o hX⟩;have e:b=s1.heap.objs.size:=by simpa using hb
  subst e;exact I2.fpOk (ja4 _) (I2.hok.fresh (ja4 _))
 ·obtain ⟨e0,hz,nm,ys,pr,o',es,ep,e1,c1,d1,l1,nd⟩:=(show zxp X.prog X.w H1 s1.heap a (.frz o (.dT kvs)) from I1.hok a _ ha)
  cases e0.symm.trans e1;refine zhc view ⟨o,e0,c1,d1⟩ ?_;refine ⟨s1.heap.objs.size,[s1.heap.objs.size],_,_,_,rfl,I1.kept (t':=s1.toks) λ b o e=>va4 _ e,zgl d1 a _,⟨_,va7 _ rfl,rfl,rfl⟩,λ b hb=>?_,q⟩;have e:b=s1.heap.objs.size:=by simpa using hb
  subst e;exact I1.fpOk (ja4 _) (I1.hok.fresh (ja4 _))
end
section
variable {K:Frag}{H H':Hp}{Z:Addr->Prop}{a:Addr}{kvs:List (List Key×V)}
theorem qo0 {kvs':List (List Key×V)} (h:Rd H a (.dT kvs)) (h':Rd H a (.dT kvs')):kvs'=kvs:=by
 rcases h with h | ⟨o,h⟩ <;> rcases h' with h' | ⟨o',h'⟩ <;> rw [h] at h' <;> cases h' <;> rfl
theorem qq5 {u:HO} (h:Rd H a (.dT kvs)) (h':H a=some u) (n:u≠.dT kvs) (n2:∀ o,u≠.frz o (.dT kvs)):False:=by
 rcases h with h | ⟨o,h⟩
 ·rw [h] at h';cases h';exact n rfl
 ·rw [h] at h';cases h';exact n2 o rfl
variable (k:∀ b u,H b=some u->b≠a->H' b=some u) (ha:Rd H a (.dT kvs)) (ha':Rd H' a (.dT kvs))
include k ha ha'
theorem qo1 {b:Addr}{kvs':List (List Key×V)} (h:Rd H b (.dT kvs')):Rd H' b (.dT kvs'):=by
 by_cases e:b=a
 ·subst e;rw [qo0 ha h];exact ha'
 ·rcases h with h | ⟨o,h⟩
  ·exact .inl (k b _ h e)
  ·exact .inr ⟨o,k b _ h e⟩
theorem qbo {b:Addr}{u:HO} (h:H b=some u) (n:u≠.dT kvs) (n2:∀ o,u≠.frz o (.dT kvs)):H' b=some u:=k b u h λ e=>by subst e;exact qq5 ha h n n2
mutual
theorem Own.rdAt:∀ (x:PV) (d:Nat) (v:V) (fp:List Addr),a∉fp->Own K H Z x d v fp->Own K H' Z x d v fp
 | .non,_,_,_,_,h=>by rw [Own] at h ⊢;exact h
 | .bl _,_,_,_,_,h=>by rw [Own] at h ⊢;exact h
 | .int _,_,_,_,_,h=>by rw [Own] at h ⊢;exact h
 | .str _,_,_,_,_,h=>by rw [Own] at h ⊢;exact h
 | .emp,_,_,_,_,h=>by
  rw [Own] at h ⊢;obtain ⟨e,b,ev,hb⟩:=h;exact ⟨e,b,ev,qbo k ha ha' hb (λ z=>nomatch z) λ _ z=>nomatch z⟩
 | .dko,_,_,_,_,h=>by
  rw [Own] at h ⊢;obtain ⟨e,b,ev,kk,hb⟩:=h;exact ⟨e,b,ev,kk,qbo k ha ha' hb (λ z=>nomatch z) λ _ z=>nomatch z⟩
 | .scr _,_,_,_,_,h=>by
  rw [Own] at h ⊢;obtain ⟨e,b,ev,⟨o,hb⟩ | hb⟩:=h
  ·exact ⟨e,b,ev,.inl ⟨o,qbo k ha ha' hb (λ z=>nomatch z) λ _ z=>nomatch z⟩⟩
  ·exact ⟨e,b,ev,.inr hb⟩
 | .exn _,_,_,_,_,h=>by
  rw [Own] at h ⊢;obtain ⟨e,b,C,ev,hc,hb⟩:=h;exact ⟨e,b,C,ev,hc,qbo k ha ha' hb (λ z=>nomatch z) λ _ z=>nomatch z⟩
 | .dct kk,d,v,fp,hf,h=>by
  rw [Own] at h ⊢;obtain ⟨b,ev,⟨d0,hr,e⟩ | ⟨d0,hb,e⟩⟩:=h
  ·exact ⟨b,ev,.inl ⟨d0,⟨qo1 k ha ha' hr.1,hr.2⟩,e⟩⟩
  ·exact ⟨b,ev,.inr ⟨d0,k b _ hb λ z=>hf (by rw [e,<- z];exact ja2),e⟩⟩
 | .dcl ks xs,d,v,fp,hf,h=>by
  rw [Own] at h ⊢;obtain ⟨b,vs,ev,en,⟨d0,hr,e,hl⟩ | ⟨d0,f,hb,e,nb,hl⟩⟩:=h
  ·exact ⟨b,vs,ev,en,.inl ⟨d0,⟨qo1 k ha ha' hr.1,hr.2⟩,e,OwnL.rdAt xs 0 vs [] (λ z=>nomatch z) hl⟩⟩
  ·exact ⟨b,vs,ev,en,.inr ⟨d0,f,k b _ hb (λ z=>hf (by rw [e,<- z];exact ja2)),e,nb,OwnL.rdAt xs _ vs f (λ z=>hf (by rw [e];exact ja1 _ z)) hl⟩⟩
 | .lst xs,d,v,fp,hf,h=>by
  rw [Own] at h ⊢;obtain ⟨b,vs,ev,⟨d0,hr,e,hl⟩ | ⟨d0,f,hb,e,nb,hl⟩⟩:=h
  ·exact ⟨b,vs,ev,.inl ⟨d0,⟨qbo k ha ha' hr.1 (λ z=>nomatch z) (λ _ z=>nomatch z),hr.2⟩,e,OwnL.rdAt xs 0 vs [] (λ z=>nomatch z) hl⟩⟩
  ·exact ⟨b,vs,ev,.inr ⟨d0,f,qbo k ha ha' hb (λ z=>nomatch z) (λ _ z=>nomatch z),e,nb,OwnL.rdAt xs _ vs f (λ z=>hf (by rw [e];exact ja1 _ z)) hl⟩⟩
 | .tup xs,d,v,fp,hf,h=>by
  rw [Own] at h ⊢;obtain ⟨b,vs,ev,hr,hl⟩:=h;exact ⟨b,vs,ev,qbo k ha ha' hr (λ z=>nomatch z) (λ _ z=>nomatch z),OwnL.rdAt xs _ vs fp hf hl⟩
theorem OwnL.rdAt:∀ (xs:List PV) (d:Nat) (vs:List V) (fp:List Addr),a∉fp->OwnL K H Z xs d vs fp->OwnL K H' Z xs d vs fp
 | [],_,_,_,_,h=>by rw [OwnL] at h ⊢;exact h
 | x::xs,d,vs,fp,hf,h=>by
  rw [OwnL] at h ⊢;obtain ⟨v,r,f1,f2,e1,e,dj,h1,h2⟩:=h;exact ⟨v,r,f1,f2,e1,e,dj,Own.rdAt x d v f1 (λ z=>hf (by rw [e];exact ja8 _ z)) h1,OwnL.rdAt xs d r f2 (λ z=>hf (by rw [e];exact ja5 _ z)) h2⟩
end
end
section
variable {M:Fm}{ρ:Rho}{σ:St}{H H':Hp}{fps:Fps}{a:Addr}{kvs:List (List Key×V)}
theorem Rep.rdAt (k:∀ b u,H b=some u->b≠a->H' b=some u) (ha:Rd H a (.dT kvs)) (ha':Rd H' a (.dT kvs)) (hn:∀ i,a∉fps i) (r:Rep M ρ σ H fps):Rep M ρ σ H' fps where
 own:=λ i x d e=>let ⟨v,h1,h2⟩:=r.own i x d e;⟨v,h1,Own.rdAt k ha ha' x d v _ (hn i) h2⟩
 non:=r.non
 dj:=r.dj
 zo:=r.zo
 fr:=r.fr
 zd:=λ b z=>by
  by_cases e:b=a
  ·rw [e];exact Rd.ne ha'
  ·cases e2:H b with
   | none=>exact absurd e2 (r.zd b z)
   | some u=>rw [k b u e2 e];simp
 len:=r.len
 msf:=r.msf
 h0:=λ b z=>by
  by_cases e:b=a
  ·rw [e];exact Rd.ne ha'
  ·cases e2:H b with
   | none=>exact absurd e2 (r.h0 b z)
   | some u=>rw [k b u e2 e];simp
 iov:=r.iov
def qch:Rs->Bool
 | .exc _=>false
 | _=>true
theorem RsOk.known {X:Cx}{D:Ends}{o:Obj}{r:Rs} (h:H a=some (.dT kvs)) (hn:∀ i,a∉fps i) (hX:zkr X a) (ne:qch r=true) (q:RsOk M D H fps r):RsOk M (thaw X D) (upd H a (.frz o (.dT kvs))) fps r:=by
 have back:∀ {H':Hp}{fps':Fps},KS M (upd H a (.frz o (.dT kvs))) fps H' fps'->H' a=some (.frz o (.dT kvs))/\KS M H fps (upd H' a (.dT kvs)) fps'/\∀ i,a∉fps' i:=λ {H' fps'} ks=>by
  have h1:H' a=some (.frz o (.dT kvs)):=ks.keep a _ zqe λ ⟨i,z⟩=>hn i z;refine ⟨h1,⟨λ b u hb n=>?_,λ b hb=>?_,λ i b hb=>?_⟩,λ i z=>?_⟩
  ·by_cases e:b=a
   ·rw [e] at hb ⊢;rw [zqe,<- hb,h]
   ·rw [zqf e];exact ks.keep b u (by rw [zqf e];exact hb) n
  ·by_cases e:b=a
   ·rw [e,zqe];simp
   ·rw [zqf e];exact ks.dom b (by rw [zqf e];exact hb)
  ·rcases ks.sub i b hb with z | z
   ·exact .inl z
   ·by_cases e:b=a
    ·rw [e,zqe] at z;cases z
    ·rw [zqf e] at z;exact .inr z
  ·rcases ks.sub i a z with ⟨j,z⟩ | z
   ·exact hn j z
   ·rw [zqe] at z;cases z
 have un:∀ {H':Hp},H' a=some (.frz o (.dT kvs))->∀ b u,H' b=some u->b≠a->upd H' a (.dT kvs) b=some u:=λ _ b u hb e=>by rw [zqf e];exact hb
 cases r with
 | no=>exact q
 | exc c=>cases ne
 | nx ρ'=>exact λ σ' H' fps' ks rep=>let ⟨h1,k2,n2⟩:=back ks;.inr ⟨a,o,kvs,h1,hX,q σ' _ fps' k2 (rep.rdAt (un h1) (.inr ⟨o,h1⟩) (.inl zqe) n2)⟩
 | bk ρ'=>exact λ σ' H' fps' ks rep=>let ⟨h1,k2,n2⟩:=back ks;.inr ⟨a,o,kvs,h1,hX,q σ' _ fps' k2 (rep.rdAt (un h1) (.inr ⟨o,h1⟩) (.inl zqe) n2)⟩
 | ct ρ'=>exact λ σ' H' fps' ks rep=>let ⟨h1,k2,n2⟩:=back ks;.inr ⟨a,o,kvs,h1,hX,q σ' _ fps' k2 (rep.rdAt (un h1) (.inr ⟨o,h1⟩) (.inl zqe) n2)⟩
 | rt x d ρ'=>
  intro v σ' H' fps' fp ks rep own hfp;obtain ⟨h1,k2,n2⟩:=back ks;have nfp:a∉fp:=λ z=>by
   obtain ⟨m,hm⟩:=Own.lsts x d v fp own a z;rw [h1] at hm;cases m <;> cases hm
  exact .inr ⟨a,o,kvs,h1,hX,q v σ' _ fps' fp k2 (rep.rdAt (un h1) (.inr ⟨o,h1⟩) (.inl zqe) n2) (Own.rdAt (un h1) (.inr ⟨o,h1⟩) (.inl zqe) x d v fp nfp own) hfp⟩
theorem RsOk.thaw0 {X:Cx}{D:Ends}{r:Rs} (q:RsOk M D H fps r):RsOk M (thaw X D) H fps r:=by
 cases r with
 | no=>exact q
 | exc c=>exact q
 | nx ρ'=>exact λ σ' H' fps' ks rep=>.inl (q σ' H' fps' ks rep)
 | bk ρ'=>exact λ σ' H' fps' ks rep=>.inl (q σ' H' fps' ks rep)
 | ct ρ'=>exact λ σ' H' fps' ks rep=>.inl (q σ' H' fps' ks rep)
 | rt x d ρ'=>exact λ v σ' H' fps' fp ks rep own hfp=>.inl (q v σ' H' fps' fp ks rep own hfp)
end
def soft (r:Rs):Rs:=if qch r=true then r else .no
def zgx (f:Fx) (vs:List Nat) (asg:PV->Rho->Option Rho) (body:Fs):Fs:=λ ρ=>match f ρ with
 | .ok (.dcl ks _,d,ρ1)=>soft (zwk asg body (ks.map tupK) (zqo d vs ρ1))
 | _=>zji f vs asg body ρ
section
variable {X:Cx}{M:Fm}{ρ ρ':Rho}{σ σ':St}{H H':Hp}{fps fps':Fps}{vs is:List Nat}
theorem qem {D:Ends}{r:Rs} (q:RsOk M D H fps (soft r)):qch r=true/\RsOk M D H fps r:=by
 unfold soft at q;by_cases h:qch r=true
 ·rw [if_pos h] at q;exact ⟨h,q⟩
 ·rw [if_neg h] at q;exact q.elim
theorem zfg {K:Frag}{Z:Addr->Prop}{b:Addr}{k:List Key} (h:H b=some (.tup (k.map kV))):Own K H Z (tupK k) 0 (.ref b) []:=by
 unfold tupK;rw [Own];exact ⟨b,_,rfl,h,by rw [qaw];exact qcf _⟩
theorem zys {ks:List (List Key)}{ws:List V}{i:Nat}{p:List Key×V} (h:(ks.zip ws)[i]?=some p):ks[i]?=some p.1/\ws[i]?=some p.2:=by
 rw [List.getElem?_zip_eq_some] at h;exact h
theorem qk5 {g:TG}{asg:PV->Rho->Option Rho}{body:Fs}{f:Fx}{D:Ends} (hal:∀ i,M.al i=[]) (hv:∀ i∈vs,M.Ms i=false) (hg:GOk M [] is g asg) (hq:tS M (zgx f vs asg body) D σ H):
  tFor (iSeq M.K (tE M f vs)) g (tS M body) D σ H\/tFor (qmz X (tE M f vs)) g (tS M body) (thaw X D) σ H:=by
 obtain ⟨ρ,fps,rep,q⟩:=id hq;unfold zgx at q;split at q
 ·rename_i ks xs d ρ1 ef
  right
  refine ⟨ρ,fps,rep,?_⟩;rw [ef];intro v H1 fps1 f1 k1 g1 rep1 o1 t1;obtain ⟨fps2,k2,r2,o2⟩:=Rep.seen rep k1 g1 rep1 o1 t1 hal hv;obtain ⟨ne,q⟩:=qem q;have q2:=RsOk.from k2 q;obtain ⟨a,ws,rfl,en,hr,nz,ol⟩:=o2.dcl0;have hn:∀ i,a∉fps2 i:=λ i z=>nz (.inr ⟨i,z⟩);have lz:(ks.zip ws).length=(ks.map tupK).length:=by rw [jk8,ja3];have:=ol.length;omega
  refine ⟨a,ks.zip ws,rfl,?_⟩;rcases hr with hr | ⟨o,hr⟩
  ·refine .inl ⟨hr,λ o hX=>?_⟩;have up:∀ b u,H1 b=some u->b≠a->upd H1 a (.frz o (.dT (ks.zip ws))) b=some u:=λ b u hb e=>by rw [zqf e];exact hb
   refine zzn (Pq:=λ H fps=>H a=some (.frz o (.dT (ks.zip ws)))/\∀ i,a∉fps i) (els:=ks.map tupK) hg (λ _ ks p=>?_) (λ {H fps i} p h=>⟨p.1,by rw [lz];exact h⟩) (λ {H fps i} p h=>⟨p.1,by rw [lz];exact h⟩) (λ {ρ σ H fps i x H'} _ p h y=>?_) (r2.rdAt up (.inl hr) (.inr ⟨o,zqe⟩) hn) ⟨zqe,hn⟩ (RsOk.known hr hn hX ne q2)
   ·have e:=ks.keep a _ p.1 λ ⟨i,z⟩=>p.2 i z;refine ⟨e,λ i z=>?_⟩;rcases ks.sub i a z with ⟨j,z⟩ | z
    ·exact p.2 j z
    ·rw [p.1] at z;cases z
   ·obtain ⟨rfl,b,p',rfl,hp,hb⟩:=y;refine ⟨λ _ _ h=>h,tupK p'.1,?_,zfg hb⟩;rw [jc1,(zys hp).1];rfl
  ·refine .inr ⟨o,hr,?_⟩;refine zzn (Pq:=λ H fps=>H a=some (.frz o (.dT (ks.zip ws)))/\∀ i,a∉fps i) (els:=ks.map tupK) hg (λ _ ks p=>?_) (λ {H fps i} p h=>⟨p.1,by rw [lz];exact h⟩) (λ {H fps i} p h=>⟨p.1,by rw [lz];exact h⟩) (λ {ρ σ H fps i x H'} _ p h y=>?_) r2 ⟨hr,hn⟩ q2.thaw0
   ·have e:=ks.keep a _ p.1 λ ⟨i,z⟩=>p.2 i z;refine ⟨e,λ i z=>?_⟩;rcases ks.sub i a z with ⟨j,z⟩ | z
    ·exact p.2 j z
    ·rw [p.1] at z;cases z
   ·obtain ⟨rfl,b,p',rfl,hp,hb⟩:=y;refine ⟨λ _ _ h=>h,tupK p'.1,?_,zfg hb⟩;rw [jc1,(zys hp).1];rfl
 ·left
  exact qao hal hv hg ⟨ρ,fps,rep,q⟩
def qdg (f:Fx) (vs:List Nat) (asg:PV->Rho->Option Rho) (body:Fs):Fs:=λ ρ=>match f ρ with
 | .ok (.dcl _ xs,d,ρ1)=>soft (zwk asg body xs (zqo d vs ρ1))
 | _=>.no
theorem qk4 {g:TG}{asg:PV->Rho->Option Rho}{body:Fs}{f:Fx}{D:Ends} (hal:∀ i,M.al i=[]) (hv:∀ i∈vs,M.Ms i=false) (hg:GOk M [] is g asg) (hq:tS M (qdg f vs asg body) D σ H):
  tFor (qqi X (qnu (tE M f vs))) g (tS M body) (thaw X D) σ H:=by
 obtain ⟨ρ,fps,rep,q⟩:=id hq;unfold qdg at q;split at q
 ·rename_i ks xs d ρ1 ef;refine ⟨ρ,fps,rep,?_⟩;rw [ef];intro v H1 fps1 f1 k1 g1 rep1 o1 t1;obtain ⟨fps2,k2,r2,o2⟩:=Rep.seen rep k1 g1 rep1 o1 t1 hal hv;obtain ⟨ne,q⟩:=qem q;obtain ⟨a,ws,rfl,en,hr,nz,ol⟩:=o2.dcl0;refine ⟨a,ks.zip ws,rfl,hr,λ vw hvw=>?_⟩;have gr:=zxl (o:=.ext λ h=>h.IsValuesView vw a) hvw;have kv:KS M H1 fps2 (upd H1 vw (.ext λ h=>h.IsValuesView vw a)) fps2:=(KD.grow gr).ks;have q2:=RsOk.from (k2.trans kv) q;have r3:=r2.grow gr;have o3:=kv.stay0 r2 o2;obtain ⟨a',ws',ea,en',hr',nz',ol'⟩:=o3.dcl0;cases ea;have hn:∀ i,a∉fps2 i:=λ i z=>nz (.inr ⟨i,z⟩);have lz:(ks.zip ws').length=xs.length:=by rw [jk8];have:=ol'.length;omega
  have va:vw≠a:=λ z=>by rw [z] at hvw;exact Rd.ne hr hvw
  refine ⟨vw,a,ks.zip ws',rfl,zqe,?_⟩;rcases hr' with hr' | ⟨o,hr'⟩
  ·refine .inl ⟨hr',λ o hX=>?_⟩;let H2:=upd H1 vw (.ext λ h=>h.IsValuesView vw a);have up:∀ b u,H2 b=some u->b≠a->upd H2 a (.frz o (.dT (ks.zip ws'))) b=some u:=λ b u hb e=>by rw [zqf e];exact hb
   refine zzn (Pq:=λ H fps=>H a=some (.frz o (.dT (ks.zip ws')))/\(∀ i,a∉fps i)/\OwnL M.K H (Zf M fps) xs 0 ws' []) (els:=xs) hg (λ {ρ σ H fps H' fps'} r ks p=>?_) (λ {H fps i} p h=>⟨p.1,by rw [lz];exact h⟩) (λ {H fps i} p h=>⟨p.1,by rw [lz];exact h⟩) (λ {ρ σ H fps i x H'} _ p h y=>?_) (r3.rdAt up (.inl hr') (.inr ⟨o,zqe⟩) hn) ⟨zqe,hn,OwnL.rdAt up (.inl hr') (.inr ⟨o,zqe⟩) xs 0 ws' [] jf8 ol'⟩ (RsOk.known hr' hn hX ne q2)
   ·have e:=ks.keep a _ p.1 λ ⟨i,z⟩=>p.2.1 i z;refine ⟨e,λ i z=>?_,?_⟩
    ·rcases ks.sub i a z with ⟨j,z⟩ | z
     ·exact p.2.1 j z
     ·rw [p.1] at z;cases z
    ·exact OwnL.move ks.keep (λ b ⟨i,hb⟩=>⟨.inr ⟨i,hb⟩,r.lsts hb⟩) (λ b hb nzb z=>by
      rcases z with z | ⟨i,z⟩
      ·exact nzb (.inl z)
      ·rcases ks.sub i b z with z | z
       ·exact nzb (.inr z)
       ·exact hb z) xs 0 ws' [] (λ _ z=>nomatch z) p.2.2
   ·obtain ⟨rfl,p',rfl,hp⟩:=y;exact ⟨λ _ _ h=>h,p.2.2.get (zys hp).2⟩
  ·refine .inr ⟨o,hr',?_⟩;refine zzn (Pq:=λ H fps=>H a=some (.frz o (.dT (ks.zip ws')))/\(∀ i,a∉fps i)/\OwnL M.K H (Zf M fps) xs 0 ws' []) (els:=xs) hg (λ {ρ σ H fps H' fps'} r ks p=>?_) (λ {H fps i} p h=>⟨p.1,by rw [lz];exact h⟩) (λ {H fps i} p h=>⟨p.1,by rw [lz];exact h⟩) (λ {ρ σ H fps i x H'} _ p h y=>?_) r3 ⟨hr',hn,ol'⟩ q2.thaw0
   ·have e:=ks.keep a _ p.1 λ ⟨i,z⟩=>p.2.1 i z;refine ⟨e,λ i z=>?_,?_⟩
    ·rcases ks.sub i a z with ⟨j,z⟩ | z
     ·exact p.2.1 j z
     ·rw [p.1] at z;cases z
    ·exact OwnL.move ks.keep (λ b ⟨i,hb⟩=>⟨.inr ⟨i,hb⟩,r.lsts hb⟩) (λ b hb nzb z=>by
      rcases z with z | ⟨i,z⟩
      ·exact nzb (.inl z)
      ·rcases ks.sub i b z with z | z
       ·exact nzb (.inr z)
       ·exact hb z) xs 0 ws' [] (λ _ z=>nomatch z) p.2.2
   ·obtain ⟨rfl,p',rfl,hp⟩:=y;exact ⟨λ _ _ h=>h,p.2.2.get (zys hp).2⟩
 ·exact q.elim
end
section
variable {pg:vb0}{wd:vb7}{Ar:vc3}{Er:va2->va3->Prop}{st:va3}{d:Addr}{es:Array vd5}{ep:Nat}
theorem qat {b:Addr}{Qv:Bool->va3->Prop} (hT:st.TypeIs (.ref b) "tuple") (q:Qv false st):vb1 (vb3 pg wd) Ar (Builtin.Dict.quietEq (.ref b)) Qv Er st:=by
 delta Builtin.Dict.quietEq;refine va0 (vj2 hT F.slot_tuple_eq.lookup ?_);exact va1 q
theorem qjl {nm:String}{Qv:Array vd5->va3->Prop} (x:RawD st.heap d es ep) (ht:∀ e∈es.toList,∃ b,e.key=.ref b/\st.TypeIs (.ref b) "tuple") (hh:∀ e∈es.toList,¬ (es.filter (·.hash == e.hash)).size > 1) (q:Qv es st):
  vb1 (vb3 pg wd) Ar (vm3 nm d) Qv Er st:=by
 obtain ⟨o,e1,c1,e2⟩:=id x;delta vm3;refine va0 (vc5 e1 e2 ?_);refine va0 ?_;rw [<- Array.forIn_toList];refine wpAny_forIn_list _ (λ rest _ s'=>s'=st/\∀ e∈rest,e∈es.toList) _ ?_ ?_ _ _ ⟨rfl,λ _ h=>h⟩
 ·rintro e rest b s' ⟨rfl,hr⟩;have he:=hr e ja2;obtain ⟨b',ek,hT⟩:=ht e he;rw [ek];refine va0 (qat hT ?_);rw [if_pos (by decide),if_neg (hh e he)];exact va1 ⟨rfl,λ z hz=>hr z (ja1 _ hz)⟩
 ·rintro b s' ⟨rfl,_⟩;exact va1 q
end
def isI:Key->Bool
 | .inl _=>true
 | .inr _=>false
def qqk:Key->Int
 | .inl i=>hashInt i
 | .inr _=>0
def zpz (k:List Key):Int:=reduceHash (vi0 (k.map qqk))
def dkOk (ks:List (List Key)):Bool:=(ks.all λ k=>k.all isI) && (ks.all λ k=>decide ((ks.filter λ k'=>zpz k' == zpz k).length<=1))
theorem qm0 {P:vb0}{w:vb7}{k:List Key} (h:k.all isI=true):(vg2 (zxq P w)).hash k=zpz k:=by
 show reduceHash (vi0 (k.map (zxq P w).hash))=reduceHash (vi0 (k.map qqk));congr 2;apply jh5;intro x hx
 have:=jb5.mp h x hx
 cases x with
 | inl i=>rfl
 | inr x=>cases this
theorem zmb {pg:vb0}{wd:vb7}{Ar:vc3}{Er:va2->va3->Prop}{st:va3}{d:Addr}{es:Array vd5}{ep:Nat}{Qv:va2->va3->Prop} (nm:(d == vd0)=false) (x:RawD st.heap d es ep) (ne:es.size≠0) (hz:es.size<=va5)
  (ht:∀ e∈es.toList,∃ b,e.key=.ref b/\∀ h':Heap,(∀ o,st.heap.get? b=some o->h'.get? b=some o)->Shared.TypeIs { st with heap:=h' } (.ref b) "tuple") (hh:∀ e∈es.toList,¬ (es.filter (·.hash == e.hash)).size > 1)
  (good:∀ h',(∀ b o,st.heap.get? b=some o->h'.get? b=some o)->(∃ o' ep',h'.get? st.heap.objs.size=some o'/\o'.ExactDict/\o'.data=.dict es ep')->Qv (.ref st.heap.objs.size) { st with heap:=h' }):
  vb1 (vb3 pg wd) Ar (call (.type "dict") [.ref d]) Qv Er st:=by
 refine callType_codes (Q₁:=λ obj s₁=>obj=.ref st.heap.objs.size/\s₁={ st with heap:=st.heap.push { cls:=.type "dict",data:=.dict #[] } }) F.kt_called_dict (F.kt_typeCall_dict_1 _) F.entry_dict_init (kt_code_dict_new _ ⟨rfl,rfl⟩) ?_;rintro obj s₁ ⟨rfl,rfl⟩;obtain ⟨o,e1,c1,e2⟩:=id x;have hl:=va6 e1;have hdo:st.heap.objs.size≠d:=λ e=>by rw [e] at hl;exact jd8 _ hl
 have kp:∀ b ob,st.heap.get? b=some ob->(st.heap.push { cls:=.type "dict",data:=.dict #[] }).get? b=some ob:=λ b ob e=>va4 _ e;have e1':=kp d o e1;have hN:(st.heap.push { cls:=.type "dict",data:=.dict #[] }).get? st.heap.objs.size=some { cls:=.type "dict",data:=.dict #[] }:=va7 _ rfl;have tyN:Shared.TypeIs { st with heap:=st.heap.push { cls:=.type "dict",data:=.dict #[] } } (.ref st.heap.objs.size) "dict" := ⟨_,hN,rfl⟩
 have tyO:Shared.TypeIs { st with heap:=st.heap.push { cls:=.type "dict",data:=.dict #[] } } (.ref d) "dict" := ⟨o,e1',c1.1⟩
 refine ⟨tyN,F.args_dict_init_2 _ _,?_⟩;unfold vo1.«dict.__init__»;refine va0 ?_;unfold Builtin.Dict.selfAndRest;refine va0 (vj3 tyN ?_);show vb1 _ _ (pure (st.heap.objs.size,[Value.ref d])) _ _ _;refine va1 ?_;show vb1 _ _ (Builtin.Dict.updateFrom "dict.__init__" st.heap.objs.size (.ref d) [] .none) _ _ _;unfold Builtin.Dict.updateFrom;refine va0 (wpAny_typeOf tyO ?_);rw [if_neg (by decide)];refine va0 ?_;unfold Builtin.Dict.merge;refine va0 ?_;unfold Builtin.Dict.readDirectly;refine va0 (vj0 tyO isSubtype_dict_dict ?_);simp only [Bool.not_true,je9,if_false];refine va0 (vj2 tyO F.slot_dict_iter.lookup (va1 ?_));simp only [beq_self_eq_true,if_true];refine va0 (va1 ?_);show vb1 _ _ (Builtin.Dict.mergeDict "dict.__init__" st.heap.objs.size d) _ _ _;unfold Builtin.Dict.mergeDict;rw [if_neg (by simpa using hdo)];unfold ve6;rw [if_neg (by rw [nm];exact jb7)];refine va0 (va1 ?_);refine va0 (vc5 e1' e2 ?_);have few:(decide (es.size<=8) && es.all λ e=>(keyPart e.key).isSome)=false:=by
  have:(es.all λ e=>(keyPart e.key).isSome)=false:=by
   rw [jk1];intro h;have hm:es[0]'(by omega)∈es.toList:=by simp
   obtain ⟨b,ek,_⟩:=ht _ hm
   have:=(Array.all_eq_true.mp h) 0 (by omega)
   rw [ek] at this;cases this
  rw [this,jk2]
 dsimp only;rw [few];simp only [Bool.not_false,if_true];refine va0 (vc5 hN rfl ?_);simp only [Array.isEmpty_empty,if_true];refine va0 (qjl (x.to λ o e=>kp d o e) (λ e he=>?_) hh ?_)
 ·obtain ⟨b,ek,hT⟩:=ht e he;exact ⟨b,ek,hT _ λ o e=>kp b o e⟩
 ·have nem:(!es.isEmpty)=true:=by
   cases he:es.isEmpty with
   | false=>rfl
   | true=>exact absurd (by rw [Array.isEmpty_iff.mp he];rfl) ne
  rw [if_pos nem];refine va0 (wpAny_updateDictKeysTo hN rfl (va1 ?_) (by omega));show vb1 _ _ (Builtin.Dict.addKeywords st.heap.objs.size [] >>= _) _ _ _;refine va0 (va1 (va1 ⟨rfl,good _ (λ b ob e=>?_) ⟨_,_,vc0 _ hN (Obj.isFreed_of_dict (Obj.data_mapDictKeys rfl _)),?_,Obj.data_mapDictKeys rfl _⟩⟩))
  ·have hb:=va6 e;rw [vb2 _ _ (jg5 hb)];exact kp b ob e
  ·exact Obj.ExactDict.mapDictKeys ⟨rfl,rfl,rfl⟩ _
theorem zbp {α β:Type}{R S:α->β->Prop}:∀ {xs:List α}{ys:List β},vk9 R xs ys->(∀ x y,R x y->S x y)->vk9 S xs ys
 | _,_,.nil,_=>.nil
 | _,_,.cons h t,f=>.cons (f _ _ h) (zbp t f)
variable {X:Cx}
theorem qhj:zkl X (.type "dict") (λ xs H Q=>∃ a kvs,xs=[.ref a]/\Rd H a (.dT kvs)/\kvs≠[]/\dkOk (kvs.map (·.1))=true/\∀ l,H l=none->Q (.ref l) (upd H l (.dT kvs))):=by
 intro pins s σ H xs us Q I r h;obtain ⟨a,kvs,rfl,rd,ne,dk,q⟩:=h;obtain ⟨u,rfl,rx⟩:=zpu r;cases rx;obtain ⟨hz,nm,ys,pr,o,es,ep,h1,h2,h3,h4,h5⟩:=(show zxp X.prog X.w H s.heap a (.dT kvs) from Rd.ok rd I.hok)
 have ln:kvs.length=ys.length:=zyx pr;have hl:es.size=ys.length:=by rw [<- jf4,h4,ja3]
 have kk:ys.map (·.1)=kvs.map (·.1):=by
  clear h4 h5 ln hl hz dk ne q rd h1 h2 h3;induction pr with
  | nil=>rfl
  | cons x _ ih=>rw [jc2,jc2,ih,x.1]
 unfold dkOk at dk;rw [ja9,jb5,jb5,<- kk] at dk;have hash:∀ y∈ys,(vk0 (vg2 (zxq X.prog X.w)) y).hash=zpz y.1:=λ y hy=>qm0 (dk.1 _ (jd2.mpr ⟨y,hy,rfl⟩));refine zmb nm ⟨o,h1,h2,h3⟩ (λ z=>ne (jf6.mp (by omega))) (by omega) (λ e he=>?_) (λ e he=>?_) λ h' kp ⟨o',ep',e1,c1,d1⟩=>?_
 ·rw [h4] at he;obtain ⟨y,hy,rfl⟩:=jd2.mp he;obtain ⟨i,hi,ei⟩:=jj1 hy;have hk:kvs[i]?=some (kvs[i]'(by omega)):=jb8 _;obtain ⟨y',hy',hp⟩:=zyy pr hk;rw [jb8 hi,ei] at hy';cases hy';obtain ⟨_,its,_,ot,et,ct⟩:=(show zxp X.prog X.w H s.heap y.2.1 (.tup _) from I.hok _ _ hp.2.1)
  exact ⟨y.2.1,rfl,λ h' k=>⟨ot,k ot et,ct.1⟩⟩
 ·rw [h4] at he;obtain ⟨y,hy,rfl⟩:=jd2.mp he;have d2:=of_decide_eq_true (dk.2 _ (jd2.mpr ⟨y,hy,rfl⟩));rw [<- jf4,Array.toList_filter,h4,jk9,ja3];rw [jk9,ja3] at d2;have ef:ys.filter ((λ e:vd5=>e.hash == (vk0 (vg2 (zxq X.prog X.w)) y).hash) ∘ vk0 (vg2 (zxq X.prog X.w)))=ys.filter ((λ k'=>zpz k' == zpz y.1) ∘ λ x=>x.1):=jh3 λ z hz'=>by
   show ((vk0 (vg2 (zxq X.prog X.w)) z).hash == _)=(zpz z.1 == zpz y.1);rw [hash z hz',hash y hy]
  rw [ef];omega
 ·have fr:H s.heap.objs.size=none:=I.hok.fresh (ja4 _);have pr':vk9 (λ (p:List Key×V) (q:List Key×Addr×va2)=>p.1=q.1/\upd H s.heap.objs.size (.dT kvs) q.2.1=some (.tup (p.1.map kV))/\RelV p.2 q.2.2) kvs ys:=by
   have up:∀ b xs,H b=some (.tup xs)->upd H s.heap.objs.size (.dT kvs) b=some (.tup xs):=λ b xs e=>by rw [zqf (zwv e fr)];exact e
   exact zbp pr λ p q x=>⟨x.1,up _ _ x.2.1,x.2.2⟩
  refine ⟨.ref s.heap.objs.size,_,I.laid (t':=s.toks) kp (ja4 _) (show zxp X.prog X.w (upd H s.heap.objs.size (.dT kvs)) h' s.heap.objs.size (.dT kvs) from ⟨hz,?_,ys,pr',o',es,ep',e1,c1,d1,h4,h5⟩),rfl,q _ fr⟩;have big:=Inv.big I;exact beq_false_of_ne (jg5 big)
section
variable {X:Cx}{M:Fm}{ρ:Rho}{σ:St}{H H':Hp}{fps:Fps}{vs:List Nat}{fa:Fa}{Q:VK}{F:List Addr}{e:Expr}{es:List Expr}{p pos:Pos}
theorem qix {ks:List (List Key)}{xs:List PV}{ws:List V} (h:Leaf M H fps vs F (.dcl ks xs) 1 Q) (en:ks.length=xs.length) (o:OwnL M.K H (Zv M vs fps) xs 0 ws []) {p:Addr} (hp:H p=none):Q (.ref p) (upd H p (.dT (ks.zip ws))):=by
 refine h (.ref p) _ [p] (zxl hp) ?_ λ a ha=>.inr (by rw [jb4.mp ha];exact hp);rw [Own];refine ⟨p,ws,rfl,en,.inr ⟨(by decide),[],zqe,rfl,jf8,?_⟩⟩;rw [zmi];exact OwnL.move (S:=λ _=>False) (λ a u ha _=>zxl hp a u ha) (λ _ z=>z.elim) (λ a hd nz z=>z.elim nz λ z=>hd (by rw [jb4.mp z];exact hp)) xs 0 ws [] (λ _ z=>nomatch z) o
def zhj:List (PV×Nat)->Option (PV×Nat)
 | [(.dcl ks xs,_)]=>if dkOk ks=true/\ks≠[] then some (.dcl ks xs,1) else none
 | _=>none
theorem qd0 {ks:List (List Key)}{ws:List V} (h:ks.length=ws.length):(ks.zip ws).map (·.1)=ks:=by
 rw [List.map_fst_zip (by omega)]
theorem qll (hK:M.K=X.K) (hg:Gl X "dict") (hm:X.mg "dict" = none) (ha:PA X (e::es) (tL M fa vs)) (he:va9 (e::es) X.env=(false,eval e X.env)::va9 es X.env) (hpl:(vg4 pos (va9 es X.env)).any (·.1)=false):
  PE X (.Call (.Name "dict" p) (e::es) [] pos) (tE M (zqd zhj fa) vs):=by
 refine zqw (zbo qhj hg hm rfl ha (he:=he) (hpl:=hpl)) λ σ H Q h=>zzg (λ xs z c ws H fps fp Q ho tm nz zd lf=>?_) h;unfold zhj at ho;split at ho
 ·rename_i ks xs d;split at ho
  ·rename_i hk;cases ho;obtain ⟨v,r,f1,f2,rfl,rfl,_,o1,h2⟩:=tm;obtain ⟨rfl,rfl⟩:=h2;obtain ⟨a,us,rfl,en,hr,_,ol⟩:=(cold (fp:=f1) o1 λ a ha=>nz a (ja8 _ ha)).dcl0;have el:ks.length=us.length:=by rw [en,ol.length]
   refine ⟨a,_,rfl,hr,λ z=>hk.2 ?_,by rw [qd0 el];exact hk.1,λ l hl=>qix lf en ol hl⟩
   have:=qd0 el
   rw [z] at this;exact this.symm
  ·cases ho
 ·cases ho
end
def Itd (lo:Int) (n:Nat):It:=⟨λ i _=>i < n,λ i H v H'=>H'=H/\v=.int (lo - (i:Nat)),λ i _=>n<=i⟩
theorem qd6 {P:vb0}{w:vb7}{K:Frag}{tg:Expr} (it:Addr) (lo:Int) (n:Nat):Turn P w K tg (Itd lo n) [it] it (λ i h=>vn9 h it (lo + (i:Nat) * (-1)) ((n:Int) - (i:Nat)) (-1)) where
 mem:=by simp
 obj:=λ i h st b hb=>by
  have e:b=it:=by simpa using hb
  subst e;exact ⟨_,st,λ v z=>by
   have z':Data.fields _=Data.cell v:=z;cases z'⟩
 keep:=λ i h h' st k=>k it (by simp) _ st
 item:=by
  intro X hP hw hK hc i pins s σ H E I hf st hg;subst hP hw hK;obtain ⟨f0,f1,f2,f3,f4,f5⟩:=hf it (by simp);have W:=Walks.range (prog:=X.prog) (w:=X.w) (I.ok.hd hc) it lo (-1) n;refine W.item i s _ _ hg st λ v h' tk hv st' kk=>?_;obtain ⟨t,rfl⟩:=hv;have I1:Inv X pins σ H { s with heap:=h',toks:=tk }:=I.turned (λ b o hb e=>kk b o (by simpa using hb) e) f0 f1 f3 f4 f5;refine ⟨_,rfl,qbe (s:={ s with heap:=h',toks:=tk }) (n := "range_iterator") st' rfl rfl (by decide) ⟨.int (lo - i),H,I1,⟨t,?_⟩,⟨rfl,rfl⟩,st',λ b hb=>(hf b hb).1⟩⟩;rw [show lo + (i:Int) * -1=lo - i by omega]
 done:=by
  intro X hP hw hK hc i pins s σ H E I hf st hg;subst hP hw hK;obtain ⟨f0,f1,f2,f3,f4,f5⟩:=hf it (by simp);exact wpAny_pyNext_range_end (I.ok.hd hc) st (by have:n<=i:=hg;omega) λ h' eb=>⟨rfl,I.turned (t':=s.toks) (λ b o hb e=>eb b o hb e) f0 f1 f3 f4 f5⟩
 self:=λ _ _ _ _ _ st h=>wpAny_pyIter_rangeiter st h
section
variable {X:Cx}{tg:Expr}
theorem qm8 {pins:List (Addr×Obj)}{σ:St}{H:Hp}{s:va3}{R:It->Hp->Prop}{E:va2->va3->Prop}{lo hi:Int}{t u v:Tok}{tk:Nat} (I:Inv X pins σ H s) (h1:-(2 ^ 62)<=lo) (h2:lo < 2 ^ 62) (h3:-(2 ^ 62)<=hi) (h4:hi < 2 ^ 62)
  (q:R (Itd lo (lo - hi).toNat) H):vb1 (vb3 X.prog X.w) X.A (pyIter (.ref s.heap.objs.size)) (PIE X pins σ tg R) E { s with heap:=s.heap.push { cls:=.type "range",data:=.fields #[.int lo t,.int hi u,.int (-1) v] },toks:=tk }:=by
 refine wpAny_pyIter_range (IsRange.new ..) (PySem.W.small_down h1 h2 h3 h4) ?_;have I1:Inv X pins σ H { s with heap:=s.heap.push { cls:=.type "range",data:=.fields #[.int lo t,.int hi u,.int (-1) v] },toks:=tk }:=I.kept λ b o e=>va4 _ e;refine ⟨(s.heap.push { cls:=.type "range",data:=.fields #[.int lo t,.int hi u,.int (-1) v] }).objs.size,[(s.heap.push { cls:=.type "range",data:=.fields #[.int lo t,.int hi u,.int (-1) v] }).objs.size],_,_,H,rfl,
  I1.kept (t':=tk) λ b o e=>va4 _ e,qd6 _ lo (lo - hi).toNat,?_,λ b hb=>?_,q⟩
 ·have e1:lo + ((0:Nat):Int) * (-1)=lo:=by simp
  have e2:(((lo - hi).toNat:Nat):Int) - ((0:Nat):Int)=Builtin.Range.rangeSize lo hi (-1):=by rw [PySem.W.rangeSize_downNat];simp
  show vn9 _ _ (lo + ((0:Nat):Int) * (-1)) ((((lo - hi).toNat:Nat):Int) - ((0:Nat):Int)) (-1);rw [e1,e2];exact va7 _ rfl
 ·have e:b=(s.heap.push { cls:=.type "range",data:=.fields #[.int lo t,.int hi u,.int (-1) v] }).objs.size:=by simpa using hb
  subst e;exact I1.fpOk (ja4 _) (I1.hok.fresh (ja4 _))
def qqj (ta:TA):TI:=λ σ H R=>ta σ H λ vs H1=>∃ i j:Int,vs=[.int i,.int j,.int (-1)]/\(-(2 ^ 40)<=i/\i < 2 ^ 40/\-(2 ^ 40)<=j/\j < 2 ^ 40)/\R (Itd i (i - j).toNat) H1
theorem ql1 {e:Expr}{es:List Expr}{ta:TA}{p pos:Pos} (hg:Gl X "range") (hm:X.mg "range" = none) (ha:PA X (e::es) ta) (he:va9 (e::es) X.env=(false,eval e X.env)::va9 es X.env) (hpl:(vg4 pos (va9 es X.env)).any (·.1)=false):
  PI X tg (.Call (.Name "range" p) (e::es) [] pos) (qqj ta):=by
 intro pins s σ H R I h;refine Call_ (zvr I hg hm boot_range (vb5 (thn (ha pos pins s σ H _ I h) λ us s1 ⟨vs,H1,I1,r1,q1⟩=>?_) he hpl));obtain ⟨i,j,e,⟨q1,q2,q3,q4⟩,q⟩:=q1;subst e;cases r1 with
 | cons r rr=>
  cases rr with
  | cons r' rr=>
   cases rr with
   | cons r'' rr=>
    cases rr;obtain ⟨t,rfl⟩:=r;obtain ⟨t',rfl⟩:=r';obtain ⟨t'',rfl⟩:=r'';exact call_range_3 (by decide) (qm8 I1 (by omega) (by omega) (by omega) (by omega) q) (.inl (PyProof.noPylong_small (by omega)))
end
section
variable {M:Fm}{ρ:Rho}{σ:St}{H:Hp}{fps:Fps}{vs is:List Nat}
def zma (i:Int) (n:Nat):List PV:=(ja7 n).map λ (k:Nat)=>PV.int (i - (k:Int))
def qdw:List (PV×Nat)->Option (Int×Nat)
 | [(.int i,_),(.int j,_),(.int k,_)]=>if k=-1/\-(2 ^ 40)<=i/\i < 2 ^ 40/\-(2 ^ 40)<=j/\j < 2 ^ 40 then some (i,(i - j).toNat) else none
 | _=>none
def zbj (fa:Fa) (asg:PV->Rho->Option Rho) (body:Fs):Fs:=λ ρ=>match fa ρ with
 | .ok (xs,ρ1)=>(match qdw xs with
  | some (i,n)=>zwk asg body (zma i n) ρ1
  | none=>.no)
 | .exc c=>.exc c
 | .no=>.no
theorem qhw {g:TG}{asg:PV->Rho->Option Rho}{body:Fs}{fa:Fa}{D:Ends} (hg:GOk M [] is g asg) (hq:tS M (zbj fa asg body) D σ H):tFor (qqj (tL M fa vs)) g (tS M body) D σ H:=by
 obtain ⟨ρ,fps,rep,q⟩:=hq;refine ⟨ρ,fps,rep,?_⟩;unfold zbj at q;cases ef:fa ρ with
 | no=>rw [ef] at q;exact q
 | exc c=>rw [ef] at q;exact λ H' fps' k=>q _ H' fps' k.ks
 | ok p=>
  obtain ⟨xs,ρ1⟩:=p;rw [ef] at q;intro ws H1 fps1 f1 k1 g1 rep1 o1 t1;dsimp only at q;cases ee:qdw xs with
  | none=>rw [ee] at q;exact q.elim
  | some r=>
   obtain ⟨ii,n⟩:=r;rw [ee] at q;dsimp only at q;unfold qdw at ee;split at ee
   ·rename_i i0 d1 j d2 k d3;split at ee
    ·rename_i hc;cases ee;obtain ⟨rfl,hb⟩:=hc;obtain ⟨v1,r1,fa1,fb1,rfl,rfl,_,h1,h2⟩:=o1;obtain ⟨v2,r2,fa2,fb2,rfl,rfl,_,h3,h4⟩:=h2;obtain ⟨v3,r3,fa3,fb3,rfl,rfl,_,h5,h6⟩:=h4;obtain ⟨rfl,rfl⟩:=h6;rw [Own] at h1 h3 h5;obtain ⟨rfl,_⟩:=h1;obtain ⟨rfl,_⟩:=h3;obtain ⟨rfl,_⟩:=h5;refine ⟨ii,j,rfl,hb,?_⟩;have hl:(zma ii (ii - j).toNat).length=(ii - j).toNat:=by unfold zma;rw [ja3,je8]
     refine zzn (Pq:=λ _ _=>True) (els:=zma ii (ii - j).toNat) hg (λ _ _ _=>trivial) (λ {H fps i} _ h=>by rw [hl] at h;exact h) (λ {H fps i} _ h=>by rw [hl] at h;exact h) (λ {ρ σ H fps i x H'} _ _ h y=>?_) rep1 trivial (RsOk.from k1.ks q);obtain ⟨rfl,rfl⟩:=y;refine ⟨λ _ _ h=>h,.int (ii - (i:Nat)),?_,by rw [Own];exact ⟨rfl,rfl⟩⟩;rw [hl] at h;unfold zma;rw [jc1,jg6 h];rfl
    ·cases ee
   ·cases ee
end
abbrev D2:=Fx×List Nat
def zjb (d:Expr->Option D2):List Expr->Option (Fa×List Nat)
 | []=>some (aNil,[])
 | e::es=>match d e,zjb d es with
  | some (f,v),some (fa,u)=>some (zqa f fa,v++u)
  | _,_=>none
def qcy (d:Expr->Option D2):List Expr->Option D2
 | []=>none
 | [e]=>d e
 | e::es=>match d e,qcy d es with
  | some (f,v),some (g,u)=>some (zzs f g,v++u)
  | _,_=>none
def qjj (d:Expr->Option D2):List Expr->Option D2
 | []=>none
 | [e]=>d e
 | e::es=>match d e,qjj d es with
  | some (f,v),some (g,u)=>some (bOrV f g,v++u)
  | _,_=>none
def denC:Const->Option D2
 | .int i=>some (bC (.int i),[])
 | .bool b=>some (bC (.bl b),[])
 | .none=>some (bC .non,[])
 | .str x=>some (bC (.str x),[])
 | _=>none
def tyOf (x:Str):Option String:=if x = "int" then some "int" else if x = "bool" then some "bool" else if x = "str" then some "str" else if x = "list" then some "list" else if x = "tuple" then some "tuple" else if x = "dict" then some "dict" else none
def qng (x:Str):Option (List (PV×Nat)->Option (PV×Nat)):=
 if x = "len" then some zws else if x = "all" then some zvh else if x = "min" then some zhi else if x = "sum" then some zvg else if x = "tuple" then some zmj else if x = "list" then some zkm else if x = "dict" then some zhj else none
def zwe (scope sc:vd4):vd4:={ scope with names:=scope.names.map λ (n,k)=>if (k == .free && sc.kind == .function && sc.names.lookup n == some .cell) then (n,.cell) else (n,k) }
def junk (i:Nat):Str:=⟨#[2000000 + i]⟩
def zhu (sc':vd4):Nat->List Str->List Str
 | _,[]=>[]
 | i,x::r=>(if zwr sc' x .cell || zwr sc' x .free then x else junk i)::zhu sc' (i + 1) r
def zfk:List Expr->Option (List Str)
 | []=>some []
 | .Name x _::r=>(zfk r).map (x::·)
 | _=>none
def tgA (n:Nat):Expr->Option (List Str×(PV->Rho->Option Rho))
 | .Name x _=>some ([x],asgN n)
 | .Tuple es _ _=>(zfk es).map λ xs=>(xs,asgT (jl0 n xs.length))
 | _=>none
def isTg:Expr->Bool
 | .Tuple _ _ _=>true
 | _=>false
def zqt (S:Sx) (scope:vd4) (xs:List Str) (vI:List Nat):Sx:=⟨zhu (zwe scope S.sc) 0 S.N++xs,zwe scope S.sc,S.ms,(ja7 S.N.length).map S.alF++ja6 xs.length vI,S.Γ,S.Γm,false,S.xc,S.pn⟩
def zpo (S:Sx) (scope:vd4) (xs:List Str) (vI:List Nat):Bool:=
 let S':=zqt S scope xs vI;decide (scope.kind=.function) && scope.names.all (λ x=>x.2 != .free || !(scope.names.contains (x.1,.cell))) && scope.names.all (λ x=>x.2 != .local || scope.names.lookup x.1 == some .local)
 && scope.names.all (λ x=>x.2 != .free || (S.sc.names.lookup x.1 == some .cell || S.sc.names.lookup x.1 == some .free))
 && (ja7 S.N.length).all (λ i=>match S'.N[i]? with
  | some x=>!visB S'.sc x || (decide (S.N[i]?=some x) && visB S.sc x && scope.names.contains (x,.free) && !zwr S'.sc x .local)
  | none=>true)
 && decide S'.N.Nodup && xs.all (λ x=>zwr S'.sc x .local || (zwr S'.sc x .cell && scope.names.contains (x,.cell))) && decide (S.N.length≠0) && (S.ms.all λ i=>decide (i < S.N.length))
inductive Iw where
 | rng (en:List (PV×Nat)->Option (Int×Int)) (fa:Fa) (vs:List Nat)
 | seq (f:Fx) (vs:List Nat)
 | vw (v:Vw) (fa:Fa) (vs:List Nat)
def Iw.vs:Iw->List Nat
 | .rng _ _ _=>[]
 | .seq _ vs=>vs
 | .vw _ _ vs=>vs
def twOk (tg:Expr):Iw->Bool
 | .vw .enm _ _=>isTg tg
 | .vw .zp _ _=>isTg tg
 | _=>true
def denI (d:Expr->Option D2) (S:Sx) (it:Expr):Option Iw:=match it with
 | .Call (.Name x _) [a] [] _=>if x = "range" /\ S.glob "range" = true then (match zjb d [a] with
   | some (fa,vs)=>some (.rng zqu fa vs)
   | none=>none) else if x = "enumerate" /\ S.glob "enumerate" = true then (match zjb d [a] with
   | some (fa,vs)=>some (.vw .enm fa vs)
   | none=>none) else (match d it with
   | some (f,vs)=>some (.seq f vs)
   | none=>none)
 | .Call (.Name x _) [a,b] [] _=>if x = "range" /\ S.glob "range" = true then (match zjb d [a,b] with
   | some (fa,vs)=>some (.rng zph fa vs)
   | none=>none) else if x = "zip" /\ S.glob "zip" = true then (match zjb d [a,b] with
   | some (fa,vs)=>some (.vw .zp fa vs)
   | none=>none) else (match d it with
   | some (f,vs)=>some (.seq f vs)
   | none=>none)
 | _=>match d it with
   | some (f,vs)=>some (.seq f vs)
   | none=>none
def qhn (iw:Iw) (k:Nat) (asg:PV->Rho->Option Rho) (test:Fb) (elt:Fx):Fx:=match iw with
 | .rng en fa _=>zxd en fa k asg test elt
 | .seq f _=>zxa f k asg test elt
 | .vw _ _ _=>λ _=>.no
def zxk:Fb:=λ ρ=>.ok (true,ρ)
def zhx (d:Expr->Option D2):List Expr->Option Fb
 | []=>some zxk
 | [c]=>(d c).map λ p=>bT p.1
 | _=>none
def qke:Expr->Bool
 | .UnaryOp .USub c _=>(match c with
  | .Constant k _ _=>(match k with
   | .int i=>i == 1
   | _=>false)
  | _=>false)
 | _=>false
theorem qqf {e:Expr} (h:qke e=true):∃ k p3 p4,e=.UnaryOp .USub (.Constant (.int 1) k p3) p4:=by
 unfold qke at h;split at h
 ·split at h
  ·split at h
   ·rename_i i
    have:i=1:=eq_of_beq h
    subst this;exact ⟨_,_,_,rfl⟩
   ·cases h
  ·cases h
 ·cases h
def nmE:Expr->Option Str
 | .Name x _=>some x
 | _=>none
theorem qfr {e:Expr}{x:Str} (h:nmE e=some x):∃ p,e=.Name x p:=by
 cases e <;> first | (cases h;exact ⟨_,rfl⟩) | (cases h)
def ixC:Expr->Option Int
 | .Constant c _ _=>(match c with
  | .int i=>some i
  | _=>none)
 | _=>none
theorem qqe {e:Expr}{i:Int} (h:ixC e=some i):∃ k p,e=.Constant (.int i) k p:=by
 unfold ixC at h;split at h
 ·split at h
  ·cases h;exact ⟨_,_,rfl⟩
  ·cases h
 ·cases h
def qkj (d:Sx->Expr->Option D2) (S:Sx) (a:Expr):Option Expr->Option Expr->Option Expr->Option D2
 | none,some hi,none=>match d S a,d S hi with
  | some (f,v),some (g,_)=>some (bSl f none (some g),v)
  | _,_=>none
 | some lo,none,none=>match d S a,d S lo with
  | some (f,v),some (g,_)=>some (bSl f (some g) none,v)
  | _,_=>none
 | _,_,_=>none
def qki (d:Sx->Expr->Option D2) (S:Sx) (a b:Expr):Option D2:=match b with
 | .Slice lo hi st _=>qkj d S a lo hi st
 | b=>match nmE a,ixC b with
  | some x,some i=>(match S.slot x with
   | some j=>if S.msF j=true then none else some (bBin zqc (bVar j) (bC (.int i)),(j::S.alF j)++[])
   | none=>none)
  | _,_=>match d S a,d S b with
   | some (f,v),some (g,u)=>if zbr b=true then some (bBin zqc f g,v++u) else none
   | _,_=>none
def qkm (d:Expr->Option D2) (S:Sx) (e c:Expr):Option D2:=match d e with
 | some (f,v)=>if S.glob "isinstance" = true then (match c with
  | .Name T _=>(match tyOf T with
   | some t=>if S.glob T=true then some (bUn (zfh t) f,v) else none
   | none=>none)
  | _=>none) else none
 | none=>none
def qf3 (x:Str):List Expr->Option Expr
 | [.Call (.Name y _) [a] [] _]=>if x = "list" /\ y = "reversed" then some a else none
 | _=>none
theorem qml {x:Str}{args:List Expr}{a:Expr} (h:qf3 x args=some a):x = "list" /\ ∃ p pos,args=[.Call (.Name "reversed" p) [a] [] pos]:=by
 unfold qf3 at h;split at h
 ·split at h
  ·rename_i hc;cases h;obtain ⟨rfl,rfl⟩:=hc;exact ⟨rfl,_,_,rfl⟩
  ·cases h
 ·cases h
def zzb (d:Sx->Expr->Option D2) (S:Sx):Expr->Option D2
 | .Constant c _ _=>denC c
 | .Name x _=>match S.slot x with
  | some i=>if S.msF i=true then none else some (bVar i,i::S.alF i)
  | none=>none
 | .BinOp a op b _=>match d S a,d S b,qqs b op with
  | some (f,v),some (g,u),some o=>some (bBin o f g,v++u)
  | _,_,_=>none
 | .UnaryOp .USub a _=>match d S a with
  | some (f,v)=>some (bUn zjj f,v)
  | none=>none
 | .UnaryOp .Not a _=>match d S a with
  | some (f,v)=>some (bUn zwo f,v)
  | none=>none
 | .BoolOp .And es _=>qcy (d S) es
 | .BoolOp .Or es _=>qjj (d S) es
 | .IfExp t a b _=>match d S t,d S a,d S b with
  | some (c,_),some (f,v),some (g,u)=>some (bIfE (bT c) f g,v++u)
  | _,_,_=>none
 | .Compare a [op] [b] _=>match d S a,d S b,qjp b op with
  | some (f,v),some (g,u),some o=>some (bBin o f g,v++u)
  | _,_,_=>none
 | .Compare a [op,op'] [b,c] _=>match d S a,d S b,d S c,icmp op,icmp op' with
  | some (f,_),some (g,_),some (h,_),some p,some q=>some (zzl p q f g h,[])
  | _,_,_,_,_=>none
 | .List es _=>match zjb (d S) es with
  | some (fa,v)=>some (zqd zqs fa,v)
  | none=>none
 | .Tuple es _ _=>match zjb (d S) es with
  | some (fa,v)=>some (zqd zxy fa,v)
  | none=>none
 | .Dict [] [] _=>some (bC .emp,[])
 | .Subscript a b _=>qki d S a b
 | .Call (.Name x _) [e] [⟨some k,e2,_⟩] _=>match d S e,d S e2 with
  | some (f,v),some (g,u)=>if k = "default" /\ x = "max" /\ S.glob "max" = true then some (zqd (zje gtI) (zqa f (zqa g aNil)),v++(u++[])) else if k = "default" /\ x = "min" /\ S.glob "min" = true then some (zqd (zje ltI) (zqa f (zqa g aNil)),v++(u++[])) else none
  | _,_=>none
 | .Call (.Name x _) args [] _=>
  if x = "isinstance" then (match args with
   | [e,c]=>qkm (d S) S e c
   | _=>none)
  else match qf3 x args with
  | some a=>(match d S a with
   | some (f,v)=>if S.glob "list" = true/\S.glob "reversed" = true then some (bUn qmf f,v) else none
   | none=>none)
  | none=>match qng x with
  | some o=>(match args with
   | e::es=>(match zjb (d S) (e::es) with
    | some (fa,v)=>if S.glob x=true then some (zqd o fa,v) else none
    | none=>none)
   | []=>none)
  | none=>match S.Γ.lookup x with
   | some (false,_,F)=>(match args with
    | e::es=>(match zjb (d S) (e::es) with
     | some (fa,v)=>if S.glob x=true then some (zqg F fa,v) else none
     | none=>none)
    | []=>none)
   | some (true,_,F)=>none
   | none=>none
 | .ListComp elt [⟨tg,it,ifs,0⟩] scope _=>match tgA S.N.length tg,denI (d S) S it with
  | some (xs,asg),some iw=>if zpo S scope xs iw.vs=true/\twOk tg iw=true then (match zhx (d (zqt S scope xs iw.vs)) ifs,d (zqt S scope xs iw.vs) elt with
   | some t,some (g,vE)=>some (qhn iw xs.length asg t g,iw.vs++vE.filter (λ i=>decide (i < S.N.length)))
   | _,_=>none) else none
  | _,_=>none
 | _=>none
def den:Nat->Sx->Expr->Option D2
 | 0,_,_=>none
 | n + 1,S,e=>zzb (den n) S e
section
variable {X:Cx}{P:vb0}{w:vb7}{K:Frag}{mg:Str->Option va2}{base:Heap}{lvl:Nat}{S:Sx}{Wx:St->Nat->Hp->Prop}{M:Fm}{f g:Fx}{vs vs':List Nat}{σ:St}{H:Hp}{Q:VK}
theorem qk1 {Q:Bool->Hp->Prop} (hq:tT M (bT (zzs f g)) σ H Q):tAnd (tT M (bT f)) (tT M (bT g)) σ H Q:=by
 refine qnz ?_;have e:bT (zzs f g)=bAnd (bT f) (bT g):=by
  funext ρ;unfold bT zzs bAnd;dsimp only;cases f ρ with
  | no=>rfl
  | exc c=>rfl
  | ok p=>
   obtain ⟨x,d,ρ1⟩:=p;cases x with
   | bl b=>cases b <;> rfl
   | _=>rfl
 rw [<- e];exact hq
theorem qnw {Q:Bool->Hp->Prop} (hq:tT M (bT (bOrV f g)) σ H Q):tOr (tT M (bT f)) (tT M (bT g)) σ H Q:=by
 refine qqx ?_;have e:bT (bOrV f g)=bOr (bT f) (bT g):=by
  funext ρ;unfold bT bOrV bOr;dsimp only;cases f ρ with
  | no=>rfl
  | exc c=>rfl
  | ok p=>
   obtain ⟨x,d,ρ1⟩:=p;cases x with
   | bl b=>cases b <;> rfl
   | _=>rfl
 rw [<- e];exact hq
theorem qkz {Q:Bool->Hp->Prop} (hq:tT M (bT (bUn zwo f)) σ H Q):tNot (tT M (bT f)) σ H Q:=by
 refine qnx ?_;have e:bT (bUn zwo f)=bNot (bT f):=by
  funext ρ;unfold bT bUn bNot;dsimp only;cases f ρ with
  | no=>rfl
  | exc c=>rfl
  | ok p=>
   obtain ⟨x,d,ρ1⟩:=p;cases x with
   | bl b=>cases b <;> rfl
   | _=>rfl
 rw [<- e];exact hq
def Good (P:vb0) (w:vb7) (K:Frag) (mg:Str->Option va2) (base:Heap) (lvl:Nat) (S:Sx) (e:Expr) (f:Fx) (vs:List Nat):Prop:=
 (∀ i∈vs,S.msF i=false)/\zbq e=true/\∀ {Wx} X M,XS X P w K mg base lvl S Wx->MS M K S Wx->PE X e (tE M f vs)/\PT X e (tT M (bT f))
theorem MS.v (m:MS M K S Wx) (h:∀ i∈vs,S.msF i=false):∀ i∈vs,M.Ms i=false:=λ i hi=>by rw [m.ms];exact h i hi
theorem MS.k (m:MS M K S Wx) (xs:XS X P w K mg base lvl S Wx):M.K=X.K:=m.K.trans xs.K.symm
theorem zxh {e:Expr} (h1:∀ i∈vs,S.msF i=false) (h2:zbq e=true) (h3:∀ env whole,isTrue e env whole=(do let v<-whole;standAt e.pos;vl3 [v] (truthy v)))
  (h:∀ {Wx} X M,XS X P w K mg base lvl S Wx->MS M K S Wx->PE X e (tE M f vs)):Good P w K mg base lvl S e f vs:=
 ⟨h1,h2,λ X M xs m=>⟨h X M xs m,zmg (qo5 (h X M xs m) λ wh=>h3 _ wh) λ σ H Q q=>qea q⟩⟩
theorem zxb {vs vs':List Nat} (h1:∀ i∈vs,S.msF i=false) (h2:∀ i∈vs',S.msF i=false):∀ i∈vs++vs',S.msF i=false:=λ i hi=>(jd0.mp hi).elim (h1 i) (h2 i)
theorem qi6 {a b:Expr}{op:vo0}{o:PV->Nat->PV->Nat->Option (PV×Nat)}{pos:Pos} (ho:qjp b op=some o) (ga:Good P w K mg base lvl S a f vs) (gb:Good P w K mg base lvl S b g vs'):Good P w K mg base lvl S (.Compare a [op] [b] pos) (bBin o f g) (vs++vs'):=by
 refine ⟨zxb ga.1 gb.1,rfl,λ X M xs m=>?_⟩;obtain ⟨r,hr,hn,hi⟩:=qjo (X:=X) (M:=M) (f:=f) (g:=g) (vs:=vs) (vs':=vs') ho xs.room.units (m.v ga.1) (m.k xs);have ha:=(ga.2.2 X M xs m).1;have hb:=(gb.2.2 X M xs m).1;exact ⟨zqw (ql7 hr ha hb hn) hi,zmg (qlt hr ha hb hn) λ σ H Q q=>hi σ H _ (qea q)⟩
theorem qdu {a b c:Expr}{op op':vo0}{p q:Int->Int->Bool}{h:Fx}{v3:List Nat}{pos:Pos} (h1:icmp op=some p) (h2:icmp op'=some q) (ga:Good P w K mg base lvl S a f vs) (gb:Good P w K mg base lvl S b g vs') (gc:Good P w K mg base lvl S c h v3):Good P w K mg base lvl S (.Compare a [op,op'] [b,c] pos) (zzl p q f g h) []:=by
 refine ⟨λ _ z=>(nomatch z),rfl,λ X M xs m=>?_⟩;have r1:=zht (X:=X) h1;have r2:=zht (X:=X) h2;have ha:=(ga.2.2 X M xs m).1;have hb:=(gb.2.2 X M xs m).1;have hc:=(gc.2.2 X M xs m).1;exact ⟨zqw (qih r1.1 r2.1 ha hb hc (zwi _ r2.2.1 r2.2.2)) λ σ H Q q=>qby q,zmg (qib r1.1 r2.1 ha hb hc (zwi _ r2.2.1 r2.2.2)) λ σ H Q q=>qby (vs:=[]) (qea q)⟩
theorem qi5 {a:Expr}{pos:Pos} (ga:Good P w K mg base lvl S a f vs):Good P w K mg base lvl S (.UnaryOp .Not a pos) (bUn zwo f) vs:=
 ⟨ga.1,rfl,λ X M xs m=>⟨zqw (qph (ga.2.2 X M xs m).1) λ σ H Q q=>qk8 q,zmg (qo6 (ga.2.2 X M xs m).2) λ σ H Q q=>qkz q⟩⟩
theorem zhy {d:Expr->Option D2} (hd:∀ e f vs,d e=some (f,vs)->Good P w K mg base lvl S e f vs) {pos:Pos}:∀ (es:List Expr) (f:Fx) (vs:List Nat),qcy d es=some (f,vs)->(∀ i∈vs,S.msF i=false)/\∀ {Wx} X M,XS X P w K mg base lvl S Wx->MS M K S Wx->PE X (.BoolOp .And es pos) (tE M f vs)/\PW X (.BoolOp .And es pos) (tT M (bT f))
 | [],f,vs,h=>by cases h
 | [e],f,vs,h=>by
  have g:=hd e f vs h;exact ⟨g.1,λ X M xs m=>⟨qj9 (g.2.2 X M xs m).1,qlp (g.2.2 X M xs m).2⟩⟩
 | e::e'::es,f,vs,h=>by
  unfold qcy at h;split at h
  ·rename_i f1 v1 f2 v2 h1 h2;cases h;have g1:=hd e f1 v1 h1;have g2:=zhy hd (pos:=pos) (e'::es) f2 v2 h2;exact ⟨zxb g1.1 g2.1,λ X M xs m=>⟨zqw (qpl (g1.2.2 X M xs m).1 (g2.2 X M xs m).1) λ σ H Q q=>qla q,qj5 (qo4 (g1.2.2 X M xs m).2 (g2.2 X M xs m).2) λ σ H Q q=>qk1 q⟩⟩
  ·cases h
theorem qcx {d:Expr->Option D2} (hd:∀ e f vs,d e=some (f,vs)->Good P w K mg base lvl S e f vs) {pos:Pos}:∀ (es:List Expr) (f:Fx) (vs:List Nat),qjj d es=some (f,vs)->(∀ i∈vs,S.msF i=false)/\∀ {Wx} X M,XS X P w K mg base lvl S Wx->MS M K S Wx->PE X (.BoolOp .Or es pos) (tE M f vs)/\PW X (.BoolOp .Or es pos) (tT M (bT f))
 | [],f,vs,h=>by cases h
 | [e],f,vs,h=>by
  have g:=hd e f vs h;exact ⟨g.1,λ X M xs m=>⟨qj9 (g.2.2 X M xs m).1,qo3 (g.2.2 X M xs m).2⟩⟩
 | e::e'::es,f,vs,h=>by
  unfold qjj at h;split at h
  ·rename_i f1 v1 f2 v2 h1 h2;cases h;have g1:=hd e f1 v1 h1;have g2:=qcx hd (pos:=pos) (e'::es) f2 v2 h2;exact ⟨zxb g1.1 g2.1,λ X M xs m=>⟨zqw (pe_or (g1.2.2 X M xs m).1 (g2.2 X M xs m).1) λ σ H Q q=>qob q,qj5 (qq8 (g1.2.2 X M xs m).2 (g2.2 X M xs m).2) λ σ H Q q=>qnw q⟩⟩
  ·cases h
theorem zwl {d:Expr->Option D2} (hd:∀ e f vs,d e=some (f,vs)->Good P w K mg base lvl S e f vs):∀ (es:List Expr) (fa:Fa) (vs:List Nat),zjb d es=some (fa,vs)->(∀ i∈vs,S.msF i=false)/\es.all zbq=true/\∀ {Wx} X M,XS X P w K mg base lvl S Wx->MS M K S Wx->PA X es (tL M fa vs)
 | [],fa,vs,h=>by cases h;exact ⟨λ _ z=>(nomatch z),rfl,λ X M _ _=>qos⟩
 | e::es,fa,vs,h=>by
  unfold zjb at h;split at h
  ·rename_i f1 v1 f2 v2 h1 h2;cases h;have g1:=hd e f1 v1 h1;have g2:=zwl hd es f2 v2 h2;exact ⟨zxb g1.1 g2.1,by rw [jg9,g1.2.1,g2.2.1];rfl,λ X M xs m=>qlm (m.v g1.1) (g1.2.2 X M xs m).1 (g2.2.2 X M xs m) (zqy (zqn g1.2.1))⟩
  ·cases h
theorem zyv (scope:vd4) (env:Env):vl2 scope env=zwe scope env.scope:=rfl
theorem zku {x:Str}{k:vd2}{sc:vd4}:∀ (l:List (Str×vd2)),(k=.cell\/k=.free)->(l.map λ (n,k)=>if (k == NameKind.free && sc.kind == .function && sc.names.lookup n == some .cell) then (n,NameKind.cell) else (n,k)).lookup x=some k->(x,NameKind.free)∈l\/(x,NameKind.cell)∈l
 | [],_,h=>by simp at h
 | (n,j)::r,hk,h=>by
  rw [jc2] at h;have ih:=zku (x:=x) (k:=k) (sc:=sc) r hk;dsimp only at h;by_cases hj:(j == NameKind.free && sc.kind == .function && sc.names.lookup n == some .cell)=true
  ·rw [if_pos hj,je2] at h;split at h
   ·rename_i hx;rw [ja9,ja9] at hj;have e1:x=n:=eq_of_beq hx;have e2:j=.free:=eq_of_beq hj.1.1;rw [e1,e2];exact .inl ja2
   ·exact (ih h).imp (ja1 _) (ja1 _)
  ·rw [if_neg hj,je2] at h;split at h
   ·rename_i hx;have e1:x=n:=eq_of_beq hx;have e2:j=k:=Option.some.inj h;rcases hk with z | z
    ·rw [e1,e2,z];exact .inr ja2
    ·rw [e1,e2,z];exact .inl ja2
   ·exact (ih h).imp (ja1 _) (ja1 _)
theorem zzq (sc':vd4):∀ (N:List Str) (i:Nat),(zhu sc' i N).length=N.length
 | [],_=>rfl
 | x::r,i=>by rw [zhu,jb1,zzq sc' r (i + 1),jb1]
structure ChkOk (S:Sx) (scope:vd4) (xs:List Str) (vI:List Nat):Prop where
 kind:scope.kind=.function
 dis:∀ x,(x,NameKind.free)∈scope.names->(x,NameKind.cell)∉scope.names
 names:∀ x∈scope.names,x.2=.local->scope.names.lookup x.1=some .local
 free:∀ x∈scope.names,x.2=.free->S.sc.names.lookup x.1=some .cell\/S.sc.names.lookup x.1=some .free
 capt:∀ (i:Nat) (x:Str),i < S.N.length->(zqt S scope xs vI).N[i]?=some x->Vis (zwe scope S.sc) x->S.N[i]?=some x/\Vis S.sc x/\(x,NameKind.free)∈scope.names/\(zwe scope S.sc).names.lookup x≠some .local
 nd:(zqt S scope xs vI).N.Nodup
 loc:∀ x∈xs,(zwe scope S.sc).names.lookup x=some .local\/((zwe scope S.sc).names.lookup x=some .cell/\(x,NameKind.cell)∈scope.names)
 pos:S.N.length≠0
 ms:∀ i∈S.ms,i < S.N.length
theorem qku {sc:vd4}{x:Str} (h:Vis sc x):visB sc x=true:=by
 unfold visB zwr;rcases h with h | h | h <;> rw [h] <;> simp
theorem qhe {scope:vd4}{xs:List Str}{vI:List Nat} (h:zpo S scope xs vI=true):ChkOk S scope xs vI:=by
 unfold zpo at h;simp only [ja9,decide_eq_true_eq,jb5,bne_iff_ne,ne_eq,jf3] at h;obtain ⟨⟨⟨⟨⟨⟨⟨⟨h1,h2⟩,h3⟩,h4⟩,h5⟩,h6⟩,h7⟩,h8⟩,h9⟩:=h;refine ⟨h1,λ x hx hz=>(h2 (x,.free) hx).elim (λ z=>z rfl) λ z=>?_,λ x hx he=>(h3 x hx).elim (λ z=>absurd he z) λ z=>eq_of_beq z,λ x hx he=>(h4 x hx).elim (λ z=>absurd he z) λ z=>z.elim (λ z=>.inl (eq_of_beq z)) λ z=>.inr (eq_of_beq z),λ i x hi e hv=>?_,h6,λ x hx=>(h7 x hx).imp zwh λ z=>⟨zwh z.1,by simpa using z.2⟩,h8,h9⟩
 ·have z':(!(scope.names.contains (x,NameKind.cell)))=true:=z
  have:scope.names.contains (x,NameKind.cell)=true:=by simpa using hz
  rw [this] at z';cases z'
 have q:=h5 i (jc6.mpr hi);rw [e] at q;dsimp only at q;rw [jf3] at q;rcases q with q | q
 ·have:visB (zwe scope S.sc) x=true:=qku hv
  have q':(!visB (zwe scope S.sc) x)=true:=q;rw [this] at q';cases q'
 ·simp only [ja9,decide_eq_true_eq,jp1] at q;obtain ⟨⟨⟨q1,q2⟩,q3⟩,q4⟩:=q;refine ⟨q1,qjv q2,by simpa using q3,λ z=>?_⟩
  have:zwr (zwe scope S.sc) x .local=true:=by unfold zwr;rw [z];simp
  have q4':zwr (zwe scope S.sc) x .local=false:=q4;rw [this] at q4';cases q4'
theorem ChkOk.comp {scope:vd4}{ys:List Str}{vI:List Nat} (c:ChkOk S scope ys vI) (xs:XS X P w K mg base lvl S Wx):CompOk X scope (zqt S scope ys vI).N ys.length where
 kind:=c.kind
 dis:=c.dis
 names:=c.names
 len:=by
  show (zhu _ 0 S.N++ys).length=_;rw [jb0,zzq,xs.N]
 free:=λ x hx he=>by
  show X.env.scope.names.lookup x.1=_\/X.env.scope.names.lookup x.1=_;rw [xs.sc];exact c.free x hx he
 kinds:=λ x h=>by
  rcases h with h | h
  ·exact zku (sc:=X.env.scope) scope.names (.inl rfl) h
  ·exact zku (sc:=X.env.scope) scope.names (.inr rfl) h
 capt:=λ i x hi e hv=>by
  rw [zyv,xs.sc] at hv ⊢;rw [xs.N] at hi ⊢;exact c.capt i x hi e hv
theorem ChkOk.xs {scope:vd4}{ys:List Str}{vI:List Nat} (c:ChkOk S scope ys vI) (xs:XS X P w K mg base lvl S Wx) (s2:va3) (H2:Hp) (C:Addr) (fp:List Addr) (pins:List (Addr×Obj)):XS (zqq X s2 H2 scope C (zqt S scope ys vI).N fp pins) P w K mg base lvl (zqt S scope ys vI) W0:=
 ⟨xs.prog,xs.w,xs.K,xs.mg,xs.base,rfl,by show vl2 scope X.env=_;rw [zyv,xs.sc];rfl,xs.calm,xs.room,PassesOwn.never,qpm,λ h=>nomatch h⟩
theorem zjy {scope:vd4}{ys:List Str}{vI:List Nat} (i:Nat):(zqt S scope ys vI).alF i=if i < S.N.length then S.alF i else if i < S.N.length + ys.length then vI else []:=by
 unfold Sx.alF zqt;dsimp only;rw [ja0];by_cases h:i < S.N.length
 ·rw [jb3 (by simpa using h),if_pos h];simp [h,Sx.alF,ja0]
 ·rw [jc8 (by simpa using h),if_neg h,jd3];simp only [ja3,je8];by_cases h2:i < S.N.length + ys.length
  ·rw [if_pos h2,if_pos (by omega)];rfl
  ·rw [if_neg h2,if_neg (by omega)];rfl
theorem ChkOk.ms' {scope:vd4}{ys:List Str}{vI:List Nat} (c:ChkOk S scope ys vI) (m:MS M K S Wx) (hv:∀ i∈vI,S.msF i=false) (D:Addr):MS (M.comp D S.N.length vI) K (zqt S scope ys vI) W0 where
 W:=rfl
 K:=m.K
 ms:=m.ms
 al:=λ i hi=>by
  rw [zjy];show (if i < S.N.length then M.al i else vI)=_;have hl:(zqt S scope ys vI).N.length=S.N.length + ys.length:=by
   show (zhu _ 0 S.N++ys).length=_;rw [jb0,zzq]
  rw [hl] at hi;by_cases h:i < S.N.length
  ·rw [if_pos h,if_pos h];exact m.al i h
  ·rw [if_neg h,if_neg h,if_pos hi]
 pn:=λ p hp=>by
  have h:=m.pn p hp;show p.1 < (zhu _ 0 S.N++ys).length;rw [jb0,zzq];omega
 als:=λ i j hj=>by
  have hj':j∈(if i < S.N.length then M.al i else vI):=hj;show M.Ms j=false;by_cases h:i < S.N.length
  ·rw [if_pos h] at hj';exact m.als i j hj'
  ·rw [if_neg h] at hj';rw [m.ms];exact hv j hj'
theorem zvt {n:Nat}{iter:Expr}{env:Env}{f:Fx}{vs:List Nat} (h:(∀ a b c,iter≠.Set a b c)):∀ x,vi3 iter env x=pure x:=by
 intro x;cases iter with
 | Set a b c=>exact absurd rfl (h a b c)
 | _=>rfl
end
section
variable {X:Cx}{P:vb0}{w:vb7}{K:Frag}{mg:Str->Option va2}{base:Heap}{lvl:Nat}{S:Sx}{Wx:St->Nat->Hp->Prop}{M:Fm}{f g:Fx}{vs vs':List Nat}{σ:St}{H:Hp}{Q:VK}
theorem qkv {T:Str}{t:String} (h:tyOf T=some t):t∈isiT/\T∈zkq/\vf6 T=some (.type t)/\(T == ("__debug__" : Str))=false/\T ≠ "__name__" := by
 unfold tyOf at h;split at h
 ·rename_i e;cases h;rw [e];exact ⟨by decide,by decide +kernel,rfl,by decide +kernel,by decide +kernel⟩
 ·split at h
  ·rename_i e;cases h;rw [e];exact ⟨by decide,by decide +kernel,rfl,by decide +kernel,by decide +kernel⟩
  ·split at h
   ·rename_i e;cases h;rw [e];exact ⟨by decide,by decide +kernel,rfl,by decide +kernel,by decide +kernel⟩
   ·split at h
    ·rename_i e;cases h;rw [e];exact ⟨by decide,by decide +kernel,rfl,by decide +kernel,by decide +kernel⟩
    ·split at h
     ·rename_i e;cases h;rw [e];exact ⟨by decide,by decide +kernel,rfl,by decide +kernel,by decide +kernel⟩
     ·split at h
      ·rename_i e;cases h;rw [e];exact ⟨by decide,by decide +kernel,rfl,by decide +kernel,by decide +kernel⟩
      ·cases h
theorem qop {x:Str}{o:List (PV×Nat)->Option (PV×Nat)}{e:Expr}{es:List Expr}{fa:Fa}{p pos:Pos} (h:qng x=some o) (xs:XS X P w K mg base lvl S Wx) (m:MS M K S Wx) (hb:∀ x∈zkq,mg x=none) (hg:S.glob x=true) (hs:(e::es).all zbq=true) (ha:PA X (e::es) (tL M fa vs)):
  PE X (.Call (.Name x p) (e::es) [] pos) (tE M (zqd o fa) vs):=by
 rw [jg9,ja9] at hs;have h1:va9 (e::es) X.env=(false,eval e X.env)::va9 es X.env:=zqy (zqn hs.1);have h2:(vg4 pos (va9 es X.env)).any (·.1)=false:=zjp hs.2;have hm:∀ x∈zkq,X.mg x=none:=λ x hx=>by rw [xs.mg];exact hb x hx
 unfold qng at h;split at h
 ·rename_i ex;cases h;subst ex;exact qok (m.k xs) (xs.gl hg) (hm _ (by decide +kernel)) ha h1 h2
 ·split at h
  ·rename_i ex;cases h;subst ex;exact qoq xs.calm (xs.gl hg) (hm _ (by decide +kernel)) ha h1 h2
  ·split at h
   ·rename_i ex;cases h;subst ex;exact qlg xs.calm (xs.gl hg) (hm _ (by decide +kernel)) ha h1 h2
   ·split at h
    ·rename_i ex;cases h;subst ex;exact qlf xs.calm (xs.gl hg) (hm _ (by decide +kernel)) ha h1 h2
    ·split at h
     ·rename_i ex;cases h;subst ex;exact qle (m.k xs) (xs.gl hg) (hm _ (by decide +kernel)) ha h1 h2
     ·split at h
      ·rename_i ex;cases h;subst ex;exact qli (m.k xs) (xs.gl hg) (hm _ (by decide +kernel)) ha h1 h2
      ·split at h
       ·rename_i ex;cases h;subst ex;exact qll (m.k xs) (xs.gl hg) (hm _ (by decide +kernel)) ha h1 h2
       ·cases h
def IwOk (P:vb0) (w:vb7) (K:Frag) (mg:Str->Option va2) (base:Heap) (lvl:Nat) (S:Sx) (it:Expr) (iw:Iw):Prop:=
 (∀ i∈iw.vs,S.msF i=false)/\(∀ a b c,it≠.Set a b c)/\∀ {Wx} X M,XS X P w K mg base lvl S Wx->MS M K S Wx->∀ tg,(match iw with
  | .rng en fa vs=>(en=zqu/\PI X tg it (qi1 (tL M fa vs)))\/(en=zph/\PI X tg it (qi0 (tL M fa vs)))
  | .seq f vs=>PI X tg it (iSeq M.K (tE M f vs))
  | .vw v fa vs=>twOk tg (.vw v fa vs)=true->PI X tg it (iVw v M.K (tL M fa vs)))
theorem qct {it:Expr} (g:Good P w K mg base lvl S it f vs) (hs:∀ a b c,it≠.Set a b c):IwOk P w K mg base lvl S it (.seq f vs):=
 ⟨g.1,hs,λ X M xs m tg=>by
  show PI X tg it (iSeq M.K (tE M f vs));rw [m.k xs];exact qj8 (g.2.2 X M xs m).1⟩
theorem zft {d:Expr->Option D2} (hd:∀ e f vs,d e=some (f,vs)->Good P w K mg base lvl S e f vs) (hset:∀ a b c,d (.Set a b c)=none) (hb:∀ x∈zkq,mg x=none) {it:Expr}{iw:Iw} (h:denI d S it=some iw):IwOk P w K mg base lvl S it iw:=by
 have seq:∀ {it:Expr}{iw:Iw},(match d it with
   | some (f,vs)=>some (Iw.seq f vs)
   | none=>none)=some iw->IwOk P w K mg base lvl S it iw:=λ {it iw} h=>by
  cases e:d it with
  | none=>rw [e] at h;cases h
  | some p=>
   obtain ⟨f,vs⟩:=p;rw [e] at h;cases h;exact qct (hd _ _ _ e) λ a b c z=>by rw [z,hset] at e;cases e
 unfold denI at h;split at h
 ·rename_i x p a pos;split at h
  ·rename_i hc;obtain ⟨rfl,hg⟩:=hc;split at h
   ·rename_i fa vs e;cases h;have g:=zwl hd _ _ _ e;refine ⟨λ _ z=>(nomatch z),λ _ _ _ z=>(nomatch z),λ X M xs m tg=>.inl ⟨rfl,?_⟩⟩;have hs:=g.2.1;simp only [jg9,jn2,jj4] at hs;exact qfa (xs.gl hg) (by rw [xs.mg];exact hb _ (by decide +kernel)) (g.2.2 X M xs m) (zqy (zqn hs))
   ·cases h
  ·split at h
   ·rename_i hc;obtain ⟨rfl,hg⟩:=hc;split at h
    ·rename_i fa vs e;cases h;have g:=zwl hd _ _ _ e;refine ⟨g.1,λ _ _ _ z=>(nomatch z),λ X M xs m tg ht=>?_⟩;have hs:=g.2.1;simp only [jg9,jn2,jj4] at hs;rw [m.k xs];cases tg with
     | Tuple es k tp=>exact ql0 (xs.gl hg) (by rw [xs.mg];exact hb _ (by decide +kernel)) (g.2.2 X M xs m) (zqy (zqn hs))
     | _=>cases ht
    ·cases h
   ·exact seq h
 ·rename_i x p a b pos;split at h
  ·rename_i hc;obtain ⟨rfl,hg⟩:=hc;split at h
   ·rename_i fa vs e;cases h;have g:=zwl hd _ _ _ e;refine ⟨λ _ z=>(nomatch z),λ _ _ _ z=>(nomatch z),λ X M xs m tg=>.inr ⟨rfl,?_⟩⟩;have hs:=g.2.1;simp only [jg9,jn2,jj4,ja9] at hs;have s2:va9 [b] X.env=[(false,eval b X.env)]:=zqy (zqn hs.2);exact qe9 (xs.gl hg) (by rw [xs.mg];exact hb _ (by decide +kernel)) (g.2.2 X M xs m) (by rw [zqy (zqn hs.1),s2]) s2
   ·cases h
  ·split at h
   ·rename_i hc;obtain ⟨rfl,hg⟩:=hc;split at h
    ·rename_i fa vs e;cases h;have g:=zwl hd _ _ _ e;refine ⟨g.1,λ _ _ _ z=>(nomatch z),λ X M xs m tg ht=>?_⟩;have hs:=g.2.1;simp only [jg9,jn2,jj4,ja9] at hs;have s2:va9 [b] X.env=[(false,eval b X.env)]:=zqy (zqn hs.2);rw [m.k xs];cases tg with
     | Tuple es k tp=>exact qpc (xs.gl hg) (by rw [xs.mg];exact hb _ (by decide +kernel)) (g.2.2 X M xs m) (by rw [zqy (zqn hs.1),s2]) s2
     | _=>cases ht
    ·cases h
   ·exact seq h
 ·exact seq h
theorem qhv {σ:St}{H:Hp}{Q:Bool->Hp->Prop} (h:∃ M',MS M' K S Wx/\tT M' zxk σ H Q):Q true H:=by
 obtain ⟨M',_,ρ,fps,rep,q⟩:=h;exact q H fps KD.refl Agr.refl rep
structure CompParts (P:vb0) (w:vb7) (K:Frag) (mg:Str->Option va2) (base:Heap) (lvl:Nat) (S:Sx) (scope:vd4) (tg:Expr) (ys:List Str) (asg:PV->Rho->Option Rho) (it elt:Expr) (ifs:List Expr) (iw:Iw) (t:Fb) (g:Fx) (vE:List Nat):Prop where
 tga:tgA S.N.length tg=some (ys,asg)
 two:twOk tg iw=true
 chk:ChkOk S scope ys iw.vs
 iwo:IwOk P w K mg base lvl S it iw
 elt:Good P w K mg base lvl (zqt S scope ys iw.vs) elt g vE
 ifs:∀ {Wx} X M,XS X P w K mg base lvl (zqt S scope ys iw.vs) Wx->MS M K (zqt S scope ys iw.vs) Wx->PTs X ifs (λ σ H Q=>∃ M',MS M' K (zqt S scope ys iw.vs) Wx/\tT M' t σ H Q)
theorem zpm {scope:vd4}{tg:Expr}{ys:List Str}{asg:PV->Rho->Option Rho}{it elt:Expr}{ifs:List Expr}{iw:Iw}{t:Fb}{vE:List Nat} (c:CompParts P w K mg base lvl S scope tg ys asg it elt ifs iw t g vE):∀ i∈iw.vs++vE.filter (λ i=>decide (i < S.N.length)),S.msF i=false:=
 zxb c.iwo.1 λ i hi=>c.elt.1 i (jd4.mp hi).1
theorem zhf {X':Cx}:∀ {es:List Expr}{ys:List Str}{n:Nat},zfk es=some ys->X'.N.Nodup->(∀ j y,ys[j]?=some y->X'.N[n + j]?=some y)->(∀ y∈ys,Loc X'.env.scope y/\(X'.fn y=true\/X'.env.scope.names.lookup y=some .local))->PGs X' es (zmq (jl0 n ys.length))/\(vd1 es X'.env).length=ys.length/\(vd1 es X'.env).findIdx? (·.1)=none
 | [],ys,n,h,_,_,_=>by cases h;exact ⟨qfc,rfl,rfl⟩
 | e::es,ys,n,h,hN,hi,hl=>by
  unfold zfk at h;split at h
  ·cases ‹_::_=[]›
  ·rename_i x px r heq;cases heq;obtain ⟨zs,h2,rfl⟩:=jc3.mp h;have hx:=hl x ja2;obtain ⟨h1,h3,h4⟩:=zhf (n:=n + 1) h2 hN (λ j y e=>by rw [show n + 1 + j=n + (j + 1) by omega];exact hi (j + 1) y (by simpa using e)) λ y hy=>hl y (ja1 _ hy);rw [jb1,jq0];refine ⟨qcc (zbn hN (by have:=hi 0 x rfl;simpa using this) hx.1 hx.2) h1 rfl,by rw [vd1,jb1,h3] <;> (intros;contradiction),?_⟩;rw [vd1,jo7,h4] <;> first | rfl | (intros;contradiction)
  ·cases h
theorem zpn {scope:vd4}{tg:Expr}{ys:List Str}{asg:PV->Rho->Option Rho}{pos:Pos}{it elt:Expr}{ifs:List Expr}{iw:Iw}{t:Fb}{vE:List Nat} (c:CompParts P w K mg base lvl S scope tg ys asg it elt ifs iw t g vE) (xs:XS X P w K mg base lvl S Wx) (m:MS M K S Wx):
  ∃ is gg,(∀ i∈is,S.N.length<=i)/\(∀ D,GOk (M.comp D S.N.length iw.vs) iw.vs is gg asg) /\
   (∀ s2 H2 C fp pins,PG (zqq X s2 H2 scope C (zqt S scope ys iw.vs).N fp pins) tg gg) /\
   (∀ s2 H2 C fp pins,PTs (zqq X s2 H2 scope C (zqt S scope ys iw.vs).N fp pins) ifs (λ σ H Q=>∃ M',MS M' K (zqt S scope ys iw.vs) W0/\tT M' t σ H Q)) /\
   (∀ s2 H2 C fp pins,PE (zqq X s2 H2 scope C (zqt S scope ys iw.vs).N fp pins) elt (λ σ H Q=>∃ M',MS M' K (zqt S scope ys iw.vs) W0/\tE M' g vE σ H Q)):=by
 have hvI:=m.v c.iwo.1;have hP:∀ D,MS (M.comp D S.N.length iw.vs) K (zqt S scope ys iw.vs) W0:=λ D=>c.chk.ms' m c.iwo.1 D;have hvE:∀ i∈vE,M.Ms i=false:=λ i hi=>by rw [m.ms];exact c.elt.1 i hi
 have hvo:∀ i,i∈vE->i < S.N.length->i∈iw.vs++vE.filter (λ i=>decide (i < S.N.length)):=λ i h1 h2=>ja5 _ (jd4.mpr ⟨h1,by simpa using h2⟩);have hvo2:=m.v (zpm c);have bd:∀ D i,S.N.length<=i->Bd (M.comp D S.N.length iw.vs) iw.vs i:=λ D i hi=>⟨by
   show M.Ms i=false;rw [m.ms];unfold Sx.msF;cases e:S.ms.contains i with
   | false=>rfl
   | true=>exact absurd (c.chk.ms _ (by simpa using e)) (by omega),⟨λ _=>by have:=c.chk.pos;omega,λ p hp=>by have:=m.pn p hp;omega⟩,if_neg (by omega),(hP D).als⟩
 have hix:∀ j y,ys[j]?=some y->(zqt S scope ys iw.vs).N[S.N.length + j]?=some y:=λ j y e=>by
  show (zhu _ 0 S.N++ys)[S.N.length + j]?=some y;rw [jc8 (by rw [zzq];omega),zzq];simpa using e
 have hloc:∀ s2 H2 C fp pins,∀ y∈ys,Loc (zqq X s2 H2 scope C (zqt S scope ys iw.vs).N fp pins).env.scope y/\((zqq X s2 H2 scope C (zqt S scope ys iw.vs).N fp pins).fn y=true\/(zqq X s2 H2 scope C (zqt S scope ys iw.vs).N fp pins).env.scope.names.lookup y=some .local):=λ s2 H2 C fp pins y hy=>by
  have e:(zqq X s2 H2 scope C (zqt S scope ys iw.vs).N fp pins).env.scope=zwe scope S.sc:=by
   show vl2 scope X.env=_;rw [zyv,xs.sc]
  rw [e];rcases c.chk.loc y hy with z | z
  ·exact ⟨.inl z,.inr z⟩
  ·exact ⟨.inr z.1,.inl (by show scope.names.contains (y,NameKind.cell)=true;simpa using z.2)⟩
 have hpe:∀ s2 H2 C fp pins,PE (zqq X s2 H2 scope C (zqt S scope ys iw.vs).N fp pins) elt (λ σ H Q=>∃ M',MS M' K (zqt S scope ys iw.vs) W0/\tE M' g vE σ H Q):=λ s2 H2 C fp pins pi s σ H Q I ⟨M',m',q⟩=>
  (c.elt.2.2 _ M' (c.chk.xs xs s2 H2 C fp pins) m').1 pi s σ H Q I q
 have hpt:∀ s2 H2 C fp pins,PTs (zqq X s2 H2 scope C (zqt S scope ys iw.vs).N fp pins) ifs (λ σ H Q=>∃ M',MS M' K (zqt S scope ys iw.vs) W0/\tT M' t σ H Q):=λ s2 H2 C fp pins=>c.ifs _ (M.comp 0 S.N.length iw.vs) (c.chk.xs xs s2 H2 C fp pins) (hP 0);have tgp:∃ is gg,(∀ i∈is,S.N.length<=i)/\(∀ D,GOk (M.comp D S.N.length iw.vs) iw.vs is gg asg)/\∀ s2 H2 C fp pins,PG (zqq X s2 H2 scope C (zqt S scope ys iw.vs).N fp pins) tg gg:=by
  have ht:=c.tga;unfold tgA at ht;split at ht
  ·rename_i y py;cases ht;refine ⟨[S.N.length],zjk S.N.length,λ i hi=>by rw [jb4.mp hi];exact ja4 _,λ D=>qgr (bd D _ (ja4 _)),λ s2 H2 C fp pins=>?_⟩;exact zbn c.chk.nd (hix 0 y rfl) (hloc s2 H2 C fp pins y (by simp)).1 (hloc s2 H2 C fp pins y (by simp)).2
  ·rename_i es k tp;obtain ⟨zs,h2,e⟩:=jc3.mp ht;cases e;refine ⟨jl0 S.N.length ys.length,gTup M.K ys.length (zmq (jl0 S.N.length ys.length)),λ i hi=>(jp2.mp hi).1,λ D=>?_,λ s2 H2 C fp pins=>?_⟩
   ·have:=qm2 (M:=M.comp D S.N.length iw.vs) (al:=iw.vs) (is:=jl0 S.N.length ys.length) λ i hi=>bd D i (jp2.mp hi).1
    rw [List.length_range'] at this;exact this
   ·obtain ⟨h1,h3,h4⟩:=zhf (X':=zqq X s2 H2 scope C (zqt S scope ys iw.vs).N fp pins) (n:=S.N.length) h2 c.chk.nd hix (hloc s2 H2 C fp pins)
    have:=qfd (X:=zqq X s2 H2 scope C (zqt S scope ys iw.vs).N fp pins) (pos:=tp) (k:=k) xs.calm h1 h3 h4
    have e:(zqq X s2 H2 scope C (zqt S scope ys iw.vs).N fp pins).K=M.K:=(m.k xs).symm;rw [e] at this;exact this
  ·cases ht
 obtain ⟨is,gg,his,hg,hpg⟩:=tgp;exact ⟨is,gg,his,hg,hpg,hpt,hpe⟩
theorem zmt {scope:vd4}{tg:Expr}{ys:List Str}{asg:PV->Rho->Option Rho}{pos:Pos}{it elt:Expr}{ifs:List Expr}{iw:Iw}{t:Fb}{vE:List Nat} (c:CompParts P w K mg base lvl S scope tg ys asg it elt ifs iw t g vE) (xs:XS X P w K mg base lvl S Wx) (m:MS M K S Wx):
  ∃ wi gg,PI X tg it wi/\CompOk X scope (zqt S scope ys iw.vs).N ys.length/\(∀ s2 H2 C fp pins,PG (zqq X s2 H2 scope C (zqt S scope ys iw.vs).N fp pins) tg gg) /\
   (∀ s2 H2 C fp pins,PTs (zqq X s2 H2 scope C (zqt S scope ys iw.vs).N fp pins) ifs (λ σ H Q=>∃ M',MS M' K (zqt S scope ys iw.vs) W0/\tT M' t σ H Q)) /\
   (∀ s2 H2 C fp pins,PE (zqq X s2 H2 scope C (zqt S scope ys iw.vs).N fp pins) elt (λ σ H Q=>∃ M',MS M' K (zqt S scope ys iw.vs) W0/\tE M' g vE σ H Q)) /\
   ∀ σ H Q,σ.length=S.N.length->tE M (qhn iw ys.length asg t g) (iw.vs++vE.filter (λ i=>decide (i < S.N.length))) σ H Q ->
    zgp ys.length wi gg (λ σ H Q=>∃ M',MS M' K (zqt S scope ys iw.vs) W0/\tT M' t σ H Q) (λ σ H Q=>∃ M',MS M' K (zqt S scope ys iw.vs) W0/\tE M' g vE σ H Q) σ H Q:=by
 have hvI:=m.v c.iwo.1;have hP:∀ D,MS (M.comp D S.N.length iw.vs) K (zqt S scope ys iw.vs) W0:=λ D=>c.chk.ms' m c.iwo.1 D;have hvE:∀ i∈vE,M.Ms i=false:=λ i hi=>by rw [m.ms];exact c.elt.1 i hi
 have hvo:∀ i,i∈vE->i < S.N.length->i∈iw.vs++vE.filter (λ i=>decide (i < S.N.length)):=λ i h1 h2=>ja5 _ (jd4.mpr ⟨h1,by simpa using h2⟩);have hvo2:=m.v (zpm c);obtain ⟨is,gg,his,hg,hpg,hpt,hpe⟩:=zpn (pos:=pos) c xs m;have hw:=c.iwo.2.2 X M xs m tg;have htw:=c.two;cases iw with
 | rng en fa vs=>
  rcases hw with ⟨rfl,hw⟩ | ⟨rfl,hw⟩
  ·exact ⟨_,gg,hw,c.chk.comp xs,hpg,hpt,hpe,λ σ H Q hl hq=>qh0 hl hP m.als hvI hvE his hg hvo hvo2 hq⟩
  ·exact ⟨_,gg,hw,c.chk.comp xs,hpg,hpt,hpe,λ σ H Q hl hq=>qhz hl hP m.als hvI hvE his hg hvo hvo2 hq⟩
 | seq f vs=>exact ⟨_,gg,hw,c.chk.comp xs,hpg,hpt,hpe,λ σ H Q hl hq=>qbx hl hP m.als hvI hvE his hg hvo hvo2 hq⟩
 | vw v fa vs=>exact ⟨_,gg,hw htw,c.chk.comp xs,hpg,hpt,hpe,λ σ H Q hl hq=>by obtain ⟨_,_,_,q⟩:=hq;exact q.elim⟩
theorem qfe {e:Expr}{t t':TE} (h:PE X e t) (i:∀ σ H Q,σ.length=X.N.length->t' σ H Q->t σ H Q):PE X e t':=λ pins s σ H Q I q=>h pins s σ H Q I (i σ H Q I.len q)
theorem qo8 {e:Stmt}{t t':TS} (h:PS X e t) (i:∀ D σ H,σ.length=X.N.length->t' D σ H->t D σ H):PS X e t':=λ pins s σ H D I q=>h pins s σ H D I (i D σ H I.len q)
theorem qgp {scope:vd4}{tg:Expr}{ys:List Str}{asg:PV->Rho->Option Rho}{pos:Pos}{it elt:Expr}{ifs:List Expr}{iw:Iw}{t:Fb}{vE:List Nat} (c:CompParts P w K mg base lvl S scope tg ys asg it elt ifs iw t g vE):Good P w K mg base lvl S (.ListComp elt [⟨tg,it,ifs,0⟩] scope pos) (qhn iw ys.length asg t g) (iw.vs++vE.filter (λ i=>decide (i < S.N.length))):=by
 refine zxh (zpm c) rfl (λ _ _=>rfl) λ X M xs m=>?_;obtain ⟨wi,gg,h1,h2,h3,h4,h5,h6⟩:=zmt (pos:=pos) c xs m;exact qfe (zff h2 xs.calm h1 h3 h4 h5 (zvt (n:=0) (f:=g) (vs:=[]) c.iwo.2.1)) λ σ H Q hl q=>h6 σ H Q (by rw [hl,xs.N]) q
theorem zpj {d:Expr->Option D2} (hd:∀ e f vs,d e=some (f,vs)->Good P w K mg base lvl S e f vs) {ifs:List Expr}{t:Fb} (h:zhx d ifs=some t) (X:Cx) (M:Fm) (xs:XS X P w K mg base lvl S Wx) (m:MS M K S Wx):PTs X ifs (λ σ H Q=>∃ M',MS M' K S Wx/\tT M' t σ H Q):=by
 unfold zhx at h;split at h
 ·cases h;intro pins s σ H Q I q;exact qls pins s σ H Q I (qhv q)
 ·obtain ⟨p,e,rfl⟩:=jc3.mp h;obtain ⟨f,vs⟩:=p;have g:=hd _ _ _ e;intro pins s σ H Q I ⟨M',m',q⟩;exact qlr (g.2.2 X M' xs m').2 pins s σ H Q I q
 ·cases h
theorem zfs (n:Nat) (S:Sx) (a:List Expr) (b:Nat) (c:Pos):den n S (.Set a b c)=none:=by
 cases n <;> rfl
theorem zml {e:Expr} (h:zbq e=true) (env:Env) (cpos:Pos):((vg4 cpos (va9 [e] env)).all (λ x=>!x.1) && (backToKw cpos (vn1 [] env)).all (λ x=>x.1.isSome)
   && decide (([e]:List Expr).length + ([]:List Keyword).length + (if ([]:List Keyword).isEmpty then 0 else 1) < 30))=true:=by
 have:va9 [e] env=[(false,eval e env)]:=zqy (zqn h)
 rw [this];rfl
theorem zpi (GX:GX K mg S.xc) (G:GS P w K mg base lvl S.Γ) (Gm:GSm P w K mg base lvl S.Γm):∀ (n:Nat) (S':Sx) (e:Expr) (f:Fx) (vs:List Nat),S'.Γ=S.Γ->S'.Γm=S.Γm->S'.xc=S.xc->(∀ i,∀ j∈S'.alF i,S'.msF j=false)->den n S' e=some (f,vs)->Good P w K mg base lvl S' e f vs:=by
 intro n;induction n with
 | zero=>intro S' e f vs _ _ _ _ h;cases h
 | succ n ih=>
  intro S' e f vs hΓ hΓm hX hS h;have hd:∀ e f vs,den n S' e=some (f,vs)->Good P w K mg base lvl S' e f vs:=λ e f vs h=>ih S' e f vs hΓ hΓm hX hS h;replace h:zzb (den n) S' e=some (f,vs):=h;unfold zzb at h;split at h
  ·unfold denC at h;split at h
   ·cases h;exact zxh (λ _ z=>(nomatch z)) rfl (λ _ _=>rfl) λ X M xs m=>zqw qkb λ σ H Q q=>zbd (λ K H Z=>by rw [Own];exact ⟨rfl,rfl⟩) q
   ·cases h;exact zxh (λ _ z=>(nomatch z)) rfl (λ _ _=>rfl) λ X M xs m=>zqw qrd λ σ H Q q=>zbd (λ K H Z=>by rw [Own];exact ⟨rfl,rfl⟩) q
   ·cases h;exact zxh (λ _ z=>(nomatch z)) rfl (λ _ _=>rfl) λ X M xs m=>zqw qpi λ σ H Q q=>zbd (λ K H Z=>by rw [Own];exact ⟨rfl,rfl⟩) q
   ·cases h;exact zxh (λ _ z=>(nomatch z)) rfl (λ _ _=>rfl) λ X M xs m=>zqw qpg λ σ H Q q=>zbd (λ K H Z=>by rw [Own];exact ⟨rfl,rfl⟩) q
   ·cases h
  ·split at h
   ·rename_i i hi;split at h
    ·cases h
    ·rename_i hm;cases h;refine zxh (λ j hj=>?_) rfl (λ _ _=>rfl) λ X M xs m=>qfe (xs.var hi) λ σ H Q hl q=>?_
     ·rcases jc0.mp hj with z | z
      ·rw [z];simpa using hm
      ·exact hS i j z
     ·have hlt:i < S'.N.length:=by
       unfold Sx.slot at hi;split at hi
       ·exact (jb2.mp (zju hi)).1
       ·cases hi
      rw [<- m.al i hlt] at q;exact qj0 q
   ·cases h
  ·split at h
   ·rename_i f1 v1 f2 v2 o h1 h2 h3;cases h;have g1:=hd _ _ _ h1;have g2:=hd _ _ _ h2;exact zxh (zxb g1.1 g2.1) rfl (λ _ _=>rfl) λ X M xs m=>qq2 h3 (m.v g1.1) (m.k xs) (g1.2.2 X M xs m).1 (g2.2.2 X M xs m).1
   ·cases h
  ·split at h
   ·rename_i f1 v1 h1;cases h;have g1:=hd _ _ _ h1;exact zxh g1.1 rfl (λ _ _=>rfl) λ X M xs m=>qoh (g1.2.2 X M xs m).1
   ·cases h
  ·split at h
   ·rename_i f1 v1 h1;cases h;exact qi5 (hd _ _ _ h1)
   ·cases h
  ·rename_i es pos;have g:=zhy hd (pos:=pos) _ _ _ h;exact ⟨g.1,rfl,λ X M xs m=>⟨(g.2 X M xs m).1,(g.2 X M xs m).2.pt⟩⟩
  ·rename_i es pos;have g:=qcx hd (pos:=pos) _ _ _ h;exact ⟨g.1,rfl,λ X M xs m=>⟨(g.2 X M xs m).1,(g.2 X M xs m).2.pt⟩⟩
  ·split at h
   ·rename_i c v0 f1 v1 g1 v2 h0 h1 h2;cases h;have g0:=hd _ _ _ h0;have ga:=hd _ _ _ h1;have gb:=hd _ _ _ h2;exact ⟨zxb ga.1 gb.1,rfl,λ X M xs m=>⟨qom (g0.2.2 X M xs m).2 (ga.2.2 X M xs m).1 (gb.2.2 X M xs m).1,zmg (qo7 (g0.2.2 X M xs m).2 (ga.2.2 X M xs m).2 (gb.2.2 X M xs m).2) λ σ H Q q=>qny q⟩⟩
   ·cases h
  ·split at h
   ·rename_i f1 v1 f2 v2 o h1 h2 h3;cases h;exact qi6 h3 (hd _ _ _ h1) (hd _ _ _ h2)
   ·cases h
  ·split at h
   ·rename_i f1 v1 f2 v2 f3 v3 p q h1 h2 h3 h4 h5;cases h;exact qdu h4 h5 (hd _ _ _ h1) (hd _ _ _ h2) (hd _ _ _ h3)
   ·cases h
  ·split at h
   ·rename_i fa v h1;cases h;have g:=zwl hd _ _ _ h1;exact zxh g.1 rfl (λ _ _=>rfl) λ X M xs m=>qoj (g.2.2 X M xs m)
   ·cases h
  ·split at h
   ·rename_i fa v h1;cases h;have g:=zwl hd _ _ _ h1;exact zxh g.1 rfl (λ _ _=>rfl) λ X M xs m=>qog (g.2.2 X M xs m)
   ·cases h
  ·cases h;exact zxh (λ _ z=>(nomatch z)) rfl (λ _ _=>rfl) λ X M xs m=>qon
  ·rename_i a b pos;unfold qki at h;split at h
   ·rename_i lo hi st p2;unfold qkj at h;split at h
    ·split at h
     ·rename_i f1 v1 f2 v2 h1 h2;cases h;have g1:=hd _ _ _ h1;have g2:=hd _ _ _ h2;exact zxh g1.1 rfl (λ _ _=>rfl) λ X M xs m=>zqw (qcd (qep.or qj3) (g1.2.2 X M xs m).1 qe6 (qe5 (g2.2.2 X M xs m).1)) λ σ H Q q=>qoa (lo:=none) (hi:=some (f2,v2)) (m.v g1.1) (m.k xs) q
     ·cases h
    ·split at h
     ·rename_i f1 v1 f2 v2 h1 h2;cases h;have g1:=hd _ _ _ h1;have g2:=hd _ _ _ h2;exact zxh g1.1 rfl (λ _ _=>rfl) λ X M xs m=>zqw (qcd (qep.or qj3) (g1.2.2 X M xs m).1 (qe5 (g2.2.2 X M xs m).1) qe6) λ σ H Q q=>qoa (lo:=some (f2,v2)) (hi:=none) (m.v g1.1) (m.k xs) q
     ·cases h
    ·cases h
   ·split at h
    ·rename_i x i hx hi;obtain ⟨px,rfl⟩:=qfr hx;obtain ⟨k,pi,rfl⟩:=qqe hi;split at h
     ·rename_i j hj;split at h
      ·cases h
      ·rename_i hm;cases h;have hlt:j < S'.N.length:=by
        unfold Sx.slot at hj;split at hj
        ·exact (jb2.mp (zju hj)).1
        ·cases hj
       have hv:∀ i∈j::S'.alF j,S'.msF i=false:=λ i hi=>by
        rcases jc0.mp hi with z | z
        ·rw [z];simpa using hm
        ·exact hS j i z
       refine zxh (zxb hv λ _ z=>(nomatch z)) rfl (λ _ _=>rfl) λ X M xs m=>qj4 (by have:=xs.room.units;omega) (m.v hv) (m.k xs) (zyw rfl) (zqw (xs.var hj) λ σ H Q q=>?_) (zqw qkb λ σ H Q q=>zbd (λ K H Z=>by rw [Own];exact ⟨rfl,rfl⟩) q);rw [<- m.al j hlt] at q;exact qj0 q
     ·cases h
    ·split at h
     ·rename_i f1 v1 f2 v2 h1 h2;split at h
      ·rename_i hn;cases h;have g1:=hd _ _ _ h1;have g2:=hd _ _ _ h2;exact zxh (zxb g1.1 g2.1) rfl (λ _ _=>rfl) λ X M xs m=>qj4 (by have:=xs.room.units;omega) (m.v g1.1) (m.k xs) (zyw hn) (g1.2.2 X M xs m).1 (g2.2.2 X M xs m).1
      ·cases h
     ·cases h
  ·split at h
   ·rename_i f1 v1 g1 v2 h1 h2;have ga:=hd _ _ _ h1;have gb:=hd _ _ _ h2;split at h
    ·rename_i hc;obtain ⟨rfl,rfl,hg⟩:=hc;cases h;exact zxh (zxb ga.1 (zxb gb.1 λ _ z=>nomatch z)) rfl (λ _ _=>rfl) λ X M xs m=>qb4 xs.calm (m.k xs) (xs.gl hg) (by rw [xs.mg];exact G.1 _ (by decide +kernel)) rfl (by decide +kernel) (by decide +kernel) (m.v ga.1) (m.v gb.1) (λ h1 h2 h3=>qiq h1 h2 h3) (ga.2.2 X M xs m).1 (gb.2.2 X M xs m).1 (zqy (zqn ga.2.1))
    ·split at h
     ·rename_i hc;obtain ⟨rfl,rfl,hg⟩:=hc;cases h;exact zxh (zxb ga.1 (zxb gb.1 λ _ z=>nomatch z)) rfl (λ _ _=>rfl) λ X M xs m=>qb4 xs.calm (m.k xs) (xs.gl hg) (by rw [xs.mg];exact G.1 _ (by decide +kernel)) rfl (by decide +kernel) (by decide +kernel) (m.v ga.1) (m.v gb.1) (λ h1 h2 h3=>qio h1 h2 h3) (ga.2.2 X M xs m).1 (gb.2.2 X M xs m).1 (zqy (zqn ga.2.1))
     ·cases h
   ·cases h
  ·split at h
   ·rename_i x p args pos _ hx;subst hx;split at h
    ·rename_i e c;unfold qkm at h;split at h
     ·rename_i f1 v1 h1;split at h
      ·rename_i hgi;have g1:=hd _ _ _ h1;split at h
       ·rename_i T pT;have s2:∀ {X:Cx},va9 [Expr.Name T pT] X.env=[(false,eval (.Name T pT) X.env)]:=rfl;split at h
        ·rename_i t h2;split at h
         ·rename_i hg;cases h;obtain ⟨t1,t2,t3,t4,t5⟩:=qkv h2;refine zxh g1.1 rfl (λ _ _=>rfl) λ X M xs m=>?_;exact qol (x:=T) t1 (m.k xs) (g1.2.2 X M xs m).1 (xs.gl hgi) (by rw [xs.mg];exact G.1 _ (by decide +kernel)) (ql8 (xs.gl hg) (by rw [xs.mg];exact G.1 _ t2) t3 rfl t5 t4) (by rw [zqy (zqn g1.2.1),s2]) s2
         ·cases h
        ·cases h
       ·cases h
      ·cases h
     ·cases h
    ·cases h
   ·split at h
    ·rename_i a ha;split at h
     ·rename_i f1 v1 h1;split at h
      ·rename_i hc;cases h;obtain ⟨rfl,p2,pos2,rfl⟩:=qml ha;have g1:=hd _ _ _ h1;exact zxh g1.1 rfl (λ _ _=>rfl) λ X M xs m=>qlj (m.k xs) xs.calm (xs.gl hc.1) (by rw [xs.mg];exact G.1 _ (by decide +kernel)) (xs.gl hc.2) (by rw [xs.mg];exact G.1 _ (by decide +kernel)) (by rw [zqy (zqn g1.2.1)];rfl) (g1.2.2 X M xs m).1
      ·cases h
     ·cases h
    split at h
    ·rename_i o ho;split at h
     ·rename_i e es;split at h
      ·rename_i fa v h1;split at h
       ·rename_i hg;cases h;have g:=zwl hd _ _ _ h1;exact zxh g.1 rfl (λ _ _=>rfl) λ X M xs m=>qop ho xs m G.1 hg g.2.1 (g.2.2 X M xs m)
       ·cases h
      ·cases h
     ·cases h
    ·split at h
     ·rename_i x p args pos _ _ _ _ nn F hF;split at h
      ·rename_i e es;split at h
       ·rename_i fa v h1;split at h
        ·rename_i hg;cases h;have g:=zwl hd _ _ _ h1;rw [hΓ] at hF;obtain ⟨d1,d2,fa',fd,ps,d3,d4,d5,d6,d7⟩:=G.2 _ _ _ _ hF;refine zxh g.1 rfl (λ _ _=>rfl) λ X M xs m=>?_;have hs:=g.2.1;rw [jg9,ja9] at hs;obtain ⟨xp,xw,xK,xm,xb,_,_,_,xr,_⟩:=id xs;subst xp xw xK xm xb;have mk:M.K=X.K:=m.K;have hps:=xs.ps;rw [<- m.W] at hps;refine zqw (qii d7 xr (xs.gl hg) d3 d4 d5 hps (g.2.2 X M xs m) d1 (zqy (zqn hs.1)) (zjp hs.2)) λ σ H Q q=>?_
         have:=qk9 d2 q
         rw [mk] at this;exact this
        ·cases h
       ·cases h
      ·cases h
     ·cases h
     ·cases h
  ·split at h
   ·rename_i elt tg it ifs scope pos _ _ ys asg iw ht hi;split at h
    ·rename_i hc;split at h
     ·rename_i t g vE h1 h2;cases h;have ck:=qhe hc.1;have giw:=zft hd (zfs n S') G.1 hi;have hS2:∀ i,∀ j∈(zqt S' scope ys iw.vs).alF i,(zqt S' scope ys iw.vs).msF j=false:=λ i j hj=>by
       rw [zjy] at hj;show S'.msF j=false;split at hj
       ·exact hS i j hj
       ·split at hj
        ·exact giw.1 j hj
        ·cases hj
      have hd2:∀ e f vs,den n (zqt S' scope ys iw.vs) e=some (f,vs)->Good P w K mg base lvl (zqt S' scope ys iw.vs) e f vs:=λ e f vs h=>ih _ e f vs hΓ hΓm hX hS2 h;exact qgp ⟨ht,hc.2,ck,giw,hd2 _ _ _ h2,zpj hd2 h1⟩
     ·cases h
    ·cases h
   ·cases h
  ·cases h
end
section
variable {is:List Nat}{M:Fm}{ρ ρ':Rho}{σ σ':St}{H H' H'':Hp}{fps fps' fps'':Fps}{vs vs':List Nat}
def sNo:Fs:=λ _=>.no
theorem qn2 {t:TS}{D:Ends} (hq:tS M sNo D σ H):t D σ H:=by
 obtain ⟨ρ,fps,rep,q⟩:=hq;exact q.elim
def sUnp (asg:PV->Rho->Option Rho) (f:Fx) (vs:List Nat):Fs:=λ ρ=>match f ρ with
 | .ok (x,d,ρ1)=>(match asg x (zqo d vs ρ1) with
  | some ρ2=>.nx ρ2
  | none=>.no)
 | .exc c=>.exc c
 | .no=>.no
theorem qn0 {g:TG}{asg:PV->Rho->Option Rho}{f:Fx}{D:Ends} (hal:∀ i,M.al i=[]) (hv:∀ i∈vs,M.Ms i=false) (hg:GOk M [] is g asg) (hq:tS M (sUnp asg f vs) D σ H):tAsg (tE M f vs) g D σ H:=by
 obtain ⟨ρ,fps,rep,q⟩:=hq;refine ⟨ρ,fps,rep,?_⟩;unfold sUnp at q;cases ef:f ρ with
 | no=>rw [ef] at q;exact q
 | exc c=>rw [ef] at q;exact λ H' fps' k=>q _ H' fps' k.ks
 | ok p=>
  obtain ⟨x,d,ρ1⟩:=p;rw [ef] at q;intro v H1 fps1 f1 k1 g1 rep1 o1 t1;obtain ⟨fps2,k2,r2,o2⟩:=Rep.seen rep k1 g1 rep1 o1 t1 hal hv;dsimp only at q;cases ea:asg x (zqo d vs ρ1) with
  | none=>rw [ea] at q;exact q.elim
  | some ρ2=>
   rw [ea] at q;refine hg x v _ σ H1 fps2 ρ2 _ r2 (o2.weak λ a h=>h.zf) ea λ σ' fps' s1 _ _ r'=>q σ' H1 fps' (k2.trans ⟨λ _ _ h _=>h,λ _ h=>h,λ j a ha=>.inl ⟨j,s1 j a ha⟩⟩) r'
theorem Rep.change {i:Nat}{x x':PV}{d d':Nat}{v:V}{f':List Addr} (hal:∀ i,M.al i=[]) (r:Rep M ρ σ H fps) (hi:ρ[i]?=some (some (x,d))) (hσ:σ[i]?=some (some v)) (k:Keep (λ a=>a∈fps i) H H') (dm:∀ a,H a≠none->H' a≠none) (hs:∀ b∈f',b∈fps i)
  (hm:M.Ms i=true->d'=om) (o:Own M.K H' (Zf M (λ j=>if j=i then f' else fps j)) x' d' v f'):Rep M (ρ.set i (some (x',d'))) σ H' (λ j=>if j=i then f' else fps j):=by
 have hlen:i < ρ.length:=(jb2.mp hi).1;have inI:∀ j,∀ b∈(if j=i then f' else fps j),b∈fps j:=λ j b hb=>by
  by_cases e:j=i
  ·rw [if_pos e] at hb;rw [e];exact hs b hb
  ·rw [if_neg e] at hb;exact hb
 refine ⟨λ j y c hj=>?_,λ j hj=>?_,λ j k hjk b hb hc=>r.dj j k hjk b (inI j b hb) (inI k b hc),λ j b hb z=>r.zo j b (inI j b hb) z,λ j hj b hb=>r.fr j hj b (inI j b hb),λ b z=>dm b (r.zd b z),by rw [je0];exact r.len,λ j y c hj hc=>?_,λ b z=>dm b (r.h0 b z),r.iov⟩
 ·by_cases ej:j=i
  ·subst ej;rw [jc5 hlen] at hj;cases hj;refine ⟨v,hσ,?_⟩;rw [if_pos rfl];exact o.weak λ a h=>h.zf
  ·rw [jc4 (vb9 ej)] at hj;obtain ⟨u,hu,ou⟩:=r.own j y c hj;refine ⟨u,hu,?_⟩;rw [if_neg ej];refine Own.move (S:=λ a=>a∈fps i) k (λ a ha=>⟨.inr ⟨i,(by rw [hal j];intro z;cases z),ha⟩,r.lsts ha⟩) (λ a _ nz z=>nz ?_) y c u (fps j) (λ a ha z=>r.dj j i ej a ha z) ou;rcases z with z | ⟨l,nl,z⟩
   ·exact .inl z
   ·exact .inr ⟨l,nl,inI l a z⟩
 ·by_cases ej:j=i
  ·subst ej;exact absurd (jc5 hlen) (hj (x',d'))
  ·rw [if_neg ej];exact r.non j λ p hp=>hj p (by rw [jc4 (vb9 ej)];exact hp)
 ·by_cases ej:j=i
  ·subst ej;rw [jc5 hlen] at hc;cases hc;exact hm hj
  ·rw [jc4 (vb9 ej)] at hc;exact r.msf j y c hj hc
def sExt (i:Nat) (f:Fx) (vs:List Nat):Fs:=λ ρ=>match ρ[i]? with
 | some (some (.lst _,0))=>.no
 | some (some (.lst _,_ + 1))=>(match f ρ with
  | .ok (.lst ys,e,ρ1)=>(match (zqo e vs ρ1)[i]? with
   | some (some (.lst xs,d))=>if d≠0/\xs.length + ys.length<=va5 then .nx ((zqo e vs ρ1).set i (some (.lst (xs++ys),1))) else .no
   | _=>.no)
  | .ok _=>.no
  | .exc c=>.exc c
  | .no=>.no)
 | _=>.no
theorem qn4 {f:Fx}{i:Nat}{D:Ends} (hal:∀ i,M.al i=[]) (hv:∀ i∈vs,M.Ms i=false) (hm:M.Ms i=false) (hq:tS M (sExt i f vs) D σ H):qh1 (tBM M.K "list" qey (tVar i) (qeh (tE M f vs) tNil)) D σ H:=by
 obtain ⟨ρ,fps,rep,q⟩:=hq;unfold sExt at q;split at q
 ·exact q.elim
 ·rename_i xs0 d0 e0;obtain ⟨v,hσ,o⟩:=rep.own0 hal i _ _ e0;obtain ⟨a,ws0,fc0,rfl,ha0,hfp0,_,_⟩:=o.list (jm6 _);refine ⟨_,hσ,qd2 (.inl (.inl ha0)),ρ,fps,rep,?_⟩;cases ef:f ρ with
  | no=>rw [ef] at q;exact q
  | exc c=>rw [ef] at q;exact λ H' fps' k=>q _ H' fps' k.ks
  | ok p=>
   obtain ⟨y,e,ρ1⟩:=p;rw [ef] at q;cases y with
   | lst ys=>
    intro w H1 fps1 fp k1 g1 rep1 o1 t1;dsimp only at q;split at q
    ·rename_i xs d es;split at q
     ·rename_i hc;obtain ⟨fps2,k2,r2,o2,n2,s2,h2⟩:=Rep.behind rep k1 g1 rep1 o1 t1 hal hv;obtain ⟨v',hσ',ol⟩:=r2.own0 hal i _ _ es;rw [hσ] at hσ';cases hσ';obtain ⟨a',ws,fc,ev,ha,hfp,nac,hol⟩:=ol.list hc.1;cases ev;have hai:a∈fps2 i:=by rw [hfp];exact ja2
      have hafp:a∉fp:=λ z=>n2 a z (.inr ⟨i,hai⟩);have hst:∃ j,a∈fps j:=⟨i,by have:=s2 i a hai;rw [k1.same i hm] at this;exact this⟩
      have zsub:∀ b,Zf M (λ j=>if j=i then [a] else fps2 j) b->Zf (M.plus fp) fps2 b:=λ b h=>by
       rcases h with z | ⟨j,z⟩
       ·exact .inl (.inl z)
       ·by_cases ej:j=i
        ·simp only [if_pos ej] at z;rw [jb4.mp z];exact .inr ⟨i,hai⟩
        ·simp only [if_neg ej] at z;exact .inr ⟨j,z⟩
      have nf:∀ b∈fc,¬ Zf M (λ j=>if j=i then [a] else fps2 j) b:=λ b hb z=>by
       have hbi:b∈fps2 i:=by rw [hfp];exact ja1 _ hb
       rcases z with z | ⟨j,z⟩
       ·exact r2.zo i b hbi (.inl z)
       ·by_cases ej:j=i
        ·simp only [if_pos ej] at z;rw [jb4.mp z] at hb;exact nac hb
        ·simp only [if_neg ej] at z;exact r2.dj i j (vb9 ej) b hbi z
      have nfp:∀ b∈fp,¬ Zf M (λ j=>if j=i then [a] else fps2 j) b:=λ b hb z=>by
       rcases z with z | ⟨j,z⟩
       ·exact n2 b hb (.inl z)
       ·by_cases ej:j=i
        ·simp only [if_pos ej] at z;rw [jb4.mp z] at hb;exact hafp hb
        ·simp only [if_neg ej] at z;exact n2 b hb (.inr ⟨j,z⟩)
      have za:Zf M (λ j=>if j=i then [a] else fps2 j) a:=.inr ⟨i,by simp⟩;have u1:=(OwnL.freeze (Z':=Zf M (λ j=>if j=i then [a] else fps2 j)) zsub xs _ ws fc nf hol)
      have u2:=(Own.freeze (Z':=Zf M (λ j=>if j=i then [a] else fps2 j)) (λ b h=>by
       rcases h with z | ⟨j,z⟩
       ·exact .inl (.inl z)
       ·by_cases ej:j=i
        ·simp only [if_pos ej] at z;rw [jb4.mp z];exact .inl (.inr ⟨i,hai⟩)
        ·simp only [if_neg ej] at z;exact .inl (.inr ⟨j,z⟩)) (.lst ys) _ w fp nfp o2)
      obtain ⟨b,us,rfl,hb,u3⟩:=u2.coldL;refine ⟨a,b,ws,us,rfl,rfl,ha,hb,by rw [hol.length,u3.length];exact hc.2,?_⟩;refine q σ _ _ (k2.write (i:=i) (f':=[]) (fp:=fp) hst λ b hb=>?_) (r2.rewrite hal es hσ ha hfp (λ z=>nomatch z) (λ b hb=>nomatch hb) (by decide) (λ h=>by rw [hm] at h;cases h) h2 ?_)
      ·rcases jc0.mp hb with z | z
       ·exact .inl (by rw [z];exact hai)
       ·cases z
      ·rw [zmi];exact OwnL.append0 (u3.at za ⟨.l ws,ha⟩ (λ z=>nomatch z) λ _ _ n=>n) (u1.at za ⟨.l ws,ha⟩ (λ z=>nomatch z) λ _ _ n=>n)
     ·exact q.elim
    ·exact q.elim
   | _=>exact q.elim
 ·exact q.elim
def sAug (g:Int->Int->Int) (sd:Bool) (i:Nat) (f:Fx):Fs:=λ ρ=>match ρ[i]? with
 | some (some (.int a,_))=>(match f ρ with
  | .ok (.int b,_,ρ1)=>if i < ρ1.length then .nx (ρ1.set i (some (.int (g a b),om))) else .no
  | .ok _=>.no
  | .exc c=>.exc c
  | .no=>.no)
 | some (some (.str a,_))=>(match f ρ with
  | .ok (.str b,_,ρ1)=>if i < ρ1.length/\sd=true/\a.length + b.length<=va5 then .nx (ρ1.set i (some (.str (a++b),om))) else .no
  | .ok _=>.no
  | .exc c=>.exc c
  | .no=>.no)
 | _=>.no
def ipS (g:Int->Int->Int) (sd:Bool):TIp:=λ x y H Q=>ipI g x y H Q\/(sd=true/\∃ i j,x=.str i/\y=.str j/\i.length + j.length<=va5/\Q (.str (i++j)) H)
theorem qmv {X:Cx}:PIp X .Add (ipS (λ i j=>i + j) true):=by
 intro pins s σ H x y v u Q I rx ry h;rcases h with h | ⟨_,h⟩
 ·exact qkg pins s σ H x y v u Q I rx ry h
 ·exact qbb pins s σ H x y v u Q I rx ry h
theorem qmu {X:Cx}:PIp X .Sub (ipS (λ i j=>i - j) false):=by
 intro pins s σ H x y v u Q I rx ry h;rcases h with h | ⟨z,_⟩
 ·exact qkf pins s σ H x y v u Q I rx ry h
 ·cases z
theorem qn5 {g:Int->Int->Int}{sd:Bool}{f:Fx}{i:Nat}{D:Ends} (hal:∀ i,M.al i=[]) (hm:M.Ms i=false) (hio:M.Fre i) (hq:tS M (sAug g sd i f) D σ H):tAug i (tE M f vs) (ipS g sd) D σ H:=by
 obtain ⟨ρ,fps,rep,q⟩:=hq;unfold sAug at q;split at q
 ·rename_i a d0 e0;obtain ⟨v,hσ,o⟩:=rep.own0 hal i _ _ e0;rw [Own] at o;obtain ⟨rfl,_⟩:=o;refine ⟨_,hσ,ρ,fps,rep,?_⟩;cases ef:f ρ with
  | no=>rw [ef] at q;exact q
  | exc c=>rw [ef] at q;exact λ H' fps' k=>q _ H' fps' k.ks
  | ok p=>
   obtain ⟨y,e,ρ1⟩:=p;rw [ef] at q;cases y with
   | int b=>
    intro w H1 fps1 fp k1 g1 rep1 o1 t1;rw [Own] at o1;obtain ⟨rfl,_⟩:=o1;refine .inl ⟨a,b,rfl,rfl,?_⟩;dsimp only at q;split at q
    ·rename_i hl;have bd:Bd M [] i:=⟨hm,hio,hal i,λ i j hj=>by rw [hal i] at hj;cases hj⟩
     have r2:=rep1.bind1 (y:=.int (g a b)) (v:=.int (g a b)) (al:=[]) (by rw [Own];exact ⟨rfl,rfl⟩) hl bd;refine q _ H1 _ (k1.ks.trans ⟨λ _ _ h _=>h,λ _ h=>h,λ j b hb=>.inl ⟨j,?_⟩⟩) r2;by_cases ej:j=i
     ·simp only [if_pos ej] at hb;cases hb
     ·simp only [if_neg ej] at hb;exact hb
    ·exact q.elim
   | _=>exact q.elim
 ·rename_i a d0 e0;obtain ⟨v,hσ,o⟩:=rep.own0 hal i _ _ e0;rw [Own] at o;obtain ⟨rfl,_⟩:=o;refine ⟨_,hσ,ρ,fps,rep,?_⟩;cases ef:f ρ with
  | no=>rw [ef] at q;exact q
  | exc c=>rw [ef] at q;exact λ H' fps' k=>q _ H' fps' k.ks
  | ok p=>
   obtain ⟨y,e,ρ1⟩:=p;rw [ef] at q;cases y with
   | str b=>
    intro w H1 fps1 fp k1 g1 rep1 o1 t1;rw [Own] at o1;obtain ⟨rfl,_⟩:=o1;dsimp only at q;split at q
    ·rename_i hl;refine .inr ⟨hl.2.1,a,b,rfl,rfl,hl.2.2,?_⟩;have bd:Bd M [] i:=⟨hm,hio,hal i,λ i j hj=>by rw [hal i] at hj;cases hj⟩
     have r2:=rep1.bind1 (y:=.str (a++b)) (v:=.str (a++b)) (al:=[]) (by rw [Own];exact ⟨rfl,rfl⟩) hl.1 bd;refine q _ H1 _ (k1.ks.trans ⟨λ _ _ h _=>h,λ _ h=>h,λ j b hb=>.inl ⟨j,?_⟩⟩) r2;by_cases ej:j=i
     ·simp only [if_pos ej] at hb;cases hb
     ·simp only [if_neg ej] at hb;exact hb
    ·exact q.elim
   | _=>exact q.elim
 ·exact q.elim
end
theorem qi8 {X:Cx}:PGet X (rIxL X.K):=by
 intro pins s σ H o i ov iv Q I rx ry h;obtain ⟨p,xs,k,z,rfl,rfl,hq,he,q⟩:=h;cases rx;obtain ⟨t,rfl⟩:=ry;obtain ⟨its,r,pl,hz⟩:=I.list hq;obtain ⟨j,h1,h2,h3,h4,h5⟩:=zga he;obtain ⟨w,ew,rw'⟩:=r.get h2;have hl:=r.length;have hn:=zbv;have fin:EP X pins σ Q w s:=⟨z,H,I,rw',q⟩
 by_cases h0:0<=k
 ·have hj:k.toNat=j:=by
   rw [vm9 h0 h5] at h1;exact Option.some.inj h1
  exact wpAny_getItem_list pl.isList h0 (by omega) (by rw [hj];simpa using ew) fin
 ·have hj:(k + (its.toArray.size:Int)).toNat=j:=by
   rw [seqIndex_neg (by omega) h4] at h1;rw [jb9,<- hl];exact Option.some.inj h1
  exact wpAny_getItem_list_neg pl.isList (by omega) (by rw [jb9] <;> omega) (by omega) (by rw [hj];simpa using ew) fin
section
variable {M:Fm}{ρ ρ':Rho}{σ σ':St}{H H' H'':Hp}{fps fps' fps'':Fps}{vs vs':List Nat}
end
section
variable {is:List Nat}{M:Fm}{ρ ρ':Rho}{σ σ':St}{H H' H'':Hp}{fps fps' fps'':Fps}{vs vs':List Nat}{D:Ends}
end
section
variable {is:List Nat}{M:Fm}{ρ ρ':Rho}{σ σ':St}{H H' H'':Hp}{fps fps' fps'':Fps}{vs vs':List Nat}{D:Ends}
end
section
variable {is:List Nat}{X:Cx}{M:Fm}{ρ ρ':Rho}{σ σ':St}{H H' H'':Hp}{fps fps' fps'':Fps}{vs vs':List Nat}{D:Ends}
def qo2:TSet:=λ o i v H Q=>∃ a H',o=.ref a/\DPut H a i v H'/\Q H'
def qq6:TSet:=λ o i v H Q=>qlo o i v H Q\/qo2 o i v H Q
theorem qq1 (hu:X.A.units + 1 < vm1):PSet X qo2:=by
 intro pins s σ H o i v ov iv u Q I ro ri rv h;obtain ⟨a,H',rfl,g,q⟩:=h;obtain rfl:ov=Value.ref a:=ro;exact qg4 hu I g ri rv λ s' I'=>⟨H',I',q⟩
theorem PSet.or {t t':TSet} (h:PSet X t) (h':PSet X t'):PSet X (λ o i v H Q=>t o i v H Q\/t' o i v H Q):=by
 intro pins s σ H o i v ov iv u Q I ro ri rv q;rcases q with q | q
 ·exact h pins s σ H o i v ov iv u Q I ro ri rv q
 ·exact h' pins s σ H o i v ov iv u Q I ro ri rv q
theorem qot {K:Frag}{Z:Addr->Prop}{y:PV}{u:V}{d:Nat}{w:V}{fp:List Addr} (h:sV y=some u) (o:Own K H Z y d w fp):w=u/\qai y=true:=by
 cases y <;> cases h <;> (rw [Own] at o;exact ⟨o.1,rfl⟩)
def putX (x:PV) (k y:PV):Option PV:=match x,k with
 | .lst xs,.int i=>(match ixN xs.length i with
  | some j=>some (.lst (xs.set j y))
  | none=>none)
 | .dct kvs,.tup ks=>(match keyL ks,sV y with
  | some k,some u=>if kvs.length < va5 then some (.dct (putK kvs k u)) else none
  | _,_=>none)
 | _,_=>none
def zfo (k:List Key) (y:PV):List (List Key)->List PV->List PV
 | k'::ks,x::xs=>(if k'=k then y else x)::zfo k y ks xs
 | _,_=>[]
def hasK (ks:List (List Key)) (k:List Key):Bool:=ks.any λ k'=>decide (k'=k)
def zym (ks:List (List Key)) (xs:List PV) (k:List Key) (y:PV):PV:=if hasK ks k=true then .dcl ks (zfo k y ks xs) else .dcl (ks++[k]) (xs++[y])
def qp5:PV->Option (List (List Key)×List PV)
 | .dct []=>some ([],[])
 | .dcl ks xs=>some (ks,xs)
 | _=>none
theorem zhq {K:Frag}{Z:Addr->Prop}{k:List Key}{y:PV}{w:V} (hy:Own K H Z y 0 w []):∀ {ks:List (List Key)}{xs:List PV}{ws:List V},OwnL K H Z xs 0 ws []->ks.length=xs.length->∃ ws',(ks.zip ws).map (λ kv=>if kv.1=k then (kv.1,w) else kv)=ks.zip ws'/\OwnL K H Z (zfo k y ks xs) 0 ws' []/\(zfo k y ks xs).length=ks.length
 | [],[],ws,h,_=>⟨[],rfl,by unfold zfo;rw [OwnL];exact ⟨rfl,rfl⟩,rfl⟩
 | [],_::_,ws,h,e=>by cases e
 | _::_,[],ws,h,e=>by cases e
 | k'::ks,x::xs,ws,h,e=>by
  rw [OwnL] at h;obtain ⟨v,s,f1,f2,rfl,ef,_,o1,o2⟩:=h;obtain ⟨rfl,rfl⟩:f1=[]/\f2=[]:=by simpa using ef.symm
  obtain ⟨ws',e1,o3,e3⟩:=zhq hy (k:=k) o2 (by simpa using e);refine ⟨(if k'=k then w else v)::ws',?_,?_,by unfold zfo;rw [jb1,e3,jb1]⟩
  ·rw [jg8,jc2,e1,jg8];congr 1;dsimp only;split <;> rfl
  ·unfold zfo;rw [OwnL];refine ⟨_,_,[],[],rfl,rfl,λ _ z=>(nomatch z),?_,o3⟩;split
   ·exact hy
   ·exact o1
theorem qd1 {k:List Key}:∀ {ks:List (List Key)}{ws:List V},ks.length=ws.length->((ks.zip ws).any λ kv=>decide (kv.1=k))=hasK ks k
 | [],[],_=>rfl
 | [],_::_,e=>by cases e
 | _::_,[],e=>by cases e
 | k'::ks,w::ws,e=>by
  have:=qd1 (k:=k) (ks:=ks) (ws:=ws) (by simpa using e)
  unfold hasK at this ⊢;rw [jg8,jk6,jk6,this]
theorem qdx {K:Frag}{Z:Addr->Prop}{k:List Key}{y:PV}{w:V}{ks:List (List Key)}{xs:List PV}{ws:List V} (hy:Own K H Z y 0 w []) (h:OwnL K H Z xs 0 ws []) (e:ks.length=xs.length):∃ ks' xs' ws',zym ks xs k y=.dcl ks' xs'/\putK (ks.zip ws) k w=ks'.zip ws'/\OwnL K H Z xs' 0 ws' []/\ks'.length=xs'.length:=by
 unfold zym putK;rw [qd1 (by rw [e,h.length])];by_cases hk:hasK ks k=true
 ·rw [if_pos hk,if_pos hk];obtain ⟨ws',e1,o1,e2⟩:=zhq hy (k:=k) h e;exact ⟨ks,_,ws',rfl,e1,o1,e2.symm⟩
 ·rw [if_neg hk,if_neg hk];refine ⟨_,_,ws++[w],rfl,?_,?_,by rw [jb0,jb0,e];rfl⟩
  ·rw [List.zip_append (by rw [e,h.length])];rfl
  ·have:=h.snoc hy (λ _ z=>nomatch z)
   exact this
def isL:PV->Bool
 | .lst _=>true
 | _=>false
def zzp (i:Nat) (fk f:Fx):Fs:=λ ρ=>match f ρ with
 | .ok (y,e,ρ1)=>(match ρ1[i]? with
  | some (some _)=>(match fk ρ1 with
   | .ok (k,_,ρ2)=>(match ρ2[i]? with
    | some (some (x,d))=>(match putX x k y with
     | some x'=>if d≠0/\qgu y=true then .nx (ρ2.set i (some (x',d))) else if d≠0/\e=om/\isL x=true then .nx (ρ2.set i (some (x',1))) else .no
     | none=>match qp5 x,k with
      | some (ks,xs),.tup key=>(match keyL key with
       | some kk=>if d≠0/\e=om/\ks.length < va5 then .nx (ρ2.set i (some (zym ks xs kk y,1))) else .no
       | none=>.no)
      | _,_=>.no)
    | _=>.no)
   | _=>.no)
  | _=>.no)
 | .exc c=>.exc c
 | .no=>.no
theorem Rep.poke {i:Nat}{x x':PV}{d:Nat}{a:Addr}{o':HO}{f':List Addr}{H0:Hp}{fps0:Fps} (hal:∀ i,M.al i=[]) (k0:KS M H0 fps0 H fps) (r:Rep M ρ σ H fps) (hi:ρ[i]?=some (some (x,d))) (hσ:σ[i]?=some (some (.ref a))) (ha:a∈fps i) (hs:∀ b∈f',b∈fps i)
  (o:Own M.K (upd H a o') (Zf M (λ j=>if j=i then f' else fps j)) x' d (.ref a) f'):KS M H0 fps0 (upd H a o') (λ j=>if j=i then f' else fps j)/\Rep M (ρ.set i (some (x',d))) σ (upd H a o') (λ j=>if j=i then f' else fps j):=by
 have dm:∀ b,H b≠none->upd H a o' b≠none:=λ b hb=>by
  by_cases eb:b=a
  ·rw [eb,zqe];simp
  ·rw [zqf eb];exact hb
 refine ⟨⟨λ b u hb n=>?_,λ b hb=>dm b (k0.dom b hb),λ j b hb=>?_⟩,r.change hal hi hσ (λ b u hb n=>?_) dm hs (λ h=>r.msf i _ _ h hi) o⟩
 ·have hb1:=k0.keep b u hb n;rw [zqf]
  ·exact hb1
  ·rintro rfl;rcases k0.sub i b ha with z | z
   ·exact n z
   ·rw [z] at hb;cases hb
 ·by_cases ej:j=i
  ·simp only [if_pos ej] at hb;exact k0.sub i b (hs b hb)
  ·simp only [if_neg ej] at hb;exact k0.sub j b hb
 ·rw [zqf]
  ·exact hb
  ·rintro rfl;exact n ha
theorem qk3 {f fk:Fx}{vk:List Nat}{i:Nat} (hal:∀ i,M.al i=[]) (hm:M.Ms i=false) (hv:∀ i∈vs,M.Ms i=false) (hq:tS M (zzp i fk f) D σ H):tAsg (tE M f vs) (gSub (tVar i) (tE M fk vk) qq6) D σ H:=by
 obtain ⟨ρ,fps,rep,q⟩:=hq;refine ⟨ρ,fps,rep,?_⟩;unfold zzp at q;cases ef:f ρ with
 | no=>rw [ef] at q;exact q
 | exc c=>rw [ef] at q;exact λ H' fps' k=>q _ H' fps' k.ks
 | ok p=>
  obtain ⟨y,e,ρ1⟩:=p;rw [ef] at q;intro w H1 fps1 fp k1 g1 rep1 o1 t1;dsimp only at q;cases e1:ρ1[i]? with
  | none=>rw [e1] at q;exact q.elim
  | some s1=>
   rw [e1] at q;cases s1 with
   | none=>exact q.elim
   | some p1=>
   obtain ⟨x1,d1⟩:=p1;dsimp only at q;obtain ⟨v0,hσ,_⟩:=rep1.own i _ _ e1;refine ⟨v0,hσ,ρ1,fps1,rep1,?_⟩;cases ek:fk ρ1 with
   | no=>rw [ek] at q;exact q.elim
   | exc c=>rw [ek] at q;exact q.elim
   | ok p2=>
    obtain ⟨k,ek',ρ2⟩:=p2;rw [ek] at q;intro kv H2 fps2 f2 k2 g2 rep2 o2 t2;dsimp only at q;cases e2:ρ2[i]? with
    | none=>rw [e2] at q;exact q.elim
    | some s2=>
     rw [e2] at q;cases s2 with
     | none=>exact q.elim
     | some p3=>
      obtain ⟨x,d⟩:=p3;dsimp only at q;cases ep:putX x k y with
      | none=>
       rw [ep] at q;dsimp only at q;split at q
       ·rename_i ks xs key ekv;split at q
        ·rename_i kk ekk;split at q
         ·rename_i hc;obtain ⟨hd,rfl,hlk⟩:=hc;obtain ⟨v1,hσ1,ox⟩:=rep2.own0 hal i _ _ e2;rw [hσ] at hσ1;cases hσ1;have hx:∃ a ws fc,v0=.ref a/\H2 a=some (.dT (ks.zip ws))/\fps2 i=a::fc/\a∉fc/\ks.length=xs.length/\OwnL M.K H2 (Zf M fps2) xs (pd d) ws fc:=by
           unfold qp5 at ekv;split at ekv
           ·cases ekv;rw [Own] at ox;obtain ⟨a,ea,⟨d0,_⟩ | ⟨_,ha,hf⟩⟩:=ox
            ·exact absurd d0 hd
            ·exact ⟨a,[],[],ea,ha,hf,jf8,rfl,by rw [OwnL];exact ⟨rfl,rfl⟩⟩
           ·cases ekv;rw [Own] at ox;obtain ⟨a,ws,ea,en,⟨d0,_⟩ | ⟨_,fc,ha,hf,na,ol⟩⟩:=ox
            ·exact absurd d0 hd
            ·exact ⟨a,ws,fc,ea,ha,hf,na,en,ol⟩
           ·cases ekv
          obtain ⟨a,ws,fc,rfl,ha,hfp,nac,en,hol⟩:=hx;rw [Own] at o2;obtain ⟨kb,us,rfl,hkb,okey⟩:=o2
          have:=zzz ekk okey
          subst this;have hai:a∈fps2 i:=by rw [hfp];exact ja2
          have oy:=k2.stay rep1 hv o1 t1.ndj;have n2:∀ b∈fp,¬ Zf M fps2 b:=λ b hb z=>by
           rcases z with z | ⟨j,z⟩
           ·exact t1.ndj b hb (.inl z)
           ·rcases k2.sub j b z with z | z
            ·exact t1.ndj b hb (.inr ⟨j,z⟩)
            ·obtain ⟨o,ho⟩:=Own.lsts y _ w fp o1 b hb;rw [ho] at z;cases z
          have hafp:a∉fp:=λ z=>n2 a z (.inr ⟨i,hai⟩);have hst:∃ j,a∈fps j:=⟨i,by have:=(k1.trans k2).same i hm;rw [<- this];exact hai⟩
          let Z:Addr->Prop:=Zf M (λ j=>if j=i then [a] else fps2 j);have zsub:∀ b,Z b->Zf M fps2 b:=λ b h=>by
           rcases h with z | ⟨j,z⟩
           ·exact .inl z
           ·by_cases ej:j=i
            ·simp only [if_pos ej] at z;rw [jb4.mp z];exact .inr ⟨i,hai⟩
            ·simp only [if_neg ej] at z;exact .inr ⟨j,z⟩
          have nf:∀ b∈fc,¬ Z b:=λ b hb z=>by
           have hbi:b∈fps2 i:=by rw [hfp];exact ja1 _ hb
           rcases z with z | ⟨j,z⟩
           ·exact rep2.zo i b hbi z
           ·by_cases ej:j=i
            ·simp only [if_pos ej] at z;rw [jb4.mp z] at hb;exact nac hb
            ·simp only [if_neg ej] at z;exact rep2.dj i j (vb9 ej) b hbi z
          have za:Z a:=.inr ⟨i,by simp⟩;have u1:=OwnL.freeze (Z':=Z) zsub xs _ ws fc nf hol;have u2:=Own.freeze (Z':=Z) (λ b _=>trivial) y _ w fp (λ b hb z=>n2 b hb (zsub b z)) (Own.full (Z':=λ _=>True) y w fp oy);obtain ⟨ks',xs',ws',ex',ew',ox',en'⟩:=qdx (k:=kk) u2 u1 en;have u3:=ox'.at (o:=.dT (putK (ks.zip ws) kk w)) za ⟨.d (ks.zip ws),ha⟩ (λ z=>nomatch z) λ _ _ n=>n;rw [ex'] at q;have hzl:(ks.zip ws).length < va5:=by rw [jk8];have:=Nat.min_le_left ks.length ws.length;omega
          refine .inr ⟨a,_,rfl,DPut.t ha hkb hzl,?_⟩;refine q σ _ _ ((k1.ks.trans k2.ks).write (i:=i) (f':=[]) (fp:=fp) hst λ b hb=>?_) (rep2.change (x':=.dcl ks' xs') (d':=1) (f':=[a]) hal e2 hσ (λ b u hb n=>by rw [zqf (λ z=>n (by rw [z];exact hai))];exact hb) (λ b hb=>?_) (λ b hb=>by rw [jb4.mp hb];exact hai) (λ h=>by rw [hm] at h;cases h) ?_)
          ·rcases jc0.mp hb with z | z
           ·exact .inl (by rw [z];exact hai)
           ·cases z
          ·by_cases eb:b=a
           ·rw [eb,zqe];simp
           ·rw [zqf eb];exact hb
          ·rw [Own];exact ⟨a,ws',rfl,en',.inr ⟨by decide,[],by rw [zqe,ew'],rfl,jf8,u3⟩⟩
         ·exact q.elim
        ·exact q.elim
       ·exact q.elim
      | some x'=>
       rw [ep] at q;dsimp only at q;split at q
       ·rename_i hc;obtain ⟨hd,hy⟩:=hc;obtain ⟨v1,hσ1,ox⟩:=rep2.own0 hal i _ _ e2;rw [hσ] at hσ1;cases hσ1;have k12:KS M H fps H2 fps2:=k1.ks.trans k2.ks;unfold putX at ep;split at ep
        ·rename_i xs n;split at ep
         ·rename_i j ej;cases ep;rw [Own] at o2;obtain ⟨rfl,_⟩:=o2;obtain ⟨a,ws,fc,rfl,ha,hfp,nac,hol⟩:=ox.list hd;have hai:a∈fps2 i:=by rw [hfp];exact ja2
          have ow:Own M.K H2 (Zf M fps2) y (pd d) w []:=(Own.flatA (d':=pd d) hy (k2.stay rep1 hv o1 t1.ndj)).2;obtain ⟨fc',hs',hset⟩:=hol.set ow j;have inI:∀ b,b∈a::fc'->b∈fps2 i:=λ b hb=>(jc0.mp hb).elim (λ z=>by rw [z];exact hai) λ z=>by rw [hfp];exact ja1 _ (hs' b z)
          have nz:∀ b,Zf M (λ j=>if j=i then a::fc' else fps2 j) b->Zf M fps2 b:=λ b h=>by
           rcases h with z | ⟨j,z⟩
           ·exact .inl z
           ·by_cases ej:j=i
            ·simp only [if_pos ej] at z;exact .inr ⟨i,inI b z⟩
            ·simp only [if_neg ej] at z;exact .inr ⟨j,z⟩
          refine .inl ⟨a,ws,n,j,rfl,rfl,ha,by rw [hol.length];exact ej,?_⟩;have pk:=rep2.poke (o':=.lst (ws.set j w)) (x':=.lst (xs.set j y)) (f':=a::fc') hal k12 e2 hσ hai inI (by
           rw [Own];exact ⟨a,_,rfl,.inr ⟨hd,fc',zqe,rfl,λ z=>nac (hs' a z),hset.at (.inr ⟨i,hai⟩) ⟨.l ws,ha⟩ (λ z=>nac (hs' a z)) λ b _ n z=>n (nz b z)⟩⟩)
          exact q σ _ _ pk.1 pk.2
         ·cases ep
        ·rename_i kvs ks;split at ep
         ·rename_i kk u ekk eu;split at ep
          ·rename_i hl;cases ep;obtain ⟨rfl,_⟩:=qot eu o1;rw [Own] at o2;obtain ⟨b,ws,rfl,hb,ol⟩:=o2
           have:=zzz ekk ol
           subst this;have hx:∃ a,v0=.ref a/\H2 a=some (.dT kvs)/\fps2 i=[a]:=by
            rw [Own] at ox;obtain ⟨a,ea,⟨d0,_⟩ | ⟨_,ha,hf⟩⟩:=ox
            ·exact absurd d0 hd
            ·exact ⟨a,ea,ha,hf⟩
           obtain ⟨a,rfl,ha,hf⟩:=hx;have hai:a∈fps2 i:=by rw [hf];exact ja2
           refine .inr ⟨a,_,rfl,DPut.t ha hb hl,?_⟩;have pk:=rep2.poke (o':=.dT (putK kvs kk w)) (x':=.dct (putK kvs kk w)) (f':=[a]) hal k12 e2 hσ hai (λ b hb=>by rw [jb4.mp hb];exact hai) (by
            rw [Own];exact ⟨a,rfl,.inr ⟨hd,zqe,rfl⟩⟩)
           exact q σ _ _ pk.1 pk.2
          ·cases ep
         ·cases ep
        ·cases ep
       ·split at q
        ·rename_i hc;obtain ⟨hd,rfl,hx⟩:=hc;obtain ⟨v1,hσ1,ox⟩:=rep2.own0 hal i _ _ e2;rw [hσ] at hσ1;cases hσ1;cases x with
         | lst xs=>
          unfold putX at ep;cases k with
          | int n=>
           dsimp only at ep;split at ep
           ·rename_i j ej;cases ep;rw [Own] at o2;obtain ⟨rfl,_⟩:=o2;obtain ⟨a,ws,fc,rfl,ha,hfp,nac,hol⟩:=ox.list hd;have hai:a∈fps2 i:=by rw [hfp];exact ja2
            have oy:=k2.stay rep1 hv o1 t1.ndj;have n2:∀ b∈fp,¬ Zf M fps2 b:=λ b hb z=>by
             rcases z with z | ⟨j,z⟩
             ·exact t1.ndj b hb (.inl z)
             ·rcases k2.sub j b z with z | z
              ·exact t1.ndj b hb (.inr ⟨j,z⟩)
              ·obtain ⟨o,ho⟩:=Own.lsts y _ w fp o1 b hb;rw [ho] at z;cases z
            have hafp:a∉fp:=λ z=>n2 a z (.inr ⟨i,hai⟩);have hst:∃ j,a∈fps j:=⟨i,by have:=(k1.trans k2).same i hm;rw [<- this];exact hai⟩
            have rw2:Rep (M.plus fp) ρ2 σ H2 fps2:=rep.wide (λ i j hj=>by rw [hal i] at hj;cases hj) (k1.trans k2) (g1.trans g2) rep2 λ b hb=>⟨t1.new b hb,by obtain ⟨o,ho⟩:=Own.lsts y _ w fp oy b hb;rw [ho];simp,n2 b hb⟩
            have h2:∀ b∈fp,M.H₀ b=none/\¬ M.Zo b:=λ b hb=>⟨rep.h0' (t1.new b hb),λ z=>n2 b hb (.inl z)⟩
            let Z:Addr->Prop:=Zf M (λ j=>if j=i then [a] else fps2 j);have zsub:∀ b,Z b->Zf M fps2 b:=λ b h=>by
             rcases h with z | ⟨j,z⟩
             ·exact .inl z
             ·by_cases ej:j=i
              ·simp only [if_pos ej] at z;rw [jb4.mp z];exact .inr ⟨i,hai⟩
              ·simp only [if_neg ej] at z;exact .inr ⟨j,z⟩
            have nf:∀ b∈fc,¬ Z b:=λ b hb z=>by
             have hbi:b∈fps2 i:=by rw [hfp];exact ja1 _ hb
             rcases z with z | ⟨j,z⟩
             ·exact rep2.zo i b hbi z
             ·by_cases ej:j=i
              ·simp only [if_pos ej] at z;rw [jb4.mp z] at hb;exact nac hb
              ·simp only [if_neg ej] at z;exact rep2.dj i j (vb9 ej) b hbi z
            have za:Z a:=.inr ⟨i,by simp⟩;have u1:=OwnL.freeze (Z':=Z) zsub xs _ ws fc nf hol;have u2:=Own.freeze (Z':=Z) (λ b _=>trivial) y _ w fp (λ b hb z=>n2 b hb (zsub b z)) (Own.full (Z':=λ _=>True) y w fp oy);obtain ⟨f',hs',u3⟩:=(u1.at za ⟨.l ws,ha⟩ (λ z=>nomatch z) λ _ _ n=>n).set (u2.at (o:=.lst (ws.set j w)) za ⟨.l ws,ha⟩ (λ z=>nomatch z) λ _ _ n=>n) j;obtain rfl:f'=[]:=List.eq_nil_iff_forall_not_mem.mpr λ b hb=>nomatch hs' b hb
            refine .inl ⟨a,ws,n,j,rfl,rfl,ha,by rw [hol.length];exact ej,?_⟩;refine q σ _ _ ((k1.ks.trans k2.ks).write (i:=i) (f':=[]) (fp:=fp) hst λ b hb=>?_) (rw2.rewrite hal e2 hσ ha hfp (λ z=>nomatch z) (λ b hb=>nomatch hb) (by decide) (λ h=>by rw [hm] at h;cases h) h2 ?_)
            ·rcases jc0.mp hb with z | z
             ·exact .inl (by rw [z];exact hai)
             ·cases z
            ·rw [zmi];exact u3
           ·cases ep
          | _=>cases ep
         | _=>cases hx
        ·exact q.elim
end
section
variable {X:Cx}{W:St->Nat->Hp->Prop}
end
section
variable {X:Cx}{pins pins1:List (Addr×Obj)}{σ:St}{H:Hp}{s:va3}{e:va2->va3->Prop}
end
section
variable {M:Model}{A:vc3}{E:va2->va3->Prop}{K:Frag}
end
section
variable {X:Cx}{pins:List (Addr×Obj)}{σ:St}{H H1:Hp}{s:va3}{B:Heap}{a C:Addr}{a0:va2}{c:Nat}
end
section
variable {is:List Nat}{X:Cx}{M:Fm}{ρ ρ':Rho}{σ σ':St}{H H' H'':Hp}{fps fps' fps'':Fps}{vs vs':List Nat}{D:Ends}
end
section
variable {M:Fm}{ρ ρ':Rho}{σ σ':St}{H H':Hp}{fps fps':Fps}{F F':Addr->Prop}{P P':List (Nat×V)}
end
section
variable {X:Cx}{M:Fm}{ρ:Rho}{σ:St}{H:Hp}{fps:Fps}
end
section
variable {X:Cx}{M:Fm}{ρ:Rho}{σ:St}{H H':Hp}{fps:Fps}{vs:List Nat}{fa:Fa}{Q:VK}{F:List Addr}{e:Expr}{es:List Expr}{p pos:Pos}
def qar (g:Int->Int->Int) (i:Nat) (fj f:Fx):Fs:=λ ρ=>match ρ[i]?,fj ρ with
 | some (some (.lst xs,d)),.ok (.int b,_,ρ1)=>(match f ρ1 with
  | .ok (.int w,_,ρ2)=>(match ixN xs.length b with
   | some j=>(match xs[j]? with
    | some (.int v)=>if d≠0 then .nx (ρ2.set i (some (.lst (xs.set j (.int (g v w))),d))) else .no
    | _=>.no)
   | none=>.no)
  | _=>.no)
 | _,_=>.no
theorem OwnL.atInt {K:Frag}{Z:Addr->Prop}{d:Nat}{v:Int}:∀ {xs:List PV}{ws:List V}{f:List Addr}{j:Nat},OwnL K H Z xs d ws f->xs[j]?=some (.int v)->ws[j]?=some (.int v)
 | [],ws,f,j,h,e=>by simp at e
 | x::xs,ws,f,0,h,e=>by
  cases e;rw [OwnL] at h;obtain ⟨u,s,f1,f2,rfl,_,_,h1,_⟩:=h;rw [Own] at h1;rw [h1.1];rfl
 | x::xs,ws,f,j + 1,h,e=>by
  rw [OwnL] at h;obtain ⟨u,s,f1,f2,rfl,_,_,_,h2⟩:=h;rw [je6] at e ⊢;exact h2.atInt e
theorem qk7 {g:Int->Int->Int}{f fj:Fx}{vj:List Nat}{i:Nat}{D:Ends} (hal:∀ i,M.al i=[]) (hm:M.Ms i=false) (hq:tS M (qar g i fj f) D σ H):qoe (tVar i) (tE M fj vj) (tE M f vs) (rIxL M.K) (ipI g) qlo D σ H:=by
 obtain ⟨ρ,fps,rep,q⟩:=hq;unfold qar at q;split at q
 ·rename_i xs d b db ρ1 ei e1;split at q
  ·rename_i w dw ρ2 e2;split at q
   ·rename_i j ej;split at q
    ·rename_i v0 ev0;split at q
     ·rename_i hd;obtain ⟨v,hσ,ov⟩:=rep.own0 hal i _ _ ei;obtain ⟨a0,_,_,rfl,_⟩:=ov.list hd;refine ⟨.ref a0,hσ,ρ,fps,rep,?_⟩;rw [e1];intro vb H1 fps1 fpb k1 g1 rep1 ob tb;rw [Own] at ob;obtain ⟨rfl,rfl⟩:=ob;have ei1:ρ1[i]?=some (some (.lst xs,d)):=by rw [g1.1 i hm];exact ei
      obtain ⟨v1,hσ1,ov1⟩:=rep1.own0 hal i _ _ ei1;rw [hσ] at hσ1;cases hσ1;obtain ⟨a1,ws1,f1,ea1,ha1,hf1,na1,hol1⟩:=ov1.list hd;cases ea1;refine ⟨a0,ws1,b,.int v0,rfl,rfl,.inl (.inl ha1),(by unfold atI;rw [hol1.length,ej];exact hol1.atInt ev0),ρ1,fps1,rep1,?_⟩;rw [e2];intro vw H2 fps2 fpw k2 g2 rep2 ow tw;rw [Own] at ow;obtain ⟨rfl,rfl⟩:=ow;refine ⟨v0,w,rfl,rfl,?_⟩;have ei2:ρ2[i]?=some (some (.lst xs,d)):=by rw [g2.1 i hm];exact ei1
      obtain ⟨v2,hσ2,ov2⟩:=rep2.own0 hal i _ _ ei2;rw [hσ] at hσ2;cases hσ2;obtain ⟨a2,ws2,f2,ea2,ha2,hf2,na2,hol2⟩:=ov2.list hd;cases ea2;refine ⟨a0,ws2,b,j,rfl,rfl,ha2,by rw [hol2.length];exact ej,?_⟩;have hai:a0∈fps2 i:=by rw [hf2];exact ja2
      have oy:Own M.K H2 (Zf M fps2) (.int (g v0 w)) (pd d) (.int (g v0 w)) []:=by rw [Own];exact ⟨rfl,rfl⟩
      obtain ⟨fc',hs',hset⟩:=hol2.set oy j;have inI:∀ b,b∈a0::fc'->b∈fps2 i:=λ b hb=>(jc0.mp hb).elim (λ z=>by rw [z];exact hai) λ z=>by rw [hf2];exact ja1 _ (hs' b z)
      have dm:∀ b,H2 b≠none->(upd H2 a0 (.lst (ws2.set j (.int (g v0 w))))) b≠none:=λ b h=>by
       by_cases eb:b=a0
       ·rw [eb,zqe];simp
       ·rw [zqf eb];exact h
      have nz:∀ b,Zf M (λ j=>if j=i then a0::fc' else fps2 j) b->Zf M fps2 b:=λ b h=>by
       rcases h with z | ⟨j,z⟩
       ·exact .inl z
       ·by_cases ej:j=i
        ·simp only [if_pos ej] at z;exact .inr ⟨i,inI b z⟩
        ·simp only [if_neg ej] at z;exact .inr ⟨j,z⟩
      have kw:KS M H2 fps2 (upd H2 a0 (.lst (ws2.set j (.int (g v0 w))))) (λ j=>if j=i then a0::fc' else fps2 j):=⟨λ b u hb n=>by rw [zqf (λ e=>n ⟨i,by rw [e];exact hai⟩)];exact hb,dm,λ j b hb=>by
       by_cases ej:j=i
       ·simp only [if_pos ej] at hb;exact .inl ⟨i,inI b hb⟩
       ·simp only [if_neg ej] at hb;exact .inl ⟨j,hb⟩⟩
      refine q σ _ _ ((k1.ks.trans k2.ks).trans kw) (rep2.change hal ei2 hσ (λ b u hb n=>by rw [zqf (λ e=>n (by rw [e];exact hai))];exact hb) dm inI (λ h=>by rw [hm] at h;cases h) ?_);rw [Own];exact ⟨a0,_,rfl,.inr ⟨hd,fc',zqe,rfl,λ z=>na2 (hs' a0 z),hset.at (.inr ⟨i,hai⟩) ⟨.l ws2,ha2⟩ (λ z=>na2 (hs' a0 z)) λ b _ n z=>n (nz b z)⟩⟩
     ·exact q.elim
    ·exact q.elim
   ·exact q.elim
  ·exact q.elim
 ·exact q.elim
end
def qht (X:Cx) (Q:VK):VK:=λ v H=>Q v H\/∃ a o kvs,H a=some (.frz o (.dT kvs))/\zkr X a/\Q v (upd H a (.dT kvs))
theorem ql3 {X:Cx}{e:Expr}{t:TE} (h:PE X e t):PE X e (λ σ H Q=>t σ H (qht X Q)):=λ pins s σ H Q I q=>thn (h pins s σ H _ I q) λ u s' ⟨v,H',I',r,z⟩=>z.elim (λ z=>⟨v,H',I',r,z⟩) λ ⟨a,o,kvs,ha,hX,z⟩=>⟨v,_,qd9 I' ha hX,r,z⟩
theorem pe_or {X:Cx}{e:Expr}{t u:TE} (h:PE X e t) (h':PE X e u):PE X e (λ σ H Q=>t σ H Q\/u σ H Q):=λ pins s σ H Q I q=>q.elim (h pins s σ H Q I) (h' pins s σ H Q I)
def zjf (i k:Nat) (asg:PV->Rho->Option Rho) (test:Fb) (elt:Fx):Fx:=λ ρ=>match ρ[i]? with
 | some (some (.dcl ks _,0))=>(zwm k asg test elt (ks.map tupK) ρ []).bindN λ (acc,ρ2)=>zze acc ρ2
 | _=>zxa (bVar i) k asg test elt ρ
section
variable {K:Frag}{H H':Hp}{Z:Addr->Prop}{a:Addr}{kvs:List (List Key×V)}
theorem Tmps.rdAt (k:∀ b u,H b=some u->b≠a->H' b=some u) (ha:Rd H a (.dT kvs)) (ha':Rd H' a (.dT kvs)):∀ {xs:List (PV×Nat)}{ws:List V}{fp:List Addr},a∉fp->Tmps K H Z xs ws fp->Tmps K H' Z xs ws fp
 | [],_,_,_,h=>h
 | (x,d)::xs,ws,fp,n,h=>by
  obtain ⟨v,r,f1,f2,e1,e2,dj,o,t⟩:=h;exact ⟨v,r,f1,f2,e1,e2,dj,Own.rdAt k ha ha' x d v f1 (λ z=>n (by rw [e2];exact ja8 _ z)) o,Tmps.rdAt k ha ha' (λ z=>n (by rw [e2];exact ja5 _ z)) t⟩
end
section
variable {X:Cx}{M:Fm}{ρ ρ':Rho}{σ:St}{H H':Hp}{fps fps':Fps}{a:Addr}{kvs:List (List Key×V)}{o:Obj}
theorem KD.known (h:H a=some (.dT kvs)) (hn:∀ i,a∉fps i) (ks:KD M (upd H a (.frz o (.dT kvs))) fps H' fps'):H' a=some (.frz o (.dT kvs))/\KD M H fps (upd H' a (.dT kvs)) fps'/\∀ i,a∉fps' i:=by
 have h1:H' a=some (.frz o (.dT kvs)):=ks.keep a _ zqe λ ⟨i,_,z⟩=>hn i z;refine ⟨h1,⟨λ b u hb n=>?_,λ b hb=>?_,λ i b hb=>?_,ks.same⟩,λ i z=>?_⟩
 ·by_cases e:b=a
  ·rw [e] at hb ⊢;rw [zqe,<- hb,h]
  ·rw [zqf e];exact ks.keep b u (by rw [zqf e];exact hb) n
 ·by_cases e:b=a
  ·rw [e,zqe];simp
  ·rw [zqf e];exact ks.dom b (by rw [zqf e];exact hb)
 ·rcases ks.sub i b hb with z | z
  ·exact .inl z
  ·by_cases e:b=a
   ·rw [e,zqe] at z;cases z
   ·rw [zqf e] at z;exact .inr z
 ·rcases ks.sub i a z with z | z
  ·exact hn i z
  ·rw [zqe] at z;cases z
theorem qhy {g:TG}{is vI vE vo:List Nat}{asg:PV->Rho->Option Rho}{test:Fb}{elt:Fx}{i k n:Nat}{Q:VK}{P:Fm->Prop} (hali:M.al i=[])
  (hn:σ.length=n) (hP:∀ D,P (M.comp D n vI)) (hal:∀ i,∀ j∈M.al i,M.Ms j=false) (hvI:∀ i∈vI,M.Ms i=false) (hvE:∀ i∈vE,M.Ms i=false) (his:∀ i∈is,n<=i) (hg:∀ D,GOk (M.comp D n vI) vI is g asg)
  (hvo:∀ i,i∈vE->i < n->i∈vo) (hvo2:∀ i∈vo,M.Ms i=false) (hq:tE M (zjf i k asg test elt) vo σ H Q):
  zgp k (iSeq M.K (tE M (bVar i) vI)) g (λ σ H Q=>∃ M',P M'/\tT M' test σ H Q) (λ σ H Q=>∃ M',P M'/\tE M' elt vE σ H Q) σ H Q \/
  zgp k (qmz X (tVar i)) g (λ σ H Q=>∃ M',P M'/\tT M' test σ H Q) (λ σ H Q=>∃ M',P M'/\tE M' elt vE σ H Q) σ H (qht X Q):=by
 obtain ⟨ρ,fps,rep,q⟩:=id hq;by_cases hd:∃ ks xs,ρ[i]?=some (some (.dcl ks xs,0))
 ·obtain ⟨ks,xs,ei⟩:=hd;have eB:zjf i k asg test elt ρ=((zwm k asg test elt (ks.map tupK) ρ []).bindN λ (acc,ρ2)=>zze acc ρ2):=by unfold zjf;rw [ei];rfl
  rw [eB] at q
  right
  obtain ⟨v,hσ,ow⟩:=rep.own i _ _ ei;rw [Own] at ow;obtain ⟨a,ws,ev,en,⟨_,hr,efp,ol⟩ | ⟨h,_⟩⟩:=ow
  ·obtain ⟨hr,nz⟩:=hr;rw [ev] at hσ;have hn':∀ j,a∉fps j:=λ j z=>nz (.inr ⟨j,by rw [hali];exact jf8,z⟩);have hl:n=ρ.length:=by rw [rep.len];exact hn.symm
   have lz:(ks.zip ws).length=(ks.map tupK).length:=by rw [jk8,ja3];have:=ol.length;omega
   refine ⟨.ref a,hσ,a,ks.zip ws,rfl,?_⟩;rcases hr with hr | ⟨o,hr⟩
   ·refine .inl ⟨hr,λ o hX=>?_⟩;have up:∀ b u,H b=some u->b≠a->upd H a (.frz o (.dT (ks.zip ws))) b=some u:=λ b u hb e=>by rw [zqf e];exact hb
    have un:∀ {H':Hp},∀ b u,H' b=some u->b≠a->upd H' a (.dT (ks.zip ws)) b=some u:=λ b u hb e=>by rw [zqf e];exact hb
    refine zki (els:=ks.map tupK) (Q:=qht X Q) hP hl hal hvI hvE his hg hvo hvo2 (rep.rdAt up (.inl hr) (.inr ⟨o,zqe⟩) hn') (λ {D H' fps' i} hD k' h=>⟨(k'.known hr hn').1,by rw [lz];exact h⟩) (λ {D H' fps' i} hD k' h=>⟨(k'.known hr hn').1,by rw [lz];exact h⟩) (λ {D H' fps' i x H''} hD k' h y=>?_) ?_
    ·obtain ⟨rfl,b,p',rfl,hp,hb⟩:=y;refine ⟨λ _ _ h=>h,tupK p'.1,?_,zfg hb⟩;rw [jc1,(zys hp).1];rfl
    ·cases ec:zwm k asg test elt (ks.map tupK) ρ [] with
     | no=>rw [ec] at q;exact q.elim
     | exc c=>rw [ec] at q;exact q.elim
     | ok p=>
      obtain ⟨acc,ρ2⟩:=p;rw [ec] at q;intro D us H' fps' fpl k' g' r hD hD' tm hf;obtain ⟨h1,k2,n2⟩:=k'.known hr hn';have nDa:D≠a:=λ z=>by rw [z,zqe] at hD;cases hD
      have hf':∀ b∈fpl,H b=none/\¬ Zf (M.plus [D]) fps' b:=λ b hb=>by
       obtain ⟨z1,z2⟩:=hf b hb;refine ⟨?_,z2⟩;rw [zqf (λ e=>by rw [e,zqe] at z1;cases z1)] at z1;exact z1
      have naf:a∉fpl:=λ z=>by have:=(hf a z).1;rw [zqe] at this;cases this
      refine .inr ⟨a,o,_,h1,hX,zjw rep KD.refl Agr.refl q k2 g' (r.rdAt un (.inr ⟨o,h1⟩) (.inl zqe) n2) ?_ (by rw [zqf nDa];exact hD') (Tmps.rdAt un (.inr ⟨o,h1⟩) (.inl zqe) naf tm) hf'⟩;rw [zqf nDa] at hD;exact hD
   ·refine .inr ⟨o,hr,?_⟩;have fz:∀ {H':Hp}{fps':Fps},KD M H fps H' fps'->H' a=some (.frz o (.dT (ks.zip ws))):=λ k'=>k'.keep a _ hr λ ⟨i,_,z⟩=>hn' i z;refine zki (els:=ks.map tupK) (Q:=qht X Q) hP hl hal hvI hvE his hg hvo hvo2 rep (λ {D H' fps' i} hD k' h=>⟨fz k',by rw [lz];exact h⟩) (λ {D H' fps' i} hD k' h=>⟨fz k',by rw [lz];exact h⟩) (λ {D H' fps' i x H''} hD k' h y=>?_) ?_
    ·obtain ⟨rfl,b,p',rfl,hp,hb⟩:=y;refine ⟨λ _ _ h=>h,tupK p'.1,?_,zfg hb⟩;rw [jc1,(zys hp).1];rfl
    ·cases ec:zwm k asg test elt (ks.map tupK) ρ [] with
     | no=>rw [ec] at q;exact q.elim
     | exc c=>rw [ec] at q;exact q.elim
     | ok p=>
      obtain ⟨acc,ρ2⟩:=p;rw [ec] at q;exact λ D us H' fps' fpl k' g' r hD hD' tm hf=>.inl (zjw rep KD.refl Agr.refl q k' g' r hD hD' tm hf)
  ·exact absurd rfl h
 ·have eB:zjf i k asg test elt ρ=zxa (bVar i) k asg test elt ρ:=by
   unfold zjf;split
   ·rename_i ks xs ei;exact absurd ⟨ks,xs,ei⟩ hd
   ·rfl
  rw [eB] at q
  left
  exact qbx hn hP hal hvI hvE his hg hvo hvo2 ⟨ρ,fps,rep,q⟩
end
def qgi:Expr->Bool
 | .ListComp _ _ _ _=>true
 | .SetComp _ _ _ _=>true
 | .DictComp _ _ _ _ _=>true
 | _=>false
def qri:Expr->Bool
 | .Tuple _ _ _=>true
 | .List _ _=>true
 | _=>false
def zqr (d:Stmt->Option Fs):List Stmt->Option Fs
 | []=>some sNil
 | [s]=>d s
 | s::r=>match d s,zqr d r with
  | some f,some g=>some (sSeq f g)
  | _,_=>none
def locB (S:Sx) (x:Str):Bool:=zwr S.sc x .local || zwr S.sc x .cell
def qaz (S:Sx) (i:Nat):Bool:=(decide (i≠0) || !S.msF 0) && !S.pn.contains i
def qov (iw:Iw) (asg:PV->Rho->Option Rho) (body:Fs):Fs:=match iw with
 | .rng en fa _=>zvk en fa asg body
 | .seq f vs=>zji f vs asg body
 | .vw v fa vs=>qaq v fa vs asg body
def qjt:vi7->Option ((Int->Int->Int)×Bool)
 | .Add=>some (λ i j=>i + j,true)
 | .Sub=>some (λ i j=>i - j,false)
 | _=>none
def zbg (S:Sx):List Expr->Option (List Nat)
 | []=>some []
 | .Name x _::r=>match S.slot x,zbg S r with
  | some i,some is=>if locB S x=true/\qaz S i=true/\S.msF i=false then some (i::is) else none
  | _,_=>none
 | _=>none
def Sx.nr (S:Sx):Sx:={ S with rz:=false }
def denA (S:Sx):Expr->Option D2
 | .Dict [] [] _=>some (bDct,[])
 | e=>den 60 S e
def qqo (S:Sx) (x at':Str) (apos:Pos) (e:Expr) (cpos:Pos):Option Fs:=if at' = "append" then (match S.slot x,den 60 S e with
   | some i,some (f,vs)=>if S.msF i=false/\(apos.endLine == cpos.line)=true then some (sApp i f vs) else none
   | _,_=>none) else if at' = "extend" then (match S.slot x,den 60 S e with
   | some i,some (f,vs)=>if S.msF i=false/\(apos.endLine == cpos.line)=true then some (sExt i f vs) else none
   | _,_=>none) else none
def qrm (_:Sx) (_:Expr) (_:Str) (_:Pos) (_:Expr) (_:Pos):Option Fs:=none
def denX (S:Sx):Expr->Option Fs
 | .Call fn es [] p1=>(match fn with
  | .Attribute o at' apos=>(match nmE o,es with
   | some x,[e]=>qqo S x at' apos e p1
   | none,[e]=>qrm S o at' apos e p1
   | _,_=>none)
  | .Name x p=>(match den 60 S (.Call (.Name x p) es [] p1) with
   | some (f,_)=>some (zzm f)
   | none=>none)
  | _=>none)
 | _=>none
def qfn:PV->Nat->PV->Nat->Option (PV×Nat)
 | .lst xs,d,.int i,_=>(atI xs i).map λ z=>(z,if d=om then om else dv z)
 | _,_,_,_=>none
theorem OwnL.nthF {K:Frag}{H:Hp}{Z:Addr->Prop}{d:Nat}{x:PV}:∀ {xs:List PV}{ws:List V}{f:List Addr}{j:Nat},OwnL K H Z xs d ws f->xs[j]?=some x->∃ w fx,ws[j]?=some w/\Own K H Z x d w fx/\∀ a∈fx,a∈f
 | [],_,_,_,_,e=>by cases e
 | y::ys,ws,f,j,h,e=>by
  rw [OwnL] at h;obtain ⟨v,s,f1,f2,rfl,rfl,_,h1,h2⟩:=h;cases j with
  | zero=>cases e;exact ⟨v,f1,rfl,h1,λ a ha=>ja8 _ ha⟩
  | succ j=>
   obtain ⟨w,fx,e1,o,s'⟩:=h2.nthF (j:=j) (by simpa using e);exact ⟨w,fx,by simpa using e1,o,λ a ha=>ja5 _ (s' a ha)⟩
def omF:List (PV×Nat)->Bool
 | []=>true
 | p::r=>((p.2 == om) || qgu p.1) && omF r
def qfm (xs:List (PV×Nat)):Option (PV×Nat):=if xs.length<=va5 then some (.lst (xs.map (·.1)),if omF xs then om else 1) else none
theorem Tmps.allF {K:Frag}{H:Hp}{Z:Addr->Prop}:∀ {xs:List (PV×Nat)}{ws:List V}{fp:List Addr},Tmps K H Z xs ws fp->omF xs=true->OwnL K H Z (xs.map (·.1)) om ws fp
 | [],_,_,h,_=>by rw [ji1,OwnL];exact h
 | (x,d)::xs,ws,fp,h,ha=>by
  obtain ⟨v,s,f1,f2,e1,e2,dj,h1,h2⟩:=h;unfold omF at ha;rw [ja9,jf3] at ha;rw [jc2,OwnL];rcases ha.1 with e | e
  ·have e:d=om:=eq_of_beq e;subst e;exact ⟨v,s,f1,f2,e1,e2,dj,Own.full x v f1 h1,h2.allF ha.2⟩
  ·obtain ⟨rfl,o⟩:=Own.flatA (Z':=Z) (d':=om) e h1;exact ⟨v,s,[],f2,e1,e2,dj,o,h2.allF ha.2⟩
section
variable {X:Cx}{M:Fm}{a b:Expr}{es:List Expr}{fa:Fa}{f g:Fx}{vs vs':List Nat}{pos:Pos}
theorem qlh (h:PA X es (tL M fa vs)):PE X (.List es pos) (tE M (zqd qfm fa) vs):=by
 refine zqw (qka h) λ σ H Q h=>zmy (r:=λ xs H1 Q=>xs.length<=va5/\∀ p,H1 p=none->Q (.ref p) (upd H1 p (.lst xs))) (λ xs z c ws H fps fp Q ho tm nz zd lf=>?_) h;unfold qfm at ho;split at ho
 ·rename_i hl;refine ⟨by rw [tm.length];exact hl,λ q hq=>?_⟩;cases eo:omF xs with
  | true=>rw [eo] at ho;cases ho;exact zmn lf (tm.allF eo) hq
  | false=>rw [eo] at ho;cases ho;exact zbx lf (tm.cold λ a ha z=>nz a ha z.zf) hq
 ·cases ho
theorem qlk (hv:∀ i∈vs,M.Ms i=false) (hs:zge b) (ha:PE X a (tE M f vs)) (hb:PE X b (tE M g vs')):PE X (.Subscript a b pos) (tE M (bBin qfn f g) (vs++vs')):=by
 refine zqw (qpj qkd ha hb hs) λ σ H Q h=>zwt hv (λ x d y e z c v w H fps f1 f2 Q ho o1 o2 dj nz zd lf=>?_) h;unfold qfn at ho;split at ho
 ·rename_i xs i;obtain ⟨z',ez,e2⟩:=jc3.mp ho;rw [Own] at o2;by_cases hd:d=om
  ·subst hd;rw [if_pos rfl] at e2;cases e2;obtain ⟨p,ws,fc,rfl,hp,rfl,nac,ol⟩:=o1.list (by decide:om≠0);rw [qre] at ol;unfold atI at ez;cases ej:ixN xs.length i with
   | none=>rw [ej] at ez;cases ez
   | some j=>
    rw [ej] at ez;obtain ⟨w',fz,e1,ow,sb⟩:=ol.nthF ez;refine .inl ⟨p,ws,i,w',rfl,o2.1,.inl (.inl hp),?_,lf w' H fz (λ _ _ h=>h) (Own.full _ _ _ ow) λ a ha=>.inl (ja8 _ (ja1 _ (sb a ha)))⟩;unfold atI;rw [ol.length,ej];exact e1
  ·rw [if_neg hd] at e2;cases e2;obtain ⟨p,ws,rfl,hp,ol⟩:=(cold o1 λ a ha=>nz a (ja8 _ ha)).coldL;obtain ⟨w',e1,ow⟩:=qbp ol ez;exact .inl ⟨p,ws,i,w',rfl,o2.1,.inl (.inl hp),e1,zza lf ow⟩
 ·cases ho
end
def denO (S:Sx) (e:Expr):Option D2:=match e with
 | .Subscript (.List es _) b _=>(match zjb (den 60 S) es,den 60 S b with
  | some (fa,v),some (g,u)=>if zbr b=true then some (bBin qfn (zqd qfm fa) g,v++u) else none
  | _,_=>none)
 | e=>den 60 S e
def qkl (S:Sx) (t k e:Expr):Option Fs:=match t with
 | .Name x _=>(match S.slot x,den 60 S k,denO S e with
  | some i,some (fk,_),some (f,_)=>if S.msF i=false/\zbr k=true then some (zzp i fk f) else none
  | _,_,_=>none)
 | _=>none
def qkp (S:Sx) (t e:Expr):Option Fs:=match t with
 | .Tuple es k p=>(match zbg S es,den 60 S e with
   | some is,some (f,vs)=>if qgi e=false/\qri e=false then some (sUnp (asgT is) f vs) else none
   | _,_=>none)
 | .Name x _=>(match S.slot x,denA S e with
   | some i,some (f,vs)=>if locB S x=true/\qaz S i=true then some (sSet (S.msF i) i f vs) else none
   | _,_=>none)
 | .Subscript t k _=>qkl S t k e
 | _=>none
def zfu (d:Stmt->Option Fs) (S:Sx) (body:List Stmt):Option Fs:=zqr d body
def qkr:List Str:=["table","behind"]
def forD (d:Stmt->Option Fs) (S:Sx) (x:Str) (it:Expr) (body:List Stmt):Option Fs:=match S.slot x,zfu d S body with
 | some i,some b=>if locB S x=true/\qaz S i=true/\S.msF i=false then (match it with
   | .Name y _=>if qkr.contains y=true then (match den 60 S it with
    | some (f,vs)=>some (zgx f vs (asgN i) b)
    | none=>none) else none
   | .Call (.Attribute (.Subscript o k p) at' apos) [] [] cpos=>if at' = "values" /\ (apos.endLine == cpos.line)=true then (match den 60 S (.Subscript o k p) with
    | some (f,vs)=>some (qdg f vs (asgN i) b)
    | none=>none) else none
   | .Call (.Name r _) [e1,e2,e3] [] _=>if r = "range" /\ S.glob "range" = true then (match zjb (den 60 S) [e1,e2,e3] with
    | some (fa,_)=>some (zbj fa (asgN i) b)
    | none=>none) else none
   | _=>none) else none
 | _,_=>none
def qkn (d:Stmt->Option Fs) (S:Sx) (t it:Expr) (body:List Stmt):Option Fs:=match t with
 | .Name x p=>(match forD d S x it body with
  | some f=>some f
  | none=>match S.slot x,denI (den 60 S) S it,zfu d S body with
    | some i,some iw,some b=>if locB S x=true/\qaz S i=true/\S.msF i=false/\twOk (.Name x p) iw=true then some (qov iw (asgN i) b) else none
    | _,_,_=>none)
 | .Tuple es k p=>(match zbg S es,denI (den 60 S) S it,zfu d S body with
   | some is,some iw,some b=>some (qov iw (asgT is) b)
   | _,_,_=>none)
 | _=>none
def denK (S:Sx) (e:Expr):Option D2:=match e with
 | .ListComp elt [⟨tg,.Name y p,c0::ifs,0⟩] scope _=>(match S.slot y,tgA S.N.length tg with
  | some i,some (xs,asg)=>if qkr.contains y=true/\S.msF i=false/\zpo S scope xs (i::S.alF i)=true then (match zhx (den 60 (zqt S scope xs (i::S.alF i))) (c0::ifs),den 60 (zqt S scope xs (i::S.alF i)) elt with
   | some t,some (g,vE)=>some (zjf i xs.length asg t g,(i::S.alF i)++vE.filter (λ i=>decide (i < S.N.length)))
   | _,_=>none) else none
  | _,_=>none)
 | _=>none
def qkk (S:Sx) (e:Expr):Option Fs:=match nmE e with
 | some x=>(match S.slot x with
   | some i=>if S.msF i=true then none else some (zjh i)
   | none=>none)
 | none=>(match denK S e with
   | some (f,vs)=>some (sRet f)
   | none=>(match den 60 S e with
    | some (f,vs)=>some (sRet f)
    | none=>none))
def qko (S:Sx) (t:Expr) (op:vi7) (e:Expr):Option Fs:=match t with
 | .Name x _=>(match S.slot x,den 60 S e,qjt op with
  | some i,some (f,_),some (g,sd)=>if locB S x=true/\qaz S i=true/\S.msF i=false then some (sAug g sd i f) else none
  | _,_,_=>none)
 | .Subscript o k _=>(match o with
  | .Name x _=>(match S.slot x,den 60 S k,den 60 S e,qjt op with
   | some s,some (fj,_),some (f,_),some (g,_)=>if S.msF s=false/\zbr k=true then some (qar g s fj f) else none
   | _,_,_,_=>none)
  | _=>none)
 | _=>none
def Sx.bare (S:Sx):Sx:={ S with ms:=[] }
def denT (S:Sx) (c:Expr):Option D2:=(den 60 S c).or (den 60 S.bare c)
def zyl (d:Stmt->Option Fs) (S:Sx):Stmt->Option Fs
 | .Raise _ _ _=>some sNo
 | .Expr v _=>denX S v
 | .Assign [t] e _=>qkp S t e
 | .If c a b _=>match denT S c,zqr d a,zqr d b with
  | some (f,_),some s,some t=>some (sIf (bT f) s t)
  | _,_,_=>none
 | .For t it body [] _=>qkn d S t it body
 | .AugAssign t op e _=>qko S t op e
 | .Return (some e) _=>qkk S e
 | _=>none
def qgy:Nat->Sx->Stmt->Option Fs
 | 0,_,_=>none
 | n + 1,S,st=>some ((zyl (qgy n S) S st).getD sNo)
section
variable {X:Cx}{P:vb0}{w:vb7}{K:Frag}{mg:Str->Option va2}{base:Heap}{lvl:Nat}{S:Sx}{Wx:St->Nat->Hp->Prop}{M:Fm}{f g:Fx}{vs vs':List Nat}{σ:St}{H:Hp}{Q:VK}
structure SM (X:Cx) (M:Fm) (K:Frag) (S:Sx) (Wx:St->Nat->Hp->Prop):Prop where
 ms:MS M K S Wx
 al:∀ i,M.al i=[]
 io:M.io≠none->S.msF 0=true
 pn:∀ p∈M.pn,p.1∈S.pn
 fn:∀ x,X.fn x=true
 nd:S.N.Nodup
 st:X.stack=X.env::X.outer
 fr:X.env.frame=some X.env.locals
def zgd (P:vb0) (w:vb7) (K:Frag) (mg:Str->Option va2) (base:Heap) (lvl:Nat) (S:Sx) (st:Stmt) (f:Fs):Prop:=∀ {Wx} X M,XS X P w K mg base lvl S Wx->SM X M K S Wx->PS X st (tS M f)
theorem zvv {d:Stmt->Option Fs} (hd:∀ st f,d st=some f->zgd P w K mg base lvl S st f):∀ (sts:List Stmt) (f:Fs),zqr d sts=some f->∀ {Wx} X M,XS X P w K mg base lvl S Wx->SM X M K S Wx->PSs X sts (tS M f)
 | [],f,h=>by cases h;exact λ X M xs sm=>qe1 qlv λ D σ H q=>qn3 q
 | [s],f,h=>λ X M xs sm=>qlu (hd s f h X M xs sm)
 | s::s'::r,f,h=>by
  unfold zqr at h;split at h
  ·rename_i f1 f2 h1 h2;cases h;exact λ X M xs sm=>qe1 (qic (hd s f1 h1 X M xs sm) (zvv hd (s'::r) f2 h2 X M xs sm)) λ D σ H q=>qn1 q
  ·cases h
theorem zyc {x:Str}{i:Nat} (h:S.slot x=some i):S.N[i]?=some x:=by
 unfold Sx.slot at h;split at h
 ·exact zju h
 ·cases h
theorem zhn {x:Str} (h:locB S x=true):Loc S.sc x:=by
 unfold locB at h;rw [jf3] at h;exact h.elim (λ h=>.inl (zwh h)) λ h=>.inr (zwh h)
theorem zkb {i:Nat} (h:qaz S i=true) (sm:SM X M K S Wx):M.Fre i:=by
 unfold qaz at h;rw [ja9,jf3] at h;refine ⟨λ hio=>?_,λ p hp e=>?_⟩
 ·rcases h.1 with h | h
  ·simpa using h
  ·rw [sm.io hio] at h;cases h
 ·have z:=sm.pn p hp;rw [e] at z;have h2:=h.2;rw [List.contains_iff_mem.mpr z] at h2;cases h2
theorem qlb {e:Expr}{t:Option Expr}{l:Nat}{env:Env} (h:qgi e=false):swapsWith e t l env=pure false:=by
 cases e with
 | ListComp _ _ _ _=>cases h
 | SetComp _ _ _ _=>cases h
 | DictComp _ _ _ _ _=>cases h
 | _=>rfl
theorem qjh (GX:GX K mg S.xc) (G:GS P w K mg base lvl S.Γ) (Gm:GSm P w K mg base lvl S.Γm) (hS:∀ i,∀ j∈S.alF i,S.msF j=false) {n:Nat}{elt:Expr}{gs:List Comprehension}{scope:vd4}{pos:Pos} (h:den (n + 1) S (.ListComp elt gs scope pos)=some (f,vs)):
  ∃ tg ys asg it ifs iw t g vE,gs=[⟨tg,it,ifs,0⟩]/\CompParts P w K mg base lvl S scope tg ys asg it elt ifs iw t g vE/\f=qhn iw ys.length asg t g/\vs=iw.vs++vE.filter (λ i=>decide (i < S.N.length)):=by
 have hd:∀ e f vs,den n S e=some (f,vs)->Good P w K mg base lvl S e f vs:=λ e f vs h=>zpi GX G Gm n S e f vs rfl rfl rfl hS h;replace h:zzb (den n) S (.ListComp elt gs scope pos)=some (f,vs):=h
 match gs,h with
 | [],h=>simp [zzb] at h
 | _::_::_,h=>simp [zzb] at h
 | [⟨tg,it,ifs,a⟩],h=>
  by_cases ha:a=0
  ·subst ha;replace h:(match tgA S.N.length tg,denI (den n S) S it with
    | some (xs,asg),some iw=>if zpo S scope xs iw.vs=true/\twOk tg iw=true then (match zhx (den n (zqt S scope xs iw.vs)) ifs,den n (zqt S scope xs iw.vs) elt with
     | some t,some (g,vE)=>some (qhn iw xs.length asg t g,iw.vs++vE.filter (λ i=>decide (i < S.N.length)))
     | _,_=>none) else none
    | _,_=>none)=some (f,vs):=h
   split at h
   ·rename_i ys asg iw ht hi;split at h
    ·rename_i hc;split at h
     ·rename_i t g vE h1 h2;cases h;have ck:=qhe hc.1;have giw:=zft hd (zfs n S) G.1 hi;have hS2:∀ i,∀ j∈(zqt S scope ys iw.vs).alF i,(zqt S scope ys iw.vs).msF j=false:=λ i j hj=>by
       rw [zjy] at hj;show S.msF j=false;split at hj
       ·exact hS i j hj
       ·split at hj
        ·exact giw.1 j hj
        ·cases hj
      have hd2:∀ e f vs,den n (zqt S scope ys iw.vs) e=some (f,vs)->Good P w K mg base lvl (zqt S scope ys iw.vs) e f vs:=λ e f vs h=>zpi GX G Gm n _ e f vs rfl rfl rfl hS2 h;exact ⟨tg,ys,asg,it,ifs,iw,t,g,vE,rfl,⟨ht,hc.2,ck,giw,hd2 _ _ _ h2,zpj hd2 h1⟩,rfl,rfl⟩
     ·cases h
    ·cases h
   ·cases h
  ·simp [zzb,ha] at h
theorem qgz (GX:GX K mg S.xc) (G:GS P w K mg base lvl S.Γ) (Gm:GSm P w K mg base lvl S.Γm) (hS:∀ i,∀ j∈S.alF i,S.msF j=false) {e:Expr} (h:denK S e=some (f,vs)):(∀ i∈vs,S.msF i=false)/\∀ {Wx} X M,XS X P w K mg base lvl S Wx->SM X M K S Wx->PE X e (tE M f vs):=by
 unfold denK at h;split at h
 ·rename_i elt tg y p c0 ifs scope pos;split at h
  ·rename_i i ys asg hi ht;split at h
   ·rename_i hc;split at h
    ·rename_i t g vE h1 h2;cases h;have ck:=qhe hc.2.2;have hn:den 60 S (.Name y p)=some (bVar i,i::S.alF i):=by
      show zzb (den 59) S (.Name y p)=_;simp [zzb,hi,hc.2.1]
     have giw:IwOk P w K mg base lvl S (.Name y p) (.seq (bVar i) (i::S.alF i)):=qct (zpi GX G Gm 60 S _ _ _ rfl rfl rfl hS hn) λ _ _ _ z=>nomatch z
     have hS2:∀ k,∀ j∈(zqt S scope ys (i::S.alF i)).alF k,(zqt S scope ys (i::S.alF i)).msF j=false:=λ k j hj=>by
      rw [zjy] at hj;show S.msF j=false;split at hj
      ·exact hS k j hj
      ·split at hj
       ·exact giw.1 j hj
       ·cases hj
     have hd2:∀ e f vs,den 60 (zqt S scope ys (i::S.alF i)) e=some (f,vs)->Good P w K mg base lvl (zqt S scope ys (i::S.alF i)) e f vs:=λ e f vs h=>zpi GX G Gm 60 _ e f vs rfl rfl rfl hS2 h;have c:CompParts P w K mg base lvl S scope tg ys asg (.Name y p) elt (c0::ifs) (.seq (bVar i) (i::S.alF i)) t g vE:=⟨ht,rfl,ck,giw,hd2 _ _ _ h2,zpj hd2 h1⟩
     refine ⟨zpm c,λ X M xs sm=>?_⟩;obtain ⟨is,gg,his,hg,hpg,hpt,hpe⟩:=zpn (pos:=pos) c xs sm.ms;have hf:=zvt (n:=0) (env:=X.env) (iter:=.Name y p) (f:=bVar 0) (vs:=[]) (λ _ _ _ z=>nomatch z);have A:=zff (pos:=pos) (c.chk.comp xs) xs.calm (c.iwo.2.2 X M xs sm.ms tg) hpg hpt hpe hf;have B:=ql3 (zff (pos:=pos) (c.chk.comp xs) xs.calm (qfb (tg:=tg) (xs.var hi)) hpg hpt hpe hf);refine qfe (pe_or A B) λ σ H Q hl q=>?_;exact qhy (sm.al i) (by rw [hl,xs.N]) (λ D=>c.chk.ms' sm.ms c.iwo.1 D) sm.ms.als (sm.ms.v c.iwo.1) (λ i hi=>by rw [sm.ms.ms];exact c.elt.1 i hi) his hg (λ i h1 h2=>ja5 _ (jd4.mpr ⟨h1,by simpa using h2⟩)) (sm.ms.v (zpm c)) q
    ·cases h
   ·cases h
  ·cases h
 ·cases h
theorem zwf (xs:XS X P w K mg base lvl S Wx):PassesOwn (vb3 X.prog X.w) X.A X.env X.xe:=xs.po
theorem zbf {es:List Expr}{is:List Nat} (h:zbg S es=some is) (xs:XS X P w K mg base lvl S Wx) (sm:SM X M K S Wx):PGs X es (zmq is)/\(vd1 es X.env).length=is.length/\(vd1 es X.env).findIdx? (·.1)=none/\∀ i∈is,Bd M [] i:=by
 induction es generalizing is with
 | nil=>cases h;exact ⟨qfc,rfl,rfl,λ _ z=>nomatch z⟩
 | cons e es ih=>
  unfold zbg at h;split at h
  ·cases ‹_::_=[]›
  ·rename_i x px r heq;cases heq;split at h
   ·rename_i i js hi hr;split at h
    ·rename_i hc;cases h;obtain ⟨h1,h2,h3,h4⟩:=ih hr;have hN:X.N.Nodup:=by rw [xs.N];exact sm.nd
     have hi':X.N[i]?=some x:=by rw [xs.N];exact zyc hi
     have hx:Loc X.env.scope x:=by rw [xs.sc];exact zhn hc.1
     refine ⟨qcc (zbn hN hi' hx (.inl (sm.fn x))) h1 rfl,by rw [vd1,jb1,h2,jb1] <;> (intros;contradiction),?_,λ j hj=>?_⟩
     ·rw [vd1,jo7,h3] <;> first | rfl | (intros;contradiction)
     ·rcases jc0.mp hj with z | z
      ·rw [z];exact ⟨by rw [sm.ms.ms];exact hc.2.2,zkb hc.2.1 sm,sm.al i,sm.ms.als⟩
      ·exact h4 j z
    ·cases h
   ·cases h
  ·cases h
def Fm.bare (M:Fm):Fm:={ M with Ms:=λ _=>false,H₀:=λ _=>none,io:=none,pn:=[] }
theorem Rep.bare {ρ:Rho}{fps:Fps} (r:Rep M ρ σ H fps):Rep M.bare ρ σ H fps where
 own:=r.own
 non:=r.non
 dj:=r.dj
 zo:=r.zo
 fr:=λ _ _ _ _=>rfl
 zd:=r.zd
 len:=r.len
 msf:=λ _ _ _ h=>nomatch h
 h0:=λ _ h=>absurd rfl h
 iov:=And.intro (λ _ h=>nomatch h) (λ _ h=>nomatch h)
theorem qk0 {fb:Fb}{Q:Bool->Hp->Prop} (hq:tT M fb σ H Q):tT M.bare fb σ H Q:=by
 obtain ⟨ρ,fps,rep,q⟩:=hq;refine ⟨ρ,fps,rep.bare,?_⟩;have gr:∀ H' fps',KD M.bare H fps H' fps'->∀ a o,H a=some o->H' a=some o:=λ H' fps' k a o h=>k.keep a o h λ ⟨_,z,_⟩=>nomatch z
 cases e:fb ρ with
 | ok p=>
  obtain ⟨b,ρ'⟩:=p;rw [e] at q;intro H' fps' k ag _;have e1:ρ'=ρ:=jp0 λ i=>ag.1 i rfl;subst e1;exact q H' fps (KD.grow (gr H' fps' k)) Agr.refl (rep.grow (gr H' fps' k))
 | exc c=>
  rw [e] at q;intro H' fps' k;exact q H' fps (KD.grow (gr H' fps' k))
 | no=>rw [e] at q;exact q
theorem qm9 (GX:GX K mg S.xc) (G:GS P w K mg base lvl S.Γ) (Gm:GSm P w K mg base lvl S.Γm) (hS:∀ i,∀ j∈S.alF i,S.msF j=false) {c:Expr}{f:Fx}{vs:List Nat} (h:denT S c=some (f,vs)) (xs:XS X P w K mg base lvl S Wx) (m:MS M K S Wx):PT X c (tT M (bT f)):=by
 unfold denT at h;cases e:den 60 S c with
 | some p=>
  rw [e] at h;cases h;exact ((zpi GX G Gm 60 S c f vs rfl rfl rfl hS e).2.2 X M xs m).2
 | none=>
  rw [e] at h;have h2:den 60 S.bare c=some (f,vs):=h;have gd:=(zpi (S:=S) GX G Gm 60 S.bare c f vs rfl rfl rfl (λ _ _ _=>rfl) h2).2.2 X M.bare ⟨xs.prog,xs.w,xs.K,xs.mg,xs.base,xs.N,xs.sc,xs.calm,xs.room,xs.po,xs.ps,xs.rs⟩ ⟨m.K,rfl,m.al,λ _ _ _=>rfl,m.W,λ _ h=>nomatch h⟩;exact zmg gd.2 λ σ H Q q=>qk0 q
theorem zjc {d:Stmt->Option Fs}{body:List Stmt}{f:Fs} (hd:∀ e f vs,den 60 S e=some (f,vs)->Good P w K mg base lvl S e f vs) (ih:∀ st f,d st=some f->zgd P w K mg base lvl S st f) (h:zfu d S body=some f):∀ {Wx} X M,XS X P w K mg base lvl S Wx->SM X M K S Wx->PSs X body (tS M f):=by
 exact zvv ih _ _ h
theorem qm6 {d:Stmt->Option Fs}{body:List Stmt}{f:Fs}{x:Str}{it:Expr}{px pos:Pos} (hb:∀ x∈zkq,mg x=none) (hd:∀ e f vs,den 60 S e=some (f,vs)->Good P w K mg base lvl S e f vs) (ih:∀ st f,d st=some f->zgd P w K mg base lvl S st f) (h:forD d S x it body=some f):zgd P w K mg base lvl S (.For (.Name x px) it body [] pos) f:=by
 unfold forD at h;split at h
 ·rename_i i b hi hbody;split at h
  ·rename_i hc;have base:∀ {Wx} X M,XS X P w K mg base lvl S Wx->SM X M K S Wx->PSs X body (tS M b)/\GOk M [] [i] (zjk i) (asgN i)/\PG X (.Name x px) (zjk i):=λ X M xs sm=>by
    have hN:X.N.Nodup:=by rw [xs.N];exact sm.nd
    have hi':X.N[i]?=some x:=by rw [xs.N];exact zyc hi
    have hx:Loc X.env.scope x:=by rw [xs.sc];exact zhn hc.1
    exact ⟨zjc hd ih hbody X M xs sm,qgr ⟨by rw [sm.ms.ms];exact hc.2.2,zkb hc.2.1 sm,sm.al i,sm.ms.als⟩,zbn hN hi' hx (.inl (sm.fn x))⟩
   split at h
   ·rename_i y py;split at h
    ·split at h
     ·rename_i f1 v1 he;cases h;have g:=hd _ _ _ he;intro Wx X M xs sm;obtain ⟨hbd,hg,hpg⟩:=base X M xs sm;have hf:=zvt (n:=0) (env:=X.env) (iter:=.Name y py) (f:=bVar 0) (vs:=[]) (λ _ _ _ z=>nomatch z);have pe:=(g.2.2 X M xs sm.ms).1;refine zwa (qq9 (zve (pos:=pos) (zwf xs) xs.calm (qj8 pe) hpg hbd hf) (qe2 (zve (pos:=pos) (zwf xs) xs.calm (qfb pe) hpg hbd hf))) λ D σ H q=>?_
      have:=qk5 (X:=X) sm.al (sm.ms.v g.1) hg q
      rw [sm.ms.k xs] at this;exact this
     ·cases h
    ·cases h
   ·rename_i o k p at' apos cpos;split at h
    ·rename_i hv;obtain ⟨rfl,hl⟩:=hv;split at h
     ·rename_i f1 v1 he;cases h;have g:=hd _ _ _ he;intro Wx X M xs sm;obtain ⟨hbd,hg,hpg⟩:=base X M xs sm;have hf:=zvt (n:=0) (env:=X.env) (iter:=.Call (.Attribute (.Subscript o k p) "values" apos) [] [] cpos) (f:=bVar 0) (vs:=[]) (λ _ _ _ z=>nomatch z);have pe:=(g.2.2 X M xs sm.ms).1;exact zwa (qe2 (zve (pos:=pos) (zwf xs) xs.calm (qlz (ql2 (apos:=apos) (cpos:=cpos) pe rfl hl)) hpg hbd hf)) λ D σ H q=>qk4 (X:=X) sm.al (sm.ms.v g.1) hg q
     ·cases h
    ·cases h
   ·rename_i r pr e1 e2 e3 cpos;split at h
    ·rename_i hr;obtain ⟨rfl,hgl⟩:=hr;split at h
     ·rename_i fa v1 he;cases h;have g:=zwl hd _ _ _ he;intro Wx X M xs sm;obtain ⟨hbd,hg,hpg⟩:=base X M xs sm;have hs:=g.2.1;rw [jg9,ja9] at hs;have hf:=zvt (n:=0) (env:=X.env) (iter:=.Call (.Name "range" pr) [e1,e2,e3] [] cpos) (f:=bVar 0) (vs:=[]) (λ _ _ _ z=>nomatch z);exact zwa (zve (pos:=pos) (zwf xs) xs.calm (ql1 (xs.gl hgl) (by rw [xs.mg];exact hb _ (by decide +kernel)) (g.2.2 X M xs sm.ms) (zqy (zqn hs.1)) (zjp hs.2)) hpg hbd hf) λ D σ H q=>qhw (vs:=v1) hg q
     ·cases h
    ·cases h
   ·cases h
  ·cases h
 ·cases h
theorem qnb {e:Expr}{f:Fx}{vs:List Nat} (hd:∀ e f vs,den 60 S e=some (f,vs)->Good P w K mg base lvl S e f vs) (h:denO S e=some (f,vs)):Good P w K mg base lvl S e f vs:=by
 unfold denO at h;split at h
 ·split at h
  ·rename_i f1 v1 f2 v2 h1 h2;split at h
   ·rename_i hn;cases h;have g1:=zwl hd _ _ _ h1;have g2:=hd _ _ _ h2;exact zxh (zxb g1.1 g2.1) rfl (λ _ _=>rfl) λ X M xs m=>qlk (m.v g1.1) (zyw hn) (qlh (g1.2.2 X M xs m)) (g2.2.2 X M xs m).1
   ·cases h
  ·cases h
 ·exact hd _ _ _ h
theorem qbj (GX:GX K mg S.xc) (G:GS P w K mg base lvl S.Γ) (Gm:GSm P w K mg base lvl S.Γm) (hS:∀ i,∀ j∈S.alF i,S.msF j=false) {d:Stmt->Option Fs} (ih:∀ (st:Stmt) (f:Fs),d st=some f->zgd P w K mg base lvl S st f):∀ (st:Stmt) (f:Fs),zyl d S st=some f->zgd P w K mg base lvl S st f:=by
 have hd:∀ e f vs,den 60 S e=some (f,vs)->Good P w K mg base lvl S e f vs:=λ e f vs h=>zpi GX G Gm 60 S e f vs rfl rfl rfl hS h;have hdO:∀ e f vs,denO S e=some (f,vs)->Good P w K mg base lvl S e f vs:=λ e f vs h=>qnb hd h;have hdA:∀ e f vs,denA S e=some (f,vs)->Good P w K mg base lvl S e f vs:=λ e f vs h=>by
  unfold denA at h;split at h
  ·cases h;exact zxh (λ _ z=>nomatch z) rfl (λ _ _=>rfl) λ X M xs m=>qoo
  ·exact hd _ _ _ h
 intro st f h;have core:True->zgd P w K mg base lvl S st f:=λ _=>by
  unfold zyl at h;split at h
  ·cases h;intro Wx X M xs sm pins s σ H D I q;exact (qcb pins s σ H D I (qn2 (t:=qeg) q))
  ·rename_i v pos;unfold denX at h;split at h
   ·rename_i fn es cpos;split at h
    ·rename_i o at' apos;split at h
     ·rename_i x e hx;obtain ⟨px,rfl⟩:=qfr hx;unfold qqo at h;split at h
      ·rename_i hat;subst hat;split at h
       ·rename_i i f1 v1 hi he;split at h
        ·rename_i hc;cases h;have g:=hd _ _ _ he;intro Wx X M xs sm;have hb:=qpk (X:=X) (cpos:=cpos) PySem.F.plainAttrs_list PySem.F.slot_list_append PySem.F.type_list_append zhl (xs.var (pos:=px) hi) (zyz (g.2.2 X M xs sm.ms).1 zhh (zqy (zqn g.2.1))) rfl (zml g.2.1 X.env cpos) hc.2 (zqy (zqn g.2.1)) rfl;refine zwa (qav hb rfl) λ D σ H q=>?_
         have:=qn6 (D:=D) sm.al (sm.ms.v g.1) (by rw [sm.ms.ms];exact hc.1) q
         rw [sm.ms.k xs] at this;exact this
        ·cases h
       ·cases h
      ·split at h
       ·rename_i hat;subst hat;split at h
        ·rename_i i f1 v1 hi he;split at h
         ·rename_i hc;cases h;have g:=hd _ _ _ he;intro Wx X M xs sm;have hb:=qpk (X:=X) (cpos:=cpos) PySem.F.plainAttrs_list PySem.F.slot_list_extend PySem.F.type_list_extend qft (xs.var (pos:=px) hi) (zyz (g.2.2 X M xs sm.ms).1 zhh (zqy (zqn g.2.1))) rfl (zml g.2.1 X.env cpos) hc.2 (zqy (zqn g.2.1)) rfl;refine zwa (qav hb rfl) λ D σ H q=>?_
          have:=qn4 (D:=D) sm.al (sm.ms.v g.1) (by rw [sm.ms.ms];exact hc.1) q
          rw [sm.ms.k xs] at this;exact this
         ·cases h
        ·cases h
       ·cases h
     ·rename_i e hx;cases h
     ·cases h
    ·rename_i x p;split at h
     ·rename_i f1 v1 he;cases h;intro Wx X M xs sm;exact zwa (qav ((hd _ _ _ he).2.2 X M xs sm.ms).1 rfl) λ D σ H q=>qk6 q
     ·cases h
    ·cases h
   ·cases h
  ·rename_i t e pos;unfold qkp at h;split at h
   ·rename_i es k p;split at h
    ·rename_i is f1 v1 hs he;split at h
     ·rename_i hc;cases h;have g:=hd _ _ _ he;intro Wx X M xs sm;obtain ⟨h1,h2,h3,h4⟩:=zbf hs xs sm;have mk:M.K=X.K:=sm.ms.k xs;refine zwa (qj7 (g.2.2 X M xs sm.ms).1 (qfd xs.calm h1 h2 h3) ?_ ?_ ?_) λ D σ H q=>?_
      ·cases e <;> first | rfl | (cases hc.1)
      ·cases e <;> first | rfl | (cases hc.2)
      ·rfl
      ·have:=qn0 sm.al (sm.ms.v g.1) (qm2 h4) q
       rw [mk] at this;exact this
     ·cases h
    ·cases h
   ·rename_i x px;split at h
    ·rename_i i f1 v1 hi he;split at h
     ·rename_i hc;cases h;have g:=hdA _ _ _ he;intro Wx X M xs sm;have hN:X.N.Nodup:=by rw [xs.N];exact sm.nd
      have hi':X.N[i]?=some x:=by rw [xs.N];exact zyc hi
      have hx:Loc X.env.scope x:=by rw [xs.sc];exact zhn hc.1
      have mi:M.Ms i=S.msF i:=by rw [sm.ms.ms]
      cases hcp:qgi e with
      | false=>exact zwa (qj6 hN hi' hx (g.2.2 X M xs sm.ms).1 (qlb hcp) (.inl (sm.fn x))) λ D σ H q=>qjx sm.al (sm.ms.v g.1) mi (zkb hc.2 sm) q
      | true=>
       cases e with
       | ListComp elt gs scope cpos=>
        obtain ⟨tg,ys,asg,it,ifs,iw,t,g2,vE,rfl,cp,rfl,rfl⟩:=qjh GX G Gm hS (show den 60 S _=_ from he);obtain ⟨wi,gg,h1,h2,h3,h4,h5,h6⟩:=zmt (pos:=cpos) cp xs sm.ms;refine qo8 (qdi hN hi' hx (.inl (sm.fn x)) h2 xs.calm h1 h3 h4 h5 (zvt (n:=0) (f:=g2) (vs:=[]) cp.iwo.2.1)) λ D σ H hl q=>?_;exact h6 σ H _ (by rw [hl,xs.N]) (qjx sm.al (sm.ms.v g.1) mi (zkb hc.2 sm) q)
       | SetComp _ _ _ _=>simp [denA,den,zzb] at he
       | DictComp _ _ _ _ _=>simp [denA,den,zzb] at he
       | _=>cases hcp
     ·cases h
    ·cases h
   ·rename_i t k ps;unfold qkl at h;split at h
    ·rename_i x px;split at h
     ·rename_i i fk vk f1 v1 hi hk he;split at h
      ·rename_i hc;cases h;have g:=hdO _ _ _ he;intro Wx X M xs sm;refine zwa (qj7 (g.2.2 X M xs sm.ms).1 (qpd (xs.var hi) ((hd _ _ _ hk).2.2 X M xs sm.ms).1 (PSet.or qb2 (qq1 (by have:=xs.room.units;omega))) ?_) ?_ ?_ rfl) λ D σ H q=>qk3 sm.al (by rw [sm.ms.ms];exact hc.1) (sm.ms.v g.1) q
       ·intro v;cases k <;> first | rfl | (cases hc.2)
       ·cases e <;> rfl
       ·cases e <;> rfl
      ·cases h
     ·cases h
    ·cases h
   ·cases h
  ·split at h
   ·rename_i f1 v1 s t hc ha hb;cases h;intro Wx X M xs sm;exact zwa (qra (qm9 GX G Gm hS hc xs sm.ms) (zvv ih _ _ ha X M xs sm) (zvv ih _ _ hb X M xs sm)) λ D σ H q=>qqy q
   ·cases h
  ·rename_i t it body pos;unfold qkn at h;split at h
   ·rename_i x px;split at h
    ·rename_i f' hf;cases h;exact λ {Wx}=>qm6 G.1 hd ih hf
    split at h
    ·rename_i i iw b hi hw hb;split at h
     ·rename_i hc;cases h;intro Wx X M xs sm;have hN:X.N.Nodup:=by rw [xs.N];exact sm.nd
      have hi':X.N[i]?=some x:=by rw [xs.N];exact zyc hi
      have hx:Loc X.env.scope x:=by rw [xs.sc];exact zhn hc.1
      have giw:=zft hd (zfs 60 S) G.1 hw;have hbd:=zjc hd ih hb X M xs sm;have hg:GOk M [] [i] (zjk i) (asgN i):=qgr ⟨by rw [sm.ms.ms];exact hc.2.2.1,zkb hc.2.1 sm,sm.al i,sm.ms.als⟩;have hpg:PG X (.Name x px) (zjk i):=zbn hN hi' hx (.inl (sm.fn x));have hpi:=giw.2.2 X M xs sm.ms (.Name x px);have hf:=zvt (n:=0) (env:=X.env) (f:=bVar 0) (vs:=[]) giw.2.1;cases iw with
      | rng en fa vs=>
       rcases hpi with ⟨rfl,hpi⟩ | ⟨rfl,hpi⟩
       ·exact zwa (zve (zwf xs) xs.calm hpi hpg hbd hf) λ D σ H q=>qed hg q
       ·exact zwa (zve (zwf xs) xs.calm hpi hpg hbd hf) λ D σ H q=>qec hg q
      | seq f vs=>exact zwa (zve (zwf xs) xs.calm hpi hpg hbd hf) λ D σ H q=>qao sm.al (sm.ms.v giw.1) hg q
      | vw v fa vs=>exact zwa (zve (zwf xs) xs.calm (hpi hc.2.2.2) hpg hbd hf) λ D σ H q=>qeb sm.al (sm.ms.v giw.1) hg q
     ·cases h
    ·cases h
   ·rename_i es k p;split at h
    ·rename_i is iw b hs hw hb;cases h;intro Wx X M xs sm;have giw:=zft hd (zfs 60 S) G.1 hw;have hbd:=zjc hd ih hb X M xs sm;obtain ⟨h1,h2,h3,h4⟩:=zbf hs xs sm;have mk:M.K=X.K:=sm.ms.k xs;have hg:=qm2 (M:=M) (al:=[]) h4;have hpg:=qfd (pos:=p) (k:=k) xs.calm h1 h2 h3;rw [<- mk] at hpg;have hpi:=giw.2.2 X M xs sm.ms (.Tuple es k p);have hf:=zvt (n:=0) (env:=X.env) (f:=bVar 0) (vs:=[]) giw.2.1;cases iw with
     | rng en fa vs=>
      rcases hpi with ⟨rfl,hpi⟩ | ⟨rfl,hpi⟩
      ·exact zwa (zve (zwf xs) xs.calm hpi hpg hbd hf) λ D σ H q=>qed hg q
      ·exact zwa (zve (zwf xs) xs.calm hpi hpg hbd hf) λ D σ H q=>qec hg q
     | seq f vs=>exact zwa (zve (zwf xs) xs.calm hpi hpg hbd hf) λ D σ H q=>qao sm.al (sm.ms.v giw.1) hg q
     | vw v fa vs=>exact zwa (zve (zwf xs) xs.calm (hpi (by cases v <;> rfl)) hpg hbd hf) λ D σ H q=>qeb sm.al (sm.ms.v giw.1) hg q
    ·cases h
   ·cases h
  ·rename_i t op e pos;unfold qko at h;split at h
   ·rename_i x px;split at h
    ·rename_i i f1 v1 g sd hi he hop;split at h
     ·rename_i hc;cases h;intro Wx X M xs sm;have hN:X.N.Nodup:=by rw [xs.N];exact sm.nd
      have hi':X.N[i]?=some x:=by rw [xs.N];exact zyc hi
      have hx:Loc X.env.scope x:=by rw [xs.sc];exact zhn hc.1
      have hp:PIp X op (ipS g sd):=by
       unfold qjt at hop;split at hop
       ·cases hop;exact qmv
       ·cases hop;exact qmu
       ·cases hop
      exact zwa (qo9 hN hi' hx ((hd _ _ _ he).2.2 X M xs sm.ms).1 hp (.inl (sm.fn x))) λ D σ H q=>qn5 sm.al (by rw [sm.ms.ms];exact hc.2.2) (zkb hc.2.1 sm) q
     ·cases h
    ·cases h
   ·rename_i o k pk;split at h
    ·rename_i x px;split at h
     ·rename_i s fj vj f1 v1 g sd hs hj he hop;split at h
      ·rename_i hc;cases h;intro Wx X M xs sm;have mk:M.K=X.K:=sm.ms.k xs;have hp:PIp X op (ipI g):=by
        unfold qjt at hop;split at hop
        ·cases hop;exact qkg
        ·cases hop;exact qkf
        ·cases hop
       refine zwa (qlw (xs.var hs) ((hd _ _ _ hj).2.2 X M xs sm.ms).1 qi8 ((hd _ _ _ he).2.2 X M xs sm.ms).1 hp qb2 ?_) λ D σ H q=>?_
       ·intro _ _ _;cases k <;> first | rfl | (cases hc.2)
       ·have:=qk7 (vs:=v1) (vj:=vj) sm.al (by rw [sm.ms.ms];exact hc.1) q
        rw [mk] at this;exact this
      ·cases h
     ·cases h
    ·cases h
   ·cases h
  ·rename_i e pos;unfold qkk at h;split at h
   ·rename_i x hx;obtain ⟨px,rfl⟩:=qfr hx;split at h
    ·rename_i i hi;split at h
     ·cases h
     ·rename_i hm;cases h;intro Wx X M xs sm;exact zwa (qe3 (xs.var hi)) λ D σ H q=>qk2 sm.al (by rw [sm.ms.ms];simpa using hm) q
    ·cases h
   ·rename_i hx;split at h
    ·rename_i f1 v1 he;cases h;intro Wx X M xs sm;exact zwa (qe3 ((qgz GX G Gm hS he).2 X M xs sm)) λ D σ H q=>qjy (sm.ms.v (qgz GX G Gm hS he).1) q
    ·split at h
     ·rename_i f1 v1 he;cases h;intro Wx X M xs sm;exact zwa (qe3 ((hd _ _ _ he).2.2 X M xs sm.ms).1) λ D σ H q=>qjy (sm.ms.v (hd _ _ _ he).1) q
     ·cases h
  ·cases h
 exact λ {Wx}=>core trivial
theorem qji (GX:GX K mg S.xc) (G:GS P w K mg base lvl S.Γ) (Gm:GSm P w K mg base lvl S.Γm) (hS:∀ i,∀ j∈S.alF i,S.msF j=false):∀ (n:Nat) (st:Stmt) (f:Fs),qgy n S st=some f->zgd P w K mg base lvl S st f:=by
 intro n;induction n with
 | zero=>intro st f h;cases h
 | succ n ih=>
  intro st f h;replace h:some ((zyl (qgy n S) S st).getD sNo)=some f:=h;cases e0:zyl (qgy n S) S st with
  | none=>
   rw [e0] at h;cases h;intro Wx X M xs sm pins s σ H D I q;exact (qcb pins s σ H D I (qn2 (t:=qeg) q))
  | some f'=>
   rw [e0] at h;cases h;exact λ {Wx}=>qbj GX G Gm hS ih _ _ e0
def denS:Nat->Sx->Stmt->Option Fs:=qgy
theorem qna (GX:GX K mg S.xc) (G:GS P w K mg base lvl S.Γ) (Gm:GSm P w K mg base lvl S.Γm) (hS:∀ i,∀ j∈S.alF i,S.msF j=false):∀ (n:Nat) (st:Stmt) (f:Fs),denS n S st=some f->zgd P w K mg base lvl S st f:=qji GX G Gm hS
def zwz:Bool->List PV->Rho
 | true,x::xr=>some (x,om)::xr.map λ x=>some (x,dv x)
 | _,xs=>xs.map λ x=>some (x,dv x)
def finF (io:Bool) (y:PV) (d:Nat) (ρ:Rho):Rz (PV×Nat×PV):=match io with
 | false=>.ok (y,d,.non)
 | true=>match ρ[0]? with
  | some (some (z,_))=>.ok (y,d,z)
  | _=>.no
def mkFn (io:Bool) (np k:Nat) (b:Fs):Fn:=λ xs=>if xs.length=np then (match b (zwz io xs++ja6 k none) with
 | .rt y d ρ=>finF io y d ρ
 | .nx ρ=>finF io .non om ρ
 | .exc c=>.exc c
 | _=>.no) else .no
theorem zzh {io:Bool}{np k:Nat}{b:Fs}:∀ xs,xs.length≠np->mkFn io np k b xs=.no:=λ xs h=>by
 unfold mkFn;rw [if_neg h]
theorem zme {io:Bool}{xs:List PV}{i:Nat}{x:PV}{d:Nat} (h:(zwz io xs)[i]?=some (some (x,d))):xs[i]?=some x/\(d=dv x\/(io=true/\i=0/\d=om)):=by
 cases io with
 | false=>
  have h':(xs.map λ x=>(some (x,dv x):Slot))[i]?=some (some (x,d)):=h;rw [jc1] at h';cases e:xs[i]? with
  | none=>rw [e] at h';cases h'
  | some y=>rw [e] at h';cases h';exact ⟨rfl,.inl rfl⟩
 | true=>
  cases xs with
  | nil=>simp [zwz] at h
  | cons y r=>
   cases i with
   | zero=>
    have h':some (some (y,om):Slot)=some (some (x,d)):=h;cases h';exact ⟨rfl,.inr ⟨rfl,rfl,rfl⟩⟩
   | succ i=>
    have h':(r.map λ x=>(some (x,dv x):Slot))[i]?=some (some (x,d)):=h;rw [jc1] at h';cases e:r[i]? with
    | none=>rw [e] at h';cases h'
    | some y'=>rw [e] at h';cases h';exact ⟨by simpa using e,.inl rfl⟩
theorem qdf (io:Bool) (xs:List PV):(zwz io xs).length=xs.length:=by
 cases io <;> cases xs <;> simp [zwz]
theorem qm3 {x qual:Str}{st:Stmt}{f:Addr}{fd:vc9}{N ps:List Str}{k:Nat}{sp:Sp} (F:Fun K x qual st f fd) (S:FnScope N ps (zqb st)) (len:∀ vs H Q E,sp vs H Q E->vs.length=ps.length)
  (hbody:∀ (cdv:va2) (A:vc3) (outer:List Env) (s:va3) (H:Hp) (vs:List V) (Q:VK) (E:XK),Room k (A.deeper (vn4 qual (zqb st) s.heap.objs.size f cdv))->sp vs H Q E ->
   ∃ t,PSs (cxOf (CXr P w K) P w K mg base N qual (zqb st) f cdv A outer s H E) (zqm st) t/\t { nx:=λ _ H'=>Q .non H',rt:=Q } (L2.start N vs) H):FnOk P w K mg base (CXr P w K) (k + 1) f fd ps sp:=by
 obtain ⟨oc,od,kV,doc,pm,an,cdv,ct,osl,rfl,lk,hcd⟩:=F.ex;exact qrj lk hcd S len λ A outer s H vs Q E hr hsp=>hbody cdv A outer s H vs Q E hr hsp
theorem qrk {x qual:Str}{st:Stmt}{fa:Addr}{fd:vc9}{ps:List Str}{np k:Nat}{io:Bool}{b:Fs} (Fu:Fun K x qual st fa fd) (FS:FnScope S.N ps (zqb st)) (hsc:S.sc=zqb st) (hal:S.al=[]) (hnp:ps.length=np) (hk:S.N.length=np + k)
  (hms:∀ i∈S.ms,i < np->i=0/\io=true) (hio:io=true->S.msF 0=true/\0 < np) (GX:GX K mg S.xc) (G:GS P w K mg base lvl S.Γ) (Gm:GSm P w K mg base lvl S.Γm) (hb:zqr (denS 60 S) (zqm st)=some b):
  FnOk P w K mg base (CXr P w K) (lvl + 1) fa fd ps (spF K io np (mkFn io np k b)):=by
 have hS:∀ i,∀ j∈S.alF i,S.msF j=false:=λ i j hj=>by
  unfold Sx.alF at hj;rw [hal] at hj;simp at hj
 refine qm3 Fu FS (λ vs H Q E h=>h.1.trans hnp.symm) λ cdv A outer s H vs Q E hr h=>?_;obtain ⟨hl,xs,Zo,x0,v0,fp0,hZ,hz0,h1,h2,q⟩:=h;let M:Fm:={ K:=K,Ms:=S.msF,Zo:=Zo,H₀:=H,W:=WE E H,io:=if io=true then some v0 else none,al:=λ _=>[] }
 have hxs:XS (cxOf (CXr P w K) P w K mg base S.N qual (zqb st) fa cdv A outer s H E) P w K mg base lvl S (WE E H):=⟨rfl,rfl,rfl,rfl,rfl,rfl,hsc.symm,rfl,hr,ql9,qij,λ _=>qex⟩
 have hsm:SM (cxOf (CXr P w K) P w K mg base S.N qual (zqb st) fa cdv A outer s H E) M K S (WE E H):=by
  refine ⟨⟨rfl,rfl,λ i _=>?_,(λ i j hj=>nomatch hj),rfl,λ _ h=>nomatch h⟩,λ _=>rfl,λ h=>?_,(λ _ h=>nomatch h),λ _=>rfl,FS.nd,rfl,rfl⟩
  ·show []=S.al.getD i [];rw [hal];rfl
  ·have h':(if io=true then some v0 else none)≠none:=h;cases io with
   | true=>exact (hio rfl).1
   | false=>exact absurd rfl h'
 refine ⟨tS M b,zvv (qna GX G Gm hS 60) _ _ hb _ M hxs hsm,zwz io xs++ja6 k none,λ i=>if i=0 then fp0 else [],?_,?_⟩
 ·have hlen:xs.length=vs.length:=by
   cases io with
   | false=>exact (h1 rfl).2.length.symm
   | true=>obtain ⟨xr,wr,rfl,rfl,_,o⟩:=h2 rfl;rw [jb1,jb1,o.length]
  have each:∀ i y d,(zwz io xs)[i]?=some (some (y,d))->∃ v,vs[i]?=some v/\Own K H (λ a=>Zo a\/a∈fp0) y d v (if i=0 then fp0 else []):=λ i y d e=>by
   obtain ⟨e1,e2⟩:=zme e;cases io with
   | false=>
    obtain ⟨rfl,o⟩:=h1 rfl;obtain ⟨v,ev,ov⟩:=o.nth e1;rcases e2 with rfl | ⟨z,_⟩
    ·refine ⟨v,ev,?_⟩;rw [ite_self];exact ov.dv.weak λ a h=>h.elim id λ z=>nomatch z
    ·cases z
   | true=>
    obtain ⟨xr,wr,rfl,rfl,o0,o⟩:=h2 rfl;cases i with
    | zero=>
     simp [zwz] at e;obtain ⟨rfl,rfl⟩:=e;exact ⟨v0,rfl,Own.full _ _ _ o0⟩
    | succ i=>
     obtain ⟨v,ev,ov⟩:=o.nth (j:=i) (by simpa using e1);rcases e2 with rfl | ⟨_,z,_⟩
     ·refine ⟨v,by simpa using ev,?_⟩;rw [if_neg (jm6 i)];exact ov.dv
     ·cases z
  have inl:∀ i p,(zwz io xs++ja6 k none)[i]?=some (some p)->(zwz io xs)[i]?=some (some p):=λ i p e=>by
   by_cases hi:i < (zwz io xs).length
   ·rw [jb3 hi] at e;exact e
   ·rw [jc8 (by omega),jd3] at e;split at e <;> cases e
  have domF:∀ a∈fp0,H a≠none:=λ a ha=>by
   cases io with
   | false=>rw [(h1 rfl).1] at ha;cases ha
   | true=>
    obtain ⟨xr,wr,rfl,rfl,o0,o⟩:=h2 rfl;obtain ⟨ys,e⟩:=Own.lsts _ _ _ _ o0 a ha;rw [e];simp
  refine ⟨λ i y d e=>?_,λ i h=>?_,λ i j hij a ha hb'=>?_,λ i a ha=>?_,λ i hi a ha=>?_,hZ,?_,λ i y d hi e=>?_,λ a h=>h,⟨λ v hv=>?_,λ _ h=>(nomatch h)⟩⟩
  ·obtain ⟨v,ev,ov⟩:=each i y d (inl i _ e);refine ⟨v,?_,ov.weak λ a h=>?_⟩
   ·unfold L2.start;rw [jb3 (by rw [ja3];exact (jb2.mp ev).1),jc1,ev];rfl
   ·rcases h with h | ⟨j,_,h⟩
    ·exact .inl h
    ·by_cases ej:j=0
     ·simp only [if_pos ej] at h;exact .inr h
     ·simp only [if_neg ej] at h;cases h
  ·by_cases hi:i=0
   ·subst hi;rw [if_pos rfl];cases io with
    | false=>exact (h1 rfl).1
    | true=>
     obtain ⟨xr,wr,rfl,rfl,_,_⟩:=h2 rfl;exact absurd rfl (h (x0,om))
   ·rw [if_neg hi]
  ·by_cases e1:i=0
   ·by_cases e2:j=0
    ·exact hij (e1.trans e2.symm)
    ·rw [if_neg e2] at hb';cases hb'
   ·simp only [if_neg e1] at ha;cases ha
  ·by_cases e1:i=0
   ·simp only [if_pos e1] at ha;exact hz0 a ha
   ·simp only [if_neg e1] at ha;cases ha
  ·by_cases e1:i=0
   ·simp only [if_pos e1] at ha;cases io with
    | false=>rw [(h1 rfl).1] at ha;cases ha
    | true=>
     have:=(hio rfl).1
     have hi':S.msF i=false:=hi;rw [e1,this] at hi';cases hi'
   ·simp only [if_neg e1] at ha;cases ha
  ·unfold L2.start;rw [jb0,qdf,jd5,jb0,ja3,jd5,hlen,hl,hk];omega
  ·have hm:i∈S.ms:=by
    have hi':S.msF i=true:=hi;unfold Sx.msF at hi';simpa using hi'
   obtain ⟨e1,e2⟩:=zme (inl i _ e);have hlt:i < np:=by
    have:=(jb2.mp e1).1
    rw [hlen,hl] at this;exact this
   obtain ⟨rfl,rfl⟩:=hms i hm hlt;obtain ⟨xr,wr,rfl,rfl,_,_⟩:=h2 rfl;have e':=inl 0 _ e;simp [zwz] at e';exact e'.2.symm
  ·have hv':(if io=true then some v0 else none)=some v:=hv;cases io with
   | false=>cases hv'
   | true=>
    cases hv';obtain ⟨xr,wr,rfl,rfl,_,_⟩:=h2 rfl;exact ⟨rfl,(hio rfl).1⟩
 ·unfold mkFn at q;have hlen:xs.length=np:=by
   by_cases e:xs.length=np
   ·exact e
   ·rw [if_neg e] at q;exact q.elim
  rw [if_pos hlen] at q;have fin:∀ {y:PV}{d:Nat}{ρ':Rho}{v:V}{σ':St}{H':Hp}{fps':Fps}{fp:List Addr},(match finF io y d ρ' with
    | .ok (y,d,z0)=>∀ v H' fp fp0',Keep (λ a=>a∈fp0) H H'->(∀ a,H a≠none->H' a≠none)->(∀ a∈fp0',a∈fp0\/H a=none)->(∀ a∈fp0',¬ Zo a)->(io=false->fp0'=[])->(io=true->Own K H' (λ _=>True) z0 om v0 fp0') ->
      Own K H' (λ a=>(Zo a\/a∈fp0')\/a∈fp) y d v fp->(∀ a∈fp,H a=none/\¬ (Zo a\/a∈fp0'))->Q v H'
    | .exc c=>∀ H',Keep (λ a=>a∈fp0) H H'->(∀ a,H a≠none->H' a≠none)->E (.int (c:Int) 0) none H'
    | .no=>False)->KS M H (λ i=>if i=0 then fp0 else []) H' fps'->Rep M ρ' σ' H' fps'->Own M.K H' (λ a=>Zr M fps' a\/a∈fp) y d v fp->(∀ a∈fp,M.H₀ a=none/\¬ Zr M fps' a)->Q v H':=λ {y d ρ' v σ' H' fps' fp} q ks rp oy hf=>by
   have kp:Keep (λ a=>a∈fp0) H H':=λ a o h n=>ks.keep a o h λ ⟨i,hi⟩=>by
    by_cases e:i=0
    ·simp only [if_pos e] at hi;exact n hi
    ·simp only [if_neg e] at hi;cases hi
   cases io with
   | false=>
    refine q v H' fp [] kp ks.dom (λ _ z=>(nomatch z)) (λ _ z=>(nomatch z)) (λ _=>rfl) (λ h=>(nomatch h)) (oy.weak λ a h=>?_) λ a ha=>⟨(hf a ha).1,λ z=>(hf a ha).2 ?_⟩
    ·rcases h with (h | h) | h
     ·exact .inl (.inl h)
     ·cases h
     ·exact .inr h
    ·rcases z with z | z
     ·exact .inl z
     ·cases z
   | true=>
    unfold finF at q;cases e0:ρ'[0]? with
    | none=>dsimp only at q;rw [e0] at q;exact q.elim
    | some s0=>
     dsimp only at q;rw [e0] at q;cases s0 with
     | none=>exact q.elim
     | some p0=>
      obtain ⟨z,dz⟩:=p0;have hdz:=rp.msf 0 z dz (hio rfl).1 e0;subst hdz;obtain ⟨u,hu,ou⟩:=rp.own 0 z om e0;have hu0:=(rp.iov.1 v0 rfl).1;rw [hu] at hu0;cases hu0;refine q v H' fp (fps' 0) kp ks.dom (λ a ha=>?_) (λ a ha=>rp.zo 0 a ha) (λ h=>(nomatch h)) (λ _=>Own.full _ _ _ ou) (oy.weak λ a h=>?_) λ a ha=>⟨(hf a ha).1,λ z=>(hf a ha).2 ?_⟩
      ·rcases ks.sub 0 a ha with ⟨j,hj⟩ | z
       ·by_cases e:j=0
        ·simp only [if_pos e] at hj;exact .inl hj
        ·simp only [if_neg e] at hj;cases hj
       ·exact .inr z
      ·rcases h with (h | h) | h
       ·exact .inl (.inl h)
       ·exact .inl (.inr ⟨(λ z=>nomatch z),h⟩)
       ·exact .inr h
      ·rcases z with z | z
       ·exact .inl z
       ·exact .inr ⟨(λ z=>nomatch z),z⟩
  cases eb:b (zwz io xs++ja6 k none) with
  | no=>rw [eb] at q;exact q
  | exc c=>
   rw [eb] at q;refine λ σ' H' fps' ks=>⟨q H' (λ a o h n=>ks.keep a o h λ ⟨i,hi⟩=>?_) ks.dom,ks.dom⟩
   by_cases e:i=0
   ·simp only [if_pos e] at hi;exact n hi
   ·simp only [if_neg e] at hi;cases hi
  | bk ρ=>rw [eb] at q;exact q.elim
  | ct ρ=>rw [eb] at q;exact q.elim
  | rt y d ρ'=>
   rw [eb] at q;exact λ v σ' H' fps' fp ks rp oy hf=>fin q ks rp oy hf
  | nx ρ'=>
   rw [eb] at q;exact λ σ' H' fps' ks rp=>fin (fp:=[]) q ks rp (by rw [Own];exact ⟨rfl,rfl⟩) λ _ z=>nomatch z
end
open PySem PySem.Spec PySem.W PySem.Calls PyProof.Rows L2
theorem zgn {tb:String->Option vo1}{p:vb0}{w:vb7}{n₀:Nat}{ann:Option va2}:∀ {n:Nat}{s r:SharedT}{t:Thread},zyt tb p w n₀ ann n s t=some r->topRun tb p w n₀ ann n s.abs t=some r.abs
 | 0,_,_,_,h=>by cases h
 | n + 1,s,r,t,h=>by
  unfold zyt at h;unfold topRun;cases e1:through t with
  | true=>rw [e1] at h;cases h;rfl
  | false=>
   rw [e1] at h;cases e2:stepOk n₀ ann t with
   | false=>rw [e2] at h;cases h
   | true=>
    rw [e2] at h;cases e3:stepT (denote tb) p w s t with
    | none=>rw [e3] at h;cases h
    | some z=>obtain ⟨s₂,t₂⟩:=z;rw [e3] at h;rw [stepT_spec e3];exact zgn h
theorem qjs (P:Params) (os:OsState):(bootS P os).abs=⟨vd3 P,#[],boot_drawn,boot_toks,os⟩:=by kernel_rfl
theorem qnh (P:Params):(vd3 P).isNs vc6=true:=by kernel_rfl
theorem qmp {p q:vb0}{loose:List Str}{Xt:va3->Bool}{α:Type}{Yf:va3->α}{Ya:vb7->α}{N:Nat} (e:opening p=plainProg p.main.scope.names) (hN:Nat.ble 600 N=true) (f:∀ s,fenceModules? p s=some s)
  (run:∀ (w:vb7) (os:OsState),(zyt treeTable p w (vd3 w.params).objs.size ((vd3 w.params).nsMap vc6 "__annotations__") N (bootS w.params os) (topStub p)).map (λ s=>qbh p q loose Xt Yf (vd3 w.params) s.abs)=some (true,openGood q loose,Ya w)):
  LeftO p q loose Xt Yf Ya N:=λ w=>by
 obtain ⟨⟨h,gs,d,k,os⟩,e1,e2⟩:=jc3.mp (boot_open e hN f w);obtain ⟨rfl,rfl,rfl,rfl⟩:h=vd3 w.params/\gs=#[]/\d=boot_drawn/\k=boot_toks:=by simpa using e2
 obtain ⟨s,r1,r2⟩:=jc3.mp (run w os);have r:=zgn r1;rw [qjs] at r;have r3:(_=_)/\(_ ,_)=(_,_):=vn8 r2;obtain ⟨l1,l23⟩:=r3;obtain ⟨l2,l3⟩:=vn8 l23;have t:topFrom treeTable p w N ⟨vd3 w.params,#[],boot_drawn,boot_toks,os⟩=some s.abs:=by
  unfold topFrom;dsimp only;rw [qnh,r];show (match staticsOk (vn2 p.main.body) (vd3 w.params) s.abs.heap && namesBound p s.abs.heap && gensDone s.abs && laidKept (vd3 w.params) s.abs.heap with | true=>_ | false=>_)=_;rw [l1]
 unfold openEnds;rw [e1];show (topFrom treeTable p w N _).map _=_;rw [t];exact congrArg some (Prod.ext l2 l3)
theorem qp6 (h:Heap):(kof h).In h:=by
 intro a o;unfold kof;generalize ja7 h.objs.size=l;induction l with
 | nil=>intro e;cases e
 | cons b l ih=>
  intro e;rw [ji9] at e;cases g:h.get? b with
  | none=>rw [g] at e;exact ih e
  | some z=>
   rw [g] at e;dsimp only [jj3] at e;rw [je2] at e;split at e
   ·rename_i q;cases e;rw [beq_iff_eq.mp q];exact g
   ·exact ih e
theorem qqp {K:Frag}{x:Str}{st:Stmt} (e:qbk K x=some (qg0 x st)):∃ (g:Addr) (fd:vc9),nsIn K vc6 x=some (some (.ref g))/\Fun K x x st g fd:=by
 unfold qbk at e;split at e
 ·rename_i g hg;split at e
  ·rename_i oc od fd sl hl;cases fd;unfold qg0 at e;simp only [Option.some.injEq,DefSeen.mk.injEq] at e;obtain ⟨rfl,rfl,rfl,rfl,rfl,rfl,rfl,rfl,rfl,hc⟩:=e;refine ⟨g,_,hg,qqm hl hc ?_⟩;unfold keepIn;dsimp only;rw [hl]
  ·cases e
 ·cases e
structure Given (ds:List (Str×Stmt)) (xc:List Nat) (K:Frag) (mg:Str->Option va2):Prop where
 df:∀ (i:Nat) (x:Str) (st:Stmt),ds[i]?=some (x,st)->∃ (g:Addr) (fd:vc9),mg x=some (.ref g)/\Fun K x x st g fd
 bn:∀ x∈zkq,mg x=none
 gx:GX K mg xc
theorem qf0 {α β:Type}{f g:α->β}:∀ {l:List α},l.map f=l.map g->∀ {i:Nat}{a:α},l[i]?=some a->f a=g a
 | [],_,_,_,h=>by cases h
 | b::l,e,0,a,h=>by
  cases h;exact (List.cons.inj e).1
 | b::l,e,i + 1,a,h=>qf0 (List.cons.inj e).2 h
theorem qi7 {ds:List (Str×Stmt)}{xc:List Nat}{K:Frag}{mg:Str->Option va2}{h:Heap} (X:K.In h) (G:h.Ns vc6 mg) (e:zby ds xc K=zho ds):Given ds xc K mg:=by
 obtain ⟨e1,e2⟩:=vn8 e;obtain ⟨e2,e3⟩:=vn8 e2;refine ⟨λ i x st hi=>?_,λ x hx=>?_,?_⟩
 ·obtain ⟨g,fd,a,b⟩:=qqp (qf0 e1 hi);exact ⟨g,fd,mg_of X G a,b⟩
 ·obtain ⟨i,hi⟩:=List.getElem?_of_mem hx;exact mg_none_of X G (qf0 e2 hi)
 ·cases xc with
  | nil=>rfl
  | cons _ _=>cases e3
theorem qnd {P:vb0}{w:vb7}{K:Frag}{outer:List Env}{H:Hp}{s:va3}{e:va2}{s2:va3} (z:CXr P w K outer H s (λ _ _ _=>False) e s2):False:=by
 obtain ⟨_,_,_,_,_,_,_,_,_,_,_,_,_,_,_,_,_,_,z⟩:=z;exact z
theorem holds_by {l:OpenLaw}{q:vb0}{loose:List Str}{d:DefRec}{N k n:Nat}{ds:List (Str×Stmt)}{xc:List Nat}{F:Fn}{x:Str} (said:l.wellSaid=true)
  (e:opening l.prog=plainProg l.prog.main.scope.names) (hN:Nat.ble 600 N=true) (f:∀ s,fenceModules? l.prog s=some s)
  (run:∀ (w:vb7) (os:OsState),(zyt treeTable l.prog w (vd3 w.params).objs.size ((vd3 w.params).nsMap vc6 "__annotations__") N (bootS w.params os) (topStub l.prog)).map
   (λ s=>qbh l.prog q loose (λ s=>xlAt q [] s && recOk (RowW.records l.row.toRowW) s) (λ s=>zby ds xc (kof s.heap)) (vd3 w.params) s.abs)=some (true,openGood q loose,zho ds))
  (hdef:defOf q l.row.name=some (d,[])) (hp:l.row.prog.theDef l.row.name=some (d.params,d.body,d.scope)) (hk:kwWritten? d.params.kwonlyargs d.params.kw_defaults=some []) (hwr:(!l.row.writes || l.row.records.isEmpty)=true)
  (ok:(chainsOk q && opensWell l.row.prog && (frees l.row.toRowW && l.row.within.isEmpty))=true) (hb:l.row.prog.bare) (hw:l.row.toRowW.promised)
  (hn:l.most=some n) (hn2:n<=va5) (hdf:d.params.defaults=[]) (hr:Room k vn5)
  (law:∀ (K:Frag) (w:vb7) (mg:Str->Option va2) (fa:Addr),Given ds xc K mg->mg d.name=some (.ref fa)->∃ fd:vc9,(∀ (s:va3) (u:va2),BindsTo s fd ⟨[u],[]⟩ [(x,u)]) /\
   ∀ base:Heap,FnOk l.prog w K mg base (CXr l.prog w K) k fa fd [x] (spF K false 1 F))
  (yes:∀ (K:Frag) (H:Hp) (a:Addr) (ns:List Int),ns.length<=n->Only H->SqL K H a (ns.map V.int)->spF K false 1 F [.ref a] H (λ v _=>v=.bl true) λ _ _ _=>False):l.Holds:=by
 refine holds_law said λ ws=>?_;refine holds_open (q:=q) (loose:=loose) (Xt:=λ s=>xlAt q [] s && recOk (RowW.records l.row.toRowW) s) (XP:=XL q []) (Yf:=λ s=>zby ds xc (kof s.heap)) (Ya:=λ _=>zho ds) (YP:=λ _ h=>∃ K:Frag,K.In h/\zby ds xc K=zho ds) (N:=N)
  (qmp e hN f run) (λ _ s z=>⟨_,qp6 _,z⟩) (λ _ _ _ ⟨K,a,b⟩ kp=>⟨K,a.keeps kp,b⟩) (λ s e=>xl_of s (jn6.mp e).1) XL.keeps hdef hp hk (λ s e=>recFacts_of (jn6.mp e).2) hwr ws ok hb hw ?_
 refine Att.attach_call hn hdf λ w s₀ s₁ mg mb fa o pm cd doc a vs ns G Y ho hd hcd hmg hobj hints hlen hg=>?_;obtain ⟨K,KX,hf⟩:=Y;obtain ⟨fd,hbd,hF⟩:=law K w mg fa (qi7 KX G.T.g hf) hmg;exact qiy KX G.T.g G.T.b G.T.builtins G.T.nolimit hg hobj hints (jc9 hlen hn2) hr (λ base _ _=>hF base) hbd (λ H hO hS=>yes K H a ns hlen hO hS) λ H e s'=>qnd
section
variable {P:vb0}{w:vb7}{K:Frag}{mg:Str->Option va2}{base:Heap}
theorem len1 {us:List va2} (h:us.length=1):∃ a,us=[a]:=jm8.mp h
theorem len2 {us:List va2} (h:us.length=2):∃ a b,us=[a,b]:=by
 cases us with
 | nil=>cases h
 | cons a r=>obtain ⟨b,rfl⟩:=len1 (Nat.succ.inj h);exact ⟨a,b,rfl⟩
theorem len3 {us:List va2} (h:us.length=3):∃ a b c,us=[a,b,c]:=by
 cases us with
 | nil=>cases h
 | cons a r=>obtain ⟨b,c,rfl⟩:=len2 (Nat.succ.inj h);exact ⟨a,b,c,rfl⟩
theorem len4 {us:List va2} (h:us.length=4):∃ a b c d,us=[a,b,c,d]:=by
 cases us with
 | nil=>cases h
 | cons a r=>obtain ⟨b,c,d,rfl⟩:=len3 (Nat.succ.inj h);exact ⟨a,b,c,d,rfl⟩
theorem zxc {lvl:Nat} (hb:∀ x∈zkq,mg x=none):GS P w K mg base lvl []:=⟨hb,λ x io n F h=>by cases h⟩
theorem zvs {lvl:Nat}{x qual:Str}{st:Stmt}{fa:Addr}{fd:vc9}{ps:List Str}{io:Bool}{n:Nat}{F:Fn}{Γ:List (Str×(Bool×Nat×Fn))} (g:GS P w K mg base lvl Γ) (hx:(x == ("__debug__" : Str))=false) (hF:∀ xs,xs.length≠n->F xs=.no)
  (hm:mg x=some (.ref fa)) (Fu:Fun K x qual st fa fd) (hbd:qan K fd ps []) (hn:ps.length=n) (ok:FnOk P w K mg base (CXr P w K) lvl fa fd ps (spF K io n F)):GS P w K mg base lvl ((x,(io,n,F))::Γ):=by
 refine ⟨g.1,λ y io' n' F' h=>?_⟩;rw [je2] at h;split at h
 ·rename_i e;cases h
  have:y=x:=eq_of_beq e
  subst this;exact ⟨hx,hF,fa,fd,ps,hm,Fu.kp,hbd,hn,ok⟩
 ·exact g.2 y io' n' F' h
theorem qm1 {lvl:Nat}:GSm P w K mg base lvl []:=λ x F h=>by cases h
theorem gcs {lvl j:Nat}{x qual:Str}{st:Stmt}{fa:Addr}{fd:vc9}{ps:List Str}{io:Bool}{n:Nat}{F:Fn}{Γ:List (Str×(Bool×Nat×Fn))} (g:GS P w K mg base lvl Γ) (hm:mg x=some (.ref fa)) (Fu:Fun K x qual st fa fd) (hbd:qan K fd ps []) (ok:FnOk P w K mg base (CXr P w K) j fa fd ps (spF K io n F)) (hl:j<=lvl:=by decide) (hx:(x == ("__debug__" : Str))=false:=by decide +kernel) (hF:∀ xs,xs.length≠n->F xs=.no:=by exact zzh) (hn:ps.length=n:=by rfl):GS P w K mg base lvl ((x,(io,n,F))::Γ):=zvs g hx hF hm Fu hbd hn (ok.mono hl)
theorem fnb (S:Sx) {lvl:Nat}{x qual:Str}{st:Stmt}{fa:Addr}{fd:vc9}{ps:List Str}{np k:Nat}{io:Bool}{b:Fs} (Fu:Fun K x qual st fa fd) (FS:FnScope S.N ps (zqb st)) (gX:GX K mg S.xc) (G:GS P w K mg base lvl S.Γ) (hb:zqr (denS 60 S) (zqm st)=some b) (hsc:S.sc=zqb st:=by rfl) (hal:S.al=[]:=by rfl) (hnp:ps.length=np:=by rfl) (hk:S.N.length=np + k:=by rfl) (hms:∀ i∈S.ms,i < np->i=0/\io=true:=by decide) (hio:io=true->S.msF 0=true/\0 < np:=by first | exact λ h=>Bool.noConfusion h | exact λ _=>⟨rfl,by decide⟩) (Gm:GSm P w K mg base lvl S.Γm:=by exact qm1):FnOk P w K mg base (CXr P w K) (lvl + 1) fa fd ps (spF K io np (mkFn io np k b)):=qrk (S:=S) Fu FS hsc hal hnp hk hms hio gX G Gm hb
end
theorem sp_yes {K:Frag}{H:Hp}{a:Addr}{ns:List Int}{F:Fn} (hO:Only H) (hS:SqL K H a (ns.map V.int)) (h:∃ d z,F [.scr ns]=.ok (.bl true,d,z)):spF K false 1 F [.ref a] H (λ v _=>v=.bl true) λ _ _ _=>False:=by
 refine ⟨rfl,[.scr ns],λ _=>False,.non,.non,[],λ _ z=>z.elim,λ _ z=>(nomatch z),λ _=>⟨rfl,?_⟩,(λ h=>nomatch h),?_⟩
 ·rw [OwnL];refine ⟨.ref a,[],[],[],rfl,rfl,λ _ z=>(nomatch z),?_,by rw [OwnL];exact ⟨rfl,rfl⟩⟩;rw [Own];refine ⟨rfl,a,rfl,?_⟩;rcases hS with (h | h) | h
  ·rcases hO a with z | ⟨ob,xs,z⟩
   ·rw [h] at z;cases z
   ·rw [h] at z;cases z
  ·exact .inl h
  ·exact .inr h
 ·obtain ⟨d,z,e⟩:=h;rw [e];intro v H' fp fp0' _ _ _ _ _ _ o _;rw [Own] at o;exact o.1
end QQ
namespace QV
open PySem PySem.Spec PyProof.Rows L2 QQ
theorem zqz {op:PV->Nat->PV->Nat->Option (PV×Nat)}{f g:Fx}{ρ ρ1 ρ2:Rho}{x y z:PV}{d e c:Nat} (h1:f ρ=.ok (x,d,ρ1)) (h2:g ρ1=.ok (y,e,ρ2)) (h3:op x d y e=some (z,c)):bBin op f g ρ=.ok (z,c,ρ2):=by
 unfold bBin;rw [h1];dsimp only [Rz.bind];rw [h2];dsimp only;rw [h3]
theorem qnq {op:PV->Nat->Option (PV×Nat)}{f:Fx}{ρ ρ1:Rho}{x z:PV}{d c:Nat} (h1:f ρ=.ok (x,d,ρ1)) (h3:op x d=some (z,c)):bUn op f ρ=.ok (z,c,ρ1):=by
 unfold bUn;rw [h1];dsimp only [Rz.bind];rw [h3]
theorem zqk {f:Fx}{fa:Fa}{ρ ρ1 ρ2:Rho}{x:PV}{d:Nat}{xs:List (PV×Nat)} (h1:f ρ=.ok (x,d,ρ1)) (h2:fa ρ1=.ok (xs,ρ2)):zqa f fa ρ=.ok ((x,d)::xs,ρ2):=by
 unfold zqa;rw [h1];dsimp only [Rz.bind];rw [h2]
theorem zqp {f:Fx}{ρ ρ1:Rho}{x:PV}{d:Nat} (h1:f ρ=.ok (x,d,ρ1)):zqa f aNil ρ=.ok ([(x,d)],ρ1):=zqk h1 rfl
theorem zxi {op:List (PV×Nat)->Option (PV×Nat)}{fa:Fa}{ρ ρ1:Rho}{xs:List (PV×Nat)}{z:PV}{c:Nat} (h1:fa ρ=.ok (xs,ρ1)) (h2:op xs=some (z,c)):zqd op fa ρ=.ok (z,c,ρ1):=by
 unfold zqd;rw [h1];dsimp only [Rz.bind];rw [h2]
theorem zqh {F:Fn}{fa:Fa}{ρ ρ1:Rho}{xs:List (PV×Nat)}{y z:PV}{d:Nat} (h1:fa ρ=.ok (xs,ρ1)) (h2:F (xs.map (·.1))=.ok (y,d,z)):zqg F fa ρ=.ok (y,d,ρ1):=by
 unfold zqg;rw [h1];dsimp only [Rz.bind];rw [h2]
theorem zxz {f:Fx}{ρ ρ1:Rho}{x:PV}{d:Nat} (h:f ρ=.ok (x,d,ρ1)):sRet f ρ=.rt x d ρ1:=by
 unfold sRet;rw [h]
theorem zvb {f:Fx}{ρ ρ1:Rho}{x:PV}{d:Nat} (h:f ρ=.ok (x,d,ρ1)):zzm f ρ=.nx ρ1:=by
 unfold zzm;rw [h]
theorem setF {i:Nat}{f:Fx}{vs:List Nat}{ρ ρ1 ρ2:Rho}{x:PV}{d:Nat} (h:f ρ=.ok (x,d,ρ1)) (hc:i < ρ1.length) (e:(zqo d vs ρ1).set i (some (x,d))=ρ2):sSet false i f vs ρ=.nx ρ2:=by
 unfold sSet;rw [h];dsimp only;rw [if_pos ⟨hc,λ h=>nomatch h⟩,e]
theorem qnp {asg:PV->Rho->Option Rho}{f:Fx}{vs:List Nat}{ρ ρ1 ρ2:Rho}{x:PV}{d:Nat} (h:f ρ=.ok (x,d,ρ1)) (e:asg x (zqo d vs ρ1)=some ρ2):sUnp asg f vs ρ=.nx ρ2:=by
 unfold sUnp;rw [h];dsimp only;rw [e]
theorem zmv {i:Nat}{f:Fx}{vs:List Nat}{ρ ρ1 ρ2:Rho}{y:PV}{e:Nat}{xs:List PV}{d0 d:Nat}{xs0:List PV} (h0:ρ[i]?=some (some (.lst xs0,d0 + 1))) (h:f ρ=.ok (y,e,ρ1)) (h1:(zqo e vs ρ1)[i]?=some (some (.lst xs,d))) (hd:d≠0) (hl:xs.length < va5)
  (e2:(zqo e vs ρ1).set i (some (.lst (xs++[y]),if d=om/\e=om then om else 1))=ρ2):sApp i f vs ρ=.nx ρ2:=by
 unfold sApp;rw [h0];dsimp only;rw [h];dsimp only;rw [h1];dsimp only;rw [if_pos ⟨hd,hl⟩,e2]
theorem zqi {f g:Fs}{ρ ρ1:Rho} (h:f ρ=.nx ρ1):sSeq f g ρ=g ρ1:=by
 unfold sSeq;rw [h]
theorem qqh {c:Fb}{f g:Fs}{ρ ρ1:Rho}{b:Bool} (hc:c ρ=.ok (b,ρ1)):sIf c f g ρ=if b=true then f ρ1 else g ρ1:=by
 unfold sIf;rw [hc]
theorem if_t {c:Fb}{f g:Fs}{ρ ρ1:Rho} (hc:c ρ=.ok (true,ρ1)):sIf c f g ρ=f ρ1:=by rw [qqh hc];rfl
theorem if_f {c:Fb}{f g:Fs}{ρ ρ1:Rho} (hc:c ρ=.ok (false,ρ1)):sIf c f g ρ=g ρ1:=by rw [qqh hc];rfl
theorem zyu {c:Fb}{f g:Fs}{ρ ρ1:Rho} (hc:c ρ=.ok (false,ρ1)):sSeq (sIf c f sNil) g ρ=g ρ1:=zqi (by rw [if_f hc];rfl)
theorem zbi {f g:Fs}{ρ ρ1:Rho}{x:PV}{d:Nat} (h:f ρ=.rt x d ρ1):sSeq f g ρ=.rt x d ρ1:=by
 unfold sSeq;rw [h]
theorem t_ok {f:Fx}{ρ ρ1:Rho}{b:Bool}{d:Nat} (h:f ρ=.ok (.bl b,d,ρ1)):bT f ρ=.ok (b,ρ1):=by
 unfold bT;rw [h];rfl
theorem zko {f:Fx}{ρ ρ1:Rho}{b:Bool}{d:Nat} (h:f ρ=.ok (.bl b,d,ρ1)):bUn zwo f ρ=.ok (.bl (!b),om,ρ1):=qnq h rfl
theorem qaj {f g:Fx}{ρ ρ1:Rho}{a b:Bool}{d:Nat} (h:f ρ=.ok (.bl a,d,ρ1)) (h2:a=true->g ρ1=.ok (.bl b,om,ρ1)) (hd:d=om):zzs f g ρ=.ok (.bl (a && b),om,ρ1):=by
 subst hd;unfold zzs;rw [h];cases a with
 | false=>rfl
 | true=>exact h2 rfl
theorem qdk {f g:Fx}{ρ ρ1:Rho}{a b:Bool}{d:Nat} (h:f ρ=.ok (.bl a,d,ρ1)) (h2:a=false->g ρ1=.ok (.bl b,om,ρ1)) (hd:d=om):bOrV f g ρ=.ok (.bl (a || b),om,ρ1):=by
 subst hd;unfold bOrV;rw [h];cases a with
 | true=>rfl
 | false=>exact h2 rfl
theorem zkp {f g:Fx}{ρ ρ1 ρ2:Rho}{i j:Int}{d e:Nat} (h1:f ρ=.ok (.int i,d,ρ1)) (h2:g ρ1=.ok (.int j,e,ρ2)) (h:(-(2 ^ 64) < i/\i < 2 ^ 64)\/(-(2 ^ 64) < j/\j < 2 ^ 64)):bBin zxw f g ρ=.ok (.int (i * j),om,ρ2):=by
 refine zqz h1 h2 ?_;show (if pMul i j=true then _ else _)=_;rw [if_pos];unfold pMul;rcases h with h | h
 ·rw [decide_eq_true h.1,decide_eq_true h.2];rfl
 ·rw [decide_eq_true h.1,decide_eq_true h.2];simp
theorem zwj {f g:Fx}{ρ ρ1 ρ2:Rho}{i j:Int}{d e:Nat} (h1:f ρ=.ok (.int i,d,ρ1)) (h2:g ρ1=.ok (.int j,e,ρ2)) (h:0 < j):bBin zxj f g ρ=.ok (.int (i % j),om,ρ2):=by
 refine zqz h1 h2 ?_;show (if pMod i j=true then _ else _)=_;rw [if_pos];exact decide_eq_true h
theorem zvf {f g:Fx}{ρ ρ1 ρ2:Rho}{i j:Int}{d e:Nat} (h1:f ρ=.ok (.int i,d,ρ1)) (h2:g ρ1=.ok (.int j,e,ρ2)) (h:0 < j) (h':j < 2 ^ 128):bBin zxm f g ρ=.ok (.int (i / j),om,ρ2):=by
 refine zqz h1 h2 ?_;show (if pDiv i j=true then _ else _)=_;rw [if_pos];have h3:j.natAbs < 2 ^ 128:=by omega
 have h4:j.natAbs≠0:=by omega
 have h5:j.natAbs.log2 < 9000:=by have:=(Nat.log2_lt h4).mpr h3;omega
 unfold pDiv;rw [decide_eq_true h,decide_eq_true h5];rfl
theorem zwn {f g:Fx}{ρ ρ1 ρ2:Rho}{i j:Int}{d e:Nat} (h1:f ρ=.ok (.int i,d,ρ1)) (h2:g ρ1=.ok (.int j,e,ρ2)):bBin zqj f g ρ=.ok (.int (i + j),om,ρ2):=zqz h1 h2 rfl
theorem zgu {f g:Fx}{ρ ρ1 ρ2:Rho}{i j:Int}{d e:Nat} (h1:f ρ=.ok (.int i,d,ρ1)) (h2:g ρ1=.ok (.int j,e,ρ2)):bBin zzd f g ρ=.ok (.int (i - j),om,ρ2):=zqz h1 h2 rfl
theorem zzr {p:Int->Int->Bool}{f g:Fx}{ρ ρ1 ρ2:Rho}{i j:Int}{d e:Nat} (h1:f ρ=.ok (.int i,d,ρ1)) (h2:g ρ1=.ok (.int j,e,ρ2)):bBin (zxo p) f g ρ=.ok (.bl (p i j),om,ρ2):=zqz h1 h2 rfl
theorem zyq {p q:Int->Int->Bool}{f g h:Fx}{ρ:Rho}{i j k:Int}{d e c:Nat} (h1:f ρ=.ok (.int i,d,ρ)) (h2:g ρ=.ok (.int j,e,ρ)) (h3:h ρ=.ok (.int k,c,ρ)):zzl p q f g h ρ=.ok (.bl (p i j && q j k),om,ρ):=by
 unfold zzl;rw [h1];dsimp only [Rz.bind];rw [h2];dsimp only;by_cases hp:p i j=true
 ·rw [if_pos hp,h3,hp];rfl
 ·rw [if_neg hp]
  have:p i j=false:=by simpa using hp
  rw [this];rfl
theorem eqI {neg:Bool}{i j:Int}{d e:Nat}:opEq neg (.int i) d (.int j) e=some (.bl (neg^^decide (i=j)),om):=rfl
theorem qbg {neg:Bool}{f g:Fx}{ρ ρ1 ρ2:Rho}{i j:Int}{d e:Nat} (h1:f ρ=.ok (.int i,d,ρ1)) (h2:g ρ1=.ok (.int j,e,ρ2)):bBin (opEq neg) f g ρ=.ok (.bl (neg^^decide (i=j)),om,ρ2):=zqz h1 h2 eqI
def il (xs:List Int):PV:=.lst (xs.map .int)
def tb (t:List (List Int)):PV:=.lst (t.map il)
abbrev bx (a b c:Int):PV:=.tup [.int a,.int b,.int c]
theorem zxr {α:Type}{xs:List α}{k:Int}{x:α} (h0:0<=k) (h:xs[k.toNat]?=some x):atI xs k=some x:=by
 have hl:=(jb2.mp h).1;unfold atI ixN;rw [if_pos h0,if_pos (by omega)];exact h
theorem zyi {f g:Fx}{ρ ρ1 ρ2:Rho}{xs:List Int}{k x:Int}{d e:Nat} (h1:f ρ=.ok (il xs,d,ρ1)) (h2:g ρ1=.ok (.int k,e,ρ2)) (h:atI xs k=some x):bBin zqc f g ρ=.ok (.int x,om,ρ2):=by
 refine zqz h1 h2 ?_;show (atI (xs.map PV.int) k).map _=_
 have:atI (xs.map PV.int) k=some (.int x):=by
  unfold atI at h ⊢;rw [ja3];cases e:ixN xs.length k with
  | none=>rw [e] at h;cases h
  | some j=>
   rw [e] at h;have h':xs[j]?=some x:=h;show (xs.map PV.int)[j]?=_;rw [jc1,h'];rfl
 rw [this];rfl
theorem qcr {f g:Fx}{ρ ρ1 ρ2:Rho}{t:List (List Int)}{k:Int}{r:List Int}{d e:Nat} (h1:f ρ=.ok (tb t,d,ρ1)) (h2:g ρ1=.ok (.int k,e,ρ2)) (h:atI t k=some r):bBin zqc f g ρ=.ok (il r,0,ρ2):=by
 refine zqz h1 h2 ?_;show (atI (t.map il) k).map _=_
 have:atI (t.map il) k=some (il r):=by
  unfold atI at h ⊢;rw [ja3];cases e:ixN t.length k with
  | none=>rw [e] at h;cases h
  | some j=>
   rw [e] at h;have h':t[j]?=some r:=h;show (t.map il)[j]?=_;rw [jc1,h'];rfl
 rw [this];rfl
theorem qcp {fa:Fa}{ρ ρ1:Rho}{xs:List Int}{d:Nat} (h:fa ρ=.ok ([(il xs,d)],ρ1)):zqd zws fa ρ=.ok (.int xs.length,om,ρ1):=by
 refine zxi h ?_;show some (PV.int ((xs.map PV.int).length:Nat),om)=_;rw [ja3]
theorem qp3 {fa:Fa}{ρ ρ1:Rho}{t:List (List Int)}{d:Nat} (h:fa ρ=.ok ([(tb t,d)],ρ1)):zqd zws fa ρ=.ok (.int t.length,om,ρ1):=by
 refine zxi h ?_;show some (PV.int ((t.map il).length:Nat),om)=_;rw [ja3]
theorem zzc {α:Type}{n:Nat}{test:Fb}{elt:Fx}{enc q:α->PV}{e:α->Nat}{p:α->Bool}:∀ (xs:List α) (ρ:Rho) (acc:List (PV×Nat)),ρ.length=n->(∀ x∈xs,test (ρ++[some (enc x,dv (enc x))])=.ok (p x,ρ++[some (enc x,dv (enc x))])) ->
  (∀ x∈xs,p x=true->elt (ρ++[some (enc x,dv (enc x))])=.ok (q x,e x,ρ++[some (enc x,dv (enc x))]))->acc.length + xs.length<=va5->zwm 1 (asgN n) test elt (xs.map enc) ρ acc=.ok (acc++(xs.filter p).map (λ x=>(q x,e x)),ρ)
 | [],ρ,acc,_,_,_,_=>by simp [zwm]
 | x::xs,ρ,acc,hn,ht,he,hl=>by
  have ea:asgN n (enc x) (ρ++ja6 1 none)=some (ρ++[some (enc x,dv (enc x))]):=by
   unfold asgN;rw [if_pos (by rw [jb0,hn];simp),List.set_append_right _ _ (by omega),hn];simp
  have ih:=λ acc h=>zzc (n:=n) (test:=test) (elt:=elt) (p:=p) (q:=q) (e:=e) (enc:=enc) xs ρ acc hn (λ y hy=>ht y (ja1 _ hy)) (λ y hy=>he y (ja1 _ hy)) h;have tk:(ρ++[some (enc x,dv (enc x))]).take ρ.length=ρ:=by simp
  rw [jb1] at hl;rw [jc2];unfold zwm;rw [ea];dsimp only;rw [ht x ja2];dsimp only [Rz.bindN];cases hp:p x with
  | false=>
   rw [if_neg jb7,tk,ih acc (by omega),jm4 (by simp [hp])]
  | true=>
   rw [if_pos rfl,he x ja2 hp];dsimp only;rw [if_pos (by omega),tk,ih _ (by rw [jb0,jd6];omega),jm5 hp];simp
theorem zzt {α:Type} (q:α->PV):∀ xs:List α,zzf (xs.map λ x=>(q x,om))=true
 | []=>rfl
 | x::xs=>by rw [jc2];unfold zzf;rw [zzt q xs];rfl
theorem zyo {α:Type}{n:Nat}{f elt:Fx}{enc q:α->PV}{ρ ρ1:Rho}{d:Nat} (xs:List α) (hf:f ρ=.ok (.lst (xs.map enc),d,ρ1)) (hn:ρ1.length=n) (he:∀ x∈xs,elt (ρ1++[some (enc x,dv (enc x))])=.ok (q x,om,ρ1++[some (enc x,dv (enc x))])) (hl:xs.length<=va5):
  zxa f 1 (asgN n) zxk elt ρ=.ok (.lst (xs.map q),om,ρ1):=by
 unfold zxa;rw [hf];dsimp only;rw [zzc (p:=λ _=>true) (q:=q) (e:=λ _=>om) xs ρ1 [] hn (λ _ _=>rfl) (λ x hx _=>he x hx) (by simpa using hl),jg1.mpr (λ _ _=>rfl)];show zze (xs.map λ x=>(q x,om)) ρ1=_;unfold zze;rw [zzt,jd7];rfl
theorem qjn {α:Type}{n:Nat}{f elt:Fx}{enc q:α->PV}{ρ ρ1:Rho}{d:Nat} (xs:List α) (hf:f ρ=.ok (.tup (xs.map enc),d,ρ1)) (hn:ρ1.length=n) (he:∀ x∈xs,elt (ρ1++[some (enc x,dv (enc x))])=.ok (q x,om,ρ1++[some (enc x,dv (enc x))])) (hl:xs.length<=va5):
  zxa f 1 (asgN n) zxk elt ρ=.ok (.lst (xs.map q),om,ρ1):=by
 unfold zxa;rw [hf];dsimp only;rw [zzc (p:=λ _=>true) (q:=q) (e:=λ _=>om) xs ρ1 [] hn (λ _ _=>rfl) (λ x hx _=>he x hx) (by simpa using hl),jg1.mpr (λ _ _=>rfl)];show zze (xs.map λ x=>(q x,om)) ρ1=_;unfold zze;rw [zzt,jd7];rfl
theorem zjx {α:Type}{n:Nat}{f elt:Fx}{test:Fb}{enc q:α->PV}{p:α->Bool}{ρ ρ1:Rho}{d:Nat} (xs:List α) (hf:f ρ=.ok (.lst (xs.map enc),d,ρ1)) (hn:ρ1.length=n) (ht:∀ x∈xs,test (ρ1++[some (enc x,dv (enc x))])=.ok (p x,ρ1++[some (enc x,dv (enc x))])) (he:∀ x∈xs,p x=true->elt (ρ1++[some (enc x,dv (enc x))])=.ok (q x,om,ρ1++[some (enc x,dv (enc x))])) (hl:xs.length<=va5):
  zxa f 1 (asgN n) test elt ρ=.ok (.lst ((xs.filter p).map q),om,ρ1):=by
 unfold zxa;rw [hf];dsimp only;rw [zzc (p:=p) (q:=q) (e:=λ _=>om) xs ρ1 [] hn ht he (by simpa using hl)];show zze ((xs.filter p).map λ x=>(q x,om)) ρ1=_;unfold zze;rw [zzt,jd7];rfl
theorem zyf (lo:Int) (n:Nat):zvn lo n=(ja7 n).map λ (k:Nat)=>PV.int (lo + (k:Int)):=rfl
theorem zzk {n:Nat}{en:List (PV×Nat)->Option (Int×Int)}{fa:Fa}{elt:Fx}{q:Nat->PV}{ρ ρ1:Rho}{as:List (PV×Nat)}{lo hi:Int} (hf:fa ρ=.ok (as,ρ1)) (hen:en as=some (lo,hi)) (hn:ρ1.length=n) (he:∀ k,k < (hi - lo).toNat->elt (ρ1++[some (.int (lo + (k:Int)),om)])=.ok (q k,om,ρ1++[some (.int (lo + (k:Int)),om)])) (hl:(hi - lo).toNat<=va5):
  zxd en fa 1 (asgN n) zxk elt ρ=.ok (.lst ((ja7 (hi - lo).toNat).map q),om,ρ1):=by
 unfold zxd;rw [hf];dsimp only;rw [hen];dsimp only;rw [zyf,zzc (enc:=λ (k:Nat)=>PV.int (lo + (k:Int))) (p:=λ _=>true) (q:=q) (e:=λ _=>om) (ja7 (hi - lo).toNat) ρ1 [] hn (λ _ _=>rfl) (λ x hx _=>he x (jc6.mp hx)) (by simpa using hl),jg1.mpr (λ _ _=>rfl)];show zze ((ja7 (hi - lo).toNat).map λ x=>(q x,om)) ρ1=_;unfold zze;rw [zzt,jd7];rfl
theorem qju {α:Type} (g:α->Bool) (xs:List α):QQ.allB (xs.map λ x=>.bl (g x))=some (xs.map g):=by
 induction xs with
 | nil=>rfl
 | cons x r ih=>rw [jc2,jc2,QQ.allB,ih];rfl
theorem all_ok {α:Type}{f:Fx}{ρ ρ1:Rho}{d:Nat}{g:α->Bool}{xs:List α} (h:f ρ=.ok (.lst (xs.map λ x=>.bl (g x)),d,ρ1)):zqd zvh (zqa f aNil) ρ=.ok (.bl (xs.all g),om,ρ1):=by
 refine zxi (zqp h) ?_;show (QQ.allB _).map _=_;rw [qju];simp
theorem qco {i:Nat}{body:Fs}{lo:Int} (I:Nat->Rho->Prop):∀ (m k:Nat) (ρ:Rho),I k ρ->(∀ j ρ,k<=j->j < k + m->I j ρ->i < ρ.length/\∃ ρ2,body (ρ.set i (some (.int (lo + (j:Int)),om)))=.nx ρ2/\I (j + 1) ρ2) ->
  ∃ ρ',zwk (asgN i) body ((jl0 k m).map λ (k:Nat)=>PV.int (lo + (k:Int))) ρ=.nx ρ'/\I (k + m) ρ'
 | 0,k,ρ,hi,_=>⟨ρ,rfl,hi⟩
 | m + 1,k,ρ,hi,hb=>by
  obtain ⟨h1,ρ2,e2,h2⟩:=hb k ρ (ja4 _) (by omega) hi;obtain ⟨ρ',e',h'⟩:=qco (i:=i) (body:=body) (lo:=lo) I m (k + 1) ρ2 h2 λ j ρ a b=>hb j ρ (by omega) (by omega);refine ⟨ρ',?_,by rw [show k + (m + 1)=k + 1 + m by omega];exact h'⟩;rw [jq0,jc2];unfold zwk
  have:asgN i (PV.int (lo + (k:Int))) ρ=some (ρ.set i (some (.int (lo + (k:Int)),om))):=by
   unfold asgN;rw [if_pos h1];rfl
  rw [this];dsimp only;rw [e2];exact e'
theorem zkh {i:Nat}{body:Fs}{en:List (PV×Nat)->Option (Int×Int)}{fa:Fa}{ρ ρ1:Rho}{as:List (PV×Nat)}{lo hi:Int} (I:Nat->Rho->Prop) (hf:fa ρ=.ok (as,ρ1)) (hen:en as=some (lo,hi)) (h0:I 0 ρ1)
  (hb:∀ j ρ,j < (hi - lo).toNat->I j ρ->i < ρ.length/\∃ ρ2,body (ρ.set i (some (.int (lo + (j:Int)),om)))=.nx ρ2/\I (j + 1) ρ2):∃ ρ',zvk en fa (asgN i) body ρ=.nx ρ'/\I (hi - lo).toNat ρ':=by
 obtain ⟨ρ',e,h⟩:=qco (i:=i) (body:=body) (lo:=lo) I (hi - lo).toNat 0 ρ1 h0 λ j ρ _ h hi=>hb j ρ (by omega) hi;refine ⟨ρ',?_,by rw [jl5] at h;exact h⟩;unfold zvk;rw [hf];dsimp only;rw [hen];dsimp only;rw [zyf,List.range_eq_range'];exact e
theorem zxu {j:Int}{d:Nat} (h1:-(2 ^ 62)<=j) (h2:j < 2 ^ 62):zqu [(.int j,d)]=some (0,j):=by
 show (if -(2 ^ 62)<=j/\j < 2 ^ 62 then some ((0:Int),j) else none)=_;rw [if_pos ⟨h1,h2⟩]
theorem qje {i j:Int}{d e:Nat} (h1:-(2 ^ 62)<=i) (h2:i < 2 ^ 62) (h3:-(2 ^ 62)<=j) (h4:j < 2 ^ 62):zph [(.int i,d),(.int j,e)]=some (i,j):=by
 show (if -(2 ^ 62)<=i/\i < 2 ^ 62/\-(2 ^ 62)<=j/\j < 2 ^ 62 then some (i,j) else none)=_;rw [if_pos ⟨h1,h2,h3,h4⟩]
theorem zwg {np k:Nat}{b:Fs}{xs:List PV}{ρ':Rho}{y:PV}{d:Nat} (hl:xs.length=np) (h:b (xs.map (λ x=>some (x,dv x))++ja6 k none)=.rt y d ρ'):mkFn false np k b xs=.ok (y,d,.non):=by
 unfold mkFn;rw [if_pos hl]
 have:zwz false xs=xs.map λ x=>some (x,dv x):=rfl
 rw [this,h];rfl
theorem qjb {np k:Nat}{b:Fs}{xs:List PV}{ρ':Rho} (hl:xs.length=np) (h:b (xs.map (λ x=>some (x,dv x))++ja6 k none)=.nx ρ'):mkFn false np k b xs=.ok (.non,om,.non):=by
 unfold mkFn;rw [if_pos hl]
 have:zwz false xs=xs.map λ x=>some (x,dv x):=rfl
 rw [this,h];rfl
def Xf_is_whole_number:Fs:=(sRet (zzs (bUn (zfh "int") (bVar 0)) (bUn zwo (bUn (zfh "bool") (bVar 0)))))
def f_is_whole_number:Fn:=mkFn false 1 0 Xf_is_whole_number
def Xf_is_box:Fs:=(sSeq (sIf (bT (bOrV (bUn zwo (bUn (zfh "tuple") (bVar 0))) (bBin (opEq true) (zqd zws (zqa (bVar 0) (aNil))) (bC (.int 3))))) (sRet (bC (.bl false))) sNil)
 (sRet (zqd zvh (zqa (zxa (bVar 0) 1 (asgN 1) zxk (zzs (zqg f_is_whole_number (zqa (bVar 1) (aNil))) (bBin (zxo λ i j=>decide (j<=i)) (bVar 1) (bC (.int 1))))) (aNil)))))
def f_is_box:Fn:=mkFn false 1 0 Xf_is_box
def Xf_must_be_box:Fs:=(sIf (bT (bUn zwo (zqg f_is_box (zqa (bVar 0) (aNil))))) sNo sNil)
def f_must_be_box:Fn:=mkFn false 1 0 Xf_must_be_box
def Xf_is_row_of_heights:Fs:=(sSeq (sIf (bT (bOrV (bUn zwo (bUn (zfh "list") (bVar 0))) (bBin (opEq true) (zqd zws (zqa (bVar 0) (aNil))) (bVar 1)))) (sRet (bC (.bl false))) sNil)
 (sRet (zqd zvh (zqa (zxa (bVar 0) 1 (asgN 3) zxk (zzs (zqg f_is_whole_number (zqa (bVar 3) (aNil))) (zzl (λ i j=>decide (i<=j)) (λ i j=>decide (i<=j)) (bC (.int 0)) (bVar 3) (bVar 2)))) (aNil)))))
def f_is_row_of_heights:Fn:=mkFn false 3 0 Xf_is_row_of_heights
def Xf_never_rises:Fs:=(sRet (zqd zvh (zqa (zxd zph (zqa (bC (.int 1)) (zqa (zqd zws (zqa (bVar 0) (aNil))) (aNil))) 1 (asgN 1) zxk (bBin (zxo λ i j=>decide (i<=j)) (bBin zqc (bVar 0) (bVar 1)) (bBin zqc (bVar 0) (bBin zzd (bVar 1) (bC (.int 1)))))) (aNil))))
def f_never_rises:Fn:=mkFn false 1 0 Xf_never_rises
def Xf_column_of:Fs:=(sRet (zxa (bVar 0) 1 (asgN 2) zxk (bBin zqc (bVar 2) (bVar 1))))
def f_column_of:Fn:=mkFn false 2 0 Xf_column_of
def Xf_is_pile:Fs:=(sSeq (zzm (zqg f_must_be_box (zqa (bVar 0) (aNil))))
 (sSeq (sUnp (asgT [2,3,4]) (bVar 0) [0])
 (sSeq (sIf (bT (bOrV (bUn zwo (bUn (zfh "list") (bVar 1))) (bBin (opEq true) (zqd zws (zqa (bVar 1) (aNil))) (bVar 2)))) (sRet (bC (.bl false))) sNil)
 (sSeq (sIf (bT (bUn zwo (zqd zvh (zqa (zxa (bVar 1) 1 (asgN 5) zxk (zqg f_is_row_of_heights (zqa (bVar 5) (zqa (bVar 3) (zqa (bVar 4) (aNil)))))) (aNil))))) (sRet (bC (.bl false))) sNil)
 (sSeq (sIf (bT (bUn zwo (zqd zvh (zqa (zxa (bVar 1) 1 (asgN 5) zxk (zqg f_never_rises (zqa (bVar 5) (aNil)))) (aNil))))) (sRet (bC (.bl false))) sNil)
 (sRet (zqd zvh (zqa (zxd zqu (zqa (bVar 3) (aNil)) 1 (asgN 5) zxk (zqg f_never_rises (zqa (zqg f_column_of (zqa (bVar 1) (zqa (bVar 5) (aNil)))) (aNil)))) (aNil)))))))))
def f_is_pile:Fn:=mkFn false 2 3 Xf_is_pile
def Xf_must_be_pile:Fs:=(sIf (bT (bUn zwo (zqg f_is_pile (zqa (bVar 0) (zqa (bVar 1) (aNil)))))) sNo sNil)
def f_must_be_pile:Fn:=mkFn false 2 0 Xf_must_be_pile
def Xb_cell_at:Fs:=(sSeq (sIf (bT (bBin (zxo λ i j=>decide (i < j)) (bVar 1) (zqd zws (zqa (bVar 0) (aNil))))) (sRet (bBin zqc (bVar 0) (bVar 1))) sNil)
 (sRet (bC (.int 0))))
def b_cell_at:Fn:=mkFn false 2 0 Xb_cell_at
def Xf_must_be_two_piles:Fs:=(sSeq (zzm (zqg f_must_be_pile (zqa (bVar 0) (zqa (bVar 1) (aNil)))))
 (zzm (zqg f_must_be_pile (zqa (bVar 0) (zqa (bVar 2) (aNil))))))
def f_must_be_two_piles:Fn:=mkFn false 3 0 Xf_must_be_two_piles
def Xf_places_of:Fs:=(sSeq (sSet false 1 (zqd zqs (aNil)) [])
 (sSeq (zvk zqu (zqa (bBin zqc (bVar 0) (bC (.int 0))) (aNil)) (asgN 2) (sExt 1 (zxd zqu (zqa (bBin zqc (bVar 0) (bC (.int 1))) (aNil)) 1 (asgN 3) zxk (zqd zxy (zqa (bVar 2) (zqa (bVar 3) (aNil))))) [2]))
 (zjh 1)))
def f_places_of:Fn:=mkFn false 1 2 Xf_places_of
def Xf_lies_below:Fs:=(sSeq (zzm (zqg f_must_be_two_piles (zqa (bVar 0) (zqa (bVar 1) (zqa (bVar 2) (aNil))))))
 (sRet (zqd zvh (zqa (zxa (zqg f_places_of (zqa (bVar 0) (aNil))) 2 (asgT [3,4]) zxk (bBin (zxo λ i j=>decide (i<=j)) (bBin zqc (bBin zqc (bVar 1) (bVar 3)) (bVar 4)) (bBin zqc (bBin zqc (bVar 2) (bVar 3)) (bVar 4)))) (aNil)))))
def f_lies_below:Fn:=mkFn false 3 0 Xf_lies_below
theorem sz:(1000000:Nat)<=va5:=by decide
theorem zmw (i:Int):f_is_whole_number [.int i]=.ok (.bl true,om,.non):=by kernel_rfl
def boxB (a b c:Int):Bool:=decide (1<=a) && (decide (1<=b) && decide (1<=c))
theorem qgh (a b c:Int):f_is_box [bx a b c]=.ok (.bl (boxB a b c),om,.non):=by
 have e0:∀ x∈[a,b,c],(zzs (zqg f_is_whole_number (zqa (bVar 1) (aNil))) (bBin (zxo λ i j=>decide (j<=i)) (bVar 1) (bC (.int 1)))) ([some (bx a b c,0)]++[some (.int x,om)])=.ok (.bl (decide (1<=x)),om,[some (bx a b c,0)]++[some (.int x,om)]):=λ x _=>by kernel_rfl
 have e1:=qjn (n:=1) (f:=bVar 0) (ρ:=[some (bx a b c,0)]) (enc:=PV.int) (q:=λ x=>.bl (decide (1<=x))) (d:=0) [a,b,c] rfl rfl e0 (by have:=sz;show 3<=va5;omega);refine zwg rfl (ρ':=[some (bx a b c,0)]) ?_;show Xf_is_box [some (bx a b c,0)]=_;refine (zyu (ρ1:=[some (bx a b c,0)]) (by kernel_rfl)).trans (zxz ?_);rw [all_ok e1];show Rz.ok (PV.bl (decide (1<=a) && (decide (1<=b) && (decide (1<=c) && true))),om,_)=_;rw [jj4];rfl
theorem zbt {a b c:Int} (h:boxB a b c=true):f_must_be_box [bx a b c]=.ok (.non,om,.non):=by
 refine qjb rfl (ρ':=[some (bx a b c,0)]) ?_;have hb:=qgh a b c;rw [h] at hb;exact if_f (f:=sNo) (g:=sNil) (t_ok (zko (zqh (F:=f_is_box) (fa:=zqa (bVar 0) aNil) (ρ:=[some (bx a b c,0)]) (xs:=[(bx a b c,0)]) rfl hb)))
def rowB (xs:List Int) (c h:Int):Bool:=decide ((xs.length:Int)=c) && xs.all λ x=>decide (0<=x) && decide (x<=h)
theorem qox (xs:List Int) (c h:Int) (hl:xs.length<=1000):f_is_row_of_heights [il xs,.int c,.int h]=.ok (.bl (rowB xs c h),om,.non):=by
 have e0:∀ x∈xs,(zzs (zqg f_is_whole_number (zqa (bVar 3) (aNil))) (zzl (λ i j=>decide (i<=j)) (λ i j=>decide (i<=j)) (bC (.int 0)) (bVar 3) (bVar 2))) ([some (il xs,0),some (.int c,om),some (.int h,om)]++[some (.int x,om)])=.ok (.bl (decide (0<=x) && decide (x<=h)),om,[some (il xs,0),some (.int c,om),some (.int h,om)]++[some (.int x,om)]):=λ x _=>
  qaj (a:=true) (zqh (xs:=[(.int x,om)]) rfl (zmw x)) (λ _=>zyq (i:=0) (j:=x) (k:=h) rfl rfl rfl) rfl
 have e1:=zyo (n:=3) (f:=bVar 0) (ρ:=[some (il xs,0),some (.int c,om),some (.int h,om)]) (enc:=PV.int) (q:=λ x=>.bl (decide (0<=x) && decide (x<=h))) (d:=0) xs rfl rfl e0 (by have:=sz;omega);have t:bT (bOrV (bUn zwo (bUn (zfh "list") (bVar 0))) (bBin (opEq true) (zqd zws (zqa (bVar 0) (aNil))) (bVar 1))) [some (il xs,0),some (.int c,om),some (.int h,om)]=.ok (!decide ((xs.length:Int)=c),[some (il xs,0),some (.int c,om),some (.int h,om)]):=by
  refine t_ok (d:=om) ((qdk (a:=false) rfl (λ _=>qbg (qcp (xs:=xs) (d:=0) rfl) (j:=c) rfl) rfl).trans ?_);rw [jq7,jo6]
 refine zwg rfl (ρ':=[some (il xs,0),some (.int c,om),some (.int h,om)]) ?_;show Xf_is_row_of_heights [some (il xs,0),some (.int c,om),some (.int h,om)]=_;unfold rowB;by_cases hc:(xs.length:Int)=c
 ·rw [decide_eq_true hc] at t ⊢;refine (zyu t).trans (zxz ?_);rw [all_ok e1];rfl
 ·rw [decide_eq_false hc] at t ⊢;exact zbi ((if_t t).trans rfl)
def nrB (xs:List Int):Bool:=(ja7 ((xs.length:Int) - 1).toNat).all λ k=>decide (xs.getD (k + 1) 0<=xs.getD k 0)
theorem qcj (xs:List Int) (hl:xs.length<=1000):f_never_rises [il xs]=.ok (.bl (nrB xs),om,.non):=by
 have e0:∀ k,k < ((xs.length:Int) - 1).toNat->(bBin (zxo λ i j=>decide (i<=j)) (bBin zqc (bVar 0) (bVar 1)) (bBin zqc (bVar 0) (bBin zzd (bVar 1) (bC (.int 1))))) ([some (il xs,0)]++[some (.int (1 + (k:Int)),om)])=.ok (.bl (decide (xs.getD (k + 1) 0<=xs.getD k 0)),om,[some (il xs,0)]++[some (.int (1 + (k:Int)),om)]):=λ k hk=>by
  refine zzr (i:=xs.getD (k + 1) 0) (j:=xs.getD k 0) (zyi (xs:=xs) (k:=1 + (k:Int)) rfl rfl (zxr (by omega) ?_)) (zyi (xs:=xs) (k:=1 + (k:Int) - 1) rfl rfl (zxr (by omega) ?_))
  ·rw [show (1 + (k:Int)).toNat=k + 1 by omega,jb8 (show k + 1 < xs.length by omega),ja0,jb8 (show k + 1 < xs.length by omega)];rfl
  ·rw [show (1 + (k:Int) - 1).toNat=k by omega,jb8 (show k < xs.length by omega),ja0,jb8 (show k < xs.length by omega)];rfl
 have e1:=zzk (n:=1) (en:=zph) (ρ:=[some (il xs,0)]) (q:=λ k=>.bl (decide (xs.getD (k + 1) 0<=xs.getD k 0))) (zqk (f:=bC (.int 1)) (d:=om) (x:=.int 1) rfl (zqp (qcp (fa:=zqa (bVar 0) aNil) (xs:=xs) (d:=0) rfl))) (qje (by decide) (by decide) (by omega) (by omega)) rfl e0 (by have:=sz;omega);exact zwg rfl (ρ':=[some (il xs,0)]) (zxz (all_ok e1))
def zpp (t:List (List Int)) (j:Nat):List Int:=t.map λ r=>r.getD j 0
theorem zwc {xs:List Int}{j:Nat} (h:j < xs.length):xs[j]?=some (xs.getD j 0):=by
 rw [ja0,jb8 h];rfl
theorem zyj {xs:List (List Int)}{j:Nat} (h:j < xs.length):xs[j]?=some (xs.getD j []):=by
 rw [ja0,jb8 h];rfl
theorem qha (t:List (List Int)) (j:Nat) (hl:t.length<=1000) (hr:∀ r∈t,j < r.length):f_column_of [tb t,.int (j:Int)]=.ok (il (zpp t j),om,.non):=by
 have e0:∀ r∈t,(bBin zqc (bVar 2) (bVar 1)) ([some (tb t,0),some (.int (j:Int),om)]++[some (il r,0)])=.ok (.int (r.getD j 0),om,[some (tb t,0),some (.int (j:Int),om)]++[some (il r,0)]):=λ r hm=>
  zyi (xs:=r) (k:=(j:Int)) rfl rfl (zxr (by omega) (zwc (hr r hm)))
 have e1:=zyo (n:=2) (f:=bVar 0) (ρ:=[some (tb t,0),some (.int (j:Int),om)]) (enc:=il) (q:=λ r=>.int (r.getD j 0)) (d:=0) t rfl rfl e0 (by have:=sz;omega);refine zwg rfl (ρ':=[some (tb t,0),some (.int (j:Int),om)]) ((zxz e1).trans ?_);unfold zpp il;rw [jd7];rfl
def Tab (a b:Nat) (t:List (List Int)):Prop:=t.length=a/\∀ r∈t,r.length=b
def qe8 (a b:Nat) (c:Int) (t:List (List Int)):Bool:=(t.all λ r=>rowB r b c) && ((t.all nrB) && ((ja7 b).all λ j=>nrB (zpp t j)))
theorem qds {a b:Nat}{c:Int}{t:List (List Int)} (ht:Tab a b t) (ha:1<=a/\a<=100) (hb:1<=b/\b<=100) (hc:1<=c):f_is_pile [bx a b c,tb t]=.ok (.bl (qe8 a b c t),om,.non):=by
 let R0:Rho:=[some (bx a b c,0),some (tb t,0),none,none,none]
 let R1:Rho:=[some (bx a b c,0),some (tb t,0),some (.int a,om),some (.int b,om),some (.int c,om)]
 have hbx:boxB a b c=true:=by unfold boxB;rw [decide_eq_true (by omega),decide_eq_true (by omega),decide_eq_true hc];rfl
 have hs:=sz;have l1:=ht.1;have s1:zzm (zqg f_must_be_box (zqa (bVar 0) (aNil))) R0=.nx R0:=zvb (zqh (xs:=[(bx a b c,0)]) rfl (zbt hbx));have s2:sUnp (asgT [2,3,4]) (bVar 0) [0] R0=.nx R1:=by kernel_rfl
 have t3:bT (bOrV (bUn zwo (bUn (zfh "list") (bVar 1))) (bBin (opEq true) (zqd zws (zqa (bVar 1) (aNil))) (bVar 2))) R1=.ok (false,R1):=by
  refine t_ok (d:=om) ((qdk (a:=false) rfl (λ _=>qbg (qp3 (t:=t) (d:=0) rfl) (j:=(a:Int)) rfl) rfl).trans ?_);rw [l1];simp
 have e4:∀ r∈t,(zqg f_is_row_of_heights (zqa (bVar 5) (zqa (bVar 3) (zqa (bVar 4) (aNil))))) (R1++[some (il r,0)])=.ok (.bl (rowB r b c),om,R1++[some (il r,0)]):=λ r hr=>
  zqh (xs:=[(il r,0),(.int b,om),(.int c,om)]) rfl (qox r b c (by rw [ht.2 r hr];omega))
 have t4:=t_ok (zko (all_ok (zyo (n:=5) (f:=bVar 1) (ρ:=R1) (enc:=il) (q:=λ r=>.bl (rowB r b c)) (d:=0) t rfl rfl e4 (by omega))));have e5:∀ r∈t,(zqg f_never_rises (zqa (bVar 5) (aNil))) (R1++[some (il r,0)])=.ok (.bl (nrB r),om,R1++[some (il r,0)]):=λ r hr=>
  zqh (xs:=[(il r,0)]) rfl (qcj r (by rw [ht.2 r hr];omega))
 have t5:=t_ok (zko (all_ok (zyo (n:=5) (f:=bVar 1) (ρ:=R1) (enc:=il) (q:=λ r=>.bl (nrB r)) (d:=0) t rfl rfl e5 (by omega))));have e6:∀ k,k < ((b:Int) - 0).toNat->(zqg f_never_rises (zqa (zqg f_column_of (zqa (bVar 1) (zqa (bVar 5) (aNil)))) (aNil))) (R1++[some (.int (0 + (k:Int)),om)])=.ok (.bl (nrB (zpp t k)),om,R1++[some (.int (0 + (k:Int)),om)]):=λ k hk=>by
  have e:=qha t k (by omega) λ r hr=>by rw [ht.2 r hr];omega
  rw [jf1];exact zqh (xs:=[(il (zpp t k),om)]) (zqp (zqh (xs:=[(tb t,0),(.int (k:Int),om)]) rfl e)) (qcj _ (by unfold zpp;rw [ja3];omega))
 have e7:=zzk (n:=5) (en:=zqu) (fa:=zqa (bVar 3) aNil) (ρ:=R1) (q:=λ k=>.bl (nrB (zpp t k))) (as:=[(.int (b:Int),om)]) rfl (zxu (by omega) (by omega)) rfl e6 (by omega);rw [show ((b:Int) - 0).toNat=b by omega] at e7;refine zwg rfl (ρ':=R1) ?_;show Xf_is_pile R0=_;unfold qe8;refine (zqi s1).trans ((zqi s2).trans ((zyu t3).trans ?_));cases h1:t.all λ r=>rowB r b c with
 | false=>
  rw [h1] at t4;exact zbi ((if_t t4).trans rfl)
 | true=>
  rw [h1] at t4;refine (zyu t4).trans ?_;cases h2:t.all nrB with
  | false=>
   have h2':t.all (λ r=>nrB r)=false:=h2;rw [h2'] at t5;exact zbi ((if_t t5).trans rfl)
  | true=>
   have h2':t.all (λ r=>nrB r)=true:=h2;rw [h2'] at t5;exact (zyu t5).trans (zxz (all_ok e7))
theorem zwq {a b:Nat}{c:Int}{t:List (List Int)} (ht:Tab a b t) (ha:1<=a/\a<=100) (hb:1<=b/\b<=100) (hc:1<=c) (h:qe8 a b c t=true):f_must_be_pile [bx a b c,tb t]=.ok (.non,om,.non):=by
 refine qjb rfl (ρ':=[some (bx a b c,0),some (tb t,0)]) ?_;have hp:=qds ht ha hb hc;rw [h] at hp;exact if_f (f:=sNo) (g:=sNil) (t_ok (zko (zqh (F:=f_is_pile) (fa:=zqa (bVar 0) (zqa (bVar 1) aNil)) (ρ:=[some (bx a b c,0),some (tb t,0)]) (xs:=[(bx a b c,0),(tb t,0)]) rfl hp)))
def g (t:List (List Int)) (i j:Nat):Int:=(t.getD i []).getD j 0
structure Pile (a b:Nat) (c:Int) (t:List (List Int)):Prop where
 tab:Tab a b t
 lo:∀ i j,i < a->j < b->0<=g t i j
 hi:∀ i j,i < a->j < b->g t i j<=c
 dn:∀ i j,i + 1 < a->j < b->g t (i + 1) j<=g t i j
 rt:∀ i j,i < a->j + 1 < b->g t i (j + 1)<=g t i j
theorem qas {t:List (List Int)}{i:Nat} (h:i < t.length):t.getD i []∈t:=by
 rw [ja0,jb8 h];exact jk4 h
theorem Tab.row {a b:Nat}{t:List (List Int)} (h:Tab a b t) {i:Nat} (hi:i < a):(t.getD i []).length=b:=h.2 _ (qas (by rw [h.1];exact hi))
theorem qi9 {xs:List Int}{i:Nat} (h:i < xs.length):xs.getD i 0∈xs:=by
 rw [ja0,jb8 h];exact jk4 h
theorem qip {xs:List Int}{x:Int} (h:x∈xs):∃ i,i < xs.length/\xs.getD i 0=x:=by
 obtain ⟨i,hi,e⟩:=jj1 h;exact ⟨i,hi,by rw [ja0,jb8 hi];exact e⟩
theorem zhm {t:List (List Int)}{r:List Int} (h:r∈t):∃ i,i < t.length/\t.getD i []=r:=by
 obtain ⟨i,hi,e⟩:=jj1 h;exact ⟨i,hi,by rw [ja0,jb8 hi];exact e⟩
theorem qb8 {xs:List Int}{c h:Int}:rowB xs c h=true↔(xs.length:Int)=c/\∀ x∈xs,0<=x/\x<=h:=by
 unfold rowB;rw [ja9,decide_eq_true_iff,jb5];constructor
 ·rintro ⟨h1,h2⟩;refine ⟨h1,λ x hx=>?_⟩
  have:=h2 x hx
  rw [ja9,decide_eq_true_iff,decide_eq_true_iff] at this;exact this
 ·rintro ⟨h1,h2⟩;refine ⟨h1,λ x hx=>?_⟩;rw [ja9,decide_eq_true_iff,decide_eq_true_iff];exact h2 x hx
theorem zfj {xs:List Int}:nrB xs=true↔∀ k,k + 1 < xs.length->xs.getD (k + 1) 0<=xs.getD k 0:=by
 unfold nrB;rw [jb5];constructor
 ·intro h k hk;exact of_decide_eq_true (h k (jc6.mpr (by omega)))
 ·intro h k hk
  have:=jc6.mp hk
  exact decide_eq_true (h k (by omega))
theorem zfx {t:List (List Int)}{i j:Nat} (h:i < t.length):(zpp t j).getD i 0=g t i j:=by
 unfold zpp g;rw [ja0,jc1,jb8 h,ja0 (l:=t),jb8 h];rfl
theorem qhb {t:List (List Int)}{j:Nat}:(zpp t j).length=t.length:=by unfold zpp;rw [ja3]
theorem zvp {a b:Nat}{c:Int}{t:List (List Int)} (ht:Tab a b t):qe8 a b c t=true↔Pile a b c t:=by
 unfold qe8;rw [ja9,ja9,jb5,jb5,jb5];constructor
 ·rintro ⟨h1,h2,h3⟩;have q:∀ i j,i < a->j < b->0<=g t i j/\g t i j<=c:=λ i j hi hj=>(qb8.mp (h1 _ (qas (by rw [ht.1];exact hi)))).2 _ (qi9 (by rw [ht.row hi];exact hj));refine ⟨ht,λ i j hi hj=>(q i j hi hj).1,λ i j hi hj=>(q i j hi hj).2,λ i j hi hj=>?_,λ i j hi hj=>?_⟩
  ·have:=zfj.mp (h3 j (jc6.mpr hj)) i (by rw [qhb,ht.1];exact hi)
   rw [zfx (by rw [ht.1];exact hi),zfx (by rw [ht.1];omega)] at this;exact this
  ·exact zfj.mp (h2 _ (qas (by rw [ht.1];exact hi))) j (by rw [ht.row hi];exact hj)
 ·intro p;refine ⟨λ r hr=>qb8.mpr ⟨by rw [ht.2 r hr],λ x hx=>?_⟩,λ r hr=>zfj.mpr λ k hk=>?_,λ j hj=>zfj.mpr λ k hk=>?_⟩
  ·obtain ⟨i,hi,rfl⟩:=zhm hr;obtain ⟨j,hj,rfl⟩:=qip hx;have hi':i < a:=by rw [<- ht.1];exact hi
   rw [ht.row hi'] at hj;exact ⟨p.lo i j hi' hj,p.hi i j hi' hj⟩
  ·obtain ⟨i,hi,rfl⟩:=zhm hr;have hi':i < a:=by rw [<- ht.1];exact hi
   rw [ht.row hi'] at hk;exact p.rt i k hi' hk
  ·rw [qhb,ht.1] at hk;rw [zfx (by rw [ht.1];exact hk),zfx (by rw [ht.1];omega)];exact p.dn k j hk (jc6.mp hj)
def mkT (a b:Nat) (f:Nat->Nat->Int):List (List Int):=(ja7 a).map λ i=>(ja7 b).map λ j=>f i j
theorem qa2 {a b:Nat}{f:Nat->Nat->Int}:Tab a b (mkT a b f):=by
 refine ⟨by unfold mkT;rw [ja3,je8],λ r hr=>?_⟩;obtain ⟨i,_,rfl⟩:=jd2.mp hr;rw [ja3,je8]
theorem qmi {b j:Nat}{f:Nat->Int} (hj:j < b):((ja7 b).map f).getD j 0=f j:=by
 rw [ja0,jc1,jg6 hj];rfl
theorem qmh {a i:Nat}{f:Nat->List Int} (hi:i < a):((ja7 a).map f).getD i []=f i:=by
 rw [ja0,jc1,jg6 hi];rfl
theorem zqx {a b i j:Nat}{f:Nat->Nat->Int} (hi:i < a) (hj:j < b):g (mkT a b f) i j=f i j:=by
 unfold g mkT;rw [qmh hi,qmi hj]
def Nr (r:List Int):Prop:=∀ k,k + 1 < r.length->r.getD (k + 1) 0<=r.getD k 0
theorem qmy {f h:Fx}{ρ ρ1 ρ2:Rho}{xs:List Int}{k x:Int}{d e:Nat} (h1:f ρ=.ok (.scr xs,d,ρ1)) (h2:h ρ1=.ok (.int k,e,ρ2)) (hx:atI xs k=some x):bBin zqc f h ρ=.ok (.int x,om,ρ2):=by
 refine zqz h1 h2 ?_;show (atI xs k).map _=_;rw [hx];rfl
theorem qbn (ns:List Int) (k:Nat):b_cell_at [.scr ns,.int (k:Int)]=.ok (.int (ns.getD k 0),om,.non):=by
 let R:Rho:=[some (.scr ns,om),some (.int (k:Int),om)]
 have t1:bT (bBin (zxo λ i j=>decide (i < j)) (bVar 1) (zqd zws (zqa (bVar 0) (aNil)))) R=.ok (decide ((k:Int) < (ns.length:Int)),R):=rfl;refine zwg rfl (ρ':=R) ?_;by_cases h:(k:Int) < (ns.length:Int)
 ·rw [decide_eq_true h] at t1;exact zbi ((if_t t1).trans (zxz (qmy (xs:=ns) (k:=(k:Int)) (d:=om) rfl rfl (zxr (by omega) (zwc (by omega))))))
 ·rw [decide_eq_false h] at t1;refine (zyu t1).trans ((zxz (d:=om) rfl).trans ?_);rw [ja0,je1 (by omega)];rfl
theorem qho {f h:Fx}{ρ ρ1 ρ2:Rho}{xs ys:List PV}{d e:Nat} (h1:f ρ=.ok (.lst xs,d,ρ1)) (h2:h ρ1=.ok (.lst ys,e,ρ2)) (hl:xs.length + ys.length<=va5):bBin zqj f h ρ=.ok (.lst (xs++ys),d1 (xs++ys),ρ2):=by
 refine zqz h1 h2 ?_;show (if _ then _ else _)=_;rw [if_pos hl]
theorem zwy:∀ xs:List Int,zzj (xs.map PV.int)=some xs
 | []=>rfl
 | x::xs=>by rw [jc2,zzj,zwy xs];rfl
def upH (c:Int) (t:List (List Int)) (j:Nat):Int:=if t.length=0 then c else g t (t.length - 1) j
theorem qh8 {t:List (List Int)}{r:List Int}{i:Nat}:(t++[r]).getD i []=if i < t.length then t.getD i [] else if i=t.length then r else []:=by
 by_cases h:i < t.length
 ·rw [if_pos h,ja0,jb3 h,ja0]
 ·rw [if_neg h];by_cases h2:i=t.length
  ·rw [if_pos h2,h2,ja0,jl1];rfl
  ·rw [if_neg h2,ja0,je1 (by rw [jb0,jd6];omega)];rfl
theorem zfc {r:List Int}{x:Int}{i:Nat}:(r++[x]).getD i 0=if i < r.length then r.getD i 0 else if i=r.length then x else 0:=by
 by_cases h:i < r.length
 ·rw [if_pos h,ja0,jb3 h,ja0]
 ·rw [if_neg h];by_cases h2:i=r.length
  ·rw [if_pos h2,h2,ja0,jl1];rfl
  ·rw [if_neg h2,ja0,je1 (by rw [jb0,jd6];omega)];rfl
theorem Pile.snoc {k b:Nat}{c:Int}{t:List (List Int)}{r:List Int} (p:Pile k b c t) (hr:r.length=b) (h:∀ y,y < b->0<=r.getD y 0/\r.getD y 0<=upH c t y) (hn:Nr r):Pile (k + 1) b c (t++[r]):=by
 have l:=p.tab.1;have e:∀ i j,g (t++[r]) i j=if i < k then g t i j else if i=k then r.getD j 0 else 0:=λ i j=>by
  unfold g;rw [qh8,l];split
  ·rfl
  ·split <;> rfl
 have u:∀ y,y < b->upH c t y<=c:=λ y hy=>by
  unfold upH;split
  ·exact jf7 _
  ·exact p.hi _ _ (by omega) hy
 refine ⟨⟨by rw [jb0,l];rfl,λ x hx=>?_⟩,λ i j hi hj=>?_,λ i j hi hj=>?_,λ i j hi hj=>?_,λ i j hi hj=>?_⟩
 ·rcases jd0.mp hx with z | z
  ·exact p.tab.2 x z
  ·rw [jb4.mp z,hr]
 ·rw [e];by_cases z:i < k
  ·rw [if_pos z];exact p.lo i j z hj
  ·rw [if_neg z,if_pos (by omega)];exact (h j hj).1
 ·rw [e];by_cases z:i < k
  ·rw [if_pos z];exact p.hi i j z hj
  ·rw [if_neg z,if_pos (by omega)];exact jf2 (h j hj).2 (u j hj)
 ·rw [e,e];by_cases z:i + 1 < k
  ·rw [if_pos z,if_pos (by omega)];exact p.dn i j z hj
  ·rw [if_neg z,if_pos (by omega),if_pos (by omega)]
   have:=(h j hj).2
   unfold upH at this;rw [if_neg (by omega),l,show k - 1=i by omega] at this;exact this
 ·rw [e,e];by_cases z:i < k
  ·rw [if_pos z,if_pos z];exact p.rt i j z hj
  ·rw [if_neg z,if_neg z,if_pos (by omega),if_pos (by omega)];exact hn j (by rw [hr];exact hj)
theorem qak:∀ xs:List Int,qdy (xs.map PV.int)=true
 | []=>rfl
 | x::xs=>by rw [jc2,qdy,qak xs];rfl
theorem qcz (xs:List Int):d1 (xs.map PV.int)=om:=by unfold d1;rw [qak];rfl
theorem qmk {f:Fx}{ρ ρ1:Rho}{xs:List Int}{d:Nat} (h:f ρ=.ok (il xs,d,ρ1)):zqd zkm (zqa f aNil) ρ=.ok (il xs,om,ρ1):=by
 refine zxi (zqp h) ?_;show some (PV.lst (xs.map PV.int),d1 (xs.map PV.int))=_;rw [qcz];rfl
theorem zpe {f h k:Fx}{ρ ρ1 ρ2 ρ3:Rho}{t:List (List Int)}{a b i j:Nat}{d e e':Nat} (ht:Tab a b t) (h1:f ρ=.ok (tb t,d,ρ1)) (h2:h ρ1=.ok (.int (i:Int),e,ρ2)) (h3:k ρ2=.ok (.int (j:Int),e',ρ3)) (hi:i < a) (hj:j < b):bBin zqc (bBin zqc f h) k ρ=.ok (.int (g t i j),om,ρ3):=
 zyi (xs:=t.getD i []) (k:=(j:Int)) (qcr (t:=t) (k:=(i:Int)) h1 h2 (zxr (by omega) (zyj (by rw [jc7,ht.1];exact hi)))) h3 (zxr (by omega) (zwc (by rw [jc7,ht.row hi];exact hj)))
theorem zbu {asg:PV->Rho->Option Rho}{body:Fs}:∀ (els:List PV) (I:Nat->Rho->Prop) (ρ:Rho),I 0 ρ->(∀ j x ρ,els[j]?=some x->I j ρ->∃ ρ1 ρ2,asg x ρ=some ρ1/\body ρ1=.nx ρ2/\I (j + 1) ρ2)->∃ ρ',zwk asg body els ρ=.nx ρ'/\I els.length ρ'
 | [],I,ρ,h,_=>⟨ρ,rfl,h⟩
 | x::xs,I,ρ,h,hb=>by
  obtain ⟨ρ1,ρ2,e1,e2,h2⟩:=hb 0 x ρ rfl h;obtain ⟨ρ',e',h'⟩:=zbu xs (λ j=>I (j + 1)) ρ2 h2 λ j y ρ hy hi=>hb (j + 1) y ρ (by simpa using hy) hi;refine ⟨ρ',?_,h'⟩;unfold zwk;rw [e1];dsimp only;rw [e2];exact e'
theorem qcu {v:Vw}{fa:Fa}{vs:List Nat}{asg:PV->Rho->Option Rho}{body:Fs}{ρ ρ1 ρ2:Rho}{xs:List (PV×Nat)}{els:List PV} (I:Nat->Rho->Prop) (hf:fa ρ=.ok (xs,ρ1)) (he:zjz v (xs.map (·.1))=some els) (ec:zqo (if zzf xs=true then om else 0) vs ρ1=ρ2) (h0:I 0 ρ2)
  (hb:∀ j x ρ,els[j]?=some x->I j ρ->∃ ρ1 ρ2,asg x ρ=some ρ1/\body ρ1=.nx ρ2/\I (j + 1) ρ2):∃ ρ',qaq v fa vs asg body ρ=.nx ρ'/\I els.length ρ':=by
 obtain ⟨ρ',e,h⟩:=zbu els I ρ2 h0 hb;refine ⟨ρ',?_,h⟩;unfold qaq;rw [hf];dsimp only;rw [he];dsimp only;rw [ec];exact e
theorem qkh {i:Nat}{f:Fx}{vs:List Nat}{ρ ρ1 ρ2:Rho}{ys:List PV}{e:Nat}{xs:List PV}{d0 d:Nat}{xs0:List PV} (h0:ρ[i]?=some (some (.lst xs0,d0 + 1))) (h:f ρ=.ok (.lst ys,e,ρ1)) (h1:(zqo e vs ρ1)[i]?=some (some (.lst xs,d))) (hd:d≠0) (hl:xs.length + ys.length<=va5)
  (e2:(zqo e vs ρ1).set i (some (.lst (xs++ys),1))=ρ2):sExt i f vs ρ=.nx ρ2:=by
 unfold sExt;rw [h0];dsimp only;rw [h];dsimp only;rw [h1];dsimp only;rw [if_pos ⟨hd,hl⟩,e2]
abbrev C3:=Nat×Nat×Nat
def c3 (x:C3):PV:=.tup [.int (x.1:Int),.int (x.2.1:Int),.int (x.2.2:Int)]
def ct (cs:List C3):PV:=.lst (cs.map c3)
theorem qh3 {xs:List Int} (h1:xs.length<=1000) (h2:∀ x∈xs,-1000000<=x/\x<=1000000):zyb xs=true:=by
 unfold zyb;rw [ja9,decide_eq_true_iff,jb5];refine ⟨by omega,λ x hx=>?_⟩
 have:=h2 x hx
 rw [ja9,decide_eq_true_iff,decide_eq_true_iff];omega
theorem zgq {fa:Fa}{ρ ρ1:Rho}{xs:List Int}{d:Nat} (h:fa ρ=.ok ([(il xs,d)],ρ1)) (hs:zyb xs=true):zqd zvg fa ρ=.ok (.int xs.sum,om,ρ1):=by
 refine zxi h ?_;show (match zzj (xs.map PV.int) with | some ns=>if zyb ns=true then some (PV.int ns.sum,om) else none | none=>none)=_;rw [zwy];dsimp only;rw [if_pos hs]
theorem zhz {α:Type}{k:Nat}{asg:PV->Rho->Option Rho}{test:Fb}{elt:Fx}{enc q:α->PV}{E:α->Rho}{e:α->Nat}{p:α->Bool}:∀ (xs:List α) (ρ:Rho) (acc:List (PV×Nat)),(∀ x∈xs,asg (enc x) (ρ++ja6 k none)=some (ρ++E x)) ->
  (∀ x∈xs,test (ρ++E x)=.ok (p x,ρ++E x))->(∀ x∈xs,p x=true->elt (ρ++E x)=.ok (q x,e x,ρ++E x))->acc.length + xs.length<=va5->zwm k asg test elt (xs.map enc) ρ acc=.ok (acc++(xs.filter p).map (λ x=>(q x,e x)),ρ)
 | [],ρ,acc,_,_,_,_=>by simp [zwm]
 | x::xs,ρ,acc,ha,ht,he,hl=>by
  have ih:=λ acc h=>zhz (k:=k) (asg:=asg) (test:=test) (elt:=elt) (p:=p) (q:=q) (e:=e) (enc:=enc) (E:=E) xs ρ acc (λ y hy=>ha y (ja1 _ hy)) (λ y hy=>ht y (ja1 _ hy)) (λ y hy=>he y (ja1 _ hy)) h;have tk:(ρ++E x).take ρ.length=ρ:=by simp
  rw [jb1] at hl;rw [jc2];unfold zwm;rw [ha x ja2];dsimp only;rw [ht x ja2];dsimp only [Rz.bindN];cases hp:p x with
  | false=>rw [if_neg jb7,tk,ih acc (by omega),jm4 (by simp [hp])]
  | true=>
   rw [if_pos rfl,he x ja2 hp];dsimp only;rw [if_pos (by omega),tk,ih _ (by rw [jb0,jd6];omega),jm5 hp];simp
theorem qf2 {α:Type}{q:α->PV}{xs:List α}{ρ:Rho}:zze ([]++xs.map λ x=>(q x,om)) ρ=.ok (.lst (xs.map q),om,ρ):=by
 rw [je7];unfold zze;rw [zzt,jd7];rfl
theorem qg9 {α:Type}{k:Nat}{f:Fx}{asg:PV->Rho->Option Rho}{test:Fb}{elt:Fx}{enc q:α->PV}{E:α->Rho}{p:α->Bool}{ρ ρ1:Rho}{d:Nat} (xs:List α) (hf:f ρ=.ok (.lst (xs.map enc),d,ρ1)) (ha:∀ x∈xs,asg (enc x) (ρ1++ja6 k none)=some (ρ1++E x))
  (ht:∀ x∈xs,test (ρ1++E x)=.ok (p x,ρ1++E x)) (he:∀ x∈xs,p x=true->elt (ρ1++E x)=.ok (q x,om,ρ1++E x)) (hl:xs.length<=va5):zxa f k asg test elt ρ=.ok (.lst ((xs.filter p).map q),om,ρ1):=by
 unfold zxa;rw [hf];dsimp only;rw [zhz (p:=p) (q:=q) (e:=λ _=>om) xs ρ1 [] ha ht he (by simpa using hl)];exact qf2
theorem qdv {α:Type} (xs:List α):xs.filter (λ _=>true)=xs:=jg1.mpr λ _ _=>rfl
theorem zkd {α:Type}{asg:PV->Rho->Option Rho}{body:Fs}{enc:α->PV} (P:List α->Rho->Prop):∀ (xs pre:List α) (ρ:Rho),P pre ρ->(∀ p x s ρ,pre++xs=p++x::s->P p ρ->∃ ρ1 ρ2,asg (enc x) ρ=some ρ1/\body ρ1=.nx ρ2/\P (p++[x]) ρ2) ->
  ∃ ρ',zwk asg body (xs.map enc) ρ=.nx ρ'/\P (pre++xs) ρ'
 | [],pre,ρ,h,_=>⟨ρ,rfl,by simpa using h⟩
 | x::xs,pre,ρ,h,hb=>by
  obtain ⟨ρ1,ρ2,e1,e2,h2⟩:=hb pre x xs ρ rfl h;obtain ⟨ρ',e',h'⟩:=zkd P xs (pre++[x]) ρ2 h2 λ p y s ρ e=>hb p y s ρ (by rw [<- e];simp);refine ⟨ρ',?_,by simpa using h'⟩;rw [jc2];unfold zwk;rw [e1];dsimp only;rw [e2];exact e'
theorem qbf {f:Fx}{vs:List Nat}{asg:PV->Rho->Option Rho}{body:Fs}{ρ ρ1 ρ2:Rho}{r:Rs}{els:List PV}{d:Nat} (hf:f ρ=.ok (.lst els,d,ρ1)) (ec:zqo d vs ρ1=ρ2) (h:zwk asg body els ρ2=r):zji f vs asg body ρ=r:=by
 unfold zji;rw [hf];dsimp only;rw [ec,h]
theorem qm5 {en:List (PV×Nat)->Option (Int×Int)}{fa:Fa}{asg:PV->Rho->Option Rho}{body:Fs}{ρ ρ1:Rho}{r:Rs}{as:List (PV×Nat)}{n:Nat} (hf:fa ρ=.ok (as,ρ1)) (hen:en as=some (0,(n:Int))) (h:zwk asg body ((ja7 n).map λ (k:Nat)=>.int (k:Int)) ρ1=r):zvk en fa asg body ρ=r:=by
 unfold zvk;rw [hf];dsimp only;rw [hen];dsimp only;rw [zyf,show ((n:Int) - 0).toNat=n by omega,<- h];congr 2;funext k;rw [jf1]
theorem qjw {x y z:PV} (h1:f_must_be_pile [x,y]=.ok (.non,om,.non)) (h2:f_must_be_pile [x,z]=.ok (.non,om,.non)):f_must_be_two_piles [x,y,z]=.ok (.non,om,.non):=
 qjb rfl ((zqi (zvb (zqh (xs:=[(x,dv x),(y,dv y)]) rfl h1))).trans (zvb (zqh (xs:=[(x,dv x),(z,dv z)]) rfl h2)))
def zwp (a b:Nat):List (Nat×Nat):=(ja7 a).flatMap λ i=>(ja7 b).map λ j=>(i,j)
def pr (z:Nat×Nat):PV:=.tup [.int (z.1:Int),.int (z.2:Int)]
theorem zxs {a b:Nat}{z:Nat×Nat}:z∈zwp a b↔z.1 < a/\z.2 < b:=by
 unfold zwp;simp only [jh7,jd2,jc6];constructor
 ·rintro ⟨i,hi,j,hj,rfl⟩;exact ⟨hi,hj⟩
 ·intro h;exact ⟨z.1,h.1,z.2,h.2,rfl⟩
theorem qcv {α:Type}{q:Nat->List α}{b:Nat} (h:∀ i,(q i).length=b):∀ a,((ja7 a).flatMap q).length=a * b
 | 0=>by simp
 | a + 1=>by rw [jg2,jj2,jb0,qcv h a,jr0];simp [h]
theorem zbl (a b:Nat):(zwp a b).length=a * b:=qcv (λ i=>by rw [ja3,je8]) a
theorem qow {R:Rho}{fn:Fx}{b i:Nat}{n:Nat} (hb:b<=100) (hn:R.length=n) (hf:fn R=.ok (.int (b:Int),om,R)) (he:∀ k,k < b->zqd zxy (zqa (bVar 2) (zqa (bVar n) (aNil))) (R++[some (.int (k:Int),om)])=.ok (pr (i,k),om,R++[some (.int (k:Int),om)])):
  zxd zqu (zqa fn (aNil)) 1 (asgN n) zxk (zqd zxy (zqa (bVar 2) (zqa (bVar n) (aNil)))) R=.ok (.lst (((ja7 b).map λ j=>(i,j)).map pr),om,R):=by
 have z:=sz;have w:=zzk (n:=n) (en:=zqu) (fa:=zqa fn aNil) (elt:=zqd zxy (zqa (bVar 2) (zqa (bVar n) (aNil)))) (ρ:=R) (ρ1:=R) (as:=[(.int (b:Int),om)]) (lo:=0) (hi:=(b:Int)) (q:=λ m=>pr (i,m)) (zqp hf) (zxu (by omega) (by omega)) hn (λ m hm=>by rw [jf1];exact he m (by omega)) (by omega);rw [w,show ((b:Int) - 0).toNat=b by omega,jd7];rfl
theorem zhd (a b:Nat):zwp (a + 1) b=zwp a b++(ja7 b).map λ j=>(a,j):=by
 unfold zwp;rw [jg2,jj2];simp
theorem qe7 {a b c:Nat} (ha:a<=100) (hb:b<=100):∃ d,d≠0/\f_places_of [bx a b c]=.ok (.lst ((zwp a b).map pr),d,.non):=by
 have z:=sz;let R (s1 s2:QQ.Slot):Rho:=[some (bx a b c,0),s1,s2]
 have s1:sSet false 1 (zqd zqs (aNil)) [] (R none none)=.nx (R (some (.lst [],om)) none):=by kernel_rfl
 obtain ⟨ρ',e',d,s2,hd,rfl⟩:=zkh (i:=2) (en:=zqu) (fa:=zqa (bBin zqc (bVar 0) (bC (.int 0))) aNil) (body:=sExt 1 (zxd zqu (zqa (bBin zqc (bVar 0) (bC (.int 1))) (aNil)) 1 (asgN 3) zxk (zqd zxy (zqa (bVar 2) (zqa (bVar 3) (aNil))))) [2]) (ρ:=R (some (.lst [],om)) none) (lo:=0) (hi:=(a:Int)) (as:=[(.int (a:Int),om)])
  (λ k ρ=>∃ d s2,d≠0/\ρ=R (some (.lst ((zwp k b).map pr),d)) s2) rfl (zxu (by omega) (by omega)) ⟨om,none,by decide,rfl⟩ (by
   rintro i _ hi ⟨d,s2,hd,rfl⟩;obtain ⟨d0,rfl⟩:∃ d0,d=d0 + 1:=⟨d - 1,by omega⟩
   rw [jf1];refine ⟨(show 2 < 3 by decide),_,qkh (i:=1) (d0:=d0) (d:=d0 + 1) rfl (qow (R:=R (some (.lst ((zwp i b).map pr),d0 + 1)) (some (.int (i:Int),om))) (i:=i) hb rfl rfl λ k _=>rfl) rfl hd ?_ rfl,1,some (.int (i:Int),om),by decide,?_⟩
   ·rw [ja3,ja3,ja3,je8,zbl]
    have:i * b<=100 * 100:=jq5 (by omega) hb
    omega
   ·show R (some (PV.lst ((zwp i b).map pr++((ja7 b).map λ j=>(i,j)).map pr),1)) _=R (some (PV.lst ((zwp (i + 1) b).map pr),1)) _;rw [zhd,je4])
 rw [show ((a:Int) - 0).toNat=a by omega] at e';exact ⟨d,hd,zwg rfl ((zqi s1).trans ((zqi e').trans rfl))⟩
def leT (a b:Nat) (t u:List (List Int)):Bool:=(zwp a b).all λ z=>decide (g t z.1 z.2<=g u z.1 z.2)
theorem qa8 {a b c:Nat}{t u:List (List Int)} (ht:Tab a b t) (hu:Tab a b u) (ha:a<=100) (hb:b<=100) (h2:f_must_be_two_piles [bx a b c,tb t,tb u]=.ok (.non,om,.non)):f_lies_below [bx a b c,tb t,tb u]=.ok (.bl (leT a b t u),om,.non):=by
 have z:=sz;let R:Rho:=[some (bx a b c,0),some (tb t,0),some (tb u,0)]
 have s1:zzm (zqg f_must_be_two_piles (zqa (bVar 0) (zqa (bVar 1) (zqa (bVar 2) (aNil))))) R=.nx R:=zvb (zqh (xs:=[(bx a b c,0),(tb t,0),(tb u,0)]) rfl h2);obtain ⟨d,_,hp⟩:=qe7 (c:=c) ha hb;have e1:=qg9 (k:=2) (f:=zqg f_places_of (zqa (bVar 0) (aNil))) (asg:=asgT [3,4]) (test:=zxk) (elt:=bBin (zxo λ i j=>decide (i<=j)) (bBin zqc (bBin zqc (bVar 1) (bVar 3)) (bVar 4)) (bBin zqc (bBin zqc (bVar 2) (bVar 3)) (bVar 4))) (enc:=pr) (q:=λ z=>.bl (decide (g t z.1 z.2<=g u z.1 z.2))) (E:=λ z=>[some (.int (z.1:Int),om),some (.int (z.2:Int),om)]) (p:=λ _=>true) (ρ:=R) (zwp a b) (zqh (xs:=[(bx a b c,0)]) rfl hp) (λ _ _=>rfl) (λ _ _=>rfl)
  (λ z hz _=>zzr (zpe (i:=z.1) (j:=z.2) ht (d:=0) rfl rfl rfl (zxs.mp hz).1 (zxs.mp hz).2) (zpe (i:=z.1) (j:=z.2) hu (d:=0) rfl rfl rfl (zxs.mp hz).1 (zxs.mp hz).2)) (by rw [zbl];have:a * b<=100 * 100:=jq5 ha hb;omega)
 rw [qdv] at e1;exact zwg rfl ((zqi s1).trans (zxz (all_ok e1)))
def Xf_rows_of_heights:Fs:=(sSeq (sSet false 2 (zqd zqs (zqa (zqd zxy (aNil)) (aNil))) [])
 (sSeq (zvk zqu (zqa (bVar 0) (aNil)) (asgN 3) (sSeq (sSet false 4 (zqd zqs (aNil)) [])
 (sSeq (zji (bVar 2) [2] (asgN 5) (sSeq (sSet false 6 (bIfE (bT (bBin (zxo λ i j=>decide (j < i)) (bVar 3) (bC (.int 0)))) (bBin zqc (bVar 5) (bUn zjj (bC (.int 1)))) (bVar 1)) [5,1])
 (sExt 4 (zxd zqu (zqa (bBin zqj (bVar 6) (bC (.int 1))) (aNil)) 1 (asgN 7) zxk (bBin zqj (bVar 5) (zqd zxy (zqa (bVar 7) (aNil))))) [5])))
 (sSet false 2 (bVar 4) [4]))))
 (zjh 2)))
def f_rows_of_heights:Fn:=mkFn false 2 5 Xf_rows_of_heights
def Xf_added:Fs:=(sSeq (sSet false 2 (bBin zqj (zqd zkm (zqa (bVar 0) (aNil))) (bBin zxw (zqd zqs (zqa (bC (.int 0)) (aNil))) (bBin zzd (zqd zws (zqa (bVar 1) (aNil))) (zqd zws (zqa (bVar 0) (aNil)))))) [0,1,0])
 (sSeq (qaq .enm (zqa (bVar 1) (aNil)) [1] (asgT [3,4]) (qar (λ i j=>i + j) 2 (bVar 3) (bVar 4)))
 (zjh 2)))
def f_added:Fn:=mkFn false 2 3 Xf_added
def Xf_sums_of_lower_rows:Fs:=(sSeq (sSet false 2 (zqd zhj (zqa (bVar 0) (aNil))) [0])
 (sSeq (zvk zqu (zqa (bVar 1) (aNil)) (asgN 3) (zgx (bVar 0) [0] (asgN 4) (sSeq (sSet false 5 (bBin zqj (bBin zqj (bSl (bVar 4) none (some (bVar 3))) (zqd zxy (zqa (bBin zzd (bBin zqc (bVar 4) (bVar 3)) (bC (.int 1))) (aNil)))) (bSl (bVar 4) (some (bBin zqj (bVar 3) (bC (.int 1)))) none)) [4,4,3,4])
 (sIf (bT (bBin (opIn false) (bVar 5) (bVar 2))) (zzp 2 (bVar 4) (zqg f_added (zqa (bBin zqc (bVar 2) (bVar 4)) (zqa (bBin zqc (bVar 2) (bVar 5)) (aNil))))) sNil))))
 (zjh 2)))
def f_sums_of_lower_rows:Fn:=mkFn false 2 4 Xf_sums_of_lower_rows
def Xf_lies_between:Fs:=(sRet (zqd zvh (zqa (zxd zqu (zqa (zqd zws (zqa (bVar 0) (aNil))) (aNil)) 1 (asgN 3) zxk (zzl (λ i j=>decide (i<=j)) (λ i j=>decide (i<=j)) (bBin zqc (bVar 1) (bVar 3)) (bBin zqc (bVar 0) (bVar 3)) (bBin zqc (bVar 2) (bVar 3)))) (aNil))))
def f_lies_between:Fn:=mkFn false 3 0 Xf_lies_between
def Xf_table_of_row:Fs:=(sSeq (sSet false 4 bDct [])
 (sSeq (zgx (bVar 0) [0] (asgN 5) (sIf (bT (zqg f_lies_between (zqa (bVar 5) (zqa (bVar 1) (zqa (bVar 2) (aNil)))))) (zzp 4 (bVar 5) (bBin zqj (bBin zxw (zqd zqs (zqa (bC (.int 0)) (aNil))) (zqd zvg (zqa (zxa (bVar 3) 1 (asgN 6) zxk (bBin zqc (bVar 5) (bVar 6))) (aNil)))) (bBin zqc (bVar 0) (bVar 5)))) (zzp 4 (bVar 5) (zqd zqs (aNil)))))
 (zjh 4)))
def f_table_of_row:Fn:=mkFn false 4 2 Xf_table_of_row
def Xf_tables_between:Fs:=(sSeq (sUnp (asgT [4,5,6]) (bVar 0) [0])
 (sSeq (sSet false 7 bDct [])
 (sSeq (zji (zqg f_rows_of_heights (zqa (bVar 5) (zqa (bVar 6) (aNil)))) [5,6] (asgN 8) (zzp 7 (bVar 8) (bIfE (bT (bBin (opEq false) (zqd zvg (zqa (bVar 8) (aNil))) (bC (.int 0)))) (zqd zqs (zqa (bC (.int 1)) (aNil))) (zqd zqs (aNil)))))
 (sSeq (sSet false 9 (zqd zqs (aNil)) [])
 (sSeq (zbj (zqa (bBin zzd (bVar 4) (bC (.int 1))) (zqa (bUn zjj (bC (.int 1))) (zqa (bUn zjj (bC (.int 1))) (aNil)))) (asgN 10) (sSeq (sSet false 11 (zxa (bVar 3) 1 (asgN 12) (bT (bBin (opEq false) (bBin zqc (bVar 12) (bC (.int 0))) (bVar 10))) (bBin zqc (bVar 12) (bC (.int 1)))) [3,3])
 (sSeq (sSet false 7 (zqg f_table_of_row (zqa (zqg f_sums_of_lower_rows (zqa (bVar 7) (zqa (bVar 5) (aNil)))) (zqa (bBin zqc (bVar 1) (bVar 10)) (zqa (bBin zqc (bVar 2) (bVar 10)) (zqa (bVar 11) (aNil)))))) [7,5,1,10,2,10,11])
 (sApp 9 (bVar 7) [7]))))
 (sRet (bUn qmf (bVar 9))))))))
def f_tables_between:Fn:=mkFn false 4 8 Xf_tables_between
def Xf_tally_between:Fs:=(sSeq (sSet false 4 (zqd zqs (aNil)) [])
 (sSeq (qdg (bBin zqc (zqg f_tables_between (zqa (bVar 0) (zqa (bVar 1) (zqa (bVar 2) (zqa (bVar 3) (aNil)))))) (bC (.int 0))) [0,1,2,3] (asgN 5) (sSet false 4 (zqg f_added (zqa (bVar 4) (zqa (bVar 5) (aNil)))) [4,5]))
 (zjh 4)))
def f_tally_between:Fn:=mkFn false 4 2 Xf_tally_between
def zva (a b:Int):List Int:=(ja7 (b - a).toNat).map λ k=>a + (k:Nat)
theorem zkf {a b:Int} (h:b<=a):zva a b=[]:=by
 unfold zva;rw [show (b - a).toNat=0 by omega];rfl
theorem zpc {a b:Int} (h:a < b):zva a b=a::zva (a + 1) b:=by
 unfold zva;rw [show (b - a).toNat=(b - (a + 1)).toNat + 1 by omega,List.range_succ_eq_map];simp only [jc2,jd7,Int.natCast_zero,jr5];congr 1;apply jh5;intro k _;show a + ((k + 1:Nat):Int)=a + 1 + (k:Int);omega
theorem qck {a b x:Int}:x∈zva a b↔a<=x/\x < b:=by
 unfold zva;simp only [jd2,jc6];constructor
 ·rintro ⟨k,hk,rfl⟩;omega
 ·rintro ⟨h1,h2⟩;exact ⟨(x - a).toNat,by omega,by omega⟩
def inR (lo hi x:Int):Bool:=decide (lo<=x) && decide (x<=hi)
theorem qdt (lo hi:Int):∀ (n:Nat) (a b:Int),(b - a).toNat=n->lo<=a->(zva a b).filter (inR lo hi)=zva a (min (b - 1) hi + 1):=by
 intro n;induction n with
 | zero=>
  intro a b h ha;rw [zkf (a:=a) (by omega),zkf (by omega)];rfl
 | succ n ih=>
  intro a b h ha;rw [zpc (by omega),je3];by_cases h2:a<=hi
  ·rw [if_pos (by unfold inR;simp [h2,ha]),zpc (a:=a) (b:=min (b - 1) hi + 1) (by omega),ih (a + 1) b (by omega) (by omega)]
  ·rw [if_neg (by unfold inR;simp;omega),zkf (a:=a) (b:=min (b - 1) hi + 1) (by omega),ih (a + 1) b (by omega) (by omega),zkf (by omega)]
theorem qbc (lo hi:Int):∀ (n:Nat) (a b:Int),(b - a).toNat=n->a<=lo->(zva a b).filter (inR lo hi)=zva lo (min (b - 1) hi + 1):=by
 intro n;induction n with
 | zero=>
  intro a b h ha;rw [zkf (a:=a) (by omega),zkf (by omega)];rfl
 | succ n ih=>
  intro a b h ha;by_cases e:a=lo
  ·subst e;exact qdt a hi _ a b rfl (jf7 _)
  ·rw [zpc (by omega),je3,if_neg (by unfold inR;simp;omega)];exact ih (a + 1) b (by omega) (by omega)
def topR (hi ah:Int) (row:List Int):Int:=match row.getLast? with
 | none=>min hi ah
 | some m=>min (min hi ah) m
def zxx (lo hi ah:Nat->Int):Nat->List (List Int)
 | 0=>[[]]
 | n + 1=>(zxx lo hi ah n).flatMap λ row=>(zva (lo n) (topR (hi n) (ah n) row + 1)).map λ x=>row++[x]
def zkj (lo hi:Nat->Int) (n:Nat) (r:List Int):Bool:=(ja7 n).all λ i=>inR (lo i) (hi i) (r.getD i 0)
theorem zyd (lo hi ah:Nat->Int):∀ (n:Nat) (r:List Int),r∈zxx lo hi ah n->r.length=n
 | 0,r,h=>by simp [zxx] at h;simp [h]
 | n + 1,r,h=>by
  rw [zxx,jh7] at h;obtain ⟨q,h1,h2⟩:=h;obtain ⟨x,_,rfl⟩:=jd2.mp h2;simp [zyd lo hi ah n q h1]
theorem qdm (lo hi:Nat->Int) (r:List Int) (x:Int):zkj lo hi (r.length + 1) (r++[x])=(zkj lo hi r.length r && inR (lo r.length) (hi r.length) x):=by
 unfold zkj;rw [jg2,jn3];have e1:((ja7 r.length).all λ i=>inR (lo i) (hi i) ((r++[x]).getD i 0))=(ja7 r.length).all λ i=>inR (lo i) (hi i) (r.getD i 0):=by
  rw [jd9,jb5,jb5];constructor
  ·intro h i hi'
   have:=h i hi'
   have hl:=jc6.mp hi';rwa [ja0,jb3 hl,<- ja0] at this
  ·intro h i hi';have hl:=jc6.mp hi';rw [ja0,jb3 hl,<- ja0];exact h i hi'
 rw [e1];simp [ja0]
theorem zvu {α β:Type} (p:α->Bool) (f g:α->List β):∀ (l:List α),(∀ a∈l,f a=if p a=true then g a else [])->l.flatMap f=(l.filter p).flatMap g
 | [],_=>rfl
 | a::l,h=>by
  rw [jh4,zvu p f g l λ b hb=>h b (ja1 _ hb),h a ja2,je3];split
  ·rw [jh4]
  ·rfl
theorem qhs {hi hi' ah:Int} (h:hi<=hi') (row:List Int):min (topR hi' ah row) hi=topR hi ah row:=by
 unfold topR;cases row.getLast? with
 | none=>simp only;omega
 | some m=>simp only;omega
theorem zvl {lo hi lo' hi' ah:Nat->Int} (hl:∀ i,lo' i<=lo i) (hh:∀ i,hi i<=hi' i):∀ (n:Nat),(zxx lo' hi' ah n).filter (zkj lo hi n)=zxx lo hi ah n
 | 0=>rfl
 | n + 1=>by
  rw [zxx,zxx,<- zvl hl hh n,jo0];refine zvu _ _ _ _ λ a ha=>?_;have la:=zyd _ _ _ n a ha;subst la;rw [jk9];have e:(zkj lo hi (a.length + 1) ∘ λ x=>a++[x])=λ x=>zkj lo hi a.length a && inR (lo a.length) (hi a.length) x:=by
   funext x;exact qdm lo hi a x
  rw [e];cases zkj lo hi a.length a with
  | false=>simp
  | true=>
   simp only [jo8,if_true]
   have:=qbc (lo a.length) (hi a.length) _ (lo' a.length) (topR (hi' a.length) (ah a.length) a + 1) rfl (hl _)
   rw [show (λ x=>inR (lo a.length) (hi a.length) x)=inR (lo a.length) (hi a.length) from rfl,this,Int.add_sub_cancel,qhs (hh _)]
def zpt (c:Int) (pile:List (List Int)):Nat->Int:=match pile.getLast? with
 | none=>λ _=>c
 | some r=>λ j=>r.getD j 0
def zxg (lo hi:Nat->Nat->Int) (c:Int) (b:Nat):Nat->List (List (List Int))
 | 0=>[[]]
 | n + 1=>(zxg lo hi c b n).flatMap λ pile=>(zxx (lo n) (hi n) (zpt c pile) b).map λ r=>pile++[r]
def zkn (lo hi:Nat->Nat->Int) (b n:Nat) (p:List (List Int)):Bool:=(ja7 n).all λ i=>zkj (lo i) (hi i) b (p.getD i [])
theorem zmh (lo hi:Nat->Nat->Int) (c:Int) (b:Nat):∀ (n:Nat) (p:List (List Int)),p∈zxg lo hi c b n->p.length=n
 | 0,r,h=>by simp [zxg] at h;simp [h]
 | n + 1,r,h=>by
  rw [zxg,jh7] at h;obtain ⟨q,h1,h2⟩:=h;obtain ⟨x,_,rfl⟩:=jd2.mp h2;simp [zmh lo hi c b n q h1]
theorem qay (lo hi:Nat->Nat->Int) (b:Nat) (p:List (List Int)) (r:List Int):zkn lo hi b (p.length + 1) (p++[r])=(zkn lo hi b p.length p && zkj (lo p.length) (hi p.length) b r):=by
 unfold zkn;rw [jg2,jn3];have e1:((ja7 p.length).all λ i=>zkj (lo i) (hi i) b ((p++[r]).getD i []))=(ja7 p.length).all λ i=>zkj (lo i) (hi i) b (p.getD i []):=by
  rw [jd9,jb5,jb5];constructor
  ·intro h i hi'
   have:=h i hi'
   have hl:=jc6.mp hi';rwa [ja0,jb3 hl,<- ja0] at this
  ·intro h i hi';have hl:=jc6.mp hi';rw [ja0,jb3 hl,<- ja0];exact h i hi'
 rw [e1];simp [ja0]
theorem zyg {lo hi lo' hi':Nat->Nat->Int}{c:Int}{b:Nat} (hl:∀ i j,lo' i j<=lo i j) (hh:∀ i j,hi i j<=hi' i j):∀ (n:Nat),(zxg lo' hi' c b n).filter (zkn lo hi b n)=zxg lo hi c b n
 | 0=>rfl
 | n + 1=>by
  rw [zxg,zxg,<- zyg hl hh n,jo0];refine zvu _ _ _ _ λ a ha=>?_;have la:=zmh _ _ _ _ n a ha;subst la;rw [jk9];have e:(zkn lo hi b (a.length + 1) ∘ λ x=>a++[x])=λ x=>zkn lo hi b a.length a && zkj (lo a.length) (hi a.length) b x:=by
   funext x;exact qay lo hi b a x
  rw [e];cases zkn lo hi b a.length a with
  | false=>simp
  | true=>
   simp only [jo8,if_true];rw [show (λ x=>zkj (lo a.length) (hi a.length) b x)=zkj (lo a.length) (hi a.length) b from rfl,zvl (hl _) (hh _)]
def upE (f:Nat->Int) (n:Nat):List Int:=(ja7 n).map f
theorem zbz {r:List Int}{n:Nat} (h:r.length=n + 1):r.getLast?=some (r.getD n 0):=by
 rw [jl9,h,jl7,ja0,jb8 (by omega)];rfl
theorem qeo {r:List Int}{x:Int}{n j:Nat} (h:r.length=n):(r++[x]).getD j 0=if j=n then x else r.getD j 0:=by
 rw [ja0,ja0,jn7];by_cases hj:j < n
 ·rw [if_pos (by omega),if_neg (by omega)]
 ·rw [if_neg (by omega)];by_cases e:j=n
  ·rw [if_pos e,e,h,jp6];rfl
  ·rw [if_neg e,je1 (by simp;omega),je1 (by omega)]
theorem zbk {lo hi ah:Nat->Int}:∀ {n:Nat}{r:List Int},r∈zxx lo hi ah n->r.length=n/\(∀ j,j < n->lo j<=r.getD j 0/\r.getD j 0<=hi j/\r.getD j 0<=ah j)/\∀ j,j + 1 < n->r.getD (j + 1) 0<=r.getD j 0
 | 0,r,h=>by
  have e:r=[]:=by simpa [zxx] using h
  subst e;exact ⟨rfl,λ j h=>by omega,λ j h=>by omega⟩
 | n + 1,r,h=>by
  rw [zxx,jh7] at h;obtain ⟨q,h1,h2⟩:=h;obtain ⟨x,hx,rfl⟩:=jd2.mp h2;obtain ⟨l,b,m⟩:=zbk h1;obtain ⟨x1,x2⟩:=qck.mp hx;have t1:topR (hi n) (ah n) q<=hi n/\topR (hi n) (ah n) q<=ah n/\(0 < n->topR (hi n) (ah n) q<=q.getD (n - 1) 0):=by
   unfold topR;cases n with
   | zero=>
    have e:q=[]:=jf6.mp l;subst e;exact ⟨by show min _ _<=_;omega,by show min _ _<=_;omega,λ h=>by omega⟩
   | succ n=>
    rw [zbz l];exact ⟨by show min (min _ _) _<=_;omega,by show min (min _ _) _<=_;omega,λ _=>by show min (min _ _) _<=_;rw [jl7];omega⟩
  refine ⟨by rw [jb0,l];rfl,λ j hj=>?_,λ j hj=>?_⟩
  ·rw [qeo l];by_cases e:j=n
   ·subst e;rw [if_pos rfl];omega
   ·rw [if_neg e];exact b j (by omega)
  ·rw [qeo l,qeo l,if_neg (show ¬ j=n by omega)];by_cases e:j + 1=n
   ·rw [if_pos e]
    have:=t1.2.2 (by omega)
    rw [show n - 1=j by omega] at this;omega
   ·rw [if_neg e];exact m j (by omega)
theorem qp4 {p:List (List Int)}{n:Nat} (h:p.length=n + 1):p.getLast?=some (p.getD n []):=by
 rw [jl9,h,jl7,ja0,jb8 (by omega)];rfl
theorem qqz {p:List (List Int)}{r:List Int}{n i:Nat} (h:p.length=n):(p++[r]).getD i []=if i=n then r else p.getD i []:=by
 rw [ja0,ja0,jn7];by_cases hj:i < n
 ·rw [if_pos (by omega),if_neg (by omega)]
 ·rw [if_neg (by omega)];by_cases e:i=n
  ·rw [if_pos e,e,h,jp6];rfl
  ·rw [if_neg e,je1 (by simp;omega),je1 (by omega)]
theorem qen {p:List (List Int)}{r:List Int}{n i j:Nat} (h:p.length=n):g (p++[r]) i j=if i=n then r.getD j 0 else g p i j:=by
 unfold g;rw [qqz h];split <;> rfl
theorem zka {lo hi:Nat->Nat->Int}{c:Int}{b:Nat}:∀ {n:Nat}{p:List (List Int)},p∈zxg lo hi c b n->Tab n b p/\(∀ i j,i < n->j < b->lo i j<=g p i j/\g p i j<=hi i j/\g p i j<=c)/\(∀ i j,i + 1 < n->j < b->g p (i + 1) j<=g p i j)/\∀ i j,i < n->j + 1 < b->g p i (j + 1)<=g p i j
 | 0,p,h=>by
  have e:p=[]:=by simpa [zxg] using h
  subst e;exact ⟨⟨rfl,λ _ z=>nomatch z⟩,λ i j h=>by omega,λ i j h=>by omega,λ i j h=>by omega⟩
 | n + 1,p,h=>by
  rw [zxg,jh7] at h;obtain ⟨q,h1,h2⟩:=h;obtain ⟨r,hr,rfl⟩:=jd2.mp h2;obtain ⟨tq,b1,d1,r1⟩:=zka h1;obtain ⟨l,b2,m2⟩:=zbk hr;have ah:∀ j,j < b->zpt c q j<=c/\(0 < n->zpt c q j<=g q (n - 1) j):=λ j hj=>by
   unfold zpt;cases n with
   | zero=>
    have e:q=[]:=jf6.mp tq.1;subst e;exact ⟨jf7 _,λ h=>by omega⟩
   | succ n=>
    rw [qp4 tq.1];exact ⟨(b1 n j (by omega) hj).2.2,λ _=>jf7 _⟩
  refine ⟨⟨by rw [jb0,tq.1];rfl,λ s hs=>(jd0.mp hs).elim (λ z=>tq.2 s z) λ z=>by rw [jb4.mp z,l]⟩,λ i j hi' hj=>?_,λ i j hi' hj=>?_,λ i j hi' hj=>?_⟩
  ·rw [qen tq.1];by_cases e:i=n
   ·subst e;rw [if_pos rfl];have h3:=b2 j hj;have h4:=ah j hj;omega
   ·rw [if_neg e];exact b1 i j (by omega) hj
  ·rw [qen tq.1,qen tq.1,if_neg (show ¬ i=n by omega)];by_cases e:i + 1=n
   ·rw [if_pos e];have h3:=b2 j hj;have h4:=(ah j hj).2 (by omega);rw [show n - 1=i by omega] at h4;omega
   ·rw [if_neg e];exact d1 i j (by omega) hj
  ·rw [qen tq.1,qen tq.1];by_cases e:i=n
   ·rw [if_pos e,if_pos e];exact m2 j hj
   ·rw [if_neg e,if_neg e];exact r1 i j (by omega) hj
theorem zbm {hi:Nat->Nat->Int}{c:Int}{a b:Nat}{lo:Nat->Nat->Int}{p:List (List Int)} (h0:∀ i j,0<=lo i j) (h:p∈zxg lo hi c b a):Pile a b c p:=by
 obtain ⟨t,h1,h2,h3⟩:=zka h;exact ⟨t,λ i j hi hj=>jf2 (h0 i j) (h1 i j hi hj).1,λ i j hi hj=>(h1 i j hi hj).2.2,h2,h3⟩
theorem zkt {lo hi ah lo' hi' ah':Nat->Int}:∀ (n:Nat),(∀ j,j < n->lo j=lo' j/\hi j=hi' j/\ah j=ah' j)->zxx lo hi ah n=zxx lo' hi' ah' n
 | 0,_=>rfl
 | n + 1,h=>by
  rw [zxx,zxx,zkt n λ j hj=>h j (by omega)];obtain ⟨e1,e2,e3⟩:=h n (by omega);rw [e1,e2,e3]
theorem zvo {lo hi lo' hi':Nat->Nat->Int}{c:Int}{b:Nat}:∀ (n:Nat),(∀ i j,i < n->j < b->lo i j=lo' i j/\hi i j=hi' i j)->zxg lo hi c b n=zxg lo' hi' c b n
 | 0,_=>rfl
 | n + 1,h=>by
  rw [zxg,zxg,zvo n λ i j hi hj=>h i j (by omega) hj];congr 1;funext p;rw [zkt b λ j hj=>⟨(h n j (by omega) hj).1,(h n j (by omega) hj).2,rfl⟩]
theorem zmr {α β:Type}{f:α->List β}{m:Nat}:∀ (l:List α),(∀ a∈l,(f a).length<=m)->(l.flatMap f).length<=l.length * m
 | [],_=>by simp
 | a::l,h=>by
  rw [jh4,jb0,jb1,jr7,jr8];have h1:=h a ja2;have h2:=zmr l λ x hx=>h x (ja1 _ hx);omega
theorem qiz (a b:Int):(zva a b).length=(b - a).toNat:=by unfold zva;rw [ja3,je8]
theorem qkw (hi ah:Int) (row:List Int):topR hi ah row<=hi:=by
 unfold topR;split <;> omega
theorem qb6 {lo hi ah:Nat->Int}{m:Nat}:∀ (n:Nat),(∀ j,j < n->hi j - lo j + 1<=m)->(zxx lo hi ah n).length<=m ^ n
 | 0,_=>by simp [zxx]
 | n + 1,h=>by
  rw [zxx];refine jc9 (zmr (m:=m) _ λ r hr=>?_) ?_
  ·rw [ja3,qiz]
   have:=qkw (hi n) (ah n) r
   have:=h n (by omega)
   omega
  ·rw [jn4];exact jh0 m (qb6 n λ j hj=>h j (by omega))
theorem qin (a b:Nat) (f:Nat->Nat->Int):mkT (a + 1) b f=mkT a b f++[upE (f a) b]:=by
 unfold mkT upE;rw [jg2,je4];rfl
def ltR:List Int->List Int->Bool
 | [],[]=>false
 | [],_::_=>true
 | _::_,[]=>false
 | x::xs,y::ys=>decide (x < y) || (decide (x=y) && ltR xs ys)
theorem qa5:∀ r:List Int,ltR r r=false
 | []=>rfl
 | x::r=>by simp [ltR,qa5 r]
theorem qcn:∀ {r q:List Int},ltR r q=true->ltR q r=false
 | [],[],h=>by cases h
 | [],_::_,_=>rfl
 | _::_,[],h=>by cases h
 | x::r,y::q,h=>by
  simp only [ltR,jf3,ja9,decide_eq_true_iff] at h;rcases h with h | ⟨h,h2⟩
  ·simp only [ltR,Bool.or_eq_false_iff,Bool.and_eq_false_iff,decide_eq_false_iff_not];exact ⟨by omega,.inl (by omega)⟩
  ·subst h;simp [ltR,qcn h2]
theorem qcl:∀ {r q:List Int} (x y:Int),r.length=q.length->ltR r q=true->ltR (r++[x]) (q++[y])=true
 | [],[],_,_,_,h=>by cases h
 | [],_::_,_,_,e,_=>by cases e
 | _::_,[],_,_,e,_=>by cases e
 | a::r,b::q,x,y,e,h=>by
  simp only [ltR,jf3,ja9,decide_eq_true_iff,jf9] at h ⊢;rcases h with h | ⟨h,h2⟩
  ·exact .inl h
  ·exact .inr ⟨h,qcl x y (by simpa using e) h2⟩
theorem qcm:∀ (r:List Int) {x y:Int},x < y->ltR (r++[x]) (r++[y])=true
 | [],x,y,h=>by simp [ltR,h]
 | a::r,x,y,h=>by simp [ltR,qcm r h]
theorem qmw (a:Int):∀ (n:Nat) (b:Int),(b - a).toNat=n->(zva a b).Pairwise (·< ·):=by
 intro n b _;unfold zva;rw [jp3];refine List.Pairwise.imp (λ {i j} h=>?_) List.pairwise_lt_range;show a + (i:Int) < a + (j:Int);omega
theorem qb5 {lo hi ah:Nat->Int}:∀ (n:Nat),(zxx lo hi ah n).Pairwise λ r q=>ltR r q=true
 | 0=>by simp [zxx]
 | n + 1=>by
  rw [zxx,List.pairwise_flatMap];refine ⟨λ r hr=>?_,?_⟩
  ·rw [jp3];exact List.Pairwise.imp (λ {x y} h=>qcm r h) (qmw _ _ _ rfl)
  ·refine List.Pairwise.imp_of_mem (λ {r q} hr hq h u hu v hv=>?_) (qb5 n);obtain ⟨x,_,rfl⟩:=jd2.mp hu;obtain ⟨y,_,rfl⟩:=jd2.mp hv;exact qcl x y (by rw [zyd _ _ _ n r hr,zyd _ _ _ n q hq]) h
theorem zha {lo hi ah:Nat->Int}:∀ {n:Nat}{r:List Int},r.length=n->(∀ j,j < n->lo j<=r.getD j 0/\r.getD j 0<=hi j/\r.getD j 0<=ah j)->(∀ j,j + 1 < n->r.getD (j + 1) 0<=r.getD j 0)->r∈zxx lo hi ah n
 | 0,r,h,_,_=>by rw [jf6.mp h];simp [zxx]
 | n + 1,r,h,h1,h2=>by
  have hn:r≠[]:=λ e=>by rw [e] at h;cases h
  obtain ⟨q,x,rfl⟩:∃ q x,r=q++[x]:=⟨r.dropLast,r.getLast hn,(List.dropLast_concat_getLast hn).symm⟩
  have hq:q.length=n:=by simpa using h
  have g1:∀ j,j < n->(q++[x]).getD j 0=q.getD j 0:=λ j hj=>by rw [qeo hq,if_neg (by omega)]
  have g2:(q++[x]).getD n 0=x:=by rw [qeo hq,if_pos rfl]
  have mq:q∈zxx lo hi ah n:=zha hq (λ j hj=>by have:=h1 j (by omega);rwa [g1 j hj] at this) (λ j hj=>by have:=h2 j (by omega);rwa [g1 j (by omega),g1 (j + 1) (by omega)] at this);rw [zxx,jh7];refine ⟨q,mq,jd2.mpr ⟨x,qck.mpr ⟨?_,?_⟩,rfl⟩⟩
  ·have:=(h1 n (by omega)).1;rwa [g2] at this
  ·have a1:=(h1 n (by omega)).2;rw [g2] at a1;unfold topR;cases n with
   | zero=>rw [jf6.mp hq];simp only [jp4];omega
   | succ m=>
    have a2:=h2 m (by omega);rw [g2,g1 m (by omega)] at a2;rw [zbz hq];simp only;omega
def zql (b:Nat) (c:Int):List (List Int):=zxx (λ _=>0) (λ _=>c) (λ _=>c) b
structure RowB (b:Nat) (c:Int) (r:List Int):Prop where
 len:r.length=b
 lo:∀ j,j < b->0<=r.getD j 0
 hi:∀ j,j < b->r.getD j 0<=c
 nr:∀ j,j + 1 < b->r.getD (j + 1) 0<=r.getD j 0
theorem zxf {b:Nat}{c:Int}{r:List Int}:r∈zql b c↔RowB b c r:=by
 constructor
 ·intro h;obtain ⟨h1,h2,h3⟩:=zbk h;exact ⟨h1,λ j hj=>(h2 j hj).1,λ j hj=>(h2 j hj).2.1,h3⟩
 ·intro h;exact zha h.len (λ j hj=>⟨h.lo j hj,h.hi j hj,h.hi j hj⟩) h.nr
theorem qb7 (b:Nat) (c:Int):(zql b c).Pairwise λ r q=>ltR r q=true:=qb5 b
theorem zye (b:Nat) (c:Int):(zql b c).Nodup:=List.Pairwise.imp (λ {r q} h e=>by rw [e,qa5] at h;cases h) (qb7 b c)
def addL:List Int->List Int->List Int
 | [],ys=>ys
 | x::xs,[]=>x::xs
 | x::xs,y::ys=>(x + y)::addL xs ys
theorem zyr:∀ xs:List Int,addL xs []=xs
 | []=>rfl
 | _::_=>rfl
theorem qam:∀ xs ys:List Int,addL xs ys=addL ys xs
 | [],ys=>by rw [zyr];rfl
 | x::xs,[]=>rfl
 | x::xs,y::ys=>by rw [addL,addL,qam xs ys,Int.add_comm]
theorem zzu:∀ xs ys zs:List Int,addL (addL xs ys) zs=addL xs (addL ys zs)
 | [],ys,zs=>rfl
 | x::xs,[],zs=>rfl
 | x::xs,y::ys,[]=>rfl
 | x::xs,y::ys,z::zs=>by simp only [addL];rw [zzu xs ys zs,Int.add_assoc]
theorem zgc:∀ xs ys:List Int,(addL xs ys).length=max xs.length ys.length
 | [],ys=>by simp [addL]
 | x::xs,[]=>by simp [addL]
 | x::xs,y::ys=>by simp only [addL,jb1,zgc xs ys];omega
theorem qdb:∀ xs ys:List Int,(addL xs ys).sum=xs.sum + ys.sum
 | [],ys=>by simp [addL]
 | x::xs,[]=>by simp [addL]
 | x::xs,y::ys=>by simp only [addL,jm3,qdb xs ys];omega
def sumT (f:List Int->List Int) (l:List (List Int)):List Int:=l.foldr (λ r s=>addL (f r) s) []
theorem zzo {f:List Int->List Int}{r:List Int}{l:List (List Int)}:sumT f (r::l)=addL (f r) (sumT f l):=rfl
theorem zmd {f:List Int->List Int}{p q s:List Int->Bool}:∀ (l:List (List Int)),(∀ r∈l,s r=(p r || q r))->(∀ r∈l,p r=true->q r=false)->sumT f (l.filter s)=addL (sumT f (l.filter p)) (sumT f (l.filter q))
 | [],_,_=>rfl
 | r::l,h,d=>by
  have ih:=zmd (f:=f) l (λ a ha=>h a (ja1 _ ha)) (λ a ha=>d a (ja1 _ ha));have hs:=h r ja2;have hd:=d r ja2;rw [je3,je3,je3,hs];cases hp:p r with
  | true=>
   rw [hd hp];simp only [jo2,if_true,je9,if_false,zzo,ih,zzu]
  | false=>
   cases hq:q r with
   | true=>
    simp only [Bool.or_true,if_true,je9,if_false,zzo,ih];rw [<- zzu,<- zzu,qam (f r)]
   | false=>simp only [jo2,je9,if_false,ih]
theorem qbz {f:List Int->List Int}{p:List Int->Bool}{r:List Int}:∀ {l:List (List Int)},l.Nodup->r∈l->(∀ q∈l,p q=decide (q=r))->sumT f (l.filter p)=f r
 | [],_,h,_=>by cases h
 | a::l,nd,h,hp=>by
  rw [ji0] at nd;rw [je3,hp a ja2];by_cases e:a=r
  ·subst e
   have:l.filter p=[]:=by
    rw [jj8];intro q hq;rw [hp q (ja1 _ hq),decide_eq_true_iff];rintro rfl;exact nd.1 hq
   rw [decide_eq_true rfl,if_pos rfl,this,zzo];exact zyr _
  ·rw [decide_eq_false e,if_neg (by simp)];rcases jc0.mp h with h | h
   ·exact absurd h.symm e
   ·exact qbz nd.2 h λ q hq=>hp q (ja1 _ hq)
def lowB (b j:Nat) (r q:List Int):Bool:=(ja7 b).all λ i=>if i < j then decide (q.getD i 0<=r.getD i 0) else decide (q.getD i 0=r.getD i 0)
theorem zzi {b j:Nat}{r q:List Int}:lowB b j r q=true↔∀ i,i < b->(i < j->q.getD i 0<=r.getD i 0)/\(j<=i->q.getD i 0=r.getD i 0):=by
 unfold lowB;rw [jb5];constructor
 ·intro h i hi
  have:=h i (jc6.mpr hi)
  by_cases e:i < j
  ·rw [if_pos e,decide_eq_true_iff] at this;exact ⟨λ _=>this,λ e'=>absurd e (by omega)⟩
  ·rw [if_neg e,decide_eq_true_iff] at this;exact ⟨λ e'=>absurd e' e,λ _=>this⟩
 ·intro h i hi
  have:=h i (jc6.mp hi)
  by_cases e:i < j
  ·rw [if_pos e,decide_eq_true_iff];exact this.1 e
  ·rw [if_neg e,decide_eq_true_iff];exact this.2 (by omega)
def sumJ (b:Nat) (c:Int) (f:List Int->List Int) (j:Nat) (r:List Int):List Int:=sumT f ((zql b c).filter (lowB b j r))
def lowR (r:List Int) (j:Nat):List Int:=r.take j++[r.getD j 0 - 1]++r.drop (j + 1)
theorem qir {r:List Int}{j:Nat} (h:j < r.length):(lowR r j).length=r.length:=by
 unfold lowR;simp;omega
theorem zzw {r:List Int}{j i:Nat} (h:j < r.length):(lowR r j).getD i 0=if i=j then r.getD j 0 - 1 else r.getD i 0:=by
 unfold lowR;simp only [ja0,jj9];by_cases h1:i < j
 ·rw [jb3 (by simp;omega),if_neg (by omega),jf5 h1]
 ·rw [jc8 (by simp;omega)];have hl:(r.take j).length=j:=by simp;omega
  rw [hl];by_cases h2:i=j
  ·subst h2;simp
  ·rw [if_neg h2,show i - j=(i - j - 1) + 1 by omega,List.singleton_append,je6,List.getElem?_drop];congr 2;omega
theorem qa6:∀ {r:List Int}{j:Nat},j < r.length->ltR (lowR r j) r=true
 | [],_,h=>by cases h
 | x::r,0,_=>by simp [lowR,ltR];omega
 | x::r,j + 1,h=>by
  have ih:=qa6 (r:=r) (j:=j) (by simpa using h);unfold lowR at ih ⊢;simp [ltR] at ih ⊢;exact ih
theorem qmm {r q:List Int}{b:Nat} (h1:r.length=b) (h2:q.length=b) (h:∀ i,i < b->q.getD i 0=r.getD i 0):q=r:=by
 apply jm7 (by omega);intro i hi hi'
 have:=h i (by omega)
 rw [ja0,ja0,jb8 hi,jb8 hi'] at this;simpa using this
theorem qek {b:Nat}{c:Int}{f:List Int->List Int}{r:List Int} (h:r∈zql b c):sumJ b c f 0 r=f r:=by
 unfold sumJ;refine qbz (zye b c) h λ q hq=>?_;rw [jd9,zzi,decide_eq_true_iff];have h1:=zxf.mp h;have h2:=zxf.mp hq;constructor
 ·intro e;exact qmm h1.len h2.len λ i hi=>(e i hi).2 (by omega)
 ·rintro rfl i _;exact ⟨λ z=>absurd z (by omega),λ _=>rfl⟩
theorem zgs {b:Nat}{c:Int}{f:List Int->List Int}{r:List Int}{j:Nat} (h:r∈zql b c) (hj:j < b):sumJ b c f (j + 1) r=if lowR r j∈zql b c then addL (sumJ b c f j r) (sumJ b c f (j + 1) (lowR r j)) else sumJ b c f j r:=by
 have h1:=zxf.mp h;have hl:j < r.length:=by rw [h1.len];exact hj
 split
 ·rename_i hm;unfold sumJ;refine zmd _ (λ q hq=>?_) (λ q hq=>?_)
  ·have h2:=zxf.mp hq;rw [jd9,jf3,zzi,zzi,zzi];constructor
   ·intro e;by_cases ej:q.getD j 0=r.getD j 0
    ·refine .inl λ i hi=>⟨λ z=>(e i hi).1 (by omega),λ z=>?_⟩
     by_cases ei:i=j
     ·subst ei;exact ej
     ·exact (e i hi).2 (by omega)
    ·refine .inr λ i hi=>?_;rw [zzw hl];refine ⟨λ z=>?_,λ z=>?_⟩
     ·have:=(e i hi).1 z
      split
      ·rename_i e';subst e';omega
      ·exact this
     ·rw [if_neg (by omega)];exact (e i hi).2 z
   ·rintro (e | e) i hi
    ·refine ⟨λ z=>?_,λ z=>(e i hi).2 (by omega)⟩;by_cases ei:i < j
     ·exact (e i hi).1 ei
     ·exact jr6 ((e i hi).2 (by omega))
    ·have e':=e i hi;rw [zzw hl] at e';refine ⟨λ z=>?_,λ z=>?_⟩
     ·have:=e'.1 z
      split at this
      ·rename_i e2;subst e2;omega
      ·exact this
     ·have:=e'.2 z
      rwa [if_neg (by omega)] at this
  ·intro e;rw [jk1];intro e2;rw [zzi] at e e2;have a1:=(e j hj).2 (ja4 _);have a2:=(e2 j hj).1 (by omega);rw [zzw hl,if_pos rfl] at a2;omega
 ·rename_i hm;unfold sumJ;congr 1;apply jh3;intro q hq;have h2:=zxf.mp hq;rw [jd9,zzi,zzi];constructor
  ·intro e i hi;refine ⟨λ z=>(e i hi).1 (by omega),λ z=>?_⟩;by_cases ei:i=j
   ·subst ei;have a1:=(e i hi).1 (by omega);by_cases ej:q.getD i 0=r.getD i 0
    ·exact ej
    ·refine absurd (zxf.mpr ⟨by rw [qir hl,h1.len],λ k hk=>?_,λ k hk=>?_,λ k hk=>?_⟩) hm
     ·rw [zzw hl]
      have:=h2.lo i hi
      have:=h1.lo k hk
      split <;> omega
     ·rw [zzw hl]
      have:=h1.hi k hk
      split
      ·rename_i e';subst e';omega
      ·exact this
     ·rw [zzw hl,zzw hl];have b1:=h1.nr k hk;by_cases c1:k + 1=i
      ·rw [if_pos c1,if_neg (by omega)];subst c1;omega
      ·rw [if_neg c1];by_cases c2:k=i
       ·rw [if_pos c2];subst c2;have b2:=h2.nr k hk;have b3:=(e (k + 1) hk).2 (by omega);omega
       ·rw [if_neg c2];exact b1
   ·exact (e i hi).2 (by omega)
  ·intro e i hi;refine ⟨λ z=>?_,λ z=>(e i hi).2 (by omega)⟩;by_cases ei:i < j
   ·exact (e i hi).1 ei
   ·exact jr6 ((e i hi).2 (by omega))
def leR (b:Nat) (q r:List Int):Bool:=(ja7 b).all λ i=>decide (q.getD i 0<=r.getD i 0)
theorem qmq {b:Nat}{r q:List Int}:leR b q r=true↔∀ i,i < b->q.getD i 0<=r.getD i 0:=by
 unfold leR;rw [jb5];exact ⟨λ h i hi=>by simpa using h i (jc6.mpr hi),λ h i hi=>by simpa using h i (jc6.mp hi)⟩
def sumB (b:Nat) (c:Int) (f:List Int->List Int) (r:List Int):List Int:=sumT f ((zql b c).filter λ q=>leR b q r)
theorem qh5 {b:Nat}{c:Int}{f:List Int->List Int}{r:List Int}:sumJ b c f b r=sumB b c f r:=by
 unfold sumJ sumB;congr 1;apply jh3;intro q _;rw [jd9,zzi,qmq];exact ⟨λ h i hi=>(h i hi).1 hi,λ h i hi=>⟨λ _=>h i hi,λ z=>absurd z (by omega)⟩⟩
theorem zfe (v:Int):∀ n:Nat,repL n [.int v]=(ja6 n v).map PV.int
 | 0=>rfl
 | n + 1=>by
  show [PV.int v]++repL n [.int v]=_;rw [zfe v n];rfl
theorem qoy {f g:Fx}{ρ ρ1 ρ2:Rho}{v:Int}{n:Nat}{d e:Nat} (h1:f ρ=.ok (.lst [.int v],d,ρ1)) (h2:g ρ1=.ok (.int (n:Int),e,ρ2)) (hn:n<=1000):bBin zxw f g ρ=.ok (il (ja6 n v),om,ρ2):=by
 refine zqz h1 h2 ?_;have z:=sz;unfold zxw;dsimp only;rw [if_pos ⟨by omega,by omega,by rw [jd6,jc7];omega⟩,jc7,zfe,qcz];rfl
theorem qks {f g:Fx}{ρ ρ1 ρ2:Rho}{xs ys:List Int}{d e:Nat} (h1:f ρ=.ok (il xs,d,ρ1)) (h2:g ρ1=.ok (il ys,e,ρ2)) (hl:xs.length + ys.length<=1000000):bBin zqj f g ρ=.ok (il (xs++ys),om,ρ2):=by
 have:=qho h1 h2 (by rw [ja3,ja3];exact jc9 hl sz)
 rw [this,<- je4,qcz];rfl
theorem qfs {f g:Fx}{ρ ρ1 ρ2:Rho}{k:Int}{d e:Nat} (h1:f ρ=.ok (.lst [.int 0],d,ρ1)) (h2:g ρ1=.ok (.int k,e,ρ2)) (hk:-1000000<=k/\k<=1000000):bBin zxw f g ρ=.ok (il (ja6 k.toNat 0),om,ρ2):=by
 refine zqz h1 h2 ?_;have z:=sz;unfold zxw;dsimp only;rw [if_pos ⟨by omega,by omega,by rw [jd6];omega⟩,zfe,qcz];rfl
theorem qnk {i:Nat}{fj f:Fx}{ρ ρ2:Rho}{xs:List Int}{w:Int}{j d d1 d2:Nat} (hx:ρ[i]?=some (some (il xs,d))) (hd:d≠0) (hj:fj ρ=.ok (.int (j:Int),d1,ρ)) (hf:f ρ=.ok (.int w,d2,ρ)) (hl:j < xs.length) (e:ρ.set i (some (il (xs.set j (xs.getD j 0 + w)),d))=ρ2):qar (λ i j=>i + j) i fj f ρ=.nx ρ2:=by
 unfold qar;rw [hx,hj];show (match f ρ with | .ok (.int w,_,ρ2)=>_ | _=>Rs.no)=_;rw [hf];dsimp only;have e1:ixN (xs.map PV.int).length (j:Int)=some j:=by
  unfold ixN;rw [if_pos (by omega),ja3,if_pos (by omega),jc7]
 rw [e1];dsimp only;have e2:(xs.map PV.int)[j]?=some (.int (xs.getD j 0)):=by
  rw [jc1,ja0,jb8 hl];rfl
 rw [e2];dsimp only;rw [if_pos hd,<- e,il,List.map_set]
theorem qal:∀ (t p:List Int) (y:Int),p.length < t.length->addL t (p++[y])=(addL t p).set p.length ((addL t p).getD p.length 0 + y)
 | [],p,y,h=>by simp at h
 | a::t,[],y,h=>by simp [addL,zyr]
 | a::t,b::p,y,h=>by
  have:=qal t p y (by simpa using h)
  simp only [jf9,addL,jb1,jl6,List.getD_cons_succ];rw [this]
theorem zgb:∀ (xs ys:List Int),addL (xs++ja6 (ys.length - xs.length) 0) ys=addL xs ys
 | [],[]=>rfl
 | [],y::ys=>by
  have:=zgb [] ys
  simp only [je7,jh1,jp7,jb1,je5,addL,jf1] at this ⊢;rw [this]
 | x::xs,[]=>by simp [addL]
 | x::xs,y::ys=>by
  have:=zgb xs ys
  simp only [jf9,jb1,Nat.add_sub_add_right,addL];rw [this]
theorem qda {xs ys:List Int} (hx:xs.length<=1000) (hy:ys.length<=1000):f_added [il xs,il ys]=.ok (il (addL xs ys),om,.non):=by
 let L (t:List Int) (s3 s4:QQ.Slot):Rho:=[some (il xs,0),some (il ys,0),some (il t,om),s3,s4]
 let base:=xs++ja6 (ys.length - xs.length) 0;have hbl:ys.length<=base.length:=by simp [base];omega
 have v1:sSet false 2 (bBin zqj (zqd zkm (zqa (bVar 0) (aNil))) (bBin zxw (zqd zqs (zqa (bC (.int 0)) (aNil))) (bBin zzd (zqd zws (zqa (bVar 1) (aNil))) (zqd zws (zqa (bVar 0) (aNil)))))) [0,1,0] [some (il xs,0),some (il ys,0),none,none,none]=.nx (L base none none):=by
  have e1:=qfs (f:=zqd zqs (zqa (bC (.int 0)) (aNil))) (ρ:=[some (il xs,0),some (il ys,0),none,none,none]) (d:=om) rfl (zgu (qcp (xs:=ys) (fa:=zqa (bVar 1) aNil) (d:=0) rfl) (qcp (xs:=xs) (fa:=zqa (bVar 0) aNil) (d:=0) rfl)) (by omega);rw [show ((ys.length:Int) - (xs.length:Int)).toNat=ys.length - xs.length by omega] at e1;exact setF (qks (qmk (f:=bVar 0) (xs:=xs) (d:=0) rfl) e1 (by rw [jd5];omega)) (show 2 < 5 by decide) rfl
 obtain ⟨ρ',v2,s3,s4,rfl⟩:=qcu (v:=.enm) (fa:=zqa (bVar 1) aNil) (vs:=[1]) (asg:=asgT [3,4]) (body:=qar (λ i j=>i + j) 2 (bVar 3) (bVar 4)) (ρ:=L base none none) (ρ1:=L base none none) (ρ2:=L base none none) (xs:=[(il ys,0)]) (els:=zfr 0 (ys.map PV.int)) (λ j ρ=>∃ s3 s4,ρ=L (addL base (ys.take j)) s3 s4) rfl rfl rfl ⟨none,none,by rw [jl8,zyr]⟩ (by
  rintro j x _ hx ⟨s3,s4,rfl⟩;rw [zpg,jc1] at hx;cases ey:ys[j]? with
  | none=>rw [ey] at hx;cases hx
  | some y=>
   rw [ey] at hx;obtain rfl:PV.tup [.int ((0 + j:Nat):Int),.int y]=x:=Option.some.inj hx;have hj:j < ys.length:=(jb2.mp ey).1;have ht:ys.take (j + 1)=ys.take j++[y]:=by rw [List.take_add_one,ey];rfl
   have hl:(ys.take j).length=j:=by rw [jf0];omega
   refine ⟨L (addL base (ys.take j)) (some (.int ((0 + j:Nat):Int),om)) (some (.int y,om)),L (addL base (ys.take (j + 1))) (some (.int ((0 + j:Nat):Int),om)) (some (.int y,om)),rfl,?_,_,_,rfl⟩;refine qnk (xs:=addL base (ys.take j)) (w:=y) (j:=j) (d:=om) (d1:=om) (d2:=om) rfl (by decide) (by rw [jl5];rfl) rfl (by rw [zgc];omega) ?_;rw [ht,qal base (ys.take j) y (by rw [hl];omega),hl]
   rfl)
 rw [zpf,ja3,List.take_length,show addL base ys=addL xs ys from zgb xs ys] at v2;exact zwg rfl ((zqi v1).trans ((zqi v2).trans rfl))
def keyR (r:List Int):List Key:=r.map Sum.inl
def tupR (r:List Int):PV:=.tup (r.map PV.int)
theorem qbw (r:List Int):tupK (keyR r)=tupR r:=by
 unfold tupK keyR tupR;rw [jd7];rfl
theorem zzy:∀ r:List Int,keyL (r.map PV.int)=some (keyR r)
 | []=>rfl
 | x::r=>by rw [jc2,keyL,zzy r];rfl
theorem zjt:∀ {r q:List Int},keyR r=keyR q->r=q
 | [],[],_=>rfl
 | [],_::_,h=>by cases h
 | _::_,[],h=>by cases h
 | x::r,y::q,h=>by
  have h1:(Sum.inl x:Key)::keyR r=Sum.inl y::keyR q:=h;injection h1 with h2 h3
  injection h2 with h2
  rw [h2,zjt h3]
def tabV (R:List (List Int)) (f:List Int->List Int):PV:=.dcl (R.map keyR) (R.map λ r=>il (f r))
theorem qa9 {h:List Int->PV}{r:List Int}:∀ {R:List (List Int)},kvX (R.map keyR) (R.map h) (keyR r)=if r∈R then some (h r) else none
 | []=>rfl
 | q::R=>by
  rw [jc2,jc2,kvX];by_cases e:q=r
  ·subst e;rw [if_pos rfl,if_pos ja2]
  ·rw [if_neg λ z=>e (zjt z),qa9]
   have:r∈q::R↔r∈R:=by rw [jc0];exact ⟨λ z=>z.resolve_left λ z=>e z.symm,.inr⟩
   simp only [this]
theorem zhp {h:List Int->PV}{r:List Int}{y:PV}:∀ {R:List (List Int)},zfo (keyR r) y (R.map keyR) (R.map h)=R.map λ q=>if q=r then y else h q
 | []=>rfl
 | q::R=>by
  rw [jc2,jc2,zfo,zhp,jc2];congr 1;by_cases e:q=r
  ·subst e;rw [if_pos rfl,if_pos rfl]
  ·rw [if_neg λ z=>e (zjt z),if_neg e]
theorem qcs {r:List Int}{R:List (List Int)}:hasK (R.map keyR) (keyR r)=decide (r∈R):=by
 unfold hasK;rw [List.any_map,jd9,List.any_eq_true,decide_eq_true_iff];constructor
 ·rintro ⟨q,hq,e⟩
  have:keyR q=keyR r:=by simpa using e
  rw [<- zjt this];exact hq
 ·intro h;exact ⟨r,h,by simp⟩
theorem zfp {f g:Fx}{ρ ρ1 ρ2:Rho}{R:List (List Int)}{h:List Int->List Int}{r:List Int}{d e:Nat} (h1:f ρ=.ok (tabV R h,d,ρ1)) (h2:g ρ1=.ok (tupR r,e,ρ2)) (hr:r∈R):bBin zqc f g ρ=.ok (il (h r),0,ρ2):=by
 refine zqz h1 h2 ?_;show (match keyL (r.map PV.int) with | some k=>(kvX (R.map keyR) (R.map λ r=>il (h r)) k).map λ z=>(z,dv z) | none=>none)=_;rw [zzy];dsimp only;rw [qa9 (h:=λ r=>il (h r)),if_pos hr];rfl
theorem qqg {f g:Fx}{ρ ρ1 ρ2:Rho}{R:List (List Int)}{h:List Int->List Int}{r:List Int}{d e:Nat} (h1:f ρ=.ok (tupR r,d,ρ1)) (h2:g ρ1=.ok (tabV R h,e,ρ2)):bBin (opIn false) f g ρ=.ok (.bl (decide (r∈R)),om,ρ2):=by
 refine zqz h1 h2 ?_;show (keyL (r.map PV.int)).map (λ k=>(PV.bl (false^^(kvX (R.map keyR) (R.map λ r=>il (h r)) k).isSome),om))=_;rw [zzy];show some (PV.bl (false^^(kvX (R.map keyR) (R.map λ r=>il (h r)) (keyR r)).isSome),om)=_;rw [qa9 (h:=λ r=>il (h r)),ji7];by_cases e:r∈R
 ·rw [if_pos e,decide_eq_true e];rfl
 ·rw [if_neg e,decide_eq_false e];rfl
theorem zmc {R:List (List Int)}{f h:List Int->List Int} (e:∀ r∈R,f r=h r):tabV R f=tabV R h:=by
 unfold tabV;congr 1;exact jh5 λ r hr=>by rw [e r hr]
theorem qlq {i:Nat}{fk f:Fx}{ρ ρ1 ρ2:Rho}{R:List (List Int)}{h:List Int->List Int}{r:List Int}{y:List Int}{d e:Nat} (hf:f ρ=.ok (il y,om,ρ1)) (hx:ρ1[i]?=some (some (tabV R h,d))) (hd:d≠0) (hk:fk ρ1=.ok (tupR r,e,ρ1)) (hr:r∈R) (hl:R.length < 1000000) (e2:ρ1.set i (some (tabV R (λ q=>if q=r then y else h q),1))=ρ2):zzp i fk f ρ=.nx ρ2:=by
 have z:=sz;unfold zzp;rw [hf];dsimp only;rw [hx];dsimp only;rw [hk];dsimp only;rw [hx];show (match keyL (r.map PV.int) with | some kk=>if d≠0/\om=om/\(R.map keyR).length < va5 then Rs.nx (ρ1.set i (some (zym (R.map keyR) (R.map λ r=>il (h r)) kk (il y),1))) else .no | none=>.no)=_;rw [zzy];dsimp only;rw [if_pos ⟨hd,rfl,by rw [ja3];omega⟩,<- e2];unfold zym;rw [qcs,decide_eq_true hr,if_pos rfl,zhp (h:=λ r=>il (h r))];unfold tabV;congr 5;refine jh5 λ q _=>?_;dsimp only;split <;> rfl
theorem qau {i:Nat}{fk f:Fx}{ρ ρ1 ρ2:Rho}{R:List (List Int)}{h:List Int->List Int}{r:List Int}{y:List Int}{d e:Nat}{x:PV} (hf:f ρ=.ok (il y,om,ρ1)) (hx:ρ1[i]?=some (some (x,d))) (hxe:x=tabV R h\/(x=.dct []/\R=[])) (hd:d≠0) (hk:fk ρ1=.ok (tupR r,e,ρ1)) (hr:r∉R) (hy:h r=y) (hl:R.length < 1000000) (e2:ρ1.set i (some (tabV (R++[r]) h,1))=ρ2):zzp i fk f ρ=.nx ρ2:=by
 have z:=sz;have fin:zym (R.map keyR) (R.map λ r=>il (h r)) (keyR r) (il y)=tabV (R++[r]) h:=by
  unfold zym;rw [qcs,decide_eq_false hr,if_neg (by simp)];unfold tabV;rw [je4,je4];simp [hy]
 unfold zzp;rw [hf];dsimp only;rw [hx];dsimp only;rw [hk];dsimp only;rw [hx];rcases hxe with rfl | ⟨rfl,rfl⟩
 ·show (match keyL (r.map PV.int) with | some kk=>if d≠0/\om=om/\(R.map keyR).length < va5 then Rs.nx (ρ1.set i (some (zym (R.map keyR) (R.map λ r=>il (h r)) kk (il y),1))) else .no | none=>.no)=_;rw [zzy];dsimp only;rw [if_pos ⟨hd,rfl,by rw [ja3];omega⟩,<- e2,fin]
 ·have ep:putX (.dct []) (tupR r) (il y)=none:=by
   show (match keyL (r.map PV.int),(none:Option V) with | some k,some u=>_ | _,_=>none)=_;rw [zzy]
  dsimp only;rw [ep];show (match keyL (r.map PV.int) with | some kk=>if d≠0/\om=om/\0 < va5 then Rs.nx (ρ1.set i (some (zym [] [] kk (il y),1))) else .no | none=>.no)=_;rw [zzy];dsimp only;rw [if_pos ⟨hd,rfl,by omega⟩,<- e2];exact congrArg (λ z=>Rs.nx (ρ1.set i (some (z,1)))) fin
theorem qgt {f:Fx}{vs:List Nat}{asg:PV->Rho->Option Rho}{body:Fs}{ρ ρ1 ρ2 ρ3:Rho}{R:List (List Int)}{h:List Int->List Int}{d:Nat} (hf:f ρ=.ok (tabV R h,d,ρ1)) (ec:zqo d vs ρ1=ρ2) (hl:zwk asg body (R.map tupR) ρ2=.nx ρ3):zgx f vs asg body ρ=.nx ρ3:=by
 unfold zgx;rw [hf];show soft (zwk asg body ((R.map keyR).map tupK) (zqo d vs ρ1))=_;rw [jd7,ec,show (tupK ∘ keyR)=tupR from funext qbw,hl];rfl
theorem qm4 {f:Fx}{vs:List Nat}{asg:PV->Rho->Option Rho}{body:Fs}{ρ ρ1 ρ2 ρ3:Rho}{R:List (List Int)}{h:List Int->List Int}{d:Nat} (hf:f ρ=.ok (tabV R h,d,ρ1)) (ec:zqo d vs ρ1=ρ2) (hl:zwk asg body (R.map λ r=>il (h r)) ρ2=.nx ρ3):qdg f vs asg body ρ=.nx ρ3:=by
 unfold qdg;rw [hf];show soft (zwk asg body (R.map λ r=>il (h r)) (zqo d vs ρ1))=_;rw [ec,hl];rfl
theorem qbq {f h:Fx}{ρ ρ1 ρ2:Rho}{xs ys:List Int}{d e:Nat} (h1:f ρ=.ok (tupR xs,d,ρ1)) (h2:h ρ1=.ok (tupR ys,e,ρ2)) (hl:xs.length + ys.length<=1000000):bBin zqj f h ρ=.ok (tupR (xs++ys),0,ρ2):=by
 have z:=sz;refine zqz h1 h2 ?_;show (if _ then _ else _)=_;rw [if_pos (by rw [ja3,ja3];omega),<- je4];rfl
theorem zpd {f g:Fx}{ρ ρ1 ρ2:Rho}{xs:List Int}{k x:Int}{d e:Nat} (h1:f ρ=.ok (tupR xs,d,ρ1)) (h2:g ρ1=.ok (.int k,e,ρ2)) (h:atI xs k=some x):bBin zqc f g ρ=.ok (.int x,om,ρ2):=by
 refine zqz h1 h2 ?_;show (atI (xs.map PV.int) k).map _=_
 have:atI (xs.map PV.int) k=some (.int x):=by
  unfold atI at h ⊢;rw [ja3];cases e:ixN xs.length k with
  | none=>rw [e] at h;cases h
  | some j=>
   rw [e] at h;have h':xs[j]?=some x:=h;show (xs.map PV.int)[j]?=_;rw [jc1,h'];rfl
 rw [this];rfl
theorem qq0 {f g:Fx}{ρ:Rho}{xs:List Int}{j d e:Nat} (h1:f ρ=.ok (tupR xs,d,ρ)) (h2:g ρ=.ok (.int (j:Int),e,ρ)) (hj:j < xs.length):bSl f none (some g) ρ=.ok (tupR (xs.take j),0,ρ):=by
 unfold bSl;rw [h1];dsimp only [Rz.bind,evO];rw [h2];dsimp only;have e1:opSl (tupR xs) none (some (j:Int))=some (tupR (xs.take j),0):=by
  unfold opSl tupR;dsimp only;rw [HT.sIx_none,HT.sIx_nat,ja3,if_neg (by rw [jl2 (by omega)];omega)];unfold cutP;rw [HT.sIx_none,HT.sIx_nat,ja3,jl2 (by omega),List.drop_zero,jp7,List.map_take]
 rw [e1]
theorem qld {f g:Fx}{ρ:Rho}{xs:List Int}{j d e:Nat} (h1:f ρ=.ok (tupR xs,d,ρ)) (h2:g ρ=.ok (.int (j:Int),e,ρ)) (h0:0 < j) (hj:j<=xs.length):bSl f (some g) none ρ=.ok (tupR (xs.drop j),0,ρ):=by
 unfold bSl;rw [h1];dsimp only [Rz.bind,evO];rw [h2];dsimp only;have e1:opSl (tupR xs) (some (j:Int)) none=some (tupR (xs.drop j),0):=by
  unfold opSl tupR;dsimp only;rw [HT.sIx_none,HT.sIx_nat,ja3,if_neg (by rw [jl2 (by omega)];omega)];unfold cutP;rw [HT.sIx_none,HT.sIx_nat,ja3,jl2 (by omega),List.map_drop,jj7 (by rw [jk3,ja3];omega)]
 rw [e1]
theorem zvz {f:List Int->List Int}{m:Nat}:∀ {l:List (List Int)},(∀ r∈l,(f r).length<=m)->(sumT f l).length<=m
 | [],_=>jj0 _
 | r::l,h=>by
  rw [zzo,zgc]
  have:=h r ja2
  have:=zvz (l:=l) λ q hq=>h q (ja1 _ hq)
  omega
theorem qh4 {b:Nat}{c:Int}{f:List Int->List Int}{m j:Nat}{r:List Int} (h:∀ r∈zql b c,(f r).length<=m):(sumJ b c f j r).length<=m:=zvz λ q hq=>h q (jd4.mp hq).1
def midT (b:Nat) (c:Int) (f:List Int->List Int) (j:Nat) (pre:List (List Int)) (r:List Int):List Int:=if r∈pre then sumJ b c f (j + 1) r else sumJ b c f j r
theorem mid0 (b:Nat) (c:Int) (f:List Int->List Int) (j:Nat):midT b c f j []=sumJ b c f j:=by
 funext r;unfold midT;rw [if_neg (by simp)]
theorem qlc {b:Nat}{c:Int}{f:List Int->List Int} (hb:1<=b/\b<=1000) (hd:dkOk ((zql b c).map keyR)=true) (hn:zql b c≠[]) (hR:(zql b c).length < 1000000) (hf:∀ r∈zql b c,(f r).length<=1000):f_sums_of_lower_rows [tabV (zql b c) f,.int (b:Int)]=.ok (tabV (zql b c) (sumB b c f),1,.non):=by
 let R:=zql b c;let L (h:List Int->List Int) (s3 s4 s5:QQ.Slot):Rho:=[some (tabV R f,0),some (.int (b:Int),om),some (tabV R h,1),s3,s4,s5]
 have v1:sSet false 2 (zqd zhj (zqa (bVar 0) (aNil))) [0] [some (tabV R f,0),some (.int (b:Int),om),none,none,none,none]=.nx (L f none none none):=by
  refine setF (x:=tabV R f) (d:=1) (zxi (zqp (x:=tabV R f) (d:=0) rfl) ?_) (show 2 < 6 by decide) rfl;show (if dkOk (R.map keyR)=true/\R.map keyR≠[] then some (tabV R f,1) else none)=_;rw [if_pos ⟨hd,λ z=>hn (List.map_eq_nil_iff.mp z)⟩]
 have start:L f none none none=L (sumJ b c f 0) none none none:=by
  have:tabV R f=tabV R (sumJ b c f 0):=zmc λ r hr=>(qek hr).symm
  show [_,_,some (tabV R f,1),_,_,_]=[_,_,some (tabV R (sumJ b c f 0),1),_,_,_];rw [this]
 obtain ⟨ρ',v2,s3,s4,s5,rfl⟩:=zkh (i:=3) (en:=zqu) (fa:=zqa (bVar 1) aNil) (body:=(zgx (bVar 0) [0] (asgN 4) (sSeq (sSet false 5 (bBin zqj (bBin zqj (bSl (bVar 4) none (some (bVar 3))) (zqd zxy (zqa (bBin zzd (bBin zqc (bVar 4) (bVar 3)) (bC (.int 1))) (aNil)))) (bSl (bVar 4) (some (bBin zqj (bVar 3) (bC (.int 1)))) none)) [4,4,3,4])
 (sIf (bT (bBin (opIn false) (bVar 5) (bVar 2))) (zzp 2 (bVar 4) (zqg f_added (zqa (bBin zqc (bVar 2) (bVar 4)) (zqa (bBin zqc (bVar 2) (bVar 5)) (aNil))))) sNil)))) (ρ:=L f none none none) (ρ1:=L f none none none) (as:=[(.int (b:Int),om)]) (lo:=0) (hi:=(b:Int))
  (λ j ρ=>∃ s3 s4 s5,ρ=L (sumJ b c f j) s3 s4 s5) rfl (zxu (by omega) (by omega)) ⟨none,none,none,start⟩ (by
  rintro j _ hj ⟨s3,s4,s5,rfl⟩;have hjb:j < b:=by omega
  refine ⟨by show 3 < 6;decide,?_⟩;rw [jf1];let M (h:List Int->List Int) (d3:Nat) (s4 s5:QQ.Slot):Rho:=L h (some (.int (j:Int),d3)) s4 s5;obtain ⟨ρ2,e2,d3',s4',s5',rfl⟩:=zkd (asg:=asgN 4) (enc:=tupR) (body:=(sSeq (sSet false 5 (bBin zqj (bBin zqj (bSl (bVar 4) none (some (bVar 3))) (zqd zxy (zqa (bBin zzd (bBin zqc (bVar 4) (bVar 3)) (bC (.int 1))) (aNil)))) (bSl (bVar 4) (some (bBin zqj (bVar 3) (bC (.int 1)))) none)) [4,4,3,4])
 (sIf (bT (bBin (opIn false) (bVar 5) (bVar 2))) (zzp 2 (bVar 4) (zqg f_added (zqa (bBin zqc (bVar 2) (bVar 4)) (zqa (bBin zqc (bVar 2) (bVar 5)) (aNil))))) sNil))) (λ pre ρ=>∃ d3 s4 s5,ρ=M (midT b c f j pre) d3 s4 s5) R [] (M (sumJ b c f j) om s4 s5) ⟨om,s4,s5,by rw [mid0 b c f j]⟩ (by
   rintro pre r post _ ep ⟨d3,s4,s5,rfl⟩;rw [je7] at ep;have hr:r∈R:=by rw [ep];exact ja5 _ ja2
   have h1:=zxf.mp hr;have hl:j < r.length:=by rw [h1.len];exact hjb
   have hrp:r∉pre:=λ z=>by
    have:=zye b c
    rw [show zql b c=pre++r::post from ep,jm2] at this;exact this.2.2 r z r ja2 rfl
   let N (d3 d4:Nat) (s5:QQ.Slot):Rho:=M (midT b c f j pre) d3 (some (tupR r,d4)) s5;have w1:sSet false 5 (bBin zqj (bBin zqj (bSl (bVar 4) none (some (bVar 3))) (zqd zxy (zqa (bBin zzd (bBin zqc (bVar 4) (bVar 3)) (bC (.int 1))) (aNil)))) (bSl (bVar 4) (some (bBin zqj (bVar 3) (bC (.int 1)))) none)) [4,4,3,4] (N d3 0 s5)=.nx (N 0 0 (some (tupR (lowR r j),0))):=by
    have a1:=qq0 (f:=bVar 4) (g:=bVar 3) (ρ:=N d3 0 s5) (xs:=r) (j:=j) (d:=0) (e:=om) rfl rfl hl;have a2:zqd zxy (zqa (bBin zzd (bBin zqc (bVar 4) (bVar 3)) (bC (.int 1))) (aNil)) (N d3 0 s5)=.ok (tupR [r.getD j 0 - 1],om,N d3 0 s5):=zxi (zqp (zgu (j:=1) (e:=om) (zpd (xs:=r) (k:=(j:Int)) (d:=0) (e:=om) rfl rfl (zxr (by omega) (by rw [jc7];exact zwc hl))) rfl)) rfl;have a3:=qld (f:=bVar 4) (g:=bBin zqj (bVar 3) (bC (.int 1))) (ρ:=N d3 0 s5) (xs:=r) (j:=j + 1) (d:=0) (e:=om) rfl rfl (by omega) (by omega);have a4:=qbq (qbq a1 a2 (by rw [jf0,jd6];omega)) a3 (by rw [jb0,jf0,jd6,jk3];have:=h1.len;omega);exact setF a4 (show 5 < 6 by decide) rfl
   have w2:=qqg (f:=bVar 5) (g:=bVar 2) (ρ:=N 0 0 (some (tupR (lowR r j),0))) (r:=lowR r j) (R:=R) (h:=midT b c f j pre) (d:=0) (e:=0) rfl rfl;have fl:∀ q,(midT b c f j pre q).length<=1000:=λ q=>by
    unfold midT;split <;> exact qh4 hf
   by_cases hm:lowR r j∈R
   ·have hp:lowR r j∈pre:=by
     have pw:=qb7 b c;rw [show zql b c=pre++r::post from ep,List.pairwise_append,jo9] at pw;rw [ep,jd0,jc0] at hm;rcases hm with hm | hm | hm
     ·exact hm
     ·have:=qa6 hl
      rw [hm,qa5] at this;cases this
     ·have:=qcn (qa6 hl)
      rw [pw.2.1.1 _ hm] at this;cases this
    rw [decide_eq_true hm] at w2;have w3:zzp 2 (bVar 4) (zqg f_added (zqa (bBin zqc (bVar 2) (bVar 4)) (zqa (bBin zqc (bVar 2) (bVar 5)) (aNil)))) (N 0 0 (some (tupR (lowR r j),0)))=.nx (M (midT b c f j (pre++[r])) 0 (some (tupR r,0)) (some (tupR (lowR r j),0))):=by
     have c1:=zfp (f:=bVar 2) (g:=bVar 4) (ρ:=N 0 0 (some (tupR (lowR r j),0))) (R:=R) (h:=midT b c f j pre) (r:=r) (d:=0) (e:=0) rfl rfl hr;have c2:=zfp (f:=bVar 2) (g:=bVar 5) (ρ:=N 0 0 (some (tupR (lowR r j),0))) (R:=R) (h:=midT b c f j pre) (r:=lowR r j) (d:=0) (e:=0) rfl rfl hm;refine qlq (R:=R) (h:=midT b c f j pre) (r:=r) (d:=1) (e:=0) (zqh (zqk c1 (zqp c2)) (qda (fl _) (fl _))) rfl (by decide) rfl hr hR ?_;show M (λ q=>if q=r then addL (midT b c f j pre r) (midT b c f j pre (lowR r j)) else midT b c f j pre q) _ _ _=_;congr 1;funext q;by_cases e:q=r
     ·subst e;rw [if_pos rfl];unfold midT;rw [if_neg hrp,if_pos hp,if_pos (by simp),zgs hr hjb,if_pos hm]
     ·rw [if_neg e];unfold midT
      have:q∈pre++[r]↔q∈pre:=by simp [e]
      simp only [this]
    exact ⟨N d3 0 s5,_,rfl,(zqi w1).trans ((if_t (t_ok w2)).trans w3),_,_,_,rfl⟩
   ·rw [decide_eq_false hm] at w2;refine ⟨N d3 0 s5,_,rfl,(zqi w1).trans ((if_f (t_ok w2)).trans rfl),0,some (tupR r,0),some (tupR (lowR r j),0),?_⟩;show M (midT b c f j pre) _ _ _=_;congr 1;funext q;unfold midT;by_cases e:q=r
    ·subst e;rw [if_neg hrp,if_pos (by simp),zgs hr hjb,if_neg hm]
    ·have:q∈pre++[r]↔q∈pre:=by simp [e]
     simp only [this])
  refine ⟨_,qgt (R:=R) (h:=f) (d:=0) (ρ2:=M (sumJ b c f j) om s4 s5) rfl rfl e2,some (.int (j:Int),d3'),s4',s5',?_⟩;show L (midT b c f j ([]++R)) _ _ _=_
  have:tabV R (midT b c f j ([]++R))=tabV R (sumJ b c f (j + 1)):=zmc λ r hr=>by
   unfold midT;rw [je7,if_pos hr]
  show [_,_,some (tabV R (midT b c f j ([]++R)),1),_,_,_]=[_,_,some (tabV R (sumJ b c f (j + 1)),1),_,_,_];rw [this])
 rw [show ((b:Int) - 0).toNat=b by omega,show sumJ b c f b=sumB b c f from funext λ r=>qh5] at v2;exact zwg rfl ((zqi v1).trans ((zqi v2).trans rfl))
def betw (b:Nat) (lo r hi:List Int):Bool:=(ja7 b).all λ j=>decide (lo.getD j 0<=r.getD j 0) && decide (r.getD j 0<=hi.getD j 0)
theorem qni {b:Nat}{lo r hi:List Int} (h1:lo.length=b) (h2:r.length=b) (h3:hi.length=b) (hb:b<=1000):f_lies_between [tupR r,il lo,il hi]=.ok (.bl (betw b lo r hi),om,.non):=by
 have z:=sz;let R:Rho:=[some (tupR r,0),some (il lo,0),some (il hi,0)]
 have e0:zqd zws (zqa (bVar 0) (aNil)) R=.ok (.int (b:Int),om,R):=by
  refine zxi (xs:=[(tupR r,0)]) rfl ?_;show some (PV.int ((r.map PV.int).length:Nat),om)=_;rw [ja3,h2]
 have e1:=zzk (n:=3) (en:=zqu) (fa:=zqa (zqd zws (zqa (bVar 0) (aNil))) aNil) (elt:=zzl (λ i j=>decide (i<=j)) (λ i j=>decide (i<=j)) (bBin zqc (bVar 1) (bVar 3)) (bBin zqc (bVar 0) (bVar 3)) (bBin zqc (bVar 2) (bVar 3))) (q:=λ j=>.bl (decide (lo.getD j 0<=r.getD j 0) && decide (r.getD j 0<=hi.getD j 0))) (ρ:=R) (ρ1:=R) (as:=[(.int (b:Int),om)]) (lo:=0) (hi:=(b:Int)) (zqp e0) (zxu (by omega) (by omega)) rfl (λ k hk=>by
  have hkb:k < b:=by omega
  rw [jf1];exact zyq (zyi (xs:=lo) (k:=(k:Int)) (d:=0) (e:=om) rfl rfl (zxr (by omega) (by rw [jc7];exact zwc (by omega)))) (zpd (xs:=r) (k:=(k:Int)) (d:=0) (e:=om) rfl rfl (zxr (by omega) (by rw [jc7];exact zwc (by omega)))) (zyi (xs:=hi) (k:=(k:Int)) (d:=0) (e:=om) rfl rfl (zxr (by omega) (by rw [jc7];exact zwc (by omega))))) (by omega)
 rw [show ((b:Int) - 0).toNat=b by omega] at e1;exact zwg rfl (zxz (all_ok (xs:=ja7 b) (g:=λ j=>decide (lo.getD j 0<=r.getD j 0) && decide (r.getD j 0<=hi.getD j 0)) e1))
def cntR (ct:List Nat) (r:List Int):Int:=(ct.map λ j=>r.getD j 0).sum
def zpv (b:Nat) (lo hi:List Int) (ct:List Nat) (g:List Int->List Int) (r:List Int):List Int:=if betw b lo r hi=true then ja6 (cntR ct r).toNat 0++g r else []
theorem qbm {b:Nat}{c:Nat}{r:List Int} (h:RowB b c r):∀ {ct:List Nat},(∀ j∈ct,j < b)->0<=cntR ct r/\cntR ct r<=ct.length * c
 | [],_=>by simp [cntR]
 | j::ct,hc=>by
  have h1:=qbm h (ct:=ct) λ k hk=>hc k (ja1 _ hk);have h2:=h.lo j (hc j ja2);have h3:=h.hi j (hc j ja2);have e:cntR (j::ct) r=r.getD j 0 + cntR ct r:=rfl;rw [e,jb1,jq4,jr9];omega
theorem zhb {b:Nat}{c:Nat}{lo hi:List Int}{ct:List Nat}{g:List Int->List Int} (h1:lo.length=b) (h3:hi.length=b) (hb:b<=1000) (hct:∀ j∈ct,j < b) (hcl:ct.length * c<=1000/\ct.length<=1000/\c<=1000) (hn:zql b c≠[]) (hR:(zql b c).length < 1000000) (hg:∀ r∈zql b c,(g r).length<=1000):
  f_table_of_row [tabV (zql b c) g,il lo,il hi,.lst (ct.map λ (j:Nat)=>.int (j:Int))]=.ok (tabV (zql b c) (zpv b lo hi ct g),1,.non):=by
 have z:=sz;let R:=zql b c;let L (s4 s5:QQ.Slot):Rho:=[some (tabV R g,0),some (il lo,0),some (il hi,0),some (.lst (ct.map λ (j:Nat)=>.int (j:Int)),0),s4,s5]
 let T:=zpv b lo hi ct g;obtain ⟨ρ',v2,s5,s4,hs,rfl⟩:=zkd (asg:=asgN 5) (enc:=tupR) (body:=(sIf (bT (zqg f_lies_between (zqa (bVar 5) (zqa (bVar 1) (zqa (bVar 2) (aNil)))))) (zzp 4 (bVar 5) (bBin zqj (bBin zxw (zqd zqs (zqa (bC (.int 0)) (aNil))) (zqd zvg (zqa (zxa (bVar 3) 1 (asgN 6) zxk (bBin zqc (bVar 5) (bVar 6))) (aNil)))) (bBin zqc (bVar 0) (bVar 5)))) (zzp 4 (bVar 5) (zqd zqs (aNil))))) (λ pre ρ=>∃ s5 s4,((pre=[]/\s4=some (.dct [],om))\/(pre≠[]/\s4=some (tabV pre T,1)))/\ρ=L s4 s5) R [] (L (some (.dct [],om)) none) ⟨none,some (.dct [],om),.inl ⟨rfl,rfl⟩,rfl⟩ (by
  rintro pre r post _ ep ⟨s5,s4,hs,rfl⟩;rw [je7] at ep;have hr:r∈R:=by rw [ep];exact ja5 _ ja2
  have h2:=zxf.mp hr;have hrp:r∉pre:=λ z=>by
   have:=zye b c
   rw [show zql b c=pre++r::post from ep,jm2] at this;exact this.2.2 r z r ja2 rfl
  have hpl:pre.length < 1000000:=by
   have:R.length=pre.length + (post.length + 1):=by rw [ep];simp
   have:R.length < 1000000:=hR
   omega
  obtain ⟨x4,d4,rfl,hx,hd⟩:∃ x4 d4,s4=some (x4,d4)/\(x4=tabV pre T\/(x4=.dct []/\pre=[]))/\d4≠0:=by
   rcases hs with ⟨e1,e2⟩ | ⟨e1,e2⟩
   ·exact ⟨_,_,e2,.inr ⟨rfl,e1⟩,by decide⟩
   ·exact ⟨_,_,e2,.inl rfl,by decide⟩
  let N:Rho:=L (some (x4,d4)) (some (tupR r,0));have t:=t_ok (zqh (F:=f_lies_between) (fa:=zqa (bVar 5) (zqa (bVar 1) (zqa (bVar 2) (aNil)))) (ρ:=N) (ρ1:=N) (xs:=[(tupR r,0),(il lo,0),(il hi,0)]) rfl (qni h1 h2.len h3 hb));have fin:∃ ρ2,(sIf (bT (zqg f_lies_between (zqa (bVar 5) (zqa (bVar 1) (zqa (bVar 2) (aNil)))))) (zzp 4 (bVar 5) (bBin zqj (bBin zxw (zqd zqs (zqa (bC (.int 0)) (aNil))) (zqd zvg (zqa (zxa (bVar 3) 1 (asgN 6) zxk (bBin zqc (bVar 5) (bVar 6))) (aNil)))) (bBin zqc (bVar 0) (bVar 5)))) (zzp 4 (bVar 5) (zqd zqs (aNil)))) N=.nx ρ2/\ρ2=L (some (tabV (pre++[r]) T,1)) (some (tupR r,0)):=by
   refine ⟨_,?_,rfl⟩;cases hbt:betw b lo r hi with
   | true=>
    rw [hbt] at t;have cs:=zyo (n:=6) (f:=bVar 3) (elt:=bBin zqc (bVar 5) (bVar 6)) (enc:=λ (j:Nat)=>PV.int (j:Int)) (q:=λ j=>.int (r.getD j 0)) (ρ:=N) (ρ1:=N) (d:=0) ct rfl rfl (λ j hj=>zpd (xs:=r) (k:=(j:Int)) (d:=0) (e:=om) rfl rfl (zxr (by omega) (by rw [jc7];exact zwc (by rw [h2.len];exact hct j hj)))) (by omega);have cs':zxa (bVar 3) 1 (asgN 6) zxk (bBin zqc (bVar 5) (bVar 6)) N=.ok (il (ct.map λ j=>r.getD j 0),om,N):=by
     rw [cs];unfold il;rw [jd7];rfl
    have sok:zyb (ct.map λ j=>r.getD j 0)=true:=qh3 (by rw [ja3];omega) (λ x hx=>by
     obtain ⟨j,hj,rfl⟩:=jd2.mp hx;have a1:=h2.lo j (hct j hj);have a2:=h2.hi j (hct j hj)
     omega)
    have sm:=zgq (zqp cs') sok;have cb:=qbm h2 hct;have cc:((ct.length * c:Nat):Int)<=1000:=by omega
    rw [jj5] at cc;have e1:=qfs (f:=zqd zqs (zqa (bC (.int 0)) (aNil))) (ρ:=N) (ρ1:=N) (d:=om) rfl sm (by show -1000000<=cntR ct r/\cntR ct r<=1000000;omega);have e2:=qks e1 (zfp (f:=bVar 0) (g:=bVar 5) (R:=R) (h:=g) (r:=r) (d:=0) (e:=0) rfl rfl hr) (by
     have:=hg r hr
     rw [jd5];show (cntR ct r).toNat + _<=_
     omega)
    refine (if_t t).trans (qau (R:=pre) (h:=T) (r:=r) (d:=d4) (e:=0) (x:=x4) e2 rfl hx hd rfl hrp ?_ hpl rfl);show zpv b lo hi ct g r=_;unfold zpv;rw [hbt,if_pos rfl];rfl
   | false=>
    rw [hbt] at t;refine (if_f t).trans (qau (R:=pre) (h:=T) (r:=r) (y:=[]) (d:=d4) (e:=0) (x:=x4) (f:=zqd zqs aNil) (ρ1:=N) rfl rfl hx hd rfl hrp ?_ hpl rfl);show zpv b lo hi ct g r=_;unfold zpv;rw [hbt,if_neg (by simp)]
  obtain ⟨ρ2,f1,rfl⟩:=fin;exact ⟨N,_,rfl,f1,_,_,.inr ⟨by simp,rfl⟩,rfl⟩)
 rcases hs with ⟨e,_⟩ | ⟨_,rfl⟩
 ·exact absurd e hn
 ·have v1:sSet false 4 bDct [] (L none none)=.nx (L (some (.dct [],om)) none):=rfl;exact zwg rfl ((zqi v1).trans ((zqi (qgt (R:=R) (h:=g) (d:=0) rfl rfl v2)).trans rfl))
theorem qnf {n:Nat}{en:List (PV×Nat)->Option (Int×Int)}{fa:Fa}{elt:Fx}{q:Nat->PV}{ρ ρ1:Rho}{as:List (PV×Nat)}{lo hi:Int} (hf:fa ρ=.ok (as,ρ1)) (hen:en as=some (lo,hi)) (hn:ρ1.length=n) (he:∀ k,k < (hi - lo).toNat->elt (ρ1++[some (.int (lo + (k:Int)),om)])=.ok (q k,0,ρ1++[some (.int (lo + (k:Int)),om)])) (hl:(hi - lo).toNat<=va5):
  ∃ e,zxd en fa 1 (asgN n) zxk elt ρ=.ok (.lst ((ja7 (hi - lo).toNat).map q),e,ρ1):=by
 refine ⟨if zzf ((ja7 (hi - lo).toNat).map λ (k:Nat)=>(q k,0)) then om else 1,?_⟩;unfold zxd;rw [hf];dsimp only;rw [hen];dsimp only;rw [zyf,zzc (enc:=λ (k:Nat)=>PV.int (lo + (k:Int))) (p:=λ _=>true) (q:=q) (e:=λ _=>0) (ja7 (hi - lo).toNat) ρ1 [] hn (λ _ _=>rfl) (λ x hx _=>he x (jc6.mp hx)) (by simpa using hl),jg1.mpr (λ _ _=>rfl)];show zze ((ja7 (hi - lo).toNat).map λ x=>(q x,0)) ρ1=_;unfold zze;rw [jd7];rfl
theorem qln {b c:Nat} (hb:1<=b/\b<=1000) (hc:c<=1000) (hR:∀ n,n<=b->(zql n c).length<=500000):f_rows_of_heights [.int (b:Int),.int (c:Int)]=.ok (.lst ((zql b c).map tupR),0,.non):=by
 have z:=sz;let L (x2:PV) (d2:Nat) (s3 s4 s5 s6:QQ.Slot) (d1:Nat):Rho:=[some (.int (b:Int),om),some (.int (c:Int),d1),some (x2,d2),s3,s4,s5,s6]
 have v1:sSet false 2 (zqd zqs (zqa (zqd zxy (aNil)) (aNil))) [] [some (.int (b:Int),om),some (.int (c:Int),om),none,none,none,none,none]=.nx (L (.lst [tupR []]) om none none none none om):=rfl;obtain ⟨ρ',v2,d1,d2,s3,s4,s5,s6,hd2,rfl⟩:=zkh (i:=3) (en:=zqu) (fa:=zqa (bVar 0) aNil) (body:=(sSeq (sSet false 4 (zqd zqs (aNil)) [])
 (sSeq (zji (bVar 2) [2] (asgN 5) (sSeq (sSet false 6 (bIfE (bT (bBin (zxo λ i j=>decide (j < i)) (bVar 3) (bC (.int 0)))) (bBin zqc (bVar 5) (bUn zjj (bC (.int 1)))) (bVar 1)) [5,1])
 (sExt 4 (zxd zqu (zqa (bBin zqj (bVar 6) (bC (.int 1))) (aNil)) 1 (asgN 7) zxk (bBin zqj (bVar 5) (zqd zxy (zqa (bVar 7) (aNil))))) [5])))
 (sSet false 2 (bVar 4) [4])))) (ρ:=L (.lst [tupR []]) om none none none none om) (ρ1:=L (.lst [tupR []]) om none none none none om) (as:=[(.int (b:Int),om)]) (lo:=0) (hi:=(b:Int))
  (λ j ρ=>∃ d1 d2 s3 s4 s5 s6,(0 < j->d2=0)/\ρ=L (.lst ((zql j c).map tupR)) d2 s3 s4 s5 s6 d1) rfl (zxu (by omega) (by omega)) ⟨om,om,none,none,none,none,λ h=>absurd h (by omega),rfl⟩ (by
  rintro j _ hj ⟨d1,d2,s3,s4,s5,s6,_,rfl⟩;have hjb:j < b:=by omega
  refine ⟨by show 3 < 7;decide,?_⟩;rw [jf1];let R:=zql j c;let M (xs:List PV) (d4 d1 d2 d3:Nat) (s5 s6:QQ.Slot):Rho:=[some (.int (b:Int),om),some (.int (c:Int),d1),some (.lst (R.map tupR),d2),some (.int (j:Int),d3),some (.lst xs,d4),s5,s6]
  let nx (r:List Int):List (List Int):=(zva 0 (topR c c r + 1)).map λ x=>r++[x];have hnx:zql (j + 1) c=R.flatMap nx:=rfl;obtain ⟨ρ2,e2,d1',d3',d4',s5',s6',hd4,rfl⟩:=zkd (asg:=asgN 5) (enc:=tupR) (body:=(sSeq (sSet false 6 (bIfE (bT (bBin (zxo λ i j=>decide (j < i)) (bVar 3) (bC (.int 0)))) (bBin zqc (bVar 5) (bUn zjj (bC (.int 1)))) (bVar 1)) [5,1])
 (sExt 4 (zxd zqu (zqa (bBin zqj (bVar 6) (bC (.int 1))) (aNil)) 1 (asgN 7) zxk (bBin zqj (bVar 5) (zqd zxy (zqa (bVar 7) (aNil))))) [5]))) (λ pre ρ=>∃ d1 d3 d4 s5 s6,d4≠0/\ρ=M ((pre.flatMap nx).map tupR) d4 d1 0 d3 s5 s6) R [] (M [] om d1 0 om s5 s6) ⟨d1,om,om,s5,s6,by decide,rfl⟩ (by
   rintro pre r post _ ep ⟨d1,d3,d4,s5,s6,hd4,rfl⟩;rw [je7] at ep;have hr:r∈R:=by rw [ep];exact ja5 _ ja2
   have h2:=zxf.mp hr;let N (d1 d5:Nat) (s6:QQ.Slot):Rho:=M ((pre.flatMap nx).map tupR) d4 d1 0 d3 (some (tupR r,d5)) s6;have ht:∃ m:Nat,topR c c r=(m:Int)/\m<=c/\bIfE (bT (bBin (zxo λ i j=>decide (j < i)) (bVar 3) (bC (.int 0)))) (bBin zqc (bVar 5) (bUn zjj (bC (.int 1)))) (bVar 1) (N d1 0 s6)=.ok (.int (m:Int),om,N d1 0 s6):=by
    have tt:=t_ok (zzr (p:=λ i j=>decide (j < i)) (f:=bVar 3) (g:=bC (.int 0)) (ρ:=N d1 0 s6) (i:=(j:Int)) (j:=0) (d:=om) (e:=om) rfl rfl);cases j with
    | zero=>
     refine ⟨c,?_,ja4 _,?_⟩
     ·unfold topR;rw [jf6.mp h2.len];simp only [jp4];omega
     ·unfold bIfE;rw [tt];rfl
    | succ i=>
     have g1:=zbz h2.len;have g2:=h2.lo i (by omega);have g3:=h2.hi i (by omega);obtain ⟨m,hm⟩:∃ m:Nat,r.getD i 0=(m:Int):=⟨(r.getD i 0).toNat,by omega⟩
     refine ⟨m,?_,by omega,?_⟩
     ·unfold topR;rw [g1];simp only;omega
     ·unfold bIfE;rw [tt];dsimp only [Rz.bind];rw [if_pos (by rw [decide_eq_true_iff];omega)];refine zpd (xs:=r) (k:=-1) (d:=0) (e:=om) rfl rfl ?_;unfold atI ixN;rw [if_neg (by decide),if_pos (by rw [h2.len];omega),h2.len,<- hm];rw [show (-1 + ((i + 1:Nat):Int)).toNat=i by omega];exact zwc (by rw [h2.len];omega)
   obtain ⟨m,tm,hmc,ev⟩:=ht;have w1:sSet false 6 (bIfE (bT (bBin (zxo λ i j=>decide (j < i)) (bVar 3) (bC (.int 0)))) (bBin zqc (bVar 5) (bUn zjj (bC (.int 1)))) (bVar 1)) [5,1] (N d1 0 s6)=.nx (N d1 0 (some (.int (m:Int),om))):=setF ev (show 6 < 7 by decide) rfl;have ct:∃ e,zxd zqu (zqa (bBin zqj (bVar 6) (bC (.int 1))) (aNil)) 1 (asgN 7) zxk (bBin zqj (bVar 5) (zqd zxy (zqa (bVar 7) (aNil)))) (N d1 0 (some (.int (m:Int),om)))=.ok (.lst ((nx r).map tupR),e,N d1 0 (some (.int (m:Int),om))):=by
    let W:Rho:=N d1 0 (some (.int (m:Int),om));have e1:(nx r).map tupR=(ja7 (m + 1)).map λ (k:Nat)=>tupR (r++[(0:Int) + (k:Int)]):=by
     show ((zva 0 (topR c c r + 1)).map λ x=>r++[x]).map tupR=_;unfold zva;rw [tm,jd7,jd7,show ((m:Int) + 1 - 0).toNat=m + 1 by omega];rfl
    have hc:=qnf (n:=7) (en:=zqu) (fa:=zqa (bBin zqj (bVar 6) (bC (.int 1))) (aNil)) (elt:=bBin zqj (bVar 5) (zqd zxy (zqa (bVar 7) (aNil)))) (q:=λ k=>tupR (r++[(0:Int) + (k:Int)])) (ρ:=W) (ρ1:=W) (as:=[(.int ((m:Int) + 1),om)]) (lo:=0) (hi:=(m:Int) + 1) rfl (zxu (by omega) (by omega)) rfl (λ k hk=>by
     exact qbq (f:=bVar 5) (h:=zqd zxy (zqa (bVar 7) (aNil))) (xs:=r) (ys:=[(0:Int) + (k:Int)]) (d:=0) (e:=om) rfl rfl (by rw [h2.len,jd6];omega)) (by omega)
    rw [show ((m:Int) + 1 - 0).toNat=m + 1 by omega,<- e1] at hc;exact hc
   obtain ⟨e,ct⟩:=ct;have hjl:(zql (j + 1) c).length<=500000:=hR (j + 1) (by omega);have hln:((pre.flatMap nx).map tupR).length + ((nx r).map tupR).length<=va5:=by
    have:(zql (j + 1) c).length=(pre.flatMap nx).length + ((nx r).length + (post.flatMap nx).length):=by
     rw [hnx,ep,jj2,jh4,jb0,jb0]
    rw [ja3,ja3];omega
   have w2:sExt 4 (zxd zqu (zqa (bBin zqj (bVar 6) (bC (.int 1))) (aNil)) 1 (asgN 7) zxk (bBin zqj (bVar 5) (zqd zxy (zqa (bVar 7) (aNil))))) [5] (N d1 0 (some (.int (m:Int),om)))=.nx (M (((pre++[r]).flatMap nx).map tupR) 1 d1 0 d3 (some (tupR r,0)) (some (.int (m:Int),om))):=by
    obtain ⟨k,rfl⟩:∃ k,d4=k + 1:=⟨d4 - 1,by omega⟩
    have hcool:zqo e [5] (N d1 0 (some (.int (m:Int),om)))=N d1 0 (some (.int (m:Int),om)):=by
     unfold zqo;split <;> rfl
    refine qkh (xs:=(pre.flatMap nx).map tupR) (xs0:=(pre.flatMap nx).map tupR) (d0:=k) (d:=k + 1) rfl ct (by rw [hcool];rfl) (by omega) hln ?_;rw [hcool,jj2,je4];simp only [jh4,List.flatMap_nil,jh9];rfl
   exact ⟨N d1 0 s6,_,rfl,(zqi w1).trans w2,d1,d3,1,_,_,by decide,rfl⟩)
  have u1:sSet false 4 (zqd zqs (aNil)) [] (L (.lst (R.map tupR)) d2 (some (.int (j:Int),om)) s4 s5 s6 d1)=.nx (M [] om d1 d2 om s5 s6):=rfl;have u2:zji (bVar 2) [2] (asgN 5) (sSeq (sSet false 6 (bIfE (bT (bBin (zxo λ i j=>decide (j < i)) (bVar 3) (bC (.int 0)))) (bBin zqc (bVar 5) (bUn zjj (bC (.int 1)))) (bVar 1)) [5,1])
 (sExt 4 (zxd zqu (zqa (bBin zqj (bVar 6) (bC (.int 1))) (aNil)) 1 (asgN 7) zxk (bBin zqj (bVar 5) (zqd zxy (zqa (bVar 7) (aNil))))) [5])) (M [] om d1 d2 om s5 s6)=_:=qbf (els:=R.map tupR) (d:=0) rfl rfl e2
  refine ⟨_,(zqi u1).trans ((zqi u2).trans (setF (x:=.lst (((([]:List (List Int))++R).flatMap nx).map tupR)) (d:=0) rfl (show 2 < 7 by decide) rfl)),d1',0,some (.int (j:Int),d3'),some (.lst (((([]:List (List Int))++R).flatMap nx).map tupR),0),s5',s6',λ _=>rfl,?_⟩
  rfl)
 rw [show ((b:Int) - 0).toNat=b by omega] at v2;have hd:d2=0:=hd2 (by omega);subst hd;exact zwg rfl ((zqi v1).trans ((zqi v2).trans rfl))
structure BoxT (a b c:Nat):Prop where
 ha:1<=a/\a<=100
 hb:1<=b/\b<=100
 hc:c<=100
 dk:dkOk ((zql b c).map keyR)=true
 rl:∀ n,n<=b->(zql n c).length<=500000
theorem zjq {b c:Nat}:zql b c≠[]:=λ e=>by
 have:ja6 b (0:Int)∈zql b c:=zxf.mpr ⟨jd5,λ j hj=>by simp [ja0,jd3,hj],λ j hj=>by simp [ja0,jd3,hj],λ j hj=>by simp [ja0,jd3,hj,show j < b by omega]⟩
 rw [e] at this;cases this
def zvi (r:List Int):List Int:=if r.sum=0 then [1] else []
def tabN (a b:Nat) (c:Int) (lo hi:Nat->List Int) (ct:Nat->List Nat):Nat->List Int->List Int
 | 0=>zvi
 | k + 1=>zpv b (lo (a - 1 - k)) (hi (a - 1 - k)) (ct (a - 1 - k)) (sumB b c (tabN a b c lo hi ct k))
theorem zjn {a b c:Nat}{lo hi:Nat->List Int}{ct:Nat->List Nat}{m:Nat} (hct:∀ i,(ct i).length<=m) (hcb:∀ i,∀ j∈ct i,j < b):∀ (k:Nat),∀ r∈zql b c,(tabN a b c lo hi ct k r).length<=1 + k * (m * c)
 | 0,r,_=>by
  unfold tabN zvi;split <;> simp
 | k + 1,r,hr=>by
  have ih:=zjn (a:=a) (b:=b) (c:=c) (lo:=lo) (hi:=hi) hct hcb k;unfold tabN zpv;split
  ·rw [jb0,jd5];have h1:(sumB b c (tabN a b c lo hi ct k) r).length<=1 + k * (m * c):=zvz λ q hq=>ih q (jd4.mp hq).1;have h2:=(qbm (zxf.mp hr) (hcb (a - 1 - k))).2;have h3:(ct (a - 1 - k)).length * c<=m * c:=jh0 _ (hct _);have h4:(cntR (ct (a - 1 - k)) r).toNat<=m * c:=by
    have:(((ct (a - 1 - k)).length * c:Nat):Int)=((ct (a - 1 - k)).length:Int) * (c:Int):=jj5 _ _
    omega
   have h5:(k + 1) * (m * c)=k * (m * c) + m * c:=by rw [jr7,jr8]
   omega
  ·simp
def ctP (ps:List (Nat×Nat)) (i:Nat):List Nat:=(ps.filter λ z=>decide (z.1=i)).map (·.2)
theorem qbl {ps:List (Nat×Nat)}{b i:Nat} (h:∀ z∈ps,z.2 < b):∀ j∈ctP ps i,j < b:=λ j hj=>by
 obtain ⟨z,hz,rfl⟩:=jd2.mp hj;exact h z (jd4.mp hz).1
theorem qja {fa:Fa}{asg:PV->Rho->Option Rho}{body:Fs}{ρ ρ1:Rho}{r:Rs}{as:List (PV×Nat)}{i:Int}{n:Nat} (hf:fa ρ=.ok (as,ρ1)) (hen:qdw as=some (i,n)) (h:zwk asg body (zma i n) ρ1=r):zbj fa asg body ρ=r:=by
 unfold zbj;rw [hf];dsimp only;rw [hen];exact h
theorem qjd {i j:Int}{d1 d2 d3:Nat} (h1:-(2 ^ 40)<=i) (h2:i < 2 ^ 40) (h3:-(2 ^ 40)<=j) (h4:j < 2 ^ 40):qdw [(.int i,d1),(.int j,d2),(.int (-1),d3)]=some (i,(i - j).toNat):=by
 show (if (-1:Int)=-1/\-(2 ^ 40)<=i/\i < 2 ^ 40/\-(2 ^ 40)<=j/\j < 2 ^ 40 then some (i,(i - j).toNat) else none)=_;rw [if_pos ⟨rfl,h1,h2,h3,h4⟩]
theorem zgo {a b c:Nat} (B:BoxT a b c) {low high:List (List Int)} (hl:Tab a b low) (hh:Tab a b high) {ps:List (Nat×Nat)} (hp:∀ z∈ps,z.2 < b) {m:Nat} (hm:∀ i,(ctP ps i).length<=m) (hmc:1 + a * (m * c)<=1000) (hpl:ps.length<=1000):
  ∃ d,f_tables_between [bx a b c,tb low,tb high,.lst (ps.map pr)]=.ok (.lst ((ja7 a).map λ k=>tabV (zql b c) (tabN a b c (λ i=>low.getD i []) (λ i=>high.getD i []) (ctP ps) (k + 1))).reverse,d,.non):=by
 have z:=sz;obtain ⟨ha,hb,hc,dk,rl⟩:=B;let R:=zql b c;let T:=tabN a b c (λ i=>low.getD i []) (λ i=>high.getD i []) (ctP ps);have hRl:R.length < 1000000:=by have:=rl b (ja4 _);show (zql b c).length < _;omega
 let L (d5 d6:Nat) (s7 s8 s9 s10 s11:QQ.Slot):Rho:=[some (bx a b c,0),some (tb low,0),some (tb high,0),some (.lst (ps.map pr),0),some (.int (a:Int),om),some (.int (b:Int),d5),some (.int (c:Int),d6),s7,s8,s9,s10,s11]
 have v1:sUnp (asgT [4,5,6]) (bVar 0) [0] [some (bx a b c,0),some (tb low,0),some (tb high,0),some (.lst (ps.map pr),0),none,none,none,none,none,none,none,none]=.nx (L om om none none none none none):=rfl;have v2:sSet false 7 bDct [] (L om om none none none none none)=.nx (L om om (some (.dct [],om)) none none none none):=rfl;obtain ⟨ρ3,e3,s8,s7,hs,rfl⟩:=zkd (asg:=asgN 8) (enc:=tupR) (body:=zzp 7 (bVar 8) (bIfE (bT (bBin (opEq false) (zqd zvg (zqa (bVar 8) (aNil))) (bC (.int 0)))) (zqd zqs (zqa (bC (.int 1)) (aNil))) (zqd zqs (aNil)))) (λ pre ρ=>∃ s8 s7,((pre=[]/\s7=some (.dct [],om))\/(pre≠[]/\s7=some (tabV pre zvi,1)))/\ρ=L 0 0 s7 s8 none none none) R [] (L 0 0 (some (.dct [],om)) none none none none) ⟨none,_,.inl ⟨rfl,rfl⟩,rfl⟩ (by
  rintro pre r post _ ep ⟨s8,s7,hs,rfl⟩;rw [je7] at ep;have hrp:r∉pre:=λ z=>by
   have:=zye b c
   rw [show zql b c=pre++r::post from ep,jm2] at this;exact this.2.2 r z r ja2 rfl
  have hpl:pre.length < 1000000:=by
   have:R.length=pre.length + (post.length + 1):=by rw [ep];simp
   omega
  obtain ⟨x4,d4,rfl,hx,hd⟩:∃ x4 d4,s7=some (x4,d4)/\(x4=tabV pre zvi\/(x4=.dct []/\pre=[]))/\d4≠0:=by
   rcases hs with ⟨e1,e2⟩ | ⟨e1,e2⟩
   ·exact ⟨_,_,e2,.inr ⟨rfl,e1⟩,by decide⟩
   ·exact ⟨_,_,e2,.inl rfl,by decide⟩
  let N:Rho:=L 0 0 (some (x4,d4)) (some (tupR r,0)) none none none;have e1:zqd zvg (zqa (bVar 8) (aNil)) N=.ok (.int r.sum,om,N):=by
   refine zxi (xs:=[(tupR r,0)]) rfl ?_;show (match zzj (r.map PV.int) with | some ns=>some (PV.int ns.sum,om) | none=>none)=_;rw [zwy]
  have e2:=t_ok (qbg (neg:=false) (g:=bC (.int 0)) (j:=0) (e:=om) e1 rfl);have e3:bIfE (bT (bBin (opEq false) (zqd zvg (zqa (bVar 8) (aNil))) (bC (.int 0)))) (zqd zqs (zqa (bC (.int 1)) (aNil))) (zqd zqs (aNil)) N=.ok (il (zvi r),om,N):=by
   unfold bIfE;rw [e2];dsimp only [Rz.bind];rw [ji7];unfold zvi;by_cases h0:r.sum=0
   ·rw [decide_eq_true h0,if_pos rfl,if_pos h0];rfl
   ·rw [decide_eq_false h0,if_neg (by simp),if_neg h0];rfl
  exact ⟨N,_,rfl,qau (R:=pre) (h:=zvi) (r:=r) (d:=d4) (e:=0) (x:=x4) e3 rfl hx hd rfl hrp rfl hpl rfl,some (tupR r,0),_,.inr ⟨by simp,rfl⟩,rfl⟩)
 have hs:s7=some (tabV R zvi,1):=by
  rcases hs with ⟨e,_⟩ | ⟨_,e⟩
  ·exact absurd e zjq
  ·exact e
 subst hs;have v3:zji (zqg f_rows_of_heights (zqa (bVar 5) (zqa (bVar 6) (aNil)))) [5,6] (asgN 8) (zzp 7 (bVar 8) (bIfE (bT (bBin (opEq false) (zqd zvg (zqa (bVar 8) (aNil))) (bC (.int 0)))) (zqd zqs (zqa (bC (.int 1)) (aNil))) (zqd zqs (aNil)))) (L om om (some (.dct [],om)) none none none none)=.nx (L 0 0 (some (tabV R zvi,1)) s8 none none none):=qbf (els:=R.map tupR) (d:=0) (zqh (xs:=[(.int (b:Int),om),(.int (c:Int),om)]) rfl (qln (by omega) (by omega) rl)) rfl e3;have v4:sSet false 9 (zqd zqs (aNil)) [] (L 0 0 (some (tabV R zvi,1)) s8 none none none)=.nx (L 0 0 (some (tabV R zvi,1)) s8 (some (.lst [],om)) none none):=rfl;obtain ⟨ρ5,e5,d7,d9,s10,s11,hd9,rfl⟩:=zbu (asg:=asgN 10) (body:=(sSeq (sSet false 11 (zxa (bVar 3) 1 (asgN 12) (bT (bBin (opEq false) (bBin zqc (bVar 12) (bC (.int 0))) (bVar 10))) (bBin zqc (bVar 12) (bC (.int 1)))) [3,3])
 (sSeq (sSet false 7 (zqg f_table_of_row (zqa (zqg f_sums_of_lower_rows (zqa (bVar 7) (zqa (bVar 5) (aNil)))) (zqa (bBin zqc (bVar 1) (bVar 10)) (zqa (bBin zqc (bVar 2) (bVar 10)) (zqa (bVar 11) (aNil)))))) [7,5,1,10,2,10,11])
 (sApp 9 (bVar 7) [7])))) (zma ((a:Int) - 1) a) (λ k ρ=>∃ d7 d9 s10 s11,d9≠0/\ρ=L 0 0 (some (tabV R (T k),d7)) s8 (some (.lst ((ja7 k).map λ t=>tabV R (T (t + 1))),d9)) s10 s11) (L 0 0 (some (tabV R zvi,1)) s8 (some (.lst [],om)) none none) ⟨1,om,none,none,by decide,rfl⟩ (by
  rintro k x _ hx ⟨d7,d9,s10,s11,hd9,rfl⟩;unfold zma at hx;rw [jc1] at hx;have hk:k < a:=by
   cases e:(ja7 a)[k]? with
   | none=>rw [e] at hx;cases hx
   | some t=>have:=(jb2.mp e).1;simpa using this
  rw [jg6 hk] at hx;obtain rfl:PV.int ((a:Int) - 1 - (k:Int))=x:=Option.some.inj hx;let i:=a - 1 - k;have hi:i < a:=by show a - 1 - k < a;omega
  have ei:(a:Int) - 1 - (k:Int)=(i:Int):=by show _=((a - 1 - k:Nat):Int);omega
  rw [ei];let N (d7 d10:Nat) (s11:QQ.Slot):Rho:=L 0 0 (some (tabV R (T k),d7)) s8 (some (.lst ((ja7 k).map λ t=>tabV R (T (t + 1))),d9)) (some (.int (i:Int),d10)) s11;have w1:sSet false 11 (zxa (bVar 3) 1 (asgN 12) (bT (bBin (opEq false) (bBin zqc (bVar 12) (bC (.int 0))) (bVar 10))) (bBin zqc (bVar 12) (bC (.int 1)))) [3,3] (N d7 om s11)=.nx (N d7 om (some (.lst ((ctP ps i).map λ (j:Nat)=>.int (j:Int)),om))):=by
   have cf:=zjx (n:=12) (f:=bVar 3) (enc:=pr) (q:=λ z=>.int (z.2:Int)) (p:=λ z=>decide (z.1=i)) (test:=bT (bBin (opEq false) (bBin zqc (bVar 12) (bC (.int 0))) (bVar 10))) (elt:=bBin zqc (bVar 12) (bC (.int 1))) (ρ:=N d7 om s11) (ρ1:=N d7 om s11) (d:=0) ps rfl rfl (λ z _=>by
    have e1:bBin zqc (bVar 12) (bC (.int 0)) (N d7 om s11++[some (pr z,dv (pr z))])=.ok (.int (z.1:Int),om,N d7 om s11++[some (pr z,dv (pr z))]):=rfl;have e2:=t_ok (qbg (neg:=false) (g:=bVar 10) (j:=(i:Int)) (e:=om) e1 rfl);have e4:decide ((z.1:Int)=(i:Int))=decide (z.1=i):=by
     rw [jd9,decide_eq_true_iff,decide_eq_true_iff];omega
    rw [e2,ji7,e4]) (λ z _ _=>rfl) (by omega)
   have cf':zxa (bVar 3) 1 (asgN 12) (bT (bBin (opEq false) (bBin zqc (bVar 12) (bC (.int 0))) (bVar 10))) (bBin zqc (bVar 12) (bC (.int 1))) (N d7 om s11)=.ok (.lst ((ctP ps i).map λ (j:Nat)=>.int (j:Int)),om,N d7 om s11):=by
    rw [cf];unfold ctP;rw [jd7];rfl
   exact setF cf' (show 11 < 12 by decide) rfl
  let N2:Rho:=N d7 om (some (.lst ((ctP ps i).map λ (j:Nat)=>.int (j:Int)),om));have hkm:1 + k * (m * c)<=1000:=by
   have:k * (m * c)<=a * (m * c):=jh0 _ (by omega)
   omega
  have tl:∀ r∈R,(T k r).length<=1000:=λ r hr=>jc9 (zjn hm (λ i=>qbl hp) k r hr) hkm;have c1:zqg f_sums_of_lower_rows (zqa (bVar 7) (zqa (bVar 5) (aNil))) N2=.ok (tabV R (sumB b c (T k)),1,N2):=zqh (xs:=[(tabV R (T k),0),(.int (b:Int),om)]) rfl (qlc (by omega) dk zjq hRl tl);have gl:low[i]?=some (low.getD i []):=zyj (by rw [hl.1];exact hi);have gh:high[i]?=some (high.getD i []):=zyj (by rw [hh.1];exact hi);have c2:bBin zqc (bVar 1) (bVar 10) N2=.ok (il (low.getD i []),0,N2):=qcr (t:=low) (k:=(i:Int)) (d:=0) (e:=om) rfl rfl (zxr (by omega) (by rw [jc7];exact gl));have c3:bBin zqc (bVar 2) (bVar 10) N2=.ok (il (high.getD i []),0,N2):=qcr (t:=high) (k:=(i:Int)) (d:=0) (e:=om) rfl rfl (zxr (by omega) (by rw [jc7];exact gh));have hcm:(ctP ps i).length * c<=1000:=by
   have e1:(ctP ps i).length * c<=m * c:=jh0 _ (hm i);have e2:1 * (m * c)<=a * (m * c):=jh0 _ (by omega);omega
  have hcl:(ctP ps i).length<=1000:=by
   unfold ctP;rw [ja3];exact jc9 (jg3 _ _) hpl
  have rt:=zhb (b:=b) (c:=c) (lo:=low.getD i []) (hi:=high.getD i []) (ct:=ctP ps i) (g:=sumB b c (T k)) (Tab.row hl hi) (Tab.row hh hi) (by omega) (qbl hp) ⟨hcm,hcl,by omega⟩ zjq hRl (λ r hr=>zvz λ q hq=>tl q (jd4.mp hq).1);have w2:sSet false 7 (zqg f_table_of_row (zqa (zqg f_sums_of_lower_rows (zqa (bVar 7) (zqa (bVar 5) (aNil)))) (zqa (bBin zqc (bVar 1) (bVar 10)) (zqa (bBin zqc (bVar 2) (bVar 10)) (zqa (bVar 11) (aNil)))))) [7,5,1,10,2,10,11] N2=.nx (L 0 0 (some (tabV R (T (k + 1)),1)) s8 (some (.lst ((ja7 k).map λ t=>tabV R (T (t + 1))),d9)) (some (.int (i:Int),0)) (some (.lst ((ctP ps i).map λ (j:Nat)=>.int (j:Int)),0))):=
   setF (x:=tabV R (T (k + 1))) (d:=1) (zqh (xs:=[(tabV R (sumB b c (T k)),1),(il (low.getD i []),0),(il (high.getD i []),0),(.lst ((ctP ps i).map λ (j:Nat)=>.int (j:Int)),0)]) (zqk c1 (zqk c2 (zqk c3 (zqp rfl)))) rt) (show 7 < 12 by decide) rfl
  have w3:sApp 9 (bVar 7) [7] (L 0 0 (some (tabV R (T (k + 1)),1)) s8 (some (.lst ((ja7 k).map λ t=>tabV R (T (t + 1))),d9)) (some (.int (i:Int),0)) (some (.lst ((ctP ps i).map λ (j:Nat)=>.int (j:Int)),0)))=.nx (L 0 0 (some (tabV R (T (k + 1)),0)) s8 (some (.lst ((ja7 (k + 1)).map λ t=>tabV R (T (t + 1))),1)) (some (.int (i:Int),0)) (some (.lst ((ctP ps i).map λ (j:Nat)=>.int (j:Int)),0))):=by
   obtain ⟨e,rfl⟩:∃ e,d9=e + 1:=⟨d9 - 1,by omega⟩
   refine zmv (xs0:=(ja7 k).map λ t=>tabV R (T (t + 1))) (xs:=(ja7 k).map λ t=>tabV R (T (t + 1))) (d0:=e) (d:=e + 1) (y:=tabV R (T (k + 1))) (e:=0) rfl rfl rfl (by omega) (by rw [ja3,je8];omega) ?_;rw [if_neg (λ h=>absurd h.2 (by decide)),jg2,je4];rfl
  exact ⟨N d7 om s11,_,rfl,(zqi w1).trans ((zqi w2).trans w3),0,1,some (.int (i:Int),0),some (.lst ((ctP ps i).map λ (j:Nat)=>.int (j:Int)),0),by decide,rfl⟩)
 have hdl:(zma ((a:Int) - 1) a).length=a:=by unfold zma;rw [ja3,je8]
 rw [hdl] at e5;have v5:zbj (zqa (bBin zzd (bVar 4) (bC (.int 1))) (zqa (bUn zjj (bC (.int 1))) (zqa (bUn zjj (bC (.int 1))) (aNil)))) (asgN 10) (sSeq (sSet false 11 (zxa (bVar 3) 1 (asgN 12) (bT (bBin (opEq false) (bBin zqc (bVar 12) (bC (.int 0))) (bVar 10))) (bBin zqc (bVar 12) (bC (.int 1)))) [3,3])
 (sSeq (sSet false 7 (zqg f_table_of_row (zqa (zqg f_sums_of_lower_rows (zqa (bVar 7) (zqa (bVar 5) (aNil)))) (zqa (bBin zqc (bVar 1) (bVar 10)) (zqa (bBin zqc (bVar 2) (bVar 10)) (zqa (bVar 11) (aNil)))))) [7,5,1,10,2,10,11])
 (sApp 9 (bVar 7) [7]))) (L 0 0 (some (tabV R zvi,1)) s8 (some (.lst [],om)) none none)=.nx (L 0 0 (some (tabV R (T a),d7)) s8 (some (.lst ((ja7 a).map λ t=>tabV R (T (t + 1))),d9)) s10 s11):=by
  have en:qdw [(.int ((a:Int) - 1),om),(.int (-1),om),(.int (-1),om)]=some ((a:Int) - 1,a):=by
   rw [qjd (by omega) (by omega) (by omega) (by omega),show ((a:Int) - 1 - -1).toNat=a by omega]
  exact qja (as:=[(.int ((a:Int) - 1),om),(.int (-1),om),(.int (-1),om)]) rfl en e5
 exact ⟨_,zwg rfl ((zqi v1).trans ((zqi v2).trans ((zqi v3).trans ((zqi v4).trans ((zqi v5).trans (zxz (qnq (x:=.lst ((ja7 a).map λ t=>tabV R (T (t + 1)))) (d:=0) rfl rfl)))))))⟩
theorem zja {f:List Int->List Int}:∀ (l:List (List Int)) (acc:List Int),l.foldl (λ s r=>addL s (f r)) acc=addL acc (sumT f l)
 | [],acc=>(zyr acc).symm
 | r::l,acc=>by rw [jq1,zja l,zzo,zzu]
def zbc (a b c:Nat) (low high:List (List Int)) (ps:List (Nat×Nat)):List Int:=sumT (tabN a b c (λ i=>low.getD i []) (λ i=>high.getD i []) (ctP ps) a) (zql b c)
theorem qhu {a b c:Nat} (B:BoxT a b c) {low high:List (List Int)} (hl:Tab a b low) (hh:Tab a b high) {ps:List (Nat×Nat)} (hp:∀ z∈ps,z.2 < b) {m:Nat} (hm:∀ i,(ctP ps i).length<=m) (hmc:1 + a * (m * c)<=1000) (hpl:ps.length<=1000):
  f_tally_between [bx a b c,tb low,tb high,.lst (ps.map pr)]=.ok (il (zbc a b c low high ps),om,.non):=by
 have z:=sz;obtain ⟨dt,ht⟩:=zgo B hl hh hp hm hmc hpl;let R:=zql b c;let T:=tabN a b c (λ i=>low.getD i []) (λ i=>high.getD i []) (ctP ps);let L (s4 s5:QQ.Slot):Rho:=[some (bx a b c,0),some (tb low,0),some (tb high,0),some (.lst (ps.map pr),0),s4,s5]
 have v1:sSet false 4 (zqd zqs (aNil)) [] (L none none)=.nx (L (some (il [],om)) none):=rfl;have tl:∀ r∈R,(T a r).length<=1000:=λ r hr=>jc9 (zjn hm (λ i=>qbl hp) a r hr) hmc;obtain ⟨ρ',e2,s5,rfl⟩:=zkd (asg:=asgN 5) (enc:=λ r=>il (T a r)) (body:=sSet false 4 (zqg f_added (zqa (bVar 4) (zqa (bVar 5) (aNil)))) [4,5]) (λ pre ρ=>∃ s5,ρ=L (some (il (pre.foldl (λ s r=>addL s (T a r)) []),om)) s5) R [] (L (some (il [],om)) none) ⟨none,rfl⟩ (by
  rintro pre r post _ ep ⟨s5,rfl⟩;rw [je7] at ep;have hr:r∈R:=by rw [ep];exact ja5 _ ja2
  have hpre:(pre.foldl (λ s r=>addL s (T a r)) []).length<=1000:=by
   rw [zja];exact zvz λ q hq=>tl q (by rw [ep];exact ja8 _ hq)
  refine ⟨L (some (il (pre.foldl (λ s r=>addL s (T a r)) []),om)) (some (il (T a r),0)),_,rfl,setF (x:=il (addL (pre.foldl (λ s r=>addL s (T a r)) []) (T a r))) (d:=om) (zqh (xs:=[(il (pre.foldl (λ s r=>addL s (T a r)) []),0),(il (T a r),0)]) rfl (qda hpre (tl r hr))) (show 4 < 6 by decide) rfl,some (il (T a r),0),?_⟩;rw [List.foldl_append]
  rfl)
 have hidx:bBin zqc (zqg f_tables_between (zqa (bVar 0) (zqa (bVar 1) (zqa (bVar 2) (zqa (bVar 3) (aNil)))))) (bC (.int 0)) (L (some (il [],om)) none)=.ok (tabV R (T a),0,L (some (il [],om)) none):=by
  refine zqz (zqh (xs:=[(bx a b c,0),(tb low,0),(tb high,0),(.lst (ps.map pr),0)]) rfl ht) (y:=.int 0) (e:=om) rfl ?_;show (atI _ 0).map _=_;rw [zxr (x:=tabV R (T a)) (by decide) ?_]
  ·rfl
  ·obtain ⟨k,rfl⟩:∃ k,a=k + 1:=⟨a - 1,by have:=B.ha;omega⟩
   show (List.reverse _)[0]?=_;rw [jg2,je4,List.reverse_append];rfl
 have v2:=qm4 (asg:=asgN 5) (body:=sSet false 4 (zqg f_added (zqa (bVar 4) (zqa (bVar 5) (aNil)))) [4,5]) (vs:=[0,1,2,3]) (ρ2:=L (some (il [],om)) none) hidx rfl e2;have he:([]++R).foldl (λ s r=>addL s (T a r)) []=zbc a b c low high ps:=by
  rw [je7,zja];rfl
 rw [he] at v2;exact zwg rfl ((zqi v1).trans ((zqi v2).trans rfl))
def sumI {α:Type} (f:α->Int) (l:List α):Int:=(l.map f).sum
theorem zqv {α:Type}{f:α->Int}{x:α}{l:List α}:sumI f (x::l)=f x + sumI f l:=rfl
theorem zjo {α:Type}{f:α->Int}:∀ (l m:List α),sumI f (l++m)=sumI f l + sumI f m
 | [],m=>by simp [sumI]
 | x::l,m=>by rw [jf9,zqv,zqv,zjo l m];omega
theorem zxv {α:Type}{f g:α->Int}:∀ {l:List α},(∀ x∈l,f x=g x)->sumI f l=sumI g l
 | [],_=>rfl
 | x::l,h=>by rw [zqv,zqv,h x ja2,zxv λ y hy=>h y (ja1 _ hy)]
theorem zgt {α β:Type}{f:β->Int}{h:α->List β}:∀ (l:List α),sumI f (l.flatMap h)=sumI (λ x=>sumI f (h x)) l
 | []=>rfl
 | x::l=>by rw [jh4,zjo,zgt l,zqv]
theorem qh6 {α β:Type}{f:β->Int}{h:α->β}{l:List α}:sumI f (l.map h)=sumI (λ x=>f (h x)) l:=by
 unfold sumI;rw [jd7];rfl
theorem qb0 {α:Type}:∀ (l:List α),sumI (λ _=>1) l=(l.length:Int)
 | []=>rfl
 | x::l=>by rw [zqv,qb0 l,jb1];omega
theorem zks {α:Type}{f:α->Int}{p q:α->Bool}:∀ (l:List α),sumI (λ x=>if q x=true then f x else 0) (l.filter p)=sumI f (l.filter λ x=>p x && q x)
 | []=>rfl
 | x::l=>by
  have ih:=zks (f:=f) (p:=p) (q:=q) l;rw [je3,je3];cases hp:p x with
  | false=>simpa using ih
  | true=>
   cases hq:q x with
   | false=>simp only [if_true,jk2,je9,if_false,zqv,hq,ih];omega
   | true=>simp only [if_true,jj4,zqv,hq,ih]
theorem zzv {α:Type}{f:α->Int}:∀ {l:List α},(∀ x∈l,0<=f x)->0<=sumI f l
 | [],_=>jf7 _
 | x::l,h=>by
  have h1:=h x ja2;have h2:=zzv (f:=f) (l:=l) λ y hy=>h y (ja1 _ hy);rw [zqv];omega
theorem zya {f:List Int->List Int}:∀ (l:List (List Int)),(sumT f l).sum=sumI (λ r=>(f r).sum) l
 | []=>rfl
 | r::l=>by rw [zzo,qdb,zya l,zqv]
def wayN (a b:Nat) (c:Int) (lo hi:Nat->List Int) (k:Nat) (r:List Int):Int:=(tabN a b c lo hi (λ _=>[]) k r).sum
def zfw (a b:Nat) (c:Int) (lo hi:Nat->List Int) (k:Nat) (ah:Nat->Int):Int:=sumI (wayN a b c lo hi k) ((zql b c).filter λ q=>(ja7 b).all λ i=>decide (q.getD i 0<=ah i))
theorem zvm:∀ (n:Nat) (l:List Int),(ja6 n (0:Int)++l).sum=l.sum
 | 0,l=>rfl
 | n + 1,l=>by rw [je5,jf9,jm3,zvm n l];omega
theorem qbt {a b:Nat}{c:Int}{lo hi:Nat->List Int}{k:Nat}{r:List Int}:wayN a b c lo hi (k + 1) r=if betw b (lo (a - 1 - k)) r (hi (a - 1 - k))=true then zfw a b c lo hi k (λ i=>r.getD i 0) else 0:=by
 show (zpv b _ _ _ _ r).sum=_;unfold zpv;split
 ·rw [zvm];exact zya _
 ·rfl
theorem zvj:∀ {r:List Int},(∀ j,j < r.length->0<=r.getD j 0)->r.sum=0->r=ja6 r.length 0
 | [],_,_=>rfl
 | x::r,h,e=>by
  have h0:=h 0 (by simp);have hr:∀ j,j < r.length->0<=r.getD j 0:=λ j hj=>by simpa using h (j + 1) (by simpa using hj)
  have hs:∀ (r:List Int),(∀ j,j < r.length->0<=r.getD j 0)->0<=r.sum:=by
   intro r;induction r with
   | nil=>intro _;simp
   | cons y r ih=>
    intro h
    have:=h 0 (by simp)
    have:=ih λ j hj=>by simpa using h (j + 1) (by simpa using hj)
    simp at *;omega
  have h1:=hs r hr;rw [jm3] at e;simp at h0;have ex:x=0:=by omega
  have er:r.sum=0:=by omega
  rw [jb1,je5,<- zvj hr er,ex]
theorem qg7 {a b:Nat}{c:Int}{lo hi:Nat->List Int}{ah:Nat->Int} (hc:0<=c) (h:∀ i,i < b->0<=ah i):zfw a b c lo hi 0 ah=1:=by
 let z:=ja6 b (0:Int);have zg:∀ j,z.getD j 0=0:=λ j=>by
  show (ja6 b (0:Int)).getD j 0=0;rw [ja0,jd3];split <;> rfl
 have zm:z∈zql b c:=zxf.mpr ⟨jd5,λ j _=>by rw [zg];omega,λ j _=>by rw [zg];exact hc,λ j _=>by rw [zg,zg];omega⟩;unfold zfw;have e1:sumI (wayN a b c lo hi 0) ((zql b c).filter λ q=>(ja7 b).all λ i=>decide (q.getD i 0<=ah i))=sumI (λ r=>if decide (r=z)=true then (1:Int) else 0) ((zql b c).filter λ q=>(ja7 b).all λ i=>decide (q.getD i 0<=ah i)):=by
  refine zxv λ r hr=>?_;have hr:=zxf.mp (jd4.mp hr).1;show (zvi r).sum=_;unfold zvi;by_cases e:r=z
  ·have hz:r.sum=0:=by
    have:=zvm b []
    rw [jh9] at this;rw [e];exact this
   rw [if_pos hz,if_pos (decide_eq_true e)];rfl
  ·have hz:¬ r.sum=0:=λ h0=>e (by
    have:=zvj (λ j hj=>hr.lo j (by rw [<- hr.len];exact hj)) h0
    rw [this,hr.len])
   rw [if_neg hz,if_neg (by simpa using e)];rfl
 rw [e1,zks];have nd:=zye b c;have key:∀ {l:List (List Int)},l.Nodup->z∈l->sumI (λ _=>(1:Int)) (l.filter λ x=>((ja7 b).all λ i=>decide (x.getD i 0<=ah i)) && decide (x=z))=1:=by
  intro l;induction l with
  | nil=>intro _ h;cases h
  | cons x l ih=>
   intro nd hm;rw [ji0] at nd;rw [je3];by_cases e:x=z
   ·have hz:((ja7 b).all λ i=>decide (x.getD i 0<=ah i))=true:=by
     rw [jb5];intro i hi;rw [decide_eq_true_iff,e,zg];exact h i (jc6.mp hi)
    rw [hz,decide_eq_true e,if_pos (show (true && true)=true from rfl),zqv]
    have:l.filter (λ y=>((ja7 b).all λ i=>decide (y.getD i 0<=ah i)) && decide (y=z))=[]:=by
     rw [jj8];intro y hy e';rw [ja9,decide_eq_true_iff] at e';exact nd.1 (by rw [e,<- e'.2];exact hy)
    rw [this];rfl
   ·rw [decide_eq_false e,jk2,if_neg (by simp)];exact ih nd.2 ((jc0.mp hm).resolve_left λ e'=>e e'.symm)
 exact key nd zm
theorem qd7 {hi ah c:Int} (h:min hi ah<=c) (row:List Int):topR (min hi ah) c row=topR hi ah row:=by
 unfold topR;cases row.getLast? with
 | none=>simp only;omega
 | some m=>simp only;omega
theorem zgz {lo hi ah:Nat->Int}{c:Int}:∀ (n:Nat),(∀ i,i < n->min (hi i) (ah i)<=c)->zxx lo (λ i=>min (hi i) (ah i)) (λ _=>c) n=zxx lo hi ah n
 | 0,_=>rfl
 | n + 1,h=>by
  rw [zxx,zxx,zgz n λ i hi=>h i (by omega)];congr 1;funext row;rw [qd7 (h n (by omega))]
theorem zgy {b:Nat}{c:Int}{lo hi:List Int}{ah:Nat->Int} (h0:∀ i,i < b->0<=lo.getD i 0) (hc:∀ i,i < b->hi.getD i 0<=c):((zql b c).filter λ q=>((ja7 b).all λ i=>decide (q.getD i 0<=ah i)) && betw b lo q hi)=zxx (λ i=>lo.getD i 0) (λ i=>hi.getD i 0) ah b:=by
 have e1:zxx (λ i=>lo.getD i 0) (λ i=>hi.getD i 0) ah b=zxx (λ i=>if i < b then lo.getD i 0 else 0) (λ i=>if i < b then min (hi.getD i 0) (ah i) else 0 - (0 - c) ) (λ _=>c) b:=by
  rw [<- zgz (c:=c) b λ i hi=>by have:=hc i hi;omega];exact zkt b λ j hj=>⟨by rw [if_pos hj],by rw [if_pos hj],rfl⟩
 rw [e1];have e2:=zvl (lo':=λ _=>0) (hi':=λ _=>c) (ah:=λ _=>c) (lo:=λ i=>if i < b then lo.getD i 0 else 0) (hi:=λ i=>if i < b then min (hi.getD i 0) (ah i) else 0 - (0 - c)) (λ i=>by
  show 0<=if i < b then lo.getD i 0 else 0
  split
  ·rename_i h;exact h0 i h
  ·omega) (λ i=>by
  show (if i < b then min (hi.getD i 0) (ah i) else 0 - (0 - c))<=c;split
  ·rename_i h;have:=hc i h;omega
  ·omega) b
 rw [<- e2];unfold zql;apply jh3;intro q _;rw [jd9,ja9];unfold betw zkj inR;simp only [jb5,jc6,ja9,decide_eq_true_iff];constructor
 ·rintro ⟨h1,h2⟩ i hi;have a1:=h1 i hi;have a2:=h2 i hi;rw [if_pos hi,if_pos hi];omega
 ·intro h;refine ⟨λ i hi=>?_,λ i hi=>?_⟩
  ·have:=h i hi
   rw [if_pos hi,if_pos hi] at this;omega
  ·have:=h i hi
   rw [if_pos hi,if_pos hi] at this;omega
section
variable {a b:Nat}{c:Int}{low high:List (List Int)}
theorem qg8 (h0:∀ i j,i < a->j < b->0<=g low i j) (hc:∀ i j,i < a->j < b->g high i j<=c) {k:Nat} (hk:k < a) {ah:Nat->Int}:zfw a b c (λ i=>low.getD i []) (λ i=>high.getD i []) (k + 1) ah=sumI (λ r=>zfw a b c (λ i=>low.getD i []) (λ i=>high.getD i []) k (λ i=>r.getD i 0)) (zxx (g low (a - 1 - k)) (g high (a - 1 - k)) ah b):=by
 have e:=zgy (b:=b) (c:=c) (lo:=low.getD (a - 1 - k) []) (hi:=high.getD (a - 1 - k) []) (ah:=ah) (λ i hi=>h0 _ i (by omega) hi) (λ i hi=>hc _ i (by omega) hi);show sumI _ _=sumI _ (zxx (λ i=>(low.getD (a - 1 - k) []).getD i 0) (λ i=>(high.getD (a - 1 - k) []).getD i 0) ah b);rw [<- e,<- zks];refine zxv λ r _=>?_;exact qbt
theorem qc0 (hcc:0<=c) (h0:∀ i j,i < a->j < b->0<=g low i j) (hc:∀ i j,i < a->j < b->g high i j<=c):∀ (k:Nat),k<=a->sumI (λ p=>zfw a b c (λ i=>low.getD i []) (λ i=>high.getD i []) k (zpt c p)) (zxg (g low) (g high) c b (a - k))=((zxg (g low) (g high) c b a).length:Int)
 | 0,_=>by
  rw [jp7,<- qb0];refine zxv λ p hp=>qg7 hcc λ i hi=>?_;unfold zpt;cases a with
  | zero=>
   simp only [zxg,jb4] at hp;subst hp;exact hcc
  | succ n=>
   have:=zka hp
   rw [qp4 this.1.1];exact jf2 (h0 n i (by omega) hi) (this.2.1 n i (by omega) hi).1
 | k + 1,hk=>by
  have ih:=qc0 hcc h0 hc k (by omega);rw [<- ih,show a - k=(a - (k + 1)) + 1 by omega,zxg,zgt];refine zxv λ p hp=>?_;rw [qg8 h0 hc (by omega),qh6,show a - 1 - k=a - (k + 1) by omega];refine zxv λ r _=>?_;congr 1;unfold zpt;rw [List.getLast?_concat]
theorem zbb (hcc:0<=c) (h0:∀ i j,i < a->j < b->0<=g low i j) (hc:∀ i j,i < a->j < b->g high i j<=c):(sumT (tabN a b c (λ i=>low.getD i []) (λ i=>high.getD i []) (λ _=>[]) a) (zql b c)).sum=((zxg (g low) (g high) c b a).length:Int):=by
 rw [zya,<- qc0 hcc h0 hc a (ja4 _),jp6];show _=sumI _ [[]];rw [zqv];show sumI (wayN a b c _ _ a) (zql b c)=zfw a b c _ _ a (λ _=>c) + 0;unfold zfw;rw [jg1.mpr λ r hr=>?_]
 ·omega
 ·rw [jb5];intro i hi;rw [decide_eq_true_iff];exact (zxf.mp hr).hi i (jc6.mp hi)
end
end QV
namespace QV
open PySem PySem.Spec PyProof.Rows L2 QQ
def Xf_how_many_between:Fs:=(sSeq (zzm (zqg f_must_be_two_piles (zqa (bVar 0) (zqa (bVar 1) (zqa (bVar 2) (aNil))))))
 (sRet (zqd zvg (zqa (zqg f_tally_between (zqa (bVar 0) (zqa (bVar 1) (zqa (bVar 2) (zqa (zqd zqs (aNil)) (aNil)))))) (aNil)))))
def f_how_many_between:Fn:=mkFn false 3 0 Xf_how_many_between
def Xf_rows_behind:Fs:=(sRet (zjf 0 1 (asgN 2) (bT (zqd zvh (zqa (zxd zqu (zqa (zqd zws (zqa (bVar 2) (aNil))) (aNil)) 1 (asgN 3) zxk (bBin (zxo λ i j=>decide (i<=j)) (bBin zqc (bVar 2) (bVar 3)) (bBin zqc (bVar 1) (bVar 3)))) (aNil)))) (bVar 2)))
def f_rows_behind:Fn:=mkFn false 2 0 Xf_rows_behind
def Xf_how_many_ahead_of:Fs:=(sRet (zqd zvg (zqa (zxa (zqg f_rows_behind (zqa (bVar 1) (zqa (bVar 2) (aNil)))) 1 (asgN 3) (bT (bBin opLt (bVar 3) (bVar 0))) (zqd zvg (zqa (bBin zqc (bVar 1) (bVar 3)) (aNil)))) (aNil))))
def f_how_many_ahead_of:Fn:=mkFn false 3 0 Xf_how_many_ahead_of
def Xf_number_between:Fs:=(sSeq (zzm (zqg f_must_be_two_piles (zqa (bVar 0) (zqa (bVar 1) (zqa (bVar 2) (aNil))))))
 (sSeq (zzm (zqg f_must_be_pile (zqa (bVar 0) (zqa (bVar 3) (aNil)))))
 (sSeq (sIf (bT (bOrV (bUn zwo (zqg f_lies_below (zqa (bVar 0) (zqa (bVar 1) (zqa (bVar 3) (aNil)))))) (bUn zwo (zqg f_lies_below (zqa (bVar 0) (zqa (bVar 3) (zqa (bVar 2) (aNil)))))))) sNo sNil)
 (sSeq (sSet false 4 (bC (.int 0)) [])
 (sSeq (sSet false 5 (bBin zxw (zqd zqs (zqa (bBin zqc (bVar 0) (bC (.int 2))) (aNil))) (bBin zqc (bVar 0) (bC (.int 1)))) [0,0])
 (sSeq (qaq .zp (zqa (zqg f_tables_between (zqa (bVar 0) (zqa (bVar 1) (zqa (bVar 2) (zqa (zqd zqs (aNil)) (aNil)))))) (zqa (bVar 3) (aNil))) [0,1,2,3] (asgT [6,7]) (sSeq (sAug (λ i j=>i + j) true 4 (zqg f_how_many_ahead_of (zqa (zqd zmj (zqa (bVar 7) (aNil))) (zqa (bVar 6) (zqa (bVar 5) (aNil))))))
 (sSet false 5 (bVar 7) [7])))
 (zjh 4)))))))
def f_number_between:Fn:=mkFn false 4 4 Xf_number_between
section
variable {a b c:Nat}{t u l:List (List Int)}
theorem qd3 (p:Pile a b c t) (q:Pile a b c u) (ha:1<=a/\a<=30) (hb:1<=b/\b<=30) (hc:1<=c/\c<=1000):f_must_be_two_piles [bx a b c,tb t,tb u]=.ok (.non,om,.non):=
 qjw (zwq p.tab (by omega) (by omega) (by omega) ((zvp p.tab).mpr p)) (zwq q.tab (by omega) (by omega) (by omega) ((zvp q.tab).mpr q))
end
theorem zfa {α:Type}{f:α->Int}{m:Int} (hm:0<=m):∀ {l:List α},(∀ x∈l,f x<=m)->sumI f l<=l.length * m
 | [],_=>by simp [sumI]
 | x::l,h=>by
  have h1:=h x ja2;have h2:=zfa hm (l:=l) λ y hy=>h y (ja1 _ hy);rw [zqv,jb1,jq4,jr9];omega
theorem zpy {α:Type}{p:α->Bool}{l:List α}{m:Int} (hm:0<=m):((l.filter p).length:Int) * m<=(l.length:Int) * m:=Int.mul_le_mul_of_nonneg_right (by have:=jg3 p l;omega) hm
theorem zgi {a b:Nat}{c:Int}{lo hi:Nat->List Int}:∀ (k:Nat) (r:List Int),0<=wayN a b c lo hi k r/\wayN a b c lo hi k r<=(((zql b c).length ^ k:Nat):Int)
 | 0,r=>by
  show 0<=(zvi r).sum/\(zvi r).sum<=_;unfold zvi;split <;> simp
 | k + 1,r=>by
  rw [qbt];have ih:=zgi (a:=a) (b:=b) (c:=c) (lo:=lo) (hi:=hi) k;split
  ·unfold zfw;refine ⟨zzv λ q _=>(ih q).1,jf2 (zfa (m:=(((zql b c).length ^ k:Nat):Int)) (by omega) λ q _=>(ih q).2) ?_⟩;rw [jn4,jn0,jj5];exact zpy (by omega)
  ·omega
theorem zgr {l:List Int} (h1:l.length<=1) (h2:0<=l.sum/\l.sum<=2 ^ 40):zyb l=true:=by
 unfold zyb;rw [ja9,decide_eq_true_iff,jb5];refine ⟨by omega,λ x hx=>?_⟩
 match l,h1,h2,hx with
 | [y],_,h2,hx=>
  rw [jb4.mp hx];simp at h2;rw [ja9,decide_eq_true_iff,decide_eq_true_iff];omega
structure BoxN (a b c:Nat):Prop where
 box:BoxT a b c
 hc:1<=c
 bd:(zql b c).length ^ (a + 1)<=2 ^ 40
 ab:a<=30/\b<=30
section
variable {a b c:Nat}{low high:List (List Int)}
def TN (a b c:Nat) (low high:List (List Int)) (k:Nat) (r:List Int):List Int:=tabN a b c (λ i=>low.getD i []) (λ i=>high.getD i []) (λ _=>[]) k r
theorem qkt (k:Nat) {r:List Int} (hr:r∈zql b c):(TN a b c low high k r).length<=1:=by
 have:=zjn (a:=a) (b:=b) (c:=c) (lo:=λ i=>low.getD i []) (hi:=λ i=>high.getD i []) (ct:=λ _=>[]) (m:=0) (λ _=>ja4 _) (λ _ j hj=>by cases hj) k r hr
 rw [Nat.zero_mul,Nat.mul_zero] at this;exact this
theorem qpa (N:BoxN a b c) {k:Nat} (hk:k<=a + 1):((zql b c).length ^ k:Nat)<=2 ^ 40:=by
 have h1:1<=(zql b c).length:=by
  have:=zjq (b:=b) (c:=c)
  cases e:zql b c with
  | nil=>exact absurd e this
  | cons x l=>simp
 exact jc9 (jg4 h1 hk) N.bd
theorem qqv (N:BoxN a b c) {k:Nat} (hk:k<=a) (r:List Int):0<=(TN a b c low high k r).sum/\(TN a b c low high k r).sum<=2 ^ 40:=by
 have h1:=zgi (a:=a) (b:=b) (c:=c) (lo:=λ i=>low.getD i []) (hi:=λ i=>high.getD i []) k r;have h2:(((zql b c).length ^ k:Nat):Int)<=((2 ^ 40:Nat):Int):=by exact_mod_cast qpa N (by omega)
 exact ⟨h1.1,jf2 h1.2 (by simpa using h2)⟩
theorem zjr (N:BoxN a b c) (p:Pile a b c low) (q:Pile a b c high):f_must_be_two_piles [bx a b c,tb low,tb high]=.ok (.non,om,.non):=by
 have h1:=N.box.ha;have h2:=N.box.hb;have h3:=N.box.hc;have h4:=N.hc;have h5:=N.ab;exact qd3 p q (by omega) (by omega) (by omega)
theorem qjk (N:BoxN a b c) (p:Pile a b c low) (q:Pile a b c high):f_how_many_between [bx a b c,tb low,tb high]=.ok (.int ((zxg (g low) (g high) c b a).length:Int),om,.non):=by
 have t:=qhu N.box p.tab q.tab (ps:=[]) (λ z hz=>by cases hz) (m:=0) (λ i=>ja4 _) (by omega) (by simp);have e:(zbc a b c low high []).sum=((zxg (g low) (g high) c b a).length:Int):=zbb (by omega) p.lo q.hi;have hl:(zbc a b c low high []).length<=1:=zvz λ r hr=>qkt a hr;have hs:(zbc a b c low high []).sum<=2 ^ 40:=by
  unfold zbc;rw [zya];have h1:=zfa (f:=wayN a b c (λ i=>low.getD i []) (λ i=>high.getD i []) a) (m:=(((zql b c).length ^ a:Nat):Int)) (by omega) (l:=zql b c) λ r _=>(zgi a r).2;have h2:(((zql b c).length ^ (a + 1):Nat):Int)<=((2 ^ 40:Nat):Int):=by exact_mod_cast N.bd
  rw [jn4,jn0,jj5] at h2;exact jf2 h1 (jf2 h2 (by decide))
 have so:zyb (zbc a b c low high [])=true:=zgr hl ⟨by rw [e];omega,hs⟩;rw [<- e];have v1:zzm (zqg f_must_be_two_piles (zqa (bVar 0) (zqa (bVar 1) (zqa (bVar 2) (aNil))))) [some (bx a b c,0),some (tb low,0),some (tb high,0)]=.nx [some (bx a b c,0),some (tb low,0),some (tb high,0)]:=zvb (zqh (xs:=[(bx a b c,0),(tb low,0),(tb high,0)]) rfl (zjr N p q));exact zwg rfl ((zqi v1).trans (zxz (zgq (zqp (zqh (xs:=[(bx a b c,0),(tb low,0),(tb high,0),(.lst [],om)]) rfl t)) so)))
def zkz (b:Nat) (ah:Nat->Int) (q:List Int):Bool:=(ja7 b).all λ i=>decide (q.getD i 0<=ah i)
structure Ahd (b:Nat) (x:PV) (ah:Nat->Int):Prop where
 idx:∀ j,j < b->∀ d e,zqc x d (.int (j:Int)) e=some (.int (ah j),om)
 dv:dv x=0
theorem qqu {r:List Int} (h:r.length=b):Ahd b (il r) λ i=>r.getD i 0:=⟨λ j hj d e=>by
 show (atI (r.map PV.int) (j:Int)).map _=_;rw [zxr (x:=PV.int (r.getD j 0)) (by omega) (by rw [jc7,jc1,zwc (by omega)];rfl)]
 rfl,rfl⟩
theorem qhm {R:List (List Int)}{h:List Int->List Int}{x:PV}{ah:Nat->Int} (A:Ahd b x ah) (hR:∀ q∈R,q.length=b) (hl:R.length<=500000) (hb:b<=1000):∃ d,f_rows_behind [tabV R h,x]=.ok (.lst ((R.filter (zkz b ah)).map tupR),d,.non):=by
 have z:=sz;let W:Rho:=[some (tabV R h,0),some (x,0)]
 have test:∀ q∈R,bT (zqd zvh (zqa (zxd zqu (zqa (zqd zws (zqa (bVar 2) (aNil))) (aNil)) 1 (asgN 3) zxk (bBin (zxo λ i j=>decide (i<=j)) (bBin zqc (bVar 2) (bVar 3)) (bBin zqc (bVar 1) (bVar 3)))) (aNil))) (W++[some (tupR q,dv (tupR q))])=.ok (zkz b ah q,W++[some (tupR q,dv (tupR q))]):=λ q hq=>by
  let V:Rho:=W++[some (tupR q,dv (tupR q))];have e0:zqd zws (zqa (bVar 2) (aNil)) V=.ok (.int (b:Int),om,V):=by
   refine zxi (xs:=[(tupR q,0)]) rfl ?_;show some (PV.int ((q.map PV.int).length:Nat),om)=_;rw [ja3,hR q hq]
  have e1:=zzk (n:=3) (en:=zqu) (fa:=zqa (zqd zws (zqa (bVar 2) (aNil))) aNil) (elt:=bBin (zxo λ i j=>decide (i<=j)) (bBin zqc (bVar 2) (bVar 3)) (bBin zqc (bVar 1) (bVar 3))) (q:=λ j=>.bl (decide (q.getD j 0<=ah j))) (ρ:=V) (ρ1:=V) (as:=[(.int (b:Int),om)]) (lo:=0) (hi:=(b:Int)) (zqp e0) (zxu (by omega) (by omega)) rfl (λ k hk=>by
   have hkb:k < b:=by omega
   rw [jf1];refine zzr (p:=λ i j=>decide (i<=j)) (zpd (xs:=q) (k:=(k:Int)) (d:=0) (e:=om) rfl rfl (zxr (by omega) (by rw [jc7];exact zwc (by rw [hR q hq];exact hkb)))) (d:=om) (e:=om) (zqz (x:=x) (d:=dv x) (y:=.int (k:Int)) (e:=om) rfl rfl (A.idx k hkb _ _))) (by omega)
  rw [show ((b:Int) - 0).toNat=b by omega] at e1;exact t_ok (all_ok (xs:=ja7 b) (g:=λ j=>decide (q.getD j 0<=ah j)) e1)
 have cl:=zzc (n:=2) (enc:=tupR) (q:=tupR) (e:=λ _=>0) (p:=zkz b ah) (elt:=bVar 2) R W [] rfl test (λ q _ _=>rfl) (by rw [jh1];omega);rw [je7] at cl;have e:zjf 0 1 (asgN 2) (bT (zqd zvh (zqa (zxd zqu (zqa (zqd zws (zqa (bVar 2) (aNil))) (aNil)) 1 (asgN 3) zxk (bBin (zxo λ i j=>decide (i<=j)) (bBin zqc (bVar 2) (bVar 3)) (bBin zqc (bVar 1) (bVar 3)))) (aNil)))) (bVar 2) W=.ok (.lst ((R.filter (zkz b ah)).map tupR),if zzf ((R.filter (zkz b ah)).map λ q=>(tupR q,0)) then om else 1,W):=by
  show (zwm 1 (asgN 2) _ (bVar 2) ((R.map keyR).map tupK) W []).bindN _=_;rw [jd7,show (tupK ∘ keyR)=tupR from funext qbw,cl];show zze _ W=_;unfold zze;rw [jd7];rfl
 have hx:dv x=0:=A.dv;refine ⟨if zzf ((R.filter (zkz b ah)).map λ q=>(tupR q,0)) then om else 1,zwg (ρ':=W) rfl ?_⟩;show sRet _ [some (tabV R h,0),some (x,dv x)]=_;rw [hx];exact zxz e
def qp2 (R:List (List Int)) (h:List Int->List Int) (b:Nat) (ah:Nat->Int) (row:List Int):Int:=sumI (λ q=>(h q).sum) ((R.filter (zkz b ah)).filter λ q=>HT.lexLt q row)
theorem qmn {R:List (List Int)}{h:List Int->List Int}{x:PV}{ah:Nat->Int}{row:List Int} (A:Ahd b x ah) (hR:∀ q∈R,q.length=b) (hl:R.length<=500000) (hb:b<=1000) (hs:∀ q∈R,(h q).length<=1/\0<=(h q).sum/\(h q).sum<=2 ^ 40):f_how_many_ahead_of [tupR row,tabV R h,x]=.ok (.int (qp2 R h b ah row),om,.non):=by
 have z:=sz;obtain ⟨d,eb⟩:=qhm (h:=h) A hR hl hb;have hx:dv x=0:=A.dv;let W:Rho:=[some (tupR row,0),some (tabV R h,0),some (x,dv x)]
 have c1:zqg f_rows_behind (zqa (bVar 1) (zqa (bVar 2) (aNil))) W=.ok (.lst ((R.filter (zkz b ah)).map tupR),d,W):=zqh (xs:=[(tabV R h,0),(x,dv x)]) rfl eb;have cf:=zjx (n:=3) (f:=zqg f_rows_behind (zqa (bVar 1) (zqa (bVar 2) (aNil)))) (enc:=tupR) (q:=λ q=>.int (h q).sum) (p:=λ q=>HT.lexLt q row) (test:=bT (bBin opLt (bVar 3) (bVar 0))) (elt:=zqd zvg (zqa (bBin zqc (bVar 1) (bVar 3)) (aNil))) (ρ:=W) (ρ1:=W) (R.filter (zkz b ah)) c1 rfl (λ q hq=>by
  refine t_ok (d:=om) (zqz (x:=tupR q) (y:=tupR row) (d:=0) (e:=0) rfl rfl ?_);show (match zzj (q.map PV.int),zzj (row.map PV.int) with | some a,some b=>some (PV.bl (HT.lexLt a b),om) | _,_=>none)=_;rw [zwy,zwy]) (λ q hq _=>by
  have hq':=(jd4.mp hq).1;exact zgq (zqp (zfp (f:=bVar 1) (g:=bVar 3) (R:=R) (h:=h) (r:=q) (d:=0) (e:=0) rfl rfl hq')) (zgr (hs q hq').1 (hs q hq').2)) (by
  have:=jg3 (zkz b ah) R
  omega)
 let L:=(R.filter (zkz b ah)).filter λ q=>HT.lexLt q row;have e2:(L.map λ q=>PV.int (h q).sum)=(L.map λ q=>(h q).sum).map PV.int:=by rw [jd7];rfl
 have so:zyb (L.map λ q=>(h q).sum)=true:=by
  unfold zyb;rw [ja9,decide_eq_true_iff,jb5];have l1:=jg3 (λ q=>HT.lexLt q row) (R.filter (zkz b ah));have l2:=jg3 (zkz b ah) R;refine ⟨?_,λ y hy=>?_⟩
  ·rw [ja3]
   have:(500000:Nat)<=2 ^ 20:=by decide
   show L.length<=_;have l1':L.length<=(R.filter (zkz b ah)).length:=l1;omega
  ·obtain ⟨q,hq,rfl⟩:=jd2.mp hy;have hq':=(jd4.mp (jd4.mp hq).1).1
   have:=(hs q hq').2
   rw [ja9,decide_eq_true_iff,decide_eq_true_iff];omega
 have e3:zxa (zqg f_rows_behind (zqa (bVar 1) (zqa (bVar 2) (aNil)))) 1 (asgN 3) (bT (bBin opLt (bVar 3) (bVar 0))) (zqd zvg (zqa (bBin zqc (bVar 1) (bVar 3)) (aNil))) W=.ok (il (L.map λ q=>(h q).sum),om,W):=by
  rw [cf];show Rz.ok (PV.lst (L.map λ q=>PV.int (h q).sum),om,W)=_;rw [e2];rfl
 exact zwg (ρ':=W) rfl (zxz (zgq (zqp e3) so))
end
theorem augI {g:Int->Int->Int}{sd:Bool}{i:Nat}{f:Fx}{ρ ρ1 ρ2:Rho}{a b:Int}{d e:Nat} (h0:ρ[i]?=some (some (.int a,d))) (h:f ρ=.ok (.int b,e,ρ1)) (hi:i < ρ1.length) (e2:ρ1.set i (some (.int (g a b),om))=ρ2):sAug g sd i f ρ=.nx ρ2:=by
 unfold sAug;rw [h0];dsimp only;rw [h];dsimp only;rw [if_pos hi,e2]
theorem zgh {α:Type}{f h:α->PV}:∀ l:List α,zipL (l.map f) (l.map h)=l.map λ x=>.tup [f x,h x]
 | []=>rfl
 | x::l=>by rw [jc2,jc2,zipL,zgh l,jc2]
theorem qew {α:Type} (F:Nat->α) (a:Nat):((ja7 a).map F).reverse=(ja7 a).map λ j=>F (a - 1 - j):=by
 apply jm7 (by simp);intro i h1 h2;simp
theorem qdh {t:List (List Int)}:t.map il=(ja7 t.length).map λ j=>il (t.getD j []):=by
 apply jm7 (by simp);intro i h1 h2;simp at h1;simp [ja0,h1]
section
variable {a b c:Nat}{low high pile:List (List Int)}
def ahL (b c:Nat) (pile:List (List Int)):Nat->List Int
 | 0=>ja6 b (c:Int)
 | i + 1=>pile.getD i []
def numI (a b c:Nat) (low high pile:List (List Int)) (i:Nat):Int:=qp2 (zql b c) (TN a b c low high (a - i)) b (λ j=>(ahL b c pile i).getD j 0) (pile.getD i [])
def numB (a b c:Nat) (low high pile:List (List Int)):Int:=sumI (numI a b c low high pile) (ja7 a)
theorem qa0 (i:Nat):0<=numI a b c low high pile i:=zzv λ q _=>(zgi (a:=a) (b:=b) (c:=c) (lo:=λ i=>low.getD i []) (hi:=λ i=>high.getD i []) (a - i) q).1
theorem qa1:0<=numB a b c low high pile:=zzv λ i _=>qa0 i
theorem qfp (N:BoxN a b c) (p:Pile a b c low) (q:Pile a b c high) (r:Pile a b c pile) (h1:leT a b low pile=true) (h2:leT a b pile high=true):f_number_between [bx a b c,tb low,tb high,tb pile]=.ok (.int (numB a b c low high pile),om,.non):=by
 have z:=sz;have ha:=N.box.ha;have hb:=N.box.hb;have hc:=N.box.hc;have hab:=N.ab;have hc1:=N.hc;let L (s4 s5 s6 s7:QQ.Slot):Rho:=[some (bx a b c,0),some (tb low,0),some (tb high,0),some (tb pile,0),s4,s5,s6,s7]
 let W0:Rho:=L none none none none;have v1:zzm (zqg f_must_be_two_piles (zqa (bVar 0) (zqa (bVar 1) (zqa (bVar 2) (aNil))))) W0=.nx W0:=zvb (zqh (xs:=[(bx a b c,0),(tb low,0),(tb high,0)]) rfl (zjr N p q));have mp:f_must_be_pile [bx a b c,tb pile]=.ok (.non,om,.non):=zwq r.tab (by omega) (by omega) (by omega) ((zvp r.tab).mpr r);have v2:zzm (zqg f_must_be_pile (zqa (bVar 0) (zqa (bVar 3) (aNil)))) W0=.nx W0:=zvb (zqh (xs:=[(bx a b c,0),(tb pile,0)]) rfl mp);have l1:=qa8 p.tab r.tab (by omega) (by omega) (zjr N p r);have l2:=qa8 r.tab q.tab (by omega) (by omega) (zjr N r q);rw [h1] at l1;rw [h2] at l2;have t3:bT (bOrV (bUn zwo (zqg f_lies_below (zqa (bVar 0) (zqa (bVar 1) (zqa (bVar 3) (aNil)))))) (bUn zwo (zqg f_lies_below (zqa (bVar 0) (zqa (bVar 3) (zqa (bVar 2) (aNil))))))) W0=.ok (false,W0):=t_ok (qdk (a:=false) (b:=false) (zko (b:=true) (d:=om) (zqh (xs:=[(bx a b c,0),(tb low,0),(tb pile,0)]) rfl l1)) (λ _=>zko (b:=true) (d:=om) (zqh (xs:=[(bx a b c,0),(tb pile,0),(tb high,0)]) rfl l2)) rfl);have v4:sSet false 4 (bC (.int 0)) [] W0=.nx (L (some (.int 0,om)) none none none):=rfl;have v5:sSet false 5 (bBin zxw (zqd zqs (zqa (bBin zqc (bVar 0) (bC (.int 2))) (aNil))) (bBin zqc (bVar 0) (bC (.int 1)))) [0,0] (L (some (.int 0,om)) none none none)=.nx (L (some (.int 0,om)) (some (il (ja6 b (c:Int)),om)) none none):=setF (qoy (v:=(c:Int)) (n:=b) (d:=om) (e:=om) rfl rfl (by omega)) (show 5 < 8 by decide) rfl;obtain ⟨dt,ht⟩:=zgo N.box p.tab q.tab (ps:=[]) (λ z hz=>by cases hz) (m:=0) (λ i=>ja4 _) (by omega) (by simp);have et:(List.map (λ k=>tabV (zql b c) (tabN a b c (λ i=>low.getD i []) (λ i=>high.getD i []) (ctP []) (k + 1))) (ja7 a)).reverse=(ja7 a).map λ j=>tabV (zql b c) (TN a b c low high (a - j)):=by
  rw [qew];apply jh5;intro j hj
  have:=jc6.mp hj
  show tabV _ (TN a b c low high (a - 1 - j + 1))=_;rw [show a - 1 - j + 1=a - j by omega]
 rw [et] at ht;have er:pile.map il=(ja7 a).map λ j=>il (pile.getD j []):=by rw [qdh,r.tab.1]
 let els:List PV:=(ja7 a).map λ j=>.tup [tabV (zql b c) (TN a b c low high (a - j)),il (pile.getD j [])];have hz:zipL ((ja7 a).map λ j=>tabV (zql b c) (TN a b c low high (a - j))) (pile.map il)=els:=by rw [er,zgh]
 have hR:∀ x∈zql b c,x.length=b:=λ x hx=>(zxf.mp hx).len;obtain ⟨ρ',e6,d5,s6,s7,rfl⟩:=qcu (v:=.zp) (fa:=zqa (zqg f_tables_between (zqa (bVar 0) (zqa (bVar 1) (zqa (bVar 2) (zqa (zqd zqs (aNil)) (aNil)))))) (zqa (bVar 3) (aNil))) (vs:=[0,1,2,3]) (asg:=asgT [6,7]) (body:=(sSeq (sAug (λ i j=>i + j) true 4 (zqg f_how_many_ahead_of (zqa (zqd zmj (zqa (bVar 7) (aNil))) (zqa (bVar 6) (zqa (bVar 5) (aNil))))))
 (sSet false 5 (bVar 7) [7]))) (ρ:=L (some (.int 0,om)) (some (il (ja6 b (c:Int)),om)) none none) (ρ1:=L (some (.int 0,om)) (some (il (ja6 b (c:Int)),om)) none none) (ρ2:=L (some (.int 0,om)) (some (il (ja6 b (c:Int)),om)) none none) (xs:=[(.lst ((ja7 a).map λ j=>tabV (zql b c) (TN a b c low high (a - j))),dt),(tb pile,0)]) (els:=els)
  (λ j ρ=>∃ d5 s6 s7,ρ=L (some (.int (sumI (numI a b c low high pile) (ja7 j)),om)) (some (il (ahL b c pile j),d5)) s6 s7) (zqk (zqh (xs:=[(bx a b c,0),(tb low,0),(tb high,0),(.lst [],om)]) rfl ht) (zqp rfl)) (by show some (zipL _ (pile.map il))=_;rw [hz]) (by
   have hal:zzf [((PV.lst ((ja7 a).map λ j=>tabV (zql b c) (TN a b c low high (a - j)))),dt),(tb pile,0)]=false:=by
    unfold zzf;rw [show zzf [(tb pile,0)]=false from rfl,jk2]
   rw [hal];rfl) ⟨om,none,none,rfl⟩ (by
  rintro j x _ hx ⟨d5,s6,s7,rfl⟩;have hj:j < a:=by
   have:=(jb2.mp hx).1
   simpa [els] using this
  have ex:x=.tup [tabV (zql b c) (TN a b c low high (a - j)),il (pile.getD j [])]:=by
   have:els[j]?=some (.tup [tabV (zql b c) (TN a b c low high (a - j)),il (pile.getD j [])]):=by
    show ((ja7 a).map _)[j]?=_;rw [jc1,jg6 hj];rfl
   rw [this] at hx;exact (Option.some.inj hx).symm
  subst ex;let n:=sumI (numI a b c low high pile) (ja7 j);let V:Rho:=L (some (.int n,om)) (some (il (ahL b c pile j),d5)) (some (tabV (zql b c) (TN a b c low high (a - j)),0)) (some (il (pile.getD j []),0));have hal:(ahL b c pile j).length=b:=by
   cases j with
   | zero=>exact jd5
   | succ i=>exact Tab.row r.tab (by omega)
  have cl:zqg f_how_many_ahead_of (zqa (zqd zmj (zqa (bVar 7) (aNil))) (zqa (bVar 6) (zqa (bVar 5) (aNil)))) V=.ok (.int (numI a b c low high pile j),om,V):=zqh (xs:=[(tupR (pile.getD j []),0),(tabV (zql b c) (TN a b c low high (a - j)),0),(il (ahL b c pile j),0)]) (zqk (zxi (xs:=[(il (pile.getD j []),0)]) rfl rfl) rfl) (qmn (qqu hal) hR (N.box.rl b (ja4 _)) (by omega) (λ y hy=>⟨qkt _ hy,qqv N (by omega) y⟩));refine ⟨V,_,rfl,(zqi (augI (a:=n) (d:=om) rfl cl (show 4 < 8 by decide) rfl)).trans (setF (x:=il (pile.getD j [])) (d:=0) rfl (show 5 < 8 by decide) rfl),0,some (tabV (zql b c) (TN a b c low high (a - j)),0),some (il (pile.getD j []),0),?_⟩;rw [jg2,zjo];show L (some (.int (n + numI a b c low high pile j),om)) _ _ _=L (some (.int (n + (numI a b c low high pile j + 0)),om)) _ _ _;rw [jr5]
  rfl)
 have hel:els.length=a:=by simp [els]
 rw [hel] at e6;exact zwg rfl ((zqi v1).trans ((zqi v2).trans ((zyu t3).trans ((zqi v4).trans ((zqi v5).trans ((zqi e6).trans rfl))))))
end
def Xf_is_place:Fs:=(sSeq (sIf (bT (bOrV (bUn zwo (zqg f_is_whole_number (zqa (bVar 1) (aNil)))) (bUn zwo (zqg f_is_whole_number (zqa (bVar 2) (aNil)))))) (sRet (bC (.bl false))) sNil)
 (sRet (zzs (zzl (λ i j=>decide (i<=j)) (λ i j=>decide (i < j)) (bC (.int 0)) (bVar 1) (bBin zqc (bVar 0) (bC (.int 0)))) (zzl (λ i j=>decide (i<=j)) (λ i j=>decide (i < j)) (bC (.int 0)) (bVar 2) (bBin zqc (bVar 0) (bC (.int 1)))))))
def f_is_place:Fn:=mkFn false 3 0 Xf_is_place
def Xf_must_be_told_heights:Fs:=(sSeq (sIf (bT (bUn zwo (zqd zvh (zqa (zxa (bVar 1) 3 (asgT [2,3,4]) zxk (zqg f_is_place (zqa (bVar 0) (zqa (bVar 2) (zqa (bVar 3) (aNil)))))) (aNil))))) sNo sNil)
 (sIf (bT (bUn zwo (zqd zvh (zqa (zxa (bVar 1) 3 (asgT [2,3,4]) zxk (zzs (zqg f_is_whole_number (zqa (bVar 4) (aNil))) (zzl (λ i j=>decide (i<=j)) (λ i j=>decide (i<=j)) (bC (.int 0)) (bVar 4) (bBin zqc (bVar 0) (bC (.int 2)))))) (aNil))))) sNo sNil))
def f_must_be_told_heights:Fn:=mkFn false 2 0 Xf_must_be_told_heights
def Xf_least_height:Fs:=(sRet (zqd (zje gtI) (zqa (zxa (bVar 0) 1 (asgN 3) (bT (zzs (bBin (zxo λ i j=>decide (j<=i)) (bBin zqc (bVar 3) (bC (.int 0))) (bVar 1)) (bBin (zxo λ i j=>decide (j<=i)) (bBin zqc (bVar 3) (bC (.int 1))) (bVar 2)))) (bBin zqc (bVar 3) (bC (.int 2)))) (zqa (bC (.int 0)) aNil))))
def f_least_height:Fn:=mkFn false 3 0 Xf_least_height
def Xf_greatest_height:Fs:=(sRet (zqd (zje ltI) (zqa (zxa (bVar 0) 1 (asgN 4) (bT (zzs (bBin (zxo λ i j=>decide (i<=j)) (bBin zqc (bVar 4) (bC (.int 0))) (bVar 1)) (bBin (zxo λ i j=>decide (i<=j)) (bBin zqc (bVar 4) (bC (.int 1))) (bVar 2)))) (bBin zqc (bVar 4) (bC (.int 2)))) (zqa (bVar 3) aNil))))
def f_greatest_height:Fn:=mkFn false 4 0 Xf_greatest_height
def Xf_bounds_with:Fs:=(sSeq (zzm (zqg f_must_be_box (zqa (bVar 0) (aNil))))
 (sSeq (zzm (zqg f_must_be_told_heights (zqa (bVar 0) (zqa (bVar 1) (aNil)))))
 (sSeq (sSet false 2 (zqd zqs (aNil)) [])
 (sSeq (sSet false 3 (zqd zqs (aNil)) [])
 (sSeq (zvk zqu (zqa (bBin zqc (bVar 0) (bC (.int 0))) (aNil)) (asgN 4) (sSeq (sApp 2 (zxd zqu (zqa (bBin zqc (bVar 0) (bC (.int 1))) (aNil)) 1 (asgN 5) zxk (zqg f_least_height (zqa (bVar 1) (zqa (bVar 4) (zqa (bVar 5) (aNil)))))) [1,4])
 (sApp 3 (zxd zqu (zqa (bBin zqc (bVar 0) (bC (.int 1))) (aNil)) 1 (asgN 5) zxk (zqg f_greatest_height (zqa (bVar 1) (zqa (bVar 4) (zqa (bVar 5) (zqa (bBin zqc (bVar 0) (bC (.int 2))) (aNil))))))) [1,4,0])))
 (sSeq (sIf (bT (bUn zwo (zqg f_lies_below (zqa (bVar 0) (zqa (bVar 2) (zqa (bVar 3) (aNil))))))) (sRet (bC .non)) sNil)
 (sRet (zqd zxy (zqa (bVar 2) (zqa (bVar 3) (aNil)))))))))))
def f_bounds_with:Fn:=mkFn false 2 3 Xf_bounds_with
def Xd_mixed:Fs:=(sSeq (sIf (bT (bBin (zxo λ i j=>decide (j<=i)) (bVar 0) (bBin qfl (bC (.int 10)) (bC (.int 18))))) (zjh 0) sNil)
 (sSeq (sSet false 2 (bBin zxj (bBin zqj (bBin zqj (bBin zqj (bBin zxw (bVar 0) (bC (.int 48271))) (bBin zxw (bBin zxw (bC (.int 7919)) (bVar 1)) (bVar 1))) (bBin zxw (bC (.int 104729)) (bVar 1))) (bC (.int 29))) (bC (.int 2147483647))) [0,1,1,1])
 (sSeq (sSet false 2 (bBin zxj (bBin zxw (bVar 2) (bVar 2)) (bC (.int 2147483629))) [2,2])
 (sRet (bBin zqj (bBin zqj (bBin zxw (bBin zxw (bVar 2) (bVar 2)) (bVar 2)) (bBin zxw (bC (.int 1000003)) (bVar 2))) (bVar 1))))))
def d_mixed:Fn:=mkFn false 2 1 Xd_mixed
def Xd_box:Fs:=(sRet (zqd zxy (zqa (bBin zqj (bC (.int 1)) (bBin zxj (bVar 0) (bVar 1))) (zqa (bBin zqj (bC (.int 1)) (bBin zxj (bBin zxm (bVar 0) (bVar 1)) (bVar 2))) (zqa (bBin zqj (bC (.int 1)) (bBin zxj (bBin zxm (bVar 0) (bBin zxw (bVar 1) (bVar 2))) (bVar 3))) (aNil))))))
def d_box:Fn:=mkFn false 4 0 Xd_box
def Xd_pile:Fs:=(sSeq (sUnp (asgT [2,3,4]) (bVar 0) [0])
 (sSeq (sSet false 5 (zqd zqs (aNil)) [])
 (sSeq (zvk zqu (zqa (bVar 2) (aNil)) (asgN 6) (sSeq (sSet false 7 (zqd zqs (aNil)) [])
 (sSeq (zvk zqu (zqa (bVar 3) (aNil)) (asgN 8) (sSeq (sSet false 9 (bVar 4) [4])
 (sSeq (sIf (bT (bBin (zxo λ i j=>decide (j < i)) (bVar 6) (bC (.int 0)))) (sSet false 9 (bBin zqc (bBin zqc (bVar 5) (bBin zzd (bVar 6) (bC (.int 1)))) (bVar 8)) [5,6,8]) sNil)
 (sSeq (sIf (bT (bBin (zxo λ i j=>decide (j < i)) (bVar 8) (bC (.int 0)))) (sSet false 9 (zqd zhi (zqa (bVar 9) (zqa (bBin zqc (bVar 7) (bBin zzd (bVar 8) (bC (.int 1)))) (aNil)))) [9,7,8]) sNil)
 (sSeq (sApp 7 (bBin zzd (bVar 9) (zqd zhi (zqa (bVar 9) (zqa (bBin zqc (zqd zqs (zqa (bC (.int 0)) (zqa (bC (.int 1)) (zqa (bC (.int 0)) (zqa (bC (.int 2)) (zqa (bBin zxj (bVar 1) (bBin zqj (bVar 4) (bC (.int 1)))) (aNil))))))) (bBin zxj (bBin zxm (bVar 1) (bC (.int 9))) (bC (.int 5)))) (aNil))))) [9,9,1,4,1])
 (sSet false 1 (bBin zqj (bBin zxm (bVar 1) (bC (.int 45))) (bBin zxj (bBin zxw (bC (.int 13)) (bVar 1)) (bC (.int 1009)))) [1,1]))))))
 (sApp 5 (bVar 7) [7]))))
 (zjh 5))))
def d_pile:Fn:=mkFn false 2 8 Xd_pile
open QQ
theorem qc6:∀ (l:List Int) (n:Int),(n<=zvw gtI n l/\∀ x∈l,x<=zvw gtI n l)/\(zvw gtI n l=n\/zvw gtI n l∈l)
 | [],n=>⟨⟨jf7 _,λ _ h=>nomatch h⟩,.inl rfl⟩
 | m::l,n=>by
  have e:zvw gtI n (m::l)=zvw gtI (if gtI m n=true then m else n) l:=rfl;rw [e];obtain ⟨⟨h1,h2⟩,h3⟩:=qc6 l (if gtI m n=true then m else n);have hm:n<=(if gtI m n=true then m else n)/\m<=(if gtI m n=true then m else n):=by
   unfold gtI;split
   ·rename_i h;have:=of_decide_eq_true h;omega
   ·rename_i h;have:=of_decide_eq_false (jk1.mpr h);omega
  refine ⟨⟨by omega,λ x hx=>?_⟩,?_⟩
  ·rcases jc0.mp hx with rfl | hx
   ·omega
   ·exact h2 x hx
  ·rcases h3 with h3 | h3
   ·rw [h3];split
    ·exact .inr ja2
    ·exact .inl rfl
   ·exact .inr (ja1 _ h3)
theorem qc5:∀ (l:List Int) (n:Int),(zvw ltI n l<=n/\∀ x∈l,zvw ltI n l<=x)/\(zvw ltI n l=n\/zvw ltI n l∈l)
 | [],n=>⟨⟨jf7 _,λ _ h=>nomatch h⟩,.inl rfl⟩
 | m::l,n=>by
  have e:zvw ltI n (m::l)=zvw ltI (if ltI m n=true then m else n) l:=rfl;rw [e];obtain ⟨⟨h1,h2⟩,h3⟩:=qc5 l (if ltI m n=true then m else n);have hm:(if ltI m n=true then m else n)<=n/\(if ltI m n=true then m else n)<=m:=by
   unfold ltI;split
   ·rename_i h;have:=of_decide_eq_true h;omega
   ·rename_i h;have:=of_decide_eq_false (jk1.mpr h);omega
  refine ⟨⟨by omega,λ x hx=>?_⟩,?_⟩
  ·rcases jc0.mp hx with rfl | hx
   ·omega
   ·exact h2 x hx
  ·rcases h3 with h3 | h3
   ·rw [h3];split
    ·exact .inr ja2
    ·exact .inl rfl
   ·exact .inr (ja1 _ h3)
theorem qc4 (l:List Int) (d:Int):(∀ x∈l,x<=(zky gtI l).getD d)/\((zky gtI l).getD d=d\/(zky gtI l).getD d∈l):=by
 cases l with
 | nil=>exact ⟨λ _ h=>(nomatch h),.inl rfl⟩
 | cons n l=>
  obtain ⟨⟨h1,h2⟩,h3⟩:=qc6 l n;refine ⟨λ x hx=>?_,.inr ?_⟩
  ·rcases jc0.mp hx with rfl | hx
   ·exact h1
   ·exact h2 x hx
  ·show zvw gtI n l∈_;rcases h3 with h3 | h3
   ·rw [h3];exact ja2
   ·exact ja1 _ h3
theorem qc3 (l:List Int) (d:Int):(∀ x∈l,(zky ltI l).getD d<=x)/\((zky ltI l).getD d=d\/(zky ltI l).getD d∈l):=by
 cases l with
 | nil=>exact ⟨λ _ h=>(nomatch h),.inl rfl⟩
 | cons n l=>
  obtain ⟨⟨h1,h2⟩,h3⟩:=qc5 l n;refine ⟨λ x hx=>?_,.inr ?_⟩
  ·rcases jc0.mp hx with rfl | hx
   ·exact h1
   ·exact h2 x hx
  ·show zvw ltI n l∈_;rcases h3 with h3 | h3
   ·rw [h3];exact ja2
   ·exact ja1 _ h3
def pLo (i j:Int) (x:C3):Bool:=decide (i<=(x.1:Int)) && decide (j<=(x.2.1:Int))
def pHi (i j:Int) (x:C3):Bool:=decide ((x.1:Int)<=i) && decide ((x.2.1:Int)<=j)
def hgt (x:C3):Int:=(x.2.2:Int)
def loF (hs:List C3) (i j:Nat):Int:=(zky gtI ((hs.filter (pLo i j)).map hgt)).getD 0
def hiF (c:Int) (hs:List C3) (i j:Nat):Int:=(zky ltI ((hs.filter (pHi i j)).map hgt)).getD c
section
variable {hs:List C3}{a b c:Nat}
theorem qff {i j:Nat}{x:C3}:pLo i j x=true↔i<=x.1/\j<=x.2.1:=by
 unfold pLo;rw [ja9,decide_eq_true_iff,decide_eq_true_iff];omega
theorem qfg {i j:Nat}{x:C3}:pHi i j x=true↔x.1<=i/\x.2.1<=j:=by
 unfold pHi;rw [ja9,decide_eq_true_iff,decide_eq_true_iff];omega
theorem qf5 {i j:Nat}{x:C3} (hx:x∈hs) (h1:i<=x.1) (h2:j<=x.2.1):hgt x<=loF hs i j:=(qc4 _ 0).1 _ (jd2.mpr ⟨x,jd4.mpr ⟨hx,qff.mpr ⟨h1,h2⟩⟩,rfl⟩)
theorem qis (hs:List C3) (i j:Nat):loF hs i j=0\/∃ x∈hs,i<=x.1/\j<=x.2.1/\loF hs i j=hgt x:=by
 rcases (qc4 ((hs.filter (pLo i j)).map hgt) 0).2 with h | h
 ·exact .inl h
 ·obtain ⟨x,hx,e⟩:=jd2.mp h;obtain ⟨h1,h2⟩:=jd4.mp hx;obtain ⟨h3,h4⟩:=qff.mp h2;exact .inr ⟨x,h1,h3,h4,e.symm⟩
theorem qgm {i j:Nat}{x:C3} (hx:x∈hs) (h1:x.1<=i) (h2:x.2.1<=j):hiF c hs i j<=hgt x:=(qc3 _ (c:Int)).1 _ (jd2.mpr ⟨x,jd4.mpr ⟨hx,qfg.mpr ⟨h1,h2⟩⟩,rfl⟩)
theorem qi4 (c:Int) (hs:List C3) (i j:Nat):hiF c hs i j=c\/∃ x∈hs,x.1<=i/\x.2.1<=j/\hiF c hs i j=hgt x:=by
 rcases (qc3 ((hs.filter (pHi i j)).map hgt) c).2 with h | h
 ·exact .inl h
 ·obtain ⟨x,hx,e⟩:=jd2.mp h;obtain ⟨h1,h2⟩:=jd4.mp hx;obtain ⟨h3,h4⟩:=qfg.mp h2;exact .inr ⟨x,h1,h3,h4,e.symm⟩
def Told (a b c:Nat) (hs:List C3):Prop:=∀ x∈hs,x.1 < a/\x.2.1 < b/\x.2.2<=c
theorem lo_0 (i j:Nat):0<=loF hs i j:=by
 rcases qis hs i j with h | ⟨x,_,_,_,h⟩
 ·rw [h];omega
 ·rw [h];unfold hgt;omega
theorem lo_c (T:Told a b c hs) (i j:Nat):loF hs i j<=c:=by
 rcases qis hs i j with h | ⟨x,hx,_,_,h⟩
 ·rw [h];omega
 ·rw [h];have:=T x hx;unfold hgt;omega
theorem hi_0 (i j:Nat):0<=hiF c hs i j:=by
 rcases qi4 c hs i j with h | ⟨x,_,_,_,h⟩
 ·rw [h];omega
 ·rw [h];unfold hgt;omega
theorem hi_c (T:Told a b c hs) (i j:Nat):hiF c hs i j<=c:=by
 rcases qi4 c hs i j with h | ⟨x,hx,_,_,h⟩
 ·rw [h];omega
 ·rw [h];have:=T x hx;unfold hgt;omega
theorem qf6 {i j i' j':Nat} (h1:i<=i') (h2:j<=j'):loF hs i' j'<=loF hs i j:=by
 rcases qis hs i' j' with h | ⟨x,hx,k1,k2,h⟩
 ·rw [h];exact lo_0 i j
 ·rw [h];exact qf5 hx (by omega) (by omega)
theorem qgn (T:Told a b c hs) {i j i' j':Nat} (h1:i<=i') (h2:j<=j'):hiF c hs i' j'<=hiF c hs i j:=by
 rcases qi4 c hs i j with h | ⟨x,hx,k1,k2,h⟩
 ·rw [h];exact hi_c T i' j'
 ·rw [h];exact qgm hx (by omega) (by omega)
theorem zfm (T:Told a b c hs):Pile a b c (mkT a b (loF hs)):=⟨qa2,λ i j hi hj=>by rw [zqx hi hj];exact lo_0 i j,λ i j hi hj=>by rw [zqx hi hj];exact lo_c T i j,λ i j hi hj=>by rw [zqx hi hj,zqx (by omega) hj];exact qf6 (by omega) (by omega),λ i j hi hj=>by rw [zqx hi hj,zqx hi (by omega)];exact qf6 (by omega) (by omega)⟩
theorem zfq (T:Told a b c hs):Pile a b c (mkT a b (hiF c hs)):=⟨qa2,λ i j hi hj=>by rw [zqx hi hj];exact hi_0 i j,λ i j hi hj=>by rw [zqx hi hj];exact hi_c T i j,λ i j hi hj=>by rw [zqx hi hj,zqx (by omega) hj];exact qgn T (by omega) (by omega),λ i j hi hj=>by rw [zqx hi hj,zqx hi (by omega)];exact qgn T (by omega) (by omega)⟩
theorem Pile.anti {c:Int}{p:List (List Int)} (h:Pile a b c p):∀ {i j i' j':Nat},i<=i'->j<=j'->i' < a->j' < b->g p i' j'<=g p i j:=by
 intro i j i' j' h1 h2 h3 h4;have e1:∀ k,i + k < a->∀ j,j < b->g p (i + k) j<=g p i j:=by
  intro k;induction k with
  | zero=>intro _ j _;exact jf7 _
  | succ k ih=>intro hk j hj;exact jf2 (h.dn (i + k) j hk hj) (ih (by omega) j hj)
 have e2:∀ k,j + k < b->g p i (j + k)<=g p i j:=by
  intro k;induction k with
  | zero=>intro _;exact jf7 _
  | succ k ih=>intro hk;exact jf2 (h.rt i (j + k) (by omega) hk) (ih (by omega))
 have k1:=e1 (i' - i) (by omega) j' h4;have k2:=e2 (j' - j) (by omega);rw [show i + (i' - i)=i' by omega] at k1;rw [show j + (j' - j)=j' by omega] at k2;omega
def hasT (hs:List C3) (p:List (List Int)):Bool:=hs.all λ x=>decide (g p x.1 x.2.1=hgt x)
theorem zmk {lo hi:Nat->Nat->Int}{p:List (List Int)}:zkn lo hi b a p=true↔∀ i j,i < a->j < b->lo i j<=g p i j/\g p i j<=hi i j:=by
 unfold zkn zkj inR;simp only [jb5,jc6,ja9,decide_eq_true_iff];exact ⟨λ h i j hi hj=>h i hi j hj,λ h i hi j hj=>h i j hi hj⟩
theorem qgo (T:Told a b c hs) {p:List (List Int)} (hp:Pile a b c p):hasT hs p=zkn (loF hs) (hiF c hs) b a p:=by
 rw [jd9,zmk];unfold hasT;simp only [jb5,decide_eq_true_iff];constructor
 ·intro h i j hi hj;constructor
  ·rcases qis hs i j with e | ⟨x,hx,k1,k2,e⟩
   ·rw [e];exact hp.lo i j hi hj
   ·rw [e,<- h x hx]
    have:=T x hx
    exact hp.anti k1 k2 this.1 this.2.1
  ·rcases qi4 c hs i j with e | ⟨x,hx,k1,k2,e⟩
   ·rw [e];exact hp.hi i j hi hj
   ·rw [e,<- h x hx];exact hp.anti k1 k2 hi hj
 ·intro h x hx;obtain ⟨t1,t2,_⟩:=T x hx;have k:=h x.1 x.2.1 t1 t2;have k1:=qf5 (hs:=hs) hx (ja4 _) (ja4 _);have k2:=qgm (hs:=hs) (c:=c) hx (ja4 _) (ja4 _);omega
def zF:Nat->Nat->Int:=λ _ _=>0
def cF (c:Nat):Nat->Nat->Int:=λ _ _=>(c:Int)
theorem qel (T:Told a b c hs):(zxg zF (cF c) c b a).filter (hasT hs)=zxg (loF hs) (hiF c hs) c b a:=by
 rw [<- zyg (lo:=loF hs) (hi:=hiF c hs) (lo':=zF) (hi':=cF c) (λ i j=>lo_0 i j) (λ i j=>hi_c T i j) a];exact jh3 λ p hp=>qgo T (zbm (λ _ _=>jf7 _) hp)
theorem qf9 {lo hi:Nat->Nat->Int}:leT a b (mkT a b lo) (mkT a b hi)=true↔∀ i j,i < a->j < b->lo i j<=hi i j:=by
 unfold leT;rw [jb5];constructor
 ·intro h i j hi hj
  have:=of_decide_eq_true (h (i,j) (zxs.mpr ⟨hi,hj⟩))
  rwa [zqx hi hj,zqx hi hj] at this
 ·intro h z hz;obtain ⟨h1,h2⟩:=zxs.mp hz;refine decide_eq_true ?_;rw [zqx h1 h2,zqx h1 h2];exact h z.1 z.2 h1 h2
theorem qh7 (h:leT a b (mkT a b (loF hs)) (mkT a b (hiF c hs))=false):zxg (loF hs) (hiF c hs) c b a=[]:=by
 cases e:zxg (loF hs) (hiF c hs) c b a with
 | nil=>rfl
 | cons p t=>
  have hp:p∈zxg (loF hs) (hiF c hs) c b a:=by rw [e];exact ja2
  obtain ⟨_,h1,_⟩:=zka hp;rw [(qf9 (a:=a) (b:=b) (lo:=loF hs) (hi:=hiF c hs)).mpr λ i j hi hj=>jf2 (h1 i j hi hj).1 (h1 i j hi hj).2.1] at h;cases h
end
theorem zfl (c:Int) (k:Nat) (hk:k<=1000):∃ l:Int,d_mixed [.int c,.int k]=.ok (.int l,om,.non):=by
 let R (s:QQ.Slot):Rho:=[some (.int c,om),some (.int (k:Int),om),s]
 have hp:bBin qfl (bC (.int 10)) (bC (.int 18)) (R none)=.ok (.int (10 ^ 18),om,R none):=rfl;by_cases h:c ≥ 10 ^ 18
 ·have hc:bT (bBin (zxo λ i j=>decide (j<=i)) (bVar 0) (bBin qfl (bC (.int 10)) (bC (.int 18)))) (R none)=.ok (true,R none):=by
   have:=t_ok (zzr (p:=λ i j=>decide (j<=i)) (f:=bVar 0) (ρ:=R none) (i:=c) (d:=om) rfl hp)
   rw [this,decide_eq_true h]
  exact ⟨c,zwg rfl (zbi ((if_t hc).trans rfl))⟩
 ·have hc:bT (bBin (zxo λ i j=>decide (j<=i)) (bVar 0) (bBin qfl (bC (.int 10)) (bC (.int 18)))) (R none)=.ok (false,R none):=by
   have:=t_ok (zzr (p:=λ i j=>decide (j<=i)) (f:=bVar 0) (ρ:=R none) (i:=c) (d:=om) rfl hp)
   rw [this,decide_eq_false h]
  have e1:bBin zxj (bBin zqj (bBin zqj (bBin zqj (bBin zxw (bVar 0) (bC (.int 48271))) (bBin zxw (bBin zxw (bC (.int 7919)) (bVar 1)) (bVar 1))) (bBin zxw (bC (.int 104729)) (bVar 1))) (bC (.int 29))) (bC (.int 2147483647)) (R none)=.ok (.int ((c * 48271 + 7919 * (k:Int) * (k:Int) + 104729 * (k:Int) + 29) % 2147483647),om,R none):=
   zwj (zwn (zwn (zwn (zkp (d:=om) (e:=om) rfl rfl (.inr (by decide))) (zkp (e:=om) (zkp (d:=om) (e:=om) (j:=(k:Int)) rfl rfl (.inl (by decide))) rfl (.inr (by omega)))) (zkp (d:=om) (e:=om) (j:=(k:Int)) rfl rfl (.inl (by decide)))) (e:=om) rfl) (e:=om) rfl (by decide)
  generalize hn:(c * 48271 + 7919 * (k:Int) * (k:Int) + 104729 * (k:Int) + 29) % 2147483647=n at e1;have b1:0<=n/\n < 2147483647:=by omega
  have e2:bBin zxj (bBin zxw (bVar 2) (bVar 2)) (bC (.int 2147483629)) (R (some (.int n,om)))=.ok (.int (n * n % 2147483629),om,R (some (.int n,om))):=zwj (zkp (d:=om) (e:=om) (i:=n) (j:=n) rfl rfl (.inl (by omega))) (e:=om) rfl (by decide);generalize hm:n * n % 2147483629=m at e2;have b2:0<=m/\m < 2147483629:=by omega
  have e3:bBin zqj (bBin zqj (bBin zxw (bBin zxw (bVar 2) (bVar 2)) (bVar 2)) (bBin zxw (bC (.int 1000003)) (bVar 2))) (bVar 1) (R (some (.int m,om)))=.ok (.int (m * m * m + 1000003 * m + (k:Int)),om,R (some (.int m,om))):=
   zwn (e:=om) (zwn (zkp (e:=om) (zkp (d:=om) (e:=om) (i:=m) (j:=m) rfl rfl (.inl (by omega))) rfl (.inr (by omega))) (zkp (d:=om) (e:=om) (j:=m) rfl rfl (.inl (by decide)))) rfl
  exact ⟨_,zwg rfl ((zyu hc).trans ((zqi (setF e1 (show 2 < 3 by decide) rfl)).trans ((zqi (setF e2 (show 2 < 3 by decide) rfl)).trans (zxz e3))))⟩
theorem zmm {i:Int} (h:0<=i):∃ n:Nat,i=(n:Int):=⟨i.toNat,by omega⟩
theorem boxN (l:Int) {r s t:Int} (hr:1<=r/\r<=6) (hs:1<=s/\s<=6) (ht:1<=t/\t<=6):∃ x y z:Nat,(1<=x/\(x:Int)<=r)/\(1<=y/\(y:Int)<=s)/\(1<=z/\(z:Int)<=t)/\d_box [.int l,.int r,.int s,.int t]=.ok (bx x y z,om,.non):=by
 let R:Rho:=[some (.int l,om),some (.int r,om),some (.int s,om),some (.int t,om)]
 have q1:=ji4 l (show r≠0 by omega);have q2:=jh8 l (show 0 < r by omega);have q3:=ji4 (l / r) (show s≠0 by omega);have q4:=jh8 (l / r) (show 0 < s by omega);have q5:=ji4 (l / (r * s)) (show t≠0 by omega);have q6:=jh8 (l / (r * s)) (show 0 < t by omega);have rs0:0 < r * s:=Int.mul_pos (by omega) (by omega);have rs1:r * s<=6 * 6:=Int.mul_le_mul hr.2 hs.2 (by omega) (by omega);obtain ⟨x,hx⟩:=zmm (i:=1 + l % r) (by omega);obtain ⟨y,hy⟩:=zmm (i:=1 + l / r % s) (by omega);obtain ⟨z,hz⟩:=zmm (i:=1 + l / (r * s) % t) (by omega);refine ⟨x,y,z,by omega,by omega,by omega,?_⟩;have e1:bBin zqj (bC (.int 1)) (bBin zxj (bVar 0) (bVar 1)) R=.ok (.int (1 + l % r),om,R):=zwn (d:=om) rfl (zwj (i:=l) (d:=om) (e:=om) rfl rfl (by omega));have e2:bBin zqj (bC (.int 1)) (bBin zxj (bBin zxm (bVar 0) (bVar 1)) (bVar 2)) R=.ok (.int (1 + l / r % s),om,R):=zwn (d:=om) rfl (zwj (zvf (i:=l) (d:=om) (e:=om) rfl rfl (by omega) (by omega)) (e:=om) rfl (by omega));have e3:bBin zqj (bC (.int 1)) (bBin zxj (bBin zxm (bVar 0) (bBin zxw (bVar 1) (bVar 2))) (bVar 3)) R=.ok (.int (1 + l / (r * s) % t),om,R):=zwn (d:=om) rfl (zwj (zvf (i:=l) (d:=om) (e:=om) rfl (zkp (i:=r) (j:=s) (d:=om) (e:=om) rfl rfl (.inl (by omega))) (by omega) (by omega)) (e:=om) rfl (by omega));rw [hx] at e1;rw [hy] at e2;rw [hz] at e3;exact zwg rfl (zxz (zxi (zqk e1 (zqk e2 (zqp e3))) rfl))
section
variable {a b c:Nat}{hs:List C3}
def E3 (x:C3):Rho:=[some (.int (x.1:Int),om),some (.int (x.2.1:Int),om),some (.int (x.2.2:Int),om)]
theorem qid {i j:Nat} (hi:i < a) (hj:j < b):f_is_place [bx a b c,.int (i:Int),.int (j:Int)]=.ok (.bl true,om,.non):=by
 let R:Rho:=[some (bx a b c,0),some (.int (i:Int),om),some (.int (j:Int),om)]
 have w:∀ n:Int,f_is_whole_number [.int n]=.ok (.bl true,om,.non):=zmw;have t1:bT (bOrV (bUn zwo (zqg f_is_whole_number (zqa (bVar 1) (aNil)))) (bUn zwo (zqg f_is_whole_number (zqa (bVar 2) (aNil))))) R=.ok (false,R):=t_ok (qdk (a:=false) (b:=false) (zko (b:=true) (zqh (xs:=[(.int (i:Int),om)]) rfl (w _))) (λ _=>zko (b:=true) (zqh (xs:=[(.int (j:Int),om)]) rfl (w _))) rfl);have k1:=zyq (p:=λ i j=>decide (i<=j)) (q:=λ i j=>decide (i < j)) (f:=bC (.int 0)) (g:=bVar 1) (h:=bBin zqc (bVar 0) (bC (.int 0))) (ρ:=R) (i:=0) (j:=(i:Int)) (k:=(a:Int)) (d:=om) (e:=om) (c:=om) rfl rfl rfl;have k2:=zyq (p:=λ i j=>decide (i<=j)) (q:=λ i j=>decide (i < j)) (f:=bC (.int 0)) (g:=bVar 2) (h:=bBin zqc (bVar 0) (bC (.int 1))) (ρ:=R) (i:=0) (j:=(j:Int)) (k:=(b:Int)) (d:=om) (e:=om) (c:=om) rfl rfl rfl;rw [decide_eq_true (show (0:Int)<=i by omega),decide_eq_true (show (i:Int) < a by omega)] at k1;rw [decide_eq_true (show (0:Int)<=j by omega),decide_eq_true (show (j:Int) < b by omega)] at k2;exact zwg rfl ((zyu t1).trans (zxz (qaj (a:=true) (b:=true) k1 (λ _=>k2) rfl)))
theorem qkx (T:Told a b c hs) (hl:hs.length<=1000):f_must_be_told_heights [bx a b c,ct hs]=.ok (.non,om,.non):=by
 have z:=sz;let R:Rho:=[some (bx a b c,0),some (ct hs,0)]
 have e1:=qg9 (k:=3) (f:=bVar 1) (asg:=asgT [2,3,4]) (test:=zxk) (elt:=zqg f_is_place (zqa (bVar 0) (zqa (bVar 2) (zqa (bVar 3) (aNil))))) (enc:=c3) (q:=λ _=>.bl true) (E:=E3) (p:=λ _=>true) (ρ:=R) (ρ1:=R) (d:=0) hs rfl (λ x _=>rfl) (λ x _=>rfl) (λ x hx _=>zqh (xs:=[(bx a b c,0),(.int (x.1:Int),om),(.int (x.2.1:Int),om)]) rfl (qid (T x hx).1 (T x hx).2.1)) (by omega);have e2:=qg9 (k:=3) (f:=bVar 1) (asg:=asgT [2,3,4]) (test:=zxk) (elt:=zzs (zqg f_is_whole_number (zqa (bVar 4) (aNil))) (zzl (λ i j=>decide (i<=j)) (λ i j=>decide (i<=j)) (bC (.int 0)) (bVar 4) (bBin zqc (bVar 0) (bC (.int 2))))) (enc:=c3) (q:=λ _=>.bl true) (E:=E3) (p:=λ _=>true) (ρ:=R) (ρ1:=R) (d:=0) hs rfl (λ x _=>rfl) (λ x _=>rfl) (λ x hx _=>by
  have k:=zyq (p:=λ i j=>decide (i<=j)) (q:=λ i j=>decide (i<=j)) (f:=bC (.int 0)) (g:=bVar 4) (h:=bBin zqc (bVar 0) (bC (.int 2))) (ρ:=R++E3 x) (i:=0) (j:=(x.2.2:Int)) (k:=(c:Int)) (d:=om) (e:=om) (c:=om) rfl rfl rfl
  have:=(T x hx).2.2
  rw [decide_eq_true (show (0:Int)<=x.2.2 by omega),decide_eq_true (show (x.2.2:Int)<=c by omega)] at k;exact qaj (a:=true) (b:=true) (zqh (xs:=[(.int (x.2.2:Int),om)]) rfl (zmw _)) (λ _=>k) rfl) (by omega)
 rw [show hs.filter (λ _=>true)=hs from jg1.mpr λ _ _=>rfl] at e1 e2;have al:∀ {f:Fx},f R=.ok (.lst (hs.map λ _=>.bl true),om,R)->bT (bUn zwo (zqd zvh (zqa f aNil))) R=.ok (false,R):=λ h=>by
  have:=t_ok (zko (all_ok (g:=λ _=>true) h))
  rwa [show (hs.all λ _=>true)=true from jb5.mpr λ _ _=>rfl] at this
 exact qjb rfl ((zyu (al e1)).trans (if_f (al e2)))
theorem qhk {bt:Int->Int->Bool}{f g:Fx}{ρ ρ1 ρ2:Rho}{l:List Int}{d:Int}{d1 d2:Nat} (h1:f ρ=.ok (il l,d1,ρ1)) (h2:g ρ1=.ok (.int d,d2,ρ2)):zqd (zje bt) (zqa f (zqa g aNil)) ρ=.ok (.int ((zky bt l).getD d),om,ρ2):=zxi (zqk h1 (zqp h2)) (by
 show (match zzj (l.map PV.int) with | some ns=>some (PV.int ((zky bt ns).getD d),om) | none=>none)=_;rw [zwy])
theorem qfz (l:List C3):(l.map λ x:C3=>PV.int (x.2.2:Int))=(l.map hgt).map PV.int:=by
 rw [jd7];rfl
theorem qiu (hl:hs.length<=1000) (i j:Nat):f_least_height [ct hs,.int (i:Int),.int (j:Int)]=.ok (.int (loF hs i j),om,.non):=by
 have z:=sz;let R:Rho:=[some (ct hs,0),some (.int (i:Int),om),some (.int (j:Int),om)]
 have e:=zjx (n:=3) (f:=bVar 0) (test:=bT (zzs (bBin (zxo λ i j=>decide (j<=i)) (bBin zqc (bVar 3) (bC (.int 0))) (bVar 1)) (bBin (zxo λ i j=>decide (j<=i)) (bBin zqc (bVar 3) (bC (.int 1))) (bVar 2)))) (elt:=bBin zqc (bVar 3) (bC (.int 2))) (enc:=c3) (q:=λ x=>.int (x.2.2:Int)) (p:=pLo i j) (ρ:=R) (ρ1:=R) (d:=0) hs rfl rfl (λ x _=>t_ok (qaj (zzr (p:=λ i j=>decide (j<=i)) (i:=(x.1:Int)) (j:=(i:Int)) (d:=om) (e:=om) rfl rfl) (λ _=>zzr (p:=λ i j=>decide (j<=i)) (i:=(x.2.1:Int)) (j:=(j:Int)) (d:=om) (e:=om) rfl rfl) rfl)) (λ x _ _=>rfl) (by omega);rw [qfz] at e;exact zwg rfl (zxz (qhk (l:=(hs.filter (pLo i j)).map hgt) (d:=0) (d2:=om) e rfl))
theorem qbd (hl:hs.length<=1000) (i j:Nat):f_greatest_height [ct hs,.int (i:Int),.int (j:Int),.int (c:Int)]=.ok (.int (hiF c hs i j),om,.non):=by
 have z:=sz;let R:Rho:=[some (ct hs,0),some (.int (i:Int),om),some (.int (j:Int),om),some (.int (c:Int),om)]
 have e:=zjx (n:=4) (f:=bVar 0) (test:=bT (zzs (bBin (zxo λ i j=>decide (i<=j)) (bBin zqc (bVar 4) (bC (.int 0))) (bVar 1)) (bBin (zxo λ i j=>decide (i<=j)) (bBin zqc (bVar 4) (bC (.int 1))) (bVar 2)))) (elt:=bBin zqc (bVar 4) (bC (.int 2))) (enc:=c3) (q:=λ x=>.int (x.2.2:Int)) (p:=pHi i j) (ρ:=R) (ρ1:=R) (d:=0) hs rfl rfl (λ x _=>t_ok (qaj (zzr (p:=λ i j=>decide (i<=j)) (i:=(x.1:Int)) (j:=(i:Int)) (d:=om) (e:=om) rfl rfl) (λ _=>zzr (p:=λ i j=>decide (i<=j)) (i:=(x.2.1:Int)) (j:=(j:Int)) (d:=om) (e:=om) rfl rfl) rfl)) (λ x _ _=>rfl) (by omega);rw [qfz] at e;exact zwg rfl (zxz (qhk (l:=(hs.filter (pHi i j)).map hgt) (d:=c) (d2:=om) e rfl))
def bndT (a b c:Nat) (hs:List C3):PV:=.tup [tb (mkT a b (loF hs)),tb (mkT a b (hiF c hs))]
theorem zps (T:Told a b c hs) (hl:hs.length<=1000) (ha:1<=a/\a<=100) (hb:1<=b/\b<=100) (hc:1<=c):∃ d,f_bounds_with [bx a b c,ct hs]=.ok (if leT a b (mkT a b (loF hs)) (mkT a b (hiF c hs))=true then bndT a b c hs else .non,d,.non):=by
 have z:=sz;let R (s2 s3 s4:QQ.Slot):Rho:=[some (bx a b c,0),some (ct hs,0),s2,s3,s4]
 have bb:boxB a b c=true:=by unfold boxB;simp;omega
 have v1:zzm (zqg f_must_be_box (zqa (bVar 0) (aNil))) (R none none none)=.nx (R none none none):=zvb (zqh (xs:=[(bx a b c,0)]) rfl (zbt bb));have v2:zzm (zqg f_must_be_told_heights (zqa (bVar 0) (zqa (bVar 1) (aNil)))) (R none none none)=.nx (R none none none):=zvb (zqh (xs:=[(bx a b c,0),(ct hs,0)]) rfl (qkx T hl));have v3:sSet false 2 (zqd zqs (aNil)) [] (R none none none)=.nx (R (some (.lst [],om)) none none):=rfl;have v4:sSet false 3 (zqd zqs (aNil)) [] (R (some (.lst [],om)) none none)=.nx (R (some (.lst [],om)) (some (.lst [],om)) none):=rfl;let lo:=loF hs;let hi:=hiF c hs;let S (k:Nat) (s4:QQ.Slot):Rho:=R (some (tb (mkT k b lo),om)) (some (tb (mkT k b hi),om)) s4;obtain ⟨ρ',e',s4,rfl⟩:=zkh (i:=4) (en:=zqu) (fa:=zqa (bBin zqc (bVar 0) (bC (.int 0))) (aNil)) (ρ:=S 0 none) (ρ1:=S 0 none) (as:=[(.int (a:Int),om)]) (lo:=0) (hi:=(a:Int))
  (body:=(sSeq (sApp 2 (zxd zqu (zqa (bBin zqc (bVar 0) (bC (.int 1))) (aNil)) 1 (asgN 5) zxk (zqg f_least_height (zqa (bVar 1) (zqa (bVar 4) (zqa (bVar 5) (aNil)))))) [1,4]) (sApp 3 (zxd zqu (zqa (bBin zqc (bVar 0) (bC (.int 1))) (aNil)) 1 (asgN 5) zxk (zqg f_greatest_height (zqa (bVar 1) (zqa (bVar 4) (zqa (bVar 5) (zqa (bBin zqc (bVar 0) (bC (.int 2))) (aNil))))))) [1,4,0])))
  (λ k ρ=>∃ s4,ρ=S k s4) rfl (zxu (by omega) (by omega)) ⟨none,rfl⟩ (by
  rintro k _ hk ⟨s4,rfl⟩;have hk:k < a:=by omega
  rw [jf1];refine ⟨(show 4 < 5 by decide),?_⟩;have c1:∀ (s2 s3:QQ.Slot),zxd zqu (zqa (bBin zqc (bVar 0) (bC (.int 1))) (aNil)) 1 (asgN 5) zxk (zqg f_least_height (zqa (bVar 1) (zqa (bVar 4) (zqa (bVar 5) (aNil))))) (R s2 s3 (some (.int (k:Int),om)))=.ok (il (upE (lo k) b),om,R s2 s3 (some (.int (k:Int),om))):=λ s2 s3=>by
   have:=zzk (n:=5) (en:=zqu) (fa:=zqa (bBin zqc (bVar 0) (bC (.int 1))) (aNil)) (elt:=zqg f_least_height (zqa (bVar 1) (zqa (bVar 4) (zqa (bVar 5) (aNil))))) (ρ:=R s2 s3 (some (.int (k:Int),om))) (ρ1:=R s2 s3 (some (.int (k:Int),om))) (as:=[(.int (b:Int),om)]) (lo:=0) (hi:=(b:Int)) (q:=λ j=>.int (lo k j)) rfl (zxu (by omega) (by omega)) rfl (λ j hj=>by
    rw [jf1];exact zqh (xs:=[(ct hs,0),(.int (k:Int),om),(.int (j:Int),om)]) rfl (qiu hl k j)) (by omega)
   rw [this];rw [show ((b:Int) - 0).toNat=b by omega];unfold il upE;rw [jd7];rfl
  have c2:∀ (s2 s3:QQ.Slot),zxd zqu (zqa (bBin zqc (bVar 0) (bC (.int 1))) (aNil)) 1 (asgN 5) zxk (zqg f_greatest_height (zqa (bVar 1) (zqa (bVar 4) (zqa (bVar 5) (zqa (bBin zqc (bVar 0) (bC (.int 2))) (aNil)))))) (R s2 s3 (some (.int (k:Int),om)))=.ok (il (upE (hi k) b),om,R s2 s3 (some (.int (k:Int),om))):=λ s2 s3=>by
   have:=zzk (n:=5) (en:=zqu) (fa:=zqa (bBin zqc (bVar 0) (bC (.int 1))) (aNil)) (elt:=zqg f_greatest_height (zqa (bVar 1) (zqa (bVar 4) (zqa (bVar 5) (zqa (bBin zqc (bVar 0) (bC (.int 2))) (aNil)))))) (ρ:=R s2 s3 (some (.int (k:Int),om))) (ρ1:=R s2 s3 (some (.int (k:Int),om))) (as:=[(.int (b:Int),om)]) (lo:=0) (hi:=(b:Int)) (q:=λ j=>.int (hi k j)) rfl (zxu (by omega) (by omega)) rfl (λ j hj=>by
    rw [jf1];exact zqh (xs:=[(ct hs,0),(.int (k:Int),om),(.int (j:Int),om),(.int (c:Int),om)]) rfl (qbd hl k j)) (by omega)
   rw [this];rw [show ((b:Int) - 0).toNat=b by omega];unfold il upE;rw [jd7];rfl
  have ml:∀ f:Nat->Nat->Int,((mkT k b f).map il).length < va5:=λ f=>by rw [ja3,qa2.1];omega
  have ms:∀ f:Nat->Nat->Int,tb (mkT (k + 1) b f)=.lst ((mkT k b f).map il++[il (upE (f k) b)]):=λ f=>by
   unfold tb;rw [qin,je4];rfl
  have a1:sApp 2 (zxd zqu (zqa (bBin zqc (bVar 0) (bC (.int 1))) (aNil)) 1 (asgN 5) zxk (zqg f_least_height (zqa (bVar 1) (zqa (bVar 4) (zqa (bVar 5) (aNil)))))) [1,4] (S k (some (.int (k:Int),om)))=.nx (R (some (tb (mkT (k + 1) b lo),om)) (some (tb (mkT k b hi),om)) (some (.int (k:Int),om))):=
   zmv (d0:=om - 1) (d:=om) (e:=om) (xs0:=(mkT k b lo).map il) (xs:=(mkT k b lo).map il) rfl (c1 _ _) rfl (by decide) (ml lo) (by rw [ms];rfl)
  have a2:sApp 3 (zxd zqu (zqa (bBin zqc (bVar 0) (bC (.int 1))) (aNil)) 1 (asgN 5) zxk (zqg f_greatest_height (zqa (bVar 1) (zqa (bVar 4) (zqa (bVar 5) (zqa (bBin zqc (bVar 0) (bC (.int 2))) (aNil))))))) [1,4,0] (R (some (tb (mkT (k + 1) b lo),om)) (some (tb (mkT k b hi),om)) (some (.int (k:Int),om)))=.nx (S (k + 1) (some (.int (k:Int),om))):=
   zmv (d0:=om - 1) (d:=om) (e:=om) (xs0:=(mkT k b hi).map il) (xs:=(mkT k b hi).map il) rfl (c2 _ _) rfl (by decide) (ml hi) (by show _=R _ (some (tb (mkT (k + 1) b hi),om)) _;rw [ms hi];rfl)
  exact ⟨_,(zqi a1).trans a2,_,rfl⟩)
 rw [show ((a:Int) - 0).toNat=a by omega] at e';have p1:Pile a b c (mkT a b lo):=zfm T;have p2:Pile a b c (mkT a b hi):=zfq T;have m1:=zwq (c:=c) p1.tab ha hb (by omega) ((zvp p1.tab).mpr p1);have m2:=zwq (c:=c) p2.tab ha hb (by omega) ((zvp p2.tab).mpr p2);have li:=qa8 (c:=c) p1.tab p2.tab ha.2 hb.2 (qjw m1 m2);have t6:=t_ok (zko (zqh (F:=f_lies_below) (fa:=zqa (bVar 0) (zqa (bVar 2) (zqa (bVar 3) (aNil)))) (ρ:=S a s4) (ρ1:=S a s4) (xs:=[(bx a b c,0),(tb (mkT a b lo),0),(tb (mkT a b hi),0)]) rfl li));cases el:leT a b (mkT a b lo) (mkT a b hi) with
 | true=>
  rw [el] at t6;rw [if_pos rfl];exact ⟨0,zwg rfl ((zqi v1).trans ((zqi v2).trans ((zqi v3).trans ((zqi v4).trans ((zqi e').trans ((zyu t6).trans (zxz (x:=bndT a b c hs) (d:=0) rfl)))))))⟩
 | false=>
  rw [el] at t6;rw [if_neg (by decide)];exact ⟨om,zwg rfl ((zqi v1).trans ((zqi v2).trans ((zqi v3).trans ((zqi v4).trans ((zqi e').trans (zbi ((if_t t6).trans (zxz (x:=.non) (d:=om) rfl))))))))⟩
end
theorem qrb {b c:Nat}:Pile 0 b c []:=⟨⟨rfl,λ _ h=>(nomatch h)⟩,λ i j hi=>absurd hi (by omega),λ i j hi=>absurd hi (by omega),λ i j hi=>absurd hi (by omega),λ i j hi=>absurd hi (by omega)⟩
def RowP (b c:Nat) (t:List (List Int)) (r:List Int):Prop:=(∀ y,y < r.length->0<=r.getD y 0/\r.getD y 0<=upH c t y)/\∀ n,n + 1 < r.length->r.getD (n + 1) 0<=r.getD n 0
theorem qq3 {b c:Nat}{t:List (List Int)}:RowP b c t []:=⟨λ y h=>absurd h (by simp),λ n h=>absurd h (by simp)⟩
theorem RowP.snoc {b c:Nat}{t:List (List Int)}{r:List Int}{v:Int} (h:RowP b c t r) (h1:0<=v/\v<=upH c t r.length) (h2:∀ n,n + 1=r.length->v<=r.getD n 0):RowP b c t (r++[v]):=by
 refine ⟨λ y hy=>?_,λ n hn=>?_⟩
 ·rw [zfc];rw [jb0,jd6] at hy;by_cases e:y < r.length
  ·rw [if_pos e];exact h.1 y e
  ·have:y=r.length:=by omega
   rw [if_neg e,if_pos this,this];exact h1
 ·rw [zfc,zfc];rw [jb0,jd6] at hn;by_cases e:n + 1 < r.length
  ·rw [if_pos e,if_pos (by omega)];exact h.2 n e
  ·rw [if_neg e,if_pos (by omega),if_pos (by omega)];exact h2 n (by omega)
def PD:Fs:=(sSeq (sSet false 9 (bVar 4) [4])
 (sSeq (sIf (bT (bBin (zxo λ i j=>decide (j < i)) (bVar 6) (bC (.int 0)))) (sSet false 9 (bBin zqc (bBin zqc (bVar 5) (bBin zzd (bVar 6) (bC (.int 1)))) (bVar 8)) [5,6,8]) sNil)
 (sSeq (sIf (bT (bBin (zxo λ i j=>decide (j < i)) (bVar 8) (bC (.int 0)))) (sSet false 9 (zqd zhi (zqa (bVar 9) (zqa (bBin zqc (bVar 7) (bBin zzd (bVar 8) (bC (.int 1)))) (aNil)))) [9,7,8]) sNil)
 (sSeq (sApp 7 (bBin zzd (bVar 9) (zqd zhi (zqa (bVar 9) (zqa (bBin zqc (zqd zqs (zqa (bC (.int 0)) (zqa (bC (.int 1)) (zqa (bC (.int 0)) (zqa (bC (.int 2)) (zqa (bBin zxj (bVar 1) (bBin zqj (bVar 4) (bC (.int 1)))) (aNil))))))) (bBin zxj (bBin zxm (bVar 1) (bC (.int 9))) (bC (.int 5)))) (aNil))))) [9,9,1,4,1])
 (sSet false 1 (bBin zqj (bBin zxm (bVar 1) (bC (.int 45))) (bBin zxj (bBin zxw (bC (.int 13)) (bVar 1)) (bC (.int 1009)))) [1,1])))))
theorem at5 (n:Int) (x:Int) (hx:0<=x):∃ y,0<=y/\atI [0,1,0,2,x] (n % 5)=some y:=by
 have h:n % 5=0\/n % 5=1\/n % 5=2\/n % 5=3\/n % 5=4:=by omega
 rcases h with h | h | h | h | h <;> rw [h]
 ·exact ⟨0,by decide,rfl⟩
 ·exact ⟨1,by decide,rfl⟩
 ·exact ⟨0,by decide,rfl⟩
 ·exact ⟨2,by decide,rfl⟩
 ·exact ⟨x,hx,rfl⟩
theorem qjg {a b c:Nat} (l:Int) (ha:a<=100) (hb:b<=100) (hc:c<=1000):∃ t d,Pile a b c t/\d_pile [bx a b c,.int l]=.ok (tb t,d,.non):=by
 have z:=sz;let R (l:Int) (s5 s6 s7 s8 s9:QQ.Slot):Rho:=[some (bx a b c,0),some (.int l,om),some (.int (a:Int),om),some (.int (b:Int),om),some (.int (c:Int),om),s5,s6,s7,s8,s9]
 have v1:sUnp (asgT [2,3,4]) (bVar 0) [0] [some (bx a b c,0),some (.int l,om),none,none,none,none,none,none,none,none]=.nx (R l none none none none none):=rfl;have v2:sSet false 5 (zqd zqs (aNil)) [] (R l none none none none none)=.nx (R l (some (.lst [],om)) none none none none):=rfl;obtain ⟨ρ',e',l',t,d5,s6,s7,s8,s9,ht,hd,rfl⟩:=zkh (i:=6) (en:=zqu) (fa:=zqa (bVar 2) (aNil)) (ρ:=R l (some (.lst [],om)) none none none none) (ρ1:=R l (some (.lst [],om)) none none none none) (as:=[(.int (a:Int),om)]) (lo:=0) (hi:=(a:Int))
  (body:=(sSeq (sSet false 7 (zqd zqs (aNil)) []) (sSeq (zvk zqu (zqa (bVar 3) (aNil)) (asgN 8) PD) (sApp 5 (bVar 7) [7]))))
  (λ k ρ=>∃ l t d5 s6 s7 s8 s9,Pile k b c t/\d5≠0/\ρ=R l (some (tb t,d5)) s6 s7 s8 s9) rfl (zxu (by omega) (by omega)) ⟨l,[],om,_,_,_,_,qrb,by decide,rfl⟩ (by
  rintro k _ hk ⟨l,t,d5,s6,s7,s8,s9,ht,hd,rfl⟩;have hl:t.length=k:=ht.tab.1;refine ⟨(show 6 < 10 by decide),?_⟩;rw [jf1];let Q (l:Int) (r:List Int) (s8 s9:QQ.Slot):Rho:=R l (some (tb t,d5)) (some (.int (k:Int),om)) (some (il r,om)) s8 s9;have w1:sSet false 7 (zqd zqs (aNil)) [] (R l (some (tb t,d5)) (some (.int (k:Int),om)) s7 s8 s9)=.nx (Q l [] s8 s9):=rfl;obtain ⟨ρ2,e2,l2,r,s8',s9',hr,hrl,rfl⟩:=zkh (i:=8) (en:=zqu) (fa:=zqa (bVar 3) (aNil)) (ρ:=Q l [] s8 s9) (ρ1:=Q l [] s8 s9) (as:=[(.int (b:Int),om)]) (lo:=0) (hi:=(b:Int)) (body:=PD)
   (λ m ρ=>∃ l r s8 s9,RowP b c t r/\r.length=m/\ρ=Q l r s8 s9) rfl (zxu (by omega) (by omega)) ⟨l,[],s8,s9,qq3,rfl,rfl⟩ (by
   rintro m _ hm ⟨l,r,s8,s9,hr,hrl,rfl⟩;have hm:m < b:=by omega
   refine ⟨(show 8 < 10 by decide),?_⟩;rw [jf1];let s8':QQ.Slot:=some (.int (m:Int),om);have u1:sSet false 9 (bVar 4) [4] (Q l r s8' s9)=.nx (Q l r s8' (some (.int (c:Int),om))):=rfl;obtain ⟨m1,hm1,u2⟩:∃ m1:Int,(0<=m1/\m1<=upH c t m)/\sIf (bT (bBin (zxo λ i j=>decide (j < i)) (bVar 6) (bC (.int 0)))) (sSet false 9 (bBin zqc (bBin zqc (bVar 5) (bBin zzd (bVar 6) (bC (.int 1)))) (bVar 8)) [5,6,8]) sNil (Q l r s8' (some (.int (c:Int),om)))=.nx (Q l r s8' (some (.int m1,om))):=by
    have q:=t_ok (zzr (p:=λ i j=>decide (j < i)) (f:=bVar 6) (g:=bC (.int 0)) (ρ:=Q l r s8' (some (.int (c:Int),om))) (i:=(k:Int)) (j:=0) (d:=om) (e:=om) rfl rfl);by_cases h0:0 < k
    ·rw [decide_eq_true (by omega)] at q;have hk1:k - 1 < t.length:=by omega
     have lr:(t.getD (k - 1) []).length=b:=Tab.row ht.tab (by omega);refine ⟨(t.getD (k - 1) []).getD m 0,⟨ht.lo (k - 1) m (by omega) hm,by unfold upH;rw [if_neg (by omega),hl];exact jf7 _⟩,?_⟩;rw [if_t q];refine setF (x:=.int ((t.getD (k - 1) []).getD m 0)) (d:=om) (ρ1:=Q l r s8' (some (.int (c:Int),om))) (zyi (xs:=t.getD (k - 1) []) (k:=(m:Int)) (d:=0) (e:=om) (qcr (t:=t) (k:=(k:Int) - 1) (d:=0) (e:=om) rfl (zgu (i:=(k:Int)) (j:=1) (d:=om) (e:=om) rfl rfl) ?_) rfl (zxr (by omega) (by rw [jc7];exact zwc (by omega)))) (show 9 < 10 by decide) rfl;exact zxr (by omega) (by rw [show ((k:Int) - 1).toNat=k - 1 by omega];exact zyj hk1)
    ·rw [decide_eq_false (by omega)] at q;exact ⟨c,⟨by omega,by unfold upH;rw [if_pos (by omega)];exact jf7 _⟩,by rw [if_f q];rfl⟩
   obtain ⟨m2,hm2,u3⟩:∃ m2:Int,(0<=m2/\m2<=upH c t m/\∀ n,n + 1=m->m2<=r.getD n 0)/\sIf (bT (bBin (zxo λ i j=>decide (j < i)) (bVar 8) (bC (.int 0)))) (sSet false 9 (zqd zhi (zqa (bVar 9) (zqa (bBin zqc (bVar 7) (bBin zzd (bVar 8) (bC (.int 1)))) (aNil)))) [9,7,8]) sNil (Q l r s8' (some (.int m1,om)))=.nx (Q l r s8' (some (.int m2,om))):=by
    have q:=t_ok (zzr (p:=λ i j=>decide (j < i)) (f:=bVar 8) (g:=bC (.int 0)) (ρ:=Q l r s8' (some (.int m1,om))) (i:=(m:Int)) (j:=0) (d:=om) (e:=om) rfl rfl);by_cases h0:0 < m
    ·rw [decide_eq_true (by omega)] at q;have hx:=hr.1 (m - 1) (by omega);refine ⟨if r.getD (m - 1) 0 < m1 then r.getD (m - 1) 0 else m1,⟨by split <;> omega,by split <;> omega,λ n hn=>by rw [show m - 1=n by omega];split <;> omega⟩,?_⟩;rw [if_t q];refine setF (x:=.int (if r.getD (m - 1) 0 < m1 then r.getD (m - 1) 0 else m1)) (d:=om) (ρ1:=Q l r s8' (some (.int m1,om))) (zxi (xs:=[(.int m1,om),(.int (r.getD (m - 1) 0),om)]) (zqk rfl (zqp (zyi (xs:=r) (k:=(m:Int) - 1) (d:=0) (e:=om) rfl (zgu (i:=(m:Int)) (j:=1) (d:=om) (e:=om) rfl rfl) ?_))) rfl) (show 9 < 10 by decide) rfl;exact zxr (by omega) (by rw [show ((m:Int) - 1).toNat=m - 1 by omega];exact zwc (by omega))
    ·rw [decide_eq_false (by omega)] at q;exact ⟨m1,⟨hm1.1,hm1.2,λ n hn=>absurd hn (by omega)⟩,by rw [if_f q];rfl⟩
   obtain ⟨y,hy,ey⟩:=at5 (l / 9) (l % ((c:Int) + 1)) (ji4 _ (by omega));let v:=m2 - (if y < m2 then y else m2);have hv:0<=v/\v<=m2:=by
    show 0<=m2 - (if y < m2 then y else m2)/\m2 - (if y < m2 then y else m2)<=m2;split <;> omega
   let W:Rho:=Q l r s8' (some (.int m2,om));have f1:zqd zqs (zqa (bC (.int 0)) (zqa (bC (.int 1)) (zqa (bC (.int 0)) (zqa (bC (.int 2)) (zqa (bBin zxj (bVar 1) (bBin zqj (bVar 4) (bC (.int 1)))) (aNil)))))) W=.ok (il [0,1,0,2,l % ((c:Int) + 1)],om,W):=zxi (xs:=[(.int 0,om),(.int 1,om),(.int 0,om),(.int 2,om),(.int (l % ((c:Int) + 1)),om)]) (zqk rfl (zqk rfl (zqk rfl (zqk rfl (zqp (zwj (i:=l) (d:=om) rfl (zwn (i:=(c:Int)) (j:=1) (d:=om) (e:=om) rfl rfl) (by omega))))))) rfl;have f2:bBin zxj (bBin zxm (bVar 1) (bC (.int 9))) (bC (.int 5)) W=.ok (.int (l / 9 % 5),om,W):=zwj (zvf (i:=l) (d:=om) (e:=om) rfl rfl (by decide) (by decide)) (e:=om) rfl (by decide);have u4:sApp 7 (bBin zzd (bVar 9) (zqd zhi (zqa (bVar 9) (zqa (bBin zqc (zqd zqs (zqa (bC (.int 0)) (zqa (bC (.int 1)) (zqa (bC (.int 0)) (zqa (bC (.int 2)) (zqa (bBin zxj (bVar 1) (bBin zqj (bVar 4) (bC (.int 1)))) (aNil))))))) (bBin zxj (bBin zxm (bVar 1) (bC (.int 9))) (bC (.int 5)))) (aNil))))) [9,9,1,4,1] W=.nx (Q l (r++[v]) s8' (some (.int m2,om))):=by
    refine zmv (d0:=om - 1) (d:=om) (y:=.int v) (e:=om) (ρ1:=W) (xs0:=r.map PV.int) (xs:=r.map PV.int) rfl (zgu (i:=m2) (d:=om) rfl (zxi (xs:=[(.int m2,om),(.int y,om)]) (zqk rfl (zqp (zyi f1 f2 ey))) rfl)) rfl (by decide) ?_ ?_
    ·rw [ja3];omega
    ·have:il (r++[v])=.lst (r.map PV.int++[.int v]):=by unfold il;rw [je4];rfl
     show _=R l (some (tb t,d5)) (some (.int (k:Int),om)) (some (il (r++[v]),om)) s8' (some (.int m2,om));rw [this];rfl
   have u5:sSet false 1 (bBin zqj (bBin zxm (bVar 1) (bC (.int 45))) (bBin zxj (bBin zxw (bC (.int 13)) (bVar 1)) (bC (.int 1009)))) [1,1] (Q l (r++[v]) s8' (some (.int m2,om)))=.nx (Q (l / 45 + 13 * l % 1009) (r++[v]) s8' (some (.int m2,om))):=setF (zwn (zvf (i:=l) (d:=om) (e:=om) rfl rfl (by decide) (by decide)) (zwj (zkp (i:=13) (j:=l) (d:=om) (e:=om) rfl rfl (.inl (by decide))) (e:=om) rfl (by decide))) (show 1 < 10 by decide) rfl;refine ⟨_,(zqi u1).trans ((zqi u2).trans ((zqi u3).trans ((zqi u4).trans u5))),_,r++[v],_,_,hr.snoc (by rw [hrl];exact ⟨hv.1,jf2 hv.2 hm2.2.1⟩) (λ n hn=>jf2 hv.2 (hm2.2.2 n (by omega))),by rw [jb0,hrl];rfl,rfl⟩)
  have hb':((b:Int) - 0).toNat=b:=by omega
  rw [hb'] at hrl;have w3:sApp 5 (bVar 7) [7] (Q l2 r s8' s9')=.nx (R l2 (some (tb (t++[r]),1)) (some (.int (k:Int),om)) (some (il r,0)) s8' s9'):=by
   refine zmv (d0:=d5 - 1) (d:=d5) (y:=il r) (e:=0) (ρ1:=Q l2 r s8' s9') (xs0:=t.map il) (xs:=t.map il) (by rw [Nat.sub_add_cancel (by omega)];rfl) rfl rfl hd ?_ ?_
   ·rw [ja3];omega
   ·have:tb (t++[r])=.lst (t.map il++[il r]):=by unfold tb;rw [je4];rfl
    rw [this,if_neg (show ¬ (d5=om/\(0:Nat)=om) by intro h;exact absurd h.2 (by decide))];rfl
  refine ⟨_,(zqi w1).trans ((zqi e2).trans w3),l2,t++[r],1,_,_,_,_,ht.snoc hrl (λ y hy=>hr.1 y (by omega)) (λ n hn=>hr.2 n hn),by decide,rfl⟩)
 rw [show ((a:Int) - 0).toNat=a by omega] at ht;exact ⟨t,d5,ht,zwg rfl ((zqi v1).trans ((zqi v2).trans ((zqi e').trans rfl)))⟩
def ndB:List Int->Bool
 | []=>true
 | x::l=>l.all (λ y=>!(x == y)) && ndB l
theorem qp1:∀ {l:List Int},ndB l=true->l.Pairwise (·≠·)
 | [],_=>List.Pairwise.nil
 | x::l,h=>by
  rw [ndB,ja9] at h;refine List.Pairwise.cons (λ y hy=>?_) (qp1 h.2)
  have:=jb5.mp h.1 y hy
  simpa using this
def dkB (b c:Nat):Bool:=ndB ((zql b c).map λ r=>zpz (keyR r))
theorem qgv {α:Type}{f:α->Int}:∀ {l:List α}{x:Int},(l.map f).Pairwise (·≠·)->(l.filter λ y=>f y == x).length<=1
 | [],_,_=>by simp
 | y::l,x,h=>by
  rw [jc2,jo9] at h;rw [je3];split
  ·rename_i e
   have:l.filter (λ z=>f z == x)=[]:=by
    rw [jj8];intro z hz e2;exact h.1 _ (List.mem_map_of_mem hz) ((eq_of_beq e).trans (eq_of_beq e2).symm)
   rw [this];simp
  ·exact qgv h.2
theorem dk_of {b c:Nat} (h:dkB b c=true):dkOk ((zql b c).map keyR)=true:=by
 unfold dkB at h;have hp:=qp1 h;unfold dkOk;rw [ja9,jb5,jb5];refine ⟨λ k hk=>?_,λ k hk=>?_⟩
 ·obtain ⟨r,_,rfl⟩:=jd2.mp hk;rw [jb5];intro x hx;obtain ⟨n,_,rfl⟩:=jd2.mp hx;rfl
 ·rw [decide_eq_true_iff];refine qgv (f:=zpz) ?_;rw [jd7];exact hp
theorem qes {n:Nat}{c:Nat}:(zql n c).length<=(c + 1) ^ n:=qb6 (m:=c + 1) n λ j _=>by omega
theorem qqr {a b c:Nat} (ha:1<=a/\a<=6) (hb:1<=b/\b<=6) (hc:c<=6) (h:dkB b c=true):BoxT a b c:=by
 refine ⟨by omega,by omega,by omega,dk_of h,λ n hn=>?_⟩;have h1:(c + 1) ^ n<=7 ^ n:=jh6 (by omega) n;have h2:7 ^ n<=7 ^ 6:=jg4 (by omega) (by omega)
 have:=qes (n:=n) (c:=c)
 omega
def qma (b0 B c0 C:Nat) (f:Nat->Nat->Bool):Bool:=(ja7 B).all λ b=>(ja7 C).all λ c=>f (b + b0) (c + c0)
theorem qfh {b0 B c0 C:Nat}{f:Nat->Nat->Bool} (h:qma b0 B c0 C f=true) {b c:Nat} (hb:b0<=b/\b < b0 + B) (hc:c0<=c/\c < c0 + C):f b c=true:=by
 have h1:=jb5.mp (jb5.mp h (b - b0) (jc6.mpr (by omega))) (c - c0) (jc6.mpr (by omega));rwa [show b - b0 + b0=b by omega,show c - c0 + c0=c by omega] at h1
theorem dk1:qma 1 3 1 4 dkB=true:=by kernel_rfl
theorem dk2:qma 4 3 1 3 dkB=true:=by kernel_rfl
theorem qrn {a b c:Nat} (ha:1<=a) (hb:1<=b) (hc:1<=c) (h:(a<=4/\b<=3/\c<=4)\/(a<=2/\4<=b/\b<=6/\c<=3)):BoxN a b c:=by
 have hd:dkB b c=true:=by
  rcases h with h | h
  ·exact qfh dk1 (by omega) (by omega)
  ·exact qfh dk2 (by omega) (by omega)
 refine ⟨qqr (by omega) (by omega) (by omega) hd,hc,?_,by omega⟩;have r:=qes (n:=b) (c:=c);rcases h with h | h
 ·have h1:(c + 1) ^ b<=5 ^ b:=jh6 (by omega) b;have h2:5 ^ b<=5 ^ 3:=jg4 (by omega) (by omega);have h3:(zql b c).length ^ (a + 1)<=125 ^ (a + 1):=jh6 (by omega) _;have h4:125 ^ (a + 1)<=125 ^ 5:=jg4 (by omega) (by omega);exact jc9 h3 (jc9 h4 (by decide))
 ·have h1:(c + 1) ^ b<=4 ^ b:=jh6 (by omega) b;have h2:4 ^ b<=4 ^ 6:=jg4 (by omega) (by omega);have h3:(zql b c).length ^ (a + 1)<=4096 ^ (a + 1):=jh6 (by omega) _;have h4:4096 ^ (a + 1)<=4096 ^ 3:=jg4 (by omega) (by omega);exact jc9 h3 (jc9 h4 (by decide))
theorem qb1 {α:Type}{f h:α->Int}:∀ (l:List α),sumI (λ x=>f x + h x) l=sumI f l + sumI h l
 | []=>rfl
 | x::l=>by rw [zqv,zqv,zqv,qb1 l];omega
theorem zbe {α:Type}:∀ (l:List α),sumI (λ _=>(0:Int)) l=0
 | []=>rfl
 | x::l=>by rw [zqv,zbe l];rfl
theorem qj2 (x:Int):∀ (n:Nat),sumI (λ h:Nat=>if x=(h:Int) then (1:Int) else 0) (ja7 n)=if 0<=x/\x < n then 1 else 0
 | 0=>by rw [if_neg (by omega)];rfl
 | n + 1=>by
  rw [jg2,zjo,qj2 x n];show _ + ((if x=(n:Int) then (1:Int) else 0) + 0)=_;by_cases e:x=(n:Int)
  ·rw [if_pos e,if_neg (by omega),if_pos (by omega)];rfl
  ·rw [if_neg e];by_cases h:0<=x/\x < n
   ·rw [if_pos h,if_pos (by omega)];rfl
   ·rw [if_neg h,if_neg (by omega)];rfl
theorem zhg {α:Type}{v:α->Int}{q:α->Bool}{c:Nat}:∀ (l:List α),(∀ p∈l,0<=v p/\v p<=c)->sumI (λ h:Nat=>(((l.filter λ p=>q p && decide (v p=(h:Int))).length:Nat):Int)) (ja7 (c + 1))=((l.filter q).length:Int)
 | [],_=>zbe _
 | p::l,hv=>by
  have ih:=zhg (v:=v) (q:=q) (c:=c) l λ x hx=>hv x (ja1 _ hx);have hp:=hv p ja2;have e:sumI (λ h:Nat=>((((p::l).filter λ p=>q p && decide (v p=(h:Int))).length:Nat):Int)) (ja7 (c + 1))=sumI (λ h:Nat=>(if q p=true then (if v p=(h:Int) then (1:Int) else 0) else 0) + (((l.filter λ p=>q p && decide (v p=(h:Int))).length:Nat):Int)) (ja7 (c + 1)):=by
   refine zxv λ h _=>?_;rw [je3];cases hq:q p with
   | false=>simp
   | true=>
    by_cases e:v p=(h:Int)
    ·simp [e];omega
    ·simp [e]
  rw [e,qb1,ih,je3];cases hq:q p with
  | false=>
   rw [if_neg (by simp)]
   have:sumI (λ h:Nat=>if false=true then (if v p=(h:Int) then (1:Int) else 0) else 0) (ja7 (c + 1))=0:=by
    exact (zxv λ h _=>by simp).trans (zbe _)
   rw [this];omega
  | true=>
   rw [if_pos rfl]
   have:sumI (λ h:Nat=>if true=true then (if v p=(h:Int) then (1:Int) else 0) else 0) (ja7 (c + 1))=1:=by
    have:=qj2 (v p) (c + 1)
    rw [if_pos (by omega)] at this;exact (zxv λ h _=>by simp).trans this
   rw [this,jb1];omega
section
variable {a b c:Nat}{hs:List C3}
def allP (a b c:Nat):List (List (List Int)):=zxg zF (cF c) c b a
def zkv (a b c:Nat) (hs:List C3):Nat:=((allP a b c).filter (hasT hs)).length
theorem qc8 {p:List (List Int)} (h:p∈allP a b c):Pile a b c p:=zbm (λ _ _=>jf7 _) h
theorem zhv (x:C3) (p:List (List Int)):hasT (hs++[x]) p=(hasT hs p && decide (g p x.1 x.2.1=hgt x)):=by
 unfold hasT;rw [jn3];simp
theorem qdp {i j:Nat} (hi:i < a) (hj:j < b):sumI (λ h:Nat=>((zkv a b c (hs++[(i,j,h)]):Nat):Int)) (ja7 (c + 1))=((zkv a b c hs:Nat):Int):=by
 have:=zhg (v:=λ p=>g p i j) (q:=hasT hs) (c:=c) (allP a b c) λ p hp=>⟨(qc8 hp).lo i j hi hj,(qc8 hp).hi i j hi hj⟩
 unfold zkv;rw [<- this];refine zxv λ h _=>?_;congr 2;apply jh3;intro p _;rw [zhv];rfl
theorem qnl (N:BoxN a b c):((allP a b c).length:Int)<=2 ^ 40:=by
 have hc:=N.hc;have e:allP a b c=zxg (g (mkT a b zF)) (g (mkT a b (cF c))) c b a:=zvo a λ i j hi hj=>⟨(zqx hi hj).symm,(zqx hi hj).symm⟩
 have t:=zbb (a:=a) (b:=b) (c:=(c:Int)) (low:=mkT a b zF) (high:=mkT a b (cF c)) (by omega) (λ i j hi hj=>by rw [zqx hi hj];exact jf7 _) (λ i j hi hj=>by rw [zqx hi hj];exact jf7 _);rw [e,<- t,zya];have h1:=zfa (f:=wayN a b c (λ i=>(mkT a b zF).getD i []) (λ i=>(mkT a b (cF c)).getD i []) a) (m:=(((zql b c).length ^ a:Nat):Int)) (by omega) (l:=zql b c) λ r _=>(zgi a r).2;have h2:(((zql b c).length ^ (a + 1):Nat):Int)<=((2 ^ 40:Nat):Int):=by exact_mod_cast N.bd
 rw [jn4,jn0,jj5] at h2;exact jf2 h1 (jf2 h2 (by decide))
theorem qmj (N:BoxN a b c):((zkv a b c hs:Nat):Int)<=2 ^ 40:=by
 have:=jg3 (hasT hs) (allP a b c)
 have h2:=qnl N;unfold zkv;omega
theorem qde (N:BoxN a b c) (T:Told a b c hs) (h:leT a b (mkT a b (loF hs)) (mkT a b (hiF c hs))=true):f_how_many_between [bx a b c,tb (mkT a b (loF hs)),tb (mkT a b (hiF c hs))]=.ok (.int ((zkv a b c hs:Nat):Int),om,.non):=by
 have e:(zxg (g (mkT a b (loF hs))) (g (mkT a b (hiF c hs))) c b a).length=zkv a b c hs:=by
  unfold zkv allP;rw [qel T];congr 1;exact zvo a λ i j hi hj=>⟨zqx hi hj,zqx hi hj⟩
 rw [<- e];exact qjk N (zfm T) (zfq T)
theorem qd8 (T:Told a b c hs) (h:leT a b (mkT a b (loF hs)) (mkT a b (hiF c hs))=false):zkv a b c hs=0:=by
 unfold zkv allP;rw [qel T,qh7 h];rfl
theorem qky (T:Told a b c hs) {p:List (List Int)} (hp:Pile a b c p) (h:hasT hs p=true):(∀ i j,i < a->j < b->loF hs i j<=g p i j/\g p i j<=hiF c hs i j):=by
 rw [qgo T hp] at h;exact zmk.mp h
end
end QV
namespace K33
open PySem PySem.Spec PyProof.Rows L2 QQ
abbrev GT:=List (Str×(Bool×Nat×Fn))
abbrev mS (N:List Str) (t:Stmt) (m:List Nat) (G:GT):Sx:=⟨N,zqb t,m,[],G,[],true,[0,1,2,3,4,5,6,7,8,9,10,11],[]⟩
def G0:GT:=[]
def S0:Sx:=⟨["thing"],zqb t0,[],[],G0,[],false,[],[]⟩
abbrev b0:Fs:=QV.Xf_is_whole_number
abbrev F0:Fn:=QV.f_is_whole_number
theorem h0:zqr (denS 60 S0) (zqm t0)=some b0:=by kernel_rfl
def G1:GT:=[("is_whole_number",(false,1,F0))]
def S1:Sx:=⟨["thing"],zqb t1,[],[],G1,[],false,[],[]⟩
abbrev b1:Fs:=QV.Xf_is_box
abbrev F1:Fn:=QV.f_is_box
theorem h1:zqr (denS 60 S1) (zqm t1)=some b1:=by kernel_rfl
def G2:GT:=[("is_box",(false,1,F1))]
def S2:Sx:=⟨["box"],zqb t2,[],[],G2,[],false,[],[]⟩
abbrev b2:Fs:=QV.Xf_must_be_box
abbrev F2:Fn:=QV.f_must_be_box
theorem h2:zqr (denS 60 S2) (zqm t2)=some b2:=by kernel_rfl
def G3:GT:=[("is_whole_number",(false,1,F0))]
def S3:Sx:=⟨["thing","columns","height"],zqb t3,[],[],G3,[],false,[],[]⟩
abbrev b3:Fs:=QV.Xf_is_row_of_heights
abbrev F3:Fn:=QV.f_is_row_of_heights
theorem h3:zqr (denS 60 S3) (zqm t3)=some b3:=by kernel_rfl
def G4:GT:=[]
def S4:Sx:=⟨["numbers"],zqb t4,[],[],G4,[],false,[],[]⟩
abbrev b4:Fs:=QV.Xf_never_rises
abbrev F4:Fn:=QV.f_never_rises
theorem h4:zqr (denS 60 S4) (zqm t4)=some b4:=by kernel_rfl
def G5:GT:=[]
def S5:Sx:=⟨["table","j"],zqb t5,[],[],G5,[],false,[],[]⟩
abbrev b5:Fs:=QV.Xf_column_of
abbrev F5:Fn:=QV.f_column_of
theorem h5:zqr (denS 60 S5) (zqm t5)=some b5:=by kernel_rfl
def G6:GT:=[("must_be_box",(false,1,F2)),("is_row_of_heights",(false,3,F3)),("never_rises",(false,1,F4)),("column_of",(false,2,F5))]
def S6:Sx:=⟨["box","thing","rows","columns","height"],zqb t6,[],[],G6,[],false,[],[]⟩
abbrev b6:Fs:=QV.Xf_is_pile
abbrev F6:Fn:=QV.f_is_pile
theorem h6:zqr (denS 60 S6) (zqm t6)=some b6:=by kernel_rfl
def G7:GT:=[("is_pile",(false,2,F6))]
def S7:Sx:=⟨["box","pile"],zqb t7,[],[],G7,[],false,[],[]⟩
abbrev b7:Fs:=QV.Xf_must_be_pile
abbrev F7:Fn:=QV.f_must_be_pile
theorem h7:zqr (denS 60 S7) (zqm t7)=some b7:=by kernel_rfl
def G8:GT:=[("must_be_pile",(false,2,F7))]
def S8:Sx:=⟨["box","pile","other"],zqb t8,[],[],G8,[],false,[],[]⟩
abbrev b8:Fs:=QV.Xf_must_be_two_piles
abbrev F8:Fn:=QV.f_must_be_two_piles
theorem h8:zqr (denS 60 S8) (zqm t8)=some b8:=by kernel_rfl
def G9:GT:=[]
def S9:Sx:=⟨["box","places","i"],zqb t9,[],[],G9,[],false,[],[]⟩
abbrev b9:Fs:=QV.Xf_places_of
abbrev F9:Fn:=QV.f_places_of
theorem h9:zqr (denS 60 S9) (zqm t9)=some b9:=by kernel_rfl
def G10:GT:=[("is_whole_number",(false,1,F0))]
def S10:Sx:=⟨["box","i","j"],zqb t10,[],[],G10,[],false,[],[]⟩
abbrev b10:Fs:=QV.Xf_is_place
abbrev F10:Fn:=QV.f_is_place
theorem h10:zqr (denS 60 S10) (zqm t10)=some b10:=by kernel_rfl
def G11:GT:=[("must_be_two_piles",(false,3,F8)),("places_of",(false,1,F9))]
def S11:Sx:=⟨["box","pile","other"],zqb t11,[],[],G11,[],false,[],[]⟩
abbrev b11:Fs:=QV.Xf_lies_below
abbrev F11:Fn:=QV.f_lies_below
theorem h11:zqr (denS 60 S11) (zqm t11)=some b11:=by kernel_rfl
def G12:GT:=[]
def S12:Sx:=⟨["columns","height","rows","j","longer","row","most"],zqb t12,[],[],G12,[],false,[],[]⟩
abbrev b12:Fs:=QV.Xf_rows_of_heights
abbrev F12:Fn:=QV.f_rows_of_heights
theorem h12:zqr (denS 60 S12) (zqm t12)=some b12:=by kernel_rfl
def G13:GT:=[]
def S13:Sx:=⟨["tally","other","total","n","many"],zqb t13,[],[],G13,[],false,[],[]⟩
abbrev b13:Fs:=QV.Xf_added
abbrev F13:Fn:=QV.f_added
theorem h13:zqr (denS 60 S13) (zqm t13)=some b13:=by kernel_rfl
def G14:GT:=[("added",(false,2,F13))]
def S14:Sx:=⟨["table","columns","sums","j","row","lower"],zqb t14,[],[],G14,[],false,[],[]⟩
abbrev b14:Fs:=QV.Xf_sums_of_lower_rows
abbrev F14:Fn:=QV.f_sums_of_lower_rows
theorem h14:zqr (denS 60 S14) (zqm t14)=some b14:=by kernel_rfl
def G15:GT:=[]
def S15:Sx:=⟨["row","low","high"],zqb t15,[],[],G15,[],false,[],[]⟩
abbrev b15:Fs:=QV.Xf_lies_between
abbrev F15:Fn:=QV.f_lies_between
theorem h15:zqr (denS 60 S15) (zqm t15)=some b15:=by kernel_rfl
def G16:GT:=[("lies_between",(false,3,F15))]
def S16:Sx:=⟨["behind","low","high","counted","table","row"],zqb t16,[],[],G16,[],false,[],[]⟩
abbrev b16:Fs:=QV.Xf_table_of_row
abbrev F16:Fn:=QV.f_table_of_row
theorem h16:zqr (denS 60 S16) (zqm t16)=some b16:=by kernel_rfl
def G17:GT:=[("rows_of_heights",(false,2,F12)),("sums_of_lower_rows",(false,2,F14)),("table_of_row",(false,4,F16))]
def S17:Sx:=⟨["box","low","high","places","rows","columns","height","table","row","tables","i","counted"],zqb t17,[],[],G17,[],false,[],[]⟩
abbrev b17:Fs:=QV.Xf_tables_between
abbrev F17:Fn:=QV.f_tables_between
theorem h17:zqr (denS 60 S17) (zqm t17)=some b17:=by kernel_rfl
def G18:GT:=[("added",(false,2,F13)),("tables_between",(false,4,F17))]
def S18:Sx:=⟨["box","low","high","places","total","tally"],zqb t18,[],[],G18,[],false,[],[]⟩
abbrev b18:Fs:=QV.Xf_tally_between
abbrev F18:Fn:=QV.f_tally_between
theorem h18:zqr (denS 60 S18) (zqm t18)=some b18:=by kernel_rfl
def G19:GT:=[("must_be_two_piles",(false,3,F8)),("tally_between",(false,4,F18))]
def S19:Sx:=⟨["box","low","high"],zqb t19,[],[],G19,[],false,[],[]⟩
abbrev b19:Fs:=QV.Xf_how_many_between
abbrev F19:Fn:=QV.f_how_many_between
theorem h19:zqr (denS 60 S19) (zqm t19)=some b19:=by kernel_rfl
def G20:GT:=[]
def S20:Sx:=⟨["table","ahead"],zqb t20,[],[],G20,[],false,[],[]⟩
abbrev b20:Fs:=QV.Xf_rows_behind
abbrev F20:Fn:=QV.f_rows_behind
theorem h20:zqr (denS 60 S20) (zqm t20)=some b20:=by kernel_rfl
def G21:GT:=[("rows_behind",(false,2,F20))]
def S21:Sx:=⟨["row","table","ahead"],zqb t21,[],[],G21,[],false,[],[]⟩
abbrev b21:Fs:=QV.Xf_how_many_ahead_of
abbrev F21:Fn:=QV.f_how_many_ahead_of
theorem h21:zqr (denS 60 S21) (zqm t21)=some b21:=by kernel_rfl
def G22:GT:=[("must_be_pile",(false,2,F7)),("must_be_two_piles",(false,3,F8)),("lies_below",(false,3,F11)),("tables_between",(false,4,F17)),("how_many_ahead_of",(false,3,F21))]
def S22:Sx:=⟨["box","low","high","pile","number","ahead","table","row"],zqb t22,[],[],G22,[],false,[],[]⟩
abbrev b22:Fs:=QV.Xf_number_between
abbrev F22:Fn:=QV.f_number_between
theorem h22:zqr (denS 60 S22) (zqm t22)=some b22:=by kernel_rfl
def G23:GT:=[("is_whole_number",(false,1,F0)),("is_place",(false,3,F10))]
def S23:Sx:=⟨["box","heights"],zqb t23,[],[],G23,[],false,[],[]⟩
abbrev b23:Fs:=QV.Xf_must_be_told_heights
abbrev F23:Fn:=QV.f_must_be_told_heights
theorem h23:zqr (denS 60 S23) (zqm t23)=some b23:=by kernel_rfl
def G24:GT:=[]
def S24:Sx:=⟨["heights","i","j"],zqb t24,[],[],G24,[],false,[],[]⟩
abbrev b24:Fs:=QV.Xf_least_height
abbrev F24:Fn:=QV.f_least_height
theorem h24:zqr (denS 60 S24) (zqm t24)=some b24:=by kernel_rfl
def G25:GT:=[]
def S25:Sx:=⟨["heights","i","j","height"],zqb t25,[],[],G25,[],false,[],[]⟩
abbrev b25:Fs:=QV.Xf_greatest_height
abbrev F25:Fn:=QV.f_greatest_height
theorem h25:zqr (denS 60 S25) (zqm t25)=some b25:=by kernel_rfl
def G26:GT:=[("must_be_box",(false,1,F2)),("lies_below",(false,3,F11)),("must_be_told_heights",(false,2,F23)),("least_height",(false,3,F24)),("greatest_height",(false,4,F25))]
def S26:Sx:=⟨["box","heights","low","high","i"],zqb t26,[],[],G26,[],false,[],[]⟩
abbrev b26:Fs:=QV.Xf_bounds_with
abbrev F26:Fn:=QV.f_bounds_with
theorem h26:zqr (denS 60 S26) (zqm t26)=some b26:=by kernel_rfl
def G27:GT:=[]
def S27:Sx:=⟨["script","k"],zqb t27,[],[],G27,[],false,[],[]⟩
abbrev b27:Fs:=QV.Xb_cell_at
abbrev F27:Fn:=QV.b_cell_at
theorem h27:zqr (denS 60 S27) (zqm t27)=some b27:=by kernel_rfl
def G28:GT:=[]
def S28:Sx:=⟨["cell","k","number"],zqb t28,[],[],G28,[],false,[],[]⟩
abbrev b28:Fs:=QV.Xd_mixed
abbrev F28:Fn:=QV.d_mixed
theorem h28:zqr (denS 60 S28) (zqm t28)=some b28:=by kernel_rfl
def G29:GT:=[]
def S29:Sx:=⟨["left","rows","columns","height"],zqb t29,[],[],G29,[],false,[],[]⟩
abbrev b29:Fs:=QV.Xd_box
abbrev F29:Fn:=QV.d_box
theorem h29:zqr (denS 60 S29) (zqm t29)=some b29:=by kernel_rfl
def G30:GT:=[]
def S30:Sx:=⟨["box","left","a","b","c","found","i","row","j","most"],zqb t30,[],[],G30,[],false,[],[]⟩
abbrev b30:Fs:=QV.Xd_pile
abbrev F30:Fn:=QV.d_pile
theorem h30:zqr (denS 60 S30) (zqm t30)=some b30:=by kernel_rfl
def G31:GT:=[("how_many_between",(false,3,F19)),("bounds_with",(false,2,F26))]
def S31:Sx:=⟨["box","heights","found"],zqb t31,[],[],G31,[],false,[],[]⟩
def b31:Fs:=(sSeq (sSet false 2 (zqg F26 (zqa (bVar 0) (zqa (zqd zkm (zqa (bVar 1) (aNil))) (aNil)))) [0,1])
 (sSeq (sIf (bT (bBin (opIs false) (bVar 2) (bC .non))) (sRet (bC (.int 0))) sNil)
 (sRet (zqg F19 (zqa (bVar 0) (zqa (bBin zqc (bVar 2) (bC (.int 0))) (zqa (bBin zqc (bVar 2) (bC (.int 1))) (aNil))))))))
def F31:Fn:=mkFn false 2 1 b31
theorem h31:zqr (denS 60 S31) (zqm t31)=some b31:=by kernel_rfl
def G32:GT:=[("number_between",(false,4,F22)),("bounds_with",(false,2,F26)),("_law_cell_at",(false,2,F27)),("_law_mixed",(false,2,F28)),("_law_box",(false,4,F29)),("_law_pile",(false,2,F30)),("_law_many",(false,2,F31))]
def S32:Sx:=⟨["script","left","box","pile","heights","k","drawn","i","j","found","h","parts","other"],zqb t32,[],[],G32,[],false,[],[]⟩
def b32:Fs:=(sSeq (sSet false 1 (zqg F28 (zqa (zqg F27 (zqa (bVar 0) (zqa (bC (.int 0)) (aNil)))) (zqa (bC (.int 0)) (aNil)))) [0])
 (sSeq (sSet false 2 (bBin zqc (zqd zqs (zqa (zqg F29 (zqa (bVar 1) (zqa (bC (.int 4)) (zqa (bC (.int 3)) (zqa (bC (.int 4)) (aNil)))))) (zqa (zqd zxy (zqa (bBin zqj (bC (.int 1)) (bBin zxj (bVar 1) (bC (.int 2)))) (zqa (bBin zqj (bC (.int 4)) (bBin zxj (bBin zxm (bVar 1) (bC (.int 2))) (bC (.int 3)))) (zqa (bBin zqj (bC (.int 1)) (bBin zxj (bBin zxm (bVar 1) (bC (.int 6))) (bC (.int 3)))) (aNil))))) (aNil)))) (bBin zxj (bBin zxm (bVar 1) (bC (.int 10000))) (bC (.int 2)))) [1,1,1,1,1])
 (sSeq (sSet false 3 (zqg F30 (zqa (bVar 2) (zqa (zqg F28 (zqa (zqg F27 (zqa (bVar 0) (zqa (bC (.int 1)) (aNil)))) (zqa (bC (.int 1)) (aNil)))) (aNil)))) [2,0])
 (sSeq (sSet false 4 (zqd zqs (aNil)) [])
 (sSeq (zvk zqu (zqa (bBin zqj (bC (.int 1)) (bBin zxj (bBin zxm (bVar 1) (bC (.int 64))) (bC (.int 3)))) (aNil)) (asgN 5) (sSeq (sSet false 6 (zqg F28 (zqa (zqg F27 (zqa (bVar 0) (zqa (bBin zqj (bC (.int 2)) (bVar 5)) (aNil)))) (zqa (bBin zqj (bC (.int 2)) (bVar 5)) (aNil)))) [0,5,5])
 (sSeq (sSet false 7 (bBin zxj (bVar 6) (bBin zqc (bVar 2) (bC (.int 0)))) [6,2])
 (sSeq (sSet false 8 (bBin zxj (bBin zxm (bVar 6) (bC (.int 4))) (bBin zqc (bVar 2) (bC (.int 1)))) [6,2])
 (sApp 4 (zqd zxy (zqa (bVar 7) (zqa (bVar 8) (zqa (bBin zqc (bBin zqc (bVar 3) (bVar 7)) (bVar 8)) (aNil))))) [7,8,3,7,8])))))
 (sSeq (sSet false 9 (zqg F26 (zqa (bVar 2) (zqa (zqd zkm (zqa (bVar 4) (aNil))) (aNil)))) [2,4])
 (sSeq (sIf (bT (bOrV (bBin (opIs false) (bVar 9) (bC .non)) (bBin (zxo λ i j=>decide (i < j)) (zqg F22 (zqa (bVar 2) (zqa (bBin zqc (bVar 9) (bC (.int 0))) (zqa (bBin zqc (bVar 9) (bC (.int 1))) (zqa (bVar 3) (aNil)))))) (bC (.int 0))))) (sRet (bC (.bl false))) sNil)
 (sSeq (zji (bVar 4) [4] (asgT [7,8,10]) (sIf (bT (bOrV (bBin (opEq true) (bBin zqc (bBin zqc (bBin zqc (bVar 9) (bC (.int 0))) (bVar 7)) (bVar 8)) (bVar 10)) (bBin (opEq true) (bBin zqc (bBin zqc (bBin zqc (bVar 9) (bC (.int 1))) (bVar 7)) (bVar 8)) (bVar 10)))) (sRet (bC (.bl false))) sNil))
 (sSeq (sSet false 7 (bBin zxj (bBin zxm (bVar 1) (bC (.int 192))) (bBin zqc (bVar 2) (bC (.int 0)))) [1,2])
 (sSeq (sSet false 8 (bBin zxj (bBin zxm (bVar 1) (bC (.int 768))) (bBin zqc (bVar 2) (bC (.int 1)))) [1,2])
 (sSeq (sSet false 11 (zxd zqu (zqa (bBin zqj (bBin zqc (bVar 2) (bC (.int 2))) (bC (.int 1))) (aNil)) 1 (asgN 13) zxk (zqg F31 (zqa (bVar 2) (zqa (bBin zqj (bVar 4) (zqd zqs (zqa (zqd zxy (zqa (bVar 7) (zqa (bVar 8) (zqa (bVar 13) (aNil))))) (aNil)))) (aNil))))) [2,4,7,8])
 (sSeq (sIf (bT (bBin (opEq true) (zqd zvg (zqa (bVar 11) (aNil))) (zqg F31 (zqa (bVar 2) (zqa (bVar 4) (aNil)))))) (sRet (bC (.bl false))) sNil)
 (sSeq (sUnp (asgT [7,8,10]) (bBin zqc (bVar 4) (bC (.int 0))) [4])
 (sSeq (sSet false 12 (bBin zxj (bBin zqj (bBin zqj (bVar 10) (bC (.int 1))) (bBin zxj (bBin zxm (bVar 1) (bC (.int 3072))) (bBin zqc (bVar 2) (bC (.int 2))))) (bBin zqj (bBin zqc (bVar 2) (bC (.int 2))) (bC (.int 1)))) [10,1,2,2])
 (sRet (bBin (opIs false) (zqg F26 (zqa (bVar 2) (zqa (bBin zqj (bVar 4) (zqd zqs (zqa (zqd zxy (zqa (bVar 7) (zqa (bVar 8) (zqa (bVar 12) (aNil))))) (aNil)))) (aNil)))) (bC .non)))))))))))))))))
def F32:Fn:=mkFn false 1 12 b32
theorem h32:zqr (denS 60 S32) (zqm t32)=some b32:=by kernel_rfl
open PySem PySem.Spec PyProof.Rows L2 QQ QV
section
variable {a b c:Nat}{hs:List C3}
theorem qg6 {f:Fx}{ρ ρ1:Rho}{d:Nat} (h:f ρ=.ok (ct hs,d,ρ1)):∃ e,zqd zkm (zqa f aNil) ρ=.ok (ct hs,e,ρ1):=⟨_,zxi (zqp h) rfl⟩
theorem qf1 (N:BoxN a b c) (T:Told a b c hs) (hl:hs.length<=1000):F31 [bx a b c,ct hs]=.ok (.int ((zkv a b c hs:Nat):Int),om,.non):=by
 have ha:=N.box.ha;have hb:=N.box.hb;have hc:=N.hc;obtain ⟨d,eb⟩:=zps T hl ha hb hc;have hF:F31=mkFn false 2 1 b31:=rfl;rw [hF];let R (s2:QQ.Slot):Rho:=[some (bx a b c,0),some (ct hs,0),s2]
 obtain ⟨e,ec⟩:=qg6 (hs:=hs) (f:=bVar 1) (ρ:=R none) (d:=0) rfl;have cool:∀ s2,zqo d [0,1] (R s2)=R s2:=λ s2=>by
  unfold zqo;split <;> rfl
 have v1:sSet false 2 (zqg F26 (zqa (bVar 0) (zqa (zqd zkm (zqa (bVar 1) (aNil))) (aNil)))) [0,1] (R none)=.nx (R (some ((if leT a b (mkT a b (loF hs)) (mkT a b (hiF c hs))=true then bndT a b c hs else .non),d))):=setF (zqh (xs:=[(bx a b c,0),(ct hs,e)]) (zqk rfl (zqp ec)) eb) (show 2 < 3 by decide) (by rw [cool];rfl);cases el:leT a b (mkT a b (loF hs)) (mkT a b (hiF c hs)) with
 | true=>
  rw [el,if_pos rfl] at v1;have t2:bT (bBin (opIs false) (bVar 2) (bC .non)) (R (some (bndT a b c hs,d)))=.ok (false,R (some (bndT a b c hs,d))):=rfl;have cl:zqg F19 (zqa (bVar 0) (zqa (bBin zqc (bVar 2) (bC (.int 0))) (zqa (bBin zqc (bVar 2) (bC (.int 1))) (aNil)))) (R (some (bndT a b c hs,d)))=.ok (.int ((zkv a b c hs:Nat):Int),om,R (some (bndT a b c hs,d))):=zqh (xs:=[(bx a b c,0),(tb (mkT a b (loF hs)),0),(tb (mkT a b (hiF c hs)),0)]) rfl (qde N T el);exact zwg rfl ((zqi v1).trans ((zyu t2).trans (zxz cl)))
 | false=>
  rw [el,if_neg (by decide)] at v1;have t2:bT (bBin (opIs false) (bVar 2) (bC .non)) (R (some (.non,d)))=.ok (true,R (some (.non,d))):=rfl;rw [qd8 T el];exact zwg rfl ((zqi v1).trans (zbi ((if_t t2).trans (zxz (x:=.int 0) (d:=om) rfl))))
theorem zba (T:Told a b c hs) {i j h:Nat} (hi:i < a) (hj:j < b) (hh:h<=c):Told a b c (hs++[(i,j,h)]):=λ x hx=>by
 rcases jd0.mp hx with hx | hx
 ·exact T x hx
 ·rw [jb4.mp hx];exact ⟨hi,hj,hh⟩
end
theorem qqq (l:Int):∃ (a b c:Nat),(1<=a/\1<=b/\1<=c)/\((a<=4/\b<=3/\c<=4)\/(a<=2/\4<=b/\b<=6/\c<=3))/\∀ ρ:Rho,bVar 1 ρ=.ok (.int l,om,ρ)->bBin zqc (zqd zqs (zqa (zqg F29 (zqa (bVar 1) (zqa (bC (.int 4)) (zqa (bC (.int 3)) (zqa (bC (.int 4)) (aNil)))))) (zqa (zqd zxy (zqa (bBin zqj (bC (.int 1)) (bBin zxj (bVar 1) (bC (.int 2)))) (zqa (bBin zqj (bC (.int 4)) (bBin zxj (bBin zxm (bVar 1) (bC (.int 2))) (bC (.int 3)))) (zqa (bBin zqj (bC (.int 1)) (bBin zxj (bBin zxm (bVar 1) (bC (.int 6))) (bC (.int 3)))) (aNil))))) (aNil)))) (bBin zxj (bBin zxm (bVar 1) (bC (.int 10000))) (bC (.int 2))) ρ=.ok (bx a b c,0,ρ):=by
 obtain ⟨x,y,w,hx,hy,hw,eb⟩:=boxN l (r:=4) (s:=3) (t:=4) (by omega) (by omega) (by omega);obtain ⟨p,hp⟩:=zmm (i:=1 + l % 2) (by omega);obtain ⟨q,hq⟩:=zmm (i:=4 + l / 2 % 3) (by omega);obtain ⟨r,hr⟩:=zmm (i:=1 + l / 6 % 3) (by omega);have kl:∀ ρ:Rho,bVar 1 ρ=.ok (.int l,om,ρ)->zqd zqs (zqa (zqg F29 (zqa (bVar 1) (zqa (bC (.int 4)) (zqa (bC (.int 3)) (zqa (bC (.int 4)) (aNil)))))) (zqa (zqd zxy (zqa (bBin zqj (bC (.int 1)) (bBin zxj (bVar 1) (bC (.int 2)))) (zqa (bBin zqj (bC (.int 4)) (bBin zxj (bBin zxm (bVar 1) (bC (.int 2))) (bC (.int 3)))) (zqa (bBin zqj (bC (.int 1)) (bBin zxj (bBin zxm (bVar 1) (bC (.int 6))) (bC (.int 3)))) (aNil))))) (aNil))) ρ=.ok (.lst [bx x y w,bx p q r],om,ρ):=λ ρ e=>by
  have k1:zqg F29 (zqa (bVar 1) (zqa (bC (.int 4)) (zqa (bC (.int 3)) (zqa (bC (.int 4)) (aNil))))) ρ=.ok (bx x y w,om,ρ):=zqh (xs:=[(.int l,om),(.int 4,om),(.int 3,om),(.int 4,om)]) (zqk e rfl) eb;have e1:=zwn (f:=bC (.int 1)) (i:=1) (d:=om) (ρ:=ρ) rfl (zwj (g:=bC (.int 2)) (j:=2) (e:=om) e rfl (by decide));have e2:=zwn (f:=bC (.int 4)) (i:=4) (d:=om) (ρ:=ρ) rfl (zwj (g:=bC (.int 3)) (j:=3) (e:=om) (zvf (g:=bC (.int 2)) (j:=2) (e:=om) e rfl (by decide) (by decide)) rfl (by decide));have e3:=zwn (f:=bC (.int 1)) (i:=1) (d:=om) (ρ:=ρ) rfl (zwj (g:=bC (.int 3)) (j:=3) (e:=om) (zvf (g:=bC (.int 6)) (j:=6) (e:=om) e rfl (by decide) (by decide)) rfl (by decide));rw [hp] at e1;rw [hq] at e2;rw [hr] at e3;exact zxi (zqk k1 (zqp (zxi (z:=bx p q r) (c:=om) (zqk e1 (zqk e2 (zqp e3))) rfl))) rfl
 have km:∀ ρ:Rho,bVar 1 ρ=.ok (.int l,om,ρ)->bBin zxj (bBin zxm (bVar 1) (bC (.int 10000))) (bC (.int 2)) ρ=.ok (.int (l / 10000 % 2),om,ρ):=λ ρ e=>zwj (j:=2) (e:=om) (zvf (j:=10000) (e:=om) e rfl (by decide) (by decide)) rfl (by decide);have e01:l / 10000 % 2=0\/l / 10000 % 2=1:=by omega
 rcases e01 with e | e
 ·refine ⟨x,y,w,by omega,.inl (by omega),λ ρ h=>?_⟩
  have:=km ρ h
  rw [e] at this;exact zqz (kl ρ h) this rfl
 ·refine ⟨p,q,r,by omega,.inr (by omega),λ ρ h=>?_⟩
  have:=km ρ h
  rw [e] at this;exact zqz (kl ρ h) this rfl
theorem qik {h c:Nat}{x:Int} (hh:h<=c) (hc:1<=c):∃ o:Nat,o<=c/\o≠h/\((h:Int) + 1 + x % (c:Int)) % ((c:Int) + 1)=(o:Int):=by
 have m0:=ji4 x (show (c:Int)≠0 by omega);have m1:=jh8 x (show (0:Int) < c by omega);by_cases e:(h:Int) + 1 + x % (c:Int) < (c:Int) + 1
 ·rw [jp5 (by omega) e];exact ⟨((h:Int) + 1 + x % (c:Int)).toNat,by omega,by omega,by omega⟩
 ·have e2:(h:Int) + 1 + x % (c:Int)=((h:Int) + x % (c:Int) - c) + ((c:Int) + 1) * 1:=by omega
  rw [e2,Int.add_mul_emod_self_left,jp5 (by omega) (by omega)];exact ⟨((h:Int) + x % (c:Int) - c).toNat,by omega,by omega,by omega⟩
end K33
namespace QV
open PySem PySem.Spec PyProof.Rows L2 QQ
structure HV (L:List (Option PV)) (O:List Nat) (ρ:Rho):Prop where
 len:ρ.length=L.length
 get:∀ (j:Nat) (x:PV),L[j]?=some (some x)->∃ d,ρ[j]?=some (some (x,d))
 own:∀ j∈O,∃ x d,ρ[j]?=some (some (x,d))/\d≠0
section
variable {L L':List (Option PV)}{O O':List Nat}{ρ:Rho}
theorem HV.of (ρ:Rho):HV (ρ.map λ s=>s.map (·.1)) [] ρ:=by
 refine ⟨by rw [ja3],λ j x h=>?_,λ _ h=>nomatch h⟩;rw [jc1] at h;cases e:ρ[j]? with
 | none=>rw [e] at h;cases h
 | some s=>
  rw [e] at h;cases s with
  | none=>cases h
  | some p=>obtain ⟨y,d⟩:=p;cases h;exact ⟨d,rfl⟩
theorem HV.var {j:Nat}{x:PV} (h:HV L O ρ) (e:L[j]?=some (some x)):bVar j ρ=.ok (x,dv x,ρ):=by
 obtain ⟨d,e⟩:=h.get j x e;unfold bVar;rw [e]
theorem HV.push {x:PV}{d:Nat} (h:HV L O ρ):HV (L++[some x]) O (ρ++[some (x,d)]):=by
 have hl:=h.len;refine ⟨by rw [jb0,jb0,hl];rfl,λ j y e=>?_,λ j hj=>?_⟩
 ·by_cases hj:j < L.length
  ·rw [jb3 hj] at e;obtain ⟨d,e⟩:=h.get j y e;exact ⟨d,by rw [jb3 (by omega)];exact e⟩
  ·rw [jc8 (by omega)] at e;rw [jc8 (by omega),hl];cases hk:j - L.length with
   | zero=>rw [hk] at e;cases e;exact ⟨d,rfl⟩
   | succ n=>rw [hk] at e;cases e
 ·obtain ⟨y,d,e,hd⟩:=h.own j hj;exact ⟨y,d,by rw [jb3 (jb2.mp e).1];exact e,hd⟩
def Wk:List (Option PV)->List (Option PV)->Prop
 | [],[]=>True
 | none::a,_::b=>Wk a b
 | some x::a,some y::b=>x=y/\Wk a b
 | _,_=>False
theorem Wk.get:∀ {a b:List (Option PV)},Wk a b->a.length=b.length/\∀ (j:Nat) (x:PV),a[j]?=some (some x)->b[j]?=some (some x)
 | [],[],_=>⟨rfl,λ j x h=>by cases h⟩
 | none::a,y::b,h=>by
  obtain ⟨h1,h2⟩:=Wk.get (a:=a) (b:=b) (by cases y <;> exact h);refine ⟨by rw [jb1,jb1,h1],λ j x e=>?_⟩;cases j with
  | zero=>cases e
  | succ j=>exact h2 j x e
 | some x::a,some y::b,h=>by
  obtain ⟨h0,h⟩:x=y/\Wk a b:=h;obtain ⟨h1,h2⟩:=Wk.get h;refine ⟨by rw [jb1,jb1,h1],λ j z e=>?_⟩;cases j with
  | zero=>rw [<- h0];exact e
  | succ j=>exact h2 j z e
 | some x::a,none::b,h=>h.elim
 | [],_::_,h=>h.elim
 | some _::_,[],h=>h.elim
 | none::_,[],h=>h.elim
theorem HV.weak (h:HV L O ρ) (w:Wk L' L) (ho:∀ j∈O',j∈O):HV L' O' ρ:=⟨h.len.trans w.get.1.symm,λ j x e=>h.get j x (w.get.2 j x e),λ j hj=>h.own j (ho j hj)⟩
theorem qjm {d j e:Nat}{vs:List Nat}{x:PV} (h:ρ[j]?=some (some (x,e))):∃ e',(zqo d vs ρ)[j]?=some (some (x,e')):=by
 unfold zqo;split
 ·exact ⟨e,h⟩
 ·rw [zyn,h];dsimp only [js0];split
  ·exact ⟨0,rfl⟩
  ·exact ⟨e,rfl⟩
theorem qne {d:Nat}{vs:List Nat}{ρ:Rho}:(zqo d vs ρ).length=ρ.length:=by
 unfold zqo;split
 ·rfl
 ·exact zjv vs ρ 0
theorem HV.cool {d:Nat}{vs:List Nat} (h:HV L O ρ):HV L [] (zqo d vs ρ):=⟨by rw [qne];exact h.len,λ j x e=>by
 obtain ⟨d',e⟩:=h.get j x e;exact qjm e,λ _ h=>nomatch h⟩
theorem HV.coolO {vs:List Nat} (h:HV L O ρ):HV L O (zqo om vs ρ):=by
 unfold zqo;rw [if_pos rfl];exact h
theorem HV.put {i d:Nat}{x:PV} (h:HV L O ρ) (hi:i < L.length) (ho:i∉O\/d≠0):HV (L.set i (some x)) O (ρ.set i (some (x,d))):=by
 have hl:=h.len;refine ⟨by rw [je0,je0,hl],λ j y e=>?_,λ j hj=>?_⟩
 ·by_cases hj:i=j
  ·subst hj;rw [jc5 hi] at e;cases e;exact ⟨d,jc5 (by omega)⟩
  ·rw [jc4 hj] at e;rw [jc4 hj];exact h.get j y e
 ·by_cases hij:i=j
  ·subst hij;rcases ho with ho | ho
   ·exact absurd hj ho
   ·exact ⟨x,d,jc5 (by omega),ho⟩
  ·rw [jc4 hij];exact h.own j hj
theorem HV.putO {i d:Nat}{x:PV} (h:HV L O ρ) (hi:i < L.length) (hd:d≠0):HV (L.set i (some x)) (i::O) (ρ.set i (some (x,d))):=by
 have h1:=h.put (x:=x) (d:=d) hi (.inr hd);refine ⟨h1.len,h1.get,λ j hj=>?_⟩;rcases jc0.mp hj with rfl | hj
 ·exact ⟨x,d,jc5 (by rw [h.len];exact hi),hd⟩
 ·exact h1.own j hj
theorem HV.set {i d:Nat}{f:Fx}{vs:List Nat}{x:PV} (h:HV L O ρ) (hf:f ρ=.ok (x,d,ρ)) (hi:i < L.length):∃ ρ',sSet false i f vs ρ=.nx ρ'/\HV (L.set i (some x)) [] ρ':=⟨_,setF hf (by rw [h.len];exact hi) rfl,(h.cool).put hi (.inl (λ h=>nomatch h))⟩
theorem HV.setO {i:Nat}{f:Fx}{vs:List Nat}{x:PV} (h:HV L O ρ) (hf:f ρ=.ok (x,om,ρ)) (hi:i < L.length):∃ ρ',sSet false i f vs ρ=.nx ρ'/\HV (L.set i (some x)) O ρ':=⟨_,setF hf (by rw [h.len];exact hi) rfl,(h.coolO).put hi (.inr (by decide))⟩
theorem HV.setN {i:Nat}{f:Fx}{vs:List Nat}{x:PV} (h:HV L O ρ) (hf:f ρ=.ok (x,om,ρ)) (hi:i < L.length):∃ ρ',sSet false i f vs ρ=.nx ρ'/\HV (L.set i (some x)) (i::O) ρ':=⟨_,setF hf (by rw [h.len];exact hi) rfl,(h.coolO).putO hi (by decide)⟩
theorem HV.app {i:Nat}{f:Fx}{vs:List Nat}{xs:List PV}{y:PV} (h:HV L O ρ) (hx:L[i]?=some (some (.lst xs))) (ho:i∈O) (hf:f ρ=.ok (y,om,ρ)) (hl:xs.length < va5):∃ ρ',sApp i f vs ρ=.nx ρ'/\HV (L.set i (some (.lst (xs++[y])))) O ρ':=by
 obtain ⟨x,d,e,hd⟩:=h.own i ho;obtain ⟨d',e'⟩:=h.get i _ hx;rw [e] at e';cases e';obtain ⟨d0,rfl⟩:∃ d0,d=d0 + 1:=⟨d - 1,by omega⟩
 have hi:i < L.length:=(jb2.mp hx).1;have c:zqo om vs ρ=ρ:=by unfold zqo;rw [if_pos rfl]
 exact ⟨_,zmv (d:=d0 + 1) e hf (by rw [c];exact e) hd hl rfl,by rw [c];exact h.put hi (.inr (by split <;> decide))⟩
theorem HV.asgN {i:Nat} (x:PV) (h:HV L O ρ) (hi:i < L.length) (ho:i∉O):∃ ρ',asgN i x ρ=some ρ'/\HV (L.set i (some x)) O ρ':=by
 refine ⟨_,?_,h.put (x:=x) (d:=dv x) hi (.inl ho)⟩;unfold QQ.asgN;rw [if_pos (by rw [h.len];exact hi)]
theorem HV.asg3 {i j k:Nat} (x y z:PV) (h:HV L O ρ) (hi:i < L.length) (hj:j < L.length) (hk:k < L.length) (ho:i∉O/\j∉O/\k∉O):∃ ρ',asgT [i,j,k] (.tup [x,y,z]) ρ=some ρ'/\HV (((L.set i (some x)).set j (some y)).set k (some z)) O ρ':=by
 have hl:=h.len;refine ⟨((ρ.set i (some (x,dv x))).set j (some (y,dv y))).set k (some (z,dv z)),?_,((h.put hi (.inl ho.1)).put (by rw [je0];exact hj) (.inl ho.2.1)).put (by rw [je0,je0];exact hk) (.inl ho.2.2)⟩;unfold QQ.asgT;dsimp only;rw [asgs,QQ.asgN,if_pos (by omega)];show asgs [j,k] [y,z] _=_;rw [asgs,QQ.asgN,if_pos (by rw [je0];omega)];show asgs [k] [z] _=_;rw [asgs,QQ.asgN,if_pos (by rw [je0,je0];omega)];rfl
theorem qa7 {asg:PV->Rho->Option Rho}{body:Fs}:∀ (els:List PV) (I:Nat->Rho->Prop) (ρ:Rho),I 0 ρ->(∀ j x ρ,els[j]?=some x->I j ρ->∃ ρ1 ρ2,asg x ρ=some ρ1/\body ρ1=.nx ρ2/\I (j + 1) ρ2)->∃ ρ',zwk asg body els ρ=.nx ρ'/\I els.length ρ'
 | [],I,ρ,h0,_=>⟨ρ,rfl,h0⟩
 | x::els,I,ρ,h0,hs=>by
  obtain ⟨ρ1,ρ2,e1,e2,h2⟩:=hs 0 x ρ rfl h0;obtain ⟨ρ',e,h⟩:=qa7 els (λ j=>I (j + 1)) ρ2 h2 λ j y ρ hj=>hs (j + 1) y ρ hj;exact ⟨ρ',by rw [zwk,e1];dsimp only;rw [e2];exact e,h⟩
def Gv (s:Fs) (ρ:Rho) (y:PV):Prop:=∃ d ρ',s ρ=.rt y d ρ'
theorem Gv.nx {s r:Fs}{ρ1:Rho}{y:PV} (e:s ρ=.nx ρ1) (h:Gv r ρ1 y):Gv (sSeq s r) ρ y:=by
 obtain ⟨d,ρ',h⟩:=h;exact ⟨d,ρ',(zqi e).trans h⟩
theorem Gv.ex {s r:Fs}{P:Rho->Prop}{y:PV} (e:∃ ρ1,s ρ=.nx ρ1/\P ρ1) (h:∀ ρ1,P ρ1->Gv r ρ1 y):Gv (sSeq s r) ρ y:=by
 obtain ⟨ρ1,e,p⟩:=e;exact Gv.nx e (h ρ1 p)
theorem Gv.no {c:Fb}{f r:Fs}{y:PV} (hc:c ρ=.ok (false,ρ)) (h:Gv r ρ y):Gv (sSeq (sIf c f sNil) r) ρ y:=by
 obtain ⟨d,ρ',h⟩:=h;exact ⟨d,ρ',(zyu hc).trans h⟩
theorem Gv.ret {f:Fx}{ρ1:Rho}{d:Nat}{y:PV} (h:f ρ=.ok (y,d,ρ1)):Gv (sRet f) ρ y:=⟨_,_,zxz h⟩
theorem Gv.fn {np k:Nat}{b:Fs}{xs:List PV}{y:PV} (hl:xs.length=np) (h:Gv b (xs.map (λ x=>some (x,dv x))++ja6 k none) y):∃ d z,mkFn false np k b xs=.ok (y,d,z):=by
 obtain ⟨d,ρ',h⟩:=h;exact ⟨_,_,zwg hl h⟩
theorem HV.unp3 {i j k:Nat}{f:Fx}{vs:List Nat}{x y z:PV}{d:Nat} (h:HV L O ρ) (hf:f ρ=.ok (.tup [x,y,z],d,ρ)) (hi:i < L.length) (hj:j < L.length) (hk:k < L.length):∃ ρ',sUnp (asgT [i,j,k]) f vs ρ=.nx ρ'/\HV (((L.set i (some x)).set j (some y)).set k (some z)) [] ρ':=by
 obtain ⟨ρ',e,h'⟩:=(h.cool (d:=d) (vs:=vs)).asg3 x y z hi hj hk ⟨λ h=>(nomatch h),λ h=>(nomatch h),λ h=>(nomatch h)⟩;exact ⟨ρ',qnp hf e,h'⟩
end
end QV
namespace K33
open PySem PySem.Spec PyProof.Rows L2 QQ QV
section
variable {a b c:Nat}{hs:List C3}{t:List (List Int)}
theorem qga {t u:List (List Int)}:leT a b t u=true↔∀ i j,i < a->j < b->g t i j<=g u i j:=by
 unfold leT;rw [jb5];exact ⟨λ h i j hi hj=>of_decide_eq_true (h (i,j) (zxs.mpr ⟨hi,hj⟩)),λ h z hz=>decide_eq_true (h z.1 z.2 (zxs.mp hz).1 (zxs.mp hz).2)⟩
theorem zbs (x:Int) {n:Nat} (h:1<=n):∃ i:Nat,i < n/\x % (n:Int)=(i:Int):=by
 have m0:=ji4 x (show (n:Int)≠0 by omega);have m1:=jh8 x (show (0:Int) < n by omega);exact ⟨(x % (n:Int)).toNat,by omega,by omega⟩
structure Tl (a b c:Nat) (t:List (List Int)) (hs:List C3):Prop where
 told:Told a b c hs
 has:hasT hs t=true
theorem Tl.snoc (p:Pile a b c t) (h:Tl a b c t hs) {i j:Nat} (hi:i < a) (hj:j < b):∃ n:Nat,g t i j=(n:Int)/\Tl a b c t (hs++[(i,j,n)]):=by
 have h0:=p.lo i j hi hj;have h1:=p.hi i j hi hj;refine ⟨(g t i j).toNat,by omega,zba h.told hi hj (by omega),?_⟩;rw [zhv,h.has,jo8];refine decide_eq_true ?_;unfold hgt;dsimp only;omega
theorem qfu (hl:hs.length<=1000) {ρ:Rho}{f:Fx}{i j k d:Nat} (h1:bVar 4 ρ=.ok (ct hs,0,ρ)) (h2:f ρ=.ok (c3 (i,j,k),d,ρ)):∃ d,bBin zqj (bVar 4) (zqd zqs (zqa f aNil)) ρ=.ok (ct (hs++[(i,j,k)]),d,ρ):=by
 have z:=sz;have e:ct (hs++[(i,j,k)])=.lst (hs.map c3++[c3 (i,j,k)]):=by unfold ct;rw [je4];rfl
 have h3:zqd zqs (zqa f aNil) ρ=.ok (.lst [c3 (i,j,k)],_,ρ):=zxi (zqp h2) rfl;rw [e];exact ⟨_,qho h1 h3 (by rw [ja3];show hs.length + 1<=_;omega)⟩
def Fr (ns:List Int) (s1 s2 s3 s4 s5 s6 s7 s8 s9 s10 s11 s12:Option PV):List (Option PV):=[some (.scr ns),s1,s2,s3,s4,s5,s6,s7,s8,s9,s10,s11,s12]
theorem law_true:∀ ns:List Int,ns.length<=63->∃ d z,F32 [.scr ns]=.ok (.bl true,d,z):=by
 intro ns _;refine Gv.fn rfl (show Gv b32 [some (.scr ns,om),none,none,none,none,none,none,none,none,none,none,none,none] _ from ?_);obtain ⟨l,el⟩:=zfl (ns.getD 0 0) 0 (by omega);obtain ⟨l1,el1⟩:=zfl (ns.getD 1 0) 1 (by omega);obtain ⟨a,b,c,hp,hk,eb⟩:=qqq l;have N:BoxN a b c:=qrn hp.1 hp.2.1 hp.2.2 hk;have z:=sz;obtain ⟨t,dt,pt,et⟩:=qjg (a:=a) (b:=b) (c:=c) l1 (by omega) (by omega) (by omega);have h0:HV (Fr ns none none none none none none none none none none none none) [] [some (.scr ns,om),none,none,none,none,none,none,none,none,none,none,none,none]:=HV.of [some (.scr ns,om),none,none,none,none,none,none,none,none,none,none,none,none];refine Gv.ex (h0.setO (x:=.int l) (zqh (xs:=[(.int (ns.getD 0 0),om),(.int 0,om)]) (zqk (zqh (xs:=[(.scr ns,om),(.int 0,om)]) (zqk (h0.var rfl) (zqp rfl)) (qbn ns 0)) (zqp rfl)) el) (show 1 < 13 by decide)) λ ρ1 h1=>?_;refine Gv.ex (h1.set (x:=bx a b c) (eb ρ1 (h1.var rfl)) (show 2 < 13 by decide)) λ ρ2 h2=>?_;refine Gv.ex (h2.set (x:=tb t) (zqh (xs:=[(bx a b c,0),(.int l1,om)]) (zqk (h2.var rfl) (zqp (zqh (xs:=[(.int (ns.getD 1 0),om),(.int 1,om)]) (zqk (zqh (xs:=[(.scr ns,om),(.int 1,om)]) (zqk (h2.var rfl) (zqp rfl)) (qbn ns 1)) (zqp rfl)) el1))) et) (show 3 < 13 by decide)) λ ρ3 h3=>?_;refine Gv.ex (h3.setN (x:=.lst []) rfl (show 4 < 13 by decide)) λ ρ4 (h4:HV (Fr ns (some (.int l)) (some (bx a b c)) (some (tb t)) (some (ct [])) none none none none none none none none) [4] ρ4)=>?_;have K:∀ (k:Nat) {L:List (Option PV)}{O:List Nat}{ρ:Rho},k<=100->HV L O ρ->L[0]?=some (some (.scr ns))->∀ f:Fx,f ρ=.ok (.int (k:Int),om,ρ)->∃ x:Int,zqg F28 (zqa (zqg F27 (zqa (bVar 0) (zqa f (aNil)))) (zqa f (aNil))) ρ=.ok (.int x,om,ρ):=λ k L O ρ hk h e f hf=>by
  obtain ⟨x,ex⟩:=zfl (ns.getD k 0) k (by omega);exact ⟨x,zqh (xs:=[(.int (ns.getD k 0),om),(.int (k:Int),om)]) (zqk (zqh (xs:=[(.scr ns,om),(.int (k:Int),om)]) (zqk (h.var e) (zqp hf)) (qbn ns k)) (zqp hf)) ex⟩
 obtain ⟨m,hm,em⟩:=zbs (l / 64) (n:=3) (by omega);have em:l / 64 % 3=(m:Int):=em;let Q (hs:List C3) (s5 s6 s7 s8:Option PV):=Fr ns (some (.int l)) (some (bx a b c)) (some (tb t)) (some (ct hs)) s5 s6 s7 s8 none none none none;let I (n:Nat) (ρ:Rho):Prop:=∃ hs,hs.length=n/\Tl a b c t hs/\HV (Q hs none none none none) [4] ρ;refine Gv.ex (P:=I (1 + m)) ?_ λ ρ5 ⟨hs,hn,T,h5⟩=>?_
 ·obtain ⟨ρ',e,h⟩:=qa7 (asg:=asgN 5) (body:=(sSeq (sSet false 6 (zqg F28 (zqa (zqg F27 (zqa (bVar 0) (zqa (bBin zqj (bC (.int 2)) (bVar 5)) (aNil)))) (zqa (bBin zqj (bC (.int 2)) (bVar 5)) (aNil)))) [0,5,5]) (sSeq (sSet false 7 (bBin zxj (bVar 6) (bBin zqc (bVar 2) (bC (.int 0)))) [6,2]) (sSeq (sSet false 8 (bBin zxj (bBin zxm (bVar 6) (bC (.int 4))) (bBin zqc (bVar 2) (bC (.int 1)))) [6,2]) (sApp 4 (zqd zxy (zqa (bVar 7) (zqa (bVar 8) (zqa (bBin zqc (bBin zqc (bVar 3) (bVar 7)) (bVar 8)) (aNil))))) [7,8,3,7,8]))))) ((ja7 (1 + m)).map λ (k:Nat)=>.int (k:Int)) I ρ4 ⟨[],rfl,⟨λ _ h=>(nomatch h),rfl⟩,h4⟩ (by
   rintro k x ρ hx ⟨hs,hn,T,h⟩;obtain ⟨hk,rfl⟩:k < 1 + m/\x=.int (k:Int):=by
    rw [jc1] at hx;by_cases hk:k < 1 + m
    ·rw [jg6 hk] at hx;cases hx;exact ⟨hk,rfl⟩
    ·rw [je1 (by rw [je8];omega)] at hx;cases hx
   obtain ⟨ρa,ea,ha⟩:=h.asgN (i:=5) (.int (k:Int)) (show 5 < 13 by decide) (by decide);obtain ⟨x,ex⟩:=K (2 + k) (by omega) ha rfl (bBin zqj (bC (.int 2)) (bVar 5)) (by
    have:=zwn (f:=bC (.int 2)) (i:=2) (d:=om) rfl (ha.var (j:=5) (x:=.int (k:Int)) rfl)
    rw [this];rfl)
   obtain ⟨i,hi,ei⟩:=zbs x (n:=a) (by omega);obtain ⟨j,hj,ej⟩:=zbs (x / 4) (n:=b) (by omega);obtain ⟨n,en,T'⟩:=T.snoc pt hi hj;obtain ⟨ρb,eb,hb⟩:=ha.setO (i:=6) (vs:=[0,5,5]) ex (show 6 < 13 by decide);obtain ⟨ρc,ec,hc⟩:=hb.setO (i:=7) (vs:=[6,2]) (f:=bBin zxj (bVar 6) (bBin zqc (bVar 2) (bC (.int 0)))) (x:=.int (i:Int)) (by
    rw [<- ei];exact zwj (hb.var rfl) (zqz (x:=bx a b c) (d:=0) (e:=om) (hb.var rfl) rfl rfl) (by omega)) (show 7 < 13 by decide)
   obtain ⟨ρd,ed,hd⟩:=hc.setO (i:=8) (vs:=[6,2]) (f:=bBin zxj (bBin zxm (bVar 6) (bC (.int 4))) (bBin zqc (bVar 2) (bC (.int 1)))) (x:=.int (j:Int)) (by
    rw [<- ej];exact zwj (zvf (j:=4) (e:=om) (hc.var rfl) rfl (by decide) (by decide)) (zqz (x:=bx a b c) (d:=0) (e:=om) (hc.var rfl) rfl rfl) (by omega)) (show 8 < 13 by decide)
   obtain ⟨ρe,ee,he⟩:=hd.app (i:=4) (xs:=hs.map c3) (f:=zqd zxy (zqa (bVar 7) (zqa (bVar 8) (zqa (bBin zqc (bBin zqc (bVar 3) (bVar 7)) (bVar 8)) (aNil))))) (vs:=[7,8,3,7,8]) (y:=c3 (i,j,n)) rfl (by decide) (by
    have:=zpe (i:=i) (j:=j) pt.tab (hd.var (j:=3) rfl) (hd.var (j:=7) rfl) (hd.var (j:=8) rfl) hi hj
    rw [en] at this;exact zxi (zqk (hd.var rfl) (zqk (hd.var rfl) (zqp this))) rfl) (by rw [ja3];omega)
   refine ⟨ρa,ρe,ea,(zqi eb).trans ((zqi ec).trans ((zqi ed).trans ee)),hs++[(i,j,n)],by rw [jb0,hn];rfl,T',he.weak ?_ λ _ h=>h⟩;refine ⟨rfl,rfl,rfl,rfl,?_,trivial⟩;unfold ct;rw [je4];rfl)
  refine ⟨ρ',qm5 (n:=1 + m) (as:=[(.int ((1 + m:Nat):Int),om)]) (zqp ?_) (zxu (by omega) (by omega)) e,by simpa using h⟩
  have:=zwn (f:=bC (.int 1)) (i:=1) (d:=om) (ρ:=ρ4) rfl (zwj (g:=bC (.int 3)) (j:=3) (e:=om) (zvf (g:=bC (.int 64)) (j:=64) (e:=om) (h4.var (j:=1) rfl) rfl (by decide) (by decide)) rfl (by decide))
  rw [em] at this;rw [this];congr 3
 have hl:hs.length<=1000:=by omega
 have at':=qky T.told pt T.has;have le:leT a b (mkT a b (loF hs)) (mkT a b (hiF c hs))=true:=qf9.mpr λ i j hi hj=>jf2 (at' i j hi hj).1 (at' i j hi hj).2;obtain ⟨db,ebd⟩:=zps T.told hl (by omega) (by omega) (by omega);rw [if_pos le] at ebd;obtain ⟨dc,ec⟩:=qg6 (hs:=hs) (f:=bVar 4) (h5.var rfl);let W (s7 s8 s10 s11 s12:Option PV):=Fr ns (some (.int l)) (some (bx a b c)) (some (tb t)) (some (ct hs)) none none s7 s8 (some (bndT a b c hs)) s10 s11 s12;refine Gv.ex (h5.set (x:=bndT a b c hs) (zqh (xs:=[(bx a b c,0),(ct hs,dc)]) (zqk (h5.var rfl) (zqp ec)) ebd) (show 9 < 13 by decide)) λ ρ6 (h6:HV (W none none none none none) [] ρ6)=>?_;have i0:∀ {ρ:Rho}{s7 s8 s10 s11 s12:Option PV},HV (W s7 s8 s10 s11 s12) [] ρ->bBin zqc (bVar 9) (bC (.int 0)) ρ=.ok (tb (mkT a b (loF hs)),0,ρ):=λ h=>zqz (x:=bndT a b c hs) (d:=0) (e:=om) (h.var rfl) rfl rfl;have i1:∀ {ρ:Rho}{s7 s8 s10 s11 s12:Option PV},HV (W s7 s8 s10 s11 s12) [] ρ->bBin zqc (bVar 9) (bC (.int 1)) ρ=.ok (tb (mkT a b (hiF c hs)),0,ρ):=λ h=>zqz (x:=bndT a b c hs) (d:=0) (e:=om) (h.var rfl) rfl rfl;have le1:leT a b (mkT a b (loF hs)) t=true:=qga.mpr λ i j hi hj=>by rw [zqx hi hj];exact (at' i j hi hj).1
 have le2:leT a b t (mkT a b (hiF c hs))=true:=qga.mpr λ i j hi hj=>by rw [zqx hi hj];exact (at' i j hi hj).2
 refine Gv.no (t_ok (qdk (a:=false) (b:=false) (zqz (x:=bndT a b c hs) (d:=0) (e:=om) (h6.var rfl) rfl rfl) (λ _=>?_) rfl)) ?_
 ·have:=zzr (p:=λ i j=>decide (i < j)) (g:=bC (.int 0)) (j:=0) (e:=om) (zqh (F:=F22) (xs:=[(bx a b c,0),(tb (mkT a b (loF hs)),0),(tb (mkT a b (hiF c hs)),0),(tb t,0)]) (zqk (h6.var (j:=2) rfl) (zqk (i0 h6) (zqk (i1 h6) (zqp (h6.var (j:=3) rfl))))) (qfp N (zfm T.told) (zfq T.told) pt le1 le2)) rfl
  rw [this,decide_eq_false (by have:=qa1 (a:=a) (b:=b) (c:=c) (low:=mkT a b (loF hs)) (high:=mkT a b (hiF c hs)) (pile:=t);omega)]
 refine Gv.ex (P:=HV (W none none none none none) []) ?_ λ ρ7 h7=>?_
 ·obtain ⟨ρ',e,h⟩:=qa7 (asg:=asgT [7,8,10]) (body:=(sIf (bT (bOrV (bBin (opEq true) (bBin zqc (bBin zqc (bBin zqc (bVar 9) (bC (.int 0))) (bVar 7)) (bVar 8)) (bVar 10)) (bBin (opEq true) (bBin zqc (bBin zqc (bBin zqc (bVar 9) (bC (.int 1))) (bVar 7)) (bVar 8)) (bVar 10)))) (sRet (bC (.bl false))) sNil)) (hs.map c3) (λ _=>HV (W none none none none none) []) (zqo 0 [4] ρ6) h6.cool (by
   intro k x ρ hx h;obtain ⟨y,hy,rfl⟩:∃ y∈hs,x=c3 y:=by
    rw [jc1] at hx;cases e:hs[k]? with
    | none=>rw [e] at hx;cases hx
    | some y=>rw [e] at hx;cases hx;exact ⟨y,jn5 e,rfl⟩
   obtain ⟨i,j,n⟩:=y;have ty:i < a/\j < b/\n<=c:=T.told _ hy;obtain ⟨ρa,ea,ha⟩:=h.asg3 (i:=7) (j:=8) (k:=10) (.int (i:Int)) (.int (j:Int)) (.int (n:Int)) (show 7 < 13 by decide) (show 8 < 13 by decide) (show 10 < 13 by decide) ⟨λ h=>(nomatch h),λ h=>(nomatch h),λ h=>(nomatch h)⟩;have hg:g t i j=(n:Int):=of_decide_eq_true (jb5.mp T.has _ hy);have g0:g (mkT a b (loF hs)) i j=(n:Int):=by
    rw [zqx ty.1 ty.2.1];have h1:(n:Int)<=loF hs i j:=qf5 (x:=(i,j,n)) (i:=i) (j:=j) hy (ja4 _) (ja4 _);have h2:=(at' i j ty.1 ty.2.1).1;omega
   have g1:g (mkT a b (hiF c hs)) i j=(n:Int):=by
    rw [zqx ty.1 ty.2.1];have h1:hiF c hs i j<=(n:Int):=qgm (c:=c) (x:=(i,j,n)) (i:=i) (j:=j) hy (ja4 _) (ja4 _);have h2:=(at' i j ty.1 ty.2.1).2;omega
   have e0:=qbg (neg:=true) (zpe (i:=i) (j:=j) (zfm T.told).tab (i0 ha) (ha.var (j:=7) rfl) (ha.var (j:=8) rfl) ty.1 ty.2.1) (ha.var (j:=10) (x:=.int (n:Int)) rfl);have e1:=qbg (neg:=true) (zpe (i:=i) (j:=j) (zfq T.told).tab (i1 ha) (ha.var (j:=7) rfl) (ha.var (j:=8) rfl) ty.1 ty.2.1) (ha.var (j:=10) (x:=.int (n:Int)) rfl);rw [g0,decide_eq_true rfl] at e0;rw [g1,decide_eq_true rfl] at e1;exact ⟨ρa,ρa,ea,(if_f (t_ok (qdk (a:=false) (b:=false) e0 (λ _=>e1) rfl))).trans rfl,ha.weak ⟨rfl,rfl,rfl,rfl,rfl,rfl,trivial⟩ λ _ h=>h⟩)
  exact ⟨ρ',qbf (els:=hs.map c3) (d:=0) (h6.var (j:=4) (x:=ct hs) rfl) rfl e,h⟩
 obtain ⟨i,hi,ei⟩:=zbs (l / 192) (n:=a) (by omega);obtain ⟨j,hj,ej⟩:=zbs (l / 768) (n:=b) (by omega);refine Gv.ex (h7.setO (x:=.int (i:Int)) (by
  rw [<- ei];exact zwj (zvf (j:=192) (e:=om) (h7.var rfl) rfl (by decide) (by decide)) (zqz (x:=bx a b c) (d:=0) (e:=om) (h7.var rfl) rfl rfl) (by omega)) (show 7 < 13 by decide)) λ ρ8 h8=>?_
 refine Gv.ex (h8.setO (x:=.int (j:Int)) (by
  rw [<- ej];exact zwj (zvf (j:=768) (e:=om) (h8.var rfl) rfl (by decide) (by decide)) (zqz (x:=bx a b c) (d:=0) (e:=om) (h8.var rfl) rfl rfl) (by omega)) (show 8 < 13 by decide)) λ ρ9 (h9:HV (W (some (.int (i:Int))) (some (.int (j:Int))) none none none) [] ρ9)=>?_
 refine Gv.ex (h9.setO (x:=il ((ja7 (c + 1)).map λ (h:Nat)=>((zkv a b c (hs++[(i,j,h)]):Nat):Int))) (by
  have:=zzk (n:=13) (en:=zqu) (fa:=zqa (bBin zqj (bBin zqc (bVar 2) (bC (.int 2))) (bC (.int 1))) (aNil)) (elt:=zqg F31 (zqa (bVar 2) (zqa (bBin zqj (bVar 4) (zqd zqs (zqa (zqd zxy (zqa (bVar 7) (zqa (bVar 8) (zqa (bVar 13) (aNil))))) (aNil)))) (aNil)))) (q:=λ (h:Nat)=>.int ((zkv a b c (hs++[(i,j,h)]):Nat):Int)) (ρ:=ρ9) (ρ1:=ρ9) (lo:=0) (hi:=(c:Int) + 1) (zqp (zwn (j:=1) (e:=om) (zqz (x:=bx a b c) (d:=0) (e:=om) (h9.var rfl) rfl rfl) rfl)) (zxu (by omega) (by omega)) h9.len (λ k hk=>by
   rw [jf1];have hp:=h9.push (x:=.int (k:Int)) (d:=om);obtain ⟨d,e⟩:=qfu hl (i:=i) (j:=j) (k:=k) (f:=zqd zxy (zqa (bVar 7) (zqa (bVar 8) (zqa (bVar 13) (aNil))))) (hp.var rfl) (zxi (zqk (hp.var rfl) (zqk (hp.var rfl) (zqp (hp.var rfl)))) rfl);exact zqh (xs:=[(bx a b c,0),(ct (hs++[(i,j,k)]),d)]) (zqk (hp.var rfl) (zqp e)) (qf1 N (zba T.told hi hj (by omega)) (by rw [jb0];show hs.length + 1<=_;omega))) (by omega)
  rw [this,show ((c:Int) + 1 - 0).toNat=c + 1 by omega];unfold il;rw [jd7];rfl) (show 11 < 13 by decide)) λ ρ10 h10=>?_
 refine Gv.no (t_ok (b:=false) (d:=om) ?_) ?_
 ·have:=qbg (neg:=true) (zgq (zqp (h10.var (j:=11) rfl)) ?_) (zqh (F:=F31) (xs:=[(bx a b c,0),(ct hs,0)]) (zqk (h10.var (j:=2) rfl) (zqp (h10.var (j:=4) rfl))) (qf1 N T.told hl))
  ·rw [this,decide_eq_true (show (List.map (λ (h:Nat)=>((zkv a b c (hs++[(i,j,h)]):Nat):Int)) (ja7 (c + 1))).sum=_ from qdp hi hj)];rfl
  ·unfold zyb;rw [ja9];refine ⟨decide_eq_true (by rw [ja3,je8];omega),jb5.mpr λ x hx=>?_⟩;obtain ⟨h,_,rfl⟩:=jd2.mp hx
   have:=qmj (hs:=hs++[(i,j,h)]) N
   rw [decide_eq_true (by omega),decide_eq_true this];rfl
 obtain ⟨⟨i',j',n⟩,rest,eh⟩:∃ y r,hs=y::r:=by
  cases hs with
  | nil=>exact absurd hn (by rw [jh1];omega)
  | cons y r=>exact ⟨y,r,rfl⟩
 have hy:((i',j',n):C3)∈hs:=by rw [eh];exact ja2
 have ty:i' < a/\j' < b/\n<=c:=T.told _ hy;refine Gv.ex (h10.unp3 (x:=.int (i':Int)) (y:=.int (j':Int)) (z:=.int (n:Int)) (d:=0) (zqz (x:=ct hs) (d:=0) (y:=.int 0) (e:=om) (h10.var rfl) rfl (by
  show (atI (hs.map c3) 0).map (λ z=>(z,dv z))=_;rw [eh,jc2,zxr (x:=c3 (i',j',n)) (by decide) rfl];rfl)) (show 7 < 13 by decide) (show 8 < 13 by decide) (show 10 < 13 by decide)) λ ρ11 h11=>?_
 obtain ⟨o,ho,ne,eo⟩:=qik (h:=n) (c:=c) (x:=l / 3072) ty.2.2 (by omega);refine Gv.ex (h11.setO (x:=.int (o:Int)) (by
  rw [<- eo];exact zwj (zwn (zwn (j:=1) (e:=om) (h11.var rfl) rfl) (zwj (zvf (j:=3072) (e:=om) (h11.var rfl) rfl (by decide) (by decide)) (zqz (x:=bx a b c) (d:=0) (e:=om) (h11.var rfl) rfl rfl) (by omega))) (zwn (j:=1) (e:=om) (zqz (x:=bx a b c) (d:=0) (e:=om) (h11.var rfl) rfl rfl) rfl) (by omega)) (show 12 < 13 by decide)) λ ρ12 h12=>?_
 obtain ⟨d,em⟩:=qfu hl (i:=i') (j:=j') (k:=o) (f:=zqd zxy (zqa (bVar 7) (zqa (bVar 8) (zqa (bVar 12) (aNil))))) (h12.var rfl) (zxi (zqk (h12.var rfl) (zqk (h12.var rfl) (zqp (h12.var rfl)))) rfl);have T2:Told a b c (hs++[(i',j',o)]):=zba T.told ty.1 ty.2.1 ho;obtain ⟨d2,e2⟩:=zps T2 (by rw [jb0];show hs.length + 1<=_;omega) (by omega) (by omega) (by omega);have nl:¬ leT a b (mkT a b (loF (hs++[(i',j',o)]))) (mkT a b (hiF c (hs++[(i',j',o)])))=true:=λ h=>by
  have h:=qf9.mp h i' j' ty.1 ty.2.1;have m1:((i',j',n):C3)∈hs++[(i',j',o)]:=ja8 _ hy;have m2:((i',j',o):C3)∈hs++[(i',j',o)]:=ja5 _ ja2;have a1:=qf5 (i:=i') (j:=j') m1 (ja4 _) (ja4 _);have a2:=qf5 (i:=i') (j:=j') m2 (ja4 _) (ja4 _);have a3:=qgm (c:=c) (i:=i') (j:=j') m1 (ja4 _) (ja4 _);have a4:=qgm (c:=c) (i:=i') (j:=j') m2 (ja4 _) (ja4 _);unfold hgt at a1 a2 a3 a4;dsimp only at a1 a2 a3 a4;omega
 rw [if_neg nl] at e2;exact Gv.ret (zqz (x:=.non) (d:=d2) (y:=.non) (e:=om) (zqh (xs:=[(bx a b c,0),(ct (hs++[(i',j',o)]),d)]) (zqk (h12.var rfl) (zqp em)) e2) rfl rfl)
end
open PySem PySem.Spec PyProof.Rows L2 QQ
section
variable {P:vb0}{w:vb7}{K:Frag}{mg:Str->Option va2}
theorem c0:FnScope S0.N ["thing"] (zqb t0):={}
theorem c1:FnScope S1.N ["thing"] (zqb t1):={}
theorem c2:FnScope S2.N ["box"] (zqb t2):={}
theorem c3:FnScope S3.N ["thing","columns","height"] (zqb t3):={}
theorem c4:FnScope S4.N ["numbers"] (zqb t4):={}
theorem c5:FnScope S5.N ["table","j"] (zqb t5):={}
theorem c6:FnScope S6.N ["box","thing"] (zqb t6):={}
theorem c7:FnScope S7.N ["box","pile"] (zqb t7):={}
theorem c8:FnScope S8.N ["box","pile","other"] (zqb t8):={}
theorem c9:FnScope S9.N ["box"] (zqb t9):={}
theorem c10:FnScope S10.N ["box","i","j"] (zqb t10):={}
theorem c11:FnScope S11.N ["box","pile","other"] (zqb t11):={}
theorem c12:FnScope S12.N ["columns","height"] (zqb t12):={}
theorem c13:FnScope S13.N ["tally","other"] (zqb t13):={}
theorem c14:FnScope S14.N ["table","columns"] (zqb t14):={}
theorem c15:FnScope S15.N ["row","low","high"] (zqb t15):={}
theorem c16:FnScope S16.N ["behind","low","high","counted"] (zqb t16):={}
theorem c17:FnScope S17.N ["box","low","high","places"] (zqb t17):={}
theorem c18:FnScope S18.N ["box","low","high","places"] (zqb t18):={}
theorem c19:FnScope S19.N ["box","low","high"] (zqb t19):={}
theorem c20:FnScope S20.N ["table","ahead"] (zqb t20):={}
theorem c21:FnScope S21.N ["row","table","ahead"] (zqb t21):={}
theorem c22:FnScope S22.N ["box","low","high","pile"] (zqb t22):={}
theorem c23:FnScope S23.N ["box","heights"] (zqb t23):={}
theorem c24:FnScope S24.N ["heights","i","j"] (zqb t24):={}
theorem c25:FnScope S25.N ["heights","i","j","height"] (zqb t25):={}
theorem c26:FnScope S26.N ["box","heights"] (zqb t26):={}
theorem c27:FnScope S27.N ["script","k"] (zqb t27):={}
theorem c28:FnScope S28.N ["cell","k"] (zqb t28):={}
theorem c29:FnScope S29.N ["left","rows","columns","height"] (zqb t29):={}
theorem c30:FnScope S30.N ["box","left"] (zqb t30):={}
theorem c31:FnScope S31.N ["box","heights"] (zqb t31):={}
theorem c32:FnScope S32.N ["script"] (zqb t32):={}
theorem all_ok {fa:Addr} (G:Given dfs [] K mg) (hm:mg "law" = some (.ref fa)):
  ∃ fd:vc9,(∀ (s:va3) (u:va2),BindsTo s fd ⟨[u],[]⟩ [("script",u)])/\∀ base:Heap,FnOk P w K mg base (CXr P w K) 10 fa fd ["script"] (spF K false 1 F32):=by
 have hb:=G.bn;have gx:=G.gx;obtain ⟨a0,d0,m0,f0⟩:=G.df 0 _ _ rfl;obtain ⟨a1,d1,m1,f1⟩:=G.df 1 _ _ rfl;obtain ⟨a2,d2,m2,f2⟩:=G.df 2 _ _ rfl;obtain ⟨a3,d3,m3,f3⟩:=G.df 3 _ _ rfl;obtain ⟨a4,d4,m4,f4⟩:=G.df 4 _ _ rfl;obtain ⟨a5,d5,m5,f5⟩:=G.df 5 _ _ rfl;obtain ⟨a6,d6,m6,f6⟩:=G.df 6 _ _ rfl;obtain ⟨a7,d7,m7,f7⟩:=G.df 7 _ _ rfl;obtain ⟨a8,d8,m8,f8⟩:=G.df 8 _ _ rfl;obtain ⟨a9,d9,m9,f9⟩:=G.df 9 _ _ rfl;obtain ⟨a10,d10,m10,f10⟩:=G.df 10 _ _ rfl;obtain ⟨a11,d11,m11,f11⟩:=G.df 11 _ _ rfl;obtain ⟨a12,d12,m12,f12⟩:=G.df 12 _ _ rfl;obtain ⟨a13,d13,m13,f13⟩:=G.df 13 _ _ rfl;obtain ⟨a14,d14,m14,f14⟩:=G.df 14 _ _ rfl;obtain ⟨a15,d15,m15,f15⟩:=G.df 15 _ _ rfl;obtain ⟨a16,d16,m16,f16⟩:=G.df 16 _ _ rfl;obtain ⟨a17,d17,m17,f17⟩:=G.df 17 _ _ rfl;obtain ⟨a18,d18,m18,f18⟩:=G.df 18 _ _ rfl;obtain ⟨a19,d19,m19,f19⟩:=G.df 19 _ _ rfl;obtain ⟨a20,d20,m20,f20⟩:=G.df 20 _ _ rfl;obtain ⟨a21,d21,m21,f21⟩:=G.df 21 _ _ rfl;obtain ⟨a22,d22,m22,f22⟩:=G.df 22 _ _ rfl;obtain ⟨a23,d23,m23,f23⟩:=G.df 23 _ _ rfl;obtain ⟨a24,d24,m24,f24⟩:=G.df 24 _ _ rfl;obtain ⟨a25,d25,m25,f25⟩:=G.df 25 _ _ rfl;obtain ⟨a26,d26,m26,f26⟩:=G.df 26 _ _ rfl;obtain ⟨a27,d27,m27,f27⟩:=G.df 27 _ _ rfl;obtain ⟨a28,d28,m28,f28⟩:=G.df 28 _ _ rfl;obtain ⟨a29,d29,m29,f29⟩:=G.df 29 _ _ rfl;obtain ⟨a30,d30,m30,f30⟩:=G.df 30 _ _ rfl;obtain ⟨a31,d31,m31,f31⟩:=G.df 31 _ _ rfl;obtain ⟨a32,d32,m32,f32⟩:=G.df 32 _ _ rfl;cases hm.symm.trans m32;have B0:=f0.binds (ps:=["thing"]) λ _ _ _ _ _ _ us hl=>by obtain ⟨_,rfl⟩:=len1 hl;rfl
 have B1:=f1.binds (ps:=["thing"]) λ _ _ _ _ _ _ us hl=>by obtain ⟨_,rfl⟩:=len1 hl;rfl
 have B2:=f2.binds (ps:=["box"]) λ _ _ _ _ _ _ us hl=>by obtain ⟨_,rfl⟩:=len1 hl;rfl
 have B3:=f3.binds (ps:=["thing","columns","height"]) λ _ _ _ _ _ _ us hl=>by obtain ⟨_,_,_,rfl⟩:=len3 hl;rfl
 have B4:=f4.binds (ps:=["numbers"]) λ _ _ _ _ _ _ us hl=>by obtain ⟨_,rfl⟩:=len1 hl;rfl
 have B5:=f5.binds (ps:=["table","j"]) λ _ _ _ _ _ _ us hl=>by obtain ⟨_,_,rfl⟩:=len2 hl;rfl
 have B6:=f6.binds (ps:=["box","thing"]) λ _ _ _ _ _ _ us hl=>by obtain ⟨_,_,rfl⟩:=len2 hl;rfl
 have B7:=f7.binds (ps:=["box","pile"]) λ _ _ _ _ _ _ us hl=>by obtain ⟨_,_,rfl⟩:=len2 hl;rfl
 have B8:=f8.binds (ps:=["box","pile","other"]) λ _ _ _ _ _ _ us hl=>by obtain ⟨_,_,_,rfl⟩:=len3 hl;rfl
 have B9:=f9.binds (ps:=["box"]) λ _ _ _ _ _ _ us hl=>by obtain ⟨_,rfl⟩:=len1 hl;rfl
 have B10:=f10.binds (ps:=["box","i","j"]) λ _ _ _ _ _ _ us hl=>by obtain ⟨_,_,_,rfl⟩:=len3 hl;rfl
 have B11:=f11.binds (ps:=["box","pile","other"]) λ _ _ _ _ _ _ us hl=>by obtain ⟨_,_,_,rfl⟩:=len3 hl;rfl
 have B12:=f12.binds (ps:=["columns","height"]) λ _ _ _ _ _ _ us hl=>by obtain ⟨_,_,rfl⟩:=len2 hl;rfl
 have B13:=f13.binds (ps:=["tally","other"]) λ _ _ _ _ _ _ us hl=>by obtain ⟨_,_,rfl⟩:=len2 hl;rfl
 have B14:=f14.binds (ps:=["table","columns"]) λ _ _ _ _ _ _ us hl=>by obtain ⟨_,_,rfl⟩:=len2 hl;rfl
 have B15:=f15.binds (ps:=["row","low","high"]) λ _ _ _ _ _ _ us hl=>by obtain ⟨_,_,_,rfl⟩:=len3 hl;rfl
 have B16:=f16.binds (ps:=["behind","low","high","counted"]) λ _ _ _ _ _ _ us hl=>by obtain ⟨_,_,_,_,rfl⟩:=len4 hl;rfl
 have B17:=f17.binds (ps:=["box","low","high","places"]) λ _ _ _ _ _ _ us hl=>by obtain ⟨_,_,_,_,rfl⟩:=len4 hl;rfl
 have B18:=f18.binds (ps:=["box","low","high","places"]) λ _ _ _ _ _ _ us hl=>by obtain ⟨_,_,_,_,rfl⟩:=len4 hl;rfl
 have B19:=f19.binds (ps:=["box","low","high"]) λ _ _ _ _ _ _ us hl=>by obtain ⟨_,_,_,rfl⟩:=len3 hl;rfl
 have B20:=f20.binds (ps:=["table","ahead"]) λ _ _ _ _ _ _ us hl=>by obtain ⟨_,_,rfl⟩:=len2 hl;rfl
 have B21:=f21.binds (ps:=["row","table","ahead"]) λ _ _ _ _ _ _ us hl=>by obtain ⟨_,_,_,rfl⟩:=len3 hl;rfl
 have B22:=f22.binds (ps:=["box","low","high","pile"]) λ _ _ _ _ _ _ us hl=>by obtain ⟨_,_,_,_,rfl⟩:=len4 hl;rfl
 have B23:=f23.binds (ps:=["box","heights"]) λ _ _ _ _ _ _ us hl=>by obtain ⟨_,_,rfl⟩:=len2 hl;rfl
 have B24:=f24.binds (ps:=["heights","i","j"]) λ _ _ _ _ _ _ us hl=>by obtain ⟨_,_,_,rfl⟩:=len3 hl;rfl
 have B25:=f25.binds (ps:=["heights","i","j","height"]) λ _ _ _ _ _ _ us hl=>by obtain ⟨_,_,_,_,rfl⟩:=len4 hl;rfl
 have B26:=f26.binds (ps:=["box","heights"]) λ _ _ _ _ _ _ us hl=>by obtain ⟨_,_,rfl⟩:=len2 hl;rfl
 have B27:=f27.binds (ps:=["script","k"]) λ _ _ _ _ _ _ us hl=>by obtain ⟨_,_,rfl⟩:=len2 hl;rfl
 have B28:=f28.binds (ps:=["cell","k"]) λ _ _ _ _ _ _ us hl=>by obtain ⟨_,_,rfl⟩:=len2 hl;rfl
 have B29:=f29.binds (ps:=["left","rows","columns","height"]) λ _ _ _ _ _ _ us hl=>by obtain ⟨_,_,_,_,rfl⟩:=len4 hl;rfl
 have B30:=f30.binds (ps:=["box","left"]) λ _ _ _ _ _ _ us hl=>by obtain ⟨_,_,rfl⟩:=len2 hl;rfl
 have B31:=f31.binds (ps:=["box","heights"]) λ _ _ _ _ _ _ us hl=>by obtain ⟨_,_,rfl⟩:=len2 hl;rfl
 refine ⟨d32,?_,λ base=>?_⟩
 ·obtain ⟨_,_,_,_,_,_,_,_,_,rfl,_,_⟩:=f32.ex;exact λ s v=>.of_eq rfl
 have o0:FnOk P w K mg base (CXr P w K) 1 a0 d0 ["thing"] (spF K false 1 F0):=fnb S0 f0 c0 gx (zxc hb) h0;have o1:FnOk P w K mg base (CXr P w K) 2 a1 d1 ["thing"] (spF K false 1 F1):=fnb S1 f1 c1 gx (gcs (zxc hb) m0 f0 B0 o0) h1;have o2:FnOk P w K mg base (CXr P w K) 3 a2 d2 ["box"] (spF K false 1 F2):=fnb S2 f2 c2 gx (gcs (zxc hb) m1 f1 B1 o1) h2;have o3:FnOk P w K mg base (CXr P w K) 2 a3 d3 ["thing","columns","height"] (spF K false 3 F3):=fnb S3 f3 c3 gx (gcs (zxc hb) m0 f0 B0 o0) h3;have o4:FnOk P w K mg base (CXr P w K) 1 a4 d4 ["numbers"] (spF K false 1 F4):=fnb S4 f4 c4 gx (zxc hb) h4;have o5:FnOk P w K mg base (CXr P w K) 1 a5 d5 ["table","j"] (spF K false 2 F5):=fnb S5 f5 c5 gx (zxc hb) h5;have o6:FnOk P w K mg base (CXr P w K) 4 a6 d6 ["box","thing"] (spF K false 2 F6):=fnb S6 f6 c6 gx (gcs (gcs (gcs (gcs (zxc hb) m5 f5 B5 o5) m4 f4 B4 o4) m3 f3 B3 o3) m2 f2 B2 o2) h6;have o7:FnOk P w K mg base (CXr P w K) 5 a7 d7 ["box","pile"] (spF K false 2 F7):=fnb S7 f7 c7 gx (gcs (zxc hb) m6 f6 B6 o6) h7;have o8:FnOk P w K mg base (CXr P w K) 6 a8 d8 ["box","pile","other"] (spF K false 3 F8):=fnb S8 f8 c8 gx (gcs (zxc hb) m7 f7 B7 o7) h8;have o9:FnOk P w K mg base (CXr P w K) 1 a9 d9 ["box"] (spF K false 1 F9):=fnb S9 f9 c9 gx (zxc hb) h9;have o10:FnOk P w K mg base (CXr P w K) 2 a10 d10 ["box","i","j"] (spF K false 3 F10):=fnb S10 f10 c10 gx (gcs (zxc hb) m0 f0 B0 o0) h10;have o11:FnOk P w K mg base (CXr P w K) 7 a11 d11 ["box","pile","other"] (spF K false 3 F11):=fnb S11 f11 c11 gx (gcs (gcs (zxc hb) m9 f9 B9 o9) m8 f8 B8 o8) h11;have o12:FnOk P w K mg base (CXr P w K) 1 a12 d12 ["columns","height"] (spF K false 2 F12):=fnb S12 f12 c12 gx (zxc hb) h12;have o13:FnOk P w K mg base (CXr P w K) 1 a13 d13 ["tally","other"] (spF K false 2 F13):=fnb S13 f13 c13 gx (zxc hb) h13;have o14:FnOk P w K mg base (CXr P w K) 2 a14 d14 ["table","columns"] (spF K false 2 F14):=fnb S14 f14 c14 gx (gcs (zxc hb) m13 f13 B13 o13) h14;have o15:FnOk P w K mg base (CXr P w K) 1 a15 d15 ["row","low","high"] (spF K false 3 F15):=fnb S15 f15 c15 gx (zxc hb) h15;have o16:FnOk P w K mg base (CXr P w K) 2 a16 d16 ["behind","low","high","counted"] (spF K false 4 F16):=fnb S16 f16 c16 gx (gcs (zxc hb) m15 f15 B15 o15) h16;have o17:FnOk P w K mg base (CXr P w K) 3 a17 d17 ["box","low","high","places"] (spF K false 4 F17):=fnb S17 f17 c17 gx (gcs (gcs (gcs (zxc hb) m16 f16 B16 o16) m14 f14 B14 o14) m12 f12 B12 o12) h17;have o18:FnOk P w K mg base (CXr P w K) 4 a18 d18 ["box","low","high","places"] (spF K false 4 F18):=fnb S18 f18 c18 gx (gcs (gcs (zxc hb) m17 f17 B17 o17) m13 f13 B13 o13) h18;have o19:FnOk P w K mg base (CXr P w K) 7 a19 d19 ["box","low","high"] (spF K false 3 F19):=fnb S19 f19 c19 gx (gcs (gcs (zxc hb) m18 f18 B18 o18) m8 f8 B8 o8) h19;have o20:FnOk P w K mg base (CXr P w K) 1 a20 d20 ["table","ahead"] (spF K false 2 F20):=fnb S20 f20 c20 gx (zxc hb) h20;have o21:FnOk P w K mg base (CXr P w K) 2 a21 d21 ["row","table","ahead"] (spF K false 3 F21):=fnb S21 f21 c21 gx (gcs (zxc hb) m20 f20 B20 o20) h21;have o22:FnOk P w K mg base (CXr P w K) 8 a22 d22 ["box","low","high","pile"] (spF K false 4 F22):=fnb S22 f22 c22 gx (gcs (gcs (gcs (gcs (gcs (zxc hb) m21 f21 B21 o21) m17 f17 B17 o17) m11 f11 B11 o11) m8 f8 B8 o8) m7 f7 B7 o7) h22;have o23:FnOk P w K mg base (CXr P w K) 3 a23 d23 ["box","heights"] (spF K false 2 F23):=fnb S23 f23 c23 gx (gcs (gcs (zxc hb) m10 f10 B10 o10) m0 f0 B0 o0) h23;have o24:FnOk P w K mg base (CXr P w K) 1 a24 d24 ["heights","i","j"] (spF K false 3 F24):=fnb S24 f24 c24 gx (zxc hb) h24;have o25:FnOk P w K mg base (CXr P w K) 1 a25 d25 ["heights","i","j","height"] (spF K false 4 F25):=fnb S25 f25 c25 gx (zxc hb) h25;have o26:FnOk P w K mg base (CXr P w K) 8 a26 d26 ["box","heights"] (spF K false 2 F26):=fnb S26 f26 c26 gx (gcs (gcs (gcs (gcs (gcs (zxc hb) m25 f25 B25 o25) m24 f24 B24 o24) m23 f23 B23 o23) m11 f11 B11 o11) m2 f2 B2 o2) h26;have o27:FnOk P w K mg base (CXr P w K) 1 a27 d27 ["script","k"] (spF K false 2 F27):=fnb S27 f27 c27 gx (zxc hb) h27;have o28:FnOk P w K mg base (CXr P w K) 1 a28 d28 ["cell","k"] (spF K false 2 F28):=fnb S28 f28 c28 gx (zxc hb) h28;have o29:FnOk P w K mg base (CXr P w K) 1 a29 d29 ["left","rows","columns","height"] (spF K false 4 F29):=fnb S29 f29 c29 gx (zxc hb) h29;have o30:FnOk P w K mg base (CXr P w K) 1 a30 d30 ["box","left"] (spF K false 2 F30):=fnb S30 f30 c30 gx (zxc hb) h30;have o31:FnOk P w K mg base (CXr P w K) 9 a31 d31 ["box","heights"] (spF K false 2 F31):=fnb S31 f31 c31 gx (gcs (gcs (zxc hb) m26 f26 B26 o26) m19 f19 B19 o19) h31;exact fnb S32 f32 c32 gx (zvs (zvs (zvs (zvs (zvs (zvs (zvs (zxc hb) (by decide +kernel) zzh m31 f31 B31 rfl (o31.mono (by decide))) (by decide +kernel) zzh m30 f30 B30 rfl (o30.mono (by decide))) (by decide +kernel) zzh m29 f29 B29 rfl (o29.mono (by decide))) (by decide +kernel) zzh m28 f28 B28 rfl (o28.mono (by decide))) (by decide +kernel) zzh m27 f27 B27 rfl (o27.mono (by decide))) (by decide +kernel) zzh m26 f26 B26 rfl (o26.mono (by decide))) (by decide +kernel) zzh m22 f22 B22 rfl (o22.mono (by decide))) h32
end
end K33
open PySem PySem.W PyProof.Rows
set_option maxRecDepth 100000 in
set_option maxHeartbeats 0 in
theorem PySem.Challenge.cw_cornerpiles_k33_whole_heights_part_all_holds : PySem.Challenge.rw_cornerpiles_k33_whole_heights_part_all.Holds := by
 refine QQ.holds_by (l:=PySem.Challenge.rw_cornerpiles_k33_whole_heights_part_all) (q:=K33.view) (loose:=K33.loose) (N:=20000) (k:=10) (n:=63) (ds:=K33.dfs) (xc:=[]) (F:=K33.F32) (x := "script") ?said rfl rfl (λ _=>rfl) K33.run (by rfl) (by rfl) (by rfl) (by rfl) (by decide +kernel) ⟨rfl,rfl,rfl,rfl,rfl,by decide +kernel⟩ ?hw rfl (by decide) rfl ⟨rfl,by decide,by decide,rfl⟩ (λ _ _ _ _ G hm=>K33.all_ok G hm) (λ _ _ _ ns hl hO hS=>QQ.sp_yes hO hS (K33.law_true ns hl))
 case said=>decide +kernel
 case hw=>w_witness2
