import PyProof.Rows.All
import Wide.All
import OpenK.AllK
import Wide.FinOn
import Lean
import PyProof.EqAt
import PyProof.EqKinds
import PyProof.TupleCall
import PySem.Challenge.RW_cornerpiles_k54_piles_written_and_read
open PySem renaming Value->va0,Shared->va1,sizeLine->va2,starEach->va3,wpAny_bind->va7,Program->va8,wpAny_pure->va9,model->vb1,wpAny->vb2,compareOp->vb4,World->vb6,Around->vb8,mainGlobals->vb9,cellsFrom->vc0,wpAny_truthy_bool->vc1,FuncData->vc3,assignEach->vc4,NameKind->vc6,Scope->vd0,sysModules->vd4,binaryOp->vd5,backTo->vd6,mem_of_lookup->vd9,wpAny_mono->ve0,intItems->ve4,wpAny_newObj_type->ve5,bootBuiltins->ve7,cLine->ve8,behindInMarks->ve9,wpAny_passesOwn->vf0,sliceBounds->vf1,numAt->vf4,foldedSetIterable->vf9,PyData->vg5,letOwnedTupleGo->vg7,typeIs_str->vh0,call_meets->vh1,intText?->vh3,Keyword->vh6,wpAny_holding->vh8,wpAny_Call_Name_kw->vh9,tupleKind_room_in1->vi0,attributeBase->vi1,wpAny_loadPart_at->vi5,relabel->vi6,codeAny->vi7,noFill_tuple_add->vj7,wpAny_execs_nil->vj9,tupleKind->vk0,pushCells_keeps->vk1,keywordEach->vk2,intItems_at->vk3,importedModules->vk4,callerA->vk6,assign->vk7,CmpOp->vl0,newFunctionEnv->vl3
open PySem.W renaming Frag->va4,findIn->vb3,kia_one->vb5,kitOne->vb7,mroIn->vc5,boot_heap->vc7,keepIn->vd7,fnOf->vf6,looks_findIn->vh2,kitAny->vh4,hideAll_get->vh5,methodObj->vi8,kitx_none->vi9,boot_heap->vj0,instObj->vk8,lookIn->vl4,codeIn->vl5
open PySem.Heap renaming get?_push_of_some->va5,lt_size->va6,get?_push_size->vb0,size_push->vf7,SameBut->vj6
open Ne renaming symm->vc2
open PySem.Txt renaming split->vc8,join->vd2,slice->vg8
open PySem.PyData renaming eqv->vc9,depthAll->vd3,depth->ve1,canLay0->ve6,eqvAll->vi3,canLayAll0->vj2
open PySem.Builtin.Str renaming occurrences->vd1,partsBetween->vg1,tooLong->vh7
open PySem.Builtin.Slice renaming slicePlaces->vd8,sliceAdjust->vf8,sliceApplied->vl2
open False renaming elim->ve2
open PySem.Builtin.Tuple renaming tupleExact->ve3
open PySem.SeqAt.EqAt renaming same->vf2,of_refs->vi2
open PyProof.Rows renaming callWith_type1->vf3,AllBare->vg4,slot_tuple_getitem->vj1,envOfC->vk5
open PySem.Str renaming join->vf5
open PySem.F renaming args_tuple_add_2->vg0,entry_tuple_add->vg3,slot_tuple_add->vg6,args_str_split_2->vi4,entry_str_split->vj4,slot_str_split->vj8
open PySem.Builtin.List renaming listTooLong->vg2
open PySem.StrLaws renaming glued_eq_join->vg9
open PySem.Obj renaming mapSeq->vj3
open PySem.SeqAt renaming RcNeAt->vj5
open Prod.mk renaming inj->vk9
open PySem.Calls renaming Name_function_global->vl1
open List renaming mem_cons_of_mem->ja0,mem_cons_self->ja1,mem_append_right->ja2,getD_eq_getElem?_getD->ja3,mem_append_left->ja4,length_map->ja6,getElem?_eq_some_iff->ja8,replicate->ja9,getElem?_eq_getElem->jb1,mem_cons->jb2,length_append->jb3,size_toArray->jb4,getElem?_append_left->jb5,mem_singleton->jb6,length_cons->jb8,getElem?_set_ne->jb9,mem_append->jc0,map_cons->jc1,getElem?_map->jc2,getElem?_set_self->jc3,getElem?_append_right->jc5,range->jc6,all_eq_true->jc8,mem_range->jd0,length_take->jd1,lookup_cons->jd2,mem_map->jd3,replicate_succ->jd4,getElem?_replicate->jd5,getElem_of_mem->jd7,map_map->jd8,getElem?_eq_none->jd9,length_set->je0,findIdx?_eq_some_iff_getElem->je1,length_replicate->je5,getElem?_take_of_lt->je6,getElem_mem->je7,flatten_cons->je8,map_eq_nil_iff->je9,length_singleton->jf0,set_cons_zero->jf1,set_cons_succ->jf2,mem_of_mem_take->jf4,append_nil->jf5,flatMap_cons->jf6,take_of_length_le->jf9,map_nil->jg0,find?_cons->jg1,append_assoc->jg4,getElem?_eq_none_iff->jg5,filterMap_cons->jg6,nil_append->jh0,getElem?_cons_succ->jh1,all_cons->jh3,reverse_cons->jh5,length_range->jh6,eq_nil_iff_forall_not_mem->jh7,length_drop->jh8,cons_append->ji0,mem_of_getElem?->ji1,mem_filter->ji2,nodup_cons->ji3,take_succ_cons->ji4,range'->ji5,filter_eq_self->ji6,getElem?_range->ji7,getElem?_concat_length->ji8,mem_filterMap->jj0,findIdx?_cons->jj1,drop_eq_getElem_cons->jj2,mem_or_eq_of_mem_set->jj3,ext_getElem?->jj7,take_add_one->jj8,any_cons->jj9,drop_eq_nil_of_le->jk2,of_mem_zip->jk3,foldl_cons->jk4,length_nil->jk6,set_nil->jk9,map_append->jl1,take_zero->jl4,replicate_zero->jl6,take_nil->jm1,getElem?_drop->jm3,mem_range'_1->jm4,map_set->jm7,flatten_nil->jn0,not_mem_nil->jn2,range'_succ->jn3,flatMap_nil->jn7,forIn_cons->jn8,foldl->jo0,drop_nil->jo1,sum_cons->jo2,map_take->jo3,getD->jo7,sum_nil->jo8,all_nil->jo9
open Bool renaming and_eq_true->ja5,false_ne_true->jc7,or_eq_true->jd6,eq_iff_iff->jg9,not_eq_true'->jj6,and_eq_true_iff->jl3,false_xor->jl5,false_or->jm0,and_true->jm2
open Option renaming map_eq_some_iff->ja7,map_some->jh2,isSome_iff_exists->jj4,isSome_map->jj5,isSome_some->jl9,getD_none->jm8,getD_some->jn6
open Nat renaming lt_of_lt_of_le->jb0,le_refl->jb7,le_trans->jc4,ne_of_lt->jc9,le_of_succ_le->je3,lt_irrefl->je4,lt_of_succ_lt_succ->jf8,zero_le->jg2,ne_of_gt->jg7,lt_succ_of_lt->jh4,lt_succ_self->jh9,min_le_right->jk1,succ_mul->jk5,lt_trans->jk7,zero_add->jk8,le_of_lt->jm6,succ_ne_zero->jm9,succ_le_succ->jn1,le_add_right->jn4,min_le_left->jn9,add_comm->jo5,mul_comm->jo6,sub_self->jp0
open Int renaming toNat_natCast->je2,emod_lt_of_pos->jf3,emod_nonneg->jg3,zero_add->jg8,le_trans->jl2,le_refl->jl7
open Array renaming length_toList->jf7,toList_append->ji9,toList_eq_nil_iff->jk0,getElem?_toList->jl0,append_assoc->jl8,size_append->jm5,toList_inj->jn5,toList->jo4
set_option Elab.async false
set_option linter.all false
set_option maxRecDepth 100000
set_option autoImplicit false
set_option maxHeartbeats 2000000
namespace L2
open PySem PySem.Spec PyProof.Rows
abbrev Key:=Sum Int Str
inductive V where
 | non | bl (b:Bool) | int (i:Int) | str (x:Str) | byt (b:Array UInt8) | flt (b:UInt64) | ref (a:Addr) | ty (n:String)
 deriving DecidableEq
def zyu (s:Stmt):Arguments:=match s with
 | .FunctionDef _ a _ _ _ _ _ _ _ _=>a
 | _=>{ posonlyargs:=[],args:=[],vararg:=none,kwonlyargs:=[],kw_defaults:=[],kwarg:=none,defaults:=[] }
def zqf (s:Stmt):List Stmt:=match s with
 | .FunctionDef _ _ b _ _ _ _ _ _ _=>b
 | _=>[]
def zqb (s:Stmt):vd0:=match s with
 | .FunctionDef _ _ _ _ _ _ sc _ _ _=>sc
 | _=>{ kind:=.function,names:=[],isGenerator:=false,isCoroutine:=false }
end L2
namespace QQ
open PySem PySem.Spec PySem.W PySem.Calls PyProof.Rows L2
abbrev Frag:=va4
inductive PV where
 | non | bl (b:Bool) | int (i:Int) | str (x:Str) | lst (xs:List PV) | tup (xs:List PV) | emp | dko | scr (ns:List Int) | dct (kvs:List (List Key×V)) | exn (c:Nat)
 deriving Inhabited
def XN:List Str:=["PileError","NoBox","NoPile","NoStairs","NoWays","NoRoad","NoNumber","NoPlace","TooMany","NoText","NoName","NoRow"]
def zwg (K:Frag) (c:Nat):Option Addr:=match XN[c]? with
 | some x=>(match PySem.W.nsIn K vb9 x with
  | some (some (.ref C))=>some C
  | _=>none)
 | none=>none
def bmV:List va0:=[.type "ValueError",.type "Exception",.type "BaseException",.type "object"]
def mroX (K:Frag) (C:Addr):List va0:=match K.lookup C with
 | some ⟨_,_,.cls cd,_⟩=>cd.mro
 | _=>[]
def isX (c d:Nat):Bool:=c == d || d == 0
def xTab (K:Frag):Bool:=(jc6 12).all λ c=>match zwg K c with
 | some C=>PySem.W.excIn K C bmV "ValueError.__new__" && (jc6 12).all λ d=>(match zwg K d with
  | some D=>(mroX K C).contains (.ref D) == isX c d
  | none=>true)
 | none=>true
def CN:List (Str×PV):=[("FIGURES",.str "0123456789"),("MOST_FIGURES",.int 2),("SIGNS_OF_HEIGHTS",.str ".123456789abcdefghijklmnopqrstuvwxyz"),("MOST_PILES",.int 3000)]
def cVb:PV->va0->Bool
 | .str z,.str z' _=>z == z'
 | .int i,.int j _=>i == j
 | _,_=>false
def zki (K:Frag) (C:Addr):Bool:=(PySem.W.clsIn K C).isSome && vc5 K C (.type "object") == some true && vc5 K C (.type "BaseException") == some true && vb3 K (.ref C) "__class__" == some (some (.builtin "object.__class__")) &&
 vb3 K (.ref C) "__getattribute__" == some (some (.builtin "BaseException.__getattribute__")) && vb3 K (.ref C) "__getattr__" == some none
def xKit (K:Frag):Bool:=vb7 K (.type "NoneType") (.type "ValueError") == some false && (jc6 12).all λ c=>match zwg K c with
 | some C=>zki K C && vb7 K (.type "NoneType") (.ref C) == some false && vb7 K (.ref C) (.type "ValueError") == some true && (jc6 12).all λ d=>(match zwg K d with
  | some D=>vb7 K (.ref C) (.ref D) == some (isX c d)
  | none=>true)
 | none=>true
def zzm:List Str:=["len","isinstance","all","max","min","tuple","list","range","int","bool","str","dict","sum","enumerate","zip","reversed","set","ValueError","sorted","abs"]
def zvw (tb:String->Option Builtin) (p:va8) (w:vb6) (n₀:Nat) (ann:Option va0):Nat->SharedT->Thread->Option SharedT
 | 0,_,_=>none
 | n + 1,s,t=>match through t with
  | true=>some s
  | false=>match stepOk n₀ ann t with
   | false=>none
   | true=>match stepT (denote tb) p w s t with
    | some (s',t')=>zvw tb p w n₀ ann n s' t'
    | none=>none
def ofL:List Obj->Nat->BT->BT
 | [],_,t=>t
 | o::r,n,t=>ofL r (n + 1) (t.ins n o)
noncomputable def bootT (P:Params):BT:=ofL (vc7 P).objs.toList 0 .nil
noncomputable def bootS (P:Params) (os:OsState):SharedT:=⟨bootT P,(vc7 P).objs.size,(vc7 P).life,#[],boot_drawn,boot_toks,os⟩
def zfq {α:Type} (p q:va8) (loose:List Str) (Xt:va1->Bool) (Yf:va1->α) (H:Heap) (s:va1):=
 ((staticsOk (vk4 p.main.body) H s.heap && namesBound p s.heap && gensDone s && laidKept H s.heap),openSeen q loose (vk4 p.main.body) Xt true s,Yf s)
def kof (h:Heap):Frag:=(jc6 h.objs.size).filterMap λ a=>(h.get? a).map λ o=>(a,o)
structure DefSeen where
 name:Str
 qual:Str
 params:Arguments
 body:FuncBody
 scope:vd0
 globals:Addr
 closure:List (Str×Addr)
 defaults:va0
 builtins:Addr
 code:Bool
def zft (K:Frag) (x:Str):Option DefSeen:=match nsIn K vb9 x with
 | some (some (.ref g))=>(match K.lookup g with
  | some ⟨_,_,.func fd,_⟩=>some ⟨fd.name,fd.qualname,fd.params,fd.body,fd.scope,fd.globals,fd.closure,fd.defaults,fd.builtins,codeIn K fd.code x⟩
  | _=>none)
 | _=>none
def qcr (x:Str) (st:Stmt):DefSeen:=⟨x,x,zyu st,.stmts (zqf st),zqb st,mainNs,[],.none,0,true⟩
def zyp (ds:List (Str×Stmt)) (xc:List Nat) (K:Frag):List (Option DefSeen)×List (Option (Option va0))×Bool:=
 (ds.map λ d=>zft K d.1,zzm.map λ x=>nsIn K vb9 x,xc.isEmpty || (xTab K && xKit K && xc.all λ c=>if c < 50 then ((zwg K c).isSome && match XN[c]? with
  | some x=>!(x == ("__debug__" : Str))
  | none=>false) else (match CN[c - 50]? with
  | some (x,v)=>!(x == ("__debug__" : Str)) && (match nsIn K vb9 x with
   | some (some u)=>cVb v u
   | _=>false)
  | none=>false)))
def zmi (ds:List (Str×Stmt)):List (Option DefSeen)×List (Option (Option va0))×Bool:=(ds.map λ d=>some (qcr d.1 d.2),zzm.map λ _=>some none,true)
end QQ
namespace K54
open PySem PySem.Spec PyProof.Rows L2 QQ
def top (i:Nat):Stmt:=PySem.Challenge.pw_cornerpiles_k54_piles_written_and_read.main.body.getD i (.Pass ⟨0,0,0,0⟩)
abbrev t0:Stmt:=top 6
abbrev t1:Stmt:=top 7
abbrev t2:Stmt:=top 8
abbrev t3:Stmt:=top 9
abbrev t4:Stmt:=top 10
abbrev t5:Stmt:=top 11
abbrev t6:Stmt:=top 12
abbrev t7:Stmt:=top 13
abbrev t8:Stmt:=top 17
abbrev t9:Stmt:=top 18
abbrev t10:Stmt:=top 19
abbrev t11:Stmt:=top 20
abbrev t12:Stmt:=top 21
abbrev t13:Stmt:=top 22
abbrev t14:Stmt:=top 24
abbrev t15:Stmt:=top 25
abbrev t16:Stmt:=top 26
abbrev t17:Stmt:=top 27
abbrev t18:Stmt:=top 28
abbrev t19:Stmt:=top 29
abbrev t20:Stmt:=top 30
def dfs:List (Str×Stmt):=[(("is_whole_number" : Str),t0),(("is_box" : Str),t1),(("must_be_box" : Str),t2),(("is_row_of_heights" : Str),t3),(("never_rises" : Str),t4),(("column_of" : Str),t5),(("is_pile" : Str),t6),(("must_be_pile" : Str),t7),(("is_written_number" : Str),t8),(("show_numbers" : Str),t9),(("read_numbers" : Str),t10),(("must_be_text" : Str),t11),(("show_pile" : Str),t12),(("read_pile" : Str),t13),(("_law_cell_at" : Str),t14),(("_law_numbers" : Str),t15),(("_law_box" : Str),t16),(("_law_pile" : Str),t17),(("_law_alike" : Str),t18),(("_law_written" : Str),t19),(("law" : Str),t20)]
def view:va8:={ PySem.Challenge.pw_cornerpiles_k54_piles_written_and_read with main:={ PySem.Challenge.pw_cornerpiles_k54_piles_written_and_read.main with body:=[t20] } }
def loose:List Str:=(PySem.Challenge.pw_cornerpiles_k54_piles_written_and_read.main.scope.names.map λ x=>x.1).filter λ x=>!(x == ("law" : Str))
theorem run:∀ (w:PySem.World) (os:PySem.OsState),(zvw PySem.treeTable PySem.Challenge.rw_cornerpiles_k54_piles_written_and_read.prog w (vj0 w.params).objs.size ((vj0 w.params).nsMap vb9 "__annotations__") 20000 (bootS w.params os) (PySem.W.topStub PySem.Challenge.rw_cornerpiles_k54_piles_written_and_read.prog)).map (λ s=>zfq PySem.Challenge.rw_cornerpiles_k54_piles_written_and_read.prog view loose (λ s=>PySem.W.xlAt view [] s && PySem.W.recOk (PySem.W.RowW.records PySem.Challenge.rw_cornerpiles_k54_piles_written_and_read.row.toRowW) s) (λ s=>zyp dfs [0,1,2,9,50,51] (kof s.heap)) (vj0 w.params) s.abs)=some (true,PySem.W.openGood view loose,zmi dfs):=λ w os=>by kernel_rfl
end K54
namespace L2
open PySem PySem.Spec PyProof.Rows
def qan:Key->va0->Bool
 | .inl k,v=>Value.isInt k v
 | .inr x,v=>Value.isStrOf x v
def keyH (w:vb6):Key->Int
 | .inl k=>hashInt k
 | .inr x=>hashStr w x
theorem zqz:∀ {k:Key}{v:va0},qan k v=true->(∃ i t,k=Sum.inl i/\v=Value.int i t)\/(∃ x t,k=Sum.inr x/\v=Value.str x t)
 | .inl i,v,h=>by
  obtain ⟨t,e⟩:=Value.isInt_shape (k:=i) (v:=v) h
  exact .inl ⟨i,t,rfl,e⟩
 | .inr x,v,h=>by
  obtain ⟨t,e⟩:=Value.isStrOf_shape (x:=x) (v:=v) h
  exact .inr ⟨x,t,rfl,e⟩
theorem qce (i:Int) (t:Tok):qan (.inl i) (.int i t)=true:=by simp [qan,Value.isInt]
theorem qcd (x:Str) (t:Tok):qan (.inr x) (.str x t)=true:=by simp [qan,Value.isStrOf]
theorem qk6 (a b:Int):decide ((Sum.inl a:Key)=Sum.inl b)=(a == b):=by
 by_cases e:a=b
 ·subst e;simp
 ·have h:¬ (Sum.inl a:Key)=Sum.inl b:=λ q=>e (Sum.inl.inj q)
  rw [decide_eq_false h]
  exact (beq_eq_false_iff_ne.mpr e).symm
theorem qk3 (a b:Str):decide ((Sum.inr a:Key)=Sum.inr b)=decide (a=b):=by
 by_cases e:a=b
 ·subst e;simp
 ·have h:¬ (Sum.inr a:Key)=Sum.inr b:=λ q=>e (Sum.inr.inj q)
  rw [decide_eq_false h,decide_eq_false e]
theorem qk5 (a:Int) (b:Str):decide ((Sum.inl a:Key)=Sum.inr b)=false:=decide_eq_false (λ q=>nomatch q)
theorem qk4 (a:Str) (b:Int):decide ((Sum.inr a:Key)=Sum.inl b)=false:=decide_eq_false (λ q=>nomatch q)
def zxe (prog:va8) (w:vb6):PySem.KeyKind prog w Key where
 is:=qan
 hash:=keyH w
 inj:=λ v a b ha hb=>by
  rcases zqz ha with ⟨i,t,rfl,rfl⟩ | ⟨x,t,rfl,rfl⟩
  ·rcases zqz hb with ⟨j,u,rfl,e⟩ | ⟨y,u,rfl,e⟩
   ·injection e with e1 _;rw [e1]
   ·exact nomatch e
  ·rcases zqz hb with ⟨j,u,rfl,e⟩ | ⟨y,u,rfl,e⟩
   ·exact nomatch e
   ·injection e with e1 _;rw [e1]
 byValue:=λ k v h=>by
  rcases zqz h with ⟨i,t,rfl,rfl⟩ | ⟨x,t,rfl,rfl⟩ <;> rfl
 pyHash:=λ hv h=>by
  rcases zqz hv with ⟨i,t,rfl,rfl⟩ | ⟨x,t,rfl,rfl⟩
  ·exact wpAny_pyHash_int h
  ·exact wpAny_pyHash_str h
 eqBool:=λ hu hv h=>by
  rcases zqz hu with ⟨i,t,rfl,rfl⟩ | ⟨x,t,rfl,rfl⟩
  ·rcases zqz hv with ⟨j,u,rfl,rfl⟩ | ⟨y,u,rfl,rfl⟩
   ·rw [qk6] at h;exact wpAny_eqBool_int h
   ·rw [qk5] at h;exact SeqAt.EqAt.int_str i t y u _ _ _ _ h
  ·rcases zqz hv with ⟨j,u,rfl,rfl⟩ | ⟨y,u,rfl,rfl⟩
   ·rw [qk4] at h;exact SeqAt.EqAt.str_int x t j u _ _ _ _ h
   ·rw [qk3] at h;exact wpAny_eqBool_str h
 «strs»:=λ k x t v h=>by
  rcases zqz h with ⟨i,u,rfl,e⟩ | ⟨y,u,rfl,e⟩
  ·exact nomatch e
  ·injection e with e1 _
   subst e1
   cases v <;> rfl
theorem zfl (prog:va8) (w:vb6) (i:Int) (t:Tok):(zxe prog w).is (.inl i) (.int i t)=true:=qce i t
theorem zfk (prog:va8) (w:vb6) (x:Str) (t:Tok):(zxe prog w).is (.inr x) (.str x t)=true:=qcd x t
def RelV:V->va0->Prop
 | .non,u=>u=Value.none
 | .bl b,u=>u=Value.bool b
 | .int i,u=>∃ t,u=Value.int i t
 | .str x,u=>∃ t,u=Value.str x t
 | .byt b,u=>∃ t,u=Value.bytes b t
 | .flt b,u=>∃ t,u=Value.float b t
 | .ref a,u=>u=Value.ref a
 | .ty n,u=>u=Value.type n
abbrev Vals:List V->List va0->Prop:=Paired RelV
theorem Vals.length {xs:List V}{us:List va0} (r:Vals xs us):xs.length=us.length:=Paired.length r
theorem Vals.get:∀ {xs:List V}{us:List va0}{i:Nat}{x:V},Vals xs us->xs[i]?=some x->∃ u,us[i]?=some u/\RelV x u
 | _,_,_,_,.nil,e=>by simp at e
 | _,_,0,_,.cons r _,e=>by simp at e;subst e;exact ⟨_,rfl,r⟩
 | _,_,i + 1,x,.cons _ t,e=>by
  obtain ⟨u,h1,h2⟩:=Vals.get (i:=i) (x:=x) t (by simpa using e)
  exact ⟨u,by simpa using h1,h2⟩
theorem Vals.set {x:V}{u:va0} (r:RelV x u):∀ {xs:List V}{us:List va0} (i:Nat),Vals xs us->Vals (xs.set i x) (us.set i u)
 | _,_,_,.nil=>.nil
 | _,_,0,.cons _ t=>.cons r t
 | _,_,i + 1,.cons q t=>.cons q (Vals.set r i t)
theorem Vals.append:∀ {xs ys:List V}{us ws:List va0},Vals xs us->Vals ys ws->Vals (xs++ys) (us++ws)
 | _,_,_,_,.nil,s=>s
 | _,_,_,_,.cons r t,s=>.cons r (Vals.append t s)
theorem Vals.take:∀ {xs:List V}{us:List va0} (n:Nat),Vals xs us->Vals (xs.take n) (us.take n)
 | _,_,0,_=>.nil
 | _,_,_ + 1,.nil=>.nil
 | _,_,n + 1,.cons r t=>.cons r (Vals.take n t)
theorem Vals.drop:∀ {xs:List V}{us:List va0} (n:Nat),Vals xs us->Vals (xs.drop n) (us.drop n)
 | _,_,0,r=>r
 | _,_,_ + 1,.nil=>.nil
 | _,_,n + 1,.cons _ t=>Vals.drop n t
def RelO:Option V->Option va0->Prop
 | some v,some u=>RelV v u
 | none,none=>True
 | _,_=>False
def KV {κ:Type}:List (κ×V)->List (κ×va0)->Prop:=Paired λ (p:κ×V) (q:κ×va0)=>p.1=q.1/\RelV p.2 q.2
def kV:Key->V
 | .inl i=>.int i
 | .inr x=>.str x
inductive HO where
 | lst (xs:List V)
 | tup (xs:List V)
 | dK (kvs:List (Key×V)) | dT (kvs:List (List Key×V))
 | set (S:Int->Bool) (n:Nat)
 | ins (C dx:Addr) (fs:List (Str×V))
 | own (x:Addr)
 | xd (fs:List (Str×V))
 | met (f x:Addr)
 | rng (lo hi:Int)
 | frz (o:Obj) (u:HO)
 | tbl (ps:Array va0)
 | ext (φ:Heap->Prop)
abbrev Hp:=Addr->Option HO
def upd (H:Hp) (a:Addr) (o:HO):Hp:=λ b=>if b=a then some o else H b
theorem zqj {H:Hp}{a:Addr}{o:HO}:upd H a o a=some o:=by unfold upd;rw [if_pos rfl]
theorem zqg {H:Hp}{a b:Addr}{o:HO} (h:b≠a):upd H a o b=H b:=by unfold upd;rw [if_neg h]
theorem qmj {H:Hp}{a b:Addr}{o u:HO} (h:H a=some o) (h':H b=some u) (d:o≠u):a≠b:=by
 intro e;subst e;rw [h] at h';exact d (Option.some.inj h')
theorem zww {H:Hp}{a b:Addr}{o:HO} (h:H a=some o) (h':H b=none):a≠b:=by
 intro e;subst e;rw [h] at h';cases h'
section
variable (P:va8) (w:vb6)
def zxw (H:Hp) (h:Heap) (a:Addr):HO->Prop
 | .lst xs=>xs.length<=va2/\∃ (its:List va0) (n:Nat),Vals xs its/\h.get? a=some { cls:=.type "list",data:=.seq its.toArray n }
 | .tup xs=>xs.length<=va2/\∃ its:List va0,Vals xs its/\IsTup h a its.toArray
 | .dK kvs=>kvs.length<=va2/\(a == vd4)=false/\∃ vs,KV kvs vs/\h.DictOf (zxe P w) a vs
 | .dT kvs=>kvs.length<=va2/\(a == vd4)=false/\∃ xs:List (List Key×Addr×va0),
   Paired (λ (p:List Key×V) (q:List Key×Addr×va0)=>p.1=q.1/\H q.2.1=some (.tup (p.1.map kV))/\RelV p.2 q.2.2) kvs xs /\
   ∃ o es ep,h.get? a=some o/\o.ExactDict/\o.data=.dict es ep/\es.toList=xs.map (entryOfKey (vk0 (zxe P w)))/\(xs.map (·.1)).Nodup
 | .set S n=>h.SetOf (intKind P w) a S n
 | .ins C dx fs=>H dx=some (.own a)/\fs.length<=1000/\dx≠a/\h.get? a=some (vk8 C dx) /\
   ∃ mA,h.Ns1 dx mA/\(∀ f,RelO (fs.lookup f) (mA f))/\PySem.Within mA (fs.map (·.1))
 | .own _=>∃ o,h.get? a=some o
 | .xd fs=>∃ mA,h.Ns1 a mA/\∀ f,RelO (fs.lookup f) (mA f)
 | .rng lo hi=>∃ t u v,h.get? a=some { cls:=.type "range",data:=.fields #[.int lo t,.int hi u,.int 1 v] }
 | .frz o u=>h.get? a=some o/\zxw H h a u
 | .tbl ps=>h.get? a=some { cls:=.none,data:=.fields ps }
 | .met f x=>h.get? a=some (vi8 (.ref f) (.ref x))
 | .ext φ=>φ h/\(∃ o,h.get? a=some o)/\∀ h1 h2:Heap,φ h1->(∀ o,h1.get? a=some o->h2.get? a=some o)->φ h2
def HOk (H:Hp) (h:Heap):Prop:=∀ a o,H a=some o->zxw P w H h a o
end
section
variable {P:va8}{w:vb6}{H H':Hp}{h h':Heap}{a:Addr}{o:HO}
theorem zxw.lt (x:zxw P w H h a o):a < h.objs.size:=by
 cases o with
 | lst xs=>obtain ⟨_,_,_,_,e⟩:=x;exact va6 e
 | tup xs=>obtain ⟨_,_,_,p⟩:=x;exact p.lt
 | dK kvs=>obtain ⟨_,_,_,_,o,_,_,e,_⟩:=x;exact va6 e
 | dT kvs=>obtain ⟨_,_,_,_,o,_,_,e,_⟩:=x;exact va6 e
 | set S n=>obtain ⟨o,_,_,_,e,_⟩:=x;exact va6 e
 | ins C dx fs=>obtain ⟨_,_,_,e,_⟩:=x;exact va6 e
 | own y=>obtain ⟨_,e⟩:=x;exact va6 e
 | xd fs=>obtain ⟨_,⟨_,_,_,e,_⟩,_⟩:=x;exact va6 e
 | rng lo hi=>obtain ⟨_,_,_,e⟩:=x;exact va6 e
 | frz ob u=>obtain ⟨e,_⟩:=x;exact va6 e
 | tbl ps=>exact va6 (show h.get? a=some _ from x)
 | met f y=>exact va6 (show h.get? a=some _ from x)
 | ext φ=>obtain ⟨_,⟨_,e⟩,_⟩:=x;exact va6 e
theorem Paired.mapP {α β:Type}{F G:α->β->Prop}:∀ {l₁:List α}{l₂:List β},Paired F l₁ l₂->(∀ a b,F a b->G a b)->Paired G l₁ l₂
 | _,_,.nil,_=>.nil
 | _,_,.cons r t,f=>.cons (f _ _ r) (Paired.mapP t f)
theorem zxw.stay (x:zxw P w H h a o) (k:∀ b u,(b=a\/H b=some (.own a))->h.get? b=some u->h'.get? b=some u)
  (ho:∀ b,H b=some (.own a)->H' b=some (.own a)) (ht:∀ b xs,H b=some (.tup xs)->H' b=some (.tup xs)):zxw P w H' h' a o:=by
 induction o with
 | lst xs=>obtain ⟨z,its,n,r,e⟩:=x;exact ⟨z,its,n,r,k _ _ (.inl rfl) e⟩
 | tup xs=>obtain ⟨z,its,r,ob,e,c⟩:=x;exact ⟨z,its,r,ob,k _ _ (.inl rfl) e,c⟩
 | dK kvs=>obtain ⟨z,y,vs,r,ob,es,ep,e,c⟩:=x;exact ⟨z,y,vs,r,ob,es,ep,k _ _ (.inl rfl) e,c⟩
 | dT kvs=>
  obtain ⟨z,y,xs,r,ob,es,ep,e,c⟩:=x
  exact ⟨z,y,xs,Paired.mapP r λ p q z=>⟨z.1,ht _ _ z.2.1,z.2.2⟩,ob,es,ep,k _ _ (.inl rfl) e,c⟩
 | set S n=>obtain ⟨ob,es,ep,t,e,c⟩:=x;exact ⟨ob,es,ep,t,k _ _ (.inl rfl) e,c⟩
 | ins C dx fs=>
  obtain ⟨d,z,ne,e,mA,⟨od,es,ep,e2,c⟩,r⟩:=x
  exact ⟨ho _ d,z,ne,k _ _ (.inl rfl) e,mA,⟨od,es,ep,k _ _ (.inr d) e2,c⟩,r⟩
 | own y=>obtain ⟨ob,e⟩:=x;exact ⟨ob,k _ _ (.inl rfl) e⟩
 | xd fs=>obtain ⟨mA,⟨od,es,ep,e,c⟩,r⟩:=x;exact ⟨mA,⟨od,es,ep,k _ _ (.inl rfl) e,c⟩,r⟩
 | rng lo hi=>obtain ⟨t,u,v,e⟩:=x;exact ⟨t,u,v,k _ _ (.inl rfl) e⟩
 | frz ob u ih=>obtain ⟨e,q⟩:=x;exact ⟨k _ _ (.inl rfl) e,ih q⟩
 | tbl ps=>
  have e:h.get? a=some { cls:=.none,data:=.fields ps }:=x
  show h'.get? a=some { cls:=.none,data:=.fields ps }
  exact k a _ (.inl rfl) e
 | met f y=>
  have e:h.get? a=some (vi8 (.ref f) (.ref y)):=x
  show h'.get? a=some (vi8 (.ref f) (.ref y))
  exact k a _ (.inl rfl) e
 | ext φ=>obtain ⟨p,⟨o,e⟩,st⟩:=x;exact ⟨st _ _ p λ o q=>k _ _ (.inl rfl) q,⟨o,k _ _ (.inl rfl) e⟩,st⟩
theorem HOk.lt (x:HOk P w H h) (e:H a=some o):a < h.objs.size:=(x a o e).lt
theorem HOk.fresh (x:HOk P w H h) (e:h.objs.size<=a):H a=none:=by
 cases q:H a with
 | none=>rfl
 | some u=>exact absurd (jb0 (x.lt q) e) (je4 _)
theorem HOk.kept (x:HOk P w H h) (k:∀ b u,h.get? b=some u->h'.get? b=some u):HOk P w H h':=λ a o e=>
 (x a o e).stay (λ b u _ q=>k b u q) (λ _ q=>q) λ _ _ q=>q
theorem HOk.laid (x:HOk P w H h) (k:∀ b u,h.get? b=some u->h'.get? b=some u) (hp:h.objs.size<=a) (new:zxw P w (upd H a o) h' a o):HOk P w (upd H a o) h':=λ b u e=>by
 have hn:=x.fresh hp
 by_cases hb:b=a
 ·subst hb;rw [zqj] at e;cases e;exact new
 ·rw [zqg hb] at e
  exact (x b u e).stay (λ c v _ q=>k c v q) (λ c q=>by rw [zqg (zww q hn)];exact q) λ c xs q=>by rw [zqg (zww q hn)];exact q
end
def Rd (H:Hp) (a:Addr) (u:HO):Prop:=H a=some u\/∃ o,H a=some (.frz o u)
theorem Rd.ok {P:va8}{w:vb6}{H:Hp}{h:Heap}{a:Addr}{u:HO} (r:Rd H a u) (x:HOk P w H h):zxw P w H h a u:=by
 rcases r with r | ⟨o,r⟩
 ·exact x a u r
 ·obtain ⟨_,q⟩:=x a _ r
  exact q
def Mut:Option HO->Prop
 | some (.lst _)=>True
 | some (.dK _)=>True
 | some (.dT _)=>True
 | some (.set _ _)=>True
 | some (.ins _ _ _)=>True
 | some (.ext _)=>True
 | _=>False
section
variable {P:va8}{w:vb6}{H:Hp}{h h':Heap}{x e:Addr}{o':HO}
theorem HOk.write (ok:HOk P w H h) (mu:Mut (H x)) (he:e=x\/H e=some (.own x)) (k:∀ b u,b≠e->h.get? b=some u->h'.get? b=some u) (heo:∃ u,h'.get? e=some u)
  (new:zxw P w (upd H x o') h' x o'):HOk P w (upd H x o') h':=λ b u q=>by
 have nown:∀ c y,H c=some (.own y)->c≠x:=λ c y r z=>by subst z;rw [r] at mu;exact mu
 have ntup:∀ c xs,H c=some (.tup xs)->c≠x:=λ c xs r z=>by subst z;rw [r] at mu;exact mu
 by_cases hb:b=x
 ·subst hb;rw [zqj] at q;cases q;exact new
 ·rw [zqg hb] at q
  by_cases hbe:b=e
  ·have q':H b=some (.own x):=by
    rcases he with z | z
    ·exact absurd (hbe.trans z) hb
    ·rw [hbe];exact z
   rw [q] at q';cases q'
   obtain ⟨v,hv⟩:=heo
   exact ⟨v,by rw [hbe];exact hv⟩
  ·refine (ok b u q).stay (λ c v hc r=>k c v ?_ r) (λ c r=>by rw [zqg (nown c b r)];exact r) λ c xs r=>by rw [zqg (ntup c xs r)];exact r
   rcases hc with rfl | hc
   ·exact hbe
   ·rintro rfl
    rcases he with z | z
    ·exact nown c b hc z
    ·rw [hc] at z;cases z;exact hb rfl
end
structure Un (fs ex:List Addr) (H H':Hp) (h h':Heap):Prop where
 keep:∀ b o,h.get? b=some o->H b=none->b∉fs->b∉ex->h'.get? b=some o
 slot:∀ b o,h.get? b=some o->H b=none->b∈fs->b∉ex->∃ sl,h'.get? b=some { o with slots:=sl }
 free:∀ b o,h.get? b=some o->H b=none->b∉ex->H' b=none
 there:∀ b o,h.get? b=some o->b∉ex->∃ o',h'.get? b=some o'
 tups:∀ b xs,H b=some (.tup xs)->H' b=some (.tup xs)
 frzs:∀ b o u,H b=some (.frz o u)->H' b=some (.frz o u)
 tbls:∀ b ps,H b=some (.tbl ps)->∃ more,H' b=some (.tbl (ps++more))
section
variable {fs fs' ex ex':List Addr}{H H1 H2:Hp}{h h1 h2 h':Heap}{a x e:Addr}{o:HO}
theorem Un.any (u:Un fs ex H H1 h h1) {b:Addr}{ob:Obj} (q:h.get? b=some ob) (n:H b=none) (hx:b∉ex):∃ sl,h1.get? b=some { ob with slots:=sl }:=by
 by_cases hb:b∈fs
 ·exact u.slot b ob q n hb hx
 ·exact ⟨ob.slots,u.keep b ob q n hb hx⟩
theorem Un.kept (k:∀ b u,h.get? b=some u->h'.get? b=some u):Un fs ex H H h h':=
 ⟨λ b ob q _ _ _=>k b ob q,λ b ob q _ _ _=>⟨ob.slots,k b ob q⟩,λ _ _ _ n _=>n,λ b ob q _=>⟨ob,k b ob q⟩,λ _ _ q=>q,λ _ _ _ q=>q,λ _ ps q=>⟨#[],by rw [q];simp⟩⟩
theorem Un.refl:Un fs ex H H h h:=Un.kept λ _ _ q=>q
theorem Un.laid (k:∀ b u,h.get? b=some u->h'.get? b=some u) (hp:h.objs.size<=a) (hn:H a=none):Un fs ex H (upd H a o) h h' where
 keep:=λ b u q _ _ _=>k b u q
 slot:=λ b u q _ _ _=>⟨u.slots,k b u q⟩
 free:=λ b u q n _=>by rw [zqg (jc9 (jb0 (va6 q) hp))];exact n
 there:=λ b u q _=>⟨u,k b u q⟩
 tups:=λ b xs q=>by rw [zqg (zww q hn)];exact q
 frzs:=λ b u xs q=>by rw [zqg (zww q hn)];exact q
 tbls:=λ b ps q=>⟨#[],by rw [zqg (zww q hn),q];simp⟩
theorem Un.write (mu:Mut (H x)) (he:e=x\/H e=some (.own x)) (k:∀ b u,b≠e->h.get? b=some u->h'.get? b=some u) (heo:∃ u,h'.get? e=some u):Un fs ex H (upd H x o) h h':=by
 have hx:∀ b,H b=none->b≠x:=λ b n z=>by subst z;rw [n] at mu;exact mu
 have hb:∀ b,H b=none->b≠e:=λ b n z=>by
  subst z
  rcases he with r | r
  ·exact hx b n r
  ·rw [n] at r;cases r
 have hm:∀ b u,H b=some u->¬ Mut (some u)->b≠x:=λ b u q nm z=>by subst z;rw [q] at mu;exact nm mu
 refine ⟨λ b u q n _ _=>k b u (hb b n) q,λ b u q n _ _=>⟨u.slots,k b u (hb b n) q⟩,λ b u q n _=>by rw [zqg (hx b n)];exact n,λ b u q _=>?_,
  λ b xs q=>by rw [zqg (hm b _ q λ z=>z)];exact q,λ b u xs q=>by rw [zqg (hm b _ q λ z=>z)];exact q,λ b ps q=>⟨#[],by rw [zqg (hm b _ q λ z=>z),q];simp⟩⟩
 by_cases hbe:b=e
 ·subst hbe;exact heo
 ·exact ⟨u,k b u hbe q⟩
end
def trk (h:Heap) (H:Hp):List Addr:=(jc6 h.objs.size).filter λ a=>(H a).isSome
def hidT (h:Heap) (H:Hp):Heap:=PySem.W.hideAll h (trk h H)
theorem qcl (h:Heap) (H:Hp):(hidT h H).objs.size=h.objs.size:=PySem.W.hideAll_size _ _
theorem qek {h:Heap}{H:Hp}{b:Addr}{o:Obj} (e:h.get? b=some o) (n:H b=none):(hidT h H).get? b=some o:=
 vh5 _ e λ hm=>by
  have q:(H b).isSome=true:=(ji2.mp hm).2
  rw [n] at q;simp at q
theorem qhs {h:Heap}{H:Hp}{b:Addr}{o:Obj} (e:(hidT h H).get? b=some o):h.get? b=some o/\H b=none:=by
 have e':h.get? b=some o:=PySem.W.of_hideAll (trk h H) e
 refine ⟨e',?_⟩
 cases q:H b with
 | none=>rfl
 | some x=>
  have hm:b∈trk h H:=ji2.mpr ⟨jd0.mpr (va6 e'),by simp [q]⟩
  have z:(hidT h H).get? b=none:=PySem.W.hideAll_none (trk h H) hm
  rw [z] at e;cases e
def qiw (g h:Heap) (L:Addr):List (Addr×Obj):=(jc6 h.objs.size).filterMap λ a=>if a=L\/(g.get? a).isSome=true then none else (h.get? a).map λ o=>(a,o)
def rest (g h:Heap) (L d:Addr):List (Addr×Obj):=(qiw g h L).filter λ p=>decide (p.1≠d)
structure Mod (K:va4) (mg:Str->Option va0) (base:Heap):Prop where
 kin:K.In base
 glob:base.Ns vb9 mg
 blt:∃ mb,base.Ns builtinsNs mb/\∀ x:Str,x ≠ "__name__" -> mb x=ve7 x
 nolimit:base.NoLimit
structure Cx where
 prog:va8
 w:vb6
 K:va4
 mg:Str->Option va0
 base:Heap
 A:vb8
 N:List Str
 s₀:va1
 H₀:Hp
 env:Env
 outer:List Env
 stack:List Env
 ex:List Addr
 fn:Str->Bool
 calm:Bool
 pn:List (Addr×Obj)
 xe:va0->va1->Prop
def frs (l:List Env):List Addr:=l.filterMap (·.frame)
abbrev Cx.fs (X:Cx):List Addr:=frs X.outer
def Vis (sc:vd0) (x:Str):Prop:=sc.names.lookup x=some .local\/sc.names.lookup x=some .cell\/sc.names.lookup x=some .free
def Loc (sc:vd0) (x:Str):Prop:=sc.names.lookup x=some .local\/sc.names.lookup x=some .cell
def Look (env:Env) (h:Heap) (m:Str->Option va0) (x:Str) (u:va0):Prop:=
 (env.kindOf x=some .local/\m x=some u)\/((env.kindOf x=some .cell\/env.kindOf x=some .free)/\∃ c,env.cells.lookup x=some c/\h.IsCell c (some u))
structure Cx.Ok (X:Cx):Prop where
 mod:Mod X.K X.mg X.base
 kind:X.env.scope.kind=.function
 glob:X.env.globals=vb9
 blt:X.env.builtins=builtinsNs
 above:X.s₀.heap.objs.size<=X.env.locals
 inj:∀ x y c,X.env.cells.lookup x=some c->X.env.cells.lookup y=some c->x=y
 has:∀ x,(X.env.kindOf x=some .cell\/X.env.kindOf x=some .free)->∃ c,X.env.cells.lookup x=some c
 cab:∀ x c,X.fn x=true->X.env.cells.lookup x=some c->X.s₀.heap.objs.size<=c
 hd:X.calm=true->X.A.handled=none
 frames:X.A.frames=some X.stack
 stk:X.stack=X.outer\/(X.stack=X.env::X.outer/\X.env.frame=some X.env.locals)
 exf:∀ b∈X.ex,b≠X.env.locals/\∀ x c,X.env.cells.lookup x=some c->c≠b
 bs:∀ b o,X.base.get? b=some o->X.s₀.heap.get? b=some o/\X.H₀ b=none
 bsz:X.base.objs.size<=X.s₀.heap.objs.size
 noex:∀ b o,X.base.get? b=some o->b∉X.ex
 exfs:∀ b∈X.ex,b∉X.fs
 funs:X.s₀.heap.FunFrames X.base X.outer
 frf:∀ b∈X.fs,X.H₀ b=none
structure Inv (X:Cx) (pins:List (Addr×Obj)) (σ:List (Option V)) (H:Hp) (s:va1):Prop where
 ok:X.Ok
 os:s.os=X.s₀.os
 bare:vg4 s.gens
 base:Un X.fs X.ex X.H₀ H X.s₀.heap s.heap
 loc:∃ m,s.heap.Ns X.env.locals m/\∀ (i:Nat) (x:Str) (v:V),X.N[i]?=some x->σ[i]?=some (some v)->Vis X.env.scope x->∃ u,RelV v u/\Look X.env s.heap m x u
 cell:∀ x c,X.env.cells.lookup x=some c->∃ v,s.heap.IsCell c v
 free:H X.env.locals=none
 freeC:∀ x c,X.env.cells.lookup x=some c->H c=none
 pin:∀ p∈X.pn++pins,s.heap.get? p.1=some p.2/\H p.1=none/\p.1≠X.env.locals/\p.1∉X.fs/\∀ v,p.2.data≠.cell v
 hok:HOk X.prog X.w H s.heap
 len:σ.length=X.N.length
section
variable {X:Cx}{pins:List (Addr×Obj)}{σ:List (Option V)}{H H':Hp}{s:va1}{h':Heap}
theorem Cx.Ok.nofr (ok:X.Ok) {b:Addr}{o:Obj} (e:X.base.get? b=some o):b∉X.fs:=λ hb=>by
 have:=(ok.funs.mem hb).1
 rw [e] at this;cases this
theorem Inv.bs (I:Inv X pins σ H s):∀ b o,X.base.get? b=some o->s.heap.get? b=some o/\H b=none:=λ b o e=>
 ⟨I.base.keep b o (I.ok.bs b o e).1 (I.ok.bs b o e).2 (I.ok.nofr e) (I.ok.noex b o e),I.base.free b o (I.ok.bs b o e).1 (I.ok.bs b o e).2 (I.ok.noex b o e)⟩
theorem Inv.bk (I:Inv X pins σ H s):∀ b o,X.base.get? b=some o->s.heap.get? b=some o:=λ b o e=>(I.bs b o e).1
theorem Inv.mod (I:Inv X pins σ H s):Mod X.K X.mg X.base:=I.ok.mod
theorem Inv.kIn (I:Inv X pins σ H s):X.K.In s.heap:=I.ok.mod.kin.keeps I.bk
theorem Inv.lt (I:Inv X pins σ H s):X.env.locals < s.heap.objs.size:=let ⟨_,hn,_⟩:=I.loc;hn.lt
theorem Inv.sz (I:Inv X pins σ H s):X.s₀.heap.objs.size<=s.heap.objs.size:=jc4 I.ok.above (jm6 I.lt)
theorem Inv.nofs (I:Inv X pins σ H s) {a:Addr} (h:s.heap.objs.size<=a):a∉X.fs:=λ hb=>by
 obtain ⟨_,o,ho,_⟩:=I.ok.funs.mem hb
 exact absurd (jb0 (va6 ho) (jc4 I.sz h)) (je4 _)
theorem Inv.cne (I:Inv X pins σ H s):∀ x c,X.env.cells.lookup x=some c->c≠X.env.locals:=λ x c e z=>by
 obtain ⟨v,o,ho,hd⟩:=I.cell x c e
 obtain ⟨m,⟨o',es,ep,ho',hd',_⟩,_⟩:=I.loc
 rw [z,ho'] at ho;cases ho;rw [hd'] at hd;cases hd
theorem Inv.funs (I:Inv X pins σ H s):s.heap.FunFrames X.base X.outer:=by
 have all:∀ (l:List Env),(∀ b∈frs l,b∈X.fs)->X.s₀.heap.FunFrames X.base l->s.heap.FunFrames X.base l:=by
  intro l
  induction l with
  | nil=>intro _ _;trivial
  | cons env r ih=>
   intro hs hl
   obtain ⟨hk,⟨L,o,hf,hn,ho,hd⟩,hr⟩:=hl
   have hL:L∈X.fs:=hs L (by unfold frs;rw [jg6,hf];exact ja1)
   obtain ⟨sl,e⟩:=I.base.slot L o ho (I.ok.frf L hL) hL λ z=>I.ok.exfs L z hL
   exact ⟨hk,⟨L,_,hf,hn,e,hd⟩,ih (λ b hb=>hs b (by unfold frs;rw [jg6,hf];exact ja0 _ hb)) hr⟩
 exact all X.outer (λ _ hb=>hb) I.ok.funs
theorem Inv.stack (I:Inv X pins σ H s):s.heap.FunFrames X.base X.stack:=by
 rcases I.ok.stk with e | ⟨e,hf⟩
 ·rw [e];exact I.funs
 ·rw [e]
  obtain ⟨m,hn,_⟩:=I.loc
  refine .cons (by rw [I.ok.kind];decide) hf hn ?_ I.funs
  exact Heap.get?_none_of_le (jc4 I.ok.bsz I.ok.above)
theorem Inv.stkSub (I:Inv X pins σ H s):∀ b∈frs X.stack,b∈X.env.locals::X.fs:=λ b hb=>by
 rcases I.ok.stk with e | ⟨e,hf⟩
 ·rw [e] at hb;exact ja0 _ hb
 ·rw [e] at hb
  unfold frs at hb
  rw [jg6,hf] at hb
  exact hb
theorem Inv.stkFree (I:Inv X pins σ H s):∀ b∈frs X.stack,H b=none:=λ b hb=>by
 rcases jb2.mp (I.stkSub b hb) with e | hb
 ·rw [e];exact I.free
 ·obtain ⟨_,o,ho,_⟩:=I.ok.funs.mem hb
  exact I.base.free b o ho (I.ok.frf b hb) λ z=>I.ok.exfs b z hb
theorem Inv.step {g':Array GenState}{t':Nat}{d':Drawn}{ch:List Addr} (I:Inv X pins σ H s)
  (hch:∀ b∈ch,(b∈X.ex\/X.s₀.heap.objs.size<=b)/\b≠X.env.locals/\(∀ x c,X.env.cells.lookup x=some c->c≠b)/\∀ p∈X.pn++pins,p.1≠b)
  (keep:∀ b o,b≠X.env.locals->b∉X.fs->b∉ch->s.heap.get? b=some o->H b=none->h'.get? b=some o)
  (slot:∀ b o,b≠X.env.locals->b∈X.fs->b∉ch->s.heap.get? b=some o->H b=none->∃ sl,h'.get? b=some { o with slots:=sl }) (free:∀ b o,b∉ch->s.heap.get? b=some o->H b=none->H' b=none)
  (there:∀ b o,b∉ch->s.heap.get? b=some o->∃ o',h'.get? b=some o')
  (tups:∀ b xs,H b=some (.tup xs)->H' b=some (.tup xs)) (frzs:∀ b o u,H b=some (.frz o u)->H' b=some (.frz o u)) (tbls:∀ b ps,H b=some (.tbl ps)->∃ more,H' b=some (.tbl (ps++more)))
  (ns:∀ m,s.heap.Ns X.env.locals m->h'.Ns X.env.locals m) (hok:HOk X.prog X.w H' h') (hg:vg4 g'):
  Inv X pins σ H' { s with heap:=h',gens:=g',drawn:=d',toks:=t' }:=by
 have neL:∀ b o,X.s₀.heap.get? b=some o->b≠X.env.locals:=λ b o e=>jc9 (jb0 (va6 e) I.ok.above)
 have neC:∀ b o,X.s₀.heap.get? b=some o->b∉X.ex->b∉ch:=λ b o e hx hb=>by
  rcases (hch b hb).1 with z | z
  ·exact hx z
  ·exact absurd (jb0 (va6 e) z) (je4 _)
 have cellK:∀ x c,X.env.cells.lookup x=some c->∀ v,s.heap.IsCell c v->h'.IsCell c v:=λ x c e v ⟨o,ho,hd⟩=>by
  have nch:c∉ch:=λ z=>(hch c z).2.2.1 x c e rfl
  by_cases hc:c∈X.fs
  ·obtain ⟨sl,q⟩:=slot c o (I.cne x c e) hc nch ho (I.freeC x c e)
   exact ⟨_,q,hd⟩
  ·exact ⟨o,keep c o (I.cne x c e) hc nch ho (I.freeC x c e),hd⟩
 refine ⟨I.ok,I.os,hg,⟨λ b o e n hb hx=>?_,λ b o e n hb hx=>?_,λ b o e n hx=>?_,λ b o e hx=>?_,λ b xs e=>tups b xs (I.base.tups b xs e),λ b o xs e=>frzs b o xs (I.base.frzs b o xs e),λ b ps e=>?_⟩,?_,λ x c e=>?_,?_,λ x c e=>?_,λ p hp=>?_,hok,I.len⟩
 ·exact keep b o (neL b o e) hb (neC b o e hx) (I.base.keep b o e n hb hx) (I.base.free b o e n hx)
 ·obtain ⟨sl,e1⟩:=I.base.slot b o e n hb hx
  obtain ⟨sl',e2⟩:=slot b _ (neL b o e) hb (neC b o e hx) e1 (I.base.free b o e n hx)
  exact ⟨sl',e2⟩
 ·obtain ⟨o',e1⟩:=I.base.there b o e hx
  exact free b o' (neC b o e hx) e1 (I.base.free b o e n hx)
 ·obtain ⟨o',e1⟩:=I.base.there b o e hx
  exact there b o' (neC b o e hx) e1
 ·obtain ⟨m1,e1⟩:=I.base.tbls b ps e
  obtain ⟨m2,e2⟩:=tbls b _ e1
  exact ⟨m1++m2,by rw [e2,jl8]⟩
 ·obtain ⟨m,hn,hl⟩:=I.loc
  refine ⟨m,ns m hn,λ i x v e1 e2 e3=>?_⟩
  obtain ⟨u,r,l⟩:=hl i x v e1 e2 e3
  refine ⟨u,r,?_⟩
  rcases l with l | ⟨k,c,e,z⟩
  ·exact .inl l
  ·exact .inr ⟨k,c,e,cellK x c e _ z⟩
 ·obtain ⟨v,z⟩:=I.cell x c e
  exact ⟨v,cellK x c e v z⟩
 ·obtain ⟨m,⟨o,_,_,ho,_⟩,_⟩:=I.loc
  exact free _ o (λ z=>(hch _ z).2.1 rfl) ho I.free
 ·obtain ⟨v,o,ho,hd⟩:=I.cell x c e
  exact free c o (λ z=>(hch c z).2.2.1 x c e rfl) ho (I.freeC x c e)
 ·obtain ⟨e,n,ne,nf,d⟩:=I.pin p hp
  have nch:p.1∉ch:=λ z=>(hch p.1 z).2.2.2 p hp rfl
  exact ⟨keep p.1 p.2 ne nf nch e n,free p.1 p.2 nch e n,ne,nf,d⟩
theorem Inv.un {t':Nat} (I:Inv X pins σ H s) (u:Un X.fs [] H H' s.heap h') (hok:HOk X.prog X.w H' h'):Inv X pins σ H' { s with heap:=h',toks:=t' }:=by
 obtain ⟨m,⟨o,es,ep,ho,r⟩,_⟩:=id I.loc
 obtain ⟨sl,hL⟩:=u.any ho I.free (by simp)
 exact I.step (g':=s.gens) (d':=s.drawn) (ch:=[]) (λ _ z=>nomatch z) (λ b o _ hb _ e n=>u.keep b o e n hb (by simp)) (λ b o _ hb _ e n=>u.slot b o e n hb (by simp)) (λ b o _ e n=>u.free b o e n (by simp)) (λ b o _ e=>u.there b o e (by simp)) u.tups u.frzs u.tbls (λ m' hm=>by
  obtain ⟨o',es',ep',ho',r'⟩:=hm
  rw [ho] at ho';cases ho'
  exact ⟨_,es',ep',hL,r'⟩) hok I.bare
theorem Inv.call {g':Array GenState}{t':Nat}{d':Drawn}{ch:List Addr} (I:Inv X pins σ H s) (u:Un (frs X.stack) ch H H' s.heap h') (hok:HOk X.prog X.w H' h') (hg:vg4 g')
  (hch:∀ b∈ch,(b∈X.ex\/X.s₀.heap.objs.size<=b)/\b≠X.env.locals/\(∀ x c,X.env.cells.lookup x=some c->c≠b)/\∀ p∈X.pn++pins,p.1≠b):
  Inv X pins σ H' { s with heap:=h',gens:=g',drawn:=d',toks:=t' }:=by
 obtain ⟨m,⟨o,es,ep,ho,r⟩,_⟩:=id I.loc
 obtain ⟨sl,hL⟩:=u.any ho I.free λ z=>(hch _ z).2.1 rfl
 exact I.step (ch:=ch) hch (λ b o hL hb hc e n=>u.keep b o e n (λ z=>(jb2.mp (I.stkSub b z)).elim hL hb) hc) (λ b o _ _ hc e n=>u.any e n hc) (λ b o hc e n=>u.free b o e n hc) (λ b o hc e=>u.there b o e hc) u.tups u.frzs u.tbls (λ m' hm=>by
  obtain ⟨o',es',ep',ho',r'⟩:=hm
  rw [ho] at ho';cases ho'
  exact ⟨_,es',ep',hL,r'⟩) hok hg
theorem Inv.turned {t':Nat}{it:Addr} (I:Inv X pins σ H s) (k:∀ b o,b≠it->s.heap.get? b=some o->h'.get? b=some o) (hn:H it=none) (hL:it≠X.env.locals)
  (h1:it∈X.ex\/X.s₀.heap.objs.size<=it) (h2:∀ x c,X.env.cells.lookup x=some c->c≠it) (h3:∀ p∈X.pn++pins,p.1≠it):Inv X pins σ H { s with heap:=h',toks:=t' }:=by
 have nit:∀ b u,H b=some u->b≠it:=λ b u e z=>by rw [z,hn] at e;cases e
 refine I.step (g':=s.gens) (d':=s.drawn) (ch:=[it]) (λ b hb=>?_) (λ b o _ _ hc e _=>k b o (λ z=>hc (by simp [z])) e) (λ b o _ _ hc e _=>⟨o.slots,k b o (λ z=>hc (by simp [z])) e⟩) (λ _ _ _ _ n=>n)
  (λ b o hc e=>⟨o,k b o (λ z=>hc (by simp [z])) e⟩) (λ _ _ e=>e) (λ _ _ _ e=>e) (λ b ps e=>⟨#[],by rw [e];simp⟩) (λ m hm=>?_) (λ b u e=>?_) I.bare
 ·have e:b=it:=by simpa using hb
  subst e
  exact ⟨h1,hL,h2,h3⟩
 ·obtain ⟨o,es,ep,ho,r⟩:=hm
  exact ⟨o,es,ep,k _ o (vc2 hL) ho,r⟩
 ·refine (I.hok b u e).stay (λ c v hc q=>k c v ?_ q) (λ _ q=>q) λ _ _ q=>q
  rcases hc with z | z
  ·rw [z];exact nit b u e
  ·exact nit c _ z
theorem Inv.tok (I:Inv X pins σ H s) (t:Nat):Inv X pins σ H { s with toks:=t }:=I.un (h':=s.heap) (t':=t) Un.refl I.hok
theorem Inv.kept {t':Nat} (I:Inv X pins σ H s) (k:∀ b u,s.heap.get? b=some u->h'.get? b=some u):Inv X pins σ H { s with heap:=h',toks:=t' }:=I.un (Un.kept k) (I.hok.kept k)
theorem Inv.laid {a:Addr}{o:HO}{t':Nat} (I:Inv X pins σ H s) (k:∀ b u,s.heap.get? b=some u->h'.get? b=some u) (hp:s.heap.objs.size<=a) (new:zxw X.prog X.w (upd H a o) h' a o):
  Inv X pins σ (upd H a o) { s with heap:=h',toks:=t' }:=I.un (Un.laid k hp (I.hok.fresh hp)) (I.hok.laid k hp new)
theorem Inv.write {x e:Addr}{o:HO}{t':Nat} (I:Inv X pins σ H s) (mu:Mut (H x)) (he:e=x\/H e=some (.own x)) (k:∀ b u,b≠e->s.heap.get? b=some u->h'.get? b=some u) (heo:∃ u,h'.get? e=some u)
  (new:zxw X.prog X.w (upd H x o) h' x o):Inv X pins σ (upd H x o) { s with heap:=h',toks:=t' }:=I.un (Un.write mu he k heo) (I.hok.write mu he k heo new)
theorem Inv.pins_of {pins':List (Addr×Obj)} (I:Inv X pins σ H s) (h:∀ p∈pins',s.heap.get? p.1=some p.2/\H p.1=none/\p.1≠X.env.locals/\p.1∉X.fs/\∀ v,p.2.data≠.cell v):Inv X pins' σ H s:=
 ⟨I.ok,I.os,I.bare,I.base,I.loc,I.cell,I.free,I.freeC,λ p hp=>(jc0.mp hp).elim (λ z=>I.pin p (ja4 _ z)) (h p),I.hok,I.len⟩
theorem zgn {N:List Str} (hN:N.Nodup) {i j:Nat}{x:Str} (a:N[i]?=some x) (b:N[j]?=some x):i=j:=by
 obtain ⟨h1,e1⟩:=ja8.mp a
 obtain ⟨h2,e2⟩:=ja8.mp b
 exact (List.getElem_inj hN).mp (e1.trans e2.symm)
theorem zpp {M:Model}{A:vb8}{E:va0->va1->Prop}{i:Nat}{x:Str}{v:V}{u:va0}{Q:Unit->va1->Prop} (I:Inv X pins σ H s) (hN:X.N.Nodup) (hi:X.N[i]?=some x) (hx:Loc X.env.scope x) (r:RelV v u)
  (h:∀ s',Inv X pins (σ.set i (some v)) H s'->(∃ a,vj6 a s.heap s'.heap/\(a=X.env.locals\/X.env.cells.lookup x=some a))->Q () s') (hf:X.fn x=true\/X.env.scope.names.lookup x=some .local:=by first | exact .inl rfl | exact .inr rfl | assumption):vb2 M A (storeName X.env x u) Q E s:=by
 obtain ⟨m,hn,hl⟩:=id I.loc
 have hcls:(X.env.scope.kind == .class || (X.env.scope.kind == .module && X.env.locals != X.env.globals))=false:=by rw [I.ok.kind];rfl
 have hiσ:i < σ.length:=by rw [I.len];exact (ja8.mp hi).1
 have cne:=I.cne
 have tracked:∀ {a:Addr}{h':Heap},(∃ o,s.heap.get? a=some o/\H a=none)->vj6 a s.heap h'->HOk X.prog X.w H h':=λ {a h'} ha hs b ob e=>by
  obtain ⟨_,_,hfree⟩:=ha
  refine (I.hok b ob e).stay (λ c w' hc q=>(hs.2 c ?_).trans q) (λ _ q=>q) λ _ _ q=>q
  rintro rfl
  rcases hc with rfl | hc
  ·rw [hfree] at e;cases e
  ·rw [hfree] at hc;cases hc
 rcases hx with hk | hk
 ·refine wpAny_storeName_local hk hn (λ h' hn' hs=>?_) hcls
  obtain ⟨oL,_,_,hoL,_⟩:=id hn
  refine h _ ⟨I.ok,I.os,I.bare,⟨λ b o e n hb hx=>?_,λ b o e n hb hx=>?_,I.base.free,λ b o e hx=>?_,I.base.tups,I.base.frzs,I.base.tbls⟩,⟨_,hn',λ j y v' e1 e2 e3=>?_⟩,λ y c e=>?_,I.free,I.freeC,λ p hp=>?_,tracked ⟨oL,hoL,I.free⟩ hs,by simpa using I.len⟩ ⟨_,hs,.inl rfl⟩
  ·exact (hs.2 b (jc9 (jb0 (va6 e) I.ok.above))).trans (I.base.keep b o e n hb hx)
  ·obtain ⟨sl,e1⟩:=I.base.slot b o e n hb hx
   exact ⟨sl,(hs.2 b (jc9 (jb0 (va6 e) I.ok.above))).trans e1⟩
  ·obtain ⟨o',e1⟩:=I.base.there b o e hx
   exact ⟨o',(hs.2 b (jc9 (jb0 (va6 e) I.ok.above))).trans e1⟩
  ·by_cases hj:j=i
   ·subst hj
    rw [hi] at e1;cases e1
    rw [jc3 hiσ] at e2
    cases e2
    exact ⟨u,r,.inl ⟨hk,by simp⟩⟩
   ·rw [jb9 (vc2 hj)] at e2
    obtain ⟨u',r',q⟩:=hl j y v' e1 e2 e3
    refine ⟨u',r',?_⟩
    rcases q with ⟨k,e⟩ | ⟨k,c,e,z⟩
    ·refine .inl ⟨k,?_⟩
     have:y≠x:=λ e=>hj (zgn hN e1 (e ▸ hi))
     simp [this,e]
    ·exact .inr ⟨k,c,e,z.sameBut hs (cne y c e)⟩
  ·obtain ⟨w',z⟩:=I.cell y c e
   exact ⟨w',z.sameBut hs (cne y c e)⟩
  ·obtain ⟨e,n,ne,nf,d⟩:=I.pin p hp
   exact ⟨(hs.2 p.1 ne).trans e,n,ne,nf,d⟩
 ·have hfn:X.fn x=true:=by
   rcases hf with z | z
   ·exact z
   ·rw [z] at hk;cases hk
  obtain ⟨c,hc⟩:=I.ok.has x (.inl hk)
  obtain ⟨w',z⟩:=I.cell x c hc
  refine wpAny_storeName_cell I.ok.kind hk hc z (λ h' hc' hs=>?_)
  obtain ⟨oc,hoc,hocd⟩:=id z
  refine h { s with heap:=h' } ⟨I.ok,I.os,I.bare,⟨λ b o e n hb hx=>?_,λ b o e n hb hx=>?_,I.base.free,λ b o e hx=>?_,I.base.tups,I.base.frzs,I.base.tbls⟩,⟨m,hn.sameBut hs (vc2 (cne x c hc)),λ j y v' e1 e2 e3=>?_⟩,λ y c' e=>?_,I.free,I.freeC,λ p hp=>?_,tracked ⟨oc,hoc,I.freeC x c hc⟩ hs,by simpa using I.len⟩ ⟨c,hs,.inr hc⟩
  ·exact (hs.2 b (jc9 (jb0 (va6 e) (I.ok.cab x c hfn hc)))).trans (I.base.keep b o e n hb hx)
  ·obtain ⟨sl,e1⟩:=I.base.slot b o e n hb hx
   exact ⟨sl,(hs.2 b (jc9 (jb0 (va6 e) (I.ok.cab x c hfn hc)))).trans e1⟩
  ·obtain ⟨o',e1⟩:=I.base.there b o e hx
   exact ⟨o',(hs.2 b (jc9 (jb0 (va6 e) (I.ok.cab x c hfn hc)))).trans e1⟩
  ·by_cases hj:j=i
   ·subst hj
    rw [hi] at e1;cases e1
    rw [jc3 hiσ] at e2
    cases e2
    exact ⟨u,r,.inr ⟨.inl hk,c,hc,hc'⟩⟩
   ·rw [jb9 (vc2 hj)] at e2
    obtain ⟨u',r',q⟩:=hl j y v' e1 e2 e3
    refine ⟨u',r',?_⟩
    rcases q with q | ⟨k,c',e,z'⟩
    ·exact .inl q
    ·refine .inr ⟨k,c',e,z'.sameBut hs ?_⟩
     rintro rfl
     exact hj (zgn hN e1 (I.ok.inj _ _ _ e hc ▸ hi))
  ·by_cases hcc:c'=c
   ·subst hcc;exact ⟨_,hc'⟩
   ·obtain ⟨w2,z2⟩:=I.cell y c' e
    exact ⟨w2,z2.sameBut hs hcc⟩
  ·obtain ⟨e,n,ne,nf,d⟩:=I.pin p hp
   refine ⟨(hs.2 p.1 ?_).trans e,n,ne,nf,d⟩
   intro q
   rw [q,hoc] at e
   have q':oc=p.2:=Option.some.inj e
   exact d w' (by rw [<- q'];exact hocd)
theorem zgc {M:Model}{A:vb8}{E:va0->va1->Prop}{i:Nat}{x:Str}{v:V}{u:va0}{Q:Unit->va1->Prop} (I:Inv X pins σ H s) (hN:X.N.Nodup) (hi:X.N[i]?=some x) (hx:Loc X.env.scope x) (r:RelV v u)
  (h:∀ s',Inv X pins (σ.set i (some v)) H s'->Q () s') (hf:X.fn x=true\/X.env.scope.names.lookup x=some .local:=by first | exact .inl rfl | exact .inr rfl | assumption):vb2 M A (storeName X.env x u) Q E s:=
 zpp I hN hi hx r (λ s' I' _=>h s' I') hf
theorem Inv.call' {s':va1}{ch:List Addr} (I:Inv X pins σ H s) (ho:s'.os=s.os) (u:Un (frs X.stack) ch H H' s.heap s'.heap) (hok:HOk X.prog X.w H' s'.heap) (hg:vg4 s'.gens)
  (hch:∀ b∈ch,(b∈X.ex\/X.s₀.heap.objs.size<=b)/\b≠X.env.locals/\(∀ x c,X.env.cells.lookup x=some c->c≠b)/\∀ p∈X.pn++pins,p.1≠b):Inv X pins σ H' s':=by
 obtain ⟨h',g',d',t',o'⟩:=s'
 have e:o'=s.os:=ho
 subst e
 exact I.call (g':=g') (t':=t') (d':=d') u hok hg hch
end
abbrev XK:=va0->Option Addr->Hp->Prop
abbrev St:=List (Option V)
abbrev VK:=V->Hp->Prop
abbrev TE:=St->Hp->VK->Prop
abbrev TT:=St->Hp->(Bool->Hp->Prop)->Prop
abbrev TA:=St->Hp->(List V->Hp->Prop)->Prop
structure Ends where
 nx:St->Hp->Prop
 rt:VK
 bk:St->Hp->Prop:=λ _ _=>False
 ct:St->Hp->Prop:=λ _ _=>False
abbrev TS:=Ends->St->Hp->Prop
def EP (X:Cx) (pins:List (Addr×Obj)) (σ:St) (Q:VK) (u:va0) (s':va1):Prop:=∃ v H',Inv X pins σ H' s'/\RelV v u/\Q v H'
def TP (X:Cx) (pins:List (Addr×Obj)) (σ:St) (Q:Bool->Hp->Prop) (b:Bool) (s':va1):Prop:=∃ H',Inv X pins σ H' s'/\Q b H'
def AP (X:Cx) (pins:List (Addr×Obj)) (σ:St) (Q:List V->Hp->Prop) (us:List va0) (s':va1):Prop:=∃ vs H',Inv X pins σ H' s'/\Vals vs us/\Q vs H'
def SP (X:Cx) (pins:List (Addr×Obj)) (D:Ends) (f:Flow) (s':va1):Prop:=
 match f with
 | .next=>∃ σ' H',Inv X pins σ' H' s'/\D.nx σ' H'
 | .brk=>∃ σ' H',Inv X pins σ' H' s'/\D.bk σ' H'
 | .cont=>∃ σ' H',Inv X pins σ' H' s'/\D.ct σ' H'
 | .ret u=>∃ v σ' H',Inv X pins σ' H' s'/\RelV v u/\D.rt v H'
def PE (X:Cx) (e:Expr) (t:TE):Prop:=
 ∀ (pins:List (Addr×Obj)) (s:va1) (σ:St) (H:Hp) (Q:VK),Inv X pins σ H s->t σ H Q->vb2 (vb1 X.prog X.w) X.A (eval e X.env) (EP X pins σ Q) X.xe s
def PT (X:Cx) (e:Expr) (t:TT):Prop:=
 ∀ (pins:List (Addr×Obj)) (s:va1) (σ:St) (H:Hp) (Q:Bool->Hp->Prop),Inv X pins σ H s->t σ H Q->vb2 (vb1 X.prog X.w) X.A (isTrue e X.env (eval e X.env)) (TP X pins σ Q) X.xe s
def PW (X:Cx) (e:Expr) (t:TT):Prop:=
 ∀ (whole:Sem va0) (pins:List (Addr×Obj)) (s:va1) (σ:St) (H:Hp) (Q:Bool->Hp->Prop),Inv X pins σ H s->t σ H Q->vb2 (vb1 X.prog X.w) X.A (isTrue e X.env whole) (TP X pins σ Q) X.xe s
theorem PW.pt {X:Cx}{e:Expr}{t:TT} (h:PW X e t):PT X e t:=h _
def PA (X:Cx) (es:List Expr) (t:TA):Prop:=
 ∀ (pos:Pos) (pins:List (Addr×Obj)) (s:va1) (σ:St) (H:Hp) (Q:List V->Hp->Prop),Inv X pins σ H s->t σ H Q->vb2 (vb1 X.prog X.w) X.A (spliced (vd6 pos (va3 es X.env))) (AP X pins σ Q) X.xe s
def PS (X:Cx) (st:Stmt) (t:TS):Prop:=
 ∀ (pins:List (Addr×Obj)) (s:va1) (σ:St) (H:Hp) (D:Ends),Inv X pins σ H s->t D σ H->vb2 (vb1 X.prog X.w) X.A (exec st X.env) (SP X pins D) X.xe s
def PSs (X:Cx) (st:List Stmt) (t:TS):Prop:=
 ∀ (pins:List (Addr×Obj)) (s:va1) (σ:St) (H:Hp) (D:Ends),Inv X pins σ H s->t D σ H->vb2 (vb1 X.prog X.w) X.A (execs st X.env) (SP X pins D) X.xe s
theorem thn {α:Type}{t:Sem α}{Q Q':α->va1->Prop}{M:Model}{A:vb8}{E:va0->va1->Prop}{s:va1} (h:vb2 M A t Q E s) (hQ:∀ a s,Q a s->Q' a s):vb2 M A t Q' E s:=ve0 h hQ λ _ _ x=>x
section
variable {X:Cx}
theorem bin {a b:Expr}{ta tb:TE} (ha:PE X a ta) (hb:PE X b tb) {pins:List (Addr×Obj)}{s:va1}{σ:St}{H:Hp}{R:V->V->Hp->Prop} (I:Inv X pins σ H s) (h:ta σ H λ x H1=>tb σ H1 λ y H2=>R x y H2)
  {α:Type}{Q:α->va1->Prop}{f:va0->va0->Sem α}
  (hf:∀ v u s2 x y H2,Inv X pins σ H2 s2->RelV x v->RelV y u->R x y H2->vb2 (vb1 X.prog X.w) X.A (f v u) Q X.xe s2):
  vb2 (vb1 X.prog X.w) X.A (eval a X.env) (λ v s₁=>vb2 (vb1 X.prog X.w) X.A (eval b X.env) (λ u s₂=>vb2 (vb1 X.prog X.w) X.A (f v u) Q X.xe s₂) X.xe s₁) X.xe s:=by
 refine thn (ha pins s σ H _ I h) λ v s1 ⟨x,H1,I1,r1,q1⟩=>?_
 refine thn (hb pins s1 σ H1 _ I1 q1) λ u s2 ⟨y,H2,I2,r2,q2⟩=>?_
 exact hf v u s2 x y H2 I2 r1 r2 q2
def tVar (i:Nat):TE:=λ σ H Q=>∃ v,σ[i]?=some (some v)/\Q v H
def tC (v:V):TE:=λ _ H Q=>Q v H
theorem qke {i:Nat}{x:Str}{pos:Pos} (hN:X.N[i]?=some x) (hv:Vis X.env.scope x) (hd:(x == ("__debug__" : Str))=false:=by decide) (hcd:(x == ("__classdict__" : Str))=false:=by decide):PE X (.Name x pos) (tVar i):=by
 intro pins s σ H Q I h
 obtain ⟨v,e,h⟩:=h
 obtain ⟨m,hn,hl⟩:=I.loc
 obtain ⟨u,r,l⟩:=hl i x v hN e hv
 have fin:EP X pins σ Q u s:=⟨v,H,I,r,h⟩
 rcases l with ⟨hk,hm⟩ | ⟨hk,c,hc,hcell⟩
 ·exact wpAny_Name (wpAny_loadName_local I.ok.kind hk hn hm fin) hd
 ·rcases hk with hk | hk
  ·exact wpAny_Name (wpAny_loadName_cell I.ok.kind hk hc hcell fin) hd
  ·exact wpAny_Name (wpAny_loadName_free I.ok.kind hk hc hcell fin hcd) hd
theorem zgl {i j pos}:PE X (.Constant (.int i) j pos) (tC (.int i)):=λ _ _ _ H _ I h=>wpAny_Constant_int ⟨.int i,H,I.tok _,⟨_,rfl⟩,h⟩
theorem qmf {b j pos}:PE X (.Constant (.bool b) j pos) (tC (.bl b)):=λ _ _ _ H _ I h=>Constant_bool ⟨.bl b,H,I,rfl,h⟩
theorem qkg {j pos}:PE X (.Constant .none j pos) (tC .non):=λ _ _ _ H _ I h=>Constant_none ⟨.non,H,I,rfl,h⟩
theorem qfq {x j pos}:PE X (.Constant (.str x) j pos) (tC (.str x)):=λ _ _ _ H _ I h=>Calls.Constant_str ⟨.str x,H,I.tok _,⟨_,rfl⟩,h⟩
def Gl (X:Cx) (x:Str):Prop:=X.env.kindOf x=some .globalImplicit
theorem zfm {E:va0->va1->Prop}{pins:List (Addr×Obj)}{s:va1}{σ:St}{H:Hp}{x:Str}{u:va0}{pos:Pos}{Q:va0->va1->Prop} (I:Inv X pins σ H s) (hg:Gl X x) (hm:X.mg x=some u) (h:Q u s)
  (hd:(x == ("__debug__" : Str))=false:=by decide):vb2 (vb1 X.prog X.w) X.A (eval (.Name x pos) X.env) Q E s:=
 vl1 I.ok.kind hg (Calls.loadGlobal_global (by rw [I.ok.glob];exact I.mod.glob.keeps I.bk) hm h) hd
theorem zmh {E:va0->va1->Prop}{pins:List (Addr×Obj)}{s:va1}{σ:St}{H:Hp}{x:Str}{u:va0}{pos:Pos}{Q:va0->va1->Prop} (I:Inv X pins σ H s) (hg:Gl X x) (hm:X.mg x=none) (hv:ve7 x=some u) (h:Q u s)
  (hn:x ≠ "__name__" := by decide) (hd:(x == ("__debug__" : Str))=false:=by decide):vb2 (vb1 X.prog X.w) X.A (eval (.Name x pos) X.env) Q E s:=by
 obtain ⟨mb,h1,h2⟩:=I.mod.blt
 exact vl1 I.ok.kind hg (Calls.loadGlobal_builtin (by rw [I.ok.glob];exact I.mod.glob.keeps I.bk) hm (by rw [I.ok.blt];exact h1.keeps I.bk) ((h2 x hn).trans hv) h) hd
theorem qbt {x:Str}{v:V}{u:va0}{pos:Pos} (hg:Gl X x) (hm:X.mg x=some u) (r:RelV v u) (hd:(x == ("__debug__" : Str))=false:=by decide):PE X (.Name x pos) (tC v):=
 λ _ _ _ H _ I h=>zfm I hg hm ⟨v,H,I,r,h⟩ hd
theorem qbv {x:Str}{v:V}{u:va0}{pos:Pos} (hg:Gl X x) (hm:X.mg x=none) (hv:ve7 x=some u) (r:RelV v u) (hn:x ≠ "__name__" := by decide) (hd:(x == ("__debug__" : Str))=false:=by decide):PE X (.Name x pos) (tC v):=
 λ _ _ _ H _ I h=>zmh I hg hm hv ⟨v,H,I,r,h⟩ hn hd
variable {a b:Expr}{ta tb:TE}{pos:Pos}
def PC (X:Cx) (op:vl0) (a b:Expr) (t:TE):Prop:=
 ∀ (pins:List (Addr×Obj)) (s:va1) (σ:St) (H:Hp) (Q:VK),Inv X pins σ H s->t σ H Q ->
  vb2 (vb1 X.prog X.w) X.A (eval a X.env) (λ v s₁=>vb2 (vb1 X.prog X.w) X.A (eval b X.env) (λ u s₂=>vb2 (vb1 X.prog X.w) X.A (vb4 op v u) (EP X pins σ Q) X.xe s₂) X.xe s₁) X.xe s
theorem zwr (b:Expr) {op:vl0} (h:op≠.In) (h2:op≠.NotIn):ve9 op b=false:=by
 have e1:(op == CmpOp.In)=false:=by cases op <;> first | rfl | exact absurd rfl h
 have e2:(op == CmpOp.NotIn)=false:=by cases op <;> first | rfl | exact absurd rfl h2
 cases b <;> simp [ve9,e1,e2]
def tB (t:TE):TT:=λ σ H Q=>t σ H λ x H1=>∃ c,x=.bl c/\Q c H1
theorem qka {e:Expr}{t:TE} (h:PE X e t) (he:∀ whole,isTrue e X.env whole=(do let v<-whole;standAt e.pos;holding [v] (truthy v)):=by intro _;rfl):PT X e (tB t):=by
 intro pins s σ H Q I hw
 refine isTrue_plain (thn (h pins s σ H _ I hw) λ v s1 ⟨x,H1,I1,r1,q1⟩=>?_) (he _)
 obtain ⟨d,rfl,q⟩:=q1
 cases r1
 exact vc1 ⟨H1,I1,q⟩
variable {tA tB':TT}{rest:List Expr}
def tAnd (t u:TT):TT:=λ σ H Q=>t σ H λ c H1=>if c=true then u σ H1 Q else Q false H1
def tOr (t u:TT):TT:=λ σ H Q=>t σ H λ c H1=>if c=true then Q true H1 else u σ H1 Q
def tNot (t:TT):TT:=λ σ H Q=>t σ H λ c H1=>Q (!c) H1
theorem qhe (ha:PT X a tA):PW X (.BoolOp .And [a] pos) tA:=by
 intro wh pins s σ H Q I h
 refine isTrue_and (thn (ha pins s σ H Q I h) λ c s1 e=>?_)
 cases c with
 | true=>exact isTrue_and_nil e
 | false=>exact e
theorem qj8 (ha:PT X a tA):PW X (.BoolOp .Or [a] pos) tA:=by
 intro wh pins s σ H Q I h
 refine isTrue_or (thn (ha pins s σ H Q I h) λ c s1 e=>?_)
 cases c with
 | false=>exact isTrue_or_nil e
 | true=>exact e
theorem qj9 (ha:PT X a tA) (hb:PW X (.BoolOp .And (b::rest) pos) tB'):PW X (.BoolOp .And (a::b::rest) pos) (tAnd tA tB'):=by
 intro wh pins s σ H Q I h
 refine isTrue_and (thn (ha pins s σ H _ I h) λ c s1 ⟨H1,I1,q1⟩=>?_)
 cases c with
 | true=>exact hb wh pins s1 σ H1 Q I1 q1
 | false=>exact ⟨H1,I1,q1⟩
theorem qmb (ha:PT X a tA) (hb:PW X (.BoolOp .Or (b::rest) pos) tB'):PW X (.BoolOp .Or (a::b::rest) pos) (tOr tA tB'):=by
 intro wh pins s σ H Q I h
 refine isTrue_or (thn (ha pins s σ H _ I h) λ c s1 ⟨H1,I1,q1⟩=>?_)
 cases c with
 | true=>exact ⟨H1,I1,q1⟩
 | false=>exact hb wh pins s1 σ H1 Q I1 q1
theorem qkb (ha:PT X a tA):PT X (.UnaryOp .Not a pos) (tNot tA):=by
 intro pins s σ H Q I h
 exact isTrue_not (ha pins s σ H (λ c H1=>Q (!c) H1) I h)
def qjm (ta tb:TE):TE:=λ σ H Q=>ta σ H λ x H1=>∃ c,x=.bl c/\if c=true then tb σ H1 Q else Q (.bl false) H1
def tOrV (ta tb:TE):TE:=λ σ H Q=>ta σ H λ x H1=>∃ c,x=.bl c/\if c=true then Q (.bl true) H1 else tb σ H1 Q
def qjh (ta:TE):TE:=λ σ H Q=>ta σ H λ x H1=>∃ c,x=.bl c/\Q (.bl (!c)) H1
theorem qfr {op}{t:TE} (h:PE X a t):PE X (.BoolOp op [a] pos) t:=λ pins s σ H Q I hw=>BoolOp_one (h pins s σ H Q I hw)
theorem qkh (ha:PE X a ta) (hb:PE X (.BoolOp .And (b::rest) pos) tb):PE X (.BoolOp .And (a::b::rest) pos) (qjm ta tb):=by
 intro pins s σ H Q I h
 refine BoolOp_and (thn (ha pins s σ H _ I h) λ v s1 ⟨x,H1,I1,r1,q1⟩=>?_)
 obtain ⟨c,rfl,q1⟩:=q1
 cases r1
 refine vc1 ?_
 cases c with
 | true=>exact hb pins s1 σ H1 Q I1 q1
 | false=>exact ⟨.bl false,H1,I1,rfl,q1⟩
theorem qme (ha:PE X a ta) (hb:PE X (.BoolOp .Or (b::rest) pos) tb):PE X (.BoolOp .Or (a::b::rest) pos) (tOrV ta tb):=by
 intro pins s σ H Q I h
 refine BoolOp_or (thn (ha pins s σ H _ I h) λ v s1 ⟨x,H1,I1,r1,q1⟩=>?_)
 obtain ⟨c,rfl,q1⟩:=q1
 cases r1
 refine vc1 ?_
 cases c with
 | false=>exact hb pins s1 σ H1 Q I1 q1
 | true=>exact ⟨.bl true,H1,I1,rfl,q1⟩
theorem qkf (ha:PE X a ta):PE X (.UnaryOp .Not a pos) (qjh ta):=by
 intro pins s σ H Q I h
 refine UnaryOp_ (thn (ha pins s σ H _ I h) λ v s1 ⟨x,H1,I1,r1,q1⟩=>?_)
 obtain ⟨c,rfl,q1⟩:=q1
 cases r1
 exact not_of (vc1 ⟨.bl (!c),H1,I1,rfl,q1⟩)
end
def SqL (K:va4) (H:Hp) (a:Addr) (xs:List V):Prop:=
 Rd H a (.lst xs) \/
  ∃ (o:Obj) (its:Array va0) (n:Nat),K.lookup a=some o/\o.cls=.type "list" /\ o.dict=none/\o.data=.seq its n/\its.size<=va2/\Vals xs its.toList
def SqT (K:va4) (H:Hp) (a:Addr) (xs:List V):Prop:=
 Rd H a (.tup xs) \/
  ∃ (o:Obj) (its:Array va0) (n:Nat),K.lookup a=some o/\o.cls=.type "tuple" /\ o.data=.seq its n/\its.size<=va2/\Vals xs its.toList
def absV:va0->Option V
 | .none=>some .non
 | .bool b=>some (.bl b)
 | .int i _=>some (.int i)
 | .str x _=>some (.str x)
 | .bytes b _=>some (.byt b)
 | .float b _=>some (.flt b)
 | .ref a=>some (.ref a)
 | .type n=>some (.ty n)
 | _=>none
theorem RelV.abs {x:V}{u:va0} (r:RelV x u):absV u=some x:=by
 cases x with
 | non=>cases r;rfl
 | bl _=>cases r;rfl
 | int _=>obtain ⟨t,rfl⟩:=r;rfl
 | str _=>obtain ⟨t,rfl⟩:=r;rfl
 | byt _=>obtain ⟨t,rfl⟩:=r;rfl
 | flt _=>obtain ⟨t,rfl⟩:=r;rfl
 | ref _=>cases r;rfl
 | ty _=>cases r;rfl
theorem RelV.inj {x y:V}{u:va0} (r:RelV x u) (q:RelV y u):x=y:=Option.some.inj (r.abs.symm.trans q.abs)
theorem Vals.inj:∀ {xs ys:List V}{us:List va0},Vals xs us->Vals ys us->xs=ys
 | _,_,_,.nil,.nil=>rfl
 | _,_,_,.cons r t,.cons r' t'=>by rw [r.inj r',Vals.inj t t']
section
variable {X:Cx}{pins:List (Addr×Obj)}{σ:St}{H:Hp}{s:va1}{a:Addr}{xs ys:List V}
theorem Inv.list (I:Inv X pins σ H s) (h:SqL X.K H a xs):∃ its:List va0,Vals xs its/\PlainL s.heap a its.toArray/\xs.length<=va2:=by
 rcases h with h | ⟨o,its,n,hk,hc,hd,hs,hz,r⟩
 ·obtain ⟨z,its,n,r,e⟩:=h.ok I.hok
  exact ⟨its,r,⟨_,n,e,rfl,rfl,rfl⟩,z⟩
 ·refine ⟨its.toList,r,⟨o,n,I.kIn a o hk,hc,hd,by simpa using hs⟩,?_⟩
  have e:=r.length
  simp only [jf7] at e
  omega
theorem Inv.tuple (I:Inv X pins σ H s) (h:SqT X.K H a xs):∃ its:List va0,Vals xs its/\IsTup s.heap a its.toArray/\xs.length<=va2:=by
 rcases h with h | ⟨o,its,n,hk,hc,hs,hz,r⟩
 ·obtain ⟨z,its,r,p⟩:=h.ok I.hok
  exact ⟨its,r,p,z⟩
 ·refine ⟨its.toList,r,⟨o,I.kIn a o hk,hc,n,by simpa using hs⟩,?_⟩
  have e:=r.length
  simp only [jf7] at e
  omega
theorem Inv.list_inj (I:Inv X pins σ H s) (h:SqL X.K H a xs) (h':SqL X.K H a ys):xs=ys:=by
 obtain ⟨its,r,⟨o,n,e,_,_,d⟩,_⟩:=I.list h
 obtain ⟨its',r',⟨o',n',e',_,_,d'⟩,_⟩:=I.list h'
 rw [e] at e';cases e'
 rw [d] at d'
 injection d' with d1 _
 have:its=its':=by simpa using congrArg jo4 d1
 subst this
 exact r.inj r'
theorem Inv.tuple_inj (I:Inv X pins σ H s) (h:SqT X.K H a xs) (h':SqT X.K H a ys):xs=ys:=by
 obtain ⟨its,r,⟨o,e,_,n,d⟩,_⟩:=I.tuple h
 obtain ⟨its',r',⟨o',e',_,n',d'⟩,_⟩:=I.tuple h'
 rw [e] at e';cases e'
 rw [d] at d'
 injection d' with d1 _
 have:its=its':=by simpa using congrArg jo4 d1
 subst this
 exact r.inj r'
end
section
variable {X:Cx}{pins:List (Addr×Obj)}{σ:St}{H:Hp}{s:va1}{E:va0->va1->Prop}
end
section
variable {X:Cx}{st:Stmt}{rest:List Stmt}{t u:TS}{e:Expr}{te:TE}{pos:Pos}
def qji:TS:=λ D σ H=>D.nx σ H
def tSeq (t u:TS):TS:=λ D σ H=>t { D with nx:=u D } σ H
theorem qhj:PSs X [] qji:=λ _ _ σ H _ I h=>vj9 ⟨σ,H,I,h⟩
theorem qd1 (h1:PS X st t) (h2:PSs X rest u):PSs X (st::rest) (tSeq t u):=by
 intro pins s σ H D I h
 refine wpAny_execs_cons (thn (h1 pins s σ H { D with nx:=u D } I h) λ f s1 q=>?_)
 cases f with
 | next=>
  obtain ⟨σ',H',I',q⟩:=q
  exact h2 pins s1 σ' H' D I' q
 | ret v=>exact q
 | brk=>exact q
 | cont=>exact q
theorem qhi (h1:PS X st t):PSs X [st] t:=by
 intro pins s σ H D I h
 refine wpAny_execs_cons (thn (h1 pins s σ H D I h) λ f s1 q=>?_)
 cases f with
 | next=>exact vj9 q
 | ret v=>exact q
 | brk=>exact q
 | cont=>exact q
theorem Inv.quiet {pins:List (Addr×Obj)}{σ:St}{H:Hp}{s:va1} (I:Inv X pins σ H s):interactive X.env=false:=by simp [interactive,I.ok.kind]
def qdr (te:TE):TS:=λ D σ H=>te σ H λ _ H1=>D.nx σ H1
theorem zfi (he:PE X e te) (hs:swapsWith e none pos.line X.env=pure false:=by rfl):PS X (.Expr e pos) (qdr te):=by
 intro pins s σ H D I h
 exact wpAny_Expr_any (thn (he pins s σ H _ I h) λ v s1 ⟨x,H1,I1,r1,q1⟩=>⟨σ,H1,I1,q1⟩) I.quiet hs
def tRet (te:TE):TS:=λ D σ H=>te σ H D.rt
theorem qfo (he:PE X e te):PS X (.Return (some e) pos) (tRet te):=by
 intro pins s σ H D I h
 exact wpAny_Return_some (thn (he pins s σ H _ I h) λ v s1 ⟨x,H1,I1,r1,q1⟩=>⟨x,σ,H1,I1,r1,q1⟩)
def tIfS (c:TT) (t u:TS):TS:=λ D σ H=>c σ H λ b H1=>if b=true then t D σ H1 else u D σ H1
theorem qmc {c:Expr}{a b:List Stmt}{tc:TT} (hc:PT X c tc) (ha:PSs X a t) (hb:PSs X b u):PS X (.If c a b pos) (tIfS tc t u):=by
 intro pins s σ H D I h
 refine wpAny_If (thn (hc pins s σ H _ I h) λ d s1 ⟨H1,I1,q1⟩=>?_)
 cases d with
 | true=>exact ha pins s1 σ H1 D I1 q1
 | false=>exact hb pins s1 σ H1 D I1 q1
def zfz:TS:=λ _ _ _=>False
theorem zbj:PS X st zfz:=λ _ _ _ _ _ _ h=>h.elim
end
abbrev TG:=V->St->Hp->(St->Hp->Prop)->Prop
abbrev TGs:=List V->St->Hp->(St->Hp->Prop)->Prop
def PG (X:Cx) (target:Expr) (t:TG):Prop:=
 ∀ (pins:List (Addr×Obj)) (s:va1) (σ:St) (H:Hp) (v:V) (u:va0) (Q:St->Hp->Prop),Inv X pins σ H s->RelV v u->t v σ H Q ->
  vb2 (vb1 X.prog X.w) X.A (vk7 target X.env u) (λ _ s'=>∃ σ' H',Inv X pins σ' H' s'/\Q σ' H') X.xe s
def PGs (X:Cx) (ts:List Expr) (t:TGs):Prop:=
 ∀ (pins:List (Addr×Obj)) (s:va1) (σ:St) (H:Hp) (vs:List V) (us:List va0) (Q:St->Hp->Prop),Inv X pins σ H s->Vals vs us->t vs σ H Q ->
  vb2 (vb1 X.prog X.w) X.A (assignInOrder ((vc4 ts X.env).map (·.2)) us) (λ _ s'=>∃ σ' H',Inv X pins σ' H' s'/\Q σ' H') X.xe s
abbrev TSet:=V->V->V->Hp->(Hp->Prop)->Prop
def PSet (X:Cx) (t:TSet):Prop:=
 ∀ (pins:List (Addr×Obj)) (s:va1) (σ:St) (H:Hp) (o i v:V) (ov iv u:va0) (Q:Hp->Prop),Inv X pins σ H s->RelV o ov->RelV i iv->RelV v u->t o i v H Q ->
  vb2 (vb1 X.prog X.w) X.A (setItem ov iv u) (λ _ s'=>∃ H',Inv X pins σ H' s'/\Q H') X.xe s
section
variable {X:Cx}{pos:Pos}
def zjb (i:Nat):TG:=λ v σ H Q=>Q (σ.set i (some v)) H
theorem zbl {i:Nat}{x:Str} (hN:X.N.Nodup) (hi:X.N[i]?=some x) (hx:Loc X.env.scope x) (hf:X.fn x=true\/X.env.scope.names.lookup x=some .local:=by first | exact .inl rfl | exact .inr rfl | assumption):PG X (.Name x pos) (zjb i):=by
 intro pins s σ H v u Q I r h
 exact wpAny_assign_Name (zgc I hN hi hx r (λ s' I'=>⟨_,H,I',h⟩) hf)
def gNil:TGs:=λ vs σ H Q=>vs=[]/\Q σ H
def qld (t:TG) (u:TGs):TGs:=λ vs σ H Q=>∃ v r,vs=v::r/\t v σ H λ σ' H'=>u r σ' H' Q
theorem qbq:PGs X [] gNil:=by
 intro pins s σ H vs us Q I r h
 obtain ⟨e,h⟩:=h
 subst e
 cases r
 exact assignInOrder_nil ⟨σ,H,I,h⟩
theorem zgj {e:Expr}{es:List Expr}{t:TG}{u:TGs} (h1:PG X e t) (h2:PGs X es u)
  (hs:(vc4 (e::es) X.env).map (·.2)=vk7 e X.env::(vc4 es X.env).map (·.2):=by rfl):PGs X (e::es) (qld t u):=by
 intro pins s σ H vs us Q I r h
 obtain ⟨v,vr,e1,h⟩:=h
 subst e1
 cases r with
 | cons r rr=>
  rw [hs]
  refine assignInOrder_cons (thn (h1 pins s σ H _ _ _ I r h) λ _ s1 ⟨σ1,H1,I1,q1⟩=>?_)
  exact h2 pins s1 σ1 H1 _ _ Q I1 rr q1
def gTup (K:va4) (n:Nat) (t:TGs):TG:=λ v σ H Q=>∃ a xs,v=.ref a/\SqT K H a xs/\xs.length=n/\t xs σ H Q
theorem qbr {es:List Expr}{k:Nat}{t:TGs}{n:Nat} (hc:X.calm=true) (h:PGs X es t)
  (hn:(vc4 es X.env).length=n:=by rfl) (hst:(vc4 es X.env).findIdx? (·.1)=none:=by rfl):PG X (.Tuple es k pos) (gTup X.K n t):=by
 intro pins s σ H v u Q I r hw
 obtain ⟨a,xs,e1,hq,hl,hw⟩:=hw
 subst e1
 cases r
 obtain ⟨its,rv,ht,hz⟩:=I.tuple hq
 refine assign_Tuple_tuple (I.ok.hd hc) ht (by simp [hn,<- hl,rv.length]) hst λ h' hx=>?_
 have I1:Inv X pins σ H { s with heap:=h' }:=I.kept (t':=s.toks) λ b o e=>hx b o (jc9 (va6 e)) e
 exact h pins _ σ H xs _ Q I1 (by simpa using rv) hw
def gSub (to ti:TE) (t:TSet):TG:=λ v σ H Q=>to σ H λ o H1=>ti σ H1 λ i H2=>t o i v H2 λ H3=>Q σ H3
theorem zgk {o i:Expr}{to ti:TE}{t:TSet} (ho:PE X o to) (hi:PE X i ti) (hs:PSet X t)
  (ha:∀ v,vk7 (.Subscript o i pos) X.env v=(do
   let ov<-holding [v] (eval o X.env)
   let iv<-holding [v,ov] (eval i X.env)
   standAt pos
   holding [v,ov,iv] (setItem ov iv v)
   release [v,ov,iv] []):=by intro _;rfl):PG X (.Subscript o i pos) (gSub to ti t):=by
 intro pins s σ H v u Q I r h
 rw [ha]
 refine va7 (vh8 (thn (ho pins s σ H _ I h) λ ov s1 ⟨x,H1,I1,r1,q1⟩=>?_))
 refine va7 (vh8 (thn (hi pins s1 σ H1 _ I1 q1) λ iv s2 ⟨y,H2,I2,r2,q2⟩=>?_))
 refine va7 (wpAny_standAt (va7 (vh8 (thn (hs pins s2 σ H2 x y v ov iv u _ I2 r1 r2 r q2) λ _ s3 ⟨H3,I3,q3⟩=>?_))))
 exact wpAny_release ⟨σ,H3,I3,q3⟩
def tAsg (te:TE) (g:TG):TS:=λ D σ H=>te σ H λ x H1=>g x σ H1 D.nx
theorem zpx {tg e:Expr}{te:TE}{g:TG} (he:PE X e te) (hg:PG X tg g) (hs:swapsWithSole [tg] e pos.line X.env=pure false:=by rfl) (hw:swappedStores [tg] e X.env=pure none:=by rfl)
  (h1:(vc4 [tg] X.env).map (·.2)=[vk7 tg X.env]:=by rfl):PS X (.Assign [tg] e pos) (tAsg te g):=by
 intro pins s σ H D I h
 refine wpAny_Assign_stores (thn (he pins s σ H _ I h) λ v s1 ⟨x,H1,I1,r1,q1⟩=>?_) hs hw
 rw [h1]
 exact thn (hg pins s1 σ H1 x v _ I1 r1 q1) λ _ s2 q=>q
theorem qfn {i:Nat}{x:Str}{e:Expr}{te:TE}{pos':Pos} (hN:X.N.Nodup) (hi:X.N[i]?=some x) (hx:Loc X.env.scope x) (he:PE X e te) (hs:swapsWith e (some (.Name x pos')) pos.line X.env=pure false:=by rfl) (hf:X.fn x=true\/X.env.scope.names.lookup x=some .local:=by first | exact .inl rfl | exact .inr rfl | assumption):
  PS X (.Assign [.Name x pos'] e pos) (tAsg te (zjb i)):=by
 intro pins s σ H D I h
 refine wpAny_Assign_Name (thn (he pins s σ H _ I h) λ v s1 ⟨y,H1,I1,r1,q1⟩=>?_) hs
 exact zgc I1 hN hi hx r1 (λ s2 I2=>⟨_,H1,I2,q1⟩) hf
end
section
variable {X:Cx}{pos:Pos}
end
structure It where
 go:Nat->Hp->Prop
 yld:Nat->Hp->V->Hp->Prop
 stop:Nat->Hp->Prop
def FpOk (X:Cx) (pins:List (Addr×Obj)) (H:Hp) (b:Addr):Prop:=
 H b=none/\b≠X.env.locals/\b∉X.fs/\(b∈X.ex\/X.s₀.heap.objs.size<=b)/\(∀ x c,X.env.cells.lookup x=some c->c≠b)/\∀ p∈X.pn++pins,p.1≠b
theorem Inv.fpOk {X:Cx}{pins:List (Addr×Obj)}{σ:St}{H H':Hp}{s:va1}{b:Addr} (I:Inv X pins σ H s) (hb:s.heap.objs.size<=b) (hn:H' b=none):FpOk X pins H' b:=by
 refine ⟨hn,jg7 (jb0 I.lt hb),I.nofs hb,.inr (jc4 I.sz hb),λ x c e z=>?_,λ p hp z=>?_⟩
 ·obtain ⟨v,q⟩:=I.cell x c e
  exact absurd (jb0 q.lt (by rw [z];exact hb)) (je4 _)
 ·exact absurd (jb0 (va6 (I.pin p hp).1) (by rw [z];exact hb)) (je4 _)
structure Turn (P:va8) (w:vb6) (K:va4) (tg:Expr) (J:It) (fp:List Addr) (it:Addr) (tn:Nat->Heap->Prop):Prop where
 mem:it∈fp
 obj:∀ i h,tn i h->∀ b∈fp,∃ o,h.get? b=some o/\∀ v,o.data≠.cell v
 keep:∀ i h h',tn i h->(∀ b∈fp,∀ o,h.get? b=some o->h'.get? b=some o)->tn i h'
 item:∀ (X:Cx),X.prog=P->X.w=w->X.K=K->X.calm=true->∀ (i:Nat) (pins:List (Addr×Obj)) (s:va1) (σ:St) (H:Hp) (E:va0->va1->Prop),Inv X pins σ H s->(∀ b∈fp,FpOk X pins H b)->tn i s.heap->J.go i H ->
  vb2 (vb1 P w) X.A (pyNext (.ref it)) (λ r s1=>∃ u,r=some u /\
   vb2 (vb1 P w) X.A (vg7 tg (.ref it) u) (λ _ s2=>∃ x H',Inv X pins σ H' s2/\RelV x u/\J.yld i H x H'/\tn (i + 1) s2.heap/\∀ b∈fp,H' b=none) E s1) E s
 done:∀ (X:Cx),X.prog=P->X.w=w->X.K=K->X.calm=true->∀ (i:Nat) (pins:List (Addr×Obj)) (s:va1) (σ:St) (H:Hp) (E:va0->va1->Prop),Inv X pins σ H s->(∀ b∈fp,FpOk X pins H b)->tn i s.heap->J.stop i H ->
  vb2 (vb1 P w) X.A (pyNext (.ref it)) (λ r s1=>r=none/\Inv X pins σ H s1) E s
 self:∀ (A:vb8) (i:Nat) (s:va1) (Q:va0->va1->Prop) (E:va0->va1->Prop),tn i s.heap->Q (.ref it) s->vb2 (vb1 P w) A (pyIter (.ref it)) Q E s
abbrev TI:=St->Hp->(It->Hp->Prop)->Prop
def PIE (X:Cx) (pins:List (Addr×Obj)) (σ:St) (tg:Expr) (R:It->Hp->Prop) (itv:va0) (s2:va1):Prop:=
 ∃ (it:Addr) (fp:List Addr) (tn:Nat->Heap->Prop) (J:It) (H':Hp),itv=.ref it/\Inv X pins σ H' s2/\Turn X.prog X.w X.K tg J fp it tn/\tn 0 s2.heap/\(∀ b∈fp,FpOk X pins H' b)/\R J H'
def PI (X:Cx) (tg iter:Expr) (wi:TI):Prop:=
 ∀ (pins:List (Addr×Obj)) (s:va1) (σ:St) (H:Hp) (R:It->Hp->Prop),Inv X pins σ H s->wi σ H R ->
  vb2 (vb1 X.prog X.w) X.A (eval iter X.env) (λ v s1=>vb2 (vb1 X.prog X.w) X.A (pyIter v) (PIE X pins σ tg R) X.xe s1) X.xe s
theorem qeo {M:Model}{A:vb8}{E:va0->va1->Prop}{s:va1}{tg:Expr}{it:Addr}{u:va0}{o:Obj}{n:String}{vs:Array va0}{Q:Unit->va1->Prop} (ho:s.heap.get? it=some o) (hc:o.cls=.type n) (hd:o.data=.fields vs)
  (hn:["enumerate","zip","dict_itemiterator","dict_reverseitemiterator","odict_iterator","itertools.zip_longest","itertools.pairwise"].contains n=false) (hQ:Q () s):vb2 M A (vg7 tg (.ref it) u) Q E s:=by
 unfold vg7
 cases tg <;> first
  | exact va9 hQ
  | (cases u <;> first
    | exact va9 hQ
    | (refine va7 (wpAny_load ho ?_);rw [hc,hd];show vb2 M A (if (["enumerate","zip","dict_itemiterator","dict_reverseitemiterator","odict_iterator","itertools.zip_longest","itertools.pairwise"].contains n && vs[0]? == some (rawInt _))=true then _ else _) Q E s;rw [if_neg (by intro h;rw [hn,Bool.false_and] at h;cases h)];exact va9 hQ))
def Itl (K:va4) (a:Addr):It:=
 ⟨λ i H=>∃ xs x,SqL K H a xs/\xs[i]?=some x,λ i H x H'=>H'=H/\∀ xs,SqL K H a xs->xs[i]?=some x,λ i H=>∃ xs,SqL K H a xs/\xs.length<=i⟩
def Itt (K:va4) (a:Addr):It:=
 ⟨λ i H=>∃ xs x,SqT K H a xs/\xs[i]?=some x,λ i H x H'=>H'=H/\∀ xs,SqT K H a xs->xs[i]?=some x,λ i H=>∃ xs,SqT K H a xs/\xs.length<=i⟩
def Itr (lo:Int) (n:Nat):It:=⟨λ i _=>i < n,λ i H x H'=>H'=H/\x=.int (lo + i),λ i _=>n<=i⟩
theorem qaw {P:va8}{w:vb6}{K:va4}{tg:Expr} (a it:Addr):Turn P w K tg (Itl K a) [it] it (λ i h=>h.IsListIter it a i) where
 mem:=by simp
 obj:=λ i h st b hb=>by
  have e:b=it:=by simpa using hb
  subst e
  obtain ⟨o,e,c,d⟩:=st
  exact ⟨o,e,λ v z=>by rw [d] at z;cases z⟩
 keep:=λ i h h' st k=>st.at λ o e=>k it (by simp) o e
 item:=by
  intro X hP hw hK hc i pins s σ H E I hf st hg
  subst hP hw hK
  obtain ⟨xs,x,hq,hx⟩:=hg
  obtain ⟨its,rv,p,hz⟩:=I.list hq
  obtain ⟨u,hu,ru⟩:=rv.get hx
  obtain ⟨f0,f1,f2,f3,f4,f5⟩:=hf it (by simp)
  refine wpAny_pyNext_list_item st p.isList (x:=u) (by simpa using hu) λ h' st' sb=>?_
  have I1:Inv X pins σ H { s with heap:=h' }:=I.turned (t':=s.toks) (λ b o hb e=>(sb.2 b hb).trans e) f0 f1 f3 f4 f5
  obtain ⟨o,e,c,d⟩:=id st'
  exact ⟨u,rfl,qeo (s:={ s with heap:=h' }) e c d (by decide) ⟨x,H,I1,ru,⟨rfl,λ ys hy=>by rw [I.list_inj hy hq];exact hx⟩,st',λ b hb=>(hf b hb).1⟩⟩
 done:=by
  intro X hP hw hK hc i pins s σ H E I hf st hg
  subst hP hw hK
  obtain ⟨xs,hq,hx⟩:=hg
  obtain ⟨its,rv,p,hz⟩:=I.list hq
  obtain ⟨f0,f1,f2,f3,f4,f5⟩:=hf it (by simp)
  have hl:=rv.length
  exact wpAny_pyNext_list_end (I.ok.hd hc) st p.isList (by simp;omega) λ h' eb=>⟨rfl,I.turned (t':=s.toks) (λ b o hb e=>eb b o hb e) f0 f1 f3 f4 f5⟩
 self:=λ _ _ _ _ _ st h=>wpAny_pyIter_listiter st h
theorem zhx {P:va8}{w:vb6}{K:va4}{tg:Expr} (a it:Addr):Turn P w K tg (Itt K a) [it] it (λ i h=>h.IsTupleIter it a i) where
 mem:=by simp
 obj:=λ i h st b hb=>by
  have e:b=it:=by simpa using hb
  subst e
  obtain ⟨o,e,c,d⟩:=st
  exact ⟨o,e,λ v z=>by rw [d] at z;cases z⟩
 keep:=λ i h h' st k=>st.at λ o e=>k it (by simp) o e
 item:=by
  intro X hP hw hK hc i pins s σ H E I hf st hg
  subst hP hw hK
  obtain ⟨xs,x,hq,hx⟩:=hg
  obtain ⟨its,rv,p,hz⟩:=I.tuple hq
  obtain ⟨u,hu,ru⟩:=rv.get hx
  obtain ⟨f0,f1,f2,f3,f4,f5⟩:=hf it (by simp)
  refine wpAny_pyNext_tuple_item st (show s.heap.IsTuple a its.toArray from p) (x:=u) (by simpa using hu) λ h' st' sb=>?_
  have I1:Inv X pins σ H { s with heap:=h' }:=I.turned (t':=s.toks) (λ b o hb e=>(sb.2 b hb).trans e) f0 f1 f3 f4 f5
  obtain ⟨o,e,c,d⟩:=id st'
  exact ⟨u,rfl,qeo (s:={ s with heap:=h' }) e c d (by decide) ⟨x,H,I1,ru,⟨rfl,λ ys hy=>by rw [I.tuple_inj hy hq];exact hx⟩,st',λ b hb=>(hf b hb).1⟩⟩
 done:=by
  intro X hP hw hK hc i pins s σ H E I hf st hg
  subst hP hw hK
  obtain ⟨xs,hq,hx⟩:=hg
  obtain ⟨its,rv,p,hz⟩:=I.tuple hq
  obtain ⟨f0,f1,f2,f3,f4,f5⟩:=hf it (by simp)
  have hl:=rv.length
  exact wpAny_pyNext_tuple_end (I.ok.hd hc) st (show s.heap.IsTuple a its.toArray from p) (by simp;omega) λ h' eb=>⟨rfl,I.turned (t':=s.toks) (λ b o hb e=>eb b o hb e) f0 f1 f3 f4 f5⟩
 self:=λ _ _ _ _ _ st h=>wpAny_pyIter_tupleiter st h
theorem zhy {P:va8}{w:vb6}{K:va4}{tg:Expr} (it:Addr) (lo:Int) (n:Nat):Turn P w K tg (Itr lo n) [it] it (λ i h=>IsRangeIter h it (lo + (i:Nat) * 1) ((n:Int) - (i:Nat)) 1) where
 mem:=by simp
 obj:=λ i h st b hb=>by
  have e:b=it:=by simpa using hb
  subst e
  exact ⟨_,st,λ v z=>by
   have z':Data.fields _=Data.cell v:=z
   cases z'⟩
 keep:=λ i h h' st k=>k it (by simp) _ st
 item:=by
  intro X hP hw hK hc i pins s σ H E I hf st hg
  subst hP hw hK
  obtain ⟨f0,f1,f2,f3,f4,f5⟩:=hf it (by simp)
  have W:=Walks.range (prog:=X.prog) (w:=X.w) (I.ok.hd hc) it lo 1 n
  refine W.item i s _ _ hg st λ v h' tk hv st' kk=>?_
  obtain ⟨t,rfl⟩:=hv
  have I1:Inv X pins σ H { s with heap:=h',toks:=tk }:=I.turned (λ b o hb e=>kk b o (by simpa using hb) e) f0 f1 f3 f4 f5
  refine ⟨_,rfl,qeo (s:={ s with heap:=h',toks:=tk }) (n := "range_iterator") st' rfl rfl (by decide) ⟨.int (lo + i),H,I1,⟨t,?_⟩,⟨rfl,rfl⟩,st',λ b hb=>(hf b hb).1⟩⟩
  rw [Int.mul_one]
 done:=by
  intro X hP hw hK hc i pins s σ H E I hf st hg
  subst hP hw hK
  obtain ⟨f0,f1,f2,f3,f4,f5⟩:=hf it (by simp)
  exact wpAny_pyNext_range_end (I.ok.hd hc) st (by have:n<=i:=hg;omega) λ h' eb=>⟨rfl,I.turned (t':=s.toks) (λ b o hb e=>eb b o hb e) f0 f1 f3 f4 f5⟩
 self:=λ _ _ _ _ _ st h=>wpAny_pyIter_rangeiter st h
section
variable {X:Cx}{tg:Expr}
theorem zgh {pins:List (Addr×Obj)}{σ:St}{H:Hp}{s:va1}{R:It->Hp->Prop}{E:va0->va1->Prop}{lo hi:Int}{t u v:Tok}{tk:Nat} (I:Inv X pins σ H s) (h1:-(2 ^ 62)<=lo) (h2:lo < 2 ^ 62) (h3:-(2 ^ 62)<=hi) (h4:hi < 2 ^ 62)
  (q:R (Itr lo (hi - lo).toNat) H):vb2 (vb1 X.prog X.w) X.A (pyIter (.ref s.heap.objs.size)) (PIE X pins σ tg R) E { s with heap:=s.heap.push { cls:=.type "range",data:=.fields #[.int lo t,.int hi u,.int 1 v] },toks:=tk }:=by
 refine wpAny_pyIter_range (IsRange.new ..) (small_one h1 h2 h3 h4) ?_
 have I1:Inv X pins σ H { s with heap:=s.heap.push { cls:=.type "range",data:=.fields #[.int lo t,.int hi u,.int 1 v] },toks:=tk }:=I.kept λ b o e=>va5 _ e
 refine ⟨(s.heap.push { cls:=.type "range",data:=.fields #[.int lo t,.int hi u,.int 1 v] }).objs.size,[(s.heap.push { cls:=.type "range",data:=.fields #[.int lo t,.int hi u,.int 1 v] }).objs.size],_,_,H,rfl,
  I1.kept (t':=tk) λ b o e=>va5 _ e,zhy _ lo (hi - lo).toNat,?_,λ b hb=>?_,q⟩
 ·have e1:lo + ((0:Nat):Int) * 1=lo:=by simp
  have e2:(((hi - lo).toNat:Nat):Int) - ((0:Nat):Int)=Builtin.Range.rangeSize lo hi 1:=by rw [rangeSize_one];split <;> omega
  show IsRangeIter _ _ (lo + ((0:Nat):Int) * 1) ((((hi - lo).toNat:Nat):Int) - ((0:Nat):Int)) 1
  rw [e1,e2]
  exact vb0 _ rfl
 ·have e:b=(s.heap.push { cls:=.type "range",data:=.fields #[.int lo t,.int hi u,.int 1 v] }).objs.size:=by simpa using hb
  subst e
  exact I1.fpOk (jb7 _) (I1.hok.fresh (jb7 _))
def qej (ta:TA):TI:=λ σ H R=>ta σ H λ vs H1=>∃ j:Int,vs=[.int j]/\-(2 ^ 62)<=j/\j < 2 ^ 62/\R (Itr 0 j.toNat) H1
def qei (ta:TA):TI:=λ σ H R=>ta σ H λ vs H1=>∃ i j:Int,vs=[.int i,.int j]/\(-(2 ^ 62)<=i/\i < 2 ^ 62/\-(2 ^ 62)<=j/\j < 2 ^ 62)/\R (Itr i (j - i).toNat) H1
theorem qbp {a:Expr}{ta:TA}{p pos:Pos} (hg:Gl X "range") (hm:X.mg "range" = none) (ha:PA X [a] ta) (hs:va3 [a] X.env=[(false,eval a X.env)]:=by rfl):PI X tg (.Call (.Name "range" p) [a] [] pos) (qej ta):=by
 intro pins s σ H R I h
 refine Call_ (zmh I hg hm boot_range (vf3 (thn (ha pos pins s σ H _ I h) λ us s1 ⟨vs,H1,I1,r1,q1⟩=>?_) hs rfl))
 obtain ⟨j,e,q1,q2,q⟩:=q1
 subst e
 cases r1 with
 | cons r rr=>
  cases rr
  obtain ⟨t,rfl⟩:=r
  exact call_range_1 (zgh I1 (by omega) (by omega) q1 q2 (by simpa using q))
theorem qbo {a b:Expr}{ta:TA}{p pos:Pos} (hg:Gl X "range") (hm:X.mg "range" = none) (ha:PA X [a,b] ta) (hs:va3 [a,b] X.env=[(false,eval a X.env),(false,eval b X.env)]:=by rfl) (hs2:va3 [b] X.env=[(false,eval b X.env)]:=by rfl):
  PI X tg (.Call (.Name "range" p) [a,b] [] pos) (qei ta):=by
 intro pins s σ H R I h
 refine Call_ (zmh I hg hm boot_range (vf3 (thn (ha pos pins s σ H _ I h) λ us s1 ⟨vs,H1,I1,r1,q1⟩=>?_) (by rw [hs,hs2]) (by rw [hs2];rfl)))
 obtain ⟨i,j,e,⟨q1,q2,q3,q4⟩,q⟩:=q1
 subst e
 cases r1 with
 | cons r rr=>
  cases rr with
  | cons r' rr=>
   cases rr
   obtain ⟨t,rfl⟩:=r
   obtain ⟨t',rfl⟩:=r'
   exact call_range_2 (zgh I1 q1 q2 q3 q4 q)
def tFor (wi:TI) (g:TG) (tb:TS):TS:=λ D σ H=>wi σ H λ J H1=>∃ W:Nat->Nat->St->Hp->Prop,(∃ m,W 0 m σ H1)/\∀ i m σ H,W i m σ H ->
 (J.stop i H/\D.nx σ H)\/(J.go i H/\∃ N:St->Hp->Prop,(∀ σ' H',N σ' H'->∃ m',m' < m/\W (i + 1) m' σ' H')/\∀ x H',J.yld i H x H'->g x σ H' λ σ2 H2=>tb { D with nx:=N,ct:=N,bk:=D.nx } σ2 H2)
def zpy (fp:List Addr) (h:Heap):List (Addr×Obj):=fp.filterMap λ b=>(h.get? b).map λ o=>(b,o)
theorem zzr {fp:List Addr}{h:Heap}{b:Addr}{o:Obj} (hb:b∈fp) (e:h.get? b=some o):(b,o)∈zpy fp h:=jj0.mpr ⟨b,hb,by rw [e];rfl⟩
theorem qb3 {fp:List Addr}{h:Heap}{p:Addr×Obj} (hp:p∈zpy fp h):p.1∈fp/\h.get? p.1=some p.2:=by
 obtain ⟨b,hb,e⟩:=jj0.mp hp
 cases q:h.get? b with
 | none=>rw [q] at e;cases e
 | some o=>
  rw [q] at e
  have e':(b,o)=p:=Option.some.inj e
  subst e'
  exact ⟨hb,q⟩
theorem Inv.pinned {pins:List (Addr×Obj)}{σ:St}{H:Hp}{s:va1}{fp:List Addr} (I:Inv X pins σ H s) (hf:∀ b∈fp,FpOk X pins H b) (ho:∀ b∈fp,∃ o,s.heap.get? b=some o/\∀ v,o.data≠.cell v):Inv X (pins++zpy fp s.heap) σ H s:=
 I.pins_of λ p hp=>(jc0.mp hp).elim (λ z=>I.pin p (ja2 _ z)) λ z=>by
  obtain ⟨hb,e⟩:=qb3 z
  obtain ⟨f0,f1,f2,_⟩:=hf p.1 hb
  obtain ⟨o,e',d⟩:=ho p.1 hb
  rw [e] at e';cases e'
  exact ⟨e,f0,f1,f2,d⟩
theorem Inv.unpinned {pins pl:List (Addr×Obj)}{σ:St}{H:Hp}{s:va1} (I:Inv X (pins++pl) σ H s):Inv X pins σ H s:=I.pins_of λ p hp=>I.pin p (ja2 _ (ja4 _ hp))
theorem zjk {iter:Expr}{body:List Stmt}{wi:TI}{g:TG}{tb:TS}{pos:Pos} (hp:PassesOwn (vb1 X.prog X.w) X.A X.env X.xe) (hc:X.calm=true) (hi:PI X tg iter wi) (hg:PG X tg g) (hb:PSs X body tb)
  (hs:∀ x,vf9 iter X.env x=pure x:=by intro _;rfl):PS X (.For tg iter body [] pos) (tFor wi g tb):=by
 intro pins s σ H D I h
 refine wpAny_For (thn (hi pins s σ H _ I h) λ v s1 h1=>thn h1 λ itv s2 h2=>?_) hs
 obtain ⟨it,fp,tn,J,H2,e,I2,T,st2,f2,W,⟨m0,w0⟩,turn⟩:=h2
 subst e
 have stat:∀ {H':Hp},(∀ b∈fp,H' b=none)->∀ b∈fp,FpOk X pins H' b:=λ hn b hb=>⟨hn b hb,(f2 b hb).2⟩
 refine codeAny_forLoop_any (λ n s'=>∃ i σ' H',Inv X pins σ' H' s'/\tn i s'.heap/\(∀ b∈fp,H' b=none)/\W i n σ' H') ?_ m0 ⟨0,σ,H2,I2,st2,λ b hb=>(f2 b hb).1,w0⟩
 rintro n s3 ⟨i,σ3,H3,I3,st3,fr3,w3⟩
 rcases turn i n σ3 H3 w3 with ⟨stop,qn⟩ | ⟨go,N,hN,step⟩
 ·refine vf0 hp (thn (T.done X rfl rfl rfl hc i pins s3 σ3 H3 X.xe I3 (stat fr3) st3 stop) λ r s4 ⟨hr,I4⟩=>?_)
  subst hr
  exact vj9 ⟨σ3,H3,I4,qn⟩
 ·refine vf0 hp (thn (T.item X rfl rfl rfl hc i pins s3 σ3 H3 X.xe I3 (stat fr3) st3 go) λ r s4 ⟨u,hr,h4⟩=>?_)
  subst hr
  refine vf0 hp (thn h4 λ _ s5 ⟨x,H5,I5,r5,y5,st5,fr5⟩=>?_)
  have I5':=I5.pinned (stat fr5) (T.obj _ _ st5)
  refine vf0 hp (thn (hg _ s5 σ3 H5 x u _ I5' r5 (step x H5 y5)) λ _ s6 ⟨σ6,H6,I6,q6⟩=>?_)
  refine vf0 hp (thn (hb _ s6 σ6 H6 _ I6 q6) λ f s7 q7=>?_)
  have again:∀ {σ7:St}{H7:Hp},Inv X (pins++zpy fp s5.heap) σ7 H7 s7->N σ7 H7->∃ m,m < n/\∃ i σ' H',Inv X pins σ' H' s7/\tn i s7.heap/\(∀ b∈fp,H' b=none)/\W i m σ' H':=λ {σ7 H7} I7 n7=>by
   obtain ⟨m',hm,w7⟩:=hN σ7 H7 n7
   refine ⟨m',hm,i + 1,σ7,H7,I7.unpinned,T.keep _ _ _ st5 λ b hb o e=>(I7.pin (b,o) (ja2 _ (ja2 _ (zzr hb e)))).1,λ b hb=>?_,w7⟩
   obtain ⟨o,e,d⟩:=T.obj _ _ st5 b hb
   exact (I7.pin (b,o) (ja2 _ (ja2 _ (zzr hb e)))).2.1
  cases f with
  | next=>obtain ⟨σ7,H7,I7,n7⟩:=q7;exact again I7 n7
  | cont=>obtain ⟨σ7,H7,I7,n7⟩:=q7;exact again I7 n7
  | brk=>obtain ⟨σ7,H7,I7,q7⟩:=q7;exact ⟨σ7,H7,I7.unpinned,q7⟩
  | ret v=>obtain ⟨x7,σ7,H7,I7,r7,q7⟩:=q7;exact ⟨x7,σ7,H7,I7.unpinned,r7,q7⟩
end
abbrev R2:=V->V->Hp->VK->Prop
def OpR (X:Cx) (f:va0->va0->Sem va0) (r:R2):Prop:=
 ∀ (pins:List (Addr×Obj)) (s:va1) (σ:St) (H:Hp) (x y:V) (v u:va0) (Q:VK),Inv X pins σ H s->RelV x v->RelV y u->r x y H Q ->
  vb2 (vb1 X.prog X.w) X.A (f v u) (EP X pins σ Q) X.xe s
def UnR (X:Cx) (f:va0->Sem va0) (r:V->Hp->VK->Prop):Prop:=
 ∀ (pins:List (Addr×Obj)) (s:va1) (σ:St) (H:Hp) (x:V) (v:va0) (Q:VK),Inv X pins σ H s->RelV x v->r x H Q ->
  vb2 (vb1 X.prog X.w) X.A (f v) (EP X pins σ Q) X.xe s
def zwn (X:Cx) (f:va0) (r:List V->Hp->VK->Prop):Prop:=
 ∀ (pins:List (Addr×Obj)) (s:va1) (σ:St) (H:Hp) (xs:List V) (us:List va0) (Q:VK),Inv X pins σ H s->Vals xs us->r xs H Q ->
  vb2 (vb1 X.prog X.w) X.A (call f us) (EP X pins σ Q) X.xe s
def tOp (r:R2) (ta tb:TE):TE:=λ σ H Q=>ta σ H λ x H1=>tb σ H1 λ y H2=>r x y H2 Q
def tUn (r:V->Hp->VK->Prop) (ta:TE):TE:=λ σ H Q=>ta σ H λ x H1=>r x H1 Q
def rI (C:Int->Int->Prop) (g:Int->Int->V):R2:=λ x y H Q=>∃ i j,x=.int i/\y=.int j/\C i j/\Q (g i j) H
def rI0 (g:Int->Int->V):R2:=λ x y H Q=>∃ i j,x=.int i/\y=.int j/\Q (g i j) H
def rU (g:Int->V):V->Hp->VK->Prop:=λ x H Q=>∃ i,x=.int i/\Q (g i) H
section
variable {X:Cx}{a b c:Expr}{ta tb tc:TE}{pos:Pos}
theorem binT (ha:PE X a ta) (hb:PE X b tb) {pins:List (Addr×Obj)}{s:va1}{σ:St}{H:Hp}{R:V->V->Hp->Prop} (I:Inv X pins σ H s)
  (h:ta σ H λ x H1=>tb σ H1 λ y H2=>R x y H2) {Q:va0->va1->Prop}{f:va0->va0->Sem va0}
  (hf:∀ v u s2 x y H2,Inv X pins σ H2 s2->RelV x v->RelV y u->R x y H2->vb2 (vb1 X.prog X.w) X.A (f v u) Q X.xe s2):
  vb2 (vb1 X.prog X.w) X.A (eval a X.env) (λ v s₁=>vb2 (vb1 X.prog X.w) X.A (eval b X.env) (λ u s₂=>vb2 (vb1 X.prog X.w) X.A (f v u) Q X.xe s₂) X.xe s₁) X.xe s:=by
 refine thn (ha pins s σ H _ I h) λ v s1 ⟨x,H1,I1,r1,q1⟩=>?_
 refine thn (hb pins s1 σ H1 _ I1 q1) λ u s2 ⟨y,H2,I2,r2,q2⟩=>?_
 exact hf v u s2 x y H2 I2 r1 r2 q2
theorem qd5 {op:Operator}{r:R2} (ho:OpR X (vd5 op) r) (ha:PE X a ta) (hb:PE X b tb):PE X (.BinOp a op b pos) (tOp r ta tb):=by
 intro pins s σ H Q I h
 exact wpAny_BinOp (binT ha hb I h λ v u s2 x y H2 I2 rx ry q=>ho pins s2 σ H2 x y v u Q I2 rx ry q)
theorem qmd {op:UnaryOp}{r:V->Hp->VK->Prop} (ho:UnR X (unaryOp op) r) (ha:PE X a ta):PE X (.UnaryOp op a pos) (tUn r ta):=by
 intro pins s σ H Q I h
 exact UnaryOp_ (thn (ha pins s σ H _ I h) λ v s1 ⟨x,H1,I1,r1,q1⟩=>ho pins s1 σ H1 x v Q I1 r1 q1)
theorem opI {f:va0->va0->Sem va0}{C:Int->Int->Prop}{g:Int->Int->Int}
  (rule:∀ (i j:Int) (t u:Tok) (s:va1) (Q:va0->va1->Prop) (E:va0->va1->Prop),C i j->Q (.int (g i j) s.toks) { s with toks:=s.toks + 1 }->vb2 (vb1 X.prog X.w) X.A (f (.int i t) (.int j u)) Q E s):
  OpR X f (rI C λ i j=>.int (g i j)):=by
 intro pins s σ H x y v u Q I rx ry h
 obtain ⟨i,j,rfl,rfl,hc,q⟩:=h
 obtain ⟨t,rfl⟩:=rx
 obtain ⟨t',rfl⟩:=ry
 exact rule i j t t' s _ _ hc ⟨.int (g i j),H,I.tok _,⟨_,rfl⟩,q⟩
theorem opI0 {f:va0->va0->Sem va0}{g:Int->Int->Int}
  (rule:∀ (i j:Int) (t u:Tok) (s:va1) (Q:va0->va1->Prop) (E:va0->va1->Prop),Q (.int (g i j) s.toks) { s with toks:=s.toks + 1 }->vb2 (vb1 X.prog X.w) X.A (f (.int i t) (.int j u)) Q E s):
  OpR X f (rI0 λ i j=>.int (g i j)):=by
 intro pins s σ H x y v u Q I rx ry h
 obtain ⟨i,j,rfl,rfl,q⟩:=h
 obtain ⟨t,rfl⟩:=rx
 obtain ⟨t',rfl⟩:=ry
 exact rule i j t t' s _ _ ⟨.int (g i j),H,I.tok _,⟨_,rfl⟩,q⟩
theorem opB0 {f:va0->va0->Sem va0}{g:Int->Int->Bool}
  (rule:∀ (i j:Int) (t u:Tok) (s:va1) (Q:va0->va1->Prop) (E:va0->va1->Prop),Q (.bool (g i j)) s->vb2 (vb1 X.prog X.w) X.A (f (.int i t) (.int j u)) Q E s):
  OpR X f (rI0 λ i j=>.bl (g i j)):=by
 intro pins s σ H x y v u Q I rx ry h
 obtain ⟨i,j,rfl,rfl,q⟩:=h
 obtain ⟨t,rfl⟩:=rx
 obtain ⟨t',rfl⟩:=ry
 exact rule i j t t' s _ _ ⟨.bl (g i j),H,I,rfl,q⟩
def CPow (i j:Int):Prop:=0<=j/\j<=1000000/\i.natAbs < 2 ^ 64
def CMul (i j:Int):Prop:=(-(2 ^ 64) < i/\i < 2 ^ 64)\/(-(2 ^ 64) < j/\j < 2 ^ 64)
theorem CMul.ok {i j:Int} (h:CMul i j):IntMulOk i j:=by
 rcases h with ⟨h1,h2⟩ | ⟨h1,h2⟩
 ·exact .of_left (intBits_le_64 h1 h2)
 ·exact .of_right (intBits_le_64 h1 h2)
theorem qkx:OpR X (vd5 .Add) (rI0 λ i j=>.int (i + j)):=opI0 λ _ _ _ _ _ _ _ q=>add_int q
theorem qko:OpR X (vd5 .Mult) (rI CMul λ i j=>.int (i * j)):=opI λ _ _ _ _ _ _ _ hc q=>mul_int q hc.ok
theorem qkp:OpR X (vd5 .Mod) (rI (λ _ j=>0 < j) λ i j=>.int (i % j)):=opI λ i j _ _ _ _ _ hc q=>by
 have h1:(0:Int) < j:=hc
 exact mod_int' (by omega) (by rw [Int.fmod_eq_emod_of_nonneg i (by omega)];exact q)
theorem qkm:OpR X (vd5 .Pow) (rI CPow λ i j=>.int (i ^ j.toNat)):=opI λ _ _ _ _ _ _ _ hc q=>pow_int_small hc.1 hc.2.1 hc.2.2 q
theorem unI {f:va0->Sem va0}{g:Int->Int}
  (rule:∀ (i:Int) (t:Tok) (s:va1) (Q:va0->va1->Prop) (E:va0->va1->Prop),Q (.int (g i) s.toks) { s with toks:=s.toks + 1 }->vb2 (vb1 X.prog X.w) X.A (f (.int i t)) Q E s):
  UnR X f (rU λ i=>.int (g i)):=by
 intro pins s σ H x v Q I rx h
 obtain ⟨i,rfl,q⟩:=h
 obtain ⟨t,rfl⟩:=rx
 exact rule i t s _ _ ⟨.int (g i),H,I.tok _,⟨_,rfl⟩,q⟩
theorem qi3:UnR X (unaryOp .USub) (rU λ i=>.int (-i)):=unI λ _ _ _ _ _ q=>neg_int q
end
def scal:V->V->Bool
 | .non,.non=>true | .non,.int _=>true | .int _,.non=>true | .non,.bl _=>true | .bl _,.non=>true | .non,.str _=>true | .str _,.non=>true
 | .int _,.int _=>true | .bl _,.bl _=>true | .str _,.str _=>true | .byt _,.byt _=>true
 | .int _,.str _=>true | .str _,.int _=>true | .bl _,.str _=>true | .str _,.bl _=>true
 | _,_=>false
def rEq:R2:=λ x y H Q=>scal x y=true/\Q (.bl (decide (x=y))) H
theorem qcs {i j:Int}:decide (V.int i=V.int j)=(i == j):=by
 rw [jg9]
 simp
theorem qlp {i j:Bool}:decide (V.bl i=V.bl j)=(i == j):=by
 rw [jg9]
 simp
theorem qia {i j:Str}:decide (V.str i=V.str j)=(i == j):=by
 rw [jg9]
 simp
theorem qib {i j:Array UInt8}:decide (V.byt i=V.byt j)=(i.toList == j.toList):=by
 rw [jg9]
 cases i
 cases j
 simp
section
variable {X:Cx}{a b c:Expr}{ta tb tc:TE}{pos:Pos}
theorem zwl {pins:List (Addr×Obj)}{σ:St}{H:Hp}{s:va1}{Q:VK}{k k':Bool} (I:Inv X pins σ H s) (q:Q (.bl k) H) (e:k=k'):EP X pins σ Q (.bool k') s:=by
 subst e
 exact ⟨.bl k,H,I,rfl,q⟩
theorem qmg:OpR X (vb4 .Eq) rEq:=by
 intro pins s σ H x y v u Q I rx ry h
 obtain ⟨hs,q⟩:=h
 cases x with
 | non=>
  cases rx
  cases y with
  | non=>cases ry;exact PySem.EqNone.eq_none_none (zwl I q (by simp))
  | bl j=>cases ry;exact PySem.EqNone.eq_none_bool (zwl I q (by simp))
  | int j=>obtain ⟨t',rfl⟩:=ry;exact PySem.EqNone.eq_none_int (zwl I q (by simp))
  | str j=>obtain ⟨t',rfl⟩:=ry;exact PySem.EqNone.eq_none_str (zwl I q (by simp))
  | _=>exact absurd (show false=true from hs) jc7
 | bl i=>
  cases rx
  cases y with
  | non=>cases ry;exact PySem.EqNone.eq_bool_none (zwl I q (by simp))
  | bl j=>cases ry;exact eq_bool (zwl I q qlp)
  | str j=>obtain ⟨t',rfl⟩:=ry;exact PySem.EqMixed.eq_bool_str (zwl I q (by simp))
  | _=>exact absurd (show false=true from hs) jc7
 | int i=>
  obtain ⟨t,rfl⟩:=rx
  cases y with
  | non=>cases ry;exact PySem.EqNone.eq_int_none (zwl I q (by simp))
  | int j=>obtain ⟨t',rfl⟩:=ry;exact eq_int (zwl I q qcs)
  | str j=>obtain ⟨t',rfl⟩:=ry;exact PySem.EqMixed.eq_int_str (zwl I q (by simp))
  | _=>exact absurd (show false=true from hs) jc7
 | str i=>
  obtain ⟨t,rfl⟩:=rx
  cases y with
  | non=>cases ry;exact PySem.EqNone.eq_str_none (zwl I q (by simp))
  | bl j=>cases ry;exact PySem.EqMixed.eq_str_bool (zwl I q (by simp))
  | int j=>obtain ⟨t',rfl⟩:=ry;exact PySem.EqMixed.eq_str_int (zwl I q (by simp))
  | str j=>obtain ⟨t',rfl⟩:=ry;exact eq_str (zwl I q qia)
  | _=>exact absurd (show false=true from hs) jc7
 | byt i=>
  obtain ⟨t,rfl⟩:=rx
  cases y with
  | byt j=>obtain ⟨t',rfl⟩:=ry;exact PySem.W.eq_bytes (zwl I q qib)
  | _=>exact absurd (show false=true from hs) jc7
 | _=>cases y <;> exact absurd (show false=true from hs) jc7
theorem qkq:OpR X (vb4 .Lt) (rI0 λ i j=>.bl (decide (i < j))):=opB0 λ _ _ _ _ _ _ _ q=>lt_int q
theorem qkr:OpR X (vb4 .LtE) (rI0 λ i j=>.bl (decide (i<=j))):=opB0 λ _ _ _ _ _ _ _ q=>le_int q
theorem qkt:OpR X (vb4 .Gt) (rI0 λ i j=>.bl (decide (j < i))):=opB0 λ _ _ _ _ _ _ _ q=>gt_int q
theorem qku:OpR X (vb4 .GtE) (rI0 λ i j=>.bl (decide (j<=i))):=opB0 λ _ _ _ _ _ _ _ q=>ge_int q
theorem OpR.or {f:va0->va0->Sem va0}{r r':R2} (h:OpR X f r) (h':OpR X f r'):OpR X f (λ x y H Q=>r x y H Q\/r' x y H Q):=by
 intro pins s σ H x y v u Q I rx ry q
 rcases q with q | q
 ·exact h pins s σ H x y v u Q I rx ry q
 ·exact h' pins s σ H x y v u Q I rx ry q
theorem qhk {op:vl0}{r:R2} (ho:OpR X (vb4 op) r) (ha:PE X a ta) (hb:PE X b tb) (hm:ve9 op b=false):PE X (.Compare a [op] [b] pos) (tOp r ta tb):=by
 intro pins s σ H Q I h
 exact wpAny_Compare1 (binT ha hb I h λ v u s2 x y H2 I2 rx ry q=>ho pins s2 σ H2 x y v u Q I2 rx ry q) hm
def qi5 (t:TE):TT:=λ σ H Q=>t σ H λ x H'=>∃ k,x=.bl k/\Q k H'
theorem qhh {op:vl0}{r:R2} (ho:OpR X (vb4 op) r) (ha:PE X a ta) (hb:PE X b tb) (hm:ve9 op b=false):PT X (.Compare a [op] [b] pos) (qi5 (tOp r ta tb)):=by
 intro pins s σ H Q I h
 refine wpAny_isTrue_Compare1 (thn (ha pins s σ H _ I h) λ v s1 ⟨x,H1,I1,r1,q1⟩=>thn (hb pins s1 σ H1 _ I1 q1) λ u s2 ⟨y,H2,I2,r2,q2⟩=>
  thn (ho pins s2 σ H2 x y v u _ I2 r1 r2 q2) λ c s3 ⟨z,H3,I3,r3,k,e,q3⟩=>?_) hm
 subst e
 cases r3
 exact vc1 ⟨H3,I3,q3⟩
def qa6 (r r':R2) (ta tb tc:TE):TE:=λ σ H Q=>ta σ H λ x H1=>tb σ H1 λ y H2=>r x y H2 λ z H3=>∃ k,z=.bl k /\
 (if k=true then tc σ H3 λ w' H4=>r' y w' H4 Q else Q (.bl false) H3)
theorem qd7 {op op':vl0}{r r':R2} (ho:OpR X (vb4 op) r) (ho':OpR X (vb4 op') r') (ha:PE X a ta) (hb:PE X b tb) (hc:PE X c tc)
  (hm:lastMarks [op,op'] [b,c]=false:=by with_unfolding_all rfl):PE X (.Compare a [op,op'] [b,c] pos) (qa6 r r' ta tb tc):=by
 intro pins s σ H Q I h
 refine Compare_chain (thn (ha pins s σ H _ I h) λ v s1 ⟨x,H1,I1,r1,q1⟩=>chain_link (thn (hb pins s1 σ H1 _ I1 q1) λ u s2 ⟨y,H2,I2,r2,q2⟩=>
  thn (ho pins s2 σ H2 x y v u _ I2 r1 r2 q2) λ d s3 ⟨z,H3,I3,r3,k,e,q3⟩=>?_)) hm
 subst e
 cases r3
 refine vc1 ?_
 cases k with
 | false=>exact ite_ff ⟨.bl false,H3,I3,rfl,q3⟩
 | true=>exact ite_tt (chain_last (thn (hc pins s3 σ H3 _ I3 q3) λ w' s4 ⟨z',H4,I4,r4,q4⟩=>ho' pins s4 σ H4 y z' u w' Q I4 r2 r4 q4))
theorem qd0 {op op':vl0}{r r':R2} (ho:OpR X (vb4 op) r) (ho':OpR X (vb4 op') r') (ha:PE X a ta) (hb:PE X b tb) (hc:PE X c tc)
  (hm:lastMarks [op,op'] [b,c]=false:=by with_unfolding_all rfl):PT X (.Compare a [op,op'] [b,c] pos) (qi5 (qa6 r r' ta tb tc)):=by
 intro pins s σ H Q I h
 refine isTrue_chain (thn (ha pins s σ H _ I h) λ v s1 ⟨x,H1,I1,r1,q1⟩=>test_link (thn (hb pins s1 σ H1 _ I1 q1) λ u s2 ⟨y,H2,I2,r2,q2⟩=>
  thn (ho pins s2 σ H2 x y v u _ I2 r1 r2 q2) λ d s3 ⟨z,H3,I3,r3,k,e,q3⟩=>?_)) hm
 subst e
 cases r3
 refine vc1 ?_
 cases k with
 | false=>
  obtain ⟨k',e',q'⟩:=q3
  cases e'
  exact ite_ff ⟨H3,I3,q'⟩
 | true=>
  refine ite_tt (test_last (thn (hc pins s3 σ H3 _ I3 q3) λ w' s4 ⟨z',H4,I4,r4,q4⟩=>thn (ho' pins s4 σ H4 y z' u w' _ I4 r2 r4 q4) λ d' s5 ⟨z2,H5,I5,r5,k2,e2,q5⟩=>?_))
  subst e2
  cases r5
  exact vc1 ⟨H5,I5,q5⟩
theorem zjp:(va2:Nat) < 2 ^ 63:=by rw [sizeLine_eq];decide
theorem qai:OpR X (vd5 .Add) (λ x y H Q=>∃ i j,x=.str i/\y=.str j/\i.length + j.length<=va2/\Q (.str (i++j)) H):=by
 intro pins s σ H x y v u Q I rx ry h
 obtain ⟨i,j,rfl,rfl,hz,q⟩:=h
 obtain ⟨t,rfl⟩:=rx
 obtain ⟨t',rfl⟩:=ry
 exact add_str (λ t' tk=>⟨.str (i++j),H,I.tok _,⟨_,rfl⟩,q⟩) hz
theorem zvf {x:V}{us:List va0} (r:Vals [x] us):∃ u,us=[u]/\RelV x u:=by
 cases r with
 | cons r1 r2=>cases r2;exact ⟨_,rfl,r1⟩
theorem qau {x y:V}{us:List va0} (r:Vals [x,y] us):∃ u w',us=[u,w']/\RelV x u/\RelV y w':=by
 cases r with
 | cons r1 r2=>
  cases r2 with
  | cons r3 r4=>cases r4;exact ⟨_,_,rfl,r1,r3⟩
theorem qc9 (hc:X.calm=true):zwn X (.builtin "max") (λ xs H Q=>∃ i j,xs=[.int i,.int j]/\Q (.int (if j > i then j else i)) H):=by
 intro pins s σ H xs us Q I r h
 obtain ⟨i,j,rfl,q⟩:=h
 obtain ⟨u,w',rfl,⟨t,rfl⟩,⟨t',rfl⟩⟩:=qau r
 refine max_two_ints (I.ok.hd hc) λ h' tk k=>⟨_,H,I.kept k,?_,q⟩
 by_cases hj:j > i
 ·rw [if_pos hj,if_pos hj];exact ⟨_,rfl⟩
 ·rw [if_neg hj,if_neg hj];exact ⟨_,rfl⟩
theorem qc7 (hc:X.calm=true):zwn X (.builtin "min") (λ xs H Q=>∃ i j,xs=[.int i,.int j]/\Q (.int (if j < i then j else i)) H):=by
 intro pins s σ H xs us Q I r h
 obtain ⟨i,j,rfl,q⟩:=h
 obtain ⟨u,w',rfl,⟨t,rfl⟩,⟨t',rfl⟩⟩:=qau r
 refine min_two_ints (I.ok.hd hc) λ h' tk k=>⟨_,H,I.kept k,?_,q⟩
 by_cases hj:j < i
 ·rw [if_pos hj,if_pos hj];exact ⟨_,rfl⟩
 ·rw [if_neg hj,if_neg hj];exact ⟨_,rfl⟩
theorem qdc:zwn X (.type "int") (λ xs H Q=>(∃ i,xs=[.int i]/\Q (.int i) H)\/∃ k,xs=[.bl k]/\Q (.int (if k then 1 else 0)) H):=by
 intro pins s σ H xs us Q I r h
 rcases h with ⟨i,rfl,q⟩ | ⟨k,rfl,q⟩
 ·obtain ⟨u,rfl,t,rfl⟩:=zvf r
  exact call_int_int ⟨.int i,H,I,⟨_,rfl⟩,q⟩
 ·obtain ⟨u,rfl,r1⟩:=zvf r
  cases r1
  exact call_int_bool ⟨.int (if k then 1 else 0),H,I.tok _,⟨_,rfl⟩,q⟩
end
structure ObjM (h:Heap) (x dx C:Addr) (mA:Str->Option va0):Prop where
 obj:h.get? x=some (vk8 C dx)
 ns:h.Ns1 dx mA
 ne:dx≠x
theorem qb7 {h:Heap}{dx:Addr}{mA:Str->Option va0} (n:h.Ns1 dx mA):∃ od,h.get? dx=some od/\∀ name,vl4 name od=some (mA name):=by
 obtain ⟨o,es,ep,ho,hd,hk,_,hm⟩:=n
 refine ⟨o,ho,λ name=>?_⟩
 have e:=hm name
 unfold nsFind findBy at e
 rw [<- Array.find?_toList] at e
 unfold vl4
 rw [hd]
 dsimp only
 split
 ·rename_i y q
  rw [q] at e
  exact congrArg some e
 ·rename_i q
  rw [q] at e
  have a:es.toList.any (·.refKey)=false:=by
   rw [List.any_eq_false]
   intro y hy
   obtain ⟨z,t,hkey⟩:=hk y (Array.mem_toList_iff.mp hy)
   simp [DictEntry.refKey,hkey]
  have a':¬ es.toList.any (·.refKey)=true:=by rw [a];exact jc7
  rw [if_neg a']
  exact congrArg some e
theorem ObjM.look {h:Heap}{x dx C:Addr}{mA:Str->Option va0} (I:ObjM h x dx C mA):∃ od,PySem.W.InstAt h x (vk8 C dx) C (some od)/\∀ name,vl4 name od=some (mA name):=
 let ⟨od,ho,hl⟩:=qb7 I.ns
 ⟨od,⟨I.obj,rfl,rfl,ho⟩,hl⟩
section
variable {prog:va8}{w:vb6}{A:vb8}{E:va0->va1->Prop}{s:va1}{K:va4}{x dx C f:Addr}{mA:Str->Option va0}{name:Str}{v:va0}
end
section
variable {P:va8}{w:vb6}{H H':Hp}{h h':Heap}{a C dx:Addr}{fs fs':List (Str×V)}
theorem qhz (hok:HOk P w H h) (e:H a=some (.ins C dx fs)):∃ mA,ObjM h a dx C mA/\(∀ f,RelO (fs.lookup f) (mA f))/\PySem.Within mA (fs.map (·.1))/\fs.length<=1000/\H dx=some (.own a):=by
 obtain ⟨d,z,ne,ob,mA,n,r,q⟩:=(show zxw P w H h a (.ins C dx fs) from hok a _ e)
 exact ⟨mA,⟨ob,n,ne⟩,r,q,z,d⟩
end
structure Cls (K:va4) (C:Addr):Prop where
 pg:PySem.W.plainGet K C Str.empty=true
 hd:PySem.W.hasDictIn K C=true
 po:PySem.W.plainOver K C=true
 sa:vb3 K (.ref C) "__setattr__" = some (some (.builtin "object.__setattr__"))
theorem Cls.get {K:va4}{C:Addr} (c:Cls K C) (f:Str):PySem.W.plainGet K C f=true:=c.pg
structure Con (K:va4) (C:Addr) (f:Str) (v:V) (u:va0):Prop where
 at_:vb3 K (.ref C) f=some (some u)
 rel:RelV v u
 get:PySem.W.specialIn K u "__get__" = some none
 cp:PySem.W.copiedNames.contains f=false
structure Meth (K:va4) (C:Addr) (m:Str) (f:Addr):Prop where
 at_:vb3 K (.ref C) m=some (some (.ref f))
 fn:PySem.W.isFn K (.ref f)=true
 kp:vd7 K (.ref f)=true
section
variable {X:Cx}{pins:List (Addr×Obj)}{σ:St}{H:Hp}{s:va1}{a C dx:Addr}{fs:List (Str×V)}{f:Str}{v:V}{A:vb8}{E:va0->va1->Prop}
end
section
variable {X:Cx}{o e value:Expr}{f:Str}{pos pos' tpos:Pos}{ta tv:TE}
end
section
variable {X:Cx}{pins:List (Addr×Obj)}{σ:St}{H:Hp}{s:va1}{A:vb8}{E:va0->va1->Prop}{Q:va0->va1->Prop}{c:va0}{b:Bool}
inductive TyOf (K:va4) (H:Hp):V->va0->Prop where
 | non:TyOf K H .non (.type "NoneType")
 | bl (x:Bool):TyOf K H (.bl x) (.type "bool")
 | int (i:Int):TyOf K H (.int i) (.type "int")
 | str (x:Str):TyOf K H (.str x) (.type "str")
 | flt (x:UInt64):TyOf K H (.flt x) (.type "float")
 | lst {a:Addr}{xs:List V} (e:H a=some (.lst xs)):TyOf K H (.ref a) (.type "list")
 | frz {a:Addr}{o:Obj}{xs:List V} (e:H a=some (.frz o (.lst xs))):TyOf K H (.ref a) (.type "list")
 | tup {a:Addr}{xs:List V} (e:H a=some (.tup xs)):TyOf K H (.ref a) (.type "tuple")
 | dK {a:Addr}{kvs:List (Key×V)} (e:H a=some (.dK kvs)):TyOf K H (.ref a) (.type "dict")
 | dT {a:Addr}{kvs:List (List Key×V)} (e:H a=some (.dT kvs)):TyOf K H (.ref a) (.type "dict")
 | ins {a C dx:Addr}{fs:List (Str×V)} (e:H a=some (.ins C dx fs)) (cl:Cls K C) (ha:vb3 K (.ref C) "__class__" = some (some (.builtin "object.__class__")))
   (hn:PySem.W.specialIn K (.builtin "object.__class__") "__get__" = some (some (.builtin "getset_descriptor.__get__"))) (htk:PySem.W.takesIn K (.builtin "object.__class__")=some true)
   (hm:vc5 K C (.type "object")=some true):TyOf K H (.ref a) (.ref C)
theorem qch {x:V}{u t:va0} (I:Inv X pins σ H s) (rx:RelV x u) (ty:TyOf X.K H x t) (e:vb7 X.K t c=some b) (h:∀ tk,Q (.bool b) { s with toks:=tk }):
  vb2 (vb1 X.prog X.w) A (call (.builtin "isinstance") [u,c]) Q E s:=by
 cases ty with
 | non=>cases (show u=Value.none from rx);exact vb5 vi9 I.kIn True.intro e (λ z=>nomatch z) h
 | bl y=>cases (show u=Value.bool y from rx);exact vb5 PySem.W.kitx_bool I.kIn True.intro e (λ z=>nomatch z) h
 | int i=>obtain ⟨t,q⟩:=(show ∃ t,u=Value.int i t from rx);cases q;exact vb5 PySem.W.kitx_int I.kIn True.intro e (λ z=>nomatch z) h
 | str y=>obtain ⟨t,q⟩:=(show ∃ t,u=Value.str y t from rx);cases q;exact vb5 PySem.W.kitx_str I.kIn True.intro e (λ z=>nomatch z) h
 | flt y=>obtain ⟨t,q⟩:=(show ∃ t,u=Value.float y t from rx);cases q;exact vb5 PySem.W.kitx_float I.kIn True.intro e (λ z=>nomatch z) h
 | @lst a xs ea=>
  cases (show u=Value.ref a from rx)
  obtain ⟨_,_,n,_,h1⟩:=(show zxw X.prog X.w H s.heap a (.lst xs) from I.hok a _ ea)
  exact vb5 PySem.W.kitx_list I.kIn ⟨_,h1,rfl⟩ e (λ z=>nomatch z) h
 | @frz a ob xs ea=>
  cases (show u=Value.ref a from rx)
  obtain ⟨_,_,_,n,_,h1⟩:=(show zxw X.prog X.w H s.heap a (.frz ob (.lst xs)) from I.hok a _ ea)
  exact vb5 PySem.W.kitx_list I.kIn ⟨_,h1,rfl⟩ e (λ z=>nomatch z) h
 | @tup a xs ea=>
  cases (show u=Value.ref a from rx)
  obtain ⟨_,_,_,p⟩:=(show zxw X.prog X.w H s.heap a (.tup xs) from I.hok a _ ea)
  obtain ⟨o,h1,h2,_⟩:=p
  exact vb5 PySem.W.kitx_tuple I.kIn ⟨o,h1,h2⟩ e (λ z=>nomatch z) h
 | @dK a kvs ea=>
  cases (show u=Value.ref a from rx)
  obtain ⟨_,_,vs,_,p⟩:=(show zxw X.prog X.w H s.heap a (.dK kvs) from I.hok a _ ea)
  obtain ⟨o,es,ep,h1,h2,_⟩:=p
  exact vb5 PySem.W.kitx_dict I.kIn ⟨o,h1,h2.1⟩ e (λ z=>nomatch z) h
 | @dT a kvs ea=>
  cases (show u=Value.ref a from rx)
  obtain ⟨_,_,xs,_,o,es,ep,h1,h2,_⟩:=(show zxw X.prog X.w H s.heap a (.dT kvs) from I.hok a _ ea)
  exact vb5 PySem.W.kitx_dict I.kIn ⟨o,h1,h2.1⟩ e (λ z=>nomatch z) h
 | @ins a C dx fs ea cl ha hn htk hm=>
  cases (show u=Value.ref a from rx)
  obtain ⟨mA,O,_⟩:=qhz I.hok ea
  obtain ⟨od,J,_⟩:=O.look
  exact vb5 (PySem.W.kitx_own (cl.get _) cl.hd ha hn htk hm) I.kIn J e (λ z=>nomatch z) h
end
structure Room (k:Nat) (A:vb8):Prop where
 hd:A.handled=none
 dp:A.depth + 3 * k + 5 < recursionLimit
 un:A.units + 16 * k + 200 < ve8
 gd:A.guards=some []
theorem Room.mono {j k:Nat}{A:vb8} (r:Room k A) (h:j<=k):Room j A:=⟨r.hd,by have:=r.dp;omega,by have:=r.un;omega,r.gd⟩
theorem Room.deeper {k:Nat}{A:vb8} (r:Room (k + 1) A) (env:Env):Room k (A.deeper env):=
 ⟨r.hd,by have:=r.dp;show A.depth + 1 + 3 * k + 5 < _;omega,by have:=r.un;show A.units + 3 + 16 * k + 200 < _;omega,r.gd⟩
theorem Room.depth {k:Nat}{A:vb8} (r:Room k A):A.depth < recursionLimit:=by have:=r.dp;omega
theorem Room.units {k:Nat}{A:vb8} (r:Room k A):A.units + 64 < ve8:=by have:=r.un;omega
def tNil:TA:=λ _ H Q=>Q [] H
def qa5 (ta:TE) (tr:TA):TA:=λ σ H Q=>ta σ H λ x H1=>tr σ H1 λ xs H2=>Q (x::xs) H2
section
variable {X:Cx}{e:Expr}{es:List Expr}{te:TE}{t:TA}{pos:Pos}
theorem zzu:PA X [] tNil:=λ _ _ _ _ H Q I h=>Calls.spliced_nil ⟨[],H,I,.nil,h⟩
theorem zxr (ha:PE X e te) (hr:PA X es t) (hs:va3 (e::es) X.env=(false,eval e X.env)::va3 es X.env:=by rfl):PA X (e::es) (qa5 te t):=by
 intro pos pins s σ H Q I h
 rw [hs]
 show vb2 _ _ (spliced ((false,eval e X.env)::vd6 pos (va3 es X.env))) _ _ s
 refine Calls.spliced_cons (thn (ha pins s σ H _ I h) λ u s1 ⟨x,H1,I1,r1,q1⟩=>?_)
 exact thn (hr pos pins s1 σ H1 _ I1 q1) λ us s2 ⟨xs,H2,I2,r2,q2⟩=>⟨x::xs,H2,I2,.cons r1 r2,q2⟩
def tTup (t:TA):TE:=λ σ H Q=>t σ H λ xs H1=>xs.length<=va2/\∀ p,H1 p=none->Q (.ref p) (upd H1 p (.tup xs))
def tLst (t:TA):TE:=λ σ H Q=>t σ H λ xs H1=>xs.length<=va2/\∀ p,H1 p=none->Q (.ref p) (upd H1 p (.lst xs))
theorem qfp {x1} (h:PA X es t):PE X (.Tuple es x1 pos) (tTup t):=by
 intro pins s σ H Q I hq
 refine wpAny_Tuple_spliced (thn (h pos pins s σ H _ I hq) λ us s1 ⟨xs,H1,I1,r,z,q⟩=>⟨by rw [<- r.length];exact z,?_⟩)
 have hf:H1 s1.heap.objs.size=none:=I1.hok.fresh (jb7 _)
 refine ⟨.ref s1.heap.objs.size,upd H1 s1.heap.objs.size (.tup xs),I1.laid (t':=s1.toks) (λ b u e=>va5 _ e) (jb7 _) ?_,rfl,q _ hf⟩
 exact ⟨z,us,r,⟨_,vb0 _ rfl,rfl,_,rfl⟩⟩
theorem qfs (h:PA X es t):PE X (.List es pos) (tLst t):=by
 intro pins s σ H Q I hq
 refine wpAny_List_spliced (thn (h pos pins s σ H _ I hq) λ us s1 ⟨xs,H1,I1,r,z,q⟩=>⟨by rw [<- r.length];exact z,?_⟩)
 have hf:H1 s1.heap.objs.size=none:=I1.hok.fresh (jb7 _)
 refine ⟨.ref s1.heap.objs.size,upd H1 s1.heap.objs.size (.lst xs),I1.laid (t':=s1.toks) (λ b u e=>va5 _ e) (jb7 _) ?_,rfl,q _ hf⟩
 exact ⟨z,us,0,r,vb0 _ rfl⟩
end
abbrev Sp:=List V->Hp->VK->XK->Prop
abbrev CXT:=List Env->Hp->va1->XK->va0->va1->Prop
structure Env0 (P:va8) (w:vb6) (K:va4) (mg:Str->Option va0) (base:Heap) (A:vb8) (outer:List Env) (s:va1) (H:Hp):Prop where
 frames:A.frames=some outer
 mod:Mod K mg base
 bs:∀ b o,base.get? b=some o->s.heap.get? b=some o/\H b=none
 bsz:base.objs.size<=s.heap.objs.size
 funs:s.heap.FunFrames base outer
 frf:∀ b∈frs outer,H b=none
 hok:HOk P w H s.heap
 bare:vg4 s.gens
def CE (outer:List Env) (P:va8) (w:vb6) (H:Hp) (s:va1) (Q:VK) (u:va0) (s':va1):Prop:=
 ∃ v H',s'.os=s.os/\vg4 s'.gens/\Un (frs outer) [] H H' s.heap s'.heap/\HOk P w H' s'.heap/\RelV v u/\Q v H'
def CR (CX:CXT) (outer:List Env) (P:va8) (w:vb6) (H:Hp) (s:va1) (Q:VK) (E:XK) (r:Result) (s':va1):Prop:=
 match r with
 | .ok (.ret u)=>CE outer P w H s Q u s'
 | .ok _=>False
 | .error e=>CX outer H s E e s'
structure FnOk (P:va8) (w:vb6) (K:va4) (mg:Str->Option va0) (base:Heap) (CX:CXT) (k:Nat) (f:Addr) (fd:vc3) (ps:List Str) (sp:Sp):Prop where
 len:∀ vs H Q E,sp vs H Q E->vs.length=ps.length
 run:∀ (A:vb8) (outer:List Env) (s:va1) (H:Hp) (args:Args) (us:List va0) (vs:List V) (Q:VK) (E:XK),Room k A->Env0 P w K mg base A outer s H->BindsTo s fd args (ps.zip us)->Vals vs us->sp vs H Q E ->
  vi7 (vb1 P w) A (.call (.ref f) args) (CR CX outer P w H s Q E) s
theorem FnOk.mono {P:va8}{w:vb6}{K:va4}{mg:Str->Option va0}{base:Heap}{CX:CXT}{j k:Nat}{f:Addr}{fd:vc3}{ps:List Str}{sp:Sp} (F:FnOk P w K mg base CX j f fd ps sp) (h:j<=k):
  FnOk P w K mg base CX k f fd ps sp:=⟨F.len,λ A outer s H args us vs Q E hr=>F.run A outer s H args us vs Q E (hr.mono h)⟩
section
variable {X:Cx}{pins:List (Addr×Obj)}{σ:St}{H:Hp}{s s':va1}
theorem Inv.env0 (I:Inv X pins σ H s):Env0 X.prog X.w X.K X.mg X.base X.A X.stack s H:=
 ⟨I.ok.frames,I.ok.mod,I.bs,jc4 I.ok.bsz I.sz,I.stack,I.stkFree,I.hok,I.bare⟩
theorem Inv.after {Q:VK}{u:va0} (I:Inv X pins σ H s) (h:CE X.stack X.prog X.w H s Q u s'):EP X pins σ Q u s':=by
 obtain ⟨v,H',os,bare,un,hok,r,q⟩:=h
 obtain ⟨hh,g,d,t,os'⟩:=s'
 obtain rfl:os'=s.os:=os
 exact ⟨v,H',I.call (h':=hh) (g':=g) (d':=d) (t':=t) (ch:=[]) un hok bare (λ b z=>absurd z (by simp)),r,q⟩
end
def zfe (K:va4) (fd:vc3) (ps:List Str) (ds:List va0):Prop:=
 ∀ (s:va1) (us:List va0),K.In s.heap->(us++ds).length=ps.length->BindsTo s fd ⟨us,[]⟩ (ps.zip (us++ds))
theorem zfe.all {K:va4}{fd:vc3}{ps:List Str} (h:∀ us:List va0,us.length=ps.length->bindArgs fd ⟨us,[]⟩=pure (ps.zip us)):zfe K fd ps []:=λ s us _ hl=>by
 rw [jf5] at hl ⊢
 exact .of_eq (h us hl)
section
variable {X:Cx}{CX:CXT}{k:Nat}{f C:Addr}{fd:vc3}{ps:List Str}{sp:Sp}{dvs:List V}{ds:List va0}{E:XK}{x m:Str}{p pos apos:Pos}{e o:Expr}{es:List Expr}{ta:TE}{t:TA}
structure Mk (K:va4) (C f:Addr):Prop where
 makes:PySem.W.makesIn K C=true
 init:vb3 K (.ref C) "__init__" = some (some (.ref f))
 fn:PySem.W.isFn K (.ref f)=true
 kp:vd7 K (.ref C)=true
end
section
variable {X:Cx}{CX:CXT}{k:Nat}{f C:Addr}{fd:vc3}{ps ks:List Str}{sp:Sp}{E:XK}{x m:Str}{p pos apos kpos:Pos}{e o:Expr}{es:List Expr}{kws:List vh6}{te ta:TE}{t tk:TA}{nm:Option Str}
structure KBinds (K:va4) (fd:vc3) (ps ks:List Str) (g:List va0->List va0->List va0) (gV:List V->List V->List V):Prop where
 to:∀ (s:va1) (us ws:List va0),K.In s.heap->(g us ws).length=ps.length->BindsTo s fd ⟨us,ks.zip ws⟩ (ps.zip (g us ws))
 rel:∀ {vs:List V}{us:List va0}{zs:List V}{ws:List va0},Vals vs us->Vals zs ws->Vals (gV vs zs) (g us ws)
variable {g:List va0->List va0->List va0}{gV:List V->List V->List V}
end
structure FnScope (N P:List Str) (sc:vd0):Prop where
 kind:sc.kind=.function:=by rfl
 co:sc.isCoroutine=false:=by rfl
 gen:sc.isGenerator=false:=by rfl
 nd:N.Nodup:=by decide +kernel
 pre:N.take P.length=P:=by rfl
 par:∀ x∈P,sc.names.lookup x=some .local\/sc.names.lookup x=some .cell:=by decide +kernel
 nofree:∀ y∈sc.names,y.2≠.free:=by decide +kernel
theorem zmz {kindOf:Str->Option vc6}{x:Str}:∀ {binds:List (Str×va0)}{m:Str->Option va0},(∀ v,(x,v)∉binds)->bindL kindOf binds m x=m x
 | [],_,_=>rfl
 | (n,v)::r,m,h=>by
  unfold bindL
  rw [zmz λ w hw=>h w (ja0 _ hw)]
  split
  ·have:x≠n:=by rintro rfl;exact h v ja1
   simp [this]
  ·rfl
theorem zfb {kindOf:Str->Option vc6}{x:Str}:∀ {binds:List (Str×va0)}{m:Str->Option va0},(∀ v,(x,v)∉binds)->bindC kindOf binds m x=m x
 | [],_,_=>rfl
 | (n,v)::r,m,h=>by
  unfold bindC
  rw [zfb λ w hw=>h w (ja0 _ hw)]
  split
  ·rfl
  ·have:x≠n:=by rintro rfl;exact h v ja1
   simp [this]
theorem zfa {kindOf:Str->Option vc6}{x:Str}{v:va0}:∀ {P:List Str}{vs:List va0}{i:Nat}{m:Str->Option va0},P.Nodup->P[i]?=some x->vs[i]?=some v->kindOf x=some .local ->
  bindL kindOf (P.zip vs) m x=some v
 | [],_,_,_,_,h,_,_=>by simp at h
 | _::_,[],_,_,_,_,h,_=>by simp at h
 | p::P,w::vs,0,m,nd,h1,h2,hk=>by
  simp at h1 h2;subst h1;subst h2
  show bindL kindOf ((p,w)::P.zip vs) m p=_
  unfold bindL
  rw [zmz λ v hv=>(ji3.mp nd).1 (jk3 hv).1,if_pos hk]
  simp
 | p::P,w::vs,i + 1,m,nd,h1,h2,hk=>by
  show bindL kindOf ((p,w)::P.zip vs) m x=_
  unfold bindL
  exact zfa (i:=i) (ji3.mp nd).2 (by simpa using h1) (by simpa using h2) hk
theorem zfc {kindOf:Str->Option vc6}{x:Str}{v:va0}:∀ {P:List Str}{vs:List va0}{i:Nat}{m:Str->Option va0},P.Nodup->P[i]?=some x->vs[i]?=some v->kindOf x≠some .local ->
  bindC kindOf (P.zip vs) m x=some v
 | [],_,_,_,_,h,_,_=>by simp at h
 | _::_,[],_,_,_,_,h,_=>by simp at h
 | p::P,w::vs,0,m,nd,h1,h2,hk=>by
  simp at h1 h2;subst h1;subst h2
  show bindC kindOf ((p,w)::P.zip vs) m p=_
  unfold bindC
  rw [zfb λ v hv=>(ji3.mp nd).1 (jk3 hv).1,if_neg hk]
  simp
 | p::P,w::vs,i + 1,m,nd,h1,h2,hk=>by
  show bindC kindOf ((p,w)::P.zip vs) m x=_
  unfold bindC
  exact zfc (i:=i) (ji3.mp nd).2 (by simpa using h1) (by simpa using h2) hk
def start (N:List Str) (vs:List V):St:=vs.map some++ja9 (N.length - vs.length) none
def cxOf (CX:CXT) (P:va8) (w:vb6) (K:va4) (mg:Str->Option va0) (base:Heap) (N:List Str) (qual:Str) (scope:vd0) (f:Addr) (cd:va0) (A:vb8) (outer:List Env) (s:va1) (H:Hp) (E:XK):Cx where
 prog:=P
 w:=w
 K:=K
 mg:=mg
 base:=base
 A:=A.deeper (vk5 qual scope s.heap.objs.size f cd)
 N:=N
 s₀:=s
 H₀:=H
 env:=vk5 qual scope s.heap.objs.size f cd
 outer:=outer
 stack:=vk5 qual scope s.heap.objs.size f cd::outer
 ex:=[]
 calm:=true
 fn:=λ _=>true
 pn:=[]
 xe:=λ e s'=>vb2 (vb1 P w) (A.deeper (vk5 qual scope s.heap.objs.size f cd)) (leaving (vk5 qual scope s.heap.objs.size f cd) e) (λ _ s''=>CX outer H s E e s'') (λ e' s''=>CX outer H s E e' s'') s'
theorem zhq {sc:vd0}{n:Nat}{x:Str} (h:sc.names.lookup x=some .cell):∃ c,(vc0 n sc.names []).lookup x=some c:=by
 have q:=PySem.W.cellsFrom_some sc.names n [] (.inl h)
 exact jj4.mp q
theorem qcj {CX:CXT}{P:va8}{w:vb6}{K:va4}{mg:Str->Option va0}{base:Heap}{N ps:List Str}{qual:Str}{scope:vd0}{f:Addr}{cd:va0}{A:vb8}{outer:List Env}{s s1:va1}{H:Hp}{E:XK}{us:List va0}{vs:List V}
  (S:FnScope N ps scope) (hd:A.handled=none) (e0:Env0 P w K mg base A outer s H) (hl:vs.length=ps.length) (r:Vals vs us)
  (x:InCallC s s.heap.objs.size (bindL (vk5 qual scope s.heap.objs.size f cd).kindOf (ps.zip us) λ _=>none) (vc0 (s.heap.objs.size + 1) scope.names []) (bindC (vk5 qual scope s.heap.objs.size f cd).kindOf (ps.zip us) λ _=>none) s1):
  Inv (cxOf CX P w K mg base N qual scope f cd A outer s H E) [] (start N vs) H s1:=by
 have hpl:ps.length<=N.length:=by have:=congrArg List.length S.pre;rw [jd1] at this;omega
 obtain ⟨h1,tk,rfl,hk⟩:=x.done
 have noA:∀ b:Addr,b∉(cxOf CX P w K mg base N qual scope f cd A outer s H E).ex:=λ b z=>absurd (show b∈([]:List Addr) from z) (by simp)
 refine ⟨⟨e0.mod,S.kind,rfl,rfl,jb7 _,λ y z c h1 h2=>?_,λ y hy=>?_,λ y c _ h=>?_,λ _=>hd,Around.frames_deeper e0.frames,.inr ⟨rfl,rfl⟩,λ b z=>absurd z (noA b),e0.bs,e0.bsz,λ b _ _=>noA b,λ b z=>absurd z (noA b),e0.funs,e0.frf⟩,
  rfl,e0.bare,Un.kept hk,⟨_,x.toInCall.ns,λ i y v h1 h2 h3=>?_⟩,λ y c h=>⟨_,x.cell y c h⟩,e0.hok.fresh (jb7 _),λ y c h=>?_,λ p hp=>absurd (show p∈([]:List (Addr×Obj)) from hp) (by simp),e0.hok.kept hk,?_⟩
 ·exact name_of_addr x.apart (vd9 h1) (vd9 h2)
 ·have hy:scope.names.lookup y=some .cell\/scope.names.lookup y=some .free:=hy
  rcases hy with hy | hy
  ·exact zhq hy
  ·exact absurd rfl (S.nofree _ (vd9 hy))
 ·exact jm6 (x.above y c (vd9 h))
 ·have hi:i < vs.length:=by
   unfold start at h2
   by_cases hi:i < vs.length
   ·exact hi
   ·rw [jc5 (by simpa using hi)] at h2
    rw [jd5] at h2
    split at h2 <;> cases h2
  have ha:vs[i]?=some v:=by
   unfold start at h2
   rw [jb5 (by simpa using hi),jc2] at h2
   cases e:vs[i]? with
   | none=>rw [e] at h2;cases h2
   | some a=>rw [e] at h2;cases h2;rfl
  obtain ⟨u,hu,rv⟩:=r.get ha
  have hp:ps[i]?=some y:=by
   rw [<- S.pre,je6 (by omega)];exact h1
  have ndP:ps.Nodup:=by rw [<- S.pre];exact S.nd.sublist (List.take_sublist _ _)
  refine ⟨u,rv,?_⟩
  rcases S.par y (ji1 hp) with k | k
  ·exact .inl ⟨k,zfa ndP hp hu k⟩
  ·obtain ⟨c,e⟩:=zhq (n:=s.heap.objs.size + 1) k
   refine .inr ⟨.inl k,c,e,?_⟩
   have q:=x.cell y c e
   rw [zfc ndP hp hu (by show scope.names.lookup y≠_;rw [k];decide)] at q
   exact q
 ·exact e0.hok.fresh (jm6 (x.above y c (vd9 h)))
 ·unfold start
  show _=N.length
  rw [jb3,ja6,je5]
  omega
theorem qmq {CX:CXT}{P:va8}{w:vb6}{K:va4}{mg:Str->Option va0}{base:Heap}{k:Nat}{f:Addr}{name qual:Str}{params:Arguments}{body:List Stmt}{scope:vd0}{dV kV doc pm cdv ct oc:va0}{an od:Option Addr}
  {osl:Array (Option va0)}{N ps:List Str}{sp:Sp} (lk:K.lookup f=some ⟨oc,od,.func (vf6 name qual params body scope dV kV doc pm an cdv ct),osl⟩) (hcd:vl5 K cdv qual=true) (S:FnScope N ps scope)
  (len:∀ vs H Q E,sp vs H Q E->vs.length=ps.length)
  (hbody:∀ (A:vb8) (outer:List Env) (s:va1) (H:Hp) (vs:List V) (Q:VK) (E:XK),Room k (A.deeper (vk5 qual scope s.heap.objs.size f cdv))->sp vs H Q E ->
   ∃ t,PSs (cxOf CX P w K mg base N qual scope f cdv A outer s H E) body t/\t { nx:=λ _ H'=>Q .non H',rt:=Q } (start N vs) H):
  FnOk P w K mg base CX (k + 1) f (vf6 name qual params body scope dV kV doc pm an cdv ct) ps sp:=by
 refine ⟨len,λ A outer s H args us vs Q E hr e0 hb r hsp=>?_⟩
 have hl:=len _ _ _ _ hsp
 have KX:K.In s.heap:=e0.mod.kin.keeps λ b o e=>(e0.bs b o e).1
 have lim:s.heap.NoLimit:=e0.mod.nolimit.keeps λ b o e=>(e0.bs b o e).1
 have hkind:∀ y∈ps.zip us,scope.names.lookup y.1=some .local\/(scope.names.lookup y.1=some .cell/\((vc0 (s.heap.objs.size + 1) scope.names []).lookup y.1).isSome=true):=λ ⟨n,v⟩ hy=>by
  rcases S.par n (jk3 hy).1 with q | q
  ·exact .inl q
  ·exact .inr ⟨q,PySem.W.cellsFrom_some _ _ _ (.inl q)⟩
 refine codeAny_call_function hr.depth (KX _ _ lk) rfl S.co S.gen rfl (PySem.W.codeRec_of KX hcd) (hb _ _ _ _ ?_)
 refine wpAny_newFunctionEnv_cells S.kind hkind λ env he s1 x=>?_
 subst he
 refine ⟨lim.keeps x.toInCall.keep,codeAny_func ?_⟩
 obtain ⟨t,ht,hq⟩:=hbody A outer s H vs Q E (hr.deeper _) hsp
 have I:Inv (cxOf CX P w K mg base N qual scope f cdv A outer s H E) [] (start N vs) H s1:=qcj S hr.hd e0 hl r x
 refine ve0 (ht [] s1 (start N vs) H _ I hq) (λ fl s' hs=>?_) λ e s' hs=>hs
 have fin:∀ {σ':St}{H':Hp}{v:V}{u:va0},Inv (cxOf CX P w K mg base N qual scope f cdv A outer s H E) [] σ' H' s'->RelV v u->Q v H'->CE outer P w H s Q u s':=
  λ {σ' H' v u} J rv q=>⟨v,H',J.os,J.bare,J.base,J.hok,rv,q⟩
 cases fl with
 | ret u=>
  obtain ⟨v,σ',H',J,rv,q⟩:=hs
  exact fin J rv q
 | next=>
  obtain ⟨σ',H',J,q⟩:=hs
  exact fin (v:=V.non) (u:=Value.none) J rfl q
 | brk=>
  obtain ⟨_,_,_,q⟩:=hs
  exact ve2 q
 | cont=>
  obtain ⟨_,_,_,q⟩:=hs
  exact ve2 q
section
variable {X:Cx}{x:Str}{p pos:Pos}{e:Expr}{es:List Expr}{t:TA}{id T:String}{r:List V->Hp->VK->Prop}
def tCB (r:List V->Hp->VK->Prop) (t:TA):TE:=λ σ H Q=>t σ H λ vs H1=>r vs H1 Q
theorem zwq (hc:zwn X (.builtin id) r) (hg:Gl X x) (hm:X.mg x=none) (hv:ve7 x=some (.builtin id)) (ha:PA X (e::es) t) (hn:x ≠ "__name__" := by decide) (hdb:(x == ("__debug__" : Str))=false:=by decide)
  (he:va3 (e::es) X.env=(false,eval e X.env)::va3 es X.env:=by rfl) (hpl:(vd6 pos (va3 es X.env)).any (·.1)=false:=by rfl):PE X (.Call (.Name x p) (e::es) [] pos) (tCB r t):=by
 intro pins s σ H Q I h
 refine vh9 (zmh I hg hm hv ?_ hn hdb)
 exact PyProof.Rows.callWith_builtin1 (thn (ha pos pins s σ H _ I h) λ us s1 ⟨vs,H1,I1,r1,q1⟩=>hc pins s1 σ H1 vs us Q I1 r1 q1) he hpl
theorem zvk (hc:zwn X (.type T) r) (hg:Gl X x) (hm:X.mg x=none) (hv:ve7 x=some (.type T)) (ha:PA X (e::es) t) (hn:x ≠ "__name__" := by decide) (hdb:(x == ("__debug__" : Str))=false:=by decide)
  (he:va3 (e::es) X.env=(false,eval e X.env)::va3 es X.env:=by rfl) (hpl:(vd6 pos (va3 es X.env)).any (·.1)=false:=by rfl):PE X (.Call (.Name x p) (e::es) [] pos) (tCB r t):=by
 intro pins s σ H Q I h
 refine vh9 (zmh I hg hm hv ?_ hn hdb)
 exact vf3 (thn (ha pos pins s σ H _ I h) λ us s1 ⟨vs,H1,I1,r1,q1⟩=>hc pins s1 σ H1 vs us Q I1 r1 q1) he hpl
end
end L2
namespace HT
open PySem PyProof.Rows
section
open PySem.SeqAt
open PySem.AutoSeq1 (wpAny_loadPart')
open PySem.MeetsSeq PySem.MeetsSeq2 PySem.MeetsSeq3
end
section
variable {prog:va8}{w:vb6}{A:vb8}{E:va0->va1->Prop}{s:va1}
theorem cat_tup {t b:Addr}{vs ws:List va0}{Q:va0->va1->Prop} (ht:IsTup s.heap t vs.toArray) (hb:IsTup s.heap b ws.toArray) (hv:vs≠[])
  (h1:ws=[]->Q (.ref t) s) (h2:ws≠[]->Q (.ref s.heap.objs.size) { s with heap:=s.heap.push { cls:=.type "tuple",data:=.seq (vs++ws).toArray } })
  (hsz:vs.length + ws.length<=va2):vb2 (vb1 prog w) A (vd5 .Add (.ref t) (.ref b)) Q E s:=by
 obtain ⟨⟨cls,dd,data,sl⟩,ho,hc,n,hd⟩:=id ht
 obtain ⟨⟨cls2,dd2,data2,sl2⟩,ho2,hc2,n2,hd2⟩:=id hb
 simp only at hc hd hc2 hd2
 subst hc hd hc2 hd2
 have e:vs.toArray++ws.toArray=(vs++ws).toArray:=by simp
 by_cases hw:ws=[]
 ·exact concat_meets ⟨_,ho,rfl⟩ ⟨_,ho2,rfl⟩ vj7 seq_tuple_add vg6 vg3 (vg0 _ _)
   (tuple_addW1 t b vs.toArray ws.toArray n n2 dd dd2 sl sl2 (by simpa using hv) (by simp [hw])) ⟨ho,ho2,h1 hw⟩
 ·refine concat_meets ⟨_,ho,rfl⟩ ⟨_,ho2,rfl⟩ vj7 seq_tuple_add vg6 vg3 (vg0 _ _)
   (tuple_addW2 t b vs.toArray ws.toArray n n2 dd dd2 sl sl2 (by simpa using hv) (by simpa using hw) (by rw [jb4,jb4];exact hsz)) ⟨ho,ho2,?_⟩
  rw [e]
  exact h2 hw
def sIx (n d:Nat):Option Int->Nat
 | none=>d
 | some v=>if v < 0 then (v + (n:Int)).toNat else min v.toNat n
theorem sIx_nat (n d k:Nat):sIx n d (some (k:Int))=min k n:=by
 show (if (k:Int) < 0 then ((k:Int) + (n:Int)).toNat else min (k:Int).toNat n)=min k n
 rw [if_neg (by omega),je2]
theorem qj2 (n d:Nat) (hd:d<=n) (o:Option Int):sIx n d o<=n:=by
 cases o with
 | none=>exact hd
 | some v=>
  show (if v < 0 then (v + (n:Int)).toNat else min v.toNat n)<=n
  by_cases hv:v < 0
  ·rw [if_pos hv];omega
  ·rw [if_neg hv];exact jk1 _ _
theorem qc2 (v:Int) (n d:Nat):(if v < 0 then max (v + (n:Int)) 0 else min v (n:Int))=((sIx n d (some v):Nat):Int):=by
 show (if v < 0 then max (v + (n:Int)) 0 else min v (n:Int))=(((if v < 0 then (v + (n:Int)).toNat else min v.toNat n):Nat):Int)
 by_cases hv:v < 0
 ·simp only [if_pos hv];omega
 ·simp only [if_neg hv];omega
theorem qar (lo hi:Option Int) (n:Nat):vf8 lo hi 1 (n:Int)=(((sIx n 0 lo:Nat):Int),((sIx n n hi:Nat):Int)):=by
 have h1:¬ ((1:Int) < 0):=by omega
 unfold vf8
 simp only [h1,if_false]
 refine Prod.ext ?_ ?_
 ·cases lo with
  | none=>rfl
  | some v=>exact qc2 v n 0
 ·cases hi with
  | none=>rfl
  | some v=>exact qc2 v n n
theorem qag (i j:Nat):vd8 (i:Int) (j:Int) 1=j - i:=by
 unfold vd8
 have h1:(1:Int) > 0:=by omega
 simp only [h1,if_true,Int.ediv_one]
 split <;> omega
theorem zji {v:va0}{o:Option Int}{Q:Option Int->va1->Prop} (p:IsPart v o) (h:Q o s):vb2 (vb1 prog w) A (Builtin.Slice.slicePartIndex v) Q E s:=by
 cases p with
 | none=>exact slicePart_none h
 | int i t=>exact slicePart_int h
theorem zkm {sl:Addr}{vl vu:va0}{lo hi:Option Int}{n:Nat}{Q:Int×Int×Nat->va1->Prop} (hs:s.heap.IsSliceOf sl vl vu .none) (pl:IsPart vl lo) (pu:IsPart vu hi)
  (h:Q (((sIx n 0 lo:Nat):Int),1,sIx n n hi - sIx n 0 lo) s):vb2 (vb1 prog w) A (vl2 (.ref sl) (pure (n:Int))) Q E s:=by
 obtain ⟨os,hos,hcs,hds⟩:=id hs
 unfold vl2 Builtin.Slice.sliceFields
 refine va7 (va7 (wpAny_field hos hds (x:=vl) rfl (va7 (wpAny_field hos hds (x:=vu) rfl (va7 (wpAny_field hos hds (x:=.none) rfl (va9 ?_)))))))
 refine va7 (slicePart_none ?_)
 show vb2 _ _ (if ((1:Int) == 0)=true then _ else _) _ _ s
 rw [if_neg (by decide)]
 refine va7 (zji pl (va7 (zji pu (va7 (va9 ?_)))))
 show vb2 _ _ (match vf8 lo hi 1 (n:Int) with | (lo,hi)=>pure (lo,(1:Int),vd8 lo hi 1)) _ _ s
 rw [qar lo hi n]
 show vb2 _ _ (pure (((sIx n 0 lo:Nat):Int),(1:Int),vd8 ((sIx n 0 lo:Nat):Int) ((sIx n n hi:Nat):Int) 1)) _ _ s
 rw [qag]
 exact va9 h
theorem qd4 (xs:Array va0) (i k:Nat):((jc6 k).filterMap λ (m:Nat)=>xs[((i:Int) + (m:Int) * 1).toNat]?).toArray=((xs.toList.drop i).take k).toArray:=by
 have e:(λ (m:Nat)=>xs[((i:Int) + (m:Int) * 1).toNat]?)=λ m=>xs[i + m]?:=by
  funext m
  have:((i:Int) + (m:Int) * 1).toNat=i + m:=by omega
  rw [this]
 rw [e]
 have:=pick_run xs i k
 rw [List.filterMap_map] at this
 have e2:((λ x=>xs[x]?) ∘ λ x=>i + x)=λ m=>xs[i + m]?:=rfl
 rw [e2] at this
 rw [this]
theorem getItem_tuple_cut {t sl:Addr}{items:Array va0}{vl vu:va0}{lo hi:Option Int}{Q:va0->va1->Prop} (ht:IsTup s.heap t items) (hs:s.heap.IsSliceOf sl vl vu .none) (pl:IsPart vl lo) (pu:IsPart vu hi)
  (hw:¬ (sIx items.size 0 lo=0/\sIx items.size items.size hi=items.size))
  (h:Q (.ref s.heap.objs.size) { s with heap:=s.heap.push { cls:=.type "tuple",data:=.seq ((items.toList.drop (sIx items.size 0 lo)).take (sIx items.size items.size hi - sIx items.size 0 lo)).toArray } })
  (hsz:items.size<=va2):vb2 (vb1 prog w) A (getItem (.ref t) (.ref sl)) Q E s:=by
 have htake:sizeOk (.seq ((items.toList.drop (sIx items.size 0 lo)).take (sIx items.size items.size hi - sIx items.size 0 lo)).toArray):=by
  show ((items.toList.drop (sIx items.size 0 lo)).take (sIx items.size items.size hi - sIx items.size 0 lo)).toArray.size<=va2
  rw [jb4,jd1,jh8,jf7]
  omega
 have hj:sIx items.size items.size hi<=items.size:=qj2 _ _ (jb7 _) hi
 obtain ⟨os,hos,hcs,hds⟩:=id hs
 have hTs:s.TypeIs (.ref sl) "slice" := ⟨os,hos,hcs⟩
 unfold getItem
 try with_reducible refine vh8 ?_
 first | refine va7 (va9 ?_) | skip
 refine va7 (wpAny_sequenceKey ht.typeIs (by decide) ?_)
 refine va7 (wpAny_callSpecial?_slot (name:=Str.ofString "__getitem__") ht.typeIs vj1
  (wpAny_call_entry vj1 ht.typeIs entry_tuple_getitem ?_ (args_tuple_getitem _ _)))
 show vb2 _ _ (Builtin.Tuple.tupleItemsOf (.ref t) >>= _) _ _ s
 refine va7 (tupleItemsOf_ ht ?_)
 refine va7 (wpAny_typeOf hTs ?_)
 rw [if_pos (by decide)]
 refine va7 (zkm hs pl pu ?_)
 have hno:¬ ((((sIx items.size 0 lo:Nat):Int) == 0 && (1:Int) == 1 && (sIx items.size items.size hi - sIx items.size 0 lo) == items.size)=true):=by
  intro q
  rw [ja5,ja5] at q
  have q1:((sIx items.size 0 lo:Nat):Int)=0:=eq_of_beq q.1.1
  have q2:sIx items.size items.size hi - sIx items.size 0 lo=items.size:=eq_of_beq q.2
  exact hw ⟨by omega,by omega⟩
 show vb2 _ _ (if (((sIx items.size 0 lo:Nat):Int) == 0 && (1:Int) == 1 && (sIx items.size items.size hi - sIx items.size 0 lo) == items.size)=true then _ else _) _ _ s
 rw [if_neg hno,qd4]
 first
  | exact va7 (m:=ve3 _) (ve5 (va9 ⟨_,rfl,va9 h⟩) htake)
  | exact va7 (m:=ve3 _) (ve5 (va7 (va9 (va9 ⟨_,rfl,va9 h⟩))) htake)
  | exact va7 (va7 (m:=ve3 _) (ve5 (va9 (va9 ⟨_,rfl,va9 h⟩)) htake))
  | exact va7 (va7 (m:=ve3 _) (ve5 (va9 ⟨_,rfl,va9 h⟩) htake))
end
end HT
namespace L2
open PySem PySem.Spec PyProof.Rows
abbrev TO:=St->Hp->(Option Int->Hp->Prop)->Prop
def PO (X:Cx) (e:Option Expr) (t:TO):Prop:=
 ∀ (pins:List (Addr×Obj)) (s:va1) (σ:St) (H:Hp) (Q:Option Int->Hp->Prop),Inv X pins σ H s->t σ H Q ->
  vb2 (vb1 X.prog X.w) X.A (evalPart e X.env) (λ u s'=>∃ o H',Inv X pins σ H' s'/\IsPart u o/\Q o H') X.xe s
def qa3:TO:=λ _ H Q=>Q none H
def qjg (t:TE):TO:=λ σ H Q=>t σ H λ x H1=>∃ i,x=.int i/\Q (some i) H1
section
variable {X:Cx}{e:Expr}{te:TE}{lo hi:Option Expr}{tl th:TO}{pos p2:Pos}
theorem qbm:PO X none qa3:=by
 intro pins s σ H Q I h
 rw [evalPart_none]
 exact va9 ⟨none,H,I,.none,h⟩
theorem zbk (h:PE X e te):PO X (some e) (qjg te):=by
 intro pins s σ H Q I hw
 rw [evalPart_some]
 refine thn (h pins s σ H _ I hw) λ u s1 ⟨x,H1,I1,r1,q1⟩=>?_
 obtain ⟨i,rfl,q⟩:=q1
 obtain ⟨t,rfl⟩:=r1
 exact ⟨some i,H1,I1,.int i t,q⟩
def SlR (X:Cx) (r:V->Option Int->Option Int->Hp->VK->Prop):Prop:=
 ∀ (pins:List (Addr×Obj)) (s:va1) (σ:St) (H:Hp) (x:V) (v vl vu:va0) (lo hi:Option Int) (sl:Addr) (Q:VK),Inv X pins σ H s->RelV x v->s.heap.IsSliceOf sl vl vu .none->IsPart vl lo->IsPart vu hi->r x lo hi H Q ->
  ∃ T id,typeLookup (.type T) "__getitem__" = pure (some (.builtin id))/\s.TypeIs v T/\vb2 (vb1 X.prog X.w) X.A (getItem v (.ref sl)) (EP X pins σ Q) X.xe s
theorem SlR.or {r r':V->Option Int->Option Int->Hp->VK->Prop} (h:SlR X r) (h':SlR X r'):SlR X (λ x lo hi H Q=>r x lo hi H Q\/r' x lo hi H Q):=by
 intro pins s σ H x v vl vu lo hi sl Q I rx hs pl pu q
 rcases q with q | q
 ·exact h pins s σ H x v vl vu lo hi sl Q I rx hs pl pu q
 ·exact h' pins s σ H x v vl vu lo hi sl Q I rx hs pl pu q
def tSl (r:V->Option Int->Option Int->Hp->VK->Prop) (te:TE) (tl th:TO):TE:=λ σ H Q=>te σ H λ x H1=>tl σ H1 λ l H2=>th σ H2 λ u H3=>r x l u H3 Q
theorem zbm {r:V->Option Int->Option Int->Hp->VK->Prop} (hr:SlR X r) (he:PE X e te) (hl:PO X lo tl) (hu:PO X hi th):PE X (.Subscript e (.Slice lo hi none p2) pos) (tSl r te tl th):=by
 intro pins s σ H Q I h
 refine Subscript_ (thn (he pins s σ H _ I h) λ v s1 ⟨x,H1,I1,r1,q1⟩=>?_)
 refine wpAny_Slice (thn (hl pins s1 σ H1 _ I1 q1) λ vl s2 ⟨l,H2,I2,pl,q2⟩=>thn (hu pins s2 σ H2 _ I2 q2) λ vu s3 ⟨u,H3,I3,pu,q3⟩=>?_)
 rw [evalPart_none]
 refine va9 ?_
 have I4:Inv X pins σ H3 { s3 with heap:=s3.heap.push { cls:=.type "slice",data:=.fields #[vl,vu,.none] } }:=I3.kept (t':=s3.toks) λ b ob q=>va5 _ q
 obtain ⟨T,id,hT,ht,hg⟩:=hr pins { s3 with heap:=s3.heap.push { cls:=.type "slice",data:=.fields #[vl,vu,.none] } } σ H3 x v vl vu l u s3.heap.objs.size Q I4 r1 (Heap.IsSliceOf.new ..) pl pu q3
 show vb2 (vb1 X.prog X.w) X.A (subscriptTail e (.Slice lo hi none p2) v (.ref s3.heap.objs.size)) (EP X pins σ Q) X.xe { s3 with heap:=s3.heap.push { cls:=.type "slice",data:=.fields #[vl,vu,.none] } }
 exact tail_any (ops:=[.ref s3.heap.objs.size,v]) ht hT hg (by with_unfolding_all rfl)
def cutV (xs:List V) (lo hi:Option Int):List V:=(xs.drop (HT.sIx xs.length 0 lo)).take (HT.sIx xs.length xs.length hi - HT.sIx xs.length 0 lo)
theorem zyv (xs:List V) (lo hi:Option Int):(cutV xs lo hi).length<=xs.length:=by
 unfold cutV
 rw [jd1,jh8]
 omega
def rSlT (K:va4):V->Option Int->Option Int->Hp->VK->Prop:=λ x lo hi H Q=>∃ a xs,x=.ref a/\SqT K H a xs /\
 ¬ (HT.sIx xs.length 0 lo=0/\HT.sIx xs.length xs.length hi=xs.length)/\∀ p,H p=none->Q (.ref p) (upd H p (.tup (cutV xs lo hi)))
theorem qba:SlR X (rSlT X.K):=by
 intro pins s σ H x v vl vu lo hi sl Q I rx hs pl pu h
 obtain ⟨a,xs,rfl,hx,hw,q⟩:=h
 cases rx
 obtain ⟨its,r,ht,hz⟩:=I.tuple hx
 have hlen:its.toArray.size=xs.length:=by rw [jb4];exact r.length.symm
 refine ⟨"tuple",_,PyProof.Rows.slot_tuple_getitem.lookup,ht.typeIs,?_⟩
 refine HT.getItem_tuple_cut ht hs pl pu (by rw [hlen];exact hw) ?_ (by rw [hlen];exact hz)
 rw [hlen]
 refine ⟨.ref s.heap.objs.size,_,I.laid (t':=s.toks) (o:=.tup (cutV xs lo hi)) (λ b ob q=>va5 _ q) (jb7 _) ?_,rfl,q _ (I.hok.fresh (jb7 _))⟩
 exact ⟨jc4 (zyv xs lo hi) hz,_,(r.drop (HT.sIx xs.length 0 lo)).take (HT.sIx xs.length xs.length hi - HT.sIx xs.length 0 lo),IsTup.new _ _⟩
def qma (K:va4):R2:=λ x y H Q=>∃ a b xs ys,x=.ref a/\y=.ref b/\SqT K H a xs/\SqT K H b ys/\xs≠[]/\xs.length + ys.length<=va2 /\
 (ys=[]->Q (.ref a) H)/\(ys≠[]->∀ p,H p=none->Q (.ref p) (upd H p (.tup (xs++ys))))
theorem Vals.nil_iff {xs:List V}{us:List va0} (r:Vals xs us):us=[]↔xs=[]:=by
 cases r with
 | nil=>simp
 | cons _ _=>simp
theorem qhq:OpR X (vd5 .Add) (qma X.K):=by
 intro pins s σ H x y v u Q I rx ry h
 obtain ⟨a,b,xs,ys,rfl,rfl,ha,hb,hx,hz,q1,q2⟩:=h
 cases rx
 cases ry
 obtain ⟨its,r1,p1,_⟩:=I.tuple ha
 obtain ⟨its2,r2,p2,_⟩:=I.tuple hb
 refine HT.cat_tup p1 p2 (λ z=>hx (r1.nil_iff.mp z)) (λ z=>⟨.ref a,H,I,rfl,q1 (r2.nil_iff.mp z)⟩) (λ z=>?_) (by rw [<- r1.length,<- r2.length];exact hz)
 refine ⟨.ref s.heap.objs.size,_,I.laid (t':=s.toks) (o:=.tup (xs++ys)) (λ b ob q=>va5 _ q) (jb7 _) ?_,rfl,q2 (λ w=>z (r2.nil_iff.mpr w)) _ (I.hok.fresh (jb7 _))⟩
 exact ⟨by rw [jb3];exact hz,_,r1.append r2,IsTup.new _ _⟩
end
def ixN (n:Nat) (i:Int):Option Nat:=if 0<=i then (if i < n then some i.toNat else none) else if -(n:Int)<=i then some (i + n).toNat else none
def atI {α:Type} (xs:List α) (i:Int):Option α:=(ixN xs.length i).bind λ j=>xs[j]?
theorem qcg {n:Nat}{i:Int}{j:Nat} (h:ixN n i=some j):seqIndex? i n=some j/\j < n/\-(n:Int)<=i/\i < n:=by
 unfold ixN at h
 by_cases h0:0<=i
 ·rw [if_pos h0] at h
  by_cases h1:i < n
  ·rw [if_pos h1] at h
   have e:i.toNat=j:=Option.some.inj h
   exact ⟨by rw [seqIndex_of h0 h1,e],by omega,by omega,h1⟩
  ·rw [if_neg h1] at h;cases h
 ·rw [if_neg h0] at h
  by_cases h1:-(n:Int)<=i
  ·rw [if_pos h1] at h
   have e:(i + n).toNat=j:=Option.some.inj h
   exact ⟨by rw [seqIndex_neg (by omega) h1,e],by omega,h1,by omega⟩
  ·rw [if_neg h1] at h;cases h
theorem zfv {α:Type}{xs:List α}{i:Int}{v:α} (h:atI xs i=some v):∃ j,seqIndex? i xs.length=some j/\xs[j]?=some v/\j < xs.length/\-(xs.length:Int)<=i/\i < xs.length:=by
 unfold atI at h
 cases e:ixN xs.length i with
 | none=>rw [e] at h;cases h
 | some j=>
  rw [e] at h
  obtain ⟨h1,h2,h3,h4⟩:=qcg e
  exact ⟨j,h1,h,h2,h3,h4⟩
def zpi (b:Expr):Prop:=∀ o i,subscripted b false o i=operate [o,i] (getItem o i)
def IxR (X:Cx) (r:R2):Prop:=
 ∀ (value slice:Expr) (pins:List (Addr×Obj)) (s:va1) (σ:St) (H:Hp) (x y:V) (v u:va0) (Q:VK),Inv X pins σ H s->RelV x v->RelV y u->r x y H Q ->
  subscripted slice false v u=operate [v,u] (getItem v u)->vb2 (vb1 X.prog X.w) X.A (subscriptTail value slice v u) (EP X pins σ Q) X.xe s
def MtR (X:Cx) (id:String) (r:V->List V->Hp->VK->Prop):Prop:=
 ∀ (pins:List (Addr×Obj)) (s:va1) (σ:St) (H:Hp) (x:V) (xs:List V) (v:va0) (us:List va0) (Q:VK),Inv X pins σ H s->RelV x v->Vals xs us->r x xs H Q ->
  vb2 (vb1 X.prog X.w) X.A (call (.builtin id) (v::us)) (EP X pins σ Q) X.xe s
section
variable {X:Cx}{a b:Expr}{ta tb:TE}{pos:Pos}
theorem IxR.or {r r':R2} (h:IxR X r) (h':IxR X r'):IxR X (λ x y H Q=>r x y H Q\/r' x y H Q):=by
 intro value slice pins s σ H x y v u Q I rx ry q hs
 rcases q with q | q
 ·exact h value slice pins s σ H x y v u Q I rx ry q hs
 ·exact h' value slice pins s σ H x y v u Q I rx ry q hs
theorem qbs {r:R2} (hr:IxR X r) (ha:PE X a ta) (hb:PE X b tb) (hs:zpi b):PE X (.Subscript a b pos) (tOp r ta tb):=by
 intro pins s σ H Q I h
 exact Subscript_ (binT ha hb I h λ v u s2 x y H2 I2 rx ry q=>hr a b pins s2 σ H2 x y v u Q I2 rx ry q (hs _ _))
def rIxL (K:va4):R2:=λ x y H Q=>∃ p xs i v,x=.ref p/\y=.int i/\SqL K H p xs/\atI xs i=some v/\Q v H
def rIxT (K:va4):R2:=λ x y H Q=>∃ p xs i v,x=.ref p/\y=.int i/\SqT K H p xs/\atI xs i=some v/\Q v H
def rIxS:R2:=λ x y H Q=>∃ z i c,x=.str z/\y=.int i/\z.length<=va2/\atI z.cps.toList i=some c/\Q (.str ⟨#[c]⟩) H
theorem zbt:IxR X (rIxL X.K):=by
 intro value slice pins s σ H x y v u Q I rx ry h hs
 obtain ⟨p,xs,i,z,rfl,rfl,hq,he,q⟩:=h
 cases rx
 obtain ⟨t,rfl⟩:=ry
 obtain ⟨its,r,pl,hz⟩:=I.list hq
 obtain ⟨j,h1,h2,h3,h4,h5⟩:=zfv he
 obtain ⟨w,ew,rw'⟩:=r.get h2
 have hl:=r.length
 have hn:=zjp
 have fin:EP X pins σ Q w s:=⟨z,H,I,rw',q⟩
 by_cases h0:0<=i
 ·have hj:i.toNat=j:=by
   rw [seqIndex_of h0 h5] at h1
   exact Option.some.inj h1
  exact item_listR pl.isList h0 (by omega) (by rw [hj];simpa using ew) fin hs
 ·have hj:(i + (its.toArray.size:Int)).toNat=j:=by
   rw [seqIndex_neg (by omega) h4] at h1
   rw [jb4,<- hl]
   exact Option.some.inj h1
  exact subscriptTail_builtinR (x:=w) pl.isList.typeIs slot_list_getitem.lookup
   (wpAny_getItem_list_neg (Q:=λ r s'=>r=w/\EP X pins σ Q r s') pl.isList (by omega) (by rw [jb4] <;> omega) (by omega) (by rw [hj];simpa using ew) ⟨rfl,fin⟩) hs
theorem qk8:IxR X (rIxT X.K):=by
 intro value slice pins s σ H x y v u Q I rx ry h hs
 obtain ⟨p,xs,i,z,rfl,rfl,hq,he,q⟩:=h
 cases rx
 obtain ⟨t,rfl⟩:=ry
 obtain ⟨its,r,pl,hz⟩:=I.tuple hq
 obtain ⟨j,h1,h2,h3,h4,h5⟩:=zfv he
 obtain ⟨w,ew,rw'⟩:=r.get h2
 have hl:=r.length
 have hn:=zjp
 have fin:EP X pins σ Q w s:=⟨z,H,I,rw',q⟩
 exact subscriptTail_builtinR (x:=w) pl.typeIs slot_tuple_getitem.lookup
  (getItem_tuple (j:=j) (Q:=λ r s'=>r=w/\EP X pins σ Q r s') pl (by omega) (by omega) (by rw [jb4,<- hl];exact h1) (by simpa using ew) ⟨rfl,fin⟩) hs
theorem qk9:IxR X rIxS:=by
 intro value slice pins s σ H x y v u Q I rx ry h hs
 obtain ⟨z,i,c,rfl,rfl,hz,he,q⟩:=h
 obtain ⟨t,rfl⟩:=rx
 obtain ⟨t',rfl⟩:=ry
 obtain ⟨j,h1,h2,h3,h4,h5⟩:=zfv he
 have hl:z.cps.toList.length=z.length:=by simp [Str.length]
 rw [hl] at h1 h4 h5
 have hn:=zjp
 exact tail_any (vh0 s z t) slot_str_getitem.lookup (getItem_str (c:=c) (by
  have e1:decide (i < -(2 ^ 63:Int))=false:=decide_eq_false (by omega)
  have e2:decide (i ≥ 2 ^ 63)=false:=decide_eq_false (by omega)
  rw [e1,e2,Bool.or_false]) (by rw [h1];simpa using h2) ⟨.str ⟨#[c]⟩,H,I.tok _,⟨_,rfl⟩,q⟩) hs
def rIx (K:va4):R2:=λ x y H Q=>rIxL K x y H Q\/rIxT K x y H Q\/rIxS x y H Q
theorem qfz:IxR X (rIx X.K):=zbt.or (qk8.or qk9)
theorem qam (its:List va0) (n j:Nat) (u:va0):vj3 (·.setIfInBounds j u) { cls:=.type "list",data:=.seq its.toArray n }={ cls:=.type "list",data:=.seq (its.set j u).toArray n }:=by
 simp [vj3]
theorem Inv.lst {pins:List (Addr×Obj)}{σ:St}{H:Hp}{s:va1}{p:Addr}{xs:List V} (I:Inv X pins σ H s) (h:H p=some (.lst xs)):
  ∃ (its:List va0) (n:Nat),Vals xs its/\s.heap.get? p=some { cls:=.type "list",data:=.seq its.toArray n }/\xs.length<=va2:=by
 obtain ⟨z,its,n,r,e⟩:=I.hok p _ h
 exact ⟨its,n,r,e,z⟩
theorem Inv.lstUpd {pins:List (Addr×Obj)}{σ:St}{H:Hp}{s:va1}{p:Addr}{xs ys:List V}{its its':List va0}{n n':Nat}{f:Obj->Obj} (I:Inv X pins σ H s) (h:H p=some (.lst xs))
  (ho:s.heap.get? p=some { cls:=.type "list",data:=.seq its.toArray n }) (hf:f { cls:=.type "list",data:=.seq its.toArray n }={ cls:=.type "list",data:=.seq its'.toArray n' }) (r:Vals ys its') (hz:ys.length<=va2) (t:Nat):
  Inv X pins σ (upd H p (.lst ys)) { s with heap:=s.heap.update p f,toks:=t }:=by
 have e:(s.heap.update p f).get? p=some { cls:=.type "list",data:=.seq its'.toArray n' }:=by
  rw [Heap.get?_update_self f ho (by rw [hf] <;> rfl),hf]
 refine I.write (x:=p) (e:=p) (by rw [h];trivial) (.inl rfl) (λ b u hb q=>(Heap.get?_update_other _ _ (vc2 hb)).trans q) ⟨_,e⟩ ?_
 exact ⟨hz,its',n',r,e⟩
def qbf:V->V->V->Hp->(Hp->Prop)->Prop:=λ o i v H Q=>∃ p xs k j,o=.ref p/\i=.int k/\H p=some (.lst xs)/\ixN xs.length k=some j/\Q (upd H p (.lst (xs.set j v)))
theorem zkq:PSet X qbf:=by
 intro pins s σ H o i v ov iv u Q I ro ri rv h
 obtain ⟨p,xs,k,j,rfl,rfl,hp,hj,q⟩:=h
 cases ro
 obtain ⟨t,rfl⟩:=ri
 obtain ⟨its,n,r,ho,hz⟩:=I.lst hp
 obtain ⟨h1,h2,h3,h4⟩:=qcg hj
 have hl:=r.length
 have hn:=zjp
 have I':Inv X pins σ (upd H p (.lst (xs.set j v))) { s with heap:=s.heap.update p (vj3 (·.setIfInBounds j u)) }:=
  I.lstUpd hp ho (qam its n j u) (r.set rv j) (by rw [je0];exact hz) s.toks
 by_cases h0:0<=k
 ·have hk:k.toNat=j:=by
   rw [seqIndex_of h0 h4] at h1
   exact Option.some.inj h1
  exact PySem.W.ki_setAt ho h0 (by omega) (by rw [jb4,<- hl];exact h4) (by rw [hk];exact ⟨_,I',q⟩)
 ·have hk:(k + (its.toArray.size:Int)).toNat=j:=by
   rw [seqIndex_neg (by omega) h3] at h1
   rw [jb4,<- hl]
   exact Option.some.inj h1
  exact PySem.W.ki_setBack ho (by omega) (by rw [jb4,<- hl];exact h3) (by omega) (by rw [hk];exact ⟨_,I',q⟩)
theorem zpq (lo hi:Option Int) (n:Nat):(vf1 lo hi none n).1=((HT.sIx n 0 lo:Nat):Int)/\(vf1 lo hi none n).2.1=((HT.sIx n n hi:Nat):Int)/\(vf1 lo hi none n).2.2=1:=by
 refine ⟨?_,?_,rfl⟩
 ·cases lo with
  | none=>simp [vf1,HT.sIx]
  | some i=>
   simp only [vf1,HT.sIx,jm8,show (1:Int) > 0 by decide,if_true]
   by_cases h:i < 0
   ·simp only [h,if_true] <;> omega
   ·simp only [h,if_false] <;> omega
 ·cases hi with
  | none=>simp [vf1,HT.sIx]
  | some i=>
   simp only [vf1,HT.sIx,jm8,show (1:Int) > 0 by decide,if_true]
   by_cases h:i < 0
   ·simp only [h,if_true] <;> omega
   ·simp only [h,if_false] <;> omega
theorem zbg (its:List va0) (lo hi:Option Int):slicePick its.toArray lo hi none=((its.drop (HT.sIx its.length 0 lo)).take (HT.sIx its.length its.length hi - HT.sIx its.length 0 lo)).toArray:=by
 obtain ⟨h1,h2,h3⟩:=zpq lo hi its.toArray.size
 unfold slicePick
 rw [h1,h2,h3]
 simp only [sliceRange_one,pick_run,jb4] <;> rfl
def rSlL (K:va4):V->Option Int->Option Int->Hp->VK->Prop:=λ x lo hi H Q=>∃ a xs,x=.ref a/\SqL K H a xs/\∀ p,H p=none->Q (.ref p) (upd H p (.lst (cutV xs lo hi)))
theorem zff:SlR X (rSlL X.K):=by
 intro pins s σ H x v vl vu lo hi sl Q I rx hs pl pu h
 obtain ⟨a,xs,rfl,hx,q⟩:=h
 cases rx
 obtain ⟨its,r,ht,hz⟩:=I.list hx
 have hlen:=r.length
 refine ⟨"list",_,slot_list_getitem.lookup,ht.isList.typeIs,?_⟩
 refine wpAny_getItem_list_slice ht.isList hs pl pu .none (by simp) ?_ (by rw [jb4] <;> omega)
 rw [zbg,<- hlen]
 refine ⟨.ref s.heap.objs.size,_,I.laid (t':=s.toks) (o:=.lst (cutV xs lo hi)) (λ b ob q=>va5 _ q) (jb7 _) ?_,rfl,q _ (I.hok.fresh (jb7 _))⟩
 exact ⟨jc4 (zyv xs lo hi) hz,_,0,(r.drop (HT.sIx xs.length 0 lo)).take (HT.sIx xs.length xs.length hi - HT.sIx xs.length 0 lo),vb0 _ rfl⟩
theorem zmy:zwn X (.builtin "len") (λ xs H Q=>∃ p ys,xs=[.ref p]/\(SqL X.K H p ys\/SqT X.K H p ys)/\Q (.int ys.length) H):=by
 intro pins s σ H xs us Q I r h
 obtain ⟨p,ys,rfl,hq,q⟩:=h
 obtain ⟨u,rfl,rx⟩:=zvf r
 cases rx
 have hn:=zjp
 rcases hq with hq | hq
 ·obtain ⟨its,r',pl,hz⟩:=I.list hq
  have hlen:=r'.length
  exact Calls.call_len_list pl.isList (by simp only [jb4] <;> omega) ⟨.int ys.length,H,I.tok _,⟨s.toks + 1,by rw [jb4,hlen]⟩,q⟩
 ·obtain ⟨its,r',pl,hz⟩:=I.tuple hq
  have hlen:=r'.length
  exact len_tuple pl (by simp only [jb4] <;> omega) ⟨.int ys.length,H,I.tok _,⟨s.toks + 1,by rw [jb4,hlen]⟩,q⟩
theorem zmx:zwn X (.builtin "len") (λ xs H Q=>∃ z,xs=[.str z]/\z.length<=va2/\Q (.int z.length) H):=by
 intro pins s σ H xs us Q I r h
 obtain ⟨z,rfl,hz,q⟩:=h
 obtain ⟨u,rfl,t,rfl⟩:=zvf r
 have hn:=zjp
 exact len_str (by omega) ⟨.int z.length,H,I.tok _,⟨_,rfl⟩,q⟩
theorem zwn.or {f:va0}{r r':List V->Hp->VK->Prop} (h:zwn X f r) (h':zwn X f r'):zwn X f (λ xs H Q=>r xs H Q\/r' xs H Q):=by
 intro pins s σ H xs us Q I rs q
 rcases q with q | q
 ·exact h pins s σ H xs us Q I rs q
 ·exact h' pins s σ H xs us Q I rs q
theorem zmw:zwn X (.type "list") (λ xs H Q=>∃ p ys,xs=[.ref p]/\(SqL X.K H p ys\/SqT X.K H p ys)/\∀ l,H l=none->Q (.ref l) (upd H l (.lst ys))):=by
 intro pins s σ H xs us Q I r h
 obtain ⟨p,ys,rfl,hq,q⟩:=h
 obtain ⟨u,rfl,rx⟩:=zvf r
 cases rx
 have fin:∀ (its:List va0),Vals ys its->ys.length<=va2->∀ (h':Heap) (c':Nat),(∀ b o',s.heap.get? b=some o'->h'.get? b=some o') ->
   h'.get? s.heap.objs.size=some { cls:=.type "list",dict:=none,data:=.seq its.toArray c',slots:=#[] }->EP X pins σ Q (.ref s.heap.objs.size) { s with heap:=h' }:=λ its r' hz h' c' kp e=>
  ⟨.ref s.heap.objs.size,_,I.laid (t':=s.toks) kp (jb7 _) (show zxw X.prog X.w _ h' _ (.lst ys) from ⟨hz,its,c',r',e⟩),rfl,q _ (I.hok.fresh (jb7 _))⟩
 rcases hq with hq | hq
 ·obtain ⟨its,r',pl,hz⟩:=I.list hq
  have hlen:=r'.length
  obtain ⟨o,ho,hc,n,hd⟩:=pl.isList
  exact call_list_seq p (.inl rfl) ho hc hd (λ h' c' kp e=>fin its r' hz h' c' kp e) (by simp only [jb4] <;> omega)
 ·obtain ⟨its,r',pl,hz⟩:=I.tuple hq
  have hlen:=r'.length
  obtain ⟨o,ho,hc,n,hd⟩:=pl
  exact call_list_seq p (.inr rfl) ho hc hd (λ h' c' kp e=>fin its r' hz h' c' kp e) (by simp only [jb4] <;> omega)
theorem zpe:zwn X (.type "tuple") (λ xs H Q=>∃ p ys,xs=[.ref p]/\((SqL X.K H p ys/\∀ l,H l=none->Q (.ref l) (upd H l (.tup ys)))\/(SqT X.K H p ys/\Q (.ref p) H))):=by
 intro pins s σ H xs us Q I r h
 obtain ⟨p,ys,rfl,h⟩:=h
 obtain ⟨u,rfl,rx⟩:=zvf r
 cases rx
 rcases h with ⟨hq,q⟩ | ⟨hq,q⟩
 ·obtain ⟨its,r',pl,hz⟩:=I.list hq
  have hlen:=r'.length
  refine call_tuple_list pl.isList (λ h' kp=>?_) (by simp only [jb4] <;> omega)
  have I1:Inv X pins σ H { s with heap:=h' }:=I.kept (t':=s.toks) kp
  have I2:Inv X pins σ (upd H h'.objs.size (.tup ys)) { s with heap:=h'.push { cls:=.type "tuple",data:=.seq its.toArray } }:=
   I1.laid (t':=s.toks) (λ b o e=>va5 _ e) (jb7 _) (show zxw X.prog X.w _ _ _ (.tup ys) from ⟨hz,its,r',IsTup.new _ _⟩)
  exact ⟨.ref h'.objs.size,_,I2,rfl,q _ (I1.hok.fresh (jb7 _))⟩
 ·obtain ⟨its,r',pl,hz⟩:=I.tuple hq
  exact call_tuple_same pl ⟨.ref p,H,I,rfl,q⟩
def tyV (K:va4) (T:String) (x:V) (H:Hp):Prop:=match x with
 | .str _=>T = "str"
 | .int _=>T = "int"
 | .ref p=>(T = "list" /\ ∃ xs,SqL K H p xs)\/(T = "tuple" /\ ∃ o,K.lookup p=some o/\o.cls=.type "tuple" /\ o.dict=none) \/
   (T = "dict" /\ ((∃ kvs,H p=some (.dK kvs))\/∃ kvs,H p=some (.dT kvs)))\/(T = "set" /\ ∃ S n,H p=some (.set S n))
 | _=>False
theorem qi4 {pins:List (Addr×Obj)}{σ:St}{H:Hp}{s:va1}{T:String}{x:V}{v:va0} (I:Inv X pins σ H s) (r:RelV x v) (ty:tyV X.K T x H):
  s.TypeIs v T/\∀ a,v=.ref a->∃ ob,s.heap.get? a=some ob/\ob.dict=none:=by
 cases x with
 | str z=>
  obtain ⟨t,rfl⟩:=r
  cases (show T = "str" from ty)
  exact ⟨vh0 s z t,λ _ e=>nomatch e⟩
 | int i=>
  obtain ⟨t,rfl⟩:=r
  cases (show T = "int" from ty)
  exact ⟨typeIs_int s i t,λ _ e=>nomatch e⟩
 | ref p=>
  cases r
  rcases ty with ⟨rfl,xs,hq⟩ | ⟨rfl,o,hk,hc,hd⟩ | ⟨rfl,hk⟩ | ⟨rfl,S,n,hk⟩
  ·obtain ⟨its,_,pl,_⟩:=I.list hq
   refine ⟨pl.isList.typeIs,λ a e=>?_⟩
   cases e
   obtain ⟨o,n,e,c,hd,_⟩:=pl
   exact ⟨o,e,hd⟩
  ·refine ⟨⟨o,I.kIn p o hk,hc⟩,λ a e=>?_⟩
   cases e
   exact ⟨o,I.kIn _ o hk,hd⟩
  ·have z:∃ o,s.heap.get? p=some o/\o.ExactDict:=by
    rcases hk with ⟨kvs,hk⟩ | ⟨kvs,hk⟩
    ·obtain ⟨_,_,_,_,o,_,_,e,ex,_⟩:=I.hok p _ hk
     exact ⟨o,e,ex⟩
    ·obtain ⟨_,_,_,_,o,_,_,e,ex,_⟩:=I.hok p _ hk
     exact ⟨o,e,ex⟩
   obtain ⟨o,e,ex⟩:=z
   refine ⟨⟨o,e,ex.1⟩,λ a e2=>?_⟩
   cases e2
   exact ⟨o,e,ex.2.1⟩
  ·obtain ⟨o,_,_,_,e,ex,_⟩:=I.hok p _ hk
   refine ⟨⟨o,e,ex.1⟩,λ a e2=>?_⟩
   cases e2
   exact ⟨o,e,ex.2.1⟩
 | _=>exact ve2 ty
def tBM (K:va4) (T:String) (r:V->List V->Hp->VK->Prop) (to:TE) (t:TA):TE:=λ σ H Q=>to σ H λ x H1=>tyV K T x H1/\t σ H1 λ xs H2=>r x xs H2 Q
variable {o e:Expr}{es:List Expr}{to:TE}{t:TA}{name:Str}{apos cpos:Pos}{T id:String}{r:V->List V->Hp->VK->Prop}
theorem qd9 (pa:PlainAttrs T) (slot:Slot T name id) (hty:typeOf (.builtin id)=pure (.type "method_descriptor")) (hm:MtR X id r) (ho:PE X o to) (ha:PA X (e::es) t)
  (hbase:vi1 o name X.env (eval o X.env)=eval o X.env:=by rfl)
  (hfew:((vd6 cpos (va3 (e::es) X.env)).all (λ x=>!x.1) && (backToKw cpos (vk2 [] X.env)).all (λ x=>x.1.isSome)
   && decide ((e::es).length + ([]:List vh6).length + (if ([]:List vh6).isEmpty then 0 else 1) < 30))=true:=by rfl)
  (hline:(apos.endLine == cpos.line)=true:=by rfl) (hs:va3 (e::es) X.env=(false,eval e X.env)::va3 es X.env:=by rfl) (hplain:(vd6 cpos (va3 es X.env)).any (·.1)=false:=by rfl):
  PE X (.Call (.Attribute o name apos) (e::es) [] cpos) (tBM X.K T r to t):=by
 intro pins s σ H Q I h
 refine wpAny_Call_method_late hbase hfew hline rfl (thn (ho pins s σ H _ I h) λ v s1 ⟨x,H1,I1,r1,ty,q1⟩=>?_)
 obtain ⟨h1,h2⟩:=qi4 I1 r1 ty
 refine ⟨T,id,pa,slot,hty,h1,h2,?_⟩
 have hA:=ha cpos pins s1 σ H1 _ I1 q1
 rw [hs] at hA ⊢
 refine Calls.callWith_builtin (by show (false || (vd6 cpos (va3 es X.env)).any (·.1))=false;rw [hplain] <;> rfl) (Calls.evalArgs_plain ?_)
 exact thn hA λ us s2 ⟨vs,H2,I2,r2,q2⟩=>hm pins s2 σ H2 x vs v us Q I2 r1 r2 q2
end
def MtM (X:Cx) (id:String) (r:V->List V->Hp->VK->Prop):Prop:=
 ∀ (pins:List (Addr×Obj)) (s:va1) (σ:St) (H:Hp) (x:V) (xs:List V) (v:va0) (us:List va0) (Q:VK),Inv X pins σ H s->RelV x v->Vals xs us->r x xs H Q ->
  vb2 (vb1 X.prog X.w) X.A (call (.builtin id) (v::us)) (EP X pins σ Q) X.xe s
theorem Vals.one:∀ {x:V}{us:List va0},Vals [x] us->∃ u,us=[u]/\RelV x u
 | _,_,.cons r .nil=>⟨_,rfl,r⟩
theorem Vals.rep {xs:List V}{us:List va0} (h:Vals xs us):∀ k:Nat,Vals (ja9 k xs).flatten (ja9 k us).flatten
 | 0=>.nil
 | k + 1=>by
  rw [jd4,jd4,je8,je8]
  exact Vals.append h (Vals.rep h k)
theorem zmo (its:List va0):∀ (k:Nat) (acc:List va0),
  jo0 (λ x1 x2=>x1++x2) acc.toArray (ja9 k its.toArray)=(acc++(ja9 k its).flatten).toArray
 | 0,acc=>by simp
 | k + 1,acc=>by
  have e:acc.toArray++its.toArray=(acc++its).toArray:=by simp
  have e2:(acc++its)++(ja9 k its).flatten=acc++(ja9 (k + 1) its).flatten:=by
   rw [jd4,je8,jg4]
  rw [<- e2,<- zmo its k (acc++its),<- e,jd4,jk4]
section
variable {X:Cx}{pins:List (Addr×Obj)}{σ:St}{H:Hp}{s:va1}{l b:Addr}{xs ys zs:List V}
theorem Inv.lset {its its':List va0}{n:Nat}{f:Array va0->Array va0}{t':Nat} (I:Inv X pins σ H s) (hH:H l=some (.lst xs))
  (e:s.heap.get? l=some { cls:=.type "list",data:=.seq its.toArray n }) (hf:f its.toArray=its'.toArray) (hv:Vals ys its') (hz:ys.length<=va2):
  Inv X pins σ (upd H l (.lst ys)) { s with heap:=s.heap.update l (vj3 f),toks:=t' }:=by
 have q:=PySem.IsL.update e f
 rw [hf] at q
 refine I.write (x:=l) (e:=l) (by rw [hH];exact trivial) (.inl rfl) (λ b' u hb hu=>(Heap.get?_update_other s.heap (vj3 f) (vc2 hb)).trans hu) ⟨_,q⟩ ?_
 exact ⟨hz,its',_,hv,q⟩
theorem Inv.lnew {its:List va0}{t':Nat} (I:Inv X pins σ H s) (hv:Vals ys its) (hz:ys.length<=va2):
  Inv X pins σ (upd H s.heap.objs.size (.lst ys)) { s with heap:=s.heap.push { cls:=.type "list",data:=.seq its.toArray },toks:=t' }:=
 I.laid (λ _ _ q=>va5 _ q) (jb7 _) ⟨hz,its,0,hv,vb0 _ rfl⟩
theorem Inv.fresh (I:Inv X pins σ H s):H s.heap.objs.size=none:=I.hok.fresh (jb7 _)
theorem Inv.lstM (I:Inv X pins σ H s) (hH:H l=some (.lst xs)):xs.length<=va2/\∃ (its:List va0) (n:Nat),Vals xs its/\xs.length=its.length/\s.heap.get? l=some { cls:=.type "list",data:=.seq its.toArray n }:=by
 obtain ⟨z,its,n,r,e⟩:=I.hok l _ hH
 exact ⟨z,its,n,r,r.length,e⟩
theorem qee {n:Nat} (h:n<=va2):vg2 n=false:=by
 unfold vg2
 exact decide_eq_false (by omega)
end
section
variable {X:Cx}
def zfh:V->List V->Hp->VK->Prop:=λ x vs H Q=>∃ l xs y,x=.ref l/\vs=[y]/\H l=some (.lst xs)/\xs.length < va2/\Q .non (upd H l (.lst (xs++[y])))
theorem zym:MtM X "list.append" zfh:=by
 intro pins s σ H x vs v us Q I rx rv h
 obtain ⟨l,xs,y,rfl,rfl,hH,hz,q⟩:=h
 cases rx
 obtain ⟨u,rfl,ru⟩:=rv.one
 obtain ⟨z,its,n,r,hl,e⟩:=I.lstM hH
 refine vh1 F.slot_list_append ⟨_,e,rfl⟩ F.entry_list_append (F.args_list_append_2 _ _) (PySem.list_append l its.toArray n u (by rw [jb4];omega)) ⟨e,?_⟩
 refine ⟨.non,_,I.lset (its':=its++[u]) hH e (by simp) (r.append (.cons ru .nil)) ?_,rfl,q⟩
 rw [jb3,jf0]
 omega
def rCat:R2:=λ x y H Q=>∃ l b xs zs,x=.ref l/\y=.ref b/\H l=some (.lst xs)/\H b=some (.lst zs)/\xs.length + zs.length<=va2/\∀ p,H p=none->Q (.ref p) (upd H p (.lst (xs++zs)))
theorem qfv:OpR X (vd5 .Add) rCat:=by
 intro pins s σ H x y v u Q I rx ry h
 obtain ⟨l,b,xs,zs,rfl,rfl,hH,hB,hz,q⟩:=h
 cases rx
 cases ry
 obtain ⟨z,its,n,r,hl,e⟩:=I.lstM hH
 obtain ⟨z2,its2,n2,r2,hl2,e2⟩:=I.lstM hB
 refine PySem.P.add_list e e2 ?_ (by rw [jb4,jb4];omega)
 have ea:its.toArray++its2.toArray=(its++its2).toArray:=by simp
 rw [ea]
 exact ⟨.ref _,_,I.lnew (t':=s.toks) (r.append r2) (by rw [jb3];omega),rfl,q _ I.fresh⟩
def rRep:R2:=λ x y H Q=>∃ l k xs,x=.ref l/\y=.int k/\H l=some (.lst xs)/\-(2 ^ 63)<=k/\k < 2 ^ 63/\xs.length * k.toNat<=va2 /\
 ∀ p,H p=none->Q (.ref p) (upd H p (.lst (ja9 k.toNat xs).flatten))
theorem qhw {α:Type} (xs:List α) (k:Nat):(ja9 k xs).flatten.length=k * xs.length:=by
 induction k with
 | zero=>simp
 | succ k ih=>rw [jd4,je8,jb3,ih,jk5,jo5]
theorem qkl:OpR X (vd5 .Mult) rRep:=by
 intro pins s σ H x y v u Q I rx ry h
 obtain ⟨l,k,xs,rfl,rfl,hH,h1,h2,hz,q⟩:=h
 cases rx
 obtain ⟨t,rfl⟩:=ry
 obtain ⟨z,its,n,r,hl,e⟩:=I.lstM hH
 have hlen:its.toArray.size * k.toNat<=va2:=by rw [jb4,<- hl];exact hz
 have hcap:¬ its.toArray.size * k.toNat > (2 ^ 63 - 1) / 8:=by
  have:(va2:Nat)<=(2 ^ 63 - 1) / 8:=by decide
  omega
 have hfit:¬ (!Builtin.List.listFitsIndex k)=true:=by
  rw [fitsIndex_both h1 h2]
  exact jc7
 have hlong:¬ vg2 (its.toArray.size * k.toNat)=true:=by
  rw [qee hlen]
  exact jc7
 have hnew:jo0 (λ x1 x2=>x1++x2) #[] (ja9 (if its.toArray.isEmpty=true then 0 else k.toNat) its.toArray)=(ja9 k.toNat its).flatten.toArray:=by
  have f0:∀ m:Nat,jo0 (λ x1 x2=>x1++x2) #[] (ja9 m its.toArray)=(ja9 m its).flatten.toArray:=λ m=>by
   have:=zmo its m []
   rw [jh0] at this
   exact this
  rw [f0]
  cases its with
  | nil=>simp
  | cons a r'=>rw [if_neg (by simp)]
 refine wpAny_binaryOp_repeat_ref (T := "list") (U := "int") (by decide) ⟨_,e,rfl⟩ (λ s'=>typeIs_int s' k t) noFill_list_mul F.fills_int_mul F.slot_int_rmul repeat_list F.slot_int_index.lookup
  (vh1 F.slot_int_rmul (typeIs_int s k t) F.entry_int_rmul (F.args_int_rmul_2 _ _) (int___rmul___int_list k t l its.toArray n)
   ⟨e,rfl,⟨_,e,rfl⟩,vh1 F.slot_list_mul ⟨_,e,rfl⟩ F.entry_list_mul (F.args_list_mul_2 _ _) (AutoListH.list___mul___list_int_3 l its.toArray n k t hfit hcap hlong) ⟨e,?_⟩⟩)
 rw [hnew]
 exact ⟨.ref _,_,I.lnew (t':=s.toks) (r.rep k.toNat) (by rw [qhw,jo6];exact hz),rfl,q _ I.fresh⟩
end
section
variable {prog:va8}{w:vb6}{A:vb8}{E:va0->va1->Prop}{s:va1}
end
section
variable {X:Cx}
end
end L2
namespace Att
open PySem PySem.W PySem.Calls PyProof.Rows
theorem zyq {P:Params}{h:Heap}:∀ (ns:List Int) (vs:List va0),WellAll P h vs (ns.map WData.int)->IntsAre vs ns:=by
 intro ns
 induction ns with
 | nil=>
  intro vs w
  rw [jg0] at w
  cases w
  exact .nil
 | cons n ns ih=>
  intro vs w
  rw [jc1] at w
  cases w with
  | cons a b=>
   cases a
   exact .cons _ _ (ih _ b)
theorem qbc {l:OpenLaw}{n:Nat} (hn:l.most=some n) {P:Params}{h:Heap}{args:List WData}{vals:List va0}
  (hpre:l.row.toRowW.claim.pre args=true) (hwl:WellAll P h vals args):
  ∃ a vs ns,vals=[Value.ref a]/\args=[WData.list (ns.map WData.int)]/\h.get? a=some { cls:=.type "list",data:=.seq vs.toArray }/\IntsAre vs ns/\ns.length<=n:=by
 have hsh:WShape.hasAll [] args [.list .int]=true:=(pre_splitW hpre).1
 have hc:l.pre.holds [] { args:=args }=true:=(pre_splitW hpre).2
 obtain ⟨d,r,rfl,h1,h2⟩:=hasAllW_cons hsh
 obtain rfl:=hasAllW_nil h2
 obtain ⟨xs,rfl,h3⟩:=hasW_list h1
 obtain ⟨ns,rfl⟩:=items_int h3
 have hlen:ns.length<=n:=by
  unfold OpenLaw.pre at hc
  have h4:(WTm.not (.lt (.lit (.int (n:Int))) (.len (.arg 0)))).holds [] { args:=[.list (ns.map .int)] }=true:=by
   have h4:=(holds_andW hc).1
   rw [hn] at h4
   exact h4
  have h5:=condW_of h4 (w_not (w_lt w_lit (w_len_list (w_arg rfl))))
  rw [ja6] at h5
  refine Nat.le_of_not_lt λ q=>?_
  have q':(n:Int) < ((ns.length:Nat):Int):=by omega
  first
   | (rw [decide_eq_true q'] at h5;exact absurd h5 (by decide))
   | (simp at h5;omega)
 cases hwl with
 | cons w1 w2=>
  cases w2
  cases w1 with
  | list ho hall=>exact ⟨_,_,ns,rfl,rfl,ho,zyq ns _ hall,hlen⟩
theorem qbl (l:OpenLaw) (args:List WData):l.row.toRowW.claim.post args (.bool true) args=true:=
 postW_of (r:=l.row.toRowW) (X:=(true == true))
  (show WShape.has [] (.bool true) .bool=true by first | rfl | decide | simp [WShape.has,WShape.arms,WShape.armsAll])
  (show (WTm.eq .res (.lit (.bool true))).value [] { args:=args,res:=some (.bool true),after:=args }=some (.bool (true == true)) from w_eq_bool (w_res rfl) w_lit) rfl
theorem attach_call {l:OpenLaw}{n:Nat}{q:va8}{loose:List Str}{XP:(Str->Option va0)->Heap->Prop}{YP:vb6->Heap->Prop}{d:DefRec}
  (hn:l.most=some n) (hdf:d.params.defaults=[])
  (call:∀ (w:vb6) (s₀ s₁:va1) (mg mb:Str->Option va0) (fa:Addr) (o:Obj) (pm cd doc:va0) (a:Addr) (vs:List va0) (ns:List Int),
   Ground q loose [] XP w s₀ mg mb s₁.heap->YP w s₁.heap ->
   s₁.heap.get? fa=some o->o.data=.func (docDef d.name d.params d.body d.scope pm cd doc)->s₁.heap.CodeRec cd d.name->mg d.name=some (.ref fa) ->
   s₁.heap.get? a=some { cls:=.type "list",data:=.seq vs.toArray }->IntsAre vs ns->ns.length<=n->s₁.gens=#[] ->
   vi7 (vb1 l.prog w) vk6 (.call (.ref fa) ⟨[.ref a],[]⟩) (λ r s'=>r=.ok (.ret (.bool true))/\OldK s₁.heap s'.heap/\s'.os=s₁.os/\vg4 s'.gens) s₁):
  WalkO q loose XP YP l.row.toRowW d [] (λ f vs=>PySem.call f vs):=by
 intro w s₀ s₁ mg mb G Y fa o pm cd doc dV kV ho hd hcd hD hmg hg args vals as hpre hlay hrd hwl hlo
 obtain rfl:dV=.none:=Dflts.none hD hdf
 obtain rfl:kV=.none:=Dflts.noKw hD
 obtain ⟨a,vs,ns,rfl,rfl,hobj,hints,hlen⟩:=qbc hn hpre hwl
 refine enter_call (codeAny_mono (call w s₀ s₁ mg mb fa o pm cd doc a vs ns G Y ho (fd_plain hd) hcd hmg hobj hints hlen hg) λ r s' hq=>?_)
 obtain ⟨rfl,h2,h3,h4⟩:=hq
 exact ⟨.inl ⟨.bool true,.bool true,[],rfl,λ _=>rfl,.bool true,qbl l _,λ _=>⟨List.Pairwise.nil,λ _ hm=>(nomatch hm)⟩⟩,h2,h3,h4⟩
section
variable {prog:va8}{w:vb6}{A:vb8}{E:va0->va1->Prop}{s:va1}{K:Frag}
end
end Att
namespace L2
open PySem PySem.Spec PyProof.Rows
theorem zpl:∀ {vs:List va0}{ns:List Int},IntsAre vs ns->Vals (ns.map V.int) vs
 | _,_,.nil=>.nil
 | _,_,.cons n t h=>.cons ⟨t,rfl⟩ (zpl h)
def Only (H:Hp):Prop:=∀ b,H b=none\/∃ o xs,H b=some (.frz o (.lst xs))
theorem qeg {P:va8}{w:vb6}{K:va4}{mg mb:Str->Option va0}{CX:CXT}{k:Nat}{fa a:Addr}{fd:vc3}{x:Str}{sp:Sp}{s₁:va1}{vs:List va0}{ns:List Int}
  (KX:K.In s₁.heap) (hns:s₁.heap.Ns vb9 mg) (hb:s₁.heap.Ns builtinsNs mb) (hbb:∀ x:Str,x ≠ "__name__" -> mb x=ve7 x) (hlim:s₁.heap.NoLimit) (hg:s₁.gens=#[])
  (ha:s₁.heap.get? a=some { cls:=.type "list",data:=.seq vs.toArray }) (hi:IntsAre vs ns) (hl:ns.length<=va2) (hr:Room k vk6)
  (F:∀ base:Heap,K.In base->base.Ns vb9 mg->FnOk P w K mg base CX k fa fd [x] sp) (hbind:∀ (s:va1) (u:va0),BindsTo s fd ⟨[u],[]⟩ [(x,u)])
  (hsp:∀ H:Hp,Only H->SqL K H a (ns.map V.int)->sp [.ref a] H (λ v _=>v=.bl true) λ _ _ _=>False)
  (hCX:∀ H e s',CX [] H s₁ (λ _ _ _=>False) e s'->False):
  vi7 (vb1 P w) vk6 (.call (.ref fa) ⟨[.ref a],[]⟩) (λ r s'=>r=.ok (.ret (.bool true))/\OldK s₁.heap s'.heap/\s'.os=s₁.os/\vg4 s'.gens) s₁:=by
 have rv:=zpl hi
 have lenV:=hi.length
 have core:∀ H:Hp,Only H->SqL K H a (ns.map V.int)->HOk P w H s₁.heap->(∀ b,H b≠none->b=a)->(H a≠none->K.lookup a=none) ->
   vi7 (vb1 P w) vk6 (.call (.ref fa) ⟨[.ref a],[]⟩) (λ r s'=>r=.ok (.ret (.bool true))/\OldK s₁.heap s'.heap/\s'.os=s₁.os/\vg4 s'.gens) s₁:=by
  intro H hO hS hok hA hK
  have base_of:∀ {b:Addr}{o:Obj},s₁.heap.get? b=some o->H b=none->(hidT s₁.heap H).get? b=some o:=λ e n=>qek e n
  have noA:∀ {b:Addr}{o:Obj}{es:Array DictEntry}{ep:Nat},s₁.heap.get? b=some o->o.data=.dict es ep->H b=none:=λ {b o es ep} e d=>by
   cases q:H b with
   | none=>rfl
   | some u=>
    have e':b=a:=hA b (by rw [q];simp)
    subst e'
    rw [ha] at e;cases e
    have d':Data.seq vs.toArray _=Data.dict es ep:=d
    cases d'
  have nsK:∀ {b:Addr}{m:Str->Option va0},s₁.heap.Ns b m->(hidT s₁.heap H).Ns b m:=λ {b m} ⟨o,es,ep,e,d,r⟩=>⟨o,es,ep,base_of e (noA e d),d,r⟩
  have hKb:K.In (hidT s₁.heap H):=λ b o e=>base_of (KX b o e) (by
   cases q:H b with
   | none=>rfl
   | some u=>
    have e':b=a:=hA b (by rw [q];simp)
    subst e'
    rw [hK (by rw [q];simp)] at e;cases e)
  have hM:Mod K mg (hidT s₁.heap H):=⟨hKb,nsK hns,⟨mb,nsK hb,hbb⟩,let ⟨mc,h1,h2⟩:=hlim;⟨mc,nsK h1,h2⟩⟩
  have e0:Env0 P w K mg (hidT s₁.heap H) vk6 [] s₁ H:=⟨rfl,hM,λ b o e=>qhs e,Nat.le_of_eq (qcl _ _),trivial,λ b hb=>absurd (show b∈([]:List Addr) from hb) (by simp),hok,.of_eq hg⟩
  refine codeAny_mono ((F _ hKb (nsK hns)).run vk6 [] s₁ H ⟨[.ref a],[]⟩ [.ref a] [.ref a] _ _ hr e0 (hbind s₁ (.ref a)) (.cons rfl .nil) (hsp H hO hS)) λ r s' h=>?_
  cases r with
  | error e=>exact (hCX H e s' h).elim
  | ok fl=>
   cases fl with
   | next=>exact ve2 h
   | brk=>exact ve2 h
   | cont=>exact ve2 h
   | ret u=>
    obtain ⟨v,H',os,bare,un,hok',r',q⟩:=h
    have q':v=.bl true:=q
    subst q'
    obtain rfl:u=Value.bool true:=r'
    refine ⟨rfl,OldK.of_keep λ b o e=>?_,os,bare⟩
    cases q:H b with
    | none=>exact un.keep b o e q (by intro z;exact absurd (show b∈([]:List Addr) from z) (by simp)) (by simp)
    | some u=>
     rcases hO b with z | ⟨ob,xs,z⟩
     ·rw [q] at z;cases z
     ·have z2:=un.frzs b ob _ z
      obtain ⟨e1,_⟩:=hok b _ z
      obtain ⟨e2,_⟩:=hok' b _ z2
      rw [e] at e1;cases e1
      exact e2
 cases hk:K.lookup a with
 | some o=>
  have e:=KX a o hk
  rw [ha] at e
  cases e
  refine core (λ _=>none) (λ _=>.inl rfl) (.inr ⟨_,vs.toArray,_,hk,rfl,rfl,rfl,by rw [jb4,lenV];exact hl,by simpa using rv⟩) (λ b u z=>by have z':(none:Option HO)=some u:=z;cases z') (λ b z=>absurd rfl z) λ z=>absurd rfl z
 | none=>
  refine core (λ b=>if b=a then some (.frz { cls:=.type "list",data:=.seq vs.toArray } (.lst (ns.map V.int))) else none) (λ b=>?_) (.inl (.inr ⟨{ cls:=.type "list",data:=.seq vs.toArray },if_pos rfl⟩)) (λ b u z=>?_) (λ b z=>?_) λ _=>hk
  ·by_cases hb:b=a
   ·exact .inr ⟨_,_,if_pos hb⟩
   ·exact .inl (if_neg hb)
  ·by_cases hb:b=a
   ·have z':=(if_pos hb).symm.trans z
    cases z'
    subst hb
    exact ⟨ha,by rw [ja6];exact hl,vs,_,rv,ha⟩
   ·have z':=(if_neg hb).symm.trans z
    cases z'
  ·by_cases hb:b=a
   ·exact hb
   ·exact absurd (if_neg hb) z
structure Fun (K:va4) (x qual:Str) (st:Stmt) (f:Addr) (fd:vc3):Prop where
 ex:∃ (oc:va0) (od:Option Addr) (kV doc pm:va0) (an:Option Addr) (cdv ct:va0) (osl:Array (Option va0)),
  fd=vf6 x qual (zyu st) (zqf st) (zqb st) .none kV doc pm an cdv ct/\K.lookup f=some ⟨oc,od,.func fd,osl⟩/\vl5 K cdv qual=true
 kp:vd7 K (.ref f)=true
section
variable {P:va8}{w:vb6}{K:va4}{mg:Str->Option va0}{base:Heap}
theorem Fun.binds {x qual:Str}{st:Stmt}{f:Addr}{fd:vc3}{ps:List Str} (F:Fun K x qual st f fd)
  (h:∀ (kV doc pm:va0) (an:Option Addr) (cdv ct:va0) (us:List va0),us.length=ps.length->bindArgs (vf6 x qual (zyu st) (zqf st) (zqb st) .none kV doc pm an cdv ct) ⟨us,[]⟩=pure (ps.zip us)):zfe K fd ps []:=by
 obtain ⟨oc,od,kV,doc,pm,an,cdv,ct,osl,rfl,lk,hcd⟩:=F.ex
 exact .all (h kV doc pm an cdv ct)
theorem qle {x qual:Str}{st:Stmt}{f:Addr}{oc:va0}{od an:Option Addr}{osl:Array (Option va0)}{kV doc pm cdv ct:va0} (l:K.lookup f=some ⟨oc,od,.func (vf6 x qual (zyu st) (zqf st) (zqb st) .none kV doc pm an cdv ct),osl⟩)
  (c:vl5 K cdv qual=true) (k:vd7 K (.ref f)=true):Fun K x qual st f (vf6 x qual (zyu st) (zqf st) (zqb st) .none kV doc pm an cdv ct):=⟨⟨oc,od,kV,doc,pm,an,cdv,ct,osl,rfl,l,c⟩,k⟩
end
section
variable {X:Cx}
end
section
variable {κ:Type} [DecidableEq κ]
def valV (kvs:List (κ×V)) (k:κ):Option V:=(kvs.find? λ kv=>decide (kv.1=k)).map (·.2)
def putK (kvs:List (κ×V)) (k:κ) (v:V):List (κ×V):=
 if (kvs.any λ kv=>decide (kv.1=k))=true then kvs.map (λ kv=>if kv.1=k then (kv.1,v) else kv) else kvs++[(k,v)]
theorem zba {p:κ×V}{r:List (κ×V)}{k:κ} (e:p.1=k):valV (p::r) k=some p.2:=by simp [valV,jg1,e]
theorem zbb {p:κ×V}{r:List (κ×V)}{k:κ} (e:¬ p.1=k):valV (p::r) k=valV r k:=by simp [valV,jg1,e]
theorem zfy (k:κ):∀ kvs:List (κ×V),(kvs.any λ kv=>decide (kv.1=k))=(valV kvs k).isSome
 | []=>rfl
 | p::r=>by
  rw [jj9]
  by_cases e:p.1=k
  ·simp only [zba e,decide_eq_true e,Bool.true_or,jl9]
  ·rw [zbb e,decide_eq_false e,jm0];exact zfy k r
theorem zyn (kvs:List (κ×V)) (k:κ) (v:V):(putK kvs k v).length<=kvs.length + 1:=by
 unfold putK
 split
 ·rw [ja6];omega
 ·rw [jb3,jb8,jk6];omega
theorem RelO.isSome_eq {o:Option V}{u:Option va0} (r:RelO o u):o.isSome=u.isSome:=by
 cases o with
 | none=>cases u with
  | none=>rfl
  | some _=>exact (show False from r).elim
 | some _=>cases u with
  | none=>exact (show False from r).elim
  | some _=>rfl
theorem KV.val {kvs:List (κ×V)}{vs:List (κ×va0)} (r:KV kvs vs) (k:κ):RelO (valV kvs k) (valueAt vs k):=by
 unfold KV at r
 induction r with
 | nil=>exact True.intro
 | @cons p q ps qs h t ih=>
  obtain ⟨h1,h2⟩:=h
  by_cases e:p.1=k
  ·have e':q.1=k:=h1.symm.trans e
   have b:valueAt (q::qs) k=some q.2:=by simp [valueAt,jg1,e']
   rw [zba e,b];exact h2
  ·have e':¬ q.1=k:=λ z=>e (h1.trans z)
   have b:valueAt (q::qs) k=valueAt qs k:=by simp [valueAt,jg1,e']
   rw [zbb e,b];exact ih
theorem KV.any {kvs:List (κ×V)}{vs:List (κ×va0)} (r:KV kvs vs) (k:κ):(kvs.any λ kv=>decide (kv.1=k))=vs.any λ kv=>decide (kv.1=k):=by
 unfold KV at r
 induction r with
 | nil=>rfl
 | cons h t ih=>rw [jj9,jj9,ih,h.1]
theorem KV.repl {kvs:List (κ×V)}{vs:List (κ×va0)} (r:KV kvs vs) (k:κ) {y:V}{u:va0} (ry:RelV y u):
  KV (kvs.map λ kv=>if kv.1=k then (kv.1,y) else kv) (vs.map λ kv=>if kv.1=k then (kv.1,u) else kv):=by
 unfold KV at r ⊢
 induction r with
 | nil=>exact .nil
 | @cons p q ps qs h t ih=>
  rw [jc1,jc1]
  refine .cons ?_ ih
  obtain ⟨h1,h2⟩:=h
  by_cases e:p.1=k
  ·rw [if_pos e,if_pos (h1.symm.trans e)];exact ⟨h1,ry⟩
  ·rw [if_neg e,if_neg (λ z=>e (h1.trans z))];exact ⟨h1,h2⟩
theorem KV.put {kvs:List (κ×V)}{vs:List (κ×va0)} (r:KV kvs vs) (k:κ) {y:V}{u:va0} (ry:RelV y u):KV (putK kvs k y) (stored vs k u):=by
 unfold putK stored
 rw [r.any k]
 by_cases e:(vs.any λ kv=>decide (kv.1=k))=true
 ·rw [if_pos e,if_pos e];exact r.repl k ry
 ·rw [if_neg e,if_neg e];exact Paired.snoc r ⟨rfl,ry⟩
theorem KV.length {kvs:List (κ×V)}{vs:List (κ×va0)} (r:KV kvs vs):kvs.length=vs.length:=Paired.length r
end
theorem qeh {P:va8}{w:vb6}{k:Key}{u:va0} (r:RelV (kV k) u):(zxe P w).is k u=true:=by
 cases k with
 | inl i=>obtain ⟨t,e⟩:=(show ∃ t,u=Value.int i t from r);subst e;exact zfl P w i t
 | inr x=>obtain ⟨t,e⟩:=(show ∃ t,u=Value.str x t from r);subst e;exact zfk P w x t
theorem zmk {P:va8}{w:vb6}:∀ {ks:List Key}{us:List va0},Vals (ks.map kV) us->ItemsAre (zxe P w) ks us
 | [],_,r=>by rw [jg0] at r;cases r;exact .nil
 | k::ks,_,r=>by
  rw [jc1] at r
  cases r with
  | cons h t=>exact .cons (qeh h) (zmk t)
abbrev KT (H:Hp):List (List Key×V)->List (List Key×Addr×va0)->Prop:=Paired λ p q=>p.1=q.1/\H q.2.1=some (.tup (p.1.map kV))/\RelV p.2 q.2.2
theorem KT.val {H:Hp}{kvs:List (List Key×V)}{xs:List (List Key×Addr×va0)} (r:KT H kvs xs) (k:List Key):RelO (valV kvs k) ((atKey xs k).map (·.2)):=by
 induction r with
 | nil=>exact True.intro
 | @cons p q ps qs h t ih=>
  obtain ⟨h1,_,h2⟩:=h
  by_cases e:p.1=k
  ·have e':q.1=k:=h1.symm.trans e
   have b:atKey (q::qs) k=some q.2:=by simp [atKey,jg1,e']
   rw [zba e,b];exact h2
  ·have e':¬ q.1=k:=λ z=>e (h1.trans z)
   have b:atKey (q::qs) k=atKey qs k:=by simp [atKey,jg1,e']
   rw [zbb e,b];exact ih
theorem KT.repl {H:Hp}{kvs:List (List Key×V)}{xs:List (List Key×Addr×va0)} (r:KT H kvs xs) (k:List Key) {y:V}{u:va0} (ry:RelV y u):
  KT H (kvs.map λ kv=>if kv.1=k then (kv.1,y) else kv) (xs.map (putAt k u)):=by
 induction r with
 | nil=>exact .nil
 | @cons p q ps qs h t ih=>
  rw [jc1,jc1]
  refine .cons ?_ ih
  obtain ⟨h1,h2,h3⟩:=h
  unfold putAt
  by_cases e:p.1=k
  ·rw [if_pos e,if_pos (h1.symm.trans e)];exact ⟨h1,h2,ry⟩
  ·rw [if_neg e,if_neg (λ z=>e (h1.trans z))];exact ⟨h1,h2,h3⟩
theorem KT.put {H:Hp}{kvs:List (List Key×V)}{xs:List (List Key×Addr×va0)} (r:KT H kvs xs) (k:List Key) {b:Addr}{y:V}{u:va0} (hb:H b=some (.tup (k.map kV))) (ry:RelV y u):
  KT H (putK kvs k y) (storedH xs k b u):=by
 have e:(kvs.any λ kv=>decide (kv.1=k))=(atKey xs k).isSome:=by
  rw [zfy,(r.val k).isSome_eq,jj5]
 unfold putK storedH
 rw [e]
 by_cases q:(atKey xs k).isSome=true
 ·rw [if_pos q,if_pos q];exact r.repl k ry
 ·rw [if_neg q,if_neg q];exact Paired.snoc r ⟨rfl,hb,ry⟩
theorem KT.keeps {H H':Hp}{kvs:List (List Key×V)}{xs:List (List Key×Addr×va0)} (r:KT H kvs xs) (ht:∀ b ys,H b=some (.tup ys)->H' b=some (.tup ys)):KT H' kvs xs:=
 Paired.mapP r λ _ _ z=>⟨z.1,ht _ _ z.2.1,z.2.2⟩
section
variable {P:va8}{w:vb6}{H:Hp}{h:Heap}{a:Addr}
theorem qj5 {u:HO} (ok:HOk P w H h) (e:Rd H a u):zxw P w H h a u:=e.ok ok
theorem qh6 {kvs:List (Key×V)} (ok:HOk P w H h) (e:Rd H a (.dK kvs)):kvs.length<=va2/\(a == vd4)=false/\∃ vs,KV kvs vs/\h.DictOf (zxe P w) a vs:=
 show zxw P w H h a (.dK kvs) from qj5 ok e
theorem qap {kvs:List (Key×V)} (ok:HOk P w H h) (e:H a=some (.dK kvs)):kvs.length<=va2/\(a == vd4)=false/\∃ vs,KV kvs vs/\h.DictOf (zxe P w) a vs:=qh6 ok (.inl e)
theorem zgz {ks:List Key} (ok:HOk P w H h) (e:H a=some (.tup (ks.map kV))):(vk0 (zxe P w)).is h ks a:=by
 obtain ⟨_,its,r,o,h1,h2,n,h3⟩:=(show zxw P w H h a (.tup (ks.map kV)) from ok a _ e)
 exact ⟨o,its.toArray,n,h1,h2,h3,by simpa using zmk r⟩
theorem qh5 {kvs:List (List Key×V)} (ok:HOk P w H h) (e:Rd H a (.dT kvs)):kvs.length<=va2/\(a == vd4)=false /\
  ∃ xs,KT H kvs xs/\h.DictOfH (vk0 (zxe P w)) a xs:=by
 obtain ⟨z,y,xs,r,o,es,ep,h1,h2,h3,h4,h5⟩:=(show zxw P w H h a (.dT kvs) from qj5 ok e)
 refine ⟨z,y,xs,r,o,es,ep,h1,h2,h3,h4,λ x hx=>?_,h5⟩
 have all:∀ {l:List (List Key×V)}{m:List (List Key×Addr×va0)},KT H l m->∀ x∈m,(vk0 (zxe P w)).is h x.1 x.2.1:=by
  intro l m q
  induction q with
  | nil=>intro x hx;exact nomatch hx
  | @cons p q ps qs hq t ih=>
   intro x hx
   rcases jb2.mp hx with e | hx
   ·subst e
    exact zgz ok (by rw [<- hq.1];exact hq.2.1)
   ·exact ih x hx
 exact all r x hx
theorem qmu {kvs:List (List Key×V)} (ok:HOk P w H h) (e:H a=some (.dT kvs)):kvs.length<=va2/\(a == vd4)=false /\
  ∃ xs,KT H kvs xs/\h.DictOfH (vk0 (zxe P w)) a xs:=qh5 ok (.inl e)
end
def DGet (H:Hp) (a:Addr) (y:V) (r:Option V):Prop:=
 (∃ kvs k,Rd H a (.dK kvs)/\y=kV k/\r=valV kvs k)\/∃ kvs k b,Rd H a (.dT kvs)/\y=.ref b/\H b=some (.tup (k.map kV))/\r=valV kvs k
def DPut (H:Hp) (a:Addr) (y v:V) (H':Hp):Prop:=
 (∃ kvs k,H a=some (.dK kvs)/\y=kV k/\kvs.length < va2/\H'=upd H a (.dK (putK kvs k v))) \/
 ∃ kvs k b,H a=some (.dT kvs)/\y=.ref b/\H b=some (.tup (k.map kV))/\kvs.length < va2/\H'=upd H a (.dT (putK kvs k v))
theorem DGet.t {H:Hp}{a b:Addr}{kvs:List (List Key×V)}{k:List Key} (e:H a=some (.dT kvs)) (eb:H b=some (.tup (k.map kV))):DGet H a (.ref b) (valV kvs k):=.inr ⟨kvs,k,b,.inl e,rfl,eb,rfl⟩
theorem DPut.t {H:Hp}{a b:Addr}{kvs:List (List Key×V)}{k:List Key}{v:V} (e:H a=some (.dT kvs)) (eb:H b=some (.tup (k.map kV))) (hl:kvs.length < va2):
  DPut H a (.ref b) v (upd H a (.dT (putK kvs k v))):=.inr ⟨kvs,k,b,e,rfl,eb,hl,rfl⟩
section
variable {X:Cx}{pins:List (Addr×Obj)}{σ:St}{H:Hp}{s:va1}{a:Addr}{y v:V}{u r:va0}{o:Option V}{A:vb8}{E:va0->va1->Prop}
theorem Inv.big (I:Inv X pins σ H s):vd4 < s.heap.objs.size:=by
 have h:vb9 < s.heap.objs.size:=(I.mod.glob.keeps I.bk).lt
 exact jk7 (by decide) h
theorem d_in {Q:va0->va1->Prop} (hu:A.units + 1 < ve8) (I:Inv X pins σ H s) (g:DGet H a y o) (ry:RelV y u) (h:∀ s',Inv X pins σ H s'->Q (.bool o.isSome) s'):
  vb2 (vb1 X.prog X.w) A (vb4 .In u (.ref a)) Q E s:=by
 rcases g with ⟨kvs,k,e,ey,l⟩ | ⟨kvs,k,b,e,ey,eb,l⟩
 ·subst ey
  obtain ⟨z,hd,vs,rel,dd⟩:=qh6 I.hok e
  refine wpAny_in_of (qeh ry) hd dd.mapOf ?_
  rw [<- (rel.val k).isSome_eq,<- l]
  exact h _ (I.tok _)
 ·subst ey
  cases (show u=Value.ref b from ry)
  obtain ⟨z,hd,xs,rel,dd⟩:=qh5 I.hok e
  refine wpAny_in_heap (vi0 hu) (zgz I.hok eb) hd dd ?_
  have q:=(rel.val k).isSome_eq
  rw [jj5] at q
  rw [<- q,<- l]
  exact h _ (I.tok _)
theorem qic {Q:va0->va1->Prop} (hu:A.units + 1 < ve8) (I:Inv X pins σ H s) (g:DGet H a y o) (ry:RelV y u) (h:∀ s',Inv X pins σ H s'->Q (.bool (!o.isSome)) s'):
  vb2 (vb1 X.prog X.w) A (vb4 .NotIn u (.ref a)) Q E s:=by
 rcases g with ⟨kvs,k,e,ey,l⟩ | ⟨kvs,k,b,e,ey,eb,l⟩
 ·subst ey
  obtain ⟨z,hd,vs,rel,dd⟩:=qh6 I.hok e
  refine wpAny_notIn_of (qeh ry) hd dd.mapOf ?_
  rw [<- (rel.val k).isSome_eq,<- l]
  exact h _ (I.tok _)
 ·subst ey
  cases (show u=Value.ref b from ry)
  obtain ⟨z,hd,xs,rel,dd⟩:=qh5 I.hok e
  refine wpAny_notIn_heap (vi0 hu) (zgz I.hok eb) hd dd ?_
  have q:=(rel.val k).isSome_eq
  rw [jj5] at q
  rw [<- q,<- l]
  exact h _ (I.tok _)
theorem qct {h':Heap}{t':Nat}{ob:HO} (I:Inv X pins σ H s) (mu:Mut (H a)) (hs:vj6 a s.heap h') (he:∃ q,h'.get? a=some q) (new:zxw X.prog X.w (upd H a ob) h' a ob):
  Inv X pins σ (upd H a ob) { s with heap:=h',toks:=t' }:=
 I.write (x:=a) (e:=a) mu (.inl rfl) (λ b q hb z=>(hs.2 b hb).trans z) he new
theorem qlj {P:va8}{w:vb6}{H':Hp}{h':Heap}{kvs:List (Key×V)}{vs:List (Key×va0)} (z:kvs.length<=va2) (hd:(a == vd4)=false) (rel:KV kvs vs) (dd:h'.DictOf (zxe P w) a vs):
  zxw P w H' h' a (.dK kvs):=⟨z,hd,vs,rel,dd⟩
theorem qcu {H':Hp}{Q:Unit->va1->Prop} (hu:A.units + 1 < ve8) (I:Inv X pins σ H s) (g:DPut H a y v H') (ry:RelV y u) (rv:RelV v r) (h:∀ s',Inv X pins σ H' s'->Q () s'):
  vb2 (vb1 X.prog X.w) A (setItem (.ref a) u r) Q E s:=by
 rcases g with ⟨kvs,k,e,ey,l,eH⟩ | ⟨kvs,k,b,e,ey,eb,l,eH⟩
 ·subst ey eH
  obtain ⟨z,hd,vs,rel,dd⟩:=qap I.hok e
  have hz:vs.length<=va2:=by rw [<- rel.length];exact z
  have hl:(putK kvs k v).length<=va2:=by have:=zyn kvs k v;omega
  refine wpAny_setItem_pairs (hsz:=hz) (qeh ry) dd λ h' dd' hs=>h _ ?_
  have he:∃ q,h'.get? a=some q:=let ⟨q,_,_,hq,_⟩:=dd';⟨q,hq⟩
  exact qct I (by rw [e];exact True.intro) hs he (qlj hl hd (rel.put k rv) dd')
 ·subst ey eH
  cases (show u=Value.ref b from ry)
  obtain ⟨z,hd,xs,rel,dd⟩:=qmu I.hok e
  have hz:xs.length<=va2:=by rw [<- Paired.length rel];exact z
  have hl:(putK kvs k v).length<=va2:=by have:=zyn kvs k v;omega
  refine wpAny_setItem_heap (hsz:=hz) (vi0 hu) (zgz I.hok eb) dd λ h' dd' hs=>h _ ?_
  obtain ⟨q,es,ep,hq,h2,h3,h4,_,h5⟩:=dd'
  refine qct I (by rw [e];exact True.intro) hs ⟨q,hq⟩ ⟨hl,hd,_,(rel.put k eb rv).keeps λ c ys ec=>?_,q,es,ep,hq,h2,h3,h4,h5⟩
  rw [zqg (qmj ec e (λ z=>nomatch z))]
  exact ec
end
section
variable {X:Cx}{pins:List (Addr×Obj)}{σ:St}{H:Hp}{s:va1}{a:Addr}{kvs:List (Key×V)}{k:Key}{u:va0}{A:vb8}{E:va0->va1->Prop}
end
section
variable {X:Cx}{o i e value:Expr}{pos pos' tpos:Pos}{td ty tv:TE}
end
theorem qer {P:va8}{w:vb6}{H:Hp} (h:Heap) (hb:vd4 < h.objs.size):zxw P w H (h.push { cls:=.type "dict",data:=.dict #[] }) h.objs.size (.dT []):=
 ⟨jg2 _,beq_eq_false_iff_ne.mpr (vc2 (jc9 hb)),[],.nil,_,#[],0,vb0 _ rfl,⟨rfl,rfl,rfl⟩,rfl,rfl,List.nodup_nil⟩
def qjl:TE:=λ _ H Q=>∀ p,H p=none->Q (.ref p) (upd H p (.dT []))
section
variable {X:Cx}{pos:Pos}
theorem qd6:PE X (.Dict [] [] pos) qjl:=λ pins s σ H Q I h=>
 wpAny_Dict_empty ⟨.ref s.heap.objs.size,_,I.laid (a:=s.heap.objs.size) (o:=.dT []) (t':=s.toks) (λ _ _ q=>va5 _ q) (jb7 _) (qer s.heap I.big),rfl,h _ (I.hok.fresh (jb7 _))⟩
end
end L2
namespace QQ
open PySem PySem.Spec PyProof.Rows L2
abbrev St:=L2.St
def KL (K:Frag) (a:Addr) (xs:List V):Prop:=∃ (o:Obj) (its:Array va0) (n:Nat),K.lookup a=some o/\o.cls=.type "list" /\ o.dict=none/\o.data=.seq its n/\its.size<=va2/\Vals xs its.toList
theorem qav {K:Frag}{H:Hp}{a:Addr}{xs:List V} (h:SqL K H a xs):tyV K "list" (.ref a) H:=.inl ⟨rfl,xs,h⟩
def ItS (z:Str):It:=⟨λ i _=>i < z.cps.size,λ i H v H'=>H'=H/\∃ c,z.cps[i]?=some c/\v=.str ⟨#[c]⟩,λ i _=>z.cps.size<=i⟩
def zht (z:Str):Bool:=z.cps.all (·< 128)
def iSeq (K:Frag) (tl:TE):TI:=λ σ H R=>tl σ H λ x H1=>(∃ a,x=.ref a/\(((∃ xs,SqL K H1 a xs)/\R (Itl K a) H1)\/((∃ xs,SqT K H1 a xs)/\R (Itt K a) H1)))\/∃ z,x=.str z/\zht z=true/\R (ItS z) H1
def qaa (k:Nat) (wi:TI) (g:TG) (tc:TT) (te:TE):TE:=λ σ H Q=>wi σ H λ J H1=>∀ D,H1 D=none->∃ W:Nat->Nat->List V->Hp->Prop,(∃ m,W 0 m [] (upd H1 D (.lst [])))/\∀ i m ys H,W i m ys H->H D=some (.lst ys) /\
 ((J.stop i H/\Q (.ref D) H)\/(J.go i H/\∀ x H',J.yld i H x H'->g x (σ++ja9 k none) H' λ σ2 H2=>tc σ2 H2 λ b H3=>if b=true then te σ2 H3 λ y H4=>H4 D=some (.lst ys)/\ys.length < va2/\∃ m',m' < m/\W (i + 1) m' (ys++[y]) (upd H4 D (.lst (ys++[y]))) else ∃ m',m' < m/\W (i + 1) m' ys H3))
inductive MO where
 | l (xs:List V) | d (kvs:List (List Key×V))
def MO.ho:MO->HO
 | .l xs=>.lst xs
 | .d kvs=>.dT kvs
def qdi (a C:Addr) (h:Heap):Prop:=∃ o vs,h.get? a=some o/\o.cls=.ref C/\o.data=.fields vs
def om:Nat:=1000
def pd (d:Nat):Nat:=if d=om then om else d - 1
theorem zkn:pd om=om:=rfl
theorem qhl:pd 0=0:=rfl
mutual
def Own (K:Frag) (H:Hp) (Z:Addr->Prop):PV->Nat->V->List Addr->Prop
 | .non,_,v,fp=>v=.non/\fp=[]
 | .bl b,_,v,fp=>v=.bl b/\fp=[]
 | .int i,_,v,fp=>v=.int i/\fp=[]
 | .str x,_,v,fp=>v=.str x/\fp=[]
 | .emp,_,v,fp=>fp=[]/\∃ a,v=.ref a/\H a=some (.dK [])
 | .dko,_,v,fp=>fp=[]/\∃ a,v=.ref a/\∃ kvs,H a=some (.dK kvs)
 | .scr ns,_,v,fp=>fp=[]/\∃ a,v=.ref a/\((∃ o,H a=some (.frz o (.lst (ns.map V.int))))\/KL K a (ns.map V.int))
 | .exn c,_,v,fp=>fp=[]/\∃ a C,v=.ref a/\zwg K c=some C/\H a=some (.ext (qdi a C))
 | .dct kvs,d,v,fp=>∃ a,v=.ref a/\((d=0/\(H a=some (.dT kvs)/\¬ Z a)/\fp=[])\/(d≠0/\H a=some (.dT kvs)/\fp=[a]))
 | .lst xs,d,v,fp=>∃ a vs,v=.ref a/\((d=0/\(H a=some (.lst vs)/\¬ Z a)/\fp=[]/\OwnL K H Z xs 0 vs [])\/(d≠0/\∃ f,H a=some (.lst vs)/\fp=a::f/\a∉f/\OwnL K H Z xs (pd d) vs f))
 | .tup xs,d,v,fp=>∃ a vs,v=.ref a/\H a=some (.tup vs)/\OwnL K H Z xs (pd d) vs fp
def OwnL (K:Frag) (H:Hp) (Z:Addr->Prop):List PV->Nat->List V->List Addr->Prop
 | [],_,vs,fp=>vs=[]/\fp=[]
 | x::xs,d,vs,fp=>∃ v r f1 f2,vs=v::r/\fp=f1++f2/\(∀ a∈f1,a∉f2)/\Own K H Z x d v f1/\OwnL K H Z xs d r f2
end
def Keep (S:Addr->Prop) (H H':Hp):Prop:=∀ a o,H a=some o->¬ S a->H' a=some o
section
variable {K:Frag}{H H':Hp}{Z Z' S:Addr->Prop}
mutual
theorem Own.lsts:∀ (x:PV) (d:Nat) (v:V) (fp:List Addr),Own K H Z x d v fp->∀ a∈fp,∃ o:MO,H a=some o.ho
 | .non,_,_,_,h,a,ha=>by rw [Own] at h;rw [h.2] at ha;cases ha
 | .bl _,_,_,_,h,a,ha=>by rw [Own] at h;rw [h.2] at ha;cases ha
 | .int _,_,_,_,h,a,ha=>by rw [Own] at h;rw [h.2] at ha;cases ha
 | .str _,_,_,_,h,a,ha=>by rw [Own] at h;rw [h.2] at ha;cases ha
 | .emp,_,_,_,h,a,ha=>by rw [Own] at h;rw [h.1] at ha;cases ha
 | .dko,_,_,_,h,a,ha=>by rw [Own] at h;rw [h.1] at ha;cases ha
 | .scr _,_,_,_,h,a,ha=>by rw [Own] at h;rw [h.1] at ha;cases ha
 | .exn _,_,_,_,h,a,ha=>by rw [Own] at h;rw [h.1] at ha;cases ha
 | .dct kvs,d,v,fp,h,a,ha=>by
  rw [Own] at h
  obtain ⟨b,_,⟨_,_,e⟩ | ⟨_,hb,e⟩⟩:=h
  ·rw [e] at ha;cases ha
  ·rw [e] at ha
   rw [jb6.mp ha]
   exact ⟨.d kvs,hb⟩
 | .lst xs,d,v,fp,h,a,ha=>by
  rw [Own] at h
  obtain ⟨b,vs,_,⟨_,_,e,_⟩ | ⟨_,f,hb,e,_,hl⟩⟩:=h
  ·rw [e] at ha;cases ha
  ·rw [e] at ha
   rcases jb2.mp ha with z | z
   ·exact ⟨.l vs,by rw [z];exact hb⟩
   ·exact OwnL.lsts xs _ vs f hl a z
 | .tup xs,d,v,fp,h,a,ha=>by
  rw [Own] at h
  obtain ⟨b,vs,_,_,hl⟩:=h
  exact OwnL.lsts xs _ vs fp hl a ha
theorem OwnL.lsts:∀ (xs:List PV) (d:Nat) (vs:List V) (fp:List Addr),OwnL K H Z xs d vs fp->∀ a∈fp,∃ o:MO,H a=some o.ho
 | [],_,_,_,h,a,ha=>by rw [OwnL] at h;rw [h.2] at ha;cases ha
 | x::xs,d,vs,fp,h,a,ha=>by
  rw [OwnL] at h
  obtain ⟨v,r,f1,f2,_,e,_,h1,h2⟩:=h
  rw [e] at ha
  rcases jc0.mp ha with z | z
  ·exact Own.lsts x d v f1 h1 a z
  ·exact OwnL.lsts xs d r f2 h2 a z
end
mutual
theorem Own.move (k:Keep S H H') (hS:∀ a,S a->Z a/\∃ o:MO,H a=some o.ho) (hz:∀ a,H a≠none->¬ Z a->¬ Z' a):
  ∀ (x:PV) (d:Nat) (v:V) (fp:List Addr),(∀ a∈fp,¬ S a)->Own K H Z x d v fp->Own K H' Z' x d v fp
 | .non,_,_,_,_,h=>by rw [Own] at h ⊢;exact h
 | .bl _,_,_,_,_,h=>by rw [Own] at h ⊢;exact h
 | .int _,_,_,_,_,h=>by rw [Own] at h ⊢;exact h
 | .str _,_,_,_,_,h=>by rw [Own] at h ⊢;exact h
 | .emp,_,_,_,_,h=>by
  rw [Own] at h ⊢
  obtain ⟨e,a,ev,ha⟩:=h
  exact ⟨e,a,ev,k a _ ha λ s=>by obtain ⟨_,o,e⟩:=hS a s;rw [ha] at e;cases o <;> cases e⟩
 | .dko,_,_,_,_,h=>by
  rw [Own] at h ⊢
  obtain ⟨e,a,ev,kvs,ha⟩:=h
  exact ⟨e,a,ev,kvs,k a _ ha λ s=>by obtain ⟨_,o,e⟩:=hS a s;rw [ha] at e;cases o <;> cases e⟩
 | .scr ns,_,_,_,_,h=>by
  rw [Own] at h ⊢
  obtain ⟨e,a,ev,⟨o,ha⟩ | ha⟩:=h
  ·exact ⟨e,a,ev,.inl ⟨o,k a _ ha λ s=>by obtain ⟨_,q,e⟩:=hS a s;rw [ha] at e;cases q <;> cases e⟩⟩
  ·exact ⟨e,a,ev,.inr ha⟩
 | .exn c,_,_,_,_,h=>by
  rw [Own] at h ⊢
  obtain ⟨e,a,C,ev,hc,ha⟩:=h
  exact ⟨e,a,C,ev,hc,k a _ ha λ s=>by obtain ⟨_,q,e⟩:=hS a s;rw [ha] at e;cases q <;> cases e⟩
 | .dct kvs,d,v,fp,hf,h=>by
  rw [Own] at h ⊢
  obtain ⟨b,ev,⟨d0,hr,e⟩ | ⟨d0,hb,e⟩⟩:=h
  ·exact ⟨b,ev,.inl ⟨d0,⟨k b _ hr.1 λ s=>hr.2 (hS b s).1,hz b (by rw [hr.1];simp) hr.2⟩,e⟩⟩
  ·exact ⟨b,ev,.inr ⟨d0,k b _ hb (hf b (by rw [e];exact ja1)),e⟩⟩
 | .lst xs,d,v,fp,hf,h=>by
  rw [Own] at h ⊢
  obtain ⟨b,vs,ev,⟨d0,hr,e,hl⟩ | ⟨d0,f,hb,e,nb,hl⟩⟩:=h
  ·refine ⟨b,vs,ev,.inl ⟨d0,?_,e,OwnL.move k hS hz xs 0 vs [] (λ _ z=>nomatch z) hl⟩⟩
   exact ⟨k b _ hr.1 λ s=>hr.2 (hS b s).1,hz b (by rw [hr.1];simp) hr.2⟩
  ·refine ⟨b,vs,ev,.inr ⟨d0,f,k b _ hb (hf b (by rw [e];exact ja1)),e,nb,?_⟩⟩
   exact OwnL.move k hS hz xs _ vs f (λ a ha=>hf a (by rw [e];exact ja0 _ ha)) hl
 | .tup xs,d,v,fp,hf,h=>by
  rw [Own] at h ⊢
  obtain ⟨b,vs,ev,hr,hl⟩:=h
  exact ⟨b,vs,ev,k b _ hr (λ s=>by obtain ⟨_,o,e⟩:=hS b s;rw [hr] at e;cases o <;> cases e),OwnL.move k hS hz xs _ vs fp hf hl⟩
theorem OwnL.move (k:Keep S H H') (hS:∀ a,S a->Z a/\∃ o:MO,H a=some o.ho) (hz:∀ a,H a≠none->¬ Z a->¬ Z' a):
  ∀ (xs:List PV) (d:Nat) (vs:List V) (fp:List Addr),(∀ a∈fp,¬ S a)->OwnL K H Z xs d vs fp->OwnL K H' Z' xs d vs fp
 | [],_,_,_,_,h=>by rw [OwnL] at h ⊢;exact h
 | x::xs,d,vs,fp,hf,h=>by
  rw [OwnL] at h ⊢
  obtain ⟨v,r,f1,f2,e1,e,dj,h1,h2⟩:=h
  exact ⟨v,r,f1,f2,e1,e,dj,Own.move k hS hz x d v f1 (λ a ha=>hf a (by rw [e];exact ja4 _ ha)) h1,OwnL.move k hS hz xs d r f2 (λ a ha=>hf a (by rw [e];exact ja2 _ ha)) h2⟩
end
mutual
theorem Own.freeze (hz:∀ a,Z' a->Z a):∀ (x:PV) (d:Nat) (v:V) (fp:List Addr),(∀ a∈fp,¬ Z' a)->Own K H Z x d v fp->Own K H Z' x 0 v []
 | .non,_,_,_,_,h=>by rw [Own] at h ⊢;exact ⟨h.1,rfl⟩
 | .bl _,_,_,_,_,h=>by rw [Own] at h ⊢;exact ⟨h.1,rfl⟩
 | .int _,_,_,_,_,h=>by rw [Own] at h ⊢;exact ⟨h.1,rfl⟩
 | .str _,_,_,_,_,h=>by rw [Own] at h ⊢;exact ⟨h.1,rfl⟩
 | .emp,_,_,_,_,h=>by rw [Own] at h ⊢;exact ⟨rfl,h.2⟩
 | .dko,_,_,_,_,h=>by rw [Own] at h ⊢;exact ⟨rfl,h.2⟩
 | .scr _,_,_,_,_,h=>by rw [Own] at h ⊢;exact ⟨rfl,h.2⟩
 | .exn _,_,_,_,_,h=>by rw [Own] at h ⊢;exact ⟨rfl,h.2⟩
 | .dct kvs,d,v,fp,hf,h=>by
  rw [Own] at h ⊢
  obtain ⟨b,ev,⟨d0,hr,e⟩ | ⟨d0,hb,e⟩⟩:=h
  ·exact ⟨b,ev,.inl ⟨rfl,⟨hr.1,λ z=>hr.2 (hz b z)⟩,rfl⟩⟩
  ·exact ⟨b,ev,.inl ⟨rfl,⟨hb,hf b (by rw [e];exact ja1)⟩,rfl⟩⟩
 | .lst xs,d,v,fp,hf,h=>by
  rw [Own] at h ⊢
  obtain ⟨b,vs,ev,⟨d0,hr,e,hl⟩ | ⟨d0,f,hb,e,nb,hl⟩⟩:=h
  ·refine ⟨b,vs,ev,.inl ⟨rfl,?_,rfl,OwnL.freeze hz xs 0 vs [] (λ _ z=>nomatch z) hl⟩⟩
   exact ⟨hr.1,λ z=>hr.2 (hz b z)⟩
  ·exact ⟨b,vs,ev,.inl ⟨rfl,⟨hb,hf b (by rw [e];exact ja1)⟩,rfl,OwnL.freeze hz xs _ vs f (λ a ha=>hf a (by rw [e];exact ja0 _ ha)) hl⟩⟩
 | .tup xs,d,v,fp,hf,h=>by
  rw [Own] at h ⊢
  obtain ⟨b,vs,ev,hr,hl⟩:=h
  exact ⟨b,vs,ev,hr,OwnL.freeze hz xs _ vs fp hf hl⟩
theorem OwnL.freeze (hz:∀ a,Z' a->Z a):∀ (xs:List PV) (d:Nat) (vs:List V) (fp:List Addr),(∀ a∈fp,¬ Z' a)->OwnL K H Z xs d vs fp->OwnL K H Z' xs 0 vs []
 | [],_,_,_,_,h=>by rw [OwnL] at h ⊢;exact ⟨h.1,rfl⟩
 | x::xs,d,vs,fp,hf,h=>by
  rw [OwnL] at h ⊢
  obtain ⟨v,r,f1,f2,e1,e,dj,h1,h2⟩:=h
  exact ⟨v,r,[],[],e1,rfl,λ _ z=>(nomatch z),Own.freeze hz x d v f1 (λ a ha=>hf a (by rw [e];exact ja4 _ ha)) h1,OwnL.freeze hz xs d r f2 (λ a ha=>hf a (by rw [e];exact ja2 _ ha)) h2⟩
end
mutual
theorem Own.full:∀ (x:PV) (v:V) (fp:List Addr),Own K H Z x om v fp->Own K H Z' x om v fp
 | .non,_,_,h=>by rw [Own] at h ⊢;exact h
 | .bl _,_,_,h=>by rw [Own] at h ⊢;exact h
 | .int _,_,_,h=>by rw [Own] at h ⊢;exact h
 | .str _,_,_,h=>by rw [Own] at h ⊢;exact h
 | .emp,_,_,h=>by rw [Own] at h ⊢;exact h
 | .dko,_,_,h=>by rw [Own] at h ⊢;exact h
 | .scr _,_,_,h=>by rw [Own] at h ⊢;exact h
 | .exn _,_,_,h=>by rw [Own] at h ⊢;exact h
 | .dct kvs,v,fp,h=>by
  rw [Own] at h ⊢
  obtain ⟨b,ev,⟨d0,_⟩ | ⟨d0,hb,e⟩⟩:=h
  ·exact absurd d0 (by decide)
  ·exact ⟨b,ev,.inr ⟨d0,hb,e⟩⟩
 | .lst xs,v,fp,h=>by
  rw [Own] at h ⊢
  obtain ⟨b,vs,ev,⟨d0,_⟩ | ⟨d0,f,hb,e,nb,hl⟩⟩:=h
  ·exact absurd d0 (by decide)
  ·exact ⟨b,vs,ev,.inr ⟨d0,f,hb,e,nb,OwnL.full xs vs f hl⟩⟩
 | .tup xs,v,fp,h=>by
  rw [Own] at h ⊢
  obtain ⟨b,vs,ev,hr,hl⟩:=h
  exact ⟨b,vs,ev,hr,OwnL.full xs vs fp hl⟩
theorem OwnL.full:∀ (xs:List PV) (vs:List V) (fp:List Addr),OwnL K H Z xs om vs fp->OwnL K H Z' xs om vs fp
 | [],_,_,h=>by rw [OwnL] at h ⊢;exact h
 | x::xs,vs,fp,h=>by
  rw [OwnL] at h ⊢
  obtain ⟨v,r,f1,f2,e1,e,dj,h1,h2⟩:=h
  exact ⟨v,r,f1,f2,e1,e,dj,Own.full x v f1 h1,OwnL.full xs r f2 h2⟩
end
theorem Own.weak (hz:∀ a,Z' a->Z a) {x:PV}{d:Nat}{v:V}{fp:List Addr} (h:Own K H Z x d v fp):Own K H Z' x d v fp:=
 Own.move (S:=λ _=>False) (λ _ _ h _=>h) (λ _ z=>z.elim) (λ a _ n z=>n (hz a z)) x d v fp (λ _ _ z=>z) h
theorem OwnL.weak (hz:∀ a,Z' a->Z a) {xs:List PV}{d:Nat}{vs:List V}{fp:List Addr} (h:OwnL K H Z xs d vs fp):OwnL K H Z' xs d vs fp:=
 OwnL.move (S:=λ _=>False) (λ _ _ h _=>h) (λ _ z=>z.elim) (λ a _ n z=>n (hz a z)) xs d vs fp (λ _ _ z=>z) h
end
abbrev Slot:=Option (PV×Nat)
abbrev Rho:=List Slot
inductive Rz (α:Type) where
 | ok (a:α) | exc (c:Nat) | no
def Rz.bind {α β:Type} (r:Rz α) (f:α->Rz β):Rz β:=match r with
 | .ok a=>f a
 | .exc c=>.exc c
 | .no=>.no
abbrev Fx:=Rho->Rz (PV×Nat×Rho)
abbrev Fa:=Rho->Rz (List (PV×Nat)×Rho)
abbrev Fb:=Rho->Rz (Bool×Rho)
structure Fm where
 K:Frag
 Ms:Nat->Bool
 Zo:Addr->Prop
 H₀:Hp
 W:St->Nat->Hp->Prop
 io:Option V
 al:Nat->List Nat
 pn:List (Nat×V):=[]
abbrev Fps:=Nat->List Addr
def Fm.Fre (M:Fm) (i:Nat):Prop:=(M.io≠none->i≠0)/\∀ p∈M.pn,p.1≠i
def Zf (M:Fm) (fps:Fps):Addr->Prop:=λ a=>M.Zo a\/∃ i,a∈fps i
def Zv (M:Fm) (vs:List Nat) (fps:Fps):Addr->Prop:=λ a=>M.Zo a\/∃ i,i∉vs/\a∈fps i
def Za (M:Fm) (fps:Fps) (i:Nat):Addr->Prop:=λ a=>M.Zo a\/∃ j,j∉M.al i/\a∈fps j
def Zt (M:Fm) (vs:List Nat) (fps:Fps) (fp:List Addr):Addr->Prop:=λ a=>Zv M vs fps a\/a∈fp
def Fm.plus (M:Fm) (fp:List Addr):Fm:={ M with Zo:=λ a=>M.Zo a\/a∈fp }
structure Rep (M:Fm) (ρ:Rho) (σ:St) (H:Hp) (fps:Fps):Prop where
 own:∀ i x d,ρ[i]?=some (some (x,d))->∃ v,σ[i]?=some (some v)/\Own M.K H (Za M fps i) x d v (fps i)
 non:∀ i,(∀ p,ρ[i]?≠some (some p))->fps i=[]
 dj:∀ i j,i≠j->∀ a∈fps i,a∉fps j
 zo:∀ i,∀ a∈fps i,¬ M.Zo a
 fr:∀ i,M.Ms i=false->∀ a∈fps i,M.H₀ a=none
 zd:∀ a,M.Zo a->H a≠none
 len:ρ.length=σ.length
 msf:∀ i x d,M.Ms i=true->ρ[i]?=some (some (x,d))->d=om
 h0:∀ a,M.H₀ a≠none->H a≠none
 iov:(∀ v,M.io=some v->σ[0]?=some (some v)/\M.Ms 0=true)/\∀ p∈M.pn,σ[p.1]?=some (some p.2)
def Agr (M:Fm) (ρ ρ':Rho):Prop:=(∀ i,M.Ms i=false->ρ'[i]?=ρ[i]?)/\ρ'.length=ρ.length
structure KD (M:Fm) (H:Hp) (fps:Fps) (H':Hp) (fps':Fps):Prop where
 keep:Keep (λ a=>∃ i,M.Ms i=true/\a∈fps i) H H'
 dom:∀ a,H a≠none->H' a≠none
 sub:∀ i,∀ a∈fps' i,a∈fps i\/H a=none
 same:∀ i,M.Ms i=false->fps' i=fps i
def Tmps (K:Frag) (H:Hp) (Z:Addr->Prop):List (PV×Nat)->List V->List Addr->Prop
 | [],vs,fp=>vs=[]/\fp=[]
 | (x,d)::xs,vs,fp=>∃ v r f1 f2,vs=v::r/\fp=f1++f2/\(∀ a∈f1,a∉f2)/\Own K H (λ a=>Z a\/a∈f1) x d v f1/\Tmps K H Z xs r f2
structure Temp (M:Fm) (vs:List Nat) (H:Hp) (H':Hp) (fps':Fps) (fp:List Addr):Prop where
 new:∀ a∈fp,H a=none
 ndj:∀ a∈fp,¬ Zf M fps' a
section
variable {M:Fm}{ρ ρ':Rho}{σ:St}{H H' H'':Hp}{fps fps' fps'':Fps}{vs vs':List Nat}
theorem Agr.refl:Agr M ρ ρ:=⟨λ _ _=>rfl,rfl⟩
theorem Agr.trans {ρ'':Rho} (a:Agr M ρ ρ') (b:Agr M ρ' ρ''):Agr M ρ ρ'':=⟨λ i hi=>(b.1 i hi).trans (a.1 i hi),b.2.trans a.2⟩
theorem KD.refl:KD M H fps H fps:=⟨λ _ _ h _=>h,λ _ h=>h,λ _ _ h=>.inl h,λ _ _=>rfl⟩
theorem KD.trans (a:KD M H fps H' fps') (b:KD M H' fps' H'' fps''):KD M H fps H'' fps'' where
 keep:=λ x o h n=>b.keep x o (a.keep x o h n) λ ⟨i,hi,hx⟩=>(a.sub i x hx).elim (λ z=>n ⟨i,hi,z⟩) λ z=>by rw [z] at h;cases h
 dom:=λ x h=>b.dom x (a.dom x h)
 sub:=λ i x hx=>(b.sub i x hx).elim (λ z=>a.sub i x z) λ z=>.inr (by
  cases e:H x with
  | none=>rfl
  | some o=>exact absurd z (a.dom x (by rw [e];simp)))
 same:=λ i hi=>(b.same i hi).trans (a.same i hi)
theorem Za.zf {i:Nat}{a:Addr} (h:Za M fps i a):Zf M fps a:=h.elim .inl λ ⟨j,_,h⟩=>.inr ⟨j,h⟩
theorem Za.of {i:Nat} (hal:M.al i=[]) {a:Addr} (h:Zf M fps a):Za M fps i a:=h.elim .inl λ ⟨j,h⟩=>.inr ⟨j,(by rw [hal];simp),h⟩
theorem Rep.own0 (r:Rep M ρ σ H fps) (hal:∀ i,M.al i=[]) (i:Nat) (x:PV) (d:Nat) (e:ρ[i]?=some (some (x,d))):∃ v,σ[i]?=some (some v)/\Own M.K H (Zf M fps) x d v (fps i):=
 let ⟨v,h1,h2⟩:=r.own i x d e;⟨v,h1,h2.weak λ _ h=>Za.of (hal i) h⟩
theorem Rep.lsts (r:Rep M ρ σ H fps) {i:Nat}{a:Addr} (h:a∈fps i):∃ o:MO,H a=some o.ho:=by
 by_cases hp:∃ p,ρ[i]?=some (some p)
 ·obtain ⟨⟨x,d⟩,e⟩:=hp
  obtain ⟨v,_,o⟩:=r.own i x d e
  exact Own.lsts x d v _ o a h
 ·rw [r.non i λ p e=>hp ⟨p,e⟩] at h;cases h
theorem Rep.zdom (r:Rep M ρ σ H fps) {a:Addr} (h:Zf M fps a):H a≠none:=by
 rcases h with h | ⟨i,h⟩
 ·exact r.zd a h
 ·obtain ⟨xs,e⟩:=r.lsts h;rw [e];simp
theorem Rep.nz (r:Rep M ρ σ H fps) {a:Addr} (h:H a=none):¬ Zf M fps a:=λ z=>r.zdom z h
theorem Zv.zf {a:Addr} (h:Zv M vs fps a):Zf M fps a:=h.elim .inl λ ⟨i,_,h⟩=>.inr ⟨i,h⟩
theorem Zv.mono (hv:∀ i∈vs',i∈vs) {a:Addr} (h:Zv M vs fps a):Zv M vs' fps a:=h.elim .inl λ ⟨i,n,h⟩=>.inr ⟨i,λ z=>n (hv i z),h⟩
theorem Zt.mono (hv:∀ i∈vs',i∈vs) {a:Addr}{fp:List Addr} (h:Zt M vs fps fp a):Zt M vs' fps fp a:=h.elim (λ h=>.inl (h.mono hv)) .inr
theorem KD.stay (k:KD M H fps H' fps') (r:Rep M ρ σ H fps) (hv:∀ i∈vs,M.Ms i=false) {x:PV}{d:Nat}{v:V}{fp:List Addr} (h:Own M.K H (Zt M vs fps fp) x d v fp) (hf:∀ a∈fp,¬ Zf M fps a):Own M.K H' (Zt M vs fps' fp) x d v fp:=by
 have h1:∀ a,(∃ i,M.Ms i=true/\a∈fps i)->Zt M vs fps fp a/\∃ o:MO,H a=some o.ho:=by
  rintro a ⟨i,hi,ha⟩
  exact ⟨.inl (.inr ⟨i,λ z=>(by rw [hv i z] at hi;cases hi),ha⟩),r.lsts ha⟩
 have h2:∀ a,H a≠none->¬ Zt M vs fps fp a->¬ Zt M vs fps' fp a:=by
  intro a hd nz z
  rcases z with (z | ⟨i,ni,hx⟩) | z
  ·exact nz (.inl (.inl z))
  ·rcases k.sub i a hx with z | z
   ·exact nz (.inl (.inr ⟨i,ni,z⟩))
   ·exact hd z
  ·exact nz (.inr z)
 exact Own.move k.keep h1 h2 x d v fp (λ a ha ⟨i,_,hx⟩=>hf a ha (.inr ⟨i,hx⟩)) h
theorem KD.stays (k:KD M H fps H' fps') (r:Rep M ρ σ H fps) (hv:∀ i∈vs,M.Ms i=false):∀ {xs:List (PV×Nat)}{ws:List V}{fp:List Addr},Tmps M.K H (Zv M vs fps) xs ws fp->(∀ a∈fp,¬ Zf M fps a)->Tmps M.K H' (Zv M vs fps') xs ws fp
 | [],_,_,h,_=>h
 | (x,d)::xs,ws,fp,h,hf=>by
  obtain ⟨v,s,f1,f2,e1,e2,dj,h1,h2⟩:=h
  exact ⟨v,s,f1,f2,e1,e2,dj,k.stay r hv h1 λ a ha=>hf a (by rw [e2];exact ja4 _ ha),k.stays r hv h2 λ a ha=>hf a (by rw [e2];exact ja2 _ ha)⟩
theorem Tmps.weak {K:Frag}{Z Z':Addr->Prop} (hz:∀ a,Z' a->Z a):∀ {xs:List (PV×Nat)}{ws:List V}{fp:List Addr},Tmps K H Z xs ws fp->Tmps K H Z' xs ws fp
 | [],_,_,h=>h
 | (x,d)::xs,ws,fp,h=>by
  obtain ⟨v,s,f1,f2,e1,e2,dj,h1,h2⟩:=h
  exact ⟨v,s,f1,f2,e1,e2,dj,h1.weak λ a h=>h.elim (λ h=>.inl (hz a h)) .inr,h2.weak hz⟩
theorem KD.grow (k:∀ a o,H a=some o->H' a=some o):KD M H fps H' fps:=⟨λ a o h _=>k a o h,λ a h=>by
 cases e:H a with
 | none=>exact absurd e h
 | some o=>rw [k a o e];simp,λ _ _ h=>.inl h,λ _ _=>rfl⟩
theorem Rep.grow (r:Rep M ρ σ H fps) (k:∀ a o,H a=some o->H' a=some o):Rep M ρ σ H' fps where
 own:=λ i x d e=>by
  obtain ⟨v,hv,o⟩:=r.own i x d e
  exact ⟨v,hv,Own.move (S:=λ _=>False) (λ a o h _=>k a o h) (λ _ z=>z.elim) (λ _ _ n=>n) x d v _ (λ _ _ z=>z) o⟩
 non:=r.non
 dj:=r.dj
 zo:=r.zo
 fr:=r.fr
 zd:=λ a h=>(KD.grow (M:=M) (fps:=fps) k).dom a (r.zd a h)
 len:=r.len
 msf:=r.msf
 h0:=λ a h=>(KD.grow (M:=M) (fps:=fps) k).dom a (r.h0 a h)
 iov:=r.iov
end
def tE (M:Fm) (f:Fx) (vs:List Nat):TE:=λ σ H Q=>∃ ρ fps,Rep M ρ σ H fps/\(match f ρ with
 | .ok (x,d,ρ')=>∀ v H' fps' fp,KD M H fps H' fps'->Agr M ρ ρ'->Rep M ρ' σ H' fps'->Own M.K H' (Zt M vs fps' fp) x d v fp->Temp M vs H H' fps' fp->Q v H'
 | .exc c=>∀ H' fps',KD M H fps H' fps'->M.W σ c H'
 | .no=>False)
def tL (M:Fm) (f:Fa) (vs:List Nat):TA:=λ σ H Q=>∃ ρ fps,Rep M ρ σ H fps/\(match f ρ with
 | .ok (xs,ρ')=>∀ ws H' fps' fp,KD M H fps H' fps'->Agr M ρ ρ'->Rep M ρ' σ H' fps'->Tmps M.K H' (Zv M vs fps') xs ws fp->Temp M vs H H' fps' fp->Q ws H'
 | .exc c=>∀ H' fps',KD M H fps H' fps'->M.W σ c H'
 | .no=>False)
def tT (M:Fm) (f:Fb):TT:=λ σ H Q=>∃ ρ fps,Rep M ρ σ H fps/\(match f ρ with
 | .ok (b,ρ')=>∀ H' fps',KD M H fps H' fps'->Agr M ρ ρ'->Rep M ρ' σ H' fps'->Q b H'
 | .exc c=>∀ H' fps',KD M H fps H' fps'->M.W σ c H'
 | .no=>False)
def Leaf (M:Fm) (H:Hp) (fps:Fps) (vs:List Nat) (F:List Addr) (z:PV) (d:Nat) (Q:VK):Prop:=
 ∀ u H' fp,(∀ a o,H a=some o->H' a=some o)->Own M.K H' (Zt M vs fps fp) z d u fp->(∀ a∈fp,a∈F\/H a=none)->Q u H'
section
variable {M:Fm}{ρ ρ':Rho}{σ:St}{H H' H'':Hp}{fps fps' fps'':Fps}{vs vs':List Nat}{f g:Fx}{fa:Fa}{fb:Fb}{Q:VK}
def bC (x:PV):Fx:=λ ρ=>.ok (x,om,ρ)
theorem zvx {x:PV}{v:V} (h:∀ K H Z,Own K H Z x om v []) {σ:St}{H:Hp}{Q:VK} (hq:tE M (bC x) [] σ H Q):tC v σ H Q:=by
 obtain ⟨ρ,fps,rep,q⟩:=hq
 exact q v H fps [] KD.refl Agr.refl rep (h _ _ _) ⟨λ _ z=>(nomatch z),λ _ z=>nomatch z⟩
def dv:PV->Nat
 | .lst _=>0
 | .tup _=>0
 | .dct _=>0
 | _=>om
def bVar (i:Nat):Fx:=λ ρ=>match ρ[i]? with
 | some (some (x,_))=>.ok (x,dv x,ρ)
 | _=>.no
theorem Own.view {K:Frag}{Z Z':Addr->Prop}{x:PV}{d:Nat}{v:V}{fp:List Addr} (hz:∀ a,Z' a->Z a) (hf:∀ a∈fp,¬ Z' a) (h:Own K H Z x d v fp):Own K H Z' x (dv x) v []:=by
 have q:=Own.freeze hz x d v fp hf h
 cases x with
 | lst xs=>exact q
 | tup xs=>exact q
 | dct kvs=>exact q
 | exn _=>rw [Own] at q ⊢;exact q
 | non=>rw [Own] at q ⊢;exact q
 | bl _=>rw [Own] at q ⊢;exact q
 | int _=>rw [Own] at q ⊢;exact q
 | str _=>rw [Own] at q ⊢;exact q
 | emp=>rw [Own] at q ⊢;exact q
 | dko=>rw [Own] at q ⊢;exact q
 | scr _=>rw [Own] at q ⊢;exact q
theorem qfi {i:Nat}{σ:St}{H:Hp}{Q:VK} (hq:tE M (bVar i) (i::M.al i) σ H Q):tVar i σ H Q:=by
 obtain ⟨ρ,fps,rep,q⟩:=hq
 unfold bVar at q
 cases e0:ρ[i]? with
 | none=>rw [e0] at q;exact q.elim
 | some sl=>
  cases sl with
  | none=>rw [e0] at q;exact q.elim
  | some p=>
   obtain ⟨x0,d0⟩:=p
   rw [e0] at q
   obtain ⟨v,hv,o⟩:=rep.own i x0 d0 e0
   refine ⟨v,hv,q v H fps [] KD.refl Agr.refl rep ((o.view (Z':=Zv M (i::M.al i) fps) (λ a h=>h.elim .inl λ ⟨j,n,h⟩=>.inr ⟨j,λ z=>n (ja0 _ z),h⟩) λ a ha z=>?_).weak λ a h=>h.elim id λ z=>nomatch z) ⟨λ _ z=>(nomatch z),λ _ z=>nomatch z⟩⟩
   rcases z with z | ⟨j,nj,hj⟩
   ·exact rep.zo i a ha z
   ·exact rep.dj i j (λ e=>nj (by simp [e])) a ha hj
def bBin (op:PV->Nat->PV->Nat->Option (PV×Nat)) (f g:Fx):Fx:=λ ρ=>(f ρ).bind λ (x,d,ρ1)=>(g ρ1).bind λ (y,e,ρ2)=>match op x d y e with
 | some (z,c)=>.ok (z,c,ρ2)
 | none=>.no
theorem zwp {op:PV->Nat->PV->Nat->Option (PV×Nat)}{r:R2} (hv:∀ i∈vs,M.Ms i=false)
  (leaf:∀ x d y e z c v w H fps f1 f2 Q,op x d y e=some (z,c)->Own M.K H (Zt M (vs++vs') fps f1) x d v f1->Own M.K H (Zt M (vs++vs') fps f2) y e w f2->(∀ a∈f1,a∉f2)->(∀ a∈f1++f2,¬ Zf M fps a)->(∀ a,Zf M fps a->H a≠none)->Leaf M H fps (vs++vs') (f1++f2) z c Q->r v w H Q)
  {σ:St}{H:Hp}{Q:VK} (hq:tE M (bBin op f g) (vs++vs') σ H Q):tOp r (tE M f vs) (tE M g vs') σ H Q:=by
 obtain ⟨ρ,fps,rep,q⟩:=hq
 refine ⟨ρ,fps,rep,?_⟩
 unfold bBin at q
 cases ef:f ρ with
 | no=>rw [ef] at q;exact q
 | exc c=>rw [ef] at q;exact q
 | ok p=>
  obtain ⟨x,d,ρ1⟩:=p
  rw [ef] at q
  intro v H1 fps1 f1 k1 g1 rep1 o1 t1
  refine ⟨ρ1,fps1,rep1,?_⟩
  dsimp only [Rz.bind] at q
  cases eg:g ρ1 with
  | no=>rw [eg] at q;exact q
  | exc c=>rw [eg] at q;exact λ H' fps' k=>q H' fps' (k1.trans k)
  | ok p2=>
   obtain ⟨y,e,ρ2⟩:=p2
   rw [eg] at q
   intro w H2 fps2 f2 k2 g2 rep2 o2 t2
   dsimp only at q
   cases eo:op x d y e with
   | none=>rw [eo] at q;exact q.elim
   | some zc=>
    obtain ⟨z,c⟩:=zc
    rw [eo] at q
    have o1':=k2.stay rep1 hv o1 t1.ndj
    have n1:∀ a∈f1,¬ Zf M fps2 a:=λ a ha z=>by
     rcases z with z | ⟨i,z⟩
     ·exact t1.ndj a ha (.inl z)
     ·rcases k2.sub i a z with z | z
      ·exact t1.ndj a ha (.inr ⟨i,z⟩)
      ·obtain ⟨xs,e⟩:=Own.lsts x d v f1 o1 a ha
       rw [z] at e;cases e
    refine leaf x d y e z c v w H2 fps2 f1 f2 Q eo (o1'.weak λ a h=>Zt.mono (λ i hi=>ja4 _ hi) h) (o2.weak λ a h=>Zt.mono (λ i hi=>ja2 _ hi) h) (λ a h1 h2=>?_) (λ a ha=>?_) (λ a h=>rep2.zdom h) λ u H3 fp k3 o3 hfp=>?_
    ·obtain ⟨xs,e⟩:=Own.lsts x d v f1 o1 a h1
     rw [t2.new a h2] at e;cases e
    ·rcases jc0.mp ha with z | z
     ·exact n1 a z
     ·exact t2.ndj a z
    ·have new:∀ a∈fp,H a=none:=λ a ha=>by
      have back:H1 a=none->H a=none:=λ e=>by
       cases e':H a with
       | none=>rfl
       | some o=>exact absurd e (k1.dom a (by rw [e'];simp))
      have back2:H2 a=none->H1 a=none:=λ e=>by
       cases e':H1 a with
       | none=>rfl
       | some o=>exact absurd e (k2.dom a (by rw [e'];simp))
      rcases hfp a ha with z | z
      ·rcases jc0.mp z with z | z
       ·exact t1.new a z
       ·exact back (t2.new a z)
      ·exact back (back2 z)
     refine q u H3 fps2 fp ((k1.trans k2).trans (KD.grow k3)) (g1.trans g2) (rep2.grow k3) o3 ⟨new,λ a ha=>?_⟩
     rcases hfp a ha with z | z
     ·rcases jc0.mp z with z | z
      ·exact n1 a z
      ·exact t2.ndj a z
     ·exact rep2.nz z
end
section
variable {M:Fm}{vs vs':List Nat}{f g:Fx}{fa:Fa}{fb gb:Fb}
def bUn (op:PV->Nat->Option (PV×Nat)) (f:Fx):Fx:=λ ρ=>(f ρ).bind λ (x,d,ρ1)=>match op x d with
 | some (z,c)=>.ok (z,c,ρ1)
 | none=>.no
theorem zhz {op:PV->Nat->Option (PV×Nat)}{r:V->Hp->VK->Prop}
  (leaf:∀ x d z c v H fps f1 Q,op x d=some (z,c)->Own M.K H (Zt M vs fps f1) x d v f1->(∀ a∈f1,¬ Zf M fps a)->(∀ a,Zf M fps a->H a≠none)->Leaf M H fps vs f1 z c Q->r v H Q)
  {σ:St}{H:Hp}{Q:VK} (hq:tE M (bUn op f) vs σ H Q):tUn r (tE M f vs) σ H Q:=by
 obtain ⟨ρ,fps,rep,q⟩:=hq
 refine ⟨ρ,fps,rep,?_⟩
 unfold bUn at q
 cases ef:f ρ with
 | no=>rw [ef] at q;exact q
 | exc c=>rw [ef] at q;exact q
 | ok p=>
  obtain ⟨x,d,ρ1⟩:=p
  rw [ef] at q
  intro v H1 fps1 f1 k1 g1 rep1 o1 t1
  dsimp only [Rz.bind] at q
  cases eo:op x d with
  | none=>rw [eo] at q;exact q.elim
  | some zc=>
   obtain ⟨z,c⟩:=zc
   rw [eo] at q
   refine leaf x d z c v H1 fps1 f1 Q eo o1 t1.ndj (λ a h=>rep1.zdom h) λ u H3 fp k3 o3 hfp=>?_
   have back:∀ a,H1 a=none->H a=none:=λ a e=>by
    cases e':H a with
    | none=>rfl
    | some o=>exact absurd e (k1.dom a (by rw [e'];simp))
   refine q u H3 fps1 fp (k1.trans (KD.grow k3)) g1 (rep1.grow k3) o3 ⟨λ a ha=>(hfp a ha).elim (t1.new a) (back a),λ a ha=>(hfp a ha).elim (t1.ndj a) λ z=>rep1.nz z⟩
def aNil:Fa:=λ ρ=>.ok ([],ρ)
def zqa (f:Fx) (fa:Fa):Fa:=λ ρ=>(f ρ).bind λ (x,d,ρ1)=>(fa ρ1).bind λ (xs,ρ2)=>.ok ((x,d)::xs,ρ2)
theorem qjj {σ:St}{H:Hp}{Q:List V->Hp->Prop} (hq:tL M aNil [] σ H Q):tNil σ H Q:=by
 obtain ⟨ρ,fps,rep,q⟩:=hq
 exact q [] H fps [] KD.refl Agr.refl rep ⟨rfl,rfl⟩ ⟨λ _ z=>(nomatch z),λ _ z=>nomatch z⟩
theorem qgt (hv:∀ i∈vs,M.Ms i=false) {σ:St}{H:Hp}{Q:List V->Hp->Prop} (hq:tL M (zqa f fa) (vs++vs') σ H Q):qa5 (tE M f vs) (tL M fa vs') σ H Q:=by
 obtain ⟨ρ,fps,rep,q⟩:=hq
 refine ⟨ρ,fps,rep,?_⟩
 unfold zqa at q
 cases ef:f ρ with
 | no=>rw [ef] at q;exact q
 | exc c=>rw [ef] at q;exact q
 | ok p=>
  obtain ⟨x,d,ρ1⟩:=p
  rw [ef] at q
  intro v H1 fps1 f1 k1 g1 rep1 o1 t1
  refine ⟨ρ1,fps1,rep1,?_⟩
  dsimp only [Rz.bind] at q
  cases eg:fa ρ1 with
  | no=>rw [eg] at q;exact q
  | exc c=>rw [eg] at q;exact λ H' fps' k=>q H' fps' (k1.trans k)
  | ok p2=>
   obtain ⟨ys,ρ2⟩:=p2
   rw [eg] at q
   intro ws H2 fps2 f2 k2 g2 rep2 o2 t2
   dsimp only at q
   have o1':=k2.stay rep1 hv o1 t1.ndj
   have n1:∀ a∈f1,¬ Zf M fps2 a:=λ a ha z=>by
    rcases z with z | ⟨i,z⟩
    ·exact t1.ndj a ha (.inl z)
    ·rcases k2.sub i a z with z | z
     ·exact t1.ndj a ha (.inr ⟨i,z⟩)
     ·obtain ⟨xs,e⟩:=Own.lsts x d v f1 o1 a ha
      rw [z] at e;cases e
   have back:∀ a,H1 a=none->H a=none:=λ a e=>by
    cases e':H a with
    | none=>rfl
    | some o=>exact absurd e (k1.dom a (by rw [e'];simp))
   refine q (v::ws) H2 fps2 (f1++f2) (k1.trans k2) (g1.trans g2) rep2 ⟨v,ws,f1,f2,rfl,rfl,λ a h1 h2=>?_,o1'.weak λ a h=>Zt.mono (λ i hi=>ja4 _ hi) h,o2.weak λ a h=>h.mono λ i hi=>ja2 _ hi⟩ ⟨λ a ha=>?_,λ a ha=>?_⟩
   ·obtain ⟨xs,e⟩:=Own.lsts x d v f1 o1 a h1
    rw [t2.new a h2] at e;cases e
   ·rcases jc0.mp ha with z | z
    ·exact t1.new a z
    ·exact back a (t2.new a z)
   ·rcases jc0.mp ha with z | z
    ·exact n1 a z
    ·exact t2.ndj a z
def zqd (op:List (PV×Nat)->Option (PV×Nat)) (fa:Fa):Fx:=λ ρ=>(fa ρ).bind λ (xs,ρ1)=>match op xs with
 | some (z,c)=>.ok (z,c,ρ1)
 | none=>.no
theorem zbd {op:List (PV×Nat)->Option (PV×Nat)}{r:List V->Hp->VK->Prop}
  (leaf:∀ xs z c ws H fps fp Q,op xs=some (z,c)->Tmps M.K H (Zv M vs fps) xs ws fp->(∀ a∈fp,¬ Zf M fps a)->(∀ a,Zf M fps a->H a≠none)->Leaf M H fps vs fp z c Q->r ws H Q)
  {σ:St}{H:Hp}{Q:VK} (hq:tE M (zqd op fa) vs σ H Q):tL M fa vs σ H λ ws H1=>r ws H1 Q:=by
 obtain ⟨ρ,fps,rep,q⟩:=hq
 refine ⟨ρ,fps,rep,?_⟩
 unfold zqd at q
 cases ef:fa ρ with
 | no=>rw [ef] at q;exact q
 | exc c=>rw [ef] at q;exact q
 | ok p=>
  obtain ⟨xs,ρ1⟩:=p
  rw [ef] at q
  intro ws H1 fps1 f1 k1 g1 rep1 o1 t1
  dsimp only [Rz.bind] at q
  cases eo:op xs with
  | none=>rw [eo] at q;exact q.elim
  | some zc=>
   obtain ⟨z,c⟩:=zc
   rw [eo] at q
   refine leaf xs z c ws H1 fps1 f1 Q eo o1 t1.ndj (λ a h=>rep1.zdom h) λ u H3 fp k3 o3 hfp=>?_
   have back:∀ a,H1 a=none->H a=none:=λ a e=>by
    cases e':H a with
    | none=>rfl
    | some o=>exact absurd e (k1.dom a (by rw [e'];simp))
   refine q u H3 fps1 fp (k1.trans (KD.grow k3)) g1 (rep1.grow k3) o3 ⟨λ a ha=>(hfp a ha).elim (t1.new a) (back a),λ a ha=>(hfp a ha).elim (t1.ndj a) λ z=>rep1.nz z⟩
def bT (f:Fx):Fb:=λ ρ=>(f ρ).bind λ (x,_,ρ1)=>match x with
 | .bl b=>.ok (b,ρ1)
 | _=>.no
theorem qay {σ:St}{H:Hp}{Q:Bool->Hp->Prop} (hq:tT M (bT f) σ H Q):tB (tE M f vs) σ H Q:=by
 obtain ⟨ρ,fps,rep,q⟩:=hq
 refine ⟨ρ,fps,rep,?_⟩
 unfold bT at q
 cases ef:f ρ with
 | no=>rw [ef] at q;exact q
 | exc c=>rw [ef] at q;exact q
 | ok p=>
  obtain ⟨x,d,ρ1⟩:=p
  rw [ef] at q
  intro v H1 fps1 f1 k1 g1 rep1 o1 t1
  dsimp only [Rz.bind] at q
  cases x with
  | bl b=>
   rw [Own] at o1
   exact ⟨b,o1.1,q H1 fps1 k1 g1 rep1⟩
  | _=>exact q.elim
def bAnd (f g:Fb):Fb:=λ ρ=>(f ρ).bind λ (b,ρ1)=>if b=true then g ρ1 else .ok (false,ρ1)
def bOr (f g:Fb):Fb:=λ ρ=>(f ρ).bind λ (b,ρ1)=>if b=true then .ok (true,ρ1) else g ρ1
def bNot (f:Fb):Fb:=λ ρ=>(f ρ).bind λ (b,ρ1)=>.ok (!b,ρ1)
theorem qi8 {σ:St}{H:Hp}{Q:Bool->Hp->Prop} (hq:tT M (bAnd fb gb) σ H Q):tAnd (tT M fb) (tT M gb) σ H Q:=by
 obtain ⟨ρ,fps,rep,q⟩:=hq
 refine ⟨ρ,fps,rep,?_⟩
 unfold bAnd at q
 cases ef:fb ρ with
 | no=>rw [ef] at q;exact q
 | exc c=>rw [ef] at q;exact q
 | ok p=>
  obtain ⟨b,ρ1⟩:=p
  rw [ef] at q
  intro H1 fps1 k1 g1 rep1
  dsimp only [Rz.bind] at q
  cases b with
  | false=>exact (q H1 fps1 k1 g1 rep1)
  | true=>
   refine ⟨ρ1,fps1,rep1,?_⟩
   rw [if_pos rfl] at q
   cases eg:gb ρ1 with
   | no=>rw [eg] at q;exact q
   | exc c=>rw [eg] at q;exact λ H' fps' k=>q H' fps' (k1.trans k)
   | ok p2=>rw [eg] at q;exact λ H' fps' k g r=>q H' fps' (k1.trans k) (g1.trans g) r
theorem ql2 {σ:St}{H:Hp}{Q:Bool->Hp->Prop} (hq:tT M (bOr fb gb) σ H Q):tOr (tT M fb) (tT M gb) σ H Q:=by
 obtain ⟨ρ,fps,rep,q⟩:=hq
 refine ⟨ρ,fps,rep,?_⟩
 unfold bOr at q
 cases ef:fb ρ with
 | no=>rw [ef] at q;exact q
 | exc c=>rw [ef] at q;exact q
 | ok p=>
  obtain ⟨b,ρ1⟩:=p
  rw [ef] at q
  intro H1 fps1 k1 g1 rep1
  dsimp only [Rz.bind] at q
  cases b with
  | true=>exact (q H1 fps1 k1 g1 rep1)
  | false=>
   refine ⟨ρ1,fps1,rep1,?_⟩
   rw [if_neg jc7] at q
   cases eg:gb ρ1 with
   | no=>rw [eg] at q;exact q
   | exc c=>rw [eg] at q;exact λ H' fps' k=>q H' fps' (k1.trans k)
   | ok p2=>rw [eg] at q;exact λ H' fps' k g r=>q H' fps' (k1.trans k) (g1.trans g) r
theorem qi7 {σ:St}{H:Hp}{Q:Bool->Hp->Prop} (hq:tT M (bNot fb) σ H Q):tNot (tT M fb) σ H Q:=by
 obtain ⟨ρ,fps,rep,q⟩:=hq
 refine ⟨ρ,fps,rep,?_⟩
 unfold bNot at q
 cases ef:fb ρ with
 | no=>rw [ef] at q;exact q
 | exc c=>rw [ef] at q;exact q
 | ok p=>obtain ⟨b,ρ1⟩:=p;rw [ef] at q;exact q
theorem Tmps.all {K:Frag}{H:Hp}{Z:Addr->Prop}:∀ {xs:List (PV×Nat)}{ws:List V}{fp:List Addr},Tmps K H Z xs ws fp->(∀ p∈xs,p.2=om)->OwnL K H Z (xs.map (·.1)) om ws fp
 | [],_,_,h,_=>by rw [jg0,OwnL];exact h
 | (x,d)::xs,ws,fp,h,ha=>by
  obtain ⟨v,s,f1,f2,e1,e2,dj,h1,h2⟩:=h
  have e:d=om:=ha (x,d) ja1
  subst e
  rw [jc1,OwnL]
  exact ⟨v,s,f1,f2,e1,e2,dj,Own.full x v f1 h1,h2.all λ p hp=>ha p (ja0 _ hp)⟩
theorem Tmps.cold {K:Frag}{H:Hp}{Z:Addr->Prop}:∀ {xs:List (PV×Nat)}{ws:List V}{fp:List Addr},Tmps K H Z xs ws fp->(∀ a∈fp,¬ Z a)->OwnL K H Z (xs.map (·.1)) 0 ws []
 | [],_,_,h,_=>by rw [jg0,OwnL];exact ⟨h.1,rfl⟩
 | (x,d)::xs,ws,fp,h,ha=>by
  obtain ⟨v,s,f1,f2,e1,e2,dj,h1,h2⟩:=h
  rw [jc1,OwnL]
  exact ⟨v,s,[],[],e1,rfl,λ _ z=>(nomatch z),Own.freeze (λ _ z=>.inl z) x d v f1 (λ a z=>ha a (by rw [e2];exact ja4 _ z)) h1,h2.cold λ a z=>ha a (by rw [e2];exact ja2 _ z)⟩
theorem Tmps.length {K:Frag}{H:Hp}{Z:Addr->Prop}:∀ {xs:List (PV×Nat)}{ws:List V}{fp:List Addr},Tmps K H Z xs ws fp->ws.length=xs.length
 | [],_,_,h=>by rw [h.1];rfl
 | (x,d)::xs,ws,fp,h=>by
  obtain ⟨v,s,f1,f2,e1,e2,dj,h1,h2⟩:=h
  rw [e1,jb8,jb8,h2.length]
theorem OwnL.length {K:Frag}{H:Hp}{Z:Addr->Prop}:∀ {xs:List PV}{d:Nat}{ws:List V}{fp:List Addr},OwnL K H Z xs d ws fp->ws.length=xs.length
 | [],_,_,_,h=>by rw [OwnL] at h;rw [h.1];rfl
 | x::xs,d,ws,fp,h=>by
  rw [OwnL] at h
  obtain ⟨v,s,f1,f2,e1,e2,dj,h1,h2⟩:=h
  rw [e1,jb8,jb8,h2.length]
end
inductive Rs where
 | nx (ρ:Rho) | rt (x:PV) (d:Nat) (ρ:Rho) | bk (ρ:Rho) | ct (ρ:Rho) | exc (c:Nat) | no
abbrev Fs:=Rho->Rs
structure KS (M:Fm) (H:Hp) (fps:Fps) (H':Hp) (fps':Fps):Prop where
 keep:Keep (λ a=>∃ i,a∈fps i) H H'
 dom:∀ a,H a≠none->H' a≠none
 sub:∀ i,∀ a∈fps' i,(∃ j,a∈fps j)\/H a=none
def Zr (M:Fm) (fps:Fps):Addr->Prop:=λ a=>M.Zo a\/(M.io≠none/\a∈fps 0)
def RsOk (M:Fm) (D:Ends) (H:Hp) (fps:Fps):Rs->Prop
 | .nx ρ'=>∀ σ' H' fps',KS M H fps H' fps'->Rep M ρ' σ' H' fps'->D.nx σ' H'
 | .bk ρ'=>∀ σ' H' fps',KS M H fps H' fps'->Rep M ρ' σ' H' fps'->D.bk σ' H'
 | .ct ρ'=>∀ σ' H' fps',KS M H fps H' fps'->Rep M ρ' σ' H' fps'->D.ct σ' H'
 | .rt x d ρ'=>∀ v σ' H' fps' fp,KS M H fps H' fps'->Rep M ρ' σ' H' fps'->Own M.K H' (λ a=>Zr M fps' a\/a∈fp) x d v fp->(∀ a∈fp,M.H₀ a=none/\¬ Zr M fps' a)->D.rt v H'
 | .exc c=>∀ σ' H' fps',KS M H fps H' fps'->M.W σ' c H'
 | .no=>False
def tS (M:Fm) (f:Fs):TS:=λ D σ H=>∃ ρ fps,Rep M ρ σ H fps/\RsOk M D H fps (f ρ)
section
variable {M:Fm}{ρ ρ':Rho}{σ σ':St}{H H' H'':Hp}{fps fps' fps'':Fps}{vs vs':List Nat}
theorem KS.refl:KS M H fps H fps:=⟨λ _ _ h _=>h,λ _ h=>h,λ i _ h=>.inl ⟨i,h⟩⟩
theorem KD.ks (k:KD M H fps H' fps'):KS M H fps H' fps':=⟨λ a o h n=>k.keep a o h λ ⟨i,_,z⟩=>n ⟨i,z⟩,k.dom,λ i a h=>(k.sub i a h).elim (λ z=>.inl ⟨i,z⟩) .inr⟩
theorem KS.trans (a:KS M H fps H' fps') (b:KS M H' fps' H'' fps''):KS M H fps H'' fps'' where
 keep:=λ x o h n=>b.keep x o (a.keep x o h n) λ ⟨i,hx⟩=>(a.sub i x hx).elim (λ z=>n z) λ z=>by rw [z] at h;cases h
 dom:=λ x h=>b.dom x (a.dom x h)
 sub:=λ i x hx=>(b.sub i x hx).elim (λ ⟨j,z⟩=>a.sub j x z) λ z=>.inr (by
  cases e:H x with
  | none=>rfl
  | some o=>exact absurd z (a.dom x (by rw [e];simp)))
theorem KS.stay0 (k:KS M H fps H' fps') (r:Rep M ρ σ H fps) {x:PV}{v:V} (h:Own M.K H (Zf M fps) x 0 v []):Own M.K H' (Zf M fps') x 0 v []:=by
 refine Own.move k.keep (λ a ⟨i,ha⟩=>⟨.inr ⟨i,ha⟩,r.lsts ha⟩) ?_ x 0 v [] (λ _ z=>nomatch z) h
 intro a hd nz z
 rcases z with z | ⟨i,hx⟩
 ·exact nz (.inl z)
 ·rcases k.sub i a hx with z | z
  ·exact nz (.inr z)
  ·exact hd z
def sNil:Fs:=λ ρ=>.nx ρ
def sSeq (f g:Fs):Fs:=λ ρ=>match f ρ with
 | .nx ρ1=>g ρ1
 | r=>r
theorem qjd {D:Ends} (hq:tS M sNil D σ H):qji D σ H:=by
 obtain ⟨ρ,fps,rep,q⟩:=hq
 exact q σ H fps KS.refl rep
def sIf (c:Fb) (f g:Fs):Fs:=λ ρ=>match c ρ with
 | .ok (b,ρ1)=>if b=true then f ρ1 else g ρ1
 | .exc e=>.exc e
 | .no=>.no
theorem RsOk.from {D:Ends}{r:Rs} (k1:KS M H fps H' fps') (q:RsOk M D H fps r):RsOk M D H' fps' r:=by
 cases r with
 | no=>exact q
 | exc c=>exact λ σ' H' fps' k=>q σ' H' fps' (k1.trans k)
 | rt x d ρ2=>exact λ v σ' H' fps' fp k=>q v σ' H' fps' fp (k1.trans k)
 | bk ρ2=>exact λ σ' H' fps' k=>q σ' H' fps' (k1.trans k)
 | ct ρ2=>exact λ σ' H' fps' k=>q σ' H' fps' (k1.trans k)
 | nx ρ2=>exact λ σ' H' fps' k=>q σ' H' fps' (k1.trans k)
theorem qja {f g:Fs}{D:Ends} (hq:tS M (sSeq f g) D σ H):tSeq (tS M f) (tS M g) D σ H:=by
 obtain ⟨ρ,fps,rep,q⟩:=hq
 refine ⟨ρ,fps,rep,?_⟩
 unfold sSeq at q
 cases ef:f ρ with
 | no=>rw [ef] at q;exact q
 | exc c=>rw [ef] at q;exact q
 | rt x d ρ1=>rw [ef] at q;exact q
 | bk ρ1=>rw [ef] at q;exact q
 | ct ρ1=>rw [ef] at q;exact q
 | nx ρ1=>
  rw [ef] at q
  exact λ σ1 H1 fps1 k1 rep1=>⟨ρ1,fps1,rep1,RsOk.from k1 q⟩
theorem ql3 {c:Fb}{f g:Fs}{D:Ends} (hq:tS M (sIf c f g) D σ H):tIfS (tT M c) (tS M f) (tS M g) D σ H:=by
 obtain ⟨ρ,fps,rep,q⟩:=hq
 refine ⟨ρ,fps,rep,?_⟩
 unfold sIf at q
 cases ef:c ρ with
 | no=>rw [ef] at q;exact q
 | exc c=>rw [ef] at q;exact λ H' fps' k=>q _ H' fps' k.ks
 | ok p=>
  obtain ⟨b,ρ1⟩:=p
  rw [ef] at q
  intro H1 fps1 k1 g1 rep1
  dsimp only at q
  cases b with
  | true=>
   rw [if_pos rfl] at q ⊢
   exact ⟨ρ1,fps1,rep1,RsOk.from k1.ks q⟩
  | false=>
   rw [if_neg jc7] at q ⊢
   exact ⟨ρ1,fps1,rep1,RsOk.from k1.ks q⟩
def cool (vs:List Nat):Nat->Rho->Rho
 | _,[]=>[]
 | k,s::r=>(if vs.contains k then s.map λ p=>(p.1,0) else s)::cool vs (k + 1) r
def zxb (d:Nat) (vs:List Nat) (ρ:Rho):Rho:=if d=om then ρ else cool vs 0 ρ
theorem zkx (vs:List Nat):∀ (ρ:Rho) (k i:Nat),(cool vs k ρ)[i]?=(ρ[i]?).map λ s=>if vs.contains (k + i) then s.map λ p=>(p.1,0) else s
 | [],k,i=>by simp [cool]
 | s::r,k,0=>by simp [cool]
 | s::r,k,i + 1=>by
  rw [cool,jh1,zkx vs r (k + 1) i,jh1]
  have:k + 1 + i=k + (i + 1):=by omega
  rw [this]
theorem zbz (vs:List Nat):∀ (ρ:Rho) (k:Nat),(cool vs k ρ).length=ρ.length
 | [],_=>rfl
 | s::r,k=>by rw [cool,jb8,zbz vs r (k + 1),jb8]
def zvq (vs:List Nat) (fps:Fps):Fps:=λ i=>if vs.contains i then [] else fps i
theorem zxh {a:Addr}{i:Nat} (h:a∈zvq vs fps i):a∈fps i/\i∉vs:=by
 unfold zvq at h
 split at h
 ·cases h
 ·rename_i n;exact ⟨h,λ z=>n (by simpa using z)⟩
theorem zve {a:Addr} (h:Zf M (zvq vs fps) a):Zv M vs fps a:=h.elim .inl λ ⟨i,z⟩=>.inr ⟨i,(zxh z).2,(zxh z).1⟩
theorem Rep.cool (r:Rep M ρ σ H fps) (hal:∀ i,M.al i=[]) (hv:∀ i∈vs,M.Ms i=false):Rep M (cool vs 0 ρ) σ H (zvq vs fps) where
 own:=λ i x d e=>by
  rw [zkx] at e
  cases e1:ρ[i]? with
  | none=>rw [e1] at e;cases e
  | some s=>
   rw [e1] at e
   simp only [jh2,jk8] at e
   by_cases hc:vs.contains i=true
   ·rw [if_pos hc] at e
    cases s with
    | none=>cases e
    | some p=>
     obtain ⟨x0,d0⟩:=p
     simp only [jh2,Option.some.injEq,Prod.mk.injEq] at e
     obtain ⟨rfl,rfl⟩:=e
     obtain ⟨v,hσ,o⟩:=r.own0 hal i x0 d0 e1
     refine ⟨v,hσ,Own.weak (Z:=Zf M (zvq vs fps)) (λ a h=>h.zf) ?_⟩
     have:zvq vs fps i=[]:=by unfold zvq;rw [if_pos hc]
     rw [this]
     exact Own.freeze (λ a h=>Zv.zf (zve h)) x0 d0 v _ (λ a ha z=>by
      rcases z with z | ⟨j,z⟩
      ·exact r.zo i a ha z
      ·obtain ⟨z1,z2⟩:=zxh z
       exact r.dj i j (λ e=>z2 (by rw [<- e];simpa using hc)) a ha z1) o
   ·rw [if_neg hc] at e
    cases e
    obtain ⟨v,hσ,o⟩:=r.own0 hal i x d e1
    refine ⟨v,hσ,Own.weak (Z:=Zf M (zvq vs fps)) (λ a h=>h.zf) ?_⟩
    have:zvq vs fps i=fps i:=by unfold zvq;rw [if_neg hc]
    rw [this]
    exact o.weak λ a h=>Zv.zf (zve h)
 non:=λ i h=>by
  unfold zvq
  split
  ·rfl
  ·rename_i hc
   refine r.non i λ p e=>h p ?_
   rw [zkx,e]
   simp only [jh2,jk8]
   rw [if_neg hc]
 dj:=λ i j hij a ha hb=>r.dj i j hij a (zxh ha).1 (zxh hb).1
 zo:=λ i a ha=>r.zo i a (zxh ha).1
 fr:=λ i hi a ha=>r.fr i hi a (zxh ha).1
 zd:=r.zd
 len:=by rw [zbz];exact r.len
 msf:=λ i x d hi e=>by
  rw [zkx] at e
  cases e1:ρ[i]? with
  | none=>rw [e1] at e;cases e
  | some s=>
   rw [e1] at e
   simp only [jh2,jk8] at e
   have hc:¬ vs.contains i=true:=λ z=>by rw [hv i (by simpa using z)] at hi;cases hi
   rw [if_neg hc] at e
   cases e
   exact r.msf i x d hi e1
 h0:=r.h0
 iov:=r.iov
theorem KS.cool (k:KS M H fps H' fps'):KS M H fps H' (zvq vs fps'):=⟨k.keep,k.dom,λ i a h=>k.sub i a (zxh h).1⟩
theorem Rep.wide {fp:List Addr} (hal:∀ i,∀ j∈M.al i,M.Ms j=false) (r:Rep M ρ σ H fps) (k:KD M H fps H' fps') (g:Agr M ρ ρ') (r':Rep M ρ' σ H' fps') (hf:∀ a∈fp,H a=none/\H' a≠none/\¬ Zf M fps' a):Rep (M.plus fp) ρ' σ H' fps' where
 own:=λ i x d e=>by
  by_cases hm:M.Ms i=true
  ·obtain ⟨v,hv,o⟩:=r'.own i x d e
   have hd:=r'.msf i x d hm e
   subst hd
   exact ⟨v,hv,Own.full x v _ o⟩
  ·have hm':M.Ms i=false:=by simpa using hm
   rw [g.1 i hm'] at e
   obtain ⟨v,hv,o⟩:=r.own i x d e
   refine ⟨v,hv,?_⟩
   rw [k.same i hm']
   refine Own.move k.keep (λ a ⟨j,hj,ha⟩=>⟨.inr ⟨j,λ z=>(by rw [hal i j z] at hj;cases hj),ha⟩,r.lsts ha⟩) ?_ x d v _ ?_ o
   ·intro a hd nz z
    rcases z with (z | z) | ⟨j,nj,z⟩
    ·exact nz (.inl z)
    ·exact hd (hf a z).1
    ·rcases k.sub j a z with z | z
     ·exact nz (.inr ⟨j,nj,z⟩)
     ·exact hd z
   ·rintro a ha ⟨j,hj,hx⟩
    exact r.dj i j (λ e=>by rw [e,hj] at hm';cases hm') a ha hx
 non:=r'.non
 dj:=r'.dj
 zo:=λ i a ha z=>z.elim (r'.zo i a ha) λ z=>(hf a z).2.2 (.inr ⟨i,ha⟩)
 fr:=r'.fr
 zd:=λ a z=>z.elim (r'.zd a) λ z=>(hf a z).2.1
 len:=r'.len
 msf:=r'.msf
 h0:=r'.h0
 iov:=r'.iov
theorem Rep.put {i:Nat}{x:PV}{d:Nat}{v:V}{fp:List Addr} (r:Rep (M.plus fp) ρ σ H fps) (h:Own M.K H (λ a=>Za M fps i a\/a∈fp) x d v fp) (hf:∀ a∈fp,M.H₀ a=none/\¬ M.Zo a) (hi:i < ρ.length) (hm:M.Ms i=true->d=om) (hio:M.Fre i):
  Rep M (ρ.set i (some (x,d))) (σ.set i (some v)) H (λ j=>if j=i then fp else fps j):=by
 have zz:∀ a,Zf M (λ j=>if j=i then fp else fps j) a->Zf M fps a\/a∈fp:=λ a h=>by
  rcases h with z | ⟨j,z⟩
  ·exact .inl (.inl z)
  ·by_cases e:j=i
   ·simp only [if_pos e] at z;exact .inr z
   ·simp only [if_neg e] at z;exact .inl (.inr ⟨j,z⟩)
 have zz2:∀ a,Zf M fps a\/a∈fp->Zf (M.plus fp) fps a:=λ a h=>h.elim (λ h=>h.elim (λ z=>.inl (.inl z)) λ z=>.inr z) λ z=>.inl (.inr z)
 refine ⟨λ j y e hj=>?_,λ j hj=>?_,λ j k hjk a ha hb=>?_,λ j a ha z=>?_,λ j hj a ha=>?_,λ a z=>r.zd a (.inl z),?_,λ j y e hj he=>?_,r.h0,?_⟩
 ·by_cases e:j=i
  ·subst e
   rw [jc3 hi] at hj
   cases hj
   refine ⟨v,by rw [jc3 (by rw [<- r.len];exact hi)],?_⟩
   rw [if_pos rfl]
   refine h.weak λ a h=>?_
   rcases h with z | ⟨k,nk,z⟩
   ·exact .inl (.inl z)
   ·by_cases ek:k=j
    ·simp only [if_pos ek] at z;exact .inr z
    ·simp only [if_neg ek] at z;exact .inl (.inr ⟨k,nk,z⟩)
  ·rw [jb9 (vc2 e)] at hj
   obtain ⟨w,hw,o⟩:=r.own j y _ hj
   refine ⟨w,by rw [jb9 (vc2 e)];exact hw,?_⟩
   rw [if_neg e]
   refine o.weak λ a h=>?_
   rcases h with z | ⟨k,nk,z⟩
   ·exact .inl (.inl z)
   ·by_cases ek:k=i
    ·simp only [if_pos ek] at z;exact .inl (.inr z)
    ·simp only [if_neg ek] at z;exact .inr ⟨k,nk,z⟩
 ·by_cases e:j=i
  ·subst e
   exact absurd (jc3 hi) (hj _)
  ·rw [if_neg e]
   exact r.non j λ p hp=>hj p (by rw [jb9 (vc2 e)];exact hp)
 ·by_cases e1:j=i
  ·by_cases e2:k=i
   ·exact hjk (e1.trans e2.symm)
   ·rw [if_pos e1] at ha
    rw [if_neg e2] at hb
    exact r.zo k a hb (.inr ha)
  ·rw [if_neg e1] at ha
   by_cases e2:k=i
   ·rw [if_pos e2] at hb
    exact r.zo j a ha (.inr hb)
   ·rw [if_neg e2] at hb
    exact r.dj j k hjk a ha hb
 ·by_cases e:j=i
  ·rw [if_pos e] at ha;exact (hf a ha).2 z
  ·rw [if_neg e] at ha;exact r.zo j a ha (.inl z)
 ·by_cases e:j=i
  ·rw [if_pos e] at ha;exact (hf a ha).1
  ·rw [if_neg e] at ha;exact r.fr j hj a ha
 ·rw [je0,je0];exact r.len
 ·by_cases e:j=i
  ·subst e
   rw [jc3 hi] at he
   cases he
   exact hm hj
  ·rw [jb9 (vc2 e)] at he
   exact r.msf j y _ hj he
 ·refine ⟨λ w hw=>?_,λ p hp=>?_⟩
  ·have h0:i≠0:=hio.1 (by rw [hw];simp)
   rw [jb9 h0]
   exact r.iov.1 w hw
  ·rw [jb9 (hio.2 p hp).symm]
   exact r.iov.2 p hp
def sSet (ms:Bool) (i:Nat) (f:Fx) (vs:List Nat):Fs:=λ ρ=>match f ρ with
 | .ok (x,d,ρ1)=>if i < ρ1.length/\(ms=true->d=om) then .nx ((zxb d vs ρ1).set i (some (x,d))) else .no
 | .exc c=>.exc c
 | .no=>.no
theorem Rep.store {i:Nat}{x:PV}{d:Nat}{v:V}{fp:List Addr} (rep:Rep M ρ σ H fps) (k:KD M H fps H' fps') (g:Agr M ρ ρ') (r':Rep M ρ' σ H' fps') (o:Own M.K H' (Zt M vs fps' fp) x d v fp) (t:Temp M vs H H' fps' fp)
  (hal:∀ i,M.al i=[]) (hv:∀ i∈vs,M.Ms i=false) (hi:i < ρ'.length) (hm:M.Ms i=true->d=om) (hio:M.Fre i):
  ∃ fps2,KS M H fps H' fps2/\Rep M ((zxb d vs ρ').set i (some (x,d))) (σ.set i (some v)) H' fps2:=by
 have back:∀ a,H a=none->M.H₀ a=none:=λ a e=>by
  cases e':M.H₀ a with
  | none=>rfl
  | some o=>exact absurd e (rep.h0 a (by rw [e'];simp))
 have w:Rep (M.plus fp) ρ' σ H' fps':=rep.wide (λ i j hj=>by rw [hal i] at hj;cases hj) k g r' λ a ha=>⟨t.new a ha,by obtain ⟨xs,e⟩:=Own.lsts x d v fp o a ha;rw [e];simp,t.ndj a ha⟩
 have hf:∀ a∈fp,M.H₀ a=none/\¬ M.Zo a:=λ a ha=>⟨back a (t.new a ha),λ z=>t.ndj a ha (.inl z)⟩
 have ks2:∀ {fps2:Fps},(∀ i a,a∈fps2 i->a∈fps' i)->KS M H fps H' (λ j=>if j=i then fp else fps2 j):=λ {fps2} h2=>⟨k.ks.keep,k.dom,λ j a ha=>by
  by_cases e:j=i
  ·simp only [if_pos e] at ha;exact .inr (t.new a ha)
  ·simp only [if_neg e] at ha;exact k.ks.sub j a (h2 j a ha)⟩
 unfold zxb
 by_cases hd:d=om
 ·rw [if_pos hd]
  refine ⟨_,ks2 λ _ _ h=>h,w.put (i:=i) (x:=x) (d:=d) (v:=v) ?_ hf hi hm hio⟩
  rw [hd] at o ⊢
  exact Own.full x v fp o
 ·rw [if_neg hd]
  refine ⟨_,ks2 λ _ _ h=>(zxh h).1,(w.cool (vs:=vs) hal hv).put (i:=i) (x:=x) (d:=d) (v:=v) ?_ hf (by rw [zbz];exact hi) hm hio⟩
  exact o.weak λ a h=>h.elim (λ h=>.inl (zve h.zf)) .inr
theorem qfh {f:Fx}{i:Nat}{ms:Bool}{D:Ends} (hal:∀ i,M.al i=[]) (hv:∀ i∈vs,M.Ms i=false) (hms:M.Ms i=ms) (hio:M.Fre i) (hq:tS M (sSet ms i f vs) D σ H):tAsg (tE M f vs) (zjb i) D σ H:=by
 obtain ⟨ρ,fps,rep,q⟩:=hq
 refine ⟨ρ,fps,rep,?_⟩
 unfold sSet at q
 cases ef:f ρ with
 | no=>rw [ef] at q;exact q
 | exc c=>rw [ef] at q;exact λ H' fps' k=>q _ H' fps' k.ks
 | ok p=>
  obtain ⟨x,d,ρ1⟩:=p
  rw [ef] at q
  intro v H1 fps1 f1 k1 g1 rep1 o1 t1
  dsimp only at q
  by_cases hc:i < ρ1.length/\(ms=true->d=om)
  ·rw [if_pos hc] at q
   obtain ⟨fps2,k2,r2⟩:=Rep.store rep k1 g1 rep1 o1 t1 hal hv hc.1 (λ h=>hc.2 (by rw [<- hms];exact h)) hio
   exact q _ _ _ k2 r2
  ·rw [if_neg hc] at q;exact q.elim
end
section
variable {M:Fm}{ρ ρ':Rho}{σ σ':St}{H H' H'':Hp}{fps fps' fps'':Fps}{vs vs':List Nat}
theorem Zr.zf {a:Addr} (h:Zr M fps a):Zf M fps a:=h.elim .inl λ h=>.inr ⟨0,h.2⟩
theorem Rep.zr (r:Rep M ρ σ H fps) (hv:∀ i∈vs,M.Ms i=false) {a:Addr} (h:Zr M fps a):Zv M vs fps a:=by
 rcases h with h | ⟨h1,h2⟩
 ·exact .inl h
 ·refine .inr ⟨0,λ z=>?_,h2⟩
  cases e:M.io with
  | none=>exact h1 e
  | some v=>have:=(r.iov.1 v e).2;rw [hv 0 z] at this;cases this
theorem Rep.h0' (r:Rep M ρ σ H fps) {a:Addr} (e:H a=none):M.H₀ a=none:=by
 cases e':M.H₀ a with
 | none=>rfl
 | some o=>exact absurd e (r.h0 a (by rw [e'];simp))
def sRet (f:Fx):Fs:=λ ρ=>match f ρ with
 | .ok (x,d,ρ1)=>.rt x d ρ1
 | .exc c=>.exc c
 | .no=>.no
theorem qjb {f:Fx}{D:Ends} (hv:∀ i∈vs,M.Ms i=false) (hq:tS M (sRet f) D σ H):tRet (tE M f vs) D σ H:=by
 obtain ⟨ρ,fps,rep,q⟩:=hq
 refine ⟨ρ,fps,rep,?_⟩
 unfold sRet at q
 cases ef:f ρ with
 | no=>rw [ef] at q;exact q
 | exc c=>rw [ef] at q;exact λ H' fps' k=>q _ H' fps' k.ks
 | ok p=>
  obtain ⟨x,d,ρ1⟩:=p
  rw [ef] at q
  intro v H1 fps1 f1 k1 g1 rep1 o1 t1
  exact q v σ H1 fps1 f1 k1.ks rep1 (o1.weak λ a h=>h.elim (λ h=>.inl (rep1.zr hv h)) .inr) λ a ha=>⟨rep.h0' (t1.new a ha),λ z=>t1.ndj a ha z.zf⟩
def zpu (i:Nat):Fs:=λ ρ=>match ρ[i]? with
 | some (some (x,d))=>.rt x d ρ
 | _=>.no
theorem qgm {i:Nat}{D:Ends} (hal:∀ i,M.al i=[]) (hm:M.Ms i=false) (hq:tS M (zpu i) D σ H):tRet (tVar i) D σ H:=by
 obtain ⟨ρ,fps,rep,q⟩:=hq
 unfold zpu at q
 cases e0:ρ[i]? with
 | none=>rw [e0] at q;exact q.elim
 | some sl=>
  cases sl with
  | none=>rw [e0] at q;exact q.elim
  | some p=>
   obtain ⟨x,d⟩:=p
   rw [e0] at q
   obtain ⟨v,hv,o⟩:=rep.own0 hal i x d e0
   refine ⟨v,hv,q v σ H fps (fps i) KS.refl rep (o.weak λ a h=>h.elim Zr.zf λ z=>.inr ⟨i,z⟩) λ a ha=>⟨rep.fr i hm a ha,λ z=>?_⟩⟩
   rcases z with z | ⟨z1,z2⟩
   ·exact rep.zo i a ha z
   ·cases e:M.io with
    | none=>exact z1 e
    | some w=>exact rep.dj i 0 (λ e'=>by rw [e',(rep.iov.1 w e).2] at hm;cases hm) a ha z2
def zvj (f:Fx):Fs:=λ ρ=>match f ρ with
 | .ok (_,_,ρ1)=>.nx ρ1
 | .exc c=>.exc c
 | .no=>.no
theorem qgr {f:Fx}{D:Ends} (hq:tS M (zvj f) D σ H):qdr (tE M f vs) D σ H:=by
 obtain ⟨ρ,fps,rep,q⟩:=hq
 refine ⟨ρ,fps,rep,?_⟩
 unfold zvj at q
 cases ef:f ρ with
 | no=>rw [ef] at q;exact q
 | exc c=>rw [ef] at q;exact λ H' fps' k=>q _ H' fps' k.ks
 | ok p=>
  obtain ⟨x,d,ρ1⟩:=p
  rw [ef] at q
  intro v H1 fps1 f1 k1 g1 rep1 o1 t1
  exact q σ H1 fps1 k1.ks rep1
theorem OwnL.snoc {K:Frag}{Z:Addr->Prop}{y:PV}{d:Nat}{w:V}{fy:List Addr}:∀ {xs:List PV}{ws:List V}{f:List Addr},OwnL K H Z xs d ws f->Own K H Z y d w fy->(∀ a∈f,a∉fy)->OwnL K H Z (xs++[y]) d (ws++[w]) (f++fy)
 | [],ws,f,h,hy,_=>by
  rw [OwnL] at h
  obtain ⟨rfl,rfl⟩:=h
  show OwnL K H Z [y] d [w] fy
  rw [OwnL]
  refine ⟨w,[],fy,[],rfl,by simp,λ _ _ z=>(nomatch z),hy,?_⟩
  rw [OwnL];exact ⟨rfl,rfl⟩
 | x::xs,ws,f,h,hy,hd=>by
  rw [OwnL] at h
  obtain ⟨v,s,f1,f2,rfl,rfl,dj,h1,h2⟩:=h
  show OwnL K H Z (x::(xs++[y])) d (v::(s++[w])) (f1++f2++fy)
  rw [OwnL]
  refine ⟨v,s++[w],f1,f2++fy,rfl,by rw [jg4],λ a ha hb=>?_,h1,h2.snoc hy λ a ha=>hd a (ja2 _ ha)⟩
  rcases jc0.mp hb with z | z
  ·exact dj a ha z
  ·exact hd a (ja4 _ ha) z
theorem Own.at {K:Frag}{Z Z':Addr->Prop}{a:Addr}{o:HO}{x:PV}{d:Nat}{v:V}{fp:List Addr} (h:Own K H Z x d v fp) (hZ:Z a) (hl:∃ o:MO,H a=some o.ho) (hf:a∉fp) (hz:∀ b,H b≠none->¬ Z b->¬ Z' b):Own K (upd H a o) Z' x d v fp:=
 Own.move (S:=λ b=>b=a) (λ b u hb n=>by rw [zqg n];exact hb) (λ b e=>by rw [e];exact ⟨hZ,hl⟩) hz x d v fp (λ b hb e=>hf (by rw [<- e];exact hb)) h
theorem OwnL.at {K:Frag}{Z Z':Addr->Prop}{a:Addr}{o:HO}{x:List PV}{d:Nat}{v:List V}{fp:List Addr} (h:OwnL K H Z x d v fp) (hZ:Z a) (hl:∃ o:MO,H a=some o.ho) (hf:a∉fp) (hz:∀ b,H b≠none->¬ Z b->¬ Z' b):OwnL K (upd H a o) Z' x d v fp:=
 OwnL.move (S:=λ b=>b=a) (λ b u hb n=>by rw [zqg n];exact hb) (λ b e=>by rw [e];exact ⟨hZ,hl⟩) hz x d v fp (λ b hb e=>hf (by rw [<- e];exact hb)) h
theorem Rep.rewrite {i:Nat}{xs:List PV}{d:Nat}{a:Addr}{ws:List V}{zs:List PV}{us:List V}{e:Nat}{f f' fp:List Addr} (hal:∀ i,M.al i=[]) (r:Rep (M.plus fp) ρ σ H fps) (hi:ρ[i]?=some (some (.lst xs,d))) (hσ:σ[i]?=some (some (.ref a)))
  (ha:H a=some (.lst ws)) (hfp:fps i=a::f) (hn:a∉f') (hsub:∀ b∈f',b∈f\/b∈fp) (he:e≠0) (hm:M.Ms i=true->e=om) (hH:∀ b∈fp,M.H₀ b=none/\¬ M.Zo b)
  (hnew:OwnL M.K (upd H a (.lst us)) (Zf M (λ j=>if j=i then a::f' else fps j)) zs (pd e) us f'):
  Rep M (ρ.set i (some (.lst zs,e))) σ (upd H a (.lst us)) (λ j=>if j=i then a::f' else fps j):=by
 have hlen:i < ρ.length:=(ja8.mp hi).1
 have hai:a∈fps i:=by rw [hfp];exact ja1
 have zz:∀ b,Zf M (λ j=>if j=i then a::f' else fps j) b->Zf (M.plus fp) fps b:=λ b h=>by
  rcases h with z | ⟨j,z⟩
  ·exact .inl (.inl z)
  ·by_cases ej:j=i
   ·simp only [if_pos ej] at z
    rcases jb2.mp z with z | z
    ·exact .inr ⟨i,by rw [z];exact hai⟩
    ·rcases hsub b z with z | z
     ·exact .inr ⟨i,by rw [hfp];exact ja0 _ z⟩
     ·exact .inl (.inr z)
   ·simp only [if_neg ej] at z;exact .inr ⟨j,z⟩
 have dm:∀ b,H b≠none->(upd H a (.lst us)) b≠none:=λ b h=>by
  by_cases eb:b=a
  ·rw [eb,zqj];simp
  ·rw [zqg eb];exact h
 have inI:∀ b,b∈a::f'->b∈fps i\/b∈fp:=λ b hb=>by
  rcases jb2.mp hb with z | z
  ·exact .inl (by rw [z];exact hai)
  ·rcases hsub b z with z | z
   ·exact .inl (by rw [hfp];exact ja0 _ z)
   ·exact .inr z
 refine ⟨λ j y c hj=>?_,λ j hj=>?_,λ j k hjk b hb hc=>?_,λ j b hb z=>?_,λ j hj b hb=>?_,λ b z=>dm b (r.zd b (.inl z)),by rw [je0];exact r.len,λ j y c hj hc=>?_,λ b z=>dm b (r.h0 b z),r.iov⟩
 ·by_cases ej:j=i
  ·subst ej
   rw [jc3 hlen] at hj
   cases hj
   refine ⟨_,hσ,?_⟩
   rw [if_pos rfl,Own]
   exact ⟨a,us,rfl,.inr ⟨he,f',zqj,rfl,hn,hnew.weak λ _ h=>h.zf⟩⟩
  ·rw [jb9 (vc2 ej)] at hj
   obtain ⟨w,hw,ow⟩:=r.own0 hal j y c hj
   refine ⟨w,hw,?_⟩
   rw [if_neg ej]
   exact ow.at (.inr ⟨i,hai⟩) ⟨.l ws,ha⟩ (λ z=>r.dj j i ej a z hai) λ b _ nz z=>nz (zz b z.zf)
 ·by_cases ej:j=i
  ·subst ej;exact absurd (jc3 hlen) (hj _)
  ·rw [if_neg ej]
   exact r.non j λ p hp=>hj p (by rw [jb9 (vc2 ej)];exact hp)
 ·have one:∀ k,k≠i->∀ b,b∈a::f'->b∈fps k->False:=λ k hk b h1 h2=>(inI b h1).elim (λ z=>r.dj i k (vc2 hk) b z h2) λ z=>r.zo k b h2 (.inr z)
  by_cases e1:j=i
  ·by_cases e2:k=i
   ·exact hjk (e1.trans e2.symm)
   ·rw [if_pos e1] at hb
    rw [if_neg e2] at hc
    exact one k e2 b hb hc
  ·rw [if_neg e1] at hb
   by_cases e2:k=i
   ·rw [if_pos e2] at hc
    exact one j e1 b hc hb
   ·rw [if_neg e2] at hc
    exact r.dj j k hjk b hb hc
 ·by_cases ej:j=i
  ·rw [if_pos ej] at hb
   rcases inI b hb with y | y
   ·exact r.zo i b y (.inl z)
   ·exact (hH b y).2 z
  ·rw [if_neg ej] at hb;exact r.zo j b hb (.inl z)
 ·by_cases ej:j=i
  ·rw [if_pos ej] at hb
   rcases inI b hb with y | y
   ·exact r.fr i (by rw [<- ej];exact hj) b y
   ·exact (hH b y).1
  ·rw [if_neg ej] at hb;exact r.fr j hj b hb
 ·by_cases ej:j=i
  ·subst ej
   rw [jc3 hlen] at hc
   cases hc
   exact hm hj
  ·rw [jb9 (vc2 ej)] at hc
   exact r.msf j y c hj hc
end
section
variable {M:Fm}{ρ ρ':Rho}{σ σ':St}{H H' H'':Hp}{fps fps' fps'':Fps}{vs vs':List Nat}
theorem KS.write {a:Addr}{o:HO}{i:Nat}{f' fp:List Addr} (k:KS M H fps H' fps') (ha:∃ j,a∈fps j) (hs:∀ b∈a::f',b∈fps' i\/H b=none):
  KS M H fps (upd H' a o) (λ j=>if j=i then a::f' else fps' j) where
 keep:=λ b u hb n=>by rw [zqg (λ e=>n (by rw [e];exact ha))];exact k.keep b u hb n
 dom:=λ b hb=>by
  by_cases e:b=a
  ·rw [e,zqj];simp
  ·rw [zqg e];exact k.dom b hb
 sub:=λ j b hb=>by
  by_cases e:j=i
  ·simp only [if_pos e] at hb
   rcases hs b hb with z | z
   ·exact k.sub i b z
   ·exact .inr z
  ·simp only [if_neg e] at hb;exact k.sub j b hb
theorem Rep.behind {x:PV}{d:Nat}{v:V}{fp:List Addr} (rep:Rep M ρ σ H fps) (k:KD M H fps H' fps') (g:Agr M ρ ρ') (r':Rep M ρ' σ H' fps') (o:Own M.K H' (Zt M vs fps' fp) x d v fp) (t:Temp M vs H H' fps' fp)
  (hal:∀ i,M.al i=[]) (hv:∀ i∈vs,M.Ms i=false):∃ fps2,KS M H fps H' fps2/\Rep (M.plus fp) (zxb d vs ρ') σ H' fps2/\Own M.K H' (λ a=>Zf M fps2 a\/a∈fp) x d v fp/\(∀ a∈fp,¬ Zf M fps2 a)/\(∀ i a,a∈fps2 i->a∈fps' i)/\(∀ a∈fp,M.H₀ a=none/\¬ M.Zo a):=by
 have w:Rep (M.plus fp) ρ' σ H' fps':=rep.wide (λ i j hj=>by rw [hal i] at hj;cases hj) k g r' λ a ha=>⟨t.new a ha,by obtain ⟨xs,e⟩:=Own.lsts x d v fp o a ha;rw [e];simp,t.ndj a ha⟩
 have hf:∀ a∈fp,M.H₀ a=none/\¬ M.Zo a:=λ a ha=>⟨rep.h0' (t.new a ha),λ z=>t.ndj a ha (.inl z)⟩
 unfold zxb
 by_cases hd:d=om
 ·rw [if_pos hd]
  refine ⟨fps',k.ks,w,?_,t.ndj,λ _ _ h=>h,hf⟩
  rw [hd] at o ⊢
  exact Own.full x v fp o
 ·rw [if_neg hd]
  exact ⟨zvq vs fps',k.ks.cool,w.cool hal hv,o.weak λ a h=>h.elim (λ h=>.inl (zve h)) .inr,λ a ha z=>t.ndj a ha (zve z).zf,λ _ _ h=>(zxh h).1,hf⟩
def sApp (i:Nat) (f:Fx) (vs:List Nat):Fs:=λ ρ=>match ρ[i]? with
 | some (some (.lst _,0))=>.no
 | some (some (.lst _,_ + 1))=>(match f ρ with
  | .ok (y,e,ρ1)=>(match (zxb e vs ρ1)[i]? with
   | some (some (.lst xs,d))=>if d≠0/\xs.length < va2 then .nx ((zxb e vs ρ1).set i (some (.lst (xs++[y]),if d=om/\e=om then om else 1))) else .no
   | _=>.no)
  | .exc c=>.exc c
  | .no=>.no)
 | _=>.no
theorem zmb:pd 1=0:=by decide
theorem Own.list {K:Frag}{Z:Addr->Prop}{xs:List PV}{d:Nat}{v:V}{fp:List Addr} (h:Own K H Z (.lst xs) d v fp) (hd:d≠0):∃ a ws f,v=.ref a/\H a=some (.lst ws)/\fp=a::f/\a∉f/\OwnL K H Z xs (pd d) ws f:=by
 rw [Own] at h
 obtain ⟨a,ws,e,⟨d0,_⟩ | ⟨_,f,h1,h2,h3,h4⟩⟩:=h
 ·exact absurd d0 hd
 ·exact ⟨a,ws,f,e,h1,h2,h3,h4⟩
theorem qjf {f:Fx}{i:Nat}{D:Ends} (hal:∀ i,M.al i=[]) (hv:∀ i∈vs,M.Ms i=false) (hm:M.Ms i=false) (hq:tS M (sApp i f vs) D σ H):qdr (tBM M.K "list" zfh (tVar i) (qa5 (tE M f vs) tNil)) D σ H:=by
 obtain ⟨ρ,fps,rep,q⟩:=hq
 unfold sApp at q
 split at q
 ·exact q.elim
 ·rename_i xs0 d0 e0
  obtain ⟨v,hσ,o⟩:=rep.own0 hal i _ _ e0
  obtain ⟨a,ws0,fc0,rfl,ha0,hfp0,_,_⟩:=o.list (jm9 _)
  refine ⟨_,hσ,qav (.inl (.inl ha0)),ρ,fps,rep,?_⟩
  cases ef:f ρ with
  | no=>rw [ef] at q;exact q
  | exc c=>rw [ef] at q;exact λ H' fps' k=>q _ H' fps' k.ks
  | ok p=>
   obtain ⟨y,e,ρ1⟩:=p
   rw [ef] at q
   intro w H1 fps1 fp k1 g1 rep1 o1 t1
   dsimp only at q
   split at q
   ·rename_i xs d es
    split at q
    ·rename_i hc
     obtain ⟨fps2,k2,r2,o2,n2,s2,h2⟩:=Rep.behind rep k1 g1 rep1 o1 t1 hal hv
     obtain ⟨v',hσ',ol⟩:=r2.own0 hal i _ _ es
     rw [hσ] at hσ'
     cases hσ'
     obtain ⟨a',ws,fc,ev,ha,hfp,nac,hol⟩:=ol.list hc.1
     cases ev
     have hai:a∈fps2 i:=by rw [hfp];exact ja1
     have hafp:a∉fp:=λ z=>n2 a z (.inr ⟨i,hai⟩)
     have hst:∃ j,a∈fps j:=⟨i,by have:=s2 i a hai;rw [k1.same i hm] at this;exact this⟩
     refine ⟨a,ws,w,rfl,rfl,ha,by rw [hol.length];exact hc.2,?_⟩
     by_cases ho:d=om/\e=om
     ·rw [if_pos ho] at q
      obtain ⟨rfl,rfl⟩:=ho
      refine q σ _ _ (k2.write (i:=i) (f':=fc++fp) (fp:=fp) hst λ b hb=>?_) (r2.rewrite hal es hσ ha hfp (λ z=>(jc0.mp z).elim nac hafp) (λ b hb=>jc0.mp hb) (by decide) (λ _=>rfl) h2 ?_)
      ·rcases jb2.mp hb with z | z
       ·exact .inl (by rw [z];exact hai)
       ·rcases jc0.mp z with z | z
        ·exact .inl (by rw [hfp];exact ja0 _ z)
        ·exact .inr (t1.new b z)
      ·have u1:OwnL M.K (upd H1 a (.lst (ws++[w]))) (λ _=>True) xs om ws fc:=(OwnL.full (Z':=λ _=>True) xs ws fc hol).at trivial ⟨.l ws,ha⟩ nac λ _ _ n=>absurd trivial n
       have u2:Own M.K (upd H1 a (.lst (ws++[w]))) (λ _=>True) y om w fp:=(Own.full (Z':=λ _=>True) y w fp o2).at trivial ⟨.l ws,ha⟩ hafp λ _ _ n=>absurd trivial n
       exact OwnL.full _ _ _ (u1.snoc u2 λ b hb z=>n2 b z (.inr ⟨i,by rw [hfp];exact ja0 _ hb⟩))
     ·rw [if_neg ho] at q
      refine q σ _ _ (k2.write (i:=i) (f':=[]) (fp:=fp) hst λ b hb=>?_) (r2.rewrite hal es hσ ha hfp (λ z=>nomatch z) (λ b hb=>nomatch hb) (by decide) (λ h=>by rw [hm] at h;cases h) h2 ?_)
      ·rcases jb2.mp hb with z | z
       ·exact .inl (by rw [z];exact hai)
       ·cases z
      ·rw [zmb]
       have zsub:∀ b,Zf M (λ j=>if j=i then [a] else fps2 j) b->Zf (M.plus fp) fps2 b:=λ b h=>by
        rcases h with z | ⟨j,z⟩
        ·exact .inl (.inl z)
        ·by_cases ej:j=i
         ·simp only [if_pos ej] at z
          rw [jb6.mp z]
          exact .inr ⟨i,hai⟩
         ·simp only [if_neg ej] at z;exact .inr ⟨j,z⟩
       have nf:∀ b∈fc,¬ Zf M (λ j=>if j=i then [a] else fps2 j) b:=λ b hb z=>by
        have hbi:b∈fps2 i:=by rw [hfp];exact ja0 _ hb
        rcases z with z | ⟨j,z⟩
        ·exact r2.zo i b hbi (.inl z)
        ·by_cases ej:j=i
         ·simp only [if_pos ej] at z
          rw [jb6.mp z] at hb;exact nac hb
         ·simp only [if_neg ej] at z;exact r2.dj i j (vc2 ej) b hbi z
       have nfp:∀ b∈fp,¬ Zf M (λ j=>if j=i then [a] else fps2 j) b:=λ b hb z=>by
        rcases z with z | ⟨j,z⟩
        ·exact n2 b hb (.inl z)
        ·by_cases ej:j=i
         ·simp only [if_pos ej] at z
          rw [jb6.mp z] at hb;exact hafp hb
         ·simp only [if_neg ej] at z;exact n2 b hb (.inr ⟨j,z⟩)
       have za:Zf M (λ j=>if j=i then [a] else fps2 j) a:=.inr ⟨i,by simp⟩
       have u1:=(OwnL.freeze (Z':=Zf M (λ j=>if j=i then [a] else fps2 j)) zsub xs _ ws fc nf hol)
       have u2:=(Own.freeze (Z':=Zf M (λ j=>if j=i then [a] else fps2 j)) (λ b h=>by
        rcases h with z | ⟨j,z⟩
        ·exact .inl (.inl z)
        ·by_cases ej:j=i
         ·simp only [if_pos ej] at z
          rw [jb6.mp z]
          exact .inl (.inr ⟨i,hai⟩)
         ·simp only [if_neg ej] at z;exact .inl (.inr ⟨j,z⟩)) y _ w fp nfp o2)
       exact (u1.at za ⟨.l ws,ha⟩ (λ z=>nomatch z) λ _ _ n=>n).snoc (u2.at za ⟨.l ws,ha⟩ (λ z=>nomatch z) λ _ _ n=>n) λ _ z=>nomatch z
    ·exact q.elim
   ·exact q.elim
 ·exact q.elim
def zzy:PV->Bool
 | .lst _=>false
 | .tup _=>false
 | .dct _=>false
 | _=>true
theorem OwnL.set {K:Frag}{Z:Addr->Prop}{y:PV}{d:Nat}{w:V} (hy:Own K H Z y d w []):∀ {xs:List PV}{ws:List V}{f:List Addr} (k:Nat),OwnL K H Z xs d ws f->∃ f',(∀ b∈f',b∈f)/\OwnL K H Z (xs.set k y) d (ws.set k w) f'
 | [],ws,f,k,h=>by
  rw [OwnL] at h
  obtain ⟨rfl,rfl⟩:=h
  refine ⟨[],λ _ z=>z,?_⟩
  rw [jk9,jk9,OwnL];exact ⟨rfl,rfl⟩
 | x::xs,ws,f,0,h=>by
  rw [OwnL] at h
  obtain ⟨v,s,f1,f2,rfl,rfl,dj,h1,h2⟩:=h
  refine ⟨f2,λ b hb=>ja2 _ hb,?_⟩
  rw [jf1,jf1,OwnL]
  exact ⟨w,s,[],f2,rfl,rfl,λ _ z=>(nomatch z),hy,h2⟩
 | x::xs,ws,f,k + 1,h=>by
  rw [OwnL] at h
  obtain ⟨v,s,f1,f2,rfl,rfl,dj,h1,h2⟩:=h
  obtain ⟨f',hs,h'⟩:=h2.set hy k
  refine ⟨f1++f',λ b hb=>(jc0.mp hb).elim (λ z=>ja4 _ z) λ z=>ja2 _ (hs b z),?_⟩
  rw [jf2,jf2,OwnL]
  exact ⟨v,s.set k w,f1,f',rfl,rfl,λ b hb hc=>dj b hb (hs b hc),h1,h'⟩
theorem Own.atom {K:Frag}{Z Z':Addr->Prop}{y:PV}{d d':Nat}{w:V}{fp:List Addr} (hy:zzy y=true) (h:Own K H Z y d w fp):fp=[]/\Own K H Z' y d' w []:=by
 cases y with
 | lst _=>cases hy
 | tup _=>cases hy
 | dct _=>cases hy
 | exn _=>rw [Own] at h ⊢;exact ⟨h.1,rfl,h.2⟩
 | emp=>rw [Own] at h ⊢;exact ⟨h.1,rfl,h.2⟩
 | dko=>rw [Own] at h ⊢;exact ⟨h.1,rfl,h.2⟩
 | scr _=>rw [Own] at h ⊢;exact ⟨h.1,rfl,h.2⟩
 | non=>rw [Own] at h ⊢;exact ⟨h.2,h.1,rfl⟩
 | bl _=>rw [Own] at h ⊢;exact ⟨h.2,h.1,rfl⟩
 | int _=>rw [Own] at h ⊢;exact ⟨h.2,h.1,rfl⟩
 | str _=>rw [Own] at h ⊢;exact ⟨h.2,h.1,rfl⟩
def sPut (i:Nat) (k:Int) (f:Fx):Fs:=λ ρ=>match f ρ with
 | .ok (y,_,ρ1)=>(match ρ1[i]? with
  | some (some (.lst xs,d))=>(match ixN xs.length k with
   | some j=>if d≠0/\zzy y=true then .nx (ρ1.set i (some (.lst (xs.set j y),d))) else .no
   | none=>.no)
  | _=>.no)
 | .exc c=>.exc c
 | .no=>.no
theorem qjc {f:Fx}{i:Nat}{k:Int}{D:Ends} (hal:∀ i,M.al i=[]) (hv:∀ i∈vs,M.Ms i=false) (hq:tS M (sPut i k f) D σ H):tAsg (tE M f vs) (gSub (tVar i) (tC (.int k)) qbf) D σ H:=by
 obtain ⟨ρ,fps,rep,q⟩:=hq
 refine ⟨ρ,fps,rep,?_⟩
 unfold sPut at q
 cases ef:f ρ with
 | no=>rw [ef] at q;exact q
 | exc c=>rw [ef] at q;exact λ H' fps' k=>q _ H' fps' k.ks
 | ok p=>
  obtain ⟨y,e,ρ1⟩:=p
  rw [ef] at q
  intro w H1 fps1 fp k1 g1 rep1 o1 t1
  dsimp only at q
  split at q
  ·rename_i xs d es
   split at q
   ·rename_i j ej
    split at q
    ·rename_i hc
     obtain ⟨rfl,_⟩:=Own.atom (Z':=λ _=>True) (d':=0) hc.2 o1
     obtain ⟨v',hσ',ol⟩:=rep1.own0 hal i _ _ es
     obtain ⟨a,ws,fc,rfl,ha,hfp,nac,hol⟩:=ol.list hc.1
     have hai:a∈fps1 i:=by rw [hfp];exact ja1
     refine ⟨_,hσ',a,ws,k,j,rfl,rfl,ha,by rw [hol.length];exact ej,?_⟩
     have rp:Rep (M.plus []) ρ1 σ H1 fps1:=rep.wide (λ i j hj=>by rw [hal i] at hj;cases hj) k1 g1 rep1 λ b hb=>nomatch hb
     obtain ⟨fc',hs',hset⟩:=hol.set (Own.atom (d':=pd d) hc.2 o1).2 j
     have inI:∀ b,b∈a::fc'->b∈fps1 i:=λ b hb=>(jb2.mp hb).elim (λ z=>by rw [z];exact hai) λ z=>by rw [hfp];exact ja0 _ (hs' b z)
     have hst:KS M H fps (upd H1 a (.lst (ws.set j w))) (λ j=>if j=i then a::fc' else fps1 j):=by
      refine ⟨λ b u hb n=>?_,λ b hb=>?_,λ j b hb=>?_⟩
      ·have hb1:=k1.ks.keep b u hb n
       rw [zqg]
       ·exact hb1
       ·rintro rfl
        rcases k1.ks.sub i b hai with z | z
        ·exact n z
        ·rw [z] at hb;cases hb
      ·by_cases eb:b=a
       ·rw [eb,zqj];simp
       ·rw [zqg eb];exact k1.dom b hb
      ·by_cases ej:j=i
       ·simp only [if_pos ej] at hb;exact k1.ks.sub i b (inI b hb)
       ·simp only [if_neg ej] at hb;exact k1.ks.sub j b hb
     refine q σ _ _ hst (rp.rewrite hal es hσ' ha hfp (λ z=>nac (hs' a z)) (λ b hb=>.inl (hs' b hb)) hc.1 (λ h=>rep1.msf i _ _ h es) (λ b hb=>nomatch hb) ?_)
     have nz:∀ b,Zf M (λ j=>if j=i then a::fc' else fps1 j) b->Zf M fps1 b:=λ b h=>by
      rcases h with z | ⟨j,z⟩
      ·exact .inl z
      ·by_cases ej:j=i
       ·simp only [if_pos ej] at z;exact .inr ⟨i,inI b z⟩
       ·simp only [if_neg ej] at z;exact .inr ⟨j,z⟩
     exact hset.at (.inr ⟨i,hai⟩) ⟨.l ws,ha⟩ (λ z=>nac (hs' a z)) λ b _ n z=>n (nz b z)
    ·exact q.elim
   ·exact q.elim
  ·exact q.elim
end
section
variable {is:List Nat}{M:Fm}{ρ ρ':Rho}{σ σ':St}{H H' H'':Hp}{fps fps' fps'':Fps}{vs vs':List Nat}
theorem Rep.plus0 (hal:∀ i,∀ j∈M.al i,M.Ms j=false) (r:Rep M ρ σ H fps):Rep (M.plus []) ρ σ H fps:=r.wide hal KD.refl Agr.refl r (λ _ z=>nomatch z)
def GOk (M:Fm) (al is:List Nat) (g:TG) (asg:PV->Rho->Option Rho):Prop:=∀ y v ρ σ H fps ρ' (Q:St->Hp->Prop),Rep M ρ σ H fps->Own M.K H (Zv M al fps) y 0 v []->asg y ρ=some ρ'->(∀ σ' fps',(∀ i,∀ a∈fps' i,a∈fps i)->(∀ i,i∉is->ρ'[i]?=ρ[i]?/\fps' i=fps i/\σ'[i]?=σ[i]?)->ρ'.length=ρ.length->Rep M ρ' σ' H fps'->Q σ' H)->g v σ H Q
def asgN (i:Nat):PV->Rho->Option Rho:=λ y ρ=>if i < ρ.length then some (ρ.set i (some (y,dv y))) else none
theorem Own.dv {K:Frag}{Z:Addr->Prop}{x:PV}{v:V} (h:Own K H Z x 0 v []):Own K H Z x (dv x) v []:=Own.view (fp:=[]) (λ _ z=>z) (λ _ z=>nomatch z) h
structure Bd (M:Fm) (al:List Nat) (i:Nat):Prop where
 ms:M.Ms i=false
 io:M.Fre i
 al:M.al i=al
 als:∀ i,∀ j∈M.al i,M.Ms j=false
theorem Rep.bind1 {al:List Nat}{i:Nat}{y:PV}{v:V} (r:Rep M ρ σ H fps) (o:Own M.K H (Zv M al fps) y 0 v []) (hi:i < ρ.length) (b:Bd M al i):
  Rep M (ρ.set i (some (y,dv y))) (σ.set i (some v)) H (λ j=>if j=i then [] else fps j):=by
 refine (r.plus0 b.als).put (o.dv.weak λ a h=>h.elim (λ h=>?_) λ z=>nomatch z) (λ _ z=>nomatch z) hi (λ h=>by rw [b.ms] at h;cases h) b.io
 rcases h with h | ⟨j,nj,h⟩
 ·exact .inl h
 ·exact .inr ⟨j,by rw [b.al] at nj;exact nj,h⟩
theorem qf3 {al:List Nat}{i:Nat} (b:Bd M al i):GOk M al [i] (zjb i) (asgN i):=by
 intro y v ρ σ H fps ρ' Q r o e q
 unfold asgN at e
 split at e
 ·rename_i hi
  cases e
  refine q _ _ (λ j a ha=>?_) (λ j nj=>?_) (by rw [je0]) (r.bind1 o hi b)
  ·by_cases e:j=i
   ·simp only [if_pos e] at ha;cases ha
   ·simp only [if_neg e] at ha;exact ha
  ·have e:j≠i:=λ e=>nj (by simp [e])
   exact ⟨jb9 (vc2 e),if_neg e,jb9 (vc2 e)⟩
 ·cases e
def zjs:List Nat->TGs
 | []=>gNil
 | i::is=>qld (zjb i) (zjs is)
def asgs:List Nat->List PV->Rho->Option Rho
 | [],[],ρ=>some ρ
 | i::is,y::ys,ρ=>(asgN i y ρ).bind (asgs is ys)
 | _,_,_=>none
def asgT (is:List Nat):PV->Rho->Option Rho:=λ y ρ=>match y with
 | .tup ys=>asgs is ys ρ
 | _=>none
theorem qcn {al:List Nat}:∀ (is:List Nat) (ys:List PV) (ws:List V) (ρ:Rho) (σ:St) (H:Hp) (fps:Fps) (ρ':Rho) (Q:St->Hp->Prop),(∀ i∈is,Bd M al i)->Rep M ρ σ H fps->OwnL M.K H (Zv M al fps) ys 0 ws []->asgs is ys ρ=some ρ' ->
  (∀ σ' fps',(∀ i,∀ a∈fps' i,a∈fps i)->(∀ i,i∉is->ρ'[i]?=ρ[i]?/\fps' i=fps i/\σ'[i]?=σ[i]?)->ρ'.length=ρ.length->Rep M ρ' σ' H fps'->Q σ' H)->ws.length=is.length/\zjs is ws σ H Q
 | [],[],ws,ρ,σ,H,fps,ρ',Q,_,r,o,e,q=>by
  rw [OwnL] at o
  obtain ⟨rfl,_⟩:=o
  cases e
  exact ⟨rfl,rfl,q σ fps (λ _ _ h=>h) (λ _ _=>⟨rfl,rfl,rfl⟩) rfl r⟩
 | [],_::_,_,_,_,_,_,_,_,_,_,_,e,_=>by cases e
 | _::_,[],_,_,_,_,_,_,_,_,_,_,e,_=>by cases e
 | i::is,y::ys,ws,ρ,σ,H,fps,ρ',Q,hs,r,o,e,q=>by
  rw [OwnL] at o
  obtain ⟨v,s,f1,f2,rfl,ef,_,o1,o2⟩:=o
  obtain ⟨rfl,rfl⟩:f1=[]/\f2=[]:=by simpa using ef.symm
  unfold asgs at e
  cases e1:asgN i y ρ with
  | none=>rw [e1] at e;cases e
  | some ρ1=>
   rw [e1] at e
   unfold asgN at e1
   split at e1
   ·rename_i hi
    cases e1
    have bi:=hs i ja1
    have r':=r.bind1 o1 hi bi
    have sub:∀ j a,a∈(λ j=>if j=i then [] else fps j) j->a∈fps j:=λ j a z=>by
     by_cases ej:j=i
     ·simp only [if_pos ej] at z;cases z
     ·simp only [if_neg ej] at z;exact z
    have o2':OwnL M.K H (Zv M al (λ j=>if j=i then [] else fps j)) ys 0 s []:=o2.weak λ a h=>h.elim .inl λ ⟨j,nj,z⟩=>.inr ⟨j,nj,sub j a z⟩
    obtain ⟨hl,hg⟩:=qcn is ys s _ _ H _ ρ' Q (λ j hj=>hs j (ja0 _ hj)) r' o2' e λ σ' fps' k' a' l' r''=>q σ' fps' (λ j a ha=>sub j a (k' j a ha)) (λ j hj=>by
     have ej:j≠i:=λ e=>hj (by rw [e];exact ja1)
     obtain ⟨z1,z2,z3⟩:=a' j λ z=>hj (ja0 _ z)
     rw [if_neg ej] at z2
     exact ⟨z1.trans (jb9 (vc2 ej)),z2,z3.trans (jb9 (vc2 ej))⟩) (l'.trans (by rw [je0])) r''
    exact ⟨by rw [jb8,jb8,hl],v,s,rfl,hg⟩
   ·cases e1
theorem qh3 {al:List Nat}{is:List Nat} (hs:∀ i∈is,Bd M al i):GOk M al is (gTup M.K is.length (zjs is)) (asgT is):=by
 intro y v ρ σ H fps ρ' Q r o e q
 unfold asgT at e
 split at e
 ·rename_i ys
  rw [Own] at o
  obtain ⟨a,ws,rfl,hr,ol⟩:=o
  obtain ⟨hl,hg⟩:=qcn is ys ws ρ σ H fps ρ' Q hs r ol e q
  exact ⟨a,ws,rfl,.inl (.inl hr),hl,hg⟩
 ·cases e
def zvc (asg:PV->Rho->Option Rho) (body:Fs):List PV->Rho->Rs
 | [],ρ=>.nx ρ
 | x::xs,ρ=>match asg x ρ with
  | none=>.no
  | some ρ1=>match body ρ1 with
   | .nx ρ2=>zvc asg body xs ρ2
   | .ct ρ2=>zvc asg body xs ρ2
   | .bk ρ2=>.nx ρ2
   | .rt x d ρ2=>.rt x d ρ2
   | .exc c=>.exc c
   | .no=>.no
theorem zbu {g:TG}{asg:PV->Rho->Option Rho}{body:Fs}{D:Ends}{J:It}{els:List PV}{Pq:Hp->Fps->Prop} (hg:GOk M [] is g asg)
  (hP:∀ {ρ σ H fps H' fps'},Rep M ρ σ H fps->KS M H fps H' fps'->Pq H fps->Pq H' fps') (hgo:∀ {H fps i},Pq H fps->i < els.length->J.go i H) (hst:∀ {H fps i},Pq H fps->els.length<=i->J.stop i H)
  (hy:∀ {ρ σ H fps i x H'},Rep M ρ σ H fps->Pq H fps->i < els.length->J.yld i H x H'->(∀ a o,H a=some o->H' a=some o)/\∃ y,els[i]?=some y/\Own M.K H' (Zf M fps) y 0 x [])
  (rep:Rep M ρ σ H fps) (p:Pq H fps) (q:RsOk M D H fps (zvc asg body els ρ)):
  ∃ W:Nat->Nat->St->Hp->Prop,(∃ m,W 0 m σ H)/\∀ i m σ H,W i m σ H ->
   (J.stop i H/\D.nx σ H)\/(J.go i H/\∃ N:St->Hp->Prop,(∀ σ' H',N σ' H'->∃ m',m' < m/\W (i + 1) m' σ' H')/\∀ x H',J.yld i H x H'->g x σ H' λ σ2 H2=>(tS M body) { D with nx:=N,ct:=N,bk:=D.nx } σ2 H2):=by
 let W:Nat->Nat->St->Hp->Prop:=λ i m σ H=>m=els.length - i/\∃ ρ fps,Rep M ρ σ H fps/\Pq H fps/\RsOk M D H fps (zvc asg body (els.drop i) ρ)
 refine ⟨W,⟨els.length,by simp,ρ,fps,rep,p,by simpa using q⟩,?_⟩
 rintro i m σ H ⟨rfl,ρ,fps,r,p,q⟩
 by_cases hi:i < els.length
 ·right
  refine ⟨hgo p hi,W (i + 1) (els.length - (i + 1)),λ σ' H' w=>⟨_,by omega,w⟩,λ x H' y=>?_⟩
  obtain ⟨kx,z,ez,oz⟩:=hy r p hi y
  have k0:KS M H fps H' fps:=(KD.grow kx).ks
  have p:=hP r k0 p
  have r:=r.grow kx
  have q:=RsOk.from k0 q
  have ed:els.drop i=z::els.drop (i + 1):=by
   obtain ⟨h1,h2⟩:=ja8.mp ez
   rw [<- h2];exact jj2 h1
  rw [ed] at q
  unfold zvc at q
  cases ea:asg z ρ with
  | none=>rw [ea] at q;exact q.elim
  | some ρ1=>
   rw [ea] at q
   dsimp only at q
   refine hg z x ρ σ _ fps ρ1 _ r (oz.weak λ a h=>h.zf) ea λ σ1 fps1 s1 _ _ r1=>⟨ρ1,fps1,r1,?_⟩
   have k1:KS M H' fps H' fps1:=⟨λ _ _ h _=>h,λ _ h=>h,λ j a ha=>.inl ⟨j,s1 j a ha⟩⟩
   have p1:=hP r k1 p
   cases eb:body ρ1 with
   | no=>rw [eb] at q;exact q
   | exc c=>rw [eb] at q;exact RsOk.from (r:=.exc c) k1 q
   | rt x d ρ2=>rw [eb] at q;exact RsOk.from (r:=.rt x d ρ2) k1 q
   | bk ρ2=>rw [eb] at q;exact λ σ' H' fps' k=>q σ' H' fps' (k1.trans k)
   | nx ρ2=>rw [eb] at q;exact λ σ' H' fps' k r'=>⟨rfl,ρ2,fps',r',hP r1 k p1,RsOk.from (k1.trans k) q⟩
   | ct ρ2=>rw [eb] at q;exact λ σ' H' fps' k r'=>⟨rfl,ρ2,fps',r',hP r1 k p1,RsOk.from (k1.trans k) q⟩
 ·left
  have ed:els.drop i=[]:=jk2 (by omega)
  rw [ed] at q
  exact ⟨hst p (by omega),q σ H fps KS.refl r⟩
def zzh (lo:Int) (n:Nat):List PV:=(jc6 n).map λ (i:Nat)=>PV.int (lo + (i:Int))
theorem zwh (lo:Int) (n:Nat):(zzh lo n).length=n:=by simp [zzh]
def zxa:List (PV×Nat)->Option (Int×Int)
 | [(.int j,_)]=>if -(2 ^ 62)<=j/\j < 2 ^ 62 then some (0,j) else none
 | _=>none
def zyt:List (PV×Nat)->Option (Int×Int)
 | [(.int i,_),(.int j,_)]=>if -(2 ^ 62)<=i/\i < 2 ^ 62/\-(2 ^ 62)<=j/\j < 2 ^ 62 then some (i,j) else none
 | _=>none
def zzt (en:List (PV×Nat)->Option (Int×Int)) (fa:Fa) (asg:PV->Rho->Option Rho) (body:Fs):Fs:=λ ρ=>match fa ρ with
 | .ok (xs,ρ1)=>(match en xs with
  | some (i,j)=>zvc asg body (zzh i (j - i).toNat) ρ1
  | none=>.no)
 | .exc c=>.exc c
 | .no=>.no
theorem zvo {g:TG}{asg:PV->Rho->Option Rho}{body:Fs}{D:Ends}{lo:Int}{n:Nat} (hg:GOk M [] is g asg) (rep:Rep M ρ σ H fps) (q:RsOk M D H fps (zvc asg body (zzh lo n) ρ)):
  ∃ W:Nat->Nat->St->Hp->Prop,(∃ m,W 0 m σ H)/\∀ i m σ H,W i m σ H ->
   ((Itr lo n).stop i H/\D.nx σ H)\/((Itr lo n).go i H/\∃ N:St->Hp->Prop,(∀ σ' H',N σ' H'->∃ m',m' < m/\W (i + 1) m' σ' H')/\∀ x H',(Itr lo n).yld i H x H'->g x σ H' λ σ2 H2=>(tS M body) { D with nx:=N,ct:=N,bk:=D.nx } σ2 H2):=by
 refine zbu (Pq:=λ _ _=>True) hg (λ _ _ _=>trivial) (λ {H fps i} _ h=>?_) (λ {H fps i} _ h=>?_) (λ {ρ σ H fps i x H'} _ _ h y=>?_) rep trivial q
 ·rw [zwh] at h;exact h
 ·rw [zwh] at h;exact h
 ·rw [zwh] at h
  obtain ⟨e1,e2⟩:=y
  subst e1
  exact ⟨λ _ _ h=>h,.int (lo + i),by simp [zzh,h],by rw [e2,Own];exact ⟨rfl,rfl⟩⟩
theorem qa1 {g:TG}{asg:PV->Rho->Option Rho}{body:Fs}{fa:Fa}{D:Ends} (hg:GOk M [] is g asg) (hq:tS M (zzt zxa fa asg body) D σ H):tFor (qej (tL M fa vs)) g (tS M body) D σ H:=by
 obtain ⟨ρ,fps,rep,q⟩:=hq
 refine ⟨ρ,fps,rep,?_⟩
 unfold zzt at q
 cases ef:fa ρ with
 | no=>rw [ef] at q;exact q
 | exc c=>rw [ef] at q;exact λ H' fps' k=>q _ H' fps' k.ks
 | ok p=>
  obtain ⟨xs,ρ1⟩:=p
  rw [ef] at q
  intro ws H1 fps1 f1 k1 g1 rep1 o1 t1
  dsimp only at q
  cases ee:zxa xs with
  | none=>rw [ee] at q;exact q.elim
  | some ij=>
   obtain ⟨i,j⟩:=ij
   rw [ee] at q
   unfold zxa at ee
   split at ee
   ·rename_i j' d
    split at ee
    ·rename_i hb
     cases ee
     obtain ⟨v,r,f1,f2,rfl,_,_,h1,h2⟩:=o1
     obtain ⟨rfl,_⟩:=h2
     rw [Own] at h1
     obtain ⟨rfl,_⟩:=h1
     refine ⟨j,rfl,hb.1,hb.2,?_⟩
     have e:(j - 0).toNat=j.toNat:=by omega
     dsimp only at q
     rw [e] at q
     exact zvo hg rep1 (RsOk.from k1.ks q)
    ·cases ee
   ·cases ee
theorem qa0 {g:TG}{asg:PV->Rho->Option Rho}{body:Fs}{fa:Fa}{D:Ends} (hg:GOk M [] is g asg) (hq:tS M (zzt zyt fa asg body) D σ H):tFor (qei (tL M fa vs)) g (tS M body) D σ H:=by
 obtain ⟨ρ,fps,rep,q⟩:=hq
 refine ⟨ρ,fps,rep,?_⟩
 unfold zzt at q
 cases ef:fa ρ with
 | no=>rw [ef] at q;exact q
 | exc c=>rw [ef] at q;exact λ H' fps' k=>q _ H' fps' k.ks
 | ok p=>
  obtain ⟨xs,ρ1⟩:=p
  rw [ef] at q
  intro ws H1 fps1 f1 k1 g1 rep1 o1 t1
  dsimp only at q
  cases ee:zyt xs with
  | none=>rw [ee] at q;exact q.elim
  | some ij=>
   obtain ⟨i,j⟩:=ij
   rw [ee] at q
   unfold zyt at ee
   split at ee
   ·rename_i i' d j' d'
    split at ee
    ·rename_i hb
     cases ee
     obtain ⟨v,r,f1,f2,rfl,_,_,h1,h2⟩:=o1
     obtain ⟨v2,r2,f3,f4,rfl,_,_,h3,h4⟩:=h2
     obtain ⟨rfl,_⟩:=h4
     rw [Own] at h1 h3
     obtain ⟨rfl,_⟩:=h1
     obtain ⟨rfl,_⟩:=h3
     exact ⟨i,j,rfl,hb,zvo hg rep1 (RsOk.from k1.ks q)⟩
    ·cases ee
   ·cases ee
def zyd (z:Str):List PV:=z.cps.toList.map λ c=>.str ⟨#[c]⟩
def zbh (f:Fx) (vs:List Nat) (asg:PV->Rho->Option Rho) (body:Fs):Fs:=λ ρ=>match f ρ with
 | .ok (.str z,d,ρ1)=>if zht z=true then zvc asg body (zyd z) (zxb d vs ρ1) else .no
 | .ok (.lst xs,d,ρ1)=>zvc asg body xs (zxb d vs ρ1)
 | .ok (.tup xs,d,ρ1)=>zvc asg body xs (zxb d vs ρ1)
 | .ok _=>.no
 | .exc c=>.exc c
 | .no=>.no
theorem OwnL.get {K:Frag}{Z:Addr->Prop}:∀ {xs:List PV}{ws:List V}{i:Nat}{w:V},OwnL K H Z xs 0 ws []->ws[i]?=some w->∃ x,xs[i]?=some x/\Own K H Z x 0 w []
 | [],ws,i,w,h,e=>by
  rw [OwnL] at h
  obtain ⟨rfl,_⟩:=h
  simp at e
 | x::xs,ws,i,w,h,e=>by
  rw [OwnL] at h
  obtain ⟨v,s,f1,f2,rfl,ef,_,o1,o2⟩:=h
  obtain ⟨rfl,rfl⟩:f1=[]/\f2=[]:=by simpa using ef.symm
  cases i with
  | zero=>simp at e;subst e;exact ⟨x,by simp,o1⟩
  | succ i=>obtain ⟨y,e1,e2⟩:=o2.get (i:=i) (w:=w) (by simpa using e);exact ⟨y,by simpa using e1,e2⟩
theorem Rep.seen {x:PV}{d:Nat}{v:V}{fp:List Addr} (rep:Rep M ρ σ H fps) (k:KD M H fps H' fps') (g:Agr M ρ ρ') (r':Rep M ρ' σ H' fps') (o:Own M.K H' (Zt M vs fps' fp) x d v fp) (t:Temp M vs H H' fps' fp)
  (hal:∀ i,M.al i=[]) (hv:∀ i∈vs,M.Ms i=false):∃ fps2,KS M H fps H' fps2/\Rep M (zxb d vs ρ') σ H' fps2/\Own M.K H' (Zf M fps2) x 0 v []:=by
 unfold zxb
 by_cases hd:d=om
 ·rw [if_pos hd]
  rw [hd] at o
  exact ⟨fps',k.ks,r',Own.freeze (λ _ z=>z) x om v fp (λ a ha=>t.ndj a ha) (Own.full x v fp o)⟩
 ·rw [if_neg hd]
  exact ⟨zvq vs fps',k.ks.cool,r'.cool hal hv,Own.freeze (λ a h=>.inl (zve h)) x d v fp (λ a ha z=>t.ndj a ha (zve z).zf) o⟩
theorem qaz {g:TG}{asg:PV->Rho->Option Rho}{body:Fs}{f:Fx}{D:Ends} (hal:∀ i,M.al i=[]) (hv:∀ i∈vs,M.Ms i=false) (hg:GOk M [] is g asg) (hq:tS M (zbh f vs asg body) D σ H):tFor (iSeq M.K (tE M f vs)) g (tS M body) D σ H:=by
 obtain ⟨ρ,fps,rep,q⟩:=hq
 refine ⟨ρ,fps,rep,?_⟩
 unfold zbh at q
 cases ef:f ρ with
 | no=>rw [ef] at q;exact q
 | exc c=>rw [ef] at q;exact λ H' fps' k=>q _ H' fps' k.ks
 | ok p=>
  obtain ⟨x,d,ρ1⟩:=p
  rw [ef] at q
  intro v H1 fps1 f1 k1 g1 rep1 o1 t1
  obtain ⟨fps2,k2,r2,o2⟩:=Rep.seen rep k1 g1 rep1 o1 t1 hal hv
  cases x with
  | lst xs=>
   have o2':=o2
   rw [Own] at o2'
   obtain ⟨a,ws,rfl,⟨_,hr,_,ol⟩ | ⟨h,_⟩⟩:=o2'
   ·have sq:SqL M.K H1 a ws:=.inl (.inl hr.1)
    refine .inl ⟨a,rfl,.inl ⟨⟨ws,sq⟩,?_⟩⟩
    have one:∀ {H:Hp}{fps:Fps},Own M.K H (Zf M fps) (.lst xs) 0 (.ref a) []->∃ ws,SqL M.K H a ws/\OwnL M.K H (Zf M fps) xs 0 ws []:=λ o=>by
     rw [Own] at o
     obtain ⟨b,ws,e,⟨_,hr,_,ol⟩ | ⟨h,_⟩⟩:=o
     ·cases e;exact ⟨ws,.inl (.inl hr.1),ol⟩
     ·exact absurd rfl h
    refine zbu (Pq:=λ H fps=>Own M.K H (Zf M fps) (.lst xs) 0 (.ref a) []) (els:=xs) hg (λ r k o=>k.stay0 r o) (λ {H fps i} o h=>?_) (λ {H fps i} o h=>?_) (λ {ρ σ H fps i x H'} _ o h y=>?_) r2 o2 (RsOk.from k2 q)
    ·obtain ⟨ws,s,ol⟩:=one o
     exact ⟨ws,ws[i]'(by rw [ol.length];exact h),s,by simp⟩
    ·obtain ⟨ws,s,ol⟩:=one o
     exact ⟨ws,s,by rw [ol.length];exact h⟩
    ·obtain ⟨ws,s,ol⟩:=one o
     obtain ⟨e1,e2⟩:=y
     subst e1
     exact ⟨λ _ _ h=>h,ol.get (e2 ws s)⟩
   ·exact absurd rfl h
  | tup xs=>
   have o2':=o2
   rw [Own] at o2'
   obtain ⟨a,ws,rfl,hr,ol⟩:=o2'
   refine .inl ⟨a,rfl,.inr ⟨⟨ws,.inl (.inl hr)⟩,?_⟩⟩
   have one:∀ {H:Hp}{fps:Fps},Own M.K H (Zf M fps) (.tup xs) 0 (.ref a) []->∃ ws,SqT M.K H a ws/\OwnL M.K H (Zf M fps) xs 0 ws []:=λ o=>by
    rw [Own] at o
    obtain ⟨b,ws,e,hr,ol⟩:=o
    cases e;exact ⟨ws,.inl (.inl hr),ol⟩
   refine zbu (Pq:=λ H fps=>Own M.K H (Zf M fps) (.tup xs) 0 (.ref a) []) (els:=xs) hg (λ r k o=>k.stay0 r o) (λ {H fps i} o h=>?_) (λ {H fps i} o h=>?_) (λ {ρ σ H fps i x H'} _ o h y=>?_) r2 o2 (RsOk.from k2 q)
   ·obtain ⟨ws,s,ol⟩:=one o
    exact ⟨ws,ws[i]'(by rw [ol.length];exact h),s,by simp⟩
   ·obtain ⟨ws,s,ol⟩:=one o
    exact ⟨ws,s,by rw [ol.length];exact h⟩
   ·obtain ⟨ws,s,ol⟩:=one o
    obtain ⟨e1,e2⟩:=y
    subst e1
    exact ⟨λ _ _ h=>h,ol.get (e2 ws s)⟩
  | str z=>
   have o2':=o2
   rw [Own] at o2'
   obtain ⟨rfl,_⟩:=o2'
   dsimp only at q
   split at q
   ·rename_i ha
    refine .inr ⟨z,rfl,ha,?_⟩
    have hl:(zyd z).length=z.cps.size:=by unfold zyd;rw [ja6,jf7]
    refine zbu (Pq:=λ _ _=>True) (els:=zyd z) hg (λ _ _ _=>trivial) (λ {H fps i} _ h=>?_) (λ {H fps i} _ h=>?_) (λ {ρ σ H fps i x H'} _ _ h y=>?_) r2 trivial (RsOk.from k2 q)
    ·show i < z.cps.size
     omega
    ·show z.cps.size<=i
     omega
    ·obtain ⟨rfl,c,hc,rfl⟩:=y
     refine ⟨λ _ _ h=>h,.str ⟨#[c]⟩,?_,by rw [Own];exact ⟨rfl,rfl⟩⟩
     unfold zyd
     rw [jc2,jl0,hc]
     rfl
   ·exact q.elim
  | _=>exact q.elim
end
section
variable {M:Fm}{ρ ρ':Rho}{σ σ':St}{H H' H'':Hp}{fps fps' fps'':Fps}{vs vs':List Nat}
def Fm.comp (M:Fm) (D:Addr) (n:Nat) (vI:List Nat):Fm:={ M.plus [D] with W:=λ _ _ _=>False,al:=λ j=>if j < n then M.al j else vI }
theorem Rep.minus {fp:List Addr} (r:Rep (M.plus fp) ρ σ H fps):Rep M ρ σ H fps where
 own:=λ i x d e=>let ⟨v,h1,h2⟩:=r.own i x d e;⟨v,h1,h2.weak λ a h=>h.elim (λ h=>.inl (.inl h)) .inr⟩
 non:=r.non
 dj:=r.dj
 zo:=λ i a ha z=>r.zo i a ha (.inl z)
 fr:=r.fr
 zd:=λ a z=>r.zd a (.inl z)
 len:=r.len
 msf:=r.msf
 h0:=r.h0
 iov:=r.iov
theorem Rep.far (r:Rep M ρ σ H fps) {j:Nat} (h:ρ.length<=j):fps j=[]:=r.non j λ p e=>by
 rw [jg5.mpr h] at e;cases e
theorem Rep.ext {D:Addr}{k:Nat}{vI:List Nat} (r:Rep (M.plus [D]) ρ σ H fps):Rep (M.comp D ρ.length vI) (ρ++ja9 k none) (σ++ja9 k none) H fps where
 own:=λ i x d e=>by
  by_cases hi:i < ρ.length
  ·rw [jb5 hi] at e
   obtain ⟨v,h1,h2⟩:=r.own i x d e
   refine ⟨v,by rw [jb5 (by rw [<- r.len];exact hi)];exact h1,h2.weak λ a h=>?_⟩
   rcases h with h | ⟨j,nj,h⟩
   ·exact .inl h
   ·refine .inr ⟨j,?_,h⟩
    have:(M.comp D ρ.length vI).al i=M.al i:=if_pos hi
    rw [this] at nj;exact nj
  ·rw [jc5 (by omega),jd5] at e
   split at e <;> cases e
 non:=λ i h=>by
  by_cases hi:i < ρ.length
  ·exact r.non i λ p e=>h p (by rw [jb5 hi];exact e)
  ·exact r.far (by omega)
 dj:=r.dj
 zo:=r.zo
 fr:=r.fr
 zd:=r.zd
 len:=by simp [r.len]
 msf:=λ i x d hm e=>by
  by_cases hi:i < ρ.length
  ·rw [jb5 hi] at e;exact r.msf i x d hm e
  ·rw [jc5 (by omega),jd5] at e
   split at e <;> cases e
 h0:=r.h0
 iov:=⟨λ v hv=>by
  have h:=r.iov.1 v hv
  refine ⟨?_,h.2⟩
  have:0 < σ.length:=(ja8.mp h.1).1
  rw [jb5 this];exact h.1,λ p hp=>by
  have h:=r.iov.2 p hp
  rw [jb5 (ja8.mp h).1];exact h⟩
def cut (n:Nat) (fps:Fps):Fps:=λ j=>if j < n then fps j else []
theorem zze {n i:Nat}{a:Addr} (h:a∈cut n fps i):a∈fps i/\i < n:=by
 unfold cut at h
 split at h
 ·rename_i hi;exact ⟨h,hi⟩
 ·cases h
theorem Rep.take {D:Addr}{n:Nat}{vI:List Nat} (r:Rep (M.comp D n vI) ρ σ H fps) (hσ:∀ i,i < n->σ[i]?=σ'[i]?) (hl:σ'.length=n) (hn:n<=ρ.length) (hio:(M.io≠none->0 < n)/\∀ p∈M.pn,p.1 < n):Rep (M.plus [D]) (ρ.take n) σ' H (cut n fps) where
 own:=λ i x d e=>by
  have hi:i < n:=by
   have:=(ja8.mp e).1
   rw [jd1] at this;omega
  rw [je6 hi] at e
  obtain ⟨v,h1,h2⟩:=r.own i x d e
  refine ⟨v,by rw [<- hσ i hi];exact h1,?_⟩
  have:cut n fps i=fps i:=if_pos hi
  rw [this]
  refine h2.weak λ a h=>?_
  rcases h with h | ⟨j,nj,h⟩
  ·exact .inl h
  ·refine .inr ⟨j,?_,(zze h).1⟩
   have:(M.comp D n vI).al i=M.al i:=if_pos hi
   rw [this];exact nj
 non:=λ i h=>by
  unfold cut
  split
  ·rename_i hi
   exact r.non i λ p e=>h p (by rw [je6 hi];exact e)
  ·rfl
 dj:=λ i j hij a ha hb=>r.dj i j hij a (zze ha).1 (zze hb).1
 zo:=λ i a ha=>r.zo i a (zze ha).1
 fr:=λ i hi a ha=>r.fr i hi a (zze ha).1
 zd:=r.zd
 len:=by rw [jd1,hl];omega
 msf:=λ i x d hm e=>by
  have hi:i < n:=by
   have:=(ja8.mp e).1
   rw [jd1] at this;omega
  rw [je6 hi] at e
  exact r.msf i x d hm e
 h0:=r.h0
 iov:=⟨λ v hv=>by
  have h:=r.iov.1 v hv
  refine ⟨?_,h.2⟩
  have h0:0 < n:=hio.1 (by
   have hv':M.io=some v:=hv
   rw [hv'];simp)
  rw [<- hσ 0 h0];exact h.1,λ p hp=>by rw [<- hσ p.1 (hio.2 p hp)];exact r.iov.2 p hp⟩
theorem Rep.touch {D:Addr}{us ws:List V} (r:Rep (M.plus [D]) ρ σ H fps) (hD:H D=some (.lst ws)):Rep (M.plus [D]) ρ σ (upd H D (.lst us)) fps:=by
 have zD:(M.plus [D]).Zo D:=.inr (by simp)
 have dm:∀ b,H b≠none->(upd H D (.lst us)) b≠none:=λ b h=>by
  by_cases eb:b=D
  ·rw [eb,zqj];simp
  ·rw [zqg eb];exact h
 exact ⟨λ i x d e=>let ⟨v,h1,h2⟩:=r.own i x d e;⟨v,h1,h2.at (.inl zD) ⟨.l ws,hD⟩ (λ z=>r.zo i D z zD) λ _ _ n=>n⟩,r.non,r.dj,r.zo,r.fr,λ a z=>dm a (r.zd a z),r.len,r.msf,λ a z=>dm a (r.h0 a z),r.iov⟩
theorem Tmps.snoc {K:Frag}{Z:Addr->Prop}{y:PV}{e:Nat}{w:V}{fe:List Addr} (hy:Own K H (λ a=>Z a\/a∈fe) y e w fe):∀ {xs:List (PV×Nat)}{ws:List V}{fp:List Addr},Tmps K H Z xs ws fp->(∀ a∈fp,a∉fe)->Tmps K H Z (xs++[(y,e)]) (ws++[w]) (fp++fe)
 | [],ws,fp,h,_=>by
  obtain ⟨rfl,rfl⟩:=h
  exact ⟨w,[],fe,[],rfl,by simp,λ _ _ z=>(nomatch z),hy,rfl,rfl⟩
 | (x,d)::xs,ws,fp,h,hd=>by
  obtain ⟨v,s,f1,f2,rfl,rfl,dj,h1,h2⟩:=h
  refine ⟨v,s++[w],f1,f2++fe,rfl,by rw [jg4],λ a ha hb=>?_,h1,h2.snoc hy λ a ha=>hd a (ja2 _ ha)⟩
  rcases jc0.mp hb with z | z
  ·exact dj a ha z
  ·exact hd a (ja4 _ ha) z
theorem Tmps.at {K:Frag}{Z:Addr->Prop}{a:Addr}{o:HO} (hZ:Z a) (hl:∃ o:MO,H a=some o.ho):∀ {xs:List (PV×Nat)}{ws:List V}{fp:List Addr},Tmps K H Z xs ws fp->a∉fp->Tmps K (upd H a o) Z xs ws fp
 | [],_,_,h,_=>h
 | (x,d)::xs,ws,fp,h,hf=>by
  obtain ⟨v,s,f1,f2,e1,rfl,dj,h1,h2⟩:=h
  exact ⟨v,s,f1,f2,e1,rfl,dj,h1.at (.inl hZ) hl (λ z=>hf (ja4 _ z)) λ _ _ n=>n,h2.at hZ hl λ z=>hf (ja2 _ z)⟩
theorem Tmps.lsts {K:Frag}{Z:Addr->Prop}:∀ {xs:List (PV×Nat)}{ws:List V}{fp:List Addr},Tmps K H Z xs ws fp->∀ a∈fp,∃ o:MO,H a=some o.ho
 | [],_,_,h,a,ha=>by rw [h.2] at ha;cases ha
 | (x,d)::xs,ws,fp,h,a,ha=>by
  obtain ⟨v,s,f1,f2,e1,rfl,dj,h1,h2⟩:=h
  rcases jc0.mp ha with z | z
  ·exact Own.lsts x d v f1 h1 a z
  ·exact h2.lsts a z
def Rz.bindN {α β:Type} (r:Rz α) (f:α->Rz β):Rz β:=match r with
 | .ok a=>f a
 | _=>.no
def zwo (k:Nat) (asg:PV->Rho->Option Rho) (test:Fb) (elt:Fx):List PV->Rho->List (PV×Nat)->Rz (List (PV×Nat)×Rho)
 | [],ρ,acc=>.ok (acc,ρ)
 | x::xs,ρ,acc=>match asg x (ρ++ja9 k none) with
  | none=>.no
  | some ρ1=>(test ρ1).bindN λ (b,ρ2)=>if b=true then (elt ρ2).bindN λ (y,e,ρ3)=>(if acc.length < va2 then zwo k asg test elt xs (ρ3.take ρ.length) (acc++[(y,e)]) else .no) else zwo k asg test elt xs (ρ2.take ρ.length) acc
theorem KD.seen {D:Addr}{x:PV}{v:V} (r:Rep M ρ σ H fps) (k:KD M H fps H' fps') (hD:H D=none) (hv:∀ i∈vs,M.Ms i=false) (o:Own M.K H (Zv M vs fps) x 0 v []):Own M.K H' (Zv (M.plus [D]) vs fps') x 0 v []:=by
 refine Own.move k.keep ?_ ?_ x 0 v [] (λ _ z=>nomatch z) o
 ·rintro a ⟨i,hi,ha⟩
  exact ⟨.inr ⟨i,λ z=>(by rw [hv i z] at hi;cases hi),ha⟩,r.lsts ha⟩
 ·intro a hd nz z
  rcases z with (z | z) | ⟨i,ni,hx⟩
  ·exact nz (.inl z)
  ·rw [jb6.mp z] at hd;exact hd hD
  ·rcases k.sub i a hx with z | z
   ·exact nz (.inr ⟨i,ni,z⟩)
   ·exact hd z
theorem zky {g:TG}{is vI vE vo:List Nat}{asg:PV->Rho->Option Rho}{test:Fb}{elt:Fx}{k:Nat}{J:It}{els:List PV}{Q:VK}{n:Nat}{P:Fm->Prop}
  (hP:∀ D,P (M.comp D n vI)) (hn:n=ρ.length) (hal:∀ i,∀ j∈M.al i,M.Ms j=false) (hvI:∀ i∈vI,M.Ms i=false) (hvE:∀ i∈vE,M.Ms i=false) (his:∀ i∈is,n<=i) (hg:∀ D,GOk (M.comp D n vI) vI is g asg) (hvo:∀ i,i∈vE->i < n->i∈vo) (hvo2:∀ i∈vo,M.Ms i=false)
  (rep:Rep M ρ σ H fps)
  (hgo:∀ {D H' fps' i},H D=none->KD M H fps H' fps'->i < els.length->J.go i H') (hst:∀ {D H' fps' i},H D=none->KD M H fps H' fps'->els.length<=i->J.stop i H')
  (hy:∀ {D H' fps' i x H''},H D=none->KD M H fps H' fps'->i < els.length->J.yld i H' x H''->(∀ a o,H' a=some o->H'' a=some o)/\∃ z,els[i]?=some z/\Own M.K H'' (Zv (M.plus [D]) vI fps') z 0 x [])
  (q:match zwo k asg test elt els ρ [] with
   | .ok (acc,ρ')=>∀ D ws H' fps' fpl,KD M H fps H' fps'->Agr M ρ ρ'->Rep (M.plus [D]) ρ' σ H' fps'->H D=none->H' D=some (.lst ws)->Tmps M.K H' (Zv (M.plus [D]) vo fps') acc ws fpl->(∀ a∈fpl,H a=none/\¬ Zf (M.plus [D]) fps' a)->Q (.ref D) H'
   | _=>False):
  ∀ D,H D=none->∃ W:Nat->Nat->List V->Hp->Prop,(∃ m,W 0 m [] (upd H D (.lst [])))/\∀ i m ys H1,W i m ys H1->H1 D=some (.lst ys) /\
   ((J.stop i H1/\Q (.ref D) H1)\/(J.go i H1/\∀ x H',J.yld i H1 x H'->g x (σ++ja9 k none) H' λ σ2 H2=>∃ M',P M'/\tT M' test σ2 H2 λ b H3=>if b=true then ∃ M',P M'/\tE M' elt vE σ2 H3 λ y H4=>H4 D=some (.lst ys)/\ys.length < va2/\∃ m',m' < m/\W (i + 1) m' (ys++[y]) (upd H4 D (.lst (ys++[y]))) else ∃ m',m' < m/\W (i + 1) m' ys H3)):=by
 intro D hD
 subst hn
 let W:Nat->Nat->List V->Hp->Prop:=λ i m ys H1=>m=els.length - i/\∃ ρ1 fps1 acc fpl,Rep (M.plus [D]) ρ1 σ H1 fps1/\KD M H fps H1 fps1/\Agr M ρ ρ1/\Tmps M.K H1 (Zv (M.plus [D]) vo fps1) acc ys fpl/\(∀ a∈fpl,H a=none/\¬ Zf (M.plus [D]) fps1 a)/\H1 D=some (.lst ys)/\zwo k asg test elt (els.drop i) ρ1 acc=zwo k asg test elt els ρ []
 have k0:KD M H fps (upd H D (.lst [])) fps:=KD.grow λ a o h=>by rw [zqg (λ e=>by rw [e,hD] at h;cases h)];exact h
 have r0:Rep (M.plus [D]) ρ σ (upd H D (.lst [])) fps:=by
  refine rep.wide hal k0 Agr.refl (rep.grow λ a o h=>by rw [zqg (λ e=>by rw [e,hD] at h;cases h)];exact h) λ a ha=>?_
  rw [jb6.mp ha]
  exact ⟨hD,by rw [zqj];simp,rep.nz hD⟩
 refine ⟨W,⟨els.length,by simp,ρ,fps,[],[],r0,k0,Agr.refl,⟨rfl,rfl⟩,λ _ z=>(nomatch z),zqj,by simp⟩,?_⟩
 rintro i m ys H1 ⟨rfl,ρ1,fps1,acc,fpl,r1,k1,g1,tm,hf,h1D,ec⟩
 refine ⟨h1D,?_⟩
 have hlen:ρ1.length=ρ.length:=g1.2
 by_cases hi:i < els.length
 ·right
  refine ⟨hgo hD k1 hi,λ x H' hyl=>?_⟩
  obtain ⟨kx,z,ez,oz⟩:=hy hD k1 hi hyl
  have tm:=KD.stays (M:=M.plus [D]) (KD.grow kx) r1 hvo2 tm λ a ha=>(hf a ha).2
  have r1:=r1.grow kx
  have k1:=k1.trans (KD.grow (M:=M) (fps:=fps1) kx)
  have h1D:=kx D _ h1D
  have ed:els.drop i=z::els.drop (i + 1):=by
   obtain ⟨h1,h2⟩:=ja8.mp ez
   rw [<- h2];exact jj2 h1
  rw [ed] at ec
  have good:∃ a r,zwo k asg test elt els ρ []=.ok (a,r):=by
   cases e:zwo k asg test elt els ρ [] with
   | ok p=>exact ⟨p.1,p.2,rfl⟩
   | exc c=>rw [e] at q;exact q.elim
   | no=>rw [e] at q;exact q.elim
  obtain ⟨accF,ρF,eF⟩:=good
  rw [eF] at ec
  unfold zwo at ec
  cases ea:asg z (ρ1++ja9 k none) with
  | none=>rw [ea] at ec;cases ec
  | some ρ2=>
   rw [ea] at ec
   dsimp only at ec
   have rx:Rep (M.comp D ρ.length vI) (ρ1++ja9 k none) (σ++ja9 k none) H' fps1:=by rw [<- hlen];exact r1.ext
   refine hg D z x _ _ H' fps1 ρ2 _ rx oz ea λ σ2 fps2 s2 a2 l2 r2=>⟨_,hP D,ρ2,fps2,r2,?_⟩
   have hl2:ρ2.length=ρ.length + k:=by rw [l2,jb3,je5,hlen]
   have same2:∀ j,j < ρ.length->ρ2[j]?=ρ1[j]?/\fps2 j=fps1 j/\σ2[j]?=σ[j]?:=λ j hj=>by
    obtain ⟨z1,z2,z3⟩:=a2 j λ z=>absurd (his j z) (by omega)
    rw [jb5 (by omega)] at z1
    rw [jb5 (by rw [<- rep.len];omega)] at z3
    exact ⟨z1,z2,z3⟩
   have kd2:KD (M.comp D ρ.length vI) H' fps1 H' fps2->True:=λ _=>trivial
   cases et:test ρ2 with
   | exc c=>rw [et] at ec;cases ec
   | no=>rw [et] at ec;cases ec
   | ok p=>
    obtain ⟨b,ρ3⟩:=p
    rw [et] at ec
    intro H3 fps3 k3 g3 r3
    dsimp only [Rz.bindN] at ec
    have far:∀ {ρ4:Rho}{H4:Hp}{fps4:Fps},KD (M.comp D ρ.length vI) H' fps2 H4 fps4->Agr (M.comp D ρ.length vI) ρ2 ρ4->Rep (M.comp D ρ.length vI) ρ4 σ2 H4 fps4 ->
      KD M H fps H4 (cut ρ.length fps4)/\KD M H' fps1 H4 (cut ρ.length fps4)/\Agr M ρ (ρ4.take ρ.length)/\Rep (M.plus [D]) (ρ4.take ρ.length) σ H4 (cut ρ.length fps4)/\H4 D=some (.lst ys):=λ {ρ4 H4 fps4} k4 g4 r4=>by
     have kk:KD M H' fps1 H4 (cut ρ.length fps4):=by
      refine ⟨λ a o ha hn=>k4.keep a o ha λ ⟨j,hj,hx⟩=>hn ⟨j,hj,s2 j a hx⟩,k4.dom,λ j a ha=>?_,λ j hj=>?_⟩
      ·rcases k4.sub j a (zze ha).1 with z | z
       ·exact .inl (s2 j a z)
       ·exact .inr z
      ·unfold cut
       by_cases hjl:j < ρ.length
       ·rw [if_pos hjl,k4.same j hj];exact (same2 j hjl).2.1
       ·rw [if_neg hjl];exact (r1.far (by omega)).symm
     refine ⟨k1.trans kk,kk,?_,r4.take (σ':=σ) (λ j hj=>(same2 j hj).2.2) rep.len.symm (by rw [g4.2,hl2];omega) ⟨λ hio=>?_,λ p hp=>by rw [rep.len];exact (ja8.mp (rep.iov.2 p hp)).1⟩,?_⟩
     ·refine ⟨λ j hj=>?_,by rw [jd1,g4.2,hl2];omega⟩
      by_cases hjl:j < ρ.length
      ·rw [je6 hjl,g4.1 j hj,(same2 j hjl).1];exact g1.1 j hj
      ·rw [jg5.mpr (by rw [jd1];omega),jg5.mpr (by omega)]
     ·cases e:M.io with
      | none=>exact absurd e hio
      | some v=>
       have:=(ja8.mp (rep.iov.1 v e).1).1
       rw [rep.len];exact this
     ·exact k4.keep D _ h1D λ ⟨j,_,hx⟩=>r2.zo j D hx (.inr (by simp))
    have notZ:∀ {H4:Hp}{fps4:Fps},KD M H' fps1 H4 fps4->∀ {a},a∈fpl->¬ Zf (M.plus [D]) fps4 a:=λ {H4 fps4} k4 a ha z=>by
     rcases z with z | ⟨j,z⟩
     ·exact (hf a ha).2 (.inl z)
     ·rcases k4.sub j a z with z | z
      ·exact (hf a ha).2 (.inr ⟨j,z⟩)
      ·obtain ⟨xs,e⟩:=tm.lsts a ha
       rw [z] at e;cases e
    cases b with
    | false=>
     rw [if_neg jc7] at ec ⊢
     obtain ⟨f1,f2,f3,f4,f5⟩:=far k3 g3 r3
     refine ⟨els.length - (i + 1),by omega,rfl,ρ3.take ρ.length,cut ρ.length fps3,acc,fpl,f4,f1,f3,?_,λ a ha=>⟨(hf a ha).1,λ z=>?_⟩,f5,by rw [eF,<- hlen];exact ec⟩
     ·exact KD.stays (M:=M.plus [D]) (σ:=σ) (ρ:=ρ1) ⟨f2.keep,f2.dom,f2.sub,f2.same⟩ r1 hvo2 tm λ a ha=>(hf a ha).2
     ·exact notZ f2 ha z
    | true=>
     rw [if_pos rfl] at ec ⊢
     refine ⟨_,hP D,ρ3,fps3,r3,?_⟩
     cases ee:elt ρ3 with
     | exc c=>rw [ee] at ec;cases ec
     | no=>rw [ee] at ec;cases ec
     | ok p=>
      obtain ⟨y,e,ρ4⟩:=p
      rw [ee] at ec
      intro w H4 fps4 fe k4 g4 r4 o4 t4
      dsimp only at ec
      by_cases hz:acc.length < va2
      ·rw [if_pos hz] at ec
       obtain ⟨f1,f2,f3,f4,f5⟩:=far (k3.trans k4) (g3.trans g4) r4
       have tm4:Tmps M.K H4 (Zv (M.plus [D]) vo (cut ρ.length fps4)) acc ys fpl:=KD.stays (M:=M.plus [D]) (σ:=σ) (ρ:=ρ1) ⟨f2.keep,f2.dom,f2.sub,f2.same⟩ r1 hvo2 tm λ a ha=>(hf a ha).2
       have zD:Zv (M.plus [D]) vo (cut ρ.length fps4) D:=.inl (.inr (by simp))
       have hDe:D∉fe:=λ z=>t4.ndj D z (.inl (.inr (by simp)))
       have hDl:D∉fpl:=λ z=>(hf D z).2 (.inl (.inr (by simp)))
       have oy:Own M.K H4 (λ a=>Zv (M.plus [D]) vo (cut ρ.length fps4) a\/a∈fe) y e w fe:=o4.weak λ a h=>h.elim (λ h=>.inl (h.elim .inl λ ⟨j,nj,hx⟩=>.inr ⟨j,λ z=>nj (hvo j z (zze hx).2),(zze hx).1⟩)) .inr
       have back3:∀ a,H3 a=none->H' a=none:=λ a e=>by
        cases e':H' a with
        | none=>rfl
        | some o=>exact absurd e (k3.dom a (by rw [e'];simp))
       have back1:∀ a,H' a=none->H a=none:=λ a e=>by
        cases e':H a with
        | none=>rfl
        | some o=>exact absurd e (k1.dom a (by rw [e'];simp))
       have kt:KD M H fps (upd H4 D (.lst (ys++[w]))) (cut ρ.length fps4):=⟨λ a o ha hn=>by rw [zqg (λ e=>by rw [e,hD] at ha;cases ha)];exact f1.keep a o ha hn,λ a ha=>by
        by_cases eb:a=D
        ·rw [eb,zqj];simp
        ·rw [zqg eb];exact f1.dom a ha,f1.sub,f1.same⟩
       refine ⟨f5,by rw [tm.length];exact hz,els.length - (i + 1),by omega,rfl,ρ4.take ρ.length,cut ρ.length fps4,acc++[(y,e)],fpl++fe,f4.touch f5,kt,f3,?_,λ a ha=>?_,zqj,by rw [eF,<- hlen];exact ec⟩
       ·exact (tm4.at zD ⟨.l ys,f5⟩ hDl).snoc (oy.at (.inl zD) ⟨.l ys,f5⟩ hDe λ _ _ n=>n) λ a ha hb=>by
         obtain ⟨xs,e⟩:=tm.lsts a ha
         rw [back3 a (t4.new a hb)] at e;cases e
       ·rcases jc0.mp ha with z | z
        ·exact ⟨(hf a z).1,notZ f2 z⟩
        ·refine ⟨back1 a (back3 a (t4.new a z)),λ hz=>t4.ndj a z ?_⟩
         rcases hz with hz | ⟨j,hz⟩
         ·exact .inl hz
         ·exact .inr ⟨j,(zze hz).1⟩
      ·rw [if_neg hz] at ec;cases ec
 ·left
  have ed:els.drop i=[]:=jk2 (by omega)
  rw [ed] at ec
  rw [<- ec] at q
  unfold zwo at q
  exact ⟨hst hD k1 (by omega),q D ys H1 fps1 fpl k1 g1 r1 hD h1D tm hf⟩
end
section
variable {M:Fm}{ρ ρ':Rho}{σ σ':St}{H H' H'':Hp}{fps fps' fps'':Fps}{vs vs':List Nat}
def zkk:List (PV×Nat)->Bool
 | []=>true
 | p::r=>(p.2 == om) && zkk r
theorem zvv:∀ {xs:List (PV×Nat)},zkk xs=true->∀ p∈xs,p.2=om
 | [],_,_,h=>nomatch h
 | p::r,h,q,hq=>by
  unfold zkk at h
  rw [ja5] at h
  rcases jb2.mp hq with e | e
  ·rw [e];exact eq_of_beq h.1
  ·exact zvv h.2 q e
def zvb (acc:List (PV×Nat)) (ρ:Rho):Rz (PV×Nat×Rho):=.ok (.lst (acc.map (·.1)),if zkk acc then om else 1,ρ)
def zqy (f:Fx) (k:Nat) (asg:PV->Rho->Option Rho) (test:Fb) (elt:Fx):Fx:=λ ρ=>match f ρ with
 | .ok (.lst xs,_,ρ1)=>(zwo k asg test elt xs ρ1 []).bindN λ (acc,ρ2)=>zvb acc ρ2
 | .ok (.tup xs,_,ρ1)=>(zwo k asg test elt xs ρ1 []).bindN λ (acc,ρ2)=>zvb acc ρ2
 | .ok (.str z,_,ρ1)=>if zht z=true then (zwo k asg test elt (zyd z) ρ1 []).bindN λ (acc,ρ2)=>zvb acc ρ2 else .no
 | .ok _=>.no
 | .exc c=>.exc c
 | .no=>.no
def zxi (en:List (PV×Nat)->Option (Int×Int)) (fa:Fa) (k:Nat) (asg:PV->Rho->Option Rho) (test:Fb) (elt:Fx):Fx:=λ ρ=>match fa ρ with
 | .ok (xs,ρ1)=>(match en xs with
  | some (i,j)=>(zwo k asg test elt (zzh i (j - i).toNat) ρ1 []).bindN λ (acc,ρ2)=>zvb acc ρ2
  | none=>.no)
 | .exc c=>.exc c
 | .no=>.no
theorem zhm {D:Addr}{acc:List (PV×Nat)}{ws:List V}{fpl:List Addr}{vo:List Nat}{Q:VK}{H0:Hp}{fps0:Fps}{ρ0:Rho}
  (rep0:Rep M ρ σ H fps) (k0:KD M H0 fps0 H fps) (g0:Agr M ρ0 ρ) (q:∀ v H' fps' fp,KD M H0 fps0 H' fps'->Agr M ρ0 ρ'->Rep M ρ' σ H' fps'->Own M.K H' (Zt M vo fps' fp) (.lst (acc.map (·.1))) (if zkk acc then om else 1) v fp->Temp M vo H0 H' fps' fp->Q v H')
  (k:KD M H fps H' fps') (g:Agr M ρ ρ') (r:Rep (M.plus [D]) ρ' σ H' fps') (hD:H D=none) (hD':H' D=some (.lst ws)) (tm:Tmps M.K H' (Zv (M.plus [D]) vo fps') acc ws fpl) (hf:∀ a∈fpl,H a=none/\¬ Zf (M.plus [D]) fps' a):Q (.ref D) H':=by
 have back:∀ a,H a=none->H0 a=none:=λ a e=>by
  cases e':H0 a with
  | none=>rfl
  | some o=>exact absurd e (k0.dom a (by rw [e'];simp))
 have nD:¬ Zf M fps' D:=λ z=>by
  rcases z with z | ⟨j,z⟩
  ·exact rep0.zd D z hD
  ·exact r.zo j D z (.inr (by simp))
 have hDl:D∉fpl:=λ z=>(hf D z).2 (.inl (.inr (by simp)))
 have zt:∀ a,Zt M vo fps' [D] a->Zv (M.plus [D]) vo fps' a:=λ a h=>h.elim (λ h=>h.elim (λ h=>.inl (.inl h)) .inr) λ h=>.inl (.inr h)
 cases ho:zkk acc with
 | true=>
  rw [ho] at q
  refine q (.ref D) H' fps' (D::fpl) (k0.trans k) (g0.trans g) r.minus ?_ ⟨λ a ha=>?_,λ a ha=>?_⟩
  ·rw [Own]
   exact ⟨D,ws,rfl,.inr ⟨(by decide),fpl,hD',rfl,hDl,OwnL.full _ ws fpl (tm.all (zvv ho))⟩⟩
  ·rcases jb2.mp ha with z | z
   ·rw [z];exact back D hD
   ·exact back a (hf a z).1
  ·rcases jb2.mp ha with z | z
   ·rw [z];exact nD
   ·exact λ y=>(hf a z).2 (y.elim (λ y=>.inl (.inl y)) .inr)
 | false=>
  rw [ho] at q
  refine q (.ref D) H' fps' [D] (k0.trans k) (g0.trans g) r.minus ?_ ⟨λ a ha=>?_,λ a ha=>?_⟩
  ·show Own M.K H' (Zt M vo fps' [D]) (.lst (acc.map (·.1))) 1 (.ref D) [D]
   rw [Own]
   refine ⟨D,ws,rfl,.inr ⟨(by decide),[],hD',rfl,(λ z=>nomatch z),?_⟩⟩
   rw [zmb]
   exact (tm.cold λ a ha z=>(hf a ha).2 z.zf).weak zt
  ·rw [jb6.mp ha];exact back D hD
  ·rw [jb6.mp ha];exact nD
theorem qdo {g:TG}{is vI vE vo:List Nat}{asg:PV->Rho->Option Rho}{test:Fb}{elt f:Fx}{k n:Nat}{Q:VK}{P:Fm->Prop}
  (hn:σ.length=n) (hP:∀ D,P (M.comp D n vI)) (hal:∀ i,∀ j∈M.al i,M.Ms j=false) (hvI:∀ i∈vI,M.Ms i=false) (hvE:∀ i∈vE,M.Ms i=false) (his:∀ i∈is,n<=i) (hg:∀ D,GOk (M.comp D n vI) vI is g asg)
  (hvo:∀ i,i∈vE->i < n->i∈vo) (hvo2:∀ i∈vo,M.Ms i=false) (hq:tE M (zqy f k asg test elt) vo σ H Q):
  qaa k (iSeq M.K (tE M f vI)) g (λ σ H Q=>∃ M',P M'/\tT M' test σ H Q) (λ σ H Q=>∃ M',P M'/\tE M' elt vE σ H Q) σ H Q:=by
 obtain ⟨ρ,fps,rep,q⟩:=hq
 refine ⟨ρ,fps,rep,?_⟩
 unfold zqy at q
 cases ef:f ρ with
 | no=>rw [ef] at q;exact q
 | exc c=>rw [ef] at q;exact q
 | ok p=>
  obtain ⟨x,d,ρ1⟩:=p
  rw [ef] at q
  intro v H1 fps1 f1 k1 g1 rep1 o1 t1
  have o0:Own M.K H1 (Zv M vI fps1) x 0 v []:=Own.freeze (λ _ z=>.inl z) x d v f1 (λ a ha z=>t1.ndj a ha z.zf) o1
  have hl:n=ρ1.length:=by rw [rep1.len];exact hn.symm
  have fin:∀ (els:List PV),(match (zwo k asg test elt els ρ1 []).bindN λ (acc,ρ2)=>zvb acc ρ2 with
    | .ok (x,d,ρ')=>∀ v H' fps' fp,KD M H fps H' fps'->Agr M ρ ρ'->Rep M ρ' σ H' fps'->Own M.K H' (Zt M vo fps' fp) x d v fp->Temp M vo H H' fps' fp->Q v H'
    | .exc c=>∀ H' fps',KD M H fps H' fps'->M.W σ c H'
    | .no=>False)->(match zwo k asg test elt els ρ1 [] with
    | .ok (acc,ρ')=>∀ D ws H' fps' fpl,KD M H1 fps1 H' fps'->Agr M ρ1 ρ'->Rep (M.plus [D]) ρ' σ H' fps'->H1 D=none->H' D=some (.lst ws)->Tmps M.K H' (Zv (M.plus [D]) vo fps') acc ws fpl->(∀ a∈fpl,H1 a=none/\¬ Zf (M.plus [D]) fps' a)->Q (.ref D) H'
    | _=>False):=λ els q=>by
   cases ec:zwo k asg test elt els ρ1 [] with
   | no=>rw [ec] at q;exact q.elim
   | exc c=>rw [ec] at q;exact q.elim
   | ok p=>
    obtain ⟨acc,ρ2⟩:=p
    rw [ec] at q
    exact λ D ws H' fps' fpl k g r hD hD' tm hf=>zhm rep1 k1 g1 q k g r hD hD' tm hf
  cases x with
  | lst xs=>
   have one:∀ {Z:Addr->Prop}{H:Hp},Own M.K H Z (.lst xs) 0 v []->∃ a ws,v=.ref a/\SqL M.K H a ws/\OwnL M.K H Z xs 0 ws []:=λ o=>by
    rw [Own] at o
    obtain ⟨b,ws,e,⟨_,hr,_,ol⟩ | ⟨h,_⟩⟩:=o
    ·exact ⟨b,ws,e,.inl (.inl hr.1),ol⟩
    ·exact absurd rfl h
   obtain ⟨a,ws,rfl,sq,ol⟩:=one o0
   refine .inl ⟨a,rfl,.inl ⟨⟨ws,sq⟩,?_⟩⟩
   refine zky (els:=xs) hP hl hal hvI hvE his hg hvo hvo2 rep1 (λ {D H' fps' i} hD k' h=>?_) (λ {D H' fps' i} hD k' h=>?_) (λ {D H' fps' i x H''} hD k' h y=>?_) (fin xs q)
   ·obtain ⟨a',ws,e,s,ol⟩:=one (KD.seen rep1 k' hD hvI o0)
    cases e
    exact ⟨ws,ws[i]'(by rw [ol.length];exact h),s,by simp⟩
   ·obtain ⟨a',ws,e,s,ol⟩:=one (KD.seen rep1 k' hD hvI o0)
    cases e
    exact ⟨ws,s,by rw [ol.length];exact h⟩
   ·obtain ⟨a',ws,e,s,ol⟩:=one (KD.seen rep1 k' hD hvI o0)
    cases e
    obtain ⟨e1,e2⟩:=y
    subst e1
    exact ⟨λ _ _ h=>h,ol.get (e2 ws s)⟩
  | tup xs=>
   have one:∀ {Z:Addr->Prop}{H:Hp},Own M.K H Z (.tup xs) 0 v []->∃ a ws,v=.ref a/\SqT M.K H a ws/\OwnL M.K H Z xs 0 ws []:=λ o=>by
    rw [Own] at o
    obtain ⟨a,ws,e,hr,ol⟩:=o
    exact ⟨a,ws,e,.inl (.inl hr),ol⟩
   obtain ⟨a,ws,rfl,sq,ol⟩:=one o0
   refine .inl ⟨a,rfl,.inr ⟨⟨ws,sq⟩,?_⟩⟩
   refine zky (els:=xs) hP hl hal hvI hvE his hg hvo hvo2 rep1 (λ {D H' fps' i} hD k' h=>?_) (λ {D H' fps' i} hD k' h=>?_) (λ {D H' fps' i x H''} hD k' h y=>?_) (fin xs q)
   ·obtain ⟨a',ws,e,s,ol⟩:=one (KD.seen rep1 k' hD hvI o0)
    cases e
    exact ⟨ws,ws[i]'(by rw [ol.length];exact h),s,by simp⟩
   ·obtain ⟨a',ws,e,s,ol⟩:=one (KD.seen rep1 k' hD hvI o0)
    cases e
    exact ⟨ws,s,by rw [ol.length];exact h⟩
   ·obtain ⟨a',ws,e,s,ol⟩:=one (KD.seen rep1 k' hD hvI o0)
    cases e
    obtain ⟨e1,e2⟩:=y
    subst e1
    exact ⟨λ _ _ h=>h,ol.get (e2 ws s)⟩
  | str z=>
   have o0':=o0
   rw [Own] at o0'
   obtain ⟨rfl,_⟩:=o0'
   dsimp only at q
   by_cases ha:zht z=true
   ·rw [if_pos ha] at q
    refine .inr ⟨z,rfl,ha,?_⟩
    have hl':(zyd z).length=z.cps.size:=by unfold zyd;rw [ja6,jf7]
    refine zky (els:=zyd z) hP hl hal hvI hvE his hg hvo hvo2 rep1 (λ {D H' fps' i} hD k' h=>?_) (λ {D H' fps' i} hD k' h=>?_) (λ {D H' fps' i x H''} hD k' h y=>?_) (fin (zyd z) q)
    ·show i < z.cps.size
     omega
    ·show z.cps.size<=i
     omega
    ·obtain ⟨rfl,c,hc,rfl⟩:=y
     refine ⟨λ _ _ h=>h,.str ⟨#[c]⟩,?_,by rw [Own];exact ⟨rfl,rfl⟩⟩
     unfold zyd
     rw [jc2,jl0,hc]
     rfl
   ·rw [if_neg ha] at q
    exact q.elim
  | _=>exact q.elim
theorem zjw {g:TG}{is vI vE vo:List Nat}{asg:PV->Rho->Option Rho}{test:Fb}{elt:Fx}{k n:Nat}{Q:VK}{P:Fm->Prop}{lo:Int}{m:Nat}{H0:Hp}{fps0:Fps}{ρ0:Rho}
  (hn:σ.length=n) (hP:∀ D,P (M.comp D n vI)) (hal:∀ i,∀ j∈M.al i,M.Ms j=false) (hvI:∀ i∈vI,M.Ms i=false) (hvE:∀ i∈vE,M.Ms i=false) (his:∀ i∈is,n<=i) (hg:∀ D,GOk (M.comp D n vI) vI is g asg)
  (hvo:∀ i,i∈vE->i < n->i∈vo) (hvo2:∀ i∈vo,M.Ms i=false) (k0:KD M H0 fps0 H fps) (g0:Agr M ρ0 ρ) (rep:Rep M ρ σ H fps)
  (q:match (zwo k asg test elt (zzh lo m) ρ []).bindN λ (acc,ρ2)=>zvb acc ρ2 with
    | .ok (x,d,ρ')=>∀ v H' fps' fp,KD M H0 fps0 H' fps'->Agr M ρ0 ρ'->Rep M ρ' σ H' fps'->Own M.K H' (Zt M vo fps' fp) x d v fp->Temp M vo H0 H' fps' fp->Q v H'
    | .exc c=>∀ H' fps',KD M H0 fps0 H' fps'->M.W σ c H'
    | .no=>False):
  ∀ D,H D=none->∃ W:Nat->Nat->List V->Hp->Prop,(∃ m,W 0 m [] (upd H D (.lst [])))/\∀ i j ys H1,W i j ys H1->H1 D=some (.lst ys) /\
   (((Itr lo m).stop i H1/\Q (.ref D) H1)\/((Itr lo m).go i H1/\∀ x H',(Itr lo m).yld i H1 x H'->g x (σ++ja9 k none) H' λ σ2 H2=>∃ M',P M'/\tT M' test σ2 H2 λ b H3=>if b=true then ∃ M',P M'/\tE M' elt vE σ2 H3 λ y H4=>H4 D=some (.lst ys)/\ys.length < va2/\∃ m',m' < j/\W (i + 1) m' (ys++[y]) (upd H4 D (.lst (ys++[y]))) else ∃ m',m' < j/\W (i + 1) m' ys H3)):=by
 have hl:n=ρ.length:=by rw [rep.len];exact hn.symm
 refine zky (els:=zzh lo m) hP hl hal hvI hvE his hg hvo hvo2 rep (λ {D H' fps' i} hD k' h=>?_) (λ {D H' fps' i} hD k' h=>?_) (λ {D H' fps' i x H''} hD k' h y=>?_) ?_
 ·rw [zwh] at h;exact h
 ·rw [zwh] at h;exact h
 ·rw [zwh] at h
  obtain ⟨e1,e2⟩:=y
  subst e1
  exact ⟨λ _ _ h=>h,.int (lo + i),by simp [zzh,h],by rw [e2,Own];exact ⟨rfl,rfl⟩⟩
 ·cases ec:zwo k asg test elt (zzh lo m) ρ [] with
  | no=>rw [ec] at q;exact q.elim
  | exc c=>rw [ec] at q;exact q.elim
  | ok p=>
   obtain ⟨acc,ρ2⟩:=p
   rw [ec] at q
   exact λ D ws H' fps' fpl k g r hD hD' tm hf=>zhm rep k0 g0 q k g r hD hD' tm hf
theorem qdq {g:TG}{is vI vE vo:List Nat}{asg:PV->Rho->Option Rho}{test:Fb}{elt:Fx}{fa:Fa}{k n:Nat}{Q:VK}{P:Fm->Prop}
  (hn:σ.length=n) (hP:∀ D,P (M.comp D n vI)) (hal:∀ i,∀ j∈M.al i,M.Ms j=false) (hvI:∀ i∈vI,M.Ms i=false) (hvE:∀ i∈vE,M.Ms i=false) (his:∀ i∈is,n<=i) (hg:∀ D,GOk (M.comp D n vI) vI is g asg)
  (hvo:∀ i,i∈vE->i < n->i∈vo) (hvo2:∀ i∈vo,M.Ms i=false) (hq:tE M (zxi zxa fa k asg test elt) vo σ H Q):
  qaa k (qej (tL M fa vs)) g (λ σ H Q=>∃ M',P M'/\tT M' test σ H Q) (λ σ H Q=>∃ M',P M'/\tE M' elt vE σ H Q) σ H Q:=by
 obtain ⟨ρ,fps,rep,q⟩:=hq
 refine ⟨ρ,fps,rep,?_⟩
 unfold zxi at q
 cases ef:fa ρ with
 | no=>rw [ef] at q;exact q
 | exc c=>rw [ef] at q;exact q
 | ok p=>
  obtain ⟨xs,ρ1⟩:=p
  rw [ef] at q
  intro ws H1 fps1 f1 k1 g1 rep1 o1 t1
  dsimp only at q
  cases ee:zxa xs with
  | none=>rw [ee] at q;exact q.elim
  | some ij=>
   obtain ⟨i,j⟩:=ij
   rw [ee] at q
   unfold zxa at ee
   split at ee
   ·rename_i j' d
    split at ee
    ·rename_i hb
     cases ee
     obtain ⟨v,r,f1,f2,rfl,_,_,h1,h2⟩:=o1
     obtain ⟨rfl,_⟩:=h2
     rw [Own] at h1
     obtain ⟨rfl,_⟩:=h1
     refine ⟨j,rfl,hb.1,hb.2,?_⟩
     have e:(j - 0).toNat=j.toNat:=by omega
     dsimp only at q
     rw [e] at q
     exact zjw hn hP hal hvI hvE his hg hvo hvo2 k1 g1 rep1 q
    ·cases ee
   ·cases ee
theorem qdp {g:TG}{is vI vE vo:List Nat}{asg:PV->Rho->Option Rho}{test:Fb}{elt:Fx}{fa:Fa}{k n:Nat}{Q:VK}{P:Fm->Prop}
  (hn:σ.length=n) (hP:∀ D,P (M.comp D n vI)) (hal:∀ i,∀ j∈M.al i,M.Ms j=false) (hvI:∀ i∈vI,M.Ms i=false) (hvE:∀ i∈vE,M.Ms i=false) (his:∀ i∈is,n<=i) (hg:∀ D,GOk (M.comp D n vI) vI is g asg)
  (hvo:∀ i,i∈vE->i < n->i∈vo) (hvo2:∀ i∈vo,M.Ms i=false) (hq:tE M (zxi zyt fa k asg test elt) vo σ H Q):
  qaa k (qei (tL M fa vs)) g (λ σ H Q=>∃ M',P M'/\tT M' test σ H Q) (λ σ H Q=>∃ M',P M'/\tE M' elt vE σ H Q) σ H Q:=by
 obtain ⟨ρ,fps,rep,q⟩:=hq
 refine ⟨ρ,fps,rep,?_⟩
 unfold zxi at q
 cases ef:fa ρ with
 | no=>rw [ef] at q;exact q
 | exc c=>rw [ef] at q;exact q
 | ok p=>
  obtain ⟨xs,ρ1⟩:=p
  rw [ef] at q
  intro ws H1 fps1 f1 k1 g1 rep1 o1 t1
  dsimp only at q
  cases ee:zyt xs with
  | none=>rw [ee] at q;exact q.elim
  | some ij=>
   obtain ⟨i,j⟩:=ij
   rw [ee] at q
   unfold zyt at ee
   split at ee
   ·rename_i i' d j' d'
    split at ee
    ·rename_i hb
     cases ee
     obtain ⟨v,r,f1,f2,rfl,_,_,h1,h2⟩:=o1
     obtain ⟨v2,r2,f3,f4,rfl,_,_,h3,h4⟩:=h2
     obtain ⟨rfl,_⟩:=h4
     rw [Own] at h1 h3
     obtain ⟨rfl,_⟩:=h1
     obtain ⟨rfl,_⟩:=h3
     exact ⟨i,j,rfl,hb,zjw hn hP hal hvI hvE his hg hvo hvo2 k1 g1 rep1 q⟩
    ·cases ee
   ·cases ee
end
theorem zya {K:Frag}{c:Nat}{C:Addr} (e:zwg K c=some C):c < 12:=by
 unfold zwg at e
 split at e
 ·rename_i x h
  exact (ja8.mp h).1
 ·cases e
structure XC (h:Heap) (K:Frag) (c:Nat) (C:Addr):Prop where
 obj:∃ bm N nm q bs hdct sn sub ab col dd k0 k1 k2 k3 k5 mN,h.get? C=some (excClassObj nm q C N bs bm hdct sn sub ab col dd k0 k1 k2 k3 k5 "ValueError.__new__")/\h.Ns N mN/\mN "__init__" = none/\OwnTail h bmV bm/\∀ d D,zwg K d=some D->(Value.ref C::bm).contains (.ref D)=isX c d
theorem qge {K:Frag}{c:Nat}{C:Addr} (t:xTab K=true) (e:zwg K c=some C):PySem.W.excIn K C bmV "ValueError.__new__" = true/\∀ d D,zwg K d=some D->(mroX K C).contains (.ref D)=isX c d:=by
 unfold xTab at t
 have h:=jc8.mp t c (jd0.mpr (zya e))
 rw [e] at h
 dsimp only at h
 rw [ja5] at h
 refine ⟨h.1,λ d D ed=>?_⟩
 have h2:=jc8.mp h.2 d (jd0.mpr (zya ed))
 rw [ed] at h2
 exact eq_of_beq h2
theorem ql0 {K:Frag}{h:Heap}{c:Nat}{C:Addr} (X:K.In h) (t:xTab K=true) (e:zwg K c=some C):XC h K c C:=by
 obtain ⟨q,ht⟩:=qge t e
 refine ⟨?_⟩
 unfold PySem.W.excIn at q
 split at q
 ·rename_i dd cd sl ho
  split at q
  ·rename_i C' bm k0 k1 k2 k3 n k5 hm hs
   simp only [ja5,beq_iff_eq,jj6] at q
   obtain ⟨⟨⟨⟨⟨rfl,rfl⟩,hdel⟩,htl⟩,hok⟩,hni⟩:=q
   have hmro:mroX K C'=.ref C'::bm:=by unfold mroX;rw [ho];exact hm
   rw [hmro] at ht
   obtain ⟨nm,bs,mro,ns,qn,hd,sn,sub,ab,col,del⟩:=cd
   dsimp only at hm hdel hok hni
   subst hm hdel
   have hsl:sl=#[k0,k1,k2,k3,some (.builtin "ValueError.__new__"),k5]:=by
    obtain ⟨l⟩:=sl
    simp only at hs
    rw [hs]
   subst hsl
   exact ⟨bm,ns,nm,qn,bs,hd,sn,sub,ab,col,dd,k0,k1,k2,k3,k5,_,X _ _ ho,.of_isNs (PySem.W.isNs_of_in X hok),PySem.W.nsMap_none_of_in X hok hni,PySem.W.tail_of_in X htl,ht⟩
  ·cases q
 ·cases q
def XEof (W:Nat->Hp->Prop):XK:=λ v _ H'=>match v with
 | .int c _=>W c.toNat H'
 | _=>False
def CXr (P:va8) (w:vb6) (K:Frag):CXT:=λ outer H s E e s'=>∃ (a C:Addr) (c:Nat) (H':Hp) (B:Heap) (a0:va0),e=.ref a/\zwg K c=some C/\s'.os=s.os/\vg4 s'.gens/\Un (frs outer) [] H H' s.heap s'.heap/\HOk P w H' s'.heap/\H' a=none/\s.heap.get? a=none /\
 Heap.FlyingW B outer a (.ref C) a0 s'.heap/\(∀ b o,s'.heap.get? b=some o->H' b≠none->B.get? b=some o)/\(∀ b o,s.heap.get? b=some o->H b=none->b∉frs outer->B.get? b=some o)/\(∀ b,H b≠none->H' b≠none)/\E (.int (c:Int) 0) none H'
theorem zbn {P:va8}{w:vb6}{H:Hp}{h:Heap}{a:Addr}{o:HO} (x:zxw P w H h a o):∃ u,h.get? a=some u:=by
 cases o with
 | lst xs=>obtain ⟨_,_,_,_,e⟩:=x;exact ⟨_,e⟩
 | tup xs=>obtain ⟨_,_,_,o,e,_⟩:=x;exact ⟨_,e⟩
 | dK kvs=>obtain ⟨_,_,_,_,o,_,_,e,_⟩:=x;exact ⟨_,e⟩
 | dT kvs=>obtain ⟨_,_,_,_,o,_,_,e,_⟩:=x;exact ⟨_,e⟩
 | set S n=>obtain ⟨o,_,_,_,e,_⟩:=x;exact ⟨_,e⟩
 | ins C dx fs=>obtain ⟨_,_,_,e,_⟩:=x;exact ⟨_,e⟩
 | own y=>exact x
 | xd fs=>obtain ⟨_,⟨_,_,_,e,_⟩,_⟩:=x;exact ⟨_,e⟩
 | rng lo hi=>obtain ⟨_,_,_,e⟩:=x;exact ⟨_,e⟩
 | frz ob u=>obtain ⟨e,_⟩:=x;exact ⟨_,e⟩
 | tbl ps=>exact ⟨_,(show h.get? a=some _ from x)⟩
 | met f y=>exact ⟨_,(show h.get? a=some _ from x)⟩
 | ext φ=>exact x.2.1
section
variable {X:Cx}{pins:List (Addr×Obj)}{σ:St}{H H1:Hp}{s s2:va1}{h1 B:Heap}{a C:Addr}{a0:va0}{c:Nat}{E:XK}{P:va8}{w:vb6}{K:Frag}
theorem zhe (I:L2.Inv X pins σ H s) (hex:X.ex=[]) (u:Un (frs X.stack) [] H H1 s.heap h1) (hok:HOk X.prog X.w H1 h1) (fl:Heap.FlyingW B X.outer a (.ref C) a0 s2.heap) (up:h1.UpToSlots s2.heap)
  (i1:∀ b o,h1.get? b=some o->H1 b≠none->B.get? b=some o) (i2:∀ b o,s.heap.get? b=some o->H b=none->b∉frs X.stack->B.get? b=some o) (ha:H1 a=none) (hn:s.heap.get? a=none)
  (hE:E (.int (c:Int) 0) none H1) (hd:∀ b,X.H₀ b≠none->H1 b≠none) (hc:zwg X.K c=some C) (ho:s2.os=s.os) (hg:vg4 s2.gens):CXr X.prog X.w X.K X.outer X.H₀ X.s₀ E (.ref a) s2:=by
 have nx:∀ b:Addr,b∉X.ex:=λ b z=>by rw [hex] at z;cases z
 have key:∀ b o,X.s₀.heap.get? b=some o->X.H₀ b=none->b∉frs X.outer->B.get? b=some o:=λ b o e n hb=>by
  refine i2 b o (I.base.keep b o e n hb (nx b)) (I.base.free b o e n (nx b)) λ z=>?_
  rcases jb2.mp (I.stkSub b z) with z | z
  ·exact absurd (jb0 (va6 e) I.ok.above) (by rw [z];exact je4 _)
  ·exact hb z
 have fr:∀ b o,X.s₀.heap.get? b=some o->X.H₀ b=none->b∈frs X.outer->∃ sl,s2.heap.get? b=some { o with slots:=sl }:=λ b o e n hb=>by
  obtain ⟨sl,e1⟩:=I.base.slot b o e n hb (nx b)
  obtain ⟨sl',e2⟩:=u.any e1 (I.base.free b o e n (nx b)) (by simp)
  obtain ⟨_,o',ho',hnf⟩:=I.ok.funs.mem hb
  rw [e] at ho';cases ho'
  obtain ⟨sl2,e3⟩:=up b _ e2 hnf
  exact ⟨sl2,e3⟩
 have trk:∀ b v,H1 b≠none->h1.get? b=some v->s2.heap.get? b=some v:=λ b v hb e=>fl.1 b v (i1 b v e hb)
 have un:Un (frs X.outer) [] X.H₀ H1 X.s₀.heap s2.heap:=by
  refine ⟨λ b o e n hb _=>fl.1 b o (key b o e n hb),λ b o e n hb _=>fr b o e n hb,λ b o e n _=>?_,λ b o e _=>?_,λ b xs e=>u.tups b xs (I.base.tups b xs e),λ b o xs e=>u.frzs b o xs (I.base.frzs b o xs e),λ b ps e=>?_⟩
  ·obtain ⟨o',e'⟩:=I.base.there b o e (nx b)
   exact u.free b o' e' (I.base.free b o e n (nx b)) (by simp)
  ·by_cases h0:X.H₀ b=none
   ·by_cases hb:b∈frs X.outer
    ·obtain ⟨sl,e2⟩:=fr b o e h0 hb
     exact ⟨_,e2⟩
    ·exact ⟨o,fl.1 b o (key b o e h0 hb)⟩
   ·obtain ⟨o',e'⟩:=I.base.there b o e (nx b)
    obtain ⟨o2,e2⟩:=u.there b o' e' (by simp)
    exact ⟨o2,trk b o2 (hd b h0) e2⟩
  ·obtain ⟨m1,e1⟩:=I.base.tbls b ps e
   obtain ⟨m2,e2⟩:=u.tbls b _ e1
   exact ⟨m1++m2,by rw [e2,jl8]⟩
 refine ⟨a,C,c,H1,B,a0,rfl,hc,ho.trans I.os,hg,un,λ b o e=>?_,ha,?_,fl,λ b o e hb=>?_,key,hd,hE⟩
 ·refine (hok b o e).stay (λ d v hd q=>trk d v ?_ q) (λ _ q=>q) λ _ _ q=>q
  rcases hd with rfl | hd
  ·rw [e];simp
  ·rw [hd];simp
 ·cases q:X.s₀.heap.get? a with
  | none=>rfl
  | some o=>
   obtain ⟨o',e'⟩:=I.base.there a o q (nx a)
   rw [hn] at e';cases e'
 ·cases q:H1 b with
  | none=>exact absurd q hb
  | some o1=>
   obtain ⟨v,hv⟩:=zbn (hok b o1 q)
   have e2:=trk b v hb hv
   rw [e] at e2
   cases e2
   exact i1 b o hv hb
end
def zpj (CX:CXT) (X:Cx) (W:St->Nat->Hp->Prop):Prop:=∀ (pins:List (Addr×Obj)) (σ:St) (H:Hp) (s:va1) (e:va0) (s':va1),L2.Inv X pins σ H s->CX X.stack H s (XEof (W σ)) e s'->X.xe e s'
def zfx (X:Cx) (W:St->Nat->Hp->Prop):Prop:=∀ (pins:List (Addr×Obj)) (σ:St) (H:Hp) (s:va1) (c:Nat) (C a:Addr) (h':Heap) (args:List va0),L2.Inv X pins σ H s->zwg X.K c=some C->Heap.MadeExcOf s.heap h' a (.ref C) args->W σ c H->X.xe (.ref a) { s with heap:=h' }
abbrev W0:St->Nat->Hp->Prop:=λ _ _ _=>False
theorem qki {P:va8}{w:vb6}{K:Frag}{X:Cx}:zpj (CXr P w K) X W0:=λ _ _ _ _ _ _ _ h=>by
 obtain ⟨a,C,c,H',B,a0,_,_,_,_,_,_,_,_,_,_,_,_,hE⟩:=h
 exact ve2 hE
def WE (E:XK) (H:Hp):St->Nat->Hp->Prop:=λ _ c H'=>E (.int (c:Int) 0) none H'/\∀ b,H b≠none->H' b≠none
section
variable {P:va8}{w:vb6}{K:Frag}{mg:Str->Option va0}{base:Heap}{N:List Str}{qual:Str}{scope:vd0}{f:Addr}{cd:va0}{A:vb8}{outer:List Env}{s:va1}{H:Hp}{E:XK}
theorem qea:zpj (CXr P w K) (cxOf (CXr P w K) P w K mg base N qual scope f cd A outer s H E) (WE E H):=by
 intro pins σ H1 s1 e s' I h
 obtain ⟨a,C,c,H',B,a0,rfl,hc,ho,hg,un,hok,ha,hn,fl,i1,i2,hd,hE⟩:=h
 have hE':WE E H σ c H':=hE
 refine wpAny_leaves_onW (by exact I.ok.frames) rfl fl λ h2 f2 up=>?_
 exact zhe (s2:={ s' with heap:=h2 }) I rfl un hok f2 up i1 i2 ha hn hE'.1 hE'.2 hc ho hg
theorem qbe:zfx (cxOf (CXr P w K) P w K mg base N qual scope f cd A outer s H E) (WE E H):=by
 intro pins σ H1 s1 c C a h' args I hc hx hW
 have hin:∀ env∈(cxOf (CXr P w K) P w K mg base N qual scope f cd A outer s H E).stack,∀ b,env.frame=some b->b∈frs (cxOf (CXr P w K) P w K mg base N qual scope f cd A outer s H E).stack:=λ env he b hb=>jj0.mpr ⟨env,he,hb⟩
 have trk:∀ b,H1 b≠none->∃ o,s1.heap.get? b=some o:=λ b hb=>by
  cases q:H1 b with
  | none=>exact absurd q hb
  | some u=>exact zbn (I.hok b u q)
 have nfr:∀ b,H1 b≠none->b∉frs (cxOf (CXr P w K) P w K mg base N qual scope f cd A outer s H E).stack:=λ b hb z=>hb (I.stkFree b z)
 refine wpAny_leaves_madeW (base:=PySem.W.hideAll s1.heap (frs (cxOf (CXr P w K) P w K mg base N qual scope f cd A outer s H E).stack)) (h:=s1.heap) (by exact I.ok.frames) rfl (λ b o q=>PySem.W.of_hideAll _ q) (PySem.W.funFrames_hide I.stack hin) hx λ h2 t f2 _ _ up=>?_
 refine zhe (s2:={ s1 with heap:=h2 }) I rfl (Un.kept hx.keeps) (I.hok.kept hx.keeps) f2 up (λ b o e hb=>?_) (λ b o e _ hb=>vh5 _ e hb) ?_ hx.new hW.1 hW.2 hc rfl I.bare
 ·obtain ⟨o1,e1⟩:=trk b hb
  have e2:=hx.keeps b o1 e1
  rw [e] at e2
  cases e2
  exact vh5 _ e1 (nfr b hb)
 ·cases q:H1 a with
  | none=>rfl
  | some u=>
   obtain ⟨o,e⟩:=zbn (I.hok a u q)
   rw [hx.new] at e;cases e
theorem qhn:PassesOwn (vb1 P w) (cxOf (CXr P w K) P w K mg base N qual scope f cd A outer s H E).A (cxOf (CXr P w K) P w K mg base N qual scope f cd A outer s H E).env (cxOf (CXr P w K) P w K mg base N qual scope f cd A outer s H E).xe:=PassesOwn.leaving
end
section
variable {X:Cx}{CX:CXT}{k:Nat}{f:Addr}{fd:vc3}{ps:List Str}{sp:Sp}{x:Str}{p pos:Pos}{e:Expr}{es:List Expr}{t:TA}{W:St->Nat->Hp->Prop}
def qfk (sp:Sp) (W:St->Nat->Hp->Prop) (t:TA):TE:=λ σ H Q=>t σ H λ vs H1=>sp vs H1 Q (XEof (W σ))
theorem qd8 (F:FnOk X.prog X.w X.K X.mg X.base CX k f fd ps sp) (hr:Room k X.A) (hg:Gl X x) (hm:X.mg x=some (.ref f)) (hk:vd7 X.K (.ref f)=true) (hb:zfe X.K fd ps []) (hx:zpj CX X W) (ha:PA X (e::es) t) (hdb:(x == ("__debug__" : Str))=false)
  (he:va3 (e::es) X.env=(false,eval e X.env)::va3 es X.env) (hpl:(vd6 pos (va3 es X.env)).any (·.1)=false):PE X (.Call (.Name x p) (e::es) [] pos) (qfk sp W t):=by
 intro pins s σ H Q I h
 refine vh9 (zfm I hg hm ?_ hdb)
 refine PySem.W.callWith_K (h₀:=X.base) I.ok.mod.kin hk (thn (ha pos pins s σ H _ I h) λ us s1 ⟨vs,H1,I1,r,q⟩=>⟨I1.kIn,?_⟩) he hpl
 have q':sp vs H1 Q (XEof (W σ)):=q
 have hl:(us++[]).length=ps.length:=by rw [jf5,<- r.length];exact F.len _ _ _ _ q'
 have hbd:=hb s1 us I1.kIn hl
 rw [jf5] at hbd
 refine wpAny_call (codeAny_mono (F.run X.A X.stack s1 H1 ⟨us,[]⟩ us vs Q (XEof (W σ)) hr I1.env0 hbd r q') λ r s' hq=>?_)
 cases r with
 | error e=>exact hx pins σ H1 s1 e s' I1 hq
 | ok fl=>
  cases fl with
  | ret u=>exact I1.after hq
  | next=>exact ve2 hq
  | brk=>exact ve2 hq
  | cont=>exact ve2 hq
end
def zzf (cells:List (Str×Addr)):List (Str×vc6)->List (Str×Addr)->List (Str×Addr)
 | [],cs=>cs
 | (n,k)::r,cs=>if k == .free then zzf cells r ((n,(cells.lookup n).getD 0)::cs) else zzf cells r cs
theorem zvs {scope:vd0}{env:Env} (h:∀ x∈scope.names,x.2=.free->∃ c,env.cells.lookup x.1=some c):closureFor scope env=pure (zzf env.cells scope.names []):=by
 unfold closureFor
 have all:∀ (l:List (Str×vc6)) (cs:List (Str×Addr)),(∀ x∈l,x.2=.free->∃ c,env.cells.lookup x.1=some c) ->
   (forIn l cs λ (x:Str×vc6) (cs:List (Str×Addr))=>if (x.2 == NameKind.free)=true then (do let a<-cellOf env x.1;pure (ForInStep.yield ((x.1,a)::cs))) else pure (ForInStep.yield cs):Sem (List (Str×Addr)))=pure (zzf env.cells l cs):=by
  intro l
  induction l with
  | nil=>intro cs _;rfl
  | cons x r ih=>
   intro cs hl
   obtain ⟨n,k⟩:=x
   rw [jn8]
   have ih':=λ cs=>ih cs λ y hy=>hl y (ja0 _ hy)
   by_cases hk:(k == NameKind.free)=true
   ·obtain ⟨c,hc⟩:=hl (n,k) ja1 (by simpa using hk)
    have e1:cellOf env n=pure c:=by unfold cellOf;rw [hc]
    rw [if_pos hk,e1]
    simp only [pure_bind]
    rw [ih',zzf,if_pos hk,hc]
    rfl
   ·rw [if_neg hk]
    simp only [pure_bind]
    rw [ih',zzf,if_neg hk]
 have:=all scope.names [] h
 simp only [bind_pure] at this ⊢
 exact this
theorem zqv (cells:List (Str×Addr)) (x:Str) (c:Addr):∀ (l:List (Str×vc6)) (cs:List (Str×Addr)),(∀ y∈l,y.2=.free->∃ c,cells.lookup y.1=some c)->(cs.lookup x=some c->cells.lookup x=some c)->(zzf cells l cs).lookup x=some c->cells.lookup x=some c
 | [],cs,_,h,e=>h e
 | (n,k)::r,cs,hl,h,e=>by
  unfold zzf at e
  split at e
  ·rename_i hk
   refine zqv cells x c r _ (λ y hy=>hl y (ja0 _ hy)) (λ e'=>?_) e
   rw [jd2] at e'
   split at e'
   ·rename_i hx
    obtain ⟨c',hc⟩:=hl (n,k) ja1 (by simpa using hk)
    rw [hc] at e'
    cases e'
    rw [eq_of_beq hx];exact hc
   ·exact h e'
  ·exact zqv cells x c r cs (λ y hy=>hl y (ja0 _ hy)) h e
theorem zkj (cells:List (Str×Addr)) (x:Str):∀ (l:List (Str×vc6)) (cs:List (Str×Addr)),(∃ c,cs.lookup x=some c)->∃ c,(zzf cells l cs).lookup x=some c
 | [],cs,h=>h
 | (n,k)::r,cs,h=>by
  unfold zzf
  split
  ·refine zkj cells x r _ ?_
   rw [jd2]
   split
   ·exact ⟨_,rfl⟩
   ·exact h
  ·exact zkj cells x r cs h
theorem zyy (cells:List (Str×Addr)) (x:Str):∀ (l:List (Str×vc6)) (cs:List (Str×Addr)),(x,NameKind.free)∈l->∃ c,(zzf cells l cs).lookup x=some c
 | [],_,h=>nomatch h
 | (n,k)::r,cs,h=>by
  unfold zzf
  rcases jb2.mp h with e | e
  ·cases e
   rw [if_pos (show (NameKind.free == NameKind.free)=true by decide)]
   exact zkj cells x r _ ⟨_,by rw [jd2,beq_self_eq_true]⟩
  ·split
   ·exact zyy cells x r _ e
   ·exact zyy cells x r cs e
theorem zyz:∀ (names:List (Str×vc6)) (n:Nat) (acc:List (Str×Addr)) (x:Str) (c:Addr),(vc0 n names acc).lookup x=some c->acc.lookup x=some c\/(n<=c/\(x,NameKind.cell)∈names)
 | [],n,acc,x,c,h=>.inl h
 | (m,k)::r,n,acc,x,c,h=>by
  unfold vc0 at h
  split at h
  ·rename_i hk
   have hk':k=.cell:=by simpa using hk
   rcases zyz r _ _ x c h with z | ⟨z,y⟩
   ·rw [jd2] at z
    split at z
    ·rename_i hx
     cases z
     exact .inr ⟨jb7 _,by rw [eq_of_beq hx,hk'];exact ja1⟩
    ·exact .inl z
   ·exact .inr ⟨je3 z,ja0 _ y⟩
  ·rcases zyz r _ _ x c h with z | ⟨z,y⟩
   ·exact .inl z
   ·exact .inr ⟨z,ja0 _ y⟩
theorem zpc:∀ (names:List (Str×vc6)) (n:Nat) (acc:List (Str×Addr)) (x:Str),(x,NameKind.cell)∉names->(vc0 n names acc).lookup x=acc.lookup x
 | [],n,acc,x,h=>rfl
 | (m,k)::r,n,acc,x,h=>by
  unfold vc0
  split
  ·rename_i hk
   have hk':k=.cell:=by simpa using hk
   rw [zpc r _ _ x λ z=>h (ja0 _ z),jd2]
   split
   ·rename_i hx
    exact absurd (by rw [eq_of_beq hx,hk'];exact ja1) h
   ·rfl
  ·exact zpc r _ _ x λ z=>h (ja0 _ z)
theorem zhp:∀ (names:List (Str×vc6)) (n:Nat) (acc:List (Str×Addr)) (x:Str),(x,NameKind.cell)∈names->∃ c,(vc0 n names acc).lookup x=some c/\n<=c
 | [],n,acc,x,h=>nomatch h
 | (m,k)::r,n,acc,x,h=>by
  by_cases hr:(x,NameKind.cell)∈r
  ·unfold vc0
   split
   ·obtain ⟨c,e,l⟩:=zhp r (n + 1) ((m,n)::acc) x hr
    exact ⟨c,e,je3 l⟩
   ·exact zhp r n acc x hr
  ·rcases jb2.mp h with e | e
   ·cases e
    unfold vc0
    rw [if_pos (by decide),zpc r _ _ _ hr,jd2,beq_self_eq_true]
    exact ⟨n,rfl,jb7 _⟩
   ·exact absurd e hr
theorem qc3:∀ (names:List (Str×vc6)) (n:Nat) (acc:List (Str×Addr)),(∀ x y c,acc.lookup x=some c->acc.lookup y=some c->x=y)->(∀ x c,acc.lookup x=some c->c < n)->∀ x y c,(vc0 n names acc).lookup x=some c->(vc0 n names acc).lookup y=some c->x=y
 | [],n,acc,hi,_,x,y,c,h1,h2=>hi x y c h1 h2
 | (m,k)::r,n,acc,hi,hl,x,y,c,h1,h2=>by
  unfold vc0 at h1 h2
  split at h1
  ·rename_i hk
   rw [if_pos hk] at h2
   refine qc3 r (n + 1) ((m,n)::acc) (λ x y c h1 h2=>?_) (λ x c h=>?_) x y c h1 h2
   ·rw [jd2] at h1 h2
    split at h1
    ·rename_i e1
     cases h1
     split at h2
     ·rename_i e2
      rw [eq_of_beq e1,eq_of_beq e2]
     ·exact absurd (hl y _ h2) (je4 _)
    ·split at h2
     ·cases h2
      exact absurd (hl x _ h1) (je4 _)
     ·exact hi x y c h1 h2
   ·rw [jd2] at h
    split at h
    ·cases h;exact jh9 _
    ·exact jh4 (hl x c h)
  ·rename_i hk
   rw [if_neg hk] at h2
   exact qc3 r n acc hi hl x y c h1 h2
theorem zfj:∀ (names:List (Str×vc6)) (h:Heap) (acc:List (Str×Addr)) (x:Str) (c:Addr),(vc0 h.objs.size names acc).lookup x=some c->acc.lookup x=some c\/(pushCells h names).IsCell c none
 | [],h,acc,x,c,e=>.inl e
 | (m,k)::r,h,acc,x,c,e=>by
  unfold vc0 at e
  unfold pushCells
  split at e
  ·rename_i hk
   rw [if_pos hk]
   have hs:(h.push { cls:=.type "cell",data:=.cell none }).objs.size=h.objs.size + 1:=vf7 ..
   have e':(vc0 (h.push { cls:=.type "cell",data:=.cell none }).objs.size r ((m,h.objs.size)::acc)).lookup x=some c:=by rw [hs];exact e
   rcases zfj r _ _ x c e' with z | z
   ·rw [jd2] at z
    split at z
    ·cases z
     exact .inr ⟨_,vk1 _ _ _ _ (vb0 _ rfl),rfl⟩
    ·exact .inl z
   ·exact .inr z
  ·rename_i hk
   rw [if_neg hk]
   exact zfj r h acc x c e
theorem zmd {M:Model}{A:vb8}{E:va0->va1->Prop}{s:va1}{scope:vd0}{globals:Addr}{cl:List (Str×Addr)}{qual:Str}{func:Option Addr}{code:va0}{around:Env}{builtins:Addr}{Q:Env->va1->Prop}
  (hQ:Q (newEnv scope s.heap.objs.size globals (vc0 (s.heap.objs.size + 1) scope.names cl) qual func code (some around) builtins) { s with heap:=pushCells (s.heap.push { cls:=.type "dict",data:=.dict #[] }) scope.names }):
  vb2 M A (vl3 scope globals cl [] qual func code (some around) builtins) Q E s:=by
 simp only [vl3,jl9,if_true]
 refine va7 (wpAny_alloc ?_)
 refine va7 (wpAny_layCells _ (λ name kind cells=>by cases hkc:kind == NameKind.cell <;> simp [hkc]) _ _ _ _ ?_)
 rw [show ({ s with heap:=s.heap.push { cls:=.type "dict",data:=.dict #[] } }:va1).heap.objs.size=s.heap.objs.size + 1 from vf7 ..]
 exact va7 (va9 (va9 hQ))
def zmu (X:Cx) (scope:vd0) (C:Addr):List (Str×Addr):=vc0 (C + 1) scope.names (zzf X.env.cells scope.names [])
def zqo (X:Cx) (s2:va1) (H2:Hp) (scope:vd0) (C:Addr) (N':List Str) (fp:List Addr) (pins:List (Addr×Obj)):Cx:=
 { X with N:=N',s₀:=s2,H₀:=H2,env:=compEnvC scope (zmu X scope C) C X.env,outer:=X.stack,stack:=X.stack,ex:=fp,fn:=λ x=>scope.names.contains (x,NameKind.cell),pn:=X.pn++pins,xe:=λ _ _=>False }
structure CompOk (X:Cx) (scope:vd0) (N':List Str) (k:Nat):Prop where
 kind:scope.kind=.function
 dis:∀ x,(x,NameKind.free)∈scope.names->(x,NameKind.cell)∉scope.names
 names:∀ x∈scope.names,x.2=.local->scope.names.lookup x.1=some .local
 len:N'.length=X.N.length + k
 free:∀ x∈scope.names,x.2=.free->X.env.kindOf x.1=some .cell\/X.env.kindOf x.1=some .free
 kinds:∀ x,(vi6 scope X.env).names.lookup x=some .cell\/(vi6 scope X.env).names.lookup x=some .free->(x,NameKind.free)∈scope.names\/(x,NameKind.cell)∈scope.names
 capt:∀ (i:Nat) (x:Str),i < X.N.length->N'[i]?=some x->Vis (vi6 scope X.env) x->X.N[i]?=some x/\Vis X.env.scope x/\(x,NameKind.free)∈scope.names/\(vi6 scope X.env).names.lookup x≠some .local
section
variable {X:Cx}{scope:vd0}{N':List Str}{k:Nat}{pins:List (Addr×Obj)}{σ:St}{H2:Hp}{s2:va1}{fp:List Addr}{C:Addr}
theorem CompOk.cells (c:CompOk X scope N' k) (I:Inv X pins σ H2 s2):∀ x∈scope.names,x.2=.free->∃ a,X.env.cells.lookup x.1=some a:=λ x hx hf=>I.ok.has x.1 (c.free x hx hf)
theorem CompOk.cl (c:CompOk X scope N' k) (I:Inv X pins σ H2 s2) {x:Str}{a:Addr} (h:(zmu X scope C).lookup x=some a):X.env.cells.lookup x=some a\/(C + 1<=a/\(x,NameKind.cell)∈scope.names):=
 (zyz _ _ _ x a h).imp (λ z=>zqv _ x a _ [] (c.cells I) (λ z=>nomatch z) z) id
theorem CompOk.old (c:CompOk X scope N' k) (I:Inv X pins σ H2 s2) {x:Str}{a:Addr} (h:X.env.cells.lookup x=some a):a < s2.heap.objs.size:=by
 obtain ⟨v,o,ho,_⟩:=I.cell x a h
 exact va6 ho
theorem CompOk.cap (c:CompOk X scope N' k) {x:Str} (h:(x,NameKind.free)∈scope.names):∃ a,(zmu X scope C).lookup x=some a/\(zzf X.env.cells scope.names []).lookup x=some a:=by
 obtain ⟨a,ha⟩:=zyy X.env.cells x scope.names [] h
 exact ⟨a,(zpc _ _ _ x (c.dis x h)).trans ha,ha⟩
theorem CompOk.ok (c:CompOk X scope N' k) (I:Inv X pins σ H2 s2) (hf:∀ b∈fp,FpOk X pins H2 b) (hC:s2.heap.objs.size<=C) (hfp:∀ b∈fp,b < s2.heap.objs.size):(zqo X s2 H2 scope C N' fp pins).Ok where
 mod:=I.ok.mod
 kind:=c.kind
 glob:=I.ok.glob
 blt:=I.ok.blt
 above:=hC
 inj:=λ x y a h1 h2=>qc3 scope.names (C + 1) _ (λ x y a h1 h2=>I.ok.inj x y a (zqv _ x a _ [] (c.cells I) (λ z=>nomatch z) h1) (zqv _ y a _ [] (c.cells I) (λ z=>nomatch z) h2))
  (λ x a h=>jh4 (jb0 (c.old I (zqv _ x a _ [] (c.cells I) (λ z=>nomatch z) h)) hC)) x y a h1 h2
 has:=λ x hx=>(c.kinds x hx).elim (λ z=>let ⟨a,h,_⟩:=c.cap (C:=C) z;⟨a,h⟩) λ z=>let ⟨a,h,_⟩:=zhp scope.names (C + 1) (zzf X.env.cells scope.names []) x z;⟨a,h⟩
 cab:=λ x a h e=>by
  have hx:(x,NameKind.cell)∈scope.names:=by
   have h':scope.names.contains (x,NameKind.cell)=true:=h
   simpa using h'
  obtain ⟨a',e',l⟩:=zhp scope.names (C + 1) (zzf X.env.cells scope.names []) x hx
  have e2:(vc0 (C + 1) scope.names (zzf X.env.cells scope.names [])).lookup x=some a:=e
  rw [e'] at e2
  cases e2
  exact jc4 hC (je3 l)
 hd:=I.ok.hd
 frames:=I.ok.frames
 stk:=.inl rfl
 exf:=λ b hb=>⟨jc9 (jb0 (hfp b hb) hC),λ x a h=>(c.cl I h).elim (λ z=>(hf b hb).2.2.2.2.1 x a z) λ z=>jg7 (jb0 (hfp b hb) (jc4 hC (je3 z.1)))⟩
 bs:=I.bs
 bsz:=jc4 I.ok.bsz I.sz
 noex:=λ b o e hb=>by
  rcases (hf b hb).2.2.2.1 with z | z
  ·exact I.ok.noex b o e z
  ·exact absurd (jb0 (va6 e) (jc4 I.ok.bsz z)) (je4 _)
 exfs:=λ b hb hz=>by
  rcases jb2.mp (I.stkSub b hz) with z | z
  ·exact (hf b hb).2.1 z
  ·exact (hf b hb).2.2.1 z
 funs:=I.stack
 frf:=I.stkFree
theorem CompOk.inv (c:CompOk X scope N' k) (I:Inv X pins σ H2 s2) (hf:∀ b∈fp,FpOk X pins H2 b) (hfp:∀ b∈fp,b < s2.heap.objs.size) {H3:Hp}{h':Heap}{t':Nat}{m:Str->Option va0}{D:Addr} (hCD:D≠C) (hD:s2.heap.objs.size<=D) (hC:s2.heap.objs.size<=C)
  (keep:∀ b o,s2.heap.get? b=some o->h'.get? b=some o) (ns:h'.Ns C m) (hH:∀ b,b≠D->H3 b=H2 b) (hok:HOk X.prog X.w H3 h') (hC3:H3 C=none) (hDC:D < C) (hcN:∀ x a,(zmu X scope C).lookup x=some a->C + 1<=a->h'.IsCell a none):
  Inv (zqo X s2 H2 scope C N' fp pins) [] (σ++ja9 k none) H3 { s2 with heap:=h',toks:=t' } where
 ok:=c.ok I hf hC hfp
 os:=rfl
 bare:=I.bare
 base:=by
  have nD:∀ b o,s2.heap.get? b=some o->b≠D:=λ b o e=>jc9 (jb0 (va6 e) hD)
  refine ⟨λ b o e _ _ _=>keep b o e,λ b o e _ _ _=>⟨o.slots,keep b o e⟩,λ b o e n _=>by rw [hH b (nD b o e)];exact n,λ b o e _=>⟨o,keep b o e⟩,λ b xs e=>?_,λ b o u e=>?_,λ b ps e=>⟨#[],?_⟩⟩
  ·have e:H2 b=some (.tup xs):=e
   rw [hH b (λ z=>by rw [z,I.hok.fresh hD] at e;cases e)];exact e
  ·have e:H2 b=some (.frz o u):=e
   rw [hH b (λ z=>by rw [z,I.hok.fresh hD] at e;cases e)];exact e
  ·have e:H2 b=some (.tbl ps):=e
   rw [hH b (λ z=>by rw [z,I.hok.fresh hD] at e;cases e)];simpa using e
 loc:=by
  refine ⟨m,ns,λ i x v e1 e2 e3=>?_⟩
  have hi:i < σ.length:=by
   by_cases hi:i < σ.length
   ·exact hi
   ·rw [jc5 (by omega),jd5] at e2
    split at e2 <;> cases e2
  rw [jb5 hi] at e2
  obtain ⟨n1,n2,n3,n4⟩:=c.capt i x (by rw [<- I.len];exact hi) e1 e3
  obtain ⟨m0,ns0,hl⟩:=I.loc
  obtain ⟨u,r,lk⟩:=hl i x v n1 e2 n2
  refine ⟨u,r,.inr ⟨?_,?_⟩⟩
  ·rcases e3 with z | z | z
   ·exact absurd z n4
   ·exact .inl z
   ·exact .inr z
  ·obtain ⟨a,ha,hb⟩:=c.cap (C:=C) n3
   have ha':=zqv _ x a _ [] (c.cells I) (λ z=>nomatch z) hb
   refine ⟨a,ha,?_⟩
   rcases lk with ⟨hk,_⟩ | ⟨hk,a2,ha2,hc⟩
   ·rcases c.free _ n3 rfl with z | z <;> rw [hk] at z <;> cases z
   ·rw [ha'] at ha2;cases ha2
    obtain ⟨o,ho,hd⟩:=hc
    exact ⟨o,keep _ _ ho,hd⟩
 cell:=λ x a h=>by
  rcases c.cl I h with z | z
  ·obtain ⟨v,o,ho,hd⟩:=I.cell x a z
   exact ⟨v,o,keep _ _ ho,hd⟩
  ·exact ⟨none,hcN x a h z.1⟩
 free:=hC3
 freeC:=λ x a h=>by
  rcases c.cl I h with ha | z
  ·obtain ⟨v,o,ho,hd⟩:=I.cell x a ha
   rw [hH a (jc9 (jb0 (va6 ho) hD))]
   exact I.freeC x a ha
  ·rw [hH a (jg7 (jb0 hDC (je3 z.1)))]
   exact I.hok.fresh (jc4 hC (je3 z.1))
 pin:=λ p hp=>by
  have hp':p∈X.pn++pins:=by simpa [zqo] using hp
  obtain ⟨e,n,ne,nf,d⟩:=I.pin p hp'
  have hlt:=va6 e
  exact ⟨keep _ _ e,by rw [hH p.1 (jc9 (jb0 hlt hD))];exact n,jc9 (jb0 hlt hC),λ z=>(jb2.mp (I.stkSub p.1 z)).elim ne nf,d⟩
 hok:=hok
 len:=by
  show (σ++ja9 k none).length=N'.length
  rw [jb3,je5,c.len,I.len]
def PTs (X:Cx) (ifs:List Expr) (t:TT):Prop:=
 ∀ (pins:List (Addr×Obj)) (s:va1) (σ:St) (H:Hp) (Q:Bool->Hp->Prop),Inv X pins σ H s->t σ H Q ->
  vb2 (vb1 X.prog X.w) X.A (forIn ifs true λ c r=>if r=true then do let ok<-isTrue c X.env (eval c X.env);pure (ForInStep.yield ok) else pure (ForInStep.yield r)) (TP X pins σ Q) X.xe s
theorem qhg {X:Cx}:PTs X [] (λ _ H Q=>Q true H):=λ _ _ _ H _ I h=>va9 ⟨H,I,h⟩
theorem qhf {X:Cx}{c:Expr}{t:TT} (hc:PT X c t):PTs X [c] t:=by
 intro pins s σ H Q I h
 rw [jn8]
 refine va7 ?_
 rw [if_pos rfl]
 refine va7 (thn (hc pins s σ H Q I h) λ b s1 q=>va9 ?_)
 exact va9 q
theorem CompOk.again (c:CompOk X scope N' k) (I:Inv X pins σ H2 s2) {σ':St}{H':Hp}{s':va1}{ps:List (Addr×Obj)} (hfp:∀ b∈fp,FpOk X pins H2 b) (J:Inv (zqo X s2 H2 scope C N' fp pins) ps σ' H' s'):Inv (zqo X s2 H2 scope C N' fp pins) ps (σ++ja9 k none) H' s' where
 ok:=J.ok
 os:=J.os
 bare:=J.bare
 base:=J.base
 loc:=by
  obtain ⟨m,ns,_⟩:=J.loc
  refine ⟨m,ns,λ i x v e1 e2 e3=>?_⟩
  have hi:i < σ.length:=by
   by_cases hi:i < σ.length
   ·exact hi
   ·rw [jc5 (by omega),jd5] at e2
    split at e2 <;> cases e2
  rw [jb5 hi] at e2
  obtain ⟨n1,n2,n3,n4⟩:=c.capt i x (by rw [<- I.len];exact hi) e1 e3
  obtain ⟨m0,ns0,hl⟩:=I.loc
  obtain ⟨u,r,lk⟩:=hl i x v n1 e2 n2
  refine ⟨u,r,.inr ⟨?_,?_⟩⟩
  ·rcases e3 with z | z | z
   ·exact absurd z n4
   ·exact .inl z
   ·exact .inr z
  ·obtain ⟨a,ha,hb⟩:=c.cap (C:=C) n3
   have ha':=zqv _ x a _ [] (c.cells I) (λ z=>nomatch z) hb
   refine ⟨a,ha,?_⟩
   rcases lk with ⟨hk,_⟩ | ⟨hk,a2,ha2,hc⟩
   ·rcases c.free _ n3 rfl with z | z <;> rw [hk] at z <;> cases z
   ·rw [ha'] at ha2;cases ha2
    obtain ⟨o,ho,hd⟩:=hc
    obtain ⟨sl,ho'⟩:=J.base.any (b:=a) (ob:=o) ho (I.freeC x a ha') λ z=>(hfp a z).2.2.2.2.1 x a ha' rfl
    exact ⟨_,ho',hd⟩
 cell:=J.cell
 free:=J.free
 freeC:=J.freeC
 pin:=J.pin
 hok:=J.hok
 len:=by
  show (σ++ja9 k none).length=N'.length
  rw [jb3,je5,c.len,I.len]
theorem zvd {prog:va8}{w:vb6}{A:vb8}{R:Result->va1->Prop}{s:va1}{elt target iter:Expr}{ifs:List Expr}{scope:vd0}{pos:Pos}{it acc:va0}{env:Env} (I:Nat->va1->Prop)
  (turn:∀ n s,I n s->vb2 (vb1 prog w) A (pyNext it) (λ r s₁=>match r with
   | none=>R (.ok .next) s₁
   | some v=>vb2 (vb1 prog w) A (vg7 target it v) (λ _ s₁'=>vb2 (vb1 prog w) A (vk7 target env v) (λ _ s₂=>
     vb2 (vb1 prog w) A (forIn ifs true λ c r=>if r=true then do let ok<-isTrue c env (eval c env);pure (ForInStep.yield ok) else pure (ForInStep.yield r)) (λ ok s₃=>
      if ok=true then vb2 (vb1 prog w) A (eval elt env) (λ x s₄=>
       vb2 (vb1 prog w) A (call (.builtin "list.append") [acc,x]) (λ _ s₅=>∃ m,m < n/\I m s₅) (λ _ _=>False) s₄) (λ _ _=>False) s₃
      else ∃ m,m < n/\I m s₃) (λ _ _=>False) s₂) (λ _ _=>False) s₁') (λ _ _=>False) s₁) (λ _ _=>False) s)
  (n:Nat) (h:I n s):
  vi7 (vb1 prog w) A (.compLoop (.ListComp elt [⟨target,iter,ifs,0⟩] scope pos) 0 it acc env) R s:=by
 refine codeAny_loop rfl I (λ n s hI=>?_) n h
 show vb2 _ A ((compTurn (.ListComp elt [⟨target,iter,ifs,0⟩] scope pos) 0 it acc env).onRaise (λ x=>do noteFrame x env;theTreesLotGoes x)) _ _ s
 refine wpAny_noted ?_
 rw [compTurn_list]
 refine va7 (wpAny_standAt (va7 (ve0 (turn n s hI) (λ r s₁ h₁=>?_) λ _ _ h'=>h'.elim)))
 cases r with
 | none=>exact va9 h₁
 | some v=>
  refine va7 (ve0 h₁ (λ _ s₁' h₁'=>?_) λ _ _ h'=>h'.elim)
  refine va7 (ve0 h₁' (λ _ s₂ h₂=>va7 (ve0 h₂ (λ ok s₃ h₃=>?_) λ _ _ h'=>h'.elim)) λ _ _ h'=>h'.elim)
  cases ok with
  | false=>exact va9 ⟨rfl,h₃⟩
  | true=>
   exact va7 (va7 (ve0 h₃ (λ x s₄ h₄=>va7 (ve0 h₄ (λ _ s₅ h₅=>va9 (va9 ⟨rfl,h₅⟩)) λ _ _ h'=>h'.elim)) λ _ _ h'=>h'.elim))
theorem zjy {elt iter tg:Expr}{ifs:List Expr}{pos:Pos}{J:It}{it:Addr}{tn:Nat->Heap->Prop}{g:TG}{tc:TT}{te:TE}{RR:va0->Addr->Result->va1->Prop}{Q:VK}{E:va0->va1->Prop}
  (c:CompOk X scope N' k) (hcalm:X.calm=true) (I:Inv X pins σ H2 s2) (T:Turn X.prog X.w X.K tg J fp it tn) (st:tn 0 s2.heap) (hf:∀ b∈fp,FpOk X pins H2 b)
  (hg:∀ C fp,PG (zqo X s2 H2 scope C N' fp pins) tg g) (hc:∀ C fp,PTs (zqo X s2 H2 scope C N' fp pins) ifs tc) (he:∀ C fp,PE (zqo X s2 H2 scope C N' fp pins) elt te)
  (h:∀ D,H2 D=none->∃ W:Nat->Nat->List V->Hp->Prop,(∃ m,W 0 m [] (upd H2 D (.lst [])))/\∀ i m ys H,W i m ys H->H D=some (.lst ys) /\
   ((J.stop i H/\Q (.ref D) H)\/(J.go i H/\∀ x H',J.yld i H x H'->g x (σ++ja9 k none) H' λ σ2 H2=>tc σ2 H2 λ b H3=>if b=true then te σ2 H3 λ y H4=>H4 D=some (.lst ys)/\ys.length < va2/\∃ m',m' < m/\W (i + 1) m' (ys++[y]) (upd H4 D (.lst (ys++[y]))) else ∃ m',m' < m/\W (i + 1) m' ys H3)))
  (hRR:∀ D C σ' H' s',s2.heap.objs.size<=C->Inv (zqo X s2 H2 scope C N' fp pins) [] σ' H' s'->Q (.ref D) H'->RR (.ref D) C (.ok .next) s')
  :
  vb2 (vb1 X.prog X.w) X.A (newList []) (λ acc s₃=>vb2 (vb1 X.prog X.w) X.A (vl3 scope X.env.globals (zzf X.env.cells scope.names []) [] X.env.qual none .none (some X.env)) (λ cenv s₄=>
   vi7 (vb1 X.prog X.w) X.A (.compStart (.ListComp elt [⟨tg,iter,ifs,0⟩] scope pos) 0 (.ref it) acc { cenv with scope:=vi6 scope X.env }) (RR acc cenv.locals) s₄) E s₃) E s2:=by
 refine ve5 (zmd ?_)
 dsimp only
 generalize hH2:s2.heap.push { cls:=.type "list",dict:=none,data:=.seq ([]:List va0).toArray }=HP
 obtain ⟨h₁,hh₁⟩:∃ h₁,h₁=pushCells (HP.push { cls:=.type "dict",data:=.dict #[] }) scope.names:=⟨_,rfl⟩
 rw [<- hh₁]
 have kk:∀ b o,HP.get? b=some o->h₁.get? b=some o:=λ b o e=>by rw [hh₁];exact vk1 _ _ b o (va5 _ e)
 have hns₁:h₁.Ns HP.objs.size (λ _=>none):=by rw [hh₁];exact (Heap.Ns.new HP (.type "dict")).keeps (vk1 _ _)
 have hC:HP.objs.size=s2.heap.objs.size + 1:=by rw [<- hH2,vf7]
 have hDC:s2.heap.objs.size≠HP.objs.size:=by rw [hC];exact jc9 (jh9 _)
 have hCle:s2.heap.objs.size<=HP.objs.size:=by rw [hC];exact Nat.le_succ _
 have hfp:∀ b∈fp,b < s2.heap.objs.size:=λ b hb=>by
  obtain ⟨o,e,_⟩:=T.obj 0 _ st b hb
  exact va6 e
 have below:∀ b,b < s2.heap.objs.size->b≠HP.objs.size:=λ b hb=>by rw [hC];exact jc9 (jh4 hb)
 have old:∀ b o,s2.heap.get? b=some o->h₁.get? b=some o:=λ b o e=>kk b o (hH2 ▸ va5 _ e)
 have hacc:h₁.get? s2.heap.objs.size=some { cls:=.type "list",dict:=none,data:=.seq ([]:List va0).toArray }:=kk _ _ (hH2 ▸ vb0 _ rfl)
 have fD:H2 s2.heap.objs.size=none:=I.hok.fresh (jb7 _)
 obtain ⟨W,⟨m0,w0⟩,hW⟩:=h _ fD
 have hok3:HOk X.prog X.w (upd H2 s2.heap.objs.size (.lst [])) h₁:=I.hok.laid old (jb7 _) ⟨jg2 _,[],0,.nil,hacc⟩
 have st1:tn 0 h₁:=T.keep _ _ _ st λ b hb o e=>old b o e
 have I3:Inv (zqo X s2 H2 scope HP.objs.size N' fp pins) [] (σ++ja9 k none) (upd H2 s2.heap.objs.size (.lst [])) { s2 with heap:=h₁ }:=
  c.inv I hf hfp (t':=s2.toks) hDC (jb7 _) hCle old hns₁ (λ b hb=>zqg hb) hok3 (by rw [zqg (vc2 hDC)];exact I.hok.fresh hCle) (by rw [hC];exact jh9 _) (λ x a h l=>by
   have hs:(HP.push { cls:=.type "dict",data:=.dict #[] }).objs.size=HP.objs.size + 1:=vf7 ..
   have h':(vc0 (HP.push { cls:=.type "dict",data:=.dict #[] }).objs.size scope.names (zzf X.env.cells scope.names [])).lookup x=some a:=by rw [hs];exact h
   rcases zfj scope.names _ _ x a h' with z | z
   ·exact absurd (jb0 (c.old I (zqv _ x a _ [] (c.cells I) (λ z=>nomatch z) z)) (jc4 hCle (je3 l))) (je4 _)
   ·rw [hh₁];exact z)
 have fx:∀ {H':Hp},(∀ b∈fp,H' b=none)->∀ b∈fp,FpOk (zqo X s2 H2 scope HP.objs.size N' fp pins) [] H' b:=λ hn b hb=>by
  obtain ⟨f0,f1,f2,f3,f4,f5⟩:=hf b hb
  refine ⟨hn b hb,jc9 (jb0 (hfp b hb) hCle),λ hz=>?_,.inl hb,λ x a h=>(c.cl I h).elim (λ z=>f4 x a z) λ z=>jg7 (jb0 (hfp b hb) (jc4 hCle (je3 z.1))),λ p hp=>f5 p (by simpa [zqo] using hp)⟩
  rcases jb2.mp (I.stkSub b hz) with z | z
  ·exact f1 z
  ·exact f2 z
 have f0:∀ b∈fp,(upd H2 s2.heap.objs.size (.lst [])) b=none:=λ b hb=>by rw [zqg (jc9 (hfp b hb))];exact (hf b hb).1
 have loop:∀ s₃:va1,s₃={ s2 with heap:=h₁ } ->
   vi7 (vb1 X.prog X.w) X.A (.compLoop (.ListComp elt [⟨tg,iter,ifs,0⟩] scope pos) 0 (.ref it) (.ref s2.heap.objs.size) (compEnvC scope (zmu X scope HP.objs.size) HP.objs.size X.env))
    (RR (.ref s2.heap.objs.size) HP.objs.size) s₃:=by
  rintro s₃ rfl
  refine zvd (λ n s'=>∃ i H' ys,Inv (zqo X s2 H2 scope HP.objs.size N' fp pins) [] (σ++ja9 k none) H' s'/\tn i s'.heap/\(∀ b∈fp,H' b=none)/\W i n ys H') ?_ m0 ⟨0,_,[],I3,st1,f0,w0⟩
  rintro n s4 ⟨i,H4,ys,I4,st4,fr4,w4⟩
  obtain ⟨hD4,hcase⟩:=hW i n ys H4 w4
  rcases hcase with ⟨stop,qn⟩ | ⟨go,step⟩
  ·refine thn (T.done (zqo X s2 H2 scope HP.objs.size N' fp pins) rfl rfl rfl hcalm i [] s4 _ H4 (λ _ _=>False) I4 (fx fr4) st4 stop) λ r s5 ⟨hr,I5⟩=>?_
   subst hr
   exact hRR _ _ _ _ _ hCle I5 qn
  ·refine thn (T.item (zqo X s2 H2 scope HP.objs.size N' fp pins) rfl rfl rfl hcalm i [] s4 _ H4 (λ _ _=>False) I4 (fx fr4) st4 go) λ r s5 ⟨u,hr,h5⟩=>?_
   subst hr
   refine thn h5 λ _ s6 ⟨x,H6,I6,r6,y6,st6,fr6⟩=>?_
   have I6':=I6.pinned (fx fr6) (T.obj _ _ st6)
   have stays:∀ {σ':St}{H':Hp}{s':va1},Inv (zqo X s2 H2 scope HP.objs.size N' fp pins) ([]++zpy fp s6.heap) σ' H' s'->Inv (zqo X s2 H2 scope HP.objs.size N' fp pins) [] (σ++ja9 k none) H' s'/\tn (i + 1) s'.heap/\∀ b∈fp,H' b=none:=λ {σ' H' s'} J=>by
    refine ⟨c.again I hf J.unpinned,T.keep _ _ _ st6 λ b hb o e=>(J.pin (b,o) (ja2 _ (ja2 _ (zzr hb e)))).1,λ b hb=>?_⟩
    obtain ⟨o,e,d⟩:=T.obj _ _ st6 b hb
    exact (J.pin (b,o) (ja2 _ (ja2 _ (zzr hb e)))).2.1
   refine thn (hg _ _ _ s6 _ H6 x u _ I6' r6 (step x H6 y6)) λ _ s7 ⟨σ7,H7,I7,q7⟩=>?_
   refine thn (hc _ _ _ s7 σ7 H7 _ I7 q7) λ b s8 ⟨H8,I8,q8⟩=>?_
   cases b with
   | false=>
    rw [if_neg jc7] at q8 ⊢
    obtain ⟨m',hm,w'⟩:=q8
    obtain ⟨j1,j2,j3⟩:=stays I8
    exact ⟨m',hm,i + 1,H8,ys,j1,j2,j3,w'⟩
   | true=>
    rw [if_pos rfl] at q8 ⊢
    refine thn (he _ _ _ s8 σ7 H8 _ I8 q8) λ y s9 ⟨z,H9,I9,r9,hD9,hz9,m',hm,w'⟩=>?_
    refine thn (zym (X:=zqo X s2 H2 scope HP.objs.size N' fp pins) _ s9 σ7 H9 (.ref s2.heap.objs.size) [z] (.ref s2.heap.objs.size) [y] (λ _ H'=>H'=upd H9 s2.heap.objs.size (.lst (ys++[z]))) I9 rfl (.cons r9 .nil) ⟨_,ys,z,rfl,rfl,hD9,hz9,rfl⟩) λ _ s10 ⟨_,H10,I10,_,e10⟩=>?_
    subst e10
    obtain ⟨j1,j2,j3⟩:=stays I10
    exact ⟨m',hm,i + 1,_,_,j1,j2,j3,w'⟩
 exact codeAny_compStart_list (loop _ rfl) (T.self _ 0 _ _ _ st1 (loop _ rfl))
theorem CompOk.out (I:Inv X pins σ H2 s2) (hf:∀ b∈fp,FpOk X pins H2 b) {σ':St}{H':Hp}{s':va1} (J:Inv (zqo X s2 H2 scope C N' fp pins) [] σ' H' s'):Inv X pins σ H' s':=
 I.call' (ch:=fp) J.os J.base J.hok J.bare λ b hb=>⟨(hf b hb).2.2.2.1,(hf b hb).2.1,(hf b hb).2.2.2.2.1,(hf b hb).2.2.2.2.2⟩
theorem CompOk.away (I:Inv X pins σ H2 s2) (hC:s2.heap.objs.size<=C) {σ':St}{H':Hp}{s':va1} (J:Inv X pins σ' H' s') (hC':H' C=none) {h':Heap} (sb:vj6 C s'.heap h'):Inv X pins σ' H' { s' with heap:=h' }:=by
 have lt:∀ b o,s2.heap.get? b=some o->b≠C:=λ b o e=>jc9 (jb0 (va6 e) hC)
 refine J.turned (t':=s'.toks) (it:=C) (λ b o hb e=>(sb.2 b hb).trans e) hC' (jg7 (jb0 I.lt hC)) (.inr (jc4 I.sz hC)) (λ x c h=>?_) λ p hp=>?_
 ·obtain ⟨v,o,ho,_⟩:=I.cell x c h
  exact lt c o ho
 ·exact lt p.1 p.2 (I.pin p hp).1
variable {elt iter tg:Expr}{ifs:List Expr}{pos:Pos}{wi:TI}{g:TG}{tc:TT}{te:TE}
theorem qbu (c:CompOk X scope N' k) (hcalm:X.calm=true) (hi:PI X tg iter wi) (hg:∀ s2 H2 C fp pins,PG (zqo X s2 H2 scope C N' fp pins) tg g) (hc:∀ s2 H2 C fp pins,PTs (zqo X s2 H2 scope C N' fp pins) ifs tc)
  (he:∀ s2 H2 C fp pins,PE (zqo X s2 H2 scope C N' fp pins) elt te) (hs:∀ x,vf9 iter X.env x=pure x):PE X (.ListComp elt [⟨tg,iter,ifs,0⟩] scope pos) (qaa k wi g tc te):=by
 intro pins s σ H Q I h
 rw [eval_ListComp]
 refine wpAny_comprehension_free (use:=none) rfl hs (zvs (c.cells I)) c.kind c.names ?_
 refine thn (hi pins s σ H _ I h) λ v s1 h1=>thn h1 λ itv s2 h2=>?_
 obtain ⟨it,fp,tn,J,H',e,I2,T,st2,f2,W⟩:=h2
 subst e
 refine zjy (RR:=λ acc C=>compPost (vb1 X.prog X.w) X.A X.xe none (EP X pins σ Q) acc C) c hcalm I2 T st2 f2 (λ C fp=>hg s2 H' C fp pins) (λ C fp=>hc s2 H' C fp pins) (λ C fp=>he s2 H' C fp pins) W λ D C σ' H3 s' hC J3 q=>?_
 obtain ⟨m,ns,_⟩:=J3.loc
 exact ⟨m,ns,λ h' sb=>⟨.ref D,H3,CompOk.away I2 hC (CompOk.out I2 f2 J3) J3.free sb,rfl,q⟩⟩
theorem qaf {i:Nat}{x:Str}{pos' spos:Pos} (hN:X.N.Nodup) (hi':X.N[i]?=some x) (hx:Loc X.env.scope x) (hfn:X.fn x=true\/X.env.scope.names.lookup x=some .local) (c:CompOk X scope N' k) (hcalm:X.calm=true) (hi:PI X tg iter wi) (hg:∀ s2 H2 C fp pins,PG (zqo X s2 H2 scope C N' fp pins) tg g) (hc:∀ s2 H2 C fp pins,PTs (zqo X s2 H2 scope C N' fp pins) ifs tc)
  (he:∀ s2 H2 C fp pins,PE (zqo X s2 H2 scope C N' fp pins) elt te) (hs:∀ x,vf9 iter X.env x=pure x):PS X (.Assign [.Name x pos'] (.ListComp elt [⟨tg,iter,ifs,0⟩] scope pos) spos) (tAsg (qaa k wi g tc te) (zjb i)):=by
 have hsw:∃ b,swapsWith (.ListComp elt [⟨tg,iter,ifs,0⟩] scope pos) (some (.Name x pos')) spos.line X.env=pure b:=⟨_,rfl⟩
 obtain ⟨b,hsw⟩:=hsw
 cases b with
 | false=>exact qfn hN hi' hx (qbu c hcalm hi hg hc he hs) hsw hfn
 | true=>
  intro pins s σ H D I h
  rw [exec_Assign_Name_used _ _ _ _ hsw]
  refine va7 (wpAny_standAt (va7 ?_))
  show vb2 _ X.A (do let _<-comprehension (.ListComp elt [⟨tg,iter,ifs,0⟩] scope pos) scope X.env _ (newList []) false (eval iter X.env) (some (vk7 (.Name x pos') X.env))) _ _ s
  refine va7 (ve0 (wpAny_comprehension_free (use:=some (vk7 (.Name x pos') X.env)) (Q:=λ _ s'=>SP X pins D .next s') rfl hs (zvs (c.cells I)) c.kind c.names ?_) (λ _ s' hq=>va9 (va9 hq)) λ _ _ e=>e)
  refine thn (hi pins s σ H _ I h) λ v s1 h1=>thn h1 λ itv s2 h2=>?_
  obtain ⟨it,fp,tn,J,H',e,I2,T,st2,f2,W⟩:=h2
  subst e
  refine zjy (Q:=λ x H1=>zjb i x σ H1 D.nx) (RR:=λ acc C=>compPost (vb1 X.prog X.w) X.A X.xe (some (vk7 (.Name x pos') X.env)) (λ _ s'=>SP X pins D .next s') acc C) c hcalm I2 T st2 f2 (λ C fp=>hg s2 H' C fp pins) (λ C fp=>hc s2 H' C fp pins) (λ C fp=>he s2 H' C fp pins) W λ E C σ' H3 s' hC J3 q=>?_
  obtain ⟨m,ns,_⟩:=J3.loc
  have I3:=CompOk.out I2 f2 J3
  show vb2 _ X.A (vk7 (.Name x pos') X.env (.ref E)) _ _ _
  refine wpAny_assign_Name (zpp I3 hN hi' hx (v:=.ref E) rfl (λ s'' I4 hsb=>?_) hfn)
  obtain ⟨a,sb,ha⟩:=hsb
  have hCa:C≠a:=by
   rcases ha with z | z
   ·rw [z];exact jg7 (jb0 I2.lt hC)
   ·obtain ⟨v,o,ho,_⟩:=I2.cell x a z
    exact jg7 (jb0 (va6 ho) hC)
  exact ⟨m,ns.sameBut sb hCa,λ h' sb'=>⟨_,H3,CompOk.away I2 hC I4 J3.free sb',q⟩⟩
theorem qdl {P:va8}{w:vb6}{K:Frag}{tg:Expr} (z:Str) (tk:Tok) (it:Addr):Turn P w K tg (ItS z) [it] it (λ i h=>h.IsStrIter it "str_ascii_iterator" z tk i) where
 mem:=by simp
 obj:=λ i h st b hb=>by
  have e:b=it:=by simpa using hb
  subst e
  obtain ⟨o,e,c,d⟩:=st
  exact ⟨o,e,λ v z=>by rw [d] at z;cases z⟩
 keep:=λ i h h' st k=>by
  obtain ⟨o,e,r⟩:=st
  exact ⟨o,k it (by simp) o e,r⟩
 item:=by
  intro X hP hw hK hc i pins s σ H E I hf st hg
  subst hP hw hK
  have hi:i < z.cps.size:=hg
  obtain ⟨f0,f1,f2,f3,f4,f5⟩:=hf it (by simp)
  refine wpAny_pyNext_ascii_item st (c:=z.cps[i]) (by simp [hi]) λ h' st' sb=>?_
  have I1:Inv X pins σ H { s with heap:=h',toks:=s.toks + 1 }:=I.turned (t':=s.toks + 1) (λ b o hb e=>(sb.2 b hb).trans e) f0 f1 f3 f4 f5
  obtain ⟨o,e,c,d⟩:=id st'
  exact ⟨_,rfl,qeo (s:={ s with heap:=h',toks:=s.toks + 1 }) e c d (by decide) ⟨.str ⟨#[z.cps[i]]⟩,H,I1,⟨_,rfl⟩,⟨rfl,z.cps[i],by simp [hi],rfl⟩,st',λ b hb=>(hf b hb).1⟩⟩
 done:=by
  intro X hP hw hK hc i pins s σ H E I hf st hg
  subst hP hw hK
  have hi:z.cps.size<=i:=hg
  obtain ⟨f0,f1,f2,f3,f4,f5⟩:=hf it (by simp)
  exact wpAny_pyNext_ascii_end (I.ok.hd hc) st (by simp;omega) λ h' eb=>⟨rfl,I.turned (t':=s.toks) (λ b o hb e=>eb b o hb e) f0 f1 f3 f4 f5⟩
 self:=λ _ _ _ _ _ st h=>wpAny_pyIter_striter_ascii st h
theorem qkd {l:Expr}{tl:TE} (hl:PE X l tl):PI X tg l (iSeq X.K tl):=by
 intro pins s σ H R I h
 refine thn (hl pins s σ H _ I h) λ v s1 ⟨x,H1,I1,r1,q1⟩=>?_
 obtain ⟨a,e,⟨⟨xs,hq⟩,q⟩ | ⟨⟨xs,hq⟩,q⟩⟩ | ⟨z,e,ha,q⟩:=q1
 ·subst e
  cases r1
  obtain ⟨its,rv,p,hz⟩:=I1.list hq
  refine wpAny_pyIter_list p.isList ?_
  refine ⟨s1.heap.objs.size,[s1.heap.objs.size],_,_,H1,rfl,I1.kept (t':=s1.toks) λ b o e=>va5 _ e,qaw a _,⟨_,vb0 _ rfl,rfl,rfl⟩,λ b hb=>?_,q⟩
  have e:b=s1.heap.objs.size:=by simpa using hb
  subst e
  exact I1.fpOk (jb7 _) (I1.hok.fresh (jb7 _))
 ·subst e
  cases r1
  obtain ⟨its,rv,p,hz⟩:=I1.tuple hq
  refine wpAny_pyIter_tuple (show s1.heap.IsTuple a its.toArray from p) ?_
  refine ⟨s1.heap.objs.size,[s1.heap.objs.size],_,_,H1,rfl,I1.kept (t':=s1.toks) λ b o e=>va5 _ e,zhx a _,⟨_,vb0 _ rfl,rfl,rfl⟩,λ b hb=>?_,q⟩
  have e:b=s1.heap.objs.size:=by simpa using hb
  subst e
  exact I1.fpOk (jb7 _) (I1.hok.fresh (jb7 _))
 ·subst e
  obtain ⟨tk,rfl⟩:=r1
  refine wpAny_pyIter_ascii ha ?_
  refine ⟨s1.heap.objs.size,[s1.heap.objs.size],_,_,H1,rfl,I1.kept (t':=s1.toks) λ b o e=>va5 _ e,qdl z tk _,⟨_,vb0 _ rfl,rfl,rfl⟩,λ b hb=>?_,q⟩
  have e:b=s1.heap.objs.size:=by simpa using hb
  subst e
  exact I1.fpOk (jb7 _) (I1.hok.fresh (jb7 _))
end
section
variable {M:Fm}{vs:List Nat}{H:Hp}{fps:Fps}{F:List Addr}{Q:VK}
theorem zqu {k:Int}{d:Nat} (h:Leaf M H fps vs F (.int k) d Q):Q (.int k) H:=h (.int k) H [] (λ _ _ h=>h) (by rw [Own];exact ⟨rfl,rfl⟩) (λ _ z=>nomatch z)
theorem zxo {k:Bool}{d:Nat} (h:Leaf M H fps vs F (.bl k) d Q):Q (.bl k) H:=h (.bl k) H [] (λ _ _ h=>h) (by rw [Own];exact ⟨rfl,rfl⟩) (λ _ z=>nomatch z)
theorem zzs {k:Str}{d:Nat} (h:Leaf M H fps vs F (.str k) d Q):Q (.str k) H:=h (.str k) H [] (λ _ _ h=>h) (by rw [Own];exact ⟨rfl,rfl⟩) (λ _ z=>nomatch z)
theorem zwx {x:PV}{v:V} (h:Leaf M H fps vs F x (dv x) Q) (o:Own M.K H (Zv M vs fps) x 0 v []):Q v H:=h v H [] (λ _ _ h=>h) (o.dv.weak λ a z=>z.elim id λ z=>nomatch z) (λ _ z=>nomatch z)
theorem zxj {p:Addr}{o:HO} (hp:H p=none):∀ a u,H a=some u->upd H p o a=some u:=λ a u h=>by rw [zqg (λ e=>by rw [e,hp] at h;cases h)];exact h
theorem zyo {xs:List PV}{ws:List V} (h:Leaf M H fps vs F (.lst xs) 1 Q) (o:OwnL M.K H (Zv M vs fps) xs 0 ws []) {p:Addr} (hp:H p=none):Q (.ref p) (upd H p (.lst ws)):=by
 refine h (.ref p) _ [p] (zxj hp) ?_ λ a ha=>.inr (by rw [jb6.mp ha];exact hp)
 rw [Own]
 refine ⟨p,ws,rfl,.inr ⟨(by decide),[],zqj,rfl,(λ z=>nomatch z),?_⟩⟩
 rw [zmb]
 exact OwnL.move (S:=λ _=>False) (λ a u ha _=>zxj hp a u ha) (λ _ z=>z.elim) (λ a hd nz z=>z.elim nz λ z=>hd (by rw [jb6.mp z];exact hp)) xs 0 ws [] (λ _ z=>nomatch z) o
def atoms:List PV->Bool
 | []=>true
 | x::xs=>zzy x && atoms xs
def zfo:PV->Bool
 | .tup xs=>atoms xs
 | x=>zzy x
def zpf:List PV->Bool
 | []=>true
 | x::xs=>zfo x && zpf xs
def d1 (xs:List PV):Nat:=if zpf xs=true then om else 1
theorem OwnL.ats {K:Frag}{H:Hp}{Z Z':Addr->Prop}:∀ {xs:List PV}{ws:List V}{d d':Nat},QQ.atoms xs=true->OwnL K H Z xs d' ws []->OwnL K H Z' xs d ws []
 | [],ws,d,_,_,h=>by rw [OwnL] at h ⊢;exact h
 | x::xs,ws,d,_,ha,h=>by
  unfold QQ.atoms at ha
  rw [ja5] at ha
  rw [OwnL] at h ⊢
  obtain ⟨v,s,f1,f2,rfl,ef,dj,h1,h2⟩:=h
  obtain ⟨rfl,rfl⟩:f1=[]/\f2=[]:=by simpa using ef.symm
  exact ⟨v,s,[],[],rfl,rfl,dj,(Own.atom ha.1 h1).2,h2.ats ha.2⟩
theorem Own.flat {K:Frag}{H:Hp}{Z Z':Addr->Prop}{x:PV}{v:V}{d d':Nat} (hx:zfo x=true) (h:Own K H Z x d' v []):Own K H Z' x d v []:=by
 cases x with
 | tup xs=>
  rw [Own] at h ⊢
  obtain ⟨a,vs,e,ha,hl⟩:=h
  exact ⟨a,vs,e,ha,hl.ats hx⟩
 | lst _=>cases hx
 | dct _=>cases hx
 | exn _=>exact (Own.atom rfl h).2
 | emp=>exact (Own.atom rfl h).2
 | dko=>exact (Own.atom rfl h).2
 | scr _=>exact (Own.atom rfl h).2
 | non=>exact (Own.atom rfl h).2
 | bl _=>exact (Own.atom rfl h).2
 | int _=>exact (Own.atom rfl h).2
 | str _=>exact (Own.atom rfl h).2
theorem OwnL.ats0 {K:Frag}{H:Hp}{Z:Addr->Prop}:∀ {xs:List PV}{ws:List V}{d:Nat}{f:List Addr},QQ.atoms xs=true->OwnL K H Z xs d ws f->f=[]
 | [],ws,d,f,_,h=>by rw [OwnL] at h;exact h.2
 | x::xs,ws,d,f,ha,h=>by
  unfold QQ.atoms at ha
  rw [ja5] at ha
  rw [OwnL] at h
  obtain ⟨v,s,f1,f2,rfl,rfl,dj,h1,h2⟩:=h
  rw [(Own.atom (Z':=Z) (d':=d) ha.1 h1).1,h2.ats0 ha.2]
  rfl
theorem Own.flatA {K:Frag}{H:Hp}{Z Z':Addr->Prop}{x:PV}{v:V}{d d':Nat}{f:List Addr} (hx:zfo x=true) (h:Own K H Z x d v f):f=[]/\Own K H Z' x d' v []:=by
 have e:f=[]:=by
  cases x with
  | tup xs=>
   rw [Own] at h
   obtain ⟨a,vs,e,ha,hl⟩:=h
   exact hl.ats0 hx
  | lst _=>cases hx
  | dct _=>cases hx
  | exn _=>exact (Own.atom (Z':=Z) (d':=d) rfl h).1
  | emp=>exact (Own.atom (Z':=Z) (d':=d) rfl h).1
  | dko=>exact (Own.atom (Z':=Z) (d':=d) rfl h).1
  | scr _=>exact (Own.atom (Z':=Z) (d':=d) rfl h).1
  | non=>exact (Own.atom (Z':=Z) (d':=d) rfl h).1
  | bl _=>exact (Own.atom (Z':=Z) (d':=d) rfl h).1
  | int _=>exact (Own.atom (Z':=Z) (d':=d) rfl h).1
  | str _=>exact (Own.atom (Z':=Z) (d':=d) rfl h).1
 subst e
 exact ⟨rfl,h.flat hx⟩
theorem OwnL.atoms {K:Frag}{H:Hp}{Z Z':Addr->Prop}:∀ {xs:List PV}{ws:List V}{d:Nat},zpf xs=true->OwnL K H Z xs 0 ws []->OwnL K H Z' xs d ws []
 | [],ws,d,_,h=>by rw [OwnL] at h ⊢;exact h
 | x::xs,ws,d,ha,h=>by
  unfold zpf at ha
  rw [ja5] at ha
  rw [OwnL] at h ⊢
  obtain ⟨v,s,f1,f2,rfl,ef,dj,h1,h2⟩:=h
  obtain ⟨rfl,rfl⟩:f1=[]/\f2=[]:=by simpa using ef.symm
  exact ⟨v,s,[],[],rfl,rfl,dj,h1.flat ha.1,h2.atoms ha.2⟩
theorem zxy {xs:List PV}{ws:List V} (h:Leaf M H fps vs F (.lst xs) (d1 xs) Q) (o:OwnL M.K H (Zv M vs fps) xs 0 ws []) {p:Addr} (hp:H p=none):Q (.ref p) (upd H p (.lst ws)):=by
 unfold d1 at h
 split at h
 ·rename_i ha
  refine h (.ref p) _ [p] (zxj hp) ?_ λ a ha=>.inr (by rw [jb6.mp ha];exact hp)
  rw [Own]
  refine ⟨p,ws,rfl,.inr ⟨(by decide),[],zqj,rfl,(λ z=>nomatch z),?_⟩⟩
  have o':OwnL M.K (upd H p (.lst ws)) (Zv M vs fps) xs 0 ws []:=OwnL.move (S:=λ _=>False) (λ a u ha _=>zxj hp a u ha) (λ _ z=>z.elim) (λ _ _ n=>n) xs 0 ws [] (λ _ z=>nomatch z) o
  exact o'.atoms ha
 ·exact zyo h o hp
theorem zks {xs:List PV}{ws:List V} (h:Leaf M H fps vs F (.tup xs) 0 Q) (o:OwnL M.K H (Zv M vs fps) xs 0 ws []) {p:Addr} (hp:H p=none):Q (.ref p) (upd H p (.tup ws)):=by
 refine h (.ref p) _ [] (zxj hp) ?_ λ a ha=>nomatch ha
 rw [Own]
 refine ⟨p,ws,rfl,zqj,?_⟩
 rw [qhl]
 exact OwnL.move (S:=λ _=>False) (λ a u ha _=>zxj hp a u ha) (λ _ z=>z.elim) (λ a hd nz z=>z.elim nz λ z=>nomatch z) xs 0 ws [] (λ _ z=>nomatch z) o
theorem zkg {xs:List PV}{ws:List V} (h:Leaf M H fps vs F (.lst xs) om Q) {Z:Addr->Prop} (o:OwnL M.K H Z xs om ws F) {p:Addr} (hp:H p=none):Q (.ref p) (upd H p (.lst ws)):=by
 refine h (.ref p) _ (p::F) (zxj hp) ?_ λ a ha=>(jb2.mp ha).elim (λ e=>.inr (by rw [e];exact hp)) .inl
 rw [Own]
 refine ⟨p,ws,rfl,.inr ⟨(by decide),F,zqj,rfl,λ z=>?_,?_⟩⟩
 ·obtain ⟨ys,e⟩:=OwnL.lsts xs om ws F o p z
  rw [hp] at e;cases e
 ·exact OwnL.full xs ws F (OwnL.move (S:=λ _=>False) (Z':=Z) (λ a u ha _=>zxj hp a u ha) (λ _ z=>z.elim) (λ _ _ n=>n) xs om ws F (λ _ _ z=>z) o)
theorem qca {xs:List PV}{ws:List V} (h:Leaf M H fps vs F (.tup xs) om Q) {Z:Addr->Prop} (o:OwnL M.K H Z xs om ws F) {p:Addr} (hp:H p=none):Q (.ref p) (upd H p (.tup ws)):=by
 refine h (.ref p) _ F (zxj hp) ?_ λ a ha=>.inl ha
 rw [Own]
 exact ⟨p,ws,rfl,zqj,OwnL.full xs ws F (OwnL.move (S:=λ _=>False) (Z':=Z) (λ a u ha _=>zxj hp a u ha) (λ _ z=>z.elim) (λ _ _ n=>n) xs om ws F (λ _ _ z=>z) o)⟩
end
theorem Own.seqL {K:Frag}{H:Hp}{Z:Addr->Prop}{xs:List PV}{d:Nat}{v:V}{fp:List Addr} (h:Own K H Z (.lst xs) d v fp):∃ a ws,v=.ref a/\SqL K H a ws/\ws.length=xs.length:=by
 rw [Own] at h
 obtain ⟨a,ws,e,⟨_,hr,_,ol⟩ | ⟨_,f,ha,_,_,ol⟩⟩:=h
 ·exact ⟨a,ws,e,.inl (.inl hr.1),ol.length⟩
 ·exact ⟨a,ws,e,.inl (.inl ha),ol.length⟩
theorem Own.seqT {K:Frag}{H:Hp}{Z:Addr->Prop}{xs:List PV}{d:Nat}{v:V}{fp:List Addr} (h:Own K H Z (.tup xs) d v fp):∃ a ws,v=.ref a/\SqT K H a ws/\ws.length=xs.length:=by
 rw [Own] at h
 obtain ⟨a,ws,e,hr,ol⟩:=h
 exact ⟨a,ws,e,.inl (.inl hr),ol.length⟩
theorem Own.coldL {K:Frag}{H:Hp}{Z:Addr->Prop}{xs:List PV}{v:V} (h:Own K H Z (.lst xs) 0 v []):∃ a ws,v=.ref a/\H a=some (.lst ws)/\OwnL K H Z xs 0 ws []:=by
 rw [Own] at h
 obtain ⟨a,ws,e,⟨_,hr,_,ol⟩ | ⟨h,_⟩⟩:=h
 ·exact ⟨a,ws,e,hr.1,ol⟩
 ·exact absurd rfl h
theorem Own.coldT {K:Frag}{H:Hp}{Z:Addr->Prop}{xs:List PV}{v:V} (h:Own K H Z (.tup xs) 0 v []):∃ a ws,v=.ref a/\H a=some (.tup ws)/\OwnL K H Z xs 0 ws []:=by
 rw [Own] at h
 exact h
theorem OwnL.app {K:Frag}{H:Hp}{Z:Addr->Prop}:∀ {xs ys:List PV}{ws us:List V},OwnL K H Z xs 0 ws []->OwnL K H Z ys 0 us []->OwnL K H Z (xs++ys) 0 (ws++us) []
 | [],ys,ws,us,h,h'=>by rw [OwnL] at h;obtain ⟨rfl,_⟩:=h;exact h'
 | x::xs,ys,ws,us,h,h'=>by
  rw [OwnL] at h
  obtain ⟨v,s,f1,f2,rfl,ef,dj,h1,h2⟩:=h
  obtain ⟨rfl,rfl⟩:f1=[]/\f2=[]:=by simpa using ef.symm
  show OwnL K H Z (x::(xs++ys)) 0 (v::(s++us)) []
  rw [OwnL]
  exact ⟨v,s++us,[],[],rfl,rfl,λ _ z=>(nomatch z),h1,h2.app h'⟩
theorem OwnL.drop {K:Frag}{H:Hp}{Z:Addr->Prop}:∀ {xs:List PV}{ws:List V} (n:Nat),OwnL K H Z xs 0 ws []->OwnL K H Z (xs.drop n) 0 (ws.drop n) []
 | xs,ws,0,h=>h
 | [],ws,n + 1,h=>by rw [OwnL] at h;obtain ⟨rfl,_⟩:=h;rw [jo1,jo1,OwnL];exact ⟨rfl,rfl⟩
 | x::xs,ws,n + 1,h=>by
  rw [OwnL] at h
  obtain ⟨v,s,f1,f2,rfl,ef,dj,h1,h2⟩:=h
  obtain ⟨rfl,rfl⟩:f1=[]/\f2=[]:=by simpa using ef.symm
  exact h2.drop n
theorem OwnL.take {K:Frag}{H:Hp}{Z:Addr->Prop}:∀ {xs:List PV}{ws:List V} (n:Nat),OwnL K H Z xs 0 ws []->OwnL K H Z (xs.take n) 0 (ws.take n) []
 | xs,ws,0,h=>by rw [jl4,jl4,OwnL];exact ⟨rfl,rfl⟩
 | [],ws,n + 1,h=>by rw [OwnL] at h;obtain ⟨rfl,_⟩:=h;rw [jm1,jm1,OwnL];exact ⟨rfl,rfl⟩
 | x::xs,ws,n + 1,h=>by
  rw [OwnL] at h
  obtain ⟨v,s,f1,f2,rfl,ef,dj,h1,h2⟩:=h
  obtain ⟨rfl,rfl⟩:f1=[]/\f2=[]:=by simpa using ef.symm
  rw [ji4,ji4,OwnL]
  exact ⟨v,s.take n,[],[],rfl,rfl,λ _ z=>(nomatch z),h1,h2.take n⟩
theorem OwnL.nth {K:Frag}{H:Hp}{Z:Addr->Prop}{xs:List PV}{ws:List V}{j:Nat}{x:PV} (h:OwnL K H Z xs 0 ws []) (e:xs[j]?=some x):∃ w,ws[j]?=some w/\Own K H Z x 0 w []:=by
 have hj:j < ws.length:=by rw [h.length];exact (ja8.mp e).1
 obtain ⟨y,e1,e2⟩:=h.get (i:=j) (w:=ws[j]) (by simp [hj])
 rw [e] at e1;cases e1
 exact ⟨_,by simp [hj],e2⟩
theorem cold {M:Fm}{vs:List Nat}{H:Hp}{fps:Fps}{x:PV}{d:Nat}{v:V}{fp:List Addr} (o:Own M.K H (Zt M vs fps fp) x d v fp) (hf:∀ a∈fp,¬ Zf M fps a):Own M.K H (Zv M vs fps) x 0 v []:=
 Own.freeze (λ _ z=>.inl z) x d v fp (λ a ha z=>hf a ha z.zf) o
def zqh:PV->Nat->PV->Nat->Option (PV×Nat)
 | .int i,_,.int j,_=>some (.int (i + j),om)
 | .lst xs,_,.lst ys,_=>if xs.length + ys.length<=va2 then some (.lst (xs++ys),d1 (xs++ys)) else none
 | .tup xs,_,.tup ys,_=>if xs.length + ys.length<=va2 then some (.tup (xs++ys),0) else none
 | .str x,_,.str y,_=>if x.length + y.length<=va2 then some (.str (x++y),om) else none
 | _,_,_,_=>none
def qaj (p:Int->Int->Bool) (g:Int->Int->Int):PV->Nat->PV->Nat->Option (PV×Nat)
 | .int i,_,.int j,_=>if p i j then some (.int (g i j),om) else none
 | _,_,_,_=>none
def pMul (i j:Int):Bool:=(decide (-(2 ^ 64) < i) && decide (i < 2 ^ 64)) || (decide (-(2 ^ 64) < j) && decide (j < 2 ^ 64))
def pDiv (_ j:Int):Bool:=decide (0 < j) && decide (j < 2 ^ 128)
def pMod (_ j:Int):Bool:=decide (0 < j)
def pPow (i j:Int):Bool:=decide (0<=j) && decide (j<=1000) && decide (i.natAbs < 2 ^ 64)
def zzc:=qaj (λ _ _=>true) (λ i j=>i - j)
def repL (n:Nat) (xs:List PV):List PV:=(ja9 n xs).flatten
def sRep (x:Str) (n:Nat):Str:=⟨(ja9 n x.cps.toList).flatten.toArray⟩
def zwk:PV->Nat->PV->Nat->Option (PV×Nat)
 | .str x,_,.int n,_=>if -(2 ^ 62)<=n/\n < 2 ^ 62/\x.length * n.toNat<=va2 then some (.str (sRep x n.toNat),om) else none
 | .int i,_,.int j,_=>if pMul i j then some (.int (i * j),om) else none
 | .lst xs,_,.int k,_=>if 0<=k/\k < 2 ^ 62/\xs.length * k.toNat<=va2 then some (.lst (repL k.toNat xs),d1 (repL k.toNat xs)) else none
 | _,_,_,_=>none
def zzv:=qaj pDiv (λ i j=>i / j)
def zql:=qaj pMod (λ i j=>i % j)
def qed:=qaj pPow (λ i j=>i ^ j.toNat)
section
variable {X:Cx}
theorem qeb:OpR X (vd5 .FloorDiv) (rI (λ _ j=>0 < j/\j < 2 ^ 128) λ i j=>.int (i / j)):=opI λ i j _ _ _ _ _ hc q=>by
 have h1:(0:Int) < j:=hc.1
 have h2:j < 2 ^ 128:=hc.2
 refine floordiv_int (by omega) (by rw [Int.fdiv_eq_ediv_of_nonneg i (by omega)];exact q) (.inl (PyProof.noPylong_of_log2 ?_))
 have h3:j.natAbs < 2 ^ 128:=by omega
 have h4:j.natAbs≠0:=by omega
 have:=(Nat.log2_lt h4).mpr h3
 omega
end
theorem zqk {X:Cx}{e:Expr}{t t':TE} (h:PE X e t) (i:∀ σ H Q,t' σ H Q->t σ H Q):PE X e t':=λ pins s σ H Q I q=>h pins s σ H Q I (i σ H Q q)
theorem zpw {X:Cx}{e:Expr}{t t':TT} (h:PT X e t) (i:∀ σ H Q,t' σ H Q->t σ H Q):PT X e t':=λ pins s σ H Q I q=>h pins s σ H Q I (i σ H Q q)
theorem qfm {X:Cx}{e:Expr}{t t':TT} (h:PW X e t) (i:∀ σ H Q,t' σ H Q->t σ H Q):PW X e t':=λ wh pins s σ H Q I q=>h wh pins s σ H Q I (i σ H Q q)
theorem qfu {X:Cx}{e:List Expr}{t t':TA} (h:PA X e t) (i:∀ σ H Q,t' σ H Q->t σ H Q):PA X e t':=λ p pins s σ H Q I q=>h p pins s σ H Q I (i σ H Q q)
theorem zxq {X:Cx}{e:Stmt}{t t':TS} (h:PS X e t) (i:∀ D σ H,t' D σ H->t D σ H):PS X e t':=λ pins s σ H D I q=>h pins s σ H D I (i D σ H q)
theorem qbh {X:Cx}{e:List Stmt}{t t':TS} (h:PSs X e t) (i:∀ D σ H,t' D σ H->t D σ H):PSs X e t':=λ pins s σ H D I q=>h pins s σ H D I (i D σ H q)
section
variable {X:Cx}{M:Fm}{a b:Expr}{f g:Fx}{vs vs':List Nat}{pos:Pos}{σ:St}{H:Hp}{Q:VK}
theorem qec:OpR X (vd5 .Add) (λ x y H Q=>∃ a b ys,x=.ref a/\y=.ref b/\SqT X.K H a []/\SqT X.K H b ys/\Q (.ref b) H):=by
 intro pins s σ H x y v u Q I rx ry h
 obtain ⟨a,b,ys,rfl,rfl,ha,hb,q⟩:=h
 cases rx
 cases ry
 obtain ⟨its,r1,p1,_⟩:=I.tuple ha
 obtain ⟨its2,r2,p2,_⟩:=I.tuple hb
 cases r1
 obtain ⟨⟨cls,dd,data,sl⟩,ho,hc,n,hd⟩:=id p1
 obtain ⟨⟨cls2,dd2,data2,sl2⟩,ho2,hc2,n2,hd2⟩:=id p2
 simp only at hc hd hc2 hd2
 subst hc hd hc2 hd2
 exact concat_meets ⟨_,ho,rfl⟩ ⟨_,ho2,rfl⟩ vj7 seq_tuple_add vg6 vg3 (vg0 _ _)
  (tuple_addW0 a b _ its2.toArray n n2 dd dd2 sl sl2 rfl) ⟨ho,ho2,⟨.ref b,H,I,rfl,q⟩⟩
theorem qjz (hv:∀ i∈vs,M.Ms i=false) (hK:M.K=X.K) (ha:PE X a (tE M f vs)) (hb:PE X b (tE M g vs')):PE X (.BinOp a .Add b pos) (tE M (bBin zqh f g) (vs++vs')):=by
 refine zqk (qd5 (qkx.or (qfv.or (qhq.or (qec.or qai)))) ha hb) λ σ H Q h=>zwp hv (λ x d y e z c v w H fps f1 f2 Q ho o1 o2 dj nz zd lf=>?_) h
 cases x with
 | int i=>
  cases y with
  | int j=>
   cases ho
   rw [Own] at o1 o2
   exact .inl ⟨i,j,o1.1,o2.1,zqu lf⟩
  | _=>cases ho
 | lst xs=>
  cases y with
  | lst ys=>
   dsimp only [zqh] at ho
   split at ho
   ·rename_i hl
    cases ho
    obtain ⟨p,ws,rfl,hp,ol⟩:=(cold o1 λ a ha=>nz a (ja4 _ ha)).coldL
    obtain ⟨p2,us,rfl,hp2,ol2⟩:=(cold o2 λ a ha=>nz a (ja2 _ ha)).coldL
    exact .inr (.inl ⟨p,p2,ws,us,rfl,rfl,hp,hp2,by rw [ol.length,ol2.length];exact hl,λ q hq=>zxy lf (ol.app ol2) hq⟩)
   ·cases ho
  | _=>cases ho
 | tup xs=>
  cases y with
  | tup ys=>
   dsimp only [zqh] at ho
   split at ho
   ·rename_i hl
    cases ho
    obtain ⟨p,ws,rfl,hp,ol⟩:=(cold o1 λ a ha=>nz a (ja4 _ ha)).coldT
    obtain ⟨p2,us,rfl,hp2,ol2⟩:=(cold o2 λ a ha=>nz a (ja2 _ ha)).coldT
    by_cases hw:ws=[]
    ·subst hw
     refine .inr (.inr (.inr (.inl ⟨p,p2,us,rfl,rfl,.inl (.inl hp),.inl (.inl hp2),?_⟩)))
     have ex:xs=[]:=by
      have:=ol.length
      cases xs with
      | nil=>rfl
      | cons _ _=>simp at this
     subst ex
     exact zwx (x:=.tup ys) lf (by rw [Own];exact ⟨p2,us,rfl,hp2,ol2⟩)
    ·refine .inr (.inr (.inl ⟨p,p2,ws,us,rfl,rfl,.inl (.inl hp),.inl (.inl hp2),hw,by rw [ol.length,ol2.length];exact hl,λ hu=>?_,λ hu q hq=>zks lf (ol.app ol2) hq⟩))
     subst hu
     have ey:ys=[]:=by
      have:=ol2.length
      cases ys with
      | nil=>rfl
      | cons _ _=>simp at this
     subst ey
     rw [jf5] at lf
     exact zwx (x:=.tup xs) lf (by rw [Own];exact ⟨p,ws,rfl,hp,ol⟩)
   ·cases ho
  | _=>cases ho
 | str i=>
  cases y with
  | str j=>
   dsimp only [zqh] at ho
   split at ho
   ·rename_i hl
    cases ho
    rw [Own] at o1 o2
    exact .inr (.inr (.inr (.inr ⟨i,j,o1.1,o2.1,hl,zzs lf⟩)))
   ·cases ho
  | _=>cases ho
 | _=>cases ho
def qb2:PV->Nat->PV->Nat->Option (PV×Nat)
 | .lst xs,_,.lst ys,e=>if xs.length + ys.length<=va2 then some (.lst (xs++ys),if zpf xs=true/\e=om then om else d1 (xs++ys)) else none
 | _,_,_,_=>none
theorem OwnL.appF {K:Frag}{H:Hp}{Z:Addr->Prop}{ys:List PV}{us:List V}{fc:List Addr} (h':OwnL K H Z ys om us fc):∀ {xs:List PV}{ws:List V},OwnL K H Z xs om ws []->OwnL K H Z (xs++ys) om (ws++us) fc
 | [],ws,h=>by rw [OwnL] at h;obtain ⟨rfl,_⟩:=h;exact h'
 | x::xs,ws,h=>by
  rw [OwnL] at h
  obtain ⟨v,s,f1,f2,rfl,ef,dj,h1,h2⟩:=h
  obtain ⟨rfl,rfl⟩:f1=[]/\f2=[]:=by simpa using ef.symm
  show OwnL K H Z (x::(xs++ys)) om (v::(s++us)) fc
  rw [OwnL]
  exact ⟨v,s++us,[],fc,rfl,rfl,λ _ z=>(nomatch z),h1,OwnL.appF h' h2⟩
theorem qha (hv:∀ i∈vs,M.Ms i=false) (hK:M.K=X.K) (ha:PE X a (tE M f vs)) (hb:PE X b (tE M g vs')):PE X (.BinOp a .Add b pos) (tE M (bBin qb2 f g) (vs++vs')):=by
 refine zqk (qd5 qfv ha hb) λ σ H Q h=>zwp hv (λ x d y e z c v w H fps f1 f2 Q ho o1 o2 dj nz zd lf=>?_) h
 cases x with
 | lst xs=>
  cases y with
  | lst ys=>
   dsimp only [qb2] at ho
   split at ho
   ·rename_i hl
    cases ho
    obtain ⟨p,ws,rfl,hp,ol⟩:=(cold o1 λ a ha=>nz a (ja4 _ ha)).coldL
    split at lf
    ·rename_i hc
     obtain ⟨ht,rfl⟩:=hc
     obtain ⟨p2,us,fc,rfl,hp2,ef,na,ol2⟩:=o2.list (by decide)
     refine ⟨p,p2,ws,us,rfl,rfl,hp,hp2,by rw [ol.length,ol2.length];exact hl,λ q hq=>?_⟩
     have lf':Leaf M H fps (vs++vs') fc (.lst (xs++ys)) om Q:=λ u H' fp h1 h2 h3=>lf u H' fp h1 h2 λ a ha=>(h3 a ha).elim (λ z=>.inl (ja2 _ (by rw [ef];exact ja0 _ z))) .inr
     exact zkg lf' (OwnL.appF ol2 (ol.atoms ht)) hq
    ·obtain ⟨p2,us,rfl,hp2,ol2⟩:=(cold o2 λ a ha=>nz a (ja2 _ ha)).coldL
     exact ⟨p,p2,ws,us,rfl,rfl,hp,hp2,by rw [ol.length,ol2.length];exact hl,λ q hq=>zxy lf (ol.app ol2) hq⟩
   ·cases ho
  | _=>cases ho
 | _=>cases ho
theorem zgd {op:Operator}{p:Int->Int->Bool}{k:Int->Int->Int}{C:Int->Int->Prop} (hop:OpR X (vd5 op) (rI C λ i j=>.int (k i j))) (hC:∀ i j,p i j=true->C i j) (hv:∀ i∈vs,M.Ms i=false) (ha:PE X a (tE M f vs)) (hb:PE X b (tE M g vs')):
  PE X (.BinOp a op b pos) (tE M (bBin (qaj p k) f g) (vs++vs')):=by
 refine zqk (qd5 hop ha hb) λ σ H Q h=>zwp hv (λ x d y e z c v w H fps f1 f2 Q ho o1 o2 dj nz zd lf=>?_) h
 cases x with
 | int i=>
  cases y with
  | int j=>
   dsimp only [qaj] at ho
   split at ho
   ·rename_i hp
    cases ho
    rw [Own] at o1 o2
    exact ⟨i,j,o1.1,o2.1,hC i j hp,zqu lf⟩
   ·cases ho
  | _=>cases ho
 | _=>cases ho
theorem OwnL.rep {K:Frag}{H:Hp}{Z:Addr->Prop}{xs:List PV}{ws:List V} (h:OwnL K H Z xs 0 ws []):∀ n,OwnL K H Z (repL n xs) 0 (ja9 n ws).flatten []
 | 0=>by
  unfold repL
  rw [jl6,jl6,jn0,jn0,OwnL];exact ⟨rfl,rfl⟩
 | n + 1=>by
  have:=h.rep n
  unfold repL at this ⊢
  rw [jd4,jd4,je8,je8]
  exact h.app this
theorem qho:OpR X (vd5 .Sub) (rI (λ _ _=>True) λ i j=>.int (i - j)):=opI λ _ _ _ _ _ _ _ _ q=>sub_int q
theorem cMul {i j:Int} (h:pMul i j=true):CMul i j:=by
 unfold pMul at h
 simp only [jd6,ja5,decide_eq_true_eq] at h
 exact h
theorem zyf (a:Array Nat):∀ (n:Nat) (b:Array Nat),(ja9 n a).foldl (·++·) b=⟨b.toList++(ja9 n a.toList).flatten⟩
 | 0,b=>by simp
 | n + 1,b=>by
  rw [jd4,jk4,zyf a n,jd4,je8]
  simp
theorem qah:OpR X (vd5 .Mult) (λ x y H Q=>∃ z n,x=.str z/\y=.int n/\-(2 ^ 62)<=n/\n < 2 ^ 62/\z.length * n.toNat<=va2/\Q (.str (sRep z n.toNat)) H):=by
 intro pins s σ H x y v u Q I rx ry h
 obtain ⟨z,n,rfl,rfl,h1,h2,h3,q⟩:=h
 obtain ⟨t1,rfl⟩:=rx
 obtain ⟨t2,rfl⟩:=ry
 have hz:vh7 (z.length * n.toNat)=false:=by
  unfold vh7
  have h40:va2<=2 ^ 40:=by decide
  exact decide_eq_false (by omega)
 refine PySem.P.mul_str (by rw [decide_eq_false (by omega),decide_eq_false (by omega)];rfl) (λ _ _ hc=>?_) (λ _ _=>hz) ?_
 ·have hn:(1:Int)<=n:=by omega
  have hl:z.length * n.toNat<=2 ^ 62:=jc4 h3 (by decide)
  have h4:(z.length:Int) * n<=2 ^ 62:=by
   have:((z.length * n.toNat:Nat):Int)<=((2 ^ 62:Nat):Int):=Int.ofNat_le.mpr hl
   rw [Int.natCast_mul,show ((n.toNat:Nat):Int)=n by omega] at this
   exact this
  have h5:(2 ^ 63 - 1) / n < (z.length:Int):=hc
  have h6:=Int.lt_mul_of_ediv_lt (by omega:(0:Int) < n) h5
  omega
 ·by_cases c1:n < 1
  ·rw [if_pos c1]
   refine ⟨by decide,.str (sRep z n.toNat),H,I.tok _,⟨s.toks,?_⟩,q⟩
   rw [show n.toNat=0 by omega]
   rfl
  ·rw [if_neg c1]
   split
   ·rename_i c2
    refine ⟨.str (sRep z n.toNat),H,I,⟨t1,?_⟩,q⟩
    have e:sRep z n.toNat=z:=by
     unfold sRep
     rcases jd6 _ _ ▸ c2 with c | c
     ·have:n=1:=by simpa using c
      subst this
      show (⟨([z.cps.toList].flatten).toArray⟩:Str)=z
      simp
     ·have e0:z.cps.toList=[]:=by
       have:z.cps.size=0:=eq_of_beq c
       exact jk0.mpr (Array.eq_empty_of_size_eq_zero this)
      rw [e0]
      have:(ja9 n.toNat ([]:List Nat)).flatten=[]:=by simp
      rw [this]
      cases z with
      | mk a=>simp at e0;subst e0;rfl
    rw [e]
   ·refine ⟨?_,.str (sRep z n.toNat),H,I.tok _,⟨s.toks,?_⟩,q⟩
    ·rw [zyf]
     show (#[].toList++(ja9 n.toNat z.cps.toList).flatten).length<=va2
     simp only [jh0,jb3,List.length_flatten,List.map_replicate,List.sum_replicate_nat]
     have h4:n.toNat * z.cps.size<=va2:=by rw [jo6];exact h3
     simpa using h4
    ·unfold sRep
     rw [zyf]
     simp
theorem qjs (hv:∀ i∈vs,M.Ms i=false) (ha:PE X a (tE M f vs)) (hb:PE X b (tE M g vs')):PE X (.BinOp a .Mult b pos) (tE M (bBin zwk f g) (vs++vs')):=by
 refine zqk (qd5 (qko.or (qkl.or qah)) ha hb) λ σ H Q h=>zwp hv (λ x d y e z c v w H fps f1 f2 Q ho o1 o2 dj nz zd lf=>?_) h
 cases x with
 | int i=>
  cases y with
  | int j=>
   dsimp only [zwk] at ho
   split at ho
   ·rename_i hp
    cases ho
    rw [Own] at o1 o2
    exact .inl ⟨i,j,o1.1,o2.1,cMul hp,zqu lf⟩
   ·cases ho
  | _=>cases ho
 | lst xs=>
  cases y with
  | int k=>
   dsimp only [zwk] at ho
   split at ho
   ·rename_i hl
    cases ho
    obtain ⟨p,ws,rfl,hp,ol⟩:=(cold o1 λ a ha=>nz a (ja4 _ ha)).coldL
    rw [Own] at o2
    exact .inr (.inl ⟨p,k,ws,rfl,o2.1,hp,by omega,by omega,by rw [ol.length];exact hl.2.2,λ q hq=>zxy lf (ol.rep k.toNat) hq⟩)
   ·cases ho
  | _=>cases ho
 | str z=>
  cases y with
  | int k=>
   dsimp only [zwk] at ho
   split at ho
   ·rename_i hl
    cases ho
    rw [Own] at o1
    rw [Own] at o2
    exact .inr (.inr ⟨z,k,o1.1,o2.1,hl.1,hl.2.1,hl.2.2,zzs lf⟩)
   ·cases ho
  | _=>cases ho
 | _=>cases ho
theorem cDiv {i j:Int} (h:pDiv i j=true):0 < j/\j < 2 ^ 128:=by
 unfold pDiv at h
 simp only [ja5,decide_eq_true_eq] at h
 exact h
theorem cMod {i j:Int} (h:pMod i j=true):0 < j:=by
 unfold pMod at h
 simpa using h
theorem cPow {i j:Int} (h:pPow i j=true):CPow i j:=by
 unfold pPow at h
 simp only [ja5,decide_eq_true_eq] at h
 exact ⟨h.1.1,by omega,h.2⟩
def zzg:PV->Nat->Option (PV×Nat)
 | .int i,_=>some (.int (-i),om)
 | _,_=>none
theorem qjr (ha:PE X a (tE M f vs)):PE X (.UnaryOp .USub a pos) (tE M (bUn zzg f) vs):=by
 refine zqk (qmd qi3 ha) λ σ H Q h=>zhz (λ x d z c v H fps f1 Q ho o1 nz zd lf=>?_) h
 cases x with
 | int i=>cases ho;rw [Own] at o1;exact ⟨i,o1.1,zqu lf⟩
 | _=>cases ho
def zwb (p:Int->Int->Bool):PV->Nat->PV->Nat->Option (PV×Nat)
 | .int i,_,.int j,_=>some (.bl (p i j),om)
 | _,_,_,_=>none
theorem zkt {p:Int->Int->Bool}{x y z:PV}{d e c:Nat}{v w:V}{fps:Fps}{f1 f2 F:List Addr}{Z Z':Addr->Prop} (ho:zwb p x d y e=some (z,c)) (o1:Own M.K H Z x d v f1) (o2:Own M.K H Z' y e w f2) (lf:Leaf M H fps vs F z c Q):rI0 (λ i j=>.bl (p i j)) v w H Q:=by
 cases x with
 | int i=>
  cases y with
  | int j=>
   cases ho
   rw [Own] at o1 o2
   exact ⟨i,j,o1.1,o2.1,zxo lf⟩
  | _=>cases ho
 | _=>cases ho
def sV:PV->Option V
 | .non=>some .non
 | .bl b=>some (.bl b)
 | .int i=>some (.int i)
 | .str x=>some (.str x)
 | _=>none
def toDL (f:PV->Option vg5):List PV->Option (List vg5)
 | []=>some []
 | x::xs=>match f x,toDL f xs with
  | some a,some r=>some (a::r)
  | _,_=>none
def toD:Nat->PV->Option vg5
 | 0,_=>none
 | n + 1,x=>match x with
  | .non=>some .none
  | .bl b=>some (.bool b)
  | .int i=>some (.int i)
  | .str z=>if PyData.strOk z=true then some (.str z) else none
  | .lst xs=>(toDL (toD n) xs).map .list
  | .tup xs=>(toDL (toD n) xs).map .tuple
  | _=>none
def zvy (f:PV->PV->Bool):List PV->List PV->Bool
 | [],[]=>true
 | x::xs,y::ys=>f x y && zvy f xs ys
 | _,_=>false
def zye:Nat->PV->PV->Bool
 | 0,_,_=>false
 | n + 1,x,y=>match x,y with
  | .non,.non=>true
  | .bl a,.bl b=>a == b
  | .int a,.int b=>a == b
  | .str a,.str b=>a == b
  | .emp,.emp=>true
  | .lst xs,.lst ys=>zvy (zye n) xs ys
  | .tup xs,.tup ys=>zvy (zye n) xs ys
  | _,_=>false
def opEq (neg:Bool) (x:PV) (_:Nat) (y:PV) (_:Nat):Option (PV×Nat):=match toD 20 x,toD 20 y with
 | some a,some b=>some (.bl (neg^^vc9 a b),om)
 | _,_=>match x,y with
  | .lst xs,.lst ys=>if zvy (zye 20) xs ys=true then some (.bl (neg^^true),om) else if xs.length≠ys.length then some (.bl (neg^^false),om) else none
  | .str a,.str b=>some (.bl (neg^^(a == b)),om)
  | .emp,.emp=>some (.bl (neg^^true),om)
  | .tup xs,.tup ys=>if zvy (zye 20) xs ys=true then some (.bl (neg^^true),om) else none
  | _,_=>none
theorem zvg {f:PV->Option vg5}{n:Nat} (hf:∀ x D,f x=some D->D.canLay0=true/\D.depth<=n):∀ {xs:List PV}{Ds:List vg5},toDL f xs=some Ds->vj2 Ds=true/\vd3 Ds<=n
 | [],Ds,h=>by cases h;rw [vj2,vd3];exact ⟨rfl,jg2 _⟩
 | x::xs,Ds,h=>by
  unfold toDL at h
  split at h
  ·rename_i a r h1 h2
   cases h
   have h3:=hf x a h1
   have h4:=zvg hf h2
   rw [vj2,vd3,h3.1,h4.1]
   exact ⟨rfl,Nat.max_le.mpr ⟨h3.2,h4.2⟩⟩
  ·cases h
theorem zwi:∀ (n:Nat) (x:PV) (D:vg5),toD n x=some D->D.canLay0=true/\D.depth<=n
 | 0,_,_,h=>by cases h
 | n + 1,x,D,h=>by
  unfold toD at h
  cases x with
  | non=>cases h;rw [ve6,ve1] <;> first | exact ⟨rfl,jg2 _⟩ | (intros;contradiction)
  | bl b=>cases h;rw [ve6,ve1] <;> first | exact ⟨rfl,jg2 _⟩ | (intros;contradiction)
  | int i=>cases h;rw [ve6,ve1] <;> first | exact ⟨rfl,jg2 _⟩ | (intros;contradiction)
  | str z=>
   dsimp only at h
   split at h
   ·rename_i hz
    cases h;rw [ve6,ve1] <;> first | exact ⟨hz,jg2 _⟩ | (intros;contradiction)
   ·cases h
  | lst xs=>
   obtain ⟨Ds,e,rfl⟩:=ja7.mp h
   have:=zvg (zwi n) e
   rw [ve6,ve1]
   exact ⟨this.1,jn1 this.2⟩
  | tup xs=>
   obtain ⟨Ds,e,rfl⟩:=ja7.mp h
   have:=zvg (zwi n) e
   rw [ve6,ve1]
   exact ⟨this.1,jn1 this.2⟩
  | emp=>cases h
  | dko=>cases h
  | scr ns=>cases h
  | dct _=>cases h
  | exn _=>cases h
theorem zwa {pins:List (Addr×Obj)}{s:va1}{Z:Addr->Prop} (I:L2.Inv X pins σ H s):∀ (n:Nat) (x:PV) (d:Nat) (v:V) (fp:List Addr) (u:va0) (D:vg5),toD n x=some D->Own X.K H Z x d v fp->RelV v u->∃ as,Reads s.heap u D as
 | 0,_,_,_,_,_,_,h,_,_=>by cases h
 | n + 1,x,d,v,fp,u,D,h,o,r=>by
  have all:∀ (xs:List PV) (d:Nat) (ws:List V) (fp:List Addr) (us:List va0) (Ds:List vg5),toDL (toD n) xs=some Ds->OwnL X.K H Z xs d ws fp->Vals ws us->∃ as,ReadsAll s.heap us Ds as:=λ xs=>by
   induction xs with
   | nil=>
    intro d ws fp us Ds h o r
    cases h
    rw [OwnL] at o
    obtain ⟨rfl,_⟩:=o
    cases r
    exact ⟨_,.nil⟩
   | cons y ys ih=>
    intro d ws fp us Ds h o r
    unfold toDL at h
    split at h
    ·rename_i a rr h1 h2
     cases h
     rw [OwnL] at o
     obtain ⟨v,s,f1,f2,rfl,_,_,o1,o2⟩:=o
     cases r with
     | cons r1 r2=>
      obtain ⟨as,ra⟩:=zwa I n y d v f1 _ a h1 o1 r1
      obtain ⟨bs,rb⟩:=ih d s f2 _ rr h2 o2 r2
      exact ⟨_,.cons ra rb⟩
    ·cases h
  unfold toD at h
  cases x with
  | non=>cases h;rw [Own] at o;obtain ⟨rfl,_⟩:=o;cases r;exact ⟨_,.none⟩
  | bl b=>cases h;rw [Own] at o;obtain ⟨rfl,_⟩:=o;cases r;exact ⟨_,.bool b⟩
  | int i=>cases h;rw [Own] at o;obtain ⟨rfl,_⟩:=o;obtain ⟨t,rfl⟩:=r;exact ⟨_,.int i t⟩
  | str z=>
   dsimp only at h
   split at h
   ·cases h;rw [Own] at o;obtain ⟨rfl,_⟩:=o;obtain ⟨t,rfl⟩:=r;exact ⟨_,.str z t⟩
   ·cases h
  | lst xs=>
   obtain ⟨Ds,e,rfl⟩:=ja7.mp h
   have hh:∃ a ws d' f,v=.ref a/\H a=some (.lst ws)/\OwnL X.K H Z xs d' ws f:=by
    rw [Own] at o
    obtain ⟨a,ws,ev,⟨_,hr,_,ol⟩ | ⟨_,f,ha,_,_,ol⟩⟩:=o
    ·exact ⟨a,ws,_,_,ev,hr.1,ol⟩
    ·exact ⟨a,ws,_,_,ev,ha,ol⟩
   obtain ⟨a,ws,d',f,rfl,ha,ol⟩:=hh
   cases r
   obtain ⟨its,rv,⟨ob,nn,e1,e2,e3,e4⟩,_⟩:=I.list (.inl (.inl ha))
   obtain ⟨as,ra⟩:=all xs d' ws f its Ds e ol rv
   exact ⟨_,.list e1 e2 e4 ra⟩
  | tup xs=>
   obtain ⟨Ds,e,rfl⟩:=ja7.mp h
   rw [Own] at o
   obtain ⟨a,ws,rfl,ha,ol⟩:=o
   cases r
   obtain ⟨its,rv,⟨ob,e1,e2,nn,e4⟩,_⟩:=I.tuple (.inl (.inl ha))
   obtain ⟨as,ra⟩:=all xs _ ws fp its Ds e ol rv
   exact ⟨_,.tuple e1 e2 e4 ra⟩
  | emp=>cases h
  | dko=>cases h
  | scr ns=>cases h
  | dct _=>cases h
  | exn _=>cases h
theorem zjv {K':Type} [DecidableEq K'] {prog:va8}{w:vb6}{knd:KeyKind prog w K'}{P:va8}{w0:vb6}{h:Heap}{a:Addr} (x:h.DictOf (zxe P w0) a []):h.DictOf knd a []:=by
 obtain ⟨o,es,ep,h1,h2,h3,h4,h5,h6⟩:=x
 generalize hes:es.toList=l at h5
 cases h5
 have e:es=#[]:=jk0.mp hes
 subst e
 exact ⟨o,#[],ep,h1,h2,h3,by intro z hz;simp at hz,.nil,.nil⟩
theorem qli {pins:List (Addr×Obj)}{s:va1} (I:L2.Inv X pins σ H s) {a b:Addr}{A:vb8} (ha:H a=some (.dK [])) (hb:H b=some (.dK [])) (hu:A.units < ve8):SeqAt.EqAt A s (.ref a) (.ref b) true:=by
 by_cases e:a=b
 ·subst e;exact vf2 _
 ·refine vi2 e λ prog w E Q hq=>?_
  obtain ⟨_,z1,vs,k1,d1⟩:=qap I.hok ha
  obtain ⟨_,z2,ws,k2,d2⟩:=qap I.hok hb
  cases k1
  cases k2
  exact PySem.W.keq_eq (knd:=zxe prog w) (r:=true) z1 z2 (zjv d1) (zjv d2) hu (λ _=>.nil) (by simpa using hq)
theorem zzb {Z:Addr->Prop}{xs:List PV}{d:Nat}{v:V}{fp:List Addr}{K:Frag} (o:Own K H Z (.lst xs) d v fp):∃ a ws d' f,v=.ref a/\H a=some (.lst ws)/\OwnL K H Z xs d' ws f:=by
 rw [Own] at o
 obtain ⟨a,ws,ev,⟨_,hr,_,ol⟩ | ⟨_,f,ha,_,_,ol⟩⟩:=o
 ·exact ⟨a,ws,_,_,ev,hr.1,ol⟩
 ·exact ⟨a,ws,_,_,ev,ha,ol⟩
theorem zvu {n:Nat}{e:Nat->Bool} (h:∀ j,j < n->e j=true):(jc6 n).all e=true:=jc8.mpr λ j hj=>h j (jd0.mp hj)
theorem qbd {pins:List (Addr×Obj)}{s:va1}{Z Z':Addr->Prop} (I:L2.Inv X pins σ H s):∀ (n:Nat) (x y:PV) (d e:Nat) (v w:V) (f1 f2:List Addr) (u u':va0) (A:vb8),A.units + n < ve8->zye n x y=true->Own X.K H Z x d v f1->Own X.K H Z' y e w f2->RelV v u->RelV w u'->SeqAt.EqAt A s u u' true
 | 0,_,_,_,_,_,_,_,_,_,_,_,_,h,_,_,_,_=>by cases h
 | n + 1,x,y,d,e,v,w,f1,f2,u,u',A,hu,h,o1,o2,r1,r2=>by
  have all:∀ (xs ys:List PV) (d e:Nat) (vs ws:List V) (f1 f2:List Addr) (us us':List va0),zvy (zye n) xs ys=true->OwnL X.K H Z xs d vs f1->OwnL X.K H Z' ys e ws f2->Vals vs us->Vals ws us'->us.length=us'.length/\∀ j (h1:j < us.length) (h2:j < us'.length),SeqAt.EqAt A.in1 s us[j] us'[j] true:=λ xs=>by
   induction xs with
   | nil=>
    intro ys d e vs ws f1 f2 us us' h o1 o2 r1 r2
    cases ys with
    | cons _ _=>cases h
    | nil=>
     rw [OwnL] at o1 o2
     obtain ⟨rfl,_⟩:=o1
     obtain ⟨rfl,_⟩:=o2
     cases r1
     cases r2
     exact ⟨rfl,λ j h1 _=>nomatch h1⟩
   | cons x xs ih=>
    intro ys d e vs ws f1 f2 us us' h o1 o2 r1 r2
    cases ys with
    | nil=>cases h
    | cons y ys=>
     unfold zvy at h
     rw [ja5] at h
     rw [OwnL] at o1 o2
     obtain ⟨_,_,g1,g2,rfl,_,_,p1,p2⟩:=o1
     obtain ⟨_,_,k1,k2,rfl,_,_,q1,q2⟩:=o2
     cases r1 with
     | cons a1 a2=>
      cases r2 with
      | cons b1 b2=>
       have t:=ih ys d e _ _ g2 k2 _ _ h.2 p2 q2 a2 b2
       refine ⟨congrArg (·+ 1) t.1,λ j h1 h2=>?_⟩
       cases j with
       | zero=>exact qbd I n x y d e _ _ g1 k1 _ _ A.in1 (by have e:A.in1.units=A.units + 1:=rfl;omega) h.1 p1 q1 a1 b1
       | succ j=>exact t.2 j (jf8 h1) (jf8 h2)
  cases x with
  | non=>cases y <;> first | (cases h;done) | (rw [Own] at o1 o2;obtain ⟨rfl,_⟩:=o1;obtain ⟨rfl,_⟩:=o2;cases r1;cases r2;exact vf2 _)
  | bl b=>cases y <;> first | (cases h;done) | (rw [Own] at o1 o2;obtain ⟨rfl,_⟩:=o1;obtain ⟨rfl,_⟩:=o2;cases r1;cases r2;have e:=eq_of_beq (show (b == _)=true from h);subst e;exact vf2 _)
  | int i=>cases y <;> first | (cases h;done) | (rw [Own] at o1 o2;obtain ⟨rfl,_⟩:=o1;obtain ⟨rfl,_⟩:=o2;obtain ⟨t,rfl⟩:=r1;obtain ⟨t',rfl⟩:=r2;have e:=eq_of_beq (show (i == _)=true from h);subst e;have z:=SeqAt.EqAt.int_int (A:=A) (s:=s) i t i t';rwa [beq_self_eq_true] at z)
  | str i=>cases y <;> first | (cases h;done) | (rw [Own] at o1 o2;obtain ⟨rfl,_⟩:=o1;obtain ⟨rfl,_⟩:=o2;obtain ⟨t,rfl⟩:=r1;obtain ⟨t',rfl⟩:=r2;have e:=eq_of_beq (show (i == _)=true from h);subst e;have z:=SeqAt.EqAt.str_str (A:=A) (s:=s) i t i t';rwa [beq_self_eq_true] at z)
  | emp=>cases y <;> first | (cases h;done) | (rw [Own] at o1 o2;obtain ⟨_,a,rfl,ha⟩:=o1;obtain ⟨_,b,rfl,hb⟩:=o2;cases r1;cases r2;exact qli I ha hb (by omega))
  | dko=>cases h
  | lst xs=>
   cases y with
   | lst ys=>
    obtain ⟨a,ws,d',f,rfl,ha,ol⟩:=zzb o1
    obtain ⟨b,ws',e',f',rfl,hb,ol'⟩:=zzb o2
    cases r1
    cases r2
    obtain ⟨its,rv,p,_⟩:=I.list (.inl (.inl ha))
    obtain ⟨its',rv',p',_⟩:=I.list (.inl (.inl hb))
    have t:=all xs ys d' e' ws ws' f f' its its' h ol ol' rv rv'
    obtain ⟨ob,nn,e1,e2,e3,e4⟩:=p
    obtain ⟨ob',nn',e1',e2',e3',e4'⟩:=p'
    by_cases e:a=b
    ·subst e;exact vf2 _
    ·refine vi2 e ?_
     have z:=SeqAt.RcAt.lists (A:=A) (s:=s) (l:=a) (b:=b) (items:=its.toArray) (items2:=its'.toArray) (e:=λ _=>true) ⟨ob,e1,e2,nn,e4⟩ ⟨ob',e1',e2',nn',e4'⟩ (by simpa using t.1) (by omega) (λ j h1 h2=>by simpa using t.2 j (by simpa using h1) (by simpa using h2))
     rwa [zvu λ _ _=>rfl] at z
   | _=>cases h
  | tup xs=>
   cases y with
   | tup ys=>
    rw [Own] at o1 o2
    obtain ⟨a,ws,rfl,ha,ol⟩:=o1
    obtain ⟨b,ws',rfl,hb,ol'⟩:=o2
    cases r1
    cases r2
    obtain ⟨its,rv,⟨ob,e1,e2,nn,e4⟩,_⟩:=I.tuple (.inl (.inl ha))
    obtain ⟨its',rv',⟨ob',e1',e2',nn',e4'⟩,_⟩:=I.tuple (.inl (.inl hb))
    have t:=all xs ys _ _ ws ws' _ _ its its' h ol ol' rv rv'
    by_cases e:a=b
    ·subst e;exact vf2 _
    ·refine vi2 e ?_
     have z:=SeqAt.RcAt.tuples (A:=A) (s:=s) (l:=a) (b:=b) (items:=its.toArray) (items2:=its'.toArray) (e:=λ _=>true) ⟨ob,e1,e2,nn,e4⟩ ⟨ob',e1',e2',nn',e4'⟩ (by omega) (λ j h1 h2=>by simpa using t.2 j (by simpa using h1) (by simpa using h2))
     have z2:((its.toArray.size == its'.toArray.size):Bool)=true:=by simpa using t.1
     rwa [zvu λ _ _=>rfl,z2] at z
   | _=>cases h
  | scr ns=>cases y <;> cases h
  | dct _=>cases y <;> cases h
  | exn _=>cases y <;> cases h
theorem zgf {pins:List (Addr×Obj)}{s:va1}{Z Z':Addr->Prop} (I:L2.Inv X pins σ H s) {A:vb8} (hu:A.units + 64 < ve8):∀ (xs ys:List PV) (d e:Nat) (vs ws:List V) (f1 f2:List Addr) (us us':List va0),zvy (zye 20) xs ys=true->OwnL X.K H Z xs d vs f1->OwnL X.K H Z' ys e ws f2->Vals vs us->Vals ws us'->us.length=us'.length/\∀ j (h1:j < us.length) (h2:j < us'.length),SeqAt.EqAt A.in1 s us[j] us'[j] true:=λ xs=>by
 induction xs with
 | nil=>
  intro ys d e vs ws f1 f2 us us' h o1 o2 r1 r2
  cases ys with
  | cons _ _=>cases h
  | nil=>
   rw [OwnL] at o1 o2
   obtain ⟨rfl,_⟩:=o1
   obtain ⟨rfl,_⟩:=o2
   cases r1
   cases r2
   exact ⟨rfl,λ j h1 _=>nomatch h1⟩
 | cons x xs ih=>
  intro ys d e vs ws f1 f2 us us' h o1 o2 r1 r2
  cases ys with
  | nil=>cases h
  | cons y ys=>
   unfold zvy at h
   rw [ja5] at h
   rw [OwnL] at o1 o2
   obtain ⟨_,_,g1,g2,rfl,_,_,p1,p2⟩:=o1
   obtain ⟨_,_,k1,k2,rfl,_,_,q1,q2⟩:=o2
   cases r1 with
   | cons a1 a2=>
    cases r2 with
    | cons b1 b2=>
     have t:=ih ys d e _ _ g2 k2 _ _ h.2 p2 q2 a2 b2
     refine ⟨congrArg (·+ 1) t.1,λ j h1 h2=>?_⟩
     cases j with
     | zero=>exact qbd I 20 x y d e _ _ g1 k1 _ _ A.in1 (by have e:A.in1.units=A.units + 1:=rfl;omega) h.1 p1 q1 a1 b1
     | succ j=>exact t.2 j (jf8 h1) (jf8 h2)
theorem zge {pins:List (Addr×Obj)}{s:va1}{Z Z':Addr->Prop} (I:L2.Inv X pins σ H s) {xs ys:List PV}{d e:Nat}{v w:V}{f1 f2:List Addr}{u u':va0}{A:vb8} (hu:A.units + 64 < ve8) (h:zvy (zye 20) xs ys=true) (o1:Own X.K H Z (.lst xs) d v f1) (o2:Own X.K H Z' (.lst ys) e w f2) (r1:RelV v u) (r2:RelV w u'):SeqAt.RcAt A s u u' true/\vj5 A s u u' false:=by
 obtain ⟨a,ws,d',f,rfl,ha,ol⟩:=zzb o1
 obtain ⟨b,ws',e',f',rfl,hb,ol'⟩:=zzb o2
 cases r1
 cases r2
 obtain ⟨its,rv,⟨ob,nn,e1,e2,e3,e4⟩,_⟩:=I.list (.inl (.inl ha))
 obtain ⟨its',rv',⟨ob',nn',e1',e2',e3',e4'⟩,_⟩:=I.list (.inl (.inl hb))
 have t:=zgf I hu xs ys d' e' ws ws' f f' its its' h ol ol' rv rv'
 have z:=SeqAt.RcAt.lists (A:=A) (s:=s) (l:=a) (b:=b) (items:=its.toArray) (items2:=its'.toArray) (e:=λ _=>true) ⟨ob,e1,e2,nn,e4⟩ ⟨ob',e1',e2',nn',e4'⟩ (by simpa using t.1) (by omega) (λ j h1 h2=>by simpa using t.2 j (by simpa using h1) (by simpa using h2))
 have z':=SeqAt.RcNeAt.lists (A:=A) (s:=s) (l:=a) (b:=b) (items:=its.toArray) (items2:=its'.toArray) (e:=λ _=>true) ⟨ob,e1,e2,nn,e4⟩ ⟨ob',e1',e2',nn',e4'⟩ (by simpa using t.1) (by omega) (λ j h1 h2=>by simpa using t.2 j (by simpa using h1) (by simpa using h2))
 rw [zvu λ _ _=>rfl] at z z'
 exact ⟨z,z'⟩
theorem zpt {pins:List (Addr×Obj)}{s:va1}{Z Z':Addr->Prop} (I:L2.Inv X pins σ H s) {xs ys:List PV}{d e:Nat}{v w:V}{f1 f2:List Addr}{u u':va0}{A:vb8} (hu:A.units + 64 < ve8) (h:zvy (zye 20) xs ys=true) (o1:Own X.K H Z (.tup xs) d v f1) (o2:Own X.K H Z' (.tup ys) e w f2) (r1:RelV v u) (r2:RelV w u'):SeqAt.RcAt A s u u' true/\vj5 A s u u' false:=by
 rw [Own] at o1
 rw [Own] at o2
 obtain ⟨a,ws,rfl,ha,ol⟩:=o1
 obtain ⟨b,ws',rfl,hb,ol'⟩:=o2
 cases r1
 cases r2
 obtain ⟨its,rv,⟨ob,e1,e2,nn,e4⟩,_⟩:=I.tuple (.inl (.inl ha))
 obtain ⟨its',rv',⟨ob',e1',e2',nn',e4'⟩,_⟩:=I.tuple (.inl (.inl hb))
 have t:=zgf I hu xs ys _ _ ws ws' _ _ its its' h ol ol' rv rv'
 have z:=SeqAt.RcAt.tuples (A:=A) (s:=s) (l:=a) (b:=b) (items:=its.toArray) (items2:=its'.toArray) (e:=λ _=>true) ⟨ob,e1,e2,nn,e4⟩ ⟨ob',e1',e2',nn',e4'⟩ (by omega) (λ j h1 h2=>by simpa using t.2 j (by simpa using h1) (by simpa using h2))
 have z':=SeqAt.RcNeAt.tuples (A:=A) (s:=s) (l:=a) (b:=b) (items:=its.toArray) (items2:=its'.toArray) (e:=λ _=>true) ⟨ob,e1,e2,nn,e4⟩ ⟨ob',e1',e2',nn',e4'⟩ (by omega) (λ j h1 h2=>by simpa using t.2 j (by simpa using h1) (by simpa using h2))
 have z2:((its.toArray.size == its'.toArray.size):Bool)=true:=by simpa using t.1
 rw [zvu λ _ _=>rfl,z2] at z z'
 exact ⟨z,z'⟩
theorem qb9 {pins:List (Addr×Obj)}{s:va1}{Z Z':Addr->Prop} (I:L2.Inv X pins σ H s) {xs ys:List PV}{d e:Nat}{v w:V}{f1 f2:List Addr}{u u':va0}{A:vb8} (hu:A.units + 64 < ve8) (h:xs.length≠ys.length) (o1:Own X.K H Z (.lst xs) d v f1) (o2:Own X.K H Z' (.lst ys) e w f2) (r1:RelV v u) (r2:RelV w u'):SeqAt.RcAt A s u u' false/\vj5 A s u u' true:=by
 obtain ⟨a,ws,d',f,rfl,ha,ol⟩:=zzb o1
 obtain ⟨b,ws',e',f',rfl,hb,ol'⟩:=zzb o2
 cases r1
 cases r2
 obtain ⟨its,rv,⟨ob,nn,e1,e2,e3,e4⟩,_⟩:=I.list (.inl (.inl ha))
 obtain ⟨its',rv',⟨ob',nn',e1',e2',e3',e4'⟩,_⟩:=I.list (.inl (.inl hb))
 have hl:(its.toArray.size != its'.toArray.size)=true:=by
  have h1:=rv.length
  have h2:=rv'.length
  rw [ol.length] at h1
  rw [ol'.length] at h2
  simp only [jb4,bne_iff_ne]
  omega
 exact ⟨SeqAt.RcAt.lists_lengths ⟨ob,e1,e2,nn,e4⟩ ⟨ob',e1',e2',nn',e4'⟩ hl (by omega),SeqAt.RcNeAt.lists_lengths ⟨ob,e1,e2,nn,e4⟩ ⟨ob',e1',e2',nn',e4'⟩ hl (by omega)⟩
theorem qco {pins:List (Addr×Obj)}{s:va1}{Z Z':Addr->Prop} (I:L2.Inv X pins σ H s) {d e:Nat}{v w:V}{f1 f2:List Addr}{u u':va0}{A:vb8} (hu:A.units < ve8) (o1:Own X.K H Z .emp d v f1) (o2:Own X.K H Z' .emp e w f2) (r1:RelV v u) (r2:RelV w u'):SeqAt.RcAt A s u u' true/\vj5 A s u u' false:=by
 rw [Own] at o1
 rw [Own] at o2
 obtain ⟨_,a,rfl,ha⟩:=o1
 obtain ⟨_,b,rfl,hb⟩:=o2
 cases r1
 cases r2
 obtain ⟨_,z1,vs,k1,d1⟩:=qap I.hok ha
 obtain ⟨_,z2,ws,k2,d2⟩:=qap I.hok hb
 cases k1
 cases k2
 exact ⟨λ prog w E Q hq=>PySem.W.keq_eq (knd:=zxe prog w) (r:=true) z1 z2 (zjv d1) (zjv d2) hu (λ _=>.nil) (by simpa using hq),λ prog w E Q hq=>PySem.W.keq_ne (knd:=zxe prog w) (r:=true) z1 z2 (zjv d1) (zjv d2) hu (λ _=>.nil) (by simpa using hq)⟩
def rEqD (K:Frag) (neg:Bool):R2:=λ v w H Q=>∃ x y d e Z Z' f1 f2,Own K H Z x d v f1/\Own K H Z' y e w f2/\((∃ a b,toD 20 x=some a/\toD 20 y=some b/\Q (.bl (neg^^vc9 a b)) H)\/(∃ xs ys,x=.lst xs/\y=.lst ys/\zvy (zye 20) xs ys=true/\Q (.bl (neg^^true)) H)\/(∃ xs ys,x=.lst xs/\y=.lst ys/\xs.length≠ys.length/\Q (.bl (neg^^false)) H)\/(∃ a b,x=.str a/\y=.str b/\Q (.bl (neg^^(a == b))) H)\/(x=.emp/\y=.emp/\Q (.bl (neg^^true)) H)\/∃ xs ys,x=.tup xs/\y=.tup ys/\zvy (zye 20) xs ys=true/\Q (.bl (neg^^true)) H)
theorem qkv (hu:X.A.units + 64 < ve8):OpR X (vb4 .Eq) (rEqD X.K false):=by
 intro pins s σ H v w u u' Q I rx ry h
 obtain ⟨x,y,d,e,Z,Z',f1,f2,o1,o2,⟨a,b,h1,h2,q⟩ | ⟨xs,ys,rfl,rfl,h,q⟩ | ⟨xs,ys,rfl,rfl,h,q⟩ | ⟨a,b,rfl,rfl,q⟩ | ⟨rfl,rfl,q⟩ | ⟨xs,ys,rfl,rfl,h,q⟩⟩:=h
 ·obtain ⟨as,ra⟩:=zwa I 20 x d v f1 u a h1 o1 rx
  obtain ⟨bs,rb⟩:=zwa I 20 y e w f2 u' b h2 o2 ry
  have l1:=zwi 20 x a h1
  have l2:=zwi 20 y b h2
  exact SeqAt.compareEq_reads ra rb l1.1 l2.1 (by have:=jn9 a.depth b.depth;omega) ⟨.bl _,H,I,rfl,by simpa using q⟩
 ·exact (zge I hu h o1 o2 rx ry).1 _ _ _ _ ⟨.bl _,H,I,rfl,q⟩
 ·exact (qb9 I hu h o1 o2 rx ry).1 _ _ _ _ ⟨.bl _,H,I,rfl,q⟩
 ·rw [Own] at o1 o2
  obtain ⟨rfl,_⟩:=o1
  obtain ⟨rfl,_⟩:=o2
  obtain ⟨t,rfl⟩:=rx
  obtain ⟨t',rfl⟩:=ry
  exact SeqAt.RcAt.str_str a t b t' _ _ _ _ ⟨.bl _,H,I,rfl,by simpa using q⟩
 ·exact (qco I (by omega) o1 o2 rx ry).1 _ _ _ _ ⟨.bl _,H,I,rfl,q⟩
 ·exact (zpt I hu h o1 o2 rx ry).1 _ _ _ _ ⟨.bl _,H,I,rfl,q⟩
theorem qkn (hu:X.A.units + 64 < ve8):OpR X (vb4 .NotEq) (rEqD X.K true):=by
 intro pins s σ H v w u u' Q I rx ry h
 obtain ⟨x,y,d,e,Z,Z',f1,f2,o1,o2,⟨a,b,h1,h2,q⟩ | ⟨xs,ys,rfl,rfl,h,q⟩ | ⟨xs,ys,rfl,rfl,h,q⟩ | ⟨a,b,rfl,rfl,q⟩ | ⟨rfl,rfl,q⟩ | ⟨xs,ys,rfl,rfl,h,q⟩⟩:=h
 ·obtain ⟨as,ra⟩:=zwa I 20 x d v f1 u a h1 o1 rx
  obtain ⟨bs,rb⟩:=zwa I 20 y e w f2 u' b h2 o2 ry
  have l1:=zwi 20 x a h1
  have l2:=zwi 20 y b h2
  exact SeqAt.compareNe_reads ra rb l1.1 l2.1 (by have:=jn9 a.depth b.depth;omega) ⟨.bl _,H,I,rfl,by simpa using q⟩
 ·exact (zge I hu h o1 o2 rx ry).2 _ _ _ _ ⟨.bl _,H,I,rfl,q⟩
 ·exact (qb9 I hu h o1 o2 rx ry).2 _ _ _ _ ⟨.bl _,H,I,rfl,q⟩
 ·rw [Own] at o1 o2
  obtain ⟨rfl,_⟩:=o1
  obtain ⟨rfl,_⟩:=o2
  obtain ⟨t,rfl⟩:=rx
  obtain ⟨t',rfl⟩:=ry
  exact SeqAt.RcNeAt.str_str a t b t' _ _ _ _ ⟨.bl _,H,I,rfl,by simpa using q⟩
 ·exact (qco I (by omega) o1 o2 rx ry).2 _ _ _ _ ⟨.bl _,H,I,rfl,q⟩
 ·exact (zpt I hu h o1 o2 rx ry).2 _ _ _ _ ⟨.bl _,H,I,rfl,q⟩
theorem zgu {neg:Bool}{x y z:PV}{d e c:Nat}{v w:V}{fps:Fps}{f1 f2 F:List Addr}{Z Z':Addr->Prop} (hK:M.K=X.K) (ho:opEq neg x d y e=some (z,c)) (o1:Own M.K H Z x d v f1) (o2:Own M.K H Z' y e w f2) (lf:Leaf M H fps vs F z c Q):rEqD X.K neg v w H Q:=by
 rw [hK] at o1 o2
 refine ⟨x,y,d,e,Z,Z',f1,f2,o1,o2,?_⟩
 unfold opEq at ho
 split at ho
 ·rename_i a b ea eb
  cases ho
  exact .inl ⟨a,b,ea,eb,zxo lf⟩
 ·split at ho
  ·rename_i xs ys _
   split at ho
   ·rename_i hc
    cases ho
    exact .inr (.inl ⟨xs,ys,rfl,rfl,hc,zxo lf⟩)
   ·split at ho
    ·rename_i hc
     cases ho
     exact .inr (.inr (.inl ⟨xs,ys,rfl,rfl,hc,zxo lf⟩))
    ·cases ho
  ·rename_i a b _
   cases ho
   exact .inr (.inr (.inr (.inl ⟨a,b,rfl,rfl,zxo lf⟩)))
  ·cases ho
   exact .inr (.inr (.inr (.inr (.inl ⟨rfl,rfl,zxo lf⟩))))
  ·rename_i xs ys _
   split at ho
   ·rename_i hc
    cases ho
    exact .inr (.inr (.inr (.inr (.inr ⟨xs,ys,rfl,rfl,hc,zxo lf⟩))))
   ·cases ho
  ·cases ho
def zqc:PV->Nat->PV->Nat->Option (PV×Nat)
 | .lst xs,_,.int i,_=>(atI xs i).map λ z=>(z,dv z)
 | .tup xs,_,.int i,_=>(atI xs i).map λ z=>(z,dv z)
 | .scr ns,_,.int i,_=>(atI ns i).map λ z=>(.int z,om)
 | .str z,_,.int i,_=>if z.length<=va2 then (atI z.cps.toList i).map λ c=>(.str ⟨#[c]⟩,om) else none
 | _,_,_,_=>none
theorem zfu {K:Frag}{Z:Addr->Prop}{xs:List PV}{ws:List V}{i:Int}{z:PV} (ol:OwnL K H Z xs 0 ws []) (e:atI xs i=some z):∃ w,atI ws i=some w/\Own K H Z z 0 w []:=by
 unfold atI at e ⊢
 rw [ol.length]
 cases ej:ixN xs.length i with
 | none=>rw [ej] at e;cases e
 | some j=>rw [ej] at e;exact ol.nth e
theorem qfl (hv:∀ i∈vs,M.Ms i=false) (hK:M.K=X.K) (hs:zpi b) (ha:PE X a (tE M f vs)) (hb:PE X b (tE M g vs')):PE X (.Subscript a b pos) (tE M (bBin zqc f g) (vs++vs')):=by
 refine zqk (qbs qfz ha hb hs) λ σ H Q h=>zwp hv (λ x d y e z c v w H fps f1 f2 Q ho o1 o2 dj nz zd lf=>?_) h
 cases y with
 | int i=>
  rw [Own] at o2
  cases x with
  | lst xs=>
   dsimp only [zqc] at ho
   obtain ⟨z',ez,e2⟩:=ja7.mp ho
   cases e2
   obtain ⟨p,ws,rfl,hp,ol⟩:=(cold o1 λ a ha=>nz a (ja4 _ ha)).coldL
   obtain ⟨w',e1,ow⟩:=zfu ol ez
   exact .inl ⟨p,ws,i,w',rfl,o2.1,.inl (.inl hp),e1,zwx lf ow⟩
  | tup xs=>
   dsimp only [zqc] at ho
   obtain ⟨z',ez,e2⟩:=ja7.mp ho
   cases e2
   obtain ⟨p,ws,rfl,hp,ol⟩:=(cold o1 λ a ha=>nz a (ja4 _ ha)).coldT
   obtain ⟨w',e1,ow⟩:=zfu ol ez
   exact .inr (.inl ⟨p,ws,i,w',rfl,o2.1,.inl (.inl hp),e1,zwx lf ow⟩)
  | scr ns=>
   dsimp only [zqc] at ho
   obtain ⟨z',ez,e2⟩:=ja7.mp ho
   cases e2
   rw [Own] at o1
   obtain ⟨_,p,rfl,hp⟩:=o1
   refine .inl ⟨p,ns.map V.int,i,.int z',rfl,o2.1,?_,?_,zqu lf⟩
   ·rw [<- hK]
    exact hp.elim (λ h=>.inl (.inr h)) .inr
   ·unfold atI at ez ⊢
    rw [ja6]
    cases ej:ixN ns.length i with
    | none=>rw [ej] at ez;cases ez
    | some j=>
     rw [ej] at ez
     show (ns.map V.int)[j]?=_
     rw [jc2]
     have:ns[j]?=some z':=ez
     rw [this];rfl
  | str z=>
   dsimp only [zqc] at ho
   split at ho
   ·rename_i hl
    obtain ⟨c',ez,e2⟩:=ja7.mp ho
    cases e2
    rw [Own] at o1
    exact .inr (.inr ⟨z,i,c',o1.1,o2.1,hl,ez,zzs lf⟩)
   ·cases ho
  | _=>cases ho
 | _=>cases x <;> cases ho
def evO:Option Fx->Rho->Rz (Option Int×Rho)
 | none,ρ=>.ok (none,ρ)
 | some f,ρ=>(f ρ).bind λ (x,_,ρ1)=>match x with
  | .int i=>.ok (some i,ρ1)
  | _=>.no
def cutP (xs:List PV) (lo hi:Option Int):List PV:=(xs.drop (HT.sIx xs.length 0 lo)).take (HT.sIx xs.length xs.length hi - HT.sIx xs.length 0 lo)
def opSl (x:PV) (lo hi:Option Int):Option (PV×Nat):=match x with
 | .lst xs=>some (.lst (cutP xs lo hi),d1 (cutP xs lo hi))
 | .tup xs=>if HT.sIx xs.length 0 lo=0/\HT.sIx xs.length xs.length hi=xs.length then none else some (.tup (cutP xs lo hi),0)
 | .str z=>if z.length<=va2 then some (.str (vg8 z lo hi),om) else none
 | _=>none
def bSl (f:Fx) (lo hi:Option Fx):Fx:=λ ρ=>(f ρ).bind λ (x,_,ρ1)=>(evO lo ρ1).bind λ (l,ρ2)=>(evO hi ρ2).bind λ (u,ρ3)=>match opSl x l u with
 | some (z,c)=>.ok (z,c,ρ3)
 | none=>.no
def tO (M:Fm):Option (Fx×List Nat)->TO
 | none=>qa3
 | some (f,vs)=>qjg (tE M f vs)
theorem qa2 {o:Option (Fx×List Nat)}{ρ:Rho}{fps:Fps}{R:Option Int->Hp->Prop} (rep:Rep M ρ σ H fps)
  (q:match evO (o.map (·.1)) ρ with
   | .ok (l,ρ')=>∀ H' fps',KD M H fps H' fps'->Agr M ρ ρ'->Rep M ρ' σ H' fps'->R l H'
   | .exc c=>∀ H' fps',KD M H fps H' fps'->M.W σ c H'
   | .no=>False):tO M o σ H R:=by
 cases o with
 | none=>exact q H fps KD.refl Agr.refl rep
 | some p=>
  obtain ⟨f,vs⟩:=p
  refine ⟨ρ,fps,rep,?_⟩
  dsimp only [Option.map,evO] at q
  cases ef:f ρ with
  | no=>rw [ef] at q;exact q
  | exc c=>rw [ef] at q;exact q
  | ok p=>
   obtain ⟨x,d,ρ1⟩:=p
   rw [ef] at q
   intro v H1 fps1 f1 k1 g1 rep1 o1 t1
   dsimp only [Rz.bind] at q
   cases x with
   | int i=>rw [Own] at o1;exact ⟨i,o1.1,q H1 fps1 k1 g1 rep1⟩
   | _=>exact q.elim
def rSlS:V->Option Int->Option Int->Hp->VK->Prop:=λ x lo hi H Q=>∃ z,x=.str z/\z.length<=va2/\Q (.str (vg8 z lo hi)) H
theorem qbb:SlR X rSlS:=by
 intro pins s σ H x v vl vu lo hi sl Q I rx hs pl pu h
 obtain ⟨z,rfl,hz,q⟩:=h
 obtain ⟨t,rfl⟩:=rx
 have go:∀ (l u:Option (Int×Tok)),vl=partValue l->vu=partValue u->l.map (·.1)=lo->u.map (·.1)=hi->∃ T id,typeLookup (.type T) "__getitem__" = pure (some (.builtin id))/\s.TypeIs (.str z t) T/\vb2 (vb1 X.prog X.w) X.A (getItem (.str z t) (.ref sl)) (EP X pins σ Q) X.xe s:=by
  rintro l u rfl rfl rfl rfl
  refine ⟨"str",_,F.slot_str_getitem.lookup,vh0 _ _ _,wpAny_getItem_str_slice (l:=l) (u:=u) (st:=none) hs rfl (post_val_or_str ⟨jc4 (Txt.slice_le z _ _) hz,λ t' k=>⟨.str _,H,I.tok _,⟨_,rfl⟩,q⟩⟩)⟩
 cases pl with
 | none=>
  cases pu with
  | none=>exact go none none rfl rfl rfl rfl
  | int j uj=>exact go none (some (j,uj)) rfl rfl rfl rfl
 | int i ui=>
  cases pu with
  | none=>exact go (some (i,ui)) none rfl rfl rfl rfl
  | int j uj=>exact go (some (i,ui)) (some (j,uj)) rfl rfl rfl rfl
theorem qgu {lo hi:Option (Fx×List Nat)} (hv:∀ i∈vs,M.Ms i=false) (hK:M.K=X.K) {σ:St}{H:Hp}{Q:VK} (hq:tE M (bSl f (lo.map (·.1)) (hi.map (·.1))) vs σ H Q):tSl (λ x lo hi H Q=>rSlL X.K x lo hi H Q\/(rSlT X.K x lo hi H Q\/rSlS x lo hi H Q)) (tE M f vs) (tO M lo) (tO M hi) σ H Q:=by
 obtain ⟨ρ,fps,rep,q⟩:=hq
 refine ⟨ρ,fps,rep,?_⟩
 unfold bSl at q
 cases ef:f ρ with
 | no=>rw [ef] at q;exact q
 | exc c=>rw [ef] at q;exact q
 | ok p=>
  obtain ⟨x,d,ρ1⟩:=p
  rw [ef] at q
  intro v H1 fps1 f1 k1 g1 rep1 o1 t1
  dsimp only [Rz.bind] at q
  refine qa2 rep1 ?_
  cases el:evO (lo.map (·.1)) ρ1 with
  | no=>rw [el] at q;exact q
  | exc c=>rw [el] at q;exact λ H' fps' k=>q H' fps' (k1.trans k)
  | ok p2=>
   obtain ⟨l,ρ2⟩:=p2
   rw [el] at q
   intro H2 fps2 k2 g2 rep2
   refine qa2 rep2 ?_
   dsimp only at q
   cases eh:evO (hi.map (·.1)) ρ2 with
   | no=>rw [eh] at q;exact q
   | exc c=>rw [eh] at q;exact λ H' fps' k=>q H' fps' ((k1.trans k2).trans k)
   | ok p3=>
    obtain ⟨u,ρ3⟩:=p3
    rw [eh] at q
    intro H3 fps3 k3 g3 rep3
    dsimp only at q
    have kk:=k2.trans k3
    have o3:=kk.stay rep1 hv o1 t1.ndj
    have n3:∀ a∈f1,¬ Zf M fps3 a:=λ a ha z=>by
     rcases z with z | ⟨i,z⟩
     ·exact t1.ndj a ha (.inl z)
     ·rcases kk.sub i a z with z | z
      ·exact t1.ndj a ha (.inr ⟨i,z⟩)
      ·obtain ⟨xs,e⟩:=Own.lsts x d v f1 o1 a ha
       rw [z] at e;cases e
    have back:∀ a,H3 a=none->H a=none:=λ a e=>by
     cases e':H a with
     | none=>rfl
     | some o=>exact absurd e ((k1.trans kk).dom a (by rw [e'];simp))
    cases eo:opSl x l u with
    | none=>rw [eo] at q;exact q.elim
    | some zc=>
     obtain ⟨z,c⟩:=zc
     rw [eo] at q
     have lf:Leaf M H3 fps3 vs f1 z c Q:=λ w H4 fp k4 o4 hfp=>q w H4 fps3 fp ((k1.trans kk).trans (KD.grow k4)) (g1.trans (g2.trans g3)) (rep3.grow k4) o4 ⟨λ a ha=>(hfp a ha).elim (t1.new a) (back a),λ a ha=>(hfp a ha).elim (n3 a) λ z=>rep3.nz z⟩
     have c0:=cold o3 n3
     unfold opSl at eo
     cases x with
     | lst xs=>
      cases eo
      obtain ⟨p,ws,rfl,hp,ol⟩:=c0.coldL
      refine .inl ⟨p,ws,rfl,.inl (.inl hp),λ q hq=>?_⟩
      have e:OwnL M.K H3 (Zv M vs fps3) (cutP xs l u) 0 (cutV ws l u) []:=by
       unfold cutP cutV
       rw [ol.length]
       exact (ol.drop _).take _
      exact zxy lf e hq
     | tup xs=>
      dsimp only at eo
      split at eo
      ·cases eo
      ·rename_i hw
       cases eo
       obtain ⟨p,ws,rfl,hp,ol⟩:=c0.coldT
       refine .inr (.inl ⟨p,ws,rfl,.inl (.inl hp),by rw [ol.length];exact hw,λ q hq=>?_⟩)
       have e:OwnL M.K H3 (Zv M vs fps3) (cutP xs l u) 0 (cutV ws l u) []:=by
        unfold cutP cutV
        rw [ol.length]
        exact (ol.drop _).take _
       exact zks lf e hq
     | str z=>
      dsimp only at eo
      split at eo
      ·rename_i hz
       cases eo
       rw [Own] at o3
       exact .inr (.inr ⟨z,o3.1,hz,zzs lf⟩)
      ·cases eo
     | _=>cases eo
def zpm:PV->String
 | .non => "NoneType"
 | .bl _ => "bool"
 | .int _ => "int"
 | .str _ => "str"
 | .lst _ => "list"
 | .tup _ => "tuple"
 | .emp => "dict"
 | .dko => "dict"
 | .dct _ => "dict"
 | _ => ""
def isiB (t T:String):Bool:=t == T || (t == "bool" && T == "int")
def isiT:List String:=["int","bool","str","list","tuple","dict"]
def zqn (T:String) (x:PV) (_:Nat):Option (PV×Nat):=match x with
 | .scr _=>none
 | .exn _=>none
 | _=>some (.bl (isiB (zpm x) T),om)
theorem Own.ty {K:Frag}{Z:Addr->Prop}{x:PV}{d:Nat}{v:V}{fp:List Addr} (h:Own K H Z x d v fp) (hs:∀ ns,x≠.scr ns) (hx:∀ c,x≠.exn c):TyOf K H v (.type (zpm x)):=by
 cases x with
 | non=>rw [Own] at h;rw [h.1];exact .non
 | bl b=>rw [Own] at h;rw [h.1];exact .bl b
 | int i=>rw [Own] at h;rw [h.1];exact .int i
 | str s=>rw [Own] at h;rw [h.1];exact .str s
 | emp=>rw [Own] at h;obtain ⟨_,a,e,ha⟩:=h;rw [e];exact .dK ha
 | dko=>rw [Own] at h;obtain ⟨_,a,e,_,ha⟩:=h;rw [e];exact .dK ha
 | scr ns=>exact absurd rfl (hs ns)
 | exn c=>exact absurd rfl (hx c)
 | dct kvs=>
  rw [Own] at h
  obtain ⟨a,e,⟨_,hr,_⟩ | ⟨_,ha,_⟩⟩:=h
  ·rw [e];exact .dT hr.1
  ·rw [e];exact .dT ha
 | lst xs=>
  rw [Own] at h
  obtain ⟨a,ws,e,⟨_,hr,_,_⟩ | ⟨_,f,ha,_⟩⟩:=h
  ·rw [e];exact .lst hr.1
  ·rw [e];exact .lst ha
 | tup xs=>
  rw [Own] at h
  obtain ⟨a,ws,e,hr,_⟩:=h
  rw [e];exact .tup hr
end
section
variable {X:Cx}{M:Fm}{a b:Expr}{f g:Fx}{fa:Fa}{vs vs':List Nat}{pos p:Pos}{σ:St}{H:Hp}{Q:VK}{e:Expr}{es:List Expr}
theorem qj0:PA X [] (tL M aNil []):=qfu zzu λ σ H Q h=>qjj h
theorem qhb (hv:∀ i∈vs,M.Ms i=false) (ha:PE X e (tE M f vs)) (hr:PA X es (tL M fa vs')) (hs:va3 (e::es) X.env=(false,eval e X.env)::va3 es X.env):PA X (e::es) (tL M (zqa f fa) (vs++vs')):=
 qfu (zxr ha hr hs) λ σ H Q h=>qgt hv h
theorem zwe {op:List (PV×Nat)->Option (PV×Nat)}{r:List V->Hp->VK->Prop}
  (leaf:∀ xs z c ws H fps fp Q,op xs=some (z,c)->Tmps M.K H (Zv M vs fps) xs ws fp->(∀ a∈fp,¬ Zf M fps a)->(∀ a,Zf M fps a->H a≠none)->Leaf M H fps vs fp z c Q->r ws H Q)
  {σ:St}{H:Hp}{Q:VK} (hq:tE M (zqd op fa) vs σ H Q):tCB r (tL M fa vs) σ H Q:=zbd leaf hq
def zxx (xs:List (PV×Nat)):Option (PV×Nat):=if xs.length<=va2 then some (.lst (xs.map (·.1)),if zkk xs then om else 1) else none
def zvl (xs:List (PV×Nat)):Option (PV×Nat):=if xs.length<=va2 then some (.tup (xs.map (·.1)),if zkk xs then om else 0) else none
theorem qjt (h:PA X es (tL M fa vs)):PE X (.List es pos) (tE M (zqd zxx fa) vs):=by
 refine zqk (qfs h) λ σ H Q h=>zbd (r:=λ xs H1 Q=>xs.length<=va2/\∀ p,H1 p=none->Q (.ref p) (upd H1 p (.lst xs))) (λ xs z c ws H fps fp Q ho tm nz zd lf=>?_) h
 unfold zxx at ho
 split at ho
 ·rename_i hl
  refine ⟨by rw [tm.length];exact hl,λ q hq=>?_⟩
  cases eo:zkk xs with
  | true=>rw [eo] at ho;cases ho;exact zkg lf (tm.all (zvv eo)) hq
  | false=>rw [eo] at ho;cases ho;exact zyo lf (tm.cold λ a ha z=>nz a ha z.zf) hq
 ·cases ho
theorem qjp {x1:_} (h:PA X es (tL M fa vs)):PE X (.Tuple es x1 pos) (tE M (zqd zvl fa) vs):=by
 refine zqk (qfp h) λ σ H Q h=>zbd (r:=λ xs H1 Q=>xs.length<=va2/\∀ p,H1 p=none->Q (.ref p) (upd H1 p (.tup xs))) (λ xs z c ws H fps fp Q ho tm nz zd lf=>?_) h
 unfold zvl at ho
 split at ho
 ·rename_i hl
  refine ⟨by rw [tm.length];exact hl,λ q hq=>?_⟩
  cases eo:zkk xs with
  | true=>rw [eo] at ho;cases ho;exact qca lf (tm.all (zvv eo)) hq
  | false=>rw [eo] at ho;cases ho;exact zks lf (tm.cold λ a ha z=>nz a ha z.zf) hq
 ·cases ho
theorem Inv.big {pins:List (Addr×Obj)}{s:va1} (I:L2.Inv X pins σ H s):vd4 < s.heap.objs.size:=by
 have h:vb9 < s.heap.objs.size:=(I.mod.glob.keeps I.bk).lt
 exact jk7 (by decide) h
theorem qe3:zwn X (.builtin "isinstance") (λ xs H Q=>∃ x t T k,xs=[x,.ty T]/\TyOf X.K H x t/\vb7 X.K t (.type T)=some k/\Q (.bl k) H):=by
 intro pins s σ H xs us Q I r h
 obtain ⟨x,t,T,k,rfl,ty,hk,q⟩:=h
 obtain ⟨u,w,rfl,r1,r2⟩:=qau r
 cases r2
 exact qch I r1 ty hk λ tk=>⟨.bl k,H,I.tok _,rfl,q⟩
theorem qk2 (K:Frag) {T:String} (hT:T∈isiT) (x:PV) (hs:∀ ns,x≠.scr ns) (hx:∀ c,x≠.exn c):vb7 K (.type (zpm x)) (.type T)=some (isiB (zpm x) T):=by
 simp only [isiT,jb2,jn2,or_false] at hT
 cases x with
 | scr ns=>exact absurd rfl (hs ns)
 | exn c=>exact absurd rfl (hx c)
 | _=>rcases hT with h | h | h | h | h | h <;> subst h <;> rfl
theorem qjv {T:String}{x T':Str}{p1 p2:Pos} (hT:T∈isiT) (hK:M.K=X.K) (ha:PE X e (tE M f vs)) (hg:Gl X "isinstance") (hm:X.mg "isinstance" = none) (hT':PE X (.Name T' p2) (tC (.ty T)))
  (hs1:va3 [e,.Name T' p2] X.env=[(false,eval e X.env),(false,eval (.Name T' p2) X.env)]) (hs2:va3 [Expr.Name T' p2] X.env=[(false,eval (.Name T' p2) X.env)]):
  PE X (.Call (.Name "isinstance" p1) [e,.Name T' p2] [] pos) (tE M (bUn (zqn T) f) vs):=by
 refine zqk (zwq qe3 hg hm rfl (zxr ha (zxr hT' zzu hs2) (by rw [hs1,hs2])) (he:=by rw [hs1,hs2]) (hpl:=by rw [hs2];rfl)) λ σ H Q h=>?_
 refine zhz (r:=λ v H Q=>∃ x t T' k,[v,.ty T]=[x,.ty T']/\TyOf X.K H x t/\vb7 X.K t (.type T')=some k/\Q (.bl k) H) (λ x d z c v H fps f1 Q ho o1 nz zd lf=>?_) h
 have hs:∀ ns,x≠.scr ns:=λ ns e=>by subst e;cases ho
 have hx:∀ c,x≠.exn c:=λ c e=>by subst e;cases ho
 have e2:z=.bl (isiB (zpm x) T):=by
  cases x with
  | scr ns=>cases ho
  | exn c=>cases ho
  | _=>cases ho;rfl
 subst e2
 exact ⟨v,_,T,_,rfl,by rw [<- hK];exact o1.ty hs hx,qk2 X.K hT x hs hx,zxo lf⟩
def zxd:List (PV×Nat)->Option (PV×Nat)
 | [(.lst xs,_)]=>some (.int xs.length,om)
 | [(.tup xs,_)]=>some (.int xs.length,om)
 | [(.scr ns,_)]=>some (.int ns.length,om)
 | [(.str z,_)]=>if z.length<=va2 then some (.int z.length,om) else none
 | _=>none
theorem qju (hK:M.K=X.K) (hg:Gl X "len") (hm:X.mg "len" = none) (ha:PA X (e::es) (tL M fa vs)) (he:va3 (e::es) X.env=(false,eval e X.env)::va3 es X.env) (hpl:(vd6 pos (va3 es X.env)).any (·.1)=false):
  PE X (.Call (.Name "len" p) (e::es) [] pos) (tE M (zqd zxd fa) vs):=by
 refine zqk (zwq (zmy.or zmx) hg hm PySem.boot_len ha (he:=he) (hpl:=hpl)) λ σ H Q h=>zwe (λ xs z c ws H fps fp Q ho tm nz zd lf=>?_) h
 unfold zxd at ho
 split at ho
 ·rename_i xs d
  cases ho
  obtain ⟨v,r,f1,f2,rfl,_,_,o1,h2⟩:=tm
  obtain ⟨rfl,_⟩:=h2
  obtain ⟨q,us,rfl,hs,hl⟩:=o1.seqL
  exact .inl ⟨q,us,rfl,.inl (by rw [<- hK];exact hs),by rw [hl];exact zqu lf⟩
 ·rename_i xs d
  cases ho
  obtain ⟨v,r,f1,f2,rfl,_,_,o1,h2⟩:=tm
  obtain ⟨rfl,_⟩:=h2
  obtain ⟨q,us,rfl,hs,hl⟩:=o1.seqT
  exact .inl ⟨q,us,rfl,.inr (by rw [<- hK];exact hs),by rw [hl];exact zqu lf⟩
 ·rename_i ns d
  cases ho
  obtain ⟨v,r,f1,f2,rfl,_,_,o1,h2⟩:=tm
  obtain ⟨rfl,_⟩:=h2
  rw [Own] at o1
  obtain ⟨_,q,rfl,hp⟩:=o1
  refine .inl ⟨q,ns.map V.int,rfl,.inl ?_,by rw [ja6];exact zqu lf⟩
  rw [<- hK]
  exact hp.elim (λ h=>.inl (.inr h)) .inr
 ·rename_i z d
  split at ho
  ·rename_i hl
   cases ho
   obtain ⟨v,r,f1,f2,rfl,_,_,o1,h2⟩:=tm
   obtain ⟨rfl,_⟩:=h2
   rw [Own] at o1
   obtain ⟨rfl,_⟩:=o1
   exact .inr ⟨_,rfl,hl,zqu lf⟩
  ·cases ho
 ·cases ho
def op2 (k:Int->Int->Int):List (PV×Nat)->Option (PV×Nat)
 | [(.int i,_),(.int j,_)]=>some (.int (k i j),om)
 | _=>none
theorem zgt {k:Int->Int->Int}{xs:List (PV×Nat)}{z:PV}{c:Nat}{ws:List V}{fps:Fps}{fp F:List Addr}{Z:Addr->Prop} (ho:op2 k xs=some (z,c)) (tm:Tmps M.K H Z xs ws fp) (lf:Leaf M H fps vs F z c Q):∃ i j,ws=[.int i,.int j]/\Q (.int (k i j)) H:=by
 unfold op2 at ho
 split at ho
 ·rename_i i d j e
  cases ho
  obtain ⟨v,r,f1,f2,rfl,_,_,o1,h2⟩:=tm
  obtain ⟨v2,r2,f3,f4,rfl,_,_,o2,h3⟩:=h2
  obtain ⟨rfl,_⟩:=h3
  rw [Own] at o1 o2
  obtain ⟨rfl,_⟩:=o1
  obtain ⟨rfl,_⟩:=o2
  exact ⟨_,_,rfl,zqu lf⟩
 ·cases ho
def qbz:List (PV×Nat)->Option (PV×Nat)
 | [(.lst xs,_)]=>some (.tup xs,0)
 | [(.tup xs,_)]=>some (.tup xs,0)
 | _=>none
def zkl:List (PV×Nat)->Option (PV×Nat)
 | [(.lst xs,_)]=>some (.lst xs,d1 xs)
 | [(.tup xs,_)]=>some (.lst xs,d1 xs)
 | _=>none
theorem qg0 (hK:M.K=X.K) (hg:Gl X "tuple") (hm:X.mg "tuple" = none) (ha:PA X (e::es) (tL M fa vs)) (he:va3 (e::es) X.env=(false,eval e X.env)::va3 es X.env) (hpl:(vd6 pos (va3 es X.env)).any (·.1)=false):
  PE X (.Call (.Name "tuple" p) (e::es) [] pos) (tE M (zqd qbz fa) vs):=by
 refine zqk (zvk zpe hg hm rfl ha (he:=he) (hpl:=hpl)) λ σ H Q h=>zwe (λ xs z c ws H fps fp Q ho tm nz zd lf=>?_) h
 unfold qbz at ho
 split at ho
 ·rename_i xs d
  cases ho
  obtain ⟨v,r,f1,f2,rfl,rfl,_,o1,h2⟩:=tm
  obtain ⟨rfl,rfl⟩:=h2
  obtain ⟨q,us,rfl,hs,ol⟩:=(cold (fp:=f1) o1 λ a ha=>nz a (ja4 _ ha)).coldL
  exact ⟨q,us,rfl,.inl ⟨.inl (.inl hs),λ l hl=>zks lf ol hl⟩⟩
 ·rename_i xs d
  cases ho
  obtain ⟨v,r,f1,f2,rfl,rfl,_,o1,h2⟩:=tm
  obtain ⟨rfl,rfl⟩:=h2
  have c0:=cold (fp:=f1) o1 λ a ha=>nz a (ja4 _ ha)
  obtain ⟨q,us,rfl,hs,ol⟩:=c0.coldT
  exact ⟨q,us,rfl,.inr ⟨.inl (.inl hs),zwx (x:=.tup xs) lf c0⟩⟩
 ·cases ho
theorem qg5 (hK:M.K=X.K) (hg:Gl X "list") (hm:X.mg "list" = none) (ha:PA X (e::es) (tL M fa vs)) (he:va3 (e::es) X.env=(false,eval e X.env)::va3 es X.env) (hpl:(vd6 pos (va3 es X.env)).any (·.1)=false):
  PE X (.Call (.Name "list" p) (e::es) [] pos) (tE M (zqd zkl fa) vs):=by
 refine zqk (zvk zmw hg hm rfl ha (he:=he) (hpl:=hpl)) λ σ H Q h=>zwe (λ xs z c ws H fps fp Q ho tm nz zd lf=>?_) h
 unfold zkl at ho
 split at ho
 ·rename_i xs d
  cases ho
  obtain ⟨v,r,f1,f2,rfl,rfl,_,o1,h2⟩:=tm
  obtain ⟨rfl,rfl⟩:=h2
  obtain ⟨q,us,rfl,hs,ol⟩:=(cold (fp:=f1) o1 λ a ha=>nz a (ja4 _ ha)).coldL
  exact ⟨q,us,rfl,.inl (.inl (.inl hs)),λ l hl=>zxy lf ol hl⟩
 ·rename_i xs d
  cases ho
  obtain ⟨v,r,f1,f2,rfl,rfl,_,o1,h2⟩:=tm
  obtain ⟨rfl,rfl⟩:=h2
  obtain ⟨q,us,rfl,hs,ol⟩:=(cold (fp:=f1) o1 λ a ha=>nz a (ja4 _ ha)).coldT
  exact ⟨q,us,rfl,.inr (.inl (.inl hs)),λ l hl=>zxy lf ol hl⟩
 ·cases ho
end
section
variable {X:Cx}{M:Fm}{a b:Expr}{f g:Fx}{fa:Fa}{vs vs':List Nat}{pos p:Pos}{σ:St}{H:Hp}{Q:VK}{e:Expr}{es:List Expr}
theorem qe4 (hc:X.calm=true):zwn X (.builtin "all") (λ xs H Q=>∃ (p:Addr) (bs:List Bool),xs=[.ref p]/\SqL X.K H p (bs.map V.bl)/\Q (.bl (bs.all id)) H):=by
 intro pins s σ H xs us Q I r h
 obtain ⟨p,bs,rfl,hq,q⟩:=h
 obtain ⟨u,rfl,rx⟩:=zvf r
 cases rx
 obtain ⟨its,rv,pl,hz⟩:=I.list hq
 have hl:=rv.length
 rw [ja6] at hl
 refine call_all_walk (wpAny_pyIter_list pl.isList ?_)
 have hlt:p < s.heap.objs.size:=by obtain ⟨o,n,e,_⟩:=pl;exact va6 e
 have hne:p≠s.heap.objs.size:=jc9 hlt
 refine ⟨s.heap.objs.size,_,_,its.toArray.size,_,_,λ i=>bs.getD i true,rfl,Walks.list (A:=X.A.in1) (show X.A.in1.handled=none from I.ok.hd hc) s.heap.objs.size p hne its.toArray,⟨⟨_,vb0 _ rfl,rfl,rfl⟩,?_⟩,?_,λ h' tk k=>?_⟩
 ·exact pl.isList.at λ o e=>va5 _ e
 ·intro i v s' Q' E' hv hq'
  have hv':its[i]?=some v:=by simpa using hv
  have hi:i < bs.length:=by rw [hl];exact (ja8.mp hv').1
  obtain ⟨w,e1,e2⟩:=rv.get (i:=i) (x:=.bl bs[i]) (by simp [hi])
  rw [hv'] at e1
  cases e1
  cases e2
  refine vc1 ?_
  have:bs.getD i true=bs[i]:=by simp [jo7,hi]
  dsimp only at hq'
  rw [this] at hq'
  exact hq'
 ·have I1:L2.Inv X pins σ H { s with heap:=s.heap.push { cls:=.type "list_iterator",data:=.fields #[.ref p,rawInt 0] } }:=I.kept (t':=s.toks) λ b o e=>va5 _ e
  obtain ⟨f0,f1,f2,f3,f4,f5⟩:=I.fpOk (H':=H) (jb7 s.heap.objs.size) (I.hok.fresh (jb7 _))
  have I2:L2.Inv X pins σ H { s with heap:=h',toks:=tk }:=I1.turned (t':=tk) (λ b o hb e=>k b o (by simpa using hb) e) f0 f1 f3 f4 f5
  refine ⟨.bl _,H,I2,rfl,?_⟩
  have e:(jc6 its.toArray.size).all (λ i=>bs.getD i true)=bs.all id:=by
   rw [jb4,<- hl]
   rw [jg9]
   simp only [jc8,jd0,id]
   constructor
   ·intro h x hx
    obtain ⟨i,hi,rfl⟩:=jd7 hx
    have:=h i hi
    simpa [jo7,hi] using this
   ·intro h i hi
    simp [jo7,hi]
    exact h _ (je7 hi)
  rw [e]
  exact q
def allB:List PV->Option (List Bool)
 | []=>some []
 | .bl b::r=>(allB r).map (b::·)
 | _=>none
def zke:List (PV×Nat)->Option (PV×Nat)
 | [(.lst xs,_)]=>(allB xs).map λ bs=>(.bl (bs.all id),om)
 | _=>none
theorem zhw {K:Frag}{Z:Addr->Prop}:∀ {xs:List PV}{ws:List V}{bs:List Bool},allB xs=some bs->OwnL K H Z xs 0 ws []->ws=bs.map V.bl
 | [],ws,bs,e,h=>by cases e;rw [OwnL] at h;exact h.1
 | .bl b::r,ws,bs,e,h=>by
  obtain ⟨bs',e1,rfl⟩:=ja7.mp e
  rw [OwnL] at h
  obtain ⟨v,s,f1,f2,rfl,ef,dj,h1,h2⟩:=h
  obtain ⟨rfl,rfl⟩:f1=[]/\f2=[]:=by simpa using ef.symm
  rw [Own] at h1
  rw [h1.1,zhw e1 h2]
  rfl
 | .non::_,_,_,e,_=>by cases e
 | .int _::_,_,_,e,_=>by cases e
 | .str _::_,_,_,e,_=>by cases e
 | .lst _::_,_,_,e,_=>by cases e
 | .tup _::_,_,_,e,_=>by cases e
 | .emp::_,_,_,e,_=>by cases e
 | .dko::_,_,_,e,_=>by cases e
 | .scr _::_,_,_,e,_=>by cases e
 | .dct _::_,_,_,e,_=>by cases e
 | .exn _::_,_,_,e,_=>by cases e
theorem qjy (hc:X.calm=true) (hg:Gl X "all") (hm:X.mg "all" = none) (ha:PA X (e::es) (tL M fa vs)) (he:va3 (e::es) X.env=(false,eval e X.env)::va3 es X.env) (hpl:(vd6 pos (va3 es X.env)).any (·.1)=false):
  PE X (.Call (.Name "all" p) (e::es) [] pos) (tE M (zqd zke fa) vs):=by
 refine zqk (zwq (qe4 hc) hg hm rfl ha (he:=he) (hpl:=hpl)) λ σ H Q h=>zwe (λ xs z c ws H fps fp Q ho tm nz zd lf=>?_) h
 unfold zke at ho
 split at ho
 ·rename_i xs d
  obtain ⟨bs,eb,e2⟩:=ja7.mp ho
  cases e2
  obtain ⟨v,r,f1,f2,rfl,rfl,_,o1,h2⟩:=tm
  obtain ⟨rfl,rfl⟩:=h2
  obtain ⟨q,us,rfl,hs,ol⟩:=(cold (fp:=f1) o1 λ a ha=>nz a (ja4 _ ha)).coldL
  have:=zhw eb ol
  subst this
  exact ⟨q,bs,rfl,.inl (.inl hs),zxo lf⟩
 ·cases ho
def zvn:List PV->Option (List Int)
 | []=>some []
 | .int i::r=>(zvn r).map (i::·)
 | _=>none
theorem zwz {K:Frag}{Z:Addr->Prop}:∀ {xs:List PV}{ws:List V}{ns:List Int},zvn xs=some ns->OwnL K H Z xs 0 ws []->ws=ns.map V.int
 | [],ws,ns,e,h=>by cases e;rw [OwnL] at h;exact h.1
 | .int b::r,ws,ns,e,h=>by
  obtain ⟨ns',e1,rfl⟩:=ja7.mp e
  rw [OwnL] at h
  obtain ⟨v,s,f1,f2,rfl,ef,dj,h1,h2⟩:=h
  obtain ⟨rfl,rfl⟩:f1=[]/\f2=[]:=by simpa using ef.symm
  rw [Own] at h1
  rw [h1.1,zwz e1 h2]
  rfl
 | .non::_,_,_,e,_=>by cases e
 | .bl _::_,_,_,e,_=>by cases e
 | .str _::_,_,_,e,_=>by cases e
 | .lst _::_,_,_,e,_=>by cases e
 | .tup _::_,_,_,e,_=>by cases e
 | .emp::_,_,_,e,_=>by cases e
 | .dko::_,_,_,e,_=>by cases e
 | .scr _::_,_,_,e,_=>by cases e
 | .dct _::_,_,_,e,_=>by cases e
 | .exn _::_,_,_,e,_=>by cases e
theorem zwy:∀ {ns:List Int}{its:List va0},Vals (ns.map V.int) its->∃ xs:List (Int×Tok),its=xs.map (λ p=>Value.int p.1 p.2)/\xs.map (·.1)=ns
 | [],its,h=>by cases h;exact ⟨[],rfl,rfl⟩
 | n::ns,its,h=>by
  cases h with
  | cons r rr=>
   obtain ⟨t,rfl⟩:=r
   obtain ⟨xs,rfl,rfl⟩:=zwy rr
   exact ⟨(n,t)::xs,rfl,rfl⟩
theorem qc6 (hc:X.calm=true):zwn X (.builtin "min") (λ xs H Q=>∃ (p:Addr) (ns:List Int),xs=[.ref p]/\SqL X.K H p (ns.map V.int)/\ns≠[]/\∀ m,m∈ns->(∀ a∈ns,m<=a)->Q (.int m) H):=by
 intro pins s σ H xs us Q I r h
 obtain ⟨p,ns,rfl,hq,hn,q⟩:=h
 obtain ⟨u,rfl,rx⟩:=zvf r
 cases rx
 obtain ⟨its,rv,pl,hz⟩:=I.list hq
 obtain ⟨zs,rfl,rfl⟩:=zwy rv
 have e:(zs.map λ p=>Value.int p.1 p.2).toArray=ve4 zs.toArray:=by simp [ve4]
 rw [e] at pl
 have h0:0 < zs.length:=by
  cases zs with
  | nil=>exact absurd rfl hn
  | cons _ _=>simp
 refine min_intList (I.ok.hd hc) pl.isList (by simpa using h0) λ v h' tk hv k=>?_
 obtain ⟨l1,l2⟩:=argBest_lt (vf4 zs.toArray) (zs.toArray.size - 1)
 have hv':=hv
 obtain ⟨t,rfl⟩:=vk3 hv
 have at':∀ j,j < zs.length->vf4 zs.toArray j∈zs.map (·.1):=λ j hj=>by
  unfold vf4
  simp [hj]
  exact ⟨_,je7 hj⟩
 refine ⟨.int _,H,I.kept (t':=tk) k,⟨t,rfl⟩,q _ (at' _ ?_) λ a ha=>?_⟩
 ·have:zs.toArray.size=zs.length:=by simp
  omega
 ·obtain ⟨z,hz,rfl⟩:=jd3.mp ha
  obtain ⟨j,hj,rfl⟩:=jd7 hz
  have hzs:zs.toArray.size=zs.length:=by simp
  have:=l2 j (by omega)
  have e:vf4 zs.toArray j=zs[j].1:=by unfold vf4;simp [hj]
  rw [e] at this
  exact this
theorem qal {prog:va8}{w:vb6}{A:vb8}{E:va0->va1->Prop}{s:va1}{l:Addr}{xs:Array (Int×Tok)}{Q:va0->va1->Prop} (hh:A.handled=none) (hl:s.heap.IsTuple l (ve4 xs)) (hne:0 < xs.size)
  (h:∀ v h' tk,(ve4 xs)[argBest (λ i j=>decide (vf4 xs i < vf4 xs j)) (xs.size - 1)]?=some v->(∀ b o,s.heap.get? b=some o->h'.get? b=some o)->Q v { s with heap:=h',toks:=tk }):
  vb2 (vb1 prog w) A (call (.builtin "min") [.ref l]) Q E s:=by
 have hlt:l < s.heap.objs.size:=by obtain ⟨_,e,_⟩:=hl;exact va6 e
 refine call_min_walk (wpAny_pyIter_tuple hl ?_)
 refine ⟨_,[_,l],[_],_,_,_,_,rfl,Walks.tuple (A:=A.in1) hh _ l (jc9 hlt) (ve4 xs),⟨⟨_,vb0 _ rfl,rfl,rfl⟩,hl.push _⟩,λ c hc=>?_,by simpa [ve4] using hne,CmpOf.ints_lt (vf4 xs) (λ _ _=>vk3),λ v h' tk hP hk=>?_⟩
 ·show c < (s.heap.push _).objs.size
  rw [vf7]
  rcases jb2.mp hc with rfl | hc
  ·exact jh9 _
  ·rcases jb2.mp hc with rfl | hc
   ·exact jh4 hlt
   ·cases hc
 ·exact h v h' tk (by simpa [ve4] using hP) λ c o e=>by
   refine hk c o (λ hm=>?_) (va5 _ e)
   rcases jb2.mp hm with e1 | hm
   ·exact absurd (e1 ▸ va6 e) (je4 _)
   ·cases hm
theorem qc5 (hc:X.calm=true):zwn X (.builtin "min") (λ xs H Q=>∃ (p:Addr) (ns:List Int),xs=[.ref p]/\SqT X.K H p (ns.map V.int)/\ns≠[]/\∀ m,m∈ns->(∀ a∈ns,m<=a)->Q (.int m) H):=by
 intro pins s σ H xs us Q I r h
 obtain ⟨p,ns,rfl,hq,hn,q⟩:=h
 obtain ⟨u,rfl,rx⟩:=zvf r
 cases rx
 obtain ⟨its,rv,pl,hz⟩:=I.tuple hq
 obtain ⟨zs,rfl,rfl⟩:=zwy rv
 have e:(zs.map λ p=>Value.int p.1 p.2).toArray=ve4 zs.toArray:=by simp [ve4]
 rw [e] at pl
 have h0:0 < zs.length:=by
  cases zs with
  | nil=>exact absurd rfl hn
  | cons _ _=>simp
 refine qal (I.ok.hd hc) pl (by simpa using h0) λ v h' tk hv k=>?_
 obtain ⟨l1,l2⟩:=argBest_lt (vf4 zs.toArray) (zs.toArray.size - 1)
 have hv':=hv
 obtain ⟨t,rfl⟩:=vk3 hv
 have at':∀ j,j < zs.length->vf4 zs.toArray j∈zs.map (·.1):=λ j hj=>by
  unfold vf4
  simp [hj]
  exact ⟨_,je7 hj⟩
 refine ⟨.int _,H,I.kept (t':=tk) k,⟨t,rfl⟩,q _ (at' _ ?_) λ a ha=>?_⟩
 ·have:zs.toArray.size=zs.length:=by simp
  omega
 ·obtain ⟨z,hz,rfl⟩:=jd3.mp ha
  obtain ⟨j,hj,rfl⟩:=jd7 hz
  have hzs:zs.toArray.size=zs.length:=by simp
  have:=l2 j (by omega)
  have e:vf4 zs.toArray j=zs[j].1:=by unfold vf4;simp [hj]
  rw [e] at this
  exact this
def qgz (ns:List Int):Bool:=decide (ns.length<=2 ^ 20) && ns.all λ i=>decide (-(2 ^ 40)<=i) && decide (i<=2 ^ 40)
theorem qa7 {ns:List Int} (h:∀ i∈ns,-(2 ^ 40)<=i/\i<=2 ^ 40):∀ j:Nat,-(2 ^ 40) * (j:Int)<=(ns.take j).sum/\(ns.take j).sum<=2 ^ 40 * (j:Int):=by
 induction ns with
 | nil=>intro j;rw [jm1,jo8];omega
 | cons n ns ih=>
  intro j
  cases j with
  | zero=>rw [jl4,jo8];omega
  | succ j=>
   have:=ih (λ i hi=>h i (ja0 _ hi)) j
   have hn:=h n ja1
   rw [ji4,jo2]
   omega
theorem qc4 (hc:X.calm=true):zwn X (.builtin "sum") (λ xs H Q=>∃ (p:Addr) (ns:List Int),xs=[.ref p]/\SqL X.K H p (ns.map V.int)/\qgz ns=true/\Q (.int ns.sum) H):=by
 intro pins s σ H xs us Q I r h
 obtain ⟨p,ns,rfl,hq,hn,q⟩:=h
 obtain ⟨u,rfl,rx⟩:=zvf r
 cases rx
 obtain ⟨its,rv,pl,hz⟩:=I.list hq
 obtain ⟨zs,rfl,rfl⟩:=zwy rv
 have e:(zs.map λ p=>Value.int p.1 p.2).toArray=ve4 zs.toArray:=by simp [ve4]
 rw [e] at pl
 unfold qgz at hn
 rw [ja5] at hn
 have hl:(zs.map (·.1)).length<=2 ^ 20:=by simpa using hn.1
 have hb:∀ i∈zs.map (·.1),-(2 ^ 40)<=i/\i<=2 ^ 40:=λ i hi=>by
  have:=jc8.mp hn.2 i hi
  rw [ja5] at this
  exact ⟨of_decide_eq_true this.1,of_decide_eq_true this.2⟩
 have sz:zs.toArray.size=zs.length:=by simp
 rw [ja6] at hl
 have pre:∀ j,preSum (vf4 zs.toArray) j=((zs.map (·.1)).take j).sum:=λ j=>by
  rw [preSum_eq]
 refine sum_intList (I.ok.hd hc) pl.isList (λ j hj=>⟨?_,?_⟩) λ h' tk t' k=>⟨.int _,H,I.kept (t':=tk) k,⟨t',rfl⟩,?_⟩
 ·have e1:vf4 zs.toArray j=zs[j].1:=by unfold vf4;simp [show j < zs.length by omega]
  have:=hb (zs[j]'(by omega)).1 (jd3.mpr ⟨_,je7 _,rfl⟩)
  rw [e1]
  unfold InLong
  omega
 ·have:=qa7 hb (j + 1)
  rw [pre]
  unfold InLong
  omega
 ·rw [pre,sz]
  have:((zs.map (·.1)).take zs.length)=zs.map (·.1):=by
   rw [jf9];simp
  rw [this]
  exact q
def minI:Int->List Int->Int
 | n,[]=>n
 | n,m::r=>minI (if m < n then m else n) r
theorem zbr:∀ (r:List Int) (n:Int),minI n r∈n::r
 | [],n=>ja1
 | m::r,n=>by
  unfold minI
  have:=zbr r (if m < n then m else n)
  rcases jb2.mp this with h | h
  ·rw [h]
   split
   ·exact ja0 _ ja1
   ·exact ja1
  ·exact ja0 _ (ja0 _ h)
theorem minI_le:∀ (r:List Int) (n:Int),∀ a∈n::r,minI n r<=a
 | [],n,a,h=>by
  have:a=n:=by simpa using h
  rw [this];exact jl7 _
 | m::r,n,a,h=>by
  unfold minI
  have ih:=minI_le r (if m < n then m else n)
  have h1:=ih _ ja1
  have h2:(if m < n then m else n)<=n/\(if m < n then m else n)<=m:=by split <;> omega
  rcases jb2.mp h with e | h
  ·rw [e];omega
  ·rcases jb2.mp h with e | h
   ·rw [e];omega
   ·exact ih a (ja0 _ h)
theorem zjo {ns:List Int}{m m':Int} (h1:m∈ns) (h2:∀ a∈ns,m<=a) (h3:m'∈ns) (h4:∀ a∈ns,m'<=a):m=m':=by
 have:=h2 m' h3
 have:=h4 m h1
 omega
def zkd:List (PV×Nat)->Option (PV×Nat)
 | [(.lst xs,_)]=>match zvn xs with
  | some (n::r)=>some (.int (minI n r),om)
  | _=>none
 | [(.tup xs,_)]=>match zvn xs with
  | some (n::r)=>some (.int (minI n r),om)
  | _=>none
 | xs=>op2 (λ i j=>if j < i then j else i) xs
def qhr:List (PV×Nat)->Option (PV×Nat)
 | [(.lst xs,_)]=>match zvn xs with
  | some ns=>if qgz ns=true then some (.int ns.sum,om) else none
  | none=>none
 | _=>none
theorem qg2 (hc:X.calm=true) (hg:Gl X "min") (hm:X.mg "min" = none) (ha:PA X (e::es) (tL M fa vs)) (he:va3 (e::es) X.env=(false,eval e X.env)::va3 es X.env) (hpl:(vd6 pos (va3 es X.env)).any (·.1)=false):
  PE X (.Call (.Name "min" p) (e::es) [] pos) (tE M (zqd zkd fa) vs):=by
 refine zqk (zwq (((qc7 hc).or (qc6 hc)).or (qc5 hc)) hg hm rfl ha (he:=he) (hpl:=hpl)) λ σ H Q h=>zwe (λ xs z c ws H fps fp Q ho tm nz zd lf=>?_) h
 unfold zkd at ho
 split at ho
 ·rename_i xs d
  split at ho
  ·rename_i n r eb
   cases ho
   obtain ⟨v,r',f1,f2,rfl,rfl,_,o1,h2⟩:=tm
   obtain ⟨rfl,rfl⟩:=h2
   obtain ⟨q,us,rfl,hs,ol⟩:=(cold (fp:=f1) o1 λ a ha=>nz a (ja4 _ ha)).coldL
   have:=zwz eb ol
   subst this
   refine .inl (.inr ⟨q,n::r,rfl,.inl (.inl hs),by simp,λ m h1 h2=>?_⟩)
   rw [zjo h1 h2 (zbr r n) (minI_le r n)]
   exact zqu lf
  ·cases ho
 ·rename_i xs d
  split at ho
  ·rename_i n r eb
   cases ho
   obtain ⟨v,r',f1,f2,rfl,rfl,_,o1,h2⟩:=tm
   obtain ⟨rfl,rfl⟩:=h2
   obtain ⟨q,us,rfl,hs,ol⟩:=(cold (fp:=f1) o1 λ a ha=>nz a (ja4 _ ha)).coldT
   have:=zwz eb ol
   subst this
   refine .inr ⟨q,n::r,rfl,.inl (.inl hs),by simp,λ m h1 h2=>?_⟩
   rw [zjo h1 h2 (zbr r n) (minI_le r n)]
   exact zqu lf
  ·cases ho
 ·exact .inl (.inl (zgt ho tm lf))
theorem qg1 (hc:X.calm=true) (hg:Gl X "sum") (hm:X.mg "sum" = none) (ha:PA X (e::es) (tL M fa vs)) (he:va3 (e::es) X.env=(false,eval e X.env)::va3 es X.env) (hpl:(vd6 pos (va3 es X.env)).any (·.1)=false):
  PE X (.Call (.Name "sum" p) (e::es) [] pos) (tE M (zqd qhr fa) vs):=by
 refine zqk (zwq (qc4 hc) hg hm rfl ha (he:=he) (hpl:=hpl)) λ σ H Q h=>zwe (λ xs z c ws H fps fp Q ho tm nz zd lf=>?_) h
 unfold qhr at ho
 split at ho
 ·rename_i xs d
  split at ho
  ·rename_i ns eb
   split at ho
   ·rename_i hk
    cases ho
    obtain ⟨v,r',f1,f2,rfl,rfl,_,o1,h2⟩:=tm
    obtain ⟨rfl,rfl⟩:=h2
    obtain ⟨q,us,rfl,hs,ol⟩:=(cold (fp:=f1) o1 λ a ha=>nz a (ja4 _ ha)).coldL
    have:=zwz eb ol
    subst this
    exact ⟨q,ns,rfl,.inl (.inl hs),hk,zqu lf⟩
   ·cases ho
  ·cases ho
 ·cases ho
abbrev Fn:=List PV->Rz (PV×Nat×PV)
def spF (K:Frag) (io:Bool) (n:Nat) (F:Fn):Sp:=λ ws H Q E=>ws.length=n/\∃ (xs:List PV) (Zo:Addr->Prop) (x0:PV) (v0:V) (fp0:List Addr),
 (∀ a,Zo a->H a≠none)/\(∀ a∈fp0,¬ Zo a)/\(io=false->fp0=[]/\OwnL K H Zo xs 0 ws []) /\
 (io=true->∃ xr wr,xs=x0::xr/\ws=v0::wr/\Own K H (λ _=>True) x0 om v0 fp0/\OwnL K H (λ a=>Zo a\/a∈fp0) xr 0 wr []) /\
 (match F xs with
  | .ok (y,d,z0)=>∀ v H' fp fp0',Keep (λ a=>a∈fp0) H H'->(∀ a,H a≠none->H' a≠none)->(∀ a∈fp0',a∈fp0\/H a=none)->(∀ a∈fp0',¬ Zo a)->(io=false->fp0'=[])->(io=true->Own K H' (λ _=>True) z0 om v0 fp0') ->
    Own K H' (λ a=>(Zo a\/a∈fp0')\/a∈fp) y d v fp->(∀ a∈fp,H a=none/\¬ (Zo a\/a∈fp0'))->Q v H'
  | .exc c=>∀ H',Keep (λ a=>a∈fp0) H H'->(∀ a,H a≠none->H' a≠none)->E (.int (c:Int) 0) none H'
  | .no=>False)
def zqi (F:Fn) (fa:Fa):Fx:=λ ρ=>(fa ρ).bind λ (xs,ρ1)=>match F (xs.map (·.1)) with
 | .ok (y,d,_)=>.ok (y,d,ρ1)
 | .exc c=>.exc c
 | .no=>.no
theorem qgw {F:Fn}{n:Nat} (hF:∀ xs,xs.length≠n->F xs=.no) {σ:St}{H:Hp}{Q:VK} (hq:tE M (zqi F fa) vs σ H Q):qfk (spF M.K false n F) M.W (tL M fa vs) σ H Q:=by
 obtain ⟨ρ,fps,rep,q⟩:=hq
 refine ⟨ρ,fps,rep,?_⟩
 unfold zqi at q
 cases ef:fa ρ with
 | no=>rw [ef] at q;exact q
 | exc c=>rw [ef] at q;exact q
 | ok p=>
  obtain ⟨xs,ρ1⟩:=p
  rw [ef] at q
  intro ws H1 fps1 f1 k1 g1 rep1 o1 t1
  dsimp only [Rz.bind] at q
  have back:∀ a,H1 a=none->H a=none:=λ a e=>by
   cases e':H a with
   | none=>rfl
   | some o=>exact absurd e (k1.dom a (by rw [e'];simp))
  show spF M.K false n F ws H1 Q (XEof (M.W σ))
  have hlen:xs.length=n:=by
   by_cases e:xs.length=n
   ·exact e
   ·rw [hF (xs.map (·.1)) (by rw [ja6];exact e)] at q;exact q.elim
  refine ⟨by rw [o1.length,hlen],xs.map (·.1),Zv M vs fps1,.non,.non,[],λ a z=>rep1.zdom z.zf,λ _ z=>(nomatch z),λ _=>⟨rfl,o1.cold λ a ha z=>t1.ndj a ha z.zf⟩,(λ h=>nomatch h),?_⟩
  cases eF:F (xs.map (·.1)) with
  | no=>rw [eF] at q;exact q
  | exc c=>
   rw [eF] at q
   exact λ H' kp _=>q H' fps1 (k1.trans (KD.grow λ a o h=>kp a o h λ z=>nomatch z))
  | ok r=>
   obtain ⟨y,d,z0⟩:=r
   rw [eF] at q
   intro v H' fp fp0' kp dm _ _ h0 _ oy hf
   have e0:=h0 rfl
   subst e0
   have kk:∀ a o,H1 a=some o->H' a=some o:=λ a o h=>kp a o h λ z=>nomatch z
   refine q v H' fps1 fp (k1.trans (KD.grow kk)) g1 (rep1.grow kk) (oy.weak λ a h=>h.elim (λ h=>.inl (.inl h)) .inr) ⟨λ a ha=>back a (hf a ha).1,λ a ha=>rep1.nz (hf a ha).1⟩
end
theorem qdb {X:Cx}:zwn X (.type "int") (λ xs H Q=>∃ z n,xs=[.str z]/\vh3 z=some n/\z.length<=640/\Q (.int n) H):=by
 intro pins s σ H xs us Q I r h
 obtain ⟨z,n,rfl,hn,hl,q⟩:=h
 obtain ⟨u,rfl,t,rfl⟩:=zvf r
 exact PySem.W.KIN.call_text hn hl ⟨.int n,H,I.tok _,⟨_,rfl⟩,q⟩
def rSIn (neg:Bool):R2:=λ v w H Q=>∃ y x,v=.str y/\w=.str x/\Q (.bl (neg^^Txt.contains x y)) H
theorem qkk {X:Cx}:OpR X (vb4 .In) (rSIn false):=by
 intro pins s σ H x y v u Q I rx ry h
 obtain ⟨b,a,rfl,rfl,q⟩:=h
 obtain ⟨t,rfl⟩:=rx
 obtain ⟨t',rfl⟩:=ry
 exact SB.contains ⟨.bl _,H,I,rfl,by simpa using q⟩
theorem qbw {X:Cx}:OpR X (vb4 .NotIn) (rSIn true):=by
 intro pins s σ H x y v u Q I rx ry h
 obtain ⟨b,a,rfl,rfl,q⟩:=h
 obtain ⟨t,rfl⟩:=rx
 obtain ⟨t',rfl⟩:=ry
 exact SB.notContains ⟨.bl _,H,I,rfl,by simpa using q⟩
theorem qim {v:PV}{u:va0} (h:cVb v u=true):∃ w:V,RelV w u/\∀ K H Z,Own K H Z v om w []:=by
 unfold cVb at h
 split at h
 ·rename_i z z' t
  have:=eq_of_beq h
  subst this
  exact ⟨.str z,⟨t,rfl⟩,λ K H Z=>by rw [Own];exact ⟨rfl,rfl⟩⟩
 ·rename_i z z' t
  have:=eq_of_beq h
  subst this
  exact ⟨.int z,⟨t,rfl⟩,λ K H Z=>by rw [Own];exact ⟨rfl,rfl⟩⟩
 ·cases h
theorem qlc {p:Str->Bool}{n:Nat} (h:XN.findIdx? p=some n):n < 50:=by
 have:=(je1.mp h).1
 exact jk7 this (by decide)
section
variable {prog:va8}{w:vb6}{A:vb8}{E:va0->va1->Prop}{s:va1}
structure ZApart (zz ti to p1 p2 q1 q2:Addr):Prop where
 ne1:ti≠zz
 ne2:to≠zz
 ne3:p1≠zz
 ne4:p2≠zz
 ne5:ti≠to
 ne6:ti≠p1
 ne7:ti≠p2
 ne8:to≠p1
 ne9:to≠p2
 nea:p1≠p2
 neb:q1≠zz
 nec:q1≠to
 ned:q1≠p1
 nee:q1≠p2
 nef:q2≠zz
 neg:q2≠to
 neh:q2≠p1
 nei:q2≠p2
section
variable {zz ti to p1 p2 q1 q2:Addr}{n1 n2:Nat}{us vs:Array va0}{u v a b:va0}
end
end
section
variable {X:Cx}{pins:List (Addr×Obj)}{σ:St}{H:Hp}{s:va1}{h':Heap}
end
section
variable {X:Cx}{tg:Expr}
end
inductive Vw where
 | rev | enm | zp
def qlh:Nat->List PV->List PV
 | _,[]=>[]
 | i,x::xs=>.tup [.int (i:Int),x]::qlh (i + 1) xs
def zipL:List PV->List PV->List PV
 | x::xs,y::ys=>.tup [x,y]::zipL xs ys
 | _,_=>[]
def qat:Vw->List PV->Option (List PV)
 | .rev,[.lst xs]=>some xs.reverse
 | .enm,[.lst xs]=>some (qlh 0 xs)
 | .zp,[.lst xs,.lst ys]=>some (zipL xs ys)
 | .zp,[.tup xs,.tup ys]=>some (zipL xs ys)
 | _,_=>none
section
variable {is:List Nat}{M:Fm}{ρ ρ':Rho}{σ σ':St}{H H' H'':Hp}{fps fps' fps'':Fps}{vs vs':List Nat}
def ql7 (v:Vw) (fa:Fa) (vs:List Nat) (asg:PV->Rho->Option Rho) (body:Fs):Fs:=λ ρ=>match fa ρ with
 | .ok (xs,ρ1)=>(match qat v (xs.map (·.1)) with
  | some els=>zvc asg body els (zxb (if zkk xs=true then om else 0) vs ρ1)
  | none=>.no)
 | .exc c=>.exc c
 | .no=>.no
def qlv (v:Vw) (fa:Fa) (k:Nat) (asg:PV->Rho->Option Rho) (test:Fb) (elt:Fx):Fx:=λ ρ=>match fa ρ with
 | .ok (xs,ρ1)=>(match qat v (xs.map (·.1)) with
  | some els=>(zwo k asg test elt els ρ1 []).bindN λ (acc,ρ2)=>zvb acc ρ2
  | none=>.no)
 | .exc c=>.exc c
 | .no=>.no
end
section
variable {X:Cx}{M:Fm}{f g:Fx}{fa:Fa}{vs vs':List Nat}{a b e:Expr}{es:List Expr}{pos p p2:Pos}{σ:St}{H:Hp}{Q:VK}
theorem qdk:∀ {xs:List V}{us:List va0},Vals xs us->Vals xs.reverse us.reverse
 | _,_,.nil=>.nil
 | _,_,.cons r rr=>by rw [jh5,jh5];exact (qdk rr).append (.cons r .nil)
theorem OwnL.snoc0 {K:Frag}{H:Hp}{Z:Addr->Prop}{x:PV}{v:V}:∀ {xs:List PV}{ws:List V},OwnL K H Z xs 0 ws []->Own K H Z x 0 v []->OwnL K H Z (xs++[x]) 0 (ws++[v]) []
 | [],ws,h,o=>by
  rw [OwnL] at h
  obtain ⟨rfl,_⟩:=h
  rw [jh0,jh0,OwnL]
  exact ⟨v,[],[],[],rfl,rfl,(λ _ z=>nomatch z),o,by rw [OwnL];exact ⟨rfl,rfl⟩⟩
 | y::xs,ws,h,o=>by
  rw [OwnL] at h
  obtain ⟨u,r,f1,f2,rfl,ef,_,o1,o2⟩:=h
  obtain ⟨rfl,rfl⟩:f1=[]/\f2=[]:=by simpa using ef.symm
  rw [ji0,ji0,OwnL]
  exact ⟨u,r++[v],[],[],rfl,rfl,(λ _ z=>nomatch z),o1,OwnL.snoc0 o2 o⟩
theorem OwnL.rev {K:Frag}{H:Hp}{Z:Addr->Prop}:∀ {xs:List PV}{ws:List V},OwnL K H Z xs 0 ws []->OwnL K H Z xs.reverse 0 ws.reverse []
 | [],ws,h=>by
  rw [OwnL] at h
  obtain ⟨rfl,_⟩:=h
  rw [List.reverse_nil,OwnL];exact ⟨rfl,rfl⟩
 | y::xs,ws,h=>by
  rw [OwnL] at h
  obtain ⟨u,r,f1,f2,rfl,ef,_,o1,o2⟩:=h
  obtain ⟨rfl,rfl⟩:f1=[]/\f2=[]:=by simpa using ef.symm
  rw [jh5,jh5]
  exact OwnL.snoc0 (OwnL.rev o2) o1
def zjm:List (PV×Nat)->Option (PV×Nat)
 | [(.bl b,_)]=>some (.int (if b then 1 else 0),om)
 | [(.int i,_)]=>some (.int i,om)
 | [(.str z,_)]=>if z.length<=640 then (vh3 z).map λ n=>(.int n,om) else none
 | _=>none
theorem qg8 (hg:Gl X "int") (hm:X.mg "int" = none) (ha:PA X (e::es) (tL M fa vs)) (he:va3 (e::es) X.env=(false,eval e X.env)::va3 es X.env) (hpl:(vd6 pos (va3 es X.env)).any (·.1)=false):
  PE X (.Call (.Name "int" p) (e::es) [] pos) (tE M (zqd zjm fa) vs):=by
 refine zqk (zvk (qdc.or qdb) hg hm rfl ha (he:=he) (hpl:=hpl)) λ σ H Q h=>zwe (λ xs z c ws H fps fp Q ho tm nz zd lf=>?_) h
 unfold zjm at ho
 split at ho
 ·cases ho
  obtain ⟨v,r,f1,f2,rfl,rfl,_,o1,h2⟩:=tm
  obtain ⟨rfl,rfl⟩:=h2
  rw [Own] at o1
  exact .inl (.inr ⟨_,by rw [o1.1],zqu lf⟩)
 ·cases ho
  obtain ⟨v,r,f1,f2,rfl,rfl,_,o1,h2⟩:=tm
  obtain ⟨rfl,rfl⟩:=h2
  rw [Own] at o1
  exact .inl (.inl ⟨_,by rw [o1.1],zqu lf⟩)
 ·rename_i z0 d0
  split at ho
  ·rename_i hl
   obtain ⟨n,hn,e2⟩:=ja7.mp ho
   cases e2
   obtain ⟨v,r,f1,f2,rfl,rfl,_,o1,h2⟩:=tm
   obtain ⟨rfl,rfl⟩:=h2
   rw [Own] at o1
   exact .inr ⟨z0,n,by rw [o1.1],hn,hl,zqu lf⟩
  ·cases ho
 ·cases ho
end
section
variable {M:Fm}{fa:Fa}{vs:List Nat}
def spM (K:Frag) (F:Fn):Sp:=λ ws H Q _=>∃ x0 v0 fp0,ws=[v0]/\Own K H (λ _=>True) x0 om v0 fp0/\(match F [x0] with
 | .ok (y,_,_)=>zzy y=true/\∀ v H',Keep (λ a=>a∈fp0) H H'->(∀ a,H a≠none->H' a≠none)->Own K H' (λ _=>True) y om v []->Q v H'
 | _=>False)
end
section
variable {X:Cx}{M:Fm}{f g:Fx}{vs vs':List Nat}{σ:St}{H:Hp}{Q:VK}
end
section
variable {pg:va8}{wd:vb6}{Ar:vb8}{Er:va0->va1->Prop}{st:va1}
end
section
variable {X:Cx}{M:Fm}{f:Fx}{vs:List Nat}{a:Expr}{pos p p2 pos2:Pos}
end
section
variable {prog:va8}{w:vb6}{A:vb8}{E:va0->va1->Prop}{s:va1}{a₀:Array Keyed}
end
section
variable {prog:va8}{w:vb6}{A:vb8}{E:va0->va1->Prop}{s:va1}
end
section
variable {X:Cx}{M:Fm}{fa:Fa}{vs:List Nat}{e:Expr}{es:List Expr}{pos p:Pos}
def qmz (ns:List Int):Prop:=ns.length < 64\/(ns.Pairwise (·<=·)/\ns.length<=va2)
instance (ns:List Int):Decidable (qmz ns):=inferInstanceAs (Decidable (_\/_))
def maxI:Int->List Int->Int
 | n,[]=>n
 | n,m::r=>maxI (if m > n then m else n) r
theorem zgr:∀ (r:List Int) (n:Int),maxI n r∈n::r
 | [],n=>ja1
 | m::r,n=>by
  have q:=zgr r (if m > n then m else n)
  show maxI (if m > n then m else n) r∈_
  rcases jb2.mp q with z | z
  ·rw [z]
   split <;> simp
  ·simp [z]
theorem qb5:∀ (r:List Int) (n:Int),∀ a∈n::r,a<=maxI n r
 | [],n,a,h=>by
  have e:a=n:=by simpa using h
  rw [e];exact jl7 _
 | m::r,n,a,h=>by
  show a<=maxI (if m > n then m else n) r
  have q:=qb5 r (if m > n then m else n)
  have q1:=q _ ja1
  have q2:n<=(if m > n then m else n)/\m<=(if m > n then m else n):=by split <;> omega
  simp only [jb2] at h
  rcases h with z | z | z
  ·omega
  ·omega
  ·exact q a (ja0 _ z)
theorem qc8 (hc:X.calm=true):zwn X (.builtin "max") (λ xs H Q=>∃ (q:Addr) (n:Int) (r:List Int),xs=[.ref q]/\SqL X.K H q ((n::r).map V.int)/\Q (.int (maxI n r)) H):=by
 intro pins s σ H xs us Q I rv h
 obtain ⟨q,n,r,rfl,hq,k0⟩:=h
 obtain ⟨u,rfl,rx⟩:=zvf rv
 cases rx
 obtain ⟨its,rv2,pl,hz⟩:=I.list hq
 obtain ⟨zs,rfl,ez⟩:=zwy rv2
 have e:(zs.map λ p=>Value.int p.1 p.2).toArray=ve4 zs.toArray:=by simp [ve4]
 rw [e] at pl
 have hsz:zs.toArray.size=zs.length:=by simp
 have h0:0 < zs.length:=by
  cases zs with
  | nil=>cases ez
  | cons _ _=>simp
 refine max_intList (I.ok.hd hc) pl.isList (by simpa using h0) λ v h' tk hv k=>?_
 obtain ⟨l1,l2⟩:=argBest_gt (vf4 zs.toArray) (zs.toArray.size - 1)
 obtain ⟨t,rfl⟩:=vk3 hv
 generalize argBest (λ i j=>decide (vf4 zs.toArray i > vf4 zs.toArray j)) (zs.toArray.size - 1)=b at *
 have num:∀ j,(hj:j < zs.length)->vf4 zs.toArray j=zs[j].1:=λ j hj=>by unfold vf4;simp [hj]
 have hm:vf4 zs.toArray b∈n::r:=by
  rw [num b (by omega),<- ez]
  exact jd3.mpr ⟨_,je7 _,rfl⟩
 have hg:∀ a∈n::r,a<=vf4 zs.toArray b:=λ a ha=>by
  rw [<- ez] at ha
  obtain ⟨z,hz',rfl⟩:=jd3.mp ha
  obtain ⟨j,hj,rfl⟩:=jd7 hz'
  rw [<- num j hj]
  exact l2 j (by omega)
 have eb:vf4 zs.toArray b=maxI n r:=Int.le_antisymm (qb5 r n _ hm) (hg _ (zgr r n))
 exact ⟨.int _,H,I.kept (t':=tk) k,⟨t,rfl⟩,by rw [eb];exact k0⟩
def zja:List (PV×Nat)->Option (PV×Nat)
 | [(.lst xs,_)]=>match zvn xs with
  | some (n::r)=>some (.int (maxI n r),om)
  | _=>none
 | xs=>op2 (λ i j=>if j > i then j else i) xs
theorem qg3 (hc:X.calm=true) (hg:Gl X "max") (hm:X.mg "max" = none) (ha:PA X (e::es) (tL M fa vs)) (he:va3 (e::es) X.env=(false,eval e X.env)::va3 es X.env) (hpl:(vd6 pos (va3 es X.env)).any (·.1)=false):
  PE X (.Call (.Name "max" p) (e::es) [] pos) (tE M (zqd zja fa) vs):=by
 refine zqk (zwq ((qc9 hc).or (qc8 hc)) hg hm rfl ha (he:=he) (hpl:=hpl)) λ σ H Q h=>zwe (λ xs z c ws H fps fp Q ho tm nz zd lf=>?_) h
 unfold zja at ho
 split at ho
 ·rename_i xs d
  split at ho
  ·rename_i n r eb
   cases ho
   obtain ⟨v,r',f1,f2,rfl,rfl,_,o1,h2⟩:=tm
   obtain ⟨rfl,rfl⟩:=h2
   obtain ⟨q,us,rfl,hs,ol⟩:=(cold (fp:=f1) o1 λ a ha=>nz a (ja4 _ ha)).coldL
   have:=zwz eb ol
   subst this
   exact .inr ⟨q,n,r,rfl,.inl (.inl hs),zqu lf⟩
  ·cases ho
 ·exact .inl (zgt ho tm lf)
end
def zjj (x:PV):Option Str:=match x with
 | .non=>some "None"
 | .bl b=>some (if b then "True" else "False")
 | .int i=>if i.natAbs.log2 < 1920 then some (toString i) else none
 | .str s=>some s
 | .emp=>some (PyData.shown (.dict []))
 | .lst xs=>match toD 20 (.lst xs) with
  | some D=>if D.showable=true/\D.shown.length<=va2 then some D.shown else none
  | none=>none
 | .tup xs=>match toD 20 (.tup xs) with
  | some D=>if D.showable=true/\D.shown.length<=va2 then some D.shown else none
  | none=>none
 | _=>none
def zko:List (PV×Nat)->Option (PV×Nat)
 | [(x,_)]=>(zjj x).map λ s=>(.str s,om)
 | _=>none
section
variable {X:Cx}{M:Fm}{H:Hp}{σ:St}
def rStr (K:Frag):List V->Hp->VK->Prop:=λ ws H Q=>∃ x d v Z f T,ws=[v]/\Own K H Z x d v f/\zjj x=some T/\Q (.str T) H
theorem zhk {pins:List (Addr×Obj)}{s:va1}{Z:Addr->Prop}{x:PV}{d:Nat}{v:V}{f:List Addr}{D:vg5}{a:Addr}{Q:VK} (hu:X.A.units + 64 < ve8) (hg:X.A.guards=some []) (I:L2.Inv X pins σ H s) (o:Own X.K H Z x d v f) (hD:toD 20 x=some D) (hs:D.showable=true) (hz:D.shown.length<=va2) (r:RelV v (.ref a)) (q:Q (.str D.shown) H):vb2 (vb1 X.prog X.w) X.A (call (.type "str") [.ref a]) (EP X pins σ Q) X.xe s:=by
 obtain ⟨as,ra⟩:=zwa I 20 x d v f (.ref a) D hD o r
 have l:=zwi 20 x D hD
 exact PySem.str_of_reads ra hs (PyData.noDict_hsm (PyData.hasDict_of_canLay D l.1)) hg (by omega) (λ _ _ e=>e) (λ h' u tk hk=>⟨.str D.shown,H,I.kept (t':=tk) hk,⟨u,rfl⟩,q⟩) hz
theorem qe2 (hu:X.A.units + 64 < ve8) (hg:X.A.guards=some []):zwn X (.type "str") (rStr X.K):=by
 intro pins s σ H ws us Q I rv h
 obtain ⟨x,d,v,Z,f,T,rfl,o,hT,q⟩:=h
 cases rv with
 | cons r rr=>
  cases rr
  cases x with
  | non=>
   rw [Own] at o
   obtain ⟨rfl,_⟩:=o
   cases r
   cases hT
   exact P.str_of_none ⟨.str "None",H,I.tok _,⟨_,rfl⟩,q⟩
  | bl b=>
   rw [Own] at o
   obtain ⟨rfl,_⟩:=o
   cases r
   cases hT
   exact P.str_of_bool ⟨.str _,H,I.tok _,⟨_,rfl⟩,q⟩
  | int i=>
   rw [Own] at o
   obtain ⟨rfl,_⟩:=o
   obtain ⟨t,rfl⟩:=r
   dsimp only [zjj] at hT
   split at hT
   ·rename_i hi
    cases hT
    exact P.str_of_int hi ⟨.str _,H,I.tok _,⟨_,rfl⟩,q⟩
   ·cases hT
  | str z=>
   rw [Own] at o
   obtain ⟨rfl,_⟩:=o
   obtain ⟨t,rfl⟩:=r
   cases hT
   exact P.str_of_str ⟨.str _,H,I,⟨_,rfl⟩,q⟩
  | dko=>cases hT
  | emp=>
   rw [Own] at o
   obtain ⟨_,a,rfl,ha⟩:=o
   cases r
   cases hT
   obtain ⟨_,z1,vs,k1,⟨o,es,ep,h1,h2,h3,h4,h5,h6⟩⟩:=qap I.hok ha
   cases k1
   generalize hes:es.toList=l at h5
   cases h5
   have rd:Reads s.heap (.ref a) (.dict []) (a::[]++[]):=Reads.dict (es:=es) (kvs:=[]) h1 h2.1 h3 (by rw [hes];exact .nil) (by rw [hes];exact .nil)
   have h9:ve1 (.dict []) + 3<=64:=by decide
   have hroom:X.A.units + (ve1 (.dict []) + 3) < ve8:=Nat.lt_of_le_of_lt (Nat.add_le_add_left h9 _) hu
   refine PySem.str_of_reads rd rfl (λ _ hm=>?_) hg hroom (λ _ _ e=>e) (λ h' u tk hk=>⟨.str _,H,I.kept (t':=tk) hk,⟨u,rfl⟩,q⟩) (by decide +kernel)
   have e9:vd4=a:=by simpa using hm
   rw [<- e9] at z1
   simp at z1
  | lst xs=>
   dsimp only [zjj] at hT
   split at hT
   ·rename_i D hD
    split at hT
    ·rename_i hc
     cases hT
     obtain ⟨a,ws,d',f',rfl,ha,ol⟩:=zzb o
     cases r
     exact zhk hu hg I o hD hc.1 hc.2 rfl q
    ·cases hT
   ·cases hT
  | tup xs=>
   dsimp only [zjj] at hT
   split at hT
   ·rename_i D hD
    split at hT
    ·rename_i hc
     cases hT
     have o':=o
     rw [Own] at o'
     obtain ⟨a,ws,rfl,ha,ol⟩:=o'
     cases r
     exact zhk hu hg I o hD hc.1 hc.2 rfl q
    ·cases hT
   ·cases hT
  | scr ns=>cases hT
  | dct _=>cases hT
  | exn _=>cases hT
variable {e:Expr}{es:List Expr}{fa:Fa}{vs:List Nat}{p pos:Pos}
theorem qjq (hu:X.A.units + 64 < ve8) (hgd:X.A.guards=some []) (hK:M.K=X.K) (hg:Gl X "str") (hm:X.mg "str" = none) (ha:PA X (e::es) (tL M fa vs)) (he:va3 (e::es) X.env=(false,eval e X.env)::va3 es X.env) (hpl:(vd6 pos (va3 es X.env)).any (·.1)=false):
  PE X (.Call (.Name "str" p) (e::es) [] pos) (tE M (zqd zko fa) vs):=by
 refine zqk (zvk (qe2 hu hgd) hg hm rfl ha (he:=he) (hpl:=hpl)) λ σ H Q h=>zwe (λ xs z c ws H fps fp Q ho tm nz zd lf=>?_) h
 unfold zko at ho
 split at ho
 ·rename_i x d
  obtain ⟨T,hT,eT⟩:=ja7.mp ho
  cases eT
  obtain ⟨v,r,f1,f2,rfl,rfl,_,o1,h2⟩:=tm
  obtain ⟨rfl,rfl⟩:=h2
  rw [hK] at o1
  exact ⟨x,_,v,_,f1,T,rfl,o1,hT,zzs lf⟩
 ·cases ho
end
open PySem PySem.Spec PyProof.Rows L2 PySem.Builtin PySem.Builtin.ObjectAttr PySem.Builtin.Getset_descriptor
section
variable {prog:va8}{w:vb6}{A:vb8}{E:va0->va1->Prop}{K:Frag}{h:Heap}{g:Array GenState}{d:Drawn}{t:Nat}{os:OsState}{a C:Addr}{oe:Obj}
theorem qls {R:Result->va1->Prop} (X:K.In h) (he:h.get? a=some oe) (hc:oe.cls=.ref C) (hm:vc5 K C (.type "object")=some true) (hq:R (.ok (.ret (.ref C))) ⟨h,g,d,t,os⟩):
  vi7 (vb1 prog w) A (.call (.builtin "getset_descriptor.__get__") ⟨[.builtin "object.__class__",.ref a,.ref C],[]⟩) R ⟨h,g,d,t,os⟩:=by
 have ty:PySem.W.Looks (vb1 prog w) h (typeOf (.ref a)) (.ref C):=hc ▸ (PySem.W.Looks.ld he).andThen .now
 have mr:=PySem.W.looks_mroIn (M:=vb1 prog w) X hm
 have pl:=PySem.W.KF.slot_gs.plain
 have en:=PySem.W.KF.entry_gs
 refine codeAny_call_builtin pl en (PySem.W.KF.slot_gs.check _ _ _ _ _ _ _ _
  PySem.W.KF.type_class (PySem.W.KF.args_gs _ _ _) ?_)
 unfold Builtin.«getset_descriptor.__get__»
 unfold descrGet
 rw [PySem.W.dga_obj]
 refine va7 (va9 ?_)
 unfold descrGetter descrCheckInstance
 unfold descrNameAndClass isInstance
 simp only [PySem.W.KF.owner_class]
 repeat lk
 refine ⟨Code.quiet_builtin _ (by decide +kernel),codeAny_builtin PySem.W.KF.entry_class ?_⟩
 unfold Builtin.«object.__class__»
 unfold shownTypeOf
 repeat lk
 exact hq
theorem qez {tk:Tok}{Q:Fin->va1->Prop} (X:K.In h) (he:h.get? a=some oe) (hc:oe.cls=.ref C) (hm:vc5 K C (.type "object")=some true) (hl:vb3 K (.ref C) "__class__" = some (some (.builtin "object.__class__")))
  (hq:Q (.done (.ret (.ref C))) ⟨h,g,d,t,os⟩):vb2 (vb1 prog w) A (Builtin.«object.__getattribute__» ⟨[.ref a,.str "__class__" tk],[]⟩) Q E ⟨h,g,d,t,os⟩:=by
 have hT5:(⟨h,g,d,t,os⟩:va1).TypeIs (.builtin "object.__class__") "getset_descriptor" := F.typeOf_object_class
 have f5:=F.typeOf_object_class
 have f6:=F.slot_gs_get.lookup
 have f7:=F.slot_gs_set.lookup
 have L1:=vh2 (M:=vb1 prog w) X hl
 repeat (any_goals (first | assumption | (with_reducible refine vi5 he ?_;rw [hc]) | with_reducible refine L1.at ?_ | wp_step))
 refine qls X he hc hm ?_
 repeat (any_goals (first | assumption | wp_step))
theorem qe0 {nameV:va0}{Q:Unit->va1->Prop}{M:Model} (X:K.In h) (he:h.get? a=some oe) (hc:oe.cls=.ref C) (hb:vc5 K C (.type "BaseException")=some true) (hq:Q () ⟨h,g,d,t,os⟩):
  vb2 M A (checkBuiltinCall "BaseException.__getattribute__" ⟨[.ref a,nameV],[]⟩) Q E ⟨h,g,d,t,os⟩:=by
 have hk:builtinKind "BaseException.__getattribute__" = some .slot:=by decide +kernel
 have hsp:splitId "BaseException.__getattribute__" = some ("BaseException","__getattribute__"):=by decide +kernel
 have ha:=F.args_bexc_ga (.ref a) nameV
 have L1:=PySem.W.looks_mroIn (M:=M) X hb
 simp only [checkBuiltinCall,hk,hsp]
 refine va7 ?_
 unfold isInstance
 repeat (first | (with_reducible refine vi5 he ?_;rw [hc]) | with_reducible refine L1.at ?_ | wp_step)
 exact hq
theorem qmv {tk:Tok}{Q:va0->va1->Prop} (X:K.In h) (he:h.get? a=some oe) (hc:oe.cls=.ref C) (hm:vc5 K C (.type "object")=some true) (hb:vc5 K C (.type "BaseException")=some true)
  (hl:vb3 K (.ref C) "__class__" = some (some (.builtin "object.__class__"))) (hga:vb3 K (.ref C) "__getattribute__" = some (some (.builtin "BaseException.__getattribute__"))) (hgh:vb3 K (.ref C) "__getattr__" = some none)
  (hq:Q (.ref C) ⟨h,g,d,t,os⟩):vb2 (vb1 prog w) A (getAttrBy (.ref a) (.str "__class__" tk) false) Q E ⟨h,g,d,t,os⟩:=by
 have f3:=PySem.F.attrBase_ValueError.ga.bind (.ref a)
 have L1:=vh2 (M:=vb1 prog w) X hga
 have L2':=vh2 (M:=vb1 prog w) X hgh
 have hx2:(Value.builtin "BaseException.__getattribute__" == Value.builtin "object.__getattribute__")=false:=by decide +kernel
 have hx1:(onTheHeap (Value.ref C) && Value.builtin "BaseException.__getattribute__" == Value.builtin "object.__getattribute__")=false:=by rw [hx2];rfl
 repeat (any_goals (first | assumption | (with_reducible refine vi5 he ?_;rw [hc]) | with_reducible refine L1.at ?_ | with_reducible refine L2'.at ?_ | wp_step))
 refine codeAny_call_builtin PySem.F.attrBase_ValueError.ga.plain F.entry_bexc_ga (qe0 X he hc hb (qez X he hc hm hl ?_))
 repeat (any_goals (first | assumption | wp_step))
theorem qij {Q:Option va0->va1->Prop} (X:K.In h) (he:h.get? a=some oe) (hc:oe.cls=.ref C) (hm:vc5 K C (.type "object")=some true) (hb:vc5 K C (.type "BaseException")=some true)
  (hl:vb3 K (.ref C) "__class__" = some (some (.builtin "object.__class__"))) (hga:vb3 K (.ref C) "__getattribute__" = some (some (.builtin "BaseException.__getattribute__"))) (hgh:vb3 K (.ref C) "__getattr__" = some none)
  (hq:Q (some (.ref C)) ⟨h,g,d,t + 1,os⟩):vb2 (vb1 prog w) A (getAttr? (.ref a) "__class__") Q E ⟨h,g,d,t,os⟩:=by
 unfold getAttr?
 unfold getAttrBy?
 repeat (any_goals (first | assumption | with_reducible apply qmv X he hc hm hb hl hga hgh | wp_step))
end
def clsV (K:Frag) (d:Nat) (u:va0):Bool:=(u == .type "ValueError" && d == 0) || (match zwg K d with
 | some D=>u == .ref D
 | none=>false)
section
variable {K:Frag}{a C:Addr}{c d:Nat}{u:va0}
theorem zjz (t:xKit K=true) (e:zwg K c=some C):zki K C=true/\vb7 K (.type "NoneType") (.ref C)=some false/\vb7 K (.ref C) (.type "ValueError")=some true/\∀ d D,zwg K d=some D->vb7 K (.ref C) (.ref D)=some (isX c d):=by
 unfold xKit at t
 rw [ja5] at t
 have h:=jc8.mp t.2 c (jd0.mpr (zya e))
 rw [e] at h
 dsimp only at h
 simp only [ja5] at h
 refine ⟨h.1.1.1,eq_of_beq h.1.1.2,eq_of_beq h.1.2,λ d D ed=>?_⟩
 have h2:=jc8.mp h.2 d (jd0.mpr (zya ed))
 rw [ed] at h2
 exact eq_of_beq h2
theorem qcc (t:xKit K=true) (e:zwg K c=some C) (hu:clsV K d u=true):vb7 K (.ref C) u=some (isX c d):=by
 obtain ⟨_,_,h3,h4⟩:=zjz t e
 unfold clsV at hu
 rw [jd6] at hu
 rcases hu with hu | hu
 ·rw [ja5] at hu
  rw [eq_of_beq hu.1,h3,eq_of_beq hu.2]
  simp [isX]
 ·split at hu
  ·rename_i D hD
   rw [eq_of_beq hu]
   exact h4 d D hD
  ·cases hu
theorem qcb (t:xKit K=true) (hu:clsV K d u=true):vb7 K (.type "NoneType") u=some false:=by
 unfold clsV at hu
 rw [jd6] at hu
 rcases hu with hu | hu
 ·rw [ja5] at hu
  rw [eq_of_beq hu.1]
  unfold xKit at t
  rw [ja5] at t
  exact eq_of_beq t.1
 ·split at hu
  ·rename_i D hD
   rw [eq_of_beq hu]
   exact (zjz t hD).2.1
  ·cases hu
def zyx (K:Frag):List Nat->List va0->Bool
 | [],[]=>true
 | d::ds,u::us=>clsV K d u && zyx K ds us
 | _,_=>false
theorem zgx (t:xKit K=true) (e:zwg K c=some C):∀ {ds:List Nat}{us:List va0},zyx K ds us=true->vh4 K (.ref C) us=some (ds.any (isX c))
 | [],[],_=>rfl
 | [],_::_,h=>by cases h
 | _::_,[],h=>by cases h
 | d::ds,u::us,h=>by
  unfold zyx at h
  rw [ja5] at h
  unfold vh4
  rw [qcc t e h.1,jj9]
  cases isX c d with
  | true=>rfl
  | false=>exact zgx t e h.2
theorem zgw (t:xKit K=true):∀ {ds:List Nat}{us:List va0},zyx K ds us=true->vh4 K (.type "NoneType") us=some false
 | [],[],_=>rfl
 | [],_::_,h=>by cases h
 | _::_,[],h=>by cases h
 | d::ds,u::us,h=>by
  unfold zyx at h
  rw [ja5] at h
  unfold vh4
  rw [qcb t h.1]
  exact zgw t h.2
theorem qc1 (g:zki K C=true):∃ c0 dd cd sl,K.lookup C=some ⟨c0,dd,.cls cd,sl⟩:=by
 unfold zki at g
 simp only [ja5] at g
 have h:=g.1.1.1.1.1
 unfold PySem.W.clsIn at h
 split at h
 ·rename_i q;exact ⟨_,_,_,_,q⟩
 ·cases h
theorem zgy (g:zki K C=true):PySem.W.KitX K (.ref a) (.ref C) (qdi a C):=by
 obtain ⟨c0,dd,cd,sl,hl⟩:=qc1 g
 unfold zki at g
 simp only [ja5] at g
 obtain ⟨⟨⟨⟨⟨_,g1⟩,g2⟩,g3⟩,g4⟩,g5⟩:=g
 refine ⟨λ M h _ p=>?_,λ M h X _=>?_,λ h tp dd' its n sl' X htp=>?_,λ {prog w A E Q s} X p k=>?_⟩
 ·obtain ⟨o,vs,h1,h2,_⟩:=p
  exact h2 ▸ (PySem.W.Looks.ld h1).andThen .now
 ·intro A' Q' E' s' kp q
  unfold isType
  unfold loadHead
  exact va7 (wpAny_loadPart (kp _ _ (X _ _ hl)) (va9 q))
 ·cases hb:(Value.ref C == Value.ref tp) with
  | false=>rfl
  | true=>
   have ec:C=tp:=Value.ref.inj (eq_of_beq hb)
   have z:=X _ _ hl
   rw [ec,htp] at z
   cases z
 ·obtain ⟨o,vs,h1,h2,_⟩:=p
  obtain ⟨hp,gg,dr,tt,oo⟩:=s
  exact qij X h1 h2 (eq_of_beq g1) (eq_of_beq g2) (eq_of_beq g3) (eq_of_beq g4) (eq_of_beq g5) k
end
section
variable {X:Cx}
def IsQ (K:Frag) (v:V) (H:Hp) (Q:VK) (ds:List Nat):Prop:=(v=.non/\Q (.bl false) H)\/∃ a C c,v=.ref a/\zwg K c=some C/\H a=some (.ext (qdi a C))/\Q (.bl (ds.any (isX c))) H
theorem zhf {pins:List (Addr×Obj)}{σ:St}{H:Hp}{s:va1}{a C:Addr} (I:L2.Inv X pins σ H s) (h:H a=some (.ext (qdi a C))):qdi a C s.heap:=(I.hok a _ h).1
theorem qda (t:xKit X.K=true):zwn X (.builtin "isinstance") (λ xs H Q=>∃ v cv d,xs=[v,cv]/\(∀ u,RelV cv u->clsV X.K d u=true)/\IsQ X.K v H Q [d]):=by
 intro pins s σ H xs us Q I r h
 obtain ⟨v,cv,d,rfl,hcv,h⟩:=h
 obtain ⟨u,w,rfl,r1,r2⟩:=qau r
 have hw:=hcv w r2
 rcases h with ⟨rfl,q⟩ | ⟨a,C,c,rfl,hC,ha,q⟩
 ·cases r1
  exact vb5 vi9 I.kIn True.intro (qcb t hw) (λ z=>nomatch z) λ tk=>⟨.bl false,H,I.tok _,rfl,q⟩
 ·obtain rfl:u=Value.ref a:=r1
  exact vb5 (zgy (zjz t hC).1) I.kIn (zhf I ha) (qcc t hC hw) (λ z=>nomatch z) λ tk=>⟨.bl (isX c d),H,I.tok _,rfl,by simpa using q⟩
theorem qaq (t:xKit X.K=true):zwn X (.builtin "isinstance") (λ xs H Q=>∃ v p cvs ds,xs=[v,.ref p]/\H p=some (.tup cvs)/\(∀ us,Vals cvs us->zyx X.K ds us=true)/\IsQ X.K v H Q ds):=by
 intro pins s σ H xs us Q I r h
 obtain ⟨v,p,cvs,ds,rfl,hp,hcv,h⟩:=h
 obtain ⟨u,w,rfl,r1,r2⟩:=qau r
 obtain rfl:w=Value.ref p:=r2
 obtain ⟨_,its,rv,o,ho,hc,n,hd⟩:=I.hok p _ hp
 have hi:=hcv its rv
 have ho':s.heap.get? p=some ⟨.type "tuple",o.dict,.seq its.toArray n,o.slots⟩:=by
  rw [ho]
  obtain ⟨oc,od,oda,os⟩:=o
  dsimp only at hc hd
  rw [hc,hd]
 rcases h with ⟨rfl,q⟩ | ⟨a,C,c,rfl,hC,ha,q⟩
 ·cases r1
  exact PySem.W.kia_tup vi9 I.kIn True.intro ho' (zgw t hi) (λ z=>nomatch z) λ tk=>⟨.bl false,H,I.tok _,rfl,q⟩
 ·obtain rfl:u=Value.ref a:=r1
  exact PySem.W.kia_tup (zgy (zjz t hC).1) I.kIn (zhf I ha) ho' (zgx t hC hi) (λ z=>nomatch z) λ tk=>⟨.bl (ds.any (isX c)),H,I.tok _,rfl,q⟩
end
section
variable {X:Cx}{M:Fm}{f g:Fx}{vs vs':List Nat}{e:Expr}{es:List Expr}{pos p:Pos}{σ:St}{H:Hp}{Q:VK}
def zjl (ds:List Nat) (x:PV) (_:Nat):Option (PV×Nat):=match x with
 | .exn c=>some (.bl (ds.any (isX c)),om)
 | .non=>some (.bl false,om)
 | _=>none
theorem qf1 {K:Frag}{x z:PV}{ds:List Nat}{d c:Nat}{v:V}{Z:Addr->Prop}{H H':Hp}{f1:List Addr} (ho:zjl ds x d=some (z,c)) (o1:Own K H Z x d v f1) (k:∀ a o,H a=some o->H' a=some o) (q:∀ b,z=.bl b->Q (.bl b) H'):IsQ K v H' Q ds:=by
 cases x with
 | exn n=>
  cases ho
  rw [Own] at o1
  obtain ⟨_,a,C,rfl,hC,ha⟩:=o1
  exact .inr ⟨a,C,n,rfl,hC,k _ _ ha,q _ rfl⟩
 | non=>
  cases ho
  rw [Own] at o1
  obtain ⟨rfl,_⟩:=o1
  exact .inl ⟨rfl,q _ rfl⟩
 | _=>cases ho
theorem zmc {ds:List Nat}{x z:PV}{d c:Nat} (ho:zjl ds x d=some (z,c)):∃ b,z=.bl b/\c=om:=by
 cases x with
 | exn n=>cases ho;exact ⟨_,rfl,rfl⟩
 | non=>cases ho;exact ⟨_,rfl,rfl⟩
 | _=>cases ho
theorem qg7 {cv:V}{d:Nat}{T':Str}{p1 p2:Pos} (t:xKit X.K=true) (hK:M.K=X.K) (ha:PE X e (tE M f vs)) (hg:Gl X "isinstance") (hm:X.mg "isinstance" = none) (hc:PE X (.Name T' p2) (tC cv)) (hcv:∀ u,RelV cv u->clsV X.K d u=true)
  (hs1:va3 [e,.Name T' p2] X.env=[(false,eval e X.env),(false,eval (.Name T' p2) X.env)]) (hs2:va3 [Expr.Name T' p2] X.env=[(false,eval (.Name T' p2) X.env)]):
  PE X (.Call (.Name "isinstance" p1) [e,.Name T' p2] [] pos) (tE M (bUn (zjl [d]) f) vs):=by
 refine zqk (zwq (qda t) hg hm rfl (zxr ha (zxr hc zzu hs2) (by rw [hs1,hs2])) (he:=by rw [hs1,hs2]) (hpl:=by rw [hs2];rfl)) λ σ H Q h=>?_
 refine zhz (r:=λ v H Q=>∃ x c n,[v,cv]=[x,c]/\(∀ u,RelV c u->clsV X.K n u=true)/\IsQ X.K x H Q [n]) (λ x d' z c v H fps f1 Q ho o1 nz zd lf=>?_) h
 obtain ⟨b,rfl,rfl⟩:=zmc ho
 exact ⟨v,cv,d,rfl,hcv,by rw [<- hK];exact qf1 ho o1 (λ _ _ h=>h) λ b' e=>by cases e;exact zxo lf⟩
def tVs (cvs:List V):TA:=λ _ H Q=>Q cvs H
theorem qdw {cvs:List V}{ds:List Nat}{p1 p2:Pos}{k:Nat} (t:xKit X.K=true) (hK:M.K=X.K) (ha:PE X e (tE M f vs)) (hg:Gl X "isinstance") (hm:X.mg "isinstance" = none) (hc:PA X es (tVs cvs)) (hl:cvs.length<=va2) (hcv:∀ us,Vals cvs us->zyx X.K ds us=true)
  (hs1:va3 [e,.Tuple es k p2] X.env=[(false,eval e X.env),(false,eval (.Tuple es k p2) X.env)]) (hs2:va3 [Expr.Tuple es k p2] X.env=[(false,eval (.Tuple es k p2) X.env)]):
  PE X (.Call (.Name "isinstance" p1) [e,.Tuple es k p2] [] pos) (tE M (bUn (zjl ds) f) vs):=by
 refine zqk (zwq (qaq t) hg hm rfl (zxr ha (zxr (qfp hc) zzu hs2) (by rw [hs1,hs2])) (he:=by rw [hs1,hs2]) (hpl:=by rw [hs2];rfl)) λ σ H Q h=>?_
 refine zhz (r:=λ v H Q=>cvs.length<=va2/\∀ q,H q=none->∃ x p' cvs' ds',[v,V.ref q]=[x,.ref p']/\upd H q (.tup cvs) p'=some (.tup cvs')/\(∀ us,Vals cvs' us->zyx X.K ds' us=true)/\IsQ X.K x (upd H q (.tup cvs)) Q ds') (λ x d' z c v H fps f1 Q ho o1 nz zd lf=>?_) h
 obtain ⟨b,rfl,rfl⟩:=zmc ho
 refine ⟨hl,λ q hq=>⟨v,q,cvs,ds,rfl,zqj,hcv,?_⟩⟩
 have kk:∀ a o,H a=some o->upd H q (.tup cvs) a=some o:=λ a o h=>by rw [zqg (λ z=>by rw [z,hq] at h;cases h)];exact h
 rw [<- hK]
 exact qf1 ho o1 kk λ b' e=>by cases e;exact lf (.bl b) _ [] kk (by rw [Own];exact ⟨rfl,rfl⟩) (λ _ z=>nomatch z)
end
section
variable {X:Cx}{M:Fm}{a b:Expr}{f g:Fx}{fa:Fa}{vs vs':List Nat}{pos p:Pos}{σ:St}{H:Hp}{Q:VK}{e:Expr}{es:List Expr}
def keyL:List PV->Option (List Key)
 | []=>some []
 | .int i::r=>(keyL r).map (.inl i::·)
 | .str x::r=>(keyL r).map (.inr x::·)
 | _=>none
theorem zku {K:Frag}{Z:Addr->Prop}:∀ {xs:List PV}{ws:List V}{d:Nat}{fp:List Addr}{k:List Key},keyL xs=some k->OwnL K H Z xs d ws fp->ws=k.map kV
 | [],ws,d,fp,k,e,h=>by cases e;rw [OwnL] at h;exact h.1
 | .int i::r,ws,d,fp,k,e,h=>by
  obtain ⟨k',e1,rfl⟩:=ja7.mp e
  rw [OwnL] at h
  obtain ⟨v,s,f1,f2,rfl,ef,dj,h1,h2⟩:=h
  rw [Own] at h1
  rw [h1.1,zku e1 h2]
  rfl
 | .str i::r,ws,d,fp,k,e,h=>by
  obtain ⟨k',e1,rfl⟩:=ja7.mp e
  rw [OwnL] at h
  obtain ⟨v,s,f1,f2,rfl,ef,dj,h1,h2⟩:=h
  rw [Own] at h1
  rw [h1.1,zku e1 h2]
  rfl
 | .non::_,_,_,_,_,e,_=>by cases e
 | .bl _::_,_,_,_,_,e,_=>by cases e
 | .lst _::_,_,_,_,_,e,_=>by cases e
 | .tup _::_,_,_,_,_,e,_=>by cases e
 | .emp::_,_,_,_,_,e,_=>by cases e
 | .dko::_,_,_,_,_,e,_=>by cases e
 | .scr _::_,_,_,_,_,e,_=>by cases e
 | .dct _::_,_,_,_,_,e,_=>by cases e
 | .exn _::_,_,_,_,_,e,_=>by cases e
def opIn (neg:Bool) (x:PV) (_:Nat) (y:PV) (_:Nat):Option (PV×Nat):=match x,y with
 | .tup ks,.dct kvs=>(keyL ks).map λ k=>(.bl (neg^^(valV kvs k).isSome),om)
 | .str y,.str x=>some (.bl (neg^^Txt.contains x y),om)
 | x,.lst ys=>(match toD 20 x,toDL (toD 20) ys with
  | some a,some bs=>some (.bl (neg^^bs.any λ b=>vc9 b a),om)
  | _,_=>none)
 | x,.tup ys=>(match toD 20 x,toDL (toD 20) ys with
  | some a,some bs=>some (.bl (neg^^bs.any λ b=>vc9 b a),om)
  | _,_=>none)
 | _,_=>none
def rDIn (neg:Bool):R2:=λ v w H Q=>∃ a o,w=.ref a/\DGet H a v o/\Q (.bl (neg^^o.isSome)) H
theorem qkw (hu:X.A.units + 1 < ve8):OpR X (vb4 .In) (rDIn false):=by
 intro pins s σ H x y v u Q I rx ry h
 obtain ⟨a,o,rfl,g,q⟩:=h
 obtain rfl:u=Value.ref a:=ry
 exact d_in hu I g rx λ s3 I3=>⟨.bl o.isSome,H,I3,rfl,by simpa using q⟩
theorem qby (hu:X.A.units + 1 < ve8):OpR X (vb4 .NotIn) (rDIn true):=by
 intro pins s σ H x y v u Q I rx ry h
 obtain ⟨a,o,rfl,g,q⟩:=h
 obtain rfl:u=Value.ref a:=ry
 exact qic hu I g rx λ s3 I3=>⟨.bl (!o.isSome),H,I3,rfl,by simpa using q⟩
def sqv (tp:Bool) (ys:List PV):PV:=match tp with
 | true=>.tup ys
 | false=>.lst ys
def sqd (tp:Bool) (ys:List vg5):vg5:=match tp with
 | true=>.tuple ys
 | false=>.list ys
def rInD (K:Frag) (neg:Bool):R2:=λ v w H Q=>∃ tp x ys d e Z Z' f1 f2 a bs,toD 20 x=some a/\toDL (toD 20) ys=some bs/\Own K H Z x d v f1/\Own K H Z' (sqv tp ys) e w f2/\Q (.bl (neg^^bs.any λ b=>vc9 b a)) H
theorem qfg {tp:Bool}{ys:List PV}{bs:List vg5} (h:toDL (toD 20) ys=some bs):toD 21 (sqv tp ys)=some (sqd tp bs):=by
 cases tp with
 | true=>
  show (toDL (toD 20) ys).map PyData.tuple=_
  rw [h]
  rfl
 | false=>
  show (toDL (toD 20) ys).map PyData.list=_
  rw [h]
  rfl
theorem qks (hu:X.A.units + 64 < ve8):OpR X (vb4 .In) (rInD X.K false):=by
 intro pins s σ H v w u u' Q I rx ry h
 obtain ⟨tp,x,ys,d,e,Z,Z',f1,f2,a,bs,h1,h2,o1,o2,q⟩:=h
 obtain ⟨as,ra⟩:=zwa I 20 x d v f1 u a h1 o1 rx
 obtain ⟨bs',rb⟩:=zwa I 21 (sqv tp ys) e w f2 u' _ (qfg h2) o2 ry
 have l1:=zwi 20 x a h1
 have l2:=zvg (λ x D h=>zwi 20 x D h) h2
 have hm:X.A.units + 1 + min (vd3 bs) a.depth < ve8:=by have:=jk1 (vd3 bs) a.depth;omega
 cases tp with
 | false=>exact SeqAt.in_list_reads rb ra l2.1 l1.1 hm ⟨.bl _,H,I,rfl,by simpa using q⟩
 | true=>exact SeqAt.in_tuple_reads rb ra l2.1 l1.1 hm ⟨.bl _,H,I,rfl,by simpa using q⟩
theorem qbx (hu:X.A.units + 64 < ve8):OpR X (vb4 .NotIn) (rInD X.K true):=by
 intro pins s σ H v w u u' Q I rx ry h
 obtain ⟨tp,x,ys,d,e,Z,Z',f1,f2,a,bs,h1,h2,o1,o2,q⟩:=h
 obtain ⟨as,ra⟩:=zwa I 20 x d v f1 u a h1 o1 rx
 obtain ⟨bs',rb⟩:=zwa I 21 (sqv tp ys) e w f2 u' _ (qfg h2) o2 ry
 have l1:=zwi 20 x a h1
 have l2:=zvg (λ x D h=>zwi 20 x D h) h2
 have hm:X.A.units + 1 + min (vd3 bs) a.depth < ve8:=by have:=jk1 (vd3 bs) a.depth;omega
 cases tp with
 | false=>exact SeqAt.notIn_list_reads rb ra l2.1 l1.1 hm ⟨.bl _,H,I,rfl,by simpa using q⟩
 | true=>exact SeqAt.notIn_tuple_reads rb ra l2.1 l1.1 hm ⟨.bl _,H,I,rfl,by simpa using q⟩
theorem zgv {x y z:PV}{d e c:Nat}{v w:V}{fps:Fps}{f1 f2 F:List Addr}{Z Z':Addr->Prop}{neg:Bool} (hK:M.K=X.K) (ho:opIn neg x d y e=some (z,c)) (o1:Own M.K H Z x d v f1) (o2:Own M.K H Z' y e w f2) (lf:Leaf M H fps vs F z c Q):(rDIn neg v w H Q\/rSIn neg v w H Q)\/rInD X.K neg v w H Q:=by
 unfold opIn at ho
 split at ho
 ·rename_i ks kvs
  obtain ⟨k,ek,e2⟩:=ja7.mp ho
  cases e2
  rw [Own] at o1
  rw [Own] at o2
  obtain ⟨b,ws,rfl,hb,ol⟩:=o1
  have:=zku ek ol
  subst this
  have h2:∃ a,w=.ref a/\H a=some (.dT kvs):=by
   obtain ⟨a,ea,⟨_,hr,_⟩ | ⟨_,ha,_⟩⟩:=o2
   ·exact ⟨a,ea,hr.1⟩
   ·exact ⟨a,ea,ha⟩
  obtain ⟨a,rfl,ha⟩:=h2
  exact .inl (.inl ⟨a,_,rfl,DGet.t ha hb,zxo lf⟩)
 ·rename_i y0 x0
  cases ho
  rw [Own] at o1
  rw [Own] at o2
  exact .inl (.inr ⟨y0,x0,o1.1,o2.1,zxo lf⟩)
 ·rename_i ys
  split at ho
  ·rename_i a bs ea eb
   cases ho
   rw [hK] at o1
   rw [hK] at o2
   exact .inr ⟨false,_,ys,d,e,Z,Z',f1,f2,a,bs,ea,eb,o1,o2,zxo lf⟩
  ·cases ho
 ·rename_i ys
  split at ho
  ·rename_i a bs ea eb
   cases ho
   rw [hK] at o1
   rw [hK] at o2
   exact .inr ⟨true,_,ys,d,e,Z,Z',f1,f2,a,bs,ea,eb,o1,o2,zxo lf⟩
  ·cases ho
 ·cases ho
def bDct:Fx:=λ ρ=>.ok (.dct [],om,ρ)
theorem qjw:PE X (.Dict [] [] pos) (tE M bDct []):=by
 refine zqk qd6 λ σ H Q h p hp=>?_
 obtain ⟨ρ,fps,rep,q⟩:=h
 refine q (.ref p) _ fps [p] (KD.grow (zxj hp)) Agr.refl (rep.grow (zxj hp)) ?_ ⟨λ a ha=>by rw [jb6.mp ha];exact hp,λ a ha=>by rw [jb6.mp ha];exact rep.nz hp⟩
 rw [Own]
 exact ⟨p,rfl,.inr ⟨by decide,zqj,rfl⟩⟩
end
structure Sx where
 N:List Str
 sc:vd0
 ms:List Nat
 al:List (List Nat)
 Γ:List (Str×(Bool×Nat×Fn))
 Γm:List (Str×Fn)
 rz:Bool
 xc:List Nat
 pn:List Nat
def Sx.alF (S:Sx) (i:Nat):List Nat:=S.al.getD i []
def Sx.msF (S:Sx) (i:Nat):Bool:=S.ms.contains i
def zwc (sc:vd0) (x:Str) (k:vc6):Bool:=sc.names.lookup x == some k
def visB (sc:vd0) (x:Str):Bool:=zwc sc x .local || zwc sc x .cell || zwc sc x .free
def ixOf (N:List Str) (x:Str):Option Nat:=N.findIdx? (·== x)
def Sx.slot (S:Sx) (x:Str):Option Nat:=if visB S.sc x && !(x == ("__debug__" : Str)) && !(x == ("__classdict__" : Str)) then ixOf S.N x else none
def Sx.glob (S:Sx) (x:Str):Bool:=zwc S.sc x .globalImplicit
structure XS (X:Cx) (P:va8) (w:vb6) (K:Frag) (mg:Str->Option va0) (base:Heap) (lvl:Nat) (S:Sx) (Wx:St->Nat->Hp->Prop):Prop where
 prog:X.prog=P
 w:X.w=w
 K:X.K=K
 mg:X.mg=mg
 base:X.base=base
 N:X.N=S.N
 sc:X.env.scope=S.sc
 calm:X.calm=true
 room:Room lvl X.A
 po:PassesOwn (vb1 X.prog X.w) X.A X.env X.xe
 ps:zpj (CXr X.prog X.w X.K) X Wx
 rs:S.rz=true->zfx X Wx
structure MS (M:Fm) (K:Frag) (S:Sx) (Wx:St->Nat->Hp->Prop):Prop where
 K:M.K=K
 ms:M.Ms=S.msF
 al:∀ i,i < S.N.length->M.al i=S.alF i
 als:∀ i,∀ j∈M.al i,M.Ms j=false
 W:M.W=Wx
 pn:∀ p∈M.pn,p.1 < S.N.length
def GSm (P:va8) (w:vb6) (K:Frag) (mg:Str->Option va0) (base:Heap) (lvl:Nat) (Γm:List (Str×Fn)):Prop:=
 ∀ x F,Γm.lookup x=some F->(x == ("__debug__" : Str))=false/\∃ fa fd ps,mg x=some (.ref fa)/\vd7 K (.ref fa)=true/\zfe K fd ps []/\FnOk P w K mg base (CXr P w K) lvl fa fd ps (spM K F)
def GX (K:Frag) (mg:Str->Option va0) (xc:List Nat):Prop:=xc≠[]->xTab K=true/\xKit K=true/\∀ c∈xc,(c < 50->∃ x C,XN[c]?=some x/\zwg K c=some C/\mg x=some (.ref C)/\(x == ("__debug__" : Str))=false)/\(50<=c->∃ x v u,CN[c - 50]?=some (x,v)/\cVb v u=true/\mg x=some u/\(x == ("__debug__" : Str))=false)
def GS (P:va8) (w:vb6) (K:Frag) (mg:Str->Option va0) (base:Heap) (lvl:Nat) (Γ:List (Str×(Bool×Nat×Fn))):Prop:=
 (∀ x∈zzm,mg x=none)/\∀ x io n F,Γ.lookup x=some (io,n,F)->(x == ("__debug__" : Str))=false/\(∀ xs,xs.length≠n->F xs=.no) /\
  ∃ fa fd ps,mg x=some (.ref fa)/\vd7 K (.ref fa)=true/\zfe K fd ps []/\ps.length=n/\FnOk P w K mg base (CXr P w K) lvl fa fd ps (spF K io n F)
section
variable {X:Cx}{P:va8}{w:vb6}{K:Frag}{mg:Str->Option va0}{base:Heap}{lvl:Nat}{S:Sx}{Wx:St->Nat->Hp->Prop}{M:Fm}
theorem zxp {sc:vd0}{x:Str}{k:vc6} (h:zwc sc x k=true):sc.names.lookup x=some k:=by
 unfold zwc at h
 exact eq_of_beq h
theorem qfe {sc:vd0}{x:Str} (h:visB sc x=true):Vis sc x:=by
 unfold visB at h
 rw [jd6,jd6] at h
 rcases h with (h | h) | h
 ·exact .inl (zxp h)
 ·exact .inr (.inl (zxp h))
 ·exact .inr (.inr (zxp h))
theorem zkv {N:List Str}{x:Str}{i:Nat} (h:ixOf N x=some i):N[i]?=some x:=by
 unfold ixOf at h
 rw [je1] at h
 obtain ⟨hi,e,_⟩:=h
 have:N[i]=x:=eq_of_beq e
 rw [jb1 hi,this]
theorem XS.var (xs:XS X P w K mg base lvl S Wx) {x:Str}{i:Nat}{pos:Pos} (h:S.slot x=some i):PE X (.Name x pos) (tVar i):=by
 unfold Sx.slot at h
 split at h
 ·rename_i hc
  simp only [ja5,jj6] at hc
  exact qke (by rw [xs.N];exact zkv h) (by rw [xs.sc];exact qfe hc.1.1) hc.1.2 hc.2
 ·cases h
theorem XS.gl (xs:XS X P w K mg base lvl S Wx) {x:Str} (h:S.glob x=true):Gl X x:=by
 show X.env.scope.names.lookup x=_
 rw [xs.sc]
 exact zxp h
theorem zqt {e:Expr}{es:List Expr}{env:Env} (h:∀ x p,e≠.Starred x p):va3 (e::es) env=(false,eval e env)::va3 es env:=by
 cases e with
 | Starred x p=>exact absurd rfl (h x p)
 | _=>rfl
def zyj:Expr->Bool
 | .Starred _ _=>false
 | _=>true
theorem zqm {e:Expr} (h:zyj e=true):∀ x p,e≠.Starred x p:=λ x p z=>by rw [z] at h;cases h
theorem zbe {env:Env}{pos:Pos}:∀ {es:List Expr},es.all zyj=true->(vd6 pos (va3 es env)).any (·.1)=false
 | [],_=>rfl
 | e::es,h=>by
  rw [jh3,ja5] at h
  rw [zqt (zqm h.1)]
  show (false || (vd6 pos (va3 es env)).any (·.1))=false
  rw [zbe h.2]
  rfl
def zva:Expr->Bool
 | .Slice _ _ _ _=>false
 | _=>true
theorem zwv {b:Expr} (h:zva b=true):zpi b:=by
 intro o i
 cases b with
 | Slice _ _ _ _=>cases h
 | _=>rfl
def qml:Expr->Bool
 | .List _ _=>true
 | _=>false
def qmh:Expr->Bool
 | .List es _=>es.any qml
 | _=>false
def qlt (b:Expr):Operator->Option (PV->Nat->PV->Nat->Option (PV×Nat))
 | .Add=>some (if qmh b=true then qb2 else zqh)
 | .Sub=>some zzc
 | .Mult=>some zwk
 | .FloorDiv=>some zzv
 | .Mod=>some zql
 | .Pow=>some qed
 | _=>none
theorem ql5 {a b:Expr}{op:Operator}{o:PV->Nat->PV->Nat->Option (PV×Nat)}{f g:Fx}{vs vs':List Nat}{pos:Pos} (h:qlt b op=some o) (hv:∀ i∈vs,M.Ms i=false) (hK:M.K=X.K) (ha:PE X a (tE M f vs)) (hb:PE X b (tE M g vs')):PE X (.BinOp a op b pos) (tE M (bBin o f g) (vs++vs')):=by
 cases op <;> cases h
 ·split
  ·exact qha hv hK ha hb
  ·exact qjz hv hK ha hb
 ·exact zgd qho (λ _ _ _=>trivial) hv ha hb
 ·exact qjs hv ha hb
 ·exact zgd qkp (λ _ _=>cMod) hv ha hb
 ·exact zgd qkm (λ _ _=>cPow) hv ha hb
 ·exact zgd qeb (λ _ _=>cDiv) hv ha hb
def isNm:Expr->Bool
 | .Set _ _ _=>false
 | _=>true
def qii (b:Expr):vl0->Option (PV->Nat->PV->Nat->Option (PV×Nat))
 | .Lt=>some (zwb λ i j=>decide (i < j))
 | .LtE=>some (zwb λ i j=>decide (i<=j))
 | .Gt=>some (zwb λ i j=>decide (j < i))
 | .GtE=>some (zwb λ i j=>decide (j<=i))
 | .Eq=>some (opEq false)
 | .NotEq=>some (opEq true)
 | .In=>if isNm b=true then some (opIn false) else none
 | .NotIn=>if isNm b=true then some (opIn true) else none
 | _=>none
theorem qck {op:vl0}{b:Expr} (h:isNm b=true):ve9 op b=false:=by
 cases b with
 | Set _ _ _=>cases h
 | _=>rfl
theorem qex {op:vl0}{o:PV->Nat->PV->Nat->Option (PV×Nat)}{f g:Fx}{vs vs':List Nat}{b:Expr} (h:qii b op=some o) (hu:X.A.units + 64 < ve8) (hv:∀ i∈vs,M.Ms i=false) (hK:M.K=X.K):
  ∃ r,OpR X (vb4 op) r/\ve9 op b=false/\∀ σ H Q,tE M (bBin o f g) (vs++vs') σ H Q->tOp r (tE M f vs) (tE M g vs') σ H Q:=by
 cases op
 ·cases h;exact ⟨_,qkv hu,zwr _ (by decide) (by decide),λ σ H Q h=>zwp hv (λ x d y e z c v w H fps f1 f2 Q ho o1 o2 dj nz zd lf=>zgu hK ho o1 o2 lf) h⟩
 ·cases h;exact ⟨_,qkn hu,zwr _ (by decide) (by decide),λ σ H Q h=>zwp hv (λ x d y e z c v w H fps f1 f2 Q ho o1 o2 dj nz zd lf=>zgu hK ho o1 o2 lf) h⟩
 ·cases h;exact ⟨_,qkq,zwr _ (by decide) (by decide),λ σ H Q h=>zwp hv (λ x d y e z c v w H fps f1 f2 Q ho o1 o2 dj nz zd lf=>zkt ho o1 o2 lf) h⟩
 ·cases h;exact ⟨_,qkr,zwr _ (by decide) (by decide),λ σ H Q h=>zwp hv (λ x d y e z c v w H fps f1 f2 Q ho o1 o2 dj nz zd lf=>zkt ho o1 o2 lf) h⟩
 ·cases h;exact ⟨_,qkt,zwr _ (by decide) (by decide),λ σ H Q h=>zwp hv (λ x d y e z c v w H fps f1 f2 Q ho o1 o2 dj nz zd lf=>zkt ho o1 o2 lf) h⟩
 ·cases h;exact ⟨_,qku,zwr _ (by decide) (by decide),λ σ H Q h=>zwp hv (λ x d y e z c v w H fps f1 f2 Q ho o1 o2 dj nz zd lf=>zkt ho o1 o2 lf) h⟩
 ·cases h
 ·cases h
 ·replace h:(if isNm b=true then some (opIn false) else none)=some o:=h
  split at h
  ·rename_i hb
   cases h
   exact ⟨_,((qkw (by omega)).or qkk).or (qks hu),qck hb,λ σ H Q h=>zwp hv (λ x d y e z c v w H fps f1 f2 Q ho o1 o2 dj nz zd lf=>zgv hK ho o1 o2 lf) h⟩
  ·cases h
 ·replace h:(if isNm b=true then some (opIn true) else none)=some o:=h
  split at h
  ·rename_i hb
   cases h
   exact ⟨_,((qby (by omega)).or qbw).or (qbx hu),qck hb,λ σ H Q h=>zwp hv (λ x d y e z c v w H fps f1 f2 Q ho o1 o2 dj nz zd lf=>zgv hK ho o1 o2 lf) h⟩
  ·cases h
def icmp:vl0->Option (Int->Int->Bool)
 | .Lt=>some λ i j=>decide (i < j)
 | .LtE=>some λ i j=>decide (i<=j)
 | .Gt=>some λ i j=>decide (j < i)
 | .GtE=>some λ i j=>decide (j<=i)
 | .Eq=>some λ i j=>decide (i=j)
 | _=>none
theorem qhp:OpR X (vb4 .Eq) (rI0 λ i j=>.bl (decide (i=j))):=λ pins s σ H x y v u Q I rx ry h=>qmg pins s σ H x y v u Q I rx ry (by
 obtain ⟨i,j,rfl,rfl,q⟩:=h
 refine ⟨rfl,?_⟩
 rw [qcs]
 exact q)
theorem zmm {op:vl0}{p:Int->Int->Bool} (h:icmp op=some p):OpR X (vb4 op) (rI0 λ i j=>.bl (p i j))/\op≠.In/\op≠.NotIn:=by
 cases op <;> cases h
 ·exact ⟨qhp,by decide,by decide⟩
 ·exact ⟨qkq,by decide,by decide⟩
 ·exact ⟨qkr,by decide,by decide⟩
 ·exact ⟨qkt,by decide,by decide⟩
 ·exact ⟨qku,by decide,by decide⟩
def zvt (p q:Int->Int->Bool) (f g h:Fx):Fx:=λ ρ=>(f ρ).bind λ (x,_,ρ1)=>(g ρ1).bind λ (y,_,ρ2)=>match x,y with
 | .int i,.int j=>if p i j=true then (h ρ2).bind λ (z,_,ρ3)=>(match z with
  | .int k=>.ok (.bl (q j k),om,ρ3)
  | _=>.no) else .ok (.bl false,om,ρ2)
 | _,_=>.no
theorem zga {p q:Int->Int->Bool}{f g h:Fx}{vs v1 v2 v3:List Nat}{σ:St}{H:Hp}{Q:VK} (hq:tE M (zvt p q f g h) vs σ H Q):qa6 (rI0 λ i j=>.bl (p i j)) (rI0 λ i j=>.bl (q i j)) (tE M f v1) (tE M g v2) (tE M h v3) σ H Q:=by
 obtain ⟨ρ,fps,rep,qq⟩:=hq
 refine ⟨ρ,fps,rep,?_⟩
 unfold zvt at qq
 cases ef:f ρ with
 | no=>rw [ef] at qq;exact qq
 | exc c=>rw [ef] at qq;exact qq
 | ok p0=>
  obtain ⟨x,d,ρ1⟩:=p0
  rw [ef] at qq
  intro v H1 fps1 f1 k1 g1 rep1 o1 t1
  refine ⟨ρ1,fps1,rep1,?_⟩
  dsimp only [Rz.bind] at qq
  cases eg:g ρ1 with
  | no=>rw [eg] at qq;exact qq
  | exc c=>rw [eg] at qq;exact λ H' fps' k=>qq H' fps' (k1.trans k)
  | ok p2=>
   obtain ⟨y,e,ρ2⟩:=p2
   rw [eg] at qq
   intro w H2 fps2 f2 k2 g2 rep2 o2 t2
   cases x with
   | int i=>
    cases y with
    | int j=>
     dsimp only at qq
     rw [Own] at o1 o2
     obtain ⟨rfl,rfl⟩:=o1
     obtain ⟨rfl,rfl⟩:=o2
     refine ⟨i,j,rfl,rfl,p i j,rfl,?_⟩
     by_cases hp:p i j=true
     ·rw [if_pos hp] at qq ⊢
      refine ⟨ρ2,fps2,rep2,?_⟩
      cases eh:h ρ2 with
      | no=>rw [eh] at qq;exact qq
      | exc c=>rw [eh] at qq;exact λ H' fps' k=>qq H' fps' ((k1.trans k2).trans k)
      | ok p3=>
       obtain ⟨z,c,ρ3⟩:=p3
       rw [eh] at qq
       intro u H3 fps3 f3 k3 g3 rep3 o3 t3
       cases z with
       | int k=>
        dsimp only at qq
        rw [Own] at o3
        obtain ⟨rfl,rfl⟩:=o3
        exact ⟨j,k,rfl,rfl,qq _ H3 fps3 [] ((k1.trans k2).trans k3) ((g1.trans g2).trans g3) rep3 (by rw [Own];exact ⟨rfl,rfl⟩) ⟨λ _ z=>(nomatch z),λ _ z=>nomatch z⟩⟩
       | _=>exact qq.elim
     ·rw [if_neg hp] at qq ⊢
      exact qq _ H2 fps2 [] (k1.trans k2) (g1.trans g2) rep2 (by rw [Own];exact ⟨rfl,rfl⟩) ⟨λ _ z=>(nomatch z),λ _ z=>nomatch z⟩
    | _=>exact qq.elim
   | _=>exact qq.elim
def zxv (f g:Fx):Fx:=λ ρ=>(f ρ).bind λ (x,_,ρ1)=>match x with
 | .bl true=>g ρ1
 | .bl false=>.ok (.bl false,om,ρ1)
 | _=>.no
def bOrV (f g:Fx):Fx:=λ ρ=>(f ρ).bind λ (x,_,ρ1)=>match x with
 | .bl true=>.ok (.bl true,om,ρ1)
 | .bl false=>g ρ1
 | _=>.no
def zqw:PV->Nat->Option (PV×Nat)
 | .bl b,_=>some (.bl (!b),om)
 | _,_=>none
variable {f g:Fx}{vs vs':List Nat}{σ:St}{H:Hp}{Q:VK}
theorem qa4 {f:Fx}{ρ ρ1:Rho}{fps fps1:Fps}{H H1:Hp} (k1:KD M H fps H1 fps1) (g1:Agr M ρ ρ1) (rep1:Rep M ρ1 σ H1 fps1) (hs:∀ i∈vs,i∈vs')
  (q:match f ρ1 with
   | .ok (x,d,ρ')=>∀ v H' fps' fp,KD M H fps H' fps'->Agr M ρ ρ'->Rep M ρ' σ H' fps'->Own M.K H' (Zt M vs' fps' fp) x d v fp->Temp M vs' H H' fps' fp->Q v H'
   | .exc c=>∀ H' fps',KD M H fps H' fps'->M.W σ c H'
   | .no=>False):tE M f vs σ H1 Q:=by
 refine ⟨ρ1,fps1,rep1,?_⟩
 cases eg:f ρ1 with
 | no=>rw [eg] at q;exact q
 | exc c=>rw [eg] at q;exact λ H' fps' k=>q H' fps' (k1.trans k)
 | ok p2=>
  obtain ⟨x,d,ρ2⟩:=p2
  rw [eg] at q
  exact λ v H' fps' fp k g r o t=>q v H' fps' fp (k1.trans k) (g1.trans g) r (o.weak λ a h=>Zt.mono hs h) ⟨λ a ha=>(by
   have e:=t.new a ha
   cases e':H a with
   | none=>rfl
   | some o=>exact absurd e (k1.dom a (by rw [e'];simp))),t.ndj⟩
theorem qgx (hq:tE M (zxv f g) (vs++vs') σ H Q):qjm (tE M f vs) (tE M g vs') σ H Q:=by
 obtain ⟨ρ,fps,rep,q⟩:=hq
 refine ⟨ρ,fps,rep,?_⟩
 unfold zxv at q
 cases ef:f ρ with
 | no=>rw [ef] at q;exact q
 | exc c=>rw [ef] at q;exact q
 | ok p=>
  obtain ⟨x,d,ρ1⟩:=p
  rw [ef] at q
  intro v H1 fps1 f1 k1 g1 rep1 o1 t1
  dsimp only [Rz.bind] at q
  cases x with
  | bl b=>
   rw [Own] at o1
   refine ⟨b,o1.1,?_⟩
   cases b with
   | true=>exact qa4 k1 g1 rep1 (λ i hi=>ja2 _ hi) q
   | false=>exact q (.bl false) H1 fps1 [] k1 g1 rep1 (by rw [Own];exact ⟨rfl,rfl⟩) ⟨λ _ z=>(nomatch z),λ _ z=>nomatch z⟩
  | _=>exact q.elim
theorem qjk (hq:tE M (bOrV f g) (vs++vs') σ H Q):tOrV (tE M f vs) (tE M g vs') σ H Q:=by
 obtain ⟨ρ,fps,rep,q⟩:=hq
 refine ⟨ρ,fps,rep,?_⟩
 unfold bOrV at q
 cases ef:f ρ with
 | no=>rw [ef] at q;exact q
 | exc c=>rw [ef] at q;exact q
 | ok p=>
  obtain ⟨x,d,ρ1⟩:=p
  rw [ef] at q
  intro v H1 fps1 f1 k1 g1 rep1 o1 t1
  dsimp only [Rz.bind] at q
  cases x with
  | bl b=>
   rw [Own] at o1
   refine ⟨b,o1.1,?_⟩
   cases b with
   | false=>exact qa4 k1 g1 rep1 (λ i hi=>ja2 _ hi) q
   | true=>exact q (.bl true) H1 fps1 [] k1 g1 rep1 (by rw [Own];exact ⟨rfl,rfl⟩) ⟨λ _ z=>(nomatch z),λ _ z=>nomatch z⟩
  | _=>exact q.elim
theorem qgv (hq:tE M (bUn zqw f) vs σ H Q):qjh (tE M f vs) σ H Q:=by
 refine zhz (r:=λ x H1 Q=>∃ c,x=.bl c/\Q (.bl (!c)) H1) (λ x d z c v H fps f1 Q ho o1 nz zd lf=>?_) hq
 cases x with
 | bl b=>cases ho;rw [Own] at o1;exact ⟨b,o1.1,zxo lf⟩
 | _=>cases ho
end
def bMet (op:Str->PV->Nat->Option (PV×Nat)) (f g:Fx):Fx:=λ ρ=>(f ρ).bind λ (x,_,ρ1)=>match x with
 | .str z=>(g ρ1).bind λ (y,e,ρ2)=>match op z y e with
  | some (r,c)=>.ok (r,c,ρ2)
  | none=>.no
 | _=>.no
section
variable {X:Cx}{M:Fm}{f g:Fx}{vs vs':List Nat}{σ:St}{H:Hp}{Q:VK}
theorem qfj {op:Str->PV->Nat->Option (PV×Nat)}{r:V->List V->Hp->VK->Prop}
  (leaf:∀ z y d u c w H fps f1 Q,op z y d=some (u,c)->Own M.K H (Zt M vs' fps f1) y d w f1->(∀ a∈f1,¬ Zf M fps a)->(∀ a,Zf M fps a->H a≠none)->Leaf M H fps vs' f1 u c Q->r (.str z) [w] H Q)
  (hq:tE M (bMet op f g) (vs++vs') σ H Q):tBM M.K "str" r (tE M f vs) (qa5 (tE M g vs') tNil) σ H Q:=by
 obtain ⟨ρ,fps,rep,q⟩:=hq
 refine ⟨ρ,fps,rep,?_⟩
 unfold bMet at q
 cases ef:f ρ with
 | no=>rw [ef] at q;exact q
 | exc c=>rw [ef] at q;exact q
 | ok p=>
  obtain ⟨x,d,ρ1⟩:=p
  rw [ef] at q
  intro v H1 fps1 f1 k1 g1 rep1 o1 t1
  dsimp only [Rz.bind] at q
  cases x with
  | str z=>
   rw [Own] at o1
   obtain ⟨rfl,_⟩:=o1
   refine ⟨rfl,?_⟩
   have un:tE M (bUn (op z) g) vs' σ H1 Q:=by
    refine ⟨ρ1,fps1,rep1,?_⟩
    unfold bUn
    cases eg:g ρ1 with
    | no=>rw [eg] at q;exact q
    | exc c=>rw [eg] at q;exact λ H' fps' k=>q H' fps' (k1.trans k)
    | ok p2=>
     obtain ⟨y,e,ρ2⟩:=p2
     rw [eg] at q
     dsimp only [Rz.bind] at q ⊢
     cases eo:op z y e with
     | none=>rw [eo] at q;exact q
     | some uc=>
      obtain ⟨u,c⟩:=uc
      rw [eo] at q
      dsimp only at q ⊢
      exact λ w H2 fps2 fp k2 g2 rep2 o2 t2=>q w H2 fps2 fp (k1.trans k2) (g1.trans g2) rep2 (o2.weak λ a h=>Zt.mono (λ i hi=>ja2 _ hi) h) ⟨λ a ha=>by
       cases e':H a with
       | none=>rfl
       | some o=>exact absurd (t2.new a ha) (k1.dom a (by rw [e'];simp)),t2.ndj⟩
   exact zhz (r:=λ w H2 Q=>r (.str z) [w] H2 Q) (λ y d u c w H fps f1 Q ho o nz zd lf=>leaf z y d u c w H fps f1 Q ho o nz zd lf) un
  | _=>exact q.elim
end
def zpo:List PV->Option (List Str)
 | []=>some []
 | .str x::r=>(zpo r).map (x::·)
 | _=>none
theorem zje {K:Frag}{H:Hp}{Z:Addr->Prop}:∀ {xs:List PV}{ws:List V}{d:Nat}{fp:List Addr}{zs:List Str},zpo xs=some zs->OwnL K H Z xs d ws fp->ws=zs.map V.str
 | [],ws,d,fp,zs,e,h=>by cases e;rw [OwnL] at h;exact h.1
 | x::r,ws,d,fp,zs,e,h=>by
  cases x with
  | str z=>
   obtain ⟨k',e1,rfl⟩:=ja7.mp e
   rw [OwnL] at h
   obtain ⟨v,s,f1,f2,rfl,ef,dj,h1,h2⟩:=h
   rw [Own] at h1
   rw [h1.1,zje e1 h2]
   rfl
  | _=>cases e
theorem zjd:∀ {zs:List Str}{its:List va0},Vals (zs.map V.str) its->∃ l:List (Str×Tok),its=strValues l/\l.map (·.1)=zs
 | [],its,h=>by cases h;exact ⟨[],rfl,rfl⟩
 | z::zs,its,h=>by
  cases h with
  | cons r rr=>
   obtain ⟨t,rfl⟩:=r
   obtain ⟨l,rfl,rfl⟩:=zjd rr
   exact ⟨(z,t)::l,rfl,rfl⟩
theorem zpk:∀ (l:List (Str×Tok)),Vals ((l.map (·.1)).map V.str) (strValues l)
 | []=>.nil
 | (_,t)::l=>.cons ⟨t,rfl⟩ (zpk l)
def ql9 (K:Frag):V->List V->Hp->VK->Prop:=λ x vs H Q=>∃ z q zs,x=.str z/\vs=[.ref q]/\SqL K H q (zs.map V.str)/\JoinOk z zs=true/\Q (.str (vd2 z zs)) H
theorem qht {X:Cx}:MtR X "str.join" (ql9 X.K):=by
 intro pins s σ H x vs v us Q I rx rv h
 obtain ⟨z,a,zs,rfl,rfl,hs,hj,q⟩:=h
 obtain ⟨t,rfl⟩:=rx
 obtain ⟨u,rfl,ru⟩:=zvf rv
 cases ru
 obtain ⟨its,rv2,pl,hz⟩:=I.list hs
 obtain ⟨l,rfl,hl⟩:=zjd rv2
 exact SC.join pl.isList hl hj λ t' k=>⟨.str _,H,I.tok _,⟨t',rfl⟩,q⟩
def zyi (z:Str) (y:PV) (_:Nat):Option (PV×Nat):=match y with
 | .lst xs=>(match zpo xs with
  | some zs=>if JoinOk z zs=true then some (.str (vd2 z zs),om) else none
  | none=>none)
 | _=>none
def qj6:V->List V->Hp->VK->Prop:=λ x vs H Q=>∃ z y,x=.str z/\vs=[.str y]/\(y.length == 0)=false/\z.length<=va2/\(vg1 z (vd1 z y 0 z.length (z.length + 1)) y.length).length<=va2/\(vc8 z y).length<=va2/\∀ l,H l=none->Q (.ref l) (upd H l (.lst ((vc8 z y).map V.str)))
theorem qef {X:Cx}:MtR X "str.split" qj6:=by
 intro pins s σ H x vs v us Q I rx rv h
 obtain ⟨z,y,rfl,rfl,hy,hz,hz2,hz3,q⟩:=h
 obtain ⟨t,rfl⟩:=rx
 obtain ⟨w,rfl,rw'⟩:=zvf rv
 obtain ⟨u,rfl⟩:=rw'
 have fin:∀ (l:List (Str×Tok)) (tk:Nat),l.map (·.1)=vc8 z y->EP X pins σ Q (.ref s.heap.objs.size) { s with heap:=s.heap.push { cls:=.type "list",data:=.seq (strValues l).toArray },toks:=tk }:=λ l tk e=>by
  have hv:=zpk l
  rw [e] at hv
  exact ⟨.ref _,_,I.lnew (t':=tk) hv (by rw [ja6];exact hz3),rfl,q _ I.fresh⟩
 cases h1:(decide (z.length < y.length) || decide (Builtin.Str.strKind z < Builtin.Str.strKind y)) with
 | true=>exact vh1 vj8 (vh0 s z t) vj4 (vi4 _ _) (meets_str_split_cannot_occur z y t u h1) (fin [(z,t)] s.toks (if_pos h1).symm)
 | false=>
  cases hf:(vd1 z y 0 z.length (z.length + 1)).isEmpty with
  | true=>exact vh1 vj8 (vh0 s z t) vj4 (vi4 _ _) (meets_str_split_not_found z y t u h1 hy hf) (fin [(z,t)] s.toks ((if_neg (ne_true_of_eq_false h1)).trans (if_pos hf)).symm)
  | false=>
   refine vh1 vj8 (vh0 s z t) vj4 (vi4 _ _) (meets_str_split_sep z y t u h1 hy hf hz hz2) ?_
   have f2:=fin (numbered s.toks (vg1 z (vd1 z y 0 z.length (z.length + 1)) y.length))
   rw [<- strsFrom_eq] at f2
   exact f2 _ ((numbered_texts _ _).trans ((if_neg (ne_true_of_eq_false h1)).trans (if_neg (ne_true_of_eq_false hf))).symm)
def zwt (z:Str) (y:PV) (_:Nat):Option (PV×Nat):=match y with
 | .str y=>if (y.length == 0)=false/\z.length<=va2/\(vg1 z (vd1 z y 0 z.length (z.length + 1)) y.length).length<=va2/\(vc8 z y).length<=va2 then some (.lst ((vc8 z y).map PV.str),om) else none
 | _=>none
theorem qa8:∀ zs:List Str,zpf (zs.map PV.str)=true
 | []=>rfl
 | z::r=>by rw [jc1];unfold zpf;rw [qa8 r];rfl
theorem qid (zs:List Str):d1 (zs.map PV.str)=om:=by unfold d1;rw [if_pos (qa8 zs)]
theorem zgm {K:Frag}{H:Hp}{Z:Addr->Prop}:∀ (zs:List Str),OwnL K H Z (zs.map PV.str) 0 (zs.map V.str) []
 | []=>by rw [jg0,jg0,OwnL];exact ⟨rfl,rfl⟩
 | z::r=>by
  rw [jc1,jc1,OwnL]
  exact ⟨_,_,[],[],rfl,rfl,λ _ z=>(nomatch z),by rw [Own];exact ⟨rfl,rfl⟩,zgm r⟩
section
variable {X:Cx}{M:Fm}{f g:Fx}{vs vs':List Nat}{o e:Expr}{apos cpos:Pos}
theorem qg6 (hK:M.K=X.K) (ho:PE X o (tE M f vs)) (he:PE X e (tE M g vs')) (hb:vi1 o "join" X.env (eval o X.env)=eval o X.env) (hs:va3 [e] X.env=[(false,eval e X.env)]) (hf:((vd6 cpos (va3 [e] X.env)).all (λ x=>!x.1) && (backToKw cpos (vk2 [] X.env)).all (λ x=>x.1.isSome) && decide (([e]:List Expr).length + ([]:List vh6).length + (if ([]:List vh6).isEmpty then 0 else 1) < 30))=true) (hl:(apos.endLine == cpos.line)=true):
  PE X (.Call (.Attribute o "join" apos) [e] [] cpos) (tE M (bMet zyi f g) (vs++vs')):=by
 refine zqk (qd9 PySem.F.plainAttrs_str PySem.F.slot_str_join PySem.F.type_str_join qht ho (zxr he zzu hs) hb hf hl hs rfl) λ σ H Q h=>?_
 rw [<- hK]
 refine qfj (λ z y d u c w H fps f1 Q hop o1 nz zd lf=>?_) h
 unfold zyi at hop
 split at hop
 ·rename_i xs
  split at hop
  ·rename_i zs hz
   split at hop
   ·rename_i hj
    cases hop
    obtain ⟨p,ws,rfl,hp,ol⟩:=(cold o1 nz).coldL
    have:=zje hz ol
    subst this
    exact ⟨z,p,zs,rfl,rfl,.inl (.inl hp),hj,zzs lf⟩
   ·cases hop
  ·cases hop
 ·cases hop
theorem qdv (hK:M.K=X.K) (ho:PE X o (tE M f vs)) (he:PE X e (tE M g vs')) (hb:vi1 o "split" X.env (eval o X.env)=eval o X.env) (hs:va3 [e] X.env=[(false,eval e X.env)]) (hf:((vd6 cpos (va3 [e] X.env)).all (λ x=>!x.1) && (backToKw cpos (vk2 [] X.env)).all (λ x=>x.1.isSome) && decide (([e]:List Expr).length + ([]:List vh6).length + (if ([]:List vh6).isEmpty then 0 else 1) < 30))=true) (hl:(apos.endLine == cpos.line)=true):
  PE X (.Call (.Attribute o "split" apos) [e] [] cpos) (tE M (bMet zwt f g) (vs++vs')):=by
 refine zqk (qd9 PySem.F.plainAttrs_str PySem.F.slot_str_split PySem.F.type_str_split qef ho (zxr he zzu hs) hb hf hl hs rfl) λ σ H Q h=>?_
 rw [<- hK]
 refine qfj (λ z y d u c w H fps f1 Q hop o1 nz zd lf=>?_) h
 unfold zwt at hop
 split at hop
 ·rename_i y0
  split at hop
  ·rename_i hc
   cases hop
   rw [Own] at o1
   obtain ⟨rfl,_⟩:=o1
   refine ⟨z,y0,rfl,rfl,hc.1,hc.2.1,hc.2.2.1,hc.2.2.2,λ l hl=>?_⟩
   have lf':Leaf M H fps vs' f1 (.lst ((vc8 z y0).map PV.str)) (d1 ((vc8 z y0).map PV.str)) Q:=by rw [qid];exact lf
   exact zxy lf' (zgm _) hl
  ·cases hop
 ·cases hop
end
abbrev D2:=Fx×List Nat
def zjc (d:Expr->Option D2):List Expr->Option (Fa×List Nat)
 | []=>some (aNil,[])
 | e::es=>match d e,zjc d es with
  | some (f,v),some (fa,u)=>some (zqa f fa,v++u)
  | _,_=>none
def zhj (d:Expr->Option D2):List Expr->Option D2
 | []=>none
 | [e]=>d e
 | e::es=>match d e,zhj d es with
  | some (f,v),some (g,u)=>some (zxv f g,v++u)
  | _,_=>none
def qeu (d:Expr->Option D2):List Expr->Option D2
 | []=>none
 | [e]=>d e
 | e::es=>match d e,qeu d es with
  | some (f,v),some (g,u)=>some (bOrV f g,v++u)
  | _,_=>none
def denC:Const->Option D2
 | .int i=>some (bC (.int i),[])
 | .bool b=>some (bC (.bl b),[])
 | .none=>some (bC .non,[])
 | .str x=>some (bC (.str x),[])
 | _=>none
def tyOf (x:Str):Option String:=if x = "int" then some "int" else if x = "bool" then some "bool" else if x = "str" then some "str" else if x = "list" then some "list" else if x = "tuple" then some "tuple" else if x = "dict" then some "dict" else none
def qin (x:Str):Option (List (PV×Nat)->Option (PV×Nat)):=
 if x = "len" then some zxd else if x = "all" then some zke else if x = "max" then some zja else if x = "min" then some zkd else if x = "sum" then some qhr
 else if x = "tuple" then some qbz else if x = "list" then some zkl else if x = "int" then some zjm else if x = "str" then some zko else none
def zxk (scope sc:vd0):vd0:={ scope with names:=scope.names.map λ (n,k)=>if (k == .free && sc.kind == .function && sc.names.lookup n == some .cell) then (n,.cell) else (n,k) }
def junk (i:Nat):Str:=⟨#[2000000 + i]⟩
def zmn (sc':vd0):Nat->List Str->List Str
 | _,[]=>[]
 | i,x::r=>(if zwc sc' x .cell || zwc sc' x .free then x else junk i)::zmn sc' (i + 1) r
def zbp:List Expr->Option (List Str)
 | []=>some []
 | .Name x _::r=>(zbp r).map (x::·)
 | _=>none
def tgA (n:Nat):Expr->Option (List Str×(PV->Rho->Option Rho))
 | .Name x _=>some ([x],asgN n)
 | .Tuple es _ _=>(zbp es).map λ xs=>(xs,asgT (ji5 n xs.length))
 | _=>none
def isTg:Expr->Bool
 | .Tuple _ _ _=>true
 | _=>false
def zqs (S:Sx) (scope:vd0) (xs:List Str) (vI:List Nat):Sx:=⟨zmn (zxk scope S.sc) 0 S.N++xs,zxk scope S.sc,S.ms,(jc6 S.N.length).map S.alF++ja9 xs.length vI,S.Γ,S.Γm,false,S.xc,S.pn⟩
def zpa (S:Sx) (scope:vd0) (xs:List Str) (vI:List Nat):Bool:=
 let S':=zqs S scope xs vI
 decide (scope.kind=.function) && scope.names.all (λ x=>x.2 != .free || !(scope.names.contains (x.1,.cell))) && scope.names.all (λ x=>x.2 != .local || scope.names.lookup x.1 == some .local)
 && scope.names.all (λ x=>x.2 != .free || (S.sc.names.lookup x.1 == some .cell || S.sc.names.lookup x.1 == some .free))
 && (jc6 S.N.length).all (λ i=>match S'.N[i]? with
  | some x=>!visB S'.sc x || (decide (S.N[i]?=some x) && visB S.sc x && scope.names.contains (x,.free) && !zwc S'.sc x .local)
  | none=>true)
 && decide S'.N.Nodup && xs.all (λ x=>zwc S'.sc x .local || (zwc S'.sc x .cell && scope.names.contains (x,.cell))) && decide (S.N.length≠0) && (S.ms.all λ i=>decide (i < S.N.length))
inductive Iw where
 | rng (en:List (PV×Nat)->Option (Int×Int)) (fa:Fa) (vs:List Nat)
 | seq (f:Fx) (vs:List Nat)
 | vw (v:Vw) (fa:Fa) (vs:List Nat)
def Iw.vs:Iw->List Nat
 | .rng _ _ _=>[]
 | .seq _ vs=>vs
 | .vw _ _ vs=>vs
def twOk (tg:Expr):Iw->Bool
 | .vw .enm _ _=>isTg tg
 | .vw .zp _ _=>isTg tg
 | _=>true
def denI (d:Expr->Option D2) (S:Sx) (it:Expr):Option Iw:=match it with
 | .Call (.Name x _) [a] [] _=>if x = "range" /\ S.glob "range" = true then (match zjc d [a] with
   | some (fa,vs)=>some (.rng zxa fa vs)
   | none=>none) else (match d it with
   | some (f,vs)=>some (.seq f vs)
   | none=>none)
 | .Call (.Name x _) [a,b] [] _=>if x = "range" /\ S.glob "range" = true then (match zjc d [a,b] with
   | some (fa,vs)=>some (.rng zyt fa vs)
   | none=>none) else (match d it with
   | some (f,vs)=>some (.seq f vs)
   | none=>none)
 | _=>match d it with
   | some (f,vs)=>some (.seq f vs)
   | none=>none
def qdd (iw:Iw) (k:Nat) (asg:PV->Rho->Option Rho) (test:Fb) (elt:Fx):Fx:=match iw with
 | .rng en fa _=>zxi en fa k asg test elt
 | .seq f _=>zqy f k asg test elt
 | .vw v fa _=>qlv v fa k asg test elt
def zxn:Fb:=λ ρ=>.ok (true,ρ)
def zhi (d:Expr->Option D2):List Expr->Option Fb
 | []=>some zxn
 | [c]=>(d c).map λ p=>bT p.1
 | _=>none
def bMs (j:Nat) (i:Int):Fx:=λ ρ=>match ρ[j]? with
 | some (some (.lst xs,_))=>(match atI xs i with
  | some z=>if zzy z=true then .ok (z,om,ρ) else .no
  | none=>.no)
 | _=>.no
def qf2:Expr->Bool
 | .UnaryOp .USub c _=>(match c with
  | .Constant k _ _=>(match k with
   | .int i=>i == 1
   | _=>false)
  | _=>false)
 | _=>false
theorem qla {e:Expr} (h:qf2 e=true):∃ k p3 p4,e=.UnaryOp .USub (.Constant (.int 1) k p3) p4:=by
 unfold qf2 at h
 split at h
 ·split at h
  ·split at h
   ·rename_i i
    have:i=1:=eq_of_beq h
    subst this
    exact ⟨_,_,_,rfl⟩
   ·cases h
  ·cases h
 ·cases h
def nmE:Expr->Option Str
 | .Name x _=>some x
 | _=>none
theorem zyk {e:Expr}{x:Str} (h:nmE e=some x):∃ p,e=.Name x p:=by
 cases e <;> first | (cases h;exact ⟨_,rfl⟩) | (cases h)
def ixC:Expr->Option Int
 | .Constant c _ _=>(match c with
  | .int i=>some i
  | _=>none)
 | _=>none
theorem qf0 {e:Expr}{i:Int} (h:ixC e=some i):∃ k p,e=.Constant (.int i) k p:=by
 unfold ixC at h
 split at h
 ·split at h
  ·cases h;exact ⟨_,_,rfl⟩
  ·cases h
 ·cases h
def qf5 (d:Sx->Expr->Option D2) (S:Sx) (a:Expr):Option Expr->Option Expr->Option Expr->Option D2
 | none,some hi,none=>match d S a,d S hi with
  | some (f,v),some (g,_)=>some (bSl f none (some g),v)
  | _,_=>none
 | some lo,none,none=>match d S a,d S lo with
  | some (f,v),some (g,_)=>some (bSl f (some g) none,v)
  | _,_=>none
 | some lo,some hi,none=>match d S a,d S lo,d S hi with
  | some (f,v),some (g,_),some (h,_)=>some (bSl f (some g) (some h),v)
  | _,_,_=>none
 | _,_,_=>none
def qf4 (d:Sx->Expr->Option D2) (S:Sx) (a b:Expr):Option D2:=match b with
 | .Slice lo hi st _=>qf5 d S a lo hi st
 | b=>match nmE a,ixC b with
  | some x,some i=>(match S.slot x with
   | some j=>if S.msF j=true then some (bMs j i,[]) else some (bBin zqc (bVar j) (bC (.int i)),(j::S.alF j)++[])
   | none=>none)
  | _,_=>match d S a,d S b with
   | some (f,v),some (g,u)=>if zva b=true then some (bBin zqc f g,v++u) else none
   | _,_=>none
def qey (S:Sx) (T:Str):Option Nat:=if S.glob T=true/\S.xc≠[] then (if T = "ValueError" then some 0 else match XN.findIdx? (·== T) with
 | some c=>if S.xc.contains c=true then some c else none
 | none=>none) else none
def zho (S:Sx):List Expr->Option (List Nat)
 | []=>some []
 | e::r=>match nmE e,zho S r with
  | some T,some ds=>(qey S T).map (·::ds)
  | _,_=>none
def qf9 (d:Expr->Option D2) (S:Sx) (e c:Expr):Option D2:=match d e with
 | some (f,v)=>if S.glob "isinstance" = true then (match c with
  | .Name T _=>(match tyOf T with
   | some t=>if S.glob T=true then some (bUn (zqn t) f,v) else none
   | none=>(qey S T).map λ n=>(bUn (zjl [n]) f,v))
  | .Tuple es _ _=>if es.length<=100/\es≠[] then (zho S es).map λ ns=>(bUn (zjl ns) f,v) else none
  | _=>none) else none
 | none=>none
def denK (S:Sx) (x:Str):Option D2:=match CN.findIdx? (λ p=>p.1 == x) with
 | some k=>if S.xc.contains (50 + k)=true/\S.glob x=true then (CN[k]?).map λ p=>(bC p.2,[]) else none
 | none=>none
def qlu:Expr->Bool
 | .Name _ _=>true
 | .Constant _ _ _=>true
 | _=>false
def qf8 (d:Expr->Option D2) (o e:Expr) (at':Str) (ok:Bool):Option D2:=match d o,d e with
 | some (f,v),some (g,u)=>if qlu o=true/\ok=true then (if at' = "join" then some (bMet zyi f g,v++u) else if at' = "split" then some (bMet zwt f g,v++u) else none) else none
 | _,_=>none
def zzd (d:Sx->Expr->Option D2) (S:Sx):Expr->Option D2
 | .Constant c _ _=>denC c
 | .Name x _=>match S.slot x with
  | some i=>if S.msF i=true then none else some (bVar i,i::S.alF i)
  | none=>denK S x
 | .BinOp a op b _=>match d S a,d S b,qlt b op with
  | some (f,v),some (g,u),some o=>some (bBin o f g,v++u)
  | _,_,_=>none
 | .UnaryOp .USub a _=>match d S a with
  | some (f,v)=>some (bUn zzg f,v)
  | none=>none
 | .UnaryOp .Not a _=>match d S a with
  | some (f,v)=>some (bUn zqw f,v)
  | none=>none
 | .BoolOp .And es _=>zhj (d S) es
 | .BoolOp .Or es _=>qeu (d S) es
 | .Compare a [op] [b] _=>match d S a,d S b,qii b op with
  | some (f,v),some (g,u),some o=>some (bBin o f g,v++u)
  | _,_,_=>none
 | .Compare a [op,op'] [b,c] _=>match d S a,d S b,d S c,icmp op,icmp op' with
  | some (f,_),some (g,_),some (h,_),some p,some q=>some (zvt p q f g h,[])
  | _,_,_,_,_=>none
 | .List es _=>match zjc (d S) es with
  | some (fa,v)=>some (zqd zxx fa,v)
  | none=>none
 | .Tuple es _ _=>match zjc (d S) es with
  | some (fa,v)=>some (zqd zvl fa,v)
  | none=>none
 | .Subscript a b _=>qf4 d S a b
 | .Call (.Name x _) args [] _=>
  if x = "isinstance" then (match args with
   | [e,c]=>qf9 (d S) S e c
   | _=>none)
  else match qin x with
  | some o=>(match args with
   | e::es=>(match zjc (d S) (e::es) with
    | some (fa,v)=>if S.glob x=true then some (zqd o fa,v) else none
    | none=>none)
   | []=>none)
  | none=>match S.Γ.lookup x with
   | some (false,_,F)=>(match args with
    | e::es=>(match zjc (d S) (e::es) with
     | some (fa,v)=>if S.glob x=true then some (zqi F fa,v) else none
     | none=>none)
    | []=>none)
   | some (true,_,F)=>none
   | none=>none
 | .Call (.Attribute o at' apos) [e] [] cpos=>qf8 (d S) o e at' (apos.endLine == cpos.line)
 | .ListComp elt [⟨tg,it,ifs,0⟩] scope _=>match tgA S.N.length tg,denI (d S) S it with
  | some (xs,asg),some iw=>if zpa S scope xs iw.vs=true/\twOk tg iw=true then (match zhi (d (zqs S scope xs iw.vs)) ifs,d (zqs S scope xs iw.vs) elt with
   | some t,some (g,vE)=>some (qdd iw xs.length asg t g,iw.vs++vE.filter (λ i=>decide (i < S.N.length)))
   | _,_=>none) else none
  | _,_=>none
 | _=>none
def den:Nat->Sx->Expr->Option D2
 | 0,_,_=>none
 | n + 1,S,e=>zzd (den n) S e
section
variable {X:Cx}{P:va8}{w:vb6}{K:Frag}{mg:Str->Option va0}{base:Heap}{lvl:Nat}{S:Sx}{Wx:St->Nat->Hp->Prop}{M:Fm}{f g:Fx}{vs vs':List Nat}{σ:St}{H:Hp}{Q:VK}
theorem qgl {Q:Bool->Hp->Prop} (hq:tT M (bT (zxv f g)) σ H Q):tAnd (tT M (bT f)) (tT M (bT g)) σ H Q:=by
 refine qi8 ?_
 have e:bT (zxv f g)=bAnd (bT f) (bT g):=by
  funext ρ
  unfold bT zxv bAnd
  dsimp only
  cases f ρ with
  | no=>rfl
  | exc c=>rfl
  | ok p=>
   obtain ⟨x,d,ρ1⟩:=p
   cases x with
   | bl b=>cases b <;> rfl
   | _=>rfl
 rw [<- e];exact hq
theorem qi6 {Q:Bool->Hp->Prop} (hq:tT M (bT (bOrV f g)) σ H Q):tOr (tT M (bT f)) (tT M (bT g)) σ H Q:=by
 refine ql2 ?_
 have e:bT (bOrV f g)=bOr (bT f) (bT g):=by
  funext ρ
  unfold bT bOrV bOr
  dsimp only
  cases f ρ with
  | no=>rfl
  | exc c=>rfl
  | ok p=>
   obtain ⟨x,d,ρ1⟩:=p
   cases x with
   | bl b=>cases b <;> rfl
   | _=>rfl
 rw [<- e];exact hq
theorem qgj {Q:Bool->Hp->Prop} (hq:tT M (bT (bUn zqw f)) σ H Q):tNot (tT M (bT f)) σ H Q:=by
 refine qi7 ?_
 have e:bT (bUn zqw f)=bNot (bT f):=by
  funext ρ
  unfold bT bUn bNot
  dsimp only
  cases f ρ with
  | no=>rfl
  | exc c=>rfl
  | ok p=>
   obtain ⟨x,d,ρ1⟩:=p
   cases x with
   | bl b=>cases b <;> rfl
   | _=>rfl
 rw [<- e];exact hq
theorem OwnL.getAny {K:Frag}{Z:Addr->Prop}:∀ {xs:List PV}{d:Nat}{ws:List V}{fp:List Addr}{i:Nat}{x:PV},OwnL K H Z xs d ws fp->xs[i]?=some x->∃ u f',ws[i]?=some u/\Own K H Z x d u f'
 | [],d,ws,fp,i,x,h,e=>by simp at e
 | y::xs,d,ws,fp,i,x,h,e=>by
  rw [OwnL] at h
  obtain ⟨v,s,f1,f2,rfl,ef,_,o1,o2⟩:=h
  cases i with
  | zero=>simp at e;subst e;exact ⟨v,f1,by simp,o1⟩
  | succ i=>obtain ⟨u,f',e1,e2⟩:=o2.getAny (i:=i) (x:=x) (by simpa using e);exact ⟨u,f',by simpa using e1,e2⟩
theorem ql6 {x:Str}{j:Nat}{i:Int}{p0 p1 pos:Pos}{k:Nat} (xs:XS X P w K mg base lvl S Wx) (h:S.slot x=some j) (hK:M.K=X.K):PE X (.Subscript (.Name x p0) (.Constant (.int i) k p1) pos) (tE M (bMs j i) []):=by
 refine zqk (qbs zbt (xs.var h) zgl λ _ _=>rfl) λ σ H Q hq=>?_
 obtain ⟨ρ,fps,rep,q⟩:=hq
 unfold bMs at q
 cases e0:ρ[j]? with
 | none=>rw [e0] at q;exact q.elim
 | some s0=>
  rw [e0] at q
  cases s0 with
  | none=>exact q.elim
  | some p=>
   obtain ⟨z,d⟩:=p
   obtain ⟨v,hσ,o⟩:=rep.own j _ _ e0
   cases z with
   | lst ys=>
    dsimp only at q
    cases ea:atI ys i with
    | none=>rw [ea] at q;exact q.elim
    | some z=>
     rw [ea] at q
     dsimp only at q
     by_cases hz:zzy z=true
     ·rw [if_pos hz] at q
      have nx:∃ a ws d' f',v=.ref a/\H a=some (.lst ws)/\OwnL M.K H (Za M fps j) ys d' ws f':=by
       rw [Own] at o
       obtain ⟨a,ws,e,⟨_,hr,_,ol⟩ | ⟨_,f',ha,_,_,ol⟩⟩:=o
       ·exact ⟨a,ws,_,_,e,hr.1,ol⟩
       ·exact ⟨a,ws,_,_,e,ha,ol⟩
      obtain ⟨a,ws,d',f',rfl,ha,ol⟩:=nx
      have hw:∃ u f'',atI ws i=some u/\Own M.K H (Za M fps j) z d' u f'':=by
       unfold atI at ea ⊢
       rw [ol.length]
       cases ej:ixN ys.length i with
       | none=>rw [ej] at ea;cases ea
       | some m=>rw [ej] at ea;exact ol.getAny ea
      obtain ⟨u,f'',eu,ou⟩:=hw
      refine ⟨_,hσ,a,ws,i,u,rfl,rfl,.inl (.inl ha),eu,q u H fps [] KD.refl Agr.refl rep (Own.atom hz ou).2 ⟨λ _ z=>(nomatch z),λ _ z=>nomatch z⟩⟩
     ·rw [if_neg hz] at q;exact q.elim
   | _=>exact q.elim
def Good (P:va8) (w:vb6) (K:Frag) (mg:Str->Option va0) (base:Heap) (lvl:Nat) (S:Sx) (e:Expr) (f:Fx) (vs:List Nat):Prop:=
 (∀ i∈vs,S.msF i=false)/\zyj e=true/\∀ {Wx} X M,XS X P w K mg base lvl S Wx->MS M K S Wx->PE X e (tE M f vs)/\PT X e (tT M (bT f))
theorem MS.v (m:MS M K S Wx) (h:∀ i∈vs,S.msF i=false):∀ i∈vs,M.Ms i=false:=λ i hi=>by rw [m.ms];exact h i hi
theorem MS.k (m:MS M K S Wx) (xs:XS X P w K mg base lvl S Wx):M.K=X.K:=m.K.trans xs.K.symm
theorem zqq {e:Expr} (h1:∀ i∈vs,S.msF i=false) (h2:zyj e=true) (h3:∀ env whole,isTrue e env whole=(do let v<-whole;standAt e.pos;holding [v] (truthy v)))
  (h:∀ {Wx} X M,XS X P w K mg base lvl S Wx->MS M K S Wx->PE X e (tE M f vs)):Good P w K mg base lvl S e f vs:=
 ⟨h1,h2,λ X M xs m=>⟨h X M xs m,zpw (qka (h X M xs m) λ wh=>h3 _ wh) λ σ H Q q=>qay q⟩⟩
theorem zqx {vs vs':List Nat} (h1:∀ i∈vs,S.msF i=false) (h2:∀ i∈vs',S.msF i=false):∀ i∈vs++vs',S.msF i=false:=λ i hi=>(jc0.mp hi).elim (h1 i) (h2 i)
theorem qen {a b:Expr}{op:vl0}{o:PV->Nat->PV->Nat->Option (PV×Nat)}{pos:Pos} (ho:qii b op=some o) (ga:Good P w K mg base lvl S a f vs) (gb:Good P w K mg base lvl S b g vs'):Good P w K mg base lvl S (.Compare a [op] [b] pos) (bBin o f g) (vs++vs'):=by
 refine ⟨zqx ga.1 gb.1,rfl,λ X M xs m=>?_⟩
 obtain ⟨r,hr,hn,hi⟩:=qex (X:=X) (M:=M) (f:=f) (g:=g) (vs:=vs) (vs':=vs') ho xs.room.units (m.v ga.1) (m.k xs)
 have ha:=(ga.2.2 X M xs m).1
 have hb:=(gb.2.2 X M xs m).1
 exact ⟨zqk (qhk hr ha hb hn) hi,zpw (qhh hr ha hb hn) λ σ H Q q=>hi σ H _ (qay q)⟩
theorem qao {a b c:Expr}{op op':vl0}{p q:Int->Int->Bool}{h:Fx}{v3:List Nat}{pos:Pos} (h1:icmp op=some p) (h2:icmp op'=some q) (ga:Good P w K mg base lvl S a f vs) (gb:Good P w K mg base lvl S b g vs') (gc:Good P w K mg base lvl S c h v3):Good P w K mg base lvl S (.Compare a [op,op'] [b,c] pos) (zvt p q f g h) []:=by
 refine ⟨λ _ z=>(nomatch z),rfl,λ X M xs m=>?_⟩
 have r1:=zmm (X:=X) h1
 have r2:=zmm (X:=X) h2
 have ha:=(ga.2.2 X M xs m).1
 have hb:=(gb.2.2 X M xs m).1
 have hc:=(gc.2.2 X M xs m).1
 exact ⟨zqk (qd7 r1.1 r2.1 ha hb hc (zwr _ r2.2.1 r2.2.2)) λ σ H Q q=>zga q,zpw (qd0 r1.1 r2.1 ha hb hc (zwr _ r2.2.1 r2.2.2)) λ σ H Q q=>zga (vs:=[]) (qay q)⟩
theorem qem {a:Expr}{pos:Pos} (ga:Good P w K mg base lvl S a f vs):Good P w K mg base lvl S (.UnaryOp .Not a pos) (bUn zqw f) vs:=
 ⟨ga.1,rfl,λ X M xs m=>⟨zqk (qkf (ga.2.2 X M xs m).1) λ σ H Q q=>qgv q,zpw (qkb (ga.2.2 X M xs m).2) λ σ H Q q=>qgj q⟩⟩
theorem zms {d:Expr->Option D2} (hd:∀ e f vs,d e=some (f,vs)->Good P w K mg base lvl S e f vs) {pos:Pos}:∀ (es:List Expr) (f:Fx) (vs:List Nat),zhj d es=some (f,vs)->(∀ i∈vs,S.msF i=false)/\∀ {Wx} X M,XS X P w K mg base lvl S Wx->MS M K S Wx->PE X (.BoolOp .And es pos) (tE M f vs)/\PW X (.BoolOp .And es pos) (tT M (bT f))
 | [],f,vs,h=>by cases h
 | [e],f,vs,h=>by
  have g:=hd e f vs h
  exact ⟨g.1,λ X M xs m=>⟨qfr (g.2.2 X M xs m).1,qhe (g.2.2 X M xs m).2⟩⟩
 | e::e'::es,f,vs,h=>by
  unfold zhj at h
  split at h
  ·rename_i f1 v1 f2 v2 h1 h2
   cases h
   have g1:=hd e f1 v1 h1
   have g2:=zms hd (pos:=pos) (e'::es) f2 v2 h2
   exact ⟨zqx g1.1 g2.1,λ X M xs m=>⟨zqk (qkh (g1.2.2 X M xs m).1 (g2.2 X M xs m).1) λ σ H Q q=>qgx q,qfm (qj9 (g1.2.2 X M xs m).2 (g2.2 X M xs m).2) λ σ H Q q=>qgl q⟩⟩
  ·cases h
theorem zhh {d:Expr->Option D2} (hd:∀ e f vs,d e=some (f,vs)->Good P w K mg base lvl S e f vs) {pos:Pos}:∀ (es:List Expr) (f:Fx) (vs:List Nat),qeu d es=some (f,vs)->(∀ i∈vs,S.msF i=false)/\∀ {Wx} X M,XS X P w K mg base lvl S Wx->MS M K S Wx->PE X (.BoolOp .Or es pos) (tE M f vs)/\PW X (.BoolOp .Or es pos) (tT M (bT f))
 | [],f,vs,h=>by cases h
 | [e],f,vs,h=>by
  have g:=hd e f vs h
  exact ⟨g.1,λ X M xs m=>⟨qfr (g.2.2 X M xs m).1,qj8 (g.2.2 X M xs m).2⟩⟩
 | e::e'::es,f,vs,h=>by
  unfold qeu at h
  split at h
  ·rename_i f1 v1 f2 v2 h1 h2
   cases h
   have g1:=hd e f1 v1 h1
   have g2:=zhh hd (pos:=pos) (e'::es) f2 v2 h2
   exact ⟨zqx g1.1 g2.1,λ X M xs m=>⟨zqk (qme (g1.2.2 X M xs m).1 (g2.2 X M xs m).1) λ σ H Q q=>qjk q,qfm (qmb (g1.2.2 X M xs m).2 (g2.2 X M xs m).2) λ σ H Q q=>qi6 q⟩⟩
  ·cases h
theorem zws {d:Expr->Option D2} (hd:∀ e f vs,d e=some (f,vs)->Good P w K mg base lvl S e f vs):∀ (es:List Expr) (fa:Fa) (vs:List Nat),zjc d es=some (fa,vs)->(∀ i∈vs,S.msF i=false)/\es.all zyj=true/\∀ {Wx} X M,XS X P w K mg base lvl S Wx->MS M K S Wx->PA X es (tL M fa vs)
 | [],fa,vs,h=>by cases h;exact ⟨λ _ z=>(nomatch z),rfl,λ X M _ _=>qj0⟩
 | e::es,fa,vs,h=>by
  unfold zjc at h
  split at h
  ·rename_i f1 v1 f2 v2 h1 h2
   cases h
   have g1:=hd e f1 v1 h1
   have g2:=zws hd es f2 v2 h2
   exact ⟨zqx g1.1 g2.1,by rw [jh3,g1.2.1,g2.2.1];rfl,λ X M xs m=>qhb (m.v g1.1) (g1.2.2 X M xs m).1 (g2.2.2 X M xs m) (zqt (zqm g1.2.1))⟩
  ·cases h
theorem zkb (scope:vd0) (env:Env):vi6 scope env=zxk scope env.scope:=rfl
theorem zzz {x:Str}{k:vc6}{sc:vd0}:∀ (l:List (Str×vc6)),(k=.cell\/k=.free)->(l.map λ (n,k)=>if (k == NameKind.free && sc.kind == .function && sc.names.lookup n == some .cell) then (n,NameKind.cell) else (n,k)).lookup x=some k->(x,NameKind.free)∈l\/(x,NameKind.cell)∈l
 | [],_,h=>by simp at h
 | (n,j)::r,hk,h=>by
  rw [jc1] at h
  have ih:=zzz (x:=x) (k:=k) (sc:=sc) r hk
  dsimp only at h
  by_cases hj:(j == NameKind.free && sc.kind == .function && sc.names.lookup n == some .cell)=true
  ·rw [if_pos hj,jd2] at h
   split at h
   ·rename_i hx
    rw [ja5,ja5] at hj
    have e1:x=n:=eq_of_beq hx
    have e2:j=.free:=eq_of_beq hj.1.1
    rw [e1,e2];exact .inl ja1
   ·exact (ih h).imp (ja0 _) (ja0 _)
  ·rw [if_neg hj,jd2] at h
   split at h
   ·rename_i hx
    have e1:x=n:=eq_of_beq hx
    have e2:j=k:=Option.some.inj h
    rcases hk with z | z
    ·rw [e1,e2,z];exact .inr ja1
    ·rw [e1,e2,z];exact .inl ja1
   ·exact (ih h).imp (ja0 _) (ja0 _)
theorem zza (sc':vd0):∀ (N:List Str) (i:Nat),(zmn sc' i N).length=N.length
 | [],_=>rfl
 | x::r,i=>by rw [zmn,jb8,zza sc' r (i + 1),jb8]
structure ChkOk (S:Sx) (scope:vd0) (xs:List Str) (vI:List Nat):Prop where
 kind:scope.kind=.function
 dis:∀ x,(x,NameKind.free)∈scope.names->(x,NameKind.cell)∉scope.names
 names:∀ x∈scope.names,x.2=.local->scope.names.lookup x.1=some .local
 free:∀ x∈scope.names,x.2=.free->S.sc.names.lookup x.1=some .cell\/S.sc.names.lookup x.1=some .free
 capt:∀ (i:Nat) (x:Str),i < S.N.length->(zqs S scope xs vI).N[i]?=some x->Vis (zxk scope S.sc) x->S.N[i]?=some x/\Vis S.sc x/\(x,NameKind.free)∈scope.names/\(zxk scope S.sc).names.lookup x≠some .local
 nd:(zqs S scope xs vI).N.Nodup
 loc:∀ x∈xs,(zxk scope S.sc).names.lookup x=some .local\/((zxk scope S.sc).names.lookup x=some .cell/\(x,NameKind.cell)∈scope.names)
 pos:S.N.length≠0
 ms:∀ i∈S.ms,i < S.N.length
theorem qgg {sc:vd0}{x:Str} (h:Vis sc x):visB sc x=true:=by
 unfold visB zwc
 rcases h with h | h | h <;> rw [h] <;> simp
theorem qgc {scope:vd0}{xs:List Str}{vI:List Nat} (h:zpa S scope xs vI=true):ChkOk S scope xs vI:=by
 unfold zpa at h
 simp only [ja5,decide_eq_true_eq,jc8,bne_iff_ne,ne_eq,jd6] at h
 obtain ⟨⟨⟨⟨⟨⟨⟨⟨h1,h2⟩,h3⟩,h4⟩,h5⟩,h6⟩,h7⟩,h8⟩,h9⟩:=h
 refine ⟨h1,λ x hx hz=>(h2 (x,.free) hx).elim (λ z=>z rfl) λ z=>?_,λ x hx he=>(h3 x hx).elim (λ z=>absurd he z) λ z=>eq_of_beq z,λ x hx he=>(h4 x hx).elim (λ z=>absurd he z) λ z=>z.elim (λ z=>.inl (eq_of_beq z)) λ z=>.inr (eq_of_beq z),λ i x hi e hv=>?_,h6,λ x hx=>(h7 x hx).imp zxp λ z=>⟨zxp z.1,by simpa using z.2⟩,h8,h9⟩
 ·have z':(!(scope.names.contains (x,NameKind.cell)))=true:=z
  have:scope.names.contains (x,NameKind.cell)=true:=by simpa using hz
  rw [this] at z';cases z'
 have q:=h5 i (jd0.mpr hi)
 rw [e] at q
 dsimp only at q
 rw [jd6] at q
 rcases q with q | q
 ·have:visB (zxk scope S.sc) x=true:=qgg hv
  have q':(!visB (zxk scope S.sc) x)=true:=q
  rw [this] at q';cases q'
 ·simp only [ja5,decide_eq_true_eq,jj6] at q
  obtain ⟨⟨⟨q1,q2⟩,q3⟩,q4⟩:=q
  refine ⟨q1,qfe q2,by simpa using q3,λ z=>?_⟩
  have:zwc (zxk scope S.sc) x .local=true:=by unfold zwc;rw [z];simp
  have q4':zwc (zxk scope S.sc) x .local=false:=q4
  rw [this] at q4';cases q4'
theorem ChkOk.comp {scope:vd0}{ys:List Str}{vI:List Nat} (c:ChkOk S scope ys vI) (xs:XS X P w K mg base lvl S Wx):CompOk X scope (zqs S scope ys vI).N ys.length where
 kind:=c.kind
 dis:=c.dis
 names:=c.names
 len:=by
  show (zmn _ 0 S.N++ys).length=_
  rw [jb3,zza,xs.N]
 free:=λ x hx he=>by
  show X.env.scope.names.lookup x.1=_\/X.env.scope.names.lookup x.1=_
  rw [xs.sc];exact c.free x hx he
 kinds:=λ x h=>by
  rcases h with h | h
  ·exact zzz (sc:=X.env.scope) scope.names (.inl rfl) h
  ·exact zzz (sc:=X.env.scope) scope.names (.inr rfl) h
 capt:=λ i x hi e hv=>by
  rw [zkb,xs.sc] at hv ⊢
  rw [xs.N] at hi ⊢
  exact c.capt i x hi e hv
theorem ChkOk.xs {scope:vd0}{ys:List Str}{vI:List Nat} (c:ChkOk S scope ys vI) (xs:XS X P w K mg base lvl S Wx) (s2:va1) (H2:Hp) (C:Addr) (fp:List Addr) (pins:List (Addr×Obj)):XS (zqo X s2 H2 scope C (zqs S scope ys vI).N fp pins) P w K mg base lvl (zqs S scope ys vI) W0:=
 ⟨xs.prog,xs.w,xs.K,xs.mg,xs.base,rfl,by show vi6 scope X.env=_;rw [zkb,xs.sc];rfl,xs.calm,xs.room,PassesOwn.never,qki,λ h=>nomatch h⟩
theorem zpg {scope:vd0}{ys:List Str}{vI:List Nat} (i:Nat):(zqs S scope ys vI).alF i=if i < S.N.length then S.alF i else if i < S.N.length + ys.length then vI else []:=by
 unfold Sx.alF zqs
 dsimp only
 rw [ja3]
 by_cases h:i < S.N.length
 ·rw [jb5 (by simpa using h),if_pos h]
  simp [h,Sx.alF,ja3]
 ·rw [jc5 (by simpa using h),if_neg h,jd5]
  simp only [ja6,jh6]
  by_cases h2:i < S.N.length + ys.length
  ·rw [if_pos h2,if_pos (by omega)];rfl
  ·rw [if_neg h2,if_neg (by omega)];rfl
theorem ChkOk.ms' {scope:vd0}{ys:List Str}{vI:List Nat} (c:ChkOk S scope ys vI) (m:MS M K S Wx) (hv:∀ i∈vI,S.msF i=false) (D:Addr):MS (M.comp D S.N.length vI) K (zqs S scope ys vI) W0 where
 W:=rfl
 K:=m.K
 ms:=m.ms
 al:=λ i hi=>by
  rw [zpg]
  show (if i < S.N.length then M.al i else vI)=_
  have hl:(zqs S scope ys vI).N.length=S.N.length + ys.length:=by
   show (zmn _ 0 S.N++ys).length=_
   rw [jb3,zza]
  rw [hl] at hi
  by_cases h:i < S.N.length
  ·rw [if_pos h,if_pos h];exact m.al i h
  ·rw [if_neg h,if_neg h,if_pos hi]
 pn:=λ p hp=>by
  have h:=m.pn p hp
  show p.1 < (zmn _ 0 S.N++ys).length
  rw [jb3,zza]
  omega
 als:=λ i j hj=>by
  have hj':j∈(if i < S.N.length then M.al i else vI):=hj
  show M.Ms j=false
  by_cases h:i < S.N.length
  ·rw [if_pos h] at hj';exact m.als i j hj'
  ·rw [if_neg h] at hj';rw [m.ms];exact hv j hj'
theorem zbv {n:Nat}{iter:Expr}{env:Env}{f:Fx}{vs:List Nat} (h:(∀ a b c,iter≠.Set a b c)):∀ x,vf9 iter env x=pure x:=by
 intro x
 cases iter with
 | Set a b c=>exact absurd rfl (h a b c)
 | _=>rfl
end
section
variable {X:Cx}{P:va8}{w:vb6}{K:Frag}{mg:Str->Option va0}{base:Heap}{lvl:Nat}{S:Sx}{Wx:St->Nat->Hp->Prop}{M:Fm}{f g:Fx}{vs vs':List Nat}{σ:St}{H:Hp}{Q:VK}
theorem qgh {T:Str}{t:String} (h:tyOf T=some t):t∈isiT/\T∈zzm/\ve7 T=some (.type t)/\(T == ("__debug__" : Str))=false/\T ≠ "__name__" := by
 unfold tyOf at h
 split at h
 ·rename_i e;cases h;rw [e];exact ⟨by decide,by decide +kernel,rfl,by decide +kernel,by decide +kernel⟩
 ·split at h
  ·rename_i e;cases h;rw [e];exact ⟨by decide,by decide +kernel,rfl,by decide +kernel,by decide +kernel⟩
  ·split at h
   ·rename_i e;cases h;rw [e];exact ⟨by decide,by decide +kernel,rfl,by decide +kernel,by decide +kernel⟩
   ·split at h
    ·rename_i e;cases h;rw [e];exact ⟨by decide,by decide +kernel,rfl,by decide +kernel,by decide +kernel⟩
    ·split at h
     ·rename_i e;cases h;rw [e];exact ⟨by decide,by decide +kernel,rfl,by decide +kernel,by decide +kernel⟩
     ·split at h
      ·rename_i e;cases h;rw [e];exact ⟨by decide,by decide +kernel,rfl,by decide +kernel,by decide +kernel⟩
      ·cases h
theorem qjx {x:Str}{o:List (PV×Nat)->Option (PV×Nat)}{e:Expr}{es:List Expr}{fa:Fa}{p pos:Pos} (h:qin x=some o) (xs:XS X P w K mg base lvl S Wx) (m:MS M K S Wx) (hb:∀ x∈zzm,mg x=none) (hg:S.glob x=true) (hs:(e::es).all zyj=true) (ha:PA X (e::es) (tL M fa vs)):
  PE X (.Call (.Name x p) (e::es) [] pos) (tE M (zqd o fa) vs):=by
 rw [jh3,ja5] at hs
 have h1:va3 (e::es) X.env=(false,eval e X.env)::va3 es X.env:=zqt (zqm hs.1)
 have h2:(vd6 pos (va3 es X.env)).any (·.1)=false:=zbe hs.2
 have hm:∀ x∈zzm,X.mg x=none:=λ x hx=>by rw [xs.mg];exact hb x hx
 unfold qin at h
 split at h
 ·rename_i ex;cases h;subst ex;exact qju (m.k xs) (xs.gl hg) (hm _ (by decide +kernel)) ha h1 h2
 ·split at h
  ·rename_i ex;cases h;subst ex;exact qjy xs.calm (xs.gl hg) (hm _ (by decide +kernel)) ha h1 h2
  ·split at h
   ·rename_i ex;cases h;subst ex;exact qg3 xs.calm (xs.gl hg) (hm _ (by decide +kernel)) ha h1 h2
   ·split at h
    ·rename_i ex;cases h;subst ex;exact qg2 xs.calm (xs.gl hg) (hm _ (by decide +kernel)) ha h1 h2
    ·split at h
     ·rename_i ex;cases h;subst ex;exact qg1 xs.calm (xs.gl hg) (hm _ (by decide +kernel)) ha h1 h2
     ·split at h
      ·rename_i ex;cases h;subst ex;exact qg0 (m.k xs) (xs.gl hg) (hm _ (by decide +kernel)) ha h1 h2
      ·split at h
       ·rename_i ex;cases h;subst ex;exact qg5 (m.k xs) (xs.gl hg) (hm _ (by decide +kernel)) ha h1 h2
       ·split at h
        ·rename_i ex;cases h;subst ex;exact qg8 (xs.gl hg) (hm _ (by decide +kernel)) ha h1 h2
        ·split at h
         ·rename_i ex;cases h;subst ex;exact qjq xs.room.units xs.room.gd (m.k xs) (xs.gl hg) (hm _ (by decide +kernel)) ha h1 h2
         ·cases h
def IwOk (P:va8) (w:vb6) (K:Frag) (mg:Str->Option va0) (base:Heap) (lvl:Nat) (S:Sx) (it:Expr) (iw:Iw):Prop:=
 (∀ i∈iw.vs,S.msF i=false)/\(∀ a b c,it≠.Set a b c)/\∀ {Wx} X M,XS X P w K mg base lvl S Wx->MS M K S Wx->∀ tg,(match iw with
  | .rng en fa vs=>(en=zxa/\PI X tg it (qej (tL M fa vs)))\/(en=zyt/\PI X tg it (qei (tL M fa vs)))
  | .seq f vs=>PI X tg it (iSeq M.K (tE M f vs))
  | .vw v fa vs=>False)
theorem qel {it:Expr} (g:Good P w K mg base lvl S it f vs) (hs:∀ a b c,it≠.Set a b c):IwOk P w K mg base lvl S it (.seq f vs):=
 ⟨g.1,hs,λ X M xs m tg=>by
  show PI X tg it (iSeq M.K (tE M f vs))
  rw [m.k xs];exact qkd (g.2.2 X M xs m).1⟩
theorem zby {d:Expr->Option D2} (hd:∀ e f vs,d e=some (f,vs)->Good P w K mg base lvl S e f vs) (hset:∀ a b c,d (.Set a b c)=none) (hb:∀ x∈zzm,mg x=none) {it:Expr}{iw:Iw} (h:denI d S it=some iw):IwOk P w K mg base lvl S it iw:=by
 have seq:∀ {it:Expr}{iw:Iw},(match d it with
   | some (f,vs)=>some (Iw.seq f vs)
   | none=>none)=some iw->IwOk P w K mg base lvl S it iw:=λ {it iw} h=>by
  cases e:d it with
  | none=>rw [e] at h;cases h
  | some p=>
   obtain ⟨f,vs⟩:=p
   rw [e] at h;cases h
   exact qel (hd _ _ _ e) λ a b c z=>by rw [z,hset] at e;cases e
 unfold denI at h
 split at h
 ·rename_i x p a pos
  split at h
  ·rename_i hc
   obtain ⟨rfl,hg⟩:=hc
   split at h
   ·rename_i fa vs e
    cases h
    have g:=zws hd _ _ _ e
    refine ⟨λ _ z=>(nomatch z),λ _ _ _ z=>(nomatch z),λ X M xs m tg=>.inl ⟨rfl,?_⟩⟩
    have hs:=g.2.1
    simp only [jh3,jo9,jm2] at hs
    exact qbp (xs.gl hg) (by rw [xs.mg];exact hb _ (by decide +kernel)) (g.2.2 X M xs m) (zqt (zqm hs))
   ·cases h
  ·exact seq h
 ·rename_i x p a b pos
  split at h
  ·rename_i hc
   obtain ⟨rfl,hg⟩:=hc
   split at h
   ·rename_i fa vs e
    cases h
    have g:=zws hd _ _ _ e
    refine ⟨λ _ z=>(nomatch z),λ _ _ _ z=>(nomatch z),λ X M xs m tg=>.inr ⟨rfl,?_⟩⟩
    have hs:=g.2.1
    simp only [jh3,jo9,jm2,ja5] at hs
    have s2:va3 [b] X.env=[(false,eval b X.env)]:=zqt (zqm hs.2)
    exact qbo (xs.gl hg) (by rw [xs.mg];exact hb _ (by decide +kernel)) (g.2.2 X M xs m) (by rw [zqt (zqm hs.1),s2]) s2
   ·cases h
  ·exact seq h
 ·exact seq h
theorem qdn {σ:St}{H:Hp}{Q:Bool->Hp->Prop} (h:∃ M',MS M' K S Wx/\tT M' zxn σ H Q):Q true H:=by
 obtain ⟨M',_,ρ,fps,rep,q⟩:=h
 exact q H fps KD.refl Agr.refl rep
structure CompParts (P:va8) (w:vb6) (K:Frag) (mg:Str->Option va0) (base:Heap) (lvl:Nat) (S:Sx) (scope:vd0) (tg:Expr) (ys:List Str) (asg:PV->Rho->Option Rho) (it elt:Expr) (ifs:List Expr) (iw:Iw) (t:Fb) (g:Fx) (vE:List Nat):Prop where
 tga:tgA S.N.length tg=some (ys,asg)
 two:twOk tg iw=true
 chk:ChkOk S scope ys iw.vs
 iwo:IwOk P w K mg base lvl S it iw
 elt:Good P w K mg base lvl (zqs S scope ys iw.vs) elt g vE
 ifs:∀ {Wx} X M,XS X P w K mg base lvl (zqs S scope ys iw.vs) Wx->MS M K (zqs S scope ys iw.vs) Wx->PTs X ifs (λ σ H Q=>∃ M',MS M' K (zqs S scope ys iw.vs) Wx/\tT M' t σ H Q)
theorem qcx {scope:vd0}{tg:Expr}{ys:List Str}{asg:PV->Rho->Option Rho}{it elt:Expr}{ifs:List Expr}{iw:Iw}{t:Fb}{vE:List Nat} (c:CompParts P w K mg base lvl S scope tg ys asg it elt ifs iw t g vE):∀ i∈iw.vs++vE.filter (λ i=>decide (i < S.N.length)),S.msF i=false:=
 zqx c.iwo.1 λ i hi=>c.elt.1 i (ji2.mp hi).1
theorem zma {X':Cx}:∀ {es:List Expr}{ys:List Str}{n:Nat},zbp es=some ys->X'.N.Nodup->(∀ j y,ys[j]?=some y->X'.N[n + j]?=some y)->(∀ y∈ys,Loc X'.env.scope y/\(X'.fn y=true\/X'.env.scope.names.lookup y=some .local))->PGs X' es (zjs (ji5 n ys.length))/\(vc4 es X'.env).length=ys.length/\(vc4 es X'.env).findIdx? (·.1)=none
 | [],ys,n,h,_,_,_=>by cases h;exact ⟨qbq,rfl,rfl⟩
 | e::es,ys,n,h,hN,hi,hl=>by
  unfold zbp at h
  split at h
  ·cases ‹_::_=[]›
  ·rename_i x px r heq
   cases heq
   obtain ⟨zs,h2,rfl⟩:=ja7.mp h
   have hx:=hl x ja1
   obtain ⟨h1,h3,h4⟩:=zma (n:=n + 1) h2 hN (λ j y e=>by rw [show n + 1 + j=n + (j + 1) by omega];exact hi (j + 1) y (by simpa using e)) λ y hy=>hl y (ja0 _ hy)
   rw [jb8,jn3]
   refine ⟨zgj (zbl hN (by have:=hi 0 x rfl;simpa using this) hx.1 hx.2) h1 rfl,by rw [vc4,jb8,h3] <;> (intros;contradiction),?_⟩
   rw [vc4,jj1,h4] <;> first | rfl | (intros;contradiction)
  ·cases h
theorem zjx {scope:vd0}{tg:Expr}{ys:List Str}{asg:PV->Rho->Option Rho}{pos:Pos}{it elt:Expr}{ifs:List Expr}{iw:Iw}{t:Fb}{vE:List Nat} (c:CompParts P w K mg base lvl S scope tg ys asg it elt ifs iw t g vE) (xs:XS X P w K mg base lvl S Wx) (m:MS M K S Wx):
  ∃ wi gg,PI X tg it wi/\CompOk X scope (zqs S scope ys iw.vs).N ys.length/\(∀ s2 H2 C fp pins,PG (zqo X s2 H2 scope C (zqs S scope ys iw.vs).N fp pins) tg gg) /\
   (∀ s2 H2 C fp pins,PTs (zqo X s2 H2 scope C (zqs S scope ys iw.vs).N fp pins) ifs (λ σ H Q=>∃ M',MS M' K (zqs S scope ys iw.vs) W0/\tT M' t σ H Q)) /\
   (∀ s2 H2 C fp pins,PE (zqo X s2 H2 scope C (zqs S scope ys iw.vs).N fp pins) elt (λ σ H Q=>∃ M',MS M' K (zqs S scope ys iw.vs) W0/\tE M' g vE σ H Q)) /\
   ∀ σ H Q,σ.length=S.N.length->tE M (qdd iw ys.length asg t g) (iw.vs++vE.filter (λ i=>decide (i < S.N.length))) σ H Q ->
    qaa ys.length wi gg (λ σ H Q=>∃ M',MS M' K (zqs S scope ys iw.vs) W0/\tT M' t σ H Q) (λ σ H Q=>∃ M',MS M' K (zqs S scope ys iw.vs) W0/\tE M' g vE σ H Q) σ H Q:=by
 have hvI:=m.v c.iwo.1
 have hP:∀ D,MS (M.comp D S.N.length iw.vs) K (zqs S scope ys iw.vs) W0:=λ D=>c.chk.ms' m c.iwo.1 D
 have hvE:∀ i∈vE,M.Ms i=false:=λ i hi=>by rw [m.ms];exact c.elt.1 i hi
 have hvo:∀ i,i∈vE->i < S.N.length->i∈iw.vs++vE.filter (λ i=>decide (i < S.N.length)):=λ i h1 h2=>ja2 _ (ji2.mpr ⟨h1,by simpa using h2⟩)
 have hvo2:=m.v (qcx c)
 have bd:∀ D i,S.N.length<=i->Bd (M.comp D S.N.length iw.vs) iw.vs i:=λ D i hi=>⟨by
   show M.Ms i=false
   rw [m.ms]
   unfold Sx.msF
   cases e:S.ms.contains i with
   | false=>rfl
   | true=>exact absurd (c.chk.ms _ (by simpa using e)) (by omega),⟨λ _=>by have:=c.chk.pos;omega,λ p hp=>by have:=m.pn p hp;omega⟩,if_neg (by omega),(hP D).als⟩
 have hix:∀ j y,ys[j]?=some y->(zqs S scope ys iw.vs).N[S.N.length + j]?=some y:=λ j y e=>by
  show (zmn _ 0 S.N++ys)[S.N.length + j]?=some y
  rw [jc5 (by rw [zza];omega),zza]
  simpa using e
 have hloc:∀ s2 H2 C fp pins,∀ y∈ys,Loc (zqo X s2 H2 scope C (zqs S scope ys iw.vs).N fp pins).env.scope y/\((zqo X s2 H2 scope C (zqs S scope ys iw.vs).N fp pins).fn y=true\/(zqo X s2 H2 scope C (zqs S scope ys iw.vs).N fp pins).env.scope.names.lookup y=some .local):=λ s2 H2 C fp pins y hy=>by
  have e:(zqo X s2 H2 scope C (zqs S scope ys iw.vs).N fp pins).env.scope=zxk scope S.sc:=by
   show vi6 scope X.env=_
   rw [zkb,xs.sc]
  rw [e]
  rcases c.chk.loc y hy with z | z
  ·exact ⟨.inl z,.inr z⟩
  ·exact ⟨.inr z.1,.inl (by show scope.names.contains (y,NameKind.cell)=true;simpa using z.2)⟩
 have hpe:∀ s2 H2 C fp pins,PE (zqo X s2 H2 scope C (zqs S scope ys iw.vs).N fp pins) elt (λ σ H Q=>∃ M',MS M' K (zqs S scope ys iw.vs) W0/\tE M' g vE σ H Q):=λ s2 H2 C fp pins pi s σ H Q I ⟨M',m',q⟩=>
  (c.elt.2.2 _ M' (c.chk.xs xs s2 H2 C fp pins) m').1 pi s σ H Q I q
 have hpt:∀ s2 H2 C fp pins,PTs (zqo X s2 H2 scope C (zqs S scope ys iw.vs).N fp pins) ifs (λ σ H Q=>∃ M',MS M' K (zqs S scope ys iw.vs) W0/\tT M' t σ H Q):=λ s2 H2 C fp pins=>c.ifs _ (M.comp 0 S.N.length iw.vs) (c.chk.xs xs s2 H2 C fp pins) (hP 0)
 have tgp:∃ is gg,(∀ i∈is,S.N.length<=i)/\(∀ D,GOk (M.comp D S.N.length iw.vs) iw.vs is gg asg)/\∀ s2 H2 C fp pins,PG (zqo X s2 H2 scope C (zqs S scope ys iw.vs).N fp pins) tg gg:=by
  have ht:=c.tga
  unfold tgA at ht
  split at ht
  ·rename_i y py
   cases ht
   refine ⟨[S.N.length],zjb S.N.length,λ i hi=>by rw [jb6.mp hi];exact jb7 _,λ D=>qf3 (bd D _ (jb7 _)),λ s2 H2 C fp pins=>?_⟩
   exact zbl c.chk.nd (hix 0 y rfl) (hloc s2 H2 C fp pins y (by simp)).1 (hloc s2 H2 C fp pins y (by simp)).2
  ·rename_i es k tp
   obtain ⟨zs,h2,e⟩:=ja7.mp ht
   cases e
   refine ⟨ji5 S.N.length ys.length,gTup M.K ys.length (zjs (ji5 S.N.length ys.length)),λ i hi=>(jm4.mp hi).1,λ D=>?_,λ s2 H2 C fp pins=>?_⟩
   ·have:=qh3 (M:=M.comp D S.N.length iw.vs) (al:=iw.vs) (is:=ji5 S.N.length ys.length) λ i hi=>bd D i (jm4.mp hi).1
    rw [List.length_range'] at this
    exact this
   ·obtain ⟨h1,h3,h4⟩:=zma (X':=zqo X s2 H2 scope C (zqs S scope ys iw.vs).N fp pins) (n:=S.N.length) h2 c.chk.nd hix (hloc s2 H2 C fp pins)
    have:=qbr (X:=zqo X s2 H2 scope C (zqs S scope ys iw.vs).N fp pins) (pos:=tp) (k:=k) xs.calm h1 h3 h4
    have e:(zqo X s2 H2 scope C (zqs S scope ys iw.vs).N fp pins).K=M.K:=(m.k xs).symm
    rw [e] at this
    exact this
  ·cases ht
 obtain ⟨is,gg,his,hg,hpg⟩:=tgp
 have hw:=c.iwo.2.2 X M xs m tg
 have htw:=c.two
 cases iw with
 | rng en fa vs=>
  rcases hw with ⟨rfl,hw⟩ | ⟨rfl,hw⟩
  ·exact ⟨_,gg,hw,c.chk.comp xs,hpg,hpt,hpe,λ σ H Q hl hq=>qdq hl hP m.als hvI hvE his hg hvo hvo2 hq⟩
  ·exact ⟨_,gg,hw,c.chk.comp xs,hpg,hpt,hpe,λ σ H Q hl hq=>qdp hl hP m.als hvI hvE his hg hvo hvo2 hq⟩
 | seq f vs=>exact ⟨_,gg,hw,c.chk.comp xs,hpg,hpt,hpe,λ σ H Q hl hq=>qdo hl hP m.als hvI hvE his hg hvo hvo2 hq⟩
 | vw v fa vs=>exact hw.elim
theorem qft {e:Expr}{t t':TE} (h:PE X e t) (i:∀ σ H Q,σ.length=X.N.length->t' σ H Q->t σ H Q):PE X e t':=λ pins s σ H Q I q=>h pins s σ H Q I (i σ H Q I.len q)
theorem qkc {e:Stmt}{t t':TS} (h:PS X e t) (i:∀ D σ H,σ.length=X.N.length->t' D σ H->t D σ H):PS X e t':=λ pins s σ H D I q=>h pins s σ H D I (i D σ H I.len q)
theorem qcm {scope:vd0}{tg:Expr}{ys:List Str}{asg:PV->Rho->Option Rho}{pos:Pos}{it elt:Expr}{ifs:List Expr}{iw:Iw}{t:Fb}{vE:List Nat} (c:CompParts P w K mg base lvl S scope tg ys asg it elt ifs iw t g vE):Good P w K mg base lvl S (.ListComp elt [⟨tg,it,ifs,0⟩] scope pos) (qdd iw ys.length asg t g) (iw.vs++vE.filter (λ i=>decide (i < S.N.length))):=by
 refine zqq (qcx c) rfl (λ _ _=>rfl) λ X M xs m=>?_
 obtain ⟨wi,gg,h1,h2,h3,h4,h5,h6⟩:=zjx (pos:=pos) c xs m
 exact qft (qbu h2 xs.calm h1 h3 h4 h5 (zbv (n:=0) (f:=g) (vs:=[]) c.iwo.2.1)) λ σ H Q hl q=>h6 σ H Q (by rw [hl,xs.N]) q
theorem zmr {d:Expr->Option D2} (hd:∀ e f vs,d e=some (f,vs)->Good P w K mg base lvl S e f vs) {ifs:List Expr}{t:Fb} (h:zhi d ifs=some t) (X:Cx) (M:Fm) (xs:XS X P w K mg base lvl S Wx) (m:MS M K S Wx):PTs X ifs (λ σ H Q=>∃ M',MS M' K S Wx/\tT M' t σ H Q):=by
 unfold zhi at h
 split at h
 ·cases h
  intro pins s σ H Q I q
  exact qhg pins s σ H Q I (qdn q)
 ·obtain ⟨p,e,rfl⟩:=ja7.mp h
  obtain ⟨f,vs⟩:=p
  have g:=hd _ _ _ e
  intro pins s σ H Q I ⟨M',m',q⟩
  exact qhf (g.2.2 X M' xs m').2 pins s σ H Q I q
 ·cases h
theorem zbx (n:Nat) (S:Sx) (a:List Expr) (b:Nat) (c:Pos):den n S (.Set a b c)=none:=by
 cases n <;> rfl
theorem zzp {e:Expr} (h:zyj e=true) (env:Env) (cpos:Pos):((vd6 cpos (va3 [e] env)).all (λ x=>!x.1) && (backToKw cpos (vk2 [] env)).all (λ x=>x.1.isSome)
   && decide (([e]:List Expr).length + ([]:List vh6).length + (if ([]:List vh6).isEmpty then 0 else 1) < 30))=true:=by
 have:va3 [e] env=[(false,eval e env)]:=zqt (zqm h)
 rw [this]
 rfl
theorem zmp {T:Str}{c:Nat} (h:XN.findIdx? (·== T)=some c):XN[c]?=some T:=by
 obtain ⟨hlt,h1,_⟩:=je1.mp h
 rw [jb1 hlt]
 exact congrArg some (eq_of_beq h1)
theorem zhn {T:Str}{n:Nat} (GX:GX K mg S.xc) (hb:∀ x∈zzm,mg x=none) (h:qey S T=some n) (xs:XS X P w K mg base lvl S Wx):xKit X.K=true/\∃ cv,(∀ p2,PE X (.Name T p2) (tC cv))/\∀ u,RelV cv u->clsV X.K n u=true:=by
 unfold qey at h
 split at h
 ·rename_i hc
  obtain ⟨hg,hx⟩:=hc
  obtain ⟨_,hk,hcs⟩:=GX hx
  refine ⟨by rw [xs.K];exact hk,?_⟩
  split at h
  ·rename_i eT
   subst eT
   cases h
   refine ⟨.ty "ValueError",λ p2=>qbv (xs.gl hg) (by rw [xs.mg];exact hb _ (by decide +kernel)) (u:=.type "ValueError") rfl rfl (by decide) (by decide),λ u r=>?_⟩
   cases r
   unfold clsV
   rfl
  ·split at h
   ·rename_i hc
    split at h
    ·rename_i hm
     cases h
     obtain ⟨x',C,h1,h2,h3,h4⟩:=(hcs n (by simpa using hm)).1 (qlc hc)
     have ex:x'=T:=by
      have:=zmp hc
      rw [h1] at this
      exact Option.some.inj this
     subst ex
     refine ⟨.ref C,λ p2=>qbt (xs.gl hg) (by rw [xs.mg];exact h3) rfl h4,λ u r=>?_⟩
     cases r
     unfold clsV
     rw [xs.K,h2]
     simp
    ·cases h
   ·cases h
 ·cases h
theorem zmt (GX:GX K mg S.xc) (hb:∀ x∈zzm,mg x=none) (xs:XS X P w K mg base lvl S Wx):∀ {es:List Expr}{ns:List Nat},zho S es=some ns->es≠[]->xKit X.K=true/\∃ cvs,cvs.length=es.length/\PA X es (tVs cvs)/\∀ us,Vals cvs us->zyx X.K ns us=true
 | [],_,_,hn=>absurd rfl hn
 | e::r,ns,h,_=>by
  unfold zho at h
  split at h
  ·rename_i T ds h1 h2
   obtain ⟨n,h3,rfl⟩:=ja7.mp h
   obtain ⟨p2,rfl⟩:=zyk h1
   obtain ⟨hk,cv,c1,c2⟩:=zhn GX hb h3 xs
   refine ⟨hk,?_⟩
   have st:va3 (Expr.Name T p2::r) X.env=(false,eval (.Name T p2) X.env)::va3 r X.env:=rfl
   by_cases hr:r=[]
   ·subst hr
    cases h2
    refine ⟨[cv],rfl,λ a b c d e f g h=>(zxr (c1 p2) zzu st) a b c d e f g h,λ us v=>?_⟩
    cases v with
    | cons r rr=>
     cases rr
     unfold zyx
     rw [c2 _ r]
     rfl
   ·obtain ⟨_,cvs,l1,pa,l2⟩:=zmt GX hb xs h2 hr
    refine ⟨cv::cvs,by rw [jb8,jb8,l1],λ a b c d e f g h=>(zxr (c1 p2) pa st) a b c d e f g h,λ us v=>?_⟩
    cases v with
    | cons r rr=>
     unfold zyx
     rw [c2 _ r,l2 _ rr]
     rfl
  ·cases h
theorem zmq (GX:GX K mg S.xc) (G:GS P w K mg base lvl S.Γ) (Gm:GSm P w K mg base lvl S.Γm):∀ (n:Nat) (S':Sx) (e:Expr) (f:Fx) (vs:List Nat),S'.Γ=S.Γ->S'.Γm=S.Γm->S'.xc=S.xc->(∀ i,∀ j∈S'.alF i,S'.msF j=false)->den n S' e=some (f,vs)->Good P w K mg base lvl S' e f vs:=by
 intro n
 induction n with
 | zero=>intro S' e f vs _ _ _ _ h;cases h
 | succ n ih=>
  intro S' e f vs hΓ hΓm hX hS h
  have hd:∀ e f vs,den n S' e=some (f,vs)->Good P w K mg base lvl S' e f vs:=λ e f vs h=>ih S' e f vs hΓ hΓm hX hS h
  replace h:zzd (den n) S' e=some (f,vs):=h
  unfold zzd at h
  split at h
  ·unfold denC at h
   split at h
   ·cases h;exact zqq (λ _ z=>(nomatch z)) rfl (λ _ _=>rfl) λ X M xs m=>zqk zgl λ σ H Q q=>zvx (λ K H Z=>by rw [Own];exact ⟨rfl,rfl⟩) q
   ·cases h;exact zqq (λ _ z=>(nomatch z)) rfl (λ _ _=>rfl) λ X M xs m=>zqk qmf λ σ H Q q=>zvx (λ K H Z=>by rw [Own];exact ⟨rfl,rfl⟩) q
   ·cases h;exact zqq (λ _ z=>(nomatch z)) rfl (λ _ _=>rfl) λ X M xs m=>zqk qkg λ σ H Q q=>zvx (λ K H Z=>by rw [Own];exact ⟨rfl,rfl⟩) q
   ·cases h;exact zqq (λ _ z=>(nomatch z)) rfl (λ _ _=>rfl) λ X M xs m=>zqk qfq λ σ H Q q=>zvx (λ K H Z=>by rw [Own];exact ⟨rfl,rfl⟩) q
   ·cases h
  ·split at h
   ·rename_i i hi
    split at h
    ·cases h
    ·rename_i hm
     cases h
     refine zqq (λ j hj=>?_) rfl (λ _ _=>rfl) λ X M xs m=>qft (xs.var hi) λ σ H Q hl q=>?_
     ·rcases jb2.mp hj with z | z
      ·rw [z];simpa using hm
      ·exact hS i j z
     ·have hlt:i < S'.N.length:=by
       unfold Sx.slot at hi
       split at hi
       ·exact (ja8.mp (zkv hi)).1
       ·cases hi
      rw [<- m.al i hlt] at q
      exact qfi q
   ·unfold denK at h
    split at h
    ·rename_i kk hkk
     split at h
     ·rename_i hc
      obtain ⟨pv,hp,e2⟩:=ja7.mp h
      cases e2
      have hm:(50 + kk)∈S'.xc:=by simpa using hc.1
      have hne:S.xc≠[]:=λ z=>by rw [hX,z] at hm;cases hm
      obtain ⟨_,_,hcs⟩:=GX hne
      obtain ⟨x',v,u,c1,c2,c3,c4⟩:=(hcs (50 + kk) (by rw [<- hX];exact hm)).2 (jn4 _ _)
      rw [Nat.add_sub_cancel_left,hp] at c1
      cases c1
      obtain ⟨hlt,h1,_⟩:=je1.mp hkk
      rw [jb1 hlt] at hp
      have ex:CN[kk]=(x',v):=Option.some.inj hp
      rw [ex] at h1
      have ex2:x'=_:=eq_of_beq h1
      subst ex2
      obtain ⟨w',r',ow⟩:=qim c2
      exact zqq (λ _ z=>(nomatch z)) rfl (λ _ _=>rfl) λ X M xs m=>zqk (qbt (xs.gl hc.2) (by rw [xs.mg];exact c3) r' c4) λ σ H Q q=>zvx ow q
     ·cases h
    ·cases h
  ·split at h
   ·rename_i f1 v1 f2 v2 o h1 h2 h3
    cases h
    have g1:=hd _ _ _ h1
    have g2:=hd _ _ _ h2
    exact zqq (zqx g1.1 g2.1) rfl (λ _ _=>rfl) λ X M xs m=>ql5 h3 (m.v g1.1) (m.k xs) (g1.2.2 X M xs m).1 (g2.2.2 X M xs m).1
   ·cases h
  ·split at h
   ·rename_i f1 v1 h1
    cases h
    have g1:=hd _ _ _ h1
    exact zqq g1.1 rfl (λ _ _=>rfl) λ X M xs m=>qjr (g1.2.2 X M xs m).1
   ·cases h
  ·split at h
   ·rename_i f1 v1 h1
    cases h
    exact qem (hd _ _ _ h1)
   ·cases h
  ·rename_i es pos
   have g:=zms hd (pos:=pos) _ _ _ h
   exact ⟨g.1,rfl,λ X M xs m=>⟨(g.2 X M xs m).1,(g.2 X M xs m).2.pt⟩⟩
  ·rename_i es pos
   have g:=zhh hd (pos:=pos) _ _ _ h
   exact ⟨g.1,rfl,λ X M xs m=>⟨(g.2 X M xs m).1,(g.2 X M xs m).2.pt⟩⟩
  ·split at h
   ·rename_i f1 v1 f2 v2 o h1 h2 h3
    cases h
    exact qen h3 (hd _ _ _ h1) (hd _ _ _ h2)
   ·cases h
  ·split at h
   ·rename_i f1 v1 f2 v2 f3 v3 p q h1 h2 h3 h4 h5
    cases h
    exact qao h4 h5 (hd _ _ _ h1) (hd _ _ _ h2) (hd _ _ _ h3)
   ·cases h
  ·split at h
   ·rename_i fa v h1
    cases h
    have g:=zws hd _ _ _ h1
    exact zqq g.1 rfl (λ _ _=>rfl) λ X M xs m=>qjt (g.2.2 X M xs m)
   ·cases h
  ·split at h
   ·rename_i fa v h1
    cases h
    have g:=zws hd _ _ _ h1
    exact zqq g.1 rfl (λ _ _=>rfl) λ X M xs m=>qjp (g.2.2 X M xs m)
   ·cases h
  ·rename_i a b pos
   unfold qf4 at h
   split at h
   ·rename_i lo hi st p2
    unfold qf5 at h
    split at h
    ·split at h
     ·rename_i f1 v1 f2 v2 h1 h2
      cases h
      have g1:=hd _ _ _ h1
      have g2:=hd _ _ _ h2
      exact zqq g1.1 rfl (λ _ _=>rfl) λ X M xs m=>zqk (zbm (zff.or (qba.or qbb)) (g1.2.2 X M xs m).1 qbm (zbk (g2.2.2 X M xs m).1)) λ σ H Q q=>qgu (lo:=none) (hi:=some (f2,v2)) (m.v g1.1) (m.k xs) q
     ·cases h
    ·split at h
     ·rename_i f1 v1 f2 v2 h1 h2
      cases h
      have g1:=hd _ _ _ h1
      have g2:=hd _ _ _ h2
      exact zqq g1.1 rfl (λ _ _=>rfl) λ X M xs m=>zqk (zbm (zff.or (qba.or qbb)) (g1.2.2 X M xs m).1 (zbk (g2.2.2 X M xs m).1) qbm) λ σ H Q q=>qgu (lo:=some (f2,v2)) (hi:=none) (m.v g1.1) (m.k xs) q
     ·cases h
    ·split at h
     ·rename_i f1 v1 f2 v2 f3 v3 h1 h2 h3
      cases h
      have g1:=hd _ _ _ h1
      have g2:=hd _ _ _ h2
      have g3:=hd _ _ _ h3
      exact zqq g1.1 rfl (λ _ _=>rfl) λ X M xs m=>zqk (zbm (zff.or (qba.or qbb)) (g1.2.2 X M xs m).1 (zbk (g2.2.2 X M xs m).1) (zbk (g3.2.2 X M xs m).1)) λ σ H Q q=>qgu (lo:=some (f2,v2)) (hi:=some (f3,v3)) (m.v g1.1) (m.k xs) q
     ·cases h
    ·cases h
   ·split at h
    ·rename_i x i hx hi
     obtain ⟨px,rfl⟩:=zyk hx
     obtain ⟨k,pi,rfl⟩:=qf0 hi
     split at h
     ·rename_i j hj
      split at h
      ·cases h
       exact zqq (λ _ z=>(nomatch z)) rfl (λ _ _=>rfl) λ X M xs m=>ql6 xs hj (m.k xs)
      ·rename_i hm
       cases h
       have hlt:j < S'.N.length:=by
        unfold Sx.slot at hj
        split at hj
        ·exact (ja8.mp (zkv hj)).1
        ·cases hj
       have hv:∀ i∈j::S'.alF j,S'.msF i=false:=λ i hi=>by
        rcases jb2.mp hi with z | z
        ·rw [z];simpa using hm
        ·exact hS j i z
       refine zqq (zqx hv λ _ z=>(nomatch z)) rfl (λ _ _=>rfl) λ X M xs m=>qfl (m.v hv) (m.k xs) (zwv rfl) (zqk (xs.var hj) λ σ H Q q=>?_) (zqk zgl λ σ H Q q=>zvx (λ K H Z=>by rw [Own];exact ⟨rfl,rfl⟩) q)
       rw [<- m.al j hlt] at q
       exact qfi q
     ·cases h
    ·split at h
     ·rename_i f1 v1 f2 v2 h1 h2
      split at h
      ·rename_i hn
       cases h
       have g1:=hd _ _ _ h1
       have g2:=hd _ _ _ h2
       exact zqq (zqx g1.1 g2.1) rfl (λ _ _=>rfl) λ X M xs m=>qfl (m.v g1.1) (m.k xs) (zwv hn) (g1.2.2 X M xs m).1 (g2.2.2 X M xs m).1
      ·cases h
     ·cases h
  ·split at h
   ·rename_i x p args pos _ hx
    subst hx
    split at h
    ·rename_i e c
     unfold qf9 at h
     split at h
     ·rename_i f1 v1 h1
      split at h
      ·rename_i hgi
       have g1:=hd _ _ _ h1
       split at h
       ·rename_i T pT
        have s2:∀ {X:Cx},va3 [Expr.Name T pT] X.env=[(false,eval (.Name T pT) X.env)]:=rfl
        split at h
        ·rename_i t h2
         split at h
         ·rename_i hg
          cases h
          obtain ⟨t1,t2,t3,t4,t5⟩:=qgh h2
          refine zqq g1.1 rfl (λ _ _=>rfl) λ X M xs m=>?_
          exact qjv (x:=T) t1 (m.k xs) (g1.2.2 X M xs m).1 (xs.gl hgi) (by rw [xs.mg];exact G.1 _ (by decide +kernel)) (qbv (xs.gl hg) (by rw [xs.mg];exact G.1 _ t2) t3 rfl t5 t4) (by rw [zqt (zqm g1.2.1),s2]) s2
         ·cases h
        ·obtain ⟨n,h3,e2⟩:=ja7.mp h
         cases e2
         refine zqq g1.1 rfl (λ _ _=>rfl) λ X M xs m=>?_
         obtain ⟨hk,cv,c1,c2⟩:=zhn (by rw [hX];exact GX) G.1 h3 xs
         exact qg7 hk (m.k xs) (g1.2.2 X M xs m).1 (xs.gl hgi) (by rw [xs.mg];exact G.1 _ (by decide +kernel)) (c1 pT) c2 (by rw [zqt (zqm g1.2.1),s2]) s2
       ·rename_i es k p2
        split at h
        ·rename_i hl
         obtain ⟨ns,h3,e2⟩:=ja7.mp h
         cases e2
         obtain ⟨hl,hne⟩:=hl
         refine zqq g1.1 rfl (λ _ _=>rfl) λ X M xs m=>?_
         have s2:va3 [Expr.Tuple es k p2] X.env=[(false,eval (.Tuple es k p2) X.env)]:=rfl
         obtain ⟨hk,cvs,l1,pa,l2⟩:=zmt (by rw [hX];exact GX) G.1 xs h3 hne
         exact qdw hk (m.k xs) (g1.2.2 X M xs m).1 (xs.gl hgi) (by rw [xs.mg];exact G.1 _ (by decide +kernel)) pa (by rw [l1];exact jc4 hl (by decide)) l2 (by rw [zqt (zqm g1.2.1),s2]) s2
        ·cases h
       ·cases h
      ·cases h
     ·cases h
    ·cases h
   ·split at h
    ·rename_i o ho
     split at h
     ·rename_i e es
      split at h
      ·rename_i fa v h1
       split at h
       ·rename_i hg
        cases h
        have g:=zws hd _ _ _ h1
        exact zqq g.1 rfl (λ _ _=>rfl) λ X M xs m=>qjx ho xs m G.1 hg g.2.1 (g.2.2 X M xs m)
       ·cases h
      ·cases h
     ·cases h
    ·split at h
     ·rename_i x p args pos _ _ _ _ nn F hF
      split at h
      ·rename_i e es
       split at h
       ·rename_i fa v h1
        split at h
        ·rename_i hg
         cases h
         have g:=zws hd _ _ _ h1
         rw [hΓ] at hF
         obtain ⟨d1,d2,fa',fd,ps,d3,d4,d5,d6,d7⟩:=G.2 _ _ _ _ hF
         refine zqq g.1 rfl (λ _ _=>rfl) λ X M xs m=>?_
         have hs:=g.2.1
         rw [jh3,ja5] at hs
         obtain ⟨xp,xw,xK,xm,xb,_,_,_,xr,_⟩:=id xs
         subst xp xw xK xm xb
         have mk:M.K=X.K:=m.K
         have hps:=xs.ps
         rw [<- m.W] at hps
         refine zqk (qd8 d7 xr (xs.gl hg) d3 d4 d5 hps (g.2.2 X M xs m) d1 (zqt (zqm hs.1)) (zbe hs.2)) λ σ H Q q=>?_
         have:=qgw d2 q
         rw [mk] at this
         exact this
        ·cases h
       ·cases h
      ·cases h
     ·cases h
     ·cases h
  ·rename_i o at' apos e cpos
   unfold qf8 at h
   split at h
   ·rename_i f1 v1 f2 v2 h1 h2
    split at h
    ·rename_i hc
     have g1:=hd _ _ _ h1
     have g2:=hd _ _ _ h2
     have hb:∀ (nm:Str) (X:Cx),vi1 o nm X.env (eval o X.env)=eval o X.env:=λ nm X=>by
      have:=hc.1
      cases o <;> first | rfl | (cases this)
     split at h
     ·rename_i ea
      subst ea
      cases h
      exact zqq (zqx g1.1 g2.1) rfl (λ _ _=>rfl) λ X M xs m=>qg6 (m.k xs) (g1.2.2 X M xs m).1 (g2.2.2 X M xs m).1 (hb _ X) (zqt (zqm g2.2.1)) (zzp g2.2.1 X.env cpos) hc.2
     ·split at h
      ·rename_i ea
       subst ea
       cases h
       exact zqq (zqx g1.1 g2.1) rfl (λ _ _=>rfl) λ X M xs m=>qdv (m.k xs) (g1.2.2 X M xs m).1 (g2.2.2 X M xs m).1 (hb _ X) (zqt (zqm g2.2.1)) (zzp g2.2.1 X.env cpos) hc.2
      ·cases h
    ·cases h
   ·cases h
  ·split at h
   ·rename_i elt tg it ifs scope pos _ _ ys asg iw ht hi
    split at h
    ·rename_i hc
     split at h
     ·rename_i t g vE h1 h2
      cases h
      have ck:=qgc hc.1
      have giw:=zby hd (zbx n S') G.1 hi
      have hS2:∀ i,∀ j∈(zqs S' scope ys iw.vs).alF i,(zqs S' scope ys iw.vs).msF j=false:=λ i j hj=>by
       rw [zpg] at hj
       show S'.msF j=false
       split at hj
       ·exact hS i j hj
       ·split at hj
        ·exact giw.1 j hj
        ·cases hj
      have hd2:∀ e f vs,den n (zqs S' scope ys iw.vs) e=some (f,vs)->Good P w K mg base lvl (zqs S' scope ys iw.vs) e f vs:=λ e f vs h=>ih _ e f vs hΓ hΓm hX hS2 h
      exact qcm ⟨ht,hc.2,ck,giw,hd2 _ _ _ h2,zmr hd2 h1⟩
     ·cases h
    ·cases h
   ·cases h
  ·cases h
end
section
variable {is:List Nat}{M:Fm}{ρ ρ':Rho}{σ σ':St}{H H' H'':Hp}{fps fps' fps'':Fps}{vs vs':List Nat}
def sNo:Fs:=λ _=>.no
theorem qgq {t:TS}{D:Ends} (hq:tS M sNo D σ H):t D σ H:=by
 obtain ⟨ρ,fps,rep,q⟩:=hq
 exact q.elim
def sUnp (asg:PV->Rho->Option Rho) (f:Fx) (vs:List Nat):Fs:=λ ρ=>match f ρ with
 | .ok (x,d,ρ1)=>(match asg x (zxb d vs ρ1) with
  | some ρ2=>.nx ρ2
  | none=>.no)
 | .exc c=>.exc c
 | .no=>.no
theorem qi9 {g:TG}{asg:PV->Rho->Option Rho}{f:Fx}{D:Ends} (hal:∀ i,M.al i=[]) (hv:∀ i∈vs,M.Ms i=false) (hg:GOk M [] is g asg) (hq:tS M (sUnp asg f vs) D σ H):tAsg (tE M f vs) g D σ H:=by
 obtain ⟨ρ,fps,rep,q⟩:=hq
 refine ⟨ρ,fps,rep,?_⟩
 unfold sUnp at q
 cases ef:f ρ with
 | no=>rw [ef] at q;exact q
 | exc c=>rw [ef] at q;exact λ H' fps' k=>q _ H' fps' k.ks
 | ok p=>
  obtain ⟨x,d,ρ1⟩:=p
  rw [ef] at q
  intro v H1 fps1 f1 k1 g1 rep1 o1 t1
  obtain ⟨fps2,k2,r2,o2⟩:=Rep.seen rep k1 g1 rep1 o1 t1 hal hv
  dsimp only at q
  cases ea:asg x (zxb d vs ρ1) with
  | none=>rw [ea] at q;exact q.elim
  | some ρ2=>
   rw [ea] at q
   refine hg x v _ σ H1 fps2 ρ2 _ r2 (o2.weak λ a h=>h.zf) ea λ σ' fps' s1 _ _ r'=>q σ' H1 fps' (k2.trans ⟨λ _ _ h _=>h,λ _ h=>h,λ j a ha=>.inl ⟨j,s1 j a ha⟩⟩) r'
theorem Rep.change {i:Nat}{x x':PV}{d d':Nat}{v:V}{f':List Addr} (hal:∀ i,M.al i=[]) (r:Rep M ρ σ H fps) (hi:ρ[i]?=some (some (x,d))) (hσ:σ[i]?=some (some v)) (k:Keep (λ a=>a∈fps i) H H') (dm:∀ a,H a≠none->H' a≠none) (hs:∀ b∈f',b∈fps i)
  (hm:M.Ms i=true->d'=om) (o:Own M.K H' (Zf M (λ j=>if j=i then f' else fps j)) x' d' v f'):Rep M (ρ.set i (some (x',d'))) σ H' (λ j=>if j=i then f' else fps j):=by
 have hlen:i < ρ.length:=(ja8.mp hi).1
 have inI:∀ j,∀ b∈(if j=i then f' else fps j),b∈fps j:=λ j b hb=>by
  by_cases e:j=i
  ·rw [if_pos e] at hb;rw [e];exact hs b hb
  ·rw [if_neg e] at hb;exact hb
 refine ⟨λ j y c hj=>?_,λ j hj=>?_,λ j k hjk b hb hc=>r.dj j k hjk b (inI j b hb) (inI k b hc),λ j b hb z=>r.zo j b (inI j b hb) z,λ j hj b hb=>r.fr j hj b (inI j b hb),λ b z=>dm b (r.zd b z),by rw [je0];exact r.len,λ j y c hj hc=>?_,λ b z=>dm b (r.h0 b z),r.iov⟩
 ·by_cases ej:j=i
  ·subst ej
   rw [jc3 hlen] at hj
   cases hj
   refine ⟨v,hσ,?_⟩
   rw [if_pos rfl]
   exact o.weak λ a h=>h.zf
  ·rw [jb9 (vc2 ej)] at hj
   obtain ⟨u,hu,ou⟩:=r.own j y c hj
   refine ⟨u,hu,?_⟩
   rw [if_neg ej]
   refine Own.move (S:=λ a=>a∈fps i) k (λ a ha=>⟨.inr ⟨i,(by rw [hal j];intro z;cases z),ha⟩,r.lsts ha⟩) (λ a _ nz z=>nz ?_) y c u (fps j) (λ a ha z=>r.dj j i ej a ha z) ou
   rcases z with z | ⟨l,nl,z⟩
   ·exact .inl z
   ·exact .inr ⟨l,nl,inI l a z⟩
 ·by_cases ej:j=i
  ·subst ej
   exact absurd (jc3 hlen) (hj (x',d'))
  ·rw [if_neg ej]
   exact r.non j λ p hp=>hj p (by rw [jb9 (vc2 ej)];exact hp)
 ·by_cases ej:j=i
  ·subst ej
   rw [jc3 hlen] at hc
   cases hc
   exact hm hj
  ·rw [jb9 (vc2 ej)] at hc
   exact r.msf j y c hj hc
theorem OwnL.full' {K:Frag}{Z Z':Addr->Prop}{xs:List PV}{ws:List V}{f:List Addr} (h:OwnL K H Z xs om ws f):OwnL K H Z' xs om ws f:=OwnL.full xs ws f h
theorem OwnL.row {K:Frag}{Z:Addr->Prop}:∀ {xs:List PV}{ws:List V}{f:List Addr}{p:Nat}{cells:List PV},OwnL K H Z xs om ws f->xs[p]?=some (.lst cells)->∃ a us fc,ws[p]?=some (.ref a)/\H a=some (.lst us)/\a∈f/\OwnL K H Z cells om us fc/\(∀ b∈fc,b∈f)/\a∉fc /\
  ∀ (cells':List PV) (us':List V) (fc':List Addr),OwnL K (upd H a (.lst us')) (λ _=>True) cells' om us' fc'->(∀ b∈fc',b∈fc)->∃ f',(∀ b∈f',b∈f)/\OwnL K (upd H a (.lst us')) (λ _=>True) (xs.set p (.lst cells')) om ws f'
 | [],ws,f,p,cells,h,e=>by cases e
 | x::xs,ws,f,0,cells,h,e=>by
  cases e
  rw [OwnL] at h
  obtain ⟨v,s,f1,f2,rfl,rfl,dj,h1,h2⟩:=h
  obtain ⟨a,us,fc,rfl,ha,rfl,na,ol⟩:=h1.list (by decide:om≠0)
  rw [zkn] at ol
  refine ⟨a,us,fc,rfl,ha,by simp,ol,λ b hb=>by simp [hb],na,λ cells' us' fc' o hs=>⟨(a::fc')++f2,λ b hb=>?_,?_⟩⟩
  ·rcases jc0.mp hb with z | z
   ·rcases jb2.mp z with z | z
    ·simp [z]
    ·exact ja4 _ (ja0 _ (hs b z))
   ·exact ja2 _ z
  ·have n2:a∉f2:=dj a ja1
   rw [jf1,OwnL]
   refine ⟨.ref a,s,a::fc',f2,rfl,rfl,λ b hb=>?_,?_,?_⟩
   ·rcases jb2.mp hb with z | z
    ·rw [z];exact n2
    ·exact dj b (ja0 _ (hs b z))
   ·rw [Own]
    exact ⟨a,us',rfl,.inr ⟨by decide,fc',zqj,rfl,λ z=>na (hs a z),by rw [zkn];exact o⟩⟩
   ·exact (h2.full' (Z':=λ _=>True)).at trivial ⟨.l us,ha⟩ n2 λ _ _ n=>absurd trivial n
 | x::xs,ws,f,p + 1,cells,h,e=>by
  rw [OwnL] at h
  obtain ⟨v,s,f1,f2,rfl,rfl,dj,h1,h2⟩:=h
  obtain ⟨a,us,fc,e1,ha,hf,ol,hs,na,nx⟩:=h2.row (by simpa using e)
  refine ⟨a,us,fc,by simpa using e1,ha,ja2 _ hf,ol,λ b hb=>ja2 _ (hs b hb),na,λ cells' us' fc' o hs'=>?_⟩
  obtain ⟨f',s',o'⟩:=nx cells' us' fc' o hs'
  refine ⟨f1++f',λ b hb=>(jc0.mp hb).elim (λ z=>ja4 _ z) λ z=>ja2 _ (s' b z),?_⟩
  rw [jf2,OwnL]
  refine ⟨v,s,f1,f',rfl,rfl,λ b hb z=>dj b hb (s' b z),?_,o'⟩
  exact (Own.full (Z':=λ _=>True) x v f1 h1).at trivial ⟨.l us,ha⟩ (λ z=>dj a z hf) λ _ _ n=>absurd trivial n
theorem OwnL.setF {K:Frag}{Z:Addr->Prop}{y:PV}{d:Nat}{w:V}{fy:List Addr} (hy:Own K H Z y d w fy):∀ {xs:List PV}{ws:List V}{f:List Addr} (k:Nat),OwnL K H Z xs d ws f->(∀ b∈fy,b∉f)->∃ f',(∀ b∈f',b∈f\/b∈fy)/\OwnL K H Z (xs.set k y) d (ws.set k w) f'
 | [],ws,f,k,h,_=>by
  rw [OwnL] at h
  obtain ⟨rfl,rfl⟩:=h
  refine ⟨[],λ _ z=>(nomatch z),?_⟩
  rw [jk9,jk9,OwnL];exact ⟨rfl,rfl⟩
 | x::xs,ws,f,0,h,hd=>by
  rw [OwnL] at h
  obtain ⟨v,s,f1,f2,rfl,rfl,dj,h1,h2⟩:=h
  refine ⟨fy++f2,λ b hb=>(jc0.mp hb).elim .inr λ z=>.inl (ja2 _ z),?_⟩
  rw [jf1,jf1,OwnL]
  exact ⟨w,s,fy,f2,rfl,rfl,λ b hb z=>hd b hb (ja2 _ z),hy,h2⟩
 | x::xs,ws,f,k + 1,h,hd=>by
  rw [OwnL] at h
  obtain ⟨v,s,f1,f2,rfl,rfl,dj,h1,h2⟩:=h
  obtain ⟨f',hs,h'⟩:=h2.setF hy k λ b hb z=>hd b hb (ja2 _ z)
  refine ⟨f1++f',λ b hb=>(jc0.mp hb).elim (λ z=>.inl (ja4 _ z)) λ z=>(hs b z).elim (λ z=>.inl (ja2 _ z)) .inr,?_⟩
  rw [jf2,jf2,OwnL]
  exact ⟨v,s.set k w,f1,f',rfl,rfl,λ b hb hc=>(hs b hc).elim (dj b hb) λ z=>hd b z (ja4 _ hb),h1,h'⟩
theorem OwnL.rowP {K:Frag}{Z:Addr->Prop}:∀ {xs:List PV}{ws:List V}{f:List Addr}{p:Nat}{cells:List PV},OwnL K H Z xs om ws f->xs[p]?=some (.lst cells)->∃ a us fc,ws[p]?=some (.ref a)/\H a=some (.lst us)/\a∈f/\OwnL K H Z cells om us fc/\(∀ b∈fc,b∈f)/\a∉fc /\
  ∀ (cells':List PV) (us':List V) (fc' fy:List Addr),OwnL K (upd H a (.lst us')) (λ _=>True) cells' om us' fc'->(∀ b∈fc',b∈fc\/b∈fy)->(∀ b∈fy,b∉f)->∃ f',(∀ b∈f',b∈f\/b∈fy)/\OwnL K (upd H a (.lst us')) (λ _=>True) (xs.set p (.lst cells')) om ws f'
 | [],ws,f,p,cells,h,e=>by cases e
 | x::xs,ws,f,0,cells,h,e=>by
  cases e
  rw [OwnL] at h
  obtain ⟨v,s,f1,f2,rfl,rfl,dj,h1,h2⟩:=h
  obtain ⟨a,us,fc,rfl,ha,rfl,na,ol⟩:=h1.list (by decide:om≠0)
  rw [zkn] at ol
  refine ⟨a,us,fc,rfl,ha,by simp,ol,λ b hb=>by simp [hb],na,λ cells' us' fc' fy o hs hy=>⟨(a::fc')++f2,λ b hb=>?_,?_⟩⟩
  ·rcases jc0.mp hb with z | z
   ·rcases jb2.mp z with z | z
    ·simp [z]
    ·exact (hs b z).elim (λ z=>.inl (ja4 _ (ja0 _ z))) .inr
   ·exact .inl (ja2 _ z)
  ·have n2:a∉f2:=dj a ja1
   rw [jf1,OwnL]
   refine ⟨.ref a,s,a::fc',f2,rfl,rfl,λ b hb=>?_,?_,?_⟩
   ·rcases jb2.mp hb with z | z
    ·rw [z];exact n2
    ·exact (hs b z).elim (λ z=>dj b (ja0 _ z)) λ z w=>hy b z (ja2 _ w)
   ·rw [Own]
    exact ⟨a,us',rfl,.inr ⟨by decide,fc',zqj,rfl,λ z=>(hs a z).elim na λ z=>hy a z (ja4 _ ja1),by rw [zkn];exact o⟩⟩
   ·exact (h2.full' (Z':=λ _=>True)).at trivial ⟨.l us,ha⟩ n2 λ _ _ n=>absurd trivial n
 | x::xs,ws,f,p + 1,cells,h,e=>by
  rw [OwnL] at h
  obtain ⟨v,s,f1,f2,rfl,rfl,dj,h1,h2⟩:=h
  obtain ⟨a,us,fc,e1,ha,hf,ol,hs,na,nx⟩:=h2.rowP (by simpa using e)
  refine ⟨a,us,fc,by simpa using e1,ha,ja2 _ hf,ol,λ b hb=>ja2 _ (hs b hb),na,λ cells' us' fc' fy o hs' hy=>?_⟩
  obtain ⟨f',s',o'⟩:=nx cells' us' fc' fy o hs' λ b hb z=>hy b hb (ja2 _ z)
  refine ⟨f1++f',λ b hb=>(jc0.mp hb).elim (λ z=>.inl (ja4 _ z)) λ z=>(s' b z).elim (λ z=>.inl (ja2 _ z)) .inr,?_⟩
  rw [jf2,OwnL]
  refine ⟨v,s,f1,f',rfl,rfl,λ b hb z=>(s' b z).elim (dj b hb) λ z=>hy b z (ja4 _ hb),?_,o'⟩
  exact (Own.full (Z':=λ _=>True) x v f1 h1).at trivial ⟨.l us,ha⟩ (λ z=>dj a z hf) λ _ _ n=>absurd trivial n
def put2 (x:PV) (a b:Int) (y:PV):Option PV:=match x with
 | .lst rows=>(match ixN rows.length a with
  | some p=>(match rows[p]? with
   | some (.lst cells)=>(match ixN cells.length b with
    | some q=>some (.lst (rows.set p (.lst (cells.set q y))))
    | none=>none)
   | _=>none)
  | none=>none)
 | _=>none
def qhd (i:Nat) (fi fj f:Fx):Fs:=λ ρ=>match f ρ with
 | .ok (y,e,ρ1)=>(match ρ1[i]? with
  | some (some (x,d))=>(match fi ρ1 with
   | .ok (.int a,_,ρ2)=>(match fj ρ2 with
    | .ok (.int b,_,ρ3)=>(match put2 x a b y with
     | some x'=>if d=om/\zfo y=true then .nx (ρ3.set i (some (x',om))) else if d=om/\e=om then .nx (ρ3.set i (some (x',0))) else .no
     | none=>.no)
    | _=>.no)
   | _=>.no)
  | _=>.no)
 | _=>.no
theorem qbg {x x' y:PV}{a b:Int} (h:put2 x a b y=some x'):∃ rows p cells q,x=.lst rows/\ixN rows.length a=some p/\rows[p]?=some (.lst cells)/\ixN cells.length b=some q/\x'=.lst (rows.set p (.lst (cells.set q y))):=by
 unfold put2 at h
 split at h
 ·rename_i rows
  split at h
  ·rename_i p ep
   split at h
   ·rename_i cells er
    split at h
    ·rename_i q eq
     cases h
     exact ⟨rows,p,cells,q,rfl,ep,er,eq,rfl⟩
    ·cases h
   ·cases h
  ·cases h
 ·cases h
theorem KD.top (k:KD M H fps H' fps') (r:Rep M ρ σ H fps) {i:Nat}{a:Addr}{o:HO} (hm:M.Ms i=false) (ha:a∈fps i) (h:H a=some o):H' a=some o:=
 k.keep a o h λ ⟨j,hj,hb⟩=>r.dj i j (λ e=>by rw [e,hj] at hm;cases hm) a ha hb
theorem qgp {f fi fj:Fx}{vi vj:List Nat}{i:Nat}{D:Ends} (hal:∀ i,M.al i=[]) (hm:M.Ms i=false) (hq:tS M (qhd i fi fj f) D σ H):tAsg (tE M f vs) (gSub (tOp (rIxL M.K) (tVar i) (tE M fi vi)) (tE M fj vj) qbf) D σ H:=by
 obtain ⟨ρ,fps,rep,q⟩:=hq
 refine ⟨ρ,fps,rep,?_⟩
 unfold qhd at q
 cases ef:f ρ with
 | no=>rw [ef] at q;exact q
 | exc c=>rw [ef] at q;exact q.elim
 | ok p0=>
  obtain ⟨y,e,ρ1⟩:=p0
  rw [ef] at q
  intro w H1 fps1 fp k1 g1 rep1 o1 t1
  dsimp only at q
  cases ei:ρ1[i]? with
  | none=>rw [ei] at q;exact q.elim
  | some s1=>
   rw [ei] at q
   cases s1 with
   | none=>exact q.elim
   | some s1=>
    obtain ⟨x1,dx1⟩:=s1
    obtain ⟨v,hσ,_⟩:=rep1.own0 hal i _ _ ei
    dsimp only at q
    refine ⟨v,hσ,ρ1,fps1,rep1,?_⟩
    split at q
    ·rename_i a da ρ2 e1
     rw [e1]
     intro va H2 fps2 fpa k2 g2 rep2 oa ta
     rw [Own] at oa
     obtain ⟨rfl,rfl⟩:=oa
     split at q
     ·rename_i b db ρ3 e2
      split at q
      ·rename_i x' ex
       obtain ⟨rows,p,cells,jq,rfl,ep,er,eq,rfl⟩:=qbg ex
       split at q
       ·rename_i hc
        obtain ⟨rfl,hy⟩:=hc
        obtain ⟨rfl,oy⟩:=Own.flatA (Z':=λ _=>True) (d':=om) hy o1
        have e2i:ρ2[i]?=some (some (.lst rows,om)):=by rw [g2.1 i hm];exact ei
        obtain ⟨v2,hσ2,ol2⟩:=rep2.own0 hal i _ _ e2i
        rw [hσ] at hσ2
        cases hσ2
        obtain ⟨a0,ws,f2,rfl,ha2,hf2,na2,hol2⟩:=ol2.list (by decide:om≠0)
        rw [zkn] at hol2
        obtain ⟨r,us,fc,ew,hr,hrf,oc,sc,nrc,_⟩:=hol2.row er
        have hai:a0∈fps2 i:=by rw [hf2];exact ja1
        have hri2:r∈fps2 i:=by rw [hf2];exact ja0 _ hrf
        refine ⟨a0,ws,a,.ref r,rfl,rfl,.inl (.inl ha2),?_,ρ2,fps2,rep2,?_⟩
        ·unfold atI
         rw [hol2.length,ep]
         exact ew
        rw [e2]
        intro vb H3 fps3 fpb k3 g3 rep3 ob tb
        rw [Own] at ob
        obtain ⟨rfl,rfl⟩:=ob
        have e3:ρ3[i]?=some (some (.lst rows,om)):=by rw [g3.1 i hm];exact e2i
        obtain ⟨v3,hσ3,ol3⟩:=rep3.own0 hal i _ _ e3
        rw [hσ] at hσ3
        cases hσ3
        obtain ⟨a',ws3,f3,ev,ha3,hf3,na3,hol3⟩:=ol3.list (by decide:om≠0)
        cases ev
        have hai3:a0∈fps3 i:=by rw [hf3];exact ja1
        have ht:=k3.top rep2 hm hai ha2
        rw [ha3] at ht
        cases ht
        rw [zkn] at hol3
        obtain ⟨r',us3,fc3,ew3,hr3,hrf3,oc3,sc3,nrc3,nx⟩:=hol3.row er
        rw [ew] at ew3
        cases ew3
        have hri:r∈fps3 i:=by rw [hf3];exact ja0 _ hrf3
        refine ⟨r,us3,b,jq,rfl,rfl,hr3,by rw [oc3.length];exact eq,?_⟩
        have oy2:Own M.K H2 (λ _=>True) y om w []:=Own.move k2.keep (λ a ⟨_,_,h⟩=>⟨trivial,rep1.lsts h⟩) (λ _ _ n=>absurd trivial n) y om w [] (λ _ z=>nomatch z) oy
        have oy3:Own M.K H3 (λ _=>True) y om w []:=Own.move k3.keep (λ a ⟨_,_,h⟩=>⟨trivial,rep2.lsts h⟩) (λ _ _ n=>absurd trivial n) y om w [] (λ _ z=>nomatch z) oy2
        obtain ⟨fc',sc',oc'⟩:=(oc3.full' (Z':=λ _=>True)).set oy3 jq
        have oc2:OwnL M.K (upd H3 r (.lst (us3.set jq w))) (λ _=>True) (cells.set jq y) om (us3.set jq w) fc':=oc'.at trivial ⟨.l us3,hr3⟩ (λ z=>nrc3 (sc' r z)) λ _ _ n=>absurd trivial n
        obtain ⟨f',s',o'⟩:=nx _ _ fc' oc2 sc'
        have nea:a0≠r:=λ e=>na3 (by rw [e];exact hrf3)
        have dm:∀ b,H3 b≠none->(upd H3 r (.lst (us3.set jq w))) b≠none:=λ b h=>by
         by_cases eb:b=r
         ·rw [eb,zqj];simp
         ·rw [zqg eb];exact h
        have hsub:∀ b∈a0::f',b∈fps3 i:=λ b hb=>by
         rw [hf3]
         exact (jb2.mp hb).elim (λ z=>by rw [z];exact ja1) λ z=>ja0 _ (s' b z)
        have kw:KS M H3 fps3 (upd H3 r (.lst (us3.set jq w))) (λ j=>if j=i then a0::f' else fps3 j):=⟨λ b u hb n=>by rw [zqg (λ e=>n ⟨i,by rw [e];exact hri⟩)];exact hb,dm,λ j b hb=>by
         by_cases ej:j=i
         ·simp only [if_pos ej] at hb;exact .inl ⟨i,hsub b hb⟩
         ·simp only [if_neg ej] at hb;exact .inl ⟨j,hb⟩⟩
        refine q σ _ _ (((k1.ks.trans k2.ks).trans k3.ks).trans kw) (rep3.change hal e3 hσ (λ b u hb n=>by rw [zqg (λ e=>n (by rw [e];exact hri))];exact hb) dm hsub (λ _=>rfl) ?_)
        rw [Own]
        exact ⟨a0,ws,rfl,.inr ⟨by decide,f',by rw [zqg nea];exact ha3,rfl,λ z=>na3 (s' a0 z),o'.full'⟩⟩
       ·split at q
        ·rename_i hc
         obtain ⟨rfl,rfl⟩:=hc
         have oy:Own M.K H1 (λ _=>True) y om w fp:=Own.full _ _ _ o1
         have e2i:ρ2[i]?=some (some (.lst rows,om)):=by rw [g2.1 i hm];exact ei
         obtain ⟨v2,hσ2,ol2⟩:=rep2.own0 hal i _ _ e2i
         rw [hσ] at hσ2
         cases hσ2
         obtain ⟨a0,ws,f2,rfl,ha2,hf2,na2,hol2⟩:=ol2.list (by decide:om≠0)
         rw [zkn] at hol2
         obtain ⟨r,us,fc,ew,hr,hrf,oc,sc,nrc,_⟩:=hol2.row er
         have hai:a0∈fps2 i:=by rw [hf2];exact ja1
         refine ⟨a0,ws,a,.ref r,rfl,rfl,.inl (.inl ha2),?_,ρ2,fps2,rep2,?_⟩
         ·unfold atI
          rw [hol2.length,ep]
          exact ew
         rw [e2]
         intro vb H3 fps3 fpb k3 g3 rep3 ob tb
         rw [Own] at ob
         obtain ⟨rfl,rfl⟩:=ob
         have e3:ρ3[i]?=some (some (.lst rows,om)):=by rw [g3.1 i hm];exact e2i
         obtain ⟨v3,hσ3,ol3⟩:=rep3.own0 hal i _ _ e3
         rw [hσ] at hσ3
         cases hσ3
         obtain ⟨a',ws3,f3,ev,ha3,hf3,na3,hol3⟩:=ol3.list (by decide:om≠0)
         cases ev
         have hai3:a0∈fps3 i:=by rw [hf3];exact ja1
         have ht:=k3.top rep2 hm hai ha2
         rw [ha3] at ht
         cases ht
         rw [zkn] at hol3
         obtain ⟨r',us3,fc3,ew3,hr3,hrf3,oc3,sc3,nrc3,nx⟩:=hol3.rowP er
         rw [ew] at ew3
         cases ew3
         have hri:r∈fps3 i:=by rw [hf3];exact ja0 _ hrf3
         refine ⟨r,us3,b,jq,rfl,rfl,hr3,by rw [oc3.length];exact eq,?_⟩
         have n2:∀ b∈fp,¬ Zf M fps2 b:=λ b hb z=>by
          rcases z with z | ⟨j,z⟩
          ·exact t1.ndj b hb (.inl z)
          ·rcases k2.sub j b z with z | z
           ·exact t1.ndj b hb (.inr ⟨j,z⟩)
           ·obtain ⟨o,ho⟩:=Own.lsts y _ w fp oy b hb
            rw [ho] at z
            cases z
         have oy2:Own M.K H2 (λ _=>True) y om w fp:=Own.move k2.keep (λ a ⟨_,_,h⟩=>⟨trivial,rep1.lsts h⟩) (λ _ _ n=>absurd trivial n) y om w fp (λ a ha ⟨j,_,hj⟩=>t1.ndj a ha (.inr ⟨j,hj⟩)) oy
         have n3:∀ b∈fp,¬ Zf M fps3 b:=λ b hb z=>by
          rcases z with z | ⟨j,z⟩
          ·exact n2 b hb (.inl z)
          ·rcases k3.sub j b z with z | z
           ·exact n2 b hb (.inr ⟨j,z⟩)
           ·obtain ⟨o,ho⟩:=Own.lsts y _ w fp oy2 b hb
            rw [ho] at z
            cases z
         have oy3:Own M.K H3 (λ _=>True) y om w fp:=Own.move k3.keep (λ a ⟨_,_,h⟩=>⟨trivial,rep2.lsts h⟩) (λ _ _ n=>absurd trivial n) y om w fp (λ a ha ⟨j,_,hj⟩=>n2 a ha (.inr ⟨j,hj⟩)) oy2
         have nfp:∀ b∈fp,b∉f3:=λ b hb z=>n3 b hb (.inr ⟨i,by rw [hf3];exact ja0 _ z⟩)
         obtain ⟨fc',sc',oc'⟩:=(oc3.full' (Z':=λ _=>True)).setF oy3 jq λ b hb z=>nfp b hb (sc3 b z)
         have oc2:OwnL M.K (upd H3 r (.lst (us3.set jq w))) (λ _=>True) (cells.set jq y) om (us3.set jq w) fc':=oc'.at trivial ⟨.l us3,hr3⟩ (λ z=>(sc' r z).elim nrc3 λ z=>nfp r z hrf3) λ _ _ n=>absurd trivial n
         obtain ⟨f',s',o'⟩:=nx _ _ fc' fp oc2 sc' nfp
         have nea:a0≠r:=λ e=>na3 (by rw [e];exact hrf3)
         have dm:∀ b,H3 b≠none->(upd H3 r (.lst (us3.set jq w))) b≠none:=λ b h=>by
          by_cases eb:b=r
          ·rw [eb,zqj];simp
          ·rw [zqg eb];exact h
         have oF:Own M.K (upd H3 r (.lst (us3.set jq w))) (λ _=>True) (.lst (rows.set p (.lst (cells.set jq y)))) om (.ref a0) (a0::f'):=by
          rw [Own]
          exact ⟨a0,ws,rfl,.inr ⟨by decide,f',by rw [zqg nea];exact ha3,rfl,λ z=>(s' a0 z).elim na3 λ z=>n3 a0 z (.inr ⟨i,hai3⟩),by rw [zkn];exact o'⟩⟩
         have nz:∀ b∈a0::f',¬ Zf M (λ j=>if j=i then [] else fps3 j) b:=λ b hb z=>by
          have hz:Zf M fps3 b:=by
           rcases z with z | ⟨j,z⟩
           ·exact .inl z
           ·by_cases ej:j=i
            ·simp only [if_pos ej] at z;cases z
            ·simp only [if_neg ej] at z;exact .inr ⟨j,z⟩
          have hin:b∈fps3 i:=by
           rw [hf3]
           rcases jb2.mp hb with e | hb
           ·rw [e];exact ja1
           ·exact (s' b hb).elim (λ z=>ja0 _ z) λ z=>absurd hz (n3 b z)
          rcases z with z | ⟨j,z⟩
          ·exact rep3.zo i b hin z
          ·by_cases ej:j=i
           ·simp only [if_pos ej] at z;cases z
           ·simp only [if_neg ej] at z;exact rep3.dj i j (vc2 ej) b hin z
         have kw:KS M H3 fps3 (upd H3 r (.lst (us3.set jq w))) (λ j=>if j=i then [] else fps3 j):=⟨λ b u hb n=>by rw [zqg (λ e=>n ⟨i,by rw [e];exact hri⟩)];exact hb,dm,λ j b hb=>by
          by_cases ej:j=i
          ·simp only [if_pos ej] at hb;cases hb
          ·simp only [if_neg ej] at hb;exact .inl ⟨j,hb⟩⟩
         refine q σ _ _ (((k1.ks.trans k2.ks).trans k3.ks).trans kw) (rep3.change (f':=[]) hal e3 hσ (λ b u hb n=>by rw [zqg (λ e=>n (by rw [e];exact hri))];exact hb) dm (λ _ z=>nomatch z) (λ h=>by rw [hm] at h;cases h) ?_)
         exact Own.freeze (λ _ _=>trivial) _ _ _ _ nz oF
        ·exact q.elim
      ·exact q.elim
     ·exact q.elim
    ·exact q.elim
theorem qmr {P:va8}{w:vb6}{K:Frag}{mg:Str->Option va0}{base:Heap}{lvl:Nat}{fa:Addr}{fd:vc3}{ps:List Str}{io:Bool}{np:Nat} (h:ps.length=np):FnOk P w K mg base (CXr P w K) lvl fa fd ps (spF K io np (λ _=>.no)):=
 ⟨λ vs H Q E h1=>h1.1.trans h.symm,λ A outer s H args us vs Q E _ _ _ _ h1=>by
  obtain ⟨_,_,_,_,_,_,_,_,_,_,z⟩:=h1
  exact z.elim⟩
end
section
variable {M:Fm}{ρ ρ':Rho}{σ σ':St}{H H' H'':Hp}{fps fps' fps'':Fps}{vs vs':List Nat}
theorem qhm {i p:Nat}{rows cells:List PV}{v:V} (hal:∀ i,M.al i=[]) (rep:Rep M ρ σ H fps) (e:ρ[i]?=some (some (.lst rows,om))) (hσ:σ[i]?=some (some v)) (er:rows[p]?=some (.lst cells)):
  ∃ a0 ws f r us fc,v=.ref a0/\H a0=some (.lst ws)/\fps i=a0::f/\a0∉f/\OwnL M.K H (Zf M fps) rows om ws f/\ws[p]?=some (.ref r)/\H r=some (.lst us)/\r∈f/\OwnL M.K H (Zf M fps) cells om us fc:=by
 obtain ⟨v2,hσ2,ol⟩:=rep.own0 hal i _ _ e
 rw [hσ] at hσ2
 cases hσ2
 obtain ⟨a0,ws,f,rfl,ha,hf,na,hol⟩:=ol.list (by decide:om≠0)
 rw [zkn] at hol
 obtain ⟨r,us,fc,ew,hr,hrf,oc,_⟩:=hol.row er
 exact ⟨a0,ws,f,r,us,fc,rfl,ha,hf,na,hol,ew,hr,hrf,oc⟩
def app2 (x:PV) (a:Int) (y:PV):Option PV:=match x with
 | .lst rows=>(match ixN rows.length a with
  | some p=>(match rows[p]? with
   | some (.lst cells)=>if cells.length < va2 then some (.lst (rows.set p (.lst (cells++[y])))) else none
   | _=>none)
  | none=>none)
 | _=>none
theorem qde {x x' y:PV}{a:Int} (h:app2 x a y=some x'):∃ rows p cells,x=.lst rows/\ixN rows.length a=some p/\rows[p]?=some (.lst cells)/\cells.length < va2/\x'=.lst (rows.set p (.lst (cells++[y]))):=by
 unfold app2 at h
 split at h
 ·rename_i rows
  split at h
  ·rename_i p ep
   split at h
   ·rename_i cells er
    split at h
    ·rename_i hl
     cases h
     exact ⟨rows,p,cells,rfl,ep,er,hl,rfl⟩
    ·cases h
   ·cases h
  ·cases h
 ·cases h
def zpv (i:Nat) (fi f:Fx):Fs:=λ ρ=>match ρ[i]?,fi ρ with
 | some (some (x,d)),.ok (.int a,_,ρ1)=>(match f ρ1 with
  | .ok (y,_,ρ2)=>(match app2 x a y with
   | some x'=>if d=om/\zzy y=true then .nx (ρ2.set i (some (x',om))) else .no
   | none=>.no)
  | _=>.no)
 | _,_=>.no
theorem qgs {f fi:Fx}{vi:List Nat}{i:Nat}{D:Ends} (hal:∀ i,M.al i=[]) (hm:M.Ms i=false) (hq:tS M (zpv i fi f) D σ H):qdr (tBM M.K "list" zfh (tOp (rIxL M.K) (tVar i) (tE M fi vi)) (qa5 (tE M f vs) tNil)) D σ H:=by
 obtain ⟨ρ,fps,rep,q⟩:=hq
 unfold zpv at q
 split at q
 ·rename_i x d a da ρ1 ei e1
  split at q
  ·rename_i y dy ρ2 e2
   split at q
   ·rename_i x' ex
    split at q
    ·rename_i hc
     obtain ⟨rfl,hy⟩:=hc
     obtain ⟨rows,p,cells,rfl,ep,er,hl,rfl⟩:=qde ex
     obtain ⟨v,hσ,_⟩:=rep.own0 hal i _ _ ei
     refine ⟨v,hσ,ρ,fps,rep,?_⟩
     rw [e1]
     intro va H1 fps1 fpa k1 g1 rep1 oa ta
     rw [Own] at oa
     obtain ⟨rfl,rfl⟩:=oa
     have ei1:ρ1[i]?=some (some (.lst rows,om)):=by rw [g1.1 i hm];exact ei
     obtain ⟨a0,ws,f1,r,us,fc,rfl,ha1,hf1,na1,hol1,ew,hr1,hrf1,oc1⟩:=qhm hal rep1 ei1 hσ er
     refine ⟨a0,ws,a,.ref r,rfl,rfl,.inl (.inl ha1),(by unfold atI;rw [hol1.length,ep];exact ew),qav (.inl (.inl hr1)),ρ1,fps1,rep1,?_⟩
     rw [e2]
     intro w H2 fps2 fp k2 g2 rep2 oy ty
     obtain ⟨rfl,oy2⟩:=Own.atom (Z':=λ _=>True) (d':=om) hy oy
     have ei2:ρ2[i]?=some (some (.lst rows,om)):=by rw [g2.1 i hm];exact ei1
     obtain ⟨v3,hσ3,ol3⟩:=rep2.own0 hal i _ _ ei2
     rw [hσ] at hσ3
     cases hσ3
     obtain ⟨a',ws3,f3,ev,ha3,hf3,na3,hol3⟩:=ol3.list (by decide:om≠0)
     cases ev
     have ht:=k2.top rep1 hm (show a0∈fps1 i by rw [hf1];exact ja1) ha1
     rw [ha3] at ht
     cases ht
     rw [zkn] at hol3
     obtain ⟨r',us3,fc3,ew3,hr3,hrf3,oc3,sc3,nrc3,nx⟩:=hol3.row er
     rw [ew] at ew3
     cases ew3
     have hri:r∈fps2 i:=by rw [hf3];exact ja0 _ hrf3
     refine ⟨r,us3,w,rfl,rfl,hr3,by rw [oc3.length];exact hl,?_⟩
     have oc':OwnL M.K H2 (λ _=>True) (cells++[y]) om (us3++[w]) (fc3++[]):=(oc3.full' (Z':=λ _=>True)).snoc oy2 λ _ _ z=>nomatch z
     rw [jf5] at oc'
     have oc4:OwnL M.K (upd H2 r (.lst (us3++[w]))) (λ _=>True) (cells++[y]) om (us3++[w]) fc3:=oc'.at trivial ⟨.l us3,hr3⟩ nrc3 λ _ _ n=>absurd trivial n
     obtain ⟨f',s',o'⟩:=nx _ _ fc3 oc4 λ _ z=>z
     have nea:a0≠r:=λ e=>na3 (by rw [e];exact hrf3)
     have dm:∀ b,H2 b≠none->(upd H2 r (.lst (us3++[w]))) b≠none:=λ b h=>by
      by_cases eb:b=r
      ·rw [eb,zqj];simp
      ·rw [zqg eb];exact h
     have hsub:∀ b∈a0::f',b∈fps2 i:=λ b hb=>by
      rw [hf3]
      exact (jb2.mp hb).elim (λ z=>by rw [z];exact ja1) λ z=>ja0 _ (s' b z)
     have kw:KS M H2 fps2 (upd H2 r (.lst (us3++[w]))) (λ j=>if j=i then a0::f' else fps2 j):=⟨λ b u hb n=>by rw [zqg (λ e=>n ⟨i,by rw [e];exact hri⟩)];exact hb,dm,λ j b hb=>by
      by_cases ej:j=i
      ·simp only [if_pos ej] at hb;exact .inl ⟨i,hsub b hb⟩
      ·simp only [if_neg ej] at hb;exact .inl ⟨j,hb⟩⟩
     refine q σ _ _ ((k1.ks.trans k2.ks).trans kw) (rep2.change hal ei2 hσ (λ b u hb n=>by rw [zqg (λ e=>n (by rw [e];exact hri))];exact hb) dm hsub (λ _=>rfl) ?_)
     rw [Own]
     exact ⟨a0,ws,rfl,.inr ⟨by decide,f',by rw [zqg nea];exact ha3,rfl,λ z=>na3 (s' a0 z),o'.full'⟩⟩
    ·exact q.elim
   ·exact q.elim
  ·exact q.elim
 ·exact q.elim
end
section
variable {is:List Nat}{M:Fm}{ρ ρ':Rho}{σ σ':St}{H H' H'':Hp}{fps fps' fps'':Fps}{vs vs':List Nat}{D:Ends}
end
section
variable {is:List Nat}{M:Fm}{ρ ρ':Rho}{σ σ':St}{H H' H'':Hp}{fps fps' fps'':Fps}{vs vs':List Nat}{D:Ends}
end
section
variable {M:Fm}{ρ ρ':Rho}{σ σ':St}{H H':Hp}{fps fps':Fps}{F F':Addr->Prop}{P P':List (Nat×V)}
end
section
variable {is:List Nat}{X:Cx}{M:Fm}{ρ ρ':Rho}{σ σ':St}{H H' H'':Hp}{fps fps' fps'':Fps}{vs vs':List Nat}{D:Ends}
def qj7:TSet:=λ o i v H Q=>∃ a H',o=.ref a/\DPut H a i v H'/\Q H'
def ql8:TSet:=λ o i v H Q=>qbf o i v H Q\/qj7 o i v H Q
theorem ql4 (hu:X.A.units + 1 < ve8):PSet X qj7:=by
 intro pins s σ H o i v ov iv u Q I ro ri rv h
 obtain ⟨a,H',rfl,g,q⟩:=h
 obtain rfl:ov=Value.ref a:=ro
 exact qcu hu I g ri rv λ s' I'=>⟨H',I',q⟩
theorem PSet.or {t t':TSet} (h:PSet X t) (h':PSet X t'):PSet X (λ o i v H Q=>t o i v H Q\/t' o i v H Q):=by
 intro pins s σ H o i v ov iv u Q I ro ri rv q
 rcases q with q | q
 ·exact h pins s σ H o i v ov iv u Q I ro ri rv q
 ·exact h' pins s σ H o i v ov iv u Q I ro ri rv q
theorem qj1 {K:Frag}{Z:Addr->Prop}{y:PV}{u:V}{d:Nat}{w:V}{fp:List Addr} (h:sV y=some u) (o:Own K H Z y d w fp):w=u/\zzy y=true:=by
 cases y <;> cases h <;> (rw [Own] at o;exact ⟨o.1,rfl⟩)
def putX (x:PV) (k y:PV):Option PV:=match x,k with
 | .lst xs,.int i=>(match ixN xs.length i with
  | some j=>some (.lst (xs.set j y))
  | none=>none)
 | .dct kvs,.tup ks=>(match keyL ks,sV y with
  | some k,some u=>if kvs.length < va2 then some (.dct (putK kvs k u)) else none
  | _,_=>none)
 | _,_=>none
def isL:PV->Bool
 | .lst _=>true
 | _=>false
def zvz (i:Nat) (fk f:Fx):Fs:=λ ρ=>match f ρ with
 | .ok (y,e,ρ1)=>(match ρ1[i]? with
  | some (some _)=>(match fk ρ1 with
   | .ok (k,_,ρ2)=>(match ρ2[i]? with
    | some (some (x,d))=>(match putX x k y with
     | some x'=>if d≠0/\zfo y=true then .nx (ρ2.set i (some (x',d))) else if d≠0/\e=om/\isL x=true then .nx (ρ2.set i (some (x',1))) else .no
     | none=>.no)
    | _=>.no)
   | _=>.no)
  | _=>.no)
 | .exc c=>.exc c
 | .no=>.no
theorem Rep.poke {i:Nat}{x x':PV}{d:Nat}{a:Addr}{o':HO}{f':List Addr}{H0:Hp}{fps0:Fps} (hal:∀ i,M.al i=[]) (k0:KS M H0 fps0 H fps) (r:Rep M ρ σ H fps) (hi:ρ[i]?=some (some (x,d))) (hσ:σ[i]?=some (some (.ref a))) (ha:a∈fps i) (hs:∀ b∈f',b∈fps i)
  (o:Own M.K (upd H a o') (Zf M (λ j=>if j=i then f' else fps j)) x' d (.ref a) f'):KS M H0 fps0 (upd H a o') (λ j=>if j=i then f' else fps j)/\Rep M (ρ.set i (some (x',d))) σ (upd H a o') (λ j=>if j=i then f' else fps j):=by
 have dm:∀ b,H b≠none->upd H a o' b≠none:=λ b hb=>by
  by_cases eb:b=a
  ·rw [eb,zqj];simp
  ·rw [zqg eb];exact hb
 refine ⟨⟨λ b u hb n=>?_,λ b hb=>dm b (k0.dom b hb),λ j b hb=>?_⟩,r.change hal hi hσ (λ b u hb n=>?_) dm hs (λ h=>r.msf i _ _ h hi) o⟩
 ·have hb1:=k0.keep b u hb n
  rw [zqg]
  ·exact hb1
  ·rintro rfl
   rcases k0.sub i b ha with z | z
   ·exact n z
   ·rw [z] at hb;cases hb
 ·by_cases ej:j=i
  ·simp only [if_pos ej] at hb;exact k0.sub i b (hs b hb)
  ·simp only [if_neg ej] at hb;exact k0.sub j b hb
 ·rw [zqg]
  ·exact hb
  ·rintro rfl;exact n ha
theorem qgn {f fk:Fx}{vk:List Nat}{i:Nat} (hal:∀ i,M.al i=[]) (hm:M.Ms i=false) (hv:∀ i∈vs,M.Ms i=false) (hq:tS M (zvz i fk f) D σ H):tAsg (tE M f vs) (gSub (tVar i) (tE M fk vk) ql8) D σ H:=by
 obtain ⟨ρ,fps,rep,q⟩:=hq
 refine ⟨ρ,fps,rep,?_⟩
 unfold zvz at q
 cases ef:f ρ with
 | no=>rw [ef] at q;exact q
 | exc c=>rw [ef] at q;exact λ H' fps' k=>q _ H' fps' k.ks
 | ok p=>
  obtain ⟨y,e,ρ1⟩:=p
  rw [ef] at q
  intro w H1 fps1 fp k1 g1 rep1 o1 t1
  dsimp only at q
  cases e1:ρ1[i]? with
  | none=>rw [e1] at q;exact q.elim
  | some s1=>
   rw [e1] at q
   cases s1 with
   | none=>exact q.elim
   | some p1=>
   obtain ⟨x1,d1⟩:=p1
   dsimp only at q
   obtain ⟨v0,hσ,_⟩:=rep1.own i _ _ e1
   refine ⟨v0,hσ,ρ1,fps1,rep1,?_⟩
   cases ek:fk ρ1 with
   | no=>rw [ek] at q;exact q.elim
   | exc c=>rw [ek] at q;exact q.elim
   | ok p2=>
    obtain ⟨k,ek',ρ2⟩:=p2
    rw [ek] at q
    intro kv H2 fps2 f2 k2 g2 rep2 o2 t2
    dsimp only at q
    cases e2:ρ2[i]? with
    | none=>rw [e2] at q;exact q.elim
    | some s2=>
     rw [e2] at q
     cases s2 with
     | none=>exact q.elim
     | some p3=>
      obtain ⟨x,d⟩:=p3
      dsimp only at q
      cases ep:putX x k y with
      | none=>rw [ep] at q;exact q.elim
      | some x'=>
       rw [ep] at q
       dsimp only at q
       split at q
       ·rename_i hc
        obtain ⟨hd,hy⟩:=hc
        obtain ⟨v1,hσ1,ox⟩:=rep2.own0 hal i _ _ e2
        rw [hσ] at hσ1
        cases hσ1
        have k12:KS M H fps H2 fps2:=k1.ks.trans k2.ks
        unfold putX at ep
        split at ep
        ·rename_i xs n
         split at ep
         ·rename_i j ej
          cases ep
          rw [Own] at o2
          obtain ⟨rfl,_⟩:=o2
          obtain ⟨a,ws,fc,rfl,ha,hfp,nac,hol⟩:=ox.list hd
          have hai:a∈fps2 i:=by rw [hfp];exact ja1
          have ow:Own M.K H2 (Zf M fps2) y (pd d) w []:=(Own.flatA (d':=pd d) hy (k2.stay rep1 hv o1 t1.ndj)).2
          obtain ⟨fc',hs',hset⟩:=hol.set ow j
          have inI:∀ b,b∈a::fc'->b∈fps2 i:=λ b hb=>(jb2.mp hb).elim (λ z=>by rw [z];exact hai) λ z=>by rw [hfp];exact ja0 _ (hs' b z)
          have nz:∀ b,Zf M (λ j=>if j=i then a::fc' else fps2 j) b->Zf M fps2 b:=λ b h=>by
           rcases h with z | ⟨j,z⟩
           ·exact .inl z
           ·by_cases ej:j=i
            ·simp only [if_pos ej] at z;exact .inr ⟨i,inI b z⟩
            ·simp only [if_neg ej] at z;exact .inr ⟨j,z⟩
          refine .inl ⟨a,ws,n,j,rfl,rfl,ha,by rw [hol.length];exact ej,?_⟩
          have pk:=rep2.poke (o':=.lst (ws.set j w)) (x':=.lst (xs.set j y)) (f':=a::fc') hal k12 e2 hσ hai inI (by
           rw [Own]
           exact ⟨a,_,rfl,.inr ⟨hd,fc',zqj,rfl,λ z=>nac (hs' a z),hset.at (.inr ⟨i,hai⟩) ⟨.l ws,ha⟩ (λ z=>nac (hs' a z)) λ b _ n z=>n (nz b z)⟩⟩)
          exact q σ _ _ pk.1 pk.2
         ·cases ep
        ·rename_i kvs ks
         split at ep
         ·rename_i kk u ekk eu
          split at ep
          ·rename_i hl
           cases ep
           obtain ⟨rfl,_⟩:=qj1 eu o1
           rw [Own] at o2
           obtain ⟨b,ws,rfl,hb,ol⟩:=o2
           have:=zku ekk ol
           subst this
           have hx:∃ a,v0=.ref a/\H2 a=some (.dT kvs)/\fps2 i=[a]:=by
            rw [Own] at ox
            obtain ⟨a,ea,⟨d0,_⟩ | ⟨_,ha,hf⟩⟩:=ox
            ·exact absurd d0 hd
            ·exact ⟨a,ea,ha,hf⟩
           obtain ⟨a,rfl,ha,hf⟩:=hx
           have hai:a∈fps2 i:=by rw [hf];exact ja1
           refine .inr ⟨a,_,rfl,DPut.t ha hb hl,?_⟩
           have pk:=rep2.poke (o':=.dT (putK kvs kk w)) (x':=.dct (putK kvs kk w)) (f':=[a]) hal k12 e2 hσ hai (λ b hb=>by rw [jb6.mp hb];exact hai) (by
            rw [Own]
            exact ⟨a,rfl,.inr ⟨hd,zqj,rfl⟩⟩)
           exact q σ _ _ pk.1 pk.2
          ·cases ep
         ·cases ep
        ·cases ep
       ·split at q
        ·rename_i hc
         obtain ⟨hd,rfl,hx⟩:=hc
         obtain ⟨v1,hσ1,ox⟩:=rep2.own0 hal i _ _ e2
         rw [hσ] at hσ1
         cases hσ1
         cases x with
         | lst xs=>
          unfold putX at ep
          cases k with
          | int n=>
           dsimp only at ep
           split at ep
           ·rename_i j ej
            cases ep
            rw [Own] at o2
            obtain ⟨rfl,_⟩:=o2
            obtain ⟨a,ws,fc,rfl,ha,hfp,nac,hol⟩:=ox.list hd
            have hai:a∈fps2 i:=by rw [hfp];exact ja1
            have oy:=k2.stay rep1 hv o1 t1.ndj
            have n2:∀ b∈fp,¬ Zf M fps2 b:=λ b hb z=>by
             rcases z with z | ⟨j,z⟩
             ·exact t1.ndj b hb (.inl z)
             ·rcases k2.sub j b z with z | z
              ·exact t1.ndj b hb (.inr ⟨j,z⟩)
              ·obtain ⟨o,ho⟩:=Own.lsts y _ w fp o1 b hb
               rw [ho] at z
               cases z
            have hafp:a∉fp:=λ z=>n2 a z (.inr ⟨i,hai⟩)
            have hst:∃ j,a∈fps j:=⟨i,by have:=(k1.trans k2).same i hm;rw [<- this];exact hai⟩
            have rw2:Rep (M.plus fp) ρ2 σ H2 fps2:=rep.wide (λ i j hj=>by rw [hal i] at hj;cases hj) (k1.trans k2) (g1.trans g2) rep2 λ b hb=>⟨t1.new b hb,by obtain ⟨o,ho⟩:=Own.lsts y _ w fp oy b hb;rw [ho];simp,n2 b hb⟩
            have h2:∀ b∈fp,M.H₀ b=none/\¬ M.Zo b:=λ b hb=>⟨rep.h0' (t1.new b hb),λ z=>n2 b hb (.inl z)⟩
            let Z:Addr->Prop:=Zf M (λ j=>if j=i then [a] else fps2 j)
            have zsub:∀ b,Z b->Zf M fps2 b:=λ b h=>by
             rcases h with z | ⟨j,z⟩
             ·exact .inl z
             ·by_cases ej:j=i
              ·simp only [if_pos ej] at z
               rw [jb6.mp z]
               exact .inr ⟨i,hai⟩
              ·simp only [if_neg ej] at z;exact .inr ⟨j,z⟩
            have nf:∀ b∈fc,¬ Z b:=λ b hb z=>by
             have hbi:b∈fps2 i:=by rw [hfp];exact ja0 _ hb
             rcases z with z | ⟨j,z⟩
             ·exact rep2.zo i b hbi z
             ·by_cases ej:j=i
              ·simp only [if_pos ej] at z
               rw [jb6.mp z] at hb;exact nac hb
              ·simp only [if_neg ej] at z;exact rep2.dj i j (vc2 ej) b hbi z
            have za:Z a:=.inr ⟨i,by simp⟩
            have u1:=OwnL.freeze (Z':=Z) zsub xs _ ws fc nf hol
            have u2:=Own.freeze (Z':=Z) (λ b _=>trivial) y _ w fp (λ b hb z=>n2 b hb (zsub b z)) (Own.full (Z':=λ _=>True) y w fp oy)
            obtain ⟨f',hs',u3⟩:=(u1.at za ⟨.l ws,ha⟩ (λ z=>nomatch z) λ _ _ n=>n).set (u2.at (o:=.lst (ws.set j w)) za ⟨.l ws,ha⟩ (λ z=>nomatch z) λ _ _ n=>n) j
            obtain rfl:f'=[]:=jh7.mpr λ b hb=>nomatch hs' b hb
            refine .inl ⟨a,ws,n,j,rfl,rfl,ha,by rw [hol.length];exact ej,?_⟩
            refine q σ _ _ ((k1.ks.trans k2.ks).write (i:=i) (f':=[]) (fp:=fp) hst λ b hb=>?_) (rw2.rewrite hal e2 hσ ha hfp (λ z=>nomatch z) (λ b hb=>nomatch hb) (by decide) (λ h=>by rw [hm] at h;cases h) h2 ?_)
            ·rcases jb2.mp hb with z | z
             ·exact .inl (by rw [z];exact hai)
             ·cases z
            ·rw [zmb]
             exact u3
           ·cases ep
          | _=>cases ep
         | _=>cases hx
        ·exact q.elim
def qhc (i j:Nat) (f:Fx) (vs:List Nat):Fs:=λ ρ=>match f ρ with
 | .ok (y,e,ρ1)=>(match (zxb e vs ρ1)[i]? with
  | some (some (.lst xs,d))=>(match (zxb e vs ρ1)[j]? with
   | some (some (.int k,_))=>(match ixN xs.length k with
    | some n=>if d≠0 then .nx ((zxb e vs ρ1).set i (some (.lst (xs.set n y),1))) else .no
    | none=>.no)
   | _=>.no)
  | _=>.no)
 | .exc c=>.exc c
 | .no=>.no
theorem qgo {f:Fx}{i j:Nat} (hal:∀ i,M.al i=[]) (hv:∀ i∈vs,M.Ms i=false) (hm:M.Ms i=false) (hq:tS M (qhc i j f vs) D σ H):tAsg (tE M f vs) (gSub (tVar i) (tVar j) qbf) D σ H:=by
 obtain ⟨ρ,fps,rep,q⟩:=hq
 refine ⟨ρ,fps,rep,?_⟩
 unfold qhc at q
 cases ef:f ρ with
 | no=>rw [ef] at q;exact q
 | exc c=>rw [ef] at q;exact λ H' fps' k=>q _ H' fps' k.ks
 | ok p=>
  obtain ⟨y,e,ρ1⟩:=p
  rw [ef] at q
  intro w H1 fps1 fp k1 g1 rep1 o1 t1
  dsimp only at q
  split at q
  ·rename_i xs d es
   split at q
   ·rename_i k dk ek
    split at q
    ·rename_i n en
     split at q
     ·rename_i hd
      obtain ⟨fps2,k2,r2,o2,n2,s2,h2⟩:=Rep.behind rep k1 g1 rep1 o1 t1 hal hv
      obtain ⟨v',hσ,ol⟩:=r2.own0 hal i _ _ es
      obtain ⟨a,ws,fc,rfl,ha,hfp,nac,hol⟩:=ol.list hd
      obtain ⟨vk,hσk,ok⟩:=r2.own0 hal j _ _ ek
      rw [Own] at ok
      obtain ⟨rfl,_⟩:=ok
      have hai:a∈fps2 i:=by rw [hfp];exact ja1
      have hafp:a∉fp:=λ z=>n2 a z (.inr ⟨i,hai⟩)
      have hst:∃ j,a∈fps j:=⟨i,by have:=s2 i a hai;rw [k1.same i hm] at this;exact this⟩
      refine ⟨_,hσ,_,hσk,a,ws,k,n,rfl,rfl,ha,by rw [hol.length];exact en,?_⟩
      refine q σ _ _ (k2.write (i:=i) (f':=[]) (fp:=fp) hst λ b hb=>?_) (r2.rewrite hal es hσ ha hfp (λ z=>nomatch z) (λ b hb=>nomatch hb) (by decide) (λ h=>by rw [hm] at h;cases h) h2 ?_)
      ·rcases jb2.mp hb with z | z
       ·exact .inl (by rw [z];exact hai)
       ·cases z
      ·rw [zmb]
       have zsub:∀ b,Zf M (λ j=>if j=i then [a] else fps2 j) b->Zf (M.plus fp) fps2 b:=λ b h=>by
        rcases h with z | ⟨j,z⟩
        ·exact .inl (.inl z)
        ·by_cases ej:j=i
         ·simp only [if_pos ej] at z
          rw [jb6.mp z]
          exact .inr ⟨i,hai⟩
         ·simp only [if_neg ej] at z;exact .inr ⟨j,z⟩
       have nf:∀ b∈fc,¬ Zf M (λ j=>if j=i then [a] else fps2 j) b:=λ b hb z=>by
        have hbi:b∈fps2 i:=by rw [hfp];exact ja0 _ hb
        rcases z with z | ⟨j,z⟩
        ·exact r2.zo i b hbi (.inl z)
        ·by_cases ej:j=i
         ·simp only [if_pos ej] at z
          rw [jb6.mp z] at hb;exact nac hb
         ·simp only [if_neg ej] at z;exact r2.dj i j (vc2 ej) b hbi z
       have nfp:∀ b∈fp,¬ Zf M (λ j=>if j=i then [a] else fps2 j) b:=λ b hb z=>by
        rcases z with z | ⟨j,z⟩
        ·exact n2 b hb (.inl z)
        ·by_cases ej:j=i
         ·simp only [if_pos ej] at z
          rw [jb6.mp z] at hb;exact hafp hb
         ·simp only [if_neg ej] at z;exact n2 b hb (.inr ⟨j,z⟩)
       have za:Zf M (λ j=>if j=i then [a] else fps2 j) a:=.inr ⟨i,by simp⟩
       have u1:=(OwnL.freeze (Z':=Zf M (λ j=>if j=i then [a] else fps2 j)) zsub xs _ ws fc nf hol)
       have u2:=(Own.freeze (Z':=Zf M (λ j=>if j=i then [a] else fps2 j)) (λ b h=>by
        rcases h with z | ⟨j,z⟩
        ·exact .inl (.inl z)
        ·by_cases ej:j=i
         ·simp only [if_pos ej] at z
          rw [jb6.mp z]
          exact .inl (.inr ⟨i,hai⟩)
         ·simp only [if_neg ej] at z;exact .inl (.inr ⟨j,z⟩)) y _ w fp nfp o2)
       obtain ⟨f',hs',u3⟩:=(u1.at za ⟨.l ws,ha⟩ (λ z=>nomatch z) λ _ _ n=>n).set (u2.at (o:=.lst (ws.set n w)) za ⟨.l ws,ha⟩ (λ z=>nomatch z) λ _ _ n=>n) n
       obtain rfl:f'=[]:=jh7.mpr λ b hb=>nomatch hs' b hb
       exact u3
     ·exact q.elim
    ·exact q.elim
   ·exact q.elim
  ·exact q.elim
end
section
variable {X:Cx}{W:St->Nat->Hp->Prop}
theorem qd2 (hr:zfx X W) (t:xTab X.K=true) (hcalm:X.calm=true) {c:Nat}{C:Addr}{x m:Str}{np cpos pos p:Pos}{j:_} (e:zwg X.K c=some C) (hg:Gl X x) (hm:X.mg x=some (.ref C)) (hdb:(x == ("__debug__" : Str))=false):
  PS X (.Raise (some (.Call (.Name x np) [.Constant (.str m) j p] [] cpos)) none pos) (λ D σ H=>W σ c H):=by
 intro pins s σ H D I h
 obtain ⟨bm,N,nm,q,bs,hdct,sn,sub,ab,col,dd,k0,k1,k2,k3,k5,mN,hC,hN,hni,T,_⟩:=(ql0 I.ok.mod.kin t e).obj
 have FB:=PySem.F.excBase_ValueError
 have he:va3 [Expr.Constant (.str m) j p] X.env=(false,eval (.Constant (.str m) j p) X.env)::va3 [] X.env:=rfl
 refine wpAny_Raise_call_subU (C:=C) (nm:=nm) (q:=q) (N:=N) (bs:=bs) (bm:=bm) (hdct:=hdct) (sn:=sn) (sub:=sub) (ab:=ab) (col:=col) (dd:=dd) (k0:=k0) (k1:=k1) (k2:=k2) (k3:=k3) (k5:=k5)
  FB (show bmV.contains (.type "ValueError")=true by decide +kernel) FB (mN:=mN) (T.hasType FB.hasBase) (I.ok.hd hcalm) rfl hni (zfm I hg hm ⟨rfl,?_⟩ hdb)
 rw [he]
 refine Calls.evalArgs_plain (ve0 ((zxr qfq zzu (by rfl)) cpos pins s σ H (λ vs H'=>H'=H/\vs.length=1) I ⟨rfl,rfl⟩) (λ us s2 hu=>?_) λ _ _ y=>y)
 obtain ⟨vs,H2,I2,rv,eH,hl⟩:=hu
 subst eH
 refine ⟨rfl,?_,I2.bk _ _ hC,hN.keeps I2.bk,T.keeps I2.bk,λ h' a hx=>hr pins σ H2 s2 c C a h' us I2 e hx h⟩
 show us.length<=va2
 rw [<- rv.length,hl]
 decide
end
section
variable {X:Cx}{pins pins1:List (Addr×Obj)}{σ:St}{H:Hp}{s:va1}{e:va0->va1->Prop}
end
section
variable {M:Model}{A:vb8}{E:va0->va1->Prop}{K:Frag}
end
section
variable {X:Cx}{pins:List (Addr×Obj)}{σ:St}{H H1:Hp}{s:va1}{B:Heap}{a C:Addr}{a0:va0}{c:Nat}
end
section
variable {is:List Nat}{X:Cx}{M:Fm}{ρ ρ':Rho}{σ σ':St}{H H' H'':Hp}{fps fps' fps'':Fps}{vs vs':List Nat}{D:Ends}
def sExc (c:Nat):Fs:=λ _=>.exc c
theorem qje {c:Nat} (hq:tS M (sExc c) D σ H):M.W σ c H:=by
 obtain ⟨ρ,fps,rep,q⟩:=hq
 exact q σ H fps KS.refl
end
section
variable {X:Cx}{M:Fm}{ρ:Rho}{σ:St}{H:Hp}{fps:Fps}
end
def zhc:Expr->Bool
 | .ListComp _ _ _ _=>true
 | .SetComp _ _ _ _=>true
 | .DictComp _ _ _ _ _=>true
 | _=>false
def qmk:Expr->Bool
 | .Tuple _ _ _=>true
 | .List _ _=>true
 | _=>false
def zqp (d:Stmt->Option Fs):List Stmt->Option Fs
 | []=>some sNil
 | [s]=>d s
 | s::r=>match d s,zqp d r with
  | some f,some g=>some (sSeq f g)
  | _,_=>none
def locB (S:Sx) (x:Str):Bool:=zwc S.sc x .local || zwc S.sc x .cell
def qak (S:Sx) (i:Nat):Bool:=(decide (i≠0) || !S.msF 0) && !S.pn.contains i
def qj3 (iw:Iw) (asg:PV->Rho->Option Rho) (body:Fs):Fs:=match iw with
 | .rng en fa _=>zzt en fa asg body
 | .seq f vs=>zbh f vs asg body
 | .vw v fa vs=>ql7 v fa vs asg body
def zyc (S:Sx):List Expr->Option (List Nat)
 | []=>some []
 | .Name x _::r=>match S.slot x,zyc S r with
  | some i,some is=>if locB S x=true/\qak S i=true/\S.msF i=false then some (i::is) else none
  | _,_=>none
 | _=>none
def zbi (S:Sx) (x:Str):Option Nat:=match XN.findIdx? (·== x) with
 | some c=>if S.rz=true/\S.xc.contains c=true/\S.glob x=true then some c else none
 | none=>none
def qlm:Nat->Sx->List Stmt->Option Fs
 | 0,_,_=>none
 | n + 1,S,sts=>match sts with
  | [.Expr (.Call (.Name x p) es [] p1) _]=>(match den 60 S (.Call (.Name x p) es [] p1) with
   | some (f,_)=>some (zvj f)
   | none=>none)
  | [.Assign [.Name x _] e _]=>(match S.slot x,den 60 S e with
   | some i,some (f,vs)=>if locB S x=true/\qak S i=true/\zhc e=false then some (sSet (S.msF i) i f vs) else none
   | _,_=>none)
  | [.If c a b _]=>(match den 60 S c,qlm n S a,qlm n S b with
   | some (f,_),some s,some t=>some (sIf (bT f) s t)
   | _,_,_=>none)
  | _=>none
def denA (S:Sx):Expr->Option D2
 | .Dict [] [] _=>some (bDct,[])
 | e=>den 60 S e
def qll (S:Sx) (x at':Str) (apos:Pos) (e:Expr) (cpos:Pos):Option Fs:=if at' = "append" then (match S.slot x,den 60 S e with
   | some i,some (f,vs)=>if S.msF i=false/\(apos.endLine == cpos.line)=true then some (sApp i f vs) else none
   | _,_=>none) else none
def qlk (S:Sx) (o:Expr) (at':Str) (apos:Pos) (e:Expr) (cpos:Pos):Option Fs:=match o with
 | .Subscript b i _=>(match nmE b with
  | some x=>(match S.slot x,den 60 S i,den 60 S e with
   | some s,some (fi,_),some (f,_)=>if at' = "append" /\ S.msF s=false/\zva i=true/\(apos.endLine == cpos.line)=true then some (zpv s fi f) else none
   | _,_,_=>none)
  | none=>none)
 | _=>none
def denX (S:Sx):Expr->Option Fs
 | .Call fn es [] p1=>(match fn with
  | .Attribute o at' apos=>(match nmE o,es with
   | some x,[e]=>qll S x at' apos e p1
   | none,[e]=>qlk S o at' apos e p1
   | _,_=>none)
  | .Name x p=>(match den 60 S (.Call (.Name x p) es [] p1) with
   | some (f,_)=>some (zvj f)
   | none=>none)
  | _=>none)
 | _=>none
def qb1:PV->Nat->PV->Nat->Option (PV×Nat)
 | .lst xs,d,.int i,_=>(atI xs i).map λ z=>(z,if d=om then om else dv z)
 | _,_,_,_=>none
theorem OwnL.nthF {K:Frag}{H:Hp}{Z:Addr->Prop}{d:Nat}{x:PV}:∀ {xs:List PV}{ws:List V}{f:List Addr}{j:Nat},OwnL K H Z xs d ws f->xs[j]?=some x->∃ w fx,ws[j]?=some w/\Own K H Z x d w fx/\∀ a∈fx,a∈f
 | [],_,_,_,_,e=>by cases e
 | y::ys,ws,f,j,h,e=>by
  rw [OwnL] at h
  obtain ⟨v,s,f1,f2,rfl,rfl,_,h1,h2⟩:=h
  cases j with
  | zero=>cases e;exact ⟨v,f1,rfl,h1,λ a ha=>ja4 _ ha⟩
  | succ j=>
   obtain ⟨w,fx,e1,o,s'⟩:=h2.nthF (j:=j) (by simpa using e)
   exact ⟨w,fx,by simpa using e1,o,λ a ha=>ja2 _ (s' a ha)⟩
def omF:List (PV×Nat)->Bool
 | []=>true
 | p::r=>((p.2 == om) || zfo p.1) && omF r
def qb0 (xs:List (PV×Nat)):Option (PV×Nat):=if xs.length<=va2 then some (.lst (xs.map (·.1)),if omF xs then om else 1) else none
theorem Tmps.allF {K:Frag}{H:Hp}{Z:Addr->Prop}:∀ {xs:List (PV×Nat)}{ws:List V}{fp:List Addr},Tmps K H Z xs ws fp->omF xs=true->OwnL K H Z (xs.map (·.1)) om ws fp
 | [],_,_,h,_=>by rw [jg0,OwnL];exact h
 | (x,d)::xs,ws,fp,h,ha=>by
  obtain ⟨v,s,f1,f2,e1,e2,dj,h1,h2⟩:=h
  unfold omF at ha
  rw [ja5,jd6] at ha
  rw [jc1,OwnL]
  rcases ha.1 with e | e
  ·have e:d=om:=eq_of_beq e
   subst e
   exact ⟨v,s,f1,f2,e1,e2,dj,Own.full x v f1 h1,h2.allF ha.2⟩
  ·obtain ⟨rfl,o⟩:=Own.flatA (Z':=Z) (d':=om) e h1
   exact ⟨v,s,[],f2,e1,e2,dj,o,h2.allF ha.2⟩
section
variable {X:Cx}{M:Fm}{a b:Expr}{es:List Expr}{fa:Fa}{f g:Fx}{vs vs':List Nat}{pos:Pos}
theorem qg4 (h:PA X es (tL M fa vs)):PE X (.List es pos) (tE M (zqd qb0 fa) vs):=by
 refine zqk (qfs h) λ σ H Q h=>zbd (r:=λ xs H1 Q=>xs.length<=va2/\∀ p,H1 p=none->Q (.ref p) (upd H1 p (.lst xs))) (λ xs z c ws H fps fp Q ho tm nz zd lf=>?_) h
 unfold qb0 at ho
 split at ho
 ·rename_i hl
  refine ⟨by rw [tm.length];exact hl,λ q hq=>?_⟩
  cases eo:omF xs with
  | true=>rw [eo] at ho;cases ho;exact zkg lf (tm.allF eo) hq
  | false=>rw [eo] at ho;cases ho;exact zyo lf (tm.cold λ a ha z=>nz a ha z.zf) hq
 ·cases ho
theorem qg9 (hv:∀ i∈vs,M.Ms i=false) (hs:zpi b) (ha:PE X a (tE M f vs)) (hb:PE X b (tE M g vs')):PE X (.Subscript a b pos) (tE M (bBin qb1 f g) (vs++vs')):=by
 refine zqk (qbs qfz ha hb hs) λ σ H Q h=>zwp hv (λ x d y e z c v w H fps f1 f2 Q ho o1 o2 dj nz zd lf=>?_) h
 unfold qb1 at ho
 split at ho
 ·rename_i xs i
  obtain ⟨z',ez,e2⟩:=ja7.mp ho
  rw [Own] at o2
  by_cases hd:d=om
  ·subst hd
   rw [if_pos rfl] at e2
   cases e2
   obtain ⟨p,ws,fc,rfl,hp,rfl,nac,ol⟩:=o1.list (by decide:om≠0)
   rw [zkn] at ol
   unfold atI at ez
   cases ej:ixN xs.length i with
   | none=>rw [ej] at ez;cases ez
   | some j=>
    rw [ej] at ez
    obtain ⟨w',fz,e1,ow,sb⟩:=ol.nthF ez
    refine .inl ⟨p,ws,i,w',rfl,o2.1,.inl (.inl hp),?_,lf w' H fz (λ _ _ h=>h) (Own.full _ _ _ ow) λ a ha=>.inl (ja4 _ (ja0 _ (sb a ha)))⟩
    unfold atI
    rw [ol.length,ej]
    exact e1
  ·rw [if_neg hd] at e2
   cases e2
   obtain ⟨p,ws,rfl,hp,ol⟩:=(cold o1 λ a ha=>nz a (ja4 _ ha)).coldL
   obtain ⟨w',e1,ow⟩:=zfu ol ez
   exact .inl ⟨p,ws,i,w',rfl,o2.1,.inl (.inl hp),e1,zwx lf ow⟩
 ·cases ho
end
def denO (S:Sx) (e:Expr):Option D2:=match e with
 | .Subscript (.List es _) b _=>(match zjc (den 60 S) es,den 60 S b with
  | some (fa,v),some (g,u)=>if zva b=true then some (bBin qb1 (zqd qb0 fa) g,v++u) else none
  | _,_=>none)
 | e=>den 60 S e
def putV (S:Sx) (x:Str) (k e:Expr):Option Fs:=match nmE k,e with
 | some z,.Subscript (.Name _ _) _ _=>(match S.slot x,S.slot z,den 60 S e with
  | some i,some j,some (f,vs)=>if S.msF i=false then some (qhc i j f vs) else none
  | _,_,_=>none)
 | _,_=>none
def qf7 (S:Sx) (t k e:Expr):Option Fs:=match t with
 | .Name x _=>(match ixC k with
  | some k=>(match S.slot x,den 60 S e with
    | some i,some (f,vs)=>some (sPut i k f)
    | _,_=>none)
  | none=>(match putV S x k e with
   | some f=>some f
   | none=>(match S.slot x,den 60 S k,denO S e with
    | some i,some (fk,_),some (f,_)=>if S.msF i=false/\zva k=true then some (zvz i fk f) else none
    | _,_,_=>none)))
 | .Subscript b i _=>(match nmE b with
  | some x=>(match S.slot x,den 60 S i,den 60 S k,denO S e with
    | some s,some (fi,_),some (fj,_),some (f,_)=>if S.msF s=false/\zva i=true/\zva k=true then some (qhd s fi fj f) else none
    | _,_,_,_=>none)
  | none=>none)
 | _=>none
def qgb (S:Sx) (t e:Expr):Option Fs:=match t with
 | .Tuple es k p=>(match zyc S es,den 60 S e with
   | some is,some (f,vs)=>if zhc e=false/\qmk e=false then some (sUnp (asgT is) f vs) else none
   | _,_=>none)
 | .Name x _=>(match S.slot x,denA S e with
   | some i,some (f,vs)=>if locB S x=true/\qak S i=true then some (sSet (S.msF i) i f vs) else none
   | _,_=>none)
 | .Subscript t k _=>qf7 S t k e
 | _=>none
def zfs (d:Stmt->Option Fs) (S:Sx) (body:List Stmt):Option Fs:=zqp d body
def qga (d:Stmt->Option Fs) (S:Sx) (t it:Expr) (body:List Stmt):Option Fs:=match t with
 | .Name x p=>(match S.slot x,denI (den 60 S) S it,zfs d S body with
    | some i,some iw,some b=>if locB S x=true/\qak S i=true/\S.msF i=false/\twOk (.Name x p) iw=true then some (qj3 iw (asgN i) b) else none
    | _,_,_=>none)
 | .Tuple es k p=>(match zyc S es,denI (den 60 S) S it,zfs d S body with
   | some is,some iw,some b=>some (qj3 iw (asgT is) b)
   | _,_,_=>none)
 | _=>none
def qf6 (S:Sx) (e:Expr):Option Fs:=match nmE e with
 | some x=>(match S.slot x with
   | some i=>if S.msF i=true then none else some (zpu i)
   | none=>none)
 | none=>(match den 60 S e with
   | some (f,vs)=>some (sRet f)
   | none=>none)
def qln (_:Sx) (_:Expr) (_:Operator) (_:Expr):Option Fs:=none
def Sx.bare (S:Sx):Sx:={ S with ms:=[] }
def denT (S:Sx) (c:Expr):Option D2:=(den 60 S c).or (den 60 S.bare c)
def zvr (d:Stmt->Option Fs) (S:Sx):Stmt->Option Fs
 | .Raise (some (.Call (.Name x _) [.Constant (.str _) _ _] [] _)) none _=>match zbi S x with
  | some c=>some (sExc c)
  | none=>some sNo
 | .Raise _ _ _=>some sNo
 | .Expr v _=>denX S v
 | .Assign [t] e _=>qgb S t e
 | .If c a b _=>match denT S c,zqp d a,zqp d b with
  | some (f,_),some s,some t=>some (sIf (bT f) s t)
  | _,_,_=>none
 | .For t it body [] _=>qga d S t it body
 | .AugAssign t op e _=>qln S t op e
 | .Return (some e) _=>qf6 S e
 | _=>none
def qcq:Nat->Sx->Stmt->Option Fs
 | 0,_,_=>none
 | n + 1,S,st=>some ((zvr (qcq n S) S st).getD sNo)
section
variable {X:Cx}{P:va8}{w:vb6}{K:Frag}{mg:Str->Option va0}{base:Heap}{lvl:Nat}{S:Sx}{Wx:St->Nat->Hp->Prop}{M:Fm}{f g:Fx}{vs vs':List Nat}{σ:St}{H:Hp}{Q:VK}
structure SM (X:Cx) (M:Fm) (K:Frag) (S:Sx) (Wx:St->Nat->Hp->Prop):Prop where
 ms:MS M K S Wx
 al:∀ i,M.al i=[]
 io:M.io≠none->S.msF 0=true
 pn:∀ p∈M.pn,p.1∈S.pn
 fn:∀ x,X.fn x=true
 nd:S.N.Nodup
 st:X.stack=X.env::X.outer
 fr:X.env.frame=some X.env.locals
def zfw (P:va8) (w:vb6) (K:Frag) (mg:Str->Option va0) (base:Heap) (lvl:Nat) (S:Sx) (st:Stmt) (f:Fs):Prop:=∀ {Wx} X M,XS X P w K mg base lvl S Wx->SM X M K S Wx->PS X st (tS M f)
theorem zzk {d:Stmt->Option Fs} (hd:∀ st f,d st=some f->zfw P w K mg base lvl S st f):∀ (sts:List Stmt) (f:Fs),zqp d sts=some f->∀ {Wx} X M,XS X P w K mg base lvl S Wx->SM X M K S Wx->PSs X sts (tS M f)
 | [],f,h=>by cases h;exact λ X M xs sm=>qbh qhj λ D σ H q=>qjd q
 | [s],f,h=>λ X M xs sm=>qhi (hd s f h X M xs sm)
 | s::s'::r,f,h=>by
  unfold zqp at h
  split at h
  ·rename_i f1 f2 h1 h2
   cases h
   exact λ X M xs sm=>qbh (qd1 (hd s f1 h1 X M xs sm) (zzk hd (s'::r) f2 h2 X M xs sm)) λ D σ H q=>qja q
  ·cases h
theorem zbf {x:Str}{i:Nat} (h:S.slot x=some i):S.N[i]?=some x:=by
 unfold Sx.slot at h
 split at h
 ·exact zkv h
 ·cases h
theorem qb8 {x:Str} (h:locB S x=true):Loc S.sc x:=by
 unfold locB at h
 rw [jd6] at h
 exact h.elim (λ h=>.inl (zxp h)) λ h=>.inr (zxp h)
theorem zkr {i:Nat} (h:qak S i=true) (sm:SM X M K S Wx):M.Fre i:=by
 unfold qak at h
 rw [ja5,jd6] at h
 refine ⟨λ hio=>?_,λ p hp e=>?_⟩
 ·rcases h.1 with h | h
  ·simpa using h
  ·rw [sm.io hio] at h;cases h
 ·have z:=sm.pn p hp
  rw [e] at z
  have h2:=h.2
  rw [List.contains_iff_mem.mpr z] at h2
  cases h2
theorem qgy {e:Expr}{t:Option Expr}{l:Nat}{env:Env} (h:zhc e=false):swapsWith e t l env=pure false:=by
 cases e with
 | ListComp _ _ _ _=>cases h
 | SetComp _ _ _ _=>cases h
 | DictComp _ _ _ _ _=>cases h
 | _=>rfl
theorem qes (GX:GX K mg S.xc) (G:GS P w K mg base lvl S.Γ) (Gm:GSm P w K mg base lvl S.Γm) (hS:∀ i,∀ j∈S.alF i,S.msF j=false) {n:Nat}{elt:Expr}{gs:List Comprehension}{scope:vd0}{pos:Pos} (h:den (n + 1) S (.ListComp elt gs scope pos)=some (f,vs)):
  ∃ tg ys asg it ifs iw t g vE,gs=[⟨tg,it,ifs,0⟩]/\CompParts P w K mg base lvl S scope tg ys asg it elt ifs iw t g vE/\f=qdd iw ys.length asg t g/\vs=iw.vs++vE.filter (λ i=>decide (i < S.N.length)):=by
 have hd:∀ e f vs,den n S e=some (f,vs)->Good P w K mg base lvl S e f vs:=λ e f vs h=>zmq GX G Gm n S e f vs rfl rfl rfl hS h
 replace h:zzd (den n) S (.ListComp elt gs scope pos)=some (f,vs):=h
 match gs,h with
 | [],h=>simp [zzd] at h
 | _::_::_,h=>simp [zzd] at h
 | [⟨tg,it,ifs,a⟩],h=>
  by_cases ha:a=0
  ·subst ha
   replace h:(match tgA S.N.length tg,denI (den n S) S it with
    | some (xs,asg),some iw=>if zpa S scope xs iw.vs=true/\twOk tg iw=true then (match zhi (den n (zqs S scope xs iw.vs)) ifs,den n (zqs S scope xs iw.vs) elt with
     | some t,some (g,vE)=>some (qdd iw xs.length asg t g,iw.vs++vE.filter (λ i=>decide (i < S.N.length)))
     | _,_=>none) else none
    | _,_=>none)=some (f,vs):=h
   split at h
   ·rename_i ys asg iw ht hi
    split at h
    ·rename_i hc
     split at h
     ·rename_i t g vE h1 h2
      cases h
      have ck:=qgc hc.1
      have giw:=zby hd (zbx n S) G.1 hi
      have hS2:∀ i,∀ j∈(zqs S scope ys iw.vs).alF i,(zqs S scope ys iw.vs).msF j=false:=λ i j hj=>by
       rw [zpg] at hj
       show S.msF j=false
       split at hj
       ·exact hS i j hj
       ·split at hj
        ·exact giw.1 j hj
        ·cases hj
      have hd2:∀ e f vs,den n (zqs S scope ys iw.vs) e=some (f,vs)->Good P w K mg base lvl (zqs S scope ys iw.vs) e f vs:=λ e f vs h=>zmq GX G Gm n _ e f vs rfl rfl rfl hS2 h
      exact ⟨tg,ys,asg,it,ifs,iw,t,g,vE,rfl,⟨ht,hc.2,ck,giw,hd2 _ _ _ h2,zmr hd2 h1⟩,rfl,rfl⟩
     ·cases h
    ·cases h
   ·cases h
  ·simp [zzd,ha] at h
theorem zzq (xs:XS X P w K mg base lvl S Wx):PassesOwn (vb1 X.prog X.w) X.A X.env X.xe:=xs.po
theorem zyb {es:List Expr}{is:List Nat} (h:zyc S es=some is) (xs:XS X P w K mg base lvl S Wx) (sm:SM X M K S Wx):PGs X es (zjs is)/\(vc4 es X.env).length=is.length/\(vc4 es X.env).findIdx? (·.1)=none/\∀ i∈is,Bd M [] i:=by
 induction es generalizing is with
 | nil=>cases h;exact ⟨qbq,rfl,rfl,λ _ z=>nomatch z⟩
 | cons e es ih=>
  unfold zyc at h
  split at h
  ·cases ‹_::_=[]›
  ·rename_i x px r heq
   cases heq
   split at h
   ·rename_i i js hi hr
    split at h
    ·rename_i hc
     cases h
     obtain ⟨h1,h2,h3,h4⟩:=ih hr
     have hN:X.N.Nodup:=by rw [xs.N];exact sm.nd
     have hi':X.N[i]?=some x:=by rw [xs.N];exact zbf hi
     have hx:Loc X.env.scope x:=by rw [xs.sc];exact qb8 hc.1
     refine ⟨zgj (zbl hN hi' hx (.inl (sm.fn x))) h1 rfl,by rw [vc4,jb8,h2,jb8] <;> (intros;contradiction),?_,λ j hj=>?_⟩
     ·rw [vc4,jj1,h3] <;> first | rfl | (intros;contradiction)
     ·rcases jb2.mp hj with z | z
      ·rw [z];exact ⟨by rw [sm.ms.ms];exact hc.2.2,zkr hc.2.1 sm,sm.al i,sm.ms.als⟩
      ·exact h4 j z
    ·cases h
   ·cases h
  ·cases h
theorem zys {x:Str}:∀ {l:List Str}{c:Nat},l.findIdx? (·== x)=some c->l[c]?=some x
 | [],c,h=>by simp at h
 | y::r,c,h=>by
  rw [jj1] at h
  split at h
  ·rename_i e
   cases h
   rw [List.getElem?_cons_zero,eq_of_beq e]
  ·cases e:r.findIdx? (·== x) with
   | none=>rw [e] at h;cases h
   | some k=>
    rw [e] at h
    cases h
    rw [jh1]
    exact zys e
theorem qae {x:Str}{c:Nat} (h:zbi S x=some c):S.rz=true/\c∈S.xc/\S.glob x=true/\XN[c]?=some x:=by
 unfold zbi at h
 split at h
 ·rename_i c' e
  split at h
  ·rename_i hc
   cases h
   exact ⟨hc.1,by simpa using hc.2.1,hc.2.2,zys e⟩
  ·cases h
 ·cases h
theorem qdz {x m:Str}{c:Nat}{np cpos pos p:Pos}{j:Nat}{t:TS} (GX:GX K mg S.xc) (h:zbi S x=some c) (xs:XS X P w K mg base lvl S Wx) (hW:M.W=Wx) (hq:∀ D σ H,t D σ H->M.W σ c H):PS X (.Raise (some (.Call (.Name x np) [.Constant (.str m) j p] [] cpos)) none pos) t:=by
 obtain ⟨h1,h2,h3,h4⟩:=qae h
 obtain ⟨ht,_,hc⟩:=GX (λ z=>by rw [z] at h2;cases h2)
 have hlt:c < 50:=jk7 (ja8.mp h4).1 (by decide)
 obtain ⟨x',C,e1,e2,e3,e4⟩:=(hc c h2).1 hlt
 rw [h4] at e1
 cases e1
 refine zxq (qd2 (W:=Wx) (xs.rs h1) (by rw [xs.K];exact ht) xs.calm (by rw [xs.K];exact e2) (xs.gl h3) (by rw [xs.mg];exact e3) e4) λ D σ H q=>?_
 rw [<- hW]
 exact hq D σ H q
def Fm.bare (M:Fm):Fm:={ M with Ms:=λ _=>false,H₀:=λ _=>none,io:=none,pn:=[] }
theorem Rep.bare {ρ:Rho}{fps:Fps} (r:Rep M ρ σ H fps):Rep M.bare ρ σ H fps where
 own:=r.own
 non:=r.non
 dj:=r.dj
 zo:=r.zo
 fr:=λ _ _ _ _=>rfl
 zd:=r.zd
 len:=r.len
 msf:=λ _ _ _ h=>nomatch h
 h0:=λ _ h=>absurd rfl h
 iov:=And.intro (λ _ h=>nomatch h) (λ _ h=>nomatch h)
theorem qgk {fb:Fb}{Q:Bool->Hp->Prop} (hq:tT M fb σ H Q):tT M.bare fb σ H Q:=by
 obtain ⟨ρ,fps,rep,q⟩:=hq
 refine ⟨ρ,fps,rep.bare,?_⟩
 have gr:∀ H' fps',KD M.bare H fps H' fps'->∀ a o,H a=some o->H' a=some o:=λ H' fps' k a o h=>k.keep a o h λ ⟨_,z,_⟩=>nomatch z
 cases e:fb ρ with
 | ok p=>
  obtain ⟨b,ρ'⟩:=p
  rw [e] at q
  intro H' fps' k ag _
  have e1:ρ'=ρ:=jj7 λ i=>ag.1 i rfl
  subst e1
  exact q H' fps (KD.grow (gr H' fps' k)) Agr.refl (rep.grow (gr H' fps' k))
 | exc c=>
  rw [e] at q
  intro H' fps' k
  exact q H' fps (KD.grow (gr H' fps' k))
 | no=>rw [e] at q;exact q
theorem qh7 (GX:GX K mg S.xc) (G:GS P w K mg base lvl S.Γ) (Gm:GSm P w K mg base lvl S.Γm) (hS:∀ i,∀ j∈S.alF i,S.msF j=false) {c:Expr}{f:Fx}{vs:List Nat} (h:denT S c=some (f,vs)) (xs:XS X P w K mg base lvl S Wx) (m:MS M K S Wx):PT X c (tT M (bT f)):=by
 unfold denT at h
 cases e:den 60 S c with
 | some p=>
  rw [e] at h
  cases h
  exact ((zmq GX G Gm 60 S c f vs rfl rfl rfl hS e).2.2 X M xs m).2
 | none=>
  rw [e] at h
  have h2:den 60 S.bare c=some (f,vs):=h
  have gd:=(zmq (S:=S) GX G Gm 60 S.bare c f vs rfl rfl rfl (λ _ _ _=>rfl) h2).2.2 X M.bare ⟨xs.prog,xs.w,xs.K,xs.mg,xs.base,xs.N,xs.sc,xs.calm,xs.room,xs.po,xs.ps,xs.rs⟩ ⟨m.K,rfl,m.al,λ _ _ _=>rfl,m.W,λ _ h=>nomatch h⟩
  exact zpw gd.2 λ σ H Q q=>qgk q
theorem zju {d:Stmt->Option Fs}{body:List Stmt}{f:Fs} (hd:∀ e f vs,den 60 S e=some (f,vs)->Good P w K mg base lvl S e f vs) (ih:∀ st f,d st=some f->zfw P w K mg base lvl S st f) (h:zfs d S body=some f):∀ {Wx} X M,XS X P w K mg base lvl S Wx->SM X M K S Wx->PSs X body (tS M f):=by
 exact zzk ih _ _ h
theorem qh9 {e:Expr}{f:Fx}{vs:List Nat} (hd:∀ e f vs,den 60 S e=some (f,vs)->Good P w K mg base lvl S e f vs) (h:denO S e=some (f,vs)):Good P w K mg base lvl S e f vs:=by
 unfold denO at h
 split at h
 ·split at h
  ·rename_i f1 v1 f2 v2 h1 h2
   split at h
   ·rename_i hn
    cases h
    have g1:=zws hd _ _ _ h1
    have g2:=hd _ _ _ h2
    exact zqq (zqx g1.1 g2.1) rfl (λ _ _=>rfl) λ X M xs m=>qg9 (m.v g1.1) (zwv hn) (qg4 (g1.2.2 X M xs m)) (g2.2.2 X M xs m).1
   ·cases h
  ·cases h
 ·exact hd _ _ _ h
theorem zfr (GX:GX K mg S.xc) (G:GS P w K mg base lvl S.Γ) (Gm:GSm P w K mg base lvl S.Γm) (hS:∀ i,∀ j∈S.alF i,S.msF j=false) {d:Stmt->Option Fs} (ih:∀ (st:Stmt) (f:Fs),d st=some f->zfw P w K mg base lvl S st f):∀ (st:Stmt) (f:Fs),zvr d S st=some f->zfw P w K mg base lvl S st f:=by
 have hd:∀ e f vs,den 60 S e=some (f,vs)->Good P w K mg base lvl S e f vs:=λ e f vs h=>zmq GX G Gm 60 S e f vs rfl rfl rfl hS h
 have hdO:∀ e f vs,denO S e=some (f,vs)->Good P w K mg base lvl S e f vs:=λ e f vs h=>qh9 hd h
 have hdA:∀ e f vs,denA S e=some (f,vs)->Good P w K mg base lvl S e f vs:=λ e f vs h=>by
  unfold denA at h
  split at h
  ·cases h
   exact zqq (λ _ z=>nomatch z) rfl (λ _ _=>rfl) λ X M xs m=>qjw
  ·exact hd _ _ _ h
 intro st f h
 have core:True->zfw P w K mg base lvl S st f:=λ _=>by
  unfold zvr at h
  split at h
  ·rename_i x np m j p cpos pos
   split at h
   ·rename_i c hc
    cases h
    intro Wx X M xs sm
    exact qdz GX hc xs sm.ms.W λ D σ H q=>qje q
   ·cases h
    intro Wx X M xs sm pins s σ H D I q
    exact (zbj pins s σ H D I (qgq (t:=zfz) q))
  ·cases h
   intro Wx X M xs sm pins s σ H D I q
   exact (zbj pins s σ H D I (qgq (t:=zfz) q))
  ·rename_i v pos
   unfold denX at h
   split at h
   ·rename_i fn es cpos
    split at h
    ·rename_i o at' apos
     split at h
     ·rename_i x e hx
      obtain ⟨px,rfl⟩:=zyk hx
      unfold qll at h
      split at h
      ·rename_i hat
       subst hat
       split at h
       ·rename_i i f1 v1 hi he
        split at h
        ·rename_i hc
         cases h
         have g:=hd _ _ _ he
         intro Wx X M xs sm
         have hb:=qd9 (X:=X) (cpos:=cpos) PySem.F.plainAttrs_list PySem.F.slot_list_append PySem.F.type_list_append zym (xs.var (pos:=px) hi) (zxr (g.2.2 X M xs sm.ms).1 zzu (zqt (zqm g.2.1))) rfl (zzp g.2.1 X.env cpos) hc.2 (zqt (zqm g.2.1)) rfl
         refine zxq (zfi hb rfl) λ D σ H q=>?_
         have:=qjf (D:=D) sm.al (sm.ms.v g.1) (by rw [sm.ms.ms];exact hc.1) q
         rw [sm.ms.k xs] at this
         exact this
        ·cases h
       ·cases h
      ·cases h
     ·rename_i e hx
      unfold qlk at h
      split at h
      ·rename_i b i pi
       split at h
       ·rename_i x hb
        obtain ⟨px,rfl⟩:=zyk hb
        split at h
        ·rename_i s fi vi f1 v1 hs hi he
         split at h
         ·rename_i hc
          obtain ⟨rfl,hm,hi2,hln⟩:=hc
          cases h
          have g:=hd _ _ _ he
          intro Wx X M xs sm
          have hb:=qd9 (X:=X) (cpos:=cpos) PySem.F.plainAttrs_list PySem.F.slot_list_append PySem.F.type_list_append zym (qbs (pos:=pi) zbt (xs.var (pos:=px) hs) ((hd _ _ _ hi).2.2 X M xs sm.ms).1 (zwv hi2)) (zxr (g.2.2 X M xs sm.ms).1 zzu (zqt (zqm g.2.1))) rfl (zzp g.2.1 X.env cpos) hln (zqt (zqm g.2.1)) rfl
          refine zxq (zfi hb rfl) λ D σ H q=>?_
          have:=qgs (D:=D) (vs:=v1) (vi:=vi) sm.al (by rw [sm.ms.ms];exact hm) q
          rw [sm.ms.k xs] at this
          exact this
         ·cases h
        ·cases h
       ·cases h
      ·cases h
     ·cases h
    ·rename_i x p
     split at h
     ·rename_i f1 v1 he
      cases h
      intro Wx X M xs sm
      exact zxq (zfi ((hd _ _ _ he).2.2 X M xs sm.ms).1 rfl) λ D σ H q=>qgr q
     ·cases h
    ·cases h
   ·cases h
  ·rename_i t e pos
   unfold qgb at h
   split at h
   ·rename_i es k p
    split at h
    ·rename_i is f1 v1 hs he
     split at h
     ·rename_i hc
      cases h
      have g:=hd _ _ _ he
      intro Wx X M xs sm
      obtain ⟨h1,h2,h3,h4⟩:=zyb hs xs sm
      have mk:M.K=X.K:=sm.ms.k xs
      refine zxq (zpx (g.2.2 X M xs sm.ms).1 (qbr xs.calm h1 h2 h3) ?_ ?_ ?_) λ D σ H q=>?_
      ·cases e <;> first | rfl | (cases hc.1)
      ·cases e <;> first | rfl | (cases hc.2)
      ·rfl
      ·have:=qi9 sm.al (sm.ms.v g.1) (qh3 h4) q
       rw [mk] at this
       exact this
     ·cases h
    ·cases h
   ·rename_i x px
    split at h
    ·rename_i i f1 v1 hi he
     split at h
     ·rename_i hc
      cases h
      have g:=hdA _ _ _ he
      intro Wx X M xs sm
      have hN:X.N.Nodup:=by rw [xs.N];exact sm.nd
      have hi':X.N[i]?=some x:=by rw [xs.N];exact zbf hi
      have hx:Loc X.env.scope x:=by rw [xs.sc];exact qb8 hc.1
      have mi:M.Ms i=S.msF i:=by rw [sm.ms.ms]
      cases hcp:zhc e with
      | false=>exact zxq (qfn hN hi' hx (g.2.2 X M xs sm.ms).1 (qgy hcp) (.inl (sm.fn x))) λ D σ H q=>qfh sm.al (sm.ms.v g.1) mi (zkr hc.2 sm) q
      | true=>
       cases e with
       | ListComp elt gs scope cpos=>
        obtain ⟨tg,ys,asg,it,ifs,iw,t,g2,vE,rfl,cp,rfl,rfl⟩:=qes GX G Gm hS (show den 60 S _=_ from he)
        obtain ⟨wi,gg,h1,h2,h3,h4,h5,h6⟩:=zjx (pos:=cpos) cp xs sm.ms
        refine qkc (qaf hN hi' hx (.inl (sm.fn x)) h2 xs.calm h1 h3 h4 h5 (zbv (n:=0) (f:=g2) (vs:=[]) cp.iwo.2.1)) λ D σ H hl q=>?_
        exact h6 σ H _ (by rw [hl,xs.N]) (qfh sm.al (sm.ms.v g.1) mi (zkr hc.2 sm) q)
       | SetComp _ _ _ _=>simp [denA,den,zzd] at he
       | DictComp _ _ _ _ _=>simp [denA,den,zzd] at he
       | _=>cases hcp
     ·cases h
    ·cases h
   ·rename_i t k ps
    unfold qf7 at h
    split at h
    ·rename_i x px
     split at h
     ·rename_i k hk
      obtain ⟨k',pk,rfl⟩:=qf0 hk
      split at h
      ·rename_i i f1 v1 hi he
       cases h
       have g:=hd _ _ _ he
       intro Wx X M xs sm
       refine zxq (zpx (g.2.2 X M xs sm.ms).1 (zgk (xs.var hi) zgl zkq) ?_ ?_ rfl) λ D σ H q=>qjc sm.al (sm.ms.v g.1) q
       ·cases e <;> rfl
       ·cases e <;> rfl
      ·cases h
     ·rename_i hk
      split at h
      ·rename_i f' hp
       cases h
       unfold putV at hp
       split at hp
       ·rename_i z y1 py1 b1 q1 hz
        obtain ⟨pz,rfl⟩:=zyk hz
        split at hp
        ·rename_i i j f1 v1 hi hj he
         split at hp
         ·rename_i hc
          cases hp
          have g:=hd _ _ _ he
          intro Wx X M xs sm
          exact zxq (zpx (g.2.2 X M xs sm.ms).1 (zgk (xs.var hi) (xs.var hj) zkq (λ _=>rfl)) rfl rfl rfl) λ D σ H q=>qgo sm.al (sm.ms.v g.1) (by rw [sm.ms.ms];exact hc) q
         ·cases hp
        ·cases hp
       ·cases hp
      split at h
      ·rename_i i fk vk f1 v1 hi hk he
       split at h
       ·rename_i hc
        cases h
        have g:=hdO _ _ _ he
        intro Wx X M xs sm
        refine zxq (zpx (g.2.2 X M xs sm.ms).1 (zgk (xs.var hi) ((hd _ _ _ hk).2.2 X M xs sm.ms).1 (PSet.or zkq (ql4 (by have:=xs.room.units;omega))) ?_) ?_ ?_ rfl) λ D σ H q=>qgn sm.al (by rw [sm.ms.ms];exact hc.1) (sm.ms.v g.1) q
        ·intro v
         cases k <;> first | rfl | (cases hc.2)
        ·cases e <;> rfl
        ·cases e <;> rfl
       ·cases h
      ·cases h
    ·rename_i b i pi
     split at h
     ·rename_i x hx
      obtain ⟨px,rfl⟩:=zyk hx
      split at h
      ·rename_i s fi vi fj vj f1 v1 hs hi hj he
       split at h
       ·rename_i hc
        cases h
        intro Wx X M xs sm
        have mk:M.K=X.K:=sm.ms.k xs
        refine zxq (zpx ((hdO _ _ _ he).2.2 X M xs sm.ms).1 (zgk (qbs zbt (xs.var hs) ((hd _ _ _ hi).2.2 X M xs sm.ms).1 (zwv hc.2.1)) ((hd _ _ _ hj).2.2 X M xs sm.ms).1 zkq ?_) ?_ ?_ rfl) λ D σ H q=>?_
        ·intro v
         cases k <;> first | rfl | (cases hc.2.2)
        ·cases e <;> rfl
        ·cases e <;> rfl
        ·have:=qgp (vs:=v1) (vi:=vi) (vj:=vj) sm.al (by rw [sm.ms.ms];exact hc.1) q
         rw [mk] at this
         exact this
       ·cases h
      ·cases h
     ·cases h
    ·cases h
   ·cases h
  ·split at h
   ·rename_i f1 v1 s t hc ha hb
    cases h
    intro Wx X M xs sm
    exact zxq (qmc (qh7 GX G Gm hS hc xs sm.ms) (zzk ih _ _ ha X M xs sm) (zzk ih _ _ hb X M xs sm)) λ D σ H q=>ql3 q
   ·cases h
  ·rename_i t it body pos
   unfold qga at h
   split at h
   ·rename_i x px
    split at h
    ·rename_i i iw b hi hw hb
     split at h
     ·rename_i hc
      cases h
      intro Wx X M xs sm
      have hN:X.N.Nodup:=by rw [xs.N];exact sm.nd
      have hi':X.N[i]?=some x:=by rw [xs.N];exact zbf hi
      have hx:Loc X.env.scope x:=by rw [xs.sc];exact qb8 hc.1
      have giw:=zby hd (zbx 60 S) G.1 hw
      have hbd:=zju hd ih hb X M xs sm
      have hg:GOk M [] [i] (zjb i) (asgN i):=qf3 ⟨by rw [sm.ms.ms];exact hc.2.2.1,zkr hc.2.1 sm,sm.al i,sm.ms.als⟩
      have hpg:PG X (.Name x px) (zjb i):=zbl hN hi' hx (.inl (sm.fn x))
      have hpi:=giw.2.2 X M xs sm.ms (.Name x px)
      have hf:=zbv (n:=0) (env:=X.env) (f:=bVar 0) (vs:=[]) giw.2.1
      cases iw with
      | rng en fa vs=>
       rcases hpi with ⟨rfl,hpi⟩ | ⟨rfl,hpi⟩
       ·exact zxq (zjk (zzq xs) xs.calm hpi hpg hbd hf) λ D σ H q=>qa1 hg q
       ·exact zxq (zjk (zzq xs) xs.calm hpi hpg hbd hf) λ D σ H q=>qa0 hg q
      | seq f vs=>exact zxq (zjk (zzq xs) xs.calm hpi hpg hbd hf) λ D σ H q=>qaz sm.al (sm.ms.v giw.1) hg q
      | vw v fa vs=>exact hpi.elim
     ·cases h
    ·cases h
   ·rename_i es k p
    split at h
    ·rename_i is iw b hs hw hb
     cases h
     intro Wx X M xs sm
     have giw:=zby hd (zbx 60 S) G.1 hw
     have hbd:=zju hd ih hb X M xs sm
     obtain ⟨h1,h2,h3,h4⟩:=zyb hs xs sm
     have mk:M.K=X.K:=sm.ms.k xs
     have hg:=qh3 (M:=M) (al:=[]) h4
     have hpg:=qbr (pos:=p) (k:=k) xs.calm h1 h2 h3
     rw [<- mk] at hpg
     have hpi:=giw.2.2 X M xs sm.ms (.Tuple es k p)
     have hf:=zbv (n:=0) (env:=X.env) (f:=bVar 0) (vs:=[]) giw.2.1
     cases iw with
     | rng en fa vs=>
      rcases hpi with ⟨rfl,hpi⟩ | ⟨rfl,hpi⟩
      ·exact zxq (zjk (zzq xs) xs.calm hpi hpg hbd hf) λ D σ H q=>qa1 hg q
      ·exact zxq (zjk (zzq xs) xs.calm hpi hpg hbd hf) λ D σ H q=>qa0 hg q
     | seq f vs=>exact zxq (zjk (zzq xs) xs.calm hpi hpg hbd hf) λ D σ H q=>qaz sm.al (sm.ms.v giw.1) hg q
     | vw v fa vs=>exact hpi.elim
    ·cases h
   ·cases h
  ·rename_i t op e pos
   cases h
  ·rename_i e pos
   unfold qf6 at h
   split at h
   ·rename_i x hx
    obtain ⟨px,rfl⟩:=zyk hx
    split at h
    ·rename_i i hi
     split at h
     ·cases h
     ·rename_i hm
      cases h
      intro Wx X M xs sm
      exact zxq (qfo (xs.var hi)) λ D σ H q=>qgm sm.al (by rw [sm.ms.ms];simpa using hm) q
    ·cases h
   ·rename_i hx
    split at h
    ·rename_i f1 v1 he
     cases h
     intro Wx X M xs sm
     exact zxq (qfo ((hd _ _ _ he).2.2 X M xs sm.ms).1) λ D σ H q=>qjb (sm.ms.v (hd _ _ _ he).1) q
    ·cases h
  ·cases h
 exact λ {Wx}=>core trivial
theorem qet (GX:GX K mg S.xc) (G:GS P w K mg base lvl S.Γ) (Gm:GSm P w K mg base lvl S.Γm) (hS:∀ i,∀ j∈S.alF i,S.msF j=false):∀ (n:Nat) (st:Stmt) (f:Fs),qcq n S st=some f->zfw P w K mg base lvl S st f:=by
 intro n
 induction n with
 | zero=>intro st f h;cases h
 | succ n ih=>
  intro st f h
  replace h:some ((zvr (qcq n S) S st).getD sNo)=some f:=h
  cases e0:zvr (qcq n S) S st with
  | none=>
   rw [e0] at h
   cases h
   intro Wx X M xs sm pins s σ H D I q
   exact (zbj pins s σ H D I (qgq (t:=zfz) q))
  | some f'=>
   rw [e0] at h
   cases h
   exact λ {Wx}=>zfr GX G Gm hS ih _ _ e0
def denS:Nat->Sx->Stmt->Option Fs:=qcq
theorem qh8 (GX:GX K mg S.xc) (G:GS P w K mg base lvl S.Γ) (Gm:GSm P w K mg base lvl S.Γm) (hS:∀ i,∀ j∈S.alF i,S.msF j=false):∀ (n:Nat) (st:Stmt) (f:Fs),denS n S st=some f->zfw P w K mg base lvl S st f:=qet GX G Gm hS
def zwj:Bool->List PV->Rho
 | true,x::xr=>some (x,om)::xr.map λ x=>some (x,dv x)
 | _,xs=>xs.map λ x=>some (x,dv x)
def finF (io:Bool) (y:PV) (d:Nat) (ρ:Rho):Rz (PV×Nat×PV):=match io with
 | false=>.ok (y,d,.non)
 | true=>match ρ[0]? with
  | some (some (z,_))=>.ok (y,d,z)
  | _=>.no
def mkFn (io:Bool) (np k:Nat) (b:Fs):Fn:=λ xs=>if xs.length=np then (match b (zwj io xs++ja9 k none) with
 | .rt y d ρ=>finF io y d ρ
 | .nx ρ=>finF io .non om ρ
 | .exc c=>.exc c
 | _=>.no) else .no
theorem zxl {io:Bool}{np k:Nat}{b:Fs}:∀ xs,xs.length≠np->mkFn io np k b xs=.no:=λ xs h=>by
 unfold mkFn
 rw [if_neg h]
theorem zjh {io:Bool}{xs:List PV}{i:Nat}{x:PV}{d:Nat} (h:(zwj io xs)[i]?=some (some (x,d))):xs[i]?=some x/\(d=dv x\/(io=true/\i=0/\d=om)):=by
 cases io with
 | false=>
  have h':(xs.map λ x=>(some (x,dv x):Slot))[i]?=some (some (x,d)):=h
  rw [jc2] at h'
  cases e:xs[i]? with
  | none=>rw [e] at h';cases h'
  | some y=>rw [e] at h';cases h';exact ⟨rfl,.inl rfl⟩
 | true=>
  cases xs with
  | nil=>simp [zwj] at h
  | cons y r=>
   cases i with
   | zero=>
    have h':some (some (y,om):Slot)=some (some (x,d)):=h
    cases h'
    exact ⟨rfl,.inr ⟨rfl,rfl,rfl⟩⟩
   | succ i=>
    have h':(r.map λ x=>(some (x,dv x):Slot))[i]?=some (some (x,d)):=h
    rw [jc2] at h'
    cases e:r[i]? with
    | none=>rw [e] at h';cases h'
    | some y'=>rw [e] at h';cases h';exact ⟨by simpa using e,.inl rfl⟩
theorem qac (io:Bool) (xs:List PV):(zwj io xs).length=xs.length:=by
 cases io <;> cases xs <;> simp [zwj]
theorem qh4 {x qual:Str}{st:Stmt}{f:Addr}{fd:vc3}{N ps:List Str}{k:Nat}{sp:Sp} (F:Fun K x qual st f fd) (S:FnScope N ps (zqb st)) (len:∀ vs H Q E,sp vs H Q E->vs.length=ps.length)
  (hbody:∀ (cdv:va0) (A:vb8) (outer:List Env) (s:va1) (H:Hp) (vs:List V) (Q:VK) (E:XK),Room k (A.deeper (vk5 qual (zqb st) s.heap.objs.size f cdv))->sp vs H Q E ->
   ∃ t,PSs (cxOf (CXr P w K) P w K mg base N qual (zqb st) f cdv A outer s H E) (zqf st) t/\t { nx:=λ _ H'=>Q .non H',rt:=Q } (L2.start N vs) H):FnOk P w K mg base (CXr P w K) (k + 1) f fd ps sp:=by
 obtain ⟨oc,od,kV,doc,pm,an,cdv,ct,osl,rfl,lk,hcd⟩:=F.ex
 exact qmq lk hcd S len λ A outer s H vs Q E hr hsp=>hbody cdv A outer s H vs Q E hr hsp
theorem qms {x qual:Str}{st:Stmt}{fa:Addr}{fd:vc3}{ps:List Str}{np k:Nat}{io:Bool}{b:Fs} (Fu:Fun K x qual st fa fd) (FS:FnScope S.N ps (zqb st)) (hsc:S.sc=zqb st) (hal:S.al=[]) (hnp:ps.length=np) (hk:S.N.length=np + k)
  (hms:∀ i∈S.ms,i < np->i=0/\io=true) (hio:io=true->S.msF 0=true/\0 < np) (GX:GX K mg S.xc) (G:GS P w K mg base lvl S.Γ) (Gm:GSm P w K mg base lvl S.Γm) (hb:zqp (denS 60 S) (zqf st)=some b):
  FnOk P w K mg base (CXr P w K) (lvl + 1) fa fd ps (spF K io np (mkFn io np k b)):=by
 have hS:∀ i,∀ j∈S.alF i,S.msF j=false:=λ i j hj=>by
  unfold Sx.alF at hj
  rw [hal] at hj
  simp at hj
 refine qh4 Fu FS (λ vs H Q E h=>h.1.trans hnp.symm) λ cdv A outer s H vs Q E hr h=>?_
 obtain ⟨hl,xs,Zo,x0,v0,fp0,hZ,hz0,h1,h2,q⟩:=h
 let M:Fm:={ K:=K,Ms:=S.msF,Zo:=Zo,H₀:=H,W:=WE E H,io:=if io=true then some v0 else none,al:=λ _=>[] }
 have hxs:XS (cxOf (CXr P w K) P w K mg base S.N qual (zqb st) fa cdv A outer s H E) P w K mg base lvl S (WE E H):=⟨rfl,rfl,rfl,rfl,rfl,rfl,hsc.symm,rfl,hr,qhn,qea,λ _=>qbe⟩
 have hsm:SM (cxOf (CXr P w K) P w K mg base S.N qual (zqb st) fa cdv A outer s H E) M K S (WE E H):=by
  refine ⟨⟨rfl,rfl,λ i _=>?_,(λ i j hj=>nomatch hj),rfl,λ _ h=>nomatch h⟩,λ _=>rfl,λ h=>?_,(λ _ h=>nomatch h),λ _=>rfl,FS.nd,rfl,rfl⟩
  ·show []=S.al.getD i []
   rw [hal];rfl
  ·have h':(if io=true then some v0 else none)≠none:=h
   cases io with
   | true=>exact (hio rfl).1
   | false=>exact absurd rfl h'
 refine ⟨tS M b,zzk (qh8 GX G Gm hS 60) _ _ hb _ M hxs hsm,zwj io xs++ja9 k none,λ i=>if i=0 then fp0 else [],?_,?_⟩
 ·have hlen:xs.length=vs.length:=by
   cases io with
   | false=>exact (h1 rfl).2.length.symm
   | true=>obtain ⟨xr,wr,rfl,rfl,_,o⟩:=h2 rfl;rw [jb8,jb8,o.length]
  have each:∀ i y d,(zwj io xs)[i]?=some (some (y,d))->∃ v,vs[i]?=some v/\Own K H (λ a=>Zo a\/a∈fp0) y d v (if i=0 then fp0 else []):=λ i y d e=>by
   obtain ⟨e1,e2⟩:=zjh e
   cases io with
   | false=>
    obtain ⟨rfl,o⟩:=h1 rfl
    obtain ⟨v,ev,ov⟩:=o.nth e1
    rcases e2 with rfl | ⟨z,_⟩
    ·refine ⟨v,ev,?_⟩
     rw [ite_self]
     exact ov.dv.weak λ a h=>h.elim id λ z=>nomatch z
    ·cases z
   | true=>
    obtain ⟨xr,wr,rfl,rfl,o0,o⟩:=h2 rfl
    cases i with
    | zero=>
     simp [zwj] at e
     obtain ⟨rfl,rfl⟩:=e
     exact ⟨v0,rfl,Own.full _ _ _ o0⟩
    | succ i=>
     obtain ⟨v,ev,ov⟩:=o.nth (j:=i) (by simpa using e1)
     rcases e2 with rfl | ⟨_,z,_⟩
     ·refine ⟨v,by simpa using ev,?_⟩
      rw [if_neg (jm9 i)]
      exact ov.dv
     ·cases z
  have inl:∀ i p,(zwj io xs++ja9 k none)[i]?=some (some p)->(zwj io xs)[i]?=some (some p):=λ i p e=>by
   by_cases hi:i < (zwj io xs).length
   ·rw [jb5 hi] at e;exact e
   ·rw [jc5 (by omega),jd5] at e
    split at e <;> cases e
  have domF:∀ a∈fp0,H a≠none:=λ a ha=>by
   cases io with
   | false=>rw [(h1 rfl).1] at ha;cases ha
   | true=>
    obtain ⟨xr,wr,rfl,rfl,o0,o⟩:=h2 rfl
    obtain ⟨ys,e⟩:=Own.lsts _ _ _ _ o0 a ha
    rw [e];simp
  refine ⟨λ i y d e=>?_,λ i h=>?_,λ i j hij a ha hb'=>?_,λ i a ha=>?_,λ i hi a ha=>?_,hZ,?_,λ i y d hi e=>?_,λ a h=>h,⟨λ v hv=>?_,λ _ h=>(nomatch h)⟩⟩
  ·obtain ⟨v,ev,ov⟩:=each i y d (inl i _ e)
   refine ⟨v,?_,ov.weak λ a h=>?_⟩
   ·unfold L2.start
    rw [jb5 (by rw [ja6];exact (ja8.mp ev).1),jc2,ev]
    rfl
   ·rcases h with h | ⟨j,_,h⟩
    ·exact .inl h
    ·by_cases ej:j=0
     ·simp only [if_pos ej] at h;exact .inr h
     ·simp only [if_neg ej] at h;cases h
  ·by_cases hi:i=0
   ·subst hi
    rw [if_pos rfl]
    cases io with
    | false=>exact (h1 rfl).1
    | true=>
     obtain ⟨xr,wr,rfl,rfl,_,_⟩:=h2 rfl
     exact absurd rfl (h (x0,om))
   ·rw [if_neg hi]
  ·by_cases e1:i=0
   ·by_cases e2:j=0
    ·exact hij (e1.trans e2.symm)
    ·rw [if_neg e2] at hb';cases hb'
   ·simp only [if_neg e1] at ha;cases ha
  ·by_cases e1:i=0
   ·simp only [if_pos e1] at ha;exact hz0 a ha
   ·simp only [if_neg e1] at ha;cases ha
  ·by_cases e1:i=0
   ·simp only [if_pos e1] at ha
    cases io with
    | false=>rw [(h1 rfl).1] at ha;cases ha
    | true=>
     have:=(hio rfl).1
     have hi':S.msF i=false:=hi
     rw [e1,this] at hi';cases hi'
   ·simp only [if_neg e1] at ha;cases ha
  ·unfold L2.start
   rw [jb3,qac,je5,jb3,ja6,je5,hlen,hl,hk]
   omega
  ·have hm:i∈S.ms:=by
    have hi':S.msF i=true:=hi
    unfold Sx.msF at hi'
    simpa using hi'
   obtain ⟨e1,e2⟩:=zjh (inl i _ e)
   have hlt:i < np:=by
    have:=(ja8.mp e1).1
    rw [hlen,hl] at this;exact this
   obtain ⟨rfl,rfl⟩:=hms i hm hlt
   obtain ⟨xr,wr,rfl,rfl,_,_⟩:=h2 rfl
   have e':=inl 0 _ e
   simp [zwj] at e'
   exact e'.2.symm
  ·have hv':(if io=true then some v0 else none)=some v:=hv
   cases io with
   | false=>cases hv'
   | true=>
    cases hv'
    obtain ⟨xr,wr,rfl,rfl,_,_⟩:=h2 rfl
    exact ⟨rfl,(hio rfl).1⟩
 ·unfold mkFn at q
  have hlen:xs.length=np:=by
   by_cases e:xs.length=np
   ·exact e
   ·rw [if_neg e] at q;exact q.elim
  rw [if_pos hlen] at q
  have fin:∀ {y:PV}{d:Nat}{ρ':Rho}{v:V}{σ':St}{H':Hp}{fps':Fps}{fp:List Addr},(match finF io y d ρ' with
    | .ok (y,d,z0)=>∀ v H' fp fp0',Keep (λ a=>a∈fp0) H H'->(∀ a,H a≠none->H' a≠none)->(∀ a∈fp0',a∈fp0\/H a=none)->(∀ a∈fp0',¬ Zo a)->(io=false->fp0'=[])->(io=true->Own K H' (λ _=>True) z0 om v0 fp0') ->
      Own K H' (λ a=>(Zo a\/a∈fp0')\/a∈fp) y d v fp->(∀ a∈fp,H a=none/\¬ (Zo a\/a∈fp0'))->Q v H'
    | .exc c=>∀ H',Keep (λ a=>a∈fp0) H H'->(∀ a,H a≠none->H' a≠none)->E (.int (c:Int) 0) none H'
    | .no=>False)->KS M H (λ i=>if i=0 then fp0 else []) H' fps'->Rep M ρ' σ' H' fps'->Own M.K H' (λ a=>Zr M fps' a\/a∈fp) y d v fp->(∀ a∈fp,M.H₀ a=none/\¬ Zr M fps' a)->Q v H':=λ {y d ρ' v σ' H' fps' fp} q ks rp oy hf=>by
   have kp:Keep (λ a=>a∈fp0) H H':=λ a o h n=>ks.keep a o h λ ⟨i,hi⟩=>by
    by_cases e:i=0
    ·simp only [if_pos e] at hi;exact n hi
    ·simp only [if_neg e] at hi;cases hi
   cases io with
   | false=>
    refine q v H' fp [] kp ks.dom (λ _ z=>(nomatch z)) (λ _ z=>(nomatch z)) (λ _=>rfl) (λ h=>(nomatch h)) (oy.weak λ a h=>?_) λ a ha=>⟨(hf a ha).1,λ z=>(hf a ha).2 ?_⟩
    ·rcases h with (h | h) | h
     ·exact .inl (.inl h)
     ·cases h
     ·exact .inr h
    ·rcases z with z | z
     ·exact .inl z
     ·cases z
   | true=>
    unfold finF at q
    cases e0:ρ'[0]? with
    | none=>dsimp only at q;rw [e0] at q;exact q.elim
    | some s0=>
     dsimp only at q
     rw [e0] at q
     cases s0 with
     | none=>exact q.elim
     | some p0=>
      obtain ⟨z,dz⟩:=p0
      have hdz:=rp.msf 0 z dz (hio rfl).1 e0
      subst hdz
      obtain ⟨u,hu,ou⟩:=rp.own 0 z om e0
      have hu0:=(rp.iov.1 v0 rfl).1
      rw [hu] at hu0
      cases hu0
      refine q v H' fp (fps' 0) kp ks.dom (λ a ha=>?_) (λ a ha=>rp.zo 0 a ha) (λ h=>(nomatch h)) (λ _=>Own.full _ _ _ ou) (oy.weak λ a h=>?_) λ a ha=>⟨(hf a ha).1,λ z=>(hf a ha).2 ?_⟩
      ·rcases ks.sub 0 a ha with ⟨j,hj⟩ | z
       ·by_cases e:j=0
        ·simp only [if_pos e] at hj;exact .inl hj
        ·simp only [if_neg e] at hj;cases hj
       ·exact .inr z
      ·rcases h with (h | h) | h
       ·exact .inl (.inl h)
       ·exact .inl (.inr ⟨(λ z=>nomatch z),h⟩)
       ·exact .inr h
      ·rcases z with z | z
       ·exact .inl z
       ·exact .inr ⟨(λ z=>nomatch z),z⟩
  cases eb:b (zwj io xs++ja9 k none) with
  | no=>rw [eb] at q;exact q
  | exc c=>
   rw [eb] at q
   refine λ σ' H' fps' ks=>⟨q H' (λ a o h n=>ks.keep a o h λ ⟨i,hi⟩=>?_) ks.dom,ks.dom⟩
   by_cases e:i=0
   ·simp only [if_pos e] at hi;exact n hi
   ·simp only [if_neg e] at hi;cases hi
  | bk ρ=>rw [eb] at q;exact q.elim
  | ct ρ=>rw [eb] at q;exact q.elim
  | rt y d ρ'=>
   rw [eb] at q
   exact λ v σ' H' fps' fp ks rp oy hf=>fin q ks rp oy hf
  | nx ρ'=>
   rw [eb] at q
   exact λ σ' H' fps' ks rp=>fin (fp:=[]) q ks rp (by rw [Own];exact ⟨rfl,rfl⟩) λ _ z=>nomatch z
end
open PySem PySem.Spec PySem.W PySem.Calls PyProof.Rows L2
theorem zpn {tb:String->Option Builtin}{p:va8}{w:vb6}{n₀:Nat}{ann:Option va0}:∀ {n:Nat}{s r:SharedT}{t:Thread},zvw tb p w n₀ ann n s t=some r->topRun tb p w n₀ ann n s.abs t=some r.abs
 | 0,_,_,_,h=>by cases h
 | n + 1,s,r,t,h=>by
  unfold zvw at h
  unfold topRun
  cases e1:through t with
  | true=>rw [e1] at h;cases h;rfl
  | false=>
   rw [e1] at h
   cases e2:stepOk n₀ ann t with
   | false=>rw [e2] at h;cases h
   | true=>
    rw [e2] at h
    cases e3:stepT (denote tb) p w s t with
    | none=>rw [e3] at h;cases h
    | some z=>obtain ⟨s₂,t₂⟩:=z;rw [e3] at h;rw [stepT_spec e3];exact zpn h
theorem qe5 (P:Params) (os:OsState):(bootS P os).abs=⟨vc7 P,#[],boot_drawn,boot_toks,os⟩:=by kernel_rfl
theorem qio (P:Params):(vc7 P).isNs vb9=true:=by kernel_rfl
theorem qhx {p q:va8}{loose:List Str}{Xt:va1->Bool}{α:Type}{Yf:va1->α}{Ya:vb6->α}{N:Nat} (e:opening p=plainProg p.main.scope.names) (hN:Nat.ble 600 N=true) (f:∀ s,fenceModules? p s=some s)
  (run:∀ (w:vb6) (os:OsState),(zvw treeTable p w (vc7 w.params).objs.size ((vc7 w.params).nsMap vb9 "__annotations__") N (bootS w.params os) (topStub p)).map (λ s=>zfq p q loose Xt Yf (vc7 w.params) s.abs)=some (true,openGood q loose,Ya w)):
  LeftO p q loose Xt Yf Ya N:=λ w=>by
 obtain ⟨⟨h,gs,d,k,os⟩,e1,e2⟩:=ja7.mp (boot_open e hN f w)
 obtain ⟨rfl,rfl,rfl,rfl⟩:h=vc7 w.params/\gs=#[]/\d=boot_drawn/\k=boot_toks:=by simpa using e2
 obtain ⟨s,r1,r2⟩:=ja7.mp (run w os)
 have r:=zpn r1
 rw [qe5] at r
 have r3:(_=_)/\(_ ,_)=(_,_):=vk9 r2
 obtain ⟨l1,l23⟩:=r3
 obtain ⟨l2,l3⟩:=vk9 l23
 have t:topFrom treeTable p w N ⟨vc7 w.params,#[],boot_drawn,boot_toks,os⟩=some s.abs:=by
  unfold topFrom
  dsimp only
  rw [qio,r]
  show (match staticsOk (vk4 p.main.body) (vc7 w.params) s.abs.heap && namesBound p s.abs.heap && gensDone s.abs && laidKept (vc7 w.params) s.abs.heap with | true=>_ | false=>_)=_
  rw [l1]
 unfold openEnds
 rw [e1]
 show (topFrom treeTable p w N _).map _=_
 rw [t]
 exact congrArg some (Prod.ext l2 l3)
theorem qk1 (h:Heap):(kof h).In h:=by
 intro a o
 unfold kof
 generalize jc6 h.objs.size=l
 induction l with
 | nil=>intro e;cases e
 | cons b l ih=>
  intro e
  rw [jg6] at e
  cases g:h.get? b with
  | none=>rw [g] at e;exact ih e
  | some z=>
   rw [g] at e
   dsimp only [jh2] at e
   rw [jd2] at e
   split at e
   ·rename_i q
    cases e
    rw [beq_iff_eq.mp q]
    exact g
   ·exact ih e
theorem qlo {K:Frag}{x:Str}{st:Stmt} (e:zft K x=some (qcr x st)):∃ (g:Addr) (fd:vc3),nsIn K vb9 x=some (some (.ref g))/\Fun K x x st g fd:=by
 unfold zft at e
 split at e
 ·rename_i g hg
  split at e
  ·rename_i oc od fd sl hl
   cases fd
   unfold qcr at e
   simp only [Option.some.injEq,DefSeen.mk.injEq] at e
   obtain ⟨rfl,rfl,rfl,rfl,rfl,rfl,rfl,rfl,rfl,hc⟩:=e
   refine ⟨g,_,hg,qle hl hc ?_⟩
   unfold keepIn
   dsimp only
   rw [hl]
  ·cases e
 ·cases e
structure Given (ds:List (Str×Stmt)) (xc:List Nat) (K:Frag) (mg:Str->Option va0):Prop where
 df:∀ (i:Nat) (x:Str) (st:Stmt),ds[i]?=some (x,st)->∃ (g:Addr) (fd:vc3),mg x=some (.ref g)/\Fun K x x st g fd
 bn:∀ x∈zzm,mg x=none
 gx:GX K mg xc
theorem qb6 {α β:Type}{f g:α->β}:∀ {l:List α},l.map f=l.map g->∀ {i:Nat}{a:α},l[i]?=some a->f a=g a
 | [],_,_,_,h=>by cases h
 | b::l,e,0,a,h=>by
  cases h
  exact (List.cons.inj e).1
 | b::l,e,i + 1,a,h=>qb6 (List.cons.inj e).2 h
theorem qep {ds:List (Str×Stmt)}{xc:List Nat}{K:Frag}{mg:Str->Option va0}{h:Heap} (X:K.In h) (G:h.Ns vb9 mg) (e:zyp ds xc K=zmi ds):Given ds xc K mg:=by
 obtain ⟨e1,e2⟩:=vk9 e
 obtain ⟨e2,e3⟩:=vk9 e2
 refine ⟨λ i x st hi=>?_,λ x hx=>?_,λ hne=>?_⟩
 ·obtain ⟨g,fd,a,b⟩:=qlo (qb6 e1 hi)
  exact ⟨g,fd,mg_of X G a,b⟩
 ·obtain ⟨i,hi⟩:=List.getElem?_of_mem hx
  exact mg_none_of X G (qb6 e2 hi)
 ·have hm:xc.isEmpty=false:=by
   cases xc with
   | nil=>exact absurd rfl hne
   | cons _ _=>rfl
  rw [hm,jm0,ja5,ja5] at e3
  refine ⟨e3.1.1,e3.1.2,λ c hc=>?_⟩
  have h0:=jc8.mp e3.2 c hc
  refine ⟨λ hlt=>?_,λ hge=>?_⟩
  rotate_left
  ·rw [if_neg (Nat.not_lt.mpr hge)] at h0
   split at h0
   ·rename_i x v hx
    rw [ja5] at h0
    have h2:=h0.2
    split at h2
    ·rename_i u hu
     exact ⟨x,v,u,hx,h2,mg_of X G hu,by simpa using h0.1⟩
    ·cases h2
   ·cases h0
  rw [if_pos hlt] at h0
  have h1:=h0
  rw [ja5] at h1
  obtain ⟨C,hC⟩:=jj4.mp h1.1
  have hC':=hC
  unfold zwg at hC'
  cases hx:XN[c]? with
  | none=>rw [hx] at hC';cases hC'
  | some x=>
   rw [hx] at hC'
   dsimp only at hC'
   have h2:=h1.2
   rw [hx] at h2
   dsimp only at h2
   refine ⟨x,C,rfl,hC,?_,by simpa using h2⟩
   split at hC'
   ·rename_i D hD
    cases hC'
    exact mg_of X G hD
   ·cases hC'
theorem qie {P:va8}{w:vb6}{K:Frag}{outer:List Env}{H:Hp}{s:va1}{e:va0}{s2:va1} (z:CXr P w K outer H s (λ _ _ _=>False) e s2):False:=by
 obtain ⟨_,_,_,_,_,_,_,_,_,_,_,_,_,_,_,_,_,_,z⟩:=z
 exact z
theorem holds_by {l:OpenLaw}{q:va8}{loose:List Str}{d:DefRec}{N k n:Nat}{ds:List (Str×Stmt)}{xc:List Nat}{F:Fn}{x:Str} (said:l.wellSaid=true)
  (e:opening l.prog=plainProg l.prog.main.scope.names) (hN:Nat.ble 600 N=true) (f:∀ s,fenceModules? l.prog s=some s)
  (run:∀ (w:vb6) (os:OsState),(zvw treeTable l.prog w (vc7 w.params).objs.size ((vc7 w.params).nsMap vb9 "__annotations__") N (bootS w.params os) (topStub l.prog)).map
   (λ s=>zfq l.prog q loose (λ s=>xlAt q [] s && recOk (RowW.records l.row.toRowW) s) (λ s=>zyp ds xc (kof s.heap)) (vc7 w.params) s.abs)=some (true,openGood q loose,zmi ds))
  (hdef:defOf q l.row.name=some (d,[])) (hp:l.row.prog.theDef l.row.name=some (d.params,d.body,d.scope)) (hk:kwWritten? d.params.kwonlyargs d.params.kw_defaults=some []) (hwr:(!l.row.writes || l.row.records.isEmpty)=true)
  (ok:(chainsOk q && opensWell l.row.prog && (frees l.row.toRowW && l.row.within.isEmpty))=true) (hb:l.row.prog.bare) (hw:l.row.toRowW.promised)
  (hn:l.most=some n) (hn2:n<=va2) (hdf:d.params.defaults=[]) (hr:Room k vk6)
  (law:∀ (K:Frag) (w:vb6) (mg:Str->Option va0) (fa:Addr),Given ds xc K mg->mg d.name=some (.ref fa)->∃ fd:vc3,(∀ (s:va1) (u:va0),BindsTo s fd ⟨[u],[]⟩ [(x,u)]) /\
   ∀ base:Heap,FnOk l.prog w K mg base (CXr l.prog w K) k fa fd [x] (spF K false 1 F))
  (yes:∀ (K:Frag) (H:Hp) (a:Addr) (ns:List Int),ns.length<=n->Only H->SqL K H a (ns.map V.int)->spF K false 1 F [.ref a] H (λ v _=>v=.bl true) λ _ _ _=>False):l.Holds:=by
 refine holds_law said λ ws=>?_
 refine holds_open (q:=q) (loose:=loose) (Xt:=λ s=>xlAt q [] s && recOk (RowW.records l.row.toRowW) s) (XP:=XL q []) (Yf:=λ s=>zyp ds xc (kof s.heap)) (Ya:=λ _=>zmi ds) (YP:=λ _ h=>∃ K:Frag,K.In h/\zyp ds xc K=zmi ds) (N:=N)
  (qhx e hN f run) (λ _ s z=>⟨_,qk1 _,z⟩) (λ _ _ _ ⟨K,a,b⟩ kp=>⟨K,a.keeps kp,b⟩) (λ s e=>xl_of s (jl3.mp e).1) XL.keeps hdef hp hk (λ s e=>recFacts_of (jl3.mp e).2) hwr ws ok hb hw ?_
 refine Att.attach_call hn hdf λ w s₀ s₁ mg mb fa o pm cd doc a vs ns G Y ho hd hcd hmg hobj hints hlen hg=>?_
 obtain ⟨K,KX,hf⟩:=Y
 obtain ⟨fd,hbd,hF⟩:=law K w mg fa (qep KX G.T.g hf) hmg
 exact qeg KX G.T.g G.T.b G.T.builtins G.T.nolimit hg hobj hints (jc4 hlen hn2) hr (λ base _ _=>hF base) hbd (λ H hO hS=>yes K H a ns hlen hO hS) λ H e s'=>qie
section
variable {P:va8}{w:vb6}{K:Frag}{mg:Str->Option va0}{base:Heap}
theorem len1 {us:List va0} (h:us.length=1):∃ a,us=[a]:=List.length_eq_one_iff.mp h
theorem len2 {us:List va0} (h:us.length=2):∃ a b,us=[a,b]:=by
 cases us with
 | nil=>cases h
 | cons a r=>obtain ⟨b,rfl⟩:=len1 (Nat.succ.inj h);exact ⟨a,b,rfl⟩
theorem len3 {us:List va0} (h:us.length=3):∃ a b c,us=[a,b,c]:=by
 cases us with
 | nil=>cases h
 | cons a r=>obtain ⟨b,c,rfl⟩:=len2 (Nat.succ.inj h);exact ⟨a,b,c,rfl⟩
theorem zxc {lvl:Nat} (hb:∀ x∈zzm,mg x=none):GS P w K mg base lvl []:=⟨hb,λ x io n F h=>by cases h⟩
theorem zxz {lvl:Nat}{x qual:Str}{st:Stmt}{fa:Addr}{fd:vc3}{ps:List Str}{io:Bool}{n:Nat}{F:Fn}{Γ:List (Str×(Bool×Nat×Fn))} (g:GS P w K mg base lvl Γ) (hx:(x == ("__debug__" : Str))=false) (hF:∀ xs,xs.length≠n->F xs=.no)
  (hm:mg x=some (.ref fa)) (Fu:Fun K x qual st fa fd) (hbd:zfe K fd ps []) (hn:ps.length=n) (ok:FnOk P w K mg base (CXr P w K) lvl fa fd ps (spF K io n F)):GS P w K mg base lvl ((x,(io,n,F))::Γ):=by
 refine ⟨g.1,λ y io' n' F' h=>?_⟩
 rw [jd2] at h
 split at h
 ·rename_i e
  cases h
  have:y=x:=eq_of_beq e
  subst this
  exact ⟨hx,hF,fa,fd,ps,hm,Fu.kp,hbd,hn,ok⟩
 ·exact g.2 y io' n' F' h
theorem qh2 {lvl:Nat}:GSm P w K mg base lvl []:=λ x F h=>by cases h
theorem gcs {lvl j:Nat}{x qual:Str}{st:Stmt}{fa:Addr}{fd:vc3}{ps:List Str}{io:Bool}{n:Nat}{F:Fn}{Γ:List (Str×(Bool×Nat×Fn))} (g:GS P w K mg base lvl Γ) (hm:mg x=some (.ref fa)) (Fu:Fun K x qual st fa fd) (hbd:zfe K fd ps []) (ok:FnOk P w K mg base (CXr P w K) j fa fd ps (spF K io n F)) (hl:j<=lvl:=by decide) (hx:(x == ("__debug__" : Str))=false:=by decide +kernel) (hF:∀ xs,xs.length≠n->F xs=.no:=by exact zxl) (hn:ps.length=n:=by rfl):GS P w K mg base lvl ((x,(io,n,F))::Γ):=zxz g hx hF hm Fu hbd hn (ok.mono hl)
theorem fnb (S:Sx) {lvl:Nat}{x qual:Str}{st:Stmt}{fa:Addr}{fd:vc3}{ps:List Str}{np k:Nat}{io:Bool}{b:Fs} (Fu:Fun K x qual st fa fd) (FS:FnScope S.N ps (zqb st)) (gX:GX K mg S.xc) (G:GS P w K mg base lvl S.Γ) (hb:zqp (denS 60 S) (zqf st)=some b) (hsc:S.sc=zqb st:=by rfl) (hal:S.al=[]:=by rfl) (hnp:ps.length=np:=by rfl) (hk:S.N.length=np + k:=by rfl) (hms:∀ i∈S.ms,i < np->i=0/\io=true:=by decide) (hio:io=true->S.msF 0=true/\0 < np:=by first | exact λ h=>Bool.noConfusion h | exact λ _=>⟨rfl,by decide⟩) (Gm:GSm P w K mg base lvl S.Γm:=by exact qh2):FnOk P w K mg base (CXr P w K) (lvl + 1) fa fd ps (spF K io np (mkFn io np k b)):=qms (S:=S) Fu FS hsc hal hnp hk hms hio gX G Gm hb
end
theorem sp_yes {K:Frag}{H:Hp}{a:Addr}{ns:List Int}{F:Fn} (hO:Only H) (hS:SqL K H a (ns.map V.int)) (h:∃ d z,F [.scr ns]=.ok (.bl true,d,z)):spF K false 1 F [.ref a] H (λ v _=>v=.bl true) λ _ _ _=>False:=by
 refine ⟨rfl,[.scr ns],λ _=>False,.non,.non,[],λ _ z=>z.elim,λ _ z=>(nomatch z),λ _=>⟨rfl,?_⟩,(λ h=>nomatch h),?_⟩
 ·rw [OwnL]
  refine ⟨.ref a,[],[],[],rfl,rfl,λ _ z=>(nomatch z),?_,by rw [OwnL];exact ⟨rfl,rfl⟩⟩
  rw [Own]
  refine ⟨rfl,a,rfl,?_⟩
  rcases hS with (h | h) | h
  ·rcases hO a with z | ⟨ob,xs,z⟩
   ·rw [h] at z;cases z
   ·rw [h] at z;cases z
  ·exact .inl h
  ·exact .inr h
 ·obtain ⟨d,z,e⟩:=h
  rw [e]
  intro v H' fp fp0' _ _ _ _ _ _ o _
  rw [Own] at o
  exact o.1
end QQ
namespace QV
open PySem PySem.Spec PyProof.Rows L2 QQ
theorem zwm {op:PV->Nat->PV->Nat->Option (PV×Nat)}{f g:Fx}{ρ ρ1 ρ2:Rho}{x y z:PV}{d e c:Nat} (h1:f ρ=.ok (x,d,ρ1)) (h2:g ρ1=.ok (y,e,ρ2)) (h3:op x d y e=some (z,c)):bBin op f g ρ=.ok (z,c,ρ2):=by
 unfold bBin
 rw [h1]
 dsimp only [Rz.bind]
 rw [h2]
 dsimp only
 rw [h3]
theorem ql1 {op:PV->Nat->Option (PV×Nat)}{f:Fx}{ρ ρ1:Rho}{x z:PV}{d c:Nat} (h1:f ρ=.ok (x,d,ρ1)) (h3:op x d=some (z,c)):bUn op f ρ=.ok (z,c,ρ1):=by
 unfold bUn
 rw [h1]
 dsimp only [Rz.bind]
 rw [h3]
theorem zxf {f:Fx}{fa:Fa}{ρ ρ1 ρ2:Rho}{x:PV}{d:Nat}{xs:List (PV×Nat)} (h1:f ρ=.ok (x,d,ρ1)) (h2:fa ρ1=.ok (xs,ρ2)):zqa f fa ρ=.ok ((x,d)::xs,ρ2):=by
 unfold zqa
 rw [h1]
 dsimp only [Rz.bind]
 rw [h2]
theorem zxg {f:Fx}{ρ ρ1:Rho}{x:PV}{d:Nat} (h1:f ρ=.ok (x,d,ρ1)):zqa f aNil ρ=.ok ([(x,d)],ρ1):=zxf h1 rfl
theorem zxu {op:List (PV×Nat)->Option (PV×Nat)}{fa:Fa}{ρ ρ1:Rho}{xs:List (PV×Nat)}{z:PV}{c:Nat} (h1:fa ρ=.ok (xs,ρ1)) (h2:op xs=some (z,c)):zqd op fa ρ=.ok (z,c,ρ1):=by
 unfold zqd
 rw [h1]
 dsimp only [Rz.bind]
 rw [h2]
theorem zqr {F:Fn}{fa:Fa}{ρ ρ1:Rho}{xs:List (PV×Nat)}{y z:PV}{d:Nat} (h1:fa ρ=.ok (xs,ρ1)) (h2:F (xs.map (·.1))=.ok (y,d,z)):zqi F fa ρ=.ok (y,d,ρ1):=by
 unfold zqi
 rw [h1]
 dsimp only [Rz.bind]
 rw [h2]
theorem zwu {f:Fx}{ρ ρ1:Rho}{x:PV}{d:Nat} (h:f ρ=.ok (x,d,ρ1)):sRet f ρ=.rt x d ρ1:=by
 unfold sRet
 rw [h]
theorem zbw {f:Fx}{ρ ρ1:Rho}{x:PV}{d:Nat} (h:f ρ=.ok (x,d,ρ1)):zvj f ρ=.nx ρ1:=by
 unfold zvj
 rw [h]
theorem setF {i:Nat}{f:Fx}{vs:List Nat}{ρ ρ1 ρ2:Rho}{x:PV}{d:Nat} (h:f ρ=.ok (x,d,ρ1)) (hc:i < ρ1.length) (e:(zxb d vs ρ1).set i (some (x,d))=ρ2):sSet false i f vs ρ=.nx ρ2:=by
 unfold sSet
 rw [h]
 dsimp only
 rw [if_pos ⟨hc,λ h=>nomatch h⟩,e]
theorem zhu {i:Nat}{f:Fx}{vs:List Nat}{ρ ρ1 ρ2:Rho}{y:PV}{e:Nat}{xs:List PV}{d0 d:Nat}{xs0:List PV} (h0:ρ[i]?=some (some (.lst xs0,d0 + 1))) (h:f ρ=.ok (y,e,ρ1)) (h1:(zxb e vs ρ1)[i]?=some (some (.lst xs,d))) (hd:d≠0) (hl:xs.length < va2)
  (e2:(zxb e vs ρ1).set i (some (.lst (xs++[y]),if d=om/\e=om then om else 1))=ρ2):sApp i f vs ρ=.nx ρ2:=by
 unfold sApp
 rw [h0]
 dsimp only
 rw [h]
 dsimp only
 rw [h1]
 dsimp only
 rw [if_pos ⟨hd,hl⟩,e2]
theorem zqe {f g:Fs}{ρ ρ1:Rho} (h:f ρ=.nx ρ1):sSeq f g ρ=g ρ1:=by
 unfold sSeq
 rw [h]
theorem qlb {c:Fb}{f g:Fs}{ρ ρ1:Rho}{b:Bool} (hc:c ρ=.ok (b,ρ1)):sIf c f g ρ=if b=true then f ρ1 else g ρ1:=by
 unfold sIf
 rw [hc]
theorem if_t {c:Fb}{f g:Fs}{ρ ρ1:Rho} (hc:c ρ=.ok (true,ρ1)):sIf c f g ρ=f ρ1:=by rw [qlb hc];rfl
theorem if_f {c:Fb}{f g:Fs}{ρ ρ1:Rho} (hc:c ρ=.ok (false,ρ1)):sIf c f g ρ=g ρ1:=by rw [qlb hc];rfl
theorem qad {c:Fb}{f g:Fs}{ρ ρ1:Rho} (hc:c ρ=.ok (false,ρ1)):sSeq (sIf c f sNil) g ρ=g ρ1:=zqe (by rw [if_f hc];rfl)
theorem zps {f g:Fs}{ρ ρ1:Rho}{x:PV}{d:Nat} (h:f ρ=.rt x d ρ1):sSeq f g ρ=.rt x d ρ1:=by
 unfold sSeq
 rw [h]
theorem t_ok {f:Fx}{ρ ρ1:Rho}{b:Bool}{d:Nat} (h:f ρ=.ok (.bl b,d,ρ1)):bT f ρ=.ok (b,ρ1):=by
 unfold bT
 rw [h]
 rfl
theorem zvm {f:Fx}{ρ ρ1:Rho}{b:Bool}{d:Nat} (h:f ρ=.ok (.bl b,d,ρ1)):bUn zqw f ρ=.ok (.bl (!b),om,ρ1):=ql1 h rfl
theorem zhv {f g:Fx}{ρ ρ1:Rho}{a b:Bool}{d:Nat} (h:f ρ=.ok (.bl a,d,ρ1)) (h2:a=true->g ρ1=.ok (.bl b,om,ρ1)) (hd:d=om):zxv f g ρ=.ok (.bl (a && b),om,ρ1):=by
 subst hd
 unfold zxv
 rw [h]
 cases a with
 | false=>rfl
 | true=>exact h2 rfl
theorem qkj {f g:Fx}{ρ ρ1:Rho}{a b:Bool}{d:Nat} (h:f ρ=.ok (.bl a,d,ρ1)) (h2:a=false->g ρ1=.ok (.bl b,om,ρ1)) (hd:d=om):bOrV f g ρ=.ok (.bl (a || b),om,ρ1):=by
 subst hd
 unfold bOrV
 rw [h]
 cases a with
 | true=>rfl
 | false=>exact h2 rfl
theorem zjn {f g:Fx}{ρ ρ1 ρ2:Rho}{i j:Int}{d e:Nat} (h1:f ρ=.ok (.int i,d,ρ1)) (h2:g ρ1=.ok (.int j,e,ρ2)) (h:(-(2 ^ 64) < i/\i < 2 ^ 64)\/(-(2 ^ 64) < j/\j < 2 ^ 64)):bBin zwk f g ρ=.ok (.int (i * j),om,ρ2):=by
 refine zwm h1 h2 ?_
 show (if pMul i j=true then _ else _)=_
 rw [if_pos]
 unfold pMul
 rcases h with h | h
 ·rw [decide_eq_true h.1,decide_eq_true h.2];rfl
 ·rw [decide_eq_true h.1,decide_eq_true h.2];simp
theorem zwd {f g:Fx}{ρ ρ1 ρ2:Rho}{i j:Int}{d e:Nat} (h1:f ρ=.ok (.int i,d,ρ1)) (h2:g ρ1=.ok (.int j,e,ρ2)) (h:0 < j):bBin zql f g ρ=.ok (.int (i % j),om,ρ2):=by
 refine zwm h1 h2 ?_
 show (if pMod i j=true then _ else _)=_
 rw [if_pos]
 exact decide_eq_true h
theorem qcp {f g:Fx}{ρ ρ1 ρ2:Rho}{i j:Int}{d e:Nat} (h1:f ρ=.ok (.int i,d,ρ1)) (h2:g ρ1=.ok (.int j,e,ρ2)) (h:0 < j) (h':j < 2 ^ 128):bBin zzv f g ρ=.ok (.int (i / j),om,ρ2):=by
 refine zwm h1 h2 ?_
 show (if pDiv i j=true then _ else _)=_
 rw [if_pos]
 unfold pDiv
 rw [decide_eq_true h,decide_eq_true h'];rfl
theorem zzo {f g:Fx}{ρ ρ1 ρ2:Rho}{i j:Int}{d e:Nat} (h1:f ρ=.ok (.int i,d,ρ1)) (h2:g ρ1=.ok (.int j,e,ρ2)):bBin zqh f g ρ=.ok (.int (i + j),om,ρ2):=zwm h1 h2 rfl
theorem zgb {f g:Fx}{ρ ρ1 ρ2:Rho}{i j:Int}{d e:Nat} (h1:f ρ=.ok (.int i,d,ρ1)) (h2:g ρ1=.ok (.int j,e,ρ2)):bBin zzc f g ρ=.ok (.int (i - j),om,ρ2):=zwm h1 h2 rfl
theorem qlr {p:Int->Int->Bool}{f g:Fx}{ρ ρ1 ρ2:Rho}{i j:Int}{d e:Nat} (h1:f ρ=.ok (.int i,d,ρ1)) (h2:g ρ1=.ok (.int j,e,ρ2)):bBin (zwb p) f g ρ=.ok (.bl (p i j),om,ρ2):=zwm h1 h2 rfl
theorem qe1 {p q:Int->Int->Bool}{f g h:Fx}{ρ:Rho}{i j k:Int}{d e c:Nat} (h1:f ρ=.ok (.int i,d,ρ)) (h2:g ρ=.ok (.int j,e,ρ)) (h3:h ρ=.ok (.int k,c,ρ)):zvt p q f g h ρ=.ok (.bl (p i j && q j k),om,ρ):=by
 unfold zvt
 rw [h1]
 dsimp only [Rz.bind]
 rw [h2]
 dsimp only
 by_cases hp:p i j=true
 ·rw [if_pos hp,h3,hp];rfl
 ·rw [if_neg hp]
  have:p i j=false:=by simpa using hp
  rw [this];rfl
theorem eqI {neg:Bool}{i j:Int}{d e:Nat}:opEq neg (.int i) d (.int j) e=some (.bl (neg^^decide (i=j)),om):=by
 show some (PV.bl (neg^^vc9 (.int i) (.int j)),om)=_
 have:vc9 (.int i) (.int j)=decide (i=j):=by
  show (i == j)=_
  rfl
 rw [this]
theorem zfp {neg:Bool}{f g:Fx}{ρ ρ1 ρ2:Rho}{i j:Int}{d e:Nat} (h1:f ρ=.ok (.int i,d,ρ1)) (h2:g ρ1=.ok (.int j,e,ρ2)):bBin (opEq neg) f g ρ=.ok (.bl (neg^^decide (i=j)),om,ρ2):=zwm h1 h2 eqI
def il (xs:List Int):PV:=.lst (xs.map .int)
def tb (t:List (List Int)):PV:=.lst (t.map il)
abbrev bx (a b c:Int):PV:=.tup [.int a,.int b,.int c]
theorem zxt {α:Type}{xs:List α}{k:Int}{x:α} (h0:0<=k) (h:xs[k.toNat]?=some x):atI xs k=some x:=by
 have hl:=(ja8.mp h).1
 unfold atI ixN
 rw [if_pos h0,if_pos (by omega)]
 exact h
theorem zzx {f g:Fx}{ρ ρ1 ρ2:Rho}{xs:List Int}{k x:Int}{d e:Nat} (h1:f ρ=.ok (il xs,d,ρ1)) (h2:g ρ1=.ok (.int k,e,ρ2)) (h:atI xs k=some x):bBin zqc f g ρ=.ok (.int x,om,ρ2):=by
 refine zwm h1 h2 ?_
 show (atI (xs.map PV.int) k).map _=_
 have:atI (xs.map PV.int) k=some (.int x):=by
  unfold atI at h ⊢
  rw [ja6]
  cases e:ixN xs.length k with
  | none=>rw [e] at h;cases h
  | some j=>
   rw [e] at h
   have h':xs[j]?=some x:=h
   show (xs.map PV.int)[j]?=_
   rw [jc2,h'];rfl
 rw [this];rfl
theorem zml {f g:Fx}{ρ ρ1 ρ2:Rho}{t:List (List Int)}{k:Int}{r:List Int}{d e:Nat} (h1:f ρ=.ok (tb t,d,ρ1)) (h2:g ρ1=.ok (.int k,e,ρ2)) (h:atI t k=some r):bBin zqc f g ρ=.ok (il r,0,ρ2):=by
 refine zwm h1 h2 ?_
 show (atI (t.map il) k).map _=_
 have:atI (t.map il) k=some (il r):=by
  unfold atI at h ⊢
  rw [ja6]
  cases e:ixN t.length k with
  | none=>rw [e] at h;cases h
  | some j=>
   rw [e] at h
   have h':t[j]?=some r:=h
   show (t.map il)[j]?=_
   rw [jc2,h'];rfl
 rw [this];rfl
theorem qfw {fa:Fa}{ρ ρ1:Rho}{xs:List Int}{d:Nat} (h:fa ρ=.ok ([(il xs,d)],ρ1)):zqd zxd fa ρ=.ok (.int xs.length,om,ρ1):=by
 refine zxu h ?_
 show some (PV.int ((xs.map PV.int).length:Nat),om)=_
 rw [ja6]
theorem qk0 {fa:Fa}{ρ ρ1:Rho}{t:List (List Int)}{d:Nat} (h:fa ρ=.ok ([(tb t,d)],ρ1)):zqd zxd fa ρ=.ok (.int t.length,om,ρ1):=by
 refine zxu h ?_
 show some (PV.int ((t.map il).length:Nat),om)=_
 rw [ja6]
theorem zzl {α:Type}{n:Nat}{test:Fb}{elt:Fx}{enc q:α->PV}{e:α->Nat}{p:α->Bool}:∀ (xs:List α) (ρ:Rho) (acc:List (PV×Nat)),ρ.length=n->(∀ x∈xs,test (ρ++[some (enc x,dv (enc x))])=.ok (p x,ρ++[some (enc x,dv (enc x))])) ->
  (∀ x∈xs,p x=true->elt (ρ++[some (enc x,dv (enc x))])=.ok (q x,e x,ρ++[some (enc x,dv (enc x))]))->acc.length + xs.length<=va2->zwo 1 (asgN n) test elt (xs.map enc) ρ acc=.ok (acc++(xs.filter p).map (λ x=>(q x,e x)),ρ)
 | [],ρ,acc,_,_,_,_=>by simp [zwo]
 | x::xs,ρ,acc,hn,ht,he,hl=>by
  have ea:asgN n (enc x) (ρ++ja9 1 none)=some (ρ++[some (enc x,dv (enc x))]):=by
   unfold asgN
   rw [if_pos (by rw [jb3,hn];simp),List.set_append_right _ _ (by omega),hn]
   simp
  have ih:=λ acc h=>zzl (n:=n) (test:=test) (elt:=elt) (p:=p) (q:=q) (e:=e) (enc:=enc) xs ρ acc hn (λ y hy=>ht y (ja0 _ hy)) (λ y hy=>he y (ja0 _ hy)) h
  have tk:(ρ++[some (enc x,dv (enc x))]).take ρ.length=ρ:=by simp
  rw [jb8] at hl
  rw [jc1]
  unfold zwo
  rw [ea]
  dsimp only
  rw [ht x ja1]
  dsimp only [Rz.bindN]
  cases hp:p x with
  | false=>
   rw [if_neg jc7,tk,ih acc (by omega),List.filter_cons_of_neg (by simp [hp])]
  | true=>
   rw [if_pos rfl,he x ja1 hp]
   dsimp only
   rw [if_pos (by omega),tk,ih _ (by rw [jb3,jf0];omega),List.filter_cons_of_pos hp]
   simp
theorem zzn {α:Type} (q:α->PV):∀ xs:List α,zkk (xs.map λ x=>(q x,om))=true
 | []=>rfl
 | x::xs=>by rw [jc1];unfold zkk;rw [zzn q xs];rfl
theorem zxs {α:Type}{n:Nat}{f elt:Fx}{enc q:α->PV}{ρ ρ1:Rho}{d:Nat} (xs:List α) (hf:f ρ=.ok (.lst (xs.map enc),d,ρ1)) (hn:ρ1.length=n) (he:∀ x∈xs,elt (ρ1++[some (enc x,dv (enc x))])=.ok (q x,om,ρ1++[some (enc x,dv (enc x))])) (hl:xs.length<=va2):
  zqy f 1 (asgN n) zxn elt ρ=.ok (.lst (xs.map q),om,ρ1):=by
 unfold zqy
 rw [hf]
 dsimp only
 rw [zzl (p:=λ _=>true) (q:=q) (e:=λ _=>om) xs ρ1 [] hn (λ _ _=>rfl) (λ x hx _=>he x hx) (by simpa using hl),ji6.mpr (λ _ _=>rfl)]
 show zvb (xs.map λ x=>(q x,om)) ρ1=_
 unfold zvb
 rw [zzn,jd8]
 rfl
theorem qew {α:Type}{n:Nat}{f elt:Fx}{enc q:α->PV}{ρ ρ1:Rho}{d:Nat} (xs:List α) (hf:f ρ=.ok (.tup (xs.map enc),d,ρ1)) (hn:ρ1.length=n) (he:∀ x∈xs,elt (ρ1++[some (enc x,dv (enc x))])=.ok (q x,om,ρ1++[some (enc x,dv (enc x))])) (hl:xs.length<=va2):
  zqy f 1 (asgN n) zxn elt ρ=.ok (.lst (xs.map q),om,ρ1):=by
 unfold zqy
 rw [hf]
 dsimp only
 rw [zzl (p:=λ _=>true) (q:=q) (e:=λ _=>om) xs ρ1 [] hn (λ _ _=>rfl) (λ x hx _=>he x hx) (by simpa using hl),ji6.mpr (λ _ _=>rfl)]
 show zvb (xs.map λ x=>(q x,om)) ρ1=_
 unfold zvb
 rw [zzn,jd8]
 rfl
theorem zyh (lo:Int) (n:Nat):zzh lo n=(jc6 n).map λ (k:Nat)=>PV.int (lo + (k:Int)):=rfl
theorem zkz {n:Nat}{en:List (PV×Nat)->Option (Int×Int)}{fa:Fa}{elt:Fx}{q:Nat->PV}{ρ ρ1:Rho}{as:List (PV×Nat)}{lo hi:Int} (hf:fa ρ=.ok (as,ρ1)) (hen:en as=some (lo,hi)) (hn:ρ1.length=n) (he:∀ k,k < (hi - lo).toNat->elt (ρ1++[some (.int (lo + (k:Int)),om)])=.ok (q k,om,ρ1++[some (.int (lo + (k:Int)),om)])) (hl:(hi - lo).toNat<=va2):
  zxi en fa 1 (asgN n) zxn elt ρ=.ok (.lst ((jc6 (hi - lo).toNat).map q),om,ρ1):=by
 unfold zxi
 rw [hf]
 dsimp only
 rw [hen]
 dsimp only
 rw [zyh,zzl (enc:=λ (k:Nat)=>PV.int (lo + (k:Int))) (p:=λ _=>true) (q:=q) (e:=λ _=>om) (jc6 (hi - lo).toNat) ρ1 [] hn (λ _ _=>rfl) (λ x hx _=>he x (jd0.mp hx)) (by simpa using hl),ji6.mpr (λ _ _=>rfl)]
 show zvb ((jc6 (hi - lo).toNat).map λ x=>(q x,om)) ρ1=_
 unfold zvb
 rw [zzn,jd8]
 rfl
theorem qfa {α:Type} (g:α->Bool) (xs:List α):QQ.allB (xs.map λ x=>.bl (g x))=some (xs.map g):=by
 induction xs with
 | nil=>rfl
 | cons x r ih=>rw [jc1,jc1,QQ.allB,ih];rfl
theorem all_ok {α:Type}{f:Fx}{ρ ρ1:Rho}{d:Nat}{g:α->Bool}{xs:List α} (h:f ρ=.ok (.lst (xs.map λ x=>.bl (g x)),d,ρ1)):zqd zke (zqa f aNil) ρ=.ok (.bl (xs.all g),om,ρ1):=by
 refine zxu (zxg h) ?_
 show (QQ.allB _).map _=_
 rw [qfa]
 simp
theorem zgs {i:Nat}{body:Fs}{lo:Int} (I:Nat->Rho->Prop):∀ (m k:Nat) (ρ:Rho),I k ρ->(∀ j ρ,k<=j->j < k + m->I j ρ->i < ρ.length/\∃ ρ2,body (ρ.set i (some (.int (lo + (j:Int)),om)))=.nx ρ2/\I (j + 1) ρ2) ->
  ∃ ρ',zvc (asgN i) body ((ji5 k m).map λ (k:Nat)=>PV.int (lo + (k:Int))) ρ=.nx ρ'/\I (k + m) ρ'
 | 0,k,ρ,hi,_=>⟨ρ,rfl,hi⟩
 | m + 1,k,ρ,hi,hb=>by
  obtain ⟨h1,ρ2,e2,h2⟩:=hb k ρ (jb7 _) (by omega) hi
  obtain ⟨ρ',e',h'⟩:=zgs (i:=i) (body:=body) (lo:=lo) I m (k + 1) ρ2 h2 λ j ρ a b=>hb j ρ (by omega) (by omega)
  refine ⟨ρ',?_,by rw [show k + (m + 1)=k + 1 + m by omega];exact h'⟩
  rw [jn3,jc1]
  unfold zvc
  have:asgN i (PV.int (lo + (k:Int))) ρ=some (ρ.set i (some (.int (lo + (k:Int)),om))):=by
   unfold asgN
   rw [if_pos h1];rfl
  rw [this]
  dsimp only
  rw [e2]
  exact e'
theorem zvp {i:Nat}{body:Fs}{en:List (PV×Nat)->Option (Int×Int)}{fa:Fa}{ρ ρ1:Rho}{as:List (PV×Nat)}{lo hi:Int} (I:Nat->Rho->Prop) (hf:fa ρ=.ok (as,ρ1)) (hen:en as=some (lo,hi)) (h0:I 0 ρ1)
  (hb:∀ j ρ,j < (hi - lo).toNat->I j ρ->i < ρ.length/\∃ ρ2,body (ρ.set i (some (.int (lo + (j:Int)),om)))=.nx ρ2/\I (j + 1) ρ2):∃ ρ',zzt en fa (asgN i) body ρ=.nx ρ'/\I (hi - lo).toNat ρ':=by
 obtain ⟨ρ',e,h⟩:=zgs (i:=i) (body:=body) (lo:=lo) I (hi - lo).toNat 0 ρ1 h0 λ j ρ _ h hi=>hb j ρ (by omega) hi
 refine ⟨ρ',?_,by rw [jk8] at h;exact h⟩
 unfold zzt
 rw [hf]
 dsimp only
 rw [hen]
 dsimp only
 rw [zyh,List.range_eq_range']
 exact e
theorem zwf {j:Int}{d:Nat} (h1:-(2 ^ 62)<=j) (h2:j < 2 ^ 62):zxa [(.int j,d)]=some (0,j):=by
 show (if -(2 ^ 62)<=j/\j < 2 ^ 62 then some ((0:Int),j) else none)=_
 rw [if_pos ⟨h1,h2⟩]
theorem qeq {i j:Int}{d e:Nat} (h1:-(2 ^ 62)<=i) (h2:i < 2 ^ 62) (h3:-(2 ^ 62)<=j) (h4:j < 2 ^ 62):zyt [(.int i,d),(.int j,e)]=some (i,j):=by
 show (if -(2 ^ 62)<=i/\i < 2 ^ 62/\-(2 ^ 62)<=j/\j < 2 ^ 62 then some (i,j) else none)=_
 rw [if_pos ⟨h1,h2,h3,h4⟩]
theorem zzj {np k:Nat}{b:Fs}{xs:List PV}{ρ':Rho}{y:PV}{d:Nat} (hl:xs.length=np) (h:b (xs.map (λ x=>some (x,dv x))++ja9 k none)=.rt y d ρ'):mkFn false np k b xs=.ok (y,d,.non):=by
 unfold mkFn
 rw [if_pos hl]
 have:zwj false xs=xs.map λ x=>some (x,dv x):=rfl
 rw [this,h]
 rfl
theorem qlf {np k:Nat}{b:Fs}{xs:List PV}{ρ':Rho} (hl:xs.length=np) (h:b (xs.map (λ x=>some (x,dv x))++ja9 k none)=.nx ρ'):mkFn false np k b xs=.ok (.non,om,.non):=by
 unfold mkFn
 rw [if_pos hl]
 have:zwj false xs=xs.map λ x=>some (x,dv x):=rfl
 rw [this,h]
 rfl
def Xf_is_whole_number:Fs:=(sRet (zxv (bUn (zqn "int") (bVar 0)) (bUn zqw (bUn (zqn "bool") (bVar 0)))))
def f_is_whole_number:Fn:=mkFn false 1 0 Xf_is_whole_number
def Xf_is_box:Fs:=(sSeq (sIf (bT (bOrV (bUn zqw (bUn (zqn "tuple") (bVar 0))) (bBin (opEq true) (zqd zxd (zqa (bVar 0) (aNil))) (bC (.int 3))))) (sRet (bC (.bl false))) sNil)
 (sRet (zqd zke (zqa (zqy (bVar 0) 1 (asgN 1) zxn (zxv (zqi f_is_whole_number (zqa (bVar 1) (aNil))) (bBin (zwb λ i j=>decide (j<=i)) (bVar 1) (bC (.int 1))))) (aNil)))))
def f_is_box:Fn:=mkFn false 1 0 Xf_is_box
def Xf_must_be_box:Fs:=(sIf (bT (bUn zqw (zqi f_is_box (zqa (bVar 0) (aNil))))) (sExc 1) sNil)
def f_must_be_box:Fn:=mkFn false 1 0 Xf_must_be_box
def Xf_is_row_of_heights:Fs:=(sSeq (sIf (bT (bOrV (bUn zqw (bUn (zqn "list") (bVar 0))) (bBin (opEq true) (zqd zxd (zqa (bVar 0) (aNil))) (bVar 1)))) (sRet (bC (.bl false))) sNil)
 (sRet (zqd zke (zqa (zqy (bVar 0) 1 (asgN 3) zxn (zxv (zqi f_is_whole_number (zqa (bVar 3) (aNil))) (zvt (λ i j=>decide (i<=j)) (λ i j=>decide (i<=j)) (bC (.int 0)) (bVar 3) (bVar 2)))) (aNil)))))
def f_is_row_of_heights:Fn:=mkFn false 3 0 Xf_is_row_of_heights
def Xf_never_rises:Fs:=(sRet (zqd zke (zqa (zxi zyt (zqa (bC (.int 1)) (zqa (zqd zxd (zqa (bVar 0) (aNil))) (aNil))) 1 (asgN 1) zxn (bBin (zwb λ i j=>decide (i<=j)) (bBin zqc (bVar 0) (bVar 1)) (bBin zqc (bVar 0) (bBin zzc (bVar 1) (bC (.int 1)))))) (aNil))))
def f_never_rises:Fn:=mkFn false 1 0 Xf_never_rises
def Xf_column_of:Fs:=(sRet (zqy (bVar 0) 1 (asgN 2) zxn (bBin zqc (bVar 2) (bVar 1))))
def f_column_of:Fn:=mkFn false 2 0 Xf_column_of
def Xf_is_pile:Fs:=(sSeq (zvj (zqi f_must_be_box (zqa (bVar 0) (aNil))))
 (sSeq (sUnp (asgT [2,3,4]) (bVar 0) [0])
 (sSeq (sIf (bT (bOrV (bUn zqw (bUn (zqn "list") (bVar 1))) (bBin (opEq true) (zqd zxd (zqa (bVar 1) (aNil))) (bVar 2)))) (sRet (bC (.bl false))) sNil)
 (sSeq (sIf (bT (bUn zqw (zqd zke (zqa (zqy (bVar 1) 1 (asgN 5) zxn (zqi f_is_row_of_heights (zqa (bVar 5) (zqa (bVar 3) (zqa (bVar 4) (aNil)))))) (aNil))))) (sRet (bC (.bl false))) sNil)
 (sSeq (sIf (bT (bUn zqw (zqd zke (zqa (zqy (bVar 1) 1 (asgN 5) zxn (zqi f_never_rises (zqa (bVar 5) (aNil)))) (aNil))))) (sRet (bC (.bl false))) sNil)
 (sRet (zqd zke (zqa (zxi zxa (zqa (bVar 3) (aNil)) 1 (asgN 5) zxn (zqi f_never_rises (zqa (zqi f_column_of (zqa (bVar 1) (zqa (bVar 5) (aNil)))) (aNil)))) (aNil)))))))))
def f_is_pile:Fn:=mkFn false 2 3 Xf_is_pile
def Xf_must_be_pile:Fs:=(sIf (bT (bUn zqw (zqi f_is_pile (zqa (bVar 0) (zqa (bVar 1) (aNil)))))) (sExc 2) sNil)
def f_must_be_pile:Fn:=mkFn false 2 0 Xf_must_be_pile
def Xb_cell_at:Fs:=(sSeq (sIf (bT (bBin (zwb λ i j=>decide (i < j)) (bVar 1) (zqd zxd (zqa (bVar 0) (aNil))))) (sRet (bBin zqc (bVar 0) (bVar 1))) sNil)
 (sRet (bC (.int 0))))
def b_cell_at:Fn:=mkFn false 2 0 Xb_cell_at
def Xc_numbers:Fs:=(sSeq (sSet false 2 (zqd zxx (aNil)) [])
 (sSeq (sSet false 3 (bVar 0) [0])
 (sSeq (sSet false 4 (bBin zql (bVar 0) (bC (.int 2147483647))) [0])
 (sSeq (zzt zxa (zqa (bVar 1) (aNil)) (asgN 5) (sIf (bT (zxv (bBin (zwb λ i j=>decide (j<=i)) (bVar 0) (bBin qed (bC (.int 10)) (bC (.int 18)))) (bBin (zwb λ i j=>decide (j < i)) (bVar 3) (bC (.int 0))))) (sSeq (sApp 2 (bBin zql (bVar 3) (bC (.int 64))) [3])
 (sSet false 3 (bBin zzv (bVar 3) (bC (.int 64))) [3])) (sSeq (sSet false 4 (bBin zql (bBin zwk (bBin zqh (bBin zqh (bVar 4) (bBin zwk (bC (.int 7)) (bVar 5))) (bC (.int 3))) (bC (.int 48271))) (bC (.int 2147483647))) [4,5])
 (sSeq (sSet false 6 (bBin zql (bBin zwk (bBin zql (bBin zwk (bVar 4) (bVar 4)) (bC (.int 2147483629))) (bC (.int 69621))) (bC (.int 2147483587))) [4,4])
 (sApp 2 (bBin zql (bBin zzv (bVar 6) (bC (.int 8))) (bC (.int 720720))) [6])))))
 (zpu 2)))))
def c_numbers:Fn:=mkFn false 2 5 Xc_numbers
def Xc_box:Fs:=(sSeq (sSet false 1 (zqd zvl (zqa (bBin zqh (bC (.int 1)) (bBin zql (bBin zqc (bVar 0) (bC (.int 0))) (bC (.int 3)))) (zqa (bBin zqh (bC (.int 1)) (bBin zql (bBin zqc (bVar 0) (bC (.int 1))) (bC (.int 3)))) (zqa (bBin zqh (bC (.int 1)) (bBin zql (bBin zqc (bVar 0) (bC (.int 2))) (bC (.int 3)))) (aNil))))) [0,0,0])
 (sSeq (sIf (bT (bBin (opEq false) (bBin zql (bBin zqc (bVar 0) (bC (.int 3))) (bC (.int 4))) (bC (.int 1)))) (sSet false 1 (zqd zvl (zqa (bBin zqh (bC (.int 1)) (bBin zql (bBin zqc (bVar 0) (bC (.int 0))) (bC (.int 6)))) (zqa (bBin zqh (bC (.int 1)) (bBin zql (bBin zqc (bVar 0) (bC (.int 1))) (bC (.int 6)))) (zqa (bBin zqh (bC (.int 1)) (bBin zql (bBin zqc (bVar 0) (bC (.int 2))) (bC (.int 6)))) (aNil))))) [0,0,0]) sNil)
 (sSeq (sIf (bT (bBin (opEq false) (bBin zql (bBin zqc (bVar 0) (bC (.int 3))) (bC (.int 4))) (bC (.int 2)))) (sSet false 1 (zqd zvl (zqa (bBin zqc (bVar 1) (bC (.int 0))) (zqa (bBin zqc (bVar 1) (bC (.int 0))) (zqa (bBin zqc (bVar 1) (bC (.int 0))) (aNil))))) [1,1,1]) sNil)
 (sSeq (sIf (bT (bBin (opEq false) (bBin zql (bBin zqc (bVar 0) (bC (.int 3))) (bC (.int 8))) (bC (.int 3)))) (sSet false 1 (zqd zvl (zqa (bBin zqc (bVar 1) (bC (.int 0))) (zqa (bBin zqc (bVar 1) (bC (.int 0))) (zqa (bBin zqc (bVar 1) (bC (.int 2))) (aNil))))) [1,1,1]) sNil)
 (zpu 1)))))
def c_box:Fn:=mkFn false 1 1 Xc_box
def Xc_pile:Fs:=(sSeq (sSet false 2 (zqd zxx (aNil)) [])
 (sSeq (zzt zxa (zqa (bBin zqc (bVar 0) (bC (.int 0))) (aNil)) (asgN 3) (sSeq (sSet false 4 (zqd zxx (aNil)) [])
 (sSeq (zzt zxa (zqa (bBin zqc (bVar 0) (bC (.int 1))) (aNil)) (asgN 5) (sSeq (sSet false 6 (bBin zqc (bVar 0) (bC (.int 2))) [0])
 (sSeq (sIf (bT (bBin (zwb λ i j=>decide (j < i)) (bVar 3) (bC (.int 0)))) (sSet false 6 (bBin zqc (bBin zqc (bVar 2) (bBin zzc (bVar 3) (bC (.int 1)))) (bVar 5)) [2,3,5]) sNil)
 (sSeq (sIf (bT (bBin (zwb λ i j=>decide (j < i)) (bVar 5) (bC (.int 0)))) (sSet false 6 (zqd zkd (zqa (bVar 6) (zqa (bBin zqc (bVar 4) (bBin zzc (bVar 5) (bC (.int 1)))) (aNil)))) [6,4,5]) sNil)
 (sSeq (sSet false 7 (bBin zqc (bVar 1) (bBin zqh (bBin zwk (bC (.int 6)) (bVar 3)) (bVar 5))) [1,3,5])
 (sApp 4 (bBin zqc (zqd zxx (zqa (bBin zql (bVar 7) (bBin zqh (bVar 6) (bC (.int 1)))) (zqa (zqd zja (zqa (bC (.int 0)) (zqa (bBin zzc (bVar 6) (bBin zzv (bBin zql (bVar 7) (bC (.int 3))) (bC (.int 2)))) (aNil)))) (zqa (bBin zql (bVar 7) (bBin zqh (bVar 6) (bC (.int 1)))) (zqa (bVar 6) (aNil)))))) (bBin zql (bBin zqc (bVar 1) (bC (.int 36))) (bC (.int 4)))) [7,6,6,7,7,6,6,1]))))))
 (sApp 2 (bVar 4) [4]))))
 (sSeq (sIf (bT (bBin (opEq false) (bBin zql (bBin zqc (bVar 1) (bC (.int 36))) (bC (.int 4))) (bC (.int 3)))) (sSeq (zvz 2 (bUn zzg (bC (.int 1))) (zqy (bBin zqc (bVar 2) (bUn zzg (bC (.int 1)))) 1 (asgN 8) zxn (bBin zzc (bVar 8) (bBin zql (bBin zqc (bVar 1) (bC (.int 37))) (bBin zqh (bVar 8) (bC (.int 1)))))))
 (zvz 2 (bUn zzg (bC (.int 1))) (zxi zxa (zqa (bBin zqc (bVar 0) (bC (.int 1))) (aNil)) 1 (asgN 8) zxn (zqd zkd (zqa (bSl (bBin zqc (bVar 2) (bUn zzg (bC (.int 1)))) none (some (bBin zqh (bVar 8) (bC (.int 1))))) (aNil)))))) sNil)
 (zpu 2))))
def c_pile:Fn:=mkFn false 2 6 Xc_pile
theorem sz:(1000000:Nat)<=va2:=by decide
theorem qdj (i:Int):f_is_whole_number [.int i]=.ok (.bl true,om,.non):=by kernel_rfl
def boxB (a b c:Int):Bool:=decide (1<=a) && (decide (1<=b) && decide (1<=c))
theorem qci (a b c:Int):f_is_box [bx a b c]=.ok (.bl (boxB a b c),om,.non):=by
 have e0:∀ x∈[a,b,c],(zxv (zqi f_is_whole_number (zqa (bVar 1) (aNil))) (bBin (zwb λ i j=>decide (j<=i)) (bVar 1) (bC (.int 1)))) ([some (bx a b c,0)]++[some (.int x,om)])=.ok (.bl (decide (1<=x)),om,[some (bx a b c,0)]++[some (.int x,om)]):=λ x _=>by kernel_rfl
 have e1:=qew (n:=1) (f:=bVar 0) (ρ:=[some (bx a b c,0)]) (enc:=PV.int) (q:=λ x=>.bl (decide (1<=x))) (d:=0) [a,b,c] rfl rfl e0 (by have:=sz;show 3<=va2;omega)
 refine zzj rfl (ρ':=[some (bx a b c,0)]) ?_
 show Xf_is_box [some (bx a b c,0)]=_
 refine (qad (ρ1:=[some (bx a b c,0)]) (by kernel_rfl)).trans (zwu ?_)
 rw [all_ok e1]
 show Rz.ok (PV.bl (decide (1<=a) && (decide (1<=b) && (decide (1<=c) && true))),om,_)=_
 rw [jm2]
 rfl
theorem zyl {a b c:Int} (h:boxB a b c=true):f_must_be_box [bx a b c]=.ok (.non,om,.non):=by
 refine qlf rfl (ρ':=[some (bx a b c,0)]) ?_
 have hb:=qci a b c
 rw [h] at hb
 exact if_f (f:=sExc 1) (g:=sNil) (t_ok (zvm (zqr (F:=f_is_box) (fa:=zqa (bVar 0) aNil) (ρ:=[some (bx a b c,0)]) (xs:=[(bx a b c,0)]) rfl hb)))
def rowB (xs:List Int) (c h:Int):Bool:=decide ((xs.length:Int)=c) && xs.all λ x=>decide (0<=x) && decide (x<=h)
theorem qj4 (xs:List Int) (c h:Int) (hl:xs.length<=1000):f_is_row_of_heights [il xs,.int c,.int h]=.ok (.bl (rowB xs c h),om,.non):=by
 have e0:∀ x∈xs,(zxv (zqi f_is_whole_number (zqa (bVar 3) (aNil))) (zvt (λ i j=>decide (i<=j)) (λ i j=>decide (i<=j)) (bC (.int 0)) (bVar 3) (bVar 2))) ([some (il xs,0),some (.int c,om),some (.int h,om)]++[some (.int x,om)])=.ok (.bl (decide (0<=x) && decide (x<=h)),om,[some (il xs,0),some (.int c,om),some (.int h,om)]++[some (.int x,om)]):=λ x _=>
  zhv (a:=true) (zqr (xs:=[(.int x,om)]) rfl (qdj x)) (λ _=>qe1 (i:=0) (j:=x) (k:=h) rfl rfl rfl) rfl
 have e1:=zxs (n:=3) (f:=bVar 0) (ρ:=[some (il xs,0),some (.int c,om),some (.int h,om)]) (enc:=PV.int) (q:=λ x=>.bl (decide (0<=x) && decide (x<=h))) (d:=0) xs rfl rfl e0 (by have:=sz;omega)
 have t:bT (bOrV (bUn zqw (bUn (zqn "list") (bVar 0))) (bBin (opEq true) (zqd zxd (zqa (bVar 0) (aNil))) (bVar 1))) [some (il xs,0),some (.int c,om),some (.int h,om)]=.ok (!decide ((xs.length:Int)=c),[some (il xs,0),some (.int c,om),some (.int h,om)]):=by
  refine t_ok (d:=om) ((qkj (a:=false) rfl (λ _=>zfp (qfw (xs:=xs) (d:=0) rfl) (j:=c) rfl) rfl).trans ?_)
  rw [jm0,Bool.true_xor]
 refine zzj rfl (ρ':=[some (il xs,0),some (.int c,om),some (.int h,om)]) ?_
 show Xf_is_row_of_heights [some (il xs,0),some (.int c,om),some (.int h,om)]=_
 unfold rowB
 by_cases hc:(xs.length:Int)=c
 ·rw [decide_eq_true hc] at t ⊢
  refine (qad t).trans (zwu ?_)
  rw [all_ok e1]
  rfl
 ·rw [decide_eq_false hc] at t ⊢
  exact zps ((if_t t).trans rfl)
def nrB (xs:List Int):Bool:=(jc6 ((xs.length:Int) - 1).toNat).all λ k=>decide (xs.getD (k + 1) 0<=xs.getD k 0)
theorem zgo (xs:List Int) (hl:xs.length<=1000):f_never_rises [il xs]=.ok (.bl (nrB xs),om,.non):=by
 have e0:∀ k,k < ((xs.length:Int) - 1).toNat->(bBin (zwb λ i j=>decide (i<=j)) (bBin zqc (bVar 0) (bVar 1)) (bBin zqc (bVar 0) (bBin zzc (bVar 1) (bC (.int 1))))) ([some (il xs,0)]++[some (.int (1 + (k:Int)),om)])=.ok (.bl (decide (xs.getD (k + 1) 0<=xs.getD k 0)),om,[some (il xs,0)]++[some (.int (1 + (k:Int)),om)]):=λ k hk=>by
  refine qlr (i:=xs.getD (k + 1) 0) (j:=xs.getD k 0) (zzx (xs:=xs) (k:=1 + (k:Int)) rfl rfl (zxt (by omega) ?_)) (zzx (xs:=xs) (k:=1 + (k:Int) - 1) rfl rfl (zxt (by omega) ?_))
  ·rw [show (1 + (k:Int)).toNat=k + 1 by omega,jb1 (show k + 1 < xs.length by omega),ja3,jb1 (show k + 1 < xs.length by omega)];rfl
  ·rw [show (1 + (k:Int) - 1).toNat=k by omega,jb1 (show k < xs.length by omega),ja3,jb1 (show k < xs.length by omega)];rfl
 have e1:=zkz (n:=1) (en:=zyt) (ρ:=[some (il xs,0)]) (q:=λ k=>.bl (decide (xs.getD (k + 1) 0<=xs.getD k 0))) (zxf (f:=bC (.int 1)) (d:=om) (x:=.int 1) rfl (zxg (qfw (fa:=zqa (bVar 0) aNil) (xs:=xs) (d:=0) rfl))) (qeq (by decide) (by decide) (by omega) (by omega)) rfl e0 (by have:=sz;omega)
 exact zzj rfl (ρ':=[some (il xs,0)]) (zwu (all_ok e1))
def zyw (t:List (List Int)) (j:Nat):List Int:=t.map λ r=>r.getD j 0
theorem zxm {xs:List Int}{j:Nat} (h:j < xs.length):xs[j]?=some (xs.getD j 0):=by
 rw [ja3,jb1 h];rfl
theorem zyr {xs:List (List Int)}{j:Nat} (h:j < xs.length):xs[j]?=some (xs.getD j []):=by
 rw [ja3,jb1 h];rfl
theorem qcz (t:List (List Int)) (j:Nat) (hl:t.length<=1000) (hr:∀ r∈t,j < r.length):f_column_of [tb t,.int (j:Int)]=.ok (il (zyw t j),om,.non):=by
 have e0:∀ r∈t,(bBin zqc (bVar 2) (bVar 1)) ([some (tb t,0),some (.int (j:Int),om)]++[some (il r,0)])=.ok (.int (r.getD j 0),om,[some (tb t,0),some (.int (j:Int),om)]++[some (il r,0)]):=λ r hm=>
  zzx (xs:=r) (k:=(j:Int)) rfl rfl (zxt (by omega) (zxm (hr r hm)))
 have e1:=zxs (n:=2) (f:=bVar 0) (ρ:=[some (tb t,0),some (.int (j:Int),om)]) (enc:=il) (q:=λ r=>.int (r.getD j 0)) (d:=0) t rfl rfl e0 (by have:=sz;omega)
 refine zzj rfl (ρ':=[some (tb t,0),some (.int (j:Int),om)]) ((zwu e1).trans ?_)
 unfold zyw il
 rw [jd8]
 rfl
def Tab (a b:Nat) (t:List (List Int)):Prop:=t.length=a/\∀ r∈t,r.length=b
def qbn (a b:Nat) (c:Int) (t:List (List Int)):Bool:=(t.all λ r=>rowB r b c) && ((t.all nrB) && ((jc6 b).all λ j=>nrB (zyw t j)))
theorem zjq {a b:Nat}{c:Int}{t:List (List Int)} (ht:Tab a b t) (ha:1<=a/\a<=100) (hb:1<=b/\b<=100) (hc:1<=c):f_is_pile [bx a b c,tb t]=.ok (.bl (qbn a b c t),om,.non):=by
 let R0:Rho:=[some (bx a b c,0),some (tb t,0),none,none,none]
 let R1:Rho:=[some (bx a b c,0),some (tb t,0),some (.int a,om),some (.int b,om),some (.int c,om)]
 have hbx:boxB a b c=true:=by unfold boxB;rw [decide_eq_true (by omega),decide_eq_true (by omega),decide_eq_true hc];rfl
 have hs:=sz
 have l1:=ht.1
 have s1:zvj (zqi f_must_be_box (zqa (bVar 0) (aNil))) R0=.nx R0:=zbw (zqr (xs:=[(bx a b c,0)]) rfl (zyl hbx))
 have s2:sUnp (asgT [2,3,4]) (bVar 0) [0] R0=.nx R1:=by kernel_rfl
 have t3:bT (bOrV (bUn zqw (bUn (zqn "list") (bVar 1))) (bBin (opEq true) (zqd zxd (zqa (bVar 1) (aNil))) (bVar 2))) R1=.ok (false,R1):=by
  refine t_ok (d:=om) ((qkj (a:=false) rfl (λ _=>zfp (qk0 (t:=t) (d:=0) rfl) (j:=(a:Int)) rfl) rfl).trans ?_)
  rw [l1];simp
 have e4:∀ r∈t,(zqi f_is_row_of_heights (zqa (bVar 5) (zqa (bVar 3) (zqa (bVar 4) (aNil))))) (R1++[some (il r,0)])=.ok (.bl (rowB r b c),om,R1++[some (il r,0)]):=λ r hr=>
  zqr (xs:=[(il r,0),(.int b,om),(.int c,om)]) rfl (qj4 r b c (by rw [ht.2 r hr];omega))
 have t4:=t_ok (zvm (all_ok (zxs (n:=5) (f:=bVar 1) (ρ:=R1) (enc:=il) (q:=λ r=>.bl (rowB r b c)) (d:=0) t rfl rfl e4 (by omega))))
 have e5:∀ r∈t,(zqi f_never_rises (zqa (bVar 5) (aNil))) (R1++[some (il r,0)])=.ok (.bl (nrB r),om,R1++[some (il r,0)]):=λ r hr=>
  zqr (xs:=[(il r,0)]) rfl (zgo r (by rw [ht.2 r hr];omega))
 have t5:=t_ok (zvm (all_ok (zxs (n:=5) (f:=bVar 1) (ρ:=R1) (enc:=il) (q:=λ r=>.bl (nrB r)) (d:=0) t rfl rfl e5 (by omega))))
 have e6:∀ k,k < ((b:Int) - 0).toNat->(zqi f_never_rises (zqa (zqi f_column_of (zqa (bVar 1) (zqa (bVar 5) (aNil)))) (aNil))) (R1++[some (.int (0 + (k:Int)),om)])=.ok (.bl (nrB (zyw t k)),om,R1++[some (.int (0 + (k:Int)),om)]):=λ k hk=>by
  have e:=qcz t k (by omega) λ r hr=>by rw [ht.2 r hr];omega
  rw [jg8]
  exact zqr (xs:=[(il (zyw t k),om)]) (zxg (zqr (xs:=[(tb t,0),(.int (k:Int),om)]) rfl e)) (zgo _ (by unfold zyw;rw [ja6];omega))
 have e7:=zkz (n:=5) (en:=zxa) (fa:=zqa (bVar 3) aNil) (ρ:=R1) (q:=λ k=>.bl (nrB (zyw t k))) (as:=[(.int (b:Int),om)]) rfl (zwf (by omega) (by omega)) rfl e6 (by omega)
 rw [show ((b:Int) - 0).toNat=b by omega] at e7
 refine zzj rfl (ρ':=R1) ?_
 show Xf_is_pile R0=_
 unfold qbn
 refine (zqe s1).trans ((zqe s2).trans ((qad t3).trans ?_))
 cases h1:t.all λ r=>rowB r b c with
 | false=>
  rw [h1] at t4
  exact zps ((if_t t4).trans rfl)
 | true=>
  rw [h1] at t4
  refine (qad t4).trans ?_
  cases h2:t.all nrB with
  | false=>
   have h2':t.all (λ r=>nrB r)=false:=h2
   rw [h2'] at t5
   exact zps ((if_t t5).trans rfl)
  | true=>
   have h2':t.all (λ r=>nrB r)=true:=h2
   rw [h2'] at t5
   exact (qad t5).trans (zwu (all_ok e7))
theorem zme {a b:Nat}{c:Int}{t:List (List Int)} (ht:Tab a b t) (ha:1<=a/\a<=100) (hb:1<=b/\b<=100) (hc:1<=c) (h:qbn a b c t=true):f_must_be_pile [bx a b c,tb t]=.ok (.non,om,.non):=by
 refine qlf rfl (ρ':=[some (bx a b c,0),some (tb t,0)]) ?_
 have hp:=zjq ht ha hb hc
 rw [h] at hp
 exact if_f (f:=sExc 2) (g:=sNil) (t_ok (zvm (zqr (F:=f_is_pile) (fa:=zqa (bVar 0) (zqa (bVar 1) aNil)) (ρ:=[some (bx a b c,0),some (tb t,0)]) (xs:=[(bx a b c,0),(tb t,0)]) rfl hp)))
theorem qgi (t:List (List Int)) (r:List Int):PV.lst ((t.map il)++[il r])=tb (t++[r]):=by
 unfold tb
 rw [jl1]
 rfl
def g (t:List (List Int)) (i j:Nat):Int:=(t.getD i []).getD j 0
structure Pile (a b:Nat) (c:Int) (t:List (List Int)):Prop where
 tab:Tab a b t
 lo:∀ i j,i < a->j < b->0<=g t i j
 hi:∀ i j,i < a->j < b->g t i j<=c
 dn:∀ i j,i + 1 < a->j < b->g t (i + 1) j<=g t i j
 rt:∀ i j,i < a->j + 1 < b->g t i (j + 1)<=g t i j
theorem zyg {t:List (List Int)}{i:Nat} (h:i < t.length):t.getD i []∈t:=by
 rw [ja3,jb1 h]
 exact je7 h
theorem Tab.row {a b:Nat}{t:List (List Int)} (h:Tab a b t) {i:Nat} (hi:i < a):(t.getD i []).length=b:=h.2 _ (zyg (by rw [h.1];exact hi))
theorem zkw {xs:List Int}{i:Nat} (h:i < xs.length):xs.getD i 0∈xs:=by
 rw [ja3,jb1 h]
 exact je7 h
theorem mem_getD {xs:List Int}{x:Int} (h:x∈xs):∃ i,i < xs.length/\xs.getD i 0=x:=by
 obtain ⟨i,hi,e⟩:=jd7 h
 exact ⟨i,hi,by rw [ja3,jb1 hi];exact e⟩
theorem zmf {t:List (List Int)}{r:List Int} (h:r∈t):∃ i,i < t.length/\t.getD i []=r:=by
 obtain ⟨i,hi,e⟩:=jd7 h
 exact ⟨i,hi,by rw [ja3,jb1 hi];exact e⟩
theorem zgg {xs:List Int}{c h:Int}:rowB xs c h=true↔(xs.length:Int)=c/\∀ x∈xs,0<=x/\x<=h:=by
 unfold rowB
 rw [ja5,decide_eq_true_iff,jc8]
 constructor
 ·rintro ⟨h1,h2⟩
  refine ⟨h1,λ x hx=>?_⟩
  have:=h2 x hx
  rw [ja5,decide_eq_true_iff,decide_eq_true_iff] at this
  exact this
 ·rintro ⟨h1,h2⟩
  refine ⟨h1,λ x hx=>?_⟩
  rw [ja5,decide_eq_true_iff,decide_eq_true_iff]
  exact h2 x hx
theorem zbo {xs:List Int}:nrB xs=true↔∀ k,k + 1 < xs.length->xs.getD (k + 1) 0<=xs.getD k 0:=by
 unfold nrB
 rw [jc8]
 constructor
 ·intro h k hk
  exact of_decide_eq_true (h k (jd0.mpr (by omega)))
 ·intro h k hk
  have:=jd0.mp hk
  exact decide_eq_true (h k (by omega))
theorem zpb {t:List (List Int)}{i j:Nat} (h:i < t.length):(zyw t j).getD i 0=g t i j:=by
 unfold zyw g
 rw [ja3,jc2,jb1 h,ja3 (l:=t),jb1 h]
 rfl
theorem qc0 {t:List (List Int)}{j:Nat}:(zyw t j).length=t.length:=by unfold zyw;rw [ja6]
theorem zpz {a b:Nat}{c:Int}{t:List (List Int)} (ht:Tab a b t):qbn a b c t=true↔Pile a b c t:=by
 unfold qbn
 rw [ja5,ja5,jc8,jc8,jc8]
 constructor
 ·rintro ⟨h1,h2,h3⟩
  have q:∀ i j,i < a->j < b->0<=g t i j/\g t i j<=c:=λ i j hi hj=>(zgg.mp (h1 _ (zyg (by rw [ht.1];exact hi)))).2 _ (zkw (by rw [ht.row hi];exact hj))
  refine ⟨ht,λ i j hi hj=>(q i j hi hj).1,λ i j hi hj=>(q i j hi hj).2,λ i j hi hj=>?_,λ i j hi hj=>?_⟩
  ·have:=zbo.mp (h3 j (jd0.mpr hj)) i (by rw [qc0,ht.1];exact hi)
   rw [zpb (by rw [ht.1];exact hi),zpb (by rw [ht.1];omega)] at this
   exact this
  ·exact zbo.mp (h2 _ (zyg (by rw [ht.1];exact hi))) j (by rw [ht.row hi];exact hj)
 ·intro p
  refine ⟨λ r hr=>zgg.mpr ⟨by rw [ht.2 r hr],λ x hx=>?_⟩,λ r hr=>zbo.mpr λ k hk=>?_,λ j hj=>zbo.mpr λ k hk=>?_⟩
  ·obtain ⟨i,hi,rfl⟩:=zmf hr
   obtain ⟨j,hj,rfl⟩:=mem_getD hx
   have hi':i < a:=by rw [<- ht.1];exact hi
   rw [ht.row hi'] at hj
   exact ⟨p.lo i j hi' hj,p.hi i j hi' hj⟩
  ·obtain ⟨i,hi,rfl⟩:=zmf hr
   have hi':i < a:=by rw [<- ht.1];exact hi
   rw [ht.row hi'] at hk
   exact p.rt i k hi' hk
  ·rw [qc0,ht.1] at hk
   rw [zpb (by rw [ht.1];exact hk),zpb (by rw [ht.1];omega)]
   exact p.dn k j hk (jd0.mp hj)
theorem qhu {b j:Nat}{f:Nat->Int} (hj:j < b):((jc6 b).map f).getD j 0=f j:=by
 rw [ja3,jc2,ji7 hj];rfl
def Nr (r:List Int):Prop:=∀ k,k + 1 < r.length->r.getD (k + 1) 0<=r.getD k 0
theorem zvi {α:Type}{xs:List α}{i:Nat}{x d:α} (h:i < xs.length):(xs.set i x).getD i d=x:=by
 rw [ja3,jc3 h];rfl
theorem zfg {α:Type}{xs:List α}{i j:Nat}{x d:α} (h:i≠j):(xs.set i x).getD j d=xs.getD j d:=by
 rw [ja3,jb9 h,ja3]
theorem zbc {α:Type}{f:PV->Option vg5}{e:α->PV}{q:α->vg5} (h:∀ x,f (e x)=some (q x)):∀ xs:List α,toDL f (xs.map e)=some (xs.map q)
 | []=>rfl
 | x::xs=>by rw [jc1,toDL,h,zbc h xs];rfl
theorem qax (n:Nat) (xs:List Int):toD (n + 2) (il xs)=some (.list (xs.map .int)):=by
 show (toDL (toD (n + 1)) (xs.map PV.int)).map PyData.list=_
 rw [zbc (q:=PyData.int) (λ x=>rfl)];rfl
theorem qff (n:Nat) (t:List (List Int)):toD (n + 3) (tb t)=some (.list (t.map λ r=>.list (r.map .int))):=by
 show (toDL (toD (n + 2)) (t.map il)).map PyData.list=_
 rw [zbc (λ x=>qax n x)];rfl
theorem zkh:∀ xs ys:List Int,vi3 (xs.map .int) (ys.map .int)=decide (xs=ys)
 | [],[]=>rfl
 | [],y::ys=>rfl
 | x::xs,[]=>rfl
 | x::xs,y::ys=>by
  rw [jc1,jc1,vi3,zkh xs ys]
  show ((x == y) && _)=_
  by_cases h:x=y
  ·subst h
   by_cases h2:xs=ys
   ·subst h2;simp
   ·simp [h2]
  ·simp [h]
theorem zjt:∀ t u:List (List Int),vi3 (t.map λ r=>.list (r.map .int)) (u.map λ r=>.list (r.map .int))=decide (t=u)
 | [],[]=>rfl
 | [],y::ys=>rfl
 | x::xs,[]=>rfl
 | x::xs,y::ys=>by
  rw [jc1,jc1,vi3,zjt xs ys,vc9,zkh]
  by_cases h:x=y
  ·subst h
   by_cases h2:xs=ys
   ·subst h2;simp
   ·simp [h2]
  ·simp [h]
theorem qmt {neg:Bool}{f h:Fx}{ρ ρ1 ρ2:Rho}{xs ys:List Int}{d e:Nat} (h1:f ρ=.ok (il xs,d,ρ1)) (h2:h ρ1=.ok (il ys,e,ρ2)):bBin (opEq neg) f h ρ=.ok (.bl (neg^^decide (xs=ys)),om,ρ2):=by
 refine zwm h1 h2 ?_
 unfold opEq
 rw [qax 18,qax 18]
 show some (PV.bl (neg^^vc9 _ _),om)=_
 rw [vc9,zkh]
theorem qlg {neg:Bool}{f h:Fx}{ρ ρ1 ρ2:Rho}{t u:List (List Int)}{d e:Nat} (h1:f ρ=.ok (tb t,d,ρ1)) (h2:h ρ1=.ok (tb u,e,ρ2)):bBin (opEq neg) f h ρ=.ok (.bl (neg^^decide (t=u)),om,ρ2):=by
 refine zwm h1 h2 ?_
 unfold opEq
 rw [qff 17,qff 17]
 show some (PV.bl (neg^^vc9 _ _),om)=_
 rw [vc9,zjt]
theorem qh0 {f h:Fx}{ρ ρ1 ρ2:Rho}{xs:List Int}{k x:Int}{d e:Nat} (h1:f ρ=.ok (.scr xs,d,ρ1)) (h2:h ρ1=.ok (.int k,e,ρ2)) (hx:atI xs k=some x):bBin zqc f h ρ=.ok (.int x,om,ρ2):=by
 refine zwm h1 h2 ?_
 show (atI xs k).map _=_
 rw [hx];rfl
theorem qik (ns:List Int) (k:Nat):b_cell_at [.scr ns,.int (k:Int)]=.ok (.int (ns.getD k 0),om,.non):=by
 let R:Rho:=[some (.scr ns,om),some (.int (k:Int),om)]
 have t1:bT (bBin (zwb λ i j=>decide (i < j)) (bVar 1) (zqd zxd (zqa (bVar 0) (aNil)))) R=.ok (decide ((k:Int) < (ns.length:Int)),R):=rfl
 refine zzj rfl (ρ':=R) ?_
 by_cases h:(k:Int) < (ns.length:Int)
 ·rw [decide_eq_true h] at t1
  exact zps ((if_t t1).trans (zwu (qh0 (xs:=ns) (k:=(k:Int)) (d:=om) rfl rfl (zxt (by omega) (zxm (by omega))))))
 ·rw [decide_eq_false h] at t1
  refine (qad t1).trans ((zwu (d:=om) rfl).trans ?_)
  rw [ja3,jd9 (by omega)]
  rfl
theorem zfn (xs:List Int) (x:Int):PV.lst (xs.map PV.int++[.int x])=il (xs++[x]):=by unfold il;rw [jl1];rfl
theorem zhs {α:Type}{xs:List α}{x:α} (h:xs[xs.length - 1]?=some x):atI xs (-1)=some x:=by
 have hl:=(ja8.mp h).1
 unfold atI ixN
 rw [if_neg (by decide),if_pos (by omega),show (-1 + (xs.length:Int)).toNat=xs.length - 1 by omega]
 exact h
theorem qix {f h:Fx}{ρ ρ1 ρ2:Rho}{xs ys:List PV}{d e:Nat} (h1:f ρ=.ok (.lst xs,d,ρ1)) (h2:h ρ1=.ok (.lst ys,e,ρ2)) (hl:xs.length + ys.length<=va2):bBin zqh f h ρ=.ok (.lst (xs++ys),d1 (xs++ys),ρ2):=by
 refine zwm h1 h2 ?_
 show (if _ then _ else _)=_
 rw [if_pos hl]
theorem zjr:∀ xs:List Int,zvn (xs.map PV.int)=some xs
 | []=>rfl
 | x::xs=>by rw [jc1,zvn,zjr xs];rfl
theorem qkz {fa:Fa}{ρ ρ1:Rho}{x:Int}{xs:List Int}{d:Nat} (h:fa ρ=.ok ([(il (x::xs),d)],ρ1)):zqd zkd fa ρ=.ok (.int (minI x xs),om,ρ1):=by
 refine zxu h ?_
 show (match zvn ((x::xs).map PV.int) with | some (n::r)=>some (PV.int (minI n r),om) | _=>none)=_
 rw [zjr]
def upH (c:Int) (t:List (List Int)) (j:Nat):Int:=if t.length=0 then c else g t (t.length - 1) j
def topH (c:Int) (t:List (List Int)) (r:List Int) (j:Nat):Int:=if r.length=0 then upH c t j else min (upH c t j) (r.getD (r.length - 1) 0)
theorem qdt {t:List (List Int)}{r:List Int}{i:Nat}:(t++[r]).getD i []=if i < t.length then t.getD i [] else if i=t.length then r else []:=by
 by_cases h:i < t.length
 ·rw [if_pos h,ja3,jb5 h,ja3]
 ·rw [if_neg h]
  by_cases h2:i=t.length
  ·rw [if_pos h2,h2,ja3,ji8];rfl
  ·rw [if_neg h2,ja3,jd9 (by rw [jb3,jf0];omega)];rfl
theorem zkp {r:List Int}{x:Int}{i:Nat}:(r++[x]).getD i 0=if i < r.length then r.getD i 0 else if i=r.length then x else 0:=by
 by_cases h:i < r.length
 ·rw [if_pos h,ja3,jb5 h,ja3]
 ·rw [if_neg h]
  by_cases h2:i=r.length
  ·rw [if_pos h2,h2,ja3,ji8];rfl
  ·rw [if_neg h2,ja3,jd9 (by rw [jb3,jf0];omega)];rfl
theorem Pile.snoc {k b:Nat}{c:Int}{t:List (List Int)}{r:List Int} (p:Pile k b c t) (hr:r.length=b) (h:∀ y,y < b->0<=r.getD y 0/\r.getD y 0<=upH c t y) (hn:Nr r):Pile (k + 1) b c (t++[r]):=by
 have l:=p.tab.1
 have e:∀ i j,g (t++[r]) i j=if i < k then g t i j else if i=k then r.getD j 0 else 0:=λ i j=>by
  unfold g
  rw [qdt,l]
  split
  ·rfl
  ·split <;> rfl
 have u:∀ y,y < b->upH c t y<=c:=λ y hy=>by
  unfold upH
  split
  ·exact jl7 _
  ·exact p.hi _ _ (by omega) hy
 refine ⟨⟨by rw [jb3,l];rfl,λ x hx=>?_⟩,λ i j hi hj=>?_,λ i j hi hj=>?_,λ i j hi hj=>?_,λ i j hi hj=>?_⟩
 ·rcases jc0.mp hx with z | z
  ·exact p.tab.2 x z
  ·rw [jb6.mp z,hr]
 ·rw [e]
  by_cases z:i < k
  ·rw [if_pos z];exact p.lo i j z hj
  ·rw [if_neg z,if_pos (by omega)];exact (h j hj).1
 ·rw [e]
  by_cases z:i < k
  ·rw [if_pos z];exact p.hi i j z hj
  ·rw [if_neg z,if_pos (by omega)];exact jl2 (h j hj).2 (u j hj)
 ·rw [e,e]
  by_cases z:i + 1 < k
  ·rw [if_pos z,if_pos (by omega)];exact p.dn i j z hj
  ·rw [if_neg z,if_pos (by omega),if_pos (by omega)]
   have:=(h j hj).2
   unfold upH at this
   rw [if_neg (by omega),l,show k - 1=i by omega] at this
   exact this
 ·rw [e,e]
  by_cases z:i < k
  ·rw [if_pos z,if_pos z];exact p.rt i j z hj
  ·rw [if_neg z,if_neg z,if_pos (by omega),if_pos (by omega)];exact hn j (by rw [hr];exact hj)
theorem zfd:∀ xs:List Int,zpf (xs.map PV.int)=true
 | []=>rfl
 | x::xs=>by rw [jc1,zpf,zfd xs];rfl
theorem zhl (xs:List Int):d1 (xs.map PV.int)=om:=by unfold d1;rw [zfd];rfl
theorem qhv {f:Fx}{ρ ρ1:Rho}{xs:List Int}{d:Nat} (h:f ρ=.ok (il xs,d,ρ1)):zqd zkl (zqa f aNil) ρ=.ok (il xs,om,ρ1):=by
 refine zxu (zxg h) ?_
 show some (PV.lst (xs.map PV.int),d1 (xs.map PV.int))=_
 rw [zhl];rfl
theorem qh1 {f h k:Fx}{ρ ρ1 ρ2 ρ3:Rho}{t:List (List Int)}{a b i j:Nat}{d e e':Nat} (ht:Tab a b t) (h1:f ρ=.ok (tb t,d,ρ1)) (h2:h ρ1=.ok (.int (i:Int),e,ρ2)) (h3:k ρ2=.ok (.int (j:Int),e',ρ3)) (hi:i < a) (hj:j < b):bBin zqc (bBin zqc f h) k ρ=.ok (.int (g t i j),om,ρ3):=
 zzx (xs:=t.getD i []) (k:=(j:Int)) (zml (t:=t) (k:=(i:Int)) h1 h2 (zxt (by omega) (zyr (by rw [je2,ht.1];exact hi)))) h3 (zxt (by omega) (zxm (by rw [je2,ht.row hi];exact hj)))
theorem zmg {asg:PV->Rho->Option Rho}{body:Fs}:∀ (els:List PV) (I:Nat->Rho->Prop) (ρ:Rho),I 0 ρ->(∀ j x ρ,els[j]?=some x->I j ρ->∃ ρ1 ρ2,asg x ρ=some ρ1/\body ρ1=.nx ρ2/\I (j + 1) ρ2)->∃ ρ',zvc asg body els ρ=.nx ρ'/\I els.length ρ'
 | [],I,ρ,h,_=>⟨ρ,rfl,h⟩
 | x::xs,I,ρ,h,hb=>by
  obtain ⟨ρ1,ρ2,e1,e2,h2⟩:=hb 0 x ρ rfl h
  obtain ⟨ρ',e',h'⟩:=zmg xs (λ j=>I (j + 1)) ρ2 h2 λ j y ρ hy hi=>hb (j + 1) y ρ (by simpa using hy) hi
  refine ⟨ρ',?_,h'⟩
  unfold zvc
  rw [e1]
  dsimp only
  rw [e2]
  exact e'
theorem zhd {f:Fx}{vs:List Nat}{asg:PV->Rho->Option Rho}{body:Fs}{ρ ρ1 ρ2:Rho}{els:List PV}{d:Nat} (I:Nat->Rho->Prop) (hf:f ρ=.ok (.lst els,d,ρ1)) (ec:zxb d vs ρ1=ρ2) (h0:I 0 ρ2)
  (hb:∀ j x ρ,els[j]?=some x->I j ρ->∃ ρ1 ρ2,asg x ρ=some ρ1/\body ρ1=.nx ρ2/\I (j + 1) ρ2):∃ ρ',zbh f vs asg body ρ=.nx ρ'/\I els.length ρ':=by
 obtain ⟨ρ',e,h⟩:=zmg els I ρ2 h0 hb
 refine ⟨ρ',?_,h⟩
 unfold zbh
 rw [hf]
 dsimp only
 rw [ec]
 exact e
abbrev C3:=Nat×Nat×Nat
theorem qif {n i:Nat}{t:List (List Int)}{ρ:Rho}{d:Nat} (hf:bVar i ρ=.ok (tb t,d,ρ)) (hn:ρ.length=n) (hl:t.length<=1000):zqy (bVar i) 1 (asgN n) zxn (zqd zkl (zqa (bVar n) (aNil))) ρ=.ok (tb t,om,ρ):=
 have z:=sz
 zxs (n:=n) (enc:=il) (q:=il) t hf hn (λ r _=>qhv (d:=0) (by
  unfold bVar
  rw [jc5 (by omega),hn,jp0]
  rfl)) (by omega)
def CN:Fs:=(sIf (bT (zxv (bBin (zwb λ i j=>decide (j<=i)) (bVar 0) (bBin qed (bC (.int 10)) (bC (.int 18)))) (bBin (zwb λ i j=>decide (j < i)) (bVar 3) (bC (.int 0))))) (sSeq (sApp 2 (bBin zql (bVar 3) (bC (.int 64))) [3])
 (sSet false 3 (bBin zzv (bVar 3) (bC (.int 64))) [3])) (sSeq (sSet false 4 (bBin zql (bBin zwk (bBin zqh (bBin zqh (bVar 4) (bBin zwk (bC (.int 7)) (bVar 5))) (bC (.int 3))) (bC (.int 48271))) (bC (.int 2147483647))) [4,5])
 (sSeq (sSet false 6 (bBin zql (bBin zwk (bBin zql (bBin zwk (bVar 4) (bVar 4)) (bC (.int 2147483629))) (bC (.int 69621))) (bC (.int 2147483587))) [4,4])
 (sApp 2 (bBin zql (bBin zzv (bVar 6) (bC (.int 8))) (bC (.int 720720))) [6]))))
theorem qih (c:Int) (m:Nat) (hm:m<=1000):∃ ns:List Int,ns.length=m/\c_numbers [.int c,.int (m:Int)]=.ok (il ns,om,.non):=by
 have z:=sz
 let R (xs:List Int) (v w:Int) (s5 s6:QQ.Slot):Rho:=[some (.int c,om),some (.int (m:Int),om),some (il xs,om),some (.int v,om),some (.int w,om),s5,s6]
 let R0 (s2 s3 s4:QQ.Slot):Rho:=[some (.int c,om),some (.int (m:Int),om),s2,s3,s4,none,none]
 have s1:sSet false 2 (zqd zxx (aNil)) [] (R0 none none none)=.nx (R0 (some (il [],om)) none none):=by kernel_rfl
 have s2:sSet false 3 (bVar 0) [0] (R0 (some (il [],om)) none none)=.nx (R0 (some (il [],om)) (some (.int c,om)) none):=by kernel_rfl
 have s3:sSet false 4 (bBin zql (bVar 0) (bC (.int 2147483647))) [0] (R0 (some (il [],om)) (some (.int c,om)) none)=.nx (R [] c (c % 2147483647) none none):=setF (zwd (i:=c) rfl rfl (by decide)) (show 4 < 7 by decide) rfl
 obtain ⟨ρ',e6,xs,v,w,s5,s6,rfl,hl⟩:=zvp (i:=5) (body:=CN) (en:=zxa) (fa:=zqa (bVar 1) (aNil)) (ρ:=R [] c (c % 2147483647) none none) (ρ1:=R [] c (c % 2147483647) none none) (as:=[(.int (m:Int),om)]) (lo:=0) (hi:=(m:Int))
  (λ k ρ=>∃ xs v w s5 s6,ρ=R xs v w s5 s6/\xs.length=k) rfl (zwf (by omega) (by omega)) ⟨[],c,_,none,none,rfl,rfl⟩ (by
   rintro j ρ hj ⟨xs,v,w,s5,s6,rfl,hl⟩
   let Q (xs:List Int) (v w:Int) (s6:QQ.Slot):Rho:=R xs v w (some (.int (0 + (j:Int)),om)) s6
   have app:∀ {f:Fx}{vs:List Nat}{v w:Int}{s6:QQ.Slot}{x:Int},f (Q xs v w s6)=.ok (.int x,om,Q xs v w s6)->sApp 2 f vs (Q xs v w s6)=.nx (Q (xs++[x]) v w s6):=λ {f vs v w s6 x} h=>by
    refine (zhu (i:=2) (d0:=999) (d:=om) (y:=.int x) (e:=om) (xs:=xs.map PV.int) (xs0:=xs.map PV.int) rfl h rfl (by decide) (by rw [ja6];omega) rfl).trans ?_
    rw [zfn]
    rfl
   have tt:bT (zxv (bBin (zwb λ i j=>decide (j<=i)) (bVar 0) (bBin qed (bC (.int 10)) (bC (.int 18)))) (bBin (zwb λ i j=>decide (j < i)) (bVar 3) (bC (.int 0)))) (Q xs v w s6)=.ok (decide ((10:Int) ^ 18<=c) && decide (0 < v),Q xs v w s6):=t_ok (zhv (b:=decide (0 < v)) (a:=decide ((10:Int) ^ 18<=c)) (d:=om) (by kernel_rfl) (λ _=>rfl) rfl)
   refine ⟨show 5 < 7 by decide,?_⟩
   cases hd:decide ((10:Int) ^ 18<=c) && decide (0 < v) with
   | true=>
    rw [hd] at tt
    refine ⟨Q (xs++[v % 64]) (v / 64) w s6,(if_t tt).trans ((zqe (app (zwd (i:=v) rfl rfl (by decide)))).trans (setF (qcp (i:=v) rfl rfl (by decide) (by decide)) (show 3 < 7 by decide) rfl)),_,_,_,_,_,rfl,?_⟩
    rw [jb3,hl];rfl
   | false=>
    rw [hd] at tt
    let w':=(w + 7 * (0 + (j:Int)) + 3) * 48271 % 2147483647
    have w0:=jg3 ((w + 7 * (0 + (j:Int)) + 3) * 48271) (show (2147483647:Int)≠0 by decide)
    have w1:=jf3 ((w + 7 * (0 + (j:Int)) + 3) * 48271) (show (0:Int) < 2147483647 by decide)
    have u1:sSet false 4 (bBin zql (bBin zwk (bBin zqh (bBin zqh (bVar 4) (bBin zwk (bC (.int 7)) (bVar 5))) (bC (.int 3))) (bC (.int 48271))) (bC (.int 2147483647))) [4,5] (Q xs v w s6)=.nx (Q xs v w' s6):=setF (zwd (zjn (zzo (zzo (i:=w) rfl (zjn (i:=7) (j:=0 + (j:Int)) rfl rfl (.inl (by decide)))) (j:=3) rfl) (j:=48271) rfl (.inr (by decide))) (j:=2147483647) rfl (by decide)) (show 4 < 7 by decide) rfl
    let y:=w' * w' % 2147483629 * 69621 % 2147483587
    have u2:sSet false 6 (bBin zql (bBin zwk (bBin zql (bBin zwk (bVar 4) (bVar 4)) (bC (.int 2147483629))) (bC (.int 69621))) (bC (.int 2147483587))) [4,4] (Q xs v w' s6)=.nx (Q xs v w' (some (.int y,om))):=setF (zwd (zjn (zwd (zjn (i:=w') (j:=w') rfl rfl (.inl (by show -(2 ^ 64) < w'/\w' < 2 ^ 64;omega))) (j:=2147483629) rfl (by decide)) (j:=69621) rfl (.inr (by decide))) (j:=2147483587) rfl (by decide)) (show 6 < 7 by decide) rfl
    refine ⟨_,(if_f tt).trans ((zqe u1).trans ((zqe u2).trans (app (zwd (qcp (i:=y) rfl rfl (by decide) (by decide)) (j:=720720) rfl (by decide))))),_,_,_,_,_,rfl,?_⟩
    rw [jb3,hl];rfl)
 rw [show ((m:Int) - 0).toNat=m by omega] at hl
 exact ⟨xs,hl,zzj rfl ((zqe s1).trans ((zqe s2).trans ((zqe s3).trans ((zqe e6).trans rfl))))⟩
theorem zbq (x:Int) (m:Nat) (hm:0 < m):∃ n:Nat,1 + x % (m:Int)=(n:Int)/\1<=n/\n<=m:=by
 have h0:=jg3 x (show (m:Int)≠0 by omega)
 have h1:=jf3 x (show (0:Int) < m by omega)
 exact ⟨(1 + x % (m:Int)).toNat,by omega,by omega,by omega⟩
theorem qil (ys:List Int) (hl:ys.length=4):∃ a b c:Nat,(1<=a/\a<=6)/\(1<=b/\b<=6)/\(1<=c/\c<=6)/\c_box [il ys]=.ok (bx a b c,om,.non):=by
 let R (a b c:Nat):Rho:=[some (il ys,0),some (bx a b c,om)]
 have ix:∀ (k:Nat) (ρ:Rho),k < 4->bVar 0 ρ=.ok (il ys,0,ρ)->bBin zqc (bVar 0) (bC (.int (k:Int))) ρ=.ok (.int (ys.getD k 0),om,ρ):=λ k ρ hk h=>zzx (xs:=ys) (k:=(k:Int)) h rfl (zxt (by omega) (zxm (by rw [je2];omega)))
 have tup:∀ (m:Nat) (ρ:Rho),0 < m->m<=6->bVar 0 ρ=.ok (il ys,0,ρ)->∃ a b c:Nat,(1<=a/\a<=6)/\(1<=b/\b<=6)/\(1<=c/\c<=6)/\zqd zvl (zqa (bBin zqh (bC (.int 1)) (bBin zql (bBin zqc (bVar 0) (bC (.int 0))) (bC (.int (m:Int))))) (zqa (bBin zqh (bC (.int 1)) (bBin zql (bBin zqc (bVar 0) (bC (.int 1))) (bC (.int (m:Int))))) (zqa (bBin zqh (bC (.int 1)) (bBin zql (bBin zqc (bVar 0) (bC (.int 2))) (bC (.int (m:Int))))) (aNil)))) ρ=.ok (bx a b c,om,ρ):=λ m ρ h0 h6 hρ=>by
  obtain ⟨a,ea,ha⟩:=zbq (ys.getD 0 0) m h0
  obtain ⟨b,eb,hb⟩:=zbq (ys.getD 1 0) m h0
  obtain ⟨c,ec,hc⟩:=zbq (ys.getD 2 0) m h0
  refine ⟨a,b,c,by omega,by omega,by omega,?_⟩
  rw [<- ea,<- eb,<- ec]
  exact zxu (zxf (zzo (i:=1) (d:=om) rfl (zwd (ix 0 ρ (by decide) hρ) rfl (by omega))) (zxf (zzo (i:=1) (d:=om) rfl (zwd (ix 1 ρ (by decide) hρ) rfl (by omega))) (zxg (zzo (i:=1) (d:=om) rfl (zwd (ix 2 ρ (by decide) hρ) rfl (by omega)))))) rfl
 obtain ⟨a,b,c,ha,hb,hc,e1⟩:=tup 3 [some (il ys,0),none] (by decide) (by decide) rfl
 have tst:∀ (m r:Int) (ρ:Rho),0 < m->bVar 0 ρ=.ok (il ys,0,ρ)->bT (bBin (opEq false) (bBin zql (bBin zqc (bVar 0) (bC (.int 3))) (bC (.int m))) (bC (.int r))) ρ=.ok (decide (ys.getD 3 0 % m=r),ρ):=λ m r ρ hm h=>by
  have:=t_ok (zfp (neg:=false) (zwd (ix 3 ρ (by decide) h) (g:=bC (.int m)) (j:=m) (e:=om) rfl hm) (g:=bC (.int r)) (j:=r) (e:=om) rfl)
  rw [jl5] at this
  exact this
 have v1:sSet false 1 (zqd zvl (zqa (bBin zqh (bC (.int 1)) (bBin zql (bBin zqc (bVar 0) (bC (.int 0))) (bC (.int 3)))) (zqa (bBin zqh (bC (.int 1)) (bBin zql (bBin zqc (bVar 0) (bC (.int 1))) (bC (.int 3)))) (zqa (bBin zqh (bC (.int 1)) (bBin zql (bBin zqc (bVar 0) (bC (.int 2))) (bC (.int 3)))) (aNil))))) [0,0,0] [some (il ys,0),none]=.nx (R a b c):=setF e1 (show 1 < 2 by decide) rfl
 have v2:∃ a' b' c':Nat,(1<=a'/\a'<=6)/\(1<=b'/\b'<=6)/\(1<=c'/\c'<=6)/\(sIf (bT (bBin (opEq false) (bBin zql (bBin zqc (bVar 0) (bC (.int 3))) (bC (.int 4))) (bC (.int 1)))) (sSet false 1 (zqd zvl (zqa (bBin zqh (bC (.int 1)) (bBin zql (bBin zqc (bVar 0) (bC (.int 0))) (bC (.int 6)))) (zqa (bBin zqh (bC (.int 1)) (bBin zql (bBin zqc (bVar 0) (bC (.int 1))) (bC (.int 6)))) (zqa (bBin zqh (bC (.int 1)) (bBin zql (bBin zqc (bVar 0) (bC (.int 2))) (bC (.int 6)))) (aNil))))) [0,0,0]) sNil) (R a b c)=.nx (R a' b' c'):=by
  have tt:=tst 4 1 (R a b c) (by decide) rfl
  cases hd:decide (ys.getD 3 0 % 4=1) with
  | true=>
   rw [hd] at tt
   obtain ⟨a',b',c',ha',hb',hc',e2⟩:=tup 6 (R a b c) (by decide) (by decide) rfl
   exact ⟨a',b',c',ha',hb',hc',(if_t tt).trans (setF e2 (show 1 < 2 by decide) rfl)⟩
  | false=>rw [hd] at tt;exact ⟨a,b,c,ha,hb,hc,(if_f tt).trans rfl⟩
 obtain ⟨a1,b1,c1,ha1,hb1,hc1,v2⟩:=v2
 have v3:∃ a' b' c':Nat,(1<=a'/\a'<=6)/\(1<=b'/\b'<=6)/\(1<=c'/\c'<=6)/\(sIf (bT (bBin (opEq false) (bBin zql (bBin zqc (bVar 0) (bC (.int 3))) (bC (.int 4))) (bC (.int 2)))) (sSet false 1 (zqd zvl (zqa (bBin zqc (bVar 1) (bC (.int 0))) (zqa (bBin zqc (bVar 1) (bC (.int 0))) (zqa (bBin zqc (bVar 1) (bC (.int 0))) (aNil))))) [1,1,1]) sNil) (R a1 b1 c1)=.nx (R a' b' c'):=by
  have tt:=tst 4 2 (R a1 b1 c1) (by decide) rfl
  cases hd:decide (ys.getD 3 0 % 4=2) with
  | true=>rw [hd] at tt;exact ⟨a1,a1,a1,ha1,ha1,ha1,(if_t tt).trans rfl⟩
  | false=>rw [hd] at tt;exact ⟨a1,b1,c1,ha1,hb1,hc1,(if_f tt).trans rfl⟩
 obtain ⟨a2,b2,c2,ha2,hb2,hc2,v3⟩:=v3
 have v4:∃ a' b' c':Nat,(1<=a'/\a'<=6)/\(1<=b'/\b'<=6)/\(1<=c'/\c'<=6)/\(sIf (bT (bBin (opEq false) (bBin zql (bBin zqc (bVar 0) (bC (.int 3))) (bC (.int 8))) (bC (.int 3)))) (sSet false 1 (zqd zvl (zqa (bBin zqc (bVar 1) (bC (.int 0))) (zqa (bBin zqc (bVar 1) (bC (.int 0))) (zqa (bBin zqc (bVar 1) (bC (.int 2))) (aNil))))) [1,1,1]) sNil) (R a2 b2 c2)=.nx (R a' b' c'):=by
  have tt:=tst 8 3 (R a2 b2 c2) (by decide) rfl
  cases hd:decide (ys.getD 3 0 % 8=3) with
  | true=>rw [hd] at tt;exact ⟨a2,a2,c2,ha2,ha2,hc2,(if_t tt).trans rfl⟩
  | false=>rw [hd] at tt;exact ⟨a2,b2,c2,ha2,hb2,hc2,(if_f tt).trans rfl⟩
 obtain ⟨a3,b3,c3,ha3,hb3,hc3,v4⟩:=v4
 exact ⟨a3,b3,c3,ha3,hb3,hc3,zzj rfl ((zqe v1).trans ((zqe v2).trans ((zqe v3).trans ((zqe v4).trans rfl))))⟩
theorem zgi {i:Nat}{fk f:Fx}{ρ ρ1 ρ2 ρ3:Rho}{y:PV}{xs:List PV}{k:Int}{j d d2:Nat} (h:f ρ=.ok (y,om,ρ1)) (h0:ρ1[i]?=some (some (.lst xs,d))) (hk:fk ρ1=.ok (.int k,d2,ρ2)) (h1:ρ2[i]?=some (some (.lst xs,d))) (hj:ixN xs.length k=some j) (hd:d≠0) (hy:zfo y=false) (e:ρ2.set i (some (.lst (xs.set j y),1))=ρ3):zvz i fk f ρ=.nx ρ3:=by
 unfold zvz
 rw [h]
 dsimp only
 rw [h0]
 dsimp only
 rw [hk]
 dsimp only
 rw [h1]
 dsimp only [putX]
 rw [hj]
 dsimp only
 rw [if_neg (λ z=>by rw [hy] at z;cases z.2),if_pos ⟨hd,rfl,rfl⟩,e]
def CH:Fx:=bBin zqc (zqd zxx (zqa (bBin zql (bVar 7) (bBin zqh (bVar 6) (bC (.int 1)))) (zqa (zqd zja (zqa (bC (.int 0)) (zqa (bBin zzc (bVar 6) (bBin zzv (bBin zql (bVar 7) (bC (.int 3))) (bC (.int 2)))) (aNil)))) (zqa (bBin zql (bVar 7) (bBin zqh (bVar 6) (bC (.int 1)))) (zqa (bVar 6) (aNil)))))) (bBin zql (bBin zqc (bVar 1) (bC (.int 36))) (bC (.int 4)))
def CS:Fs:=(sSeq (sSet false 6 (bBin zqc (bVar 0) (bC (.int 2))) [0])
 (sSeq (sIf (bT (bBin (zwb λ i j=>decide (j < i)) (bVar 3) (bC (.int 0)))) (sSet false 6 (bBin zqc (bBin zqc (bVar 2) (bBin zzc (bVar 3) (bC (.int 1)))) (bVar 5)) [2,3,5]) sNil)
 (sSeq (sIf (bT (bBin (zwb λ i j=>decide (j < i)) (bVar 5) (bC (.int 0)))) (sSet false 6 (zqd zkd (zqa (bVar 6) (zqa (bBin zqc (bVar 4) (bBin zzc (bVar 5) (bC (.int 1)))) (aNil)))) [6,4,5]) sNil)
 (sSeq (sSet false 7 (bBin zqc (bVar 1) (bBin zqh (bBin zwk (bC (.int 6)) (bVar 3)) (bVar 5))) [1,3,5])
 (sApp 4 CH [7,6,6,7,7,6,6,1])))))
def CR:Fs:=(sSeq (sSet false 4 (zqd zxx (aNil)) [])
 (sSeq (zzt zxa (zqa (bBin zqc (bVar 0) (bC (.int 1))) (aNil)) (asgN 5) CS)
 (sApp 2 (bVar 4) [4])))
def CL1:Fx:=zqy (bBin zqc (bVar 2) (bUn zzg (bC (.int 1)))) 1 (asgN 8) zxn (bBin zzc (bVar 8) (bBin zql (bBin zqc (bVar 1) (bC (.int 37))) (bBin zqh (bVar 8) (bC (.int 1)))))
def CL2:Fx:=zxi zxa (zqa (bBin zqc (bVar 0) (bC (.int 1))) (aNil)) 1 (asgN 8) zxn (zqd zkd (zqa (bSl (bBin zqc (bVar 2) (bUn zzg (bC (.int 1)))) none (some (bBin zqh (bVar 8) (bC (.int 1))))) (aNil)))
theorem qas:Xc_pile=(sSeq (sSet false 2 (zqd zxx (aNil)) [])
 (sSeq (zzt zxa (zqa (bBin zqc (bVar 0) (bC (.int 0))) (aNil)) (asgN 3) CR)
 (sSeq (sIf (bT (bBin (opEq false) (bBin zql (bBin zqc (bVar 1) (bC (.int 36))) (bC (.int 4))) (bC (.int 3)))) (sSeq (zvz 2 (bUn zzg (bC (.int 1))) CL1) (zvz 2 (bUn zzg (bC (.int 1))) CL2)) sNil)
 (zpu 2)))):=rfl
theorem zpr {a b c:Nat}{t:List (List Int)}{r:List Int} (p:Pile a b c t) (ha:1<=a) (hr:r.length=b) (hn:Nr r) (h:∀ y,y < b->0<=r.getD y 0/\r.getD y 0<=g t (a - 1) y):Pile a b c (t.set (a - 1) r):=by
 have l:=p.tab.1
 have e:∀ x y,x < a->g (t.set (a - 1) r) x y=if x=a - 1 then r.getD y 0 else g t x y:=λ x y hx=>by
  show ((t.set (a - 1) r).getD x []).getD y 0=_
  by_cases z:x=a - 1
  ·rw [if_pos z,z,zvi (by omega)]
  ·rw [if_neg z,zfg (λ q=>z q.symm)]
   rfl
 refine ⟨⟨by rw [je0];exact l,λ s hs=>?_⟩,λ x y hx hy=>?_,λ x y hx hy=>?_,λ x y hx hy=>?_,λ x y hx hy=>?_⟩
 ·rcases jj3 hs with z | z
  ·exact p.tab.2 s z
  ·rw [z];exact hr
 ·rw [e x y hx]
  have:=p.lo x y hx hy
  have:=h y hy
  split <;> omega
 ·rw [e x y hx]
  have:=p.hi x y hx hy
  have:=p.hi (a - 1) y (by omega) hy
  have:=h y hy
  split <;> omega
 ·rw [e (x + 1) y hx,e x y (by omega)]
  have k:=p.dn x y hx hy
  have:=h y hy
  rw [if_neg (show ¬ x=a - 1 by omega)]
  split
  ·rename_i z
   rw [z] at k
   omega
  ·exact k
 ·rw [e x (y + 1) hx,e x y hx]
  have:=p.rt x y hx hy
  split
  ·exact hn y (by rw [hr];exact hy)
  ·omega
def zzi (r:List Int) (j:Nat):Int:=minI (r.getD 0 0) ((r.drop 1).take j)
theorem qb4 {m:Int}:∀ {xs:List Int}{n:Int},m<=n->(∀ x∈xs,m<=x)->m<=minI n xs
 | [],n,h,_=>h
 | x::xs,n,h,hx=>by
  show m<=minI (if x < n then x else n) xs
  refine qb4 ?_ λ y hy=>hx y (ja0 _ hy)
  have:=hx x ja1
  split <;> omega
theorem zkf:∀ {xs:List Int}{n:Int},minI n xs<=n
 | [],n=>jl7 _
 | x::xs,n=>by
  show minI (if x < n then x else n) xs<=n
  refine jl2 (zkf (xs:=xs)) ?_
  split <;> omega
theorem minI_le:∀ {xs:List Int}{n:Int}{x:Int},x∈xs->minI n xs<=x
 | y::xs,n,x,h=>by
  show minI (if y < n then y else n) xs<=x
  rcases jb2.mp h with rfl | h
  ·refine jl2 (zkf (xs:=xs)) ?_
   split <;> omega
  ·exact minI_le h
theorem zgp:∀ {xs:List Int}{n x:Int},minI n (xs++[x])<=minI n xs
 | [],n,x=>by
  show (if x < n then x else n)<=n
  split <;> omega
 | y::xs,n,x=>zgp (xs:=xs) (n:=if y < n then y else n)
theorem qbi {r:List Int}{j:Nat} (hj:j < r.length):zzi r j<=r.getD j 0:=by
 unfold zzi
 cases j with
 | zero=>exact zkf
 | succ j=>
  refine minI_le (List.mem_iff_getElem?.mpr ⟨j,?_⟩)
  rw [List.getElem?_take,if_pos (by omega),jm3,show 1 + j=j + 1 by omega]
  exact zxm hj
theorem qbj {r:List Int}{j:Nat}{m:Int} (h0:0 < r.length) (h:∀ x∈r,m<=x):m<=zzi r j:=qb4 (h _ (zkw h0)) λ x hx=>h x (List.mem_of_mem_drop (jf4 hx))
theorem qbk {r:List Int}{j:Nat} (hj:j + 1 < r.length):zzi r (j + 1)<=zzi r j:=by
 unfold zzi
 have:(r.drop 1).take (j + 1)=(r.drop 1).take j++[r.getD (j + 1) 0]:=by
  rw [jj8,jm3,show 1 + j=j + 1 by omega,zxm hj]
  rfl
 rw [this]
 exact zgp
theorem qdm {r:List Int}{j:Nat} (h0:0 < r.length):r.take (j + 1)=r.getD 0 0::(r.drop 1).take j:=by
 cases r with
 | nil=>cases h0
 | cons x r=>rfl
theorem qev {a b c:Nat} (xs:List Int) (hx:44<=xs.length) (ha:1<=a/\a<=6) (hb:1<=b/\b<=6) (hc:1<=c/\c<=99):∃ t d,Pile a b c t/\d≠0/\c_pile [bx a b c,il xs]=.ok (tb t,d,.non):=by
 have z:=sz
 let R (t:List (List Int)) (d2:Nat) (s3 s4 s5 s6 s7:QQ.Slot):Rho:=[some (bx a b c,0),some (il xs,0),some (tb t,d2),s3,s4,s5,s6,s7]
 have ix:∀ (k:Nat) (f:Fx) (ρ:Rho),k < 44->bVar 1 ρ=.ok (il xs,0,ρ)->f ρ=.ok (.int (k:Int),om,ρ)->bBin zqc (bVar 1) f ρ=.ok (.int (xs.getD k 0),om,ρ):=λ k f ρ hk h h2=>zzx (xs:=xs) (k:=(k:Int)) h h2 (zxt (by omega) (zxm (by rw [je2];omega)))
 let m:Int:=xs.getD 36 0 % 4
 have m0:=jg3 (xs.getD 36 0) (show (4:Int)≠0 by decide)
 have m1:=jf3 (xs.getD 36 0) (show (0:Int) < 4 by decide)
 have em:∀ ρ,bVar 1 ρ=.ok (il xs,0,ρ)->bBin zql (bBin zqc (bVar 1) (bC (.int 36))) (bC (.int 4)) ρ=.ok (.int m,om,ρ):=λ ρ h=>zwd (ix 36 (bC (.int 36)) ρ (by decide) h rfl) rfl (by decide)
 have s1:sSet false 2 (zqd zxx (aNil)) [] [some (bx a b c,0),some (il xs,0),none,none,none,none,none,none]=.nx (R [] om none none none none none):=by kernel_rfl
 have step:∀ (t:List (List Int)) (d2 k j:Nat) (r:List Int) (s6 s7:QQ.Slot),k < a->j < b->Pile k b c t->r.length=j->(∀ y,y < j->0<=r.getD y 0)->∃ h s6' s7',(0<=h/\h<=topH c t r j)/\CS (R t d2 (some (.int (k:Int),om)) (some (il r,om)) (some (.int (j:Int),om)) s6 s7)=.nx (R t d2 (some (.int (k:Int),om)) (some (il (r++[h]),om)) (some (.int (j:Int),om)) s6' s7'):=by
  intro t d2 k j r s6 s7 hk hj p hr hr0
  let Q (s6 s7:QQ.Slot):Rho:=R t d2 (some (.int (k:Int),om)) (some (il r,om)) (some (.int (j:Int),om)) s6 s7
  have l:=p.tab.1
  have v1:sSet false 6 (bBin zqc (bVar 0) (bC (.int 2))) [0] (Q s6 s7)=.nx (Q (some (.int (c:Int),om)) s7):=rfl
  have v2:sIf (bT (bBin (zwb λ i j=>decide (j < i)) (bVar 3) (bC (.int 0)))) (sSet false 6 (bBin zqc (bBin zqc (bVar 2) (bBin zzc (bVar 3) (bC (.int 1)))) (bVar 5)) [2,3,5]) sNil (Q (some (.int (c:Int),om)) s7)=.nx (Q (some (.int (upH c t j),om)) s7):=by
   have tt:bT (bBin (zwb λ i j=>decide (j < i)) (bVar 3) (bC (.int 0))) (Q (some (.int (c:Int),om)) s7)=.ok (decide ((0:Int) < (k:Int)),Q (some (.int (c:Int),om)) s7):=rfl
   by_cases h0:k=0
   ·rw [decide_eq_false (by omega)] at tt
    refine (if_f tt).trans ?_
    unfold upH
    rw [if_pos (by omega)]
    rfl
   ·rw [decide_eq_true (by omega)] at tt
    refine (if_t tt).trans ?_
    unfold upH
    rw [if_neg (by omega),l]
    have q:bBin zzc (bVar 3) (bC (.int 1)) (Q (some (.int (c:Int),om)) s7)=.ok (.int ((k - 1:Nat):Int),om,Q (some (.int (c:Int),om)) s7):=by
     rw [show ((k - 1:Nat):Int)=(k:Int) - 1 by omega]
     exact zgb (i:=(k:Int)) (j:=1) rfl rfl
    exact setF (qh1 (i:=k - 1) (j:=j) p.tab (d:=0) (e':=om) rfl q rfl (by omega) hj) (show 6 < 8 by decide) rfl
  have v3:sIf (bT (bBin (zwb λ i j=>decide (j < i)) (bVar 5) (bC (.int 0)))) (sSet false 6 (zqd zkd (zqa (bVar 6) (zqa (bBin zqc (bVar 4) (bBin zzc (bVar 5) (bC (.int 1)))) (aNil)))) [6,4,5]) sNil (Q (some (.int (upH c t j),om)) s7)=.nx (Q (some (.int (topH c t r j),om)) s7):=by
   have tt:bT (bBin (zwb λ i j=>decide (j < i)) (bVar 5) (bC (.int 0))) (Q (some (.int (upH c t j),om)) s7)=.ok (decide ((0:Int) < (j:Int)),Q (some (.int (upH c t j),om)) s7):=rfl
   by_cases h0:j=0
   ·rw [decide_eq_false (by omega)] at tt
    refine (if_f tt).trans ?_
    unfold topH
    rw [if_pos (by omega)]
    rfl
   ·rw [decide_eq_true (by omega)] at tt
    refine (if_t tt).trans ?_
    have q:bBin zzc (bVar 5) (bC (.int 1)) (Q (some (.int (upH c t j),om)) s7)=.ok (.int ((j - 1:Nat):Int),om,Q (some (.int (upH c t j),om)) s7):=by
     rw [show ((j - 1:Nat):Int)=(j:Int) - 1 by omega]
     exact zgb (i:=(j:Int)) (j:=1) rfl rfl
    have e1:topH c t r j=if r.getD (j - 1) 0 < upH c t j then r.getD (j - 1) 0 else upH c t j:=by
     unfold topH
     rw [if_neg (by omega),hr]
     split <;> omega
    rw [e1]
    exact setF (zxu (zxf (x:=.int (upH c t j)) (d:=om) rfl (zxg (zzx (xs:=r) (k:=((j - 1:Nat):Int)) (d:=0) rfl q (zxt (by omega) (zxm (by rw [je2];omega)))))) rfl) (show 6 < 8 by decide) rfl
  have u0:0<=upH c t j:=by
   unfold upH
   split
   ·omega
   ·exact p.lo _ _ (by omega) hj
  have t0:0<=topH c t r j:=by
   unfold topH
   split
   ·exact u0
   ·have:=hr0 (r.length - 1) (by omega)
    omega
  let T:=topH c t r j
  let n:Int:=xs.getD (6 * k + j) 0
  have v4:sSet false 7 (bBin zqc (bVar 1) (bBin zqh (bBin zwk (bC (.int 6)) (bVar 3)) (bVar 5))) [1,3,5] (Q (some (.int T,om)) s7)=.nx (Q (some (.int T,om)) (some (.int n,om))):=by
   refine setF (ix (6 * k + j) _ _ (by omega) rfl ?_) (show 7 < 8 by decide) rfl
   rw [show ((6 * k + j:Nat):Int)=6 * (k:Int) + (j:Int) by omega]
   exact zzo (zjn (i:=6) (j:=(k:Int)) rfl rfl (.inl (by decide))) (j:=(j:Int)) rfl
  let W:Rho:=Q (some (.int T,om)) (some (.int n,om))
  have a0:=jg3 n (show T + 1≠0 by omega)
  have a1:=jf3 n (show 0 < T + 1 by omega)
  have b0:=jg3 n (show (3:Int)≠0 by decide)
  have b1:=jf3 n (show (0:Int) < 3 by decide)
  let mx:Int:=if T - n % 3 / 2 > 0 then T - n % 3 / 2 else 0
  let ch:List Int:=[n % (T + 1),mx,n % (T + 1),T]
  have hmx:0<=mx/\mx<=T:=by
   show 0<=(if T - n % 3 / 2 > 0 then T - n % 3 / 2 else 0)/\(if T - n % 3 / 2 > 0 then T - n % 3 / 2 else 0)<=T
   split <;> omega
  have hch:∀ x∈ch,0<=x/\x<=T:=by
   intro x hx
   simp only [ch,jb2,jn2,or_false] at hx
   rcases hx with e | e | e | e <;> omega
  have f1:bBin zql (bVar 7) (bBin zqh (bVar 6) (bC (.int 1))) W=.ok (.int (n % (T + 1)),om,W):=zwd (i:=n) rfl (zzo (i:=T) (j:=1) rfl rfl) (by omega)
  have f2:zqd zja (zqa (bC (.int 0)) (zqa (bBin zzc (bVar 6) (bBin zzv (bBin zql (bVar 7) (bC (.int 3))) (bC (.int 2)))) (aNil))) W=.ok (.int mx,om,W):=zxu (zxf (x:=.int 0) (d:=om) rfl (zxg (zgb (i:=T) rfl (qcp (zwd (i:=n) (j:=3) rfl rfl (by decide)) (j:=2) rfl (by decide) (by decide))))) rfl
  have f5:zqd zxx (zqa (bBin zql (bVar 7) (bBin zqh (bVar 6) (bC (.int 1)))) (zqa (zqd zja (zqa (bC (.int 0)) (zqa (bBin zzc (bVar 6) (bBin zzv (bBin zql (bVar 7) (bC (.int 3))) (bC (.int 2)))) (aNil)))) (zqa (bBin zql (bVar 7) (bBin zqh (bVar 6) (bC (.int 1)))) (zqa (bVar 6) (aNil))))) W=.ok (il ch,om,W):=zxu (zxf f1 (zxf f2 (zxf f1 (zxg (x:=.int T) (d:=om) rfl)))) rfl
  have f6:CH W=.ok (.int (ch.getD m.toNat 0),om,W):=zzx f5 (k:=m) (em W rfl) (zxt m0 (zxm (by show m.toNat < 4;omega)))
  have hm:=hch _ (zkw (xs:=ch) (i:=m.toNat) (by show m.toNat < 4;omega))
  refine ⟨ch.getD m.toNat 0,some (.int T,om),some (.int n,om),hm,(zqe v1).trans ((zqe v2).trans ((zqe v3).trans ((zqe v4).trans ((zhu (i:=4) (d0:=999) (d:=om) (xs:=r.map PV.int) (xs0:=r.map PV.int) rfl f6 rfl (by decide) (by rw [ja6];omega) rfl).trans ?_))))⟩
  rw [zfn]
  rfl
 obtain ⟨ρ',e6,t,d2,s3,s4,s5,s6,s7,rfl,pt,hd2⟩:=zvp (i:=3) (body:=CR) (en:=zxa) (fa:=zqa (bBin zqc (bVar 0) (bC (.int 0))) (aNil)) (ρ:=R [] om none none none none none) (ρ1:=R [] om none none none none none) (as:=[(.int (a:Int),om)]) (lo:=0) (hi:=(a:Int))
  (λ k ρ=>∃ t d2 s3 s4 s5 s6 s7,ρ=R t d2 s3 s4 s5 s6 s7/\Pile k b c t/\d2≠0) rfl (zwf (by omega) (by omega)) ⟨[],om,none,none,none,none,none,rfl,⟨⟨rfl,λ _ h=>nomatch h⟩,λ _ _ h=>absurd h (by omega),λ _ _ h=>absurd h (by omega),λ _ _ h=>absurd h (by omega),λ _ _ h=>absurd h (by omega)⟩,by decide⟩ (by
   rintro k ρ hk ⟨t,d2,s3,s4,s5,s6,s7,rfl,pt,hd2⟩
   have hk':k < a:=by omega
   rw [jg8]
   let K:QQ.Slot:=some (.int (k:Int),om)
   have u1:sSet false 4 (zqd zxx (aNil)) [] (R t d2 K s4 s5 s6 s7)=.nx (R t d2 K (some (il [],om)) s5 s6 s7):=rfl
   obtain ⟨ρ2,e2,r,t5,t6,t7,rfl,hr,hr0,hr1,hrn⟩:=zvp (i:=5) (body:=CS) (en:=zxa) (fa:=zqa (bBin zqc (bVar 0) (bC (.int 1))) (aNil)) (ρ:=R t d2 K (some (il [],om)) s5 s6 s7) (ρ1:=R t d2 K (some (il [],om)) s5 s6 s7) (as:=[(.int (b:Int),om)]) (lo:=0) (hi:=(b:Int))
    (λ j ρ=>∃ r s5 s6 s7,ρ=R t d2 K (some (il r,om)) s5 s6 s7/\r.length=j/\(∀ y,y < j->0<=r.getD y 0)/\(∀ y,y < j->r.getD y 0<=upH c t y)/\Nr r) rfl (zwf (by omega) (by omega)) ⟨[],s5,s6,s7,rfl,rfl,λ _ h=>absurd h (by omega),λ _ h=>absurd h (by omega),λ _ h=>absurd h (by simp)⟩ (by
     rintro j ρ hj ⟨r,s5,s6,s7,rfl,hr,hr0,hr1,hrn⟩
     obtain ⟨h,t6,t7,hh,eh⟩:=step t d2 k j r s6 s7 hk' (by omega) pt hr hr0
     refine ⟨show 5 < 8 by decide,R t d2 K (some (il (r++[h]),om)) (some (.int (j:Int),om)) t6 t7,?_,r++[h],some (.int (j:Int),om),t6,t7,rfl,by rw [jb3,hr];rfl,λ y hy=>?_,λ y hy=>?_,λ y hy=>?_⟩
     ·rw [jg8]
      exact eh
     ·rw [zkp]
      by_cases e:y < r.length
      ·rw [if_pos e];exact hr0 y (by omega)
      ·rw [if_neg e,if_pos (by omega)];exact hh.1
     ·rw [zkp]
      by_cases e:y < r.length
      ·rw [if_pos e];exact hr1 y (by omega)
      ·rw [if_neg e,if_pos (by omega),show y=j by omega]
       have:=hh.2
       unfold topH at this
       split at this <;> omega
     ·rw [jb3,jf0] at hy
      rw [zkp,zkp]
      by_cases e:y + 1 < r.length
      ·rw [if_pos e,if_pos (by omega)];exact hrn y e
      ·rw [if_neg e,if_pos (by omega),if_pos (by omega)]
       have:=hh.2
       unfold topH at this
       rw [if_neg (by omega),show r.length - 1=y by omega] at this
       omega)
   rw [show ((b:Int) - 0).toNat=b by omega] at hr hr0 hr1
   refine ⟨show 3 < 8 by decide,R (t++[r]) 1 K (some (il r,0)) t5 t6 t7,?_,t++[r],1,_,_,_,_,_,rfl,pt.snoc hr (λ y hy=>⟨hr0 y hy,hr1 y hy⟩) hrn,by decide⟩
   refine (zqe u1).trans ((zqe e2).trans ?_)
   obtain ⟨d0,rfl⟩:∃ d0,d2=d0 + 1:=⟨d2 - 1,by omega⟩
   refine (zhu (i:=2) (d0:=d0) (d:=d0 + 1) (y:=il r) (e:=0) (xs:=t.map il) (xs0:=t.map il) rfl rfl rfl hd2 (by rw [ja6,pt.tab.1];omega) rfl).trans ?_
   rw [qgi,if_neg (λ h=>absurd h.2 (by decide))]
   rfl)
 rw [show ((a:Int) - 0).toNat=a by omega] at pt
 let W (t:List (List Int)) (d:Nat):Rho:=R t d s3 s4 s5 s6 s7
 have l:=pt.tab.1
 have tt:=t_ok (zfp (neg:=false) (em (W t d2) rfl) (g:=bC (.int 3)) (j:=3) (e:=om) rfl)
 rw [jl5] at tt
 have fin:∃ t' d,Pile a b c t'/\d≠0/\sIf (bT (bBin (opEq false) (bBin zql (bBin zqc (bVar 1) (bC (.int 36))) (bC (.int 4))) (bC (.int 3)))) (sSeq (zvz 2 (bUn zzg (bC (.int 1))) CL1) (zvz 2 (bUn zzg (bC (.int 1))) CL2)) sNil (W t d2)=.nx (W t' d):=by
  cases hd:decide (m=3) with
  | false=>rw [hd] at tt;exact ⟨t,d2,pt,hd2,(if_f tt).trans rfl⟩
  | true=>
   rw [hd] at tt
   have last:∀ (t:List (List Int)) (d:Nat),Tab a b t->bBin zqc (bVar 2) (bUn zzg (bC (.int 1))) (W t d)=.ok (il (t.getD (a - 1) []),0,W t d):=λ t d ht=>zml (t:=t) (k:=-1) (d:=0) rfl rfl (zhs (by rw [ht.1];exact zyr (by rw [ht.1];omega)))
   let r:=t.getD (a - 1) []
   have hr:r.length=b:=pt.tab.row (by omega)
   let w:Int:=xs.getD 37 0
   let r1:List Int:=r.map λ x=>x - w % (x + 1)
   have r0:∀ x∈r,0<=x:=λ x hx=>by
    obtain ⟨y,hy,e⟩:=QV.mem_getD hx
    rw [<- e]
    exact pt.lo (a - 1) y (by omega) (by omega)
   have c1:CL1 (W t d2)=.ok (il r1,om,W t d2):=by
    have k:=zxs (n:=8) (elt:=bBin zzc (bVar 8) (bBin zql (bBin zqc (bVar 1) (bC (.int 37))) (bBin zqh (bVar 8) (bC (.int 1))))) (enc:=PV.int) (q:=λ x=>.int (x - w % (x + 1))) r (last t d2 pt.tab) rfl (λ x hx=>by
     have:=r0 x hx
     exact zgb (i:=x) (d:=om) rfl (zwd (ix 37 (bC (.int 37)) _ (by decide) rfl rfl) (zzo (i:=x) (j:=1) (d:=om) (e:=om) rfl rfl) (by omega))) (by omega)
    refine k.trans ?_
    show Rz.ok (PV.lst _,om,_)=Rz.ok (PV.lst ((r.map λ x=>x - w % (x + 1)).map PV.int),om,_)
    rw [jd8]
    rfl
   have ij:∀ t:List (List Int),t.length=a->ixN (t.map il).length (-1)=some (a - 1):=λ t h=>by
    unfold ixN
    rw [ja6,h,if_neg (by decide),if_pos (by omega),show (-1 + (a:Int)).toNat=a - 1 by omega]
   have p1:zvz 2 (bUn zzg (bC (.int 1))) CL1 (W t d2)=.nx (W (t.set (a - 1) r1) 1):=zgi (ρ1:=W t d2) (ρ2:=W t d2) (xs:=t.map il) (d:=d2) (k:=-1) c1 rfl rfl rfl (ij t l) hd2 rfl (by
    show [some (bx a b c,0),some (il xs,0),some (PV.lst ((t.map il).set (a - 1) (il r1)),1),s3,s4,s5,s6,s7]=_
    rw [<- jm7]
    rfl)
   let t1:=t.set (a - 1) r1
   have l1:t1.length=a:=by show (t.set (a - 1) r1).length=a;rw [je0];exact l
   have hr1:r1.length=b:=by show (r.map _).length=b;rw [ja6];exact hr
   have ht1:Tab a b t1:=⟨l1,λ s hs=>(jj3 hs).elim (pt.tab.2 s) λ e=>by rw [e];exact hr1⟩
   have g1:t1.getD (a - 1) []=r1:=zvi (by omega)
   let r2:List Int:=(jc6 b).map λ j=>zzi r1 j
   have c2:CL2 (W t1 1)=.ok (il r2,om,W t1 1):=by
    have k:=zkz (n:=8) (en:=zxa) (fa:=zqa (bBin zqc (bVar 0) (bC (.int 1))) (aNil)) (elt:=zqd zkd (zqa (bSl (bBin zqc (bVar 2) (bUn zzg (bC (.int 1)))) none (some (bBin zqh (bVar 8) (bC (.int 1))))) (aNil))) (ρ:=W t1 1) (ρ1:=W t1 1) (as:=[(.int (b:Int),om)]) (lo:=0) (hi:=(b:Int)) (q:=λ j=>.int (zzi r1 j)) rfl (zwf (by omega) (by omega)) rfl (λ j hj=>by
     rw [jg8]
     let V:Rho:=W t1 1++[some (.int (j:Int),om)]
     have la:bBin zqc (bVar 2) (bUn zzg (bC (.int 1))) V=.ok (il r1,0,V):=by
      rw [<- g1]
      exact zml (t:=t1) (k:=-1) (d:=0) rfl rfl (zhs (by rw [l1];exact zyr (by omega)))
     have ad:bBin zqh (bVar 8) (bC (.int 1)) V=.ok (.int ((j + 1:Nat):Int),om,V):=by
      rw [show ((j + 1:Nat):Int)=(j:Int) + 1 by omega]
      exact zzo (i:=(j:Int)) (j:=1) rfl rfl
     have sl:bSl (bBin zqc (bVar 2) (bUn zzg (bC (.int 1)))) none (some (bBin zqh (bVar 8) (bC (.int 1)))) V=.ok (il (r1.getD 0 0::(r1.drop 1).take j),om,V):=by
      unfold bSl
      rw [la]
      dsimp only [Rz.bind,evO]
      rw [ad]
      show Rz.ok (PV.lst (cutP (r1.map PV.int) none (some ((j + 1:Nat):Int))),d1 (cutP (r1.map PV.int) none (some ((j + 1:Nat):Int))),V)=_
      have e:cutP (r1.map PV.int) none (some ((j + 1:Nat):Int))=(r1.getD 0 0::(r1.drop 1).take j).map PV.int:=by
       unfold cutP
       rw [HT.sIx_nat]
       show ((r1.map PV.int).drop 0).take (min (j + 1) (r1.map PV.int).length - 0)=_
       rw [List.drop_zero,Nat.sub_zero,ja6,Nat.min_eq_left (by omega),<- jo3,qdm (by omega)]
      rw [e,zhl]
      rfl
     exact qkz (zxg sl)) (by omega)
    refine k.trans ?_
    show Rz.ok (PV.lst ((jc6 ((b:Int) - 0).toNat).map λ j=>PV.int (zzi r1 j)),om,_)=Rz.ok (PV.lst (((jc6 b).map λ j=>zzi r1 j).map PV.int),om,_)
    rw [jd8,show ((b:Int) - 0).toNat=b by omega]
    rfl
   have p2:zvz 2 (bUn zzg (bC (.int 1))) CL2 (W t1 1)=.nx (W (t1.set (a - 1) r2) 1):=zgi (ρ1:=W t1 1) (ρ2:=W t1 1) (xs:=t1.map il) (d:=1) (k:=-1) c2 rfl rfl rfl (ij t1 l1) (by decide) rfl (by
    show [some (bx a b c,0),some (il xs,0),some (PV.lst ((t1.map il).set (a - 1) (il r2)),1),s3,s4,s5,s6,s7]=_
    rw [<- jm7]
    rfl)
   have et:t1.set (a - 1) r2=t.set (a - 1) r2:=by
    show (t.set (a - 1) r1).set (a - 1) r2=_
    rw [List.set_set]
   rw [et] at p2
   have hr2:r2.length=b:=by show ((jc6 b).map _).length=b;rw [ja6,jh6]
   have rl:∀ y,y < b->r1.getD y 0<=g t (a - 1) y/\0<=r1.getD y 0:=λ y hy=>by
    have e:r1.getD y 0=r.getD y 0 - w % (r.getD y 0 + 1):=by
     show (r.map _).getD y 0=_
     rw [ja3,jc2,zxm (by omega)]
     rfl
    have h0:=r0 _ (zkw (xs:=r) (i:=y) (by omega))
    have q0:=jg3 w (show r.getD y 0 + 1≠0 by omega)
    have q1:=jf3 w (show 0 < r.getD y 0 + 1 by omega)
    rw [e]
    have:g t (a - 1) y=r.getD y 0:=rfl
    omega
   have e2:∀ y,y < b->r2.getD y 0=zzi r1 y:=λ y hy=>qhu hy
   refine ⟨t.set (a - 1) r2,1,zpr pt ha.1 hr2 (λ y hy=>?_) (λ y hy=>?_),by decide,(if_t tt).trans ((zqe p1).trans p2)⟩
   ·rw [hr2] at hy
    rw [e2 _ hy,e2 y (by omega)]
    exact qbk (by omega)
   ·rw [e2 y hy]
    refine ⟨qbj (by omega) λ x hx=>?_,jl2 (qbi (by omega)) (rl y hy).1⟩
    obtain ⟨q,hq,e⟩:=QV.mem_getD hx
    rw [<- e]
    exact (rl q (by omega)).2
 obtain ⟨t',d,pt',hd,ef⟩:=fin
 refine ⟨t',d,pt',hd,?_⟩
 show mkFn false 2 6 Xc_pile _=_
 rw [qas]
 exact zzj rfl ((zqe s1).trans ((zqe e6).trans ((zqe ef).trans rfl)))
theorem orF {f g:Fx}{ρ ρ1:Rho}{d:Nat} (h:f ρ=.ok (.bl false,d,ρ1)):bOrV f g ρ=g ρ1:=by
 unfold bOrV
 rw [h]
 rfl
def qmi (x:C3):List C3:=(if 0 < x.1 then [(x.1 - 1,x.2.1,x.2.2)] else [])++(if 0 < x.2.1 then [(x.1,x.2.1 - 1,x.2.2)] else [])++(if 0 < x.2.2 then [(x.1,x.2.1,x.2.2 - 1)] else [])
structure Cubes (a b c:Nat) (cs:List C3):Prop where
 box:∀ x∈cs,x.1 < a/\x.2.1 < b/\x.2.2 < c
 all:∀ x∈cs,∀ y∈qmi x,y∈cs
 len:cs.length<=100000
section
variable {a b c:Nat}{t:List (List Int)}
end
theorem qiu {t:List (List Int)}{r:List Int}{i:Nat}{v:Int} (hi:t[i]?=some r) (hr:r.length<=1000):app2 (tb t) (i:Int) (.int v)=some (tb (t.set i (r++[v]))):=by
 have z:=sz
 have hl:=(ja8.mp hi).1
 unfold app2 tb
 dsimp only
 have e1:ixN (t.map il).length (i:Int)=some i:=by
  unfold ixN
  rw [ja6,if_pos (by omega),if_pos (by omega)]
  rfl
 have e2:(t.map il)[i]?=some (.lst (r.map PV.int)):=by rw [jc2,hi];rfl
 rw [e1]
 dsimp only
 rw [e2]
 dsimp only
 rw [if_pos (by rw [ja6];omega),jm7,zfn]
theorem qiv {i:Nat}{fi f:Fx}{ρ ρ1 ρ2 ρ3:Rho}{x x' y:PV}{k:Int}{d1 d2:Nat} (h0:ρ[i]?=some (some (x,om))) (h1:fi ρ=.ok (.int k,d1,ρ1)) (h2:f ρ1=.ok (y,d2,ρ2)) (h3:app2 x k y=some x') (hy:zzy y=true) (e:ρ2.set i (some (x',om))=ρ3):zpv i fi f ρ=.nx ρ3:=by
 unfold zpv
 rw [h0,h1]
 dsimp only
 rw [h2]
 dsimp only
 rw [h3]
 dsimp only
 rw [if_pos ⟨rfl,hy⟩,e]
section
variable {a b c:Nat}{t u l:List (List Int)}
end
section
variable {a b c:Nat}{t:List (List Int)}
end
section
variable {a b c:Nat}{t u l:List (List Int)}
end
section
variable {a b c:Nat}{t u:List (List Int)}
end
section
variable {a b c:Nat}{t:List (List Int)}
end
section
variable {a b c:Nat}{t:List (List Int)}
end
section
variable {a b c:Nat}{t:List (List Int)}
end
end QV
namespace K54
open PySem PySem.Spec PyProof.Rows L2 QQ
theorem zvh {α:Type}{x:Option α}{d:α} (h:x.isSome=true):x=some (x.getD d):=by
 cases x with
 | none=>cases h
 | some a=>rfl
abbrev GT:=List (Str×(Bool×Nat×Fn))
abbrev mS (N:List Str) (t:Stmt) (m:List Nat) (G:GT):Sx:=⟨N,zqb t,m,[],G,[],true,[0,1,2,3,4,5,6,7,8,9,10,11],[]⟩
def G0:GT:=[]
def S0:Sx:=⟨["thing"],zqb t0,[],[],G0,[],true,[0,1,2,9,50,51],[]⟩
abbrev b0:Fs:=QV.Xf_is_whole_number
abbrev F0:Fn:=QV.f_is_whole_number
theorem h0:zqp (denS 60 S0) (zqf t0)=some b0:=by kernel_rfl
def G1:GT:=[("is_whole_number",(false,1,F0))]
def S1:Sx:=⟨["thing"],zqb t1,[],[],G1,[],true,[0,1,2,9,50,51],[]⟩
abbrev b1:Fs:=QV.Xf_is_box
abbrev F1:Fn:=QV.f_is_box
theorem h1:zqp (denS 60 S1) (zqf t1)=some b1:=by kernel_rfl
def G2:GT:=[("is_box",(false,1,F1))]
def S2:Sx:=⟨["box"],zqb t2,[],[],G2,[],true,[0,1,2,9,50,51],[]⟩
abbrev b2:Fs:=QV.Xf_must_be_box
abbrev F2:Fn:=QV.f_must_be_box
theorem h2:zqp (denS 60 S2) (zqf t2)=some b2:=by kernel_rfl
def G3:GT:=[("is_whole_number",(false,1,F0))]
def S3:Sx:=⟨["thing","columns","height"],zqb t3,[],[],G3,[],true,[0,1,2,9,50,51],[]⟩
abbrev b3:Fs:=QV.Xf_is_row_of_heights
abbrev F3:Fn:=QV.f_is_row_of_heights
theorem h3:zqp (denS 60 S3) (zqf t3)=some b3:=by kernel_rfl
def G4:GT:=[]
def S4:Sx:=⟨["numbers"],zqb t4,[],[],G4,[],true,[0,1,2,9,50,51],[]⟩
abbrev b4:Fs:=QV.Xf_never_rises
abbrev F4:Fn:=QV.f_never_rises
theorem h4:zqp (denS 60 S4) (zqf t4)=some b4:=by kernel_rfl
def G5:GT:=[]
def S5:Sx:=⟨["table","j"],zqb t5,[],[],G5,[],true,[0,1,2,9,50,51],[]⟩
abbrev b5:Fs:=QV.Xf_column_of
abbrev F5:Fn:=QV.f_column_of
theorem h5:zqp (denS 60 S5) (zqf t5)=some b5:=by kernel_rfl
def G6:GT:=[("must_be_box",(false,1,F2)),("is_row_of_heights",(false,3,F3)),("never_rises",(false,1,F4)),("column_of",(false,2,F5))]
def S6:Sx:=⟨["box","thing","rows","columns","height"],zqb t6,[],[],G6,[],true,[0,1,2,9,50,51],[]⟩
abbrev b6:Fs:=QV.Xf_is_pile
abbrev F6:Fn:=QV.f_is_pile
theorem h6:zqp (denS 60 S6) (zqf t6)=some b6:=by kernel_rfl
def G7:GT:=[("is_pile",(false,2,F6))]
def S7:Sx:=⟨["box","pile"],zqb t7,[],[],G7,[],true,[0,1,2,9,50,51],[]⟩
abbrev b7:Fs:=QV.Xf_must_be_pile
abbrev F7:Fn:=QV.f_must_be_pile
theorem h7:zqp (denS 60 S7) (zqf t7)=some b7:=by kernel_rfl
def G8:GT:=[]
def S8:Sx:=⟨["text","most_figures"],zqb t8,[],[],G8,[],true,[0,1,2,9,50,51],[]⟩
def b8:Fs:=(sSeq (sIf (bT (bUn zqw (zvt (λ i j=>decide (i<=j)) (λ i j=>decide (i<=j)) (bC (.int 1)) (zqd zxd (zqa (bVar 0) (aNil))) (bVar 1)))) (sRet (bC (.bl false))) sNil)
 (sSeq (sIf (bT (bUn zqw (zqd zke (zqa (zqy (bVar 0) 1 (asgN 2) zxn (bBin (opIn false) (bVar 2) (bC (.str "0123456789")))) (aNil))))) (sRet (bC (.bl false))) sNil)
 (sRet (bOrV (bBin (opEq false) (zqd zxd (zqa (bVar 0) (aNil))) (bC (.int 1))) (bBin (opEq true) (bBin zqc (bVar 0) (bC (.int 0))) (bC (.str "0")))))))
def F8:Fn:=mkFn false 2 0 b8
theorem h8:zqp (denS 60 S8) (zqf t8)=some b8:=by kernel_rfl
def G9:GT:=[]
def S9:Sx:=⟨["numbers","parting"],zqb t9,[],[],G9,[],true,[0,1,2,9,50,51],[]⟩
def b9:Fs:=(sRet (bMet zyi (bVar 1) (zqy (bVar 0) 1 (asgN 2) zxn (zqd zko (zqa (bVar 2) (aNil))))))
def F9:Fn:=mkFn false 2 0 b9
theorem h9:zqp (denS 60 S9) (zqf t9)=some b9:=by kernel_rfl
def G10:GT:=[("is_written_number",(false,2,F8))]
def S10:Sx:=⟨["text","parting","words"],zqb t10,[],[],G10,[],true,[0,1,2,9,50,51],[]⟩
def b10:Fs:=(sSeq (sSet false 2 (bMet zwt (bVar 0) (bVar 1)) [0,1])
 (sSeq (sIf (bT (bUn zqw (zqd zke (zqa (zqy (bVar 2) 1 (asgN 3) zxn (zqi F8 (zqa (bVar 3) (zqa (bC (.int 2)) (aNil))))) (aNil))))) (sExc 9) sNil)
 (sRet (zqy (bVar 2) 1 (asgN 3) zxn (zqd zjm (zqa (bVar 3) (aNil)))))))
def F10:Fn:=mkFn false 2 1 b10
theorem h10:zqp (denS 60 S10) (zqf t10)=some b10:=by kernel_rfl
def G11:GT:=[]
def S11:Sx:=⟨["thing"],zqb t11,[],[],G11,[],true,[0,1,2,9,50,51],[]⟩
def b11:Fs:=(sIf (bT (bUn zqw (bUn (zqn "str") (bVar 0)))) (sExc 9) sNil)
def F11:Fn:=mkFn false 1 0 b11
theorem h11:zqp (denS 60 S11) (zqf t11)=some b11:=by kernel_rfl
def G12:GT:=[("must_be_pile",(false,2,F7)),("show_numbers",(false,2,F9))]
def S12:Sx:=⟨["box","pile"],zqb t12,[],[],G12,[],true,[0,1,2,9,50,51],[]⟩
def b12:Fs:=(sSeq (zvj (zqi F7 (zqa (bVar 0) (zqa (bVar 1) (aNil)))))
 (sRet (bMet zyi (bC (.str "/")) (zqy (bVar 1) 1 (asgN 2) zxn (zqi F9 (zqa (bVar 2) (zqa (bC (.str " ")) (aNil))))))))
def F12:Fn:=mkFn false 2 0 b12
theorem h12:zqp (denS 60 S12) (zqf t12)=some b12:=by kernel_rfl
def G13:GT:=[("must_be_box",(false,1,F2)),("is_pile",(false,2,F6)),("read_numbers",(false,2,F10)),("must_be_text",(false,1,F11))]
def S13:Sx:=⟨["box","text","pile"],zqb t13,[],[],G13,[],true,[0,1,2,9,50,51],[]⟩
def b13:Fs:=(sSeq (zvj (zqi F2 (zqa (bVar 0) (aNil))))
 (sSeq (zvj (zqi F11 (zqa (bVar 1) (aNil))))
 (sSeq (sSet false 2 (zqy (bMet zwt (bVar 1) (bC (.str "/"))) 1 (asgN 3) zxn (zqi F10 (zqa (bVar 3) (zqa (bC (.str " ")) (aNil))))) [1,1])
 (sSeq (sIf (bT (bUn zqw (zqi F6 (zqa (bVar 0) (zqa (bVar 2) (aNil)))))) (sExc 9) sNil)
 (zpu 2)))))
def F13:Fn:=mkFn false 2 1 b13
theorem h13:zqp (denS 60 S13) (zqf t13)=some b13:=by kernel_rfl
def G14:GT:=[]
def S14:Sx:=⟨["script","k"],zqb t14,[],[],G14,[],true,[0,1,2,9,50,51],[]⟩
abbrev b14:Fs:=QV.Xb_cell_at
abbrev F14:Fn:=QV.b_cell_at
theorem h14:zqp (denS 60 S14) (zqf t14)=some b14:=by kernel_rfl
def G15:GT:=[]
def S15:Sx:=⟨["cell","many","found","rest","stir","k","again"],zqb t15,[],[],G15,[],true,[0,1,2,9,50,51],[]⟩
abbrev b15:Fs:=QV.Xc_numbers
abbrev F15:Fn:=QV.c_numbers
theorem h15:zqp (denS 60 S15) (zqf t15)=some b15:=by kernel_rfl
def G16:GT:=[]
def S16:Sx:=⟨["xs","box"],zqb t16,[],[],G16,[],true,[0,1,2,9,50,51],[]⟩
abbrev b16:Fs:=QV.Xc_box
abbrev F16:Fn:=QV.c_box
theorem h16:zqp (denS 60 S16) (zqf t16)=some b16:=by kernel_rfl
def G17:GT:=[]
def S17:Sx:=⟨["box","xs","pile","i","row","j","top","number"],zqb t17,[],[],G17,[],true,[0,1,2,9,50,51],[]⟩
abbrev b17:Fs:=QV.Xc_pile
abbrev F17:Fn:=QV.c_pile
theorem h17:zqp (denS 60 S17) (zqf t17)=some b17:=by kernel_rfl
def qi2:Fn:=λ _=>.no
def qm4:GT:=[("_law_alike",(false,2,qi2))]
def qi1:Sx:=⟨["found","due"],zqb t18,[],[],qm4,[],true,[0,1,2,9,50,51],[]⟩
def qit:Fs:=(zqp (denS 60 qi1) (zqf t18)).getD sNil
def qdh:Fn:=mkFn false 2 0 qit
theorem qmp:zqp (denS 60 qi1) (zqf t18)=some qit:=zvh (by decide +kernel)
def qm3:GT:=[("_law_alike",(false,2,qdh))]
def qi0:Sx:=⟨["found","due"],zqb t18,[],[],qm3,[],true,[0,1,2,9,50,51],[]⟩
def qis:Fs:=(zqp (denS 60 qi0) (zqf t18)).getD sNil
def qdg:Fn:=mkFn false 2 0 qis
theorem qmo:zqp (denS 60 qi0) (zqf t18)=some qis:=zvh (by decide +kernel)
def qm2:GT:=[("_law_alike",(false,2,qdg))]
def qiz:Sx:=⟨["found","due"],zqb t18,[],[],qm2,[],true,[0,1,2,9,50,51],[]⟩
def qir:Fs:=(zqp (denS 60 qiz) (zqf t18)).getD sNil
def qdf:Fn:=mkFn false 2 0 qir
theorem qmn:zqp (denS 60 qiz) (zqf t18)=some qir:=zvh (by decide +kernel)
def qm1:GT:=[("_law_alike",(false,2,qdf))]
def qfc:Sx:=⟨["found","due"],zqb t18,[],[],qm1,[],true,[0,1,2,9,50,51],[]⟩
def qiq:Fs:=(zqp (denS 60 qfc) (zqf t18)).getD sNil
def qfd:Fn:=mkFn false 2 0 qiq
theorem qmm:zqp (denS 60 qfc) (zqf t18)=some qiq:=zvh (by decide +kernel)
abbrev F18:Fn:=qfd
abbrev S18:Sx:=qfc
def G19:GT:=[]
def S19:Sx:=⟨["pile","found","row","words","one"],zqb t19,[],[],G19,[],true,[0,1,2,9,50,51],[]⟩
def b19:Fs:=(sSeq (sSet false 1 (bC (.str "")) [])
 (sSeq (zbh (bVar 0) [0] (asgN 2) (sSeq (sSet false 3 (bC (.str "")) [])
 (sSeq (zbh (bVar 2) [2] (asgN 4) (sSet false 3 (bBin zqh (bBin zqh (bVar 3) (bC (.str " "))) (zqd zko (zqa (bVar 4) (aNil)))) [3,4]))
 (sSet false 1 (bBin zqh (bBin zqh (bVar 1) (bC (.str "/"))) (bSl (bVar 3) (some (bC (.int 1))) none)) [1,3]))))
 (sRet (bSl (bVar 1) (some (bC (.int 1))) none))))
def F19:Fn:=mkFn false 1 4 b19
theorem h19:zqp (denS 60 S19) (zqf t19)=some b19:=by kernel_rfl
def G20:GT:=[("show_pile",(false,2,F12)),("read_pile",(false,2,F13)),("_law_cell_at",(false,2,F14)),("_law_numbers",(false,2,F15)),("_law_box",(false,1,F16)),("_law_pile",(false,2,F17)),("_law_alike",(false,2,F18)),("_law_written",(false,1,F19))]
def S20:Sx:=⟨["script","k","xs","box","pile","due","handed","found","told","i"],zqb t20,[],[],G20,[],true,[0,1,2,9,50,51],[]⟩
def b20:Fs:=(sSeq (zzt zxa (zqa (zqd zja (zqa (bC (.int 1)) (zqa (zqd zkd (zqa (zqd zxd (zqa (bVar 0) (aNil))) (zqa (bC (.int 20)) (aNil)))) (aNil)))) (aNil)) (asgN 1) (sSeq (sSet false 2 (zqi F15 (zqa (zqi F14 (zqa (bVar 0) (zqa (bVar 1) (aNil)))) (zqa (bC (.int 44)) (aNil)))) [0,1])
 (sSeq (sSet false 3 (zqi F16 (zqa (bSl (bVar 2) (some (bC (.int 38))) (some (bC (.int 42)))) (aNil))) [2])
 (sSeq (sIf (bT (bBin (opEq false) (bBin zql (bBin zqc (bVar 2) (bC (.int 42))) (bC (.int 8))) (bC (.int 3)))) (sSet false 3 (zqd zvl (zqa (bBin zqc (bVar 3) (bC (.int 0))) (zqa (bBin zqc (bVar 3) (bC (.int 1))) (zqa (bBin zqh (bC (.int 1)) (bBin zql (bBin zqh (bBin zqc (bVar 2) (bC (.int 43))) (bBin zwk (bC (.int 64)) (bBin zqc (bVar 2) (bC (.int 42))))) (bC (.int 99)))) (aNil))))) [3,3,2,2]) sNil)
 (sSeq (sSet false 4 (zqi F17 (zqa (bVar 3) (zqa (bVar 2) (aNil)))) [3,2])
 (sSeq (sSet false 5 (zqi F19 (zqa (bVar 4) (aNil))) [4])
 (sSeq (sSet false 6 (zqy (bVar 4) 1 (asgN 10) zxn (zqd zkl (zqa (bVar 10) (aNil)))) [4,4])
 (sSeq (sSet false 7 (zqi F12 (zqa (bVar 3) (zqa (bVar 6) (aNil)))) [3,6])
 (sSeq (sIf (bT (bOrV (bUn zqw (bUn (zqn "str") (bVar 7))) (bOrV (bBin (opEq true) (bVar 7) (bVar 5)) (bBin (opEq true) (bVar 6) (bVar 4))))) (sRet (bC (.bl false))) sNil)
 (sSeq (sSet false 8 (zqi F13 (zqa (bVar 3) (zqa (bVar 5) (aNil)))) [3,5])
 (sSeq (sIf (bT (bUn zqw (zqi F18 (zqa (bVar 8) (zqa (bVar 4) (aNil)))))) (sRet (bC (.bl false))) sNil)
 (sSeq (zzt zxa (zqa (bBin zqc (bVar 3) (bC (.int 0))) (aNil)) (asgN 9) (zpv 8 (bVar 9) (bVar 9)))
 (sSeq (sIf (bT (bBin (opEq true) (bVar 8) (zxi zxa (zqa (bBin zqc (bVar 3) (bC (.int 0))) (aNil)) 1 (asgN 10) zxn (bBin zqh (bBin zqc (bVar 4) (bVar 10)) (zqd zxx (zqa (bVar 10) (aNil))))))) (sRet (bC (.bl false))) sNil)
 (sSeq (sApp 8 (zqd zxx (aNil)) [])
 (sIf (bT (bOrV (bUn zqw (zqi F18 (zqa (zqi F13 (zqa (bVar 3) (zqa (bVar 5) (aNil)))) (zqa (bVar 4) (aNil))))) (bBin (opEq true) (zqi F12 (zqa (bVar 3) (zqa (bVar 6) (aNil)))) (bVar 5)))) (sRet (bC (.bl false))) sNil)))))))))))))))
 (sRet (bC (.bl true))))
def F20:Fn:=mkFn false 1 9 b20
theorem h20:zqp (denS 60 S20) (zqf t20)=some b20:=by kernel_rfl
theorem qe9:qit=(sSeq (sIf (bT (bOrV (bUn (zqn "tuple") (bVar 1)) (bUn (zqn "list") (bVar 1)))) (sSeq (sIf (bT (bOrV (bBin (opEq true) (bUn (zqn "tuple") (bVar 0)) (bUn (zqn "tuple") (bVar 1))) (bBin (opEq true) (bUn (zqn "list") (bVar 0)) (bUn (zqn "list") (bVar 1))))) (sRet (bC (.bl false))) sNil)
 (sSeq (sIf (bT (bBin (opEq true) (zqd zxd (zqa (bVar 0) (aNil))) (zqd zxd (zqa (bVar 1) (aNil))))) (sRet (bC (.bl false))) sNil)
 (sRet (bBin (opEq false) (zxi zxa (zqa (zqd zxd (zqa (bVar 1) (aNil))) (aNil)) 1 (asgN 2) (bT (bUn zqw (zqi qi2 (zqa (bBin zqc (bVar 0) (bVar 2)) (zqa (bBin zqc (bVar 1) (bVar 2)) (aNil)))))) (bVar 2)) (zqd zxx (aNil)))))) sNil)
 (sRet (zxv (bUn (zqn "int") (bVar 0)) (zxv (bUn zqw (bUn (zqn "bool") (bVar 0))) (bBin (opEq false) (bVar 0) (bVar 1)))))):=by kernel_rfl
theorem qe8:qis=(sSeq (sIf (bT (bOrV (bUn (zqn "tuple") (bVar 1)) (bUn (zqn "list") (bVar 1)))) (sSeq (sIf (bT (bOrV (bBin (opEq true) (bUn (zqn "tuple") (bVar 0)) (bUn (zqn "tuple") (bVar 1))) (bBin (opEq true) (bUn (zqn "list") (bVar 0)) (bUn (zqn "list") (bVar 1))))) (sRet (bC (.bl false))) sNil)
 (sSeq (sIf (bT (bBin (opEq true) (zqd zxd (zqa (bVar 0) (aNil))) (zqd zxd (zqa (bVar 1) (aNil))))) (sRet (bC (.bl false))) sNil)
 (sRet (bBin (opEq false) (zxi zxa (zqa (zqd zxd (zqa (bVar 1) (aNil))) (aNil)) 1 (asgN 2) (bT (bUn zqw (zqi qdh (zqa (bBin zqc (bVar 0) (bVar 2)) (zqa (bBin zqc (bVar 1) (bVar 2)) (aNil)))))) (bVar 2)) (zqd zxx (aNil)))))) sNil)
 (sRet (zxv (bUn (zqn "int") (bVar 0)) (zxv (bUn zqw (bUn (zqn "bool") (bVar 0))) (bBin (opEq false) (bVar 0) (bVar 1)))))):=by kernel_rfl
theorem qe7:qir=(sSeq (sIf (bT (bOrV (bUn (zqn "tuple") (bVar 1)) (bUn (zqn "list") (bVar 1)))) (sSeq (sIf (bT (bOrV (bBin (opEq true) (bUn (zqn "tuple") (bVar 0)) (bUn (zqn "tuple") (bVar 1))) (bBin (opEq true) (bUn (zqn "list") (bVar 0)) (bUn (zqn "list") (bVar 1))))) (sRet (bC (.bl false))) sNil)
 (sSeq (sIf (bT (bBin (opEq true) (zqd zxd (zqa (bVar 0) (aNil))) (zqd zxd (zqa (bVar 1) (aNil))))) (sRet (bC (.bl false))) sNil)
 (sRet (bBin (opEq false) (zxi zxa (zqa (zqd zxd (zqa (bVar 1) (aNil))) (aNil)) 1 (asgN 2) (bT (bUn zqw (zqi qdg (zqa (bBin zqc (bVar 0) (bVar 2)) (zqa (bBin zqc (bVar 1) (bVar 2)) (aNil)))))) (bVar 2)) (zqd zxx (aNil)))))) sNil)
 (sRet (zxv (bUn (zqn "int") (bVar 0)) (zxv (bUn zqw (bUn (zqn "bool") (bVar 0))) (bBin (opEq false) (bVar 0) (bVar 1)))))):=by kernel_rfl
theorem qe6:qiq=(sSeq (sIf (bT (bOrV (bUn (zqn "tuple") (bVar 1)) (bUn (zqn "list") (bVar 1)))) (sSeq (sIf (bT (bOrV (bBin (opEq true) (bUn (zqn "tuple") (bVar 0)) (bUn (zqn "tuple") (bVar 1))) (bBin (opEq true) (bUn (zqn "list") (bVar 0)) (bUn (zqn "list") (bVar 1))))) (sRet (bC (.bl false))) sNil)
 (sSeq (sIf (bT (bBin (opEq true) (zqd zxd (zqa (bVar 0) (aNil))) (zqd zxd (zqa (bVar 1) (aNil))))) (sRet (bC (.bl false))) sNil)
 (sRet (bBin (opEq false) (zxi zxa (zqa (zqd zxd (zqa (bVar 1) (aNil))) (aNil)) 1 (asgN 2) (bT (bUn zqw (zqi qdf (zqa (bBin zqc (bVar 0) (bVar 2)) (zqa (bBin zqc (bVar 1) (bVar 2)) (aNil)))))) (bVar 2)) (zqd zxx (aNil)))))) sNil)
 (sRet (zxv (bUn (zqn "int") (bVar 0)) (zxv (bUn zqw (bUn (zqn "bool") (bVar 0))) (bBin (opEq false) (bVar 0) (bVar 1)))))):=by kernel_rfl
open PySem PySem.Spec PyProof.Rows L2 QQ QV
def ch (c:Nat):Str:=⟨#[c]⟩
def jl (c:Nat):List (List Nat)->List Nat
 | []=>[]
 | [x]=>x
 | x::y::r=>x++c::jl c (y::r)
theorem zbs (c:Nat):∀ l:List Str,(vf5 (ch c) l).cps.toList=jl c (l.map (·.cps.toList))
 | []=>rfl
 | [x]=>rfl
 | x::y::r=>by
  show ((x++ch c)++vf5 (ch c) (y::r)).cps.toList=_
  have e:∀ a b:Str,(a++b).cps.toList=a.cps.toList++b.cps.toList:=λ a b=>ji9
  rw [e,e,zbs c (y::r)]
  show (x.cps.toList++[c])++jl c ((y::r).map (·.cps.toList))=x.cps.toList++c::jl c ((y::r).map (·.cps.toList))
  rw [jg4]
  rfl
theorem qcv {c:Nat}:∀ {x y u v:List Nat},c∉x->c∉y->x++c::u=y++c::v->x=y/\u=v
 | [],[],u,v,_,_,h=>by cases h;exact ⟨rfl,rfl⟩
 | [],b::y,u,v,_,hy,h=>by cases h;exact absurd (ja1) hy
 | a::x,[],u,v,hx,_,h=>by cases h;exact absurd (ja1) hx
 | a::x,b::y,u,v,hx,hy,h=>by
  rw [ji0,ji0,List.cons.injEq] at h
  obtain ⟨e,h⟩:=h
  obtain ⟨e1,e2⟩:=qcv (λ z=>hx (ja0 _ z)) (λ z=>hy (ja0 _ z)) h
  exact ⟨by rw [e,e1],e2⟩
theorem qfy {c:Nat}:∀ {l m:List (List Nat)},l≠[]->m≠[]->(∀ p∈l,c∉p)->(∀ p∈m,c∉p)->jl c l=jl c m->l=m
 | [],_,h,_,_,_,_=>absurd rfl h
 | _,[],_,h,_,_,_=>absurd rfl h
 | [x],[y],_,_,_,_,h=>by rw [show x=y from h]
 | [x],y::z::r,_,_,hl,_,h=>by
  refine absurd ?_ (hl x ja1)
  rw [show x=y++c::jl c (z::r) from h]
  exact ja2 _ ja1
 | x::z::r,[y],_,_,_,hm,h=>by
  refine absurd ?_ (hm y ja1)
  rw [<- show x++c::jl c (z::r)=y from h]
  exact ja2 _ ja1
 | x::x'::r,y::y'::s,_,_,hl,hm,h=>by
  obtain ⟨e1,e2⟩:=qcv (hl x ja1) (hm y ja1) (show x++c::jl c (x'::r)=y++c::jl c (y'::s) from h)
  rw [e1,qfy (l:=x'::r) (m:=y'::s) (λ z=>nomatch z) (λ z=>nomatch z) (λ p hp=>hl p (ja0 _ hp)) (λ p hp=>hm p (ja0 _ hp)) e2]
theorem qds (x y:Str):vc8 x y≠[]:=by
 unfold vc8
 split
 ·exact λ h=>nomatch h
 ·split
  ·exact λ h=>nomatch h
  ·rw [StrLaws.partsBetween_eq]
   obtain ⟨p,r,e⟩:=StrLaws.partsFrom_ne x y.length 0 (vd1 x y 0 x.length (x.length + 1))
   rw [e]
   exact λ h=>nomatch h
theorem qcw:∀ {l m:List Str},l.map (λ s=>s.cps.toList)=m.map (λ s=>s.cps.toList)->l=m
 | [],[],_=>rfl
 | [],_::_,h=>nomatch h
 | _::_,[],h=>nomatch h
 | a::l,b::m,h=>by
  rw [jc1,jc1,List.cons.injEq] at h
  rw [qcw h.2]
  cases a;cases b
  exact congrArg (·::m) (congrArg Str.mk (jn5.mp h.1))
theorem zjg {c:Nat}{l:List Str} (h:l≠[]) (hf:∀ p∈l,c∉p.cps.toList):vc8 (vd2 (ch c) l) (ch c)=l:=by
 have e0:vd2 (ch c) l=vf5 (ch c) l:=vg9 _ _
 rw [e0]
 have e:=StrLaws.join_split (vf5 (ch c) l) (ch c)
 have f:=StrLaws.split_free (vf5 (ch c) l) c
 have n:=qds (vf5 (ch c) l) (ch c)
 change ∀ p∈vc8 (vf5 (ch c) l) (ch c),_ at f
 generalize vc8 (vf5 (ch c) l) (ch c)=m at e f n
 have e2:=congrArg (λ s=>s.cps.toList) e
 rw [zbs,zbs] at e2
 refine qcw (qfy (c:=c) (λ z=>n (je9.mp z)) (λ z=>h (je9.mp z)) (λ p hp=>?_) (λ p hp=>?_) e2)
 ·obtain ⟨q,hq,rfl⟩:=jd3.mp hp
  exact f q hq
 ·obtain ⟨q,hq,rfl⟩:=jd3.mp hp
  exact hf q hq
def numS (n:Int):Str:=(toString n:String)
def n1 (n:Nat):Bool:=(match F8 [(.str (numS n)),(.int 2)] with
 | .ok (.bl true,d,.non)=>d == om
 | _=>false) && (match vh3 (numS n) with
 | some m=>m == (n:Int)
 | none=>false) && decide ((numS n).length<=2) && decide (32∉(numS n).cps.toList) && decide (47∉(numS n).cps.toList) && decide (n.log2 < 1920)
theorem qky:(jc6 100).all n1=true:=by decide +kernel
structure NumOk (i:Int):Prop where
 wr:F8 [.str (numS i),.int 2]=.ok (.bl true,om,.non)
 rd:vh3 (numS i)=some i
 ln:(numS i).length<=2
 n32:32∉(numS i).cps.toList
 n47:47∉(numS i).cps.toList
 sh:zjj (.int i)=some (numS i)
theorem zzw {i:Int} (h:0<=i/\i<=99):NumOk i:=by
 obtain ⟨n,rfl⟩:=Int.eq_ofNat_of_zero_le h.1
 have h1:=jc8.mp qky n (jd0.mpr (by omega))
 unfold n1 at h1
 rw [ja5,ja5,ja5,ja5,ja5] at h1
 obtain ⟨⟨⟨⟨⟨a,b⟩,c⟩,d⟩,e⟩,f⟩:=h1
 refine ⟨?_,?_,of_decide_eq_true c,of_decide_eq_true d,of_decide_eq_true e,?_⟩
 ·split at a
  ·rename_i d e
   rw [e,eq_of_beq a]
  ·cases a
 ·split at b
  ·rename_i m e
   rw [e,eq_of_beq b]
  ·cases b
 ·show (if _ then _ else _)=_
  rw [Int.natAbs_natCast,if_pos (of_decide_eq_true f)]
  rfl
def rowS (r:List Int):Str:=vd2 (ch 32) (r.map numS)
def zkc (t:List (List Int)):Str:=vd2 (ch 47) (t.map rowS)
theorem qfx {c x:Nat}:∀ {l:List (List Nat)},x∈jl c l->x=c\/∃ p∈l,x∈p
 | [],h=>nomatch h
 | [p],h=>Or.inr ⟨p,ja1,h⟩
 | p::q::r,h=>by
  rcases jc0.mp (show x∈p++c::jl c (q::r) from h) with h | h
  ·exact Or.inr ⟨p,ja1,h⟩
  ·rcases jb2.mp h with h | h
   ·exact Or.inl h
   ·rcases qfx h with h | ⟨y,hy,hx⟩
    ·exact Or.inl h
    ·exact Or.inr ⟨y,ja0 _ hy,hx⟩
theorem zhb (c:Nat) (l:List Str):(vd2 (ch c) l).cps.toList=jl c (l.map (·.cps.toList)):=by
 rw [show vd2 (ch c) l=vf5 (ch c) l from vg9 _ _]
 exact zbs c l
def Sm (r:List Int):Prop:=∀ x∈r,0<=x/\x<=99
theorem qdx {r:List Int} (h:Sm r):47∉(rowS r).cps.toList:=by
 intro z
 unfold rowS at z
 rw [zhb] at z
 rcases qfx z with z | ⟨p,hp,hx⟩
 ·cases z
 ·rw [jd8] at hp
  obtain ⟨i,hi,rfl⟩:=jd3.mp hp
  exact (zzw (h i hi)).n47 hx
theorem qa9 {r:List Int} (h:Sm r) (hn:r≠[]):vc8 (rowS r) (ch 32)=r.map numS:=by
 refine zjg (λ z=>hn (je9.mp z)) λ p hp=>?_
 obtain ⟨i,hi,rfl⟩:=jd3.mp hp
 exact (zzw (h i hi)).n32
theorem qab {t:List (List Int)} (h:∀ r∈t,Sm r) (hn:t≠[]):vc8 (zkc t) (ch 47)=t.map rowS:=by
 refine zjg (λ z=>hn (je9.mp z)) λ p hp=>?_
 obtain ⟨i,hi,rfl⟩:=jd3.mp hp
 exact qdx (h i hi)
theorem zha (z:Str) (l:List Str) {m:Nat} (h:∀ s∈l,s.length<=m):(vd2 z l).length<=l.length * (m + z.length):=by
 rw [show vd2 z l=vf5 z l from vg9 _ _]
 refine jc4 (StrLaws.join_length_le z l) ?_
 have:∀ (l:List Str),(∀ s∈l,s.length<=m)->(l.map (·.length)).sum<=l.length * m:=by
  intro l
  induction l with
  | nil=>intro _;exact jg2 _
  | cons a r ih=>
   intro h
   rw [jc1,jo2,jb8,jk5,jo5]
   exact Nat.add_le_add (ih λ s hs=>h s (ja0 _ hs)) (h a ja1)
 rw [Nat.mul_add]
 exact Nat.add_le_add_right (this l h) _
theorem zmj (z:Str) {m:Nat}:∀ (l:List Str) (k:Nat),(∀ s∈l,s.length<=m)->l.foldl (λ a s=>a + s.length + z.length) k<=k + l.length * (m + z.length)
 | [],k,_=>jn4 _ _
 | a::r,k,h=>by
  have h1:=h a ja1
  have:=zmj z r (k + a.length + z.length) λ s hs=>h s (ja0 _ hs)
  rw [jk4,jb8,jk5]
  omega
theorem qhy {z:Str}{l:List Str}{m:Nat} (h:∀ s∈l,s.length<=m) (hl:l.length * (m + z.length)<=va2):JoinOk z l=true:=by
 unfold JoinOk vh7
 rw [List.foldl_toArray]
 have:=zmj z l 0 h
 rw [decide_eq_false (by omega)]
 rfl
theorem zka {r:List Int} (h:Sm r) (hl:r.length<=6):(rowS r).length<=18:=by
 refine jc4 (zha (ch 32) (r.map numS) (m:=2) λ s hs=>?_) ?_
 ·obtain ⟨i,hi,rfl⟩:=jd3.mp hs
  exact (zzw (h i hi)).ln
 ·rw [ja6]
  show r.length * 3<=18
  omega
theorem qd3 {t:List (List Int)} (h:∀ r∈t,Sm r/\r.length<=6) (hl:t.length<=6):(zkc t).length<=114:=by
 refine jc4 (zha (ch 47) (t.map rowS) (m:=18) λ s hs=>?_) ?_
 ·obtain ⟨i,hi,rfl⟩:=jd3.mp hs
  exact zka (h i hi).1 (h i hi).2
 ·rw [ja6]
  show t.length * 19<=114
  omega
theorem zjf:∀ zs:List Str,zpo (zs.map PV.str)=some zs
 | []=>rfl
 | z::r=>by rw [jc1];unfold zpo;rw [zjf r];rfl
theorem zgq {op:Str->PV->Nat->Option (PV×Nat)}{f g:Fx}{ρ ρ1 ρ2:Rho}{z:Str}{d e c:Nat}{y r:PV} (h1:f ρ=.ok (.str z,d,ρ1)) (h2:g ρ1=.ok (y,e,ρ2)) (h3:op z y e=some (r,c)):bMet op f g ρ=.ok (r,c,ρ2):=by
 unfold bMet
 rw [h1]
 dsimp only [Rz.bind]
 rw [h2]
 dsimp only [Rz.bind]
 rw [h3]
theorem qk7 {z:Str}{l:List Str}{d m:Nat} (h:∀ s∈l,s.length<=m) (hl:l.length * (m + z.length)<=va2):zyi z (.lst (l.map PV.str)) d=some (.str (vd2 z l),om):=by
 unfold zyi
 dsimp only
 rw [zjf]
 dsimp only
 rw [if_pos (qhy h hl)]
theorem qdu {r:List Int} (h:Sm r) (hl:r.length<=6):F9 [il r,.str " "]=.ok (.str (rowS r),om,.non):=by
 have z:=sz
 refine zzj rfl (ρ':=[some (il r,0),some (.str " ",om)]) ?_
 have e:=zxs (n:=2) (f:=bVar 0) (ρ:=[some (il r,0),some (.str " ",om)]) (ρ1:=[some (il r,0),some (.str " ",om)]) (d:=0) (enc:=PV.int) (q:=λ i=>.str (numS i)) (elt:=zqd zko (zqa (bVar 2) (aNil))) r rfl rfl (λ i hi=>zxu (zxg (x:=.int i) (d:=om) rfl) (by unfold zko;dsimp only;rw [(zzw (h i hi)).sh];rfl)) (by omega)
 rw [show r.map (λ i=>PV.str (numS i))=(r.map numS).map PV.str by rw [jd8];rfl] at e
 exact zwu (zgq (z := " ") (d:=om) rfl e (qk7 (m:=2) (λ s hs=>by
  obtain ⟨i,hi,rfl⟩:=jd3.mp hs
  exact (zzw (h i hi)).ln) (by rw [ja6];show r.length * 3<=_;omega)))
theorem qjn {z:Str}{c d:Nat}{l:List Str} (h:z.length<=1000) (e:vc8 z (ch c)=l) (hl:l.length<=1000):zwt z (.str (ch c)) d=some (.lst (l.map PV.str),om):=by
 have s:=sz
 unfold zwt
 dsimp only
 have h1:=StrLaws.occ_length_le z (ch c) 0 z.length (z.length + 1)
 rw [e,if_pos ⟨rfl,by omega,by rw [length_partsBetween];omega,by omega⟩]
theorem qdy {r:List Int} (h:Sm r) (hl:r.length<=6) (hn:r≠[]):F10 [.str (rowS r),.str " "]=.ok (il r,om,.non):=by
 have z:=sz
 have hz:=zka h hl
 let R (s:QQ.Slot):Rho:=[some (.str (rowS r),om),some (.str " ",om),s]
 have s1:sSet false 2 (bMet zwt (bVar 0) (bVar 1)) [0,1] (R none)=.nx (R (some (.lst ((r.map numS).map PV.str),om))):=setF (zgq (z:=rowS r) (d:=om) (e:=om) (y:=.str (ch 32)) rfl rfl (qjn (by omega) (qa9 h hn) (by rw [ja6];omega))) (show 2 < 3 by decide) rfl
 have e0:(r.map numS).map PV.str=r.map λ i=>.str (numS i):=by rw [jd8];rfl
 rw [e0] at s1
 let R1:Rho:=R (some (.lst (r.map λ i=>.str (numS i)),om))
 have e1:=zxs (n:=3) (f:=bVar 2) (ρ:=R1) (ρ1:=R1) (d:=0) (enc:=λ i=>.str (numS i)) (q:=λ i=>.bl ((λ _:Int=>true) i)) (elt:=zqi F8 (zqa (bVar 3) (zqa (bC (.int 2)) (aNil)))) r rfl rfl (λ i hi=>zqr (xs:=[(.str (numS i),om),(.int 2,om)]) rfl (zzw (h i hi)).wr) (by omega)
 have e2:=all_ok (g:=λ _:Int=>true) e1
 rw [jc8.mpr (λ _ _=>rfl)] at e2
 have s2:sIf (bT (bUn zqw (zqd zke (zqa (zqy (bVar 2) 1 (asgN 3) zxn (zqi F8 (zqa (bVar 3) (zqa (bC (.int 2)) (aNil))))) (aNil))))) (sExc 9) sNil R1=.nx R1:=if_f (t_ok (zvm e2))
 have e3:=zxs (n:=3) (f:=bVar 2) (ρ:=R1) (ρ1:=R1) (d:=0) (enc:=λ i=>.str (numS i)) (q:=PV.int) (elt:=zqd zjm (zqa (bVar 3) (aNil))) r rfl rfl (λ i hi=>zxu (zxg (x:=.str (numS i)) (d:=om) rfl) (by
  have q:=zzw (h i hi)
  have:=q.ln
  unfold zjm
  dsimp only
  rw [if_pos (by omega),q.rd]
  rfl)) (by omega)
 refine zzj rfl (ρ':=R1) ?_
 exact (zqe s1).trans ((zqe s2).trans (zwu e3))
structure Sp (a b c:Nat) (t:List (List Int)):Prop where
 p:Pile a b c t
 a1:1<=a/\a<=6
 b1:1<=b/\b<=6
 c1:1<=c/\c<=99
variable {a b c:Nat}{t:List (List Int)}
theorem Sp.sm (h:Sp a b c t):∀ r∈t,Sm r/\r.length<=6:=by
 intro r hr
 have l:=h.p.tab.2 r hr
 refine ⟨λ x hx=>?_,by have:=h.b1;omega⟩
 obtain ⟨i,hi,rfl⟩:=jd7 hr
 obtain ⟨j,hj,rfl⟩:=jd7 hx
 have l1:=h.p.tab.1
 have e:g t i j=t[i][j]:=by
  unfold g
  rw [ja3,ja3,jb1 hi,jn6,jb1 hj,jn6]
 rw [<- e]
 have h1:=h.p.lo i j (by omega) (by omega)
 have h2:=h.p.hi i j (by omega) (by omega)
 have:=h.c1
 omega
theorem Sp.ne (h:Sp a b c t):∀ r∈t,r≠[]:=by
 intro r hr e
 have l:=h.p.tab.2 r hr
 have:=h.b1
 rw [e,jk6] at l
 omega
theorem Sp.tne (h:Sp a b c t):t≠[]:=by
 intro e
 have l:=h.p.tab.1
 have:=h.a1
 rw [e,jk6] at l
 omega
theorem show_pile {a b c:Nat}{t:List (List Int)} (h:Sp a b c t):F12 [bx a b c,tb t]=.ok (.str (zkc t),om,.non):=by
 have z:=sz
 obtain ⟨p,ha,hb,hc⟩:=id h
 have l:=p.tab.1
 let R:Rho:=[some (bx a b c,0),some (tb t,0)]
 have s1:zvj (zqi F7 (zqa (bVar 0) (zqa (bVar 1) (aNil)))) R=.nx R:=zbw (zqr (xs:=[(bx a b c,0),(tb t,0)]) rfl (zme p.tab (by omega) (by omega) (by omega) ((zpz p.tab).mpr p)))
 have e:=zxs (n:=2) (f:=bVar 1) (ρ:=R) (ρ1:=R) (d:=0) (enc:=il) (q:=λ r=>.str (rowS r)) (elt:=zqi F9 (zqa (bVar 2) (zqa (bC (.str " ")) (aNil)))) t rfl rfl (λ r hr=>zqr (xs:=[(il r,0),(.str " ",om)]) rfl (qdu (h.sm r hr).1 (h.sm r hr).2)) (by omega)
 rw [show t.map (λ i=>PV.str (rowS i))=(t.map rowS).map PV.str by rw [jd8];rfl] at e
 refine zzj rfl (ρ':=R) ?_
 exact (zqe s1).trans (zwu (zgq (z := "/") (d:=om) rfl e (qk7 (m:=18) (λ s hs=>by
  obtain ⟨i,hi,rfl⟩:=jd3.mp hs
  exact zka (h.sm i hi).1 (h.sm i hi).2) (by rw [ja6];show t.length * 19<=_;omega))))
theorem read_pile {a b c:Nat}{t:List (List Int)} (h:Sp a b c t):F13 [bx a b c,.str (zkc t)]=.ok (tb t,om,.non):=by
 have z:=sz
 obtain ⟨p,ha,hb,hc⟩:=id h
 have l:=p.tab.1
 have hz:=qd3 h.sm (by omega)
 have hbx:boxB a b c=true:=by unfold boxB;rw [decide_eq_true (by omega),decide_eq_true (by omega),decide_eq_true (by omega)];rfl
 let R (s:QQ.Slot):Rho:=[some (bx a b c,0),some (.str (zkc t),om),s]
 have s1:zvj (zqi F2 (zqa (bVar 0) (aNil))) (R none)=.nx (R none):=zbw (zqr (xs:=[(bx a b c,0)]) rfl (zyl hbx))
 have s2:zvj (zqi F11 (zqa (bVar 1) (aNil))) (R none)=.nx (R none):=zbw (zqr (xs:=[(.str (zkc t),om)]) (y:=.non) (d:=om) (z:=.non) rfl rfl)
 have e0:=zgq (op:=zwt) (f:=bVar 1) (g:=bC (.str "/")) (ρ:=R none) (z:=zkc t) (d:=om) (e:=om) (y:=.str (ch 47)) rfl rfl (qjn (by omega) (qab (λ r hr=>(h.sm r hr).1) h.tne) (by rw [ja6];omega))
 rw [show (t.map rowS).map PV.str=t.map (λ r=>.str (rowS r)) by rw [jd8];rfl] at e0
 have e1:=zxs (n:=3) (enc:=λ r=>.str (rowS r)) (q:=il) (elt:=zqi F10 (zqa (bVar 3) (zqa (bC (.str " ")) (aNil)))) t e0 rfl (λ r hr=>zqr (xs:=[(.str (rowS r),om),(.str " ",om)]) rfl (qdy (h.sm r hr).1 (h.sm r hr).2 (h.ne r hr))) (by omega)
 have s3:sSet false 2 (zqy (bMet zwt (bVar 1) (bC (.str "/"))) 1 (asgN 3) zxn (zqi F10 (zqa (bVar 3) (zqa (bC (.str " ")) (aNil))))) [1,1] (R none)=.nx (R (some (tb t,om))):=setF e1 (show 2 < 3 by decide) rfl
 have hp:=zjq p.tab (show 1<=a/\a<=100 by omega) (show 1<=b/\b<=100 by omega) (show (1:Int)<=c by omega)
 rw [(zpz p.tab).mpr p] at hp
 have s4:sIf (bT (bUn zqw (zqi F6 (zqa (bVar 0) (zqa (bVar 2) (aNil)))))) (sExc 9) sNil (R (some (tb t,om)))=.nx (R (some (tb t,om))):=if_f (t_ok (zvm (zqr (xs:=[(bx a b c,0),(tb t,0)]) rfl hp)))
 refine zzj rfl (ρ':=R (some (tb t,om))) ?_
 exact (zqe s1).trans ((zqe s2).trans ((zqe s3).trans ((zqe s4).trans rfl)))
theorem qcf (c:Nat):∀ l:List (List Nat),jl c l=(l.flatMap (c::·)).drop 1
 | []=>rfl
 | [x]=>by rw [jf6,jn7,jf5];rfl
 | x::y::r=>by
  show x++c::jl c (y::r)=_
  rw [qcf c (y::r),jf6,jf6]
  rfl
def cat (c:Nat) (l:List Str):Str:=⟨(l.flatMap λ s=>c::s.cps.toList).toArray⟩
theorem zhr (c:Nat) (l:List Str) (s:Str):cat c l++ch c++s=cat c (l++[s]):=by
 show Str.mk _=Str.mk _
 refine congrArg Str.mk (jn5.mp ?_)
 show ((Array.mk _++#[c])++s.cps).toList=_
 rw [ji9,ji9]
 show (l.flatMap λ s=>c::s.cps.toList)++[c]++s.cps.toList=(l++[s]).flatMap λ s=>c::s.cps.toList
 rw [List.flatMap_append,jg4,jf6,jn7,jf5]
 rfl
theorem zpd (c:Nat) {m:Nat}:∀ (l:List Str),(∀ s∈l,s.length<=m)->(cat c l).length<=l.length * (m + 1):=by
 intro l h
 show (l.flatMap λ s=>c::s.cps.toList).toArray.size<=_
 rw [jb4]
 induction l with
 | nil=>exact jg2 _
 | cons a r ih=>
  have h1:a.cps.toList.length<=m:=h a ja1
  have:=ih λ s hs=>h s (ja0 _ hs)
  rw [jf6,jb3,jb8,jb8,jk5]
  omega
theorem zmv (c:Nat) {l:List Str} (hn:l≠[]):vg8 (cat c l) (some 1) none=vd2 (ch c) l:=by
 have hl:1<=(cat c l).cps.toList.length:=by
  show 1<=(l.flatMap λ s=>c::s.cps.toList).length
  cases l with
  | nil=>exact absurd rfl hn
  | cons a r=>rw [jf6,jb3,jb8];omega
 have e:=StrLaws.sliceText_from (x:=cat c l) (i:=1) ⟨by decide,by omega⟩
 refine (show vg8 (cat c l) (some 1) none=_ from e).trans ?_
 have e2:=zhb c l
 rw [qcf,List.flatMap_map] at e2
 have:(vd2 (ch c) l)=Str.mk (vd2 (ch c) l).cps.toList.toArray:=rfl
 rw [this,e2]
 refine congrArg Str.mk (congrArg List.toArray ?_)
 show List.take _ (List.drop 1 (l.flatMap λ s=>c::s.cps.toList))=_
 refine jf9 ?_
 rw [jh8]
 show (l.flatMap λ s=>c::s.cps.toList).length - 1<=(((l.flatMap λ s=>c::s.cps.toList).length:Int) - 1).toNat
 omega
theorem zph {f g:Fx}{ρ:Rho}{x y:Str}{d e:Nat} (h1:f ρ=.ok (.str x,d,ρ)) (h2:g ρ=.ok (.str y,e,ρ)) (hl:x.length + y.length<=1000):bBin zqh f g ρ=.ok (.str (x++y),om,ρ):=by
 have z:=sz
 exact zwm h1 h2 (by unfold zqh;dsimp only;rw [if_pos (by omega)])
theorem qjo {f:Fx}{ρ:Rho}{x y:Str}{d:Nat} (h1:f ρ=.ok (.str x,d,ρ)) (hl:x.length<=1000) (e:vg8 x (some 1) none=y):bSl f (some (bC (.int 1))) none ρ=.ok (.str y,om,ρ):=by
 have z:=sz
 unfold bSl
 rw [h1]
 show (match opSl (.str x) (some 1) none with
  | some (z,c)=>Rz.ok (z,c,ρ)
  | none=>.no)=_
 unfold opSl
 dsimp only
 rw [if_pos (by omega),e]
theorem qgf {a b c:Nat}{t:List (List Int)} (h:Sp a b c t):F19 [tb t]=.ok (.str (zkc t),om,.non):=by
 have z:=sz
 have ha:=h.a1
 have l:=h.p.tab.1
 let R (s1 s2 s3 s4:QQ.Slot):Rho:=[some (tb t,0),s1,s2,s3,s4]
 let T (k:Nat):Str:=cat 47 ((t.map rowS).take k)
 let W (r:List Int) (k:Nat):Str:=cat 32 ((r.map numS).take k)
 have s1:sSet false 1 (bC (.str "")) [] (R none none none none)=.nx (R (some (.str (T 0),om)) none none none):=by rfl
 have inner:∀ (k:Nat) (r:List Int) (s4:QQ.Slot),r∈t->∃ s4',zbh (bVar 2) [2] (asgN 4) (sSet false 3 (bBin zqh (bBin zqh (bVar 3) (bC (.str " "))) (zqd zko (zqa (bVar 4) (aNil)))) [3,4]) (R (some (.str (T k),om)) (some (il r,0)) (some (.str "",om)) s4)=.nx (R (some (.str (T k),om)) (some (il r,0)) (some (.str (W r r.length),om)) s4'):=by
  intro k r s4 hr
  have q:=h.sm r hr
  obtain ⟨ρ',e,s4',rfl⟩:=zhd (f:=bVar 2) (vs:=[2]) (asg:=asgN 4) (body:=sSet false 3 (bBin zqh (bBin zqh (bVar 3) (bC (.str " "))) (zqd zko (zqa (bVar 4) (aNil)))) [3,4]) (ρ:=R (some (.str (T k),om)) (some (il r,0)) (some (.str "",om)) s4) (els:=r.map PV.int) (d:=0)
   (λ j ρ=>∃ s4,ρ=R (some (.str (T k),om)) (some (il r,0)) (some (.str (W r j),om)) s4) rfl rfl ⟨s4,rfl⟩ (by
    rintro j x ρ hx ⟨s4,rfl⟩
    rw [jc2] at hx
    obtain ⟨i,hi,rfl⟩:=ja7.mp hx
    have hm:=ji1 hi
    have n:=zzw (q.1 i hm)
    have hj:j < r.length:=(ja8.mp hi).1
    have wl:(W r j).length<=18:=by
     refine jc4 (zpd 32 (m:=2) _ λ s hs=>?_) ?_
     ·obtain ⟨i,hi,rfl⟩:=jd3.mp (jf4 hs)
      exact (zzw (q.1 i hi)).ln
     ·rw [jd1,ja6]
      have:=q.2
      omega
    have nl:=n.ln
    let ρ1:Rho:=R (some (.str (T k),om)) (some (il r,0)) (some (.str (W r j),om)) (some (.int i,om))
    have e1:bBin zqh (bVar 3) (bC (.str " ")) ρ1=.ok (.str (W r j++ch 32),om,ρ1):=zph (x:=W r j) (y:=ch 32) (d:=om) (e:=om) rfl rfl (by show _ + 1<=1000;omega)
    have e2:zqd zko (zqa (bVar 4) (aNil)) ρ1=.ok (.str (numS i),om,ρ1):=zxu (zxg (x:=.int i) (d:=om) rfl) (by unfold zko;dsimp only;rw [n.sh];rfl)
    have l2:(W r j++ch 32).length<=19:=by
     show ((W r j).cps++#[32]).size<=19
     rw [jm5]
     show (W r j).length + 1<=19
     omega
    have e3:=zph e1 e2 (by omega)
    have e4:W r j++ch 32++numS i=W r (j + 1):=by
     show cat 32 _++ch 32++numS i=cat 32 _
     rw [zhr,jj8,jc2,hi]
     rfl
    rw [e4] at e3
    exact ⟨ρ1,_,rfl,setF e3 (show 3 < 5 by decide) rfl,_,rfl⟩)
  rw [ja6] at e
  exact ⟨s4',e⟩
 obtain ⟨ρ',e,s2,s3,s4,rfl⟩:=zhd (f:=bVar 0) (vs:=[0]) (asg:=asgN 2) (body:=sSeq (sSet false 3 (bC (.str "")) [])
  (sSeq (zbh (bVar 2) [2] (asgN 4) (sSet false 3 (bBin zqh (bBin zqh (bVar 3) (bC (.str " "))) (zqd zko (zqa (bVar 4) (aNil)))) [3,4]))
  (sSet false 1 (bBin zqh (bBin zqh (bVar 1) (bC (.str "/"))) (bSl (bVar 3) (some (bC (.int 1))) none)) [1,3]))) (ρ:=R (some (.str (T 0),om)) none none none) (els:=t.map il) (d:=0)
  (λ k ρ=>∃ s2 s3 s4,ρ=R (some (.str (T k),om)) s2 s3 s4) rfl rfl ⟨_,_,_,rfl⟩ (by
   rintro k x ρ hx ⟨s2,s3,s4,rfl⟩
   rw [jc2] at hx
   obtain ⟨r,hi,rfl⟩:=ja7.mp hx
   have hm:=ji1 hi
   have q:=h.sm r hm
   obtain ⟨s4',e2⟩:=inner k r s4 hm
   have tl:(T k).length<=114:=by
    refine jc4 (zpd 47 (m:=18) _ λ s hs=>?_) ?_
    ·obtain ⟨i,hi,rfl⟩:=jd3.mp (jf4 hs)
     exact zka (h.sm i hi).1 (h.sm i hi).2
    ·rw [jd1,ja6]
     omega
   have wl:(W r r.length).length<=18:=by
    refine jc4 (zpd 32 (m:=2) _ λ s hs=>?_) ?_
    ·obtain ⟨i,hi,rfl⟩:=jd3.mp (jf4 hs)
     exact (zzw (q.1 i hi)).ln
    ·rw [jd1,ja6]
     have:=q.2
     omega
   have rl:=zka q.1 q.2
   let ρ1:Rho:=R (some (.str (T k),om)) (some (il r,0)) (some (.str (W r r.length),om)) s4'
   have e3:bBin zqh (bVar 1) (bC (.str "/")) ρ1=.ok (.str (T k++ch 47),om,ρ1):=zph (x:=T k) (y:=ch 47) (d:=om) (e:=om) rfl rfl (by show _ + 1<=1000;omega)
   have l2:(T k++ch 47).length<=115:=by
    show ((T k).cps++#[47]).size<=115
    rw [jm5]
    show (T k).length + 1<=115
    omega
   have e4:bSl (bVar 3) (some (bC (.int 1))) none ρ1=.ok (.str (rowS r),om,ρ1):=qjo (x:=W r r.length) (d:=om) rfl (by omega) (by
    show vg8 (cat 32 _) (some 1) none=vd2 (ch 32) (r.map numS)
    rw [jf9 (by rw [ja6];exact jb7 _)]
    exact zmv 32 λ z=>h.ne r hm (je9.mp z))
   have e5:=zph e3 e4 (by omega)
   have e6:T k++ch 47++rowS r=T (k + 1):=by
    show cat 47 _++ch 47++rowS r=cat 47 _
    rw [zhr,jj8,jc2,hi]
    rfl
   rw [e6] at e5
   refine ⟨R (some (.str (T k),om)) (some (il r,0)) s3 s4,_,rfl,(zqe (ρ1:=R (some (.str (T k),om)) (some (il r,0)) (some (.str "",om)) s4) rfl).trans ((zqe e2).trans (setF e5 (show 1 < 5 by decide) rfl)),_,_,_,rfl⟩)
 rw [ja6] at e
 have e7:bSl (bVar 1) (some (bC (.int 1))) none (R (some (.str (T t.length),om)) s2 s3 s4)=.ok (.str (zkc t),om,R (some (.str (T t.length),om)) s2 s3 s4):=qjo (x:=T t.length) (d:=om) rfl (by
   refine jc4 (zpd 47 (m:=18) _ λ s hs=>?_) ?_
   ·obtain ⟨i,hi,rfl⟩:=jd3.mp (jf4 hs)
    exact zka (h.sm i hi).1 (h.sm i hi).2
   ·rw [jd1,ja6]
    omega) (by
  show vg8 (cat 47 _) (some 1) none=vd2 (ch 47) (t.map rowS)
  rw [jf9 (by rw [ja6];exact jb7 _)]
  exact zmv 47 λ z=>h.tne (je9.mp z))
 refine zzj rfl (ρ':=R (some (.str (T t.length),om)) s2 s3 s4) ?_
 exact (zqe s1).trans ((zqe e).trans (zwu e7))
end K54
namespace QV
open PySem PySem.Spec PyProof.Rows L2 QQ
theorem qcy {n:Nat}{en:List (PV×Nat)->Option (Int×Int)}{fa:Fa}{test:Fb}{p:Nat->Bool}{ρ ρ1:Rho}{as:List (PV×Nat)}{lo hi:Int} (hf:fa ρ=.ok (as,ρ1)) (hen:en as=some (lo,hi)) (hn:ρ1.length=n) (ht:∀ k,k < (hi - lo).toNat->test (ρ1++[some (.int (lo + (k:Int)),om)])=.ok (p k,ρ1++[some (.int (lo + (k:Int)),om)])) (hl:(hi - lo).toNat<=va2):
  zxi en fa 1 (asgN n) test (bVar n) ρ=.ok (il (((jc6 (hi - lo).toNat).filter p).map λ (k:Nat)=>lo + (k:Int)),om,ρ1):=by
 unfold zxi
 rw [hf]
 dsimp only
 rw [hen]
 dsimp only
 rw [zyh,zzl (enc:=λ (k:Nat)=>PV.int (lo + (k:Int))) (p:=p) (q:=λ (k:Nat)=>PV.int (lo + (k:Int))) (e:=λ _=>om) (jc6 (hi - lo).toNat) ρ1 [] hn (λ x hx=>ht x (jd0.mp hx)) (λ x hx _=>by
  unfold bVar
  rw [jc5 (by omega),hn,jp0]
  rfl) (by simpa using hl)]
 show zvb _ ρ1=_
 rw [jh0]
 unfold zvb
 rw [zzn,jd8]
 unfold il
 rw [jd8]
 rfl
end QV
namespace K54
open PySem PySem.Spec PyProof.Rows L2 QQ QV
def Xal (F:Fn):Fs:=(sSeq (sIf (bT (bOrV (bUn (zqn "tuple") (bVar 1)) (bUn (zqn "list") (bVar 1)))) (sSeq (sIf (bT (bOrV (bBin (opEq true) (bUn (zqn "tuple") (bVar 0)) (bUn (zqn "tuple") (bVar 1))) (bBin (opEq true) (bUn (zqn "list") (bVar 0)) (bUn (zqn "list") (bVar 1))))) (sRet (bC (.bl false))) sNil)
 (sSeq (sIf (bT (bBin (opEq true) (zqd zxd (zqa (bVar 0) (aNil))) (zqd zxd (zqa (bVar 1) (aNil))))) (sRet (bC (.bl false))) sNil)
 (sRet (bBin (opEq false) (zxi zxa (zqa (zqd zxd (zqa (bVar 1) (aNil))) (aNil)) 1 (asgN 2) (bT (bUn zqw (zqi F (zqa (bBin zqc (bVar 0) (bVar 2)) (zqa (bBin zqc (bVar 1) (bVar 2)) (aNil)))))) (bVar 2)) (zqd zxx (aNil)))))) sNil)
 (sRet (zxv (bUn (zqn "int") (bVar 0)) (zxv (bUn zqw (bUn (zqn "bool") (bVar 0))) (bBin (opEq false) (bVar 0) (bVar 1))))))
def al:Nat->Fn
 | 0=>λ _=>.no
 | n + 1=>mkFn false 2 0 (Xal (al n))
theorem qlx (n:Nat) (i:Int):al (n + 1) [.int i,.int i]=.ok (.bl true,om,.non):=by
 let R:Rho:=[some (.int i,om),some (.int i,om)]
 have e:(zxv (bUn (zqn "int") (bVar 0)) (zxv (bUn zqw (bUn (zqn "bool") (bVar 0))) (bBin (opEq false) (bVar 0) (bVar 1)))) R=.ok (.bl (true && (true && (false^^decide (i=i)))),om,R):=
  zhv (a:=true) (d:=om) rfl (λ _=>zhv (a:=true) (d:=om) rfl (λ _=>zfp (i:=i) (j:=i) rfl rfl) rfl) rfl
 rw [decide_eq_true rfl] at e
 exact zzj rfl (ρ':=R) ((zqe (ρ1:=R) (if_f (ρ1:=R) rfl)).trans (zwu e))
theorem qgd {n m:Nat}{xs:List PV} (hm:xs.length=m) (hl:m<=1000) (h:∀ k,k < m->∃ x d,al n [x,x]=.ok (.bl true,om,.non)/\∀ (j:Nat) (ρ:Rho),bVar j ρ=.ok (.lst xs,0,ρ)->bVar 2 ρ=.ok (.int (0 + (k:Int)),om,ρ)->bBin zqc (bVar j) (bVar 2) ρ=.ok (x,d,ρ)):al (n + 1) [.lst xs,.lst xs]=.ok (.bl true,om,.non):=by
 have z:=sz
 let R:Rho:=[some (.lst xs,0),some (.lst xs,0)]
 have t1:bT (bOrV (bUn (zqn "tuple") (bVar 1)) (bUn (zqn "list") (bVar 1))) R=.ok (true,R):=by kernel_rfl
 have t3:bT (bOrV (bBin (opEq true) (bUn (zqn "tuple") (bVar 0)) (bUn (zqn "tuple") (bVar 1))) (bBin (opEq true) (bUn (zqn "list") (bVar 0)) (bUn (zqn "list") (bVar 1)))) R=.ok (false,R):=by kernel_rfl
 have el:∀ j ρ,bVar j ρ=.ok (.lst xs,0,ρ)->zqd zxd (zqa (bVar j) (aNil)) ρ=.ok (.int (m:Int),om,ρ):=λ j ρ e=>zxu (zxg e) (by rw [<- hm];rfl)
 have t4:=t_ok (zfp (neg:=true) (el 0 R rfl) (el 1 R rfl))
 rw [decide_eq_true rfl] at t4
 have e5:=qcy (n:=2) (en:=zxa) (fa:=zqa (zqd zxd (zqa (bVar 1) (aNil))) (aNil)) (ρ:=R) (ρ1:=R) (as:=[(.int (m:Int),om)]) (lo:=0) (hi:=(m:Int)) (p:=λ _=>false)
  (test:=bT (bUn zqw (zqi (al n) (zqa (bBin zqc (bVar 0) (bVar 2)) (zqa (bBin zqc (bVar 1) (bVar 2)) (aNil)))))) (zxg (el 1 R rfl)) (zwf (by omega) (by omega)) rfl (λ k hk=>by
   obtain ⟨x,d,e,f⟩:=h k (by omega)
   exact t_ok (zvm (zqr (xs:=[(x,d),(x,d)]) (zxf (f 0 _ rfl rfl) (zxg (f 1 _ rfl rfl))) e))) (by omega)
 rw [show ∀ l:List Nat,l.filter (λ _=>false)=[] from λ l=>by simp,jg0] at e5
 have e6:=qmt (neg:=false) (ys:=[]) (d:=om) (e:=om) (h:=zqd zxx (aNil)) e5 rfl
 rw [decide_eq_true rfl] at e6
 exact zzj rfl (ρ':=R) (zps ((if_t t1).trans ((zqe (if_f t3)).trans ((zqe (if_f t4)).trans (zwu e6)))))
theorem qmx (n:Nat) (r:List Int) (hl:r.length<=1000):al (n + 2) [il r,il r]=.ok (.bl true,om,.non):=
 qgd (m:=r.length) (ja6 _) hl λ k hk=>⟨.int (r.getD k 0),om,qlx n _,λ j ρ e1 e2=>zzx (xs:=r) e1 e2 (zxt (by omega) (by rw [show (0 + (k:Int)).toNat=k by omega];exact zxm hk))⟩
theorem qmw (n:Nat) (t:List (List Int)) (hl:t.length<=1000) (hr:∀ r∈t,r.length<=1000):al (n + 3) [tb t,tb t]=.ok (.bl true,om,.non):=
 qgd (m:=t.length) (ja6 _) hl λ k hk=>⟨il t[k],0,qmx n _ (hr _ (je7 hk)),λ j ρ e1 e2=>zml (t:=t) e1 e2 (zxt (by omega) (by rw [show (0 + (k:Int)).toNat=k by omega];exact jb1 hk))⟩
theorem e181:qdh=al 1:=by unfold qdh;rw [qe9];rfl
theorem e182:qdg=al 2:=by unfold qdg;rw [qe8,e181];rfl
theorem e183:qdf=al 3:=by unfold qdf;rw [qe7,e182];rfl
theorem e184:F18=al 4:=by show qfd=_;unfold qfd;rw [qe6,e183];rfl
theorem qlw {t:List (List Int)} (hl:t.length<=1000) (hr:∀ r∈t,r.length<=1000):F18 [tb t,tb t]=.ok (.bl true,om,.non):=by rw [e184];exact qmw 1 t hl hr
theorem zhg {neg:Bool}{f g:Fx}{ρ ρ1 ρ2:Rho}{x:Str}{d e:Nat} (h1:f ρ=.ok (.str x,d,ρ1)) (h2:g ρ1=.ok (.str x,e,ρ2)):bBin (opEq neg) f g ρ=.ok (.bl (neg^^true),om,ρ2):=by
 refine zwm h1 h2 ?_
 unfold opEq
 rw [show toD 20 (.str x)=if PyData.strOk x=true then some (.str x) else none from rfl]
 by_cases hx:PyData.strOk x=true
 ·rw [if_pos hx]
  dsimp only
  rw [vc9,beq_self_eq_true]
 ·rw [if_neg hx]
  dsimp only
  rw [beq_self_eq_true]
def P0:Fs:=sSet false 2 (zqi F15 (zqa (zqi F14 (zqa (bVar 0) (zqa (bVar 1) (aNil)))) (zqa (bC (.int 44)) (aNil)))) [0,1]
def P1:Fs:=sSet false 3 (zqi F16 (zqa (bSl (bVar 2) (some (bC (.int 38))) (some (bC (.int 42)))) (aNil))) [2]
def P2:Fs:=sIf (bT (bBin (opEq false) (bBin zql (bBin zqc (bVar 2) (bC (.int 42))) (bC (.int 8))) (bC (.int 3)))) (sSet false 3 (zqd zvl (zqa (bBin zqc (bVar 3) (bC (.int 0))) (zqa (bBin zqc (bVar 3) (bC (.int 1))) (zqa (bBin zqh (bC (.int 1)) (bBin zql (bBin zqh (bBin zqc (bVar 2) (bC (.int 43))) (bBin zwk (bC (.int 64)) (bBin zqc (bVar 2) (bC (.int 42))))) (bC (.int 99)))) (aNil))))) [3,3,2,2]) sNil
def P3:Fs:=sSet false 4 (zqi F17 (zqa (bVar 3) (zqa (bVar 2) (aNil)))) [3,2]
def P4:Fs:=sSet false 5 (zqi F19 (zqa (bVar 4) (aNil))) [4]
def P5:Fs:=sSet false 6 (zqy (bVar 4) 1 (asgN 10) zxn (zqd zkl (zqa (bVar 10) (aNil)))) [4,4]
def P6:Fs:=sSet false 7 (zqi F12 (zqa (bVar 3) (zqa (bVar 6) (aNil)))) [3,6]
def P7:Fs:=sIf (bT (bOrV (bUn zqw (bUn (zqn "str") (bVar 7))) (bOrV (bBin (opEq true) (bVar 7) (bVar 5)) (bBin (opEq true) (bVar 6) (bVar 4))))) (sRet (bC (.bl false))) sNil
def P8:Fs:=sSet false 8 (zqi F13 (zqa (bVar 3) (zqa (bVar 5) (aNil)))) [3,5]
def P9:Fs:=sIf (bT (bUn zqw (zqi F18 (zqa (bVar 8) (zqa (bVar 4) (aNil)))))) (sRet (bC (.bl false))) sNil
def P10:Fs:=zzt zxa (zqa (bBin zqc (bVar 3) (bC (.int 0))) (aNil)) (asgN 9) (zpv 8 (bVar 9) (bVar 9))
def P11:Fs:=sIf (bT (bBin (opEq true) (bVar 8) (zxi zxa (zqa (bBin zqc (bVar 3) (bC (.int 0))) (aNil)) 1 (asgN 10) zxn (bBin zqh (bBin zqc (bVar 4) (bVar 10)) (zqd zxx (zqa (bVar 10) (aNil))))))) (sRet (bC (.bl false))) sNil
def P12:Fs:=sApp 8 (zqd zxx (aNil)) []
def P13:Fs:=sIf (bT (bOrV (bUn zqw (zqi F18 (zqa (zqi F13 (zqa (bVar 3) (zqa (bVar 5) (aNil)))) (zqa (bVar 4) (aNil))))) (bBin (opEq true) (zqi F12 (zqa (bVar 3) (zqa (bVar 6) (aNil)))) (bVar 5)))) (sRet (bC (.bl false))) sNil
def LK:Fs:=sSeq P0 (sSeq P1 (sSeq P2 (sSeq P3 (sSeq P4 (sSeq P5 (sSeq P6 (sSeq P7 (sSeq P8 (sSeq P9 (sSeq P10 (sSeq P11 (sSeq P12 P13))))))))))))
theorem qip:b20=sSeq (zzt zxa (zqa (zqd zja (zqa (bC (.int 1)) (zqa (zqd zkd (zqa (zqd zxd (zqa (bVar 0) (aNil))) (zqa (bC (.int 20)) (aNil)))) (aNil)))) (aNil)) (asgN 1) LK) (sRet (bC (.bl true))):=rfl
theorem qig {d:Nat}{vs:List Nat}{ρ:Rho}:zxb d vs ρ=ρ\/zxb d vs ρ=cool vs 0 ρ:=by
 unfold zxb
 split
 ·exact .inl rfl
 ·exact .inr rfl
def U (t:List (List Int)) (k:Nat):List (List Int):=(jc6 t.length).map λ i=>if i < k then t.getD i []++[(i:Int)] else t.getD i []
theorem qly (t:List (List Int)):U t 0=t:=by
 refine jj7 λ i=>?_
 unfold U
 rw [jc2]
 by_cases h:i < t.length
 ·rw [ji7 h,jb1 h]
  show some (t.getD i [])=_
  rw [ja3,jb1 h]
  rfl
 ·rw [jd9 (by rw [jh6];omega),jd9 (by omega)]
  rfl
theorem qfb (t:List (List Int)) (k:Nat):(U t k).length=t.length:=by unfold U;rw [ja6,jh6]
theorem qiy {t:List (List Int)}{i k:Nat} (h:i < t.length):(U t k)[i]?=some (if i < k then t.getD i []++[(i:Int)] else t.getD i []):=by
 unfold U
 rw [jc2,ji7 h]
 rfl
theorem qlz {t:List (List Int)}{k:Nat} (h:k < t.length):(U t k).set k (t.getD k []++[(k:Int)])=U t (k + 1):=by
 refine jj7 λ i=>?_
 by_cases hi:i < t.length
 ·rw [List.getElem?_set,qiy hi,qiy hi]
  by_cases e:k=i
  ·rw [if_pos e,if_pos (by rw [qfb];exact h),e,if_pos (by omega)]
  ·rw [if_neg e]
   by_cases q:i < k
   ·rw [if_pos q,if_pos (by omega)]
   ·rw [if_neg q,if_neg (by omega)]
 ·rw [jd9 (by rw [je0,qfb];omega),jd9 (by rw [qfb];omega)]
theorem qmy (t:List (List Int)):U t t.length=(jc6 t.length).map λ k=>t.getD k []++[(k:Int)]:=by
 unfold U
 exact List.map_congr_left λ i hi=>if_pos (jd0.mp hi)
theorem qlq {n i:Nat}{t:List (List Int)}{ρ:Rho}{d:Nat} (hf:bVar i ρ=.ok (tb t,d,ρ)) (hn:ρ.length=n) (hl:t.length<=1000):zqy (bVar i) 1 (asgN n) zxn (zqd zkl (zqa (bVar n) (aNil))) ρ=.ok (tb t,om,ρ):=qif hf hn hl
theorem qm0 {ns:List Int}{k:Nat}{s2 s3 s4 s5 s6 s7 s8 s9:QQ.Slot}:∃ t2 t3 t4 t5 t6 t7 t8 t9,LK [some (.scr ns,om),some (.int (k:Int),om),s2,s3,s4,s5,s6,s7,s8,s9]=.nx [some (.scr ns,om),some (.int (k:Int),om),t2,t3,t4,t5,t6,t7,t8,t9]:=by
 have z:=sz
 let S (s2 s3 s4 s5 s6 s7 s8 s9:QQ.Slot):Rho:=[some (.scr ns,om),some (.int (k:Int),om),s2,s3,s4,s5,s6,s7,s8,s9]
 obtain ⟨xs,hx,e1⟩:=qih (ns.getD k 0) 44 (by omega)
 have v0:P0 (S s2 s3 s4 s5 s6 s7 s8 s9)=.nx (S (some (il xs,om)) s3 s4 s5 s6 s7 s8 s9):=setF (zqr (zxf (zqr (xs:=[(.scr ns,om),(.int (k:Int),om)]) rfl (qik ns k)) (zxg (x:=.int 44) (d:=om) rfl)) e1) (show 2 < 10 by decide) rfl
 let ys:List Int:=(xs.drop 38).take 4
 have hy:ys.length=4:=by show ((xs.drop 38).take 4).length=4;rw [jd1,jh8,hx];decide
 obtain ⟨a,b,c0,ha,hb,hc0,e2⟩:=qil ys hy
 let R1:Rho:=S (some (il xs,om)) s3 s4 s5 s6 s7 s8 s9
 have sl:bSl (bVar 2) (some (bC (.int 38))) (some (bC (.int 42))) R1=.ok (il ys,om,R1):=by
  show Rz.ok (PV.lst (cutP (xs.map PV.int) (some ((38:Nat):Int)) (some ((42:Nat):Int))),d1 (cutP (xs.map PV.int) (some ((38:Nat):Int)) (some ((42:Nat):Int))),R1)=_
  have e:cutP (xs.map PV.int) (some ((38:Nat):Int)) (some ((42:Nat):Int))=ys.map PV.int:=by
   unfold cutP
   rw [HT.sIx_nat,HT.sIx_nat,ja6,hx,<- List.map_drop,<- jo3]
   rfl
  rw [e,zhl]
  rfl
 have v1:P1 R1=.nx (S (some (il xs,om)) (some (bx a b c0,om)) s4 s5 s6 s7 s8 s9):=setF (zqr (zxg sl) e2) (show 3 < 10 by decide) rfl
 have ix:∀ (n:Nat) (ρ:Rho),n < 44->bVar 2 ρ=.ok (il xs,0,ρ)->bBin zqc (bVar 2) (bC (.int (n:Int))) ρ=.ok (.int (xs.getD n 0),om,ρ):=λ n ρ hn h=>zzx (xs:=xs) (k:=(n:Int)) h rfl (zxt (by omega) (zxm (by rw [je2];omega)))
 have v2:∃ c:Nat,(1<=c/\c<=99)/\P2 (S (some (il xs,om)) (some (bx a b c0,om)) s4 s5 s6 s7 s8 s9)=.nx (S (some (il xs,om)) (some (bx a b c,om)) s4 s5 s6 s7 s8 s9):=by
  let R2:Rho:=S (some (il xs,om)) (some (bx a b c0,om)) s4 s5 s6 s7 s8 s9
  have tt:=t_ok (zfp (neg:=false) (zwd (ix 42 R2 (by decide) rfl) (g:=bC (.int 8)) (j:=8) (e:=om) rfl (by decide)) (g:=bC (.int 3)) (j:=3) (e:=om) rfl)
  rw [jl5] at tt
  cases hd:decide (xs.getD 42 0 % 8=3) with
  | true=>
   rw [hd] at tt
   obtain ⟨c,ec,hc⟩:=zbq (xs.getD 43 0 + 64 * xs.getD 42 0) 99 (by decide)
   have q:=zzo (f:=bC (.int 1)) (i:=1) (d:=om) (ρ:=R2) rfl (zwd (zzo (ix 43 R2 (by decide) rfl) (zjn (f:=bC (.int 64)) (i:=64) (d:=om) rfl (ix 42 R2 (by decide) rfl) (.inl (by decide)))) (g:=bC (.int 99)) (j:=99) (e:=om) rfl (by decide))
   rw [show (1:Int) + (xs.getD 43 0 + 64 * xs.getD 42 0) % 99=(c:Int) from ec] at q
   exact ⟨c,hc,(if_t tt).trans (setF (zxu (zxf (x:=.int (a:Int)) (d:=om) rfl (zxf (x:=.int (b:Int)) (d:=om) rfl (zxg q))) (z:=bx a b c) (c:=om) rfl) (show 3 < 10 by decide) rfl)⟩
  | false=>rw [hd] at tt;exact ⟨c0,by omega,(if_f tt).trans rfl⟩
 obtain ⟨c,hc,v2⟩:=v2
 obtain ⟨t,d0,p,hd0,e3⟩:=qev xs (by omega) ha hb hc
 have sp:Sp a b c t:=⟨p,ha,hb,hc⟩
 have v3:∃ d2 d3,P3 (S (some (il xs,om)) (some (bx a b c,om)) s4 s5 s6 s7 s8 s9)=.nx (S (some (il xs,d2)) (some (bx a b c,d3)) (some (tb t,d0)) s5 s6 s7 s8 s9):=by
  let R2:Rho:=S (some (il xs,om)) (some (bx a b c,om)) s4 s5 s6 s7 s8 s9
  have q:zqi F17 (zqa (bVar 3) (zqa (bVar 2) (aNil))) R2=.ok (tb t,d0,R2):=zqr (xs:=[(bx a b c,0),(il xs,0)]) rfl e3
  rcases qig (d:=d0) (vs:=[3,2]) (ρ:=R2) with cl | cl
  ·exact ⟨om,om,setF q (show 4 < 10 by decide) (by rw [cl];rfl)⟩
  ·exact ⟨0,0,setF q (show 4 < 10 by decide) (by rw [cl];rfl)⟩
 obtain ⟨d2,d3,v3⟩:=v3
 have l:=p.tab.1
 have lr:∀ r∈t,r.length<=1000:=λ r hr=>by have:=(sp.sm r hr).2;omega
 let T (s5 s6 s7 s8 s9:QQ.Slot):Rho:=S (some (il xs,d2)) (some (bx a b c,d3)) (some (tb t,d0)) s5 s6 s7 s8 s9
 let D:QQ.Slot:=some (.str (zkc t),om)
 let H:QQ.Slot:=some (tb t,om)
 have v4:P4 (T s5 s6 s7 s8 s9)=.nx (T D s6 s7 s8 s9):=setF (zqr (xs:=[(tb t,0)]) rfl (qgf sp)) (show 5 < 10 by decide) rfl
 have v5:P5 (T D s6 s7 s8 s9)=.nx (T D H s7 s8 s9):=setF (qlq (n:=10) (i:=4) (d:=0) (ρ:=T D s6 s7 s8 s9) rfl rfl (by omega)) (show 6 < 10 by decide) rfl
 have sh:∀ ρ,bVar 3 ρ=.ok (bx a b c,0,ρ)->bVar 6 ρ=.ok (tb t,0,ρ)->zqi F12 (zqa (bVar 3) (zqa (bVar 6) (aNil))) ρ=.ok (.str (zkc t),om,ρ):=λ ρ h1 h2=>zqr (zxf h1 (zxg h2)) (show_pile sp)
 have rd:∀ ρ,bVar 3 ρ=.ok (bx a b c,0,ρ)->bVar 5 ρ=.ok (.str (zkc t),om,ρ)->zqi F13 (zqa (bVar 3) (zqa (bVar 5) (aNil))) ρ=.ok (tb t,om,ρ):=λ ρ h1 h2=>zqr (zxf h1 (zxg h2)) (read_pile sp)
 have v6:P6 (T D H s7 s8 s9)=.nx (T D H D s8 s9):=setF (sh _ rfl rfl) (show 7 < 10 by decide) rfl
 let R6:Rho:=T D H D s8 s9
 have w1:bUn zqw (bUn (zqn "str") (bVar 7)) R6=.ok (.bl false,om,R6):=by rfl
 have w2:=zhg (neg:=true) (f:=bVar 7) (g:=bVar 5) (ρ:=R6) (ρ1:=R6) (ρ2:=R6) (x:=zkc t) (d:=om) (e:=om) rfl rfl
 have w3:=qlg (neg:=true) (f:=bVar 6) (h:=bVar 4) (ρ:=R6) (ρ1:=R6) (ρ2:=R6) (t:=t) (u:=t) (d:=0) (e:=0) rfl rfl
 rw [decide_eq_true rfl] at w3
 have v7:P7 R6=.nx R6:=if_f (t_ok ((orF w1).trans ((orF w2).trans w3)))
 have v8:P8 R6=.nx (T D H D H s9):=setF (rd _ rfl rfl) (show 8 < 10 by decide) rfl
 have v9:P9 (T D H D H s9)=.nx (T D H D H s9):=if_f (t_ok (zvm (zqr (xs:=[(tb t,0),(tb t,0)]) rfl (qlw (by omega) lr))))
 have e8:T D H D H s9=T D H D (some (tb (U t 0),om)) s9:=by rw [qly]
 obtain ⟨ρ',e10,s9',rfl⟩:=zvp (i:=9) (body:=zpv 8 (bVar 9) (bVar 9)) (en:=zxa) (fa:=zqa (bBin zqc (bVar 3) (bC (.int 0))) (aNil)) (ρ:=T D H D H s9) (ρ1:=T D H D H s9) (as:=[(.int (a:Int),om)]) (lo:=0) (hi:=(a:Int))
  (λ j ρ=>∃ s9,ρ=T D H D (some (tb (U t j),om)) s9) rfl (zwf (by omega) (by omega)) ⟨s9,e8⟩ (by
   rintro j ρ hj ⟨s9,rfl⟩
   have hj':j < t.length:=by omega
   rw [jg8]
   refine ⟨show 9 < 10 by decide,_,qiv (i:=8) (x:=tb (U t j)) (k:=(j:Int)) (y:=.int (j:Int)) (d1:=om) (d2:=om) rfl rfl rfl (qiu (qiy hj') (by rw [if_neg (by omega)];exact lr _ (zyg hj'))) rfl rfl,some (.int (j:Int),om),?_⟩
   rw [if_neg (by omega),qlz hj']
   rfl)
 have v10:P10 (T D H D H s9)=.nx (T D H D (some (tb (U t a),om)) s9'):=by
  have q:=e10
  rw [show ((a:Int) - 0).toNat=a by omega] at q
  exact q
 let R10:Rho:=T D H D (some (tb (U t a),om)) s9'
 have e11:=zkz (n:=10) (en:=zxa) (fa:=zqa (bBin zqc (bVar 3) (bC (.int 0))) (aNil)) (ρ:=R10) (ρ1:=R10) (as:=[(.int (a:Int),om)]) (lo:=0) (hi:=(a:Int)) (q:=λ k=>il (t.getD k []++[(k:Int)]))
  (elt:=bBin zqh (bBin zqc (bVar 4) (bVar 10)) (zqd zxx (zqa (bVar 10) (aNil)))) rfl (zwf (by omega) (by omega)) rfl (λ j hj=>by
   rw [jg8]
   have hj':j < t.length:=by omega
   have lj:=lr _ (zyg hj')
   have g1:=zml (t:=t) (k:=(j:Int)) (r:=t.getD j []) (f:=bVar 4) (g:=bVar 10) (ρ:=R10++[some (.int (j:Int),om)]) (d:=0) (e:=om) rfl rfl (zxt (by omega) (by rw [je2,ja3,jb1 hj'];rfl))
   have g2:=qix (xs:=(t.getD j []).map PV.int) (ys:=[.int (j:Int)]) g1 (h:=zqd zxx (zqa (bVar 10) (aNil))) (e:=om) rfl (by rw [ja6];show _ + 1<=_;omega)
   rw [show (t.getD j []).map PV.int++[PV.int (j:Int)]=(t.getD j []++[(j:Int)]).map PV.int by rw [jl1];rfl,zhl] at g2
   exact g2) (by omega)
 rw [show ((a:Int) - 0).toNat=a by omega] at e11
 have e12:=qlg (neg:=true) (f:=bVar 8) (ρ:=R10) (t:=U t a) (u:=(jc6 a).map λ k=>t.getD k []++[(k:Int)]) (d:=0) (e:=om) (h:=zxi zxa (zqa (bBin zqc (bVar 3) (bC (.int 0))) (aNil)) 1 (asgN 10) zxn (bBin zqh (bBin zqc (bVar 4) (bVar 10)) (zqd zxx (zqa (bVar 10) (aNil))))) rfl (by rw [e11];unfold tb;rw [jd8];rfl)
 rw [decide_eq_true (by rw [<- l];exact qmy t)] at e12
 have v11:P11 R10=.nx R10:=if_f (t_ok e12)
 have v12:P12 R10=.nx (T D H D (some (.lst ((U t a).map il++[.lst []]),om)) s9'):=zhu (xs:=(U t a).map il) (xs0:=(U t a).map il) (y:=.lst []) (e:=om) (d:=om) (d0:=999) rfl rfl rfl (by decide) (by rw [ja6,qfb];omega) rfl
 let R12:Rho:=T D H D (some (.lst ((U t a).map il++[.lst []]),om)) s9'
 have w4:=zvm (zqr (F:=F18) (zxf (rd R12 rfl rfl) (zxg (f:=bVar 4) (x:=tb t) (d:=0) rfl)) (qlw (by omega) lr))
 have w5:=zhg (neg:=true) (g:=bVar 5) (d:=om) (e:=om) (sh R12 rfl rfl) rfl
 have v13:P13 R12=.nx R12:=if_f (t_ok ((orF w4).trans w5))
 exact ⟨_,_,_,_,_,_,_,_,(zqe v0).trans ((zqe v1).trans ((zqe v2).trans ((zqe v3).trans ((zqe v4).trans ((zqe v5).trans ((zqe v6).trans ((zqe v7).trans ((zqe v8).trans ((zqe v9).trans ((zqe v10).trans ((zqe v11).trans ((zqe v12).trans v13))))))))))))⟩
theorem law_true:∀ ns:List Int,ns.length<=63->∃ d z,F20 [.scr ns]=.ok (.bl true,d,z):=by
 intro ns hns
 let R (s1 s2 s3 s4 s5 s6 s7 s8 s9:QQ.Slot):Rho:=[some (.scr ns,om),s1,s2,s3,s4,s5,s6,s7,s8,s9]
 have hF:F20=mkFn false 1 9 b20:=rfl
 rw [hF,qip]
 let R0:Rho:=R none none none none none none none none none
 let N:Int:=ns.length
 have hm:∃ m:Nat,m<=20/\(zqa (zqd zja (zqa (bC (.int 1)) (zqa (zqd zkd (zqa (zqd zxd (zqa (bVar 0) (aNil))) (zqa (bC (.int 20)) (aNil)))) (aNil)))) (aNil)) R0=.ok ([(.int (m:Int),om)],R0):=by
  refine ⟨(if (if (20:Int) < N then 20 else N) > 1 then (if (20:Int) < N then 20 else N) else 1).toNat,?_,?_⟩
  ·split <;> split <;> omega
  ·have e:((((if (if (20:Int) < N then 20 else N) > 1 then (if (20:Int) < N then 20 else N) else 1).toNat:Nat)):Int)=(if (if (20:Int) < N then 20 else N) > 1 then (if (20:Int) < N then 20 else N) else 1):=by
    split <;> split <;> omega
   rw [e]
   rfl
 obtain ⟨m,hm15,em⟩:=hm
 obtain ⟨ρ1,l1,r1,r2,r3,r4,r5,r6,r7,r8,r9,rfl⟩:=zvp (i:=1) (body:=LK) (en:=zxa) (ρ:=R0) (lo:=0) (hi:=(m:Int)) (λ _ ρ=>∃ s1 s2 s3 s4 s5 s6 s7 s8 s9,ρ=R s1 s2 s3 s4 s5 s6 s7 s8 s9) em (zwf (by omega) (by omega)) ⟨_,_,_,_,_,_,_,_,_,rfl⟩ (by
  rintro k ρ hk ⟨s1,s2,s3,s4,s5,s6,s7,s8,s9,rfl⟩
  obtain ⟨t2,t3,t4,t5,t6,t7,t8,t9,e⟩:=qm0 (ns:=ns) (k:=k) (s2:=s2) (s3:=s3) (s4:=s4) (s5:=s5) (s6:=s6) (s7:=s7) (s8:=s8) (s9:=s9)
  refine ⟨show 1 < 10 by decide,_,?_,some (.int (k:Int),om),t2,t3,t4,t5,t6,t7,t8,t9,rfl⟩
  rw [jg8]
  exact e)
 exact ⟨_,_,zzj rfl ((zqe l1).trans rfl)⟩
open PySem PySem.Spec PyProof.Rows L2 QQ
section
variable {P:va8}{w:vb6}{K:Frag}{mg:Str->Option va0}
theorem c0:FnScope S0.N ["thing"] (zqb t0):={}
theorem c1:FnScope S1.N ["thing"] (zqb t1):={}
theorem c2:FnScope S2.N ["box"] (zqb t2):={}
theorem c3:FnScope S3.N ["thing","columns","height"] (zqb t3):={}
theorem c4:FnScope S4.N ["numbers"] (zqb t4):={}
theorem c5:FnScope S5.N ["table","j"] (zqb t5):={}
theorem c6:FnScope S6.N ["box","thing"] (zqb t6):={}
theorem c7:FnScope S7.N ["box","pile"] (zqb t7):={}
theorem c8:FnScope S8.N ["text","most_figures"] (zqb t8):={}
theorem c9:FnScope S9.N ["numbers","parting"] (zqb t9):={}
theorem c10:FnScope S10.N ["text","parting"] (zqb t10):={}
theorem c11:FnScope S11.N ["thing"] (zqb t11):={}
theorem c12:FnScope S12.N ["box","pile"] (zqb t12):={}
theorem c13:FnScope S13.N ["box","text"] (zqb t13):={}
theorem c14:FnScope S14.N ["script","k"] (zqb t14):={}
theorem c15:FnScope S15.N ["cell","many"] (zqb t15):={}
theorem c16:FnScope S16.N ["xs"] (zqb t16):={}
theorem c17:FnScope S17.N ["box","xs"] (zqb t17):={}
theorem c18:FnScope S18.N ["found","due"] (zqb t18):={}
theorem c19:FnScope S19.N ["pile"] (zqb t19):={}
theorem c20:FnScope S20.N ["script"] (zqb t20):={}
theorem all_ok {fa:Addr} (G:Given dfs [0,1,2,9,50,51] K mg) (hm:mg "law" = some (.ref fa)):
  ∃ fd:vc3,(∀ (s:va1) (u:va0),BindsTo s fd ⟨[u],[]⟩ [("script",u)])/\∀ base:Heap,FnOk P w K mg base (CXr P w K) 7 fa fd ["script"] (spF K false 1 F20):=by
 have hb:=G.bn
 have gx:=G.gx
 obtain ⟨a0,d0,m0,f0⟩:=G.df 0 _ _ rfl
 obtain ⟨a1,d1,m1,f1⟩:=G.df 1 _ _ rfl
 obtain ⟨a2,d2,m2,f2⟩:=G.df 2 _ _ rfl
 obtain ⟨a3,d3,m3,f3⟩:=G.df 3 _ _ rfl
 obtain ⟨a4,d4,m4,f4⟩:=G.df 4 _ _ rfl
 obtain ⟨a5,d5,m5,f5⟩:=G.df 5 _ _ rfl
 obtain ⟨a6,d6,m6,f6⟩:=G.df 6 _ _ rfl
 obtain ⟨a7,d7,m7,f7⟩:=G.df 7 _ _ rfl
 obtain ⟨a8,d8,m8,f8⟩:=G.df 8 _ _ rfl
 obtain ⟨a9,d9,m9,f9⟩:=G.df 9 _ _ rfl
 obtain ⟨a10,d10,m10,f10⟩:=G.df 10 _ _ rfl
 obtain ⟨a11,d11,m11,f11⟩:=G.df 11 _ _ rfl
 obtain ⟨a12,d12,m12,f12⟩:=G.df 12 _ _ rfl
 obtain ⟨a13,d13,m13,f13⟩:=G.df 13 _ _ rfl
 obtain ⟨a14,d14,m14,f14⟩:=G.df 14 _ _ rfl
 obtain ⟨a15,d15,m15,f15⟩:=G.df 15 _ _ rfl
 obtain ⟨a16,d16,m16,f16⟩:=G.df 16 _ _ rfl
 obtain ⟨a17,d17,m17,f17⟩:=G.df 17 _ _ rfl
 obtain ⟨a18,d18,m18,f18⟩:=G.df 18 _ _ rfl
 obtain ⟨a19,d19,m19,f19⟩:=G.df 19 _ _ rfl
 obtain ⟨a20,d20,m20,f20⟩:=G.df 20 _ _ rfl
 cases hm.symm.trans m20
 have B0:=f0.binds (ps:=["thing"]) λ _ _ _ _ _ _ us hl=>by obtain ⟨_,rfl⟩:=len1 hl;rfl
 have B1:=f1.binds (ps:=["thing"]) λ _ _ _ _ _ _ us hl=>by obtain ⟨_,rfl⟩:=len1 hl;rfl
 have B2:=f2.binds (ps:=["box"]) λ _ _ _ _ _ _ us hl=>by obtain ⟨_,rfl⟩:=len1 hl;rfl
 have B3:=f3.binds (ps:=["thing","columns","height"]) λ _ _ _ _ _ _ us hl=>by obtain ⟨_,_,_,rfl⟩:=len3 hl;rfl
 have B4:=f4.binds (ps:=["numbers"]) λ _ _ _ _ _ _ us hl=>by obtain ⟨_,rfl⟩:=len1 hl;rfl
 have B5:=f5.binds (ps:=["table","j"]) λ _ _ _ _ _ _ us hl=>by obtain ⟨_,_,rfl⟩:=len2 hl;rfl
 have B6:=f6.binds (ps:=["box","thing"]) λ _ _ _ _ _ _ us hl=>by obtain ⟨_,_,rfl⟩:=len2 hl;rfl
 have B7:=f7.binds (ps:=["box","pile"]) λ _ _ _ _ _ _ us hl=>by obtain ⟨_,_,rfl⟩:=len2 hl;rfl
 have B8:=f8.binds (ps:=["text","most_figures"]) λ _ _ _ _ _ _ us hl=>by obtain ⟨_,_,rfl⟩:=len2 hl;rfl
 have B9:=f9.binds (ps:=["numbers","parting"]) λ _ _ _ _ _ _ us hl=>by obtain ⟨_,_,rfl⟩:=len2 hl;rfl
 have B10:=f10.binds (ps:=["text","parting"]) λ _ _ _ _ _ _ us hl=>by obtain ⟨_,_,rfl⟩:=len2 hl;rfl
 have B11:=f11.binds (ps:=["thing"]) λ _ _ _ _ _ _ us hl=>by obtain ⟨_,rfl⟩:=len1 hl;rfl
 have B12:=f12.binds (ps:=["box","pile"]) λ _ _ _ _ _ _ us hl=>by obtain ⟨_,_,rfl⟩:=len2 hl;rfl
 have B13:=f13.binds (ps:=["box","text"]) λ _ _ _ _ _ _ us hl=>by obtain ⟨_,_,rfl⟩:=len2 hl;rfl
 have B14:=f14.binds (ps:=["script","k"]) λ _ _ _ _ _ _ us hl=>by obtain ⟨_,_,rfl⟩:=len2 hl;rfl
 have B15:=f15.binds (ps:=["cell","many"]) λ _ _ _ _ _ _ us hl=>by obtain ⟨_,_,rfl⟩:=len2 hl;rfl
 have B16:=f16.binds (ps:=["xs"]) λ _ _ _ _ _ _ us hl=>by obtain ⟨_,rfl⟩:=len1 hl;rfl
 have B17:=f17.binds (ps:=["box","xs"]) λ _ _ _ _ _ _ us hl=>by obtain ⟨_,_,rfl⟩:=len2 hl;rfl
 have B18:=f18.binds (ps:=["found","due"]) λ _ _ _ _ _ _ us hl=>by obtain ⟨_,_,rfl⟩:=len2 hl;rfl
 have B19:=f19.binds (ps:=["pile"]) λ _ _ _ _ _ _ us hl=>by obtain ⟨_,rfl⟩:=len1 hl;rfl
 refine ⟨d20,?_,λ base=>?_⟩
 ·obtain ⟨_,_,_,_,_,_,_,_,_,rfl,_,_⟩:=f20.ex
  exact λ s v=>.of_eq rfl
 have o0:FnOk P w K mg base (CXr P w K) 1 a0 d0 ["thing"] (spF K false 1 F0):=fnb S0 f0 c0 gx (zxc hb) h0
 have o1:FnOk P w K mg base (CXr P w K) 2 a1 d1 ["thing"] (spF K false 1 F1):=fnb S1 f1 c1 gx (gcs (zxc hb) m0 f0 B0 o0) h1
 have o2:FnOk P w K mg base (CXr P w K) 3 a2 d2 ["box"] (spF K false 1 F2):=fnb S2 f2 c2 gx (gcs (zxc hb) m1 f1 B1 o1) h2
 have o3:FnOk P w K mg base (CXr P w K) 2 a3 d3 ["thing","columns","height"] (spF K false 3 F3):=fnb S3 f3 c3 gx (gcs (zxc hb) m0 f0 B0 o0) h3
 have o4:FnOk P w K mg base (CXr P w K) 1 a4 d4 ["numbers"] (spF K false 1 F4):=fnb S4 f4 c4 gx (zxc hb) h4
 have o5:FnOk P w K mg base (CXr P w K) 1 a5 d5 ["table","j"] (spF K false 2 F5):=fnb S5 f5 c5 gx (zxc hb) h5
 have o6:FnOk P w K mg base (CXr P w K) 4 a6 d6 ["box","thing"] (spF K false 2 F6):=fnb S6 f6 c6 gx (gcs (gcs (gcs (gcs (zxc hb) m5 f5 B5 o5) m4 f4 B4 o4) m3 f3 B3 o3) m2 f2 B2 o2) h6
 have o7:FnOk P w K mg base (CXr P w K) 5 a7 d7 ["box","pile"] (spF K false 2 F7):=fnb S7 f7 c7 gx (gcs (zxc hb) m6 f6 B6 o6) h7
 have o8:FnOk P w K mg base (CXr P w K) 1 a8 d8 ["text","most_figures"] (spF K false 2 F8):=fnb S8 f8 c8 gx (zxc hb) h8
 have o9:FnOk P w K mg base (CXr P w K) 1 a9 d9 ["numbers","parting"] (spF K false 2 F9):=fnb S9 f9 c9 gx (zxc hb) h9
 have o10:FnOk P w K mg base (CXr P w K) 2 a10 d10 ["text","parting"] (spF K false 2 F10):=fnb S10 f10 c10 gx (gcs (zxc hb) m8 f8 B8 o8) h10
 have o11:FnOk P w K mg base (CXr P w K) 1 a11 d11 ["thing"] (spF K false 1 F11):=fnb S11 f11 c11 gx (zxc hb) h11
 have o12:FnOk P w K mg base (CXr P w K) 6 a12 d12 ["box","pile"] (spF K false 2 F12):=fnb S12 f12 c12 gx (gcs (gcs (zxc hb) m9 f9 B9 o9) m7 f7 B7 o7) h12
 have o13:FnOk P w K mg base (CXr P w K) 5 a13 d13 ["box","text"] (spF K false 2 F13):=fnb S13 f13 c13 gx (gcs (gcs (gcs (gcs (zxc hb) m11 f11 B11 o11) m10 f10 B10 o10) m6 f6 B6 o6) m2 f2 B2 o2) h13
 have o14:FnOk P w K mg base (CXr P w K) 1 a14 d14 ["script","k"] (spF K false 2 F14):=fnb S14 f14 c14 gx (zxc hb) h14
 have o15:FnOk P w K mg base (CXr P w K) 1 a15 d15 ["cell","many"] (spF K false 2 F15):=fnb S15 f15 c15 gx (zxc hb) h15
 have o16:FnOk P w K mg base (CXr P w K) 1 a16 d16 ["xs"] (spF K false 1 F16):=fnb S16 f16 c16 gx (zxc hb) h16
 have o17:FnOk P w K mg base (CXr P w K) 1 a17 d17 ["box","xs"] (spF K false 2 F17):=fnb S17 f17 c17 gx (zxc hb) h17
 have o18r0:FnOk P w K mg base (CXr P w K) 0 a18 d18 ["found","due"] (spF K false 2 qi2):=qmr rfl
 have o18r1:FnOk P w K mg base (CXr P w K) 1 a18 d18 ["found","due"] (spF K false 2 qdh):=fnb qi1 f18 c18 gx (zxz (zxc hb) (by decide +kernel) (λ _ _=>rfl) m18 f18 B18 rfl o18r0) qmp
 have o18r2:FnOk P w K mg base (CXr P w K) 2 a18 d18 ["found","due"] (spF K false 2 qdg):=fnb qi0 f18 c18 gx (zxz (zxc hb) (by decide +kernel) zxl m18 f18 B18 rfl o18r1) qmo
 have o18r3:FnOk P w K mg base (CXr P w K) 3 a18 d18 ["found","due"] (spF K false 2 qdf):=fnb qiz f18 c18 gx (zxz (zxc hb) (by decide +kernel) zxl m18 f18 B18 rfl o18r2) qmn
 have o18r4:FnOk P w K mg base (CXr P w K) 4 a18 d18 ["found","due"] (spF K false 2 qfd):=fnb qfc f18 c18 gx (zxz (zxc hb) (by decide +kernel) zxl m18 f18 B18 rfl o18r3) qmm
 have o18:=o18r4
 have o19:FnOk P w K mg base (CXr P w K) 1 a19 d19 ["pile"] (spF K false 1 F19):=fnb S19 f19 c19 gx (zxc hb) h19
 exact fnb S20 f20 c20 gx (zxz (zxz (zxz (zxz (zxz (zxz (zxz (zxz (zxc hb) (by decide +kernel) zxl m19 f19 B19 rfl (o19.mono (by decide))) (by decide +kernel) zxl m18 f18 B18 rfl (o18.mono (by decide))) (by decide +kernel) zxl m17 f17 B17 rfl (o17.mono (by decide))) (by decide +kernel) zxl m16 f16 B16 rfl (o16.mono (by decide))) (by decide +kernel) zxl m15 f15 B15 rfl (o15.mono (by decide))) (by decide +kernel) zxl m14 f14 B14 rfl (o14.mono (by decide))) (by decide +kernel) zxl m13 f13 B13 rfl (o13.mono (by decide))) (by decide +kernel) zxl m12 f12 B12 rfl (o12.mono (by decide))) h20
end
end K54
open PySem PySem.W PyProof.Rows
set_option maxRecDepth 100000 in
set_option maxHeartbeats 0 in
theorem PySem.Challenge.cw_cornerpiles_k54_piles_written_and_read_holds : PySem.Challenge.rw_cornerpiles_k54_piles_written_and_read.Holds := by
 refine QQ.holds_by (l:=PySem.Challenge.rw_cornerpiles_k54_piles_written_and_read) (q:=K54.view) (loose:=K54.loose) (N:=20000) (k:=7) (n:=63) (ds:=K54.dfs) (xc:=[0,1,2,9,50,51]) (F:=K54.F20) (x := "script") ?said rfl rfl (λ _=>rfl) K54.run (by rfl) (by rfl) (by rfl) (by rfl) (by decide +kernel) ⟨rfl,rfl,rfl,rfl,rfl,by decide +kernel⟩ ?hw rfl (by decide) rfl ⟨rfl,by decide,by decide,rfl⟩ (λ _ _ _ _ G hm=>K54.all_ok G hm) (λ _ _ _ ns hl hO hS=>QQ.sp_yes hO hS (K54.law_true ns hl))
 case said=>decide +kernel
 case hw=>w_witness2
