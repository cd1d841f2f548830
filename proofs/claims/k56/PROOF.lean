import PyProof.Rows.All
import Wide.All
import OpenK.AllK
import Wide.FinOn
import Lean
import PyProof.EqAt
import PyProof.EqKinds
import PyProof.TupleCall
import PySem.Challenge.RW_cornerpiles_k56_boxes_written_and_read
open PySem renaming Value->va0,Shared->va1,sizeLine->va2,starEach->va3,wpAny_bind->va7,Program->va8,wpAny_pure->vb0,wpAny->vb2,model->vb3,compareOp->vb4,World->vb7,Around->vc0,mainGlobals->vc2,cellsFrom->vc3,wpAny_truthy_bool->vc4,FuncData->vc5,assignEach->vc6,NameKind->vc8,Scope->vd0,wpAny_mono->vd1,backTo->vd2,sysModules->vd4,binaryOp->vd5,mem_of_lookup->vd8,intItems->ve3,ExceptHandler->ve5,wpAny_newObj_type->ve6,wpAny_loadPart_at->ve7,intText?->ve8,bootBuiltins->vf0,cLine->vf1,behindInMarks->vf2,attributeBase->vf3,wpAny_passesOwn->vf4,sliceBounds->vf5,numAt->vf8,Keyword->vg1,typeIs_str->vg5,foldedSetIterable->vg6,PyData->vh1,wpAny_execs_nil->vh4,letOwnedTupleGo->vh5,call_meets->vh7,keywordEach->vi0,wpAny_holding->vi3,wpAny_Call_Name_kw->vi4,tupleKind_room_in1->vi5,relabel->vi8,codeAny->vi9,noFill_tuple_add->vk1,tupleKind->vk3,pushCells_keeps->vk4,intItems_at->vk5,importedModules->vk6,callerA->vk8,assign->vk9,PassesOwn->vl2,CmpOp->vl3,newFunctionEnv->vl6
open PySem.Heap renaming get?_push_of_some->va4,lt_size->va5,get?_push_size->vb1,size_push->vg2,SameBut->vj9,FlyingW->vk0
open PySem.W renaming Frag->va6,findIn->vb5,kia_one->vb6,kitOne->vb9,mroIn->vc7,boot_heap->vc9,keepIn->vd6,fnOf->vg0,looks_findIn->vh8,kitAny->vh9,hideAll_get->vi1,methodObj->vj0,kitx_none->vj1,boot_heap->vj2,instObj->vl0,lookIn->vl7,codeIn->vl8
open PySem.Txt renaming split->va9,slice->ve4,contains->vf9,slice_le->vj7
open PySem.Builtin.Str renaming occurrences->vb8,partsBetween->vg8,tooLong->vi2
open Ne renaming symm->vc1
open PySem.PyData renaming depthAll->vd3,eqv->vd9,depth->ve0,canLay0->ve9,strOk->vh6,canLayAll0->vj4
open PySem.Builtin.Slice renaming slicePlaces->vd7,sliceAdjust->vg3,sliceApplied->vl5
open False renaming elim->ve1
open PySem.Builtin.Tuple renaming tupleExact->ve2
open PySem.SeqAt.EqAt renaming same->vf6,of_refs->vi6
open PyProof.Rows renaming callWith_type1->vf7,AllBare->vg4,slot_tuple_getitem->vj3,envOfC->vk7
open PySem.F renaming args_tuple_add_2->vg7,entry_tuple_add->vh0,slot_tuple_add->vh2,plainAttrs_str->vh3,args_str_split_2->vi7,entry_str_split->vj6,slot_str_split->vk2
open PySem.Builtin.List renaming listTooLong->vg9
open PySem.Obj renaming mapSeq->vj5
open PySem.SeqAt renaming RcNeAt->vj8
open Prod.mk renaming inj->vl1
open PySem.Calls renaming Name_function_global->vl4
open List renaming mem_cons_of_mem->ja0,mem_append_right->ja1,mem_cons_self->ja2,mem_append_left->ja4,replicate->ja6,getElem?_eq_some_iff->ja8,mem_cons->ja9,getElem?_set_ne->jb0,mem_singleton->jb1,size_toArray->jb2,mem_append->jb3,length_map->jb5,all_eq_true->jb6,getElem?_append_left->jb7,length_append->jb8,map_cons->jb9,length_cons->jc0,getElem?_set_self->jc2,getElem?_append_right->jc5,getElem?_eq_getElem->jc6,lookup_cons->jc7,replicate_succ->jd0,getElem?_replicate->jd1,getElem?_map->jd2,getD_eq_getElem?_getD->jd3,range->jd4,mem_range->jd5,findIdx?_eq_some_iff_getElem->jd6,length_take->jd7,length_replicate->je0,length_set->je1,getElem?_take_of_lt->je2,getElem_mem->je3,all_cons->je4,flatten_cons->je7,set_cons_zero->je8,set_cons_succ->je9,map_nil->jf5,find?_cons->jf6,mem_map->jf8,map_map->jf9,getElem?_eq_none_iff->jg0,filterMap_cons->jg1,getElem_of_mem->jg2,mem_filterMap->jg4,append_nil->jg6,nil_append->jg7,getElem?_cons_succ->jg8,append_assoc->jh0,reverse_cons->jh3,eq_nil_iff_forall_not_mem->jh6,not_mem_nil->jh8,mem_filter->ji0,nodup_cons->ji1,take_succ_cons->ji2,range'->ji3,filter_eq_self->ji4,findIdx?_cons->ji6,drop_eq_getElem_cons->ji7,any_cons->jj0,length_drop->jj4,drop_eq_nil_of_le->jj5,of_mem_zip->jj6,foldl_cons->jj7,length_singleton->jj8,set_nil->jk1,getElem?_eq_none->jk2,mem_of_getElem?->jk3,take_zero->jk6,replicate_zero->jk7,mem_map_of_mem->jk8,take_nil->jl2,mem_range'_1->jl3,all_nil->jl5,all_map->jl6,flatten_nil->jl9,cons_append->jm1,range'_succ->jm2,forIn_cons->jm3,foldl->jm5,drop_nil->jm6,getD->jn2,sum_nil->jn3,map_id'->jn5
open Bool renaming and_eq_true->ja3,false_ne_true->jc1,or_eq_true->jc8,false_and->jc9,and_false->je5,false_xor->jf3,eq_iff_iff->jg5,not_eq_true'->jh1,and_true->jh9,true_xor->jj2,and_eq_true_iff->jk4,or_eq_false_iff->jk5,false_or->jl1,true_and->jm7,true_or->jn1,or_true->jn4
open Option renaming map_eq_some_iff->ja5,map_some->jg9,isSome_iff_exists->ji8,isSome_map->ji9,isSome_some->jl0,getD_none->jl7
open Nat renaming lt_of_lt_of_le->ja7,le_refl->jb4,ne_of_lt->jc3,le_trans->jc4,le_of_succ_le->jd8,lt_irrefl->jd9,lt_of_succ_lt_succ->jf4,zero_le->jf7,ne_of_gt->jg3,lt_succ_of_lt->jh2,lt_succ_self->jh7,min_le_right->jj3,lt_trans->jj9,zero_add->jk0,le_of_lt->jl4,succ_ne_zero->jl8,succ_le_succ->jm0,min_le_left->jm4,succ_mul->jm9,mul_comm->jn0
open Int renaming toNat_natCast->je6,emod_lt_of_pos->jf0,emod_nonneg->jf1,toNat_of_nonneg->jk9,le_refl->jn6
open Array renaming length_toList->jf2,getElem?_toList->jh4,eq_empty_of_size_eq_zero->jh5,append_assoc->ji5,toList_eq_nil_iff->jj1,toList->jm8
set_option Elab.async false
set_option linter.all false
set_option maxRecDepth 100000
set_option autoImplicit false
set_option maxHeartbeats 2000000
namespace L2
open PySem PySem.Spec PyProof.Rows
abbrev Key:=Sum Int Str
inductive V where
 | non | bl (b:Bool) | int (i:Int) | str (x:Str) | byt (b:Array UInt8) | flt (b:UInt64) | ref (a:Addr) | ty (n:String)
 deriving DecidableEq
def zyp (s:Stmt):Arguments:=match s with
 | .FunctionDef _ a _ _ _ _ _ _ _ _=>a
 | _=>{ posonlyargs:=[],args:=[],vararg:=none,kwonlyargs:=[],kw_defaults:=[],kwarg:=none,defaults:=[] }
def zqj (s:Stmt):List Stmt:=match s with
 | .FunctionDef _ _ b _ _ _ _ _ _ _=>b
 | _=>[]
def zqc (s:Stmt):vd0:=match s with
 | .FunctionDef _ _ _ _ _ _ sc _ _ _=>sc
 | _=>{ kind:=.function,names:=[],isGenerator:=false,isCoroutine:=false }
end L2
namespace QQ
open PySem PySem.Spec PySem.W PySem.Calls PyProof.Rows L2
abbrev Frag:=va6
inductive PV where
 | non | bl (b:Bool) | int (i:Int) | str (x:Str) | lst (xs:List PV) | tup (xs:List PV) | emp | dko | scr (ns:List Int) | dct (kvs:List (List Key×V)) | exn (c:Nat)
 deriving Inhabited
def XN:List Str:=["PileError","NoBox","NoPile","NoStairs","NoWays","NoRoad","NoNumber","NoPlace","TooMany","NoText","NoName","NoRow"]
def zxu (K:Frag) (c:Nat):Option Addr:=match XN[c]? with
 | some x=>(match PySem.W.nsIn K vc2 x with
  | some (some (.ref C))=>some C
  | _=>none)
 | none=>none
def bmV:List va0:=[.type "ValueError",.type "Exception",.type "BaseException",.type "object"]
def mroX (K:Frag) (C:Addr):List va0:=match K.lookup C with
 | some ⟨_,_,.cls cd,_⟩=>cd.mro
 | _=>[]
def isX (c d:Nat):Bool:=c == d || d == 0
def xTab (K:Frag):Bool:=(jd4 12).all λ c=>match zxu K c with
 | some C=>PySem.W.excIn K C bmV "ValueError.__new__" && (jd4 12).all λ d=>(match zxu K d with
  | some D=>(mroX K C).contains (.ref D) == isX c d
  | none=>true)
 | none=>true
def CN:List (Str×PV):=[("FIGURES",.str "0123456789"),("MOST_FIGURES",.int 2),("SIGNS_OF_HEIGHTS",.str ".123456789abcdefghijklmnopqrstuvwxyz"),("MOST_PILES",.int 3000)]
def cVb:PV->va0->Bool
 | .str z,.str z' _=>z == z'
 | .int i,.int j _=>i == j
 | _,_=>false
def zkh (K:Frag) (C:Addr):Bool:=(PySem.W.clsIn K C).isSome && vc7 K C (.type "object") == some true && vc7 K C (.type "BaseException") == some true && vb5 K (.ref C) "__class__" == some (some (.builtin "object.__class__")) &&
 vb5 K (.ref C) "__getattribute__" == some (some (.builtin "BaseException.__getattribute__")) && vb5 K (.ref C) "__getattr__" == some none
def xKit (K:Frag):Bool:=vb9 K (.type "NoneType") (.type "ValueError") == some false && (jd4 12).all λ c=>match zxu K c with
 | some C=>zkh K C && vb9 K (.type "NoneType") (.ref C) == some false && vb9 K (.ref C) (.type "ValueError") == some true && (jd4 12).all λ d=>(match zxu K d with
  | some D=>vb9 K (.ref C) (.ref D) == some (isX c d)
  | none=>true)
 | none=>true
def zwj:List Str:=["len","isinstance","all","max","min","tuple","list","range","int","bool","str","dict","sum","enumerate","zip","reversed","set","ValueError","sorted","abs"]
def zkd (tb:String->Option Builtin) (p:va8) (w:vb7) (n₀:Nat) (ann:Option va0):Nat->SharedT->Thread->Option SharedT
 | 0,_,_=>none
 | n + 1,s,t=>match through t with
  | true=>some s
  | false=>match stepOk n₀ ann t with
   | false=>none
   | true=>match stepT (denote tb) p w s t with
    | some (s',t')=>zkd tb p w n₀ ann n s' t'
    | none=>none
def ofL:List Obj->Nat->BT->BT
 | [],_,t=>t
 | o::r,n,t=>ofL r (n + 1) (t.ins n o)
noncomputable def bootT (P:Params):BT:=ofL (vc9 P).objs.toList 0 .nil
noncomputable def bootS (P:Params) (os:OsState):SharedT:=⟨bootT P,(vc9 P).objs.size,(vc9 P).life,#[],boot_drawn,boot_toks,os⟩
def zgb {α:Type} (p q:va8) (loose:List Str) (Xt:va1->Bool) (Yf:va1->α) (H:Heap) (s:va1):=
 ((staticsOk (vk6 p.main.body) H s.heap && namesBound p s.heap && gensDone s && laidKept H s.heap),openSeen q loose (vk6 p.main.body) Xt true s,Yf s)
def kof (h:Heap):Frag:=(jd4 h.objs.size).filterMap λ a=>(h.get? a).map λ o=>(a,o)
structure DefSeen where
 name:Str
 qual:Str
 params:Arguments
 body:FuncBody
 scope:vd0
 globals:Addr
 closure:List (Str×Addr)
 defaults:va0
 builtins:Addr
 code:Bool
def zgf (K:Frag) (x:Str):Option DefSeen:=match nsIn K vc2 x with
 | some (some (.ref g))=>(match K.lookup g with
  | some ⟨_,_,.func fd,_⟩=>some ⟨fd.name,fd.qualname,fd.params,fd.body,fd.scope,fd.globals,fd.closure,fd.defaults,fd.builtins,codeIn K fd.code x⟩
  | _=>none)
 | _=>none
def qdc (x:Str) (st:Stmt):DefSeen:=⟨x,x,zyp st,.stmts (zqj st),zqc st,mainNs,[],.none,0,true⟩
def zyj (ds:List (Str×Stmt)) (xc:List Nat) (K:Frag):List (Option DefSeen)×List (Option (Option va0))×Bool:=
 (ds.map λ d=>zgf K d.1,zwj.map λ x=>nsIn K vc2 x,xc.isEmpty || (xTab K && xKit K && xc.all λ c=>if c < 50 then ((zxu K c).isSome && match XN[c]? with
  | some x=>!(x == ("__debug__" : Str))
  | none=>false) else (match CN[c - 50]? with
  | some (x,v)=>!(x == ("__debug__" : Str)) && (match nsIn K vc2 x with
   | some (some u)=>cVb v u
   | _=>false)
  | none=>false)))
def zmk (ds:List (Str×Stmt)):List (Option DefSeen)×List (Option (Option va0))×Bool:=(ds.map λ d=>some (qdc d.1 d.2),zwj.map λ _=>some none,true)
end QQ
namespace K56
open PySem PySem.Spec PyProof.Rows L2 QQ
def top (i:Nat):Stmt:=PySem.Challenge.pw_cornerpiles_k56_boxes_written_and_read.main.body.getD i (.Pass ⟨0,0,0,0⟩)
abbrev t0:Stmt:=top 5
abbrev t1:Stmt:=top 6
abbrev t2:Stmt:=top 7
abbrev t3:Stmt:=top 11
abbrev t4:Stmt:=top 12
abbrev t5:Stmt:=top 13
abbrev t6:Stmt:=top 14
abbrev t7:Stmt:=top 15
abbrev t8:Stmt:=top 16
abbrev t9:Stmt:=top 18
abbrev t10:Stmt:=top 19
abbrev t11:Stmt:=top 20
abbrev t12:Stmt:=top 21
abbrev t13:Stmt:=top 22
abbrev t14:Stmt:=top 23
abbrev t15:Stmt:=top 24
abbrev t16:Stmt:=top 25
abbrev t17:Stmt:=top 26
def dfs:List (Str×Stmt):=[(("is_whole_number" : Str),t0),(("is_box" : Str),t1),(("must_be_box" : Str),t2),(("is_written_number" : Str),t3),(("show_numbers" : Str),t4),(("read_numbers" : Str),t5),(("must_be_text" : Str),t6),(("show_box" : Str),t7),(("read_box" : Str),t8),(("_law_cell_at" : Str),t9),(("_law_numbers" : Str),t10),(("_law_alike" : Str),t11),(("_law_number" : Str),t12),(("_law_changed" : Str),t13),(("_law_no_box" : Str),t14),(("_law_due" : Str),t15),(("_law_asked" : Str),t16),(("law" : Str),t17)]
def view:va8:={ PySem.Challenge.pw_cornerpiles_k56_boxes_written_and_read with main:={ PySem.Challenge.pw_cornerpiles_k56_boxes_written_and_read.main with body:=[t17] } }
def loose:List Str:=(PySem.Challenge.pw_cornerpiles_k56_boxes_written_and_read.main.scope.names.map λ x=>x.1).filter λ x=>!(x == ("law" : Str))
theorem run:∀ (w:PySem.World) (os:PySem.OsState),(zkd PySem.treeTable PySem.Challenge.rw_cornerpiles_k56_boxes_written_and_read.prog w (vj2 w.params).objs.size ((vj2 w.params).nsMap vc2 "__annotations__") 20000 (bootS w.params os) (PySem.W.topStub PySem.Challenge.rw_cornerpiles_k56_boxes_written_and_read.prog)).map (λ s=>zgb PySem.Challenge.rw_cornerpiles_k56_boxes_written_and_read.prog view loose (λ s=>PySem.W.xlAt view [] s && PySem.W.recOk (PySem.W.RowW.records PySem.Challenge.rw_cornerpiles_k56_boxes_written_and_read.row.toRowW) s) (λ s=>zyj dfs [0,1,9,50,51] (kof s.heap)) (vj2 w.params) s.abs)=some (true,PySem.W.openGood view loose,zmk dfs):=λ w os=>by kernel_rfl
end K56
namespace L2
open PySem PySem.Spec PyProof.Rows
def qar:Key->va0->Bool
 | .inl k,v=>Value.isInt k v
 | .inr x,v=>Value.isStrOf x v
def keyH (w:vb7):Key->Int
 | .inl k=>hashInt k
 | .inr x=>hashStr w x
theorem zxd:∀ {k:Key}{v:va0},qar k v=true->(∃ i t,k=Sum.inl i/\v=Value.int i t)\/(∃ x t,k=Sum.inr x/\v=Value.str x t)
 | .inl i,v,h=>by
  obtain ⟨t,e⟩:=Value.isInt_shape (k:=i) (v:=v) h
  exact .inl ⟨i,t,rfl,e⟩
 | .inr x,v,h=>by
  obtain ⟨t,e⟩:=Value.isStrOf_shape (x:=x) (v:=v) h
  exact .inr ⟨x,t,rfl,e⟩
theorem qcu (i:Int) (t:Tok):qar (.inl i) (.int i t)=true:=by simp [qar,Value.isInt]
theorem qct (x:Str) (t:Tok):qar (.inr x) (.str x t)=true:=by simp [qar,Value.isStrOf]
theorem qlw (a b:Int):decide ((Sum.inl a:Key)=Sum.inl b)=(a == b):=by
 by_cases e:a=b
 ·subst e;simp
 ·have h:¬ (Sum.inl a:Key)=Sum.inl b:=λ q=>e (Sum.inl.inj q)
  rw [decide_eq_false h]
  exact (beq_eq_false_iff_ne.mpr e).symm
theorem qlt (a b:Str):decide ((Sum.inr a:Key)=Sum.inr b)=decide (a=b):=by
 by_cases e:a=b
 ·subst e;simp
 ·have h:¬ (Sum.inr a:Key)=Sum.inr b:=λ q=>e (Sum.inr.inj q)
  rw [decide_eq_false h,decide_eq_false e]
theorem qlv (a:Int) (b:Str):decide ((Sum.inl a:Key)=Sum.inr b)=false:=decide_eq_false (λ q=>nomatch q)
theorem qlu (a:Str) (b:Int):decide ((Sum.inr a:Key)=Sum.inl b)=false:=decide_eq_false (λ q=>nomatch q)
def zxh (prog:va8) (w:vb7):PySem.KeyKind prog w Key where
 is:=qar
 hash:=keyH w
 inj:=λ v a b ha hb=>by
  rcases zxd ha with ⟨i,t,rfl,rfl⟩ | ⟨x,t,rfl,rfl⟩
  ·rcases zxd hb with ⟨j,u,rfl,e⟩ | ⟨y,u,rfl,e⟩
   ·injection e with e1 _;rw [e1]
   ·exact nomatch e
  ·rcases zxd hb with ⟨j,u,rfl,e⟩ | ⟨y,u,rfl,e⟩
   ·exact nomatch e
   ·injection e with e1 _;rw [e1]
 byValue:=λ k v h=>by
  rcases zxd h with ⟨i,t,rfl,rfl⟩ | ⟨x,t,rfl,rfl⟩ <;> rfl
 pyHash:=λ hv h=>by
  rcases zxd hv with ⟨i,t,rfl,rfl⟩ | ⟨x,t,rfl,rfl⟩
  ·exact wpAny_pyHash_int h
  ·exact wpAny_pyHash_str h
 eqBool:=λ hu hv h=>by
  rcases zxd hu with ⟨i,t,rfl,rfl⟩ | ⟨x,t,rfl,rfl⟩
  ·rcases zxd hv with ⟨j,u,rfl,rfl⟩ | ⟨y,u,rfl,rfl⟩
   ·rw [qlw] at h;exact wpAny_eqBool_int h
   ·rw [qlv] at h;exact SeqAt.EqAt.int_str i t y u _ _ _ _ h
  ·rcases zxd hv with ⟨j,u,rfl,rfl⟩ | ⟨y,u,rfl,rfl⟩
   ·rw [qlu] at h;exact SeqAt.EqAt.str_int x t j u _ _ _ _ h
   ·rw [qlt] at h;exact wpAny_eqBool_str h
 «strs»:=λ k x t v h=>by
  rcases zxd h with ⟨i,u,rfl,e⟩ | ⟨y,u,rfl,e⟩
  ·exact nomatch e
  ·injection e with e1 _
   subst e1
   cases v <;> rfl
theorem zfx (prog:va8) (w:vb7) (i:Int) (t:Tok):(zxh prog w).is (.inl i) (.int i t)=true:=qcu i t
theorem zfw (prog:va8) (w:vb7) (x:Str) (t:Tok):(zxh prog w).is (.inr x) (.str x t)=true:=qct x t
def RelV:V->va0->Prop
 | .non,u=>u=Value.none
 | .bl b,u=>u=Value.bool b
 | .int i,u=>∃ t,u=Value.int i t
 | .str x,u=>∃ t,u=Value.str x t
 | .byt b,u=>∃ t,u=Value.bytes b t
 | .flt b,u=>∃ t,u=Value.float b t
 | .ref a,u=>u=Value.ref a
 | .ty n,u=>u=Value.type n
abbrev Vals:List V->List va0->Prop:=Paired RelV
theorem Vals.length {xs:List V}{us:List va0} (r:Vals xs us):xs.length=us.length:=Paired.length r
theorem Vals.get:∀ {xs:List V}{us:List va0}{i:Nat}{x:V},Vals xs us->xs[i]?=some x->∃ u,us[i]?=some u/\RelV x u
 | _,_,_,_,.nil,e=>by simp at e
 | _,_,0,_,.cons r _,e=>by simp at e;subst e;exact ⟨_,rfl,r⟩
 | _,_,i + 1,x,.cons _ t,e=>by
  obtain ⟨u,h1,h2⟩:=Vals.get (i:=i) (x:=x) t (by simpa using e)
  exact ⟨u,by simpa using h1,h2⟩
theorem Vals.set {x:V}{u:va0} (r:RelV x u):∀ {xs:List V}{us:List va0} (i:Nat),Vals xs us->Vals (xs.set i x) (us.set i u)
 | _,_,_,.nil=>.nil
 | _,_,0,.cons _ t=>.cons r t
 | _,_,i + 1,.cons q t=>.cons q (Vals.set r i t)
theorem Vals.append:∀ {xs ys:List V}{us ws:List va0},Vals xs us->Vals ys ws->Vals (xs++ys) (us++ws)
 | _,_,_,_,.nil,s=>s
 | _,_,_,_,.cons r t,s=>.cons r (Vals.append t s)
theorem Vals.take:∀ {xs:List V}{us:List va0} (n:Nat),Vals xs us->Vals (xs.take n) (us.take n)
 | _,_,0,_=>.nil
 | _,_,_ + 1,.nil=>.nil
 | _,_,n + 1,.cons r t=>.cons r (Vals.take n t)
theorem Vals.drop:∀ {xs:List V}{us:List va0} (n:Nat),Vals xs us->Vals (xs.drop n) (us.drop n)
 | _,_,0,r=>r
 | _,_,_ + 1,.nil=>.nil
 | _,_,n + 1,.cons _ t=>Vals.drop n t
def RelO:Option V->Option va0->Prop
 | some v,some u=>RelV v u
 | none,none=>True
 | _,_=>False
def KV {κ:Type}:List (κ×V)->List (κ×va0)->Prop:=Paired λ (p:κ×V) (q:κ×va0)=>p.1=q.1/\RelV p.2 q.2
def kV:Key->V
 | .inl i=>.int i
 | .inr x=>.str x
inductive HO where
 | lst (xs:List V)
 | tup (xs:List V)
 | dK (kvs:List (Key×V)) | dT (kvs:List (List Key×V))
 | set (S:Int->Bool) (n:Nat)
 | ins (C dx:Addr) (fs:List (Str×V))
 | own (x:Addr)
 | xd (fs:List (Str×V))
 | met (f x:Addr)
 | rng (lo hi:Int)
 | frz (o:Obj) (u:HO)
 | tbl (ps:Array va0)
 | ext (φ:Heap->Prop)
abbrev Hp:=Addr->Option HO
def upd (H:Hp) (a:Addr) (o:HO):Hp:=λ b=>if b=a then some o else H b
theorem zqh {H:Hp}{a:Addr}{o:HO}:upd H a o a=some o:=by unfold upd;rw [if_pos rfl]
theorem zqf {H:Hp}{a b:Addr}{o:HO} (h:b≠a):upd H a o b=H b:=by unfold upd;rw [if_neg h]
theorem qm6 {H:Hp}{a b:Addr}{o u:HO} (h:H a=some o) (h':H b=some u) (d:o≠u):a≠b:=by
 intro e;subst e;rw [h] at h';exact d (Option.some.inj h')
theorem zwo {H:Hp}{a b:Addr}{o:HO} (h:H a=some o) (h':H b=none):a≠b:=by
 intro e;subst e;rw [h] at h';cases h'
section
variable (P:va8) (w:vb7)
def zxv (H:Hp) (h:Heap) (a:Addr):HO->Prop
 | .lst xs=>xs.length<=va2/\∃ (its:List va0) (n:Nat),Vals xs its/\h.get? a=some { cls:=.type "list",data:=.seq its.toArray n }
 | .tup xs=>xs.length<=va2/\∃ its:List va0,Vals xs its/\IsTup h a its.toArray
 | .dK kvs=>kvs.length<=va2/\(a == vd4)=false/\∃ vs,KV kvs vs/\h.DictOf (zxh P w) a vs
 | .dT kvs=>kvs.length<=va2/\(a == vd4)=false/\∃ xs:List (List Key×Addr×va0),
   Paired (λ (p:List Key×V) (q:List Key×Addr×va0)=>p.1=q.1/\H q.2.1=some (.tup (p.1.map kV))/\RelV p.2 q.2.2) kvs xs /\
   ∃ o es ep,h.get? a=some o/\o.ExactDict/\o.data=.dict es ep/\es.toList=xs.map (entryOfKey (vk3 (zxh P w)))/\(xs.map (·.1)).Nodup
 | .set S n=>h.SetOf (intKind P w) a S n
 | .ins C dx fs=>H dx=some (.own a)/\fs.length<=1000/\dx≠a/\h.get? a=some (vl0 C dx) /\
   ∃ mA,h.Ns1 dx mA/\(∀ f,RelO (fs.lookup f) (mA f))/\PySem.Within mA (fs.map (·.1))
 | .own _=>∃ o,h.get? a=some o
 | .xd fs=>∃ mA,h.Ns1 a mA/\∀ f,RelO (fs.lookup f) (mA f)
 | .rng lo hi=>∃ t u v,h.get? a=some { cls:=.type "range",data:=.fields #[.int lo t,.int hi u,.int 1 v] }
 | .frz o u=>h.get? a=some o/\zxv H h a u
 | .tbl ps=>h.get? a=some { cls:=.none,data:=.fields ps }
 | .met f x=>h.get? a=some (vj0 (.ref f) (.ref x))
 | .ext φ=>φ h/\(∃ o,h.get? a=some o)/\∀ h1 h2:Heap,φ h1->(∀ o,h1.get? a=some o->h2.get? a=some o)->φ h2
def HOk (H:Hp) (h:Heap):Prop:=∀ a o,H a=some o->zxv P w H h a o
end
section
variable {P:va8}{w:vb7}{H H':Hp}{h h':Heap}{a:Addr}{o:HO}
theorem zxv.lt (x:zxv P w H h a o):a < h.objs.size:=by
 cases o with
 | lst xs=>obtain ⟨_,_,_,_,e⟩:=x;exact va5 e
 | tup xs=>obtain ⟨_,_,_,p⟩:=x;exact p.lt
 | dK kvs=>obtain ⟨_,_,_,_,o,_,_,e,_⟩:=x;exact va5 e
 | dT kvs=>obtain ⟨_,_,_,_,o,_,_,e,_⟩:=x;exact va5 e
 | set S n=>obtain ⟨o,_,_,_,e,_⟩:=x;exact va5 e
 | ins C dx fs=>obtain ⟨_,_,_,e,_⟩:=x;exact va5 e
 | own y=>obtain ⟨_,e⟩:=x;exact va5 e
 | xd fs=>obtain ⟨_,⟨_,_,_,e,_⟩,_⟩:=x;exact va5 e
 | rng lo hi=>obtain ⟨_,_,_,e⟩:=x;exact va5 e
 | frz ob u=>obtain ⟨e,_⟩:=x;exact va5 e
 | tbl ps=>exact va5 (show h.get? a=some _ from x)
 | met f y=>exact va5 (show h.get? a=some _ from x)
 | ext φ=>obtain ⟨_,⟨_,e⟩,_⟩:=x;exact va5 e
theorem Paired.mapP {α β:Type}{F G:α->β->Prop}:∀ {l₁:List α}{l₂:List β},Paired F l₁ l₂->(∀ a b,F a b->G a b)->Paired G l₁ l₂
 | _,_,.nil,_=>.nil
 | _,_,.cons r t,f=>.cons (f _ _ r) (Paired.mapP t f)
theorem zxv.stay (x:zxv P w H h a o) (k:∀ b u,(b=a\/H b=some (.own a))->h.get? b=some u->h'.get? b=some u)
  (ho:∀ b,H b=some (.own a)->H' b=some (.own a)) (ht:∀ b xs,H b=some (.tup xs)->H' b=some (.tup xs)):zxv P w H' h' a o:=by
 induction o with
 | lst xs=>obtain ⟨z,its,n,r,e⟩:=x;exact ⟨z,its,n,r,k _ _ (.inl rfl) e⟩
 | tup xs=>obtain ⟨z,its,r,ob,e,c⟩:=x;exact ⟨z,its,r,ob,k _ _ (.inl rfl) e,c⟩
 | dK kvs=>obtain ⟨z,y,vs,r,ob,es,ep,e,c⟩:=x;exact ⟨z,y,vs,r,ob,es,ep,k _ _ (.inl rfl) e,c⟩
 | dT kvs=>
  obtain ⟨z,y,xs,r,ob,es,ep,e,c⟩:=x
  exact ⟨z,y,xs,Paired.mapP r λ p q z=>⟨z.1,ht _ _ z.2.1,z.2.2⟩,ob,es,ep,k _ _ (.inl rfl) e,c⟩
 | set S n=>obtain ⟨ob,es,ep,t,e,c⟩:=x;exact ⟨ob,es,ep,t,k _ _ (.inl rfl) e,c⟩
 | ins C dx fs=>
  obtain ⟨d,z,ne,e,mA,⟨od,es,ep,e2,c⟩,r⟩:=x
  exact ⟨ho _ d,z,ne,k _ _ (.inl rfl) e,mA,⟨od,es,ep,k _ _ (.inr d) e2,c⟩,r⟩
 | own y=>obtain ⟨ob,e⟩:=x;exact ⟨ob,k _ _ (.inl rfl) e⟩
 | xd fs=>obtain ⟨mA,⟨od,es,ep,e,c⟩,r⟩:=x;exact ⟨mA,⟨od,es,ep,k _ _ (.inl rfl) e,c⟩,r⟩
 | rng lo hi=>obtain ⟨t,u,v,e⟩:=x;exact ⟨t,u,v,k _ _ (.inl rfl) e⟩
 | frz ob u ih=>obtain ⟨e,q⟩:=x;exact ⟨k _ _ (.inl rfl) e,ih q⟩
 | tbl ps=>
  have e:h.get? a=some { cls:=.none,data:=.fields ps }:=x
  show h'.get? a=some { cls:=.none,data:=.fields ps }
  exact k a _ (.inl rfl) e
 | met f y=>
  have e:h.get? a=some (vj0 (.ref f) (.ref y)):=x
  show h'.get? a=some (vj0 (.ref f) (.ref y))
  exact k a _ (.inl rfl) e
 | ext φ=>obtain ⟨p,⟨o,e⟩,st⟩:=x;exact ⟨st _ _ p λ o q=>k _ _ (.inl rfl) q,⟨o,k _ _ (.inl rfl) e⟩,st⟩
theorem HOk.lt (x:HOk P w H h) (e:H a=some o):a < h.objs.size:=(x a o e).lt
theorem HOk.fresh (x:HOk P w H h) (e:h.objs.size<=a):H a=none:=by
 cases q:H a with
 | none=>rfl
 | some u=>exact absurd (ja7 (x.lt q) e) (jd9 _)
theorem HOk.kept (x:HOk P w H h) (k:∀ b u,h.get? b=some u->h'.get? b=some u):HOk P w H h':=λ a o e=>
 (x a o e).stay (λ b u _ q=>k b u q) (λ _ q=>q) λ _ _ q=>q
theorem HOk.laid (x:HOk P w H h) (k:∀ b u,h.get? b=some u->h'.get? b=some u) (hp:h.objs.size<=a) (new:zxv P w (upd H a o) h' a o):HOk P w (upd H a o) h':=λ b u e=>by
 have hn:=x.fresh hp
 by_cases hb:b=a
 ·subst hb;rw [zqh] at e;cases e;exact new
 ·rw [zqf hb] at e
  exact (x b u e).stay (λ c v _ q=>k c v q) (λ c q=>by rw [zqf (zwo q hn)];exact q) λ c xs q=>by rw [zqf (zwo q hn)];exact q
end
def Rd (H:Hp) (a:Addr) (u:HO):Prop:=H a=some u\/∃ o,H a=some (.frz o u)
theorem Rd.ok {P:va8}{w:vb7}{H:Hp}{h:Heap}{a:Addr}{u:HO} (r:Rd H a u) (x:HOk P w H h):zxv P w H h a u:=by
 rcases r with r | ⟨o,r⟩
 ·exact x a u r
 ·obtain ⟨_,q⟩:=x a _ r
  exact q
def Mut:Option HO->Prop
 | some (.lst _)=>True
 | some (.dK _)=>True
 | some (.dT _)=>True
 | some (.set _ _)=>True
 | some (.ins _ _ _)=>True
 | some (.ext _)=>True
 | _=>False
section
variable {P:va8}{w:vb7}{H:Hp}{h h':Heap}{x e:Addr}{o':HO}
theorem HOk.write (ok:HOk P w H h) (mu:Mut (H x)) (he:e=x\/H e=some (.own x)) (k:∀ b u,b≠e->h.get? b=some u->h'.get? b=some u) (heo:∃ u,h'.get? e=some u)
  (new:zxv P w (upd H x o') h' x o'):HOk P w (upd H x o') h':=λ b u q=>by
 have nown:∀ c y,H c=some (.own y)->c≠x:=λ c y r z=>by subst z;rw [r] at mu;exact mu
 have ntup:∀ c xs,H c=some (.tup xs)->c≠x:=λ c xs r z=>by subst z;rw [r] at mu;exact mu
 by_cases hb:b=x
 ·subst hb;rw [zqh] at q;cases q;exact new
 ·rw [zqf hb] at q
  by_cases hbe:b=e
  ·have q':H b=some (.own x):=by
    rcases he with z | z
    ·exact absurd (hbe.trans z) hb
    ·rw [hbe];exact z
   rw [q] at q';cases q'
   obtain ⟨v,hv⟩:=heo
   exact ⟨v,by rw [hbe];exact hv⟩
  ·refine (ok b u q).stay (λ c v hc r=>k c v ?_ r) (λ c r=>by rw [zqf (nown c b r)];exact r) λ c xs r=>by rw [zqf (ntup c xs r)];exact r
   rcases hc with rfl | hc
   ·exact hbe
   ·rintro rfl
    rcases he with z | z
    ·exact nown c b hc z
    ·rw [hc] at z;cases z;exact hb rfl
end
structure Un (fs ex:List Addr) (H H':Hp) (h h':Heap):Prop where
 keep:∀ b o,h.get? b=some o->H b=none->b∉fs->b∉ex->h'.get? b=some o
 slot:∀ b o,h.get? b=some o->H b=none->b∈fs->b∉ex->∃ sl,h'.get? b=some { o with slots:=sl }
 free:∀ b o,h.get? b=some o->H b=none->b∉ex->H' b=none
 there:∀ b o,h.get? b=some o->b∉ex->∃ o',h'.get? b=some o'
 tups:∀ b xs,H b=some (.tup xs)->H' b=some (.tup xs)
 frzs:∀ b o u,H b=some (.frz o u)->H' b=some (.frz o u)
 tbls:∀ b ps,H b=some (.tbl ps)->∃ more,H' b=some (.tbl (ps++more))
section
variable {fs fs' ex ex':List Addr}{H H1 H2:Hp}{h h1 h2 h':Heap}{a x e:Addr}{o:HO}
theorem Un.any (u:Un fs ex H H1 h h1) {b:Addr}{ob:Obj} (q:h.get? b=some ob) (n:H b=none) (hx:b∉ex):∃ sl,h1.get? b=some { ob with slots:=sl }:=by
 by_cases hb:b∈fs
 ·exact u.slot b ob q n hb hx
 ·exact ⟨ob.slots,u.keep b ob q n hb hx⟩
theorem Un.kept (k:∀ b u,h.get? b=some u->h'.get? b=some u):Un fs ex H H h h':=
 ⟨λ b ob q _ _ _=>k b ob q,λ b ob q _ _ _=>⟨ob.slots,k b ob q⟩,λ _ _ _ n _=>n,λ b ob q _=>⟨ob,k b ob q⟩,λ _ _ q=>q,λ _ _ _ q=>q,λ _ ps q=>⟨#[],by rw [q];simp⟩⟩
theorem Un.refl:Un fs ex H H h h:=Un.kept λ _ _ q=>q
theorem Un.laid (k:∀ b u,h.get? b=some u->h'.get? b=some u) (hp:h.objs.size<=a) (hn:H a=none):Un fs ex H (upd H a o) h h' where
 keep:=λ b u q _ _ _=>k b u q
 slot:=λ b u q _ _ _=>⟨u.slots,k b u q⟩
 free:=λ b u q n _=>by rw [zqf (jc3 (ja7 (va5 q) hp))];exact n
 there:=λ b u q _=>⟨u,k b u q⟩
 tups:=λ b xs q=>by rw [zqf (zwo q hn)];exact q
 frzs:=λ b u xs q=>by rw [zqf (zwo q hn)];exact q
 tbls:=λ b ps q=>⟨#[],by rw [zqf (zwo q hn),q];simp⟩
theorem Un.write (mu:Mut (H x)) (he:e=x\/H e=some (.own x)) (k:∀ b u,b≠e->h.get? b=some u->h'.get? b=some u) (heo:∃ u,h'.get? e=some u):Un fs ex H (upd H x o) h h':=by
 have hx:∀ b,H b=none->b≠x:=λ b n z=>by subst z;rw [n] at mu;exact mu
 have hb:∀ b,H b=none->b≠e:=λ b n z=>by
  subst z
  rcases he with r | r
  ·exact hx b n r
  ·rw [n] at r;cases r
 have hm:∀ b u,H b=some u->¬ Mut (some u)->b≠x:=λ b u q nm z=>by subst z;rw [q] at mu;exact nm mu
 refine ⟨λ b u q n _ _=>k b u (hb b n) q,λ b u q n _ _=>⟨u.slots,k b u (hb b n) q⟩,λ b u q n _=>by rw [zqf (hx b n)];exact n,λ b u q _=>?_,
  λ b xs q=>by rw [zqf (hm b _ q λ z=>z)];exact q,λ b u xs q=>by rw [zqf (hm b _ q λ z=>z)];exact q,λ b ps q=>⟨#[],by rw [zqf (hm b _ q λ z=>z),q];simp⟩⟩
 by_cases hbe:b=e
 ·subst hbe;exact heo
 ·exact ⟨u,k b u hbe q⟩
end
def trk (h:Heap) (H:Hp):List Addr:=(jd4 h.objs.size).filter λ a=>(H a).isSome
def hidT (h:Heap) (H:Hp):Heap:=PySem.W.hideAll h (trk h H)
theorem qc3 (h:Heap) (H:Hp):(hidT h H).objs.size=h.objs.size:=PySem.W.hideAll_size _ _
theorem qex {h:Heap}{H:Hp}{b:Addr}{o:Obj} (e:h.get? b=some o) (n:H b=none):(hidT h H).get? b=some o:=
 vi1 _ e λ hm=>by
  have q:(H b).isSome=true:=(ji0.mp hm).2
  rw [n] at q;simp at q
theorem qie {h:Heap}{H:Hp}{b:Addr}{o:Obj} (e:(hidT h H).get? b=some o):h.get? b=some o/\H b=none:=by
 have e':h.get? b=some o:=PySem.W.of_hideAll (trk h H) e
 refine ⟨e',?_⟩
 cases q:H b with
 | none=>rfl
 | some x=>
  have hm:b∈trk h H:=ji0.mpr ⟨jd5.mpr (va5 e'),by simp [q]⟩
  have z:(hidT h H).get? b=none:=PySem.W.hideAll_none (trk h H) hm
  rw [z] at e;cases e
def qjl (g h:Heap) (L:Addr):List (Addr×Obj):=(jd4 h.objs.size).filterMap λ a=>if a=L\/(g.get? a).isSome=true then none else (h.get? a).map λ o=>(a,o)
def rest (g h:Heap) (L d:Addr):List (Addr×Obj):=(qjl g h L).filter λ p=>decide (p.1≠d)
structure Mod (K:va6) (mg:Str->Option va0) (base:Heap):Prop where
 kin:K.In base
 glob:base.Ns vc2 mg
 blt:∃ mb,base.Ns builtinsNs mb/\∀ x:Str,x ≠ "__name__" -> mb x=vf0 x
 nolimit:base.NoLimit
structure Cx where
 prog:va8
 w:vb7
 K:va6
 mg:Str->Option va0
 base:Heap
 A:vc0
 N:List Str
 s₀:va1
 H₀:Hp
 env:Env
 outer:List Env
 stack:List Env
 ex:List Addr
 fn:Str->Bool
 calm:Bool
 pn:List (Addr×Obj)
 xe:va0->va1->Prop
def frs (l:List Env):List Addr:=l.filterMap (·.frame)
abbrev Cx.fs (X:Cx):List Addr:=frs X.outer
def Vis (sc:vd0) (x:Str):Prop:=sc.names.lookup x=some .local\/sc.names.lookup x=some .cell\/sc.names.lookup x=some .free
def Loc (sc:vd0) (x:Str):Prop:=sc.names.lookup x=some .local\/sc.names.lookup x=some .cell
def Look (env:Env) (h:Heap) (m:Str->Option va0) (x:Str) (u:va0):Prop:=
 (env.kindOf x=some .local/\m x=some u)\/((env.kindOf x=some .cell\/env.kindOf x=some .free)/\∃ c,env.cells.lookup x=some c/\h.IsCell c (some u))
structure Cx.Ok (X:Cx):Prop where
 mod:Mod X.K X.mg X.base
 kind:X.env.scope.kind=.function
 glob:X.env.globals=vc2
 blt:X.env.builtins=builtinsNs
 above:X.s₀.heap.objs.size<=X.env.locals
 inj:∀ x y c,X.env.cells.lookup x=some c->X.env.cells.lookup y=some c->x=y
 has:∀ x,(X.env.kindOf x=some .cell\/X.env.kindOf x=some .free)->∃ c,X.env.cells.lookup x=some c
 cab:∀ x c,X.fn x=true->X.env.cells.lookup x=some c->X.s₀.heap.objs.size<=c
 hd:X.calm=true->X.A.handled=none
 frames:X.A.frames=some X.stack
 stk:X.stack=X.outer\/(X.stack=X.env::X.outer/\X.env.frame=some X.env.locals)
 exf:∀ b∈X.ex,b≠X.env.locals/\∀ x c,X.env.cells.lookup x=some c->c≠b
 bs:∀ b o,X.base.get? b=some o->X.s₀.heap.get? b=some o/\X.H₀ b=none
 bsz:X.base.objs.size<=X.s₀.heap.objs.size
 noex:∀ b o,X.base.get? b=some o->b∉X.ex
 exfs:∀ b∈X.ex,b∉X.fs
 funs:X.s₀.heap.FunFrames X.base X.outer
 frf:∀ b∈X.fs,X.H₀ b=none
structure Inv (X:Cx) (pins:List (Addr×Obj)) (σ:List (Option V)) (H:Hp) (s:va1):Prop where
 ok:X.Ok
 os:s.os=X.s₀.os
 bare:vg4 s.gens
 base:Un X.fs X.ex X.H₀ H X.s₀.heap s.heap
 loc:∃ m,s.heap.Ns X.env.locals m/\∀ (i:Nat) (x:Str) (v:V),X.N[i]?=some x->σ[i]?=some (some v)->Vis X.env.scope x->∃ u,RelV v u/\Look X.env s.heap m x u
 cell:∀ x c,X.env.cells.lookup x=some c->∃ v,s.heap.IsCell c v
 free:H X.env.locals=none
 freeC:∀ x c,X.env.cells.lookup x=some c->H c=none
 pin:∀ p∈X.pn++pins,s.heap.get? p.1=some p.2/\H p.1=none/\p.1≠X.env.locals/\p.1∉X.fs/\∀ v,p.2.data≠.cell v
 hok:HOk X.prog X.w H s.heap
 len:σ.length=X.N.length
section
variable {X:Cx}{pins:List (Addr×Obj)}{σ:List (Option V)}{H H':Hp}{s:va1}{h':Heap}
theorem Cx.Ok.nofr (ok:X.Ok) {b:Addr}{o:Obj} (e:X.base.get? b=some o):b∉X.fs:=λ hb=>by
 have:=(ok.funs.mem hb).1
 rw [e] at this;cases this
theorem Inv.bs (I:Inv X pins σ H s):∀ b o,X.base.get? b=some o->s.heap.get? b=some o/\H b=none:=λ b o e=>
 ⟨I.base.keep b o (I.ok.bs b o e).1 (I.ok.bs b o e).2 (I.ok.nofr e) (I.ok.noex b o e),I.base.free b o (I.ok.bs b o e).1 (I.ok.bs b o e).2 (I.ok.noex b o e)⟩
theorem Inv.bk (I:Inv X pins σ H s):∀ b o,X.base.get? b=some o->s.heap.get? b=some o:=λ b o e=>(I.bs b o e).1
theorem Inv.mod (I:Inv X pins σ H s):Mod X.K X.mg X.base:=I.ok.mod
theorem Inv.kIn (I:Inv X pins σ H s):X.K.In s.heap:=I.ok.mod.kin.keeps I.bk
theorem Inv.lt (I:Inv X pins σ H s):X.env.locals < s.heap.objs.size:=let ⟨_,hn,_⟩:=I.loc;hn.lt
theorem Inv.sz (I:Inv X pins σ H s):X.s₀.heap.objs.size<=s.heap.objs.size:=jc4 I.ok.above (jl4 I.lt)
theorem Inv.nofs (I:Inv X pins σ H s) {a:Addr} (h:s.heap.objs.size<=a):a∉X.fs:=λ hb=>by
 obtain ⟨_,o,ho,_⟩:=I.ok.funs.mem hb
 exact absurd (ja7 (va5 ho) (jc4 I.sz h)) (jd9 _)
theorem Inv.cne (I:Inv X pins σ H s):∀ x c,X.env.cells.lookup x=some c->c≠X.env.locals:=λ x c e z=>by
 obtain ⟨v,o,ho,hd⟩:=I.cell x c e
 obtain ⟨m,⟨o',es,ep,ho',hd',_⟩,_⟩:=I.loc
 rw [z,ho'] at ho;cases ho;rw [hd'] at hd;cases hd
theorem Inv.funs (I:Inv X pins σ H s):s.heap.FunFrames X.base X.outer:=by
 have all:∀ (l:List Env),(∀ b∈frs l,b∈X.fs)->X.s₀.heap.FunFrames X.base l->s.heap.FunFrames X.base l:=by
  intro l
  induction l with
  | nil=>intro _ _;trivial
  | cons env r ih=>
   intro hs hl
   obtain ⟨hk,⟨L,o,hf,hn,ho,hd⟩,hr⟩:=hl
   have hL:L∈X.fs:=hs L (by unfold frs;rw [jg1,hf];exact ja2)
   obtain ⟨sl,e⟩:=I.base.slot L o ho (I.ok.frf L hL) hL λ z=>I.ok.exfs L z hL
   exact ⟨hk,⟨L,_,hf,hn,e,hd⟩,ih (λ b hb=>hs b (by unfold frs;rw [jg1,hf];exact ja0 _ hb)) hr⟩
 exact all X.outer (λ _ hb=>hb) I.ok.funs
theorem Inv.stack (I:Inv X pins σ H s):s.heap.FunFrames X.base X.stack:=by
 rcases I.ok.stk with e | ⟨e,hf⟩
 ·rw [e];exact I.funs
 ·rw [e]
  obtain ⟨m,hn,_⟩:=I.loc
  refine .cons (by rw [I.ok.kind];decide) hf hn ?_ I.funs
  exact Heap.get?_none_of_le (jc4 I.ok.bsz I.ok.above)
theorem Inv.stkSub (I:Inv X pins σ H s):∀ b∈frs X.stack,b∈X.env.locals::X.fs:=λ b hb=>by
 rcases I.ok.stk with e | ⟨e,hf⟩
 ·rw [e] at hb;exact ja0 _ hb
 ·rw [e] at hb
  unfold frs at hb
  rw [jg1,hf] at hb
  exact hb
theorem Inv.stkFree (I:Inv X pins σ H s):∀ b∈frs X.stack,H b=none:=λ b hb=>by
 rcases ja9.mp (I.stkSub b hb) with e | hb
 ·rw [e];exact I.free
 ·obtain ⟨_,o,ho,_⟩:=I.ok.funs.mem hb
  exact I.base.free b o ho (I.ok.frf b hb) λ z=>I.ok.exfs b z hb
theorem Inv.step {g':Array GenState}{t':Nat}{d':Drawn}{ch:List Addr} (I:Inv X pins σ H s)
  (hch:∀ b∈ch,(b∈X.ex\/X.s₀.heap.objs.size<=b)/\b≠X.env.locals/\(∀ x c,X.env.cells.lookup x=some c->c≠b)/\∀ p∈X.pn++pins,p.1≠b)
  (keep:∀ b o,b≠X.env.locals->b∉X.fs->b∉ch->s.heap.get? b=some o->H b=none->h'.get? b=some o)
  (slot:∀ b o,b≠X.env.locals->b∈X.fs->b∉ch->s.heap.get? b=some o->H b=none->∃ sl,h'.get? b=some { o with slots:=sl }) (free:∀ b o,b∉ch->s.heap.get? b=some o->H b=none->H' b=none)
  (there:∀ b o,b∉ch->s.heap.get? b=some o->∃ o',h'.get? b=some o')
  (tups:∀ b xs,H b=some (.tup xs)->H' b=some (.tup xs)) (frzs:∀ b o u,H b=some (.frz o u)->H' b=some (.frz o u)) (tbls:∀ b ps,H b=some (.tbl ps)->∃ more,H' b=some (.tbl (ps++more)))
  (ns:∀ m,s.heap.Ns X.env.locals m->h'.Ns X.env.locals m) (hok:HOk X.prog X.w H' h') (hg:vg4 g'):
  Inv X pins σ H' { s with heap:=h',gens:=g',drawn:=d',toks:=t' }:=by
 have neL:∀ b o,X.s₀.heap.get? b=some o->b≠X.env.locals:=λ b o e=>jc3 (ja7 (va5 e) I.ok.above)
 have neC:∀ b o,X.s₀.heap.get? b=some o->b∉X.ex->b∉ch:=λ b o e hx hb=>by
  rcases (hch b hb).1 with z | z
  ·exact hx z
  ·exact absurd (ja7 (va5 e) z) (jd9 _)
 have cellK:∀ x c,X.env.cells.lookup x=some c->∀ v,s.heap.IsCell c v->h'.IsCell c v:=λ x c e v ⟨o,ho,hd⟩=>by
  have nch:c∉ch:=λ z=>(hch c z).2.2.1 x c e rfl
  by_cases hc:c∈X.fs
  ·obtain ⟨sl,q⟩:=slot c o (I.cne x c e) hc nch ho (I.freeC x c e)
   exact ⟨_,q,hd⟩
  ·exact ⟨o,keep c o (I.cne x c e) hc nch ho (I.freeC x c e),hd⟩
 refine ⟨I.ok,I.os,hg,⟨λ b o e n hb hx=>?_,λ b o e n hb hx=>?_,λ b o e n hx=>?_,λ b o e hx=>?_,λ b xs e=>tups b xs (I.base.tups b xs e),λ b o xs e=>frzs b o xs (I.base.frzs b o xs e),λ b ps e=>?_⟩,?_,λ x c e=>?_,?_,λ x c e=>?_,λ p hp=>?_,hok,I.len⟩
 ·exact keep b o (neL b o e) hb (neC b o e hx) (I.base.keep b o e n hb hx) (I.base.free b o e n hx)
 ·obtain ⟨sl,e1⟩:=I.base.slot b o e n hb hx
  obtain ⟨sl',e2⟩:=slot b _ (neL b o e) hb (neC b o e hx) e1 (I.base.free b o e n hx)
  exact ⟨sl',e2⟩
 ·obtain ⟨o',e1⟩:=I.base.there b o e hx
  exact free b o' (neC b o e hx) e1 (I.base.free b o e n hx)
 ·obtain ⟨o',e1⟩:=I.base.there b o e hx
  exact there b o' (neC b o e hx) e1
 ·obtain ⟨m1,e1⟩:=I.base.tbls b ps e
  obtain ⟨m2,e2⟩:=tbls b _ e1
  exact ⟨m1++m2,by rw [e2,ji5]⟩
 ·obtain ⟨m,hn,hl⟩:=I.loc
  refine ⟨m,ns m hn,λ i x v e1 e2 e3=>?_⟩
  obtain ⟨u,r,l⟩:=hl i x v e1 e2 e3
  refine ⟨u,r,?_⟩
  rcases l with l | ⟨k,c,e,z⟩
  ·exact .inl l
  ·exact .inr ⟨k,c,e,cellK x c e _ z⟩
 ·obtain ⟨v,z⟩:=I.cell x c e
  exact ⟨v,cellK x c e v z⟩
 ·obtain ⟨m,⟨o,_,_,ho,_⟩,_⟩:=I.loc
  exact free _ o (λ z=>(hch _ z).2.1 rfl) ho I.free
 ·obtain ⟨v,o,ho,hd⟩:=I.cell x c e
  exact free c o (λ z=>(hch c z).2.2.1 x c e rfl) ho (I.freeC x c e)
 ·obtain ⟨e,n,ne,nf,d⟩:=I.pin p hp
  have nch:p.1∉ch:=λ z=>(hch p.1 z).2.2.2 p hp rfl
  exact ⟨keep p.1 p.2 ne nf nch e n,free p.1 p.2 nch e n,ne,nf,d⟩
theorem Inv.un {t':Nat} (I:Inv X pins σ H s) (u:Un X.fs [] H H' s.heap h') (hok:HOk X.prog X.w H' h'):Inv X pins σ H' { s with heap:=h',toks:=t' }:=by
 obtain ⟨m,⟨o,es,ep,ho,r⟩,_⟩:=id I.loc
 obtain ⟨sl,hL⟩:=u.any ho I.free (by simp)
 exact I.step (g':=s.gens) (d':=s.drawn) (ch:=[]) (λ _ z=>nomatch z) (λ b o _ hb _ e n=>u.keep b o e n hb (by simp)) (λ b o _ hb _ e n=>u.slot b o e n hb (by simp)) (λ b o _ e n=>u.free b o e n (by simp)) (λ b o _ e=>u.there b o e (by simp)) u.tups u.frzs u.tbls (λ m' hm=>by
  obtain ⟨o',es',ep',ho',r'⟩:=hm
  rw [ho] at ho';cases ho'
  exact ⟨_,es',ep',hL,r'⟩) hok I.bare
theorem Inv.call {g':Array GenState}{t':Nat}{d':Drawn}{ch:List Addr} (I:Inv X pins σ H s) (u:Un (frs X.stack) ch H H' s.heap h') (hok:HOk X.prog X.w H' h') (hg:vg4 g')
  (hch:∀ b∈ch,(b∈X.ex\/X.s₀.heap.objs.size<=b)/\b≠X.env.locals/\(∀ x c,X.env.cells.lookup x=some c->c≠b)/\∀ p∈X.pn++pins,p.1≠b):
  Inv X pins σ H' { s with heap:=h',gens:=g',drawn:=d',toks:=t' }:=by
 obtain ⟨m,⟨o,es,ep,ho,r⟩,_⟩:=id I.loc
 obtain ⟨sl,hL⟩:=u.any ho I.free λ z=>(hch _ z).2.1 rfl
 exact I.step (ch:=ch) hch (λ b o hL hb hc e n=>u.keep b o e n (λ z=>(ja9.mp (I.stkSub b z)).elim hL hb) hc) (λ b o _ _ hc e n=>u.any e n hc) (λ b o hc e n=>u.free b o e n hc) (λ b o hc e=>u.there b o e hc) u.tups u.frzs u.tbls (λ m' hm=>by
  obtain ⟨o',es',ep',ho',r'⟩:=hm
  rw [ho] at ho';cases ho'
  exact ⟨_,es',ep',hL,r'⟩) hok hg
theorem Inv.turned {t':Nat}{it:Addr} (I:Inv X pins σ H s) (k:∀ b o,b≠it->s.heap.get? b=some o->h'.get? b=some o) (hn:H it=none) (hL:it≠X.env.locals)
  (h1:it∈X.ex\/X.s₀.heap.objs.size<=it) (h2:∀ x c,X.env.cells.lookup x=some c->c≠it) (h3:∀ p∈X.pn++pins,p.1≠it):Inv X pins σ H { s with heap:=h',toks:=t' }:=by
 have nit:∀ b u,H b=some u->b≠it:=λ b u e z=>by rw [z,hn] at e;cases e
 refine I.step (g':=s.gens) (d':=s.drawn) (ch:=[it]) (λ b hb=>?_) (λ b o _ _ hc e _=>k b o (λ z=>hc (by simp [z])) e) (λ b o _ _ hc e _=>⟨o.slots,k b o (λ z=>hc (by simp [z])) e⟩) (λ _ _ _ _ n=>n)
  (λ b o hc e=>⟨o,k b o (λ z=>hc (by simp [z])) e⟩) (λ _ _ e=>e) (λ _ _ _ e=>e) (λ b ps e=>⟨#[],by rw [e];simp⟩) (λ m hm=>?_) (λ b u e=>?_) I.bare
 ·have e:b=it:=by simpa using hb
  subst e
  exact ⟨h1,hL,h2,h3⟩
 ·obtain ⟨o,es,ep,ho,r⟩:=hm
  exact ⟨o,es,ep,k _ o (vc1 hL) ho,r⟩
 ·refine (I.hok b u e).stay (λ c v hc q=>k c v ?_ q) (λ _ q=>q) λ _ _ q=>q
  rcases hc with z | z
  ·rw [z];exact nit b u e
  ·exact nit c _ z
theorem Inv.tok (I:Inv X pins σ H s) (t:Nat):Inv X pins σ H { s with toks:=t }:=I.un (h':=s.heap) (t':=t) Un.refl I.hok
theorem Inv.kept {t':Nat} (I:Inv X pins σ H s) (k:∀ b u,s.heap.get? b=some u->h'.get? b=some u):Inv X pins σ H { s with heap:=h',toks:=t' }:=I.un (Un.kept k) (I.hok.kept k)
theorem Inv.laid {a:Addr}{o:HO}{t':Nat} (I:Inv X pins σ H s) (k:∀ b u,s.heap.get? b=some u->h'.get? b=some u) (hp:s.heap.objs.size<=a) (new:zxv X.prog X.w (upd H a o) h' a o):
  Inv X pins σ (upd H a o) { s with heap:=h',toks:=t' }:=I.un (Un.laid k hp (I.hok.fresh hp)) (I.hok.laid k hp new)
theorem Inv.write {x e:Addr}{o:HO}{t':Nat} (I:Inv X pins σ H s) (mu:Mut (H x)) (he:e=x\/H e=some (.own x)) (k:∀ b u,b≠e->s.heap.get? b=some u->h'.get? b=some u) (heo:∃ u,h'.get? e=some u)
  (new:zxv X.prog X.w (upd H x o) h' x o):Inv X pins σ (upd H x o) { s with heap:=h',toks:=t' }:=I.un (Un.write mu he k heo) (I.hok.write mu he k heo new)
theorem Inv.pins_of {pins':List (Addr×Obj)} (I:Inv X pins σ H s) (h:∀ p∈pins',s.heap.get? p.1=some p.2/\H p.1=none/\p.1≠X.env.locals/\p.1∉X.fs/\∀ v,p.2.data≠.cell v):Inv X pins' σ H s:=
 ⟨I.ok,I.os,I.bare,I.base,I.loc,I.cell,I.free,I.freeC,λ p hp=>(jb3.mp hp).elim (λ z=>I.pin p (ja4 _ z)) (h p),I.hok,I.len⟩
theorem zbq {N:List Str} (hN:N.Nodup) {i j:Nat}{x:Str} (a:N[i]?=some x) (b:N[j]?=some x):i=j:=by
 obtain ⟨h1,e1⟩:=ja8.mp a
 obtain ⟨h2,e2⟩:=ja8.mp b
 exact (List.getElem_inj hN).mp (e1.trans e2.symm)
theorem zpq {M:Model}{A:vc0}{E:va0->va1->Prop}{i:Nat}{x:Str}{v:V}{u:va0}{Q:Unit->va1->Prop} (I:Inv X pins σ H s) (hN:X.N.Nodup) (hi:X.N[i]?=some x) (hx:Loc X.env.scope x) (r:RelV v u)
  (h:∀ s',Inv X pins (σ.set i (some v)) H s'->(∃ a,vj9 a s.heap s'.heap/\(a=X.env.locals\/X.env.cells.lookup x=some a))->Q () s') (hf:X.fn x=true\/X.env.scope.names.lookup x=some .local:=by first | exact .inl rfl | exact .inr rfl | assumption):vb2 M A (storeName X.env x u) Q E s:=by
 obtain ⟨m,hn,hl⟩:=id I.loc
 have hcls:(X.env.scope.kind == .class || (X.env.scope.kind == .module && X.env.locals != X.env.globals))=false:=by rw [I.ok.kind];rfl
 have hiσ:i < σ.length:=by rw [I.len];exact (ja8.mp hi).1
 have cne:=I.cne
 have tracked:∀ {a:Addr}{h':Heap},(∃ o,s.heap.get? a=some o/\H a=none)->vj9 a s.heap h'->HOk X.prog X.w H h':=λ {a h'} ha hs b ob e=>by
  obtain ⟨_,_,hfree⟩:=ha
  refine (I.hok b ob e).stay (λ c w' hc q=>(hs.2 c ?_).trans q) (λ _ q=>q) λ _ _ q=>q
  rintro rfl
  rcases hc with rfl | hc
  ·rw [hfree] at e;cases e
  ·rw [hfree] at hc;cases hc
 rcases hx with hk | hk
 ·refine wpAny_storeName_local hk hn (λ h' hn' hs=>?_) hcls
  obtain ⟨oL,_,_,hoL,_⟩:=id hn
  refine h _ ⟨I.ok,I.os,I.bare,⟨λ b o e n hb hx=>?_,λ b o e n hb hx=>?_,I.base.free,λ b o e hx=>?_,I.base.tups,I.base.frzs,I.base.tbls⟩,⟨_,hn',λ j y v' e1 e2 e3=>?_⟩,λ y c e=>?_,I.free,I.freeC,λ p hp=>?_,tracked ⟨oL,hoL,I.free⟩ hs,by simpa using I.len⟩ ⟨_,hs,.inl rfl⟩
  ·exact (hs.2 b (jc3 (ja7 (va5 e) I.ok.above))).trans (I.base.keep b o e n hb hx)
  ·obtain ⟨sl,e1⟩:=I.base.slot b o e n hb hx
   exact ⟨sl,(hs.2 b (jc3 (ja7 (va5 e) I.ok.above))).trans e1⟩
  ·obtain ⟨o',e1⟩:=I.base.there b o e hx
   exact ⟨o',(hs.2 b (jc3 (ja7 (va5 e) I.ok.above))).trans e1⟩
  ·by_cases hj:j=i
   ·subst hj
    rw [hi] at e1;cases e1
    rw [jc2 hiσ] at e2
    cases e2
    exact ⟨u,r,.inl ⟨hk,by simp⟩⟩
   ·rw [jb0 (vc1 hj)] at e2
    obtain ⟨u',r',q⟩:=hl j y v' e1 e2 e3
    refine ⟨u',r',?_⟩
    rcases q with ⟨k,e⟩ | ⟨k,c,e,z⟩
    ·refine .inl ⟨k,?_⟩
     have:y≠x:=λ e=>hj (zbq hN e1 (e ▸ hi))
     simp [this,e]
    ·exact .inr ⟨k,c,e,z.sameBut hs (cne y c e)⟩
  ·obtain ⟨w',z⟩:=I.cell y c e
   exact ⟨w',z.sameBut hs (cne y c e)⟩
  ·obtain ⟨e,n,ne,nf,d⟩:=I.pin p hp
   exact ⟨(hs.2 p.1 ne).trans e,n,ne,nf,d⟩
 ·have hfn:X.fn x=true:=by
   rcases hf with z | z
   ·exact z
   ·rw [z] at hk;cases hk
  obtain ⟨c,hc⟩:=I.ok.has x (.inl hk)
  obtain ⟨w',z⟩:=I.cell x c hc
  refine wpAny_storeName_cell I.ok.kind hk hc z (λ h' hc' hs=>?_)
  obtain ⟨oc,hoc,hocd⟩:=id z
  refine h { s with heap:=h' } ⟨I.ok,I.os,I.bare,⟨λ b o e n hb hx=>?_,λ b o e n hb hx=>?_,I.base.free,λ b o e hx=>?_,I.base.tups,I.base.frzs,I.base.tbls⟩,⟨m,hn.sameBut hs (vc1 (cne x c hc)),λ j y v' e1 e2 e3=>?_⟩,λ y c' e=>?_,I.free,I.freeC,λ p hp=>?_,tracked ⟨oc,hoc,I.freeC x c hc⟩ hs,by simpa using I.len⟩ ⟨c,hs,.inr hc⟩
  ·exact (hs.2 b (jc3 (ja7 (va5 e) (I.ok.cab x c hfn hc)))).trans (I.base.keep b o e n hb hx)
  ·obtain ⟨sl,e1⟩:=I.base.slot b o e n hb hx
   exact ⟨sl,(hs.2 b (jc3 (ja7 (va5 e) (I.ok.cab x c hfn hc)))).trans e1⟩
  ·obtain ⟨o',e1⟩:=I.base.there b o e hx
   exact ⟨o',(hs.2 b (jc3 (ja7 (va5 e) (I.ok.cab x c hfn hc)))).trans e1⟩
  ·by_cases hj:j=i
   ·subst hj
    rw [hi] at e1;cases e1
    rw [jc2 hiσ] at e2
    cases e2
    exact ⟨u,r,.inr ⟨.inl hk,c,hc,hc'⟩⟩
   ·rw [jb0 (vc1 hj)] at e2
    obtain ⟨u',r',q⟩:=hl j y v' e1 e2 e3
    refine ⟨u',r',?_⟩
    rcases q with q | ⟨k,c',e,z'⟩
    ·exact .inl q
    ·refine .inr ⟨k,c',e,z'.sameBut hs ?_⟩
     rintro rfl
     exact hj (zbq hN e1 (I.ok.inj _ _ _ e hc ▸ hi))
  ·by_cases hcc:c'=c
   ·subst hcc;exact ⟨_,hc'⟩
   ·obtain ⟨w2,z2⟩:=I.cell y c' e
    exact ⟨w2,z2.sameBut hs hcc⟩
  ·obtain ⟨e,n,ne,nf,d⟩:=I.pin p hp
   refine ⟨(hs.2 p.1 ?_).trans e,n,ne,nf,d⟩
   intro q
   rw [q,hoc] at e
   have q':oc=p.2:=Option.some.inj e
   exact d w' (by rw [<- q'];exact hocd)
theorem zba {M:Model}{A:vc0}{E:va0->va1->Prop}{i:Nat}{x:Str}{v:V}{u:va0}{Q:Unit->va1->Prop} (I:Inv X pins σ H s) (hN:X.N.Nodup) (hi:X.N[i]?=some x) (hx:Loc X.env.scope x) (r:RelV v u)
  (h:∀ s',Inv X pins (σ.set i (some v)) H s'->Q () s') (hf:X.fn x=true\/X.env.scope.names.lookup x=some .local:=by first | exact .inl rfl | exact .inr rfl | assumption):vb2 M A (storeName X.env x u) Q E s:=
 zpq I hN hi hx r (λ s' I' _=>h s' I') hf
theorem Inv.call' {s':va1}{ch:List Addr} (I:Inv X pins σ H s) (ho:s'.os=s.os) (u:Un (frs X.stack) ch H H' s.heap s'.heap) (hok:HOk X.prog X.w H' s'.heap) (hg:vg4 s'.gens)
  (hch:∀ b∈ch,(b∈X.ex\/X.s₀.heap.objs.size<=b)/\b≠X.env.locals/\(∀ x c,X.env.cells.lookup x=some c->c≠b)/\∀ p∈X.pn++pins,p.1≠b):Inv X pins σ H' s':=by
 obtain ⟨h',g',d',t',o'⟩:=s'
 have e:o'=s.os:=ho
 subst e
 exact I.call (g':=g') (t':=t') (d':=d') u hok hg hch
end
abbrev XK:=va0->Option Addr->Hp->Prop
abbrev St:=List (Option V)
abbrev VK:=V->Hp->Prop
abbrev TE:=St->Hp->VK->Prop
abbrev TT:=St->Hp->(Bool->Hp->Prop)->Prop
abbrev TA:=St->Hp->(List V->Hp->Prop)->Prop
structure Ends where
 nx:St->Hp->Prop
 rt:VK
 bk:St->Hp->Prop:=λ _ _=>False
 ct:St->Hp->Prop:=λ _ _=>False
abbrev TS:=Ends->St->Hp->Prop
def EP (X:Cx) (pins:List (Addr×Obj)) (σ:St) (Q:VK) (u:va0) (s':va1):Prop:=∃ v H',Inv X pins σ H' s'/\RelV v u/\Q v H'
def TP (X:Cx) (pins:List (Addr×Obj)) (σ:St) (Q:Bool->Hp->Prop) (b:Bool) (s':va1):Prop:=∃ H',Inv X pins σ H' s'/\Q b H'
def AP (X:Cx) (pins:List (Addr×Obj)) (σ:St) (Q:List V->Hp->Prop) (us:List va0) (s':va1):Prop:=∃ vs H',Inv X pins σ H' s'/\Vals vs us/\Q vs H'
def SP (X:Cx) (pins:List (Addr×Obj)) (D:Ends) (f:Flow) (s':va1):Prop:=
 match f with
 | .next=>∃ σ' H',Inv X pins σ' H' s'/\D.nx σ' H'
 | .brk=>∃ σ' H',Inv X pins σ' H' s'/\D.bk σ' H'
 | .cont=>∃ σ' H',Inv X pins σ' H' s'/\D.ct σ' H'
 | .ret u=>∃ v σ' H',Inv X pins σ' H' s'/\RelV v u/\D.rt v H'
def PE (X:Cx) (e:Expr) (t:TE):Prop:=
 ∀ (pins:List (Addr×Obj)) (s:va1) (σ:St) (H:Hp) (Q:VK),Inv X pins σ H s->t σ H Q->vb2 (vb3 X.prog X.w) X.A (eval e X.env) (EP X pins σ Q) X.xe s
def PT (X:Cx) (e:Expr) (t:TT):Prop:=
 ∀ (pins:List (Addr×Obj)) (s:va1) (σ:St) (H:Hp) (Q:Bool->Hp->Prop),Inv X pins σ H s->t σ H Q->vb2 (vb3 X.prog X.w) X.A (isTrue e X.env (eval e X.env)) (TP X pins σ Q) X.xe s
def PW (X:Cx) (e:Expr) (t:TT):Prop:=
 ∀ (whole:Sem va0) (pins:List (Addr×Obj)) (s:va1) (σ:St) (H:Hp) (Q:Bool->Hp->Prop),Inv X pins σ H s->t σ H Q->vb2 (vb3 X.prog X.w) X.A (isTrue e X.env whole) (TP X pins σ Q) X.xe s
theorem PW.pt {X:Cx}{e:Expr}{t:TT} (h:PW X e t):PT X e t:=h _
def PA (X:Cx) (es:List Expr) (t:TA):Prop:=
 ∀ (pos:Pos) (pins:List (Addr×Obj)) (s:va1) (σ:St) (H:Hp) (Q:List V->Hp->Prop),Inv X pins σ H s->t σ H Q->vb2 (vb3 X.prog X.w) X.A (spliced (vd2 pos (va3 es X.env))) (AP X pins σ Q) X.xe s
def PS (X:Cx) (st:Stmt) (t:TS):Prop:=
 ∀ (pins:List (Addr×Obj)) (s:va1) (σ:St) (H:Hp) (D:Ends),Inv X pins σ H s->t D σ H->vb2 (vb3 X.prog X.w) X.A (exec st X.env) (SP X pins D) X.xe s
def PSs (X:Cx) (st:List Stmt) (t:TS):Prop:=
 ∀ (pins:List (Addr×Obj)) (s:va1) (σ:St) (H:Hp) (D:Ends),Inv X pins σ H s->t D σ H->vb2 (vb3 X.prog X.w) X.A (execs st X.env) (SP X pins D) X.xe s
theorem thn {α:Type}{t:Sem α}{Q Q':α->va1->Prop}{M:Model}{A:vc0}{E:va0->va1->Prop}{s:va1} (h:vb2 M A t Q E s) (hQ:∀ a s,Q a s->Q' a s):vb2 M A t Q' E s:=vd1 h hQ λ _ _ x=>x
section
variable {X:Cx}
theorem bin {a b:Expr}{ta tb:TE} (ha:PE X a ta) (hb:PE X b tb) {pins:List (Addr×Obj)}{s:va1}{σ:St}{H:Hp}{R:V->V->Hp->Prop} (I:Inv X pins σ H s) (h:ta σ H λ x H1=>tb σ H1 λ y H2=>R x y H2)
  {α:Type}{Q:α->va1->Prop}{f:va0->va0->Sem α}
  (hf:∀ v u s2 x y H2,Inv X pins σ H2 s2->RelV x v->RelV y u->R x y H2->vb2 (vb3 X.prog X.w) X.A (f v u) Q X.xe s2):
  vb2 (vb3 X.prog X.w) X.A (eval a X.env) (λ v s₁=>vb2 (vb3 X.prog X.w) X.A (eval b X.env) (λ u s₂=>vb2 (vb3 X.prog X.w) X.A (f v u) Q X.xe s₂) X.xe s₁) X.xe s:=by
 refine thn (ha pins s σ H _ I h) λ v s1 ⟨x,H1,I1,r1,q1⟩=>?_
 refine thn (hb pins s1 σ H1 _ I1 q1) λ u s2 ⟨y,H2,I2,r2,q2⟩=>?_
 exact hf v u s2 x y H2 I2 r1 r2 q2
def tVar (i:Nat):TE:=λ σ H Q=>∃ v,σ[i]?=some (some v)/\Q v H
def tC (v:V):TE:=λ _ H Q=>Q v H
theorem qf0 {i:Nat}{x:Str}{pos:Pos} (hN:X.N[i]?=some x) (hv:Vis X.env.scope x) (hd:(x == ("__debug__" : Str))=false:=by decide) (hcd:(x == ("__classdict__" : Str))=false:=by decide):PE X (.Name x pos) (tVar i):=by
 intro pins s σ H Q I h
 obtain ⟨v,e,h⟩:=h
 obtain ⟨m,hn,hl⟩:=I.loc
 obtain ⟨u,r,l⟩:=hl i x v hN e hv
 have fin:EP X pins σ Q u s:=⟨v,H,I,r,h⟩
 rcases l with ⟨hk,hm⟩ | ⟨hk,c,hc,hcell⟩
 ·exact wpAny_Name (wpAny_loadName_local I.ok.kind hk hn hm fin) hd
 ·rcases hk with hk | hk
  ·exact wpAny_Name (wpAny_loadName_cell I.ok.kind hk hc hcell fin) hd
  ·exact wpAny_Name (wpAny_loadName_free I.ok.kind hk hc hcell fin hcd) hd
theorem zha {i j pos}:PE X (.Constant (.int i) j pos) (tC (.int i)):=λ _ _ _ H _ I h=>wpAny_Constant_int ⟨.int i,H,I.tok _,⟨_,rfl⟩,h⟩
theorem qm2 {b j pos}:PE X (.Constant (.bool b) j pos) (tC (.bl b)):=λ _ _ _ H _ I h=>Constant_bool ⟨.bl b,H,I,rfl,h⟩
theorem qk5 {j pos}:PE X (.Constant .none j pos) (tC .non):=λ _ _ _ H _ I h=>Constant_none ⟨.non,H,I,rfl,h⟩
theorem qb7 {x j pos}:PE X (.Constant (.str x) j pos) (tC (.str x)):=λ _ _ _ H _ I h=>Calls.Constant_str ⟨.str x,H,I.tok _,⟨_,rfl⟩,h⟩
def Gl (X:Cx) (x:Str):Prop:=X.env.kindOf x=some .globalImplicit
theorem zbt {E:va0->va1->Prop}{pins:List (Addr×Obj)}{s:va1}{σ:St}{H:Hp}{x:Str}{u:va0}{pos:Pos}{Q:va0->va1->Prop} (I:Inv X pins σ H s) (hg:Gl X x) (hm:X.mg x=some u) (h:Q u s)
  (hd:(x == ("__debug__" : Str))=false:=by decide):vb2 (vb3 X.prog X.w) X.A (eval (.Name x pos) X.env) Q E s:=
 vl4 I.ok.kind hg (Calls.loadGlobal_global (by rw [I.ok.glob];exact I.mod.glob.keeps I.bk) hm h) hd
theorem zmj {E:va0->va1->Prop}{pins:List (Addr×Obj)}{s:va1}{σ:St}{H:Hp}{x:Str}{u:va0}{pos:Pos}{Q:va0->va1->Prop} (I:Inv X pins σ H s) (hg:Gl X x) (hm:X.mg x=none) (hv:vf0 x=some u) (h:Q u s)
  (hn:x ≠ "__name__" := by decide) (hd:(x == ("__debug__" : Str))=false:=by decide):vb2 (vb3 X.prog X.w) X.A (eval (.Name x pos) X.env) Q E s:=by
 obtain ⟨mb,h1,h2⟩:=I.mod.blt
 exact vl4 I.ok.kind hg (Calls.loadGlobal_builtin (by rw [I.ok.glob];exact I.mod.glob.keeps I.bk) hm (by rw [I.ok.blt];exact h1.keeps I.bk) ((h2 x hn).trans hv) h) hd
theorem zfo {x:Str}{v:V}{u:va0}{pos:Pos} (hg:Gl X x) (hm:X.mg x=some u) (r:RelV v u) (hd:(x == ("__debug__" : Str))=false:=by decide):PE X (.Name x pos) (tC v):=
 λ _ _ _ H _ I h=>zbt I hg hm ⟨v,H,I,r,h⟩ hd
theorem zfp {x:Str}{v:V}{u:va0}{pos:Pos} (hg:Gl X x) (hm:X.mg x=none) (hv:vf0 x=some u) (r:RelV v u) (hn:x ≠ "__name__" := by decide) (hd:(x == ("__debug__" : Str))=false:=by decide):PE X (.Name x pos) (tC v):=
 λ _ _ _ H _ I h=>zmj I hg hm hv ⟨v,H,I,r,h⟩ hn hd
variable {a b:Expr}{ta tb:TE}{pos:Pos}
def PC (X:Cx) (op:vl3) (a b:Expr) (t:TE):Prop:=
 ∀ (pins:List (Addr×Obj)) (s:va1) (σ:St) (H:Hp) (Q:VK),Inv X pins σ H s->t σ H Q ->
  vb2 (vb3 X.prog X.w) X.A (eval a X.env) (λ v s₁=>vb2 (vb3 X.prog X.w) X.A (eval b X.env) (λ u s₂=>vb2 (vb3 X.prog X.w) X.A (vb4 op v u) (EP X pins σ Q) X.xe s₂) X.xe s₁) X.xe s
theorem zwa (b:Expr) {op:vl3} (h:op≠.In) (h2:op≠.NotIn):vf2 op b=false:=by
 have e1:(op == CmpOp.In)=false:=by cases op <;> first | rfl | exact absurd rfl h
 have e2:(op == CmpOp.NotIn)=false:=by cases op <;> first | rfl | exact absurd rfl h2
 cases b <;> simp [vf2,e1,e2]
def tB (t:TE):TT:=λ σ H Q=>t σ H λ x H1=>∃ c,x=.bl c/\Q c H1
theorem qk0 {e:Expr}{t:TE} (h:PE X e t) (he:∀ whole,isTrue e X.env whole=(do let v<-whole;standAt e.pos;holding [v] (truthy v)):=by intro _;rfl):PT X e (tB t):=by
 intro pins s σ H Q I hw
 refine isTrue_plain (thn (h pins s σ H _ I hw) λ v s1 ⟨x,H1,I1,r1,q1⟩=>?_) (he _)
 obtain ⟨d,rfl,q⟩:=q1
 cases r1
 exact vc4 ⟨H1,I1,q⟩
variable {tA tB':TT}{rest:List Expr}
def tAnd (t u:TT):TT:=λ σ H Q=>t σ H λ c H1=>if c=true then u σ H1 Q else Q false H1
def tOr (t u:TT):TT:=λ σ H Q=>t σ H λ c H1=>if c=true then Q true H1 else u σ H1 Q
def tNot (t:TT):TT:=λ σ H Q=>t σ H λ c H1=>Q (!c) H1
theorem qhx (ha:PT X a tA):PW X (.BoolOp .And [a] pos) tA:=by
 intro wh pins s σ H Q I h
 refine isTrue_and (thn (ha pins s σ H Q I h) λ c s1 e=>?_)
 cases c with
 | true=>exact isTrue_and_nil e
 | false=>exact e
theorem qky (ha:PT X a tA):PW X (.BoolOp .Or [a] pos) tA:=by
 intro wh pins s σ H Q I h
 refine isTrue_or (thn (ha pins s σ H Q I h) λ c s1 e=>?_)
 cases c with
 | false=>exact isTrue_or_nil e
 | true=>exact e
theorem qkz (ha:PT X a tA) (hb:PW X (.BoolOp .And (b::rest) pos) tB'):PW X (.BoolOp .And (a::b::rest) pos) (tAnd tA tB'):=by
 intro wh pins s σ H Q I h
 refine isTrue_and (thn (ha pins s σ H _ I h) λ c s1 ⟨H1,I1,q1⟩=>?_)
 cases c with
 | true=>exact hb wh pins s1 σ H1 Q I1 q1
 | false=>exact ⟨H1,I1,q1⟩
theorem qmz (ha:PT X a tA) (hb:PW X (.BoolOp .Or (b::rest) pos) tB'):PW X (.BoolOp .Or (a::b::rest) pos) (tOr tA tB'):=by
 intro wh pins s σ H Q I h
 refine isTrue_or (thn (ha pins s σ H _ I h) λ c s1 ⟨H1,I1,q1⟩=>?_)
 cases c with
 | true=>exact ⟨H1,I1,q1⟩
 | false=>exact hb wh pins s1 σ H1 Q I1 q1
theorem qk1 (ha:PT X a tA):PT X (.UnaryOp .Not a pos) (tNot tA):=by
 intro pins s σ H Q I h
 exact isTrue_not (ha pins s σ H (λ c H1=>Q (!c) H1) I h)
def qka (ta tb:TE):TE:=λ σ H Q=>ta σ H λ x H1=>∃ c,x=.bl c/\if c=true then tb σ H1 Q else Q (.bl false) H1
def tOrV (ta tb:TE):TE:=λ σ H Q=>ta σ H λ x H1=>∃ c,x=.bl c/\if c=true then Q (.bl true) H1 else tb σ H1 Q
def qj5 (ta:TE):TE:=λ σ H Q=>ta σ H λ x H1=>∃ c,x=.bl c/\Q (.bl (!c)) H1
theorem qb8 {op}{t:TE} (h:PE X a t):PE X (.BoolOp op [a] pos) t:=λ pins s σ H Q I hw=>BoolOp_one (h pins s σ H Q I hw)
theorem qf5 (ha:PE X a ta) (hb:PE X (.BoolOp .And (b::rest) pos) tb):PE X (.BoolOp .And (a::b::rest) pos) (qka ta tb):=by
 intro pins s σ H Q I h
 refine BoolOp_and (thn (ha pins s σ H _ I h) λ v s1 ⟨x,H1,I1,r1,q1⟩=>?_)
 obtain ⟨c,rfl,q1⟩:=q1
 cases r1
 refine vc4 ?_
 cases c with
 | true=>exact hb pins s1 σ H1 Q I1 q1
 | false=>exact ⟨.bl false,H1,I1,rfl,q1⟩
theorem qm1 (ha:PE X a ta) (hb:PE X (.BoolOp .Or (b::rest) pos) tb):PE X (.BoolOp .Or (a::b::rest) pos) (tOrV ta tb):=by
 intro pins s σ H Q I h
 refine BoolOp_or (thn (ha pins s σ H _ I h) λ v s1 ⟨x,H1,I1,r1,q1⟩=>?_)
 obtain ⟨c,rfl,q1⟩:=q1
 cases r1
 refine vc4 ?_
 cases c with
 | false=>exact hb pins s1 σ H1 Q I1 q1
 | true=>exact ⟨.bl true,H1,I1,rfl,q1⟩
theorem qf2 (ha:PE X a ta):PE X (.UnaryOp .Not a pos) (qj5 ta):=by
 intro pins s σ H Q I h
 refine UnaryOp_ (thn (ha pins s σ H _ I h) λ v s1 ⟨x,H1,I1,r1,q1⟩=>?_)
 obtain ⟨c,rfl,q1⟩:=q1
 cases r1
 exact not_of (vc4 ⟨.bl (!c),H1,I1,rfl,q1⟩)
end
def SqL (K:va6) (H:Hp) (a:Addr) (xs:List V):Prop:=
 Rd H a (.lst xs) \/
  ∃ (o:Obj) (its:Array va0) (n:Nat),K.lookup a=some o/\o.cls=.type "list" /\ o.dict=none/\o.data=.seq its n/\its.size<=va2/\Vals xs its.toList
def SqT (K:va6) (H:Hp) (a:Addr) (xs:List V):Prop:=
 Rd H a (.tup xs) \/
  ∃ (o:Obj) (its:Array va0) (n:Nat),K.lookup a=some o/\o.cls=.type "tuple" /\ o.data=.seq its n/\its.size<=va2/\Vals xs its.toList
def absV:va0->Option V
 | .none=>some .non
 | .bool b=>some (.bl b)
 | .int i _=>some (.int i)
 | .str x _=>some (.str x)
 | .bytes b _=>some (.byt b)
 | .float b _=>some (.flt b)
 | .ref a=>some (.ref a)
 | .type n=>some (.ty n)
 | _=>none
theorem RelV.abs {x:V}{u:va0} (r:RelV x u):absV u=some x:=by
 cases x with
 | non=>cases r;rfl
 | bl _=>cases r;rfl
 | int _=>obtain ⟨t,rfl⟩:=r;rfl
 | str _=>obtain ⟨t,rfl⟩:=r;rfl
 | byt _=>obtain ⟨t,rfl⟩:=r;rfl
 | flt _=>obtain ⟨t,rfl⟩:=r;rfl
 | ref _=>cases r;rfl
 | ty _=>cases r;rfl
theorem RelV.inj {x y:V}{u:va0} (r:RelV x u) (q:RelV y u):x=y:=Option.some.inj (r.abs.symm.trans q.abs)
theorem Vals.inj:∀ {xs ys:List V}{us:List va0},Vals xs us->Vals ys us->xs=ys
 | _,_,_,.nil,.nil=>rfl
 | _,_,_,.cons r t,.cons r' t'=>by rw [r.inj r',Vals.inj t t']
section
variable {X:Cx}{pins:List (Addr×Obj)}{σ:St}{H:Hp}{s:va1}{a:Addr}{xs ys:List V}
theorem Inv.list (I:Inv X pins σ H s) (h:SqL X.K H a xs):∃ its:List va0,Vals xs its/\PlainL s.heap a its.toArray/\xs.length<=va2:=by
 rcases h with h | ⟨o,its,n,hk,hc,hd,hs,hz,r⟩
 ·obtain ⟨z,its,n,r,e⟩:=h.ok I.hok
  exact ⟨its,r,⟨_,n,e,rfl,rfl,rfl⟩,z⟩
 ·refine ⟨its.toList,r,⟨o,n,I.kIn a o hk,hc,hd,by simpa using hs⟩,?_⟩
  have e:=r.length
  simp only [jf2] at e
  omega
theorem Inv.tuple (I:Inv X pins σ H s) (h:SqT X.K H a xs):∃ its:List va0,Vals xs its/\IsTup s.heap a its.toArray/\xs.length<=va2:=by
 rcases h with h | ⟨o,its,n,hk,hc,hs,hz,r⟩
 ·obtain ⟨z,its,r,p⟩:=h.ok I.hok
  exact ⟨its,r,p,z⟩
 ·refine ⟨its.toList,r,⟨o,I.kIn a o hk,hc,n,by simpa using hs⟩,?_⟩
  have e:=r.length
  simp only [jf2] at e
  omega
theorem Inv.list_inj (I:Inv X pins σ H s) (h:SqL X.K H a xs) (h':SqL X.K H a ys):xs=ys:=by
 obtain ⟨its,r,⟨o,n,e,_,_,d⟩,_⟩:=I.list h
 obtain ⟨its',r',⟨o',n',e',_,_,d'⟩,_⟩:=I.list h'
 rw [e] at e';cases e'
 rw [d] at d'
 injection d' with d1 _
 have:its=its':=by simpa using congrArg jm8 d1
 subst this
 exact r.inj r'
theorem Inv.tuple_inj (I:Inv X pins σ H s) (h:SqT X.K H a xs) (h':SqT X.K H a ys):xs=ys:=by
 obtain ⟨its,r,⟨o,e,_,n,d⟩,_⟩:=I.tuple h
 obtain ⟨its',r',⟨o',e',_,n',d'⟩,_⟩:=I.tuple h'
 rw [e] at e';cases e'
 rw [d] at d'
 injection d' with d1 _
 have:its=its':=by simpa using congrArg jm8 d1
 subst this
 exact r.inj r'
end
section
variable {X:Cx}{pins:List (Addr×Obj)}{σ:St}{H:Hp}{s:va1}{E:va0->va1->Prop}
end
section
variable {X:Cx}{st:Stmt}{rest:List Stmt}{t u:TS}{e:Expr}{te:TE}{pos:Pos}
def qj6:TS:=λ D σ H=>D.nx σ H
def tSeq (t u:TS):TS:=λ D σ H=>t { D with nx:=u D } σ H
theorem qb0:PSs X [] qj6:=λ _ _ σ H _ I h=>vh4 ⟨σ,H,I,h⟩
theorem zgv (h1:PS X st t) (h2:PSs X rest u):PSs X (st::rest) (tSeq t u):=by
 intro pins s σ H D I h
 refine wpAny_execs_cons (thn (h1 pins s σ H { D with nx:=u D } I h) λ f s1 q=>?_)
 cases f with
 | next=>
  obtain ⟨σ',H',I',q⟩:=q
  exact h2 pins s1 σ' H' D I' q
 | ret v=>exact q
 | brk=>exact q
 | cont=>exact q
theorem zyf (h1:PS X st t):PSs X [st] t:=by
 intro pins s σ H D I h
 refine wpAny_execs_cons (thn (h1 pins s σ H D I h) λ f s1 q=>?_)
 cases f with
 | next=>exact vh4 q
 | ret v=>exact q
 | brk=>exact q
 | cont=>exact q
theorem Inv.quiet {pins:List (Addr×Obj)}{σ:St}{H:Hp}{s:va1} (I:Inv X pins σ H s):interactive X.env=false:=by simp [interactive,I.ok.kind]
def qbg (te:TE):TS:=λ D σ H=>te σ H λ _ H1=>D.nx σ H1
theorem zbi (he:PE X e te) (hs:swapsWith e none pos.line X.env=pure false:=by rfl):PS X (.Expr e pos) (qbg te):=by
 intro pins s σ H D I h
 exact wpAny_Expr_any (thn (he pins s σ H _ I h) λ v s1 ⟨x,H1,I1,r1,q1⟩=>⟨σ,H1,I1,q1⟩) I.quiet hs
def tRet (te:TE):TS:=λ D σ H=>te σ H D.rt
theorem qfz (he:PE X e te):PS X (.Return (some e) pos) (tRet te):=by
 intro pins s σ H D I h
 exact wpAny_Return_some (thn (he pins s σ H _ I h) λ v s1 ⟨x,H1,I1,r1,q1⟩=>⟨x,σ,H1,I1,r1,q1⟩)
def tIfS (c:TT) (t u:TS):TS:=λ D σ H=>c σ H λ b H1=>if b=true then t D σ H1 else u D σ H1
theorem qk3 {c:Expr}{a b:List Stmt}{tc:TT} (hc:PT X c tc) (ha:PSs X a t) (hb:PSs X b u):PS X (.If c a b pos) (tIfS tc t u):=by
 intro pins s σ H D I h
 refine wpAny_If (thn (hc pins s σ H _ I h) λ d s1 ⟨H1,I1,q1⟩=>?_)
 cases d with
 | true=>exact ha pins s1 σ H1 D I1 q1
 | false=>exact hb pins s1 σ H1 D I1 q1
def zgn:TS:=λ _ _ _=>False
theorem zbh:PS X st zgn:=λ _ _ _ _ _ _ h=>h.elim
end
abbrev TG:=V->St->Hp->(St->Hp->Prop)->Prop
abbrev TGs:=List V->St->Hp->(St->Hp->Prop)->Prop
def PG (X:Cx) (target:Expr) (t:TG):Prop:=
 ∀ (pins:List (Addr×Obj)) (s:va1) (σ:St) (H:Hp) (v:V) (u:va0) (Q:St->Hp->Prop),Inv X pins σ H s->RelV v u->t v σ H Q ->
  vb2 (vb3 X.prog X.w) X.A (vk9 target X.env u) (λ _ s'=>∃ σ' H',Inv X pins σ' H' s'/\Q σ' H') X.xe s
def PGs (X:Cx) (ts:List Expr) (t:TGs):Prop:=
 ∀ (pins:List (Addr×Obj)) (s:va1) (σ:St) (H:Hp) (vs:List V) (us:List va0) (Q:St->Hp->Prop),Inv X pins σ H s->Vals vs us->t vs σ H Q ->
  vb2 (vb3 X.prog X.w) X.A (assignInOrder ((vc6 ts X.env).map (·.2)) us) (λ _ s'=>∃ σ' H',Inv X pins σ' H' s'/\Q σ' H') X.xe s
abbrev TSet:=V->V->V->Hp->(Hp->Prop)->Prop
def PSet (X:Cx) (t:TSet):Prop:=
 ∀ (pins:List (Addr×Obj)) (s:va1) (σ:St) (H:Hp) (o i v:V) (ov iv u:va0) (Q:Hp->Prop),Inv X pins σ H s->RelV o ov->RelV i iv->RelV v u->t o i v H Q ->
  vb2 (vb3 X.prog X.w) X.A (setItem ov iv u) (λ _ s'=>∃ H',Inv X pins σ H' s'/\Q H') X.xe s
section
variable {X:Cx}{pos:Pos}
def zyl (i:Nat):TG:=λ v σ H Q=>Q (σ.set i (some v)) H
theorem zbk {i:Nat}{x:Str} (hN:X.N.Nodup) (hi:X.N[i]?=some x) (hx:Loc X.env.scope x) (hf:X.fn x=true\/X.env.scope.names.lookup x=some .local:=by first | exact .inl rfl | exact .inr rfl | assumption):PG X (.Name x pos) (zyl i):=by
 intro pins s σ H v u Q I r h
 exact wpAny_assign_Name (zba I hN hi hx r (λ s' I'=>⟨_,H,I',h⟩) hf)
def gNil:TGs:=λ vs σ H Q=>vs=[]/\Q σ H
def ql3 (t:TG) (u:TGs):TGs:=λ vs σ H Q=>∃ v r,vs=v::r/\t v σ H λ σ' H'=>u r σ' H' Q
theorem qb5:PGs X [] gNil:=by
 intro pins s σ H vs us Q I r h
 obtain ⟨e,h⟩:=h
 subst e
 cases r
 exact assignInOrder_nil ⟨σ,H,I,h⟩
theorem zgy {e:Expr}{es:List Expr}{t:TG}{u:TGs} (h1:PG X e t) (h2:PGs X es u)
  (hs:(vc6 (e::es) X.env).map (·.2)=vk9 e X.env::(vc6 es X.env).map (·.2):=by rfl):PGs X (e::es) (ql3 t u):=by
 intro pins s σ H vs us Q I r h
 obtain ⟨v,vr,e1,h⟩:=h
 subst e1
 cases r with
 | cons r rr=>
  rw [hs]
  refine assignInOrder_cons (thn (h1 pins s σ H _ _ _ I r h) λ _ s1 ⟨σ1,H1,I1,q1⟩=>?_)
  exact h2 pins s1 σ1 H1 _ _ Q I1 rr q1
def gTup (K:va6) (n:Nat) (t:TGs):TG:=λ v σ H Q=>∃ a xs,v=.ref a/\SqT K H a xs/\xs.length=n/\t xs σ H Q
theorem qb6 {es:List Expr}{k:Nat}{t:TGs}{n:Nat} (hc:X.calm=true) (h:PGs X es t)
  (hn:(vc6 es X.env).length=n:=by rfl) (hst:(vc6 es X.env).findIdx? (·.1)=none:=by rfl):PG X (.Tuple es k pos) (gTup X.K n t):=by
 intro pins s σ H v u Q I r hw
 obtain ⟨a,xs,e1,hq,hl,hw⟩:=hw
 subst e1
 cases r
 obtain ⟨its,rv,ht,hz⟩:=I.tuple hq
 refine assign_Tuple_tuple (I.ok.hd hc) ht (by simp [hn,<- hl,rv.length]) hst λ h' hx=>?_
 have I1:Inv X pins σ H { s with heap:=h' }:=I.kept (t':=s.toks) λ b o e=>hx b o (jc3 (va5 e)) e
 exact h pins _ σ H xs _ Q I1 (by simpa using rv) hw
def gSub (to ti:TE) (t:TSet):TG:=λ v σ H Q=>to σ H λ o H1=>ti σ H1 λ i H2=>t o i v H2 λ H3=>Q σ H3
theorem zgz {o i:Expr}{to ti:TE}{t:TSet} (ho:PE X o to) (hi:PE X i ti) (hs:PSet X t)
  (ha:∀ v,vk9 (.Subscript o i pos) X.env v=(do
   let ov<-holding [v] (eval o X.env)
   let iv<-holding [v,ov] (eval i X.env)
   standAt pos
   holding [v,ov,iv] (setItem ov iv v)
   release [v,ov,iv] []):=by intro _;rfl):PG X (.Subscript o i pos) (gSub to ti t):=by
 intro pins s σ H v u Q I r h
 rw [ha]
 refine va7 (vi3 (thn (ho pins s σ H _ I h) λ ov s1 ⟨x,H1,I1,r1,q1⟩=>?_))
 refine va7 (vi3 (thn (hi pins s1 σ H1 _ I1 q1) λ iv s2 ⟨y,H2,I2,r2,q2⟩=>?_))
 refine va7 (wpAny_standAt (va7 (vi3 (thn (hs pins s2 σ H2 x y v ov iv u _ I2 r1 r2 r q2) λ _ s3 ⟨H3,I3,q3⟩=>?_))))
 exact wpAny_release ⟨σ,H3,I3,q3⟩
def tAsg (te:TE) (g:TG):TS:=λ D σ H=>te σ H λ x H1=>g x σ H1 D.nx
theorem zpx {tg e:Expr}{te:TE}{g:TG} (he:PE X e te) (hg:PG X tg g) (hs:swapsWithSole [tg] e pos.line X.env=pure false:=by rfl) (hw:swappedStores [tg] e X.env=pure none:=by rfl)
  (h1:(vc6 [tg] X.env).map (·.2)=[vk9 tg X.env]:=by rfl):PS X (.Assign [tg] e pos) (tAsg te g):=by
 intro pins s σ H D I h
 refine wpAny_Assign_stores (thn (he pins s σ H _ I h) λ v s1 ⟨x,H1,I1,r1,q1⟩=>?_) hs hw
 rw [h1]
 exact thn (hg pins s1 σ H1 x v _ I1 r1 q1) λ _ s2 q=>q
theorem zgw {i:Nat}{x:Str}{e:Expr}{te:TE}{pos':Pos} (hN:X.N.Nodup) (hi:X.N[i]?=some x) (hx:Loc X.env.scope x) (he:PE X e te) (hs:swapsWith e (some (.Name x pos')) pos.line X.env=pure false:=by rfl) (hf:X.fn x=true\/X.env.scope.names.lookup x=some .local:=by first | exact .inl rfl | exact .inr rfl | assumption):
  PS X (.Assign [.Name x pos'] e pos) (tAsg te (zyl i)):=by
 intro pins s σ H D I h
 refine wpAny_Assign_Name (thn (he pins s σ H _ I h) λ v s1 ⟨y,H1,I1,r1,q1⟩=>?_) hs
 exact zba I1 hN hi hx r1 (λ s2 I2=>⟨_,H1,I2,q1⟩) hf
end
section
variable {X:Cx}{pos:Pos}
end
structure It where
 go:Nat->Hp->Prop
 yld:Nat->Hp->V->Hp->Prop
 stop:Nat->Hp->Prop
def FpOk (X:Cx) (pins:List (Addr×Obj)) (H:Hp) (b:Addr):Prop:=
 H b=none/\b≠X.env.locals/\b∉X.fs/\(b∈X.ex\/X.s₀.heap.objs.size<=b)/\(∀ x c,X.env.cells.lookup x=some c->c≠b)/\∀ p∈X.pn++pins,p.1≠b
theorem Inv.fpOk {X:Cx}{pins:List (Addr×Obj)}{σ:St}{H H':Hp}{s:va1}{b:Addr} (I:Inv X pins σ H s) (hb:s.heap.objs.size<=b) (hn:H' b=none):FpOk X pins H' b:=by
 refine ⟨hn,jg3 (ja7 I.lt hb),I.nofs hb,.inr (jc4 I.sz hb),λ x c e z=>?_,λ p hp z=>?_⟩
 ·obtain ⟨v,q⟩:=I.cell x c e
  exact absurd (ja7 q.lt (by rw [z];exact hb)) (jd9 _)
 ·exact absurd (ja7 (va5 (I.pin p hp).1) (by rw [z];exact hb)) (jd9 _)
structure Turn (P:va8) (w:vb7) (K:va6) (tg:Expr) (J:It) (fp:List Addr) (it:Addr) (tn:Nat->Heap->Prop):Prop where
 mem:it∈fp
 obj:∀ i h,tn i h->∀ b∈fp,∃ o,h.get? b=some o/\∀ v,o.data≠.cell v
 keep:∀ i h h',tn i h->(∀ b∈fp,∀ o,h.get? b=some o->h'.get? b=some o)->tn i h'
 item:∀ (X:Cx),X.prog=P->X.w=w->X.K=K->X.calm=true->∀ (i:Nat) (pins:List (Addr×Obj)) (s:va1) (σ:St) (H:Hp) (E:va0->va1->Prop),Inv X pins σ H s->(∀ b∈fp,FpOk X pins H b)->tn i s.heap->J.go i H ->
  vb2 (vb3 P w) X.A (pyNext (.ref it)) (λ r s1=>∃ u,r=some u /\
   vb2 (vb3 P w) X.A (vh5 tg (.ref it) u) (λ _ s2=>∃ x H',Inv X pins σ H' s2/\RelV x u/\J.yld i H x H'/\tn (i + 1) s2.heap/\∀ b∈fp,H' b=none) E s1) E s
 done:∀ (X:Cx),X.prog=P->X.w=w->X.K=K->X.calm=true->∀ (i:Nat) (pins:List (Addr×Obj)) (s:va1) (σ:St) (H:Hp) (E:va0->va1->Prop),Inv X pins σ H s->(∀ b∈fp,FpOk X pins H b)->tn i s.heap->J.stop i H ->
  vb2 (vb3 P w) X.A (pyNext (.ref it)) (λ r s1=>r=none/\Inv X pins σ H s1) E s
 self:∀ (A:vc0) (i:Nat) (s:va1) (Q:va0->va1->Prop) (E:va0->va1->Prop),tn i s.heap->Q (.ref it) s->vb2 (vb3 P w) A (pyIter (.ref it)) Q E s
abbrev TI:=St->Hp->(It->Hp->Prop)->Prop
def PIE (X:Cx) (pins:List (Addr×Obj)) (σ:St) (tg:Expr) (R:It->Hp->Prop) (itv:va0) (s2:va1):Prop:=
 ∃ (it:Addr) (fp:List Addr) (tn:Nat->Heap->Prop) (J:It) (H':Hp),itv=.ref it/\Inv X pins σ H' s2/\Turn X.prog X.w X.K tg J fp it tn/\tn 0 s2.heap/\(∀ b∈fp,FpOk X pins H' b)/\R J H'
def PI (X:Cx) (tg iter:Expr) (wi:TI):Prop:=
 ∀ (pins:List (Addr×Obj)) (s:va1) (σ:St) (H:Hp) (R:It->Hp->Prop),Inv X pins σ H s->wi σ H R ->
  vb2 (vb3 X.prog X.w) X.A (eval iter X.env) (λ v s1=>vb2 (vb3 X.prog X.w) X.A (pyIter v) (PIE X pins σ tg R) X.xe s1) X.xe s
theorem qe1 {M:Model}{A:vc0}{E:va0->va1->Prop}{s:va1}{tg:Expr}{it:Addr}{u:va0}{o:Obj}{n:String}{vs:Array va0}{Q:Unit->va1->Prop} (ho:s.heap.get? it=some o) (hc:o.cls=.type n) (hd:o.data=.fields vs)
  (hn:["enumerate","zip","dict_itemiterator","dict_reverseitemiterator","odict_iterator","itertools.zip_longest","itertools.pairwise"].contains n=false) (hQ:Q () s):vb2 M A (vh5 tg (.ref it) u) Q E s:=by
 unfold vh5
 cases tg <;> first
  | exact vb0 hQ
  | (cases u <;> first
    | exact vb0 hQ
    | (refine va7 (wpAny_load ho ?_);rw [hc,hd];show vb2 M A (if (["enumerate","zip","dict_itemiterator","dict_reverseitemiterator","odict_iterator","itertools.zip_longest","itertools.pairwise"].contains n && vs[0]? == some (rawInt _))=true then _ else _) Q E s;rw [if_neg (by intro h;rw [hn,jc9] at h;cases h)];exact vb0 hQ))
def Itl (K:va6) (a:Addr):It:=
 ⟨λ i H=>∃ xs x,SqL K H a xs/\xs[i]?=some x,λ i H x H'=>H'=H/\∀ xs,SqL K H a xs->xs[i]?=some x,λ i H=>∃ xs,SqL K H a xs/\xs.length<=i⟩
def Itt (K:va6) (a:Addr):It:=
 ⟨λ i H=>∃ xs x,SqT K H a xs/\xs[i]?=some x,λ i H x H'=>H'=H/\∀ xs,SqT K H a xs->xs[i]?=some x,λ i H=>∃ xs,SqT K H a xs/\xs.length<=i⟩
def Itr (lo:Int) (n:Nat):It:=⟨λ i _=>i < n,λ i H x H'=>H'=H/\x=.int (lo + i),λ i _=>n<=i⟩
theorem qa5 {P:va8}{w:vb7}{K:va6}{tg:Expr} (a it:Addr):Turn P w K tg (Itl K a) [it] it (λ i h=>h.IsListIter it a i) where
 mem:=by simp
 obj:=λ i h st b hb=>by
  have e:b=it:=by simpa using hb
  subst e
  obtain ⟨o,e,c,d⟩:=st
  exact ⟨o,e,λ v z=>by rw [d] at z;cases z⟩
 keep:=λ i h h' st k=>st.at λ o e=>k it (by simp) o e
 item:=by
  intro X hP hw hK hc i pins s σ H E I hf st hg
  subst hP hw hK
  obtain ⟨xs,x,hq,hx⟩:=hg
  obtain ⟨its,rv,p,hz⟩:=I.list hq
  obtain ⟨u,hu,ru⟩:=rv.get hx
  obtain ⟨f0,f1,f2,f3,f4,f5⟩:=hf it (by simp)
  refine wpAny_pyNext_list_item st p.isList (x:=u) (by simpa using hu) λ h' st' sb=>?_
  have I1:Inv X pins σ H { s with heap:=h' }:=I.turned (t':=s.toks) (λ b o hb e=>(sb.2 b hb).trans e) f0 f1 f3 f4 f5
  obtain ⟨o,e,c,d⟩:=id st'
  exact ⟨u,rfl,qe1 (s:={ s with heap:=h' }) e c d (by decide) ⟨x,H,I1,ru,⟨rfl,λ ys hy=>by rw [I.list_inj hy hq];exact hx⟩,st',λ b hb=>(hf b hb).1⟩⟩
 done:=by
  intro X hP hw hK hc i pins s σ H E I hf st hg
  subst hP hw hK
  obtain ⟨xs,hq,hx⟩:=hg
  obtain ⟨its,rv,p,hz⟩:=I.list hq
  obtain ⟨f0,f1,f2,f3,f4,f5⟩:=hf it (by simp)
  have hl:=rv.length
  exact wpAny_pyNext_list_end (I.ok.hd hc) st p.isList (by simp;omega) λ h' eb=>⟨rfl,I.turned (t':=s.toks) (λ b o hb e=>eb b o hb e) f0 f1 f3 f4 f5⟩
 self:=λ _ _ _ _ _ st h=>wpAny_pyIter_listiter st h
theorem qab {P:va8}{w:vb7}{K:va6}{tg:Expr} (a it:Addr):Turn P w K tg (Itt K a) [it] it (λ i h=>h.IsTupleIter it a i) where
 mem:=by simp
 obj:=λ i h st b hb=>by
  have e:b=it:=by simpa using hb
  subst e
  obtain ⟨o,e,c,d⟩:=st
  exact ⟨o,e,λ v z=>by rw [d] at z;cases z⟩
 keep:=λ i h h' st k=>st.at λ o e=>k it (by simp) o e
 item:=by
  intro X hP hw hK hc i pins s σ H E I hf st hg
  subst hP hw hK
  obtain ⟨xs,x,hq,hx⟩:=hg
  obtain ⟨its,rv,p,hz⟩:=I.tuple hq
  obtain ⟨u,hu,ru⟩:=rv.get hx
  obtain ⟨f0,f1,f2,f3,f4,f5⟩:=hf it (by simp)
  refine wpAny_pyNext_tuple_item st (show s.heap.IsTuple a its.toArray from p) (x:=u) (by simpa using hu) λ h' st' sb=>?_
  have I1:Inv X pins σ H { s with heap:=h' }:=I.turned (t':=s.toks) (λ b o hb e=>(sb.2 b hb).trans e) f0 f1 f3 f4 f5
  obtain ⟨o,e,c,d⟩:=id st'
  exact ⟨u,rfl,qe1 (s:={ s with heap:=h' }) e c d (by decide) ⟨x,H,I1,ru,⟨rfl,λ ys hy=>by rw [I.tuple_inj hy hq];exact hx⟩,st',λ b hb=>(hf b hb).1⟩⟩
 done:=by
  intro X hP hw hK hc i pins s σ H E I hf st hg
  subst hP hw hK
  obtain ⟨xs,hq,hx⟩:=hg
  obtain ⟨its,rv,p,hz⟩:=I.tuple hq
  obtain ⟨f0,f1,f2,f3,f4,f5⟩:=hf it (by simp)
  have hl:=rv.length
  exact wpAny_pyNext_tuple_end (I.ok.hd hc) st (show s.heap.IsTuple a its.toArray from p) (by simp;omega) λ h' eb=>⟨rfl,I.turned (t':=s.toks) (λ b o hb e=>eb b o hb e) f0 f1 f3 f4 f5⟩
 self:=λ _ _ _ _ _ st h=>wpAny_pyIter_tupleiter st h
theorem qac {P:va8}{w:vb7}{K:va6}{tg:Expr} (it:Addr) (lo:Int) (n:Nat):Turn P w K tg (Itr lo n) [it] it (λ i h=>IsRangeIter h it (lo + (i:Nat) * 1) ((n:Int) - (i:Nat)) 1) where
 mem:=by simp
 obj:=λ i h st b hb=>by
  have e:b=it:=by simpa using hb
  subst e
  exact ⟨_,st,λ v z=>by
   have z':Data.fields _=Data.cell v:=z
   cases z'⟩
 keep:=λ i h h' st k=>k it (by simp) _ st
 item:=by
  intro X hP hw hK hc i pins s σ H E I hf st hg
  subst hP hw hK
  obtain ⟨f0,f1,f2,f3,f4,f5⟩:=hf it (by simp)
  have W:=Walks.range (prog:=X.prog) (w:=X.w) (I.ok.hd hc) it lo 1 n
  refine W.item i s _ _ hg st λ v h' tk hv st' kk=>?_
  obtain ⟨t,rfl⟩:=hv
  have I1:Inv X pins σ H { s with heap:=h',toks:=tk }:=I.turned (λ b o hb e=>kk b o (by simpa using hb) e) f0 f1 f3 f4 f5
  refine ⟨_,rfl,qe1 (s:={ s with heap:=h',toks:=tk }) (n := "range_iterator") st' rfl rfl (by decide) ⟨.int (lo + i),H,I1,⟨t,?_⟩,⟨rfl,rfl⟩,st',λ b hb=>(hf b hb).1⟩⟩
  rw [Int.mul_one]
 done:=by
  intro X hP hw hK hc i pins s σ H E I hf st hg
  subst hP hw hK
  obtain ⟨f0,f1,f2,f3,f4,f5⟩:=hf it (by simp)
  exact wpAny_pyNext_range_end (I.ok.hd hc) st (by have:n<=i:=hg;omega) λ h' eb=>⟨rfl,I.turned (t':=s.toks) (λ b o hb e=>eb b o hb e) f0 f1 f3 f4 f5⟩
 self:=λ _ _ _ _ _ st h=>wpAny_pyIter_rangeiter st h
section
variable {X:Cx}{tg:Expr}
theorem zgu {pins:List (Addr×Obj)}{σ:St}{H:Hp}{s:va1}{R:It->Hp->Prop}{E:va0->va1->Prop}{lo hi:Int}{t u v:Tok}{tk:Nat} (I:Inv X pins σ H s) (h1:-(2 ^ 62)<=lo) (h2:lo < 2 ^ 62) (h3:-(2 ^ 62)<=hi) (h4:hi < 2 ^ 62)
  (q:R (Itr lo (hi - lo).toNat) H):vb2 (vb3 X.prog X.w) X.A (pyIter (.ref s.heap.objs.size)) (PIE X pins σ tg R) E { s with heap:=s.heap.push { cls:=.type "range",data:=.fields #[.int lo t,.int hi u,.int 1 v] },toks:=tk }:=by
 refine wpAny_pyIter_range (IsRange.new ..) (small_one h1 h2 h3 h4) ?_
 have I1:Inv X pins σ H { s with heap:=s.heap.push { cls:=.type "range",data:=.fields #[.int lo t,.int hi u,.int 1 v] },toks:=tk }:=I.kept λ b o e=>va4 _ e
 refine ⟨(s.heap.push { cls:=.type "range",data:=.fields #[.int lo t,.int hi u,.int 1 v] }).objs.size,[(s.heap.push { cls:=.type "range",data:=.fields #[.int lo t,.int hi u,.int 1 v] }).objs.size],_,_,H,rfl,
  I1.kept (t':=tk) λ b o e=>va4 _ e,qac _ lo (hi - lo).toNat,?_,λ b hb=>?_,q⟩
 ·have e1:lo + ((0:Nat):Int) * 1=lo:=by simp
  have e2:(((hi - lo).toNat:Nat):Int) - ((0:Nat):Int)=Builtin.Range.rangeSize lo hi 1:=by rw [rangeSize_one];split <;> omega
  show IsRangeIter _ _ (lo + ((0:Nat):Int) * 1) ((((hi - lo).toNat:Nat):Int) - ((0:Nat):Int)) 1
  rw [e1,e2]
  exact vb1 _ rfl
 ·have e:b=(s.heap.push { cls:=.type "range",data:=.fields #[.int lo t,.int hi u,.int 1 v] }).objs.size:=by simpa using hb
  subst e
  exact I1.fpOk (jb4 _) (I1.hok.fresh (jb4 _))
def qew (ta:TA):TI:=λ σ H R=>ta σ H λ vs H1=>∃ j:Int,vs=[.int j]/\-(2 ^ 62)<=j/\j < 2 ^ 62/\R (Itr 0 j.toNat) H1
def qev (ta:TA):TI:=λ σ H R=>ta σ H λ vs H1=>∃ i j:Int,vs=[.int i,.int j]/\(-(2 ^ 62)<=i/\i < 2 ^ 62/\-(2 ^ 62)<=j/\j < 2 ^ 62)/\R (Itr i (j - i).toNat) H1
theorem qb4 {a:Expr}{ta:TA}{p pos:Pos} (hg:Gl X "range") (hm:X.mg "range" = none) (ha:PA X [a] ta) (hs:va3 [a] X.env=[(false,eval a X.env)]:=by rfl):PI X tg (.Call (.Name "range" p) [a] [] pos) (qew ta):=by
 intro pins s σ H R I h
 refine Call_ (zmj I hg hm boot_range (vf7 (thn (ha pos pins s σ H _ I h) λ us s1 ⟨vs,H1,I1,r1,q1⟩=>?_) hs rfl))
 obtain ⟨j,e,q1,q2,q⟩:=q1
 subst e
 cases r1 with
 | cons r rr=>
  cases rr
  obtain ⟨t,rfl⟩:=r
  exact call_range_1 (zgu I1 (by omega) (by omega) q1 q2 (by simpa using q))
theorem qb3 {a b:Expr}{ta:TA}{p pos:Pos} (hg:Gl X "range") (hm:X.mg "range" = none) (ha:PA X [a,b] ta) (hs:va3 [a,b] X.env=[(false,eval a X.env),(false,eval b X.env)]:=by rfl) (hs2:va3 [b] X.env=[(false,eval b X.env)]:=by rfl):
  PI X tg (.Call (.Name "range" p) [a,b] [] pos) (qev ta):=by
 intro pins s σ H R I h
 refine Call_ (zmj I hg hm boot_range (vf7 (thn (ha pos pins s σ H _ I h) λ us s1 ⟨vs,H1,I1,r1,q1⟩=>?_) (by rw [hs,hs2]) (by rw [hs2];rfl)))
 obtain ⟨i,j,e,⟨q1,q2,q3,q4⟩,q⟩:=q1
 subst e
 cases r1 with
 | cons r rr=>
  cases rr with
  | cons r' rr=>
   cases rr
   obtain ⟨t,rfl⟩:=r
   obtain ⟨t',rfl⟩:=r'
   exact call_range_2 (zgu I1 q1 q2 q3 q4 q)
def tFor (wi:TI) (g:TG) (tb:TS):TS:=λ D σ H=>wi σ H λ J H1=>∃ W:Nat->Nat->St->Hp->Prop,(∃ m,W 0 m σ H1)/\∀ i m σ H,W i m σ H ->
 (J.stop i H/\D.nx σ H)\/(J.go i H/\∃ N:St->Hp->Prop,(∀ σ' H',N σ' H'->∃ m',m' < m/\W (i + 1) m' σ' H')/\∀ x H',J.yld i H x H'->g x σ H' λ σ2 H2=>tb { D with nx:=N,ct:=N,bk:=D.nx } σ2 H2)
def zpy (fp:List Addr) (h:Heap):List (Addr×Obj):=fp.filterMap λ b=>(h.get? b).map λ o=>(b,o)
theorem zzz {fp:List Addr}{h:Heap}{b:Addr}{o:Obj} (hb:b∈fp) (e:h.get? b=some o):(b,o)∈zpy fp h:=jg4.mpr ⟨b,hb,by rw [e];rfl⟩
theorem qck {fp:List Addr}{h:Heap}{p:Addr×Obj} (hp:p∈zpy fp h):p.1∈fp/\h.get? p.1=some p.2:=by
 obtain ⟨b,hb,e⟩:=jg4.mp hp
 cases q:h.get? b with
 | none=>rw [q] at e;cases e
 | some o=>
  rw [q] at e
  have e':(b,o)=p:=Option.some.inj e
  subst e'
  exact ⟨hb,q⟩
theorem Inv.pinned {pins:List (Addr×Obj)}{σ:St}{H:Hp}{s:va1}{fp:List Addr} (I:Inv X pins σ H s) (hf:∀ b∈fp,FpOk X pins H b) (ho:∀ b∈fp,∃ o,s.heap.get? b=some o/\∀ v,o.data≠.cell v):Inv X (pins++zpy fp s.heap) σ H s:=
 I.pins_of λ p hp=>(jb3.mp hp).elim (λ z=>I.pin p (ja1 _ z)) λ z=>by
  obtain ⟨hb,e⟩:=qck z
  obtain ⟨f0,f1,f2,_⟩:=hf p.1 hb
  obtain ⟨o,e',d⟩:=ho p.1 hb
  rw [e] at e';cases e'
  exact ⟨e,f0,f1,f2,d⟩
theorem Inv.unpinned {pins pl:List (Addr×Obj)}{σ:St}{H:Hp}{s:va1} (I:Inv X (pins++pl) σ H s):Inv X pins σ H s:=I.pins_of λ p hp=>I.pin p (ja1 _ (ja4 _ hp))
theorem zjg {iter:Expr}{body:List Stmt}{wi:TI}{g:TG}{tb:TS}{pos:Pos} (hp:vl2 (vb3 X.prog X.w) X.A X.env X.xe) (hc:X.calm=true) (hi:PI X tg iter wi) (hg:PG X tg g) (hb:PSs X body tb)
  (hs:∀ x,vg6 iter X.env x=pure x:=by intro _;rfl):PS X (.For tg iter body [] pos) (tFor wi g tb):=by
 intro pins s σ H D I h
 refine wpAny_For (thn (hi pins s σ H _ I h) λ v s1 h1=>thn h1 λ itv s2 h2=>?_) hs
 obtain ⟨it,fp,tn,J,H2,e,I2,T,st2,f2,W,⟨m0,w0⟩,turn⟩:=h2
 subst e
 have stat:∀ {H':Hp},(∀ b∈fp,H' b=none)->∀ b∈fp,FpOk X pins H' b:=λ hn b hb=>⟨hn b hb,(f2 b hb).2⟩
 refine codeAny_forLoop_any (λ n s'=>∃ i σ' H',Inv X pins σ' H' s'/\tn i s'.heap/\(∀ b∈fp,H' b=none)/\W i n σ' H') ?_ m0 ⟨0,σ,H2,I2,st2,λ b hb=>(f2 b hb).1,w0⟩
 rintro n s3 ⟨i,σ3,H3,I3,st3,fr3,w3⟩
 rcases turn i n σ3 H3 w3 with ⟨stop,qn⟩ | ⟨go,N,hN,step⟩
 ·refine vf4 hp (thn (T.done X rfl rfl rfl hc i pins s3 σ3 H3 X.xe I3 (stat fr3) st3 stop) λ r s4 ⟨hr,I4⟩=>?_)
  subst hr
  exact vh4 ⟨σ3,H3,I4,qn⟩
 ·refine vf4 hp (thn (T.item X rfl rfl rfl hc i pins s3 σ3 H3 X.xe I3 (stat fr3) st3 go) λ r s4 ⟨u,hr,h4⟩=>?_)
  subst hr
  refine vf4 hp (thn h4 λ _ s5 ⟨x,H5,I5,r5,y5,st5,fr5⟩=>?_)
  have I5':=I5.pinned (stat fr5) (T.obj _ _ st5)
  refine vf4 hp (thn (hg _ s5 σ3 H5 x u _ I5' r5 (step x H5 y5)) λ _ s6 ⟨σ6,H6,I6,q6⟩=>?_)
  refine vf4 hp (thn (hb _ s6 σ6 H6 _ I6 q6) λ f s7 q7=>?_)
  have again:∀ {σ7:St}{H7:Hp},Inv X (pins++zpy fp s5.heap) σ7 H7 s7->N σ7 H7->∃ m,m < n/\∃ i σ' H',Inv X pins σ' H' s7/\tn i s7.heap/\(∀ b∈fp,H' b=none)/\W i m σ' H':=λ {σ7 H7} I7 n7=>by
   obtain ⟨m',hm,w7⟩:=hN σ7 H7 n7
   refine ⟨m',hm,i + 1,σ7,H7,I7.unpinned,T.keep _ _ _ st5 λ b hb o e=>(I7.pin (b,o) (ja1 _ (ja1 _ (zzz hb e)))).1,λ b hb=>?_,w7⟩
   obtain ⟨o,e,d⟩:=T.obj _ _ st5 b hb
   exact (I7.pin (b,o) (ja1 _ (ja1 _ (zzz hb e)))).2.1
  cases f with
  | next=>obtain ⟨σ7,H7,I7,n7⟩:=q7;exact again I7 n7
  | cont=>obtain ⟨σ7,H7,I7,n7⟩:=q7;exact again I7 n7
  | brk=>obtain ⟨σ7,H7,I7,q7⟩:=q7;exact ⟨σ7,H7,I7.unpinned,q7⟩
  | ret v=>obtain ⟨x7,σ7,H7,I7,r7,q7⟩:=q7;exact ⟨x7,σ7,H7,I7.unpinned,r7,q7⟩
end
abbrev R2:=V->V->Hp->VK->Prop
def OpR (X:Cx) (f:va0->va0->Sem va0) (r:R2):Prop:=
 ∀ (pins:List (Addr×Obj)) (s:va1) (σ:St) (H:Hp) (x y:V) (v u:va0) (Q:VK),Inv X pins σ H s->RelV x v->RelV y u->r x y H Q ->
  vb2 (vb3 X.prog X.w) X.A (f v u) (EP X pins σ Q) X.xe s
def UnR (X:Cx) (f:va0->Sem va0) (r:V->Hp->VK->Prop):Prop:=
 ∀ (pins:List (Addr×Obj)) (s:va1) (σ:St) (H:Hp) (x:V) (v:va0) (Q:VK),Inv X pins σ H s->RelV x v->r x H Q ->
  vb2 (vb3 X.prog X.w) X.A (f v) (EP X pins σ Q) X.xe s
def zws (X:Cx) (f:va0) (r:List V->Hp->VK->Prop):Prop:=
 ∀ (pins:List (Addr×Obj)) (s:va1) (σ:St) (H:Hp) (xs:List V) (us:List va0) (Q:VK),Inv X pins σ H s->Vals xs us->r xs H Q ->
  vb2 (vb3 X.prog X.w) X.A (call f us) (EP X pins σ Q) X.xe s
def tOp (r:R2) (ta tb:TE):TE:=λ σ H Q=>ta σ H λ x H1=>tb σ H1 λ y H2=>r x y H2 Q
def tUn (r:V->Hp->VK->Prop) (ta:TE):TE:=λ σ H Q=>ta σ H λ x H1=>r x H1 Q
def rI (C:Int->Int->Prop) (g:Int->Int->V):R2:=λ x y H Q=>∃ i j,x=.int i/\y=.int j/\C i j/\Q (g i j) H
def rI0 (g:Int->Int->V):R2:=λ x y H Q=>∃ i j,x=.int i/\y=.int j/\Q (g i j) H
def rU (g:Int->V):V->Hp->VK->Prop:=λ x H Q=>∃ i,x=.int i/\Q (g i) H
section
variable {X:Cx}{a b c:Expr}{ta tb tc:TE}{pos:Pos}
theorem binT (ha:PE X a ta) (hb:PE X b tb) {pins:List (Addr×Obj)}{s:va1}{σ:St}{H:Hp}{R:V->V->Hp->Prop} (I:Inv X pins σ H s)
  (h:ta σ H λ x H1=>tb σ H1 λ y H2=>R x y H2) {Q:va0->va1->Prop}{f:va0->va0->Sem va0}
  (hf:∀ v u s2 x y H2,Inv X pins σ H2 s2->RelV x v->RelV y u->R x y H2->vb2 (vb3 X.prog X.w) X.A (f v u) Q X.xe s2):
  vb2 (vb3 X.prog X.w) X.A (eval a X.env) (λ v s₁=>vb2 (vb3 X.prog X.w) X.A (eval b X.env) (λ u s₂=>vb2 (vb3 X.prog X.w) X.A (f v u) Q X.xe s₂) X.xe s₁) X.xe s:=by
 refine thn (ha pins s σ H _ I h) λ v s1 ⟨x,H1,I1,r1,q1⟩=>?_
 refine thn (hb pins s1 σ H1 _ I1 q1) λ u s2 ⟨y,H2,I2,r2,q2⟩=>?_
 exact hf v u s2 x y H2 I2 r1 r2 q2
theorem qei {op:Operator}{r:R2} (ho:OpR X (vd5 op) r) (ha:PE X a ta) (hb:PE X b tb):PE X (.BinOp a op b pos) (tOp r ta tb):=by
 intro pins s σ H Q I h
 exact wpAny_BinOp (binT ha hb I h λ v u s2 x y H2 I2 rx ry q=>ho pins s2 σ H2 x y v u Q I2 rx ry q)
theorem qm0 {op:UnaryOp}{r:V->Hp->VK->Prop} (ho:UnR X (unaryOp op) r) (ha:PE X a ta):PE X (.UnaryOp op a pos) (tUn r ta):=by
 intro pins s σ H Q I h
 exact UnaryOp_ (thn (ha pins s σ H _ I h) λ v s1 ⟨x,H1,I1,r1,q1⟩=>ho pins s1 σ H1 x v Q I1 r1 q1)
theorem opI {f:va0->va0->Sem va0}{C:Int->Int->Prop}{g:Int->Int->Int}
  (rule:∀ (i j:Int) (t u:Tok) (s:va1) (Q:va0->va1->Prop) (E:va0->va1->Prop),C i j->Q (.int (g i j) s.toks) { s with toks:=s.toks + 1 }->vb2 (vb3 X.prog X.w) X.A (f (.int i t) (.int j u)) Q E s):
  OpR X f (rI C λ i j=>.int (g i j)):=by
 intro pins s σ H x y v u Q I rx ry h
 obtain ⟨i,j,rfl,rfl,hc,q⟩:=h
 obtain ⟨t,rfl⟩:=rx
 obtain ⟨t',rfl⟩:=ry
 exact rule i j t t' s _ _ hc ⟨.int (g i j),H,I.tok _,⟨_,rfl⟩,q⟩
theorem opI0 {f:va0->va0->Sem va0}{g:Int->Int->Int}
  (rule:∀ (i j:Int) (t u:Tok) (s:va1) (Q:va0->va1->Prop) (E:va0->va1->Prop),Q (.int (g i j) s.toks) { s with toks:=s.toks + 1 }->vb2 (vb3 X.prog X.w) X.A (f (.int i t) (.int j u)) Q E s):
  OpR X f (rI0 λ i j=>.int (g i j)):=by
 intro pins s σ H x y v u Q I rx ry h
 obtain ⟨i,j,rfl,rfl,q⟩:=h
 obtain ⟨t,rfl⟩:=rx
 obtain ⟨t',rfl⟩:=ry
 exact rule i j t t' s _ _ ⟨.int (g i j),H,I.tok _,⟨_,rfl⟩,q⟩
theorem opB0 {f:va0->va0->Sem va0}{g:Int->Int->Bool}
  (rule:∀ (i j:Int) (t u:Tok) (s:va1) (Q:va0->va1->Prop) (E:va0->va1->Prop),Q (.bool (g i j)) s->vb2 (vb3 X.prog X.w) X.A (f (.int i t) (.int j u)) Q E s):
  OpR X f (rI0 λ i j=>.bl (g i j)):=by
 intro pins s σ H x y v u Q I rx ry h
 obtain ⟨i,j,rfl,rfl,q⟩:=h
 obtain ⟨t,rfl⟩:=rx
 obtain ⟨t',rfl⟩:=ry
 exact rule i j t t' s _ _ ⟨.bl (g i j),H,I,rfl,q⟩
def CPow (i j:Int):Prop:=0<=j/\j<=1000000/\i.natAbs < 2 ^ 64
def CMul (i j:Int):Prop:=(-(2 ^ 64) < i/\i < 2 ^ 64)\/(-(2 ^ 64) < j/\j < 2 ^ 64)
theorem CMul.ok {i j:Int} (h:CMul i j):IntMulOk i j:=by
 rcases h with ⟨h1,h2⟩ | ⟨h1,h2⟩
 ·exact .of_left (intBits_le_64 h1 h2)
 ·exact .of_right (intBits_le_64 h1 h2)
theorem qlm:OpR X (vd5 .Add) (rI0 λ i j=>.int (i + j)):=opI0 λ _ _ _ _ _ _ _ q=>add_int q
theorem qlb:OpR X (vd5 .Mult) (rI CMul λ i j=>.int (i * j)):=opI λ _ _ _ _ _ _ _ hc q=>mul_int q hc.ok
theorem qlc:OpR X (vd5 .Mod) (rI (λ _ j=>0 < j) λ i j=>.int (i % j)):=opI λ i j _ _ _ _ _ hc q=>by
 have h1:(0:Int) < j:=hc
 exact mod_int' (by omega) (by rw [Int.fmod_eq_emod_of_nonneg i (by omega)];exact q)
theorem qk9:OpR X (vd5 .Pow) (rI CPow λ i j=>.int (i ^ j.toNat)):=opI λ _ _ _ _ _ _ _ hc q=>pow_int_small hc.1 hc.2.1 hc.2.2 q
theorem unI {f:va0->Sem va0}{g:Int->Int}
  (rule:∀ (i:Int) (t:Tok) (s:va1) (Q:va0->va1->Prop) (E:va0->va1->Prop),Q (.int (g i) s.toks) { s with toks:=s.toks + 1 }->vb2 (vb3 X.prog X.w) X.A (f (.int i t)) Q E s):
  UnR X f (rU λ i=>.int (g i)):=by
 intro pins s σ H x v Q I rx h
 obtain ⟨i,rfl,q⟩:=h
 obtain ⟨t,rfl⟩:=rx
 exact rule i t s _ _ ⟨.int (g i),H,I.tok _,⟨_,rfl⟩,q⟩
theorem qjs:UnR X (unaryOp .USub) (rU λ i=>.int (-i)):=unI λ _ _ _ _ _ q=>neg_int q
end
def scal:V->V->Bool
 | .non,.non=>true | .non,.int _=>true | .int _,.non=>true | .non,.bl _=>true | .bl _,.non=>true | .non,.str _=>true | .str _,.non=>true
 | .int _,.int _=>true | .bl _,.bl _=>true | .str _,.str _=>true | .byt _,.byt _=>true
 | .int _,.str _=>true | .str _,.int _=>true | .bl _,.str _=>true | .str _,.bl _=>true
 | _,_=>false
def rEq:R2:=λ x y H Q=>scal x y=true/\Q (.bl (decide (x=y))) H
theorem qdd {i j:Int}:decide (V.int i=V.int j)=(i == j):=by
 rw [jg5]
 simp
theorem qme {i j:Bool}:decide (V.bl i=V.bl j)=(i == j):=by
 rw [jg5]
 simp
theorem qi1 {i j:Str}:decide (V.str i=V.str j)=(i == j):=by
 rw [jg5]
 simp
theorem qi2 {i j:Array UInt8}:decide (V.byt i=V.byt j)=(i.toList == j.toList):=by
 rw [jg5]
 cases i
 cases j
 simp
section
variable {X:Cx}{a b c:Expr}{ta tb tc:TE}{pos:Pos}
theorem zwd {pins:List (Addr×Obj)}{σ:St}{H:Hp}{s:va1}{Q:VK}{k k':Bool} (I:Inv X pins σ H s) (q:Q (.bl k) H) (e:k=k'):EP X pins σ Q (.bool k') s:=by
 subst e
 exact ⟨.bl k,H,I,rfl,q⟩
theorem qm3:OpR X (vb4 .Eq) rEq:=by
 intro pins s σ H x y v u Q I rx ry h
 obtain ⟨hs,q⟩:=h
 cases x with
 | non=>
  cases rx
  cases y with
  | non=>cases ry;exact PySem.EqNone.eq_none_none (zwd I q (by simp))
  | bl j=>cases ry;exact PySem.EqNone.eq_none_bool (zwd I q (by simp))
  | int j=>obtain ⟨t',rfl⟩:=ry;exact PySem.EqNone.eq_none_int (zwd I q (by simp))
  | str j=>obtain ⟨t',rfl⟩:=ry;exact PySem.EqNone.eq_none_str (zwd I q (by simp))
  | _=>exact absurd (show false=true from hs) jc1
 | bl i=>
  cases rx
  cases y with
  | non=>cases ry;exact PySem.EqNone.eq_bool_none (zwd I q (by simp))
  | bl j=>cases ry;exact eq_bool (zwd I q qme)
  | str j=>obtain ⟨t',rfl⟩:=ry;exact PySem.EqMixed.eq_bool_str (zwd I q (by simp))
  | _=>exact absurd (show false=true from hs) jc1
 | int i=>
  obtain ⟨t,rfl⟩:=rx
  cases y with
  | non=>cases ry;exact PySem.EqNone.eq_int_none (zwd I q (by simp))
  | int j=>obtain ⟨t',rfl⟩:=ry;exact eq_int (zwd I q qdd)
  | str j=>obtain ⟨t',rfl⟩:=ry;exact PySem.EqMixed.eq_int_str (zwd I q (by simp))
  | _=>exact absurd (show false=true from hs) jc1
 | str i=>
  obtain ⟨t,rfl⟩:=rx
  cases y with
  | non=>cases ry;exact PySem.EqNone.eq_str_none (zwd I q (by simp))
  | bl j=>cases ry;exact PySem.EqMixed.eq_str_bool (zwd I q (by simp))
  | int j=>obtain ⟨t',rfl⟩:=ry;exact PySem.EqMixed.eq_str_int (zwd I q (by simp))
  | str j=>obtain ⟨t',rfl⟩:=ry;exact eq_str (zwd I q qi1)
  | _=>exact absurd (show false=true from hs) jc1
 | byt i=>
  obtain ⟨t,rfl⟩:=rx
  cases y with
  | byt j=>obtain ⟨t',rfl⟩:=ry;exact PySem.W.eq_bytes (zwd I q qi2)
  | _=>exact absurd (show false=true from hs) jc1
 | _=>cases y <;> exact absurd (show false=true from hs) jc1
theorem qld:OpR X (vb4 .Lt) (rI0 λ i j=>.bl (decide (i < j))):=opB0 λ _ _ _ _ _ _ _ q=>lt_int q
theorem qle:OpR X (vb4 .LtE) (rI0 λ i j=>.bl (decide (i<=j))):=opB0 λ _ _ _ _ _ _ _ q=>le_int q
theorem qli:OpR X (vb4 .Gt) (rI0 λ i j=>.bl (decide (j < i))):=opB0 λ _ _ _ _ _ _ _ q=>gt_int q
theorem qlj:OpR X (vb4 .GtE) (rI0 λ i j=>.bl (decide (j<=i))):=opB0 λ _ _ _ _ _ _ _ q=>ge_int q
theorem qlf:OpR X (vb4 .Is) (λ x y H Q=>y=.non/\Q (.bl (decide (x=.non))) H):=by
 intro pins s σ H x y v u Q I rx ry h
 obtain ⟨rfl,q⟩:=h
 cases ry
 refine is_none_gen (zwd I q ?_)
 cases x <;> first
  | (cases rx;rfl)
  | (obtain ⟨t,rfl⟩:=rx;rfl)
theorem qh8:OpR X (vb4 .IsNot) (λ x y H Q=>y=.non/\Q (.bl (!decide (x=.non))) H):=by
 intro pins s σ H x y v u Q I rx ry h
 obtain ⟨rfl,q⟩:=h
 cases ry
 refine isnot_none_gen (zwd I q ?_)
 cases x <;> first
  | (cases rx;rfl)
  | (obtain ⟨t,rfl⟩:=rx;rfl)
theorem OpR.or {f:va0->va0->Sem va0}{r r':R2} (h:OpR X f r) (h':OpR X f r'):OpR X f (λ x y H Q=>r x y H Q\/r' x y H Q):=by
 intro pins s σ H x y v u Q I rx ry q
 rcases q with q | q
 ·exact h pins s σ H x y v u Q I rx ry q
 ·exact h' pins s σ H x y v u Q I rx ry q
theorem qh3 {op:vl3}{r:R2} (ho:OpR X (vb4 op) r) (ha:PE X a ta) (hb:PE X b tb) (hm:vf2 op b=false):PE X (.Compare a [op] [b] pos) (tOp r ta tb):=by
 intro pins s σ H Q I h
 exact wpAny_Compare1 (binT ha hb I h λ v u s2 x y H2 I2 rx ry q=>ho pins s2 σ H2 x y v u Q I2 rx ry q) hm
def qju (t:TE):TT:=λ σ H Q=>t σ H λ x H'=>∃ k,x=.bl k/\Q k H'
theorem qh0 {op:vl3}{r:R2} (ho:OpR X (vb4 op) r) (ha:PE X a ta) (hb:PE X b tb) (hm:vf2 op b=false):PT X (.Compare a [op] [b] pos) (qju (tOp r ta tb)):=by
 intro pins s σ H Q I h
 refine wpAny_isTrue_Compare1 (thn (ha pins s σ H _ I h) λ v s1 ⟨x,H1,I1,r1,q1⟩=>thn (hb pins s1 σ H1 _ I1 q1) λ u s2 ⟨y,H2,I2,r2,q2⟩=>
  thn (ho pins s2 σ H2 x y v u _ I2 r1 r2 q2) λ c s3 ⟨z,H3,I3,r3,k,e,q3⟩=>?_) hm
 subst e
 cases r3
 exact vc4 ⟨H3,I3,q3⟩
def qbi (r r':R2) (ta tb tc:TE):TE:=λ σ H Q=>ta σ H λ x H1=>tb σ H1 λ y H2=>r x y H2 λ z H3=>∃ k,z=.bl k /\
 (if k=true then tc σ H3 λ w' H4=>r' y w' H4 Q else Q (.bl false) H3)
theorem qek {op op':vl3}{r r':R2} (ho:OpR X (vb4 op) r) (ho':OpR X (vb4 op') r') (ha:PE X a ta) (hb:PE X b tb) (hc:PE X c tc)
  (hm:lastMarks [op,op'] [b,c]=false:=by with_unfolding_all rfl):PE X (.Compare a [op,op'] [b,c] pos) (qbi r r' ta tb tc):=by
 intro pins s σ H Q I h
 refine Compare_chain (thn (ha pins s σ H _ I h) λ v s1 ⟨x,H1,I1,r1,q1⟩=>chain_link (thn (hb pins s1 σ H1 _ I1 q1) λ u s2 ⟨y,H2,I2,r2,q2⟩=>
  thn (ho pins s2 σ H2 x y v u _ I2 r1 r2 q2) λ d s3 ⟨z,H3,I3,r3,k,e,q3⟩=>?_)) hm
 subst e
 cases r3
 refine vc4 ?_
 cases k with
 | false=>exact ite_ff ⟨.bl false,H3,I3,rfl,q3⟩
 | true=>exact ite_tt (chain_last (thn (hc pins s3 σ H3 _ I3 q3) λ w' s4 ⟨z',H4,I4,r4,q4⟩=>ho' pins s4 σ H4 y z' u w' Q I4 r2 r4 q4))
theorem qef {op op':vl3}{r r':R2} (ho:OpR X (vb4 op) r) (ho':OpR X (vb4 op') r') (ha:PE X a ta) (hb:PE X b tb) (hc:PE X c tc)
  (hm:lastMarks [op,op'] [b,c]=false:=by with_unfolding_all rfl):PT X (.Compare a [op,op'] [b,c] pos) (qju (qbi r r' ta tb tc)):=by
 intro pins s σ H Q I h
 refine isTrue_chain (thn (ha pins s σ H _ I h) λ v s1 ⟨x,H1,I1,r1,q1⟩=>test_link (thn (hb pins s1 σ H1 _ I1 q1) λ u s2 ⟨y,H2,I2,r2,q2⟩=>
  thn (ho pins s2 σ H2 x y v u _ I2 r1 r2 q2) λ d s3 ⟨z,H3,I3,r3,k,e,q3⟩=>?_)) hm
 subst e
 cases r3
 refine vc4 ?_
 cases k with
 | false=>
  obtain ⟨k',e',q'⟩:=q3
  cases e'
  exact ite_ff ⟨H3,I3,q'⟩
 | true=>
  refine ite_tt (test_last (thn (hc pins s3 σ H3 _ I3 q3) λ w' s4 ⟨z',H4,I4,r4,q4⟩=>thn (ho' pins s4 σ H4 y z' u w' _ I4 r2 r4 q4) λ d' s5 ⟨z2,H5,I5,r5,k2,e2,q5⟩=>?_))
  subst e2
  cases r5
  exact vc4 ⟨H5,I5,q5⟩
theorem zjk:(va2:Nat) < 2 ^ 63:=by rw [sizeLine_eq];decide
theorem qak:OpR X (vd5 .Add) (λ x y H Q=>∃ i j,x=.str i/\y=.str j/\i.length + j.length<=va2/\Q (.str (i++j)) H):=by
 intro pins s σ H x y v u Q I rx ry h
 obtain ⟨i,j,rfl,rfl,hz,q⟩:=h
 obtain ⟨t,rfl⟩:=rx
 obtain ⟨t',rfl⟩:=ry
 exact add_str (λ t' tk=>⟨.str (i++j),H,I.tok _,⟨_,rfl⟩,q⟩) hz
theorem zvp {x:V}{us:List va0} (r:Vals [x] us):∃ u,us=[u]/\RelV x u:=by
 cases r with
 | cons r1 r2=>cases r2;exact ⟨_,rfl,r1⟩
theorem qa3 {x y:V}{us:List va0} (r:Vals [x,y] us):∃ u w',us=[u,w']/\RelV x u/\RelV y w':=by
 cases r with
 | cons r1 r2=>
  cases r2 with
  | cons r3 r4=>cases r4;exact ⟨_,_,rfl,r1,r3⟩
theorem qds (hc:X.calm=true):zws X (.builtin "max") (λ xs H Q=>∃ i j,xs=[.int i,.int j]/\Q (.int (if j > i then j else i)) H):=by
 intro pins s σ H xs us Q I r h
 obtain ⟨i,j,rfl,q⟩:=h
 obtain ⟨u,w',rfl,⟨t,rfl⟩,⟨t',rfl⟩⟩:=qa3 r
 refine max_two_ints (I.ok.hd hc) λ h' tk k=>⟨_,H,I.kept k,?_,q⟩
 by_cases hj:j > i
 ·rw [if_pos hj,if_pos hj];exact ⟨_,rfl⟩
 ·rw [if_neg hj,if_neg hj];exact ⟨_,rfl⟩
theorem qdq (hc:X.calm=true):zws X (.builtin "min") (λ xs H Q=>∃ i j,xs=[.int i,.int j]/\Q (.int (if j < i then j else i)) H):=by
 intro pins s σ H xs us Q I r h
 obtain ⟨i,j,rfl,q⟩:=h
 obtain ⟨u,w',rfl,⟨t,rfl⟩,⟨t',rfl⟩⟩:=qa3 r
 refine min_two_ints (I.ok.hd hc) λ h' tk k=>⟨_,H,I.kept k,?_,q⟩
 by_cases hj:j < i
 ·rw [if_pos hj,if_pos hj];exact ⟨_,rfl⟩
 ·rw [if_neg hj,if_neg hj];exact ⟨_,rfl⟩
theorem qdv:zws X (.type "int") (λ xs H Q=>(∃ i,xs=[.int i]/\Q (.int i) H)\/∃ k,xs=[.bl k]/\Q (.int (if k then 1 else 0)) H):=by
 intro pins s σ H xs us Q I r h
 rcases h with ⟨i,rfl,q⟩ | ⟨k,rfl,q⟩
 ·obtain ⟨u,rfl,t,rfl⟩:=zvp r
  exact call_int_int ⟨.int i,H,I,⟨_,rfl⟩,q⟩
 ·obtain ⟨u,rfl,r1⟩:=zvp r
  cases r1
  exact call_int_bool ⟨.int (if k then 1 else 0),H,I.tok _,⟨_,rfl⟩,q⟩
end
structure ObjM (h:Heap) (x dx C:Addr) (mA:Str->Option va0):Prop where
 obj:h.get? x=some (vl0 C dx)
 ns:h.Ns1 dx mA
 ne:dx≠x
theorem qcn {h:Heap}{dx:Addr}{mA:Str->Option va0} (n:h.Ns1 dx mA):∃ od,h.get? dx=some od/\∀ name,vl7 name od=some (mA name):=by
 obtain ⟨o,es,ep,ho,hd,hk,_,hm⟩:=n
 refine ⟨o,ho,λ name=>?_⟩
 have e:=hm name
 unfold nsFind findBy at e
 rw [<- Array.find?_toList] at e
 unfold vl7
 rw [hd]
 dsimp only
 split
 ·rename_i y q
  rw [q] at e
  exact congrArg some e
 ·rename_i q
  rw [q] at e
  have a:es.toList.any (·.refKey)=false:=by
   rw [List.any_eq_false]
   intro y hy
   obtain ⟨z,t,hkey⟩:=hk y (Array.mem_toList_iff.mp hy)
   simp [DictEntry.refKey,hkey]
  have a':¬ es.toList.any (·.refKey)=true:=by rw [a];exact jc1
  rw [if_neg a']
  exact congrArg some e
theorem ObjM.look {h:Heap}{x dx C:Addr}{mA:Str->Option va0} (I:ObjM h x dx C mA):∃ od,PySem.W.InstAt h x (vl0 C dx) C (some od)/\∀ name,vl7 name od=some (mA name):=
 let ⟨od,ho,hl⟩:=qcn I.ns
 ⟨od,⟨I.obj,rfl,rfl,ho⟩,hl⟩
section
variable {prog:va8}{w:vb7}{A:vc0}{E:va0->va1->Prop}{s:va1}{K:va6}{x dx C f:Addr}{mA:Str->Option va0}{name:Str}{v:va0}
end
section
variable {P:va8}{w:vb7}{H H':Hp}{h h':Heap}{a C dx:Addr}{fs fs':List (Str×V)}
theorem qip (hok:HOk P w H h) (e:H a=some (.ins C dx fs)):∃ mA,ObjM h a dx C mA/\(∀ f,RelO (fs.lookup f) (mA f))/\PySem.Within mA (fs.map (·.1))/\fs.length<=1000/\H dx=some (.own a):=by
 obtain ⟨d,z,ne,ob,mA,n,r,q⟩:=(show zxv P w H h a (.ins C dx fs) from hok a _ e)
 exact ⟨mA,⟨ob,n,ne⟩,r,q,z,d⟩
end
structure Cls (K:va6) (C:Addr):Prop where
 pg:PySem.W.plainGet K C Str.empty=true
 hd:PySem.W.hasDictIn K C=true
 po:PySem.W.plainOver K C=true
 sa:vb5 K (.ref C) "__setattr__" = some (some (.builtin "object.__setattr__"))
theorem Cls.get {K:va6}{C:Addr} (c:Cls K C) (f:Str):PySem.W.plainGet K C f=true:=c.pg
structure Con (K:va6) (C:Addr) (f:Str) (v:V) (u:va0):Prop where
 at_:vb5 K (.ref C) f=some (some u)
 rel:RelV v u
 get:PySem.W.specialIn K u "__get__" = some none
 cp:PySem.W.copiedNames.contains f=false
structure Meth (K:va6) (C:Addr) (m:Str) (f:Addr):Prop where
 at_:vb5 K (.ref C) m=some (some (.ref f))
 fn:PySem.W.isFn K (.ref f)=true
 kp:vd6 K (.ref f)=true
section
variable {X:Cx}{pins:List (Addr×Obj)}{σ:St}{H:Hp}{s:va1}{a C dx:Addr}{fs:List (Str×V)}{f:Str}{v:V}{A:vc0}{E:va0->va1->Prop}
end
section
variable {X:Cx}{o e value:Expr}{f:Str}{pos pos' tpos:Pos}{ta tv:TE}
end
section
variable {X:Cx}{pins:List (Addr×Obj)}{σ:St}{H:Hp}{s:va1}{A:vc0}{E:va0->va1->Prop}{Q:va0->va1->Prop}{c:va0}{b:Bool}
inductive TyOf (K:va6) (H:Hp):V->va0->Prop where
 | non:TyOf K H .non (.type "NoneType")
 | bl (x:Bool):TyOf K H (.bl x) (.type "bool")
 | int (i:Int):TyOf K H (.int i) (.type "int")
 | str (x:Str):TyOf K H (.str x) (.type "str")
 | flt (x:UInt64):TyOf K H (.flt x) (.type "float")
 | lst {a:Addr}{xs:List V} (e:H a=some (.lst xs)):TyOf K H (.ref a) (.type "list")
 | frz {a:Addr}{o:Obj}{xs:List V} (e:H a=some (.frz o (.lst xs))):TyOf K H (.ref a) (.type "list")
 | tup {a:Addr}{xs:List V} (e:H a=some (.tup xs)):TyOf K H (.ref a) (.type "tuple")
 | dK {a:Addr}{kvs:List (Key×V)} (e:H a=some (.dK kvs)):TyOf K H (.ref a) (.type "dict")
 | dT {a:Addr}{kvs:List (List Key×V)} (e:H a=some (.dT kvs)):TyOf K H (.ref a) (.type "dict")
 | ins {a C dx:Addr}{fs:List (Str×V)} (e:H a=some (.ins C dx fs)) (cl:Cls K C) (ha:vb5 K (.ref C) "__class__" = some (some (.builtin "object.__class__")))
   (hn:PySem.W.specialIn K (.builtin "object.__class__") "__get__" = some (some (.builtin "getset_descriptor.__get__"))) (htk:PySem.W.takesIn K (.builtin "object.__class__")=some true)
   (hm:vc7 K C (.type "object")=some true):TyOf K H (.ref a) (.ref C)
theorem qcy {x:V}{u t:va0} (I:Inv X pins σ H s) (rx:RelV x u) (ty:TyOf X.K H x t) (e:vb9 X.K t c=some b) (h:∀ tk,Q (.bool b) { s with toks:=tk }):
  vb2 (vb3 X.prog X.w) A (call (.builtin "isinstance") [u,c]) Q E s:=by
 cases ty with
 | non=>cases (show u=Value.none from rx);exact vb6 vj1 I.kIn True.intro e (λ z=>nomatch z) h
 | bl y=>cases (show u=Value.bool y from rx);exact vb6 PySem.W.kitx_bool I.kIn True.intro e (λ z=>nomatch z) h
 | int i=>obtain ⟨t,q⟩:=(show ∃ t,u=Value.int i t from rx);cases q;exact vb6 PySem.W.kitx_int I.kIn True.intro e (λ z=>nomatch z) h
 | str y=>obtain ⟨t,q⟩:=(show ∃ t,u=Value.str y t from rx);cases q;exact vb6 PySem.W.kitx_str I.kIn True.intro e (λ z=>nomatch z) h
 | flt y=>obtain ⟨t,q⟩:=(show ∃ t,u=Value.float y t from rx);cases q;exact vb6 PySem.W.kitx_float I.kIn True.intro e (λ z=>nomatch z) h
 | @lst a xs ea=>
  cases (show u=Value.ref a from rx)
  obtain ⟨_,_,n,_,h1⟩:=(show zxv X.prog X.w H s.heap a (.lst xs) from I.hok a _ ea)
  exact vb6 PySem.W.kitx_list I.kIn ⟨_,h1,rfl⟩ e (λ z=>nomatch z) h
 | @frz a ob xs ea=>
  cases (show u=Value.ref a from rx)
  obtain ⟨_,_,_,n,_,h1⟩:=(show zxv X.prog X.w H s.heap a (.frz ob (.lst xs)) from I.hok a _ ea)
  exact vb6 PySem.W.kitx_list I.kIn ⟨_,h1,rfl⟩ e (λ z=>nomatch z) h
 | @tup a xs ea=>
  cases (show u=Value.ref a from rx)
  obtain ⟨_,_,_,p⟩:=(show zxv X.prog X.w H s.heap a (.tup xs) from I.hok a _ ea)
  obtain ⟨o,h1,h2,_⟩:=p
  exact vb6 PySem.W.kitx_tuple I.kIn ⟨o,h1,h2⟩ e (λ z=>nomatch z) h
 | @dK a kvs ea=>
  cases (show u=Value.ref a from rx)
  obtain ⟨_,_,vs,_,p⟩:=(show zxv X.prog X.w H s.heap a (.dK kvs) from I.hok a _ ea)
  obtain ⟨o,es,ep,h1,h2,_⟩:=p
  exact vb6 PySem.W.kitx_dict I.kIn ⟨o,h1,h2.1⟩ e (λ z=>nomatch z) h
 | @dT a kvs ea=>
  cases (show u=Value.ref a from rx)
  obtain ⟨_,_,xs,_,o,es,ep,h1,h2,_⟩:=(show zxv X.prog X.w H s.heap a (.dT kvs) from I.hok a _ ea)
  exact vb6 PySem.W.kitx_dict I.kIn ⟨o,h1,h2.1⟩ e (λ z=>nomatch z) h
 | @ins a C dx fs ea cl ha hn htk hm=>
  cases (show u=Value.ref a from rx)
  obtain ⟨mA,O,_⟩:=qip I.hok ea
  obtain ⟨od,J,_⟩:=O.look
  exact vb6 (PySem.W.kitx_own (cl.get _) cl.hd ha hn htk hm) I.kIn J e (λ z=>nomatch z) h
end
structure Room (k:Nat) (A:vc0):Prop where
 hd:A.handled=none
 dp:A.depth + 3 * k + 5 < recursionLimit
 un:A.units + 16 * k + 200 < vf1
 gd:A.guards=some []
theorem Room.mono {j k:Nat}{A:vc0} (r:Room k A) (h:j<=k):Room j A:=⟨r.hd,by have:=r.dp;omega,by have:=r.un;omega,r.gd⟩
theorem Room.deeper {k:Nat}{A:vc0} (r:Room (k + 1) A) (env:Env):Room k (A.deeper env):=
 ⟨r.hd,by have:=r.dp;show A.depth + 1 + 3 * k + 5 < _;omega,by have:=r.un;show A.units + 3 + 16 * k + 200 < _;omega,r.gd⟩
theorem Room.depth {k:Nat}{A:vc0} (r:Room k A):A.depth < recursionLimit:=by have:=r.dp;omega
theorem Room.units {k:Nat}{A:vc0} (r:Room k A):A.units + 64 < vf1:=by have:=r.un;omega
def tNil:TA:=λ _ H Q=>Q [] H
def qbh (ta:TE) (tr:TA):TA:=λ σ H Q=>ta σ H λ x H1=>tr σ H1 λ xs H2=>Q (x::xs) H2
section
variable {X:Cx}{e:Expr}{es:List Expr}{te:TE}{t:TA}{pos:Pos}
theorem zvc:PA X [] tNil:=λ _ _ _ _ H Q I h=>Calls.spliced_nil ⟨[],H,I,.nil,h⟩
theorem zxp (ha:PE X e te) (hr:PA X es t) (hs:va3 (e::es) X.env=(false,eval e X.env)::va3 es X.env:=by rfl):PA X (e::es) (qbh te t):=by
 intro pos pins s σ H Q I h
 rw [hs]
 show vb2 _ _ (spliced ((false,eval e X.env)::vd2 pos (va3 es X.env))) _ _ s
 refine Calls.spliced_cons (thn (ha pins s σ H _ I h) λ u s1 ⟨x,H1,I1,r1,q1⟩=>?_)
 exact thn (hr pos pins s1 σ H1 _ I1 q1) λ us s2 ⟨xs,H2,I2,r2,q2⟩=>⟨x::xs,H2,I2,.cons r1 r2,q2⟩
def tTup (t:TA):TE:=λ σ H Q=>t σ H λ xs H1=>xs.length<=va2/\∀ p,H1 p=none->Q (.ref p) (upd H1 p (.tup xs))
def tLst (t:TA):TE:=λ σ H Q=>t σ H λ xs H1=>xs.length<=va2/\∀ p,H1 p=none->Q (.ref p) (upd H1 p (.lst xs))
theorem qf1 {x1} (h:PA X es t):PE X (.Tuple es x1 pos) (tTup t):=by
 intro pins s σ H Q I hq
 refine wpAny_Tuple_spliced (thn (h pos pins s σ H _ I hq) λ us s1 ⟨xs,H1,I1,r,z,q⟩=>⟨by rw [<- r.length];exact z,?_⟩)
 have hf:H1 s1.heap.objs.size=none:=I1.hok.fresh (jb4 _)
 refine ⟨.ref s1.heap.objs.size,upd H1 s1.heap.objs.size (.tup xs),I1.laid (t':=s1.toks) (λ b u e=>va4 _ e) (jb4 _) ?_,rfl,q _ hf⟩
 exact ⟨z,us,r,⟨_,vb1 _ rfl,rfl,_,rfl⟩⟩
theorem qf3 (h:PA X es t):PE X (.List es pos) (tLst t):=by
 intro pins s σ H Q I hq
 refine wpAny_List_spliced (thn (h pos pins s σ H _ I hq) λ us s1 ⟨xs,H1,I1,r,z,q⟩=>⟨by rw [<- r.length];exact z,?_⟩)
 have hf:H1 s1.heap.objs.size=none:=I1.hok.fresh (jb4 _)
 refine ⟨.ref s1.heap.objs.size,upd H1 s1.heap.objs.size (.lst xs),I1.laid (t':=s1.toks) (λ b u e=>va4 _ e) (jb4 _) ?_,rfl,q _ hf⟩
 exact ⟨z,us,0,r,vb1 _ rfl⟩
end
abbrev Sp:=List V->Hp->VK->XK->Prop
abbrev CXT:=List Env->Hp->va1->XK->va0->va1->Prop
structure Env0 (P:va8) (w:vb7) (K:va6) (mg:Str->Option va0) (base:Heap) (A:vc0) (outer:List Env) (s:va1) (H:Hp):Prop where
 frames:A.frames=some outer
 mod:Mod K mg base
 bs:∀ b o,base.get? b=some o->s.heap.get? b=some o/\H b=none
 bsz:base.objs.size<=s.heap.objs.size
 funs:s.heap.FunFrames base outer
 frf:∀ b∈frs outer,H b=none
 hok:HOk P w H s.heap
 bare:vg4 s.gens
def CE (outer:List Env) (P:va8) (w:vb7) (H:Hp) (s:va1) (Q:VK) (u:va0) (s':va1):Prop:=
 ∃ v H',s'.os=s.os/\vg4 s'.gens/\Un (frs outer) [] H H' s.heap s'.heap/\HOk P w H' s'.heap/\RelV v u/\Q v H'
def CR (CX:CXT) (outer:List Env) (P:va8) (w:vb7) (H:Hp) (s:va1) (Q:VK) (E:XK) (r:Result) (s':va1):Prop:=
 match r with
 | .ok (.ret u)=>CE outer P w H s Q u s'
 | .ok _=>False
 | .error e=>CX outer H s E e s'
structure FnOk (P:va8) (w:vb7) (K:va6) (mg:Str->Option va0) (base:Heap) (CX:CXT) (k:Nat) (f:Addr) (fd:vc5) (ps:List Str) (sp:Sp):Prop where
 len:∀ vs H Q E,sp vs H Q E->vs.length=ps.length
 run:∀ (A:vc0) (outer:List Env) (s:va1) (H:Hp) (args:Args) (us:List va0) (vs:List V) (Q:VK) (E:XK),Room k A->Env0 P w K mg base A outer s H->BindsTo s fd args (ps.zip us)->Vals vs us->sp vs H Q E ->
  vi9 (vb3 P w) A (.call (.ref f) args) (CR CX outer P w H s Q E) s
theorem FnOk.mono {P:va8}{w:vb7}{K:va6}{mg:Str->Option va0}{base:Heap}{CX:CXT}{j k:Nat}{f:Addr}{fd:vc5}{ps:List Str}{sp:Sp} (F:FnOk P w K mg base CX j f fd ps sp) (h:j<=k):
  FnOk P w K mg base CX k f fd ps sp:=⟨F.len,λ A outer s H args us vs Q E hr=>F.run A outer s H args us vs Q E (hr.mono h)⟩
section
variable {X:Cx}{pins:List (Addr×Obj)}{σ:St}{H:Hp}{s s':va1}
theorem Inv.env0 (I:Inv X pins σ H s):Env0 X.prog X.w X.K X.mg X.base X.A X.stack s H:=
 ⟨I.ok.frames,I.ok.mod,I.bs,jc4 I.ok.bsz I.sz,I.stack,I.stkFree,I.hok,I.bare⟩
theorem Inv.after {Q:VK}{u:va0} (I:Inv X pins σ H s) (h:CE X.stack X.prog X.w H s Q u s'):EP X pins σ Q u s':=by
 obtain ⟨v,H',os,bare,un,hok,r,q⟩:=h
 obtain ⟨hh,g,d,t,os'⟩:=s'
 obtain rfl:os'=s.os:=os
 exact ⟨v,H',I.call (h':=hh) (g':=g) (d':=d) (t':=t) (ch:=[]) un hok bare (λ b z=>absurd z (by simp)),r,q⟩
end
def zfj (K:va6) (fd:vc5) (ps:List Str) (ds:List va0):Prop:=
 ∀ (s:va1) (us:List va0),K.In s.heap->(us++ds).length=ps.length->BindsTo s fd ⟨us,[]⟩ (ps.zip (us++ds))
theorem zfj.all {K:va6}{fd:vc5}{ps:List Str} (h:∀ us:List va0,us.length=ps.length->bindArgs fd ⟨us,[]⟩=pure (ps.zip us)):zfj K fd ps []:=λ s us _ hl=>by
 rw [jg6] at hl ⊢
 exact .of_eq (h us hl)
section
variable {X:Cx}{CX:CXT}{k:Nat}{f C:Addr}{fd:vc5}{ps:List Str}{sp:Sp}{dvs:List V}{ds:List va0}{E:XK}{x m:Str}{p pos apos:Pos}{e o:Expr}{es:List Expr}{ta:TE}{t:TA}
structure Mk (K:va6) (C f:Addr):Prop where
 makes:PySem.W.makesIn K C=true
 init:vb5 K (.ref C) "__init__" = some (some (.ref f))
 fn:PySem.W.isFn K (.ref f)=true
 kp:vd6 K (.ref C)=true
end
section
variable {X:Cx}{CX:CXT}{k:Nat}{f C:Addr}{fd:vc5}{ps ks:List Str}{sp:Sp}{E:XK}{x m:Str}{p pos apos kpos:Pos}{e o:Expr}{es:List Expr}{kws:List vg1}{te ta:TE}{t tk:TA}{nm:Option Str}
structure KBinds (K:va6) (fd:vc5) (ps ks:List Str) (g:List va0->List va0->List va0) (gV:List V->List V->List V):Prop where
 to:∀ (s:va1) (us ws:List va0),K.In s.heap->(g us ws).length=ps.length->BindsTo s fd ⟨us,ks.zip ws⟩ (ps.zip (g us ws))
 rel:∀ {vs:List V}{us:List va0}{zs:List V}{ws:List va0},Vals vs us->Vals zs ws->Vals (gV vs zs) (g us ws)
variable {g:List va0->List va0->List va0}{gV:List V->List V->List V}
end
structure FnScope (N P:List Str) (sc:vd0):Prop where
 kind:sc.kind=.function:=by rfl
 co:sc.isCoroutine=false:=by rfl
 gen:sc.isGenerator=false:=by rfl
 nd:N.Nodup:=by decide +kernel
 pre:N.take P.length=P:=by rfl
 par:∀ x∈P,sc.names.lookup x=some .local\/sc.names.lookup x=some .cell:=by decide +kernel
 nofree:∀ y∈sc.names,y.2≠.free:=by decide +kernel
theorem zfc {kindOf:Str->Option vc8}{x:Str}:∀ {binds:List (Str×va0)}{m:Str->Option va0},(∀ v,(x,v)∉binds)->bindL kindOf binds m x=m x
 | [],_,_=>rfl
 | (n,v)::r,m,h=>by
  unfold bindL
  rw [zfc λ w hw=>h w (ja0 _ hw)]
  split
  ·have:x≠n:=by rintro rfl;exact h v ja2
   simp [this]
  ·rfl
theorem zfe {kindOf:Str->Option vc8}{x:Str}:∀ {binds:List (Str×va0)}{m:Str->Option va0},(∀ v,(x,v)∉binds)->bindC kindOf binds m x=m x
 | [],_,_=>rfl
 | (n,v)::r,m,h=>by
  unfold bindC
  rw [zfe λ w hw=>h w (ja0 _ hw)]
  split
  ·rfl
  ·have:x≠n:=by rintro rfl;exact h v ja2
   simp [this]
theorem zfd {kindOf:Str->Option vc8}{x:Str}{v:va0}:∀ {P:List Str}{vs:List va0}{i:Nat}{m:Str->Option va0},P.Nodup->P[i]?=some x->vs[i]?=some v->kindOf x=some .local ->
  bindL kindOf (P.zip vs) m x=some v
 | [],_,_,_,_,h,_,_=>by simp at h
 | _::_,[],_,_,_,_,h,_=>by simp at h
 | p::P,w::vs,0,m,nd,h1,h2,hk=>by
  simp at h1 h2;subst h1;subst h2
  show bindL kindOf ((p,w)::P.zip vs) m p=_
  unfold bindL
  rw [zfc λ v hv=>(ji1.mp nd).1 (jj6 hv).1,if_pos hk]
  simp
 | p::P,w::vs,i + 1,m,nd,h1,h2,hk=>by
  show bindL kindOf ((p,w)::P.zip vs) m x=_
  unfold bindL
  exact zfd (i:=i) (ji1.mp nd).2 (by simpa using h1) (by simpa using h2) hk
theorem zff {kindOf:Str->Option vc8}{x:Str}{v:va0}:∀ {P:List Str}{vs:List va0}{i:Nat}{m:Str->Option va0},P.Nodup->P[i]?=some x->vs[i]?=some v->kindOf x≠some .local ->
  bindC kindOf (P.zip vs) m x=some v
 | [],_,_,_,_,h,_,_=>by simp at h
 | _::_,[],_,_,_,_,h,_=>by simp at h
 | p::P,w::vs,0,m,nd,h1,h2,hk=>by
  simp at h1 h2;subst h1;subst h2
  show bindC kindOf ((p,w)::P.zip vs) m p=_
  unfold bindC
  rw [zfe λ v hv=>(ji1.mp nd).1 (jj6 hv).1,if_neg hk]
  simp
 | p::P,w::vs,i + 1,m,nd,h1,h2,hk=>by
  show bindC kindOf ((p,w)::P.zip vs) m x=_
  unfold bindC
  exact zff (i:=i) (ji1.mp nd).2 (by simpa using h1) (by simpa using h2) hk
def start (N:List Str) (vs:List V):St:=vs.map some++ja6 (N.length - vs.length) none
def cxOf (CX:CXT) (P:va8) (w:vb7) (K:va6) (mg:Str->Option va0) (base:Heap) (N:List Str) (qual:Str) (scope:vd0) (f:Addr) (cd:va0) (A:vc0) (outer:List Env) (s:va1) (H:Hp) (E:XK):Cx where
 prog:=P
 w:=w
 K:=K
 mg:=mg
 base:=base
 A:=A.deeper (vk7 qual scope s.heap.objs.size f cd)
 N:=N
 s₀:=s
 H₀:=H
 env:=vk7 qual scope s.heap.objs.size f cd
 outer:=outer
 stack:=vk7 qual scope s.heap.objs.size f cd::outer
 ex:=[]
 calm:=true
 fn:=λ _=>true
 pn:=[]
 xe:=λ e s'=>vb2 (vb3 P w) (A.deeper (vk7 qual scope s.heap.objs.size f cd)) (leaving (vk7 qual scope s.heap.objs.size f cd) e) (λ _ s''=>CX outer H s E e s'') (λ e' s''=>CX outer H s E e' s'') s'
theorem zhz {sc:vd0}{n:Nat}{x:Str} (h:sc.names.lookup x=some .cell):∃ c,(vc3 n sc.names []).lookup x=some c:=by
 have q:=PySem.W.cellsFrom_some sc.names n [] (.inl h)
 exact ji8.mp q
theorem qc0 {CX:CXT}{P:va8}{w:vb7}{K:va6}{mg:Str->Option va0}{base:Heap}{N ps:List Str}{qual:Str}{scope:vd0}{f:Addr}{cd:va0}{A:vc0}{outer:List Env}{s s1:va1}{H:Hp}{E:XK}{us:List va0}{vs:List V}
  (S:FnScope N ps scope) (hd:A.handled=none) (e0:Env0 P w K mg base A outer s H) (hl:vs.length=ps.length) (r:Vals vs us)
  (x:InCallC s s.heap.objs.size (bindL (vk7 qual scope s.heap.objs.size f cd).kindOf (ps.zip us) λ _=>none) (vc3 (s.heap.objs.size + 1) scope.names []) (bindC (vk7 qual scope s.heap.objs.size f cd).kindOf (ps.zip us) λ _=>none) s1):
  Inv (cxOf CX P w K mg base N qual scope f cd A outer s H E) [] (start N vs) H s1:=by
 have hpl:ps.length<=N.length:=by have:=congrArg List.length S.pre;rw [jd7] at this;omega
 obtain ⟨h1,tk,rfl,hk⟩:=x.done
 have noA:∀ b:Addr,b∉(cxOf CX P w K mg base N qual scope f cd A outer s H E).ex:=λ b z=>absurd (show b∈([]:List Addr) from z) (by simp)
 refine ⟨⟨e0.mod,S.kind,rfl,rfl,jb4 _,λ y z c h1 h2=>?_,λ y hy=>?_,λ y c _ h=>?_,λ _=>hd,Around.frames_deeper e0.frames,.inr ⟨rfl,rfl⟩,λ b z=>absurd z (noA b),e0.bs,e0.bsz,λ b _ _=>noA b,λ b z=>absurd z (noA b),e0.funs,e0.frf⟩,
  rfl,e0.bare,Un.kept hk,⟨_,x.toInCall.ns,λ i y v h1 h2 h3=>?_⟩,λ y c h=>⟨_,x.cell y c h⟩,e0.hok.fresh (jb4 _),λ y c h=>?_,λ p hp=>absurd (show p∈([]:List (Addr×Obj)) from hp) (by simp),e0.hok.kept hk,?_⟩
 ·exact name_of_addr x.apart (vd8 h1) (vd8 h2)
 ·have hy:scope.names.lookup y=some .cell\/scope.names.lookup y=some .free:=hy
  rcases hy with hy | hy
  ·exact zhz hy
  ·exact absurd rfl (S.nofree _ (vd8 hy))
 ·exact jl4 (x.above y c (vd8 h))
 ·have hi:i < vs.length:=by
   unfold start at h2
   by_cases hi:i < vs.length
   ·exact hi
   ·rw [jc5 (by simpa using hi)] at h2
    rw [jd1] at h2
    split at h2 <;> cases h2
  have ha:vs[i]?=some v:=by
   unfold start at h2
   rw [jb7 (by simpa using hi),jd2] at h2
   cases e:vs[i]? with
   | none=>rw [e] at h2;cases h2
   | some a=>rw [e] at h2;cases h2;rfl
  obtain ⟨u,hu,rv⟩:=r.get ha
  have hp:ps[i]?=some y:=by
   rw [<- S.pre,je2 (by omega)];exact h1
  have ndP:ps.Nodup:=by rw [<- S.pre];exact S.nd.sublist (List.take_sublist _ _)
  refine ⟨u,rv,?_⟩
  rcases S.par y (jk3 hp) with k | k
  ·exact .inl ⟨k,zfd ndP hp hu k⟩
  ·obtain ⟨c,e⟩:=zhz (n:=s.heap.objs.size + 1) k
   refine .inr ⟨.inl k,c,e,?_⟩
   have q:=x.cell y c e
   rw [zff ndP hp hu (by show scope.names.lookup y≠_;rw [k];decide)] at q
   exact q
 ·exact e0.hok.fresh (jl4 (x.above y c (vd8 h)))
 ·unfold start
  show _=N.length
  rw [jb8,jb5,je0]
  omega
theorem qnd {CX:CXT}{P:va8}{w:vb7}{K:va6}{mg:Str->Option va0}{base:Heap}{k:Nat}{f:Addr}{name qual:Str}{params:Arguments}{body:List Stmt}{scope:vd0}{dV kV doc pm cdv ct oc:va0}{an od:Option Addr}
  {osl:Array (Option va0)}{N ps:List Str}{sp:Sp} (lk:K.lookup f=some ⟨oc,od,.func (vg0 name qual params body scope dV kV doc pm an cdv ct),osl⟩) (hcd:vl8 K cdv qual=true) (S:FnScope N ps scope)
  (len:∀ vs H Q E,sp vs H Q E->vs.length=ps.length)
  (hbody:∀ (A:vc0) (outer:List Env) (s:va1) (H:Hp) (vs:List V) (Q:VK) (E:XK),Room k (A.deeper (vk7 qual scope s.heap.objs.size f cdv))->sp vs H Q E ->
   ∃ t,PSs (cxOf CX P w K mg base N qual scope f cdv A outer s H E) body t/\t { nx:=λ _ H'=>Q .non H',rt:=Q } (start N vs) H):
  FnOk P w K mg base CX (k + 1) f (vg0 name qual params body scope dV kV doc pm an cdv ct) ps sp:=by
 refine ⟨len,λ A outer s H args us vs Q E hr e0 hb r hsp=>?_⟩
 have hl:=len _ _ _ _ hsp
 have KX:K.In s.heap:=e0.mod.kin.keeps λ b o e=>(e0.bs b o e).1
 have lim:s.heap.NoLimit:=e0.mod.nolimit.keeps λ b o e=>(e0.bs b o e).1
 have hkind:∀ y∈ps.zip us,scope.names.lookup y.1=some .local\/(scope.names.lookup y.1=some .cell/\((vc3 (s.heap.objs.size + 1) scope.names []).lookup y.1).isSome=true):=λ ⟨n,v⟩ hy=>by
  rcases S.par n (jj6 hy).1 with q | q
  ·exact .inl q
  ·exact .inr ⟨q,PySem.W.cellsFrom_some _ _ _ (.inl q)⟩
 refine codeAny_call_function hr.depth (KX _ _ lk) rfl S.co S.gen rfl (PySem.W.codeRec_of KX hcd) (hb _ _ _ _ ?_)
 refine wpAny_newFunctionEnv_cells S.kind hkind λ env he s1 x=>?_
 subst he
 refine ⟨lim.keeps x.toInCall.keep,codeAny_func ?_⟩
 obtain ⟨t,ht,hq⟩:=hbody A outer s H vs Q E (hr.deeper _) hsp
 have I:Inv (cxOf CX P w K mg base N qual scope f cdv A outer s H E) [] (start N vs) H s1:=qc0 S hr.hd e0 hl r x
 refine vd1 (ht [] s1 (start N vs) H _ I hq) (λ fl s' hs=>?_) λ e s' hs=>hs
 have fin:∀ {σ':St}{H':Hp}{v:V}{u:va0},Inv (cxOf CX P w K mg base N qual scope f cdv A outer s H E) [] σ' H' s'->RelV v u->Q v H'->CE outer P w H s Q u s':=
  λ {σ' H' v u} J rv q=>⟨v,H',J.os,J.bare,J.base,J.hok,rv,q⟩
 cases fl with
 | ret u=>
  obtain ⟨v,σ',H',J,rv,q⟩:=hs
  exact fin J rv q
 | next=>
  obtain ⟨σ',H',J,q⟩:=hs
  exact fin (v:=V.non) (u:=Value.none) J rfl q
 | brk=>
  obtain ⟨_,_,_,q⟩:=hs
  exact ve1 q
 | cont=>
  obtain ⟨_,_,_,q⟩:=hs
  exact ve1 q
section
variable {X:Cx}{x:Str}{p pos:Pos}{e:Expr}{es:List Expr}{t:TA}{id T:String}{r:List V->Hp->VK->Prop}
def tCB (r:List V->Hp->VK->Prop) (t:TA):TE:=λ σ H Q=>t σ H λ vs H1=>r vs H1 Q
theorem zww (hc:zws X (.builtin id) r) (hg:Gl X x) (hm:X.mg x=none) (hv:vf0 x=some (.builtin id)) (ha:PA X (e::es) t) (hn:x ≠ "__name__" := by decide) (hdb:(x == ("__debug__" : Str))=false:=by decide)
  (he:va3 (e::es) X.env=(false,eval e X.env)::va3 es X.env:=by rfl) (hpl:(vd2 pos (va3 es X.env)).any (·.1)=false:=by rfl):PE X (.Call (.Name x p) (e::es) [] pos) (tCB r t):=by
 intro pins s σ H Q I h
 refine vi4 (zmj I hg hm hv ?_ hn hdb)
 exact PyProof.Rows.callWith_builtin1 (thn (ha pos pins s σ H _ I h) λ us s1 ⟨vs,H1,I1,r1,q1⟩=>hc pins s1 σ H1 vs us Q I1 r1 q1) he hpl
theorem zvs (hc:zws X (.type T) r) (hg:Gl X x) (hm:X.mg x=none) (hv:vf0 x=some (.type T)) (ha:PA X (e::es) t) (hn:x ≠ "__name__" := by decide) (hdb:(x == ("__debug__" : Str))=false:=by decide)
  (he:va3 (e::es) X.env=(false,eval e X.env)::va3 es X.env:=by rfl) (hpl:(vd2 pos (va3 es X.env)).any (·.1)=false:=by rfl):PE X (.Call (.Name x p) (e::es) [] pos) (tCB r t):=by
 intro pins s σ H Q I h
 refine vi4 (zmj I hg hm hv ?_ hn hdb)
 exact vf7 (thn (ha pos pins s σ H _ I h) λ us s1 ⟨vs,H1,I1,r1,q1⟩=>hc pins s1 σ H1 vs us Q I1 r1 q1) he hpl
end
end L2
namespace HT
open PySem PyProof.Rows
section
open PySem.SeqAt
open PySem.AutoSeq1 (wpAny_loadPart')
open PySem.MeetsSeq PySem.MeetsSeq2 PySem.MeetsSeq3
end
section
variable {prog:va8}{w:vb7}{A:vc0}{E:va0->va1->Prop}{s:va1}
theorem cat_tup {t b:Addr}{vs ws:List va0}{Q:va0->va1->Prop} (ht:IsTup s.heap t vs.toArray) (hb:IsTup s.heap b ws.toArray) (hv:vs≠[])
  (h1:ws=[]->Q (.ref t) s) (h2:ws≠[]->Q (.ref s.heap.objs.size) { s with heap:=s.heap.push { cls:=.type "tuple",data:=.seq (vs++ws).toArray } })
  (hsz:vs.length + ws.length<=va2):vb2 (vb3 prog w) A (vd5 .Add (.ref t) (.ref b)) Q E s:=by
 obtain ⟨⟨cls,dd,data,sl⟩,ho,hc,n,hd⟩:=id ht
 obtain ⟨⟨cls2,dd2,data2,sl2⟩,ho2,hc2,n2,hd2⟩:=id hb
 simp only at hc hd hc2 hd2
 subst hc hd hc2 hd2
 have e:vs.toArray++ws.toArray=(vs++ws).toArray:=by simp
 by_cases hw:ws=[]
 ·exact concat_meets ⟨_,ho,rfl⟩ ⟨_,ho2,rfl⟩ vk1 seq_tuple_add vh2 vh0 (vg7 _ _)
   (tuple_addW1 t b vs.toArray ws.toArray n n2 dd dd2 sl sl2 (by simpa using hv) (by simp [hw])) ⟨ho,ho2,h1 hw⟩
 ·refine concat_meets ⟨_,ho,rfl⟩ ⟨_,ho2,rfl⟩ vk1 seq_tuple_add vh2 vh0 (vg7 _ _)
   (tuple_addW2 t b vs.toArray ws.toArray n n2 dd dd2 sl sl2 (by simpa using hv) (by simpa using hw) (by rw [jb2,jb2];exact hsz)) ⟨ho,ho2,?_⟩
  rw [e]
  exact h2 hw
def sIx (n d:Nat):Option Int->Nat
 | none=>d
 | some v=>if v < 0 then (v + (n:Int)).toNat else min v.toNat n
theorem sIx_nat (n d k:Nat):sIx n d (some (k:Int))=min k n:=by
 show (if (k:Int) < 0 then ((k:Int) + (n:Int)).toNat else min (k:Int).toNat n)=min k n
 rw [if_neg (by omega),je6]
theorem qks (n d:Nat) (hd:d<=n) (o:Option Int):sIx n d o<=n:=by
 cases o with
 | none=>exact hd
 | some v=>
  show (if v < 0 then (v + (n:Int)).toNat else min v.toNat n)<=n
  by_cases hv:v < 0
  ·rw [if_pos hv];omega
  ·rw [if_neg hv];exact jj3 _ _
theorem qdl (v:Int) (n d:Nat):(if v < 0 then max (v + (n:Int)) 0 else min v (n:Int))=((sIx n d (some v):Nat):Int):=by
 show (if v < 0 then max (v + (n:Int)) 0 else min v (n:Int))=(((if v < 0 then (v + (n:Int)).toNat else min v.toNat n):Nat):Int)
 by_cases hv:v < 0
 ·simp only [if_pos hv];omega
 ·simp only [if_neg hv];omega
theorem qaz (lo hi:Option Int) (n:Nat):vg3 lo hi 1 (n:Int)=(((sIx n 0 lo:Nat):Int),((sIx n n hi:Nat):Int)):=by
 have h1:¬ ((1:Int) < 0):=by omega
 unfold vg3
 simp only [h1,if_false]
 refine Prod.ext ?_ ?_
 ·cases lo with
  | none=>rfl
  | some v=>exact qdl v n 0
 ·cases hi with
  | none=>rfl
  | some v=>exact qdl v n n
theorem qai (i j:Nat):vd7 (i:Int) (j:Int) 1=j - i:=by
 unfold vd7
 have h1:(1:Int) > 0:=by omega
 simp only [h1,if_true,Int.ediv_one]
 split <;> omega
theorem zje {v:va0}{o:Option Int}{Q:Option Int->va1->Prop} (p:IsPart v o) (h:Q o s):vb2 (vb3 prog w) A (Builtin.Slice.slicePartIndex v) Q E s:=by
 cases p with
 | none=>exact slicePart_none h
 | int i t=>exact slicePart_int h
theorem zkm {sl:Addr}{vl vu:va0}{lo hi:Option Int}{n:Nat}{Q:Int×Int×Nat->va1->Prop} (hs:s.heap.IsSliceOf sl vl vu .none) (pl:IsPart vl lo) (pu:IsPart vu hi)
  (h:Q (((sIx n 0 lo:Nat):Int),1,sIx n n hi - sIx n 0 lo) s):vb2 (vb3 prog w) A (vl5 (.ref sl) (pure (n:Int))) Q E s:=by
 obtain ⟨os,hos,hcs,hds⟩:=id hs
 unfold vl5 Builtin.Slice.sliceFields
 refine va7 (va7 (wpAny_field hos hds (x:=vl) rfl (va7 (wpAny_field hos hds (x:=vu) rfl (va7 (wpAny_field hos hds (x:=.none) rfl (vb0 ?_)))))))
 refine va7 (slicePart_none ?_)
 show vb2 _ _ (if ((1:Int) == 0)=true then _ else _) _ _ s
 rw [if_neg (by decide)]
 refine va7 (zje pl (va7 (zje pu (va7 (vb0 ?_)))))
 show vb2 _ _ (match vg3 lo hi 1 (n:Int) with | (lo,hi)=>pure (lo,(1:Int),vd7 lo hi 1)) _ _ s
 rw [qaz lo hi n]
 show vb2 _ _ (pure (((sIx n 0 lo:Nat):Int),(1:Int),vd7 ((sIx n 0 lo:Nat):Int) ((sIx n n hi:Nat):Int) 1)) _ _ s
 rw [qai]
 exact vb0 h
theorem qeh (xs:Array va0) (i k:Nat):((jd4 k).filterMap λ (m:Nat)=>xs[((i:Int) + (m:Int) * 1).toNat]?).toArray=((xs.toList.drop i).take k).toArray:=by
 have e:(λ (m:Nat)=>xs[((i:Int) + (m:Int) * 1).toNat]?)=λ m=>xs[i + m]?:=by
  funext m
  have:((i:Int) + (m:Int) * 1).toNat=i + m:=by omega
  rw [this]
 rw [e]
 have:=pick_run xs i k
 rw [List.filterMap_map] at this
 have e2:((λ x=>xs[x]?) ∘ λ x=>i + x)=λ m=>xs[i + m]?:=rfl
 rw [e2] at this
 rw [this]
theorem getItem_tuple_cut {t sl:Addr}{items:Array va0}{vl vu:va0}{lo hi:Option Int}{Q:va0->va1->Prop} (ht:IsTup s.heap t items) (hs:s.heap.IsSliceOf sl vl vu .none) (pl:IsPart vl lo) (pu:IsPart vu hi)
  (hw:¬ (sIx items.size 0 lo=0/\sIx items.size items.size hi=items.size))
  (h:Q (.ref s.heap.objs.size) { s with heap:=s.heap.push { cls:=.type "tuple",data:=.seq ((items.toList.drop (sIx items.size 0 lo)).take (sIx items.size items.size hi - sIx items.size 0 lo)).toArray } })
  (hsz:items.size<=va2):vb2 (vb3 prog w) A (getItem (.ref t) (.ref sl)) Q E s:=by
 have htake:sizeOk (.seq ((items.toList.drop (sIx items.size 0 lo)).take (sIx items.size items.size hi - sIx items.size 0 lo)).toArray):=by
  show ((items.toList.drop (sIx items.size 0 lo)).take (sIx items.size items.size hi - sIx items.size 0 lo)).toArray.size<=va2
  rw [jb2,jd7,jj4,jf2]
  omega
 have hj:sIx items.size items.size hi<=items.size:=qks _ _ (jb4 _) hi
 obtain ⟨os,hos,hcs,hds⟩:=id hs
 have hTs:s.TypeIs (.ref sl) "slice" := ⟨os,hos,hcs⟩
 unfold getItem
 try with_reducible refine vi3 ?_
 first | refine va7 (vb0 ?_) | skip
 refine va7 (wpAny_sequenceKey ht.typeIs (by decide) ?_)
 refine va7 (wpAny_callSpecial?_slot (name:=Str.ofString "__getitem__") ht.typeIs vj3
  (wpAny_call_entry vj3 ht.typeIs entry_tuple_getitem ?_ (args_tuple_getitem _ _)))
 show vb2 _ _ (Builtin.Tuple.tupleItemsOf (.ref t) >>= _) _ _ s
 refine va7 (tupleItemsOf_ ht ?_)
 refine va7 (wpAny_typeOf hTs ?_)
 rw [if_pos (by decide)]
 refine va7 (zkm hs pl pu ?_)
 have hno:¬ ((((sIx items.size 0 lo:Nat):Int) == 0 && (1:Int) == 1 && (sIx items.size items.size hi - sIx items.size 0 lo) == items.size)=true):=by
  intro q
  rw [ja3,ja3] at q
  have q1:((sIx items.size 0 lo:Nat):Int)=0:=eq_of_beq q.1.1
  have q2:sIx items.size items.size hi - sIx items.size 0 lo=items.size:=eq_of_beq q.2
  exact hw ⟨by omega,by omega⟩
 show vb2 _ _ (if (((sIx items.size 0 lo:Nat):Int) == 0 && (1:Int) == 1 && (sIx items.size items.size hi - sIx items.size 0 lo) == items.size)=true then _ else _) _ _ s
 rw [if_neg hno,qeh]
 first
  | exact va7 (m:=ve2 _) (ve6 (vb0 ⟨_,rfl,vb0 h⟩) htake)
  | exact va7 (m:=ve2 _) (ve6 (va7 (vb0 (vb0 ⟨_,rfl,vb0 h⟩))) htake)
  | exact va7 (va7 (m:=ve2 _) (ve6 (vb0 (vb0 ⟨_,rfl,vb0 h⟩)) htake))
  | exact va7 (va7 (m:=ve2 _) (ve6 (vb0 ⟨_,rfl,vb0 h⟩) htake))
end
end HT
namespace L2
open PySem PySem.Spec PyProof.Rows
abbrev TO:=St->Hp->(Option Int->Hp->Prop)->Prop
def PO (X:Cx) (e:Option Expr) (t:TO):Prop:=
 ∀ (pins:List (Addr×Obj)) (s:va1) (σ:St) (H:Hp) (Q:Option Int->Hp->Prop),Inv X pins σ H s->t σ H Q ->
  vb2 (vb3 X.prog X.w) X.A (evalPart e X.env) (λ u s'=>∃ o H',Inv X pins σ H' s'/\IsPart u o/\Q o H') X.xe s
def qbc:TO:=λ _ H Q=>Q none H
def qj4 (t:TE):TO:=λ σ H Q=>t σ H λ x H1=>∃ i,x=.int i/\Q (some i) H1
section
variable {X:Cx}{e:Expr}{te:TE}{lo hi:Option Expr}{tl th:TO}{pos p2:Pos}
theorem qb2:PO X none qbc:=by
 intro pins s σ H Q I h
 rw [evalPart_none]
 exact vb0 ⟨none,H,I,.none,h⟩
theorem zbj (h:PE X e te):PO X (some e) (qj4 te):=by
 intro pins s σ H Q I hw
 rw [evalPart_some]
 refine thn (h pins s σ H _ I hw) λ u s1 ⟨x,H1,I1,r1,q1⟩=>?_
 obtain ⟨i,rfl,q⟩:=q1
 obtain ⟨t,rfl⟩:=r1
 exact ⟨some i,H1,I1,.int i t,q⟩
def SlR (X:Cx) (r:V->Option Int->Option Int->Hp->VK->Prop):Prop:=
 ∀ (pins:List (Addr×Obj)) (s:va1) (σ:St) (H:Hp) (x:V) (v vl vu:va0) (lo hi:Option Int) (sl:Addr) (Q:VK),Inv X pins σ H s->RelV x v->s.heap.IsSliceOf sl vl vu .none->IsPart vl lo->IsPart vu hi->r x lo hi H Q ->
  ∃ T id,typeLookup (.type T) "__getitem__" = pure (some (.builtin id))/\s.TypeIs v T/\vb2 (vb3 X.prog X.w) X.A (getItem v (.ref sl)) (EP X pins σ Q) X.xe s
theorem SlR.or {r r':V->Option Int->Option Int->Hp->VK->Prop} (h:SlR X r) (h':SlR X r'):SlR X (λ x lo hi H Q=>r x lo hi H Q\/r' x lo hi H Q):=by
 intro pins s σ H x v vl vu lo hi sl Q I rx hs pl pu q
 rcases q with q | q
 ·exact h pins s σ H x v vl vu lo hi sl Q I rx hs pl pu q
 ·exact h' pins s σ H x v vl vu lo hi sl Q I rx hs pl pu q
def tSl (r:V->Option Int->Option Int->Hp->VK->Prop) (te:TE) (tl th:TO):TE:=λ σ H Q=>te σ H λ x H1=>tl σ H1 λ l H2=>th σ H2 λ u H3=>r x l u H3 Q
theorem zbl {r:V->Option Int->Option Int->Hp->VK->Prop} (hr:SlR X r) (he:PE X e te) (hl:PO X lo tl) (hu:PO X hi th):PE X (.Subscript e (.Slice lo hi none p2) pos) (tSl r te tl th):=by
 intro pins s σ H Q I h
 refine Subscript_ (thn (he pins s σ H _ I h) λ v s1 ⟨x,H1,I1,r1,q1⟩=>?_)
 refine wpAny_Slice (thn (hl pins s1 σ H1 _ I1 q1) λ vl s2 ⟨l,H2,I2,pl,q2⟩=>thn (hu pins s2 σ H2 _ I2 q2) λ vu s3 ⟨u,H3,I3,pu,q3⟩=>?_)
 rw [evalPart_none]
 refine vb0 ?_
 have I4:Inv X pins σ H3 { s3 with heap:=s3.heap.push { cls:=.type "slice",data:=.fields #[vl,vu,.none] } }:=I3.kept (t':=s3.toks) λ b ob q=>va4 _ q
 obtain ⟨T,id,hT,ht,hg⟩:=hr pins { s3 with heap:=s3.heap.push { cls:=.type "slice",data:=.fields #[vl,vu,.none] } } σ H3 x v vl vu l u s3.heap.objs.size Q I4 r1 (Heap.IsSliceOf.new ..) pl pu q3
 show vb2 (vb3 X.prog X.w) X.A (subscriptTail e (.Slice lo hi none p2) v (.ref s3.heap.objs.size)) (EP X pins σ Q) X.xe { s3 with heap:=s3.heap.push { cls:=.type "slice",data:=.fields #[vl,vu,.none] } }
 exact tail_any (ops:=[.ref s3.heap.objs.size,v]) ht hT hg (by with_unfolding_all rfl)
def cutV (xs:List V) (lo hi:Option Int):List V:=(xs.drop (HT.sIx xs.length 0 lo)).take (HT.sIx xs.length xs.length hi - HT.sIx xs.length 0 lo)
theorem zyq (xs:List V) (lo hi:Option Int):(cutV xs lo hi).length<=xs.length:=by
 unfold cutV
 rw [jd7,jj4]
 omega
def rSlT (K:va6):V->Option Int->Option Int->Hp->VK->Prop:=λ x lo hi H Q=>∃ a xs,x=.ref a/\SqT K H a xs /\
 ¬ (HT.sIx xs.length 0 lo=0/\HT.sIx xs.length xs.length hi=xs.length)/\∀ p,H p=none->Q (.ref p) (upd H p (.tup (cutV xs lo hi)))
theorem qbn:SlR X (rSlT X.K):=by
 intro pins s σ H x v vl vu lo hi sl Q I rx hs pl pu h
 obtain ⟨a,xs,rfl,hx,hw,q⟩:=h
 cases rx
 obtain ⟨its,r,ht,hz⟩:=I.tuple hx
 have hlen:its.toArray.size=xs.length:=by rw [jb2];exact r.length.symm
 refine ⟨"tuple",_,PyProof.Rows.slot_tuple_getitem.lookup,ht.typeIs,?_⟩
 refine HT.getItem_tuple_cut ht hs pl pu (by rw [hlen];exact hw) ?_ (by rw [hlen];exact hz)
 rw [hlen]
 refine ⟨.ref s.heap.objs.size,_,I.laid (t':=s.toks) (o:=.tup (cutV xs lo hi)) (λ b ob q=>va4 _ q) (jb4 _) ?_,rfl,q _ (I.hok.fresh (jb4 _))⟩
 exact ⟨jc4 (zyq xs lo hi) hz,_,(r.drop (HT.sIx xs.length 0 lo)).take (HT.sIx xs.length xs.length hi - HT.sIx xs.length 0 lo),IsTup.new _ _⟩
def qmy (K:va6):R2:=λ x y H Q=>∃ a b xs ys,x=.ref a/\y=.ref b/\SqT K H a xs/\SqT K H b ys/\xs≠[]/\xs.length + ys.length<=va2 /\
 (ys=[]->Q (.ref a) H)/\(ys≠[]->∀ p,H p=none->Q (.ref p) (upd H p (.tup (xs++ys))))
theorem Vals.nil_iff {xs:List V}{us:List va0} (r:Vals xs us):us=[]↔xs=[]:=by
 cases r with
 | nil=>simp
 | cons _ _=>simp
theorem qia:OpR X (vd5 .Add) (qmy X.K):=by
 intro pins s σ H x y v u Q I rx ry h
 obtain ⟨a,b,xs,ys,rfl,rfl,ha,hb,hx,hz,q1,q2⟩:=h
 cases rx
 cases ry
 obtain ⟨its,r1,p1,_⟩:=I.tuple ha
 obtain ⟨its2,r2,p2,_⟩:=I.tuple hb
 refine HT.cat_tup p1 p2 (λ z=>hx (r1.nil_iff.mp z)) (λ z=>⟨.ref a,H,I,rfl,q1 (r2.nil_iff.mp z)⟩) (λ z=>?_) (by rw [<- r1.length,<- r2.length];exact hz)
 refine ⟨.ref s.heap.objs.size,_,I.laid (t':=s.toks) (o:=.tup (xs++ys)) (λ b ob q=>va4 _ q) (jb4 _) ?_,rfl,q2 (λ w=>z (r2.nil_iff.mpr w)) _ (I.hok.fresh (jb4 _))⟩
 exact ⟨by rw [jb8];exact hz,_,r1.append r2,IsTup.new _ _⟩
end
def ixN (n:Nat) (i:Int):Option Nat:=if 0<=i then (if i < n then some i.toNat else none) else if -(n:Int)<=i then some (i + n).toNat else none
def atI {α:Type} (xs:List α) (i:Int):Option α:=(ixN xs.length i).bind λ j=>xs[j]?
theorem qcx {n:Nat}{i:Int}{j:Nat} (h:ixN n i=some j):seqIndex? i n=some j/\j < n/\-(n:Int)<=i/\i < n:=by
 unfold ixN at h
 by_cases h0:0<=i
 ·rw [if_pos h0] at h
  by_cases h1:i < n
  ·rw [if_pos h1] at h
   have e:i.toNat=j:=Option.some.inj h
   exact ⟨by rw [seqIndex_of h0 h1,e],by omega,by omega,h1⟩
  ·rw [if_neg h1] at h;cases h
 ·rw [if_neg h0] at h
  by_cases h1:-(n:Int)<=i
  ·rw [if_pos h1] at h
   have e:(i + n).toNat=j:=Option.some.inj h
   exact ⟨by rw [seqIndex_neg (by omega) h1,e],by omega,h1,by omega⟩
  ·rw [if_neg h1] at h;cases h
theorem zgi {α:Type}{xs:List α}{i:Int}{v:α} (h:atI xs i=some v):∃ j,seqIndex? i xs.length=some j/\xs[j]?=some v/\j < xs.length/\-(xs.length:Int)<=i/\i < xs.length:=by
 unfold atI at h
 cases e:ixN xs.length i with
 | none=>rw [e] at h;cases h
 | some j=>
  rw [e] at h
  obtain ⟨h1,h2,h3,h4⟩:=qcx e
  exact ⟨j,h1,h,h2,h3,h4⟩
def zpi (b:Expr):Prop:=∀ o i,subscripted b false o i=operate [o,i] (getItem o i)
def IxR (X:Cx) (r:R2):Prop:=
 ∀ (value slice:Expr) (pins:List (Addr×Obj)) (s:va1) (σ:St) (H:Hp) (x y:V) (v u:va0) (Q:VK),Inv X pins σ H s->RelV x v->RelV y u->r x y H Q ->
  subscripted slice false v u=operate [v,u] (getItem v u)->vb2 (vb3 X.prog X.w) X.A (subscriptTail value slice v u) (EP X pins σ Q) X.xe s
def MtR (X:Cx) (id:String) (r:V->List V->Hp->VK->Prop):Prop:=
 ∀ (pins:List (Addr×Obj)) (s:va1) (σ:St) (H:Hp) (x:V) (xs:List V) (v:va0) (us:List va0) (Q:VK),Inv X pins σ H s->RelV x v->Vals xs us->r x xs H Q ->
  vb2 (vb3 X.prog X.w) X.A (call (.builtin id) (v::us)) (EP X pins σ Q) X.xe s
section
variable {X:Cx}{a b:Expr}{ta tb:TE}{pos:Pos}
theorem IxR.or {r r':R2} (h:IxR X r) (h':IxR X r'):IxR X (λ x y H Q=>r x y H Q\/r' x y H Q):=by
 intro value slice pins s σ H x y v u Q I rx ry q hs
 rcases q with q | q
 ·exact h value slice pins s σ H x y v u Q I rx ry q hs
 ·exact h' value slice pins s σ H x y v u Q I rx ry q hs
theorem qb9 {r:R2} (hr:IxR X r) (ha:PE X a ta) (hb:PE X b tb) (hs:zpi b):PE X (.Subscript a b pos) (tOp r ta tb):=by
 intro pins s σ H Q I h
 exact Subscript_ (binT ha hb I h λ v u s2 x y H2 I2 rx ry q=>hr a b pins s2 σ H2 x y v u Q I2 rx ry q (hs _ _))
def rIxL (K:va6):R2:=λ x y H Q=>∃ p xs i v,x=.ref p/\y=.int i/\SqL K H p xs/\atI xs i=some v/\Q v H
def rIxT (K:va6):R2:=λ x y H Q=>∃ p xs i v,x=.ref p/\y=.int i/\SqT K H p xs/\atI xs i=some v/\Q v H
def rIxS:R2:=λ x y H Q=>∃ z i c,x=.str z/\y=.int i/\z.length<=va2/\atI z.cps.toList i=some c/\Q (.str ⟨#[c]⟩) H
theorem zbu:IxR X (rIxL X.K):=by
 intro value slice pins s σ H x y v u Q I rx ry h hs
 obtain ⟨p,xs,i,z,rfl,rfl,hq,he,q⟩:=h
 cases rx
 obtain ⟨t,rfl⟩:=ry
 obtain ⟨its,r,pl,hz⟩:=I.list hq
 obtain ⟨j,h1,h2,h3,h4,h5⟩:=zgi he
 obtain ⟨w,ew,rw'⟩:=r.get h2
 have hl:=r.length
 have hn:=zjk
 have fin:EP X pins σ Q w s:=⟨z,H,I,rw',q⟩
 by_cases h0:0<=i
 ·have hj:i.toNat=j:=by
   rw [seqIndex_of h0 h5] at h1
   exact Option.some.inj h1
  exact item_listR pl.isList h0 (by omega) (by rw [hj];simpa using ew) fin hs
 ·have hj:(i + (its.toArray.size:Int)).toNat=j:=by
   rw [seqIndex_neg (by omega) h4] at h1
   rw [jb2,<- hl]
   exact Option.some.inj h1
  exact subscriptTail_builtinR (x:=w) pl.isList.typeIs slot_list_getitem.lookup
   (wpAny_getItem_list_neg (Q:=λ r s'=>r=w/\EP X pins σ Q r s') pl.isList (by omega) (by rw [jb2] <;> omega) (by omega) (by rw [hj];simpa using ew) ⟨rfl,fin⟩) hs
theorem qlx:IxR X (rIxT X.K):=by
 intro value slice pins s σ H x y v u Q I rx ry h hs
 obtain ⟨p,xs,i,z,rfl,rfl,hq,he,q⟩:=h
 cases rx
 obtain ⟨t,rfl⟩:=ry
 obtain ⟨its,r,pl,hz⟩:=I.tuple hq
 obtain ⟨j,h1,h2,h3,h4,h5⟩:=zgi he
 obtain ⟨w,ew,rw'⟩:=r.get h2
 have hl:=r.length
 have hn:=zjk
 have fin:EP X pins σ Q w s:=⟨z,H,I,rw',q⟩
 exact subscriptTail_builtinR (x:=w) pl.typeIs slot_tuple_getitem.lookup
  (getItem_tuple (j:=j) (Q:=λ r s'=>r=w/\EP X pins σ Q r s') pl (by omega) (by omega) (by rw [jb2,<- hl];exact h1) (by simpa using ew) ⟨rfl,fin⟩) hs
theorem qly:IxR X rIxS:=by
 intro value slice pins s σ H x y v u Q I rx ry h hs
 obtain ⟨z,i,c,rfl,rfl,hz,he,q⟩:=h
 obtain ⟨t,rfl⟩:=rx
 obtain ⟨t',rfl⟩:=ry
 obtain ⟨j,h1,h2,h3,h4,h5⟩:=zgi he
 have hl:z.cps.toList.length=z.length:=by simp [Str.length]
 rw [hl] at h1 h4 h5
 have hn:=zjk
 exact tail_any (vg5 s z t) slot_str_getitem.lookup (getItem_str (c:=c) (by
  have e1:decide (i < -(2 ^ 63:Int))=false:=decide_eq_false (by omega)
  have e2:decide (i ≥ 2 ^ 63)=false:=decide_eq_false (by omega)
  rw [e1,e2,Bool.or_false]) (by rw [h1];simpa using h2) ⟨.str ⟨#[c]⟩,H,I.tok _,⟨_,rfl⟩,q⟩) hs
def rIx (K:va6):R2:=λ x y H Q=>rIxL K x y H Q\/rIxT K x y H Q\/rIxS x y H Q
theorem qf8:IxR X (rIx X.K):=zbu.or (qlx.or qly)
theorem qap (its:List va0) (n j:Nat) (u:va0):vj5 (·.setIfInBounds j u) { cls:=.type "list",data:=.seq its.toArray n }={ cls:=.type "list",data:=.seq (its.set j u).toArray n }:=by
 simp [vj5]
theorem Inv.lst {pins:List (Addr×Obj)}{σ:St}{H:Hp}{s:va1}{p:Addr}{xs:List V} (I:Inv X pins σ H s) (h:H p=some (.lst xs)):
  ∃ (its:List va0) (n:Nat),Vals xs its/\s.heap.get? p=some { cls:=.type "list",data:=.seq its.toArray n }/\xs.length<=va2:=by
 obtain ⟨z,its,n,r,e⟩:=I.hok p _ h
 exact ⟨its,n,r,e,z⟩
theorem Inv.lstUpd {pins:List (Addr×Obj)}{σ:St}{H:Hp}{s:va1}{p:Addr}{xs ys:List V}{its its':List va0}{n n':Nat}{f:Obj->Obj} (I:Inv X pins σ H s) (h:H p=some (.lst xs))
  (ho:s.heap.get? p=some { cls:=.type "list",data:=.seq its.toArray n }) (hf:f { cls:=.type "list",data:=.seq its.toArray n }={ cls:=.type "list",data:=.seq its'.toArray n' }) (r:Vals ys its') (hz:ys.length<=va2) (t:Nat):
  Inv X pins σ (upd H p (.lst ys)) { s with heap:=s.heap.update p f,toks:=t }:=by
 have e:(s.heap.update p f).get? p=some { cls:=.type "list",data:=.seq its'.toArray n' }:=by
  rw [Heap.get?_update_self f ho (by rw [hf] <;> rfl),hf]
 refine I.write (x:=p) (e:=p) (by rw [h];trivial) (.inl rfl) (λ b u hb q=>(Heap.get?_update_other _ _ (vc1 hb)).trans q) ⟨_,e⟩ ?_
 exact ⟨hz,its',n',r,e⟩
def qby:V->V->V->Hp->(Hp->Prop)->Prop:=λ o i v H Q=>∃ p xs k j,o=.ref p/\i=.int k/\H p=some (.lst xs)/\ixN xs.length k=some j/\Q (upd H p (.lst (xs.set j v)))
theorem zkq:PSet X qby:=by
 intro pins s σ H o i v ov iv u Q I ro ri rv h
 obtain ⟨p,xs,k,j,rfl,rfl,hp,hj,q⟩:=h
 cases ro
 obtain ⟨t,rfl⟩:=ri
 obtain ⟨its,n,r,ho,hz⟩:=I.lst hp
 obtain ⟨h1,h2,h3,h4⟩:=qcx hj
 have hl:=r.length
 have hn:=zjk
 have I':Inv X pins σ (upd H p (.lst (xs.set j v))) { s with heap:=s.heap.update p (vj5 (·.setIfInBounds j u)) }:=
  I.lstUpd hp ho (qap its n j u) (r.set rv j) (by rw [je1];exact hz) s.toks
 by_cases h0:0<=k
 ·have hk:k.toNat=j:=by
   rw [seqIndex_of h0 h4] at h1
   exact Option.some.inj h1
  exact PySem.W.ki_setAt ho h0 (by omega) (by rw [jb2,<- hl];exact h4) (by rw [hk];exact ⟨_,I',q⟩)
 ·have hk:(k + (its.toArray.size:Int)).toNat=j:=by
   rw [seqIndex_neg (by omega) h3] at h1
   rw [jb2,<- hl]
   exact Option.some.inj h1
  exact PySem.W.ki_setBack ho (by omega) (by rw [jb2,<- hl];exact h3) (by omega) (by rw [hk];exact ⟨_,I',q⟩)
theorem zpt (lo hi:Option Int) (n:Nat):(vf5 lo hi none n).1=((HT.sIx n 0 lo:Nat):Int)/\(vf5 lo hi none n).2.1=((HT.sIx n n hi:Nat):Int)/\(vf5 lo hi none n).2.2=1:=by
 refine ⟨?_,?_,rfl⟩
 ·cases lo with
  | none=>simp [vf5,HT.sIx]
  | some i=>
   simp only [vf5,HT.sIx,jl7,show (1:Int) > 0 by decide,if_true]
   by_cases h:i < 0
   ·simp only [h,if_true] <;> omega
   ·simp only [h,if_false] <;> omega
 ·cases hi with
  | none=>simp [vf5,HT.sIx]
  | some i=>
   simp only [vf5,HT.sIx,jl7,show (1:Int) > 0 by decide,if_true]
   by_cases h:i < 0
   ·simp only [h,if_true] <;> omega
   ·simp only [h,if_false] <;> omega
theorem zbc (its:List va0) (lo hi:Option Int):slicePick its.toArray lo hi none=((its.drop (HT.sIx its.length 0 lo)).take (HT.sIx its.length its.length hi - HT.sIx its.length 0 lo)).toArray:=by
 obtain ⟨h1,h2,h3⟩:=zpt lo hi its.toArray.size
 unfold slicePick
 rw [h1,h2,h3]
 simp only [sliceRange_one,pick_run,jb2] <;> rfl
def rSlL (K:va6):V->Option Int->Option Int->Hp->VK->Prop:=λ x lo hi H Q=>∃ a xs,x=.ref a/\SqL K H a xs/\∀ p,H p=none->Q (.ref p) (upd H p (.lst (cutV xs lo hi)))
theorem zfm:SlR X (rSlL X.K):=by
 intro pins s σ H x v vl vu lo hi sl Q I rx hs pl pu h
 obtain ⟨a,xs,rfl,hx,q⟩:=h
 cases rx
 obtain ⟨its,r,ht,hz⟩:=I.list hx
 have hlen:=r.length
 refine ⟨"list",_,slot_list_getitem.lookup,ht.isList.typeIs,?_⟩
 refine wpAny_getItem_list_slice ht.isList hs pl pu .none (by simp) ?_ (by rw [jb2] <;> omega)
 rw [zbc,<- hlen]
 refine ⟨.ref s.heap.objs.size,_,I.laid (t':=s.toks) (o:=.lst (cutV xs lo hi)) (λ b ob q=>va4 _ q) (jb4 _) ?_,rfl,q _ (I.hok.fresh (jb4 _))⟩
 exact ⟨jc4 (zyq xs lo hi) hz,_,0,(r.drop (HT.sIx xs.length 0 lo)).take (HT.sIx xs.length xs.length hi - HT.sIx xs.length 0 lo),vb1 _ rfl⟩
theorem zfb:zws X (.builtin "len") (λ xs H Q=>∃ p ys,xs=[.ref p]/\(SqL X.K H p ys\/SqT X.K H p ys)/\Q (.int ys.length) H):=by
 intro pins s σ H xs us Q I r h
 obtain ⟨p,ys,rfl,hq,q⟩:=h
 obtain ⟨u,rfl,rx⟩:=zvp r
 cases rx
 have hn:=zjk
 rcases hq with hq | hq
 ·obtain ⟨its,r',pl,hz⟩:=I.list hq
  have hlen:=r'.length
  exact Calls.call_len_list pl.isList (by simp only [jb2] <;> omega) ⟨.int ys.length,H,I.tok _,⟨s.toks + 1,by rw [jb2,hlen]⟩,q⟩
 ·obtain ⟨its,r',pl,hz⟩:=I.tuple hq
  have hlen:=r'.length
  exact len_tuple pl (by simp only [jb2] <;> omega) ⟨.int ys.length,H,I.tok _,⟨s.toks + 1,by rw [jb2,hlen]⟩,q⟩
theorem zfa:zws X (.builtin "len") (λ xs H Q=>∃ z,xs=[.str z]/\z.length<=va2/\Q (.int z.length) H):=by
 intro pins s σ H xs us Q I r h
 obtain ⟨z,rfl,hz,q⟩:=h
 obtain ⟨u,rfl,t,rfl⟩:=zvp r
 have hn:=zjk
 exact len_str (by omega) ⟨.int z.length,H,I.tok _,⟨_,rfl⟩,q⟩
theorem zws.or {f:va0}{r r':List V->Hp->VK->Prop} (h:zws X f r) (h':zws X f r'):zws X f (λ xs H Q=>r xs H Q\/r' xs H Q):=by
 intro pins s σ H xs us Q I rs q
 rcases q with q | q
 ·exact h pins s σ H xs us Q I rs q
 ·exact h' pins s σ H xs us Q I rs q
theorem zmz:zws X (.type "list") (λ xs H Q=>∃ p ys,xs=[.ref p]/\(SqL X.K H p ys\/SqT X.K H p ys)/\∀ l,H l=none->Q (.ref l) (upd H l (.lst ys))):=by
 intro pins s σ H xs us Q I r h
 obtain ⟨p,ys,rfl,hq,q⟩:=h
 obtain ⟨u,rfl,rx⟩:=zvp r
 cases rx
 have fin:∀ (its:List va0),Vals ys its->ys.length<=va2->∀ (h':Heap) (c':Nat),(∀ b o',s.heap.get? b=some o'->h'.get? b=some o') ->
   h'.get? s.heap.objs.size=some { cls:=.type "list",dict:=none,data:=.seq its.toArray c',slots:=#[] }->EP X pins σ Q (.ref s.heap.objs.size) { s with heap:=h' }:=λ its r' hz h' c' kp e=>
  ⟨.ref s.heap.objs.size,_,I.laid (t':=s.toks) kp (jb4 _) (show zxv X.prog X.w _ h' _ (.lst ys) from ⟨hz,its,c',r',e⟩),rfl,q _ (I.hok.fresh (jb4 _))⟩
 rcases hq with hq | hq
 ·obtain ⟨its,r',pl,hz⟩:=I.list hq
  have hlen:=r'.length
  obtain ⟨o,ho,hc,n,hd⟩:=pl.isList
  exact call_list_seq p (.inl rfl) ho hc hd (λ h' c' kp e=>fin its r' hz h' c' kp e) (by simp only [jb2] <;> omega)
 ·obtain ⟨its,r',pl,hz⟩:=I.tuple hq
  have hlen:=r'.length
  obtain ⟨o,ho,hc,n,hd⟩:=pl
  exact call_list_seq p (.inr rfl) ho hc hd (λ h' c' kp e=>fin its r' hz h' c' kp e) (by simp only [jb2] <;> omega)
theorem zpf:zws X (.type "tuple") (λ xs H Q=>∃ p ys,xs=[.ref p]/\((SqL X.K H p ys/\∀ l,H l=none->Q (.ref l) (upd H l (.tup ys)))\/(SqT X.K H p ys/\Q (.ref p) H))):=by
 intro pins s σ H xs us Q I r h
 obtain ⟨p,ys,rfl,h⟩:=h
 obtain ⟨u,rfl,rx⟩:=zvp r
 cases rx
 rcases h with ⟨hq,q⟩ | ⟨hq,q⟩
 ·obtain ⟨its,r',pl,hz⟩:=I.list hq
  have hlen:=r'.length
  refine call_tuple_list pl.isList (λ h' kp=>?_) (by simp only [jb2] <;> omega)
  have I1:Inv X pins σ H { s with heap:=h' }:=I.kept (t':=s.toks) kp
  have I2:Inv X pins σ (upd H h'.objs.size (.tup ys)) { s with heap:=h'.push { cls:=.type "tuple",data:=.seq its.toArray } }:=
   I1.laid (t':=s.toks) (λ b o e=>va4 _ e) (jb4 _) (show zxv X.prog X.w _ _ _ (.tup ys) from ⟨hz,its,r',IsTup.new _ _⟩)
  exact ⟨.ref h'.objs.size,_,I2,rfl,q _ (I1.hok.fresh (jb4 _))⟩
 ·obtain ⟨its,r',pl,hz⟩:=I.tuple hq
  exact call_tuple_same pl ⟨.ref p,H,I,rfl,q⟩
def tyV (K:va6) (T:String) (x:V) (H:Hp):Prop:=match x with
 | .str _=>T = "str"
 | .int _=>T = "int"
 | .ref p=>(T = "list" /\ ∃ xs,SqL K H p xs)\/(T = "tuple" /\ ∃ o,K.lookup p=some o/\o.cls=.type "tuple" /\ o.dict=none) \/
   (T = "dict" /\ ((∃ kvs,H p=some (.dK kvs))\/∃ kvs,H p=some (.dT kvs)))\/(T = "set" /\ ∃ S n,H p=some (.set S n))
 | _=>False
theorem qjt {pins:List (Addr×Obj)}{σ:St}{H:Hp}{s:va1}{T:String}{x:V}{v:va0} (I:Inv X pins σ H s) (r:RelV x v) (ty:tyV X.K T x H):
  s.TypeIs v T/\∀ a,v=.ref a->∃ ob,s.heap.get? a=some ob/\ob.dict=none:=by
 cases x with
 | str z=>
  obtain ⟨t,rfl⟩:=r
  cases (show T = "str" from ty)
  exact ⟨vg5 s z t,λ _ e=>nomatch e⟩
 | int i=>
  obtain ⟨t,rfl⟩:=r
  cases (show T = "int" from ty)
  exact ⟨typeIs_int s i t,λ _ e=>nomatch e⟩
 | ref p=>
  cases r
  rcases ty with ⟨rfl,xs,hq⟩ | ⟨rfl,o,hk,hc,hd⟩ | ⟨rfl,hk⟩ | ⟨rfl,S,n,hk⟩
  ·obtain ⟨its,_,pl,_⟩:=I.list hq
   refine ⟨pl.isList.typeIs,λ a e=>?_⟩
   cases e
   obtain ⟨o,n,e,c,hd,_⟩:=pl
   exact ⟨o,e,hd⟩
  ·refine ⟨⟨o,I.kIn p o hk,hc⟩,λ a e=>?_⟩
   cases e
   exact ⟨o,I.kIn _ o hk,hd⟩
  ·have z:∃ o,s.heap.get? p=some o/\o.ExactDict:=by
    rcases hk with ⟨kvs,hk⟩ | ⟨kvs,hk⟩
    ·obtain ⟨_,_,_,_,o,_,_,e,ex,_⟩:=I.hok p _ hk
     exact ⟨o,e,ex⟩
    ·obtain ⟨_,_,_,_,o,_,_,e,ex,_⟩:=I.hok p _ hk
     exact ⟨o,e,ex⟩
   obtain ⟨o,e,ex⟩:=z
   refine ⟨⟨o,e,ex.1⟩,λ a e2=>?_⟩
   cases e2
   exact ⟨o,e,ex.2.1⟩
  ·obtain ⟨o,_,_,_,e,ex,_⟩:=I.hok p _ hk
   refine ⟨⟨o,e,ex.1⟩,λ a e2=>?_⟩
   cases e2
   exact ⟨o,e,ex.2.1⟩
 | _=>exact ve1 ty
def tBM (K:va6) (T:String) (r:V->List V->Hp->VK->Prop) (to:TE) (t:TA):TE:=λ σ H Q=>to σ H λ x H1=>tyV K T x H1/\t σ H1 λ xs H2=>r x xs H2 Q
variable {o e:Expr}{es:List Expr}{to:TE}{t:TA}{name:Str}{apos cpos:Pos}{T id:String}{r:V->List V->Hp->VK->Prop}
theorem qcb (pa:PlainAttrs T) (slot:Slot T name id) (hty:typeOf (.builtin id)=pure (.type "method_descriptor")) (hm:MtR X id r) (ho:PE X o to) (ha:PA X (e::es) t)
  (hbase:vf3 o name X.env (eval o X.env)=eval o X.env:=by rfl)
  (hfew:((vd2 cpos (va3 (e::es) X.env)).all (λ x=>!x.1) && (backToKw cpos (vi0 [] X.env)).all (λ x=>x.1.isSome)
   && decide ((e::es).length + ([]:List vg1).length + (if ([]:List vg1).isEmpty then 0 else 1) < 30))=true:=by rfl)
  (hline:(apos.endLine == cpos.line)=true:=by rfl) (hs:va3 (e::es) X.env=(false,eval e X.env)::va3 es X.env:=by rfl) (hplain:(vd2 cpos (va3 es X.env)).any (·.1)=false:=by rfl):
  PE X (.Call (.Attribute o name apos) (e::es) [] cpos) (tBM X.K T r to t):=by
 intro pins s σ H Q I h
 refine wpAny_Call_method_late hbase hfew hline rfl (thn (ho pins s σ H _ I h) λ v s1 ⟨x,H1,I1,r1,ty,q1⟩=>?_)
 obtain ⟨h1,h2⟩:=qjt I1 r1 ty
 refine ⟨T,id,pa,slot,hty,h1,h2,?_⟩
 have hA:=ha cpos pins s1 σ H1 _ I1 q1
 rw [hs] at hA ⊢
 refine Calls.callWith_builtin (by show (false || (vd2 cpos (va3 es X.env)).any (·.1))=false;rw [hplain] <;> rfl) (Calls.evalArgs_plain ?_)
 exact thn hA λ us s2 ⟨vs,H2,I2,r2,q2⟩=>hm pins s2 σ H2 x vs v us Q I2 r1 r2 q2
end
def MtM (X:Cx) (id:String) (r:V->List V->Hp->VK->Prop):Prop:=
 ∀ (pins:List (Addr×Obj)) (s:va1) (σ:St) (H:Hp) (x:V) (xs:List V) (v:va0) (us:List va0) (Q:VK),Inv X pins σ H s->RelV x v->Vals xs us->r x xs H Q ->
  vb2 (vb3 X.prog X.w) X.A (call (.builtin id) (v::us)) (EP X pins σ Q) X.xe s
theorem Vals.one:∀ {x:V}{us:List va0},Vals [x] us->∃ u,us=[u]/\RelV x u
 | _,_,.cons r .nil=>⟨_,rfl,r⟩
theorem Vals.rep {xs:List V}{us:List va0} (h:Vals xs us):∀ k:Nat,Vals (ja6 k xs).flatten (ja6 k us).flatten
 | 0=>.nil
 | k + 1=>by
  rw [jd0,jd0,je7,je7]
  exact Vals.append h (Vals.rep h k)
theorem zmr (its:List va0):∀ (k:Nat) (acc:List va0),
  jm5 (λ x1 x2=>x1++x2) acc.toArray (ja6 k its.toArray)=(acc++(ja6 k its).flatten).toArray
 | 0,acc=>by simp
 | k + 1,acc=>by
  have e:acc.toArray++its.toArray=(acc++its).toArray:=by simp
  have e2:(acc++its)++(ja6 k its).flatten=acc++(ja6 (k + 1) its).flatten:=by
   rw [jd0,je7,jh0]
  rw [<- e2,<- zmr its k (acc++its),<- e,jd0,jj7]
section
variable {X:Cx}{pins:List (Addr×Obj)}{σ:St}{H:Hp}{s:va1}{l b:Addr}{xs ys zs:List V}
theorem Inv.lset {its its':List va0}{n:Nat}{f:Array va0->Array va0}{t':Nat} (I:Inv X pins σ H s) (hH:H l=some (.lst xs))
  (e:s.heap.get? l=some { cls:=.type "list",data:=.seq its.toArray n }) (hf:f its.toArray=its'.toArray) (hv:Vals ys its') (hz:ys.length<=va2):
  Inv X pins σ (upd H l (.lst ys)) { s with heap:=s.heap.update l (vj5 f),toks:=t' }:=by
 have q:=PySem.IsL.update e f
 rw [hf] at q
 refine I.write (x:=l) (e:=l) (by rw [hH];exact trivial) (.inl rfl) (λ b' u hb hu=>(Heap.get?_update_other s.heap (vj5 f) (vc1 hb)).trans hu) ⟨_,q⟩ ?_
 exact ⟨hz,its',_,hv,q⟩
theorem Inv.lnew {its:List va0}{t':Nat} (I:Inv X pins σ H s) (hv:Vals ys its) (hz:ys.length<=va2):
  Inv X pins σ (upd H s.heap.objs.size (.lst ys)) { s with heap:=s.heap.push { cls:=.type "list",data:=.seq its.toArray },toks:=t' }:=
 I.laid (λ _ _ q=>va4 _ q) (jb4 _) ⟨hz,its,0,hv,vb1 _ rfl⟩
theorem Inv.fresh (I:Inv X pins σ H s):H s.heap.objs.size=none:=I.hok.fresh (jb4 _)
theorem Inv.lstM (I:Inv X pins σ H s) (hH:H l=some (.lst xs)):xs.length<=va2/\∃ (its:List va0) (n:Nat),Vals xs its/\xs.length=its.length/\s.heap.get? l=some { cls:=.type "list",data:=.seq its.toArray n }:=by
 obtain ⟨z,its,n,r,e⟩:=I.hok l _ hH
 exact ⟨z,its,n,r,r.length,e⟩
theorem qeq {n:Nat} (h:n<=va2):vg9 n=false:=by
 unfold vg9
 exact decide_eq_false (by omega)
end
section
variable {X:Cx}
def zfn:V->List V->Hp->VK->Prop:=λ x vs H Q=>∃ l xs y,x=.ref l/\vs=[y]/\H l=some (.lst xs)/\xs.length < va2/\Q .non (upd H l (.lst (xs++[y])))
theorem zyg:MtM X "list.append" zfn:=by
 intro pins s σ H x vs v us Q I rx rv h
 obtain ⟨l,xs,y,rfl,rfl,hH,hz,q⟩:=h
 cases rx
 obtain ⟨u,rfl,ru⟩:=rv.one
 obtain ⟨z,its,n,r,hl,e⟩:=I.lstM hH
 refine vh7 F.slot_list_append ⟨_,e,rfl⟩ F.entry_list_append (F.args_list_append_2 _ _) (PySem.list_append l its.toArray n u (by rw [jb2];omega)) ⟨e,?_⟩
 refine ⟨.non,_,I.lset (its':=its++[u]) hH e (by simp) (r.append (.cons ru .nil)) ?_,rfl,q⟩
 rw [jb8,jj8]
 omega
def rCat:R2:=λ x y H Q=>∃ l b xs zs,x=.ref l/\y=.ref b/\H l=some (.lst xs)/\H b=some (.lst zs)/\xs.length + zs.length<=va2/\∀ p,H p=none->Q (.ref p) (upd H p (.lst (xs++zs)))
theorem qf7:OpR X (vd5 .Add) rCat:=by
 intro pins s σ H x y v u Q I rx ry h
 obtain ⟨l,b,xs,zs,rfl,rfl,hH,hB,hz,q⟩:=h
 cases rx
 cases ry
 obtain ⟨z,its,n,r,hl,e⟩:=I.lstM hH
 obtain ⟨z2,its2,n2,r2,hl2,e2⟩:=I.lstM hB
 refine PySem.P.add_list e e2 ?_ (by rw [jb2,jb2];omega)
 have ea:its.toArray++its2.toArray=(its++its2).toArray:=by simp
 rw [ea]
 exact ⟨.ref _,_,I.lnew (t':=s.toks) (r.append r2) (by rw [jb8];omega),rfl,q _ I.fresh⟩
def rRep:R2:=λ x y H Q=>∃ l k xs,x=.ref l/\y=.int k/\H l=some (.lst xs)/\-(2 ^ 63)<=k/\k < 2 ^ 63/\xs.length * k.toNat<=va2 /\
 ∀ p,H p=none->Q (.ref p) (upd H p (.lst (ja6 k.toNat xs).flatten))
theorem qim {α:Type} (xs:List α) (k:Nat):(ja6 k xs).flatten.length=k * xs.length:=by
 induction k with
 | zero=>simp
 | succ k ih=>rw [jd0,je7,jb8,ih,jm9,Nat.add_comm]
theorem qk8:OpR X (vd5 .Mult) rRep:=by
 intro pins s σ H x y v u Q I rx ry h
 obtain ⟨l,k,xs,rfl,rfl,hH,h1,h2,hz,q⟩:=h
 cases rx
 obtain ⟨t,rfl⟩:=ry
 obtain ⟨z,its,n,r,hl,e⟩:=I.lstM hH
 have hlen:its.toArray.size * k.toNat<=va2:=by rw [jb2,<- hl];exact hz
 have hcap:¬ its.toArray.size * k.toNat > (2 ^ 63 - 1) / 8:=by
  have:(va2:Nat)<=(2 ^ 63 - 1) / 8:=by decide
  omega
 have hfit:¬ (!Builtin.List.listFitsIndex k)=true:=by
  rw [fitsIndex_both h1 h2]
  exact jc1
 have hlong:¬ vg9 (its.toArray.size * k.toNat)=true:=by
  rw [qeq hlen]
  exact jc1
 have hnew:jm5 (λ x1 x2=>x1++x2) #[] (ja6 (if its.toArray.isEmpty=true then 0 else k.toNat) its.toArray)=(ja6 k.toNat its).flatten.toArray:=by
  have f0:∀ m:Nat,jm5 (λ x1 x2=>x1++x2) #[] (ja6 m its.toArray)=(ja6 m its).flatten.toArray:=λ m=>by
   have:=zmr its m []
   rw [jg7] at this
   exact this
  rw [f0]
  cases its with
  | nil=>simp
  | cons a r'=>rw [if_neg (by simp)]
 refine wpAny_binaryOp_repeat_ref (T := "list") (U := "int") (by decide) ⟨_,e,rfl⟩ (λ s'=>typeIs_int s' k t) noFill_list_mul F.fills_int_mul F.slot_int_rmul repeat_list F.slot_int_index.lookup
  (vh7 F.slot_int_rmul (typeIs_int s k t) F.entry_int_rmul (F.args_int_rmul_2 _ _) (int___rmul___int_list k t l its.toArray n)
   ⟨e,rfl,⟨_,e,rfl⟩,vh7 F.slot_list_mul ⟨_,e,rfl⟩ F.entry_list_mul (F.args_list_mul_2 _ _) (AutoListH.list___mul___list_int_3 l its.toArray n k t hfit hcap hlong) ⟨e,?_⟩⟩)
 rw [hnew]
 exact ⟨.ref _,_,I.lnew (t':=s.toks) (r.rep k.toNat) (by rw [qim,jn0];exact hz),rfl,q _ I.fresh⟩
end
section
variable {prog:va8}{w:vb7}{A:vc0}{E:va0->va1->Prop}{s:va1}
end
section
variable {X:Cx}
end
end L2
namespace Att
open PySem PySem.W PySem.Calls PyProof.Rows
theorem zyk {P:Params}{h:Heap}:∀ (ns:List Int) (vs:List va0),WellAll P h vs (ns.map WData.int)->IntsAre vs ns:=by
 intro ns
 induction ns with
 | nil=>
  intro vs w
  rw [jf5] at w
  cases w
  exact .nil
 | cons n ns ih=>
  intro vs w
  rw [jb9] at w
  cases w with
  | cons a b=>
   cases a
   exact .cons _ _ (ih _ b)
theorem qbr {l:OpenLaw}{n:Nat} (hn:l.most=some n) {P:Params}{h:Heap}{args:List WData}{vals:List va0}
  (hpre:l.row.toRowW.claim.pre args=true) (hwl:WellAll P h vals args):
  ∃ a vs ns,vals=[Value.ref a]/\args=[WData.list (ns.map WData.int)]/\h.get? a=some { cls:=.type "list",data:=.seq vs.toArray }/\IntsAre vs ns/\ns.length<=n:=by
 have hsh:WShape.hasAll [] args [.list .int]=true:=(pre_splitW hpre).1
 have hc:l.pre.holds [] { args:=args }=true:=(pre_splitW hpre).2
 obtain ⟨d,r,rfl,h1,h2⟩:=hasAllW_cons hsh
 obtain rfl:=hasAllW_nil h2
 obtain ⟨xs,rfl,h3⟩:=hasW_list h1
 obtain ⟨ns,rfl⟩:=items_int h3
 have hlen:ns.length<=n:=by
  unfold OpenLaw.pre at hc
  have h4:(WTm.not (.lt (.lit (.int (n:Int))) (.len (.arg 0)))).holds [] { args:=[.list (ns.map .int)] }=true:=by
   have h4:=(holds_andW hc).1
   rw [hn] at h4
   exact h4
  have h5:=condW_of h4 (w_not (w_lt w_lit (w_len_list (w_arg rfl))))
  rw [jb5] at h5
  refine Nat.le_of_not_lt λ q=>?_
  have q':(n:Int) < ((ns.length:Nat):Int):=by omega
  first
   | (rw [decide_eq_true q'] at h5;exact absurd h5 (by decide))
   | (simp at h5;omega)
 cases hwl with
 | cons w1 w2=>
  cases w2
  cases w1 with
  | list ho hall=>exact ⟨_,_,ns,rfl,rfl,ho,zyk ns _ hall,hlen⟩
theorem qb1 (l:OpenLaw) (args:List WData):l.row.toRowW.claim.post args (.bool true) args=true:=
 postW_of (r:=l.row.toRowW) (X:=(true == true))
  (show WShape.has [] (.bool true) .bool=true by first | rfl | decide | simp [WShape.has,WShape.arms,WShape.armsAll])
  (show (WTm.eq .res (.lit (.bool true))).value [] { args:=args,res:=some (.bool true),after:=args }=some (.bool (true == true)) from w_eq_bool (w_res rfl) w_lit) rfl
theorem attach_call {l:OpenLaw}{n:Nat}{q:va8}{loose:List Str}{XP:(Str->Option va0)->Heap->Prop}{YP:vb7->Heap->Prop}{d:DefRec}
  (hn:l.most=some n) (hdf:d.params.defaults=[])
  (call:∀ (w:vb7) (s₀ s₁:va1) (mg mb:Str->Option va0) (fa:Addr) (o:Obj) (pm cd doc:va0) (a:Addr) (vs:List va0) (ns:List Int),
   Ground q loose [] XP w s₀ mg mb s₁.heap->YP w s₁.heap ->
   s₁.heap.get? fa=some o->o.data=.func (docDef d.name d.params d.body d.scope pm cd doc)->s₁.heap.CodeRec cd d.name->mg d.name=some (.ref fa) ->
   s₁.heap.get? a=some { cls:=.type "list",data:=.seq vs.toArray }->IntsAre vs ns->ns.length<=n->s₁.gens=#[] ->
   vi9 (vb3 l.prog w) vk8 (.call (.ref fa) ⟨[.ref a],[]⟩) (λ r s'=>r=.ok (.ret (.bool true))/\OldK s₁.heap s'.heap/\s'.os=s₁.os/\vg4 s'.gens) s₁):
  WalkO q loose XP YP l.row.toRowW d [] (λ f vs=>PySem.call f vs):=by
 intro w s₀ s₁ mg mb G Y fa o pm cd doc dV kV ho hd hcd hD hmg hg args vals as hpre hlay hrd hwl hlo
 obtain rfl:dV=.none:=Dflts.none hD hdf
 obtain rfl:kV=.none:=Dflts.noKw hD
 obtain ⟨a,vs,ns,rfl,rfl,hobj,hints,hlen⟩:=qbr hn hpre hwl
 refine enter_call (codeAny_mono (call w s₀ s₁ mg mb fa o pm cd doc a vs ns G Y ho (fd_plain hd) hcd hmg hobj hints hlen hg) λ r s' hq=>?_)
 obtain ⟨rfl,h2,h3,h4⟩:=hq
 exact ⟨.inl ⟨.bool true,.bool true,[],rfl,λ _=>rfl,.bool true,qb1 l _,λ _=>⟨List.Pairwise.nil,λ _ hm=>(nomatch hm)⟩⟩,h2,h3,h4⟩
section
variable {prog:va8}{w:vb7}{A:vc0}{E:va0->va1->Prop}{s:va1}{K:Frag}
end
end Att
namespace L2
open PySem PySem.Spec PyProof.Rows
theorem zpm:∀ {vs:List va0}{ns:List Int},IntsAre vs ns->Vals (ns.map V.int) vs
 | _,_,.nil=>.nil
 | _,_,.cons n t h=>.cons ⟨t,rfl⟩ (zpm h)
def Only (H:Hp):Prop:=∀ b,H b=none\/∃ o xs,H b=some (.frz o (.lst xs))
theorem qet {P:va8}{w:vb7}{K:va6}{mg mb:Str->Option va0}{CX:CXT}{k:Nat}{fa a:Addr}{fd:vc5}{x:Str}{sp:Sp}{s₁:va1}{vs:List va0}{ns:List Int}
  (KX:K.In s₁.heap) (hns:s₁.heap.Ns vc2 mg) (hb:s₁.heap.Ns builtinsNs mb) (hbb:∀ x:Str,x ≠ "__name__" -> mb x=vf0 x) (hlim:s₁.heap.NoLimit) (hg:s₁.gens=#[])
  (ha:s₁.heap.get? a=some { cls:=.type "list",data:=.seq vs.toArray }) (hi:IntsAre vs ns) (hl:ns.length<=va2) (hr:Room k vk8)
  (F:∀ base:Heap,K.In base->base.Ns vc2 mg->FnOk P w K mg base CX k fa fd [x] sp) (hbind:∀ (s:va1) (u:va0),BindsTo s fd ⟨[u],[]⟩ [(x,u)])
  (hsp:∀ H:Hp,Only H->SqL K H a (ns.map V.int)->sp [.ref a] H (λ v _=>v=.bl true) λ _ _ _=>False)
  (hCX:∀ H e s',CX [] H s₁ (λ _ _ _=>False) e s'->False):
  vi9 (vb3 P w) vk8 (.call (.ref fa) ⟨[.ref a],[]⟩) (λ r s'=>r=.ok (.ret (.bool true))/\OldK s₁.heap s'.heap/\s'.os=s₁.os/\vg4 s'.gens) s₁:=by
 have rv:=zpm hi
 have lenV:=hi.length
 have core:∀ H:Hp,Only H->SqL K H a (ns.map V.int)->HOk P w H s₁.heap->(∀ b,H b≠none->b=a)->(H a≠none->K.lookup a=none) ->
   vi9 (vb3 P w) vk8 (.call (.ref fa) ⟨[.ref a],[]⟩) (λ r s'=>r=.ok (.ret (.bool true))/\OldK s₁.heap s'.heap/\s'.os=s₁.os/\vg4 s'.gens) s₁:=by
  intro H hO hS hok hA hK
  have base_of:∀ {b:Addr}{o:Obj},s₁.heap.get? b=some o->H b=none->(hidT s₁.heap H).get? b=some o:=λ e n=>qex e n
  have noA:∀ {b:Addr}{o:Obj}{es:Array DictEntry}{ep:Nat},s₁.heap.get? b=some o->o.data=.dict es ep->H b=none:=λ {b o es ep} e d=>by
   cases q:H b with
   | none=>rfl
   | some u=>
    have e':b=a:=hA b (by rw [q];simp)
    subst e'
    rw [ha] at e;cases e
    have d':Data.seq vs.toArray _=Data.dict es ep:=d
    cases d'
  have nsK:∀ {b:Addr}{m:Str->Option va0},s₁.heap.Ns b m->(hidT s₁.heap H).Ns b m:=λ {b m} ⟨o,es,ep,e,d,r⟩=>⟨o,es,ep,base_of e (noA e d),d,r⟩
  have hKb:K.In (hidT s₁.heap H):=λ b o e=>base_of (KX b o e) (by
   cases q:H b with
   | none=>rfl
   | some u=>
    have e':b=a:=hA b (by rw [q];simp)
    subst e'
    rw [hK (by rw [q];simp)] at e;cases e)
  have hM:Mod K mg (hidT s₁.heap H):=⟨hKb,nsK hns,⟨mb,nsK hb,hbb⟩,let ⟨mc,h1,h2⟩:=hlim;⟨mc,nsK h1,h2⟩⟩
  have e0:Env0 P w K mg (hidT s₁.heap H) vk8 [] s₁ H:=⟨rfl,hM,λ b o e=>qie e,Nat.le_of_eq (qc3 _ _),trivial,λ b hb=>absurd (show b∈([]:List Addr) from hb) (by simp),hok,.of_eq hg⟩
  refine codeAny_mono ((F _ hKb (nsK hns)).run vk8 [] s₁ H ⟨[.ref a],[]⟩ [.ref a] [.ref a] _ _ hr e0 (hbind s₁ (.ref a)) (.cons rfl .nil) (hsp H hO hS)) λ r s' h=>?_
  cases r with
  | error e=>exact (hCX H e s' h).elim
  | ok fl=>
   cases fl with
   | next=>exact ve1 h
   | brk=>exact ve1 h
   | cont=>exact ve1 h
   | ret u=>
    obtain ⟨v,H',os,bare,un,hok',r',q⟩:=h
    have q':v=.bl true:=q
    subst q'
    obtain rfl:u=Value.bool true:=r'
    refine ⟨rfl,OldK.of_keep λ b o e=>?_,os,bare⟩
    cases q:H b with
    | none=>exact un.keep b o e q (by intro z;exact absurd (show b∈([]:List Addr) from z) (by simp)) (by simp)
    | some u=>
     rcases hO b with z | ⟨ob,xs,z⟩
     ·rw [q] at z;cases z
     ·have z2:=un.frzs b ob _ z
      obtain ⟨e1,_⟩:=hok b _ z
      obtain ⟨e2,_⟩:=hok' b _ z2
      rw [e] at e1;cases e1
      exact e2
 cases hk:K.lookup a with
 | some o=>
  have e:=KX a o hk
  rw [ha] at e
  cases e
  refine core (λ _=>none) (λ _=>.inl rfl) (.inr ⟨_,vs.toArray,_,hk,rfl,rfl,rfl,by rw [jb2,lenV];exact hl,by simpa using rv⟩) (λ b u z=>by have z':(none:Option HO)=some u:=z;cases z') (λ b z=>absurd rfl z) λ z=>absurd rfl z
 | none=>
  refine core (λ b=>if b=a then some (.frz { cls:=.type "list",data:=.seq vs.toArray } (.lst (ns.map V.int))) else none) (λ b=>?_) (.inl (.inr ⟨{ cls:=.type "list",data:=.seq vs.toArray },if_pos rfl⟩)) (λ b u z=>?_) (λ b z=>?_) λ _=>hk
  ·by_cases hb:b=a
   ·exact .inr ⟨_,_,if_pos hb⟩
   ·exact .inl (if_neg hb)
  ·by_cases hb:b=a
   ·have z':=(if_pos hb).symm.trans z
    cases z'
    subst hb
    exact ⟨ha,by rw [jb5];exact hl,vs,_,rv,ha⟩
   ·have z':=(if_neg hb).symm.trans z
    cases z'
  ·by_cases hb:b=a
   ·exact hb
   ·exact absurd (if_neg hb) z
structure Fun (K:va6) (x qual:Str) (st:Stmt) (f:Addr) (fd:vc5):Prop where
 ex:∃ (oc:va0) (od:Option Addr) (kV doc pm:va0) (an:Option Addr) (cdv ct:va0) (osl:Array (Option va0)),
  fd=vg0 x qual (zyp st) (zqj st) (zqc st) .none kV doc pm an cdv ct/\K.lookup f=some ⟨oc,od,.func fd,osl⟩/\vl8 K cdv qual=true
 kp:vd6 K (.ref f)=true
section
variable {P:va8}{w:vb7}{K:va6}{mg:Str->Option va0}{base:Heap}
theorem Fun.binds {x qual:Str}{st:Stmt}{f:Addr}{fd:vc5}{ps:List Str} (F:Fun K x qual st f fd)
  (h:∀ (kV doc pm:va0) (an:Option Addr) (cdv ct:va0) (us:List va0),us.length=ps.length->bindArgs (vg0 x qual (zyp st) (zqj st) (zqc st) .none kV doc pm an cdv ct) ⟨us,[]⟩=pure (ps.zip us)):zfj K fd ps []:=by
 obtain ⟨oc,od,kV,doc,pm,an,cdv,ct,osl,rfl,lk,hcd⟩:=F.ex
 exact .all (h kV doc pm an cdv ct)
theorem ql4 {x qual:Str}{st:Stmt}{f:Addr}{oc:va0}{od an:Option Addr}{osl:Array (Option va0)}{kV doc pm cdv ct:va0} (l:K.lookup f=some ⟨oc,od,.func (vg0 x qual (zyp st) (zqj st) (zqc st) .none kV doc pm an cdv ct),osl⟩)
  (c:vl8 K cdv qual=true) (k:vd6 K (.ref f)=true):Fun K x qual st f (vg0 x qual (zyp st) (zqj st) (zqc st) .none kV doc pm an cdv ct):=⟨⟨oc,od,kV,doc,pm,an,cdv,ct,osl,rfl,l,c⟩,k⟩
end
section
variable {X:Cx}
end
section
variable {κ:Type} [DecidableEq κ]
def valV (kvs:List (κ×V)) (k:κ):Option V:=(kvs.find? λ kv=>decide (kv.1=k)).map (·.2)
def putK (kvs:List (κ×V)) (k:κ) (v:V):List (κ×V):=
 if (kvs.any λ kv=>decide (kv.1=k))=true then kvs.map (λ kv=>if kv.1=k then (kv.1,v) else kv) else kvs++[(k,v)]
theorem zjy {p:κ×V}{r:List (κ×V)}{k:κ} (e:p.1=k):valV (p::r) k=some p.2:=by simp [valV,jf6,e]
theorem zjz {p:κ×V}{r:List (κ×V)}{k:κ} (e:¬ p.1=k):valV (p::r) k=valV r k:=by simp [valV,jf6,e]
theorem zgk (k:κ):∀ kvs:List (κ×V),(kvs.any λ kv=>decide (kv.1=k))=(valV kvs k).isSome
 | []=>rfl
 | p::r=>by
  rw [jj0]
  by_cases e:p.1=k
  ·simp only [zjy e,decide_eq_true e,jn1,jl0]
  ·rw [zjz e,decide_eq_false e,jl1];exact zgk k r
theorem zyh (kvs:List (κ×V)) (k:κ) (v:V):(putK kvs k v).length<=kvs.length + 1:=by
 unfold putK
 split
 ·rw [jb5];omega
 ·rw [jb8,jc0,List.length_nil];omega
theorem RelO.isSome_eq {o:Option V}{u:Option va0} (r:RelO o u):o.isSome=u.isSome:=by
 cases o with
 | none=>cases u with
  | none=>rfl
  | some _=>exact (show False from r).elim
 | some _=>cases u with
  | none=>exact (show False from r).elim
  | some _=>rfl
theorem KV.val {kvs:List (κ×V)}{vs:List (κ×va0)} (r:KV kvs vs) (k:κ):RelO (valV kvs k) (valueAt vs k):=by
 unfold KV at r
 induction r with
 | nil=>exact True.intro
 | @cons p q ps qs h t ih=>
  obtain ⟨h1,h2⟩:=h
  by_cases e:p.1=k
  ·have e':q.1=k:=h1.symm.trans e
   have b:valueAt (q::qs) k=some q.2:=by simp [valueAt,jf6,e']
   rw [zjy e,b];exact h2
  ·have e':¬ q.1=k:=λ z=>e (h1.trans z)
   have b:valueAt (q::qs) k=valueAt qs k:=by simp [valueAt,jf6,e']
   rw [zjz e,b];exact ih
theorem KV.any {kvs:List (κ×V)}{vs:List (κ×va0)} (r:KV kvs vs) (k:κ):(kvs.any λ kv=>decide (kv.1=k))=vs.any λ kv=>decide (kv.1=k):=by
 unfold KV at r
 induction r with
 | nil=>rfl
 | cons h t ih=>rw [jj0,jj0,ih,h.1]
theorem KV.repl {kvs:List (κ×V)}{vs:List (κ×va0)} (r:KV kvs vs) (k:κ) {y:V}{u:va0} (ry:RelV y u):
  KV (kvs.map λ kv=>if kv.1=k then (kv.1,y) else kv) (vs.map λ kv=>if kv.1=k then (kv.1,u) else kv):=by
 unfold KV at r ⊢
 induction r with
 | nil=>exact .nil
 | @cons p q ps qs h t ih=>
  rw [jb9,jb9]
  refine .cons ?_ ih
  obtain ⟨h1,h2⟩:=h
  by_cases e:p.1=k
  ·rw [if_pos e,if_pos (h1.symm.trans e)];exact ⟨h1,ry⟩
  ·rw [if_neg e,if_neg (λ z=>e (h1.trans z))];exact ⟨h1,h2⟩
theorem KV.put {kvs:List (κ×V)}{vs:List (κ×va0)} (r:KV kvs vs) (k:κ) {y:V}{u:va0} (ry:RelV y u):KV (putK kvs k y) (stored vs k u):=by
 unfold putK stored
 rw [r.any k]
 by_cases e:(vs.any λ kv=>decide (kv.1=k))=true
 ·rw [if_pos e,if_pos e];exact r.repl k ry
 ·rw [if_neg e,if_neg e];exact Paired.snoc r ⟨rfl,ry⟩
theorem KV.length {kvs:List (κ×V)}{vs:List (κ×va0)} (r:KV kvs vs):kvs.length=vs.length:=Paired.length r
end
theorem qeu {P:va8}{w:vb7}{k:Key}{u:va0} (r:RelV (kV k) u):(zxh P w).is k u=true:=by
 cases k with
 | inl i=>obtain ⟨t,e⟩:=(show ∃ t,u=Value.int i t from r);subst e;exact zfx P w i t
 | inr x=>obtain ⟨t,e⟩:=(show ∃ t,u=Value.str x t from r);subst e;exact zfw P w x t
theorem zmm {P:va8}{w:vb7}:∀ {ks:List Key}{us:List va0},Vals (ks.map kV) us->ItemsAre (zxh P w) ks us
 | [],_,r=>by rw [jf5] at r;cases r;exact .nil
 | k::ks,_,r=>by
  rw [jb9] at r
  cases r with
  | cons h t=>exact .cons (qeu h) (zmm t)
abbrev KT (H:Hp):List (List Key×V)->List (List Key×Addr×va0)->Prop:=Paired λ p q=>p.1=q.1/\H q.2.1=some (.tup (p.1.map kV))/\RelV p.2 q.2.2
theorem KT.val {H:Hp}{kvs:List (List Key×V)}{xs:List (List Key×Addr×va0)} (r:KT H kvs xs) (k:List Key):RelO (valV kvs k) ((atKey xs k).map (·.2)):=by
 induction r with
 | nil=>exact True.intro
 | @cons p q ps qs h t ih=>
  obtain ⟨h1,_,h2⟩:=h
  by_cases e:p.1=k
  ·have e':q.1=k:=h1.symm.trans e
   have b:atKey (q::qs) k=some q.2:=by simp [atKey,jf6,e']
   rw [zjy e,b];exact h2
  ·have e':¬ q.1=k:=λ z=>e (h1.trans z)
   have b:atKey (q::qs) k=atKey qs k:=by simp [atKey,jf6,e']
   rw [zjz e,b];exact ih
theorem KT.repl {H:Hp}{kvs:List (List Key×V)}{xs:List (List Key×Addr×va0)} (r:KT H kvs xs) (k:List Key) {y:V}{u:va0} (ry:RelV y u):
  KT H (kvs.map λ kv=>if kv.1=k then (kv.1,y) else kv) (xs.map (putAt k u)):=by
 induction r with
 | nil=>exact .nil
 | @cons p q ps qs h t ih=>
  rw [jb9,jb9]
  refine .cons ?_ ih
  obtain ⟨h1,h2,h3⟩:=h
  unfold putAt
  by_cases e:p.1=k
  ·rw [if_pos e,if_pos (h1.symm.trans e)];exact ⟨h1,h2,ry⟩
  ·rw [if_neg e,if_neg (λ z=>e (h1.trans z))];exact ⟨h1,h2,h3⟩
theorem KT.put {H:Hp}{kvs:List (List Key×V)}{xs:List (List Key×Addr×va0)} (r:KT H kvs xs) (k:List Key) {b:Addr}{y:V}{u:va0} (hb:H b=some (.tup (k.map kV))) (ry:RelV y u):
  KT H (putK kvs k y) (storedH xs k b u):=by
 have e:(kvs.any λ kv=>decide (kv.1=k))=(atKey xs k).isSome:=by
  rw [zgk,(r.val k).isSome_eq,ji9]
 unfold putK storedH
 rw [e]
 by_cases q:(atKey xs k).isSome=true
 ·rw [if_pos q,if_pos q];exact r.repl k ry
 ·rw [if_neg q,if_neg q];exact Paired.snoc r ⟨rfl,hb,ry⟩
theorem KT.keeps {H H':Hp}{kvs:List (List Key×V)}{xs:List (List Key×Addr×va0)} (r:KT H kvs xs) (ht:∀ b ys,H b=some (.tup ys)->H' b=some (.tup ys)):KT H' kvs xs:=
 Paired.mapP r λ _ _ z=>⟨z.1,ht _ _ z.2.1,z.2.2⟩
section
variable {P:va8}{w:vb7}{H:Hp}{h:Heap}{a:Addr}
theorem qkv {u:HO} (ok:HOk P w H h) (e:Rd H a u):zxv P w H h a u:=e.ok ok
theorem qix {kvs:List (Key×V)} (ok:HOk P w H h) (e:Rd H a (.dK kvs)):kvs.length<=va2/\(a == vd4)=false/\∃ vs,KV kvs vs/\h.DictOf (zxh P w) a vs:=
 show zxv P w H h a (.dK kvs) from qkv ok e
theorem qaw {kvs:List (Key×V)} (ok:HOk P w H h) (e:H a=some (.dK kvs)):kvs.length<=va2/\(a == vd4)=false/\∃ vs,KV kvs vs/\h.DictOf (zxh P w) a vs:=qix ok (.inl e)
theorem zhk {ks:List Key} (ok:HOk P w H h) (e:H a=some (.tup (ks.map kV))):(vk3 (zxh P w)).is h ks a:=by
 obtain ⟨_,its,r,o,h1,h2,n,h3⟩:=(show zxv P w H h a (.tup (ks.map kV)) from ok a _ e)
 exact ⟨o,its.toArray,n,h1,h2,h3,by simpa using zmm r⟩
theorem qiw {kvs:List (List Key×V)} (ok:HOk P w H h) (e:Rd H a (.dT kvs)):kvs.length<=va2/\(a == vd4)=false /\
  ∃ xs,KT H kvs xs/\h.DictOfH (vk3 (zxh P w)) a xs:=by
 obtain ⟨z,y,xs,r,o,es,ep,h1,h2,h3,h4,h5⟩:=(show zxv P w H h a (.dT kvs) from qkv ok e)
 refine ⟨z,y,xs,r,o,es,ep,h1,h2,h3,h4,λ x hx=>?_,h5⟩
 have all:∀ {l:List (List Key×V)}{m:List (List Key×Addr×va0)},KT H l m->∀ x∈m,(vk3 (zxh P w)).is h x.1 x.2.1:=by
  intro l m q
  induction q with
  | nil=>intro x hx;exact nomatch hx
  | @cons p q ps qs hq t ih=>
   intro x hx
   rcases ja9.mp hx with e | hx
   ·subst e
    exact zhk ok (by rw [<- hq.1];exact hq.2.1)
   ·exact ih x hx
 exact all r x hx
theorem qni {kvs:List (List Key×V)} (ok:HOk P w H h) (e:H a=some (.dT kvs)):kvs.length<=va2/\(a == vd4)=false /\
  ∃ xs,KT H kvs xs/\h.DictOfH (vk3 (zxh P w)) a xs:=qiw ok (.inl e)
end
def DGet (H:Hp) (a:Addr) (y:V) (r:Option V):Prop:=
 (∃ kvs k,Rd H a (.dK kvs)/\y=kV k/\r=valV kvs k)\/∃ kvs k b,Rd H a (.dT kvs)/\y=.ref b/\H b=some (.tup (k.map kV))/\r=valV kvs k
def DPut (H:Hp) (a:Addr) (y v:V) (H':Hp):Prop:=
 (∃ kvs k,H a=some (.dK kvs)/\y=kV k/\kvs.length < va2/\H'=upd H a (.dK (putK kvs k v))) \/
 ∃ kvs k b,H a=some (.dT kvs)/\y=.ref b/\H b=some (.tup (k.map kV))/\kvs.length < va2/\H'=upd H a (.dT (putK kvs k v))
theorem DGet.t {H:Hp}{a b:Addr}{kvs:List (List Key×V)}{k:List Key} (e:H a=some (.dT kvs)) (eb:H b=some (.tup (k.map kV))):DGet H a (.ref b) (valV kvs k):=.inr ⟨kvs,k,b,.inl e,rfl,eb,rfl⟩
theorem DPut.t {H:Hp}{a b:Addr}{kvs:List (List Key×V)}{k:List Key}{v:V} (e:H a=some (.dT kvs)) (eb:H b=some (.tup (k.map kV))) (hl:kvs.length < va2):
  DPut H a (.ref b) v (upd H a (.dT (putK kvs k v))):=.inr ⟨kvs,k,b,e,rfl,eb,hl,rfl⟩
section
variable {X:Cx}{pins:List (Addr×Obj)}{σ:St}{H:Hp}{s:va1}{a:Addr}{y v:V}{u r:va0}{o:Option V}{A:vc0}{E:va0->va1->Prop}
theorem Inv.big (I:Inv X pins σ H s):vd4 < s.heap.objs.size:=by
 have h:vc2 < s.heap.objs.size:=(I.mod.glob.keeps I.bk).lt
 exact jj9 (by decide) h
theorem d_in {Q:va0->va1->Prop} (hu:A.units + 1 < vf1) (I:Inv X pins σ H s) (g:DGet H a y o) (ry:RelV y u) (h:∀ s',Inv X pins σ H s'->Q (.bool o.isSome) s'):
  vb2 (vb3 X.prog X.w) A (vb4 .In u (.ref a)) Q E s:=by
 rcases g with ⟨kvs,k,e,ey,l⟩ | ⟨kvs,k,b,e,ey,eb,l⟩
 ·subst ey
  obtain ⟨z,hd,vs,rel,dd⟩:=qix I.hok e
  refine wpAny_in_of (qeu ry) hd dd.mapOf ?_
  rw [<- (rel.val k).isSome_eq,<- l]
  exact h _ (I.tok _)
 ·subst ey
  cases (show u=Value.ref b from ry)
  obtain ⟨z,hd,xs,rel,dd⟩:=qiw I.hok e
  refine wpAny_in_heap (vi5 hu) (zhk I.hok eb) hd dd ?_
  have q:=(rel.val k).isSome_eq
  rw [ji9] at q
  rw [<- q,<- l]
  exact h _ (I.tok _)
theorem qi3 {Q:va0->va1->Prop} (hu:A.units + 1 < vf1) (I:Inv X pins σ H s) (g:DGet H a y o) (ry:RelV y u) (h:∀ s',Inv X pins σ H s'->Q (.bool (!o.isSome)) s'):
  vb2 (vb3 X.prog X.w) A (vb4 .NotIn u (.ref a)) Q E s:=by
 rcases g with ⟨kvs,k,e,ey,l⟩ | ⟨kvs,k,b,e,ey,eb,l⟩
 ·subst ey
  obtain ⟨z,hd,vs,rel,dd⟩:=qix I.hok e
  refine wpAny_notIn_of (qeu ry) hd dd.mapOf ?_
  rw [<- (rel.val k).isSome_eq,<- l]
  exact h _ (I.tok _)
 ·subst ey
  cases (show u=Value.ref b from ry)
  obtain ⟨z,hd,xs,rel,dd⟩:=qiw I.hok e
  refine wpAny_notIn_heap (vi5 hu) (zhk I.hok eb) hd dd ?_
  have q:=(rel.val k).isSome_eq
  rw [ji9] at q
  rw [<- q,<- l]
  exact h _ (I.tok _)
theorem qde {h':Heap}{t':Nat}{ob:HO} (I:Inv X pins σ H s) (mu:Mut (H a)) (hs:vj9 a s.heap h') (he:∃ q,h'.get? a=some q) (new:zxv X.prog X.w (upd H a ob) h' a ob):
  Inv X pins σ (upd H a ob) { s with heap:=h',toks:=t' }:=
 I.write (x:=a) (e:=a) mu (.inl rfl) (λ b q hb z=>(hs.2 b hb).trans z) he new
theorem ql8 {P:va8}{w:vb7}{H':Hp}{h':Heap}{kvs:List (Key×V)}{vs:List (Key×va0)} (z:kvs.length<=va2) (hd:(a == vd4)=false) (rel:KV kvs vs) (dd:h'.DictOf (zxh P w) a vs):
  zxv P w H' h' a (.dK kvs):=⟨z,hd,vs,rel,dd⟩
theorem qdf {H':Hp}{Q:Unit->va1->Prop} (hu:A.units + 1 < vf1) (I:Inv X pins σ H s) (g:DPut H a y v H') (ry:RelV y u) (rv:RelV v r) (h:∀ s',Inv X pins σ H' s'->Q () s'):
  vb2 (vb3 X.prog X.w) A (setItem (.ref a) u r) Q E s:=by
 rcases g with ⟨kvs,k,e,ey,l,eH⟩ | ⟨kvs,k,b,e,ey,eb,l,eH⟩
 ·subst ey eH
  obtain ⟨z,hd,vs,rel,dd⟩:=qaw I.hok e
  have hz:vs.length<=va2:=by rw [<- rel.length];exact z
  have hl:(putK kvs k v).length<=va2:=by have:=zyh kvs k v;omega
  refine wpAny_setItem_pairs (hsz:=hz) (qeu ry) dd λ h' dd' hs=>h _ ?_
  have he:∃ q,h'.get? a=some q:=let ⟨q,_,_,hq,_⟩:=dd';⟨q,hq⟩
  exact qde I (by rw [e];exact True.intro) hs he (ql8 hl hd (rel.put k rv) dd')
 ·subst ey eH
  cases (show u=Value.ref b from ry)
  obtain ⟨z,hd,xs,rel,dd⟩:=qni I.hok e
  have hz:xs.length<=va2:=by rw [<- Paired.length rel];exact z
  have hl:(putK kvs k v).length<=va2:=by have:=zyh kvs k v;omega
  refine wpAny_setItem_heap (hsz:=hz) (vi5 hu) (zhk I.hok eb) dd λ h' dd' hs=>h _ ?_
  obtain ⟨q,es,ep,hq,h2,h3,h4,_,h5⟩:=dd'
  refine qde I (by rw [e];exact True.intro) hs ⟨q,hq⟩ ⟨hl,hd,_,(rel.put k eb rv).keeps λ c ys ec=>?_,q,es,ep,hq,h2,h3,h4,h5⟩
  rw [zqf (qm6 ec e (λ z=>nomatch z))]
  exact ec
end
section
variable {X:Cx}{pins:List (Addr×Obj)}{σ:St}{H:Hp}{s:va1}{a:Addr}{kvs:List (Key×V)}{k:Key}{u:va0}{A:vc0}{E:va0->va1->Prop}
end
section
variable {X:Cx}{o i e value:Expr}{pos pos' tpos:Pos}{td ty tv:TE}
end
theorem qe3 {P:va8}{w:vb7}{H:Hp} (h:Heap) (hb:vd4 < h.objs.size):zxv P w H (h.push { cls:=.type "dict",data:=.dict #[] }) h.objs.size (.dT []):=
 ⟨jf7 _,beq_eq_false_iff_ne.mpr (vc1 (jc3 hb)),[],.nil,_,#[],0,vb1 _ rfl,⟨rfl,rfl,rfl⟩,rfl,rfl,List.nodup_nil⟩
def qj9:TE:=λ _ H Q=>∀ p,H p=none->Q (.ref p) (upd H p (.dT []))
section
variable {X:Cx}{pos:Pos}
theorem qej:PE X (.Dict [] [] pos) qj9:=λ pins s σ H Q I h=>
 wpAny_Dict_empty ⟨.ref s.heap.objs.size,_,I.laid (a:=s.heap.objs.size) (o:=.dT []) (t':=s.toks) (λ _ _ q=>va4 _ q) (jb4 _) (qe3 s.heap I.big),rfl,h _ (I.hok.fresh (jb4 _))⟩
end
end L2
namespace QQ
open PySem PySem.Spec PyProof.Rows L2
abbrev St:=L2.St
def KL (K:Frag) (a:Addr) (xs:List V):Prop:=∃ (o:Obj) (its:Array va0) (n:Nat),K.lookup a=some o/\o.cls=.type "list" /\ o.dict=none/\o.data=.seq its n/\its.size<=va2/\Vals xs its.toList
theorem qa4 {K:Frag}{H:Hp}{a:Addr}{xs:List V} (h:SqL K H a xs):tyV K "list" (.ref a) H:=.inl ⟨rfl,xs,h⟩
def ItS (z:Str):It:=⟨λ i _=>i < z.cps.size,λ i H v H'=>H'=H/\∃ c,z.cps[i]?=some c/\v=.str ⟨#[c]⟩,λ i _=>z.cps.size<=i⟩
def zqs (z:Str):Bool:=z.cps.all (·< 128)
def iSeq (K:Frag) (tl:TE):TI:=λ σ H R=>tl σ H λ x H1=>(∃ a,x=.ref a/\(((∃ xs,SqL K H1 a xs)/\R (Itl K a) H1)\/((∃ xs,SqT K H1 a xs)/\R (Itt K a) H1)))\/∃ z,x=.str z/\zqs z=true/\R (ItS z) H1
def qae (k:Nat) (wi:TI) (g:TG) (tc:TT) (te:TE):TE:=λ σ H Q=>wi σ H λ J H1=>∀ D,H1 D=none->∃ W:Nat->Nat->List V->Hp->Prop,(∃ m,W 0 m [] (upd H1 D (.lst [])))/\∀ i m ys H,W i m ys H->H D=some (.lst ys) /\
 ((J.stop i H/\Q (.ref D) H)\/(J.go i H/\∀ x H',J.yld i H x H'->g x (σ++ja6 k none) H' λ σ2 H2=>tc σ2 H2 λ b H3=>if b=true then te σ2 H3 λ y H4=>H4 D=some (.lst ys)/\ys.length < va2/\∃ m',m' < m/\W (i + 1) m' (ys++[y]) (upd H4 D (.lst (ys++[y]))) else ∃ m',m' < m/\W (i + 1) m' ys H3))
inductive MO where
 | l (xs:List V) | d (kvs:List (List Key×V))
def MO.ho:MO->HO
 | .l xs=>.lst xs
 | .d kvs=>.dT kvs
def zkp (a C:Addr) (h:Heap):Prop:=∃ o vs,h.get? a=some o/\o.cls=.ref C/\o.data=.fields vs
def om:Nat:=1000
def pd (d:Nat):Nat:=if d=om then om else d - 1
theorem zko:pd om=om:=rfl
theorem qh4:pd 0=0:=rfl
mutual
def Own (K:Frag) (H:Hp) (Z:Addr->Prop):PV->Nat->V->List Addr->Prop
 | .non,_,v,fp=>v=.non/\fp=[]
 | .bl b,_,v,fp=>v=.bl b/\fp=[]
 | .int i,_,v,fp=>v=.int i/\fp=[]
 | .str x,_,v,fp=>v=.str x/\fp=[]
 | .emp,_,v,fp=>fp=[]/\∃ a,v=.ref a/\H a=some (.dK [])
 | .dko,_,v,fp=>fp=[]/\∃ a,v=.ref a/\∃ kvs,H a=some (.dK kvs)
 | .scr ns,_,v,fp=>fp=[]/\∃ a,v=.ref a/\((∃ o,H a=some (.frz o (.lst (ns.map V.int))))\/KL K a (ns.map V.int))
 | .exn c,_,v,fp=>fp=[]/\∃ a C,v=.ref a/\zxu K c=some C/\H a=some (.ext (zkp a C))
 | .dct kvs,d,v,fp=>∃ a,v=.ref a/\((d=0/\(H a=some (.dT kvs)/\¬ Z a)/\fp=[])\/(d≠0/\H a=some (.dT kvs)/\fp=[a]))
 | .lst xs,d,v,fp=>∃ a vs,v=.ref a/\((d=0/\(H a=some (.lst vs)/\¬ Z a)/\fp=[]/\OwnL K H Z xs 0 vs [])\/(d≠0/\∃ f,H a=some (.lst vs)/\fp=a::f/\a∉f/\OwnL K H Z xs (pd d) vs f))
 | .tup xs,d,v,fp=>∃ a vs,v=.ref a/\H a=some (.tup vs)/\OwnL K H Z xs (pd d) vs fp
def OwnL (K:Frag) (H:Hp) (Z:Addr->Prop):List PV->Nat->List V->List Addr->Prop
 | [],_,vs,fp=>vs=[]/\fp=[]
 | x::xs,d,vs,fp=>∃ v r f1 f2,vs=v::r/\fp=f1++f2/\(∀ a∈f1,a∉f2)/\Own K H Z x d v f1/\OwnL K H Z xs d r f2
end
def Keep (S:Addr->Prop) (H H':Hp):Prop:=∀ a o,H a=some o->¬ S a->H' a=some o
section
variable {K:Frag}{H H':Hp}{Z Z' S:Addr->Prop}
mutual
theorem Own.lsts:∀ (x:PV) (d:Nat) (v:V) (fp:List Addr),Own K H Z x d v fp->∀ a∈fp,∃ o:MO,H a=some o.ho
 | .non,_,_,_,h,a,ha=>by rw [Own] at h;rw [h.2] at ha;cases ha
 | .bl _,_,_,_,h,a,ha=>by rw [Own] at h;rw [h.2] at ha;cases ha
 | .int _,_,_,_,h,a,ha=>by rw [Own] at h;rw [h.2] at ha;cases ha
 | .str _,_,_,_,h,a,ha=>by rw [Own] at h;rw [h.2] at ha;cases ha
 | .emp,_,_,_,h,a,ha=>by rw [Own] at h;rw [h.1] at ha;cases ha
 | .dko,_,_,_,h,a,ha=>by rw [Own] at h;rw [h.1] at ha;cases ha
 | .scr _,_,_,_,h,a,ha=>by rw [Own] at h;rw [h.1] at ha;cases ha
 | .exn _,_,_,_,h,a,ha=>by rw [Own] at h;rw [h.1] at ha;cases ha
 | .dct kvs,d,v,fp,h,a,ha=>by
  rw [Own] at h
  obtain ⟨b,_,⟨_,_,e⟩ | ⟨_,hb,e⟩⟩:=h
  ·rw [e] at ha;cases ha
  ·rw [e] at ha
   rw [jb1.mp ha]
   exact ⟨.d kvs,hb⟩
 | .lst xs,d,v,fp,h,a,ha=>by
  rw [Own] at h
  obtain ⟨b,vs,_,⟨_,_,e,_⟩ | ⟨_,f,hb,e,_,hl⟩⟩:=h
  ·rw [e] at ha;cases ha
  ·rw [e] at ha
   rcases ja9.mp ha with z | z
   ·exact ⟨.l vs,by rw [z];exact hb⟩
   ·exact OwnL.lsts xs _ vs f hl a z
 | .tup xs,d,v,fp,h,a,ha=>by
  rw [Own] at h
  obtain ⟨b,vs,_,_,hl⟩:=h
  exact OwnL.lsts xs _ vs fp hl a ha
theorem OwnL.lsts:∀ (xs:List PV) (d:Nat) (vs:List V) (fp:List Addr),OwnL K H Z xs d vs fp->∀ a∈fp,∃ o:MO,H a=some o.ho
 | [],_,_,_,h,a,ha=>by rw [OwnL] at h;rw [h.2] at ha;cases ha
 | x::xs,d,vs,fp,h,a,ha=>by
  rw [OwnL] at h
  obtain ⟨v,r,f1,f2,_,e,_,h1,h2⟩:=h
  rw [e] at ha
  rcases jb3.mp ha with z | z
  ·exact Own.lsts x d v f1 h1 a z
  ·exact OwnL.lsts xs d r f2 h2 a z
end
mutual
theorem Own.move (k:Keep S H H') (hS:∀ a,S a->Z a/\∃ o:MO,H a=some o.ho) (hz:∀ a,H a≠none->¬ Z a->¬ Z' a):
  ∀ (x:PV) (d:Nat) (v:V) (fp:List Addr),(∀ a∈fp,¬ S a)->Own K H Z x d v fp->Own K H' Z' x d v fp
 | .non,_,_,_,_,h=>by rw [Own] at h ⊢;exact h
 | .bl _,_,_,_,_,h=>by rw [Own] at h ⊢;exact h
 | .int _,_,_,_,_,h=>by rw [Own] at h ⊢;exact h
 | .str _,_,_,_,_,h=>by rw [Own] at h ⊢;exact h
 | .emp,_,_,_,_,h=>by
  rw [Own] at h ⊢
  obtain ⟨e,a,ev,ha⟩:=h
  exact ⟨e,a,ev,k a _ ha λ s=>by obtain ⟨_,o,e⟩:=hS a s;rw [ha] at e;cases o <;> cases e⟩
 | .dko,_,_,_,_,h=>by
  rw [Own] at h ⊢
  obtain ⟨e,a,ev,kvs,ha⟩:=h
  exact ⟨e,a,ev,kvs,k a _ ha λ s=>by obtain ⟨_,o,e⟩:=hS a s;rw [ha] at e;cases o <;> cases e⟩
 | .scr ns,_,_,_,_,h=>by
  rw [Own] at h ⊢
  obtain ⟨e,a,ev,⟨o,ha⟩ | ha⟩:=h
  ·exact ⟨e,a,ev,.inl ⟨o,k a _ ha λ s=>by obtain ⟨_,q,e⟩:=hS a s;rw [ha] at e;cases q <;> cases e⟩⟩
  ·exact ⟨e,a,ev,.inr ha⟩
 | .exn c,_,_,_,_,h=>by
  rw [Own] at h ⊢
  obtain ⟨e,a,C,ev,hc,ha⟩:=h
  exact ⟨e,a,C,ev,hc,k a _ ha λ s=>by obtain ⟨_,q,e⟩:=hS a s;rw [ha] at e;cases q <;> cases e⟩
 | .dct kvs,d,v,fp,hf,h=>by
  rw [Own] at h ⊢
  obtain ⟨b,ev,⟨d0,hr,e⟩ | ⟨d0,hb,e⟩⟩:=h
  ·exact ⟨b,ev,.inl ⟨d0,⟨k b _ hr.1 λ s=>hr.2 (hS b s).1,hz b (by rw [hr.1];simp) hr.2⟩,e⟩⟩
  ·exact ⟨b,ev,.inr ⟨d0,k b _ hb (hf b (by rw [e];exact ja2)),e⟩⟩
 | .lst xs,d,v,fp,hf,h=>by
  rw [Own] at h ⊢
  obtain ⟨b,vs,ev,⟨d0,hr,e,hl⟩ | ⟨d0,f,hb,e,nb,hl⟩⟩:=h
  ·refine ⟨b,vs,ev,.inl ⟨d0,?_,e,OwnL.move k hS hz xs 0 vs [] (λ _ z=>nomatch z) hl⟩⟩
   exact ⟨k b _ hr.1 λ s=>hr.2 (hS b s).1,hz b (by rw [hr.1];simp) hr.2⟩
  ·refine ⟨b,vs,ev,.inr ⟨d0,f,k b _ hb (hf b (by rw [e];exact ja2)),e,nb,?_⟩⟩
   exact OwnL.move k hS hz xs _ vs f (λ a ha=>hf a (by rw [e];exact ja0 _ ha)) hl
 | .tup xs,d,v,fp,hf,h=>by
  rw [Own] at h ⊢
  obtain ⟨b,vs,ev,hr,hl⟩:=h
  exact ⟨b,vs,ev,k b _ hr (λ s=>by obtain ⟨_,o,e⟩:=hS b s;rw [hr] at e;cases o <;> cases e),OwnL.move k hS hz xs _ vs fp hf hl⟩
theorem OwnL.move (k:Keep S H H') (hS:∀ a,S a->Z a/\∃ o:MO,H a=some o.ho) (hz:∀ a,H a≠none->¬ Z a->¬ Z' a):
  ∀ (xs:List PV) (d:Nat) (vs:List V) (fp:List Addr),(∀ a∈fp,¬ S a)->OwnL K H Z xs d vs fp->OwnL K H' Z' xs d vs fp
 | [],_,_,_,_,h=>by rw [OwnL] at h ⊢;exact h
 | x::xs,d,vs,fp,hf,h=>by
  rw [OwnL] at h ⊢
  obtain ⟨v,r,f1,f2,e1,e,dj,h1,h2⟩:=h
  exact ⟨v,r,f1,f2,e1,e,dj,Own.move k hS hz x d v f1 (λ a ha=>hf a (by rw [e];exact ja4 _ ha)) h1,OwnL.move k hS hz xs d r f2 (λ a ha=>hf a (by rw [e];exact ja1 _ ha)) h2⟩
end
mutual
theorem Own.freeze (hz:∀ a,Z' a->Z a):∀ (x:PV) (d:Nat) (v:V) (fp:List Addr),(∀ a∈fp,¬ Z' a)->Own K H Z x d v fp->Own K H Z' x 0 v []
 | .non,_,_,_,_,h=>by rw [Own] at h ⊢;exact ⟨h.1,rfl⟩
 | .bl _,_,_,_,_,h=>by rw [Own] at h ⊢;exact ⟨h.1,rfl⟩
 | .int _,_,_,_,_,h=>by rw [Own] at h ⊢;exact ⟨h.1,rfl⟩
 | .str _,_,_,_,_,h=>by rw [Own] at h ⊢;exact ⟨h.1,rfl⟩
 | .emp,_,_,_,_,h=>by rw [Own] at h ⊢;exact ⟨rfl,h.2⟩
 | .dko,_,_,_,_,h=>by rw [Own] at h ⊢;exact ⟨rfl,h.2⟩
 | .scr _,_,_,_,_,h=>by rw [Own] at h ⊢;exact ⟨rfl,h.2⟩
 | .exn _,_,_,_,_,h=>by rw [Own] at h ⊢;exact ⟨rfl,h.2⟩
 | .dct kvs,d,v,fp,hf,h=>by
  rw [Own] at h ⊢
  obtain ⟨b,ev,⟨d0,hr,e⟩ | ⟨d0,hb,e⟩⟩:=h
  ·exact ⟨b,ev,.inl ⟨rfl,⟨hr.1,λ z=>hr.2 (hz b z)⟩,rfl⟩⟩
  ·exact ⟨b,ev,.inl ⟨rfl,⟨hb,hf b (by rw [e];exact ja2)⟩,rfl⟩⟩
 | .lst xs,d,v,fp,hf,h=>by
  rw [Own] at h ⊢
  obtain ⟨b,vs,ev,⟨d0,hr,e,hl⟩ | ⟨d0,f,hb,e,nb,hl⟩⟩:=h
  ·refine ⟨b,vs,ev,.inl ⟨rfl,?_,rfl,OwnL.freeze hz xs 0 vs [] (λ _ z=>nomatch z) hl⟩⟩
   exact ⟨hr.1,λ z=>hr.2 (hz b z)⟩
  ·exact ⟨b,vs,ev,.inl ⟨rfl,⟨hb,hf b (by rw [e];exact ja2)⟩,rfl,OwnL.freeze hz xs _ vs f (λ a ha=>hf a (by rw [e];exact ja0 _ ha)) hl⟩⟩
 | .tup xs,d,v,fp,hf,h=>by
  rw [Own] at h ⊢
  obtain ⟨b,vs,ev,hr,hl⟩:=h
  exact ⟨b,vs,ev,hr,OwnL.freeze hz xs _ vs fp hf hl⟩
theorem OwnL.freeze (hz:∀ a,Z' a->Z a):∀ (xs:List PV) (d:Nat) (vs:List V) (fp:List Addr),(∀ a∈fp,¬ Z' a)->OwnL K H Z xs d vs fp->OwnL K H Z' xs 0 vs []
 | [],_,_,_,_,h=>by rw [OwnL] at h ⊢;exact ⟨h.1,rfl⟩
 | x::xs,d,vs,fp,hf,h=>by
  rw [OwnL] at h ⊢
  obtain ⟨v,r,f1,f2,e1,e,dj,h1,h2⟩:=h
  exact ⟨v,r,[],[],e1,rfl,λ _ z=>(nomatch z),Own.freeze hz x d v f1 (λ a ha=>hf a (by rw [e];exact ja4 _ ha)) h1,OwnL.freeze hz xs d r f2 (λ a ha=>hf a (by rw [e];exact ja1 _ ha)) h2⟩
end
mutual
theorem Own.full:∀ (x:PV) (v:V) (fp:List Addr),Own K H Z x om v fp->Own K H Z' x om v fp
 | .non,_,_,h=>by rw [Own] at h ⊢;exact h
 | .bl _,_,_,h=>by rw [Own] at h ⊢;exact h
 | .int _,_,_,h=>by rw [Own] at h ⊢;exact h
 | .str _,_,_,h=>by rw [Own] at h ⊢;exact h
 | .emp,_,_,h=>by rw [Own] at h ⊢;exact h
 | .dko,_,_,h=>by rw [Own] at h ⊢;exact h
 | .scr _,_,_,h=>by rw [Own] at h ⊢;exact h
 | .exn _,_,_,h=>by rw [Own] at h ⊢;exact h
 | .dct kvs,v,fp,h=>by
  rw [Own] at h ⊢
  obtain ⟨b,ev,⟨d0,_⟩ | ⟨d0,hb,e⟩⟩:=h
  ·exact absurd d0 (by decide)
  ·exact ⟨b,ev,.inr ⟨d0,hb,e⟩⟩
 | .lst xs,v,fp,h=>by
  rw [Own] at h ⊢
  obtain ⟨b,vs,ev,⟨d0,_⟩ | ⟨d0,f,hb,e,nb,hl⟩⟩:=h
  ·exact absurd d0 (by decide)
  ·exact ⟨b,vs,ev,.inr ⟨d0,f,hb,e,nb,OwnL.full xs vs f hl⟩⟩
 | .tup xs,v,fp,h=>by
  rw [Own] at h ⊢
  obtain ⟨b,vs,ev,hr,hl⟩:=h
  exact ⟨b,vs,ev,hr,OwnL.full xs vs fp hl⟩
theorem OwnL.full:∀ (xs:List PV) (vs:List V) (fp:List Addr),OwnL K H Z xs om vs fp->OwnL K H Z' xs om vs fp
 | [],_,_,h=>by rw [OwnL] at h ⊢;exact h
 | x::xs,vs,fp,h=>by
  rw [OwnL] at h ⊢
  obtain ⟨v,r,f1,f2,e1,e,dj,h1,h2⟩:=h
  exact ⟨v,r,f1,f2,e1,e,dj,Own.full x v f1 h1,OwnL.full xs r f2 h2⟩
end
theorem Own.weak (hz:∀ a,Z' a->Z a) {x:PV}{d:Nat}{v:V}{fp:List Addr} (h:Own K H Z x d v fp):Own K H Z' x d v fp:=
 Own.move (S:=λ _=>False) (λ _ _ h _=>h) (λ _ z=>z.elim) (λ a _ n z=>n (hz a z)) x d v fp (λ _ _ z=>z) h
theorem OwnL.weak (hz:∀ a,Z' a->Z a) {xs:List PV}{d:Nat}{vs:List V}{fp:List Addr} (h:OwnL K H Z xs d vs fp):OwnL K H Z' xs d vs fp:=
 OwnL.move (S:=λ _=>False) (λ _ _ h _=>h) (λ _ z=>z.elim) (λ a _ n z=>n (hz a z)) xs d vs fp (λ _ _ z=>z) h
end
abbrev Slot:=Option (PV×Nat)
abbrev Rho:=List Slot
inductive Rz (α:Type) where
 | ok (a:α) | exc (c:Nat) | no
def Rz.bind {α β:Type} (r:Rz α) (f:α->Rz β):Rz β:=match r with
 | .ok a=>f a
 | .exc c=>.exc c
 | .no=>.no
abbrev Fx:=Rho->Rz (PV×Nat×Rho)
abbrev Fa:=Rho->Rz (List (PV×Nat)×Rho)
abbrev Fb:=Rho->Rz (Bool×Rho)
structure Fm where
 K:Frag
 Ms:Nat->Bool
 Zo:Addr->Prop
 H₀:Hp
 W:St->Nat->Hp->Prop
 io:Option V
 al:Nat->List Nat
 pn:List (Nat×V):=[]
abbrev Fps:=Nat->List Addr
def Fm.Fre (M:Fm) (i:Nat):Prop:=(M.io≠none->i≠0)/\∀ p∈M.pn,p.1≠i
def Zf (M:Fm) (fps:Fps):Addr->Prop:=λ a=>M.Zo a\/∃ i,a∈fps i
def Zv (M:Fm) (vs:List Nat) (fps:Fps):Addr->Prop:=λ a=>M.Zo a\/∃ i,i∉vs/\a∈fps i
def Za (M:Fm) (fps:Fps) (i:Nat):Addr->Prop:=λ a=>M.Zo a\/∃ j,j∉M.al i/\a∈fps j
def Zt (M:Fm) (vs:List Nat) (fps:Fps) (fp:List Addr):Addr->Prop:=λ a=>Zv M vs fps a\/a∈fp
def Fm.plus (M:Fm) (fp:List Addr):Fm:={ M with Zo:=λ a=>M.Zo a\/a∈fp }
structure Rep (M:Fm) (ρ:Rho) (σ:St) (H:Hp) (fps:Fps):Prop where
 own:∀ i x d,ρ[i]?=some (some (x,d))->∃ v,σ[i]?=some (some v)/\Own M.K H (Za M fps i) x d v (fps i)
 non:∀ i,(∀ p,ρ[i]?≠some (some p))->fps i=[]
 dj:∀ i j,i≠j->∀ a∈fps i,a∉fps j
 zo:∀ i,∀ a∈fps i,¬ M.Zo a
 fr:∀ i,M.Ms i=false->∀ a∈fps i,M.H₀ a=none
 zd:∀ a,M.Zo a->H a≠none
 len:ρ.length=σ.length
 msf:∀ i x d,M.Ms i=true->ρ[i]?=some (some (x,d))->d=om
 h0:∀ a,M.H₀ a≠none->H a≠none
 iov:(∀ v,M.io=some v->σ[0]?=some (some v)/\M.Ms 0=true)/\∀ p∈M.pn,σ[p.1]?=some (some p.2)
def Agr (M:Fm) (ρ ρ':Rho):Prop:=(∀ i,M.Ms i=false->ρ'[i]?=ρ[i]?)/\ρ'.length=ρ.length
structure KD (M:Fm) (H:Hp) (fps:Fps) (H':Hp) (fps':Fps):Prop where
 keep:Keep (λ a=>∃ i,M.Ms i=true/\a∈fps i) H H'
 dom:∀ a,H a≠none->H' a≠none
 sub:∀ i,∀ a∈fps' i,a∈fps i\/H a=none
 same:∀ i,M.Ms i=false->fps' i=fps i
def Tmps (K:Frag) (H:Hp) (Z:Addr->Prop):List (PV×Nat)->List V->List Addr->Prop
 | [],vs,fp=>vs=[]/\fp=[]
 | (x,d)::xs,vs,fp=>∃ v r f1 f2,vs=v::r/\fp=f1++f2/\(∀ a∈f1,a∉f2)/\Own K H (λ a=>Z a\/a∈f1) x d v f1/\Tmps K H Z xs r f2
structure Temp (M:Fm) (vs:List Nat) (H:Hp) (H':Hp) (fps':Fps) (fp:List Addr):Prop where
 new:∀ a∈fp,H a=none
 ndj:∀ a∈fp,¬ Zf M fps' a
section
variable {M:Fm}{ρ ρ':Rho}{σ:St}{H H' H'':Hp}{fps fps' fps'':Fps}{vs vs':List Nat}
theorem Agr.refl:Agr M ρ ρ:=⟨λ _ _=>rfl,rfl⟩
theorem Agr.trans {ρ'':Rho} (a:Agr M ρ ρ') (b:Agr M ρ' ρ''):Agr M ρ ρ'':=⟨λ i hi=>(b.1 i hi).trans (a.1 i hi),b.2.trans a.2⟩
theorem KD.refl:KD M H fps H fps:=⟨λ _ _ h _=>h,λ _ h=>h,λ _ _ h=>.inl h,λ _ _=>rfl⟩
theorem KD.trans (a:KD M H fps H' fps') (b:KD M H' fps' H'' fps''):KD M H fps H'' fps'' where
 keep:=λ x o h n=>b.keep x o (a.keep x o h n) λ ⟨i,hi,hx⟩=>(a.sub i x hx).elim (λ z=>n ⟨i,hi,z⟩) λ z=>by rw [z] at h;cases h
 dom:=λ x h=>b.dom x (a.dom x h)
 sub:=λ i x hx=>(b.sub i x hx).elim (λ z=>a.sub i x z) λ z=>.inr (by
  cases e:H x with
  | none=>rfl
  | some o=>exact absurd z (a.dom x (by rw [e];simp)))
 same:=λ i hi=>(b.same i hi).trans (a.same i hi)
theorem Za.zf {i:Nat}{a:Addr} (h:Za M fps i a):Zf M fps a:=h.elim .inl λ ⟨j,_,h⟩=>.inr ⟨j,h⟩
theorem Za.of {i:Nat} (hal:M.al i=[]) {a:Addr} (h:Zf M fps a):Za M fps i a:=h.elim .inl λ ⟨j,h⟩=>.inr ⟨j,(by rw [hal];simp),h⟩
theorem Rep.own0 (r:Rep M ρ σ H fps) (hal:∀ i,M.al i=[]) (i:Nat) (x:PV) (d:Nat) (e:ρ[i]?=some (some (x,d))):∃ v,σ[i]?=some (some v)/\Own M.K H (Zf M fps) x d v (fps i):=
 let ⟨v,h1,h2⟩:=r.own i x d e;⟨v,h1,h2.weak λ _ h=>Za.of (hal i) h⟩
theorem Rep.lsts (r:Rep M ρ σ H fps) {i:Nat}{a:Addr} (h:a∈fps i):∃ o:MO,H a=some o.ho:=by
 by_cases hp:∃ p,ρ[i]?=some (some p)
 ·obtain ⟨⟨x,d⟩,e⟩:=hp
  obtain ⟨v,_,o⟩:=r.own i x d e
  exact Own.lsts x d v _ o a h
 ·rw [r.non i λ p e=>hp ⟨p,e⟩] at h;cases h
theorem Rep.zdom (r:Rep M ρ σ H fps) {a:Addr} (h:Zf M fps a):H a≠none:=by
 rcases h with h | ⟨i,h⟩
 ·exact r.zd a h
 ·obtain ⟨xs,e⟩:=r.lsts h;rw [e];simp
theorem Rep.nz (r:Rep M ρ σ H fps) {a:Addr} (h:H a=none):¬ Zf M fps a:=λ z=>r.zdom z h
theorem Zv.zf {a:Addr} (h:Zv M vs fps a):Zf M fps a:=h.elim .inl λ ⟨i,_,h⟩=>.inr ⟨i,h⟩
theorem Zv.mono (hv:∀ i∈vs',i∈vs) {a:Addr} (h:Zv M vs fps a):Zv M vs' fps a:=h.elim .inl λ ⟨i,n,h⟩=>.inr ⟨i,λ z=>n (hv i z),h⟩
theorem Zt.mono (hv:∀ i∈vs',i∈vs) {a:Addr}{fp:List Addr} (h:Zt M vs fps fp a):Zt M vs' fps fp a:=h.elim (λ h=>.inl (h.mono hv)) .inr
theorem KD.stay (k:KD M H fps H' fps') (r:Rep M ρ σ H fps) (hv:∀ i∈vs,M.Ms i=false) {x:PV}{d:Nat}{v:V}{fp:List Addr} (h:Own M.K H (Zt M vs fps fp) x d v fp) (hf:∀ a∈fp,¬ Zf M fps a):Own M.K H' (Zt M vs fps' fp) x d v fp:=by
 have h1:∀ a,(∃ i,M.Ms i=true/\a∈fps i)->Zt M vs fps fp a/\∃ o:MO,H a=some o.ho:=by
  rintro a ⟨i,hi,ha⟩
  exact ⟨.inl (.inr ⟨i,λ z=>(by rw [hv i z] at hi;cases hi),ha⟩),r.lsts ha⟩
 have h2:∀ a,H a≠none->¬ Zt M vs fps fp a->¬ Zt M vs fps' fp a:=by
  intro a hd nz z
  rcases z with (z | ⟨i,ni,hx⟩) | z
  ·exact nz (.inl (.inl z))
  ·rcases k.sub i a hx with z | z
   ·exact nz (.inl (.inr ⟨i,ni,z⟩))
   ·exact hd z
  ·exact nz (.inr z)
 exact Own.move k.keep h1 h2 x d v fp (λ a ha ⟨i,_,hx⟩=>hf a ha (.inr ⟨i,hx⟩)) h
theorem KD.stays (k:KD M H fps H' fps') (r:Rep M ρ σ H fps) (hv:∀ i∈vs,M.Ms i=false):∀ {xs:List (PV×Nat)}{ws:List V}{fp:List Addr},Tmps M.K H (Zv M vs fps) xs ws fp->(∀ a∈fp,¬ Zf M fps a)->Tmps M.K H' (Zv M vs fps') xs ws fp
 | [],_,_,h,_=>h
 | (x,d)::xs,ws,fp,h,hf=>by
  obtain ⟨v,s,f1,f2,e1,e2,dj,h1,h2⟩:=h
  exact ⟨v,s,f1,f2,e1,e2,dj,k.stay r hv h1 λ a ha=>hf a (by rw [e2];exact ja4 _ ha),k.stays r hv h2 λ a ha=>hf a (by rw [e2];exact ja1 _ ha)⟩
theorem Tmps.weak {K:Frag}{Z Z':Addr->Prop} (hz:∀ a,Z' a->Z a):∀ {xs:List (PV×Nat)}{ws:List V}{fp:List Addr},Tmps K H Z xs ws fp->Tmps K H Z' xs ws fp
 | [],_,_,h=>h
 | (x,d)::xs,ws,fp,h=>by
  obtain ⟨v,s,f1,f2,e1,e2,dj,h1,h2⟩:=h
  exact ⟨v,s,f1,f2,e1,e2,dj,h1.weak λ a h=>h.elim (λ h=>.inl (hz a h)) .inr,h2.weak hz⟩
theorem KD.grow (k:∀ a o,H a=some o->H' a=some o):KD M H fps H' fps:=⟨λ a o h _=>k a o h,λ a h=>by
 cases e:H a with
 | none=>exact absurd e h
 | some o=>rw [k a o e];simp,λ _ _ h=>.inl h,λ _ _=>rfl⟩
theorem Rep.grow (r:Rep M ρ σ H fps) (k:∀ a o,H a=some o->H' a=some o):Rep M ρ σ H' fps where
 own:=λ i x d e=>by
  obtain ⟨v,hv,o⟩:=r.own i x d e
  exact ⟨v,hv,Own.move (S:=λ _=>False) (λ a o h _=>k a o h) (λ _ z=>z.elim) (λ _ _ n=>n) x d v _ (λ _ _ z=>z) o⟩
 non:=r.non
 dj:=r.dj
 zo:=r.zo
 fr:=r.fr
 zd:=λ a h=>(KD.grow (M:=M) (fps:=fps) k).dom a (r.zd a h)
 len:=r.len
 msf:=r.msf
 h0:=λ a h=>(KD.grow (M:=M) (fps:=fps) k).dom a (r.h0 a h)
 iov:=r.iov
end
def tE (M:Fm) (f:Fx) (vs:List Nat):TE:=λ σ H Q=>∃ ρ fps,Rep M ρ σ H fps/\(match f ρ with
 | .ok (x,d,ρ')=>∀ v H' fps' fp,KD M H fps H' fps'->Agr M ρ ρ'->Rep M ρ' σ H' fps'->Own M.K H' (Zt M vs fps' fp) x d v fp->Temp M vs H H' fps' fp->Q v H'
 | .exc c=>∀ H' fps',KD M H fps H' fps'->M.W σ c H'
 | .no=>False)
def tL (M:Fm) (f:Fa) (vs:List Nat):TA:=λ σ H Q=>∃ ρ fps,Rep M ρ σ H fps/\(match f ρ with
 | .ok (xs,ρ')=>∀ ws H' fps' fp,KD M H fps H' fps'->Agr M ρ ρ'->Rep M ρ' σ H' fps'->Tmps M.K H' (Zv M vs fps') xs ws fp->Temp M vs H H' fps' fp->Q ws H'
 | .exc c=>∀ H' fps',KD M H fps H' fps'->M.W σ c H'
 | .no=>False)
def tT (M:Fm) (f:Fb):TT:=λ σ H Q=>∃ ρ fps,Rep M ρ σ H fps/\(match f ρ with
 | .ok (b,ρ')=>∀ H' fps',KD M H fps H' fps'->Agr M ρ ρ'->Rep M ρ' σ H' fps'->Q b H'
 | .exc c=>∀ H' fps',KD M H fps H' fps'->M.W σ c H'
 | .no=>False)
def Leaf (M:Fm) (H:Hp) (fps:Fps) (vs:List Nat) (F:List Addr) (z:PV) (d:Nat) (Q:VK):Prop:=
 ∀ u H' fp,(∀ a o,H a=some o->H' a=some o)->Own M.K H' (Zt M vs fps fp) z d u fp->(∀ a∈fp,a∈F\/H a=none)->Q u H'
section
variable {M:Fm}{ρ ρ':Rho}{σ:St}{H H' H'':Hp}{fps fps' fps'':Fps}{vs vs':List Nat}{f g:Fx}{fa:Fa}{fb:Fb}{Q:VK}
def bC (x:PV):Fx:=λ ρ=>.ok (x,om,ρ)
theorem zvf {x:PV}{v:V} (h:∀ K H Z,Own K H Z x om v []) {σ:St}{H:Hp}{Q:VK} (hq:tE M (bC x) [] σ H Q):tC v σ H Q:=by
 obtain ⟨ρ,fps,rep,q⟩:=hq
 exact q v H fps [] KD.refl Agr.refl rep (h _ _ _) ⟨λ _ z=>(nomatch z),λ _ z=>nomatch z⟩
def dv:PV->Nat
 | .lst _=>0
 | .tup _=>0
 | .dct _=>0
 | _=>om
def bVar (i:Nat):Fx:=λ ρ=>match ρ[i]? with
 | some (some (x,_))=>.ok (x,dv x,ρ)
 | _=>.no
theorem Own.view {K:Frag}{Z Z':Addr->Prop}{x:PV}{d:Nat}{v:V}{fp:List Addr} (hz:∀ a,Z' a->Z a) (hf:∀ a∈fp,¬ Z' a) (h:Own K H Z x d v fp):Own K H Z' x (dv x) v []:=by
 have q:=Own.freeze hz x d v fp hf h
 cases x with
 | lst xs=>exact q
 | tup xs=>exact q
 | dct kvs=>exact q
 | exn _=>rw [Own] at q ⊢;exact q
 | non=>rw [Own] at q ⊢;exact q
 | bl _=>rw [Own] at q ⊢;exact q
 | int _=>rw [Own] at q ⊢;exact q
 | str _=>rw [Own] at q ⊢;exact q
 | emp=>rw [Own] at q ⊢;exact q
 | dko=>rw [Own] at q ⊢;exact q
 | scr _=>rw [Own] at q ⊢;exact q
theorem qbd {i:Nat}{σ:St}{H:Hp}{Q:VK} (hq:tE M (bVar i) (i::M.al i) σ H Q):tVar i σ H Q:=by
 obtain ⟨ρ,fps,rep,q⟩:=hq
 unfold bVar at q
 cases e0:ρ[i]? with
 | none=>rw [e0] at q;exact q.elim
 | some sl=>
  cases sl with
  | none=>rw [e0] at q;exact q.elim
  | some p=>
   obtain ⟨x0,d0⟩:=p
   rw [e0] at q
   obtain ⟨v,hv,o⟩:=rep.own i x0 d0 e0
   refine ⟨v,hv,q v H fps [] KD.refl Agr.refl rep ((o.view (Z':=Zv M (i::M.al i) fps) (λ a h=>h.elim .inl λ ⟨j,n,h⟩=>.inr ⟨j,λ z=>n (ja0 _ z),h⟩) λ a ha z=>?_).weak λ a h=>h.elim id λ z=>nomatch z) ⟨λ _ z=>(nomatch z),λ _ z=>nomatch z⟩⟩
   rcases z with z | ⟨j,nj,hj⟩
   ·exact rep.zo i a ha z
   ·exact rep.dj i j (λ e=>nj (by simp [e])) a ha hj
def bBin (op:PV->Nat->PV->Nat->Option (PV×Nat)) (f g:Fx):Fx:=λ ρ=>(f ρ).bind λ (x,d,ρ1)=>(g ρ1).bind λ (y,e,ρ2)=>match op x d y e with
 | some (z,c)=>.ok (z,c,ρ2)
 | none=>.no
theorem zwh {op:PV->Nat->PV->Nat->Option (PV×Nat)}{r:R2} (hv:∀ i∈vs,M.Ms i=false)
  (leaf:∀ x d y e z c v w H fps f1 f2 Q,op x d y e=some (z,c)->Own M.K H (Zt M (vs++vs') fps f1) x d v f1->Own M.K H (Zt M (vs++vs') fps f2) y e w f2->(∀ a∈f1,a∉f2)->(∀ a∈f1++f2,¬ Zf M fps a)->(∀ a,Zf M fps a->H a≠none)->Leaf M H fps (vs++vs') (f1++f2) z c Q->r v w H Q)
  {σ:St}{H:Hp}{Q:VK} (hq:tE M (bBin op f g) (vs++vs') σ H Q):tOp r (tE M f vs) (tE M g vs') σ H Q:=by
 obtain ⟨ρ,fps,rep,q⟩:=hq
 refine ⟨ρ,fps,rep,?_⟩
 unfold bBin at q
 cases ef:f ρ with
 | no=>rw [ef] at q;exact q
 | exc c=>rw [ef] at q;exact q
 | ok p=>
  obtain ⟨x,d,ρ1⟩:=p
  rw [ef] at q
  intro v H1 fps1 f1 k1 g1 rep1 o1 t1
  refine ⟨ρ1,fps1,rep1,?_⟩
  dsimp only [Rz.bind] at q
  cases eg:g ρ1 with
  | no=>rw [eg] at q;exact q
  | exc c=>rw [eg] at q;exact λ H' fps' k=>q H' fps' (k1.trans k)
  | ok p2=>
   obtain ⟨y,e,ρ2⟩:=p2
   rw [eg] at q
   intro w H2 fps2 f2 k2 g2 rep2 o2 t2
   dsimp only at q
   cases eo:op x d y e with
   | none=>rw [eo] at q;exact q.elim
   | some zc=>
    obtain ⟨z,c⟩:=zc
    rw [eo] at q
    have o1':=k2.stay rep1 hv o1 t1.ndj
    have n1:∀ a∈f1,¬ Zf M fps2 a:=λ a ha z=>by
     rcases z with z | ⟨i,z⟩
     ·exact t1.ndj a ha (.inl z)
     ·rcases k2.sub i a z with z | z
      ·exact t1.ndj a ha (.inr ⟨i,z⟩)
      ·obtain ⟨xs,e⟩:=Own.lsts x d v f1 o1 a ha
       rw [z] at e;cases e
    refine leaf x d y e z c v w H2 fps2 f1 f2 Q eo (o1'.weak λ a h=>Zt.mono (λ i hi=>ja4 _ hi) h) (o2.weak λ a h=>Zt.mono (λ i hi=>ja1 _ hi) h) (λ a h1 h2=>?_) (λ a ha=>?_) (λ a h=>rep2.zdom h) λ u H3 fp k3 o3 hfp=>?_
    ·obtain ⟨xs,e⟩:=Own.lsts x d v f1 o1 a h1
     rw [t2.new a h2] at e;cases e
    ·rcases jb3.mp ha with z | z
     ·exact n1 a z
     ·exact t2.ndj a z
    ·have new:∀ a∈fp,H a=none:=λ a ha=>by
      have back:H1 a=none->H a=none:=λ e=>by
       cases e':H a with
       | none=>rfl
       | some o=>exact absurd e (k1.dom a (by rw [e'];simp))
      have back2:H2 a=none->H1 a=none:=λ e=>by
       cases e':H1 a with
       | none=>rfl
       | some o=>exact absurd e (k2.dom a (by rw [e'];simp))
      rcases hfp a ha with z | z
      ·rcases jb3.mp z with z | z
       ·exact t1.new a z
       ·exact back (t2.new a z)
      ·exact back (back2 z)
     refine q u H3 fps2 fp ((k1.trans k2).trans (KD.grow k3)) (g1.trans g2) (rep2.grow k3) o3 ⟨new,λ a ha=>?_⟩
     rcases hfp a ha with z | z
     ·rcases jb3.mp z with z | z
      ·exact n1 a z
      ·exact t2.ndj a z
     ·exact rep2.nz z
end
section
variable {M:Fm}{vs vs':List Nat}{f g:Fx}{fa:Fa}{fb gb:Fb}
def bUn (op:PV->Nat->Option (PV×Nat)) (f:Fx):Fx:=λ ρ=>(f ρ).bind λ (x,d,ρ1)=>match op x d with
 | some (z,c)=>.ok (z,c,ρ1)
 | none=>.no
theorem qad {op:PV->Nat->Option (PV×Nat)}{r:V->Hp->VK->Prop}
  (leaf:∀ x d z c v H fps f1 Q,op x d=some (z,c)->Own M.K H (Zt M vs fps f1) x d v f1->(∀ a∈f1,¬ Zf M fps a)->(∀ a,Zf M fps a->H a≠none)->Leaf M H fps vs f1 z c Q->r v H Q)
  {σ:St}{H:Hp}{Q:VK} (hq:tE M (bUn op f) vs σ H Q):tUn r (tE M f vs) σ H Q:=by
 obtain ⟨ρ,fps,rep,q⟩:=hq
 refine ⟨ρ,fps,rep,?_⟩
 unfold bUn at q
 cases ef:f ρ with
 | no=>rw [ef] at q;exact q
 | exc c=>rw [ef] at q;exact q
 | ok p=>
  obtain ⟨x,d,ρ1⟩:=p
  rw [ef] at q
  intro v H1 fps1 f1 k1 g1 rep1 o1 t1
  dsimp only [Rz.bind] at q
  cases eo:op x d with
  | none=>rw [eo] at q;exact q.elim
  | some zc=>
   obtain ⟨z,c⟩:=zc
   rw [eo] at q
   refine leaf x d z c v H1 fps1 f1 Q eo o1 t1.ndj (λ a h=>rep1.zdom h) λ u H3 fp k3 o3 hfp=>?_
   have back:∀ a,H1 a=none->H a=none:=λ a e=>by
    cases e':H a with
    | none=>rfl
    | some o=>exact absurd e (k1.dom a (by rw [e'];simp))
   refine q u H3 fps1 fp (k1.trans (KD.grow k3)) g1 (rep1.grow k3) o3 ⟨λ a ha=>(hfp a ha).elim (t1.new a) (back a),λ a ha=>(hfp a ha).elim (t1.ndj a) λ z=>rep1.nz z⟩
def aNil:Fa:=λ ρ=>.ok ([],ρ)
def zqa (f:Fx) (fa:Fa):Fa:=λ ρ=>(f ρ).bind λ (x,d,ρ1)=>(fa ρ1).bind λ (xs,ρ2)=>.ok ((x,d)::xs,ρ2)
theorem qj7 {σ:St}{H:Hp}{Q:List V->Hp->Prop} (hq:tL M aNil [] σ H Q):tNil σ H Q:=by
 obtain ⟨ρ,fps,rep,q⟩:=hq
 exact q [] H fps [] KD.refl Agr.refl rep ⟨rfl,rfl⟩ ⟨λ _ z=>(nomatch z),λ _ z=>nomatch z⟩
theorem qha (hv:∀ i∈vs,M.Ms i=false) {σ:St}{H:Hp}{Q:List V->Hp->Prop} (hq:tL M (zqa f fa) (vs++vs') σ H Q):qbh (tE M f vs) (tL M fa vs') σ H Q:=by
 obtain ⟨ρ,fps,rep,q⟩:=hq
 refine ⟨ρ,fps,rep,?_⟩
 unfold zqa at q
 cases ef:f ρ with
 | no=>rw [ef] at q;exact q
 | exc c=>rw [ef] at q;exact q
 | ok p=>
  obtain ⟨x,d,ρ1⟩:=p
  rw [ef] at q
  intro v H1 fps1 f1 k1 g1 rep1 o1 t1
  refine ⟨ρ1,fps1,rep1,?_⟩
  dsimp only [Rz.bind] at q
  cases eg:fa ρ1 with
  | no=>rw [eg] at q;exact q
  | exc c=>rw [eg] at q;exact λ H' fps' k=>q H' fps' (k1.trans k)
  | ok p2=>
   obtain ⟨ys,ρ2⟩:=p2
   rw [eg] at q
   intro ws H2 fps2 f2 k2 g2 rep2 o2 t2
   dsimp only at q
   have o1':=k2.stay rep1 hv o1 t1.ndj
   have n1:∀ a∈f1,¬ Zf M fps2 a:=λ a ha z=>by
    rcases z with z | ⟨i,z⟩
    ·exact t1.ndj a ha (.inl z)
    ·rcases k2.sub i a z with z | z
     ·exact t1.ndj a ha (.inr ⟨i,z⟩)
     ·obtain ⟨xs,e⟩:=Own.lsts x d v f1 o1 a ha
      rw [z] at e;cases e
   have back:∀ a,H1 a=none->H a=none:=λ a e=>by
    cases e':H a with
    | none=>rfl
    | some o=>exact absurd e (k1.dom a (by rw [e'];simp))
   refine q (v::ws) H2 fps2 (f1++f2) (k1.trans k2) (g1.trans g2) rep2 ⟨v,ws,f1,f2,rfl,rfl,λ a h1 h2=>?_,o1'.weak λ a h=>Zt.mono (λ i hi=>ja4 _ hi) h,o2.weak λ a h=>h.mono λ i hi=>ja1 _ hi⟩ ⟨λ a ha=>?_,λ a ha=>?_⟩
   ·obtain ⟨xs,e⟩:=Own.lsts x d v f1 o1 a h1
    rw [t2.new a h2] at e;cases e
   ·rcases jb3.mp ha with z | z
    ·exact t1.new a z
    ·exact back a (t2.new a z)
   ·rcases jb3.mp ha with z | z
    ·exact n1 a z
    ·exact t2.ndj a z
def zqb (op:List (PV×Nat)->Option (PV×Nat)) (fa:Fa):Fx:=λ ρ=>(fa ρ).bind λ (xs,ρ1)=>match op xs with
 | some (z,c)=>.ok (z,c,ρ1)
 | none=>.no
theorem zya {op:List (PV×Nat)->Option (PV×Nat)}{r:List V->Hp->VK->Prop}
  (leaf:∀ xs z c ws H fps fp Q,op xs=some (z,c)->Tmps M.K H (Zv M vs fps) xs ws fp->(∀ a∈fp,¬ Zf M fps a)->(∀ a,Zf M fps a->H a≠none)->Leaf M H fps vs fp z c Q->r ws H Q)
  {σ:St}{H:Hp}{Q:VK} (hq:tE M (zqb op fa) vs σ H Q):tL M fa vs σ H λ ws H1=>r ws H1 Q:=by
 obtain ⟨ρ,fps,rep,q⟩:=hq
 refine ⟨ρ,fps,rep,?_⟩
 unfold zqb at q
 cases ef:fa ρ with
 | no=>rw [ef] at q;exact q
 | exc c=>rw [ef] at q;exact q
 | ok p=>
  obtain ⟨xs,ρ1⟩:=p
  rw [ef] at q
  intro ws H1 fps1 f1 k1 g1 rep1 o1 t1
  dsimp only [Rz.bind] at q
  cases eo:op xs with
  | none=>rw [eo] at q;exact q.elim
  | some zc=>
   obtain ⟨z,c⟩:=zc
   rw [eo] at q
   refine leaf xs z c ws H1 fps1 f1 Q eo o1 t1.ndj (λ a h=>rep1.zdom h) λ u H3 fp k3 o3 hfp=>?_
   have back:∀ a,H1 a=none->H a=none:=λ a e=>by
    cases e':H a with
    | none=>rfl
    | some o=>exact absurd e (k1.dom a (by rw [e'];simp))
   refine q u H3 fps1 fp (k1.trans (KD.grow k3)) g1 (rep1.grow k3) o3 ⟨λ a ha=>(hfp a ha).elim (t1.new a) (back a),λ a ha=>(hfp a ha).elim (t1.ndj a) λ z=>rep1.nz z⟩
def bT (f:Fx):Fb:=λ ρ=>(f ρ).bind λ (x,_,ρ1)=>match x with
 | .bl b=>.ok (b,ρ1)
 | _=>.no
theorem qa6 {σ:St}{H:Hp}{Q:Bool->Hp->Prop} (hq:tT M (bT f) σ H Q):tB (tE M f vs) σ H Q:=by
 obtain ⟨ρ,fps,rep,q⟩:=hq
 refine ⟨ρ,fps,rep,?_⟩
 unfold bT at q
 cases ef:f ρ with
 | no=>rw [ef] at q;exact q
 | exc c=>rw [ef] at q;exact q
 | ok p=>
  obtain ⟨x,d,ρ1⟩:=p
  rw [ef] at q
  intro v H1 fps1 f1 k1 g1 rep1 o1 t1
  dsimp only [Rz.bind] at q
  cases x with
  | bl b=>
   rw [Own] at o1
   exact ⟨b,o1.1,q H1 fps1 k1 g1 rep1⟩
  | _=>exact q.elim
def bAnd (f g:Fb):Fb:=λ ρ=>(f ρ).bind λ (b,ρ1)=>if b=true then g ρ1 else .ok (false,ρ1)
def bOr (f g:Fb):Fb:=λ ρ=>(f ρ).bind λ (b,ρ1)=>if b=true then .ok (true,ρ1) else g ρ1
def bNot (f:Fb):Fb:=λ ρ=>(f ρ).bind λ (b,ρ1)=>.ok (!b,ρ1)
theorem qjx {σ:St}{H:Hp}{Q:Bool->Hp->Prop} (hq:tT M (bAnd fb gb) σ H Q):tAnd (tT M fb) (tT M gb) σ H Q:=by
 obtain ⟨ρ,fps,rep,q⟩:=hq
 refine ⟨ρ,fps,rep,?_⟩
 unfold bAnd at q
 cases ef:fb ρ with
 | no=>rw [ef] at q;exact q
 | exc c=>rw [ef] at q;exact q
 | ok p=>
  obtain ⟨b,ρ1⟩:=p
  rw [ef] at q
  intro H1 fps1 k1 g1 rep1
  dsimp only [Rz.bind] at q
  cases b with
  | false=>exact (q H1 fps1 k1 g1 rep1)
  | true=>
   refine ⟨ρ1,fps1,rep1,?_⟩
   rw [if_pos rfl] at q
   cases eg:gb ρ1 with
   | no=>rw [eg] at q;exact q
   | exc c=>rw [eg] at q;exact λ H' fps' k=>q H' fps' (k1.trans k)
   | ok p2=>rw [eg] at q;exact λ H' fps' k g r=>q H' fps' (k1.trans k) (g1.trans g) r
theorem qmp {σ:St}{H:Hp}{Q:Bool->Hp->Prop} (hq:tT M (bOr fb gb) σ H Q):tOr (tT M fb) (tT M gb) σ H Q:=by
 obtain ⟨ρ,fps,rep,q⟩:=hq
 refine ⟨ρ,fps,rep,?_⟩
 unfold bOr at q
 cases ef:fb ρ with
 | no=>rw [ef] at q;exact q
 | exc c=>rw [ef] at q;exact q
 | ok p=>
  obtain ⟨b,ρ1⟩:=p
  rw [ef] at q
  intro H1 fps1 k1 g1 rep1
  dsimp only [Rz.bind] at q
  cases b with
  | true=>exact (q H1 fps1 k1 g1 rep1)
  | false=>
   refine ⟨ρ1,fps1,rep1,?_⟩
   rw [if_neg jc1] at q
   cases eg:gb ρ1 with
   | no=>rw [eg] at q;exact q
   | exc c=>rw [eg] at q;exact λ H' fps' k=>q H' fps' (k1.trans k)
   | ok p2=>rw [eg] at q;exact λ H' fps' k g r=>q H' fps' (k1.trans k) (g1.trans g) r
theorem qjw {σ:St}{H:Hp}{Q:Bool->Hp->Prop} (hq:tT M (bNot fb) σ H Q):tNot (tT M fb) σ H Q:=by
 obtain ⟨ρ,fps,rep,q⟩:=hq
 refine ⟨ρ,fps,rep,?_⟩
 unfold bNot at q
 cases ef:fb ρ with
 | no=>rw [ef] at q;exact q
 | exc c=>rw [ef] at q;exact q
 | ok p=>obtain ⟨b,ρ1⟩:=p;rw [ef] at q;exact q
theorem Tmps.all {K:Frag}{H:Hp}{Z:Addr->Prop}:∀ {xs:List (PV×Nat)}{ws:List V}{fp:List Addr},Tmps K H Z xs ws fp->(∀ p∈xs,p.2=om)->OwnL K H Z (xs.map (·.1)) om ws fp
 | [],_,_,h,_=>by rw [jf5,OwnL];exact h
 | (x,d)::xs,ws,fp,h,ha=>by
  obtain ⟨v,s,f1,f2,e1,e2,dj,h1,h2⟩:=h
  have e:d=om:=ha (x,d) ja2
  subst e
  rw [jb9,OwnL]
  exact ⟨v,s,f1,f2,e1,e2,dj,Own.full x v f1 h1,h2.all λ p hp=>ha p (ja0 _ hp)⟩
theorem Tmps.cold {K:Frag}{H:Hp}{Z:Addr->Prop}:∀ {xs:List (PV×Nat)}{ws:List V}{fp:List Addr},Tmps K H Z xs ws fp->(∀ a∈fp,¬ Z a)->OwnL K H Z (xs.map (·.1)) 0 ws []
 | [],_,_,h,_=>by rw [jf5,OwnL];exact ⟨h.1,rfl⟩
 | (x,d)::xs,ws,fp,h,ha=>by
  obtain ⟨v,s,f1,f2,e1,e2,dj,h1,h2⟩:=h
  rw [jb9,OwnL]
  exact ⟨v,s,[],[],e1,rfl,λ _ z=>(nomatch z),Own.freeze (λ _ z=>.inl z) x d v f1 (λ a z=>ha a (by rw [e2];exact ja4 _ z)) h1,h2.cold λ a z=>ha a (by rw [e2];exact ja1 _ z)⟩
theorem Tmps.length {K:Frag}{H:Hp}{Z:Addr->Prop}:∀ {xs:List (PV×Nat)}{ws:List V}{fp:List Addr},Tmps K H Z xs ws fp->ws.length=xs.length
 | [],_,_,h=>by rw [h.1];rfl
 | (x,d)::xs,ws,fp,h=>by
  obtain ⟨v,s,f1,f2,e1,e2,dj,h1,h2⟩:=h
  rw [e1,jc0,jc0,h2.length]
theorem OwnL.length {K:Frag}{H:Hp}{Z:Addr->Prop}:∀ {xs:List PV}{d:Nat}{ws:List V}{fp:List Addr},OwnL K H Z xs d ws fp->ws.length=xs.length
 | [],_,_,_,h=>by rw [OwnL] at h;rw [h.1];rfl
 | x::xs,d,ws,fp,h=>by
  rw [OwnL] at h
  obtain ⟨v,s,f1,f2,e1,e2,dj,h1,h2⟩:=h
  rw [e1,jc0,jc0,h2.length]
end
inductive Rs where
 | nx (ρ:Rho) | rt (x:PV) (d:Nat) (ρ:Rho) | bk (ρ:Rho) | ct (ρ:Rho) | exc (c:Nat) | no
abbrev Fs:=Rho->Rs
structure KS (M:Fm) (H:Hp) (fps:Fps) (H':Hp) (fps':Fps):Prop where
 keep:Keep (λ a=>∃ i,a∈fps i) H H'
 dom:∀ a,H a≠none->H' a≠none
 sub:∀ i,∀ a∈fps' i,(∃ j,a∈fps j)\/H a=none
def Zr (M:Fm) (fps:Fps):Addr->Prop:=λ a=>M.Zo a\/(M.io≠none/\a∈fps 0)
def RsOk (M:Fm) (D:Ends) (H:Hp) (fps:Fps):Rs->Prop
 | .nx ρ'=>∀ σ' H' fps',KS M H fps H' fps'->Rep M ρ' σ' H' fps'->D.nx σ' H'
 | .bk ρ'=>∀ σ' H' fps',KS M H fps H' fps'->Rep M ρ' σ' H' fps'->D.bk σ' H'
 | .ct ρ'=>∀ σ' H' fps',KS M H fps H' fps'->Rep M ρ' σ' H' fps'->D.ct σ' H'
 | .rt x d ρ'=>∀ v σ' H' fps' fp,KS M H fps H' fps'->Rep M ρ' σ' H' fps'->Own M.K H' (λ a=>Zr M fps' a\/a∈fp) x d v fp->(∀ a∈fp,M.H₀ a=none/\¬ Zr M fps' a)->D.rt v H'
 | .exc c=>∀ σ' H' fps',KS M H fps H' fps'->M.W σ' c H'
 | .no=>False
def tS (M:Fm) (f:Fs):TS:=λ D σ H=>∃ ρ fps,Rep M ρ σ H fps/\RsOk M D H fps (f ρ)
section
variable {M:Fm}{ρ ρ':Rho}{σ σ':St}{H H' H'':Hp}{fps fps' fps'':Fps}{vs vs':List Nat}
theorem KS.refl:KS M H fps H fps:=⟨λ _ _ h _=>h,λ _ h=>h,λ i _ h=>.inl ⟨i,h⟩⟩
theorem KD.ks (k:KD M H fps H' fps'):KS M H fps H' fps':=⟨λ a o h n=>k.keep a o h λ ⟨i,_,z⟩=>n ⟨i,z⟩,k.dom,λ i a h=>(k.sub i a h).elim (λ z=>.inl ⟨i,z⟩) .inr⟩
theorem KS.trans (a:KS M H fps H' fps') (b:KS M H' fps' H'' fps''):KS M H fps H'' fps'' where
 keep:=λ x o h n=>b.keep x o (a.keep x o h n) λ ⟨i,hx⟩=>(a.sub i x hx).elim (λ z=>n z) λ z=>by rw [z] at h;cases h
 dom:=λ x h=>b.dom x (a.dom x h)
 sub:=λ i x hx=>(b.sub i x hx).elim (λ ⟨j,z⟩=>a.sub j x z) λ z=>.inr (by
  cases e:H x with
  | none=>rfl
  | some o=>exact absurd z (a.dom x (by rw [e];simp)))
theorem KS.stay0 (k:KS M H fps H' fps') (r:Rep M ρ σ H fps) {x:PV}{v:V} (h:Own M.K H (Zf M fps) x 0 v []):Own M.K H' (Zf M fps') x 0 v []:=by
 refine Own.move k.keep (λ a ⟨i,ha⟩=>⟨.inr ⟨i,ha⟩,r.lsts ha⟩) ?_ x 0 v [] (λ _ z=>nomatch z) h
 intro a hd nz z
 rcases z with z | ⟨i,hx⟩
 ·exact nz (.inl z)
 ·rcases k.sub i a hx with z | z
  ·exact nz (.inr z)
  ·exact hd z
def sNil:Fs:=λ ρ=>.nx ρ
def sSeq (f g:Fs):Fs:=λ ρ=>match f ρ with
 | .nx ρ1=>g ρ1
 | r=>r
theorem qft {D:Ends} (hq:tS M sNil D σ H):qj6 D σ H:=by
 obtain ⟨ρ,fps,rep,q⟩:=hq
 exact q σ H fps KS.refl rep
def sIf (c:Fb) (f g:Fs):Fs:=λ ρ=>match c ρ with
 | .ok (b,ρ1)=>if b=true then f ρ1 else g ρ1
 | .exc e=>.exc e
 | .no=>.no
theorem RsOk.from {D:Ends}{r:Rs} (k1:KS M H fps H' fps') (q:RsOk M D H fps r):RsOk M D H' fps' r:=by
 cases r with
 | no=>exact q
 | exc c=>exact λ σ' H' fps' k=>q σ' H' fps' (k1.trans k)
 | rt x d ρ2=>exact λ v σ' H' fps' fp k=>q v σ' H' fps' fp (k1.trans k)
 | bk ρ2=>exact λ σ' H' fps' k=>q σ' H' fps' (k1.trans k)
 | ct ρ2=>exact λ σ' H' fps' k=>q σ' H' fps' (k1.trans k)
 | nx ρ2=>exact λ σ' H' fps' k=>q σ' H' fps' (k1.trans k)
theorem qfs {f g:Fs}{D:Ends} (hq:tS M (sSeq f g) D σ H):tSeq (tS M f) (tS M g) D σ H:=by
 obtain ⟨ρ,fps,rep,q⟩:=hq
 refine ⟨ρ,fps,rep,?_⟩
 unfold sSeq at q
 cases ef:f ρ with
 | no=>rw [ef] at q;exact q
 | exc c=>rw [ef] at q;exact q
 | rt x d ρ1=>rw [ef] at q;exact q
 | bk ρ1=>rw [ef] at q;exact q
 | ct ρ1=>rw [ef] at q;exact q
 | nx ρ1=>
  rw [ef] at q
  exact λ σ1 H1 fps1 k1 rep1=>⟨ρ1,fps1,rep1,RsOk.from k1 q⟩
theorem qmq {c:Fb}{f g:Fs}{D:Ends} (hq:tS M (sIf c f g) D σ H):tIfS (tT M c) (tS M f) (tS M g) D σ H:=by
 obtain ⟨ρ,fps,rep,q⟩:=hq
 refine ⟨ρ,fps,rep,?_⟩
 unfold sIf at q
 cases ef:c ρ with
 | no=>rw [ef] at q;exact q
 | exc c=>rw [ef] at q;exact λ H' fps' k=>q _ H' fps' k.ks
 | ok p=>
  obtain ⟨b,ρ1⟩:=p
  rw [ef] at q
  intro H1 fps1 k1 g1 rep1
  dsimp only at q
  cases b with
  | true=>
   rw [if_pos rfl] at q ⊢
   exact ⟨ρ1,fps1,rep1,RsOk.from k1.ks q⟩
  | false=>
   rw [if_neg jc1] at q ⊢
   exact ⟨ρ1,fps1,rep1,RsOk.from k1.ks q⟩
def cool (vs:List Nat):Nat->Rho->Rho
 | _,[]=>[]
 | k,s::r=>(if vs.contains k then s.map λ p=>(p.1,0) else s)::cool vs (k + 1) r
def zxa (d:Nat) (vs:List Nat) (ρ:Rho):Rho:=if d=om then ρ else cool vs 0 ρ
theorem zkw (vs:List Nat):∀ (ρ:Rho) (k i:Nat),(cool vs k ρ)[i]?=(ρ[i]?).map λ s=>if vs.contains (k + i) then s.map λ p=>(p.1,0) else s
 | [],k,i=>by simp [cool]
 | s::r,k,0=>by simp [cool]
 | s::r,k,i + 1=>by
  rw [cool,jg8,zkw vs r (k + 1) i,jg8]
  have:k + 1 + i=k + (i + 1):=by omega
  rw [this]
theorem zpb (vs:List Nat):∀ (ρ:Rho) (k:Nat),(cool vs k ρ).length=ρ.length
 | [],_=>rfl
 | s::r,k=>by rw [cool,jc0,zpb vs r (k + 1),jc0]
def zvw (vs:List Nat) (fps:Fps):Fps:=λ i=>if vs.contains i then [] else fps i
theorem zxm {a:Addr}{i:Nat} (h:a∈zvw vs fps i):a∈fps i/\i∉vs:=by
 unfold zvw at h
 split at h
 ·cases h
 ·rename_i n;exact ⟨h,λ z=>n (by simpa using z)⟩
theorem zvo {a:Addr} (h:Zf M (zvw vs fps) a):Zv M vs fps a:=h.elim .inl λ ⟨i,z⟩=>.inr ⟨i,(zxm z).2,(zxm z).1⟩
theorem Rep.cool (r:Rep M ρ σ H fps) (hal:∀ i,M.al i=[]) (hv:∀ i∈vs,M.Ms i=false):Rep M (cool vs 0 ρ) σ H (zvw vs fps) where
 own:=λ i x d e=>by
  rw [zkw] at e
  cases e1:ρ[i]? with
  | none=>rw [e1] at e;cases e
  | some s=>
   rw [e1] at e
   simp only [jg9,jk0] at e
   by_cases hc:vs.contains i=true
   ·rw [if_pos hc] at e
    cases s with
    | none=>cases e
    | some p=>
     obtain ⟨x0,d0⟩:=p
     simp only [jg9,Option.some.injEq,Prod.mk.injEq] at e
     obtain ⟨rfl,rfl⟩:=e
     obtain ⟨v,hσ,o⟩:=r.own0 hal i x0 d0 e1
     refine ⟨v,hσ,Own.weak (Z:=Zf M (zvw vs fps)) (λ a h=>h.zf) ?_⟩
     have:zvw vs fps i=[]:=by unfold zvw;rw [if_pos hc]
     rw [this]
     exact Own.freeze (λ a h=>Zv.zf (zvo h)) x0 d0 v _ (λ a ha z=>by
      rcases z with z | ⟨j,z⟩
      ·exact r.zo i a ha z
      ·obtain ⟨z1,z2⟩:=zxm z
       exact r.dj i j (λ e=>z2 (by rw [<- e];simpa using hc)) a ha z1) o
   ·rw [if_neg hc] at e
    cases e
    obtain ⟨v,hσ,o⟩:=r.own0 hal i x d e1
    refine ⟨v,hσ,Own.weak (Z:=Zf M (zvw vs fps)) (λ a h=>h.zf) ?_⟩
    have:zvw vs fps i=fps i:=by unfold zvw;rw [if_neg hc]
    rw [this]
    exact o.weak λ a h=>Zv.zf (zvo h)
 non:=λ i h=>by
  unfold zvw
  split
  ·rfl
  ·rename_i hc
   refine r.non i λ p e=>h p ?_
   rw [zkw,e]
   simp only [jg9,jk0]
   rw [if_neg hc]
 dj:=λ i j hij a ha hb=>r.dj i j hij a (zxm ha).1 (zxm hb).1
 zo:=λ i a ha=>r.zo i a (zxm ha).1
 fr:=λ i hi a ha=>r.fr i hi a (zxm ha).1
 zd:=r.zd
 len:=by rw [zpb];exact r.len
 msf:=λ i x d hi e=>by
  rw [zkw] at e
  cases e1:ρ[i]? with
  | none=>rw [e1] at e;cases e
  | some s=>
   rw [e1] at e
   simp only [jg9,jk0] at e
   have hc:¬ vs.contains i=true:=λ z=>by rw [hv i (by simpa using z)] at hi;cases hi
   rw [if_neg hc] at e
   cases e
   exact r.msf i x d hi e1
 h0:=r.h0
 iov:=r.iov
theorem KS.cool (k:KS M H fps H' fps'):KS M H fps H' (zvw vs fps'):=⟨k.keep,k.dom,λ i a h=>k.sub i a (zxm h).1⟩
theorem Rep.wide {fp:List Addr} (hal:∀ i,∀ j∈M.al i,M.Ms j=false) (r:Rep M ρ σ H fps) (k:KD M H fps H' fps') (g:Agr M ρ ρ') (r':Rep M ρ' σ H' fps') (hf:∀ a∈fp,H a=none/\H' a≠none/\¬ Zf M fps' a):Rep (M.plus fp) ρ' σ H' fps' where
 own:=λ i x d e=>by
  by_cases hm:M.Ms i=true
  ·obtain ⟨v,hv,o⟩:=r'.own i x d e
   have hd:=r'.msf i x d hm e
   subst hd
   exact ⟨v,hv,Own.full x v _ o⟩
  ·have hm':M.Ms i=false:=by simpa using hm
   rw [g.1 i hm'] at e
   obtain ⟨v,hv,o⟩:=r.own i x d e
   refine ⟨v,hv,?_⟩
   rw [k.same i hm']
   refine Own.move k.keep (λ a ⟨j,hj,ha⟩=>⟨.inr ⟨j,λ z=>(by rw [hal i j z] at hj;cases hj),ha⟩,r.lsts ha⟩) ?_ x d v _ ?_ o
   ·intro a hd nz z
    rcases z with (z | z) | ⟨j,nj,z⟩
    ·exact nz (.inl z)
    ·exact hd (hf a z).1
    ·rcases k.sub j a z with z | z
     ·exact nz (.inr ⟨j,nj,z⟩)
     ·exact hd z
   ·rintro a ha ⟨j,hj,hx⟩
    exact r.dj i j (λ e=>by rw [e,hj] at hm';cases hm') a ha hx
 non:=r'.non
 dj:=r'.dj
 zo:=λ i a ha z=>z.elim (r'.zo i a ha) λ z=>(hf a z).2.2 (.inr ⟨i,ha⟩)
 fr:=r'.fr
 zd:=λ a z=>z.elim (r'.zd a) λ z=>(hf a z).2.1
 len:=r'.len
 msf:=r'.msf
 h0:=r'.h0
 iov:=r'.iov
theorem Rep.put {i:Nat}{x:PV}{d:Nat}{v:V}{fp:List Addr} (r:Rep (M.plus fp) ρ σ H fps) (h:Own M.K H (λ a=>Za M fps i a\/a∈fp) x d v fp) (hf:∀ a∈fp,M.H₀ a=none/\¬ M.Zo a) (hi:i < ρ.length) (hm:M.Ms i=true->d=om) (hio:M.Fre i):
  Rep M (ρ.set i (some (x,d))) (σ.set i (some v)) H (λ j=>if j=i then fp else fps j):=by
 have zz:∀ a,Zf M (λ j=>if j=i then fp else fps j) a->Zf M fps a\/a∈fp:=λ a h=>by
  rcases h with z | ⟨j,z⟩
  ·exact .inl (.inl z)
  ·by_cases e:j=i
   ·simp only [if_pos e] at z;exact .inr z
   ·simp only [if_neg e] at z;exact .inl (.inr ⟨j,z⟩)
 have zz2:∀ a,Zf M fps a\/a∈fp->Zf (M.plus fp) fps a:=λ a h=>h.elim (λ h=>h.elim (λ z=>.inl (.inl z)) λ z=>.inr z) λ z=>.inl (.inr z)
 refine ⟨λ j y e hj=>?_,λ j hj=>?_,λ j k hjk a ha hb=>?_,λ j a ha z=>?_,λ j hj a ha=>?_,λ a z=>r.zd a (.inl z),?_,λ j y e hj he=>?_,r.h0,?_⟩
 ·by_cases e:j=i
  ·subst e
   rw [jc2 hi] at hj
   cases hj
   refine ⟨v,by rw [jc2 (by rw [<- r.len];exact hi)],?_⟩
   rw [if_pos rfl]
   refine h.weak λ a h=>?_
   rcases h with z | ⟨k,nk,z⟩
   ·exact .inl (.inl z)
   ·by_cases ek:k=j
    ·simp only [if_pos ek] at z;exact .inr z
    ·simp only [if_neg ek] at z;exact .inl (.inr ⟨k,nk,z⟩)
  ·rw [jb0 (vc1 e)] at hj
   obtain ⟨w,hw,o⟩:=r.own j y _ hj
   refine ⟨w,by rw [jb0 (vc1 e)];exact hw,?_⟩
   rw [if_neg e]
   refine o.weak λ a h=>?_
   rcases h with z | ⟨k,nk,z⟩
   ·exact .inl (.inl z)
   ·by_cases ek:k=i
    ·simp only [if_pos ek] at z;exact .inl (.inr z)
    ·simp only [if_neg ek] at z;exact .inr ⟨k,nk,z⟩
 ·by_cases e:j=i
  ·subst e
   exact absurd (jc2 hi) (hj _)
  ·rw [if_neg e]
   exact r.non j λ p hp=>hj p (by rw [jb0 (vc1 e)];exact hp)
 ·by_cases e1:j=i
  ·by_cases e2:k=i
   ·exact hjk (e1.trans e2.symm)
   ·rw [if_pos e1] at ha
    rw [if_neg e2] at hb
    exact r.zo k a hb (.inr ha)
  ·rw [if_neg e1] at ha
   by_cases e2:k=i
   ·rw [if_pos e2] at hb
    exact r.zo j a ha (.inr hb)
   ·rw [if_neg e2] at hb
    exact r.dj j k hjk a ha hb
 ·by_cases e:j=i
  ·rw [if_pos e] at ha;exact (hf a ha).2 z
  ·rw [if_neg e] at ha;exact r.zo j a ha (.inl z)
 ·by_cases e:j=i
  ·rw [if_pos e] at ha;exact (hf a ha).1
  ·rw [if_neg e] at ha;exact r.fr j hj a ha
 ·rw [je1,je1];exact r.len
 ·by_cases e:j=i
  ·subst e
   rw [jc2 hi] at he
   cases he
   exact hm hj
  ·rw [jb0 (vc1 e)] at he
   exact r.msf j y _ hj he
 ·refine ⟨λ w hw=>?_,λ p hp=>?_⟩
  ·have h0:i≠0:=hio.1 (by rw [hw];simp)
   rw [jb0 h0]
   exact r.iov.1 w hw
  ·rw [jb0 (hio.2 p hp).symm]
   exact r.iov.2 p hp
def sSet (ms:Bool) (i:Nat) (f:Fx) (vs:List Nat):Fs:=λ ρ=>match f ρ with
 | .ok (x,d,ρ1)=>if i < ρ1.length/\(ms=true->d=om) then .nx ((zxa d vs ρ1).set i (some (x,d))) else .no
 | .exc c=>.exc c
 | .no=>.no
theorem Rep.store {i:Nat}{x:PV}{d:Nat}{v:V}{fp:List Addr} (rep:Rep M ρ σ H fps) (k:KD M H fps H' fps') (g:Agr M ρ ρ') (r':Rep M ρ' σ H' fps') (o:Own M.K H' (Zt M vs fps' fp) x d v fp) (t:Temp M vs H H' fps' fp)
  (hal:∀ i,M.al i=[]) (hv:∀ i∈vs,M.Ms i=false) (hi:i < ρ'.length) (hm:M.Ms i=true->d=om) (hio:M.Fre i):
  ∃ fps2,KS M H fps H' fps2/\Rep M ((zxa d vs ρ').set i (some (x,d))) (σ.set i (some v)) H' fps2:=by
 have back:∀ a,H a=none->M.H₀ a=none:=λ a e=>by
  cases e':M.H₀ a with
  | none=>rfl
  | some o=>exact absurd e (rep.h0 a (by rw [e'];simp))
 have w:Rep (M.plus fp) ρ' σ H' fps':=rep.wide (λ i j hj=>by rw [hal i] at hj;cases hj) k g r' λ a ha=>⟨t.new a ha,by obtain ⟨xs,e⟩:=Own.lsts x d v fp o a ha;rw [e];simp,t.ndj a ha⟩
 have hf:∀ a∈fp,M.H₀ a=none/\¬ M.Zo a:=λ a ha=>⟨back a (t.new a ha),λ z=>t.ndj a ha (.inl z)⟩
 have ks2:∀ {fps2:Fps},(∀ i a,a∈fps2 i->a∈fps' i)->KS M H fps H' (λ j=>if j=i then fp else fps2 j):=λ {fps2} h2=>⟨k.ks.keep,k.dom,λ j a ha=>by
  by_cases e:j=i
  ·simp only [if_pos e] at ha;exact .inr (t.new a ha)
  ·simp only [if_neg e] at ha;exact k.ks.sub j a (h2 j a ha)⟩
 unfold zxa
 by_cases hd:d=om
 ·rw [if_pos hd]
  refine ⟨_,ks2 λ _ _ h=>h,w.put (i:=i) (x:=x) (d:=d) (v:=v) ?_ hf hi hm hio⟩
  rw [hd] at o ⊢
  exact Own.full x v fp o
 ·rw [if_neg hd]
  refine ⟨_,ks2 λ _ _ h=>(zxm h).1,(w.cool (vs:=vs) hal hv).put (i:=i) (x:=x) (d:=d) (v:=v) ?_ hf (by rw [zpb];exact hi) hm hio⟩
  exact o.weak λ a h=>h.elim (λ h=>.inl (zvo h.zf)) .inr
theorem zgm {f:Fx}{i:Nat}{ms:Bool}{D:Ends} (hal:∀ i,M.al i=[]) (hv:∀ i∈vs,M.Ms i=false) (hms:M.Ms i=ms) (hio:M.Fre i) (hq:tS M (sSet ms i f vs) D σ H):tAsg (tE M f vs) (zyl i) D σ H:=by
 obtain ⟨ρ,fps,rep,q⟩:=hq
 refine ⟨ρ,fps,rep,?_⟩
 unfold sSet at q
 cases ef:f ρ with
 | no=>rw [ef] at q;exact q
 | exc c=>rw [ef] at q;exact λ H' fps' k=>q _ H' fps' k.ks
 | ok p=>
  obtain ⟨x,d,ρ1⟩:=p
  rw [ef] at q
  intro v H1 fps1 f1 k1 g1 rep1 o1 t1
  dsimp only at q
  by_cases hc:i < ρ1.length/\(ms=true->d=om)
  ·rw [if_pos hc] at q
   obtain ⟨fps2,k2,r2⟩:=Rep.store rep k1 g1 rep1 o1 t1 hal hv hc.1 (λ h=>hc.2 (by rw [<- hms];exact h)) hio
   exact q _ _ _ k2 r2
  ·rw [if_neg hc] at q;exact q.elim
end
section
variable {M:Fm}{ρ ρ':Rho}{σ σ':St}{H H' H'':Hp}{fps fps' fps'':Fps}{vs vs':List Nat}
theorem Zr.zf {a:Addr} (h:Zr M fps a):Zf M fps a:=h.elim .inl λ h=>.inr ⟨0,h.2⟩
theorem Rep.zr (r:Rep M ρ σ H fps) (hv:∀ i∈vs,M.Ms i=false) {a:Addr} (h:Zr M fps a):Zv M vs fps a:=by
 rcases h with h | ⟨h1,h2⟩
 ·exact .inl h
 ·refine .inr ⟨0,λ z=>?_,h2⟩
  cases e:M.io with
  | none=>exact h1 e
  | some v=>have:=(r.iov.1 v e).2;rw [hv 0 z] at this;cases this
theorem Rep.h0' (r:Rep M ρ σ H fps) {a:Addr} (e:H a=none):M.H₀ a=none:=by
 cases e':M.H₀ a with
 | none=>rfl
 | some o=>exact absurd e (r.h0 a (by rw [e'];simp))
def sRet (f:Fx):Fs:=λ ρ=>match f ρ with
 | .ok (x,d,ρ1)=>.rt x d ρ1
 | .exc c=>.exc c
 | .no=>.no
theorem qjz {f:Fx}{D:Ends} (hv:∀ i∈vs,M.Ms i=false) (hq:tS M (sRet f) D σ H):tRet (tE M f vs) D σ H:=by
 obtain ⟨ρ,fps,rep,q⟩:=hq
 refine ⟨ρ,fps,rep,?_⟩
 unfold sRet at q
 cases ef:f ρ with
 | no=>rw [ef] at q;exact q
 | exc c=>rw [ef] at q;exact λ H' fps' k=>q _ H' fps' k.ks
 | ok p=>
  obtain ⟨x,d,ρ1⟩:=p
  rw [ef] at q
  intro v H1 fps1 f1 k1 g1 rep1 o1 t1
  exact q v σ H1 fps1 f1 k1.ks rep1 (o1.weak λ a h=>h.elim (λ h=>.inl (rep1.zr hv h)) .inr) λ a ha=>⟨rep.h0' (t1.new a ha),λ z=>t1.ndj a ha z.zf⟩
def qbt (i:Nat):Fs:=λ ρ=>match ρ[i]? with
 | some (some (x,d))=>.rt x d ρ
 | _=>.no
theorem qg3 {i:Nat}{D:Ends} (hal:∀ i,M.al i=[]) (hm:M.Ms i=false) (hq:tS M (qbt i) D σ H):tRet (tVar i) D σ H:=by
 obtain ⟨ρ,fps,rep,q⟩:=hq
 unfold qbt at q
 cases e0:ρ[i]? with
 | none=>rw [e0] at q;exact q.elim
 | some sl=>
  cases sl with
  | none=>rw [e0] at q;exact q.elim
  | some p=>
   obtain ⟨x,d⟩:=p
   rw [e0] at q
   obtain ⟨v,hv,o⟩:=rep.own0 hal i x d e0
   refine ⟨v,hv,q v σ H fps (fps i) KS.refl rep (o.weak λ a h=>h.elim Zr.zf λ z=>.inr ⟨i,z⟩) λ a ha=>⟨rep.fr i hm a ha,λ z=>?_⟩⟩
   rcases z with z | ⟨z1,z2⟩
   ·exact rep.zo i a ha z
   ·cases e:M.io with
    | none=>exact z1 e
    | some w=>exact rep.dj i 0 (λ e'=>by rw [e',(rep.iov.1 w e).2] at hm;cases hm) a ha z2
def zvb (f:Fx):Fs:=λ ρ=>match f ρ with
 | .ok (_,_,ρ1)=>.nx ρ1
 | .exc c=>.exc c
 | .no=>.no
theorem qba {f:Fx}{D:Ends} (hq:tS M (zvb f) D σ H):qbg (tE M f vs) D σ H:=by
 obtain ⟨ρ,fps,rep,q⟩:=hq
 refine ⟨ρ,fps,rep,?_⟩
 unfold zvb at q
 cases ef:f ρ with
 | no=>rw [ef] at q;exact q
 | exc c=>rw [ef] at q;exact λ H' fps' k=>q _ H' fps' k.ks
 | ok p=>
  obtain ⟨x,d,ρ1⟩:=p
  rw [ef] at q
  intro v H1 fps1 f1 k1 g1 rep1 o1 t1
  exact q σ H1 fps1 k1.ks rep1
theorem OwnL.snoc {K:Frag}{Z:Addr->Prop}{y:PV}{d:Nat}{w:V}{fy:List Addr}:∀ {xs:List PV}{ws:List V}{f:List Addr},OwnL K H Z xs d ws f->Own K H Z y d w fy->(∀ a∈f,a∉fy)->OwnL K H Z (xs++[y]) d (ws++[w]) (f++fy)
 | [],ws,f,h,hy,_=>by
  rw [OwnL] at h
  obtain ⟨rfl,rfl⟩:=h
  show OwnL K H Z [y] d [w] fy
  rw [OwnL]
  refine ⟨w,[],fy,[],rfl,by simp,λ _ _ z=>(nomatch z),hy,?_⟩
  rw [OwnL];exact ⟨rfl,rfl⟩
 | x::xs,ws,f,h,hy,hd=>by
  rw [OwnL] at h
  obtain ⟨v,s,f1,f2,rfl,rfl,dj,h1,h2⟩:=h
  show OwnL K H Z (x::(xs++[y])) d (v::(s++[w])) (f1++f2++fy)
  rw [OwnL]
  refine ⟨v,s++[w],f1,f2++fy,rfl,by rw [jh0],λ a ha hb=>?_,h1,h2.snoc hy λ a ha=>hd a (ja1 _ ha)⟩
  rcases jb3.mp hb with z | z
  ·exact dj a ha z
  ·exact hd a (ja4 _ ha) z
theorem Own.at {K:Frag}{Z Z':Addr->Prop}{a:Addr}{o:HO}{x:PV}{d:Nat}{v:V}{fp:List Addr} (h:Own K H Z x d v fp) (hZ:Z a) (hl:∃ o:MO,H a=some o.ho) (hf:a∉fp) (hz:∀ b,H b≠none->¬ Z b->¬ Z' b):Own K (upd H a o) Z' x d v fp:=
 Own.move (S:=λ b=>b=a) (λ b u hb n=>by rw [zqf n];exact hb) (λ b e=>by rw [e];exact ⟨hZ,hl⟩) hz x d v fp (λ b hb e=>hf (by rw [<- e];exact hb)) h
theorem OwnL.at {K:Frag}{Z Z':Addr->Prop}{a:Addr}{o:HO}{x:List PV}{d:Nat}{v:List V}{fp:List Addr} (h:OwnL K H Z x d v fp) (hZ:Z a) (hl:∃ o:MO,H a=some o.ho) (hf:a∉fp) (hz:∀ b,H b≠none->¬ Z b->¬ Z' b):OwnL K (upd H a o) Z' x d v fp:=
 OwnL.move (S:=λ b=>b=a) (λ b u hb n=>by rw [zqf n];exact hb) (λ b e=>by rw [e];exact ⟨hZ,hl⟩) hz x d v fp (λ b hb e=>hf (by rw [<- e];exact hb)) h
theorem Rep.rewrite {i:Nat}{xs:List PV}{d:Nat}{a:Addr}{ws:List V}{zs:List PV}{us:List V}{e:Nat}{f f' fp:List Addr} (hal:∀ i,M.al i=[]) (r:Rep (M.plus fp) ρ σ H fps) (hi:ρ[i]?=some (some (.lst xs,d))) (hσ:σ[i]?=some (some (.ref a)))
  (ha:H a=some (.lst ws)) (hfp:fps i=a::f) (hn:a∉f') (hsub:∀ b∈f',b∈f\/b∈fp) (he:e≠0) (hm:M.Ms i=true->e=om) (hH:∀ b∈fp,M.H₀ b=none/\¬ M.Zo b)
  (hnew:OwnL M.K (upd H a (.lst us)) (Zf M (λ j=>if j=i then a::f' else fps j)) zs (pd e) us f'):
  Rep M (ρ.set i (some (.lst zs,e))) σ (upd H a (.lst us)) (λ j=>if j=i then a::f' else fps j):=by
 have hlen:i < ρ.length:=(ja8.mp hi).1
 have hai:a∈fps i:=by rw [hfp];exact ja2
 have zz:∀ b,Zf M (λ j=>if j=i then a::f' else fps j) b->Zf (M.plus fp) fps b:=λ b h=>by
  rcases h with z | ⟨j,z⟩
  ·exact .inl (.inl z)
  ·by_cases ej:j=i
   ·simp only [if_pos ej] at z
    rcases ja9.mp z with z | z
    ·exact .inr ⟨i,by rw [z];exact hai⟩
    ·rcases hsub b z with z | z
     ·exact .inr ⟨i,by rw [hfp];exact ja0 _ z⟩
     ·exact .inl (.inr z)
   ·simp only [if_neg ej] at z;exact .inr ⟨j,z⟩
 have dm:∀ b,H b≠none->(upd H a (.lst us)) b≠none:=λ b h=>by
  by_cases eb:b=a
  ·rw [eb,zqh];simp
  ·rw [zqf eb];exact h
 have inI:∀ b,b∈a::f'->b∈fps i\/b∈fp:=λ b hb=>by
  rcases ja9.mp hb with z | z
  ·exact .inl (by rw [z];exact hai)
  ·rcases hsub b z with z | z
   ·exact .inl (by rw [hfp];exact ja0 _ z)
   ·exact .inr z
 refine ⟨λ j y c hj=>?_,λ j hj=>?_,λ j k hjk b hb hc=>?_,λ j b hb z=>?_,λ j hj b hb=>?_,λ b z=>dm b (r.zd b (.inl z)),by rw [je1];exact r.len,λ j y c hj hc=>?_,λ b z=>dm b (r.h0 b z),r.iov⟩
 ·by_cases ej:j=i
  ·subst ej
   rw [jc2 hlen] at hj
   cases hj
   refine ⟨_,hσ,?_⟩
   rw [if_pos rfl,Own]
   exact ⟨a,us,rfl,.inr ⟨he,f',zqh,rfl,hn,hnew.weak λ _ h=>h.zf⟩⟩
  ·rw [jb0 (vc1 ej)] at hj
   obtain ⟨w,hw,ow⟩:=r.own0 hal j y c hj
   refine ⟨w,hw,?_⟩
   rw [if_neg ej]
   exact ow.at (.inr ⟨i,hai⟩) ⟨.l ws,ha⟩ (λ z=>r.dj j i ej a z hai) λ b _ nz z=>nz (zz b z.zf)
 ·by_cases ej:j=i
  ·subst ej;exact absurd (jc2 hlen) (hj _)
  ·rw [if_neg ej]
   exact r.non j λ p hp=>hj p (by rw [jb0 (vc1 ej)];exact hp)
 ·have one:∀ k,k≠i->∀ b,b∈a::f'->b∈fps k->False:=λ k hk b h1 h2=>(inI b h1).elim (λ z=>r.dj i k (vc1 hk) b z h2) λ z=>r.zo k b h2 (.inr z)
  by_cases e1:j=i
  ·by_cases e2:k=i
   ·exact hjk (e1.trans e2.symm)
   ·rw [if_pos e1] at hb
    rw [if_neg e2] at hc
    exact one k e2 b hb hc
  ·rw [if_neg e1] at hb
   by_cases e2:k=i
   ·rw [if_pos e2] at hc
    exact one j e1 b hc hb
   ·rw [if_neg e2] at hc
    exact r.dj j k hjk b hb hc
 ·by_cases ej:j=i
  ·rw [if_pos ej] at hb
   rcases inI b hb with y | y
   ·exact r.zo i b y (.inl z)
   ·exact (hH b y).2 z
  ·rw [if_neg ej] at hb;exact r.zo j b hb (.inl z)
 ·by_cases ej:j=i
  ·rw [if_pos ej] at hb
   rcases inI b hb with y | y
   ·exact r.fr i (by rw [<- ej];exact hj) b y
   ·exact (hH b y).1
  ·rw [if_neg ej] at hb;exact r.fr j hj b hb
 ·by_cases ej:j=i
  ·subst ej
   rw [jc2 hlen] at hc
   cases hc
   exact hm hj
  ·rw [jb0 (vc1 ej)] at hc
   exact r.msf j y c hj hc
end
section
variable {M:Fm}{ρ ρ':Rho}{σ σ':St}{H H' H'':Hp}{fps fps' fps'':Fps}{vs vs':List Nat}
theorem KS.write {a:Addr}{o:HO}{i:Nat}{f' fp:List Addr} (k:KS M H fps H' fps') (ha:∃ j,a∈fps j) (hs:∀ b∈a::f',b∈fps' i\/H b=none):
  KS M H fps (upd H' a o) (λ j=>if j=i then a::f' else fps' j) where
 keep:=λ b u hb n=>by rw [zqf (λ e=>n (by rw [e];exact ha))];exact k.keep b u hb n
 dom:=λ b hb=>by
  by_cases e:b=a
  ·rw [e,zqh];simp
  ·rw [zqf e];exact k.dom b hb
 sub:=λ j b hb=>by
  by_cases e:j=i
  ·simp only [if_pos e] at hb
   rcases hs b hb with z | z
   ·exact k.sub i b z
   ·exact .inr z
  ·simp only [if_neg e] at hb;exact k.sub j b hb
theorem Rep.behind {x:PV}{d:Nat}{v:V}{fp:List Addr} (rep:Rep M ρ σ H fps) (k:KD M H fps H' fps') (g:Agr M ρ ρ') (r':Rep M ρ' σ H' fps') (o:Own M.K H' (Zt M vs fps' fp) x d v fp) (t:Temp M vs H H' fps' fp)
  (hal:∀ i,M.al i=[]) (hv:∀ i∈vs,M.Ms i=false):∃ fps2,KS M H fps H' fps2/\Rep (M.plus fp) (zxa d vs ρ') σ H' fps2/\Own M.K H' (λ a=>Zf M fps2 a\/a∈fp) x d v fp/\(∀ a∈fp,¬ Zf M fps2 a)/\(∀ i a,a∈fps2 i->a∈fps' i)/\(∀ a∈fp,M.H₀ a=none/\¬ M.Zo a):=by
 have w:Rep (M.plus fp) ρ' σ H' fps':=rep.wide (λ i j hj=>by rw [hal i] at hj;cases hj) k g r' λ a ha=>⟨t.new a ha,by obtain ⟨xs,e⟩:=Own.lsts x d v fp o a ha;rw [e];simp,t.ndj a ha⟩
 have hf:∀ a∈fp,M.H₀ a=none/\¬ M.Zo a:=λ a ha=>⟨rep.h0' (t.new a ha),λ z=>t.ndj a ha (.inl z)⟩
 unfold zxa
 by_cases hd:d=om
 ·rw [if_pos hd]
  refine ⟨fps',k.ks,w,?_,t.ndj,λ _ _ h=>h,hf⟩
  rw [hd] at o ⊢
  exact Own.full x v fp o
 ·rw [if_neg hd]
  exact ⟨zvw vs fps',k.ks.cool,w.cool hal hv,o.weak λ a h=>h.elim (λ h=>.inl (zvo h)) .inr,λ a ha z=>t.ndj a ha (zvo z).zf,λ _ _ h=>(zxm h).1,hf⟩
def sApp (i:Nat) (f:Fx) (vs:List Nat):Fs:=λ ρ=>match ρ[i]? with
 | some (some (.lst _,0))=>.no
 | some (some (.lst _,_ + 1))=>(match f ρ with
  | .ok (y,e,ρ1)=>(match (zxa e vs ρ1)[i]? with
   | some (some (.lst xs,d))=>if d≠0/\xs.length < va2 then .nx ((zxa e vs ρ1).set i (some (.lst (xs++[y]),if d=om/\e=om then om else 1))) else .no
   | _=>.no)
  | .exc c=>.exc c
  | .no=>.no)
 | _=>.no
theorem zmb:pd 1=0:=by decide
theorem Own.list {K:Frag}{Z:Addr->Prop}{xs:List PV}{d:Nat}{v:V}{fp:List Addr} (h:Own K H Z (.lst xs) d v fp) (hd:d≠0):∃ a ws f,v=.ref a/\H a=some (.lst ws)/\fp=a::f/\a∉f/\OwnL K H Z xs (pd d) ws f:=by
 rw [Own] at h
 obtain ⟨a,ws,e,⟨d0,_⟩ | ⟨_,f,h1,h2,h3,h4⟩⟩:=h
 ·exact absurd d0 hd
 ·exact ⟨a,ws,f,e,h1,h2,h3,h4⟩
theorem qj2 {f:Fx}{i:Nat}{D:Ends} (hal:∀ i,M.al i=[]) (hv:∀ i∈vs,M.Ms i=false) (hm:M.Ms i=false) (hq:tS M (sApp i f vs) D σ H):qbg (tBM M.K "list" zfn (tVar i) (qbh (tE M f vs) tNil)) D σ H:=by
 obtain ⟨ρ,fps,rep,q⟩:=hq
 unfold sApp at q
 split at q
 ·exact q.elim
 ·rename_i xs0 d0 e0
  obtain ⟨v,hσ,o⟩:=rep.own0 hal i _ _ e0
  obtain ⟨a,ws0,fc0,rfl,ha0,hfp0,_,_⟩:=o.list (jl8 _)
  refine ⟨_,hσ,qa4 (.inl (.inl ha0)),ρ,fps,rep,?_⟩
  cases ef:f ρ with
  | no=>rw [ef] at q;exact q
  | exc c=>rw [ef] at q;exact λ H' fps' k=>q _ H' fps' k.ks
  | ok p=>
   obtain ⟨y,e,ρ1⟩:=p
   rw [ef] at q
   intro w H1 fps1 fp k1 g1 rep1 o1 t1
   dsimp only at q
   split at q
   ·rename_i xs d es
    split at q
    ·rename_i hc
     obtain ⟨fps2,k2,r2,o2,n2,s2,h2⟩:=Rep.behind rep k1 g1 rep1 o1 t1 hal hv
     obtain ⟨v',hσ',ol⟩:=r2.own0 hal i _ _ es
     rw [hσ] at hσ'
     cases hσ'
     obtain ⟨a',ws,fc,ev,ha,hfp,nac,hol⟩:=ol.list hc.1
     cases ev
     have hai:a∈fps2 i:=by rw [hfp];exact ja2
     have hafp:a∉fp:=λ z=>n2 a z (.inr ⟨i,hai⟩)
     have hst:∃ j,a∈fps j:=⟨i,by have:=s2 i a hai;rw [k1.same i hm] at this;exact this⟩
     refine ⟨a,ws,w,rfl,rfl,ha,by rw [hol.length];exact hc.2,?_⟩
     by_cases ho:d=om/\e=om
     ·rw [if_pos ho] at q
      obtain ⟨rfl,rfl⟩:=ho
      refine q σ _ _ (k2.write (i:=i) (f':=fc++fp) (fp:=fp) hst λ b hb=>?_) (r2.rewrite hal es hσ ha hfp (λ z=>(jb3.mp z).elim nac hafp) (λ b hb=>jb3.mp hb) (by decide) (λ _=>rfl) h2 ?_)
      ·rcases ja9.mp hb with z | z
       ·exact .inl (by rw [z];exact hai)
       ·rcases jb3.mp z with z | z
        ·exact .inl (by rw [hfp];exact ja0 _ z)
        ·exact .inr (t1.new b z)
      ·have u1:OwnL M.K (upd H1 a (.lst (ws++[w]))) (λ _=>True) xs om ws fc:=(OwnL.full (Z':=λ _=>True) xs ws fc hol).at trivial ⟨.l ws,ha⟩ nac λ _ _ n=>absurd trivial n
       have u2:Own M.K (upd H1 a (.lst (ws++[w]))) (λ _=>True) y om w fp:=(Own.full (Z':=λ _=>True) y w fp o2).at trivial ⟨.l ws,ha⟩ hafp λ _ _ n=>absurd trivial n
       exact OwnL.full _ _ _ (u1.snoc u2 λ b hb z=>n2 b z (.inr ⟨i,by rw [hfp];exact ja0 _ hb⟩))
     ·rw [if_neg ho] at q
      refine q σ _ _ (k2.write (i:=i) (f':=[]) (fp:=fp) hst λ b hb=>?_) (r2.rewrite hal es hσ ha hfp (λ z=>nomatch z) (λ b hb=>nomatch hb) (by decide) (λ h=>by rw [hm] at h;cases h) h2 ?_)
      ·rcases ja9.mp hb with z | z
       ·exact .inl (by rw [z];exact hai)
       ·cases z
      ·rw [zmb]
       have zsub:∀ b,Zf M (λ j=>if j=i then [a] else fps2 j) b->Zf (M.plus fp) fps2 b:=λ b h=>by
        rcases h with z | ⟨j,z⟩
        ·exact .inl (.inl z)
        ·by_cases ej:j=i
         ·simp only [if_pos ej] at z
          rw [jb1.mp z]
          exact .inr ⟨i,hai⟩
         ·simp only [if_neg ej] at z;exact .inr ⟨j,z⟩
       have nf:∀ b∈fc,¬ Zf M (λ j=>if j=i then [a] else fps2 j) b:=λ b hb z=>by
        have hbi:b∈fps2 i:=by rw [hfp];exact ja0 _ hb
        rcases z with z | ⟨j,z⟩
        ·exact r2.zo i b hbi (.inl z)
        ·by_cases ej:j=i
         ·simp only [if_pos ej] at z
          rw [jb1.mp z] at hb;exact nac hb
         ·simp only [if_neg ej] at z;exact r2.dj i j (vc1 ej) b hbi z
       have nfp:∀ b∈fp,¬ Zf M (λ j=>if j=i then [a] else fps2 j) b:=λ b hb z=>by
        rcases z with z | ⟨j,z⟩
        ·exact n2 b hb (.inl z)
        ·by_cases ej:j=i
         ·simp only [if_pos ej] at z
          rw [jb1.mp z] at hb;exact hafp hb
         ·simp only [if_neg ej] at z;exact n2 b hb (.inr ⟨j,z⟩)
       have za:Zf M (λ j=>if j=i then [a] else fps2 j) a:=.inr ⟨i,by simp⟩
       have u1:=(OwnL.freeze (Z':=Zf M (λ j=>if j=i then [a] else fps2 j)) zsub xs _ ws fc nf hol)
       have u2:=(Own.freeze (Z':=Zf M (λ j=>if j=i then [a] else fps2 j)) (λ b h=>by
        rcases h with z | ⟨j,z⟩
        ·exact .inl (.inl z)
        ·by_cases ej:j=i
         ·simp only [if_pos ej] at z
          rw [jb1.mp z]
          exact .inl (.inr ⟨i,hai⟩)
         ·simp only [if_neg ej] at z;exact .inl (.inr ⟨j,z⟩)) y _ w fp nfp o2)
       exact (u1.at za ⟨.l ws,ha⟩ (λ z=>nomatch z) λ _ _ n=>n).snoc (u2.at za ⟨.l ws,ha⟩ (λ z=>nomatch z) λ _ _ n=>n) λ _ z=>nomatch z
    ·exact q.elim
   ·exact q.elim
 ·exact q.elim
def zvz:PV->Bool
 | .lst _=>false
 | .tup _=>false
 | .dct _=>false
 | _=>true
theorem OwnL.set {K:Frag}{Z:Addr->Prop}{y:PV}{d:Nat}{w:V} (hy:Own K H Z y d w []):∀ {xs:List PV}{ws:List V}{f:List Addr} (k:Nat),OwnL K H Z xs d ws f->∃ f',(∀ b∈f',b∈f)/\OwnL K H Z (xs.set k y) d (ws.set k w) f'
 | [],ws,f,k,h=>by
  rw [OwnL] at h
  obtain ⟨rfl,rfl⟩:=h
  refine ⟨[],λ _ z=>z,?_⟩
  rw [jk1,jk1,OwnL];exact ⟨rfl,rfl⟩
 | x::xs,ws,f,0,h=>by
  rw [OwnL] at h
  obtain ⟨v,s,f1,f2,rfl,rfl,dj,h1,h2⟩:=h
  refine ⟨f2,λ b hb=>ja1 _ hb,?_⟩
  rw [je8,je8,OwnL]
  exact ⟨w,s,[],f2,rfl,rfl,λ _ z=>(nomatch z),hy,h2⟩
 | x::xs,ws,f,k + 1,h=>by
  rw [OwnL] at h
  obtain ⟨v,s,f1,f2,rfl,rfl,dj,h1,h2⟩:=h
  obtain ⟨f',hs,h'⟩:=h2.set hy k
  refine ⟨f1++f',λ b hb=>(jb3.mp hb).elim (λ z=>ja4 _ z) λ z=>ja1 _ (hs b z),?_⟩
  rw [je9,je9,OwnL]
  exact ⟨v,s.set k w,f1,f',rfl,rfl,λ b hb hc=>dj b hb (hs b hc),h1,h'⟩
theorem Own.atom {K:Frag}{Z Z':Addr->Prop}{y:PV}{d d':Nat}{w:V}{fp:List Addr} (hy:zvz y=true) (h:Own K H Z y d w fp):fp=[]/\Own K H Z' y d' w []:=by
 cases y with
 | lst _=>cases hy
 | tup _=>cases hy
 | dct _=>cases hy
 | exn _=>rw [Own] at h ⊢;exact ⟨h.1,rfl,h.2⟩
 | emp=>rw [Own] at h ⊢;exact ⟨h.1,rfl,h.2⟩
 | dko=>rw [Own] at h ⊢;exact ⟨h.1,rfl,h.2⟩
 | scr _=>rw [Own] at h ⊢;exact ⟨h.1,rfl,h.2⟩
 | non=>rw [Own] at h ⊢;exact ⟨h.2,h.1,rfl⟩
 | bl _=>rw [Own] at h ⊢;exact ⟨h.2,h.1,rfl⟩
 | int _=>rw [Own] at h ⊢;exact ⟨h.2,h.1,rfl⟩
 | str _=>rw [Own] at h ⊢;exact ⟨h.2,h.1,rfl⟩
def sPut (i:Nat) (k:Int) (f:Fx):Fs:=λ ρ=>match f ρ with
 | .ok (y,_,ρ1)=>(match ρ1[i]? with
  | some (some (.lst xs,d))=>(match ixN xs.length k with
   | some j=>if d≠0/\zvz y=true then .nx (ρ1.set i (some (.lst (xs.set j y),d))) else .no
   | none=>.no)
  | _=>.no)
 | .exc c=>.exc c
 | .no=>.no
theorem qj0 {f:Fx}{i:Nat}{k:Int}{D:Ends} (hal:∀ i,M.al i=[]) (hv:∀ i∈vs,M.Ms i=false) (hq:tS M (sPut i k f) D σ H):tAsg (tE M f vs) (gSub (tVar i) (tC (.int k)) qby) D σ H:=by
 obtain ⟨ρ,fps,rep,q⟩:=hq
 refine ⟨ρ,fps,rep,?_⟩
 unfold sPut at q
 cases ef:f ρ with
 | no=>rw [ef] at q;exact q
 | exc c=>rw [ef] at q;exact λ H' fps' k=>q _ H' fps' k.ks
 | ok p=>
  obtain ⟨y,e,ρ1⟩:=p
  rw [ef] at q
  intro w H1 fps1 fp k1 g1 rep1 o1 t1
  dsimp only at q
  split at q
  ·rename_i xs d es
   split at q
   ·rename_i j ej
    split at q
    ·rename_i hc
     obtain ⟨rfl,_⟩:=Own.atom (Z':=λ _=>True) (d':=0) hc.2 o1
     obtain ⟨v',hσ',ol⟩:=rep1.own0 hal i _ _ es
     obtain ⟨a,ws,fc,rfl,ha,hfp,nac,hol⟩:=ol.list hc.1
     have hai:a∈fps1 i:=by rw [hfp];exact ja2
     refine ⟨_,hσ',a,ws,k,j,rfl,rfl,ha,by rw [hol.length];exact ej,?_⟩
     have rp:Rep (M.plus []) ρ1 σ H1 fps1:=rep.wide (λ i j hj=>by rw [hal i] at hj;cases hj) k1 g1 rep1 λ b hb=>nomatch hb
     obtain ⟨fc',hs',hset⟩:=hol.set (Own.atom (d':=pd d) hc.2 o1).2 j
     have inI:∀ b,b∈a::fc'->b∈fps1 i:=λ b hb=>(ja9.mp hb).elim (λ z=>by rw [z];exact hai) λ z=>by rw [hfp];exact ja0 _ (hs' b z)
     have hst:KS M H fps (upd H1 a (.lst (ws.set j w))) (λ j=>if j=i then a::fc' else fps1 j):=by
      refine ⟨λ b u hb n=>?_,λ b hb=>?_,λ j b hb=>?_⟩
      ·have hb1:=k1.ks.keep b u hb n
       rw [zqf]
       ·exact hb1
       ·rintro rfl
        rcases k1.ks.sub i b hai with z | z
        ·exact n z
        ·rw [z] at hb;cases hb
      ·by_cases eb:b=a
       ·rw [eb,zqh];simp
       ·rw [zqf eb];exact k1.dom b hb
      ·by_cases ej:j=i
       ·simp only [if_pos ej] at hb;exact k1.ks.sub i b (inI b hb)
       ·simp only [if_neg ej] at hb;exact k1.ks.sub j b hb
     refine q σ _ _ hst (rp.rewrite hal es hσ' ha hfp (λ z=>nac (hs' a z)) (λ b hb=>.inl (hs' b hb)) hc.1 (λ h=>rep1.msf i _ _ h es) (λ b hb=>nomatch hb) ?_)
     have nz:∀ b,Zf M (λ j=>if j=i then a::fc' else fps1 j) b->Zf M fps1 b:=λ b h=>by
      rcases h with z | ⟨j,z⟩
      ·exact .inl z
      ·by_cases ej:j=i
       ·simp only [if_pos ej] at z;exact .inr ⟨i,inI b z⟩
       ·simp only [if_neg ej] at z;exact .inr ⟨j,z⟩
     exact hset.at (.inr ⟨i,hai⟩) ⟨.l ws,ha⟩ (λ z=>nac (hs' a z)) λ b _ n z=>n (nz b z)
    ·exact q.elim
   ·exact q.elim
  ·exact q.elim
end
section
variable {is:List Nat}{M:Fm}{ρ ρ':Rho}{σ σ':St}{H H' H'':Hp}{fps fps' fps'':Fps}{vs vs':List Nat}
theorem Rep.plus0 (hal:∀ i,∀ j∈M.al i,M.Ms j=false) (r:Rep M ρ σ H fps):Rep (M.plus []) ρ σ H fps:=r.wide hal KD.refl Agr.refl r (λ _ z=>nomatch z)
def GOk (M:Fm) (al is:List Nat) (g:TG) (asg:PV->Rho->Option Rho):Prop:=∀ y v ρ σ H fps ρ' (Q:St->Hp->Prop),Rep M ρ σ H fps->Own M.K H (Zv M al fps) y 0 v []->asg y ρ=some ρ'->(∀ σ' fps',(∀ i,∀ a∈fps' i,a∈fps i)->(∀ i,i∉is->ρ'[i]?=ρ[i]?/\fps' i=fps i/\σ'[i]?=σ[i]?)->ρ'.length=ρ.length->Rep M ρ' σ' H fps'->Q σ' H)->g v σ H Q
def asgN (i:Nat):PV->Rho->Option Rho:=λ y ρ=>if i < ρ.length then some (ρ.set i (some (y,dv y))) else none
theorem Own.dv {K:Frag}{Z:Addr->Prop}{x:PV}{v:V} (h:Own K H Z x 0 v []):Own K H Z x (dv x) v []:=Own.view (fp:=[]) (λ _ z=>z) (λ _ z=>nomatch z) h
structure Bd (M:Fm) (al:List Nat) (i:Nat):Prop where
 ms:M.Ms i=false
 io:M.Fre i
 al:M.al i=al
 als:∀ i,∀ j∈M.al i,M.Ms j=false
theorem Rep.bind1 {al:List Nat}{i:Nat}{y:PV}{v:V} (r:Rep M ρ σ H fps) (o:Own M.K H (Zv M al fps) y 0 v []) (hi:i < ρ.length) (b:Bd M al i):
  Rep M (ρ.set i (some (y,dv y))) (σ.set i (some v)) H (λ j=>if j=i then [] else fps j):=by
 refine (r.plus0 b.als).put (o.dv.weak λ a h=>h.elim (λ h=>?_) λ z=>nomatch z) (λ _ z=>nomatch z) hi (λ h=>by rw [b.ms] at h;cases h) b.io
 rcases h with h | ⟨j,nj,h⟩
 ·exact .inl h
 ·exact .inr ⟨j,by rw [b.al] at nj;exact nj,h⟩
theorem qge {al:List Nat}{i:Nat} (b:Bd M al i):GOk M al [i] (zyl i) (asgN i):=by
 intro y v ρ σ H fps ρ' Q r o e q
 unfold asgN at e
 split at e
 ·rename_i hi
  cases e
  refine q _ _ (λ j a ha=>?_) (λ j nj=>?_) (by rw [je1]) (r.bind1 o hi b)
  ·by_cases e:j=i
   ·simp only [if_pos e] at ha;cases ha
   ·simp only [if_neg e] at ha;exact ha
  ·have e:j≠i:=λ e=>nj (by simp [e])
   exact ⟨jb0 (vc1 e),if_neg e,jb0 (vc1 e)⟩
 ·cases e
def zjm:List Nat->TGs
 | []=>gNil
 | i::is=>ql3 (zyl i) (zjm is)
def asgs:List Nat->List PV->Rho->Option Rho
 | [],[],ρ=>some ρ
 | i::is,y::ys,ρ=>(asgN i y ρ).bind (asgs is ys)
 | _,_,_=>none
def asgT (is:List Nat):PV->Rho->Option Rho:=λ y ρ=>match y with
 | .tup ys=>asgs is ys ρ
 | _=>none
theorem qc6 {al:List Nat}:∀ (is:List Nat) (ys:List PV) (ws:List V) (ρ:Rho) (σ:St) (H:Hp) (fps:Fps) (ρ':Rho) (Q:St->Hp->Prop),(∀ i∈is,Bd M al i)->Rep M ρ σ H fps->OwnL M.K H (Zv M al fps) ys 0 ws []->asgs is ys ρ=some ρ' ->
  (∀ σ' fps',(∀ i,∀ a∈fps' i,a∈fps i)->(∀ i,i∉is->ρ'[i]?=ρ[i]?/\fps' i=fps i/\σ'[i]?=σ[i]?)->ρ'.length=ρ.length->Rep M ρ' σ' H fps'->Q σ' H)->ws.length=is.length/\zjm is ws σ H Q
 | [],[],ws,ρ,σ,H,fps,ρ',Q,_,r,o,e,q=>by
  rw [OwnL] at o
  obtain ⟨rfl,_⟩:=o
  cases e
  exact ⟨rfl,rfl,q σ fps (λ _ _ h=>h) (λ _ _=>⟨rfl,rfl,rfl⟩) rfl r⟩
 | [],_::_,_,_,_,_,_,_,_,_,_,_,e,_=>by cases e
 | _::_,[],_,_,_,_,_,_,_,_,_,_,e,_=>by cases e
 | i::is,y::ys,ws,ρ,σ,H,fps,ρ',Q,hs,r,o,e,q=>by
  rw [OwnL] at o
  obtain ⟨v,s,f1,f2,rfl,ef,_,o1,o2⟩:=o
  obtain ⟨rfl,rfl⟩:f1=[]/\f2=[]:=by simpa using ef.symm
  unfold asgs at e
  cases e1:asgN i y ρ with
  | none=>rw [e1] at e;cases e
  | some ρ1=>
   rw [e1] at e
   unfold asgN at e1
   split at e1
   ·rename_i hi
    cases e1
    have bi:=hs i ja2
    have r':=r.bind1 o1 hi bi
    have sub:∀ j a,a∈(λ j=>if j=i then [] else fps j) j->a∈fps j:=λ j a z=>by
     by_cases ej:j=i
     ·simp only [if_pos ej] at z;cases z
     ·simp only [if_neg ej] at z;exact z
    have o2':OwnL M.K H (Zv M al (λ j=>if j=i then [] else fps j)) ys 0 s []:=o2.weak λ a h=>h.elim .inl λ ⟨j,nj,z⟩=>.inr ⟨j,nj,sub j a z⟩
    obtain ⟨hl,hg⟩:=qc6 is ys s _ _ H _ ρ' Q (λ j hj=>hs j (ja0 _ hj)) r' o2' e λ σ' fps' k' a' l' r''=>q σ' fps' (λ j a ha=>sub j a (k' j a ha)) (λ j hj=>by
     have ej:j≠i:=λ e=>hj (by rw [e];exact ja2)
     obtain ⟨z1,z2,z3⟩:=a' j λ z=>hj (ja0 _ z)
     rw [if_neg ej] at z2
     exact ⟨z1.trans (jb0 (vc1 ej)),z2,z3.trans (jb0 (vc1 ej))⟩) (l'.trans (by rw [je1])) r''
    exact ⟨by rw [jc0,jc0,hl],v,s,rfl,hg⟩
   ·cases e1
theorem qiu {al:List Nat}{is:List Nat} (hs:∀ i∈is,Bd M al i):GOk M al is (gTup M.K is.length (zjm is)) (asgT is):=by
 intro y v ρ σ H fps ρ' Q r o e q
 unfold asgT at e
 split at e
 ·rename_i ys
  rw [Own] at o
  obtain ⟨a,ws,rfl,hr,ol⟩:=o
  obtain ⟨hl,hg⟩:=qc6 is ys ws ρ σ H fps ρ' Q hs r ol e q
  exact ⟨a,ws,rfl,.inl (.inl hr),hl,hg⟩
 ·cases e
def zzg (asg:PV->Rho->Option Rho) (body:Fs):List PV->Rho->Rs
 | [],ρ=>.nx ρ
 | x::xs,ρ=>match asg x ρ with
  | none=>.no
  | some ρ1=>match body ρ1 with
   | .nx ρ2=>zzg asg body xs ρ2
   | .ct ρ2=>zzg asg body xs ρ2
   | .bk ρ2=>.nx ρ2
   | .rt x d ρ2=>.rt x d ρ2
   | .exc c=>.exc c
   | .no=>.no
theorem zbv {g:TG}{asg:PV->Rho->Option Rho}{body:Fs}{D:Ends}{J:It}{els:List PV}{Pq:Hp->Fps->Prop} (hg:GOk M [] is g asg)
  (hP:∀ {ρ σ H fps H' fps'},Rep M ρ σ H fps->KS M H fps H' fps'->Pq H fps->Pq H' fps') (hgo:∀ {H fps i},Pq H fps->i < els.length->J.go i H) (hst:∀ {H fps i},Pq H fps->els.length<=i->J.stop i H)
  (hy:∀ {ρ σ H fps i x H'},Rep M ρ σ H fps->Pq H fps->i < els.length->J.yld i H x H'->(∀ a o,H a=some o->H' a=some o)/\∃ y,els[i]?=some y/\Own M.K H' (Zf M fps) y 0 x [])
  (rep:Rep M ρ σ H fps) (p:Pq H fps) (q:RsOk M D H fps (zzg asg body els ρ)):
  ∃ W:Nat->Nat->St->Hp->Prop,(∃ m,W 0 m σ H)/\∀ i m σ H,W i m σ H ->
   (J.stop i H/\D.nx σ H)\/(J.go i H/\∃ N:St->Hp->Prop,(∀ σ' H',N σ' H'->∃ m',m' < m/\W (i + 1) m' σ' H')/\∀ x H',J.yld i H x H'->g x σ H' λ σ2 H2=>(tS M body) { D with nx:=N,ct:=N,bk:=D.nx } σ2 H2):=by
 let W:Nat->Nat->St->Hp->Prop:=λ i m σ H=>m=els.length - i/\∃ ρ fps,Rep M ρ σ H fps/\Pq H fps/\RsOk M D H fps (zzg asg body (els.drop i) ρ)
 refine ⟨W,⟨els.length,by simp,ρ,fps,rep,p,by simpa using q⟩,?_⟩
 rintro i m σ H ⟨rfl,ρ,fps,r,p,q⟩
 by_cases hi:i < els.length
 ·right
  refine ⟨hgo p hi,W (i + 1) (els.length - (i + 1)),λ σ' H' w=>⟨_,by omega,w⟩,λ x H' y=>?_⟩
  obtain ⟨kx,z,ez,oz⟩:=hy r p hi y
  have k0:KS M H fps H' fps:=(KD.grow kx).ks
  have p:=hP r k0 p
  have r:=r.grow kx
  have q:=RsOk.from k0 q
  have ed:els.drop i=z::els.drop (i + 1):=by
   obtain ⟨h1,h2⟩:=ja8.mp ez
   rw [<- h2];exact ji7 h1
  rw [ed] at q
  unfold zzg at q
  cases ea:asg z ρ with
  | none=>rw [ea] at q;exact q.elim
  | some ρ1=>
   rw [ea] at q
   dsimp only at q
   refine hg z x ρ σ _ fps ρ1 _ r (oz.weak λ a h=>h.zf) ea λ σ1 fps1 s1 _ _ r1=>⟨ρ1,fps1,r1,?_⟩
   have k1:KS M H' fps H' fps1:=⟨λ _ _ h _=>h,λ _ h=>h,λ j a ha=>.inl ⟨j,s1 j a ha⟩⟩
   have p1:=hP r k1 p
   cases eb:body ρ1 with
   | no=>rw [eb] at q;exact q
   | exc c=>rw [eb] at q;exact RsOk.from (r:=.exc c) k1 q
   | rt x d ρ2=>rw [eb] at q;exact RsOk.from (r:=.rt x d ρ2) k1 q
   | bk ρ2=>rw [eb] at q;exact λ σ' H' fps' k=>q σ' H' fps' (k1.trans k)
   | nx ρ2=>rw [eb] at q;exact λ σ' H' fps' k r'=>⟨rfl,ρ2,fps',r',hP r1 k p1,RsOk.from (k1.trans k) q⟩
   | ct ρ2=>rw [eb] at q;exact λ σ' H' fps' k r'=>⟨rfl,ρ2,fps',r',hP r1 k p1,RsOk.from (k1.trans k) q⟩
 ·left
  have ed:els.drop i=[]:=jj5 (by omega)
  rw [ed] at q
  exact ⟨hst p (by omega),q σ H fps KS.refl r⟩
def zzp (lo:Int) (n:Nat):List PV:=(jd4 n).map λ (i:Nat)=>PV.int (lo + (i:Int))
theorem zwn (lo:Int) (n:Nat):(zzp lo n).length=n:=by simp [zzp]
def zzd:List (PV×Nat)->Option (Int×Int)
 | [(.int j,_)]=>if -(2 ^ 62)<=j/\j < 2 ^ 62 then some (0,j) else none
 | _=>none
def zmu:List (PV×Nat)->Option (Int×Int)
 | [(.int i,_),(.int j,_)]=>if -(2 ^ 62)<=i/\i < 2 ^ 62/\-(2 ^ 62)<=j/\j < 2 ^ 62 then some (i,j) else none
 | _=>none
def zyx (en:List (PV×Nat)->Option (Int×Int)) (fa:Fa) (asg:PV->Rho->Option Rho) (body:Fs):Fs:=λ ρ=>match fa ρ with
 | .ok (xs,ρ1)=>(match en xs with
  | some (i,j)=>zzg asg body (zzp i (j - i).toNat) ρ1
  | none=>.no)
 | .exc c=>.exc c
 | .no=>.no
theorem zvv {g:TG}{asg:PV->Rho->Option Rho}{body:Fs}{D:Ends}{lo:Int}{n:Nat} (hg:GOk M [] is g asg) (rep:Rep M ρ σ H fps) (q:RsOk M D H fps (zzg asg body (zzp lo n) ρ)):
  ∃ W:Nat->Nat->St->Hp->Prop,(∃ m,W 0 m σ H)/\∀ i m σ H,W i m σ H ->
   ((Itr lo n).stop i H/\D.nx σ H)\/((Itr lo n).go i H/\∃ N:St->Hp->Prop,(∀ σ' H',N σ' H'->∃ m',m' < m/\W (i + 1) m' σ' H')/\∀ x H',(Itr lo n).yld i H x H'->g x σ H' λ σ2 H2=>(tS M body) { D with nx:=N,ct:=N,bk:=D.nx } σ2 H2):=by
 refine zbv (Pq:=λ _ _=>True) hg (λ _ _ _=>trivial) (λ {H fps i} _ h=>?_) (λ {H fps i} _ h=>?_) (λ {ρ σ H fps i x H'} _ _ h y=>?_) rep trivial q
 ·rw [zwn] at h;exact h
 ·rw [zwn] at h;exact h
 ·rw [zwn] at h
  obtain ⟨e1,e2⟩:=y
  subst e1
  exact ⟨λ _ _ h=>h,.int (lo + i),by simp [zzp,h],by rw [e2,Own];exact ⟨rfl,rfl⟩⟩
theorem qa9 {g:TG}{asg:PV->Rho->Option Rho}{body:Fs}{fa:Fa}{D:Ends} (hg:GOk M [] is g asg) (hq:tS M (zyx zzd fa asg body) D σ H):tFor (qew (tL M fa vs)) g (tS M body) D σ H:=by
 obtain ⟨ρ,fps,rep,q⟩:=hq
 refine ⟨ρ,fps,rep,?_⟩
 unfold zyx at q
 cases ef:fa ρ with
 | no=>rw [ef] at q;exact q
 | exc c=>rw [ef] at q;exact λ H' fps' k=>q _ H' fps' k.ks
 | ok p=>
  obtain ⟨xs,ρ1⟩:=p
  rw [ef] at q
  intro ws H1 fps1 f1 k1 g1 rep1 o1 t1
  dsimp only at q
  cases ee:zzd xs with
  | none=>rw [ee] at q;exact q.elim
  | some ij=>
   obtain ⟨i,j⟩:=ij
   rw [ee] at q
   unfold zzd at ee
   split at ee
   ·rename_i j' d
    split at ee
    ·rename_i hb
     cases ee
     obtain ⟨v,r,f1,f2,rfl,_,_,h1,h2⟩:=o1
     obtain ⟨rfl,_⟩:=h2
     rw [Own] at h1
     obtain ⟨rfl,_⟩:=h1
     refine ⟨j,rfl,hb.1,hb.2,?_⟩
     have e:(j - 0).toNat=j.toNat:=by omega
     dsimp only at q
     rw [e] at q
     exact zvv hg rep1 (RsOk.from k1.ks q)
    ·cases ee
   ·cases ee
theorem qa8 {g:TG}{asg:PV->Rho->Option Rho}{body:Fs}{fa:Fa}{D:Ends} (hg:GOk M [] is g asg) (hq:tS M (zyx zmu fa asg body) D σ H):tFor (qev (tL M fa vs)) g (tS M body) D σ H:=by
 obtain ⟨ρ,fps,rep,q⟩:=hq
 refine ⟨ρ,fps,rep,?_⟩
 unfold zyx at q
 cases ef:fa ρ with
 | no=>rw [ef] at q;exact q
 | exc c=>rw [ef] at q;exact λ H' fps' k=>q _ H' fps' k.ks
 | ok p=>
  obtain ⟨xs,ρ1⟩:=p
  rw [ef] at q
  intro ws H1 fps1 f1 k1 g1 rep1 o1 t1
  dsimp only at q
  cases ee:zmu xs with
  | none=>rw [ee] at q;exact q.elim
  | some ij=>
   obtain ⟨i,j⟩:=ij
   rw [ee] at q
   unfold zmu at ee
   split at ee
   ·rename_i i' d j' d'
    split at ee
    ·rename_i hb
     cases ee
     obtain ⟨v,r,f1,f2,rfl,_,_,h1,h2⟩:=o1
     obtain ⟨v2,r2,f3,f4,rfl,_,_,h3,h4⟩:=h2
     obtain ⟨rfl,_⟩:=h4
     rw [Own] at h1 h3
     obtain ⟨rfl,_⟩:=h1
     obtain ⟨rfl,_⟩:=h3
     exact ⟨i,j,rfl,hb,zvv hg rep1 (RsOk.from k1.ks q)⟩
    ·cases ee
   ·cases ee
def zyd (z:Str):List PV:=z.cps.toList.map λ c=>.str ⟨#[c]⟩
def qbu (f:Fx) (vs:List Nat) (asg:PV->Rho->Option Rho) (body:Fs):Fs:=λ ρ=>match f ρ with
 | .ok (.str z,d,ρ1)=>if zqs z=true then zzg asg body (zyd z) (zxa d vs ρ1) else .no
 | .ok (.lst xs,d,ρ1)=>zzg asg body xs (zxa d vs ρ1)
 | .ok (.tup xs,d,ρ1)=>zzg asg body xs (zxa d vs ρ1)
 | .ok _=>.no
 | .exc c=>.exc c
 | .no=>.no
theorem OwnL.get {K:Frag}{Z:Addr->Prop}:∀ {xs:List PV}{ws:List V}{i:Nat}{w:V},OwnL K H Z xs 0 ws []->ws[i]?=some w->∃ x,xs[i]?=some x/\Own K H Z x 0 w []
 | [],ws,i,w,h,e=>by
  rw [OwnL] at h
  obtain ⟨rfl,_⟩:=h
  simp at e
 | x::xs,ws,i,w,h,e=>by
  rw [OwnL] at h
  obtain ⟨v,s,f1,f2,rfl,ef,_,o1,o2⟩:=h
  obtain ⟨rfl,rfl⟩:f1=[]/\f2=[]:=by simpa using ef.symm
  cases i with
  | zero=>simp at e;subst e;exact ⟨x,by simp,o1⟩
  | succ i=>obtain ⟨y,e1,e2⟩:=o2.get (i:=i) (w:=w) (by simpa using e);exact ⟨y,by simpa using e1,e2⟩
theorem Rep.seen {x:PV}{d:Nat}{v:V}{fp:List Addr} (rep:Rep M ρ σ H fps) (k:KD M H fps H' fps') (g:Agr M ρ ρ') (r':Rep M ρ' σ H' fps') (o:Own M.K H' (Zt M vs fps' fp) x d v fp) (t:Temp M vs H H' fps' fp)
  (hal:∀ i,M.al i=[]) (hv:∀ i∈vs,M.Ms i=false):∃ fps2,KS M H fps H' fps2/\Rep M (zxa d vs ρ') σ H' fps2/\Own M.K H' (Zf M fps2) x 0 v []:=by
 unfold zxa
 by_cases hd:d=om
 ·rw [if_pos hd]
  rw [hd] at o
  exact ⟨fps',k.ks,r',Own.freeze (λ _ z=>z) x om v fp (λ a ha=>t.ndj a ha) (Own.full x v fp o)⟩
 ·rw [if_neg hd]
  exact ⟨zvw vs fps',k.ks.cool,r'.cool hal hv,Own.freeze (λ a h=>.inl (zvo h)) x d v fp (λ a ha z=>t.ndj a ha (zvo z).zf) o⟩
theorem qa7 {g:TG}{asg:PV->Rho->Option Rho}{body:Fs}{f:Fx}{D:Ends} (hal:∀ i,M.al i=[]) (hv:∀ i∈vs,M.Ms i=false) (hg:GOk M [] is g asg) (hq:tS M (qbu f vs asg body) D σ H):tFor (iSeq M.K (tE M f vs)) g (tS M body) D σ H:=by
 obtain ⟨ρ,fps,rep,q⟩:=hq
 refine ⟨ρ,fps,rep,?_⟩
 unfold qbu at q
 cases ef:f ρ with
 | no=>rw [ef] at q;exact q
 | exc c=>rw [ef] at q;exact λ H' fps' k=>q _ H' fps' k.ks
 | ok p=>
  obtain ⟨x,d,ρ1⟩:=p
  rw [ef] at q
  intro v H1 fps1 f1 k1 g1 rep1 o1 t1
  obtain ⟨fps2,k2,r2,o2⟩:=Rep.seen rep k1 g1 rep1 o1 t1 hal hv
  cases x with
  | lst xs=>
   have o2':=o2
   rw [Own] at o2'
   obtain ⟨a,ws,rfl,⟨_,hr,_,ol⟩ | ⟨h,_⟩⟩:=o2'
   ·have sq:SqL M.K H1 a ws:=.inl (.inl hr.1)
    refine .inl ⟨a,rfl,.inl ⟨⟨ws,sq⟩,?_⟩⟩
    have one:∀ {H:Hp}{fps:Fps},Own M.K H (Zf M fps) (.lst xs) 0 (.ref a) []->∃ ws,SqL M.K H a ws/\OwnL M.K H (Zf M fps) xs 0 ws []:=λ o=>by
     rw [Own] at o
     obtain ⟨b,ws,e,⟨_,hr,_,ol⟩ | ⟨h,_⟩⟩:=o
     ·cases e;exact ⟨ws,.inl (.inl hr.1),ol⟩
     ·exact absurd rfl h
    refine zbv (Pq:=λ H fps=>Own M.K H (Zf M fps) (.lst xs) 0 (.ref a) []) (els:=xs) hg (λ r k o=>k.stay0 r o) (λ {H fps i} o h=>?_) (λ {H fps i} o h=>?_) (λ {ρ σ H fps i x H'} _ o h y=>?_) r2 o2 (RsOk.from k2 q)
    ·obtain ⟨ws,s,ol⟩:=one o
     exact ⟨ws,ws[i]'(by rw [ol.length];exact h),s,by simp⟩
    ·obtain ⟨ws,s,ol⟩:=one o
     exact ⟨ws,s,by rw [ol.length];exact h⟩
    ·obtain ⟨ws,s,ol⟩:=one o
     obtain ⟨e1,e2⟩:=y
     subst e1
     exact ⟨λ _ _ h=>h,ol.get (e2 ws s)⟩
   ·exact absurd rfl h
  | tup xs=>
   have o2':=o2
   rw [Own] at o2'
   obtain ⟨a,ws,rfl,hr,ol⟩:=o2'
   refine .inl ⟨a,rfl,.inr ⟨⟨ws,.inl (.inl hr)⟩,?_⟩⟩
   have one:∀ {H:Hp}{fps:Fps},Own M.K H (Zf M fps) (.tup xs) 0 (.ref a) []->∃ ws,SqT M.K H a ws/\OwnL M.K H (Zf M fps) xs 0 ws []:=λ o=>by
    rw [Own] at o
    obtain ⟨b,ws,e,hr,ol⟩:=o
    cases e;exact ⟨ws,.inl (.inl hr),ol⟩
   refine zbv (Pq:=λ H fps=>Own M.K H (Zf M fps) (.tup xs) 0 (.ref a) []) (els:=xs) hg (λ r k o=>k.stay0 r o) (λ {H fps i} o h=>?_) (λ {H fps i} o h=>?_) (λ {ρ σ H fps i x H'} _ o h y=>?_) r2 o2 (RsOk.from k2 q)
   ·obtain ⟨ws,s,ol⟩:=one o
    exact ⟨ws,ws[i]'(by rw [ol.length];exact h),s,by simp⟩
   ·obtain ⟨ws,s,ol⟩:=one o
    exact ⟨ws,s,by rw [ol.length];exact h⟩
   ·obtain ⟨ws,s,ol⟩:=one o
    obtain ⟨e1,e2⟩:=y
    subst e1
    exact ⟨λ _ _ h=>h,ol.get (e2 ws s)⟩
  | str z=>
   have o2':=o2
   rw [Own] at o2'
   obtain ⟨rfl,_⟩:=o2'
   dsimp only at q
   split at q
   ·rename_i ha
    refine .inr ⟨z,rfl,ha,?_⟩
    have hl:(zyd z).length=z.cps.size:=by unfold zyd;rw [jb5,jf2]
    refine zbv (Pq:=λ _ _=>True) (els:=zyd z) hg (λ _ _ _=>trivial) (λ {H fps i} _ h=>?_) (λ {H fps i} _ h=>?_) (λ {ρ σ H fps i x H'} _ _ h y=>?_) r2 trivial (RsOk.from k2 q)
    ·show i < z.cps.size
     omega
    ·show z.cps.size<=i
     omega
    ·obtain ⟨rfl,c,hc,rfl⟩:=y
     refine ⟨λ _ _ h=>h,.str ⟨#[c]⟩,?_,by rw [Own];exact ⟨rfl,rfl⟩⟩
     unfold zyd
     rw [jd2,jh4,hc]
     rfl
   ·exact q.elim
  | _=>exact q.elim
end
section
variable {M:Fm}{ρ ρ':Rho}{σ σ':St}{H H' H'':Hp}{fps fps' fps'':Fps}{vs vs':List Nat}
def Fm.comp (M:Fm) (D:Addr) (n:Nat) (vI:List Nat):Fm:={ M.plus [D] with W:=λ _ _ _=>False,al:=λ j=>if j < n then M.al j else vI }
theorem Rep.minus {fp:List Addr} (r:Rep (M.plus fp) ρ σ H fps):Rep M ρ σ H fps where
 own:=λ i x d e=>let ⟨v,h1,h2⟩:=r.own i x d e;⟨v,h1,h2.weak λ a h=>h.elim (λ h=>.inl (.inl h)) .inr⟩
 non:=r.non
 dj:=r.dj
 zo:=λ i a ha z=>r.zo i a ha (.inl z)
 fr:=r.fr
 zd:=λ a z=>r.zd a (.inl z)
 len:=r.len
 msf:=r.msf
 h0:=r.h0
 iov:=r.iov
theorem Rep.far (r:Rep M ρ σ H fps) {j:Nat} (h:ρ.length<=j):fps j=[]:=r.non j λ p e=>by
 rw [jg0.mpr h] at e;cases e
theorem Rep.ext {D:Addr}{k:Nat}{vI:List Nat} (r:Rep (M.plus [D]) ρ σ H fps):Rep (M.comp D ρ.length vI) (ρ++ja6 k none) (σ++ja6 k none) H fps where
 own:=λ i x d e=>by
  by_cases hi:i < ρ.length
  ·rw [jb7 hi] at e
   obtain ⟨v,h1,h2⟩:=r.own i x d e
   refine ⟨v,by rw [jb7 (by rw [<- r.len];exact hi)];exact h1,h2.weak λ a h=>?_⟩
   rcases h with h | ⟨j,nj,h⟩
   ·exact .inl h
   ·refine .inr ⟨j,?_,h⟩
    have:(M.comp D ρ.length vI).al i=M.al i:=if_pos hi
    rw [this] at nj;exact nj
  ·rw [jc5 (by omega),jd1] at e
   split at e <;> cases e
 non:=λ i h=>by
  by_cases hi:i < ρ.length
  ·exact r.non i λ p e=>h p (by rw [jb7 hi];exact e)
  ·exact r.far (by omega)
 dj:=r.dj
 zo:=r.zo
 fr:=r.fr
 zd:=r.zd
 len:=by simp [r.len]
 msf:=λ i x d hm e=>by
  by_cases hi:i < ρ.length
  ·rw [jb7 hi] at e;exact r.msf i x d hm e
  ·rw [jc5 (by omega),jd1] at e
   split at e <;> cases e
 h0:=r.h0
 iov:=⟨λ v hv=>by
  have h:=r.iov.1 v hv
  refine ⟨?_,h.2⟩
  have:0 < σ.length:=(ja8.mp h.1).1
  rw [jb7 this];exact h.1,λ p hp=>by
  have h:=r.iov.2 p hp
  rw [jb7 (ja8.mp h).1];exact h⟩
def cut (n:Nat) (fps:Fps):Fps:=λ j=>if j < n then fps j else []
theorem zzk {n i:Nat}{a:Addr} (h:a∈cut n fps i):a∈fps i/\i < n:=by
 unfold cut at h
 split at h
 ·rename_i hi;exact ⟨h,hi⟩
 ·cases h
theorem Rep.take {D:Addr}{n:Nat}{vI:List Nat} (r:Rep (M.comp D n vI) ρ σ H fps) (hσ:∀ i,i < n->σ[i]?=σ'[i]?) (hl:σ'.length=n) (hn:n<=ρ.length) (hio:(M.io≠none->0 < n)/\∀ p∈M.pn,p.1 < n):Rep (M.plus [D]) (ρ.take n) σ' H (cut n fps) where
 own:=λ i x d e=>by
  have hi:i < n:=by
   have:=(ja8.mp e).1
   rw [jd7] at this;omega
  rw [je2 hi] at e
  obtain ⟨v,h1,h2⟩:=r.own i x d e
  refine ⟨v,by rw [<- hσ i hi];exact h1,?_⟩
  have:cut n fps i=fps i:=if_pos hi
  rw [this]
  refine h2.weak λ a h=>?_
  rcases h with h | ⟨j,nj,h⟩
  ·exact .inl h
  ·refine .inr ⟨j,?_,(zzk h).1⟩
   have:(M.comp D n vI).al i=M.al i:=if_pos hi
   rw [this];exact nj
 non:=λ i h=>by
  unfold cut
  split
  ·rename_i hi
   exact r.non i λ p e=>h p (by rw [je2 hi];exact e)
  ·rfl
 dj:=λ i j hij a ha hb=>r.dj i j hij a (zzk ha).1 (zzk hb).1
 zo:=λ i a ha=>r.zo i a (zzk ha).1
 fr:=λ i hi a ha=>r.fr i hi a (zzk ha).1
 zd:=r.zd
 len:=by rw [jd7,hl];omega
 msf:=λ i x d hm e=>by
  have hi:i < n:=by
   have:=(ja8.mp e).1
   rw [jd7] at this;omega
  rw [je2 hi] at e
  exact r.msf i x d hm e
 h0:=r.h0
 iov:=⟨λ v hv=>by
  have h:=r.iov.1 v hv
  refine ⟨?_,h.2⟩
  have h0:0 < n:=hio.1 (by
   have hv':M.io=some v:=hv
   rw [hv'];simp)
  rw [<- hσ 0 h0];exact h.1,λ p hp=>by rw [<- hσ p.1 (hio.2 p hp)];exact r.iov.2 p hp⟩
theorem Rep.touch {D:Addr}{us ws:List V} (r:Rep (M.plus [D]) ρ σ H fps) (hD:H D=some (.lst ws)):Rep (M.plus [D]) ρ σ (upd H D (.lst us)) fps:=by
 have zD:(M.plus [D]).Zo D:=.inr (by simp)
 have dm:∀ b,H b≠none->(upd H D (.lst us)) b≠none:=λ b h=>by
  by_cases eb:b=D
  ·rw [eb,zqh];simp
  ·rw [zqf eb];exact h
 exact ⟨λ i x d e=>let ⟨v,h1,h2⟩:=r.own i x d e;⟨v,h1,h2.at (.inl zD) ⟨.l ws,hD⟩ (λ z=>r.zo i D z zD) λ _ _ n=>n⟩,r.non,r.dj,r.zo,r.fr,λ a z=>dm a (r.zd a z),r.len,r.msf,λ a z=>dm a (r.h0 a z),r.iov⟩
theorem Tmps.snoc {K:Frag}{Z:Addr->Prop}{y:PV}{e:Nat}{w:V}{fe:List Addr} (hy:Own K H (λ a=>Z a\/a∈fe) y e w fe):∀ {xs:List (PV×Nat)}{ws:List V}{fp:List Addr},Tmps K H Z xs ws fp->(∀ a∈fp,a∉fe)->Tmps K H Z (xs++[(y,e)]) (ws++[w]) (fp++fe)
 | [],ws,fp,h,_=>by
  obtain ⟨rfl,rfl⟩:=h
  exact ⟨w,[],fe,[],rfl,by simp,λ _ _ z=>(nomatch z),hy,rfl,rfl⟩
 | (x,d)::xs,ws,fp,h,hd=>by
  obtain ⟨v,s,f1,f2,rfl,rfl,dj,h1,h2⟩:=h
  refine ⟨v,s++[w],f1,f2++fe,rfl,by rw [jh0],λ a ha hb=>?_,h1,h2.snoc hy λ a ha=>hd a (ja1 _ ha)⟩
  rcases jb3.mp hb with z | z
  ·exact dj a ha z
  ·exact hd a (ja4 _ ha) z
theorem Tmps.at {K:Frag}{Z:Addr->Prop}{a:Addr}{o:HO} (hZ:Z a) (hl:∃ o:MO,H a=some o.ho):∀ {xs:List (PV×Nat)}{ws:List V}{fp:List Addr},Tmps K H Z xs ws fp->a∉fp->Tmps K (upd H a o) Z xs ws fp
 | [],_,_,h,_=>h
 | (x,d)::xs,ws,fp,h,hf=>by
  obtain ⟨v,s,f1,f2,e1,rfl,dj,h1,h2⟩:=h
  exact ⟨v,s,f1,f2,e1,rfl,dj,h1.at (.inl hZ) hl (λ z=>hf (ja4 _ z)) λ _ _ n=>n,h2.at hZ hl λ z=>hf (ja1 _ z)⟩
theorem Tmps.lsts {K:Frag}{Z:Addr->Prop}:∀ {xs:List (PV×Nat)}{ws:List V}{fp:List Addr},Tmps K H Z xs ws fp->∀ a∈fp,∃ o:MO,H a=some o.ho
 | [],_,_,h,a,ha=>by rw [h.2] at ha;cases ha
 | (x,d)::xs,ws,fp,h,a,ha=>by
  obtain ⟨v,s,f1,f2,e1,rfl,dj,h1,h2⟩:=h
  rcases jb3.mp ha with z | z
  ·exact Own.lsts x d v f1 h1 a z
  ·exact h2.lsts a z
def Rz.bindN {α β:Type} (r:Rz α) (f:α->Rz β):Rz β:=match r with
 | .ok a=>f a
 | _=>.no
def zwq (k:Nat) (asg:PV->Rho->Option Rho) (test:Fb) (elt:Fx):List PV->Rho->List (PV×Nat)->Rz (List (PV×Nat)×Rho)
 | [],ρ,acc=>.ok (acc,ρ)
 | x::xs,ρ,acc=>match asg x (ρ++ja6 k none) with
  | none=>.no
  | some ρ1=>(test ρ1).bindN λ (b,ρ2)=>if b=true then (elt ρ2).bindN λ (y,e,ρ3)=>(if acc.length < va2 then zwq k asg test elt xs (ρ3.take ρ.length) (acc++[(y,e)]) else .no) else zwq k asg test elt xs (ρ2.take ρ.length) acc
theorem KD.seen {D:Addr}{x:PV}{v:V} (r:Rep M ρ σ H fps) (k:KD M H fps H' fps') (hD:H D=none) (hv:∀ i∈vs,M.Ms i=false) (o:Own M.K H (Zv M vs fps) x 0 v []):Own M.K H' (Zv (M.plus [D]) vs fps') x 0 v []:=by
 refine Own.move k.keep ?_ ?_ x 0 v [] (λ _ z=>nomatch z) o
 ·rintro a ⟨i,hi,ha⟩
  exact ⟨.inr ⟨i,λ z=>(by rw [hv i z] at hi;cases hi),ha⟩,r.lsts ha⟩
 ·intro a hd nz z
  rcases z with (z | z) | ⟨i,ni,hx⟩
  ·exact nz (.inl z)
  ·rw [jb1.mp z] at hd;exact hd hD
  ·rcases k.sub i a hx with z | z
   ·exact nz (.inr ⟨i,ni,z⟩)
   ·exact hd z
theorem zkx {g:TG}{is vI vE vo:List Nat}{asg:PV->Rho->Option Rho}{test:Fb}{elt:Fx}{k:Nat}{J:It}{els:List PV}{Q:VK}{n:Nat}{P:Fm->Prop}
  (hP:∀ D,P (M.comp D n vI)) (hn:n=ρ.length) (hal:∀ i,∀ j∈M.al i,M.Ms j=false) (hvI:∀ i∈vI,M.Ms i=false) (hvE:∀ i∈vE,M.Ms i=false) (his:∀ i∈is,n<=i) (hg:∀ D,GOk (M.comp D n vI) vI is g asg) (hvo:∀ i,i∈vE->i < n->i∈vo) (hvo2:∀ i∈vo,M.Ms i=false)
  (rep:Rep M ρ σ H fps)
  (hgo:∀ {D H' fps' i},H D=none->KD M H fps H' fps'->i < els.length->J.go i H') (hst:∀ {D H' fps' i},H D=none->KD M H fps H' fps'->els.length<=i->J.stop i H')
  (hy:∀ {D H' fps' i x H''},H D=none->KD M H fps H' fps'->i < els.length->J.yld i H' x H''->(∀ a o,H' a=some o->H'' a=some o)/\∃ z,els[i]?=some z/\Own M.K H'' (Zv (M.plus [D]) vI fps') z 0 x [])
  (q:match zwq k asg test elt els ρ [] with
   | .ok (acc,ρ')=>∀ D ws H' fps' fpl,KD M H fps H' fps'->Agr M ρ ρ'->Rep (M.plus [D]) ρ' σ H' fps'->H D=none->H' D=some (.lst ws)->Tmps M.K H' (Zv (M.plus [D]) vo fps') acc ws fpl->(∀ a∈fpl,H a=none/\¬ Zf (M.plus [D]) fps' a)->Q (.ref D) H'
   | _=>False):
  ∀ D,H D=none->∃ W:Nat->Nat->List V->Hp->Prop,(∃ m,W 0 m [] (upd H D (.lst [])))/\∀ i m ys H1,W i m ys H1->H1 D=some (.lst ys) /\
   ((J.stop i H1/\Q (.ref D) H1)\/(J.go i H1/\∀ x H',J.yld i H1 x H'->g x (σ++ja6 k none) H' λ σ2 H2=>∃ M',P M'/\tT M' test σ2 H2 λ b H3=>if b=true then ∃ M',P M'/\tE M' elt vE σ2 H3 λ y H4=>H4 D=some (.lst ys)/\ys.length < va2/\∃ m',m' < m/\W (i + 1) m' (ys++[y]) (upd H4 D (.lst (ys++[y]))) else ∃ m',m' < m/\W (i + 1) m' ys H3)):=by
 intro D hD
 subst hn
 let W:Nat->Nat->List V->Hp->Prop:=λ i m ys H1=>m=els.length - i/\∃ ρ1 fps1 acc fpl,Rep (M.plus [D]) ρ1 σ H1 fps1/\KD M H fps H1 fps1/\Agr M ρ ρ1/\Tmps M.K H1 (Zv (M.plus [D]) vo fps1) acc ys fpl/\(∀ a∈fpl,H a=none/\¬ Zf (M.plus [D]) fps1 a)/\H1 D=some (.lst ys)/\zwq k asg test elt (els.drop i) ρ1 acc=zwq k asg test elt els ρ []
 have k0:KD M H fps (upd H D (.lst [])) fps:=KD.grow λ a o h=>by rw [zqf (λ e=>by rw [e,hD] at h;cases h)];exact h
 have r0:Rep (M.plus [D]) ρ σ (upd H D (.lst [])) fps:=by
  refine rep.wide hal k0 Agr.refl (rep.grow λ a o h=>by rw [zqf (λ e=>by rw [e,hD] at h;cases h)];exact h) λ a ha=>?_
  rw [jb1.mp ha]
  exact ⟨hD,by rw [zqh];simp,rep.nz hD⟩
 refine ⟨W,⟨els.length,by simp,ρ,fps,[],[],r0,k0,Agr.refl,⟨rfl,rfl⟩,λ _ z=>(nomatch z),zqh,by simp⟩,?_⟩
 rintro i m ys H1 ⟨rfl,ρ1,fps1,acc,fpl,r1,k1,g1,tm,hf,h1D,ec⟩
 refine ⟨h1D,?_⟩
 have hlen:ρ1.length=ρ.length:=g1.2
 by_cases hi:i < els.length
 ·right
  refine ⟨hgo hD k1 hi,λ x H' hyl=>?_⟩
  obtain ⟨kx,z,ez,oz⟩:=hy hD k1 hi hyl
  have tm:=KD.stays (M:=M.plus [D]) (KD.grow kx) r1 hvo2 tm λ a ha=>(hf a ha).2
  have r1:=r1.grow kx
  have k1:=k1.trans (KD.grow (M:=M) (fps:=fps1) kx)
  have h1D:=kx D _ h1D
  have ed:els.drop i=z::els.drop (i + 1):=by
   obtain ⟨h1,h2⟩:=ja8.mp ez
   rw [<- h2];exact ji7 h1
  rw [ed] at ec
  have good:∃ a r,zwq k asg test elt els ρ []=.ok (a,r):=by
   cases e:zwq k asg test elt els ρ [] with
   | ok p=>exact ⟨p.1,p.2,rfl⟩
   | exc c=>rw [e] at q;exact q.elim
   | no=>rw [e] at q;exact q.elim
  obtain ⟨accF,ρF,eF⟩:=good
  rw [eF] at ec
  unfold zwq at ec
  cases ea:asg z (ρ1++ja6 k none) with
  | none=>rw [ea] at ec;cases ec
  | some ρ2=>
   rw [ea] at ec
   dsimp only at ec
   have rx:Rep (M.comp D ρ.length vI) (ρ1++ja6 k none) (σ++ja6 k none) H' fps1:=by rw [<- hlen];exact r1.ext
   refine hg D z x _ _ H' fps1 ρ2 _ rx oz ea λ σ2 fps2 s2 a2 l2 r2=>⟨_,hP D,ρ2,fps2,r2,?_⟩
   have hl2:ρ2.length=ρ.length + k:=by rw [l2,jb8,je0,hlen]
   have same2:∀ j,j < ρ.length->ρ2[j]?=ρ1[j]?/\fps2 j=fps1 j/\σ2[j]?=σ[j]?:=λ j hj=>by
    obtain ⟨z1,z2,z3⟩:=a2 j λ z=>absurd (his j z) (by omega)
    rw [jb7 (by omega)] at z1
    rw [jb7 (by rw [<- rep.len];omega)] at z3
    exact ⟨z1,z2,z3⟩
   have kd2:KD (M.comp D ρ.length vI) H' fps1 H' fps2->True:=λ _=>trivial
   cases et:test ρ2 with
   | exc c=>rw [et] at ec;cases ec
   | no=>rw [et] at ec;cases ec
   | ok p=>
    obtain ⟨b,ρ3⟩:=p
    rw [et] at ec
    intro H3 fps3 k3 g3 r3
    dsimp only [Rz.bindN] at ec
    have far:∀ {ρ4:Rho}{H4:Hp}{fps4:Fps},KD (M.comp D ρ.length vI) H' fps2 H4 fps4->Agr (M.comp D ρ.length vI) ρ2 ρ4->Rep (M.comp D ρ.length vI) ρ4 σ2 H4 fps4 ->
      KD M H fps H4 (cut ρ.length fps4)/\KD M H' fps1 H4 (cut ρ.length fps4)/\Agr M ρ (ρ4.take ρ.length)/\Rep (M.plus [D]) (ρ4.take ρ.length) σ H4 (cut ρ.length fps4)/\H4 D=some (.lst ys):=λ {ρ4 H4 fps4} k4 g4 r4=>by
     have kk:KD M H' fps1 H4 (cut ρ.length fps4):=by
      refine ⟨λ a o ha hn=>k4.keep a o ha λ ⟨j,hj,hx⟩=>hn ⟨j,hj,s2 j a hx⟩,k4.dom,λ j a ha=>?_,λ j hj=>?_⟩
      ·rcases k4.sub j a (zzk ha).1 with z | z
       ·exact .inl (s2 j a z)
       ·exact .inr z
      ·unfold cut
       by_cases hjl:j < ρ.length
       ·rw [if_pos hjl,k4.same j hj];exact (same2 j hjl).2.1
       ·rw [if_neg hjl];exact (r1.far (by omega)).symm
     refine ⟨k1.trans kk,kk,?_,r4.take (σ':=σ) (λ j hj=>(same2 j hj).2.2) rep.len.symm (by rw [g4.2,hl2];omega) ⟨λ hio=>?_,λ p hp=>by rw [rep.len];exact (ja8.mp (rep.iov.2 p hp)).1⟩,?_⟩
     ·refine ⟨λ j hj=>?_,by rw [jd7,g4.2,hl2];omega⟩
      by_cases hjl:j < ρ.length
      ·rw [je2 hjl,g4.1 j hj,(same2 j hjl).1];exact g1.1 j hj
      ·rw [jg0.mpr (by rw [jd7];omega),jg0.mpr (by omega)]
     ·cases e:M.io with
      | none=>exact absurd e hio
      | some v=>
       have:=(ja8.mp (rep.iov.1 v e).1).1
       rw [rep.len];exact this
     ·exact k4.keep D _ h1D λ ⟨j,_,hx⟩=>r2.zo j D hx (.inr (by simp))
    have notZ:∀ {H4:Hp}{fps4:Fps},KD M H' fps1 H4 fps4->∀ {a},a∈fpl->¬ Zf (M.plus [D]) fps4 a:=λ {H4 fps4} k4 a ha z=>by
     rcases z with z | ⟨j,z⟩
     ·exact (hf a ha).2 (.inl z)
     ·rcases k4.sub j a z with z | z
      ·exact (hf a ha).2 (.inr ⟨j,z⟩)
      ·obtain ⟨xs,e⟩:=tm.lsts a ha
       rw [z] at e;cases e
    cases b with
    | false=>
     rw [if_neg jc1] at ec ⊢
     obtain ⟨f1,f2,f3,f4,f5⟩:=far k3 g3 r3
     refine ⟨els.length - (i + 1),by omega,rfl,ρ3.take ρ.length,cut ρ.length fps3,acc,fpl,f4,f1,f3,?_,λ a ha=>⟨(hf a ha).1,λ z=>?_⟩,f5,by rw [eF,<- hlen];exact ec⟩
     ·exact KD.stays (M:=M.plus [D]) (σ:=σ) (ρ:=ρ1) ⟨f2.keep,f2.dom,f2.sub,f2.same⟩ r1 hvo2 tm λ a ha=>(hf a ha).2
     ·exact notZ f2 ha z
    | true=>
     rw [if_pos rfl] at ec ⊢
     refine ⟨_,hP D,ρ3,fps3,r3,?_⟩
     cases ee:elt ρ3 with
     | exc c=>rw [ee] at ec;cases ec
     | no=>rw [ee] at ec;cases ec
     | ok p=>
      obtain ⟨y,e,ρ4⟩:=p
      rw [ee] at ec
      intro w H4 fps4 fe k4 g4 r4 o4 t4
      dsimp only at ec
      by_cases hz:acc.length < va2
      ·rw [if_pos hz] at ec
       obtain ⟨f1,f2,f3,f4,f5⟩:=far (k3.trans k4) (g3.trans g4) r4
       have tm4:Tmps M.K H4 (Zv (M.plus [D]) vo (cut ρ.length fps4)) acc ys fpl:=KD.stays (M:=M.plus [D]) (σ:=σ) (ρ:=ρ1) ⟨f2.keep,f2.dom,f2.sub,f2.same⟩ r1 hvo2 tm λ a ha=>(hf a ha).2
       have zD:Zv (M.plus [D]) vo (cut ρ.length fps4) D:=.inl (.inr (by simp))
       have hDe:D∉fe:=λ z=>t4.ndj D z (.inl (.inr (by simp)))
       have hDl:D∉fpl:=λ z=>(hf D z).2 (.inl (.inr (by simp)))
       have oy:Own M.K H4 (λ a=>Zv (M.plus [D]) vo (cut ρ.length fps4) a\/a∈fe) y e w fe:=o4.weak λ a h=>h.elim (λ h=>.inl (h.elim .inl λ ⟨j,nj,hx⟩=>.inr ⟨j,λ z=>nj (hvo j z (zzk hx).2),(zzk hx).1⟩)) .inr
       have back3:∀ a,H3 a=none->H' a=none:=λ a e=>by
        cases e':H' a with
        | none=>rfl
        | some o=>exact absurd e (k3.dom a (by rw [e'];simp))
       have back1:∀ a,H' a=none->H a=none:=λ a e=>by
        cases e':H a with
        | none=>rfl
        | some o=>exact absurd e (k1.dom a (by rw [e'];simp))
       have kt:KD M H fps (upd H4 D (.lst (ys++[w]))) (cut ρ.length fps4):=⟨λ a o ha hn=>by rw [zqf (λ e=>by rw [e,hD] at ha;cases ha)];exact f1.keep a o ha hn,λ a ha=>by
        by_cases eb:a=D
        ·rw [eb,zqh];simp
        ·rw [zqf eb];exact f1.dom a ha,f1.sub,f1.same⟩
       refine ⟨f5,by rw [tm.length];exact hz,els.length - (i + 1),by omega,rfl,ρ4.take ρ.length,cut ρ.length fps4,acc++[(y,e)],fpl++fe,f4.touch f5,kt,f3,?_,λ a ha=>?_,zqh,by rw [eF,<- hlen];exact ec⟩
       ·exact (tm4.at zD ⟨.l ys,f5⟩ hDl).snoc (oy.at (.inl zD) ⟨.l ys,f5⟩ hDe λ _ _ n=>n) λ a ha hb=>by
         obtain ⟨xs,e⟩:=tm.lsts a ha
         rw [back3 a (t4.new a hb)] at e;cases e
       ·rcases jb3.mp ha with z | z
        ·exact ⟨(hf a z).1,notZ f2 z⟩
        ·refine ⟨back1 a (back3 a (t4.new a z)),λ hz=>t4.ndj a z ?_⟩
         rcases hz with hz | ⟨j,hz⟩
         ·exact .inl hz
         ·exact .inr ⟨j,(zzk hz).1⟩
      ·rw [if_neg hz] at ec;cases ec
 ·left
  have ed:els.drop i=[]:=jj5 (by omega)
  rw [ed] at ec
  rw [<- ec] at q
  unfold zwq at q
  exact ⟨hst hD k1 (by omega),q D ys H1 fps1 fpl k1 g1 r1 hD h1D tm hf⟩
end
section
variable {M:Fm}{ρ ρ':Rho}{σ σ':St}{H H' H'':Hp}{fps fps' fps'':Fps}{vs vs':List Nat}
def zkj:List (PV×Nat)->Bool
 | []=>true
 | p::r=>(p.2 == om) && zkj r
theorem zkb:∀ {xs:List (PV×Nat)},zkj xs=true->∀ p∈xs,p.2=om
 | [],_,_,h=>nomatch h
 | p::r,h,q,hq=>by
  unfold zkj at h
  rw [ja3] at h
  rcases ja9.mp hq with e | e
  ·rw [e];exact eq_of_beq h.1
  ·exact zkb h.2 q e
def zvj (acc:List (PV×Nat)) (ρ:Rho):Rz (PV×Nat×Rho):=.ok (.lst (acc.map (·.1)),if zkj acc then om else 1,ρ)
def zxs (f:Fx) (k:Nat) (asg:PV->Rho->Option Rho) (test:Fb) (elt:Fx):Fx:=λ ρ=>match f ρ with
 | .ok (.lst xs,_,ρ1)=>(zwq k asg test elt xs ρ1 []).bindN λ (acc,ρ2)=>zvj acc ρ2
 | .ok (.tup xs,_,ρ1)=>(zwq k asg test elt xs ρ1 []).bindN λ (acc,ρ2)=>zvj acc ρ2
 | .ok (.str z,_,ρ1)=>if zqs z=true then (zwq k asg test elt (zyd z) ρ1 []).bindN λ (acc,ρ2)=>zvj acc ρ2 else .no
 | .ok _=>.no
 | .exc c=>.exc c
 | .no=>.no
def zzn (en:List (PV×Nat)->Option (Int×Int)) (fa:Fa) (k:Nat) (asg:PV->Rho->Option Rho) (test:Fb) (elt:Fx):Fx:=λ ρ=>match fa ρ with
 | .ok (xs,ρ1)=>(match en xs with
  | some (i,j)=>(zwq k asg test elt (zzp i (j - i).toNat) ρ1 []).bindN λ (acc,ρ2)=>zvj acc ρ2
  | none=>.no)
 | .exc c=>.exc c
 | .no=>.no
theorem zhu {D:Addr}{acc:List (PV×Nat)}{ws:List V}{fpl:List Addr}{vo:List Nat}{Q:VK}{H0:Hp}{fps0:Fps}{ρ0:Rho}
  (rep0:Rep M ρ σ H fps) (k0:KD M H0 fps0 H fps) (g0:Agr M ρ0 ρ) (q:∀ v H' fps' fp,KD M H0 fps0 H' fps'->Agr M ρ0 ρ'->Rep M ρ' σ H' fps'->Own M.K H' (Zt M vo fps' fp) (.lst (acc.map (·.1))) (if zkj acc then om else 1) v fp->Temp M vo H0 H' fps' fp->Q v H')
  (k:KD M H fps H' fps') (g:Agr M ρ ρ') (r:Rep (M.plus [D]) ρ' σ H' fps') (hD:H D=none) (hD':H' D=some (.lst ws)) (tm:Tmps M.K H' (Zv (M.plus [D]) vo fps') acc ws fpl) (hf:∀ a∈fpl,H a=none/\¬ Zf (M.plus [D]) fps' a):Q (.ref D) H':=by
 have back:∀ a,H a=none->H0 a=none:=λ a e=>by
  cases e':H0 a with
  | none=>rfl
  | some o=>exact absurd e (k0.dom a (by rw [e'];simp))
 have nD:¬ Zf M fps' D:=λ z=>by
  rcases z with z | ⟨j,z⟩
  ·exact rep0.zd D z hD
  ·exact r.zo j D z (.inr (by simp))
 have hDl:D∉fpl:=λ z=>(hf D z).2 (.inl (.inr (by simp)))
 have zt:∀ a,Zt M vo fps' [D] a->Zv (M.plus [D]) vo fps' a:=λ a h=>h.elim (λ h=>h.elim (λ h=>.inl (.inl h)) .inr) λ h=>.inl (.inr h)
 cases ho:zkj acc with
 | true=>
  rw [ho] at q
  refine q (.ref D) H' fps' (D::fpl) (k0.trans k) (g0.trans g) r.minus ?_ ⟨λ a ha=>?_,λ a ha=>?_⟩
  ·rw [Own]
   exact ⟨D,ws,rfl,.inr ⟨(by decide),fpl,hD',rfl,hDl,OwnL.full _ ws fpl (tm.all (zkb ho))⟩⟩
  ·rcases ja9.mp ha with z | z
   ·rw [z];exact back D hD
   ·exact back a (hf a z).1
  ·rcases ja9.mp ha with z | z
   ·rw [z];exact nD
   ·exact λ y=>(hf a z).2 (y.elim (λ y=>.inl (.inl y)) .inr)
 | false=>
  rw [ho] at q
  refine q (.ref D) H' fps' [D] (k0.trans k) (g0.trans g) r.minus ?_ ⟨λ a ha=>?_,λ a ha=>?_⟩
  ·show Own M.K H' (Zt M vo fps' [D]) (.lst (acc.map (·.1))) 1 (.ref D) [D]
   rw [Own]
   refine ⟨D,ws,rfl,.inr ⟨(by decide),[],hD',rfl,(λ z=>nomatch z),?_⟩⟩
   rw [zmb]
   exact (tm.cold λ a ha z=>(hf a ha).2 z.zf).weak zt
  ·rw [jb1.mp ha];exact back D hD
  ·rw [jb1.mp ha];exact nD
theorem qd6 {g:TG}{is vI vE vo:List Nat}{asg:PV->Rho->Option Rho}{test:Fb}{elt f:Fx}{k n:Nat}{Q:VK}{P:Fm->Prop}
  (hn:σ.length=n) (hP:∀ D,P (M.comp D n vI)) (hal:∀ i,∀ j∈M.al i,M.Ms j=false) (hvI:∀ i∈vI,M.Ms i=false) (hvE:∀ i∈vE,M.Ms i=false) (his:∀ i∈is,n<=i) (hg:∀ D,GOk (M.comp D n vI) vI is g asg)
  (hvo:∀ i,i∈vE->i < n->i∈vo) (hvo2:∀ i∈vo,M.Ms i=false) (hq:tE M (zxs f k asg test elt) vo σ H Q):
  qae k (iSeq M.K (tE M f vI)) g (λ σ H Q=>∃ M',P M'/\tT M' test σ H Q) (λ σ H Q=>∃ M',P M'/\tE M' elt vE σ H Q) σ H Q:=by
 obtain ⟨ρ,fps,rep,q⟩:=hq
 refine ⟨ρ,fps,rep,?_⟩
 unfold zxs at q
 cases ef:f ρ with
 | no=>rw [ef] at q;exact q
 | exc c=>rw [ef] at q;exact q
 | ok p=>
  obtain ⟨x,d,ρ1⟩:=p
  rw [ef] at q
  intro v H1 fps1 f1 k1 g1 rep1 o1 t1
  have o0:Own M.K H1 (Zv M vI fps1) x 0 v []:=Own.freeze (λ _ z=>.inl z) x d v f1 (λ a ha z=>t1.ndj a ha z.zf) o1
  have hl:n=ρ1.length:=by rw [rep1.len];exact hn.symm
  have fin:∀ (els:List PV),(match (zwq k asg test elt els ρ1 []).bindN λ (acc,ρ2)=>zvj acc ρ2 with
    | .ok (x,d,ρ')=>∀ v H' fps' fp,KD M H fps H' fps'->Agr M ρ ρ'->Rep M ρ' σ H' fps'->Own M.K H' (Zt M vo fps' fp) x d v fp->Temp M vo H H' fps' fp->Q v H'
    | .exc c=>∀ H' fps',KD M H fps H' fps'->M.W σ c H'
    | .no=>False)->(match zwq k asg test elt els ρ1 [] with
    | .ok (acc,ρ')=>∀ D ws H' fps' fpl,KD M H1 fps1 H' fps'->Agr M ρ1 ρ'->Rep (M.plus [D]) ρ' σ H' fps'->H1 D=none->H' D=some (.lst ws)->Tmps M.K H' (Zv (M.plus [D]) vo fps') acc ws fpl->(∀ a∈fpl,H1 a=none/\¬ Zf (M.plus [D]) fps' a)->Q (.ref D) H'
    | _=>False):=λ els q=>by
   cases ec:zwq k asg test elt els ρ1 [] with
   | no=>rw [ec] at q;exact q.elim
   | exc c=>rw [ec] at q;exact q.elim
   | ok p=>
    obtain ⟨acc,ρ2⟩:=p
    rw [ec] at q
    exact λ D ws H' fps' fpl k g r hD hD' tm hf=>zhu rep1 k1 g1 q k g r hD hD' tm hf
  cases x with
  | lst xs=>
   have one:∀ {Z:Addr->Prop}{H:Hp},Own M.K H Z (.lst xs) 0 v []->∃ a ws,v=.ref a/\SqL M.K H a ws/\OwnL M.K H Z xs 0 ws []:=λ o=>by
    rw [Own] at o
    obtain ⟨b,ws,e,⟨_,hr,_,ol⟩ | ⟨h,_⟩⟩:=o
    ·exact ⟨b,ws,e,.inl (.inl hr.1),ol⟩
    ·exact absurd rfl h
   obtain ⟨a,ws,rfl,sq,ol⟩:=one o0
   refine .inl ⟨a,rfl,.inl ⟨⟨ws,sq⟩,?_⟩⟩
   refine zkx (els:=xs) hP hl hal hvI hvE his hg hvo hvo2 rep1 (λ {D H' fps' i} hD k' h=>?_) (λ {D H' fps' i} hD k' h=>?_) (λ {D H' fps' i x H''} hD k' h y=>?_) (fin xs q)
   ·obtain ⟨a',ws,e,s,ol⟩:=one (KD.seen rep1 k' hD hvI o0)
    cases e
    exact ⟨ws,ws[i]'(by rw [ol.length];exact h),s,by simp⟩
   ·obtain ⟨a',ws,e,s,ol⟩:=one (KD.seen rep1 k' hD hvI o0)
    cases e
    exact ⟨ws,s,by rw [ol.length];exact h⟩
   ·obtain ⟨a',ws,e,s,ol⟩:=one (KD.seen rep1 k' hD hvI o0)
    cases e
    obtain ⟨e1,e2⟩:=y
    subst e1
    exact ⟨λ _ _ h=>h,ol.get (e2 ws s)⟩
  | tup xs=>
   have one:∀ {Z:Addr->Prop}{H:Hp},Own M.K H Z (.tup xs) 0 v []->∃ a ws,v=.ref a/\SqT M.K H a ws/\OwnL M.K H Z xs 0 ws []:=λ o=>by
    rw [Own] at o
    obtain ⟨a,ws,e,hr,ol⟩:=o
    exact ⟨a,ws,e,.inl (.inl hr),ol⟩
   obtain ⟨a,ws,rfl,sq,ol⟩:=one o0
   refine .inl ⟨a,rfl,.inr ⟨⟨ws,sq⟩,?_⟩⟩
   refine zkx (els:=xs) hP hl hal hvI hvE his hg hvo hvo2 rep1 (λ {D H' fps' i} hD k' h=>?_) (λ {D H' fps' i} hD k' h=>?_) (λ {D H' fps' i x H''} hD k' h y=>?_) (fin xs q)
   ·obtain ⟨a',ws,e,s,ol⟩:=one (KD.seen rep1 k' hD hvI o0)
    cases e
    exact ⟨ws,ws[i]'(by rw [ol.length];exact h),s,by simp⟩
   ·obtain ⟨a',ws,e,s,ol⟩:=one (KD.seen rep1 k' hD hvI o0)
    cases e
    exact ⟨ws,s,by rw [ol.length];exact h⟩
   ·obtain ⟨a',ws,e,s,ol⟩:=one (KD.seen rep1 k' hD hvI o0)
    cases e
    obtain ⟨e1,e2⟩:=y
    subst e1
    exact ⟨λ _ _ h=>h,ol.get (e2 ws s)⟩
  | str z=>
   have o0':=o0
   rw [Own] at o0'
   obtain ⟨rfl,_⟩:=o0'
   dsimp only at q
   by_cases ha:zqs z=true
   ·rw [if_pos ha] at q
    refine .inr ⟨z,rfl,ha,?_⟩
    have hl':(zyd z).length=z.cps.size:=by unfold zyd;rw [jb5,jf2]
    refine zkx (els:=zyd z) hP hl hal hvI hvE his hg hvo hvo2 rep1 (λ {D H' fps' i} hD k' h=>?_) (λ {D H' fps' i} hD k' h=>?_) (λ {D H' fps' i x H''} hD k' h y=>?_) (fin (zyd z) q)
    ·show i < z.cps.size
     omega
    ·show z.cps.size<=i
     omega
    ·obtain ⟨rfl,c,hc,rfl⟩:=y
     refine ⟨λ _ _ h=>h,.str ⟨#[c]⟩,?_,by rw [Own];exact ⟨rfl,rfl⟩⟩
     unfold zyd
     rw [jd2,jh4,hc]
     rfl
   ·rw [if_neg ha] at q
    exact q.elim
  | _=>exact q.elim
theorem zjt {g:TG}{is vI vE vo:List Nat}{asg:PV->Rho->Option Rho}{test:Fb}{elt:Fx}{k n:Nat}{Q:VK}{P:Fm->Prop}{lo:Int}{m:Nat}{H0:Hp}{fps0:Fps}{ρ0:Rho}
  (hn:σ.length=n) (hP:∀ D,P (M.comp D n vI)) (hal:∀ i,∀ j∈M.al i,M.Ms j=false) (hvI:∀ i∈vI,M.Ms i=false) (hvE:∀ i∈vE,M.Ms i=false) (his:∀ i∈is,n<=i) (hg:∀ D,GOk (M.comp D n vI) vI is g asg)
  (hvo:∀ i,i∈vE->i < n->i∈vo) (hvo2:∀ i∈vo,M.Ms i=false) (k0:KD M H0 fps0 H fps) (g0:Agr M ρ0 ρ) (rep:Rep M ρ σ H fps)
  (q:match (zwq k asg test elt (zzp lo m) ρ []).bindN λ (acc,ρ2)=>zvj acc ρ2 with
    | .ok (x,d,ρ')=>∀ v H' fps' fp,KD M H0 fps0 H' fps'->Agr M ρ0 ρ'->Rep M ρ' σ H' fps'->Own M.K H' (Zt M vo fps' fp) x d v fp->Temp M vo H0 H' fps' fp->Q v H'
    | .exc c=>∀ H' fps',KD M H0 fps0 H' fps'->M.W σ c H'
    | .no=>False):
  ∀ D,H D=none->∃ W:Nat->Nat->List V->Hp->Prop,(∃ m,W 0 m [] (upd H D (.lst [])))/\∀ i j ys H1,W i j ys H1->H1 D=some (.lst ys) /\
   (((Itr lo m).stop i H1/\Q (.ref D) H1)\/((Itr lo m).go i H1/\∀ x H',(Itr lo m).yld i H1 x H'->g x (σ++ja6 k none) H' λ σ2 H2=>∃ M',P M'/\tT M' test σ2 H2 λ b H3=>if b=true then ∃ M',P M'/\tE M' elt vE σ2 H3 λ y H4=>H4 D=some (.lst ys)/\ys.length < va2/\∃ m',m' < j/\W (i + 1) m' (ys++[y]) (upd H4 D (.lst (ys++[y]))) else ∃ m',m' < j/\W (i + 1) m' ys H3)):=by
 have hl:n=ρ.length:=by rw [rep.len];exact hn.symm
 refine zkx (els:=zzp lo m) hP hl hal hvI hvE his hg hvo hvo2 rep (λ {D H' fps' i} hD k' h=>?_) (λ {D H' fps' i} hD k' h=>?_) (λ {D H' fps' i x H''} hD k' h y=>?_) ?_
 ·rw [zwn] at h;exact h
 ·rw [zwn] at h;exact h
 ·rw [zwn] at h
  obtain ⟨e1,e2⟩:=y
  subst e1
  exact ⟨λ _ _ h=>h,.int (lo + i),by simp [zzp,h],by rw [e2,Own];exact ⟨rfl,rfl⟩⟩
 ·cases ec:zwq k asg test elt (zzp lo m) ρ [] with
  | no=>rw [ec] at q;exact q.elim
  | exc c=>rw [ec] at q;exact q.elim
  | ok p=>
   obtain ⟨acc,ρ2⟩:=p
   rw [ec] at q
   exact λ D ws H' fps' fpl k g r hD hD' tm hf=>zhu rep k0 g0 q k g r hD hD' tm hf
theorem qd8 {g:TG}{is vI vE vo:List Nat}{asg:PV->Rho->Option Rho}{test:Fb}{elt:Fx}{fa:Fa}{k n:Nat}{Q:VK}{P:Fm->Prop}
  (hn:σ.length=n) (hP:∀ D,P (M.comp D n vI)) (hal:∀ i,∀ j∈M.al i,M.Ms j=false) (hvI:∀ i∈vI,M.Ms i=false) (hvE:∀ i∈vE,M.Ms i=false) (his:∀ i∈is,n<=i) (hg:∀ D,GOk (M.comp D n vI) vI is g asg)
  (hvo:∀ i,i∈vE->i < n->i∈vo) (hvo2:∀ i∈vo,M.Ms i=false) (hq:tE M (zzn zzd fa k asg test elt) vo σ H Q):
  qae k (qew (tL M fa vs)) g (λ σ H Q=>∃ M',P M'/\tT M' test σ H Q) (λ σ H Q=>∃ M',P M'/\tE M' elt vE σ H Q) σ H Q:=by
 obtain ⟨ρ,fps,rep,q⟩:=hq
 refine ⟨ρ,fps,rep,?_⟩
 unfold zzn at q
 cases ef:fa ρ with
 | no=>rw [ef] at q;exact q
 | exc c=>rw [ef] at q;exact q
 | ok p=>
  obtain ⟨xs,ρ1⟩:=p
  rw [ef] at q
  intro ws H1 fps1 f1 k1 g1 rep1 o1 t1
  dsimp only at q
  cases ee:zzd xs with
  | none=>rw [ee] at q;exact q.elim
  | some ij=>
   obtain ⟨i,j⟩:=ij
   rw [ee] at q
   unfold zzd at ee
   split at ee
   ·rename_i j' d
    split at ee
    ·rename_i hb
     cases ee
     obtain ⟨v,r,f1,f2,rfl,_,_,h1,h2⟩:=o1
     obtain ⟨rfl,_⟩:=h2
     rw [Own] at h1
     obtain ⟨rfl,_⟩:=h1
     refine ⟨j,rfl,hb.1,hb.2,?_⟩
     have e:(j - 0).toNat=j.toNat:=by omega
     dsimp only at q
     rw [e] at q
     exact zjt hn hP hal hvI hvE his hg hvo hvo2 k1 g1 rep1 q
    ·cases ee
   ·cases ee
theorem qd7 {g:TG}{is vI vE vo:List Nat}{asg:PV->Rho->Option Rho}{test:Fb}{elt:Fx}{fa:Fa}{k n:Nat}{Q:VK}{P:Fm->Prop}
  (hn:σ.length=n) (hP:∀ D,P (M.comp D n vI)) (hal:∀ i,∀ j∈M.al i,M.Ms j=false) (hvI:∀ i∈vI,M.Ms i=false) (hvE:∀ i∈vE,M.Ms i=false) (his:∀ i∈is,n<=i) (hg:∀ D,GOk (M.comp D n vI) vI is g asg)
  (hvo:∀ i,i∈vE->i < n->i∈vo) (hvo2:∀ i∈vo,M.Ms i=false) (hq:tE M (zzn zmu fa k asg test elt) vo σ H Q):
  qae k (qev (tL M fa vs)) g (λ σ H Q=>∃ M',P M'/\tT M' test σ H Q) (λ σ H Q=>∃ M',P M'/\tE M' elt vE σ H Q) σ H Q:=by
 obtain ⟨ρ,fps,rep,q⟩:=hq
 refine ⟨ρ,fps,rep,?_⟩
 unfold zzn at q
 cases ef:fa ρ with
 | no=>rw [ef] at q;exact q
 | exc c=>rw [ef] at q;exact q
 | ok p=>
  obtain ⟨xs,ρ1⟩:=p
  rw [ef] at q
  intro ws H1 fps1 f1 k1 g1 rep1 o1 t1
  dsimp only at q
  cases ee:zmu xs with
  | none=>rw [ee] at q;exact q.elim
  | some ij=>
   obtain ⟨i,j⟩:=ij
   rw [ee] at q
   unfold zmu at ee
   split at ee
   ·rename_i i' d j' d'
    split at ee
    ·rename_i hb
     cases ee
     obtain ⟨v,r,f1,f2,rfl,_,_,h1,h2⟩:=o1
     obtain ⟨v2,r2,f3,f4,rfl,_,_,h3,h4⟩:=h2
     obtain ⟨rfl,_⟩:=h4
     rw [Own] at h1 h3
     obtain ⟨rfl,_⟩:=h1
     obtain ⟨rfl,_⟩:=h3
     exact ⟨i,j,rfl,hb,zjt hn hP hal hvI hvE his hg hvo hvo2 k1 g1 rep1 q⟩
    ·cases ee
   ·cases ee
end
theorem zkz {K:Frag}{c:Nat}{C:Addr} (e:zxu K c=some C):c < 12:=by
 unfold zxu at e
 split at e
 ·rename_i x h
  exact (ja8.mp h).1
 ·cases e
structure XC (h:Heap) (K:Frag) (c:Nat) (C:Addr):Prop where
 obj:∃ bm N nm q bs hdct sn sub ab col dd k0 k1 k2 k3 k5 mN,h.get? C=some (excClassObj nm q C N bs bm hdct sn sub ab col dd k0 k1 k2 k3 k5 "ValueError.__new__")/\h.Ns N mN/\mN "__init__" = none/\OwnTail h bmV bm/\∀ d D,zxu K d=some D->(Value.ref C::bm).contains (.ref D)=isX c d
theorem qgu {K:Frag}{c:Nat}{C:Addr} (t:xTab K=true) (e:zxu K c=some C):PySem.W.excIn K C bmV "ValueError.__new__" = true/\∀ d D,zxu K d=some D->(mroX K C).contains (.ref D)=isX c d:=by
 unfold xTab at t
 have h:=jb6.mp t c (jd5.mpr (zkz e))
 rw [e] at h
 dsimp only at h
 rw [ja3] at h
 refine ⟨h.1,λ d D ed=>?_⟩
 have h2:=jb6.mp h.2 d (jd5.mpr (zkz ed))
 rw [ed] at h2
 exact eq_of_beq h2
theorem qgt {K:Frag}{h:Heap}{c:Nat}{C:Addr} (X:K.In h) (t:xTab K=true) (e:zxu K c=some C):XC h K c C:=by
 obtain ⟨q,ht⟩:=qgu t e
 refine ⟨?_⟩
 unfold PySem.W.excIn at q
 split at q
 ·rename_i dd cd sl ho
  split at q
  ·rename_i C' bm k0 k1 k2 k3 n k5 hm hs
   simp only [ja3,beq_iff_eq,jh1] at q
   obtain ⟨⟨⟨⟨⟨rfl,rfl⟩,hdel⟩,htl⟩,hok⟩,hni⟩:=q
   have hmro:mroX K C'=.ref C'::bm:=by unfold mroX;rw [ho];exact hm
   rw [hmro] at ht
   obtain ⟨nm,bs,mro,ns,qn,hd,sn,sub,ab,col,del⟩:=cd
   dsimp only at hm hdel hok hni
   subst hm hdel
   have hsl:sl=#[k0,k1,k2,k3,some (.builtin "ValueError.__new__"),k5]:=by
    obtain ⟨l⟩:=sl
    simp only at hs
    rw [hs]
   subst hsl
   exact ⟨bm,ns,nm,qn,bs,hd,sn,sub,ab,col,dd,k0,k1,k2,k3,k5,_,X _ _ ho,.of_isNs (PySem.W.isNs_of_in X hok),PySem.W.nsMap_none_of_in X hok hni,PySem.W.tail_of_in X htl,ht⟩
  ·cases q
 ·cases q
def XEof (W:Nat->Hp->Prop):XK:=λ v _ H'=>match v with
 | .int c _=>W c.toNat H'
 | _=>False
def CXr (P:va8) (w:vb7) (K:Frag):CXT:=λ outer H s E e s'=>∃ (a C:Addr) (c:Nat) (H':Hp) (B:Heap) (a0:va0),e=.ref a/\zxu K c=some C/\s'.os=s.os/\vg4 s'.gens/\Un (frs outer) [] H H' s.heap s'.heap/\HOk P w H' s'.heap/\H' a=none/\s.heap.get? a=none /\
 vk0 B outer a (.ref C) a0 s'.heap/\(∀ b o,s'.heap.get? b=some o->H' b≠none->B.get? b=some o)/\(∀ b o,s.heap.get? b=some o->H b=none->b∉frs outer->B.get? b=some o)/\(∀ b,H b≠none->H' b≠none)/\E (.int (c:Int) 0) none H'
theorem zbp {P:va8}{w:vb7}{H:Hp}{h:Heap}{a:Addr}{o:HO} (x:zxv P w H h a o):∃ u,h.get? a=some u:=by
 cases o with
 | lst xs=>obtain ⟨_,_,_,_,e⟩:=x;exact ⟨_,e⟩
 | tup xs=>obtain ⟨_,_,_,o,e,_⟩:=x;exact ⟨_,e⟩
 | dK kvs=>obtain ⟨_,_,_,_,o,_,_,e,_⟩:=x;exact ⟨_,e⟩
 | dT kvs=>obtain ⟨_,_,_,_,o,_,_,e,_⟩:=x;exact ⟨_,e⟩
 | set S n=>obtain ⟨o,_,_,_,e,_⟩:=x;exact ⟨_,e⟩
 | ins C dx fs=>obtain ⟨_,_,_,e,_⟩:=x;exact ⟨_,e⟩
 | own y=>exact x
 | xd fs=>obtain ⟨_,⟨_,_,_,e,_⟩,_⟩:=x;exact ⟨_,e⟩
 | rng lo hi=>obtain ⟨_,_,_,e⟩:=x;exact ⟨_,e⟩
 | frz ob u=>obtain ⟨e,_⟩:=x;exact ⟨_,e⟩
 | tbl ps=>exact ⟨_,(show h.get? a=some _ from x)⟩
 | met f y=>exact ⟨_,(show h.get? a=some _ from x)⟩
 | ext φ=>exact x.2.1
section
variable {X:Cx}{pins:List (Addr×Obj)}{σ:St}{H H1:Hp}{s s2:va1}{h1 B:Heap}{a C:Addr}{a0:va0}{c:Nat}{E:XK}{P:va8}{w:vb7}{K:Frag}
theorem zhn (I:L2.Inv X pins σ H s) (hex:X.ex=[]) (u:Un (frs X.stack) [] H H1 s.heap h1) (hok:HOk X.prog X.w H1 h1) (fl:vk0 B X.outer a (.ref C) a0 s2.heap) (up:h1.UpToSlots s2.heap)
  (i1:∀ b o,h1.get? b=some o->H1 b≠none->B.get? b=some o) (i2:∀ b o,s.heap.get? b=some o->H b=none->b∉frs X.stack->B.get? b=some o) (ha:H1 a=none) (hn:s.heap.get? a=none)
  (hE:E (.int (c:Int) 0) none H1) (hd:∀ b,X.H₀ b≠none->H1 b≠none) (hc:zxu X.K c=some C) (ho:s2.os=s.os) (hg:vg4 s2.gens):CXr X.prog X.w X.K X.outer X.H₀ X.s₀ E (.ref a) s2:=by
 have nx:∀ b:Addr,b∉X.ex:=λ b z=>by rw [hex] at z;cases z
 have key:∀ b o,X.s₀.heap.get? b=some o->X.H₀ b=none->b∉frs X.outer->B.get? b=some o:=λ b o e n hb=>by
  refine i2 b o (I.base.keep b o e n hb (nx b)) (I.base.free b o e n (nx b)) λ z=>?_
  rcases ja9.mp (I.stkSub b z) with z | z
  ·exact absurd (ja7 (va5 e) I.ok.above) (by rw [z];exact jd9 _)
  ·exact hb z
 have fr:∀ b o,X.s₀.heap.get? b=some o->X.H₀ b=none->b∈frs X.outer->∃ sl,s2.heap.get? b=some { o with slots:=sl }:=λ b o e n hb=>by
  obtain ⟨sl,e1⟩:=I.base.slot b o e n hb (nx b)
  obtain ⟨sl',e2⟩:=u.any e1 (I.base.free b o e n (nx b)) (by simp)
  obtain ⟨_,o',ho',hnf⟩:=I.ok.funs.mem hb
  rw [e] at ho';cases ho'
  obtain ⟨sl2,e3⟩:=up b _ e2 hnf
  exact ⟨sl2,e3⟩
 have trk:∀ b v,H1 b≠none->h1.get? b=some v->s2.heap.get? b=some v:=λ b v hb e=>fl.1 b v (i1 b v e hb)
 have un:Un (frs X.outer) [] X.H₀ H1 X.s₀.heap s2.heap:=by
  refine ⟨λ b o e n hb _=>fl.1 b o (key b o e n hb),λ b o e n hb _=>fr b o e n hb,λ b o e n _=>?_,λ b o e _=>?_,λ b xs e=>u.tups b xs (I.base.tups b xs e),λ b o xs e=>u.frzs b o xs (I.base.frzs b o xs e),λ b ps e=>?_⟩
  ·obtain ⟨o',e'⟩:=I.base.there b o e (nx b)
   exact u.free b o' e' (I.base.free b o e n (nx b)) (by simp)
  ·by_cases h0:X.H₀ b=none
   ·by_cases hb:b∈frs X.outer
    ·obtain ⟨sl,e2⟩:=fr b o e h0 hb
     exact ⟨_,e2⟩
    ·exact ⟨o,fl.1 b o (key b o e h0 hb)⟩
   ·obtain ⟨o',e'⟩:=I.base.there b o e (nx b)
    obtain ⟨o2,e2⟩:=u.there b o' e' (by simp)
    exact ⟨o2,trk b o2 (hd b h0) e2⟩
  ·obtain ⟨m1,e1⟩:=I.base.tbls b ps e
   obtain ⟨m2,e2⟩:=u.tbls b _ e1
   exact ⟨m1++m2,by rw [e2,ji5]⟩
 refine ⟨a,C,c,H1,B,a0,rfl,hc,ho.trans I.os,hg,un,λ b o e=>?_,ha,?_,fl,λ b o e hb=>?_,key,hd,hE⟩
 ·refine (hok b o e).stay (λ d v hd q=>trk d v ?_ q) (λ _ q=>q) λ _ _ q=>q
  rcases hd with rfl | hd
  ·rw [e];simp
  ·rw [hd];simp
 ·cases q:X.s₀.heap.get? a with
  | none=>rfl
  | some o=>
   obtain ⟨o',e'⟩:=I.base.there a o q (nx a)
   rw [hn] at e';cases e'
 ·cases q:H1 b with
  | none=>exact absurd q hb
  | some o1=>
   obtain ⟨v,hv⟩:=zbp (hok b o1 q)
   have e2:=trk b v hb hv
   rw [e] at e2
   cases e2
   exact i1 b o hv hb
end
def zyw (CX:CXT) (X:Cx) (W:St->Nat->Hp->Prop):Prop:=∀ (pins:List (Addr×Obj)) (σ:St) (H:Hp) (s:va1) (e:va0) (s':va1),L2.Inv X pins σ H s->CX X.stack H s (XEof (W σ)) e s'->X.xe e s'
def zgj (X:Cx) (W:St->Nat->Hp->Prop):Prop:=∀ (pins:List (Addr×Obj)) (σ:St) (H:Hp) (s:va1) (c:Nat) (C a:Addr) (h':Heap) (args:List va0),L2.Inv X pins σ H s->zxu X.K c=some C->Heap.MadeExcOf s.heap h' a (.ref C) args->W σ c H->X.xe (.ref a) { s with heap:=h' }
abbrev W0:St->Nat->Hp->Prop:=λ _ _ _=>False
theorem qk6 {P:va8}{w:vb7}{K:Frag}{X:Cx}:zyw (CXr P w K) X W0:=λ _ _ _ _ _ _ _ h=>by
 obtain ⟨a,C,c,H',B,a0,_,_,_,_,_,_,_,_,_,_,_,_,hE⟩:=h
 exact ve1 hE
def WE (E:XK) (H:Hp):St->Nat->Hp->Prop:=λ _ c H'=>E (.int (c:Int) 0) none H'/\∀ b,H b≠none->H' b≠none
section
variable {P:va8}{w:vb7}{K:Frag}{mg:Str->Option va0}{base:Heap}{N:List Str}{qual:Str}{scope:vd0}{f:Addr}{cd:va0}{A:vc0}{outer:List Env}{s:va1}{H:Hp}{E:XK}
theorem qem:zyw (CXr P w K) (cxOf (CXr P w K) P w K mg base N qual scope f cd A outer s H E) (WE E H):=by
 intro pins σ H1 s1 e s' I h
 obtain ⟨a,C,c,H',B,a0,rfl,hc,ho,hg,un,hok,ha,hn,fl,i1,i2,hd,hE⟩:=h
 have hE':WE E H σ c H':=hE
 refine wpAny_leaves_onW (by exact I.ok.frames) rfl fl λ h2 f2 up=>?_
 exact zhn (s2:={ s' with heap:=h2 }) I rfl un hok f2 up i1 i2 ha hn hE'.1 hE'.2 hc ho hg
theorem qbx:zgj (cxOf (CXr P w K) P w K mg base N qual scope f cd A outer s H E) (WE E H):=by
 intro pins σ H1 s1 c C a h' args I hc hx hW
 have hin:∀ env∈(cxOf (CXr P w K) P w K mg base N qual scope f cd A outer s H E).stack,∀ b,env.frame=some b->b∈frs (cxOf (CXr P w K) P w K mg base N qual scope f cd A outer s H E).stack:=λ env he b hb=>jg4.mpr ⟨env,he,hb⟩
 have trk:∀ b,H1 b≠none->∃ o,s1.heap.get? b=some o:=λ b hb=>by
  cases q:H1 b with
  | none=>exact absurd q hb
  | some u=>exact zbp (I.hok b u q)
 have nfr:∀ b,H1 b≠none->b∉frs (cxOf (CXr P w K) P w K mg base N qual scope f cd A outer s H E).stack:=λ b hb z=>hb (I.stkFree b z)
 refine wpAny_leaves_madeW (base:=PySem.W.hideAll s1.heap (frs (cxOf (CXr P w K) P w K mg base N qual scope f cd A outer s H E).stack)) (h:=s1.heap) (by exact I.ok.frames) rfl (λ b o q=>PySem.W.of_hideAll _ q) (PySem.W.funFrames_hide I.stack hin) hx λ h2 t f2 _ _ up=>?_
 refine zhn (s2:={ s1 with heap:=h2 }) I rfl (Un.kept hx.keeps) (I.hok.kept hx.keeps) f2 up (λ b o e hb=>?_) (λ b o e _ hb=>vi1 _ e hb) ?_ hx.new hW.1 hW.2 hc rfl I.bare
 ·obtain ⟨o1,e1⟩:=trk b hb
  have e2:=hx.keeps b o1 e1
  rw [e] at e2
  cases e2
  exact vi1 _ e1 (nfr b hb)
 ·cases q:H1 a with
  | none=>rfl
  | some u=>
   obtain ⟨o,e⟩:=zbp (I.hok a u q)
   rw [hx.new] at e;cases e
theorem qh6:vl2 (vb3 P w) (cxOf (CXr P w K) P w K mg base N qual scope f cd A outer s H E).A (cxOf (CXr P w K) P w K mg base N qual scope f cd A outer s H E).env (cxOf (CXr P w K) P w K mg base N qual scope f cd A outer s H E).xe:=PassesOwn.leaving
end
section
variable {X:Cx}{CX:CXT}{k:Nat}{f:Addr}{fd:vc5}{ps:List Str}{sp:Sp}{x:Str}{p pos:Pos}{e:Expr}{es:List Expr}{t:TA}{W:St->Nat->Hp->Prop}
def qfv (sp:Sp) (W:St->Nat->Hp->Prop) (t:TA):TE:=λ σ H Q=>t σ H λ vs H1=>sp vs H1 Q (XEof (W σ))
theorem qel (F:FnOk X.prog X.w X.K X.mg X.base CX k f fd ps sp) (hr:Room k X.A) (hg:Gl X x) (hm:X.mg x=some (.ref f)) (hk:vd6 X.K (.ref f)=true) (hb:zfj X.K fd ps []) (hx:zyw CX X W) (ha:PA X (e::es) t) (hdb:(x == ("__debug__" : Str))=false)
  (he:va3 (e::es) X.env=(false,eval e X.env)::va3 es X.env) (hpl:(vd2 pos (va3 es X.env)).any (·.1)=false):PE X (.Call (.Name x p) (e::es) [] pos) (qfv sp W t):=by
 intro pins s σ H Q I h
 refine vi4 (zbt I hg hm ?_ hdb)
 refine PySem.W.callWith_K (h₀:=X.base) I.ok.mod.kin hk (thn (ha pos pins s σ H _ I h) λ us s1 ⟨vs,H1,I1,r,q⟩=>⟨I1.kIn,?_⟩) he hpl
 have q':sp vs H1 Q (XEof (W σ)):=q
 have hl:(us++[]).length=ps.length:=by rw [jg6,<- r.length];exact F.len _ _ _ _ q'
 have hbd:=hb s1 us I1.kIn hl
 rw [jg6] at hbd
 refine wpAny_call (codeAny_mono (F.run X.A X.stack s1 H1 ⟨us,[]⟩ us vs Q (XEof (W σ)) hr I1.env0 hbd r q') λ r s' hq=>?_)
 cases r with
 | error e=>exact hx pins σ H1 s1 e s' I1 hq
 | ok fl=>
  cases fl with
  | ret u=>exact I1.after hq
  | next=>exact ve1 hq
  | brk=>exact ve1 hq
  | cont=>exact ve1 hq
end
def zzl (cells:List (Str×Addr)):List (Str×vc8)->List (Str×Addr)->List (Str×Addr)
 | [],cs=>cs
 | (n,k)::r,cs=>if k == .free then zzl cells r ((n,(cells.lookup n).getD 0)::cs) else zzl cells r cs
theorem zvy {scope:vd0}{env:Env} (h:∀ x∈scope.names,x.2=.free->∃ c,env.cells.lookup x.1=some c):closureFor scope env=pure (zzl env.cells scope.names []):=by
 unfold closureFor
 have all:∀ (l:List (Str×vc8)) (cs:List (Str×Addr)),(∀ x∈l,x.2=.free->∃ c,env.cells.lookup x.1=some c) ->
   (forIn l cs λ (x:Str×vc8) (cs:List (Str×Addr))=>if (x.2 == NameKind.free)=true then (do let a<-cellOf env x.1;pure (ForInStep.yield ((x.1,a)::cs))) else pure (ForInStep.yield cs):Sem (List (Str×Addr)))=pure (zzl env.cells l cs):=by
  intro l
  induction l with
  | nil=>intro cs _;rfl
  | cons x r ih=>
   intro cs hl
   obtain ⟨n,k⟩:=x
   rw [jm3]
   have ih':=λ cs=>ih cs λ y hy=>hl y (ja0 _ hy)
   by_cases hk:(k == NameKind.free)=true
   ·obtain ⟨c,hc⟩:=hl (n,k) ja2 (by simpa using hk)
    have e1:cellOf env n=pure c:=by unfold cellOf;rw [hc]
    rw [if_pos hk,e1]
    simp only [pure_bind]
    rw [ih',zzl,if_pos hk,hc]
    rfl
   ·rw [if_neg hk]
    simp only [pure_bind]
    rw [ih',zzl,if_neg hk]
 have:=all scope.names [] h
 simp only [bind_pure] at this ⊢
 exact this
theorem zqw (cells:List (Str×Addr)) (x:Str) (c:Addr):∀ (l:List (Str×vc8)) (cs:List (Str×Addr)),(∀ y∈l,y.2=.free->∃ c,cells.lookup y.1=some c)->(cs.lookup x=some c->cells.lookup x=some c)->(zzl cells l cs).lookup x=some c->cells.lookup x=some c
 | [],cs,_,h,e=>h e
 | (n,k)::r,cs,hl,h,e=>by
  unfold zzl at e
  split at e
  ·rename_i hk
   refine zqw cells x c r _ (λ y hy=>hl y (ja0 _ hy)) (λ e'=>?_) e
   rw [jc7] at e'
   split at e'
   ·rename_i hx
    obtain ⟨c',hc⟩:=hl (n,k) ja2 (by simpa using hk)
    rw [hc] at e'
    cases e'
    rw [eq_of_beq hx];exact hc
   ·exact h e'
  ·exact zqw cells x c r cs (λ y hy=>hl y (ja0 _ hy)) h e
theorem zki (cells:List (Str×Addr)) (x:Str):∀ (l:List (Str×vc8)) (cs:List (Str×Addr)),(∃ c,cs.lookup x=some c)->∃ c,(zzl cells l cs).lookup x=some c
 | [],cs,h=>h
 | (n,k)::r,cs,h=>by
  unfold zzl
  split
  ·refine zki cells x r _ ?_
   rw [jc7]
   split
   ·exact ⟨_,rfl⟩
   ·exact h
  ·exact zki cells x r cs h
theorem zys (cells:List (Str×Addr)) (x:Str):∀ (l:List (Str×vc8)) (cs:List (Str×Addr)),(x,NameKind.free)∈l->∃ c,(zzl cells l cs).lookup x=some c
 | [],_,h=>nomatch h
 | (n,k)::r,cs,h=>by
  unfold zzl
  rcases ja9.mp h with e | e
  ·cases e
   rw [if_pos (show (NameKind.free == NameKind.free)=true by decide)]
   exact zki cells x r _ ⟨_,by rw [jc7,beq_self_eq_true]⟩
  ·split
   ·exact zys cells x r _ e
   ·exact zys cells x r cs e
theorem zyt:∀ (names:List (Str×vc8)) (n:Nat) (acc:List (Str×Addr)) (x:Str) (c:Addr),(vc3 n names acc).lookup x=some c->acc.lookup x=some c\/(n<=c/\(x,NameKind.cell)∈names)
 | [],n,acc,x,c,h=>.inl h
 | (m,k)::r,n,acc,x,c,h=>by
  unfold vc3 at h
  split at h
  ·rename_i hk
   have hk':k=.cell:=by simpa using hk
   rcases zyt r _ _ x c h with z | ⟨z,y⟩
   ·rw [jc7] at z
    split at z
    ·rename_i hx
     cases z
     exact .inr ⟨jb4 _,by rw [eq_of_beq hx,hk'];exact ja2⟩
    ·exact .inl z
   ·exact .inr ⟨jd8 z,ja0 _ y⟩
  ·rcases zyt r _ _ x c h with z | ⟨z,y⟩
   ·exact .inl z
   ·exact .inr ⟨z,ja0 _ y⟩
theorem zpe:∀ (names:List (Str×vc8)) (n:Nat) (acc:List (Str×Addr)) (x:Str),(x,NameKind.cell)∉names->(vc3 n names acc).lookup x=acc.lookup x
 | [],n,acc,x,h=>rfl
 | (m,k)::r,n,acc,x,h=>by
  unfold vc3
  split
  ·rename_i hk
   have hk':k=.cell:=by simpa using hk
   rw [zpe r _ _ x λ z=>h (ja0 _ z),jc7]
   split
   ·rename_i hx
    exact absurd (by rw [eq_of_beq hx,hk'];exact ja2) h
   ·rfl
  ·exact zpe r _ _ x λ z=>h (ja0 _ z)
theorem zhy:∀ (names:List (Str×vc8)) (n:Nat) (acc:List (Str×Addr)) (x:Str),(x,NameKind.cell)∈names->∃ c,(vc3 n names acc).lookup x=some c/\n<=c
 | [],n,acc,x,h=>nomatch h
 | (m,k)::r,n,acc,x,h=>by
  by_cases hr:(x,NameKind.cell)∈r
  ·unfold vc3
   split
   ·obtain ⟨c,e,l⟩:=zhy r (n + 1) ((m,n)::acc) x hr
    exact ⟨c,e,jd8 l⟩
   ·exact zhy r n acc x hr
  ·rcases ja9.mp h with e | e
   ·cases e
    unfold vc3
    rw [if_pos (by decide),zpe r _ _ _ hr,jc7,beq_self_eq_true]
    exact ⟨n,rfl,jb4 _⟩
   ·exact absurd e hr
theorem qdm:∀ (names:List (Str×vc8)) (n:Nat) (acc:List (Str×Addr)),(∀ x y c,acc.lookup x=some c->acc.lookup y=some c->x=y)->(∀ x c,acc.lookup x=some c->c < n)->∀ x y c,(vc3 n names acc).lookup x=some c->(vc3 n names acc).lookup y=some c->x=y
 | [],n,acc,hi,_,x,y,c,h1,h2=>hi x y c h1 h2
 | (m,k)::r,n,acc,hi,hl,x,y,c,h1,h2=>by
  unfold vc3 at h1 h2
  split at h1
  ·rename_i hk
   rw [if_pos hk] at h2
   refine qdm r (n + 1) ((m,n)::acc) (λ x y c h1 h2=>?_) (λ x c h=>?_) x y c h1 h2
   ·rw [jc7] at h1 h2
    split at h1
    ·rename_i e1
     cases h1
     split at h2
     ·rename_i e2
      rw [eq_of_beq e1,eq_of_beq e2]
     ·exact absurd (hl y _ h2) (jd9 _)
    ·split at h2
     ·cases h2
      exact absurd (hl x _ h1) (jd9 _)
     ·exact hi x y c h1 h2
   ·rw [jc7] at h
    split at h
    ·cases h;exact jh7 _
    ·exact jh2 (hl x c h)
  ·rename_i hk
   rw [if_neg hk] at h2
   exact qdm r n acc hi hl x y c h1 h2
theorem zfq:∀ (names:List (Str×vc8)) (h:Heap) (acc:List (Str×Addr)) (x:Str) (c:Addr),(vc3 h.objs.size names acc).lookup x=some c->acc.lookup x=some c\/(pushCells h names).IsCell c none
 | [],h,acc,x,c,e=>.inl e
 | (m,k)::r,h,acc,x,c,e=>by
  unfold vc3 at e
  unfold pushCells
  split at e
  ·rename_i hk
   rw [if_pos hk]
   have hs:(h.push { cls:=.type "cell",data:=.cell none }).objs.size=h.objs.size + 1:=vg2 ..
   have e':(vc3 (h.push { cls:=.type "cell",data:=.cell none }).objs.size r ((m,h.objs.size)::acc)).lookup x=some c:=by rw [hs];exact e
   rcases zfq r _ _ x c e' with z | z
   ·rw [jc7] at z
    split at z
    ·cases z
     exact .inr ⟨_,vk4 _ _ _ _ (vb1 _ rfl),rfl⟩
    ·exact .inl z
   ·exact .inr z
  ·rename_i hk
   rw [if_neg hk]
   exact zfq r h acc x c e
theorem zmg {M:Model}{A:vc0}{E:va0->va1->Prop}{s:va1}{scope:vd0}{globals:Addr}{cl:List (Str×Addr)}{qual:Str}{func:Option Addr}{code:va0}{around:Env}{builtins:Addr}{Q:Env->va1->Prop}
  (hQ:Q (newEnv scope s.heap.objs.size globals (vc3 (s.heap.objs.size + 1) scope.names cl) qual func code (some around) builtins) { s with heap:=pushCells (s.heap.push { cls:=.type "dict",data:=.dict #[] }) scope.names }):
  vb2 M A (vl6 scope globals cl [] qual func code (some around) builtins) Q E s:=by
 simp only [vl6,jl0,if_true]
 refine va7 (wpAny_alloc ?_)
 refine va7 (wpAny_layCells _ (λ name kind cells=>by cases hkc:kind == NameKind.cell <;> simp [hkc]) _ _ _ _ ?_)
 rw [show ({ s with heap:=s.heap.push { cls:=.type "dict",data:=.dict #[] } }:va1).heap.objs.size=s.heap.objs.size + 1 from vg2 ..]
 exact va7 (vb0 (vb0 hQ))
def zmy (X:Cx) (scope:vd0) (C:Addr):List (Str×Addr):=vc3 (C + 1) scope.names (zzl X.env.cells scope.names [])
def zql (X:Cx) (s2:va1) (H2:Hp) (scope:vd0) (C:Addr) (N':List Str) (fp:List Addr) (pins:List (Addr×Obj)):Cx:=
 { X with N:=N',s₀:=s2,H₀:=H2,env:=compEnvC scope (zmy X scope C) C X.env,outer:=X.stack,stack:=X.stack,ex:=fp,fn:=λ x=>scope.names.contains (x,NameKind.cell),pn:=X.pn++pins,xe:=λ _ _=>False }
structure CompOk (X:Cx) (scope:vd0) (N':List Str) (k:Nat):Prop where
 kind:scope.kind=.function
 dis:∀ x,(x,NameKind.free)∈scope.names->(x,NameKind.cell)∉scope.names
 names:∀ x∈scope.names,x.2=.local->scope.names.lookup x.1=some .local
 len:N'.length=X.N.length + k
 free:∀ x∈scope.names,x.2=.free->X.env.kindOf x.1=some .cell\/X.env.kindOf x.1=some .free
 kinds:∀ x,(vi8 scope X.env).names.lookup x=some .cell\/(vi8 scope X.env).names.lookup x=some .free->(x,NameKind.free)∈scope.names\/(x,NameKind.cell)∈scope.names
 capt:∀ (i:Nat) (x:Str),i < X.N.length->N'[i]?=some x->Vis (vi8 scope X.env) x->X.N[i]?=some x/\Vis X.env.scope x/\(x,NameKind.free)∈scope.names/\(vi8 scope X.env).names.lookup x≠some .local
section
variable {X:Cx}{scope:vd0}{N':List Str}{k:Nat}{pins:List (Addr×Obj)}{σ:St}{H2:Hp}{s2:va1}{fp:List Addr}{C:Addr}
theorem CompOk.cells (c:CompOk X scope N' k) (I:Inv X pins σ H2 s2):∀ x∈scope.names,x.2=.free->∃ a,X.env.cells.lookup x.1=some a:=λ x hx hf=>I.ok.has x.1 (c.free x hx hf)
theorem CompOk.cl (c:CompOk X scope N' k) (I:Inv X pins σ H2 s2) {x:Str}{a:Addr} (h:(zmy X scope C).lookup x=some a):X.env.cells.lookup x=some a\/(C + 1<=a/\(x,NameKind.cell)∈scope.names):=
 (zyt _ _ _ x a h).imp (λ z=>zqw _ x a _ [] (c.cells I) (λ z=>nomatch z) z) id
theorem CompOk.old (c:CompOk X scope N' k) (I:Inv X pins σ H2 s2) {x:Str}{a:Addr} (h:X.env.cells.lookup x=some a):a < s2.heap.objs.size:=by
 obtain ⟨v,o,ho,_⟩:=I.cell x a h
 exact va5 ho
theorem CompOk.cap (c:CompOk X scope N' k) {x:Str} (h:(x,NameKind.free)∈scope.names):∃ a,(zmy X scope C).lookup x=some a/\(zzl X.env.cells scope.names []).lookup x=some a:=by
 obtain ⟨a,ha⟩:=zys X.env.cells x scope.names [] h
 exact ⟨a,(zpe _ _ _ x (c.dis x h)).trans ha,ha⟩
theorem CompOk.ok (c:CompOk X scope N' k) (I:Inv X pins σ H2 s2) (hf:∀ b∈fp,FpOk X pins H2 b) (hC:s2.heap.objs.size<=C) (hfp:∀ b∈fp,b < s2.heap.objs.size):(zql X s2 H2 scope C N' fp pins).Ok where
 mod:=I.ok.mod
 kind:=c.kind
 glob:=I.ok.glob
 blt:=I.ok.blt
 above:=hC
 inj:=λ x y a h1 h2=>qdm scope.names (C + 1) _ (λ x y a h1 h2=>I.ok.inj x y a (zqw _ x a _ [] (c.cells I) (λ z=>nomatch z) h1) (zqw _ y a _ [] (c.cells I) (λ z=>nomatch z) h2))
  (λ x a h=>jh2 (ja7 (c.old I (zqw _ x a _ [] (c.cells I) (λ z=>nomatch z) h)) hC)) x y a h1 h2
 has:=λ x hx=>(c.kinds x hx).elim (λ z=>let ⟨a,h,_⟩:=c.cap (C:=C) z;⟨a,h⟩) λ z=>let ⟨a,h,_⟩:=zhy scope.names (C + 1) (zzl X.env.cells scope.names []) x z;⟨a,h⟩
 cab:=λ x a h e=>by
  have hx:(x,NameKind.cell)∈scope.names:=by
   have h':scope.names.contains (x,NameKind.cell)=true:=h
   simpa using h'
  obtain ⟨a',e',l⟩:=zhy scope.names (C + 1) (zzl X.env.cells scope.names []) x hx
  have e2:(vc3 (C + 1) scope.names (zzl X.env.cells scope.names [])).lookup x=some a:=e
  rw [e'] at e2
  cases e2
  exact jc4 hC (jd8 l)
 hd:=I.ok.hd
 frames:=I.ok.frames
 stk:=.inl rfl
 exf:=λ b hb=>⟨jc3 (ja7 (hfp b hb) hC),λ x a h=>(c.cl I h).elim (λ z=>(hf b hb).2.2.2.2.1 x a z) λ z=>jg3 (ja7 (hfp b hb) (jc4 hC (jd8 z.1)))⟩
 bs:=I.bs
 bsz:=jc4 I.ok.bsz I.sz
 noex:=λ b o e hb=>by
  rcases (hf b hb).2.2.2.1 with z | z
  ·exact I.ok.noex b o e z
  ·exact absurd (ja7 (va5 e) (jc4 I.ok.bsz z)) (jd9 _)
 exfs:=λ b hb hz=>by
  rcases ja9.mp (I.stkSub b hz) with z | z
  ·exact (hf b hb).2.1 z
  ·exact (hf b hb).2.2.1 z
 funs:=I.stack
 frf:=I.stkFree
theorem CompOk.inv (c:CompOk X scope N' k) (I:Inv X pins σ H2 s2) (hf:∀ b∈fp,FpOk X pins H2 b) (hfp:∀ b∈fp,b < s2.heap.objs.size) {H3:Hp}{h':Heap}{t':Nat}{m:Str->Option va0}{D:Addr} (hCD:D≠C) (hD:s2.heap.objs.size<=D) (hC:s2.heap.objs.size<=C)
  (keep:∀ b o,s2.heap.get? b=some o->h'.get? b=some o) (ns:h'.Ns C m) (hH:∀ b,b≠D->H3 b=H2 b) (hok:HOk X.prog X.w H3 h') (hC3:H3 C=none) (hDC:D < C) (hcN:∀ x a,(zmy X scope C).lookup x=some a->C + 1<=a->h'.IsCell a none):
  Inv (zql X s2 H2 scope C N' fp pins) [] (σ++ja6 k none) H3 { s2 with heap:=h',toks:=t' } where
 ok:=c.ok I hf hC hfp
 os:=rfl
 bare:=I.bare
 base:=by
  have nD:∀ b o,s2.heap.get? b=some o->b≠D:=λ b o e=>jc3 (ja7 (va5 e) hD)
  refine ⟨λ b o e _ _ _=>keep b o e,λ b o e _ _ _=>⟨o.slots,keep b o e⟩,λ b o e n _=>by rw [hH b (nD b o e)];exact n,λ b o e _=>⟨o,keep b o e⟩,λ b xs e=>?_,λ b o u e=>?_,λ b ps e=>⟨#[],?_⟩⟩
  ·have e:H2 b=some (.tup xs):=e
   rw [hH b (λ z=>by rw [z,I.hok.fresh hD] at e;cases e)];exact e
  ·have e:H2 b=some (.frz o u):=e
   rw [hH b (λ z=>by rw [z,I.hok.fresh hD] at e;cases e)];exact e
  ·have e:H2 b=some (.tbl ps):=e
   rw [hH b (λ z=>by rw [z,I.hok.fresh hD] at e;cases e)];simpa using e
 loc:=by
  refine ⟨m,ns,λ i x v e1 e2 e3=>?_⟩
  have hi:i < σ.length:=by
   by_cases hi:i < σ.length
   ·exact hi
   ·rw [jc5 (by omega),jd1] at e2
    split at e2 <;> cases e2
  rw [jb7 hi] at e2
  obtain ⟨n1,n2,n3,n4⟩:=c.capt i x (by rw [<- I.len];exact hi) e1 e3
  obtain ⟨m0,ns0,hl⟩:=I.loc
  obtain ⟨u,r,lk⟩:=hl i x v n1 e2 n2
  refine ⟨u,r,.inr ⟨?_,?_⟩⟩
  ·rcases e3 with z | z | z
   ·exact absurd z n4
   ·exact .inl z
   ·exact .inr z
  ·obtain ⟨a,ha,hb⟩:=c.cap (C:=C) n3
   have ha':=zqw _ x a _ [] (c.cells I) (λ z=>nomatch z) hb
   refine ⟨a,ha,?_⟩
   rcases lk with ⟨hk,_⟩ | ⟨hk,a2,ha2,hc⟩
   ·rcases c.free _ n3 rfl with z | z <;> rw [hk] at z <;> cases z
   ·rw [ha'] at ha2;cases ha2
    obtain ⟨o,ho,hd⟩:=hc
    exact ⟨o,keep _ _ ho,hd⟩
 cell:=λ x a h=>by
  rcases c.cl I h with z | z
  ·obtain ⟨v,o,ho,hd⟩:=I.cell x a z
   exact ⟨v,o,keep _ _ ho,hd⟩
  ·exact ⟨none,hcN x a h z.1⟩
 free:=hC3
 freeC:=λ x a h=>by
  rcases c.cl I h with ha | z
  ·obtain ⟨v,o,ho,hd⟩:=I.cell x a ha
   rw [hH a (jc3 (ja7 (va5 ho) hD))]
   exact I.freeC x a ha
  ·rw [hH a (jg3 (ja7 hDC (jd8 z.1)))]
   exact I.hok.fresh (jc4 hC (jd8 z.1))
 pin:=λ p hp=>by
  have hp':p∈X.pn++pins:=by simpa [zql] using hp
  obtain ⟨e,n,ne,nf,d⟩:=I.pin p hp'
  have hlt:=va5 e
  exact ⟨keep _ _ e,by rw [hH p.1 (jc3 (ja7 hlt hD))];exact n,jc3 (ja7 hlt hC),λ z=>(ja9.mp (I.stkSub p.1 z)).elim ne nf,d⟩
 hok:=hok
 len:=by
  show (σ++ja6 k none).length=N'.length
  rw [jb8,je0,c.len,I.len]
def PTs (X:Cx) (ifs:List Expr) (t:TT):Prop:=
 ∀ (pins:List (Addr×Obj)) (s:va1) (σ:St) (H:Hp) (Q:Bool->Hp->Prop),Inv X pins σ H s->t σ H Q ->
  vb2 (vb3 X.prog X.w) X.A (forIn ifs true λ c r=>if r=true then do let ok<-isTrue c X.env (eval c X.env);pure (ForInStep.yield ok) else pure (ForInStep.yield r)) (TP X pins σ Q) X.xe s
theorem qhz {X:Cx}:PTs X [] (λ _ H Q=>Q true H):=λ _ _ _ H _ I h=>vb0 ⟨H,I,h⟩
theorem qhy {X:Cx}{c:Expr}{t:TT} (hc:PT X c t):PTs X [c] t:=by
 intro pins s σ H Q I h
 rw [jm3]
 refine va7 ?_
 rw [if_pos rfl]
 refine va7 (thn (hc pins s σ H Q I h) λ b s1 q=>vb0 ?_)
 exact vb0 q
theorem CompOk.again (c:CompOk X scope N' k) (I:Inv X pins σ H2 s2) {σ':St}{H':Hp}{s':va1}{ps:List (Addr×Obj)} (hfp:∀ b∈fp,FpOk X pins H2 b) (J:Inv (zql X s2 H2 scope C N' fp pins) ps σ' H' s'):Inv (zql X s2 H2 scope C N' fp pins) ps (σ++ja6 k none) H' s' where
 ok:=J.ok
 os:=J.os
 bare:=J.bare
 base:=J.base
 loc:=by
  obtain ⟨m,ns,_⟩:=J.loc
  refine ⟨m,ns,λ i x v e1 e2 e3=>?_⟩
  have hi:i < σ.length:=by
   by_cases hi:i < σ.length
   ·exact hi
   ·rw [jc5 (by omega),jd1] at e2
    split at e2 <;> cases e2
  rw [jb7 hi] at e2
  obtain ⟨n1,n2,n3,n4⟩:=c.capt i x (by rw [<- I.len];exact hi) e1 e3
  obtain ⟨m0,ns0,hl⟩:=I.loc
  obtain ⟨u,r,lk⟩:=hl i x v n1 e2 n2
  refine ⟨u,r,.inr ⟨?_,?_⟩⟩
  ·rcases e3 with z | z | z
   ·exact absurd z n4
   ·exact .inl z
   ·exact .inr z
  ·obtain ⟨a,ha,hb⟩:=c.cap (C:=C) n3
   have ha':=zqw _ x a _ [] (c.cells I) (λ z=>nomatch z) hb
   refine ⟨a,ha,?_⟩
   rcases lk with ⟨hk,_⟩ | ⟨hk,a2,ha2,hc⟩
   ·rcases c.free _ n3 rfl with z | z <;> rw [hk] at z <;> cases z
   ·rw [ha'] at ha2;cases ha2
    obtain ⟨o,ho,hd⟩:=hc
    obtain ⟨sl,ho'⟩:=J.base.any (b:=a) (ob:=o) ho (I.freeC x a ha') λ z=>(hfp a z).2.2.2.2.1 x a ha' rfl
    exact ⟨_,ho',hd⟩
 cell:=J.cell
 free:=J.free
 freeC:=J.freeC
 pin:=J.pin
 hok:=J.hok
 len:=by
  show (σ++ja6 k none).length=N'.length
  rw [jb8,je0,c.len,I.len]
theorem zvl {prog:va8}{w:vb7}{A:vc0}{R:Result->va1->Prop}{s:va1}{elt target iter:Expr}{ifs:List Expr}{scope:vd0}{pos:Pos}{it acc:va0}{env:Env} (I:Nat->va1->Prop)
  (turn:∀ n s,I n s->vb2 (vb3 prog w) A (pyNext it) (λ r s₁=>match r with
   | none=>R (.ok .next) s₁
   | some v=>vb2 (vb3 prog w) A (vh5 target it v) (λ _ s₁'=>vb2 (vb3 prog w) A (vk9 target env v) (λ _ s₂=>
     vb2 (vb3 prog w) A (forIn ifs true λ c r=>if r=true then do let ok<-isTrue c env (eval c env);pure (ForInStep.yield ok) else pure (ForInStep.yield r)) (λ ok s₃=>
      if ok=true then vb2 (vb3 prog w) A (eval elt env) (λ x s₄=>
       vb2 (vb3 prog w) A (call (.builtin "list.append") [acc,x]) (λ _ s₅=>∃ m,m < n/\I m s₅) (λ _ _=>False) s₄) (λ _ _=>False) s₃
      else ∃ m,m < n/\I m s₃) (λ _ _=>False) s₂) (λ _ _=>False) s₁') (λ _ _=>False) s₁) (λ _ _=>False) s)
  (n:Nat) (h:I n s):
  vi9 (vb3 prog w) A (.compLoop (.ListComp elt [⟨target,iter,ifs,0⟩] scope pos) 0 it acc env) R s:=by
 refine codeAny_loop rfl I (λ n s hI=>?_) n h
 show vb2 _ A ((compTurn (.ListComp elt [⟨target,iter,ifs,0⟩] scope pos) 0 it acc env).onRaise (λ x=>do noteFrame x env;theTreesLotGoes x)) _ _ s
 refine wpAny_noted ?_
 rw [compTurn_list]
 refine va7 (wpAny_standAt (va7 (vd1 (turn n s hI) (λ r s₁ h₁=>?_) λ _ _ h'=>h'.elim)))
 cases r with
 | none=>exact vb0 h₁
 | some v=>
  refine va7 (vd1 h₁ (λ _ s₁' h₁'=>?_) λ _ _ h'=>h'.elim)
  refine va7 (vd1 h₁' (λ _ s₂ h₂=>va7 (vd1 h₂ (λ ok s₃ h₃=>?_) λ _ _ h'=>h'.elim)) λ _ _ h'=>h'.elim)
  cases ok with
  | false=>exact vb0 ⟨rfl,h₃⟩
  | true=>
   exact va7 (va7 (vd1 h₃ (λ x s₄ h₄=>va7 (vd1 h₄ (λ _ s₅ h₅=>vb0 (vb0 ⟨rfl,h₅⟩)) λ _ _ h'=>h'.elim)) λ _ _ h'=>h'.elim))
theorem zjv {elt iter tg:Expr}{ifs:List Expr}{pos:Pos}{J:It}{it:Addr}{tn:Nat->Heap->Prop}{g:TG}{tc:TT}{te:TE}{RR:va0->Addr->Result->va1->Prop}{Q:VK}{E:va0->va1->Prop}
  (c:CompOk X scope N' k) (hcalm:X.calm=true) (I:Inv X pins σ H2 s2) (T:Turn X.prog X.w X.K tg J fp it tn) (st:tn 0 s2.heap) (hf:∀ b∈fp,FpOk X pins H2 b)
  (hg:∀ C fp,PG (zql X s2 H2 scope C N' fp pins) tg g) (hc:∀ C fp,PTs (zql X s2 H2 scope C N' fp pins) ifs tc) (he:∀ C fp,PE (zql X s2 H2 scope C N' fp pins) elt te)
  (h:∀ D,H2 D=none->∃ W:Nat->Nat->List V->Hp->Prop,(∃ m,W 0 m [] (upd H2 D (.lst [])))/\∀ i m ys H,W i m ys H->H D=some (.lst ys) /\
   ((J.stop i H/\Q (.ref D) H)\/(J.go i H/\∀ x H',J.yld i H x H'->g x (σ++ja6 k none) H' λ σ2 H2=>tc σ2 H2 λ b H3=>if b=true then te σ2 H3 λ y H4=>H4 D=some (.lst ys)/\ys.length < va2/\∃ m',m' < m/\W (i + 1) m' (ys++[y]) (upd H4 D (.lst (ys++[y]))) else ∃ m',m' < m/\W (i + 1) m' ys H3)))
  (hRR:∀ D C σ' H' s',s2.heap.objs.size<=C->Inv (zql X s2 H2 scope C N' fp pins) [] σ' H' s'->Q (.ref D) H'->RR (.ref D) C (.ok .next) s')
  :
  vb2 (vb3 X.prog X.w) X.A (newList []) (λ acc s₃=>vb2 (vb3 X.prog X.w) X.A (vl6 scope X.env.globals (zzl X.env.cells scope.names []) [] X.env.qual none .none (some X.env)) (λ cenv s₄=>
   vi9 (vb3 X.prog X.w) X.A (.compStart (.ListComp elt [⟨tg,iter,ifs,0⟩] scope pos) 0 (.ref it) acc { cenv with scope:=vi8 scope X.env }) (RR acc cenv.locals) s₄) E s₃) E s2:=by
 refine ve6 (zmg ?_)
 dsimp only
 generalize hH2:s2.heap.push { cls:=.type "list",dict:=none,data:=.seq ([]:List va0).toArray }=HP
 obtain ⟨h₁,hh₁⟩:∃ h₁,h₁=pushCells (HP.push { cls:=.type "dict",data:=.dict #[] }) scope.names:=⟨_,rfl⟩
 rw [<- hh₁]
 have kk:∀ b o,HP.get? b=some o->h₁.get? b=some o:=λ b o e=>by rw [hh₁];exact vk4 _ _ b o (va4 _ e)
 have hns₁:h₁.Ns HP.objs.size (λ _=>none):=by rw [hh₁];exact (Heap.Ns.new HP (.type "dict")).keeps (vk4 _ _)
 have hC:HP.objs.size=s2.heap.objs.size + 1:=by rw [<- hH2,vg2]
 have hDC:s2.heap.objs.size≠HP.objs.size:=by rw [hC];exact jc3 (jh7 _)
 have hCle:s2.heap.objs.size<=HP.objs.size:=by rw [hC];exact Nat.le_succ _
 have hfp:∀ b∈fp,b < s2.heap.objs.size:=λ b hb=>by
  obtain ⟨o,e,_⟩:=T.obj 0 _ st b hb
  exact va5 e
 have below:∀ b,b < s2.heap.objs.size->b≠HP.objs.size:=λ b hb=>by rw [hC];exact jc3 (jh2 hb)
 have old:∀ b o,s2.heap.get? b=some o->h₁.get? b=some o:=λ b o e=>kk b o (hH2 ▸ va4 _ e)
 have hacc:h₁.get? s2.heap.objs.size=some { cls:=.type "list",dict:=none,data:=.seq ([]:List va0).toArray }:=kk _ _ (hH2 ▸ vb1 _ rfl)
 have fD:H2 s2.heap.objs.size=none:=I.hok.fresh (jb4 _)
 obtain ⟨W,⟨m0,w0⟩,hW⟩:=h _ fD
 have hok3:HOk X.prog X.w (upd H2 s2.heap.objs.size (.lst [])) h₁:=I.hok.laid old (jb4 _) ⟨jf7 _,[],0,.nil,hacc⟩
 have st1:tn 0 h₁:=T.keep _ _ _ st λ b hb o e=>old b o e
 have I3:Inv (zql X s2 H2 scope HP.objs.size N' fp pins) [] (σ++ja6 k none) (upd H2 s2.heap.objs.size (.lst [])) { s2 with heap:=h₁ }:=
  c.inv I hf hfp (t':=s2.toks) hDC (jb4 _) hCle old hns₁ (λ b hb=>zqf hb) hok3 (by rw [zqf (vc1 hDC)];exact I.hok.fresh hCle) (by rw [hC];exact jh7 _) (λ x a h l=>by
   have hs:(HP.push { cls:=.type "dict",data:=.dict #[] }).objs.size=HP.objs.size + 1:=vg2 ..
   have h':(vc3 (HP.push { cls:=.type "dict",data:=.dict #[] }).objs.size scope.names (zzl X.env.cells scope.names [])).lookup x=some a:=by rw [hs];exact h
   rcases zfq scope.names _ _ x a h' with z | z
   ·exact absurd (ja7 (c.old I (zqw _ x a _ [] (c.cells I) (λ z=>nomatch z) z)) (jc4 hCle (jd8 l))) (jd9 _)
   ·rw [hh₁];exact z)
 have fx:∀ {H':Hp},(∀ b∈fp,H' b=none)->∀ b∈fp,FpOk (zql X s2 H2 scope HP.objs.size N' fp pins) [] H' b:=λ hn b hb=>by
  obtain ⟨f0,f1,f2,f3,f4,f5⟩:=hf b hb
  refine ⟨hn b hb,jc3 (ja7 (hfp b hb) hCle),λ hz=>?_,.inl hb,λ x a h=>(c.cl I h).elim (λ z=>f4 x a z) λ z=>jg3 (ja7 (hfp b hb) (jc4 hCle (jd8 z.1))),λ p hp=>f5 p (by simpa [zql] using hp)⟩
  rcases ja9.mp (I.stkSub b hz) with z | z
  ·exact f1 z
  ·exact f2 z
 have f0:∀ b∈fp,(upd H2 s2.heap.objs.size (.lst [])) b=none:=λ b hb=>by rw [zqf (jc3 (hfp b hb))];exact (hf b hb).1
 have loop:∀ s₃:va1,s₃={ s2 with heap:=h₁ } ->
   vi9 (vb3 X.prog X.w) X.A (.compLoop (.ListComp elt [⟨tg,iter,ifs,0⟩] scope pos) 0 (.ref it) (.ref s2.heap.objs.size) (compEnvC scope (zmy X scope HP.objs.size) HP.objs.size X.env))
    (RR (.ref s2.heap.objs.size) HP.objs.size) s₃:=by
  rintro s₃ rfl
  refine zvl (λ n s'=>∃ i H' ys,Inv (zql X s2 H2 scope HP.objs.size N' fp pins) [] (σ++ja6 k none) H' s'/\tn i s'.heap/\(∀ b∈fp,H' b=none)/\W i n ys H') ?_ m0 ⟨0,_,[],I3,st1,f0,w0⟩
  rintro n s4 ⟨i,H4,ys,I4,st4,fr4,w4⟩
  obtain ⟨hD4,hcase⟩:=hW i n ys H4 w4
  rcases hcase with ⟨stop,qn⟩ | ⟨go,step⟩
  ·refine thn (T.done (zql X s2 H2 scope HP.objs.size N' fp pins) rfl rfl rfl hcalm i [] s4 _ H4 (λ _ _=>False) I4 (fx fr4) st4 stop) λ r s5 ⟨hr,I5⟩=>?_
   subst hr
   exact hRR _ _ _ _ _ hCle I5 qn
  ·refine thn (T.item (zql X s2 H2 scope HP.objs.size N' fp pins) rfl rfl rfl hcalm i [] s4 _ H4 (λ _ _=>False) I4 (fx fr4) st4 go) λ r s5 ⟨u,hr,h5⟩=>?_
   subst hr
   refine thn h5 λ _ s6 ⟨x,H6,I6,r6,y6,st6,fr6⟩=>?_
   have I6':=I6.pinned (fx fr6) (T.obj _ _ st6)
   have stays:∀ {σ':St}{H':Hp}{s':va1},Inv (zql X s2 H2 scope HP.objs.size N' fp pins) ([]++zpy fp s6.heap) σ' H' s'->Inv (zql X s2 H2 scope HP.objs.size N' fp pins) [] (σ++ja6 k none) H' s'/\tn (i + 1) s'.heap/\∀ b∈fp,H' b=none:=λ {σ' H' s'} J=>by
    refine ⟨c.again I hf J.unpinned,T.keep _ _ _ st6 λ b hb o e=>(J.pin (b,o) (ja1 _ (ja1 _ (zzz hb e)))).1,λ b hb=>?_⟩
    obtain ⟨o,e,d⟩:=T.obj _ _ st6 b hb
    exact (J.pin (b,o) (ja1 _ (ja1 _ (zzz hb e)))).2.1
   refine thn (hg _ _ _ s6 _ H6 x u _ I6' r6 (step x H6 y6)) λ _ s7 ⟨σ7,H7,I7,q7⟩=>?_
   refine thn (hc _ _ _ s7 σ7 H7 _ I7 q7) λ b s8 ⟨H8,I8,q8⟩=>?_
   cases b with
   | false=>
    rw [if_neg jc1] at q8 ⊢
    obtain ⟨m',hm,w'⟩:=q8
    obtain ⟨j1,j2,j3⟩:=stays I8
    exact ⟨m',hm,i + 1,H8,ys,j1,j2,j3,w'⟩
   | true=>
    rw [if_pos rfl] at q8 ⊢
    refine thn (he _ _ _ s8 σ7 H8 _ I8 q8) λ y s9 ⟨z,H9,I9,r9,hD9,hz9,m',hm,w'⟩=>?_
    refine thn (zyg (X:=zql X s2 H2 scope HP.objs.size N' fp pins) _ s9 σ7 H9 (.ref s2.heap.objs.size) [z] (.ref s2.heap.objs.size) [y] (λ _ H'=>H'=upd H9 s2.heap.objs.size (.lst (ys++[z]))) I9 rfl (.cons r9 .nil) ⟨_,ys,z,rfl,rfl,hD9,hz9,rfl⟩) λ _ s10 ⟨_,H10,I10,_,e10⟩=>?_
    subst e10
    obtain ⟨j1,j2,j3⟩:=stays I10
    exact ⟨m',hm,i + 1,_,_,j1,j2,j3,w'⟩
 exact codeAny_compStart_list (loop _ rfl) (T.self _ 0 _ _ _ st1 (loop _ rfl))
theorem CompOk.out (I:Inv X pins σ H2 s2) (hf:∀ b∈fp,FpOk X pins H2 b) {σ':St}{H':Hp}{s':va1} (J:Inv (zql X s2 H2 scope C N' fp pins) [] σ' H' s'):Inv X pins σ H' s':=
 I.call' (ch:=fp) J.os J.base J.hok J.bare λ b hb=>⟨(hf b hb).2.2.2.1,(hf b hb).2.1,(hf b hb).2.2.2.2.1,(hf b hb).2.2.2.2.2⟩
theorem CompOk.away (I:Inv X pins σ H2 s2) (hC:s2.heap.objs.size<=C) {σ':St}{H':Hp}{s':va1} (J:Inv X pins σ' H' s') (hC':H' C=none) {h':Heap} (sb:vj9 C s'.heap h'):Inv X pins σ' H' { s' with heap:=h' }:=by
 have lt:∀ b o,s2.heap.get? b=some o->b≠C:=λ b o e=>jc3 (ja7 (va5 e) hC)
 refine J.turned (t':=s'.toks) (it:=C) (λ b o hb e=>(sb.2 b hb).trans e) hC' (jg3 (ja7 I.lt hC)) (.inr (jc4 I.sz hC)) (λ x c h=>?_) λ p hp=>?_
 ·obtain ⟨v,o,ho,_⟩:=I.cell x c h
  exact lt c o ho
 ·exact lt p.1 p.2 (I.pin p hp).1
variable {elt iter tg:Expr}{ifs:List Expr}{pos:Pos}{wi:TI}{g:TG}{tc:TT}{te:TE}
theorem qca (c:CompOk X scope N' k) (hcalm:X.calm=true) (hi:PI X tg iter wi) (hg:∀ s2 H2 C fp pins,PG (zql X s2 H2 scope C N' fp pins) tg g) (hc:∀ s2 H2 C fp pins,PTs (zql X s2 H2 scope C N' fp pins) ifs tc)
  (he:∀ s2 H2 C fp pins,PE (zql X s2 H2 scope C N' fp pins) elt te) (hs:∀ x,vg6 iter X.env x=pure x):PE X (.ListComp elt [⟨tg,iter,ifs,0⟩] scope pos) (qae k wi g tc te):=by
 intro pins s σ H Q I h
 rw [eval_ListComp]
 refine wpAny_comprehension_free (use:=none) rfl hs (zvy (c.cells I)) c.kind c.names ?_
 refine thn (hi pins s σ H _ I h) λ v s1 h1=>thn h1 λ itv s2 h2=>?_
 obtain ⟨it,fp,tn,J,H',e,I2,T,st2,f2,W⟩:=h2
 subst e
 refine zjv (RR:=λ acc C=>compPost (vb3 X.prog X.w) X.A X.xe none (EP X pins σ Q) acc C) c hcalm I2 T st2 f2 (λ C fp=>hg s2 H' C fp pins) (λ C fp=>hc s2 H' C fp pins) (λ C fp=>he s2 H' C fp pins) W λ D C σ' H3 s' hC J3 q=>?_
 obtain ⟨m,ns,_⟩:=J3.loc
 exact ⟨m,ns,λ h' sb=>⟨.ref D,H3,CompOk.away I2 hC (CompOk.out I2 f2 J3) J3.free sb,rfl,q⟩⟩
theorem qah {i:Nat}{x:Str}{pos' spos:Pos} (hN:X.N.Nodup) (hi':X.N[i]?=some x) (hx:Loc X.env.scope x) (hfn:X.fn x=true\/X.env.scope.names.lookup x=some .local) (c:CompOk X scope N' k) (hcalm:X.calm=true) (hi:PI X tg iter wi) (hg:∀ s2 H2 C fp pins,PG (zql X s2 H2 scope C N' fp pins) tg g) (hc:∀ s2 H2 C fp pins,PTs (zql X s2 H2 scope C N' fp pins) ifs tc)
  (he:∀ s2 H2 C fp pins,PE (zql X s2 H2 scope C N' fp pins) elt te) (hs:∀ x,vg6 iter X.env x=pure x):PS X (.Assign [.Name x pos'] (.ListComp elt [⟨tg,iter,ifs,0⟩] scope pos) spos) (tAsg (qae k wi g tc te) (zyl i)):=by
 have hsw:∃ b,swapsWith (.ListComp elt [⟨tg,iter,ifs,0⟩] scope pos) (some (.Name x pos')) spos.line X.env=pure b:=⟨_,rfl⟩
 obtain ⟨b,hsw⟩:=hsw
 cases b with
 | false=>exact zgw hN hi' hx (qca c hcalm hi hg hc he hs) hsw hfn
 | true=>
  intro pins s σ H D I h
  rw [exec_Assign_Name_used _ _ _ _ hsw]
  refine va7 (wpAny_standAt (va7 ?_))
  show vb2 _ X.A (do let _<-comprehension (.ListComp elt [⟨tg,iter,ifs,0⟩] scope pos) scope X.env _ (newList []) false (eval iter X.env) (some (vk9 (.Name x pos') X.env))) _ _ s
  refine va7 (vd1 (wpAny_comprehension_free (use:=some (vk9 (.Name x pos') X.env)) (Q:=λ _ s'=>SP X pins D .next s') rfl hs (zvy (c.cells I)) c.kind c.names ?_) (λ _ s' hq=>vb0 (vb0 hq)) λ _ _ e=>e)
  refine thn (hi pins s σ H _ I h) λ v s1 h1=>thn h1 λ itv s2 h2=>?_
  obtain ⟨it,fp,tn,J,H',e,I2,T,st2,f2,W⟩:=h2
  subst e
  refine zjv (Q:=λ x H1=>zyl i x σ H1 D.nx) (RR:=λ acc C=>compPost (vb3 X.prog X.w) X.A X.xe (some (vk9 (.Name x pos') X.env)) (λ _ s'=>SP X pins D .next s') acc C) c hcalm I2 T st2 f2 (λ C fp=>hg s2 H' C fp pins) (λ C fp=>hc s2 H' C fp pins) (λ C fp=>he s2 H' C fp pins) W λ E C σ' H3 s' hC J3 q=>?_
  obtain ⟨m,ns,_⟩:=J3.loc
  have I3:=CompOk.out I2 f2 J3
  show vb2 _ X.A (vk9 (.Name x pos') X.env (.ref E)) _ _ _
  refine wpAny_assign_Name (zpq I3 hN hi' hx (v:=.ref E) rfl (λ s'' I4 hsb=>?_) hfn)
  obtain ⟨a,sb,ha⟩:=hsb
  have hCa:C≠a:=by
   rcases ha with z | z
   ·rw [z];exact jg3 (ja7 I2.lt hC)
   ·obtain ⟨v,o,ho,_⟩:=I2.cell x a z
    exact jg3 (ja7 (va5 ho) hC)
  exact ⟨m,ns.sameBut sb hCa,λ h' sb'=>⟨_,H3,CompOk.away I2 hC I4 J3.free sb',q⟩⟩
theorem qd4 {P:va8}{w:vb7}{K:Frag}{tg:Expr} (z:Str) (tk:Tok) (it:Addr):Turn P w K tg (ItS z) [it] it (λ i h=>h.IsStrIter it "str_ascii_iterator" z tk i) where
 mem:=by simp
 obj:=λ i h st b hb=>by
  have e:b=it:=by simpa using hb
  subst e
  obtain ⟨o,e,c,d⟩:=st
  exact ⟨o,e,λ v z=>by rw [d] at z;cases z⟩
 keep:=λ i h h' st k=>by
  obtain ⟨o,e,r⟩:=st
  exact ⟨o,k it (by simp) o e,r⟩
 item:=by
  intro X hP hw hK hc i pins s σ H E I hf st hg
  subst hP hw hK
  have hi:i < z.cps.size:=hg
  obtain ⟨f0,f1,f2,f3,f4,f5⟩:=hf it (by simp)
  refine wpAny_pyNext_ascii_item st (c:=z.cps[i]) (by simp [hi]) λ h' st' sb=>?_
  have I1:Inv X pins σ H { s with heap:=h',toks:=s.toks + 1 }:=I.turned (t':=s.toks + 1) (λ b o hb e=>(sb.2 b hb).trans e) f0 f1 f3 f4 f5
  obtain ⟨o,e,c,d⟩:=id st'
  exact ⟨_,rfl,qe1 (s:={ s with heap:=h',toks:=s.toks + 1 }) e c d (by decide) ⟨.str ⟨#[z.cps[i]]⟩,H,I1,⟨_,rfl⟩,⟨rfl,z.cps[i],by simp [hi],rfl⟩,st',λ b hb=>(hf b hb).1⟩⟩
 done:=by
  intro X hP hw hK hc i pins s σ H E I hf st hg
  subst hP hw hK
  have hi:z.cps.size<=i:=hg
  obtain ⟨f0,f1,f2,f3,f4,f5⟩:=hf it (by simp)
  exact wpAny_pyNext_ascii_end (I.ok.hd hc) st (by simp;omega) λ h' eb=>⟨rfl,I.turned (t':=s.toks) (λ b o hb e=>eb b o hb e) f0 f1 f3 f4 f5⟩
 self:=λ _ _ _ _ _ st h=>wpAny_pyIter_striter_ascii st h
theorem qk4 {l:Expr}{tl:TE} (hl:PE X l tl):PI X tg l (iSeq X.K tl):=by
 intro pins s σ H R I h
 refine thn (hl pins s σ H _ I h) λ v s1 ⟨x,H1,I1,r1,q1⟩=>?_
 obtain ⟨a,e,⟨⟨xs,hq⟩,q⟩ | ⟨⟨xs,hq⟩,q⟩⟩ | ⟨z,e,ha,q⟩:=q1
 ·subst e
  cases r1
  obtain ⟨its,rv,p,hz⟩:=I1.list hq
  refine wpAny_pyIter_list p.isList ?_
  refine ⟨s1.heap.objs.size,[s1.heap.objs.size],_,_,H1,rfl,I1.kept (t':=s1.toks) λ b o e=>va4 _ e,qa5 a _,⟨_,vb1 _ rfl,rfl,rfl⟩,λ b hb=>?_,q⟩
  have e:b=s1.heap.objs.size:=by simpa using hb
  subst e
  exact I1.fpOk (jb4 _) (I1.hok.fresh (jb4 _))
 ·subst e
  cases r1
  obtain ⟨its,rv,p,hz⟩:=I1.tuple hq
  refine wpAny_pyIter_tuple (show s1.heap.IsTuple a its.toArray from p) ?_
  refine ⟨s1.heap.objs.size,[s1.heap.objs.size],_,_,H1,rfl,I1.kept (t':=s1.toks) λ b o e=>va4 _ e,qab a _,⟨_,vb1 _ rfl,rfl,rfl⟩,λ b hb=>?_,q⟩
  have e:b=s1.heap.objs.size:=by simpa using hb
  subst e
  exact I1.fpOk (jb4 _) (I1.hok.fresh (jb4 _))
 ·subst e
  obtain ⟨tk,rfl⟩:=r1
  refine wpAny_pyIter_ascii ha ?_
  refine ⟨s1.heap.objs.size,[s1.heap.objs.size],_,_,H1,rfl,I1.kept (t':=s1.toks) λ b o e=>va4 _ e,qd4 z tk _,⟨_,vb1 _ rfl,rfl,rfl⟩,λ b hb=>?_,q⟩
  have e:b=s1.heap.objs.size:=by simpa using hb
  subst e
  exact I1.fpOk (jb4 _) (I1.hok.fresh (jb4 _))
end
section
variable {M:Fm}{vs:List Nat}{H:Hp}{fps:Fps}{F:List Addr}{Q:VK}
theorem zqv {k:Int}{d:Nat} (h:Leaf M H fps vs F (.int k) d Q):Q (.int k) H:=h (.int k) H [] (λ _ _ h=>h) (by rw [Own];exact ⟨rfl,rfl⟩) (λ _ z=>nomatch z)
theorem zxi {k:Bool}{d:Nat} (h:Leaf M H fps vs F (.bl k) d Q):Q (.bl k) H:=h (.bl k) H [] (λ _ _ h=>h) (by rw [Own];exact ⟨rfl,rfl⟩) (λ _ z=>nomatch z)
theorem zzh {k:Str}{d:Nat} (h:Leaf M H fps vs F (.str k) d Q):Q (.str k) H:=h (.str k) H [] (λ _ _ h=>h) (by rw [Own];exact ⟨rfl,rfl⟩) (λ _ z=>nomatch z)
theorem zwz {x:PV}{v:V} (h:Leaf M H fps vs F x (dv x) Q) (o:Own M.K H (Zv M vs fps) x 0 v []):Q v H:=h v H [] (λ _ _ h=>h) (o.dv.weak λ a z=>z.elim id λ z=>nomatch z) (λ _ z=>nomatch z)
theorem zxf {p:Addr}{o:HO} (hp:H p=none):∀ a u,H a=some u->upd H p o a=some u:=λ a u h=>by rw [zqf (λ e=>by rw [e,hp] at h;cases h)];exact h
theorem zyi {xs:List PV}{ws:List V} (h:Leaf M H fps vs F (.lst xs) 1 Q) (o:OwnL M.K H (Zv M vs fps) xs 0 ws []) {p:Addr} (hp:H p=none):Q (.ref p) (upd H p (.lst ws)):=by
 refine h (.ref p) _ [p] (zxf hp) ?_ λ a ha=>.inr (by rw [jb1.mp ha];exact hp)
 rw [Own]
 refine ⟨p,ws,rfl,.inr ⟨(by decide),[],zqh,rfl,(λ z=>nomatch z),?_⟩⟩
 rw [zmb]
 exact OwnL.move (S:=λ _=>False) (λ a u ha _=>zxf hp a u ha) (λ _ z=>z.elim) (λ a hd nz z=>z.elim nz λ z=>hd (by rw [jb1.mp z];exact hp)) xs 0 ws [] (λ _ z=>nomatch z) o
def atoms:List PV->Bool
 | []=>true
 | x::xs=>zvz x && atoms xs
def qav:PV->Bool
 | .tup xs=>atoms xs
 | x=>zvz x
def zpg:List PV->Bool
 | []=>true
 | x::xs=>qav x && zpg xs
def d1 (xs:List PV):Nat:=if zpg xs=true then om else 1
theorem OwnL.ats {K:Frag}{H:Hp}{Z Z':Addr->Prop}:∀ {xs:List PV}{ws:List V}{d d':Nat},QQ.atoms xs=true->OwnL K H Z xs d' ws []->OwnL K H Z' xs d ws []
 | [],ws,d,_,_,h=>by rw [OwnL] at h ⊢;exact h
 | x::xs,ws,d,_,ha,h=>by
  unfold QQ.atoms at ha
  rw [ja3] at ha
  rw [OwnL] at h ⊢
  obtain ⟨v,s,f1,f2,rfl,ef,dj,h1,h2⟩:=h
  obtain ⟨rfl,rfl⟩:f1=[]/\f2=[]:=by simpa using ef.symm
  exact ⟨v,s,[],[],rfl,rfl,dj,(Own.atom ha.1 h1).2,h2.ats ha.2⟩
theorem Own.flat {K:Frag}{H:Hp}{Z Z':Addr->Prop}{x:PV}{v:V}{d d':Nat} (hx:qav x=true) (h:Own K H Z x d' v []):Own K H Z' x d v []:=by
 cases x with
 | tup xs=>
  rw [Own] at h ⊢
  obtain ⟨a,vs,e,ha,hl⟩:=h
  exact ⟨a,vs,e,ha,hl.ats hx⟩
 | lst _=>cases hx
 | dct _=>cases hx
 | exn _=>exact (Own.atom rfl h).2
 | emp=>exact (Own.atom rfl h).2
 | dko=>exact (Own.atom rfl h).2
 | scr _=>exact (Own.atom rfl h).2
 | non=>exact (Own.atom rfl h).2
 | bl _=>exact (Own.atom rfl h).2
 | int _=>exact (Own.atom rfl h).2
 | str _=>exact (Own.atom rfl h).2
theorem OwnL.ats0 {K:Frag}{H:Hp}{Z:Addr->Prop}:∀ {xs:List PV}{ws:List V}{d:Nat}{f:List Addr},QQ.atoms xs=true->OwnL K H Z xs d ws f->f=[]
 | [],ws,d,f,_,h=>by rw [OwnL] at h;exact h.2
 | x::xs,ws,d,f,ha,h=>by
  unfold QQ.atoms at ha
  rw [ja3] at ha
  rw [OwnL] at h
  obtain ⟨v,s,f1,f2,rfl,rfl,dj,h1,h2⟩:=h
  rw [(Own.atom (Z':=Z) (d':=d) ha.1 h1).1,h2.ats0 ha.2]
  rfl
theorem Own.flatA {K:Frag}{H:Hp}{Z Z':Addr->Prop}{x:PV}{v:V}{d d':Nat}{f:List Addr} (hx:qav x=true) (h:Own K H Z x d v f):f=[]/\Own K H Z' x d' v []:=by
 have e:f=[]:=by
  cases x with
  | tup xs=>
   rw [Own] at h
   obtain ⟨a,vs,e,ha,hl⟩:=h
   exact hl.ats0 hx
  | lst _=>cases hx
  | dct _=>cases hx
  | exn _=>exact (Own.atom (Z':=Z) (d':=d) rfl h).1
  | emp=>exact (Own.atom (Z':=Z) (d':=d) rfl h).1
  | dko=>exact (Own.atom (Z':=Z) (d':=d) rfl h).1
  | scr _=>exact (Own.atom (Z':=Z) (d':=d) rfl h).1
  | non=>exact (Own.atom (Z':=Z) (d':=d) rfl h).1
  | bl _=>exact (Own.atom (Z':=Z) (d':=d) rfl h).1
  | int _=>exact (Own.atom (Z':=Z) (d':=d) rfl h).1
  | str _=>exact (Own.atom (Z':=Z) (d':=d) rfl h).1
 subst e
 exact ⟨rfl,h.flat hx⟩
theorem OwnL.atoms {K:Frag}{H:Hp}{Z Z':Addr->Prop}:∀ {xs:List PV}{ws:List V}{d:Nat},zpg xs=true->OwnL K H Z xs 0 ws []->OwnL K H Z' xs d ws []
 | [],ws,d,_,h=>by rw [OwnL] at h ⊢;exact h
 | x::xs,ws,d,ha,h=>by
  unfold zpg at ha
  rw [ja3] at ha
  rw [OwnL] at h ⊢
  obtain ⟨v,s,f1,f2,rfl,ef,dj,h1,h2⟩:=h
  obtain ⟨rfl,rfl⟩:f1=[]/\f2=[]:=by simpa using ef.symm
  exact ⟨v,s,[],[],rfl,rfl,dj,h1.flat ha.1,h2.atoms ha.2⟩
theorem zxy {xs:List PV}{ws:List V} (h:Leaf M H fps vs F (.lst xs) (d1 xs) Q) (o:OwnL M.K H (Zv M vs fps) xs 0 ws []) {p:Addr} (hp:H p=none):Q (.ref p) (upd H p (.lst ws)):=by
 unfold d1 at h
 split at h
 ·rename_i ha
  refine h (.ref p) _ [p] (zxf hp) ?_ λ a ha=>.inr (by rw [jb1.mp ha];exact hp)
  rw [Own]
  refine ⟨p,ws,rfl,.inr ⟨(by decide),[],zqh,rfl,(λ z=>nomatch z),?_⟩⟩
  have o':OwnL M.K (upd H p (.lst ws)) (Zv M vs fps) xs 0 ws []:=OwnL.move (S:=λ _=>False) (λ a u ha _=>zxf hp a u ha) (λ _ z=>z.elim) (λ _ _ n=>n) xs 0 ws [] (λ _ z=>nomatch z) o
  exact o'.atoms ha
 ·exact zyi h o hp
theorem zkr {xs:List PV}{ws:List V} (h:Leaf M H fps vs F (.tup xs) 0 Q) (o:OwnL M.K H (Zv M vs fps) xs 0 ws []) {p:Addr} (hp:H p=none):Q (.ref p) (upd H p (.tup ws)):=by
 refine h (.ref p) _ [] (zxf hp) ?_ λ a ha=>nomatch ha
 rw [Own]
 refine ⟨p,ws,rfl,zqh,?_⟩
 rw [qh4]
 exact OwnL.move (S:=λ _=>False) (λ a u ha _=>zxf hp a u ha) (λ _ z=>z.elim) (λ a hd nz z=>z.elim nz λ z=>nomatch z) xs 0 ws [] (λ _ z=>nomatch z) o
theorem zkg {xs:List PV}{ws:List V} (h:Leaf M H fps vs F (.lst xs) om Q) {Z:Addr->Prop} (o:OwnL M.K H Z xs om ws F) {p:Addr} (hp:H p=none):Q (.ref p) (upd H p (.lst ws)):=by
 refine h (.ref p) _ (p::F) (zxf hp) ?_ λ a ha=>(ja9.mp ha).elim (λ e=>.inr (by rw [e];exact hp)) .inl
 rw [Own]
 refine ⟨p,ws,rfl,.inr ⟨(by decide),F,zqh,rfl,λ z=>?_,?_⟩⟩
 ·obtain ⟨ys,e⟩:=OwnL.lsts xs om ws F o p z
  rw [hp] at e;cases e
 ·exact OwnL.full xs ws F (OwnL.move (S:=λ _=>False) (Z':=Z) (λ a u ha _=>zxf hp a u ha) (λ _ z=>z.elim) (λ _ _ n=>n) xs om ws F (λ _ _ z=>z) o)
theorem qcp {xs:List PV}{ws:List V} (h:Leaf M H fps vs F (.tup xs) om Q) {Z:Addr->Prop} (o:OwnL M.K H Z xs om ws F) {p:Addr} (hp:H p=none):Q (.ref p) (upd H p (.tup ws)):=by
 refine h (.ref p) _ F (zxf hp) ?_ λ a ha=>.inl ha
 rw [Own]
 exact ⟨p,ws,rfl,zqh,OwnL.full xs ws F (OwnL.move (S:=λ _=>False) (Z':=Z) (λ a u ha _=>zxf hp a u ha) (λ _ z=>z.elim) (λ _ _ n=>n) xs om ws F (λ _ _ z=>z) o)⟩
end
theorem Own.seqL {K:Frag}{H:Hp}{Z:Addr->Prop}{xs:List PV}{d:Nat}{v:V}{fp:List Addr} (h:Own K H Z (.lst xs) d v fp):∃ a ws,v=.ref a/\SqL K H a ws/\ws.length=xs.length:=by
 rw [Own] at h
 obtain ⟨a,ws,e,⟨_,hr,_,ol⟩ | ⟨_,f,ha,_,_,ol⟩⟩:=h
 ·exact ⟨a,ws,e,.inl (.inl hr.1),ol.length⟩
 ·exact ⟨a,ws,e,.inl (.inl ha),ol.length⟩
theorem Own.seqT {K:Frag}{H:Hp}{Z:Addr->Prop}{xs:List PV}{d:Nat}{v:V}{fp:List Addr} (h:Own K H Z (.tup xs) d v fp):∃ a ws,v=.ref a/\SqT K H a ws/\ws.length=xs.length:=by
 rw [Own] at h
 obtain ⟨a,ws,e,hr,ol⟩:=h
 exact ⟨a,ws,e,.inl (.inl hr),ol.length⟩
theorem Own.coldL {K:Frag}{H:Hp}{Z:Addr->Prop}{xs:List PV}{v:V} (h:Own K H Z (.lst xs) 0 v []):∃ a ws,v=.ref a/\H a=some (.lst ws)/\OwnL K H Z xs 0 ws []:=by
 rw [Own] at h
 obtain ⟨a,ws,e,⟨_,hr,_,ol⟩ | ⟨h,_⟩⟩:=h
 ·exact ⟨a,ws,e,hr.1,ol⟩
 ·exact absurd rfl h
theorem Own.coldT {K:Frag}{H:Hp}{Z:Addr->Prop}{xs:List PV}{v:V} (h:Own K H Z (.tup xs) 0 v []):∃ a ws,v=.ref a/\H a=some (.tup ws)/\OwnL K H Z xs 0 ws []:=by
 rw [Own] at h
 exact h
theorem OwnL.app {K:Frag}{H:Hp}{Z:Addr->Prop}:∀ {xs ys:List PV}{ws us:List V},OwnL K H Z xs 0 ws []->OwnL K H Z ys 0 us []->OwnL K H Z (xs++ys) 0 (ws++us) []
 | [],ys,ws,us,h,h'=>by rw [OwnL] at h;obtain ⟨rfl,_⟩:=h;exact h'
 | x::xs,ys,ws,us,h,h'=>by
  rw [OwnL] at h
  obtain ⟨v,s,f1,f2,rfl,ef,dj,h1,h2⟩:=h
  obtain ⟨rfl,rfl⟩:f1=[]/\f2=[]:=by simpa using ef.symm
  show OwnL K H Z (x::(xs++ys)) 0 (v::(s++us)) []
  rw [OwnL]
  exact ⟨v,s++us,[],[],rfl,rfl,λ _ z=>(nomatch z),h1,h2.app h'⟩
theorem OwnL.drop {K:Frag}{H:Hp}{Z:Addr->Prop}:∀ {xs:List PV}{ws:List V} (n:Nat),OwnL K H Z xs 0 ws []->OwnL K H Z (xs.drop n) 0 (ws.drop n) []
 | xs,ws,0,h=>h
 | [],ws,n + 1,h=>by rw [OwnL] at h;obtain ⟨rfl,_⟩:=h;rw [jm6,jm6,OwnL];exact ⟨rfl,rfl⟩
 | x::xs,ws,n + 1,h=>by
  rw [OwnL] at h
  obtain ⟨v,s,f1,f2,rfl,ef,dj,h1,h2⟩:=h
  obtain ⟨rfl,rfl⟩:f1=[]/\f2=[]:=by simpa using ef.symm
  exact h2.drop n
theorem OwnL.take {K:Frag}{H:Hp}{Z:Addr->Prop}:∀ {xs:List PV}{ws:List V} (n:Nat),OwnL K H Z xs 0 ws []->OwnL K H Z (xs.take n) 0 (ws.take n) []
 | xs,ws,0,h=>by rw [jk6,jk6,OwnL];exact ⟨rfl,rfl⟩
 | [],ws,n + 1,h=>by rw [OwnL] at h;obtain ⟨rfl,_⟩:=h;rw [jl2,jl2,OwnL];exact ⟨rfl,rfl⟩
 | x::xs,ws,n + 1,h=>by
  rw [OwnL] at h
  obtain ⟨v,s,f1,f2,rfl,ef,dj,h1,h2⟩:=h
  obtain ⟨rfl,rfl⟩:f1=[]/\f2=[]:=by simpa using ef.symm
  rw [ji2,ji2,OwnL]
  exact ⟨v,s.take n,[],[],rfl,rfl,λ _ z=>(nomatch z),h1,h2.take n⟩
theorem OwnL.nth {K:Frag}{H:Hp}{Z:Addr->Prop}{xs:List PV}{ws:List V}{j:Nat}{x:PV} (h:OwnL K H Z xs 0 ws []) (e:xs[j]?=some x):∃ w,ws[j]?=some w/\Own K H Z x 0 w []:=by
 have hj:j < ws.length:=by rw [h.length];exact (ja8.mp e).1
 obtain ⟨y,e1,e2⟩:=h.get (i:=j) (w:=ws[j]) (by simp [hj])
 rw [e] at e1;cases e1
 exact ⟨_,by simp [hj],e2⟩
theorem cold {M:Fm}{vs:List Nat}{H:Hp}{fps:Fps}{x:PV}{d:Nat}{v:V}{fp:List Addr} (o:Own M.K H (Zt M vs fps fp) x d v fp) (hf:∀ a∈fp,¬ Zf M fps a):Own M.K H (Zv M vs fps) x 0 v []:=
 Own.freeze (λ _ z=>.inl z) x d v fp (λ a ha z=>hf a ha z.zf) o
def zqo:PV->Nat->PV->Nat->Option (PV×Nat)
 | .int i,_,.int j,_=>some (.int (i + j),om)
 | .lst xs,_,.lst ys,_=>if xs.length + ys.length<=va2 then some (.lst (xs++ys),d1 (xs++ys)) else none
 | .tup xs,_,.tup ys,_=>if xs.length + ys.length<=va2 then some (.tup (xs++ys),0) else none
 | .str x,_,.str y,_=>if x.length + y.length<=va2 then some (.str (x++y),om) else none
 | _,_,_,_=>none
def qam (p:Int->Int->Bool) (g:Int->Int->Int):PV->Nat->PV->Nat->Option (PV×Nat)
 | .int i,_,.int j,_=>if p i j then some (.int (g i j),om) else none
 | _,_,_,_=>none
def pMul (i j:Int):Bool:=(decide (-(2 ^ 64) < i) && decide (i < 2 ^ 64)) || (decide (-(2 ^ 64) < j) && decide (j < 2 ^ 64))
def pDiv (_ j:Int):Bool:=decide (0 < j) && decide (j < 2 ^ 128)
def pMod (_ j:Int):Bool:=decide (0 < j)
def pPow (i j:Int):Bool:=decide (0<=j) && decide (j<=1000) && decide (i.natAbs < 2 ^ 64)
def qm4:=qam (λ _ _=>true) (λ i j=>i - j)
def repL (n:Nat) (xs:List PV):List PV:=(ja6 n xs).flatten
def sRep (x:Str) (n:Nat):Str:=⟨(ja6 n x.cps.toList).flatten.toArray⟩
def zwu:PV->Nat->PV->Nat->Option (PV×Nat)
 | .str x,_,.int n,_=>if -(2 ^ 62)<=n/\n < 2 ^ 62/\x.length * n.toNat<=va2 then some (.str (sRep x n.toNat),om) else none
 | .int i,_,.int j,_=>if pMul i j then some (.int (i * j),om) else none
 | .lst xs,_,.int k,_=>if 0<=k/\k < 2 ^ 62/\xs.length * k.toNat<=va2 then some (.lst (repL k.toNat xs),d1 (repL k.toNat xs)) else none
 | _,_,_,_=>none
def zjh:=qam pDiv (λ i j=>i / j)
def zqr:=qam pMod (λ i j=>i % j)
def qep:=qam pPow (λ i j=>i ^ j.toNat)
section
variable {X:Cx}
theorem qen:OpR X (vd5 .FloorDiv) (rI (λ _ j=>0 < j/\j < 2 ^ 128) λ i j=>.int (i / j)):=opI λ i j _ _ _ _ _ hc q=>by
 have h1:(0:Int) < j:=hc.1
 have h2:j < 2 ^ 128:=hc.2
 refine floordiv_int (by omega) (by rw [Int.fdiv_eq_ediv_of_nonneg i (by omega)];exact q) (.inl (PyProof.noPylong_of_log2 ?_))
 have h3:j.natAbs < 2 ^ 128:=by omega
 have h4:j.natAbs≠0:=by omega
 have:=(Nat.log2_lt h4).mpr h3
 omega
end
theorem zqi {X:Cx}{e:Expr}{t t':TE} (h:PE X e t) (i:∀ σ H Q,t' σ H Q->t σ H Q):PE X e t':=λ pins s σ H Q I q=>h pins s σ H Q I (i σ H Q q)
theorem zpw {X:Cx}{e:Expr}{t t':TT} (h:PT X e t) (i:∀ σ H Q,t' σ H Q->t σ H Q):PT X e t':=λ pins s σ H Q I q=>h pins s σ H Q I (i σ H Q q)
theorem qfy {X:Cx}{e:Expr}{t t':TT} (h:PW X e t) (i:∀ σ H Q,t' σ H Q->t σ H Q):PW X e t':=λ wh pins s σ H Q I q=>h wh pins s σ H Q I (i σ H Q q)
theorem qf6 {X:Cx}{e:List Expr}{t t':TA} (h:PA X e t) (i:∀ σ H Q,t' σ H Q->t σ H Q):PA X e t':=λ p pins s σ H Q I q=>h p pins s σ H Q I (i σ H Q q)
theorem zxg {X:Cx}{e:Stmt}{t t':TS} (h:PS X e t) (i:∀ D σ H,t' D σ H->t D σ H):PS X e t':=λ pins s σ H D I q=>h pins s σ H D I (i D σ H q)
theorem zbg {X:Cx}{e:List Stmt}{t t':TS} (h:PSs X e t) (i:∀ D σ H,t' D σ H->t D σ H):PSs X e t':=λ pins s σ H D I q=>h pins s σ H D I (i D σ H q)
section
variable {X:Cx}{M:Fm}{a b:Expr}{f g:Fx}{vs vs':List Nat}{pos:Pos}{σ:St}{H:Hp}{Q:VK}
theorem qeo:OpR X (vd5 .Add) (λ x y H Q=>∃ a b ys,x=.ref a/\y=.ref b/\SqT X.K H a []/\SqT X.K H b ys/\Q (.ref b) H):=by
 intro pins s σ H x y v u Q I rx ry h
 obtain ⟨a,b,ys,rfl,rfl,ha,hb,q⟩:=h
 cases rx
 cases ry
 obtain ⟨its,r1,p1,_⟩:=I.tuple ha
 obtain ⟨its2,r2,p2,_⟩:=I.tuple hb
 cases r1
 obtain ⟨⟨cls,dd,data,sl⟩,ho,hc,n,hd⟩:=id p1
 obtain ⟨⟨cls2,dd2,data2,sl2⟩,ho2,hc2,n2,hd2⟩:=id p2
 simp only at hc hd hc2 hd2
 subst hc hd hc2 hd2
 exact concat_meets ⟨_,ho,rfl⟩ ⟨_,ho2,rfl⟩ vk1 seq_tuple_add vh2 vh0 (vg7 _ _)
  (tuple_addW0 a b _ its2.toArray n n2 dd dd2 sl sl2 rfl) ⟨ho,ho2,⟨.ref b,H,I,rfl,q⟩⟩
theorem qkp (hv:∀ i∈vs,M.Ms i=false) (hK:M.K=X.K) (ha:PE X a (tE M f vs)) (hb:PE X b (tE M g vs')):PE X (.BinOp a .Add b pos) (tE M (bBin zqo f g) (vs++vs')):=by
 refine zqi (qei (qlm.or (qf7.or (qia.or (qeo.or qak)))) ha hb) λ σ H Q h=>zwh hv (λ x d y e z c v w H fps f1 f2 Q ho o1 o2 dj nz zd lf=>?_) h
 cases x with
 | int i=>
  cases y with
  | int j=>
   cases ho
   rw [Own] at o1 o2
   exact .inl ⟨i,j,o1.1,o2.1,zqv lf⟩
  | _=>cases ho
 | lst xs=>
  cases y with
  | lst ys=>
   dsimp only [zqo] at ho
   split at ho
   ·rename_i hl
    cases ho
    obtain ⟨p,ws,rfl,hp,ol⟩:=(cold o1 λ a ha=>nz a (ja4 _ ha)).coldL
    obtain ⟨p2,us,rfl,hp2,ol2⟩:=(cold o2 λ a ha=>nz a (ja1 _ ha)).coldL
    exact .inr (.inl ⟨p,p2,ws,us,rfl,rfl,hp,hp2,by rw [ol.length,ol2.length];exact hl,λ q hq=>zxy lf (ol.app ol2) hq⟩)
   ·cases ho
  | _=>cases ho
 | tup xs=>
  cases y with
  | tup ys=>
   dsimp only [zqo] at ho
   split at ho
   ·rename_i hl
    cases ho
    obtain ⟨p,ws,rfl,hp,ol⟩:=(cold o1 λ a ha=>nz a (ja4 _ ha)).coldT
    obtain ⟨p2,us,rfl,hp2,ol2⟩:=(cold o2 λ a ha=>nz a (ja1 _ ha)).coldT
    by_cases hw:ws=[]
    ·subst hw
     refine .inr (.inr (.inr (.inl ⟨p,p2,us,rfl,rfl,.inl (.inl hp),.inl (.inl hp2),?_⟩)))
     have ex:xs=[]:=by
      have:=ol.length
      cases xs with
      | nil=>rfl
      | cons _ _=>simp at this
     subst ex
     exact zwz (x:=.tup ys) lf (by rw [Own];exact ⟨p2,us,rfl,hp2,ol2⟩)
    ·refine .inr (.inr (.inl ⟨p,p2,ws,us,rfl,rfl,.inl (.inl hp),.inl (.inl hp2),hw,by rw [ol.length,ol2.length];exact hl,λ hu=>?_,λ hu q hq=>zkr lf (ol.app ol2) hq⟩))
     subst hu
     have ey:ys=[]:=by
      have:=ol2.length
      cases ys with
      | nil=>rfl
      | cons _ _=>simp at this
     subst ey
     rw [jg6] at lf
     exact zwz (x:=.tup xs) lf (by rw [Own];exact ⟨p,ws,rfl,hp,ol⟩)
   ·cases ho
  | _=>cases ho
 | str i=>
  cases y with
  | str j=>
   dsimp only [zqo] at ho
   split at ho
   ·rename_i hl
    cases ho
    rw [Own] at o1 o2
    exact .inr (.inr (.inr (.inr ⟨i,j,o1.1,o2.1,hl,zzh lf⟩)))
   ·cases ho
  | _=>cases ho
 | _=>cases ho
def qcj:PV->Nat->PV->Nat->Option (PV×Nat)
 | .lst xs,_,.lst ys,e=>if xs.length + ys.length<=va2 then some (.lst (xs++ys),if zpg xs=true/\e=om then om else d1 (xs++ys)) else none
 | _,_,_,_=>none
theorem OwnL.appF {K:Frag}{H:Hp}{Z:Addr->Prop}{ys:List PV}{us:List V}{fc:List Addr} (h':OwnL K H Z ys om us fc):∀ {xs:List PV}{ws:List V},OwnL K H Z xs om ws []->OwnL K H Z (xs++ys) om (ws++us) fc
 | [],ws,h=>by rw [OwnL] at h;obtain ⟨rfl,_⟩:=h;exact h'
 | x::xs,ws,h=>by
  rw [OwnL] at h
  obtain ⟨v,s,f1,f2,rfl,ef,dj,h1,h2⟩:=h
  obtain ⟨rfl,rfl⟩:f1=[]/\f2=[]:=by simpa using ef.symm
  show OwnL K H Z (x::(xs++ys)) om (v::(s++us)) fc
  rw [OwnL]
  exact ⟨v,s++us,[],fc,rfl,rfl,λ _ z=>(nomatch z),h1,OwnL.appF h' h2⟩
theorem qhq (hv:∀ i∈vs,M.Ms i=false) (hK:M.K=X.K) (ha:PE X a (tE M f vs)) (hb:PE X b (tE M g vs')):PE X (.BinOp a .Add b pos) (tE M (bBin qcj f g) (vs++vs')):=by
 refine zqi (qei qf7 ha hb) λ σ H Q h=>zwh hv (λ x d y e z c v w H fps f1 f2 Q ho o1 o2 dj nz zd lf=>?_) h
 cases x with
 | lst xs=>
  cases y with
  | lst ys=>
   dsimp only [qcj] at ho
   split at ho
   ·rename_i hl
    cases ho
    obtain ⟨p,ws,rfl,hp,ol⟩:=(cold o1 λ a ha=>nz a (ja4 _ ha)).coldL
    split at lf
    ·rename_i hc
     obtain ⟨ht,rfl⟩:=hc
     obtain ⟨p2,us,fc,rfl,hp2,ef,na,ol2⟩:=o2.list (by decide)
     refine ⟨p,p2,ws,us,rfl,rfl,hp,hp2,by rw [ol.length,ol2.length];exact hl,λ q hq=>?_⟩
     have lf':Leaf M H fps (vs++vs') fc (.lst (xs++ys)) om Q:=λ u H' fp h1 h2 h3=>lf u H' fp h1 h2 λ a ha=>(h3 a ha).elim (λ z=>.inl (ja1 _ (by rw [ef];exact ja0 _ z))) .inr
     exact zkg lf' (OwnL.appF ol2 (ol.atoms ht)) hq
    ·obtain ⟨p2,us,rfl,hp2,ol2⟩:=(cold o2 λ a ha=>nz a (ja1 _ ha)).coldL
     exact ⟨p,p2,ws,us,rfl,rfl,hp,hp2,by rw [ol.length,ol2.length];exact hl,λ q hq=>zxy lf (ol.app ol2) hq⟩
   ·cases ho
  | _=>cases ho
 | _=>cases ho
theorem zgr {op:Operator}{p:Int->Int->Bool}{k:Int->Int->Int}{C:Int->Int->Prop} (hop:OpR X (vd5 op) (rI C λ i j=>.int (k i j))) (hC:∀ i j,p i j=true->C i j) (hv:∀ i∈vs,M.Ms i=false) (ha:PE X a (tE M f vs)) (hb:PE X b (tE M g vs')):
  PE X (.BinOp a op b pos) (tE M (bBin (qam p k) f g) (vs++vs')):=by
 refine zqi (qei hop ha hb) λ σ H Q h=>zwh hv (λ x d y e z c v w H fps f1 f2 Q ho o1 o2 dj nz zd lf=>?_) h
 cases x with
 | int i=>
  cases y with
  | int j=>
   dsimp only [qam] at ho
   split at ho
   ·rename_i hp
    cases ho
    rw [Own] at o1 o2
    exact ⟨i,j,o1.1,o2.1,hC i j hp,zqv lf⟩
   ·cases ho
  | _=>cases ho
 | _=>cases ho
theorem OwnL.rep {K:Frag}{H:Hp}{Z:Addr->Prop}{xs:List PV}{ws:List V} (h:OwnL K H Z xs 0 ws []):∀ n,OwnL K H Z (repL n xs) 0 (ja6 n ws).flatten []
 | 0=>by
  unfold repL
  rw [jk7,jk7,jl9,jl9,OwnL];exact ⟨rfl,rfl⟩
 | n + 1=>by
  have:=h.rep n
  unfold repL at this ⊢
  rw [jd0,jd0,je7,je7]
  exact h.app this
theorem qh7:OpR X (vd5 .Sub) (rI (λ _ _=>True) λ i j=>.int (i - j)):=opI λ _ _ _ _ _ _ _ _ q=>sub_int q
theorem cMul {i j:Int} (h:pMul i j=true):CMul i j:=by
 unfold pMul at h
 simp only [jc8,ja3,decide_eq_true_eq] at h
 exact h
theorem zye (a:Array Nat):∀ (n:Nat) (b:Array Nat),(ja6 n a).foldl (·++·) b=⟨b.toList++(ja6 n a.toList).flatten⟩
 | 0,b=>by simp
 | n + 1,b=>by
  rw [jd0,jj7,zye a n,jd0,je7]
  simp
theorem qaj:OpR X (vd5 .Mult) (λ x y H Q=>∃ z n,x=.str z/\y=.int n/\-(2 ^ 62)<=n/\n < 2 ^ 62/\z.length * n.toNat<=va2/\Q (.str (sRep z n.toNat)) H):=by
 intro pins s σ H x y v u Q I rx ry h
 obtain ⟨z,n,rfl,rfl,h1,h2,h3,q⟩:=h
 obtain ⟨t1,rfl⟩:=rx
 obtain ⟨t2,rfl⟩:=ry
 have hz:vi2 (z.length * n.toNat)=false:=by
  unfold vi2
  have h40:va2<=2 ^ 40:=by decide
  exact decide_eq_false (by omega)
 refine PySem.P.mul_str (by rw [decide_eq_false (by omega),decide_eq_false (by omega)];rfl) (λ _ _ hc=>?_) (λ _ _=>hz) ?_
 ·have hn:(1:Int)<=n:=by omega
  have hl:z.length * n.toNat<=2 ^ 62:=jc4 h3 (by decide)
  have h4:(z.length:Int) * n<=2 ^ 62:=by
   have:((z.length * n.toNat:Nat):Int)<=((2 ^ 62:Nat):Int):=Int.ofNat_le.mpr hl
   rw [Int.natCast_mul,show ((n.toNat:Nat):Int)=n by omega] at this
   exact this
  have h5:(2 ^ 63 - 1) / n < (z.length:Int):=hc
  have h6:=Int.lt_mul_of_ediv_lt (by omega:(0:Int) < n) h5
  omega
 ·by_cases c1:n < 1
  ·rw [if_pos c1]
   refine ⟨by decide,.str (sRep z n.toNat),H,I.tok _,⟨s.toks,?_⟩,q⟩
   rw [show n.toNat=0 by omega]
   rfl
  ·rw [if_neg c1]
   split
   ·rename_i c2
    refine ⟨.str (sRep z n.toNat),H,I,⟨t1,?_⟩,q⟩
    have e:sRep z n.toNat=z:=by
     unfold sRep
     rcases jc8 _ _ ▸ c2 with c | c
     ·have:n=1:=by simpa using c
      subst this
      show (⟨([z.cps.toList].flatten).toArray⟩:Str)=z
      simp
     ·have e0:z.cps.toList=[]:=by
       have:z.cps.size=0:=eq_of_beq c
       exact jj1.mpr (jh5 this)
      rw [e0]
      have:(ja6 n.toNat ([]:List Nat)).flatten=[]:=by simp
      rw [this]
      cases z with
      | mk a=>simp at e0;subst e0;rfl
    rw [e]
   ·refine ⟨?_,.str (sRep z n.toNat),H,I.tok _,⟨s.toks,?_⟩,q⟩
    ·rw [zye]
     show (#[].toList++(ja6 n.toNat z.cps.toList).flatten).length<=va2
     simp only [jg7,jb8,List.length_flatten,List.map_replicate,List.sum_replicate_nat]
     have h4:n.toNat * z.cps.size<=va2:=by rw [jn0];exact h3
     simpa using h4
    ·unfold sRep
     rw [zye]
     simp
theorem qkh (hv:∀ i∈vs,M.Ms i=false) (ha:PE X a (tE M f vs)) (hb:PE X b (tE M g vs')):PE X (.BinOp a .Mult b pos) (tE M (bBin zwu f g) (vs++vs')):=by
 refine zqi (qei (qlb.or (qk8.or qaj)) ha hb) λ σ H Q h=>zwh hv (λ x d y e z c v w H fps f1 f2 Q ho o1 o2 dj nz zd lf=>?_) h
 cases x with
 | int i=>
  cases y with
  | int j=>
   dsimp only [zwu] at ho
   split at ho
   ·rename_i hp
    cases ho
    rw [Own] at o1 o2
    exact .inl ⟨i,j,o1.1,o2.1,cMul hp,zqv lf⟩
   ·cases ho
  | _=>cases ho
 | lst xs=>
  cases y with
  | int k=>
   dsimp only [zwu] at ho
   split at ho
   ·rename_i hl
    cases ho
    obtain ⟨p,ws,rfl,hp,ol⟩:=(cold o1 λ a ha=>nz a (ja4 _ ha)).coldL
    rw [Own] at o2
    exact .inr (.inl ⟨p,k,ws,rfl,o2.1,hp,by omega,by omega,by rw [ol.length];exact hl.2.2,λ q hq=>zxy lf (ol.rep k.toNat) hq⟩)
   ·cases ho
  | _=>cases ho
 | str z=>
  cases y with
  | int k=>
   dsimp only [zwu] at ho
   split at ho
   ·rename_i hl
    cases ho
    rw [Own] at o1
    rw [Own] at o2
    exact .inr (.inr ⟨z,k,o1.1,o2.1,hl.1,hl.2.1,hl.2.2,zzh lf⟩)
   ·cases ho
  | _=>cases ho
 | _=>cases ho
theorem cDiv {i j:Int} (h:pDiv i j=true):0 < j/\j < 2 ^ 128:=by
 unfold pDiv at h
 simp only [ja3,decide_eq_true_eq] at h
 exact h
theorem cMod {i j:Int} (h:pMod i j=true):0 < j:=by
 unfold pMod at h
 simpa using h
theorem cPow {i j:Int} (h:pPow i j=true):CPow i j:=by
 unfold pPow at h
 simp only [ja3,decide_eq_true_eq] at h
 exact ⟨h.1.1,by omega,h.2⟩
def zbn:PV->Nat->Option (PV×Nat)
 | .int i,_=>some (.int (-i),om)
 | _,_=>none
theorem qkg (ha:PE X a (tE M f vs)):PE X (.UnaryOp .USub a pos) (tE M (bUn zbn f) vs):=by
 refine zqi (qm0 qjs ha) λ σ H Q h=>qad (λ x d z c v H fps f1 Q ho o1 nz zd lf=>?_) h
 cases x with
 | int i=>cases ho;rw [Own] at o1;exact ⟨i,o1.1,zqv lf⟩
 | _=>cases ho
def zwl (p:Int->Int->Bool):PV->Nat->PV->Nat->Option (PV×Nat)
 | .int i,_,.int j,_=>some (.bl (p i j),om)
 | _,_,_,_=>none
theorem zks {p:Int->Int->Bool}{x y z:PV}{d e c:Nat}{v w:V}{fps:Fps}{f1 f2 F:List Addr}{Z Z':Addr->Prop} (ho:zwl p x d y e=some (z,c)) (o1:Own M.K H Z x d v f1) (o2:Own M.K H Z' y e w f2) (lf:Leaf M H fps vs F z c Q):rI0 (λ i j=>.bl (p i j)) v w H Q:=by
 cases x with
 | int i=>
  cases y with
  | int j=>
   cases ho
   rw [Own] at o1 o2
   exact ⟨i,j,o1.1,o2.1,zxi lf⟩
  | _=>cases ho
 | _=>cases ho
def sV:PV->Option V
 | .non=>some .non
 | .bl b=>some (.bl b)
 | .int i=>some (.int i)
 | .str x=>some (.str x)
 | _=>none
def toDL (f:PV->Option vh1):List PV->Option (List vh1)
 | []=>some []
 | x::xs=>match f x,toDL f xs with
  | some a,some r=>some (a::r)
  | _,_=>none
def toD:Nat->PV->Option vh1
 | 0,_=>none
 | n + 1,x=>match x with
  | .non=>some .none
  | .bl b=>some (.bool b)
  | .int i=>some (.int i)
  | .str z=>if vh6 z=true then some (.str z) else none
  | .lst xs=>(toDL (toD n) xs).map .list
  | .tup xs=>(toDL (toD n) xs).map .tuple
  | _=>none
def zvg (f:PV->PV->Bool):List PV->List PV->Bool
 | [],[]=>true
 | x::xs,y::ys=>f x y && zvg f xs ys
 | _,_=>false
def zkn:Nat->PV->PV->Bool
 | 0,_,_=>false
 | n + 1,x,y=>match x,y with
  | .non,.non=>true
  | .bl a,.bl b=>a == b
  | .int a,.int b=>a == b
  | .str a,.str b=>a == b
  | .emp,.emp=>true
  | .lst xs,.lst ys=>zvg (zkn n) xs ys
  | .tup xs,.tup ys=>zvg (zkn n) xs ys
  | _,_=>false
def opEq (neg:Bool) (x:PV) (_:Nat) (y:PV) (_:Nat):Option (PV×Nat):=match toD 20 x,toD 20 y with
 | some a,some b=>some (.bl (neg^^vd9 a b),om)
 | _,_=>match x,y with
  | .lst xs,.lst ys=>if zvg (zkn 20) xs ys=true then some (.bl (neg^^true),om) else if xs.length≠ys.length then some (.bl (neg^^false),om) else none
  | .str a,.str b=>some (.bl (neg^^(a == b)),om)
  | .emp,.emp=>some (.bl (neg^^true),om)
  | .tup xs,.tup ys=>if zvg (zkn 20) xs ys=true then some (.bl (neg^^true),om) else none
  | _,_=>none
theorem zvq {f:PV->Option vh1}{n:Nat} (hf:∀ x D,f x=some D->D.canLay0=true/\D.depth<=n):∀ {xs:List PV}{Ds:List vh1},toDL f xs=some Ds->vj4 Ds=true/\vd3 Ds<=n
 | [],Ds,h=>by cases h;rw [vj4,vd3];exact ⟨rfl,jf7 _⟩
 | x::xs,Ds,h=>by
  unfold toDL at h
  split at h
  ·rename_i a r h1 h2
   cases h
   have h3:=hf x a h1
   have h4:=zvq hf h2
   rw [vj4,vd3,h3.1,h4.1]
   exact ⟨rfl,Nat.max_le.mpr ⟨h3.2,h4.2⟩⟩
  ·cases h
theorem zwe:∀ (n:Nat) (x:PV) (D:vh1),toD n x=some D->D.canLay0=true/\D.depth<=n
 | 0,_,_,h=>by cases h
 | n + 1,x,D,h=>by
  unfold toD at h
  cases x with
  | non=>cases h;rw [ve9,ve0] <;> first | exact ⟨rfl,jf7 _⟩ | (intros;contradiction)
  | bl b=>cases h;rw [ve9,ve0] <;> first | exact ⟨rfl,jf7 _⟩ | (intros;contradiction)
  | int i=>cases h;rw [ve9,ve0] <;> first | exact ⟨rfl,jf7 _⟩ | (intros;contradiction)
  | str z=>
   dsimp only at h
   split at h
   ·rename_i hz
    cases h;rw [ve9,ve0] <;> first | exact ⟨hz,jf7 _⟩ | (intros;contradiction)
   ·cases h
  | lst xs=>
   obtain ⟨Ds,e,rfl⟩:=ja5.mp h
   have:=zvq (zwe n) e
   rw [ve9,ve0]
   exact ⟨this.1,jm0 this.2⟩
  | tup xs=>
   obtain ⟨Ds,e,rfl⟩:=ja5.mp h
   have:=zvq (zwe n) e
   rw [ve9,ve0]
   exact ⟨this.1,jm0 this.2⟩
  | emp=>cases h
  | dko=>cases h
  | scr ns=>cases h
  | dct _=>cases h
  | exn _=>cases h
theorem zxz {pins:List (Addr×Obj)}{s:va1}{Z:Addr->Prop} (I:L2.Inv X pins σ H s):∀ (n:Nat) (x:PV) (d:Nat) (v:V) (fp:List Addr) (u:va0) (D:vh1),toD n x=some D->Own X.K H Z x d v fp->RelV v u->∃ as,Reads s.heap u D as
 | 0,_,_,_,_,_,_,h,_,_=>by cases h
 | n + 1,x,d,v,fp,u,D,h,o,r=>by
  have all:∀ (xs:List PV) (d:Nat) (ws:List V) (fp:List Addr) (us:List va0) (Ds:List vh1),toDL (toD n) xs=some Ds->OwnL X.K H Z xs d ws fp->Vals ws us->∃ as,ReadsAll s.heap us Ds as:=λ xs=>by
   induction xs with
   | nil=>
    intro d ws fp us Ds h o r
    cases h
    rw [OwnL] at o
    obtain ⟨rfl,_⟩:=o
    cases r
    exact ⟨_,.nil⟩
   | cons y ys ih=>
    intro d ws fp us Ds h o r
    unfold toDL at h
    split at h
    ·rename_i a rr h1 h2
     cases h
     rw [OwnL] at o
     obtain ⟨v,s,f1,f2,rfl,_,_,o1,o2⟩:=o
     cases r with
     | cons r1 r2=>
      obtain ⟨as,ra⟩:=zxz I n y d v f1 _ a h1 o1 r1
      obtain ⟨bs,rb⟩:=ih d s f2 _ rr h2 o2 r2
      exact ⟨_,.cons ra rb⟩
    ·cases h
  unfold toD at h
  cases x with
  | non=>cases h;rw [Own] at o;obtain ⟨rfl,_⟩:=o;cases r;exact ⟨_,.none⟩
  | bl b=>cases h;rw [Own] at o;obtain ⟨rfl,_⟩:=o;cases r;exact ⟨_,.bool b⟩
  | int i=>cases h;rw [Own] at o;obtain ⟨rfl,_⟩:=o;obtain ⟨t,rfl⟩:=r;exact ⟨_,.int i t⟩
  | str z=>
   dsimp only at h
   split at h
   ·cases h;rw [Own] at o;obtain ⟨rfl,_⟩:=o;obtain ⟨t,rfl⟩:=r;exact ⟨_,.str z t⟩
   ·cases h
  | lst xs=>
   obtain ⟨Ds,e,rfl⟩:=ja5.mp h
   have hh:∃ a ws d' f,v=.ref a/\H a=some (.lst ws)/\OwnL X.K H Z xs d' ws f:=by
    rw [Own] at o
    obtain ⟨a,ws,ev,⟨_,hr,_,ol⟩ | ⟨_,f,ha,_,_,ol⟩⟩:=o
    ·exact ⟨a,ws,_,_,ev,hr.1,ol⟩
    ·exact ⟨a,ws,_,_,ev,ha,ol⟩
   obtain ⟨a,ws,d',f,rfl,ha,ol⟩:=hh
   cases r
   obtain ⟨its,rv,⟨ob,nn,e1,e2,e3,e4⟩,_⟩:=I.list (.inl (.inl ha))
   obtain ⟨as,ra⟩:=all xs d' ws f its Ds e ol rv
   exact ⟨_,.list e1 e2 e4 ra⟩
  | tup xs=>
   obtain ⟨Ds,e,rfl⟩:=ja5.mp h
   rw [Own] at o
   obtain ⟨a,ws,rfl,ha,ol⟩:=o
   cases r
   obtain ⟨its,rv,⟨ob,e1,e2,nn,e4⟩,_⟩:=I.tuple (.inl (.inl ha))
   obtain ⟨as,ra⟩:=all xs _ ws fp its Ds e ol rv
   exact ⟨_,.tuple e1 e2 e4 ra⟩
  | emp=>cases h
  | dko=>cases h
  | scr ns=>cases h
  | dct _=>cases h
  | exn _=>cases h
theorem zjs {K':Type} [DecidableEq K'] {prog:va8}{w:vb7}{knd:KeyKind prog w K'}{P:va8}{w0:vb7}{h:Heap}{a:Addr} (x:h.DictOf (zxh P w0) a []):h.DictOf knd a []:=by
 obtain ⟨o,es,ep,h1,h2,h3,h4,h5,h6⟩:=x
 generalize hes:es.toList=l at h5
 cases h5
 have e:es=#[]:=jj1.mp hes
 subst e
 exact ⟨o,#[],ep,h1,h2,h3,by intro z hz;simp at hz,.nil,.nil⟩
theorem ql7 {pins:List (Addr×Obj)}{s:va1} (I:L2.Inv X pins σ H s) {a b:Addr}{A:vc0} (ha:H a=some (.dK [])) (hb:H b=some (.dK [])) (hu:A.units < vf1):SeqAt.EqAt A s (.ref a) (.ref b) true:=by
 by_cases e:a=b
 ·subst e;exact vf6 _
 ·refine vi6 e λ prog w E Q hq=>?_
  obtain ⟨_,z1,vs,k1,d1⟩:=qaw I.hok ha
  obtain ⟨_,z2,ws,k2,d2⟩:=qaw I.hok hb
  cases k1
  cases k2
  exact PySem.W.keq_eq (knd:=zxh prog w) (r:=true) z1 z2 (zjs d1) (zjs d2) hu (λ _=>.nil) (by simpa using hq)
theorem zze {Z:Addr->Prop}{xs:List PV}{d:Nat}{v:V}{fp:List Addr}{K:Frag} (o:Own K H Z (.lst xs) d v fp):∃ a ws d' f,v=.ref a/\H a=some (.lst ws)/\OwnL K H Z xs d' ws f:=by
 rw [Own] at o
 obtain ⟨a,ws,ev,⟨_,hr,_,ol⟩ | ⟨_,f,ha,_,_,ol⟩⟩:=o
 ·exact ⟨a,ws,_,_,ev,hr.1,ol⟩
 ·exact ⟨a,ws,_,_,ev,ha,ol⟩
theorem zka {n:Nat}{e:Nat->Bool} (h:∀ j,j < n->e j=true):(jd4 n).all e=true:=jb6.mpr λ j hj=>h j (jd5.mp hj)
theorem qbs {pins:List (Addr×Obj)}{s:va1}{Z Z':Addr->Prop} (I:L2.Inv X pins σ H s):∀ (n:Nat) (x y:PV) (d e:Nat) (v w:V) (f1 f2:List Addr) (u u':va0) (A:vc0),A.units + n < vf1->zkn n x y=true->Own X.K H Z x d v f1->Own X.K H Z' y e w f2->RelV v u->RelV w u'->SeqAt.EqAt A s u u' true
 | 0,_,_,_,_,_,_,_,_,_,_,_,_,h,_,_,_,_=>by cases h
 | n + 1,x,y,d,e,v,w,f1,f2,u,u',A,hu,h,o1,o2,r1,r2=>by
  have all:∀ (xs ys:List PV) (d e:Nat) (vs ws:List V) (f1 f2:List Addr) (us us':List va0),zvg (zkn n) xs ys=true->OwnL X.K H Z xs d vs f1->OwnL X.K H Z' ys e ws f2->Vals vs us->Vals ws us'->us.length=us'.length/\∀ j (h1:j < us.length) (h2:j < us'.length),SeqAt.EqAt A.in1 s us[j] us'[j] true:=λ xs=>by
   induction xs with
   | nil=>
    intro ys d e vs ws f1 f2 us us' h o1 o2 r1 r2
    cases ys with
    | cons _ _=>cases h
    | nil=>
     rw [OwnL] at o1 o2
     obtain ⟨rfl,_⟩:=o1
     obtain ⟨rfl,_⟩:=o2
     cases r1
     cases r2
     exact ⟨rfl,λ j h1 _=>nomatch h1⟩
   | cons x xs ih=>
    intro ys d e vs ws f1 f2 us us' h o1 o2 r1 r2
    cases ys with
    | nil=>cases h
    | cons y ys=>
     unfold zvg at h
     rw [ja3] at h
     rw [OwnL] at o1 o2
     obtain ⟨_,_,g1,g2,rfl,_,_,p1,p2⟩:=o1
     obtain ⟨_,_,k1,k2,rfl,_,_,q1,q2⟩:=o2
     cases r1 with
     | cons a1 a2=>
      cases r2 with
      | cons b1 b2=>
       have t:=ih ys d e _ _ g2 k2 _ _ h.2 p2 q2 a2 b2
       refine ⟨congrArg (·+ 1) t.1,λ j h1 h2=>?_⟩
       cases j with
       | zero=>exact qbs I n x y d e _ _ g1 k1 _ _ A.in1 (by have e:A.in1.units=A.units + 1:=rfl;omega) h.1 p1 q1 a1 b1
       | succ j=>exact t.2 j (jf4 h1) (jf4 h2)
  cases x with
  | non=>cases y <;> first | (cases h;done) | (rw [Own] at o1 o2;obtain ⟨rfl,_⟩:=o1;obtain ⟨rfl,_⟩:=o2;cases r1;cases r2;exact vf6 _)
  | bl b=>cases y <;> first | (cases h;done) | (rw [Own] at o1 o2;obtain ⟨rfl,_⟩:=o1;obtain ⟨rfl,_⟩:=o2;cases r1;cases r2;have e:=eq_of_beq (show (b == _)=true from h);subst e;exact vf6 _)
  | int i=>cases y <;> first | (cases h;done) | (rw [Own] at o1 o2;obtain ⟨rfl,_⟩:=o1;obtain ⟨rfl,_⟩:=o2;obtain ⟨t,rfl⟩:=r1;obtain ⟨t',rfl⟩:=r2;have e:=eq_of_beq (show (i == _)=true from h);subst e;have z:=SeqAt.EqAt.int_int (A:=A) (s:=s) i t i t';rwa [beq_self_eq_true] at z)
  | str i=>cases y <;> first | (cases h;done) | (rw [Own] at o1 o2;obtain ⟨rfl,_⟩:=o1;obtain ⟨rfl,_⟩:=o2;obtain ⟨t,rfl⟩:=r1;obtain ⟨t',rfl⟩:=r2;have e:=eq_of_beq (show (i == _)=true from h);subst e;have z:=SeqAt.EqAt.str_str (A:=A) (s:=s) i t i t';rwa [beq_self_eq_true] at z)
  | emp=>cases y <;> first | (cases h;done) | (rw [Own] at o1 o2;obtain ⟨_,a,rfl,ha⟩:=o1;obtain ⟨_,b,rfl,hb⟩:=o2;cases r1;cases r2;exact ql7 I ha hb (by omega))
  | dko=>cases h
  | lst xs=>
   cases y with
   | lst ys=>
    obtain ⟨a,ws,d',f,rfl,ha,ol⟩:=zze o1
    obtain ⟨b,ws',e',f',rfl,hb,ol'⟩:=zze o2
    cases r1
    cases r2
    obtain ⟨its,rv,p,_⟩:=I.list (.inl (.inl ha))
    obtain ⟨its',rv',p',_⟩:=I.list (.inl (.inl hb))
    have t:=all xs ys d' e' ws ws' f f' its its' h ol ol' rv rv'
    obtain ⟨ob,nn,e1,e2,e3,e4⟩:=p
    obtain ⟨ob',nn',e1',e2',e3',e4'⟩:=p'
    by_cases e:a=b
    ·subst e;exact vf6 _
    ·refine vi6 e ?_
     have z:=SeqAt.RcAt.lists (A:=A) (s:=s) (l:=a) (b:=b) (items:=its.toArray) (items2:=its'.toArray) (e:=λ _=>true) ⟨ob,e1,e2,nn,e4⟩ ⟨ob',e1',e2',nn',e4'⟩ (by simpa using t.1) (by omega) (λ j h1 h2=>by simpa using t.2 j (by simpa using h1) (by simpa using h2))
     rwa [zka λ _ _=>rfl] at z
   | _=>cases h
  | tup xs=>
   cases y with
   | tup ys=>
    rw [Own] at o1 o2
    obtain ⟨a,ws,rfl,ha,ol⟩:=o1
    obtain ⟨b,ws',rfl,hb,ol'⟩:=o2
    cases r1
    cases r2
    obtain ⟨its,rv,⟨ob,e1,e2,nn,e4⟩,_⟩:=I.tuple (.inl (.inl ha))
    obtain ⟨its',rv',⟨ob',e1',e2',nn',e4'⟩,_⟩:=I.tuple (.inl (.inl hb))
    have t:=all xs ys _ _ ws ws' _ _ its its' h ol ol' rv rv'
    by_cases e:a=b
    ·subst e;exact vf6 _
    ·refine vi6 e ?_
     have z:=SeqAt.RcAt.tuples (A:=A) (s:=s) (l:=a) (b:=b) (items:=its.toArray) (items2:=its'.toArray) (e:=λ _=>true) ⟨ob,e1,e2,nn,e4⟩ ⟨ob',e1',e2',nn',e4'⟩ (by omega) (λ j h1 h2=>by simpa using t.2 j (by simpa using h1) (by simpa using h2))
     have z2:((its.toArray.size == its'.toArray.size):Bool)=true:=by simpa using t.1
     rwa [zka λ _ _=>rfl,z2] at z
   | _=>cases h
  | scr ns=>cases y <;> cases h
  | dct _=>cases y <;> cases h
  | exn _=>cases y <;> cases h
theorem zgt {pins:List (Addr×Obj)}{s:va1}{Z Z':Addr->Prop} (I:L2.Inv X pins σ H s) {A:vc0} (hu:A.units + 64 < vf1):∀ (xs ys:List PV) (d e:Nat) (vs ws:List V) (f1 f2:List Addr) (us us':List va0),zvg (zkn 20) xs ys=true->OwnL X.K H Z xs d vs f1->OwnL X.K H Z' ys e ws f2->Vals vs us->Vals ws us'->us.length=us'.length/\∀ j (h1:j < us.length) (h2:j < us'.length),SeqAt.EqAt A.in1 s us[j] us'[j] true:=λ xs=>by
 induction xs with
 | nil=>
  intro ys d e vs ws f1 f2 us us' h o1 o2 r1 r2
  cases ys with
  | cons _ _=>cases h
  | nil=>
   rw [OwnL] at o1 o2
   obtain ⟨rfl,_⟩:=o1
   obtain ⟨rfl,_⟩:=o2
   cases r1
   cases r2
   exact ⟨rfl,λ j h1 _=>nomatch h1⟩
 | cons x xs ih=>
  intro ys d e vs ws f1 f2 us us' h o1 o2 r1 r2
  cases ys with
  | nil=>cases h
  | cons y ys=>
   unfold zvg at h
   rw [ja3] at h
   rw [OwnL] at o1 o2
   obtain ⟨_,_,g1,g2,rfl,_,_,p1,p2⟩:=o1
   obtain ⟨_,_,k1,k2,rfl,_,_,q1,q2⟩:=o2
   cases r1 with
   | cons a1 a2=>
    cases r2 with
    | cons b1 b2=>
     have t:=ih ys d e _ _ g2 k2 _ _ h.2 p2 q2 a2 b2
     refine ⟨congrArg (·+ 1) t.1,λ j h1 h2=>?_⟩
     cases j with
     | zero=>exact qbs I 20 x y d e _ _ g1 k1 _ _ A.in1 (by have e:A.in1.units=A.units + 1:=rfl;omega) h.1 p1 q1 a1 b1
     | succ j=>exact t.2 j (jf4 h1) (jf4 h2)
theorem zgs {pins:List (Addr×Obj)}{s:va1}{Z Z':Addr->Prop} (I:L2.Inv X pins σ H s) {xs ys:List PV}{d e:Nat}{v w:V}{f1 f2:List Addr}{u u':va0}{A:vc0} (hu:A.units + 64 < vf1) (h:zvg (zkn 20) xs ys=true) (o1:Own X.K H Z (.lst xs) d v f1) (o2:Own X.K H Z' (.lst ys) e w f2) (r1:RelV v u) (r2:RelV w u'):SeqAt.RcAt A s u u' true/\vj8 A s u u' false:=by
 obtain ⟨a,ws,d',f,rfl,ha,ol⟩:=zze o1
 obtain ⟨b,ws',e',f',rfl,hb,ol'⟩:=zze o2
 cases r1
 cases r2
 obtain ⟨its,rv,⟨ob,nn,e1,e2,e3,e4⟩,_⟩:=I.list (.inl (.inl ha))
 obtain ⟨its',rv',⟨ob',nn',e1',e2',e3',e4'⟩,_⟩:=I.list (.inl (.inl hb))
 have t:=zgt I hu xs ys d' e' ws ws' f f' its its' h ol ol' rv rv'
 have z:=SeqAt.RcAt.lists (A:=A) (s:=s) (l:=a) (b:=b) (items:=its.toArray) (items2:=its'.toArray) (e:=λ _=>true) ⟨ob,e1,e2,nn,e4⟩ ⟨ob',e1',e2',nn',e4'⟩ (by simpa using t.1) (by omega) (λ j h1 h2=>by simpa using t.2 j (by simpa using h1) (by simpa using h2))
 have z':=SeqAt.RcNeAt.lists (A:=A) (s:=s) (l:=a) (b:=b) (items:=its.toArray) (items2:=its'.toArray) (e:=λ _=>true) ⟨ob,e1,e2,nn,e4⟩ ⟨ob',e1',e2',nn',e4'⟩ (by simpa using t.1) (by omega) (λ j h1 h2=>by simpa using t.2 j (by simpa using h1) (by simpa using h2))
 rw [zka λ _ _=>rfl] at z z'
 exact ⟨z,z'⟩
theorem zpu {pins:List (Addr×Obj)}{s:va1}{Z Z':Addr->Prop} (I:L2.Inv X pins σ H s) {xs ys:List PV}{d e:Nat}{v w:V}{f1 f2:List Addr}{u u':va0}{A:vc0} (hu:A.units + 64 < vf1) (h:zvg (zkn 20) xs ys=true) (o1:Own X.K H Z (.tup xs) d v f1) (o2:Own X.K H Z' (.tup ys) e w f2) (r1:RelV v u) (r2:RelV w u'):SeqAt.RcAt A s u u' true/\vj8 A s u u' false:=by
 rw [Own] at o1
 rw [Own] at o2
 obtain ⟨a,ws,rfl,ha,ol⟩:=o1
 obtain ⟨b,ws',rfl,hb,ol'⟩:=o2
 cases r1
 cases r2
 obtain ⟨its,rv,⟨ob,e1,e2,nn,e4⟩,_⟩:=I.tuple (.inl (.inl ha))
 obtain ⟨its',rv',⟨ob',e1',e2',nn',e4'⟩,_⟩:=I.tuple (.inl (.inl hb))
 have t:=zgt I hu xs ys _ _ ws ws' _ _ its its' h ol ol' rv rv'
 have z:=SeqAt.RcAt.tuples (A:=A) (s:=s) (l:=a) (b:=b) (items:=its.toArray) (items2:=its'.toArray) (e:=λ _=>true) ⟨ob,e1,e2,nn,e4⟩ ⟨ob',e1',e2',nn',e4'⟩ (by omega) (λ j h1 h2=>by simpa using t.2 j (by simpa using h1) (by simpa using h2))
 have z':=SeqAt.RcNeAt.tuples (A:=A) (s:=s) (l:=a) (b:=b) (items:=its.toArray) (items2:=its'.toArray) (e:=λ _=>true) ⟨ob,e1,e2,nn,e4⟩ ⟨ob',e1',e2',nn',e4'⟩ (by omega) (λ j h1 h2=>by simpa using t.2 j (by simpa using h1) (by simpa using h2))
 have z2:((its.toArray.size == its'.toArray.size):Bool)=true:=by simpa using t.1
 rw [zka λ _ _=>rfl,z2] at z z'
 exact ⟨z,z'⟩
theorem qco {pins:List (Addr×Obj)}{s:va1}{Z Z':Addr->Prop} (I:L2.Inv X pins σ H s) {xs ys:List PV}{d e:Nat}{v w:V}{f1 f2:List Addr}{u u':va0}{A:vc0} (hu:A.units + 64 < vf1) (h:xs.length≠ys.length) (o1:Own X.K H Z (.lst xs) d v f1) (o2:Own X.K H Z' (.lst ys) e w f2) (r1:RelV v u) (r2:RelV w u'):SeqAt.RcAt A s u u' false/\vj8 A s u u' true:=by
 obtain ⟨a,ws,d',f,rfl,ha,ol⟩:=zze o1
 obtain ⟨b,ws',e',f',rfl,hb,ol'⟩:=zze o2
 cases r1
 cases r2
 obtain ⟨its,rv,⟨ob,nn,e1,e2,e3,e4⟩,_⟩:=I.list (.inl (.inl ha))
 obtain ⟨its',rv',⟨ob',nn',e1',e2',e3',e4'⟩,_⟩:=I.list (.inl (.inl hb))
 have hl:(its.toArray.size != its'.toArray.size)=true:=by
  have h1:=rv.length
  have h2:=rv'.length
  rw [ol.length] at h1
  rw [ol'.length] at h2
  simp only [jb2,bne_iff_ne]
  omega
 exact ⟨SeqAt.RcAt.lists_lengths ⟨ob,e1,e2,nn,e4⟩ ⟨ob',e1',e2',nn',e4'⟩ hl (by omega),SeqAt.RcNeAt.lists_lengths ⟨ob,e1,e2,nn,e4⟩ ⟨ob',e1',e2',nn',e4'⟩ hl (by omega)⟩
theorem qc8 {pins:List (Addr×Obj)}{s:va1}{Z Z':Addr->Prop} (I:L2.Inv X pins σ H s) {d e:Nat}{v w:V}{f1 f2:List Addr}{u u':va0}{A:vc0} (hu:A.units < vf1) (o1:Own X.K H Z .emp d v f1) (o2:Own X.K H Z' .emp e w f2) (r1:RelV v u) (r2:RelV w u'):SeqAt.RcAt A s u u' true/\vj8 A s u u' false:=by
 rw [Own] at o1
 rw [Own] at o2
 obtain ⟨_,a,rfl,ha⟩:=o1
 obtain ⟨_,b,rfl,hb⟩:=o2
 cases r1
 cases r2
 obtain ⟨_,z1,vs,k1,d1⟩:=qaw I.hok ha
 obtain ⟨_,z2,ws,k2,d2⟩:=qaw I.hok hb
 cases k1
 cases k2
 exact ⟨λ prog w E Q hq=>PySem.W.keq_eq (knd:=zxh prog w) (r:=true) z1 z2 (zjs d1) (zjs d2) hu (λ _=>.nil) (by simpa using hq),λ prog w E Q hq=>PySem.W.keq_ne (knd:=zxh prog w) (r:=true) z1 z2 (zjs d1) (zjs d2) hu (λ _=>.nil) (by simpa using hq)⟩
def rEqD (K:Frag) (neg:Bool):R2:=λ v w H Q=>∃ x y d e Z Z' f1 f2,Own K H Z x d v f1/\Own K H Z' y e w f2/\((∃ a b,toD 20 x=some a/\toD 20 y=some b/\Q (.bl (neg^^vd9 a b)) H)\/(∃ xs ys,x=.lst xs/\y=.lst ys/\zvg (zkn 20) xs ys=true/\Q (.bl (neg^^true)) H)\/(∃ xs ys,x=.lst xs/\y=.lst ys/\xs.length≠ys.length/\Q (.bl (neg^^false)) H)\/(∃ a b,x=.str a/\y=.str b/\Q (.bl (neg^^(a == b))) H)\/(x=.emp/\y=.emp/\Q (.bl (neg^^true)) H)\/∃ xs ys,x=.tup xs/\y=.tup ys/\zvg (zkn 20) xs ys=true/\Q (.bl (neg^^true)) H)
theorem qlk (hu:X.A.units + 64 < vf1):OpR X (vb4 .Eq) (rEqD X.K false):=by
 intro pins s σ H v w u u' Q I rx ry h
 obtain ⟨x,y,d,e,Z,Z',f1,f2,o1,o2,⟨a,b,h1,h2,q⟩ | ⟨xs,ys,rfl,rfl,h,q⟩ | ⟨xs,ys,rfl,rfl,h,q⟩ | ⟨a,b,rfl,rfl,q⟩ | ⟨rfl,rfl,q⟩ | ⟨xs,ys,rfl,rfl,h,q⟩⟩:=h
 ·obtain ⟨as,ra⟩:=zxz I 20 x d v f1 u a h1 o1 rx
  obtain ⟨bs,rb⟩:=zxz I 20 y e w f2 u' b h2 o2 ry
  have l1:=zwe 20 x a h1
  have l2:=zwe 20 y b h2
  exact SeqAt.compareEq_reads ra rb l1.1 l2.1 (by have:=jm4 a.depth b.depth;omega) ⟨.bl _,H,I,rfl,by simpa using q⟩
 ·exact (zgs I hu h o1 o2 rx ry).1 _ _ _ _ ⟨.bl _,H,I,rfl,q⟩
 ·exact (qco I hu h o1 o2 rx ry).1 _ _ _ _ ⟨.bl _,H,I,rfl,q⟩
 ·rw [Own] at o1 o2
  obtain ⟨rfl,_⟩:=o1
  obtain ⟨rfl,_⟩:=o2
  obtain ⟨t,rfl⟩:=rx
  obtain ⟨t',rfl⟩:=ry
  exact SeqAt.RcAt.str_str a t b t' _ _ _ _ ⟨.bl _,H,I,rfl,by simpa using q⟩
 ·exact (qc8 I (by omega) o1 o2 rx ry).1 _ _ _ _ ⟨.bl _,H,I,rfl,q⟩
 ·exact (zpu I hu h o1 o2 rx ry).1 _ _ _ _ ⟨.bl _,H,I,rfl,q⟩
theorem qla (hu:X.A.units + 64 < vf1):OpR X (vb4 .NotEq) (rEqD X.K true):=by
 intro pins s σ H v w u u' Q I rx ry h
 obtain ⟨x,y,d,e,Z,Z',f1,f2,o1,o2,⟨a,b,h1,h2,q⟩ | ⟨xs,ys,rfl,rfl,h,q⟩ | ⟨xs,ys,rfl,rfl,h,q⟩ | ⟨a,b,rfl,rfl,q⟩ | ⟨rfl,rfl,q⟩ | ⟨xs,ys,rfl,rfl,h,q⟩⟩:=h
 ·obtain ⟨as,ra⟩:=zxz I 20 x d v f1 u a h1 o1 rx
  obtain ⟨bs,rb⟩:=zxz I 20 y e w f2 u' b h2 o2 ry
  have l1:=zwe 20 x a h1
  have l2:=zwe 20 y b h2
  exact SeqAt.compareNe_reads ra rb l1.1 l2.1 (by have:=jm4 a.depth b.depth;omega) ⟨.bl _,H,I,rfl,by simpa using q⟩
 ·exact (zgs I hu h o1 o2 rx ry).2 _ _ _ _ ⟨.bl _,H,I,rfl,q⟩
 ·exact (qco I hu h o1 o2 rx ry).2 _ _ _ _ ⟨.bl _,H,I,rfl,q⟩
 ·rw [Own] at o1 o2
  obtain ⟨rfl,_⟩:=o1
  obtain ⟨rfl,_⟩:=o2
  obtain ⟨t,rfl⟩:=rx
  obtain ⟨t',rfl⟩:=ry
  exact SeqAt.RcNeAt.str_str a t b t' _ _ _ _ ⟨.bl _,H,I,rfl,by simpa using q⟩
 ·exact (qc8 I (by omega) o1 o2 rx ry).2 _ _ _ _ ⟨.bl _,H,I,rfl,q⟩
 ·exact (zpu I hu h o1 o2 rx ry).2 _ _ _ _ ⟨.bl _,H,I,rfl,q⟩
theorem zhf {neg:Bool}{x y z:PV}{d e c:Nat}{v w:V}{fps:Fps}{f1 f2 F:List Addr}{Z Z':Addr->Prop} (hK:M.K=X.K) (ho:opEq neg x d y e=some (z,c)) (o1:Own M.K H Z x d v f1) (o2:Own M.K H Z' y e w f2) (lf:Leaf M H fps vs F z c Q):rEqD X.K neg v w H Q:=by
 rw [hK] at o1 o2
 refine ⟨x,y,d,e,Z,Z',f1,f2,o1,o2,?_⟩
 unfold opEq at ho
 split at ho
 ·rename_i a b ea eb
  cases ho
  exact .inl ⟨a,b,ea,eb,zxi lf⟩
 ·split at ho
  ·rename_i xs ys _
   split at ho
   ·rename_i hc
    cases ho
    exact .inr (.inl ⟨xs,ys,rfl,rfl,hc,zxi lf⟩)
   ·split at ho
    ·rename_i hc
     cases ho
     exact .inr (.inr (.inl ⟨xs,ys,rfl,rfl,hc,zxi lf⟩))
    ·cases ho
  ·rename_i a b _
   cases ho
   exact .inr (.inr (.inr (.inl ⟨a,b,rfl,rfl,zxi lf⟩)))
  ·cases ho
   exact .inr (.inr (.inr (.inr (.inl ⟨rfl,rfl,zxi lf⟩))))
  ·rename_i xs ys _
   split at ho
   ·rename_i hc
    cases ho
    exact .inr (.inr (.inr (.inr (.inr ⟨xs,ys,rfl,rfl,hc,zxi lf⟩))))
   ·cases ho
  ·cases ho
def isNon:PV->Bool
 | .non=>true
 | _=>false
def opIs (neg:Bool):PV->Nat->PV->Nat->Option (PV×Nat)
 | .bl a,_,.bl b,_=>some (.bl (neg^^(a == b)),om)
 | x,_,.non,_=>some (.bl (neg^^isNon x),om)
 | _,_,_,_=>none
theorem qlg:OpR X (vb4 .Is) (λ x y H Q=>∃ i j,x=.bl i/\y=.bl j/\Q (.bl (i == j)) H):=by
 intro pins s σ H x y v u Q I rx ry h
 obtain ⟨i,j,rfl,rfl,q⟩:=h
 cases rx
 cases ry
 exact is_bool ⟨.bl _,H,I,rfl,q⟩
theorem qce:OpR X (vb4 .IsNot) (λ x y H Q=>∃ i j,x=.bl i/\y=.bl j/\Q (.bl (i != j)) H):=by
 intro pins s σ H x y v u Q I rx ry h
 obtain ⟨i,j,rfl,rfl,q⟩:=h
 cases rx
 cases ry
 exact isnot_bool ⟨.bl _,H,I,rfl,q⟩
theorem Own.isNon {K:Frag}{Z:Addr->Prop}{x:PV}{d:Nat}{v:V}{fp:List Addr} (o:Own K H Z x d v fp):decide (v=.non)=QQ.isNon x:=by
 cases x with
 | non=>rw [Own] at o;rw [o.1];rfl
 | bl b=>rw [Own] at o;rw [o.1];rfl
 | int b=>rw [Own] at o;rw [o.1];rfl
 | str b=>rw [Own] at o;rw [o.1];rfl
 | emp=>rw [Own] at o;obtain ⟨_,a,rfl,_⟩:=o;rfl
 | dko=>rw [Own] at o;obtain ⟨_,a,rfl,_⟩:=o;rfl
 | scr ns=>rw [Own] at o;obtain ⟨_,a,rfl,_⟩:=o;rfl
 | exn c=>rw [Own] at o;obtain ⟨_,a,_,rfl,_⟩:=o;rfl
 | dct kvs=>rw [Own] at o;obtain ⟨a,rfl,_⟩:=o;rfl
 | lst xs=>rw [Own] at o;obtain ⟨a,ws,rfl,_⟩:=o;rfl
 | tup xs=>rw [Own] at o;obtain ⟨a,ws,rfl,_⟩:=o;rfl
theorem qcq {x y z:PV}{d e c:Nat}{v w:V}{fps:Fps}{f1 f2 F:List Addr}{Z Z':Addr->Prop}{neg:Bool} (ho:opIs neg x d y e=some (z,c)) (o1:Own M.K H Z x d v f1) (o2:Own M.K H Z' y e w f2) (lf:Leaf M H fps vs F z c Q):(∃ i j,v=.bl i/\w=.bl j/\Q (.bl (neg^^(i == j))) H)\/(w=.non/\Q (.bl (neg^^decide (v=.non))) H):=by
 unfold opIs at ho
 split at ho
 ·cases ho
  rw [Own] at o1 o2
  exact .inl ⟨_,_,o1.1,o2.1,zxi lf⟩
 ·cases ho
  rw [Own] at o2
  rw [o1.isNon]
  exact .inr ⟨o2.1,zxi lf⟩
 ·cases ho
def zqd:PV->Nat->PV->Nat->Option (PV×Nat)
 | .lst xs,_,.int i,_=>(atI xs i).map λ z=>(z,dv z)
 | .tup xs,_,.int i,_=>(atI xs i).map λ z=>(z,dv z)
 | .scr ns,_,.int i,_=>(atI ns i).map λ z=>(.int z,om)
 | .str z,_,.int i,_=>if z.length<=va2 then (atI z.cps.toList i).map λ c=>(.str ⟨#[c]⟩,om) else none
 | _,_,_,_=>none
theorem zgh {K:Frag}{Z:Addr->Prop}{xs:List PV}{ws:List V}{i:Int}{z:PV} (ol:OwnL K H Z xs 0 ws []) (e:atI xs i=some z):∃ w,atI ws i=some w/\Own K H Z z 0 w []:=by
 unfold atI at e ⊢
 rw [ol.length]
 cases ej:ixN xs.length i with
 | none=>rw [ej] at e;cases e
 | some j=>rw [ej] at e;exact ol.nth e
theorem qfx (hv:∀ i∈vs,M.Ms i=false) (hK:M.K=X.K) (hs:zpi b) (ha:PE X a (tE M f vs)) (hb:PE X b (tE M g vs')):PE X (.Subscript a b pos) (tE M (bBin zqd f g) (vs++vs')):=by
 refine zqi (qb9 qf8 ha hb hs) λ σ H Q h=>zwh hv (λ x d y e z c v w H fps f1 f2 Q ho o1 o2 dj nz zd lf=>?_) h
 cases y with
 | int i=>
  rw [Own] at o2
  cases x with
  | lst xs=>
   dsimp only [zqd] at ho
   obtain ⟨z',ez,e2⟩:=ja5.mp ho
   cases e2
   obtain ⟨p,ws,rfl,hp,ol⟩:=(cold o1 λ a ha=>nz a (ja4 _ ha)).coldL
   obtain ⟨w',e1,ow⟩:=zgh ol ez
   exact .inl ⟨p,ws,i,w',rfl,o2.1,.inl (.inl hp),e1,zwz lf ow⟩
  | tup xs=>
   dsimp only [zqd] at ho
   obtain ⟨z',ez,e2⟩:=ja5.mp ho
   cases e2
   obtain ⟨p,ws,rfl,hp,ol⟩:=(cold o1 λ a ha=>nz a (ja4 _ ha)).coldT
   obtain ⟨w',e1,ow⟩:=zgh ol ez
   exact .inr (.inl ⟨p,ws,i,w',rfl,o2.1,.inl (.inl hp),e1,zwz lf ow⟩)
  | scr ns=>
   dsimp only [zqd] at ho
   obtain ⟨z',ez,e2⟩:=ja5.mp ho
   cases e2
   rw [Own] at o1
   obtain ⟨_,p,rfl,hp⟩:=o1
   refine .inl ⟨p,ns.map V.int,i,.int z',rfl,o2.1,?_,?_,zqv lf⟩
   ·rw [<- hK]
    exact hp.elim (λ h=>.inl (.inr h)) .inr
   ·unfold atI at ez ⊢
    rw [jb5]
    cases ej:ixN ns.length i with
    | none=>rw [ej] at ez;cases ez
    | some j=>
     rw [ej] at ez
     show (ns.map V.int)[j]?=_
     rw [jd2]
     have:ns[j]?=some z':=ez
     rw [this];rfl
  | str z=>
   dsimp only [zqd] at ho
   split at ho
   ·rename_i hl
    obtain ⟨c',ez,e2⟩:=ja5.mp ho
    cases e2
    rw [Own] at o1
    exact .inr (.inr ⟨z,i,c',o1.1,o2.1,hl,ez,zzh lf⟩)
   ·cases ho
  | _=>cases ho
 | _=>cases x <;> cases ho
def evO:Option Fx->Rho->Rz (Option Int×Rho)
 | none,ρ=>.ok (none,ρ)
 | some f,ρ=>(f ρ).bind λ (x,_,ρ1)=>match x with
  | .int i=>.ok (some i,ρ1)
  | _=>.no
def cutP (xs:List PV) (lo hi:Option Int):List PV:=(xs.drop (HT.sIx xs.length 0 lo)).take (HT.sIx xs.length xs.length hi - HT.sIx xs.length 0 lo)
def opSl (x:PV) (lo hi:Option Int):Option (PV×Nat):=match x with
 | .lst xs=>some (.lst (cutP xs lo hi),d1 (cutP xs lo hi))
 | .tup xs=>if HT.sIx xs.length 0 lo=0/\HT.sIx xs.length xs.length hi=xs.length then none else some (.tup (cutP xs lo hi),0)
 | .str z=>if z.length<=va2 then some (.str (ve4 z lo hi),om) else none
 | _=>none
def bSl (f:Fx) (lo hi:Option Fx):Fx:=λ ρ=>(f ρ).bind λ (x,_,ρ1)=>(evO lo ρ1).bind λ (l,ρ2)=>(evO hi ρ2).bind λ (u,ρ3)=>match opSl x l u with
 | some (z,c)=>.ok (z,c,ρ3)
 | none=>.no
def tO (M:Fm):Option (Fx×List Nat)->TO
 | none=>qbc
 | some (f,vs)=>qj4 (tE M f vs)
theorem qbb {o:Option (Fx×List Nat)}{ρ:Rho}{fps:Fps}{R:Option Int->Hp->Prop} (rep:Rep M ρ σ H fps)
  (q:match evO (o.map (·.1)) ρ with
   | .ok (l,ρ')=>∀ H' fps',KD M H fps H' fps'->Agr M ρ ρ'->Rep M ρ' σ H' fps'->R l H'
   | .exc c=>∀ H' fps',KD M H fps H' fps'->M.W σ c H'
   | .no=>False):tO M o σ H R:=by
 cases o with
 | none=>exact q H fps KD.refl Agr.refl rep
 | some p=>
  obtain ⟨f,vs⟩:=p
  refine ⟨ρ,fps,rep,?_⟩
  dsimp only [Option.map,evO] at q
  cases ef:f ρ with
  | no=>rw [ef] at q;exact q
  | exc c=>rw [ef] at q;exact q
  | ok p=>
   obtain ⟨x,d,ρ1⟩:=p
   rw [ef] at q
   intro v H1 fps1 f1 k1 g1 rep1 o1 t1
   dsimp only [Rz.bind] at q
   cases x with
   | int i=>rw [Own] at o1;exact ⟨i,o1.1,q H1 fps1 k1 g1 rep1⟩
   | _=>exact q.elim
def rSlS:V->Option Int->Option Int->Hp->VK->Prop:=λ x lo hi H Q=>∃ z,x=.str z/\z.length<=va2/\Q (.str (ve4 z lo hi)) H
theorem qbo:SlR X rSlS:=by
 intro pins s σ H x v vl vu lo hi sl Q I rx hs pl pu h
 obtain ⟨z,rfl,hz,q⟩:=h
 obtain ⟨t,rfl⟩:=rx
 have go:∀ (l u:Option (Int×Tok)),vl=partValue l->vu=partValue u->l.map (·.1)=lo->u.map (·.1)=hi->∃ T id,typeLookup (.type T) "__getitem__" = pure (some (.builtin id))/\s.TypeIs (.str z t) T/\vb2 (vb3 X.prog X.w) X.A (getItem (.str z t) (.ref sl)) (EP X pins σ Q) X.xe s:=by
  rintro l u rfl rfl rfl rfl
  refine ⟨"str",_,F.slot_str_getitem.lookup,vg5 _ _ _,wpAny_getItem_str_slice (l:=l) (u:=u) (st:=none) hs rfl (post_val_or_str ⟨jc4 (vj7 z _ _) hz,λ t' k=>⟨.str _,H,I.tok _,⟨_,rfl⟩,q⟩⟩)⟩
 cases pl with
 | none=>
  cases pu with
  | none=>exact go none none rfl rfl rfl rfl
  | int j uj=>exact go none (some (j,uj)) rfl rfl rfl rfl
 | int i ui=>
  cases pu with
  | none=>exact go (some (i,ui)) none rfl rfl rfl rfl
  | int j uj=>exact go (some (i,ui)) (some (j,uj)) rfl rfl rfl rfl
theorem qhb {lo hi:Option (Fx×List Nat)} (hv:∀ i∈vs,M.Ms i=false) (hK:M.K=X.K) {σ:St}{H:Hp}{Q:VK} (hq:tE M (bSl f (lo.map (·.1)) (hi.map (·.1))) vs σ H Q):tSl (λ x lo hi H Q=>rSlL X.K x lo hi H Q\/(rSlT X.K x lo hi H Q\/rSlS x lo hi H Q)) (tE M f vs) (tO M lo) (tO M hi) σ H Q:=by
 obtain ⟨ρ,fps,rep,q⟩:=hq
 refine ⟨ρ,fps,rep,?_⟩
 unfold bSl at q
 cases ef:f ρ with
 | no=>rw [ef] at q;exact q
 | exc c=>rw [ef] at q;exact q
 | ok p=>
  obtain ⟨x,d,ρ1⟩:=p
  rw [ef] at q
  intro v H1 fps1 f1 k1 g1 rep1 o1 t1
  dsimp only [Rz.bind] at q
  refine qbb rep1 ?_
  cases el:evO (lo.map (·.1)) ρ1 with
  | no=>rw [el] at q;exact q
  | exc c=>rw [el] at q;exact λ H' fps' k=>q H' fps' (k1.trans k)
  | ok p2=>
   obtain ⟨l,ρ2⟩:=p2
   rw [el] at q
   intro H2 fps2 k2 g2 rep2
   refine qbb rep2 ?_
   dsimp only at q
   cases eh:evO (hi.map (·.1)) ρ2 with
   | no=>rw [eh] at q;exact q
   | exc c=>rw [eh] at q;exact λ H' fps' k=>q H' fps' ((k1.trans k2).trans k)
   | ok p3=>
    obtain ⟨u,ρ3⟩:=p3
    rw [eh] at q
    intro H3 fps3 k3 g3 rep3
    dsimp only at q
    have kk:=k2.trans k3
    have o3:=kk.stay rep1 hv o1 t1.ndj
    have n3:∀ a∈f1,¬ Zf M fps3 a:=λ a ha z=>by
     rcases z with z | ⟨i,z⟩
     ·exact t1.ndj a ha (.inl z)
     ·rcases kk.sub i a z with z | z
      ·exact t1.ndj a ha (.inr ⟨i,z⟩)
      ·obtain ⟨xs,e⟩:=Own.lsts x d v f1 o1 a ha
       rw [z] at e;cases e
    have back:∀ a,H3 a=none->H a=none:=λ a e=>by
     cases e':H a with
     | none=>rfl
     | some o=>exact absurd e ((k1.trans kk).dom a (by rw [e'];simp))
    cases eo:opSl x l u with
    | none=>rw [eo] at q;exact q.elim
    | some zc=>
     obtain ⟨z,c⟩:=zc
     rw [eo] at q
     have lf:Leaf M H3 fps3 vs f1 z c Q:=λ w H4 fp k4 o4 hfp=>q w H4 fps3 fp ((k1.trans kk).trans (KD.grow k4)) (g1.trans (g2.trans g3)) (rep3.grow k4) o4 ⟨λ a ha=>(hfp a ha).elim (t1.new a) (back a),λ a ha=>(hfp a ha).elim (n3 a) λ z=>rep3.nz z⟩
     have c0:=cold o3 n3
     unfold opSl at eo
     cases x with
     | lst xs=>
      cases eo
      obtain ⟨p,ws,rfl,hp,ol⟩:=c0.coldL
      refine .inl ⟨p,ws,rfl,.inl (.inl hp),λ q hq=>?_⟩
      have e:OwnL M.K H3 (Zv M vs fps3) (cutP xs l u) 0 (cutV ws l u) []:=by
       unfold cutP cutV
       rw [ol.length]
       exact (ol.drop _).take _
      exact zxy lf e hq
     | tup xs=>
      dsimp only at eo
      split at eo
      ·cases eo
      ·rename_i hw
       cases eo
       obtain ⟨p,ws,rfl,hp,ol⟩:=c0.coldT
       refine .inr (.inl ⟨p,ws,rfl,.inl (.inl hp),by rw [ol.length];exact hw,λ q hq=>?_⟩)
       have e:OwnL M.K H3 (Zv M vs fps3) (cutP xs l u) 0 (cutV ws l u) []:=by
        unfold cutP cutV
        rw [ol.length]
        exact (ol.drop _).take _
       exact zkr lf e hq
     | str z=>
      dsimp only at eo
      split at eo
      ·rename_i hz
       cases eo
       rw [Own] at o3
       exact .inr (.inr ⟨z,o3.1,hz,zzh lf⟩)
      ·cases eo
     | _=>cases eo
def zpn:PV->String
 | .non => "NoneType"
 | .bl _ => "bool"
 | .int _ => "int"
 | .str _ => "str"
 | .lst _ => "list"
 | .tup _ => "tuple"
 | .emp => "dict"
 | .dko => "dict"
 | .dct _ => "dict"
 | _ => ""
def isiB (t T:String):Bool:=t == T || (t == "bool" && T == "int")
def isiT:List String:=["int","bool","str","list","tuple","dict"]
def zqm (T:String) (x:PV) (_:Nat):Option (PV×Nat):=match x with
 | .scr _=>none
 | .exn _=>none
 | _=>some (.bl (isiB (zpn x) T),om)
theorem Own.ty {K:Frag}{Z:Addr->Prop}{x:PV}{d:Nat}{v:V}{fp:List Addr} (h:Own K H Z x d v fp) (hs:∀ ns,x≠.scr ns) (hx:∀ c,x≠.exn c):TyOf K H v (.type (zpn x)):=by
 cases x with
 | non=>rw [Own] at h;rw [h.1];exact .non
 | bl b=>rw [Own] at h;rw [h.1];exact .bl b
 | int i=>rw [Own] at h;rw [h.1];exact .int i
 | str s=>rw [Own] at h;rw [h.1];exact .str s
 | emp=>rw [Own] at h;obtain ⟨_,a,e,ha⟩:=h;rw [e];exact .dK ha
 | dko=>rw [Own] at h;obtain ⟨_,a,e,_,ha⟩:=h;rw [e];exact .dK ha
 | scr ns=>exact absurd rfl (hs ns)
 | exn c=>exact absurd rfl (hx c)
 | dct kvs=>
  rw [Own] at h
  obtain ⟨a,e,⟨_,hr,_⟩ | ⟨_,ha,_⟩⟩:=h
  ·rw [e];exact .dT hr.1
  ·rw [e];exact .dT ha
 | lst xs=>
  rw [Own] at h
  obtain ⟨a,ws,e,⟨_,hr,_,_⟩ | ⟨_,f,ha,_⟩⟩:=h
  ·rw [e];exact .lst hr.1
  ·rw [e];exact .lst ha
 | tup xs=>
  rw [Own] at h
  obtain ⟨a,ws,e,hr,_⟩:=h
  rw [e];exact .tup hr
end
section
variable {X:Cx}{M:Fm}{a b:Expr}{f g:Fx}{fa:Fa}{vs vs':List Nat}{pos p:Pos}{σ:St}{H:Hp}{Q:VK}{e:Expr}{es:List Expr}
theorem qkq:PA X [] (tL M aNil []):=qf6 zvc λ σ H Q h=>qj7 h
theorem qhr (hv:∀ i∈vs,M.Ms i=false) (ha:PE X e (tE M f vs)) (hr:PA X es (tL M fa vs')) (hs:va3 (e::es) X.env=(false,eval e X.env)::va3 es X.env):PA X (e::es) (tL M (zqa f fa) (vs++vs')):=
 qf6 (zxp ha hr hs) λ σ H Q h=>qha hv h
theorem zwk {op:List (PV×Nat)->Option (PV×Nat)}{r:List V->Hp->VK->Prop}
  (leaf:∀ xs z c ws H fps fp Q,op xs=some (z,c)->Tmps M.K H (Zv M vs fps) xs ws fp->(∀ a∈fp,¬ Zf M fps a)->(∀ a,Zf M fps a->H a≠none)->Leaf M H fps vs fp z c Q->r ws H Q)
  {σ:St}{H:Hp}{Q:VK} (hq:tE M (zqb op fa) vs σ H Q):tCB r (tL M fa vs) σ H Q:=zya leaf hq
def zxb (xs:List (PV×Nat)):Option (PV×Nat):=if xs.length<=va2 then some (.lst (xs.map (·.1)),if zkj xs then om else 1) else none
def zwt (xs:List (PV×Nat)):Option (PV×Nat):=if xs.length<=va2 then some (.tup (xs.map (·.1)),if zkj xs then om else 0) else none
theorem qki (h:PA X es (tL M fa vs)):PE X (.List es pos) (tE M (zqb zxb fa) vs):=by
 refine zqi (qf3 h) λ σ H Q h=>zya (r:=λ xs H1 Q=>xs.length<=va2/\∀ p,H1 p=none->Q (.ref p) (upd H1 p (.lst xs))) (λ xs z c ws H fps fp Q ho tm nz zd lf=>?_) h
 unfold zxb at ho
 split at ho
 ·rename_i hl
  refine ⟨by rw [tm.length];exact hl,λ q hq=>?_⟩
  cases eo:zkj xs with
  | true=>rw [eo] at ho;cases ho;exact zkg lf (tm.all (zkb eo)) hq
  | false=>rw [eo] at ho;cases ho;exact zyi lf (tm.cold λ a ha z=>nz a ha z.zf) hq
 ·cases ho
theorem qkd {x1:_} (h:PA X es (tL M fa vs)):PE X (.Tuple es x1 pos) (tE M (zqb zwt fa) vs):=by
 refine zqi (qf1 h) λ σ H Q h=>zya (r:=λ xs H1 Q=>xs.length<=va2/\∀ p,H1 p=none->Q (.ref p) (upd H1 p (.tup xs))) (λ xs z c ws H fps fp Q ho tm nz zd lf=>?_) h
 unfold zwt at ho
 split at ho
 ·rename_i hl
  refine ⟨by rw [tm.length];exact hl,λ q hq=>?_⟩
  cases eo:zkj xs with
  | true=>rw [eo] at ho;cases ho;exact qcp lf (tm.all (zkb eo)) hq
  | false=>rw [eo] at ho;cases ho;exact zkr lf (tm.cold λ a ha z=>nz a ha z.zf) hq
 ·cases ho
theorem Inv.big {pins:List (Addr×Obj)}{s:va1} (I:L2.Inv X pins σ H s):vd4 < s.heap.objs.size:=by
 have h:vc2 < s.heap.objs.size:=(I.mod.glob.keeps I.bk).lt
 exact jj9 (by decide) h
theorem qh2:PE X (.Dict [] [] pos) (λ _ H Q=>∀ p,H p=none->Q (.ref p) (upd H p (.dK []))):=λ pins s σ H Q I h=>
 wpAny_Dict_empty ⟨.ref s.heap.objs.size,_,I.laid (a:=s.heap.objs.size) (o:=.dK []) (t':=s.toks) (λ _ _ q=>va4 _ q) (jb4 _) ⟨jf7 _,beq_eq_false_iff_ne.mpr (vc1 (jc3 (Inv.big I))),[],.nil,Heap.DictOf.new s.heap⟩,rfl,h _ (I.hok.fresh (jb4 _))⟩
theorem qkl:PE X (.Dict [] [] pos) (tE M (bC .emp) []):=by
 refine zqi qh2 λ σ H Q h p hp=>?_
 obtain ⟨ρ,fps,rep,q⟩:=h
 refine q (.ref p) _ fps [] (KD.grow (zxf hp)) Agr.refl (rep.grow (zxf hp)) ?_ ⟨λ _ z=>(nomatch z),λ _ z=>nomatch z⟩
 rw [Own]
 exact ⟨rfl,p,rfl,zqh⟩
theorem qfe:zws X (.builtin "isinstance") (λ xs H Q=>∃ x t T k,xs=[x,.ty T]/\TyOf X.K H x t/\vb9 X.K t (.type T)=some k/\Q (.bl k) H):=by
 intro pins s σ H xs us Q I r h
 obtain ⟨x,t,T,k,rfl,ty,hk,q⟩:=h
 obtain ⟨u,w,rfl,r1,r2⟩:=qa3 r
 cases r2
 exact qcy I r1 ty hk λ tk=>⟨.bl k,H,I.tok _,rfl,q⟩
theorem qls (K:Frag) {T:String} (hT:T∈isiT) (x:PV) (hs:∀ ns,x≠.scr ns) (hx:∀ c,x≠.exn c):vb9 K (.type (zpn x)) (.type T)=some (isiB (zpn x) T):=by
 simp only [isiT,ja9,jh8,or_false] at hT
 cases x with
 | scr ns=>exact absurd rfl (hs ns)
 | exn c=>exact absurd rfl (hx c)
 | _=>rcases hT with h | h | h | h | h | h <;> subst h <;> rfl
theorem qkk {T:String}{x T':Str}{p1 p2:Pos} (hT:T∈isiT) (hK:M.K=X.K) (ha:PE X e (tE M f vs)) (hg:Gl X "isinstance") (hm:X.mg "isinstance" = none) (hT':PE X (.Name T' p2) (tC (.ty T)))
  (hs1:va3 [e,.Name T' p2] X.env=[(false,eval e X.env),(false,eval (.Name T' p2) X.env)]) (hs2:va3 [Expr.Name T' p2] X.env=[(false,eval (.Name T' p2) X.env)]):
  PE X (.Call (.Name "isinstance" p1) [e,.Name T' p2] [] pos) (tE M (bUn (zqm T) f) vs):=by
 refine zqi (zww qfe hg hm rfl (zxp ha (zxp hT' zvc hs2) (by rw [hs1,hs2])) (he:=by rw [hs1,hs2]) (hpl:=by rw [hs2];rfl)) λ σ H Q h=>?_
 refine qad (r:=λ v H Q=>∃ x t T' k,[v,.ty T]=[x,.ty T']/\TyOf X.K H x t/\vb9 X.K t (.type T')=some k/\Q (.bl k) H) (λ x d z c v H fps f1 Q ho o1 nz zd lf=>?_) h
 have hs:∀ ns,x≠.scr ns:=λ ns e=>by subst e;cases ho
 have hx:∀ c,x≠.exn c:=λ c e=>by subst e;cases ho
 have e2:z=.bl (isiB (zpn x) T):=by
  cases x with
  | scr ns=>cases ho
  | exn c=>cases ho
  | _=>cases ho;rfl
 subst e2
 exact ⟨v,_,T,_,rfl,by rw [<- hK];exact o1.ty hs hx,qls X.K hT x hs hx,zxi lf⟩
def zqy:List (PV×Nat)->Option (PV×Nat)
 | [(.lst xs,_)]=>some (.int xs.length,om)
 | [(.tup xs,_)]=>some (.int xs.length,om)
 | [(.scr ns,_)]=>some (.int ns.length,om)
 | [(.str z,_)]=>if z.length<=va2 then some (.int z.length,om) else none
 | _=>none
theorem qkj (hK:M.K=X.K) (hg:Gl X "len") (hm:X.mg "len" = none) (ha:PA X (e::es) (tL M fa vs)) (he:va3 (e::es) X.env=(false,eval e X.env)::va3 es X.env) (hpl:(vd2 pos (va3 es X.env)).any (·.1)=false):
  PE X (.Call (.Name "len" p) (e::es) [] pos) (tE M (zqb zqy fa) vs):=by
 refine zqi (zww (zfb.or zfa) hg hm PySem.boot_len ha (he:=he) (hpl:=hpl)) λ σ H Q h=>zwk (λ xs z c ws H fps fp Q ho tm nz zd lf=>?_) h
 unfold zqy at ho
 split at ho
 ·rename_i xs d
  cases ho
  obtain ⟨v,r,f1,f2,rfl,_,_,o1,h2⟩:=tm
  obtain ⟨rfl,_⟩:=h2
  obtain ⟨q,us,rfl,hs,hl⟩:=o1.seqL
  exact .inl ⟨q,us,rfl,.inl (by rw [<- hK];exact hs),by rw [hl];exact zqv lf⟩
 ·rename_i xs d
  cases ho
  obtain ⟨v,r,f1,f2,rfl,_,_,o1,h2⟩:=tm
  obtain ⟨rfl,_⟩:=h2
  obtain ⟨q,us,rfl,hs,hl⟩:=o1.seqT
  exact .inl ⟨q,us,rfl,.inr (by rw [<- hK];exact hs),by rw [hl];exact zqv lf⟩
 ·rename_i ns d
  cases ho
  obtain ⟨v,r,f1,f2,rfl,_,_,o1,h2⟩:=tm
  obtain ⟨rfl,_⟩:=h2
  rw [Own] at o1
  obtain ⟨_,q,rfl,hp⟩:=o1
  refine .inl ⟨q,ns.map V.int,rfl,.inl ?_,by rw [jb5];exact zqv lf⟩
  rw [<- hK]
  exact hp.elim (λ h=>.inl (.inr h)) .inr
 ·rename_i z d
  split at ho
  ·rename_i hl
   cases ho
   obtain ⟨v,r,f1,f2,rfl,_,_,o1,h2⟩:=tm
   obtain ⟨rfl,_⟩:=h2
   rw [Own] at o1
   obtain ⟨rfl,_⟩:=o1
   exact .inr ⟨_,rfl,hl,zqv lf⟩
  ·cases ho
 ·cases ho
def op2 (k:Int->Int->Int):List (PV×Nat)->Option (PV×Nat)
 | [(.int i,_),(.int j,_)]=>some (.int (k i j),om)
 | _=>none
theorem zhe {k:Int->Int->Int}{xs:List (PV×Nat)}{z:PV}{c:Nat}{ws:List V}{fps:Fps}{fp F:List Addr}{Z:Addr->Prop} (ho:op2 k xs=some (z,c)) (tm:Tmps M.K H Z xs ws fp) (lf:Leaf M H fps vs F z c Q):∃ i j,ws=[.int i,.int j]/\Q (.int (k i j)) H:=by
 unfold op2 at ho
 split at ho
 ·rename_i i d j e
  cases ho
  obtain ⟨v,r,f1,f2,rfl,_,_,o1,h2⟩:=tm
  obtain ⟨v2,r2,f3,f4,rfl,_,_,o2,h3⟩:=h2
  obtain ⟨rfl,_⟩:=h3
  rw [Own] at o1 o2
  obtain ⟨rfl,_⟩:=o1
  obtain ⟨rfl,_⟩:=o2
  exact ⟨_,_,rfl,zqv lf⟩
 ·cases ho
def zmc:List (PV×Nat)->Option (PV×Nat)
 | [(.lst xs,_)]=>some (.tup xs,0)
 | [(.tup xs,_)]=>some (.tup xs,0)
 | _=>none
def qch:List (PV×Nat)->Option (PV×Nat)
 | [(.lst xs,_)]=>some (.lst xs,d1 xs)
 | [(.tup xs,_)]=>some (.lst xs,d1 xs)
 | _=>none
theorem qhh (hK:M.K=X.K) (hg:Gl X "tuple") (hm:X.mg "tuple" = none) (ha:PA X (e::es) (tL M fa vs)) (he:va3 (e::es) X.env=(false,eval e X.env)::va3 es X.env) (hpl:(vd2 pos (va3 es X.env)).any (·.1)=false):
  PE X (.Call (.Name "tuple" p) (e::es) [] pos) (tE M (zqb zmc fa) vs):=by
 refine zqi (zvs zpf hg hm rfl ha (he:=he) (hpl:=hpl)) λ σ H Q h=>zwk (λ xs z c ws H fps fp Q ho tm nz zd lf=>?_) h
 unfold zmc at ho
 split at ho
 ·rename_i xs d
  cases ho
  obtain ⟨v,r,f1,f2,rfl,rfl,_,o1,h2⟩:=tm
  obtain ⟨rfl,rfl⟩:=h2
  obtain ⟨q,us,rfl,hs,ol⟩:=(cold (fp:=f1) o1 λ a ha=>nz a (ja4 _ ha)).coldL
  exact ⟨q,us,rfl,.inl ⟨.inl (.inl hs),λ l hl=>zkr lf ol hl⟩⟩
 ·rename_i xs d
  cases ho
  obtain ⟨v,r,f1,f2,rfl,rfl,_,o1,h2⟩:=tm
  obtain ⟨rfl,rfl⟩:=h2
  have c0:=cold (fp:=f1) o1 λ a ha=>nz a (ja4 _ ha)
  obtain ⟨q,us,rfl,hs,ol⟩:=c0.coldT
  exact ⟨q,us,rfl,.inr ⟨.inl (.inl hs),zwz (x:=.tup xs) lf c0⟩⟩
 ·cases ho
theorem qhm (hK:M.K=X.K) (hg:Gl X "list") (hm:X.mg "list" = none) (ha:PA X (e::es) (tL M fa vs)) (he:va3 (e::es) X.env=(false,eval e X.env)::va3 es X.env) (hpl:(vd2 pos (va3 es X.env)).any (·.1)=false):
  PE X (.Call (.Name "list" p) (e::es) [] pos) (tE M (zqb qch fa) vs):=by
 refine zqi (zvs zmz hg hm rfl ha (he:=he) (hpl:=hpl)) λ σ H Q h=>zwk (λ xs z c ws H fps fp Q ho tm nz zd lf=>?_) h
 unfold qch at ho
 split at ho
 ·rename_i xs d
  cases ho
  obtain ⟨v,r,f1,f2,rfl,rfl,_,o1,h2⟩:=tm
  obtain ⟨rfl,rfl⟩:=h2
  obtain ⟨q,us,rfl,hs,ol⟩:=(cold (fp:=f1) o1 λ a ha=>nz a (ja4 _ ha)).coldL
  exact ⟨q,us,rfl,.inl (.inl (.inl hs)),λ l hl=>zxy lf ol hl⟩
 ·rename_i xs d
  cases ho
  obtain ⟨v,r,f1,f2,rfl,rfl,_,o1,h2⟩:=tm
  obtain ⟨rfl,rfl⟩:=h2
  obtain ⟨q,us,rfl,hs,ol⟩:=(cold (fp:=f1) o1 λ a ha=>nz a (ja4 _ ha)).coldT
  exact ⟨q,us,rfl,.inr (.inl (.inl hs)),λ l hl=>zxy lf ol hl⟩
 ·cases ho
end
section
variable {X:Cx}{M:Fm}{a b:Expr}{f g:Fx}{fa:Fa}{vs vs':List Nat}{pos p:Pos}{σ:St}{H:Hp}{Q:VK}{e:Expr}{es:List Expr}
theorem qff (hc:X.calm=true):zws X (.builtin "all") (λ xs H Q=>∃ (p:Addr) (bs:List Bool),xs=[.ref p]/\SqL X.K H p (bs.map V.bl)/\Q (.bl (bs.all id)) H):=by
 intro pins s σ H xs us Q I r h
 obtain ⟨p,bs,rfl,hq,q⟩:=h
 obtain ⟨u,rfl,rx⟩:=zvp r
 cases rx
 obtain ⟨its,rv,pl,hz⟩:=I.list hq
 have hl:=rv.length
 rw [jb5] at hl
 refine call_all_walk (wpAny_pyIter_list pl.isList ?_)
 have hlt:p < s.heap.objs.size:=by obtain ⟨o,n,e,_⟩:=pl;exact va5 e
 have hne:p≠s.heap.objs.size:=jc3 hlt
 refine ⟨s.heap.objs.size,_,_,its.toArray.size,_,_,λ i=>bs.getD i true,rfl,Walks.list (A:=X.A.in1) (show X.A.in1.handled=none from I.ok.hd hc) s.heap.objs.size p hne its.toArray,⟨⟨_,vb1 _ rfl,rfl,rfl⟩,?_⟩,?_,λ h' tk k=>?_⟩
 ·exact pl.isList.at λ o e=>va4 _ e
 ·intro i v s' Q' E' hv hq'
  have hv':its[i]?=some v:=by simpa using hv
  have hi:i < bs.length:=by rw [hl];exact (ja8.mp hv').1
  obtain ⟨w,e1,e2⟩:=rv.get (i:=i) (x:=.bl bs[i]) (by simp [hi])
  rw [hv'] at e1
  cases e1
  cases e2
  refine vc4 ?_
  have:bs.getD i true=bs[i]:=by simp [jn2,hi]
  dsimp only at hq'
  rw [this] at hq'
  exact hq'
 ·have I1:L2.Inv X pins σ H { s with heap:=s.heap.push { cls:=.type "list_iterator",data:=.fields #[.ref p,rawInt 0] } }:=I.kept (t':=s.toks) λ b o e=>va4 _ e
  obtain ⟨f0,f1,f2,f3,f4,f5⟩:=I.fpOk (H':=H) (jb4 s.heap.objs.size) (I.hok.fresh (jb4 _))
  have I2:L2.Inv X pins σ H { s with heap:=h',toks:=tk }:=I1.turned (t':=tk) (λ b o hb e=>k b o (by simpa using hb) e) f0 f1 f3 f4 f5
  refine ⟨.bl _,H,I2,rfl,?_⟩
  have e:(jd4 its.toArray.size).all (λ i=>bs.getD i true)=bs.all id:=by
   rw [jb2,<- hl]
   rw [jg5]
   simp only [jb6,jd5,id]
   constructor
   ·intro h x hx
    obtain ⟨i,hi,rfl⟩:=jg2 hx
    have:=h i hi
    simpa [jn2,hi] using this
   ·intro h i hi
    simp [jn2,hi]
    exact h _ (je3 hi)
  rw [e]
  exact q
def allB:List PV->Option (List Bool)
 | []=>some []
 | .bl b::r=>(allB r).map (b::·)
 | _=>none
def zyz:List (PV×Nat)->Option (PV×Nat)
 | [(.lst xs,_)]=>(allB xs).map λ bs=>(.bl (bs.all id),om)
 | _=>none
theorem qaa {K:Frag}{Z:Addr->Prop}:∀ {xs:List PV}{ws:List V}{bs:List Bool},allB xs=some bs->OwnL K H Z xs 0 ws []->ws=bs.map V.bl
 | [],ws,bs,e,h=>by cases e;rw [OwnL] at h;exact h.1
 | .bl b::r,ws,bs,e,h=>by
  obtain ⟨bs',e1,rfl⟩:=ja5.mp e
  rw [OwnL] at h
  obtain ⟨v,s,f1,f2,rfl,ef,dj,h1,h2⟩:=h
  obtain ⟨rfl,rfl⟩:f1=[]/\f2=[]:=by simpa using ef.symm
  rw [Own] at h1
  rw [h1.1,qaa e1 h2]
  rfl
 | .non::_,_,_,e,_=>by cases e
 | .int _::_,_,_,e,_=>by cases e
 | .str _::_,_,_,e,_=>by cases e
 | .lst _::_,_,_,e,_=>by cases e
 | .tup _::_,_,_,e,_=>by cases e
 | .emp::_,_,_,e,_=>by cases e
 | .dko::_,_,_,e,_=>by cases e
 | .scr _::_,_,_,e,_=>by cases e
 | .dct _::_,_,_,e,_=>by cases e
 | .exn _::_,_,_,e,_=>by cases e
theorem qko (hc:X.calm=true) (hg:Gl X "all") (hm:X.mg "all" = none) (ha:PA X (e::es) (tL M fa vs)) (he:va3 (e::es) X.env=(false,eval e X.env)::va3 es X.env) (hpl:(vd2 pos (va3 es X.env)).any (·.1)=false):
  PE X (.Call (.Name "all" p) (e::es) [] pos) (tE M (zqb zyz fa) vs):=by
 refine zqi (zww (qff hc) hg hm rfl ha (he:=he) (hpl:=hpl)) λ σ H Q h=>zwk (λ xs z c ws H fps fp Q ho tm nz zd lf=>?_) h
 unfold zyz at ho
 split at ho
 ·rename_i xs d
  obtain ⟨bs,eb,e2⟩:=ja5.mp ho
  cases e2
  obtain ⟨v,r,f1,f2,rfl,rfl,_,o1,h2⟩:=tm
  obtain ⟨rfl,rfl⟩:=h2
  obtain ⟨q,us,rfl,hs,ol⟩:=(cold (fp:=f1) o1 λ a ha=>nz a (ja4 _ ha)).coldL
  have:=qaa eb ol
  subst this
  exact ⟨q,bs,rfl,.inl (.inl hs),zxi lf⟩
 ·cases ho
def zvu:List PV->Option (List Int)
 | []=>some []
 | .int i::r=>(zvu r).map (i::·)
 | _=>none
theorem zzb {K:Frag}{Z:Addr->Prop}:∀ {xs:List PV}{ws:List V}{ns:List Int},zvu xs=some ns->OwnL K H Z xs 0 ws []->ws=ns.map V.int
 | [],ws,ns,e,h=>by cases e;rw [OwnL] at h;exact h.1
 | .int b::r,ws,ns,e,h=>by
  obtain ⟨ns',e1,rfl⟩:=ja5.mp e
  rw [OwnL] at h
  obtain ⟨v,s,f1,f2,rfl,ef,dj,h1,h2⟩:=h
  obtain ⟨rfl,rfl⟩:f1=[]/\f2=[]:=by simpa using ef.symm
  rw [Own] at h1
  rw [h1.1,zzb e1 h2]
  rfl
 | .non::_,_,_,e,_=>by cases e
 | .bl _::_,_,_,e,_=>by cases e
 | .str _::_,_,_,e,_=>by cases e
 | .lst _::_,_,_,e,_=>by cases e
 | .tup _::_,_,_,e,_=>by cases e
 | .emp::_,_,_,e,_=>by cases e
 | .dko::_,_,_,e,_=>by cases e
 | .scr _::_,_,_,e,_=>by cases e
 | .dct _::_,_,_,e,_=>by cases e
 | .exn _::_,_,_,e,_=>by cases e
theorem zza:∀ {ns:List Int}{its:List va0},Vals (ns.map V.int) its->∃ xs:List (Int×Tok),its=xs.map (λ p=>Value.int p.1 p.2)/\xs.map (·.1)=ns
 | [],its,h=>by cases h;exact ⟨[],rfl,rfl⟩
 | n::ns,its,h=>by
  cases h with
  | cons r rr=>
   obtain ⟨t,rfl⟩:=r
   obtain ⟨xs,rfl,rfl⟩:=zza rr
   exact ⟨(n,t)::xs,rfl,rfl⟩
theorem qdp (hc:X.calm=true):zws X (.builtin "min") (λ xs H Q=>∃ (p:Addr) (ns:List Int),xs=[.ref p]/\SqL X.K H p (ns.map V.int)/\ns≠[]/\∀ m,m∈ns->(∀ a∈ns,m<=a)->Q (.int m) H):=by
 intro pins s σ H xs us Q I r h
 obtain ⟨p,ns,rfl,hq,hn,q⟩:=h
 obtain ⟨u,rfl,rx⟩:=zvp r
 cases rx
 obtain ⟨its,rv,pl,hz⟩:=I.list hq
 obtain ⟨zs,rfl,rfl⟩:=zza rv
 have e:(zs.map λ p=>Value.int p.1 p.2).toArray=ve3 zs.toArray:=by simp [ve3]
 rw [e] at pl
 have h0:0 < zs.length:=by
  cases zs with
  | nil=>exact absurd rfl hn
  | cons _ _=>simp
 refine min_intList (I.ok.hd hc) pl.isList (by simpa using h0) λ v h' tk hv k=>?_
 obtain ⟨l1,l2⟩:=argBest_lt (vf8 zs.toArray) (zs.toArray.size - 1)
 have hv':=hv
 obtain ⟨t,rfl⟩:=vk5 hv
 have at':∀ j,j < zs.length->vf8 zs.toArray j∈zs.map (·.1):=λ j hj=>by
  unfold vf8
  simp [hj]
  exact ⟨_,je3 hj⟩
 refine ⟨.int _,H,I.kept (t':=tk) k,⟨t,rfl⟩,q _ (at' _ ?_) λ a ha=>?_⟩
 ·have:zs.toArray.size=zs.length:=by simp
  omega
 ·obtain ⟨z,hz,rfl⟩:=jf8.mp ha
  obtain ⟨j,hj,rfl⟩:=jg2 hz
  have hzs:zs.toArray.size=zs.length:=by simp
  have:=l2 j (by omega)
  have e:vf8 zs.toArray j=zs[j].1:=by unfold vf8;simp [hj]
  rw [e] at this
  exact this
theorem qao {prog:va8}{w:vb7}{A:vc0}{E:va0->va1->Prop}{s:va1}{l:Addr}{xs:Array (Int×Tok)}{Q:va0->va1->Prop} (hh:A.handled=none) (hl:s.heap.IsTuple l (ve3 xs)) (hne:0 < xs.size)
  (h:∀ v h' tk,(ve3 xs)[argBest (λ i j=>decide (vf8 xs i < vf8 xs j)) (xs.size - 1)]?=some v->(∀ b o,s.heap.get? b=some o->h'.get? b=some o)->Q v { s with heap:=h',toks:=tk }):
  vb2 (vb3 prog w) A (call (.builtin "min") [.ref l]) Q E s:=by
 have hlt:l < s.heap.objs.size:=by obtain ⟨_,e,_⟩:=hl;exact va5 e
 refine call_min_walk (wpAny_pyIter_tuple hl ?_)
 refine ⟨_,[_,l],[_],_,_,_,_,rfl,Walks.tuple (A:=A.in1) hh _ l (jc3 hlt) (ve3 xs),⟨⟨_,vb1 _ rfl,rfl,rfl⟩,hl.push _⟩,λ c hc=>?_,by simpa [ve3] using hne,CmpOf.ints_lt (vf8 xs) (λ _ _=>vk5),λ v h' tk hP hk=>?_⟩
 ·show c < (s.heap.push _).objs.size
  rw [vg2]
  rcases ja9.mp hc with rfl | hc
  ·exact jh7 _
  ·rcases ja9.mp hc with rfl | hc
   ·exact jh2 hlt
   ·cases hc
 ·exact h v h' tk (by simpa [ve3] using hP) λ c o e=>by
   refine hk c o (λ hm=>?_) (va4 _ e)
   rcases ja9.mp hm with e1 | hm
   ·exact absurd (e1 ▸ va5 e) (jd9 _)
   ·cases hm
theorem qdo (hc:X.calm=true):zws X (.builtin "min") (λ xs H Q=>∃ (p:Addr) (ns:List Int),xs=[.ref p]/\SqT X.K H p (ns.map V.int)/\ns≠[]/\∀ m,m∈ns->(∀ a∈ns,m<=a)->Q (.int m) H):=by
 intro pins s σ H xs us Q I r h
 obtain ⟨p,ns,rfl,hq,hn,q⟩:=h
 obtain ⟨u,rfl,rx⟩:=zvp r
 cases rx
 obtain ⟨its,rv,pl,hz⟩:=I.tuple hq
 obtain ⟨zs,rfl,rfl⟩:=zza rv
 have e:(zs.map λ p=>Value.int p.1 p.2).toArray=ve3 zs.toArray:=by simp [ve3]
 rw [e] at pl
 have h0:0 < zs.length:=by
  cases zs with
  | nil=>exact absurd rfl hn
  | cons _ _=>simp
 refine qao (I.ok.hd hc) pl (by simpa using h0) λ v h' tk hv k=>?_
 obtain ⟨l1,l2⟩:=argBest_lt (vf8 zs.toArray) (zs.toArray.size - 1)
 have hv':=hv
 obtain ⟨t,rfl⟩:=vk5 hv
 have at':∀ j,j < zs.length->vf8 zs.toArray j∈zs.map (·.1):=λ j hj=>by
  unfold vf8
  simp [hj]
  exact ⟨_,je3 hj⟩
 refine ⟨.int _,H,I.kept (t':=tk) k,⟨t,rfl⟩,q _ (at' _ ?_) λ a ha=>?_⟩
 ·have:zs.toArray.size=zs.length:=by simp
  omega
 ·obtain ⟨z,hz,rfl⟩:=jf8.mp ha
  obtain ⟨j,hj,rfl⟩:=jg2 hz
  have hzs:zs.toArray.size=zs.length:=by simp
  have:=l2 j (by omega)
  have e:vf8 zs.toArray j=zs[j].1:=by unfold vf8;simp [hj]
  rw [e] at this
  exact this
def qhe (ns:List Int):Bool:=decide (ns.length<=2 ^ 20) && ns.all λ i=>decide (-(2 ^ 40)<=i) && decide (i<=2 ^ 40)
theorem qbk {ns:List Int} (h:∀ i∈ns,-(2 ^ 40)<=i/\i<=2 ^ 40):∀ j:Nat,-(2 ^ 40) * (j:Int)<=(ns.take j).sum/\(ns.take j).sum<=2 ^ 40 * (j:Int):=by
 induction ns with
 | nil=>intro j;rw [jl2,jn3];omega
 | cons n ns ih=>
  intro j
  cases j with
  | zero=>rw [jk6,jn3];omega
  | succ j=>
   have:=ih (λ i hi=>h i (ja0 _ hi)) j
   have hn:=h n ja2
   rw [ji2,List.sum_cons]
   omega
theorem qdn (hc:X.calm=true):zws X (.builtin "sum") (λ xs H Q=>∃ (p:Addr) (ns:List Int),xs=[.ref p]/\SqL X.K H p (ns.map V.int)/\qhe ns=true/\Q (.int ns.sum) H):=by
 intro pins s σ H xs us Q I r h
 obtain ⟨p,ns,rfl,hq,hn,q⟩:=h
 obtain ⟨u,rfl,rx⟩:=zvp r
 cases rx
 obtain ⟨its,rv,pl,hz⟩:=I.list hq
 obtain ⟨zs,rfl,rfl⟩:=zza rv
 have e:(zs.map λ p=>Value.int p.1 p.2).toArray=ve3 zs.toArray:=by simp [ve3]
 rw [e] at pl
 unfold qhe at hn
 rw [ja3] at hn
 have hl:(zs.map (·.1)).length<=2 ^ 20:=by simpa using hn.1
 have hb:∀ i∈zs.map (·.1),-(2 ^ 40)<=i/\i<=2 ^ 40:=λ i hi=>by
  have:=jb6.mp hn.2 i hi
  rw [ja3] at this
  exact ⟨of_decide_eq_true this.1,of_decide_eq_true this.2⟩
 have sz:zs.toArray.size=zs.length:=by simp
 rw [jb5] at hl
 have pre:∀ j,preSum (vf8 zs.toArray) j=((zs.map (·.1)).take j).sum:=λ j=>by
  rw [preSum_eq]
 refine sum_intList (I.ok.hd hc) pl.isList (λ j hj=>⟨?_,?_⟩) λ h' tk t' k=>⟨.int _,H,I.kept (t':=tk) k,⟨t',rfl⟩,?_⟩
 ·have e1:vf8 zs.toArray j=zs[j].1:=by unfold vf8;simp [show j < zs.length by omega]
  have:=hb (zs[j]'(by omega)).1 (jf8.mpr ⟨_,je3 _,rfl⟩)
  rw [e1]
  unfold InLong
  omega
 ·have:=qbk hb (j + 1)
  rw [pre]
  unfold InLong
  omega
 ·rw [pre,sz]
  have:((zs.map (·.1)).take zs.length)=zs.map (·.1):=by
   rw [List.take_of_length_le];simp
  rw [this]
  exact q
def minI:Int->List Int->Int
 | n,[]=>n
 | n,m::r=>minI (if m < n then m else n) r
theorem zbs:∀ (r:List Int) (n:Int),minI n r∈n::r
 | [],n=>ja2
 | m::r,n=>by
  unfold minI
  have:=zbs r (if m < n then m else n)
  rcases ja9.mp this with h | h
  ·rw [h]
   split
   ·exact ja0 _ ja2
   ·exact ja2
  ·exact ja0 _ (ja0 _ h)
theorem zfy:∀ (r:List Int) (n:Int),∀ a∈n::r,minI n r<=a
 | [],n,a,h=>by
  have:a=n:=by simpa using h
  rw [this];exact jn6 _
 | m::r,n,a,h=>by
  unfold minI
  have ih:=zfy r (if m < n then m else n)
  have h1:=ih _ ja2
  have h2:(if m < n then m else n)<=n/\(if m < n then m else n)<=m:=by split <;> omega
  rcases ja9.mp h with e | h
  ·rw [e];omega
  ·rcases ja9.mp h with e | h
   ·rw [e];omega
   ·exact ih a (ja0 _ h)
theorem zjj {ns:List Int}{m m':Int} (h1:m∈ns) (h2:∀ a∈ns,m<=a) (h3:m'∈ns) (h4:∀ a∈ns,m'<=a):m=m':=by
 have:=h2 m' h3
 have:=h4 m h1
 omega
def zbo:List (PV×Nat)->Option (PV×Nat)
 | [(.lst xs,_)]=>match zvu xs with
  | some (n::r)=>some (.int (minI n r),om)
  | _=>none
 | [(.tup xs,_)]=>match zvu xs with
  | some (n::r)=>some (.int (minI n r),om)
  | _=>none
 | xs=>op2 (λ i j=>if j < i then j else i) xs
def qib:List (PV×Nat)->Option (PV×Nat)
 | [(.lst xs,_)]=>match zvu xs with
  | some ns=>if qhe ns=true then some (.int ns.sum,om) else none
  | none=>none
 | _=>none
theorem qhj (hc:X.calm=true) (hg:Gl X "min") (hm:X.mg "min" = none) (ha:PA X (e::es) (tL M fa vs)) (he:va3 (e::es) X.env=(false,eval e X.env)::va3 es X.env) (hpl:(vd2 pos (va3 es X.env)).any (·.1)=false):
  PE X (.Call (.Name "min" p) (e::es) [] pos) (tE M (zqb zbo fa) vs):=by
 refine zqi (zww (((qdq hc).or (qdp hc)).or (qdo hc)) hg hm rfl ha (he:=he) (hpl:=hpl)) λ σ H Q h=>zwk (λ xs z c ws H fps fp Q ho tm nz zd lf=>?_) h
 unfold zbo at ho
 split at ho
 ·rename_i xs d
  split at ho
  ·rename_i n r eb
   cases ho
   obtain ⟨v,r',f1,f2,rfl,rfl,_,o1,h2⟩:=tm
   obtain ⟨rfl,rfl⟩:=h2
   obtain ⟨q,us,rfl,hs,ol⟩:=(cold (fp:=f1) o1 λ a ha=>nz a (ja4 _ ha)).coldL
   have:=zzb eb ol
   subst this
   refine .inl (.inr ⟨q,n::r,rfl,.inl (.inl hs),by simp,λ m h1 h2=>?_⟩)
   rw [zjj h1 h2 (zbs r n) (zfy r n)]
   exact zqv lf
  ·cases ho
 ·rename_i xs d
  split at ho
  ·rename_i n r eb
   cases ho
   obtain ⟨v,r',f1,f2,rfl,rfl,_,o1,h2⟩:=tm
   obtain ⟨rfl,rfl⟩:=h2
   obtain ⟨q,us,rfl,hs,ol⟩:=(cold (fp:=f1) o1 λ a ha=>nz a (ja4 _ ha)).coldT
   have:=zzb eb ol
   subst this
   refine .inr ⟨q,n::r,rfl,.inl (.inl hs),by simp,λ m h1 h2=>?_⟩
   rw [zjj h1 h2 (zbs r n) (zfy r n)]
   exact zqv lf
  ·cases ho
 ·exact .inl (.inl (zhe ho tm lf))
theorem qhi (hc:X.calm=true) (hg:Gl X "sum") (hm:X.mg "sum" = none) (ha:PA X (e::es) (tL M fa vs)) (he:va3 (e::es) X.env=(false,eval e X.env)::va3 es X.env) (hpl:(vd2 pos (va3 es X.env)).any (·.1)=false):
  PE X (.Call (.Name "sum" p) (e::es) [] pos) (tE M (zqb qib fa) vs):=by
 refine zqi (zww (qdn hc) hg hm rfl ha (he:=he) (hpl:=hpl)) λ σ H Q h=>zwk (λ xs z c ws H fps fp Q ho tm nz zd lf=>?_) h
 unfold qib at ho
 split at ho
 ·rename_i xs d
  split at ho
  ·rename_i ns eb
   split at ho
   ·rename_i hk
    cases ho
    obtain ⟨v,r',f1,f2,rfl,rfl,_,o1,h2⟩:=tm
    obtain ⟨rfl,rfl⟩:=h2
    obtain ⟨q,us,rfl,hs,ol⟩:=(cold (fp:=f1) o1 λ a ha=>nz a (ja4 _ ha)).coldL
    have:=zzb eb ol
    subst this
    exact ⟨q,ns,rfl,.inl (.inl hs),hk,zqv lf⟩
   ·cases ho
  ·cases ho
 ·cases ho
abbrev Fn:=List PV->Rz (PV×Nat×PV)
def spF (K:Frag) (io:Bool) (n:Nat) (F:Fn):Sp:=λ ws H Q E=>ws.length=n/\∃ (xs:List PV) (Zo:Addr->Prop) (x0:PV) (v0:V) (fp0:List Addr),
 (∀ a,Zo a->H a≠none)/\(∀ a∈fp0,¬ Zo a)/\(io=false->fp0=[]/\OwnL K H Zo xs 0 ws []) /\
 (io=true->∃ xr wr,xs=x0::xr/\ws=v0::wr/\Own K H (λ _=>True) x0 om v0 fp0/\OwnL K H (λ a=>Zo a\/a∈fp0) xr 0 wr []) /\
 (match F xs with
  | .ok (y,d,z0)=>∀ v H' fp fp0',Keep (λ a=>a∈fp0) H H'->(∀ a,H a≠none->H' a≠none)->(∀ a∈fp0',a∈fp0\/H a=none)->(∀ a∈fp0',¬ Zo a)->(io=false->fp0'=[])->(io=true->Own K H' (λ _=>True) z0 om v0 fp0') ->
    Own K H' (λ a=>(Zo a\/a∈fp0')\/a∈fp) y d v fp->(∀ a∈fp,H a=none/\¬ (Zo a\/a∈fp0'))->Q v H'
  | .exc c=>∀ H',Keep (λ a=>a∈fp0) H H'->(∀ a,H a≠none->H' a≠none)->E (.int (c:Int) 0) none H'
  | .no=>False)
def zqp (F:Fn) (fa:Fa):Fx:=λ ρ=>(fa ρ).bind λ (xs,ρ1)=>match F (xs.map (·.1)) with
 | .ok (y,d,_)=>.ok (y,d,ρ1)
 | .exc c=>.exc c
 | .no=>.no
theorem qhd {F:Fn}{n:Nat} (hF:∀ xs,xs.length≠n->F xs=.no) {σ:St}{H:Hp}{Q:VK} (hq:tE M (zqp F fa) vs σ H Q):qfv (spF M.K false n F) M.W (tL M fa vs) σ H Q:=by
 obtain ⟨ρ,fps,rep,q⟩:=hq
 refine ⟨ρ,fps,rep,?_⟩
 unfold zqp at q
 cases ef:fa ρ with
 | no=>rw [ef] at q;exact q
 | exc c=>rw [ef] at q;exact q
 | ok p=>
  obtain ⟨xs,ρ1⟩:=p
  rw [ef] at q
  intro ws H1 fps1 f1 k1 g1 rep1 o1 t1
  dsimp only [Rz.bind] at q
  have back:∀ a,H1 a=none->H a=none:=λ a e=>by
   cases e':H a with
   | none=>rfl
   | some o=>exact absurd e (k1.dom a (by rw [e'];simp))
  show spF M.K false n F ws H1 Q (XEof (M.W σ))
  have hlen:xs.length=n:=by
   by_cases e:xs.length=n
   ·exact e
   ·rw [hF (xs.map (·.1)) (by rw [jb5];exact e)] at q;exact q.elim
  refine ⟨by rw [o1.length,hlen],xs.map (·.1),Zv M vs fps1,.non,.non,[],λ a z=>rep1.zdom z.zf,λ _ z=>(nomatch z),λ _=>⟨rfl,o1.cold λ a ha z=>t1.ndj a ha z.zf⟩,(λ h=>nomatch h),?_⟩
  cases eF:F (xs.map (·.1)) with
  | no=>rw [eF] at q;exact q
  | exc c=>
   rw [eF] at q
   exact λ H' kp _=>q H' fps1 (k1.trans (KD.grow λ a o h=>kp a o h λ z=>nomatch z))
  | ok r=>
   obtain ⟨y,d,z0⟩:=r
   rw [eF] at q
   intro v H' fp fp0' kp dm _ _ h0 _ oy hf
   have e0:=h0 rfl
   subst e0
   have kk:∀ a o,H1 a=some o->H' a=some o:=λ a o h=>kp a o h λ z=>nomatch z
   refine q v H' fps1 fp (k1.trans (KD.grow kk)) g1 (rep1.grow kk) (oy.weak λ a h=>h.elim (λ h=>.inl (.inl h)) .inr) ⟨λ a ha=>back a (hf a ha).1,λ a ha=>rep1.nz (hf a ha).1⟩
end
theorem qdu {X:Cx}:zws X (.type "int") (λ xs H Q=>∃ z n,xs=[.str z]/\ve8 z=some n/\z.length<=640/\Q (.int n) H):=by
 intro pins s σ H xs us Q I r h
 obtain ⟨z,n,rfl,hn,hl,q⟩:=h
 obtain ⟨u,rfl,t,rfl⟩:=zvp r
 exact PySem.W.KIN.call_text hn hl ⟨.int n,H,I.tok _,⟨_,rfl⟩,q⟩
def rSIn (neg:Bool):R2:=λ v w H Q=>∃ y x,v=.str y/\w=.str x/\Q (.bl (neg^^vf9 x y)) H
theorem qk7 {X:Cx}:OpR X (vb4 .In) (rSIn false):=by
 intro pins s σ H x y v u Q I rx ry h
 obtain ⟨b,a,rfl,rfl,q⟩:=h
 obtain ⟨t,rfl⟩:=rx
 obtain ⟨t',rfl⟩:=ry
 exact SB.contains ⟨.bl _,H,I,rfl,by simpa using q⟩
theorem qcc {X:Cx}:OpR X (vb4 .NotIn) (rSIn true):=by
 intro pins s σ H x y v u Q I rx ry h
 obtain ⟨b,a,rfl,rfl,q⟩:=h
 obtain ⟨t,rfl⟩:=rx
 obtain ⟨t',rfl⟩:=ry
 exact SB.notContains ⟨.bl _,H,I,rfl,by simpa using q⟩
theorem qjc {v:PV}{u:va0} (h:cVb v u=true):∃ w:V,RelV w u/\∀ K H Z,Own K H Z v om w []:=by
 unfold cVb at h
 split at h
 ·rename_i z z' t
  have:=eq_of_beq h
  subst this
  exact ⟨.str z,⟨t,rfl⟩,λ K H Z=>by rw [Own];exact ⟨rfl,rfl⟩⟩
 ·rename_i z z' t
  have:=eq_of_beq h
  subst this
  exact ⟨.int z,⟨t,rfl⟩,λ K H Z=>by rw [Own];exact ⟨rfl,rfl⟩⟩
 ·cases h
theorem qc2 {p:Str->Bool}{n:Nat} (h:XN.findIdx? p=some n):n < 50:=by
 have:=(jd6.mp h).1
 exact jj9 this (by decide)
section
variable {prog:va8}{w:vb7}{A:vc0}{E:va0->va1->Prop}{s:va1}
structure ZApart (zz ti to p1 p2 q1 q2:Addr):Prop where
 ne1:ti≠zz
 ne2:to≠zz
 ne3:p1≠zz
 ne4:p2≠zz
 ne5:ti≠to
 ne6:ti≠p1
 ne7:ti≠p2
 ne8:to≠p1
 ne9:to≠p2
 nea:p1≠p2
 neb:q1≠zz
 nec:q1≠to
 ned:q1≠p1
 nee:q1≠p2
 nef:q2≠zz
 neg:q2≠to
 neh:q2≠p1
 nei:q2≠p2
section
variable {zz ti to p1 p2 q1 q2:Addr}{n1 n2:Nat}{us vs:Array va0}{u v a b:va0}
end
end
section
variable {X:Cx}{pins:List (Addr×Obj)}{σ:St}{H:Hp}{s:va1}{h':Heap}
end
section
variable {X:Cx}{tg:Expr}
end
inductive Vw where
 | rev | enm | zp
def ql5:Nat->List PV->List PV
 | _,[]=>[]
 | i,x::xs=>.tup [.int (i:Int),x]::ql5 (i + 1) xs
def zipL:List PV->List PV->List PV
 | x::xs,y::ys=>.tup [x,y]::zipL xs ys
 | _,_=>[]
def qa1:Vw->List PV->Option (List PV)
 | .rev,[.lst xs]=>some xs.reverse
 | .enm,[.lst xs]=>some (ql5 0 xs)
 | .zp,[.lst xs,.lst ys]=>some (zipL xs ys)
 | .zp,[.tup xs,.tup ys]=>some (zipL xs ys)
 | _,_=>none
section
variable {is:List Nat}{M:Fm}{ρ ρ':Rho}{σ σ':St}{H H' H'':Hp}{fps fps' fps'':Fps}{vs vs':List Nat}
def qmv (v:Vw) (fa:Fa) (vs:List Nat) (asg:PV->Rho->Option Rho) (body:Fs):Fs:=λ ρ=>match fa ρ with
 | .ok (xs,ρ1)=>(match qa1 v (xs.map (·.1)) with
  | some els=>zzg asg body els (zxa (if zkj xs=true then om else 0) vs ρ1)
  | none=>.no)
 | .exc c=>.exc c
 | .no=>.no
def qmi (v:Vw) (fa:Fa) (k:Nat) (asg:PV->Rho->Option Rho) (test:Fb) (elt:Fx):Fx:=λ ρ=>match fa ρ with
 | .ok (xs,ρ1)=>(match qa1 v (xs.map (·.1)) with
  | some els=>(zwq k asg test elt els ρ1 []).bindN λ (acc,ρ2)=>zvj acc ρ2
  | none=>.no)
 | .exc c=>.exc c
 | .no=>.no
end
section
variable {X:Cx}{M:Fm}{f g:Fx}{fa:Fa}{vs vs':List Nat}{a b e:Expr}{es:List Expr}{pos p p2:Pos}{σ:St}{H:Hp}{Q:VK}
theorem qd3:∀ {xs:List V}{us:List va0},Vals xs us->Vals xs.reverse us.reverse
 | _,_,.nil=>.nil
 | _,_,.cons r rr=>by rw [jh3,jh3];exact (qd3 rr).append (.cons r .nil)
theorem OwnL.snoc0 {K:Frag}{H:Hp}{Z:Addr->Prop}{x:PV}{v:V}:∀ {xs:List PV}{ws:List V},OwnL K H Z xs 0 ws []->Own K H Z x 0 v []->OwnL K H Z (xs++[x]) 0 (ws++[v]) []
 | [],ws,h,o=>by
  rw [OwnL] at h
  obtain ⟨rfl,_⟩:=h
  rw [jg7,jg7,OwnL]
  exact ⟨v,[],[],[],rfl,rfl,(λ _ z=>nomatch z),o,by rw [OwnL];exact ⟨rfl,rfl⟩⟩
 | y::xs,ws,h,o=>by
  rw [OwnL] at h
  obtain ⟨u,r,f1,f2,rfl,ef,_,o1,o2⟩:=h
  obtain ⟨rfl,rfl⟩:f1=[]/\f2=[]:=by simpa using ef.symm
  rw [jm1,jm1,OwnL]
  exact ⟨u,r++[v],[],[],rfl,rfl,(λ _ z=>nomatch z),o1,OwnL.snoc0 o2 o⟩
theorem OwnL.rev {K:Frag}{H:Hp}{Z:Addr->Prop}:∀ {xs:List PV}{ws:List V},OwnL K H Z xs 0 ws []->OwnL K H Z xs.reverse 0 ws.reverse []
 | [],ws,h=>by
  rw [OwnL] at h
  obtain ⟨rfl,_⟩:=h
  rw [List.reverse_nil,OwnL];exact ⟨rfl,rfl⟩
 | y::xs,ws,h=>by
  rw [OwnL] at h
  obtain ⟨u,r,f1,f2,rfl,ef,_,o1,o2⟩:=h
  obtain ⟨rfl,rfl⟩:f1=[]/\f2=[]:=by simpa using ef.symm
  rw [jh3,jh3]
  exact OwnL.snoc0 (OwnL.rev o2) o1
def zzq:List (PV×Nat)->Option (PV×Nat)
 | [(.bl b,_)]=>some (.int (if b then 1 else 0),om)
 | [(.int i,_)]=>some (.int i,om)
 | [(.str z,_)]=>if z.length<=640 then (ve8 z).map λ n=>(.int n,om) else none
 | _=>none
theorem qho (hg:Gl X "int") (hm:X.mg "int" = none) (ha:PA X (e::es) (tL M fa vs)) (he:va3 (e::es) X.env=(false,eval e X.env)::va3 es X.env) (hpl:(vd2 pos (va3 es X.env)).any (·.1)=false):
  PE X (.Call (.Name "int" p) (e::es) [] pos) (tE M (zqb zzq fa) vs):=by
 refine zqi (zvs (qdv.or qdu) hg hm rfl ha (he:=he) (hpl:=hpl)) λ σ H Q h=>zwk (λ xs z c ws H fps fp Q ho tm nz zd lf=>?_) h
 unfold zzq at ho
 split at ho
 ·cases ho
  obtain ⟨v,r,f1,f2,rfl,rfl,_,o1,h2⟩:=tm
  obtain ⟨rfl,rfl⟩:=h2
  rw [Own] at o1
  exact .inl (.inr ⟨_,by rw [o1.1],zqv lf⟩)
 ·cases ho
  obtain ⟨v,r,f1,f2,rfl,rfl,_,o1,h2⟩:=tm
  obtain ⟨rfl,rfl⟩:=h2
  rw [Own] at o1
  exact .inl (.inl ⟨_,by rw [o1.1],zqv lf⟩)
 ·rename_i z0 d0
  split at ho
  ·rename_i hl
   obtain ⟨n,hn,e2⟩:=ja5.mp ho
   cases e2
   obtain ⟨v,r,f1,f2,rfl,rfl,_,o1,h2⟩:=tm
   obtain ⟨rfl,rfl⟩:=h2
   rw [Own] at o1
   exact .inr ⟨z0,n,by rw [o1.1],hn,hl,zqv lf⟩
  ·cases ho
 ·cases ho
end
section
variable {M:Fm}{fa:Fa}{vs:List Nat}
def spM (K:Frag) (F:Fn):Sp:=λ ws H Q _=>∃ x0 v0 fp0,ws=[v0]/\Own K H (λ _=>True) x0 om v0 fp0/\(match F [x0] with
 | .ok (y,_,_)=>zvz y=true/\∀ v H',Keep (λ a=>a∈fp0) H H'->(∀ a,H a≠none->H' a≠none)->Own K H' (λ _=>True) y om v []->Q v H'
 | _=>False)
end
section
variable {X:Cx}{M:Fm}{f g:Fx}{vs vs':List Nat}{σ:St}{H:Hp}{Q:VK}
end
section
variable {pg:va8}{wd:vb7}{Ar:vc0}{Er:va0->va1->Prop}{st:va1}
end
section
variable {X:Cx}{M:Fm}{f:Fx}{vs:List Nat}{a:Expr}{pos p p2 pos2:Pos}
end
section
variable {prog:va8}{w:vb7}{A:vc0}{E:va0->va1->Prop}{s:va1}{a₀:Array Keyed}
end
section
variable {prog:va8}{w:vb7}{A:vc0}{E:va0->va1->Prop}{s:va1}
end
section
variable {X:Cx}{M:Fm}{fa:Fa}{vs:List Nat}{e:Expr}{es:List Expr}{pos p:Pos}
def qnl (ns:List Int):Prop:=ns.length < 64\/(ns.Pairwise (·<=·)/\ns.length<=va2)
instance (ns:List Int):Decidable (qnl ns):=inferInstanceAs (Decidable (_\/_))
def maxI:Int->List Int->Int
 | n,[]=>n
 | n,m::r=>maxI (if m > n then m else n) r
theorem zhc:∀ (r:List Int) (n:Int),maxI n r∈n::r
 | [],n=>ja2
 | m::r,n=>by
  have q:=zhc r (if m > n then m else n)
  show maxI (if m > n then m else n) r∈_
  rcases ja9.mp q with z | z
  ·rw [z]
   split <;> simp
  ·simp [z]
theorem qcl:∀ (r:List Int) (n:Int),∀ a∈n::r,a<=maxI n r
 | [],n,a,h=>by
  have e:a=n:=by simpa using h
  rw [e];exact jn6 _
 | m::r,n,a,h=>by
  show a<=maxI (if m > n then m else n) r
  have q:=qcl r (if m > n then m else n)
  have q1:=q _ ja2
  have q2:n<=(if m > n then m else n)/\m<=(if m > n then m else n):=by split <;> omega
  simp only [ja9] at h
  rcases h with z | z | z
  ·omega
  ·omega
  ·exact q a (ja0 _ z)
theorem qdr (hc:X.calm=true):zws X (.builtin "max") (λ xs H Q=>∃ (q:Addr) (n:Int) (r:List Int),xs=[.ref q]/\SqL X.K H q ((n::r).map V.int)/\Q (.int (maxI n r)) H):=by
 intro pins s σ H xs us Q I rv h
 obtain ⟨q,n,r,rfl,hq,k0⟩:=h
 obtain ⟨u,rfl,rx⟩:=zvp rv
 cases rx
 obtain ⟨its,rv2,pl,hz⟩:=I.list hq
 obtain ⟨zs,rfl,ez⟩:=zza rv2
 have e:(zs.map λ p=>Value.int p.1 p.2).toArray=ve3 zs.toArray:=by simp [ve3]
 rw [e] at pl
 have hsz:zs.toArray.size=zs.length:=by simp
 have h0:0 < zs.length:=by
  cases zs with
  | nil=>cases ez
  | cons _ _=>simp
 refine max_intList (I.ok.hd hc) pl.isList (by simpa using h0) λ v h' tk hv k=>?_
 obtain ⟨l1,l2⟩:=argBest_gt (vf8 zs.toArray) (zs.toArray.size - 1)
 obtain ⟨t,rfl⟩:=vk5 hv
 generalize argBest (λ i j=>decide (vf8 zs.toArray i > vf8 zs.toArray j)) (zs.toArray.size - 1)=b at *
 have num:∀ j,(hj:j < zs.length)->vf8 zs.toArray j=zs[j].1:=λ j hj=>by unfold vf8;simp [hj]
 have hm:vf8 zs.toArray b∈n::r:=by
  rw [num b (by omega),<- ez]
  exact jf8.mpr ⟨_,je3 _,rfl⟩
 have hg:∀ a∈n::r,a<=vf8 zs.toArray b:=λ a ha=>by
  rw [<- ez] at ha
  obtain ⟨z,hz',rfl⟩:=jf8.mp ha
  obtain ⟨j,hj,rfl⟩:=jg2 hz'
  rw [<- num j hj]
  exact l2 j (by omega)
 have eb:vf8 zs.toArray b=maxI n r:=Int.le_antisymm (qcl r n _ hm) (hg _ (zhc r n))
 exact ⟨.int _,H,I.kept (t':=tk) k,⟨t,rfl⟩,by rw [eb];exact k0⟩
def qal:List (PV×Nat)->Option (PV×Nat)
 | [(.lst xs,_)]=>match zvu xs with
  | some (n::r)=>some (.int (maxI n r),om)
  | _=>none
 | xs=>op2 (λ i j=>if j > i then j else i) xs
theorem qhk (hc:X.calm=true) (hg:Gl X "max") (hm:X.mg "max" = none) (ha:PA X (e::es) (tL M fa vs)) (he:va3 (e::es) X.env=(false,eval e X.env)::va3 es X.env) (hpl:(vd2 pos (va3 es X.env)).any (·.1)=false):
  PE X (.Call (.Name "max" p) (e::es) [] pos) (tE M (zqb qal fa) vs):=by
 refine zqi (zww ((qds hc).or (qdr hc)) hg hm rfl ha (he:=he) (hpl:=hpl)) λ σ H Q h=>zwk (λ xs z c ws H fps fp Q ho tm nz zd lf=>?_) h
 unfold qal at ho
 split at ho
 ·rename_i xs d
  split at ho
  ·rename_i n r eb
   cases ho
   obtain ⟨v,r',f1,f2,rfl,rfl,_,o1,h2⟩:=tm
   obtain ⟨rfl,rfl⟩:=h2
   obtain ⟨q,us,rfl,hs,ol⟩:=(cold (fp:=f1) o1 λ a ha=>nz a (ja4 _ ha)).coldL
   have:=zzb eb ol
   subst this
   exact .inr ⟨q,n,r,rfl,.inl (.inl hs),zqv lf⟩
  ·cases ho
 ·exact .inl (zhe ho tm lf)
end
def zjf (x:PV):Option Str:=match x with
 | .non=>some "None"
 | .bl b=>some (if b then "True" else "False")
 | .int i=>if i.natAbs.log2 < 1920 then some (toString i) else none
 | .str s=>some s
 | .emp=>some (PyData.shown (.dict []))
 | .lst xs=>match toD 20 (.lst xs) with
  | some D=>if D.showable=true/\D.shown.length<=va2 then some D.shown else none
  | none=>none
 | .tup xs=>match toD 20 (.tup xs) with
  | some D=>if D.showable=true/\D.shown.length<=va2 then some D.shown else none
  | none=>none
 | _=>none
def zkf:List (PV×Nat)->Option (PV×Nat)
 | [(x,_)]=>(zjf x).map λ s=>(.str s,om)
 | _=>none
section
variable {X:Cx}{M:Fm}{H:Hp}{σ:St}
def rStr (K:Frag):List V->Hp->VK->Prop:=λ ws H Q=>∃ x d v Z f T,ws=[v]/\Own K H Z x d v f/\zjf x=some T/\Q (.str T) H
theorem zht {pins:List (Addr×Obj)}{s:va1}{Z:Addr->Prop}{x:PV}{d:Nat}{v:V}{f:List Addr}{D:vh1}{a:Addr}{Q:VK} (hu:X.A.units + 64 < vf1) (hg:X.A.guards=some []) (I:L2.Inv X pins σ H s) (o:Own X.K H Z x d v f) (hD:toD 20 x=some D) (hs:D.showable=true) (hz:D.shown.length<=va2) (r:RelV v (.ref a)) (q:Q (.str D.shown) H):vb2 (vb3 X.prog X.w) X.A (call (.type "str") [.ref a]) (EP X pins σ Q) X.xe s:=by
 obtain ⟨as,ra⟩:=zxz I 20 x d v f (.ref a) D hD o r
 have l:=zwe 20 x D hD
 exact PySem.str_of_reads ra hs (PyData.noDict_hsm (PyData.hasDict_of_canLay D l.1)) hg (by omega) (λ _ _ e=>e) (λ h' u tk hk=>⟨.str D.shown,H,I.kept (t':=tk) hk,⟨u,rfl⟩,q⟩) hz
theorem qfd (hu:X.A.units + 64 < vf1) (hg:X.A.guards=some []):zws X (.type "str") (rStr X.K):=by
 intro pins s σ H ws us Q I rv h
 obtain ⟨x,d,v,Z,f,T,rfl,o,hT,q⟩:=h
 cases rv with
 | cons r rr=>
  cases rr
  cases x with
  | non=>
   rw [Own] at o
   obtain ⟨rfl,_⟩:=o
   cases r
   cases hT
   exact P.str_of_none ⟨.str "None",H,I.tok _,⟨_,rfl⟩,q⟩
  | bl b=>
   rw [Own] at o
   obtain ⟨rfl,_⟩:=o
   cases r
   cases hT
   exact P.str_of_bool ⟨.str _,H,I.tok _,⟨_,rfl⟩,q⟩
  | int i=>
   rw [Own] at o
   obtain ⟨rfl,_⟩:=o
   obtain ⟨t,rfl⟩:=r
   dsimp only [zjf] at hT
   split at hT
   ·rename_i hi
    cases hT
    exact P.str_of_int hi ⟨.str _,H,I.tok _,⟨_,rfl⟩,q⟩
   ·cases hT
  | str z=>
   rw [Own] at o
   obtain ⟨rfl,_⟩:=o
   obtain ⟨t,rfl⟩:=r
   cases hT
   exact P.str_of_str ⟨.str _,H,I,⟨_,rfl⟩,q⟩
  | dko=>cases hT
  | emp=>
   rw [Own] at o
   obtain ⟨_,a,rfl,ha⟩:=o
   cases r
   cases hT
   obtain ⟨_,z1,vs,k1,⟨o,es,ep,h1,h2,h3,h4,h5,h6⟩⟩:=qaw I.hok ha
   cases k1
   generalize hes:es.toList=l at h5
   cases h5
   have rd:Reads s.heap (.ref a) (.dict []) (a::[]++[]):=Reads.dict (es:=es) (kvs:=[]) h1 h2.1 h3 (by rw [hes];exact .nil) (by rw [hes];exact .nil)
   have h9:ve0 (.dict []) + 3<=64:=by decide
   have hroom:X.A.units + (ve0 (.dict []) + 3) < vf1:=Nat.lt_of_le_of_lt (Nat.add_le_add_left h9 _) hu
   refine PySem.str_of_reads rd rfl (λ _ hm=>?_) hg hroom (λ _ _ e=>e) (λ h' u tk hk=>⟨.str _,H,I.kept (t':=tk) hk,⟨u,rfl⟩,q⟩) (by decide +kernel)
   have e9:vd4=a:=by simpa using hm
   rw [<- e9] at z1
   simp at z1
  | lst xs=>
   dsimp only [zjf] at hT
   split at hT
   ·rename_i D hD
    split at hT
    ·rename_i hc
     cases hT
     obtain ⟨a,ws,d',f',rfl,ha,ol⟩:=zze o
     cases r
     exact zht hu hg I o hD hc.1 hc.2 rfl q
    ·cases hT
   ·cases hT
  | tup xs=>
   dsimp only [zjf] at hT
   split at hT
   ·rename_i D hD
    split at hT
    ·rename_i hc
     cases hT
     have o':=o
     rw [Own] at o'
     obtain ⟨a,ws,rfl,ha,ol⟩:=o'
     cases r
     exact zht hu hg I o hD hc.1 hc.2 rfl q
    ·cases hT
   ·cases hT
  | scr ns=>cases hT
  | dct _=>cases hT
  | exn _=>cases hT
variable {e:Expr}{es:List Expr}{fa:Fa}{vs:List Nat}{p pos:Pos}
theorem qke (hu:X.A.units + 64 < vf1) (hgd:X.A.guards=some []) (hK:M.K=X.K) (hg:Gl X "str") (hm:X.mg "str" = none) (ha:PA X (e::es) (tL M fa vs)) (he:va3 (e::es) X.env=(false,eval e X.env)::va3 es X.env) (hpl:(vd2 pos (va3 es X.env)).any (·.1)=false):
  PE X (.Call (.Name "str" p) (e::es) [] pos) (tE M (zqb zkf fa) vs):=by
 refine zqi (zvs (qfd hu hgd) hg hm rfl ha (he:=he) (hpl:=hpl)) λ σ H Q h=>zwk (λ xs z c ws H fps fp Q ho tm nz zd lf=>?_) h
 unfold zkf at ho
 split at ho
 ·rename_i x d
  obtain ⟨T,hT,eT⟩:=ja5.mp ho
  cases eT
  obtain ⟨v,r,f1,f2,rfl,rfl,_,o1,h2⟩:=tm
  obtain ⟨rfl,rfl⟩:=h2
  rw [hK] at o1
  exact ⟨x,_,v,_,f1,T,rfl,o1,hT,zzh lf⟩
 ·cases ho
end
open PySem PySem.Spec PyProof.Rows L2 PySem.Builtin PySem.Builtin.ObjectAttr PySem.Builtin.Getset_descriptor
section
variable {prog:va8}{w:vb7}{A:vc0}{E:va0->va1->Prop}{K:Frag}{h:Heap}{g:Array GenState}{d:Drawn}{t:Nat}{os:OsState}{a C:Addr}{oe:Obj}
theorem qmg {R:Result->va1->Prop} (X:K.In h) (he:h.get? a=some oe) (hc:oe.cls=.ref C) (hm:vc7 K C (.type "object")=some true) (hq:R (.ok (.ret (.ref C))) ⟨h,g,d,t,os⟩):
  vi9 (vb3 prog w) A (.call (.builtin "getset_descriptor.__get__") ⟨[.builtin "object.__class__",.ref a,.ref C],[]⟩) R ⟨h,g,d,t,os⟩:=by
 have ty:PySem.W.Looks (vb3 prog w) h (typeOf (.ref a)) (.ref C):=hc ▸ (PySem.W.Looks.ld he).andThen .now
 have mr:=PySem.W.looks_mroIn (M:=vb3 prog w) X hm
 have pl:=PySem.W.KF.slot_gs.plain
 have en:=PySem.W.KF.entry_gs
 refine codeAny_call_builtin pl en (PySem.W.KF.slot_gs.check _ _ _ _ _ _ _ _
  PySem.W.KF.type_class (PySem.W.KF.args_gs _ _ _) ?_)
 unfold Builtin.«getset_descriptor.__get__»
 unfold descrGet
 rw [PySem.W.dga_obj]
 refine va7 (vb0 ?_)
 unfold descrGetter descrCheckInstance
 unfold descrNameAndClass isInstance
 simp only [PySem.W.KF.owner_class]
 repeat lk
 refine ⟨Code.quiet_builtin _ (by decide +kernel),codeAny_builtin PySem.W.KF.entry_class ?_⟩
 unfold Builtin.«object.__class__»
 unfold shownTypeOf
 repeat lk
 exact hq
theorem qfa {tk:Tok}{Q:Fin->va1->Prop} (X:K.In h) (he:h.get? a=some oe) (hc:oe.cls=.ref C) (hm:vc7 K C (.type "object")=some true) (hl:vb5 K (.ref C) "__class__" = some (some (.builtin "object.__class__")))
  (hq:Q (.done (.ret (.ref C))) ⟨h,g,d,t,os⟩):vb2 (vb3 prog w) A (Builtin.«object.__getattribute__» ⟨[.ref a,.str "__class__" tk],[]⟩) Q E ⟨h,g,d,t,os⟩:=by
 have hT5:(⟨h,g,d,t,os⟩:va1).TypeIs (.builtin "object.__class__") "getset_descriptor" := F.typeOf_object_class
 have f5:=F.typeOf_object_class
 have f6:=F.slot_gs_get.lookup
 have f7:=F.slot_gs_set.lookup
 have L1:=vh8 (M:=vb3 prog w) X hl
 repeat (any_goals (first | assumption | (with_reducible refine ve7 he ?_;rw [hc]) | with_reducible refine L1.at ?_ | wp_step))
 refine qmg X he hc hm ?_
 repeat (any_goals (first | assumption | wp_step))
theorem qfb {nameV:va0}{Q:Unit->va1->Prop}{M:Model} (X:K.In h) (he:h.get? a=some oe) (hc:oe.cls=.ref C) (hb:vc7 K C (.type "BaseException")=some true) (hq:Q () ⟨h,g,d,t,os⟩):
  vb2 M A (checkBuiltinCall "BaseException.__getattribute__" ⟨[.ref a,nameV],[]⟩) Q E ⟨h,g,d,t,os⟩:=by
 have hk:builtinKind "BaseException.__getattribute__" = some .slot:=by decide +kernel
 have hsp:splitId "BaseException.__getattribute__" = some ("BaseException","__getattribute__"):=by decide +kernel
 have ha:=F.args_bexc_ga (.ref a) nameV
 have L1:=PySem.W.looks_mroIn (M:=M) X hb
 simp only [checkBuiltinCall,hk,hsp]
 refine va7 ?_
 unfold isInstance
 repeat (first | (with_reducible refine ve7 he ?_;rw [hc]) | with_reducible refine L1.at ?_ | wp_step)
 exact hq
theorem qnj {tk:Tok}{Q:va0->va1->Prop} (X:K.In h) (he:h.get? a=some oe) (hc:oe.cls=.ref C) (hm:vc7 K C (.type "object")=some true) (hb:vc7 K C (.type "BaseException")=some true)
  (hl:vb5 K (.ref C) "__class__" = some (some (.builtin "object.__class__"))) (hga:vb5 K (.ref C) "__getattribute__" = some (some (.builtin "BaseException.__getattribute__"))) (hgh:vb5 K (.ref C) "__getattr__" = some none)
  (hq:Q (.ref C) ⟨h,g,d,t,os⟩):vb2 (vb3 prog w) A (getAttrBy (.ref a) (.str "__class__" tk) false) Q E ⟨h,g,d,t,os⟩:=by
 have f3:=PySem.F.attrBase_ValueError.ga.bind (.ref a)
 have L1:=vh8 (M:=vb3 prog w) X hga
 have L2':=vh8 (M:=vb3 prog w) X hgh
 have hx2:(Value.builtin "BaseException.__getattribute__" == Value.builtin "object.__getattribute__")=false:=by decide +kernel
 have hx1:(onTheHeap (Value.ref C) && Value.builtin "BaseException.__getattribute__" == Value.builtin "object.__getattribute__")=false:=by rw [hx2];rfl
 repeat (any_goals (first | assumption | (with_reducible refine ve7 he ?_;rw [hc]) | with_reducible refine L1.at ?_ | with_reducible refine L2'.at ?_ | wp_step))
 refine codeAny_call_builtin PySem.F.attrBase_ValueError.ga.plain F.entry_bexc_ga (qfb X he hc hb (qfa X he hc hm hl ?_))
 repeat (any_goals (first | assumption | wp_step))
theorem qi9 {Q:Option va0->va1->Prop} (X:K.In h) (he:h.get? a=some oe) (hc:oe.cls=.ref C) (hm:vc7 K C (.type "object")=some true) (hb:vc7 K C (.type "BaseException")=some true)
  (hl:vb5 K (.ref C) "__class__" = some (some (.builtin "object.__class__"))) (hga:vb5 K (.ref C) "__getattribute__" = some (some (.builtin "BaseException.__getattribute__"))) (hgh:vb5 K (.ref C) "__getattr__" = some none)
  (hq:Q (some (.ref C)) ⟨h,g,d,t + 1,os⟩):vb2 (vb3 prog w) A (getAttr? (.ref a) "__class__") Q E ⟨h,g,d,t,os⟩:=by
 unfold getAttr?
 unfold getAttrBy?
 repeat (any_goals (first | assumption | with_reducible apply qnj X he hc hm hb hl hga hgh | wp_step))
end
def clsV (K:Frag) (d:Nat) (u:va0):Bool:=(u == .type "ValueError" && d == 0) || (match zxu K d with
 | some D=>u == .ref D
 | none=>false)
section
variable {K:Frag}{a C:Addr}{c d:Nat}{u:va0}
theorem zjx (t:xKit K=true) (e:zxu K c=some C):zkh K C=true/\vb9 K (.type "NoneType") (.ref C)=some false/\vb9 K (.ref C) (.type "ValueError")=some true/\∀ d D,zxu K d=some D->vb9 K (.ref C) (.ref D)=some (isX c d):=by
 unfold xKit at t
 rw [ja3] at t
 have h:=jb6.mp t.2 c (jd5.mpr (zkz e))
 rw [e] at h
 dsimp only at h
 simp only [ja3] at h
 refine ⟨h.1.1.1,eq_of_beq h.1.1.2,eq_of_beq h.1.2,λ d D ed=>?_⟩
 have h2:=jb6.mp h.2 d (jd5.mpr (zkz ed))
 rw [ed] at h2
 exact eq_of_beq h2
theorem qcs (t:xKit K=true) (e:zxu K c=some C) (hu:clsV K d u=true):vb9 K (.ref C) u=some (isX c d):=by
 obtain ⟨_,_,h3,h4⟩:=zjx t e
 unfold clsV at hu
 rw [jc8] at hu
 rcases hu with hu | hu
 ·rw [ja3] at hu
  rw [eq_of_beq hu.1,h3,eq_of_beq hu.2]
  simp [isX]
 ·split at hu
  ·rename_i D hD
   rw [eq_of_beq hu]
   exact h4 d D hD
  ·cases hu
theorem qcr (t:xKit K=true) (hu:clsV K d u=true):vb9 K (.type "NoneType") u=some false:=by
 unfold clsV at hu
 rw [jc8] at hu
 rcases hu with hu | hu
 ·rw [ja3] at hu
  rw [eq_of_beq hu.1]
  unfold xKit at t
  rw [ja3] at t
  exact eq_of_beq t.1
 ·split at hu
  ·rename_i D hD
   rw [eq_of_beq hu]
   exact (zjx t hD).2.1
  ·cases hu
def zyr (K:Frag):List Nat->List va0->Bool
 | [],[]=>true
 | d::ds,u::us=>clsV K d u && zyr K ds us
 | _,_=>false
theorem zhi (t:xKit K=true) (e:zxu K c=some C):∀ {ds:List Nat}{us:List va0},zyr K ds us=true->vh9 K (.ref C) us=some (ds.any (isX c))
 | [],[],_=>rfl
 | [],_::_,h=>by cases h
 | _::_,[],h=>by cases h
 | d::ds,u::us,h=>by
  unfold zyr at h
  rw [ja3] at h
  unfold vh9
  rw [qcs t e h.1,jj0]
  cases isX c d with
  | true=>rfl
  | false=>exact zhi t e h.2
theorem zhh (t:xKit K=true):∀ {ds:List Nat}{us:List va0},zyr K ds us=true->vh9 K (.type "NoneType") us=some false
 | [],[],_=>rfl
 | [],_::_,h=>by cases h
 | _::_,[],h=>by cases h
 | d::ds,u::us,h=>by
  unfold zyr at h
  rw [ja3] at h
  unfold vh9
  rw [qcr t h.1]
  exact zhh t h.2
theorem qdj (g:zkh K C=true):∃ c0 dd cd sl,K.lookup C=some ⟨c0,dd,.cls cd,sl⟩:=by
 unfold zkh at g
 simp only [ja3] at g
 have h:=g.1.1.1.1.1
 unfold PySem.W.clsIn at h
 split at h
 ·rename_i q;exact ⟨_,_,_,_,q⟩
 ·cases h
theorem zhj (g:zkh K C=true):PySem.W.KitX K (.ref a) (.ref C) (zkp a C):=by
 obtain ⟨c0,dd,cd,sl,hl⟩:=qdj g
 unfold zkh at g
 simp only [ja3] at g
 obtain ⟨⟨⟨⟨⟨_,g1⟩,g2⟩,g3⟩,g4⟩,g5⟩:=g
 refine ⟨λ M h _ p=>?_,λ M h X _=>?_,λ h tp dd' its n sl' X htp=>?_,λ {prog w A E Q s} X p k=>?_⟩
 ·obtain ⟨o,vs,h1,h2,_⟩:=p
  exact h2 ▸ (PySem.W.Looks.ld h1).andThen .now
 ·intro A' Q' E' s' kp q
  unfold isType
  unfold loadHead
  exact va7 (wpAny_loadPart (kp _ _ (X _ _ hl)) (vb0 q))
 ·cases hb:(Value.ref C == Value.ref tp) with
  | false=>rfl
  | true=>
   have ec:C=tp:=Value.ref.inj (eq_of_beq hb)
   have z:=X _ _ hl
   rw [ec,htp] at z
   cases z
 ·obtain ⟨o,vs,h1,h2,_⟩:=p
  obtain ⟨hp,gg,dr,tt,oo⟩:=s
  exact qi9 X h1 h2 (eq_of_beq g1) (eq_of_beq g2) (eq_of_beq g3) (eq_of_beq g4) (eq_of_beq g5) k
end
section
variable {X:Cx}
def IsQ (K:Frag) (v:V) (H:Hp) (Q:VK) (ds:List Nat):Prop:=(v=.non/\Q (.bl false) H)\/∃ a C c,v=.ref a/\zxu K c=some C/\H a=some (.ext (zkp a C))/\Q (.bl (ds.any (isX c))) H
theorem zhp {pins:List (Addr×Obj)}{σ:St}{H:Hp}{s:va1}{a C:Addr} (I:L2.Inv X pins σ H s) (h:H a=some (.ext (zkp a C))):zkp a C s.heap:=(I.hok a _ h).1
theorem qdt (t:xKit X.K=true):zws X (.builtin "isinstance") (λ xs H Q=>∃ v cv d,xs=[v,cv]/\(∀ u,RelV cv u->clsV X.K d u=true)/\IsQ X.K v H Q [d]):=by
 intro pins s σ H xs us Q I r h
 obtain ⟨v,cv,d,rfl,hcv,h⟩:=h
 obtain ⟨u,w,rfl,r1,r2⟩:=qa3 r
 have hw:=hcv w r2
 rcases h with ⟨rfl,q⟩ | ⟨a,C,c,rfl,hC,ha,q⟩
 ·cases r1
  exact vb6 vj1 I.kIn True.intro (qcr t hw) (λ z=>nomatch z) λ tk=>⟨.bl false,H,I.tok _,rfl,q⟩
 ·obtain rfl:u=Value.ref a:=r1
  exact vb6 (zhj (zjx t hC).1) I.kIn (zhp I ha) (qcs t hC hw) (λ z=>nomatch z) λ tk=>⟨.bl (isX c d),H,I.tok _,rfl,by simpa using q⟩
theorem qay (t:xKit X.K=true):zws X (.builtin "isinstance") (λ xs H Q=>∃ v p cvs ds,xs=[v,.ref p]/\H p=some (.tup cvs)/\(∀ us,Vals cvs us->zyr X.K ds us=true)/\IsQ X.K v H Q ds):=by
 intro pins s σ H xs us Q I r h
 obtain ⟨v,p,cvs,ds,rfl,hp,hcv,h⟩:=h
 obtain ⟨u,w,rfl,r1,r2⟩:=qa3 r
 obtain rfl:w=Value.ref p:=r2
 obtain ⟨_,its,rv,o,ho,hc,n,hd⟩:=I.hok p _ hp
 have hi:=hcv its rv
 have ho':s.heap.get? p=some ⟨.type "tuple",o.dict,.seq its.toArray n,o.slots⟩:=by
  rw [ho]
  obtain ⟨oc,od,oda,os⟩:=o
  dsimp only at hc hd
  rw [hc,hd]
 rcases h with ⟨rfl,q⟩ | ⟨a,C,c,rfl,hC,ha,q⟩
 ·cases r1
  exact PySem.W.kia_tup vj1 I.kIn True.intro ho' (zhh t hi) (λ z=>nomatch z) λ tk=>⟨.bl false,H,I.tok _,rfl,q⟩
 ·obtain rfl:u=Value.ref a:=r1
  exact PySem.W.kia_tup (zhj (zjx t hC).1) I.kIn (zhp I ha) ho' (zhi t hC hi) (λ z=>nomatch z) λ tk=>⟨.bl (ds.any (isX c)),H,I.tok _,rfl,q⟩
end
section
variable {X:Cx}{M:Fm}{f g:Fx}{vs vs':List Nat}{e:Expr}{es:List Expr}{pos p:Pos}{σ:St}{H:Hp}{Q:VK}
def zxq (ds:List Nat) (x:PV) (_:Nat):Option (PV×Nat):=match x with
 | .exn c=>some (.bl (ds.any (isX c)),om)
 | .non=>some (.bl false,om)
 | _=>none
theorem qga {K:Frag}{x z:PV}{ds:List Nat}{d c:Nat}{v:V}{Z:Addr->Prop}{H H':Hp}{f1:List Addr} (ho:zxq ds x d=some (z,c)) (o1:Own K H Z x d v f1) (k:∀ a o,H a=some o->H' a=some o) (q:∀ b,z=.bl b->Q (.bl b) H'):IsQ K v H' Q ds:=by
 cases x with
 | exn n=>
  cases ho
  rw [Own] at o1
  obtain ⟨_,a,C,rfl,hC,ha⟩:=o1
  exact .inr ⟨a,C,n,rfl,hC,k _ _ ha,q _ rfl⟩
 | non=>
  cases ho
  rw [Own] at o1
  obtain ⟨rfl,_⟩:=o1
  exact .inl ⟨rfl,q _ rfl⟩
 | _=>cases ho
theorem zme {ds:List Nat}{x z:PV}{d c:Nat} (ho:zxq ds x d=some (z,c)):∃ b,z=.bl b/\c=om:=by
 cases x with
 | exn n=>cases ho;exact ⟨_,rfl,rfl⟩
 | non=>cases ho;exact ⟨_,rfl,rfl⟩
 | _=>cases ho
theorem qbq {cv:V}{d:Nat}{T':Str}{p1 p2:Pos} (t:xKit X.K=true) (hK:M.K=X.K) (ha:PE X e (tE M f vs)) (hg:Gl X "isinstance") (hm:X.mg "isinstance" = none) (hc:PE X (.Name T' p2) (tC cv)) (hcv:∀ u,RelV cv u->clsV X.K d u=true)
  (hs1:va3 [e,.Name T' p2] X.env=[(false,eval e X.env),(false,eval (.Name T' p2) X.env)]) (hs2:va3 [Expr.Name T' p2] X.env=[(false,eval (.Name T' p2) X.env)]):
  PE X (.Call (.Name "isinstance" p1) [e,.Name T' p2] [] pos) (tE M (bUn (zxq [d]) f) vs):=by
 refine zqi (zww (qdt t) hg hm rfl (zxp ha (zxp hc zvc hs2) (by rw [hs1,hs2])) (he:=by rw [hs1,hs2]) (hpl:=by rw [hs2];rfl)) λ σ H Q h=>?_
 refine qad (r:=λ v H Q=>∃ x c n,[v,cv]=[x,c]/\(∀ u,RelV c u->clsV X.K n u=true)/\IsQ X.K x H Q [n]) (λ x d' z c v H fps f1 Q ho o1 nz zd lf=>?_) h
 obtain ⟨b,rfl,rfl⟩:=zme ho
 exact ⟨v,cv,d,rfl,hcv,by rw [<- hK];exact qga ho o1 (λ _ _ h=>h) λ b' e=>by cases e;exact zxi lf⟩
def tVs (cvs:List V):TA:=λ _ H Q=>Q cvs H
theorem qec {cvs:List V}{ds:List Nat}{p1 p2:Pos}{k:Nat} (t:xKit X.K=true) (hK:M.K=X.K) (ha:PE X e (tE M f vs)) (hg:Gl X "isinstance") (hm:X.mg "isinstance" = none) (hc:PA X es (tVs cvs)) (hl:cvs.length<=va2) (hcv:∀ us,Vals cvs us->zyr X.K ds us=true)
  (hs1:va3 [e,.Tuple es k p2] X.env=[(false,eval e X.env),(false,eval (.Tuple es k p2) X.env)]) (hs2:va3 [Expr.Tuple es k p2] X.env=[(false,eval (.Tuple es k p2) X.env)]):
  PE X (.Call (.Name "isinstance" p1) [e,.Tuple es k p2] [] pos) (tE M (bUn (zxq ds) f) vs):=by
 refine zqi (zww (qay t) hg hm rfl (zxp ha (zxp (qf1 hc) zvc hs2) (by rw [hs1,hs2])) (he:=by rw [hs1,hs2]) (hpl:=by rw [hs2];rfl)) λ σ H Q h=>?_
 refine qad (r:=λ v H Q=>cvs.length<=va2/\∀ q,H q=none->∃ x p' cvs' ds',[v,V.ref q]=[x,.ref p']/\upd H q (.tup cvs) p'=some (.tup cvs')/\(∀ us,Vals cvs' us->zyr X.K ds' us=true)/\IsQ X.K x (upd H q (.tup cvs)) Q ds') (λ x d' z c v H fps f1 Q ho o1 nz zd lf=>?_) h
 obtain ⟨b,rfl,rfl⟩:=zme ho
 refine ⟨hl,λ q hq=>⟨v,q,cvs,ds,rfl,zqh,hcv,?_⟩⟩
 have kk:∀ a o,H a=some o->upd H q (.tup cvs) a=some o:=λ a o h=>by rw [zqf (λ z=>by rw [z,hq] at h;cases h)];exact h
 rw [<- hK]
 exact qga ho o1 kk λ b' e=>by cases e;exact lf (.bl b) _ [] kk (by rw [Own];exact ⟨rfl,rfl⟩) (λ _ z=>nomatch z)
end
section
variable {X:Cx}{M:Fm}{a b:Expr}{f g:Fx}{fa:Fa}{vs vs':List Nat}{pos p:Pos}{σ:St}{H:Hp}{Q:VK}{e:Expr}{es:List Expr}
def keyL:List PV->Option (List Key)
 | []=>some []
 | .int i::r=>(keyL r).map (.inl i::·)
 | .str x::r=>(keyL r).map (.inr x::·)
 | _=>none
theorem zkt {K:Frag}{Z:Addr->Prop}:∀ {xs:List PV}{ws:List V}{d:Nat}{fp:List Addr}{k:List Key},keyL xs=some k->OwnL K H Z xs d ws fp->ws=k.map kV
 | [],ws,d,fp,k,e,h=>by cases e;rw [OwnL] at h;exact h.1
 | .int i::r,ws,d,fp,k,e,h=>by
  obtain ⟨k',e1,rfl⟩:=ja5.mp e
  rw [OwnL] at h
  obtain ⟨v,s,f1,f2,rfl,ef,dj,h1,h2⟩:=h
  rw [Own] at h1
  rw [h1.1,zkt e1 h2]
  rfl
 | .str i::r,ws,d,fp,k,e,h=>by
  obtain ⟨k',e1,rfl⟩:=ja5.mp e
  rw [OwnL] at h
  obtain ⟨v,s,f1,f2,rfl,ef,dj,h1,h2⟩:=h
  rw [Own] at h1
  rw [h1.1,zkt e1 h2]
  rfl
 | .non::_,_,_,_,_,e,_=>by cases e
 | .bl _::_,_,_,_,_,e,_=>by cases e
 | .lst _::_,_,_,_,_,e,_=>by cases e
 | .tup _::_,_,_,_,_,e,_=>by cases e
 | .emp::_,_,_,_,_,e,_=>by cases e
 | .dko::_,_,_,_,_,e,_=>by cases e
 | .scr _::_,_,_,_,_,e,_=>by cases e
 | .dct _::_,_,_,_,_,e,_=>by cases e
 | .exn _::_,_,_,_,_,e,_=>by cases e
def opIn (neg:Bool) (x:PV) (_:Nat) (y:PV) (_:Nat):Option (PV×Nat):=match x,y with
 | .tup ks,.dct kvs=>(keyL ks).map λ k=>(.bl (neg^^(valV kvs k).isSome),om)
 | .str y,.str x=>some (.bl (neg^^vf9 x y),om)
 | x,.lst ys=>(match toD 20 x,toDL (toD 20) ys with
  | some a,some bs=>some (.bl (neg^^bs.any λ b=>vd9 b a),om)
  | _,_=>none)
 | x,.tup ys=>(match toD 20 x,toDL (toD 20) ys with
  | some a,some bs=>some (.bl (neg^^bs.any λ b=>vd9 b a),om)
  | _,_=>none)
 | _,_=>none
def rDIn (neg:Bool):R2:=λ v w H Q=>∃ a o,w=.ref a/\DGet H a v o/\Q (.bl (neg^^o.isSome)) H
theorem qll (hu:X.A.units + 1 < vf1):OpR X (vb4 .In) (rDIn false):=by
 intro pins s σ H x y v u Q I rx ry h
 obtain ⟨a,o,rfl,g,q⟩:=h
 obtain rfl:u=Value.ref a:=ry
 exact d_in hu I g rx λ s3 I3=>⟨.bl o.isSome,H,I3,rfl,by simpa using q⟩
theorem qcf (hu:X.A.units + 1 < vf1):OpR X (vb4 .NotIn) (rDIn true):=by
 intro pins s σ H x y v u Q I rx ry h
 obtain ⟨a,o,rfl,g,q⟩:=h
 obtain rfl:u=Value.ref a:=ry
 exact qi3 hu I g rx λ s3 I3=>⟨.bl (!o.isSome),H,I3,rfl,by simpa using q⟩
def sqv (tp:Bool) (ys:List PV):PV:=match tp with
 | true=>.tup ys
 | false=>.lst ys
def sqd (tp:Bool) (ys:List vh1):vh1:=match tp with
 | true=>.tuple ys
 | false=>.list ys
def rInD (K:Frag) (neg:Bool):R2:=λ v w H Q=>∃ tp x ys d e Z Z' f1 f2 a bs,toD 20 x=some a/\toDL (toD 20) ys=some bs/\Own K H Z x d v f1/\Own K H Z' (sqv tp ys) e w f2/\Q (.bl (neg^^bs.any λ b=>vd9 b a)) H
theorem qfq {tp:Bool}{ys:List PV}{bs:List vh1} (h:toDL (toD 20) ys=some bs):toD 21 (sqv tp ys)=some (sqd tp bs):=by
 cases tp with
 | true=>
  show (toDL (toD 20) ys).map PyData.tuple=_
  rw [h]
  rfl
 | false=>
  show (toDL (toD 20) ys).map PyData.list=_
  rw [h]
  rfl
theorem qlh (hu:X.A.units + 64 < vf1):OpR X (vb4 .In) (rInD X.K false):=by
 intro pins s σ H v w u u' Q I rx ry h
 obtain ⟨tp,x,ys,d,e,Z,Z',f1,f2,a,bs,h1,h2,o1,o2,q⟩:=h
 obtain ⟨as,ra⟩:=zxz I 20 x d v f1 u a h1 o1 rx
 obtain ⟨bs',rb⟩:=zxz I 21 (sqv tp ys) e w f2 u' _ (qfq h2) o2 ry
 have l1:=zwe 20 x a h1
 have l2:=zvq (λ x D h=>zwe 20 x D h) h2
 have hm:X.A.units + 1 + min (vd3 bs) a.depth < vf1:=by have:=jj3 (vd3 bs) a.depth;omega
 cases tp with
 | false=>exact SeqAt.in_list_reads rb ra l2.1 l1.1 hm ⟨.bl _,H,I,rfl,by simpa using q⟩
 | true=>exact SeqAt.in_tuple_reads rb ra l2.1 l1.1 hm ⟨.bl _,H,I,rfl,by simpa using q⟩
theorem qcd (hu:X.A.units + 64 < vf1):OpR X (vb4 .NotIn) (rInD X.K true):=by
 intro pins s σ H v w u u' Q I rx ry h
 obtain ⟨tp,x,ys,d,e,Z,Z',f1,f2,a,bs,h1,h2,o1,o2,q⟩:=h
 obtain ⟨as,ra⟩:=zxz I 20 x d v f1 u a h1 o1 rx
 obtain ⟨bs',rb⟩:=zxz I 21 (sqv tp ys) e w f2 u' _ (qfq h2) o2 ry
 have l1:=zwe 20 x a h1
 have l2:=zvq (λ x D h=>zwe 20 x D h) h2
 have hm:X.A.units + 1 + min (vd3 bs) a.depth < vf1:=by have:=jj3 (vd3 bs) a.depth;omega
 cases tp with
 | false=>exact SeqAt.notIn_list_reads rb ra l2.1 l1.1 hm ⟨.bl _,H,I,rfl,by simpa using q⟩
 | true=>exact SeqAt.notIn_tuple_reads rb ra l2.1 l1.1 hm ⟨.bl _,H,I,rfl,by simpa using q⟩
theorem zhg {x y z:PV}{d e c:Nat}{v w:V}{fps:Fps}{f1 f2 F:List Addr}{Z Z':Addr->Prop}{neg:Bool} (hK:M.K=X.K) (ho:opIn neg x d y e=some (z,c)) (o1:Own M.K H Z x d v f1) (o2:Own M.K H Z' y e w f2) (lf:Leaf M H fps vs F z c Q):(rDIn neg v w H Q\/rSIn neg v w H Q)\/rInD X.K neg v w H Q:=by
 unfold opIn at ho
 split at ho
 ·rename_i ks kvs
  obtain ⟨k,ek,e2⟩:=ja5.mp ho
  cases e2
  rw [Own] at o1
  rw [Own] at o2
  obtain ⟨b,ws,rfl,hb,ol⟩:=o1
  have:=zkt ek ol
  subst this
  have h2:∃ a,w=.ref a/\H a=some (.dT kvs):=by
   obtain ⟨a,ea,⟨_,hr,_⟩ | ⟨_,ha,_⟩⟩:=o2
   ·exact ⟨a,ea,hr.1⟩
   ·exact ⟨a,ea,ha⟩
  obtain ⟨a,rfl,ha⟩:=h2
  exact .inl (.inl ⟨a,_,rfl,DGet.t ha hb,zxi lf⟩)
 ·rename_i y0 x0
  cases ho
  rw [Own] at o1
  rw [Own] at o2
  exact .inl (.inr ⟨y0,x0,o1.1,o2.1,zxi lf⟩)
 ·rename_i ys
  split at ho
  ·rename_i a bs ea eb
   cases ho
   rw [hK] at o1
   rw [hK] at o2
   exact .inr ⟨false,_,ys,d,e,Z,Z',f1,f2,a,bs,ea,eb,o1,o2,zxi lf⟩
  ·cases ho
 ·rename_i ys
  split at ho
  ·rename_i a bs ea eb
   cases ho
   rw [hK] at o1
   rw [hK] at o2
   exact .inr ⟨true,_,ys,d,e,Z,Z',f1,f2,a,bs,ea,eb,o1,o2,zxi lf⟩
  ·cases ho
 ·cases ho
def bDct:Fx:=λ ρ=>.ok (.dct [],om,ρ)
theorem qkm:PE X (.Dict [] [] pos) (tE M bDct []):=by
 refine zqi qej λ σ H Q h p hp=>?_
 obtain ⟨ρ,fps,rep,q⟩:=h
 refine q (.ref p) _ fps [p] (KD.grow (zxf hp)) Agr.refl (rep.grow (zxf hp)) ?_ ⟨λ a ha=>by rw [jb1.mp ha];exact hp,λ a ha=>by rw [jb1.mp ha];exact rep.nz hp⟩
 rw [Own]
 exact ⟨p,rfl,.inr ⟨by decide,zqh,rfl⟩⟩
end
structure Sx where
 N:List Str
 sc:vd0
 ms:List Nat
 al:List (List Nat)
 Γ:List (Str×(Bool×Nat×Fn))
 Γm:List (Str×Fn)
 rz:Bool
 xc:List Nat
 pn:List Nat
def Sx.alF (S:Sx) (i:Nat):List Nat:=S.al.getD i []
def Sx.msF (S:Sx) (i:Nat):Bool:=S.ms.contains i
def zxx (sc:vd0) (x:Str) (k:vc8):Bool:=sc.names.lookup x == some k
def visB (sc:vd0) (x:Str):Bool:=zxx sc x .local || zxx sc x .cell || zxx sc x .free
def ixOf (N:List Str) (x:Str):Option Nat:=N.findIdx? (·== x)
def Sx.slot (S:Sx) (x:Str):Option Nat:=if visB S.sc x && !(x == ("__debug__" : Str)) && !(x == ("__classdict__" : Str)) then ixOf S.N x else none
def Sx.glob (S:Sx) (x:Str):Bool:=zxx S.sc x .globalImplicit
structure XS (X:Cx) (P:va8) (w:vb7) (K:Frag) (mg:Str->Option va0) (base:Heap) (lvl:Nat) (S:Sx) (Wx:St->Nat->Hp->Prop):Prop where
 prog:X.prog=P
 w:X.w=w
 K:X.K=K
 mg:X.mg=mg
 base:X.base=base
 N:X.N=S.N
 sc:X.env.scope=S.sc
 calm:X.calm=true
 room:Room lvl X.A
 po:vl2 (vb3 X.prog X.w) X.A X.env X.xe
 ps:zyw (CXr X.prog X.w X.K) X Wx
 rs:S.rz=true->zgj X Wx
structure MS (M:Fm) (K:Frag) (S:Sx) (Wx:St->Nat->Hp->Prop):Prop where
 K:M.K=K
 ms:M.Ms=S.msF
 al:∀ i,i < S.N.length->M.al i=S.alF i
 als:∀ i,∀ j∈M.al i,M.Ms j=false
 W:M.W=Wx
 pn:∀ p∈M.pn,p.1 < S.N.length
def GSm (P:va8) (w:vb7) (K:Frag) (mg:Str->Option va0) (base:Heap) (lvl:Nat) (Γm:List (Str×Fn)):Prop:=
 ∀ x F,Γm.lookup x=some F->(x == ("__debug__" : Str))=false/\∃ fa fd ps,mg x=some (.ref fa)/\vd6 K (.ref fa)=true/\zfj K fd ps []/\FnOk P w K mg base (CXr P w K) lvl fa fd ps (spM K F)
def GX (K:Frag) (mg:Str->Option va0) (xc:List Nat):Prop:=xc≠[]->xTab K=true/\xKit K=true/\∀ c∈xc,(c < 50->∃ x C,XN[c]?=some x/\zxu K c=some C/\mg x=some (.ref C)/\(x == ("__debug__" : Str))=false)/\(50<=c->∃ x v u,CN[c - 50]?=some (x,v)/\cVb v u=true/\mg x=some u/\(x == ("__debug__" : Str))=false)
def GS (P:va8) (w:vb7) (K:Frag) (mg:Str->Option va0) (base:Heap) (lvl:Nat) (Γ:List (Str×(Bool×Nat×Fn))):Prop:=
 (∀ x∈zwj,mg x=none)/\∀ x io n F,Γ.lookup x=some (io,n,F)->(x == ("__debug__" : Str))=false/\(∀ xs,xs.length≠n->F xs=.no) /\
  ∃ fa fd ps,mg x=some (.ref fa)/\vd6 K (.ref fa)=true/\zfj K fd ps []/\ps.length=n/\FnOk P w K mg base (CXr P w K) lvl fa fd ps (spF K io n F)
section
variable {X:Cx}{P:va8}{w:vb7}{K:Frag}{mg:Str->Option va0}{base:Heap}{lvl:Nat}{S:Sx}{Wx:St->Nat->Hp->Prop}{M:Fm}
theorem zxk {sc:vd0}{x:Str}{k:vc8} (h:zxx sc x k=true):sc.names.lookup x=some k:=by
 unfold zxx at h
 exact eq_of_beq h
theorem qa2 {sc:vd0}{x:Str} (h:visB sc x=true):Vis sc x:=by
 unfold visB at h
 rw [jc8,jc8] at h
 rcases h with (h | h) | h
 ·exact .inl (zxk h)
 ·exact .inr (.inl (zxk h))
 ·exact .inr (.inr (zxk h))
theorem zvt {N:List Str}{x:Str}{i:Nat} (h:ixOf N x=some i):N[i]?=some x:=by
 unfold ixOf at h
 rw [jd6] at h
 obtain ⟨hi,e,_⟩:=h
 have:N[i]=x:=eq_of_beq e
 rw [jc6 hi,this]
theorem XS.var (xs:XS X P w K mg base lvl S Wx) {x:Str}{i:Nat}{pos:Pos} (h:S.slot x=some i):PE X (.Name x pos) (tVar i):=by
 unfold Sx.slot at h
 split at h
 ·rename_i hc
  simp only [ja3,jh1] at hc
  exact qf0 (by rw [xs.N];exact zvt h) (by rw [xs.sc];exact qa2 hc.1.1) hc.1.2 hc.2
 ·cases h
theorem XS.gl (xs:XS X P w K mg base lvl S Wx) {x:Str} (h:S.glob x=true):Gl X x:=by
 show X.env.scope.names.lookup x=_
 rw [xs.sc]
 exact zxk h
theorem zqk {e:Expr}{es:List Expr}{env:Env} (h:∀ x p,e≠.Starred x p):va3 (e::es) env=(false,eval e env)::va3 es env:=by
 cases e with
 | Starred x p=>exact absurd rfl (h x p)
 | _=>rfl
def zvd:Expr->Bool
 | .Starred _ _=>false
 | _=>true
theorem zqg {e:Expr} (h:zvd e=true):∀ x p,e≠.Starred x p:=λ x p z=>by rw [z] at h;cases h
theorem zbb {env:Env}{pos:Pos}:∀ {es:List Expr},es.all zvd=true->(vd2 pos (va3 es env)).any (·.1)=false
 | [],_=>rfl
 | e::es,h=>by
  rw [je4,ja3] at h
  rw [zqk (zqg h.1)]
  show (false || (vd2 pos (va3 es env)).any (·.1))=false
  rw [zbb h.2]
  rfl
def zvi:Expr->Bool
 | .Slice _ _ _ _=>false
 | _=>true
theorem zwy {b:Expr} (h:zvi b=true):zpi b:=by
 intro o i
 cases b with
 | Slice _ _ _ _=>cases h
 | _=>rfl
def qm8:Expr->Bool
 | .List _ _=>true
 | _=>false
def qm5:Expr->Bool
 | .List es _=>es.any qm8
 | _=>false
def qmh (b:Expr):Operator->Option (PV->Nat->PV->Nat->Option (PV×Nat))
 | .Add=>some (if qm5 b=true then qcj else zqo)
 | .Sub=>some qm4
 | .Mult=>some zwu
 | .FloorDiv=>some zjh
 | .Mod=>some zqr
 | .Pow=>some qep
 | _=>none
theorem qmt {a b:Expr}{op:Operator}{o:PV->Nat->PV->Nat->Option (PV×Nat)}{f g:Fx}{vs vs':List Nat}{pos:Pos} (h:qmh b op=some o) (hv:∀ i∈vs,M.Ms i=false) (hK:M.K=X.K) (ha:PE X a (tE M f vs)) (hb:PE X b (tE M g vs')):PE X (.BinOp a op b pos) (tE M (bBin o f g) (vs++vs')):=by
 cases op <;> cases h
 ·split
  ·exact qhq hv hK ha hb
  ·exact qkp hv hK ha hb
 ·exact zgr qh7 (λ _ _ _=>trivial) hv ha hb
 ·exact qkh hv ha hb
 ·exact zgr qlc (λ _ _=>cMod) hv ha hb
 ·exact zgr qk9 (λ _ _=>cPow) hv ha hb
 ·exact zgr qen (λ _ _=>cDiv) hv ha hb
def isNm:Expr->Bool
 | .Set _ _ _=>false
 | _=>true
def qi8 (b:Expr):vl3->Option (PV->Nat->PV->Nat->Option (PV×Nat))
 | .Lt=>some (zwl λ i j=>decide (i < j))
 | .LtE=>some (zwl λ i j=>decide (i<=j))
 | .Gt=>some (zwl λ i j=>decide (j < i))
 | .GtE=>some (zwl λ i j=>decide (j<=i))
 | .Eq=>some (opEq false)
 | .NotEq=>some (opEq true)
 | .Is=>some (opIs false)
 | .IsNot=>some (opIs true)
 | .In=>if isNm b=true then some (opIn false) else none
 | .NotIn=>if isNm b=true then some (opIn true) else none
theorem qc1 {op:vl3}{b:Expr} (h:isNm b=true):vf2 op b=false:=by
 cases b with
 | Set _ _ _=>cases h
 | _=>rfl
theorem qe9 {op:vl3}{o:PV->Nat->PV->Nat->Option (PV×Nat)}{f g:Fx}{vs vs':List Nat}{b:Expr} (h:qi8 b op=some o) (hu:X.A.units + 64 < vf1) (hv:∀ i∈vs,M.Ms i=false) (hK:M.K=X.K):
  ∃ r,OpR X (vb4 op) r/\vf2 op b=false/\∀ σ H Q,tE M (bBin o f g) (vs++vs') σ H Q->tOp r (tE M f vs) (tE M g vs') σ H Q:=by
 cases op
 ·cases h;exact ⟨_,qlk hu,zwa _ (by decide) (by decide),λ σ H Q h=>zwh hv (λ x d y e z c v w H fps f1 f2 Q ho o1 o2 dj nz zd lf=>zhf hK ho o1 o2 lf) h⟩
 ·cases h;exact ⟨_,qla hu,zwa _ (by decide) (by decide),λ σ H Q h=>zwh hv (λ x d y e z c v w H fps f1 f2 Q ho o1 o2 dj nz zd lf=>zhf hK ho o1 o2 lf) h⟩
 ·cases h;exact ⟨_,qld,zwa _ (by decide) (by decide),λ σ H Q h=>zwh hv (λ x d y e z c v w H fps f1 f2 Q ho o1 o2 dj nz zd lf=>zks ho o1 o2 lf) h⟩
 ·cases h;exact ⟨_,qle,zwa _ (by decide) (by decide),λ σ H Q h=>zwh hv (λ x d y e z c v w H fps f1 f2 Q ho o1 o2 dj nz zd lf=>zks ho o1 o2 lf) h⟩
 ·cases h;exact ⟨_,qli,zwa _ (by decide) (by decide),λ σ H Q h=>zwh hv (λ x d y e z c v w H fps f1 f2 Q ho o1 o2 dj nz zd lf=>zks ho o1 o2 lf) h⟩
 ·cases h;exact ⟨_,qlj,zwa _ (by decide) (by decide),λ σ H Q h=>zwh hv (λ x d y e z c v w H fps f1 f2 Q ho o1 o2 dj nz zd lf=>zks ho o1 o2 lf) h⟩
 ·cases h;refine ⟨_,qlg.or qlf,zwa _ (by decide) (by decide),λ σ H Q h=>zwh hv (λ x d y e z c v w H fps f1 f2 Q ho o1 o2 dj nz zd lf=>?_) h⟩
  rcases qcq ho o1 o2 lf with ⟨i,j,e1,e2,q⟩ | ⟨e1,q⟩
  ·exact .inl ⟨i,j,e1,e2,by simpa using q⟩
  ·exact .inr ⟨e1,by rw [jf3] at q;exact q⟩
 ·cases h;refine ⟨_,qce.or qh8,zwa _ (by decide) (by decide),λ σ H Q h=>zwh hv (λ x d y e z c v w H fps f1 f2 Q ho o1 o2 dj nz zd lf=>?_) h⟩
  rcases qcq ho o1 o2 lf with ⟨i,j,e1,e2,q⟩ | ⟨e1,q⟩
  ·exact .inl ⟨i,j,e1,e2,by simpa [bne] using q⟩
  ·exact .inr ⟨e1,by rw [jj2] at q;exact q⟩
 ·replace h:(if isNm b=true then some (opIn false) else none)=some o:=h
  split at h
  ·rename_i hb
   cases h
   exact ⟨_,((qll (by omega)).or qk7).or (qlh hu),qc1 hb,λ σ H Q h=>zwh hv (λ x d y e z c v w H fps f1 f2 Q ho o1 o2 dj nz zd lf=>zhg hK ho o1 o2 lf) h⟩
  ·cases h
 ·replace h:(if isNm b=true then some (opIn true) else none)=some o:=h
  split at h
  ·rename_i hb
   cases h
   exact ⟨_,((qcf (by omega)).or qcc).or (qcd hu),qc1 hb,λ σ H Q h=>zwh hv (λ x d y e z c v w H fps f1 f2 Q ho o1 o2 dj nz zd lf=>zhg hK ho o1 o2 lf) h⟩
  ·cases h
def icmp:vl3->Option (Int->Int->Bool)
 | .Lt=>some λ i j=>decide (i < j)
 | .LtE=>some λ i j=>decide (i<=j)
 | .Gt=>some λ i j=>decide (j < i)
 | .GtE=>some λ i j=>decide (j<=i)
 | .Eq=>some λ i j=>decide (i=j)
 | _=>none
theorem qh9:OpR X (vb4 .Eq) (rI0 λ i j=>.bl (decide (i=j))):=λ pins s σ H x y v u Q I rx ry h=>qm3 pins s σ H x y v u Q I rx ry (by
 obtain ⟨i,j,rfl,rfl,q⟩:=h
 refine ⟨rfl,?_⟩
 rw [qdd]
 exact q)
theorem zmp {op:vl3}{p:Int->Int->Bool} (h:icmp op=some p):OpR X (vb4 op) (rI0 λ i j=>.bl (p i j))/\op≠.In/\op≠.NotIn:=by
 cases op <;> cases h
 ·exact ⟨qh9,by decide,by decide⟩
 ·exact ⟨qld,by decide,by decide⟩
 ·exact ⟨qle,by decide,by decide⟩
 ·exact ⟨qli,by decide,by decide⟩
 ·exact ⟨qlj,by decide,by decide⟩
def zyu (p q:Int->Int->Bool) (f g h:Fx):Fx:=λ ρ=>(f ρ).bind λ (x,_,ρ1)=>(g ρ1).bind λ (y,_,ρ2)=>match x,y with
 | .int i,.int j=>if p i j=true then (h ρ2).bind λ (z,_,ρ3)=>(match z with
  | .int k=>.ok (.bl (q j k),om,ρ3)
  | _=>.no) else .ok (.bl false,om,ρ2)
 | _,_=>.no
theorem zgo {p q:Int->Int->Bool}{f g h:Fx}{vs v1 v2 v3:List Nat}{σ:St}{H:Hp}{Q:VK} (hq:tE M (zyu p q f g h) vs σ H Q):qbi (rI0 λ i j=>.bl (p i j)) (rI0 λ i j=>.bl (q i j)) (tE M f v1) (tE M g v2) (tE M h v3) σ H Q:=by
 obtain ⟨ρ,fps,rep,qq⟩:=hq
 refine ⟨ρ,fps,rep,?_⟩
 unfold zyu at qq
 cases ef:f ρ with
 | no=>rw [ef] at qq;exact qq
 | exc c=>rw [ef] at qq;exact qq
 | ok p0=>
  obtain ⟨x,d,ρ1⟩:=p0
  rw [ef] at qq
  intro v H1 fps1 f1 k1 g1 rep1 o1 t1
  refine ⟨ρ1,fps1,rep1,?_⟩
  dsimp only [Rz.bind] at qq
  cases eg:g ρ1 with
  | no=>rw [eg] at qq;exact qq
  | exc c=>rw [eg] at qq;exact λ H' fps' k=>qq H' fps' (k1.trans k)
  | ok p2=>
   obtain ⟨y,e,ρ2⟩:=p2
   rw [eg] at qq
   intro w H2 fps2 f2 k2 g2 rep2 o2 t2
   cases x with
   | int i=>
    cases y with
    | int j=>
     dsimp only at qq
     rw [Own] at o1 o2
     obtain ⟨rfl,rfl⟩:=o1
     obtain ⟨rfl,rfl⟩:=o2
     refine ⟨i,j,rfl,rfl,p i j,rfl,?_⟩
     by_cases hp:p i j=true
     ·rw [if_pos hp] at qq ⊢
      refine ⟨ρ2,fps2,rep2,?_⟩
      cases eh:h ρ2 with
      | no=>rw [eh] at qq;exact qq
      | exc c=>rw [eh] at qq;exact λ H' fps' k=>qq H' fps' ((k1.trans k2).trans k)
      | ok p3=>
       obtain ⟨z,c,ρ3⟩:=p3
       rw [eh] at qq
       intro u H3 fps3 f3 k3 g3 rep3 o3 t3
       cases z with
       | int k=>
        dsimp only at qq
        rw [Own] at o3
        obtain ⟨rfl,rfl⟩:=o3
        exact ⟨j,k,rfl,rfl,qq _ H3 fps3 [] ((k1.trans k2).trans k3) ((g1.trans g2).trans g3) rep3 (by rw [Own];exact ⟨rfl,rfl⟩) ⟨λ _ z=>(nomatch z),λ _ z=>nomatch z⟩⟩
       | _=>exact qq.elim
     ·rw [if_neg hp] at qq ⊢
      exact qq _ H2 fps2 [] (k1.trans k2) (g1.trans g2) rep2 (by rw [Own];exact ⟨rfl,rfl⟩) ⟨λ _ z=>(nomatch z),λ _ z=>nomatch z⟩
    | _=>exact qq.elim
   | _=>exact qq.elim
def zqx (f g:Fx):Fx:=λ ρ=>(f ρ).bind λ (x,_,ρ1)=>match x with
 | .bl true=>g ρ1
 | .bl false=>.ok (.bl false,om,ρ1)
 | _=>.no
def bOrV (f g:Fx):Fx:=λ ρ=>(f ρ).bind λ (x,_,ρ1)=>match x with
 | .bl true=>.ok (.bl true,om,ρ1)
 | .bl false=>g ρ1
 | _=>.no
def zxe:PV->Nat->Option (PV×Nat)
 | .bl b,_=>some (.bl (!b),om)
 | _,_=>none
variable {f g:Fx}{vs vs':List Nat}{σ:St}{H:Hp}{Q:VK}
theorem zfk {f:Fx}{ρ ρ1:Rho}{fps fps1:Fps}{H H1:Hp} (k1:KD M H fps H1 fps1) (g1:Agr M ρ ρ1) (rep1:Rep M ρ1 σ H1 fps1) (hs:∀ i∈vs,i∈vs')
  (q:match f ρ1 with
   | .ok (x,d,ρ')=>∀ v H' fps' fp,KD M H fps H' fps'->Agr M ρ ρ'->Rep M ρ' σ H' fps'->Own M.K H' (Zt M vs' fps' fp) x d v fp->Temp M vs' H H' fps' fp->Q v H'
   | .exc c=>∀ H' fps',KD M H fps H' fps'->M.W σ c H'
   | .no=>False):tE M f vs σ H1 Q:=by
 refine ⟨ρ1,fps1,rep1,?_⟩
 cases eg:f ρ1 with
 | no=>rw [eg] at q;exact q
 | exc c=>rw [eg] at q;exact λ H' fps' k=>q H' fps' (k1.trans k)
 | ok p2=>
  obtain ⟨x,d,ρ2⟩:=p2
  rw [eg] at q
  exact λ v H' fps' fp k g r o t=>q v H' fps' fp (k1.trans k) (g1.trans g) r (o.weak λ a h=>Zt.mono hs h) ⟨λ a ha=>(by
   have e:=t.new a ha
   cases e':H a with
   | none=>rfl
   | some o=>exact absurd e (k1.dom a (by rw [e'];simp))),t.ndj⟩
theorem qbf (hq:tE M (zqx f g) (vs++vs') σ H Q):qka (tE M f vs) (tE M g vs') σ H Q:=by
 obtain ⟨ρ,fps,rep,q⟩:=hq
 refine ⟨ρ,fps,rep,?_⟩
 unfold zqx at q
 cases ef:f ρ with
 | no=>rw [ef] at q;exact q
 | exc c=>rw [ef] at q;exact q
 | ok p=>
  obtain ⟨x,d,ρ1⟩:=p
  rw [ef] at q
  intro v H1 fps1 f1 k1 g1 rep1 o1 t1
  dsimp only [Rz.bind] at q
  cases x with
  | bl b=>
   rw [Own] at o1
   refine ⟨b,o1.1,?_⟩
   cases b with
   | true=>exact zfk k1 g1 rep1 (λ i hi=>ja1 _ hi) q
   | false=>exact q (.bl false) H1 fps1 [] k1 g1 rep1 (by rw [Own];exact ⟨rfl,rfl⟩) ⟨λ _ z=>(nomatch z),λ _ z=>nomatch z⟩
  | _=>exact q.elim
theorem qj8 (hq:tE M (bOrV f g) (vs++vs') σ H Q):tOrV (tE M f vs) (tE M g vs') σ H Q:=by
 obtain ⟨ρ,fps,rep,q⟩:=hq
 refine ⟨ρ,fps,rep,?_⟩
 unfold bOrV at q
 cases ef:f ρ with
 | no=>rw [ef] at q;exact q
 | exc c=>rw [ef] at q;exact q
 | ok p=>
  obtain ⟨x,d,ρ1⟩:=p
  rw [ef] at q
  intro v H1 fps1 f1 k1 g1 rep1 o1 t1
  dsimp only [Rz.bind] at q
  cases x with
  | bl b=>
   rw [Own] at o1
   refine ⟨b,o1.1,?_⟩
   cases b with
   | false=>exact zfk k1 g1 rep1 (λ i hi=>ja1 _ hi) q
   | true=>exact q (.bl true) H1 fps1 [] k1 g1 rep1 (by rw [Own];exact ⟨rfl,rfl⟩) ⟨λ _ z=>(nomatch z),λ _ z=>nomatch z⟩
  | _=>exact q.elim
theorem qbe (hq:tE M (bUn zxe f) vs σ H Q):qj5 (tE M f vs) σ H Q:=by
 refine qad (r:=λ x H1 Q=>∃ c,x=.bl c/\Q (.bl (!c)) H1) (λ x d z c v H fps f1 Q ho o1 nz zd lf=>?_) hq
 cases x with
 | bl b=>cases ho;rw [Own] at o1;exact ⟨b,o1.1,zxi lf⟩
 | _=>cases ho
end
def bMet (op:Str->PV->Nat->Option (PV×Nat)) (f g:Fx):Fx:=λ ρ=>(f ρ).bind λ (x,_,ρ1)=>match x with
 | .str z=>(g ρ1).bind λ (y,e,ρ2)=>match op z y e with
  | some (r,c)=>.ok (r,c,ρ2)
  | none=>.no
 | _=>.no
section
variable {X:Cx}{M:Fm}{f g:Fx}{vs vs':List Nat}{σ:St}{H:Hp}{Q:VK}
theorem qfu {op:Str->PV->Nat->Option (PV×Nat)}{r:V->List V->Hp->VK->Prop}
  (leaf:∀ z y d u c w H fps f1 Q,op z y d=some (u,c)->Own M.K H (Zt M vs' fps f1) y d w f1->(∀ a∈f1,¬ Zf M fps a)->(∀ a,Zf M fps a->H a≠none)->Leaf M H fps vs' f1 u c Q->r (.str z) [w] H Q)
  (hq:tE M (bMet op f g) (vs++vs') σ H Q):tBM M.K "str" r (tE M f vs) (qbh (tE M g vs') tNil) σ H Q:=by
 obtain ⟨ρ,fps,rep,q⟩:=hq
 refine ⟨ρ,fps,rep,?_⟩
 unfold bMet at q
 cases ef:f ρ with
 | no=>rw [ef] at q;exact q
 | exc c=>rw [ef] at q;exact q
 | ok p=>
  obtain ⟨x,d,ρ1⟩:=p
  rw [ef] at q
  intro v H1 fps1 f1 k1 g1 rep1 o1 t1
  dsimp only [Rz.bind] at q
  cases x with
  | str z=>
   rw [Own] at o1
   obtain ⟨rfl,_⟩:=o1
   refine ⟨rfl,?_⟩
   have un:tE M (bUn (op z) g) vs' σ H1 Q:=by
    refine ⟨ρ1,fps1,rep1,?_⟩
    unfold bUn
    cases eg:g ρ1 with
    | no=>rw [eg] at q;exact q
    | exc c=>rw [eg] at q;exact λ H' fps' k=>q H' fps' (k1.trans k)
    | ok p2=>
     obtain ⟨y,e,ρ2⟩:=p2
     rw [eg] at q
     dsimp only [Rz.bind] at q ⊢
     cases eo:op z y e with
     | none=>rw [eo] at q;exact q
     | some uc=>
      obtain ⟨u,c⟩:=uc
      rw [eo] at q
      dsimp only at q ⊢
      exact λ w H2 fps2 fp k2 g2 rep2 o2 t2=>q w H2 fps2 fp (k1.trans k2) (g1.trans g2) rep2 (o2.weak λ a h=>Zt.mono (λ i hi=>ja1 _ hi) h) ⟨λ a ha=>by
       cases e':H a with
       | none=>rfl
       | some o=>exact absurd (t2.new a ha) (k1.dom a (by rw [e'];simp)),t2.ndj⟩
   exact qad (r:=λ w H2 Q=>r (.str z) [w] H2 Q) (λ y d u c w H fps f1 Q ho o nz zd lf=>leaf z y d u c w H fps f1 Q ho o nz zd lf) un
  | _=>exact q.elim
end
def zpp:List PV->Option (List Str)
 | []=>some []
 | .str x::r=>(zpp r).map (x::·)
 | _=>none
theorem zjc {K:Frag}{H:Hp}{Z:Addr->Prop}:∀ {xs:List PV}{ws:List V}{d:Nat}{fp:List Addr}{zs:List Str},zpp xs=some zs->OwnL K H Z xs d ws fp->ws=zs.map V.str
 | [],ws,d,fp,zs,e,h=>by cases e;rw [OwnL] at h;exact h.1
 | x::r,ws,d,fp,zs,e,h=>by
  cases x with
  | str z=>
   obtain ⟨k',e1,rfl⟩:=ja5.mp e
   rw [OwnL] at h
   obtain ⟨v,s,f1,f2,rfl,ef,dj,h1,h2⟩:=h
   rw [Own] at h1
   rw [h1.1,zjc e1 h2]
   rfl
  | _=>cases e
theorem zjb:∀ {zs:List Str}{its:List va0},Vals (zs.map V.str) its->∃ l:List (Str×Tok),its=strValues l/\l.map (·.1)=zs
 | [],its,h=>by cases h;exact ⟨[],rfl,rfl⟩
 | z::zs,its,h=>by
  cases h with
  | cons r rr=>
   obtain ⟨t,rfl⟩:=r
   obtain ⟨l,rfl,rfl⟩:=zjb rr
   exact ⟨(z,t)::l,rfl,rfl⟩
theorem zpl:∀ (l:List (Str×Tok)),Vals ((l.map (·.1)).map V.str) (strValues l)
 | []=>.nil
 | (_,t)::l=>.cons ⟨t,rfl⟩ (zpl l)
def qmx (K:Frag):V->List V->Hp->VK->Prop:=λ x vs H Q=>∃ z q zs,x=.str z/\vs=[.ref q]/\SqL K H q (zs.map V.str)/\JoinOk z zs=true/\Q (.str (Txt.join z zs)) H
theorem qij {X:Cx}:MtR X "str.join" (qmx X.K):=by
 intro pins s σ H x vs v us Q I rx rv h
 obtain ⟨z,a,zs,rfl,rfl,hs,hj,q⟩:=h
 obtain ⟨t,rfl⟩:=rx
 obtain ⟨u,rfl,ru⟩:=zvp rv
 cases ru
 obtain ⟨its,rv2,pl,hz⟩:=I.list hs
 obtain ⟨l,rfl,hl⟩:=zjb rv2
 exact SC.join pl.isList hl hj λ t' k=>⟨.str _,H,I.tok _,⟨t',rfl⟩,q⟩
def zmd (z:Str) (y:PV) (_:Nat):Option (PV×Nat):=match y with
 | .lst xs=>(match zpp xs with
  | some zs=>if JoinOk z zs=true then some (.str (Txt.join z zs),om) else none
  | none=>none)
 | _=>none
def qkw:V->List V->Hp->VK->Prop:=λ x vs H Q=>∃ z y,x=.str z/\vs=[.str y]/\(y.length == 0)=false/\z.length<=va2/\(vg8 z (vb8 z y 0 z.length (z.length + 1)) y.length).length<=va2/\(va9 z y).length<=va2/\∀ l,H l=none->Q (.ref l) (upd H l (.lst ((va9 z y).map V.str)))
theorem qes {X:Cx}:MtR X "str.split" qkw:=by
 intro pins s σ H x vs v us Q I rx rv h
 obtain ⟨z,y,rfl,rfl,hy,hz,hz2,hz3,q⟩:=h
 obtain ⟨t,rfl⟩:=rx
 obtain ⟨w,rfl,rw'⟩:=zvp rv
 obtain ⟨u,rfl⟩:=rw'
 have fin:∀ (l:List (Str×Tok)) (tk:Nat),l.map (·.1)=va9 z y->EP X pins σ Q (.ref s.heap.objs.size) { s with heap:=s.heap.push { cls:=.type "list",data:=.seq (strValues l).toArray },toks:=tk }:=λ l tk e=>by
  have hv:=zpl l
  rw [e] at hv
  exact ⟨.ref _,_,I.lnew (t':=tk) hv (by rw [jb5];exact hz3),rfl,q _ I.fresh⟩
 cases h1:(decide (z.length < y.length) || decide (Builtin.Str.strKind z < Builtin.Str.strKind y)) with
 | true=>exact vh7 vk2 (vg5 s z t) vj6 (vi7 _ _) (meets_str_split_cannot_occur z y t u h1) (fin [(z,t)] s.toks (if_pos h1).symm)
 | false=>
  cases hf:(vb8 z y 0 z.length (z.length + 1)).isEmpty with
  | true=>exact vh7 vk2 (vg5 s z t) vj6 (vi7 _ _) (meets_str_split_not_found z y t u h1 hy hf) (fin [(z,t)] s.toks ((if_neg (ne_true_of_eq_false h1)).trans (if_pos hf)).symm)
  | false=>
   refine vh7 vk2 (vg5 s z t) vj6 (vi7 _ _) (meets_str_split_sep z y t u h1 hy hf hz hz2) ?_
   have f2:=fin (numbered s.toks (vg8 z (vb8 z y 0 z.length (z.length + 1)) y.length))
   rw [<- strsFrom_eq] at f2
   exact f2 _ ((numbered_texts _ _).trans ((if_neg (ne_true_of_eq_false h1)).trans (if_neg (ne_true_of_eq_false hf))).symm)
def zwx (z:Str) (y:PV) (_:Nat):Option (PV×Nat):=match y with
 | .str y=>if (y.length == 0)=false/\z.length<=va2/\(vg8 z (vb8 z y 0 z.length (z.length + 1)) y.length).length<=va2/\(va9 z y).length<=va2 then some (.lst ((va9 z y).map PV.str),om) else none
 | _=>none
theorem qbl:∀ zs:List Str,zpg (zs.map PV.str)=true
 | []=>rfl
 | z::r=>by rw [jb9];unfold zpg;rw [qbl r];rfl
theorem qi4 (zs:List Str):d1 (zs.map PV.str)=om:=by unfold d1;rw [if_pos (qbl zs)]
theorem zhb {K:Frag}{H:Hp}{Z:Addr->Prop}:∀ (zs:List Str),OwnL K H Z (zs.map PV.str) 0 (zs.map V.str) []
 | []=>by rw [jf5,jf5,OwnL];exact ⟨rfl,rfl⟩
 | z::r=>by
  rw [jb9,jb9,OwnL]
  exact ⟨_,_,[],[],rfl,rfl,λ _ z=>(nomatch z),by rw [Own];exact ⟨rfl,rfl⟩,zhb r⟩
section
variable {X:Cx}{M:Fm}{f g:Fx}{vs vs':List Nat}{o e:Expr}{apos cpos:Pos}
theorem qhn (hK:M.K=X.K) (ho:PE X o (tE M f vs)) (he:PE X e (tE M g vs')) (hb:vf3 o "join" X.env (eval o X.env)=eval o X.env) (hs:va3 [e] X.env=[(false,eval e X.env)]) (hf:((vd2 cpos (va3 [e] X.env)).all (λ x=>!x.1) && (backToKw cpos (vi0 [] X.env)).all (λ x=>x.1.isSome) && decide (([e]:List Expr).length + ([]:List vg1).length + (if ([]:List vg1).isEmpty then 0 else 1) < 30))=true) (hl:(apos.endLine == cpos.line)=true):
  PE X (.Call (.Attribute o "join" apos) [e] [] cpos) (tE M (bMet zmd f g) (vs++vs')):=by
 refine zqi (qcb vh3 PySem.F.slot_str_join PySem.F.type_str_join qij ho (zxp he zvc hs) hb hf hl hs rfl) λ σ H Q h=>?_
 rw [<- hK]
 refine qfu (λ z y d u c w H fps f1 Q hop o1 nz zd lf=>?_) h
 unfold zmd at hop
 split at hop
 ·rename_i xs
  split at hop
  ·rename_i zs hz
   split at hop
   ·rename_i hj
    cases hop
    obtain ⟨p,ws,rfl,hp,ol⟩:=(cold o1 nz).coldL
    have:=zjc hz ol
    subst this
    exact ⟨z,p,zs,rfl,rfl,.inl (.inl hp),hj,zzh lf⟩
   ·cases hop
  ·cases hop
 ·cases hop
theorem qeb (hK:M.K=X.K) (ho:PE X o (tE M f vs)) (he:PE X e (tE M g vs')) (hb:vf3 o "split" X.env (eval o X.env)=eval o X.env) (hs:va3 [e] X.env=[(false,eval e X.env)]) (hf:((vd2 cpos (va3 [e] X.env)).all (λ x=>!x.1) && (backToKw cpos (vi0 [] X.env)).all (λ x=>x.1.isSome) && decide (([e]:List Expr).length + ([]:List vg1).length + (if ([]:List vg1).isEmpty then 0 else 1) < 30))=true) (hl:(apos.endLine == cpos.line)=true):
  PE X (.Call (.Attribute o "split" apos) [e] [] cpos) (tE M (bMet zwx f g) (vs++vs')):=by
 refine zqi (qcb vh3 PySem.F.slot_str_split PySem.F.type_str_split qes ho (zxp he zvc hs) hb hf hl hs rfl) λ σ H Q h=>?_
 rw [<- hK]
 refine qfu (λ z y d u c w H fps f1 Q hop o1 nz zd lf=>?_) h
 unfold zwx at hop
 split at hop
 ·rename_i y0
  split at hop
  ·rename_i hc
   cases hop
   rw [Own] at o1
   obtain ⟨rfl,_⟩:=o1
   refine ⟨z,y0,rfl,rfl,hc.1,hc.2.1,hc.2.2.1,hc.2.2.2,λ l hl=>?_⟩
   have lf':Leaf M H fps vs' f1 (.lst ((va9 z y0).map PV.str)) (d1 ((va9 z y0).map PV.str)) Q:=by rw [qi4];exact lf
   exact zxy lf' (zhb _) hl
  ·cases hop
 ·cases hop
end
def zja (op:Str->List (PV×Nat)->Option (PV×Nat)) (f:Fx) (fa:Fa):Fx:=λ ρ=>(f ρ).bind λ (x,_,ρ1)=>match x with
 | .str z=>zqb (op z) fa ρ1
 | _=>.no
section
variable {X:Cx}{M:Fm}{f:Fx}{fa:Fa}{vs vs':List Nat}{σ:St}{H:Hp}{Q:VK}
theorem qhc {op:Str->List (PV×Nat)->Option (PV×Nat)}{r:V->List V->Hp->VK->Prop}
  (leaf:∀ y xs z c ws H fps fp Q,op y xs=some (z,c)->Tmps M.K H (Zv M vs' fps) xs ws fp->(∀ a∈fp,¬ Zf M fps a)->(∀ a,Zf M fps a->H a≠none)->Leaf M H fps vs' fp z c Q->r (.str y) ws H Q)
  (hq:tE M (zja op f fa) (vs++vs') σ H Q):tBM M.K "str" r (tE M f vs) (tL M fa vs') σ H Q:=by
 obtain ⟨ρ,fps,rep,q⟩:=hq
 refine ⟨ρ,fps,rep,?_⟩
 unfold zja at q
 cases ef:f ρ with
 | no=>rw [ef] at q;exact q
 | exc c=>rw [ef] at q;exact q
 | ok p=>
  obtain ⟨x,d,ρ1⟩:=p
  rw [ef] at q
  intro v H1 fps1 f1 k1 g1 rep1 o1 t1
  dsimp only [Rz.bind] at q
  cases x with
  | str z=>
   rw [Own] at o1
   obtain ⟨rfl,_⟩:=o1
   refine ⟨rfl,?_⟩
   exact zya (op:=op z) (r:=r (.str z)) (leaf z) (zfk k1 g1 rep1 (λ i hi=>ja1 _ hi) q)
  | _=>exact q.elim
end
open Builtin Builtin.Str in
theorem qau (x y z:Str) (t u v k:Tok) (h:(occurrences x y 0 x.length 1).isEmpty=true):Gives («str.replace» ⟨[.str x t,.str y u,.str z v,.int 1 k],[]⟩) (.val (.str x t)):=by
 show Gives (if ((occurrences x y 0 x.length 1).isEmpty || (y.length == 0 && z.length == 0))=true then (do rule "str.replace.nothing";ret (.str x t)) else _) _
 rw [h,jn1,if_pos rfl]
 exact .rule (.of_eq rfl)
def rRep:V->List V->Hp->VK->Prop:=λ x vs H Q=>∃ z y w,x=.str z/\vs=[.str y,.str w,.int 1]/\(vb8 z y 0 z.length 1).isEmpty=true/\Q (.str z) H
theorem qlo {X:Cx}:MtR X "str.replace" rRep:=by
 intro pins s σ H x vs v us Q I rx rv h
 obtain ⟨z,y,w,rfl,rfl,ho,q⟩:=h
 obtain ⟨t,rfl⟩:=rx
 cases rv with
 | cons r1 rv=>
  cases rv with
  | cons r2 rv=>
   cases rv with
   | cons r3 rv=>
    cases rv
    obtain ⟨u,rfl⟩:=r1
    obtain ⟨u2,rfl⟩:=r2
    obtain ⟨u3,rfl⟩:=r3
    exact call_gives F.slot_str_replace (vg5 _ _ _) F.entry_str_replace (F.args_str_replace_4 _ _ _ _) (qau z y w t u u2 u3 ho) ⟨.str _,H,I,⟨t,rfl⟩,q⟩
def zbm (z:Str):List (PV×Nat)->Option (PV×Nat)
 | [(.str y,_),(.str _,_),(.int 1,_)]=>if (vb8 z y 0 z.length 1).isEmpty=true then some (.str z,om) else none
 | _=>none
section
variable {X:Cx}{M:Fm}{f:Fx}{fa:Fa}{vs vs':List Nat}{o e:Expr}{es:List Expr}{apos cpos:Pos}
theorem qkf (hK:M.K=X.K) (ho:PE X o (tE M f vs)) (ha:PA X (e::es) (tL M fa vs')) (hb:vf3 o "replace" X.env (eval o X.env)=eval o X.env) (hs:va3 (e::es) X.env=(false,eval e X.env)::va3 es X.env) (hpl:(vd2 cpos (va3 es X.env)).any (·.1)=false) (hf:((vd2 cpos (va3 (e::es) X.env)).all (λ x=>!x.1) && (backToKw cpos (vi0 [] X.env)).all (λ x=>x.1.isSome) && decide ((e::es).length + ([]:List vg1).length + (if ([]:List vg1).isEmpty then 0 else 1) < 30))=true) (hl:(apos.endLine == cpos.line)=true):
  PE X (.Call (.Attribute o "replace" apos) (e::es) [] cpos) (tE M (zja zbm f fa) (vs++vs')):=by
 refine zqi (qcb vh3 PySem.F.slot_str_replace PySem.F.type_str_replace qlo ho ha hb hf hl hs hpl) λ σ H Q h=>?_
 rw [<- hK]
 refine qhc (λ y xs z c ws H fps fp Q hop tm nz zd lf=>?_) h
 unfold zbm at hop
 split at hop
 ·rename_i y0 d0 w0 d1 d2
  split at hop
  ·rename_i hc
   cases hop
   obtain ⟨v1,r1,f1,f2,rfl,rfl,_,o1,h2⟩:=tm
   obtain ⟨v2,r2,f3,f4,rfl,rfl,_,o2,h3⟩:=h2
   obtain ⟨v3,r3,f5,f6,rfl,rfl,_,o3,h4⟩:=h3
   obtain ⟨rfl,rfl⟩:=h4
   have e1:v1=.str y0:=by rw [Own] at o1;exact o1.1
   have e2:v2=.str w0:=by rw [Own] at o2;exact o2.1
   have e3:v3=.int 1:=by rw [Own] at o3;exact o3.1
   subst e1 e2 e3
   exact ⟨y,y0,w0,rfl,rfl,hc,zzh lf⟩
  ·cases hop
 ·cases hop
end
abbrev D2:=Fx×List Nat
def zyn (d:Expr->Option D2):List Expr->Option (Fa×List Nat)
 | []=>some (aNil,[])
 | e::es=>match d e,zyn d es with
  | some (f,v),some (fa,u)=>some (zqa f fa,v++u)
  | _,_=>none
def zyo (d:Expr->Option D2):List Expr->Option D2
 | []=>none
 | [e]=>d e
 | e::es=>match d e,zyo d es with
  | some (f,v),some (g,u)=>some (zqx f g,v++u)
  | _,_=>none
def qe7 (d:Expr->Option D2):List Expr->Option D2
 | []=>none
 | [e]=>d e
 | e::es=>match d e,qe7 d es with
  | some (f,v),some (g,u)=>some (bOrV f g,v++u)
  | _,_=>none
def denC:Const->Option D2
 | .int i=>some (bC (.int i),[])
 | .bool b=>some (bC (.bl b),[])
 | .none=>some (bC .non,[])
 | .str x=>some (bC (.str x),[])
 | _=>none
def tyOf (x:Str):Option String:=if x = "int" then some "int" else if x = "bool" then some "bool" else if x = "str" then some "str" else if x = "list" then some "list" else if x = "tuple" then some "tuple" else if x = "dict" then some "dict" else none
def qjd (x:Str):Option (List (PV×Nat)->Option (PV×Nat)):=
 if x = "len" then some zqy else if x = "all" then some zyz else if x = "max" then some qal else if x = "min" then some zbo else if x = "sum" then some qib
 else if x = "tuple" then some zmc else if x = "list" then some qch else if x = "int" then some zzq else if x = "str" then some zkf else none
def zxo (scope sc:vd0):vd0:={ scope with names:=scope.names.map λ (n,k)=>if (k == .free && sc.kind == .function && sc.names.lookup n == some .cell) then (n,.cell) else (n,k) }
def junk (i:Nat):Str:=⟨#[2000000 + i]⟩
def zmq (sc':vd0):Nat->List Str->List Str
 | _,[]=>[]
 | i,x::r=>(if zxx sc' x .cell || zxx sc' x .free then x else junk i)::zmq sc' (i + 1) r
def zbr:List Expr->Option (List Str)
 | []=>some []
 | .Name x _::r=>(zbr r).map (x::·)
 | _=>none
def tgA (n:Nat):Expr->Option (List Str×(PV->Rho->Option Rho))
 | .Name x _=>some ([x],asgN n)
 | .Tuple es _ _=>(zbr es).map λ xs=>(xs,asgT (ji3 n xs.length))
 | _=>none
def isTg:Expr->Bool
 | .Tuple _ _ _=>true
 | _=>false
def zqt (S:Sx) (scope:vd0) (xs:List Str) (vI:List Nat):Sx:=⟨zmq (zxo scope S.sc) 0 S.N++xs,zxo scope S.sc,S.ms,(jd4 S.N.length).map S.alF++ja6 xs.length vI,S.Γ,S.Γm,false,S.xc,S.pn⟩
def zpd (S:Sx) (scope:vd0) (xs:List Str) (vI:List Nat):Bool:=
 let S':=zqt S scope xs vI
 decide (scope.kind=.function) && scope.names.all (λ x=>x.2 != .free || !(scope.names.contains (x.1,.cell))) && scope.names.all (λ x=>x.2 != .local || scope.names.lookup x.1 == some .local)
 && scope.names.all (λ x=>x.2 != .free || (S.sc.names.lookup x.1 == some .cell || S.sc.names.lookup x.1 == some .free))
 && (jd4 S.N.length).all (λ i=>match S'.N[i]? with
  | some x=>!visB S'.sc x || (decide (S.N[i]?=some x) && visB S.sc x && scope.names.contains (x,.free) && !zxx S'.sc x .local)
  | none=>true)
 && decide S'.N.Nodup && xs.all (λ x=>zxx S'.sc x .local || (zxx S'.sc x .cell && scope.names.contains (x,.cell))) && decide (S.N.length≠0) && (S.ms.all λ i=>decide (i < S.N.length))
inductive Iw where
 | rng (en:List (PV×Nat)->Option (Int×Int)) (fa:Fa) (vs:List Nat)
 | seq (f:Fx) (vs:List Nat)
 | vw (v:Vw) (fa:Fa) (vs:List Nat)
def Iw.vs:Iw->List Nat
 | .rng _ _ _=>[]
 | .seq _ vs=>vs
 | .vw _ _ vs=>vs
def twOk (tg:Expr):Iw->Bool
 | .vw .enm _ _=>isTg tg
 | .vw .zp _ _=>isTg tg
 | _=>true
def denI (d:Expr->Option D2) (S:Sx) (it:Expr):Option Iw:=match it with
 | .Call (.Name x _) [a] [] _=>if x = "range" /\ S.glob "range" = true then (match zyn d [a] with
   | some (fa,vs)=>some (.rng zzd fa vs)
   | none=>none) else (match d it with
   | some (f,vs)=>some (.seq f vs)
   | none=>none)
 | .Call (.Name x _) [a,b] [] _=>if x = "range" /\ S.glob "range" = true then (match zyn d [a,b] with
   | some (fa,vs)=>some (.rng zmu fa vs)
   | none=>none) else (match d it with
   | some (f,vs)=>some (.seq f vs)
   | none=>none)
 | _=>match d it with
   | some (f,vs)=>some (.seq f vs)
   | none=>none
def qdx (iw:Iw) (k:Nat) (asg:PV->Rho->Option Rho) (test:Fb) (elt:Fx):Fx:=match iw with
 | .rng en fa _=>zzn en fa k asg test elt
 | .seq f _=>zxs f k asg test elt
 | .vw v fa _=>qmi v fa k asg test elt
def zva:Fb:=λ ρ=>.ok (true,ρ)
def zhr (d:Expr->Option D2):List Expr->Option Fb
 | []=>some zva
 | [c]=>(d c).map λ p=>bT p.1
 | _=>none
def bMs (j:Nat) (i:Int):Fx:=λ ρ=>match ρ[j]? with
 | some (some (.lst xs,_))=>(match atI xs i with
  | some z=>if zvz z=true then .ok (z,om,ρ) else .no
  | none=>.no)
 | _=>.no
def qgb:Expr->Bool
 | .UnaryOp .USub c _=>(match c with
  | .Constant k _ _=>(match k with
   | .int i=>i == 1
   | _=>false)
  | _=>false)
 | _=>false
theorem qlz {e:Expr} (h:qgb e=true):∃ k p3 p4,e=.UnaryOp .USub (.Constant (.int 1) k p3) p4:=by
 unfold qgb at h
 split at h
 ·split at h
  ·split at h
   ·rename_i i
    have:i=1:=eq_of_beq h
    subst this
    exact ⟨_,_,_,rfl⟩
   ·cases h
  ·cases h
 ·cases h
def nmE:Expr->Option Str
 | .Name x _=>some x
 | _=>none
theorem zzm {e:Expr}{x:Str} (h:nmE e=some x):∃ p,e=.Name x p:=by
 cases e <;> first | (cases h;exact ⟨_,rfl⟩) | (cases h)
def ixC:Expr->Option Int
 | .Constant c _ _=>(match c with
  | .int i=>some i
  | _=>none)
 | _=>none
theorem qf9 {e:Expr}{i:Int} (h:ixC e=some i):∃ k p,e=.Constant (.int i) k p:=by
 unfold ixC at h
 split at h
 ·split at h
  ·cases h;exact ⟨_,_,rfl⟩
  ·cases h
 ·cases h
def qgi (d:Sx->Expr->Option D2) (S:Sx) (a:Expr):Option Expr->Option Expr->Option Expr->Option D2
 | none,some hi,none=>match d S a,d S hi with
  | some (f,v),some (g,_)=>some (bSl f none (some g),v)
  | _,_=>none
 | some lo,none,none=>match d S a,d S lo with
  | some (f,v),some (g,_)=>some (bSl f (some g) none,v)
  | _,_=>none
 | some lo,some hi,none=>match d S a,d S lo,d S hi with
  | some (f,v),some (g,_),some (h,_)=>some (bSl f (some g) (some h),v)
  | _,_,_=>none
 | _,_,_=>none
def qgh (d:Sx->Expr->Option D2) (S:Sx) (a b:Expr):Option D2:=match b with
 | .Slice lo hi st _=>qgi d S a lo hi st
 | b=>match nmE a,ixC b with
  | some x,some i=>(match S.slot x with
   | some j=>if S.msF j=true then some (bMs j i,[]) else some (bBin zqd (bVar j) (bC (.int i)),(j::S.alF j)++[])
   | none=>none)
  | _,_=>match d S a,d S b with
   | some (f,v),some (g,u)=>if zvi b=true then some (bBin zqd f g,v++u) else none
   | _,_=>none
def zgg (S:Sx) (T:Str):Option Nat:=if S.glob T=true/\S.xc≠[] then (if T = "ValueError" then some 0 else match XN.findIdx? (·== T) with
 | some c=>if S.xc.contains c=true then some c else none
 | none=>none) else none
def zhx (S:Sx):List Expr->Option (List Nat)
 | []=>some []
 | e::r=>match nmE e,zhx S r with
  | some T,some ds=>(zgg S T).map (·::ds)
  | _,_=>none
def qgn (d:Expr->Option D2) (S:Sx) (e c:Expr):Option D2:=match d e with
 | some (f,v)=>if S.glob "isinstance" = true then (match c with
  | .Name T _=>(match tyOf T with
   | some t=>if S.glob T=true then some (bUn (zqm t) f,v) else none
   | none=>(zgg S T).map λ n=>(bUn (zxq [n]) f,v))
  | .Tuple es _ _=>if es.length<=100/\es≠[] then (zhx S es).map λ ns=>(bUn (zxq ns) f,v) else none
  | _=>none) else none
 | none=>none
def denK (S:Sx) (x:Str):Option D2:=match CN.findIdx? (λ p=>p.1 == x) with
 | some k=>if S.xc.contains (50 + k)=true/\S.glob x=true then (CN[k]?).map λ p=>(bC p.2,[]) else none
 | none=>none
def qgr:Expr->Bool
 | .Name _ _=>true
 | .Constant _ _ _=>true
 | _=>false
def qgm (d:Expr->Option D2) (o e:Expr) (at':Str) (ok:Bool):Option D2:=match d o,d e with
 | some (f,v),some (g,u)=>if qgr o=true/\ok=true then (if at' = "join" then some (bMet zmd f g,v++u) else if at' = "split" then some (bMet zwx f g,v++u) else none) else none
 | _,_=>none
def qgk (d:Expr->Option D2) (o:Expr) (es:List Expr) (at':Str) (ok:Bool):Option D2:=match d o,zyn d es with
 | some (f,v),some (fa,u)=>if qgr o=true/\ok=true/\at' = "replace" then some (zja zbm f fa,v++u) else none
 | _,_=>none
def zzj (d:Sx->Expr->Option D2) (S:Sx):Expr->Option D2
 | .Constant c _ _=>denC c
 | .Name x _=>match S.slot x with
  | some i=>if S.msF i=true then none else some (bVar i,i::S.alF i)
  | none=>denK S x
 | .BinOp a op b _=>match d S a,d S b,qmh b op with
  | some (f,v),some (g,u),some o=>some (bBin o f g,v++u)
  | _,_,_=>none
 | .UnaryOp .USub a _=>match d S a with
  | some (f,v)=>some (bUn zbn f,v)
  | none=>none
 | .UnaryOp .Not a _=>match d S a with
  | some (f,v)=>some (bUn zxe f,v)
  | none=>none
 | .BoolOp .And es _=>zyo (d S) es
 | .BoolOp .Or es _=>qe7 (d S) es
 | .Compare a [op] [b] _=>match d S a,d S b,qi8 b op with
  | some (f,v),some (g,u),some o=>some (bBin o f g,v++u)
  | _,_,_=>none
 | .Compare a [op,op'] [b,c] _=>match d S a,d S b,d S c,icmp op,icmp op' with
  | some (f,_),some (g,_),some (h,_),some p,some q=>some (zyu p q f g h,[])
  | _,_,_,_,_=>none
 | .List es _=>match zyn (d S) es with
  | some (fa,v)=>some (zqb zxb fa,v)
  | none=>none
 | .Tuple es _ _=>match zyn (d S) es with
  | some (fa,v)=>some (zqb zwt fa,v)
  | none=>none
 | .Dict [] [] _=>some (bC .emp,[])
 | .Subscript a b _=>qgh d S a b
 | .Call (.Name x _) args [] _=>
  if x = "isinstance" then (match args with
   | [e,c]=>qgn (d S) S e c
   | _=>none)
  else match qjd x with
  | some o=>(match args with
   | e::es=>(match zyn (d S) (e::es) with
    | some (fa,v)=>if S.glob x=true then some (zqb o fa,v) else none
    | none=>none)
   | []=>none)
  | none=>match S.Γ.lookup x with
   | some (false,_,F)=>(match args with
    | e::es=>(match zyn (d S) (e::es) with
     | some (fa,v)=>if S.glob x=true then some (zqp F fa,v) else none
     | none=>none)
    | []=>none)
   | some (true,_,F)=>none
   | none=>none
 | .Call (.Attribute o at' apos) [e] [] cpos=>qgm (d S) o e at' (apos.endLine == cpos.line)
 | .Call (.Attribute o at' apos) [e,e2,e3] [] cpos=>qgk (d S) o [e,e2,e3] at' (apos.endLine == cpos.line)
 | .ListComp elt [⟨tg,it,ifs,0⟩] scope _=>match tgA S.N.length tg,denI (d S) S it with
  | some (xs,asg),some iw=>if zpd S scope xs iw.vs=true/\twOk tg iw=true then (match zhr (d (zqt S scope xs iw.vs)) ifs,d (zqt S scope xs iw.vs) elt with
   | some t,some (g,vE)=>some (qdx iw xs.length asg t g,iw.vs++vE.filter (λ i=>decide (i < S.N.length)))
   | _,_=>none) else none
  | _,_=>none
 | _=>none
def den:Nat->Sx->Expr->Option D2
 | 0,_,_=>none
 | n + 1,S,e=>zzj (den n) S e
section
variable {X:Cx}{P:va8}{w:vb7}{K:Frag}{mg:Str->Option va0}{base:Heap}{lvl:Nat}{S:Sx}{Wx:St->Nat->Hp->Prop}{M:Fm}{f g:Fx}{vs vs':List Nat}{σ:St}{H:Hp}{Q:VK}
theorem qg1 {Q:Bool->Hp->Prop} (hq:tT M (bT (zqx f g)) σ H Q):tAnd (tT M (bT f)) (tT M (bT g)) σ H Q:=by
 refine qjx ?_
 have e:bT (zqx f g)=bAnd (bT f) (bT g):=by
  funext ρ
  unfold bT zqx bAnd
  dsimp only
  cases f ρ with
  | no=>rfl
  | exc c=>rfl
  | ok p=>
   obtain ⟨x,d,ρ1⟩:=p
   cases x with
   | bl b=>cases b <;> rfl
   | _=>rfl
 rw [<- e];exact hq
theorem qjv {Q:Bool->Hp->Prop} (hq:tT M (bT (bOrV f g)) σ H Q):tOr (tT M (bT f)) (tT M (bT g)) σ H Q:=by
 refine qmp ?_
 have e:bT (bOrV f g)=bOr (bT f) (bT g):=by
  funext ρ
  unfold bT bOrV bOr
  dsimp only
  cases f ρ with
  | no=>rfl
  | exc c=>rfl
  | ok p=>
   obtain ⟨x,d,ρ1⟩:=p
   cases x with
   | bl b=>cases b <;> rfl
   | _=>rfl
 rw [<- e];exact hq
theorem qgz {Q:Bool->Hp->Prop} (hq:tT M (bT (bUn zxe f)) σ H Q):tNot (tT M (bT f)) σ H Q:=by
 refine qjw ?_
 have e:bT (bUn zxe f)=bNot (bT f):=by
  funext ρ
  unfold bT bUn bNot
  dsimp only
  cases f ρ with
  | no=>rfl
  | exc c=>rfl
  | ok p=>
   obtain ⟨x,d,ρ1⟩:=p
   cases x with
   | bl b=>cases b <;> rfl
   | _=>rfl
 rw [<- e];exact hq
theorem OwnL.getAny {K:Frag}{Z:Addr->Prop}:∀ {xs:List PV}{d:Nat}{ws:List V}{fp:List Addr}{i:Nat}{x:PV},OwnL K H Z xs d ws fp->xs[i]?=some x->∃ u f',ws[i]?=some u/\Own K H Z x d u f'
 | [],d,ws,fp,i,x,h,e=>by simp at e
 | y::xs,d,ws,fp,i,x,h,e=>by
  rw [OwnL] at h
  obtain ⟨v,s,f1,f2,rfl,ef,_,o1,o2⟩:=h
  cases i with
  | zero=>simp at e;subst e;exact ⟨v,f1,by simp,o1⟩
  | succ i=>obtain ⟨u,f',e1,e2⟩:=o2.getAny (i:=i) (x:=x) (by simpa using e);exact ⟨u,f',by simpa using e1,e2⟩
theorem qmu {x:Str}{j:Nat}{i:Int}{p0 p1 pos:Pos}{k:Nat} (xs:XS X P w K mg base lvl S Wx) (h:S.slot x=some j) (hK:M.K=X.K):PE X (.Subscript (.Name x p0) (.Constant (.int i) k p1) pos) (tE M (bMs j i) []):=by
 refine zqi (qb9 zbu (xs.var h) zha λ _ _=>rfl) λ σ H Q hq=>?_
 obtain ⟨ρ,fps,rep,q⟩:=hq
 unfold bMs at q
 cases e0:ρ[j]? with
 | none=>rw [e0] at q;exact q.elim
 | some s0=>
  rw [e0] at q
  cases s0 with
  | none=>exact q.elim
  | some p=>
   obtain ⟨z,d⟩:=p
   obtain ⟨v,hσ,o⟩:=rep.own j _ _ e0
   cases z with
   | lst ys=>
    dsimp only at q
    cases ea:atI ys i with
    | none=>rw [ea] at q;exact q.elim
    | some z=>
     rw [ea] at q
     dsimp only at q
     by_cases hz:zvz z=true
     ·rw [if_pos hz] at q
      have nx:∃ a ws d' f',v=.ref a/\H a=some (.lst ws)/\OwnL M.K H (Za M fps j) ys d' ws f':=by
       rw [Own] at o
       obtain ⟨a,ws,e,⟨_,hr,_,ol⟩ | ⟨_,f',ha,_,_,ol⟩⟩:=o
       ·exact ⟨a,ws,_,_,e,hr.1,ol⟩
       ·exact ⟨a,ws,_,_,e,ha,ol⟩
      obtain ⟨a,ws,d',f',rfl,ha,ol⟩:=nx
      have hw:∃ u f'',atI ws i=some u/\Own M.K H (Za M fps j) z d' u f'':=by
       unfold atI at ea ⊢
       rw [ol.length]
       cases ej:ixN ys.length i with
       | none=>rw [ej] at ea;cases ea
       | some m=>rw [ej] at ea;exact ol.getAny ea
      obtain ⟨u,f'',eu,ou⟩:=hw
      refine ⟨_,hσ,a,ws,i,u,rfl,rfl,.inl (.inl ha),eu,q u H fps [] KD.refl Agr.refl rep (Own.atom hz ou).2 ⟨λ _ z=>(nomatch z),λ _ z=>nomatch z⟩⟩
     ·rw [if_neg hz] at q;exact q.elim
   | _=>exact q.elim
def Good (P:va8) (w:vb7) (K:Frag) (mg:Str->Option va0) (base:Heap) (lvl:Nat) (S:Sx) (e:Expr) (f:Fx) (vs:List Nat):Prop:=
 (∀ i∈vs,S.msF i=false)/\zvd e=true/\∀ {Wx} X M,XS X P w K mg base lvl S Wx->MS M K S Wx->PE X e (tE M f vs)/\PT X e (tT M (bT f))
theorem MS.v (m:MS M K S Wx) (h:∀ i∈vs,S.msF i=false):∀ i∈vs,M.Ms i=false:=λ i hi=>by rw [m.ms];exact h i hi
theorem MS.k (m:MS M K S Wx) (xs:XS X P w K mg base lvl S Wx):M.K=X.K:=m.K.trans xs.K.symm
theorem zqn {e:Expr} (h1:∀ i∈vs,S.msF i=false) (h2:zvd e=true) (h3:∀ env whole,isTrue e env whole=(do let v<-whole;standAt e.pos;holding [v] (truthy v)))
  (h:∀ {Wx} X M,XS X P w K mg base lvl S Wx->MS M K S Wx->PE X e (tE M f vs)):Good P w K mg base lvl S e f vs:=
 ⟨h1,h2,λ X M xs m=>⟨h X M xs m,zpw (qk0 (h X M xs m) λ wh=>h3 _ wh) λ σ H Q q=>qa6 q⟩⟩
theorem zqu {vs vs':List Nat} (h1:∀ i∈vs,S.msF i=false) (h2:∀ i∈vs',S.msF i=false):∀ i∈vs++vs',S.msF i=false:=λ i hi=>(jb3.mp hi).elim (h1 i) (h2 i)
theorem qe0 {a b:Expr}{op:vl3}{o:PV->Nat->PV->Nat->Option (PV×Nat)}{pos:Pos} (ho:qi8 b op=some o) (ga:Good P w K mg base lvl S a f vs) (gb:Good P w K mg base lvl S b g vs'):Good P w K mg base lvl S (.Compare a [op] [b] pos) (bBin o f g) (vs++vs'):=by
 refine ⟨zqu ga.1 gb.1,rfl,λ X M xs m=>?_⟩
 obtain ⟨r,hr,hn,hi⟩:=qe9 (X:=X) (M:=M) (f:=f) (g:=g) (vs:=vs) (vs':=vs') ho xs.room.units (m.v ga.1) (m.k xs)
 have ha:=(ga.2.2 X M xs m).1
 have hb:=(gb.2.2 X M xs m).1
 exact ⟨zqi (qh3 hr ha hb hn) hi,zpw (qh0 hr ha hb hn) λ σ H Q q=>hi σ H _ (qa6 q)⟩
theorem qat {a b c:Expr}{op op':vl3}{p q:Int->Int->Bool}{h:Fx}{v3:List Nat}{pos:Pos} (h1:icmp op=some p) (h2:icmp op'=some q) (ga:Good P w K mg base lvl S a f vs) (gb:Good P w K mg base lvl S b g vs') (gc:Good P w K mg base lvl S c h v3):Good P w K mg base lvl S (.Compare a [op,op'] [b,c] pos) (zyu p q f g h) []:=by
 refine ⟨λ _ z=>(nomatch z),rfl,λ X M xs m=>?_⟩
 have r1:=zmp (X:=X) h1
 have r2:=zmp (X:=X) h2
 have ha:=(ga.2.2 X M xs m).1
 have hb:=(gb.2.2 X M xs m).1
 have hc:=(gc.2.2 X M xs m).1
 exact ⟨zqi (qek r1.1 r2.1 ha hb hc (zwa _ r2.2.1 r2.2.2)) λ σ H Q q=>zgo q,zpw (qef r1.1 r2.1 ha hb hc (zwa _ r2.2.1 r2.2.2)) λ σ H Q q=>zgo (vs:=[]) (qa6 q)⟩
theorem qez {a:Expr}{pos:Pos} (ga:Good P w K mg base lvl S a f vs):Good P w K mg base lvl S (.UnaryOp .Not a pos) (bUn zxe f) vs:=
 ⟨ga.1,rfl,λ X M xs m=>⟨zqi (qf2 (ga.2.2 X M xs m).1) λ σ H Q q=>qbe q,zpw (qk1 (ga.2.2 X M xs m).2) λ σ H Q q=>qgz q⟩⟩
theorem zmw {d:Expr->Option D2} (hd:∀ e f vs,d e=some (f,vs)->Good P w K mg base lvl S e f vs) {pos:Pos}:∀ (es:List Expr) (f:Fx) (vs:List Nat),zyo d es=some (f,vs)->(∀ i∈vs,S.msF i=false)/\∀ {Wx} X M,XS X P w K mg base lvl S Wx->MS M K S Wx->PE X (.BoolOp .And es pos) (tE M f vs)/\PW X (.BoolOp .And es pos) (tT M (bT f))
 | [],f,vs,h=>by cases h
 | [e],f,vs,h=>by
  have g:=hd e f vs h
  exact ⟨g.1,λ X M xs m=>⟨qb8 (g.2.2 X M xs m).1,qhx (g.2.2 X M xs m).2⟩⟩
 | e::e'::es,f,vs,h=>by
  unfold zyo at h
  split at h
  ·rename_i f1 v1 f2 v2 h1 h2
   cases h
   have g1:=hd e f1 v1 h1
   have g2:=zmw hd (pos:=pos) (e'::es) f2 v2 h2
   exact ⟨zqu g1.1 g2.1,λ X M xs m=>⟨zqi (qf5 (g1.2.2 X M xs m).1 (g2.2 X M xs m).1) λ σ H Q q=>qbf q,qfy (qkz (g1.2.2 X M xs m).2 (g2.2 X M xs m).2) λ σ H Q q=>qg1 q⟩⟩
  ·cases h
theorem zhq {d:Expr->Option D2} (hd:∀ e f vs,d e=some (f,vs)->Good P w K mg base lvl S e f vs) {pos:Pos}:∀ (es:List Expr) (f:Fx) (vs:List Nat),qe7 d es=some (f,vs)->(∀ i∈vs,S.msF i=false)/\∀ {Wx} X M,XS X P w K mg base lvl S Wx->MS M K S Wx->PE X (.BoolOp .Or es pos) (tE M f vs)/\PW X (.BoolOp .Or es pos) (tT M (bT f))
 | [],f,vs,h=>by cases h
 | [e],f,vs,h=>by
  have g:=hd e f vs h
  exact ⟨g.1,λ X M xs m=>⟨qb8 (g.2.2 X M xs m).1,qky (g.2.2 X M xs m).2⟩⟩
 | e::e'::es,f,vs,h=>by
  unfold qe7 at h
  split at h
  ·rename_i f1 v1 f2 v2 h1 h2
   cases h
   have g1:=hd e f1 v1 h1
   have g2:=zhq hd (pos:=pos) (e'::es) f2 v2 h2
   exact ⟨zqu g1.1 g2.1,λ X M xs m=>⟨zqi (qm1 (g1.2.2 X M xs m).1 (g2.2 X M xs m).1) λ σ H Q q=>qj8 q,qfy (qmz (g1.2.2 X M xs m).2 (g2.2 X M xs m).2) λ σ H Q q=>qjv q⟩⟩
  ·cases h
theorem zwm {d:Expr->Option D2} (hd:∀ e f vs,d e=some (f,vs)->Good P w K mg base lvl S e f vs):∀ (es:List Expr) (fa:Fa) (vs:List Nat),zyn d es=some (fa,vs)->(∀ i∈vs,S.msF i=false)/\es.all zvd=true/\∀ {Wx} X M,XS X P w K mg base lvl S Wx->MS M K S Wx->PA X es (tL M fa vs)
 | [],fa,vs,h=>by cases h;exact ⟨λ _ z=>(nomatch z),rfl,λ X M _ _=>qkq⟩
 | e::es,fa,vs,h=>by
  unfold zyn at h
  split at h
  ·rename_i f1 v1 f2 v2 h1 h2
   cases h
   have g1:=hd e f1 v1 h1
   have g2:=zwm hd es f2 v2 h2
   exact ⟨zqu g1.1 g2.1,by rw [je4,g1.2.1,g2.2.1];rfl,λ X M xs m=>qhr (m.v g1.1) (g1.2.2 X M xs m).1 (g2.2.2 X M xs m) (zqk (zqg g1.2.1))⟩
  ·cases h
theorem zke (scope:vd0) (env:Env):vi8 scope env=zxo scope env.scope:=rfl
theorem zvh {x:Str}{k:vc8}{sc:vd0}:∀ (l:List (Str×vc8)),(k=.cell\/k=.free)->(l.map λ (n,k)=>if (k == NameKind.free && sc.kind == .function && sc.names.lookup n == some .cell) then (n,NameKind.cell) else (n,k)).lookup x=some k->(x,NameKind.free)∈l\/(x,NameKind.cell)∈l
 | [],_,h=>by simp at h
 | (n,j)::r,hk,h=>by
  rw [jb9] at h
  have ih:=zvh (x:=x) (k:=k) (sc:=sc) r hk
  dsimp only at h
  by_cases hj:(j == NameKind.free && sc.kind == .function && sc.names.lookup n == some .cell)=true
  ·rw [if_pos hj,jc7] at h
   split at h
   ·rename_i hx
    rw [ja3,ja3] at hj
    have e1:x=n:=eq_of_beq hx
    have e2:j=.free:=eq_of_beq hj.1.1
    rw [e1,e2];exact .inl ja2
   ·exact (ih h).imp (ja0 _) (ja0 _)
  ·rw [if_neg hj,jc7] at h
   split at h
   ·rename_i hx
    have e1:x=n:=eq_of_beq hx
    have e2:j=k:=Option.some.inj h
    rcases hk with z | z
    ·rw [e1,e2,z];exact .inr ja2
    ·rw [e1,e2,z];exact .inl ja2
   ·exact (ih h).imp (ja0 _) (ja0 _)
theorem zzc (sc':vd0):∀ (N:List Str) (i:Nat),(zmq sc' i N).length=N.length
 | [],_=>rfl
 | x::r,i=>by rw [zmq,jc0,zzc sc' r (i + 1),jc0]
structure ChkOk (S:Sx) (scope:vd0) (xs:List Str) (vI:List Nat):Prop where
 kind:scope.kind=.function
 dis:∀ x,(x,NameKind.free)∈scope.names->(x,NameKind.cell)∉scope.names
 names:∀ x∈scope.names,x.2=.local->scope.names.lookup x.1=some .local
 free:∀ x∈scope.names,x.2=.free->S.sc.names.lookup x.1=some .cell\/S.sc.names.lookup x.1=some .free
 capt:∀ (i:Nat) (x:Str),i < S.N.length->(zqt S scope xs vI).N[i]?=some x->Vis (zxo scope S.sc) x->S.N[i]?=some x/\Vis S.sc x/\(x,NameKind.free)∈scope.names/\(zxo scope S.sc).names.lookup x≠some .local
 nd:(zqt S scope xs vI).N.Nodup
 loc:∀ x∈xs,(zxo scope S.sc).names.lookup x=some .local\/((zxo scope S.sc).names.lookup x=some .cell/\(x,NameKind.cell)∈scope.names)
 pos:S.N.length≠0
 ms:∀ i∈S.ms,i < S.N.length
theorem qgv {sc:vd0}{x:Str} (h:Vis sc x):visB sc x=true:=by
 unfold visB zxx
 rcases h with h | h | h <;> rw [h] <;> simp
theorem qgq {scope:vd0}{xs:List Str}{vI:List Nat} (h:zpd S scope xs vI=true):ChkOk S scope xs vI:=by
 unfold zpd at h
 simp only [ja3,decide_eq_true_eq,jb6,bne_iff_ne,ne_eq,jc8] at h
 obtain ⟨⟨⟨⟨⟨⟨⟨⟨h1,h2⟩,h3⟩,h4⟩,h5⟩,h6⟩,h7⟩,h8⟩,h9⟩:=h
 refine ⟨h1,λ x hx hz=>(h2 (x,.free) hx).elim (λ z=>z rfl) λ z=>?_,λ x hx he=>(h3 x hx).elim (λ z=>absurd he z) λ z=>eq_of_beq z,λ x hx he=>(h4 x hx).elim (λ z=>absurd he z) λ z=>z.elim (λ z=>.inl (eq_of_beq z)) λ z=>.inr (eq_of_beq z),λ i x hi e hv=>?_,h6,λ x hx=>(h7 x hx).imp zxk λ z=>⟨zxk z.1,by simpa using z.2⟩,h8,h9⟩
 ·have z':(!(scope.names.contains (x,NameKind.cell)))=true:=z
  have:scope.names.contains (x,NameKind.cell)=true:=by simpa using hz
  rw [this] at z';cases z'
 have q:=h5 i (jd5.mpr hi)
 rw [e] at q
 dsimp only at q
 rw [jc8] at q
 rcases q with q | q
 ·have:visB (zxo scope S.sc) x=true:=qgv hv
  have q':(!visB (zxo scope S.sc) x)=true:=q
  rw [this] at q';cases q'
 ·simp only [ja3,decide_eq_true_eq,jh1] at q
  obtain ⟨⟨⟨q1,q2⟩,q3⟩,q4⟩:=q
  refine ⟨q1,qa2 q2,by simpa using q3,λ z=>?_⟩
  have:zxx (zxo scope S.sc) x .local=true:=by unfold zxx;rw [z];simp
  have q4':zxx (zxo scope S.sc) x .local=false:=q4
  rw [this] at q4';cases q4'
theorem ChkOk.comp {scope:vd0}{ys:List Str}{vI:List Nat} (c:ChkOk S scope ys vI) (xs:XS X P w K mg base lvl S Wx):CompOk X scope (zqt S scope ys vI).N ys.length where
 kind:=c.kind
 dis:=c.dis
 names:=c.names
 len:=by
  show (zmq _ 0 S.N++ys).length=_
  rw [jb8,zzc,xs.N]
 free:=λ x hx he=>by
  show X.env.scope.names.lookup x.1=_\/X.env.scope.names.lookup x.1=_
  rw [xs.sc];exact c.free x hx he
 kinds:=λ x h=>by
  rcases h with h | h
  ·exact zvh (sc:=X.env.scope) scope.names (.inl rfl) h
  ·exact zvh (sc:=X.env.scope) scope.names (.inr rfl) h
 capt:=λ i x hi e hv=>by
  rw [zke,xs.sc] at hv ⊢
  rw [xs.N] at hi ⊢
  exact c.capt i x hi e hv
theorem ChkOk.xs {scope:vd0}{ys:List Str}{vI:List Nat} (c:ChkOk S scope ys vI) (xs:XS X P w K mg base lvl S Wx) (s2:va1) (H2:Hp) (C:Addr) (fp:List Addr) (pins:List (Addr×Obj)):XS (zql X s2 H2 scope C (zqt S scope ys vI).N fp pins) P w K mg base lvl (zqt S scope ys vI) W0:=
 ⟨xs.prog,xs.w,xs.K,xs.mg,xs.base,rfl,by show vi8 scope X.env=_;rw [zke,xs.sc];rfl,xs.calm,xs.room,PassesOwn.never,qk6,λ h=>nomatch h⟩
theorem zph {scope:vd0}{ys:List Str}{vI:List Nat} (i:Nat):(zqt S scope ys vI).alF i=if i < S.N.length then S.alF i else if i < S.N.length + ys.length then vI else []:=by
 unfold Sx.alF zqt
 dsimp only
 rw [jd3]
 by_cases h:i < S.N.length
 ·rw [jb7 (by simpa using h),if_pos h]
  simp [h,Sx.alF,jd3]
 ·rw [jc5 (by simpa using h),if_neg h,jd1]
  simp only [jb5,List.length_range]
  by_cases h2:i < S.N.length + ys.length
  ·rw [if_pos h2,if_pos (by omega)];rfl
  ·rw [if_neg h2,if_neg (by omega)];rfl
theorem ChkOk.ms' {scope:vd0}{ys:List Str}{vI:List Nat} (c:ChkOk S scope ys vI) (m:MS M K S Wx) (hv:∀ i∈vI,S.msF i=false) (D:Addr):MS (M.comp D S.N.length vI) K (zqt S scope ys vI) W0 where
 W:=rfl
 K:=m.K
 ms:=m.ms
 al:=λ i hi=>by
  rw [zph]
  show (if i < S.N.length then M.al i else vI)=_
  have hl:(zqt S scope ys vI).N.length=S.N.length + ys.length:=by
   show (zmq _ 0 S.N++ys).length=_
   rw [jb8,zzc]
  rw [hl] at hi
  by_cases h:i < S.N.length
  ·rw [if_pos h,if_pos h];exact m.al i h
  ·rw [if_neg h,if_neg h,if_pos hi]
 pn:=λ p hp=>by
  have h:=m.pn p hp
  show p.1 < (zmq _ 0 S.N++ys).length
  rw [jb8,zzc]
  omega
 als:=λ i j hj=>by
  have hj':j∈(if i < S.N.length then M.al i else vI):=hj
  show M.Ms j=false
  by_cases h:i < S.N.length
  ·rw [if_pos h] at hj';exact m.als i j hj'
  ·rw [if_neg h] at hj';rw [m.ms];exact hv j hj'
theorem zbw {n:Nat}{iter:Expr}{env:Env}{f:Fx}{vs:List Nat} (h:(∀ a b c,iter≠.Set a b c)):∀ x,vg6 iter env x=pure x:=by
 intro x
 cases iter with
 | Set a b c=>exact absurd rfl (h a b c)
 | _=>rfl
end
section
variable {X:Cx}{P:va8}{w:vb7}{K:Frag}{mg:Str->Option va0}{base:Heap}{lvl:Nat}{S:Sx}{Wx:St->Nat->Hp->Prop}{M:Fm}{f g:Fx}{vs vs':List Nat}{σ:St}{H:Hp}{Q:VK}
theorem qgx {T:Str}{t:String} (h:tyOf T=some t):t∈isiT/\T∈zwj/\vf0 T=some (.type t)/\(T == ("__debug__" : Str))=false/\T ≠ "__name__" := by
 unfold tyOf at h
 split at h
 ·rename_i e;cases h;rw [e];exact ⟨by decide,by decide +kernel,rfl,by decide +kernel,by decide +kernel⟩
 ·split at h
  ·rename_i e;cases h;rw [e];exact ⟨by decide,by decide +kernel,rfl,by decide +kernel,by decide +kernel⟩
  ·split at h
   ·rename_i e;cases h;rw [e];exact ⟨by decide,by decide +kernel,rfl,by decide +kernel,by decide +kernel⟩
   ·split at h
    ·rename_i e;cases h;rw [e];exact ⟨by decide,by decide +kernel,rfl,by decide +kernel,by decide +kernel⟩
    ·split at h
     ·rename_i e;cases h;rw [e];exact ⟨by decide,by decide +kernel,rfl,by decide +kernel,by decide +kernel⟩
     ·split at h
      ·rename_i e;cases h;rw [e];exact ⟨by decide,by decide +kernel,rfl,by decide +kernel,by decide +kernel⟩
      ·cases h
theorem qkn {x:Str}{o:List (PV×Nat)->Option (PV×Nat)}{e:Expr}{es:List Expr}{fa:Fa}{p pos:Pos} (h:qjd x=some o) (xs:XS X P w K mg base lvl S Wx) (m:MS M K S Wx) (hb:∀ x∈zwj,mg x=none) (hg:S.glob x=true) (hs:(e::es).all zvd=true) (ha:PA X (e::es) (tL M fa vs)):
  PE X (.Call (.Name x p) (e::es) [] pos) (tE M (zqb o fa) vs):=by
 rw [je4,ja3] at hs
 have h1:va3 (e::es) X.env=(false,eval e X.env)::va3 es X.env:=zqk (zqg hs.1)
 have h2:(vd2 pos (va3 es X.env)).any (·.1)=false:=zbb hs.2
 have hm:∀ x∈zwj,X.mg x=none:=λ x hx=>by rw [xs.mg];exact hb x hx
 unfold qjd at h
 split at h
 ·rename_i ex;cases h;subst ex;exact qkj (m.k xs) (xs.gl hg) (hm _ (by decide +kernel)) ha h1 h2
 ·split at h
  ·rename_i ex;cases h;subst ex;exact qko xs.calm (xs.gl hg) (hm _ (by decide +kernel)) ha h1 h2
  ·split at h
   ·rename_i ex;cases h;subst ex;exact qhk xs.calm (xs.gl hg) (hm _ (by decide +kernel)) ha h1 h2
   ·split at h
    ·rename_i ex;cases h;subst ex;exact qhj xs.calm (xs.gl hg) (hm _ (by decide +kernel)) ha h1 h2
    ·split at h
     ·rename_i ex;cases h;subst ex;exact qhi xs.calm (xs.gl hg) (hm _ (by decide +kernel)) ha h1 h2
     ·split at h
      ·rename_i ex;cases h;subst ex;exact qhh (m.k xs) (xs.gl hg) (hm _ (by decide +kernel)) ha h1 h2
      ·split at h
       ·rename_i ex;cases h;subst ex;exact qhm (m.k xs) (xs.gl hg) (hm _ (by decide +kernel)) ha h1 h2
       ·split at h
        ·rename_i ex;cases h;subst ex;exact qho (xs.gl hg) (hm _ (by decide +kernel)) ha h1 h2
        ·split at h
         ·rename_i ex;cases h;subst ex;exact qke xs.room.units xs.room.gd (m.k xs) (xs.gl hg) (hm _ (by decide +kernel)) ha h1 h2
         ·cases h
def IwOk (P:va8) (w:vb7) (K:Frag) (mg:Str->Option va0) (base:Heap) (lvl:Nat) (S:Sx) (it:Expr) (iw:Iw):Prop:=
 (∀ i∈iw.vs,S.msF i=false)/\(∀ a b c,it≠.Set a b c)/\∀ {Wx} X M,XS X P w K mg base lvl S Wx->MS M K S Wx->∀ tg,(match iw with
  | .rng en fa vs=>(en=zzd/\PI X tg it (qew (tL M fa vs)))\/(en=zmu/\PI X tg it (qev (tL M fa vs)))
  | .seq f vs=>PI X tg it (iSeq M.K (tE M f vs))
  | .vw v fa vs=>False)
theorem qey {it:Expr} (g:Good P w K mg base lvl S it f vs) (hs:∀ a b c,it≠.Set a b c):IwOk P w K mg base lvl S it (.seq f vs):=
 ⟨g.1,hs,λ X M xs m tg=>by
  show PI X tg it (iSeq M.K (tE M f vs))
  rw [m.k xs];exact qk4 (g.2.2 X M xs m).1⟩
theorem zbz {d:Expr->Option D2} (hd:∀ e f vs,d e=some (f,vs)->Good P w K mg base lvl S e f vs) (hset:∀ a b c,d (.Set a b c)=none) (hb:∀ x∈zwj,mg x=none) {it:Expr}{iw:Iw} (h:denI d S it=some iw):IwOk P w K mg base lvl S it iw:=by
 have seq:∀ {it:Expr}{iw:Iw},(match d it with
   | some (f,vs)=>some (Iw.seq f vs)
   | none=>none)=some iw->IwOk P w K mg base lvl S it iw:=λ {it iw} h=>by
  cases e:d it with
  | none=>rw [e] at h;cases h
  | some p=>
   obtain ⟨f,vs⟩:=p
   rw [e] at h;cases h
   exact qey (hd _ _ _ e) λ a b c z=>by rw [z,hset] at e;cases e
 unfold denI at h
 split at h
 ·rename_i x p a pos
  split at h
  ·rename_i hc
   obtain ⟨rfl,hg⟩:=hc
   split at h
   ·rename_i fa vs e
    cases h
    have g:=zwm hd _ _ _ e
    refine ⟨λ _ z=>(nomatch z),λ _ _ _ z=>(nomatch z),λ X M xs m tg=>.inl ⟨rfl,?_⟩⟩
    have hs:=g.2.1
    simp only [je4,jl5,jh9] at hs
    exact qb4 (xs.gl hg) (by rw [xs.mg];exact hb _ (by decide +kernel)) (g.2.2 X M xs m) (zqk (zqg hs))
   ·cases h
  ·exact seq h
 ·rename_i x p a b pos
  split at h
  ·rename_i hc
   obtain ⟨rfl,hg⟩:=hc
   split at h
   ·rename_i fa vs e
    cases h
    have g:=zwm hd _ _ _ e
    refine ⟨λ _ z=>(nomatch z),λ _ _ _ z=>(nomatch z),λ X M xs m tg=>.inr ⟨rfl,?_⟩⟩
    have hs:=g.2.1
    simp only [je4,jl5,jh9,ja3] at hs
    have s2:va3 [b] X.env=[(false,eval b X.env)]:=zqk (zqg hs.2)
    exact qb3 (xs.gl hg) (by rw [xs.mg];exact hb _ (by decide +kernel)) (g.2.2 X M xs m) (by rw [zqk (zqg hs.1),s2]) s2
   ·cases h
  ·exact seq h
 ·exact seq h
theorem qd5 {σ:St}{H:Hp}{Q:Bool->Hp->Prop} (h:∃ M',MS M' K S Wx/\tT M' zva σ H Q):Q true H:=by
 obtain ⟨M',_,ρ,fps,rep,q⟩:=h
 exact q H fps KD.refl Agr.refl rep
structure CompParts (P:va8) (w:vb7) (K:Frag) (mg:Str->Option va0) (base:Heap) (lvl:Nat) (S:Sx) (scope:vd0) (tg:Expr) (ys:List Str) (asg:PV->Rho->Option Rho) (it elt:Expr) (ifs:List Expr) (iw:Iw) (t:Fb) (g:Fx) (vE:List Nat):Prop where
 tga:tgA S.N.length tg=some (ys,asg)
 two:twOk tg iw=true
 chk:ChkOk S scope ys iw.vs
 iwo:IwOk P w K mg base lvl S it iw
 elt:Good P w K mg base lvl (zqt S scope ys iw.vs) elt g vE
 ifs:∀ {Wx} X M,XS X P w K mg base lvl (zqt S scope ys iw.vs) Wx->MS M K (zqt S scope ys iw.vs) Wx->PTs X ifs (λ σ H Q=>∃ M',MS M' K (zqt S scope ys iw.vs) Wx/\tT M' t σ H Q)
theorem qdg {scope:vd0}{tg:Expr}{ys:List Str}{asg:PV->Rho->Option Rho}{it elt:Expr}{ifs:List Expr}{iw:Iw}{t:Fb}{vE:List Nat} (c:CompParts P w K mg base lvl S scope tg ys asg it elt ifs iw t g vE):∀ i∈iw.vs++vE.filter (λ i=>decide (i < S.N.length)),S.msF i=false:=
 zqu c.iwo.1 λ i hi=>c.elt.1 i (ji0.mp hi).1
theorem zma {X':Cx}:∀ {es:List Expr}{ys:List Str}{n:Nat},zbr es=some ys->X'.N.Nodup->(∀ j y,ys[j]?=some y->X'.N[n + j]?=some y)->(∀ y∈ys,Loc X'.env.scope y/\(X'.fn y=true\/X'.env.scope.names.lookup y=some .local))->PGs X' es (zjm (ji3 n ys.length))/\(vc6 es X'.env).length=ys.length/\(vc6 es X'.env).findIdx? (·.1)=none
 | [],ys,n,h,_,_,_=>by cases h;exact ⟨qb5,rfl,rfl⟩
 | e::es,ys,n,h,hN,hi,hl=>by
  unfold zbr at h
  split at h
  ·cases ‹_::_=[]›
  ·rename_i x px r heq
   cases heq
   obtain ⟨zs,h2,rfl⟩:=ja5.mp h
   have hx:=hl x ja2
   obtain ⟨h1,h3,h4⟩:=zma (n:=n + 1) h2 hN (λ j y e=>by rw [show n + 1 + j=n + (j + 1) by omega];exact hi (j + 1) y (by simpa using e)) λ y hy=>hl y (ja0 _ hy)
   rw [jc0,jm2]
   refine ⟨zgy (zbk hN (by have:=hi 0 x rfl;simpa using this) hx.1 hx.2) h1 rfl,by rw [vc6,jc0,h3] <;> (intros;contradiction),?_⟩
   rw [vc6,ji6,h4] <;> first | rfl | (intros;contradiction)
  ·cases h
theorem zju {scope:vd0}{tg:Expr}{ys:List Str}{asg:PV->Rho->Option Rho}{pos:Pos}{it elt:Expr}{ifs:List Expr}{iw:Iw}{t:Fb}{vE:List Nat} (c:CompParts P w K mg base lvl S scope tg ys asg it elt ifs iw t g vE) (xs:XS X P w K mg base lvl S Wx) (m:MS M K S Wx):
  ∃ wi gg,PI X tg it wi/\CompOk X scope (zqt S scope ys iw.vs).N ys.length/\(∀ s2 H2 C fp pins,PG (zql X s2 H2 scope C (zqt S scope ys iw.vs).N fp pins) tg gg) /\
   (∀ s2 H2 C fp pins,PTs (zql X s2 H2 scope C (zqt S scope ys iw.vs).N fp pins) ifs (λ σ H Q=>∃ M',MS M' K (zqt S scope ys iw.vs) W0/\tT M' t σ H Q)) /\
   (∀ s2 H2 C fp pins,PE (zql X s2 H2 scope C (zqt S scope ys iw.vs).N fp pins) elt (λ σ H Q=>∃ M',MS M' K (zqt S scope ys iw.vs) W0/\tE M' g vE σ H Q)) /\
   ∀ σ H Q,σ.length=S.N.length->tE M (qdx iw ys.length asg t g) (iw.vs++vE.filter (λ i=>decide (i < S.N.length))) σ H Q ->
    qae ys.length wi gg (λ σ H Q=>∃ M',MS M' K (zqt S scope ys iw.vs) W0/\tT M' t σ H Q) (λ σ H Q=>∃ M',MS M' K (zqt S scope ys iw.vs) W0/\tE M' g vE σ H Q) σ H Q:=by
 have hvI:=m.v c.iwo.1
 have hP:∀ D,MS (M.comp D S.N.length iw.vs) K (zqt S scope ys iw.vs) W0:=λ D=>c.chk.ms' m c.iwo.1 D
 have hvE:∀ i∈vE,M.Ms i=false:=λ i hi=>by rw [m.ms];exact c.elt.1 i hi
 have hvo:∀ i,i∈vE->i < S.N.length->i∈iw.vs++vE.filter (λ i=>decide (i < S.N.length)):=λ i h1 h2=>ja1 _ (ji0.mpr ⟨h1,by simpa using h2⟩)
 have hvo2:=m.v (qdg c)
 have bd:∀ D i,S.N.length<=i->Bd (M.comp D S.N.length iw.vs) iw.vs i:=λ D i hi=>⟨by
   show M.Ms i=false
   rw [m.ms]
   unfold Sx.msF
   cases e:S.ms.contains i with
   | false=>rfl
   | true=>exact absurd (c.chk.ms _ (by simpa using e)) (by omega),⟨λ _=>by have:=c.chk.pos;omega,λ p hp=>by have:=m.pn p hp;omega⟩,if_neg (by omega),(hP D).als⟩
 have hix:∀ j y,ys[j]?=some y->(zqt S scope ys iw.vs).N[S.N.length + j]?=some y:=λ j y e=>by
  show (zmq _ 0 S.N++ys)[S.N.length + j]?=some y
  rw [jc5 (by rw [zzc];omega),zzc]
  simpa using e
 have hloc:∀ s2 H2 C fp pins,∀ y∈ys,Loc (zql X s2 H2 scope C (zqt S scope ys iw.vs).N fp pins).env.scope y/\((zql X s2 H2 scope C (zqt S scope ys iw.vs).N fp pins).fn y=true\/(zql X s2 H2 scope C (zqt S scope ys iw.vs).N fp pins).env.scope.names.lookup y=some .local):=λ s2 H2 C fp pins y hy=>by
  have e:(zql X s2 H2 scope C (zqt S scope ys iw.vs).N fp pins).env.scope=zxo scope S.sc:=by
   show vi8 scope X.env=_
   rw [zke,xs.sc]
  rw [e]
  rcases c.chk.loc y hy with z | z
  ·exact ⟨.inl z,.inr z⟩
  ·exact ⟨.inr z.1,.inl (by show scope.names.contains (y,NameKind.cell)=true;simpa using z.2)⟩
 have hpe:∀ s2 H2 C fp pins,PE (zql X s2 H2 scope C (zqt S scope ys iw.vs).N fp pins) elt (λ σ H Q=>∃ M',MS M' K (zqt S scope ys iw.vs) W0/\tE M' g vE σ H Q):=λ s2 H2 C fp pins pi s σ H Q I ⟨M',m',q⟩=>
  (c.elt.2.2 _ M' (c.chk.xs xs s2 H2 C fp pins) m').1 pi s σ H Q I q
 have hpt:∀ s2 H2 C fp pins,PTs (zql X s2 H2 scope C (zqt S scope ys iw.vs).N fp pins) ifs (λ σ H Q=>∃ M',MS M' K (zqt S scope ys iw.vs) W0/\tT M' t σ H Q):=λ s2 H2 C fp pins=>c.ifs _ (M.comp 0 S.N.length iw.vs) (c.chk.xs xs s2 H2 C fp pins) (hP 0)
 have tgp:∃ is gg,(∀ i∈is,S.N.length<=i)/\(∀ D,GOk (M.comp D S.N.length iw.vs) iw.vs is gg asg)/\∀ s2 H2 C fp pins,PG (zql X s2 H2 scope C (zqt S scope ys iw.vs).N fp pins) tg gg:=by
  have ht:=c.tga
  unfold tgA at ht
  split at ht
  ·rename_i y py
   cases ht
   refine ⟨[S.N.length],zyl S.N.length,λ i hi=>by rw [jb1.mp hi];exact jb4 _,λ D=>qge (bd D _ (jb4 _)),λ s2 H2 C fp pins=>?_⟩
   exact zbk c.chk.nd (hix 0 y rfl) (hloc s2 H2 C fp pins y (by simp)).1 (hloc s2 H2 C fp pins y (by simp)).2
  ·rename_i es k tp
   obtain ⟨zs,h2,e⟩:=ja5.mp ht
   cases e
   refine ⟨ji3 S.N.length ys.length,gTup M.K ys.length (zjm (ji3 S.N.length ys.length)),λ i hi=>(jl3.mp hi).1,λ D=>?_,λ s2 H2 C fp pins=>?_⟩
   ·have:=qiu (M:=M.comp D S.N.length iw.vs) (al:=iw.vs) (is:=ji3 S.N.length ys.length) λ i hi=>bd D i (jl3.mp hi).1
    rw [List.length_range'] at this
    exact this
   ·obtain ⟨h1,h3,h4⟩:=zma (X':=zql X s2 H2 scope C (zqt S scope ys iw.vs).N fp pins) (n:=S.N.length) h2 c.chk.nd hix (hloc s2 H2 C fp pins)
    have:=qb6 (X:=zql X s2 H2 scope C (zqt S scope ys iw.vs).N fp pins) (pos:=tp) (k:=k) xs.calm h1 h3 h4
    have e:(zql X s2 H2 scope C (zqt S scope ys iw.vs).N fp pins).K=M.K:=(m.k xs).symm
    rw [e] at this
    exact this
  ·cases ht
 obtain ⟨is,gg,his,hg,hpg⟩:=tgp
 have hw:=c.iwo.2.2 X M xs m tg
 have htw:=c.two
 cases iw with
 | rng en fa vs=>
  rcases hw with ⟨rfl,hw⟩ | ⟨rfl,hw⟩
  ·exact ⟨_,gg,hw,c.chk.comp xs,hpg,hpt,hpe,λ σ H Q hl hq=>qd8 hl hP m.als hvI hvE his hg hvo hvo2 hq⟩
  ·exact ⟨_,gg,hw,c.chk.comp xs,hpg,hpt,hpe,λ σ H Q hl hq=>qd7 hl hP m.als hvI hvE his hg hvo hvo2 hq⟩
 | seq f vs=>exact ⟨_,gg,hw,c.chk.comp xs,hpg,hpt,hpe,λ σ H Q hl hq=>qd6 hl hP m.als hvI hvE his hg hvo hvo2 hq⟩
 | vw v fa vs=>exact hw.elim
theorem qf4 {e:Expr}{t t':TE} (h:PE X e t) (i:∀ σ H Q,σ.length=X.N.length->t' σ H Q->t σ H Q):PE X e t':=λ pins s σ H Q I q=>h pins s σ H Q I (i σ H Q I.len q)
theorem qk2 {e:Stmt}{t t':TS} (h:PS X e t) (i:∀ D σ H,σ.length=X.N.length->t' D σ H->t D σ H):PS X e t':=λ pins s σ H D I q=>h pins s σ H D I (i D σ H I.len q)
theorem qc5 {scope:vd0}{tg:Expr}{ys:List Str}{asg:PV->Rho->Option Rho}{pos:Pos}{it elt:Expr}{ifs:List Expr}{iw:Iw}{t:Fb}{vE:List Nat} (c:CompParts P w K mg base lvl S scope tg ys asg it elt ifs iw t g vE):Good P w K mg base lvl S (.ListComp elt [⟨tg,it,ifs,0⟩] scope pos) (qdx iw ys.length asg t g) (iw.vs++vE.filter (λ i=>decide (i < S.N.length))):=by
 refine zqn (qdg c) rfl (λ _ _=>rfl) λ X M xs m=>?_
 obtain ⟨wi,gg,h1,h2,h3,h4,h5,h6⟩:=zju (pos:=pos) c xs m
 exact qf4 (qca h2 xs.calm h1 h3 h4 h5 (zbw (n:=0) (f:=g) (vs:=[]) c.iwo.2.1)) λ σ H Q hl q=>h6 σ H Q (by rw [hl,xs.N]) q
theorem zmv {d:Expr->Option D2} (hd:∀ e f vs,d e=some (f,vs)->Good P w K mg base lvl S e f vs) {ifs:List Expr}{t:Fb} (h:zhr d ifs=some t) (X:Cx) (M:Fm) (xs:XS X P w K mg base lvl S Wx) (m:MS M K S Wx):PTs X ifs (λ σ H Q=>∃ M',MS M' K S Wx/\tT M' t σ H Q):=by
 unfold zhr at h
 split at h
 ·cases h
  intro pins s σ H Q I q
  exact qhz pins s σ H Q I (qd5 q)
 ·obtain ⟨p,e,rfl⟩:=ja5.mp h
  obtain ⟨f,vs⟩:=p
  have g:=hd _ _ _ e
  intro pins s σ H Q I ⟨M',m',q⟩
  exact qhy (g.2.2 X M' xs m').2 pins s σ H Q I q
 ·cases h
theorem zby (n:Nat) (S:Sx) (a:List Expr) (b:Nat) (c:Pos):den n S (.Set a b c)=none:=by
 cases n <;> rfl
theorem zzx {e:Expr} (h:zvd e=true) (env:Env) (cpos:Pos):((vd2 cpos (va3 [e] env)).all (λ x=>!x.1) && (backToKw cpos (vi0 [] env)).all (λ x=>x.1.isSome)
   && decide (([e]:List Expr).length + ([]:List vg1).length + (if ([]:List vg1).isEmpty then 0 else 1) < 30))=true:=by
 have:va3 [e] env=[(false,eval e env)]:=zqk (zqg h)
 rw [this]
 rfl
theorem zkl {T:Str}{c:Nat} (h:XN.findIdx? (·== T)=some c):XN[c]?=some T:=by
 obtain ⟨hlt,h1,_⟩:=jd6.mp h
 rw [jc6 hlt]
 exact congrArg some (eq_of_beq h1)
theorem zhw {T:Str}{n:Nat} (GX:GX K mg S.xc) (hb:∀ x∈zwj,mg x=none) (h:zgg S T=some n) (xs:XS X P w K mg base lvl S Wx):xKit X.K=true/\∃ cv,(∀ p2,PE X (.Name T p2) (tC cv))/\∀ u,RelV cv u->clsV X.K n u=true:=by
 unfold zgg at h
 split at h
 ·rename_i hc
  obtain ⟨hg,hx⟩:=hc
  obtain ⟨_,hk,hcs⟩:=GX hx
  refine ⟨by rw [xs.K];exact hk,?_⟩
  split at h
  ·rename_i eT
   subst eT
   cases h
   refine ⟨.ty "ValueError",λ p2=>zfp (xs.gl hg) (by rw [xs.mg];exact hb _ (by decide +kernel)) (u:=.type "ValueError") rfl rfl (by decide) (by decide),λ u r=>?_⟩
   cases r
   unfold clsV
   rfl
  ·split at h
   ·rename_i hc
    split at h
    ·rename_i hm
     cases h
     obtain ⟨x',C,h1,h2,h3,h4⟩:=(hcs n (by simpa using hm)).1 (qc2 hc)
     have ex:x'=T:=by
      have:=zkl hc
      rw [h1] at this
      exact Option.some.inj this
     subst ex
     refine ⟨.ref C,λ p2=>zfo (xs.gl hg) (by rw [xs.mg];exact h3) rfl h4,λ u r=>?_⟩
     cases r
     unfold clsV
     rw [xs.K,h2]
     simp
    ·cases h
   ·cases h
 ·cases h
theorem zmx (GX:GX K mg S.xc) (hb:∀ x∈zwj,mg x=none) (xs:XS X P w K mg base lvl S Wx):∀ {es:List Expr}{ns:List Nat},zhx S es=some ns->es≠[]->xKit X.K=true/\∃ cvs,cvs.length=es.length/\PA X es (tVs cvs)/\∀ us,Vals cvs us->zyr X.K ns us=true
 | [],_,_,hn=>absurd rfl hn
 | e::r,ns,h,_=>by
  unfold zhx at h
  split at h
  ·rename_i T ds h1 h2
   obtain ⟨n,h3,rfl⟩:=ja5.mp h
   obtain ⟨p2,rfl⟩:=zzm h1
   obtain ⟨hk,cv,c1,c2⟩:=zhw GX hb h3 xs
   refine ⟨hk,?_⟩
   have st:va3 (Expr.Name T p2::r) X.env=(false,eval (.Name T p2) X.env)::va3 r X.env:=rfl
   by_cases hr:r=[]
   ·subst hr
    cases h2
    refine ⟨[cv],rfl,λ a b c d e f g h=>(zxp (c1 p2) zvc st) a b c d e f g h,λ us v=>?_⟩
    cases v with
    | cons r rr=>
     cases rr
     unfold zyr
     rw [c2 _ r]
     rfl
   ·obtain ⟨_,cvs,l1,pa,l2⟩:=zmx GX hb xs h2 hr
    refine ⟨cv::cvs,by rw [jc0,jc0,l1],λ a b c d e f g h=>(zxp (c1 p2) pa st) a b c d e f g h,λ us v=>?_⟩
    cases v with
    | cons r rr=>
     unfold zyr
     rw [c2 _ r,l2 _ rr]
     rfl
  ·cases h
theorem zjq (GX:GX K mg S.xc) (G:GS P w K mg base lvl S.Γ) (Gm:GSm P w K mg base lvl S.Γm):∀ (n:Nat) (S':Sx) (e:Expr) (f:Fx) (vs:List Nat),S'.Γ=S.Γ->S'.Γm=S.Γm->S'.xc=S.xc->(∀ i,∀ j∈S'.alF i,S'.msF j=false)->den n S' e=some (f,vs)->Good P w K mg base lvl S' e f vs:=by
 intro n
 induction n with
 | zero=>intro S' e f vs _ _ _ _ h;cases h
 | succ n ih=>
  intro S' e f vs hΓ hΓm hX hS h
  have hd:∀ e f vs,den n S' e=some (f,vs)->Good P w K mg base lvl S' e f vs:=λ e f vs h=>ih S' e f vs hΓ hΓm hX hS h
  replace h:zzj (den n) S' e=some (f,vs):=h
  unfold zzj at h
  split at h
  ·unfold denC at h
   split at h
   ·cases h;exact zqn (λ _ z=>(nomatch z)) rfl (λ _ _=>rfl) λ X M xs m=>zqi zha λ σ H Q q=>zvf (λ K H Z=>by rw [Own];exact ⟨rfl,rfl⟩) q
   ·cases h;exact zqn (λ _ z=>(nomatch z)) rfl (λ _ _=>rfl) λ X M xs m=>zqi qm2 λ σ H Q q=>zvf (λ K H Z=>by rw [Own];exact ⟨rfl,rfl⟩) q
   ·cases h;exact zqn (λ _ z=>(nomatch z)) rfl (λ _ _=>rfl) λ X M xs m=>zqi qk5 λ σ H Q q=>zvf (λ K H Z=>by rw [Own];exact ⟨rfl,rfl⟩) q
   ·cases h;exact zqn (λ _ z=>(nomatch z)) rfl (λ _ _=>rfl) λ X M xs m=>zqi qb7 λ σ H Q q=>zvf (λ K H Z=>by rw [Own];exact ⟨rfl,rfl⟩) q
   ·cases h
  ·split at h
   ·rename_i i hi
    split at h
    ·cases h
    ·rename_i hm
     cases h
     refine zqn (λ j hj=>?_) rfl (λ _ _=>rfl) λ X M xs m=>qf4 (xs.var hi) λ σ H Q hl q=>?_
     ·rcases ja9.mp hj with z | z
      ·rw [z];simpa using hm
      ·exact hS i j z
     ·have hlt:i < S'.N.length:=by
       unfold Sx.slot at hi
       split at hi
       ·exact (ja8.mp (zvt hi)).1
       ·cases hi
      rw [<- m.al i hlt] at q
      exact qbd q
   ·unfold denK at h
    split at h
    ·rename_i kk hkk
     split at h
     ·rename_i hc
      obtain ⟨pv,hp,e2⟩:=ja5.mp h
      cases e2
      have hm:(50 + kk)∈S'.xc:=by simpa using hc.1
      have hne:S.xc≠[]:=λ z=>by rw [hX,z] at hm;cases hm
      obtain ⟨_,_,hcs⟩:=GX hne
      obtain ⟨x',v,u,c1,c2,c3,c4⟩:=(hcs (50 + kk) (by rw [<- hX];exact hm)).2 (Nat.le_add_right _ _)
      rw [Nat.add_sub_cancel_left,hp] at c1
      cases c1
      obtain ⟨hlt,h1,_⟩:=jd6.mp hkk
      rw [jc6 hlt] at hp
      have ex:CN[kk]=(x',v):=Option.some.inj hp
      rw [ex] at h1
      have ex2:x'=_:=eq_of_beq h1
      subst ex2
      obtain ⟨w',r',ow⟩:=qjc c2
      exact zqn (λ _ z=>(nomatch z)) rfl (λ _ _=>rfl) λ X M xs m=>zqi (zfo (xs.gl hc.2) (by rw [xs.mg];exact c3) r' c4) λ σ H Q q=>zvf ow q
     ·cases h
    ·cases h
  ·split at h
   ·rename_i f1 v1 f2 v2 o h1 h2 h3
    cases h
    have g1:=hd _ _ _ h1
    have g2:=hd _ _ _ h2
    exact zqn (zqu g1.1 g2.1) rfl (λ _ _=>rfl) λ X M xs m=>qmt h3 (m.v g1.1) (m.k xs) (g1.2.2 X M xs m).1 (g2.2.2 X M xs m).1
   ·cases h
  ·split at h
   ·rename_i f1 v1 h1
    cases h
    have g1:=hd _ _ _ h1
    exact zqn g1.1 rfl (λ _ _=>rfl) λ X M xs m=>qkg (g1.2.2 X M xs m).1
   ·cases h
  ·split at h
   ·rename_i f1 v1 h1
    cases h
    exact qez (hd _ _ _ h1)
   ·cases h
  ·rename_i es pos
   have g:=zmw hd (pos:=pos) _ _ _ h
   exact ⟨g.1,rfl,λ X M xs m=>⟨(g.2 X M xs m).1,(g.2 X M xs m).2.pt⟩⟩
  ·rename_i es pos
   have g:=zhq hd (pos:=pos) _ _ _ h
   exact ⟨g.1,rfl,λ X M xs m=>⟨(g.2 X M xs m).1,(g.2 X M xs m).2.pt⟩⟩
  ·split at h
   ·rename_i f1 v1 f2 v2 o h1 h2 h3
    cases h
    exact qe0 h3 (hd _ _ _ h1) (hd _ _ _ h2)
   ·cases h
  ·split at h
   ·rename_i f1 v1 f2 v2 f3 v3 p q h1 h2 h3 h4 h5
    cases h
    exact qat h4 h5 (hd _ _ _ h1) (hd _ _ _ h2) (hd _ _ _ h3)
   ·cases h
  ·split at h
   ·rename_i fa v h1
    cases h
    have g:=zwm hd _ _ _ h1
    exact zqn g.1 rfl (λ _ _=>rfl) λ X M xs m=>qki (g.2.2 X M xs m)
   ·cases h
  ·split at h
   ·rename_i fa v h1
    cases h
    have g:=zwm hd _ _ _ h1
    exact zqn g.1 rfl (λ _ _=>rfl) λ X M xs m=>qkd (g.2.2 X M xs m)
   ·cases h
  ·cases h
   exact zqn (λ _ z=>(nomatch z)) rfl (λ _ _=>rfl) λ X M xs m=>qkl
  ·rename_i a b pos
   unfold qgh at h
   split at h
   ·rename_i lo hi st p2
    unfold qgi at h
    split at h
    ·split at h
     ·rename_i f1 v1 f2 v2 h1 h2
      cases h
      have g1:=hd _ _ _ h1
      have g2:=hd _ _ _ h2
      exact zqn g1.1 rfl (λ _ _=>rfl) λ X M xs m=>zqi (zbl (zfm.or (qbn.or qbo)) (g1.2.2 X M xs m).1 qb2 (zbj (g2.2.2 X M xs m).1)) λ σ H Q q=>qhb (lo:=none) (hi:=some (f2,v2)) (m.v g1.1) (m.k xs) q
     ·cases h
    ·split at h
     ·rename_i f1 v1 f2 v2 h1 h2
      cases h
      have g1:=hd _ _ _ h1
      have g2:=hd _ _ _ h2
      exact zqn g1.1 rfl (λ _ _=>rfl) λ X M xs m=>zqi (zbl (zfm.or (qbn.or qbo)) (g1.2.2 X M xs m).1 (zbj (g2.2.2 X M xs m).1) qb2) λ σ H Q q=>qhb (lo:=some (f2,v2)) (hi:=none) (m.v g1.1) (m.k xs) q
     ·cases h
    ·split at h
     ·rename_i f1 v1 f2 v2 f3 v3 h1 h2 h3
      cases h
      have g1:=hd _ _ _ h1
      have g2:=hd _ _ _ h2
      have g3:=hd _ _ _ h3
      exact zqn g1.1 rfl (λ _ _=>rfl) λ X M xs m=>zqi (zbl (zfm.or (qbn.or qbo)) (g1.2.2 X M xs m).1 (zbj (g2.2.2 X M xs m).1) (zbj (g3.2.2 X M xs m).1)) λ σ H Q q=>qhb (lo:=some (f2,v2)) (hi:=some (f3,v3)) (m.v g1.1) (m.k xs) q
     ·cases h
    ·cases h
   ·split at h
    ·rename_i x i hx hi
     obtain ⟨px,rfl⟩:=zzm hx
     obtain ⟨k,pi,rfl⟩:=qf9 hi
     split at h
     ·rename_i j hj
      split at h
      ·cases h
       exact zqn (λ _ z=>(nomatch z)) rfl (λ _ _=>rfl) λ X M xs m=>qmu xs hj (m.k xs)
      ·rename_i hm
       cases h
       have hlt:j < S'.N.length:=by
        unfold Sx.slot at hj
        split at hj
        ·exact (ja8.mp (zvt hj)).1
        ·cases hj
       have hv:∀ i∈j::S'.alF j,S'.msF i=false:=λ i hi=>by
        rcases ja9.mp hi with z | z
        ·rw [z];simpa using hm
        ·exact hS j i z
       refine zqn (zqu hv λ _ z=>(nomatch z)) rfl (λ _ _=>rfl) λ X M xs m=>qfx (m.v hv) (m.k xs) (zwy rfl) (zqi (xs.var hj) λ σ H Q q=>?_) (zqi zha λ σ H Q q=>zvf (λ K H Z=>by rw [Own];exact ⟨rfl,rfl⟩) q)
       rw [<- m.al j hlt] at q
       exact qbd q
     ·cases h
    ·split at h
     ·rename_i f1 v1 f2 v2 h1 h2
      split at h
      ·rename_i hn
       cases h
       have g1:=hd _ _ _ h1
       have g2:=hd _ _ _ h2
       exact zqn (zqu g1.1 g2.1) rfl (λ _ _=>rfl) λ X M xs m=>qfx (m.v g1.1) (m.k xs) (zwy hn) (g1.2.2 X M xs m).1 (g2.2.2 X M xs m).1
      ·cases h
     ·cases h
  ·split at h
   ·rename_i x p args pos _ hx
    subst hx
    split at h
    ·rename_i e c
     unfold qgn at h
     split at h
     ·rename_i f1 v1 h1
      split at h
      ·rename_i hgi
       have g1:=hd _ _ _ h1
       split at h
       ·rename_i T pT
        have s2:∀ {X:Cx},va3 [Expr.Name T pT] X.env=[(false,eval (.Name T pT) X.env)]:=rfl
        split at h
        ·rename_i t h2
         split at h
         ·rename_i hg
          cases h
          obtain ⟨t1,t2,t3,t4,t5⟩:=qgx h2
          refine zqn g1.1 rfl (λ _ _=>rfl) λ X M xs m=>?_
          exact qkk (x:=T) t1 (m.k xs) (g1.2.2 X M xs m).1 (xs.gl hgi) (by rw [xs.mg];exact G.1 _ (by decide +kernel)) (zfp (xs.gl hg) (by rw [xs.mg];exact G.1 _ t2) t3 rfl t5 t4) (by rw [zqk (zqg g1.2.1),s2]) s2
         ·cases h
        ·obtain ⟨n,h3,e2⟩:=ja5.mp h
         cases e2
         refine zqn g1.1 rfl (λ _ _=>rfl) λ X M xs m=>?_
         obtain ⟨hk,cv,c1,c2⟩:=zhw (by rw [hX];exact GX) G.1 h3 xs
         exact qbq hk (m.k xs) (g1.2.2 X M xs m).1 (xs.gl hgi) (by rw [xs.mg];exact G.1 _ (by decide +kernel)) (c1 pT) c2 (by rw [zqk (zqg g1.2.1),s2]) s2
       ·rename_i es k p2
        split at h
        ·rename_i hl
         obtain ⟨ns,h3,e2⟩:=ja5.mp h
         cases e2
         obtain ⟨hl,hne⟩:=hl
         refine zqn g1.1 rfl (λ _ _=>rfl) λ X M xs m=>?_
         have s2:va3 [Expr.Tuple es k p2] X.env=[(false,eval (.Tuple es k p2) X.env)]:=rfl
         obtain ⟨hk,cvs,l1,pa,l2⟩:=zmx (by rw [hX];exact GX) G.1 xs h3 hne
         exact qec hk (m.k xs) (g1.2.2 X M xs m).1 (xs.gl hgi) (by rw [xs.mg];exact G.1 _ (by decide +kernel)) pa (by rw [l1];exact jc4 hl (by decide)) l2 (by rw [zqk (zqg g1.2.1),s2]) s2
        ·cases h
       ·cases h
      ·cases h
     ·cases h
    ·cases h
   ·split at h
    ·rename_i o ho
     split at h
     ·rename_i e es
      split at h
      ·rename_i fa v h1
       split at h
       ·rename_i hg
        cases h
        have g:=zwm hd _ _ _ h1
        exact zqn g.1 rfl (λ _ _=>rfl) λ X M xs m=>qkn ho xs m G.1 hg g.2.1 (g.2.2 X M xs m)
       ·cases h
      ·cases h
     ·cases h
    ·split at h
     ·rename_i x p args pos _ _ _ _ nn F hF
      split at h
      ·rename_i e es
       split at h
       ·rename_i fa v h1
        split at h
        ·rename_i hg
         cases h
         have g:=zwm hd _ _ _ h1
         rw [hΓ] at hF
         obtain ⟨d1,d2,fa',fd,ps,d3,d4,d5,d6,d7⟩:=G.2 _ _ _ _ hF
         refine zqn g.1 rfl (λ _ _=>rfl) λ X M xs m=>?_
         have hs:=g.2.1
         rw [je4,ja3] at hs
         obtain ⟨xp,xw,xK,xm,xb,_,_,_,xr,_⟩:=id xs
         subst xp xw xK xm xb
         have mk:M.K=X.K:=m.K
         have hps:=xs.ps
         rw [<- m.W] at hps
         refine zqi (qel d7 xr (xs.gl hg) d3 d4 d5 hps (g.2.2 X M xs m) d1 (zqk (zqg hs.1)) (zbb hs.2)) λ σ H Q q=>?_
         have:=qhd d2 q
         rw [mk] at this
         exact this
        ·cases h
       ·cases h
      ·cases h
     ·cases h
     ·cases h
  ·rename_i o at' apos e cpos
   unfold qgm at h
   split at h
   ·rename_i f1 v1 f2 v2 h1 h2
    split at h
    ·rename_i hc
     have g1:=hd _ _ _ h1
     have g2:=hd _ _ _ h2
     have hb:∀ (nm:Str) (X:Cx),vf3 o nm X.env (eval o X.env)=eval o X.env:=λ nm X=>by
      have:=hc.1
      cases o <;> first | rfl | (cases this)
     split at h
     ·rename_i ea
      subst ea
      cases h
      exact zqn (zqu g1.1 g2.1) rfl (λ _ _=>rfl) λ X M xs m=>qhn (m.k xs) (g1.2.2 X M xs m).1 (g2.2.2 X M xs m).1 (hb _ X) (zqk (zqg g2.2.1)) (zzx g2.2.1 X.env cpos) hc.2
     ·split at h
      ·rename_i ea
       subst ea
       cases h
       exact zqn (zqu g1.1 g2.1) rfl (λ _ _=>rfl) λ X M xs m=>qeb (m.k xs) (g1.2.2 X M xs m).1 (g2.2.2 X M xs m).1 (hb _ X) (zqk (zqg g2.2.1)) (zzx g2.2.1 X.env cpos) hc.2
      ·cases h
    ·cases h
   ·cases h
  ·rename_i o at' apos e e2 e3 cpos
   unfold qgk at h
   split at h
   ·rename_i f1 v1 fa u h1 h2
    split at h
    ·rename_i hc
     obtain ⟨hbs,hln,rfl⟩:=hc
     cases h
     have g1:=hd _ _ _ h1
     have g2:=zwm hd _ _ _ h2
     have hb:∀ (nm:Str) (X:Cx),vf3 o nm X.env (eval o X.env)=eval o X.env:=λ nm X=>by
      cases o <;> first | rfl | (cases hbs)
     have n3:zvd e=true/\zvd e2=true/\zvd e3=true:=by simpa using g2.2.1
     have st:∀ env,va3 [e,e2,e3] env=[(false,eval e env),(false,eval e2 env),(false,eval e3 env)]:=λ env=>by rw [zqk (zqg n3.1),zqk (zqg n3.2.1),zqk (zqg n3.2.2)];rfl
     have st2:∀ env,va3 [e2,e3] env=[(false,eval e2 env),(false,eval e3 env)]:=λ env=>by rw [zqk (zqg n3.2.1),zqk (zqg n3.2.2)];rfl
     exact zqn (zqu g1.1 g2.1) rfl (λ _ _=>rfl) λ X M xs m=>qkf (m.k xs) (g1.2.2 X M xs m).1 (g2.2.2 X M xs m) (hb _ X) (zqk (zqg n3.1)) (by rw [st2];rfl) (by rw [st];rfl) hln
    ·cases h
   ·cases h
  ·split at h
   ·rename_i elt tg it ifs scope pos _ _ ys asg iw ht hi
    split at h
    ·rename_i hc
     split at h
     ·rename_i t g vE h1 h2
      cases h
      have ck:=qgq hc.1
      have giw:=zbz hd (zby n S') G.1 hi
      have hS2:∀ i,∀ j∈(zqt S' scope ys iw.vs).alF i,(zqt S' scope ys iw.vs).msF j=false:=λ i j hj=>by
       rw [zph] at hj
       show S'.msF j=false
       split at hj
       ·exact hS i j hj
       ·split at hj
        ·exact giw.1 j hj
        ·cases hj
      have hd2:∀ e f vs,den n (zqt S' scope ys iw.vs) e=some (f,vs)->Good P w K mg base lvl (zqt S' scope ys iw.vs) e f vs:=λ e f vs h=>ih _ e f vs hΓ hΓm hX hS2 h
      exact qc5 ⟨ht,hc.2,ck,giw,hd2 _ _ _ h2,zmv hd2 h1⟩
     ·cases h
    ·cases h
   ·cases h
  ·cases h
end
section
variable {is:List Nat}{M:Fm}{ρ ρ':Rho}{σ σ':St}{H H' H'':Hp}{fps fps' fps'':Fps}{vs vs':List Nat}
def sNo:Fs:=λ _=>.no
theorem qg7 {t:TS}{D:Ends} (hq:tS M sNo D σ H):t D σ H:=by
 obtain ⟨ρ,fps,rep,q⟩:=hq
 exact q.elim
def sUnp (asg:PV->Rho->Option Rho) (f:Fx) (vs:List Nat):Fs:=λ ρ=>match f ρ with
 | .ok (x,d,ρ1)=>(match asg x (zxa d vs ρ1) with
  | some ρ2=>.nx ρ2
  | none=>.no)
 | .exc c=>.exc c
 | .no=>.no
theorem qjy {g:TG}{asg:PV->Rho->Option Rho}{f:Fx}{D:Ends} (hal:∀ i,M.al i=[]) (hv:∀ i∈vs,M.Ms i=false) (hg:GOk M [] is g asg) (hq:tS M (sUnp asg f vs) D σ H):tAsg (tE M f vs) g D σ H:=by
 obtain ⟨ρ,fps,rep,q⟩:=hq
 refine ⟨ρ,fps,rep,?_⟩
 unfold sUnp at q
 cases ef:f ρ with
 | no=>rw [ef] at q;exact q
 | exc c=>rw [ef] at q;exact λ H' fps' k=>q _ H' fps' k.ks
 | ok p=>
  obtain ⟨x,d,ρ1⟩:=p
  rw [ef] at q
  intro v H1 fps1 f1 k1 g1 rep1 o1 t1
  obtain ⟨fps2,k2,r2,o2⟩:=Rep.seen rep k1 g1 rep1 o1 t1 hal hv
  dsimp only at q
  cases ea:asg x (zxa d vs ρ1) with
  | none=>rw [ea] at q;exact q.elim
  | some ρ2=>
   rw [ea] at q
   refine hg x v _ σ H1 fps2 ρ2 _ r2 (o2.weak λ a h=>h.zf) ea λ σ' fps' s1 _ _ r'=>q σ' H1 fps' (k2.trans ⟨λ _ _ h _=>h,λ _ h=>h,λ j a ha=>.inl ⟨j,s1 j a ha⟩⟩) r'
theorem Rep.change {i:Nat}{x x':PV}{d d':Nat}{v:V}{f':List Addr} (hal:∀ i,M.al i=[]) (r:Rep M ρ σ H fps) (hi:ρ[i]?=some (some (x,d))) (hσ:σ[i]?=some (some v)) (k:Keep (λ a=>a∈fps i) H H') (dm:∀ a,H a≠none->H' a≠none) (hs:∀ b∈f',b∈fps i)
  (hm:M.Ms i=true->d'=om) (o:Own M.K H' (Zf M (λ j=>if j=i then f' else fps j)) x' d' v f'):Rep M (ρ.set i (some (x',d'))) σ H' (λ j=>if j=i then f' else fps j):=by
 have hlen:i < ρ.length:=(ja8.mp hi).1
 have inI:∀ j,∀ b∈(if j=i then f' else fps j),b∈fps j:=λ j b hb=>by
  by_cases e:j=i
  ·rw [if_pos e] at hb;rw [e];exact hs b hb
  ·rw [if_neg e] at hb;exact hb
 refine ⟨λ j y c hj=>?_,λ j hj=>?_,λ j k hjk b hb hc=>r.dj j k hjk b (inI j b hb) (inI k b hc),λ j b hb z=>r.zo j b (inI j b hb) z,λ j hj b hb=>r.fr j hj b (inI j b hb),λ b z=>dm b (r.zd b z),by rw [je1];exact r.len,λ j y c hj hc=>?_,λ b z=>dm b (r.h0 b z),r.iov⟩
 ·by_cases ej:j=i
  ·subst ej
   rw [jc2 hlen] at hj
   cases hj
   refine ⟨v,hσ,?_⟩
   rw [if_pos rfl]
   exact o.weak λ a h=>h.zf
  ·rw [jb0 (vc1 ej)] at hj
   obtain ⟨u,hu,ou⟩:=r.own j y c hj
   refine ⟨u,hu,?_⟩
   rw [if_neg ej]
   refine Own.move (S:=λ a=>a∈fps i) k (λ a ha=>⟨.inr ⟨i,(by rw [hal j];intro z;cases z),ha⟩,r.lsts ha⟩) (λ a _ nz z=>nz ?_) y c u (fps j) (λ a ha z=>r.dj j i ej a ha z) ou
   rcases z with z | ⟨l,nl,z⟩
   ·exact .inl z
   ·exact .inr ⟨l,nl,inI l a z⟩
 ·by_cases ej:j=i
  ·subst ej
   exact absurd (jc2 hlen) (hj (x',d'))
  ·rw [if_neg ej]
   exact r.non j λ p hp=>hj p (by rw [jb0 (vc1 ej)];exact hp)
 ·by_cases ej:j=i
  ·subst ej
   rw [jc2 hlen] at hc
   cases hc
   exact hm hj
  ·rw [jb0 (vc1 ej)] at hc
   exact r.msf j y c hj hc
theorem OwnL.full' {K:Frag}{Z Z':Addr->Prop}{xs:List PV}{ws:List V}{f:List Addr} (h:OwnL K H Z xs om ws f):OwnL K H Z' xs om ws f:=OwnL.full xs ws f h
theorem OwnL.row {K:Frag}{Z:Addr->Prop}:∀ {xs:List PV}{ws:List V}{f:List Addr}{p:Nat}{cells:List PV},OwnL K H Z xs om ws f->xs[p]?=some (.lst cells)->∃ a us fc,ws[p]?=some (.ref a)/\H a=some (.lst us)/\a∈f/\OwnL K H Z cells om us fc/\(∀ b∈fc,b∈f)/\a∉fc /\
  ∀ (cells':List PV) (us':List V) (fc':List Addr),OwnL K (upd H a (.lst us')) (λ _=>True) cells' om us' fc'->(∀ b∈fc',b∈fc)->∃ f',(∀ b∈f',b∈f)/\OwnL K (upd H a (.lst us')) (λ _=>True) (xs.set p (.lst cells')) om ws f'
 | [],ws,f,p,cells,h,e=>by cases e
 | x::xs,ws,f,0,cells,h,e=>by
  cases e
  rw [OwnL] at h
  obtain ⟨v,s,f1,f2,rfl,rfl,dj,h1,h2⟩:=h
  obtain ⟨a,us,fc,rfl,ha,rfl,na,ol⟩:=h1.list (by decide:om≠0)
  rw [zko] at ol
  refine ⟨a,us,fc,rfl,ha,by simp,ol,λ b hb=>by simp [hb],na,λ cells' us' fc' o hs=>⟨(a::fc')++f2,λ b hb=>?_,?_⟩⟩
  ·rcases jb3.mp hb with z | z
   ·rcases ja9.mp z with z | z
    ·simp [z]
    ·exact ja4 _ (ja0 _ (hs b z))
   ·exact ja1 _ z
  ·have n2:a∉f2:=dj a ja2
   rw [je8,OwnL]
   refine ⟨.ref a,s,a::fc',f2,rfl,rfl,λ b hb=>?_,?_,?_⟩
   ·rcases ja9.mp hb with z | z
    ·rw [z];exact n2
    ·exact dj b (ja0 _ (hs b z))
   ·rw [Own]
    exact ⟨a,us',rfl,.inr ⟨by decide,fc',zqh,rfl,λ z=>na (hs a z),by rw [zko];exact o⟩⟩
   ·exact (h2.full' (Z':=λ _=>True)).at trivial ⟨.l us,ha⟩ n2 λ _ _ n=>absurd trivial n
 | x::xs,ws,f,p + 1,cells,h,e=>by
  rw [OwnL] at h
  obtain ⟨v,s,f1,f2,rfl,rfl,dj,h1,h2⟩:=h
  obtain ⟨a,us,fc,e1,ha,hf,ol,hs,na,nx⟩:=h2.row (by simpa using e)
  refine ⟨a,us,fc,by simpa using e1,ha,ja1 _ hf,ol,λ b hb=>ja1 _ (hs b hb),na,λ cells' us' fc' o hs'=>?_⟩
  obtain ⟨f',s',o'⟩:=nx cells' us' fc' o hs'
  refine ⟨f1++f',λ b hb=>(jb3.mp hb).elim (λ z=>ja4 _ z) λ z=>ja1 _ (s' b z),?_⟩
  rw [je9,OwnL]
  refine ⟨v,s,f1,f',rfl,rfl,λ b hb z=>dj b hb (s' b z),?_,o'⟩
  exact (Own.full (Z':=λ _=>True) x v f1 h1).at trivial ⟨.l us,ha⟩ (λ z=>dj a z hf) λ _ _ n=>absurd trivial n
theorem OwnL.setF {K:Frag}{Z:Addr->Prop}{y:PV}{d:Nat}{w:V}{fy:List Addr} (hy:Own K H Z y d w fy):∀ {xs:List PV}{ws:List V}{f:List Addr} (k:Nat),OwnL K H Z xs d ws f->(∀ b∈fy,b∉f)->∃ f',(∀ b∈f',b∈f\/b∈fy)/\OwnL K H Z (xs.set k y) d (ws.set k w) f'
 | [],ws,f,k,h,_=>by
  rw [OwnL] at h
  obtain ⟨rfl,rfl⟩:=h
  refine ⟨[],λ _ z=>(nomatch z),?_⟩
  rw [jk1,jk1,OwnL];exact ⟨rfl,rfl⟩
 | x::xs,ws,f,0,h,hd=>by
  rw [OwnL] at h
  obtain ⟨v,s,f1,f2,rfl,rfl,dj,h1,h2⟩:=h
  refine ⟨fy++f2,λ b hb=>(jb3.mp hb).elim .inr λ z=>.inl (ja1 _ z),?_⟩
  rw [je8,je8,OwnL]
  exact ⟨w,s,fy,f2,rfl,rfl,λ b hb z=>hd b hb (ja1 _ z),hy,h2⟩
 | x::xs,ws,f,k + 1,h,hd=>by
  rw [OwnL] at h
  obtain ⟨v,s,f1,f2,rfl,rfl,dj,h1,h2⟩:=h
  obtain ⟨f',hs,h'⟩:=h2.setF hy k λ b hb z=>hd b hb (ja1 _ z)
  refine ⟨f1++f',λ b hb=>(jb3.mp hb).elim (λ z=>.inl (ja4 _ z)) λ z=>(hs b z).elim (λ z=>.inl (ja1 _ z)) .inr,?_⟩
  rw [je9,je9,OwnL]
  exact ⟨v,s.set k w,f1,f',rfl,rfl,λ b hb hc=>(hs b hc).elim (dj b hb) λ z=>hd b z (ja4 _ hb),h1,h'⟩
theorem OwnL.rowP {K:Frag}{Z:Addr->Prop}:∀ {xs:List PV}{ws:List V}{f:List Addr}{p:Nat}{cells:List PV},OwnL K H Z xs om ws f->xs[p]?=some (.lst cells)->∃ a us fc,ws[p]?=some (.ref a)/\H a=some (.lst us)/\a∈f/\OwnL K H Z cells om us fc/\(∀ b∈fc,b∈f)/\a∉fc /\
  ∀ (cells':List PV) (us':List V) (fc' fy:List Addr),OwnL K (upd H a (.lst us')) (λ _=>True) cells' om us' fc'->(∀ b∈fc',b∈fc\/b∈fy)->(∀ b∈fy,b∉f)->∃ f',(∀ b∈f',b∈f\/b∈fy)/\OwnL K (upd H a (.lst us')) (λ _=>True) (xs.set p (.lst cells')) om ws f'
 | [],ws,f,p,cells,h,e=>by cases e
 | x::xs,ws,f,0,cells,h,e=>by
  cases e
  rw [OwnL] at h
  obtain ⟨v,s,f1,f2,rfl,rfl,dj,h1,h2⟩:=h
  obtain ⟨a,us,fc,rfl,ha,rfl,na,ol⟩:=h1.list (by decide:om≠0)
  rw [zko] at ol
  refine ⟨a,us,fc,rfl,ha,by simp,ol,λ b hb=>by simp [hb],na,λ cells' us' fc' fy o hs hy=>⟨(a::fc')++f2,λ b hb=>?_,?_⟩⟩
  ·rcases jb3.mp hb with z | z
   ·rcases ja9.mp z with z | z
    ·simp [z]
    ·exact (hs b z).elim (λ z=>.inl (ja4 _ (ja0 _ z))) .inr
   ·exact .inl (ja1 _ z)
  ·have n2:a∉f2:=dj a ja2
   rw [je8,OwnL]
   refine ⟨.ref a,s,a::fc',f2,rfl,rfl,λ b hb=>?_,?_,?_⟩
   ·rcases ja9.mp hb with z | z
    ·rw [z];exact n2
    ·exact (hs b z).elim (λ z=>dj b (ja0 _ z)) λ z w=>hy b z (ja1 _ w)
   ·rw [Own]
    exact ⟨a,us',rfl,.inr ⟨by decide,fc',zqh,rfl,λ z=>(hs a z).elim na λ z=>hy a z (ja4 _ ja2),by rw [zko];exact o⟩⟩
   ·exact (h2.full' (Z':=λ _=>True)).at trivial ⟨.l us,ha⟩ n2 λ _ _ n=>absurd trivial n
 | x::xs,ws,f,p + 1,cells,h,e=>by
  rw [OwnL] at h
  obtain ⟨v,s,f1,f2,rfl,rfl,dj,h1,h2⟩:=h
  obtain ⟨a,us,fc,e1,ha,hf,ol,hs,na,nx⟩:=h2.rowP (by simpa using e)
  refine ⟨a,us,fc,by simpa using e1,ha,ja1 _ hf,ol,λ b hb=>ja1 _ (hs b hb),na,λ cells' us' fc' fy o hs' hy=>?_⟩
  obtain ⟨f',s',o'⟩:=nx cells' us' fc' fy o hs' λ b hb z=>hy b hb (ja1 _ z)
  refine ⟨f1++f',λ b hb=>(jb3.mp hb).elim (λ z=>.inl (ja4 _ z)) λ z=>(s' b z).elim (λ z=>.inl (ja1 _ z)) .inr,?_⟩
  rw [je9,OwnL]
  refine ⟨v,s,f1,f',rfl,rfl,λ b hb z=>(s' b z).elim (dj b hb) λ z=>hy b z (ja4 _ hb),?_,o'⟩
  exact (Own.full (Z':=λ _=>True) x v f1 h1).at trivial ⟨.l us,ha⟩ (λ z=>dj a z hf) λ _ _ n=>absurd trivial n
def put2 (x:PV) (a b:Int) (y:PV):Option PV:=match x with
 | .lst rows=>(match ixN rows.length a with
  | some p=>(match rows[p]? with
   | some (.lst cells)=>(match ixN cells.length b with
    | some q=>some (.lst (rows.set p (.lst (cells.set q y))))
    | none=>none)
   | _=>none)
  | none=>none)
 | _=>none
def qhu (i:Nat) (fi fj f:Fx):Fs:=λ ρ=>match f ρ with
 | .ok (y,e,ρ1)=>(match ρ1[i]? with
  | some (some (x,d))=>(match fi ρ1 with
   | .ok (.int a,_,ρ2)=>(match fj ρ2 with
    | .ok (.int b,_,ρ3)=>(match put2 x a b y with
     | some x'=>if d=om/\qav y=true then .nx (ρ3.set i (some (x',om))) else if d=om/\e=om then .nx (ρ3.set i (some (x',0))) else .no
     | none=>.no)
    | _=>.no)
   | _=>.no)
  | _=>.no)
 | _=>.no
theorem qbz {x x' y:PV}{a b:Int} (h:put2 x a b y=some x'):∃ rows p cells q,x=.lst rows/\ixN rows.length a=some p/\rows[p]?=some (.lst cells)/\ixN cells.length b=some q/\x'=.lst (rows.set p (.lst (cells.set q y))):=by
 unfold put2 at h
 split at h
 ·rename_i rows
  split at h
  ·rename_i p ep
   split at h
   ·rename_i cells er
    split at h
    ·rename_i q eq
     cases h
     exact ⟨rows,p,cells,q,rfl,ep,er,eq,rfl⟩
    ·cases h
   ·cases h
  ·cases h
 ·cases h
theorem KD.top (k:KD M H fps H' fps') (r:Rep M ρ σ H fps) {i:Nat}{a:Addr}{o:HO} (hm:M.Ms i=false) (ha:a∈fps i) (h:H a=some o):H' a=some o:=
 k.keep a o h λ ⟨j,hj,hb⟩=>r.dj i j (λ e=>by rw [e,hj] at hm;cases hm) a ha hb
theorem qg6 {f fi fj:Fx}{vi vj:List Nat}{i:Nat}{D:Ends} (hal:∀ i,M.al i=[]) (hm:M.Ms i=false) (hq:tS M (qhu i fi fj f) D σ H):tAsg (tE M f vs) (gSub (tOp (rIxL M.K) (tVar i) (tE M fi vi)) (tE M fj vj) qby) D σ H:=by
 obtain ⟨ρ,fps,rep,q⟩:=hq
 refine ⟨ρ,fps,rep,?_⟩
 unfold qhu at q
 cases ef:f ρ with
 | no=>rw [ef] at q;exact q
 | exc c=>rw [ef] at q;exact q.elim
 | ok p0=>
  obtain ⟨y,e,ρ1⟩:=p0
  rw [ef] at q
  intro w H1 fps1 fp k1 g1 rep1 o1 t1
  dsimp only at q
  cases ei:ρ1[i]? with
  | none=>rw [ei] at q;exact q.elim
  | some s1=>
   rw [ei] at q
   cases s1 with
   | none=>exact q.elim
   | some s1=>
    obtain ⟨x1,dx1⟩:=s1
    obtain ⟨v,hσ,_⟩:=rep1.own0 hal i _ _ ei
    dsimp only at q
    refine ⟨v,hσ,ρ1,fps1,rep1,?_⟩
    split at q
    ·rename_i a da ρ2 e1
     rw [e1]
     intro va H2 fps2 fpa k2 g2 rep2 oa ta
     rw [Own] at oa
     obtain ⟨rfl,rfl⟩:=oa
     split at q
     ·rename_i b db ρ3 e2
      split at q
      ·rename_i x' ex
       obtain ⟨rows,p,cells,jq,rfl,ep,er,eq,rfl⟩:=qbz ex
       split at q
       ·rename_i hc
        obtain ⟨rfl,hy⟩:=hc
        obtain ⟨rfl,oy⟩:=Own.flatA (Z':=λ _=>True) (d':=om) hy o1
        have e2i:ρ2[i]?=some (some (.lst rows,om)):=by rw [g2.1 i hm];exact ei
        obtain ⟨v2,hσ2,ol2⟩:=rep2.own0 hal i _ _ e2i
        rw [hσ] at hσ2
        cases hσ2
        obtain ⟨a0,ws,f2,rfl,ha2,hf2,na2,hol2⟩:=ol2.list (by decide:om≠0)
        rw [zko] at hol2
        obtain ⟨r,us,fc,ew,hr,hrf,oc,sc,nrc,_⟩:=hol2.row er
        have hai:a0∈fps2 i:=by rw [hf2];exact ja2
        have hri2:r∈fps2 i:=by rw [hf2];exact ja0 _ hrf
        refine ⟨a0,ws,a,.ref r,rfl,rfl,.inl (.inl ha2),?_,ρ2,fps2,rep2,?_⟩
        ·unfold atI
         rw [hol2.length,ep]
         exact ew
        rw [e2]
        intro vb H3 fps3 fpb k3 g3 rep3 ob tb
        rw [Own] at ob
        obtain ⟨rfl,rfl⟩:=ob
        have e3:ρ3[i]?=some (some (.lst rows,om)):=by rw [g3.1 i hm];exact e2i
        obtain ⟨v3,hσ3,ol3⟩:=rep3.own0 hal i _ _ e3
        rw [hσ] at hσ3
        cases hσ3
        obtain ⟨a',ws3,f3,ev,ha3,hf3,na3,hol3⟩:=ol3.list (by decide:om≠0)
        cases ev
        have hai3:a0∈fps3 i:=by rw [hf3];exact ja2
        have ht:=k3.top rep2 hm hai ha2
        rw [ha3] at ht
        cases ht
        rw [zko] at hol3
        obtain ⟨r',us3,fc3,ew3,hr3,hrf3,oc3,sc3,nrc3,nx⟩:=hol3.row er
        rw [ew] at ew3
        cases ew3
        have hri:r∈fps3 i:=by rw [hf3];exact ja0 _ hrf3
        refine ⟨r,us3,b,jq,rfl,rfl,hr3,by rw [oc3.length];exact eq,?_⟩
        have oy2:Own M.K H2 (λ _=>True) y om w []:=Own.move k2.keep (λ a ⟨_,_,h⟩=>⟨trivial,rep1.lsts h⟩) (λ _ _ n=>absurd trivial n) y om w [] (λ _ z=>nomatch z) oy
        have oy3:Own M.K H3 (λ _=>True) y om w []:=Own.move k3.keep (λ a ⟨_,_,h⟩=>⟨trivial,rep2.lsts h⟩) (λ _ _ n=>absurd trivial n) y om w [] (λ _ z=>nomatch z) oy2
        obtain ⟨fc',sc',oc'⟩:=(oc3.full' (Z':=λ _=>True)).set oy3 jq
        have oc2:OwnL M.K (upd H3 r (.lst (us3.set jq w))) (λ _=>True) (cells.set jq y) om (us3.set jq w) fc':=oc'.at trivial ⟨.l us3,hr3⟩ (λ z=>nrc3 (sc' r z)) λ _ _ n=>absurd trivial n
        obtain ⟨f',s',o'⟩:=nx _ _ fc' oc2 sc'
        have nea:a0≠r:=λ e=>na3 (by rw [e];exact hrf3)
        have dm:∀ b,H3 b≠none->(upd H3 r (.lst (us3.set jq w))) b≠none:=λ b h=>by
         by_cases eb:b=r
         ·rw [eb,zqh];simp
         ·rw [zqf eb];exact h
        have hsub:∀ b∈a0::f',b∈fps3 i:=λ b hb=>by
         rw [hf3]
         exact (ja9.mp hb).elim (λ z=>by rw [z];exact ja2) λ z=>ja0 _ (s' b z)
        have kw:KS M H3 fps3 (upd H3 r (.lst (us3.set jq w))) (λ j=>if j=i then a0::f' else fps3 j):=⟨λ b u hb n=>by rw [zqf (λ e=>n ⟨i,by rw [e];exact hri⟩)];exact hb,dm,λ j b hb=>by
         by_cases ej:j=i
         ·simp only [if_pos ej] at hb;exact .inl ⟨i,hsub b hb⟩
         ·simp only [if_neg ej] at hb;exact .inl ⟨j,hb⟩⟩
        refine q σ _ _ (((k1.ks.trans k2.ks).trans k3.ks).trans kw) (rep3.change hal e3 hσ (λ b u hb n=>by rw [zqf (λ e=>n (by rw [e];exact hri))];exact hb) dm hsub (λ _=>rfl) ?_)
        rw [Own]
        exact ⟨a0,ws,rfl,.inr ⟨by decide,f',by rw [zqf nea];exact ha3,rfl,λ z=>na3 (s' a0 z),o'.full'⟩⟩
       ·split at q
        ·rename_i hc
         obtain ⟨rfl,rfl⟩:=hc
         have oy:Own M.K H1 (λ _=>True) y om w fp:=Own.full _ _ _ o1
         have e2i:ρ2[i]?=some (some (.lst rows,om)):=by rw [g2.1 i hm];exact ei
         obtain ⟨v2,hσ2,ol2⟩:=rep2.own0 hal i _ _ e2i
         rw [hσ] at hσ2
         cases hσ2
         obtain ⟨a0,ws,f2,rfl,ha2,hf2,na2,hol2⟩:=ol2.list (by decide:om≠0)
         rw [zko] at hol2
         obtain ⟨r,us,fc,ew,hr,hrf,oc,sc,nrc,_⟩:=hol2.row er
         have hai:a0∈fps2 i:=by rw [hf2];exact ja2
         refine ⟨a0,ws,a,.ref r,rfl,rfl,.inl (.inl ha2),?_,ρ2,fps2,rep2,?_⟩
         ·unfold atI
          rw [hol2.length,ep]
          exact ew
         rw [e2]
         intro vb H3 fps3 fpb k3 g3 rep3 ob tb
         rw [Own] at ob
         obtain ⟨rfl,rfl⟩:=ob
         have e3:ρ3[i]?=some (some (.lst rows,om)):=by rw [g3.1 i hm];exact e2i
         obtain ⟨v3,hσ3,ol3⟩:=rep3.own0 hal i _ _ e3
         rw [hσ] at hσ3
         cases hσ3
         obtain ⟨a',ws3,f3,ev,ha3,hf3,na3,hol3⟩:=ol3.list (by decide:om≠0)
         cases ev
         have hai3:a0∈fps3 i:=by rw [hf3];exact ja2
         have ht:=k3.top rep2 hm hai ha2
         rw [ha3] at ht
         cases ht
         rw [zko] at hol3
         obtain ⟨r',us3,fc3,ew3,hr3,hrf3,oc3,sc3,nrc3,nx⟩:=hol3.rowP er
         rw [ew] at ew3
         cases ew3
         have hri:r∈fps3 i:=by rw [hf3];exact ja0 _ hrf3
         refine ⟨r,us3,b,jq,rfl,rfl,hr3,by rw [oc3.length];exact eq,?_⟩
         have n2:∀ b∈fp,¬ Zf M fps2 b:=λ b hb z=>by
          rcases z with z | ⟨j,z⟩
          ·exact t1.ndj b hb (.inl z)
          ·rcases k2.sub j b z with z | z
           ·exact t1.ndj b hb (.inr ⟨j,z⟩)
           ·obtain ⟨o,ho⟩:=Own.lsts y _ w fp oy b hb
            rw [ho] at z
            cases z
         have oy2:Own M.K H2 (λ _=>True) y om w fp:=Own.move k2.keep (λ a ⟨_,_,h⟩=>⟨trivial,rep1.lsts h⟩) (λ _ _ n=>absurd trivial n) y om w fp (λ a ha ⟨j,_,hj⟩=>t1.ndj a ha (.inr ⟨j,hj⟩)) oy
         have n3:∀ b∈fp,¬ Zf M fps3 b:=λ b hb z=>by
          rcases z with z | ⟨j,z⟩
          ·exact n2 b hb (.inl z)
          ·rcases k3.sub j b z with z | z
           ·exact n2 b hb (.inr ⟨j,z⟩)
           ·obtain ⟨o,ho⟩:=Own.lsts y _ w fp oy2 b hb
            rw [ho] at z
            cases z
         have oy3:Own M.K H3 (λ _=>True) y om w fp:=Own.move k3.keep (λ a ⟨_,_,h⟩=>⟨trivial,rep2.lsts h⟩) (λ _ _ n=>absurd trivial n) y om w fp (λ a ha ⟨j,_,hj⟩=>n2 a ha (.inr ⟨j,hj⟩)) oy2
         have nfp:∀ b∈fp,b∉f3:=λ b hb z=>n3 b hb (.inr ⟨i,by rw [hf3];exact ja0 _ z⟩)
         obtain ⟨fc',sc',oc'⟩:=(oc3.full' (Z':=λ _=>True)).setF oy3 jq λ b hb z=>nfp b hb (sc3 b z)
         have oc2:OwnL M.K (upd H3 r (.lst (us3.set jq w))) (λ _=>True) (cells.set jq y) om (us3.set jq w) fc':=oc'.at trivial ⟨.l us3,hr3⟩ (λ z=>(sc' r z).elim nrc3 λ z=>nfp r z hrf3) λ _ _ n=>absurd trivial n
         obtain ⟨f',s',o'⟩:=nx _ _ fc' fp oc2 sc' nfp
         have nea:a0≠r:=λ e=>na3 (by rw [e];exact hrf3)
         have dm:∀ b,H3 b≠none->(upd H3 r (.lst (us3.set jq w))) b≠none:=λ b h=>by
          by_cases eb:b=r
          ·rw [eb,zqh];simp
          ·rw [zqf eb];exact h
         have oF:Own M.K (upd H3 r (.lst (us3.set jq w))) (λ _=>True) (.lst (rows.set p (.lst (cells.set jq y)))) om (.ref a0) (a0::f'):=by
          rw [Own]
          exact ⟨a0,ws,rfl,.inr ⟨by decide,f',by rw [zqf nea];exact ha3,rfl,λ z=>(s' a0 z).elim na3 λ z=>n3 a0 z (.inr ⟨i,hai3⟩),by rw [zko];exact o'⟩⟩
         have nz:∀ b∈a0::f',¬ Zf M (λ j=>if j=i then [] else fps3 j) b:=λ b hb z=>by
          have hz:Zf M fps3 b:=by
           rcases z with z | ⟨j,z⟩
           ·exact .inl z
           ·by_cases ej:j=i
            ·simp only [if_pos ej] at z;cases z
            ·simp only [if_neg ej] at z;exact .inr ⟨j,z⟩
          have hin:b∈fps3 i:=by
           rw [hf3]
           rcases ja9.mp hb with e | hb
           ·rw [e];exact ja2
           ·exact (s' b hb).elim (λ z=>ja0 _ z) λ z=>absurd hz (n3 b z)
          rcases z with z | ⟨j,z⟩
          ·exact rep3.zo i b hin z
          ·by_cases ej:j=i
           ·simp only [if_pos ej] at z;cases z
           ·simp only [if_neg ej] at z;exact rep3.dj i j (vc1 ej) b hin z
         have kw:KS M H3 fps3 (upd H3 r (.lst (us3.set jq w))) (λ j=>if j=i then [] else fps3 j):=⟨λ b u hb n=>by rw [zqf (λ e=>n ⟨i,by rw [e];exact hri⟩)];exact hb,dm,λ j b hb=>by
          by_cases ej:j=i
          ·simp only [if_pos ej] at hb;cases hb
          ·simp only [if_neg ej] at hb;exact .inl ⟨j,hb⟩⟩
         refine q σ _ _ (((k1.ks.trans k2.ks).trans k3.ks).trans kw) (rep3.change (f':=[]) hal e3 hσ (λ b u hb n=>by rw [zqf (λ e=>n (by rw [e];exact hri))];exact hb) dm (λ _ z=>nomatch z) (λ h=>by rw [hm] at h;cases h) ?_)
         exact Own.freeze (λ _ _=>trivial) _ _ _ _ nz oF
        ·exact q.elim
      ·exact q.elim
     ·exact q.elim
    ·exact q.elim
theorem qnf {P:va8}{w:vb7}{K:Frag}{mg:Str->Option va0}{base:Heap}{lvl:Nat}{fa:Addr}{fd:vc5}{ps:List Str}{io:Bool}{np:Nat} (h:ps.length=np):FnOk P w K mg base (CXr P w K) lvl fa fd ps (spF K io np (λ _=>.no)):=
 ⟨λ vs H Q E h1=>h1.1.trans h.symm,λ A outer s H args us vs Q E _ _ _ _ h1=>by
  obtain ⟨_,_,_,_,_,_,_,_,_,_,z⟩:=h1
  exact z.elim⟩
end
section
variable {M:Fm}{ρ ρ':Rho}{σ σ':St}{H H' H'':Hp}{fps fps' fps'':Fps}{vs vs':List Nat}
theorem qh5 {i p:Nat}{rows cells:List PV}{v:V} (hal:∀ i,M.al i=[]) (rep:Rep M ρ σ H fps) (e:ρ[i]?=some (some (.lst rows,om))) (hσ:σ[i]?=some (some v)) (er:rows[p]?=some (.lst cells)):
  ∃ a0 ws f r us fc,v=.ref a0/\H a0=some (.lst ws)/\fps i=a0::f/\a0∉f/\OwnL M.K H (Zf M fps) rows om ws f/\ws[p]?=some (.ref r)/\H r=some (.lst us)/\r∈f/\OwnL M.K H (Zf M fps) cells om us fc:=by
 obtain ⟨v2,hσ2,ol⟩:=rep.own0 hal i _ _ e
 rw [hσ] at hσ2
 cases hσ2
 obtain ⟨a0,ws,f,rfl,ha,hf,na,hol⟩:=ol.list (by decide:om≠0)
 rw [zko] at hol
 obtain ⟨r,us,fc,ew,hr,hrf,oc,_⟩:=hol.row er
 exact ⟨a0,ws,f,r,us,fc,rfl,ha,hf,na,hol,ew,hr,hrf,oc⟩
def app2 (x:PV) (a:Int) (y:PV):Option PV:=match x with
 | .lst rows=>(match ixN rows.length a with
  | some p=>(match rows[p]? with
   | some (.lst cells)=>if cells.length < va2 then some (.lst (rows.set p (.lst (cells++[y])))) else none
   | _=>none)
  | none=>none)
 | _=>none
theorem qdz {x x' y:PV}{a:Int} (h:app2 x a y=some x'):∃ rows p cells,x=.lst rows/\ixN rows.length a=some p/\rows[p]?=some (.lst cells)/\cells.length < va2/\x'=.lst (rows.set p (.lst (cells++[y]))):=by
 unfold app2 at h
 split at h
 ·rename_i rows
  split at h
  ·rename_i p ep
   split at h
   ·rename_i cells er
    split at h
    ·rename_i hl
     cases h
     exact ⟨rows,p,cells,rfl,ep,er,hl,rfl⟩
    ·cases h
   ·cases h
  ·cases h
 ·cases h
def qhv (i:Nat) (fi f:Fx):Fs:=λ ρ=>match ρ[i]?,fi ρ with
 | some (some (x,d)),.ok (.int a,_,ρ1)=>(match f ρ1 with
  | .ok (y,_,ρ2)=>(match app2 x a y with
   | some x'=>if d=om/\zvz y=true then .nx (ρ2.set i (some (x',om))) else .no
   | none=>.no)
  | _=>.no)
 | _,_=>.no
theorem qg8 {f fi:Fx}{vi:List Nat}{i:Nat}{D:Ends} (hal:∀ i,M.al i=[]) (hm:M.Ms i=false) (hq:tS M (qhv i fi f) D σ H):qbg (tBM M.K "list" zfn (tOp (rIxL M.K) (tVar i) (tE M fi vi)) (qbh (tE M f vs) tNil)) D σ H:=by
 obtain ⟨ρ,fps,rep,q⟩:=hq
 unfold qhv at q
 split at q
 ·rename_i x d a da ρ1 ei e1
  split at q
  ·rename_i y dy ρ2 e2
   split at q
   ·rename_i x' ex
    split at q
    ·rename_i hc
     obtain ⟨rfl,hy⟩:=hc
     obtain ⟨rows,p,cells,rfl,ep,er,hl,rfl⟩:=qdz ex
     obtain ⟨v,hσ,_⟩:=rep.own0 hal i _ _ ei
     refine ⟨v,hσ,ρ,fps,rep,?_⟩
     rw [e1]
     intro va H1 fps1 fpa k1 g1 rep1 oa ta
     rw [Own] at oa
     obtain ⟨rfl,rfl⟩:=oa
     have ei1:ρ1[i]?=some (some (.lst rows,om)):=by rw [g1.1 i hm];exact ei
     obtain ⟨a0,ws,f1,r,us,fc,rfl,ha1,hf1,na1,hol1,ew,hr1,hrf1,oc1⟩:=qh5 hal rep1 ei1 hσ er
     refine ⟨a0,ws,a,.ref r,rfl,rfl,.inl (.inl ha1),(by unfold atI;rw [hol1.length,ep];exact ew),qa4 (.inl (.inl hr1)),ρ1,fps1,rep1,?_⟩
     rw [e2]
     intro w H2 fps2 fp k2 g2 rep2 oy ty
     obtain ⟨rfl,oy2⟩:=Own.atom (Z':=λ _=>True) (d':=om) hy oy
     have ei2:ρ2[i]?=some (some (.lst rows,om)):=by rw [g2.1 i hm];exact ei1
     obtain ⟨v3,hσ3,ol3⟩:=rep2.own0 hal i _ _ ei2
     rw [hσ] at hσ3
     cases hσ3
     obtain ⟨a',ws3,f3,ev,ha3,hf3,na3,hol3⟩:=ol3.list (by decide:om≠0)
     cases ev
     have ht:=k2.top rep1 hm (show a0∈fps1 i by rw [hf1];exact ja2) ha1
     rw [ha3] at ht
     cases ht
     rw [zko] at hol3
     obtain ⟨r',us3,fc3,ew3,hr3,hrf3,oc3,sc3,nrc3,nx⟩:=hol3.row er
     rw [ew] at ew3
     cases ew3
     have hri:r∈fps2 i:=by rw [hf3];exact ja0 _ hrf3
     refine ⟨r,us3,w,rfl,rfl,hr3,by rw [oc3.length];exact hl,?_⟩
     have oc':OwnL M.K H2 (λ _=>True) (cells++[y]) om (us3++[w]) (fc3++[]):=(oc3.full' (Z':=λ _=>True)).snoc oy2 λ _ _ z=>nomatch z
     rw [jg6] at oc'
     have oc4:OwnL M.K (upd H2 r (.lst (us3++[w]))) (λ _=>True) (cells++[y]) om (us3++[w]) fc3:=oc'.at trivial ⟨.l us3,hr3⟩ nrc3 λ _ _ n=>absurd trivial n
     obtain ⟨f',s',o'⟩:=nx _ _ fc3 oc4 λ _ z=>z
     have nea:a0≠r:=λ e=>na3 (by rw [e];exact hrf3)
     have dm:∀ b,H2 b≠none->(upd H2 r (.lst (us3++[w]))) b≠none:=λ b h=>by
      by_cases eb:b=r
      ·rw [eb,zqh];simp
      ·rw [zqf eb];exact h
     have hsub:∀ b∈a0::f',b∈fps2 i:=λ b hb=>by
      rw [hf3]
      exact (ja9.mp hb).elim (λ z=>by rw [z];exact ja2) λ z=>ja0 _ (s' b z)
     have kw:KS M H2 fps2 (upd H2 r (.lst (us3++[w]))) (λ j=>if j=i then a0::f' else fps2 j):=⟨λ b u hb n=>by rw [zqf (λ e=>n ⟨i,by rw [e];exact hri⟩)];exact hb,dm,λ j b hb=>by
      by_cases ej:j=i
      ·simp only [if_pos ej] at hb;exact .inl ⟨i,hsub b hb⟩
      ·simp only [if_neg ej] at hb;exact .inl ⟨j,hb⟩⟩
     refine q σ _ _ ((k1.ks.trans k2.ks).trans kw) (rep2.change hal ei2 hσ (λ b u hb n=>by rw [zqf (λ e=>n (by rw [e];exact hri))];exact hb) dm hsub (λ _=>rfl) ?_)
     rw [Own]
     exact ⟨a0,ws,rfl,.inr ⟨by decide,f',by rw [zqf nea];exact ha3,rfl,λ z=>na3 (s' a0 z),o'.full'⟩⟩
    ·exact q.elim
   ·exact q.elim
  ·exact q.elim
 ·exact q.elim
end
section
variable {is:List Nat}{M:Fm}{ρ ρ':Rho}{σ σ':St}{H H' H'':Hp}{fps fps' fps'':Fps}{vs vs':List Nat}{D:Ends}
end
section
variable {is:List Nat}{M:Fm}{ρ ρ':Rho}{σ σ':St}{H H' H'':Hp}{fps fps' fps'':Fps}{vs vs':List Nat}{D:Ends}
end
section
variable {M:Fm}{ρ ρ':Rho}{σ σ':St}{H H':Hp}{fps fps':Fps}{F F':Addr->Prop}{P P':List (Nat×V)}
end
section
variable {is:List Nat}{X:Cx}{M:Fm}{ρ ρ':Rho}{σ σ':St}{H H' H'':Hp}{fps fps' fps'':Fps}{vs vs':List Nat}{D:Ends}
def qkx:TSet:=λ o i v H Q=>∃ a H',o=.ref a/\DPut H a i v H'/\Q H'
def qmw:TSet:=λ o i v H Q=>qby o i v H Q\/qkx o i v H Q
theorem qms (hu:X.A.units + 1 < vf1):PSet X qkx:=by
 intro pins s σ H o i v ov iv u Q I ro ri rv h
 obtain ⟨a,H',rfl,g,q⟩:=h
 obtain rfl:ov=Value.ref a:=ro
 exact qdf hu I g ri rv λ s' I'=>⟨H',I',q⟩
theorem PSet.or {t t':TSet} (h:PSet X t) (h':PSet X t'):PSet X (λ o i v H Q=>t o i v H Q\/t' o i v H Q):=by
 intro pins s σ H o i v ov iv u Q I ro ri rv q
 rcases q with q | q
 ·exact h pins s σ H o i v ov iv u Q I ro ri rv q
 ·exact h' pins s σ H o i v ov iv u Q I ro ri rv q
theorem qkr {K:Frag}{Z:Addr->Prop}{y:PV}{u:V}{d:Nat}{w:V}{fp:List Addr} (h:sV y=some u) (o:Own K H Z y d w fp):w=u/\zvz y=true:=by
 cases y <;> cases h <;> (rw [Own] at o;exact ⟨o.1,rfl⟩)
def putX (x:PV) (k y:PV):Option PV:=match x,k with
 | .lst xs,.int i=>(match ixN xs.length i with
  | some j=>some (.lst (xs.set j y))
  | none=>none)
 | .dct kvs,.tup ks=>(match keyL ks,sV y with
  | some k,some u=>if kvs.length < va2 then some (.dct (putK kvs k u)) else none
  | _,_=>none)
 | _,_=>none
def isL:PV->Bool
 | .lst _=>true
 | _=>false
def qhs (i:Nat) (fk f:Fx):Fs:=λ ρ=>match f ρ with
 | .ok (y,e,ρ1)=>(match ρ1[i]? with
  | some (some _)=>(match fk ρ1 with
   | .ok (k,_,ρ2)=>(match ρ2[i]? with
    | some (some (x,d))=>(match putX x k y with
     | some x'=>if d≠0/\qav y=true then .nx (ρ2.set i (some (x',d))) else if d≠0/\e=om/\isL x=true then .nx (ρ2.set i (some (x',1))) else .no
     | none=>.no)
    | _=>.no)
   | _=>.no)
  | _=>.no)
 | .exc c=>.exc c
 | .no=>.no
theorem Rep.poke {i:Nat}{x x':PV}{d:Nat}{a:Addr}{o':HO}{f':List Addr}{H0:Hp}{fps0:Fps} (hal:∀ i,M.al i=[]) (k0:KS M H0 fps0 H fps) (r:Rep M ρ σ H fps) (hi:ρ[i]?=some (some (x,d))) (hσ:σ[i]?=some (some (.ref a))) (ha:a∈fps i) (hs:∀ b∈f',b∈fps i)
  (o:Own M.K (upd H a o') (Zf M (λ j=>if j=i then f' else fps j)) x' d (.ref a) f'):KS M H0 fps0 (upd H a o') (λ j=>if j=i then f' else fps j)/\Rep M (ρ.set i (some (x',d))) σ (upd H a o') (λ j=>if j=i then f' else fps j):=by
 have dm:∀ b,H b≠none->upd H a o' b≠none:=λ b hb=>by
  by_cases eb:b=a
  ·rw [eb,zqh];simp
  ·rw [zqf eb];exact hb
 refine ⟨⟨λ b u hb n=>?_,λ b hb=>dm b (k0.dom b hb),λ j b hb=>?_⟩,r.change hal hi hσ (λ b u hb n=>?_) dm hs (λ h=>r.msf i _ _ h hi) o⟩
 ·have hb1:=k0.keep b u hb n
  rw [zqf]
  ·exact hb1
  ·rintro rfl
   rcases k0.sub i b ha with z | z
   ·exact n z
   ·rw [z] at hb;cases hb
 ·by_cases ej:j=i
  ·simp only [if_pos ej] at hb;exact k0.sub i b (hs b hb)
  ·simp only [if_neg ej] at hb;exact k0.sub j b hb
 ·rw [zqf]
  ·exact hb
  ·rintro rfl;exact n ha
theorem qg4 {f fk:Fx}{vk:List Nat}{i:Nat} (hal:∀ i,M.al i=[]) (hm:M.Ms i=false) (hv:∀ i∈vs,M.Ms i=false) (hq:tS M (qhs i fk f) D σ H):tAsg (tE M f vs) (gSub (tVar i) (tE M fk vk) qmw) D σ H:=by
 obtain ⟨ρ,fps,rep,q⟩:=hq
 refine ⟨ρ,fps,rep,?_⟩
 unfold qhs at q
 cases ef:f ρ with
 | no=>rw [ef] at q;exact q
 | exc c=>rw [ef] at q;exact λ H' fps' k=>q _ H' fps' k.ks
 | ok p=>
  obtain ⟨y,e,ρ1⟩:=p
  rw [ef] at q
  intro w H1 fps1 fp k1 g1 rep1 o1 t1
  dsimp only at q
  cases e1:ρ1[i]? with
  | none=>rw [e1] at q;exact q.elim
  | some s1=>
   rw [e1] at q
   cases s1 with
   | none=>exact q.elim
   | some p1=>
   obtain ⟨x1,d1⟩:=p1
   dsimp only at q
   obtain ⟨v0,hσ,_⟩:=rep1.own i _ _ e1
   refine ⟨v0,hσ,ρ1,fps1,rep1,?_⟩
   cases ek:fk ρ1 with
   | no=>rw [ek] at q;exact q.elim
   | exc c=>rw [ek] at q;exact q.elim
   | ok p2=>
    obtain ⟨k,ek',ρ2⟩:=p2
    rw [ek] at q
    intro kv H2 fps2 f2 k2 g2 rep2 o2 t2
    dsimp only at q
    cases e2:ρ2[i]? with
    | none=>rw [e2] at q;exact q.elim
    | some s2=>
     rw [e2] at q
     cases s2 with
     | none=>exact q.elim
     | some p3=>
      obtain ⟨x,d⟩:=p3
      dsimp only at q
      cases ep:putX x k y with
      | none=>rw [ep] at q;exact q.elim
      | some x'=>
       rw [ep] at q
       dsimp only at q
       split at q
       ·rename_i hc
        obtain ⟨hd,hy⟩:=hc
        obtain ⟨v1,hσ1,ox⟩:=rep2.own0 hal i _ _ e2
        rw [hσ] at hσ1
        cases hσ1
        have k12:KS M H fps H2 fps2:=k1.ks.trans k2.ks
        unfold putX at ep
        split at ep
        ·rename_i xs n
         split at ep
         ·rename_i j ej
          cases ep
          rw [Own] at o2
          obtain ⟨rfl,_⟩:=o2
          obtain ⟨a,ws,fc,rfl,ha,hfp,nac,hol⟩:=ox.list hd
          have hai:a∈fps2 i:=by rw [hfp];exact ja2
          have ow:Own M.K H2 (Zf M fps2) y (pd d) w []:=(Own.flatA (d':=pd d) hy (k2.stay rep1 hv o1 t1.ndj)).2
          obtain ⟨fc',hs',hset⟩:=hol.set ow j
          have inI:∀ b,b∈a::fc'->b∈fps2 i:=λ b hb=>(ja9.mp hb).elim (λ z=>by rw [z];exact hai) λ z=>by rw [hfp];exact ja0 _ (hs' b z)
          have nz:∀ b,Zf M (λ j=>if j=i then a::fc' else fps2 j) b->Zf M fps2 b:=λ b h=>by
           rcases h with z | ⟨j,z⟩
           ·exact .inl z
           ·by_cases ej:j=i
            ·simp only [if_pos ej] at z;exact .inr ⟨i,inI b z⟩
            ·simp only [if_neg ej] at z;exact .inr ⟨j,z⟩
          refine .inl ⟨a,ws,n,j,rfl,rfl,ha,by rw [hol.length];exact ej,?_⟩
          have pk:=rep2.poke (o':=.lst (ws.set j w)) (x':=.lst (xs.set j y)) (f':=a::fc') hal k12 e2 hσ hai inI (by
           rw [Own]
           exact ⟨a,_,rfl,.inr ⟨hd,fc',zqh,rfl,λ z=>nac (hs' a z),hset.at (.inr ⟨i,hai⟩) ⟨.l ws,ha⟩ (λ z=>nac (hs' a z)) λ b _ n z=>n (nz b z)⟩⟩)
          exact q σ _ _ pk.1 pk.2
         ·cases ep
        ·rename_i kvs ks
         split at ep
         ·rename_i kk u ekk eu
          split at ep
          ·rename_i hl
           cases ep
           obtain ⟨rfl,_⟩:=qkr eu o1
           rw [Own] at o2
           obtain ⟨b,ws,rfl,hb,ol⟩:=o2
           have:=zkt ekk ol
           subst this
           have hx:∃ a,v0=.ref a/\H2 a=some (.dT kvs)/\fps2 i=[a]:=by
            rw [Own] at ox
            obtain ⟨a,ea,⟨d0,_⟩ | ⟨_,ha,hf⟩⟩:=ox
            ·exact absurd d0 hd
            ·exact ⟨a,ea,ha,hf⟩
           obtain ⟨a,rfl,ha,hf⟩:=hx
           have hai:a∈fps2 i:=by rw [hf];exact ja2
           refine .inr ⟨a,_,rfl,DPut.t ha hb hl,?_⟩
           have pk:=rep2.poke (o':=.dT (putK kvs kk w)) (x':=.dct (putK kvs kk w)) (f':=[a]) hal k12 e2 hσ hai (λ b hb=>by rw [jb1.mp hb];exact hai) (by
            rw [Own]
            exact ⟨a,rfl,.inr ⟨hd,zqh,rfl⟩⟩)
           exact q σ _ _ pk.1 pk.2
          ·cases ep
         ·cases ep
        ·cases ep
       ·split at q
        ·rename_i hc
         obtain ⟨hd,rfl,hx⟩:=hc
         obtain ⟨v1,hσ1,ox⟩:=rep2.own0 hal i _ _ e2
         rw [hσ] at hσ1
         cases hσ1
         cases x with
         | lst xs=>
          unfold putX at ep
          cases k with
          | int n=>
           dsimp only at ep
           split at ep
           ·rename_i j ej
            cases ep
            rw [Own] at o2
            obtain ⟨rfl,_⟩:=o2
            obtain ⟨a,ws,fc,rfl,ha,hfp,nac,hol⟩:=ox.list hd
            have hai:a∈fps2 i:=by rw [hfp];exact ja2
            have oy:=k2.stay rep1 hv o1 t1.ndj
            have n2:∀ b∈fp,¬ Zf M fps2 b:=λ b hb z=>by
             rcases z with z | ⟨j,z⟩
             ·exact t1.ndj b hb (.inl z)
             ·rcases k2.sub j b z with z | z
              ·exact t1.ndj b hb (.inr ⟨j,z⟩)
              ·obtain ⟨o,ho⟩:=Own.lsts y _ w fp o1 b hb
               rw [ho] at z
               cases z
            have hafp:a∉fp:=λ z=>n2 a z (.inr ⟨i,hai⟩)
            have hst:∃ j,a∈fps j:=⟨i,by have:=(k1.trans k2).same i hm;rw [<- this];exact hai⟩
            have rw2:Rep (M.plus fp) ρ2 σ H2 fps2:=rep.wide (λ i j hj=>by rw [hal i] at hj;cases hj) (k1.trans k2) (g1.trans g2) rep2 λ b hb=>⟨t1.new b hb,by obtain ⟨o,ho⟩:=Own.lsts y _ w fp oy b hb;rw [ho];simp,n2 b hb⟩
            have h2:∀ b∈fp,M.H₀ b=none/\¬ M.Zo b:=λ b hb=>⟨rep.h0' (t1.new b hb),λ z=>n2 b hb (.inl z)⟩
            let Z:Addr->Prop:=Zf M (λ j=>if j=i then [a] else fps2 j)
            have zsub:∀ b,Z b->Zf M fps2 b:=λ b h=>by
             rcases h with z | ⟨j,z⟩
             ·exact .inl z
             ·by_cases ej:j=i
              ·simp only [if_pos ej] at z
               rw [jb1.mp z]
               exact .inr ⟨i,hai⟩
              ·simp only [if_neg ej] at z;exact .inr ⟨j,z⟩
            have nf:∀ b∈fc,¬ Z b:=λ b hb z=>by
             have hbi:b∈fps2 i:=by rw [hfp];exact ja0 _ hb
             rcases z with z | ⟨j,z⟩
             ·exact rep2.zo i b hbi z
             ·by_cases ej:j=i
              ·simp only [if_pos ej] at z
               rw [jb1.mp z] at hb;exact nac hb
              ·simp only [if_neg ej] at z;exact rep2.dj i j (vc1 ej) b hbi z
            have za:Z a:=.inr ⟨i,by simp⟩
            have u1:=OwnL.freeze (Z':=Z) zsub xs _ ws fc nf hol
            have u2:=Own.freeze (Z':=Z) (λ b _=>trivial) y _ w fp (λ b hb z=>n2 b hb (zsub b z)) (Own.full (Z':=λ _=>True) y w fp oy)
            obtain ⟨f',hs',u3⟩:=(u1.at za ⟨.l ws,ha⟩ (λ z=>nomatch z) λ _ _ n=>n).set (u2.at (o:=.lst (ws.set j w)) za ⟨.l ws,ha⟩ (λ z=>nomatch z) λ _ _ n=>n) j
            obtain rfl:f'=[]:=jh6.mpr λ b hb=>nomatch hs' b hb
            refine .inl ⟨a,ws,n,j,rfl,rfl,ha,by rw [hol.length];exact ej,?_⟩
            refine q σ _ _ ((k1.ks.trans k2.ks).write (i:=i) (f':=[]) (fp:=fp) hst λ b hb=>?_) (rw2.rewrite hal e2 hσ ha hfp (λ z=>nomatch z) (λ b hb=>nomatch hb) (by decide) (λ h=>by rw [hm] at h;cases h) h2 ?_)
            ·rcases ja9.mp hb with z | z
             ·exact .inl (by rw [z];exact hai)
             ·cases z
            ·rw [zmb]
             exact u3
           ·cases ep
          | _=>cases ep
         | _=>cases hx
        ·exact q.elim
def qht (i j:Nat) (f:Fx) (vs:List Nat):Fs:=λ ρ=>match f ρ with
 | .ok (y,e,ρ1)=>(match (zxa e vs ρ1)[i]? with
  | some (some (.lst xs,d))=>(match (zxa e vs ρ1)[j]? with
   | some (some (.int k,_))=>(match ixN xs.length k with
    | some n=>if d≠0 then .nx ((zxa e vs ρ1).set i (some (.lst (xs.set n y),1))) else .no
    | none=>.no)
   | _=>.no)
  | _=>.no)
 | .exc c=>.exc c
 | .no=>.no
theorem qg5 {f:Fx}{i j:Nat} (hal:∀ i,M.al i=[]) (hv:∀ i∈vs,M.Ms i=false) (hm:M.Ms i=false) (hq:tS M (qht i j f vs) D σ H):tAsg (tE M f vs) (gSub (tVar i) (tVar j) qby) D σ H:=by
 obtain ⟨ρ,fps,rep,q⟩:=hq
 refine ⟨ρ,fps,rep,?_⟩
 unfold qht at q
 cases ef:f ρ with
 | no=>rw [ef] at q;exact q
 | exc c=>rw [ef] at q;exact λ H' fps' k=>q _ H' fps' k.ks
 | ok p=>
  obtain ⟨y,e,ρ1⟩:=p
  rw [ef] at q
  intro w H1 fps1 fp k1 g1 rep1 o1 t1
  dsimp only at q
  split at q
  ·rename_i xs d es
   split at q
   ·rename_i k dk ek
    split at q
    ·rename_i n en
     split at q
     ·rename_i hd
      obtain ⟨fps2,k2,r2,o2,n2,s2,h2⟩:=Rep.behind rep k1 g1 rep1 o1 t1 hal hv
      obtain ⟨v',hσ,ol⟩:=r2.own0 hal i _ _ es
      obtain ⟨a,ws,fc,rfl,ha,hfp,nac,hol⟩:=ol.list hd
      obtain ⟨vk,hσk,ok⟩:=r2.own0 hal j _ _ ek
      rw [Own] at ok
      obtain ⟨rfl,_⟩:=ok
      have hai:a∈fps2 i:=by rw [hfp];exact ja2
      have hafp:a∉fp:=λ z=>n2 a z (.inr ⟨i,hai⟩)
      have hst:∃ j,a∈fps j:=⟨i,by have:=s2 i a hai;rw [k1.same i hm] at this;exact this⟩
      refine ⟨_,hσ,_,hσk,a,ws,k,n,rfl,rfl,ha,by rw [hol.length];exact en,?_⟩
      refine q σ _ _ (k2.write (i:=i) (f':=[]) (fp:=fp) hst λ b hb=>?_) (r2.rewrite hal es hσ ha hfp (λ z=>nomatch z) (λ b hb=>nomatch hb) (by decide) (λ h=>by rw [hm] at h;cases h) h2 ?_)
      ·rcases ja9.mp hb with z | z
       ·exact .inl (by rw [z];exact hai)
       ·cases z
      ·rw [zmb]
       have zsub:∀ b,Zf M (λ j=>if j=i then [a] else fps2 j) b->Zf (M.plus fp) fps2 b:=λ b h=>by
        rcases h with z | ⟨j,z⟩
        ·exact .inl (.inl z)
        ·by_cases ej:j=i
         ·simp only [if_pos ej] at z
          rw [jb1.mp z]
          exact .inr ⟨i,hai⟩
         ·simp only [if_neg ej] at z;exact .inr ⟨j,z⟩
       have nf:∀ b∈fc,¬ Zf M (λ j=>if j=i then [a] else fps2 j) b:=λ b hb z=>by
        have hbi:b∈fps2 i:=by rw [hfp];exact ja0 _ hb
        rcases z with z | ⟨j,z⟩
        ·exact r2.zo i b hbi (.inl z)
        ·by_cases ej:j=i
         ·simp only [if_pos ej] at z
          rw [jb1.mp z] at hb;exact nac hb
         ·simp only [if_neg ej] at z;exact r2.dj i j (vc1 ej) b hbi z
       have nfp:∀ b∈fp,¬ Zf M (λ j=>if j=i then [a] else fps2 j) b:=λ b hb z=>by
        rcases z with z | ⟨j,z⟩
        ·exact n2 b hb (.inl z)
        ·by_cases ej:j=i
         ·simp only [if_pos ej] at z
          rw [jb1.mp z] at hb;exact hafp hb
         ·simp only [if_neg ej] at z;exact n2 b hb (.inr ⟨j,z⟩)
       have za:Zf M (λ j=>if j=i then [a] else fps2 j) a:=.inr ⟨i,by simp⟩
       have u1:=(OwnL.freeze (Z':=Zf M (λ j=>if j=i then [a] else fps2 j)) zsub xs _ ws fc nf hol)
       have u2:=(Own.freeze (Z':=Zf M (λ j=>if j=i then [a] else fps2 j)) (λ b h=>by
        rcases h with z | ⟨j,z⟩
        ·exact .inl (.inl z)
        ·by_cases ej:j=i
         ·simp only [if_pos ej] at z
          rw [jb1.mp z]
          exact .inl (.inr ⟨i,hai⟩)
         ·simp only [if_neg ej] at z;exact .inl (.inr ⟨j,z⟩)) y _ w fp nfp o2)
       obtain ⟨f',hs',u3⟩:=(u1.at za ⟨.l ws,ha⟩ (λ z=>nomatch z) λ _ _ n=>n).set (u2.at (o:=.lst (ws.set n w)) za ⟨.l ws,ha⟩ (λ z=>nomatch z) λ _ _ n=>n) n
       obtain rfl:f'=[]:=jh6.mpr λ b hb=>nomatch hs' b hb
       exact u3
     ·exact q.elim
    ·exact q.elim
   ·exact q.elim
  ·exact q.elim
end
section
variable {X:Cx}{W:St->Nat->Hp->Prop}
theorem qeg (hr:zgj X W) (t:xTab X.K=true) (hcalm:X.calm=true) {c:Nat}{C:Addr}{x m:Str}{np cpos pos p:Pos}{j:_} (e:zxu X.K c=some C) (hg:Gl X x) (hm:X.mg x=some (.ref C)) (hdb:(x == ("__debug__" : Str))=false):
  PS X (.Raise (some (.Call (.Name x np) [.Constant (.str m) j p] [] cpos)) none pos) (λ D σ H=>W σ c H):=by
 intro pins s σ H D I h
 obtain ⟨bm,N,nm,q,bs,hdct,sn,sub,ab,col,dd,k0,k1,k2,k3,k5,mN,hC,hN,hni,T,_⟩:=(qgt I.ok.mod.kin t e).obj
 have FB:=PySem.F.excBase_ValueError
 have he:va3 [Expr.Constant (.str m) j p] X.env=(false,eval (.Constant (.str m) j p) X.env)::va3 [] X.env:=rfl
 refine wpAny_Raise_call_subU (C:=C) (nm:=nm) (q:=q) (N:=N) (bs:=bs) (bm:=bm) (hdct:=hdct) (sn:=sn) (sub:=sub) (ab:=ab) (col:=col) (dd:=dd) (k0:=k0) (k1:=k1) (k2:=k2) (k3:=k3) (k5:=k5)
  FB (show bmV.contains (.type "ValueError")=true by decide +kernel) FB (mN:=mN) (T.hasType FB.hasBase) (I.ok.hd hcalm) rfl hni (zbt I hg hm ⟨rfl,?_⟩ hdb)
 rw [he]
 refine Calls.evalArgs_plain (vd1 ((zxp qb7 zvc (by rfl)) cpos pins s σ H (λ vs H'=>H'=H/\vs.length=1) I ⟨rfl,rfl⟩) (λ us s2 hu=>?_) λ _ _ y=>y)
 obtain ⟨vs,H2,I2,rv,eH,hl⟩:=hu
 subst eH
 refine ⟨rfl,?_,I2.bk _ _ hC,hN.keeps I2.bk,T.keeps I2.bk,λ h' a hx=>hr pins σ H2 s2 c C a h' us I2 e hx h⟩
 show us.length<=va2
 rw [<- rv.length,hl]
 decide
end
section
variable {X:Cx}{pins pins1:List (Addr×Obj)}{σ:St}{H:Hp}{s:va1}{e:va0->va1->Prop}
theorem Cx.Ok.wish2 {p:List (Addr×Obj)} (o:X.Ok):L2.Cx.Ok { X with pn:=p,xe:=e }:=⟨o.mod,o.kind,o.glob,o.blt,o.above,o.inj,o.has,o.cab,o.hd,o.frames,o.stk,o.exf,o.bs,o.bsz,o.noex,o.exfs,o.funs,o.frf⟩
theorem Inv.into (I:L2.Inv X pins σ H s):L2.Inv { X with pn:=X.pn++pins,xe:=e } [] σ H s:=
 ⟨Cx.Ok.wish2 I.ok,I.os,I.bare,I.base,I.loc,I.cell,I.free,I.freeC,λ p hp=>I.pin p (by simpa using hp),I.hok,I.len⟩
theorem Inv.outof (ok:X.Ok) (I:L2.Inv { X with pn:=X.pn++pins,xe:=e } pins1 σ H s):L2.Inv X pins σ H s:=
 ⟨ok,I.os,I.bare,I.base,I.loc,I.cell,I.free,I.freeC,λ p hp=>I.pin p (ja4 _ hp),I.hok,I.len⟩
abbrev Cx.inh (X:Cx) (v:va0):Cx:={ X with A:=X.A.mark (some v),calm:=false,xe:=λ _ _=>False }
theorem Inv.inh (v:va0) (I:L2.Inv X pins σ H s):L2.Inv (Cx.inh X v) pins σ H s:=
 ⟨⟨I.ok.mod,I.ok.kind,I.ok.glob,I.ok.blt,I.ok.above,I.ok.inj,I.ok.has,I.ok.cab,(λ h=>nomatch h),I.ok.frames,I.ok.stk,I.ok.exf,I.ok.bs,I.ok.bsz,I.ok.noex,I.ok.exfs,I.ok.funs,I.ok.frf⟩,I.os,I.bare,I.base,I.loc,I.cell,I.free,I.freeC,I.pin,I.hok,I.len⟩
theorem Inv.outh {v:va0} (ok:X.Ok) (I:L2.Inv (Cx.inh X v) pins σ H s):L2.Inv X pins σ H s:=
 ⟨ok,I.os,I.bare,I.base,I.loc,I.cell,I.free,I.freeC,I.pin,I.hok,I.len⟩
theorem qit {M:Model}{A:vc0}{E:va0->va1->Prop}{i:Nat}{x:Str}{pos:Pos}{Q:Unit->va1->Prop} (I:L2.Inv X pins σ H s) (hN:X.N.Nodup) (hi:X.N[i]?=some x) (hk:X.env.kindOf x=some .local)
  (h:∀ s',L2.Inv X pins (σ.set i none) H s'->Q () s'):vb2 M A (do bindName X.env x .none;unbindBehindTheSuite X.env x pos) Q E s:=by
 obtain ⟨m,hn,hl⟩:=id I.loc
 have hcls:(X.env.scope.kind == .class || (X.env.scope.kind == .module && X.env.locals != X.env.globals))=false:=by rw [I.ok.kind];rfl
 have hiσ:i < σ.length:=by rw [I.len];exact (ja8.mp hi).1
 have cne:=I.cne
 refine wpAny_nameGoes_keeps hk hn hcls λ h' v hn' hs=>?_
 have tracked:HOk X.prog X.w H h':=λ b ob e=>by
  refine (I.hok b ob e).stay (λ c w' hc q=>(hs.2 c ?_).trans q) (λ _ q=>q) λ _ _ q=>q
  rintro rfl
  rcases hc with rfl | hc
  ·rw [I.free] at e;cases e
  ·rw [I.free] at hc;cases hc
 refine h _ ⟨I.ok,I.os,I.bare,⟨λ b o e n hb hx=>?_,λ b o e n hb hx=>?_,I.base.free,λ b o e hx=>?_,I.base.tups,I.base.frzs,I.base.tbls⟩,⟨_,hn',λ j y v' e1 e2 e3=>?_⟩,λ y c e=>?_,I.free,I.freeC,λ p hp=>?_,tracked,by simpa using I.len⟩
 ·exact (hs.2 b (jc3 (ja7 (va5 e) I.ok.above))).trans (I.base.keep b o e n hb hx)
 ·obtain ⟨sl,e1⟩:=I.base.slot b o e n hb hx
  exact ⟨sl,(hs.2 b (jc3 (ja7 (va5 e) I.ok.above))).trans e1⟩
 ·obtain ⟨o',e1⟩:=I.base.there b o e hx
  exact ⟨o',(hs.2 b (jc3 (ja7 (va5 e) I.ok.above))).trans e1⟩
 ·by_cases hj:j=i
  ·subst hj
   rw [jc2 hiσ] at e2
   cases e2
  ·rw [jb0 (vc1 hj)] at e2
   obtain ⟨u',r',q⟩:=hl j y v' e1 e2 e3
   refine ⟨u',r',?_⟩
   rcases q with ⟨k,e⟩ | ⟨k,c,e,z⟩
   ·refine .inl ⟨k,?_⟩
    have:y≠x:=λ e=>hj (zbq hN e1 (e ▸ hi))
    simp [this,e]
   ·exact .inr ⟨k,c,e,z.sameBut hs (cne y c e)⟩
 ·obtain ⟨w',z⟩:=I.cell y c e
  exact ⟨w',z.sameBut hs (cne y c e)⟩
 ·obtain ⟨e,n,ne,nf,d⟩:=I.pin p hp
  exact ⟨(hs.2 p.1 ne).trans e,n,ne,nf,d⟩
end
section
variable {M:Model}{A:vc0}{E:va0->va1->Prop}{K:Frag}
theorem qc7 {s:va1}{a C D:Addr}{c d:Nat}{Q:Bool->va1->Prop} (xc:XC s.heap K c C) (xd:XC s.heap K d D) (ed:zxu K d=some D) (he:zkp a C s.heap) (hq:Q (isX c d) s):vb2 M A (excMatches (.ref a) (.ref D)) Q E s:=by
 obtain ⟨bm,N,nm,q,bs,hdct,sn,sub,ab,col,dd,k0,k1,k2,k3,k5,mN,hC,hN,hni,T,hin⟩:=xc.obj
 obtain ⟨bm',N',nm',q',bs',hdct',sn',sub',ab',col',dd',k0',k1',k2',k3',k5',mN',hD,hN',hni',T',_⟩:=xd.obj
 obtain ⟨oe,vs,hoe,hcls,hdt⟩:=he
 have hcB:(Value.ref D::bm').contains (.type "BaseException")=true:=by rw [List.contains_cons,T'.hasType PySem.F.excBase_ValueError.hasBase,jn4]
 have hcC:=hin d D ed
 have f:=tc_notTuple
 obtain ⟨h,g,dr,t,os⟩:=s
 unfold excMatches
 repeat (first | (with_reducible refine ve7 hoe ?_;rw [hcls]) | with_reducible refine ve7 hD ?_ | (with_reducible refine wpAny_isSubtype_exc hD ?_;rw [hcB]) | (with_reducible refine wpAny_isSubtype_exc hC ?_;rw [hcC]) | wp_step)
 cases hb:isX c d <;> (rw [hb] at hq;wp_walk;exact hq)
end
section
variable {X:Cx}{pins:List (Addr×Obj)}{σ:St}{H H1:Hp}{s:va1}{B:Heap}{a C:Addr}{a0:va0}{c:Nat}
theorem zjo {s':va1}{h:Heap} (I:L2.Inv X pins σ H s) (un:Un (frs X.stack) [] H H1 s.heap s'.heap) (hok:HOk X.prog X.w H1 s'.heap) (fl:vk0 B X.stack a (.ref C) a0 h) (up:s'.heap.UpToSlots h)
  (i1:∀ b o,s'.heap.get? b=some o->H1 b≠none->B.get? b=some o) (i2:∀ b o,s.heap.get? b=some o->H b=none->b∉frs X.stack->B.get? b=some o) (ha:H1 a=none) (hn:s.heap.get? a=none) (hd:∀ b,H b≠none->H1 b≠none) (ho:s'.os=s.os) (hg:vg4 s'.gens):
  L2.Inv X pins σ (upd H1 a (.ext (zkp a C))) { s' with heap:=h }/\zkp a C h:=by
 have ex:zkp a C h:=by
  obtain ⟨oe,vs,e1,e2,e3,_⟩:=fl.first
  exact ⟨oe,vs,e1,e2,e3⟩
 have trk:∀ b v,H1 b≠none->s'.heap.get? b=some v->h.get? b=some v:=λ b v hb e=>fl.1 b v (i1 b v e hb)
 have nea:∀ b o,s.heap.get? b=some o->b≠a:=λ b o e z=>by rw [z,hn] at e;cases e
 have nea1:∀ b o,H1 b=some o->b≠a:=λ b o e z=>by rw [z,ha] at e;cases e
 have fr:∀ b o,s.heap.get? b=some o->H b=none->b∈frs X.stack->∃ sl,h.get? b=some { o with slots:=sl }:=λ b o e n hb=>by
  obtain ⟨sl,e2⟩:=un.any e n (by simp)
  obtain ⟨_,o',ho',hnf⟩:=I.stack.mem hb
  rw [e] at ho';cases ho'
  obtain ⟨sl2,e3⟩:=up b _ e2 hnf
  exact ⟨sl2,e3⟩
 refine ⟨I.call' (s':={ s' with heap:=h }) (ch:=[]) ho ⟨λ b o e n hb _=>fl.1 b o (i2 b o e n hb),λ b o e n hb _=>fr b o e n hb,λ b o e n _=>?_,λ b o e _=>?_,λ b xs e=>?_,λ b o xs e=>?_,λ b ps e=>?_⟩ (λ b o e=>?_) hg (λ b z=>absurd z (by simp)),ex⟩
 ·rw [zqf (nea b o e)];exact un.free b o e n (by simp)
 ·by_cases h0:H b=none
  ·by_cases hb:b∈frs X.stack
   ·obtain ⟨sl,e2⟩:=fr b o e h0 hb
    exact ⟨_,e2⟩
   ·exact ⟨o,fl.1 b o (i2 b o e h0 hb)⟩
  ·obtain ⟨o2,e2⟩:=un.there b o e (by simp)
   exact ⟨o2,trk b o2 (hd b h0) e2⟩
 ·have:=un.tups b xs e
  rw [zqf (nea1 b _ this)];exact this
 ·have:=un.frzs b o xs e
  rw [zqf (nea1 b _ this)];exact this
 ·obtain ⟨m,e1⟩:=un.tbls b ps e
  exact ⟨m,by rw [zqf (nea1 b _ e1)];exact e1⟩
 ·by_cases eb:b=a
  ·subst eb
   rw [zqh] at e
   cases e
   refine ⟨ex,?_,λ h1 h2 x k=>?_⟩
   ·obtain ⟨o,_,e1,_⟩:=ex
    exact ⟨o,e1⟩
   ·obtain ⟨o,vs,e1,e2⟩:=x
    exact ⟨o,vs,k o e1,e2⟩
  ·rw [zqf eb] at e
   refine (hok b o e).stay (λ d v hd q=>trk d v ?_ q) (λ d q=>?_) λ d xs q=>?_
   ·rcases hd with rfl | hd
    ·rw [e];simp
    ·rw [hd];simp
   ·rw [zqf (nea1 d _ q)];exact q
   ·rw [zqf (nea1 d _ q)];exact q
end
section
variable {is:List Nat}{X:Cx}{M:Fm}{ρ ρ':Rho}{σ σ':St}{H H' H'':Hp}{fps fps' fps'':Fps}{vs vs':List Nat}{D:Ends}
def sExc (c:Nat):Fs:=λ _=>.exc c
theorem qj1 {c:Nat} (hq:tS M (sExc c) D σ H):M.W σ c H:=by
 obtain ⟨ρ,fps,rep,q⟩:=hq
 exact q σ H fps KS.refl
def RrOk (M:Fm) (D:Ends) (σ:St) (H:Hp) (fps:Fps):Rs->Prop
 | .exc c=>∀ H' fps',KD M H fps H' fps'->M.W σ c H'
 | .nx ρ'=>RsOk M D H fps (.nx ρ')
 | .rt x d ρ'=>RsOk M D H fps (.rt x d ρ')
 | _=>False
def tR (M:Fm) (f:Fs):TS:=λ D σ H=>∃ ρ fps,Rep M ρ σ H fps/\RrOk M D σ H fps (f ρ)
theorem RrOk.from {r:Rs} (k1:KD M H fps H' fps') (q:RrOk M D σ H fps r):RrOk M D σ H' fps' r:=by
 cases r with
 | no=>exact q
 | exc c=>exact λ H2 fps2 k=>q H2 fps2 (k1.trans k)
 | rt x d ρ2=>exact RsOk.from (r:=.rt x d ρ2) k1.ks q
 | nx ρ2=>exact RsOk.from (r:=.nx ρ2) k1.ks q
 | bk ρ2=>exact q
 | ct ρ2=>exact q
theorem qg9 {f:Fx} (hq:tR M (zvb f) D σ H):qbg (tE M f vs) D σ H:=by
 obtain ⟨ρ,fps,rep,q⟩:=hq
 cases ef:f ρ with
 | ok p=>
  refine qba (M:=M) ⟨ρ,fps,rep,?_⟩
  unfold zvb at q ⊢
  rw [ef] at q ⊢
  exact q
 | no=>
  unfold zvb at q
  rw [ef] at q
  exact q.elim
 | exc c=>
  unfold zvb at q
  rw [ef] at q
  refine ⟨ρ,fps,rep,?_⟩
  rw [ef]
  exact q
theorem qj3 {f:Fx}{i:Nat}{ms:Bool} (hal:∀ i,M.al i=[]) (hv:∀ i∈vs,M.Ms i=false) (hms:M.Ms i=ms) (hio:M.Fre i) (hq:tR M (sSet ms i f vs) D σ H):tAsg (tE M f vs) (zyl i) D σ H:=by
 obtain ⟨ρ,fps,rep,q⟩:=hq
 cases ef:f ρ with
 | ok p=>
  refine zgm hal hv hms hio ⟨ρ,fps,rep,?_⟩
  cases er:sSet ms i f vs ρ with
  | nx ρ'=>rw [er] at q;exact q
  | rt x d ρ'=>rw [er] at q;exact q
  | exc c=>
   obtain ⟨x,d,ρ1⟩:=p
   unfold sSet at er
   rw [ef] at er
   dsimp only at er
   split at er <;> cases er
  | no=>rw [er] at q;exact q.elim
  | bk ρ'=>rw [er] at q;exact q.elim
  | ct ρ'=>rw [er] at q;exact q.elim
 | no=>
  unfold sSet at q
  rw [ef] at q
  exact q.elim
 | exc c=>
  unfold sSet at q
  rw [ef] at q
  refine ⟨ρ,fps,rep,?_⟩
  rw [ef]
  exact q
theorem qmr {c:Fb}{f g:Fs} (hq:tR M (sIf c f g) D σ H):tIfS (tT M c) (tR M f) (tR M g) D σ H:=by
 obtain ⟨ρ,fps,rep,q⟩:=hq
 refine ⟨ρ,fps,rep,?_⟩
 unfold sIf at q
 cases ec:c ρ with
 | no=>rw [ec] at q;exact q
 | exc c=>rw [ec] at q;exact q
 | ok p=>
  obtain ⟨b,ρ1⟩:=p
  rw [ec] at q
  intro H1 fps1 k1 g1 rep1
  dsimp only at q
  cases b with
  | true=>exact ⟨ρ1,fps1,rep1,RrOk.from k1 q⟩
  | false=>exact ⟨ρ1,fps1,rep1,RrOk.from k1 q⟩
def clr (ms:List Nat) (ρ:Rho):Bool:=ms.all λ k=>match ρ[k]? with
 | some (some (.non,_))=>true
 | some (some _)=>false
 | _=>true
def Fm.want (M:Fm) (W':St->Nat->Hp->Prop):Fm:={ M with W:=W' }
theorem Rep.want {W':St->Nat->Hp->Prop} (r:Rep M ρ σ H fps):Rep (M.want W') ρ σ H fps:=⟨r.own,r.non,r.dj,r.zo,r.fr,r.zd,r.len,r.msf,r.h0,r.iov⟩
theorem Rep.unwant {W':St->Nat->Hp->Prop} (r:Rep (M.want W') ρ σ H fps):Rep M ρ σ H fps:=⟨r.own,r.non,r.dj,r.zo,r.fr,r.zd,r.len,r.msf,r.h0,r.iov⟩
theorem Rep.gone {j:Nat} (hal:∀ i,M.al i=[]) (r:Rep M ρ σ H fps) (hio:M.Fre j):Rep M (ρ.set j none) (σ.set j none) H (λ k=>if k=j then [] else fps k):=by
 have sub:∀ k,∀ a∈(if k=j then [] else fps k),a∈fps k:=λ k a h=>by
  by_cases e:k=j
  ·rw [if_pos e] at h;cases h
  ·rw [if_neg e] at h;exact h
 have get:∀ k p,(ρ.set j none)[k]?=some (some p)->k≠j/\ρ[k]?=some (some p):=λ k p e=>by
  by_cases ek:k=j
  ·subst ek
   by_cases hl:k < ρ.length
   ·rw [jc2 hl] at e;cases e
   ·rw [List.set_eq_of_length_le (by omega)] at e
    rw [jk2 (by omega)] at e;cases e
  ·rw [jb0 (vc1 ek)] at e;exact ⟨ek,e⟩
 refine ⟨λ k x d e=>?_,λ k h=>?_,λ k l hkl a ha hb=>r.dj k l hkl a (sub k a ha) (sub l a hb),λ k a ha=>r.zo k a (sub k a ha),λ k hk a ha=>r.fr k hk a (sub k a ha),r.zd,by rw [je1,je1];exact r.len,λ k x d hk e=>r.msf k x d hk (get k _ e).2,r.h0,?_⟩
 ·obtain ⟨ek,e'⟩:=get k _ e
  obtain ⟨v,hv,o⟩:=r.own k x d e'
  refine ⟨v,by rw [jb0 (vc1 ek)];exact hv,?_⟩
  rw [if_neg ek]
  refine o.weak λ a h=>?_
  rcases h with h | ⟨l,nl,h⟩
  ·exact .inl h
  ·exact .inr ⟨l,nl,sub l a h⟩
 ·by_cases ek:k=j
  ·rw [if_pos ek]
  ·rw [if_neg ek]
   exact r.non k λ p e=>h p (by rw [jb0 (vc1 ek)];exact e)
 ·refine ⟨λ v hv=>?_,λ p hp=>?_⟩
  ·have:=r.iov.1 v hv
   have h0:=hio.1 (by rw [hv];simp)
   rw [jb0 h0]
   exact this
  ·rw [jb0 (hio.2 p hp).symm]
   exact r.iov.2 p hp
end
structure Hd where
 y:Str
 np:Pos
 hpos:Pos
 px:Pos
 pa:Pos
 pn:Pos
 jc:Nat
 z:Str
 d:Nat
 D:Addr
section
variable {X:Cx}
structure Hd.Ok (X:Cx) (h:Hd):Prop where
 ed:zxu X.K h.d=some h.D
 hg:Gl X h.y
 hm:X.mg h.y=some (.ref h.D)
 db:(h.y == ("__debug__" : Str))=false
end
section
variable {is:List Nat}{X:Cx}{M:Fm}{ρ ρ':Rho}{σ σ':St}{H H' H'':Hp}{fps fps' fps'':Fps}{vs vs':List Nat}{D:Ends}
end
structure Hh where
 y:Str
 np:Pos
 hpos:Pos
 b:Stmt
 bs:List Stmt
 d:Nat
 D:Addr
 T:TS
def Hh.stm (n:Str) (h:Hh):ve5:=.ExceptHandler (some (.Name h.y h.np)) (some n) (h.b::h.bs) h.hpos
def zyy {α:Type}:List (Nat×α)->Nat->Option α
 | [],_=>none
 | (d,z)::r,c=>if isX c d=true then some z else zyy r c
def ql6 (D:Ends) (j:Nat):Ends:={ nx:=λ σ' H''=>D.nx (σ'.set j none) H'',rt:=λ _ _=>False }
section
variable {X:Cx}
structure Hh.Ok (X:Cx) (h:Hh):Prop where
 ed:zxu X.K h.d=some h.D
 hg:Gl X h.y
 hm:X.mg h.y=some (.ref h.D)
 db:(h.y == ("__debug__" : Str))=false
 run:∀ a,PSs (Cx.inh X (.ref a)) (h.b::h.bs) h.T
def WTh (K:Frag) (hs:List (Nat×TS)) (j:Nat) (D:Ends) (σ₀:St):St->Nat->Hp->Prop:=λ σ c H'=>σ=σ₀/\∃ T,zyy hs c=some T/\∀ a C,H' a=none->zxu K c=some C->T (ql6 D j) (σ.set j (some (.ref a))) (upd H' a (.ext (zkp a C)))
theorem qh1 {tb:(St->Nat->Hp->Prop)->TS}{body:List Stmt}{n:Str}{pos:Pos}{h0:Hh}{hs:List Hh}{j:Nat} (t:xTab X.K=true) (hst:X.stack=X.env::X.outer) (hfr:X.env.frame=some X.env.locals) (hN:X.N.Nodup) (hj:X.N[j]?=some n)
  (hn:X.env.kindOf n=some .local) (hfn:∀ z,X.fn z=true) (ok:∀ h∈h0::hs,h.Ok X)
  (hb:∀ pn' xe' W',zyw (CXr X.prog X.w X.K) { X with pn:=pn',xe:=xe' } W'->vl2 (vb3 X.prog X.w) X.A X.env xe'->PSs { X with pn:=pn',xe:=xe' } body (tb W')):
  PS X (.Try body (h0.stm n::hs.map (Hh.stm n)) [] [] pos) (λ D σ H=>tb (WTh X.K ((h0::hs).map λ h:Hh=>(h.d,h.T)) j D σ) D σ H):=by
 intro pins s σ H D I h
 refine wpAny_Try_except (vd1 (hb (X.pn++pins) _ (WTh X.K ((h0::hs).map λ h:Hh=>(h.d,h.T)) j D σ) ?_ PassesOwn.looking [] s σ H D (Inv.into I) h) (λ f s1 hs=>?_) λ e s1 he=>he)
 ·intro pins1 σ1 H1 s1 e s' I1 hx'
  obtain ⟨a,C,c,H',B,a0,rfl,hc,ho,hg',un,hok,ha,hn',fl,i1,i2,hd,hE⟩:=hx'
  obtain ⟨rfl,z,hz,hD⟩:WTh X.K ((h0::hs).map λ h:Hh=>(h.d,h.T)) j D σ σ1 c H':=hE
  have I2:L2.Inv X pins σ1 H1 s1:=Inv.outof I.ok I1
  have fl':vk0 B (X.env::X.outer) a (.ref C) a0 s'.heap:=by rw [<- hst];exact fl
  refine wpAny_looks_onW (by rw [I.ok.frames,hst]) hfr fl' λ h4 held4 up4=>?_
  refine wpAny_landsW held4 λ h5 fl5 up5=>?_
  have up45:=up4.trans up5
  obtain ⟨I5,x5⟩:=zjo I2 un hok (by rw [hst];exact fl5) up45 i1 i2 ha hn' hd ho hg'
  have I5':=Inv.inh (.ref a) I5
  show vb2 _ _ (handleBy _ _ ((h0::hs).map (Hh.stm n))) _ _ _
  revert hz ok
  generalize h0::hs=l
  intro ok hz
  induction l with
  | nil=>cases hz
  | cons h r ih=>
   have o:=ok h ja2
   rw [jb9]
   refine wpAny_handleBy_cons (codeAny_handlers_test (zbt I5' o.hg o.hm ?_ o.db)) (by intro q;cases q)
   refine qc7 (qgt I5.kIn t hc) (qgt I5.kIn t o.ed) o.ed x5 ?_
   have hz':(if isX c h.d=true then some h.T else zyy (r.map λ h:Hh=>(h.d,h.T)) c)=some z:=hz
   cases hcd:isX c h.d with
   | false=>
    rw [hcd,if_neg jc1] at hz'
    exact ih (λ h' hh=>ok h' (ja0 _ hh)) hz'
   | true=>
    rw [hcd,if_pos rfl] at hz'
    cases hz'
    refine codeAny_handlers_suite_as ?_
    refine lands_againW fl5 λ h6 fl6 up6=>?_
    obtain ⟨I6,x6⟩:=zjo I2 un hok (by rw [hst];exact fl6) (up45.trans up6) i1 i2 ha hn' hd ho hg'
    refine zba (v:=.ref a) I6 hN hj (.inl hn) rfl (λ s7 I7=>?_) (.inl (hfn n))
    refine vd1 (o.run a pins s7 _ _ (ql6 D j) (Inv.inh (.ref a) I7) (hD a C ha hc)) (λ f s8 hs=>?_) λ _ _ z=>z.elim
    cases f with
    | next=>
     obtain ⟨σ',H'',I8,q⟩:=hs
     refine qit (Inv.outh I.ok I8) hN hj hn λ s9 I9=>?_
     exact ⟨_,_,I9,q⟩
    | brk=>obtain ⟨_,_,_,z⟩:=hs;exact z.elim
    | cont=>obtain ⟨_,_,_,z⟩:=hs;exact z.elim
    | ret u=>obtain ⟨_,_,_,_,_,z⟩:=hs;exact z.elim
 ·cases f with
  | next=>
   obtain ⟨σ',H',I',q⟩:=hs
   exact vh4 ⟨σ',H',Inv.outof I.ok I',q⟩
  | brk=>
   obtain ⟨σ',H',I',q⟩:=hs
   exact ⟨σ',H',Inv.outof I.ok I',q⟩
  | cont=>
   obtain ⟨σ',H',I',q⟩:=hs
   exact ⟨σ',H',Inv.outof I.ok I',q⟩
  | ret u=>
   obtain ⟨v,σ',H',I',r,q⟩:=hs
   exact ⟨v,σ',H',Inv.outof I.ok I',r,q⟩
end
def zbe (hs:List (Nat×Fs)) (j:Nat) (ms:List Nat) (b:Fs):Fs:=λ ρ=>match b ρ with
 | .nx ρ'=>.nx ρ'
 | .rt y e ρ'=>.rt y e ρ'
 | .exc c=>(match zyy hs c with
  | some h=>if j < ρ.length/\clr ms ρ=true then (match h (ρ.set j (some (.exn c,om))) with
   | .nx ρ'=>.nx (ρ'.set j none)
   | _=>.no) else .no
  | none=>.no)
 | _=>.no
theorem zpz {α β:Type} (g:α->β):∀ (hs:List (Nat×α)) (c:Nat),zyy (hs.map λ p=>(p.1,g p.2)) c=(zyy hs c).map g
 | [],_=>rfl
 | (d,z)::r,c=>by
  rw [jb9]
  unfold zyy
  split
  ·rfl
  ·exact zpz g r c
section
variable {is:List Nat}{X:Cx}{M:Fm}{ρ ρ':Rho}{σ σ':St}{H H' H'':Hp}{fps fps' fps'':Fps}{vs vs':List Nat}{D:Ends}
theorem qg2 {hs:List (Nat×Fs)}{j:Nat}{ms:List Nat}{b:Fs} (hal:∀ i,M.al i=[]) (hms:∀ i,M.Ms i=ms.contains i) (hmj:M.Ms j=false) (hoj:M.Fre j) (hq:tS M (zbe hs j ms b) D σ H):tR (M.want (WTh M.K (hs.map λ p=>(p.1,tS M p.2)) j D σ)) b D σ H:=by
 obtain ⟨ρ,fps,rep,q⟩:=hq
 refine ⟨ρ,fps,rep.want,?_⟩
 unfold zbe at q
 have ks:∀ {H':Hp}{fps':Fps},KS (M.want (WTh M.K (hs.map λ p=>(p.1,tS M p.2)) j D σ)) H fps H' fps'->KS M H fps H' fps':=λ k=>⟨k.keep,k.dom,k.sub⟩
 cases eb:b ρ with
 | no=>rw [eb] at q;exact q
 | bk ρ'=>rw [eb] at q;exact q
 | ct ρ'=>rw [eb] at q;exact q
 | nx ρ'=>rw [eb] at q;exact λ σ' H' fps' k r=>q σ' H' fps' (ks k) r.unwant
 | rt x e ρ'=>rw [eb] at q;exact λ v σ' H' fps' fp k r o hf=>q v σ' H' fps' fp (ks k) r.unwant o hf
 | exc c=>
  rw [eb] at q
  dsimp only at q
  cases ep:zyy hs c with
  | none=>rw [ep] at q;exact q.elim
  | some h=>
  rw [ep] at q
  dsimp only at q
  split at q
  ·rename_i hc
   cases eh:h (ρ.set j (some (.exn c,om))) with
   | nx ρ'=>
    rw [eh] at q
    intro H' fps' k
    refine ⟨rfl,tS M h,by rw [zpz,ep];rfl,λ a C ha hC=>?_⟩
    have kk:∀ b o,H b=some o->H' b=some o:=λ b o h=>k.keep b o h λ ⟨l,hl,hb⟩=>by
     have hl:M.Ms l=true:=hl
     rw [hms l] at hl
     have hm:l∈ms:=by simpa using hl
     have hc3:=jb6.mp hc.2 l hm
     have e:fps l=[]:=by
      cases el:ρ[l]? with
      | none=>exact rep.non l λ p z=>by rw [el] at z;cases z
      | some q=>
       cases q with
       | none=>exact rep.non l λ p z=>by rw [el] at z;cases z
       | some p=>
        obtain ⟨x,dx⟩:=p
        rw [el] at hc3
        cases x <;> first | (obtain ⟨v,_,o⟩:=rep.own l _ _ el;rw [Own] at o;exact o.2) | exact nomatch hc3
     rw [e] at hb
     cases hb
    have k2:∀ b o,H b=some o->upd H' a (.ext (zkp a C)) b=some o:=λ b o h=>by
     rw [zqf (zwo (kk b o h) ha)];exact kk b o h
    have r2:=(rep.grow k2).bind1 (al:=[]) (i:=j) (y:=.exn c) (v:=.ref a) (by rw [Own];exact ⟨rfl,a,C,rfl,hC,zqh⟩) hc.1 ⟨hmj,hoj,hal j,λ l m hm=>by rw [hal l] at hm;cases hm⟩
    refine ⟨_,_,r2,?_⟩
    rw [show dv (.exn c)=om from rfl,eh]
    intro σ' H2 fps2 k3 r3
    refine q _ _ _ (KS.trans (H':=upd H' a (.ext (zkp a C))) (fps':=λ k=>if k=j then [] else fps k) ⟨λ b o h _=>k2 b o h,λ b h=>?_,λ l b hb=>?_⟩ (k3.trans ⟨λ _ _ h _=>h,λ _ h=>h,λ l b hb=>?_⟩)) (r3.gone (j:=j) hal hoj)
    ·cases e:H b with
     | none=>exact absurd e h
     | some o=>rw [k2 b o e];simp
    ·by_cases e1:l=j
     ·simp only [if_pos e1] at hb;cases hb
     ·simp only [if_neg e1] at hb;exact .inl ⟨l,hb⟩
    ·by_cases e1:l=j
     ·simp only [if_pos e1] at hb;cases hb
     ·simp only [if_neg e1] at hb;exact .inl ⟨l,hb⟩
   | _=>rw [eh] at q;exact q.elim
  ·exact q.elim
end
def qmb (S:Sx) (n:Str) (j:Nat) (g:Expr) (es:List Expr) (ks:List vg1):Option D2:=match nmE g,es,ks with
 | some x,[e,c],[]=>(match nmE e,nmE c with
  | some n',some T=>if x = "isinstance" /\ n'=n/\S.glob "isinstance" = true then (zgg S T).map λ d=>(bUn (zxq [d]) (bVar j),[j]) else none
  | _,_=>none)
 | _,_,_=>none
def zpa (S:Sx) (n:Str) (j:Nat):Nat->Expr->Option D2
 | 0,_=>none
 | _ + 1,.Constant c _ _=>(match c with
  | .str z=>some (bC (.str z),[])
  | _=>none)
 | k + 1,.UnaryOp op a _=>(match op with
  | .Not=>(zpa S n j k a).map λ p=>(bUn zxe p.1,p.2)
  | _=>none)
 | k + 1,.BoolOp op es _=>(match op with
  | .And=>zyo (zpa S n j k) es
  | _=>none)
 | _ + 1,.Call g es ks _=>qmb S n j g es ks
 | _,_=>none
section
variable {P:va8}{w:vb7}{K:Frag}{mg:Str->Option va0}{base:Heap}{lvl:Nat}{S:Sx}{Wx:St->Nat->Hp->Prop}{X:Cx}{M:Fm}{n:Str}{j:Nat}{a:Addr}
theorem qdk {T:Str}{d:Nat} (GX:GX K mg S.xc) (hb:∀ x∈zwj,mg x=none) (h:zgg S T=some d) (xs:XS X P w K mg base lvl S Wx):xKit X.K=true/\∃ cv,(∀ p2,PE (Cx.inh X (.ref a)) (.Name T p2) (tC cv))/\∀ u,RelV cv u->clsV X.K d u=true:=by
 unfold zgg at h
 split at h
 ·rename_i hc
  obtain ⟨hg,hx⟩:=hc
  obtain ⟨_,hk,hcs⟩:=GX hx
  refine ⟨by rw [xs.K];exact hk,?_⟩
  split at h
  ·rename_i eT
   subst eT
   cases h
   refine ⟨.ty "ValueError",λ p2=>zfp (X:=Cx.inh X (.ref a)) (xs.gl hg) (by show X.mg _=none;rw [xs.mg];exact hb _ (by decide +kernel)) (u:=.type "ValueError") rfl rfl (by decide) (by decide),λ u r=>?_⟩
   cases r
   unfold clsV
   rfl
  ·split at h
   ·rename_i hc
    split at h
    ·rename_i hm
     cases h
     obtain ⟨x',C,h1,h2,h3,h4⟩:=(hcs d (by simpa using hm)).1 (qc2 hc)
     have ex:x'=T:=by
      have:=zkl hc
      rw [h1] at this
      exact Option.some.inj this
     subst ex
     refine ⟨.ref C,λ p2=>zfo (X:=Cx.inh X (.ref a)) (xs.gl hg) (by show X.mg _=_;rw [xs.mg];exact h3) rfl h4,λ u r=>?_⟩
     cases r
     unfold clsV
     rw [xs.K,h2]
     simp
    ·cases h
   ·cases h
 ·cases h
theorem qgw (xs:XS X P w K mg base lvl S Wx) {x:Str}{i:Nat}{pos:Pos} (h:S.slot x=some i):PE (Cx.inh X (.ref a)) (.Name x pos) (tVar i):=by
 unfold Sx.slot at h
 split at h
 ·rename_i hc
  simp only [ja3,jh1] at hc
  exact qf0 (X:=Cx.inh X (.ref a)) (by show X.N[i]?=_;rw [xs.N];exact zvt h) (by show Vis X.env.scope x;rw [xs.sc];exact qa2 hc.1.1) hc.1.2 hc.2
 ·cases h
theorem zkv (GX:GX K mg S.xc) (hb:∀ x∈zwj,mg x=none) (hj:S.slot n=some j) (xs:XS X P w K mg base lvl S Wx) (hK:M.K=X.K) (hal:M.al j=[]):∀ (k:Nat) (e:Expr) (f:Fx) (vs:List Nat),zpa S n j k e=some (f,vs)->(∀ i∈vs,i=j)/\PE (Cx.inh X (.ref a)) e (tE M f vs)
 | 0,e,f,vs,h=>by cases h
 | k + 1,e,f,vs,h=>by
  cases e with
  | Constant c k0 pos=>
   unfold zpa at h
   split at h
   ·cases h
    exact ⟨λ _ z=>(nomatch z),zqi qb7 λ σ H Q q=>zvf (λ K H Z=>by rw [Own];exact ⟨rfl,rfl⟩) q⟩
   ·cases h
  | UnaryOp op a0 pos=>
   unfold zpa at h
   split at h
   ·obtain ⟨p,h1,e2⟩:=ja5.mp h
    cases e2
    have g:=zkv GX hb hj xs hK hal _ _ p.1 p.2 h1
    exact ⟨g.1,zqi (qf2 g.2) λ σ H Q q=>qbe q⟩
   ·cases h
  | BoolOp op es pos=>
   unfold zpa at h
   split at h
   ·have all:∀ (es:List Expr) (f:Fx) (vs:List Nat),zyo (zpa S n j k) es=some (f,vs)->(∀ i∈vs,i=j)/\PE (Cx.inh X (.ref a)) (.BoolOp .And es pos) (tE M f vs):=by
     intro es
     induction es with
     | nil=>intro f vs h;cases h
     | cons e es ih=>
      intro f vs h
      cases es with
      | nil=>
       have g:=zkv GX hb hj xs hK hal _ e f vs h
       exact ⟨g.1,qb8 g.2⟩
      | cons e' es=>
       unfold zyo at h
       split at h
       ·rename_i f1 v1 f2 v2 h1 h2
        cases h
        have g1:=zkv GX hb hj xs hK hal _ e f1 v1 h1
        have g2:=ih f2 v2 h2
        exact ⟨λ i hi=>(jb3.mp hi).elim (g1.1 i) (g2.1 i),zqi (qf5 g1.2 g2.2) λ σ H Q q=>qbf q⟩
       ·cases h
    exact all _ _ _ h
   ·cases h
  | Call g0 es ks pos=>
   unfold zpa qmb at h
   split at h
   ·rename_i x e c hx
    obtain ⟨px,rfl⟩:=zzm hx
    split at h
    ·rename_i n' T hn' hT
     obtain ⟨pn,rfl⟩:=zzm hn'
     obtain ⟨pT,rfl⟩:=zzm hT
     split at h
     ·rename_i hc
      obtain ⟨rfl,rfl,hg⟩:=hc
      obtain ⟨d,h1,e2⟩:=ja5.mp h
      cases e2
      obtain ⟨hk,cv,c1,c2⟩:=qdk (a:=a) GX hb h1 xs
      refine ⟨λ i hi=>jb1.mp hi,qbq (X:=Cx.inh X (.ref a)) hk hK (zqi (qgw xs hj) λ σ H Q q=>qbd (by rw [hal];exact q)) (xs.gl hg) (by show X.mg _=none;rw [xs.mg];exact hb _ (by decide +kernel)) (c1 pT) c2 rfl rfl⟩
     ·cases h
    ·cases h
   ·cases h
  | _=>cases h
end
section
variable {X:Cx}{M:Fm}{ρ:Rho}{σ:St}{H:Hp}{fps:Fps}
end
def zmn:Expr->Bool
 | .ListComp _ _ _ _=>true
 | .SetComp _ _ _ _=>true
 | .DictComp _ _ _ _ _=>true
 | _=>false
def qm7:Expr->Bool
 | .Tuple _ _ _=>true
 | .List _ _=>true
 | _=>false
def zqq (d:Stmt->Option Fs):List Stmt->Option Fs
 | []=>some sNil
 | [s]=>d s
 | s::r=>match d s,zqq d r with
  | some f,some g=>some (sSeq f g)
  | _,_=>none
def locB (S:Sx) (x:Str):Bool:=zxx S.sc x .local || zxx S.sc x .cell
def zmf (S:Sx) (i:Nat):Bool:=(decide (i≠0) || !S.msF 0) && !S.pn.contains i
def qkt (iw:Iw) (asg:PV->Rho->Option Rho) (body:Fs):Fs:=match iw with
 | .rng en fa _=>zyx en fa asg body
 | .seq f vs=>qbu f vs asg body
 | .vw v fa vs=>qmv v fa vs asg body
def zyc (S:Sx):List Expr->Option (List Nat)
 | []=>some []
 | .Name x _::r=>match S.slot x,zyc S r with
  | some i,some is=>if locB S x=true/\zmf S i=true/\S.msF i=false then some (i::is) else none
  | _,_=>none
 | _=>none
def zbf (S:Sx) (x:Str):Option Nat:=match XN.findIdx? (·== x) with
 | some c=>if S.rz=true/\S.xc.contains c=true/\S.glob x=true then some c else none
 | none=>none
def Sx.nr (S:Sx):Sx:={ S with rz:=false }
def qda:Nat->Sx->List Stmt->Option Fs
 | 0,_,_=>none
 | n + 1,S,sts=>match sts with
  | [.Expr (.Call (.Name x p) es [] p1) _]=>(match den 60 S (.Call (.Name x p) es [] p1) with
   | some (f,_)=>some (zvb f)
   | none=>none)
  | [.Assign [.Name x _] e _]=>(match S.slot x,den 60 S e with
   | some i,some (f,vs)=>if locB S x=true/\zmf S i=true/\zmn e=false then some (sSet (S.msF i) i f vs) else none
   | _,_=>none)
  | [.If c a b _]=>(match den 60 S c,qda n S a,qda n S b with
   | some (f,_),some s,some t=>some (sIf (bT f) s t)
   | _,_,_=>none)
  | _=>none
def denA (S:Sx):Expr->Option D2
 | .Dict [] [] _=>some (bDct,[])
 | e=>den 60 S e
def qma (S:Sx) (x at':Str) (apos:Pos) (e:Expr) (cpos:Pos):Option Fs:=if at' = "append" then (match S.slot x,den 60 S e with
   | some i,some (f,vs)=>if S.msF i=false/\(apos.endLine == cpos.line)=true then some (sApp i f vs) else none
   | _,_=>none) else none
def ql9 (S:Sx) (o:Expr) (at':Str) (apos:Pos) (e:Expr) (cpos:Pos):Option Fs:=match o with
 | .Subscript b i _=>(match nmE b with
  | some x=>(match S.slot x,den 60 S i,den 60 S e with
   | some s,some (fi,_),some (f,_)=>if at' = "append" /\ S.msF s=false/\zvi i=true/\(apos.endLine == cpos.line)=true then some (qhv s fi f) else none
   | _,_,_=>none)
  | none=>none)
 | _=>none
def denX (S:Sx):Expr->Option Fs
 | .Call fn es [] p1=>(match fn with
  | .Attribute o at' apos=>(match nmE o,es with
   | some x,[e]=>qma S x at' apos e p1
   | none,[e]=>ql9 S o at' apos e p1
   | _,_=>none)
  | .Name x p=>(match den 60 S (.Call (.Name x p) es [] p1) with
   | some (f,_)=>some (zvb f)
   | none=>none)
  | _=>none)
 | _=>none
def qci:PV->Nat->PV->Nat->Option (PV×Nat)
 | .lst xs,d,.int i,_=>(atI xs i).map λ z=>(z,if d=om then om else dv z)
 | _,_,_,_=>none
theorem OwnL.nthF {K:Frag}{H:Hp}{Z:Addr->Prop}{d:Nat}{x:PV}:∀ {xs:List PV}{ws:List V}{f:List Addr}{j:Nat},OwnL K H Z xs d ws f->xs[j]?=some x->∃ w fx,ws[j]?=some w/\Own K H Z x d w fx/\∀ a∈fx,a∈f
 | [],_,_,_,_,e=>by cases e
 | y::ys,ws,f,j,h,e=>by
  rw [OwnL] at h
  obtain ⟨v,s,f1,f2,rfl,rfl,_,h1,h2⟩:=h
  cases j with
  | zero=>cases e;exact ⟨v,f1,rfl,h1,λ a ha=>ja4 _ ha⟩
  | succ j=>
   obtain ⟨w,fx,e1,o,s'⟩:=h2.nthF (j:=j) (by simpa using e)
   exact ⟨w,fx,by simpa using e1,o,λ a ha=>ja1 _ (s' a ha)⟩
def omF:List (PV×Nat)->Bool
 | []=>true
 | p::r=>((p.2 == om) || qav p.1) && omF r
def qcg (xs:List (PV×Nat)):Option (PV×Nat):=if xs.length<=va2 then some (.lst (xs.map (·.1)),if omF xs then om else 1) else none
theorem Tmps.allF {K:Frag}{H:Hp}{Z:Addr->Prop}:∀ {xs:List (PV×Nat)}{ws:List V}{fp:List Addr},Tmps K H Z xs ws fp->omF xs=true->OwnL K H Z (xs.map (·.1)) om ws fp
 | [],_,_,h,_=>by rw [jf5,OwnL];exact h
 | (x,d)::xs,ws,fp,h,ha=>by
  obtain ⟨v,s,f1,f2,e1,e2,dj,h1,h2⟩:=h
  unfold omF at ha
  rw [ja3,jc8] at ha
  rw [jb9,OwnL]
  rcases ha.1 with e | e
  ·have e:d=om:=eq_of_beq e
   subst e
   exact ⟨v,s,f1,f2,e1,e2,dj,Own.full x v f1 h1,h2.allF ha.2⟩
  ·obtain ⟨rfl,o⟩:=Own.flatA (Z':=Z) (d':=om) e h1
   exact ⟨v,s,[],f2,e1,e2,dj,o,h2.allF ha.2⟩
section
variable {X:Cx}{M:Fm}{a b:Expr}{es:List Expr}{fa:Fa}{f g:Fx}{vs vs':List Nat}{pos:Pos}
theorem qhl (h:PA X es (tL M fa vs)):PE X (.List es pos) (tE M (zqb qcg fa) vs):=by
 refine zqi (qf3 h) λ σ H Q h=>zya (r:=λ xs H1 Q=>xs.length<=va2/\∀ p,H1 p=none->Q (.ref p) (upd H1 p (.lst xs))) (λ xs z c ws H fps fp Q ho tm nz zd lf=>?_) h
 unfold qcg at ho
 split at ho
 ·rename_i hl
  refine ⟨by rw [tm.length];exact hl,λ q hq=>?_⟩
  cases eo:omF xs with
  | true=>rw [eo] at ho;cases ho;exact zkg lf (tm.allF eo) hq
  | false=>rw [eo] at ho;cases ho;exact zyi lf (tm.cold λ a ha z=>nz a ha z.zf) hq
 ·cases ho
theorem qhp (hv:∀ i∈vs,M.Ms i=false) (hs:zpi b) (ha:PE X a (tE M f vs)) (hb:PE X b (tE M g vs')):PE X (.Subscript a b pos) (tE M (bBin qci f g) (vs++vs')):=by
 refine zqi (qb9 qf8 ha hb hs) λ σ H Q h=>zwh hv (λ x d y e z c v w H fps f1 f2 Q ho o1 o2 dj nz zd lf=>?_) h
 unfold qci at ho
 split at ho
 ·rename_i xs i
  obtain ⟨z',ez,e2⟩:=ja5.mp ho
  rw [Own] at o2
  by_cases hd:d=om
  ·subst hd
   rw [if_pos rfl] at e2
   cases e2
   obtain ⟨p,ws,fc,rfl,hp,rfl,nac,ol⟩:=o1.list (by decide:om≠0)
   rw [zko] at ol
   unfold atI at ez
   cases ej:ixN xs.length i with
   | none=>rw [ej] at ez;cases ez
   | some j=>
    rw [ej] at ez
    obtain ⟨w',fz,e1,ow,sb⟩:=ol.nthF ez
    refine .inl ⟨p,ws,i,w',rfl,o2.1,.inl (.inl hp),?_,lf w' H fz (λ _ _ h=>h) (Own.full _ _ _ ow) λ a ha=>.inl (ja4 _ (ja0 _ (sb a ha)))⟩
    unfold atI
    rw [ol.length,ej]
    exact e1
  ·rw [if_neg hd] at e2
   cases e2
   obtain ⟨p,ws,rfl,hp,ol⟩:=(cold o1 λ a ha=>nz a (ja4 _ ha)).coldL
   obtain ⟨w',e1,ow⟩:=zgh ol ez
   exact .inl ⟨p,ws,i,w',rfl,o2.1,.inl (.inl hp),e1,zwz lf ow⟩
 ·cases ho
end
def denO (S:Sx) (e:Expr):Option D2:=match e with
 | .Subscript (.List es _) b _=>(match zyn (den 60 S) es,den 60 S b with
  | some (fa,v),some (g,u)=>if zvi b=true then some (bBin qci (zqb qcg fa) g,v++u) else none
  | _,_=>none)
 | e=>den 60 S e
def putV (S:Sx) (x:Str) (k e:Expr):Option Fs:=match nmE k,e with
 | some z,.Subscript (.Name _ _) _ _=>(match S.slot x,S.slot z,den 60 S e with
  | some i,some j,some (f,vs)=>if S.msF i=false then some (qht i j f vs) else none
  | _,_,_=>none)
 | _,_=>none
def qgl (S:Sx) (t k e:Expr):Option Fs:=match t with
 | .Name x _=>(match ixC k with
  | some k=>(match S.slot x,den 60 S e with
    | some i,some (f,vs)=>some (sPut i k f)
    | _,_=>none)
  | none=>(match putV S x k e with
   | some f=>some f
   | none=>(match S.slot x,den 60 S k,denO S e with
    | some i,some (fk,_),some (f,_)=>if S.msF i=false/\zvi k=true then some (qhs i fk f) else none
    | _,_,_=>none)))
 | .Subscript b i _=>(match nmE b with
  | some x=>(match S.slot x,den 60 S i,den 60 S k,denO S e with
    | some s,some (fi,_),some (fj,_),some (f,_)=>if S.msF s=false/\zvi i=true/\zvi k=true then some (qhu s fi fj f) else none
    | _,_,_,_=>none)
  | none=>none)
 | _=>none
def qgp (S:Sx) (t e:Expr):Option Fs:=match t with
 | .Tuple es k p=>(match zyc S es,den 60 S e with
   | some is,some (f,vs)=>if zmn e=false/\qm7 e=false then some (sUnp (asgT is) f vs) else none
   | _,_=>none)
 | .Name x _=>(match S.slot x,denA S e with
   | some i,some (f,vs)=>if locB S x=true/\zmf S i=true then some (sSet (S.msF i) i f vs) else none
   | _,_=>none)
 | .Subscript t k _=>qgl S t k e
 | _=>none
def zge (d:Stmt->Option Fs) (S:Sx) (body:List Stmt):Option Fs:=zqq d body
def qgo (d:Stmt->Option Fs) (S:Sx) (t it:Expr) (body:List Stmt):Option Fs:=match t with
 | .Name x p=>(match S.slot x,denI (den 60 S) S it,zge d S body with
    | some i,some iw,some b=>if locB S x=true/\zmf S i=true/\S.msF i=false/\twOk (.Name x p) iw=true then some (qkt iw (asgN i) b) else none
    | _,_,_=>none)
 | .Tuple es k p=>(match zyc S es,denI (den 60 S) S it,zge d S body with
   | some is,some iw,some b=>some (qkt iw (asgT is) b)
   | _,_,_=>none)
 | _=>none
def qgj (S:Sx) (e:Expr):Option Fs:=match nmE e with
 | some x=>(match S.slot x with
   | some i=>if S.msF i=true then none else some (qbt i)
   | none=>none)
 | none=>(match den 60 S e with
   | some (f,vs)=>some (sRet f)
   | none=>none)
def qmc (_:Sx) (_:Expr) (_:Operator) (_:Expr):Option Fs:=none
def Sx.bare (S:Sx):Sx:={ S with ms:=[] }
def denT (S:Sx) (c:Expr):Option D2:=(den 60 S c).or (den 60 S.bare c)
def asE:Stmt->Option (Str×Expr)
 | .Assign ts e _=>(match ts with
  | [t]=>(nmE t).map λ x=>(x,e)
  | _=>none)
 | _=>none
theorem qmj {st:Stmt}{x:Str}{e:Expr} (h:asE st=some (x,e)):∃ px pa,st=.Assign [.Name x px] e pa:=by
 unfold asE at h
 split at h
 ·split at h
  ·obtain ⟨y,hy,e2⟩:=ja5.mp h
   cases e2
   obtain ⟨px,rfl⟩:=zzm hy
   exact ⟨_,_,rfl⟩
  ·cases h
 ·cases h
def zhs (S:Sx) (n:Str) (j:Nat) (st:Stmt):Option Fs:=match asE st with
 | some (x,e)=>(match S.slot x,zpa S n j 20 e with
  | some i,some (f,v)=>if locB S x=true/\zmf S i=true/\S.msF i=false/\zmn e=false then some (sSet false i f v) else none
  | _,_=>none)
 | none=>none
def hdH:ve5->Option (Str×Str×Stmt×List Stmt)
 | .ExceptHandler ty nm body _=>(match ty,nm,body with
  | some e,some n,b::bs=>(nmE e).map λ y=>(y,n,b,bs)
  | _,_,_=>none)
theorem ql2 {hh:ve5}{y n:Str}{b:Stmt}{bs:List Stmt} (h:hdH hh=some (y,n,b,bs)):∃ np hpos,hh=.ExceptHandler (some (.Name y np)) (some n) (b::bs) hpos:=by
 unfold hdH at h
 split at h
 split at h
 ·obtain ⟨y',hy,e2⟩:=ja5.mp h
  cases e2
  obtain ⟨np,rfl⟩:=zzm hy
  exact ⟨_,_,rfl⟩
 ·cases h
def hdsH (S:Sx) (n:Str) (j:Nat):List ve5->Option (List (Nat×Fs))
 | []=>some []
 | h::r=>match hdH h,hdsH S n j r with
  | some (y,n',b,bs),some l=>(match XN.findIdx? (·== y),zqq (zhs S n j) (b::bs) with
   | some d,some f=>if n'=n/\S.xc.contains d=true/\S.glob y=true then some ((d,f)::l) else none
   | _,_=>none)
  | _,_=>none
def zgc (S:Sx) (body:List Stmt) (hs:List ve5) (o fi:List Stmt):Option Fs:=match hs,o,fi with
 | h::r,[],[]=>(match hdH h with
  | some (_,n,_,_)=>(match S.slot n,qda 10 S.nr body with
   | some j,some b=>if zxx S.sc n .local=true/\zmf S j=true/\S.msF j=false then (hdsH S n j (h::r)).map λ l=>zbe l j S.ms b else none
   | _,_=>none)
  | none=>none)
 | _,_,_=>none
def zvx (d:Stmt->Option Fs) (S:Sx):Stmt->Option Fs
 | .Raise (some (.Call (.Name x _) [.Constant (.str _) _ _] [] _)) none _=>match zbf S x with
  | some c=>some (sExc c)
  | none=>some sNo
 | .Raise _ _ _=>some sNo
 | .Try body hs o fi _=>zgc S body hs o fi
 | .Expr v _=>denX S v
 | .Assign [t] e _=>qgp S t e
 | .If c a b _=>match denT S c,zqq d a,zqq d b with
  | some (f,_),some s,some t=>some (sIf (bT f) s t)
  | _,_,_=>none
 | .For t it body [] _=>qgo d S t it body
 | .AugAssign t op e _=>qmc S t op e
 | .Return (some e) _=>qgj S e
 | _=>none
def qdb:Nat->Sx->Stmt->Option Fs
 | 0,_,_=>none
 | n + 1,S,st=>some ((zvx (qdb n S) S st).getD sNo)
section
variable {X:Cx}{P:va8}{w:vb7}{K:Frag}{mg:Str->Option va0}{base:Heap}{lvl:Nat}{S:Sx}{Wx:St->Nat->Hp->Prop}{M:Fm}{f g:Fx}{vs vs':List Nat}{σ:St}{H:Hp}{Q:VK}
structure SM (X:Cx) (M:Fm) (K:Frag) (S:Sx) (Wx:St->Nat->Hp->Prop):Prop where
 ms:MS M K S Wx
 al:∀ i,M.al i=[]
 io:M.io≠none->S.msF 0=true
 pn:∀ p∈M.pn,p.1∈S.pn
 fn:∀ x,X.fn x=true
 nd:S.N.Nodup
 st:X.stack=X.env::X.outer
 fr:X.env.frame=some X.env.locals
def zfi (P:va8) (w:vb7) (K:Frag) (mg:Str->Option va0) (base:Heap) (lvl:Nat) (S:Sx) (st:Stmt) (f:Fs):Prop:=∀ {Wx} X M,XS X P w K mg base lvl S Wx->SM X M K S Wx->PS X st (tS M f)
theorem zzr {d:Stmt->Option Fs} (hd:∀ st f,d st=some f->zfi P w K mg base lvl S st f):∀ (sts:List Stmt) (f:Fs),zqq d sts=some f->∀ {Wx} X M,XS X P w K mg base lvl S Wx->SM X M K S Wx->PSs X sts (tS M f)
 | [],f,h=>by cases h;exact λ X M xs sm=>zbg qb0 λ D σ H q=>qft q
 | [s],f,h=>λ X M xs sm=>zyf (hd s f h X M xs sm)
 | s::s'::r,f,h=>by
  unfold zqq at h
  split at h
  ·rename_i f1 f2 h1 h2
   cases h
   exact λ X M xs sm=>zbg (zgv (hd s f1 h1 X M xs sm) (zzr hd (s'::r) f2 h2 X M xs sm)) λ D σ H q=>qfs q
  ·cases h
theorem zzv {x:Str}{i:Nat} (h:S.slot x=some i):S.N[i]?=some x:=by
 unfold Sx.slot at h
 split at h
 ·exact zvt h
 ·cases h
theorem zmi {x:Str} (h:locB S x=true):Loc S.sc x:=by
 unfold locB at h
 rw [jc8] at h
 exact h.elim (λ h=>.inl (zxk h)) λ h=>.inr (zxk h)
theorem zzf {i:Nat} (h:zmf S i=true) (sm:SM X M K S Wx):M.Fre i:=by
 unfold zmf at h
 rw [ja3,jc8] at h
 refine ⟨λ hio=>?_,λ p hp e=>?_⟩
 ·rcases h.1 with h | h
  ·simpa using h
  ·rw [sm.io hio] at h;cases h
 ·have z:=sm.pn p hp
  rw [e] at z
  have h2:=h.2
  rw [List.contains_iff_mem.mpr z] at h2
  cases h2
theorem zfl {e:Expr}{t:Option Expr}{l:Nat}{env:Env} (h:zmn e=false):swapsWith e t l env=pure false:=by
 cases e with
 | ListComp _ _ _ _=>cases h
 | SetComp _ _ _ _=>cases h
 | DictComp _ _ _ _ _=>cases h
 | _=>rfl
theorem qe4 (GX:GX K mg S.xc) (G:GS P w K mg base lvl S.Γ) (Gm:GSm P w K mg base lvl S.Γm) (hS:∀ i,∀ j∈S.alF i,S.msF j=false) {n:Nat}{elt:Expr}{gs:List Comprehension}{scope:vd0}{pos:Pos} (h:den (n + 1) S (.ListComp elt gs scope pos)=some (f,vs)):
  ∃ tg ys asg it ifs iw t g vE,gs=[⟨tg,it,ifs,0⟩]/\CompParts P w K mg base lvl S scope tg ys asg it elt ifs iw t g vE/\f=qdx iw ys.length asg t g/\vs=iw.vs++vE.filter (λ i=>decide (i < S.N.length)):=by
 have hd:∀ e f vs,den n S e=some (f,vs)->Good P w K mg base lvl S e f vs:=λ e f vs h=>zjq GX G Gm n S e f vs rfl rfl rfl hS h
 replace h:zzj (den n) S (.ListComp elt gs scope pos)=some (f,vs):=h
 match gs,h with
 | [],h=>simp [zzj] at h
 | _::_::_,h=>simp [zzj] at h
 | [⟨tg,it,ifs,a⟩],h=>
  by_cases ha:a=0
  ·subst ha
   replace h:(match tgA S.N.length tg,denI (den n S) S it with
    | some (xs,asg),some iw=>if zpd S scope xs iw.vs=true/\twOk tg iw=true then (match zhr (den n (zqt S scope xs iw.vs)) ifs,den n (zqt S scope xs iw.vs) elt with
     | some t,some (g,vE)=>some (qdx iw xs.length asg t g,iw.vs++vE.filter (λ i=>decide (i < S.N.length)))
     | _,_=>none) else none
    | _,_=>none)=some (f,vs):=h
   split at h
   ·rename_i ys asg iw ht hi
    split at h
    ·rename_i hc
     split at h
     ·rename_i t g vE h1 h2
      cases h
      have ck:=qgq hc.1
      have giw:=zbz hd (zby n S) G.1 hi
      have hS2:∀ i,∀ j∈(zqt S scope ys iw.vs).alF i,(zqt S scope ys iw.vs).msF j=false:=λ i j hj=>by
       rw [zph] at hj
       show S.msF j=false
       split at hj
       ·exact hS i j hj
       ·split at hj
        ·exact giw.1 j hj
        ·cases hj
      have hd2:∀ e f vs,den n (zqt S scope ys iw.vs) e=some (f,vs)->Good P w K mg base lvl (zqt S scope ys iw.vs) e f vs:=λ e f vs h=>zjq GX G Gm n _ e f vs rfl rfl rfl hS2 h
      exact ⟨tg,ys,asg,it,ifs,iw,t,g,vE,rfl,⟨ht,hc.2,ck,giw,hd2 _ _ _ h2,zmv hd2 h1⟩,rfl,rfl⟩
     ·cases h
    ·cases h
   ·cases h
  ·simp [zzj,ha] at h
theorem zzy (xs:XS X P w K mg base lvl S Wx):vl2 (vb3 X.prog X.w) X.A X.env X.xe:=xs.po
theorem zyb {es:List Expr}{is:List Nat} (h:zyc S es=some is) (xs:XS X P w K mg base lvl S Wx) (sm:SM X M K S Wx):PGs X es (zjm is)/\(vc6 es X.env).length=is.length/\(vc6 es X.env).findIdx? (·.1)=none/\∀ i∈is,Bd M [] i:=by
 induction es generalizing is with
 | nil=>cases h;exact ⟨qb5,rfl,rfl,λ _ z=>nomatch z⟩
 | cons e es ih=>
  unfold zyc at h
  split at h
  ·cases ‹_::_=[]›
  ·rename_i x px r heq
   cases heq
   split at h
   ·rename_i i js hi hr
    split at h
    ·rename_i hc
     cases h
     obtain ⟨h1,h2,h3,h4⟩:=ih hr
     have hN:X.N.Nodup:=by rw [xs.N];exact sm.nd
     have hi':X.N[i]?=some x:=by rw [xs.N];exact zzv hi
     have hx:Loc X.env.scope x:=by rw [xs.sc];exact zmi hc.1
     refine ⟨zgy (zbk hN hi' hx (.inl (sm.fn x))) h1 rfl,by rw [vc6,jc0,h2,jc0] <;> (intros;contradiction),?_,λ j hj=>?_⟩
     ·rw [vc6,ji6,h3] <;> first | rfl | (intros;contradiction)
     ·rcases ja9.mp hj with z | z
      ·rw [z];exact ⟨by rw [sm.ms.ms];exact hc.2.2,zzf hc.2.1 sm,sm.al i,sm.ms.als⟩
      ·exact h4 j z
    ·cases h
   ·cases h
  ·cases h
theorem zvk {x:Str}:∀ {l:List Str}{c:Nat},l.findIdx? (·== x)=some c->l[c]?=some x
 | [],c,h=>by simp at h
 | y::r,c,h=>by
  rw [ji6] at h
  split at h
  ·rename_i e
   cases h
   rw [List.getElem?_cons_zero,eq_of_beq e]
  ·cases e:r.findIdx? (·== x) with
   | none=>rw [e] at h;cases h
   | some k=>
    rw [e] at h
    cases h
    rw [jg8]
    exact zvk e
theorem qag {x:Str}{c:Nat} (h:zbf S x=some c):S.rz=true/\c∈S.xc/\S.glob x=true/\XN[c]?=some x:=by
 unfold zbf at h
 split at h
 ·rename_i c' e
  split at h
  ·rename_i hc
   cases h
   exact ⟨hc.1,by simpa using hc.2.1,hc.2.2,zvk e⟩
  ·cases h
 ·cases h
theorem qee {x m:Str}{c:Nat}{np cpos pos p:Pos}{j:Nat}{t:TS} (GX:GX K mg S.xc) (h:zbf S x=some c) (xs:XS X P w K mg base lvl S Wx) (hW:M.W=Wx) (hq:∀ D σ H,t D σ H->M.W σ c H):PS X (.Raise (some (.Call (.Name x np) [.Constant (.str m) j p] [] cpos)) none pos) t:=by
 obtain ⟨h1,h2,h3,h4⟩:=qag h
 obtain ⟨ht,_,hc⟩:=GX (λ z=>by rw [z] at h2;cases h2)
 have hlt:c < 50:=jj9 (ja8.mp h4).1 (by decide)
 obtain ⟨x',C,e1,e2,e3,e4⟩:=(hc c h2).1 hlt
 rw [h4] at e1
 cases e1
 refine zxg (qeg (W:=Wx) (xs.rs h1) (by rw [xs.K];exact ht) xs.calm (by rw [xs.K];exact e2) (xs.gl h3) (by rw [xs.mg];exact e3) e4) λ D σ H q=>?_
 rw [<- hW]
 exact hq D σ H q
theorem qe5 (GX:GX K mg S.xc) (G:GS P w K mg base lvl S.Γ) (Gm:GSm P w K mg base lvl S.Γm) (hS:∀ i,∀ j∈S.alF i,S.msF j=false):∀ (n:Nat) (sts:List Stmt) (f:Fs),qda n S sts=some f->∀ {Wx} X M,XS X P w K mg base lvl S Wx->SM X M K S Wx->PSs X sts (tR M f):=by
 have hd:∀ e f vs,den 60 S e=some (f,vs)->Good P w K mg base lvl S e f vs:=λ e f vs h=>zjq GX G Gm 60 S e f vs rfl rfl rfl hS h
 intro n
 induction n with
 | zero=>intro sts f h;cases h
 | succ n ih=>
  intro sts f h
  unfold qda at h
  split at h
  ·split at h
   ·rename_i f1 v1 he
    cases h
    intro Wx X M xs sm
    exact zyf (zxg (zbi ((hd _ _ _ he).2.2 X M xs sm.ms).1 rfl) λ D σ H q=>qg9 q)
   ·cases h
  ·rename_i x px e pos
   split at h
   ·rename_i i f1 v1 hi he
    split at h
    ·rename_i hc
     cases h
     have g:=hd _ _ _ he
     intro Wx X M xs sm
     have hN:X.N.Nodup:=by rw [xs.N];exact sm.nd
     have hi':X.N[i]?=some x:=by rw [xs.N];exact zzv hi
     have hx:Loc X.env.scope x:=by rw [xs.sc];exact zmi hc.1
     have mi:M.Ms i=S.msF i:=by rw [sm.ms.ms]
     exact zyf (zxg (zgw hN hi' hx (g.2.2 X M xs sm.ms).1 (zfl hc.2.2) (.inl (sm.fn x))) λ D σ H q=>qj3 sm.al (sm.ms.v g.1) mi (zzf hc.2.1 sm) q)
    ·cases h
   ·cases h
  ·split at h
   ·rename_i f1 v1 s t hc ha hb
    cases h
    intro Wx X M xs sm
    exact zyf (zxg (qk3 ((hd _ _ _ hc).2.2 X M xs sm.ms).2 (ih _ _ ha X M xs sm) (ih _ _ hb X M xs sm)) λ D σ H q=>qmr q)
   ·cases h
  ·cases h
def Fm.bare (M:Fm):Fm:={ M with Ms:=λ _=>false,H₀:=λ _=>none,io:=none,pn:=[] }
theorem Rep.bare {ρ:Rho}{fps:Fps} (r:Rep M ρ σ H fps):Rep M.bare ρ σ H fps where
 own:=r.own
 non:=r.non
 dj:=r.dj
 zo:=r.zo
 fr:=λ _ _ _ _=>rfl
 zd:=r.zd
 len:=r.len
 msf:=λ _ _ _ h=>nomatch h
 h0:=λ _ h=>absurd rfl h
 iov:=And.intro (λ _ h=>nomatch h) (λ _ h=>nomatch h)
theorem qg0 {fb:Fb}{Q:Bool->Hp->Prop} (hq:tT M fb σ H Q):tT M.bare fb σ H Q:=by
 obtain ⟨ρ,fps,rep,q⟩:=hq
 refine ⟨ρ,fps,rep.bare,?_⟩
 have gr:∀ H' fps',KD M.bare H fps H' fps'->∀ a o,H a=some o->H' a=some o:=λ H' fps' k a o h=>k.keep a o h λ ⟨_,z,_⟩=>nomatch z
 cases e:fb ρ with
 | ok p=>
  obtain ⟨b,ρ'⟩:=p
  rw [e] at q
  intro H' fps' k ag _
  have e1:ρ'=ρ:=List.ext_getElem? λ i=>ag.1 i rfl
  subst e1
  exact q H' fps (KD.grow (gr H' fps' k)) Agr.refl (rep.grow (gr H' fps' k))
 | exc c=>
  rw [e] at q
  intro H' fps' k
  exact q H' fps (KD.grow (gr H' fps' k))
 | no=>rw [e] at q;exact q
theorem qiy (GX:GX K mg S.xc) (G:GS P w K mg base lvl S.Γ) (Gm:GSm P w K mg base lvl S.Γm) (hS:∀ i,∀ j∈S.alF i,S.msF j=false) {c:Expr}{f:Fx}{vs:List Nat} (h:denT S c=some (f,vs)) (xs:XS X P w K mg base lvl S Wx) (m:MS M K S Wx):PT X c (tT M (bT f)):=by
 unfold denT at h
 cases e:den 60 S c with
 | some p=>
  rw [e] at h
  cases h
  exact ((zjq GX G Gm 60 S c f vs rfl rfl rfl hS e).2.2 X M xs m).2
 | none=>
  rw [e] at h
  have h2:den 60 S.bare c=some (f,vs):=h
  have gd:=(zjq (S:=S) GX G Gm 60 S.bare c f vs rfl rfl rfl (λ _ _ _=>rfl) h2).2.2 X M.bare ⟨xs.prog,xs.w,xs.K,xs.mg,xs.base,xs.N,xs.sc,xs.calm,xs.room,xs.po,xs.ps,xs.rs⟩ ⟨m.K,rfl,m.al,λ _ _ _=>rfl,m.W,λ _ h=>nomatch h⟩
  exact zpw gd.2 λ σ H Q q=>qg0 q
theorem zjr {d:Stmt->Option Fs}{body:List Stmt}{f:Fs} (hd:∀ e f vs,den 60 S e=some (f,vs)->Good P w K mg base lvl S e f vs) (ih:∀ st f,d st=some f->zfi P w K mg base lvl S st f) (h:zge d S body=some f):∀ {Wx} X M,XS X P w K mg base lvl S Wx->SM X M K S Wx->PSs X body (tS M f):=by
 exact zzr ih _ _ h
theorem qi0 {e:Expr}{f:Fx}{vs:List Nat} (hd:∀ e f vs,den 60 S e=some (f,vs)->Good P w K mg base lvl S e f vs) (h:denO S e=some (f,vs)):Good P w K mg base lvl S e f vs:=by
 unfold denO at h
 split at h
 ·split at h
  ·rename_i f1 v1 f2 v2 h1 h2
   split at h
   ·rename_i hn
    cases h
    have g1:=zwm hd _ _ _ h1
    have g2:=hd _ _ _ h2
    exact zqn (zqu g1.1 g2.1) rfl (λ _ _=>rfl) λ X M xs m=>qhp (m.v g1.1) (zwy hn) (qhl (g1.2.2 X M xs m)) (g2.2.2 X M xs m).1
   ·cases h
  ·cases h
 ·exact hd _ _ _ h
theorem qgc (GX:GX K mg S.xc) (hb:∀ x∈zwj,mg x=none) {n:Str}{j:Nat} (hj:S.slot n=some j) (hmj:S.msF j=false) (xs:XS X P w K mg base lvl S Wx) (sm:SM X M K S Wx) {a:Addr}{st:Stmt}{f:Fs} (h:zhs S n j st=some f):PS (Cx.inh X (.ref a)) st (tS M f):=by
 unfold zhs at h
 split at h
 ·rename_i x e he
  obtain ⟨px,pa,rfl⟩:=qmj he
  split at h
  ·rename_i i f1 v1 hi h1
   split at h
   ·rename_i hc
    cases h
    have g:=zkv (a:=a) GX hb hj xs (sm.ms.k xs) (sm.al j) _ _ _ _ h1
    have hN:X.N.Nodup:=by rw [xs.N];exact sm.nd
    exact zxg (zgw (X:=Cx.inh X (.ref a)) hN (by show X.N[i]?=_;rw [xs.N];exact zzv hi) (by show Loc X.env.scope x;rw [xs.sc];exact zmi hc.1) g.2 (zfl hc.2.2.2) (.inl (sm.fn x))) λ D σ H q=>zgm sm.al (λ i hi=>by rw [g.1 i hi,sm.ms.ms];exact hmj) (by rw [sm.ms.ms];exact hc.2.2.1) (zzf hc.2.1 sm) q
   ·cases h
  ·cases h
 ·cases h
theorem qgd (GX:GX K mg S.xc) (hb:∀ x∈zwj,mg x=none) {n:Str}{j:Nat} (hj:S.slot n=some j) (hmj:S.msF j=false) (xs:XS X P w K mg base lvl S Wx) (sm:SM X M K S Wx) {a:Addr}:∀ (sts:List Stmt) (f:Fs),zqq (zhs S n j) sts=some f->PSs (Cx.inh X (.ref a)) sts (tS M f)
 | [],f,h=>by cases h;exact zbg qb0 λ D σ H q=>qft q
 | [s],f,h=>zyf (qgc GX hb hj hmj xs sm h)
 | s::s'::r,f,h=>by
  unfold zqq at h
  split at h
  ·rename_i f1 f2 h1 h2
   cases h
   exact zbg (zgv (qgc GX hb hj hmj xs sm h1) (qgd GX hb hj hmj xs sm (s'::r) f2 h2)) λ D σ H q=>qfs q
  ·cases h
theorem qc4 (GX:GX K mg S.xc) (hb:∀ x∈zwj,mg x=none) {n:Str}{j:Nat} (hj:S.slot n=some j) (hmj:S.msF j=false) (xs:XS X P w K mg base lvl S Wx) (sm:SM X M K S Wx):∀ {hs:List ve5}{l:List (Nat×Fs)},hdsH S n j hs=some l->∃ L:List Hh,hs=L.map (Hh.stm n)/\L.map (λ h:Hh=>(h.d,h.T))=l.map (λ p=>(p.1,tS M p.2))/\∀ h∈L,h.Ok X/\h.d∈S.xc
 | [],l,h=>by
  cases h
  exact ⟨[],rfl,rfl,λ _ z=>nomatch z⟩
 | hh::r,l,h=>by
  unfold hdsH at h
  split at h
  ·rename_i y n' b bs l' e1 e2
   split at h
   ·rename_i d f f1 f2
    split at h
    ·rename_i hc
     cases h
     obtain ⟨rfl,hx,hy⟩:=hc
     obtain ⟨L,g1,g2,g3⟩:=qc4 GX hb hj hmj xs sm e2
     obtain ⟨np,hpos,rfl⟩:=ql2 e1
     have hdm:d∈S.xc:=by simpa using hx
     obtain ⟨ht,_,hcs⟩:=GX (λ z=>by rw [z] at hdm;cases hdm)
     obtain ⟨y',C,hx',hC,hmg,hdb⟩:=(hcs d hdm).1 (qc2 f1)
     have ey:y'=y:=by
      have:=zvk f1
      rw [hx'] at this
      exact Option.some.inj this
     subst ey
     refine ⟨⟨y',np,hpos,b,bs,d,C,tS M f⟩::L,by rw [jb9,<- g1];rfl,by rw [jb9,jb9,g2],λ h hh=>?_⟩
     rcases ja9.mp hh with e | hh
     ·rw [e]
      exact ⟨⟨by rw [xs.K];exact hC,xs.gl hy,by rw [xs.mg];exact hmg,hdb,λ a=>qgd GX hb hj hmj xs sm _ _ f2⟩,hdm⟩
     ·exact g3 h hh
    ·cases h
   ·cases h
  ·cases h
theorem qax (GX:GX K mg S.xc) (G:GS P w K mg base lvl S.Γ) (Gm:GSm P w K mg base lvl S.Γm) (hS:∀ i,∀ j∈S.alF i,S.msF j=false) {body:List Stmt}{hs:List ve5}{o fi:List Stmt}{pos:Pos}{f:Fs} (h:zgc S body hs o fi=some f):zfi P w K mg base lvl S (.Try body hs o fi pos) f:=by
 unfold zgc at h
 split at h
 ·rename_i h0 r
  split at h
  ·rename_i y n b0 bs0 e0
   split at h
   ·rename_i j b hj hbd
    split at h
    ·rename_i hc
     obtain ⟨l,hl,e2⟩:=ja5.mp h
     cases e2
     intro Wx X M xs sm
     obtain ⟨L,e1,e2,e3⟩:=qc4 GX G.1 hj hc.2.2 xs sm hl
     cases L with
     | nil=>cases e1
     | cons L0 L=>
      rw [jb9] at e1
      have ht:xTab K=true:=by
       have:=(e3 L0 ja2).2
       exact (GX (λ z=>by rw [z] at this;cases this)).1
      have nms:∀ i,M.Ms i=S.ms.contains i:=λ i=>by rw [sm.ms.ms];rfl
      have hN:X.N.Nodup:=by rw [xs.N];exact sm.nd
      have base:=qh1 (X:=X) (tb:=λ W'=>tR (M.want W') b) (body:=body) (n:=n) (pos:=pos) (h0:=L0) (hs:=L) (j:=j)
       (by rw [xs.K];exact ht) sm.st sm.fr hN (by rw [xs.N];exact zzv hj) (by show X.env.scope.names.lookup n=_;rw [xs.sc];exact zxk hc.1) sm.fn (λ h hh=>(e3 h hh).1) (λ pn' xe' W' hp ho=>?_)
      ·rw [<- e1] at base
       refine zxg base λ D σ H q=>?_
       have mk:=sm.ms.k xs
       rw [<- mk,e2]
       exact qg2 sm.al nms (by rw [sm.ms.ms];exact hc.2.2) (zzf hc.2.1 sm) q
      ·refine qe5 (S:=S.nr) GX G Gm hS 10 body b hbd _ _ (Wx:=W') ⟨xs.prog,xs.w,xs.K,xs.mg,xs.base,xs.N,xs.sc,xs.calm,xs.room,ho,hp,λ z=>nomatch z⟩ ⟨⟨sm.ms.K,sm.ms.ms,sm.ms.al,sm.ms.als,rfl,sm.ms.pn⟩,sm.al,sm.io,sm.pn,sm.fn,sm.nd,sm.st,sm.fr⟩
    ·cases h
   ·cases h
  ·cases h
 ·cases h
theorem zgd (GX:GX K mg S.xc) (G:GS P w K mg base lvl S.Γ) (Gm:GSm P w K mg base lvl S.Γm) (hS:∀ i,∀ j∈S.alF i,S.msF j=false) {d:Stmt->Option Fs} (ih:∀ (st:Stmt) (f:Fs),d st=some f->zfi P w K mg base lvl S st f):∀ (st:Stmt) (f:Fs),zvx d S st=some f->zfi P w K mg base lvl S st f:=by
 have hd:∀ e f vs,den 60 S e=some (f,vs)->Good P w K mg base lvl S e f vs:=λ e f vs h=>zjq GX G Gm 60 S e f vs rfl rfl rfl hS h
 have hdO:∀ e f vs,denO S e=some (f,vs)->Good P w K mg base lvl S e f vs:=λ e f vs h=>qi0 hd h
 have hdA:∀ e f vs,denA S e=some (f,vs)->Good P w K mg base lvl S e f vs:=λ e f vs h=>by
  unfold denA at h
  split at h
  ·cases h
   exact zqn (λ _ z=>nomatch z) rfl (λ _ _=>rfl) λ X M xs m=>qkm
  ·exact hd _ _ _ h
 intro st f h
 have core:True->zfi P w K mg base lvl S st f:=λ _=>by
  unfold zvx at h
  split at h
  ·rename_i x np m j p cpos pos
   split at h
   ·rename_i c hc
    cases h
    intro Wx X M xs sm
    exact qee GX hc xs sm.ms.W λ D σ H q=>qj1 q
   ·cases h
    intro Wx X M xs sm pins s σ H D I q
    exact (zbh pins s σ H D I (qg7 (t:=zgn) q))
  ·cases h
   intro Wx X M xs sm pins s σ H D I q
   exact (zbh pins s σ H D I (qg7 (t:=zgn) q))
  ·exact λ {Wx}=>qax GX G Gm hS h
  ·rename_i v pos
   unfold denX at h
   split at h
   ·rename_i fn es cpos
    split at h
    ·rename_i o at' apos
     split at h
     ·rename_i x e hx
      obtain ⟨px,rfl⟩:=zzm hx
      unfold qma at h
      split at h
      ·rename_i hat
       subst hat
       split at h
       ·rename_i i f1 v1 hi he
        split at h
        ·rename_i hc
         cases h
         have g:=hd _ _ _ he
         intro Wx X M xs sm
         have hb:=qcb (X:=X) (cpos:=cpos) PySem.F.plainAttrs_list PySem.F.slot_list_append PySem.F.type_list_append zyg (xs.var (pos:=px) hi) (zxp (g.2.2 X M xs sm.ms).1 zvc (zqk (zqg g.2.1))) rfl (zzx g.2.1 X.env cpos) hc.2 (zqk (zqg g.2.1)) rfl
         refine zxg (zbi hb rfl) λ D σ H q=>?_
         have:=qj2 (D:=D) sm.al (sm.ms.v g.1) (by rw [sm.ms.ms];exact hc.1) q
         rw [sm.ms.k xs] at this
         exact this
        ·cases h
       ·cases h
      ·cases h
     ·rename_i e hx
      unfold ql9 at h
      split at h
      ·rename_i b i pi
       split at h
       ·rename_i x hb
        obtain ⟨px,rfl⟩:=zzm hb
        split at h
        ·rename_i s fi vi f1 v1 hs hi he
         split at h
         ·rename_i hc
          obtain ⟨rfl,hm,hi2,hln⟩:=hc
          cases h
          have g:=hd _ _ _ he
          intro Wx X M xs sm
          have hb:=qcb (X:=X) (cpos:=cpos) PySem.F.plainAttrs_list PySem.F.slot_list_append PySem.F.type_list_append zyg (qb9 (pos:=pi) zbu (xs.var (pos:=px) hs) ((hd _ _ _ hi).2.2 X M xs sm.ms).1 (zwy hi2)) (zxp (g.2.2 X M xs sm.ms).1 zvc (zqk (zqg g.2.1))) rfl (zzx g.2.1 X.env cpos) hln (zqk (zqg g.2.1)) rfl
          refine zxg (zbi hb rfl) λ D σ H q=>?_
          have:=qg8 (D:=D) (vs:=v1) (vi:=vi) sm.al (by rw [sm.ms.ms];exact hm) q
          rw [sm.ms.k xs] at this
          exact this
         ·cases h
        ·cases h
       ·cases h
      ·cases h
     ·cases h
    ·rename_i x p
     split at h
     ·rename_i f1 v1 he
      cases h
      intro Wx X M xs sm
      exact zxg (zbi ((hd _ _ _ he).2.2 X M xs sm.ms).1 rfl) λ D σ H q=>qba q
     ·cases h
    ·cases h
   ·cases h
  ·rename_i t e pos
   unfold qgp at h
   split at h
   ·rename_i es k p
    split at h
    ·rename_i is f1 v1 hs he
     split at h
     ·rename_i hc
      cases h
      have g:=hd _ _ _ he
      intro Wx X M xs sm
      obtain ⟨h1,h2,h3,h4⟩:=zyb hs xs sm
      have mk:M.K=X.K:=sm.ms.k xs
      refine zxg (zpx (g.2.2 X M xs sm.ms).1 (qb6 xs.calm h1 h2 h3) ?_ ?_ ?_) λ D σ H q=>?_
      ·cases e <;> first | rfl | (cases hc.1)
      ·cases e <;> first | rfl | (cases hc.2)
      ·rfl
      ·have:=qjy sm.al (sm.ms.v g.1) (qiu h4) q
       rw [mk] at this
       exact this
     ·cases h
    ·cases h
   ·rename_i x px
    split at h
    ·rename_i i f1 v1 hi he
     split at h
     ·rename_i hc
      cases h
      have g:=hdA _ _ _ he
      intro Wx X M xs sm
      have hN:X.N.Nodup:=by rw [xs.N];exact sm.nd
      have hi':X.N[i]?=some x:=by rw [xs.N];exact zzv hi
      have hx:Loc X.env.scope x:=by rw [xs.sc];exact zmi hc.1
      have mi:M.Ms i=S.msF i:=by rw [sm.ms.ms]
      cases hcp:zmn e with
      | false=>exact zxg (zgw hN hi' hx (g.2.2 X M xs sm.ms).1 (zfl hcp) (.inl (sm.fn x))) λ D σ H q=>zgm sm.al (sm.ms.v g.1) mi (zzf hc.2 sm) q
      | true=>
       cases e with
       | ListComp elt gs scope cpos=>
        obtain ⟨tg,ys,asg,it,ifs,iw,t,g2,vE,rfl,cp,rfl,rfl⟩:=qe4 GX G Gm hS (show den 60 S _=_ from he)
        obtain ⟨wi,gg,h1,h2,h3,h4,h5,h6⟩:=zju (pos:=cpos) cp xs sm.ms
        refine qk2 (qah hN hi' hx (.inl (sm.fn x)) h2 xs.calm h1 h3 h4 h5 (zbw (n:=0) (f:=g2) (vs:=[]) cp.iwo.2.1)) λ D σ H hl q=>?_
        exact h6 σ H _ (by rw [hl,xs.N]) (zgm sm.al (sm.ms.v g.1) mi (zzf hc.2 sm) q)
       | SetComp _ _ _ _=>simp [denA,den,zzj] at he
       | DictComp _ _ _ _ _=>simp [denA,den,zzj] at he
       | _=>cases hcp
     ·cases h
    ·cases h
   ·rename_i t k ps
    unfold qgl at h
    split at h
    ·rename_i x px
     split at h
     ·rename_i k hk
      obtain ⟨k',pk,rfl⟩:=qf9 hk
      split at h
      ·rename_i i f1 v1 hi he
       cases h
       have g:=hd _ _ _ he
       intro Wx X M xs sm
       refine zxg (zpx (g.2.2 X M xs sm.ms).1 (zgz (xs.var hi) zha zkq) ?_ ?_ rfl) λ D σ H q=>qj0 sm.al (sm.ms.v g.1) q
       ·cases e <;> rfl
       ·cases e <;> rfl
      ·cases h
     ·rename_i hk
      split at h
      ·rename_i f' hp
       cases h
       unfold putV at hp
       split at hp
       ·rename_i z y1 py1 b1 q1 hz
        obtain ⟨pz,rfl⟩:=zzm hz
        split at hp
        ·rename_i i j f1 v1 hi hj he
         split at hp
         ·rename_i hc
          cases hp
          have g:=hd _ _ _ he
          intro Wx X M xs sm
          exact zxg (zpx (g.2.2 X M xs sm.ms).1 (zgz (xs.var hi) (xs.var hj) zkq (λ _=>rfl)) rfl rfl rfl) λ D σ H q=>qg5 sm.al (sm.ms.v g.1) (by rw [sm.ms.ms];exact hc) q
         ·cases hp
        ·cases hp
       ·cases hp
      split at h
      ·rename_i i fk vk f1 v1 hi hk he
       split at h
       ·rename_i hc
        cases h
        have g:=hdO _ _ _ he
        intro Wx X M xs sm
        refine zxg (zpx (g.2.2 X M xs sm.ms).1 (zgz (xs.var hi) ((hd _ _ _ hk).2.2 X M xs sm.ms).1 (PSet.or zkq (qms (by have:=xs.room.units;omega))) ?_) ?_ ?_ rfl) λ D σ H q=>qg4 sm.al (by rw [sm.ms.ms];exact hc.1) (sm.ms.v g.1) q
        ·intro v
         cases k <;> first | rfl | (cases hc.2)
        ·cases e <;> rfl
        ·cases e <;> rfl
       ·cases h
      ·cases h
    ·rename_i b i pi
     split at h
     ·rename_i x hx
      obtain ⟨px,rfl⟩:=zzm hx
      split at h
      ·rename_i s fi vi fj vj f1 v1 hs hi hj he
       split at h
       ·rename_i hc
        cases h
        intro Wx X M xs sm
        have mk:M.K=X.K:=sm.ms.k xs
        refine zxg (zpx ((hdO _ _ _ he).2.2 X M xs sm.ms).1 (zgz (qb9 zbu (xs.var hs) ((hd _ _ _ hi).2.2 X M xs sm.ms).1 (zwy hc.2.1)) ((hd _ _ _ hj).2.2 X M xs sm.ms).1 zkq ?_) ?_ ?_ rfl) λ D σ H q=>?_
        ·intro v
         cases k <;> first | rfl | (cases hc.2.2)
        ·cases e <;> rfl
        ·cases e <;> rfl
        ·have:=qg6 (vs:=v1) (vi:=vi) (vj:=vj) sm.al (by rw [sm.ms.ms];exact hc.1) q
         rw [mk] at this
         exact this
       ·cases h
      ·cases h
     ·cases h
    ·cases h
   ·cases h
  ·split at h
   ·rename_i f1 v1 s t hc ha hb
    cases h
    intro Wx X M xs sm
    exact zxg (qk3 (qiy GX G Gm hS hc xs sm.ms) (zzr ih _ _ ha X M xs sm) (zzr ih _ _ hb X M xs sm)) λ D σ H q=>qmq q
   ·cases h
  ·rename_i t it body pos
   unfold qgo at h
   split at h
   ·rename_i x px
    split at h
    ·rename_i i iw b hi hw hb
     split at h
     ·rename_i hc
      cases h
      intro Wx X M xs sm
      have hN:X.N.Nodup:=by rw [xs.N];exact sm.nd
      have hi':X.N[i]?=some x:=by rw [xs.N];exact zzv hi
      have hx:Loc X.env.scope x:=by rw [xs.sc];exact zmi hc.1
      have giw:=zbz hd (zby 60 S) G.1 hw
      have hbd:=zjr hd ih hb X M xs sm
      have hg:GOk M [] [i] (zyl i) (asgN i):=qge ⟨by rw [sm.ms.ms];exact hc.2.2.1,zzf hc.2.1 sm,sm.al i,sm.ms.als⟩
      have hpg:PG X (.Name x px) (zyl i):=zbk hN hi' hx (.inl (sm.fn x))
      have hpi:=giw.2.2 X M xs sm.ms (.Name x px)
      have hf:=zbw (n:=0) (env:=X.env) (f:=bVar 0) (vs:=[]) giw.2.1
      cases iw with
      | rng en fa vs=>
       rcases hpi with ⟨rfl,hpi⟩ | ⟨rfl,hpi⟩
       ·exact zxg (zjg (zzy xs) xs.calm hpi hpg hbd hf) λ D σ H q=>qa9 hg q
       ·exact zxg (zjg (zzy xs) xs.calm hpi hpg hbd hf) λ D σ H q=>qa8 hg q
      | seq f vs=>exact zxg (zjg (zzy xs) xs.calm hpi hpg hbd hf) λ D σ H q=>qa7 sm.al (sm.ms.v giw.1) hg q
      | vw v fa vs=>exact hpi.elim
     ·cases h
    ·cases h
   ·rename_i es k p
    split at h
    ·rename_i is iw b hs hw hb
     cases h
     intro Wx X M xs sm
     have giw:=zbz hd (zby 60 S) G.1 hw
     have hbd:=zjr hd ih hb X M xs sm
     obtain ⟨h1,h2,h3,h4⟩:=zyb hs xs sm
     have mk:M.K=X.K:=sm.ms.k xs
     have hg:=qiu (M:=M) (al:=[]) h4
     have hpg:=qb6 (pos:=p) (k:=k) xs.calm h1 h2 h3
     rw [<- mk] at hpg
     have hpi:=giw.2.2 X M xs sm.ms (.Tuple es k p)
     have hf:=zbw (n:=0) (env:=X.env) (f:=bVar 0) (vs:=[]) giw.2.1
     cases iw with
     | rng en fa vs=>
      rcases hpi with ⟨rfl,hpi⟩ | ⟨rfl,hpi⟩
      ·exact zxg (zjg (zzy xs) xs.calm hpi hpg hbd hf) λ D σ H q=>qa9 hg q
      ·exact zxg (zjg (zzy xs) xs.calm hpi hpg hbd hf) λ D σ H q=>qa8 hg q
     | seq f vs=>exact zxg (zjg (zzy xs) xs.calm hpi hpg hbd hf) λ D σ H q=>qa7 sm.al (sm.ms.v giw.1) hg q
     | vw v fa vs=>exact hpi.elim
    ·cases h
   ·cases h
  ·rename_i t op e pos
   cases h
  ·rename_i e pos
   unfold qgj at h
   split at h
   ·rename_i x hx
    obtain ⟨px,rfl⟩:=zzm hx
    split at h
    ·rename_i i hi
     split at h
     ·cases h
     ·rename_i hm
      cases h
      intro Wx X M xs sm
      exact zxg (qfz (xs.var hi)) λ D σ H q=>qg3 sm.al (by rw [sm.ms.ms];simpa using hm) q
    ·cases h
   ·rename_i hx
    split at h
    ·rename_i f1 v1 he
     cases h
     intro Wx X M xs sm
     exact zxg (qfz ((hd _ _ _ he).2.2 X M xs sm.ms).1) λ D σ H q=>qjz (sm.ms.v (hd _ _ _ he).1) q
    ·cases h
  ·cases h
 exact λ {Wx}=>core trivial
theorem qe6 (GX:GX K mg S.xc) (G:GS P w K mg base lvl S.Γ) (Gm:GSm P w K mg base lvl S.Γm) (hS:∀ i,∀ j∈S.alF i,S.msF j=false):∀ (n:Nat) (st:Stmt) (f:Fs),qdb n S st=some f->zfi P w K mg base lvl S st f:=by
 intro n
 induction n with
 | zero=>intro st f h;cases h
 | succ n ih=>
  intro st f h
  replace h:some ((zvx (qdb n S) S st).getD sNo)=some f:=h
  cases e0:zvx (qdb n S) S st with
  | none=>
   rw [e0] at h
   cases h
   intro Wx X M xs sm pins s σ H D I q
   exact (zbh pins s σ H D I (qg7 (t:=zgn) q))
  | some f'=>
   rw [e0] at h
   cases h
   exact λ {Wx}=>zgd GX G Gm hS ih _ _ e0
def denS:Nat->Sx->Stmt->Option Fs:=qdb
theorem qiz (GX:GX K mg S.xc) (G:GS P w K mg base lvl S.Γ) (Gm:GSm P w K mg base lvl S.Γm) (hS:∀ i,∀ j∈S.alF i,S.msF j=false):∀ (n:Nat) (st:Stmt) (f:Fs),denS n S st=some f->zfi P w K mg base lvl S st f:=qe6 GX G Gm hS
def zwp:Bool->List PV->Rho
 | true,x::xr=>some (x,om)::xr.map λ x=>some (x,dv x)
 | _,xs=>xs.map λ x=>some (x,dv x)
def finF (io:Bool) (y:PV) (d:Nat) (ρ:Rho):Rz (PV×Nat×PV):=match io with
 | false=>.ok (y,d,.non)
 | true=>match ρ[0]? with
  | some (some (z,_))=>.ok (y,d,z)
  | _=>.no
def mkFn (io:Bool) (np k:Nat) (b:Fs):Fn:=λ xs=>if xs.length=np then (match b (zwp io xs++ja6 k none) with
 | .rt y d ρ=>finF io y d ρ
 | .nx ρ=>finF io .non om ρ
 | .exc c=>.exc c
 | _=>.no) else .no
theorem zxr {io:Bool}{np k:Nat}{b:Fs}:∀ xs,xs.length≠np->mkFn io np k b xs=.no:=λ xs h=>by
 unfold mkFn
 rw [if_neg h]
theorem zjd {io:Bool}{xs:List PV}{i:Nat}{x:PV}{d:Nat} (h:(zwp io xs)[i]?=some (some (x,d))):xs[i]?=some x/\(d=dv x\/(io=true/\i=0/\d=om)):=by
 cases io with
 | false=>
  have h':(xs.map λ x=>(some (x,dv x):Slot))[i]?=some (some (x,d)):=h
  rw [jd2] at h'
  cases e:xs[i]? with
  | none=>rw [e] at h';cases h'
  | some y=>rw [e] at h';cases h';exact ⟨rfl,.inl rfl⟩
 | true=>
  cases xs with
  | nil=>simp [zwp] at h
  | cons y r=>
   cases i with
   | zero=>
    have h':some (some (y,om):Slot)=some (some (x,d)):=h
    cases h'
    exact ⟨rfl,.inr ⟨rfl,rfl,rfl⟩⟩
   | succ i=>
    have h':(r.map λ x=>(some (x,dv x):Slot))[i]?=some (some (x,d)):=h
    rw [jd2] at h'
    cases e:r[i]? with
    | none=>rw [e] at h';cases h'
    | some y'=>rw [e] at h';cases h';exact ⟨by simpa using e,.inl rfl⟩
theorem qaf (io:Bool) (xs:List PV):(zwp io xs).length=xs.length:=by
 cases io <;> cases xs <;> simp [zwp]
theorem qiv {x qual:Str}{st:Stmt}{f:Addr}{fd:vc5}{N ps:List Str}{k:Nat}{sp:Sp} (F:Fun K x qual st f fd) (S:FnScope N ps (zqc st)) (len:∀ vs H Q E,sp vs H Q E->vs.length=ps.length)
  (hbody:∀ (cdv:va0) (A:vc0) (outer:List Env) (s:va1) (H:Hp) (vs:List V) (Q:VK) (E:XK),Room k (A.deeper (vk7 qual (zqc st) s.heap.objs.size f cdv))->sp vs H Q E ->
   ∃ t,PSs (cxOf (CXr P w K) P w K mg base N qual (zqc st) f cdv A outer s H E) (zqj st) t/\t { nx:=λ _ H'=>Q .non H',rt:=Q } (L2.start N vs) H):FnOk P w K mg base (CXr P w K) (k + 1) f fd ps sp:=by
 obtain ⟨oc,od,kV,doc,pm,an,cdv,ct,osl,rfl,lk,hcd⟩:=F.ex
 exact qnd lk hcd S len λ A outer s H vs Q E hr hsp=>hbody cdv A outer s H vs Q E hr hsp
theorem qng {x qual:Str}{st:Stmt}{fa:Addr}{fd:vc5}{ps:List Str}{np k:Nat}{io:Bool}{b:Fs} (Fu:Fun K x qual st fa fd) (FS:FnScope S.N ps (zqc st)) (hsc:S.sc=zqc st) (hal:S.al=[]) (hnp:ps.length=np) (hk:S.N.length=np + k)
  (hms:∀ i∈S.ms,i < np->i=0/\io=true) (hio:io=true->S.msF 0=true/\0 < np) (GX:GX K mg S.xc) (G:GS P w K mg base lvl S.Γ) (Gm:GSm P w K mg base lvl S.Γm) (hb:zqq (denS 60 S) (zqj st)=some b):
  FnOk P w K mg base (CXr P w K) (lvl + 1) fa fd ps (spF K io np (mkFn io np k b)):=by
 have hS:∀ i,∀ j∈S.alF i,S.msF j=false:=λ i j hj=>by
  unfold Sx.alF at hj
  rw [hal] at hj
  simp at hj
 refine qiv Fu FS (λ vs H Q E h=>h.1.trans hnp.symm) λ cdv A outer s H vs Q E hr h=>?_
 obtain ⟨hl,xs,Zo,x0,v0,fp0,hZ,hz0,h1,h2,q⟩:=h
 let M:Fm:={ K:=K,Ms:=S.msF,Zo:=Zo,H₀:=H,W:=WE E H,io:=if io=true then some v0 else none,al:=λ _=>[] }
 have hxs:XS (cxOf (CXr P w K) P w K mg base S.N qual (zqc st) fa cdv A outer s H E) P w K mg base lvl S (WE E H):=⟨rfl,rfl,rfl,rfl,rfl,rfl,hsc.symm,rfl,hr,qh6,qem,λ _=>qbx⟩
 have hsm:SM (cxOf (CXr P w K) P w K mg base S.N qual (zqc st) fa cdv A outer s H E) M K S (WE E H):=by
  refine ⟨⟨rfl,rfl,λ i _=>?_,(λ i j hj=>nomatch hj),rfl,λ _ h=>nomatch h⟩,λ _=>rfl,λ h=>?_,(λ _ h=>nomatch h),λ _=>rfl,FS.nd,rfl,rfl⟩
  ·show []=S.al.getD i []
   rw [hal];rfl
  ·have h':(if io=true then some v0 else none)≠none:=h
   cases io with
   | true=>exact (hio rfl).1
   | false=>exact absurd rfl h'
 refine ⟨tS M b,zzr (qiz GX G Gm hS 60) _ _ hb _ M hxs hsm,zwp io xs++ja6 k none,λ i=>if i=0 then fp0 else [],?_,?_⟩
 ·have hlen:xs.length=vs.length:=by
   cases io with
   | false=>exact (h1 rfl).2.length.symm
   | true=>obtain ⟨xr,wr,rfl,rfl,_,o⟩:=h2 rfl;rw [jc0,jc0,o.length]
  have each:∀ i y d,(zwp io xs)[i]?=some (some (y,d))->∃ v,vs[i]?=some v/\Own K H (λ a=>Zo a\/a∈fp0) y d v (if i=0 then fp0 else []):=λ i y d e=>by
   obtain ⟨e1,e2⟩:=zjd e
   cases io with
   | false=>
    obtain ⟨rfl,o⟩:=h1 rfl
    obtain ⟨v,ev,ov⟩:=o.nth e1
    rcases e2 with rfl | ⟨z,_⟩
    ·refine ⟨v,ev,?_⟩
     rw [ite_self]
     exact ov.dv.weak λ a h=>h.elim id λ z=>nomatch z
    ·cases z
   | true=>
    obtain ⟨xr,wr,rfl,rfl,o0,o⟩:=h2 rfl
    cases i with
    | zero=>
     simp [zwp] at e
     obtain ⟨rfl,rfl⟩:=e
     exact ⟨v0,rfl,Own.full _ _ _ o0⟩
    | succ i=>
     obtain ⟨v,ev,ov⟩:=o.nth (j:=i) (by simpa using e1)
     rcases e2 with rfl | ⟨_,z,_⟩
     ·refine ⟨v,by simpa using ev,?_⟩
      rw [if_neg (jl8 i)]
      exact ov.dv
     ·cases z
  have inl:∀ i p,(zwp io xs++ja6 k none)[i]?=some (some p)->(zwp io xs)[i]?=some (some p):=λ i p e=>by
   by_cases hi:i < (zwp io xs).length
   ·rw [jb7 hi] at e;exact e
   ·rw [jc5 (by omega),jd1] at e
    split at e <;> cases e
  have domF:∀ a∈fp0,H a≠none:=λ a ha=>by
   cases io with
   | false=>rw [(h1 rfl).1] at ha;cases ha
   | true=>
    obtain ⟨xr,wr,rfl,rfl,o0,o⟩:=h2 rfl
    obtain ⟨ys,e⟩:=Own.lsts _ _ _ _ o0 a ha
    rw [e];simp
  refine ⟨λ i y d e=>?_,λ i h=>?_,λ i j hij a ha hb'=>?_,λ i a ha=>?_,λ i hi a ha=>?_,hZ,?_,λ i y d hi e=>?_,λ a h=>h,⟨λ v hv=>?_,λ _ h=>(nomatch h)⟩⟩
  ·obtain ⟨v,ev,ov⟩:=each i y d (inl i _ e)
   refine ⟨v,?_,ov.weak λ a h=>?_⟩
   ·unfold L2.start
    rw [jb7 (by rw [jb5];exact (ja8.mp ev).1),jd2,ev]
    rfl
   ·rcases h with h | ⟨j,_,h⟩
    ·exact .inl h
    ·by_cases ej:j=0
     ·simp only [if_pos ej] at h;exact .inr h
     ·simp only [if_neg ej] at h;cases h
  ·by_cases hi:i=0
   ·subst hi
    rw [if_pos rfl]
    cases io with
    | false=>exact (h1 rfl).1
    | true=>
     obtain ⟨xr,wr,rfl,rfl,_,_⟩:=h2 rfl
     exact absurd rfl (h (x0,om))
   ·rw [if_neg hi]
  ·by_cases e1:i=0
   ·by_cases e2:j=0
    ·exact hij (e1.trans e2.symm)
    ·rw [if_neg e2] at hb';cases hb'
   ·simp only [if_neg e1] at ha;cases ha
  ·by_cases e1:i=0
   ·simp only [if_pos e1] at ha;exact hz0 a ha
   ·simp only [if_neg e1] at ha;cases ha
  ·by_cases e1:i=0
   ·simp only [if_pos e1] at ha
    cases io with
    | false=>rw [(h1 rfl).1] at ha;cases ha
    | true=>
     have:=(hio rfl).1
     have hi':S.msF i=false:=hi
     rw [e1,this] at hi';cases hi'
   ·simp only [if_neg e1] at ha;cases ha
  ·unfold L2.start
   rw [jb8,qaf,je0,jb8,jb5,je0,hlen,hl,hk]
   omega
  ·have hm:i∈S.ms:=by
    have hi':S.msF i=true:=hi
    unfold Sx.msF at hi'
    simpa using hi'
   obtain ⟨e1,e2⟩:=zjd (inl i _ e)
   have hlt:i < np:=by
    have:=(ja8.mp e1).1
    rw [hlen,hl] at this;exact this
   obtain ⟨rfl,rfl⟩:=hms i hm hlt
   obtain ⟨xr,wr,rfl,rfl,_,_⟩:=h2 rfl
   have e':=inl 0 _ e
   simp [zwp] at e'
   exact e'.2.symm
  ·have hv':(if io=true then some v0 else none)=some v:=hv
   cases io with
   | false=>cases hv'
   | true=>
    cases hv'
    obtain ⟨xr,wr,rfl,rfl,_,_⟩:=h2 rfl
    exact ⟨rfl,(hio rfl).1⟩
 ·unfold mkFn at q
  have hlen:xs.length=np:=by
   by_cases e:xs.length=np
   ·exact e
   ·rw [if_neg e] at q;exact q.elim
  rw [if_pos hlen] at q
  have fin:∀ {y:PV}{d:Nat}{ρ':Rho}{v:V}{σ':St}{H':Hp}{fps':Fps}{fp:List Addr},(match finF io y d ρ' with
    | .ok (y,d,z0)=>∀ v H' fp fp0',Keep (λ a=>a∈fp0) H H'->(∀ a,H a≠none->H' a≠none)->(∀ a∈fp0',a∈fp0\/H a=none)->(∀ a∈fp0',¬ Zo a)->(io=false->fp0'=[])->(io=true->Own K H' (λ _=>True) z0 om v0 fp0') ->
      Own K H' (λ a=>(Zo a\/a∈fp0')\/a∈fp) y d v fp->(∀ a∈fp,H a=none/\¬ (Zo a\/a∈fp0'))->Q v H'
    | .exc c=>∀ H',Keep (λ a=>a∈fp0) H H'->(∀ a,H a≠none->H' a≠none)->E (.int (c:Int) 0) none H'
    | .no=>False)->KS M H (λ i=>if i=0 then fp0 else []) H' fps'->Rep M ρ' σ' H' fps'->Own M.K H' (λ a=>Zr M fps' a\/a∈fp) y d v fp->(∀ a∈fp,M.H₀ a=none/\¬ Zr M fps' a)->Q v H':=λ {y d ρ' v σ' H' fps' fp} q ks rp oy hf=>by
   have kp:Keep (λ a=>a∈fp0) H H':=λ a o h n=>ks.keep a o h λ ⟨i,hi⟩=>by
    by_cases e:i=0
    ·simp only [if_pos e] at hi;exact n hi
    ·simp only [if_neg e] at hi;cases hi
   cases io with
   | false=>
    refine q v H' fp [] kp ks.dom (λ _ z=>(nomatch z)) (λ _ z=>(nomatch z)) (λ _=>rfl) (λ h=>(nomatch h)) (oy.weak λ a h=>?_) λ a ha=>⟨(hf a ha).1,λ z=>(hf a ha).2 ?_⟩
    ·rcases h with (h | h) | h
     ·exact .inl (.inl h)
     ·cases h
     ·exact .inr h
    ·rcases z with z | z
     ·exact .inl z
     ·cases z
   | true=>
    unfold finF at q
    cases e0:ρ'[0]? with
    | none=>dsimp only at q;rw [e0] at q;exact q.elim
    | some s0=>
     dsimp only at q
     rw [e0] at q
     cases s0 with
     | none=>exact q.elim
     | some p0=>
      obtain ⟨z,dz⟩:=p0
      have hdz:=rp.msf 0 z dz (hio rfl).1 e0
      subst hdz
      obtain ⟨u,hu,ou⟩:=rp.own 0 z om e0
      have hu0:=(rp.iov.1 v0 rfl).1
      rw [hu] at hu0
      cases hu0
      refine q v H' fp (fps' 0) kp ks.dom (λ a ha=>?_) (λ a ha=>rp.zo 0 a ha) (λ h=>(nomatch h)) (λ _=>Own.full _ _ _ ou) (oy.weak λ a h=>?_) λ a ha=>⟨(hf a ha).1,λ z=>(hf a ha).2 ?_⟩
      ·rcases ks.sub 0 a ha with ⟨j,hj⟩ | z
       ·by_cases e:j=0
        ·simp only [if_pos e] at hj;exact .inl hj
        ·simp only [if_neg e] at hj;cases hj
       ·exact .inr z
      ·rcases h with (h | h) | h
       ·exact .inl (.inl h)
       ·exact .inl (.inr ⟨(λ z=>nomatch z),h⟩)
       ·exact .inr h
      ·rcases z with z | z
       ·exact .inl z
       ·exact .inr ⟨(λ z=>nomatch z),z⟩
  cases eb:b (zwp io xs++ja6 k none) with
  | no=>rw [eb] at q;exact q
  | exc c=>
   rw [eb] at q
   refine λ σ' H' fps' ks=>⟨q H' (λ a o h n=>ks.keep a o h λ ⟨i,hi⟩=>?_) ks.dom,ks.dom⟩
   by_cases e:i=0
   ·simp only [if_pos e] at hi;exact n hi
   ·simp only [if_neg e] at hi;cases hi
  | bk ρ=>rw [eb] at q;exact q.elim
  | ct ρ=>rw [eb] at q;exact q.elim
  | rt y d ρ'=>
   rw [eb] at q
   exact λ v σ' H' fps' fp ks rp oy hf=>fin q ks rp oy hf
  | nx ρ'=>
   rw [eb] at q
   exact λ σ' H' fps' ks rp=>fin (fp:=[]) q ks rp (by rw [Own];exact ⟨rfl,rfl⟩) λ _ z=>nomatch z
end
open PySem PySem.Spec PySem.W PySem.Calls PyProof.Rows L2
theorem zpo {tb:String->Option Builtin}{p:va8}{w:vb7}{n₀:Nat}{ann:Option va0}:∀ {n:Nat}{s r:SharedT}{t:Thread},zkd tb p w n₀ ann n s t=some r->topRun tb p w n₀ ann n s.abs t=some r.abs
 | 0,_,_,_,h=>by cases h
 | n + 1,s,r,t,h=>by
  unfold zkd at h
  unfold topRun
  cases e1:through t with
  | true=>rw [e1] at h;cases h;rfl
  | false=>
   rw [e1] at h
   cases e2:stepOk n₀ ann t with
   | false=>rw [e2] at h;cases h
   | true=>
    rw [e2] at h
    cases e3:stepT (denote tb) p w s t with
    | none=>rw [e3] at h;cases h
    | some z=>obtain ⟨s₂,t₂⟩:=z;rw [e3] at h;rw [stepT_spec e3];exact zpo h
theorem qfg (P:Params) (os:OsState):(bootS P os).abs=⟨vc9 P,#[],boot_drawn,boot_toks,os⟩:=by kernel_rfl
theorem qje (P:Params):(vc9 P).isNs vc2=true:=by kernel_rfl
theorem qin {p q:va8}{loose:List Str}{Xt:va1->Bool}{α:Type}{Yf:va1->α}{Ya:vb7->α}{N:Nat} (e:opening p=plainProg p.main.scope.names) (hN:Nat.ble 600 N=true) (f:∀ s,fenceModules? p s=some s)
  (run:∀ (w:vb7) (os:OsState),(zkd treeTable p w (vc9 w.params).objs.size ((vc9 w.params).nsMap vc2 "__annotations__") N (bootS w.params os) (topStub p)).map (λ s=>zgb p q loose Xt Yf (vc9 w.params) s.abs)=some (true,openGood q loose,Ya w)):
  LeftO p q loose Xt Yf Ya N:=λ w=>by
 obtain ⟨⟨h,gs,d,k,os⟩,e1,e2⟩:=ja5.mp (boot_open e hN f w)
 obtain ⟨rfl,rfl,rfl,rfl⟩:h=vc9 w.params/\gs=#[]/\d=boot_drawn/\k=boot_toks:=by simpa using e2
 obtain ⟨s,r1,r2⟩:=ja5.mp (run w os)
 have r:=zpo r1
 rw [qfg] at r
 have r3:(_=_)/\(_ ,_)=(_,_):=vl1 r2
 obtain ⟨l1,l23⟩:=r3
 obtain ⟨l2,l3⟩:=vl1 l23
 have t:topFrom treeTable p w N ⟨vc9 w.params,#[],boot_drawn,boot_toks,os⟩=some s.abs:=by
  unfold topFrom
  dsimp only
  rw [qje,r]
  show (match staticsOk (vk6 p.main.body) (vc9 w.params) s.abs.heap && namesBound p s.abs.heap && gensDone s.abs && laidKept (vc9 w.params) s.abs.heap with | true=>_ | false=>_)=_
  rw [l1]
 unfold openEnds
 rw [e1]
 show (topFrom treeTable p w N _).map _=_
 rw [t]
 exact congrArg some (Prod.ext l2 l3)
theorem qlr (h:Heap):(kof h).In h:=by
 intro a o
 unfold kof
 generalize jd4 h.objs.size=l
 induction l with
 | nil=>intro e;cases e
 | cons b l ih=>
  intro e
  rw [jg1] at e
  cases g:h.get? b with
  | none=>rw [g] at e;exact ih e
  | some z=>
   rw [g] at e
   dsimp only [jg9] at e
   rw [jc7] at e
   split at e
   ·rename_i q
    cases e
    rw [beq_iff_eq.mp q]
    exact g
   ·exact ih e
theorem qmd {K:Frag}{x:Str}{st:Stmt} (e:zgf K x=some (qdc x st)):∃ (g:Addr) (fd:vc5),nsIn K vc2 x=some (some (.ref g))/\Fun K x x st g fd:=by
 unfold zgf at e
 split at e
 ·rename_i g hg
  split at e
  ·rename_i oc od fd sl hl
   cases fd
   unfold qdc at e
   simp only [Option.some.injEq,DefSeen.mk.injEq] at e
   obtain ⟨rfl,rfl,rfl,rfl,rfl,rfl,rfl,rfl,rfl,hc⟩:=e
   refine ⟨g,_,hg,ql4 hl hc ?_⟩
   unfold keepIn
   dsimp only
   rw [hl]
  ·cases e
 ·cases e
structure Given (ds:List (Str×Stmt)) (xc:List Nat) (K:Frag) (mg:Str->Option va0):Prop where
 df:∀ (i:Nat) (x:Str) (st:Stmt),ds[i]?=some (x,st)->∃ (g:Addr) (fd:vc5),mg x=some (.ref g)/\Fun K x x st g fd
 bn:∀ x∈zwj,mg x=none
 gx:GX K mg xc
theorem qcm {α β:Type}{f g:α->β}:∀ {l:List α},l.map f=l.map g->∀ {i:Nat}{a:α},l[i]?=some a->f a=g a
 | [],_,_,_,h=>by cases h
 | b::l,e,0,a,h=>by
  cases h
  exact (List.cons.inj e).1
 | b::l,e,i + 1,a,h=>qcm (List.cons.inj e).2 h
theorem qe2 {ds:List (Str×Stmt)}{xc:List Nat}{K:Frag}{mg:Str->Option va0}{h:Heap} (X:K.In h) (G:h.Ns vc2 mg) (e:zyj ds xc K=zmk ds):Given ds xc K mg:=by
 obtain ⟨e1,e2⟩:=vl1 e
 obtain ⟨e2,e3⟩:=vl1 e2
 refine ⟨λ i x st hi=>?_,λ x hx=>?_,λ hne=>?_⟩
 ·obtain ⟨g,fd,a,b⟩:=qmd (qcm e1 hi)
  exact ⟨g,fd,mg_of X G a,b⟩
 ·obtain ⟨i,hi⟩:=List.getElem?_of_mem hx
  exact mg_none_of X G (qcm e2 hi)
 ·have hm:xc.isEmpty=false:=by
   cases xc with
   | nil=>exact absurd rfl hne
   | cons _ _=>rfl
  rw [hm,jl1,ja3,ja3] at e3
  refine ⟨e3.1.1,e3.1.2,λ c hc=>?_⟩
  have h0:=jb6.mp e3.2 c hc
  refine ⟨λ hlt=>?_,λ hge=>?_⟩
  rotate_left
  ·rw [if_neg (Nat.not_lt.mpr hge)] at h0
   split at h0
   ·rename_i x v hx
    rw [ja3] at h0
    have h2:=h0.2
    split at h2
    ·rename_i u hu
     exact ⟨x,v,u,hx,h2,mg_of X G hu,by simpa using h0.1⟩
    ·cases h2
   ·cases h0
  rw [if_pos hlt] at h0
  have h1:=h0
  rw [ja3] at h1
  obtain ⟨C,hC⟩:=ji8.mp h1.1
  have hC':=hC
  unfold zxu at hC'
  cases hx:XN[c]? with
  | none=>rw [hx] at hC';cases hC'
  | some x=>
   rw [hx] at hC'
   dsimp only at hC'
   have h2:=h1.2
   rw [hx] at h2
   dsimp only at h2
   refine ⟨x,C,rfl,hC,?_,by simpa using h2⟩
   split at hC'
   ·rename_i D hD
    cases hC'
    exact mg_of X G hD
   ·cases hC'
theorem qi5 {P:va8}{w:vb7}{K:Frag}{outer:List Env}{H:Hp}{s:va1}{e:va0}{s2:va1} (z:CXr P w K outer H s (λ _ _ _=>False) e s2):False:=by
 obtain ⟨_,_,_,_,_,_,_,_,_,_,_,_,_,_,_,_,_,_,z⟩:=z
 exact z
theorem holds_by {l:OpenLaw}{q:va8}{loose:List Str}{d:DefRec}{N k n:Nat}{ds:List (Str×Stmt)}{xc:List Nat}{F:Fn}{x:Str} (said:l.wellSaid=true)
  (e:opening l.prog=plainProg l.prog.main.scope.names) (hN:Nat.ble 600 N=true) (f:∀ s,fenceModules? l.prog s=some s)
  (run:∀ (w:vb7) (os:OsState),(zkd treeTable l.prog w (vc9 w.params).objs.size ((vc9 w.params).nsMap vc2 "__annotations__") N (bootS w.params os) (topStub l.prog)).map
   (λ s=>zgb l.prog q loose (λ s=>xlAt q [] s && recOk (RowW.records l.row.toRowW) s) (λ s=>zyj ds xc (kof s.heap)) (vc9 w.params) s.abs)=some (true,openGood q loose,zmk ds))
  (hdef:defOf q l.row.name=some (d,[])) (hp:l.row.prog.theDef l.row.name=some (d.params,d.body,d.scope)) (hk:kwWritten? d.params.kwonlyargs d.params.kw_defaults=some []) (hwr:(!l.row.writes || l.row.records.isEmpty)=true)
  (ok:(chainsOk q && opensWell l.row.prog && (frees l.row.toRowW && l.row.within.isEmpty))=true) (hb:l.row.prog.bare) (hw:l.row.toRowW.promised)
  (hn:l.most=some n) (hn2:n<=va2) (hdf:d.params.defaults=[]) (hr:Room k vk8)
  (law:∀ (K:Frag) (w:vb7) (mg:Str->Option va0) (fa:Addr),Given ds xc K mg->mg d.name=some (.ref fa)->∃ fd:vc5,(∀ (s:va1) (u:va0),BindsTo s fd ⟨[u],[]⟩ [(x,u)]) /\
   ∀ base:Heap,FnOk l.prog w K mg base (CXr l.prog w K) k fa fd [x] (spF K false 1 F))
  (yes:∀ (K:Frag) (H:Hp) (a:Addr) (ns:List Int),ns.length<=n->Only H->SqL K H a (ns.map V.int)->spF K false 1 F [.ref a] H (λ v _=>v=.bl true) λ _ _ _=>False):l.Holds:=by
 refine holds_law said λ ws=>?_
 refine holds_open (q:=q) (loose:=loose) (Xt:=λ s=>xlAt q [] s && recOk (RowW.records l.row.toRowW) s) (XP:=XL q []) (Yf:=λ s=>zyj ds xc (kof s.heap)) (Ya:=λ _=>zmk ds) (YP:=λ _ h=>∃ K:Frag,K.In h/\zyj ds xc K=zmk ds) (N:=N)
  (qin e hN f run) (λ _ s z=>⟨_,qlr _,z⟩) (λ _ _ _ ⟨K,a,b⟩ kp=>⟨K,a.keeps kp,b⟩) (λ s e=>xl_of s (jk4.mp e).1) XL.keeps hdef hp hk (λ s e=>recFacts_of (jk4.mp e).2) hwr ws ok hb hw ?_
 refine Att.attach_call hn hdf λ w s₀ s₁ mg mb fa o pm cd doc a vs ns G Y ho hd hcd hmg hobj hints hlen hg=>?_
 obtain ⟨K,KX,hf⟩:=Y
 obtain ⟨fd,hbd,hF⟩:=law K w mg fa (qe2 KX G.T.g hf) hmg
 exact qet KX G.T.g G.T.b G.T.builtins G.T.nolimit hg hobj hints (jc4 hlen hn2) hr (λ base _ _=>hF base) hbd (λ H hO hS=>yes K H a ns hlen hO hS) λ H e s'=>qi5
section
variable {P:va8}{w:vb7}{K:Frag}{mg:Str->Option va0}{base:Heap}
theorem len1 {us:List va0} (h:us.length=1):∃ a,us=[a]:=List.length_eq_one_iff.mp h
theorem len2 {us:List va0} (h:us.length=2):∃ a b,us=[a,b]:=by
 cases us with
 | nil=>cases h
 | cons a r=>obtain ⟨b,rfl⟩:=len1 (Nat.succ.inj h);exact ⟨a,b,rfl⟩
theorem zxl {lvl:Nat} (hb:∀ x∈zwj,mg x=none):GS P w K mg base lvl []:=⟨hb,λ x io n F h=>by cases h⟩
theorem zwf {lvl:Nat}{x qual:Str}{st:Stmt}{fa:Addr}{fd:vc5}{ps:List Str}{io:Bool}{n:Nat}{F:Fn}{Γ:List (Str×(Bool×Nat×Fn))} (g:GS P w K mg base lvl Γ) (hx:(x == ("__debug__" : Str))=false) (hF:∀ xs,xs.length≠n->F xs=.no)
  (hm:mg x=some (.ref fa)) (Fu:Fun K x qual st fa fd) (hbd:zfj K fd ps []) (hn:ps.length=n) (ok:FnOk P w K mg base (CXr P w K) lvl fa fd ps (spF K io n F)):GS P w K mg base lvl ((x,(io,n,F))::Γ):=by
 refine ⟨g.1,λ y io' n' F' h=>?_⟩
 rw [jc7] at h
 split at h
 ·rename_i e
  cases h
  have:y=x:=eq_of_beq e
  subst this
  exact ⟨hx,hF,fa,fd,ps,hm,Fu.kp,hbd,hn,ok⟩
 ·exact g.2 y io' n' F' h
theorem qis {lvl:Nat}:GSm P w K mg base lvl []:=λ x F h=>by cases h
theorem gcs {lvl j:Nat}{x qual:Str}{st:Stmt}{fa:Addr}{fd:vc5}{ps:List Str}{io:Bool}{n:Nat}{F:Fn}{Γ:List (Str×(Bool×Nat×Fn))} (g:GS P w K mg base lvl Γ) (hm:mg x=some (.ref fa)) (Fu:Fun K x qual st fa fd) (hbd:zfj K fd ps []) (ok:FnOk P w K mg base (CXr P w K) j fa fd ps (spF K io n F)) (hl:j<=lvl:=by decide) (hx:(x == ("__debug__" : Str))=false:=by decide +kernel) (hF:∀ xs,xs.length≠n->F xs=.no:=by exact zxr) (hn:ps.length=n:=by rfl):GS P w K mg base lvl ((x,(io,n,F))::Γ):=zwf g hx hF hm Fu hbd hn (ok.mono hl)
theorem fnb (S:Sx) {lvl:Nat}{x qual:Str}{st:Stmt}{fa:Addr}{fd:vc5}{ps:List Str}{np k:Nat}{io:Bool}{b:Fs} (Fu:Fun K x qual st fa fd) (FS:FnScope S.N ps (zqc st)) (gX:GX K mg S.xc) (G:GS P w K mg base lvl S.Γ) (hb:zqq (denS 60 S) (zqj st)=some b) (hsc:S.sc=zqc st:=by rfl) (hal:S.al=[]:=by rfl) (hnp:ps.length=np:=by rfl) (hk:S.N.length=np + k:=by rfl) (hms:∀ i∈S.ms,i < np->i=0/\io=true:=by decide) (hio:io=true->S.msF 0=true/\0 < np:=by first | exact λ h=>Bool.noConfusion h | exact λ _=>⟨rfl,by decide⟩) (Gm:GSm P w K mg base lvl S.Γm:=by exact qis):FnOk P w K mg base (CXr P w K) (lvl + 1) fa fd ps (spF K io np (mkFn io np k b)):=qng (S:=S) Fu FS hsc hal hnp hk hms hio gX G Gm hb
end
theorem sp_yes {K:Frag}{H:Hp}{a:Addr}{ns:List Int}{F:Fn} (hO:Only H) (hS:SqL K H a (ns.map V.int)) (h:∃ d z,F [.scr ns]=.ok (.bl true,d,z)):spF K false 1 F [.ref a] H (λ v _=>v=.bl true) λ _ _ _=>False:=by
 refine ⟨rfl,[.scr ns],λ _=>False,.non,.non,[],λ _ z=>z.elim,λ _ z=>(nomatch z),λ _=>⟨rfl,?_⟩,(λ h=>nomatch h),?_⟩
 ·rw [OwnL]
  refine ⟨.ref a,[],[],[],rfl,rfl,λ _ z=>(nomatch z),?_,by rw [OwnL];exact ⟨rfl,rfl⟩⟩
  rw [Own]
  refine ⟨rfl,a,rfl,?_⟩
  rcases hS with (h | h) | h
  ·rcases hO a with z | ⟨ob,xs,z⟩
   ·rw [h] at z;cases z
   ·rw [h] at z;cases z
  ·exact .inl h
  ·exact .inr h
 ·obtain ⟨d,z,e⟩:=h
  rw [e]
  intro v H' fp fp0' _ _ _ _ _ _ o _
  rw [Own] at o
  exact o.1
end QQ
namespace QV
open PySem PySem.Spec PyProof.Rows L2 QQ
theorem zxn {op:PV->Nat->PV->Nat->Option (PV×Nat)}{f g:Fx}{ρ ρ1 ρ2:Rho}{x y z:PV}{d e c:Nat} (h1:f ρ=.ok (x,d,ρ1)) (h2:g ρ1=.ok (y,e,ρ2)) (h3:op x d y e=some (z,c)):bBin op f g ρ=.ok (z,c,ρ2):=by
 unfold bBin
 rw [h1]
 dsimp only [Rz.bind]
 rw [h2]
 dsimp only
 rw [h3]
theorem qmo {op:PV->Nat->Option (PV×Nat)}{f:Fx}{ρ ρ1:Rho}{x z:PV}{d c:Nat} (h1:f ρ=.ok (x,d,ρ1)) (h3:op x d=some (z,c)):bUn op f ρ=.ok (z,c,ρ1):=by
 unfold bUn
 rw [h1]
 dsimp only [Rz.bind]
 rw [h3]
theorem zxj {f:Fx}{fa:Fa}{ρ ρ1 ρ2:Rho}{x:PV}{d:Nat}{xs:List (PV×Nat)} (h1:f ρ=.ok (x,d,ρ1)) (h2:fa ρ1=.ok (xs,ρ2)):zqa f fa ρ=.ok ((x,d)::xs,ρ2):=by
 unfold zqa
 rw [h1]
 dsimp only [Rz.bind]
 rw [h2]
theorem zxw {f:Fx}{ρ ρ1:Rho}{x:PV}{d:Nat} (h1:f ρ=.ok (x,d,ρ1)):zqa f aNil ρ=.ok ([(x,d)],ρ1):=zxj h1 rfl
theorem zxt {op:List (PV×Nat)->Option (PV×Nat)}{fa:Fa}{ρ ρ1:Rho}{xs:List (PV×Nat)}{z:PV}{c:Nat} (h1:fa ρ=.ok (xs,ρ1)) (h2:op xs=some (z,c)):zqb op fa ρ=.ok (z,c,ρ1):=by
 unfold zqb
 rw [h1]
 dsimp only [Rz.bind]
 rw [h2]
theorem zqz {F:Fn}{fa:Fa}{ρ ρ1:Rho}{xs:List (PV×Nat)}{y z:PV}{d:Nat} (h1:fa ρ=.ok (xs,ρ1)) (h2:F (xs.map (·.1))=.ok (y,d,z)):zqp F fa ρ=.ok (y,d,ρ1):=by
 unfold zqp
 rw [h1]
 dsimp only [Rz.bind]
 rw [h2]
theorem zwi {f:Fx}{ρ ρ1:Rho}{x:PV}{d:Nat} (h:f ρ=.ok (x,d,ρ1)):sRet f ρ=.rt x d ρ1:=by
 unfold sRet
 rw [h]
theorem qc9 {f:Fx}{ρ ρ1:Rho}{x:PV}{d:Nat} (h:f ρ=.ok (x,d,ρ1)):zvb f ρ=.nx ρ1:=by
 unfold zvb
 rw [h]
theorem setF {i:Nat}{f:Fx}{vs:List Nat}{ρ ρ1 ρ2:Rho}{x:PV}{d:Nat} (h:f ρ=.ok (x,d,ρ1)) (hc:i < ρ1.length) (e:(zxa d vs ρ1).set i (some (x,d))=ρ2):sSet false i f vs ρ=.nx ρ2:=by
 unfold sSet
 rw [h]
 dsimp only
 rw [if_pos ⟨hc,λ h=>nomatch h⟩,e]
theorem qfp {asg:PV->Rho->Option Rho}{f:Fx}{vs:List Nat}{ρ ρ1 ρ2:Rho}{x:PV}{d:Nat} (h:f ρ=.ok (x,d,ρ1)) (e:asg x (zxa d vs ρ1)=some ρ2):sUnp asg f vs ρ=.nx ρ2:=by
 unfold sUnp
 rw [h]
 dsimp only
 rw [e]
theorem qmk {i:Nat}{f:Fx}{vs:List Nat}{ρ ρ1 ρ2:Rho}{y:PV}{e:Nat}{xs:List PV}{d0 d:Nat}{xs0:List PV} (h0:ρ[i]?=some (some (.lst xs0,d0 + 1))) (h:f ρ=.ok (y,e,ρ1)) (h1:(zxa e vs ρ1)[i]?=some (some (.lst xs,d))) (hd:d≠0) (hl:xs.length < va2)
  (e2:(zxa e vs ρ1).set i (some (.lst (xs++[y]),if d=om/\e=om then om else 1))=ρ2):sApp i f vs ρ=.nx ρ2:=by
 unfold sApp
 rw [h0]
 dsimp only
 rw [h]
 dsimp only
 rw [h1]
 dsimp only
 rw [if_pos ⟨hd,hl⟩,e2]
theorem zqe {f g:Fs}{ρ ρ1:Rho} (h:f ρ=.nx ρ1):sSeq f g ρ=g ρ1:=by
 unfold sSeq
 rw [h]
theorem ql0 {c:Fb}{f g:Fs}{ρ ρ1:Rho}{b:Bool} (hc:c ρ=.ok (b,ρ1)):sIf c f g ρ=if b=true then f ρ1 else g ρ1:=by
 unfold sIf
 rw [hc]
theorem if_t {c:Fb}{f g:Fs}{ρ ρ1:Rho} (hc:c ρ=.ok (true,ρ1)):sIf c f g ρ=f ρ1:=by rw [ql0 hc];rfl
theorem if_f {c:Fb}{f g:Fs}{ρ ρ1:Rho} (hc:c ρ=.ok (false,ρ1)):sIf c f g ρ=g ρ1:=by rw [ql0 hc];rfl
theorem qhg {c:Fb}{f g:Fs}{ρ ρ1:Rho} (hc:c ρ=.ok (false,ρ1)):sSeq (sIf c f sNil) g ρ=g ρ1:=zqe (by rw [if_f hc];rfl)
theorem zzo {f g:Fs}{ρ ρ1:Rho}{x:PV}{d:Nat} (h:f ρ=.rt x d ρ1):sSeq f g ρ=.rt x d ρ1:=by
 unfold sSeq
 rw [h]
theorem t_ok {f:Fx}{ρ ρ1:Rho}{b:Bool}{d:Nat} (h:f ρ=.ok (.bl b,d,ρ1)):bT f ρ=.ok (b,ρ1):=by
 unfold bT
 rw [h]
 rfl
theorem zkk {f:Fx}{ρ ρ1:Rho}{b:Bool}{d:Nat} (h:f ρ=.ok (.bl b,d,ρ1)):bUn zxe f ρ=.ok (.bl (!b),om,ρ1):=qmo h rfl
theorem zve {f g:Fx}{ρ ρ1:Rho}{a b:Bool}{d:Nat} (h:f ρ=.ok (.bl a,d,ρ1)) (h2:a=true->g ρ1=.ok (.bl b,om,ρ1)) (hd:d=om):zqx f g ρ=.ok (.bl (a && b),om,ρ1):=by
 subst hd
 unfold zqx
 rw [h]
 cases a with
 | false=>rfl
 | true=>exact h2 rfl
theorem zfr {f g:Fx}{ρ ρ1:Rho}{a b:Bool}{d:Nat} (h:f ρ=.ok (.bl a,d,ρ1)) (h2:a=false->g ρ1=.ok (.bl b,om,ρ1)) (hd:d=om):bOrV f g ρ=.ok (.bl (a || b),om,ρ1):=by
 subst hd
 unfold bOrV
 rw [h]
 cases a with
 | true=>rfl
 | false=>exact h2 rfl
theorem zji {f g:Fx}{ρ ρ1 ρ2:Rho}{i j:Int}{d e:Nat} (h1:f ρ=.ok (.int i,d,ρ1)) (h2:g ρ1=.ok (.int j,e,ρ2)) (h:(-(2 ^ 64) < i/\i < 2 ^ 64)\/(-(2 ^ 64) < j/\j < 2 ^ 64)):bBin zwu f g ρ=.ok (.int (i * j),om,ρ2):=by
 refine zxn h1 h2 ?_
 show (if pMul i j=true then _ else _)=_
 rw [if_pos]
 unfold pMul
 rcases h with h | h
 ·rw [decide_eq_true h.1,decide_eq_true h.2];rfl
 ·rw [decide_eq_true h.1,decide_eq_true h.2];simp
theorem zwc {f g:Fx}{ρ ρ1 ρ2:Rho}{i j:Int}{d e:Nat} (h1:f ρ=.ok (.int i,d,ρ1)) (h2:g ρ1=.ok (.int j,e,ρ2)) (h:0 < j):bBin zqr f g ρ=.ok (.int (i % j),om,ρ2):=by
 refine zxn h1 h2 ?_
 show (if pMod i j=true then _ else _)=_
 rw [if_pos]
 exact decide_eq_true h
theorem qgg {f g:Fx}{ρ ρ1 ρ2:Rho}{i j:Int}{d e:Nat} (h1:f ρ=.ok (.int i,d,ρ1)) (h2:g ρ1=.ok (.int j,e,ρ2)) (h:0 < j) (h':j < 2 ^ 128):bBin zjh f g ρ=.ok (.int (i / j),om,ρ2):=by
 refine zxn h1 h2 ?_
 show (if pDiv i j=true then _ else _)=_
 rw [if_pos]
 unfold pDiv
 rw [decide_eq_true h,decide_eq_true h'];rfl
theorem zkc {f g:Fx}{ρ ρ1 ρ2:Rho}{i j:Int}{d e:Nat} (h1:f ρ=.ok (.int i,d,ρ1)) (h2:g ρ1=.ok (.int j,e,ρ2)):bBin zqo f g ρ=.ok (.int (i + j),om,ρ2):=zxn h1 h2 rfl
theorem zhv {p:Int->Int->Bool}{f g:Fx}{ρ ρ1 ρ2:Rho}{i j:Int}{d e:Nat} (h1:f ρ=.ok (.int i,d,ρ1)) (h2:g ρ1=.ok (.int j,e,ρ2)):bBin (zwl p) f g ρ=.ok (.bl (p i j),om,ρ2):=zxn h1 h2 rfl
theorem qfc {p q:Int->Int->Bool}{f g h:Fx}{ρ:Rho}{i j k:Int}{d e c:Nat} (h1:f ρ=.ok (.int i,d,ρ)) (h2:g ρ=.ok (.int j,e,ρ)) (h3:h ρ=.ok (.int k,c,ρ)):zyu p q f g h ρ=.ok (.bl (p i j && q j k),om,ρ):=by
 unfold zyu
 rw [h1]
 dsimp only [Rz.bind]
 rw [h2]
 dsimp only
 by_cases hp:p i j=true
 ·rw [if_pos hp,h3,hp];rfl
 ·rw [if_neg hp]
  have:p i j=false:=by simpa using hp
  rw [this];rfl
theorem eqI {neg:Bool}{i j:Int}{d e:Nat}:opEq neg (.int i) d (.int j) e=some (.bl (neg^^decide (i=j)),om):=by
 show some (PV.bl (neg^^vd9 (.int i) (.int j)),om)=_
 have:vd9 (.int i) (.int j)=decide (i=j):=by
  show (i == j)=_
  rfl
 rw [this]
theorem zmt {neg:Bool}{f g:Fx}{ρ ρ1 ρ2:Rho}{i j:Int}{d e:Nat} (h1:f ρ=.ok (.int i,d,ρ1)) (h2:g ρ1=.ok (.int j,e,ρ2)):bBin (opEq neg) f g ρ=.ok (.bl (neg^^decide (i=j)),om,ρ2):=zxn h1 h2 eqI
def il (xs:List Int):PV:=.lst (xs.map .int)
def tb (t:List (List Int)):PV:=.lst (t.map il)
abbrev bx (a b c:Int):PV:=.tup [.int a,.int b,.int c]
theorem zwg {α:Type}{xs:List α}{k:Int}{x:α} (h0:0<=k) (h:xs[k.toNat]?=some x):atI xs k=some x:=by
 have hl:=(ja8.mp h).1
 unfold atI ixN
 rw [if_pos h0,if_pos (by omega)]
 exact h
theorem zmo {f g:Fx}{ρ ρ1 ρ2:Rho}{xs:List Int}{k x:Int}{d e:Nat} (h1:f ρ=.ok (il xs,d,ρ1)) (h2:g ρ1=.ok (.int k,e,ρ2)) (h:atI xs k=some x):bBin zqd f g ρ=.ok (.int x,om,ρ2):=by
 refine zxn h1 h2 ?_
 show (atI (xs.map PV.int) k).map _=_
 have:atI (xs.map PV.int) k=some (.int x):=by
  unfold atI at h ⊢
  rw [jb5]
  cases e:ixN xs.length k with
  | none=>rw [e] at h;cases h
  | some j=>
   rw [e] at h
   have h':xs[j]?=some x:=h
   show (xs.map PV.int)[j]?=_
   rw [jd2,h'];rfl
 rw [this];rfl
theorem qlq {fa:Fa}{ρ ρ1:Rho}{xs:List Int}{d:Nat} (h:fa ρ=.ok ([(il xs,d)],ρ1)):zqb zqy fa ρ=.ok (.int xs.length,om,ρ1):=by
 refine zxt h ?_
 show some (PV.int ((xs.map PV.int).length:Nat),om)=_
 rw [jb5]
theorem zzs {α:Type}{n:Nat}{test:Fb}{elt:Fx}{enc q:α->PV}{e:α->Nat}{p:α->Bool}:∀ (xs:List α) (ρ:Rho) (acc:List (PV×Nat)),ρ.length=n->(∀ x∈xs,test (ρ++[some (enc x,dv (enc x))])=.ok (p x,ρ++[some (enc x,dv (enc x))])) ->
  (∀ x∈xs,p x=true->elt (ρ++[some (enc x,dv (enc x))])=.ok (q x,e x,ρ++[some (enc x,dv (enc x))]))->acc.length + xs.length<=va2->zwq 1 (asgN n) test elt (xs.map enc) ρ acc=.ok (acc++(xs.filter p).map (λ x=>(q x,e x)),ρ)
 | [],ρ,acc,_,_,_,_=>by simp [zwq]
 | x::xs,ρ,acc,hn,ht,he,hl=>by
  have ea:asgN n (enc x) (ρ++ja6 1 none)=some (ρ++[some (enc x,dv (enc x))]):=by
   unfold asgN
   rw [if_pos (by rw [jb8,hn];simp),List.set_append_right _ _ (by omega),hn]
   simp
  have ih:=λ acc h=>zzs (n:=n) (test:=test) (elt:=elt) (p:=p) (q:=q) (e:=e) (enc:=enc) xs ρ acc hn (λ y hy=>ht y (ja0 _ hy)) (λ y hy=>he y (ja0 _ hy)) h
  have tk:(ρ++[some (enc x,dv (enc x))]).take ρ.length=ρ:=by simp
  rw [jc0] at hl
  rw [jb9]
  unfold zwq
  rw [ea]
  dsimp only
  rw [ht x ja2]
  dsimp only [Rz.bindN]
  cases hp:p x with
  | false=>
   rw [if_neg jc1,tk,ih acc (by omega),List.filter_cons_of_neg (by simp [hp])]
  | true=>
   rw [if_pos rfl,he x ja2 hp]
   dsimp only
   rw [if_pos (by omega),tk,ih _ (by rw [jb8,jj8];omega),List.filter_cons_of_pos hp]
   simp
theorem zzt {α:Type} (q:α->PV):∀ xs:List α,zkj (xs.map λ x=>(q x,om))=true
 | []=>rfl
 | x::xs=>by rw [jb9];unfold zkj;rw [zzt q xs];rfl
theorem zky {α:Type}{n:Nat}{f elt:Fx}{enc q:α->PV}{ρ ρ1:Rho}{d:Nat} (xs:List α) (hf:f ρ=.ok (.lst (xs.map enc),d,ρ1)) (hn:ρ1.length=n) (he:∀ x∈xs,elt (ρ1++[some (enc x,dv (enc x))])=.ok (q x,om,ρ1++[some (enc x,dv (enc x))])) (hl:xs.length<=va2):
  zxs f 1 (asgN n) zva elt ρ=.ok (.lst (xs.map q),om,ρ1):=by
 unfold zxs
 rw [hf]
 dsimp only
 rw [zzs (p:=λ _=>true) (q:=q) (e:=λ _=>om) xs ρ1 [] hn (λ _ _=>rfl) (λ x hx _=>he x hx) (by simpa using hl),ji4.mpr (λ _ _=>rfl)]
 show zvj (xs.map λ x=>(q x,om)) ρ1=_
 unfold zvj
 rw [zzt,jf9]
 rfl
theorem zpc {α:Type}{n:Nat}{f elt:Fx}{enc q:α->PV}{ρ ρ1:Rho}{d:Nat} (xs:List α) (hf:f ρ=.ok (.tup (xs.map enc),d,ρ1)) (hn:ρ1.length=n) (he:∀ x∈xs,elt (ρ1++[some (enc x,dv (enc x))])=.ok (q x,om,ρ1++[some (enc x,dv (enc x))])) (hl:xs.length<=va2):
  zxs f 1 (asgN n) zva elt ρ=.ok (.lst (xs.map q),om,ρ1):=by
 unfold zxs
 rw [hf]
 dsimp only
 rw [zzs (p:=λ _=>true) (q:=q) (e:=λ _=>om) xs ρ1 [] hn (λ _ _=>rfl) (λ x hx _=>he x hx) (by simpa using hl),ji4.mpr (λ _ _=>rfl)]
 show zvj (xs.map λ x=>(q x,om)) ρ1=_
 unfold zvj
 rw [zzt,jf9]
 rfl
theorem zpv (lo:Int) (n:Nat):zzp lo n=(jd4 n).map λ (k:Nat)=>PV.int (lo + (k:Int)):=rfl
theorem qfm {α:Type} (g:α->Bool) (xs:List α):QQ.allB (xs.map λ x=>.bl (g x))=some (xs.map g):=by
 induction xs with
 | nil=>rfl
 | cons x r ih=>rw [jb9,jb9,QQ.allB,ih];rfl
theorem all_ok {α:Type}{f:Fx}{ρ ρ1:Rho}{d:Nat}{g:α->Bool}{xs:List α} (h:f ρ=.ok (.lst (xs.map λ x=>.bl (g x)),d,ρ1)):zqb zyz (zqa f aNil) ρ=.ok (.bl (xs.all g),om,ρ1):=by
 refine zxt (zxw h) ?_
 show (QQ.allB _).map _=_
 rw [qfm]
 simp
theorem zhd {i:Nat}{body:Fs}{lo:Int} (I:Nat->Rho->Prop):∀ (m k:Nat) (ρ:Rho),I k ρ->(∀ j ρ,k<=j->j < k + m->I j ρ->i < ρ.length/\∃ ρ2,body (ρ.set i (some (.int (lo + (j:Int)),om)))=.nx ρ2/\I (j + 1) ρ2) ->
  ∃ ρ',zzg (asgN i) body ((ji3 k m).map λ (k:Nat)=>PV.int (lo + (k:Int))) ρ=.nx ρ'/\I (k + m) ρ'
 | 0,k,ρ,hi,_=>⟨ρ,rfl,hi⟩
 | m + 1,k,ρ,hi,hb=>by
  obtain ⟨h1,ρ2,e2,h2⟩:=hb k ρ (jb4 _) (by omega) hi
  obtain ⟨ρ',e',h'⟩:=zhd (i:=i) (body:=body) (lo:=lo) I m (k + 1) ρ2 h2 λ j ρ a b=>hb j ρ (by omega) (by omega)
  refine ⟨ρ',?_,by rw [show k + (m + 1)=k + 1 + m by omega];exact h'⟩
  rw [jm2,jb9]
  unfold zzg
  have:asgN i (PV.int (lo + (k:Int))) ρ=some (ρ.set i (some (.int (lo + (k:Int)),om))):=by
   unfold asgN
   rw [if_pos h1];rfl
  rw [this]
  dsimp only
  rw [e2]
  exact e'
theorem zhm {i:Nat}{body:Fs}{en:List (PV×Nat)->Option (Int×Int)}{fa:Fa}{ρ ρ1:Rho}{as:List (PV×Nat)}{lo hi:Int} (I:Nat->Rho->Prop) (hf:fa ρ=.ok (as,ρ1)) (hen:en as=some (lo,hi)) (h0:I 0 ρ1)
  (hb:∀ j ρ,j < (hi - lo).toNat->I j ρ->i < ρ.length/\∃ ρ2,body (ρ.set i (some (.int (lo + (j:Int)),om)))=.nx ρ2/\I (j + 1) ρ2):∃ ρ',zyx en fa (asgN i) body ρ=.nx ρ'/\I (hi - lo).toNat ρ':=by
 obtain ⟨ρ',e,h⟩:=zhd (i:=i) (body:=body) (lo:=lo) I (hi - lo).toNat 0 ρ1 h0 λ j ρ _ h hi=>hb j ρ (by omega) hi
 refine ⟨ρ',?_,by rw [jk0] at h;exact h⟩
 unfold zyx
 rw [hf]
 dsimp only
 rw [hen]
 dsimp only
 rw [zpv,List.range_eq_range']
 exact e
theorem zbx {j:Int}{d:Nat} (h1:-(2 ^ 62)<=j) (h2:j < 2 ^ 62):zzd [(.int j,d)]=some (0,j):=by
 show (if -(2 ^ 62)<=j/\j < 2 ^ 62 then some ((0:Int),j) else none)=_
 rw [if_pos ⟨h1,h2⟩]
theorem zwv {np k:Nat}{b:Fs}{xs:List PV}{ρ':Rho}{y:PV}{d:Nat} (hl:xs.length=np) (h:b (xs.map (λ x=>some (x,dv x))++ja6 k none)=.rt y d ρ'):mkFn false np k b xs=.ok (y,d,.non):=by
 unfold mkFn
 rw [if_pos hl]
 have:zwp false xs=xs.map λ x=>some (x,dv x):=rfl
 rw [this,h]
 rfl
theorem qne {np k:Nat}{b:Fs}{xs:List PV}{ρ':Rho} (hl:xs.length=np) (h:b (xs.map (λ x=>some (x,dv x))++ja6 k none)=.nx ρ'):mkFn false np k b xs=.ok (.non,om,.non):=by
 unfold mkFn
 rw [if_pos hl]
 have:zwp false xs=xs.map λ x=>some (x,dv x):=rfl
 rw [this,h]
 rfl
def Xf_is_whole_number:Fs:=(sRet (zqx (bUn (zqm "int") (bVar 0)) (bUn zxe (bUn (zqm "bool") (bVar 0)))))
def f_is_whole_number:Fn:=mkFn false 1 0 Xf_is_whole_number
def Xf_is_box:Fs:=(sSeq (sIf (bT (bOrV (bUn zxe (bUn (zqm "tuple") (bVar 0))) (bBin (opEq true) (zqb zqy (zqa (bVar 0) (aNil))) (bC (.int 3))))) (sRet (bC (.bl false))) sNil)
 (sRet (zqb zyz (zqa (zxs (bVar 0) 1 (asgN 1) zva (zqx (zqp f_is_whole_number (zqa (bVar 1) (aNil))) (bBin (zwl λ i j=>decide (j<=i)) (bVar 1) (bC (.int 1))))) (aNil)))))
def f_is_box:Fn:=mkFn false 1 0 Xf_is_box
def Xf_must_be_box:Fs:=(sIf (bT (bUn zxe (zqp f_is_box (zqa (bVar 0) (aNil))))) (sExc 1) sNil)
def f_must_be_box:Fn:=mkFn false 1 0 Xf_must_be_box
def Xb_cell_at:Fs:=(sSeq (sIf (bT (bBin (zwl λ i j=>decide (i < j)) (bVar 1) (zqb zqy (zqa (bVar 0) (aNil))))) (sRet (bBin zqd (bVar 0) (bVar 1))) sNil)
 (sRet (bC (.int 0))))
def b_cell_at:Fn:=mkFn false 2 0 Xb_cell_at
def Xc_numbers:Fs:=(sSeq (sSet false 2 (zqb zxb (aNil)) [])
 (sSeq (sSet false 3 (bVar 0) [0])
 (sSeq (sSet false 4 (bBin zqr (bVar 0) (bC (.int 2147483647))) [0])
 (sSeq (zyx zzd (zqa (bVar 1) (aNil)) (asgN 5) (sIf (bT (zqx (bBin (zwl λ i j=>decide (j<=i)) (bVar 0) (bBin qep (bC (.int 10)) (bC (.int 18)))) (bBin (zwl λ i j=>decide (j < i)) (bVar 3) (bC (.int 0))))) (sSeq (sApp 2 (bBin zqr (bVar 3) (bC (.int 64))) [3])
 (sSet false 3 (bBin zjh (bVar 3) (bC (.int 64))) [3])) (sSeq (sSet false 4 (bBin zqr (bBin zwu (bBin zqo (bBin zqo (bVar 4) (bBin zwu (bC (.int 7)) (bVar 5))) (bC (.int 3))) (bC (.int 48271))) (bC (.int 2147483647))) [4,5])
 (sSeq (sSet false 6 (bBin zqr (bBin zwu (bBin zqr (bBin zwu (bVar 4) (bVar 4)) (bC (.int 2147483629))) (bC (.int 69621))) (bC (.int 2147483587))) [4,4])
 (sApp 2 (bBin zqr (bBin zjh (bVar 6) (bC (.int 8))) (bC (.int 720720))) [6])))))
 (qbt 2)))))
def c_numbers:Fn:=mkFn false 2 5 Xc_numbers
theorem sz:(1000000:Nat)<=va2:=by decide
def boxB (a b c:Int):Bool:=decide (1<=a) && (decide (1<=b) && decide (1<=c))
theorem qcz (a b c:Int):f_is_box [bx a b c]=.ok (.bl (boxB a b c),om,.non):=by
 have e0:∀ x∈[a,b,c],(zqx (zqp f_is_whole_number (zqa (bVar 1) (aNil))) (bBin (zwl λ i j=>decide (j<=i)) (bVar 1) (bC (.int 1)))) ([some (bx a b c,0)]++[some (.int x,om)])=.ok (.bl (decide (1<=x)),om,[some (bx a b c,0)]++[some (.int x,om)]):=λ x _=>by kernel_rfl
 have e1:=zpc (n:=1) (f:=bVar 0) (ρ:=[some (bx a b c,0)]) (enc:=PV.int) (q:=λ x=>.bl (decide (1<=x))) (d:=0) [a,b,c] rfl rfl e0 (by have:=sz;show 3<=va2;omega)
 refine zwv rfl (ρ':=[some (bx a b c,0)]) ?_
 show Xf_is_box [some (bx a b c,0)]=_
 refine (qhg (ρ1:=[some (bx a b c,0)]) (by kernel_rfl)).trans (zwi ?_)
 rw [all_ok e1]
 show Rz.ok (PV.bl (decide (1<=a) && (decide (1<=b) && (decide (1<=c) && true))),om,_)=_
 rw [jh9]
 rfl
theorem zfu {a b c:Int} (h:boxB a b c=true):f_must_be_box [bx a b c]=.ok (.non,om,.non):=by
 refine qne rfl (ρ':=[some (bx a b c,0)]) ?_
 have hb:=qcz a b c
 rw [h] at hb
 exact if_f (f:=sExc 1) (g:=sNil) (t_ok (zkk (zqz (F:=f_is_box) (fa:=zqa (bVar 0) aNil) (ρ:=[some (bx a b c,0)]) (xs:=[(bx a b c,0)]) rfl hb)))
theorem zzi {xs:List Int}{j:Nat} (h:j < xs.length):xs[j]?=some (xs.getD j 0):=by
 rw [jd3,jc6 h];rfl
def Tab (a b:Nat) (t:List (List Int)):Prop:=t.length=a/\∀ r∈t,r.length=b
def g (t:List (List Int)) (i j:Nat):Int:=(t.getD i []).getD j 0
structure Pile (a b:Nat) (c:Int) (t:List (List Int)):Prop where
 tab:Tab a b t
 lo:∀ i j,i < a->j < b->0<=g t i j
 hi:∀ i j,i < a->j < b->g t i j<=c
 dn:∀ i j,i + 1 < a->j < b->g t (i + 1) j<=g t i j
 rt:∀ i j,i < a->j + 1 < b->g t i (j + 1)<=g t i j
theorem zgl {α:Type}{f:PV->Option vh1}{e:α->PV}{q:α->vh1} (h:∀ x,f (e x)=some (q x)):∀ xs:List α,toDL f (xs.map e)=some (xs.map q)
 | []=>rfl
 | x::xs=>by rw [jb9,toDL,h,zgl h xs];rfl
theorem qfr (n:Nat) (xs:List Int):toD (n + 2) (il xs)=some (.list (xs.map .int)):=by
 show (toDL (toD (n + 1)) (xs.map PV.int)).map PyData.list=_
 rw [zgl (q:=PyData.int) (λ x=>rfl)];rfl
theorem zjp:∀ xs ys:List Int,PyData.eqvAll (xs.map .int) (ys.map .int)=decide (xs=ys)
 | [],[]=>rfl
 | [],y::ys=>rfl
 | x::xs,[]=>rfl
 | x::xs,y::ys=>by
  rw [jb9,jb9,PyData.eqvAll,zjp xs ys]
  show ((x == y) && _)=_
  by_cases h:x=y
  ·subst h
   by_cases h2:xs=ys
   ·subst h2;simp
   ·simp [h2]
  ·simp [h]
theorem qnh {neg:Bool}{f h:Fx}{ρ ρ1 ρ2:Rho}{xs ys:List Int}{d e:Nat} (h1:f ρ=.ok (il xs,d,ρ1)) (h2:h ρ1=.ok (il ys,e,ρ2)):bBin (opEq neg) f h ρ=.ok (.bl (neg^^decide (xs=ys)),om,ρ2):=by
 refine zxn h1 h2 ?_
 unfold opEq
 rw [qfr 18,qfr 18]
 show some (PV.bl (neg^^vd9 _ _),om)=_
 rw [vd9,zjp]
theorem qir {f h:Fx}{ρ ρ1 ρ2:Rho}{xs:List Int}{k x:Int}{d e:Nat} (h1:f ρ=.ok (.scr xs,d,ρ1)) (h2:h ρ1=.ok (.int k,e,ρ2)) (hx:atI xs k=some x):bBin zqd f h ρ=.ok (.int x,om,ρ2):=by
 refine zxn h1 h2 ?_
 show (atI xs k).map _=_
 rw [hx];rfl
theorem qjb (ns:List Int) (k:Nat):b_cell_at [.scr ns,.int (k:Int)]=.ok (.int (ns.getD k 0),om,.non):=by
 let R:Rho:=[some (.scr ns,om),some (.int (k:Int),om)]
 have t1:bT (bBin (zwl λ i j=>decide (i < j)) (bVar 1) (zqb zqy (zqa (bVar 0) (aNil)))) R=.ok (decide ((k:Int) < (ns.length:Int)),R):=rfl
 refine zwv rfl (ρ':=R) ?_
 by_cases h:(k:Int) < (ns.length:Int)
 ·rw [decide_eq_true h] at t1
  exact zzo ((if_t t1).trans (zwi (qir (xs:=ns) (k:=(k:Int)) (d:=om) rfl rfl (zwg (by omega) (zzi (by omega))))))
 ·rw [decide_eq_false h] at t1
  refine (qhg t1).trans ((zwi (d:=om) rfl).trans ?_)
  rw [jd3,jk2 (by omega)]
  rfl
theorem qiq (xs:List Int) (x:Int):PV.lst (xs.map PV.int++[.int x])=il (xs++[x]):=by unfold il;rw [List.map_append];rfl
theorem zjl:∀ xs:List Int,zvu (xs.map PV.int)=some xs
 | []=>rfl
 | x::xs=>by rw [jb9,zvu,zjl xs];rfl
theorem qlp {fa:Fa}{ρ ρ1:Rho}{x:Int}{xs:List Int}{d:Nat} (h:fa ρ=.ok ([(il (x::xs),d)],ρ1)):zqb zbo fa ρ=.ok (.int (minI x xs),om,ρ1):=by
 refine zxt h ?_
 show (match zvu ((x::xs).map PV.int) with | some (n::r)=>some (PV.int (minI n r),om) | _=>none)=_
 rw [zjl]
theorem zfh:∀ xs:List Int,zpg (xs.map PV.int)=true
 | []=>rfl
 | x::xs=>by rw [jb9,zpg,zfh xs];rfl
theorem qmf (xs:List Int):d1 (xs.map PV.int)=om:=by unfold d1;rw [zfh];rfl
abbrev C3:=Nat×Nat×Nat
def CN:Fs:=(sIf (bT (zqx (bBin (zwl λ i j=>decide (j<=i)) (bVar 0) (bBin qep (bC (.int 10)) (bC (.int 18)))) (bBin (zwl λ i j=>decide (j < i)) (bVar 3) (bC (.int 0))))) (sSeq (sApp 2 (bBin zqr (bVar 3) (bC (.int 64))) [3])
 (sSet false 3 (bBin zjh (bVar 3) (bC (.int 64))) [3])) (sSeq (sSet false 4 (bBin zqr (bBin zwu (bBin zqo (bBin zqo (bVar 4) (bBin zwu (bC (.int 7)) (bVar 5))) (bC (.int 3))) (bC (.int 48271))) (bC (.int 2147483647))) [4,5])
 (sSeq (sSet false 6 (bBin zqr (bBin zwu (bBin zqr (bBin zwu (bVar 4) (bVar 4)) (bC (.int 2147483629))) (bC (.int 69621))) (bC (.int 2147483587))) [4,4])
 (sApp 2 (bBin zqr (bBin zjh (bVar 6) (bC (.int 8))) (bC (.int 720720))) [6]))))
theorem qi7 (c:Int) (m:Nat) (hm:m<=1000):∃ ns:List Int,ns.length=m/\c_numbers [.int c,.int (m:Int)]=.ok (il ns,om,.non):=by
 have z:=sz
 let R (xs:List Int) (v w:Int) (s5 s6:QQ.Slot):Rho:=[some (.int c,om),some (.int (m:Int),om),some (il xs,om),some (.int v,om),some (.int w,om),s5,s6]
 let R0 (s2 s3 s4:QQ.Slot):Rho:=[some (.int c,om),some (.int (m:Int),om),s2,s3,s4,none,none]
 have s1:sSet false 2 (zqb zxb (aNil)) [] (R0 none none none)=.nx (R0 (some (il [],om)) none none):=by kernel_rfl
 have s2:sSet false 3 (bVar 0) [0] (R0 (some (il [],om)) none none)=.nx (R0 (some (il [],om)) (some (.int c,om)) none):=by kernel_rfl
 have s3:sSet false 4 (bBin zqr (bVar 0) (bC (.int 2147483647))) [0] (R0 (some (il [],om)) (some (.int c,om)) none)=.nx (R [] c (c % 2147483647) none none):=setF (zwc (i:=c) rfl rfl (by decide)) (show 4 < 7 by decide) rfl
 obtain ⟨ρ',e6,xs,v,w,s5,s6,rfl,hl⟩:=zhm (i:=5) (body:=CN) (en:=zzd) (fa:=zqa (bVar 1) (aNil)) (ρ:=R [] c (c % 2147483647) none none) (ρ1:=R [] c (c % 2147483647) none none) (as:=[(.int (m:Int),om)]) (lo:=0) (hi:=(m:Int))
  (λ k ρ=>∃ xs v w s5 s6,ρ=R xs v w s5 s6/\xs.length=k) rfl (zbx (by omega) (by omega)) ⟨[],c,_,none,none,rfl,rfl⟩ (by
   rintro j ρ hj ⟨xs,v,w,s5,s6,rfl,hl⟩
   let Q (xs:List Int) (v w:Int) (s6:QQ.Slot):Rho:=R xs v w (some (.int (0 + (j:Int)),om)) s6
   have app:∀ {f:Fx}{vs:List Nat}{v w:Int}{s6:QQ.Slot}{x:Int},f (Q xs v w s6)=.ok (.int x,om,Q xs v w s6)->sApp 2 f vs (Q xs v w s6)=.nx (Q (xs++[x]) v w s6):=λ {f vs v w s6 x} h=>by
    refine (qmk (i:=2) (d0:=999) (d:=om) (y:=.int x) (e:=om) (xs:=xs.map PV.int) (xs0:=xs.map PV.int) rfl h rfl (by decide) (by rw [jb5];omega) rfl).trans ?_
    rw [qiq]
    rfl
   have tt:bT (zqx (bBin (zwl λ i j=>decide (j<=i)) (bVar 0) (bBin qep (bC (.int 10)) (bC (.int 18)))) (bBin (zwl λ i j=>decide (j < i)) (bVar 3) (bC (.int 0)))) (Q xs v w s6)=.ok (decide ((10:Int) ^ 18<=c) && decide (0 < v),Q xs v w s6):=t_ok (zve (b:=decide (0 < v)) (a:=decide ((10:Int) ^ 18<=c)) (d:=om) (by kernel_rfl) (λ _=>rfl) rfl)
   refine ⟨show 5 < 7 by decide,?_⟩
   cases hd:decide ((10:Int) ^ 18<=c) && decide (0 < v) with
   | true=>
    rw [hd] at tt
    refine ⟨Q (xs++[v % 64]) (v / 64) w s6,(if_t tt).trans ((zqe (app (zwc (i:=v) rfl rfl (by decide)))).trans (setF (qgg (i:=v) rfl rfl (by decide) (by decide)) (show 3 < 7 by decide) rfl)),_,_,_,_,_,rfl,?_⟩
    rw [jb8,hl];rfl
   | false=>
    rw [hd] at tt
    let w':=(w + 7 * (0 + (j:Int)) + 3) * 48271 % 2147483647
    have w0:=jf1 ((w + 7 * (0 + (j:Int)) + 3) * 48271) (show (2147483647:Int)≠0 by decide)
    have w1:=jf0 ((w + 7 * (0 + (j:Int)) + 3) * 48271) (show (0:Int) < 2147483647 by decide)
    have u1:sSet false 4 (bBin zqr (bBin zwu (bBin zqo (bBin zqo (bVar 4) (bBin zwu (bC (.int 7)) (bVar 5))) (bC (.int 3))) (bC (.int 48271))) (bC (.int 2147483647))) [4,5] (Q xs v w s6)=.nx (Q xs v w' s6):=setF (zwc (zji (zkc (zkc (i:=w) rfl (zji (i:=7) (j:=0 + (j:Int)) rfl rfl (.inl (by decide)))) (j:=3) rfl) (j:=48271) rfl (.inr (by decide))) (j:=2147483647) rfl (by decide)) (show 4 < 7 by decide) rfl
    let y:=w' * w' % 2147483629 * 69621 % 2147483587
    have u2:sSet false 6 (bBin zqr (bBin zwu (bBin zqr (bBin zwu (bVar 4) (bVar 4)) (bC (.int 2147483629))) (bC (.int 69621))) (bC (.int 2147483587))) [4,4] (Q xs v w' s6)=.nx (Q xs v w' (some (.int y,om))):=setF (zwc (zji (zwc (zji (i:=w') (j:=w') rfl rfl (.inl (by show -(2 ^ 64) < w'/\w' < 2 ^ 64;omega))) (j:=2147483629) rfl (by decide)) (j:=69621) rfl (.inr (by decide))) (j:=2147483587) rfl (by decide)) (show 6 < 7 by decide) rfl
    refine ⟨_,(if_f tt).trans ((zqe u1).trans ((zqe u2).trans (app (zwc (qgg (i:=y) rfl rfl (by decide) (by decide)) (j:=720720) rfl (by decide))))),_,_,_,_,_,rfl,?_⟩
    rw [jb8,hl];rfl)
 rw [show ((m:Int) - 0).toNat=m by omega] at hl
 exact ⟨xs,hl,zwv rfl ((zqe s1).trans ((zqe s2).trans ((zqe s3).trans ((zqe e6).trans rfl))))⟩
theorem zfv (x:Int) (m:Nat) (hm:0 < m):∃ n:Nat,1 + x % (m:Int)=(n:Int)/\1<=n/\n<=m:=by
 have h0:=jf1 x (show (m:Int)≠0 by omega)
 have h1:=jf0 x (show (0:Int) < m by omega)
 exact ⟨(1 + x % (m:Int)).toNat,by omega,by omega,by omega⟩
end QV
namespace K56
open PySem PySem.Spec PyProof.Rows L2 QQ
theorem zvr {α:Type}{x:Option α}{d:α} (h:x.isSome=true):x=some (x.getD d):=by
 cases x with
 | none=>cases h
 | some a=>rfl
abbrev GT:=List (Str×(Bool×Nat×Fn))
abbrev mS (N:List Str) (t:Stmt) (m:List Nat) (G:GT):Sx:=⟨N,zqc t,m,[],G,[],true,[0,1,2,3,4,5,6,7,8,9,10,11],[]⟩
def G0:GT:=[]
def S0:Sx:=⟨["thing"],zqc t0,[],[],G0,[],true,[0,1,9,50,51],[]⟩
abbrev b0:Fs:=QV.Xf_is_whole_number
abbrev F0:Fn:=QV.f_is_whole_number
theorem h0:zqq (denS 60 S0) (zqj t0)=some b0:=by kernel_rfl
def G1:GT:=[("is_whole_number",(false,1,F0))]
def S1:Sx:=⟨["thing"],zqc t1,[],[],G1,[],true,[0,1,9,50,51],[]⟩
abbrev b1:Fs:=QV.Xf_is_box
abbrev F1:Fn:=QV.f_is_box
theorem h1:zqq (denS 60 S1) (zqj t1)=some b1:=by kernel_rfl
def G2:GT:=[("is_box",(false,1,F1))]
def S2:Sx:=⟨["box"],zqc t2,[],[],G2,[],true,[0,1,9,50,51],[]⟩
abbrev b2:Fs:=QV.Xf_must_be_box
abbrev F2:Fn:=QV.f_must_be_box
theorem h2:zqq (denS 60 S2) (zqj t2)=some b2:=by kernel_rfl
def G3:GT:=[]
def S3:Sx:=⟨["text","most_figures"],zqc t3,[],[],G3,[],true,[0,1,9,50,51],[]⟩
def b3:Fs:=(sSeq (sIf (bT (bUn zxe (zyu (λ i j=>decide (i<=j)) (λ i j=>decide (i<=j)) (bC (.int 1)) (zqb zqy (zqa (bVar 0) (aNil))) (bVar 1)))) (sRet (bC (.bl false))) sNil)
 (sSeq (sIf (bT (bUn zxe (zqb zyz (zqa (zxs (bVar 0) 1 (asgN 2) zva (bBin (opIn false) (bVar 2) (bC (.str "0123456789")))) (aNil))))) (sRet (bC (.bl false))) sNil)
 (sRet (bOrV (bBin (opEq false) (zqb zqy (zqa (bVar 0) (aNil))) (bC (.int 1))) (bBin (opEq true) (bBin zqd (bVar 0) (bC (.int 0))) (bC (.str "0")))))))
def F3:Fn:=mkFn false 2 0 b3
theorem h3:zqq (denS 60 S3) (zqj t3)=some b3:=by kernel_rfl
def G4:GT:=[]
def S4:Sx:=⟨["numbers","parting"],zqc t4,[],[],G4,[],true,[0,1,9,50,51],[]⟩
def b4:Fs:=(sRet (bMet zmd (bVar 1) (zxs (bVar 0) 1 (asgN 2) zva (zqb zkf (zqa (bVar 2) (aNil))))))
def F4:Fn:=mkFn false 2 0 b4
theorem h4:zqq (denS 60 S4) (zqj t4)=some b4:=by kernel_rfl
def G5:GT:=[("is_written_number",(false,2,F3))]
def S5:Sx:=⟨["text","parting","words"],zqc t5,[],[],G5,[],true,[0,1,9,50,51],[]⟩
def b5:Fs:=(sSeq (sSet false 2 (bMet zwx (bVar 0) (bVar 1)) [0,1])
 (sSeq (sIf (bT (bUn zxe (zqb zyz (zqa (zxs (bVar 2) 1 (asgN 3) zva (zqp F3 (zqa (bVar 3) (zqa (bC (.int 2)) (aNil))))) (aNil))))) (sExc 9) sNil)
 (sRet (zxs (bVar 2) 1 (asgN 3) zva (zqb zzq (zqa (bVar 3) (aNil)))))))
def F5:Fn:=mkFn false 2 1 b5
theorem h5:zqq (denS 60 S5) (zqj t5)=some b5:=by kernel_rfl
def G6:GT:=[]
def S6:Sx:=⟨["thing"],zqc t6,[],[],G6,[],true,[0,1,9,50,51],[]⟩
def b6:Fs:=(sIf (bT (bUn zxe (bUn (zqm "str") (bVar 0)))) (sExc 9) sNil)
def F6:Fn:=mkFn false 1 0 b6
theorem h6:zqq (denS 60 S6) (zqj t6)=some b6:=by kernel_rfl
def G7:GT:=[("must_be_box",(false,1,F2)),("show_numbers",(false,2,F4))]
def S7:Sx:=⟨["box"],zqc t7,[],[],G7,[],true,[0,1,9,50,51],[]⟩
def b7:Fs:=(sSeq (zvb (zqp F2 (zqa (bVar 0) (aNil))))
 (sRet (zqp F4 (zqa (bVar 0) (zqa (bC (.str "x")) (aNil))))))
def F7:Fn:=mkFn false 1 0 b7
theorem h7:zqq (denS 60 S7) (zqj t7)=some b7:=by kernel_rfl
def G8:GT:=[("is_box",(false,1,F1)),("read_numbers",(false,2,F5)),("must_be_text",(false,1,F6))]
def S8:Sx:=⟨["text","box"],zqc t8,[],[],G8,[],true,[0,1,9,50,51],[]⟩
def b8:Fs:=(sSeq (zvb (zqp F6 (zqa (bVar 0) (aNil))))
 (sSeq (sSet false 1 (zqb zmc (zqa (zqp F5 (zqa (bVar 0) (zqa (bC (.str "x")) (aNil)))) (aNil))) [0])
 (sSeq (sIf (bT (bUn zxe (zqp F1 (zqa (bVar 1) (aNil))))) (sExc 9) sNil)
 (qbt 1))))
def F8:Fn:=mkFn false 1 1 b8
theorem h8:zqq (denS 60 S8) (zqj t8)=some b8:=by kernel_rfl
def G9:GT:=[]
def S9:Sx:=⟨["script","k"],zqc t9,[],[],G9,[],true,[0,1,9,50,51],[]⟩
abbrev b9:Fs:=QV.Xb_cell_at
abbrev F9:Fn:=QV.b_cell_at
theorem h9:zqq (denS 60 S9) (zqj t9)=some b9:=by kernel_rfl
def G10:GT:=[]
def S10:Sx:=⟨["cell","many","found","rest","stir","k","again"],zqc t10,[],[],G10,[],true,[0,1,9,50,51],[]⟩
abbrev b10:Fs:=QV.Xc_numbers
abbrev F10:Fn:=QV.c_numbers
theorem h10:zqq (denS 60 S10) (zqj t10)=some b10:=by kernel_rfl
def qjp:Fn:=λ _=>.no
def qnq:GT:=[("_law_alike",(false,2,qjp))]
def qjo:Sx:=⟨["found","due"],zqc t11,[],[],qnq,[],true,[0,1,9,50,51],[]⟩
def qjk:Fs:=(zqq (denS 60 qjo) (zqj t11)).getD sNil
def qd2:Fn:=mkFn false 2 0 qjk
theorem qnc:zqq (denS 60 qjo) (zqj t11)=some qjk:=zvr (by decide +kernel)
def qnp:GT:=[("_law_alike",(false,2,qd2))]
def qjn:Sx:=⟨["found","due"],zqc t11,[],[],qnp,[],true,[0,1,9,50,51],[]⟩
def qjj:Fs:=(zqq (denS 60 qjn) (zqj t11)).getD sNil
def qd1:Fn:=mkFn false 2 0 qjj
theorem qnb:zqq (denS 60 qjn) (zqj t11)=some qjj:=zvr (by decide +kernel)
def qno:GT:=[("_law_alike",(false,2,qd1))]
def qjm:Sx:=⟨["found","due"],zqc t11,[],[],qno,[],true,[0,1,9,50,51],[]⟩
def qji:Fs:=(zqq (denS 60 qjm) (zqj t11)).getD sNil
def qd0:Fn:=mkFn false 2 0 qji
theorem qna:zqq (denS 60 qjm) (zqj t11)=some qji:=zvr (by decide +kernel)
def qnn:GT:=[("_law_alike",(false,2,qd0))]
def qfn:Sx:=⟨["found","due"],zqc t11,[],[],qnn,[],true,[0,1,9,50,51],[]⟩
def qjh:Fs:=(zqq (denS 60 qfn) (zqj t11)).getD sNil
def qfo:Fn:=mkFn false 2 0 qjh
theorem qm9:zqq (denS 60 qfn) (zqj t11)=some qjh:=zvr (by decide +kernel)
abbrev F11:Fn:=qfo
abbrev S11:Sx:=qfn
def G12:GT:=[]
def S12:Sx:=⟨["word","sign"],zqc t12,[],[],G12,[],true,[0,1,9,50,51],[]⟩
def b12:Fs:=(sSeq (sIf (bT (bOrV (bBin (opEq false) (bVar 0) (bC (.str ""))) (bOrV (bBin (zwl λ i j=>decide (j < i)) (zqb zqy (zqa (bVar 0) (aNil))) (bC (.int 2))) (zqx (bBin (opEq false) (zqb zqy (zqa (bVar 0) (aNil))) (bC (.int 2))) (bBin (opEq false) (bBin zqd (bVar 0) (bC (.int 0))) (bC (.str "0"))))))) (sRet (bUn zbn (bC (.int 1)))) sNil)
 (sSeq (qbu (bVar 0) [0] (asgN 1) (sIf (bT (bBin (opIn true) (bVar 1) (bC (.str "0123456789")))) (sRet (bUn zbn (bC (.int 1)))) sNil))
 (sRet (zqb zzq (zqa (bVar 0) (aNil))))))
def F12:Fn:=mkFn false 1 1 b12
theorem h12:zqq (denS 60 S12) (zqj t12)=some b12:=by kernel_rfl
def G13:GT:=[]
def S13:Sx:=⟨["text","xs","at","sign","way","odd"],zqc t13,[],[],G13,[],true,[0,1,9,50,51],[]⟩
def b13:Fs:=(sSeq (sSet false 2 (bBin zqr (bBin zqo (bBin zqd (bVar 1) (bC (.int 0))) (bBin zwu (bC (.int 64)) (bBin zqd (bVar 1) (bC (.int 1))))) (bBin zqo (zqb zqy (zqa (bVar 0) (aNil))) (bC (.int 1)))) [1,1,0])
 (sSeq (sSet false 3 (bBin zqd (bC (.str "0123456789 /x-+._\n\tab")) (bBin zqr (bBin zqd (bVar 1) (bC (.int 2))) (bC (.int 21)))) [1])
 (sSeq (sSet false 4 (bBin zqr (bBin zqd (bVar 1) (bC (.int 3))) (bC (.int 8))) [1])
 (sSeq (sIf (bT (bBin (opEq false) (bVar 4) (bC (.int 0)))) (sRet (bBin zqo (bSl (bVar 0) none (some (bVar 2))) (bSl (bVar 0) (some (bBin zqo (bVar 2) (bC (.int 1)))) none))) sNil)
 (sSeq (sIf (bT (bBin (opEq false) (bVar 4) (bC (.int 1)))) (sRet (bBin zqo (bBin zqo (bSl (bVar 0) none (some (bVar 2))) (bVar 3)) (bSl (bVar 0) (some (bVar 2)) none))) sNil)
 (sSeq (sIf (bT (bBin (opEq false) (bVar 4) (bC (.int 2)))) (sRet (bBin zqo (bBin zqo (bSl (bVar 0) none (some (bVar 2))) (bVar 3)) (bSl (bVar 0) (some (bBin zqo (bVar 2) (bC (.int 1)))) none))) sNil)
 (sSeq (sIf (bT (bBin (opEq false) (bVar 4) (bC (.int 3)))) (sRet (bBin zqo (bVar 0) (bBin zqd (zqb zxb (zqa (bC (.str " ")) (zqa (bC (.str "/")) (zqa (bC (.str "\n")) (zqa (bC (.str " 0")) (zqa (bC (.str "/0")) (zqa (bC (.str "x1")) (zqa (bC (.str "0")) (aNil))))))))) (bBin zqr (bBin zqd (bVar 1) (bC (.int 4))) (bC (.int 7)))))) sNil)
 (sSeq (sIf (bT (bBin (opEq false) (bVar 4) (bC (.int 4)))) (sRet (bBin zqo (bBin zqd (zqb zxb (zqa (bC (.str " ")) (zqa (bC (.str "/")) (zqa (bC (.str "\n")) (zqa (bC (.str "0")) (zqa (bC (.str "0 ")) (zqa (bC (.str "1x")) (aNil)))))))) (bBin zqr (bBin zqd (bVar 1) (bC (.int 4))) (bC (.int 6)))) (bVar 0))) sNil)
 (sSeq (sIf (bT (bBin (opEq false) (bVar 4) (bC (.int 5)))) (sRet (zja zbm (bVar 0) (zqa (bC (.str " ")) (zqa (bC (.str "  ")) (zqa (bC (.int 1)) (aNil)))))) sNil)
 (sSeq (sIf (bT (bBin (opEq false) (bVar 4) (bC (.int 6)))) (sRet (zja zbm (bVar 0) (zqa (bC (.str "/")) (zqa (bBin zqd (zqb zxb (zqa (bC (.str " / ")) (zqa (bC (.str "//")) (zqa (bC (.str "\n")) (zqa (bC (.str " ")) (aNil)))))) (bBin zqr (bBin zqd (bVar 1) (bC (.int 4))) (bC (.int 4)))) (zqa (bC (.int 1)) (aNil)))))) sNil)
 (sSeq (sSet false 5 (zqb zxb (zqa (bC (.str "")) (zqa (bC (.str " ")) (zqa (bC (.str "/")) (zqa (bC (.str "x")) (zqa (bC (.str "1")) (zqa (bC (.str "01")) (zqa (bC (.str "1x1")) (zqa (bC (.str "1x1x1x1")) (zqa (bC (.str "0x1x1")) (zqa (bC (.str "1X1X1")) (zqa (bC (.str "99x99x99")) (zqa (bC (.str "100x1x1")) (zqa (bC (.str "1x01x1")) (zqa (bC (.str "pile")) (aNil)))))))))))))))) [])
 (sRet (bBin zqd (bVar 5) (bBin zqr (bBin zqd (bVar 1) (bC (.int 4))) (bC (.int 14))))))))))))))))
def F13:Fn:=mkFn false 2 4 b13
theorem h13:zqq (denS 60 S13) (zqj t13)=some b13:=by kernel_rfl
def G14:GT:=[]
def S14:Sx:=⟨["number","some"],zqc t14,[],[],G14,[],true,[0,1,9,50,51],[]⟩
def b14:Fs:=(sSeq (sSet false 1 (zqb zxb (zqa (zqb zwt (zqa (bC (.int 0)) (zqa (bC (.int 1)) (zqa (bC (.int 1)) (aNil))))) (zqa (zqb zwt (zqa (bC (.int 1)) (zqa (bC (.int 2)) (aNil)))) (zqa (zqb zwt (zqa (bC (.int 1)) (zqa (bC (.int 2)) (zqa (bC (.int 3)) (zqa (bC (.int 4)) (aNil)))))) (zqa (zqb zxb (zqa (bC (.int 1)) (zqa (bC (.int 1)) (zqa (bC (.int 1)) (aNil))))) (zqa (bC .non) (zqa (zqb zwt (zqa (bC (.int 1)) (zqa (bC (.bl true)) (zqa (bC (.int 1)) (aNil))))) (zqa (zqb zwt (zqa (bC (.int 2)) (zqa (bUn zbn (bC (.int 1))) (zqa (bC (.int 2)) (aNil))))) (zqa (bC (.str "111")) (zqa (zqb zwt (zqa (bC (.str "1")) (zqa (bC (.int 1)) (zqa (bC (.int 1)) (aNil))))) (zqa (bC (.int 7)) (zqa (zqb zwt (aNil)) (aNil))))))))))))) [])
 (sRet (bBin zqd (bVar 1) (bBin zqr (bVar 0) (zqb zqy (zqa (bVar 1) (aNil)))))))
def F14:Fn:=mkFn false 1 1 b14
theorem h14:zqq (denS 60 S14) (zqj t14)=some b14:=by kernel_rfl
def G15:GT:=[("_law_number",(false,1,F12))]
def S15:Sx:=⟨["text","numbers"],zqc t15,[],[],G15,[],true,[0,1,9,50,51],[]⟩
def b15:Fs:=(sSeq (sIf (bT (bUn zxe (bUn (zqm "str") (bVar 0)))) (sRet (bC .non)) sNil)
 (sSeq (sSet false 1 (zxs (bMet zwx (bVar 0) (bC (.str "x"))) 1 (asgN 2) zva (zqp F12 (zqa (bVar 2) (aNil)))) [0,0])
 (sSeq (sIf (bT (bOrV (bBin (opEq true) (zqb zqy (zqa (bVar 1) (aNil))) (bC (.int 3))) (bBin (zwl λ i j=>decide (i < j)) (zqb zbo (zqa (bVar 1) (aNil))) (bC (.int 1))))) (sRet (bC .non)) sNil)
 (sRet (zqb zwt (zqa (bBin zqd (bVar 1) (bC (.int 0))) (zqa (bBin zqd (bVar 1) (bC (.int 1))) (zqa (bBin zqd (bVar 1) (bC (.int 2))) (aNil)))))))))
def F15:Fn:=mkFn false 1 1 b15
theorem h15:zqq (denS 60 S15) (zqj t15)=some b15:=by kernel_rfl
def G16:GT:=[("show_box",(false,1,F7)),("read_box",(false,1,F8))]
def S16:Sx:=⟨["thing","read","word","found","apart","e"],zqc t16,[],[],G16,[],true,[0,1,9,50,51],[]⟩
def b16:Fs:=(sSeq (sSet false 2 (bC (.str "told")) [])
 (sSeq (sSet false 3 (bC .non) [])
 (sSeq (sSet false 4 (bC (.bl true)) [])
 (sSeq (zbe [(1,(sSeq (sSet false 2 (bC (.str "NoBox")) [])
 (sSet false 4 (zqx (bUn zxe (bUn (zxq [9]) (bVar 5))) (zqx (bUn (zxq [0]) (bVar 5)) (bUn (zxq [0]) (bVar 5)))) [5,5,5]))),(9,(sSeq (sSet false 2 (bC (.str "NoText")) [])
 (sSet false 4 (zqx (bUn zxe (bUn (zxq [1]) (bVar 5))) (zqx (bUn (zxq [0]) (bVar 5)) (bUn (zxq [0]) (bVar 5)))) [5,5,5])))] 5 [] (sIf (bT (bVar 1)) (sSet false 3 (zqp F8 (zqa (bVar 0) (aNil))) [0]) (sSet false 3 (zqp F7 (zqa (bVar 0) (aNil))) [0])))
 (sRet (zqb zwt (zqa (bBin zqo (bVar 2) (bBin zqd (zqb zxb (zqa (bC (.str "odd")) (zqa (bC (.str "")) (aNil)))) (zqb zzq (zqa (bVar 4) (aNil))))) (zqa (bVar 3) (aNil)))))))))
def F16:Fn:=mkFn false 2 4 b16
theorem h16:zqq (denS 60 S16) (zqj t16)=some b16:=by kernel_rfl
def G17:GT:=[("_law_cell_at",(false,2,F9)),("_law_numbers",(false,2,F10)),("_law_alike",(false,2,F11)),("_law_changed",(false,2,F13)),("_law_no_box",(false,1,F14)),("_law_due",(false,1,F15)),("_law_asked",(false,2,F16))]
def S17:Sx:=⟨["script","k","xs","box","text","word","found","due"],zqc t17,[],[],G17,[],true,[0,1,9,50,51],[]⟩
def b17:Fs:=(sSeq (zyx zzd (zqa (zqb qal (zqa (bC (.int 1)) (zqa (zqb zbo (zqa (zqb zqy (zqa (bVar 0) (aNil))) (zqa (bC (.int 40)) (aNil)))) (aNil)))) (aNil)) (asgN 1) (sSeq (sSet false 2 (zqp F10 (zqa (zqp F9 (zqa (bVar 0) (zqa (bVar 1) (aNil)))) (zqa (bC (.int 16)) (aNil)))) [0,1])
 (sSeq (sSet false 3 (zqb zwt (zqa (bBin zqo (bC (.int 1)) (bBin zqr (bBin zqd (bVar 2) (bC (.int 0))) (bC (.int 6)))) (zqa (bBin zqo (bC (.int 1)) (bBin zqr (bBin zqo (bBin zwu (bBin zqd (bVar 2) (bC (.int 1))) (bC (.int 3))) (bBin zqd (bVar 2) (bC (.int 2)))) (bC (.int 99)))) (zqa (bBin zqo (bC (.int 1)) (bBin zqr (bBin zqd (bVar 2) (bC (.int 2))) (bBin zqd (zqb zxb (zqa (bC (.int 9)) (zqa (bC (.int 10)) (zqa (bC (.int 99)) (aNil))))) (bBin zqr (bBin zqd (bVar 2) (bC (.int 0))) (bC (.int 3)))))) (aNil))))) [2,2,2,2,2])
 (sSeq (sSet false 4 (bBin zqo (bBin zqo (bBin zqo (bBin zqo (zqb zkf (zqa (bBin zqd (bVar 3) (bC (.int 0))) (aNil))) (bC (.str "x"))) (zqb zkf (zqa (bBin zqd (bVar 3) (bC (.int 1))) (aNil)))) (bC (.str "x"))) (zqb zkf (zqa (bBin zqd (bVar 3) (bC (.int 2))) (aNil)))) [3,3,3])
 (sSeq (sIf (bT (bOrV (bBin (opEq true) (zqp F16 (zqa (bVar 3) (zqa (bC (.bl false)) (aNil)))) (zqb zwt (zqa (bC (.str "told")) (zqa (bVar 4) (aNil))))) (bBin (opEq true) (zqp F16 (zqa (zqp F14 (zqa (bBin zqd (bVar 2) (bC (.int 3))) (aNil))) (zqa (bC (.bl false)) (aNil)))) (zqb zwt (zqa (bC (.str "NoBox")) (zqa (bC .non) (aNil))))))) (sRet (bC (.bl false))) sNil)
 (sSeq (sIf (bT (bBin (zwl λ i j=>decide (j < i)) (bBin zqr (bBin zqd (bVar 2) (bC (.int 4))) (bC (.int 4))) (bC (.int 0)))) (sSet false 4 (zqp F13 (zqa (bVar 4) (zqa (bSl (bVar 2) (some (bC (.int 5))) (some (bC (.int 10)))) (aNil)))) [4,2]) sNil)
 (sSeq (sIf (bT (bBin (opEq false) (bBin zqr (bBin zqd (bVar 2) (bC (.int 10))) (bC (.int 8))) (bC (.int 3)))) (sSet false 4 (bBin zqd (zqb zxb (zqa (bC .non) (zqa (bC (.int 7)) (zqa (bVar 3) (zqa (zqb zxb (zqa (bVar 4) (aNil))) (zqa (bC (.bl true)) (zqa (bC .emp) (aNil)))))))) (bBin zqr (bBin zqd (bVar 2) (bC (.int 11))) (bC (.int 6)))) [3,4,2]) sNil)
 (sSeq (sUnp (asgT [5,6]) (zqp F16 (zqa (bVar 4) (zqa (bC (.bl true)) (aNil)))) [4])
 (sSeq (sSet false 7 (zqp F15 (zqa (bVar 4) (aNil))) [4])
 (sIf (bT (bOrV (zqx (bBin (opIs false) (bVar 7) (bC .non)) (bBin (opEq true) (bVar 5) (bC (.str "NoText")))) (zqx (bBin (opIs true) (bVar 7) (bC .non)) (bOrV (bBin (opEq true) (bVar 5) (bC (.str "told"))) (bUn zxe (zqp F11 (zqa (bVar 6) (zqa (bVar 7) (aNil))))))))) (sRet (bC (.bl false))) sNil))))))))))
 (sRet (bC (.bl true))))
def F17:Fn:=mkFn false 1 7 b17
theorem h17:zqq (denS 60 S17) (zqj t17)=some b17:=by kernel_rfl
theorem qfk:qjk=(sSeq (sIf (bT (bOrV (bUn (zqm "tuple") (bVar 1)) (bUn (zqm "list") (bVar 1)))) (sSeq (sIf (bT (bOrV (bBin (opEq true) (bUn (zqm "tuple") (bVar 0)) (bUn (zqm "tuple") (bVar 1))) (bBin (opEq true) (bUn (zqm "list") (bVar 0)) (bUn (zqm "list") (bVar 1))))) (sRet (bC (.bl false))) sNil)
 (sSeq (sIf (bT (bBin (opEq true) (zqb zqy (zqa (bVar 0) (aNil))) (zqb zqy (zqa (bVar 1) (aNil))))) (sRet (bC (.bl false))) sNil)
 (sRet (bBin (opEq false) (zzn zzd (zqa (zqb zqy (zqa (bVar 1) (aNil))) (aNil)) 1 (asgN 2) (bT (bUn zxe (zqp qjp (zqa (bBin zqd (bVar 0) (bVar 2)) (zqa (bBin zqd (bVar 1) (bVar 2)) (aNil)))))) (bVar 2)) (zqb zxb (aNil)))))) sNil)
 (sRet (zqx (bUn (zqm "int") (bVar 0)) (zqx (bUn zxe (bUn (zqm "bool") (bVar 0))) (bBin (opEq false) (bVar 0) (bVar 1)))))):=by kernel_rfl
theorem qfj:qjj=(sSeq (sIf (bT (bOrV (bUn (zqm "tuple") (bVar 1)) (bUn (zqm "list") (bVar 1)))) (sSeq (sIf (bT (bOrV (bBin (opEq true) (bUn (zqm "tuple") (bVar 0)) (bUn (zqm "tuple") (bVar 1))) (bBin (opEq true) (bUn (zqm "list") (bVar 0)) (bUn (zqm "list") (bVar 1))))) (sRet (bC (.bl false))) sNil)
 (sSeq (sIf (bT (bBin (opEq true) (zqb zqy (zqa (bVar 0) (aNil))) (zqb zqy (zqa (bVar 1) (aNil))))) (sRet (bC (.bl false))) sNil)
 (sRet (bBin (opEq false) (zzn zzd (zqa (zqb zqy (zqa (bVar 1) (aNil))) (aNil)) 1 (asgN 2) (bT (bUn zxe (zqp qd2 (zqa (bBin zqd (bVar 0) (bVar 2)) (zqa (bBin zqd (bVar 1) (bVar 2)) (aNil)))))) (bVar 2)) (zqb zxb (aNil)))))) sNil)
 (sRet (zqx (bUn (zqm "int") (bVar 0)) (zqx (bUn zxe (bUn (zqm "bool") (bVar 0))) (bBin (opEq false) (bVar 0) (bVar 1)))))):=by kernel_rfl
theorem qfi:qji=(sSeq (sIf (bT (bOrV (bUn (zqm "tuple") (bVar 1)) (bUn (zqm "list") (bVar 1)))) (sSeq (sIf (bT (bOrV (bBin (opEq true) (bUn (zqm "tuple") (bVar 0)) (bUn (zqm "tuple") (bVar 1))) (bBin (opEq true) (bUn (zqm "list") (bVar 0)) (bUn (zqm "list") (bVar 1))))) (sRet (bC (.bl false))) sNil)
 (sSeq (sIf (bT (bBin (opEq true) (zqb zqy (zqa (bVar 0) (aNil))) (zqb zqy (zqa (bVar 1) (aNil))))) (sRet (bC (.bl false))) sNil)
 (sRet (bBin (opEq false) (zzn zzd (zqa (zqb zqy (zqa (bVar 1) (aNil))) (aNil)) 1 (asgN 2) (bT (bUn zxe (zqp qd1 (zqa (bBin zqd (bVar 0) (bVar 2)) (zqa (bBin zqd (bVar 1) (bVar 2)) (aNil)))))) (bVar 2)) (zqb zxb (aNil)))))) sNil)
 (sRet (zqx (bUn (zqm "int") (bVar 0)) (zqx (bUn zxe (bUn (zqm "bool") (bVar 0))) (bBin (opEq false) (bVar 0) (bVar 1)))))):=by kernel_rfl
theorem qfh:qjh=(sSeq (sIf (bT (bOrV (bUn (zqm "tuple") (bVar 1)) (bUn (zqm "list") (bVar 1)))) (sSeq (sIf (bT (bOrV (bBin (opEq true) (bUn (zqm "tuple") (bVar 0)) (bUn (zqm "tuple") (bVar 1))) (bBin (opEq true) (bUn (zqm "list") (bVar 0)) (bUn (zqm "list") (bVar 1))))) (sRet (bC (.bl false))) sNil)
 (sSeq (sIf (bT (bBin (opEq true) (zqb zqy (zqa (bVar 0) (aNil))) (zqb zqy (zqa (bVar 1) (aNil))))) (sRet (bC (.bl false))) sNil)
 (sRet (bBin (opEq false) (zzn zzd (zqa (zqb zqy (zqa (bVar 1) (aNil))) (aNil)) 1 (asgN 2) (bT (bUn zxe (zqp qd0 (zqa (bBin zqd (bVar 0) (bVar 2)) (zqa (bBin zqd (bVar 1) (bVar 2)) (aNil)))))) (bVar 2)) (zqb zxb (aNil)))))) sNil)
 (sRet (zqx (bUn (zqm "int") (bVar 0)) (zqx (bUn zxe (bUn (zqm "bool") (bVar 0))) (bBin (opEq false) (bVar 0) (bVar 1)))))):=by kernel_rfl
end K56
namespace QV
open PySem PySem.Spec PyProof.Rows L2 QQ
theorem zwr {z:Str}:zqs z=true↔∀ c∈z.cps.toList,c < 128:=by
 unfold zqs
 rw [<- Array.all_toList,jb6]
 exact ⟨λ h c hc=>of_decide_eq_true (h c hc),λ h c hc=>decide_eq_true (h c hc)⟩
theorem zvn (x y:Str):(x++y).cps.toList=x.cps.toList++y.cps.toList:=Array.toList_append
theorem zfz (x:Str):x.cps.toList.length=x.length:=rfl
theorem zxc (x y:Str):(x++y).length=x.length + y.length:=Array.size_append
theorem zvm {x y:Str} (hx:zqs x=true) (hy:zqs y=true):zqs (x++y)=true:=zwr.mpr λ c hc=>by
 rw [zvn] at hc
 exact (jb3.mp hc).elim (zwr.mp hx c) (zwr.mp hy c)
theorem qbm {x:Str}{l u:Option Int}{c:Nat} (h:c∈(ve4 x l u).cps.toList):c∈x.cps.toList:=by
 unfold ve4 at h
 split at h
 ·exact h
 ·obtain ⟨i,_,e⟩:=jg4.mp h
  exact jk3 (i:=i) (by rw [jh4];exact e)
theorem zyv {x:Str}{l u:Option Int} (hx:zqs x=true):zqs (ve4 x l u)=true:=zwr.mpr λ c hc=>zwr.mp hx c (qbm hc)
def jlV (c:Nat):List (List Nat)->List Nat
 | []=>[]
 | [x]=>x
 | x::y::r=>x++c::jlV c (y::r)
theorem zhl (c:Nat):∀ l:List Str,(Str.join ⟨#[c]⟩ l).cps.toList=jlV c (l.map (·.cps.toList))
 | []=>rfl
 | [x]=>rfl
 | x::y::r=>by
  show ((x++⟨#[c]⟩)++Str.join ⟨#[c]⟩ (y::r)).cps.toList=_
  rw [zvn,zvn,zhl c (y::r)]
  show (x.cps.toList++[c])++jlV c ((y::r).map (·.cps.toList))=x.cps.toList++c::jlV c ((y::r).map (·.cps.toList))
  rw [jh0]
  rfl
theorem qcv {c d:Nat}:∀ {l:List (List Nat)}{p:List Nat},p∈l->d∈p->d∈jlV c l
 | [x],p,hp,hd=>by rw [jb1.mp hp] at hd;exact hd
 | x::y::r,p,hp,hd=>by
  show d∈x++c::jlV c (y::r)
  rcases ja9.mp hp with e | hp
  ·rw [e] at hd;exact ja4 _ hd
  ·exact ja1 _ (ja0 _ (qcv hp hd))
theorem qcw {c:Nat}:∀ (l:List (List Nat)),l.length<=(jlV c l).length + 1/\∀ p∈l,p.length<=(jlV c l).length
 | []=>⟨jf7 _,λ _ z=>nomatch z⟩
 | [x]=>⟨Nat.le_add_left _ _,λ p hp=>by rw [jb1.mp hp];exact jb4 _⟩
 | x::y::r=>by
  have ih:=qcw (c:=c) (y::r)
  have e:(jlV c (x::y::r)).length=x.length + ((jlV c (y::r)).length + 1):=by
   show (x++c::jlV c (y::r)).length=_
   rw [jb8,jc0]
  refine ⟨by rw [e,jc0];have:=ih.1;omega,λ p hp=>?_⟩
  rcases ja9.mp hp with z | hp
  ·rw [z,e];omega
  ·have:=ih.2 p hp
   omega
theorem zpr (z:Str) (c:Nat):jlV c ((va9 z ⟨#[c]⟩).map (·.cps.toList))=z.cps.toList:=by
 have e:=StrLaws.join_split z ⟨#[c]⟩
 change Str.join ⟨#[c]⟩ (va9 z ⟨#[c]⟩)=z at e
 have:=zhl c (va9 z ⟨#[c]⟩)
 rw [e] at this
 exact this.symm
theorem zps {z p:Str}{c:Nat} (hz:zqs z=true) (hp:p∈va9 z ⟨#[c]⟩):zqs p=true:=zwr.mpr λ d hd=>by
 refine zwr.mp hz d ?_
 rw [<- zpr z c]
 exact qcv (jk8 hp) hd
theorem zzu (z:Str) (c:Nat):(va9 z ⟨#[c]⟩).length<=z.length + 1/\∀ p∈va9 z ⟨#[c]⟩,p.length<=z.length:=by
 have h:=qcw (c:=c) ((va9 z ⟨#[c]⟩).map (·.cps.toList))
 rw [zpr,jb5] at h
 exact ⟨h.1,λ p hp=>h.2 _ (jk8 hp)⟩
def FG:Str := "0123456789"
def fig (c:Nat):Bool:=vf9 FG ⟨#[c]⟩
def figL:List Nat:=[48,49,50,51,52,53,54,55,56,57]
theorem zga {c:Nat} (h:fig c=true):c∈figL:=by
 unfold fig vf9 at h
 rw [StrLaws.found_one] at h
 have:=of_decide_eq_true h
 rw [show FG.cps.toList=figL by decide +kernel] at this
 exact this
def hd0 (z:Str):Bool:=(⟨#[z.cps.toList.getD 0 0]⟩:Str) == "0"
def Wr (z:Str):Bool:=decide (1<=z.length) && decide (z.length<=2) && z.cps.toList.all fig && (decide (z.length=1) || !hd0 z)
def valS (z:Str):Int:=(ve8 z).getD 0
def nOk (z:Str):Bool:=match ve8 z with
 | some n=>decide (0<=n) && decide (n<=99)
 | none=>false
theorem qii:figL.all (λ c=>nOk ⟨#[c]⟩)=true:=by decide +kernel
theorem qih:figL.all (λ c=>figL.all λ d=>nOk ⟨#[c,d]⟩)=true:=by decide +kernel
theorem qig {z:Str} (h:nOk z=true):ve8 z=some (valS z)/\0<=valS z/\valS z<=99:=by
 unfold nOk at h
 split at h
 ·rename_i n e
  rw [ja3] at h
  have e2:valS z=n:=by unfold valS;rw [e];rfl
  rw [e2]
  exact ⟨e,of_decide_eq_true h.1,of_decide_eq_true h.2⟩
 ·cases h
theorem qgs {z:Str} (h:Wr z=true):ve8 z=some (valS z)/\0<=valS z/\valS z<=99:=by
 refine qig ?_
 unfold Wr at h
 rw [ja3,ja3,ja3] at h
 obtain ⟨⟨⟨h1,h2⟩,h3⟩,_⟩:=h
 have h1:=of_decide_eq_true h1
 have h2:=of_decide_eq_true h2
 have ez:z=⟨z.cps.toList.toArray⟩:=rfl
 rw [<- zfz] at h1 h2
 rw [jb6] at h3
 rw [ez]
 generalize z.cps.toList=l at h1 h2 h3
 match l with
 | []=>cases h1
 | [c]=>exact jb6.mp qii c (zga (h3 c ja2))
 | [c,d]=>exact jb6.mp (jb6.mp qih c (zga (h3 c ja2))) d (zga (h3 d (ja0 _ ja2)))
 | _::_::_::_=>simp at h2
def wv (z:Str):Int:=if Wr z=true then valS z else -1
def okE:Nat->PV->Bool
 | 0,_=>false
 | n + 1,x=>match x with
  | .lst xs=>decide (xs.length<=1000) && xs.all (okE n)
  | .tup xs=>decide (xs.length<=1000) && xs.all (okE n)
  | .scr _=>false
  | .exn _=>false
  | .dct _=>false
  | .dko=>false
  | _=>true
theorem qid {n:Nat}{xs:List PV} (h:okE (n + 1) (.lst xs)=true):xs.length<=1000/\∀ x∈xs,okE n x=true:=by
 unfold okE at h
 dsimp only at h
 rw [ja3,jb6] at h
 exact ⟨of_decide_eq_true h.1,h.2⟩
theorem zft {n:Nat}{xs:List PV} (h:okE (n + 1) (.tup xs)=true):xs.length<=1000/\∀ x∈xs,okE n x=true:=by
 unfold okE at h
 dsimp only at h
 rw [ja3,jb6] at h
 exact ⟨of_decide_eq_true h.1,h.2⟩
theorem qic {n:Nat}{xs:List PV} (hl:xs.length<=1000) (h:∀ x∈xs,okE n x=true):okE (n + 1) (.tup xs)=true:=by
 unfold okE
 dsimp only
 rw [ja3,jb6]
 exact ⟨decide_eq_true hl,h⟩
theorem zzw {f:PV->PV->Bool}:∀ {xs:List PV},(∀ x∈xs,f x x=true)->zvg f xs xs=true
 | [],_=>rfl
 | x::xs,h=>by
  unfold zvg
  rw [h x ja2,zzw λ y hy=>h y (ja0 _ hy)]
  rfl
theorem zbd:∀ (n:Nat) (x:PV),okE n x=true->zkn n x x=true
 | 0,_,h=>by cases h
 | n + 1,x,h=>by
  cases x with
  | non=>rfl
  | bl b=>exact beq_self_eq_true b
  | int b=>exact beq_self_eq_true b
  | str b=>exact beq_self_eq_true b
  | emp=>rfl
  | dko=>cases h
  | lst xs=>exact zzw λ x hx=>zbd n x ((qid h).2 x hx)
  | tup xs=>exact zzw λ x hx=>zbd n x ((zft h).2 x hx)
  | scr _=>cases h
  | exn _=>cases h
  | dct _=>cases h
def qjq:PV->Bool
 | .int _=>true
 | _=>false
theorem qa0 {n:Nat} (x:PV) (h:okE n x=true):f_is_whole_number [x]=.ok (.bl (qjq x),om,.non):=by
 cases n with
 | zero=>cases h
 | succ n=>
  cases x with
  | non=>kernel_rfl
  | bl b=>cases b <;> kernel_rfl
  | int i=>kernel_rfl
  | str s=>kernel_rfl
  | lst xs=>kernel_rfl
  | tup xs=>kernel_rfl
  | emp=>kernel_rfl
  | dko=>cases h
  | scr _=>cases h
  | exn _=>cases h
  | dct _=>cases h
def qea:PV->Bool
 | .int i=>decide (1<=i)
 | _=>false
def boxV:PV->Bool
 | .tup xs=>decide (xs.length=3) && xs.all qea
 | _=>false
theorem qd9 {n:Nat}{y x:PV} (h:okE n x=true):(zqx (zqp f_is_whole_number (zqa (bVar 1) (aNil))) (bBin (zwl λ i j=>decide (j<=i)) (bVar 1) (bC (.int 1)))) ([some (y,dv y)]++[some (x,dv x)])=.ok (.bl (qea x),om,[some (y,dv y)]++[some (x,dv x)]):=by
 have w:=zqz (F:=f_is_whole_number) (fa:=zqa (bVar 1) aNil) (ρ:=[some (y,dv y)]++[some (x,dv x)]) (xs:=[(x,dv x)]) rfl (qa0 x h)
 cases n with
 | zero=>cases h
 | succ n=>
  cases x with
  | int i=>exact zve (a:=true) w (λ _=>zhv (i:=i) (j:=1) rfl rfl) rfl
  | scr _=>cases h
  | exn _=>cases h
  | dct _=>cases h
  | _=>exact zve (a:=false) (b:=false) w (λ e=>nomatch e) rfl
theorem qmn {n:Nat}{f elt:Fx}{ρ ρ1:Rho}{d:Nat}{g:PV->Bool} (xs:List PV) (hf:f ρ=.ok (.lst xs,d,ρ1)) (hn:ρ1.length=n) (he:∀ x∈xs,elt (ρ1++[some (x,dv x)])=.ok (.bl (g x),om,ρ1++[some (x,dv x)])) (hl:xs.length<=1000):zqb zyz (zqa (zxs f 1 (asgN n) zva elt) aNil) ρ=.ok (.bl (xs.all g),om,ρ1):=by
 have z:=sz
 exact all_ok (zky (enc:=λ x=>x) (q:=λ x=>.bl (g x)) xs (by rw [jn5];exact hf) hn he (by omega))
theorem qdh {n:Nat}{f elt:Fx}{ρ ρ1:Rho}{d:Nat}{g:PV->Bool} (xs:List PV) (hf:f ρ=.ok (.tup xs,d,ρ1)) (hn:ρ1.length=n) (he:∀ x∈xs,elt (ρ1++[some (x,dv x)])=.ok (.bl (g x),om,ρ1++[some (x,dv x)])) (hl:xs.length<=1000):zqb zyz (zqa (zxs f 1 (asgN n) zva elt) aNil) ρ=.ok (.bl (xs.all g),om,ρ1):=by
 have z:=sz
 exact all_ok (zpc (enc:=λ x=>x) (q:=λ x=>.bl (g x)) xs (by rw [jn5];exact hf) hn he (by omega))
theorem qdw {n:Nat}{y:PV} (h:okE n y=true):f_is_box [y]=.ok (.bl (boxV y),om,.non):=by
 have z:=sz
 refine zwv rfl (ρ':=[some (y,dv y)]) ?_
 show Xf_is_box [some (y,dv y)]=_
 cases n with
 | zero=>cases h
 | succ n=>
  cases y with
  | tup xs=>
   have t:bT (bOrV (bUn zxe (bUn (zqm "tuple") (bVar 0))) (bBin (opEq true) (zqb zqy (zqa (bVar 0) (aNil))) (bC (.int 3)))) [some (.tup xs,0)]=.ok (!decide (xs.length=3),[some (.tup xs,0)]):=by
    refine t_ok (d:=om) ((zfr (a:=false) rfl (λ _=>zmt (i:=(xs.length:Int)) (j:=3) rfl rfl) rfl).trans ?_)
    rw [jl1,jj2]
    have e:decide ((xs.length:Int)=3)=decide (xs.length=3):=decide_eq_decide.mpr (by omega)
    rw [e]
   dsimp only [boxV]
   by_cases hc:xs.length=3
   ·rw [decide_eq_true hc] at t ⊢
    refine (qhg t).trans (zwi ?_)
    exact qdh (g:=qea) xs (d:=0) rfl rfl (λ x hx=>qd9 ((zft h).2 x hx)) (zft h).1
   ·rw [decide_eq_false hc] at t ⊢
    exact zzo ((if_t t).trans rfl)
  | scr _=>cases h
  | exn _=>cases h
  | dct _=>cases h
  | _=>exact zzo ((if_t (t_ok (d:=om) (zfr (a:=true) (b:=false) rfl (λ e=>nomatch e) rfl))).trans rfl)
theorem orF {f g:Fx}{ρ ρ1:Rho}{d:Nat} (h:f ρ=.ok (.bl false,d,ρ1)):bOrV f g ρ=g ρ1:=by
 unfold bOrV
 rw [h]
 rfl
theorem zym {f g:Fs}{ρ:Rho}{c:Nat} (h:f ρ=.exc c):sSeq f g ρ=.exc c:=by unfold sSeq;rw [h]
theorem zku {F:Fn}{fa:Fa}{ρ ρ1:Rho}{xs:List (PV×Nat)}{c:Nat} (h1:fa ρ=.ok (xs,ρ1)) (h2:F (xs.map (·.1))=.exc c):zqp F fa ρ=.exc c:=by
 unfold zqp
 rw [h1]
 dsimp only [Rz.bind]
 rw [h2]
theorem zho {f:Fx}{ρ:Rho}{c:Nat} (h:f ρ=.exc c):zvb f ρ=.exc c:=by unfold zvb;rw [h]
theorem zjn {np k:Nat}{b:Fs}{xs:List PV}{c:Nat} (hl:xs.length=np) (h:b (xs.map (λ x=>some (x,dv x))++ja6 k none)=.exc c):mkFn false np k b xs=.exc c:=by
 unfold mkFn
 rw [if_pos hl]
 show (match b (xs.map (λ x=>some (x,dv x))++ja6 k none) with | .rt y d ρ=>_ | .nx ρ=>_ | .exc c=>_ | _=>_)=_
 rw [h]
theorem qan {y:PV} (h:f_is_box [y]=.ok (.bl false,om,.non)):f_must_be_box [y]=.exc 1:=
 zjn rfl ((if_t (f:=sExc 1) (g:=sNil) (t_ok (zkk (zqz (F:=f_is_box) (fa:=zqa (bVar 0) aNil) (ρ:=[some (y,dv y)]) (xs:=[(y,dv y)]) rfl h)))).trans rfl)
end QV
namespace K56
open PySem PySem.Spec PyProof.Rows L2 QQ QV
theorem qe8 {n:Nat}{f elt:Fx}{q:Nat->PV}{ρ ρ1:Rho}{d:Nat} (z:Str) (hf:f ρ=.ok (.str z,d,ρ1)) (ha:zqs z=true) (hn:ρ1.length=n) (he:∀ c∈z.cps.toList,elt (ρ1++[some (.str ⟨#[c]⟩,om)])=.ok (q c,om,ρ1++[some (.str ⟨#[c]⟩,om)])) (hl:z.length<=1000):
  zxs f 1 (asgN n) zva elt ρ=.ok (.lst (z.cps.toList.map q),om,ρ1):=by
 have s:=sz
 unfold zxs
 rw [hf]
 dsimp only
 rw [if_pos ha]
 show (zwq 1 (asgN n) zva elt (z.cps.toList.map λ c=>PV.str ⟨#[c]⟩) ρ1 []).bindN _=_
 rw [zzs (enc:=λ c=>PV.str ⟨#[c]⟩) (p:=λ _=>true) (q:=q) (e:=λ _=>om) z.cps.toList ρ1 [] hn (λ _ _=>rfl) (λ x hx _=>he x hx) (by rw [zfz];simpa using (show z.length<=va2 by omega)),ji4.mpr (λ _ _=>rfl)]
 show zvj (z.cps.toList.map λ x=>(q x,om)) ρ1=_
 unfold zvj
 rw [zzt,jf9]
 rfl
theorem qil {f:Fx}{ρ:Rho}{z:Str}{d:Nat} (h:f ρ=.ok (.str z,d,ρ)) (hl:z.length<=1000):zqb zqy (zqa f aNil) ρ=.ok (.int (z.length:Int),om,ρ):=by
 have s:=sz
 exact zxt (zxw h) (by unfold zqy;dsimp only;rw [if_pos (by omega)])
theorem zms {neg:Bool}{f g:Fx}{ρ ρ1 ρ2:Rho}{x y:Str}{d e:Nat} (h1:f ρ=.ok (.str x,d,ρ1)) (h2:g ρ1=.ok (.str y,e,ρ2)):bBin (opEq neg) f g ρ=.ok (.bl (neg^^(x == y)),om,ρ2):=by
 refine zxn h1 h2 ?_
 unfold opEq
 rw [show toD 20 (.str x)=if vh6 x=true then some (.str x) else none from rfl,show toD 20 (.str y)=if vh6 y=true then some (.str y) else none from rfl]
 by_cases hx:vh6 x=true
 ·rw [if_pos hx]
  by_cases hy:vh6 y=true
  ·rw [if_pos hy]
   dsimp only
   rw [vd9]
  ·rw [if_neg hy]
 ·rw [if_neg hx]
theorem ql1 {f:Fx}{ρ:Rho}{z:Str}{d:Nat} (h:f ρ=.ok (.str z,d,ρ)) (hl:1<=z.length/\z.length<=1000):bBin zqd f (bC (.int 0)) ρ=.ok (.str ⟨#[z.cps.toList.getD 0 0]⟩,om,ρ):=by
 have s:=sz
 refine zxn h (y:=.int 0) (e:=om) rfl ?_
 unfold zqd
 dsimp only
 rw [if_pos (by omega),zwg (x:=z.cps.toList.getD 0 0) (by decide) (by
  have:0 < z.cps.toList.length:=by rw [zfz];omega
  show z.cps.toList[0]?=_
  rw [jd3,jc6 this]
  rfl)]
 rfl
theorem qas {w:Str} (ha:zqs w=true) (hl:w.length<=1000):F3 [.str w,.int 2]=.ok (.bl (Wr w),om,.non):=by
 let R:Rho:=[some (.str w,om),some (.int 2,om)]
 refine zwv rfl (ρ':=R) ?_
 have ln:=qil (f:=bVar 0) (ρ:=R) (z:=w) (d:=om) rfl hl
 have c1:=zkk (qfc (p:=λ i j=>decide (i<=j)) (q:=λ i j=>decide (i<=j)) (f:=bC (.int 1)) (i:=1) (d:=om) rfl ln (h:=bVar 1) (k:=2) (c:=om) rfl)
 rw [show decide ((1:Int)<=(w.length:Int))=decide (1<=w.length) from decide_eq_decide.mpr (by omega),show decide ((w.length:Int)<=2)=decide (w.length<=2) from decide_eq_decide.mpr (by omega)] at c1
 have e2:=qe8 (n:=2) (f:=bVar 0) (ρ:=R) (ρ1:=R) (d:=om) (q:=λ c=>.bl (fig c)) (elt:=bBin (opIn false) (bVar 2) (bC (.str "0123456789"))) w rfl ha rfl (λ c _=>zxn (x:=.str ⟨#[c]⟩) (y:=.str FG) (d:=om) (e:=om) rfl rfl (by
  show some (PV.bl (false^^vf9 FG ⟨#[c]⟩),om)=_
  rw [jf3]
  rfl)) hl
 have c2:=zkk (all_ok (g:=fig) e2)
 cases h1:(decide (1<=w.length) && decide (w.length<=2)) with
 | false=>
  rw [h1] at c1
  have ew:Wr w=false:=by unfold Wr;rw [h1,jc9,jc9]
  rw [ew]
  exact zzo ((if_t (t_ok c1)).trans rfl)
 | true=>
  rw [h1] at c1
  refine (zqe ((if_f (t_ok c1)).trans rfl)).trans ?_
  cases h2:w.cps.toList.all fig with
  | false=>
   rw [h2] at c2
   have ew:Wr w=false:=by unfold Wr;rw [h2,je5,jc9]
   rw [ew]
   exact zzo ((if_t (t_ok c2)).trans rfl)
  | true=>
   rw [h2] at c2
   refine (zqe ((if_f (t_ok c2)).trans rfl)).trans ?_
   rw [ja3] at h1
   have l1:=of_decide_eq_true h1.1
   have e3:=zmt (neg:=false) ln (g:=bC (.int 1)) (j:=1) (e:=om) rfl
   rw [jf3,show decide ((w.length:Int)=1)=decide (w.length=1) from decide_eq_decide.mpr (by omega)] at e3
   have e4:=zms (neg:=true) (ql1 (f:=bVar 0) (ρ:=R) (z:=w) (d:=om) rfl ⟨l1,hl⟩) (g:=bC (.str "0")) (y := "0") (e:=om) rfl
   have e5:=zfr e3 (λ _=>e4) rfl
   have ew:Wr w=(decide (w.length=1) || (true^^hd0 w)):=by
    unfold Wr
    rw [h1.1,h1.2,h2,jj2]
    rfl
   rw [ew]
   exact zwi e5
theorem zmh {asg:PV->Rho->Option Rho}{body:Fs}{v:PV} (ok:PV->Bool) (I:Rho->Prop):∀ (els:List PV) (ρ:Rho),I ρ->(∀ x∈els,∀ ρ,I ρ->∃ ρ1,asg x ρ=some ρ1/\((ok x=true/\∃ ρ2,body ρ1=.nx ρ2/\I ρ2)\/(ok x=false/\∃ ρ2,body ρ1=.rt v om ρ2))) ->
  (els.all ok=true/\∃ ρ',zzg asg body els ρ=.nx ρ'/\I ρ')\/(els.all ok=false/\∃ ρ',zzg asg body els ρ=.rt v om ρ')
 | [],ρ,h,_=>.inl ⟨rfl,ρ,rfl,h⟩
 | x::xs,ρ,h,hb=>by
  obtain ⟨ρ1,e1,⟨hx,ρ2,e2,h2⟩ | ⟨hx,ρ2,e2⟩⟩:=hb x ja2 ρ h
  ·rcases zmh ok I xs ρ2 h2 (λ y hy=>hb y (ja0 _ hy)) with ⟨ha,ρ',e,h'⟩ | ⟨ha,ρ',e⟩
   ·exact .inl ⟨by rw [je4,hx,ha];rfl,ρ',by unfold zzg;rw [e1];dsimp only;rw [e2];exact e,h'⟩
   ·exact .inr ⟨by rw [je4,ha,je5],ρ',by unfold zzg;rw [e1];dsimp only;rw [e2];exact e⟩
  ·exact .inr ⟨by rw [je4,hx,jc9],ρ2,by unfold zzg;rw [e1];dsimp only;rw [e2]⟩
def sgz (z:Str):List PV:=z.cps.toList.map λ c=>.str ⟨#[c]⟩
def okS:PV->Bool
 | .str z=>vf9 FG z
 | _=>false
theorem qaq {w:Str} (ha:zqs w=true) (hl:w.length<=1000):F12 [.str w]=.ok (.int (wv w),om,.non):=by
 let R (s:QQ.Slot):Rho:=[some (.str w,om),s]
 have ln:=qil (f:=bVar 0) (ρ:=R none) (z:=w) (d:=om) rfl hl
 have e0:=zms (neg:=false) (f:=bVar 0) (g:=bC (.str "")) (ρ:=R none) (ρ1:=R none) (ρ2:=R none) (x:=w) (y := "") (d:=om) (e:=om) rfl rfl
 have e1:=zhv (p:=λ i j=>decide (j < i)) ln (g:=bC (.int 2)) (j:=2) (e:=om) rfl
 have e2:=zmt (neg:=false) ln (g:=bC (.int 2)) (j:=2) (e:=om) rfl
 rw [jf3] at e0 e2
 have hemp:(w == "")=decide (w.length=0):=by
  cases h:decide (w.length=0) with
  | true=>
   have h:=of_decide_eq_true h
   have:w = "" := by
    have e:w.cps=#[]:=jh5 h
    exact congrArg Str.mk e
   rw [this]
   rfl
  | false=>
   have h:=of_decide_eq_false h
   cases hb:(w == "") with
   | false=>rfl
   | true=>exact absurd (by rw [eq_of_beq hb];rfl) h
 rw [hemp] at e0
 rw [show decide ((2:Int) < (w.length:Int))=decide (2 < w.length) from decide_eq_decide.mpr (by omega)] at e1
 rw [show decide ((w.length:Int)=2)=decide (w.length=2) from decide_eq_decide.mpr (by omega)] at e2
 have first:(bOrV (bBin (opEq false) (bVar 0) (bC (.str ""))) (bOrV (bBin (zwl λ i j=>decide (j < i)) (zqb zqy (zqa (bVar 0) (aNil))) (bC (.int 2))) (zqx (bBin (opEq false) (zqb zqy (zqa (bVar 0) (aNil))) (bC (.int 2))) (bBin (opEq false) (bBin zqd (bVar 0) (bC (.int 0))) (bC (.str "0")))))) (R none)=.ok (.bl (decide (w.length=0) || (decide (2 < w.length) || (decide (w.length=2) && hd0 w))),om,R none):=by
  refine zfr e0 (λ h0=>zfr e1 (λ _=>zve e2 (λ _=>?_) rfl) rfl) rfl
  have:=of_decide_eq_false h0
  have e4:=zms (neg:=false) (ql1 (f:=bVar 0) (ρ:=R none) (z:=w) (d:=om) rfl ⟨by omega,hl⟩) (g:=bC (.str "0")) (y := "0") (e:=om) rfl
  rw [jf3] at e4
  exact e4
 have bad:Wr w=false->PV.int (wv w)=.int (-1):=λ h=>by unfold wv;rw [h];rfl
 cases hc:(decide (w.length=0) || (decide (2 < w.length) || (decide (w.length=2) && hd0 w))) with
 | true=>
  rw [hc] at first
  have ew:Wr w=false:=by
   unfold Wr
   rcases jc8 _ _ |>.mp hc with h | h
   ·rw [decide_eq_false (show ¬ (1<=w.length) by have:=of_decide_eq_true h;omega),jc9,jc9,jc9]
   ·rcases jc8 _ _ |>.mp h with h | h
    ·rw [decide_eq_false (show ¬ (w.length<=2) by have:=of_decide_eq_true h;omega),je5,jc9,jc9]
    ·rw [ja3] at h
     rw [h.2,decide_eq_false (show ¬ (w.length=1) by have:=of_decide_eq_true h.1;omega)]
     exact je5 _
  rw [bad ew]
  exact zwv rfl (ρ':=R none) (zzo ((if_t (t_ok first)).trans rfl))
 | false=>
  rw [hc] at first
  rw [jk5,jk5] at hc
  have l0:=of_decide_eq_false hc.1
  have l2:=of_decide_eq_false hc.2.1
  have hp:(decide (w.length=1) || !hd0 w)=true:=by
   by_cases h1:w.length=1
   ·rw [decide_eq_true h1];rfl
   ·have:=hc.2.2
    rw [decide_eq_true (show w.length=2 by omega),jm7] at this
    rw [this]
    exact jn4 _
  have ew:Wr w=w.cps.toList.all fig:=by
   unfold Wr
   rw [hp,decide_eq_true (show 1<=w.length by omega),decide_eq_true (show w.length<=2 by omega),jh9]
   rfl
  have s1:sIf (bT (bOrV (bBin (opEq false) (bVar 0) (bC (.str ""))) (bOrV (bBin (zwl λ i j=>decide (j < i)) (zqb zqy (zqa (bVar 0) (aNil))) (bC (.int 2))) (zqx (bBin (opEq false) (zqb zqy (zqa (bVar 0) (aNil))) (bC (.int 2))) (bBin (opEq false) (bBin zqd (bVar 0) (bC (.int 0))) (bC (.str "0"))))))) (sRet (bUn zbn (bC (.int 1)))) sNil (R none)=.nx (R none):=(if_f (t_ok first)).trans rfl
  have sg:(sgz w).all okS=w.cps.toList.all fig:=by
   unfold sgz
   rw [jl6]
   rfl
  have sf:qbu (bVar 0) [0] (asgN 1) (sIf (bT (bBin (opIn true) (bVar 1) (bC (.str "0123456789")))) (sRet (bUn zbn (bC (.int 1)))) sNil) (R none)=zzg (asgN 1) (sIf (bT (bBin (opIn true) (bVar 1) (bC (.str "0123456789")))) (sRet (bUn zbn (bC (.int 1)))) sNil) (sgz w) (R none):=by
   show (if zqs w=true then _ else _)=_
   rw [if_pos ha]
   rfl
  rcases zmh (v:=.int (-1)) (asg:=asgN 1) (body:=sIf (bT (bBin (opIn true) (bVar 1) (bC (.str "0123456789")))) (sRet (bUn zbn (bC (.int 1)))) sNil) okS (λ ρ=>∃ s,ρ=R s) (sgz w) (R none) ⟨none,rfl⟩ (by
   rintro x hx ρ ⟨s,rfl⟩
   obtain ⟨c,_,rfl⟩:=jf8.mp hx
   let ρ1:Rho:=R (some (.str ⟨#[c]⟩,om))
   have ei:bBin (opIn true) (bVar 1) (bC (.str "0123456789")) ρ1=.ok (.bl (true^^fig c),om,ρ1):=zxn (x:=.str ⟨#[c]⟩) (y:=.str FG) (d:=om) (e:=om) rfl rfl rfl
   refine ⟨ρ1,rfl,?_⟩
   cases hf:fig c with
   | true=>rw [hf] at ei;exact .inl ⟨hf,_,(if_f (t_ok ei)).trans rfl,_,rfl⟩
   | false=>rw [hf] at ei;exact .inr ⟨hf,_,(if_t (t_ok ei)).trans rfl⟩) with ⟨ha',ρ',e,s',rfl⟩ | ⟨ha',ρ',e⟩
  ·rw [sg] at ha'
   rw [ha'] at ew
   have v:=(qgs ew).1
   have ev:wv w=valS w:=by unfold wv;rw [ew];rfl
   rw [ev]
   refine zwv rfl (ρ':=R s') ((zqe s1).trans ((zqe (sf.trans e)).trans (zwi (zxt (zxw (x:=.str w) (d:=om) rfl) (by
    unfold zzq
    dsimp only
    rw [if_pos (by omega),v]
    rfl)))))
  ·rw [sg] at ha'
   rw [ha'] at ew
   rw [bad ew]
   exact zwv rfl (ρ':=ρ') ((zqe s1).trans (zzo (sf.trans e)))
def XX:Str:=⟨#[120]⟩
theorem qik {op:Str->PV->Nat->Option (PV×Nat)}{f g:Fx}{ρ ρ1 ρ2:Rho}{z:Str}{d e c:Nat}{y r:PV} (h1:f ρ=.ok (.str z,d,ρ1)) (h2:g ρ1=.ok (y,e,ρ2)) (h3:op z y e=some (r,c)):bMet op f g ρ=.ok (r,c,ρ2):=by
 unfold bMet
 rw [h1]
 dsimp only [Rz.bind]
 rw [h2]
 dsimp only
 rw [h3]
theorem sp_o {z:Str}{c d:Nat} (h:z.length<=900):zwx z (.str ⟨#[c]⟩) d=some (.lst ((va9 z ⟨#[c]⟩).map PV.str),om):=by
 have s:=sz
 have h0:=(zzu z c).1
 have h1:=StrLaws.occ_length_le z ⟨#[c]⟩ 0 z.length (z.length + 1)
 unfold zwx
 dsimp only
 rw [if_pos ⟨rfl,by omega,by rw [length_partsBetween];omega,by omega⟩]
variable {z:Str}
theorem qbw (ha:zqs z=true) (hl:z.length<=900):F5 [.str z,.str XX]=if (va9 z XX).all Wr=true then .ok (il ((va9 z XX).map valS),om,.non) else .exc 9:=by
 have s:=sz
 have ll:=zzu z 120
 let ws:=va9 z XX
 let R (s:QQ.Slot):Rho:=[some (.str z,om),some (.str XX,om),s]
 have s1:sSet false 2 (bMet zwx (bVar 0) (bVar 1)) [0,1] (R none)=.nx (R (some (.lst (ws.map PV.str),om))):=setF (qik (z:=z) (d:=om) (e:=om) (y:=.str XX) rfl rfl (sp_o hl)) (show 2 < 3 by decide) rfl
 let R1:Rho:=R (some (.lst (ws.map PV.str),om))
 have e1:=zky (n:=3) (f:=bVar 2) (ρ:=R1) (ρ1:=R1) (d:=0) (enc:=PV.str) (q:=λ w=>.bl (Wr w)) (elt:=zqp F3 (zqa (bVar 3) (zqa (bC (.int 2)) (aNil)))) ws rfl rfl (λ w hw=>zqz (xs:=[(.str w,om),(.int 2,om)]) rfl (qas (zps ha hw) (by have:=ll.2 w hw;omega))) (by have:=ll.1;show (va9 z XX).length<=_;exact jc4 ll.1 (by omega))
 have e2:=zkk (all_ok e1)
 cases h:ws.all Wr with
 | false=>
  rw [h] at e2
  rw [if_neg jc1]
  exact zjn rfl ((zqe s1).trans (zym ((if_t (t_ok e2)).trans rfl)))
 | true=>
  rw [h] at e2
  rw [if_pos rfl]
  have s2:sIf (bT (bUn zxe (zqb zyz (zqa (zxs (bVar 2) 1 (asgN 3) zva (zqp F3 (zqa (bVar 3) (zqa (bC (.int 2)) (aNil))))) (aNil))))) (sExc 9) sNil R1=.nx R1:=(if_f (t_ok e2)).trans rfl
  have e3:=zky (n:=3) (f:=bVar 2) (ρ:=R1) (ρ1:=R1) (d:=0) (enc:=PV.str) (q:=λ w=>.int (valS w)) (elt:=zqb zzq (zqa (bVar 3) (aNil))) ws rfl rfl (λ w hw=>zxt (zxw (x:=.str w) (d:=om) rfl) (by
   have v:=(qgs (jb6.mp h w hw)).1
   have:=ll.2 w hw
   have w2:w.length<=2:=by
    have hw:=jb6.mp h w hw
    unfold Wr at hw
    rw [ja3,ja3,ja3] at hw
    exact of_decide_eq_true hw.1.1.2
   unfold zzq
   dsimp only
   rw [if_pos (by omega),v]
   rfl)) (by exact jc4 ll.1 (by omega))
  rw [show ws.map (λ w=>PV.int (valS w))=(ws.map valS).map PV.int by rw [jf9];rfl] at e3
  exact zwv rfl (ρ':=R1) ((zqe s1).trans ((zqe s2).trans (zwi e3)))
def rb (z:Str):Option (List Int):=if ((va9 z XX).all Wr && (decide ((va9 z XX).length=3) && (va9 z XX).all λ w=>decide (1<=valS w)))=true then some ((va9 z XX).map valS) else none
def tp (ns:List Int):PV:=.tup (ns.map PV.int)
theorem qfl {op:List (PV×Nat)->Option (PV×Nat)}{f:Fx}{ρ:Rho}{c:Nat} (h:f ρ=.exc c):zqb op (zqa f (aNil)) ρ=.exc c:=by
 unfold zqb zqa
 rw [h]
 rfl
theorem qbp {ms:Bool}{i:Nat}{f:Fx}{vs:List Nat}{ρ:Rho}{c:Nat} (h:f ρ=.exc c):sSet ms i f vs ρ=.exc c:=by
 unfold sSet
 rw [h]
theorem read_box (ha:zqs z=true) (hl:z.length<=900):match rb z with
  | some ns=>∃ d,F8 [.str z]=.ok (tp ns,d,.non)
  | none=>F8 [.str z]=.exc 9:=by
 have s:=sz
 have ll:=zzu z 120
 let ws:=va9 z XX
 have rn:=qbw ha hl
 let R (s:QQ.Slot):Rho:=[some (.str z,om),s]
 have s1:zvb (zqp F6 (zqa (bVar 0) (aNil))) (R none)=.nx (R none):=qc9 (zqz (xs:=[(.str z,om)]) (y:=.non) (d:=om) (z:=.non) rfl rfl)
 cases h:ws.all Wr with
 | false=>
  rw [if_neg (by rw [h];exact jc1)] at rn
  have er:rb z=none:=by unfold rb;rw [show (va9 z XX).all Wr=false from h,jc9];rfl
  rw [er]
  exact zjn rfl ((zqe s1).trans (zym (qbp (qfl (zku (xs:=[(.str z,om),(.str XX,om)]) rfl rn)))))
 | true=>
  rw [if_pos h] at rn
  let ns:=ws.map valS
  have s2:sSet false 1 (zqb zmc (zqa (zqp F5 (zqa (bVar 0) (zqa (bC (.str "x")) (aNil)))) (aNil))) [0] (R none)=.nx [some (.str z,0),some (tp ns,0)]:=by
   refine setF (zxt (zxw (zqz (xs:=[(.str z,om),(.str XX,om)]) rfl rn)) (z:=tp ns) (c:=0) rfl) (show 1 < 2 by decide) ?_
   rfl
  have bv:=qdw (n:=10) (y:=tp ns) (qic (by rw [jb5,jb5];have:=ll.1;exact jc4 ll.1 (by omega)) λ x hx=>by
   obtain ⟨_,_,rfl⟩:=jf8.mp hx
   rfl)
  have eb:boxV (tp ns)=(decide ((va9 z XX).length=3) && (va9 z XX).all λ w=>decide (1<=valS w)):=by
   show (decide ((ns.map PV.int).length=3) && (ns.map PV.int).all qea)=_
   rw [jb5,jb5,jl6,jl6]
   rfl
  rw [eb] at bv
  let R1:Rho:=[some (.str z,0),some (tp ns,0)]
  have e3:=zkk (zqz (F:=F1) (fa:=zqa (bVar 1) (aNil)) (ρ:=R1) (ρ1:=R1) (xs:=[(tp ns,0)]) rfl bv)
  cases hb:(decide ((va9 z XX).length=3) && (va9 z XX).all λ w=>decide (1<=valS w)) with
  | false=>
   rw [hb] at e3
   have er:rb z=none:=by unfold rb;rw [hb,je5];rfl
   rw [er]
   exact zjn rfl ((zqe s1).trans ((zqe s2).trans (zym ((if_t (t_ok e3)).trans rfl))))
  | true=>
   rw [hb] at e3
   have er:rb z=some ns:=by unfold rb;rw [hb,show (va9 z XX).all Wr=true from h];rfl
   rw [er]
   exact ⟨0,zwv rfl (ρ':=R1) ((zqe s1).trans ((zqe s2).trans ((zqe ((if_f (t_ok e3)).trans rfl)).trans rfl)))⟩
theorem min3 (x y z:Int):minI x [y,z] < 1↔x < 1\/y < 1\/z < 1:=by
 unfold minI
 unfold minI
 unfold minI
 split <;> split <;> omega
theorem qio (ha:zqs z=true) (hl:z.length<=900):match rb z with
  | some ns=>ns.length=3/\F15 [.str z]=.ok (tp ns,om,.non)
  | none=>F15 [.str z]=.ok (.non,om,.non):=by
 have s:=sz
 have ll:=zzu z 120
 let ws:=va9 z XX
 let R (s:QQ.Slot):Rho:=[some (.str z,om),s]
 have s1:sIf (bT (bUn zxe (bUn (zqm "str") (bVar 0)))) (sRet (bC .non)) sNil (R none)=.nx (R none):=by rfl
 have e0:=qik (op:=zwx) (f:=bVar 0) (g:=bC (.str "x")) (ρ:=R none) (ρ1:=R none) (ρ2:=R none) (z:=z) (d:=om) (e:=om) (y:=.str XX) rfl rfl (sp_o hl)
 have e1:=zky (n:=2) (enc:=PV.str) (q:=λ w=>.int (wv w)) (elt:=zqp F12 (zqa (bVar 2) (aNil))) ws e0 rfl (λ w hw=>zqz (xs:=[(.str w,om)]) rfl (qaq (zps ha hw) (by have:=ll.2 w hw;omega))) (by exact jc4 ll.1 (by omega))
 rw [show ws.map (λ w=>PV.int (wv w))=(ws.map wv).map PV.int by rw [jf9];rfl] at e1
 let vs:=ws.map wv
 have s2:sSet false 1 (zxs (bMet zwx (bVar 0) (bC (.str "x"))) 1 (asgN 2) zva (zqp F12 (zqa (bVar 2) (aNil)))) [0,0] (R none)=.nx (R (some (il vs,om))):=setF e1 (show 1 < 2 by decide) rfl
 let R1:Rho:=R (some (il vs,om))
 have ln:=qlq (fa:=zqa (bVar 1) (aNil)) (ρ:=R1) (ρ1:=R1) (xs:=vs) (d:=0) rfl
 have c1:=zmt (neg:=true) ln (g:=bC (.int 3)) (j:=3) (e:=om) rfl
 have lv:vs.length=ws.length:=jb5 _
 by_cases h3:ws.length=3
 ·have h3':(va9 z XX).length=3:=h3
  obtain ⟨w0,w1,w2,ew⟩:∃ w0 w1 w2,ws=[w0,w1,w2]:=by
   generalize ws=l at h3
   match l,h3 with
   | [a,b,c],_=>exact ⟨a,b,c,rfl⟩
  have ew':va9 z XX=[w0,w1,w2]:=ew
  have ev:vs=[wv w0,wv w1,wv w2]:=by show ws.map wv=_;rw [ew];rfl
  have mn:=qlp (fa:=zqa (bVar 1) (aNil)) (ρ:=R1) (ρ1:=R1) (x:=wv w0) (xs:=[wv w1,wv w2]) (d:=0) (by rw [<- ev];rfl)
  have c2:=zhv (p:=λ i j=>decide (i < j)) mn (g:=bC (.int 1)) (j:=1) (e:=om) rfl
  have cc:=zfr c1 (λ _=>c2) rfl
  rw [show decide ((vs.length:Int)=3)=true from decide_eq_true (by rw [lv,h3];rfl),jj2] at cc
  have key:decide (minI (wv w0) [wv w1,wv w2] < 1)=!((va9 z XX).all Wr && (decide ((va9 z XX).length=3) && (va9 z XX).all λ w=>decide (1<=valS w))):=by
   rw [ew',decide_eq_true (show [w0,w1,w2].length=3 from rfl),jm7]
   rw [show decide (minI (wv w0) [wv w1,wv w2] < 1)=decide (wv w0 < 1\/wv w1 < 1\/wv w2 < 1) from decide_eq_decide.mpr (min3 _ _ _)]
   have one:∀ w,decide (1<=wv w)=(Wr w && decide (1<=valS w)):=λ w=>by
    unfold wv
    cases Wr w with
    | true=>rfl
    | false=>rfl
   have l2:([w0,w1,w2].all Wr && [w0,w1,w2].all λ w=>decide (1<=valS w))=(decide (1<=wv w0) && (decide (1<=wv w1) && decide (1<=wv w2))):=by
    rw [one,one,one]
    simp only [je4,jl5,jh9]
    cases Wr w0 <;> cases Wr w1 <;> cases Wr w2 <;> simp
   rw [l2]
   by_cases a0:1<=wv w0
   ·by_cases a1:1<=wv w1
    ·by_cases a2:1<=wv w2
     ·rw [decide_eq_true a0,decide_eq_true a1,decide_eq_true a2,decide_eq_false (by omega)];rfl
     ·rw [decide_eq_false a2,je5,je5,decide_eq_true (by omega)];rfl
    ·rw [decide_eq_false a1,jc9,je5,decide_eq_true (by omega)];rfl
   ·rw [decide_eq_false a0,jc9,decide_eq_true (by omega)];rfl
  rw [key] at cc
  unfold rb
  cases hr:((va9 z XX).all Wr && (decide ((va9 z XX).length=3) && (va9 z XX).all λ w=>decide (1<=valS w))) with
  | false=>
   rw [hr] at cc
   rw [if_neg jc1]
   exact zwv rfl (ρ':=R1) ((zqe s1).trans ((zqe s2).trans (zzo ((if_t (t_ok cc)).trans rfl))))
  | true=>
   rw [hr] at cc
   rw [if_pos rfl]
   rw [ja3,ja3] at hr
   have same:∀ w∈ws,wv w=valS w:=λ w hw=>by unfold wv;rw [if_pos (jb6.mp hr.1 w hw)]
   have evs:(va9 z XX).map valS=vs:=(List.map_congr_left same).symm
   refine ⟨by rw [jb5];exact h3,?_⟩
   rw [evs]
   have ix:∀ (k:Nat),k < 3->bBin zqd (bVar 1) (bC (.int (k:Int))) R1=.ok (.int (vs.getD k 0),om,R1):=λ k hk=>zmo (xs:=vs) (k:=(k:Int)) (d:=0) (e:=om) rfl rfl (zwg (by omega) (zzi (by rw [je6];omega)))
   have e5:=zxt (op:=zwt) (zxj (ix 0 (by decide)) (zxj (ix 1 (by decide)) (zxw (ix 2 (by decide))))) (z:=tp vs) (c:=om) (by rw [ev];rfl)
   exact zwv rfl (ρ':=R1) ((zqe s1).trans ((zqe s2).trans ((zqe ((if_f (t_ok cc)).trans rfl)).trans (zwi e5))))
 ·have cc:=zfr (b:=true) (g:=bBin (zwl λ i j=>decide (i < j)) (zqb zbo (zqa (bVar 1) (aNil))) (bC (.int 1))) c1 (λ h=>by
   rw [show decide ((vs.length:Int)=3)=false from decide_eq_false (by omega)] at h
   cases h) rfl
  rw [show decide ((vs.length:Int)=3)=false from decide_eq_false (by omega)] at cc
  have er:rb z=none:=by unfold rb;rw [decide_eq_false h3,jc9,je5];rfl
  rw [er]
  exact zwv rfl (ρ':=R1) ((zqe s1).trans ((zqe s2).trans (zzo ((if_t (t_ok cc)).trans rfl))))
end K56
namespace QV
open PySem PySem.Spec PyProof.Rows L2 QQ
theorem qdi {n:Nat}{en:List (PV×Nat)->Option (Int×Int)}{fa:Fa}{test:Fb}{p:Nat->Bool}{ρ ρ1:Rho}{as:List (PV×Nat)}{lo hi:Int} (hf:fa ρ=.ok (as,ρ1)) (hen:en as=some (lo,hi)) (hn:ρ1.length=n) (ht:∀ k,k < (hi - lo).toNat->test (ρ1++[some (.int (lo + (k:Int)),om)])=.ok (p k,ρ1++[some (.int (lo + (k:Int)),om)])) (hl:(hi - lo).toNat<=va2):
  zzn en fa 1 (asgN n) test (bVar n) ρ=.ok (il (((jd4 (hi - lo).toNat).filter p).map λ (k:Nat)=>lo + (k:Int)),om,ρ1):=by
 unfold zzn
 rw [hf]
 dsimp only
 rw [hen]
 dsimp only
 rw [zpv,zzs (enc:=λ (k:Nat)=>PV.int (lo + (k:Int))) (p:=p) (q:=λ (k:Nat)=>PV.int (lo + (k:Int))) (e:=λ _=>om) (jd4 (hi - lo).toNat) ρ1 [] hn (λ x hx=>ht x (jd5.mp hx)) (λ x hx _=>by
  unfold bVar
  rw [jc5 (by omega),hn,Nat.sub_self]
  rfl) (by simpa using hl)]
 show zvj _ ρ1=_
 rw [jg7]
 unfold zvj
 rw [zzt,jf9]
 unfold il
 rw [jf9]
 rfl
end QV
namespace K56
open PySem PySem.Spec PyProof.Rows L2 QQ QV
def numS (n:Int):Str:=(toString n:String)
def n1 (n:Nat):Bool:=decide ((numS n).length<=2) && decide (n.log2 < 1920) && zqs (numS n) && decide (32∉(numS n).cps.toList) && decide (47∉(numS n).cps.toList)
theorem qln:(jd4 100).all n1=true:=by decide +kernel
structure NumOk (i:Int):Prop where
 ln:(numS i).length<=2
 sh:zjf (.int i)=some (numS i)
 asc:zqs (numS i)=true
 n32:32∉(numS i).cps.toList
 n47:47∉(numS i).cps.toList
theorem zwb {i:Int} (h:0<=i/\i<=99):NumOk i:=by
 obtain ⟨n,rfl⟩:=Int.eq_ofNat_of_zero_le h.1
 have h1:=jb6.mp qln n (jd5.mpr (by omega))
 unfold n1 at h1
 rw [ja3,ja3,ja3,ja3] at h1
 obtain ⟨⟨⟨⟨a,f⟩,b⟩,c⟩,d⟩:=h1
 refine ⟨of_decide_eq_true a,?_,b,of_decide_eq_true c,of_decide_eq_true d⟩
 show (if _ then _ else _)=_
 rw [Int.natAbs_natCast,if_pos (of_decide_eq_true f)]
 rfl
def T3 (a b c:Int):Str:=numS a++XX++numS b++XX++numS c
variable {a b c:Nat}
structure Bx (a b c:Nat):Prop where
 a1:1<=a/\a<=99
 b1:1<=b/\b<=99
 c1:1<=c/\c<=99
theorem zpk:XX.length=1:=rfl
theorem qkc (h:Bx a b c):(T3 a b c).length<=8:=by
 obtain ⟨ha,hb,hc⟩:=h
 have l1:=(zwb (i:=a) (by omega)).ln
 have l2:=(zwb (i:=b) (by omega)).ln
 have l3:=(zwb (i:=c) (by omega)).ln
 unfold T3
 rw [zxc,zxc,zxc,zxc,zpk]
 omega
theorem qbj {d:Nat} (hd:d∈(T3 a b c).cps.toList):d∈(numS a).cps.toList\/d=120\/d∈(numS b).cps.toList\/d∈(numS c).cps.toList:=by
 unfold T3 at hd
 rw [zvn,zvn,zvn,zvn] at hd
 have xx:d∈XX.cps.toList->d=120:=λ z=>jb1.mp z
 rcases jb3.mp hd with hd | hd
 ·rcases jb3.mp hd with hd | hd
  ·rcases jb3.mp hd with hd | hd
   ·rcases jb3.mp hd with hd | hd
    ·exact .inl hd
    ·exact .inr (.inl (xx hd))
   ·exact .inr (.inr (.inl hd))
  ·exact .inr (.inl (xx hd))
 ·exact .inr (.inr (.inr hd))
theorem qfw (h:Bx a b c):zqs (T3 a b c)=true:=zwr.mpr λ d hd=>by
 obtain ⟨ha,hb,hc⟩:=h
 rcases qbj hd with hd | hd | hd | hd
 ·exact zwr.mp (zwb (i:=a) (by omega)).asc d hd
 ·omega
 ·exact zwr.mp (zwb (i:=b) (by omega)).asc d hd
 ·exact zwr.mp (zwb (i:=c) (by omega)).asc d hd
theorem qkb (h:Bx a b c):32∉(T3 a b c).cps.toList/\47∉(T3 a b c).cps.toList:=by
 obtain ⟨ha,hb,hc⟩:=h
 constructor
 ·intro hd
  rcases qbj hd with hd | hd | hd | hd
  ·exact (zwb (i:=a) (by omega)).n32 hd
  ·cases hd
  ·exact (zwb (i:=b) (by omega)).n32 hd
  ·exact (zwb (i:=c) (by omega)).n32 hd
 ·intro hd
  rcases qbj hd with hd | hd | hd | hd
  ·exact (zwb (i:=a) (by omega)).n47 hd
  ·cases hd
  ·exact (zwb (i:=b) (by omega)).n47 hd
  ·exact (zwb (i:=c) (by omega)).n47 hd
theorem zgq {f:Fx}{ρ:Rho}{i:Int}{d:Nat} (h:f ρ=.ok (.int i,d,ρ)) (hi:0<=i/\i<=99):zqb zkf (zqa f (aNil)) ρ=.ok (.str (numS i),om,ρ):=zxt (zxw h) (by unfold zkf;dsimp only;rw [(zwb hi).sh];rfl)
theorem zml (z:Str) {m:Nat}:∀ (l:List Str) (k:Nat),(∀ s∈l,s.length<=m)->l.foldl (λ a s=>a + s.length + z.length) k<=k + l.length * (m + z.length)
 | [],k,_=>by simp
 | s::l,k,h=>by
  rw [jj7,jc0,jm9]
  have:=zml z l (k + s.length + z.length) λ t ht=>h t (ja0 _ ht)
  have:=h s ja2
  omega
theorem zgp:∀ zs:List Str,zpp (zs.map PV.str)=some zs
 | []=>rfl
 | z::r=>by rw [jb9];unfold zpp;rw [zgp r];rfl
theorem show_box (h:Bx a b c):F7 [bx a b c]=.ok (.str (T3 a b c),om,.non):=by
 have z:=sz
 obtain ⟨ha,hb,hc⟩:=id h
 have hbx:boxB a b c=true:=by unfold boxB;rw [decide_eq_true (by omega),decide_eq_true (by omega),decide_eq_true (by omega)];rfl
 let R:Rho:=[some (bx a b c,0)]
 have s1:zvb (zqp F2 (zqa (bVar 0) (aNil))) R=.nx R:=qc9 (zqz (xs:=[(bx a b c,0)]) rfl (zfu hbx))
 let l:List Int:=[(a:Int),(b:Int),(c:Int)]
 have hl:∀ i∈l,0<=i/\i<=99:=λ i hi=>by
  simp only [l,ja9,jh8,or_false] at hi
  rcases hi with rfl | rfl | rfl <;> omega
 have s2:F4 [bx a b c,.str XX]=.ok (.str (T3 a b c),om,.non):=by
  let R2:Rho:=[some (bx a b c,0),some (.str XX,om)]
  have e1:=zpc (n:=2) (f:=bVar 0) (ρ:=R2) (ρ1:=R2) (d:=0) (enc:=PV.int) (q:=λ i=>.str (numS i)) (elt:=zqb zkf (zqa (bVar 2) (aNil))) l rfl rfl (λ i hi=>zgq (d:=om) rfl (hl i hi)) (by show 3<=_;omega)
  rw [show l.map (λ i=>PV.str (numS i))=(l.map numS).map PV.str by rw [jf9];rfl] at e1
  have ej:Txt.join XX (l.map numS)=T3 a b c:=by
   rw [show Txt.join XX (l.map numS)=Str.join XX (l.map numS) from StrLaws.glued_eq_join _ _]
   show (numS a++XX)++((numS b++XX)++numS c)=numS a++XX++numS b++XX++numS c
   have as:∀ x y w:Str,x++y++w=x++(y++w):=λ x y w=>congrArg Str.mk (ji5 ..)
   rw [as (numS a++XX++numS b),as (numS a++XX),<- as (numS b)]
  refine zwv rfl (ρ':=R2) (zwi (qik (z:=XX) (d:=om) rfl e1 ?_))
  unfold zmd
  dsimp only
  rw [zgp]
  dsimp only
  have jo:JoinOk XX (l.map numS)=true:=by
   unfold JoinOk vi2
   rw [List.foldl_toArray]
   have:=zml XX (m:=2) (l.map numS) 0 λ s hs=>by
    obtain ⟨i,hi,rfl⟩:=jf8.mp hs
    exact (zwb (hl i hi)).ln
   have h3:(l.map numS).length * (2 + XX.length)=9:=rfl
   rw [h3] at this
   rw [decide_eq_false (by omega)]
   rfl
  rw [if_pos jo,ej]
 exact zwv rfl (ρ':=R) ((zqe s1).trans (zwi (zqz (xs:=[(bx a b c,0),(.str XX,om)]) rfl s2)))
def odds:List PV:=[.tup [.int 0,.int 1,.int 1],.tup [.int 1,.int 2],.tup [.int 1,.int 2,.int 3,.int 4],.lst [.int 1,.int 1,.int 1],.non,.tup [.int 1,.bl true,.int 1],.tup [.int 2,.int (-1),.int 2],.str "111",.tup [.str "1",.int 1,.int 1],.int 7,.tup []]
theorem qif:∀ y∈odds,f_is_box [y]=.ok (.bl false,om,.non):=λ y hy=>by
 have h:okE 10 y=true/\boxV y=false:=by
  unfold odds at hy
  simp only [ja9,jh8,or_false] at hy
  rcases hy with rfl | rfl | rfl | rfl | rfl | rfl | rfl | rfl | rfl | rfl | rfl
  all_goals exact ⟨rfl,rfl⟩
 have:=qdw h.1
 rw [h.2] at this
 exact this
theorem qer (n:Int):∃ y d,f_is_box [y]=.ok (.bl false,om,.non)/\F14 [.int n]=.ok (y,d,.non):=by
 have h0:=jf1 n (show (11:Int)≠0 by decide)
 have h1:=jf0 n (show (0:Int) < 11 by decide)
 have hk:(n % 11).toNat < odds.length:=by show _ < 11;omega
 let R (s:QQ.Slot):Rho:=[some (.int n,om),s]
 refine ⟨odds[(n % 11).toNat],dv odds[(n % 11).toNat],qif _ (je3 hk),?_⟩
 have s1:(bBin zqd (bVar 1) (bBin zqr (bVar 0) (zqb zqy (zqa (bVar 1) (aNil))))) (R (some (.lst odds,om)))=.ok (odds[(n % 11).toNat],dv odds[(n % 11).toNat],R (some (.lst odds,om))):=by
  refine zxn (x:=.lst odds) (d:=0) rfl (zwc (i:=n) (j:=11) (d:=om) (e:=om) rfl (by kernel_rfl) (by decide)) ?_
  show (atI odds (n % 11)).map _=_
  rw [zwg h0 (jc6 hk)]
  rfl
 refine zwv rfl (ρ':=R (some (.lst odds,om))) ((zqe (ρ1:=R (some (.lst odds,om))) ?_).trans (zwi s1))
 kernel_rfl
theorem qhf {y:PV} (h:f_is_box [y]=.ok (.bl false,om,.non)):F7 [y]=.exc 1:=zjn rfl (zym (zho (zku (xs:=[(y,dv y)]) rfl (qan h))))
def TB:Fs:=sIf (bT (bVar 1)) (sSet false 3 (zqp F8 (zqa (bVar 0) (aNil))) [0]) (sSet false 3 (zqp F7 (zqa (bVar 0) (aNil))) [0])
def H1:Fs:=sSeq (sSet false 2 (bC (.str "NoBox")) []) (sSet false 4 (zqx (bUn zxe (bUn (zxq [9]) (bVar 5))) (zqx (bUn (zxq [0]) (bVar 5)) (bUn (zxq [0]) (bVar 5)))) [5,5,5])
def H2:Fs:=sSeq (sSet false 2 (bC (.str "NoText")) []) (sSet false 4 (zqx (bUn zxe (bUn (zxq [1]) (bVar 5))) (zqx (bUn (zxq [0]) (bVar 5)) (bUn (zxq [0]) (bVar 5)))) [5,5,5])
def RT:Fs:=sRet (zqb zwt (zqa (bBin zqo (bVar 2) (bBin zqd (zqb zxb (zqa (bC (.str "odd")) (zqa (bC (.str "")) (aNil)))) (zqb zzq (zqa (bVar 4) (aNil))))) (zqa (bVar 3) (aNil))))
theorem qdy:b16=sSeq (sSet false 2 (bC (.str "told")) []) (sSeq (sSet false 3 (bC .non) []) (sSeq (sSet false 4 (bC (.bl true)) []) (sSeq (zbe [(1,H1),(9,H2)] 5 [] TB) RT))):=rfl
def ask (w:Str) (v:PV):PV:=.tup [.str w,v]
theorem qku {s0 s1 s5:QQ.Slot}{w:Str}{v:PV}{d:Nat} (hw:w.length<=10):∃ d',RT [s0,s1,some (.str w,om),some (v,d),some (.bl true,om),s5]=.rt (ask w v) d' [s0,s1,some (.str w,om),some (v,d),some (.bl true,om),s5]:=by
 have z:=sz
 let R:Rho:=[s0,s1,some (.str w,om),some (v,d),some (.bl true,om),s5]
 have e1:bBin zqo (bVar 2) (bBin zqd (zqb zxb (zqa (bC (.str "odd")) (zqa (bC (.str "")) (aNil)))) (zqb zzq (zqa (bVar 4) (aNil)))) R=.ok (.str w,om,R):=by
  refine zxn (x:=.str w) (d:=om) (y:=.str "") (e:=om) rfl rfl ?_
  unfold zqo
  dsimp only
  rw [if_pos (by show w.length + 0<=_;omega)]
  have:w ++ "" = w:=congrArg Str.mk (Array.append_empty)
  rw [this]
 exact ⟨_,zwi (zxt (zxj e1 (zxw (x:=v) (d:=dv v) rfl)) rfl)⟩
variable {x v:PV}{q:Bool}
theorem zjw {d:Nat} (h:(if q then F8 else F7) [x]=.ok (v,d,.non)):∃ d',F16 [x,.bl q]=.ok (ask "told" v,d',.non):=by
 let R (d0:Nat) (s2 s3 s4 s5:QQ.Slot):Rho:=[some (x,d0),some (.bl q,om),s2,s3,s4,s5]
 let W:QQ.Slot:=some (.str "told",om)
 let A:QQ.Slot:=some (.bl true,om)
 have e:∃ d0,TB (R (dv x) W (some (.non,om)) A none)=.nx (R d0 W (some (v,d)) A none):=by
  let R0:Rho:=R (dv x) W (some (.non,om)) A none
  have set:∀ F:Fn,F [x]=.ok (v,d,.non)->∃ d0,sSet false 3 (zqp F (zqa (bVar 0) (aNil))) [0] R0=.nx (R d0 W (some (v,d)) A none):=λ F hF=>by
   have q:=zqz (F:=F) (fa:=zqa (bVar 0) (aNil)) (ρ:=R0) (ρ1:=R0) (xs:=[(x,dv x)]) rfl hF
   have co:zxa d [0] R0=R0\/zxa d [0] R0=cool [0] 0 R0:=by
    unfold zxa
    split
    ·exact .inl rfl
    ·exact .inr rfl
   rcases co with cl | cl
   ·exact ⟨dv x,setF q (show 3 < 6 by decide) (by rw [cl];rfl)⟩
   ·exact ⟨0,setF q (show 3 < 6 by decide) (by rw [cl];rfl)⟩
  cases q with
  | true=>
   obtain ⟨d0,e⟩:=set F8 h
   exact ⟨d0,(if_t (ρ1:=R0) rfl).trans e⟩
  | false=>
   obtain ⟨d0,e⟩:=set F7 h
   exact ⟨d0,(if_f (ρ1:=R0) rfl).trans e⟩
 obtain ⟨d0,e⟩:=e
 have s3:zbe [(1,H1),(9,H2)] 5 [] TB (R (dv x) W (some (.non,om)) A none)=.nx (R d0 W (some (v,d)) A none):=by
  unfold zbe
  rw [e]
 obtain ⟨d',e4⟩:=qku (s0:=some (x,d0)) (s1:=some (.bl q,om)) (s5:=none) (w := "told") (v:=v) (d:=d) (by decide +kernel)
 have hF:F16=mkFn false 2 4 b16:=rfl
 rw [hF,qdy]
 refine ⟨d',zwv rfl ((zqe (ρ1:=R (dv x) W none none none) rfl).trans ((zqe (ρ1:=R (dv x) W (some (.non,om)) none none) rfl).trans ((zqe (ρ1:=R (dv x) W (some (.non,om)) A none) rfl).trans ((zqe s3).trans e4))))⟩
theorem zfg {e:Nat}{w:Str} (h:(if q then F8 else F7) [x]=.exc e) (hw:e=1/\w = "NoBox" \/ e=9/\w = "NoText"):∃ d',F16 [x,.bl q]=.ok (ask w .non,d',.non):=by
 let R (s2 s3 s4 s5:QQ.Slot):Rho:=[some (x,dv x),some (.bl q,om),s2,s3,s4,s5]
 let W:QQ.Slot:=some (.str "told",om)
 let A:QQ.Slot:=some (.bl true,om)
 let R0:Rho:=R W (some (.non,om)) A none
 have et:TB R0=.exc e:=by
  have set:∀ F:Fn,F [x]=.exc e->sSet false 3 (zqp F (zqa (bVar 0) (aNil))) [0] R0=.exc e:=λ F hF=>qbp (zku (xs:=[(x,dv x)]) rfl hF)
  cases q with
  | true=>exact (if_t (ρ1:=R0) rfl).trans (set F8 h)
  | false=>exact (if_f (ρ1:=R0) rfl).trans (set F7 h)
 have s3:zbe [(1,H1),(9,H2)] 5 [] TB R0=.nx (R (some (.str w,om)) (some (.non,om)) A none):=by
  unfold zbe
  rw [et]
  dsimp only
  rcases hw with ⟨rfl,rfl⟩ | ⟨rfl,rfl⟩
  ·rw [show zyy [(1,H1),(9,H2)] 1=some H1 from rfl]
   dsimp only
   rw [if_pos ⟨show 5 < 6 by decide,rfl⟩]
   have:H1 (R0.set 5 (some (.exn 1,om)))=.nx (R (some (.str "NoBox",om)) (some (.non,om)) A (some (.exn 1,om))):=by rfl
   rw [this]
   rfl
  ·rw [show zyy [(1,H1),(9,H2)] 9=some H2 from rfl]
   dsimp only
   rw [if_pos ⟨show 5 < 6 by decide,rfl⟩]
   have:H2 (R0.set 5 (some (.exn 9,om)))=.nx (R (some (.str "NoText",om)) (some (.non,om)) A (some (.exn 9,om))):=by rfl
   rw [this]
   rfl
 obtain ⟨d',e4⟩:=qku (s0:=some (x,dv x)) (s1:=some (.bl q,om)) (s5:=none) (w:=w) (v:=.non) (d:=om) (by rcases hw with ⟨_,rfl⟩ | ⟨_,rfl⟩ <;> decide +kernel)
 have hF:F16=mkFn false 2 4 b16:=rfl
 rw [hF,qdy]
 refine ⟨d',zwv rfl ((zqe (ρ1:=R W none none none) rfl).trans ((zqe (ρ1:=R W (some (.non,om)) none none) rfl).trans ((zqe (ρ1:=R0) rfl).trans ((zqe s3).trans e4))))⟩
def Nt (x:PV):Prop:=F6 [x]=.exc 9/\F15 [x]=.ok (.non,om,.non)
theorem qhw (h:Nt x):F8 [x]=.exc 9:=zjn rfl (zym (zho (zku (xs:=[(x,dv x)]) rfl h.1)))
def C0:Fs:=sSet false 2 (bBin zqr (bBin zqo (bBin zqd (bVar 1) (bC (.int 0))) (bBin zwu (bC (.int 64)) (bBin zqd (bVar 1) (bC (.int 1))))) (bBin zqo (zqb zqy (zqa (bVar 0) (aNil))) (bC (.int 1)))) [1,1,0]
def C1:Fs:=sSet false 3 (bBin zqd (bC (.str "0123456789 /x-+._\n\tab")) (bBin zqr (bBin zqd (bVar 1) (bC (.int 2))) (bC (.int 21)))) [1]
def C2:Fs:=sSet false 4 (bBin zqr (bBin zqd (bVar 1) (bC (.int 3))) (bC (.int 8))) [1]
def C3:Fs:=sIf (bT (bBin (opEq false) (bVar 4) (bC (.int 0)))) (sRet (bBin zqo (bSl (bVar 0) none (some (bVar 2))) (bSl (bVar 0) (some (bBin zqo (bVar 2) (bC (.int 1)))) none))) sNil
def C4:Fs:=sIf (bT (bBin (opEq false) (bVar 4) (bC (.int 1)))) (sRet (bBin zqo (bBin zqo (bSl (bVar 0) none (some (bVar 2))) (bVar 3)) (bSl (bVar 0) (some (bVar 2)) none))) sNil
def C5:Fs:=sIf (bT (bBin (opEq false) (bVar 4) (bC (.int 2)))) (sRet (bBin zqo (bBin zqo (bSl (bVar 0) none (some (bVar 2))) (bVar 3)) (bSl (bVar 0) (some (bBin zqo (bVar 2) (bC (.int 1)))) none))) sNil
def C6:Fs:=sIf (bT (bBin (opEq false) (bVar 4) (bC (.int 3)))) (sRet (bBin zqo (bVar 0) (bBin zqd (zqb zxb (zqa (bC (.str " ")) (zqa (bC (.str "/")) (zqa (bC (.str "\n")) (zqa (bC (.str " 0")) (zqa (bC (.str "/0")) (zqa (bC (.str "x1")) (zqa (bC (.str "0")) (aNil))))))))) (bBin zqr (bBin zqd (bVar 1) (bC (.int 4))) (bC (.int 7)))))) sNil
def C7:Fs:=sIf (bT (bBin (opEq false) (bVar 4) (bC (.int 4)))) (sRet (bBin zqo (bBin zqd (zqb zxb (zqa (bC (.str " ")) (zqa (bC (.str "/")) (zqa (bC (.str "\n")) (zqa (bC (.str "0")) (zqa (bC (.str "0 ")) (zqa (bC (.str "1x")) (aNil)))))))) (bBin zqr (bBin zqd (bVar 1) (bC (.int 4))) (bC (.int 6)))) (bVar 0))) sNil
def C8:Fs:=sIf (bT (bBin (opEq false) (bVar 4) (bC (.int 5)))) (sRet (zja zbm (bVar 0) (zqa (bC (.str " ")) (zqa (bC (.str "  ")) (zqa (bC (.int 1)) (aNil)))))) sNil
def C9:Fs:=sIf (bT (bBin (opEq false) (bVar 4) (bC (.int 6)))) (sRet (zja zbm (bVar 0) (zqa (bC (.str "/")) (zqa (bBin zqd (zqb zxb (zqa (bC (.str " / ")) (zqa (bC (.str "//")) (zqa (bC (.str "\n")) (zqa (bC (.str " ")) (aNil)))))) (bBin zqr (bBin zqd (bVar 1) (bC (.int 4))) (bC (.int 4)))) (zqa (bC (.int 1)) (aNil)))))) sNil
def C10:Fs:=sSet false 5 (zqb zxb (zqa (bC (.str "")) (zqa (bC (.str " ")) (zqa (bC (.str "/")) (zqa (bC (.str "x")) (zqa (bC (.str "1")) (zqa (bC (.str "01")) (zqa (bC (.str "1x1")) (zqa (bC (.str "1x1x1x1")) (zqa (bC (.str "0x1x1")) (zqa (bC (.str "1X1X1")) (zqa (bC (.str "99x99x99")) (zqa (bC (.str "100x1x1")) (zqa (bC (.str "1x01x1")) (zqa (bC (.str "pile")) (aNil)))))))))))))))) []
def C11:Fs:=sRet (bBin zqd (bVar 5) (bBin zqr (bBin zqd (bVar 1) (bC (.int 4))) (bC (.int 14))))
theorem qjg:b13=sSeq C0 (sSeq C1 (sSeq C2 (sSeq C3 (sSeq C4 (sSeq C5 (sSeq C6 (sSeq C7 (sSeq C8 (sSeq C9 (sSeq C10 C11)))))))))):=rfl
variable {z:Str}{ys:List Int}{k:Nat}{w:Int}{g:Str}
def RC (z:Str) (ys:List Int) (k:Nat) (g:Str) (w:Int) (s:QQ.Slot):Rho:=[some (.str z,om),some (il ys,0),some (.int (k:Int),om),some (.str g,om),some (.int w,om),s]
theorem adds {f h:Fx}{ρ:Rho}{x y:Str}{d e:Nat} (h1:f ρ=.ok (.str x,d,ρ)) (h2:h ρ=.ok (.str y,e,ρ)) (hl:x.length + y.length<=1000):bBin zqo f h ρ=.ok (.str (x++y),om,ρ):=by
 have z:=sz
 exact zxn h1 h2 (by unfold zqo;dsimp only;rw [if_pos (by omega)])
theorem slT {f h:Fx}{ρ:Rho}{x:Str}{d e:Nat}{i:Int} (h1:f ρ=.ok (.str x,d,ρ)) (h2:h ρ=.ok (.int i,e,ρ)) (hl:x.length<=1000):bSl f none (some h) ρ=.ok (.str (ve4 x none (some i)),om,ρ):=by
 have z:=sz
 unfold bSl
 rw [h1]
 show (((h ρ).bind λ (x,_,ρ1)=>match x with
  | .int i=>Rz.ok (some i,ρ1)
  | _=>.no).bind _)=_
 rw [h2]
 show (match opSl (.str x) none (some i) with
  | some (z,c)=>Rz.ok (z,c,ρ)
  | none=>.no)=_
 unfold opSl
 dsimp only
 rw [if_pos (by omega)]
theorem slF {f h:Fx}{ρ:Rho}{x:Str}{d e:Nat}{i:Int} (h1:f ρ=.ok (.str x,d,ρ)) (h2:h ρ=.ok (.int i,e,ρ)) (hl:x.length<=1000):bSl f (some h) none ρ=.ok (.str (ve4 x (some i) none),om,ρ):=by
 have z:=sz
 unfold bSl
 rw [h1]
 show (((h ρ).bind λ (x,_,ρ1)=>match x with
  | .int i=>Rz.ok (some i,ρ1)
  | _=>.no).bind _)=_
 rw [h2]
 show (match opSl (.str x) (some i) none with
  | some (z,c)=>Rz.ok (z,c,ρ)
  | none=>.no)=_
 unfold opSl
 dsimp only
 rw [if_pos (by omega)]
theorem zpj {ρ:Rho}{m:Nat} (k:Nat) (hy:ys.length=5) (hk:k < 5) (hm:0 < m) (hv:bVar 1 ρ=.ok (il ys,0,ρ)):∃ n:Nat,n < m/\bBin zqr (bBin zqd (bVar 1) (bC (.int (k:Int)))) (bC (.int (m:Int))) ρ=.ok (.int (n:Int),om,ρ):=by
 have h0:=jf1 (ys.getD k 0) (show (m:Int)≠0 by omega)
 have h1:=jf0 (ys.getD k 0) (show (0:Int) < m by omega)
 refine ⟨(ys.getD k 0 % m).toNat,by omega,?_⟩
 rw [jk9 h0]
 exact zwc (zmo (xs:=ys) (k:=(k:Int)) hv rfl (zwg (by omega) (zzi (by rw [je6];omega)))) (j:=(m:Int)) (e:=om) rfl (by omega)
theorem zgx {f h:Fx}{ρ:Rho}{L:List Str}{n d e:Nat} (h1:f ρ=.ok (.lst (L.map PV.str),d,ρ)) (h2:h ρ=.ok (.int (n:Int),e,ρ)) (hn:n < L.length):∃ s∈L,bBin zqd f h ρ=.ok (.str s,om,ρ):=by
 refine ⟨L[n],je3 hn,zxn h1 h2 ?_⟩
 show (atI (L.map PV.str) (n:Int)).map (λ z=>(z,dv z))=_
 rw [zwg (x:=.str L[n]) (by omega) (by rw [je6,jd2,jc6 hn];rfl)]
 rfl
theorem qbv {fa:Fa}{ρ:Rho}{c:Nat}{y:Str}{d1 d2 d3:Nat} (h:c∉z.cps.toList) (hv:bVar 0 ρ=.ok (.str z,om,ρ)) (ha:fa ρ=.ok ([(.str ⟨#[c]⟩,d1),(.str y,d2),(.int 1,d3)],ρ)):zja zbm (bVar 0) fa ρ=.ok (.str z,om,ρ):=by
 unfold zja
 rw [hv]
 show zqb (zbm z) fa ρ=_
 refine zxt ha ?_
 have e:(vb8 z ⟨#[c]⟩ 0 z.length 1).isEmpty=true:=by
  have:=StrLaws.found_one z c
  rw [decide_eq_false h] at this
  simpa using this
 show (if (vb8 z ⟨#[c]⟩ 0 z.length 1).isEmpty=true then _ else _)=_
 rw [if_pos e]
def Ok (x:Str):Prop:=zqs x=true/\x.length<=300
def okL (L:List Str):Bool:=L.all λ s=>zqs s && decide (s.length<=10)
theorem zfs {L:List Str} (h:okL L=true):∀ s∈L,zqs s=true/\s.length<=10:=λ s hs=>by
 have:=jb6.mp h s hs
 rw [ja3] at this
 exact ⟨this.1,of_decide_eq_true this.2⟩
theorem qjr {j:Int}{s:QQ.Slot}:bT (bBin (opEq false) (bVar 4) (bC (.int j))) (RC z ys k g w s)=.ok (decide (w=j),RC z ys k g w s):=by
 have:=t_ok (zmt (neg:=false) (f:=bVar 4) (g:=bC (.int j)) (ρ:=RC z ys k g w s) (ρ1:=RC z ys k g w s) (ρ2:=RC z ys k g w s) (i:=w) (j:=j) (d:=om) (e:=om) rfl rfl)
 rw [jf3] at this
 exact this
theorem wgo {j:Int}{s:QQ.Slot}{E:Fx}{T:Fs}{x:Str} (hx:Ok x) (hE:E (RC z ys k g w s)=.ok (.str x,om,RC z ys k g w s)) (hT:w≠j->∃ x ρ',Ok x/\T (RC z ys k g w s)=.rt (.str x) om ρ'):∃ x ρ',Ok x/\sSeq (sIf (bT (bBin (opEq false) (bVar 4) (bC (.int j)))) (sRet E) sNil) T (RC z ys k g w s)=.rt (.str x) om ρ':=by
 by_cases h:w=j
 ·exact ⟨x,_,hx,zzo ((if_t (by rw [qjr,decide_eq_true h])).trans (zwi hE))⟩
 ·obtain ⟨x,ρ',h1,h2⟩:=hT h
  exact ⟨x,ρ',h1,(zqe ((if_f (by rw [qjr,decide_eq_false h])).trans rfl)).trans h2⟩
theorem qed (ha:zqs z=true) (hl:z.length<=100) (h32:32∉z.cps.toList) (h47:47∉z.cps.toList) (hg:zqs g=true/\g.length<=10) (hy:ys.length=5):∃ x ρ',Ok x/\sSeq C3 (sSeq C4 (sSeq C5 (sSeq C6 (sSeq C7 (sSeq C8 (sSeq C9 (sSeq C10 C11))))))) (RC z ys k g w none)=.rt (.str x) om ρ':=by
 let R:Rho:=RC z ys k g w none
 have one:=zkc (f:=bVar 2) (i:=(k:Int)) (d:=om) (ρ:=R) rfl (g:=bC (.int 1)) (j:=1) (e:=om) rfl
 have a1:=slT (f:=bVar 0) (h:=bVar 2) (ρ:=R) (x:=z) (d:=om) (e:=om) (i:=(k:Int)) rfl rfl (by omega)
 have a2:=slF (f:=bVar 0) (ρ:=R) (x:=z) (d:=om) rfl one (by omega)
 have a3:=slF (f:=bVar 0) (h:=bVar 2) (ρ:=R) (x:=z) (d:=om) (e:=om) (i:=(k:Int)) rfl rfl (by omega)
 have l1:=vj7 z none (some (k:Int))
 have l2:=vj7 z (some ((k:Int) + 1)) none
 have l3:=vj7 z (some (k:Int)) none
 have s1:zqs (ve4 z none (some (k:Int)))=true:=zyv ha
 have s2:zqs (ve4 z (some ((k:Int) + 1)) none)=true:=zyv ha
 have s3:zqs (ve4 z (some (k:Int)) none)=true:=zyv ha
 have sg:=adds a1 (h:=bVar 3) (y:=g) (e:=om) rfl (by omega)
 have lg:=zxc (ve4 z none (some (k:Int))) g
 refine wgo ⟨zvm s1 s2,?_⟩ (adds a1 a2 ?_) λ _=>wgo ⟨zvm (zvm s1 hg.1) s3,?_⟩ (adds sg a3 ?_) λ _=>wgo ⟨zvm (zvm s1 hg.1) s2,?_⟩ (adds sg a2 ?_) λ _=>?_
 ·rw [zxc];omega
 ·omega
 ·rw [zxc,zxc];omega
 ·rw [zxc];omega
 ·rw [zxc,zxc];omega
 ·rw [zxc];omega
 obtain ⟨n7,hn7,m7⟩:=zpj (ρ:=R) (m:=7) 4 hy (by decide) (by decide) rfl
 obtain ⟨x7,hx7,e7⟩:=zgx (f:=zqb zxb (zqa (bC (.str " ")) (zqa (bC (.str "/")) (zqa (bC (.str "\n")) (zqa (bC (.str " 0")) (zqa (bC (.str "/0")) (zqa (bC (.str "x1")) (zqa (bC (.str "0")) (aNil)))))))) ) (L:=[" ","/","\n"," 0","/0","x1","0"]) (d:=om) rfl m7 hn7
 have o7:=zfs (L:=[" ","/","\n"," 0","/0","x1","0"]) (by decide +kernel) x7 hx7
 obtain ⟨n6,hn6,m6⟩:=zpj (ρ:=R) (m:=6) 4 hy (by decide) (by decide) rfl
 obtain ⟨x6,hx6,e6⟩:=zgx (f:=zqb zxb (zqa (bC (.str " ")) (zqa (bC (.str "/")) (zqa (bC (.str "\n")) (zqa (bC (.str "0")) (zqa (bC (.str "0 ")) (zqa (bC (.str "1x")) (aNil))))))) ) (L:=[" ","/","\n","0","0 ","1x"]) (d:=om) rfl m6 hn6
 have o6:=zfs (L:=[" ","/","\n","0","0 ","1x"]) (by decide +kernel) x6 hx6
 obtain ⟨n4,hn4,m4⟩:=zpj (ρ:=R) (m:=4) 4 hy (by decide) (by decide) rfl
 obtain ⟨x4,hx4,e4⟩:=zgx (f:=zqb zxb (zqa (bC (.str " / ")) (zqa (bC (.str "//")) (zqa (bC (.str "\n")) (zqa (bC (.str " ")) (aNil))))) ) (L:=[" / ","//","\n"," "]) (d:=om) rfl m4 hn4
 have v0:bVar 0 R=.ok (.str z,om,R):=rfl
 refine wgo ⟨zvm ha o7.1,by rw [zxc];omega⟩ (adds v0 e7 (by omega)) λ _=>wgo ⟨zvm o6.1 ha,by rw [zxc];omega⟩ (adds e6 v0 (by omega)) λ _=>wgo ⟨ha,by omega⟩ (qbv (c:=32) (y := "  ") (d1:=om) (d2:=om) (d3:=om) h32 rfl rfl) λ _=>wgo ⟨ha,by omega⟩ (qbv (c:=47) (y:=x4) (d1:=om) (d2:=om) (d3:=om) h47 rfl (zxj (x:=.str ⟨#[47]⟩) (d:=om) rfl (zxj e4 (zxw (x:=.int 1) (d:=om) rfl)))) λ _=>?_
 let OD:List Str:=[""," ","/","x","1","01","1x1","1x1x1x1","0x1x1","1X1X1","99x99x99","100x1x1","1x01x1","pile"]
 let R9:Rho:=RC z ys k g w (some (.lst (OD.map PV.str),om))
 have v10:C10 R=.nx R9:=by kernel_rfl
 obtain ⟨n9,hn9,m9⟩:=zpj (ρ:=R9) (m:=14) 4 hy (by decide) (by decide) rfl
 obtain ⟨x9,hx9,e9⟩:=zgx (f:=bVar 5) (L:=OD) (d:=0) (ρ:=R9) rfl m9 hn9
 have o9:=zfs (L:=OD) (by decide +kernel) x9 hx9
 exact ⟨x9,_,⟨o9.1,by omega⟩,(zqe v10).trans (zwi e9)⟩
def SG:Str := "0123456789 /x-+._\n\tab"
theorem qja (ha:zqs z=true) (hl:z.length<=100) (h32:32∉z.cps.toList) (h47:47∉z.cps.toList) (hy:ys.length=5):∃ x,Ok x/\F13 [.str z,il ys]=.ok (.str x,om,.non):=by
 have s:=sz
 let S (s2 s3 s4:QQ.Slot):Rho:=[some (.str z,om),some (il ys,0),s2,s3,s4,none]
 have ix:∀ (n:Nat) (ρ:Rho),n < 5->bVar 1 ρ=.ok (il ys,0,ρ)->bBin zqd (bVar 1) (bC (.int (n:Int))) ρ=.ok (.int (ys.getD n 0),om,ρ):=λ n ρ hn h=>zmo (xs:=ys) (k:=(n:Int)) h rfl (zwg (by omega) (zzi (by rw [je6];omega)))
 let a:Int:=(ys.getD 0 0 + 64 * ys.getD 1 0) % ((z.length:Int) + 1)
 have a0:0<=a:=jf1 _ (by omega)
 have v0:C0 (S none none none)=.nx (S (some (.int (a.toNat:Int),om)) none none):=by
  have q:=zwc (zkc (ix 0 (S none none none) (by decide) rfl) (zji (f:=bC (.int 64)) (i:=64) (d:=om) rfl (ix 1 (S none none none) (by decide) rfl) (.inl (by decide)))) (zkc (qil (f:=bVar 0) (ρ:=S none none none) (z:=z) (d:=om) rfl (by omega)) (g:=bC (.int 1)) (j:=1) (e:=om) rfl) (by omega)
  rw [jk9 a0]
  exact setF q (show 2 < 6 by decide) rfl
 let I:QQ.Slot:=some (.int (a.toNat:Int),om)
 obtain ⟨n,hn,em⟩:=zpj (ρ:=S I none none) (m:=21) 2 hy (by decide) (by decide) rfl
 have ls:SG.cps.toList.length=21:=by decide +kernel
 have sa:(jd4 21).all (λ n=>zqs ⟨#[SG.cps.toList.getD n 0]⟩)=true:=by decide +kernel
 have e1:bBin zqd (bC (.str SG)) (bBin zqr (bBin zqd (bVar 1) (bC (.int 2))) (bC (.int 21))) (S I none none)=.ok (.str ⟨#[SG.cps.toList.getD n 0]⟩,om,S I none none):=by
  refine zxn (x:=.str SG) (d:=om) rfl em ?_
  unfold zqd
  dsimp only
  rw [if_pos (show SG.length<=va2 by show SG.cps.toList.length<=_;omega),zwg (x:=SG.cps.toList.getD n 0) (by omega) (by
   rw [je6,jd3,jc6 (by omega)]
   rfl)]
  rfl
 let G:Str:=⟨#[SG.cps.toList.getD n 0]⟩
 have v1:C1 (S I none none)=.nx (S I (some (.str G,om)) none):=setF e1 (show 3 < 6 by decide) rfl
 have e2:=zwc (ix 3 (S I (some (.str G,om)) none) (by decide) rfl) (g:=bC (.int 8)) (j:=8) (e:=om) rfl (by decide)
 have v2:C2 (S I (some (.str G,om)) none)=.nx (RC z ys a.toNat G (ys.getD 3 0 % 8) none):=setF e2 (show 4 < 6 by decide) rfl
 obtain ⟨x,ρ',hx,e⟩:=qed (k:=a.toNat) (w:=ys.getD 3 0 % 8) (g:=G) ha hl h32 h47 ⟨jb6.mp sa n (jd5.mpr hn),show 1<=10 by decide⟩ hy
 have hF:F13=mkFn false 2 4 b13:=rfl
 rw [hF,qjg]
 exact ⟨x,hx,zwv rfl ((zqe v0).trans ((zqe v1).trans ((zqe v2).trans e)))⟩
def Xal (F:Fn):Fs:=(sSeq (sIf (bT (bOrV (bUn (zqm "tuple") (bVar 1)) (bUn (zqm "list") (bVar 1)))) (sSeq (sIf (bT (bOrV (bBin (opEq true) (bUn (zqm "tuple") (bVar 0)) (bUn (zqm "tuple") (bVar 1))) (bBin (opEq true) (bUn (zqm "list") (bVar 0)) (bUn (zqm "list") (bVar 1))))) (sRet (bC (.bl false))) sNil)
 (sSeq (sIf (bT (bBin (opEq true) (zqb zqy (zqa (bVar 0) (aNil))) (zqb zqy (zqa (bVar 1) (aNil))))) (sRet (bC (.bl false))) sNil)
 (sRet (bBin (opEq false) (zzn zzd (zqa (zqb zqy (zqa (bVar 1) (aNil))) (aNil)) 1 (asgN 2) (bT (bUn zxe (zqp F (zqa (bBin zqd (bVar 0) (bVar 2)) (zqa (bBin zqd (bVar 1) (bVar 2)) (aNil)))))) (bVar 2)) (zqb zxb (aNil)))))) sNil)
 (sRet (zqx (bUn (zqm "int") (bVar 0)) (zqx (bUn zxe (bUn (zqm "bool") (bVar 0))) (bBin (opEq false) (bVar 0) (bVar 1))))))
def al:Nat->Fn
 | 0=>λ _=>.no
 | n + 1=>mkFn false 2 0 (Xal (al n))
theorem qmm (n:Nat) (i:Int):al (n + 1) [.int i,.int i]=.ok (.bl true,om,.non):=by
 let R:Rho:=[some (.int i,om),some (.int i,om)]
 have e:(zqx (bUn (zqm "int") (bVar 0)) (zqx (bUn zxe (bUn (zqm "bool") (bVar 0))) (bBin (opEq false) (bVar 0) (bVar 1)))) R=.ok (.bl (true && (true && (false^^decide (i=i)))),om,R):=
  zve (a:=true) (d:=om) rfl (λ _=>zve (a:=true) (d:=om) rfl (λ _=>zmt (i:=i) (j:=i) rfl rfl) rfl) rfl
 rw [decide_eq_true rfl] at e
 exact zwv rfl (ρ':=R) ((zqe (ρ1:=R) (if_f (ρ1:=R) rfl)).trans (zwi e))
theorem qml {n m:Nat}{ns:List Int} (hm:ns.length=m) (hl:m<=1000):al (n + 2) [tp ns,tp ns]=.ok (.bl true,om,.non):=by
 have z:=sz
 let R:Rho:=[some (tp ns,0),some (tp ns,0)]
 have t1:bT (bOrV (bUn (zqm "tuple") (bVar 1)) (bUn (zqm "list") (bVar 1))) R=.ok (true,R):=by kernel_rfl
 have t3:bT (bOrV (bBin (opEq true) (bUn (zqm "tuple") (bVar 0)) (bUn (zqm "tuple") (bVar 1))) (bBin (opEq true) (bUn (zqm "list") (bVar 0)) (bUn (zqm "list") (bVar 1)))) R=.ok (false,R):=by kernel_rfl
 have el:∀ j ρ,bVar j ρ=.ok (tp ns,0,ρ)->zqb zqy (zqa (bVar j) (aNil)) ρ=.ok (.int (m:Int),om,ρ):=λ j ρ e=>zxt (zxw e) (by show some (PV.int ((ns.map PV.int).length:Int),om)=_;rw [jb5,hm])
 have t4:=t_ok (zmt (neg:=true) (el 0 R rfl) (el 1 R rfl))
 rw [decide_eq_true rfl] at t4
 have e5:=qdi (n:=2) (en:=zzd) (fa:=zqa (zqb zqy (zqa (bVar 1) (aNil))) (aNil)) (ρ:=R) (ρ1:=R) (as:=[(.int (m:Int),om)]) (lo:=0) (hi:=(m:Int)) (p:=λ _=>false)
  (test:=bT (bUn zxe (zqp (al (n + 1)) (zqa (bBin zqd (bVar 0) (bVar 2)) (zqa (bBin zqd (bVar 1) (bVar 2)) (aNil)))))) (zxw (el 1 R rfl)) (zbx (by omega) (by omega)) rfl (λ k hk=>by
   have ix:∀ (j:Nat) (ρ:Rho),bVar j ρ=.ok (tp ns,0,ρ)->bVar 2 ρ=.ok (.int (0 + (k:Int)),om,ρ)->bBin zqd (bVar j) (bVar 2) ρ=.ok (.int (ns.getD k 0),om,ρ):=λ j ρ e1 e2=>by
    refine zxn e1 e2 ?_
    show (atI (ns.map PV.int) (0 + (k:Int))).map (λ z=>(z,dv z))=_
    rw [zwg (x:=.int (ns.getD k 0)) (by omega) (by rw [show (0 + (k:Int)).toNat=k by omega,jd2,zzi (show k < ns.length by omega)];rfl)]
    rfl
   exact t_ok (zkk (zqz (xs:=[(.int (ns.getD k 0),om),(.int (ns.getD k 0),om)]) (zxj (ix 0 _ rfl rfl) (zxw (ix 1 _ rfl rfl))) (qmm n _)))) (by omega)
 rw [show ∀ l:List Nat,l.filter (λ _=>false)=[] from λ l=>by simp,jf5] at e5
 have e6:=qnh (neg:=false) (ys:=[]) (d:=om) (e:=om) (h:=zqb zxb (aNil)) e5 rfl
 rw [decide_eq_true rfl] at e6
 exact zwv rfl (ρ':=R) (zzo ((if_t t1).trans ((zqe (if_f t3)).trans ((zqe (if_f t4)).trans (zwi e6)))))
theorem e111:qd2=al 1:=by unfold qd2;rw [qfk];rfl
theorem e112:qd1=al 2:=by unfold qd1;rw [qfj,e111];rfl
theorem e113:qd0=al 3:=by unfold qd0;rw [qfi,e112];rfl
theorem e114:F11=al 4:=by show qfo=_;unfold qfo;rw [qfh,e113];rfl
theorem qnk {ns:List Int} (h:ns.length=3):F11 [tp ns,tp ns]=.ok (.bl true,om,.non):=by rw [e114];exact qml (n:=2) h (by decide)
theorem qgf {neg:Bool}{f g:Fx}{ρ ρ1 ρ2:Rho}{w:Str}{v:PV}{d e:Nat} (hv:okE 20 v=true) (h1:f ρ=.ok (ask w v,d,ρ1)) (h2:g ρ1=.ok (ask w v,e,ρ2)):bBin (opEq neg) f g ρ=.ok (.bl (neg^^true),om,ρ2):=by
 refine zxn h1 h2 ?_
 unfold opEq
 cases hD:toD 20 (ask w v) with
 | some D=>
  dsimp only
  rw [SeqAt.eqv_refl D (zwe 20 _ D hD).1]
 | none=>
  unfold ask
  dsimp only
  rw [if_pos (zzw λ x hx=>?_)]
  rcases ja9.mp hx with rfl | hx
  ·exact zbd 20 _ rfl
  ·rw [jb1.mp hx]
   exact zbd 20 _ hv
def P0:Fs:=sSet false 2 (zqp F10 (zqa (zqp F9 (zqa (bVar 0) (zqa (bVar 1) (aNil)))) (zqa (bC (.int 16)) (aNil)))) [0,1]
def P1:Fs:=sSet false 3 (zqb zwt (zqa (bBin zqo (bC (.int 1)) (bBin zqr (bBin zqd (bVar 2) (bC (.int 0))) (bC (.int 6)))) (zqa (bBin zqo (bC (.int 1)) (bBin zqr (bBin zqo (bBin zwu (bBin zqd (bVar 2) (bC (.int 1))) (bC (.int 3))) (bBin zqd (bVar 2) (bC (.int 2)))) (bC (.int 99)))) (zqa (bBin zqo (bC (.int 1)) (bBin zqr (bBin zqd (bVar 2) (bC (.int 2))) (bBin zqd (zqb zxb (zqa (bC (.int 9)) (zqa (bC (.int 10)) (zqa (bC (.int 99)) (aNil))))) (bBin zqr (bBin zqd (bVar 2) (bC (.int 0))) (bC (.int 3)))))) (aNil))))) [2,2,2,2,2]
def P2:Fs:=sSet false 4 (bBin zqo (bBin zqo (bBin zqo (bBin zqo (zqb zkf (zqa (bBin zqd (bVar 3) (bC (.int 0))) (aNil))) (bC (.str "x"))) (zqb zkf (zqa (bBin zqd (bVar 3) (bC (.int 1))) (aNil)))) (bC (.str "x"))) (zqb zkf (zqa (bBin zqd (bVar 3) (bC (.int 2))) (aNil)))) [3,3,3]
def P3:Fs:=sIf (bT (bOrV (bBin (opEq true) (zqp F16 (zqa (bVar 3) (zqa (bC (.bl false)) (aNil)))) (zqb zwt (zqa (bC (.str "told")) (zqa (bVar 4) (aNil))))) (bBin (opEq true) (zqp F16 (zqa (zqp F14 (zqa (bBin zqd (bVar 2) (bC (.int 3))) (aNil))) (zqa (bC (.bl false)) (aNil)))) (zqb zwt (zqa (bC (.str "NoBox")) (zqa (bC .non) (aNil))))))) (sRet (bC (.bl false))) sNil
def P4:Fs:=sIf (bT (bBin (zwl λ i j=>decide (j < i)) (bBin zqr (bBin zqd (bVar 2) (bC (.int 4))) (bC (.int 4))) (bC (.int 0)))) (sSet false 4 (zqp F13 (zqa (bVar 4) (zqa (bSl (bVar 2) (some (bC (.int 5))) (some (bC (.int 10)))) (aNil)))) [4,2]) sNil
def P5:Fs:=sIf (bT (bBin (opEq false) (bBin zqr (bBin zqd (bVar 2) (bC (.int 10))) (bC (.int 8))) (bC (.int 3)))) (sSet false 4 (bBin zqd (zqb zxb (zqa (bC .non) (zqa (bC (.int 7)) (zqa (bVar 3) (zqa (zqb zxb (zqa (bVar 4) (aNil))) (zqa (bC (.bl true)) (zqa (bC .emp) (aNil)))))))) (bBin zqr (bBin zqd (bVar 2) (bC (.int 11))) (bC (.int 6)))) [3,4,2]) sNil
def P6:Fs:=sUnp (asgT [5,6]) (zqp F16 (zqa (bVar 4) (zqa (bC (.bl true)) (aNil)))) [4]
def P7:Fs:=sSet false 7 (zqp F15 (zqa (bVar 4) (aNil))) [4]
def P8:Fs:=sIf (bT (bOrV (zqx (bBin (opIs false) (bVar 7) (bC .non)) (bBin (opEq true) (bVar 5) (bC (.str "NoText")))) (zqx (bBin (opIs true) (bVar 7) (bC .non)) (bOrV (bBin (opEq true) (bVar 5) (bC (.str "told"))) (bUn zxe (zqp F11 (zqa (bVar 6) (zqa (bVar 7) (aNil))))))))) (sRet (bC (.bl false))) sNil
def LK:Fs:=sSeq P0 (sSeq P1 (sSeq P2 (sSeq P3 (sSeq P4 (sSeq P5 (sSeq P6 (sSeq P7 P8)))))))
theorem qjf:b17=sSeq (zyx zzd (zqa (zqb qal (zqa (bC (.int 1)) (zqa (zqb zbo (zqa (zqb zqy (zqa (bVar 0) (aNil))) (zqa (bC (.int 40)) (aNil)))) (aNil)))) (aNil)) (asgN 1) LK) (sRet (bC (.bl true))):=rfl
def Th (x:PV):Prop:=(∃ z,x=.str z/\Ok z)\/Nt x
theorem qi6 {d:Nat}{vs:List Nat}{ρ:Rho}:zxa d vs ρ=ρ\/zxa d vs ρ=cool vs 0 ρ:=by
 unfold zxa
 split
 ·exact .inl rfl
 ·exact .inr rfl
theorem qgy {s0 s1 s2 s3 s5 s6 s7:QQ.Slot}{x:PV}{d4:Nat} (hx:Th x):∃ t4 t5 t6 t7,sSeq P6 (sSeq P7 P8) [s0,s1,s2,s3,some (x,d4),s5,s6,s7]=.nx [s0,s1,s2,s3,t4,t5,t6,t7]:=by
 let S (d:Nat) (s5 s6 s7:QQ.Slot):Rho:=[s0,s1,s2,s3,some (x,d),s5,s6,s7]
 have six:∀ (w:Str) (v:PV) (d':Nat),F16 [x,.bl true]=.ok (ask w v,d',.non)->∃ d,P6 (S d4 s5 s6 s7)=.nx (S d (some (.str w,om)) (some (v,dv v)) s7):=λ w v d' h=>by
  have q:=zqz (F:=F16) (fa:=zqa (bVar 4) (zqa (bC (.bl true)) (aNil))) (ρ:=S d4 s5 s6 s7) (ρ1:=S d4 s5 s6 s7) (xs:=[(x,dv x),(.bl true,om)]) rfl h
  rcases qi6 (d:=d') (vs:=[4]) (ρ:=S d4 s5 s6 s7) with cl | cl
  ·exact ⟨d4,qfp q (by rw [cl];rfl)⟩
  ·exact ⟨0,qfp q (by rw [cl];rfl)⟩
 have seven:∀ (d:Nat) (s5 s6:QQ.Slot) (v:PV) (d':Nat),F15 [x]=.ok (v,d',.non)->∃ d2,P7 (S d s5 s6 s7)=.nx (S d2 s5 s6 (some (v,d'))):=λ d s5 s6 v d' h=>by
  have q:=zqz (F:=F15) (fa:=zqa (bVar 4) (aNil)) (ρ:=S d s5 s6 s7) (ρ1:=S d s5 s6 s7) (xs:=[(x,dv x)]) rfl h
  rcases qi6 (d:=d') (vs:=[4]) (ρ:=S d s5 s6 s7) with cl | cl
  ·exact ⟨d,setF q (show 7 < 8 by decide) (by rw [cl];rfl)⟩
  ·exact ⟨0,setF q (show 7 < 8 by decide) (by rw [cl];rfl)⟩
 have none_case:F8 [x]=.exc 9->F15 [x]=.ok (.non,om,.non)->∃ t4 t5 t6 t7,sSeq P6 (sSeq P7 P8) (S d4 s5 s6 s7)=.nx [s0,s1,s2,s3,t4,t5,t6,t7]:=λ h8 h15=>by
  obtain ⟨d',ea⟩:=zfg (q:=true) (w := "NoText") h8 (.inr ⟨rfl,rfl⟩)
  obtain ⟨d,v6⟩:=six _ _ _ ea
  obtain ⟨d2,v7⟩:=seven d (some (.str "NoText",om)) (some (.non,om)) _ _ h15
  let R:Rho:=S d2 (some (.str "NoText",om)) (some (.non,om)) (some (.non,om))
  have a1:=zve (f:=bBin (opIs false) (bVar 7) (bC .non)) (a:=true) (d:=om) (ρ:=R) (ρ1:=R) rfl (λ _=>zms (neg:=true) (f:=bVar 5) (g:=bC (.str "NoText")) (ρ:=R) (ρ1:=R) (ρ2:=R) (x := "NoText") (y := "NoText") (d:=om) (e:=om) rfl rfl) rfl
  rw [beq_self_eq_true] at a1
  have a2:zqx (bBin (opIs true) (bVar 7) (bC .non)) (bOrV (bBin (opEq true) (bVar 5) (bC (.str "told"))) (bUn zxe (zqp F11 (zqa (bVar 6) (zqa (bVar 7) (aNil)))))) R=.ok (.bl false,om,R):=(zve (a:=false) (b:=true) (d:=om) (ρ1:=R) rfl (λ z=>nomatch z) rfl).trans rfl
  have v8:P8 R=.nx R:=(if_f (t_ok ((orF a1).trans a2))).trans rfl
  exact ⟨_,_,_,_,(zqe v6).trans ((zqe v7).trans v8)⟩
 rcases hx with ⟨z,rfl,ha,hl⟩ | hx
 ·have r1:=read_box ha (by omega)
  have r2:=qio ha (by omega)
  cases hr:rb z with
  | none=>
   rw [hr] at r1 r2
   exact none_case r1 r2
  | some ns=>
   rw [hr] at r1 r2
   obtain ⟨d0,r1⟩:=r1
   obtain ⟨h3,r2⟩:=r2
   obtain ⟨d',ea⟩:=zjw (q:=true) r1
   obtain ⟨d,v6⟩:=six _ _ _ ea
   obtain ⟨d2,v7⟩:=seven d (some (.str "told",om)) (some (tp ns,0)) _ _ r2
   let R:Rho:=S d2 (some (.str "told",om)) (some (tp ns,0)) (some (tp ns,om))
   have a1:zqx (bBin (opIs false) (bVar 7) (bC .non)) (bBin (opEq true) (bVar 5) (bC (.str "NoText"))) R=.ok (.bl false,om,R):=(zve (a:=false) (b:=true) (d:=om) (ρ1:=R) rfl (λ z=>nomatch z) rfl).trans rfl
   have e1:=zms (neg:=true) (f:=bVar 5) (g:=bC (.str "told")) (ρ:=R) (ρ1:=R) (ρ2:=R) (x := "told") (y := "told") (d:=om) (e:=om) rfl rfl
   rw [beq_self_eq_true] at e1
   have e2:=zkk (zqz (F:=F11) (fa:=zqa (bVar 6) (zqa (bVar 7) (aNil))) (ρ:=R) (ρ1:=R) (xs:=[(tp ns,0),(tp ns,0)]) rfl (qnk h3))
   have a2:=zve (f:=bBin (opIs true) (bVar 7) (bC .non)) (a:=true) (d:=om) (ρ:=R) (ρ1:=R) rfl (λ _=>(orF e1).trans e2) rfl
   have v8:P8 R=.nx R:=(if_f (t_ok ((orF a1).trans a2))).trans rfl
   exact ⟨_,_,_,_,(zqe v6).trans ((zqe v7).trans v8)⟩
 ·exact none_case (qhw hx) hx.2
theorem qnm {ns:List Int}{k:Nat}{s2 s3 s4 s5 s6 s7:QQ.Slot}:∃ t2 t3 t4 t5 t6 t7,LK [some (.scr ns,om),some (.int (k:Int),om),s2,s3,s4,s5,s6,s7]=.nx [some (.scr ns,om),some (.int (k:Int),om),t2,t3,t4,t5,t6,t7]:=by
 have z:=sz
 let S (s2 s3 s4 s5 s6 s7:QQ.Slot):Rho:=[some (.scr ns,om),some (.int (k:Int),om),s2,s3,s4,s5,s6,s7]
 obtain ⟨xs,hx,e1⟩:=qi7 (ns.getD k 0) 16 (by omega)
 have v0:P0 (S s2 s3 s4 s5 s6 s7)=.nx (S (some (il xs,om)) s3 s4 s5 s6 s7):=setF (zqz (zxj (zqz (xs:=[(.scr ns,om),(.int (k:Int),om)]) rfl (qjb ns k)) (zxw (x:=.int 16) (d:=om) rfl)) e1) (show 2 < 8 by decide) rfl
 have ix:∀ (n:Nat) (ρ:Rho),n < 16->bVar 2 ρ=.ok (il xs,0,ρ)->bBin zqd (bVar 2) (bC (.int (n:Int))) ρ=.ok (.int (xs.getD n 0),om,ρ):=λ n ρ hn h=>zmo (xs:=xs) (k:=(n:Int)) h rfl (zwg (by omega) (zzi (by rw [je6];omega)))
 let R1:Rho:=S (some (il xs,om)) s3 s4 s5 s6 s7
 obtain ⟨a,ea,ha⟩:=zfv (xs.getD 0 0) 6 (by decide)
 obtain ⟨b,eb,hb⟩:=zfv (xs.getD 1 0 * 3 + xs.getD 2 0) 99 (by decide)
 have q1:=zkc (f:=bC (.int 1)) (i:=1) (d:=om) (ρ:=R1) rfl (zwc (ix 0 R1 (by decide) rfl) (g:=bC (.int 6)) (j:=6) (e:=om) rfl (by decide))
 have q2:=zkc (f:=bC (.int 1)) (i:=1) (d:=om) (ρ:=R1) rfl (zwc (zkc (zji (ix 1 R1 (by decide) rfl) (g:=bC (.int 3)) (j:=3) (e:=om) rfl (.inr (by decide))) (ix 2 R1 (by decide) rfl)) (g:=bC (.int 99)) (j:=99) (e:=om) rfl (by decide))
 have m3:=zwc (ix 0 R1 (by decide) rfl) (g:=bC (.int 3)) (j:=3) (e:=om) rfl (by decide)
 have m30:=jf1 (xs.getD 0 0) (show (3:Int)≠0 by decide)
 have m31:=jf0 (xs.getD 0 0) (show (0:Int) < 3 by decide)
 have q3:∃ m:Nat,(1<=m/\m<=99)/\bBin zqd (zqb zxb (zqa (bC (.int 9)) (zqa (bC (.int 10)) (zqa (bC (.int 99)) (aNil))))) (bBin zqr (bBin zqd (bVar 2) (bC (.int 0))) (bC (.int 3))) R1=.ok (.int (m:Int),om,R1):=by
  have l3:(([9,10,99]:List Int)).length=3:=rfl
  have at':atI ([9,10,99]:List Int) (xs.getD 0 0 % 3)=some (([9,10,99]:List Int).getD (xs.getD 0 0 % 3).toNat 0):=zwg m30 (zzi (by omega))
  have e:=zmo (f:=zqb zxb (zqa (bC (.int 9)) (zqa (bC (.int 10)) (zqa (bC (.int 99)) (aNil))))) (xs:=[9,10,99]) (d:=om) (ρ:=R1) rfl m3 at'
  have hn:(xs.getD 0 0 % 3).toNat < 3:=by omega
  generalize (xs.getD 0 0 % 3).toNat=n at e hn
  match n,hn with
  | 0,_=>exact ⟨9,by decide,e⟩
  | 1,_=>exact ⟨10,by decide,e⟩
  | 2,_=>exact ⟨99,by decide,e⟩
 obtain ⟨m,hm,q3⟩:=q3
 obtain ⟨c,ec,hc⟩:=zfv (xs.getD 2 0) m (by omega)
 have q4:=zkc (f:=bC (.int 1)) (i:=1) (d:=om) (ρ:=R1) rfl (zwc (ix 2 R1 (by decide) rfl) q3 (by omega))
 rw [show (1:Int) + xs.getD 0 0 % 6=(a:Int) from ea] at q1
 rw [show (1:Int) + (xs.getD 1 0 * 3 + xs.getD 2 0) % 99=(b:Int) from eb] at q2
 rw [ec] at q4
 have bxx:Bx a b c:=⟨by omega,by omega,by omega⟩
 have v1:P1 R1=.nx (S (some (il xs,om)) (some (bx a b c,om)) s4 s5 s6 s7):=setF (zxt (zxj q1 (zxj q2 (zxw q4))) (z:=bx a b c) (c:=om) rfl) (show 3 < 8 by decide) rfl
 let R2:Rho:=S (some (il xs,om)) (some (bx a b c,om)) s4 s5 s6 s7
 let T:Str:=T3 a b c
 have v2:P2 R2=.nx (S (some (il xs,om)) (some (bx a b c,om)) (some (.str T,om)) s5 s6 s7):=by
  have la:=(zwb (i:=a) (by omega)).ln
  have lb:=(zwb (i:=b) (by omega)).ln
  have lc:=(zwb (i:=c) (by omega)).ln
  have t1:=zgq (f:=bBin zqd (bVar 3) (bC (.int 0))) (ρ:=R2) (i:=(a:Int)) (d:=om) rfl (by omega)
  have t2:=zgq (f:=bBin zqd (bVar 3) (bC (.int 1))) (ρ:=R2) (i:=(b:Int)) (d:=om) rfl (by omega)
  have t3:=zgq (f:=bBin zqd (bVar 3) (bC (.int 2))) (ρ:=R2) (i:=(c:Int)) (d:=om) rfl (by omega)
  have u1:=adds t1 (h:=bC (.str "x")) (y:=XX) (e:=om) rfl (by rw [zpk];omega)
  have u2:=adds u1 t2 (by rw [zxc,zpk];omega)
  have u3:=adds u2 (h:=bC (.str "x")) (y:=XX) (e:=om) rfl (by rw [zxc,zxc,zpk];omega)
  have u4:=adds u3 t3 (by rw [zxc,zxc,zxc,zpk];omega)
  exact setF u4 (show 4 < 8 by decide) rfl
 let R3:Rho:=S (some (il xs,om)) (some (bx a b c,om)) (some (.str T,om)) s5 s6 s7
 obtain ⟨da1,as1⟩:=zjw (q:=false) (show_box bxx)
 obtain ⟨y,dy,hy,ey⟩:=qer (xs.getD 3 0)
 obtain ⟨da2,as2⟩:=zfg (q:=false) (w := "NoBox") (qhf hy) (.inl ⟨rfl,rfl⟩)
 have w1:=qgf (neg:=true) (w := "told") (v:=.str T) rfl (zqz (F:=F16) (fa:=zqa (bVar 3) (zqa (bC (.bl false)) (aNil))) (ρ:=R3) (ρ1:=R3) (xs:=[(bx a b c,0),(.bl false,om)]) rfl as1) (g:=zqb zwt (zqa (bC (.str "told")) (zqa (bVar 4) (aNil)))) (e:=om) rfl
 have w2:=qgf (neg:=true) (w := "NoBox") (v:=.non) rfl (zqz (F:=F16) (zxj (zqz (F:=F14) (zxw (ix 3 R3 (by decide) rfl)) ey) (zxw (f:=bC (.bl false)) (x:=.bl false) (d:=om) rfl)) as2) (g:=zqb zwt (zqa (bC (.str "NoBox")) (zqa (bC .non) (aNil)))) (e:=om) rfl
 have v3:P3 R3=.nx R3:=(if_f (t_ok ((orF w1).trans w2))).trans rfl
 let ys:List Int:=(xs.drop 5).take 5
 have hy5:ys.length=5:=by show ((xs.drop 5).take 5).length=5;rw [jd7,jj4,hx];decide
 have v4:∃ (d:Nat) (x:Str),Ok x/\P4 R3=.nx (S (some (il xs,d)) (some (bx a b c,om)) (some (.str x,om)) s5 s6 s7):=by
  have tl:=qkc bxx
  have tt:=t_ok (zhv (p:=λ i j=>decide (j < i)) (zwc (ix 4 R3 (by decide) rfl) (g:=bC (.int 4)) (j:=4) (e:=om) rfl (by decide)) (g:=bC (.int 0)) (j:=0) (e:=om) rfl)
  cases hd:decide (0 < xs.getD 4 0 % 4) with
  | true=>
   rw [hd] at tt
   obtain ⟨x,ox,ex⟩:=qja (z:=T) (ys:=ys) (qfw bxx) (by show (T3 a b c).length<=100;omega) (qkb bxx).1 (qkb bxx).2 hy5
   have sl:bSl (bVar 2) (some (bC (.int 5))) (some (bC (.int 10))) R3=.ok (il ys,om,R3):=by
    show Rz.ok (PV.lst (cutP (xs.map PV.int) (some ((5:Nat):Int)) (some ((10:Nat):Int))),d1 (cutP (xs.map PV.int) (some ((5:Nat):Int)) (some ((10:Nat):Int))),R3)=_
    have e:cutP (xs.map PV.int) (some ((5:Nat):Int)) (some ((10:Nat):Int))=ys.map PV.int:=by
     unfold cutP
     rw [HT.sIx_nat,HT.sIx_nat,jb5,hx,<- List.map_drop,<- List.map_take]
     rfl
    rw [e,qmf]
    rfl
   exact ⟨om,x,ox,(if_t tt).trans (setF (zqz (zxj (f:=bVar 4) (x:=.str T) (d:=om) rfl (zxw sl)) ex) (show 4 < 8 by decide) rfl)⟩
  | false=>
   rw [hd] at tt
   exact ⟨om,T,⟨qfw bxx,by show (T3 a b c).length<=300;omega⟩,(if_f tt).trans rfl⟩
 obtain ⟨d3,x,ox,v4⟩:=v4
 let R4:Rho:=S (some (il xs,d3)) (some (bx a b c,om)) (some (.str x,om)) s5 s6 s7
 have v5:∃ (s2 s3:QQ.Slot) (y:PV) (d:Nat),Th y/\P5 R4=.nx (S s2 s3 (some (y,d)) s5 s6 s7):=by
  have tt:=t_ok (zmt (neg:=false) (zwc (ix 10 R4 (by decide) rfl) (g:=bC (.int 8)) (j:=8) (e:=om) rfl (by decide)) (g:=bC (.int 3)) (j:=3) (e:=om) rfl)
  rw [jf3] at tt
  cases hd:decide (xs.getD 10 0 % 8=3) with
  | false=>rw [hd] at tt;exact ⟨_,_,.str x,om,.inl ⟨x,rfl,ox⟩,(if_f tt).trans rfl⟩
  | true=>
   rw [hd] at tt
   let L:List PV:=[.non,.int 7,bx a b c,.lst [.str x],.bl true,.emp]
   have e0:=zxj (f:=bC .non) (x:=.non) (d:=om) (ρ:=R4) rfl (zxj (f:=bC (.int 7)) (x:=.int 7) (d:=om) rfl (zxj (f:=bVar 3) (x:=bx a b c) (d:=0) rfl (zxj (f:=zqb zxb (zqa (bVar 4) (aNil))) (x:=.lst [.str x]) (d:=om) rfl (zxj (f:=bC (.bl true)) (x:=.bl true) (d:=om) rfl (zxw (f:=bC .emp) (x:=.emp) (d:=om) rfl)))))
   have e1:∃ d,zqb zxb (zqa (bC .non) (zqa (bC (.int 7)) (zqa (bVar 3) (zqa (zqb zxb (zqa (bVar 4) (aNil))) (zqa (bC (.bl true)) (zqa (bC .emp) (aNil))))))) R4=.ok (.lst L,d,R4):=⟨_,zxt e0 (by unfold zxb;rw [if_pos (by show 6<=_;omega)];rfl)⟩
   obtain ⟨d,e1⟩:=e1
   have m0:=jf1 (xs.getD 11 0) (show (6:Int)≠0 by decide)
   have m1:=jf0 (xs.getD 11 0) (show (0:Int) < 6 by decide)
   have em:=zwc (ix 11 R4 (by decide) rfl) (g:=bC (.int 6)) (j:=6) (e:=om) rfl (by decide)
   have hn:(xs.getD 11 0 % 6).toNat < L.length:=by show _ < 6;omega
   have e2:bBin zqd (zqb zxb (zqa (bC .non) (zqa (bC (.int 7)) (zqa (bVar 3) (zqa (zqb zxb (zqa (bVar 4) (aNil))) (zqa (bC (.bl true)) (zqa (bC .emp) (aNil)))))))) (bBin zqr (bBin zqd (bVar 2) (bC (.int 11))) (bC (.int 6))) R4=.ok (L[(xs.getD 11 0 % 6).toNat],dv L[(xs.getD 11 0 % 6).toNat],R4):=by
    refine zxn e1 em ?_
    show (atI L (xs.getD 11 0 % 6)).map (λ z=>(z,dv z))=_
    rw [zwg m0 (jc6 hn)]
    rfl
   have nt:∀ y∈L,Nt y:=λ y hy=>by
    simp only [L,ja9,jh8,or_false] at hy
    rcases hy with rfl | rfl | rfl | rfl | rfl | rfl <;> exact ⟨rfl,rfl⟩
   have th:Th L[(xs.getD 11 0 % 6).toNat]:=.inr (nt _ (je3 hn))
   generalize L[(xs.getD 11 0 % 6).toNat]=y at e2 th
   rcases qi6 (d:=dv y) (vs:=[3,4,2]) (ρ:=R4) with cl | cl
   ·exact ⟨_,_,y,dv y,th,(if_t tt).trans (setF e2 (show 4 < 8 by decide) (by rw [cl];rfl))⟩
   ·exact ⟨some (il xs,0),some (bx a b c,0),y,dv y,th,(if_t tt).trans (setF e2 (show 4 < 8 by decide) (by rw [cl];rfl))⟩
 obtain ⟨t2,t3,y,d4,th,v5⟩:=v5
 obtain ⟨t4,t5,t6,t7,v6⟩:=qgy (s0:=some (.scr ns,om)) (s1:=some (.int (k:Int),om)) (s2:=t2) (s3:=t3) (s5:=s5) (s6:=s6) (s7:=s7) (d4:=d4) th
 exact ⟨_,_,_,_,_,_,(zqe v0).trans ((zqe v1).trans ((zqe v2).trans ((zqe v3).trans ((zqe v4).trans ((zqe v5).trans v6)))))⟩
theorem law_true:∀ ns:List Int,ns.length<=63->∃ d z,F17 [.scr ns]=.ok (.bl true,d,z):=by
 intro ns hns
 let R (s1 s2 s3 s4 s5 s6 s7:QQ.Slot):Rho:=[some (.scr ns,om),s1,s2,s3,s4,s5,s6,s7]
 have hF:F17=mkFn false 1 7 b17:=rfl
 rw [hF,qjf]
 let R0:Rho:=R none none none none none none none
 let N:Int:=ns.length
 have hm:∃ m:Nat,m<=40/\(zqa (zqb qal (zqa (bC (.int 1)) (zqa (zqb zbo (zqa (zqb zqy (zqa (bVar 0) (aNil))) (zqa (bC (.int 40)) (aNil)))) (aNil)))) (aNil)) R0=.ok ([(.int (m:Int),om)],R0):=by
  refine ⟨(if (if (40:Int) < N then 40 else N) > 1 then (if (40:Int) < N then 40 else N) else 1).toNat,?_,?_⟩
  ·split <;> split <;> omega
  ·have e:((((if (if (40:Int) < N then 40 else N) > 1 then (if (40:Int) < N then 40 else N) else 1).toNat:Nat)):Int)=(if (if (40:Int) < N then 40 else N) > 1 then (if (40:Int) < N then 40 else N) else 1):=by
    split <;> split <;> omega
   rw [e]
   rfl
 obtain ⟨m,hm15,em⟩:=hm
 obtain ⟨ρ1,l1,r1,r2,r3,r4,r5,r6,r7,rfl⟩:=zhm (i:=1) (body:=LK) (en:=zzd) (ρ:=R0) (lo:=0) (hi:=(m:Int)) (λ _ ρ=>∃ s1 s2 s3 s4 s5 s6 s7,ρ=R s1 s2 s3 s4 s5 s6 s7) em (zbx (by omega) (by omega)) ⟨_,_,_,_,_,_,_,rfl⟩ (by
  rintro k ρ hk ⟨s1,s2,s3,s4,s5,s6,s7,rfl⟩
  obtain ⟨t2,t3,t4,t5,t6,t7,e⟩:=qnm (ns:=ns) (k:=k) (s2:=s2) (s3:=s3) (s4:=s4) (s5:=s5) (s6:=s6) (s7:=s7)
  refine ⟨show 1 < 8 by decide,_,?_,some (.int (k:Int),om),t2,t3,t4,t5,t6,t7,rfl⟩
  rw [Int.zero_add]
  exact e)
 exact ⟨_,_,zwv rfl ((zqe l1).trans rfl)⟩
open PySem PySem.Spec PyProof.Rows L2 QQ
section
variable {P:va8}{w:vb7}{K:Frag}{mg:Str->Option va0}
theorem c0:FnScope S0.N ["thing"] (zqc t0):={}
theorem c1:FnScope S1.N ["thing"] (zqc t1):={}
theorem c2:FnScope S2.N ["box"] (zqc t2):={}
theorem c3:FnScope S3.N ["text","most_figures"] (zqc t3):={}
theorem c4:FnScope S4.N ["numbers","parting"] (zqc t4):={}
theorem c5:FnScope S5.N ["text","parting"] (zqc t5):={}
theorem c6:FnScope S6.N ["thing"] (zqc t6):={}
theorem c7:FnScope S7.N ["box"] (zqc t7):={}
theorem c8:FnScope S8.N ["text"] (zqc t8):={}
theorem c9:FnScope S9.N ["script","k"] (zqc t9):={}
theorem c10:FnScope S10.N ["cell","many"] (zqc t10):={}
theorem c11:FnScope S11.N ["found","due"] (zqc t11):={}
theorem c12:FnScope S12.N ["word"] (zqc t12):={}
theorem c13:FnScope S13.N ["text","xs"] (zqc t13):={}
theorem c14:FnScope S14.N ["number"] (zqc t14):={}
theorem c15:FnScope S15.N ["text"] (zqc t15):={}
theorem c16:FnScope S16.N ["thing","read"] (zqc t16):={}
theorem c17:FnScope S17.N ["script"] (zqc t17):={}
theorem all_ok {fa:Addr} (G:Given dfs [0,1,9,50,51] K mg) (hm:mg "law" = some (.ref fa)):
  ∃ fd:vc5,(∀ (s:va1) (u:va0),BindsTo s fd ⟨[u],[]⟩ [("script",u)])/\∀ base:Heap,FnOk P w K mg base (CXr P w K) 6 fa fd ["script"] (spF K false 1 F17):=by
 have hb:=G.bn
 have gx:=G.gx
 obtain ⟨a0,d0,m0,f0⟩:=G.df 0 _ _ rfl
 obtain ⟨a1,d1,m1,f1⟩:=G.df 1 _ _ rfl
 obtain ⟨a2,d2,m2,f2⟩:=G.df 2 _ _ rfl
 obtain ⟨a3,d3,m3,f3⟩:=G.df 3 _ _ rfl
 obtain ⟨a4,d4,m4,f4⟩:=G.df 4 _ _ rfl
 obtain ⟨a5,d5,m5,f5⟩:=G.df 5 _ _ rfl
 obtain ⟨a6,d6,m6,f6⟩:=G.df 6 _ _ rfl
 obtain ⟨a7,d7,m7,f7⟩:=G.df 7 _ _ rfl
 obtain ⟨a8,d8,m8,f8⟩:=G.df 8 _ _ rfl
 obtain ⟨a9,d9,m9,f9⟩:=G.df 9 _ _ rfl
 obtain ⟨a10,d10,m10,f10⟩:=G.df 10 _ _ rfl
 obtain ⟨a11,d11,m11,f11⟩:=G.df 11 _ _ rfl
 obtain ⟨a12,d12,m12,f12⟩:=G.df 12 _ _ rfl
 obtain ⟨a13,d13,m13,f13⟩:=G.df 13 _ _ rfl
 obtain ⟨a14,d14,m14,f14⟩:=G.df 14 _ _ rfl
 obtain ⟨a15,d15,m15,f15⟩:=G.df 15 _ _ rfl
 obtain ⟨a16,d16,m16,f16⟩:=G.df 16 _ _ rfl
 obtain ⟨a17,d17,m17,f17⟩:=G.df 17 _ _ rfl
 cases hm.symm.trans m17
 have B0:=f0.binds (ps:=["thing"]) λ _ _ _ _ _ _ us hl=>by obtain ⟨_,rfl⟩:=len1 hl;rfl
 have B1:=f1.binds (ps:=["thing"]) λ _ _ _ _ _ _ us hl=>by obtain ⟨_,rfl⟩:=len1 hl;rfl
 have B2:=f2.binds (ps:=["box"]) λ _ _ _ _ _ _ us hl=>by obtain ⟨_,rfl⟩:=len1 hl;rfl
 have B3:=f3.binds (ps:=["text","most_figures"]) λ _ _ _ _ _ _ us hl=>by obtain ⟨_,_,rfl⟩:=len2 hl;rfl
 have B4:=f4.binds (ps:=["numbers","parting"]) λ _ _ _ _ _ _ us hl=>by obtain ⟨_,_,rfl⟩:=len2 hl;rfl
 have B5:=f5.binds (ps:=["text","parting"]) λ _ _ _ _ _ _ us hl=>by obtain ⟨_,_,rfl⟩:=len2 hl;rfl
 have B6:=f6.binds (ps:=["thing"]) λ _ _ _ _ _ _ us hl=>by obtain ⟨_,rfl⟩:=len1 hl;rfl
 have B7:=f7.binds (ps:=["box"]) λ _ _ _ _ _ _ us hl=>by obtain ⟨_,rfl⟩:=len1 hl;rfl
 have B8:=f8.binds (ps:=["text"]) λ _ _ _ _ _ _ us hl=>by obtain ⟨_,rfl⟩:=len1 hl;rfl
 have B9:=f9.binds (ps:=["script","k"]) λ _ _ _ _ _ _ us hl=>by obtain ⟨_,_,rfl⟩:=len2 hl;rfl
 have B10:=f10.binds (ps:=["cell","many"]) λ _ _ _ _ _ _ us hl=>by obtain ⟨_,_,rfl⟩:=len2 hl;rfl
 have B11:=f11.binds (ps:=["found","due"]) λ _ _ _ _ _ _ us hl=>by obtain ⟨_,_,rfl⟩:=len2 hl;rfl
 have B12:=f12.binds (ps:=["word"]) λ _ _ _ _ _ _ us hl=>by obtain ⟨_,rfl⟩:=len1 hl;rfl
 have B13:=f13.binds (ps:=["text","xs"]) λ _ _ _ _ _ _ us hl=>by obtain ⟨_,_,rfl⟩:=len2 hl;rfl
 have B14:=f14.binds (ps:=["number"]) λ _ _ _ _ _ _ us hl=>by obtain ⟨_,rfl⟩:=len1 hl;rfl
 have B15:=f15.binds (ps:=["text"]) λ _ _ _ _ _ _ us hl=>by obtain ⟨_,rfl⟩:=len1 hl;rfl
 have B16:=f16.binds (ps:=["thing","read"]) λ _ _ _ _ _ _ us hl=>by obtain ⟨_,_,rfl⟩:=len2 hl;rfl
 refine ⟨d17,?_,λ base=>?_⟩
 ·obtain ⟨_,_,_,_,_,_,_,_,_,rfl,_,_⟩:=f17.ex
  exact λ s v=>.of_eq rfl
 have o0:FnOk P w K mg base (CXr P w K) 1 a0 d0 ["thing"] (spF K false 1 F0):=fnb S0 f0 c0 gx (zxl hb) h0
 have o1:FnOk P w K mg base (CXr P w K) 2 a1 d1 ["thing"] (spF K false 1 F1):=fnb S1 f1 c1 gx (gcs (zxl hb) m0 f0 B0 o0) h1
 have o2:FnOk P w K mg base (CXr P w K) 3 a2 d2 ["box"] (spF K false 1 F2):=fnb S2 f2 c2 gx (gcs (zxl hb) m1 f1 B1 o1) h2
 have o3:FnOk P w K mg base (CXr P w K) 1 a3 d3 ["text","most_figures"] (spF K false 2 F3):=fnb S3 f3 c3 gx (zxl hb) h3
 have o4:FnOk P w K mg base (CXr P w K) 1 a4 d4 ["numbers","parting"] (spF K false 2 F4):=fnb S4 f4 c4 gx (zxl hb) h4
 have o5:FnOk P w K mg base (CXr P w K) 2 a5 d5 ["text","parting"] (spF K false 2 F5):=fnb S5 f5 c5 gx (gcs (zxl hb) m3 f3 B3 o3) h5
 have o6:FnOk P w K mg base (CXr P w K) 1 a6 d6 ["thing"] (spF K false 1 F6):=fnb S6 f6 c6 gx (zxl hb) h6
 have o7:FnOk P w K mg base (CXr P w K) 4 a7 d7 ["box"] (spF K false 1 F7):=fnb S7 f7 c7 gx (gcs (gcs (zxl hb) m4 f4 B4 o4) m2 f2 B2 o2) h7
 have o8:FnOk P w K mg base (CXr P w K) 3 a8 d8 ["text"] (spF K false 1 F8):=fnb S8 f8 c8 gx (gcs (gcs (gcs (zxl hb) m6 f6 B6 o6) m5 f5 B5 o5) m1 f1 B1 o1) h8
 have o9:FnOk P w K mg base (CXr P w K) 1 a9 d9 ["script","k"] (spF K false 2 F9):=fnb S9 f9 c9 gx (zxl hb) h9
 have o10:FnOk P w K mg base (CXr P w K) 1 a10 d10 ["cell","many"] (spF K false 2 F10):=fnb S10 f10 c10 gx (zxl hb) h10
 have o11r0:FnOk P w K mg base (CXr P w K) 0 a11 d11 ["found","due"] (spF K false 2 qjp):=qnf rfl
 have o11r1:FnOk P w K mg base (CXr P w K) 1 a11 d11 ["found","due"] (spF K false 2 qd2):=fnb qjo f11 c11 gx (zwf (zxl hb) (by decide +kernel) (λ _ _=>rfl) m11 f11 B11 rfl o11r0) qnc
 have o11r2:FnOk P w K mg base (CXr P w K) 2 a11 d11 ["found","due"] (spF K false 2 qd1):=fnb qjn f11 c11 gx (zwf (zxl hb) (by decide +kernel) zxr m11 f11 B11 rfl o11r1) qnb
 have o11r3:FnOk P w K mg base (CXr P w K) 3 a11 d11 ["found","due"] (spF K false 2 qd0):=fnb qjm f11 c11 gx (zwf (zxl hb) (by decide +kernel) zxr m11 f11 B11 rfl o11r2) qna
 have o11r4:FnOk P w K mg base (CXr P w K) 4 a11 d11 ["found","due"] (spF K false 2 qfo):=fnb qfn f11 c11 gx (zwf (zxl hb) (by decide +kernel) zxr m11 f11 B11 rfl o11r3) qm9
 have o11:=o11r4
 have o12:FnOk P w K mg base (CXr P w K) 1 a12 d12 ["word"] (spF K false 1 F12):=fnb S12 f12 c12 gx (zxl hb) h12
 have o13:FnOk P w K mg base (CXr P w K) 1 a13 d13 ["text","xs"] (spF K false 2 F13):=fnb S13 f13 c13 gx (zxl hb) h13
 have o14:FnOk P w K mg base (CXr P w K) 1 a14 d14 ["number"] (spF K false 1 F14):=fnb S14 f14 c14 gx (zxl hb) h14
 have o15:FnOk P w K mg base (CXr P w K) 2 a15 d15 ["text"] (spF K false 1 F15):=fnb S15 f15 c15 gx (gcs (zxl hb) m12 f12 B12 o12) h15
 have o16:FnOk P w K mg base (CXr P w K) 5 a16 d16 ["thing","read"] (spF K false 2 F16):=fnb S16 f16 c16 gx (gcs (gcs (zxl hb) m8 f8 B8 o8) m7 f7 B7 o7) h16
 exact fnb S17 f17 c17 gx (zwf (zwf (zwf (zwf (zwf (zwf (zwf (zxl hb) (by decide +kernel) zxr m16 f16 B16 rfl (o16.mono (by decide))) (by decide +kernel) zxr m15 f15 B15 rfl (o15.mono (by decide))) (by decide +kernel) zxr m14 f14 B14 rfl (o14.mono (by decide))) (by decide +kernel) zxr m13 f13 B13 rfl (o13.mono (by decide))) (by decide +kernel) zxr m11 f11 B11 rfl (o11.mono (by decide))) (by decide +kernel) zxr m10 f10 B10 rfl (o10.mono (by decide))) (by decide +kernel) zxr m9 f9 B9 rfl (o9.mono (by decide))) h17
end
end K56
open PySem PySem.W PyProof.Rows
set_option maxRecDepth 100000 in
set_option maxHeartbeats 0 in
theorem PySem.Challenge.cw_cornerpiles_k56_boxes_written_and_read_holds : PySem.Challenge.rw_cornerpiles_k56_boxes_written_and_read.Holds := by
 refine QQ.holds_by (l:=PySem.Challenge.rw_cornerpiles_k56_boxes_written_and_read) (q:=K56.view) (loose:=K56.loose) (N:=20000) (k:=6) (n:=63) (ds:=K56.dfs) (xc:=[0,1,9,50,51]) (F:=K56.F17) (x := "script") ?said rfl rfl (λ _=>rfl) K56.run (by rfl) (by rfl) (by rfl) (by rfl) (by decide +kernel) ⟨rfl,rfl,rfl,rfl,rfl,by decide +kernel⟩ ?hw rfl (by decide) rfl ⟨rfl,by decide,by decide,rfl⟩ (λ _ _ _ _ G hm=>K56.all_ok G hm) (λ _ _ _ ns hl hO hS=>QQ.sp_yes hO hS (K56.law_true ns hl))
 case said=>decide +kernel
 case hw=>w_witness2
