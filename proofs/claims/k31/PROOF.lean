import PyProof.Rows.All
import Wide.All
import OpenK.AllK
import Wide.FinOn
import Lean
import PyProof.EqAt
import PyProof.EqKinds
import PyProof.TupleCall
import PySem.Challenge.RW_cornerpiles_k31_whole_numbers_and_piles
open PySem renaming wpAny_bind->Ak,Value->Ad,wpAny_pure->Az,Shared->Ai,sizeLine->A0,starEach->AA,Program->A9,wpAny->An,model->Aw,compareOp->Cn,World->A7,wpAny_newObj_type->Fg,PyData->Bq,Around->Bs,cellsFrom->Dh,wpAny_truthy_bool->Hu,wpAny_dictEntries->Ht,mainGlobals->Eg,FuncData->Dg,sysModules->Ex,assignEach->Ew,NameKind->Dn,Scope->Br,DictEntry->Ee,wpAny_callSpecial?_slot->Lp,wpAny_typeNameOfWhole_valiter->NI,wpAny_typeNameOfWhole_keyiter->NH,wpAny_call_entry->Jg,wpAny_passesOwn->Jf,backTo->CH,mem_of_lookup->Lm,wpAny_typeNameOf_valiter->NC,wpAny_typeNameOf_keyiter->NB,wpAny_holding->Jd,wpAny_dictEpoch->Ke,tupleKind->FH,binaryOp->EE,wpAny_mono->Hr,wpAny_fieldsOf->Kd,bootBuiltins->Jc,behindInMarks->Kb,sliceBounds->Jb,wpAny_Call_Name_kw->N6,tupleKind_room_in1->N5,rawInt->Ed,foldedSetIterable->N3,Operator->Ho,wpAny_isInstance->N1,cLine->Df,wpAny_specialOf->N0,wpAny_notOrdered_dict->Qt,wpAny_isOneOf_valiter->Qs,wpAny_isOneOf_keyiter->Qr,wpAny_execs_nil->Nz,letOwnedTupleGo->Ny,entryOfKey->JX,wpAny_setField->Nw,firstArgMember->Nv,Builtin->vj9,wpAny_attempt->Nq,pyNext->FG,intItems->IZ,Paired->FF,relabel->Il,codeAny->Ik,noFill_tuple_add->Ql,CmpOp->Eu,wpAny_field->Nm,valueAt->IY,seqIndex_of->Nl,pushCells_keeps->Qk,importedModules->Qj,getItem->IX,callerA->IW,assign->Hl,PassesOwn->Li,IsRangeIter->Nk,newFunctionEnv->Qh
open PySem.Heap renaming get?_push_of_some->Ci,lt_size->Bc,get?_push_size->C0,get?_update_self->Lo,get?_update_other->N8,SameBut->JY,size_push->Nt
open PyProof.Rows renaming callWith_type1->Im,IntsAre->DG,AllBare->Hn,slot_tuple_getitem->Uw,envOfC->Hm
open PySem.W renaming kia_one->FI,boot_heap->Ef,keepIn->Je,fnOf->JZ,findIn->Lk,kitOne->Nu,methodObj->Qo,boot_heap->Qn,instObj->Qi,lookIn->Qg,codeIn->Qf
open Ne renaming symm->Cb
open PySem.PyData renaming canLayAll0->Hs,eqv->EF,canLay0->Kc,depthAll->Ll,eqvAll->Nn
open PySem.Builtin.Dict_items renaming ownsTuple->Lq
open PySem.F renaming slot_dict_valueiterator_next->NJ,slot_dict_keyiterator_next->NG,args_tuple_add_2->Qx,entry_tuple_add->Qw,slot_tuple_add->Qu,args_dict_valueiterator_next_1->Ux,entry_dict_valueiterator_next->Uv,args_dict_keyiterator_next_1->Uu,entry_dict_keyiterator_next->Ut
open PySem.Builtin.List renaming listExtendWith->NF,listTooLong->N9
open PySem.Builtin.Dict renaming showsAll->Ln,entriesForEmpty->Us
open PySem.Builtin.Slice renaming slicePlaces->ND,sliceAdjust->Qy,sliceApplied->Uq
open Classical renaming choose->Kf,choose_spec->Qq
open PySem.Builtin.Tuple renaming tupleExact->NA,tupleHashOf->Qz
open False renaming elim->Hq
open PySem.Heap.SameBut renaming update->N7
open PySem.Str renaming ofString->Ka
open PySem.Obj renaming data_mapFields->N4,mapSeq->Ja,mapFields->Lj
open PySem.MeetsSeq3 renaming plain_eq_loop->Np
open PySem.Calls renaming spliced_cons->Qp,spliced_nil->Qm,Name_function_global->Ur
open List renaming getD_eq_getElem?_getD->AL,mem_cons_of_mem->AH,mem_cons_self->AF,length_map->AG,replicate->AB,range->Aq,mem_append_right->BJ,length_cons->Ba,getElem?_eq_getElem->Cd,getElem?_eq_some_iff->jb1,mem_append_left->BP,map_cons->AR,length_append->BI,all_eq_true->jb5,getElem?_append_left->CF,mem_singleton->jb7,getElem?_map->BW,size_toArray->BZ,mem_cons->jc3,mem_range->jc4,getElem?_set_ne->CV,getElem?_replicate->DP,getElem?_set_self->DU,length_replicate->El,map_map->Cu,getElem?_append_right->FZ,mem_filter->jd3,mem_map->jd4,getElem?_eq_none->E1,filter_cons->Dw,mem_append->jd7,length_range->DT,length_set->DN,length_singleton->GL,filter_eq_self->je3,lookup_cons->EO,nil_append->Ez,map_append->Ey,replicate_succ->GK,getElem?_cons_succ->Iu,getElem?_range->HB,length_take->FY,cons_append->FX,length_eq_zero_iff->jf6,flatMap_cons->GI,pairwise_cons->jf8,range_succ->FW,getElem?_take_of_lt->K0,not_mem_nil->HA,map_congr_left->J1,all_cons->FV,length_nil->Hz,map_nil->FT,zip_cons_cons->Ky,length_filter_le->Mn,append_nil->J0,of_mem_zip->Jz,flatten_cons->Kx,length_zip->Jy,filter_congr->Kw,getElem_of_mem->Ml,mem_flatMap->Ku,filter_eq_nil_iff->ji7,nodup_cons->ji9,find?_cons->Kt,drop_eq_getElem_cons->SJ,getElem?_eq_none_iff->jj4,getLast?_eq_getElem?->SI,getElem_mem->Mh,ext_getElem->Mg,filterMap_cons->OR,flatMap_append->OQ,sum_cons->Kr,take_of_length_le->SH,append_assoc->OO,reverse_cons->ON,length_drop->OM,mem_of_getElem?->SG,pairwise_append->SF,any_cons->Md,take_succ_cons->SE,filter_map->OJ,range'->Ko,getElem?_concat_length->YT,mem_map_of_mem->SD,set_cons_succ->SA,zipWith->Mc,take_zero->OG,getElem?_zip_eq_some->YS,getLast?_nil->Sv,pairwise_map->Su,nodup_append->Ss,filter_cons_of_neg->YR,filter_cons_of_pos->YQ,getLast?_singleton->YO,drop_eq_nil_of_le->YN,range_succ_eq_map->YM,getElem?_reverse->YK,range_zero->Sr,all_nil->OE,pairwise_flatMap->YJ,getLast?_append->YI,getElem?_append->YH,replicate_zero->YG,length_reverse->YF,filter_flatMap->YE,mem_filterMap->jp5,set_cons_zero->YD,take_nil->Sm,findIdx?_cons->YB,filter_append->YA,ext_getElem?->Y9,mem_range'_1->jq4,flatten_nil->Y5,range'_succ->Y3,append_inj'->Y2,foldl_cons->Y1,forIn_cons->Y0,all_append->Yy,foldl->Si,drop_nil->Yv,set_nil->Yq,getD->Sh,sum_nil->Yn
open Bool renaming and_eq_true->AS,false_ne_true->Ck,eq_iff_iff->DO,or_eq_true->EN,false_eq_true->GJ,and_false->Jx,and_true->Kq,false_xor->Me,not_eq_true'->Sw,false_or->OF,and_eq_true_iff->jo9,or_false->Sn,eq_false_iff->Y8,true_xor->Yu,true_and->Yt,true_or->Yp
open Nat renaming le_refl->A5,lt_of_lt_of_le->Cj,le_trans->Cv,ne_of_lt->C7,lt_irrefl->DS,le_of_succ_le->Iq,pow_le_pow_right->Kz,ne_of_gt->FU,zero_le->Fj,mul_le_mul_right->Mm,pow_le_pow_left->Mj,lt_succ_self->Kv,zero_add->Jw,add_sub_cancel->OP,le_of_lt->Kp,le_add_right->OL,min_le_left->OK,min_eq_left->OI,sub_zero->Mb,lt_succ_of_lt->Sz,le_succ->Ma,lt_of_succ_lt_succ->YL,not_lt_zero->Sq,sub_self->OD,mul_comm->Sl,pow_succ->Sj,succ_ne_zero->Y6,succ_le_succ->Y4,mul_le_mul->Yx,beq->LZ,succ_mul->Yr,lt_trans->Yo,min_self->Yl,add_mul->Yk,one_mul->Yj,ble->Sg
open Option renaming map_eq_some_iff->jc2,map_some->Mf,isSome_map->Sy,isSome_some->YC,getD_none->Y7,some_or->Yw,map->Yh
open Int renaming toNat_natCast->CD,le_refl->D5,zero_add->EM,le_trans->Fl,emod_lt_of_pos->Mi,emod_nonneg->Ks,natCast_mul->OH,natCast_add->So,add_zero->Sk,le_antisymm->Yz,le_of_eq->Ym,add_mul->Yi
open Array renaming length_toList->Ir,getElem?_eq_none->Mo,getElem?_toList->OS,toList->Ys
set_option Elab.async false
set_option linter.all false
set_option maxRecDepth 100000
set_option autoImplicit false
set_option maxHeartbeats 2000000
namespace L2
open PySem PySem.Spec PyProof.Rows
def KU (s:Stmt):Arguments:=match s with
 | .FunctionDef _ a _ _ _ _ _ _ _ _=>a
 | _=>{ posonlyargs:=[],args:=[],vararg:=none,kwonlyargs:=[],kw_defaults:=[],kwarg:=none,defaults:=[] }
def Bm (s:Stmt):List Stmt:=match s with
 | .FunctionDef _ _ b _ _ _ _ _ _ _=>b
 | _=>[]
def A4 (s:Stmt):Br:=match s with
 | .FunctionDef _ _ _ _ _ _ sc _ _ _=>sc
 | _=>{ kind:=.function,names:=[],isGenerator:=false,isCoroutine:=false }
end L2
namespace QQ
open PySem PySem.Spec PySem.W PySem.Calls PyProof.Rows L2
abbrev Frag:=PySem.W.Frag
def zky:List Str:=["len","isinstance","all","max","min","tuple","list","range","int","bool","str","dict","sum","enumerate","zip","reversed","set","ValueError","sorted","abs"]
def JS (tb:String->Option vj9) (p:A9) (w:A7) (n₀:Nat) (ann:Option Ad):Nat->SharedT->Thread->Option SharedT
 | 0,_,_=>none
 | n + 1,s,t=>match through t with
  | true=>some s
  | false=>match stepOk n₀ ann t with
   | false=>none
   | true=>match stepT (denote tb) p w s t with
    | some (s',t')=>JS tb p w n₀ ann n s' t'
    | none=>none
def Yg:List Obj->Nat->BT->BT
 | [],_,t=>t
 | o::r,n,t=>Yg r (n + 1) (t.ins n o)
noncomputable def bootT (P:Params):BT:=Yg (Ef P).objs.toList 0 .nil
noncomputable def bootS (P:Params) (os:OsState):SharedT:=⟨bootT P,(Ef P).objs.size,(Ef P).life,#[],boot_drawn,boot_toks,os⟩
def RK {α:Type} (p q:A9) (loose:List Str) (Xt:Ai->Bool) (Yf:Ai->α) (H:Heap) (s:Ai):=
 ((staticsOk (Qj p.main.body) H s.heap && namesBound p s.heap && gensDone s && laidKept H s.heap),openSeen q loose (Qj p.main.body) Xt true s,Yf s)
def LY (h:Heap):Frag:=(Aq h.objs.size).filterMap λ a=>(h.get? a).map λ o=>(a,o)
structure DefSeen where
 name:Str
 qual:Str
 params:Arguments
 body:FuncBody
 scope:Br
 globals:Addr
 closure:List (Str×Addr)
 defaults:Ad
 builtins:Addr
 code:Bool
def RJ (K:Frag) (x:Str):Option DefSeen:=match nsIn K Eg x with
 | some (some (.ref g))=>(match K.lookup g with
  | some ⟨_,_,.func fd,_⟩=>some ⟨fd.name,fd.qualname,fd.params,fd.body,fd.scope,fd.globals,fd.closure,fd.defaults,fd.builtins,codeIn K fd.code x⟩
  | _=>none)
 | _=>none
def Rm (x:Str) (st:Stmt):DefSeen:=⟨x,x,KU st,.stmts (Bm st),A4 st,mainNs,[],.none,0,true⟩
def KH (ds:List (Str×Stmt)) (xc:List Nat) (K:Frag):List (Option DefSeen)×List (Option (Option Ad))×Bool:=
 (ds.map λ d=>RJ K d.1,zky.map λ x=>nsIn K Eg x,xc.isEmpty)
def LL (ds:List (Str×Stmt)):List (Option DefSeen)×List (Option (Option Ad))×Bool:=(ds.map λ d=>some (Rm d.1 d.2),zky.map λ _=>some none,true)
end QQ
namespace K31
open PySem PySem.Spec PyProof.Rows L2 QQ
def BL (i:Nat):Stmt:=PySem.Challenge.pw_cornerpiles_k31_whole_numbers_and_piles.main.body.getD i (.Pass ⟨0,0,0,0⟩)
abbrev t0:Stmt:=BL 7
abbrev t1:Stmt:=BL 8
abbrev t2:Stmt:=BL 9
abbrev t3:Stmt:=BL 10
abbrev t4:Stmt:=BL 11
abbrev t5:Stmt:=BL 12
abbrev t6:Stmt:=BL 13
abbrev t7:Stmt:=BL 14
abbrev t8:Stmt:=BL 16
abbrev t9:Stmt:=BL 17
abbrev Ol:Stmt:=BL 18
abbrev Oj:Stmt:=BL 20
abbrev Oi:Stmt:=BL 21
abbrev Oh:Stmt:=BL 22
abbrev Og:Stmt:=BL 23
abbrev Of:Stmt:=BL 24
abbrev Oe:Stmt:=BL 25
abbrev Od:Stmt:=BL 26
abbrev Oc:Stmt:=BL 28
abbrev Ob:Stmt:=BL 29
abbrev Oa:Stmt:=BL 30
abbrev NZ:Stmt:=BL 31
abbrev NY:Stmt:=BL 32
abbrev NX:Stmt:=BL 33
abbrev NW:Stmt:=BL 35
abbrev NV:Stmt:=BL 36
abbrev NU:Stmt:=BL 37
abbrev NT:Stmt:=BL 38
abbrev NS:Stmt:=BL 40
abbrev NR:Stmt:=BL 41
abbrev NQ:Stmt:=BL 42
abbrev NP:Stmt:=BL 43
abbrev NO:Stmt:=BL 44
abbrev NN:Stmt:=BL 45
abbrev NM:Stmt:=BL 46
abbrev NL:Stmt:=BL 47
abbrev Ly:Stmt:=BL 48
def dfs:List (Str×Stmt):=[(("is_whole_number" : Str),t0),(("is_box" : Str),t1),(("must_be_box" : Str),t2),(("is_row_of_heights" : Str),t3),(("never_rises" : Str),t4),(("column_of" : Str),t5),(("is_pile" : Str),t6),(("must_be_pile" : Str),t7),(("must_be_two_piles" : Str),t8),(("places_of" : Str),t9),(("lies_below" : Str),Ol),(("rows_of_heights" : Str),Oj),(("added" : Str),Oi),(("sums_of_lower_rows" : Str),Oh),(("lies_between" : Str),Og),(("table_of_row" : Str),Of),(("tables_between" : Str),Oe),(("tally_between" : Str),Od),(("how_many_between" : Str),Oc),(("rows_behind" : Str),Ob),(("row_of_number" : Str),Oa),(("nth_between" : Str),NZ),(("how_many_ahead_of" : Str),NY),(("number_between" : Str),NX),(("how_many_texts" : Str),NW),(("row_without_first" : Str),NV),(("determinant" : Str),NU),(("count_by_ways" : Str),NT),(("_law_cell_at" : Str),NS),(("_law_mixed" : Str),NR),(("_law_box" : Str),NQ),(("_law_pile" : Str),NP),(("_law_flat" : Str),NO),(("_law_mixture" : Str),NN),(("_law_is_pile" : Str),NM),(("_law_parted" : Str),NL),(("law" : Str),Ly)]
def view:A9:={ PySem.Challenge.pw_cornerpiles_k31_whole_numbers_and_piles with main:={ PySem.Challenge.pw_cornerpiles_k31_whole_numbers_and_piles.main with body:=[Ly] } }
def loose:List Str:=(PySem.Challenge.pw_cornerpiles_k31_whole_numbers_and_piles.main.scope.names.map λ x=>x.1).filter λ x=>!(x == ("law" : Str))
def run:∀ (w:PySem.World) (os:PySem.OsState),(JS PySem.treeTable PySem.Challenge.rw_cornerpiles_k31_whole_numbers_and_piles.prog w (Qn w.params).objs.size ((Qn w.params).nsMap Eg "__annotations__") 20000 (bootS w.params os) (PySem.W.topStub PySem.Challenge.rw_cornerpiles_k31_whole_numbers_and_piles.prog)).map (λ s=>RK PySem.Challenge.rw_cornerpiles_k31_whole_numbers_and_piles.prog view loose (λ s=>PySem.W.xlAt view [] s && PySem.W.recOk (PySem.W.RowW.records PySem.Challenge.rw_cornerpiles_k31_whole_numbers_and_piles.row.toRowW) s) (λ s=>KH dfs [] (LY s.heap)) (Qn w.params) s.abs)=some (true,PySem.W.openGood view loose,LL dfs):=λ w os=>by kernel_rfl
end K31
namespace PySem.SeqAt
open AutoSeq1 (wpAny_loadPart')
open MeetsSeq MeetsSeq2 MeetsSeq3 SeqRoads2
def LtAt (A:Bs) (s:Ai) (y x:Ad) (b:Bool):Prop:=
 ∀ (prog:A9) (w:A7) (E:Ad->Ai->Prop) (Q:Ad->Ai->Prop),Q (.bool b) s->An (Aw prog w) A (richCompare .Lt y x) Q E s
def C6 (e l:Nat->Bool) (fin:Bool):List Nat->Bool
 | []=>fin
 | i::r=>if e i=true then C6 e l fin r else l i
theorem vZ (l b:Addr) (items items2:Array Ad) (n n2:Nat) (dd dd2:Option Addr) (sl sl2:Array (Option Ad)) (e lt:Nat->Bool) (k:Nat):
  ∀ i:Nat,i<=min items.size items2.size->min items.size items2.size - i=k->Meets (vj9.«list.__eq__.loop» ⟨[.ref l,.ref b,Ed i,Ed 0],[]⟩)
   (λ A R s=>s.heap.get? l=some { cls:=.type "list",dict:=dd,data:=.seq items n,slots:=sl }/\s.heap.get? b=some { cls:=.type "list",dict:=dd2,data:=.seq items2 n2,slots:=sl2 } /\
    (∀ j (h1:j < items.size) (h2:j < items2.size),EqAt A.in1 s items[j] items2[j] (e j)/\LtAt A.in1 s items[j] items2[j] (lt j)) /\
    R (.ok (.ret (.bool (C6 e lt (decide (items.size < items2.size)) ((Aq (min items.size items2.size)).drop i))))) s):=by
 induction k with
 | zero=>
  intro i hle hk prog w A R s h;obtain ⟨hp,g,d,tk,os⟩:=s;obtain ⟨hl,hb,he,h⟩:=h
  wp_walk using wpAny_loadPart' hl,wpAny_loadPart' hb
  have hd:(Aq (min items.size items2.size)).drop i=[]:=by simp;omega
  rw [hd] at h;have fin:R (.ok (.ret (.bool (decide (items.size < items2.size))))) ⟨hp,g,d,tk,os⟩:=h;by_cases h1:i < items.size
  ·have hi1:items[((i:Nat):Int).toNat]?=some items[i]:=by simp [h1]
   have hi2:items2[((i:Nat):Int).toNat]?=none:=by simp;omega
   rw [hi1,hi2]
   wp_walk using wpAny_loadPart' hl,wpAny_loadPart' hb
   exact fin
  ·have hi1:items[((i:Nat):Int).toNat]?=none:=by simp;omega
   rw [hi1]
   wp_walk using wpAny_loadPart' hl,wpAny_loadPart' hb
   exact fin
 | succ k ih=>
  intro i hle hk prog w A R s h;obtain ⟨hp,g,d,tk,os⟩:=s;obtain ⟨hl,hb,he,h⟩:=h
  wp_walk using wpAny_loadPart' hl,wpAny_loadPart' hb
  have hlt:i < items.size:=by omega
  have hlt2:i < items2.size:=by omega
  have hi1:items[((i:Nat):Int).toNat]?=some items[i]:=by simp [hlt]
  have hi2:items2[((i:Nat):Int).toNat]?=some items2[i]:=by simp [hlt2]
  have hd:(Aq (min items.size items2.size)).drop i=i::(Aq (min items.size items2.size)).drop (i + 1):=by
   rw [SJ (by rw [DT];omega),List.getElem_range]
  have hc:((i:Int) + 1)=((i + 1:Nat):Int):=by push_cast;rfl
  rw [hd] at h;rw [hi1,hi2];refine Ak ((he i hlt hlt2).1 prog w _ _ ?_);cases hb':e i with
  | true=>
   unfold C6 at h;rw [hb',if_pos rfl] at h
   wp_walk
   rw [hc];exact ⟨plainId_quiet Np _,codeAny_builtin entry_eq_loop (by
    rw [Around.under_plainId Np _];exact ih (i + 1) (by omega) (by omega) prog w A R _ ⟨hl,hb,he,h⟩)⟩
  | false=>
   unfold C6 at h;rw [hb',if_neg Ck] at h
   wp_walk using wpAny_loadPart' hl,wpAny_loadPart' hb
   rw [hi1,hi2];dsimp only;refine Ak ((he i hlt hlt2).2 prog w _ _ ?_)
   wp_walk
   exact h
def wq (l b:Addr) (items items2:Array Ad) (n n2:Nat) (dd dd2:Option Addr) (sl sl2:Array (Option Ad)) (e lt:Nat->Bool):
  Meets (vj9.«list.__lt__» ⟨[.ref l,.ref b],[]⟩)
   (λ A R s=>s.heap.get? l=some { cls:=.type "list",dict:=dd,data:=.seq items n,slots:=sl }/\s.heap.get? b=some { cls:=.type "list",dict:=dd2,data:=.seq items2 n2,slots:=sl2 } /\
    (∀ j (h1:j < items.size) (h2:j < items2.size),EqAt A.in1 s items[j] items2[j] (e j)/\LtAt A.in1 s items[j] items2[j] (lt j)) /\
    R (.ok (.ret (.bool (C6 e lt (decide (items.size < items2.size)) (Aq (min items.size items2.size)))))) s):=by
 intro prog w A R s h;obtain ⟨hp,g,d,tk,os⟩:=s;obtain ⟨hl,hb,he,h⟩:=h;have f3:=AutoSeq1.sub_list_list
 wp_walk using wpAny_loadPart' hl,wpAny_loadPart' hb
 exact ⟨plainId_quiet Np _,codeAny_builtin entry_eq_loop (by
  rw [Around.under_plainId Np _];exact vZ l b items items2 n n2 dd dd2 sl sl2 e lt _ 0 (Fj _) rfl prog w A R _ ⟨hl,hb,he,by simpa using h⟩)⟩
section
variable {A:Bs}{s:Ai}
def LtAt.lists {l b:Addr}{items items2:Array Ad}{e lt:Nat->Bool} (hl:s.heap.IsList l items) (hb:s.heap.IsList b items2) (hu:A.units < Df)
  (he:∀ j (h1:j < items.size) (h2:j < items2.size),EqAt A.in1 s items[j] items2[j] (e j)/\LtAt A.in1 s items[j] items2[j] (lt j)):LtAt A s (.ref l) (.ref b) (C6 e lt (decide (items.size < items2.size)) (Aq (min items.size items2.size))):=λ prog w E Q h=>by
 obtain ⟨⟨cls,dd,data,sl⟩,ho,hc,n,hd⟩:=id hl;obtain ⟨⟨cls2,dd2,data2,sl2⟩,ho2,hc2,n2,hd2⟩:=id hb;simp only at hc hd hc2 hd2;subst hc hd hc2 hd2;exact richCompare_meets_room (op:=.Lt) ⟨_,ho,rfl⟩ ⟨_,ho2,rfl⟩ F.slot_list_lt F.entry_list_lt (F.args_list_lt_2 _ _) (wq l b items items2 n n2 dd dd2 sl sl2 e lt)
  ⟨ho,ho2,he,show Value.bool _≠Value.notImplemented/\Q (.bool _) s from ⟨(λ x=>nomatch x),h⟩⟩ hu
end
end PySem.SeqAt
namespace L2
open PySem PySem.Spec PyProof.Rows
abbrev Av:=Sum Int Str
def Kh:Av->Ad->Bool
 | .inl k,v=>Value.isInt k v
 | .inr x,v=>Value.isStrOf x v
def Se (w:A7):Av->Int
 | .inl k=>hashInt k
 | .inr x=>hashStr w x
theorem GV:∀ {k:Av}{v:Ad},Kh k v=true->(∃ i t,k=Sum.inl i/\v=Value.int i t)\/(∃ x t,k=Sum.inr x/\v=Value.str x t)
 | .inl i,v,h=>by
  obtain ⟨t,e⟩:=Value.isInt_shape (k:=i) (v:=v) h;exact .inl ⟨i,t,rfl,e⟩
 | .inr x,v,h=>by
  obtain ⟨t,e⟩:=Value.isStrOf_shape (x:=x) (v:=v) h;exact .inr ⟨x,t,rfl,e⟩
def vV (i:Int) (t:Tok):Kh (.inl i) (.int i t)=true:=by simp [Kh,Value.isInt]
def vW (x:Str) (t:Tok):Kh (.inr x) (.str x t)=true:=by simp [Kh,Value.isStrOf]
def qD (a b:Int):decide ((Sum.inl a:Av)=Sum.inl b)=(a == b):=by
 by_cases e:a=b
 ·subst e;simp
 ·have h:¬ (Sum.inl a:Av)=Sum.inl b:=λ q=>e (Sum.inl.inj q);rw [decide_eq_false h];exact (beq_eq_false_iff_ne.mpr e).symm
def qG (a b:Str):decide ((Sum.inr a:Av)=Sum.inr b)=decide (a=b):=by
 by_cases e:a=b
 ·subst e;simp
 ·have h:¬ (Sum.inr a:Av)=Sum.inr b:=λ q=>e (Sum.inr.inj q);rw [decide_eq_false h,decide_eq_false e]
def qE (a:Int) (b:Str):decide ((Sum.inl a:Av)=Sum.inr b)=false:=decide_eq_false (λ q=>nomatch q)
def qF (a:Str) (b:Int):decide ((Sum.inr a:Av)=Sum.inl b)=false:=decide_eq_false (λ q=>nomatch q)
def Dc (prog:A9) (w:A7):PySem.KeyKind prog w Av where
 is:=Kh
 hash:=Se w
 inj:=λ v a b ha hb=>by
  rcases GV ha with ⟨i,t,rfl,rfl⟩ | ⟨x,t,rfl,rfl⟩
  ·rcases GV hb with ⟨j,u,rfl,e⟩ | ⟨y,u,rfl,e⟩
   ·injection e with e1 _;rw [e1]
   ·exact nomatch e
  ·rcases GV hb with ⟨j,u,rfl,e⟩ | ⟨y,u,rfl,e⟩
   ·exact nomatch e
   ·injection e with e1 _;rw [e1]
 byValue:=λ k v h=>by
  rcases GV h with ⟨i,t,rfl,rfl⟩ | ⟨x,t,rfl,rfl⟩ <;> rfl
 pyHash:=λ hv h=>by
  rcases GV hv with ⟨i,t,rfl,rfl⟩ | ⟨x,t,rfl,rfl⟩
  ·exact wpAny_pyHash_int h
  ·exact wpAny_pyHash_str h
 eqBool:=λ hu hv h=>by
  rcases GV hu with ⟨i,t,rfl,rfl⟩ | ⟨x,t,rfl,rfl⟩
  ·rcases GV hv with ⟨j,u,rfl,rfl⟩ | ⟨y,u,rfl,rfl⟩
   ·rw [qD] at h;exact wpAny_eqBool_int h
   ·rw [qE] at h;exact SeqAt.EqAt.int_str i t y u _ _ _ _ h
  ·rcases GV hv with ⟨j,u,rfl,rfl⟩ | ⟨y,u,rfl,rfl⟩
   ·rw [qF] at h;exact SeqAt.EqAt.str_int x t j u _ _ _ _ h
   ·rw [qG] at h;exact wpAny_eqBool_str h
 «strs»:=λ k x t v h=>by
  rcases GV h with ⟨i,u,rfl,e⟩ | ⟨y,u,rfl,e⟩
  ·exact nomatch e
  ·injection e with e1 _
   subst e1;cases v <;> rfl
def yh (prog:A9) (w:A7) (i:Int) (t:Tok):(Dc prog w).is (.inl i) (.int i t)=true:=vV i t
def yi (prog:A9) (w:A7) (x:Str) (t:Tok):(Dc prog w).is (.inr x) (.str x t)=true:=vW x t
inductive V where
 | non | bl (b:Bool) | int (i:Int) | str (x:Str) | byt (b:Array UInt8) | flt (b:UInt64) | ref (a:Addr) | ty (n:String)
 deriving DecidableEq
def RelV:V->Ad->Prop
 | .non,u=>u=Value.none
 | .bl b,u=>u=Value.bool b
 | .int i,u=>∃ t,u=Value.int i t
 | .str x,u=>∃ t,u=Value.str x t
 | .byt b,u=>∃ t,u=Value.bytes b t
 | .flt b,u=>∃ t,u=Value.float b t
 | .ref a,u=>u=Value.ref a
 | .ty n,u=>u=Value.type n
abbrev Vals:List V->List Ad->Prop:=FF RelV
def Vals.length {xs:List V}{us:List Ad} (r:Vals xs us):xs.length=us.length:=Paired.length r
theorem Vals.get:∀ {xs:List V}{us:List Ad}{i:Nat}{x:V},Vals xs us->xs[i]?=some x->∃ u,us[i]?=some u/\RelV x u
 | _,_,_,_,.nil,e=>by simp at e
 | _,_,0,_,.cons r _,e=>by simp at e;subst e;exact ⟨_,rfl,r⟩
 | _,_,i + 1,x,.cons _ t,e=>by
  obtain ⟨u,h1,h2⟩:=Vals.get (i:=i) (x:=x) t (by simpa using e);exact ⟨u,by simpa using h1,h2⟩
theorem Vals.set {x:V}{u:Ad} (r:RelV x u):∀ {xs:List V}{us:List Ad} (i:Nat),Vals xs us->Vals (xs.set i x) (us.set i u)
 | _,_,_,.nil=>.nil
 | _,_,0,.cons _ t=>.cons r t
 | _,_,i + 1,.cons q t=>.cons q (Vals.set r i t)
theorem Vals.append:∀ {xs ys:List V}{us ws:List Ad},Vals xs us->Vals ys ws->Vals (xs++ys) (us++ws)
 | _,_,_,_,.nil,s=>s
 | _,_,_,_,.cons r t,s=>.cons r (Vals.append t s)
theorem Vals.take:∀ {xs:List V}{us:List Ad} (n:Nat),Vals xs us->Vals (xs.take n) (us.take n)
 | _,_,0,_=>.nil
 | _,_,_ + 1,.nil=>.nil
 | _,_,n + 1,.cons r t=>.cons r (Vals.take n t)
theorem Vals.drop:∀ {xs:List V}{us:List Ad} (n:Nat),Vals xs us->Vals (xs.drop n) (us.drop n)
 | _,_,0,r=>r
 | _,_,_ + 1,.nil=>.nil
 | _,_,n + 1,.cons _ t=>Vals.drop n t
def RelO:Option V->Option Ad->Prop
 | some v,some u=>RelV v u
 | none,none=>True
 | _,_=>False
def KV {κ:Type}:List (κ×V)->List (κ×Ad)->Prop:=FF λ (p:κ×V) (q:κ×Ad)=>p.1=q.1/\RelV p.2 q.2
def kV:Av->V
 | .inl i=>.int i
 | .inr x=>.str x
inductive HO where
 | lst (xs:List V)
 | tup (xs:List V)
 | dK (kvs:List (Av×V)) | dT (kvs:List (List Av×V))
 | set (S:Int->Bool) (n:Nat)
 | ins (C dx:Addr) (fs:List (Str×V))
 | own (x:Addr)
 | xd (fs:List (Str×V))
 | met (f x:Addr)
 | rng (lo hi:Int)
 | frz (o:Obj) (u:HO)
 | tbl (ps:Array Ad)
 | ext (φ:Heap->Prop)
abbrev Hp:=Addr->Option HO
def Ap (H:Hp) (a:Addr) (o:HO):Hp:=λ b=>if b=a then some o else H b
def AV {H:Hp}{a:Addr}{o:HO}:Ap H a o a=some o:=by unfold Ap;rw [if_pos rfl]
def A8 {H:Hp}{a b:Addr}{o:HO} (h:b≠a):Ap H a o b=H b:=by unfold Ap;rw [if_neg h]
def ZK {H:Hp}{a b:Addr}{o u:HO} (h:H a=some o) (h':H b=some u) (d:o≠u):a≠b:=by
 intro e;subst e;rw [h] at h';exact d (Option.some.inj h')
def JH {H:Hp}{a b:Addr}{o:HO} (h:H a=some o) (h':H b=none):a≠b:=by
 intro e;subst e;rw [h] at h';cases h'
section
variable (P:A9) (w:A7)
def zxo (H:Hp) (h:Heap) (a:Addr):HO->Prop
 | .lst xs=>xs.length<=A0/\∃ (its:List Ad) (n:Nat),Vals xs its/\h.get? a=some { cls:=.type "list",data:=.seq its.toArray n }
 | .tup xs=>xs.length<=A0/\∃ its:List Ad,Vals xs its/\IsTup h a its.toArray
 | .dK kvs=>kvs.length<=A0/\(a == Ex)=false/\∃ vs,KV kvs vs/\h.DictOf (Dc P w) a vs
 | .dT kvs=>kvs.length<=A0/\(a == Ex)=false/\∃ xs:List (List Av×Addr×Ad),
   FF (λ (p:List Av×V) (q:List Av×Addr×Ad)=>p.1=q.1/\H q.2.1=some (.tup (p.1.map kV))/\RelV p.2 q.2.2) kvs xs /\
   ∃ o es ep,h.get? a=some o/\o.ExactDict/\o.data=.dict es ep/\es.toList=xs.map (JX (FH (Dc P w)))/\(xs.map (·.1)).Nodup
 | .set S n=>h.SetOf (intKind P w) a S n
 | .ins C dx fs=>H dx=some (.own a)/\fs.length<=1000/\dx≠a/\h.get? a=some (Qi C dx) /\
   ∃ mA,h.Ns1 dx mA/\(∀ f,RelO (fs.lookup f) (mA f))/\PySem.Within mA (fs.map (·.1))
 | .own _=>∃ o,h.get? a=some o
 | .xd fs=>∃ mA,h.Ns1 a mA/\∀ f,RelO (fs.lookup f) (mA f)
 | .rng lo hi=>∃ t u v,h.get? a=some { cls:=.type "range",data:=.fields #[.int lo t,.int hi u,.int 1 v] }
 | .frz o u=>h.get? a=some o/\zxo H h a u
 | .tbl ps=>h.get? a=some { cls:=.none,data:=.fields ps }
 | .met f x=>h.get? a=some (Qo (.ref f) (.ref x))
 | .ext φ=>φ h/\(∃ o,h.get? a=some o)/\∀ h1 h2:Heap,φ h1->(∀ o,h1.get? a=some o->h2.get? a=some o)->φ h2
def HOk (H:Hp) (h:Heap):Prop:=∀ a o,H a=some o->zxo P w H h a o
end
section
variable {P:A9}{w:A7}{H H':Hp}{h h':Heap}{a:Addr}{o:HO}
theorem zxo.lt (x:zxo P w H h a o):a < h.objs.size:=by
 cases o with
 | lst xs=>obtain ⟨_,_,_,_,e⟩:=x;exact Bc e
 | tup xs=>obtain ⟨_,_,_,p⟩:=x;exact p.lt
 | dK kvs=>obtain ⟨_,_,_,_,o,_,_,e,_⟩:=x;exact Bc e
 | dT kvs=>obtain ⟨_,_,_,_,o,_,_,e,_⟩:=x;exact Bc e
 | set S n=>obtain ⟨o,_,_,_,e,_⟩:=x;exact Bc e
 | ins C dx fs=>obtain ⟨_,_,_,e,_⟩:=x;exact Bc e
 | own y=>obtain ⟨_,e⟩:=x;exact Bc e
 | xd fs=>obtain ⟨_,⟨_,_,_,e,_⟩,_⟩:=x;exact Bc e
 | rng lo hi=>obtain ⟨_,_,_,e⟩:=x;exact Bc e
 | frz ob u=>obtain ⟨e,_⟩:=x;exact Bc e
 | tbl ps=>exact Bc (show h.get? a=some _ from x)
 | met f y=>exact Bc (show h.get? a=some _ from x)
 | ext φ=>obtain ⟨_,⟨_,e⟩,_⟩:=x;exact Bc e
theorem Paired.mapP {α β:Type}{F G:α->β->Prop}:∀ {l₁:List α}{l₂:List β},FF F l₁ l₂->(∀ a b,F a b->G a b)->FF G l₁ l₂
 | _,_,.nil,_=>.nil
 | _,_,.cons r t,f=>.cons (f _ _ r) (Paired.mapP t f)
theorem zxo.stay (x:zxo P w H h a o) (k:∀ b u,(b=a\/H b=some (.own a))->h.get? b=some u->h'.get? b=some u)
  (ho:∀ b,H b=some (.own a)->H' b=some (.own a)) (ht:∀ b xs,H b=some (.tup xs)->H' b=some (.tup xs)):zxo P w H' h' a o:=by
 induction o with
 | lst xs=>obtain ⟨z,its,n,r,e⟩:=x;exact ⟨z,its,n,r,k _ _ (.inl rfl) e⟩
 | tup xs=>obtain ⟨z,its,r,ob,e,c⟩:=x;exact ⟨z,its,r,ob,k _ _ (.inl rfl) e,c⟩
 | dK kvs=>obtain ⟨z,y,vs,r,ob,es,ep,e,c⟩:=x;exact ⟨z,y,vs,r,ob,es,ep,k _ _ (.inl rfl) e,c⟩
 | dT kvs=>
  obtain ⟨z,y,xs,r,ob,es,ep,e,c⟩:=x;exact ⟨z,y,xs,Paired.mapP r λ p q z=>⟨z.1,ht _ _ z.2.1,z.2.2⟩,ob,es,ep,k _ _ (.inl rfl) e,c⟩
 | set S n=>obtain ⟨ob,es,ep,t,e,c⟩:=x;exact ⟨ob,es,ep,t,k _ _ (.inl rfl) e,c⟩
 | ins C dx fs=>
  obtain ⟨d,z,ne,e,mA,⟨od,es,ep,e2,c⟩,r⟩:=x;exact ⟨ho _ d,z,ne,k _ _ (.inl rfl) e,mA,⟨od,es,ep,k _ _ (.inr d) e2,c⟩,r⟩
 | own y=>obtain ⟨ob,e⟩:=x;exact ⟨ob,k _ _ (.inl rfl) e⟩
 | xd fs=>obtain ⟨mA,⟨od,es,ep,e,c⟩,r⟩:=x;exact ⟨mA,⟨od,es,ep,k _ _ (.inl rfl) e,c⟩,r⟩
 | rng lo hi=>obtain ⟨t,u,v,e⟩:=x;exact ⟨t,u,v,k _ _ (.inl rfl) e⟩
 | frz ob u ih=>obtain ⟨e,q⟩:=x;exact ⟨k _ _ (.inl rfl) e,ih q⟩
 | tbl ps=>
  have e:h.get? a=some { cls:=.none,data:=.fields ps }:=x;show h'.get? a=some { cls:=.none,data:=.fields ps };exact k a _ (.inl rfl) e
 | met f y=>
  have e:h.get? a=some (Qo (.ref f) (.ref y)):=x;show h'.get? a=some (Qo (.ref f) (.ref y));exact k a _ (.inl rfl) e
 | ext φ=>obtain ⟨p,⟨o,e⟩,st⟩:=x;exact ⟨st _ _ p λ o q=>k _ _ (.inl rfl) q,⟨o,k _ _ (.inl rfl) e⟩,st⟩
def HOk.lt (x:HOk P w H h) (e:H a=some o):a < h.objs.size:=(x a o e).lt
theorem HOk.fresh (x:HOk P w H h) (e:h.objs.size<=a):H a=none:=by
 cases q:H a with
 | none=>rfl
 | some u=>exact absurd (Cj (x.lt q) e) (DS _)
def HOk.kept (x:HOk P w H h) (k:∀ b u,h.get? b=some u->h'.get? b=some u):HOk P w H h':=λ a o e=>
 (x a o e).stay (λ b u _ q=>k b u q) (λ _ q=>q) λ _ _ q=>q
def HOk.laid (x:HOk P w H h) (k:∀ b u,h.get? b=some u->h'.get? b=some u) (hp:h.objs.size<=a) (new:zxo P w (Ap H a o) h' a o):HOk P w (Ap H a o) h':=λ b u e=>by
 have hn:=x.fresh hp;by_cases hb:b=a
 ·subst hb;rw [AV] at e;cases e;exact new
 ·rw [A8 hb] at e;exact (x b u e).stay (λ c v _ q=>k c v q) (λ c q=>by rw [A8 (JH q hn)];exact q) λ c xs q=>by rw [A8 (JH q hn)];exact q
end
def Rd (H:Hp) (a:Addr) (u:HO):Prop:=H a=some u\/∃ o,H a=some (.frz o u)
def Rd.ok {P:A9}{w:A7}{H:Hp}{h:Heap}{a:Addr}{u:HO} (r:Rd H a u) (x:HOk P w H h):zxo P w H h a u:=by
 rcases r with r | ⟨o,r⟩
 ·exact x a u r
 ·obtain ⟨_,q⟩:=x a _ r;exact q
def Mx:Option HO->Prop
 | some (.lst _)=>True
 | some (.dK _)=>True
 | some (.dT _)=>True
 | some (.set _ _)=>True
 | some (.ins _ _ _)=>True
 | some (.ext _)=>True
 | _=>False
section
variable {P:A9}{w:A7}{H:Hp}{h h':Heap}{x e:Addr}{o':HO}
def HOk.write (ok:HOk P w H h) (mu:Mx (H x)) (he:e=x\/H e=some (.own x)) (k:∀ b u,b≠e->h.get? b=some u->h'.get? b=some u) (heo:∃ u,h'.get? e=some u)
  (new:zxo P w (Ap H x o') h' x o'):HOk P w (Ap H x o') h':=λ b u q=>by
 have nown:∀ c y,H c=some (.own y)->c≠x:=λ c y r z=>by subst z;rw [r] at mu;exact mu
 have ntup:∀ c xs,H c=some (.tup xs)->c≠x:=λ c xs r z=>by subst z;rw [r] at mu;exact mu
 by_cases hb:b=x
 ·subst hb;rw [AV] at q;cases q;exact new
 ·rw [A8 hb] at q;by_cases hbe:b=e
  ·have q':H b=some (.own x):=by
    rcases he with z | z
    ·exact absurd (hbe.trans z) hb
    ·rw [hbe];exact z
   rw [q] at q';cases q';obtain ⟨v,hv⟩:=heo;exact ⟨v,by rw [hbe];exact hv⟩
  ·refine (ok b u q).stay (λ c v hc r=>k c v ?_ r) (λ c r=>by rw [A8 (nown c b r)];exact r) λ c xs r=>by rw [A8 (ntup c xs r)];exact r
   rcases hc with rfl | hc
   ·exact hbe
   ·rintro rfl;rcases he with z | z
    ·exact nown c b hc z
    ·rw [hc] at z;cases z;exact hb rfl
end
structure Un (fs ex:List Addr) (H H':Hp) (h h':Heap):Prop where
 keep:∀ b o,h.get? b=some o->H b=none->b∉fs->b∉ex->h'.get? b=some o
 slot:∀ b o,h.get? b=some o->H b=none->b∈fs->b∉ex->∃ sl,h'.get? b=some { o with slots:=sl }
 free:∀ b o,h.get? b=some o->H b=none->b∉ex->H' b=none
 there:∀ b o,h.get? b=some o->b∉ex->∃ o',h'.get? b=some o'
 tups:∀ b xs,H b=some (.tup xs)->H' b=some (.tup xs)
 frzs:∀ b o u,H b=some (.frz o u)->H' b=some (.frz o u)
 tbls:∀ b ps,H b=some (.tbl ps)->∃ more,H' b=some (.tbl (ps++more))
section
variable {fs fs' ex ex':List Addr}{H H1 H2:Hp}{h h1 h2 h':Heap}{a x e:Addr}{o:HO}
def Un.any (u:Un fs ex H H1 h h1) {b:Addr}{ob:Obj} (q:h.get? b=some ob) (n:H b=none) (hx:b∉ex):∃ sl,h1.get? b=some { ob with slots:=sl }:=by
 by_cases hb:b∈fs
 ·exact u.slot b ob q n hb hx
 ·exact ⟨ob.slots,u.keep b ob q n hb hx⟩
def Un.kept (k:∀ b u,h.get? b=some u->h'.get? b=some u):Un fs ex H H h h':=
 ⟨λ b ob q _ _ _=>k b ob q,λ b ob q _ _ _=>⟨ob.slots,k b ob q⟩,λ _ _ _ n _=>n,λ b ob q _=>⟨ob,k b ob q⟩,λ _ _ q=>q,λ _ _ _ q=>q,λ _ ps q=>⟨#[],by rw [q];simp⟩⟩
def Un.refl:Un fs ex H H h h:=Un.kept λ _ _ q=>q
def Un.laid (k:∀ b u,h.get? b=some u->h'.get? b=some u) (hp:h.objs.size<=a) (hn:H a=none):Un fs ex H (Ap H a o) h h' where
 keep:=λ b u q _ _ _=>k b u q
 slot:=λ b u q _ _ _=>⟨u.slots,k b u q⟩
 free:=λ b u q n _=>by rw [A8 (C7 (Cj (Bc q) hp))];exact n
 there:=λ b u q _=>⟨u,k b u q⟩
 tups:=λ b xs q=>by rw [A8 (JH q hn)];exact q
 frzs:=λ b u xs q=>by rw [A8 (JH q hn)];exact q
 tbls:=λ b ps q=>⟨#[],by rw [A8 (JH q hn),q];simp⟩
def Un.write (mu:Mx (H x)) (he:e=x\/H e=some (.own x)) (k:∀ b u,b≠e->h.get? b=some u->h'.get? b=some u) (heo:∃ u,h'.get? e=some u):Un fs ex H (Ap H x o) h h':=by
 have hx:∀ b,H b=none->b≠x:=λ b n z=>by subst z;rw [n] at mu;exact mu
 have hb:∀ b,H b=none->b≠e:=λ b n z=>by
  subst z;rcases he with r | r
  ·exact hx b n r
  ·rw [n] at r;cases r
 have hm:∀ b u,H b=some u->¬ Mx (some u)->b≠x:=λ b u q nm z=>by subst z;rw [q] at mu;exact nm mu
 refine ⟨λ b u q n _ _=>k b u (hb b n) q,λ b u q n _ _=>⟨u.slots,k b u (hb b n) q⟩,λ b u q n _=>by rw [A8 (hx b n)];exact n,λ b u q _=>?_,
  λ b xs q=>by rw [A8 (hm b _ q λ z=>z)];exact q,λ b u xs q=>by rw [A8 (hm b _ q λ z=>z)];exact q,λ b ps q=>⟨#[],by rw [A8 (hm b _ q λ z=>z),q];simp⟩⟩
 by_cases hbe:b=e
 ·subst hbe;exact heo
 ·exact ⟨u,k b u hbe q⟩
end
def NK (h:Heap) (H:Hp):List Addr:=(Aq h.objs.size).filter λ a=>(H a).isSome
def Dx (h:Heap) (H:Hp):Heap:=PySem.W.hideAll h (NK h H)
def vQ (h:Heap) (H:Hp):(Dx h H).objs.size=h.objs.size:=PySem.W.hideAll_size _ _
def k6 {h:Heap}{H:Hp}{b:Addr}{o:Obj} (e:h.get? b=some o) (n:H b=none):(Dx h H).get? b=some o:=
 PySem.W.hideAll_get _ e λ hm=>by
  have q:(H b).isSome=true:=(jd3.mp hm).2;rw [n] at q;simp at q
theorem zM {h:Heap}{H:Hp}{b:Addr}{o:Obj} (e:(Dx h H).get? b=some o):h.get? b=some o/\H b=none:=by
 have e':h.get? b=some o:=PySem.W.of_hideAll (NK h H) e;refine ⟨e',?_⟩;cases q:H b with
 | none=>rfl
 | some x=>
  have hm:b∈NK h H:=jd3.mpr ⟨jc4.mpr (Bc e'),by simp [q]⟩;have z:(Dx h H).get? b=none:=PySem.W.hideAll_none (NK h H) hm;rw [z] at e;cases e
def zC (g h:Heap) (L:Addr):List (Addr×Obj):=(Aq h.objs.size).filterMap λ a=>if a=L\/(g.get? a).isSome=true then none else (h.get? a).map λ o=>(a,o)
def rest (g h:Heap) (L d:Addr):List (Addr×Obj):=(zC g h L).filter λ p=>decide (p.1≠d)
structure Mod (K:PySem.W.Frag) (mg:Str->Option Ad) (base:Heap):Prop where
 kin:K.In base
 glob:base.Ns Eg mg
 blt:∃ mb,base.Ns builtinsNs mb/\∀ x:Str,x ≠ "__name__" -> mb x=Jc x
 nolimit:base.NoLimit
structure Cx where
 prog:A9
 w:A7
 K:PySem.W.Frag
 mg:Str->Option Ad
 base:Heap
 A:Bs
 N:List Str
 s₀:Ai
 H₀:Hp
 env:Env
 outer:List Env
 stack:List Env
 ex:List Addr
 fn:Str->Bool
 calm:Bool
 pn:List (Addr×Obj)
 xe:Ad->Ai->Prop
def Gd (l:List Env):List Addr:=l.filterMap (·.frame)
abbrev Cx.fs (X:Cx):List Addr:=Gd X.outer
def HK (sc:Br) (x:Str):Prop:=sc.names.lookup x=some .local\/sc.names.lookup x=some .cell\/sc.names.lookup x=some .free
def E3 (sc:Br) (x:Str):Prop:=sc.names.lookup x=some .local\/sc.names.lookup x=some .cell
def To (env:Env) (h:Heap) (m:Str->Option Ad) (x:Str) (u:Ad):Prop:=
 (env.kindOf x=some .local/\m x=some u)\/((env.kindOf x=some .cell\/env.kindOf x=some .free)/\∃ c,env.cells.lookup x=some c/\h.IsCell c (some u))
structure Cx.Ok (X:Cx):Prop where
 mod:Mod X.K X.mg X.base
 kind:X.env.scope.kind=.function
 glob:X.env.globals=Eg
 blt:X.env.builtins=builtinsNs
 above:X.s₀.heap.objs.size<=X.env.locals
 inj:∀ x y c,X.env.cells.lookup x=some c->X.env.cells.lookup y=some c->x=y
 has:∀ x,(X.env.kindOf x=some .cell\/X.env.kindOf x=some .free)->∃ c,X.env.cells.lookup x=some c
 cab:∀ x c,X.fn x=true->X.env.cells.lookup x=some c->X.s₀.heap.objs.size<=c
 hd:X.calm=true->X.A.handled=none
 frames:X.A.frames=some X.stack
 stk:X.stack=X.outer\/(X.stack=X.env::X.outer/\X.env.frame=some X.env.locals)
 exf:∀ b∈X.ex,b≠X.env.locals/\∀ x c,X.env.cells.lookup x=some c->c≠b
 bs:∀ b o,X.base.get? b=some o->X.s₀.heap.get? b=some o/\X.H₀ b=none
 bsz:X.base.objs.size<=X.s₀.heap.objs.size
 noex:∀ b o,X.base.get? b=some o->b∉X.ex
 exfs:∀ b∈X.ex,b∉X.fs
 funs:X.s₀.heap.FunFrames X.base X.outer
 frf:∀ b∈X.fs,X.H₀ b=none
structure Inv (X:Cx) (pins:List (Addr×Obj)) (σ:List (Option V)) (H:Hp) (s:Ai):Prop where
 ok:X.Ok
 os:s.os=X.s₀.os
 bare:Hn s.gens
 base:Un X.fs X.ex X.H₀ H X.s₀.heap s.heap
 loc:∃ m,s.heap.Ns X.env.locals m/\∀ (i:Nat) (x:Str) (v:V),X.N[i]?=some x->σ[i]?=some (some v)->HK X.env.scope x->∃ u,RelV v u/\To X.env s.heap m x u
 cell:∀ x c,X.env.cells.lookup x=some c->∃ v,s.heap.IsCell c v
 free:H X.env.locals=none
 freeC:∀ x c,X.env.cells.lookup x=some c->H c=none
 pin:∀ p∈X.pn++pins,s.heap.get? p.1=some p.2/\H p.1=none/\p.1≠X.env.locals/\p.1∉X.fs/\∀ v,p.2.data≠.cell v
 hok:HOk X.prog X.w H s.heap
 len:σ.length=X.N.length
section
variable {X:Cx}{pins:List (Addr×Obj)}{σ:List (Option V)}{H H':Hp}{s:Ai}{h':Heap}
def Cx.Ok.nofr (ok:X.Ok) {b:Addr}{o:Obj} (e:X.base.get? b=some o):b∉X.fs:=λ hb=>by
 have:=(ok.funs.mem hb).1
 rw [e] at this;cases this
def Inv.bs (I:Inv X pins σ H s):∀ b o,X.base.get? b=some o->s.heap.get? b=some o/\H b=none:=λ b o e=>
 ⟨I.base.keep b o (I.ok.bs b o e).1 (I.ok.bs b o e).2 (I.ok.nofr e) (I.ok.noex b o e),I.base.free b o (I.ok.bs b o e).1 (I.ok.bs b o e).2 (I.ok.noex b o e)⟩
def Inv.bk (I:Inv X pins σ H s):∀ b o,X.base.get? b=some o->s.heap.get? b=some o:=λ b o e=>(I.bs b o e).1
def Inv.mod (I:Inv X pins σ H s):Mod X.K X.mg X.base:=I.ok.mod
def Inv.kIn (I:Inv X pins σ H s):X.K.In s.heap:=I.ok.mod.kin.keeps I.bk
def Inv.lt (I:Inv X pins σ H s):X.env.locals < s.heap.objs.size:=let ⟨_,hn,_⟩:=I.loc;hn.lt
def Inv.sz (I:Inv X pins σ H s):X.s₀.heap.objs.size<=s.heap.objs.size:=Cv I.ok.above (Kp I.lt)
def Inv.nofs (I:Inv X pins σ H s) {a:Addr} (h:s.heap.objs.size<=a):a∉X.fs:=λ hb=>by
 obtain ⟨_,o,ho,_⟩:=I.ok.funs.mem hb;exact absurd (Cj (Bc ho) (Cv I.sz h)) (DS _)
def Inv.cne (I:Inv X pins σ H s):∀ x c,X.env.cells.lookup x=some c->c≠X.env.locals:=λ x c e z=>by
 obtain ⟨v,o,ho,hd⟩:=I.cell x c e;obtain ⟨m,⟨o',es,ep,ho',hd',_⟩,_⟩:=I.loc;rw [z,ho'] at ho;cases ho;rw [hd'] at hd;cases hd
def Inv.funs (I:Inv X pins σ H s):s.heap.FunFrames X.base X.outer:=by
 have all:∀ (l:List Env),(∀ b∈Gd l,b∈X.fs)->X.s₀.heap.FunFrames X.base l->s.heap.FunFrames X.base l:=by
  intro l;induction l with
  | nil=>intro _ _;trivial
  | cons env r ih=>
   intro hs hl;obtain ⟨hk,⟨L,o,hf,hn,ho,hd⟩,hr⟩:=hl;have hL:L∈X.fs:=hs L (by unfold Gd;rw [OR,hf];exact AF);obtain ⟨sl,e⟩:=I.base.slot L o ho (I.ok.frf L hL) hL λ z=>I.ok.exfs L z hL;exact ⟨hk,⟨L,_,hf,hn,e,hd⟩,ih (λ b hb=>hs b (by unfold Gd;rw [OR,hf];exact AH _ hb)) hr⟩
 exact all X.outer (λ _ hb=>hb) I.ok.funs
def Inv.stack (I:Inv X pins σ H s):s.heap.FunFrames X.base X.stack:=by
 rcases I.ok.stk with e | ⟨e,hf⟩
 ·rw [e];exact I.funs
 ·rw [e];obtain ⟨m,hn,_⟩:=I.loc;refine .cons (by rw [I.ok.kind];decide) hf hn ?_ I.funs;exact Heap.get?_none_of_le (Cv I.ok.bsz I.ok.above)
def Inv.stkSub (I:Inv X pins σ H s):∀ b∈Gd X.stack,b∈X.env.locals::X.fs:=λ b hb=>by
 rcases I.ok.stk with e | ⟨e,hf⟩
 ·rw [e] at hb;exact AH _ hb
 ·rw [e] at hb;unfold Gd at hb;rw [OR,hf] at hb;exact hb
def Inv.stkFree (I:Inv X pins σ H s):∀ b∈Gd X.stack,H b=none:=λ b hb=>by
 rcases jc3.mp (I.stkSub b hb) with e | hb
 ·rw [e];exact I.free
 ·obtain ⟨_,o,ho,_⟩:=I.ok.funs.mem hb;exact I.base.free b o ho (I.ok.frf b hb) λ z=>I.ok.exfs b z hb
def Inv.step {g':Array GenState}{t':Nat}{d':Drawn}{ch:List Addr} (I:Inv X pins σ H s)
  (hch:∀ b∈ch,(b∈X.ex\/X.s₀.heap.objs.size<=b)/\b≠X.env.locals/\(∀ x c,X.env.cells.lookup x=some c->c≠b)/\∀ p∈X.pn++pins,p.1≠b)
  (keep:∀ b o,b≠X.env.locals->b∉X.fs->b∉ch->s.heap.get? b=some o->H b=none->h'.get? b=some o)
  (slot:∀ b o,b≠X.env.locals->b∈X.fs->b∉ch->s.heap.get? b=some o->H b=none->∃ sl,h'.get? b=some { o with slots:=sl }) (free:∀ b o,b∉ch->s.heap.get? b=some o->H b=none->H' b=none)
  (there:∀ b o,b∉ch->s.heap.get? b=some o->∃ o',h'.get? b=some o')
  (tups:∀ b xs,H b=some (.tup xs)->H' b=some (.tup xs)) (frzs:∀ b o u,H b=some (.frz o u)->H' b=some (.frz o u)) (tbls:∀ b ps,H b=some (.tbl ps)->∃ more,H' b=some (.tbl (ps++more)))
  (ns:∀ m,s.heap.Ns X.env.locals m->h'.Ns X.env.locals m) (hok:HOk X.prog X.w H' h') (hg:Hn g'):
  Inv X pins σ H' { s with heap:=h',gens:=g',drawn:=d',toks:=t' }:=by
 have neL:∀ b o,X.s₀.heap.get? b=some o->b≠X.env.locals:=λ b o e=>C7 (Cj (Bc e) I.ok.above);have neC:∀ b o,X.s₀.heap.get? b=some o->b∉X.ex->b∉ch:=λ b o e hx hb=>by
  rcases (hch b hb).1 with z | z
  ·exact hx z
  ·exact absurd (Cj (Bc e) z) (DS _)
 have cellK:∀ x c,X.env.cells.lookup x=some c->∀ v,s.heap.IsCell c v->h'.IsCell c v:=λ x c e v ⟨o,ho,hd⟩=>by
  have nch:c∉ch:=λ z=>(hch c z).2.2.1 x c e rfl;by_cases hc:c∈X.fs
  ·obtain ⟨sl,q⟩:=slot c o (I.cne x c e) hc nch ho (I.freeC x c e);exact ⟨_,q,hd⟩
  ·exact ⟨o,keep c o (I.cne x c e) hc nch ho (I.freeC x c e),hd⟩
 refine ⟨I.ok,I.os,hg,⟨λ b o e n hb hx=>?_,λ b o e n hb hx=>?_,λ b o e n hx=>?_,λ b o e hx=>?_,λ b xs e=>tups b xs (I.base.tups b xs e),λ b o xs e=>frzs b o xs (I.base.frzs b o xs e),λ b ps e=>?_⟩,?_,λ x c e=>?_,?_,λ x c e=>?_,λ p hp=>?_,hok,I.len⟩
 ·exact keep b o (neL b o e) hb (neC b o e hx) (I.base.keep b o e n hb hx) (I.base.free b o e n hx)
 ·obtain ⟨sl,e1⟩:=I.base.slot b o e n hb hx;obtain ⟨sl',e2⟩:=slot b _ (neL b o e) hb (neC b o e hx) e1 (I.base.free b o e n hx);exact ⟨sl',e2⟩
 ·obtain ⟨o',e1⟩:=I.base.there b o e hx;exact free b o' (neC b o e hx) e1 (I.base.free b o e n hx)
 ·obtain ⟨o',e1⟩:=I.base.there b o e hx;exact there b o' (neC b o e hx) e1
 ·obtain ⟨m1,e1⟩:=I.base.tbls b ps e;obtain ⟨m2,e2⟩:=tbls b _ e1;exact ⟨m1++m2,by rw [e2,Array.append_assoc]⟩
 ·obtain ⟨m,hn,hl⟩:=I.loc;refine ⟨m,ns m hn,λ i x v e1 e2 e3=>?_⟩;obtain ⟨u,r,l⟩:=hl i x v e1 e2 e3;refine ⟨u,r,?_⟩;rcases l with l | ⟨k,c,e,z⟩
  ·exact .inl l
  ·exact .inr ⟨k,c,e,cellK x c e _ z⟩
 ·obtain ⟨v,z⟩:=I.cell x c e;exact ⟨v,cellK x c e v z⟩
 ·obtain ⟨m,⟨o,_,_,ho,_⟩,_⟩:=I.loc;exact free _ o (λ z=>(hch _ z).2.1 rfl) ho I.free
 ·obtain ⟨v,o,ho,hd⟩:=I.cell x c e;exact free c o (λ z=>(hch c z).2.2.1 x c e rfl) ho (I.freeC x c e)
 ·obtain ⟨e,n,ne,nf,d⟩:=I.pin p hp;have nch:p.1∉ch:=λ z=>(hch p.1 z).2.2.2 p hp rfl;exact ⟨keep p.1 p.2 ne nf nch e n,free p.1 p.2 nch e n,ne,nf,d⟩
def Inv.un {t':Nat} (I:Inv X pins σ H s) (u:Un X.fs [] H H' s.heap h') (hok:HOk X.prog X.w H' h'):Inv X pins σ H' { s with heap:=h',toks:=t' }:=by
 obtain ⟨m,⟨o,es,ep,ho,r⟩,_⟩:=id I.loc;obtain ⟨sl,hL⟩:=u.any ho I.free (by simp);exact I.step (g':=s.gens) (d':=s.drawn) (ch:=[]) (λ _ z=>nomatch z) (λ b o _ hb _ e n=>u.keep b o e n hb (by simp)) (λ b o _ hb _ e n=>u.slot b o e n hb (by simp)) (λ b o _ e n=>u.free b o e n (by simp)) (λ b o _ e=>u.there b o e (by simp)) u.tups u.frzs u.tbls (λ m' hm=>by
  obtain ⟨o',es',ep',ho',r'⟩:=hm;rw [ho] at ho';cases ho';exact ⟨_,es',ep',hL,r'⟩) hok I.bare
def Inv.call {g':Array GenState}{t':Nat}{d':Drawn}{ch:List Addr} (I:Inv X pins σ H s) (u:Un (Gd X.stack) ch H H' s.heap h') (hok:HOk X.prog X.w H' h') (hg:Hn g')
  (hch:∀ b∈ch,(b∈X.ex\/X.s₀.heap.objs.size<=b)/\b≠X.env.locals/\(∀ x c,X.env.cells.lookup x=some c->c≠b)/\∀ p∈X.pn++pins,p.1≠b):
  Inv X pins σ H' { s with heap:=h',gens:=g',drawn:=d',toks:=t' }:=by
 obtain ⟨m,⟨o,es,ep,ho,r⟩,_⟩:=id I.loc;obtain ⟨sl,hL⟩:=u.any ho I.free λ z=>(hch _ z).2.1 rfl;exact I.step (ch:=ch) hch (λ b o hL hb hc e n=>u.keep b o e n (λ z=>(jc3.mp (I.stkSub b z)).elim hL hb) hc) (λ b o _ _ hc e n=>u.any e n hc) (λ b o hc e n=>u.free b o e n hc) (λ b o hc e=>u.there b o e hc) u.tups u.frzs u.tbls (λ m' hm=>by
  obtain ⟨o',es',ep',ho',r'⟩:=hm;rw [ho] at ho';cases ho';exact ⟨_,es',ep',hL,r'⟩) hok hg
def Inv.turned {t':Nat}{it:Addr} (I:Inv X pins σ H s) (k:∀ b o,b≠it->s.heap.get? b=some o->h'.get? b=some o) (hn:H it=none) (hL:it≠X.env.locals)
  (h1:it∈X.ex\/X.s₀.heap.objs.size<=it) (h2:∀ x c,X.env.cells.lookup x=some c->c≠it) (h3:∀ p∈X.pn++pins,p.1≠it):Inv X pins σ H { s with heap:=h',toks:=t' }:=by
 have nit:∀ b u,H b=some u->b≠it:=λ b u e z=>by rw [z,hn] at e;cases e
 refine I.step (g':=s.gens) (d':=s.drawn) (ch:=[it]) (λ b hb=>?_) (λ b o _ _ hc e _=>k b o (λ z=>hc (by simp [z])) e) (λ b o _ _ hc e _=>⟨o.slots,k b o (λ z=>hc (by simp [z])) e⟩) (λ _ _ _ _ n=>n)
  (λ b o hc e=>⟨o,k b o (λ z=>hc (by simp [z])) e⟩) (λ _ _ e=>e) (λ _ _ _ e=>e) (λ b ps e=>⟨#[],by rw [e];simp⟩) (λ m hm=>?_) (λ b u e=>?_) I.bare
 ·have e:b=it:=by simpa using hb
  subst e;exact ⟨h1,hL,h2,h3⟩
 ·obtain ⟨o,es,ep,ho,r⟩:=hm;exact ⟨o,es,ep,k _ o (Cb hL) ho,r⟩
 ·refine (I.hok b u e).stay (λ c v hc q=>k c v ?_ q) (λ _ q=>q) λ _ _ q=>q;rcases hc with z | z
  ·rw [z];exact nit b u e
  ·exact nit c _ z
def Inv.tok (I:Inv X pins σ H s) (t:Nat):Inv X pins σ H { s with toks:=t }:=I.un (h':=s.heap) (t':=t) Un.refl I.hok
def Inv.kept {t':Nat} (I:Inv X pins σ H s) (k:∀ b u,s.heap.get? b=some u->h'.get? b=some u):Inv X pins σ H { s with heap:=h',toks:=t' }:=I.un (Un.kept k) (I.hok.kept k)
def Inv.laid {a:Addr}{o:HO}{t':Nat} (I:Inv X pins σ H s) (k:∀ b u,s.heap.get? b=some u->h'.get? b=some u) (hp:s.heap.objs.size<=a) (new:zxo X.prog X.w (Ap H a o) h' a o):
  Inv X pins σ (Ap H a o) { s with heap:=h',toks:=t' }:=I.un (Un.laid k hp (I.hok.fresh hp)) (I.hok.laid k hp new)
def Inv.write {x e:Addr}{o:HO}{t':Nat} (I:Inv X pins σ H s) (mu:Mx (H x)) (he:e=x\/H e=some (.own x)) (k:∀ b u,b≠e->s.heap.get? b=some u->h'.get? b=some u) (heo:∃ u,h'.get? e=some u)
  (new:zxo X.prog X.w (Ap H x o) h' x o):Inv X pins σ (Ap H x o) { s with heap:=h',toks:=t' }:=I.un (Un.write mu he k heo) (I.hok.write mu he k heo new)
def Inv.pins_of {pins':List (Addr×Obj)} (I:Inv X pins σ H s) (h:∀ p∈pins',s.heap.get? p.1=some p.2/\H p.1=none/\p.1≠X.env.locals/\p.1∉X.fs/\∀ v,p.2.data≠.cell v):Inv X pins' σ H s:=
 ⟨I.ok,I.os,I.bare,I.base,I.loc,I.cell,I.free,I.freeC,λ p hp=>(jd7.mp hp).elim (λ z=>I.pin p (BP _ z)) (h p),I.hok,I.len⟩
def Xc {N:List Str} (hN:N.Nodup) {i j:Nat}{x:Str} (a:N[i]?=some x) (b:N[j]?=some x):i=j:=by
 obtain ⟨h1,e1⟩:=jb1.mp a;obtain ⟨h2,e2⟩:=jb1.mp b;exact (List.getElem_inj hN).mp (e1.trans e2.symm)
def TR {M:Model}{A:Bs}{E:Ad->Ai->Prop}{i:Nat}{x:Str}{v:V}{u:Ad}{Q:Unit->Ai->Prop} (I:Inv X pins σ H s) (hN:X.N.Nodup) (hi:X.N[i]?=some x) (hx:E3 X.env.scope x) (r:RelV v u)
  (h:∀ s',Inv X pins (σ.set i (some v)) H s'->(∃ a,JY a s.heap s'.heap/\(a=X.env.locals\/X.env.cells.lookup x=some a))->Q () s') (hf:X.fn x=true\/X.env.scope.names.lookup x=some .local:=by first | exact .inl rfl | exact .inr rfl | assumption):An M A (storeName X.env x u) Q E s:=by
 obtain ⟨m,hn,hl⟩:=id I.loc;have hcls:(X.env.scope.kind == .class || (X.env.scope.kind == .module && X.env.locals != X.env.globals))=false:=by rw [I.ok.kind];rfl
 have hiσ:i < σ.length:=by rw [I.len];exact (jb1.mp hi).1
 have cne:=I.cne;have tracked:∀ {a:Addr}{h':Heap},(∃ o,s.heap.get? a=some o/\H a=none)->JY a s.heap h'->HOk X.prog X.w H h':=λ {a h'} ha hs b ob e=>by
  obtain ⟨_,_,hfree⟩:=ha;refine (I.hok b ob e).stay (λ c w' hc q=>(hs.2 c ?_).trans q) (λ _ q=>q) λ _ _ q=>q;rintro rfl;rcases hc with rfl | hc
  ·rw [hfree] at e;cases e
  ·rw [hfree] at hc;cases hc
 rcases hx with hk | hk
 ·refine wpAny_storeName_local hk hn (λ h' hn' hs=>?_) hcls;obtain ⟨oL,_,_,hoL,_⟩:=id hn;refine h _ ⟨I.ok,I.os,I.bare,⟨λ b o e n hb hx=>?_,λ b o e n hb hx=>?_,I.base.free,λ b o e hx=>?_,I.base.tups,I.base.frzs,I.base.tbls⟩,⟨_,hn',λ j y v' e1 e2 e3=>?_⟩,λ y c e=>?_,I.free,I.freeC,λ p hp=>?_,tracked ⟨oL,hoL,I.free⟩ hs,by simpa using I.len⟩ ⟨_,hs,.inl rfl⟩
  ·exact (hs.2 b (C7 (Cj (Bc e) I.ok.above))).trans (I.base.keep b o e n hb hx)
  ·obtain ⟨sl,e1⟩:=I.base.slot b o e n hb hx;exact ⟨sl,(hs.2 b (C7 (Cj (Bc e) I.ok.above))).trans e1⟩
  ·obtain ⟨o',e1⟩:=I.base.there b o e hx;exact ⟨o',(hs.2 b (C7 (Cj (Bc e) I.ok.above))).trans e1⟩
  ·by_cases hj:j=i
   ·subst hj;rw [hi] at e1;cases e1;rw [DU hiσ] at e2;cases e2;exact ⟨u,r,.inl ⟨hk,by simp⟩⟩
   ·rw [CV (Cb hj)] at e2;obtain ⟨u',r',q⟩:=hl j y v' e1 e2 e3;refine ⟨u',r',?_⟩;rcases q with ⟨k,e⟩ | ⟨k,c,e,z⟩
    ·refine .inl ⟨k,?_⟩
     have:y≠x:=λ e=>hj (Xc hN e1 (e ▸ hi))
     simp [this,e]
    ·exact .inr ⟨k,c,e,z.sameBut hs (cne y c e)⟩
  ·obtain ⟨w',z⟩:=I.cell y c e;exact ⟨w',z.sameBut hs (cne y c e)⟩
  ·obtain ⟨e,n,ne,nf,d⟩:=I.pin p hp;exact ⟨(hs.2 p.1 ne).trans e,n,ne,nf,d⟩
 ·have hfn:X.fn x=true:=by
   rcases hf with z | z
   ·exact z
   ·rw [z] at hk;cases hk
  obtain ⟨c,hc⟩:=I.ok.has x (.inl hk);obtain ⟨w',z⟩:=I.cell x c hc;refine wpAny_storeName_cell I.ok.kind hk hc z (λ h' hc' hs=>?_);obtain ⟨oc,hoc,hocd⟩:=id z;refine h { s with heap:=h' } ⟨I.ok,I.os,I.bare,⟨λ b o e n hb hx=>?_,λ b o e n hb hx=>?_,I.base.free,λ b o e hx=>?_,I.base.tups,I.base.frzs,I.base.tbls⟩,⟨m,hn.sameBut hs (Cb (cne x c hc)),λ j y v' e1 e2 e3=>?_⟩,λ y c' e=>?_,I.free,I.freeC,λ p hp=>?_,tracked ⟨oc,hoc,I.freeC x c hc⟩ hs,by simpa using I.len⟩ ⟨c,hs,.inr hc⟩
  ·exact (hs.2 b (C7 (Cj (Bc e) (I.ok.cab x c hfn hc)))).trans (I.base.keep b o e n hb hx)
  ·obtain ⟨sl,e1⟩:=I.base.slot b o e n hb hx;exact ⟨sl,(hs.2 b (C7 (Cj (Bc e) (I.ok.cab x c hfn hc)))).trans e1⟩
  ·obtain ⟨o',e1⟩:=I.base.there b o e hx;exact ⟨o',(hs.2 b (C7 (Cj (Bc e) (I.ok.cab x c hfn hc)))).trans e1⟩
  ·by_cases hj:j=i
   ·subst hj;rw [hi] at e1;cases e1;rw [DU hiσ] at e2;cases e2;exact ⟨u,r,.inr ⟨.inl hk,c,hc,hc'⟩⟩
   ·rw [CV (Cb hj)] at e2;obtain ⟨u',r',q⟩:=hl j y v' e1 e2 e3;refine ⟨u',r',?_⟩;rcases q with q | ⟨k,c',e,z'⟩
    ·exact .inl q
    ·refine .inr ⟨k,c',e,z'.sameBut hs ?_⟩;rintro rfl;exact hj (Xc hN e1 (I.ok.inj _ _ _ e hc ▸ hi))
  ·by_cases hcc:c'=c
   ·subst hcc;exact ⟨_,hc'⟩
   ·obtain ⟨w2,z2⟩:=I.cell y c' e;exact ⟨w2,z2.sameBut hs hcc⟩
  ·obtain ⟨e,n,ne,nf,d⟩:=I.pin p hp;refine ⟨(hs.2 p.1 ?_).trans e,n,ne,nf,d⟩;intro q;rw [q,hoc] at e;have q':oc=p.2:=Option.some.inj e;exact d w' (by rw [<- q'];exact hocd)
def PX {M:Model}{A:Bs}{E:Ad->Ai->Prop}{i:Nat}{x:Str}{v:V}{u:Ad}{Q:Unit->Ai->Prop} (I:Inv X pins σ H s) (hN:X.N.Nodup) (hi:X.N[i]?=some x) (hx:E3 X.env.scope x) (r:RelV v u)
  (h:∀ s',Inv X pins (σ.set i (some v)) H s'->Q () s') (hf:X.fn x=true\/X.env.scope.names.lookup x=some .local:=by first | exact .inl rfl | exact .inr rfl | assumption):An M A (storeName X.env x u) Q E s:=
 TR I hN hi hx r (λ s' I' _=>h s' I') hf
def Inv.call' {s':Ai}{ch:List Addr} (I:Inv X pins σ H s) (ho:s'.os=s.os) (u:Un (Gd X.stack) ch H H' s.heap s'.heap) (hok:HOk X.prog X.w H' s'.heap) (hg:Hn s'.gens)
  (hch:∀ b∈ch,(b∈X.ex\/X.s₀.heap.objs.size<=b)/\b≠X.env.locals/\(∀ x c,X.env.cells.lookup x=some c->c≠b)/\∀ p∈X.pn++pins,p.1≠b):Inv X pins σ H' s':=by
 obtain ⟨h',g',d',t',o'⟩:=s';have e:o'=s.os:=ho;subst e;exact I.call (g':=g') (t':=t') (d':=d') u hok hg hch
end
abbrev XK:=Ad->Option Addr->Hp->Prop
abbrev St:=List (Option V)
abbrev VK:=V->Hp->Prop
abbrev TE:=St->Hp->VK->Prop
abbrev TT:=St->Hp->(Bool->Hp->Prop)->Prop
abbrev TA:=St->Hp->(List V->Hp->Prop)->Prop
structure Ends where
 nx:St->Hp->Prop
 rt:VK
 bk:St->Hp->Prop:=λ _ _=>False
 ct:St->Hp->Prop:=λ _ _=>False
abbrev TS:=Ends->St->Hp->Prop
def EP (X:Cx) (pins:List (Addr×Obj)) (σ:St) (Q:VK) (u:Ad) (s':Ai):Prop:=∃ v H',Inv X pins σ H' s'/\RelV v u/\Q v H'
def TP (X:Cx) (pins:List (Addr×Obj)) (σ:St) (Q:Bool->Hp->Prop) (b:Bool) (s':Ai):Prop:=∃ H',Inv X pins σ H' s'/\Q b H'
def AP (X:Cx) (pins:List (Addr×Obj)) (σ:St) (Q:List V->Hp->Prop) (us:List Ad) (s':Ai):Prop:=∃ vs H',Inv X pins σ H' s'/\Vals vs us/\Q vs H'
def SP (X:Cx) (pins:List (Addr×Obj)) (D:Ends) (f:Flow) (s':Ai):Prop:=
 match f with
 | .next=>∃ σ' H',Inv X pins σ' H' s'/\D.nx σ' H'
 | .brk=>∃ σ' H',Inv X pins σ' H' s'/\D.bk σ' H'
 | .cont=>∃ σ' H',Inv X pins σ' H' s'/\D.ct σ' H'
 | .ret u=>∃ v σ' H',Inv X pins σ' H' s'/\RelV v u/\D.rt v H'
def PE (X:Cx) (e:Expr) (t:TE):Prop:=
 ∀ (pins:List (Addr×Obj)) (s:Ai) (σ:St) (H:Hp) (Q:VK),Inv X pins σ H s->t σ H Q->An (Aw X.prog X.w) X.A (eval e X.env) (EP X pins σ Q) X.xe s
def PT (X:Cx) (e:Expr) (t:TT):Prop:=
 ∀ (pins:List (Addr×Obj)) (s:Ai) (σ:St) (H:Hp) (Q:Bool->Hp->Prop),Inv X pins σ H s->t σ H Q->An (Aw X.prog X.w) X.A (isTrue e X.env (eval e X.env)) (TP X pins σ Q) X.xe s
def PW (X:Cx) (e:Expr) (t:TT):Prop:=
 ∀ (whole:Sem Ad) (pins:List (Addr×Obj)) (s:Ai) (σ:St) (H:Hp) (Q:Bool->Hp->Prop),Inv X pins σ H s->t σ H Q->An (Aw X.prog X.w) X.A (isTrue e X.env whole) (TP X pins σ Q) X.xe s
def PW.pt {X:Cx}{e:Expr}{t:TT} (h:PW X e t):PT X e t:=h _
def PA (X:Cx) (es:List Expr) (t:TA):Prop:=
 ∀ (pos:Pos) (pins:List (Addr×Obj)) (s:Ai) (σ:St) (H:Hp) (Q:List V->Hp->Prop),Inv X pins σ H s->t σ H Q->An (Aw X.prog X.w) X.A (spliced (CH pos (AA es X.env))) (AP X pins σ Q) X.xe s
def PS (X:Cx) (st:Stmt) (t:TS):Prop:=
 ∀ (pins:List (Addr×Obj)) (s:Ai) (σ:St) (H:Hp) (D:Ends),Inv X pins σ H s->t D σ H->An (Aw X.prog X.w) X.A (exec st X.env) (SP X pins D) X.xe s
def Eo (X:Cx) (st:List Stmt) (t:TS):Prop:=
 ∀ (pins:List (Addr×Obj)) (s:Ai) (σ:St) (H:Hp) (D:Ends),Inv X pins σ H s->t D σ H->An (Aw X.prog X.w) X.A (execs st X.env) (SP X pins D) X.xe s
def A1 {α:Type}{t:Sem α}{Q Q':α->Ai->Prop}{M:Model}{A:Bs}{E:Ad->Ai->Prop}{s:Ai} (h:An M A t Q E s) (hQ:∀ a s,Q a s->Q' a s):An M A t Q' E s:=Hr h hQ λ _ _ x=>x
section
variable {X:Cx}
def gw {a b:Expr}{ta tb:TE} (ha:PE X a ta) (hb:PE X b tb) {pins:List (Addr×Obj)}{s:Ai}{σ:St}{H:Hp}{R:V->V->Hp->Prop} (I:Inv X pins σ H s) (h:ta σ H λ x H1=>tb σ H1 λ y H2=>R x y H2)
  {α:Type}{Q:α->Ai->Prop}{f:Ad->Ad->Sem α}
  (hf:∀ v u s2 x y H2,Inv X pins σ H2 s2->RelV x v->RelV y u->R x y H2->An (Aw X.prog X.w) X.A (f v u) Q X.xe s2):
  An (Aw X.prog X.w) X.A (eval a X.env) (λ v s₁=>An (Aw X.prog X.w) X.A (eval b X.env) (λ u s₂=>An (Aw X.prog X.w) X.A (f v u) Q X.xe s₂) X.xe s₁) X.xe s:=by
 refine A1 (ha pins s σ H _ I h) λ v s1 ⟨x,H1,I1,r1,q1⟩=>?_;refine A1 (hb pins s1 σ H1 _ I1 q1) λ u s2 ⟨y,H2,I2,r2,q2⟩=>?_;exact hf v u s2 x y H2 I2 r1 r2 q2
def Dq (i:Nat):TE:=λ σ H Q=>∃ v,σ[i]?=some (some v)/\Q v H
def tC (v:V):TE:=λ _ H Q=>Q v H
def xq {i:Nat}{x:Str}{pos:Pos} (hN:X.N[i]?=some x) (hv:HK X.env.scope x) (hd:(x == ("__debug__" : Str))=false:=by decide) (hcd:(x == ("__classdict__" : Str))=false:=by decide):PE X (.Name x pos) (Dq i):=by
 intro pins s σ H Q I h;obtain ⟨v,e,h⟩:=h;obtain ⟨m,hn,hl⟩:=I.loc;obtain ⟨u,r,l⟩:=hl i x v hN e hv;have fin:EP X pins σ Q u s:=⟨v,H,I,r,h⟩
 rcases l with ⟨hk,hm⟩ | ⟨hk,c,hc,hcell⟩
 ·exact wpAny_Name (wpAny_loadName_local I.ok.kind hk hn hm fin) hd
 ·rcases hk with hk | hk
  ·exact wpAny_Name (wpAny_loadName_cell I.ok.kind hk hc hcell fin) hd
  ·exact wpAny_Name (wpAny_loadName_free I.ok.kind hk hc hcell fin hcd) hd
def Vx {i j pos}:PE X (.Constant (.int i) j pos) (tC (.int i)):=λ _ _ _ H _ I h=>wpAny_Constant_int ⟨.int i,H,I.tok _,⟨_,rfl⟩,h⟩
def ZN {b j pos}:PE X (.Constant (.bool b) j pos) (tC (.bl b)):=λ _ _ _ H _ I h=>Constant_bool ⟨.bl b,H,I,rfl,h⟩
def xk {j pos}:PE X (.Constant .none j pos) (tC .non):=λ _ _ _ H _ I h=>Constant_none ⟨.non,H,I,rfl,h⟩
def xn {x j pos}:PE X (.Constant (.str x) j pos) (tC (.str x)):=λ _ _ _ H _ I h=>Calls.Constant_str ⟨.str x,H,I.tok _,⟨_,rfl⟩,h⟩
def Gl (X:Cx) (x:Str):Prop:=X.env.kindOf x=some .globalImplicit
def jj {E:Ad->Ai->Prop}{pins:List (Addr×Obj)}{s:Ai}{σ:St}{H:Hp}{x:Str}{u:Ad}{pos:Pos}{Q:Ad->Ai->Prop} (I:Inv X pins σ H s) (hg:Gl X x) (hm:X.mg x=some u) (h:Q u s)
  (hd:(x == ("__debug__" : Str))=false:=by decide):An (Aw X.prog X.w) X.A (eval (.Name x pos) X.env) Q E s:=
 Ur I.ok.kind hg (Calls.loadGlobal_global (by rw [I.ok.glob];exact I.mod.glob.keeps I.bk) hm h) hd
def GB {E:Ad->Ai->Prop}{pins:List (Addr×Obj)}{s:Ai}{σ:St}{H:Hp}{x:Str}{u:Ad}{pos:Pos}{Q:Ad->Ai->Prop} (I:Inv X pins σ H s) (hg:Gl X x) (hm:X.mg x=none) (hv:Jc x=some u) (h:Q u s)
  (hn:x ≠ "__name__" := by decide) (hd:(x == ("__debug__" : Str))=false:=by decide):An (Aw X.prog X.w) X.A (eval (.Name x pos) X.env) Q E s:=by
 obtain ⟨mb,h1,h2⟩:=I.mod.blt;exact Ur I.ok.kind hg (Calls.loadGlobal_builtin (by rw [I.ok.glob];exact I.mod.glob.keeps I.bk) hm (by rw [I.ok.blt];exact h1.keeps I.bk) ((h2 x hn).trans hv) h) hd
def zR {x:Str}{v:V}{u:Ad}{pos:Pos} (hg:Gl X x) (hm:X.mg x=none) (hv:Jc x=some u) (r:RelV v u) (hn:x ≠ "__name__" := by decide) (hd:(x == ("__debug__" : Str))=false:=by decide):PE X (.Name x pos) (tC v):=
 λ _ _ _ H _ I h=>GB I hg hm hv ⟨v,H,I,r,h⟩ hn hd
variable {a b:Expr}{ta tb:TE}{pos:Pos}
def PC (X:Cx) (op:Eu) (a b:Expr) (t:TE):Prop:=
 ∀ (pins:List (Addr×Obj)) (s:Ai) (σ:St) (H:Hp) (Q:VK),Inv X pins σ H s->t σ H Q ->
  An (Aw X.prog X.w) X.A (eval a X.env) (λ v s₁=>An (Aw X.prog X.w) X.A (eval b X.env) (λ u s₂=>An (Aw X.prog X.w) X.A (Cn op v u) (EP X pins σ Q) X.xe s₂) X.xe s₁) X.xe s
def EY (b:Expr) {op:Eu} (h:op≠.In) (h2:op≠.NotIn):Kb op b=false:=by
 have e1:(op == CmpOp.In)=false:=by cases op <;> first | rfl | exact absurd rfl h
 have e2:(op == CmpOp.NotIn)=false:=by cases op <;> first | rfl | exact absurd rfl h2
 cases b <;> simp [Kb,e1,e2]
def tB (t:TE):TT:=λ σ H Q=>t σ H λ x H1=>∃ c,x=.bl c/\Q c H1
def qP {e:Expr}{t:TE} (h:PE X e t) (he:∀ whole,isTrue e X.env whole=(do let v<-whole;standAt e.pos;holding [v] (truthy v)):=by intro _;rfl):PT X e (tB t):=by
 intro pins s σ H Q I hw;refine isTrue_plain (A1 (h pins s σ H _ I hw) λ v s1 ⟨x,H1,I1,r1,q1⟩=>?_) (he _);obtain ⟨d,rfl,q⟩:=q1;cases r1;exact Hu ⟨H1,I1,q⟩
variable {tA tB':TT}{rest:List Expr}
def Jk (t u:TT):TT:=λ σ H Q=>t σ H λ c H1=>if c=true then u σ H1 Q else Q false H1
def Q3 (t u:TT):TT:=λ σ H Q=>t σ H λ c H1=>if c=true then Q true H1 else u σ H1 Q
def Jj (t:TT):TT:=λ σ H Q=>t σ H λ c H1=>Q (!c) H1
theorem jL (ha:PT X a tA):PW X (.BoolOp .And [a] pos) tA:=by
 intro wh pins s σ H Q I h;refine isTrue_and (A1 (ha pins s σ H Q I h) λ c s1 e=>?_);cases c with
 | true=>exact isTrue_and_nil e
 | false=>exact e
theorem qR (ha:PT X a tA):PW X (.BoolOp .Or [a] pos) tA:=by
 intro wh pins s σ H Q I h;refine isTrue_or (A1 (ha pins s σ H Q I h) λ c s1 e=>?_);cases c with
 | false=>exact isTrue_or_nil e
 | true=>exact e
theorem qQ (ha:PT X a tA) (hb:PW X (.BoolOp .And (b::rest) pos) tB'):PW X (.BoolOp .And (a::b::rest) pos) (Jk tA tB'):=by
 intro wh pins s σ H Q I h;refine isTrue_and (A1 (ha pins s σ H _ I h) λ c s1 ⟨H1,I1,q1⟩=>?_);cases c with
 | true=>exact hb wh pins s1 σ H1 Q I1 q1
 | false=>exact ⟨H1,I1,q1⟩
theorem qg (ha:PT X a tA) (hb:PW X (.BoolOp .Or (b::rest) pos) tB'):PW X (.BoolOp .Or (a::b::rest) pos) (Q3 tA tB'):=by
 intro wh pins s σ H Q I h;refine isTrue_or (A1 (ha pins s σ H _ I h) λ c s1 ⟨H1,I1,q1⟩=>?_);cases c with
 | true=>exact ⟨H1,I1,q1⟩
 | false=>exact hb wh pins s1 σ H1 Q I1 q1
def qO (ha:PT X a tA):PT X (.UnaryOp .Not a pos) (Jj tA):=by
 intro pins s σ H Q I h;exact isTrue_not (ha pins s σ H (λ c H1=>Q (!c) H1) I h)
def Vd (ta tb:TE):TE:=λ σ H Q=>ta σ H λ x H1=>∃ c,x=.bl c/\if c=true then tb σ H1 Q else Q (.bl false) H1
def Lu (ta tb:TE):TE:=λ σ H Q=>ta σ H λ x H1=>∃ c,x=.bl c/\if c=true then Q (.bl true) H1 else tb σ H1 Q
def UU (ta:TE):TE:=λ σ H Q=>ta σ H λ x H1=>∃ c,x=.bl c/\Q (.bl (!c)) H1
def Vz {op}{t:TE} (h:PE X a t):PE X (.BoolOp op [a] pos) t:=λ pins s σ H Q I hw=>BoolOp_one (h pins s σ H Q I hw)
theorem xj (ha:PE X a ta) (hb:PE X (.BoolOp .And (b::rest) pos) tb):PE X (.BoolOp .And (a::b::rest) pos) (Vd ta tb):=by
 intro pins s σ H Q I h;refine BoolOp_and (A1 (ha pins s σ H _ I h) λ v s1 ⟨x,H1,I1,r1,q1⟩=>?_);obtain ⟨c,rfl,q1⟩:=q1;cases r1;refine Hu ?_;cases c with
 | true=>exact hb pins s1 σ H1 Q I1 q1
 | false=>exact ⟨.bl false,H1,I1,rfl,q1⟩
theorem pe_or (ha:PE X a ta) (hb:PE X (.BoolOp .Or (b::rest) pos) tb):PE X (.BoolOp .Or (a::b::rest) pos) (Lu ta tb):=by
 intro pins s σ H Q I h;refine BoolOp_or (A1 (ha pins s σ H _ I h) λ v s1 ⟨x,H1,I1,r1,q1⟩=>?_);obtain ⟨c,rfl,q1⟩:=q1;cases r1;refine Hu ?_;cases c with
 | false=>exact hb pins s1 σ H1 Q I1 q1
 | true=>exact ⟨.bl true,H1,I1,rfl,q1⟩
def xl (ha:PE X a ta):PE X (.UnaryOp .Not a pos) (UU ta):=by
 intro pins s σ H Q I h;refine UnaryOp_ (A1 (ha pins s σ H _ I h) λ v s1 ⟨x,H1,I1,r1,q1⟩=>?_);obtain ⟨c,rfl,q1⟩:=q1;cases r1;exact not_of (Hu ⟨.bl (!c),H1,I1,rfl,q1⟩)
def Uz (t:TT) (ta tb:TE):TE:=λ σ H Q=>t σ H λ c H1=>if c=true then ta σ H1 Q else tb σ H1 Q
theorem kH {c:Expr} (hc:PT X c tA) (ha:PE X a ta) (hb:PE X b tb):PE X (.IfExp c a b pos) (Uz tA ta tb):=by
 intro pins s σ H Q I h;refine wpAny_IfExp (A1 (hc pins s σ H _ I h) λ d s1 ⟨H1,I1,q1⟩=>?_);cases d with
 | true=>exact ha pins s1 σ H1 Q I1 q1
 | false=>exact hb pins s1 σ H1 Q I1 q1
end
def Bl (K:PySem.W.Frag) (H:Hp) (a:Addr) (xs:List V):Prop:=
 Rd H a (.lst xs) \/
  ∃ (o:Obj) (its:Array Ad) (n:Nat),K.lookup a=some o/\o.cls=.type "list" /\ o.dict=none/\o.data=.seq its n/\its.size<=A0/\Vals xs its.toList
def CM (K:PySem.W.Frag) (H:Hp) (a:Addr) (xs:List V):Prop:=
 Rd H a (.tup xs) \/
  ∃ (o:Obj) (its:Array Ad) (n:Nat),K.lookup a=some o/\o.cls=.type "tuple" /\ o.data=.seq its n/\its.size<=A0/\Vals xs its.toList
def Ti:Ad->Option V
 | .none=>some .non
 | .bool b=>some (.bl b)
 | .int i _=>some (.int i)
 | .str x _=>some (.str x)
 | .bytes b _=>some (.byt b)
 | .float b _=>some (.flt b)
 | .ref a=>some (.ref a)
 | .type n=>some (.ty n)
 | _=>none
theorem RelV.abs {x:V}{u:Ad} (r:RelV x u):Ti u=some x:=by
 cases x with
 | non=>cases r;rfl
 | bl _=>cases r;rfl
 | int _=>obtain ⟨t,rfl⟩:=r;rfl
 | str _=>obtain ⟨t,rfl⟩:=r;rfl
 | byt _=>obtain ⟨t,rfl⟩:=r;rfl
 | flt _=>obtain ⟨t,rfl⟩:=r;rfl
 | ref _=>cases r;rfl
 | ty _=>cases r;rfl
def RelV.inj {x y:V}{u:Ad} (r:RelV x u) (q:RelV y u):x=y:=Option.some.inj (r.abs.symm.trans q.abs)
theorem Vals.inj:∀ {xs ys:List V}{us:List Ad},Vals xs us->Vals ys us->xs=ys
 | _,_,_,.nil,.nil=>rfl
 | _,_,_,.cons r t,.cons r' t'=>by rw [r.inj r',Vals.inj t t']
section
variable {X:Cx}{pins:List (Addr×Obj)}{σ:St}{H:Hp}{s:Ai}{a:Addr}{xs ys:List V}
def Inv.list (I:Inv X pins σ H s) (h:Bl X.K H a xs):∃ its:List Ad,Vals xs its/\PlainL s.heap a its.toArray/\xs.length<=A0:=by
 rcases h with h | ⟨o,its,n,hk,hc,hd,hs,hz,r⟩
 ·obtain ⟨z,its,n,r,e⟩:=h.ok I.hok;exact ⟨its,r,⟨_,n,e,rfl,rfl,rfl⟩,z⟩
 ·refine ⟨its.toList,r,⟨o,n,I.kIn a o hk,hc,hd,by simpa using hs⟩,?_⟩;have e:=r.length;simp only [Ir] at e;omega
def Inv.tuple (I:Inv X pins σ H s) (h:CM X.K H a xs):∃ its:List Ad,Vals xs its/\IsTup s.heap a its.toArray/\xs.length<=A0:=by
 rcases h with h | ⟨o,its,n,hk,hc,hs,hz,r⟩
 ·obtain ⟨z,its,r,p⟩:=h.ok I.hok;exact ⟨its,r,p,z⟩
 ·refine ⟨its.toList,r,⟨o,I.kIn a o hk,hc,n,by simpa using hs⟩,?_⟩;have e:=r.length;simp only [Ir] at e;omega
def Inv.list_inj (I:Inv X pins σ H s) (h:Bl X.K H a xs) (h':Bl X.K H a ys):xs=ys:=by
 obtain ⟨its,r,⟨o,n,e,_,_,d⟩,_⟩:=I.list h;obtain ⟨its',r',⟨o',n',e',_,_,d'⟩,_⟩:=I.list h';rw [e] at e';cases e';rw [d] at d';injection d' with d1 _
 have:its=its':=by simpa using congrArg Ys d1
 subst this;exact r.inj r'
def Inv.tuple_inj (I:Inv X pins σ H s) (h:CM X.K H a xs) (h':CM X.K H a ys):xs=ys:=by
 obtain ⟨its,r,⟨o,e,_,n,d⟩,_⟩:=I.tuple h;obtain ⟨its',r',⟨o',e',_,n',d'⟩,_⟩:=I.tuple h';rw [e] at e';cases e';rw [d] at d';injection d' with d1 _
 have:its=its':=by simpa using congrArg Ys d1
 subst this;exact r.inj r'
end
section
variable {X:Cx}{pins:List (Addr×Obj)}{σ:St}{H:Hp}{s:Ai}{E:Ad->Ai->Prop}
end
section
variable {X:Cx}{st:Stmt}{rest:List Stmt}{t u:TS}{e:Expr}{te:TE}{pos:Pos}
def UT:TS:=λ D σ H=>D.nx σ H
def Ls (t u:TS):TS:=λ D σ H=>t { D with nx:=u D } σ H
def jd:Eo X [] UT:=λ _ _ σ H _ I h=>Nz ⟨σ,H,I,h⟩
theorem kK (h1:PS X st t) (h2:Eo X rest u):Eo X (st::rest) (Ls t u):=by
 intro pins s σ H D I h;refine wpAny_execs_cons (A1 (h1 pins s σ H { D with nx:=u D } I h) λ f s1 q=>?_);cases f with
 | next=>
  obtain ⟨σ',H',I',q⟩:=q;exact h2 pins s1 σ' H' D I' q
 | ret v=>exact q
 | brk=>exact q
 | cont=>exact q
theorem je (h1:PS X st t):Eo X [st] t:=by
 intro pins s σ H D I h;refine wpAny_execs_cons (A1 (h1 pins s σ H D I h) λ f s1 q=>?_);cases f with
 | next=>exact Nz q
 | ret v=>exact q
 | brk=>exact q
 | cont=>exact q
def Inv.quiet {pins:List (Addr×Obj)}{σ:St}{H:Hp}{s:Ai} (I:Inv X pins σ H s):interactive X.env=false:=by simp [interactive,I.ok.kind]
def Ov (te:TE):TS:=λ D σ H=>te σ H λ _ H1=>D.nx σ H1
def RN (he:PE X e te) (hs:swapsWith e none pos.line X.env=pure false:=by rfl):PS X (.Expr e pos) (Ov te):=by
 intro pins s σ H D I h;exact wpAny_Expr_any (A1 (he pins s σ H _ I h) λ v s1 ⟨x,H1,I1,r1,q1⟩=>⟨σ,H1,I1,q1⟩) I.quiet hs
def Ji (te:TE):TS:=λ D σ H=>te σ H D.rt
def RA (he:PE X e te):PS X (.Return (some e) pos) (Ji te):=by
 intro pins s σ H D I h;exact wpAny_Return_some (A1 (he pins s σ H _ I h) λ v s1 ⟨x,H1,I1,r1,q1⟩=>⟨x,σ,H1,I1,r1,q1⟩)
def Lw (c:TT) (t u:TS):TS:=λ D σ H=>c σ H λ b H1=>if b=true then t D σ H1 else u D σ H1
theorem qe {c:Expr}{a b:List Stmt}{tc:TT} (hc:PT X c tc) (ha:Eo X a t) (hb:Eo X b u):PS X (.If c a b pos) (Lw tc t u):=by
 intro pins s σ H D I h;refine wpAny_If (A1 (hc pins s σ H _ I h) λ d s1 ⟨H1,I1,q1⟩=>?_);cases d with
 | true=>exact ha pins s1 σ H1 D I1 q1
 | false=>exact hb pins s1 σ H1 D I1 q1
def R8:TS:=λ _ _ _=>False
def Xh:PS X st R8:=λ _ _ _ _ _ _ h=>h.elim
end
abbrev TG:=V->St->Hp->(St->Hp->Prop)->Prop
abbrev Iz:=List V->St->Hp->(St->Hp->Prop)->Prop
def PG (X:Cx) (target:Expr) (t:TG):Prop:=
 ∀ (pins:List (Addr×Obj)) (s:Ai) (σ:St) (H:Hp) (v:V) (u:Ad) (Q:St->Hp->Prop),Inv X pins σ H s->RelV v u->t v σ H Q ->
  An (Aw X.prog X.w) X.A (Hl target X.env u) (λ _ s'=>∃ σ' H',Inv X pins σ' H' s'/\Q σ' H') X.xe s
def K2 (X:Cx) (ts:List Expr) (t:Iz):Prop:=
 ∀ (pins:List (Addr×Obj)) (s:Ai) (σ:St) (H:Hp) (vs:List V) (us:List Ad) (Q:St->Hp->Prop),Inv X pins σ H s->Vals vs us->t vs σ H Q ->
  An (Aw X.prog X.w) X.A (assignInOrder ((Ew ts X.env).map (·.2)) us) (λ _ s'=>∃ σ' H',Inv X pins σ' H' s'/\Q σ' H') X.xe s
abbrev EU:=V->V->V->Hp->(Hp->Prop)->Prop
def HL (X:Cx) (t:EU):Prop:=
 ∀ (pins:List (Addr×Obj)) (s:Ai) (σ:St) (H:Hp) (o i v:V) (ov iv u:Ad) (Q:Hp->Prop),Inv X pins σ H s->RelV o ov->RelV i iv->RelV v u->t o i v H Q ->
  An (Aw X.prog X.w) X.A (setItem ov iv u) (λ _ s'=>∃ H',Inv X pins σ H' s'/\Q H') X.xe s
abbrev JA:=V->V->Hp->VK->Prop
def I0 (X:Cx) (op:Ho) (t:JA):Prop:=
 ∀ (pins:List (Addr×Obj)) (s:Ai) (σ:St) (H:Hp) (x y:V) (v u:Ad) (Q:VK),Inv X pins σ H s->RelV x v->RelV y u->t x y H Q ->
  An (Aw X.prog X.w) X.A (inplaceOp op v u) (EP X pins σ Q) X.xe s
section
variable {X:Cx}{pos:Pos}
def Fe (i:Nat):TG:=λ v σ H Q=>Q (σ.set i (some v)) H
def KP {i:Nat}{x:Str} (hN:X.N.Nodup) (hi:X.N[i]?=some x) (hx:E3 X.env.scope x) (hf:X.fn x=true\/X.env.scope.names.lookup x=some .local:=by first | exact .inl rfl | exact .inr rfl | assumption):PG X (.Name x pos) (Fe i):=by
 intro pins s σ H v u Q I r h;exact wpAny_assign_Name (PX I hN hi hx r (λ s' I'=>⟨_,H,I',h⟩) hf)
def Mt:Iz:=λ vs σ H Q=>vs=[]/\Q σ H
def U5 (t:TG) (u:Iz):Iz:=λ vs σ H Q=>∃ v r,vs=v::r/\t v σ H λ σ' H'=>u r σ' H' Q
def Wj:K2 X [] Mt:=by
 intro pins s σ H vs us Q I r h;obtain ⟨e,h⟩:=h;subst e;cases r;exact assignInOrder_nil ⟨σ,H,I,h⟩
theorem Xg {e:Expr}{es:List Expr}{t:TG}{u:Iz} (h1:PG X e t) (h2:K2 X es u)
  (hs:(Ew (e::es) X.env).map (·.2)=Hl e X.env::(Ew es X.env).map (·.2):=by rfl):K2 X (e::es) (U5 t u):=by
 intro pins s σ H vs us Q I r h;obtain ⟨v,vr,e1,h⟩:=h;subst e1;cases r with
 | cons r rr=>
  rw [hs];refine assignInOrder_cons (A1 (h1 pins s σ H _ _ _ I r h) λ _ s1 ⟨σ1,H1,I1,q1⟩=>?_);exact h2 pins s1 σ1 H1 _ _ Q I1 rr q1
def J5 (K:PySem.W.Frag) (n:Nat) (t:Iz):TG:=λ v σ H Q=>∃ a xs,v=.ref a/\CM K H a xs/\xs.length=n/\t xs σ H Q
def Ry {es:List Expr}{k:Nat}{t:Iz}{n:Nat} (hc:X.calm=true) (h:K2 X es t)
  (hn:(Ew es X.env).length=n:=by rfl) (hst:(Ew es X.env).findIdx? (·.1)=none:=by rfl):PG X (.Tuple es k pos) (J5 X.K n t):=by
 intro pins s σ H v u Q I r hw;obtain ⟨a,xs,e1,hq,hl,hw⟩:=hw;subst e1;cases r;obtain ⟨its,rv,ht,hz⟩:=I.tuple hq;refine assign_Tuple_tuple (I.ok.hd hc) ht (by simp [hn,<- hl,rv.length]) hst λ h' hx=>?_;have I1:Inv X pins σ H { s with heap:=h' }:=I.kept (t':=s.toks) λ b o e=>hx b o (C7 (Bc e)) e;exact h pins _ σ H xs _ Q I1 (by simpa using rv) hw
def Mr (to ti:TE) (t:EU):TG:=λ v σ H Q=>to σ H λ o H1=>ti σ H1 λ i H2=>t o i v H2 λ H3=>Q σ H3
def xt {o i:Expr}{to ti:TE}{t:EU} (ho:PE X o to) (hi:PE X i ti) (hs:HL X t)
  (ha:∀ v,Hl (.Subscript o i pos) X.env v=(do
   let ov<-holding [v] (eval o X.env);let iv<-holding [v,ov] (eval i X.env)
   standAt pos
   holding [v,ov,iv] (setItem ov iv v)
   release [v,ov,iv] []):=by intro _;rfl):PG X (.Subscript o i pos) (Mr to ti t):=by
 intro pins s σ H v u Q I r h;rw [ha];refine Ak (Jd (A1 (ho pins s σ H _ I h) λ ov s1 ⟨x,H1,I1,r1,q1⟩=>?_));refine Ak (Jd (A1 (hi pins s1 σ H1 _ I1 q1) λ iv s2 ⟨y,H2,I2,r2,q2⟩=>?_));refine Ak (wpAny_standAt (Ak (Jd (A1 (hs pins s2 σ H2 x y v ov iv u _ I2 r1 r2 r q2) λ _ s3 ⟨H3,I3,q3⟩=>?_))));exact wpAny_release ⟨σ,H3,I3,q3⟩
def EI (te:TE) (g:TG):TS:=λ D σ H=>te σ H λ x H1=>g x σ H1 D.nx
def V1 {tg e:Expr}{te:TE}{g:TG} (he:PE X e te) (hg:PG X tg g) (hs:swapsWithSole [tg] e pos.line X.env=pure false:=by rfl) (hw:swappedStores [tg] e X.env=pure none:=by rfl)
  (h1:(Ew [tg] X.env).map (·.2)=[Hl tg X.env]:=by rfl):PS X (.Assign [tg] e pos) (EI te g):=by
 intro pins s σ H D I h;refine wpAny_Assign_stores (A1 (he pins s σ H _ I h) λ v s1 ⟨x,H1,I1,r1,q1⟩=>?_) hs hw;rw [h1];exact A1 (hg pins s1 σ H1 x v _ I1 r1 q1) λ _ s2 q=>q
def V2 {i:Nat}{x:Str}{e:Expr}{te:TE}{pos':Pos} (hN:X.N.Nodup) (hi:X.N[i]?=some x) (hx:E3 X.env.scope x) (he:PE X e te) (hs:swapsWith e (some (.Name x pos')) pos.line X.env=pure false:=by rfl) (hf:X.fn x=true\/X.env.scope.names.lookup x=some .local:=by first | exact .inl rfl | exact .inr rfl | assumption):
  PS X (.Assign [.Name x pos'] e pos) (EI te (Fe i)):=by
 intro pins s σ H D I h;refine wpAny_Assign_Name (A1 (he pins s σ H _ I h) λ v s1 ⟨y,H1,I1,r1,q1⟩=>?_) hs;exact PX I1 hN hi hx r1 (λ s2 I2=>⟨_,H1,I2,q1⟩) hf
def Lx (i:Nat) (te:TE) (ti:JA):TS:=λ D σ H=>∃ x,σ[i]?=some (some x)/\te σ H λ y H1=>ti x y H1 λ z H2=>D.nx (σ.set i (some z)) H2
def qL {i:Nat}{x:Str}{e:Expr}{te:TE}{op:Ho}{ti:JA}{pos':Pos} (hN:X.N.Nodup) (hi:X.N[i]?=some x) (hx:E3 X.env.scope x) (he:PE X e te) (ho:I0 X op ti) (hf:X.fn x=true\/X.env.scope.names.lookup x=some .local:=by first | exact .inl rfl | exact .inr rfl | assumption):
  PS X (.AugAssign (.Name x pos') op e pos) (Lx i te ti):=by
 intro pins s σ H D I h;obtain ⟨v,e1,h⟩:=h;obtain ⟨m,hn,hl⟩:=I.loc;have vis:HK X.env.scope x:=by rcases hx with k | k;exact .inl k;exact .inr (.inl k)
 obtain ⟨u,r,l⟩:=hl i x v hi e1 vis;refine wpAny_AugAssign_Name ?_;have go:An (Aw X.prog X.w) X.A (eval e X.env) (λ w s₂=>An (Aw X.prog X.w) X.A (inplaceOp op u w) (λ r s₃=>An (Aw X.prog X.w) X.A (storeName X.env x r) (λ _=>SP X pins D .next) X.xe s₃) X.xe s₂) X.xe s:=by
  refine A1 (he pins s σ H _ I h) λ w s1 ⟨y,H1,I1,r1,q1⟩=>?_;refine A1 (ho pins s1 σ H1 v y u w _ I1 r r1 q1) λ z s2 ⟨zv,H2,I2,r2,q2⟩=>?_;exact PX I2 hN hi hx r2 (λ s3 I3=>⟨_,H2,I3,q2⟩) hf
 rcases l with ⟨hk,hm⟩ | ⟨hk,c,hc,hcell⟩
 ·exact wpAny_loadName_local I.ok.kind hk hn hm go
 ·rcases hk with hk | hk
  ·exact wpAny_loadName_cell I.ok.kind hk hc hcell go
  ·rcases hx with k | k
   ·have:X.env.scope.names.lookup x=some .free:=hk
    rw [k] at this;cases this
   ·have:X.env.scope.names.lookup x=some .free:=hk
    rw [k] at this;cases this
def Ve (to ti te:TE) (tget:V->V->Hp->VK->Prop) (tip:JA) (tset:EU):TS:=λ D σ H=>to σ H λ o H1=>ti σ H1 λ i H2=>tget o i H2 λ x H3=>te σ H3 λ y H4=>tip x y H4 λ z H5=>tset o i z H5 λ H6=>D.nx σ H6
def Mw (X:Cx) (t:V->V->Hp->VK->Prop):Prop:=
 ∀ (pins:List (Addr×Obj)) (s:Ai) (σ:St) (H:Hp) (o i:V) (ov iv:Ad) (Q:VK),Inv X pins σ H s->RelV o ov->RelV i iv->t o i H Q ->
  An (Aw X.prog X.w) X.A (IX ov iv) (EP X pins σ Q) X.xe s
def jc {o i e:Expr}{to ti te:TE}{tget:V->V->Hp->VK->Prop}{tip:JA}{tset:EU}{op:Ho}{tpos:Pos} (ho:PE X o to) (hi:PE X i ti) (hg:Mw X tget) (he:PE X e te) (hp:I0 X op tip) (hs:HL X tset)
  (ha:∀ ov iv new,augStore i ov iv new=(do holding [new,ov,iv] (setItem ov iv new);release [new,ov,iv] [];pure .next):=by intros;rfl):PS X (.AugAssign (.Subscript o i tpos) op e pos) (Ve to ti te tget tip tset):=by
 intro pins s σ H D I h;refine wpAny_AugAssign_SubscriptAny (A1 (ho pins s σ H _ I h) λ ov s1 ⟨x1,H1,I1,r1,q1⟩=>?_) ha;refine A1 (hi pins s1 σ H1 _ I1 q1) λ iv s2 ⟨x2,H2,I2,r2,q2⟩=>?_;refine A1 (hg pins s2 σ H2 x1 x2 ov iv _ I2 r1 r2 q2) λ old s3 ⟨x3,H3,I3,r3,q3⟩=>?_;refine A1 (he pins s3 σ H3 _ I3 q3) λ v s4 ⟨x4,H4,I4,r4,q4⟩=>?_;refine A1 (hp pins s4 σ H4 x3 x4 old v _ I4 r3 r4 q4) λ new s5 ⟨x5,H5,I5,r5,q5⟩=>?_;exact A1 (hs pins s5 σ H5 x1 x2 x5 ov iv new _ I5 r1 r2 r5 q5) λ _ s6 ⟨H6,I6,q6⟩=>⟨σ,H6,I6,q6⟩
def Mq (f:Int->Int->Int):JA:=λ x y H Q=>∃ i j,x=.int i/\y=.int j/\Q (.int (f i j)) H
def Vn:I0 X .Add (Mq λ i j=>i + j):=by
 intro pins s σ H x y v u Q I r1 r2 h;obtain ⟨i,j,e1,e2,q⟩:=h;subst e1;subst e2;obtain ⟨t,rfl⟩:=r1;obtain ⟨t',rfl⟩:=r2;exact iadd_int ⟨.int _,H,I.tok _,⟨_,rfl⟩,q⟩
def Vo:I0 X .Sub (Mq λ i j=>i - j):=by
 intro pins s σ H x y v u Q I r1 r2 h;obtain ⟨i,j,e1,e2,q⟩:=h;subst e1;subst e2;obtain ⟨t,rfl⟩:=r1;obtain ⟨t',rfl⟩:=r2;exact isub_int ⟨.int _,H,I.tok _,⟨_,rfl⟩,q⟩
end
section
variable {X:Cx}{pos:Pos}
def VG (c:TT) (tb:TS):TS:=λ D σ H=>∃ W:Nat->St->Hp->Prop,(∃ m,W m σ H)/\∀ m σ H,W m σ H ->
 c σ H λ b H1=>if b=true then ∃ N:St->Hp->Prop,(∀ σ' H',N σ' H'->∃ m',m' < m/\W m' σ' H')/\tb { D with nx:=N,ct:=N,bk:=D.nx } σ H1 else D.nx σ H1
theorem kJ {c:Expr}{body:List Stmt}{tc:TT}{tb:TS} (hp:Li (Aw X.prog X.w) X.A X.env X.xe) (hc:PT X c tc) (hb:Eo X body tb):PS X (.While c body [] pos) (VG tc tb):=by
 intro pins s σ H D I h;obtain ⟨W,⟨m0,w0⟩,turn⟩:=h;refine wpAny_While (codeAny_whileLoop (λ n s'=>∃ σ' H',Inv X pins σ' H' s'/\W n σ' H') ?_ m0 ⟨σ,H,I,w0⟩);rintro n s1 ⟨σ1,H1,I1,w1⟩;refine Jf hp (A1 (hc pins s1 σ1 H1 _ I1 (turn n σ1 H1 w1)) λ b s2 ⟨H2,I2,q2⟩=>?_);cases b with
 | true=>
  obtain ⟨N,hN,q2⟩:=q2;rw [if_pos rfl];refine Jf hp (A1 (hb pins s2 σ1 H2 _ I2 q2) λ f s3 q3=>?_);cases f with
  | next=>
   obtain ⟨σ3,H3,I3,n3⟩:=q3;obtain ⟨m',hm,w3⟩:=hN σ3 H3 n3;exact ⟨m',hm,σ3,H3,I3,w3⟩
  | cont=>
   obtain ⟨σ3,H3,I3,n3⟩:=q3;obtain ⟨m',hm,w3⟩:=hN σ3 H3 n3;exact ⟨m',hm,σ3,H3,I3,w3⟩
  | brk=>exact q3
  | ret v=>exact q3
 | false=>
  rw [if_neg Ck];exact Nz ⟨σ1,H2,I2,q2⟩
end
structure It where
 go:Nat->Hp->Prop
 yld:Nat->Hp->V->Hp->Prop
 stop:Nat->Hp->Prop
def Cw (X:Cx) (pins:List (Addr×Obj)) (H:Hp) (b:Addr):Prop:=
 H b=none/\b≠X.env.locals/\b∉X.fs/\(b∈X.ex\/X.s₀.heap.objs.size<=b)/\(∀ x c,X.env.cells.lookup x=some c->c≠b)/\∀ p∈X.pn++pins,p.1≠b
def Inv.fpOk {X:Cx}{pins:List (Addr×Obj)}{σ:St}{H H':Hp}{s:Ai}{b:Addr} (I:Inv X pins σ H s) (hb:s.heap.objs.size<=b) (hn:H' b=none):Cw X pins H' b:=by
 refine ⟨hn,FU (Cj I.lt hb),I.nofs hb,.inr (Cv I.sz hb),λ x c e z=>?_,λ p hp z=>?_⟩
 ·obtain ⟨v,q⟩:=I.cell x c e;exact absurd (Cj q.lt (by rw [z];exact hb)) (DS _)
 ·exact absurd (Cj (Bc (I.pin p hp).1) (by rw [z];exact hb)) (DS _)
structure Turn (P:A9) (w:A7) (K:PySem.W.Frag) (tg:Expr) (J:It) (fp:List Addr) (it:Addr) (tn:Nat->Heap->Prop):Prop where
 mem:it∈fp
 obj:∀ i h,tn i h->∀ b∈fp,∃ o,h.get? b=some o/\∀ v,o.data≠.cell v
 keep:∀ i h h',tn i h->(∀ b∈fp,∀ o,h.get? b=some o->h'.get? b=some o)->tn i h'
 item:∀ (X:Cx),X.prog=P->X.w=w->X.K=K->X.calm=true->∀ (i:Nat) (pins:List (Addr×Obj)) (s:Ai) (σ:St) (H:Hp) (E:Ad->Ai->Prop),Inv X pins σ H s->(∀ b∈fp,Cw X pins H b)->tn i s.heap->J.go i H ->
  An (Aw P w) X.A (FG (.ref it)) (λ r s1=>∃ u,r=some u /\
   An (Aw P w) X.A (Ny tg (.ref it) u) (λ _ s2=>∃ x H',Inv X pins σ H' s2/\RelV x u/\J.yld i H x H'/\tn (i + 1) s2.heap/\∀ b∈fp,H' b=none) E s1) E s
 done:∀ (X:Cx),X.prog=P->X.w=w->X.K=K->X.calm=true->∀ (i:Nat) (pins:List (Addr×Obj)) (s:Ai) (σ:St) (H:Hp) (E:Ad->Ai->Prop),Inv X pins σ H s->(∀ b∈fp,Cw X pins H b)->tn i s.heap->J.stop i H ->
  An (Aw P w) X.A (FG (.ref it)) (λ r s1=>r=none/\Inv X pins σ H s1) E s
 self:∀ (A:Bs) (i:Nat) (s:Ai) (Q:Ad->Ai->Prop) (E:Ad->Ai->Prop),tn i s.heap->Q (.ref it) s->An (Aw P w) A (pyIter (.ref it)) Q E s
abbrev TI:=St->Hp->(It->Hp->Prop)->Prop
def Tn (X:Cx) (pins:List (Addr×Obj)) (σ:St) (tg:Expr) (R:It->Hp->Prop) (itv:Ad) (s2:Ai):Prop:=
 ∃ (it:Addr) (fp:List Addr) (tn:Nat->Heap->Prop) (J:It) (H':Hp),itv=.ref it/\Inv X pins σ H' s2/\Turn X.prog X.w X.K tg J fp it tn/\tn 0 s2.heap/\(∀ b∈fp,Cw X pins H' b)/\R J H'
def PI (X:Cx) (tg iter:Expr) (wi:TI):Prop:=
 ∀ (pins:List (Addr×Obj)) (s:Ai) (σ:St) (H:Hp) (R:It->Hp->Prop),Inv X pins σ H s->wi σ H R ->
  An (Aw X.prog X.w) X.A (eval iter X.env) (λ v s1=>An (Aw X.prog X.w) X.A (pyIter v) (Tn X pins σ tg R) X.xe s1) X.xe s
def Jp {M:Model}{A:Bs}{E:Ad->Ai->Prop}{s:Ai}{tg:Expr}{it:Addr}{u:Ad}{o:Obj}{n:String}{vs:Array Ad}{Q:Unit->Ai->Prop} (ho:s.heap.get? it=some o) (hc:o.cls=.type n) (hd:o.data=.fields vs)
  (hn:["enumerate","zip","dict_itemiterator","dict_reverseitemiterator","odict_iterator","itertools.zip_longest","itertools.pairwise"].contains n=false) (hQ:Q () s):An M A (Ny tg (.ref it) u) Q E s:=by
 unfold Ny;cases tg <;> first
  | exact Az hQ
  | (cases u <;> first
    | exact Az hQ
    | (refine Ak (wpAny_load ho ?_);rw [hc,hd];show An M A (if (["enumerate","zip","dict_itemiterator","dict_reverseitemiterator","odict_iterator","itertools.zip_longest","itertools.pairwise"].contains n && vs[0]? == some (Ed _))=true then _ else _) Q E s;rw [if_neg (by intro h;rw [hn,Bool.false_and] at h;cases h)];exact Az hQ))
def Zd (K:PySem.W.Frag) (a:Addr):It:=
 ⟨λ i H=>∃ xs x,Bl K H a xs/\xs[i]?=some x,λ i H x H'=>H'=H/\∀ xs,Bl K H a xs->xs[i]?=some x,λ i H=>∃ xs,Bl K H a xs/\xs.length<=i⟩
def Zc (K:PySem.W.Frag) (a:Addr):It:=
 ⟨λ i H=>∃ xs x,CM K H a xs/\xs[i]?=some x,λ i H x H'=>H'=H/\∀ xs,CM K H a xs->xs[i]?=some x,λ i H=>∃ xs,CM K H a xs/\xs.length<=i⟩
def GO (lo:Int) (n:Nat):It:=⟨λ i _=>i < n,λ i H x H'=>H'=H/\x=.int (lo + i),λ i _=>n<=i⟩
def wW {P:A9}{w:A7}{K:PySem.W.Frag}{tg:Expr} (a it:Addr):Turn P w K tg (Zd K a) [it] it (λ i h=>h.IsListIter it a i) where
 mem:=by simp
 obj:=λ i h st b hb=>by
  have e:b=it:=by simpa using hb
  subst e;obtain ⟨o,e,c,d⟩:=st;exact ⟨o,e,λ v z=>by rw [d] at z;cases z⟩
 keep:=λ i h h' st k=>st.at λ o e=>k it (by simp) o e
 item:=by
  intro X hP hw hK hc i pins s σ H E I hf st hg;subst hP hw hK;obtain ⟨xs,x,hq,hx⟩:=hg;obtain ⟨its,rv,p,hz⟩:=I.list hq;obtain ⟨u,hu,ru⟩:=rv.get hx;obtain ⟨f0,f1,f2,f3,f4,f5⟩:=hf it (by simp);refine wpAny_pyNext_list_item st p.isList (x:=u) (by simpa using hu) λ h' st' sb=>?_;have I1:Inv X pins σ H { s with heap:=h' }:=I.turned (t':=s.toks) (λ b o hb e=>(sb.2 b hb).trans e) f0 f1 f3 f4 f5;obtain ⟨o,e,c,d⟩:=id st';exact ⟨u,rfl,Jp (s:={ s with heap:=h' }) e c d (by decide) ⟨x,H,I1,ru,⟨rfl,λ ys hy=>by rw [I.list_inj hy hq];exact hx⟩,st',λ b hb=>(hf b hb).1⟩⟩
 done:=by
  intro X hP hw hK hc i pins s σ H E I hf st hg;subst hP hw hK;obtain ⟨xs,hq,hx⟩:=hg;obtain ⟨its,rv,p,hz⟩:=I.list hq;obtain ⟨f0,f1,f2,f3,f4,f5⟩:=hf it (by simp);have hl:=rv.length;exact wpAny_pyNext_list_end (I.ok.hd hc) st p.isList (by simp;omega) λ h' eb=>⟨rfl,I.turned (t':=s.toks) (λ b o hb e=>eb b o hb e) f0 f1 f3 f4 f5⟩
 self:=λ _ _ _ _ _ st h=>wpAny_pyIter_listiter st h
def wV {P:A9}{w:A7}{K:PySem.W.Frag}{tg:Expr} (a it:Addr):Turn P w K tg (Zc K a) [it] it (λ i h=>h.IsTupleIter it a i) where
 mem:=by simp
 obj:=λ i h st b hb=>by
  have e:b=it:=by simpa using hb
  subst e;obtain ⟨o,e,c,d⟩:=st;exact ⟨o,e,λ v z=>by rw [d] at z;cases z⟩
 keep:=λ i h h' st k=>st.at λ o e=>k it (by simp) o e
 item:=by
  intro X hP hw hK hc i pins s σ H E I hf st hg;subst hP hw hK;obtain ⟨xs,x,hq,hx⟩:=hg;obtain ⟨its,rv,p,hz⟩:=I.tuple hq;obtain ⟨u,hu,ru⟩:=rv.get hx;obtain ⟨f0,f1,f2,f3,f4,f5⟩:=hf it (by simp);refine wpAny_pyNext_tuple_item st (show s.heap.IsTuple a its.toArray from p) (x:=u) (by simpa using hu) λ h' st' sb=>?_;have I1:Inv X pins σ H { s with heap:=h' }:=I.turned (t':=s.toks) (λ b o hb e=>(sb.2 b hb).trans e) f0 f1 f3 f4 f5;obtain ⟨o,e,c,d⟩:=id st';exact ⟨u,rfl,Jp (s:={ s with heap:=h' }) e c d (by decide) ⟨x,H,I1,ru,⟨rfl,λ ys hy=>by rw [I.tuple_inj hy hq];exact hx⟩,st',λ b hb=>(hf b hb).1⟩⟩
 done:=by
  intro X hP hw hK hc i pins s σ H E I hf st hg;subst hP hw hK;obtain ⟨xs,hq,hx⟩:=hg;obtain ⟨its,rv,p,hz⟩:=I.tuple hq;obtain ⟨f0,f1,f2,f3,f4,f5⟩:=hf it (by simp);have hl:=rv.length;exact wpAny_pyNext_tuple_end (I.ok.hd hc) st (show s.heap.IsTuple a its.toArray from p) (by simp;omega) λ h' eb=>⟨rfl,I.turned (t':=s.toks) (λ b o hb e=>eb b o hb e) f0 f1 f3 f4 f5⟩
 self:=λ _ _ _ _ _ st h=>wpAny_pyIter_tupleiter st h
def wU {P:A9}{w:A7}{K:PySem.W.Frag}{tg:Expr} (it:Addr) (lo:Int) (n:Nat):Turn P w K tg (GO lo n) [it] it (λ i h=>Nk h it (lo + (i:Nat) * 1) ((n:Int) - (i:Nat)) 1) where
 mem:=by simp
 obj:=λ i h st b hb=>by
  have e:b=it:=by simpa using hb
  subst e;exact ⟨_,st,λ v z=>by
   have z':Data.fields _=Data.cell v:=z;cases z'⟩
 keep:=λ i h h' st k=>k it (by simp) _ st
 item:=by
  intro X hP hw hK hc i pins s σ H E I hf st hg;subst hP hw hK;obtain ⟨f0,f1,f2,f3,f4,f5⟩:=hf it (by simp);have W:=Walks.range (prog:=X.prog) (w:=X.w) (I.ok.hd hc) it lo 1 n;refine W.item i s _ _ hg st λ v h' tk hv st' kk=>?_;obtain ⟨t,rfl⟩:=hv;have I1:Inv X pins σ H { s with heap:=h',toks:=tk }:=I.turned (λ b o hb e=>kk b o (by simpa using hb) e) f0 f1 f3 f4 f5;refine ⟨_,rfl,Jp (s:={ s with heap:=h',toks:=tk }) (n := "range_iterator") st' rfl rfl (by decide) ⟨.int (lo + i),H,I1,⟨t,?_⟩,⟨rfl,rfl⟩,st',λ b hb=>(hf b hb).1⟩⟩;rw [Int.mul_one]
 done:=by
  intro X hP hw hK hc i pins s σ H E I hf st hg;subst hP hw hK;obtain ⟨f0,f1,f2,f3,f4,f5⟩:=hf it (by simp);exact wpAny_pyNext_range_end (I.ok.hd hc) st (by have:n<=i:=hg;omega) λ h' eb=>⟨rfl,I.turned (t':=s.toks) (λ b o hb e=>eb b o hb e) f0 f1 f3 f4 f5⟩
 self:=λ _ _ _ _ _ st h=>wpAny_pyIter_rangeiter st h
section
variable {X:Cx}{tg:Expr}
def X0 {pins:List (Addr×Obj)}{σ:St}{H:Hp}{s:Ai}{R:It->Hp->Prop}{E:Ad->Ai->Prop}{lo hi:Int}{t u v:Tok}{tk:Nat} (I:Inv X pins σ H s) (h1:-(2 ^ 62)<=lo) (h2:lo < 2 ^ 62) (h3:-(2 ^ 62)<=hi) (h4:hi < 2 ^ 62)
  (q:R (GO lo (hi - lo).toNat) H):An (Aw X.prog X.w) X.A (pyIter (.ref s.heap.objs.size)) (Tn X pins σ tg R) E { s with heap:=s.heap.push { cls:=.type "range",data:=.fields #[.int lo t,.int hi u,.int 1 v] },toks:=tk }:=by
 refine wpAny_pyIter_range (IsRange.new ..) (small_one h1 h2 h3 h4) ?_;have I1:Inv X pins σ H { s with heap:=s.heap.push { cls:=.type "range",data:=.fields #[.int lo t,.int hi u,.int 1 v] },toks:=tk }:=I.kept λ b o e=>Ci _ e;refine ⟨(s.heap.push { cls:=.type "range",data:=.fields #[.int lo t,.int hi u,.int 1 v] }).objs.size,[(s.heap.push { cls:=.type "range",data:=.fields #[.int lo t,.int hi u,.int 1 v] }).objs.size],_,_,H,rfl,
  I1.kept (t':=tk) λ b o e=>Ci _ e,wU _ lo (hi - lo).toNat,?_,λ b hb=>?_,q⟩
 ·have e1:lo + ((0:Nat):Int) * 1=lo:=by simp
  have e2:(((hi - lo).toNat:Nat):Int) - ((0:Nat):Int)=Builtin.Range.rangeSize lo hi 1:=by rw [rangeSize_one];split <;> omega
  show Nk _ _ (lo + ((0:Nat):Int) * 1) ((((hi - lo).toNat:Nat):Int) - ((0:Nat):Int)) 1;rw [e1,e2];exact C0 _ rfl
 ·have e:b=(s.heap.push { cls:=.type "range",data:=.fields #[.int lo t,.int hi u,.int 1 v] }).objs.size:=by simpa using hb
  subst e;exact I1.fpOk (A5 _) (I1.hok.fresh (A5 _))
def Ow (ta:TA):TI:=λ σ H R=>ta σ H λ vs H1=>∃ j:Int,vs=[.int j]/\-(2 ^ 62)<=j/\j < 2 ^ 62/\R (GO 0 j.toNat) H1
def Ox (ta:TA):TI:=λ σ H R=>ta σ H λ vs H1=>∃ i j:Int,vs=[.int i,.int j]/\(-(2 ^ 62)<=i/\i < 2 ^ 62/\-(2 ^ 62)<=j/\j < 2 ^ 62)/\R (GO i (j - i).toNat) H1
theorem wk {a:Expr}{ta:TA}{p pos:Pos} (hg:Gl X "range") (hm:X.mg "range" = none) (ha:PA X [a] ta) (hs:AA [a] X.env=[(false,eval a X.env)]:=by rfl):PI X tg (.Call (.Name "range" p) [a] [] pos) (Ow ta):=by
 intro pins s σ H R I h;refine Call_ (GB I hg hm boot_range (Im (A1 (ha pos pins s σ H _ I h) λ us s1 ⟨vs,H1,I1,r1,q1⟩=>?_) hs rfl));obtain ⟨j,e,q1,q2,q⟩:=q1;subst e;cases r1 with
 | cons r rr=>
  cases rr;obtain ⟨t,rfl⟩:=r;exact call_range_1 (X0 I1 (by omega) (by omega) q1 q2 (by simpa using q))
theorem wm {a b:Expr}{ta:TA}{p pos:Pos} (hg:Gl X "range") (hm:X.mg "range" = none) (ha:PA X [a,b] ta) (hs:AA [a,b] X.env=[(false,eval a X.env),(false,eval b X.env)]:=by rfl) (hs2:AA [b] X.env=[(false,eval b X.env)]:=by rfl):
  PI X tg (.Call (.Name "range" p) [a,b] [] pos) (Ox ta):=by
 intro pins s σ H R I h;refine Call_ (GB I hg hm boot_range (Im (A1 (ha pos pins s σ H _ I h) λ us s1 ⟨vs,H1,I1,r1,q1⟩=>?_) (by rw [hs,hs2]) (by rw [hs2];rfl)));obtain ⟨i,j,e,⟨q1,q2,q3,q4⟩,q⟩:=q1;subst e;cases r1 with
 | cons r rr=>
  cases rr with
  | cons r' rr=>
   cases rr;obtain ⟨t,rfl⟩:=r;obtain ⟨t',rfl⟩:=r';exact call_range_2 (X0 I1 q1 q2 q3 q4 q)
def Dr (wi:TI) (g:TG) (tb:TS):TS:=λ D σ H=>wi σ H λ J H1=>∃ W:Nat->Nat->St->Hp->Prop,(∃ m,W 0 m σ H1)/\∀ i m σ H,W i m σ H ->
 (J.stop i H/\D.nx σ H)\/(J.go i H/\∃ N:St->Hp->Prop,(∀ σ' H',N σ' H'->∃ m',m' < m/\W (i + 1) m' σ' H')/\∀ x H',J.yld i H x H'->g x σ H' λ σ2 H2=>tb { D with nx:=N,ct:=N,bk:=D.nx } σ2 H2)
def LQ (fp:List Addr) (h:Heap):List (Addr×Obj):=fp.filterMap λ b=>(h.get? b).map λ o=>(b,o)
def MB {fp:List Addr}{h:Heap}{b:Addr}{o:Obj} (hb:b∈fp) (e:h.get? b=some o):(b,o)∈LQ fp h:=jp5.mpr ⟨b,hb,by rw [e];rfl⟩
theorem we {fp:List Addr}{h:Heap}{p:Addr×Obj} (hp:p∈LQ fp h):p.1∈fp/\h.get? p.1=some p.2:=by
 obtain ⟨b,hb,e⟩:=jp5.mp hp;cases q:h.get? b with
 | none=>rw [q] at e;cases e
 | some o=>
  rw [q] at e;have e':(b,o)=p:=Option.some.inj e;subst e';exact ⟨hb,q⟩
def Inv.pinned {pins:List (Addr×Obj)}{σ:St}{H:Hp}{s:Ai}{fp:List Addr} (I:Inv X pins σ H s) (hf:∀ b∈fp,Cw X pins H b) (ho:∀ b∈fp,∃ o,s.heap.get? b=some o/\∀ v,o.data≠.cell v):Inv X (pins++LQ fp s.heap) σ H s:=
 I.pins_of λ p hp=>(jd7.mp hp).elim (λ z=>I.pin p (BJ _ z)) λ z=>by
  obtain ⟨hb,e⟩:=we z;obtain ⟨f0,f1,f2,_⟩:=hf p.1 hb;obtain ⟨o,e',d⟩:=ho p.1 hb;rw [e] at e';cases e';exact ⟨e,f0,f1,f2,d⟩
def Inv.unpinned {pins pl:List (Addr×Obj)}{σ:St}{H:Hp}{s:Ai} (I:Inv X (pins++pl) σ H s):Inv X pins σ H s:=I.pins_of λ p hp=>I.pin p (BJ _ (BP _ hp))
def Fc {iter:Expr}{body:List Stmt}{wi:TI}{g:TG}{tb:TS}{pos:Pos} (hp:Li (Aw X.prog X.w) X.A X.env X.xe) (hc:X.calm=true) (hi:PI X tg iter wi) (hg:PG X tg g) (hb:Eo X body tb)
  (hs:∀ x,N3 iter X.env x=pure x:=by intro _;rfl):PS X (.For tg iter body [] pos) (Dr wi g tb):=by
 intro pins s σ H D I h;refine wpAny_For (A1 (hi pins s σ H _ I h) λ v s1 h1=>A1 h1 λ itv s2 h2=>?_) hs;obtain ⟨it,fp,tn,J,H2,e,I2,T,st2,f2,W,⟨m0,w0⟩,turn⟩:=h2;subst e;have stat:∀ {H':Hp},(∀ b∈fp,H' b=none)->∀ b∈fp,Cw X pins H' b:=λ hn b hb=>⟨hn b hb,(f2 b hb).2⟩
 refine codeAny_forLoop_any (λ n s'=>∃ i σ' H',Inv X pins σ' H' s'/\tn i s'.heap/\(∀ b∈fp,H' b=none)/\W i n σ' H') ?_ m0 ⟨0,σ,H2,I2,st2,λ b hb=>(f2 b hb).1,w0⟩;rintro n s3 ⟨i,σ3,H3,I3,st3,fr3,w3⟩;rcases turn i n σ3 H3 w3 with ⟨stop,qn⟩ | ⟨go,N,hN,step⟩
 ·refine Jf hp (A1 (T.done X rfl rfl rfl hc i pins s3 σ3 H3 X.xe I3 (stat fr3) st3 stop) λ r s4 ⟨hr,I4⟩=>?_);subst hr;exact Nz ⟨σ3,H3,I4,qn⟩
 ·refine Jf hp (A1 (T.item X rfl rfl rfl hc i pins s3 σ3 H3 X.xe I3 (stat fr3) st3 go) λ r s4 ⟨u,hr,h4⟩=>?_);subst hr;refine Jf hp (A1 h4 λ _ s5 ⟨x,H5,I5,r5,y5,st5,fr5⟩=>?_);have I5':=I5.pinned (stat fr5) (T.obj _ _ st5);refine Jf hp (A1 (hg _ s5 σ3 H5 x u _ I5' r5 (step x H5 y5)) λ _ s6 ⟨σ6,H6,I6,q6⟩=>?_);refine Jf hp (A1 (hb _ s6 σ6 H6 _ I6 q6) λ f s7 q7=>?_);have again:∀ {σ7:St}{H7:Hp},Inv X (pins++LQ fp s5.heap) σ7 H7 s7->N σ7 H7->∃ m,m < n/\∃ i σ' H',Inv X pins σ' H' s7/\tn i s7.heap/\(∀ b∈fp,H' b=none)/\W i m σ' H':=λ {σ7 H7} I7 n7=>by
   obtain ⟨m',hm,w7⟩:=hN σ7 H7 n7;refine ⟨m',hm,i + 1,σ7,H7,I7.unpinned,T.keep _ _ _ st5 λ b hb o e=>(I7.pin (b,o) (BJ _ (BJ _ (MB hb e)))).1,λ b hb=>?_,w7⟩;obtain ⟨o,e,d⟩:=T.obj _ _ st5 b hb;exact (I7.pin (b,o) (BJ _ (BJ _ (MB hb e)))).2.1
  cases f with
  | next=>obtain ⟨σ7,H7,I7,n7⟩:=q7;exact again I7 n7
  | cont=>obtain ⟨σ7,H7,I7,n7⟩:=q7;exact again I7 n7
  | brk=>obtain ⟨σ7,H7,I7,q7⟩:=q7;exact ⟨σ7,H7,I7.unpinned,q7⟩
  | ret v=>obtain ⟨x7,σ7,H7,I7,r7,q7⟩:=q7;exact ⟨x7,σ7,H7,I7.unpinned,r7,q7⟩
end
abbrev R2:=V->V->Hp->VK->Prop
def OpR (X:Cx) (f:Ad->Ad->Sem Ad) (r:R2):Prop:=
 ∀ (pins:List (Addr×Obj)) (s:Ai) (σ:St) (H:Hp) (x y:V) (v u:Ad) (Q:VK),Inv X pins σ H s->RelV x v->RelV y u->r x y H Q ->
  An (Aw X.prog X.w) X.A (f v u) (EP X pins σ Q) X.xe s
def Tj (X:Cx) (f:Ad->Sem Ad) (r:V->Hp->VK->Prop):Prop:=
 ∀ (pins:List (Addr×Obj)) (s:Ai) (σ:St) (H:Hp) (x:V) (v:Ad) (Q:VK),Inv X pins σ H s->RelV x v->r x H Q ->
  An (Aw X.prog X.w) X.A (f v) (EP X pins σ Q) X.xe s
def zvc (X:Cx) (f:Ad) (r:List V->Hp->VK->Prop):Prop:=
 ∀ (pins:List (Addr×Obj)) (s:Ai) (σ:St) (H:Hp) (xs:List V) (us:List Ad) (Q:VK),Inv X pins σ H s->Vals xs us->r xs H Q ->
  An (Aw X.prog X.w) X.A (call f us) (EP X pins σ Q) X.xe s
def Kg (r:R2) (ta tb:TE):TE:=λ σ H Q=>ta σ H λ x H1=>tb σ H1 λ y H2=>r x y H2 Q
def Q1 (r:V->Hp->VK->Prop) (ta:TE):TE:=λ σ H Q=>ta σ H λ x H1=>r x H1 Q
def rI (C:Int->Int->Prop) (g:Int->Int->V):R2:=λ x y H Q=>∃ i j,x=.int i/\y=.int j/\C i j/\Q (g i j) H
def Fh (g:Int->Int->V):R2:=λ x y H Q=>∃ i j,x=.int i/\y=.int j/\Q (g i j) H
def rU (g:Int->V):V->Hp->VK->Prop:=λ x H Q=>∃ i,x=.int i/\Q (g i) H
section
variable {X:Cx}{a b c:Expr}{ta tb tc:TE}{pos:Pos}
def J8 (ha:PE X a ta) (hb:PE X b tb) {pins:List (Addr×Obj)}{s:Ai}{σ:St}{H:Hp}{R:V->V->Hp->Prop} (I:Inv X pins σ H s)
  (h:ta σ H λ x H1=>tb σ H1 λ y H2=>R x y H2) {Q:Ad->Ai->Prop}{f:Ad->Ad->Sem Ad}
  (hf:∀ v u s2 x y H2,Inv X pins σ H2 s2->RelV x v->RelV y u->R x y H2->An (Aw X.prog X.w) X.A (f v u) Q X.xe s2):
  An (Aw X.prog X.w) X.A (eval a X.env) (λ v s₁=>An (Aw X.prog X.w) X.A (eval b X.env) (λ u s₂=>An (Aw X.prog X.w) X.A (f v u) Q X.xe s₂) X.xe s₁) X.xe s:=by
 refine A1 (ha pins s σ H _ I h) λ v s1 ⟨x,H1,I1,r1,q1⟩=>?_;refine A1 (hb pins s1 σ H1 _ I1 q1) λ u s2 ⟨y,H2,I2,r2,q2⟩=>?_;exact hf v u s2 x y H2 I2 r1 r2 q2
def QY {op:Ho}{r:R2} (ho:OpR X (EE op) r) (ha:PE X a ta) (hb:PE X b tb):PE X (.BinOp a op b pos) (Kg r ta tb):=by
 intro pins s σ H Q I h;exact wpAny_BinOp (J8 ha hb I h λ v u s2 x y H2 I2 rx ry q=>ho pins s2 σ H2 x y v u Q I2 rx ry q)
def ZO {op:UnaryOp}{r:V->Hp->VK->Prop} (ho:Tj X (unaryOp op) r) (ha:PE X a ta):PE X (.UnaryOp op a pos) (Q1 r ta):=by
 intro pins s σ H Q I h;exact UnaryOp_ (A1 (ha pins s σ H _ I h) λ v s1 ⟨x,H1,I1,r1,q1⟩=>ho pins s1 σ H1 x v Q I1 r1 q1)
def LV {f:Ad->Ad->Sem Ad}{C:Int->Int->Prop}{g:Int->Int->Int}
  (rule:∀ (i j:Int) (t u:Tok) (s:Ai) (Q:Ad->Ai->Prop) (E:Ad->Ai->Prop),C i j->Q (.int (g i j) s.toks) { s with toks:=s.toks + 1 }->An (Aw X.prog X.w) X.A (f (.int i t) (.int j u)) Q E s):
  OpR X f (rI C λ i j=>.int (g i j)):=by
 intro pins s σ H x y v u Q I rx ry h;obtain ⟨i,j,rfl,rfl,hc,q⟩:=h;obtain ⟨t,rfl⟩:=rx;obtain ⟨t',rfl⟩:=ry;exact rule i j t t' s _ _ hc ⟨.int (g i j),H,I.tok _,⟨_,rfl⟩,q⟩
def Sb {f:Ad->Ad->Sem Ad}{g:Int->Int->Int}
  (rule:∀ (i j:Int) (t u:Tok) (s:Ai) (Q:Ad->Ai->Prop) (E:Ad->Ai->Prop),Q (.int (g i j) s.toks) { s with toks:=s.toks + 1 }->An (Aw X.prog X.w) X.A (f (.int i t) (.int j u)) Q E s):
  OpR X f (Fh λ i j=>.int (g i j)):=by
 intro pins s σ H x y v u Q I rx ry h;obtain ⟨i,j,rfl,rfl,q⟩:=h;obtain ⟨t,rfl⟩:=rx;obtain ⟨t',rfl⟩:=ry;exact rule i j t t' s _ _ ⟨.int (g i j),H,I.tok _,⟨_,rfl⟩,q⟩
def Hy {f:Ad->Ad->Sem Ad}{g:Int->Int->Bool}
  (rule:∀ (i j:Int) (t u:Tok) (s:Ai) (Q:Ad->Ai->Prop) (E:Ad->Ai->Prop),Q (.bool (g i j)) s->An (Aw X.prog X.w) X.A (f (.int i t) (.int j u)) Q E s):
  OpR X f (Fh λ i j=>.bl (g i j)):=by
 intro pins s σ H x y v u Q I rx ry h;obtain ⟨i,j,rfl,rfl,q⟩:=h;obtain ⟨t,rfl⟩:=rx;obtain ⟨t',rfl⟩:=ry;exact rule i j t t' s _ _ ⟨.bl (g i j),H,I,rfl,q⟩
def M3 (i j:Int):Prop:=0<=j/\j<=1000000/\i.natAbs < 2 ^ 64
def CMul (i j:Int):Prop:=(-(2 ^ 64) < i/\i < 2 ^ 64)\/(-(2 ^ 64) < j/\j < 2 ^ 64)
def CMul.ok {i j:Int} (h:CMul i j):IntMulOk i j:=by
 rcases h with ⟨h1,h2⟩ | ⟨h1,h2⟩
 ·exact .of_left (intBits_le_64 h1 h2)
 ·exact .of_right (intBits_le_64 h1 h2)
def qrr:OpR X (EE .Add) (Fh λ i j=>.int (i + j)):=Sb λ _ _ _ _ _ _ _ q=>add_int q
def qre:OpR X (EE .Mult) (rI CMul λ i j=>.int (i * j)):=LV λ _ _ _ _ _ _ _ hc q=>mul_int q hc.ok
def qz:OpR X (EE .Mod) (rI (λ _ j=>0 < j) λ i j=>.int (i % j)):=LV λ i j _ _ _ _ _ hc q=>by
 have h1:(0:Int) < j:=hc;exact mod_int' (by omega) (by rw [Int.fmod_eq_emod_of_nonneg i (by omega)];exact q)
def q9:OpR X (EE .Pow) (rI M3 λ i j=>.int (i ^ j.toNat)):=LV λ _ _ _ _ _ _ _ hc q=>pow_int_small hc.1 hc.2.1 hc.2.2 q
def Z6 {f:Ad->Sem Ad}{g:Int->Int}
  (rule:∀ (i:Int) (t:Tok) (s:Ai) (Q:Ad->Ai->Prop) (E:Ad->Ai->Prop),Q (.int (g i) s.toks) { s with toks:=s.toks + 1 }->An (Aw X.prog X.w) X.A (f (.int i t)) Q E s):
  Tj X f (rU λ i=>.int (g i)):=by
 intro pins s σ H x v Q I rx h;obtain ⟨i,rfl,q⟩:=h;obtain ⟨t,rfl⟩:=rx;exact rule i t s _ _ ⟨.int (g i),H,I.tok _,⟨_,rfl⟩,q⟩
def xJ:Tj X (unaryOp .USub) (rU λ i=>.int (-i)):=Z6 λ _ _ _ _ _ q=>neg_int q
end
def Q7:V->V->Bool
 | .non,.non=>true | .non,.int _=>true | .int _,.non=>true | .non,.bl _=>true | .bl _,.non=>true | .non,.str _=>true | .str _,.non=>true
 | .int _,.int _=>true | .bl _,.bl _=>true | .str _,.str _=>true | .byt _,.byt _=>true
 | .int _,.str _=>true | .str _,.int _=>true | .bl _,.str _=>true | .str _,.bl _=>true
 | _,_=>false
def Z9:R2:=λ x y H Q=>Q7 x y=true/\Q (.bl (decide (x=y))) H
def We {i j:Int}:decide (V.int i=V.int j)=(i == j):=by
 rw [DO];simp
def ZY {i j:Bool}:decide (V.bl i=V.bl j)=(i == j):=by
 rw [DO];simp
def zh {i j:Str}:decide (V.str i=V.str j)=(i == j):=by
 rw [DO];simp
def ze {i j:Array UInt8}:decide (V.byt i=V.byt j)=(i.toList == j.toList):=by
 rw [DO];cases i;cases j;simp
section
variable {X:Cx}{a b c:Expr}{ta tb tc:TE}{pos:Pos}
def D7 {pins:List (Addr×Obj)}{σ:St}{H:Hp}{s:Ai}{Q:VK}{k k':Bool} (I:Inv X pins σ H s) (q:Q (.bl k) H) (e:k=k'):EP X pins σ Q (.bool k') s:=by
 subst e;exact ⟨.bl k,H,I,rfl,q⟩
theorem ZL:OpR X (Cn .Eq) Z9:=by
 intro pins s σ H x y v u Q I rx ry h;obtain ⟨hs,q⟩:=h;cases x with
 | non=>
  cases rx;cases y with
  | non=>cases ry;exact PySem.EqNone.eq_none_none (D7 I q (by simp))
  | bl j=>cases ry;exact PySem.EqNone.eq_none_bool (D7 I q (by simp))
  | int j=>obtain ⟨t',rfl⟩:=ry;exact PySem.EqNone.eq_none_int (D7 I q (by simp))
  | str j=>obtain ⟨t',rfl⟩:=ry;exact PySem.EqNone.eq_none_str (D7 I q (by simp))
  | _=>exact absurd (show false=true from hs) Ck
 | bl i=>
  cases rx;cases y with
  | non=>cases ry;exact PySem.EqNone.eq_bool_none (D7 I q (by simp))
  | bl j=>cases ry;exact eq_bool (D7 I q ZY)
  | str j=>obtain ⟨t',rfl⟩:=ry;exact PySem.EqMixed.eq_bool_str (D7 I q (by simp))
  | _=>exact absurd (show false=true from hs) Ck
 | int i=>
  obtain ⟨t,rfl⟩:=rx;cases y with
  | non=>cases ry;exact PySem.EqNone.eq_int_none (D7 I q (by simp))
  | int j=>obtain ⟨t',rfl⟩:=ry;exact eq_int (D7 I q We)
  | str j=>obtain ⟨t',rfl⟩:=ry;exact PySem.EqMixed.eq_int_str (D7 I q (by simp))
  | _=>exact absurd (show false=true from hs) Ck
 | str i=>
  obtain ⟨t,rfl⟩:=rx;cases y with
  | non=>cases ry;exact PySem.EqNone.eq_str_none (D7 I q (by simp))
  | bl j=>cases ry;exact PySem.EqMixed.eq_str_bool (D7 I q (by simp))
  | int j=>obtain ⟨t',rfl⟩:=ry;exact PySem.EqMixed.eq_str_int (D7 I q (by simp))
  | str j=>obtain ⟨t',rfl⟩:=ry;exact eq_str (D7 I q zh)
  | _=>exact absurd (show false=true from hs) Ck
 | byt i=>
  obtain ⟨t,rfl⟩:=rx;cases y with
  | byt j=>obtain ⟨t',rfl⟩:=ry;exact PySem.W.eq_bytes (D7 I q ze)
  | _=>exact absurd (show false=true from hs) Ck
 | _=>cases y <;> exact absurd (show false=true from hs) Ck
def UK:OpR X (Cn .Lt) (Fh λ i j=>.bl (decide (i < j))):=Hy λ _ _ _ _ _ _ _ q=>lt_int q
def UJ:OpR X (Cn .LtE) (Fh λ i j=>.bl (decide (i<=j))):=Hy λ _ _ _ _ _ _ _ q=>le_int q
def UI:OpR X (Cn .Gt) (Fh λ i j=>.bl (decide (j < i))):=Hy λ _ _ _ _ _ _ _ q=>gt_int q
def UH:OpR X (Cn .GtE) (Fh λ i j=>.bl (decide (j<=i))):=Hy λ _ _ _ _ _ _ _ q=>ge_int q
def qw:OpR X (Cn .Is) (λ x y H Q=>y=.non/\Q (.bl (decide (x=.non))) H):=by
 intro pins s σ H x y v u Q I rx ry h;obtain ⟨rfl,q⟩:=h;cases ry;refine is_none_gen (D7 I q ?_);cases x <;> first
  | (cases rx;rfl)
  | (obtain ⟨t,rfl⟩:=rx;rfl)
def zO:OpR X (Cn .IsNot) (λ x y H Q=>y=.non/\Q (.bl (!decide (x=.non))) H):=by
 intro pins s σ H x y v u Q I rx ry h;obtain ⟨rfl,q⟩:=h;cases ry;refine isnot_none_gen (D7 I q ?_);cases x <;> first
  | (cases rx;rfl)
  | (obtain ⟨t,rfl⟩:=rx;rfl)
def OpR.or {f:Ad->Ad->Sem Ad}{r r':R2} (h:OpR X f r) (h':OpR X f r'):OpR X f (λ x y H Q=>r x y H Q\/r' x y H Q):=by
 intro pins s σ H x y v u Q I rx ry q;rcases q with q | q
 ·exact h pins s σ H x y v u Q I rx ry q
 ·exact h' pins s σ H x y v u Q I rx ry q
def zS {op:Eu}{r:R2} (ho:OpR X (Cn op) r) (ha:PE X a ta) (hb:PE X b tb) (hm:Kb op b=false):PE X (.Compare a [op] [b] pos) (Kg r ta tb):=by
 intro pins s σ H Q I h;exact wpAny_Compare1 (J8 ha hb I h λ v u s2 x y H2 I2 rx ry q=>ho pins s2 σ H2 x y v u Q I2 rx ry q) hm
def UY (t:TE):TT:=λ σ H Q=>t σ H λ x H'=>∃ k,x=.bl k/\Q k H'
def jf {op:Eu}{r:R2} (ho:OpR X (Cn op) r) (ha:PE X a ta) (hb:PE X b tb) (hm:Kb op b=false):PT X (.Compare a [op] [b] pos) (UY (Kg r ta tb)):=by
 intro pins s σ H Q I h;refine wpAny_isTrue_Compare1 (A1 (ha pins s σ H _ I h) λ v s1 ⟨x,H1,I1,r1,q1⟩=>A1 (hb pins s1 σ H1 _ I1 q1) λ u s2 ⟨y,H2,I2,r2,q2⟩=>
  A1 (ho pins s2 σ H2 x y v u _ I2 r1 r2 q2) λ c s3 ⟨z,H3,I3,r3,k,e,q3⟩=>?_) hm
 subst e;cases r3;exact Hu ⟨H3,I3,q3⟩
def R7 (r r':R2) (ta tb tc:TE):TE:=λ σ H Q=>ta σ H λ x H1=>tb σ H1 λ y H2=>r x y H2 λ z H3=>∃ k,z=.bl k /\
 (if k=true then tc σ H3 λ w' H4=>r' y w' H4 Q else Q (.bl false) H3)
theorem kF {op op':Eu}{r r':R2} (ho:OpR X (Cn op) r) (ho':OpR X (Cn op') r') (ha:PE X a ta) (hb:PE X b tb) (hc:PE X c tc)
  (hm:lastMarks [op,op'] [b,c]=false:=by with_unfolding_all rfl):PE X (.Compare a [op,op'] [b,c] pos) (R7 r r' ta tb tc):=by
 intro pins s σ H Q I h;refine Compare_chain (A1 (ha pins s σ H _ I h) λ v s1 ⟨x,H1,I1,r1,q1⟩=>chain_link (A1 (hb pins s1 σ H1 _ I1 q1) λ u s2 ⟨y,H2,I2,r2,q2⟩=>
  A1 (ho pins s2 σ H2 x y v u _ I2 r1 r2 q2) λ d s3 ⟨z,H3,I3,r3,k,e,q3⟩=>?_)) hm
 subst e;cases r3;refine Hu ?_;cases k with
 | false=>exact ite_ff ⟨.bl false,H3,I3,rfl,q3⟩
 | true=>exact ite_tt (chain_last (A1 (hc pins s3 σ H3 _ I3 q3) λ w' s4 ⟨z',H4,I4,r4,q4⟩=>ho' pins s4 σ H4 y z' u w' Q I4 r2 r4 q4))
theorem kL {op op':Eu}{r r':R2} (ho:OpR X (Cn op) r) (ho':OpR X (Cn op') r') (ha:PE X a ta) (hb:PE X b tb) (hc:PE X c tc)
  (hm:lastMarks [op,op'] [b,c]=false:=by with_unfolding_all rfl):PT X (.Compare a [op,op'] [b,c] pos) (UY (R7 r r' ta tb tc)):=by
 intro pins s σ H Q I h;refine isTrue_chain (A1 (ha pins s σ H _ I h) λ v s1 ⟨x,H1,I1,r1,q1⟩=>test_link (A1 (hb pins s1 σ H1 _ I1 q1) λ u s2 ⟨y,H2,I2,r2,q2⟩=>
  A1 (ho pins s2 σ H2 x y v u _ I2 r1 r2 q2) λ d s3 ⟨z,H3,I3,r3,k,e,q3⟩=>?_)) hm
 subst e;cases r3;refine Hu ?_;cases k with
 | false=>
  obtain ⟨k',e',q'⟩:=q3;cases e';exact ite_ff ⟨H3,I3,q'⟩
 | true=>
  refine ite_tt (test_last (A1 (hc pins s3 σ H3 _ I3 q3) λ w' s4 ⟨z',H4,I4,r4,q4⟩=>A1 (ho' pins s4 σ H4 y z' u w' _ I4 r2 r4 q4) λ d' s5 ⟨z2,H5,I5,r5,k2,e2,q5⟩=>?_));subst e2;cases r5;exact Hu ⟨H5,I5,q5⟩
def IP:(A0:Nat) < 2 ^ 63:=by rw [sizeLine_eq];decide
def yg:OpR X (inplaceOp .Add) (λ x y H Q=>∃ i j,x=.str i/\y=.str j/\i.length + j.length<=A0/\Q (.str (i++j)) H):=by
 intro pins s σ H x y v u Q I rx ry h;obtain ⟨i,j,rfl,rfl,hz,q⟩:=h;obtain ⟨t,rfl⟩:=rx;obtain ⟨t',rfl⟩:=ry;exact iadd_str (λ t' tk=>⟨.str (i++j),H,I.tok _,⟨_,rfl⟩,q⟩) hz
theorem Fd {x:V}{us:List Ad} (r:Vals [x] us):∃ u,us=[u]/\RelV x u:=by
 cases r with
 | cons r1 r2=>cases r2;exact ⟨_,rfl,r1⟩
theorem Rc {x y:V}{us:List Ad} (r:Vals [x,y] us):∃ u w',us=[u,w']/\RelV x u/\RelV y w':=by
 cases r with
 | cons r1 r2=>
  cases r2 with
  | cons r3 r4=>cases r4;exact ⟨_,_,rfl,r1,r3⟩
def v7 (hc:X.calm=true):zvc X (.builtin "max") (λ xs H Q=>∃ i j,xs=[.int i,.int j]/\Q (.int (if j > i then j else i)) H):=by
 intro pins s σ H xs us Q I r h;obtain ⟨i,j,rfl,q⟩:=h;obtain ⟨u,w',rfl,⟨t,rfl⟩,⟨t',rfl⟩⟩:=Rc r;refine max_two_ints (I.ok.hd hc) λ h' tk k=>⟨_,H,I.kept k,?_,q⟩
 by_cases hj:j > i
 ·rw [if_pos hj,if_pos hj];exact ⟨_,rfl⟩
 ·rw [if_neg hj,if_neg hj];exact ⟨_,rfl⟩
def v9 (hc:X.calm=true):zvc X (.builtin "min") (λ xs H Q=>∃ i j,xs=[.int i,.int j]/\Q (.int (if j < i then j else i)) H):=by
 intro pins s σ H xs us Q I r h;obtain ⟨i,j,rfl,q⟩:=h;obtain ⟨u,w',rfl,⟨t,rfl⟩,⟨t',rfl⟩⟩:=Rc r;refine min_two_ints (I.ok.hd hc) λ h' tk k=>⟨_,H,I.kept k,?_,q⟩
 by_cases hj:j < i
 ·rw [if_pos hj,if_pos hj];exact ⟨_,rfl⟩
 ·rw [if_neg hj,if_neg hj];exact ⟨_,rfl⟩
def vz:zvc X (.type "int") (λ xs H Q=>(∃ i,xs=[.int i]/\Q (.int i) H)\/∃ k,xs=[.bl k]/\Q (.int (if k then 1 else 0)) H):=by
 intro pins s σ H xs us Q I r h;rcases h with ⟨i,rfl,q⟩ | ⟨k,rfl,q⟩
 ·obtain ⟨u,rfl,t,rfl⟩:=Fd r;exact call_int_int ⟨.int i,H,I,⟨_,rfl⟩,q⟩
 ·obtain ⟨u,rfl,r1⟩:=Fd r;cases r1;exact call_int_bool ⟨.int (if k then 1 else 0),H,I.tok _,⟨_,rfl⟩,q⟩
end
structure ObjM (h:Heap) (x dx C:Addr) (mA:Str->Option Ad):Prop where
 obj:h.get? x=some (Qi C dx)
 ns:h.Ns1 dx mA
 ne:dx≠x
def wt {h:Heap}{dx:Addr}{mA:Str->Option Ad} (n:h.Ns1 dx mA):∃ od,h.get? dx=some od/\∀ name,Qg name od=some (mA name):=by
 obtain ⟨o,es,ep,ho,hd,hk,_,hm⟩:=n;refine ⟨o,ho,λ name=>?_⟩;have e:=hm name;unfold nsFind findBy at e;rw [<- Array.find?_toList] at e;unfold Qg;rw [hd];dsimp only;split
 ·rename_i y q;rw [q] at e;exact congrArg some e
 ·rename_i q;rw [q] at e;have a:es.toList.any (·.refKey)=false:=by
   rw [List.any_eq_false];intro y hy;obtain ⟨z,t,hkey⟩:=hk y (Array.mem_toList_iff.mp hy);simp [DictEntry.refKey,hkey]
  have a':¬ es.toList.any (·.refKey)=true:=by rw [a];exact Ck
  rw [if_neg a'];exact congrArg some e
def ObjM.look {h:Heap}{x dx C:Addr}{mA:Str->Option Ad} (I:ObjM h x dx C mA):∃ od,PySem.W.InstAt h x (Qi C dx) C (some od)/\∀ name,Qg name od=some (mA name):=
 let ⟨od,ho,hl⟩:=wt I.ns
 ⟨od,⟨I.obj,rfl,rfl,ho⟩,hl⟩
section
variable {prog:A9}{w:A7}{A:Bs}{E:Ad->Ai->Prop}{s:Ai}{K:PySem.W.Frag}{x dx C f:Addr}{mA:Str->Option Ad}{name:Str}{v:Ad}
end
theorem RelO.some_of {v:V}{o:Option Ad} (r:RelO (some v) o):∃ u,o=some u/\RelV v u:=by
 cases o with
 | none=>exact (show False from r).elim
 | some u=>exact ⟨u,rfl,r⟩
section
variable {P:A9}{w:A7}{H H':Hp}{h h':Heap}{a C dx:Addr}{fs fs':List (Str×V)}
def z7 (hok:HOk P w H h) (e:H a=some (.ins C dx fs)):∃ mA,ObjM h a dx C mA/\(∀ f,RelO (fs.lookup f) (mA f))/\PySem.Within mA (fs.map (·.1))/\fs.length<=1000/\H dx=some (.own a):=by
 obtain ⟨d,z,ne,ob,mA,n,r,q⟩:=(show zxo P w H h a (.ins C dx fs) from hok a _ e)
 exact ⟨mA,⟨ob,n,ne⟩,r,q,z,d⟩
end
structure Cls (K:PySem.W.Frag) (C:Addr):Prop where
 pg:PySem.W.plainGet K C Str.empty=true
 hd:PySem.W.hasDictIn K C=true
 po:PySem.W.plainOver K C=true
 sa:Lk K (.ref C) "__setattr__" = some (some (.builtin "object.__setattr__"))
def Cls.get {K:PySem.W.Frag}{C:Addr} (c:Cls K C) (f:Str):PySem.W.plainGet K C f=true:=c.pg
structure Con (K:PySem.W.Frag) (C:Addr) (f:Str) (v:V) (u:Ad):Prop where
 at_:Lk K (.ref C) f=some (some u)
 rel:RelV v u
 get:PySem.W.specialIn K u "__get__" = some none
 cp:PySem.W.copiedNames.contains f=false
structure Meth (K:PySem.W.Frag) (C:Addr) (m:Str) (f:Addr):Prop where
 at_:Lk K (.ref C) m=some (some (.ref f))
 fn:PySem.W.isFn K (.ref f)=true
 kp:Je K (.ref f)=true
section
variable {X:Cx}{pins:List (Addr×Obj)}{σ:St}{H:Hp}{s:Ai}{a C dx:Addr}{fs:List (Str×V)}{f:Str}{v:V}{A:Bs}{E:Ad->Ai->Prop}
end
section
variable {X:Cx}{o e value:Expr}{f:Str}{pos pos' tpos:Pos}{ta tv:TE}
end
section
variable {X:Cx}{pins:List (Addr×Obj)}{σ:St}{H:Hp}{s:Ai}{A:Bs}{E:Ad->Ai->Prop}{Q:Ad->Ai->Prop}{c:Ad}{b:Bool}
inductive TyOf (K:PySem.W.Frag) (H:Hp):V->Ad->Prop where
 | non:TyOf K H .non (.type "NoneType")
 | bl (x:Bool):TyOf K H (.bl x) (.type "bool")
 | int (i:Int):TyOf K H (.int i) (.type "int")
 | str (x:Str):TyOf K H (.str x) (.type "str")
 | flt (x:UInt64):TyOf K H (.flt x) (.type "float")
 | lst {a:Addr}{xs:List V} (e:H a=some (.lst xs)):TyOf K H (.ref a) (.type "list")
 | frz {a:Addr}{o:Obj}{xs:List V} (e:H a=some (.frz o (.lst xs))):TyOf K H (.ref a) (.type "list")
 | tup {a:Addr}{xs:List V} (e:H a=some (.tup xs)):TyOf K H (.ref a) (.type "tuple")
 | dK {a:Addr}{kvs:List (Av×V)} (e:H a=some (.dK kvs)):TyOf K H (.ref a) (.type "dict")
 | dT {a:Addr}{kvs:List (List Av×V)} (e:H a=some (.dT kvs)):TyOf K H (.ref a) (.type "dict")
 | ins {a C dx:Addr}{fs:List (Str×V)} (e:H a=some (.ins C dx fs)) (cl:Cls K C) (ha:Lk K (.ref C) "__class__" = some (some (.builtin "object.__class__")))
   (hn:PySem.W.specialIn K (.builtin "object.__class__") "__get__" = some (some (.builtin "getset_descriptor.__get__"))) (htk:PySem.W.takesIn K (.builtin "object.__class__")=some true)
   (hm:PySem.W.mroIn K C (.type "object")=some true):TyOf K H (.ref a) (.ref C)
theorem vT {x:V}{u t:Ad} (I:Inv X pins σ H s) (rx:RelV x u) (ty:TyOf X.K H x t) (e:Nu X.K t c=some b) (h:∀ tk,Q (.bool b) { s with toks:=tk }):
  An (Aw X.prog X.w) A (call (.builtin "isinstance") [u,c]) Q E s:=by
 cases ty with
 | non=>cases (show u=Value.none from rx);exact FI PySem.W.kitx_none I.kIn True.intro e (λ z=>nomatch z) h
 | bl y=>cases (show u=Value.bool y from rx);exact FI PySem.W.kitx_bool I.kIn True.intro e (λ z=>nomatch z) h
 | int i=>obtain ⟨t,q⟩:=(show ∃ t,u=Value.int i t from rx);cases q;exact FI PySem.W.kitx_int I.kIn True.intro e (λ z=>nomatch z) h
 | str y=>obtain ⟨t,q⟩:=(show ∃ t,u=Value.str y t from rx);cases q;exact FI PySem.W.kitx_str I.kIn True.intro e (λ z=>nomatch z) h
 | flt y=>obtain ⟨t,q⟩:=(show ∃ t,u=Value.float y t from rx);cases q;exact FI PySem.W.kitx_float I.kIn True.intro e (λ z=>nomatch z) h
 | @lst a xs ea=>
  cases (show u=Value.ref a from rx);obtain ⟨_,_,n,_,h1⟩:=(show zxo X.prog X.w H s.heap a (.lst xs) from I.hok a _ ea)
  exact FI PySem.W.kitx_list I.kIn ⟨_,h1,rfl⟩ e (λ z=>nomatch z) h
 | @frz a ob xs ea=>
  cases (show u=Value.ref a from rx);obtain ⟨_,_,_,n,_,h1⟩:=(show zxo X.prog X.w H s.heap a (.frz ob (.lst xs)) from I.hok a _ ea)
  exact FI PySem.W.kitx_list I.kIn ⟨_,h1,rfl⟩ e (λ z=>nomatch z) h
 | @tup a xs ea=>
  cases (show u=Value.ref a from rx);obtain ⟨_,_,_,p⟩:=(show zxo X.prog X.w H s.heap a (.tup xs) from I.hok a _ ea)
  obtain ⟨o,h1,h2,_⟩:=p;exact FI PySem.W.kitx_tuple I.kIn ⟨o,h1,h2⟩ e (λ z=>nomatch z) h
 | @dK a kvs ea=>
  cases (show u=Value.ref a from rx);obtain ⟨_,_,vs,_,p⟩:=(show zxo X.prog X.w H s.heap a (.dK kvs) from I.hok a _ ea)
  obtain ⟨o,es,ep,h1,h2,_⟩:=p;exact FI PySem.W.kitx_dict I.kIn ⟨o,h1,h2.1⟩ e (λ z=>nomatch z) h
 | @dT a kvs ea=>
  cases (show u=Value.ref a from rx);obtain ⟨_,_,xs,_,o,es,ep,h1,h2,_⟩:=(show zxo X.prog X.w H s.heap a (.dT kvs) from I.hok a _ ea)
  exact FI PySem.W.kitx_dict I.kIn ⟨o,h1,h2.1⟩ e (λ z=>nomatch z) h
 | @ins a C dx fs ea cl ha hn htk hm=>
  cases (show u=Value.ref a from rx);obtain ⟨mA,O,_⟩:=z7 I.hok ea;obtain ⟨od,J,_⟩:=O.look;exact FI (PySem.W.kitx_own (cl.get _) cl.hd ha hn htk hm) I.kIn J e (λ z=>nomatch z) h
end
structure Room (k:Nat) (A:Bs):Prop where
 hd:A.handled=none
 dp:A.depth + 3 * k + 5 < recursionLimit
 un:A.units + 16 * k + 200 < Df
 gd:A.guards=some []
def Room.mono {j k:Nat}{A:Bs} (r:Room k A) (h:j<=k):Room j A:=⟨r.hd,by have:=r.dp;omega,by have:=r.un;omega,r.gd⟩
def Room.deeper {k:Nat}{A:Bs} (r:Room (k + 1) A) (env:Env):Room k (A.deeper env):=
 ⟨r.hd,by have:=r.dp;show A.depth + 1 + 3 * k + 5 < _;omega,by have:=r.un;show A.units + 3 + 16 * k + 200 < _;omega,r.gd⟩
def Room.depth {k:Nat}{A:Bs} (r:Room k A):A.depth < recursionLimit:=by have:=r.dp;omega
def Room.units {k:Nat}{A:Bs} (r:Room k A):A.units + 64 < Df:=by have:=r.un;omega
def Hv:TA:=λ _ H Q=>Q [] H
def Ou (ta:TE) (tr:TA):TA:=λ σ H Q=>ta σ H λ x H1=>tr σ H1 λ xs H2=>Q (x::xs) H2
section
variable {X:Cx}{e:Expr}{es:List Expr}{te:TE}{t:TA}{pos:Pos}
def O5:PA X [] Hv:=λ _ _ _ _ H Q I h=>Qm ⟨[],H,I,.nil,h⟩
def KO (ha:PE X e te) (hr:PA X es t) (hs:AA (e::es) X.env=(false,eval e X.env)::AA es X.env:=by rfl):PA X (e::es) (Ou te t):=by
 intro pos pins s σ H Q I h;rw [hs];show An _ _ (spliced ((false,eval e X.env)::CH pos (AA es X.env))) _ _ s;refine Qp (A1 (ha pins s σ H _ I h) λ u s1 ⟨x,H1,I1,r1,q1⟩=>?_);exact A1 (hr pos pins s1 σ H1 _ I1 q1) λ us s2 ⟨xs,H2,I2,r2,q2⟩=>⟨x::xs,H2,I2,.cons r1 r2,q2⟩
def Q2 (t:TA):TE:=λ σ H Q=>t σ H λ xs H1=>xs.length<=A0/\∀ p,H1 p=none->Q (.ref p) (Ap H1 p (.tup xs))
def Q4 (t:TA):TE:=λ σ H Q=>t σ H λ xs H1=>xs.length<=A0/\∀ p,H1 p=none->Q (.ref p) (Ap H1 p (.lst xs))
def xo {x1} (h:PA X es t):PE X (.Tuple es x1 pos) (Q2 t):=by
 intro pins s σ H Q I hq;refine wpAny_Tuple_spliced (A1 (h pos pins s σ H _ I hq) λ us s1 ⟨xs,H1,I1,r,z,q⟩=>⟨by rw [<- r.length];exact z,?_⟩);have hf:H1 s1.heap.objs.size=none:=I1.hok.fresh (A5 _);refine ⟨.ref s1.heap.objs.size,Ap H1 s1.heap.objs.size (.tup xs),I1.laid (t':=s1.toks) (λ b u e=>Ci _ e) (A5 _) ?_,rfl,q _ hf⟩;exact ⟨z,us,r,⟨_,C0 _ rfl,rfl,_,rfl⟩⟩
def Vy (h:PA X es t):PE X (.List es pos) (Q4 t):=by
 intro pins s σ H Q I hq;refine wpAny_List_spliced (A1 (h pos pins s σ H _ I hq) λ us s1 ⟨xs,H1,I1,r,z,q⟩=>⟨by rw [<- r.length];exact z,?_⟩);have hf:H1 s1.heap.objs.size=none:=I1.hok.fresh (A5 _);refine ⟨.ref s1.heap.objs.size,Ap H1 s1.heap.objs.size (.lst xs),I1.laid (t':=s1.toks) (λ b u e=>Ci _ e) (A5 _) ?_,rfl,q _ hf⟩;exact ⟨z,us,0,r,C0 _ rfl⟩
end
abbrev Sp:=List V->Hp->VK->XK->Prop
abbrev Fq:=List Env->Hp->Ai->XK->Ad->Ai->Prop
structure Env0 (P:A9) (w:A7) (K:PySem.W.Frag) (mg:Str->Option Ad) (base:Heap) (A:Bs) (outer:List Env) (s:Ai) (H:Hp):Prop where
 frames:A.frames=some outer
 mod:Mod K mg base
 bs:∀ b o,base.get? b=some o->s.heap.get? b=some o/\H b=none
 bsz:base.objs.size<=s.heap.objs.size
 funs:s.heap.FunFrames base outer
 frf:∀ b∈Gd outer,H b=none
 hok:HOk P w H s.heap
 bare:Hn s.gens
def CE (outer:List Env) (P:A9) (w:A7) (H:Hp) (s:Ai) (Q:VK) (u:Ad) (s':Ai):Prop:=
 ∃ v H',s'.os=s.os/\Hn s'.gens/\Un (Gd outer) [] H H' s.heap s'.heap/\HOk P w H' s'.heap/\RelV v u/\Q v H'
def CR (CX:Fq) (outer:List Env) (P:A9) (w:A7) (H:Hp) (s:Ai) (Q:VK) (E:XK) (r:Result) (s':Ai):Prop:=
 match r with
 | .ok (.ret u)=>CE outer P w H s Q u s'
 | .ok _=>False
 | .error e=>CX outer H s E e s'
structure FnOk (P:A9) (w:A7) (K:PySem.W.Frag) (mg:Str->Option Ad) (base:Heap) (CX:Fq) (k:Nat) (f:Addr) (fd:Dg) (ps:List Str) (sp:Sp):Prop where
 len:∀ vs H Q E,sp vs H Q E->vs.length=ps.length
 run:∀ (A:Bs) (outer:List Env) (s:Ai) (H:Hp) (args:Args) (us:List Ad) (vs:List V) (Q:VK) (E:XK),Room k A->Env0 P w K mg base A outer s H->BindsTo s fd args (ps.zip us)->Vals vs us->sp vs H Q E ->
  Ik (Aw P w) A (.call (.ref f) args) (CR CX outer P w H s Q E) s
def FnOk.mono {P:A9}{w:A7}{K:PySem.W.Frag}{mg:Str->Option Ad}{base:Heap}{CX:Fq}{j k:Nat}{f:Addr}{fd:Dg}{ps:List Str}{sp:Sp} (F:FnOk P w K mg base CX j f fd ps sp) (h:j<=k):
  FnOk P w K mg base CX k f fd ps sp:=⟨F.len,λ A outer s H args us vs Q E hr=>F.run A outer s H args us vs Q E (hr.mono h)⟩
section
variable {X:Cx}{pins:List (Addr×Obj)}{σ:St}{H:Hp}{s s':Ai}
def Inv.env0 (I:Inv X pins σ H s):Env0 X.prog X.w X.K X.mg X.base X.A X.stack s H:=
 ⟨I.ok.frames,I.ok.mod,I.bs,Cv I.ok.bsz I.sz,I.stack,I.stkFree,I.hok,I.bare⟩
def Inv.after {Q:VK}{u:Ad} (I:Inv X pins σ H s) (h:CE X.stack X.prog X.w H s Q u s'):EP X pins σ Q u s':=by
 obtain ⟨v,H',os,bare,un,hok,r,q⟩:=h;obtain ⟨hh,g,d,t,os'⟩:=s';obtain rfl:os'=s.os:=os;exact ⟨v,H',I.call (h':=hh) (g':=g) (d':=d) (t':=t) (ch:=[]) un hok bare (λ b z=>absurd z (by simp)),r,q⟩
end
def qbj (K:PySem.W.Frag) (fd:Dg) (ps:List Str) (ds:List Ad):Prop:=
 ∀ (s:Ai) (us:List Ad),K.In s.heap->(us++ds).length=ps.length->BindsTo s fd ⟨us,[]⟩ (ps.zip (us++ds))
def qbj.all {K:PySem.W.Frag}{fd:Dg}{ps:List Str} (h:∀ us:List Ad,us.length=ps.length->bindArgs fd ⟨us,[]⟩=pure (ps.zip us)):qbj K fd ps []:=λ s us _ hl=>by
 rw [J0] at hl ⊢;exact .of_eq (h us hl)
section
variable {X:Cx}{CX:Fq}{k:Nat}{f C:Addr}{fd:Dg}{ps:List Str}{sp:Sp}{dvs:List V}{ds:List Ad}{E:XK}{x m:Str}{p pos apos:Pos}{e o:Expr}{es:List Expr}{ta:TE}{t:TA}
structure Mk (K:PySem.W.Frag) (C f:Addr):Prop where
 makes:PySem.W.makesIn K C=true
 init:Lk K (.ref C) "__init__" = some (some (.ref f))
 fn:PySem.W.isFn K (.ref f)=true
 kp:Je K (.ref C)=true
end
section
variable {X:Cx}{CX:Fq}{k:Nat}{f C:Addr}{fd:Dg}{ps ks:List Str}{sp:Sp}{E:XK}{x m:Str}{p pos apos kpos:Pos}{e o:Expr}{es:List Expr}{kws:List Keyword}{te ta:TE}{t tk:TA}{nm:Option Str}
structure KBinds (K:PySem.W.Frag) (fd:Dg) (ps ks:List Str) (g:List Ad->List Ad->List Ad) (gV:List V->List V->List V):Prop where
 to:∀ (s:Ai) (us ws:List Ad),K.In s.heap->(g us ws).length=ps.length->BindsTo s fd ⟨us,ks.zip ws⟩ (ps.zip (g us ws))
 rel:∀ {vs:List V}{us:List Ad}{zs:List V}{ws:List Ad},Vals vs us->Vals zs ws->Vals (gV vs zs) (g us ws)
variable {g:List Ad->List Ad->List Ad}{gV:List V->List V->List V}
end
structure FnScope (N P:List Str) (sc:Br):Prop where
 kind:sc.kind=.function:=by rfl
 co:sc.isCoroutine=false:=by rfl
 gen:sc.isGenerator=false:=by rfl
 nd:N.Nodup:=by decide +kernel
 pre:N.take P.length=P:=by rfl
 par:∀ x∈P,sc.names.lookup x=some .local\/sc.names.lookup x=some .cell:=by decide +kernel
 nofree:∀ y∈sc.names,y.2≠.free:=by decide +kernel
theorem Yc {kindOf:Str->Option Dn}{x:Str}:∀ {binds:List (Str×Ad)}{m:Str->Option Ad},(∀ v,(x,v)∉binds)->bindL kindOf binds m x=m x
 | [],_,_=>rfl
 | (n,v)::r,m,h=>by
  unfold bindL;rw [Yc λ w hw=>h w (AH _ hw)];split
  ·have:x≠n:=by rintro rfl;exact h v AF
   simp [this]
  ·rfl
theorem XE {kindOf:Str->Option Dn}{x:Str}:∀ {binds:List (Str×Ad)}{m:Str->Option Ad},(∀ v,(x,v)∉binds)->bindC kindOf binds m x=m x
 | [],_,_=>rfl
 | (n,v)::r,m,h=>by
  unfold bindC;rw [XE λ w hw=>h w (AH _ hw)];split
  ·rfl
  ·have:x≠n:=by rintro rfl;exact h v AF
   simp [this]
theorem XF {kindOf:Str->Option Dn}{x:Str}{v:Ad}:∀ {P:List Str}{vs:List Ad}{i:Nat}{m:Str->Option Ad},P.Nodup->P[i]?=some x->vs[i]?=some v->kindOf x=some .local ->
  bindL kindOf (P.zip vs) m x=some v
 | [],_,_,_,_,h,_,_=>by simp at h
 | _::_,[],_,_,_,_,h,_=>by simp at h
 | p::P,w::vs,0,m,nd,h1,h2,hk=>by
  simp at h1 h2;subst h1;subst h2;show bindL kindOf ((p,w)::P.zip vs) m p=_;unfold bindL;rw [Yc λ v hv=>(ji9.mp nd).1 (Jz hv).1,if_pos hk];simp
 | p::P,w::vs,i + 1,m,nd,h1,h2,hk=>by
  show bindL kindOf ((p,w)::P.zip vs) m x=_;unfold bindL;exact XF (i:=i) (ji9.mp nd).2 (by simpa using h1) (by simpa using h2) hk
theorem XD {kindOf:Str->Option Dn}{x:Str}{v:Ad}:∀ {P:List Str}{vs:List Ad}{i:Nat}{m:Str->Option Ad},P.Nodup->P[i]?=some x->vs[i]?=some v->kindOf x≠some .local ->
  bindC kindOf (P.zip vs) m x=some v
 | [],_,_,_,_,h,_,_=>by simp at h
 | _::_,[],_,_,_,_,h,_=>by simp at h
 | p::P,w::vs,0,m,nd,h1,h2,hk=>by
  simp at h1 h2;subst h1;subst h2;show bindC kindOf ((p,w)::P.zip vs) m p=_;unfold bindC;rw [XE λ v hv=>(ji9.mp nd).1 (Jz hv).1,if_neg hk];simp
 | p::P,w::vs,i + 1,m,nd,h1,h2,hk=>by
  show bindC kindOf ((p,w)::P.zip vs) m x=_;unfold bindC;exact XD (i:=i) (ji9.mp nd).2 (by simpa using h1) (by simpa using h2) hk
def start (N:List Str) (vs:List V):St:=vs.map some++AB (N.length - vs.length) none
def CL (CX:Fq) (P:A9) (w:A7) (K:PySem.W.Frag) (mg:Str->Option Ad) (base:Heap) (N:List Str) (qual:Str) (scope:Br) (f:Addr) (cd:Ad) (A:Bs) (outer:List Env) (s:Ai) (H:Hp) (E:XK):Cx where
 prog:=P
 w:=w
 K:=K
 mg:=mg
 base:=base
 A:=A.deeper (Hm qual scope s.heap.objs.size f cd)
 N:=N
 s₀:=s
 H₀:=H
 env:=Hm qual scope s.heap.objs.size f cd
 outer:=outer
 stack:=Hm qual scope s.heap.objs.size f cd::outer
 ex:=[]
 calm:=true
 fn:=λ _=>true
 pn:=[]
 xe:=λ e s'=>An (Aw P w) (A.deeper (Hm qual scope s.heap.objs.size f cd)) (leaving (Hm qual scope s.heap.objs.size f cd) e) (λ _ s''=>CX outer H s E e s'') (λ e' s''=>CX outer H s E e' s'') s'
def WG {sc:Br}{n:Nat}{x:Str} (h:sc.names.lookup x=some .cell):∃ c,(Dh n sc.names []).lookup x=some c:=by
 have q:=PySem.W.cellsFrom_some sc.names n [] (.inl h);exact Option.isSome_iff_exists.mp q
def vR {CX:Fq}{P:A9}{w:A7}{K:PySem.W.Frag}{mg:Str->Option Ad}{base:Heap}{N ps:List Str}{qual:Str}{scope:Br}{f:Addr}{cd:Ad}{A:Bs}{outer:List Env}{s s1:Ai}{H:Hp}{E:XK}{us:List Ad}{vs:List V}
  (S:FnScope N ps scope) (hd:A.handled=none) (e0:Env0 P w K mg base A outer s H) (hl:vs.length=ps.length) (r:Vals vs us)
  (x:InCallC s s.heap.objs.size (bindL (Hm qual scope s.heap.objs.size f cd).kindOf (ps.zip us) λ _=>none) (Dh (s.heap.objs.size + 1) scope.names []) (bindC (Hm qual scope s.heap.objs.size f cd).kindOf (ps.zip us) λ _=>none) s1):
  Inv (CL CX P w K mg base N qual scope f cd A outer s H E) [] (start N vs) H s1:=by
 have hpl:ps.length<=N.length:=by have:=congrArg List.length S.pre;rw [FY] at this;omega
 obtain ⟨h1,tk,rfl,hk⟩:=x.done;have noA:∀ b:Addr,b∉(CL CX P w K mg base N qual scope f cd A outer s H E).ex:=λ b z=>absurd (show b∈([]:List Addr) from z) (by simp);refine ⟨⟨e0.mod,S.kind,rfl,rfl,A5 _,λ y z c h1 h2=>?_,λ y hy=>?_,λ y c _ h=>?_,λ _=>hd,Around.frames_deeper e0.frames,.inr ⟨rfl,rfl⟩,λ b z=>absurd z (noA b),e0.bs,e0.bsz,λ b _ _=>noA b,λ b z=>absurd z (noA b),e0.funs,e0.frf⟩,
  rfl,e0.bare,Un.kept hk,⟨_,x.toInCall.ns,λ i y v h1 h2 h3=>?_⟩,λ y c h=>⟨_,x.cell y c h⟩,e0.hok.fresh (A5 _),λ y c h=>?_,λ p hp=>absurd (show p∈([]:List (Addr×Obj)) from hp) (by simp),e0.hok.kept hk,?_⟩
 ·exact name_of_addr x.apart (Lm h1) (Lm h2)
 ·have hy:scope.names.lookup y=some .cell\/scope.names.lookup y=some .free:=hy;rcases hy with hy | hy
  ·exact WG hy
  ·exact absurd rfl (S.nofree _ (Lm hy))
 ·exact Kp (x.above y c (Lm h))
 ·have hi:i < vs.length:=by
   unfold start at h2;by_cases hi:i < vs.length
   ·exact hi
   ·rw [FZ (by simpa using hi)] at h2;rw [DP] at h2;split at h2 <;> cases h2
  have ha:vs[i]?=some v:=by
   unfold start at h2;rw [CF (by simpa using hi),BW] at h2;cases e:vs[i]? with
   | none=>rw [e] at h2;cases h2
   | some a=>rw [e] at h2;cases h2;rfl
  obtain ⟨u,hu,rv⟩:=r.get ha;have hp:ps[i]?=some y:=by
   rw [<- S.pre,K0 (by omega)];exact h1
  have ndP:ps.Nodup:=by rw [<- S.pre];exact S.nd.sublist (List.take_sublist _ _)
  refine ⟨u,rv,?_⟩;rcases S.par y (SG hp) with k | k
  ·exact .inl ⟨k,XF ndP hp hu k⟩
  ·obtain ⟨c,e⟩:=WG (n:=s.heap.objs.size + 1) k;refine .inr ⟨.inl k,c,e,?_⟩;have q:=x.cell y c e;rw [XD ndP hp hu (by show scope.names.lookup y≠_;rw [k];decide)] at q;exact q
 ·exact e0.hok.fresh (Kp (x.above y c (Lm h)))
 ·unfold start;show _=N.length;rw [BI,AG,El];omega
theorem ZH {CX:Fq}{P:A9}{w:A7}{K:PySem.W.Frag}{mg:Str->Option Ad}{base:Heap}{k:Nat}{f:Addr}{name qual:Str}{params:Arguments}{body:List Stmt}{scope:Br}{dV kV doc pm cdv ct oc:Ad}{an od:Option Addr}
  {osl:Array (Option Ad)}{N ps:List Str}{sp:Sp} (lk:K.lookup f=some ⟨oc,od,.func (JZ name qual params body scope dV kV doc pm an cdv ct),osl⟩) (hcd:Qf K cdv qual=true) (S:FnScope N ps scope)
  (len:∀ vs H Q E,sp vs H Q E->vs.length=ps.length)
  (hbody:∀ (A:Bs) (outer:List Env) (s:Ai) (H:Hp) (vs:List V) (Q:VK) (E:XK),Room k (A.deeper (Hm qual scope s.heap.objs.size f cdv))->sp vs H Q E ->
   ∃ t,Eo (CL CX P w K mg base N qual scope f cdv A outer s H E) body t/\t { nx:=λ _ H'=>Q .non H',rt:=Q } (start N vs) H):
  FnOk P w K mg base CX (k + 1) f (JZ name qual params body scope dV kV doc pm an cdv ct) ps sp:=by
 refine ⟨len,λ A outer s H args us vs Q E hr e0 hb r hsp=>?_⟩;have hl:=len _ _ _ _ hsp;have KX:K.In s.heap:=e0.mod.kin.keeps λ b o e=>(e0.bs b o e).1;have lim:s.heap.NoLimit:=e0.mod.nolimit.keeps λ b o e=>(e0.bs b o e).1;have hkind:∀ y∈ps.zip us,scope.names.lookup y.1=some .local\/(scope.names.lookup y.1=some .cell/\((Dh (s.heap.objs.size + 1) scope.names []).lookup y.1).isSome=true):=λ ⟨n,v⟩ hy=>by
  rcases S.par n (Jz hy).1 with q | q
  ·exact .inl q
  ·exact .inr ⟨q,PySem.W.cellsFrom_some _ _ _ (.inl q)⟩
 refine codeAny_call_function hr.depth (KX _ _ lk) rfl S.co S.gen rfl (PySem.W.codeRec_of KX hcd) (hb _ _ _ _ ?_);refine wpAny_newFunctionEnv_cells S.kind hkind λ env he s1 x=>?_;subst he;refine ⟨lim.keeps x.toInCall.keep,codeAny_func ?_⟩;obtain ⟨t,ht,hq⟩:=hbody A outer s H vs Q E (hr.deeper _) hsp;have I:Inv (CL CX P w K mg base N qual scope f cdv A outer s H E) [] (start N vs) H s1:=vR S hr.hd e0 hl r x;refine Hr (ht [] s1 (start N vs) H _ I hq) (λ fl s' hs=>?_) λ e s' hs=>hs;have fin:∀ {σ':St}{H':Hp}{v:V}{u:Ad},Inv (CL CX P w K mg base N qual scope f cdv A outer s H E) [] σ' H' s'->RelV v u->Q v H'->CE outer P w H s Q u s':=
  λ {σ' H' v u} J rv q=>⟨v,H',J.os,J.bare,J.base,J.hok,rv,q⟩
 cases fl with
 | ret u=>
  obtain ⟨v,σ',H',J,rv,q⟩:=hs;exact fin J rv q
 | next=>
  obtain ⟨σ',H',J,q⟩:=hs;exact fin (v:=V.non) (u:=Value.none) J rfl q
 | brk=>
  obtain ⟨_,_,_,q⟩:=hs;exact Hq q
 | cont=>
  obtain ⟨_,_,_,q⟩:=hs;exact Hq q
section
variable {X:Cx}{x:Str}{p pos:Pos}{e:Expr}{es:List Expr}{t:TA}{id T:String}{r:List V->Hp->VK->Prop}
def Q5 (r:List V->Hp->VK->Prop) (t:TA):TE:=λ σ H Q=>t σ H λ vs H1=>r vs H1 Q
def IJ (hc:zvc X (.builtin id) r) (hg:Gl X x) (hm:X.mg x=none) (hv:Jc x=some (.builtin id)) (ha:PA X (e::es) t) (hn:x ≠ "__name__" := by decide) (hdb:(x == ("__debug__" : Str))=false:=by decide)
  (he:AA (e::es) X.env=(false,eval e X.env)::AA es X.env:=by rfl) (hpl:(CH pos (AA es X.env)).any (·.1)=false:=by rfl):PE X (.Call (.Name x p) (e::es) [] pos) (Q5 r t):=by
 intro pins s σ H Q I h;refine N6 (GB I hg hm hv ?_ hn hdb);exact PyProof.Rows.callWith_builtin1 (A1 (ha pos pins s σ H _ I h) λ us s1 ⟨vs,H1,I1,r1,q1⟩=>hc pins s1 σ H1 vs us Q I1 r1 q1) he hpl
def M6 (hc:zvc X (.type T) r) (hg:Gl X x) (hm:X.mg x=none) (hv:Jc x=some (.type T)) (ha:PA X (e::es) t) (hn:x ≠ "__name__" := by decide) (hdb:(x == ("__debug__" : Str))=false:=by decide)
  (he:AA (e::es) X.env=(false,eval e X.env)::AA es X.env:=by rfl) (hpl:(CH pos (AA es X.env)).any (·.1)=false:=by rfl):PE X (.Call (.Name x p) (e::es) [] pos) (Q5 r t):=by
 intro pins s σ H Q I h;refine N6 (GB I hg hm hv ?_ hn hdb);exact Im (A1 (ha pos pins s σ H _ I h) λ us s1 ⟨vs,H1,I1,r1,q1⟩=>hc pins s1 σ H1 vs us Q I1 r1 q1) he hpl
end
end L2
namespace HT
open PySem PyProof.Rows
def lexLt:List Int->List Int->Bool
 | [],[]=>false
 | [],_::_=>true
 | _::_,[]=>false
 | x::xs,y::ys=>if x=y then lexLt xs ys else decide (x < y)
def lexLt_cons (x y:Int) (xs ys:List Int):lexLt (x::xs) (y::ys)=if x=y then lexLt xs ys else decide (x < y):=rfl
def Z3:lexLt [] []=false:=rfl
def Zx (y:Int) (ys:List Int):lexLt [] (y::ys)=true:=rfl
def Zw (x:Int) (xs:List Int):lexLt (x::xs) []=false:=rfl
def kn (A:Bs) (s:Ai) (a:Int) (t:Tok) (c:Int) (u:Tok):∃ e,SeqAt.EqAt A s (.int a t) (.int c u) e/\(e=true↔a=c):=
 ⟨(a == c),SeqAt.EqAt.int_int a t c u,by simp⟩
def kO (A:Bs) (s:Ai) (a:Int) (t:Tok) (c:Int) (u:Tok) (prog:A9) (w:A7) (E:Ad->Ai->Prop) (Q:Ad->Ai->Prop) (h:Q (.bool (decide (a < c))) s):
  An (Aw prog w) A (richCompare .Lt (.int a t) (.int c u)) Q E s:=
 (PyProof.Rows.lt_int h:An (Aw prog w) A (Cn .Lt (.int a t) (.int c u)) Q E s)
section
open PySem.SeqAt
open PySem.AutoSeq1 (wpAny_loadPart')
open PySem.MeetsSeq PySem.MeetsSeq2 PySem.MeetsSeq3
def Z5 (l b:Addr) (items items2:Array Ad) (n n2:Nat) (dd dd2:Option Addr) (sl sl2:Array (Option Ad)) (ns ms:List Int) (hi:DG items.toList ns) (hj:DG items2.toList ms):
  Meets (vj9.«tuple.__lt__» ⟨[.ref l,.ref b],[]⟩)
   (λ _ R s=>s.heap.get? l=some { cls:=.type "tuple",dict:=dd,data:=.seq items n,slots:=sl }/\s.heap.get? b=some { cls:=.type "tuple",dict:=dd2,data:=.seq items2 n2,slots:=sl2 } /\
    R (.ok (.ret (.bool (lexLt ns ms)))) s):=
 .of_wp λ prog w A R s h=>by
  obtain ⟨hp,g,d,tk,os⟩:=s;obtain ⟨hl,hb,h⟩:=h;have f2:=AutoSeq1.sub_tuple_tuple;have z1:items.size=ns.length:=by rw [<- hi.length];simp
  have z2:items2.size=ms.length:=by rw [<- hj.length];simp
  wp_walk using wpAny_loadPart' hl,wpAny_loadPart' hb,wpAny_forIn_list _ (λ rest b s'=>b.1=none/\s'=⟨hp,g,d,tk,os⟩/\∃ (vs ws:List Ad) (ns' ms':List Int),rest=vs.zip ws /\
   DG vs ns'/\DG ws ms'/\ns'.length + items2.size=ms'.length + items.size/\R (.ok (.ret (.bool (lexLt ns' ms')))) ⟨hp,g,d,tk,os⟩) _
  case turn=>
   rintro ⟨y,x⟩ rest b s' ⟨hb',rfl,vs,ws,ns',ms',hz,hvi,hwi,hlen,hR⟩;cases hvi with
   | nil=>rw [List.zip_nil_left] at hz;cases hz
   | cons a t hvi'=>
    cases hwi with
    | nil=>rw [List.zip_nil_right] at hz;cases hz
    | cons c u hwi'=>
     rw [Ky] at hz;injection hz with hyx hrest
     injection hyx with hy hx
     subst hy hx;rw [lexLt_cons] at hR;simp only [Ba] at hlen;obtain ⟨e,he,hiff⟩:=kn A.in1 ⟨hp,g,d,tk,os⟩ a t c u;refine Ak (he prog w _ _ ?_);cases e with
     | true=>
      rw [if_pos (hiff.mp rfl)] at hR
      wp_walk
      exact ⟨rfl,rfl,_,_,_,_,hrest,hvi',hwi',by omega,hR⟩
     | false=>
      rw [if_neg (λ q=>absurd (hiff.mpr q) Ck)] at hR;have hri:=kO A.in1 ⟨hp,g,d,tk,os⟩ a t c u prog w
      wp_walk using hri
      exact ⟨_,rfl,by simpa using hR⟩
  case fin=>
   rintro ⟨b1,b2⟩ s' ⟨hb',rfl,vs,ws,ns',ms',hz,hvi,hwi,hlen,hR⟩;simp only at hb';subst hb';have hv:lexLt ns' ms'=decide (items.size < items2.size):=by
    cases hvi with
    | nil=>
     cases hwi with
     | nil=>
      simp only [Hz] at hlen;rw [Z3];exact (decide_eq_false (by omega)).symm
     | cons c u hw=>
      simp only [Hz,Ba] at hlen;rw [Zx];exact (decide_eq_true (by omega)).symm
    | cons a t hv=>
     cases hwi with
     | nil=>
      simp only [Hz,Ba] at hlen;rw [Zw];exact (decide_eq_false (by omega)).symm
     | cons c u hw=>
      rw [Ky] at hz;cases hz
   rw [hv] at hR
   wp_walk
   exact ⟨_,rfl,by simpa [Builtin.Tuple.tupleCompareSizes] using hR⟩
  case h=>
   exact ⟨rfl,rfl,items.toList,items2.toList,ns,ms,rfl,hi,hj,by omega,h⟩
end
section
variable {prog:A9}{w:A7}{A:Bs}{E:Ad->Ai->Prop}{s:Ai}
def lt_tupInts {l b:Addr}{items items2:Array Ad}{ns ms:List Int}{Q:Ad->Ai->Prop} (hl:IsTup s.heap l items) (hb:IsTup s.heap b items2) (hi:DG items.toList ns) (hj:DG items2.toList ms)
  (hu:A.units < Df) (h:Q (.bool (lexLt ns ms)) s):An (Aw prog w) A (Cn .Lt (.ref l) (.ref b)) Q E s:=by
 obtain ⟨⟨cls,dd,data,sl⟩,ho,hc,n,hd⟩:=id hl;obtain ⟨⟨cls2,dd2,data2,sl2⟩,ho2,hc2,n2,hd2⟩:=id hb;simp only at hc hd hc2 hd2;subst hc hd hc2 hd2;exact richCompare_meets_room (op:=.Lt) ⟨_,ho,rfl⟩ ⟨_,ho2,rfl⟩ PySem.F.slot_tuple_lt PySem.F.entry_tuple_lt (PySem.F.args_tuple_lt_2 _ _) (Z5 l b items items2 n n2 dd dd2 sl sl2 ns ms hi hj)
  ⟨ho,ho2,show Value.bool (lexLt ns ms)≠Value.notImplemented/\Q (.bool (lexLt ns ms)) s from ⟨(λ x=>nomatch x),h⟩⟩ hu
def cat_tup {t b:Addr}{vs ws:List Ad}{Q:Ad->Ai->Prop} (ht:IsTup s.heap t vs.toArray) (hb:IsTup s.heap b ws.toArray) (hv:vs≠[])
  (h1:ws=[]->Q (.ref t) s) (h2:ws≠[]->Q (.ref s.heap.objs.size) { s with heap:=s.heap.push { cls:=.type "tuple",data:=.seq (vs++ws).toArray } })
  (hsz:vs.length + ws.length<=A0):An (Aw prog w) A (EE .Add (.ref t) (.ref b)) Q E s:=by
 obtain ⟨⟨cls,dd,data,sl⟩,ho,hc,n,hd⟩:=id ht;obtain ⟨⟨cls2,dd2,data2,sl2⟩,ho2,hc2,n2,hd2⟩:=id hb;simp only at hc hd hc2 hd2;subst hc hd hc2 hd2;have e:vs.toArray++ws.toArray=(vs++ws).toArray:=by simp
 by_cases hw:ws=[]
 ·exact concat_meets ⟨_,ho,rfl⟩ ⟨_,ho2,rfl⟩ Ql seq_tuple_add Qu Qw (Qx _ _)
   (tuple_addW1 t b vs.toArray ws.toArray n n2 dd dd2 sl sl2 (by simpa using hv) (by simp [hw])) ⟨ho,ho2,h1 hw⟩
 ·refine concat_meets ⟨_,ho,rfl⟩ ⟨_,ho2,rfl⟩ Ql seq_tuple_add Qu Qw (Qx _ _)
   (tuple_addW2 t b vs.toArray ws.toArray n n2 dd dd2 sl sl2 (by simpa using hv) (by simpa using hw) (by rw [BZ,BZ];exact hsz)) ⟨ho,ho2,?_⟩
  rw [e];exact h2 hw
def sIx (n d:Nat):Option Int->Nat
 | none=>d
 | some v=>if v < 0 then (v + (n:Int)).toNat else min v.toNat n
def sIx_none (n d:Nat):sIx n d none=d:=rfl
def sIx_nat (n d k:Nat):sIx n d (some (k:Int))=min k n:=by
 show (if (k:Int) < 0 then ((k:Int) + (n:Int)).toNat else min (k:Int).toNat n)=min k n;rw [if_neg (by omega),CD]
theorem qV (n d:Nat) (hd:d<=n) (o:Option Int):sIx n d o<=n:=by
 cases o with
 | none=>exact hd
 | some v=>
  show (if v < 0 then (v + (n:Int)).toNat else min v.toNat n)<=n;by_cases hv:v < 0
  ·rw [if_pos hv];omega
  ·rw [if_neg hv];exact Nat.min_le_right _ _
def VO (v:Int) (n d:Nat):(if v < 0 then max (v + (n:Int)) 0 else min v (n:Int))=((sIx n d (some v):Nat):Int):=by
 show (if v < 0 then max (v + (n:Int)) 0 else min v (n:Int))=(((if v < 0 then (v + (n:Int)).toNat else min v.toNat n):Nat):Int);by_cases hv:v < 0
 ·simp only [if_pos hv];omega
 ·simp only [if_neg hv];omega
def wY (lo hi:Option Int) (n:Nat):Qy lo hi 1 (n:Int)=(((sIx n 0 lo:Nat):Int),((sIx n n hi:Nat):Int)):=by
 have h1:¬ ((1:Int) < 0):=by omega
 unfold Qy;simp only [h1,if_false];refine Prod.ext ?_ ?_
 ·cases lo with
  | none=>rfl
  | some v=>exact VO v n 0
 ·cases hi with
  | none=>rfl
  | some v=>exact VO v n n
def wO (i j:Nat):ND (i:Int) (j:Int) 1=j - i:=by
 unfold ND;have h1:(1:Int) > 0:=by omega
 simp only [h1,if_true,Int.ediv_one];split <;> omega
theorem T9 {v:Ad}{o:Option Int}{Q:Option Int->Ai->Prop} (p:IsPart v o) (h:Q o s):An (Aw prog w) A (Builtin.Slice.slicePartIndex v) Q E s:=by
 cases p with
 | none=>exact slicePart_none h
 | int i t=>exact slicePart_int h
def Zy {sl:Addr}{vl vu:Ad}{lo hi:Option Int}{n:Nat}{Q:Int×Int×Nat->Ai->Prop} (hs:s.heap.IsSliceOf sl vl vu .none) (pl:IsPart vl lo) (pu:IsPart vu hi)
  (h:Q (((sIx n 0 lo:Nat):Int),1,sIx n n hi - sIx n 0 lo) s):An (Aw prog w) A (Uq (.ref sl) (pure (n:Int))) Q E s:=by
 obtain ⟨os,hos,hcs,hds⟩:=id hs;unfold Uq Builtin.Slice.sliceFields;refine Ak (Ak (Nm hos hds (x:=vl) rfl (Ak (Nm hos hds (x:=vu) rfl (Ak (Nm hos hds (x:=.none) rfl (Az ?_)))))));refine Ak (slicePart_none ?_);show An _ _ (if ((1:Int) == 0)=true then _ else _) _ _ s;rw [if_neg (by decide)];refine Ak (T9 pl (Ak (T9 pu (Ak (Az ?_)))));show An _ _ (match Qy lo hi 1 (n:Int) with | (lo,hi)=>pure (lo,(1:Int),ND lo hi 1)) _ _ s;rw [wY lo hi n];show An _ _ (pure (((sIx n 0 lo:Nat):Int),(1:Int),ND ((sIx n 0 lo:Nat):Int) ((sIx n n hi:Nat):Int) 1)) _ _ s;rw [wO];exact Az h
def kI (xs:Array Ad) (i k:Nat):((Aq k).filterMap λ (m:Nat)=>xs[((i:Int) + (m:Int) * 1).toNat]?).toArray=((xs.toList.drop i).take k).toArray:=by
 have e:(λ (m:Nat)=>xs[((i:Int) + (m:Int) * 1).toNat]?)=λ m=>xs[i + m]?:=by
  funext m
  have:((i:Int) + (m:Int) * 1).toNat=i + m:=by omega
  rw [this]
 rw [e]
 have:=pick_run xs i k
 rw [List.filterMap_map] at this;have e2:((λ x=>xs[x]?) ∘ λ x=>i + x)=λ m=>xs[i + m]?:=rfl;rw [e2] at this;rw [this]
def getItem_tuple_cut {t sl:Addr}{items:Array Ad}{vl vu:Ad}{lo hi:Option Int}{Q:Ad->Ai->Prop} (ht:IsTup s.heap t items) (hs:s.heap.IsSliceOf sl vl vu .none) (pl:IsPart vl lo) (pu:IsPart vu hi)
  (hw:¬ (sIx items.size 0 lo=0/\sIx items.size items.size hi=items.size))
  (h:Q (.ref s.heap.objs.size) { s with heap:=s.heap.push { cls:=.type "tuple",data:=.seq ((items.toList.drop (sIx items.size 0 lo)).take (sIx items.size items.size hi - sIx items.size 0 lo)).toArray } })
  (hsz:items.size<=A0):An (Aw prog w) A (IX (.ref t) (.ref sl)) Q E s:=by
 have htake:sizeOk (.seq ((items.toList.drop (sIx items.size 0 lo)).take (sIx items.size items.size hi - sIx items.size 0 lo)).toArray):=by
  show ((items.toList.drop (sIx items.size 0 lo)).take (sIx items.size items.size hi - sIx items.size 0 lo)).toArray.size<=A0;rw [BZ,FY,OM,Ir];omega
 have hj:sIx items.size items.size hi<=items.size:=qV _ _ (A5 _) hi;obtain ⟨os,hos,hcs,hds⟩:=id hs;have hTs:s.TypeIs (.ref sl) "slice" := ⟨os,hos,hcs⟩
 unfold IX
 try with_reducible refine Jd ?_
 first | refine Ak (Az ?_) | skip
 refine Ak (wpAny_sequenceKey ht.typeIs (by decide) ?_);refine Ak (Lp (name:=Ka "__getitem__") ht.typeIs Uw
  (Jg Uw ht.typeIs entry_tuple_getitem ?_ (args_tuple_getitem _ _)))
 show An _ _ (Builtin.Tuple.tupleItemsOf (.ref t) >>= _) _ _ s;refine Ak (tupleItemsOf_ ht ?_);refine Ak (wpAny_typeOf hTs ?_);rw [if_pos (by decide)];refine Ak (Zy hs pl pu ?_);have hno:¬ ((((sIx items.size 0 lo:Nat):Int) == 0 && (1:Int) == 1 && (sIx items.size items.size hi - sIx items.size 0 lo) == items.size)=true):=by
  intro q;rw [AS,AS] at q;have q1:((sIx items.size 0 lo:Nat):Int)=0:=eq_of_beq q.1.1;have q2:sIx items.size items.size hi - sIx items.size 0 lo=items.size:=eq_of_beq q.2;exact hw ⟨by omega,by omega⟩
 show An _ _ (if (((sIx items.size 0 lo:Nat):Int) == 0 && (1:Int) == 1 && (sIx items.size items.size hi - sIx items.size 0 lo) == items.size)=true then _ else _) _ _ s;rw [if_neg hno,kI]
 first
  | exact Ak (m:=NA _) (Fg (Az ⟨_,rfl,Az h⟩) htake)
  | exact Ak (m:=NA _) (Fg (Ak (Az (Az ⟨_,rfl,Az h⟩))) htake)
  | exact Ak (Ak (m:=NA _) (Fg (Az (Az ⟨_,rfl,Az h⟩)) htake))
  | exact Ak (Ak (m:=NA _) (Fg (Az ⟨_,rfl,Az h⟩) htake))
end
end HT
namespace L2
open PySem PySem.Spec PyProof.Rows
abbrev TO:=St->Hp->(Option Int->Hp->Prop)->Prop
def PO (X:Cx) (e:Option Expr) (t:TO):Prop:=
 ∀ (pins:List (Addr×Obj)) (s:Ai) (σ:St) (H:Hp) (Q:Option Int->Hp->Prop),Inv X pins σ H s->t σ H Q ->
  An (Aw X.prog X.w) X.A (evalPart e X.env) (λ u s'=>∃ o H',Inv X pins σ H' s'/\IsPart u o/\Q o H') X.xe s
def Ww:TO:=λ _ H Q=>Q none H
def UW (t:TE):TO:=λ σ H Q=>t σ H λ x H1=>∃ i,x=.int i/\Q (some i) H1
theorem Uk {ns:List Int}:∀ {us:List Ad},Vals (ns.map V.int) us->DG us ns:=by
 induction ns with
 | nil=>intro us r;rw [FT] at r;cases r;exact .nil
 | cons n ns ih=>
  intro us r;rw [AR] at r;cases r with
  | cons r1 r2=>
   obtain ⟨t,e⟩:=r1;subst e;exact .cons n t (ih r2)
section
variable {X:Cx}{e:Expr}{te:TE}{lo hi:Option Expr}{tl th:TO}{pos p2:Pos}
def W4:PO X none Ww:=by
 intro pins s σ H Q I h;rw [evalPart_none];exact Az ⟨none,H,I,.none,h⟩
def MQ (h:PE X e te):PO X (some e) (UW te):=by
 intro pins s σ H Q I hw;rw [evalPart_some];refine A1 (h pins s σ H _ I hw) λ u s1 ⟨x,H1,I1,r1,q1⟩=>?_;obtain ⟨i,rfl,q⟩:=q1;obtain ⟨t,rfl⟩:=r1;exact ⟨some i,H1,I1,.int i t,q⟩
def SlR (X:Cx) (r:V->Option Int->Option Int->Hp->VK->Prop):Prop:=
 ∀ (pins:List (Addr×Obj)) (s:Ai) (σ:St) (H:Hp) (x:V) (v vl vu:Ad) (lo hi:Option Int) (sl:Addr) (Q:VK),Inv X pins σ H s->RelV x v->s.heap.IsSliceOf sl vl vu .none->IsPart vl lo->IsPart vu hi->r x lo hi H Q ->
  ∃ T id,typeLookup (.type T) "__getitem__" = pure (some (.builtin id))/\s.TypeIs v T/\An (Aw X.prog X.w) X.A (IX v (.ref sl)) (EP X pins σ Q) X.xe s
def SlR.or {r r':V->Option Int->Option Int->Hp->VK->Prop} (h:SlR X r) (h':SlR X r'):SlR X (λ x lo hi H Q=>r x lo hi H Q\/r' x lo hi H Q):=by
 intro pins s σ H x v vl vu lo hi sl Q I rx hs pl pu q;rcases q with q | q
 ·exact h pins s σ H x v vl vu lo hi sl Q I rx hs pl pu q
 ·exact h' pins s σ H x v vl vu lo hi sl Q I rx hs pl pu q
def Uy (r:V->Option Int->Option Int->Hp->VK->Prop) (te:TE) (tl th:TO):TE:=λ σ H Q=>te σ H λ x H1=>tl σ H1 λ l H2=>th σ H2 λ u H3=>r x l u H3 Q
def PM {r:V->Option Int->Option Int->Hp->VK->Prop} (hr:SlR X r) (he:PE X e te) (hl:PO X lo tl) (hu:PO X hi th):PE X (.Subscript e (.Slice lo hi none p2) pos) (Uy r te tl th):=by
 intro pins s σ H Q I h;refine Subscript_ (A1 (he pins s σ H _ I h) λ v s1 ⟨x,H1,I1,r1,q1⟩=>?_);refine wpAny_Slice (A1 (hl pins s1 σ H1 _ I1 q1) λ vl s2 ⟨l,H2,I2,pl,q2⟩=>A1 (hu pins s2 σ H2 _ I2 q2) λ vu s3 ⟨u,H3,I3,pu,q3⟩=>?_);rw [evalPart_none];refine Az ?_;have I4:Inv X pins σ H3 { s3 with heap:=s3.heap.push { cls:=.type "slice",data:=.fields #[vl,vu,.none] } }:=I3.kept (t':=s3.toks) λ b ob q=>Ci _ q;obtain ⟨T,id,hT,ht,hg⟩:=hr pins { s3 with heap:=s3.heap.push { cls:=.type "slice",data:=.fields #[vl,vu,.none] } } σ H3 x v vl vu l u s3.heap.objs.size Q I4 r1 (Heap.IsSliceOf.new ..) pl pu q3;show An (Aw X.prog X.w) X.A (subscriptTail e (.Slice lo hi none p2) v (.ref s3.heap.objs.size)) (EP X pins σ Q) X.xe { s3 with heap:=s3.heap.push { cls:=.type "slice",data:=.fields #[vl,vu,.none] } };exact tail_any (ops:=[.ref s3.heap.objs.size,v]) ht hT hg (by with_unfolding_all rfl)
def CW (xs:List V) (lo hi:Option Int):List V:=(xs.drop (HT.sIx xs.length 0 lo)).take (HT.sIx xs.length xs.length hi - HT.sIx xs.length 0 lo)
def TH (xs:List V) (lo hi:Option Int):(CW xs lo hi).length<=xs.length:=by
 unfold CW;rw [FY,OM];omega
def Lz (K:PySem.W.Frag):V->Option Int->Option Int->Hp->VK->Prop:=λ x lo hi H Q=>∃ a xs,x=.ref a/\CM K H a xs /\
 ¬ (HT.sIx xs.length 0 lo=0/\HT.sIx xs.length xs.length hi=xs.length)/\∀ p,H p=none->Q (.ref p) (Ap H p (.tup (CW xs lo hi)))
def R5:SlR X (Lz X.K):=by
 intro pins s σ H x v vl vu lo hi sl Q I rx hs pl pu h;obtain ⟨a,xs,rfl,hx,hw,q⟩:=h;cases rx;obtain ⟨its,r,ht,hz⟩:=I.tuple hx;have hlen:its.toArray.size=xs.length:=by rw [BZ];exact r.length.symm
 refine ⟨"tuple",_,PyProof.Rows.slot_tuple_getitem.lookup,ht.typeIs,?_⟩;refine HT.getItem_tuple_cut ht hs pl pu (by rw [hlen];exact hw) ?_ (by rw [hlen];exact hz);rw [hlen];refine ⟨.ref s.heap.objs.size,_,I.laid (t':=s.toks) (o:=.tup (CW xs lo hi)) (λ b ob q=>Ci _ q) (A5 _) ?_,rfl,q _ (I.hok.fresh (A5 _))⟩;exact ⟨Cv (TH xs lo hi) hz,_,(r.drop (HT.sIx xs.length 0 lo)).take (HT.sIx xs.length xs.length hi - HT.sIx xs.length 0 lo),IsTup.new _ _⟩
def QA (K:PySem.W.Frag):R2:=λ x y H Q=>∃ a b ns ms,x=.ref a/\y=.ref b/\CM K H a (ns.map V.int)/\CM K H b (ms.map V.int)/\Q (.bl (HT.lexLt ns ms)) H
def qy (hu:X.A.units < Df):OpR X (Cn .Lt) (QA X.K):=by
 intro pins s σ H x y v u Q I rx ry h;obtain ⟨a,b,ns,ms,rfl,rfl,ha,hb,q⟩:=h;cases rx;cases ry;obtain ⟨its,r1,p1,_⟩:=I.tuple ha;obtain ⟨its2,r2,p2,_⟩:=I.tuple hb;have i1:DG its.toArray.toList ns:=Uk r1;have i2:DG its2.toArray.toList ms:=Uk r2;exact HT.lt_tupInts p1 p2 i1 i2 hu ⟨.bl (HT.lexLt ns ms),H,I,rfl,q⟩
def qh (K:PySem.W.Frag):R2:=λ x y H Q=>∃ a b xs ys,x=.ref a/\y=.ref b/\CM K H a xs/\CM K H b ys/\xs≠[]/\xs.length + ys.length<=A0 /\
 (ys=[]->Q (.ref a) H)/\(ys≠[]->∀ p,H p=none->Q (.ref p) (Ap H p (.tup (xs++ys))))
theorem Vals.nil_iff {xs:List V}{us:List Ad} (r:Vals xs us):us=[]↔xs=[]:=by
 cases r with
 | nil=>simp
 | cons _ _=>simp
def qnu:OpR X (EE .Add) (qh X.K):=by
 intro pins s σ H x y v u Q I rx ry h;obtain ⟨a,b,xs,ys,rfl,rfl,ha,hb,hx,hz,q1,q2⟩:=h;cases rx;cases ry;obtain ⟨its,r1,p1,_⟩:=I.tuple ha;obtain ⟨its2,r2,p2,_⟩:=I.tuple hb;refine HT.cat_tup p1 p2 (λ z=>hx (r1.nil_iff.mp z)) (λ z=>⟨.ref a,H,I,rfl,q1 (r2.nil_iff.mp z)⟩) (λ z=>?_) (by rw [<- r1.length,<- r2.length];exact hz);refine ⟨.ref s.heap.objs.size,_,I.laid (t':=s.toks) (o:=.tup (xs++ys)) (λ b ob q=>Ci _ q) (A5 _) ?_,rfl,q2 (λ w=>z (r2.nil_iff.mpr w)) _ (I.hok.fresh (A5 _))⟩;exact ⟨by rw [BI];exact hz,_,r1.append r2,IsTup.new _ _⟩
end
def DV (n:Nat) (i:Int):Option Nat:=if 0<=i then (if i < n then some i.toNat else none) else if -(n:Int)<=i then some (i + n).toNat else none
def BE {α:Type} (xs:List α) (i:Int):Option α:=(DV xs.length i).bind λ j=>xs[j]?
def Wa {n:Nat}{i:Int}{j:Nat} (h:DV n i=some j):seqIndex? i n=some j/\j < n/\-(n:Int)<=i/\i < n:=by
 unfold DV at h;by_cases h0:0<=i
 ·rw [if_pos h0] at h;by_cases h1:i < n
  ·rw [if_pos h1] at h;have e:i.toNat=j:=Option.some.inj h;exact ⟨by rw [Nl h0 h1,e],by omega,by omega,h1⟩
  ·rw [if_neg h1] at h;cases h
 ·rw [if_neg h0] at h;by_cases h1:-(n:Int)<=i
  ·rw [if_pos h1] at h;have e:(i + n).toNat=j:=Option.some.inj h;exact ⟨by rw [seqIndex_neg (by omega) h1,e],by omega,h1,by omega⟩
  ·rw [if_neg h1] at h;cases h
theorem MD {α:Type}{xs:List α}{i:Int}{v:α} (h:BE xs i=some v):∃ j,seqIndex? i xs.length=some j/\xs[j]?=some v/\j < xs.length/\-(xs.length:Int)<=i/\i < xs.length:=by
 unfold BE at h;cases e:DV xs.length i with
 | none=>rw [e] at h;cases h
 | some j=>
  rw [e] at h;obtain ⟨h1,h2,h3,h4⟩:=Wa e;exact ⟨j,h1,h,h2,h3,h4⟩
def MC (b:Expr):Prop:=∀ o i,subscripted b false o i=operate [o,i] (IX o i)
def IxR (X:Cx) (r:R2):Prop:=
 ∀ (value slice:Expr) (pins:List (Addr×Obj)) (s:Ai) (σ:St) (H:Hp) (x y:V) (v u:Ad) (Q:VK),Inv X pins σ H s->RelV x v->RelV y u->r x y H Q ->
  subscripted slice false v u=operate [v,u] (IX v u)->An (Aw X.prog X.w) X.A (subscriptTail value slice v u) (EP X pins σ Q) X.xe s
def uF (X:Cx) (id:String) (r:V->List V->Hp->VK->Prop):Prop:=
 ∀ (pins:List (Addr×Obj)) (s:Ai) (σ:St) (H:Hp) (x:V) (xs:List V) (v:Ad) (us:List Ad) (Q:VK),Inv X pins σ H s->RelV x v->Vals xs us->r x xs H Q ->
  An (Aw X.prog X.w) X.A (call (.builtin id) (v::us)) (EP X pins σ Q) X.xe s
section
variable {X:Cx}{a b:Expr}{ta tb:TE}{pos:Pos}
def IxR.or {r r':R2} (h:IxR X r) (h':IxR X r'):IxR X (λ x y H Q=>r x y H Q\/r' x y H Q):=by
 intro value slice pins s σ H x y v u Q I rx ry q hs;rcases q with q | q
 ·exact h value slice pins s σ H x y v u Q I rx ry q hs
 ·exact h' value slice pins s σ H x y v u Q I rx ry q hs
def US {r:R2} (hr:IxR X r) (ha:PE X a ta) (hb:PE X b tb) (hs:MC b):PE X (.Subscript a b pos) (Kg r ta tb):=by
 intro pins s σ H Q I h;exact Subscript_ (J8 ha hb I h λ v u s2 x y H2 I2 rx ry q=>hr a b pins s2 σ H2 x y v u Q I2 rx ry q (hs _ _))
def Hw (K:PySem.W.Frag):R2:=λ x y H Q=>∃ p xs i v,x=.ref p/\y=.int i/\Bl K H p xs/\BE xs i=some v/\Q v H
def L3 (K:PySem.W.Frag):R2:=λ x y H Q=>∃ p xs i v,x=.ref p/\y=.int i/\CM K H p xs/\BE xs i=some v/\Q v H
def L4:R2:=λ x y H Q=>∃ z i c,x=.str z/\y=.int i/\z.length<=A0/\BE z.cps.toList i=some c/\Q (.str ⟨#[c]⟩) H
def qn7:IxR X (Hw X.K):=by
 intro value slice pins s σ H x y v u Q I rx ry h hs;obtain ⟨p,xs,i,z,rfl,rfl,hq,he,q⟩:=h;cases rx;obtain ⟨t,rfl⟩:=ry;obtain ⟨its,r,pl,hz⟩:=I.list hq;obtain ⟨j,h1,h2,h3,h4,h5⟩:=MD he;obtain ⟨w,ew,rw'⟩:=r.get h2;have hl:=r.length;have hn:=IP;have fin:EP X pins σ Q w s:=⟨z,H,I,rw',q⟩
 by_cases h0:0<=i
 ·have hj:i.toNat=j:=by
   rw [Nl h0 h5] at h1;exact Option.some.inj h1
  exact item_listR pl.isList h0 (by omega) (by rw [hj];simpa using ew) fin hs
 ·have hj:(i + (its.toArray.size:Int)).toNat=j:=by
   rw [seqIndex_neg (by omega) h4] at h1;rw [BZ,<- hl];exact Option.some.inj h1
  exact subscriptTail_builtinR (x:=w) pl.isList.typeIs slot_list_getitem.lookup
   (wpAny_getItem_list_neg (Q:=λ r s'=>r=w/\EP X pins σ Q r s') pl.isList (by omega) (by rw [BZ] <;> omega) (by omega) (by rw [hj];simpa using ew) ⟨rfl,fin⟩) hs
def qr6:IxR X (L3 X.K):=by
 intro value slice pins s σ H x y v u Q I rx ry h hs;obtain ⟨p,xs,i,z,rfl,rfl,hq,he,q⟩:=h;cases rx;obtain ⟨t,rfl⟩:=ry;obtain ⟨its,r,pl,hz⟩:=I.tuple hq;obtain ⟨j,h1,h2,h3,h4,h5⟩:=MD he;obtain ⟨w,ew,rw'⟩:=r.get h2;have hl:=r.length;have hn:=IP;have fin:EP X pins σ Q w s:=⟨z,H,I,rw',q⟩
 exact subscriptTail_builtinR (x:=w) pl.typeIs slot_tuple_getitem.lookup
  (getItem_tuple (j:=j) (Q:=λ r s'=>r=w/\EP X pins σ Q r s') pl (by omega) (by omega) (by rw [BZ,<- hl];exact h1) (by simpa using ew) ⟨rfl,fin⟩) hs
def qC:IxR X L4:=by
 intro value slice pins s σ H x y v u Q I rx ry h hs;obtain ⟨z,i,c,rfl,rfl,hz,he,q⟩:=h;obtain ⟨t,rfl⟩:=rx;obtain ⟨t',rfl⟩:=ry;obtain ⟨j,h1,h2,h3,h4,h5⟩:=MD he;have hl:z.cps.toList.length=z.length:=by simp [Str.length]
 rw [hl] at h1 h4 h5;have hn:=IP;exact tail_any (typeIs_str s z t) slot_str_getitem.lookup (getItem_str (c:=c) (by
  have e1:decide (i < -(2 ^ 63:Int))=false:=decide_eq_false (by omega);have e2:decide (i ≥ 2 ^ 63)=false:=decide_eq_false (by omega);rw [e1,e2,Sn]) (by rw [h1];simpa using h2) ⟨.str ⟨#[c]⟩,H,I.tok _,⟨_,rfl⟩,q⟩) hs
def Z8 (K:PySem.W.Frag):R2:=λ x y H Q=>Hw K x y H Q\/L3 K x y H Q\/L4 x y H Q
def qlo:IxR X (Z8 X.K):=qn7.or (qr6.or qC)
def wI (its:List Ad) (n j:Nat) (u:Ad):Ja (·.setIfInBounds j u) { cls:=.type "list",data:=.seq its.toArray n }={ cls:=.type "list",data:=.seq (its.set j u).toArray n }:=by
 simp [Ja]
def Inv.lst {pins:List (Addr×Obj)}{σ:St}{H:Hp}{s:Ai}{p:Addr}{xs:List V} (I:Inv X pins σ H s) (h:H p=some (.lst xs)):
  ∃ (its:List Ad) (n:Nat),Vals xs its/\s.heap.get? p=some { cls:=.type "list",data:=.seq its.toArray n }/\xs.length<=A0:=by
 obtain ⟨z,its,n,r,e⟩:=I.hok p _ h;exact ⟨its,n,r,e,z⟩
def Inv.lstUpd {pins:List (Addr×Obj)}{σ:St}{H:Hp}{s:Ai}{p:Addr}{xs ys:List V}{its its':List Ad}{n n':Nat}{f:Obj->Obj} (I:Inv X pins σ H s) (h:H p=some (.lst xs))
  (ho:s.heap.get? p=some { cls:=.type "list",data:=.seq its.toArray n }) (hf:f { cls:=.type "list",data:=.seq its.toArray n }={ cls:=.type "list",data:=.seq its'.toArray n' }) (r:Vals ys its') (hz:ys.length<=A0) (t:Nat):
  Inv X pins σ (Ap H p (.lst ys)) { s with heap:=s.heap.update p f,toks:=t }:=by
 have e:(s.heap.update p f).get? p=some { cls:=.type "list",data:=.seq its'.toArray n' }:=by
  rw [Lo f ho (by rw [hf] <;> rfl),hf]
 refine I.write (x:=p) (e:=p) (by rw [h];trivial) (.inl rfl) (λ b u hb q=>(N8 _ _ (Cb hb)).trans q) ⟨_,e⟩ ?_;exact ⟨hz,its',n',r,e⟩
def UN:V->V->V->Hp->(Hp->Prop)->Prop:=λ o i v H Q=>∃ p xs k j,o=.ref p/\i=.int k/\H p=some (.lst xs)/\DV xs.length k=some j/\Q (Ap H p (.lst (xs.set j v)))
def kR:HL X UN:=by
 intro pins s σ H o i v ov iv u Q I ro ri rv h;obtain ⟨p,xs,k,j,rfl,rfl,hp,hj,q⟩:=h;cases ro;obtain ⟨t,rfl⟩:=ri;obtain ⟨its,n,r,ho,hz⟩:=I.lst hp;obtain ⟨h1,h2,h3,h4⟩:=Wa hj;have hl:=r.length;have hn:=IP;have I':Inv X pins σ (Ap H p (.lst (xs.set j v))) { s with heap:=s.heap.update p (Ja (·.setIfInBounds j u)) }:=
  I.lstUpd hp ho (wI its n j u) (r.set rv j) (by rw [DN];exact hz) s.toks
 by_cases h0:0<=k
 ·have hk:k.toNat=j:=by
   rw [Nl h0 h4] at h1;exact Option.some.inj h1
  exact PySem.W.ki_setAt ho h0 (by omega) (by rw [BZ,<- hl];exact h4) (by rw [hk];exact ⟨_,I',q⟩)
 ·have hk:(k + (its.toArray.size:Int)).toNat=j:=by
   rw [seqIndex_neg (by omega) h3] at h1;rw [BZ,<- hl];exact Option.some.inj h1
  exact PySem.W.ki_setBack ho (by omega) (by rw [BZ,<- hl];exact h3) (by omega) (by rw [hk];exact ⟨_,I',q⟩)
def Z1 (lo hi:Option Int) (n:Nat):(Jb lo hi none n).1=((HT.sIx n 0 lo:Nat):Int)/\(Jb lo hi none n).2.1=((HT.sIx n n hi:Nat):Int)/\(Jb lo hi none n).2.2=1:=by
 refine ⟨?_,?_,rfl⟩
 ·cases lo with
  | none=>simp [Jb,HT.sIx]
  | some i=>
   simp only [Jb,HT.sIx,Y7,show (1:Int) > 0 by decide,if_true];by_cases h:i < 0
   ·simp only [h,if_true] <;> omega
   ·simp only [h,if_false] <;> omega
 ·cases hi with
  | none=>simp [Jb,HT.sIx]
  | some i=>
   simp only [Jb,HT.sIx,Y7,show (1:Int) > 0 by decide,if_true];by_cases h:i < 0
   ·simp only [h,if_true] <;> omega
   ·simp only [h,if_false] <;> omega
def Z4 (its:List Ad) (lo hi:Option Int):slicePick its.toArray lo hi none=((its.drop (HT.sIx its.length 0 lo)).take (HT.sIx its.length its.length hi - HT.sIx its.length 0 lo)).toArray:=by
 obtain ⟨h1,h2,h3⟩:=Z1 lo hi its.toArray.size;unfold slicePick;rw [h1,h2,h3];simp only [sliceRange_one,pick_run,BZ] <;> rfl
def L0 (K:PySem.W.Frag):V->Option Int->Option Int->Hp->VK->Prop:=λ x lo hi H Q=>∃ a xs,x=.ref a/\Bl K H a xs/\∀ p,H p=none->Q (.ref p) (Ap H p (.lst (CW xs lo hi)))
def qbq:SlR X (L0 X.K):=by
 intro pins s σ H x v vl vu lo hi sl Q I rx hs pl pu h;obtain ⟨a,xs,rfl,hx,q⟩:=h;cases rx;obtain ⟨its,r,ht,hz⟩:=I.list hx;have hlen:=r.length;refine ⟨"list",_,slot_list_getitem.lookup,ht.isList.typeIs,?_⟩;refine wpAny_getItem_list_slice ht.isList hs pl pu .none (by simp) ?_ (by rw [BZ] <;> omega);rw [Z4,<- hlen];refine ⟨.ref s.heap.objs.size,_,I.laid (t':=s.toks) (o:=.lst (CW xs lo hi)) (λ b ob q=>Ci _ q) (A5 _) ?_,rfl,q _ (I.hok.fresh (A5 _))⟩;exact ⟨Cv (TH xs lo hi) hz,_,0,(r.drop (HT.sIx xs.length 0 lo)).take (HT.sIx xs.length xs.length hi - HT.sIx xs.length 0 lo),C0 _ rfl⟩
def qa8:zvc X (.builtin "len") (λ xs H Q=>∃ p ys,xs=[.ref p]/\(Bl X.K H p ys\/CM X.K H p ys)/\Q (.int ys.length) H):=by
 intro pins s σ H xs us Q I r h;obtain ⟨p,ys,rfl,hq,q⟩:=h;obtain ⟨u,rfl,rx⟩:=Fd r;cases rx;have hn:=IP;rcases hq with hq | hq
 ·obtain ⟨its,r',pl,hz⟩:=I.list hq;have hlen:=r'.length;exact Calls.call_len_list pl.isList (by simp only [BZ] <;> omega) ⟨.int ys.length,H,I.tok _,⟨s.toks + 1,by rw [BZ,hlen]⟩,q⟩
 ·obtain ⟨its,r',pl,hz⟩:=I.tuple hq;have hlen:=r'.length;exact len_tuple pl (by simp only [BZ] <;> omega) ⟨.int ys.length,H,I.tok _,⟨s.toks + 1,by rw [BZ,hlen]⟩,q⟩
def ym:zvc X (.builtin "len") (λ xs H Q=>∃ z,xs=[.str z]/\z.length<=A0/\Q (.int z.length) H):=by
 intro pins s σ H xs us Q I r h;obtain ⟨z,rfl,hz,q⟩:=h;obtain ⟨u,rfl,t,rfl⟩:=Fd r;have hn:=IP;exact len_str (by omega) ⟨.int z.length,H,I.tok _,⟨_,rfl⟩,q⟩
def zvc.or {f:Ad}{r r':List V->Hp->VK->Prop} (h:zvc X f r) (h':zvc X f r'):zvc X f (λ xs H Q=>r xs H Q\/r' xs H Q):=by
 intro pins s σ H xs us Q I rs q;rcases q with q | q
 ·exact h pins s σ H xs us Q I rs q
 ·exact h' pins s σ H xs us Q I rs q
def yn:zvc X (.type "list") (λ xs H Q=>∃ p ys,xs=[.ref p]/\(Bl X.K H p ys\/CM X.K H p ys)/\∀ l,H l=none->Q (.ref l) (Ap H l (.lst ys))):=by
 intro pins s σ H xs us Q I r h;obtain ⟨p,ys,rfl,hq,q⟩:=h;obtain ⟨u,rfl,rx⟩:=Fd r;cases rx;have fin:∀ (its:List Ad),Vals ys its->ys.length<=A0->∀ (h':Heap) (c':Nat),(∀ b o',s.heap.get? b=some o'->h'.get? b=some o') ->
   h'.get? s.heap.objs.size=some { cls:=.type "list",dict:=none,data:=.seq its.toArray c',slots:=#[] }->EP X pins σ Q (.ref s.heap.objs.size) { s with heap:=h' }:=λ its r' hz h' c' kp e=>
  ⟨.ref s.heap.objs.size,_,I.laid (t':=s.toks) kp (A5 _) (show zxo X.prog X.w _ h' _ (.lst ys) from ⟨hz,its,c',r',e⟩),rfl,q _ (I.hok.fresh (A5 _))⟩
 rcases hq with hq | hq
 ·obtain ⟨its,r',pl,hz⟩:=I.list hq;have hlen:=r'.length;obtain ⟨o,ho,hc,n,hd⟩:=pl.isList;exact call_list_seq p (.inl rfl) ho hc hd (λ h' c' kp e=>fin its r' hz h' c' kp e) (by simp only [BZ] <;> omega)
 ·obtain ⟨its,r',pl,hz⟩:=I.tuple hq;have hlen:=r'.length;obtain ⟨o,ho,hc,n,hd⟩:=pl;exact call_list_seq p (.inr rfl) ho hc hd (λ h' c' kp e=>fin its r' hz h' c' kp e) (by simp only [BZ] <;> omega)
def Z2:zvc X (.type "tuple") (λ xs H Q=>∃ p ys,xs=[.ref p]/\((Bl X.K H p ys/\∀ l,H l=none->Q (.ref l) (Ap H l (.tup ys)))\/(CM X.K H p ys/\Q (.ref p) H))):=by
 intro pins s σ H xs us Q I r h;obtain ⟨p,ys,rfl,h⟩:=h;obtain ⟨u,rfl,rx⟩:=Fd r;cases rx;rcases h with ⟨hq,q⟩ | ⟨hq,q⟩
 ·obtain ⟨its,r',pl,hz⟩:=I.list hq;have hlen:=r'.length;refine call_tuple_list pl.isList (λ h' kp=>?_) (by simp only [BZ] <;> omega);have I1:Inv X pins σ H { s with heap:=h' }:=I.kept (t':=s.toks) kp;have I2:Inv X pins σ (Ap H h'.objs.size (.tup ys)) { s with heap:=h'.push { cls:=.type "tuple",data:=.seq its.toArray } }:=
   I1.laid (t':=s.toks) (λ b o e=>Ci _ e) (A5 _) (show zxo X.prog X.w _ _ _ (.tup ys) from ⟨hz,its,r',IsTup.new _ _⟩)
  exact ⟨.ref h'.objs.size,_,I2,rfl,q _ (I1.hok.fresh (A5 _))⟩
 ·obtain ⟨its,r',pl,hz⟩:=I.tuple hq;exact call_tuple_same pl ⟨.ref p,H,I,rfl,q⟩
def Q0 (K:PySem.W.Frag) (T:String) (x:V) (H:Hp):Prop:=match x with
 | .str _=>T = "str"
 | .int _=>T = "int"
 | .ref p=>(T = "list" /\ ∃ xs,Bl K H p xs)\/(T = "tuple" /\ ∃ o,K.lookup p=some o/\o.cls=.type "tuple" /\ o.dict=none) \/
   (T = "dict" /\ ((∃ kvs,H p=some (.dK kvs))\/∃ kvs,H p=some (.dT kvs)))\/(T = "set" /\ ∃ S n,H p=some (.set S n))
 | _=>False
theorem xI {pins:List (Addr×Obj)}{σ:St}{H:Hp}{s:Ai}{T:String}{x:V}{v:Ad} (I:Inv X pins σ H s) (r:RelV x v) (ty:Q0 X.K T x H):
  s.TypeIs v T/\∀ a,v=.ref a->∃ ob,s.heap.get? a=some ob/\ob.dict=none:=by
 cases x with
 | str z=>
  obtain ⟨t,rfl⟩:=r;cases (show T = "str" from ty);exact ⟨typeIs_str s z t,λ _ e=>nomatch e⟩
 | int i=>
  obtain ⟨t,rfl⟩:=r;cases (show T = "int" from ty);exact ⟨typeIs_int s i t,λ _ e=>nomatch e⟩
 | ref p=>
  cases r;rcases ty with ⟨rfl,xs,hq⟩ | ⟨rfl,o,hk,hc,hd⟩ | ⟨rfl,hk⟩ | ⟨rfl,S,n,hk⟩
  ·obtain ⟨its,_,pl,_⟩:=I.list hq;refine ⟨pl.isList.typeIs,λ a e=>?_⟩;cases e;obtain ⟨o,n,e,c,hd,_⟩:=pl;exact ⟨o,e,hd⟩
  ·refine ⟨⟨o,I.kIn p o hk,hc⟩,λ a e=>?_⟩;cases e;exact ⟨o,I.kIn _ o hk,hd⟩
  ·have z:∃ o,s.heap.get? p=some o/\o.ExactDict:=by
    rcases hk with ⟨kvs,hk⟩ | ⟨kvs,hk⟩
    ·obtain ⟨_,_,_,_,o,_,_,e,ex,_⟩:=I.hok p _ hk;exact ⟨o,e,ex⟩
    ·obtain ⟨_,_,_,_,o,_,_,e,ex,_⟩:=I.hok p _ hk;exact ⟨o,e,ex⟩
   obtain ⟨o,e,ex⟩:=z;refine ⟨⟨o,e,ex.1⟩,λ a e2=>?_⟩;cases e2;exact ⟨o,e,ex.2.1⟩
  ·obtain ⟨o,_,_,_,e,ex,_⟩:=I.hok p _ hk;refine ⟨⟨o,e,ex.1⟩,λ a e2=>?_⟩;cases e2;exact ⟨o,e,ex.2.1⟩
 | _=>exact Hq ty
def Q6 (K:PySem.W.Frag) (T:String) (r:V->List V->Hp->VK->Prop) (to:TE) (t:TA):TE:=λ σ H Q=>to σ H λ x H1=>Q0 K T x H1/\t σ H1 λ xs H2=>r x xs H2 Q
variable {o e:Expr}{es:List Expr}{to:TE}{t:TA}{name:Str}{apos cpos:Pos}{T id:String}{r:V->List V->Hp->VK->Prop}
def UR (pa:PlainAttrs T) (slot:Slot T name id) (hty:typeOf (.builtin id)=pure (.type "method_descriptor")) (hm:uF X id r) (ho:PE X o to) (ha:PA X (e::es) t)
  (hbase:attributeBase o name X.env (eval o X.env)=eval o X.env:=by rfl)
  (hfew:((CH cpos (AA (e::es) X.env)).all (λ x=>!x.1) && (backToKw cpos (keywordEach [] X.env)).all (λ x=>x.1.isSome)
   && decide ((e::es).length + ([]:List Keyword).length + (if ([]:List Keyword).isEmpty then 0 else 1) < 30))=true:=by rfl)
  (hline:(apos.endLine == cpos.line)=true:=by rfl) (hs:AA (e::es) X.env=(false,eval e X.env)::AA es X.env:=by rfl) (hplain:(CH cpos (AA es X.env)).any (·.1)=false:=by rfl):
  PE X (.Call (.Attribute o name apos) (e::es) [] cpos) (Q6 X.K T r to t):=by
 intro pins s σ H Q I h;refine wpAny_Call_method_late hbase hfew hline rfl (A1 (ho pins s σ H _ I h) λ v s1 ⟨x,H1,I1,r1,ty,q1⟩=>?_);obtain ⟨h1,h2⟩:=xI I1 r1 ty;refine ⟨T,id,pa,slot,hty,h1,h2,?_⟩;have hA:=ha cpos pins s1 σ H1 _ I1 q1;rw [hs] at hA ⊢;refine Calls.callWith_builtin (by show (false || (CH cpos (AA es X.env)).any (·.1))=false;rw [hplain] <;> rfl) (Calls.evalArgs_plain ?_);exact A1 hA λ us s2 ⟨vs,H2,I2,r2,q2⟩=>hm pins s2 σ H2 x vs v us Q I2 r1 r2 q2
end
def Zb (X:Cx) (id:String) (r:V->List V->Hp->VK->Prop):Prop:=
 ∀ (pins:List (Addr×Obj)) (s:Ai) (σ:St) (H:Hp) (x:V) (xs:List V) (v:Ad) (us:List Ad) (Q:VK),Inv X pins σ H s->RelV x v->Vals xs us->r x xs H Q ->
  An (Aw X.prog X.w) X.A (call (.builtin id) (v::us)) (EP X pins σ Q) X.xe s
theorem Vals.one:∀ {x:V}{us:List Ad},Vals [x] us->∃ u,us=[u]/\RelV x u
 | _,_,.cons r .nil=>⟨_,rfl,r⟩
theorem Vals.rep {xs:List V}{us:List Ad} (h:Vals xs us):∀ k:Nat,Vals (AB k xs).flatten (AB k us).flatten
 | 0=>.nil
 | k + 1=>by
  rw [GK,GK,Kx,Kx];exact Vals.append h (Vals.rep h k)
theorem XH (its:List Ad):∀ (k:Nat) (acc:List Ad),
  Si (λ x1 x2=>x1++x2) acc.toArray (AB k its.toArray)=(acc++(AB k its).flatten).toArray
 | 0,acc=>by simp
 | k + 1,acc=>by
  have e:acc.toArray++its.toArray=(acc++its).toArray:=by simp
  have e2:(acc++its)++(AB k its).flatten=acc++(AB (k + 1) its).flatten:=by
   rw [GK,Kx,OO]
  rw [<- e2,<- XH its k (acc++its),<- e,GK,Y1]
section
variable {X:Cx}{pins:List (Addr×Obj)}{σ:St}{H:Hp}{s:Ai}{l b:Addr}{xs ys zs:List V}
def Inv.lset {its its':List Ad}{n:Nat}{f:Array Ad->Array Ad}{t':Nat} (I:Inv X pins σ H s) (hH:H l=some (.lst xs))
  (e:s.heap.get? l=some { cls:=.type "list",data:=.seq its.toArray n }) (hf:f its.toArray=its'.toArray) (hv:Vals ys its') (hz:ys.length<=A0):
  Inv X pins σ (Ap H l (.lst ys)) { s with heap:=s.heap.update l (Ja f),toks:=t' }:=by
 have q:=PySem.IsL.update e f;rw [hf] at q;refine I.write (x:=l) (e:=l) (by rw [hH];exact trivial) (.inl rfl) (λ b' u hb hu=>(N8 s.heap (Ja f) (Cb hb)).trans hu) ⟨_,q⟩ ?_;exact ⟨hz,its',_,hv,q⟩
def Inv.lnew {its:List Ad}{t':Nat} (I:Inv X pins σ H s) (hv:Vals ys its) (hz:ys.length<=A0):
  Inv X pins σ (Ap H s.heap.objs.size (.lst ys)) { s with heap:=s.heap.push { cls:=.type "list",data:=.seq its.toArray },toks:=t' }:=
 I.laid (λ _ _ q=>Ci _ q) (A5 _) ⟨hz,its,0,hv,C0 _ rfl⟩
def Inv.fresh (I:Inv X pins σ H s):H s.heap.objs.size=none:=I.hok.fresh (A5 _)
def Inv.lstM (I:Inv X pins σ H s) (hH:H l=some (.lst xs)):xs.length<=A0/\∃ (its:List Ad) (n:Nat),Vals xs its/\xs.length=its.length/\s.heap.get? l=some { cls:=.type "list",data:=.seq its.toArray n }:=by
 obtain ⟨z,its,n,r,e⟩:=I.hok l _ hH;exact ⟨z,its,n,r,r.length,e⟩
def Xd {n:Nat} (h:n<=A0):N9 n=false:=by
 unfold N9;exact decide_eq_false (by omega)
end
section
variable {X:Cx}
def W7:V->List V->Hp->VK->Prop:=λ x vs H Q=>∃ l xs y,x=.ref l/\vs=[y]/\H l=some (.lst xs)/\xs.length < A0/\Q .non (Ap H l (.lst (xs++[y])))
def XW:Zb X "list.append" W7:=by
 intro pins s σ H x vs v us Q I rx rv h;obtain ⟨l,xs,y,rfl,rfl,hH,hz,q⟩:=h;cases rx;obtain ⟨u,rfl,ru⟩:=rv.one;obtain ⟨z,its,n,r,hl,e⟩:=I.lstM hH;refine call_meets F.slot_list_append ⟨_,e,rfl⟩ F.entry_list_append (F.args_list_append_2 _ _) (PySem.list_append l its.toArray n u (by rw [BZ];omega)) ⟨e,?_⟩;refine ⟨.non,_,I.lset (its':=its++[u]) hH e (by simp) (r.append (.cons ru .nil)) ?_,rfl,q⟩;rw [BI,GL];omega
def W8:V->List V->Hp->VK->Prop:=λ x vs H Q=>∃ l b xs zs,x=.ref l/\vs=[.ref b]/\H l=some (.lst xs)/\H b=some (.lst zs)/\xs.length + zs.length<=A0/\Q .non (Ap H l (.lst (xs++zs)))
def wa:Zb X "list.extend" W8:=by
 intro pins s σ H x vs v us Q I rx rv h;obtain ⟨l,b,xs,zs,rfl,rfl,hH,hB,hz,q⟩:=h;cases rx;obtain ⟨u,rfl,ru⟩:=rv.one;cases ru;obtain ⟨z,its,n,r,hl,e⟩:=I.lstM hH;obtain ⟨z2,its2,n2,r2,hl2,e2⟩:=I.lstM hB;have hsz:its.toArray.size + its2.toArray.size<=A0:=by rw [BZ,BZ];omega
 have hlong:¬ (!its.toArray.isEmpty && N9 (its.toArray.size + its2.toArray.size))=true:=by
  rw [Xd hsz,Jx];exact Ck
 refine call_meets F.slot_list_extend ⟨_,e,rfl⟩ F.entry_list_extend (F.args_list_extend_2 _ _)
  (AutoSeq1.list_extend_list_list_0 l its.toArray n b its2.toArray n2 hlong (by rw [BZ];omega) (by omega)) ⟨e,e2,?_⟩
 refine ⟨.non,_,I.lset (its':=its++its2) hH e (by simp) (r.append r2) ?_,rfl,q⟩;rw [BI];omega
def QB:R2:=λ x y H Q=>∃ l b xs zs,x=.ref l/\y=.ref b/\H l=some (.lst xs)/\H b=some (.lst zs)/\xs.length + zs.length<=A0/\∀ p,H p=none->Q (.ref p) (Ap H p (.lst (xs++zs)))
def qrq:OpR X (EE .Add) QB:=by
 intro pins s σ H x y v u Q I rx ry h;obtain ⟨l,b,xs,zs,rfl,rfl,hH,hB,hz,q⟩:=h;cases rx;cases ry;obtain ⟨z,its,n,r,hl,e⟩:=I.lstM hH;obtain ⟨z2,its2,n2,r2,hl2,e2⟩:=I.lstM hB;refine PySem.P.add_list e e2 ?_ (by rw [BZ,BZ];omega);have ea:its.toArray++its2.toArray=(its++its2).toArray:=by simp
 rw [ea];exact ⟨.ref _,_,I.lnew (t':=s.toks) (r.append r2) (by rw [BI];omega),rfl,q _ I.fresh⟩
def Q9:R2:=λ x y H Q=>∃ l k xs,x=.ref l/\y=.int k/\H l=some (.lst xs)/\-(2 ^ 63)<=k/\k < 2 ^ 63/\xs.length * k.toNat<=A0 /\
 ∀ p,H p=none->Q (.ref p) (Ap H p (.lst (AB k.toNat xs).flatten))
theorem jl {α:Type} (xs:List α) (k:Nat):(AB k xs).flatten.length=k * xs.length:=by
 induction k with
 | zero=>simp
 | succ k ih=>rw [GK,Kx,BI,ih,Yr,Nat.add_comm]
def qA:OpR X (EE .Mult) Q9:=by
 intro pins s σ H x y v u Q I rx ry h;obtain ⟨l,k,xs,rfl,rfl,hH,h1,h2,hz,q⟩:=h;cases rx;obtain ⟨t,rfl⟩:=ry;obtain ⟨z,its,n,r,hl,e⟩:=I.lstM hH;have hlen:its.toArray.size * k.toNat<=A0:=by rw [BZ,<- hl];exact hz
 have hcap:¬ its.toArray.size * k.toNat > (2 ^ 63 - 1) / 8:=by
  have:(A0:Nat)<=(2 ^ 63 - 1) / 8:=by decide
  omega
 have hfit:¬ (!Builtin.List.listFitsIndex k)=true:=by
  rw [fitsIndex_both h1 h2];exact Ck
 have hlong:¬ N9 (its.toArray.size * k.toNat)=true:=by
  rw [Xd hlen];exact Ck
 have hnew:Si (λ x1 x2=>x1++x2) #[] (AB (if its.toArray.isEmpty=true then 0 else k.toNat) its.toArray)=(AB k.toNat its).flatten.toArray:=by
  have f0:∀ m:Nat,Si (λ x1 x2=>x1++x2) #[] (AB m its.toArray)=(AB m its).flatten.toArray:=λ m=>by
   have:=XH its m []
   rw [Ez] at this;exact this
  rw [f0];cases its with
  | nil=>simp
  | cons a r'=>rw [if_neg (by simp)]
 refine wpAny_binaryOp_repeat_ref (T := "list") (U := "int") (by decide) ⟨_,e,rfl⟩ (λ s'=>typeIs_int s' k t) noFill_list_mul F.fills_int_mul F.slot_int_rmul repeat_list F.slot_int_index.lookup
  (call_meets F.slot_int_rmul (typeIs_int s k t) F.entry_int_rmul (F.args_int_rmul_2 _ _) (int___rmul___int_list k t l its.toArray n)
   ⟨e,rfl,⟨_,e,rfl⟩,call_meets F.slot_list_mul ⟨_,e,rfl⟩ F.entry_list_mul (F.args_list_mul_2 _ _) (AutoListH.list___mul___list_int_3 l its.toArray n k t hfit hcap hlong) ⟨e,?_⟩⟩)
 rw [hnew];exact ⟨.ref _,_,I.lnew (t':=s.toks) (r.rep k.toNat) (by rw [jl,Sl];exact hz),rfl,q _ I.fresh⟩
end
section
variable {prog:A9}{w:A7}{A:Bs}{E:Ad->Ai->Prop}{s:Ai}
end
section
variable {X:Cx}
end
end L2
namespace Att
open PySem PySem.W PySem.Calls PyProof.Rows
theorem Zq {P:Params}{h:Heap}:∀ (ns:List Int) (vs:List Ad),WellAll P h vs (ns.map WData.int)->DG vs ns:=by
 intro ns;induction ns with
 | nil=>
  intro vs w;rw [FT] at w;cases w;exact .nil
 | cons n ns ih=>
  intro vs w;rw [AR] at w;cases w with
  | cons a b=>
   cases a;exact .cons _ _ (ih _ b)
theorem wy {l:OpenLaw}{n:Nat} (hn:l.most=some n) {P:Params}{h:Heap}{args:List WData}{vals:List Ad}
  (hpre:l.row.toRowW.claim.pre args=true) (hwl:WellAll P h vals args):
  ∃ a vs ns,vals=[Value.ref a]/\args=[WData.list (ns.map WData.int)]/\h.get? a=some { cls:=.type "list",data:=.seq vs.toArray }/\DG vs ns/\ns.length<=n:=by
 have hsh:WShape.hasAll [] args [.list .int]=true:=(pre_splitW hpre).1;have hc:l.pre.holds [] { args:=args }=true:=(pre_splitW hpre).2;obtain ⟨d,r,rfl,h1,h2⟩:=hasAllW_cons hsh;obtain rfl:=hasAllW_nil h2;obtain ⟨xs,rfl,h3⟩:=hasW_list h1;obtain ⟨ns,rfl⟩:=items_int h3;have hlen:ns.length<=n:=by
  unfold OpenLaw.pre at hc;have h4:(WTm.not (.lt (.lit (.int (n:Int))) (.len (.arg 0)))).holds [] { args:=[.list (ns.map .int)] }=true:=by
   have h4:=(holds_andW hc).1;rw [hn] at h4;exact h4
  have h5:=condW_of h4 (w_not (w_lt w_lit (w_len_list (w_arg rfl))));rw [AG] at h5;refine Nat.le_of_not_lt λ q=>?_;have q':(n:Int) < ((ns.length:Nat):Int):=by omega
  first
   | (rw [decide_eq_true q'] at h5;exact absurd h5 (by decide))
   | (simp at h5;omega)
 cases hwl with
 | cons w1 w2=>
  cases w2;cases w1 with
  | list ho hall=>exact ⟨_,_,ns,rfl,rfl,ho,Zq ns _ hall,hlen⟩
def wC (l:OpenLaw) (args:List WData):l.row.toRowW.claim.post args (.bool true) args=true:=
 postW_of (r:=l.row.toRowW) (X:=(true == true))
  (show WShape.has [] (.bool true) .bool=true by first | rfl | decide | simp [WShape.has,WShape.arms,WShape.armsAll])
  (show (WTm.eq .res (.lit (.bool true))).value [] { args:=args,res:=some (.bool true),after:=args }=some (.bool (true == true)) from w_eq_bool (w_res rfl) w_lit) rfl
def attach_call {l:OpenLaw}{n:Nat}{q:A9}{loose:List Str}{XP:(Str->Option Ad)->Heap->Prop}{YP:A7->Heap->Prop}{d:DefRec}
  (hn:l.most=some n) (hdf:d.params.defaults=[])
  (call:∀ (w:A7) (s₀ s₁:Ai) (mg mb:Str->Option Ad) (fa:Addr) (o:Obj) (pm cd doc:Ad) (a:Addr) (vs:List Ad) (ns:List Int),
   Ground q loose [] XP w s₀ mg mb s₁.heap->YP w s₁.heap ->
   s₁.heap.get? fa=some o->o.data=.func (docDef d.name d.params d.body d.scope pm cd doc)->s₁.heap.CodeRec cd d.name->mg d.name=some (.ref fa) ->
   s₁.heap.get? a=some { cls:=.type "list",data:=.seq vs.toArray }->DG vs ns->ns.length<=n->s₁.gens=#[] ->
   Ik (Aw l.prog w) IW (.call (.ref fa) ⟨[.ref a],[]⟩) (λ r s'=>r=.ok (.ret (.bool true))/\OldK s₁.heap s'.heap/\s'.os=s₁.os/\Hn s'.gens) s₁):
  WalkO q loose XP YP l.row.toRowW d [] (λ f vs=>PySem.call f vs):=by
 intro w s₀ s₁ mg mb G Y fa o pm cd doc dV kV ho hd hcd hD hmg hg args vals as hpre hlay hrd hwl hlo;obtain rfl:dV=.none:=Dflts.none hD hdf;obtain rfl:kV=.none:=Dflts.noKw hD;obtain ⟨a,vs,ns,rfl,rfl,hobj,hints,hlen⟩:=wy hn hpre hwl;refine enter_call (codeAny_mono (call w s₀ s₁ mg mb fa o pm cd doc a vs ns G Y ho (fd_plain hd) hcd hmg hobj hints hlen hg) λ r s' hq=>?_);obtain ⟨rfl,h2,h3,h4⟩:=hq;exact ⟨.inl ⟨.bool true,.bool true,[],rfl,λ _=>rfl,.bool true,wC l _,λ _=>⟨List.Pairwise.nil,λ _ hm=>(nomatch hm)⟩⟩,h2,h3,h4⟩
section
variable {prog:A9}{w:A7}{A:Bs}{E:Ad->Ai->Prop}{s:Ai}{K:Frag}
end
end Att
namespace L2
open PySem PySem.Spec PyProof.Rows
theorem Ua:∀ {vs:List Ad}{ns:List Int},DG vs ns->Vals (ns.map V.int) vs
 | _,_,.nil=>.nil
 | _,_,.cons n t h=>.cons ⟨t,rfl⟩ (Ua h)
def HM (H:Hp):Prop:=∀ b,H b=none\/∃ o xs,H b=some (.frz o (.lst xs))
theorem vc {P:A9}{w:A7}{K:PySem.W.Frag}{mg mb:Str->Option Ad}{CX:Fq}{k:Nat}{fa a:Addr}{fd:Dg}{x:Str}{sp:Sp}{s₁:Ai}{vs:List Ad}{ns:List Int}
  (KX:K.In s₁.heap) (hns:s₁.heap.Ns Eg mg) (hb:s₁.heap.Ns builtinsNs mb) (hbb:∀ x:Str,x ≠ "__name__" -> mb x=Jc x) (hlim:s₁.heap.NoLimit) (hg:s₁.gens=#[])
  (ha:s₁.heap.get? a=some { cls:=.type "list",data:=.seq vs.toArray }) (hi:DG vs ns) (hl:ns.length<=A0) (hr:Room k IW)
  (F:∀ base:Heap,K.In base->base.Ns Eg mg->FnOk P w K mg base CX k fa fd [x] sp) (hbind:∀ (s:Ai) (u:Ad),BindsTo s fd ⟨[u],[]⟩ [(x,u)])
  (hsp:∀ H:Hp,HM H->Bl K H a (ns.map V.int)->sp [.ref a] H (λ v _=>v=.bl true) λ _ _ _=>False)
  (hCX:∀ H e s',CX [] H s₁ (λ _ _ _=>False) e s'->False):
  Ik (Aw P w) IW (.call (.ref fa) ⟨[.ref a],[]⟩) (λ r s'=>r=.ok (.ret (.bool true))/\OldK s₁.heap s'.heap/\s'.os=s₁.os/\Hn s'.gens) s₁:=by
 have rv:=Ua hi;have lenV:=hi.length;have core:∀ H:Hp,HM H->Bl K H a (ns.map V.int)->HOk P w H s₁.heap->(∀ b,H b≠none->b=a)->(H a≠none->K.lookup a=none) ->
   Ik (Aw P w) IW (.call (.ref fa) ⟨[.ref a],[]⟩) (λ r s'=>r=.ok (.ret (.bool true))/\OldK s₁.heap s'.heap/\s'.os=s₁.os/\Hn s'.gens) s₁:=by
  intro H hO hS hok hA hK;have base_of:∀ {b:Addr}{o:Obj},s₁.heap.get? b=some o->H b=none->(Dx s₁.heap H).get? b=some o:=λ e n=>k6 e n;have noA:∀ {b:Addr}{o:Obj}{es:Array Ee}{ep:Nat},s₁.heap.get? b=some o->o.data=.dict es ep->H b=none:=λ {b o es ep} e d=>by
   cases q:H b with
   | none=>rfl
   | some u=>
    have e':b=a:=hA b (by rw [q];simp);subst e';rw [ha] at e;cases e;have d':Data.seq vs.toArray _=Data.dict es ep:=d;cases d'
  have nsK:∀ {b:Addr}{m:Str->Option Ad},s₁.heap.Ns b m->(Dx s₁.heap H).Ns b m:=λ {b m} ⟨o,es,ep,e,d,r⟩=>⟨o,es,ep,base_of e (noA e d),d,r⟩
  have hKb:K.In (Dx s₁.heap H):=λ b o e=>base_of (KX b o e) (by
   cases q:H b with
   | none=>rfl
   | some u=>
    have e':b=a:=hA b (by rw [q];simp);subst e';rw [hK (by rw [q];simp)] at e;cases e)
  have hM:Mod K mg (Dx s₁.heap H):=⟨hKb,nsK hns,⟨mb,nsK hb,hbb⟩,let ⟨mc,h1,h2⟩:=hlim;⟨mc,nsK h1,h2⟩⟩
  have e0:Env0 P w K mg (Dx s₁.heap H) IW [] s₁ H:=⟨rfl,hM,λ b o e=>zM e,Nat.le_of_eq (vQ _ _),trivial,λ b hb=>absurd (show b∈([]:List Addr) from hb) (by simp),hok,.of_eq hg⟩
  refine codeAny_mono ((F _ hKb (nsK hns)).run IW [] s₁ H ⟨[.ref a],[]⟩ [.ref a] [.ref a] _ _ hr e0 (hbind s₁ (.ref a)) (.cons rfl .nil) (hsp H hO hS)) λ r s' h=>?_;cases r with
  | error e=>exact (hCX H e s' h).elim
  | ok fl=>
   cases fl with
   | next=>exact Hq h
   | brk=>exact Hq h
   | cont=>exact Hq h
   | ret u=>
    obtain ⟨v,H',os,bare,un,hok',r',q⟩:=h;have q':v=.bl true:=q;subst q';obtain rfl:u=Value.bool true:=r';refine ⟨rfl,OldK.of_keep λ b o e=>?_,os,bare⟩;cases q:H b with
    | none=>exact un.keep b o e q (by intro z;exact absurd (show b∈([]:List Addr) from z) (by simp)) (by simp)
    | some u=>
     rcases hO b with z | ⟨ob,xs,z⟩
     ·rw [q] at z;cases z
     ·have z2:=un.frzs b ob _ z;obtain ⟨e1,_⟩:=hok b _ z;obtain ⟨e2,_⟩:=hok' b _ z2;rw [e] at e1;cases e1;exact e2
 cases hk:K.lookup a with
 | some o=>
  have e:=KX a o hk;rw [ha] at e;cases e;refine core (λ _=>none) (λ _=>.inl rfl) (.inr ⟨_,vs.toArray,_,hk,rfl,rfl,rfl,by rw [BZ,lenV];exact hl,by simpa using rv⟩) (λ b u z=>by have z':(none:Option HO)=some u:=z;cases z') (λ b z=>absurd rfl z) λ z=>absurd rfl z
 | none=>
  refine core (λ b=>if b=a then some (.frz { cls:=.type "list",data:=.seq vs.toArray } (.lst (ns.map V.int))) else none) (λ b=>?_) (.inl (.inr ⟨{ cls:=.type "list",data:=.seq vs.toArray },if_pos rfl⟩)) (λ b u z=>?_) (λ b z=>?_) λ _=>hk
  ·by_cases hb:b=a
   ·exact .inr ⟨_,_,if_pos hb⟩
   ·exact .inl (if_neg hb)
  ·by_cases hb:b=a
   ·have z':=(if_pos hb).symm.trans z;cases z';subst hb;exact ⟨ha,by rw [AG];exact hl,vs,_,rv,ha⟩
   ·have z':=(if_neg hb).symm.trans z;cases z'
  ·by_cases hb:b=a
   ·exact hb
   ·exact absurd (if_neg hb) z
structure Fun (K:PySem.W.Frag) (x qual:Str) (st:Stmt) (f:Addr) (fd:Dg):Prop where
 ex:∃ (oc:Ad) (od:Option Addr) (kV doc pm:Ad) (an:Option Addr) (cdv ct:Ad) (osl:Array (Option Ad)),
  fd=JZ x qual (KU st) (Bm st) (A4 st) .none kV doc pm an cdv ct/\K.lookup f=some ⟨oc,od,.func fd,osl⟩/\Qf K cdv qual=true
 kp:Je K (.ref f)=true
section
variable {P:A9}{w:A7}{K:PySem.W.Frag}{mg:Str->Option Ad}{base:Heap}
def Fun.binds {x qual:Str}{st:Stmt}{f:Addr}{fd:Dg}{ps:List Str} (F:Fun K x qual st f fd)
  (h:∀ (kV doc pm:Ad) (an:Option Addr) (cdv ct:Ad) (us:List Ad),us.length=ps.length->bindArgs (JZ x qual (KU st) (Bm st) (A4 st) .none kV doc pm an cdv ct) ⟨us,[]⟩=pure (ps.zip us)):qbj K fd ps []:=by
 obtain ⟨oc,od,kV,doc,pm,an,cdv,ct,osl,rfl,lk,hcd⟩:=F.ex;exact .all (h kV doc pm an cdv ct)
def qb {x qual:Str}{st:Stmt}{f:Addr}{oc:Ad}{od an:Option Addr}{osl:Array (Option Ad)}{kV doc pm cdv ct:Ad} (l:K.lookup f=some ⟨oc,od,.func (JZ x qual (KU st) (Bm st) (A4 st) .none kV doc pm an cdv ct),osl⟩)
  (c:Qf K cdv qual=true) (k:Je K (.ref f)=true):Fun K x qual st f (JZ x qual (KU st) (Bm st) (A4 st) .none kV doc pm an cdv ct):=⟨⟨oc,od,kV,doc,pm,an,cdv,ct,osl,rfl,l,c⟩,k⟩
end
section
variable {X:Cx}
end
end L2
namespace QQ
open PySem PySem.Spec PyProof.Rows L2
abbrev St:=L2.St
def KL (K:Frag) (a:Addr) (xs:List V):Prop:=∃ (o:Obj) (its:Array Ad) (n:Nat),K.lookup a=some o/\o.cls=.type "list" /\ o.dict=none/\o.data=.seq its n/\its.size<=A0/\Vals xs its.toList
def WH {K:Frag}{H:Hp}{a:Addr}{xs:List V} (h:Bl K H a xs):Q0 K "list" (.ref a) H:=.inl ⟨rfl,xs,h⟩
def Ze (z:Str):It:=⟨λ i _=>i < z.cps.size,λ i H v H'=>H'=H/\∃ c,z.cps[i]?=some c/\v=.str ⟨#[c]⟩,λ i _=>z.cps.size<=i⟩
def O0 (z:Str):Bool:=z.cps.all (·< 128)
def Em (K:Frag) (tl:TE):TI:=λ σ H R=>tl σ H λ x H1=>(∃ a,x=.ref a/\(((∃ xs,Bl K H1 a xs)/\R (Zd K a) H1)\/((∃ xs,CM K H1 a xs)/\R (Zc K a) H1)))\/∃ z,x=.str z/\O0 z=true/\R (Ze z) H1
def Hk (k:Nat) (wi:TI) (g:TG) (tc:TT) (te:TE):TE:=λ σ H Q=>wi σ H λ J H1=>∀ D,H1 D=none->∃ W:Nat->Nat->List V->Hp->Prop,(∃ m,W 0 m [] (Ap H1 D (.lst [])))/\∀ i m ys H,W i m ys H->H D=some (.lst ys) /\
 ((J.stop i H/\Q (.ref D) H)\/(J.go i H/\∀ x H',J.yld i H x H'->g x (σ++AB k none) H' λ σ2 H2=>tc σ2 H2 λ b H3=>if b=true then te σ2 H3 λ y H4=>H4 D=some (.lst ys)/\ys.length < A0/\∃ m',m' < m/\W (i + 1) m' (ys++[y]) (Ap H4 D (.lst (ys++[y]))) else ∃ m',m' < m/\W (i + 1) m' ys H3))
inductive PV where
 | non | bl (b:Bool) | int (i:Int) | str (x:Str) | lst (xs:List PV) | tup (xs:List PV) | emp | dko | scr (ns:List Int) | dct (kvs:List (List Av×V)) | dcl (ks:List (List Av)) (xs:List PV) | exn (c:Nat)
 deriving Inhabited
inductive MO where
 | l (xs:List V) | d (kvs:List (List Av×V))
def MO.ho:MO->HO
 | .l xs=>.lst xs
 | .d kvs=>.dT kvs
def XN:List Str:=["PileError","NoBox","NoPile","NoStairs","NoWays","NoRoad","NoNumber","NoPlace","TooMany","NoText","NoName","NoRow"]
def QT (K:Frag) (c:Nat):Option Addr:=match XN[c]? with
 | some x=>(match PySem.W.nsIn K Eg x with
  | some (some (.ref C))=>some C
  | _=>none)
 | none=>none
def ZC (a C:Addr) (h:Heap):Prop:=∃ o vs,h.get? a=some o/\o.cls=.ref C/\o.data=.fields vs
def om:Nat:=1000
def pd (d:Nat):Nat:=if d=om then om else d - 1
def ZM:pd om=om:=rfl
def RM:pd 0=0:=rfl
mutual
def Own (K:Frag) (H:Hp) (Z:Addr->Prop):PV->Nat->V->List Addr->Prop
 | .non,_,v,fp=>v=.non/\fp=[]
 | .bl b,_,v,fp=>v=.bl b/\fp=[]
 | .int i,_,v,fp=>v=.int i/\fp=[]
 | .str x,_,v,fp=>v=.str x/\fp=[]
 | .emp,_,v,fp=>fp=[]/\∃ a,v=.ref a/\H a=some (.dK [])
 | .dko,_,v,fp=>fp=[]/\∃ a,v=.ref a/\∃ kvs,H a=some (.dK kvs)
 | .scr ns,_,v,fp=>fp=[]/\∃ a,v=.ref a/\((∃ o,H a=some (.frz o (.lst (ns.map V.int))))\/KL K a (ns.map V.int))
 | .exn c,_,v,fp=>fp=[]/\∃ a C,v=.ref a/\QT K c=some C/\H a=some (.ext (ZC a C))
 | .dct kvs,d,v,fp=>∃ a,v=.ref a/\((d=0/\(Rd H a (.dT kvs)/\¬ Z a)/\fp=[])\/(d≠0/\H a=some (.dT kvs)/\fp=[a]))
 | .dcl ks xs,d,v,fp=>∃ a vs,v=.ref a/\ks.length=xs.length/\((d=0/\(Rd H a (.dT (ks.zip vs))/\¬ Z a)/\fp=[]/\OwnL K H Z xs 0 vs [])\/(d≠0/\∃ f,H a=some (.dT (ks.zip vs))/\fp=a::f/\a∉f/\OwnL K H Z xs (pd d) vs f))
 | .lst xs,d,v,fp=>∃ a vs,v=.ref a/\((d=0/\(H a=some (.lst vs)/\¬ Z a)/\fp=[]/\OwnL K H Z xs 0 vs [])\/(d≠0/\∃ f,H a=some (.lst vs)/\fp=a::f/\a∉f/\OwnL K H Z xs (pd d) vs f))
 | .tup xs,d,v,fp=>∃ a vs,v=.ref a/\H a=some (.tup vs)/\OwnL K H Z xs (pd d) vs fp
def OwnL (K:Frag) (H:Hp) (Z:Addr->Prop):List PV->Nat->List V->List Addr->Prop
 | [],_,vs,fp=>vs=[]/\fp=[]
 | x::xs,d,vs,fp=>∃ v r f1 f2,vs=v::r/\fp=f1++f2/\(∀ a∈f1,a∉f2)/\Own K H Z x d v f1/\OwnL K H Z xs d r f2
end
def D0 (S:Addr->Prop) (H H':Hp):Prop:=∀ a o,H a=some o->¬ S a->H' a=some o
def Rd.keepS {S:Addr->Prop}{H H':Hp}{a:Addr}{u:HO} (k:D0 S H H') (h:Rd H a u) (n:¬ S a):Rd H' a u:=h.elim (λ e=>.inl (k a _ e n)) λ ⟨o,e⟩=>.inr ⟨o,k a _ e n⟩
def Rd.ne {H:Hp}{a:Addr}{u:HO} (h:Rd H a u):H a≠none:=by
 rcases h with e | ⟨o,e⟩ <;> rw [e] <;> simp
section
variable {K:Frag}{H H':Hp}{Z Z' S:Addr->Prop}
mutual
theorem Own.lsts:∀ (x:PV) (d:Nat) (v:V) (fp:List Addr),Own K H Z x d v fp->∀ a∈fp,∃ o:MO,H a=some o.ho
 | .non,_,_,_,h,a,ha=>by rw [Own] at h;rw [h.2] at ha;cases ha
 | .bl _,_,_,_,h,a,ha=>by rw [Own] at h;rw [h.2] at ha;cases ha
 | .int _,_,_,_,h,a,ha=>by rw [Own] at h;rw [h.2] at ha;cases ha
 | .str _,_,_,_,h,a,ha=>by rw [Own] at h;rw [h.2] at ha;cases ha
 | .emp,_,_,_,h,a,ha=>by rw [Own] at h;rw [h.1] at ha;cases ha
 | .dko,_,_,_,h,a,ha=>by rw [Own] at h;rw [h.1] at ha;cases ha
 | .scr _,_,_,_,h,a,ha=>by rw [Own] at h;rw [h.1] at ha;cases ha
 | .exn _,_,_,_,h,a,ha=>by rw [Own] at h;rw [h.1] at ha;cases ha
 | .dct kvs,d,v,fp,h,a,ha=>by
  rw [Own] at h;obtain ⟨b,_,⟨_,_,e⟩ | ⟨_,hb,e⟩⟩:=h
  ·rw [e] at ha;cases ha
  ·rw [e] at ha;rw [jb7.mp ha];exact ⟨.d kvs,hb⟩
 | .dcl ks xs,d,v,fp,h,a,ha=>by
  rw [Own] at h;obtain ⟨b,vs,_,_,⟨_,_,e,_⟩ | ⟨_,f,hb,e,_,hl⟩⟩:=h
  ·rw [e] at ha;cases ha
  ·rw [e] at ha;rcases jc3.mp ha with z | z
   ·exact ⟨.d (ks.zip vs),by rw [z];exact hb⟩
   ·exact OwnL.lsts xs _ vs f hl a z
 | .lst xs,d,v,fp,h,a,ha=>by
  rw [Own] at h;obtain ⟨b,vs,_,⟨_,_,e,_⟩ | ⟨_,f,hb,e,_,hl⟩⟩:=h
  ·rw [e] at ha;cases ha
  ·rw [e] at ha;rcases jc3.mp ha with z | z
   ·exact ⟨.l vs,by rw [z];exact hb⟩
   ·exact OwnL.lsts xs _ vs f hl a z
 | .tup xs,d,v,fp,h,a,ha=>by
  rw [Own] at h;obtain ⟨b,vs,_,_,hl⟩:=h;exact OwnL.lsts xs _ vs fp hl a ha
theorem OwnL.lsts:∀ (xs:List PV) (d:Nat) (vs:List V) (fp:List Addr),OwnL K H Z xs d vs fp->∀ a∈fp,∃ o:MO,H a=some o.ho
 | [],_,_,_,h,a,ha=>by rw [OwnL] at h;rw [h.2] at ha;cases ha
 | x::xs,d,vs,fp,h,a,ha=>by
  rw [OwnL] at h;obtain ⟨v,r,f1,f2,_,e,_,h1,h2⟩:=h;rw [e] at ha;rcases jd7.mp ha with z | z
  ·exact Own.lsts x d v f1 h1 a z
  ·exact OwnL.lsts xs d r f2 h2 a z
end
mutual
theorem Own.move (k:D0 S H H') (hS:∀ a,S a->Z a/\∃ o:MO,H a=some o.ho) (hz:∀ a,H a≠none->¬ Z a->¬ Z' a):
  ∀ (x:PV) (d:Nat) (v:V) (fp:List Addr),(∀ a∈fp,¬ S a)->Own K H Z x d v fp->Own K H' Z' x d v fp
 | .non,_,_,_,_,h=>by rw [Own] at h ⊢;exact h
 | .bl _,_,_,_,_,h=>by rw [Own] at h ⊢;exact h
 | .int _,_,_,_,_,h=>by rw [Own] at h ⊢;exact h
 | .str _,_,_,_,_,h=>by rw [Own] at h ⊢;exact h
 | .emp,_,_,_,_,h=>by
  rw [Own] at h ⊢;obtain ⟨e,a,ev,ha⟩:=h;exact ⟨e,a,ev,k a _ ha λ s=>by obtain ⟨_,o,e⟩:=hS a s;rw [ha] at e;cases o <;> cases e⟩
 | .dko,_,_,_,_,h=>by
  rw [Own] at h ⊢;obtain ⟨e,a,ev,kvs,ha⟩:=h;exact ⟨e,a,ev,kvs,k a _ ha λ s=>by obtain ⟨_,o,e⟩:=hS a s;rw [ha] at e;cases o <;> cases e⟩
 | .scr ns,_,_,_,_,h=>by
  rw [Own] at h ⊢;obtain ⟨e,a,ev,⟨o,ha⟩ | ha⟩:=h
  ·exact ⟨e,a,ev,.inl ⟨o,k a _ ha λ s=>by obtain ⟨_,q,e⟩:=hS a s;rw [ha] at e;cases q <;> cases e⟩⟩
  ·exact ⟨e,a,ev,.inr ha⟩
 | .exn c,_,_,_,_,h=>by
  rw [Own] at h ⊢;obtain ⟨e,a,C,ev,hc,ha⟩:=h;exact ⟨e,a,C,ev,hc,k a _ ha λ s=>by obtain ⟨_,q,e⟩:=hS a s;rw [ha] at e;cases q <;> cases e⟩
 | .dct kvs,d,v,fp,hf,h=>by
  rw [Own] at h ⊢;obtain ⟨b,ev,⟨d0,hr,e⟩ | ⟨d0,hb,e⟩⟩:=h
  ·exact ⟨b,ev,.inl ⟨d0,⟨Rd.keepS k hr.1 λ s=>hr.2 (hS b s).1,hz b (Rd.ne hr.1) hr.2⟩,e⟩⟩
  ·exact ⟨b,ev,.inr ⟨d0,k b _ hb (hf b (by rw [e];exact AF)),e⟩⟩
 | .dcl ks xs,d,v,fp,hf,h=>by
  rw [Own] at h ⊢;obtain ⟨b,vs,ev,en,⟨d0,hr,e,hl⟩ | ⟨d0,f,hb,e,nb,hl⟩⟩:=h
  ·refine ⟨b,vs,ev,en,.inl ⟨d0,?_,e,OwnL.move k hS hz xs 0 vs [] (λ _ z=>nomatch z) hl⟩⟩;exact ⟨Rd.keepS k hr.1 λ s=>hr.2 (hS b s).1,hz b (Rd.ne hr.1) hr.2⟩
  ·refine ⟨b,vs,ev,en,.inr ⟨d0,f,k b _ hb (hf b (by rw [e];exact AF)),e,nb,?_⟩⟩;exact OwnL.move k hS hz xs _ vs f (λ a ha=>hf a (by rw [e];exact AH _ ha)) hl
 | .lst xs,d,v,fp,hf,h=>by
  rw [Own] at h ⊢;obtain ⟨b,vs,ev,⟨d0,hr,e,hl⟩ | ⟨d0,f,hb,e,nb,hl⟩⟩:=h
  ·refine ⟨b,vs,ev,.inl ⟨d0,?_,e,OwnL.move k hS hz xs 0 vs [] (λ _ z=>nomatch z) hl⟩⟩;exact ⟨k b _ hr.1 λ s=>hr.2 (hS b s).1,hz b (by rw [hr.1];simp) hr.2⟩
  ·refine ⟨b,vs,ev,.inr ⟨d0,f,k b _ hb (hf b (by rw [e];exact AF)),e,nb,?_⟩⟩;exact OwnL.move k hS hz xs _ vs f (λ a ha=>hf a (by rw [e];exact AH _ ha)) hl
 | .tup xs,d,v,fp,hf,h=>by
  rw [Own] at h ⊢;obtain ⟨b,vs,ev,hr,hl⟩:=h;exact ⟨b,vs,ev,k b _ hr (λ s=>by obtain ⟨_,o,e⟩:=hS b s;rw [hr] at e;cases o <;> cases e),OwnL.move k hS hz xs _ vs fp hf hl⟩
theorem OwnL.move (k:D0 S H H') (hS:∀ a,S a->Z a/\∃ o:MO,H a=some o.ho) (hz:∀ a,H a≠none->¬ Z a->¬ Z' a):
  ∀ (xs:List PV) (d:Nat) (vs:List V) (fp:List Addr),(∀ a∈fp,¬ S a)->OwnL K H Z xs d vs fp->OwnL K H' Z' xs d vs fp
 | [],_,_,_,_,h=>by rw [OwnL] at h ⊢;exact h
 | x::xs,d,vs,fp,hf,h=>by
  rw [OwnL] at h ⊢;obtain ⟨v,r,f1,f2,e1,e,dj,h1,h2⟩:=h;exact ⟨v,r,f1,f2,e1,e,dj,Own.move k hS hz x d v f1 (λ a ha=>hf a (by rw [e];exact BP _ ha)) h1,OwnL.move k hS hz xs d r f2 (λ a ha=>hf a (by rw [e];exact BJ _ ha)) h2⟩
end
mutual
theorem Own.freeze (hz:∀ a,Z' a->Z a):∀ (x:PV) (d:Nat) (v:V) (fp:List Addr),(∀ a∈fp,¬ Z' a)->Own K H Z x d v fp->Own K H Z' x 0 v []
 | .non,_,_,_,_,h=>by rw [Own] at h ⊢;exact ⟨h.1,rfl⟩
 | .bl _,_,_,_,_,h=>by rw [Own] at h ⊢;exact ⟨h.1,rfl⟩
 | .int _,_,_,_,_,h=>by rw [Own] at h ⊢;exact ⟨h.1,rfl⟩
 | .str _,_,_,_,_,h=>by rw [Own] at h ⊢;exact ⟨h.1,rfl⟩
 | .emp,_,_,_,_,h=>by rw [Own] at h ⊢;exact ⟨rfl,h.2⟩
 | .dko,_,_,_,_,h=>by rw [Own] at h ⊢;exact ⟨rfl,h.2⟩
 | .scr _,_,_,_,_,h=>by rw [Own] at h ⊢;exact ⟨rfl,h.2⟩
 | .exn _,_,_,_,_,h=>by rw [Own] at h ⊢;exact ⟨rfl,h.2⟩
 | .dct kvs,d,v,fp,hf,h=>by
  rw [Own] at h ⊢;obtain ⟨b,ev,⟨d0,hr,e⟩ | ⟨d0,hb,e⟩⟩:=h
  ·exact ⟨b,ev,.inl ⟨rfl,⟨hr.1,λ z=>hr.2 (hz b z)⟩,rfl⟩⟩
  ·exact ⟨b,ev,.inl ⟨rfl,⟨.inl hb,hf b (by rw [e];exact AF)⟩,rfl⟩⟩
 | .dcl ks xs,d,v,fp,hf,h=>by
  rw [Own] at h ⊢;obtain ⟨b,vs,ev,en,⟨d0,hr,e,hl⟩ | ⟨d0,f,hb,e,nb,hl⟩⟩:=h
  ·refine ⟨b,vs,ev,en,.inl ⟨rfl,?_,rfl,OwnL.freeze hz xs 0 vs [] (λ _ z=>nomatch z) hl⟩⟩;exact ⟨hr.1,λ z=>hr.2 (hz b z)⟩
  ·exact ⟨b,vs,ev,en,.inl ⟨rfl,⟨.inl hb,hf b (by rw [e];exact AF)⟩,rfl,OwnL.freeze hz xs _ vs f (λ a ha=>hf a (by rw [e];exact AH _ ha)) hl⟩⟩
 | .lst xs,d,v,fp,hf,h=>by
  rw [Own] at h ⊢;obtain ⟨b,vs,ev,⟨d0,hr,e,hl⟩ | ⟨d0,f,hb,e,nb,hl⟩⟩:=h
  ·refine ⟨b,vs,ev,.inl ⟨rfl,?_,rfl,OwnL.freeze hz xs 0 vs [] (λ _ z=>nomatch z) hl⟩⟩;exact ⟨hr.1,λ z=>hr.2 (hz b z)⟩
  ·exact ⟨b,vs,ev,.inl ⟨rfl,⟨hb,hf b (by rw [e];exact AF)⟩,rfl,OwnL.freeze hz xs _ vs f (λ a ha=>hf a (by rw [e];exact AH _ ha)) hl⟩⟩
 | .tup xs,d,v,fp,hf,h=>by
  rw [Own] at h ⊢;obtain ⟨b,vs,ev,hr,hl⟩:=h;exact ⟨b,vs,ev,hr,OwnL.freeze hz xs _ vs fp hf hl⟩
theorem OwnL.freeze (hz:∀ a,Z' a->Z a):∀ (xs:List PV) (d:Nat) (vs:List V) (fp:List Addr),(∀ a∈fp,¬ Z' a)->OwnL K H Z xs d vs fp->OwnL K H Z' xs 0 vs []
 | [],_,_,_,_,h=>by rw [OwnL] at h ⊢;exact ⟨h.1,rfl⟩
 | x::xs,d,vs,fp,hf,h=>by
  rw [OwnL] at h ⊢;obtain ⟨v,r,f1,f2,e1,e,dj,h1,h2⟩:=h;exact ⟨v,r,[],[],e1,rfl,λ _ z=>(nomatch z),Own.freeze hz x d v f1 (λ a ha=>hf a (by rw [e];exact BP _ ha)) h1,OwnL.freeze hz xs d r f2 (λ a ha=>hf a (by rw [e];exact BJ _ ha)) h2⟩
end
mutual
theorem Own.full:∀ (x:PV) (v:V) (fp:List Addr),Own K H Z x om v fp->Own K H Z' x om v fp
 | .non,_,_,h=>by rw [Own] at h ⊢;exact h
 | .bl _,_,_,h=>by rw [Own] at h ⊢;exact h
 | .int _,_,_,h=>by rw [Own] at h ⊢;exact h
 | .str _,_,_,h=>by rw [Own] at h ⊢;exact h
 | .emp,_,_,h=>by rw [Own] at h ⊢;exact h
 | .dko,_,_,h=>by rw [Own] at h ⊢;exact h
 | .scr _,_,_,h=>by rw [Own] at h ⊢;exact h
 | .exn _,_,_,h=>by rw [Own] at h ⊢;exact h
 | .dct kvs,v,fp,h=>by
  rw [Own] at h ⊢;obtain ⟨b,ev,⟨d0,_⟩ | ⟨d0,hb,e⟩⟩:=h
  ·exact absurd d0 (by decide)
  ·exact ⟨b,ev,.inr ⟨d0,hb,e⟩⟩
 | .dcl ks xs,v,fp,h=>by
  rw [Own] at h ⊢;obtain ⟨b,vs,ev,en,⟨d0,_⟩ | ⟨d0,f,hb,e,nb,hl⟩⟩:=h
  ·exact absurd d0 (by decide)
  ·exact ⟨b,vs,ev,en,.inr ⟨d0,f,hb,e,nb,OwnL.full xs vs f hl⟩⟩
 | .lst xs,v,fp,h=>by
  rw [Own] at h ⊢;obtain ⟨b,vs,ev,⟨d0,_⟩ | ⟨d0,f,hb,e,nb,hl⟩⟩:=h
  ·exact absurd d0 (by decide)
  ·exact ⟨b,vs,ev,.inr ⟨d0,f,hb,e,nb,OwnL.full xs vs f hl⟩⟩
 | .tup xs,v,fp,h=>by
  rw [Own] at h ⊢;obtain ⟨b,vs,ev,hr,hl⟩:=h;exact ⟨b,vs,ev,hr,OwnL.full xs vs fp hl⟩
theorem OwnL.full:∀ (xs:List PV) (vs:List V) (fp:List Addr),OwnL K H Z xs om vs fp->OwnL K H Z' xs om vs fp
 | [],_,_,h=>by rw [OwnL] at h ⊢;exact h
 | x::xs,vs,fp,h=>by
  rw [OwnL] at h ⊢;obtain ⟨v,r,f1,f2,e1,e,dj,h1,h2⟩:=h;exact ⟨v,r,f1,f2,e1,e,dj,Own.full x v f1 h1,OwnL.full xs r f2 h2⟩
end
def Own.weak (hz:∀ a,Z' a->Z a) {x:PV}{d:Nat}{v:V}{fp:List Addr} (h:Own K H Z x d v fp):Own K H Z' x d v fp:=
 Own.move (S:=λ _=>False) (λ _ _ h _=>h) (λ _ z=>z.elim) (λ a _ n z=>n (hz a z)) x d v fp (λ _ _ z=>z) h
def OwnL.weak (hz:∀ a,Z' a->Z a) {xs:List PV}{d:Nat}{vs:List V}{fp:List Addr} (h:OwnL K H Z xs d vs fp):OwnL K H Z' xs d vs fp:=
 OwnL.move (S:=λ _=>False) (λ _ _ h _=>h) (λ _ z=>z.elim) (λ a _ n z=>n (hz a z)) xs d vs fp (λ _ _ z=>z) h
end
abbrev Slot:=Option (PV×Nat)
abbrev Ae:=List Slot
inductive Rz (α:Type) where
 | ok (a:α) | exc (c:Nat) | no
def Rz.bind {α β:Type} (r:Rz α) (f:α->Rz β):Rz β:=match r with
 | .ok a=>f a
 | .exc c=>.exc c
 | .no=>.no
abbrev Fx:=Ae->Rz (PV×Nat×Ae)
abbrev Fa:=Ae->Rz (List (PV×Nat)×Ae)
abbrev Fb:=Ae->Rz (Bool×Ae)
structure Fm where
 K:Frag
 Ms:Nat->Bool
 Zo:Addr->Prop
 H₀:Hp
 W:St->Nat->Hp->Prop
 io:Option V
 al:Nat->List Nat
 pn:List (Nat×V):=[]
abbrev AN:=Nat->List Addr
def Fm.Fre (M:Fm) (i:Nat):Prop:=(M.io≠none->i≠0)/\∀ p∈M.pn,p.1≠i
def Zf (M:Fm) (fps:AN):Addr->Prop:=λ a=>M.Zo a\/∃ i,a∈fps i
def Zv (M:Fm) (vs:List Nat) (fps:AN):Addr->Prop:=λ a=>M.Zo a\/∃ i,i∉vs/\a∈fps i
def Za (M:Fm) (fps:AN) (i:Nat):Addr->Prop:=λ a=>M.Zo a\/∃ j,j∉M.al i/\a∈fps j
def Zt (M:Fm) (vs:List Nat) (fps:AN) (fp:List Addr):Addr->Prop:=λ a=>Zv M vs fps a\/a∈fp
def Fm.plus (M:Fm) (fp:List Addr):Fm:={ M with Zo:=λ a=>M.Zo a\/a∈fp }
structure Rep (M:Fm) (ρ:Ae) (σ:St) (H:Hp) (fps:AN):Prop where
 own:∀ i x d,ρ[i]?=some (some (x,d))->∃ v,σ[i]?=some (some v)/\Own M.K H (Za M fps i) x d v (fps i)
 non:∀ i,(∀ p,ρ[i]?≠some (some p))->fps i=[]
 dj:∀ i j,i≠j->∀ a∈fps i,a∉fps j
 zo:∀ i,∀ a∈fps i,¬ M.Zo a
 fr:∀ i,M.Ms i=false->∀ a∈fps i,M.H₀ a=none
 zd:∀ a,M.Zo a->H a≠none
 len:ρ.length=σ.length
 msf:∀ i x d,M.Ms i=true->ρ[i]?=some (some (x,d))->d=om
 h0:∀ a,M.H₀ a≠none->H a≠none
 iov:(∀ v,M.io=some v->σ[0]?=some (some v)/\M.Ms 0=true)/\∀ p∈M.pn,σ[p.1]?=some (some p.2)
def Agr (M:Fm) (ρ ρ':Ae):Prop:=(∀ i,M.Ms i=false->ρ'[i]?=ρ[i]?)/\ρ'.length=ρ.length
structure KD (M:Fm) (H:Hp) (fps:AN) (H':Hp) (fps':AN):Prop where
 keep:D0 (λ a=>∃ i,M.Ms i=true/\a∈fps i) H H'
 dom:∀ a,H a≠none->H' a≠none
 sub:∀ i,∀ a∈fps' i,a∈fps i\/H a=none
 same:∀ i,M.Ms i=false->fps' i=fps i
def Tmps (K:Frag) (H:Hp) (Z:Addr->Prop):List (PV×Nat)->List V->List Addr->Prop
 | [],vs,fp=>vs=[]/\fp=[]
 | (x,d)::xs,vs,fp=>∃ v r f1 f2,vs=v::r/\fp=f1++f2/\(∀ a∈f1,a∉f2)/\Own K H (λ a=>Z a\/a∈f1) x d v f1/\Tmps K H Z xs r f2
structure Temp (M:Fm) (vs:List Nat) (H:Hp) (H':Hp) (fps':AN) (fp:List Addr):Prop where
 new:∀ a∈fp,H a=none
 ndj:∀ a∈fp,¬ Zf M fps' a
section
variable {M:Fm}{ρ ρ':Ae}{σ:St}{H H' H'':Hp}{fps fps' fps'':AN}{vs vs':List Nat}
def Agr.refl:Agr M ρ ρ:=⟨λ _ _=>rfl,rfl⟩
def Agr.trans {ρ'':Ae} (a:Agr M ρ ρ') (b:Agr M ρ' ρ''):Agr M ρ ρ'':=⟨λ i hi=>(b.1 i hi).trans (a.1 i hi),b.2.trans a.2⟩
def KD.refl:KD M H fps H fps:=⟨λ _ _ h _=>h,λ _ h=>h,λ _ _ h=>.inl h,λ _ _=>rfl⟩
def KD.trans (a:KD M H fps H' fps') (b:KD M H' fps' H'' fps''):KD M H fps H'' fps'' where
 keep:=λ x o h n=>b.keep x o (a.keep x o h n) λ ⟨i,hi,hx⟩=>(a.sub i x hx).elim (λ z=>n ⟨i,hi,z⟩) λ z=>by rw [z] at h;cases h
 dom:=λ x h=>b.dom x (a.dom x h)
 sub:=λ i x hx=>(b.sub i x hx).elim (λ z=>a.sub i x z) λ z=>.inr (by
  cases e:H x with
  | none=>rfl
  | some o=>exact absurd z (a.dom x (by rw [e];simp)))
 same:=λ i hi=>(b.same i hi).trans (a.same i hi)
def Za.zf {i:Nat}{a:Addr} (h:Za M fps i a):Zf M fps a:=h.elim .inl λ ⟨j,_,h⟩=>.inr ⟨j,h⟩
def Za.of {i:Nat} (hal:M.al i=[]) {a:Addr} (h:Zf M fps a):Za M fps i a:=h.elim .inl λ ⟨j,h⟩=>.inr ⟨j,(by rw [hal];simp),h⟩
def Rep.own0 (r:Rep M ρ σ H fps) (hal:∀ i,M.al i=[]) (i:Nat) (x:PV) (d:Nat) (e:ρ[i]?=some (some (x,d))):∃ v,σ[i]?=some (some v)/\Own M.K H (Zf M fps) x d v (fps i):=
 let ⟨v,h1,h2⟩:=r.own i x d e;⟨v,h1,h2.weak λ _ h=>Za.of (hal i) h⟩
def Rep.lsts (r:Rep M ρ σ H fps) {i:Nat}{a:Addr} (h:a∈fps i):∃ o:MO,H a=some o.ho:=by
 by_cases hp:∃ p,ρ[i]?=some (some p)
 ·obtain ⟨⟨x,d⟩,e⟩:=hp;obtain ⟨v,_,o⟩:=r.own i x d e;exact Own.lsts x d v _ o a h
 ·rw [r.non i λ p e=>hp ⟨p,e⟩] at h;cases h
def Rep.zdom (r:Rep M ρ σ H fps) {a:Addr} (h:Zf M fps a):H a≠none:=by
 rcases h with h | ⟨i,h⟩
 ·exact r.zd a h
 ·obtain ⟨xs,e⟩:=r.lsts h;rw [e];simp
def Rep.nz (r:Rep M ρ σ H fps) {a:Addr} (h:H a=none):¬ Zf M fps a:=λ z=>r.zdom z h
def Zv.zf {a:Addr} (h:Zv M vs fps a):Zf M fps a:=h.elim .inl λ ⟨i,_,h⟩=>.inr ⟨i,h⟩
def Zv.mono (hv:∀ i∈vs',i∈vs) {a:Addr} (h:Zv M vs fps a):Zv M vs' fps a:=h.elim .inl λ ⟨i,n,h⟩=>.inr ⟨i,λ z=>n (hv i z),h⟩
def Zt.mono (hv:∀ i∈vs',i∈vs) {a:Addr}{fp:List Addr} (h:Zt M vs fps fp a):Zt M vs' fps fp a:=h.elim (λ h=>.inl (h.mono hv)) .inr
def KD.stay (k:KD M H fps H' fps') (r:Rep M ρ σ H fps) (hv:∀ i∈vs,M.Ms i=false) {x:PV}{d:Nat}{v:V}{fp:List Addr} (h:Own M.K H (Zt M vs fps fp) x d v fp) (hf:∀ a∈fp,¬ Zf M fps a):Own M.K H' (Zt M vs fps' fp) x d v fp:=by
 have h1:∀ a,(∃ i,M.Ms i=true/\a∈fps i)->Zt M vs fps fp a/\∃ o:MO,H a=some o.ho:=by
  rintro a ⟨i,hi,ha⟩;exact ⟨.inl (.inr ⟨i,λ z=>(by rw [hv i z] at hi;cases hi),ha⟩),r.lsts ha⟩
 have h2:∀ a,H a≠none->¬ Zt M vs fps fp a->¬ Zt M vs fps' fp a:=by
  intro a hd nz z;rcases z with (z | ⟨i,ni,hx⟩) | z
  ·exact nz (.inl (.inl z))
  ·rcases k.sub i a hx with z | z
   ·exact nz (.inl (.inr ⟨i,ni,z⟩))
   ·exact hd z
  ·exact nz (.inr z)
 exact Own.move k.keep h1 h2 x d v fp (λ a ha ⟨i,_,hx⟩=>hf a ha (.inr ⟨i,hx⟩)) h
theorem KD.stays (k:KD M H fps H' fps') (r:Rep M ρ σ H fps) (hv:∀ i∈vs,M.Ms i=false):∀ {xs:List (PV×Nat)}{ws:List V}{fp:List Addr},Tmps M.K H (Zv M vs fps) xs ws fp->(∀ a∈fp,¬ Zf M fps a)->Tmps M.K H' (Zv M vs fps') xs ws fp
 | [],_,_,h,_=>h
 | (x,d)::xs,ws,fp,h,hf=>by
  obtain ⟨v,s,f1,f2,e1,e2,dj,h1,h2⟩:=h;exact ⟨v,s,f1,f2,e1,e2,dj,k.stay r hv h1 λ a ha=>hf a (by rw [e2];exact BP _ ha),k.stays r hv h2 λ a ha=>hf a (by rw [e2];exact BJ _ ha)⟩
theorem Tmps.weak {K:Frag}{Z Z':Addr->Prop} (hz:∀ a,Z' a->Z a):∀ {xs:List (PV×Nat)}{ws:List V}{fp:List Addr},Tmps K H Z xs ws fp->Tmps K H Z' xs ws fp
 | [],_,_,h=>h
 | (x,d)::xs,ws,fp,h=>by
  obtain ⟨v,s,f1,f2,e1,e2,dj,h1,h2⟩:=h;exact ⟨v,s,f1,f2,e1,e2,dj,h1.weak λ a h=>h.elim (λ h=>.inl (hz a h)) .inr,h2.weak hz⟩
theorem KD.grow (k:∀ a o,H a=some o->H' a=some o):KD M H fps H' fps:=⟨λ a o h _=>k a o h,λ a h=>by
 cases e:H a with
 | none=>exact absurd e h
 | some o=>rw [k a o e];simp,λ _ _ h=>.inl h,λ _ _=>rfl⟩
def Rep.grow (r:Rep M ρ σ H fps) (k:∀ a o,H a=some o->H' a=some o):Rep M ρ σ H' fps where
 own:=λ i x d e=>by
  obtain ⟨v,hv,o⟩:=r.own i x d e;exact ⟨v,hv,Own.move (S:=λ _=>False) (λ a o h _=>k a o h) (λ _ z=>z.elim) (λ _ _ n=>n) x d v _ (λ _ _ z=>z) o⟩
 non:=r.non
 dj:=r.dj
 zo:=r.zo
 fr:=r.fr
 zd:=λ a h=>(KD.grow (M:=M) (fps:=fps) k).dom a (r.zd a h)
 len:=r.len
 msf:=r.msf
 h0:=λ a h=>(KD.grow (M:=M) (fps:=fps) k).dom a (r.h0 a h)
 iov:=r.iov
end
def tE (M:Fm) (f:Fx) (vs:List Nat):TE:=λ σ H Q=>∃ ρ fps,Rep M ρ σ H fps/\(match f ρ with
 | .ok (x,d,ρ')=>∀ v H' fps' fp,KD M H fps H' fps'->Agr M ρ ρ'->Rep M ρ' σ H' fps'->Own M.K H' (Zt M vs fps' fp) x d v fp->Temp M vs H H' fps' fp->Q v H'
 | .exc c=>∀ H' fps',KD M H fps H' fps'->M.W σ c H'
 | .no=>False)
def tL (M:Fm) (f:Fa) (vs:List Nat):TA:=λ σ H Q=>∃ ρ fps,Rep M ρ σ H fps/\(match f ρ with
 | .ok (xs,ρ')=>∀ ws H' fps' fp,KD M H fps H' fps'->Agr M ρ ρ'->Rep M ρ' σ H' fps'->Tmps M.K H' (Zv M vs fps') xs ws fp->Temp M vs H H' fps' fp->Q ws H'
 | .exc c=>∀ H' fps',KD M H fps H' fps'->M.W σ c H'
 | .no=>False)
def tT (M:Fm) (f:Fb):TT:=λ σ H Q=>∃ ρ fps,Rep M ρ σ H fps/\(match f ρ with
 | .ok (b,ρ')=>∀ H' fps',KD M H fps H' fps'->Agr M ρ ρ'->Rep M ρ' σ H' fps'->Q b H'
 | .exc c=>∀ H' fps',KD M H fps H' fps'->M.W σ c H'
 | .no=>False)
def Bw (M:Fm) (H:Hp) (fps:AN) (vs:List Nat) (F:List Addr) (z:PV) (d:Nat) (Q:VK):Prop:=
 ∀ u H' fp,(∀ a o,H a=some o->H' a=some o)->Own M.K H' (Zt M vs fps fp) z d u fp->(∀ a∈fp,a∈F\/H a=none)->Q u H'
section
variable {M:Fm}{ρ ρ':Ae}{σ:St}{H H' H'':Hp}{fps fps' fps'':AN}{vs vs':List Nat}{f g:Fx}{fa:Fa}{fb:Fb}{Q:VK}
def bC (x:PV):Fx:=λ ρ=>.ok (x,om,ρ)
def Lg {x:PV}{v:V} (h:∀ K H Z,Own K H Z x om v []) {σ:St}{H:Hp}{Q:VK} (hq:tE M (bC x) [] σ H Q):tC v σ H Q:=by
 obtain ⟨ρ,fps,rep,q⟩:=hq;exact q v H fps [] KD.refl Agr.refl rep (h _ _ _) ⟨λ _ z=>(nomatch z),λ _ z=>nomatch z⟩
def dv:PV->Nat
 | .lst _=>0
 | .tup _=>0
 | .dct _=>0
 | .dcl _ _=>0
 | _=>om
def Aa (i:Nat):Fx:=λ ρ=>match ρ[i]? with
 | some (some (x,_))=>.ok (x,dv x,ρ)
 | _=>.no
theorem Own.view {K:Frag}{Z Z':Addr->Prop}{x:PV}{d:Nat}{v:V}{fp:List Addr} (hz:∀ a,Z' a->Z a) (hf:∀ a∈fp,¬ Z' a) (h:Own K H Z x d v fp):Own K H Z' x (dv x) v []:=by
 have q:=Own.freeze hz x d v fp hf h;cases x with
 | lst xs=>exact q
 | tup xs=>exact q
 | dct kvs=>exact q
 | dcl ks xs=>exact q
 | exn _=>rw [Own] at q ⊢;exact q
 | non=>rw [Own] at q ⊢;exact q
 | bl _=>rw [Own] at q ⊢;exact q
 | int _=>rw [Own] at q ⊢;exact q
 | str _=>rw [Own] at q ⊢;exact q
 | emp=>rw [Own] at q ⊢;exact q
 | dko=>rw [Own] at q ⊢;exact q
 | scr _=>rw [Own] at q ⊢;exact q
theorem VD {i:Nat}{σ:St}{H:Hp}{Q:VK} (hq:tE M (Aa i) (i::M.al i) σ H Q):Dq i σ H Q:=by
 obtain ⟨ρ,fps,rep,q⟩:=hq;unfold Aa at q;cases e0:ρ[i]? with
 | none=>rw [e0] at q;exact q.elim
 | some sl=>
  cases sl with
  | none=>rw [e0] at q;exact q.elim
  | some p=>
   obtain ⟨x0,d0⟩:=p;rw [e0] at q;obtain ⟨v,hv,o⟩:=rep.own i x0 d0 e0;refine ⟨v,hv,q v H fps [] KD.refl Agr.refl rep ((o.view (Z':=Zv M (i::M.al i) fps) (λ a h=>h.elim .inl λ ⟨j,n,h⟩=>.inr ⟨j,λ z=>n (AH _ z),h⟩) λ a ha z=>?_).weak λ a h=>h.elim id λ z=>nomatch z) ⟨λ _ z=>(nomatch z),λ _ z=>nomatch z⟩⟩;rcases z with z | ⟨j,nj,hj⟩
   ·exact rep.zo i a ha z
   ·exact rep.dj i j (λ e=>nj (by simp [e])) a ha hj
def Ab (op:PV->Nat->PV->Nat->Option (PV×Nat)) (f g:Fx):Fx:=λ ρ=>(f ρ).bind λ (x,d,ρ1)=>(g ρ1).bind λ (y,e,ρ2)=>match op x d y e with
 | some (z,c)=>.ok (z,c,ρ2)
 | none=>.no
theorem DC {op:PV->Nat->PV->Nat->Option (PV×Nat)}{r:R2} (hv:∀ i∈vs,M.Ms i=false)
  (leaf:∀ x d y e z c v w H fps f1 f2 Q,op x d y e=some (z,c)->Own M.K H (Zt M (vs++vs') fps f1) x d v f1->Own M.K H (Zt M (vs++vs') fps f2) y e w f2->(∀ a∈f1,a∉f2)->(∀ a∈f1++f2,¬ Zf M fps a)->(∀ a,Zf M fps a->H a≠none)->Bw M H fps (vs++vs') (f1++f2) z c Q->r v w H Q)
  {σ:St}{H:Hp}{Q:VK} (hq:tE M (Ab op f g) (vs++vs') σ H Q):Kg r (tE M f vs) (tE M g vs') σ H Q:=by
 obtain ⟨ρ,fps,rep,q⟩:=hq;refine ⟨ρ,fps,rep,?_⟩;unfold Ab at q;cases ef:f ρ with
 | no=>rw [ef] at q;exact q
 | exc c=>rw [ef] at q;exact q
 | ok p=>
  obtain ⟨x,d,ρ1⟩:=p;rw [ef] at q;intro v H1 fps1 f1 k1 g1 rep1 o1 t1;refine ⟨ρ1,fps1,rep1,?_⟩;dsimp only [Rz.bind] at q;cases eg:g ρ1 with
  | no=>rw [eg] at q;exact q
  | exc c=>rw [eg] at q;exact λ H' fps' k=>q H' fps' (k1.trans k)
  | ok p2=>
   obtain ⟨y,e,ρ2⟩:=p2;rw [eg] at q;intro w H2 fps2 f2 k2 g2 rep2 o2 t2;dsimp only at q;cases eo:op x d y e with
   | none=>rw [eo] at q;exact q.elim
   | some zc=>
    obtain ⟨z,c⟩:=zc;rw [eo] at q;have o1':=k2.stay rep1 hv o1 t1.ndj;have n1:∀ a∈f1,¬ Zf M fps2 a:=λ a ha z=>by
     rcases z with z | ⟨i,z⟩
     ·exact t1.ndj a ha (.inl z)
     ·rcases k2.sub i a z with z | z
      ·exact t1.ndj a ha (.inr ⟨i,z⟩)
      ·obtain ⟨xs,e⟩:=Own.lsts x d v f1 o1 a ha;rw [z] at e;cases e
    refine leaf x d y e z c v w H2 fps2 f1 f2 Q eo (o1'.weak λ a h=>Zt.mono (λ i hi=>BP _ hi) h) (o2.weak λ a h=>Zt.mono (λ i hi=>BJ _ hi) h) (λ a h1 h2=>?_) (λ a ha=>?_) (λ a h=>rep2.zdom h) λ u H3 fp k3 o3 hfp=>?_
    ·obtain ⟨xs,e⟩:=Own.lsts x d v f1 o1 a h1;rw [t2.new a h2] at e;cases e
    ·rcases jd7.mp ha with z | z
     ·exact n1 a z
     ·exact t2.ndj a z
    ·have new:∀ a∈fp,H a=none:=λ a ha=>by
      have back:H1 a=none->H a=none:=λ e=>by
       cases e':H a with
       | none=>rfl
       | some o=>exact absurd e (k1.dom a (by rw [e'];simp))
      have back2:H2 a=none->H1 a=none:=λ e=>by
       cases e':H1 a with
       | none=>rfl
       | some o=>exact absurd e (k2.dom a (by rw [e'];simp))
      rcases hfp a ha with z | z
      ·rcases jd7.mp z with z | z
       ·exact t1.new a z
       ·exact back (t2.new a z)
      ·exact back (back2 z)
     refine q u H3 fps2 fp ((k1.trans k2).trans (KD.grow k3)) (g1.trans g2) (rep2.grow k3) o3 ⟨new,λ a ha=>?_⟩;rcases hfp a ha with z | z
     ·rcases jd7.mp z with z | z
      ·exact n1 a z
      ·exact t2.ndj a z
     ·exact rep2.nz z
end
section
variable {M:Fm}{vs vs':List Nat}{f g:Fx}{fa:Fa}{fb gb:Fb}
def Bu (op:PV->Nat->Option (PV×Nat)) (f:Fx):Fx:=λ ρ=>(f ρ).bind λ (x,d,ρ1)=>match op x d with
 | some (z,c)=>.ok (z,c,ρ1)
 | none=>.no
theorem Oy {op:PV->Nat->Option (PV×Nat)}{r:V->Hp->VK->Prop}
  (leaf:∀ x d z c v H fps f1 Q,op x d=some (z,c)->Own M.K H (Zt M vs fps f1) x d v f1->(∀ a∈f1,¬ Zf M fps a)->(∀ a,Zf M fps a->H a≠none)->Bw M H fps vs f1 z c Q->r v H Q)
  {σ:St}{H:Hp}{Q:VK} (hq:tE M (Bu op f) vs σ H Q):Q1 r (tE M f vs) σ H Q:=by
 obtain ⟨ρ,fps,rep,q⟩:=hq;refine ⟨ρ,fps,rep,?_⟩;unfold Bu at q;cases ef:f ρ with
 | no=>rw [ef] at q;exact q
 | exc c=>rw [ef] at q;exact q
 | ok p=>
  obtain ⟨x,d,ρ1⟩:=p;rw [ef] at q;intro v H1 fps1 f1 k1 g1 rep1 o1 t1;dsimp only [Rz.bind] at q;cases eo:op x d with
  | none=>rw [eo] at q;exact q.elim
  | some zc=>
   obtain ⟨z,c⟩:=zc;rw [eo] at q;refine leaf x d z c v H1 fps1 f1 Q eo o1 t1.ndj (λ a h=>rep1.zdom h) λ u H3 fp k3 o3 hfp=>?_;have back:∀ a,H1 a=none->H a=none:=λ a e=>by
    cases e':H a with
    | none=>rfl
    | some o=>exact absurd e (k1.dom a (by rw [e'];simp))
   refine q u H3 fps1 fp (k1.trans (KD.grow k3)) g1 (rep1.grow k3) o3 ⟨λ a ha=>(hfp a ha).elim (t1.new a) (back a),λ a ha=>(hfp a ha).elim (t1.ndj a) λ z=>rep1.nz z⟩
def Ac:Fa:=λ ρ=>.ok ([],ρ)
def Af (f:Fx) (fa:Fa):Fa:=λ ρ=>(f ρ).bind λ (x,d,ρ1)=>(fa ρ1).bind λ (xs,ρ2)=>.ok ((x,d)::xs,ρ2)
def xv {σ:St}{H:Hp}{Q:List V->Hp->Prop} (hq:tL M Ac [] σ H Q):Hv σ H Q:=by
 obtain ⟨ρ,fps,rep,q⟩:=hq;exact q [] H fps [] KD.refl Agr.refl rep ⟨rfl,rfl⟩ ⟨λ _ z=>(nomatch z),λ _ z=>nomatch z⟩
theorem j7 (hv:∀ i∈vs,M.Ms i=false) {σ:St}{H:Hp}{Q:List V->Hp->Prop} (hq:tL M (Af f fa) (vs++vs') σ H Q):Ou (tE M f vs) (tL M fa vs') σ H Q:=by
 obtain ⟨ρ,fps,rep,q⟩:=hq;refine ⟨ρ,fps,rep,?_⟩;unfold Af at q;cases ef:f ρ with
 | no=>rw [ef] at q;exact q
 | exc c=>rw [ef] at q;exact q
 | ok p=>
  obtain ⟨x,d,ρ1⟩:=p;rw [ef] at q;intro v H1 fps1 f1 k1 g1 rep1 o1 t1;refine ⟨ρ1,fps1,rep1,?_⟩;dsimp only [Rz.bind] at q;cases eg:fa ρ1 with
  | no=>rw [eg] at q;exact q
  | exc c=>rw [eg] at q;exact λ H' fps' k=>q H' fps' (k1.trans k)
  | ok p2=>
   obtain ⟨ys,ρ2⟩:=p2;rw [eg] at q;intro ws H2 fps2 f2 k2 g2 rep2 o2 t2;dsimp only at q;have o1':=k2.stay rep1 hv o1 t1.ndj;have n1:∀ a∈f1,¬ Zf M fps2 a:=λ a ha z=>by
    rcases z with z | ⟨i,z⟩
    ·exact t1.ndj a ha (.inl z)
    ·rcases k2.sub i a z with z | z
     ·exact t1.ndj a ha (.inr ⟨i,z⟩)
     ·obtain ⟨xs,e⟩:=Own.lsts x d v f1 o1 a ha;rw [z] at e;cases e
   have back:∀ a,H1 a=none->H a=none:=λ a e=>by
    cases e':H a with
    | none=>rfl
    | some o=>exact absurd e (k1.dom a (by rw [e'];simp))
   refine q (v::ws) H2 fps2 (f1++f2) (k1.trans k2) (g1.trans g2) rep2 ⟨v,ws,f1,f2,rfl,rfl,λ a h1 h2=>?_,o1'.weak λ a h=>Zt.mono (λ i hi=>BP _ hi) h,o2.weak λ a h=>h.mono λ i hi=>BJ _ hi⟩ ⟨λ a ha=>?_,λ a ha=>?_⟩
   ·obtain ⟨xs,e⟩:=Own.lsts x d v f1 o1 a h1;rw [t2.new a h2] at e;cases e
   ·rcases jd7.mp ha with z | z
    ·exact t1.new a z
    ·exact back a (t2.new a z)
   ·rcases jd7.mp ha with z | z
    ·exact n1 a z
    ·exact t2.ndj a z
def Ao (op:List (PV×Nat)->Option (PV×Nat)) (fa:Fa):Fx:=λ ρ=>(fa ρ).bind λ (xs,ρ1)=>match op xs with
 | some (z,c)=>.ok (z,c,ρ1)
 | none=>.no
theorem MU {op:List (PV×Nat)->Option (PV×Nat)}{r:List V->Hp->VK->Prop}
  (leaf:∀ xs z c ws H fps fp Q,op xs=some (z,c)->Tmps M.K H (Zv M vs fps) xs ws fp->(∀ a∈fp,¬ Zf M fps a)->(∀ a,Zf M fps a->H a≠none)->Bw M H fps vs fp z c Q->r ws H Q)
  {σ:St}{H:Hp}{Q:VK} (hq:tE M (Ao op fa) vs σ H Q):tL M fa vs σ H λ ws H1=>r ws H1 Q:=by
 obtain ⟨ρ,fps,rep,q⟩:=hq;refine ⟨ρ,fps,rep,?_⟩;unfold Ao at q;cases ef:fa ρ with
 | no=>rw [ef] at q;exact q
 | exc c=>rw [ef] at q;exact q
 | ok p=>
  obtain ⟨xs,ρ1⟩:=p;rw [ef] at q;intro ws H1 fps1 f1 k1 g1 rep1 o1 t1;dsimp only [Rz.bind] at q;cases eo:op xs with
  | none=>rw [eo] at q;exact q.elim
  | some zc=>
   obtain ⟨z,c⟩:=zc;rw [eo] at q;refine leaf xs z c ws H1 fps1 f1 Q eo o1 t1.ndj (λ a h=>rep1.zdom h) λ u H3 fp k3 o3 hfp=>?_;have back:∀ a,H1 a=none->H a=none:=λ a e=>by
    cases e':H a with
    | none=>rfl
    | some o=>exact absurd e (k1.dom a (by rw [e'];simp))
   refine q u H3 fps1 fp (k1.trans (KD.grow k3)) g1 (rep1.grow k3) o3 ⟨λ a ha=>(hfp a ha).elim (t1.new a) (back a),λ a ha=>(hfp a ha).elim (t1.ndj a) λ z=>rep1.nz z⟩
def bT (f:Fx):Fb:=λ ρ=>(f ρ).bind λ (x,_,ρ1)=>match x with
 | .bl b=>.ok (b,ρ1)
 | _=>.no
theorem R9 {σ:St}{H:Hp}{Q:Bool->Hp->Prop} (hq:tT M (bT f) σ H Q):tB (tE M f vs) σ H Q:=by
 obtain ⟨ρ,fps,rep,q⟩:=hq;refine ⟨ρ,fps,rep,?_⟩;unfold bT at q;cases ef:f ρ with
 | no=>rw [ef] at q;exact q
 | exc c=>rw [ef] at q;exact q
 | ok p=>
  obtain ⟨x,d,ρ1⟩:=p;rw [ef] at q;intro v H1 fps1 f1 k1 g1 rep1 o1 t1;dsimp only [Rz.bind] at q;cases x with
  | bl b=>
   rw [Own] at o1;exact ⟨b,o1.1,q H1 fps1 k1 g1 rep1⟩
  | _=>exact q.elim
def HI (f g:Fb):Fb:=λ ρ=>(f ρ).bind λ (b,ρ1)=>if b=true then g ρ1 else .ok (false,ρ1)
def OV (f g:Fb):Fb:=λ ρ=>(f ρ).bind λ (b,ρ1)=>if b=true then .ok (true,ρ1) else g ρ1
def HH (f:Fb):Fb:=λ ρ=>(f ρ).bind λ (b,ρ1)=>.ok (!b,ρ1)
theorem xC {σ:St}{H:Hp}{Q:Bool->Hp->Prop} (hq:tT M (HI fb gb) σ H Q):Jk (tT M fb) (tT M gb) σ H Q:=by
 obtain ⟨ρ,fps,rep,q⟩:=hq;refine ⟨ρ,fps,rep,?_⟩;unfold HI at q;cases ef:fb ρ with
 | no=>rw [ef] at q;exact q
 | exc c=>rw [ef] at q;exact q
 | ok p=>
  obtain ⟨b,ρ1⟩:=p;rw [ef] at q;intro H1 fps1 k1 g1 rep1;dsimp only [Rz.bind] at q;cases b with
  | false=>exact (q H1 fps1 k1 g1 rep1)
  | true=>
   refine ⟨ρ1,fps1,rep1,?_⟩;rw [if_pos rfl] at q;cases eg:gb ρ1 with
   | no=>rw [eg] at q;exact q
   | exc c=>rw [eg] at q;exact λ H' fps' k=>q H' fps' (k1.trans k)
   | ok p2=>rw [eg] at q;exact λ H' fps' k g r=>q H' fps' (k1.trans k) (g1.trans g) r
theorem ZS {σ:St}{H:Hp}{Q:Bool->Hp->Prop} (hq:tT M (OV fb gb) σ H Q):Q3 (tT M fb) (tT M gb) σ H Q:=by
 obtain ⟨ρ,fps,rep,q⟩:=hq;refine ⟨ρ,fps,rep,?_⟩;unfold OV at q;cases ef:fb ρ with
 | no=>rw [ef] at q;exact q
 | exc c=>rw [ef] at q;exact q
 | ok p=>
  obtain ⟨b,ρ1⟩:=p;rw [ef] at q;intro H1 fps1 k1 g1 rep1;dsimp only [Rz.bind] at q;cases b with
  | true=>exact (q H1 fps1 k1 g1 rep1)
  | false=>
   refine ⟨ρ1,fps1,rep1,?_⟩;rw [if_neg Ck] at q;cases eg:gb ρ1 with
   | no=>rw [eg] at q;exact q
   | exc c=>rw [eg] at q;exact λ H' fps' k=>q H' fps' (k1.trans k)
   | ok p2=>rw [eg] at q;exact λ H' fps' k g r=>q H' fps' (k1.trans k) (g1.trans g) r
theorem xE {σ:St}{H:Hp}{Q:Bool->Hp->Prop} (hq:tT M (HH fb) σ H Q):Jj (tT M fb) σ H Q:=by
 obtain ⟨ρ,fps,rep,q⟩:=hq;refine ⟨ρ,fps,rep,?_⟩;unfold HH at q;cases ef:fb ρ with
 | no=>rw [ef] at q;exact q
 | exc c=>rw [ef] at q;exact q
 | ok p=>obtain ⟨b,ρ1⟩:=p;rw [ef] at q;exact q
theorem Tmps.all {K:Frag}{H:Hp}{Z:Addr->Prop}:∀ {xs:List (PV×Nat)}{ws:List V}{fp:List Addr},Tmps K H Z xs ws fp->(∀ p∈xs,p.2=om)->OwnL K H Z (xs.map (·.1)) om ws fp
 | [],_,_,h,_=>by rw [FT,OwnL];exact h
 | (x,d)::xs,ws,fp,h,ha=>by
  obtain ⟨v,s,f1,f2,e1,e2,dj,h1,h2⟩:=h;have e:d=om:=ha (x,d) AF;subst e;rw [AR,OwnL];exact ⟨v,s,f1,f2,e1,e2,dj,Own.full x v f1 h1,h2.all λ p hp=>ha p (AH _ hp)⟩
theorem Tmps.cold {K:Frag}{H:Hp}{Z:Addr->Prop}:∀ {xs:List (PV×Nat)}{ws:List V}{fp:List Addr},Tmps K H Z xs ws fp->(∀ a∈fp,¬ Z a)->OwnL K H Z (xs.map (·.1)) 0 ws []
 | [],_,_,h,_=>by rw [FT,OwnL];exact ⟨h.1,rfl⟩
 | (x,d)::xs,ws,fp,h,ha=>by
  obtain ⟨v,s,f1,f2,e1,e2,dj,h1,h2⟩:=h;rw [AR,OwnL];exact ⟨v,s,[],[],e1,rfl,λ _ z=>(nomatch z),Own.freeze (λ _ z=>.inl z) x d v f1 (λ a z=>ha a (by rw [e2];exact BP _ z)) h1,h2.cold λ a z=>ha a (by rw [e2];exact BJ _ z)⟩
theorem Tmps.length {K:Frag}{H:Hp}{Z:Addr->Prop}:∀ {xs:List (PV×Nat)}{ws:List V}{fp:List Addr},Tmps K H Z xs ws fp->ws.length=xs.length
 | [],_,_,h=>by rw [h.1];rfl
 | (x,d)::xs,ws,fp,h=>by
  obtain ⟨v,s,f1,f2,e1,e2,dj,h1,h2⟩:=h;rw [e1,Ba,Ba,h2.length]
theorem OwnL.length {K:Frag}{H:Hp}{Z:Addr->Prop}:∀ {xs:List PV}{d:Nat}{ws:List V}{fp:List Addr},OwnL K H Z xs d ws fp->ws.length=xs.length
 | [],_,_,_,h=>by rw [OwnL] at h;rw [h.1];rfl
 | x::xs,d,ws,fp,h=>by
  rw [OwnL] at h;obtain ⟨v,s,f1,f2,e1,e2,dj,h1,h2⟩:=h;rw [e1,Ba,Ba,h2.length]
end
inductive Rs where
 | nx (ρ:Ae) | rt (x:PV) (d:Nat) (ρ:Ae) | bk (ρ:Ae) | ct (ρ:Ae) | exc (c:Nat) | no
abbrev Fs:=Ae->Rs
structure KS (M:Fm) (H:Hp) (fps:AN) (H':Hp) (fps':AN):Prop where
 keep:D0 (λ a=>∃ i,a∈fps i) H H'
 dom:∀ a,H a≠none->H' a≠none
 sub:∀ i,∀ a∈fps' i,(∃ j,a∈fps j)\/H a=none
def Zr (M:Fm) (fps:AN):Addr->Prop:=λ a=>M.Zo a\/(M.io≠none/\a∈fps 0)
def RsOk (M:Fm) (D:Ends) (H:Hp) (fps:AN):Rs->Prop
 | .nx ρ'=>∀ σ' H' fps',KS M H fps H' fps'->Rep M ρ' σ' H' fps'->D.nx σ' H'
 | .bk ρ'=>∀ σ' H' fps',KS M H fps H' fps'->Rep M ρ' σ' H' fps'->D.bk σ' H'
 | .ct ρ'=>∀ σ' H' fps',KS M H fps H' fps'->Rep M ρ' σ' H' fps'->D.ct σ' H'
 | .rt x d ρ'=>∀ v σ' H' fps' fp,KS M H fps H' fps'->Rep M ρ' σ' H' fps'->Own M.K H' (λ a=>Zr M fps' a\/a∈fp) x d v fp->(∀ a∈fp,M.H₀ a=none/\¬ Zr M fps' a)->D.rt v H'
 | .exc c=>∀ σ' H' fps',KS M H fps H' fps'->M.W σ' c H'
 | .no=>False
def tS (M:Fm) (f:Fs):TS:=λ D σ H=>∃ ρ fps,Rep M ρ σ H fps/\RsOk M D H fps (f ρ)
section
variable {M:Fm}{ρ ρ':Ae}{σ σ':St}{H H' H'':Hp}{fps fps' fps'':AN}{vs vs':List Nat}
def KS.refl:KS M H fps H fps:=⟨λ _ _ h _=>h,λ _ h=>h,λ i _ h=>.inl ⟨i,h⟩⟩
def KD.ks (k:KD M H fps H' fps'):KS M H fps H' fps':=⟨λ a o h n=>k.keep a o h λ ⟨i,_,z⟩=>n ⟨i,z⟩,k.dom,λ i a h=>(k.sub i a h).elim (λ z=>.inl ⟨i,z⟩) .inr⟩
def KS.trans (a:KS M H fps H' fps') (b:KS M H' fps' H'' fps''):KS M H fps H'' fps'' where
 keep:=λ x o h n=>b.keep x o (a.keep x o h n) λ ⟨i,hx⟩=>(a.sub i x hx).elim (λ z=>n z) λ z=>by rw [z] at h;cases h
 dom:=λ x h=>b.dom x (a.dom x h)
 sub:=λ i x hx=>(b.sub i x hx).elim (λ ⟨j,z⟩=>a.sub j x z) λ z=>.inr (by
  cases e:H x with
  | none=>rfl
  | some o=>exact absurd z (a.dom x (by rw [e];simp)))
def KS.stay0 (k:KS M H fps H' fps') (r:Rep M ρ σ H fps) {x:PV}{v:V} (h:Own M.K H (Zf M fps) x 0 v []):Own M.K H' (Zf M fps') x 0 v []:=by
 refine Own.move k.keep (λ a ⟨i,ha⟩=>⟨.inr ⟨i,ha⟩,r.lsts ha⟩) ?_ x 0 v [] (λ _ z=>nomatch z) h;intro a hd nz z;rcases z with z | ⟨i,hx⟩
 ·exact nz (.inl z)
 ·rcases k.sub i a hx with z | z
  ·exact nz (.inr z)
  ·exact hd z
def AJ:Fs:=λ ρ=>.nx ρ
def Ag (f g:Fs):Fs:=λ ρ=>match f ρ with
 | .nx ρ1=>g ρ1
 | r=>r
def x9 {D:Ends} (hq:tS M AJ D σ H):UT D σ H:=by
 obtain ⟨ρ,fps,rep,q⟩:=hq;exact q σ H fps KS.refl rep
def BH (c:Fb) (f g:Fs):Fs:=λ ρ=>match c ρ with
 | .ok (b,ρ1)=>if b=true then f ρ1 else g ρ1
 | .exc e=>.exc e
 | .no=>.no
theorem RsOk.from {D:Ends}{r:Rs} (k1:KS M H fps H' fps') (q:RsOk M D H fps r):RsOk M D H' fps' r:=by
 cases r with
 | no=>exact q
 | exc c=>exact λ σ' H' fps' k=>q σ' H' fps' (k1.trans k)
 | rt x d ρ2=>exact λ v σ' H' fps' fp k=>q v σ' H' fps' fp (k1.trans k)
 | bk ρ2=>exact λ σ' H' fps' k=>q σ' H' fps' (k1.trans k)
 | ct ρ2=>exact λ σ' H' fps' k=>q σ' H' fps' (k1.trans k)
 | nx ρ2=>exact λ σ' H' fps' k=>q σ' H' fps' (k1.trans k)
theorem xA {f g:Fs}{D:Ends} (hq:tS M (Ag f g) D σ H):Ls (tS M f) (tS M g) D σ H:=by
 obtain ⟨ρ,fps,rep,q⟩:=hq;refine ⟨ρ,fps,rep,?_⟩;unfold Ag at q;cases ef:f ρ with
 | no=>rw [ef] at q;exact q
 | exc c=>rw [ef] at q;exact q
 | rt x d ρ1=>rw [ef] at q;exact q
 | bk ρ1=>rw [ef] at q;exact q
 | ct ρ1=>rw [ef] at q;exact q
 | nx ρ1=>
  rw [ef] at q;exact λ σ1 H1 fps1 k1 rep1=>⟨ρ1,fps1,rep1,RsOk.from k1 q⟩
theorem ZR {c:Fb}{f g:Fs}{D:Ends} (hq:tS M (BH c f g) D σ H):Lw (tT M c) (tS M f) (tS M g) D σ H:=by
 obtain ⟨ρ,fps,rep,q⟩:=hq;refine ⟨ρ,fps,rep,?_⟩;unfold BH at q;cases ef:c ρ with
 | no=>rw [ef] at q;exact q
 | exc c=>rw [ef] at q;exact λ H' fps' k=>q _ H' fps' k.ks
 | ok p=>
  obtain ⟨b,ρ1⟩:=p;rw [ef] at q;intro H1 fps1 k1 g1 rep1;dsimp only at q;cases b with
  | true=>
   rw [if_pos rfl] at q ⊢;exact ⟨ρ1,fps1,rep1,RsOk.from k1.ks q⟩
  | false=>
   rw [if_neg Ck] at q ⊢;exact ⟨ρ1,fps1,rep1,RsOk.from k1.ks q⟩
def cool (vs:List Nat):Nat->Ae->Ae
 | _,[]=>[]
 | k,s::r=>(if vs.contains k then s.map λ p=>(p.1,0) else s)::cool vs (k + 1) r
def AZ (d:Nat) (vs:List Nat) (ρ:Ae):Ae:=if d=om then ρ else cool vs 0 ρ
theorem IG (vs:List Nat):∀ (ρ:Ae) (k i:Nat),(cool vs k ρ)[i]?=(ρ[i]?).map λ s=>if vs.contains (k + i) then s.map λ p=>(p.1,0) else s
 | [],k,i=>by simp [cool]
 | s::r,k,0=>by simp [cool]
 | s::r,k,i + 1=>by
  rw [cool,Iu,IG vs r (k + 1) i,Iu]
  have:k + 1 + i=k + (i + 1):=by omega
  rw [this]
theorem MX (vs:List Nat):∀ (ρ:Ae) (k:Nat),(cool vs k ρ).length=ρ.length
 | [],_=>rfl
 | s::r,k=>by rw [cool,Ba,MX vs r (k + 1),Ba]
def DY (vs:List Nat) (fps:AN):AN:=λ i=>if vs.contains i then [] else fps i
def Gs {a:Addr}{i:Nat} (h:a∈DY vs fps i):a∈fps i/\i∉vs:=by
 unfold DY at h;split at h
 ·cases h
 ·rename_i n;exact ⟨h,λ z=>n (by simpa using z)⟩
def Ic {a:Addr} (h:Zf M (DY vs fps) a):Zv M vs fps a:=h.elim .inl λ ⟨i,z⟩=>.inr ⟨i,(Gs z).2,(Gs z).1⟩
def Rep.cool (r:Rep M ρ σ H fps) (hal:∀ i,M.al i=[]) (hv:∀ i∈vs,M.Ms i=false):Rep M (cool vs 0 ρ) σ H (DY vs fps) where
 own:=λ i x d e=>by
  rw [IG] at e;cases e1:ρ[i]? with
  | none=>rw [e1] at e;cases e
  | some s=>
   rw [e1] at e;simp only [Mf,Jw] at e;by_cases hc:vs.contains i=true
   ·rw [if_pos hc] at e;cases s with
    | none=>cases e
    | some p=>
     obtain ⟨x0,d0⟩:=p;simp only [Mf,Option.some.injEq,Prod.mk.injEq] at e;obtain ⟨rfl,rfl⟩:=e;obtain ⟨v,hσ,o⟩:=r.own0 hal i x0 d0 e1;refine ⟨v,hσ,Own.weak (Z:=Zf M (DY vs fps)) (λ a h=>h.zf) ?_⟩
     have:DY vs fps i=[]:=by unfold DY;rw [if_pos hc]
     rw [this];exact Own.freeze (λ a h=>Zv.zf (Ic h)) x0 d0 v _ (λ a ha z=>by
      rcases z with z | ⟨j,z⟩
      ·exact r.zo i a ha z
      ·obtain ⟨z1,z2⟩:=Gs z;exact r.dj i j (λ e=>z2 (by rw [<- e];simpa using hc)) a ha z1) o
   ·rw [if_neg hc] at e;cases e;obtain ⟨v,hσ,o⟩:=r.own0 hal i x d e1;refine ⟨v,hσ,Own.weak (Z:=Zf M (DY vs fps)) (λ a h=>h.zf) ?_⟩
    have:DY vs fps i=fps i:=by unfold DY;rw [if_neg hc]
    rw [this];exact o.weak λ a h=>Zv.zf (Ic h)
 non:=λ i h=>by
  unfold DY;split
  ·rfl
  ·rename_i hc;refine r.non i λ p e=>h p ?_;rw [IG,e];simp only [Mf,Jw];rw [if_neg hc]
 dj:=λ i j hij a ha hb=>r.dj i j hij a (Gs ha).1 (Gs hb).1
 zo:=λ i a ha=>r.zo i a (Gs ha).1
 fr:=λ i hi a ha=>r.fr i hi a (Gs ha).1
 zd:=r.zd
 len:=by rw [MX];exact r.len
 msf:=λ i x d hi e=>by
  rw [IG] at e;cases e1:ρ[i]? with
  | none=>rw [e1] at e;cases e
  | some s=>
   rw [e1] at e;simp only [Mf,Jw] at e;have hc:¬ vs.contains i=true:=λ z=>by rw [hv i (by simpa using z)] at hi;cases hi
   rw [if_neg hc] at e;cases e;exact r.msf i x d hi e1
 h0:=r.h0
 iov:=r.iov
def KS.cool (k:KS M H fps H' fps'):KS M H fps H' (DY vs fps'):=⟨k.keep,k.dom,λ i a h=>k.sub i a (Gs h).1⟩
def Rep.wide {fp:List Addr} (hal:∀ i,∀ j∈M.al i,M.Ms j=false) (r:Rep M ρ σ H fps) (k:KD M H fps H' fps') (g:Agr M ρ ρ') (r':Rep M ρ' σ H' fps') (hf:∀ a∈fp,H a=none/\H' a≠none/\¬ Zf M fps' a):Rep (M.plus fp) ρ' σ H' fps' where
 own:=λ i x d e=>by
  by_cases hm:M.Ms i=true
  ·obtain ⟨v,hv,o⟩:=r'.own i x d e;have hd:=r'.msf i x d hm e;subst hd;exact ⟨v,hv,Own.full x v _ o⟩
  ·have hm':M.Ms i=false:=by simpa using hm
   rw [g.1 i hm'] at e;obtain ⟨v,hv,o⟩:=r.own i x d e;refine ⟨v,hv,?_⟩;rw [k.same i hm'];refine Own.move k.keep (λ a ⟨j,hj,ha⟩=>⟨.inr ⟨j,λ z=>(by rw [hal i j z] at hj;cases hj),ha⟩,r.lsts ha⟩) ?_ x d v _ ?_ o
   ·intro a hd nz z;rcases z with (z | z) | ⟨j,nj,z⟩
    ·exact nz (.inl z)
    ·exact hd (hf a z).1
    ·rcases k.sub j a z with z | z
     ·exact nz (.inr ⟨j,nj,z⟩)
     ·exact hd z
   ·rintro a ha ⟨j,hj,hx⟩;exact r.dj i j (λ e=>by rw [e,hj] at hm';cases hm') a ha hx
 non:=r'.non
 dj:=r'.dj
 zo:=λ i a ha z=>z.elim (r'.zo i a ha) λ z=>(hf a z).2.2 (.inr ⟨i,ha⟩)
 fr:=r'.fr
 zd:=λ a z=>z.elim (r'.zd a) λ z=>(hf a z).2.1
 len:=r'.len
 msf:=r'.msf
 h0:=r'.h0
 iov:=r'.iov
def Rep.put {i:Nat}{x:PV}{d:Nat}{v:V}{fp:List Addr} (r:Rep (M.plus fp) ρ σ H fps) (h:Own M.K H (λ a=>Za M fps i a\/a∈fp) x d v fp) (hf:∀ a∈fp,M.H₀ a=none/\¬ M.Zo a) (hi:i < ρ.length) (hm:M.Ms i=true->d=om) (hio:M.Fre i):
  Rep M (ρ.set i (some (x,d))) (σ.set i (some v)) H (λ j=>if j=i then fp else fps j):=by
 have zz:∀ a,Zf M (λ j=>if j=i then fp else fps j) a->Zf M fps a\/a∈fp:=λ a h=>by
  rcases h with z | ⟨j,z⟩
  ·exact .inl (.inl z)
  ·by_cases e:j=i
   ·simp only [if_pos e] at z;exact .inr z
   ·simp only [if_neg e] at z;exact .inl (.inr ⟨j,z⟩)
 have zz2:∀ a,Zf M fps a\/a∈fp->Zf (M.plus fp) fps a:=λ a h=>h.elim (λ h=>h.elim (λ z=>.inl (.inl z)) λ z=>.inr z) λ z=>.inl (.inr z);refine ⟨λ j y e hj=>?_,λ j hj=>?_,λ j k hjk a ha hb=>?_,λ j a ha z=>?_,λ j hj a ha=>?_,λ a z=>r.zd a (.inl z),?_,λ j y e hj he=>?_,r.h0,?_⟩
 ·by_cases e:j=i
  ·subst e;rw [DU hi] at hj;cases hj;refine ⟨v,by rw [DU (by rw [<- r.len];exact hi)],?_⟩;rw [if_pos rfl];refine h.weak λ a h=>?_;rcases h with z | ⟨k,nk,z⟩
   ·exact .inl (.inl z)
   ·by_cases ek:k=j
    ·simp only [if_pos ek] at z;exact .inr z
    ·simp only [if_neg ek] at z;exact .inl (.inr ⟨k,nk,z⟩)
  ·rw [CV (Cb e)] at hj;obtain ⟨w,hw,o⟩:=r.own j y _ hj;refine ⟨w,by rw [CV (Cb e)];exact hw,?_⟩;rw [if_neg e];refine o.weak λ a h=>?_;rcases h with z | ⟨k,nk,z⟩
   ·exact .inl (.inl z)
   ·by_cases ek:k=i
    ·simp only [if_pos ek] at z;exact .inl (.inr z)
    ·simp only [if_neg ek] at z;exact .inr ⟨k,nk,z⟩
 ·by_cases e:j=i
  ·subst e;exact absurd (DU hi) (hj _)
  ·rw [if_neg e];exact r.non j λ p hp=>hj p (by rw [CV (Cb e)];exact hp)
 ·by_cases e1:j=i
  ·by_cases e2:k=i
   ·exact hjk (e1.trans e2.symm)
   ·rw [if_pos e1] at ha;rw [if_neg e2] at hb;exact r.zo k a hb (.inr ha)
  ·rw [if_neg e1] at ha;by_cases e2:k=i
   ·rw [if_pos e2] at hb;exact r.zo j a ha (.inr hb)
   ·rw [if_neg e2] at hb;exact r.dj j k hjk a ha hb
 ·by_cases e:j=i
  ·rw [if_pos e] at ha;exact (hf a ha).2 z
  ·rw [if_neg e] at ha;exact r.zo j a ha (.inl z)
 ·by_cases e:j=i
  ·rw [if_pos e] at ha;exact (hf a ha).1
  ·rw [if_neg e] at ha;exact r.fr j hj a ha
 ·rw [DN,DN];exact r.len
 ·by_cases e:j=i
  ·subst e;rw [DU hi] at he;cases he;exact hm hj
  ·rw [CV (Cb e)] at he;exact r.msf j y _ hj he
 ·refine ⟨λ w hw=>?_,λ p hp=>?_⟩
  ·have h0:i≠0:=hio.1 (by rw [hw];simp);rw [CV h0];exact r.iov.1 w hw
  ·rw [CV (hio.2 p hp).symm];exact r.iov.2 p hp
def Al (ms:Bool) (i:Nat) (f:Fx) (vs:List Nat):Fs:=λ ρ=>match f ρ with
 | .ok (x,d,ρ1)=>if i < ρ1.length/\(ms=true->d=om) then .nx ((AZ d vs ρ1).set i (some (x,d))) else .no
 | .exc c=>.exc c
 | .no=>.no
def Rep.store {i:Nat}{x:PV}{d:Nat}{v:V}{fp:List Addr} (rep:Rep M ρ σ H fps) (k:KD M H fps H' fps') (g:Agr M ρ ρ') (r':Rep M ρ' σ H' fps') (o:Own M.K H' (Zt M vs fps' fp) x d v fp) (t:Temp M vs H H' fps' fp)
  (hal:∀ i,M.al i=[]) (hv:∀ i∈vs,M.Ms i=false) (hi:i < ρ'.length) (hm:M.Ms i=true->d=om) (hio:M.Fre i):
  ∃ fps2,KS M H fps H' fps2/\Rep M ((AZ d vs ρ').set i (some (x,d))) (σ.set i (some v)) H' fps2:=by
 have back:∀ a,H a=none->M.H₀ a=none:=λ a e=>by
  cases e':M.H₀ a with
  | none=>rfl
  | some o=>exact absurd e (rep.h0 a (by rw [e'];simp))
 have w:Rep (M.plus fp) ρ' σ H' fps':=rep.wide (λ i j hj=>by rw [hal i] at hj;cases hj) k g r' λ a ha=>⟨t.new a ha,by obtain ⟨xs,e⟩:=Own.lsts x d v fp o a ha;rw [e];simp,t.ndj a ha⟩
 have hf:∀ a∈fp,M.H₀ a=none/\¬ M.Zo a:=λ a ha=>⟨back a (t.new a ha),λ z=>t.ndj a ha (.inl z)⟩
 have ks2:∀ {fps2:AN},(∀ i a,a∈fps2 i->a∈fps' i)->KS M H fps H' (λ j=>if j=i then fp else fps2 j):=λ {fps2} h2=>⟨k.ks.keep,k.dom,λ j a ha=>by
  by_cases e:j=i
  ·simp only [if_pos e] at ha;exact .inr (t.new a ha)
  ·simp only [if_neg e] at ha;exact k.ks.sub j a (h2 j a ha)⟩
 unfold AZ;by_cases hd:d=om
 ·rw [if_pos hd];refine ⟨_,ks2 λ _ _ h=>h,w.put (i:=i) (x:=x) (d:=d) (v:=v) ?_ hf hi hm hio⟩;rw [hd] at o ⊢;exact Own.full x v fp o
 ·rw [if_neg hd];refine ⟨_,ks2 λ _ _ h=>(Gs h).1,(w.cool (vs:=vs) hal hv).put (i:=i) (x:=x) (d:=d) (v:=v) ?_ hf (by rw [MX];exact hi) hm hio⟩;exact o.weak λ a h=>h.elim (λ h=>.inl (Ic h.zf)) .inr
theorem VF {f:Fx}{i:Nat}{ms:Bool}{D:Ends} (hal:∀ i,M.al i=[]) (hv:∀ i∈vs,M.Ms i=false) (hms:M.Ms i=ms) (hio:M.Fre i) (hq:tS M (Al ms i f vs) D σ H):EI (tE M f vs) (Fe i) D σ H:=by
 obtain ⟨ρ,fps,rep,q⟩:=hq;refine ⟨ρ,fps,rep,?_⟩;unfold Al at q;cases ef:f ρ with
 | no=>rw [ef] at q;exact q
 | exc c=>rw [ef] at q;exact λ H' fps' k=>q _ H' fps' k.ks
 | ok p=>
  obtain ⟨x,d,ρ1⟩:=p;rw [ef] at q;intro v H1 fps1 f1 k1 g1 rep1 o1 t1;dsimp only at q;by_cases hc:i < ρ1.length/\(ms=true->d=om)
  ·rw [if_pos hc] at q;obtain ⟨fps2,k2,r2⟩:=Rep.store rep k1 g1 rep1 o1 t1 hal hv hc.1 (λ h=>hc.2 (by rw [<- hms];exact h)) hio;exact q _ _ _ k2 r2
  ·rw [if_neg hc] at q;exact q.elim
end
section
variable {M:Fm}{ρ ρ':Ae}{σ σ':St}{H H' H'':Hp}{fps fps' fps'':AN}{vs vs':List Nat}
def Zr.zf {a:Addr} (h:Zr M fps a):Zf M fps a:=h.elim .inl λ h=>.inr ⟨0,h.2⟩
def Rep.zr (r:Rep M ρ σ H fps) (hv:∀ i∈vs,M.Ms i=false) {a:Addr} (h:Zr M fps a):Zv M vs fps a:=by
 rcases h with h | ⟨h1,h2⟩
 ·exact .inl h
 ·refine .inr ⟨0,λ z=>?_,h2⟩;cases e:M.io with
  | none=>exact h1 e
  | some v=>have:=(r.iov.1 v e).2;rw [hv 0 z] at this;cases this
theorem Rep.h0' (r:Rep M ρ σ H fps) {a:Addr} (e:H a=none):M.H₀ a=none:=by
 cases e':M.H₀ a with
 | none=>rfl
 | some o=>exact absurd e (r.h0 a (by rw [e'];simp))
def Ax (f:Fx):Fs:=λ ρ=>match f ρ with
 | .ok (x,d,ρ1)=>.rt x d ρ1
 | .exc c=>.exc c
 | .no=>.no
theorem VE {f:Fx}{D:Ends} (hv:∀ i∈vs,M.Ms i=false) (hq:tS M (Ax f) D σ H):Ji (tE M f vs) D σ H:=by
 obtain ⟨ρ,fps,rep,q⟩:=hq;refine ⟨ρ,fps,rep,?_⟩;unfold Ax at q;cases ef:f ρ with
 | no=>rw [ef] at q;exact q
 | exc c=>rw [ef] at q;exact λ H' fps' k=>q _ H' fps' k.ks
 | ok p=>
  obtain ⟨x,d,ρ1⟩:=p;rw [ef] at q;intro v H1 fps1 f1 k1 g1 rep1 o1 t1;exact q v σ H1 fps1 f1 k1.ks rep1 (o1.weak λ a h=>h.elim (λ h=>.inl (rep1.zr hv h)) .inr) λ a ha=>⟨rep.h0' (t1.new a ha),λ z=>t1.ndj a ha z.zf⟩
def DE (i:Nat):Fs:=λ ρ=>match ρ[i]? with
 | some (some (x,d))=>.rt x d ρ
 | _=>.no
theorem jD {i:Nat}{D:Ends} (hal:∀ i,M.al i=[]) (hm:M.Ms i=false) (hq:tS M (DE i) D σ H):Ji (Dq i) D σ H:=by
 obtain ⟨ρ,fps,rep,q⟩:=hq;unfold DE at q;cases e0:ρ[i]? with
 | none=>rw [e0] at q;exact q.elim
 | some sl=>
  cases sl with
  | none=>rw [e0] at q;exact q.elim
  | some p=>
   obtain ⟨x,d⟩:=p;rw [e0] at q;obtain ⟨v,hv,o⟩:=rep.own0 hal i x d e0;refine ⟨v,hv,q v σ H fps (fps i) KS.refl rep (o.weak λ a h=>h.elim Zr.zf λ z=>.inr ⟨i,z⟩) λ a ha=>⟨rep.fr i hm a ha,λ z=>?_⟩⟩;rcases z with z | ⟨z1,z2⟩
   ·exact rep.zo i a ha z
   ·cases e:M.io with
    | none=>exact z1 e
    | some w=>exact rep.dj i 0 (λ e'=>by rw [e',(rep.iov.1 w e).2] at hm;cases hm) a ha z2
def CY (f:Fx):Fs:=λ ρ=>match f ρ with
 | .ok (_,_,ρ1)=>.nx ρ1
 | .exc c=>.exc c
 | .no=>.no
theorem j9 {f:Fx}{D:Ends} (hq:tS M (CY f) D σ H):Ov (tE M f vs) D σ H:=by
 obtain ⟨ρ,fps,rep,q⟩:=hq;refine ⟨ρ,fps,rep,?_⟩;unfold CY at q;cases ef:f ρ with
 | no=>rw [ef] at q;exact q
 | exc c=>rw [ef] at q;exact λ H' fps' k=>q _ H' fps' k.ks
 | ok p=>
  obtain ⟨x,d,ρ1⟩:=p;rw [ef] at q;intro v H1 fps1 f1 k1 g1 rep1 o1 t1;exact q σ H1 fps1 k1.ks rep1
theorem OwnL.snoc {K:Frag}{Z:Addr->Prop}{y:PV}{d:Nat}{w:V}{fy:List Addr}:∀ {xs:List PV}{ws:List V}{f:List Addr},OwnL K H Z xs d ws f->Own K H Z y d w fy->(∀ a∈f,a∉fy)->OwnL K H Z (xs++[y]) d (ws++[w]) (f++fy)
 | [],ws,f,h,hy,_=>by
  rw [OwnL] at h;obtain ⟨rfl,rfl⟩:=h;show OwnL K H Z [y] d [w] fy;rw [OwnL];refine ⟨w,[],fy,[],rfl,by simp,λ _ _ z=>(nomatch z),hy,?_⟩;rw [OwnL];exact ⟨rfl,rfl⟩
 | x::xs,ws,f,h,hy,hd=>by
  rw [OwnL] at h;obtain ⟨v,s,f1,f2,rfl,rfl,dj,h1,h2⟩:=h;show OwnL K H Z (x::(xs++[y])) d (v::(s++[w])) (f1++f2++fy);rw [OwnL];refine ⟨v,s++[w],f1,f2++fy,rfl,by rw [OO],λ a ha hb=>?_,h1,h2.snoc hy λ a ha=>hd a (BJ _ ha)⟩;rcases jd7.mp hb with z | z
  ·exact dj a ha z
  ·exact hd a (BP _ ha) z
def Own.at {K:Frag}{Z Z':Addr->Prop}{a:Addr}{o:HO}{x:PV}{d:Nat}{v:V}{fp:List Addr} (h:Own K H Z x d v fp) (hZ:Z a) (hl:∃ o:MO,H a=some o.ho) (hf:a∉fp) (hz:∀ b,H b≠none->¬ Z b->¬ Z' b):Own K (Ap H a o) Z' x d v fp:=
 Own.move (S:=λ b=>b=a) (λ b u hb n=>by rw [A8 n];exact hb) (λ b e=>by rw [e];exact ⟨hZ,hl⟩) hz x d v fp (λ b hb e=>hf (by rw [<- e];exact hb)) h
def OwnL.at {K:Frag}{Z Z':Addr->Prop}{a:Addr}{o:HO}{x:List PV}{d:Nat}{v:List V}{fp:List Addr} (h:OwnL K H Z x d v fp) (hZ:Z a) (hl:∃ o:MO,H a=some o.ho) (hf:a∉fp) (hz:∀ b,H b≠none->¬ Z b->¬ Z' b):OwnL K (Ap H a o) Z' x d v fp:=
 OwnL.move (S:=λ b=>b=a) (λ b u hb n=>by rw [A8 n];exact hb) (λ b e=>by rw [e];exact ⟨hZ,hl⟩) hz x d v fp (λ b hb e=>hf (by rw [<- e];exact hb)) h
def Rep.rewrite {i:Nat}{xs:List PV}{d:Nat}{a:Addr}{ws:List V}{zs:List PV}{us:List V}{e:Nat}{f f' fp:List Addr} (hal:∀ i,M.al i=[]) (r:Rep (M.plus fp) ρ σ H fps) (hi:ρ[i]?=some (some (.lst xs,d))) (hσ:σ[i]?=some (some (.ref a)))
  (ha:H a=some (.lst ws)) (hfp:fps i=a::f) (hn:a∉f') (hsub:∀ b∈f',b∈f\/b∈fp) (he:e≠0) (hm:M.Ms i=true->e=om) (hH:∀ b∈fp,M.H₀ b=none/\¬ M.Zo b)
  (hnew:OwnL M.K (Ap H a (.lst us)) (Zf M (λ j=>if j=i then a::f' else fps j)) zs (pd e) us f'):
  Rep M (ρ.set i (some (.lst zs,e))) σ (Ap H a (.lst us)) (λ j=>if j=i then a::f' else fps j):=by
 have hlen:i < ρ.length:=(jb1.mp hi).1;have hai:a∈fps i:=by rw [hfp];exact AF
 have zz:∀ b,Zf M (λ j=>if j=i then a::f' else fps j) b->Zf (M.plus fp) fps b:=λ b h=>by
  rcases h with z | ⟨j,z⟩
  ·exact .inl (.inl z)
  ·by_cases ej:j=i
   ·simp only [if_pos ej] at z;rcases jc3.mp z with z | z
    ·exact .inr ⟨i,by rw [z];exact hai⟩
    ·rcases hsub b z with z | z
     ·exact .inr ⟨i,by rw [hfp];exact AH _ z⟩
     ·exact .inl (.inr z)
   ·simp only [if_neg ej] at z;exact .inr ⟨j,z⟩
 have dm:∀ b,H b≠none->(Ap H a (.lst us)) b≠none:=λ b h=>by
  by_cases eb:b=a
  ·rw [eb,AV];simp
  ·rw [A8 eb];exact h
 have inI:∀ b,b∈a::f'->b∈fps i\/b∈fp:=λ b hb=>by
  rcases jc3.mp hb with z | z
  ·exact .inl (by rw [z];exact hai)
  ·rcases hsub b z with z | z
   ·exact .inl (by rw [hfp];exact AH _ z)
   ·exact .inr z
 refine ⟨λ j y c hj=>?_,λ j hj=>?_,λ j k hjk b hb hc=>?_,λ j b hb z=>?_,λ j hj b hb=>?_,λ b z=>dm b (r.zd b (.inl z)),by rw [DN];exact r.len,λ j y c hj hc=>?_,λ b z=>dm b (r.h0 b z),r.iov⟩
 ·by_cases ej:j=i
  ·subst ej;rw [DU hlen] at hj;cases hj;refine ⟨_,hσ,?_⟩;rw [if_pos rfl,Own];exact ⟨a,us,rfl,.inr ⟨he,f',AV,rfl,hn,hnew.weak λ _ h=>h.zf⟩⟩
  ·rw [CV (Cb ej)] at hj;obtain ⟨w,hw,ow⟩:=r.own0 hal j y c hj;refine ⟨w,hw,?_⟩;rw [if_neg ej];exact ow.at (.inr ⟨i,hai⟩) ⟨.l ws,ha⟩ (λ z=>r.dj j i ej a z hai) λ b _ nz z=>nz (zz b z.zf)
 ·by_cases ej:j=i
  ·subst ej;exact absurd (DU hlen) (hj _)
  ·rw [if_neg ej];exact r.non j λ p hp=>hj p (by rw [CV (Cb ej)];exact hp)
 ·have one:∀ k,k≠i->∀ b,b∈a::f'->b∈fps k->False:=λ k hk b h1 h2=>(inI b h1).elim (λ z=>r.dj i k (Cb hk) b z h2) λ z=>r.zo k b h2 (.inr z);by_cases e1:j=i
  ·by_cases e2:k=i
   ·exact hjk (e1.trans e2.symm)
   ·rw [if_pos e1] at hb;rw [if_neg e2] at hc;exact one k e2 b hb hc
  ·rw [if_neg e1] at hb;by_cases e2:k=i
   ·rw [if_pos e2] at hc;exact one j e1 b hc hb
   ·rw [if_neg e2] at hc;exact r.dj j k hjk b hb hc
 ·by_cases ej:j=i
  ·rw [if_pos ej] at hb;rcases inI b hb with y | y
   ·exact r.zo i b y (.inl z)
   ·exact (hH b y).2 z
  ·rw [if_neg ej] at hb;exact r.zo j b hb (.inl z)
 ·by_cases ej:j=i
  ·rw [if_pos ej] at hb;rcases inI b hb with y | y
   ·exact r.fr i (by rw [<- ej];exact hj) b y
   ·exact (hH b y).1
  ·rw [if_neg ej] at hb;exact r.fr j hj b hb
 ·by_cases ej:j=i
  ·subst ej;rw [DU hlen] at hc;cases hc;exact hm hj
  ·rw [CV (Cb ej)] at hc;exact r.msf j y c hj hc
end
section
variable {M:Fm}{ρ ρ':Ae}{σ σ':St}{H H' H'':Hp}{fps fps' fps'':AN}{vs vs':List Nat}
def KS.write {a:Addr}{o:HO}{i:Nat}{f' fp:List Addr} (k:KS M H fps H' fps') (ha:∃ j,a∈fps j) (hs:∀ b∈a::f',b∈fps' i\/H b=none):
  KS M H fps (Ap H' a o) (λ j=>if j=i then a::f' else fps' j) where
 keep:=λ b u hb n=>by rw [A8 (λ e=>n (by rw [e];exact ha))];exact k.keep b u hb n
 dom:=λ b hb=>by
  by_cases e:b=a
  ·rw [e,AV];simp
  ·rw [A8 e];exact k.dom b hb
 sub:=λ j b hb=>by
  by_cases e:j=i
  ·simp only [if_pos e] at hb;rcases hs b hb with z | z
   ·exact k.sub i b z
   ·exact .inr z
  ·simp only [if_neg e] at hb;exact k.sub j b hb
def Rep.behind {x:PV}{d:Nat}{v:V}{fp:List Addr} (rep:Rep M ρ σ H fps) (k:KD M H fps H' fps') (g:Agr M ρ ρ') (r':Rep M ρ' σ H' fps') (o:Own M.K H' (Zt M vs fps' fp) x d v fp) (t:Temp M vs H H' fps' fp)
  (hal:∀ i,M.al i=[]) (hv:∀ i∈vs,M.Ms i=false):∃ fps2,KS M H fps H' fps2/\Rep (M.plus fp) (AZ d vs ρ') σ H' fps2/\Own M.K H' (λ a=>Zf M fps2 a\/a∈fp) x d v fp/\(∀ a∈fp,¬ Zf M fps2 a)/\(∀ i a,a∈fps2 i->a∈fps' i)/\(∀ a∈fp,M.H₀ a=none/\¬ M.Zo a):=by
 have w:Rep (M.plus fp) ρ' σ H' fps':=rep.wide (λ i j hj=>by rw [hal i] at hj;cases hj) k g r' λ a ha=>⟨t.new a ha,by obtain ⟨xs,e⟩:=Own.lsts x d v fp o a ha;rw [e];simp,t.ndj a ha⟩
 have hf:∀ a∈fp,M.H₀ a=none/\¬ M.Zo a:=λ a ha=>⟨rep.h0' (t.new a ha),λ z=>t.ndj a ha (.inl z)⟩
 unfold AZ;by_cases hd:d=om
 ·rw [if_pos hd];refine ⟨fps',k.ks,w,?_,t.ndj,λ _ _ h=>h,hf⟩;rw [hd] at o ⊢;exact Own.full x v fp o
 ·rw [if_neg hd];exact ⟨DY vs fps',k.ks.cool,w.cool hal hv,o.weak λ a h=>h.elim (λ h=>.inl (Ic h)) .inr,λ a ha z=>t.ndj a ha (Ic z).zf,λ _ _ h=>(Gs h).1,hf⟩
def C1 (i:Nat) (f:Fx) (vs:List Nat):Fs:=λ ρ=>match ρ[i]? with
 | some (some (.lst _,0))=>.no
 | some (some (.lst _,_ + 1))=>(match f ρ with
  | .ok (y,e,ρ1)=>(match (AZ e vs ρ1)[i]? with
   | some (some (.lst xs,d))=>if d≠0/\xs.length < A0 then .nx ((AZ e vs ρ1).set i (some (.lst (xs++[y]),if d=om/\e=om then om else 1))) else .no
   | _=>.no)
  | .exc c=>.exc c
  | .no=>.no)
 | _=>.no
def LP:pd 1=0:=by decide
def Own.list {K:Frag}{Z:Addr->Prop}{xs:List PV}{d:Nat}{v:V}{fp:List Addr} (h:Own K H Z (.lst xs) d v fp) (hd:d≠0):∃ a ws f,v=.ref a/\H a=some (.lst ws)/\fp=a::f/\a∉f/\OwnL K H Z xs (pd d) ws f:=by
 rw [Own] at h;obtain ⟨a,ws,e,⟨d0,_⟩ | ⟨_,f,h1,h2,h3,h4⟩⟩:=h
 ·exact absurd d0 hd
 ·exact ⟨a,ws,f,e,h1,h2,h3,h4⟩
def xx {f:Fx}{i:Nat}{D:Ends} (hal:∀ i,M.al i=[]) (hv:∀ i∈vs,M.Ms i=false) (hm:M.Ms i=false) (hq:tS M (C1 i f vs) D σ H):Ov (Q6 M.K "list" W7 (Dq i) (Ou (tE M f vs) Hv)) D σ H:=by
 obtain ⟨ρ,fps,rep,q⟩:=hq;unfold C1 at q;split at q
 ·exact q.elim
 ·rename_i xs0 d0 e0;obtain ⟨v,hσ,o⟩:=rep.own0 hal i _ _ e0;obtain ⟨a,ws0,fc0,rfl,ha0,hfp0,_,_⟩:=o.list (Y6 _);refine ⟨_,hσ,WH (.inl (.inl ha0)),ρ,fps,rep,?_⟩;cases ef:f ρ with
  | no=>rw [ef] at q;exact q
  | exc c=>rw [ef] at q;exact λ H' fps' k=>q _ H' fps' k.ks
  | ok p=>
   obtain ⟨y,e,ρ1⟩:=p;rw [ef] at q;intro w H1 fps1 fp k1 g1 rep1 o1 t1;dsimp only at q;split at q
   ·rename_i xs d es;split at q
    ·rename_i hc;obtain ⟨fps2,k2,r2,o2,n2,s2,h2⟩:=Rep.behind rep k1 g1 rep1 o1 t1 hal hv;obtain ⟨v',hσ',ol⟩:=r2.own0 hal i _ _ es;rw [hσ] at hσ';cases hσ';obtain ⟨a',ws,fc,ev,ha,hfp,nac,hol⟩:=ol.list hc.1;cases ev;have hai:a∈fps2 i:=by rw [hfp];exact AF
     have hafp:a∉fp:=λ z=>n2 a z (.inr ⟨i,hai⟩);have hst:∃ j,a∈fps j:=⟨i,by have:=s2 i a hai;rw [k1.same i hm] at this;exact this⟩
     refine ⟨a,ws,w,rfl,rfl,ha,by rw [hol.length];exact hc.2,?_⟩;by_cases ho:d=om/\e=om
     ·rw [if_pos ho] at q;obtain ⟨rfl,rfl⟩:=ho;refine q σ _ _ (k2.write (i:=i) (f':=fc++fp) (fp:=fp) hst λ b hb=>?_) (r2.rewrite hal es hσ ha hfp (λ z=>(jd7.mp z).elim nac hafp) (λ b hb=>jd7.mp hb) (by decide) (λ _=>rfl) h2 ?_)
      ·rcases jc3.mp hb with z | z
       ·exact .inl (by rw [z];exact hai)
       ·rcases jd7.mp z with z | z
        ·exact .inl (by rw [hfp];exact AH _ z)
        ·exact .inr (t1.new b z)
      ·have u1:OwnL M.K (Ap H1 a (.lst (ws++[w]))) (λ _=>True) xs om ws fc:=(OwnL.full (Z':=λ _=>True) xs ws fc hol).at trivial ⟨.l ws,ha⟩ nac λ _ _ n=>absurd trivial n;have u2:Own M.K (Ap H1 a (.lst (ws++[w]))) (λ _=>True) y om w fp:=(Own.full (Z':=λ _=>True) y w fp o2).at trivial ⟨.l ws,ha⟩ hafp λ _ _ n=>absurd trivial n;exact OwnL.full _ _ _ (u1.snoc u2 λ b hb z=>n2 b z (.inr ⟨i,by rw [hfp];exact AH _ hb⟩))
     ·rw [if_neg ho] at q;refine q σ _ _ (k2.write (i:=i) (f':=[]) (fp:=fp) hst λ b hb=>?_) (r2.rewrite hal es hσ ha hfp (λ z=>nomatch z) (λ b hb=>nomatch hb) (by decide) (λ h=>by rw [hm] at h;cases h) h2 ?_)
      ·rcases jc3.mp hb with z | z
       ·exact .inl (by rw [z];exact hai)
       ·cases z
      ·rw [LP];have zsub:∀ b,Zf M (λ j=>if j=i then [a] else fps2 j) b->Zf (M.plus fp) fps2 b:=λ b h=>by
        rcases h with z | ⟨j,z⟩
        ·exact .inl (.inl z)
        ·by_cases ej:j=i
         ·simp only [if_pos ej] at z;rw [jb7.mp z];exact .inr ⟨i,hai⟩
         ·simp only [if_neg ej] at z;exact .inr ⟨j,z⟩
       have nf:∀ b∈fc,¬ Zf M (λ j=>if j=i then [a] else fps2 j) b:=λ b hb z=>by
        have hbi:b∈fps2 i:=by rw [hfp];exact AH _ hb
        rcases z with z | ⟨j,z⟩
        ·exact r2.zo i b hbi (.inl z)
        ·by_cases ej:j=i
         ·simp only [if_pos ej] at z;rw [jb7.mp z] at hb;exact nac hb
         ·simp only [if_neg ej] at z;exact r2.dj i j (Cb ej) b hbi z
       have nfp:∀ b∈fp,¬ Zf M (λ j=>if j=i then [a] else fps2 j) b:=λ b hb z=>by
        rcases z with z | ⟨j,z⟩
        ·exact n2 b hb (.inl z)
        ·by_cases ej:j=i
         ·simp only [if_pos ej] at z;rw [jb7.mp z] at hb;exact hafp hb
         ·simp only [if_neg ej] at z;exact n2 b hb (.inr ⟨j,z⟩)
       have za:Zf M (λ j=>if j=i then [a] else fps2 j) a:=.inr ⟨i,by simp⟩;have u1:=(OwnL.freeze (Z':=Zf M (λ j=>if j=i then [a] else fps2 j)) zsub xs _ ws fc nf hol)
       have u2:=(Own.freeze (Z':=Zf M (λ j=>if j=i then [a] else fps2 j)) (λ b h=>by
        rcases h with z | ⟨j,z⟩
        ·exact .inl (.inl z)
        ·by_cases ej:j=i
         ·simp only [if_pos ej] at z;rw [jb7.mp z];exact .inl (.inr ⟨i,hai⟩)
         ·simp only [if_neg ej] at z;exact .inl (.inr ⟨j,z⟩)) y _ w fp nfp o2)
       exact (u1.at za ⟨.l ws,ha⟩ (λ z=>nomatch z) λ _ _ n=>n).snoc (u2.at za ⟨.l ws,ha⟩ (λ z=>nomatch z) λ _ _ n=>n) λ _ z=>nomatch z
    ·exact q.elim
   ·exact q.elim
 ·exact q.elim
def O1:PV->Bool
 | .lst _=>false
 | .tup _=>false
 | .dct _=>false
 | .dcl _ _=>false
 | _=>true
theorem OwnL.set {K:Frag}{Z:Addr->Prop}{y:PV}{d:Nat}{w:V} (hy:Own K H Z y d w []):∀ {xs:List PV}{ws:List V}{f:List Addr} (k:Nat),OwnL K H Z xs d ws f->∃ f',(∀ b∈f',b∈f)/\OwnL K H Z (xs.set k y) d (ws.set k w) f'
 | [],ws,f,k,h=>by
  rw [OwnL] at h;obtain ⟨rfl,rfl⟩:=h;refine ⟨[],λ _ z=>z,?_⟩;rw [Yq,Yq,OwnL];exact ⟨rfl,rfl⟩
 | x::xs,ws,f,0,h=>by
  rw [OwnL] at h;obtain ⟨v,s,f1,f2,rfl,rfl,dj,h1,h2⟩:=h;refine ⟨f2,λ b hb=>BJ _ hb,?_⟩;rw [YD,YD,OwnL];exact ⟨w,s,[],f2,rfl,rfl,λ _ z=>(nomatch z),hy,h2⟩
 | x::xs,ws,f,k + 1,h=>by
  rw [OwnL] at h;obtain ⟨v,s,f1,f2,rfl,rfl,dj,h1,h2⟩:=h;obtain ⟨f',hs,h'⟩:=h2.set hy k;refine ⟨f1++f',λ b hb=>(jd7.mp hb).elim (λ z=>BP _ z) λ z=>BJ _ (hs b z),?_⟩;rw [SA,SA,OwnL];exact ⟨v,s.set k w,f1,f',rfl,rfl,λ b hb hc=>dj b hb (hs b hc),h1,h'⟩
theorem Own.atom {K:Frag}{Z Z':Addr->Prop}{y:PV}{d d':Nat}{w:V}{fp:List Addr} (hy:O1 y=true) (h:Own K H Z y d w fp):fp=[]/\Own K H Z' y d' w []:=by
 cases y with
 | lst _=>cases hy
 | tup _=>cases hy
 | dct _=>cases hy
 | dcl _ _=>cases hy
 | exn _=>rw [Own] at h ⊢;exact ⟨h.1,rfl,h.2⟩
 | emp=>rw [Own] at h ⊢;exact ⟨h.1,rfl,h.2⟩
 | dko=>rw [Own] at h ⊢;exact ⟨h.1,rfl,h.2⟩
 | scr _=>rw [Own] at h ⊢;exact ⟨h.1,rfl,h.2⟩
 | non=>rw [Own] at h ⊢;exact ⟨h.2,h.1,rfl⟩
 | bl _=>rw [Own] at h ⊢;exact ⟨h.2,h.1,rfl⟩
 | int _=>rw [Own] at h ⊢;exact ⟨h.2,h.1,rfl⟩
 | str _=>rw [Own] at h ⊢;exact ⟨h.2,h.1,rfl⟩
end
section
variable {is:List Nat}{M:Fm}{ρ ρ':Ae}{σ σ':St}{H H' H'':Hp}{fps fps' fps'':AN}{vs vs':List Nat}
def Rep.plus0 (hal:∀ i,∀ j∈M.al i,M.Ms j=false) (r:Rep M ρ σ H fps):Rep (M.plus []) ρ σ H fps:=r.wide hal KD.refl Agr.refl r (λ _ z=>nomatch z)
def CN (M:Fm) (al is:List Nat) (g:TG) (asg:PV->Ae->Option Ae):Prop:=∀ y v ρ σ H fps ρ' (Q:St->Hp->Prop),Rep M ρ σ H fps->Own M.K H (Zv M al fps) y 0 v []->asg y ρ=some ρ'->(∀ σ' fps',(∀ i,∀ a∈fps' i,a∈fps i)->(∀ i,i∉is->ρ'[i]?=ρ[i]?/\fps' i=fps i/\σ'[i]?=σ[i]?)->ρ'.length=ρ.length->Rep M ρ' σ' H fps'->Q σ' H)->g v σ H Q
def asgN (i:Nat):PV->Ae->Option Ae:=λ y ρ=>if i < ρ.length then some (ρ.set i (some (y,dv y))) else none
def Own.dv {K:Frag}{Z:Addr->Prop}{x:PV}{v:V} (h:Own K H Z x 0 v []):Own K H Z x (dv x) v []:=Own.view (fp:=[]) (λ _ z=>z) (λ _ z=>nomatch z) h
structure Bd (M:Fm) (al:List Nat) (i:Nat):Prop where
 ms:M.Ms i=false
 io:M.Fre i
 al:M.al i=al
 als:∀ i,∀ j∈M.al i,M.Ms j=false
def Rep.bind1 {al:List Nat}{i:Nat}{y:PV}{v:V} (r:Rep M ρ σ H fps) (o:Own M.K H (Zv M al fps) y 0 v []) (hi:i < ρ.length) (b:Bd M al i):
  Rep M (ρ.set i (some (y,dv y))) (σ.set i (some v)) H (λ j=>if j=i then [] else fps j):=by
 refine (r.plus0 b.als).put (o.dv.weak λ a h=>h.elim (λ h=>?_) λ z=>nomatch z) (λ _ z=>nomatch z) hi (λ h=>by rw [b.ms] at h;cases h) b.io;rcases h with h | ⟨j,nj,h⟩
 ·exact .inl h
 ·exact .inr ⟨j,by rw [b.al] at nj;exact nj,h⟩
def Rj {al:List Nat}{i:Nat} (b:Bd M al i):CN M al [i] (Fe i) (asgN i):=by
 intro y v ρ σ H fps ρ' Q r o e q;unfold asgN at e;split at e
 ·rename_i hi;cases e;refine q _ _ (λ j a ha=>?_) (λ j nj=>?_) (by rw [DN]) (r.bind1 o hi b)
  ·by_cases e:j=i
   ·simp only [if_pos e] at ha;cases ha
   ·simp only [if_neg e] at ha;exact ha
  ·have e:j≠i:=λ e=>nj (by simp [e]);exact ⟨CV (Cb e),if_neg e,CV (Cb e)⟩
 ·cases e
def JV:List Nat->Iz
 | []=>Mt
 | i::is=>U5 (Fe i) (JV is)
def CA:List Nat->List PV->Ae->Option Ae
 | [],[],ρ=>some ρ
 | i::is,y::ys,ρ=>(asgN i y ρ).bind (CA is ys)
 | _,_,_=>none
def asgT (is:List Nat):PV->Ae->Option Ae:=λ y ρ=>match y with
 | .tup ys=>CA is ys ρ
 | _=>none
theorem VW {al:List Nat}:∀ (is:List Nat) (ys:List PV) (ws:List V) (ρ:Ae) (σ:St) (H:Hp) (fps:AN) (ρ':Ae) (Q:St->Hp->Prop),(∀ i∈is,Bd M al i)->Rep M ρ σ H fps->OwnL M.K H (Zv M al fps) ys 0 ws []->CA is ys ρ=some ρ' ->
  (∀ σ' fps',(∀ i,∀ a∈fps' i,a∈fps i)->(∀ i,i∉is->ρ'[i]?=ρ[i]?/\fps' i=fps i/\σ'[i]?=σ[i]?)->ρ'.length=ρ.length->Rep M ρ' σ' H fps'->Q σ' H)->ws.length=is.length/\JV is ws σ H Q
 | [],[],ws,ρ,σ,H,fps,ρ',Q,_,r,o,e,q=>by
  rw [OwnL] at o;obtain ⟨rfl,_⟩:=o;cases e;exact ⟨rfl,rfl,q σ fps (λ _ _ h=>h) (λ _ _=>⟨rfl,rfl,rfl⟩) rfl r⟩
 | [],_::_,_,_,_,_,_,_,_,_,_,_,e,_=>by cases e
 | _::_,[],_,_,_,_,_,_,_,_,_,_,e,_=>by cases e
 | i::is,y::ys,ws,ρ,σ,H,fps,ρ',Q,hs,r,o,e,q=>by
  rw [OwnL] at o;obtain ⟨v,s,f1,f2,rfl,ef,_,o1,o2⟩:=o;obtain ⟨rfl,rfl⟩:f1=[]/\f2=[]:=by simpa using ef.symm
  unfold CA at e;cases e1:asgN i y ρ with
  | none=>rw [e1] at e;cases e
  | some ρ1=>
   rw [e1] at e;unfold asgN at e1;split at e1
   ·rename_i hi;cases e1;have bi:=hs i AF;have r':=r.bind1 o1 hi bi;have sub:∀ j a,a∈(λ j=>if j=i then [] else fps j) j->a∈fps j:=λ j a z=>by
     by_cases ej:j=i
     ·simp only [if_pos ej] at z;cases z
     ·simp only [if_neg ej] at z;exact z
    have o2':OwnL M.K H (Zv M al (λ j=>if j=i then [] else fps j)) ys 0 s []:=o2.weak λ a h=>h.elim .inl λ ⟨j,nj,z⟩=>.inr ⟨j,nj,sub j a z⟩;obtain ⟨hl,hg⟩:=VW is ys s _ _ H _ ρ' Q (λ j hj=>hs j (AH _ hj)) r' o2' e λ σ' fps' k' a' l' r''=>q σ' fps' (λ j a ha=>sub j a (k' j a ha)) (λ j hj=>by
     have ej:j≠i:=λ e=>hj (by rw [e];exact AF);obtain ⟨z1,z2,z3⟩:=a' j λ z=>hj (AH _ z);rw [if_neg ej] at z2;exact ⟨z1.trans (CV (Cb ej)),z2,z3.trans (CV (Cb ej))⟩) (l'.trans (by rw [DN])) r''
    exact ⟨by rw [Ba,Ba,hl],v,s,rfl,hg⟩
   ·cases e1
def QN {al:List Nat}{is:List Nat} (hs:∀ i∈is,Bd M al i):CN M al is (J5 M.K is.length (JV is)) (asgT is):=by
 intro y v ρ σ H fps ρ' Q r o e q;unfold asgT at e;split at e
 ·rename_i ys;rw [Own] at o;obtain ⟨a,ws,rfl,hr,ol⟩:=o;obtain ⟨hl,hg⟩:=VW is ys ws ρ σ H fps ρ' Q hs r ol e q;exact ⟨a,ws,rfl,.inl (.inl hr),hl,hg⟩
 ·cases e
def BS (asg:PV->Ae->Option Ae) (body:Fs):List PV->Ae->Rs
 | [],ρ=>.nx ρ
 | x::xs,ρ=>match asg x ρ with
  | none=>.no
  | some ρ1=>match body ρ1 with
   | .nx ρ2=>BS asg body xs ρ2
   | .ct ρ2=>BS asg body xs ρ2
   | .bk ρ2=>.nx ρ2
   | .rt x d ρ2=>.rt x d ρ2
   | .exc c=>.exc c
   | .no=>.no
def Gk {g:TG}{asg:PV->Ae->Option Ae}{body:Fs}{D:Ends}{J:It}{els:List PV}{Pq:Hp->AN->Prop} (hg:CN M [] is g asg)
  (hP:∀ {ρ σ H fps H' fps'},Rep M ρ σ H fps->KS M H fps H' fps'->Pq H fps->Pq H' fps') (hgo:∀ {H fps i},Pq H fps->i < els.length->J.go i H) (hst:∀ {H fps i},Pq H fps->els.length<=i->J.stop i H)
  (hy:∀ {ρ σ H fps i x H'},Rep M ρ σ H fps->Pq H fps->i < els.length->J.yld i H x H'->(∀ a o,H a=some o->H' a=some o)/\∃ y,els[i]?=some y/\Own M.K H' (Zf M fps) y 0 x [])
  (rep:Rep M ρ σ H fps) (p:Pq H fps) (q:RsOk M D H fps (BS asg body els ρ)):
  ∃ W:Nat->Nat->St->Hp->Prop,(∃ m,W 0 m σ H)/\∀ i m σ H,W i m σ H ->
   (J.stop i H/\D.nx σ H)\/(J.go i H/\∃ N:St->Hp->Prop,(∀ σ' H',N σ' H'->∃ m',m' < m/\W (i + 1) m' σ' H')/\∀ x H',J.yld i H x H'->g x σ H' λ σ2 H2=>(tS M body) { D with nx:=N,ct:=N,bk:=D.nx } σ2 H2):=by
 let W:Nat->Nat->St->Hp->Prop:=λ i m σ H=>m=els.length - i/\∃ ρ fps,Rep M ρ σ H fps/\Pq H fps/\RsOk M D H fps (BS asg body (els.drop i) ρ);refine ⟨W,⟨els.length,by simp,ρ,fps,rep,p,by simpa using q⟩,?_⟩;rintro i m σ H ⟨rfl,ρ,fps,r,p,q⟩;by_cases hi:i < els.length
 ·right
  refine ⟨hgo p hi,W (i + 1) (els.length - (i + 1)),λ σ' H' w=>⟨_,by omega,w⟩,λ x H' y=>?_⟩;obtain ⟨kx,z,ez,oz⟩:=hy r p hi y;have k0:KS M H fps H' fps:=(KD.grow kx).ks;have p:=hP r k0 p;have r:=r.grow kx;have q:=RsOk.from k0 q;have ed:els.drop i=z::els.drop (i + 1):=by
   obtain ⟨h1,h2⟩:=jb1.mp ez;rw [<- h2];exact SJ h1
  rw [ed] at q;unfold BS at q;cases ea:asg z ρ with
  | none=>rw [ea] at q;exact q.elim
  | some ρ1=>
   rw [ea] at q;dsimp only at q;refine hg z x ρ σ _ fps ρ1 _ r (oz.weak λ a h=>h.zf) ea λ σ1 fps1 s1 _ _ r1=>⟨ρ1,fps1,r1,?_⟩
   have k1:KS M H' fps H' fps1:=⟨λ _ _ h _=>h,λ _ h=>h,λ j a ha=>.inl ⟨j,s1 j a ha⟩⟩
   have p1:=hP r k1 p;cases eb:body ρ1 with
   | no=>rw [eb] at q;exact q
   | exc c=>rw [eb] at q;exact RsOk.from (r:=.exc c) k1 q
   | rt x d ρ2=>rw [eb] at q;exact RsOk.from (r:=.rt x d ρ2) k1 q
   | bk ρ2=>rw [eb] at q;exact λ σ' H' fps' k=>q σ' H' fps' (k1.trans k)
   | nx ρ2=>rw [eb] at q;exact λ σ' H' fps' k r'=>⟨rfl,ρ2,fps',r',hP r1 k p1,RsOk.from (k1.trans k) q⟩
   | ct ρ2=>rw [eb] at q;exact λ σ' H' fps' k r'=>⟨rfl,ρ2,fps',r',hP r1 k p1,RsOk.from (k1.trans k) q⟩
 ·left
  have ed:els.drop i=[]:=YN (by omega);rw [ed] at q;exact ⟨hst p (by omega),q σ H fps KS.refl r⟩
def Fz (lo:Int) (n:Nat):List PV:=(Aq n).map λ (i:Nat)=>PV.int (lo + (i:Int))
def JI (lo:Int) (n:Nat):(Fz lo n).length=n:=by simp [Fz]
def AY:List (PV×Nat)->Option (Int×Int)
 | [(.int j,_)]=>if -(2 ^ 62)<=j/\j < 2 ^ 62 then some (0,j) else none
 | _=>none
def EA:List (PV×Nat)->Option (Int×Int)
 | [(.int i,_),(.int j,_)]=>if -(2 ^ 62)<=i/\i < 2 ^ 62/\-(2 ^ 62)<=j/\j < 2 ^ 62 then some (i,j) else none
 | _=>none
def CQ (en:List (PV×Nat)->Option (Int×Int)) (fa:Fa) (asg:PV->Ae->Option Ae) (body:Fs):Fs:=λ ρ=>match fa ρ with
 | .ok (xs,ρ1)=>(match en xs with
  | some (i,j)=>BS asg body (Fz i (j - i).toNat) ρ1
  | none=>.no)
 | .exc c=>.exc c
 | .no=>.no
def Tx {g:TG}{asg:PV->Ae->Option Ae}{body:Fs}{D:Ends}{lo:Int}{n:Nat} (hg:CN M [] is g asg) (rep:Rep M ρ σ H fps) (q:RsOk M D H fps (BS asg body (Fz lo n) ρ)):
  ∃ W:Nat->Nat->St->Hp->Prop,(∃ m,W 0 m σ H)/\∀ i m σ H,W i m σ H ->
   ((GO lo n).stop i H/\D.nx σ H)\/((GO lo n).go i H/\∃ N:St->Hp->Prop,(∀ σ' H',N σ' H'->∃ m',m' < m/\W (i + 1) m' σ' H')/\∀ x H',(GO lo n).yld i H x H'->g x σ H' λ σ2 H2=>(tS M body) { D with nx:=N,ct:=N,bk:=D.nx } σ2 H2):=by
 refine Gk (Pq:=λ _ _=>True) hg (λ _ _ _=>trivial) (λ {H fps i} _ h=>?_) (λ {H fps i} _ h=>?_) (λ {ρ σ H fps i x H'} _ _ h y=>?_) rep trivial q
 ·rw [JI] at h;exact h
 ·rw [JI] at h;exact h
 ·rw [JI] at h;obtain ⟨e1,e2⟩:=y;subst e1;exact ⟨λ _ _ h=>h,.int (lo + i),by simp [Fz,h],by rw [e2,Own];exact ⟨rfl,rfl⟩⟩
theorem Wz {g:TG}{asg:PV->Ae->Option Ae}{body:Fs}{fa:Fa}{D:Ends} (hg:CN M [] is g asg) (hq:tS M (CQ AY fa asg body) D σ H):Dr (Ow (tL M fa vs)) g (tS M body) D σ H:=by
 obtain ⟨ρ,fps,rep,q⟩:=hq;refine ⟨ρ,fps,rep,?_⟩;unfold CQ at q;cases ef:fa ρ with
 | no=>rw [ef] at q;exact q
 | exc c=>rw [ef] at q;exact λ H' fps' k=>q _ H' fps' k.ks
 | ok p=>
  obtain ⟨xs,ρ1⟩:=p;rw [ef] at q;intro ws H1 fps1 f1 k1 g1 rep1 o1 t1;dsimp only at q;cases ee:AY xs with
  | none=>rw [ee] at q;exact q.elim
  | some ij=>
   obtain ⟨i,j⟩:=ij;rw [ee] at q;unfold AY at ee;split at ee
   ·rename_i j' d;split at ee
    ·rename_i hb;cases ee;obtain ⟨v,r,f1,f2,rfl,_,_,h1,h2⟩:=o1;obtain ⟨rfl,_⟩:=h2;rw [Own] at h1;obtain ⟨rfl,_⟩:=h1;refine ⟨j,rfl,hb.1,hb.2,?_⟩;have e:(j - 0).toNat=j.toNat:=by omega
     dsimp only at q;rw [e] at q;exact Tx hg rep1 (RsOk.from k1.ks q)
    ·cases ee
   ·cases ee
theorem W2 {g:TG}{asg:PV->Ae->Option Ae}{body:Fs}{fa:Fa}{D:Ends} (hg:CN M [] is g asg) (hq:tS M (CQ EA fa asg body) D σ H):Dr (Ox (tL M fa vs)) g (tS M body) D σ H:=by
 obtain ⟨ρ,fps,rep,q⟩:=hq;refine ⟨ρ,fps,rep,?_⟩;unfold CQ at q;cases ef:fa ρ with
 | no=>rw [ef] at q;exact q
 | exc c=>rw [ef] at q;exact λ H' fps' k=>q _ H' fps' k.ks
 | ok p=>
  obtain ⟨xs,ρ1⟩:=p;rw [ef] at q;intro ws H1 fps1 f1 k1 g1 rep1 o1 t1;dsimp only at q;cases ee:EA xs with
  | none=>rw [ee] at q;exact q.elim
  | some ij=>
   obtain ⟨i,j⟩:=ij;rw [ee] at q;unfold EA at ee;split at ee
   ·rename_i i' d j' d';split at ee
    ·rename_i hb;cases ee;obtain ⟨v,r,f1,f2,rfl,_,_,h1,h2⟩:=o1;obtain ⟨v2,r2,f3,f4,rfl,_,_,h3,h4⟩:=h2;obtain ⟨rfl,_⟩:=h4;rw [Own] at h1 h3;obtain ⟨rfl,_⟩:=h1;obtain ⟨rfl,_⟩:=h3;exact ⟨i,j,rfl,hb,Tx hg rep1 (RsOk.from k1.ks q)⟩
    ·cases ee
   ·cases ee
def FE (z:Str):List PV:=z.cps.toList.map λ c=>.str ⟨#[c]⟩
def EC (f:Fx) (vs:List Nat) (asg:PV->Ae->Option Ae) (body:Fs):Fs:=λ ρ=>match f ρ with
 | .ok (.str z,d,ρ1)=>if O0 z=true then BS asg body (FE z) (AZ d vs ρ1) else .no
 | .ok (.lst xs,d,ρ1)=>BS asg body xs (AZ d vs ρ1)
 | .ok (.tup xs,d,ρ1)=>BS asg body xs (AZ d vs ρ1)
 | .ok _=>.no
 | .exc c=>.exc c
 | .no=>.no
theorem OwnL.get {K:Frag}{Z:Addr->Prop}:∀ {xs:List PV}{ws:List V}{i:Nat}{w:V},OwnL K H Z xs 0 ws []->ws[i]?=some w->∃ x,xs[i]?=some x/\Own K H Z x 0 w []
 | [],ws,i,w,h,e=>by
  rw [OwnL] at h;obtain ⟨rfl,_⟩:=h;simp at e
 | x::xs,ws,i,w,h,e=>by
  rw [OwnL] at h;obtain ⟨v,s,f1,f2,rfl,ef,_,o1,o2⟩:=h;obtain ⟨rfl,rfl⟩:f1=[]/\f2=[]:=by simpa using ef.symm
  cases i with
  | zero=>simp at e;subst e;exact ⟨x,by simp,o1⟩
  | succ i=>obtain ⟨y,e1,e2⟩:=o2.get (i:=i) (w:=w) (by simpa using e);exact ⟨y,by simpa using e1,e2⟩
def Rep.seen {x:PV}{d:Nat}{v:V}{fp:List Addr} (rep:Rep M ρ σ H fps) (k:KD M H fps H' fps') (g:Agr M ρ ρ') (r':Rep M ρ' σ H' fps') (o:Own M.K H' (Zt M vs fps' fp) x d v fp) (t:Temp M vs H H' fps' fp)
  (hal:∀ i,M.al i=[]) (hv:∀ i∈vs,M.Ms i=false):∃ fps2,KS M H fps H' fps2/\Rep M (AZ d vs ρ') σ H' fps2/\Own M.K H' (Zf M fps2) x 0 v []:=by
 unfold AZ;by_cases hd:d=om
 ·rw [if_pos hd];rw [hd] at o;exact ⟨fps',k.ks,r',Own.freeze (λ _ z=>z) x om v fp (λ a ha=>t.ndj a ha) (Own.full x v fp o)⟩
 ·rw [if_neg hd];exact ⟨DY vs fps',k.ks.cool,r'.cool hal hv,Own.freeze (λ a h=>.inl (Ic h)) x d v fp (λ a ha z=>t.ndj a ha (Ic z).zf) o⟩
theorem RS {g:TG}{asg:PV->Ae->Option Ae}{body:Fs}{f:Fx}{D:Ends} (hal:∀ i,M.al i=[]) (hv:∀ i∈vs,M.Ms i=false) (hg:CN M [] is g asg) (hq:tS M (EC f vs asg body) D σ H):Dr (Em M.K (tE M f vs)) g (tS M body) D σ H:=by
 obtain ⟨ρ,fps,rep,q⟩:=hq;refine ⟨ρ,fps,rep,?_⟩;unfold EC at q;cases ef:f ρ with
 | no=>rw [ef] at q;exact q
 | exc c=>rw [ef] at q;exact λ H' fps' k=>q _ H' fps' k.ks
 | ok p=>
  obtain ⟨x,d,ρ1⟩:=p;rw [ef] at q;intro v H1 fps1 f1 k1 g1 rep1 o1 t1;obtain ⟨fps2,k2,r2,o2⟩:=Rep.seen rep k1 g1 rep1 o1 t1 hal hv;cases x with
  | lst xs=>
   have o2':=o2;rw [Own] at o2';obtain ⟨a,ws,rfl,⟨_,hr,_,ol⟩ | ⟨h,_⟩⟩:=o2'
   ·have sq:Bl M.K H1 a ws:=.inl (.inl hr.1);refine .inl ⟨a,rfl,.inl ⟨⟨ws,sq⟩,?_⟩⟩;have one:∀ {H:Hp}{fps:AN},Own M.K H (Zf M fps) (.lst xs) 0 (.ref a) []->∃ ws,Bl M.K H a ws/\OwnL M.K H (Zf M fps) xs 0 ws []:=λ o=>by
     rw [Own] at o;obtain ⟨b,ws,e,⟨_,hr,_,ol⟩ | ⟨h,_⟩⟩:=o
     ·cases e;exact ⟨ws,.inl (.inl hr.1),ol⟩
     ·exact absurd rfl h
    refine Gk (Pq:=λ H fps=>Own M.K H (Zf M fps) (.lst xs) 0 (.ref a) []) (els:=xs) hg (λ r k o=>k.stay0 r o) (λ {H fps i} o h=>?_) (λ {H fps i} o h=>?_) (λ {ρ σ H fps i x H'} _ o h y=>?_) r2 o2 (RsOk.from k2 q)
    ·obtain ⟨ws,s,ol⟩:=one o;exact ⟨ws,ws[i]'(by rw [ol.length];exact h),s,by simp⟩
    ·obtain ⟨ws,s,ol⟩:=one o;exact ⟨ws,s,by rw [ol.length];exact h⟩
    ·obtain ⟨ws,s,ol⟩:=one o;obtain ⟨e1,e2⟩:=y;subst e1;exact ⟨λ _ _ h=>h,ol.get (e2 ws s)⟩
   ·exact absurd rfl h
  | tup xs=>
   have o2':=o2;rw [Own] at o2';obtain ⟨a,ws,rfl,hr,ol⟩:=o2';refine .inl ⟨a,rfl,.inr ⟨⟨ws,.inl (.inl hr)⟩,?_⟩⟩;have one:∀ {H:Hp}{fps:AN},Own M.K H (Zf M fps) (.tup xs) 0 (.ref a) []->∃ ws,CM M.K H a ws/\OwnL M.K H (Zf M fps) xs 0 ws []:=λ o=>by
    rw [Own] at o;obtain ⟨b,ws,e,hr,ol⟩:=o;cases e;exact ⟨ws,.inl (.inl hr),ol⟩
   refine Gk (Pq:=λ H fps=>Own M.K H (Zf M fps) (.tup xs) 0 (.ref a) []) (els:=xs) hg (λ r k o=>k.stay0 r o) (λ {H fps i} o h=>?_) (λ {H fps i} o h=>?_) (λ {ρ σ H fps i x H'} _ o h y=>?_) r2 o2 (RsOk.from k2 q)
   ·obtain ⟨ws,s,ol⟩:=one o;exact ⟨ws,ws[i]'(by rw [ol.length];exact h),s,by simp⟩
   ·obtain ⟨ws,s,ol⟩:=one o;exact ⟨ws,s,by rw [ol.length];exact h⟩
   ·obtain ⟨ws,s,ol⟩:=one o;obtain ⟨e1,e2⟩:=y;subst e1;exact ⟨λ _ _ h=>h,ol.get (e2 ws s)⟩
  | str z=>
   have o2':=o2;rw [Own] at o2';obtain ⟨rfl,_⟩:=o2';dsimp only at q;split at q
   ·rename_i ha;refine .inr ⟨z,rfl,ha,?_⟩;have hl:(FE z).length=z.cps.size:=by unfold FE;rw [AG,Ir]
    refine Gk (Pq:=λ _ _=>True) (els:=FE z) hg (λ _ _ _=>trivial) (λ {H fps i} _ h=>?_) (λ {H fps i} _ h=>?_) (λ {ρ σ H fps i x H'} _ _ h y=>?_) r2 trivial (RsOk.from k2 q)
    ·show i < z.cps.size;omega
    ·show z.cps.size<=i;omega
    ·obtain ⟨rfl,c,hc,rfl⟩:=y;refine ⟨λ _ _ h=>h,.str ⟨#[c]⟩,?_,by rw [Own];exact ⟨rfl,rfl⟩⟩;unfold FE;rw [BW,OS,hc];rfl
   ·exact q.elim
  | _=>exact q.elim
end
section
variable {M:Fm}{ρ ρ':Ae}{σ σ':St}{H H' H'':Hp}{fps fps' fps'':AN}{vs vs':List Nat}
def Fm.comp (M:Fm) (D:Addr) (n:Nat) (vI:List Nat):Fm:={ M.plus [D] with W:=λ _ _ _=>False,al:=λ j=>if j < n then M.al j else vI }
def Rep.minus {fp:List Addr} (r:Rep (M.plus fp) ρ σ H fps):Rep M ρ σ H fps where
 own:=λ i x d e=>let ⟨v,h1,h2⟩:=r.own i x d e;⟨v,h1,h2.weak λ a h=>h.elim (λ h=>.inl (.inl h)) .inr⟩
 non:=r.non
 dj:=r.dj
 zo:=λ i a ha z=>r.zo i a ha (.inl z)
 fr:=r.fr
 zd:=λ a z=>r.zd a (.inl z)
 len:=r.len
 msf:=r.msf
 h0:=r.h0
 iov:=r.iov
def Rep.far (r:Rep M ρ σ H fps) {j:Nat} (h:ρ.length<=j):fps j=[]:=r.non j λ p e=>by
 rw [jj4.mpr h] at e;cases e
def Rep.ext {D:Addr}{k:Nat}{vI:List Nat} (r:Rep (M.plus [D]) ρ σ H fps):Rep (M.comp D ρ.length vI) (ρ++AB k none) (σ++AB k none) H fps where
 own:=λ i x d e=>by
  by_cases hi:i < ρ.length
  ·rw [CF hi] at e;obtain ⟨v,h1,h2⟩:=r.own i x d e;refine ⟨v,by rw [CF (by rw [<- r.len];exact hi)];exact h1,h2.weak λ a h=>?_⟩;rcases h with h | ⟨j,nj,h⟩
   ·exact .inl h
   ·refine .inr ⟨j,?_,h⟩
    have:(M.comp D ρ.length vI).al i=M.al i:=if_pos hi
    rw [this] at nj;exact nj
  ·rw [FZ (by omega),DP] at e;split at e <;> cases e
 non:=λ i h=>by
  by_cases hi:i < ρ.length
  ·exact r.non i λ p e=>h p (by rw [CF hi];exact e)
  ·exact r.far (by omega)
 dj:=r.dj
 zo:=r.zo
 fr:=r.fr
 zd:=r.zd
 len:=by simp [r.len]
 msf:=λ i x d hm e=>by
  by_cases hi:i < ρ.length
  ·rw [CF hi] at e;exact r.msf i x d hm e
  ·rw [FZ (by omega),DP] at e;split at e <;> cases e
 h0:=r.h0
 iov:=⟨λ v hv=>by
  have h:=r.iov.1 v hv;refine ⟨?_,h.2⟩
  have:0 < σ.length:=(jb1.mp h.1).1
  rw [CF this];exact h.1,λ p hp=>by
  have h:=r.iov.2 p hp;rw [CF (jb1.mp h).1];exact h⟩
def DW (n:Nat) (fps:AN):AN:=λ j=>if j < n then fps j else []
def GY {n i:Nat}{a:Addr} (h:a∈DW n fps i):a∈fps i/\i < n:=by
 unfold DW at h;split at h
 ·rename_i hi;exact ⟨h,hi⟩
 ·cases h
def Rep.take {D:Addr}{n:Nat}{vI:List Nat} (r:Rep (M.comp D n vI) ρ σ H fps) (hσ:∀ i,i < n->σ[i]?=σ'[i]?) (hl:σ'.length=n) (hn:n<=ρ.length) (hio:(M.io≠none->0 < n)/\∀ p∈M.pn,p.1 < n):Rep (M.plus [D]) (ρ.take n) σ' H (DW n fps) where
 own:=λ i x d e=>by
  have hi:i < n:=by
   have:=(jb1.mp e).1
   rw [FY] at this;omega
  rw [K0 hi] at e;obtain ⟨v,h1,h2⟩:=r.own i x d e;refine ⟨v,by rw [<- hσ i hi];exact h1,?_⟩
  have:DW n fps i=fps i:=if_pos hi
  rw [this];refine h2.weak λ a h=>?_;rcases h with h | ⟨j,nj,h⟩
  ·exact .inl h
  ·refine .inr ⟨j,?_,(GY h).1⟩
   have:(M.comp D n vI).al i=M.al i:=if_pos hi
   rw [this];exact nj
 non:=λ i h=>by
  unfold DW;split
  ·rename_i hi;exact r.non i λ p e=>h p (by rw [K0 hi];exact e)
  ·rfl
 dj:=λ i j hij a ha hb=>r.dj i j hij a (GY ha).1 (GY hb).1
 zo:=λ i a ha=>r.zo i a (GY ha).1
 fr:=λ i hi a ha=>r.fr i hi a (GY ha).1
 zd:=r.zd
 len:=by rw [FY,hl];omega
 msf:=λ i x d hm e=>by
  have hi:i < n:=by
   have:=(jb1.mp e).1
   rw [FY] at this;omega
  rw [K0 hi] at e;exact r.msf i x d hm e
 h0:=r.h0
 iov:=⟨λ v hv=>by
  have h:=r.iov.1 v hv;refine ⟨?_,h.2⟩;have h0:0 < n:=hio.1 (by
   have hv':M.io=some v:=hv;rw [hv'];simp)
  rw [<- hσ 0 h0];exact h.1,λ p hp=>by rw [<- hσ p.1 (hio.2 p hp)];exact r.iov.2 p hp⟩
def Rep.touch {D:Addr}{us ws:List V} (r:Rep (M.plus [D]) ρ σ H fps) (hD:H D=some (.lst ws)):Rep (M.plus [D]) ρ σ (Ap H D (.lst us)) fps:=by
 have zD:(M.plus [D]).Zo D:=.inr (by simp);have dm:∀ b,H b≠none->(Ap H D (.lst us)) b≠none:=λ b h=>by
  by_cases eb:b=D
  ·rw [eb,AV];simp
  ·rw [A8 eb];exact h
 exact ⟨λ i x d e=>let ⟨v,h1,h2⟩:=r.own i x d e;⟨v,h1,h2.at (.inl zD) ⟨.l ws,hD⟩ (λ z=>r.zo i D z zD) λ _ _ n=>n⟩,r.non,r.dj,r.zo,r.fr,λ a z=>dm a (r.zd a z),r.len,r.msf,λ a z=>dm a (r.h0 a z),r.iov⟩
theorem Tmps.snoc {K:Frag}{Z:Addr->Prop}{y:PV}{e:Nat}{w:V}{fe:List Addr} (hy:Own K H (λ a=>Z a\/a∈fe) y e w fe):∀ {xs:List (PV×Nat)}{ws:List V}{fp:List Addr},Tmps K H Z xs ws fp->(∀ a∈fp,a∉fe)->Tmps K H Z (xs++[(y,e)]) (ws++[w]) (fp++fe)
 | [],ws,fp,h,_=>by
  obtain ⟨rfl,rfl⟩:=h;exact ⟨w,[],fe,[],rfl,by simp,λ _ _ z=>(nomatch z),hy,rfl,rfl⟩
 | (x,d)::xs,ws,fp,h,hd=>by
  obtain ⟨v,s,f1,f2,rfl,rfl,dj,h1,h2⟩:=h;refine ⟨v,s++[w],f1,f2++fe,rfl,by rw [OO],λ a ha hb=>?_,h1,h2.snoc hy λ a ha=>hd a (BJ _ ha)⟩;rcases jd7.mp hb with z | z
  ·exact dj a ha z
  ·exact hd a (BP _ ha) z
theorem Tmps.at {K:Frag}{Z:Addr->Prop}{a:Addr}{o:HO} (hZ:Z a) (hl:∃ o:MO,H a=some o.ho):∀ {xs:List (PV×Nat)}{ws:List V}{fp:List Addr},Tmps K H Z xs ws fp->a∉fp->Tmps K (Ap H a o) Z xs ws fp
 | [],_,_,h,_=>h
 | (x,d)::xs,ws,fp,h,hf=>by
  obtain ⟨v,s,f1,f2,e1,rfl,dj,h1,h2⟩:=h;exact ⟨v,s,f1,f2,e1,rfl,dj,h1.at (.inl hZ) hl (λ z=>hf (BP _ z)) λ _ _ n=>n,h2.at hZ hl λ z=>hf (BJ _ z)⟩
theorem Tmps.lsts {K:Frag}{Z:Addr->Prop}:∀ {xs:List (PV×Nat)}{ws:List V}{fp:List Addr},Tmps K H Z xs ws fp->∀ a∈fp,∃ o:MO,H a=some o.ho
 | [],_,_,h,a,ha=>by rw [h.2] at ha;cases ha
 | (x,d)::xs,ws,fp,h,a,ha=>by
  obtain ⟨v,s,f1,f2,e1,rfl,dj,h1,h2⟩:=h;rcases jd7.mp ha with z | z
  ·exact Own.lsts x d v f1 h1 a z
  ·exact h2.lsts a z
def Rz.bindN {α β:Type} (r:Rz α) (f:α->Rz β):Rz β:=match r with
 | .ok a=>f a
 | _=>.no
def BY (k:Nat) (asg:PV->Ae->Option Ae) (test:Fb) (elt:Fx):List PV->Ae->List (PV×Nat)->Rz (List (PV×Nat)×Ae)
 | [],ρ,acc=>.ok (acc,ρ)
 | x::xs,ρ,acc=>match asg x (ρ++AB k none) with
  | none=>.no
  | some ρ1=>(test ρ1).bindN λ (b,ρ2)=>if b=true then (elt ρ2).bindN λ (y,e,ρ3)=>(if acc.length < A0 then BY k asg test elt xs (ρ3.take ρ.length) (acc++[(y,e)]) else .no) else BY k asg test elt xs (ρ2.take ρ.length) acc
def KD.seen {D:Addr}{x:PV}{v:V} (r:Rep M ρ σ H fps) (k:KD M H fps H' fps') (hD:H D=none) (hv:∀ i∈vs,M.Ms i=false) (o:Own M.K H (Zv M vs fps) x 0 v []):Own M.K H' (Zv (M.plus [D]) vs fps') x 0 v []:=by
 refine Own.move k.keep ?_ ?_ x 0 v [] (λ _ z=>nomatch z) o
 ·rintro a ⟨i,hi,ha⟩;exact ⟨.inr ⟨i,λ z=>(by rw [hv i z] at hi;cases hi),ha⟩,r.lsts ha⟩
 ·intro a hd nz z;rcases z with (z | z) | ⟨i,ni,hx⟩
  ·exact nz (.inl z)
  ·rw [jb7.mp z] at hd;exact hd hD
  ·rcases k.sub i a hx with z | z
   ·exact nz (.inr ⟨i,ni,z⟩)
   ·exact hd z
def IF {g:TG}{is vI vE vo:List Nat}{asg:PV->Ae->Option Ae}{test:Fb}{elt:Fx}{k:Nat}{J:It}{els:List PV}{Q:VK}{n:Nat}{P:Fm->Prop}
  (hP:∀ D,P (M.comp D n vI)) (hn:n=ρ.length) (hal:∀ i,∀ j∈M.al i,M.Ms j=false) (hvI:∀ i∈vI,M.Ms i=false) (hvE:∀ i∈vE,M.Ms i=false) (his:∀ i∈is,n<=i) (hg:∀ D,CN (M.comp D n vI) vI is g asg) (hvo:∀ i,i∈vE->i < n->i∈vo) (hvo2:∀ i∈vo,M.Ms i=false)
  (rep:Rep M ρ σ H fps)
  (hgo:∀ {D H' fps' i},H D=none->KD M H fps H' fps'->i < els.length->J.go i H') (hst:∀ {D H' fps' i},H D=none->KD M H fps H' fps'->els.length<=i->J.stop i H')
  (hy:∀ {D H' fps' i x H''},H D=none->KD M H fps H' fps'->i < els.length->J.yld i H' x H''->(∀ a o,H' a=some o->H'' a=some o)/\∃ z,els[i]?=some z/\Own M.K H'' (Zv (M.plus [D]) vI fps') z 0 x [])
  (q:match BY k asg test elt els ρ [] with
   | .ok (acc,ρ')=>∀ D ws H' fps' fpl,KD M H fps H' fps'->Agr M ρ ρ'->Rep (M.plus [D]) ρ' σ H' fps'->H D=none->H' D=some (.lst ws)->Tmps M.K H' (Zv (M.plus [D]) vo fps') acc ws fpl->(∀ a∈fpl,H a=none/\¬ Zf (M.plus [D]) fps' a)->Q (.ref D) H'
   | _=>False):
  ∀ D,H D=none->∃ W:Nat->Nat->List V->Hp->Prop,(∃ m,W 0 m [] (Ap H D (.lst [])))/\∀ i m ys H1,W i m ys H1->H1 D=some (.lst ys) /\
   ((J.stop i H1/\Q (.ref D) H1)\/(J.go i H1/\∀ x H',J.yld i H1 x H'->g x (σ++AB k none) H' λ σ2 H2=>∃ M',P M'/\tT M' test σ2 H2 λ b H3=>if b=true then ∃ M',P M'/\tE M' elt vE σ2 H3 λ y H4=>H4 D=some (.lst ys)/\ys.length < A0/\∃ m',m' < m/\W (i + 1) m' (ys++[y]) (Ap H4 D (.lst (ys++[y]))) else ∃ m',m' < m/\W (i + 1) m' ys H3)):=by
 intro D hD;subst hn;let W:Nat->Nat->List V->Hp->Prop:=λ i m ys H1=>m=els.length - i/\∃ ρ1 fps1 acc fpl,Rep (M.plus [D]) ρ1 σ H1 fps1/\KD M H fps H1 fps1/\Agr M ρ ρ1/\Tmps M.K H1 (Zv (M.plus [D]) vo fps1) acc ys fpl/\(∀ a∈fpl,H a=none/\¬ Zf (M.plus [D]) fps1 a)/\H1 D=some (.lst ys)/\BY k asg test elt (els.drop i) ρ1 acc=BY k asg test elt els ρ [];have k0:KD M H fps (Ap H D (.lst [])) fps:=KD.grow λ a o h=>by rw [A8 (λ e=>by rw [e,hD] at h;cases h)];exact h
 have r0:Rep (M.plus [D]) ρ σ (Ap H D (.lst [])) fps:=by
  refine rep.wide hal k0 Agr.refl (rep.grow λ a o h=>by rw [A8 (λ e=>by rw [e,hD] at h;cases h)];exact h) λ a ha=>?_;rw [jb7.mp ha];exact ⟨hD,by rw [AV];simp,rep.nz hD⟩
 refine ⟨W,⟨els.length,by simp,ρ,fps,[],[],r0,k0,Agr.refl,⟨rfl,rfl⟩,λ _ z=>(nomatch z),AV,by simp⟩,?_⟩;rintro i m ys H1 ⟨rfl,ρ1,fps1,acc,fpl,r1,k1,g1,tm,hf,h1D,ec⟩;refine ⟨h1D,?_⟩;have hlen:ρ1.length=ρ.length:=g1.2;by_cases hi:i < els.length
 ·right
  refine ⟨hgo hD k1 hi,λ x H' hyl=>?_⟩;obtain ⟨kx,z,ez,oz⟩:=hy hD k1 hi hyl;have tm:=KD.stays (M:=M.plus [D]) (KD.grow kx) r1 hvo2 tm λ a ha=>(hf a ha).2;have r1:=r1.grow kx;have k1:=k1.trans (KD.grow (M:=M) (fps:=fps1) kx);have h1D:=kx D _ h1D;have ed:els.drop i=z::els.drop (i + 1):=by
   obtain ⟨h1,h2⟩:=jb1.mp ez;rw [<- h2];exact SJ h1
  rw [ed] at ec;have good:∃ a r,BY k asg test elt els ρ []=.ok (a,r):=by
   cases e:BY k asg test elt els ρ [] with
   | ok p=>exact ⟨p.1,p.2,rfl⟩
   | exc c=>rw [e] at q;exact q.elim
   | no=>rw [e] at q;exact q.elim
  obtain ⟨accF,ρF,eF⟩:=good;rw [eF] at ec;unfold BY at ec;cases ea:asg z (ρ1++AB k none) with
  | none=>rw [ea] at ec;cases ec
  | some ρ2=>
   rw [ea] at ec;dsimp only at ec;have rx:Rep (M.comp D ρ.length vI) (ρ1++AB k none) (σ++AB k none) H' fps1:=by rw [<- hlen];exact r1.ext
   refine hg D z x _ _ H' fps1 ρ2 _ rx oz ea λ σ2 fps2 s2 a2 l2 r2=>⟨_,hP D,ρ2,fps2,r2,?_⟩
   have hl2:ρ2.length=ρ.length + k:=by rw [l2,BI,El,hlen]
   have same2:∀ j,j < ρ.length->ρ2[j]?=ρ1[j]?/\fps2 j=fps1 j/\σ2[j]?=σ[j]?:=λ j hj=>by
    obtain ⟨z1,z2,z3⟩:=a2 j λ z=>absurd (his j z) (by omega);rw [CF (by omega)] at z1;rw [CF (by rw [<- rep.len];omega)] at z3;exact ⟨z1,z2,z3⟩
   have kd2:KD (M.comp D ρ.length vI) H' fps1 H' fps2->True:=λ _=>trivial;cases et:test ρ2 with
   | exc c=>rw [et] at ec;cases ec
   | no=>rw [et] at ec;cases ec
   | ok p=>
    obtain ⟨b,ρ3⟩:=p;rw [et] at ec;intro H3 fps3 k3 g3 r3;dsimp only [Rz.bindN] at ec;have far:∀ {ρ4:Ae}{H4:Hp}{fps4:AN},KD (M.comp D ρ.length vI) H' fps2 H4 fps4->Agr (M.comp D ρ.length vI) ρ2 ρ4->Rep (M.comp D ρ.length vI) ρ4 σ2 H4 fps4 ->
      KD M H fps H4 (DW ρ.length fps4)/\KD M H' fps1 H4 (DW ρ.length fps4)/\Agr M ρ (ρ4.take ρ.length)/\Rep (M.plus [D]) (ρ4.take ρ.length) σ H4 (DW ρ.length fps4)/\H4 D=some (.lst ys):=λ {ρ4 H4 fps4} k4 g4 r4=>by
     have kk:KD M H' fps1 H4 (DW ρ.length fps4):=by
      refine ⟨λ a o ha hn=>k4.keep a o ha λ ⟨j,hj,hx⟩=>hn ⟨j,hj,s2 j a hx⟩,k4.dom,λ j a ha=>?_,λ j hj=>?_⟩
      ·rcases k4.sub j a (GY ha).1 with z | z
       ·exact .inl (s2 j a z)
       ·exact .inr z
      ·unfold DW;by_cases hjl:j < ρ.length
       ·rw [if_pos hjl,k4.same j hj];exact (same2 j hjl).2.1
       ·rw [if_neg hjl];exact (r1.far (by omega)).symm
     refine ⟨k1.trans kk,kk,?_,r4.take (σ':=σ) (λ j hj=>(same2 j hj).2.2) rep.len.symm (by rw [g4.2,hl2];omega) ⟨λ hio=>?_,λ p hp=>by rw [rep.len];exact (jb1.mp (rep.iov.2 p hp)).1⟩,?_⟩
     ·refine ⟨λ j hj=>?_,by rw [FY,g4.2,hl2];omega⟩;by_cases hjl:j < ρ.length
      ·rw [K0 hjl,g4.1 j hj,(same2 j hjl).1];exact g1.1 j hj
      ·rw [jj4.mpr (by rw [FY];omega),jj4.mpr (by omega)]
     ·cases e:M.io with
      | none=>exact absurd e hio
      | some v=>
       have:=(jb1.mp (rep.iov.1 v e).1).1
       rw [rep.len];exact this
     ·exact k4.keep D _ h1D λ ⟨j,_,hx⟩=>r2.zo j D hx (.inr (by simp))
    have notZ:∀ {H4:Hp}{fps4:AN},KD M H' fps1 H4 fps4->∀ {a},a∈fpl->¬ Zf (M.plus [D]) fps4 a:=λ {H4 fps4} k4 a ha z=>by
     rcases z with z | ⟨j,z⟩
     ·exact (hf a ha).2 (.inl z)
     ·rcases k4.sub j a z with z | z
      ·exact (hf a ha).2 (.inr ⟨j,z⟩)
      ·obtain ⟨xs,e⟩:=tm.lsts a ha;rw [z] at e;cases e
    cases b with
    | false=>
     rw [if_neg Ck] at ec ⊢;obtain ⟨f1,f2,f3,f4,f5⟩:=far k3 g3 r3;refine ⟨els.length - (i + 1),by omega,rfl,ρ3.take ρ.length,DW ρ.length fps3,acc,fpl,f4,f1,f3,?_,λ a ha=>⟨(hf a ha).1,λ z=>?_⟩,f5,by rw [eF,<- hlen];exact ec⟩
     ·exact KD.stays (M:=M.plus [D]) (σ:=σ) (ρ:=ρ1) ⟨f2.keep,f2.dom,f2.sub,f2.same⟩ r1 hvo2 tm λ a ha=>(hf a ha).2
     ·exact notZ f2 ha z
    | true=>
     rw [if_pos rfl] at ec ⊢;refine ⟨_,hP D,ρ3,fps3,r3,?_⟩;cases ee:elt ρ3 with
     | exc c=>rw [ee] at ec;cases ec
     | no=>rw [ee] at ec;cases ec
     | ok p=>
      obtain ⟨y,e,ρ4⟩:=p;rw [ee] at ec;intro w H4 fps4 fe k4 g4 r4 o4 t4;dsimp only at ec;by_cases hz:acc.length < A0
      ·rw [if_pos hz] at ec;obtain ⟨f1,f2,f3,f4,f5⟩:=far (k3.trans k4) (g3.trans g4) r4;have tm4:Tmps M.K H4 (Zv (M.plus [D]) vo (DW ρ.length fps4)) acc ys fpl:=KD.stays (M:=M.plus [D]) (σ:=σ) (ρ:=ρ1) ⟨f2.keep,f2.dom,f2.sub,f2.same⟩ r1 hvo2 tm λ a ha=>(hf a ha).2;have zD:Zv (M.plus [D]) vo (DW ρ.length fps4) D:=.inl (.inr (by simp));have hDe:D∉fe:=λ z=>t4.ndj D z (.inl (.inr (by simp)));have hDl:D∉fpl:=λ z=>(hf D z).2 (.inl (.inr (by simp)));have oy:Own M.K H4 (λ a=>Zv (M.plus [D]) vo (DW ρ.length fps4) a\/a∈fe) y e w fe:=o4.weak λ a h=>h.elim (λ h=>.inl (h.elim .inl λ ⟨j,nj,hx⟩=>.inr ⟨j,λ z=>nj (hvo j z (GY hx).2),(GY hx).1⟩)) .inr;have back3:∀ a,H3 a=none->H' a=none:=λ a e=>by
        cases e':H' a with
        | none=>rfl
        | some o=>exact absurd e (k3.dom a (by rw [e'];simp))
       have back1:∀ a,H' a=none->H a=none:=λ a e=>by
        cases e':H a with
        | none=>rfl
        | some o=>exact absurd e (k1.dom a (by rw [e'];simp))
       have kt:KD M H fps (Ap H4 D (.lst (ys++[w]))) (DW ρ.length fps4):=⟨λ a o ha hn=>by rw [A8 (λ e=>by rw [e,hD] at ha;cases ha)];exact f1.keep a o ha hn,λ a ha=>by
        by_cases eb:a=D
        ·rw [eb,AV];simp
        ·rw [A8 eb];exact f1.dom a ha,f1.sub,f1.same⟩
       refine ⟨f5,by rw [tm.length];exact hz,els.length - (i + 1),by omega,rfl,ρ4.take ρ.length,DW ρ.length fps4,acc++[(y,e)],fpl++fe,f4.touch f5,kt,f3,?_,λ a ha=>?_,AV,by rw [eF,<- hlen];exact ec⟩
       ·exact (tm4.at zD ⟨.l ys,f5⟩ hDl).snoc (oy.at (.inl zD) ⟨.l ys,f5⟩ hDe λ _ _ n=>n) λ a ha hb=>by
         obtain ⟨xs,e⟩:=tm.lsts a ha;rw [back3 a (t4.new a hb)] at e;cases e
       ·rcases jd7.mp ha with z | z
        ·exact ⟨(hf a z).1,notZ f2 z⟩
        ·refine ⟨back1 a (back3 a (t4.new a z)),λ hz=>t4.ndj a z ?_⟩;rcases hz with hz | ⟨j,hz⟩
         ·exact .inl hz
         ·exact .inr ⟨j,(GY hz).1⟩
      ·rw [if_neg hz] at ec;cases ec
 ·left
  have ed:els.drop i=[]:=YN (by omega);rw [ed] at ec;rw [<- ec] at q;unfold BY at q;exact ⟨hst hD k1 (by omega),q D ys H1 fps1 fpl k1 g1 r1 hD h1D tm hf⟩
end
section
variable {M:Fm}{ρ ρ':Ae}{σ σ':St}{H H' H'':Hp}{fps fps' fps'':AN}{vs vs':List Nat}
def CB:List (PV×Nat)->Bool
 | []=>true
 | p::r=>(p.2 == om) && CB r
theorem KW:∀ {xs:List (PV×Nat)},CB xs=true->∀ p∈xs,p.2=om
 | [],_,_,h=>nomatch h
 | p::r,h,q,hq=>by
  unfold CB at h;rw [AS] at h;rcases jc3.mp hq with e | e
  ·rw [e];exact eq_of_beq h.1
  ·exact KW h.2 q e
def C4 (acc:List (PV×Nat)) (ρ:Ae):Rz (PV×Nat×Ae):=.ok (.lst (acc.map (·.1)),if CB acc then om else 1,ρ)
def Cf (f:Fx) (k:Nat) (asg:PV->Ae->Option Ae) (test:Fb) (elt:Fx):Fx:=λ ρ=>match f ρ with
 | .ok (.lst xs,_,ρ1)=>(BY k asg test elt xs ρ1 []).bindN λ (acc,ρ2)=>C4 acc ρ2
 | .ok (.tup xs,_,ρ1)=>(BY k asg test elt xs ρ1 []).bindN λ (acc,ρ2)=>C4 acc ρ2
 | .ok (.str z,_,ρ1)=>if O0 z=true then (BY k asg test elt (FE z) ρ1 []).bindN λ (acc,ρ2)=>C4 acc ρ2 else .no
 | .ok _=>.no
 | .exc c=>.exc c
 | .no=>.no
def Ca (en:List (PV×Nat)->Option (Int×Int)) (fa:Fa) (k:Nat) (asg:PV->Ae->Option Ae) (test:Fb) (elt:Fx):Fx:=λ ρ=>match fa ρ with
 | .ok (xs,ρ1)=>(match en xs with
  | some (i,j)=>(BY k asg test elt (Fz i (j - i).toNat) ρ1 []).bindN λ (acc,ρ2)=>C4 acc ρ2
  | none=>.no)
 | .exc c=>.exc c
 | .no=>.no
theorem Lb {D:Addr}{acc:List (PV×Nat)}{ws:List V}{fpl:List Addr}{vo:List Nat}{Q:VK}{H0:Hp}{fps0:AN}{ρ0:Ae}
  (rep0:Rep M ρ σ H fps) (k0:KD M H0 fps0 H fps) (g0:Agr M ρ0 ρ) (q:∀ v H' fps' fp,KD M H0 fps0 H' fps'->Agr M ρ0 ρ'->Rep M ρ' σ H' fps'->Own M.K H' (Zt M vo fps' fp) (.lst (acc.map (·.1))) (if CB acc then om else 1) v fp->Temp M vo H0 H' fps' fp->Q v H')
  (k:KD M H fps H' fps') (g:Agr M ρ ρ') (r:Rep (M.plus [D]) ρ' σ H' fps') (hD:H D=none) (hD':H' D=some (.lst ws)) (tm:Tmps M.K H' (Zv (M.plus [D]) vo fps') acc ws fpl) (hf:∀ a∈fpl,H a=none/\¬ Zf (M.plus [D]) fps' a):Q (.ref D) H':=by
 have back:∀ a,H a=none->H0 a=none:=λ a e=>by
  cases e':H0 a with
  | none=>rfl
  | some o=>exact absurd e (k0.dom a (by rw [e'];simp))
 have nD:¬ Zf M fps' D:=λ z=>by
  rcases z with z | ⟨j,z⟩
  ·exact rep0.zd D z hD
  ·exact r.zo j D z (.inr (by simp))
 have hDl:D∉fpl:=λ z=>(hf D z).2 (.inl (.inr (by simp)));have zt:∀ a,Zt M vo fps' [D] a->Zv (M.plus [D]) vo fps' a:=λ a h=>h.elim (λ h=>h.elim (λ h=>.inl (.inl h)) .inr) λ h=>.inl (.inr h);cases ho:CB acc with
 | true=>
  rw [ho] at q;refine q (.ref D) H' fps' (D::fpl) (k0.trans k) (g0.trans g) r.minus ?_ ⟨λ a ha=>?_,λ a ha=>?_⟩
  ·rw [Own];exact ⟨D,ws,rfl,.inr ⟨(by decide),fpl,hD',rfl,hDl,OwnL.full _ ws fpl (tm.all (KW ho))⟩⟩
  ·rcases jc3.mp ha with z | z
   ·rw [z];exact back D hD
   ·exact back a (hf a z).1
  ·rcases jc3.mp ha with z | z
   ·rw [z];exact nD
   ·exact λ y=>(hf a z).2 (y.elim (λ y=>.inl (.inl y)) .inr)
 | false=>
  rw [ho] at q;refine q (.ref D) H' fps' [D] (k0.trans k) (g0.trans g) r.minus ?_ ⟨λ a ha=>?_,λ a ha=>?_⟩
  ·show Own M.K H' (Zt M vo fps' [D]) (.lst (acc.map (·.1))) 1 (.ref D) [D];rw [Own];refine ⟨D,ws,rfl,.inr ⟨(by decide),[],hD',rfl,(λ z=>nomatch z),?_⟩⟩;rw [LP];exact (tm.cold λ a ha z=>(hf a ha).2 z.zf).weak zt
  ·rw [jb7.mp ha];exact back D hD
  ·rw [jb7.mp ha];exact nD
theorem X7 {g:TG}{is vI vE vo:List Nat}{asg:PV->Ae->Option Ae}{test:Fb}{elt f:Fx}{k n:Nat}{Q:VK}{P:Fm->Prop}
  (hn:σ.length=n) (hP:∀ D,P (M.comp D n vI)) (hal:∀ i,∀ j∈M.al i,M.Ms j=false) (hvI:∀ i∈vI,M.Ms i=false) (hvE:∀ i∈vE,M.Ms i=false) (his:∀ i∈is,n<=i) (hg:∀ D,CN (M.comp D n vI) vI is g asg)
  (hvo:∀ i,i∈vE->i < n->i∈vo) (hvo2:∀ i∈vo,M.Ms i=false) (hq:tE M (Cf f k asg test elt) vo σ H Q):
  Hk k (Em M.K (tE M f vI)) g (λ σ H Q=>∃ M',P M'/\tT M' test σ H Q) (λ σ H Q=>∃ M',P M'/\tE M' elt vE σ H Q) σ H Q:=by
 obtain ⟨ρ,fps,rep,q⟩:=hq;refine ⟨ρ,fps,rep,?_⟩;unfold Cf at q;cases ef:f ρ with
 | no=>rw [ef] at q;exact q
 | exc c=>rw [ef] at q;exact q
 | ok p=>
  obtain ⟨x,d,ρ1⟩:=p;rw [ef] at q;intro v H1 fps1 f1 k1 g1 rep1 o1 t1;have o0:Own M.K H1 (Zv M vI fps1) x 0 v []:=Own.freeze (λ _ z=>.inl z) x d v f1 (λ a ha z=>t1.ndj a ha z.zf) o1;have hl:n=ρ1.length:=by rw [rep1.len];exact hn.symm
  have fin:∀ (els:List PV),(match (BY k asg test elt els ρ1 []).bindN λ (acc,ρ2)=>C4 acc ρ2 with
    | .ok (x,d,ρ')=>∀ v H' fps' fp,KD M H fps H' fps'->Agr M ρ ρ'->Rep M ρ' σ H' fps'->Own M.K H' (Zt M vo fps' fp) x d v fp->Temp M vo H H' fps' fp->Q v H'
    | .exc c=>∀ H' fps',KD M H fps H' fps'->M.W σ c H'
    | .no=>False)->(match BY k asg test elt els ρ1 [] with
    | .ok (acc,ρ')=>∀ D ws H' fps' fpl,KD M H1 fps1 H' fps'->Agr M ρ1 ρ'->Rep (M.plus [D]) ρ' σ H' fps'->H1 D=none->H' D=some (.lst ws)->Tmps M.K H' (Zv (M.plus [D]) vo fps') acc ws fpl->(∀ a∈fpl,H1 a=none/\¬ Zf (M.plus [D]) fps' a)->Q (.ref D) H'
    | _=>False):=λ els q=>by
   cases ec:BY k asg test elt els ρ1 [] with
   | no=>rw [ec] at q;exact q.elim
   | exc c=>rw [ec] at q;exact q.elim
   | ok p=>
    obtain ⟨acc,ρ2⟩:=p;rw [ec] at q;exact λ D ws H' fps' fpl k g r hD hD' tm hf=>Lb rep1 k1 g1 q k g r hD hD' tm hf
  cases x with
  | lst xs=>
   have one:∀ {Z:Addr->Prop}{H:Hp},Own M.K H Z (.lst xs) 0 v []->∃ a ws,v=.ref a/\Bl M.K H a ws/\OwnL M.K H Z xs 0 ws []:=λ o=>by
    rw [Own] at o;obtain ⟨b,ws,e,⟨_,hr,_,ol⟩ | ⟨h,_⟩⟩:=o
    ·exact ⟨b,ws,e,.inl (.inl hr.1),ol⟩
    ·exact absurd rfl h
   obtain ⟨a,ws,rfl,sq,ol⟩:=one o0;refine .inl ⟨a,rfl,.inl ⟨⟨ws,sq⟩,?_⟩⟩;refine IF (els:=xs) hP hl hal hvI hvE his hg hvo hvo2 rep1 (λ {D H' fps' i} hD k' h=>?_) (λ {D H' fps' i} hD k' h=>?_) (λ {D H' fps' i x H''} hD k' h y=>?_) (fin xs q)
   ·obtain ⟨a',ws,e,s,ol⟩:=one (KD.seen rep1 k' hD hvI o0);cases e;exact ⟨ws,ws[i]'(by rw [ol.length];exact h),s,by simp⟩
   ·obtain ⟨a',ws,e,s,ol⟩:=one (KD.seen rep1 k' hD hvI o0);cases e;exact ⟨ws,s,by rw [ol.length];exact h⟩
   ·obtain ⟨a',ws,e,s,ol⟩:=one (KD.seen rep1 k' hD hvI o0);cases e;obtain ⟨e1,e2⟩:=y;subst e1;exact ⟨λ _ _ h=>h,ol.get (e2 ws s)⟩
  | tup xs=>
   have one:∀ {Z:Addr->Prop}{H:Hp},Own M.K H Z (.tup xs) 0 v []->∃ a ws,v=.ref a/\CM M.K H a ws/\OwnL M.K H Z xs 0 ws []:=λ o=>by
    rw [Own] at o;obtain ⟨a,ws,e,hr,ol⟩:=o;exact ⟨a,ws,e,.inl (.inl hr),ol⟩
   obtain ⟨a,ws,rfl,sq,ol⟩:=one o0;refine .inl ⟨a,rfl,.inr ⟨⟨ws,sq⟩,?_⟩⟩;refine IF (els:=xs) hP hl hal hvI hvE his hg hvo hvo2 rep1 (λ {D H' fps' i} hD k' h=>?_) (λ {D H' fps' i} hD k' h=>?_) (λ {D H' fps' i x H''} hD k' h y=>?_) (fin xs q)
   ·obtain ⟨a',ws,e,s,ol⟩:=one (KD.seen rep1 k' hD hvI o0);cases e;exact ⟨ws,ws[i]'(by rw [ol.length];exact h),s,by simp⟩
   ·obtain ⟨a',ws,e,s,ol⟩:=one (KD.seen rep1 k' hD hvI o0);cases e;exact ⟨ws,s,by rw [ol.length];exact h⟩
   ·obtain ⟨a',ws,e,s,ol⟩:=one (KD.seen rep1 k' hD hvI o0);cases e;obtain ⟨e1,e2⟩:=y;subst e1;exact ⟨λ _ _ h=>h,ol.get (e2 ws s)⟩
  | str z=>
   have o0':=o0;rw [Own] at o0';obtain ⟨rfl,_⟩:=o0';dsimp only at q;by_cases ha:O0 z=true
   ·rw [if_pos ha] at q;refine .inr ⟨z,rfl,ha,?_⟩;have hl':(FE z).length=z.cps.size:=by unfold FE;rw [AG,Ir]
    refine IF (els:=FE z) hP hl hal hvI hvE his hg hvo hvo2 rep1 (λ {D H' fps' i} hD k' h=>?_) (λ {D H' fps' i} hD k' h=>?_) (λ {D H' fps' i x H''} hD k' h y=>?_) (fin (FE z) q)
    ·show i < z.cps.size;omega
    ·show z.cps.size<=i;omega
    ·obtain ⟨rfl,c,hc,rfl⟩:=y;refine ⟨λ _ _ h=>h,.str ⟨#[c]⟩,?_,by rw [Own];exact ⟨rfl,rfl⟩⟩;unfold FE;rw [BW,OS,hc];rfl
   ·rw [if_neg ha] at q;exact q.elim
  | _=>exact q.elim
def Ug {g:TG}{is vI vE vo:List Nat}{asg:PV->Ae->Option Ae}{test:Fb}{elt:Fx}{k n:Nat}{Q:VK}{P:Fm->Prop}{lo:Int}{m:Nat}{H0:Hp}{fps0:AN}{ρ0:Ae}
  (hn:σ.length=n) (hP:∀ D,P (M.comp D n vI)) (hal:∀ i,∀ j∈M.al i,M.Ms j=false) (hvI:∀ i∈vI,M.Ms i=false) (hvE:∀ i∈vE,M.Ms i=false) (his:∀ i∈is,n<=i) (hg:∀ D,CN (M.comp D n vI) vI is g asg)
  (hvo:∀ i,i∈vE->i < n->i∈vo) (hvo2:∀ i∈vo,M.Ms i=false) (k0:KD M H0 fps0 H fps) (g0:Agr M ρ0 ρ) (rep:Rep M ρ σ H fps)
  (q:match (BY k asg test elt (Fz lo m) ρ []).bindN λ (acc,ρ2)=>C4 acc ρ2 with
    | .ok (x,d,ρ')=>∀ v H' fps' fp,KD M H0 fps0 H' fps'->Agr M ρ0 ρ'->Rep M ρ' σ H' fps'->Own M.K H' (Zt M vo fps' fp) x d v fp->Temp M vo H0 H' fps' fp->Q v H'
    | .exc c=>∀ H' fps',KD M H0 fps0 H' fps'->M.W σ c H'
    | .no=>False):
  ∀ D,H D=none->∃ W:Nat->Nat->List V->Hp->Prop,(∃ m,W 0 m [] (Ap H D (.lst [])))/\∀ i j ys H1,W i j ys H1->H1 D=some (.lst ys) /\
   (((GO lo m).stop i H1/\Q (.ref D) H1)\/((GO lo m).go i H1/\∀ x H',(GO lo m).yld i H1 x H'->g x (σ++AB k none) H' λ σ2 H2=>∃ M',P M'/\tT M' test σ2 H2 λ b H3=>if b=true then ∃ M',P M'/\tE M' elt vE σ2 H3 λ y H4=>H4 D=some (.lst ys)/\ys.length < A0/\∃ m',m' < j/\W (i + 1) m' (ys++[y]) (Ap H4 D (.lst (ys++[y]))) else ∃ m',m' < j/\W (i + 1) m' ys H3)):=by
 have hl:n=ρ.length:=by rw [rep.len];exact hn.symm
 refine IF (els:=Fz lo m) hP hl hal hvI hvE his hg hvo hvo2 rep (λ {D H' fps' i} hD k' h=>?_) (λ {D H' fps' i} hD k' h=>?_) (λ {D H' fps' i x H''} hD k' h y=>?_) ?_
 ·rw [JI] at h;exact h
 ·rw [JI] at h;exact h
 ·rw [JI] at h;obtain ⟨e1,e2⟩:=y;subst e1;exact ⟨λ _ _ h=>h,.int (lo + i),by simp [Fz,h],by rw [e2,Own];exact ⟨rfl,rfl⟩⟩
 ·cases ec:BY k asg test elt (Fz lo m) ρ [] with
  | no=>rw [ec] at q;exact q.elim
  | exc c=>rw [ec] at q;exact q.elim
  | ok p=>
   obtain ⟨acc,ρ2⟩:=p;rw [ec] at q;exact λ D ws H' fps' fpl k g r hD hD' tm hf=>Lb rep k0 g0 q k g r hD hD' tm hf
theorem kY {g:TG}{is vI vE vo:List Nat}{asg:PV->Ae->Option Ae}{test:Fb}{elt:Fx}{fa:Fa}{k n:Nat}{Q:VK}{P:Fm->Prop}
  (hn:σ.length=n) (hP:∀ D,P (M.comp D n vI)) (hal:∀ i,∀ j∈M.al i,M.Ms j=false) (hvI:∀ i∈vI,M.Ms i=false) (hvE:∀ i∈vE,M.Ms i=false) (his:∀ i∈is,n<=i) (hg:∀ D,CN (M.comp D n vI) vI is g asg)
  (hvo:∀ i,i∈vE->i < n->i∈vo) (hvo2:∀ i∈vo,M.Ms i=false) (hq:tE M (Ca AY fa k asg test elt) vo σ H Q):
  Hk k (Ow (tL M fa vs)) g (λ σ H Q=>∃ M',P M'/\tT M' test σ H Q) (λ σ H Q=>∃ M',P M'/\tE M' elt vE σ H Q) σ H Q:=by
 obtain ⟨ρ,fps,rep,q⟩:=hq;refine ⟨ρ,fps,rep,?_⟩;unfold Ca at q;cases ef:fa ρ with
 | no=>rw [ef] at q;exact q
 | exc c=>rw [ef] at q;exact q
 | ok p=>
  obtain ⟨xs,ρ1⟩:=p;rw [ef] at q;intro ws H1 fps1 f1 k1 g1 rep1 o1 t1;dsimp only at q;cases ee:AY xs with
  | none=>rw [ee] at q;exact q.elim
  | some ij=>
   obtain ⟨i,j⟩:=ij;rw [ee] at q;unfold AY at ee;split at ee
   ·rename_i j' d;split at ee
    ·rename_i hb;cases ee;obtain ⟨v,r,f1,f2,rfl,_,_,h1,h2⟩:=o1;obtain ⟨rfl,_⟩:=h2;rw [Own] at h1;obtain ⟨rfl,_⟩:=h1;refine ⟨j,rfl,hb.1,hb.2,?_⟩;have e:(j - 0).toNat=j.toNat:=by omega
     dsimp only at q;rw [e] at q;exact Ug hn hP hal hvI hvE his hg hvo hvo2 k1 g1 rep1 q
    ·cases ee
   ·cases ee
theorem vF {g:TG}{is vI vE vo:List Nat}{asg:PV->Ae->Option Ae}{test:Fb}{elt:Fx}{fa:Fa}{k n:Nat}{Q:VK}{P:Fm->Prop}
  (hn:σ.length=n) (hP:∀ D,P (M.comp D n vI)) (hal:∀ i,∀ j∈M.al i,M.Ms j=false) (hvI:∀ i∈vI,M.Ms i=false) (hvE:∀ i∈vE,M.Ms i=false) (his:∀ i∈is,n<=i) (hg:∀ D,CN (M.comp D n vI) vI is g asg)
  (hvo:∀ i,i∈vE->i < n->i∈vo) (hvo2:∀ i∈vo,M.Ms i=false) (hq:tE M (Ca EA fa k asg test elt) vo σ H Q):
  Hk k (Ox (tL M fa vs)) g (λ σ H Q=>∃ M',P M'/\tT M' test σ H Q) (λ σ H Q=>∃ M',P M'/\tE M' elt vE σ H Q) σ H Q:=by
 obtain ⟨ρ,fps,rep,q⟩:=hq;refine ⟨ρ,fps,rep,?_⟩;unfold Ca at q;cases ef:fa ρ with
 | no=>rw [ef] at q;exact q
 | exc c=>rw [ef] at q;exact q
 | ok p=>
  obtain ⟨xs,ρ1⟩:=p;rw [ef] at q;intro ws H1 fps1 f1 k1 g1 rep1 o1 t1;dsimp only at q;cases ee:EA xs with
  | none=>rw [ee] at q;exact q.elim
  | some ij=>
   obtain ⟨i,j⟩:=ij;rw [ee] at q;unfold EA at ee;split at ee
   ·rename_i i' d j' d';split at ee
    ·rename_i hb;cases ee;obtain ⟨v,r,f1,f2,rfl,_,_,h1,h2⟩:=o1;obtain ⟨v2,r2,f3,f4,rfl,_,_,h3,h4⟩:=h2;obtain ⟨rfl,_⟩:=h4;rw [Own] at h1 h3;obtain ⟨rfl,_⟩:=h1;obtain ⟨rfl,_⟩:=h3;exact ⟨i,j,rfl,hb,Ug hn hP hal hvI hvE his hg hvo hvo2 k1 g1 rep1 q⟩
    ·cases ee
   ·cases ee
end
def uo:List Ad:=[.type "ValueError",.type "Exception",.type "BaseException",.type "object"]
def yo (c d:Nat):Bool:=c == d || d == 0
structure XC (h:Heap) (K:Frag) (c:Nat) (C:Addr):Prop where
 obj:∃ bm N nm q bs hdct sn sub ab col dd k0 k1 k2 k3 k5 mN,h.get? C=some (excClassObj nm q C N bs bm hdct sn sub ab col dd k0 k1 k2 k3 k5 "ValueError.__new__")/\h.Ns N mN/\mN "__init__" = none/\OwnTail h uo bm/\∀ d D,QT K d=some D->(Value.ref C::bm).contains (.ref D)=yo c d
def Gh (W:Nat->Hp->Prop):XK:=λ v _ H'=>match v with
 | .int c _=>W c.toNat H'
 | _=>False
def AW (_:A9) (_:A7) (_:Frag):Fq:=λ _ _ _ _ _ _=>False
section
variable {X:Cx}{pins:List (Addr×Obj)}{σ:St}{H H1:Hp}{s s2:Ai}{h1 B:Heap}{a C:Addr}{a0:Ad}{c:Nat}{E:XK}{P:A9}{w:A7}{K:Frag}
end
def RC (CX:Fq) (X:Cx) (W:St->Nat->Hp->Prop):Prop:=∀ (pins:List (Addr×Obj)) (σ:St) (H:Hp) (s:Ai) (e:Ad) (s':Ai),L2.Inv X pins σ H s->CX X.stack H s (Gh (W σ)) e s'->X.xe e s'
def VM (X:Cx) (W:St->Nat->Hp->Prop):Prop:=∀ (pins:List (Addr×Obj)) (σ:St) (H:Hp) (s:Ai) (c:Nat) (C a:Addr) (h':Heap) (args:List Ad),L2.Inv X pins σ H s->QT X.K c=some C->Heap.MadeExcOf s.heap h' a (.ref C) args->W σ c H->X.xe (.ref a) { s with heap:=h' }
abbrev W0:St->Nat->Hp->Prop:=λ _ _ _=>False
def Vv {P:A9}{w:A7}{K:Frag}{X:Cx}:RC (AW P w K) X W0:=λ _ _ _ _ _ _ _ h=>h.elim
def jM {X:Cx}:VM X W0:=λ _ _ _ _ _ _ _ _ _ _ _ _ h=>h.elim
section
variable {P:A9}{w:A7}{K:Frag}{mg:Str->Option Ad}{base:Heap}{N:List Str}{qual:Str}{scope:Br}{f:Addr}{cd:Ad}{A:Bs}{outer:List Env}{s:Ai}{H:Hp}{E:XK}
def zQ:Li (Aw P w) (CL (AW P w K) P w K mg base N qual scope f cd A outer s H E).A (CL (AW P w K) P w K mg base N qual scope f cd A outer s H E).env (CL (AW P w K) P w K mg base N qual scope f cd A outer s H E).xe:=PassesOwn.leaving
end
section
variable {X:Cx}{CX:Fq}{k:Nat}{f:Addr}{fd:Dg}{ps:List Str}{sp:Sp}{x:Str}{p pos:Pos}{e:Expr}{es:List Expr}{t:TA}{W:St->Nat->Hp->Prop}
def VC (sp:Sp) (W:St->Nat->Hp->Prop) (t:TA):TE:=λ σ H Q=>t σ H λ vs H1=>sp vs H1 Q (Gh (W σ))
theorem kE (F:FnOk X.prog X.w X.K X.mg X.base CX k f fd ps sp) (hr:Room k X.A) (hg:Gl X x) (hm:X.mg x=some (.ref f)) (hk:Je X.K (.ref f)=true) (hb:qbj X.K fd ps []) (hx:RC CX X W) (ha:PA X (e::es) t) (hdb:(x == ("__debug__" : Str))=false)
  (he:AA (e::es) X.env=(false,eval e X.env)::AA es X.env) (hpl:(CH pos (AA es X.env)).any (·.1)=false):PE X (.Call (.Name x p) (e::es) [] pos) (VC sp W t):=by
 intro pins s σ H Q I h;refine N6 (jj I hg hm ?_ hdb);refine PySem.W.callWith_K (h₀:=X.base) I.ok.mod.kin hk (A1 (ha pos pins s σ H _ I h) λ us s1 ⟨vs,H1,I1,r,q⟩=>⟨I1.kIn,?_⟩) he hpl;have q':sp vs H1 Q (Gh (W σ)):=q;have hl:(us++[]).length=ps.length:=by rw [J0,<- r.length];exact F.len _ _ _ _ q'
 have hbd:=hb s1 us I1.kIn hl;rw [J0] at hbd;refine wpAny_call (codeAny_mono (F.run X.A X.stack s1 H1 ⟨us,[]⟩ us vs Q (Gh (W σ)) hr I1.env0 hbd r q') λ r s' hq=>?_);cases r with
 | error e=>exact hx pins σ H1 s1 e s' I1 hq
 | ok fl=>
  cases fl with
  | ret u=>exact I1.after hq
  | next=>exact Hq hq
  | brk=>exact Hq hq
  | cont=>exact Hq hq
end
def Dk (cells:List (Str×Addr)):List (Str×Dn)->List (Str×Addr)->List (Str×Addr)
 | [],cs=>cs
 | (n,k)::r,cs=>if k == .free then Dk cells r ((n,(cells.lookup n).getD 0)::cs) else Dk cells r cs
def TK {scope:Br}{env:Env} (h:∀ x∈scope.names,x.2=.free->∃ c,env.cells.lookup x.1=some c):closureFor scope env=pure (Dk env.cells scope.names []):=by
 unfold closureFor;have all:∀ (l:List (Str×Dn)) (cs:List (Str×Addr)),(∀ x∈l,x.2=.free->∃ c,env.cells.lookup x.1=some c) ->
   (forIn l cs λ (x:Str×Dn) (cs:List (Str×Addr))=>if (x.2 == NameKind.free)=true then (do let a<-cellOf env x.1;pure (ForInStep.yield ((x.1,a)::cs))) else pure (ForInStep.yield cs):Sem (List (Str×Addr)))=pure (Dk env.cells l cs):=by
  intro l;induction l with
  | nil=>intro cs _;rfl
  | cons x r ih=>
   intro cs hl;obtain ⟨n,k⟩:=x;rw [Y0];have ih':=λ cs=>ih cs λ y hy=>hl y (AH _ hy);by_cases hk:(k == NameKind.free)=true
   ·obtain ⟨c,hc⟩:=hl (n,k) AF (by simpa using hk);have e1:cellOf env n=pure c:=by unfold cellOf;rw [hc]
    rw [if_pos hk,e1];simp only [pure_bind];rw [ih',Dk,if_pos hk,hc];rfl
   ·rw [if_neg hk];simp only [pure_bind];rw [ih',Dk,if_neg hk]
 have:=all scope.names [] h
 simp only [bind_pure] at this ⊢;exact this
theorem GW (cells:List (Str×Addr)) (x:Str) (c:Addr):∀ (l:List (Str×Dn)) (cs:List (Str×Addr)),(∀ y∈l,y.2=.free->∃ c,cells.lookup y.1=some c)->(cs.lookup x=some c->cells.lookup x=some c)->(Dk cells l cs).lookup x=some c->cells.lookup x=some c
 | [],cs,_,h,e=>h e
 | (n,k)::r,cs,hl,h,e=>by
  unfold Dk at e;split at e
  ·rename_i hk;refine GW cells x c r _ (λ y hy=>hl y (AH _ hy)) (λ e'=>?_) e;rw [EO] at e';split at e'
   ·rename_i hx;obtain ⟨c',hc⟩:=hl (n,k) AF (by simpa using hk);rw [hc] at e';cases e';rw [eq_of_beq hx];exact hc
   ·exact h e'
  ·exact GW cells x c r cs (λ y hy=>hl y (AH _ hy)) h e
theorem Pz (cells:List (Str×Addr)) (x:Str):∀ (l:List (Str×Dn)) (cs:List (Str×Addr)),(∃ c,cs.lookup x=some c)->∃ c,(Dk cells l cs).lookup x=some c
 | [],cs,h=>h
 | (n,k)::r,cs,h=>by
  unfold Dk;split
  ·refine Pz cells x r _ ?_;rw [EO];split
   ·exact ⟨_,rfl⟩
   ·exact h
  ·exact Pz cells x r cs h
theorem Pr (cells:List (Str×Addr)) (x:Str):∀ (l:List (Str×Dn)) (cs:List (Str×Addr)),(x,NameKind.free)∈l->∃ c,(Dk cells l cs).lookup x=some c
 | [],_,h=>nomatch h
 | (n,k)::r,cs,h=>by
  unfold Dk;rcases jc3.mp h with e | e
  ·cases e;rw [if_pos (show (NameKind.free == NameKind.free)=true by decide)];exact Pz cells x r _ ⟨_,by rw [EO,beq_self_eq_true]⟩
  ·split
   ·exact Pr cells x r _ e
   ·exact Pr cells x r cs e
theorem Pp:∀ (names:List (Str×Dn)) (n:Nat) (acc:List (Str×Addr)) (x:Str) (c:Addr),(Dh n names acc).lookup x=some c->acc.lookup x=some c\/(n<=c/\(x,NameKind.cell)∈names)
 | [],n,acc,x,c,h=>.inl h
 | (m,k)::r,n,acc,x,c,h=>by
  unfold Dh at h;split at h
  ·rename_i hk;have hk':k=.cell:=by simpa using hk
   rcases Pp r _ _ x c h with z | ⟨z,y⟩
   ·rw [EO] at z;split at z
    ·rename_i hx;cases z;exact .inr ⟨A5 _,by rw [eq_of_beq hx,hk'];exact AF⟩
    ·exact .inl z
   ·exact .inr ⟨Iq z,AH _ y⟩
  ·rcases Pp r _ _ x c h with z | ⟨z,y⟩
   ·exact .inl z
   ·exact .inr ⟨z,AH _ y⟩
theorem ME:∀ (names:List (Str×Dn)) (n:Nat) (acc:List (Str×Addr)) (x:Str),(x,NameKind.cell)∉names->(Dh n names acc).lookup x=acc.lookup x
 | [],n,acc,x,h=>rfl
 | (m,k)::r,n,acc,x,h=>by
  unfold Dh;split
  ·rename_i hk;have hk':k=.cell:=by simpa using hk
   rw [ME r _ _ x λ z=>h (AH _ z),EO];split
   ·rename_i hx;exact absurd (by rw [eq_of_beq hx,hk'];exact AF) h
   ·rfl
  ·exact ME r _ _ x λ z=>h (AH _ z)
theorem O2:∀ (names:List (Str×Dn)) (n:Nat) (acc:List (Str×Addr)) (x:Str),(x,NameKind.cell)∈names->∃ c,(Dh n names acc).lookup x=some c/\n<=c
 | [],n,acc,x,h=>nomatch h
 | (m,k)::r,n,acc,x,h=>by
  by_cases hr:(x,NameKind.cell)∈r
  ·unfold Dh;split
   ·obtain ⟨c,e,l⟩:=O2 r (n + 1) ((m,n)::acc) x hr;exact ⟨c,e,Iq l⟩
   ·exact O2 r n acc x hr
  ·rcases jc3.mp h with e | e
   ·cases e;unfold Dh;rw [if_pos (by decide),ME r _ _ _ hr,EO,beq_self_eq_true];exact ⟨n,rfl,A5 _⟩
   ·exact absurd e hr
theorem Rh:∀ (names:List (Str×Dn)) (n:Nat) (acc:List (Str×Addr)),(∀ x y c,acc.lookup x=some c->acc.lookup y=some c->x=y)->(∀ x c,acc.lookup x=some c->c < n)->∀ x y c,(Dh n names acc).lookup x=some c->(Dh n names acc).lookup y=some c->x=y
 | [],n,acc,hi,_,x,y,c,h1,h2=>hi x y c h1 h2
 | (m,k)::r,n,acc,hi,hl,x,y,c,h1,h2=>by
  unfold Dh at h1 h2;split at h1
  ·rename_i hk;rw [if_pos hk] at h2;refine Rh r (n + 1) ((m,n)::acc) (λ x y c h1 h2=>?_) (λ x c h=>?_) x y c h1 h2
   ·rw [EO] at h1 h2;split at h1
    ·rename_i e1;cases h1;split at h2
     ·rename_i e2;rw [eq_of_beq e1,eq_of_beq e2]
     ·exact absurd (hl y _ h2) (DS _)
    ·split at h2
     ·cases h2;exact absurd (hl x _ h1) (DS _)
     ·exact hi x y c h1 h2
   ·rw [EO] at h;split at h
    ·cases h;exact Kv _
    ·exact Sz (hl x c h)
  ·rename_i hk;rw [if_neg hk] at h2;exact Rh r n acc hi hl x y c h1 h2
theorem RL:∀ (names:List (Str×Dn)) (h:Heap) (acc:List (Str×Addr)) (x:Str) (c:Addr),(Dh h.objs.size names acc).lookup x=some c->acc.lookup x=some c\/(pushCells h names).IsCell c none
 | [],h,acc,x,c,e=>.inl e
 | (m,k)::r,h,acc,x,c,e=>by
  unfold Dh at e;unfold pushCells;split at e
  ·rename_i hk;rw [if_pos hk];have hs:(h.push { cls:=.type "cell",data:=.cell none }).objs.size=h.objs.size + 1:=Nt ..;have e':(Dh (h.push { cls:=.type "cell",data:=.cell none }).objs.size r ((m,h.objs.size)::acc)).lookup x=some c:=by rw [hs];exact e
   rcases RL r _ _ x c e' with z | z
   ·rw [EO] at z;split at z
    ·cases z;exact .inr ⟨_,Qk _ _ _ _ (C0 _ rfl),rfl⟩
    ·exact .inl z
   ·exact .inr z
  ·rename_i hk;rw [if_neg hk];exact RL r h acc x c e
def yk {M:Model}{A:Bs}{E:Ad->Ai->Prop}{s:Ai}{scope:Br}{globals:Addr}{cl:List (Str×Addr)}{qual:Str}{func:Option Addr}{code:Ad}{around:Env}{builtins:Addr}{Q:Env->Ai->Prop}
  (hQ:Q (newEnv scope s.heap.objs.size globals (Dh (s.heap.objs.size + 1) scope.names cl) qual func code (some around) builtins) { s with heap:=pushCells (s.heap.push { cls:=.type "dict",data:=.dict #[] }) scope.names }):
  An M A (Qh scope globals cl [] qual func code (some around) builtins) Q E s:=by
 simp only [Qh,YC,if_true];refine Ak (wpAny_alloc ?_);refine Ak (wpAny_layCells _ (λ name kind cells=>by cases hkc:kind == NameKind.cell <;> simp [hkc]) _ _ _ _ ?_);rw [show ({ s with heap:=s.heap.push { cls:=.type "dict",data:=.dict #[] } }:Ai).heap.objs.size=s.heap.objs.size + 1 from Nt ..];exact Ak (Az (Az hQ))
def LR (X:Cx) (scope:Br) (C:Addr):List (Str×Addr):=Dh (C + 1) scope.names (Dk X.env.cells scope.names [])
def Bx (X:Cx) (s2:Ai) (H2:Hp) (scope:Br) (C:Addr) (N':List Str) (fp:List Addr) (pins:List (Addr×Obj)):Cx:=
 { X with N:=N',s₀:=s2,H₀:=H2,env:=compEnvC scope (LR X scope C) C X.env,outer:=X.stack,stack:=X.stack,ex:=fp,fn:=λ x=>scope.names.contains (x,NameKind.cell),pn:=X.pn++pins,xe:=λ _ _=>False }
structure CompOk (X:Cx) (scope:Br) (N':List Str) (k:Nat):Prop where
 kind:scope.kind=.function
 dis:∀ x,(x,NameKind.free)∈scope.names->(x,NameKind.cell)∉scope.names
 names:∀ x∈scope.names,x.2=.local->scope.names.lookup x.1=some .local
 len:N'.length=X.N.length + k
 free:∀ x∈scope.names,x.2=.free->X.env.kindOf x.1=some .cell\/X.env.kindOf x.1=some .free
 kinds:∀ x,(Il scope X.env).names.lookup x=some .cell\/(Il scope X.env).names.lookup x=some .free->(x,NameKind.free)∈scope.names\/(x,NameKind.cell)∈scope.names
 capt:∀ (i:Nat) (x:Str),i < X.N.length->N'[i]?=some x->HK (Il scope X.env) x->X.N[i]?=some x/\HK X.env.scope x/\(x,NameKind.free)∈scope.names/\(Il scope X.env).names.lookup x≠some .local
section
variable {X:Cx}{scope:Br}{N':List Str}{k:Nat}{pins:List (Addr×Obj)}{σ:St}{H2:Hp}{s2:Ai}{fp:List Addr}{C:Addr}
def CompOk.cells (c:CompOk X scope N' k) (I:Inv X pins σ H2 s2):∀ x∈scope.names,x.2=.free->∃ a,X.env.cells.lookup x.1=some a:=λ x hx hf=>I.ok.has x.1 (c.free x hx hf)
def CompOk.cl (c:CompOk X scope N' k) (I:Inv X pins σ H2 s2) {x:Str}{a:Addr} (h:(LR X scope C).lookup x=some a):X.env.cells.lookup x=some a\/(C + 1<=a/\(x,NameKind.cell)∈scope.names):=
 (Pp _ _ _ x a h).imp (λ z=>GW _ x a _ [] (c.cells I) (λ z=>nomatch z) z) id
def CompOk.old (c:CompOk X scope N' k) (I:Inv X pins σ H2 s2) {x:Str}{a:Addr} (h:X.env.cells.lookup x=some a):a < s2.heap.objs.size:=by
 obtain ⟨v,o,ho,_⟩:=I.cell x a h;exact Bc ho
def CompOk.cap (c:CompOk X scope N' k) {x:Str} (h:(x,NameKind.free)∈scope.names):∃ a,(LR X scope C).lookup x=some a/\(Dk X.env.cells scope.names []).lookup x=some a:=by
 obtain ⟨a,ha⟩:=Pr X.env.cells x scope.names [] h;exact ⟨a,(ME _ _ _ x (c.dis x h)).trans ha,ha⟩
def CompOk.ok (c:CompOk X scope N' k) (I:Inv X pins σ H2 s2) (hf:∀ b∈fp,Cw X pins H2 b) (hC:s2.heap.objs.size<=C) (hfp:∀ b∈fp,b < s2.heap.objs.size):(Bx X s2 H2 scope C N' fp pins).Ok where
 mod:=I.ok.mod
 kind:=c.kind
 glob:=I.ok.glob
 blt:=I.ok.blt
 above:=hC
 inj:=λ x y a h1 h2=>Rh scope.names (C + 1) _ (λ x y a h1 h2=>I.ok.inj x y a (GW _ x a _ [] (c.cells I) (λ z=>nomatch z) h1) (GW _ y a _ [] (c.cells I) (λ z=>nomatch z) h2))
  (λ x a h=>Sz (Cj (c.old I (GW _ x a _ [] (c.cells I) (λ z=>nomatch z) h)) hC)) x y a h1 h2
 has:=λ x hx=>(c.kinds x hx).elim (λ z=>let ⟨a,h,_⟩:=c.cap (C:=C) z;⟨a,h⟩) λ z=>let ⟨a,h,_⟩:=O2 scope.names (C + 1) (Dk X.env.cells scope.names []) x z;⟨a,h⟩
 cab:=λ x a h e=>by
  have hx:(x,NameKind.cell)∈scope.names:=by
   have h':scope.names.contains (x,NameKind.cell)=true:=h;simpa using h'
  obtain ⟨a',e',l⟩:=O2 scope.names (C + 1) (Dk X.env.cells scope.names []) x hx;have e2:(Dh (C + 1) scope.names (Dk X.env.cells scope.names [])).lookup x=some a:=e;rw [e'] at e2;cases e2;exact Cv hC (Iq l)
 hd:=I.ok.hd
 frames:=I.ok.frames
 stk:=.inl rfl
 exf:=λ b hb=>⟨C7 (Cj (hfp b hb) hC),λ x a h=>(c.cl I h).elim (λ z=>(hf b hb).2.2.2.2.1 x a z) λ z=>FU (Cj (hfp b hb) (Cv hC (Iq z.1)))⟩
 bs:=I.bs
 bsz:=Cv I.ok.bsz I.sz
 noex:=λ b o e hb=>by
  rcases (hf b hb).2.2.2.1 with z | z
  ·exact I.ok.noex b o e z
  ·exact absurd (Cj (Bc e) (Cv I.ok.bsz z)) (DS _)
 exfs:=λ b hb hz=>by
  rcases jc3.mp (I.stkSub b hz) with z | z
  ·exact (hf b hb).2.1 z
  ·exact (hf b hb).2.2.1 z
 funs:=I.stack
 frf:=I.stkFree
def CompOk.inv (c:CompOk X scope N' k) (I:Inv X pins σ H2 s2) (hf:∀ b∈fp,Cw X pins H2 b) (hfp:∀ b∈fp,b < s2.heap.objs.size) {H3:Hp}{h':Heap}{t':Nat}{m:Str->Option Ad}{D:Addr} (hCD:D≠C) (hD:s2.heap.objs.size<=D) (hC:s2.heap.objs.size<=C)
  (keep:∀ b o,s2.heap.get? b=some o->h'.get? b=some o) (ns:h'.Ns C m) (hH:∀ b,b≠D->H3 b=H2 b) (hok:HOk X.prog X.w H3 h') (hC3:H3 C=none) (hDC:D < C) (hcN:∀ x a,(LR X scope C).lookup x=some a->C + 1<=a->h'.IsCell a none):
  Inv (Bx X s2 H2 scope C N' fp pins) [] (σ++AB k none) H3 { s2 with heap:=h',toks:=t' } where
 ok:=c.ok I hf hC hfp
 os:=rfl
 bare:=I.bare
 base:=by
  have nD:∀ b o,s2.heap.get? b=some o->b≠D:=λ b o e=>C7 (Cj (Bc e) hD);refine ⟨λ b o e _ _ _=>keep b o e,λ b o e _ _ _=>⟨o.slots,keep b o e⟩,λ b o e n _=>by rw [hH b (nD b o e)];exact n,λ b o e _=>⟨o,keep b o e⟩,λ b xs e=>?_,λ b o u e=>?_,λ b ps e=>⟨#[],?_⟩⟩
  ·have e:H2 b=some (.tup xs):=e;rw [hH b (λ z=>by rw [z,I.hok.fresh hD] at e;cases e)];exact e
  ·have e:H2 b=some (.frz o u):=e;rw [hH b (λ z=>by rw [z,I.hok.fresh hD] at e;cases e)];exact e
  ·have e:H2 b=some (.tbl ps):=e;rw [hH b (λ z=>by rw [z,I.hok.fresh hD] at e;cases e)];simpa using e
 loc:=by
  refine ⟨m,ns,λ i x v e1 e2 e3=>?_⟩;have hi:i < σ.length:=by
   by_cases hi:i < σ.length
   ·exact hi
   ·rw [FZ (by omega),DP] at e2;split at e2 <;> cases e2
  rw [CF hi] at e2;obtain ⟨n1,n2,n3,n4⟩:=c.capt i x (by rw [<- I.len];exact hi) e1 e3;obtain ⟨m0,ns0,hl⟩:=I.loc;obtain ⟨u,r,lk⟩:=hl i x v n1 e2 n2;refine ⟨u,r,.inr ⟨?_,?_⟩⟩
  ·rcases e3 with z | z | z
   ·exact absurd z n4
   ·exact .inl z
   ·exact .inr z
  ·obtain ⟨a,ha,hb⟩:=c.cap (C:=C) n3;have ha':=GW _ x a _ [] (c.cells I) (λ z=>nomatch z) hb;refine ⟨a,ha,?_⟩;rcases lk with ⟨hk,_⟩ | ⟨hk,a2,ha2,hc⟩
   ·rcases c.free _ n3 rfl with z | z <;> rw [hk] at z <;> cases z
   ·rw [ha'] at ha2;cases ha2;obtain ⟨o,ho,hd⟩:=hc;exact ⟨o,keep _ _ ho,hd⟩
 cell:=λ x a h=>by
  rcases c.cl I h with z | z
  ·obtain ⟨v,o,ho,hd⟩:=I.cell x a z;exact ⟨v,o,keep _ _ ho,hd⟩
  ·exact ⟨none,hcN x a h z.1⟩
 free:=hC3
 freeC:=λ x a h=>by
  rcases c.cl I h with ha | z
  ·obtain ⟨v,o,ho,hd⟩:=I.cell x a ha;rw [hH a (C7 (Cj (Bc ho) hD))];exact I.freeC x a ha
  ·rw [hH a (FU (Cj hDC (Iq z.1)))];exact I.hok.fresh (Cv hC (Iq z.1))
 pin:=λ p hp=>by
  have hp':p∈X.pn++pins:=by simpa [Bx] using hp
  obtain ⟨e,n,ne,nf,d⟩:=I.pin p hp';have hlt:=Bc e;exact ⟨keep _ _ e,by rw [hH p.1 (C7 (Cj hlt hD))];exact n,C7 (Cj hlt hC),λ z=>(jc3.mp (I.stkSub p.1 z)).elim ne nf,d⟩
 hok:=hok
 len:=by
  show (σ++AB k none).length=N'.length;rw [BI,El,c.len,I.len]
def GN (X:Cx) (ifs:List Expr) (t:TT):Prop:=
 ∀ (pins:List (Addr×Obj)) (s:Ai) (σ:St) (H:Hp) (Q:Bool->Hp->Prop),Inv X pins σ H s->t σ H Q ->
  An (Aw X.prog X.w) X.A (forIn ifs true λ c r=>if r=true then do let ok<-isTrue c X.env (eval c X.env);pure (ForInStep.yield ok) else pure (ForInStep.yield r)) (TP X pins σ Q) X.xe s
def jg {X:Cx}:GN X [] (λ _ H Q=>Q true H):=λ _ _ _ H _ I h=>Az ⟨H,I,h⟩
def jJ {X:Cx}{c:Expr}{t:TT} (hc:PT X c t):GN X [c] t:=by
 intro pins s σ H Q I h;rw [Y0];refine Ak ?_;rw [if_pos rfl];refine Ak (A1 (hc pins s σ H Q I h) λ b s1 q=>Az ?_);exact Az q
def CompOk.again (c:CompOk X scope N' k) (I:Inv X pins σ H2 s2) {σ':St}{H':Hp}{s':Ai}{ps:List (Addr×Obj)} (hfp:∀ b∈fp,Cw X pins H2 b) (J:Inv (Bx X s2 H2 scope C N' fp pins) ps σ' H' s'):Inv (Bx X s2 H2 scope C N' fp pins) ps (σ++AB k none) H' s' where
 ok:=J.ok
 os:=J.os
 bare:=J.bare
 base:=J.base
 loc:=by
  obtain ⟨m,ns,_⟩:=J.loc;refine ⟨m,ns,λ i x v e1 e2 e3=>?_⟩;have hi:i < σ.length:=by
   by_cases hi:i < σ.length
   ·exact hi
   ·rw [FZ (by omega),DP] at e2;split at e2 <;> cases e2
  rw [CF hi] at e2;obtain ⟨n1,n2,n3,n4⟩:=c.capt i x (by rw [<- I.len];exact hi) e1 e3;obtain ⟨m0,ns0,hl⟩:=I.loc;obtain ⟨u,r,lk⟩:=hl i x v n1 e2 n2;refine ⟨u,r,.inr ⟨?_,?_⟩⟩
  ·rcases e3 with z | z | z
   ·exact absurd z n4
   ·exact .inl z
   ·exact .inr z
  ·obtain ⟨a,ha,hb⟩:=c.cap (C:=C) n3;have ha':=GW _ x a _ [] (c.cells I) (λ z=>nomatch z) hb;refine ⟨a,ha,?_⟩;rcases lk with ⟨hk,_⟩ | ⟨hk,a2,ha2,hc⟩
   ·rcases c.free _ n3 rfl with z | z <;> rw [hk] at z <;> cases z
   ·rw [ha'] at ha2;cases ha2;obtain ⟨o,ho,hd⟩:=hc;obtain ⟨sl,ho'⟩:=J.base.any (b:=a) (ob:=o) ho (I.freeC x a ha') λ z=>(hfp a z).2.2.2.2.1 x a ha' rfl;exact ⟨_,ho',hd⟩
 cell:=J.cell
 free:=J.free
 freeC:=J.freeC
 pin:=J.pin
 hok:=J.hok
 len:=by
  show (σ++AB k none).length=N'.length;rw [BI,El,c.len,I.len]
theorem Zp {prog:A9}{w:A7}{A:Bs}{R:Result->Ai->Prop}{s:Ai}{elt target iter:Expr}{ifs:List Expr}{scope:Br}{pos:Pos}{it acc:Ad}{env:Env} (I:Nat->Ai->Prop)
  (turn:∀ n s,I n s->An (Aw prog w) A (FG it) (λ r s₁=>match r with
   | none=>R (.ok .next) s₁
   | some v=>An (Aw prog w) A (Ny target it v) (λ _ s₁'=>An (Aw prog w) A (Hl target env v) (λ _ s₂=>
     An (Aw prog w) A (forIn ifs true λ c r=>if r=true then do let ok<-isTrue c env (eval c env);pure (ForInStep.yield ok) else pure (ForInStep.yield r)) (λ ok s₃=>
      if ok=true then An (Aw prog w) A (eval elt env) (λ x s₄=>
       An (Aw prog w) A (call (.builtin "list.append") [acc,x]) (λ _ s₅=>∃ m,m < n/\I m s₅) (λ _ _=>False) s₄) (λ _ _=>False) s₃
      else ∃ m,m < n/\I m s₃) (λ _ _=>False) s₂) (λ _ _=>False) s₁') (λ _ _=>False) s₁) (λ _ _=>False) s)
  (n:Nat) (h:I n s):
  Ik (Aw prog w) A (.compLoop (.ListComp elt [⟨target,iter,ifs,0⟩] scope pos) 0 it acc env) R s:=by
 refine codeAny_loop rfl I (λ n s hI=>?_) n h;show An _ A ((compTurn (.ListComp elt [⟨target,iter,ifs,0⟩] scope pos) 0 it acc env).onRaise (λ x=>do noteFrame x env;theTreesLotGoes x)) _ _ s;refine wpAny_noted ?_;rw [compTurn_list];refine Ak (wpAny_standAt (Ak (Hr (turn n s hI) (λ r s₁ h₁=>?_) λ _ _ h'=>h'.elim)));cases r with
 | none=>exact Az h₁
 | some v=>
  refine Ak (Hr h₁ (λ _ s₁' h₁'=>?_) λ _ _ h'=>h'.elim);refine Ak (Hr h₁' (λ _ s₂ h₂=>Ak (Hr h₂ (λ ok s₃ h₃=>?_) λ _ _ h'=>h'.elim)) λ _ _ h'=>h'.elim);cases ok with
  | false=>exact Az ⟨rfl,h₃⟩
  | true=>
   exact Ak (Ak (Hr h₃ (λ x s₄ h₄=>Ak (Hr h₄ (λ _ s₅ h₅=>Az (Az ⟨rfl,h₅⟩)) λ _ _ h'=>h'.elim)) λ _ _ h'=>h'.elim))
def Ud {elt iter tg:Expr}{ifs:List Expr}{pos:Pos}{J:It}{it:Addr}{tn:Nat->Heap->Prop}{g:TG}{tc:TT}{te:TE}{RR:Ad->Addr->Result->Ai->Prop}{Q:VK}{E:Ad->Ai->Prop}
  (c:CompOk X scope N' k) (hcalm:X.calm=true) (I:Inv X pins σ H2 s2) (T:Turn X.prog X.w X.K tg J fp it tn) (st:tn 0 s2.heap) (hf:∀ b∈fp,Cw X pins H2 b)
  (hg:∀ C fp,PG (Bx X s2 H2 scope C N' fp pins) tg g) (hc:∀ C fp,GN (Bx X s2 H2 scope C N' fp pins) ifs tc) (he:∀ C fp,PE (Bx X s2 H2 scope C N' fp pins) elt te)
  (h:∀ D,H2 D=none->∃ W:Nat->Nat->List V->Hp->Prop,(∃ m,W 0 m [] (Ap H2 D (.lst [])))/\∀ i m ys H,W i m ys H->H D=some (.lst ys) /\
   ((J.stop i H/\Q (.ref D) H)\/(J.go i H/\∀ x H',J.yld i H x H'->g x (σ++AB k none) H' λ σ2 H2=>tc σ2 H2 λ b H3=>if b=true then te σ2 H3 λ y H4=>H4 D=some (.lst ys)/\ys.length < A0/\∃ m',m' < m/\W (i + 1) m' (ys++[y]) (Ap H4 D (.lst (ys++[y]))) else ∃ m',m' < m/\W (i + 1) m' ys H3)))
  (hRR:∀ D C σ' H' s',s2.heap.objs.size<=C->Inv (Bx X s2 H2 scope C N' fp pins) [] σ' H' s'->Q (.ref D) H'->RR (.ref D) C (.ok .next) s')
  :
  An (Aw X.prog X.w) X.A (newList []) (λ acc s₃=>An (Aw X.prog X.w) X.A (Qh scope X.env.globals (Dk X.env.cells scope.names []) [] X.env.qual none .none (some X.env)) (λ cenv s₄=>
   Ik (Aw X.prog X.w) X.A (.compStart (.ListComp elt [⟨tg,iter,ifs,0⟩] scope pos) 0 (.ref it) acc { cenv with scope:=Il scope X.env }) (RR acc cenv.locals) s₄) E s₃) E s2:=by
 refine Fg (yk ?_);dsimp only;generalize hH2:s2.heap.push { cls:=.type "list",dict:=none,data:=.seq ([]:List Ad).toArray }=HP;obtain ⟨h₁,hh₁⟩:∃ h₁,h₁=pushCells (HP.push { cls:=.type "dict",data:=.dict #[] }) scope.names:=⟨_,rfl⟩
 rw [<- hh₁];have kk:∀ b o,HP.get? b=some o->h₁.get? b=some o:=λ b o e=>by rw [hh₁];exact Qk _ _ b o (Ci _ e)
 have hns₁:h₁.Ns HP.objs.size (λ _=>none):=by rw [hh₁];exact (Heap.Ns.new HP (.type "dict")).keeps (Qk _ _)
 have hC:HP.objs.size=s2.heap.objs.size + 1:=by rw [<- hH2,Nt]
 have hDC:s2.heap.objs.size≠HP.objs.size:=by rw [hC];exact C7 (Kv _)
 have hCle:s2.heap.objs.size<=HP.objs.size:=by rw [hC];exact Ma _
 have hfp:∀ b∈fp,b < s2.heap.objs.size:=λ b hb=>by
  obtain ⟨o,e,_⟩:=T.obj 0 _ st b hb;exact Bc e
 have BX:∀ b,b < s2.heap.objs.size->b≠HP.objs.size:=λ b hb=>by rw [hC];exact C7 (Sz hb)
 have old:∀ b o,s2.heap.get? b=some o->h₁.get? b=some o:=λ b o e=>kk b o (hH2 ▸ Ci _ e);have hacc:h₁.get? s2.heap.objs.size=some { cls:=.type "list",dict:=none,data:=.seq ([]:List Ad).toArray }:=kk _ _ (hH2 ▸ C0 _ rfl);have fD:H2 s2.heap.objs.size=none:=I.hok.fresh (A5 _);obtain ⟨W,⟨m0,w0⟩,hW⟩:=h _ fD;have hok3:HOk X.prog X.w (Ap H2 s2.heap.objs.size (.lst [])) h₁:=I.hok.laid old (A5 _) ⟨Fj _,[],0,.nil,hacc⟩;have st1:tn 0 h₁:=T.keep _ _ _ st λ b hb o e=>old b o e;have I3:Inv (Bx X s2 H2 scope HP.objs.size N' fp pins) [] (σ++AB k none) (Ap H2 s2.heap.objs.size (.lst [])) { s2 with heap:=h₁ }:=
  c.inv I hf hfp (t':=s2.toks) hDC (A5 _) hCle old hns₁ (λ b hb=>A8 hb) hok3 (by rw [A8 (Cb hDC)];exact I.hok.fresh hCle) (by rw [hC];exact Kv _) (λ x a h l=>by
   have hs:(HP.push { cls:=.type "dict",data:=.dict #[] }).objs.size=HP.objs.size + 1:=Nt ..;have h':(Dh (HP.push { cls:=.type "dict",data:=.dict #[] }).objs.size scope.names (Dk X.env.cells scope.names [])).lookup x=some a:=by rw [hs];exact h
   rcases RL scope.names _ _ x a h' with z | z
   ·exact absurd (Cj (c.old I (GW _ x a _ [] (c.cells I) (λ z=>nomatch z) z)) (Cv hCle (Iq l))) (DS _)
   ·rw [hh₁];exact z)
 have fx:∀ {H':Hp},(∀ b∈fp,H' b=none)->∀ b∈fp,Cw (Bx X s2 H2 scope HP.objs.size N' fp pins) [] H' b:=λ hn b hb=>by
  obtain ⟨f0,f1,f2,f3,f4,f5⟩:=hf b hb;refine ⟨hn b hb,C7 (Cj (hfp b hb) hCle),λ hz=>?_,.inl hb,λ x a h=>(c.cl I h).elim (λ z=>f4 x a z) λ z=>FU (Cj (hfp b hb) (Cv hCle (Iq z.1))),λ p hp=>f5 p (by simpa [Bx] using hp)⟩;rcases jc3.mp (I.stkSub b hz) with z | z
  ·exact f1 z
  ·exact f2 z
 have f0:∀ b∈fp,(Ap H2 s2.heap.objs.size (.lst [])) b=none:=λ b hb=>by rw [A8 (C7 (hfp b hb))];exact (hf b hb).1
 have loop:∀ s₃:Ai,s₃={ s2 with heap:=h₁ } ->
   Ik (Aw X.prog X.w) X.A (.compLoop (.ListComp elt [⟨tg,iter,ifs,0⟩] scope pos) 0 (.ref it) (.ref s2.heap.objs.size) (compEnvC scope (LR X scope HP.objs.size) HP.objs.size X.env))
    (RR (.ref s2.heap.objs.size) HP.objs.size) s₃:=by
  rintro s₃ rfl;refine Zp (λ n s'=>∃ i H' ys,Inv (Bx X s2 H2 scope HP.objs.size N' fp pins) [] (σ++AB k none) H' s'/\tn i s'.heap/\(∀ b∈fp,H' b=none)/\W i n ys H') ?_ m0 ⟨0,_,[],I3,st1,f0,w0⟩;rintro n s4 ⟨i,H4,ys,I4,st4,fr4,w4⟩;obtain ⟨hD4,hcase⟩:=hW i n ys H4 w4;rcases hcase with ⟨stop,qn⟩ | ⟨go,step⟩
  ·refine A1 (T.done (Bx X s2 H2 scope HP.objs.size N' fp pins) rfl rfl rfl hcalm i [] s4 _ H4 (λ _ _=>False) I4 (fx fr4) st4 stop) λ r s5 ⟨hr,I5⟩=>?_;subst hr;exact hRR _ _ _ _ _ hCle I5 qn
  ·refine A1 (T.item (Bx X s2 H2 scope HP.objs.size N' fp pins) rfl rfl rfl hcalm i [] s4 _ H4 (λ _ _=>False) I4 (fx fr4) st4 go) λ r s5 ⟨u,hr,h5⟩=>?_;subst hr;refine A1 h5 λ _ s6 ⟨x,H6,I6,r6,y6,st6,fr6⟩=>?_;have I6':=I6.pinned (fx fr6) (T.obj _ _ st6);have stays:∀ {σ':St}{H':Hp}{s':Ai},Inv (Bx X s2 H2 scope HP.objs.size N' fp pins) ([]++LQ fp s6.heap) σ' H' s'->Inv (Bx X s2 H2 scope HP.objs.size N' fp pins) [] (σ++AB k none) H' s'/\tn (i + 1) s'.heap/\∀ b∈fp,H' b=none:=λ {σ' H' s'} J=>by
    refine ⟨c.again I hf J.unpinned,T.keep _ _ _ st6 λ b hb o e=>(J.pin (b,o) (BJ _ (BJ _ (MB hb e)))).1,λ b hb=>?_⟩;obtain ⟨o,e,d⟩:=T.obj _ _ st6 b hb;exact (J.pin (b,o) (BJ _ (BJ _ (MB hb e)))).2.1
   refine A1 (hg _ _ _ s6 _ H6 x u _ I6' r6 (step x H6 y6)) λ _ s7 ⟨σ7,H7,I7,q7⟩=>?_;refine A1 (hc _ _ _ s7 σ7 H7 _ I7 q7) λ b s8 ⟨H8,I8,q8⟩=>?_;cases b with
   | false=>
    rw [if_neg Ck] at q8 ⊢;obtain ⟨m',hm,w'⟩:=q8;obtain ⟨j1,j2,j3⟩:=stays I8;exact ⟨m',hm,i + 1,H8,ys,j1,j2,j3,w'⟩
   | true=>
    rw [if_pos rfl] at q8 ⊢;refine A1 (he _ _ _ s8 σ7 H8 _ I8 q8) λ y s9 ⟨z,H9,I9,r9,hD9,hz9,m',hm,w'⟩=>?_;refine A1 (XW (X:=Bx X s2 H2 scope HP.objs.size N' fp pins) _ s9 σ7 H9 (.ref s2.heap.objs.size) [z] (.ref s2.heap.objs.size) [y] (λ _ H'=>H'=Ap H9 s2.heap.objs.size (.lst (ys++[z]))) I9 rfl (.cons r9 .nil) ⟨_,ys,z,rfl,rfl,hD9,hz9,rfl⟩) λ _ s10 ⟨_,H10,I10,_,e10⟩=>?_;subst e10;obtain ⟨j1,j2,j3⟩:=stays I10;exact ⟨m',hm,i + 1,_,_,j1,j2,j3,w'⟩
 exact codeAny_compStart_list (loop _ rfl) (T.self _ 0 _ _ _ st1 (loop _ rfl))
def CompOk.out (I:Inv X pins σ H2 s2) (hf:∀ b∈fp,Cw X pins H2 b) {σ':St}{H':Hp}{s':Ai} (J:Inv (Bx X s2 H2 scope C N' fp pins) [] σ' H' s'):Inv X pins σ H' s':=
 I.call' (ch:=fp) J.os J.base J.hok J.bare λ b hb=>⟨(hf b hb).2.2.2.1,(hf b hb).2.1,(hf b hb).2.2.2.2.1,(hf b hb).2.2.2.2.2⟩
def CompOk.away (I:Inv X pins σ H2 s2) (hC:s2.heap.objs.size<=C) {σ':St}{H':Hp}{s':Ai} (J:Inv X pins σ' H' s') (hC':H' C=none) {h':Heap} (sb:JY C s'.heap h'):Inv X pins σ' H' { s' with heap:=h' }:=by
 have lt:∀ b o,s2.heap.get? b=some o->b≠C:=λ b o e=>C7 (Cj (Bc e) hC);refine J.turned (t':=s'.toks) (it:=C) (λ b o hb e=>(sb.2 b hb).trans e) hC' (FU (Cj I.lt hC)) (.inr (Cv I.sz hC)) (λ x c h=>?_) λ p hp=>?_
 ·obtain ⟨v,o,ho,_⟩:=I.cell x c h;exact lt c o ho
 ·exact lt p.1 p.2 (I.pin p hp).1
variable {elt iter tg:Expr}{ifs:List Expr}{pos:Pos}{wi:TI}{g:TG}{tc:TT}{te:TE}
def MP (c:CompOk X scope N' k) (hcalm:X.calm=true) (hi:PI X tg iter wi) (hg:∀ s2 H2 C fp pins,PG (Bx X s2 H2 scope C N' fp pins) tg g) (hc:∀ s2 H2 C fp pins,GN (Bx X s2 H2 scope C N' fp pins) ifs tc)
  (he:∀ s2 H2 C fp pins,PE (Bx X s2 H2 scope C N' fp pins) elt te) (hs:∀ x,N3 iter X.env x=pure x):PE X (.ListComp elt [⟨tg,iter,ifs,0⟩] scope pos) (Hk k wi g tc te):=by
 intro pins s σ H Q I h;rw [eval_ListComp];refine wpAny_comprehension_free (use:=none) rfl hs (TK (c.cells I)) c.kind c.names ?_;refine A1 (hi pins s σ H _ I h) λ v s1 h1=>A1 h1 λ itv s2 h2=>?_;obtain ⟨it,fp,tn,J,H',e,I2,T,st2,f2,W⟩:=h2;subst e;refine Ud (RR:=λ acc C=>compPost (Aw X.prog X.w) X.A X.xe none (EP X pins σ Q) acc C) c hcalm I2 T st2 f2 (λ C fp=>hg s2 H' C fp pins) (λ C fp=>hc s2 H' C fp pins) (λ C fp=>he s2 H' C fp pins) W λ D C σ' H3 s' hC J3 q=>?_;obtain ⟨m,ns,_⟩:=J3.loc;exact ⟨m,ns,λ h' sb=>⟨.ref D,H3,CompOk.away I2 hC (CompOk.out I2 f2 J3) J3.free sb,rfl,q⟩⟩
theorem wQ {i:Nat}{x:Str}{pos' spos:Pos} (hN:X.N.Nodup) (hi':X.N[i]?=some x) (hx:E3 X.env.scope x) (hfn:X.fn x=true\/X.env.scope.names.lookup x=some .local) (c:CompOk X scope N' k) (hcalm:X.calm=true) (hi:PI X tg iter wi) (hg:∀ s2 H2 C fp pins,PG (Bx X s2 H2 scope C N' fp pins) tg g) (hc:∀ s2 H2 C fp pins,GN (Bx X s2 H2 scope C N' fp pins) ifs tc)
  (he:∀ s2 H2 C fp pins,PE (Bx X s2 H2 scope C N' fp pins) elt te) (hs:∀ x,N3 iter X.env x=pure x):PS X (.Assign [.Name x pos'] (.ListComp elt [⟨tg,iter,ifs,0⟩] scope pos) spos) (EI (Hk k wi g tc te) (Fe i)):=by
 have hsw:∃ b,swapsWith (.ListComp elt [⟨tg,iter,ifs,0⟩] scope pos) (some (.Name x pos')) spos.line X.env=pure b:=⟨_,rfl⟩
 obtain ⟨b,hsw⟩:=hsw;cases b with
 | false=>exact V2 hN hi' hx (MP c hcalm hi hg hc he hs) hsw hfn
 | true=>
  intro pins s σ H D I h;rw [exec_Assign_Name_used _ _ _ _ hsw];refine Ak (wpAny_standAt (Ak ?_));show An _ X.A (do let _<-comprehension (.ListComp elt [⟨tg,iter,ifs,0⟩] scope pos) scope X.env _ (newList []) false (eval iter X.env) (some (Hl (.Name x pos') X.env))) _ _ s;refine Ak (Hr (wpAny_comprehension_free (use:=some (Hl (.Name x pos') X.env)) (Q:=λ _ s'=>SP X pins D .next s') rfl hs (TK (c.cells I)) c.kind c.names ?_) (λ _ s' hq=>Az (Az hq)) λ _ _ e=>e);refine A1 (hi pins s σ H _ I h) λ v s1 h1=>A1 h1 λ itv s2 h2=>?_;obtain ⟨it,fp,tn,J,H',e,I2,T,st2,f2,W⟩:=h2;subst e;refine Ud (Q:=λ x H1=>Fe i x σ H1 D.nx) (RR:=λ acc C=>compPost (Aw X.prog X.w) X.A X.xe (some (Hl (.Name x pos') X.env)) (λ _ s'=>SP X pins D .next s') acc C) c hcalm I2 T st2 f2 (λ C fp=>hg s2 H' C fp pins) (λ C fp=>hc s2 H' C fp pins) (λ C fp=>he s2 H' C fp pins) W λ E C σ' H3 s' hC J3 q=>?_;obtain ⟨m,ns,_⟩:=J3.loc;have I3:=CompOk.out I2 f2 J3;show An _ X.A (Hl (.Name x pos') X.env (.ref E)) _ _ _;refine wpAny_assign_Name (TR I3 hN hi' hx (v:=.ref E) rfl (λ s'' I4 hsb=>?_) hfn);obtain ⟨a,sb,ha⟩:=hsb;have hCa:C≠a:=by
   rcases ha with z | z
   ·rw [z];exact FU (Cj I2.lt hC)
   ·obtain ⟨v,o,ho,_⟩:=I2.cell x a z;exact FU (Cj (Bc ho) hC)
  exact ⟨m,ns.sameBut sb hCa,λ h' sb'=>⟨_,H3,CompOk.away I2 hC I4 J3.free sb',q⟩⟩
def vp {P:A9}{w:A7}{K:Frag}{tg:Expr} (z:Str) (tk:Tok) (it:Addr):Turn P w K tg (Ze z) [it] it (λ i h=>h.IsStrIter it "str_ascii_iterator" z tk i) where
 mem:=by simp
 obj:=λ i h st b hb=>by
  have e:b=it:=by simpa using hb
  subst e;obtain ⟨o,e,c,d⟩:=st;exact ⟨o,e,λ v z=>by rw [d] at z;cases z⟩
 keep:=λ i h h' st k=>by
  obtain ⟨o,e,r⟩:=st;exact ⟨o,k it (by simp) o e,r⟩
 item:=by
  intro X hP hw hK hc i pins s σ H E I hf st hg;subst hP hw hK;have hi:i < z.cps.size:=hg;obtain ⟨f0,f1,f2,f3,f4,f5⟩:=hf it (by simp);refine wpAny_pyNext_ascii_item st (c:=z.cps[i]) (by simp [hi]) λ h' st' sb=>?_;have I1:Inv X pins σ H { s with heap:=h',toks:=s.toks + 1 }:=I.turned (t':=s.toks + 1) (λ b o hb e=>(sb.2 b hb).trans e) f0 f1 f3 f4 f5;obtain ⟨o,e,c,d⟩:=id st';exact ⟨_,rfl,Jp (s:={ s with heap:=h',toks:=s.toks + 1 }) e c d (by decide) ⟨.str ⟨#[z.cps[i]]⟩,H,I1,⟨_,rfl⟩,⟨rfl,z.cps[i],by simp [hi],rfl⟩,st',λ b hb=>(hf b hb).1⟩⟩
 done:=by
  intro X hP hw hK hc i pins s σ H E I hf st hg;subst hP hw hK;have hi:z.cps.size<=i:=hg;obtain ⟨f0,f1,f2,f3,f4,f5⟩:=hf it (by simp);exact wpAny_pyNext_ascii_end (I.ok.hd hc) st (by simp;omega) λ h' eb=>⟨rfl,I.turned (t':=s.toks) (λ b o hb e=>eb b o hb e) f0 f1 f3 f4 f5⟩
 self:=λ _ _ _ _ _ st h=>wpAny_pyIter_striter_ascii st h
def V0 {l:Expr}{tl:TE} (hl:PE X l tl):PI X tg l (Em X.K tl):=by
 intro pins s σ H R I h;refine A1 (hl pins s σ H _ I h) λ v s1 ⟨x,H1,I1,r1,q1⟩=>?_;obtain ⟨a,e,⟨⟨xs,hq⟩,q⟩ | ⟨⟨xs,hq⟩,q⟩⟩ | ⟨z,e,ha,q⟩:=q1
 ·subst e;cases r1;obtain ⟨its,rv,p,hz⟩:=I1.list hq;refine wpAny_pyIter_list p.isList ?_;refine ⟨s1.heap.objs.size,[s1.heap.objs.size],_,_,H1,rfl,I1.kept (t':=s1.toks) λ b o e=>Ci _ e,wW a _,⟨_,C0 _ rfl,rfl,rfl⟩,λ b hb=>?_,q⟩;have e:b=s1.heap.objs.size:=by simpa using hb
  subst e;exact I1.fpOk (A5 _) (I1.hok.fresh (A5 _))
 ·subst e;cases r1;obtain ⟨its,rv,p,hz⟩:=I1.tuple hq;refine wpAny_pyIter_tuple (show s1.heap.IsTuple a its.toArray from p) ?_;refine ⟨s1.heap.objs.size,[s1.heap.objs.size],_,_,H1,rfl,I1.kept (t':=s1.toks) λ b o e=>Ci _ e,wV a _,⟨_,C0 _ rfl,rfl,rfl⟩,λ b hb=>?_,q⟩;have e:b=s1.heap.objs.size:=by simpa using hb
  subst e;exact I1.fpOk (A5 _) (I1.hok.fresh (A5 _))
 ·subst e;obtain ⟨tk,rfl⟩:=r1;refine wpAny_pyIter_ascii ha ?_;refine ⟨s1.heap.objs.size,[s1.heap.objs.size],_,_,H1,rfl,I1.kept (t':=s1.toks) λ b o e=>Ci _ e,vp z tk _,⟨_,C0 _ rfl,rfl,rfl⟩,λ b hb=>?_,q⟩;have e:b=s1.heap.objs.size:=by simpa using hb
  subst e;exact I1.fpOk (A5 _) (I1.hok.fresh (A5 _))
end
end QQ
namespace L2
open PySem PySem.Spec PyProof.Rows
section
variable {κ:Type} [DecidableEq κ]
def Co (kvs:List (κ×V)) (k:κ):Option V:=(kvs.find? λ kv=>decide (kv.1=k)).map (·.2)
def Cq (kvs:List (κ×V)) (k:κ) (v:V):List (κ×V):=
 if (kvs.any λ kv=>decide (kv.1=k))=true then kvs.map (λ kv=>if kv.1=k then (kv.1,v) else kv) else kvs++[(k,v)]
def Ni {p:κ×V}{r:List (κ×V)}{k:κ} (e:p.1=k):Co (p::r) k=some p.2:=by simp [Co,Kt,e]
def Nh {p:κ×V}{r:List (κ×V)}{k:κ} (e:¬ p.1=k):Co (p::r) k=Co r k:=by simp [Co,Kt,e]
theorem Xv (k:κ):∀ kvs:List (κ×V),(kvs.any λ kv=>decide (kv.1=k))=(Co kvs k).isSome
 | []=>rfl
 | p::r=>by
  rw [Md];by_cases e:p.1=k
  ·simp only [Ni e,decide_eq_true e,Yp,YC]
  ·rw [Nh e,decide_eq_false e,OF];exact Xv k r
def T3 (kvs:List (κ×V)) (k:κ) (v:V):(Cq kvs k v).length<=kvs.length + 1:=by
 unfold Cq;split
 ·rw [AG];omega
 ·rw [BI,Ba,Hz];omega
theorem RelO.isSome_eq {o:Option V}{u:Option Ad} (r:RelO o u):o.isSome=u.isSome:=by
 cases o with
 | none=>cases u with
  | none=>rfl
  | some _=>exact (show False from r).elim
 | some _=>cases u with
  | none=>exact (show False from r).elim
  | some _=>rfl
theorem KV.val {kvs:List (κ×V)}{vs:List (κ×Ad)} (r:KV kvs vs) (k:κ):RelO (Co kvs k) (IY vs k):=by
 unfold KV at r;induction r with
 | nil=>exact True.intro
 | @cons p q ps qs h t ih=>
  obtain ⟨h1,h2⟩:=h;by_cases e:p.1=k
  ·have e':q.1=k:=h1.symm.trans e;have b:IY (q::qs) k=some q.2:=by simp [IY,Kt,e']
   rw [Ni e,b];exact h2
  ·have e':¬ q.1=k:=λ z=>e (h1.trans z);have b:IY (q::qs) k=IY qs k:=by simp [IY,Kt,e']
   rw [Nh e,b];exact ih
theorem KV.any {kvs:List (κ×V)}{vs:List (κ×Ad)} (r:KV kvs vs) (k:κ):(kvs.any λ kv=>decide (kv.1=k))=vs.any λ kv=>decide (kv.1=k):=by
 unfold KV at r;induction r with
 | nil=>rfl
 | cons h t ih=>rw [Md,Md,ih,h.1]
theorem KV.repl {kvs:List (κ×V)}{vs:List (κ×Ad)} (r:KV kvs vs) (k:κ) {y:V}{u:Ad} (ry:RelV y u):
  KV (kvs.map λ kv=>if kv.1=k then (kv.1,y) else kv) (vs.map λ kv=>if kv.1=k then (kv.1,u) else kv):=by
 unfold KV at r ⊢;induction r with
 | nil=>exact .nil
 | @cons p q ps qs h t ih=>
  rw [AR,AR];refine .cons ?_ ih;obtain ⟨h1,h2⟩:=h;by_cases e:p.1=k
  ·rw [if_pos e,if_pos (h1.symm.trans e)];exact ⟨h1,ry⟩
  ·rw [if_neg e,if_neg (λ z=>e (h1.trans z))];exact ⟨h1,h2⟩
def KV.put {kvs:List (κ×V)}{vs:List (κ×Ad)} (r:KV kvs vs) (k:κ) {y:V}{u:Ad} (ry:RelV y u):KV (Cq kvs k y) (stored vs k u):=by
 unfold Cq stored;rw [r.any k];by_cases e:(vs.any λ kv=>decide (kv.1=k))=true
 ·rw [if_pos e,if_pos e];exact r.repl k ry
 ·rw [if_neg e,if_neg e];exact Paired.snoc r ⟨rfl,ry⟩
def KV.length {kvs:List (κ×V)}{vs:List (κ×Ad)} (r:KV kvs vs):kvs.length=vs.length:=Paired.length r
end
theorem L9 {P:A9}{w:A7}{k:Av}{u:Ad} (r:RelV (kV k) u):(Dc P w).is k u=true:=by
 cases k with
 | inl i=>obtain ⟨t,e⟩:=(show ∃ t,u=Value.int i t from r);subst e;exact yh P w i t
 | inr x=>obtain ⟨t,e⟩:=(show ∃ t,u=Value.str x t from r);subst e;exact yi P w x t
theorem XJ {P:A9}{w:A7}:∀ {ks:List Av}{us:List Ad},Vals (ks.map kV) us->ItemsAre (Dc P w) ks us
 | [],_,r=>by rw [FT] at r;cases r;exact .nil
 | k::ks,_,r=>by
  rw [AR] at r;cases r with
  | cons h t=>exact .cons (L9 h) (XJ t)
abbrev KT (H:Hp):List (List Av×V)->List (List Av×Addr×Ad)->Prop:=FF λ p q=>p.1=q.1/\H q.2.1=some (.tup (p.1.map kV))/\RelV p.2 q.2.2
theorem KT.val {H:Hp}{kvs:List (List Av×V)}{xs:List (List Av×Addr×Ad)} (r:KT H kvs xs) (k:List Av):RelO (Co kvs k) ((atKey xs k).map (·.2)):=by
 induction r with
 | nil=>exact True.intro
 | @cons p q ps qs h t ih=>
  obtain ⟨h1,_,h2⟩:=h;by_cases e:p.1=k
  ·have e':q.1=k:=h1.symm.trans e;have b:atKey (q::qs) k=some q.2:=by simp [atKey,Kt,e']
   rw [Ni e,b];exact h2
  ·have e':¬ q.1=k:=λ z=>e (h1.trans z);have b:atKey (q::qs) k=atKey qs k:=by simp [atKey,Kt,e']
   rw [Nh e,b];exact ih
theorem KT.repl {H:Hp}{kvs:List (List Av×V)}{xs:List (List Av×Addr×Ad)} (r:KT H kvs xs) (k:List Av) {y:V}{u:Ad} (ry:RelV y u):
  KT H (kvs.map λ kv=>if kv.1=k then (kv.1,y) else kv) (xs.map (putAt k u)):=by
 induction r with
 | nil=>exact .nil
 | @cons p q ps qs h t ih=>
  rw [AR,AR];refine .cons ?_ ih;obtain ⟨h1,h2,h3⟩:=h;unfold putAt;by_cases e:p.1=k
  ·rw [if_pos e,if_pos (h1.symm.trans e)];exact ⟨h1,h2,ry⟩
  ·rw [if_neg e,if_neg (λ z=>e (h1.trans z))];exact ⟨h1,h2,h3⟩
def KT.put {H:Hp}{kvs:List (List Av×V)}{xs:List (List Av×Addr×Ad)} (r:KT H kvs xs) (k:List Av) {b:Addr}{y:V}{u:Ad} (hb:H b=some (.tup (k.map kV))) (ry:RelV y u):
  KT H (Cq kvs k y) (storedH xs k b u):=by
 have e:(kvs.any λ kv=>decide (kv.1=k))=(atKey xs k).isSome:=by
  rw [Xv,(r.val k).isSome_eq,Sy]
 unfold Cq storedH;rw [e];by_cases q:(atKey xs k).isSome=true
 ·rw [if_pos q,if_pos q];exact r.repl k ry
 ·rw [if_neg q,if_neg q];exact Paired.snoc r ⟨rfl,hb,ry⟩
def KT.keeps {H H':Hp}{kvs:List (List Av×V)}{xs:List (List Av×Addr×Ad)} (r:KT H kvs xs) (ht:∀ b ys,H b=some (.tup ys)->H' b=some (.tup ys)):KT H' kvs xs:=
 Paired.mapP r λ _ _ z=>⟨z.1,ht _ _ z.2.1,z.2.2⟩
section
variable {P:A9}{w:A7}{H:Hp}{h:Heap}{a:Addr}
def UP {u:HO} (ok:HOk P w H h) (e:Rd H a u):zxo P w H h a u:=e.ok ok
def L7 {kvs:List (Av×V)} (ok:HOk P w H h) (e:Rd H a (.dK kvs)):kvs.length<=A0/\(a == Ex)=false/\∃ vs,KV kvs vs/\h.DictOf (Dc P w) a vs:=
 show zxo P w H h a (.dK kvs) from UP ok e
def dk_of {kvs:List (Av×V)} (ok:HOk P w H h) (e:H a=some (.dK kvs)):kvs.length<=A0/\(a == Ex)=false/\∃ vs,KV kvs vs/\h.DictOf (Dc P w) a vs:=L7 ok (.inl e)
def LK {ks:List Av} (ok:HOk P w H h) (e:H a=some (.tup (ks.map kV))):(FH (Dc P w)).is h ks a:=by
 obtain ⟨_,its,r,o,h1,h2,n,h3⟩:=(show zxo P w H h a (.tup (ks.map kV)) from ok a _ e)
 exact ⟨o,its.toArray,n,h1,h2,h3,by simpa using XJ r⟩
def L8 {kvs:List (List Av×V)} (ok:HOk P w H h) (e:Rd H a (.dT kvs)):kvs.length<=A0/\(a == Ex)=false /\
  ∃ xs,KT H kvs xs/\h.DictOfH (FH (Dc P w)) a xs:=by
 obtain ⟨z,y,xs,r,o,es,ep,h1,h2,h3,h4,h5⟩:=(show zxo P w H h a (.dT kvs) from UP ok e)
 refine ⟨z,y,xs,r,o,es,ep,h1,h2,h3,h4,λ x hx=>?_,h5⟩;have all:∀ {l:List (List Av×V)}{m:List (List Av×Addr×Ad)},KT H l m->∀ x∈m,(FH (Dc P w)).is h x.1 x.2.1:=by
  intro l m q;induction q with
  | nil=>intro x hx;exact nomatch hx
  | @cons p q ps qs hq t ih=>
   intro x hx;rcases jc3.mp hx with e | hx
   ·subst e;exact LK ok (by rw [<- hq.1];exact hq.2.1)
   ·exact ih x hx
 exact all r x hx
def ZF {kvs:List (List Av×V)} (ok:HOk P w H h) (e:H a=some (.dT kvs)):kvs.length<=A0/\(a == Ex)=false /\
  ∃ xs,KT H kvs xs/\h.DictOfH (FH (Dc P w)) a xs:=L8 ok (.inl e)
end
def EW (H:Hp) (a:Addr) (y:V) (r:Option V):Prop:=
 (∃ kvs k,Rd H a (.dK kvs)/\y=kV k/\r=Co kvs k)\/∃ kvs k b,Rd H a (.dT kvs)/\y=.ref b/\H b=some (.tup (k.map kV))/\r=Co kvs k
def DPut (H:Hp) (a:Addr) (y v:V) (H':Hp):Prop:=
 (∃ kvs k,H a=some (.dK kvs)/\y=kV k/\kvs.length < A0/\H'=Ap H a (.dK (Cq kvs k v))) \/
 ∃ kvs k b,H a=some (.dT kvs)/\y=.ref b/\H b=some (.tup (k.map kV))/\kvs.length < A0/\H'=Ap H a (.dT (Cq kvs k v))
def DPut.t {H:Hp}{a b:Addr}{kvs:List (List Av×V)}{k:List Av}{v:V} (e:H a=some (.dT kvs)) (eb:H b=some (.tup (k.map kV))) (hl:kvs.length < A0):
  DPut H a (.ref b) v (Ap H a (.dT (Cq kvs k v))):=.inr ⟨kvs,k,b,e,rfl,eb,hl,rfl⟩
section
variable {X:Cx}{pins:List (Addr×Obj)}{σ:St}{H:Hp}{s:Ai}{a:Addr}{y v:V}{u r:Ad}{o:Option V}{A:Bs}{E:Ad->Ai->Prop}
def Inv.big (I:Inv X pins σ H s):Ex < s.heap.objs.size:=by
 have h:Eg < s.heap.objs.size:=(I.mod.glob.keeps I.bk).lt;exact Yo (by decide) h
def vX {Q:Ad->Ai->Prop} (hu:A.units + 1 < Df) (I:Inv X pins σ H s) (g:EW H a y (some v)) (ry:RelV y u) (h:∀ w' s',Inv X pins σ H s'->RelV v w'->Q w' s'):
  An (Aw X.prog X.w) A (IX (.ref a) u) Q E s:=by
 rcases g with ⟨kvs,k,e,ey,l⟩ | ⟨kvs,k,b,e,ey,eb,l⟩
 ·subst ey;obtain ⟨z,hd,vs,rel,dd⟩:=L7 I.hok e;obtain ⟨w',hw,rw'⟩:=RelO.some_of (v:=v) (o:=IY vs k) (by rw [l];exact rel.val k);exact wpAny_getItem_of (L9 ry) dd.mapOf hw (h w' _ (I.tok _) rw')
 ·subst ey;cases (show u=Value.ref b from ry);obtain ⟨z,hd,xs,rel,dd⟩:=L8 I.hok e;obtain ⟨w',hw,rw'⟩:=RelO.some_of (v:=v) (o:=(atKey xs k).map (·.2)) (by rw [l];exact rel.val k);obtain ⟨p,hp,hp2⟩:=jc2.mp hw;refine wpAny_getItem_heap (N5 hu) (LK I.hok eb) dd hp ?_;rw [hp2];exact h w' _ (I.tok _) rw'
def SW {Q:Ad->Ai->Prop} (hu:A.units + 1 < Df) (I:Inv X pins σ H s) (g:EW H a y o) (ry:RelV y u) (h:∀ s',Inv X pins σ H s'->Q (.bool o.isSome) s'):
  An (Aw X.prog X.w) A (Cn .In u (.ref a)) Q E s:=by
 rcases g with ⟨kvs,k,e,ey,l⟩ | ⟨kvs,k,b,e,ey,eb,l⟩
 ·subst ey;obtain ⟨z,hd,vs,rel,dd⟩:=L7 I.hok e;refine wpAny_in_of (L9 ry) hd dd.mapOf ?_;rw [<- (rel.val k).isSome_eq,<- l];exact h _ (I.tok _)
 ·subst ey;cases (show u=Value.ref b from ry);obtain ⟨z,hd,xs,rel,dd⟩:=L8 I.hok e;refine wpAny_in_heap (N5 hu) (LK I.hok eb) hd dd ?_;have q:=(rel.val k).isSome_eq;rw [Sy] at q;rw [<- q,<- l];exact h _ (I.tok _)
def zb {Q:Ad->Ai->Prop} (hu:A.units + 1 < Df) (I:Inv X pins σ H s) (g:EW H a y o) (ry:RelV y u) (h:∀ s',Inv X pins σ H s'->Q (.bool (!o.isSome)) s'):
  An (Aw X.prog X.w) A (Cn .NotIn u (.ref a)) Q E s:=by
 rcases g with ⟨kvs,k,e,ey,l⟩ | ⟨kvs,k,b,e,ey,eb,l⟩
 ·subst ey;obtain ⟨z,hd,vs,rel,dd⟩:=L7 I.hok e;refine wpAny_notIn_of (L9 ry) hd dd.mapOf ?_;rw [<- (rel.val k).isSome_eq,<- l];exact h _ (I.tok _)
 ·subst ey;cases (show u=Value.ref b from ry);obtain ⟨z,hd,xs,rel,dd⟩:=L8 I.hok e;refine wpAny_notIn_heap (N5 hu) (LK I.hok eb) hd dd ?_;have q:=(rel.val k).isSome_eq;rw [Sy] at q;rw [<- q,<- l];exact h _ (I.tok _)
def Wd {h':Heap}{t':Nat}{ob:HO} (I:Inv X pins σ H s) (mu:Mx (H a)) (hs:JY a s.heap h') (he:∃ q,h'.get? a=some q) (new:zxo X.prog X.w (Ap H a ob) h' a ob):
  Inv X pins σ (Ap H a ob) { s with heap:=h',toks:=t' }:=
 I.write (x:=a) (e:=a) mu (.inl rfl) (λ b q hb z=>(hs.2 b hb).trans z) he new
def qa {P:A9}{w:A7}{H':Hp}{h':Heap}{kvs:List (Av×V)}{vs:List (Av×Ad)} (z:kvs.length<=A0) (hd:(a == Ex)=false) (rel:KV kvs vs) (dd:h'.DictOf (Dc P w) a vs):
  zxo P w H' h' a (.dK kvs):=⟨z,hd,vs,rel,dd⟩
def vY {H':Hp}{Q:Unit->Ai->Prop} (hu:A.units + 1 < Df) (I:Inv X pins σ H s) (g:DPut H a y v H') (ry:RelV y u) (rv:RelV v r) (h:∀ s',Inv X pins σ H' s'->Q () s'):
  An (Aw X.prog X.w) A (setItem (.ref a) u r) Q E s:=by
 rcases g with ⟨kvs,k,e,ey,l,eH⟩ | ⟨kvs,k,b,e,ey,eb,l,eH⟩
 ·subst ey eH;obtain ⟨z,hd,vs,rel,dd⟩:=dk_of I.hok e;have hz:vs.length<=A0:=by rw [<- rel.length];exact z
  have hl:(Cq kvs k v).length<=A0:=by have:=T3 kvs k v;omega
  refine wpAny_setItem_pairs (hsz:=hz) (L9 ry) dd λ h' dd' hs=>h _ ?_;have he:∃ q,h'.get? a=some q:=let ⟨q,_,_,hq,_⟩:=dd';⟨q,hq⟩;exact Wd I (by rw [e];exact True.intro) hs he (qa hl hd (rel.put k rv) dd')
 ·subst ey eH;cases (show u=Value.ref b from ry);obtain ⟨z,hd,xs,rel,dd⟩:=ZF I.hok e;have hz:xs.length<=A0:=by rw [<- Paired.length rel];exact z
  have hl:(Cq kvs k v).length<=A0:=by have:=T3 kvs k v;omega
  refine wpAny_setItem_heap (hsz:=hz) (N5 hu) (LK I.hok eb) dd λ h' dd' hs=>h _ ?_;obtain ⟨q,es,ep,hq,h2,h3,h4,_,h5⟩:=dd';refine Wd I (by rw [e];exact True.intro) hs ⟨q,hq⟩ ⟨hl,hd,_,(rel.put k eb rv).keeps λ c ys ec=>?_,q,es,ep,hq,h2,h3,h4,h5⟩;rw [A8 (ZK ec e (λ z=>nomatch z))];exact ec
end
section
variable {X:Cx}{pins:List (Addr×Obj)}{σ:St}{H:Hp}{s:Ai}{a:Addr}{kvs:List (Av×V)}{k:Av}{u:Ad}{A:Bs}{E:Ad->Ai->Prop}
end
def yb {X:Cx}{pins:List (Addr×Obj)}{σ:St}{H:Hp}{s:Ai}{a:Addr}{y:V}{o:Option V} (I:Inv X pins σ H s) (g:EW H a y o):s.TypeIs (.ref a) "dict" := by
 rcases g with ⟨kvs,k,e,_,_⟩ | ⟨kvs,k,b,e,_,_,_⟩
 ·obtain ⟨_,_,vs,_,dd⟩:=L7 I.hok e;exact dd.typeIs
 ·obtain ⟨_,_,xs,_,dd⟩:=L8 I.hok e;exact dd.typeIs
section
variable {X:Cx}{o i e value:Expr}{pos pos' tpos:Pos}{td ty tv:TE}
end
def kg {P:A9}{w:A7}{H:Hp} (h:Heap) (hb:Ex < h.objs.size):zxo P w H (h.push { cls:=.type "dict",data:=.dict #[] }) h.objs.size (.dT []):=
 ⟨Fj _,beq_eq_false_iff_ne.mpr (Cb (C7 hb)),[],.nil,_,#[],0,C0 _ rfl,⟨rfl,rfl,rfl⟩,rfl,rfl,List.nodup_nil⟩
def xT:TE:=λ _ H Q=>∀ p,H p=none->Q (.ref p) (Ap H p (.dT []))
section
variable {X:Cx}{pos:Pos}
def kG:PE X (.Dict [] [] pos) xT:=λ pins s σ H Q I h=>
 wpAny_Dict_empty ⟨.ref s.heap.objs.size,_,I.laid (a:=s.heap.objs.size) (o:=.dT []) (t':=s.toks) (λ _ _ q=>Ci _ q) (A5 _) (kg s.heap I.big),rfl,h _ (I.hok.fresh (A5 _))⟩
end
end L2
namespace QQ
open PySem PySem.Spec PyProof.Rows L2
section
variable {M:Fm}{vs:List Nat}{H:Hp}{fps:AN}{F:List Addr}{Q:VK}
def Eb {k:Int}{d:Nat} (h:Bw M H fps vs F (.int k) d Q):Q (.int k) H:=h (.int k) H [] (λ _ _ h=>h) (by rw [Own];exact ⟨rfl,rfl⟩) (λ _ z=>nomatch z)
def Fv {k:Bool}{d:Nat} (h:Bw M H fps vs F (.bl k) d Q):Q (.bl k) H:=h (.bl k) H [] (λ _ _ h=>h) (by rw [Own];exact ⟨rfl,rfl⟩) (λ _ z=>nomatch z)
def vf {k:Str}{d:Nat} (h:Bw M H fps vs F (.str k) d Q):Q (.str k) H:=h (.str k) H [] (λ _ _ h=>h) (by rw [Own];exact ⟨rfl,rfl⟩) (λ _ z=>nomatch z)
def IA {x:PV}{v:V} (h:Bw M H fps vs F x (dv x) Q) (o:Own M.K H (Zv M vs fps) x 0 v []):Q v H:=h v H [] (λ _ _ h=>h) (o.dv.weak λ a z=>z.elim id λ z=>nomatch z) (λ _ z=>nomatch z)
def D9 {p:Addr}{o:HO} (hp:H p=none):∀ a u,H a=some u->Ap H p o a=some u:=λ a u h=>by rw [A8 (λ e=>by rw [e,hp] at h;cases h)];exact h
def Pk {xs:List PV}{ws:List V} (h:Bw M H fps vs F (.lst xs) 1 Q) (o:OwnL M.K H (Zv M vs fps) xs 0 ws []) {p:Addr} (hp:H p=none):Q (.ref p) (Ap H p (.lst ws)):=by
 refine h (.ref p) _ [p] (D9 hp) ?_ λ a ha=>.inr (by rw [jb7.mp ha];exact hp);rw [Own];refine ⟨p,ws,rfl,.inr ⟨(by decide),[],AV,rfl,(λ z=>nomatch z),?_⟩⟩;rw [LP];exact OwnL.move (S:=λ _=>False) (λ a u ha _=>D9 hp a u ha) (λ _ z=>z.elim) (λ a hd nz z=>z.elim nz λ z=>hd (by rw [jb7.mp z];exact hp)) xs 0 ws [] (λ _ z=>nomatch z) o
def atoms:List PV->Bool
 | []=>true
 | x::xs=>O1 x && atoms xs
def Ot:PV->Bool
 | .tup xs=>atoms xs
 | x=>O1 x
def Jn:List PV->Bool
 | []=>true
 | x::xs=>Ot x && Jn xs
def d1 (xs:List PV):Nat:=if Jn xs=true then om else 1
theorem OwnL.ats {K:Frag}{H:Hp}{Z Z':Addr->Prop}:∀ {xs:List PV}{ws:List V}{d d':Nat},QQ.atoms xs=true->OwnL K H Z xs d' ws []->OwnL K H Z' xs d ws []
 | [],ws,d,_,_,h=>by rw [OwnL] at h ⊢;exact h
 | x::xs,ws,d,_,ha,h=>by
  unfold QQ.atoms at ha;rw [AS] at ha;rw [OwnL] at h ⊢;obtain ⟨v,s,f1,f2,rfl,ef,dj,h1,h2⟩:=h;obtain ⟨rfl,rfl⟩:f1=[]/\f2=[]:=by simpa using ef.symm
  exact ⟨v,s,[],[],rfl,rfl,dj,(Own.atom ha.1 h1).2,h2.ats ha.2⟩
theorem Own.flat {K:Frag}{H:Hp}{Z Z':Addr->Prop}{x:PV}{v:V}{d d':Nat} (hx:Ot x=true) (h:Own K H Z x d' v []):Own K H Z' x d v []:=by
 cases x with
 | tup xs=>
  rw [Own] at h ⊢;obtain ⟨a,vs,e,ha,hl⟩:=h;exact ⟨a,vs,e,ha,hl.ats hx⟩
 | lst _=>cases hx
 | dct _=>cases hx
 | dcl _ _=>cases hx
 | exn _=>exact (Own.atom rfl h).2
 | emp=>exact (Own.atom rfl h).2
 | dko=>exact (Own.atom rfl h).2
 | scr _=>exact (Own.atom rfl h).2
 | non=>exact (Own.atom rfl h).2
 | bl _=>exact (Own.atom rfl h).2
 | int _=>exact (Own.atom rfl h).2
 | str _=>exact (Own.atom rfl h).2
theorem OwnL.ats0 {K:Frag}{H:Hp}{Z:Addr->Prop}:∀ {xs:List PV}{ws:List V}{d:Nat}{f:List Addr},QQ.atoms xs=true->OwnL K H Z xs d ws f->f=[]
 | [],ws,d,f,_,h=>by rw [OwnL] at h;exact h.2
 | x::xs,ws,d,f,ha,h=>by
  unfold QQ.atoms at ha;rw [AS] at ha;rw [OwnL] at h;obtain ⟨v,s,f1,f2,rfl,rfl,dj,h1,h2⟩:=h;rw [(Own.atom (Z':=Z) (d':=d) ha.1 h1).1,h2.ats0 ha.2];rfl
def Own.flatA {K:Frag}{H:Hp}{Z Z':Addr->Prop}{x:PV}{v:V}{d d':Nat}{f:List Addr} (hx:Ot x=true) (h:Own K H Z x d v f):f=[]/\Own K H Z' x d' v []:=by
 have e:f=[]:=by
  cases x with
  | tup xs=>
   rw [Own] at h;obtain ⟨a,vs,e,ha,hl⟩:=h;exact hl.ats0 hx
  | lst _=>cases hx
  | dct _=>cases hx
  | dcl _ _=>cases hx
  | exn _=>exact (Own.atom (Z':=Z) (d':=d) rfl h).1
  | emp=>exact (Own.atom (Z':=Z) (d':=d) rfl h).1
  | dko=>exact (Own.atom (Z':=Z) (d':=d) rfl h).1
  | scr _=>exact (Own.atom (Z':=Z) (d':=d) rfl h).1
  | non=>exact (Own.atom (Z':=Z) (d':=d) rfl h).1
  | bl _=>exact (Own.atom (Z':=Z) (d':=d) rfl h).1
  | int _=>exact (Own.atom (Z':=Z) (d':=d) rfl h).1
  | str _=>exact (Own.atom (Z':=Z) (d':=d) rfl h).1
 subst e;exact ⟨rfl,h.flat hx⟩
theorem OwnL.atoms {K:Frag}{H:Hp}{Z Z':Addr->Prop}:∀ {xs:List PV}{ws:List V}{d:Nat},Jn xs=true->OwnL K H Z xs 0 ws []->OwnL K H Z' xs d ws []
 | [],ws,d,_,h=>by rw [OwnL] at h ⊢;exact h
 | x::xs,ws,d,ha,h=>by
  unfold Jn at ha;rw [AS] at ha;rw [OwnL] at h ⊢;obtain ⟨v,s,f1,f2,rfl,ef,dj,h1,h2⟩:=h;obtain ⟨rfl,rfl⟩:f1=[]/\f2=[]:=by simpa using ef.symm
  exact ⟨v,s,[],[],rfl,rfl,dj,h1.flat ha.1,h2.atoms ha.2⟩
def IE {xs:List PV}{ws:List V} (h:Bw M H fps vs F (.lst xs) (d1 xs) Q) (o:OwnL M.K H (Zv M vs fps) xs 0 ws []) {p:Addr} (hp:H p=none):Q (.ref p) (Ap H p (.lst ws)):=by
 unfold d1 at h;split at h
 ·rename_i ha;refine h (.ref p) _ [p] (D9 hp) ?_ λ a ha=>.inr (by rw [jb7.mp ha];exact hp);rw [Own];refine ⟨p,ws,rfl,.inr ⟨(by decide),[],AV,rfl,(λ z=>nomatch z),?_⟩⟩;have o':OwnL M.K (Ap H p (.lst ws)) (Zv M vs fps) xs 0 ws []:=OwnL.move (S:=λ _=>False) (λ a u ha _=>D9 hp a u ha) (λ _ z=>z.elim) (λ _ _ n=>n) xs 0 ws [] (λ _ z=>nomatch z) o;exact o'.atoms ha
 ·exact Pk h o hp
def Nb {xs:List PV}{ws:List V} (h:Bw M H fps vs F (.tup xs) 0 Q) (o:OwnL M.K H (Zv M vs fps) xs 0 ws []) {p:Addr} (hp:H p=none):Q (.ref p) (Ap H p (.tup ws)):=by
 refine h (.ref p) _ [] (D9 hp) ?_ λ a ha=>nomatch ha
 rw [Own];refine ⟨p,ws,rfl,AV,?_⟩;rw [RM];exact OwnL.move (S:=λ _=>False) (λ a u ha _=>D9 hp a u ha) (λ _ z=>z.elim) (λ a hd nz z=>z.elim nz λ z=>nomatch z) xs 0 ws [] (λ _ z=>nomatch z) o
def Um {xs:List PV}{ws:List V} (h:Bw M H fps vs F (.lst xs) om Q) {Z:Addr->Prop} (o:OwnL M.K H Z xs om ws F) {p:Addr} (hp:H p=none):Q (.ref p) (Ap H p (.lst ws)):=by
 refine h (.ref p) _ (p::F) (D9 hp) ?_ λ a ha=>(jc3.mp ha).elim (λ e=>.inr (by rw [e];exact hp)) .inl;rw [Own];refine ⟨p,ws,rfl,.inr ⟨(by decide),F,AV,rfl,λ z=>?_,?_⟩⟩
 ·obtain ⟨ys,e⟩:=OwnL.lsts xs om ws F o p z;rw [hp] at e;cases e
 ·exact OwnL.full xs ws F (OwnL.move (S:=λ _=>False) (Z':=Z) (λ a u ha _=>D9 hp a u ha) (λ _ z=>z.elim) (λ _ _ n=>n) xs om ws F (λ _ _ z=>z) o)
def wo {xs:List PV}{ws:List V} (h:Bw M H fps vs F (.tup xs) om Q) {Z:Addr->Prop} (o:OwnL M.K H Z xs om ws F) {p:Addr} (hp:H p=none):Q (.ref p) (Ap H p (.tup ws)):=by
 refine h (.ref p) _ F (D9 hp) ?_ λ a ha=>.inl ha;rw [Own];exact ⟨p,ws,rfl,AV,OwnL.full xs ws F (OwnL.move (S:=λ _=>False) (Z':=Z) (λ a u ha _=>D9 hp a u ha) (λ _ z=>z.elim) (λ _ _ n=>n) xs om ws F (λ _ _ z=>z) o)⟩
end
def Own.seqL {K:Frag}{H:Hp}{Z:Addr->Prop}{xs:List PV}{d:Nat}{v:V}{fp:List Addr} (h:Own K H Z (.lst xs) d v fp):∃ a ws,v=.ref a/\Bl K H a ws/\ws.length=xs.length:=by
 rw [Own] at h;obtain ⟨a,ws,e,⟨_,hr,_,ol⟩ | ⟨_,f,ha,_,_,ol⟩⟩:=h
 ·exact ⟨a,ws,e,.inl (.inl hr.1),ol.length⟩
 ·exact ⟨a,ws,e,.inl (.inl ha),ol.length⟩
def Own.seqT {K:Frag}{H:Hp}{Z:Addr->Prop}{xs:List PV}{d:Nat}{v:V}{fp:List Addr} (h:Own K H Z (.tup xs) d v fp):∃ a ws,v=.ref a/\CM K H a ws/\ws.length=xs.length:=by
 rw [Own] at h;obtain ⟨a,ws,e,hr,ol⟩:=h;exact ⟨a,ws,e,.inl (.inl hr),ol.length⟩
def Own.coldL {K:Frag}{H:Hp}{Z:Addr->Prop}{xs:List PV}{v:V} (h:Own K H Z (.lst xs) 0 v []):∃ a ws,v=.ref a/\H a=some (.lst ws)/\OwnL K H Z xs 0 ws []:=by
 rw [Own] at h;obtain ⟨a,ws,e,⟨_,hr,_,ol⟩ | ⟨h,_⟩⟩:=h
 ·exact ⟨a,ws,e,hr.1,ol⟩
 ·exact absurd rfl h
def Own.coldT {K:Frag}{H:Hp}{Z:Addr->Prop}{xs:List PV}{v:V} (h:Own K H Z (.tup xs) 0 v []):∃ a ws,v=.ref a/\H a=some (.tup ws)/\OwnL K H Z xs 0 ws []:=by
 rw [Own] at h;exact h
theorem OwnL.app {K:Frag}{H:Hp}{Z:Addr->Prop}:∀ {xs ys:List PV}{ws us:List V},OwnL K H Z xs 0 ws []->OwnL K H Z ys 0 us []->OwnL K H Z (xs++ys) 0 (ws++us) []
 | [],ys,ws,us,h,h'=>by rw [OwnL] at h;obtain ⟨rfl,_⟩:=h;exact h'
 | x::xs,ys,ws,us,h,h'=>by
  rw [OwnL] at h;obtain ⟨v,s,f1,f2,rfl,ef,dj,h1,h2⟩:=h;obtain ⟨rfl,rfl⟩:f1=[]/\f2=[]:=by simpa using ef.symm
  show OwnL K H Z (x::(xs++ys)) 0 (v::(s++us)) [];rw [OwnL];exact ⟨v,s++us,[],[],rfl,rfl,λ _ z=>(nomatch z),h1,h2.app h'⟩
theorem OwnL.drop {K:Frag}{H:Hp}{Z:Addr->Prop}:∀ {xs:List PV}{ws:List V} (n:Nat),OwnL K H Z xs 0 ws []->OwnL K H Z (xs.drop n) 0 (ws.drop n) []
 | xs,ws,0,h=>h
 | [],ws,n + 1,h=>by rw [OwnL] at h;obtain ⟨rfl,_⟩:=h;rw [Yv,Yv,OwnL];exact ⟨rfl,rfl⟩
 | x::xs,ws,n + 1,h=>by
  rw [OwnL] at h;obtain ⟨v,s,f1,f2,rfl,ef,dj,h1,h2⟩:=h;obtain ⟨rfl,rfl⟩:f1=[]/\f2=[]:=by simpa using ef.symm
  exact h2.drop n
theorem OwnL.take {K:Frag}{H:Hp}{Z:Addr->Prop}:∀ {xs:List PV}{ws:List V} (n:Nat),OwnL K H Z xs 0 ws []->OwnL K H Z (xs.take n) 0 (ws.take n) []
 | xs,ws,0,h=>by rw [OG,OG,OwnL];exact ⟨rfl,rfl⟩
 | [],ws,n + 1,h=>by rw [OwnL] at h;obtain ⟨rfl,_⟩:=h;rw [Sm,Sm,OwnL];exact ⟨rfl,rfl⟩
 | x::xs,ws,n + 1,h=>by
  rw [OwnL] at h;obtain ⟨v,s,f1,f2,rfl,ef,dj,h1,h2⟩:=h;obtain ⟨rfl,rfl⟩:f1=[]/\f2=[]:=by simpa using ef.symm
  rw [SE,SE,OwnL];exact ⟨v,s.take n,[],[],rfl,rfl,λ _ z=>(nomatch z),h1,h2.take n⟩
def OwnL.nth {K:Frag}{H:Hp}{Z:Addr->Prop}{xs:List PV}{ws:List V}{j:Nat}{x:PV} (h:OwnL K H Z xs 0 ws []) (e:xs[j]?=some x):∃ w,ws[j]?=some w/\Own K H Z x 0 w []:=by
 have hj:j < ws.length:=by rw [h.length];exact (jb1.mp e).1
 obtain ⟨y,e1,e2⟩:=h.get (i:=j) (w:=ws[j]) (by simp [hj]);rw [e] at e1;cases e1;exact ⟨_,by simp [hj],e2⟩
def cold {M:Fm}{vs:List Nat}{H:Hp}{fps:AN}{x:PV}{d:Nat}{v:V}{fp:List Addr} (o:Own M.K H (Zt M vs fps fp) x d v fp) (hf:∀ a∈fp,¬ Zf M fps a):Own M.K H (Zv M vs fps) x 0 v []:=
 Own.freeze (λ _ z=>.inl z) x d v fp (λ a ha z=>hf a ha z.zf) o
def Bf:PV->Nat->PV->Nat->Option (PV×Nat)
 | .int i,_,.int j,_=>some (.int (i + j),om)
 | .lst xs,_,.lst ys,_=>if xs.length + ys.length<=A0 then some (.lst (xs++ys),d1 (xs++ys)) else none
 | .tup xs,_,.tup ys,_=>if xs.length + ys.length<=A0 then some (.tup (xs++ys),0) else none
 | _,_,_,_=>none
def Ki (p:Int->Int->Bool) (g:Int->Int->Int):PV->Nat->PV->Nat->Option (PV×Nat)
 | .int i,_,.int j,_=>if p i j then some (.int (g i j),om) else none
 | _,_,_,_=>none
def FO (i j:Int):Bool:=(decide (-(2 ^ 64) < i) && decide (i < 2 ^ 64)) || (decide (-(2 ^ 64) < j) && decide (j < 2 ^ 64))
def FP (_ j:Int):Bool:=decide (0 < j) && decide (j.natAbs.log2 < 9000)
def Hx (_ j:Int):Bool:=decide (0 < j)
def Ju (i j:Int):Bool:=decide (0<=j) && decide (j<=1000) && decide (i.natAbs < 2 ^ 64)
def Ec:=Ki (λ _ _=>true) (λ i j=>i - j)
def Eh (n:Nat) (xs:List PV):List PV:=(AB n xs).flatten
def BU:PV->Nat->PV->Nat->Option (PV×Nat)
 | .int i,_,.int j,_=>if FO i j then some (.int (i * j),om) else none
 | .lst xs,_,.int k,_=>if -(2 ^ 62)<=k/\k < 2 ^ 62/\xs.length * k.toNat<=A0 then some (.lst (Eh k.toNat xs),d1 (Eh k.toNat xs)) else none
 | _,_,_,_=>none
def Ea:=Ki FP (λ i j=>i / j)
def Cy:=Ki Hx (λ i j=>i % j)
def Rw:=Ki Ju (λ i j=>i ^ j.toNat)
section
variable {X:Cx}
def kD:OpR X (EE .FloorDiv) (rI (λ _ j=>0 < j/\j.natAbs.log2 < 9000) λ i j=>.int (i / j)):=LV λ i j _ _ _ _ _ hc q=>by
 have h1:(0:Int) < j:=hc.1;exact floordiv_int (by omega) (by rw [Int.fdiv_eq_ediv_of_nonneg i (by omega)];exact q) (.inl (PyProof.noPylong_of_log2 hc.2))
end
def BB {X:Cx}{e:Expr}{t t':TE} (h:PE X e t) (i:∀ σ H Q,t' σ H Q->t σ H Q):PE X e t':=λ pins s σ H Q I q=>h pins s σ H Q I (i σ H Q q)
def JK {X:Cx}{e:Expr}{t t':TT} (h:PT X e t) (i:∀ σ H Q,t' σ H Q->t σ H Q):PT X e t':=λ pins s σ H Q I q=>h pins s σ H Q I (i σ H Q q)
def V3 {X:Cx}{e:Expr}{t t':TT} (h:PW X e t) (i:∀ σ H Q,t' σ H Q->t σ H Q):PW X e t':=λ wh pins s σ H Q I q=>h wh pins s σ H Q I (i σ H Q q)
def Vu {X:Cx}{e:List Expr}{t t':TA} (h:PA X e t) (i:∀ σ H Q,t' σ H Q->t σ H Q):PA X e t':=λ p pins s σ H Q I q=>h p pins s σ H Q I (i σ H Q q)
def CC {X:Cx}{e:Stmt}{t t':TS} (h:PS X e t) (i:∀ D σ H,t' D σ H->t D σ H):PS X e t':=λ pins s σ H D I q=>h pins s σ H D I (i D σ H q)
def W6 {X:Cx}{e:List Stmt}{t t':TS} (h:Eo X e t) (i:∀ D σ H,t' D σ H->t D σ H):Eo X e t':=λ pins s σ H D I q=>h pins s σ H D I (i D σ H q)
section
variable {X:Cx}{M:Fm}{a b:Expr}{f g:Fx}{vs vs':List Nat}{pos:Pos}{σ:St}{H:Hp}{Q:VK}
def kC:OpR X (EE .Add) (λ x y H Q=>∃ a b ys,x=.ref a/\y=.ref b/\CM X.K H a []/\CM X.K H b ys/\Q (.ref b) H):=by
 intro pins s σ H x y v u Q I rx ry h;obtain ⟨a,b,ys,rfl,rfl,ha,hb,q⟩:=h;cases rx;cases ry;obtain ⟨its,r1,p1,_⟩:=I.tuple ha;obtain ⟨its2,r2,p2,_⟩:=I.tuple hb;cases r1;obtain ⟨⟨cls,dd,data,sl⟩,ho,hc,n,hd⟩:=id p1;obtain ⟨⟨cls2,dd2,data2,sl2⟩,ho2,hc2,n2,hd2⟩:=id p2;simp only at hc hd hc2 hd2;subst hc hd hc2 hd2;exact concat_meets ⟨_,ho,rfl⟩ ⟨_,ho2,rfl⟩ Ql seq_tuple_add Qu Qw (Qx _ _)
  (tuple_addW0 a b _ its2.toArray n n2 dd dd2 sl sl2 rfl) ⟨ho,ho2,⟨.ref b,H,I,rfl,q⟩⟩
theorem qX (hv:∀ i∈vs,M.Ms i=false) (hK:M.K=X.K) (ha:PE X a (tE M f vs)) (hb:PE X b (tE M g vs')):PE X (.BinOp a .Add b pos) (tE M (Ab Bf f g) (vs++vs')):=by
 refine BB (QY (qrr.or (qrq.or (qnu.or kC))) ha hb) λ σ H Q h=>DC hv (λ x d y e z c v w H fps f1 f2 Q ho o1 o2 dj nz zd lf=>?_) h;cases x with
 | int i=>
  cases y with
  | int j=>
   cases ho;rw [Own] at o1 o2;exact .inl ⟨i,j,o1.1,o2.1,Eb lf⟩
  | _=>cases ho
 | lst xs=>
  cases y with
  | lst ys=>
   dsimp only [Bf] at ho;split at ho
   ·rename_i hl;cases ho;obtain ⟨p,ws,rfl,hp,ol⟩:=(cold o1 λ a ha=>nz a (BP _ ha)).coldL;obtain ⟨p2,us,rfl,hp2,ol2⟩:=(cold o2 λ a ha=>nz a (BJ _ ha)).coldL;exact .inr (.inl ⟨p,p2,ws,us,rfl,rfl,hp,hp2,by rw [ol.length,ol2.length];exact hl,λ q hq=>IE lf (ol.app ol2) hq⟩)
   ·cases ho
  | _=>cases ho
 | tup xs=>
  cases y with
  | tup ys=>
   dsimp only [Bf] at ho;split at ho
   ·rename_i hl;cases ho;obtain ⟨p,ws,rfl,hp,ol⟩:=(cold o1 λ a ha=>nz a (BP _ ha)).coldT;obtain ⟨p2,us,rfl,hp2,ol2⟩:=(cold o2 λ a ha=>nz a (BJ _ ha)).coldT;by_cases hw:ws=[]
    ·subst hw;refine .inr (.inr (.inr ⟨p,p2,us,rfl,rfl,.inl (.inl hp),.inl (.inl hp2),?_⟩));have ex:xs=[]:=by
      have:=ol.length
      cases xs with
      | nil=>rfl
      | cons _ _=>simp at this
     subst ex;exact IA (x:=.tup ys) lf (by rw [Own];exact ⟨p2,us,rfl,hp2,ol2⟩)
    ·refine .inr (.inr (.inl ⟨p,p2,ws,us,rfl,rfl,.inl (.inl hp),.inl (.inl hp2),hw,by rw [ol.length,ol2.length];exact hl,λ hu=>?_,λ hu q hq=>Nb lf (ol.app ol2) hq⟩));subst hu;have ey:ys=[]:=by
      have:=ol2.length
      cases ys with
      | nil=>rfl
      | cons _ _=>simp at this
     subst ey;rw [J0] at lf;exact IA (x:=.tup xs) lf (by rw [Own];exact ⟨p,ws,rfl,hp,ol⟩)
   ·cases ho
  | _=>cases ho
 | _=>cases ho
theorem OA {op:Ho}{p:Int->Int->Bool}{k:Int->Int->Int}{C:Int->Int->Prop} (hop:OpR X (EE op) (rI C λ i j=>.int (k i j))) (hC:∀ i j,p i j=true->C i j) (hv:∀ i∈vs,M.Ms i=false) (ha:PE X a (tE M f vs)) (hb:PE X b (tE M g vs')):
  PE X (.BinOp a op b pos) (tE M (Ab (Ki p k) f g) (vs++vs')):=by
 refine BB (QY hop ha hb) λ σ H Q h=>DC hv (λ x d y e z c v w H fps f1 f2 Q ho o1 o2 dj nz zd lf=>?_) h;cases x with
 | int i=>
  cases y with
  | int j=>
   dsimp only [Ki] at ho;split at ho
   ·rename_i hp;cases ho;rw [Own] at o1 o2;exact ⟨i,j,o1.1,o2.1,hC i j hp,Eb lf⟩
   ·cases ho
  | _=>cases ho
 | _=>cases ho
theorem OwnL.rep {K:Frag}{H:Hp}{Z:Addr->Prop}{xs:List PV}{ws:List V} (h:OwnL K H Z xs 0 ws []):∀ n,OwnL K H Z (Eh n xs) 0 (AB n ws).flatten []
 | 0=>by
  unfold Eh;rw [YG,YG,Y5,Y5,OwnL];exact ⟨rfl,rfl⟩
 | n + 1=>by
  have:=h.rep n
  unfold Eh at this ⊢;rw [GK,GK,Kx,Kx];exact h.app this
def zP:OpR X (EE .Sub) (rI (λ _ _=>True) λ i j=>.int (i - j)):=LV λ _ _ _ _ _ _ _ _ q=>sub_int q
def SY {i j:Int} (h:FO i j=true):CMul i j:=by
 unfold FO at h;simp only [EN,AS,decide_eq_true_eq] at h;exact h
theorem xP (hv:∀ i∈vs,M.Ms i=false) (ha:PE X a (tE M f vs)) (hb:PE X b (tE M g vs')):PE X (.BinOp a .Mult b pos) (tE M (Ab BU f g) (vs++vs')):=by
 refine BB (QY (qre.or qA) ha hb) λ σ H Q h=>DC hv (λ x d y e z c v w H fps f1 f2 Q ho o1 o2 dj nz zd lf=>?_) h;cases x with
 | int i=>
  cases y with
  | int j=>
   dsimp only [BU] at ho;split at ho
   ·rename_i hp;cases ho;rw [Own] at o1 o2;exact .inl ⟨i,j,o1.1,o2.1,SY hp,Eb lf⟩
   ·cases ho
  | _=>cases ho
 | lst xs=>
  cases y with
  | int k=>
   dsimp only [BU] at ho;split at ho
   ·rename_i hl;cases ho;obtain ⟨p,ws,rfl,hp,ol⟩:=(cold o1 λ a ha=>nz a (BP _ ha)).coldL;rw [Own] at o2;exact .inr ⟨p,k,ws,rfl,o2.1,hp,by omega,by omega,by rw [ol.length];exact hl.2.2,λ q hq=>IE lf (ol.rep k.toNat) hq⟩
   ·cases ho
  | _=>cases ho
 | _=>cases ho
def Tb {i j:Int} (h:FP i j=true):0 < j/\j.natAbs.log2 < 9000:=by
 unfold FP at h;simp only [AS,decide_eq_true_eq] at h;exact h
def Ta {i j:Int} (h:Hx i j=true):0 < j:=by
 unfold Hx at h;simpa using h
def SX {i j:Int} (h:Ju i j=true):M3 i j:=by
 unfold Ju at h;simp only [AS,decide_eq_true_eq] at h;exact ⟨h.1.1,by omega,h.2⟩
def Lh:PV->Nat->Option (PV×Nat)
 | .int i,_=>some (.int (-i),om)
 | _,_=>none
theorem xQ (ha:PE X a (tE M f vs)):PE X (.UnaryOp .USub a pos) (tE M (Bu Lh f) vs):=by
 refine BB (ZO xJ ha) λ σ H Q h=>Oy (λ x d z c v H fps f1 Q ho o1 nz zd lf=>?_) h;cases x with
 | int i=>cases ho;rw [Own] at o1;exact ⟨i,o1.1,Eb lf⟩
 | _=>cases ho
def BC (p:Int->Int->Bool):PV->Nat->PV->Nat->Option (PV×Nat)
 | .int i,_,.int j,_=>some (.bl (p i j),om)
 | _,_,_,_=>none
theorem Na {p:Int->Int->Bool}{x y z:PV}{d e c:Nat}{v w:V}{fps:AN}{f1 f2 F:List Addr}{Z Z':Addr->Prop} (ho:BC p x d y e=some (z,c)) (o1:Own M.K H Z x d v f1) (o2:Own M.K H Z' y e w f2) (lf:Bw M H fps vs F z c Q):Fh (λ i j=>.bl (p i j)) v w H Q:=by
 cases x with
 | int i=>
  cases y with
  | int j=>
   cases ho;rw [Own] at o1 o2;exact ⟨i,j,o1.1,o2.1,Fv lf⟩
  | _=>cases ho
 | _=>cases ho
def CI (f:PV->Option Bq):List PV->Option (List Bq)
 | []=>some []
 | x::xs=>match f x,CI f xs with
  | some a,some r=>some (a::r)
  | _,_=>none
def Dp:Nat->PV->Option Bq
 | 0,_=>none
 | n + 1,x=>match x with
  | .non=>some .none
  | .bl b=>some (.bool b)
  | .int i=>some (.int i)
  | .str z=>if PyData.strOk z=true then some (.str z) else none
  | .lst xs=>(CI (Dp n) xs).map .list
  | .tup xs=>(CI (Dp n) xs).map .tuple
  | _=>none
def Be (neg:Bool) (x:PV) (_:Nat) (y:PV) (_:Nat):Option (PV×Nat):=match Dp 20 x,Dp 20 y with
 | some a,some b=>some (.bl (neg^^EF a b),om)
 | _,_=>none
theorem PY {f:PV->Option Bq}{n:Nat} (hf:∀ x D,f x=some D->D.canLay0=true/\D.depth<=n):∀ {xs:List PV}{Ds:List Bq},CI f xs=some Ds->Hs Ds=true/\Ll Ds<=n
 | [],Ds,h=>by cases h;rw [Hs,Ll];exact ⟨rfl,Fj _⟩
 | x::xs,Ds,h=>by
  unfold CI at h;split at h
  ·rename_i a r h1 h2;cases h;have h3:=hf x a h1;have h4:=PY hf h2;rw [Hs,Ll,h3.1,h4.1];exact ⟨rfl,Nat.max_le.mpr ⟨h3.2,h4.2⟩⟩
  ·cases h
theorem Ib:∀ (n:Nat) (x:PV) (D:Bq),Dp n x=some D->D.canLay0=true/\D.depth<=n
 | 0,_,_,h=>by cases h
 | n + 1,x,D,h=>by
  unfold Dp at h;cases x with
  | non=>cases h;rw [Kc,PyData.depth] <;> first | exact ⟨rfl,Fj _⟩ | (intros;contradiction)
  | bl b=>cases h;rw [Kc,PyData.depth] <;> first | exact ⟨rfl,Fj _⟩ | (intros;contradiction)
  | int i=>cases h;rw [Kc,PyData.depth] <;> first | exact ⟨rfl,Fj _⟩ | (intros;contradiction)
  | str z=>
   dsimp only at h;split at h
   ·rename_i hz;cases h;rw [Kc,PyData.depth] <;> first | exact ⟨hz,Fj _⟩ | (intros;contradiction)
   ·cases h
  | lst xs=>
   obtain ⟨Ds,e,rfl⟩:=jc2.mp h
   have:=PY (Ib n) e
   rw [Kc,PyData.depth];exact ⟨this.1,Y4 this.2⟩
  | tup xs=>
   obtain ⟨Ds,e,rfl⟩:=jc2.mp h
   have:=PY (Ib n) e
   rw [Kc,PyData.depth];exact ⟨this.1,Y4 this.2⟩
  | emp=>cases h
  | dko=>cases h
  | scr ns=>cases h
  | dct _=>cases h
  | dcl _ _=>cases h
  | exn _=>cases h
theorem IK {pins:List (Addr×Obj)}{s:Ai}{Z:Addr->Prop} (I:L2.Inv X pins σ H s):∀ (n:Nat) (x:PV) (d:Nat) (v:V) (fp:List Addr) (u:Ad) (D:Bq),Dp n x=some D->Own X.K H Z x d v fp->RelV v u->∃ as,Reads s.heap u D as
 | 0,_,_,_,_,_,_,h,_,_=>by cases h
 | n + 1,x,d,v,fp,u,D,h,o,r=>by
  have all:∀ (xs:List PV) (d:Nat) (ws:List V) (fp:List Addr) (us:List Ad) (Ds:List Bq),CI (Dp n) xs=some Ds->OwnL X.K H Z xs d ws fp->Vals ws us->∃ as,ReadsAll s.heap us Ds as:=λ xs=>by
   induction xs with
   | nil=>
    intro d ws fp us Ds h o r;cases h;rw [OwnL] at o;obtain ⟨rfl,_⟩:=o;cases r;exact ⟨_,.nil⟩
   | cons y ys ih=>
    intro d ws fp us Ds h o r;unfold CI at h;split at h
    ·rename_i a rr h1 h2;cases h;rw [OwnL] at o;obtain ⟨v,s,f1,f2,rfl,_,_,o1,o2⟩:=o;cases r with
     | cons r1 r2=>
      obtain ⟨as,ra⟩:=IK I n y d v f1 _ a h1 o1 r1;obtain ⟨bs,rb⟩:=ih d s f2 _ rr h2 o2 r2;exact ⟨_,.cons ra rb⟩
    ·cases h
  unfold Dp at h;cases x with
  | non=>cases h;rw [Own] at o;obtain ⟨rfl,_⟩:=o;cases r;exact ⟨_,.none⟩
  | bl b=>cases h;rw [Own] at o;obtain ⟨rfl,_⟩:=o;cases r;exact ⟨_,.bool b⟩
  | int i=>cases h;rw [Own] at o;obtain ⟨rfl,_⟩:=o;obtain ⟨t,rfl⟩:=r;exact ⟨_,.int i t⟩
  | str z=>
   dsimp only at h;split at h
   ·cases h;rw [Own] at o;obtain ⟨rfl,_⟩:=o;obtain ⟨t,rfl⟩:=r;exact ⟨_,.str z t⟩
   ·cases h
  | lst xs=>
   obtain ⟨Ds,e,rfl⟩:=jc2.mp h;have hh:∃ a ws d' f,v=.ref a/\H a=some (.lst ws)/\OwnL X.K H Z xs d' ws f:=by
    rw [Own] at o;obtain ⟨a,ws,ev,⟨_,hr,_,ol⟩ | ⟨_,f,ha,_,_,ol⟩⟩:=o
    ·exact ⟨a,ws,_,_,ev,hr.1,ol⟩
    ·exact ⟨a,ws,_,_,ev,ha,ol⟩
   obtain ⟨a,ws,d',f,rfl,ha,ol⟩:=hh;cases r;obtain ⟨its,rv,⟨ob,nn,e1,e2,e3,e4⟩,_⟩:=I.list (.inl (.inl ha));obtain ⟨as,ra⟩:=all xs d' ws f its Ds e ol rv;exact ⟨_,.list e1 e2 e4 ra⟩
  | tup xs=>
   obtain ⟨Ds,e,rfl⟩:=jc2.mp h;rw [Own] at o;obtain ⟨a,ws,rfl,ha,ol⟩:=o;cases r;obtain ⟨its,rv,⟨ob,e1,e2,nn,e4⟩,_⟩:=I.tuple (.inl (.inl ha));obtain ⟨as,ra⟩:=all xs _ ws fp its Ds e ol rv;exact ⟨_,.tuple e1 e2 e4 ra⟩
  | emp=>cases h
  | dko=>cases h
  | scr ns=>cases h
  | dct _=>cases h
  | dcl _ _=>cases h
  | exn _=>cases h
def Jl (K:Frag) (neg:Bool):R2:=λ v w H Q=>∃ x y d e Z Z' f1 f2 a b,Own K H Z x d v f1/\Own K H Z' y e w f2/\Dp 20 x=some a/\Dp 20 y=some b/\Q (.bl (neg^^EF a b)) H
def qv (hu:X.A.units + 64 < Df):OpR X (Cn .Eq) (Jl X.K false):=by
 intro pins s σ H v w u u' Q I rx ry h;obtain ⟨x,y,d,e,Z,Z',f1,f2,a,b,o1,o2,h1,h2,q⟩:=h;obtain ⟨as,ra⟩:=IK I 20 x d v f1 u a h1 o1 rx;obtain ⟨bs,rb⟩:=IK I 20 y e w f2 u' b h2 o2 ry;have l1:=Ib 20 x a h1;have l2:=Ib 20 y b h2;exact SeqAt.compareEq_reads ra rb l1.1 l2.1 (by have:=OK a.depth b.depth;omega) ⟨.bl _,H,I,rfl,by simpa using q⟩
def q0 (hu:X.A.units + 64 < Df):OpR X (Cn .NotEq) (Jl X.K true):=by
 intro pins s σ H v w u u' Q I rx ry h;obtain ⟨x,y,d,e,Z,Z',f1,f2,a,b,o1,o2,h1,h2,q⟩:=h;obtain ⟨as,ra⟩:=IK I 20 x d v f1 u a h1 o1 rx;obtain ⟨bs,rb⟩:=IK I 20 y e w f2 u' b h2 o2 ry;have l1:=Ib 20 x a h1;have l2:=Ib 20 y b h2;exact SeqAt.compareNe_reads ra rb l1.1 l2.1 (by have:=OK a.depth b.depth;omega) ⟨.bl _,H,I,rfl,by simpa using q⟩
def WR {neg:Bool}{x y z:PV}{d e c:Nat}{v w:V}{fps:AN}{f1 f2 F:List Addr}{Z Z':Addr->Prop} (hK:M.K=X.K) (ho:Be neg x d y e=some (z,c)) (o1:Own M.K H Z x d v f1) (o2:Own M.K H Z' y e w f2) (lf:Bw M H fps vs F z c Q):Jl X.K neg v w H Q:=by
 rw [hK] at o1 o2;unfold Be at ho;split at ho
 ·rename_i a b ea eb;cases ho;exact ⟨x,y,d,e,Z,Z',f1,f2,a,b,o1,o2,ea,eb,Fv lf⟩
 ·cases ho
def isNon:PV->Bool
 | .non=>true
 | _=>false
def EK (neg:Bool):PV->Nat->PV->Nat->Option (PV×Nat)
 | .bl a,_,.bl b,_=>some (.bl (neg^^(a == b)),om)
 | x,_,.non,_=>some (.bl (neg^^isNon x),om)
 | _,_,_,_=>none
def qrl:OpR X (Cn .Is) (λ x y H Q=>∃ i j,x=.bl i/\y=.bl j/\Q (.bl (i == j)) H):=by
 intro pins s σ H x y v u Q I rx ry h;obtain ⟨i,j,rfl,rfl,q⟩:=h;cases rx;cases ry;exact is_bool ⟨.bl _,H,I,rfl,q⟩
def qgi:OpR X (Cn .IsNot) (λ x y H Q=>∃ i j,x=.bl i/\y=.bl j/\Q (.bl (i != j)) H):=by
 intro pins s σ H x y v u Q I rx ry h;obtain ⟨i,j,rfl,rfl,q⟩:=h;cases rx;cases ry;exact isnot_bool ⟨.bl _,H,I,rfl,q⟩
theorem Own.isNon {K:Frag}{Z:Addr->Prop}{x:PV}{d:Nat}{v:V}{fp:List Addr} (o:Own K H Z x d v fp):decide (v=.non)=QQ.isNon x:=by
 cases x with
 | non=>rw [Own] at o;rw [o.1];rfl
 | bl b=>rw [Own] at o;rw [o.1];rfl
 | int b=>rw [Own] at o;rw [o.1];rfl
 | str b=>rw [Own] at o;rw [o.1];rfl
 | emp=>rw [Own] at o;obtain ⟨_,a,rfl,_⟩:=o;rfl
 | dko=>rw [Own] at o;obtain ⟨_,a,rfl,_⟩:=o;rfl
 | scr ns=>rw [Own] at o;obtain ⟨_,a,rfl,_⟩:=o;rfl
 | exn c=>rw [Own] at o;obtain ⟨_,a,_,rfl,_⟩:=o;rfl
 | dct kvs=>rw [Own] at o;obtain ⟨a,rfl,_⟩:=o;rfl
 | dcl ks xs=>rw [Own] at o;obtain ⟨a,ws,rfl,_⟩:=o;rfl
 | lst xs=>rw [Own] at o;obtain ⟨a,ws,rfl,_⟩:=o;rfl
 | tup xs=>rw [Own] at o;obtain ⟨a,ws,rfl,_⟩:=o;rfl
def Wm {x y z:PV}{d e c:Nat}{v w:V}{fps:AN}{f1 f2 F:List Addr}{Z Z':Addr->Prop}{neg:Bool} (ho:EK neg x d y e=some (z,c)) (o1:Own M.K H Z x d v f1) (o2:Own M.K H Z' y e w f2) (lf:Bw M H fps vs F z c Q):(∃ i j,v=.bl i/\w=.bl j/\Q (.bl (neg^^(i == j))) H)\/(w=.non/\Q (.bl (neg^^decide (v=.non))) H):=by
 unfold EK at ho;split at ho
 ·cases ho;rw [Own] at o1 o2;exact .inl ⟨_,_,o1.1,o2.1,Fv lf⟩
 ·cases ho;rw [Own] at o2;rw [o1.isNon];exact .inr ⟨o2.1,Fv lf⟩
 ·cases ho
def Ct:List PV->Option (List Av)
 | []=>some []
 | .int i::r=>(Ct r).map (.inl i::·)
 | .str x::r=>(Ct r).map (.inr x::·)
 | _=>none
theorem JM {K:Frag}{Z:Addr->Prop}:∀ {xs:List PV}{ws:List V}{d:Nat}{fp:List Addr}{k:List Av},Ct xs=some k->OwnL K H Z xs d ws fp->ws=k.map kV
 | [],ws,d,fp,k,e,h=>by cases e;rw [OwnL] at h;exact h.1
 | .int i::r,ws,d,fp,k,e,h=>by
  obtain ⟨k',e1,rfl⟩:=jc2.mp e;rw [OwnL] at h;obtain ⟨v,s,f1,f2,rfl,ef,dj,h1,h2⟩:=h;rw [Own] at h1;rw [h1.1,JM e1 h2];rfl
 | .str i::r,ws,d,fp,k,e,h=>by
  obtain ⟨k',e1,rfl⟩:=jc2.mp e;rw [OwnL] at h;obtain ⟨v,s,f1,f2,rfl,ef,dj,h1,h2⟩:=h;rw [Own] at h1;rw [h1.1,JM e1 h2];rfl
 | .non::_,_,_,_,_,e,_=>by cases e
 | .bl _::_,_,_,_,_,e,_=>by cases e
 | .lst _::_,_,_,_,_,e,_=>by cases e
 | .tup _::_,_,_,_,_,e,_=>by cases e
 | .emp::_,_,_,_,_,e,_=>by cases e
 | .dko::_,_,_,_,_,e,_=>by cases e
 | .scr _::_,_,_,_,_,e,_=>by cases e
 | .dct _::_,_,_,_,_,e,_=>by cases e
 | .dcl _ _::_,_,_,_,_,e,_=>by cases e
 | .exn _::_,_,_,_,_,e,_=>by cases e
def EL:List (List Av)->List PV->List Av->Option PV
 | k'::ks,x::xs,k=>if k'=k then some x else EL ks xs k
 | _,_,_=>none
theorem RX {K:Frag}{Z:Addr->Prop}{k:List Av}:∀ {ks:List (List Av)}{xs:List PV}{ws:List V},OwnL K H Z xs 0 ws []->ks.length=xs.length->(∀ x,EL ks xs k=some x->∃ w,Co (ks.zip ws) k=some w/\Own K H Z x 0 w [])/\(EL ks xs k=none->Co (ks.zip ws) k=none)
 | [],[],ws,h,_=>⟨λ x e=>(nomatch e),λ _=>rfl⟩
 | [],_::_,ws,h,e=>by cases e
 | _::_,[],ws,h,e=>by cases e
 | k'::ks,x::xs,ws,h,e=>by
  rw [OwnL] at h;obtain ⟨v,s,f1,f2,rfl,ef,_,o1,o2⟩:=h;obtain ⟨rfl,rfl⟩:f1=[]/\f2=[]:=by simpa using ef.symm
  have ih:=RX (k:=k) o2 (by simpa using e);rw [Ky];unfold EL;by_cases hk:k'=k
  ·rw [if_pos hk,Ni (p:=(k',v)) hk];exact ⟨λ y ey=>by cases ey;exact ⟨v,rfl,o1⟩,λ z=>(nomatch z)⟩
  ·rw [if_neg hk,Nh (p:=(k',v)) hk];exact ih
def A3:PV->Nat->PV->Nat->Option (PV×Nat)
 | .lst xs,_,.int i,_=>(BE xs i).map λ z=>(z,dv z)
 | .tup xs,_,.int i,_=>(BE xs i).map λ z=>(z,dv z)
 | .scr ns,_,.int i,_=>(BE ns i).map λ z=>(.int z,om)
 | .str z,_,.int i,_=>if z.length<=A0 then (BE z.cps.toList i).map λ c=>(.str ⟨#[c]⟩,om) else none
 | .dcl ks xs,_,.tup key,_=>(match Ct key with
  | some k=>(EL ks xs k).map λ z=>(z,dv z)
  | none=>none)
 | _,_,_,_=>none
def ZA:R2:=λ x y H Q=>∃ a v,x=.ref a/\EW H a y (some v)/\Q v H
def ji (hu:X.A.units + 1 < Df):IxR X ZA:=by
 intro value slice pins s σ H x y v u Q I rx ry h hs;obtain ⟨a,w,rfl,g,q⟩:=h;obtain rfl:v=Value.ref a:=rx;exact tail_any (yb I g) PySem.F.slot_dict_getitem.lookup (vX hu I g ry λ w' s' I' rw'=>⟨w,H,I',rw',q⟩) hs
def Own.dcl0 {K:Frag}{Z:Addr->Prop}{ks:List (List Av)}{xs:List PV}{v:V} (h:Own K H Z (.dcl ks xs) 0 v []):∃ a ws,v=.ref a/\ks.length=xs.length/\Rd H a (.dT (ks.zip ws))/\¬ Z a/\OwnL K H Z xs 0 ws []:=by
 rw [Own] at h;obtain ⟨a,ws,e,en,⟨_,hr,_,ol⟩ | ⟨h,_⟩⟩:=h
 ·exact ⟨a,ws,e,en,hr.1,hr.2,ol⟩
 ·exact absurd rfl h
theorem RG {K:Frag}{Z:Addr->Prop}{xs:List PV}{ws:List V}{i:Int}{z:PV} (ol:OwnL K H Z xs 0 ws []) (e:BE xs i=some z):∃ w,BE ws i=some w/\Own K H Z z 0 w []:=by
 unfold BE at e ⊢;rw [ol.length];cases ej:DV xs.length i with
 | none=>rw [ej] at e;cases e
 | some j=>rw [ej] at e;exact ol.nth e
theorem V5 (hu:X.A.units + 1 < Df) (hv:∀ i∈vs,M.Ms i=false) (hK:M.K=X.K) (hs:MC b) (ha:PE X a (tE M f vs)) (hb:PE X b (tE M g vs')):PE X (.Subscript a b pos) (tE M (Ab A3 f g) (vs++vs')):=by
 refine BB (US (qlo.or (ji hu)) ha hb hs) λ σ H Q h=>DC hv (λ x d y e z c v w H fps f1 f2 Q ho o1 o2 dj nz zd lf=>?_) h;cases y with
 | int i=>
  rw [Own] at o2;cases x with
  | lst xs=>
   dsimp only [A3] at ho;obtain ⟨z',ez,e2⟩:=jc2.mp ho;cases e2;obtain ⟨p,ws,rfl,hp,ol⟩:=(cold o1 λ a ha=>nz a (BP _ ha)).coldL;obtain ⟨w',e1,ow⟩:=RG ol ez;exact .inl (.inl ⟨p,ws,i,w',rfl,o2.1,.inl (.inl hp),e1,IA lf ow⟩)
  | tup xs=>
   dsimp only [A3] at ho;obtain ⟨z',ez,e2⟩:=jc2.mp ho;cases e2;obtain ⟨p,ws,rfl,hp,ol⟩:=(cold o1 λ a ha=>nz a (BP _ ha)).coldT;obtain ⟨w',e1,ow⟩:=RG ol ez;exact .inl (.inr (.inl ⟨p,ws,i,w',rfl,o2.1,.inl (.inl hp),e1,IA lf ow⟩))
  | scr ns=>
   dsimp only [A3] at ho;obtain ⟨z',ez,e2⟩:=jc2.mp ho;cases e2;rw [Own] at o1;obtain ⟨_,p,rfl,hp⟩:=o1;refine .inl (.inl ⟨p,ns.map V.int,i,.int z',rfl,o2.1,?_,?_,Eb lf⟩)
   ·rw [<- hK];exact hp.elim (λ h=>.inl (.inr h)) .inr
   ·unfold BE at ez ⊢;rw [AG];cases ej:DV ns.length i with
    | none=>rw [ej] at ez;cases ez
    | some j=>
     rw [ej] at ez;show (ns.map V.int)[j]?=_;rw [BW]
     have:ns[j]?=some z':=ez
     rw [this];rfl
  | str z=>
   dsimp only [A3] at ho;split at ho
   ·rename_i hl;obtain ⟨c',ez,e2⟩:=jc2.mp ho;cases e2;rw [Own] at o1;exact .inl (.inr (.inr ⟨z,i,c',o1.1,o2.1,hl,ez,vf lf⟩))
   ·cases ho
  | _=>cases ho
 | tup key=>
  cases x with
  | dcl ks xs=>
   dsimp only [A3] at ho;split at ho
   ·rename_i k ek;obtain ⟨z',ez,e2⟩:=jc2.mp ho;cases e2;obtain ⟨a,ws,rfl,en,hr,nz',ol⟩:=(cold o1 λ a ha=>nz a (BP _ ha)).dcl0;obtain ⟨w',ew,ow⟩:=(RX (k:=k) ol en).1 _ ez;rw [Own] at o2;obtain ⟨b,us,rfl,hb,okey⟩:=o2
    have:=JM ek okey
    subst this;exact .inr ⟨a,w',rfl,.inr ⟨_,k,b,hr,rfl,hb,ew.symm⟩,IA lf ow⟩
   ·cases ho
  | _=>cases ho
 | _=>cases x <;> cases ho
def Iv:Option Fx->Ae->Rz (Option Int×Ae)
 | none,ρ=>.ok (none,ρ)
 | some f,ρ=>(f ρ).bind λ (x,_,ρ1)=>match x with
  | .int i=>.ok (some i,ρ1)
  | _=>.no
def Dy (xs:List PV) (lo hi:Option Int):List PV:=(xs.drop (HT.sIx xs.length 0 lo)).take (HT.sIx xs.length xs.length hi - HT.sIx xs.length 0 lo)
def Ei (x:PV) (lo hi:Option Int):Option (PV×Nat):=match x with
 | .lst xs=>some (.lst (Dy xs lo hi),d1 (Dy xs lo hi))
 | .tup xs=>if HT.sIx xs.length 0 lo=0/\HT.sIx xs.length xs.length hi=xs.length then none else some (.tup (Dy xs lo hi),0)
 | _=>none
def Fo (f:Fx) (lo hi:Option Fx):Fx:=λ ρ=>(f ρ).bind λ (x,_,ρ1)=>(Iv lo ρ1).bind λ (l,ρ2)=>(Iv hi ρ2).bind λ (u,ρ3)=>match Ei x l u with
 | some (z,c)=>.ok (z,c,ρ3)
 | none=>.no
def tO (M:Fm):Option (Fx×List Nat)->TO
 | none=>Ww
 | some (f,vs)=>UW (tE M f vs)
theorem Wy {o:Option (Fx×List Nat)}{ρ:Ae}{fps:AN}{R:Option Int->Hp->Prop} (rep:Rep M ρ σ H fps)
  (q:match Iv (o.map (·.1)) ρ with
   | .ok (l,ρ')=>∀ H' fps',KD M H fps H' fps'->Agr M ρ ρ'->Rep M ρ' σ H' fps'->R l H'
   | .exc c=>∀ H' fps',KD M H fps H' fps'->M.W σ c H'
   | .no=>False):tO M o σ H R:=by
 cases o with
 | none=>exact q H fps KD.refl Agr.refl rep
 | some p=>
  obtain ⟨f,vs⟩:=p;refine ⟨ρ,fps,rep,?_⟩;dsimp only [Yh,Iv] at q;cases ef:f ρ with
  | no=>rw [ef] at q;exact q
  | exc c=>rw [ef] at q;exact q
  | ok p=>
   obtain ⟨x,d,ρ1⟩:=p;rw [ef] at q;intro v H1 fps1 f1 k1 g1 rep1 o1 t1;dsimp only [Rz.bind] at q;cases x with
   | int i=>rw [Own] at o1;exact ⟨i,o1.1,q H1 fps1 k1 g1 rep1⟩
   | _=>exact q.elim
theorem Rb {lo hi:Option (Fx×List Nat)} (hv:∀ i∈vs,M.Ms i=false) (hK:M.K=X.K) {σ:St}{H:Hp}{Q:VK} (hq:tE M (Fo f (lo.map (·.1)) (hi.map (·.1))) vs σ H Q):Uy (λ x lo hi H Q=>L0 X.K x lo hi H Q\/Lz X.K x lo hi H Q) (tE M f vs) (tO M lo) (tO M hi) σ H Q:=by
 obtain ⟨ρ,fps,rep,q⟩:=hq;refine ⟨ρ,fps,rep,?_⟩;unfold Fo at q;cases ef:f ρ with
 | no=>rw [ef] at q;exact q
 | exc c=>rw [ef] at q;exact q
 | ok p=>
  obtain ⟨x,d,ρ1⟩:=p;rw [ef] at q;intro v H1 fps1 f1 k1 g1 rep1 o1 t1;dsimp only [Rz.bind] at q;refine Wy rep1 ?_;cases el:Iv (lo.map (·.1)) ρ1 with
  | no=>rw [el] at q;exact q
  | exc c=>rw [el] at q;exact λ H' fps' k=>q H' fps' (k1.trans k)
  | ok p2=>
   obtain ⟨l,ρ2⟩:=p2;rw [el] at q;intro H2 fps2 k2 g2 rep2;refine Wy rep2 ?_;dsimp only at q;cases eh:Iv (hi.map (·.1)) ρ2 with
   | no=>rw [eh] at q;exact q
   | exc c=>rw [eh] at q;exact λ H' fps' k=>q H' fps' ((k1.trans k2).trans k)
   | ok p3=>
    obtain ⟨u,ρ3⟩:=p3;rw [eh] at q;intro H3 fps3 k3 g3 rep3;dsimp only at q;have kk:=k2.trans k3;have o3:=kk.stay rep1 hv o1 t1.ndj;have n3:∀ a∈f1,¬ Zf M fps3 a:=λ a ha z=>by
     rcases z with z | ⟨i,z⟩
     ·exact t1.ndj a ha (.inl z)
     ·rcases kk.sub i a z with z | z
      ·exact t1.ndj a ha (.inr ⟨i,z⟩)
      ·obtain ⟨xs,e⟩:=Own.lsts x d v f1 o1 a ha;rw [z] at e;cases e
    have back:∀ a,H3 a=none->H a=none:=λ a e=>by
     cases e':H a with
     | none=>rfl
     | some o=>exact absurd e ((k1.trans kk).dom a (by rw [e'];simp))
    cases eo:Ei x l u with
    | none=>rw [eo] at q;exact q.elim
    | some zc=>
     obtain ⟨z,c⟩:=zc;rw [eo] at q;have lf:Bw M H3 fps3 vs f1 z c Q:=λ w H4 fp k4 o4 hfp=>q w H4 fps3 fp ((k1.trans kk).trans (KD.grow k4)) (g1.trans (g2.trans g3)) (rep3.grow k4) o4 ⟨λ a ha=>(hfp a ha).elim (t1.new a) (back a),λ a ha=>(hfp a ha).elim (n3 a) λ z=>rep3.nz z⟩;have c0:=cold o3 n3;unfold Ei at eo;cases x with
     | lst xs=>
      cases eo;obtain ⟨p,ws,rfl,hp,ol⟩:=c0.coldL;refine .inl ⟨p,ws,rfl,.inl (.inl hp),λ q hq=>?_⟩;have e:OwnL M.K H3 (Zv M vs fps3) (Dy xs l u) 0 (CW ws l u) []:=by
       unfold Dy CW;rw [ol.length];exact (ol.drop _).take _
      exact IE lf e hq
     | tup xs=>
      dsimp only at eo;split at eo
      ·cases eo
      ·rename_i hw;cases eo;obtain ⟨p,ws,rfl,hp,ol⟩:=c0.coldT;refine .inr ⟨p,ws,rfl,.inl (.inl hp),by rw [ol.length];exact hw,λ q hq=>?_⟩;have e:OwnL M.K H3 (Zv M vs fps3) (Dy xs l u) 0 (CW ws l u) []:=by
        unfold Dy CW;rw [ol.length];exact (ol.drop _).take _
       exact Nb lf e hq
     | _=>cases eo
def Ld:PV->String
 | .non => "NoneType"
 | .bl _ => "bool"
 | .int _ => "int"
 | .str _ => "str"
 | .lst _ => "list"
 | .tup _ => "tuple"
 | .emp => "dict"
 | .dko => "dict"
 | .dct _ => "dict"
 | .dcl _ _ => "dict"
 | _ => ""
def J4 (t T:String):Bool:=t == T || (t == "bool" && T == "int")
def HC:List String:=["int","bool","str","list","tuple","dict"]
def Hi (T:String) (x:PV) (_:Nat):Option (PV×Nat):=match x with
 | .scr _=>none
 | .exn _=>none
 | .dct _=>none
 | .dcl _ _=>none
 | _=>some (.bl (J4 (Ld x) T),om)
theorem Own.ty {K:Frag}{Z:Addr->Prop}{x:PV}{d:Nat}{v:V}{fp:List Addr} (h:Own K H Z x d v fp) (hs:∀ ns,x≠.scr ns) (hx:∀ c,x≠.exn c) (hd1:∀ kvs,x≠.dct kvs) (hd2:∀ ks xs,x≠.dcl ks xs):TyOf K H v (.type (Ld x)):=by
 cases x with
 | non=>rw [Own] at h;rw [h.1];exact .non
 | bl b=>rw [Own] at h;rw [h.1];exact .bl b
 | int i=>rw [Own] at h;rw [h.1];exact .int i
 | str s=>rw [Own] at h;rw [h.1];exact .str s
 | emp=>rw [Own] at h;obtain ⟨_,a,e,ha⟩:=h;rw [e];exact .dK ha
 | dko=>rw [Own] at h;obtain ⟨_,a,e,_,ha⟩:=h;rw [e];exact .dK ha
 | scr ns=>exact absurd rfl (hs ns)
 | exn c=>exact absurd rfl (hx c)
 | dct kvs=>exact absurd rfl (hd1 kvs)
 | dcl ks xs=>exact absurd rfl (hd2 ks xs)
 | lst xs=>
  rw [Own] at h;obtain ⟨a,ws,e,⟨_,hr,_,_⟩ | ⟨_,f,ha,_⟩⟩:=h
  ·rw [e];exact .lst hr.1
  ·rw [e];exact .lst ha
 | tup xs=>
  rw [Own] at h;obtain ⟨a,ws,e,hr,_⟩:=h;rw [e];exact .tup hr
end
section
variable {X:Cx}{M:Fm}{a b:Expr}{f g:Fx}{fa:Fa}{vs vs':List Nat}{pos p:Pos}{σ:St}{H:Hp}{Q:VK}{e:Expr}{es:List Expr}
def qW:PA X [] (tL M Ac []):=Vu O5 λ σ H Q h=>xv h
def jO (hv:∀ i∈vs,M.Ms i=false) (ha:PE X e (tE M f vs)) (hr:PA X es (tL M fa vs')) (hs:AA (e::es) X.env=(false,eval e X.env)::AA es X.env):PA X (e::es) (tL M (Af f fa) (vs++vs')):=
 Vu (KO ha hr hs) λ σ H Q h=>j7 hv h
def Gr {op:List (PV×Nat)->Option (PV×Nat)}{r:List V->Hp->VK->Prop}
  (leaf:∀ xs z c ws H fps fp Q,op xs=some (z,c)->Tmps M.K H (Zv M vs fps) xs ws fp->(∀ a∈fp,¬ Zf M fps a)->(∀ a,Zf M fps a->H a≠none)->Bw M H fps vs fp z c Q->r ws H Q)
  {σ:St}{H:Hp}{Q:VK} (hq:tE M (Ao op fa) vs σ H Q):Q5 r (tL M fa vs) σ H Q:=MU leaf hq
def BG (xs:List (PV×Nat)):Option (PV×Nat):=if xs.length<=A0 then some (.lst (xs.map (·.1)),if CB xs then om else 1) else none
def DD (xs:List (PV×Nat)):Option (PV×Nat):=if xs.length<=A0 then some (.tup (xs.map (·.1)),if CB xs then om else 0) else none
def xO (h:PA X es (tL M fa vs)):PE X (.List es pos) (tE M (Ao BG fa) vs):=by
 refine BB (Vy h) λ σ H Q h=>MU (r:=λ xs H1 Q=>xs.length<=A0/\∀ p,H1 p=none->Q (.ref p) (Ap H1 p (.lst xs))) (λ xs z c ws H fps fp Q ho tm nz zd lf=>?_) h;unfold BG at ho;split at ho
 ·rename_i hl;refine ⟨by rw [tm.length];exact hl,λ q hq=>?_⟩;cases eo:CB xs with
  | true=>rw [eo] at ho;cases ho;exact Um lf (tm.all (KW eo)) hq
  | false=>rw [eo] at ho;cases ho;exact Pk lf (tm.cold λ a ha z=>nz a ha z.zf) hq
 ·cases ho
def xS {x1:_} (h:PA X es (tL M fa vs)):PE X (.Tuple es x1 pos) (tE M (Ao DD fa) vs):=by
 refine BB (xo h) λ σ H Q h=>MU (r:=λ xs H1 Q=>xs.length<=A0/\∀ p,H1 p=none->Q (.ref p) (Ap H1 p (.tup xs))) (λ xs z c ws H fps fp Q ho tm nz zd lf=>?_) h;unfold DD at ho;split at ho
 ·rename_i hl;refine ⟨by rw [tm.length];exact hl,λ q hq=>?_⟩;cases eo:CB xs with
  | true=>rw [eo] at ho;cases ho;exact wo lf (tm.all (KW eo)) hq
  | false=>rw [eo] at ho;cases ho;exact Nb lf (tm.cold λ a ha z=>nz a ha z.zf) hq
 ·cases ho
def Inv.big {pins:List (Addr×Obj)}{s:Ai} (I:L2.Inv X pins σ H s):Ex < s.heap.objs.size:=by
 have h:Eg < s.heap.objs.size:=(I.mod.glob.keeps I.bk).lt;exact Yo (by decide) h
def zU:PE X (.Dict [] [] pos) (λ _ H Q=>∀ p,H p=none->Q (.ref p) (Ap H p (.dK []))):=λ pins s σ H Q I h=>
 wpAny_Dict_empty ⟨.ref s.heap.objs.size,_,I.laid (a:=s.heap.objs.size) (o:=.dK []) (t':=s.toks) (λ _ _ q=>Ci _ q) (A5 _) ⟨Fj _,beq_eq_false_iff_ne.mpr (Cb (C7 (Inv.big I))),[],.nil,Heap.DictOf.new s.heap⟩,rfl,h _ (I.hok.fresh (A5 _))⟩
def xf:PE X (.Dict [] [] pos) (tE M (bC .emp) []):=by
 refine BB zU λ σ H Q h p hp=>?_;obtain ⟨ρ,fps,rep,q⟩:=h;refine q (.ref p) _ fps [] (KD.grow (D9 hp)) Agr.refl (rep.grow (D9 hp)) ?_ ⟨λ _ z=>(nomatch z),λ _ z=>nomatch z⟩;rw [Own];exact ⟨rfl,p,rfl,AV⟩
def jY:zvc X (.builtin "isinstance") (λ xs H Q=>∃ x t T k,xs=[x,.ty T]/\TyOf X.K H x t/\Nu X.K t (.type T)=some k/\Q (.bl k) H):=by
 intro pins s σ H xs us Q I r h;obtain ⟨x,t,T,k,rfl,ty,hk,q⟩:=h;obtain ⟨u,w,rfl,r1,r2⟩:=Rc r;cases r2;exact vT I r1 ty hk λ tk=>⟨.bl k,H,I.tok _,rfl,q⟩
theorem qH (K:Frag) {T:String} (hT:T∈HC) (x:PV) (hs:∀ ns,x≠.scr ns) (hx:∀ c,x≠.exn c):Nu K (.type (Ld x)) (.type T)=some (J4 (Ld x) T):=by
 simp only [HC,jc3,HA,or_false] at hT;cases x with
 | scr ns=>exact absurd rfl (hs ns)
 | exn c=>exact absurd rfl (hx c)
 | _=>rcases hT with h | h | h | h | h | h <;> subst h <;> rfl
def xh {T:String}{x T':Str}{p1 p2:Pos} (hT:T∈HC) (hK:M.K=X.K) (ha:PE X e (tE M f vs)) (hg:Gl X "isinstance") (hm:X.mg "isinstance" = none) (hT':PE X (.Name T' p2) (tC (.ty T)))
  (hs1:AA [e,.Name T' p2] X.env=[(false,eval e X.env),(false,eval (.Name T' p2) X.env)]) (hs2:AA [Expr.Name T' p2] X.env=[(false,eval (.Name T' p2) X.env)]):
  PE X (.Call (.Name "isinstance" p1) [e,.Name T' p2] [] pos) (tE M (Bu (Hi T) f) vs):=by
 refine BB (IJ jY hg hm rfl (KO ha (KO hT' O5 hs2) (by rw [hs1,hs2])) (he:=by rw [hs1,hs2]) (hpl:=by rw [hs2];rfl)) λ σ H Q h=>?_;refine Oy (r:=λ v H Q=>∃ x t T' k,[v,.ty T]=[x,.ty T']/\TyOf X.K H x t/\Nu X.K t (.type T')=some k/\Q (.bl k) H) (λ x d z c v H fps f1 Q ho o1 nz zd lf=>?_) h;have hs:∀ ns,x≠.scr ns:=λ ns e=>by subst e;cases ho
 have hx:∀ c,x≠.exn c:=λ c e=>by subst e;cases ho
 have hd1:∀ kvs,x≠.dct kvs:=λ c e=>by subst e;cases ho
 have hd2:∀ ks xs,x≠.dcl ks xs:=λ c d e=>by subst e;cases ho
 have e2:z=.bl (J4 (Ld x) T):=by
  cases x with
  | scr ns=>cases ho
  | exn c=>cases ho
  | dct _=>cases ho
  | dcl _ _=>cases ho
  | _=>cases ho;rfl
 subst e2;exact ⟨v,_,T,_,rfl,by rw [<- hK];exact o1.ty hs hx hd1 hd2,qH X.K hT x hs hx,Fv lf⟩
def Fw:List (PV×Nat)->Option (PV×Nat)
 | [(.lst xs,_)]=>some (.int xs.length,om)
 | [(.tup xs,_)]=>some (.int xs.length,om)
 | [(.scr ns,_)]=>some (.int ns.length,om)
 | [(.str z,_)]=>if z.length<=A0 then some (.int z.length,om) else none
 | _=>none
def xN (hK:M.K=X.K) (hg:Gl X "len") (hm:X.mg "len" = none) (ha:PA X (e::es) (tL M fa vs)) (he:AA (e::es) X.env=(false,eval e X.env)::AA es X.env) (hpl:(CH pos (AA es X.env)).any (·.1)=false):
  PE X (.Call (.Name "len" p) (e::es) [] pos) (tE M (Ao Fw fa) vs):=by
 refine BB (IJ (qa8.or ym) hg hm PySem.boot_len ha (he:=he) (hpl:=hpl)) λ σ H Q h=>Gr (λ xs z c ws H fps fp Q ho tm nz zd lf=>?_) h;unfold Fw at ho;split at ho
 ·rename_i xs d;cases ho;obtain ⟨v,r,f1,f2,rfl,_,_,o1,h2⟩:=tm;obtain ⟨rfl,_⟩:=h2;obtain ⟨q,us,rfl,hs,hl⟩:=o1.seqL;exact .inl ⟨q,us,rfl,.inl (by rw [<- hK];exact hs),by rw [hl];exact Eb lf⟩
 ·rename_i xs d;cases ho;obtain ⟨v,r,f1,f2,rfl,_,_,o1,h2⟩:=tm;obtain ⟨rfl,_⟩:=h2;obtain ⟨q,us,rfl,hs,hl⟩:=o1.seqT;exact .inl ⟨q,us,rfl,.inr (by rw [<- hK];exact hs),by rw [hl];exact Eb lf⟩
 ·rename_i ns d;cases ho;obtain ⟨v,r,f1,f2,rfl,_,_,o1,h2⟩:=tm;obtain ⟨rfl,_⟩:=h2;rw [Own] at o1;obtain ⟨_,q,rfl,hp⟩:=o1;refine .inl ⟨q,ns.map V.int,rfl,.inl ?_,by rw [AG];exact Eb lf⟩;rw [<- hK];exact hp.elim (λ h=>.inl (.inr h)) .inr
 ·rename_i z d;split at ho
  ·rename_i hl;cases ho;obtain ⟨v,r,f1,f2,rfl,_,_,o1,h2⟩:=tm;obtain ⟨rfl,_⟩:=h2;rw [Own] at o1;obtain ⟨rfl,_⟩:=o1;exact .inr ⟨_,rfl,hl,Eb lf⟩
  ·cases ho
 ·cases ho
def OB (k:Int->Int->Int):List (PV×Nat)->Option (PV×Nat)
 | [(.int i,_),(.int j,_)]=>some (.int (k i j),om)
 | _=>none
def WS {k:Int->Int->Int}{xs:List (PV×Nat)}{z:PV}{c:Nat}{ws:List V}{fps:AN}{fp F:List Addr}{Z:Addr->Prop} (ho:OB k xs=some (z,c)) (tm:Tmps M.K H Z xs ws fp) (lf:Bw M H fps vs F z c Q):∃ i j,ws=[.int i,.int j]/\Q (.int (k i j)) H:=by
 unfold OB at ho;split at ho
 ·rename_i i d j e;cases ho;obtain ⟨v,r,f1,f2,rfl,_,_,o1,h2⟩:=tm;obtain ⟨v2,r2,f3,f4,rfl,_,_,o2,h3⟩:=h2;obtain ⟨rfl,_⟩:=h3;rw [Own] at o1 o2;obtain ⟨rfl,_⟩:=o1;obtain ⟨rfl,_⟩:=o2;exact ⟨_,_,rfl,Eb lf⟩
 ·cases ho
def M9:List (PV×Nat)->Option (PV×Nat)
 | [(.lst xs,_)]=>some (.tup xs,0)
 | [(.tup xs,_)]=>some (.tup xs,0)
 | _=>none
def HU:List (PV×Nat)->Option (PV×Nat)
 | [(.lst xs,_)]=>some (.lst xs,d1 xs)
 | [(.tup xs,_)]=>some (.lst xs,d1 xs)
 | _=>none
def jx (hK:M.K=X.K) (hg:Gl X "tuple") (hm:X.mg "tuple" = none) (ha:PA X (e::es) (tL M fa vs)) (he:AA (e::es) X.env=(false,eval e X.env)::AA es X.env) (hpl:(CH pos (AA es X.env)).any (·.1)=false):
  PE X (.Call (.Name "tuple" p) (e::es) [] pos) (tE M (Ao M9 fa) vs):=by
 refine BB (M6 Z2 hg hm rfl ha (he:=he) (hpl:=hpl)) λ σ H Q h=>Gr (λ xs z c ws H fps fp Q ho tm nz zd lf=>?_) h;unfold M9 at ho;split at ho
 ·rename_i xs d;cases ho;obtain ⟨v,r,f1,f2,rfl,rfl,_,o1,h2⟩:=tm;obtain ⟨rfl,rfl⟩:=h2;obtain ⟨q,us,rfl,hs,ol⟩:=(cold (fp:=f1) o1 λ a ha=>nz a (BP _ ha)).coldL;exact ⟨q,us,rfl,.inl ⟨.inl (.inl hs),λ l hl=>Nb lf ol hl⟩⟩
 ·rename_i xs d;cases ho;obtain ⟨v,r,f1,f2,rfl,rfl,_,o1,h2⟩:=tm;obtain ⟨rfl,rfl⟩:=h2;have c0:=cold (fp:=f1) o1 λ a ha=>nz a (BP _ ha);obtain ⟨q,us,rfl,hs,ol⟩:=c0.coldT;exact ⟨q,us,rfl,.inr ⟨.inl (.inl hs),IA (x:=.tup xs) lf c0⟩⟩
 ·cases ho
def jr (hK:M.K=X.K) (hg:Gl X "list") (hm:X.mg "list" = none) (ha:PA X (e::es) (tL M fa vs)) (he:AA (e::es) X.env=(false,eval e X.env)::AA es X.env) (hpl:(CH pos (AA es X.env)).any (·.1)=false):
  PE X (.Call (.Name "list" p) (e::es) [] pos) (tE M (Ao HU fa) vs):=by
 refine BB (M6 yn hg hm rfl ha (he:=he) (hpl:=hpl)) λ σ H Q h=>Gr (λ xs z c ws H fps fp Q ho tm nz zd lf=>?_) h;unfold HU at ho;split at ho
 ·rename_i xs d;cases ho;obtain ⟨v,r,f1,f2,rfl,rfl,_,o1,h2⟩:=tm;obtain ⟨rfl,rfl⟩:=h2;obtain ⟨q,us,rfl,hs,ol⟩:=(cold (fp:=f1) o1 λ a ha=>nz a (BP _ ha)).coldL;exact ⟨q,us,rfl,.inl (.inl (.inl hs)),λ l hl=>IE lf ol hl⟩
 ·rename_i xs d;cases ho;obtain ⟨v,r,f1,f2,rfl,rfl,_,o1,h2⟩:=tm;obtain ⟨rfl,rfl⟩:=h2;obtain ⟨q,us,rfl,hs,ol⟩:=(cold (fp:=f1) o1 λ a ha=>nz a (BP _ ha)).coldT;exact ⟨q,us,rfl,.inr (.inl (.inl hs)),λ l hl=>IE lf ol hl⟩
 ·cases ho
end
section
variable {X:Cx}{M:Fm}{a b:Expr}{f g:Fx}{fa:Fa}{vs vs':List Nat}{pos p:Pos}{σ:St}{H:Hp}{Q:VK}{e:Expr}{es:List Expr}
def jX (hc:X.calm=true):zvc X (.builtin "all") (λ xs H Q=>∃ (p:Addr) (bs:List Bool),xs=[.ref p]/\Bl X.K H p (bs.map V.bl)/\Q (.bl (bs.all id)) H):=by
 intro pins s σ H xs us Q I r h;obtain ⟨p,bs,rfl,hq,q⟩:=h;obtain ⟨u,rfl,rx⟩:=Fd r;cases rx;obtain ⟨its,rv,pl,hz⟩:=I.list hq;have hl:=rv.length;rw [AG] at hl;refine call_all_walk (wpAny_pyIter_list pl.isList ?_);have hlt:p < s.heap.objs.size:=by obtain ⟨o,n,e,_⟩:=pl;exact Bc e
 have hne:p≠s.heap.objs.size:=C7 hlt;refine ⟨s.heap.objs.size,_,_,its.toArray.size,_,_,λ i=>bs.getD i true,rfl,Walks.list (A:=X.A.in1) (show X.A.in1.handled=none from I.ok.hd hc) s.heap.objs.size p hne its.toArray,⟨⟨_,C0 _ rfl,rfl,rfl⟩,?_⟩,?_,λ h' tk k=>?_⟩
 ·exact pl.isList.at λ o e=>Ci _ e
 ·intro i v s' Q' E' hv hq';have hv':its[i]?=some v:=by simpa using hv
  have hi:i < bs.length:=by rw [hl];exact (jb1.mp hv').1
  obtain ⟨w,e1,e2⟩:=rv.get (i:=i) (x:=.bl bs[i]) (by simp [hi]);rw [hv'] at e1;cases e1;cases e2;refine Hu ?_
  have:bs.getD i true=bs[i]:=by simp [Sh,hi]
  dsimp only at hq';rw [this] at hq';exact hq'
 ·have I1:L2.Inv X pins σ H { s with heap:=s.heap.push { cls:=.type "list_iterator",data:=.fields #[.ref p,Ed 0] } }:=I.kept (t':=s.toks) λ b o e=>Ci _ e;obtain ⟨f0,f1,f2,f3,f4,f5⟩:=I.fpOk (H':=H) (A5 s.heap.objs.size) (I.hok.fresh (A5 _));have I2:L2.Inv X pins σ H { s with heap:=h',toks:=tk }:=I1.turned (t':=tk) (λ b o hb e=>k b o (by simpa using hb) e) f0 f1 f3 f4 f5;refine ⟨.bl _,H,I2,rfl,?_⟩;have e:(Aq its.toArray.size).all (λ i=>bs.getD i true)=bs.all id:=by
   rw [BZ,<- hl];rw [DO];simp only [jb5,jc4,id];constructor
   ·intro h x hx;obtain ⟨i,hi,rfl⟩:=Ml hx
    have:=h i hi
    simpa [Sh,hi] using this
   ·intro h i hi;simp [Sh,hi];exact h _ (Mh hi)
  rw [e];exact q
def allB:List PV->Option (List Bool)
 | []=>some []
 | .bl b::r=>(allB r).map (b::·)
 | _=>none
def E5:List (PV×Nat)->Option (PV×Nat)
 | [(.lst xs,_)]=>(allB xs).map λ bs=>(.bl (bs.all id),om)
 | _=>none
theorem WB {K:Frag}{Z:Addr->Prop}:∀ {xs:List PV}{ws:List V}{bs:List Bool},allB xs=some bs->OwnL K H Z xs 0 ws []->ws=bs.map V.bl
 | [],ws,bs,e,h=>by cases e;rw [OwnL] at h;exact h.1
 | .bl b::r,ws,bs,e,h=>by
  obtain ⟨bs',e1,rfl⟩:=jc2.mp e;rw [OwnL] at h;obtain ⟨v,s,f1,f2,rfl,ef,dj,h1,h2⟩:=h;obtain ⟨rfl,rfl⟩:f1=[]/\f2=[]:=by simpa using ef.symm
  rw [Own] at h1;rw [h1.1,WB e1 h2];rfl
 | .non::_,_,_,e,_=>by cases e
 | .int _::_,_,_,e,_=>by cases e
 | .str _::_,_,_,e,_=>by cases e
 | .lst _::_,_,_,e,_=>by cases e
 | .tup _::_,_,_,e,_=>by cases e
 | .emp::_,_,_,e,_=>by cases e
 | .dko::_,_,_,e,_=>by cases e
 | .scr _::_,_,_,e,_=>by cases e
 | .dct _::_,_,_,e,_=>by cases e
 | .dcl _ _::_,_,_,e,_=>by cases e
 | .exn _::_,_,_,e,_=>by cases e
def qY (hc:X.calm=true) (hg:Gl X "all") (hm:X.mg "all" = none) (ha:PA X (e::es) (tL M fa vs)) (he:AA (e::es) X.env=(false,eval e X.env)::AA es X.env) (hpl:(CH pos (AA es X.env)).any (·.1)=false):
  PE X (.Call (.Name "all" p) (e::es) [] pos) (tE M (Ao E5 fa) vs):=by
 refine BB (IJ (jX hc) hg hm rfl ha (he:=he) (hpl:=hpl)) λ σ H Q h=>Gr (λ xs z c ws H fps fp Q ho tm nz zd lf=>?_) h;unfold E5 at ho;split at ho
 ·rename_i xs d;obtain ⟨bs,eb,e2⟩:=jc2.mp ho;cases e2;obtain ⟨v,r,f1,f2,rfl,rfl,_,o1,h2⟩:=tm;obtain ⟨rfl,rfl⟩:=h2;obtain ⟨q,us,rfl,hs,ol⟩:=(cold (fp:=f1) o1 λ a ha=>nz a (BP _ ha)).coldL
  have:=WB eb ol
  subst this;exact ⟨q,bs,rfl,.inl (.inl hs),Fv lf⟩
 ·cases ho
def DX:List PV->Option (List Int)
 | []=>some []
 | .int i::r=>(DX r).map (i::·)
 | _=>none
theorem ID {K:Frag}{Z:Addr->Prop}:∀ {xs:List PV}{ws:List V}{ns:List Int},DX xs=some ns->OwnL K H Z xs 0 ws []->ws=ns.map V.int
 | [],ws,ns,e,h=>by cases e;rw [OwnL] at h;exact h.1
 | .int b::r,ws,ns,e,h=>by
  obtain ⟨ns',e1,rfl⟩:=jc2.mp e;rw [OwnL] at h;obtain ⟨v,s,f1,f2,rfl,ef,dj,h1,h2⟩:=h;obtain ⟨rfl,rfl⟩:f1=[]/\f2=[]:=by simpa using ef.symm
  rw [Own] at h1;rw [h1.1,ID e1 h2];rfl
 | .non::_,_,_,e,_=>by cases e
 | .bl _::_,_,_,e,_=>by cases e
 | .str _::_,_,_,e,_=>by cases e
 | .lst _::_,_,_,e,_=>by cases e
 | .tup _::_,_,_,e,_=>by cases e
 | .emp::_,_,_,e,_=>by cases e
 | .dko::_,_,_,e,_=>by cases e
 | .scr _::_,_,_,e,_=>by cases e
 | .dct _::_,_,_,e,_=>by cases e
 | .dcl _ _::_,_,_,e,_=>by cases e
 | .exn _::_,_,_,e,_=>by cases e
theorem MA:∀ {ns:List Int}{its:List Ad},Vals (ns.map V.int) its->∃ xs:List (Int×Tok),its=xs.map (λ p=>Value.int p.1 p.2)/\xs.map (·.1)=ns
 | [],its,h=>by cases h;exact ⟨[],rfl,rfl⟩
 | n::ns,its,h=>by
  cases h with
  | cons r rr=>
   obtain ⟨t,rfl⟩:=r;obtain ⟨xs,rfl,rfl⟩:=MA rr;exact ⟨(n,t)::xs,rfl,rfl⟩
def ED (ns:List Int):Bool:=decide (ns.length<=2 ^ 20) && ns.all λ i=>decide (-(2 ^ 40)<=i) && decide (i<=2 ^ 40)
theorem w6 {ns:List Int} (h:∀ i∈ns,-(2 ^ 40)<=i/\i<=2 ^ 40):∀ j:Nat,-(2 ^ 40) * (j:Int)<=(ns.take j).sum/\(ns.take j).sum<=2 ^ 40 * (j:Int):=by
 induction ns with
 | nil=>intro j;rw [Sm,Yn];omega
 | cons n ns ih=>
  intro j;cases j with
  | zero=>rw [OG,Yn];omega
  | succ j=>
   have:=ih (λ i hi=>h i (AH _ hi)) j
   have hn:=h n AF;rw [SE,Kr];omega
def vA (hc:X.calm=true):zvc X (.builtin "sum") (λ xs H Q=>∃ (p:Addr) (ns:List Int),xs=[.ref p]/\Bl X.K H p (ns.map V.int)/\ED ns=true/\Q (.int ns.sum) H):=by
 intro pins s σ H xs us Q I r h;obtain ⟨p,ns,rfl,hq,hn,q⟩:=h;obtain ⟨u,rfl,rx⟩:=Fd r;cases rx;obtain ⟨its,rv,pl,hz⟩:=I.list hq;obtain ⟨zs,rfl,rfl⟩:=MA rv;have e:(zs.map λ p=>Value.int p.1 p.2).toArray=IZ zs.toArray:=by simp [IZ]
 rw [e] at pl;unfold ED at hn;rw [AS] at hn;have hl:(zs.map (·.1)).length<=2 ^ 20:=by simpa using hn.1
 have hb:∀ i∈zs.map (·.1),-(2 ^ 40)<=i/\i<=2 ^ 40:=λ i hi=>by
  have:=jb5.mp hn.2 i hi
  rw [AS] at this;exact ⟨of_decide_eq_true this.1,of_decide_eq_true this.2⟩
 have sz:zs.toArray.size=zs.length:=by simp
 rw [AG] at hl;have pre:∀ j,preSum (numAt zs.toArray) j=((zs.map (·.1)).take j).sum:=λ j=>by
  rw [preSum_eq]
 refine sum_intList (I.ok.hd hc) pl.isList (λ j hj=>⟨?_,?_⟩) λ h' tk t' k=>⟨.int _,H,I.kept (t':=tk) k,⟨t',rfl⟩,?_⟩
 ·have e1:numAt zs.toArray j=zs[j].1:=by unfold numAt;simp [show j < zs.length by omega]
  have:=hb (zs[j]'(by omega)).1 (jd4.mpr ⟨_,Mh _,rfl⟩)
  rw [e1];unfold InLong;omega
 ·have:=w6 hb (j + 1)
  rw [pre];unfold InLong;omega
 ·rw [pre,sz]
  have:((zs.map (·.1)).take zs.length)=zs.map (·.1):=by
   rw [SH];simp
  rw [this];exact q
def Kj (xs:List (PV×Nat)):Option (PV×Nat):=OB (λ i j=>if j < i then j else i) xs
def Es:List (PV×Nat)->Option (PV×Nat)
 | [(.lst xs,_)]=>match DX xs with
  | some ns=>if ED ns=true then some (.int ns.sum,om) else none
  | none=>none
 | [(.tup xs,_)]=>match DX xs with
  | some ns=>some (.int ns.sum,om)
  | none=>none
 | _=>none
def vB (hc:X.calm=true):zvc X (.builtin "sum") (λ xs H Q=>∃ (p:Addr) (ns:List Int),xs=[.ref p]/\CM X.K H p (ns.map V.int)/\Q (.int ns.sum) H):=by
 intro pins s σ H xs us Q I r h;obtain ⟨p,ns,rfl,hq,q⟩:=h;obtain ⟨u,rfl,rx⟩:=Fd r;cases rx;obtain ⟨its,rv,pl,hz⟩:=I.tuple hq;obtain ⟨zs,rfl,rfl⟩:=MA rv;have e:(zs.map λ p=>Value.int p.1 p.2).toArray=IZ zs.toArray:=by simp [IZ]
 rw [e] at pl;refine PySem.W.ktm_sumG (I.ok.hd hc) (show s.heap.IsTuple p (IZ zs.toArray) from pl) λ h' tk t' k=>⟨.int _,H,I.kept (t':=tk) k,⟨t',rfl⟩,?_⟩
 rw [preSum_eq,SH (by simp)];exact q
def jv (hc:X.calm=true) (hg:Gl X "min") (hm:X.mg "min" = none) (ha:PA X (e::es) (tL M fa vs)) (he:AA (e::es) X.env=(false,eval e X.env)::AA es X.env) (hpl:(CH pos (AA es X.env)).any (·.1)=false):
  PE X (.Call (.Name "min" p) (e::es) [] pos) (tE M (Ao Kj fa) vs):=by
 exact BB (IJ (v9 hc) hg hm rfl ha (he:=he) (hpl:=hpl)) λ σ H Q h=>Gr (λ xs z c ws H fps fp Q ho tm nz zd lf=>WS ho tm lf) h
def jw (hc:X.calm=true) (hg:Gl X "sum") (hm:X.mg "sum" = none) (ha:PA X (e::es) (tL M fa vs)) (he:AA (e::es) X.env=(false,eval e X.env)::AA es X.env) (hpl:(CH pos (AA es X.env)).any (·.1)=false):
  PE X (.Call (.Name "sum" p) (e::es) [] pos) (tE M (Ao Es fa) vs):=by
 refine BB (IJ ((vA hc).or (vB hc)) hg hm rfl ha (he:=he) (hpl:=hpl)) λ σ H Q h=>Gr (λ xs z c ws H fps fp Q ho tm nz zd lf=>?_) h;unfold Es at ho;split at ho
 ·rename_i xs d;split at ho
  ·rename_i ns eb;split at ho
   ·rename_i hk;cases ho;obtain ⟨v,r',f1,f2,rfl,rfl,_,o1,h2⟩:=tm;obtain ⟨rfl,rfl⟩:=h2;obtain ⟨q,us,rfl,hs,ol⟩:=(cold (fp:=f1) o1 λ a ha=>nz a (BP _ ha)).coldL
    have:=ID eb ol
    subst this;exact .inl ⟨q,ns,rfl,.inl (.inl hs),hk,Eb lf⟩
   ·cases ho
  ·cases ho
 ·rename_i xs d;split at ho
  ·rename_i ns eb;cases ho;obtain ⟨v,r',f1,f2,rfl,rfl,_,o1,h2⟩:=tm;obtain ⟨rfl,rfl⟩:=h2;obtain ⟨q,us,rfl,hs,ol⟩:=(cold (fp:=f1) o1 λ a ha=>nz a (BP _ ha)).coldT
   have:=ID eb ol
   subst this;exact .inr ⟨q,ns,rfl,.inl (.inl hs),Eb lf⟩
  ·cases ho
 ·cases ho
abbrev Fn:=List PV->Rz (PV×Nat×PV)
def Bi (K:Frag) (_:Bool) (n:Nat) (F:Fn):Sp:=λ ws H Q _=>ws.length=n/\∃ (xs:List PV) (Zo:Addr->Prop),(∀ a,Zo a->H a≠none)/\OwnL K H Zo xs 0 ws [] /\
 (match F xs with
  | .ok (y,d,_)=>∀ v H' fp,D0 (λ _=>False) H H'->(∀ a,H a≠none->H' a≠none)->Own K H' (λ a=>Zo a\/a∈fp) y d v fp->(∀ a∈fp,H a=none/\¬ Zo a)->Q v H'
  | _=>False)
def A2 (F:Fn) (fa:Fa):Fx:=λ ρ=>(fa ρ).bind λ (xs,ρ1)=>match F (xs.map (·.1)) with
 | .ok (y,d,_)=>.ok (y,d,ρ1)
 | _=>.no
theorem j5 {F:Fn}{n:Nat} (hF:∀ xs,xs.length≠n->F xs=.no) {σ:St}{H:Hp}{Q:VK} (hq:tE M (A2 F fa) vs σ H Q):VC (Bi M.K false n F) M.W (tL M fa vs) σ H Q:=by
 obtain ⟨ρ,fps,rep,q⟩:=hq;refine ⟨ρ,fps,rep,?_⟩;unfold A2 at q;cases ef:fa ρ with
 | no=>rw [ef] at q;exact q
 | exc c=>rw [ef] at q;exact q
 | ok p=>
  obtain ⟨xs,ρ1⟩:=p;rw [ef] at q;intro ws H1 fps1 f1 k1 g1 rep1 o1 t1;dsimp only [Rz.bind] at q;have back:∀ a,H1 a=none->H a=none:=λ a e=>by
   cases e':H a with
   | none=>rfl
   | some o=>exact absurd e (k1.dom a (by rw [e'];simp))
  show Bi M.K false n F ws H1 Q (Gh (M.W σ));have hlen:xs.length=n:=by
   by_cases e:xs.length=n
   ·exact e
   ·rw [hF (xs.map (·.1)) (by rw [AG];exact e)] at q;exact q.elim
  refine ⟨by rw [o1.length,hlen],xs.map (·.1),Zv M vs fps1,λ a z=>rep1.zdom z.zf,o1.cold λ a ha z=>t1.ndj a ha z.zf,?_⟩;cases eF:F (xs.map (·.1)) with
  | no=>rw [eF] at q;exact q
  | exc c=>rw [eF] at q;exact q
  | ok r=>
   obtain ⟨y,d,z0⟩:=r;rw [eF] at q;intro v H' fp kp dm oy hf;have kk:∀ a o,H1 a=some o->H' a=some o:=λ a o h=>kp a o h λ z=>z.elim;refine q v H' fps1 fp (k1.trans (KD.grow kk)) g1 (rep1.grow kk) oy ⟨λ a ha=>back a (hf a ha).1,λ a ha=>rep1.nz (hf a ha).1⟩
end
section
variable {prog:A9}{w:A7}{A:Bs}{E:Ad->Ai->Prop}{s:Ai}
structure ZApart (zz ti to p1 p2 q1 q2:Addr):Prop where
 ne1:ti≠zz
 ne2:to≠zz
 ne3:p1≠zz
 ne4:p2≠zz
 ne5:ti≠to
 ne6:ti≠p1
 ne7:ti≠p2
 ne8:to≠p1
 ne9:to≠p2
 nea:p1≠p2
 neb:q1≠zz
 nec:q1≠to
 ned:q1≠p1
 nee:q1≠p2
 nef:q2≠zz
 neg:q2≠to
 neh:q2≠p1
 nei:q2≠p2
section
variable {zz ti to p1 p2 q1 q2:Addr}{n1 n2:Nat}{us vs:Array Ad}{u v a b:Ad}
end
end
section
variable {X:Cx}{pins:List (Addr×Obj)}{σ:St}{H:Hp}{s:Ai}{h':Heap}
def Ul {fp:List Addr}{a:Addr}{o:HO}{t':Nat} (I:Inv X pins σ H s) (k:∀ b u,b∉fp->s.heap.get? b=some u->h'.get? b=some u) (hf:∀ b∈fp,Cw X pins H b) (ha:s.heap.objs.size<=a) (new:zxo X.prog X.w (Ap H a o) h' a o):
  Inv X pins σ (Ap H a o) { s with heap:=h',toks:=t' }:=by
 have hn:H a=none:=I.hok.fresh ha;have nfp:∀ b u,H b=some u->b∉fp:=λ b u e z=>by rw [(hf b z).1] at e;cases e
 have up:∀ b u,H b=some u->Ap H a o b=some u:=λ b u e=>by rw [A8 (λ z=>by rw [z,hn] at e;cases e)];exact e
 refine I.step (g':=s.gens) (d':=s.drawn) (ch:=fp) (λ b hb=>?_) (λ b u _ _ hc e _=>k b u hc e) (λ b u _ _ hc e _=>⟨u.slots,k b u hc e⟩) (λ b u _ e n=>?_) (λ b u hc e=>⟨u,k b u hc e⟩) (λ b xs e=>up b _ e) (λ b _ _ e=>up b _ e) (λ b ps e=>⟨#[],by rw [up b _ e];simp⟩) (λ m hm=>?_) (λ b u e=>?_) I.bare
 ·obtain ⟨_,f1,_,f3,f4,f5⟩:=hf b hb;exact ⟨f3,f1,f4,f5⟩
 ·rw [A8 (λ z=>by rw [z] at e;exact absurd (Bc e) (Nat.not_lt.mpr ha))];exact n
 ·obtain ⟨u,es,ep,ho,r⟩:=hm;exact ⟨u,es,ep,k _ u (λ z=>(hf _ z).2.1 rfl) ho,r⟩
 ·by_cases eb:b=a
  ·subst eb;rw [AV] at e;cases e;exact new
  ·rw [A8 eb] at e;refine (I.hok b u e).stay (λ c v hc q=>k c v ?_ q) (λ c q=>up c _ q) λ c xs q=>up c _ q;rcases hc with z | z
   ·rw [z];exact nfp b u e
   ·exact nfp c _ z
def T2 {fp:List Addr}{t':Nat} (I:Inv X pins σ H s) (k:∀ b u,b∉fp->s.heap.get? b=some u->h'.get? b=some u) (hf:∀ b∈fp,Cw X pins H b):Inv X pins σ H { s with heap:=h',toks:=t' }:=by
 have nfp:∀ b u,H b=some u->b∉fp:=λ b u e z=>by rw [(hf b z).1] at e;cases e
 refine I.step (g':=s.gens) (d':=s.drawn) (ch:=fp) (λ b hb=>?_) (λ b u _ _ hc e _=>k b u hc e) (λ b u _ _ hc e _=>⟨u.slots,k b u hc e⟩) (λ _ _ _ _ n=>n) (λ b u hc e=>⟨u,k b u hc e⟩) (λ _ _ e=>e) (λ _ _ _ e=>e) (λ b ps e=>⟨#[],by rw [e];simp⟩) (λ m hm=>?_) (λ b u e=>?_) I.bare
 ·obtain ⟨_,f1,_,f3,f4,f5⟩:=hf b hb;exact ⟨f3,f1,f4,f5⟩
 ·obtain ⟨u,es,ep,ho,r⟩:=hm;exact ⟨u,es,ep,k _ u (λ z=>(hf _ z).2.1 rfl) ho,r⟩
 ·refine (I.hok b u e).stay (λ c v hc q=>k c v ?_ q) (λ _ q=>q) λ _ _ q=>q;rcases hc with z | z
  ·rw [z];exact nfp b u e
  ·exact nfp c _ z
end
def My (K:Frag) (a:Addr) (n:Nat):It:=
 ⟨λ i H=>i < n/\∃ xs x,Bl K H a xs/\xs[n - 1 - i]?=some x,λ i H x H'=>H'=H/\∀ xs,Bl K H a xs->xs[n - 1 - i]?=some x,λ i _=>n<=i⟩
def HQ (K:Frag) (a:Addr):It:=
 ⟨λ i H=>∃ xs x,Bl K H a xs/\xs[i]?=some x,λ i H v H'=>∃ T x,H T=none/\v=.ref T/\H'=Ap H T (.tup [.int (i:Int),x])/\∀ xs,Bl K H a xs->xs[i]?=some x,λ i H=>∃ xs,Bl K H a xs/\xs.length<=i⟩
def wA {P:A9}{w:A7}{K:Frag}{es:List Expr}{k:Nat}{pos:Pos} (a e it:Addr) (hne:e≠it):Turn P w K (.Tuple es k pos) (HQ K a) [e,it] e (λ i h=>(∃ old,IsEnum h e it (i:Int) old)/\h.IsListIter it a i) where
 mem:=by simp
 obj:=λ i h st b hb=>by
  obtain ⟨⟨old,he⟩,o,ho,c,d⟩:=st;rcases jc3.mp hb with z | z
  ·rw [z];exact ⟨_,he,λ v z=>by cases z⟩
  ·rw [jb7.mp z];exact ⟨o,ho,λ v z=>by rw [d] at z;cases z⟩
 keep:=λ i h h' st k=>by
  obtain ⟨⟨old,he⟩,hi⟩:=st;exact ⟨⟨old,k e (by simp) _ he⟩,hi.at λ o x=>k it (by simp) o x⟩
 item:=by
  intro X hP hw hK hc i pins s σ H E I hf st hg;subst hP hw hK;obtain ⟨xs,x,hq,hx⟩:=hg;obtain ⟨its,rv,p,hz⟩:=I.list hq;obtain ⟨u,hu,ru⟩:=rv.get hx;obtain ⟨⟨old,he⟩,hit⟩:=st;refine wpAny_pyNext_enum_item he hit p.isList (x:=u) (by simpa using hu) hne λ h' ho hit' hT hsz hk=>⟨_,rfl,?_⟩
  refine wpAny_letOwnedTupleGo_enum ho λ h2 he2 hs2=>?_;have hs0:s.heap.objs.size≠e:=FU (Bc he);have hn:H s.heap.objs.size=none:=I.hok.fresh (A5 _);have hT2:h2.get? s.heap.objs.size=some { cls:=.type "tuple",data:=.seq #[.int (i:Int) s.toks,u] }:=(hs2.2 _ hs0).trans hT;have I1:Inv X pins σ (Ap H s.heap.objs.size (.tup [.int (i:Int),x])) { s with heap:=h2,toks:=s.toks + 1 }:=by
   refine Ul (fp:=[e,it]) I (λ b u hb q=>(hs2.2 b (λ z=>hb (by simp [z]))).trans (hk b u (λ z=>hb (by simp [z])) (λ z=>hb (by simp [z])) q)) hf (A5 _) ?_;exact ⟨Cv (by decide:2<=1000) (by decide),_,.cons ⟨_,rfl⟩ (.cons ru .nil),⟨_,hT2,rfl,_,rfl⟩⟩
  refine ⟨.ref s.heap.objs.size,_,I1,rfl,⟨_,x,hn,rfl,rfl,λ ys hy=>by rw [I.list_inj hy hq];exact hx⟩,⟨⟨u,?_⟩,hit'.at λ o q=>(hs2.2 it (Cb hne)).trans q⟩,λ b hb=>?_⟩
  ·rw [show ((i + 1:Nat):Int)=(i:Int) + 1 by omega];exact he2
  ·have hb':=(hf b hb).1;rw [A8 (λ z=>?_)]
   ·exact hb'
   ·rcases jc3.mp hb with y | y
    ·rw [y] at z;exact hs0 z.symm
    ·rw [jb7.mp y] at z;obtain ⟨o,q,_⟩:=hit;exact absurd (Bc q) (by rw [z];exact DS _)
 done:=by
  intro X hP hw hK hc i pins s σ H E I hf st hg;subst hP hw hK;obtain ⟨xs,hq,hx⟩:=hg;obtain ⟨its,rv,p,hz⟩:=I.list hq;obtain ⟨⟨old,he⟩,hit⟩:=st;have hl:=rv.length;exact wpAny_pyNext_enum_end (I.ok.hd hc) he hit p.isList (Mo (by simp;omega)) λ h' eb=>⟨rfl,T2 (t':=s.toks) I (λ b o hb q=>eb b o (λ z=>hb (by simp [z])) q) hf⟩
 self:=λ _ _ _ _ _ st h=>by
  obtain ⟨⟨old,he⟩,_⟩:=st;exact wpAny_pyIter_enum he h
def HN (K:Frag) (a b:Addr):It:=
 ⟨λ i H=>∃ xs ys x y,Bl K H a xs/\Bl K H b ys/\xs[i]?=some x/\ys[i]?=some y,λ i H v H'=>∃ T x y,H T=none/\v=.ref T/\H'=Ap H T (.tup [x,y])/\∀ xs ys,Bl K H a xs->Bl K H b ys->xs[i]?=some x/\ys[i]?=some y,λ i H=>∃ xs ys,Bl K H a xs/\Bl K H b ys/\(xs.length<=i\/ys.length<=i)⟩
def Uc {h:Heap}{z TI TO i1 i2 l1 l2:Addr}{f0:Ad}{a b c d:Ad}{k1 k2:Nat}{xs ys:Array Ad} (hTT:TI≠TO) (h12:i1≠i2) (hz:IsZip h z TI TO f0) (hTI:IsPair h TI a b) (hTO:IsPair h TO c d) (h1:h.IsListIter i1 l1 k1) (h2:h.IsListIter i2 l2 k2) (hl1:h.IsList l1 xs) (hl2:h.IsList l2 ys):ZipApart z TI TO i1 i2 l1 l2:=by
 obtain ⟨o1,e1,c1,_⟩:=h1;obtain ⟨o2,e2,c2,_⟩:=h2;obtain ⟨p1,q1,r1,_⟩:=hl1;obtain ⟨p2,q2,r2,_⟩:=hl2;have ne:∀ {x y:Addr}{o o':Obj}{n m:String},h.get? x=some o->h.get? y=some o'->o.cls=.type n->o'.cls=.type m->n≠m->x≠y:=λ {x y o o' n m} ex ey cx cy nm z=>by
  subst z;rw [ex] at ey;cases ey;rw [cx] at cy;injection cy with cy
  exact nm cy
 exact ⟨ne hTI hz rfl rfl (by decide),ne hTO hz rfl rfl (by decide),ne e1 hz c1 rfl (by decide),ne e2 hz c2 rfl (by decide),hTT,ne hTI e1 rfl c1 (by decide),ne hTI e2 rfl c2 (by decide),ne hTO e1 rfl c1 (by decide),ne hTO e2 rfl c2 (by decide),h12,
  ne q1 hz r1 rfl (by decide),ne q1 hTO r1 rfl (by decide),ne q1 e1 r1 c1 (by decide),ne q1 e2 r1 c2 (by decide),ne q2 hz r2 rfl (by decide),ne q2 hTO r2 rfl (by decide),ne q2 e1 r2 c1 (by decide),ne q2 e2 r2 c2 (by decide)⟩
def vq {P:A9}{w:A7}{K:Frag}{es:List Expr}{k:Nat}{pos:Pos} (l1 l2 z TI TO i1 i2:Addr) (hTT:TI≠TO) (h12:i1≠i2):
  Turn P w K (.Tuple es k pos) (HN K l1 l2) [z,TI,TO,i1,i2] z (λ i h=>IsZip h z TI TO .none/\IsPair h TI (.ref i1) (.ref i2)/\(∃ p q,IsPair h TO p q)/\h.IsListIter i1 l1 i/\h.IsListIter i2 l2 i) where
 mem:=by simp
 obj:=λ i h st b hb=>by
  obtain ⟨hz,hTI,⟨p,q,hTO⟩,⟨o1,e1,_,d1⟩,⟨o2,e2,_,d2⟩⟩:=st;simp only [jc3,HA,or_false] at hb;rcases hb with rfl | rfl | rfl | rfl | rfl
  ·exact ⟨_,hz,λ v z=>by cases z⟩
  ·exact ⟨_,hTI,λ v z=>by cases z⟩
  ·exact ⟨_,hTO,λ v z=>by cases z⟩
  ·exact ⟨o1,e1,λ v z=>by rw [d1] at z;cases z⟩
  ·exact ⟨o2,e2,λ v z=>by rw [d2] at z;cases z⟩
 keep:=λ i h h' st k=>by
  obtain ⟨hz,hTI,⟨p,q,hTO⟩,h1,h2⟩:=st;exact ⟨k z (by simp) _ hz,k TI (by simp) _ hTI,⟨p,q,k TO (by simp) _ hTO⟩,h1.at λ o x=>k i1 (by simp) o x,h2.at λ o x=>k i2 (by simp) o x⟩
 item:=by
  intro X hP hw hK hc i pins s σ H E I hf st hg;subst hP hw hK;obtain ⟨xs,ys,x,y,hq1,hq2,hx,hy⟩:=hg;obtain ⟨its1,rv1,p1,hz1⟩:=I.list hq1;obtain ⟨its2,rv2,p2,hz2⟩:=I.list hq2;obtain ⟨u1,hu1,ru1⟩:=rv1.get hx;obtain ⟨u2,hu2,ru2⟩:=rv2.get hy;obtain ⟨hz,hTI,⟨p,q,hTO⟩,h1,h2⟩:=st;have D:=Uc hTT h12 hz hTI hTO h1 h2 p1.isList p2.isList;refine wpAny_pyNext_zip_item D hz hTI hTO h1 h2 p1.isList p2.isList (x:=u1) (y:=u2) (by simpa using hu1) (by simpa using hu2) λ h' a1 a2 a3 a4 a5 a6 hk=>⟨_,rfl,?_⟩
  refine wpAny_letOwnedTupleGo_zip a1 λ h2' hz' hs'=>?_;have hn:H s.heap.objs.size=none:=I.hok.fresh (A5 _);have hs0:s.heap.objs.size≠z:=FU (Bc hz);have I1:Inv X pins σ (Ap H s.heap.objs.size (.tup [x,y])) { s with heap:=h2',toks:=s.toks }:=by
   refine Ul (fp:=[z,TI,TO,i1,i2]) I (λ b u hb e=>(hs'.2 b (λ z=>hb (by simp [z]))).trans (hk b u (λ z=>hb (by simp [z])) (λ z=>hb (by simp [z])) (λ z=>hb (by simp [z])) (λ z=>hb (by simp [z])) e)) hf (A5 _) ?_;exact ⟨Cv (by decide:2<=1000) (by decide),_,.cons ru1 (.cons ru2 .nil),⟨_,(hs'.2 _ hs0).trans a5,rfl,_,rfl⟩⟩
  refine ⟨.ref s.heap.objs.size,_,I1,rfl,⟨_,x,y,hn,rfl,rfl,λ xs' ys' e1 e2=>⟨by rw [I.list_inj e1 hq1];exact hx,by rw [I.list_inj e2 hq2];exact hy⟩⟩,⟨hz',(hs'.2 _ D.TIz).trans (hk _ _ D.TIz D.TITO D.TIi1 D.TIi2 hTI),⟨_,_,(hs'.2 _ D.TOz).trans a2⟩,a3.at λ o e=>(hs'.2 _ D.i1z).trans e,a4.at λ o e=>(hs'.2 _ D.i2z).trans e⟩,λ b hb=>?_⟩;have hb':=(hf b hb).1;have lt:b < s.heap.objs.size:=by
   simp only [jc3,HA,or_false] at hb;rcases hb with rfl | rfl | rfl | rfl | rfl
   ·exact Bc hz
   ·exact Bc hTI
   ·exact Bc hTO
   ·obtain ⟨_,e,_⟩:=h1;exact Bc e
   ·obtain ⟨_,e,_⟩:=h2;exact Bc e
  rw [A8 (C7 lt)];exact hb'
 done:=by
  intro X hP hw hK hc i pins s σ H E I hf st hg;subst hP hw hK;obtain ⟨xs,ys,hq1,hq2,hend⟩:=hg;obtain ⟨its1,rv1,p1,hz1⟩:=I.list hq1;obtain ⟨its2,rv2,p2,hz2⟩:=I.list hq2;obtain ⟨hz,hTI,⟨p,q,hTO⟩,h1,h2⟩:=st;have D:=Uc hTT h12 hz hTI hTO h1 h2 p1.isList p2.isList;have r1:=rv1.length;have r2:=rv2.length;refine wpAny_pyNext_zip_end (I.ok.hd hc) D hz hTI hTO h1 h2 p1.isList p2.isList ?_ λ h' hk=>⟨rfl,T2 (t':=s.toks) I (λ b o hb e=>hk b o (λ z=>hb (by simp [z])) (λ z=>hb (by simp [z])) (λ z=>hb (by simp [z])) (λ z=>hb (by simp [z])) e) hf⟩
  rcases hend with h | h
  ·exact .inl (Mo (by simp;omega))
  ·exact .inr (Mo (by simp;omega))
 self:=λ _ _ _ _ _ st h=>wpAny_pyIter_zip st.1 h
section
variable {X:Cx}{tg:Expr}
def SR (K:Frag) (ta:TA):TI:=λ σ H R=>ta σ H λ vs H1=>∃ a xs,vs=[.ref a]/\Bl K H1 a xs/\R (HQ K a) H1
def SO (K:Frag) (ta:TA):TI:=λ σ H R=>ta σ H λ vs H1=>∃ a b xs ys,vs=[.ref a,.ref b]/\(Bl K H1 a xs/\Bl K H1 b ys/\R (HN K a b) H1)
theorem zZ {a:Expr}{ta:TA}{es:List Expr}{k:Nat}{tp p pos:Pos} (hg:Gl X "enumerate") (hm:X.mg "enumerate" = none) (ha:PA X [a] ta) (hs:AA [a] X.env=[(false,eval a X.env)]):PI X (.Tuple es k tp) (.Call (.Name "enumerate" p) [a] [] pos) (SR X.K ta):=by
 intro pins s σ H R I h;refine Call_ (GB I hg hm boot_enumerate (Im (A1 (ha pos pins s σ H _ I h) λ us s1 ⟨vs,H1,I1,r1,q1⟩=>?_) hs rfl));obtain ⟨b,xs,e,hq,q⟩:=q1;subst e;cases r1 with
 | cons r rr=>
  cases rr;cases r;obtain ⟨its,rv,pl,hz⟩:=I1.list hq;refine call_enumerate_list pl.isList λ h' he hit hsz hk=>?_;refine wpAny_pyIter_enum (s:={ s1 with heap:=h' }) he ?_;refine ⟨s1.heap.objs.size + 1,[s1.heap.objs.size + 1,s1.heap.objs.size],_,_,H1,rfl,I1.kept (t':=s1.toks) hk,wA b _ _ (Nat.succ_ne_self _),⟨⟨_,he⟩,hit⟩,λ c hc=>?_,q⟩;rcases jc3.mp hc with e | e
  ·rw [e];exact I1.fpOk (Ma _) (I1.hok.fresh (Ma _))
  ·rw [jb7.mp e];exact I1.fpOk (A5 _) (I1.hok.fresh (A5 _))
def qJ {a b:Expr}{ta:TA}{es:List Expr}{k:Nat}{tp p pos:Pos} (hg:Gl X "zip") (hm:X.mg "zip" = none) (ha:PA X [a,b] ta) (hs:AA [a,b] X.env=[(false,eval a X.env),(false,eval b X.env)]) (hs2:AA [b] X.env=[(false,eval b X.env)]):
  PI X (.Tuple es k tp) (.Call (.Name "zip" p) [a,b] [] pos) (SO X.K ta):=by
 intro pins s σ H R I h;refine Call_ (GB I hg hm boot_zip (Im (A1 (ha pos pins s σ H _ I h) λ us s1 ⟨vs,H1,I1,r1,q1⟩=>?_) (by rw [hs,hs2]) (by rw [hs2];rfl)));obtain ⟨c,d,xs,ys,e,hq1,hq2,q⟩:=q1
 ·subst e;cases r1 with
  | cons r rr=>
   cases rr with
   | cons r' rr=>
    cases rr;cases r;cases r';obtain ⟨its1,rv1,p1,hz1⟩:=I1.list hq1;obtain ⟨its2,rv2,p2,hz2⟩:=I1.list hq2;refine call_zip_2 p1.isList p2.isList λ h' hz hTI hTO h1 h2 hsz hk=>?_;refine wpAny_pyIter_zip (s:={ s1 with heap:=h' }) hz ?_;refine ⟨s1.heap.objs.size + 4,[s1.heap.objs.size + 4,s1.heap.objs.size + 2,s1.heap.objs.size + 3,s1.heap.objs.size,s1.heap.objs.size + 1],_,_,H1,rfl,I1.kept (t':=s1.toks) hk,vq c d _ _ _ _ _ (C7 (Kv _)) (C7 (Kv _)),⟨hz,hTI,⟨_,_,hTO⟩,h1,h2⟩,λ x hx=>?_,q⟩
    have:s1.heap.objs.size<=x:=by
     simp only [jc3,HA,or_false] at hx;rcases hx with rfl | rfl | rfl | rfl | rfl
     ·exact OL _ _
     ·exact OL _ _
     ·exact OL _ _
     ·exact A5 _
     ·exact OL _ _
    exact I1.fpOk this (I1.hok.fresh this)
end
inductive Vw where
 | rev | enm | zp
def Hg:Nat->List PV->List PV
 | _,[]=>[]
 | i,x::xs=>.tup [.int (i:Int),x]::Hg (i + 1) xs
def By:List PV->List PV->List PV
 | x::xs,y::ys=>.tup [x,y]::By xs ys
 | _,_=>[]
def GZ:Vw->List PV->Option (List PV)
 | .rev,[.lst xs]=>some xs.reverse
 | .enm,[.lst xs]=>some (Hg 0 xs)
 | .zp,[.lst xs,.lst ys]=>some (By xs ys)
 | _,_=>none
def Vb (v:Vw) (K:Frag) (ws:List V) (H:Hp) (R:It->Hp->Prop):Prop:=match v with
 | .rev=>∃ a xs,ws=[.ref a]/\Bl K H a xs/\R (My K a xs.length) H
 | .enm=>∃ a xs,ws=[.ref a]/\Bl K H a xs/\R (HQ K a) H
 | .zp=>∃ a b xs ys,ws=[.ref a,.ref b]/\(Bl K H a xs/\Bl K H b ys/\R (HN K a b) H)
def SQ (v:Vw) (K:Frag) (ta:TA):TI:=λ σ H R=>ta σ H λ ws H1=>Vb v K ws H1 R
theorem Pj:∀ (xs:List PV) (k:Nat),(Hg k xs).length=xs.length
 | [],_=>rfl
 | x::xs,k=>by rw [Hg,Ba,Pj xs,Ba]
theorem Ph:∀ (xs:List PV) (k i:Nat),(Hg k xs)[i]?=(xs[i]?).map λ x=>PV.tup [.int ((k + i:Nat):Int),x]
 | [],_,_=>by simp [Hg]
 | x::xs,k,0=>by simp [Hg]
 | x::xs,k,i + 1=>by
  rw [Hg,Iu,Ph xs (k + 1) i,Iu,show k + 1 + i=k + (i + 1) by omega]
theorem Xz:∀ (xs ys:List PV),(By xs ys).length=min xs.length ys.length
 | [],ys=>by simp [By]
 | x::xs,[]=>by simp [By]
 | x::xs,y::ys=>by rw [By,Ba,Xz xs ys,Ba,Ba];omega
theorem Xy:∀ (xs ys:List PV) (i:Nat) (x y:PV),xs[i]?=some x->ys[i]?=some y->(By xs ys)[i]?=some (.tup [x,y])
 | [],ys,i,x,y,h,_=>by simp at h
 | a::xs,[],i,x,y,_,h=>by simp at h
 | a::xs,b::ys,0,x,y,h,h'=>by simp at h h';subst h h';simp [By]
 | a::xs,b::ys,i + 1,x,y,h,h'=>by
  rw [By,Iu];exact Xy xs ys i x y (by simpa using h) (by simpa using h')
def Own.growH {K:Frag}{H H':Hp}{Z:Addr->Prop}{x:PV}{v:V} (k:∀ a o,H a=some o->H' a=some o) (h:Own K H Z x 0 v []):Own K H' Z x 0 v []:=
 Own.move (S:=λ _=>False) (λ a o h _=>k a o h) (λ _ z=>z.elim) (λ _ _ n=>n) x 0 v [] (λ _ z=>nomatch z) h
def Ia {K:Frag}{H:Hp}{Z:Addr->Prop}{xs:List PV}{v:V} (o:Own K H Z (.lst xs) 0 v []):∃ a ws,v=.ref a/\Bl K H a ws/\OwnL K H Z xs 0 ws []:=by
 rw [Own] at o;obtain ⟨b,ws,e,⟨_,hr,_,ol⟩ | ⟨h,_⟩⟩:=o
 ·exact ⟨b,ws,e,.inl (.inl hr.1),ol⟩
 ·exact absurd rfl h
def Xf {K:Frag}{H:Hp}{Z:Addr->Prop}{x y:PV}{u v:V}{T:Addr} (hT:H T=some (.tup [u,v])) (ox:Own K H Z x 0 u []) (oy:Own K H Z y 0 v []):Own K H Z (.tup [x,y]) 0 (.ref T) []:=by
 rw [Own];refine ⟨T,_,rfl,hT,?_⟩;rw [RM,OwnL];refine ⟨u,[v],[],[],rfl,rfl,(λ _ z=>nomatch z),ox,?_⟩;rw [OwnL];exact ⟨v,[],[],[],rfl,rfl,(λ _ z=>nomatch z),oy,by rw [OwnL];exact ⟨rfl,rfl⟩⟩
def OwnL.one {K:Frag}{H:Hp}{Z:Addr->Prop}{x:PV}{ws:List V} (o:OwnL K H Z [x] 0 ws []):∃ v,ws=[v]/\Own K H Z x 0 v []:=by
 rw [OwnL] at o;obtain ⟨v,r,f1,f2,rfl,ef,_,o1,o2⟩:=o;obtain ⟨rfl,rfl⟩:f1=[]/\f2=[]:=by simpa using ef.symm
 rw [OwnL] at o2;exact ⟨v,by rw [o2.1],o1⟩
def OwnL.two {K:Frag}{H:Hp}{Z:Addr->Prop}{x y:PV}{ws:List V} (o:OwnL K H Z [x,y] 0 ws []):∃ u v,ws=[u,v]/\Own K H Z x 0 u []/\Own K H Z y 0 v []:=by
 rw [OwnL] at o;obtain ⟨u,r,f1,f2,rfl,ef,_,o1,o2⟩:=o;obtain ⟨rfl,rfl⟩:f1=[]/\f2=[]:=by simpa using ef.symm
 obtain ⟨v,rfl,o3⟩:=o2.one;exact ⟨u,v,rfl,o1,o3⟩
theorem OwnL.mono0 {K:Frag}{H H':Hp}{Z Z':Addr->Prop} (h:∀ x v,Own K H Z x 0 v []->Own K H' Z' x 0 v []):∀ {xs:List PV}{ws:List V},OwnL K H Z xs 0 ws []->OwnL K H' Z' xs 0 ws []
 | [],ws,o=>by rw [OwnL] at o ⊢;exact o
 | x::xs,ws,o=>by
  rw [OwnL] at o;obtain ⟨u,r,f1,f2,rfl,ef,_,o1,o2⟩:=o;obtain ⟨rfl,rfl⟩:f1=[]/\f2=[]:=by simpa using ef.symm
  rw [OwnL];exact ⟨u,r,[],[],rfl,rfl,(λ _ z=>nomatch z),h _ _ o1,OwnL.mono0 h o2⟩
def Vc {v:Vw}{ps els:List PV}{ws:List V}{K:Frag}{H:Hp}{Z:Addr->Prop} (he:GZ v ps=some els) (o:OwnL K H Z ps 0 ws []):∃ J,(∀ R:It->Hp->Prop,R J H->Vb v K ws H R)/\∀ H Z,OwnL K H Z ps 0 ws []->∀ i,(i < els.length->J.go i H)/\(els.length<=i->J.stop i H) /\
  (i < els.length->∀ x H',J.yld i H x H'->(∀ a o,H a=some o->H' a=some o)/\∃ y,els[i]?=some y/\Own K H' Z y 0 x []):=by
 unfold GZ at he;split at he
 ·rename_i xs;cases he;obtain ⟨v,rfl,o1⟩:=o.one;obtain ⟨a,us,rfl,sq,ol⟩:=Ia o1;refine ⟨My K a us.length,λ R r=>⟨a,us,rfl,sq,r⟩,λ H' Z' o' i=>?_⟩;obtain ⟨v',e,o1'⟩:=o'.one;cases e;obtain ⟨a',us',e,sq',ol'⟩:=Ia o1';cases e;have hl:=ol.length;have hl':=ol'.length;rw [YF];refine ⟨λ h=>⟨by omega,us',us'[us.length - 1 - i]'(by omega),sq',by simp⟩,λ h=>?_,λ h x H2 y=>?_⟩
  ·show us.length<=i;omega
  ·obtain ⟨rfl,e2⟩:=y;refine ⟨λ _ _ h=>h,?_⟩;obtain ⟨z,ez,oz⟩:=ol'.get (e2 us' sq');refine ⟨z,?_,oz⟩;rw [YK (by omega),<- ez,hl]
 ·rename_i xs;cases he;obtain ⟨v,rfl,o1⟩:=o.one;obtain ⟨a,us,rfl,sq,ol⟩:=Ia o1;refine ⟨HQ K a,λ R r=>⟨a,us,rfl,sq,r⟩,λ H' Z' o' i=>?_⟩;obtain ⟨v',e,o1'⟩:=o'.one;cases e;obtain ⟨a',us',e,sq',ol'⟩:=Ia o1';cases e;have hl':=ol'.length;rw [Pj];refine ⟨λ h=>⟨us',us'[i]'(by omega),sq',by simp⟩,λ h=>⟨us',sq',by omega⟩,λ h x H2 y=>?_⟩;obtain ⟨T,u,hT,rfl,rfl,e2⟩:=y;have kx:∀ a o,H' a=some o->Ap H' T (.tup [.int (i:Int),u]) a=some o:=λ a o h=>by rw [A8 (λ z=>by rw [z,hT] at h;cases h)];exact h
  refine ⟨kx,?_⟩;obtain ⟨z,ez,oz⟩:=ol'.get (e2 us' sq');refine ⟨.tup [.int (i:Int),z],?_,Xf AV (by rw [Own];exact ⟨rfl,rfl⟩) (oz.growH kx)⟩;rw [Ph,ez];simp
 ·rename_i xs ys;cases he;obtain ⟨v1,v2,rfl,o1,o2⟩:=o.two;obtain ⟨a,us,rfl,sq,ol⟩:=Ia o1;obtain ⟨b,vs,rfl,sq2,ol2⟩:=Ia o2;refine ⟨HN K a b,λ R r=>⟨a,b,us,vs,rfl,sq,sq2,r⟩,λ H' Z' o' i=>?_⟩;obtain ⟨v1',v2',e,o1',o2'⟩:=o'.two;cases e;obtain ⟨a',us',e,sq',ol'⟩:=Ia o1';cases e;obtain ⟨b',vs',e,sq2',ol2'⟩:=Ia o2';cases e;have hl1:=ol'.length;have hl2:=ol2'.length;rw [Xz];refine ⟨λ h=>⟨us',vs',us'[i]'(by omega),vs'[i]'(by omega),sq',sq2',by simp,by simp⟩,λ h=>⟨us',vs',sq',sq2',by omega⟩,λ h x H2 y=>?_⟩;obtain ⟨T,u,w,hT,rfl,rfl,e2⟩:=y;have kx:∀ a o,H' a=some o->Ap H' T (.tup [u,w]) a=some o:=λ a o h=>by rw [A8 (λ z=>by rw [z,hT] at h;cases h)];exact h
  obtain ⟨e3,e4⟩:=e2 us' vs' sq' sq2';obtain ⟨z1,ez1,oz1⟩:=ol'.get e3;obtain ⟨z2,ez2,oz2⟩:=ol2'.get e4;exact ⟨kx,.tup [z1,z2],Xy _ _ _ _ _ ez1 ez2,Xf AV (oz1.growH kx) (oz2.growH kx)⟩
 ·cases he
section
variable {is:List Nat}{M:Fm}{ρ ρ':Ae}{σ σ':St}{H H' H'':Hp}{fps fps' fps'':AN}{vs vs':List Nat}
def Gy (v:Vw) (fa:Fa) (vs:List Nat) (asg:PV->Ae->Option Ae) (body:Fs):Fs:=λ ρ=>match fa ρ with
 | .ok (xs,ρ1)=>(match GZ v (xs.map (·.1)) with
  | some els=>BS asg body els (AZ (if CB xs=true then om else 0) vs ρ1)
  | none=>.no)
 | .exc c=>.exc c
 | .no=>.no
def E4 (v:Vw) (fa:Fa) (k:Nat) (asg:PV->Ae->Option Ae) (test:Fb) (elt:Fx):Fx:=λ ρ=>match fa ρ with
 | .ok (xs,ρ1)=>(match GZ v (xs.map (·.1)) with
  | some els=>(BY k asg test elt els ρ1 []).bindN λ (acc,ρ2)=>C4 acc ρ2
  | none=>.no)
 | .exc c=>.exc c
 | .no=>.no
theorem Rep.seens {xs:List (PV×Nat)}{ws:List V}{fp:List Addr} (rep:Rep M ρ σ H fps) (k:KD M H fps H' fps') (g:Agr M ρ ρ') (r':Rep M ρ' σ H' fps') (o:Tmps M.K H' (Zv M vs fps') xs ws fp) (t:Temp M vs H H' fps' fp)
  (hal:∀ i,M.al i=[]) (hv:∀ i∈vs,M.Ms i=false):∃ fps2,KS M H fps H' fps2/\Rep M (AZ (if CB xs=true then om else 0) vs ρ') σ H' fps2/\OwnL M.K H' (Zf M fps2) (xs.map (·.1)) 0 ws []:=by
 unfold AZ;cases ho:CB xs with
 | true=>
  rw [if_pos rfl,if_pos rfl];refine ⟨fps',k.ks,r',?_⟩;exact OwnL.freeze (λ _ z=>z) _ om ws fp (λ a ha=>t.ndj a ha) (OwnL.full _ ws fp (o.all (KW ho)))
 | false=>
  rw [if_neg Ck,if_neg (by decide)];exact ⟨DY vs fps',k.ks.cool,r'.cool hal hv,(o.cold λ a ha z=>t.ndj a ha z.zf).weak λ a h=>Ic h⟩
theorem W3 {v:Vw}{g:TG}{asg:PV->Ae->Option Ae}{body:Fs}{fa:Fa}{D:Ends} (hal:∀ i,M.al i=[]) (hv:∀ i∈vs,M.Ms i=false) (hg:CN M [] is g asg) (hq:tS M (Gy v fa vs asg body) D σ H):Dr (SQ v M.K (tL M fa vs)) g (tS M body) D σ H:=by
 obtain ⟨ρ,fps,rep,q⟩:=hq;refine ⟨ρ,fps,rep,?_⟩;unfold Gy at q;cases ef:fa ρ with
 | no=>rw [ef] at q;exact q
 | exc c=>rw [ef] at q;exact λ H' fps' k=>q _ H' fps' k.ks
 | ok p=>
  obtain ⟨xs,ρ1⟩:=p;rw [ef] at q;intro ws H1 fps1 f1 k1 g1 rep1 o1 t1;dsimp only at q;cases ee:GZ v (xs.map (·.1)) with
  | none=>rw [ee] at q;exact q.elim
  | some els=>
   rw [ee] at q;obtain ⟨fps2,k2,r2,o2⟩:=Rep.seens rep k1 g1 rep1 o1 t1 hal hv;obtain ⟨J,hpre,hJ⟩:=Vc ee o2;refine hpre _ ?_;exact Gk (Pq:=λ H fps=>OwnL M.K H (Zf M fps) (xs.map λ (p:PV×Nat)=>p.1) 0 ws []) (els:=els) hg (λ r k o=>o.mono0 λ x v h=>k.stay0 r h) (λ {H fps i} o h=>(hJ H _ o i).1 h) (λ {H fps i} o h=>(hJ H _ o i).2.1 h) (λ {ρ σ H fps i x H'} _ o h y=>(hJ H _ o i).2.2 h x H' y) r2 o2 (RsOk.from k2 q)
theorem vH {v:Vw}{g:TG}{is vI vE vo:List Nat}{asg:PV->Ae->Option Ae}{test:Fb}{elt:Fx}{fa:Fa}{k n:Nat}{Q:VK}{P:Fm->Prop}
  (hn:σ.length=n) (hP:∀ D,P (M.comp D n vI)) (hal:∀ i,∀ j∈M.al i,M.Ms j=false) (hvI:∀ i∈vI,M.Ms i=false) (hvE:∀ i∈vE,M.Ms i=false) (his:∀ i∈is,n<=i) (hg:∀ D,CN (M.comp D n vI) vI is g asg)
  (hvo:∀ i,i∈vE->i < n->i∈vo) (hvo2:∀ i∈vo,M.Ms i=false) (hq:tE M (E4 v fa k asg test elt) vo σ H Q):
  Hk k (SQ v M.K (tL M fa vI)) g (λ σ H Q=>∃ M',P M'/\tT M' test σ H Q) (λ σ H Q=>∃ M',P M'/\tE M' elt vE σ H Q) σ H Q:=by
 obtain ⟨ρ,fps,rep,q⟩:=hq;refine ⟨ρ,fps,rep,?_⟩;unfold E4 at q;cases ef:fa ρ with
 | no=>rw [ef] at q;exact q
 | exc c=>rw [ef] at q;exact q
 | ok p=>
  obtain ⟨xs,ρ1⟩:=p;rw [ef] at q;intro ws H1 fps1 f1 k1 g1 rep1 o1 t1;dsimp only at q;cases ee:GZ v (xs.map (·.1)) with
  | none=>rw [ee] at q;exact q.elim
  | some els=>
   rw [ee] at q;have hl:n=ρ1.length:=by rw [rep1.len];exact hn.symm
   have o0:OwnL M.K H1 (Zv M vI fps1) (xs.map (·.1)) 0 ws []:=o1.cold λ a ha z=>t1.ndj a ha z.zf;obtain ⟨J,hpre,hJ⟩:=Vc ee o0;refine hpre _ ?_;have stay:∀ {D H' fps'},H1 D=none->KD M H1 fps1 H' fps'->OwnL M.K H' (Zv (M.plus [D]) vI fps') (xs.map (·.1)) 0 ws []:=λ hD k'=>o0.mono0 λ x v h=>KD.seen rep1 k' hD hvI h;refine IF (els:=els) hP hl hal hvI hvE his hg hvo hvo2 rep1 (λ {D H' fps' i} hD k' h=>(hJ H' _ (stay hD k') i).1 h) (λ {D H' fps' i} hD k' h=>(hJ H' _ (stay hD k') i).2.1 h) (λ {D H' fps' i x H''} hD k' h y=>(hJ H' _ (stay hD k') i).2.2 h x H'' y) ?_;dsimp only at q;cases ec:BY k asg test elt els ρ1 [] with
   | no=>rw [ec] at q;exact q.elim
   | exc c=>rw [ec] at q;exact q.elim
   | ok p=>
    obtain ⟨acc,ρ2⟩:=p;rw [ec] at q;exact λ D ws H' fps' fpl k g r hD hD' tm hf=>Lb rep1 k1 g1 q k g r hD hD' tm hf
end
section
variable {X:Cx}{M:Fm}{f g:Fx}{fa:Fa}{vs vs':List Nat}{a b e:Expr}{es:List Expr}{pos p p2:Pos}{σ:St}{H:Hp}{Q:VK}
theorem Xw:∀ {xs:List V}{us:List Ad},Vals xs us->Vals xs.reverse us.reverse
 | _,_,.nil=>.nil
 | _,_,.cons r rr=>by rw [ON,ON];exact (Xw rr).append (.cons r .nil)
theorem OwnL.snoc0 {K:Frag}{H:Hp}{Z:Addr->Prop}{x:PV}{v:V}:∀ {xs:List PV}{ws:List V},OwnL K H Z xs 0 ws []->Own K H Z x 0 v []->OwnL K H Z (xs++[x]) 0 (ws++[v]) []
 | [],ws,h,o=>by
  rw [OwnL] at h;obtain ⟨rfl,_⟩:=h;rw [Ez,Ez,OwnL];exact ⟨v,[],[],[],rfl,rfl,(λ _ z=>nomatch z),o,by rw [OwnL];exact ⟨rfl,rfl⟩⟩
 | y::xs,ws,h,o=>by
  rw [OwnL] at h;obtain ⟨u,r,f1,f2,rfl,ef,_,o1,o2⟩:=h;obtain ⟨rfl,rfl⟩:f1=[]/\f2=[]:=by simpa using ef.symm
  rw [FX,FX,OwnL];exact ⟨u,r++[v],[],[],rfl,rfl,(λ _ z=>nomatch z),o1,OwnL.snoc0 o2 o⟩
theorem OwnL.append0 {K:Frag}{H:Hp}{Z:Addr->Prop}{ys:List PV}{us:List V} (h2:OwnL K H Z ys 0 us []):∀ {xs:List PV}{ws:List V},OwnL K H Z xs 0 ws []->OwnL K H Z (xs++ys) 0 (ws++us) []
 | [],ws,h=>by
  rw [OwnL] at h;obtain ⟨rfl,_⟩:=h;exact h2
 | y::xs,ws,h=>by
  rw [OwnL] at h;obtain ⟨u,r,f1,f2,rfl,ef,_,o1,o2⟩:=h;obtain ⟨rfl,rfl⟩:f1=[]/\f2=[]:=by simpa using ef.symm
  rw [FX,FX,OwnL];exact ⟨u,r++us,[],[],rfl,rfl,(λ _ z=>nomatch z),o1,OwnL.append0 h2 o2⟩
theorem OwnL.rev {K:Frag}{H:Hp}{Z:Addr->Prop}:∀ {xs:List PV}{ws:List V},OwnL K H Z xs 0 ws []->OwnL K H Z xs.reverse 0 ws.reverse []
 | [],ws,h=>by
  rw [OwnL] at h;obtain ⟨rfl,_⟩:=h;rw [List.reverse_nil,OwnL];exact ⟨rfl,rfl⟩
 | y::xs,ws,h=>by
  rw [OwnL] at h;obtain ⟨u,r,f1,f2,rfl,ef,_,o1,o2⟩:=h;obtain ⟨rfl,rfl⟩:f1=[]/\f2=[]:=by simpa using ef.symm
  rw [ON,ON];exact OwnL.snoc0 (OwnL.rev o2) o1
def IS:List (PV×Nat)->Option (PV×Nat)
 | [(.bl b,_)]=>some (.int (if b then 1 else 0),om)
 | [(.int i,_)]=>some (.int i,om)
 | _=>none
def jR (hg:Gl X "int") (hm:X.mg "int" = none) (ha:PA X (e::es) (tL M fa vs)) (he:AA (e::es) X.env=(false,eval e X.env)::AA es X.env) (hpl:(CH pos (AA es X.env)).any (·.1)=false):
  PE X (.Call (.Name "int" p) (e::es) [] pos) (tE M (Ao IS fa) vs):=by
 refine BB (M6 vz hg hm rfl ha (he:=he) (hpl:=hpl)) λ σ H Q h=>Gr (λ xs z c ws H fps fp Q ho tm nz zd lf=>?_) h;unfold IS at ho;split at ho
 ·cases ho;obtain ⟨v,r,f1,f2,rfl,rfl,_,o1,h2⟩:=tm;obtain ⟨rfl,rfl⟩:=h2;rw [Own] at o1;exact .inr ⟨_,by rw [o1.1],Eb lf⟩
 ·cases ho;obtain ⟨v,r,f1,f2,rfl,rfl,_,o1,h2⟩:=tm;obtain ⟨rfl,rfl⟩:=h2;rw [Own] at o1;exact .inl ⟨_,by rw [o1.1],Eb lf⟩
 ·cases ho
end
section
variable {M:Fm}{fa:Fa}{vs:List Nat}
def Z7 (K:Frag) (F:Fn):Sp:=λ ws H Q _=>∃ x0 v0 fp0,ws=[v0]/\Own K H (λ _=>True) x0 om v0 fp0/\(match F [x0] with
 | .ok (y,_,_)=>O1 y=true/\∀ v H',D0 (λ a=>a∈fp0) H H'->(∀ a,H a≠none->H' a≠none)->Own K H' (λ _=>True) y om v []->Q v H'
 | _=>False)
end
section
variable {X:Cx}{M:Fm}{f g:Fx}{vs vs':List Nat}{σ:St}{H:Hp}{Q:VK}
end
def wb:typeLookup (.type "list_reverseiterator") "__len__" = pure none:=by rw [typeLookup_type,builtinLookup_eq_fast];kernel_rfl
def k7:typeLookup (.type "list_reverseiterator") "__length_hint__" = pure (some (.builtin "list_reverseiterator.__length_hint__")):=by rw [typeLookup_type,builtinLookup_eq_fast];kernel_rfl
section
variable {pg:A9}{wd:A7}{Ar:Bs}{Er:Ad->Ai->Prop}{st:Ai}
def zl {Rz':Result->Ai->Prop}{l it:Addr}{xs:Array Ad} (hd0:Ar.handled=none) (lne:l≠it) (hri:st.heap.IsRevIter it l ((xs.size:Int) - 1)) (hl:st.heap.IsList l xs) (hz:xs.size<=A0) (N:Addr) (nI:N≠it) (nl:N≠l) (rv:Ad) (c0:Nat) (hN:st.heap.get? N=some { cls:=.type "list",data:=.seq #[] c0 })
  (good:∀ hp tk out c2,(∀ b o,b≠N->b≠it->st.heap.get? b=some o->hp.get? b=some o)->hp.get? N=some { cls:=.type "list",dict:=none,data:=.seq out c2,slots:=#[] }->ItemsOf (λ i v=>xs[xs.size - 1 - i]?=some v) out xs.size->Rz' (.ok (.ret rv)) { st with heap:=hp,toks:=tk }):
  An (Aw pg wd) Ar.in1 (NF (.ref N) (.ref it) rv) (λ z t=>match z with | .done f=>Rz' (.ok f) t | .again k=>k.quiet=true/\Ik (Aw pg wd) Ar k Rz' t) (λ e t=>Rz' (.error e) t) st:=by
 have walk:=(Walks.listRev (prog:=pg) (w:=wd) (A:=Ar.in1) hd0 it l lne xs).toS;have tI:st.TypeIs (.ref it) "list_reverseiterator" := hri.typeIs;have other:Builtin.List.listSameRef (.ref N) (.ref it)=false:=by simp [Builtin.List.listSameRef,nI]
 delta NF;refine Ak (wpAny_typeOf tI ?_);rw [if_neg (by rw [other];decide)];refine Ak (wpAny_pyIter_revIter hri (Ak (Jd ?_)));delta Builtin.List.listLengthHint;refine Ak (N0 tI wb ?_);show An _ Ar.in1 (specialOf (Value.ref it) (Ka "__length_hint__") >>= _) _ _ _;refine Ak (N0 tI k7 ?_);generalize en:("list_reverseiterator.__length_hint__" : String)=nm
 wp_delta
 rw [show splitId nm=some ("list_reverseiterator","__length_hint__") from by subst en;decide +kernel];subst en;refine Ak (N1 (b:=true) tI (by rw [isSubtype_type];kernel_rfl) (Az ?_));rw [if_neg (by decide)];refine Az ⟨plainId_quiet F.plain_extend_loop _,codeAny_extend_loopS walk hz _ (by simp [nI,nl]) _ xs.size 0 _ _ _ rfl (Fj _) ⟨Fj _,by simpa using hri,hl⟩ hN (ItemsOf.nil _) λ t out c2 mv hN' all=>?_⟩;rw [Moved.eq_with mv];exact good t.heap t.toks out c2 (λ b o hb hb2 e=>mv.heap b o (by simp [hb,hb2]) e) hN' all
def vh {Qv:Ad->Ai->Prop}{l it:Addr}{xs:Array Ad} (hd0:Ar.handled=none) (lne:l≠it) (hri:st.heap.IsRevIter it l ((xs.size:Int) - 1)) (hl:st.heap.IsList l xs) (hz:xs.size<=A0)
  (good:∀ hp tk out c2,(∀ b o,b≠it->st.heap.get? b=some o->hp.get? b=some o)->hp.get? st.heap.objs.size=some { cls:=.type "list",dict:=none,data:=.seq out c2,slots:=#[] }->ItemsOf (λ i v=>xs[xs.size - 1 - i]?=some v) out xs.size->Qv (.ref st.heap.objs.size) { st with heap:=hp,toks:=tk }):An (Aw pg wd) Ar (call (.type "list") [.ref it]) Qv Er st:=by
 let one:Obj:={ cls:=.type "list",data:=.seq #[] }
 refine callType_codes (Q₁:=λ v t=>v=.ref st.heap.objs.size/\t={ st with heap:=st.heap.push one }) F.called_list (F.typeCall_list_1 _) F.entry_list_init (code_list_new _ ⟨rfl,rfl⟩) λ v t made=>?_;obtain ⟨rfl,rfl⟩:=made;have hN:(st.heap.push one).get? st.heap.objs.size=some one:=C0 _ rfl;refine ⟨⟨_,hN,rfl⟩,F.args_list_init_2 _ _,?_⟩;have nI:st.heap.objs.size≠it:=λ e=>by obtain ⟨o,ho,_⟩:=hri;exact DS _ (e ▸ Bc ho)
 have nl:st.heap.objs.size≠l:=λ e=>by obtain ⟨o,ho,_⟩:=hl;exact DS _ (e ▸ Bc ho)
 show An _ Ar.in1.in1 (do let old<-Builtin.List.listItems (.ref st.heap.objs.size);Builtin.List.listUpdate (.ref st.heap.objs.size) (λ _=>#[]);letGo old.toList.reverse;NF (.ref st.heap.objs.size) (.ref it) .none) _ _ _;refine Ak ?_;delta Builtin.List.listItems;refine Ak (wpAny_seqItems hN rfl (Az ?_));show An _ _ (updateSeq st.heap.objs.size (λ _=>#[]) >>= λ _=>letGo (#[]:Array Ad).toList.reverse >>= λ _=>NF (.ref st.heap.objs.size) (.ref it) .none) _ _ _;refine Ak (wpAny_updateSeq hN rfl (Ak (wpAny_letGo ?_)));have hN2:=Lo (Ja (λ _=>(#[]:Array Ad))) hN rfl;have rest:∀ b o,b≠st.heap.objs.size->st.heap.get? b=some o->((st.heap.push one).update st.heap.objs.size (Ja (λ _=>(#[]:Array Ad)))).get? b=some o:=λ b o hb e=>(N8 _ _ (Cb hb)).trans (Ci _ e);refine zl (Ar:=Ar.in1) hd0 lne (hri.at λ o e=>rest it o (Cb nI) e) (hl.at λ o e=>rest l o (Cb nl) e) hz st.heap.objs.size nI nl .none _ hN2 λ hp tk out c2 hk hN' all=>?_;exact ⟨rfl,good hp tk out c2 (λ b o hb e=>by
  have hb':b≠st.heap.objs.size:=λ z=>DS _ (z ▸ Bc e);exact hk b o hb' hb (rest b o hb' e)) hN' all⟩
end
def vU {its:List Ad}{acc:Array Ad} (h:ItemsOf (λ i v=>its.toArray[its.toArray.size - 1 - i]?=some v) acc its.toArray.size):acc.toList=its.reverse:=by
 obtain ⟨hs,hi⟩:=h;simp only [BZ] at hs hi;refine Y9 λ j=>?_;by_cases hj:j < its.length
 ·have e:acc[j]?=some acc[j]:=Array.getElem?_eq_getElem (by omega)
  have:=hi j _ e
  rw [OS,e,YK hj,<- this];simp
 ·rw [E1 (by simp;omega),E1 (by simp;omega)]
section
variable {X:Cx}{M:Fm}{f:Fx}{vs:List Nat}{a:Expr}{pos p p2 pos2:Pos}
def Q8 (K:Frag):V->Hp->VK->Prop:=λ x H1 Q=>∃ l xs,x=.ref l/\Bl K H1 l xs/\∀ p,H1 p=none->Q (.ref p) (Ap H1 p (.lst xs.reverse))
def zV {te:TE} (hc:X.calm=true) (hgL:Gl X "list") (hmL:X.mg "list" = none) (hgR:Gl X "reversed") (hmR:X.mg "reversed" = none) (ha:PE X a te) (hs:AA [a] X.env=[(false,eval a X.env)]):
  PE X (.Call (.Name "list" p) [.Call (.Name "reversed" p2) [a] [] pos2] [] pos) (Q1 (Q8 X.K) te):=by
 intro pins s σ H Q I h;refine N6 (GB I hgL hmL boot_list ?_ (by decide) (by decide));refine Im ?_ rfl rfl;show An _ _ (spliced ((false,eval (.Call (.Name "reversed" p2) [a] [] pos2) X.env)::[])) _ _ s;refine Qp ?_;refine Call_ (GB I hgR hmR boot_reversed (Im ?_ hs rfl));rw [hs];show An _ _ (spliced ((false,eval a X.env)::[])) _ _ s;refine Qp (A1 (ha pins s σ H _ I h) λ u s1 ⟨x,H1,I1,r1,q1⟩=>Qm ?_);obtain ⟨l,xs,rfl,hq,q⟩:=q1;cases r1;obtain ⟨its,rv,pl,hz⟩:=I1.list hq;have hlen:=rv.length;refine call_reversed_list pl.isList ?_;refine Qm ?_;have hT:(s1.heap.push (revObj l ((its.toArray.size:Int) - 1))).IsRevIter s1.heap.objs.size l ((its.toArray.size:Int) - 1):=⟨_,C0 _ rfl,rfl,rfl⟩
 have hlt:s1.heap.objs.size < (s1.heap.push (revObj l ((its.toArray.size:Int) - 1))).objs.size:=Bc (C0 _ rfl);have hne:l≠s1.heap.objs.size:=λ e=>by obtain ⟨o,ho,_⟩:=pl.isList;exact DS _ (e ▸ Bc ho)
 refine vh (st:={ s1 with heap:=s1.heap.push (revObj l ((its.toArray.size:Int) - 1)) }) (I1.ok.hd hc) hne hT (pl.isList.at λ o e=>Ci _ e) (by rw [BZ];omega) λ h' tk acc' c' hk hS' hacc=>?_;have ea:=vU hacc;refine ⟨.ref _,_,I1.laid (h':=h') (t':=tk) (o:=.lst xs.reverse) (λ b o e=>hk b o (λ z=>DS _ (z ▸ Bc e)) (Ci _ e)) (Kp hlt) ?_,rfl,q _ (I1.hok.fresh (Kp hlt))⟩;refine ⟨by rw [YF];exact hz,its.reverse,c',Xw rv,?_⟩;rw [<- ea];exact hS'
def QU:PV->Nat->Option (PV×Nat)
 | .lst xs,_=>some (.lst xs.reverse,d1 xs.reverse)
 | _,_=>none
theorem jS (hK:M.K=X.K) (hc:X.calm=true) (hgL:Gl X "list") (hmL:X.mg "list" = none) (hgR:Gl X "reversed") (hmR:X.mg "reversed" = none) (hs:AA [a] X.env=[(false,eval a X.env)]) (ha:PE X a (tE M f vs)):
  PE X (.Call (.Name "list" p) [.Call (.Name "reversed" p2) [a] [] pos2] [] pos) (tE M (Bu QU f) vs):=by
 refine BB (zV hc hgL hmL hgR hmR ha hs) λ σ H Q h=>Oy (λ x d z c v H fps f1 Q ho o1 nz zd lf=>?_) h;cases x with
 | lst xs=>
  cases ho;obtain ⟨q,us,rfl,hs,ol⟩:=(cold o1 λ a ha=>nz a ha).coldL;exact ⟨q,us,rfl,.inl (.inl hs),λ l hl=>IE lf (OwnL.rev ol) hl⟩
 | _=>cases ho
end
section
variable {prog:A9}{w:A7}{A:Bs}{E:Ad->Ai->Prop}{s:Ai}{a₀:Array Keyed}
end
section
variable {prog:A9}{w:A7}{A:Bs}{E:Ad->Ai->Prop}{s:Ai}
end
end QQ
namespace PySem.SeqAt
def ltS (lt:Bq->Bq->Bool):List Bq->List Bq->Bool
 | _,[]=>false
 | [],_::_=>true
 | x::xs,y::ys=>if EF x y=true then ltS lt xs ys else lt x y
def lt0:Bq->Bq->Bool
 | .int i,.int j=>decide (i < j)
 | _,_=>false
def ltL (lt:Bq->Bq->Bool):Bq->Bq->Bool
 | .list xs,.list ys=>ltS lt xs ys
 | _,_=>false
def ok0:Bq->Bool
 | .int _=>true
 | _=>false
def okL (ok:Bq->Bool):Bq->Bool
 | .list xs=>xs.all ok
 | _=>false
theorem WU (e l:Nat->Bool) (fin:Bool) (f:Nat->Nat):∀ L:List Nat,C6 e l fin (L.map f)=C6 (λ i=>e (f i)) (λ i=>l (f i)) fin L
 | []=>rfl
 | i::r=>by rw [AR];unfold C6;rw [WU e l fin f r]
def UL (lt:Bq->Bq->Bool) (xs ys:List Bq) (j:Nat):Bool:=lt (xs.getD j .none) (ys.getD j .none)
theorem WT (lt:Bq->Bq->Bool):∀ xs ys:List Bq,C6 (pairEq xs ys) (UL lt xs ys) (decide (xs.length < ys.length)) (Aq (min xs.length ys.length))=ltS lt xs ys
 | xs,[]=>by
  rw [Hz,Nat.min_zero,Sr];show decide (xs.length < 0)=ltS lt xs [];rw [decide_eq_false (by omega)];cases xs <;> rw [ltS]
 | [],y::ys=>by
  rw [Hz,Nat.zero_min,Sr,ltS];show decide (0 < (y::ys).length)=true;rw [Ba];exact decide_eq_true (by omega)
 | x::xs,y::ys=>by
  have ih:=WT lt xs ys;rw [Ba,Ba,show min (xs.length + 1) (ys.length + 1)=min xs.length ys.length + 1 by omega,YM,ltS];unfold C6;show (if EF x y=true then C6 _ _ _ _ else lt x y)=_;split
  ·rw [WU,<- ih];congr 1;simp
  ·rfl
def LtOk (ok:Bq->Bool) (lt:Bq->Bq->Bool):Prop:=∀ (da db:Bq) (A:Bs) (s:Ai) (a b:Ad) (as bs:List Addr),Reads s.heap a da as->Reads s.heap b db bs->ok da=true->ok db=true->da.canLay0=true->db.canLay0=true ->
  A.units + min da.depth db.depth < Df->LtAt A s a b (lt da db)
theorem qtf:LtOk ok0 lt0:=λ da db A s a b as bs ra rb h1 h2 _ _ _=>by
 cases da with
 | int i=>
  cases db with
  | int j=>
   cases ra;cases rb;exact λ prog w E Q h=>wpAny_lt_int h
  | _=>cases h2
 | _=>cases h1
theorem LtOk.all {ok:Bq->Bool}{lt:Bq->Bq->Bool} (H:LtOk ok lt):∀ (xs ys:List Bq) (A:Bs) (s:Ai) (vs ws:List Ad) (as bs:List Addr),ReadsAll s.heap vs xs as->ReadsAll s.heap ws ys bs->xs.all ok=true->ys.all ok=true->Hs xs=true->Hs ys=true ->
  A.units + min (Ll xs) (Ll ys) < Df->∀ j (h1:j < vs.length) (h2:j < ws.length),LtAt A s vs[j] ws[j] (UL lt xs ys j)
 | [],_,_,_,_,_,_,_,ra,_,_,_,_,_,_,j,h1,_=>by cases ra;exact absurd h1 (Sq _)
 | _::_,[],_,_,_,_,_,_,_,rb,_,_,_,_,_,j,_,h2=>by cases rb;exact absurd h2 (Sq _)
 | x::xs,y::ys,A,s,_,_,_,_,ra,rb,c1,c2,ha,hb,hu,j,h1,h2=>by
  have ha':x.canLay0=true/\Hs xs=true:=by simpa [Hs] using ha
  have hb':y.canLay0=true/\Hs ys=true:=by simpa [Hs] using hb
  rw [FV,AS] at c1 c2;cases ra with
  | cons r rs=>
   cases rb with
   | cons r' rs'=>
    cases j with
    | zero=>exact H x y A s _ _ _ _ r r' c1.1 c2.1 ha'.1 hb'.1 (room_head hu)
    | succ j=>exact H.all xs ys A s _ _ _ _ rs rs' c1.2 c2.2 ha'.2 hb'.2 (room_tail hu) j (YL h1) (YL h2)
theorem LtOk.list {ok:Bq->Bool}{lt:Bq->Bq->Bool} (H:LtOk ok lt):LtOk (okL ok) (ltL lt):=λ da db A s a b as bs ra rb c1 c2 ha hb hu=>by
 cases da with
 | list xs=>
  cases db with
  | list ys=>
   cases ra with
   | @list l o vs n _ as₁ h1 h2 h3 h4=>
    cases rb with
    | @list l' o' vs' n' _ bs₁ k1 k2 k3 k4=>
     have n1:vs.size=xs.length:=by simpa using ReadsAll.length _ _ _ h4
     have n2:vs'.size=ys.length:=by simpa using ReadsAll.length _ _ _ k4
     rw [ltL,<- WT lt xs ys,<- n1,<- n2];refine LtAt.lists ⟨_,h1,h2,_,h3⟩ ⟨_,k1,k2,_,k3⟩ (room_here hu) λ j j1 j2=>⟨?_,?_⟩
     ·have:=eqAt_readsAll xs ys A.in1 s vs.toList vs'.toList _ _ h4 k4 ha hb (room_in hu) j (by simpa using j1) (by simpa using j2)
      simpa using this
     ·have:=H.all xs ys A.in1 s vs.toList vs'.toList _ _ h4 k4 c1 c2 ha hb (room_in hu) j (by simpa using j1) (by simpa using j2)
      simpa using this
  | _=>cases c2
 | _=>cases c1
def ok2:Bq->Bool:=okL (okL ok0)
def lt2:Bq->Bq->Bool:=ltL (ltL lt0)
def ltOk2:LtOk ok2 lt2:=qtf.list.list
end PySem.SeqAt
namespace QQ
open PySem PySem.Spec PyProof.Rows L2
def ins (a:Int):List Int->List Int
 | []=>[a]
 | b::r=>if a<=b then a::b::r else b::ins a r
def GH:List Int->List Int
 | []=>[]
 | a::r=>ins a (GH r)
theorem PF (a:Int):∀ l,(ins a l).Perm (a::l)
 | []=>.refl _
 | b::r=>by
  unfold ins;split
  ·exact .refl _
  ·exact ((PF a r).cons b).trans (.swap a b r)
theorem Nd:∀ l,(GH l).Perm l
 | []=>.refl _
 | a::r=>(PF a _).trans ((Nd r).cons a)
theorem Vm (a:Int):∀ l:List Int,l.Pairwise (·<=·)->(ins a l).Pairwise (·<=·)
 | [],_=>by simp [ins]
 | b::r,h=>by
  rw [jf8] at h;unfold ins;split
  ·rename_i hab;refine jf8.mpr ⟨λ c hc=>?_,jf8.mpr h⟩;rcases jc3.mp hc with rfl | hc
   ·exact hab
   ·exact Fl hab (h.1 c hc)
  ·rename_i hab;refine jf8.mpr ⟨λ c hc=>?_,Vm a r h.2⟩;rcases jc3.mp ((PF a r).mem_iff.mp hc) with rfl | hc
   ·omega
   ·exact h.1 c hc
theorem R6:∀ l:List Int,(GH l).Pairwise (·<=·)
 | []=>.nil
 | a::r=>Vm a _ (R6 r)
theorem VI:∀ {l l':List Int},l.Perm l'->l.Pairwise (·<=·)->l'.Pairwise (·<=·)->l=l'
 | [],l',p,_,_=>(List.nil_perm.mp p).symm
 | a::r,[],p,_,_=>by simpa using p.length_eq
 | a::r,b::r',p,h,h'=>by
  rw [jf8] at h h';have e:a=b:=by
   have h1:=p.mem_iff.mp (AF (a:=a) (l:=r));have h2:=p.mem_iff.mpr (AF (a:=b) (l:=r'));rcases jc3.mp h1 with z | z
   ·exact z
   ·rcases jc3.mp h2 with y | y
    ·exact y.symm
    ·exact Yz (h.1 b y) (h'.1 a z)
  subst e;rw [VI (List.perm_cons a |>.mp p) h.2 h'.2]
theorem WN:∀ {ns:List Int}{us:List Ad},Vals (ns.map V.int) us->DG us ns
 | [],_,.nil=>.nil
 | n::r,_,.cons h t=>by
  obtain ⟨k,rfl⟩:=h;exact .cons _ _ (WN t)
theorem WC:∀ {us:List Ad}{ns:List Int},DG us ns->Vals (ns.map V.int) us
 | _,_,.nil=>.nil
 | _,_,.cons _ _ t=>.cons ⟨_,rfl⟩ (WC t)
section
variable {X:Cx}{M:Fm}{fa:Fa}{vs:List Nat}{e:Expr}{es:List Expr}{pos p:Pos}
def L5 (ns:List Int):Prop:=ns.length < 64
instance (ns:List Int):Decidable (L5 ns):=inferInstanceAs (Decidable (_ < _))
def wz {ns:List Int} (h:ns.length < 64):L5 ns:=h
def jZ:zvc X (.builtin "sorted") (λ xs H Q=>∃ q ns,xs=[.ref q]/\Bl X.K H q (ns.map V.int)/\L5 ns/\∀ l,H l=none->Q (.ref l) (Ap H l (.lst ((GH ns).map V.int)))):=by
 intro pins s σ H xs us Q I rv h;obtain ⟨q,ns,rfl,hq,hl,k⟩:=h;obtain ⟨u,rfl,rx⟩:=Fd rv;cases rx;obtain ⟨its,r,pl,hz⟩:=I.list hq;have hlen:=r.length;rw [AG] at hlen;have go:∀ (out:Array Ad) (ns':List Int),DG out.toList ns'->ns'.Perm ns->ns'.Pairwise (·<=·)->EP X pins σ Q (.ref (s.heap.objs.size + 1)) { s with heap:=sortedAll s.heap its out }:=λ out ns' a1 a2 a3=>by
  obtain ⟨c,hc⟩:=sortedAll_at s.heap its out;have e1:ns'=GH ns:=VI (a2.trans (Nd ns).symm) a3 (R6 ns);subst e1;refine ⟨.ref _,_,I.laid (h':=sortedAll s.heap its out) (t':=s.toks) (o:=.lst ((GH ns).map V.int)) (λ b o e=>sortedAll_old e) (Ma _) ?_,rfl,k _ (I.hok.fresh (Ma _))⟩;refine ⟨by rw [AG,(Nd ns).length_eq];exact Cv (Kp hl) (by decide),out.toList,c,WC a1,hc⟩
 have h64:ns.length < 64:=hl;exact sorted_ints pl.isList (WN r) (by omega) go
def LC:List (PV×Nat)->Option (PV×Nat)
 | [(.lst xs,_)]=>match DX xs with
  | some ns=>if L5 ns then some (.lst ((GH ns).map PV.int),om) else none
  | none=>none
 | _=>none
theorem WO {K:Frag}{H:Hp}{Z:Addr->Prop}:∀ ns:List Int,OwnL K H Z (ns.map PV.int) 0 (ns.map V.int) []
 | []=>by rw [FT,FT,OwnL];exact ⟨rfl,rfl⟩
 | n::r=>by
  rw [AR,AR,OwnL];exact ⟨_,_,[],[],rfl,rfl,(λ _ z=>nomatch z),by rw [Own];exact ⟨rfl,rfl⟩,WO r⟩
theorem VZ:∀ ns:List Int,Jn (ns.map PV.int)=true
 | []=>rfl
 | n::r=>by
  rw [AR];exact VZ r
def xR (hg:Gl X "sorted") (hm:X.mg "sorted" = none) (ha:PA X (e::es) (tL M fa vs)) (he:AA (e::es) X.env=(false,eval e X.env)::AA es X.env) (hpl:(CH pos (AA es X.env)).any (·.1)=false) (hK:M.K=X.K):
  PE X (.Call (.Name "sorted" p) (e::es) [] pos) (tE M (Ao LC fa) vs):=by
 refine BB (IJ jZ hg hm rfl ha (he:=he) (hpl:=hpl)) λ σ H Q h=>Gr (λ xs z c ws H fps fp Q ho tm nz zd lf=>?_) h;unfold LC at ho;split at ho
 ·rename_i xs d;split at ho
  ·rename_i ns eb;split at ho
   ·rename_i hk;cases ho;obtain ⟨v,r',f1,f2,rfl,rfl,_,o1,h2⟩:=tm;obtain ⟨rfl,rfl⟩:=h2;obtain ⟨q,us,rfl,hs,ol⟩:=(cold (fp:=f1) o1 λ a ha=>nz a (BP _ ha)).coldL
    have:=ID eb ol
    subst this;refine ⟨q,ns,rfl,.inl (.inl hs),hk,λ l hl=>?_⟩;have ed:om=d1 ((GH ns).map PV.int):=by unfold d1;rw [VZ];rfl
    rw [ed] at lf;exact IE lf (WO _) hl
   ·cases ho
  ·cases ho
 ·cases ho
def DL:Int->List Int->Int
 | n,[]=>n
 | n,m::r=>DL (if m > n then m else n) r
theorem WY:∀ (r:List Int) (n:Int),DL n r∈n::r
 | [],n=>AF
 | m::r,n=>by
  have q:=WY r (if m > n then m else n);show DL (if m > n then m else n) r∈_;rcases jc3.mp q with z | z
  ·rw [z];split <;> simp
  ·simp [z]
theorem Wg:∀ (r:List Int) (n:Int),∀ a∈n::r,a<=DL n r
 | [],n,a,h=>by
  have e:a=n:=by simpa using h
  rw [e];exact D5 _
 | m::r,n,a,h=>by
  show a<=DL (if m > n then m else n) r;have q:=Wg r (if m > n then m else n);have q1:=q _ AF;have q2:n<=(if m > n then m else n)/\m<=(if m > n then m else n):=by split <;> omega
  simp only [jc3] at h;rcases h with z | z | z
  ·omega
  ·omega
  ·exact q a (AH _ z)
def v8 (hc:X.calm=true):zvc X (.builtin "max") (λ xs H Q=>∃ (q:Addr) (n:Int) (r:List Int),xs=[.ref q]/\Bl X.K H q ((n::r).map V.int)/\Q (.int (DL n r)) H):=by
 intro pins s σ H xs us Q I rv h;obtain ⟨q,n,r,rfl,hq,k0⟩:=h;obtain ⟨u,rfl,rx⟩:=Fd rv;cases rx;obtain ⟨its,rv2,pl,hz⟩:=I.list hq;obtain ⟨zs,rfl,ez⟩:=MA rv2;have e:(zs.map λ p=>Value.int p.1 p.2).toArray=IZ zs.toArray:=by simp [IZ]
 rw [e] at pl;have hsz:zs.toArray.size=zs.length:=by simp
 have h0:0 < zs.length:=by
  cases zs with
  | nil=>cases ez
  | cons _ _=>simp
 refine max_intList (I.ok.hd hc) pl.isList (by simpa using h0) λ v h' tk hv k=>?_;obtain ⟨l1,l2⟩:=argBest_gt (numAt zs.toArray) (zs.toArray.size - 1);obtain ⟨t,rfl⟩:=intItems_at hv;generalize argBest (λ i j=>decide (numAt zs.toArray i > numAt zs.toArray j)) (zs.toArray.size - 1)=b at *;have num:∀ j,(hj:j < zs.length)->numAt zs.toArray j=zs[j].1:=λ j hj=>by unfold numAt;simp [hj]
 have hm:numAt zs.toArray b∈n::r:=by
  rw [num b (by omega),<- ez];exact jd4.mpr ⟨_,Mh _,rfl⟩
 have hg:∀ a∈n::r,a<=numAt zs.toArray b:=λ a ha=>by
  rw [<- ez] at ha;obtain ⟨z,hz',rfl⟩:=jd4.mp ha;obtain ⟨j,hj,rfl⟩:=Ml hz';rw [<- num j hj];exact l2 j (by omega)
 have eb:numAt zs.toArray b=DL n r:=Yz (Wg r n _ hm) (hg _ (WY r n));exact ⟨.int _,H,I.kept (t':=tk) k,⟨t,rfl⟩,by rw [eb];exact k0⟩
def LB:List (PV×Nat)->Option (PV×Nat)
 | [(.lst xs,_)]=>match DX xs with
  | some (n::r)=>some (.int (DL n r),om)
  | _=>none
 | xs=>OB (λ i j=>if j > i then j else i) xs
def ju (hc:X.calm=true) (hg:Gl X "max") (hm:X.mg "max" = none) (ha:PA X (e::es) (tL M fa vs)) (he:AA (e::es) X.env=(false,eval e X.env)::AA es X.env) (hpl:(CH pos (AA es X.env)).any (·.1)=false):
  PE X (.Call (.Name "max" p) (e::es) [] pos) (tE M (Ao LB fa) vs):=by
 refine BB (IJ ((v7 hc).or (v8 hc)) hg hm rfl ha (he:=he) (hpl:=hpl)) λ σ H Q h=>Gr (λ xs z c ws H fps fp Q ho tm nz zd lf=>?_) h;unfold LB at ho;split at ho
 ·rename_i xs d;split at ho
  ·rename_i n r eb;cases ho;obtain ⟨v,r',f1,f2,rfl,rfl,_,o1,h2⟩:=tm;obtain ⟨rfl,rfl⟩:=h2;obtain ⟨q,us,rfl,hs,ol⟩:=(cold (fp:=f1) o1 λ a ha=>nz a (BP _ ha)).coldL
   have:=ID eb ol
   subst this;exact .inr ⟨q,n,r,rfl,.inl (.inl hs),Eb lf⟩
  ·cases ho
 ·exact .inl (WS ho tm lf)
end
open PySem PySem.Spec PyProof.Rows L2 PySem.Builtin PySem.Builtin.ObjectAttr PySem.Builtin.Getset_descriptor
section
variable {prog:A9}{w:A7}{A:Bs}{E:Ad->Ai->Prop}{K:Frag}{h:Heap}{g:Array GenState}{d:Drawn}{t:Nat}{os:OsState}{a C:Addr}{oe:Obj}
end
section
variable {K:Frag}{a C:Addr}{c d:Nat}{u:Ad}
end
section
variable {X:Cx}
end
section
variable {X:Cx}{M:Fm}{f g:Fx}{vs vs':List Nat}{e:Expr}{es:List Expr}{pos p:Pos}{σ:St}{H:Hp}{Q:VK}
end
section
variable {X:Cx}{M:Fm}{a b:Expr}{f g:Fx}{fa:Fa}{vs vs':List Nat}{pos p:Pos}{σ:St}{H:Hp}{Q:VK}{e:Expr}{es:List Expr}
def DK (neg:Bool) (x:PV) (_:Nat) (y:PV) (_:Nat):Option (PV×Nat):=match x,y with
 | .tup ks,.dct kvs=>(Ct ks).map λ k=>(.bl (neg^^(Co kvs k).isSome),om)
 | .tup key,.dcl ks xs=>(Ct key).map λ k=>(.bl (neg^^(EL ks xs k).isSome),om)
 | _,_=>none
def Jm (neg:Bool):R2:=λ v w H Q=>∃ a o,w=.ref a/\EW H a v o/\Q (.bl (neg^^o.isSome)) H
def qu (hu:X.A.units + 1 < Df):OpR X (Cn .In) (Jm false):=by
 intro pins s σ H x y v u Q I rx ry h;obtain ⟨a,o,rfl,g,q⟩:=h;obtain rfl:u=Value.ref a:=ry;exact SW hu I g rx λ s3 I3=>⟨.bl o.isSome,H,I3,rfl,by simpa using q⟩
def wg (hu:X.A.units + 1 < Df):OpR X (Cn .NotIn) (Jm true):=by
 intro pins s σ H x y v u Q I rx ry h;obtain ⟨a,o,rfl,g,q⟩:=h;obtain rfl:u=Value.ref a:=ry;exact zb hu I g rx λ s3 I3=>⟨.bl (!o.isSome),H,I3,rfl,by simpa using q⟩
def WQ {x y z:PV}{d e c:Nat}{v w:V}{fps:AN}{f1 f2 F:List Addr}{Z Z':Addr->Prop}{neg:Bool} (hK:M.K=X.K) (ho:DK neg x d y e=some (z,c)) (o1:Own M.K H Z x d v f1) (o2:Own M.K H Z' y e w f2) (lf:Bw M H fps vs F z c Q):Jm neg v w H Q:=by
 unfold DK at ho;split at ho
 ·rename_i ks kvs;obtain ⟨k,ek,e2⟩:=jc2.mp ho;cases e2;rw [Own] at o1;rw [Own] at o2;obtain ⟨b,ws,rfl,hb,ol⟩:=o1
  have:=JM ek ol
  subst this;have h2:∃ a,w=.ref a/\Rd H a (.dT kvs):=by
   obtain ⟨a,ea,⟨_,hr,_⟩ | ⟨_,ha,_⟩⟩:=o2
   ·exact ⟨a,ea,hr.1⟩
   ·exact ⟨a,ea,.inl ha⟩
  obtain ⟨a,rfl,ha⟩:=h2;exact ⟨a,_,rfl,.inr ⟨_,k,b,ha,rfl,hb,rfl⟩,Fv lf⟩
 ·rename_i key ks xs;obtain ⟨k,ek,e2⟩:=jc2.mp ho;cases e2;rw [Own] at o1;obtain ⟨b,us,rfl,hb,okey⟩:=o1
  have:=JM ek okey
  subst this;obtain ⟨a,ws,rfl,en,hr,_,ol⟩:=(Own.freeze (Z':=λ _=>False) (λ _ z=>z.elim) _ _ _ _ (λ _ _ z=>z) o2).dcl0;have kv:=RX (k:=k) ol en;have e3:(EL ks xs k).isSome=(Co (ks.zip ws) k).isSome:=by
   cases ex:EL ks xs k with
   | none=>rw [kv.2 ex];rfl
   | some x=>obtain ⟨w',ew,_⟩:=kv.1 x ex;rw [ew];rfl
  rw [e3] at lf;exact ⟨a,_,rfl,.inr ⟨_,k,b,hr,rfl,hb,rfl⟩,Fv lf⟩
 ·cases ho
def ET:Fx:=λ ρ=>.ok (.dct [],om,ρ)
def xa:PE X (.Dict [] [] pos) (tE M ET []):=by
 refine BB kG λ σ H Q h p hp=>?_;obtain ⟨ρ,fps,rep,q⟩:=h;refine q (.ref p) _ fps [p] (KD.grow (D9 hp)) Agr.refl (rep.grow (D9 hp)) ?_ ⟨λ a ha=>by rw [jb7.mp ha];exact hp,λ a ha=>by rw [jb7.mp ha];exact rep.nz hp⟩;rw [Own];exact ⟨p,rfl,.inr ⟨by decide,AV,rfl⟩⟩
end
structure Sx where
 N:List Str
 sc:Br
 ms:List Nat
 al:List (List Nat)
 Γ:List (Str×(Bool×Nat×Fn))
 Γm:List (Str×Fn)
 rz:Bool
 xc:List Nat
 pn:List Nat
def Sx.alF (S:Sx) (i:Nat):List Nat:=S.al.getD i []
def Sx.msF (S:Sx) (i:Nat):Bool:=S.ms.contains i
def D8 (sc:Br) (x:Str) (k:Dn):Bool:=sc.names.lookup x == some k
def Dm (sc:Br) (x:Str):Bool:=D8 sc x .local || D8 sc x .cell || D8 sc x .free
def J2 (N:List Str) (x:Str):Option Nat:=N.findIdx? (·== x)
def Sx.slot (S:Sx) (x:Str):Option Nat:=if Dm S.sc x && !(x == ("__debug__" : Str)) && !(x == ("__classdict__" : Str)) then J2 S.N x else none
def Sx.glob (S:Sx) (x:Str):Bool:=D8 S.sc x .globalImplicit
structure XS (X:Cx) (P:A9) (w:A7) (K:Frag) (mg:Str->Option Ad) (base:Heap) (lvl:Nat) (S:Sx) (Wx:St->Nat->Hp->Prop):Prop where
 prog:X.prog=P
 w:X.w=w
 K:X.K=K
 mg:X.mg=mg
 base:X.base=base
 N:X.N=S.N
 sc:X.env.scope=S.sc
 calm:X.calm=true
 room:Room lvl X.A
 po:Li (Aw X.prog X.w) X.A X.env X.xe
 ps:RC (AW X.prog X.w X.K) X Wx
 rs:S.rz=true->VM X Wx
structure MS (M:Fm) (K:Frag) (S:Sx) (Wx:St->Nat->Hp->Prop):Prop where
 K:M.K=K
 ms:M.Ms=S.msF
 al:∀ i,i < S.N.length->M.al i=S.alF i
 als:∀ i,∀ j∈M.al i,M.Ms j=false
 W:M.W=Wx
 pn:∀ p∈M.pn,p.1 < S.N.length
def GP (P:A9) (w:A7) (K:Frag) (mg:Str->Option Ad) (base:Heap) (lvl:Nat) (Γm:List (Str×Fn)):Prop:=
 ∀ x F,Γm.lookup x=some F->(x == ("__debug__" : Str))=false/\∃ fa fd ps,mg x=some (.ref fa)/\Je K (.ref fa)=true/\qbj K fd ps []/\FnOk P w K mg base (AW P w K) lvl fa fd ps (Z7 K F)
def GX (_:Frag) (_:Str->Option Ad) (xc:List Nat):Prop:=xc=[]
def GS (P:A9) (w:A7) (K:Frag) (mg:Str->Option Ad) (base:Heap) (lvl:Nat) (Γ:List (Str×(Bool×Nat×Fn))):Prop:=
 (∀ x∈zky,mg x=none)/\∀ x io n F,Γ.lookup x=some (io,n,F)->(x == ("__debug__" : Str))=false/\(∀ xs,xs.length≠n->F xs=.no) /\
  ∃ fa fd ps,mg x=some (.ref fa)/\Je K (.ref fa)=true/\qbj K fd ps []/\ps.length=n/\FnOk P w K mg base (AW P w K) lvl fa fd ps (Bi K io n F)
section
variable {X:Cx}{P:A9}{w:A7}{K:Frag}{mg:Str->Option Ad}{base:Heap}{lvl:Nat}{S:Sx}{Wx:St->Nat->Hp->Prop}{M:Fm}
def HX {sc:Br}{x:Str}{k:Dn} (h:D8 sc x k=true):sc.names.lookup x=some k:=by
 unfold D8 at h;exact eq_of_beq h
def VL {sc:Br}{x:Str} (h:Dm sc x=true):HK sc x:=by
 unfold Dm at h;rw [EN,EN] at h;rcases h with (h | h) | h
 ·exact .inl (HX h)
 ·exact .inr (.inl (HX h))
 ·exact .inr (.inr (HX h))
def MY {N:List Str}{x:Str}{i:Nat} (h:J2 N x=some i):N[i]?=some x:=by
 unfold J2 at h;rw [List.findIdx?_eq_some_iff_getElem] at h;obtain ⟨hi,e,_⟩:=h
 have:N[i]=x:=eq_of_beq e
 rw [Cd hi,this]
def XS.var (xs:XS X P w K mg base lvl S Wx) {x:Str}{i:Nat}{pos:Pos} (h:S.slot x=some i):PE X (.Name x pos) (Dq i):=by
 unfold Sx.slot at h;split at h
 ·rename_i hc;simp only [AS,Sw] at hc;exact xq (by rw [xs.N];exact MY h) (by rw [xs.sc];exact VL hc.1.1) hc.1.2 hc.2
 ·cases h
def XS.gl (xs:XS X P w K mg base lvl S Wx) {x:Str} (h:S.glob x=true):Gl X x:=by
 show X.env.scope.names.lookup x=_;rw [xs.sc];exact HX h
theorem D1 {e:Expr}{es:List Expr}{env:Env} (h:∀ x p,e≠.Starred x p):AA (e::es) env=(false,eval e env)::AA es env:=by
 cases e with
 | Starred x p=>exact absurd rfl (h x p)
 | _=>rfl
def IQ:Expr->Bool
 | .Starred _ _=>false
 | _=>true
def D4 {e:Expr} (h:IQ e=true):∀ x p,e≠.Starred x p:=λ x p z=>by rw [z] at h;cases h
theorem Nf {env:Env}{pos:Pos}:∀ {es:List Expr},es.all IQ=true->(CH pos (AA es env)).any (·.1)=false
 | [],_=>rfl
 | e::es,h=>by
  rw [FV,AS] at h;rw [D1 (D4 h.1)];show (false || (CH pos (AA es env)).any (·.1))=false;rw [Nf h.2];rfl
def KN:Expr->Bool
 | .Slice _ _ _ _=>false
 | _=>true
theorem P7 {b:Expr} (h:KN b=true):MC b:=by
 intro o i;cases b with
 | Slice _ _ _ _=>cases h
 | _=>rfl
def U0 (b:Expr):Ho->Option (PV->Nat->PV->Nat->Option (PV×Nat))
 | .Add=>some Bf
 | .Sub=>some Ec
 | .Mult=>some BU
 | .FloorDiv=>some Ea
 | .Mod=>some Cy
 | .Pow=>some Rw
 | _=>none
def ql {a b:Expr}{op:Ho}{o:PV->Nat->PV->Nat->Option (PV×Nat)}{f g:Fx}{vs vs':List Nat}{pos:Pos} (h:U0 b op=some o) (hv:∀ i∈vs,M.Ms i=false) (hK:M.K=X.K) (ha:PE X a (tE M f vs)) (hb:PE X b (tE M g vs')):PE X (.BinOp a op b pos) (tE M (Ab o f g) (vs++vs')):=by
 cases op <;> cases h
 ·exact qX hv hK ha hb
 ·exact OA zP (λ _ _ _=>trivial) hv ha hb
 ·exact xP hv ha hb
 ·exact OA qz (λ _ _=>Ta) hv ha hb
 ·exact OA q9 (λ _ _=>SX) hv ha hb
 ·exact OA kD (λ _ _=>Tb) hv ha hb
def Ga:Expr->Bool
 | .Set _ _ _=>false
 | _=>true
def qj:Expr->Bool
 | .Name x _=>decide (x = "row")
 | _=>false
def jb:Expr->Bool
 | .Subscript (.Name x _) _ _=>decide (x = "piles")
 | _=>false
def Jt (x:PV) (_:Nat) (y:PV) (_:Nat):Option (PV×Nat):=match Dp 20 x,Dp 20 y with
 | some a,some b=>if (SeqAt.ok2 a && SeqAt.ok2 b)=true then some (.bl (SeqAt.lt2 a b),om) else none
 | _,_=>none
def L1 (K:Frag):R2:=λ v w H Q=>∃ x y d e Z Z' f1 f2 a b,Own K H Z x d v f1/\Own K H Z' y e w f2/\Dp 20 x=some a/\Dp 20 y=some b/\(SeqAt.ok2 a && SeqAt.ok2 b)=true/\Q (.bl (SeqAt.lt2 a b)) H
def qx (hu:X.A.units + 64 < Df):OpR X (Cn .Lt) (L1 X.K):=by
 intro pins s σ H v w u u' Q I rx ry h;obtain ⟨x,y,d,e,Z,Z',f1,f2,a,b,o1,o2,h1,h2,hc,q⟩:=h;obtain ⟨as,ra⟩:=IK I 20 x d v f1 u a h1 o1 rx;obtain ⟨bs,rb⟩:=IK I 20 y e w f2 u' b h2 o2 ry;have l1:=Ib 20 x a h1;have l2:=Ib 20 y b h2;rw [AS] at hc;exact SeqAt.ltOk2 a b _ _ _ _ _ _ ra rb hc.1 hc.2 l1.1 l2.1 (by have:=OK a.depth b.depth;omega) _ _ _ _ ⟨.bl _,H,I,rfl,q⟩
def ve {H:Hp}{vs:List Nat}{Q:VK}{x y z:PV}{d e c:Nat}{v w:V}{fps:AN}{f1 f2 F:List Addr}{Z Z':Addr->Prop} (hK:M.K=X.K) (ho:Jt x d y e=some (z,c)) (o1:Own M.K H Z x d v f1) (o2:Own M.K H Z' y e w f2) (lf:Bw M H fps vs F z c Q):L1 X.K v w H Q:=by
 rw [hK] at o1 o2;unfold Jt at ho;split at ho
 ·rename_i a b ea eb;split at ho
  ·rename_i hc;cases ho;exact ⟨x,y,d,e,Z,Z',f1,f2,a,b,o1,o2,ea,eb,hc,Fv lf⟩
  ·cases ho
 ·cases ho
def FQ:PV->Nat->PV->Nat->Option (PV×Nat)
 | .tup xs,_,.tup ys,_=>(match DX xs,DX ys with
  | some a,some b=>some (.bl (HT.lexLt a b),om)
  | _,_=>none)
 | _,_,_,_=>none
def Oo (b:Expr):Eu->Option (PV->Nat->PV->Nat->Option (PV×Nat))
 | .Lt=>if qj b=true then some FQ else if jb b=true then some Jt else some (BC λ i j=>decide (i < j))
 | .LtE=>some (BC λ i j=>decide (i<=j))
 | .Gt=>some (BC λ i j=>decide (j < i))
 | .GtE=>some (BC λ i j=>decide (j<=i))
 | .Eq=>some (Be false)
 | .NotEq=>some (Be true)
 | .Is=>some (EK false)
 | .IsNot=>some (EK true)
 | .In=>if Ga b=true then some (DK false) else none
 | .NotIn=>if Ga b=true then some (DK true) else none
theorem VY {op:Eu}{b:Expr} (h:Ga b=true):Kb op b=false:=by
 cases b with
 | Set _ _ _=>cases h
 | _=>rfl
def ka {op:Eu}{o:PV->Nat->PV->Nat->Option (PV×Nat)}{f g:Fx}{vs vs':List Nat}{b:Expr} (h:Oo b op=some o) (hu:X.A.units + 64 < Df) (hv:∀ i∈vs,M.Ms i=false) (hK:M.K=X.K):
  ∃ r,OpR X (Cn op) r/\Kb op b=false/\∀ σ H Q,tE M (Ab o f g) (vs++vs') σ H Q->Kg r (tE M f vs) (tE M g vs') σ H Q:=by
 cases op
 ·cases h;exact ⟨_,qv hu,EY _ (by decide) (by decide),λ σ H Q h=>DC hv (λ x d y e z c v w H fps f1 f2 Q ho o1 o2 dj nz zd lf=>WR hK ho o1 o2 lf) h⟩
 ·cases h;exact ⟨_,q0 hu,EY _ (by decide) (by decide),λ σ H Q h=>DC hv (λ x d y e z c v w H fps f1 f2 Q ho o1 o2 dj nz zd lf=>WR hK ho o1 o2 lf) h⟩
 ·unfold Oo at h;dsimp only at h;split at h
  ·cases h;refine ⟨_,qy (by omega),EY _ (by decide) (by decide),λ σ H Q h=>DC hv (λ x d y e z c v w H fps f1 f2 Q ho o1 o2 dj nz zd lf=>?_) h⟩;unfold FQ at ho;split at ho
   ·rename_i xs d' ys e';split at ho
    ·rename_i a b' ea eb;cases ho;obtain ⟨p,us,rfl,hs,ol⟩:=(cold (fp:=f1) o1 λ a ha=>nz a (BP _ ha)).coldT;obtain ⟨p',us',rfl,hs',ol'⟩:=(cold (fp:=f2) o2 λ a ha=>nz a (BJ _ ha)).coldT;have h1:=ID ea ol;have h2:=ID eb ol';subst h1;subst h2;exact ⟨p,p',a,b',rfl,rfl,.inl (.inl hs),.inl (.inl hs'),Fv lf⟩
    ·cases ho
   ·cases ho
  ·split at h
   ·cases h;exact ⟨_,qx hu,EY _ (by decide) (by decide),λ σ H Q h=>DC hv (λ x d y e z c v w H fps f1 f2 Q ho o1 o2 dj nz zd lf=>ve hK ho o1 o2 lf) h⟩
   ·cases h;exact ⟨_,UK,EY _ (by decide) (by decide),λ σ H Q h=>DC hv (λ x d y e z c v w H fps f1 f2 Q ho o1 o2 dj nz zd lf=>Na ho o1 o2 lf) h⟩
 ·cases h;exact ⟨_,UJ,EY _ (by decide) (by decide),λ σ H Q h=>DC hv (λ x d y e z c v w H fps f1 f2 Q ho o1 o2 dj nz zd lf=>Na ho o1 o2 lf) h⟩
 ·cases h;exact ⟨_,UI,EY _ (by decide) (by decide),λ σ H Q h=>DC hv (λ x d y e z c v w H fps f1 f2 Q ho o1 o2 dj nz zd lf=>Na ho o1 o2 lf) h⟩
 ·cases h;exact ⟨_,UH,EY _ (by decide) (by decide),λ σ H Q h=>DC hv (λ x d y e z c v w H fps f1 f2 Q ho o1 o2 dj nz zd lf=>Na ho o1 o2 lf) h⟩
 ·cases h;refine ⟨_,qrl.or qw,EY _ (by decide) (by decide),λ σ H Q h=>DC hv (λ x d y e z c v w H fps f1 f2 Q ho o1 o2 dj nz zd lf=>?_) h⟩;rcases Wm ho o1 o2 lf with ⟨i,j,e1,e2,q⟩ | ⟨e1,q⟩
  ·exact .inl ⟨i,j,e1,e2,by simpa using q⟩
  ·exact .inr ⟨e1,by rw [Me] at q;exact q⟩
 ·cases h;refine ⟨_,qgi.or zO,EY _ (by decide) (by decide),λ σ H Q h=>DC hv (λ x d y e z c v w H fps f1 f2 Q ho o1 o2 dj nz zd lf=>?_) h⟩;rcases Wm ho o1 o2 lf with ⟨i,j,e1,e2,q⟩ | ⟨e1,q⟩
  ·exact .inl ⟨i,j,e1,e2,by simpa [bne] using q⟩
  ·exact .inr ⟨e1,by rw [Yu] at q;exact q⟩
 ·replace h:(if Ga b=true then some (DK false) else none)=some o:=h;split at h
  ·rename_i hb;cases h;exact ⟨_,qu (by omega),VY hb,λ σ H Q h=>DC hv (λ x d y e z c v w H fps f1 f2 Q ho o1 o2 dj nz zd lf=>WQ hK ho o1 o2 lf) h⟩
  ·cases h
 ·replace h:(if Ga b=true then some (DK true) else none)=some o:=h;split at h
  ·rename_i hb;cases h;exact ⟨_,wg (by omega),VY hb,λ σ H Q h=>DC hv (λ x d y e z c v w H fps f1 f2 Q ho o1 o2 dj nz zd lf=>WQ hK ho o1 o2 lf) h⟩
  ·cases h
def Gb:Eu->Option (Int->Int->Bool)
 | .Lt=>some λ i j=>decide (i < j)
 | .LtE=>some λ i j=>decide (i<=j)
 | .Gt=>some λ i j=>decide (j < i)
 | .GtE=>some λ i j=>decide (j<=i)
 | .Eq=>some λ i j=>decide (i=j)
 | _=>none
def zN:OpR X (Cn .Eq) (Fh λ i j=>.bl (decide (i=j))):=λ pins s σ H x y v u Q I rx ry h=>ZL pins s σ H x y v u Q I rx ry (by
 obtain ⟨i,j,rfl,rfl,q⟩:=h;refine ⟨rfl,?_⟩;rw [We];exact q)
def XI {op:Eu}{p:Int->Int->Bool} (h:Gb op=some p):OpR X (Cn op) (Fh λ i j=>.bl (p i j))/\op≠.In/\op≠.NotIn:=by
 cases op <;> cases h
 ·exact ⟨zN,by decide,by decide⟩
 ·exact ⟨UK,by decide,by decide⟩
 ·exact ⟨UJ,by decide,by decide⟩
 ·exact ⟨UI,by decide,by decide⟩
 ·exact ⟨UH,by decide,by decide⟩
def He (p q:Int->Int->Bool) (f g h:Fx):Fx:=λ ρ=>(f ρ).bind λ (x,_,ρ1)=>(g ρ1).bind λ (y,_,ρ2)=>match x,y with
 | .int i,.int j=>if p i j=true then (h ρ2).bind λ (z,_,ρ3)=>(match z with
  | .int k=>.ok (.bl (q j k),om,ρ3)
  | _=>.no) else .ok (.bl false,om,ρ2)
 | _,_=>.no
theorem X6 {p q:Int->Int->Bool}{f g h:Fx}{vs v1 v2 v3:List Nat}{σ:St}{H:Hp}{Q:VK} (hq:tE M (He p q f g h) vs σ H Q):R7 (Fh λ i j=>.bl (p i j)) (Fh λ i j=>.bl (q i j)) (tE M f v1) (tE M g v2) (tE M h v3) σ H Q:=by
 obtain ⟨ρ,fps,rep,qq⟩:=hq;refine ⟨ρ,fps,rep,?_⟩;unfold He at qq;cases ef:f ρ with
 | no=>rw [ef] at qq;exact qq
 | exc c=>rw [ef] at qq;exact qq
 | ok p0=>
  obtain ⟨x,d,ρ1⟩:=p0;rw [ef] at qq;intro v H1 fps1 f1 k1 g1 rep1 o1 t1;refine ⟨ρ1,fps1,rep1,?_⟩;dsimp only [Rz.bind] at qq;cases eg:g ρ1 with
  | no=>rw [eg] at qq;exact qq
  | exc c=>rw [eg] at qq;exact λ H' fps' k=>qq H' fps' (k1.trans k)
  | ok p2=>
   obtain ⟨y,e,ρ2⟩:=p2;rw [eg] at qq;intro w H2 fps2 f2 k2 g2 rep2 o2 t2;cases x with
   | int i=>
    cases y with
    | int j=>
     dsimp only at qq;rw [Own] at o1 o2;obtain ⟨rfl,rfl⟩:=o1;obtain ⟨rfl,rfl⟩:=o2;refine ⟨i,j,rfl,rfl,p i j,rfl,?_⟩;by_cases hp:p i j=true
     ·rw [if_pos hp] at qq ⊢;refine ⟨ρ2,fps2,rep2,?_⟩;cases eh:h ρ2 with
      | no=>rw [eh] at qq;exact qq
      | exc c=>rw [eh] at qq;exact λ H' fps' k=>qq H' fps' ((k1.trans k2).trans k)
      | ok p3=>
       obtain ⟨z,c,ρ3⟩:=p3;rw [eh] at qq;intro u H3 fps3 f3 k3 g3 rep3 o3 t3;cases z with
       | int k=>
        dsimp only at qq;rw [Own] at o3;obtain ⟨rfl,rfl⟩:=o3;exact ⟨j,k,rfl,rfl,qq _ H3 fps3 [] ((k1.trans k2).trans k3) ((g1.trans g2).trans g3) rep3 (by rw [Own];exact ⟨rfl,rfl⟩) ⟨λ _ z=>(nomatch z),λ _ z=>nomatch z⟩⟩
       | _=>exact qq.elim
     ·rw [if_neg hp] at qq ⊢;exact qq _ H2 fps2 [] (k1.trans k2) (g1.trans g2) rep2 (by rw [Own];exact ⟨rfl,rfl⟩) ⟨λ _ z=>(nomatch z),λ _ z=>nomatch z⟩
    | _=>exact qq.elim
   | _=>exact qq.elim
def D6 (f g:Fx):Fx:=λ ρ=>(f ρ).bind λ (x,_,ρ1)=>match x with
 | .bl true=>g ρ1
 | .bl false=>.ok (.bl false,om,ρ1)
 | _=>.no
def Bv (f g:Fx):Fx:=λ ρ=>(f ρ).bind λ (x,_,ρ1)=>match x with
 | .bl true=>.ok (.bl true,om,ρ1)
 | .bl false=>g ρ1
 | _=>.no
def CS:PV->Nat->Option (PV×Nat)
 | .bl b,_=>some (.bl (!b),om)
 | _,_=>none
variable {f g:Fx}{vs vs':List Nat}{σ:St}{H:Hp}{Q:VK}
theorem MT {f:Fx}{ρ ρ1:Ae}{fps fps1:AN}{H H1:Hp} (k1:KD M H fps H1 fps1) (g1:Agr M ρ ρ1) (rep1:Rep M ρ1 σ H1 fps1) (hs:∀ i∈vs,i∈vs')
  (q:match f ρ1 with
   | .ok (x,d,ρ')=>∀ v H' fps' fp,KD M H fps H' fps'->Agr M ρ ρ'->Rep M ρ' σ H' fps'->Own M.K H' (Zt M vs' fps' fp) x d v fp->Temp M vs' H H' fps' fp->Q v H'
   | .exc c=>∀ H' fps',KD M H fps H' fps'->M.W σ c H'
   | .no=>False):tE M f vs σ H1 Q:=by
 refine ⟨ρ1,fps1,rep1,?_⟩;cases eg:f ρ1 with
 | no=>rw [eg] at q;exact q
 | exc c=>rw [eg] at q;exact λ H' fps' k=>q H' fps' (k1.trans k)
 | ok p2=>
  obtain ⟨x,d,ρ2⟩:=p2;rw [eg] at q;exact λ v H' fps' fp k g r o t=>q v H' fps' fp (k1.trans k) (g1.trans g) r (o.weak λ a h=>Zt.mono hs h) ⟨λ a ha=>(by
   have e:=t.new a ha;cases e':H a with
   | none=>rfl
   | some o=>exact absurd e (k1.dom a (by rw [e'];simp))),t.ndj⟩
theorem j4 (hq:tE M (D6 f g) (vs++vs') σ H Q):Vd (tE M f vs) (tE M g vs') σ H Q:=by
 obtain ⟨ρ,fps,rep,q⟩:=hq;refine ⟨ρ,fps,rep,?_⟩;unfold D6 at q;cases ef:f ρ with
 | no=>rw [ef] at q;exact q
 | exc c=>rw [ef] at q;exact q
 | ok p=>
  obtain ⟨x,d,ρ1⟩:=p;rw [ef] at q;intro v H1 fps1 f1 k1 g1 rep1 o1 t1;dsimp only [Rz.bind] at q;cases x with
  | bl b=>
   rw [Own] at o1;refine ⟨b,o1.1,?_⟩;cases b with
   | true=>exact MT k1 g1 rep1 (λ i hi=>BJ _ hi) q
   | false=>exact q (.bl false) H1 fps1 [] k1 g1 rep1 (by rw [Own];exact ⟨rfl,rfl⟩) ⟨λ _ z=>(nomatch z),λ _ z=>nomatch z⟩
  | _=>exact q.elim
theorem xu (hq:tE M (Bv f g) (vs++vs') σ H Q):Lu (tE M f vs) (tE M g vs') σ H Q:=by
 obtain ⟨ρ,fps,rep,q⟩:=hq;refine ⟨ρ,fps,rep,?_⟩;unfold Bv at q;cases ef:f ρ with
 | no=>rw [ef] at q;exact q
 | exc c=>rw [ef] at q;exact q
 | ok p=>
  obtain ⟨x,d,ρ1⟩:=p;rw [ef] at q;intro v H1 fps1 f1 k1 g1 rep1 o1 t1;dsimp only [Rz.bind] at q;cases x with
  | bl b=>
   rw [Own] at o1;refine ⟨b,o1.1,?_⟩;cases b with
   | false=>exact MT k1 g1 rep1 (λ i hi=>BJ _ hi) q
   | true=>exact q (.bl true) H1 fps1 [] k1 g1 rep1 (by rw [Own];exact ⟨rfl,rfl⟩) ⟨λ _ z=>(nomatch z),λ _ z=>nomatch z⟩
  | _=>exact q.elim
theorem j6 (hq:tE M (Bu CS f) vs σ H Q):UU (tE M f vs) σ H Q:=by
 refine Oy (r:=λ x H1 Q=>∃ c,x=.bl c/\Q (.bl (!c)) H1) (λ x d z c v H fps f1 Q ho o1 nz zd lf=>?_) hq;cases x with
 | bl b=>cases ho;rw [Own] at o1;exact ⟨b,o1.1,Fv lf⟩
 | _=>cases ho
end
def Ce (c:Fb) (f g:Fx):Fx:=λ ρ=>(c ρ).bind λ (b,ρ1)=>if b=true then f ρ1 else g ρ1
section
variable {X:Cx}{M:Fm}{c:Fb}{f g:Fx}{vs vs':List Nat}{σ:St}{H:Hp}{Q:VK}
theorem xU (hq:tE M (Ce c f g) (vs++vs') σ H Q):Uz (tT M c) (tE M f vs) (tE M g vs') σ H Q:=by
 obtain ⟨ρ,fps,rep,q⟩:=hq;refine ⟨ρ,fps,rep,?_⟩;unfold Ce at q;cases ec:c ρ with
 | no=>rw [ec] at q;exact q
 | exc c=>rw [ec] at q;exact q
 | ok p=>
  obtain ⟨b,ρ1⟩:=p;rw [ec] at q;intro H1 fps1 k1 g1 rep1;dsimp only [Rz.bind] at q;cases b with
  | true=>exact MT k1 g1 rep1 (λ i hi=>BP _ hi) q
  | false=>exact MT k1 g1 rep1 (λ i hi=>BJ _ hi) q
def xg {t a b:Expr}{pos:Pos} (ht:PT X t (tT M c)) (ha:PE X a (tE M f vs)) (hb:PE X b (tE M g vs')):PE X (.IfExp t a b pos) (tE M (Ce c f g) (vs++vs')):=BB (kH ht ha hb) λ σ H Q q=>xU q
def Lv (t u v:TT):TT:=λ σ H Q=>t σ H λ c H1=>if c=true then u σ H1 Q else v σ H1 Q
theorem qN {t a b:Expr}{pos:Pos}{tA tB tC:TT} (ht:PT X t tA) (ha:PT X a tB) (hb:PT X b tC):PT X (.IfExp t a b pos) (Lv tA tB tC):=by
 intro pins s σ H Q I h;unfold PySem.isTrue;refine Ak (A1 (ht pins s σ H _ I h) λ d s1 ⟨H1,I1,q1⟩=>?_);cases d with
 | true=>exact ha pins s1 σ H1 Q I1 q1
 | false=>exact hb pins s1 σ H1 Q I1 q1
theorem ZU:bT (Ce c f g)=λ ρ=>(c ρ).bind λ (b,ρ1)=>if b=true then bT f ρ1 else bT g ρ1:=by
 funext ρ;unfold bT Ce;dsimp only;cases c ρ with
 | no=>rfl
 | exc c=>rfl
 | ok p=>
  obtain ⟨b,ρ1⟩:=p;cases b <;> rfl
theorem xD {Q:Bool->Hp->Prop} (hq:tT M (bT (Ce c f g)) σ H Q):Lv (tT M c) (tT M (bT f)) (tT M (bT g)) σ H Q:=by
 rw [ZU] at hq;obtain ⟨ρ,fps,rep,q⟩:=hq;refine ⟨ρ,fps,rep,?_⟩;dsimp only at q;cases ef:c ρ with
 | no=>rw [ef] at q;exact q
 | exc c=>rw [ef] at q;exact q
 | ok p=>
  obtain ⟨b,ρ1⟩:=p;rw [ef] at q;intro H1 fps1 k1 g1 rep1;dsimp only [Rz.bind] at q;cases b with
  | false=>
   refine ⟨ρ1,fps1,rep1,?_⟩;rw [if_neg (by decide)] at q;cases eg:bT g ρ1 with
   | no=>rw [eg] at q;exact q
   | exc c=>rw [eg] at q;exact λ H' fps' k=>q H' fps' (k1.trans k)
   | ok p2=>rw [eg] at q;exact λ H' fps' k g r=>q H' fps' (k1.trans k) (g1.trans g) r
  | true=>
   refine ⟨ρ1,fps1,rep1,?_⟩;rw [if_pos rfl] at q;cases eg:bT f ρ1 with
   | no=>rw [eg] at q;exact q
   | exc c=>rw [eg] at q;exact λ H' fps' k=>q H' fps' (k1.trans k)
   | ok p2=>rw [eg] at q;exact λ H' fps' k g r=>q H' fps' (k1.trans k) (g1.trans g) r
end
def RawD (h:Heap) (d:Addr) (es:Array Ee) (ep:Nat):Prop:=∃ o,h.get? d=some o/\o.ExactDict/\o.data=.dict es ep
def RawD.to {h h':Heap}{d:Addr}{es:Array Ee}{ep:Nat} (x:RawD h d es ep) (k:∀ o,h.get? d=some o->h'.get? d=some o):RawD h' d es ep:=let ⟨o,e,r⟩:=x;⟨o,k o e,r⟩
section
variable {pg:A9}{wd:A7}{Ar:Bs}{Er:Ad->Ai->Prop}{st:Ai}{d it:Addr}{es:Array Ee}{ep i:Nat}
def RawD.ty (x:RawD st.heap d es ep):st.TypeIs (.ref d) "dict" := let ⟨o,e,c,_⟩:=x;⟨o,e,c.1⟩
def X1 {Qv:Ad->Ai->Prop} (nm:(d == Ex)=false) (x:RawD st.heap d es ep)
  (q:Qv (.ref st.heap.objs.size) { st with heap:=st.heap.push { cls:=.type "dict_keyiterator",data:=.fields #[.ref d,.int 0 0,.int es.size 0,.int ep 0] } }):
  An (Aw pg wd) Ar (pyIter (.ref d)) Qv Er st:=by
 obtain ⟨o,e1,c1,e2⟩:=id x;have tD:st.TypeIs (.ref d) "dict" := x.ty;refine wpAny_pyIter_slot tD F.slot_dict_iter (Jg F.slot_dict_iter tD F.entry_dict_iter ?_ (F.args_dict_iter_1 _));delta vj9.«dict.__iter__»;refine Ak ?_;delta Builtin.Dict.dictSlotNone;refine Ak (Qt tD (show An _ _ (pure (Value.ref d)) _ _ st from Az ?_));show An _ _ (Ln d >>= _) _ _ st;delta Ln;rw [if_neg (by rw [nm];exact Ck)];refine Ak (Az (Ak (Ht e1 e2 (Ak (Ke e1 e2 (Ak (Fg (Az ⟨_,rfl,"dict_keyiterator",_,⟨_,C0 _ rfl,rfl⟩,F.slot_dict_keyiterator_next.lookup,?_⟩))))))));simpa [Ed] using q
def kN {Qv:Option Ad->Ai->Prop}{e:Ee} (ki:st.heap.IsKeyIter it d i es.size ep) (x:RawD st.heap d es ep) (hx:es[i]?=some e)
  (q:∀ hp,hp.IsKeyIter it d (i + 1) es.size ep->JY it st.heap hp->Qv (some e.key) { st with heap:=hp }):
  An (Aw pg wd) Ar (FG (.ref it)) Qv Er st:=by
 obtain ⟨u,i1,i2,i3⟩:=id ki;obtain ⟨o,e1,c1,e2⟩:=id x;delta FG;refine Ak (Nq (Lp (name:=Ka "__next__") ki.typeIs NG (Jg NG ki.typeIs Ut ?_ (Uu _))));refine Ak (Az (Ak (Ak ?_)))
 first | refine Ak (NH ki.typeIs (Az (Ak (Kd i1 i3 ?_)))) | refine Ak (NB ki.typeIs (Az (Ak (Kd i1 i3 ?_))))
 simp only [show Lq "dict_keyiterator" = false from by decide,GJ,if_false];show An _ _ (if (Value.ref d == Value.none)=true then _ else _) _ _ st;have nn:¬ ((Value.ref d == Value.none)=true):=Ck;rw [if_neg nn];refine Ak (Az (Ak (Ht e1 e2 ?_)));rw [if_neg (by simp)];refine Ak (Az (Ak (Ke e1 e2 ?_)));rw [if_neg (by simp)];refine Az ?_;have nl:¬ ((i:Int) < 0):=by omega
 simp only [nl,if_false,CD,hx];refine Ak ?_
 first | refine Ak (NH ki.typeIs (Az (Ak (Qr ki.typeIs ?_)))) | refine Ak (NB ki.typeIs (Az (Ak (Qr ki.typeIs ?_))))
 show An _ _ (setField (.ref it) 1 (Ed ((i:Int) + 1)) >>= _) _ _ st;refine Ak (Nw i1 i3 (by simp) ?_);have k2:(st.heap.update it (Lj (·.setIfInBounds 1 (Ed ((i:Int) + 1))))).IsKeyIter it d (i + 1) es.size ep:=
  ⟨_,Lo _ i1 (Obj.isFreed_of_fields (N4 i3 _)),(Obj.cls_mapFields ..).trans i2,by rw [N4 i3];simp [Ed]⟩
 refine Ak (Jd (Ak (Qr (s:={ st with heap:=st.heap.update it (Lj (·.setIfInBounds 1 (Ed ((i:Int) + 1)))) }) k2.typeIs ?_)));show An _ _ (pure e.key) _ _ _;exact Az (Az ⟨_,rfl,Az (q _ k2 (N7 ..))⟩)
end
def kP:Av->PV
 | .inl i=>.int i
 | .inr x=>.str x
def Bg (k:List Av):PV:=.tup (k.map kP)
section
variable {X:Cx}
end
section
variable {K:Frag}{H:Hp}{Z:Addr->Prop}
theorem Xe:∀ (k:List Av),OwnL K H Z (k.map kP) 0 (k.map kV) []
 | []=>by rw [FT,FT,OwnL];exact ⟨rfl,rfl⟩
 | k::r=>by
  rw [AR,AR,OwnL];refine ⟨_,_,[],[],rfl,rfl,λ _ z=>(nomatch z),?_,Xe r⟩;cases k <;> (show Own K H Z _ 0 _ []) <;> exact ⟨rfl,rfl⟩
end
section
variable {pg:A9}{wd:A7}{Ar:Bs}{Er:Ad->Ai->Prop}{st:Ai}{d it:Addr}{es:Array Ee}{ep i:Nat}
def wD {Qv:Option Ad->Ai->Prop} (hd0:Ar.handled=none) (ki:st.heap.IsKeyIter it d i es.size ep) (x:RawD st.heap d es ep) (hge:es.size<=i)
  (q:∀ hp,Heap.ExtBut it st.heap hp->Qv none { st with heap:=hp }):An (Aw pg wd) Ar (FG (.ref it)) Qv Er st:=by
 obtain ⟨u,i1,i2,i3⟩:=id ki;obtain ⟨o,e1,c1,e2⟩:=id x;delta FG;refine Ak (Nq (Lp (name:=Ka "__next__") ki.typeIs NG (Jg NG ki.typeIs Ut ?_ (Uu _))));refine Ak (Az (Ak (Ak ?_)))
 first | refine Ak (NH ki.typeIs (Az (Ak (Kd i1 i3 ?_)))) | refine Ak (NB ki.typeIs (Az (Ak (Kd i1 i3 ?_))))
 simp only [show Lq "dict_keyiterator" = false from by decide,GJ,if_false];show An _ _ (if (Value.ref d == Value.none)=true then _ else _) _ _ st;have nn:¬ ((Value.ref d == Value.none)=true):=Ck;rw [if_neg nn];refine Ak (Az (Ak (Ht e1 e2 ?_)));rw [if_neg (by simp)];refine Ak (Az (Ak (Ke e1 e2 ?_)));rw [if_neg (by simp)];refine Az ?_;have nl:¬ ((i:Int) < 0):=by omega
 simp only [nl,if_false,CD,Mo hge];refine Ak ?_
 first | refine Ak (NH ki.typeIs (Az ?_)) | refine Ak (NB ki.typeIs (Az ?_))
 show An _ _ (setField (.ref it) 0 .none >>= _) _ _ st;refine Ak (Nw i1 i3 (by simp) ?_);show An _ _ (newExc (.type "StopIteration") [] >>= _) _ _ _;refine Ak ?_;simp only [newExc,newTuple];refine Ak (Fg (Ak (m:=Nv _ _) (wpAny_of_eq (a:=Value.none) (by first | rfl | (simp only [Nv];rfl)) (Fg ?_ (by size_fits)))) (by size_fits));simp only [raiseNew];refine Ak (wpAny_handled ?_);rw [show Ar.in1.handled=none from hd0];refine Ak (Az (wpAny_throw (E:=_) ?_));refine Ak (N1 (b:=true) (T := "StopIteration") ⟨_,C0 _ rfl,rfl⟩ isSubtype_stop ?_);exact Az (q _ (((N7 ..).extBut.push _).push _))
def Yb {v:Addr}{Qv:Ad->Ai->Prop} (hv:st.heap.IsValuesView v d) (x:RawD st.heap d es ep)
  (q:Qv (.ref st.heap.objs.size) { st with heap:=st.heap.push { cls:=.type "dict_valueiterator",data:=.fields #[.ref d,.int 0 0,.int es.size 0,.int ep 0] } }):
  An (Aw pg wd) Ar (pyIter (.ref v)) Qv Er st:=by
 obtain ⟨ov,hov,hcv,hdv⟩:=id hv;obtain ⟨o,e1,c1,e2⟩:=id x;refine wpAny_pyIter_slot hv.typeIs F.slot_dict_values_iter (Jg F.slot_dict_values_iter hv.typeIs F.entry_dict_values_iter ?_ (F.args_dict_values_iter_1 _));delta vj9.«dict_values.__iter__»;refine Ak (Az ?_);refine Ak ?_;delta Builtin.Dict_items.dictOf;refine Ak (Nm hov hdv (x:=.ref d) rfl (Az ?_));refine Ak ?_;delta Builtin.Dict_items.newIterator;refine Ak (Ht e1 e2 ?_);refine Ak (Ke e1 e2 ?_);have hown:Lq "dict_valueiterator" = false:=by decide
 simp only [hown,GJ,if_false];refine Fg (Az ⟨_,rfl,"dict_valueiterator",_,⟨_,C0 _ rfl,rfl⟩,F.slot_dict_valueiterator_next.lookup,?_⟩);simpa [Ed] using q
def wx {Qv:Option Ad->Ai->Prop}{e:Ee} (ki:st.heap.IsValIter it d i es.size ep) (x:RawD st.heap d es ep) (hx:es[i]?=some e)
  (q:∀ hp,hp.IsValIter it d (i + 1) es.size ep->JY it st.heap hp->Qv (some e.val) { st with heap:=hp }):
  An (Aw pg wd) Ar (FG (.ref it)) Qv Er st:=by
 obtain ⟨u,i1,i2,i3⟩:=id ki;obtain ⟨o,e1,c1,e2⟩:=id x;delta FG;refine Ak (Nq (Lp (name:=Ka "__next__") ki.typeIs NJ (Jg NJ ki.typeIs Uv ?_ (Ux _))));refine Ak (Az ?_);refine Ak ?_;refine Ak ?_
 first | refine Ak (NI ki.typeIs (Az ?_)) | refine Ak (NC ki.typeIs (Az ?_))
 refine Ak (Kd i1 i3 ?_);simp only [show Lq "dict_valueiterator" = false from by decide,GJ,if_false];show An _ _ (if (Value.ref d == Value.none)=true then _ else _) _ _ st;rw [if_neg (show ¬ ((Value.ref d == Value.none)=true) from Ck)];refine Ak (Az ?_);refine Ak (Ht e1 e2 ?_);rw [if_neg (by simp)];refine Ak (Az ?_);refine Ak (Ke e1 e2 ?_);rw [if_neg (by simp)];refine Az ?_;simp only [show ¬ ((i:Int) < 0) from by omega,if_false,CD,hx];refine Ak ?_
 first | refine Ak (NI ki.typeIs (Az ?_)) | refine Ak (NC ki.typeIs (Az ?_))
 refine Ak (Qs ki.typeIs ?_);show An _ _ (setField (.ref it) 1 (Ed ((i:Int) + 1)) >>= _) _ _ st;refine Ak (Nw i1 i3 (by simp) ?_);have k2:(st.heap.update it (Lj (·.setIfInBounds 1 (Ed ((i:Int) + 1))))).IsValIter it d (i + 1) es.size ep:=
  ⟨_,Lo _ i1 (Obj.isFreed_of_fields (N4 i3 _)),(Obj.cls_mapFields ..).trans i2,by rw [N4 i3];simp [Ed]⟩
 refine Ak (Jd ?_);refine Ak (Qs (s:={ st with heap:=st.heap.update it (Lj (·.setIfInBounds 1 (Ed ((i:Int) + 1)))) }) k2.typeIs ?_);refine Ak (Qs (s:={ st with heap:=st.heap.update it (Lj (·.setIfInBounds 1 (Ed ((i:Int) + 1)))) }) k2.typeIs ?_);show An _ _ (pure e.val) _ _ _;exact Az (Az ⟨_,rfl,Az (q _ k2 (N7 ..))⟩)
def wu {Qv:Option Ad->Ai->Prop} (hd0:Ar.handled=none) (ki:st.heap.IsValIter it d i es.size ep) (x:RawD st.heap d es ep) (hge:es.size<=i)
  (q:∀ hp,Heap.ExtBut it st.heap hp->Qv none { st with heap:=hp }):An (Aw pg wd) Ar (FG (.ref it)) Qv Er st:=by
 obtain ⟨u,i1,i2,i3⟩:=id ki;obtain ⟨o,e1,c1,e2⟩:=id x;delta FG;refine Ak (Nq (Lp (name:=Ka "__next__") ki.typeIs NJ (Jg NJ ki.typeIs Uv ?_ (Ux _))));refine Ak (Az ?_);refine Ak ?_;refine Ak ?_
 first | refine Ak (NI ki.typeIs (Az ?_)) | refine Ak (NC ki.typeIs (Az ?_))
 refine Ak (Kd i1 i3 ?_);simp only [show Lq "dict_valueiterator" = false from by decide,GJ,if_false];show An _ _ (if (Value.ref d == Value.none)=true then _ else _) _ _ st;rw [if_neg (show ¬ ((Value.ref d == Value.none)=true) from Ck)];refine Ak (Az ?_);refine Ak (Ht e1 e2 ?_);rw [if_neg (by simp)];refine Ak (Az ?_);refine Ak (Ke e1 e2 ?_);rw [if_neg (by simp)];refine Az ?_;simp only [show ¬ ((i:Int) < 0) from by omega,if_false,CD,Mo hge];refine Ak ?_
 first | refine Ak (NI ki.typeIs (Az ?_)) | refine Ak (NC ki.typeIs (Az ?_))
 show An _ _ (setField (.ref it) 0 .none >>= _) _ _ st;refine Ak (Nw i1 i3 (by simp) ?_);show An _ _ (newExc (.type "StopIteration") [] >>= _) _ _ _;refine Ak ?_;simp only [newExc,newTuple];refine Ak (Fg ?_ (by size_fits));refine Ak (m:=Nv _ _) (wpAny_of_eq (a:=Value.none) (by first | rfl | (simp only [Nv];rfl)) ?_);refine Fg ?_ (by size_fits);simp only [raiseNew];refine Ak (wpAny_handled ?_);rw [show Ar.in1.handled=none from hd0];refine Ak (Az (wpAny_throw (E:=_) ?_));refine Ak (N1 (b:=true) (T := "StopIteration") ⟨_,C0 _ rfl,rfl⟩ isSubtype_stop ?_);exact Az (q _ (((N7 ..).extBut.push _).push _))
end
def Tr (a:Addr) (o:Obj) (kvs:List (List Av×V)):It:=⟨λ i H=>H a=some (.frz o (.dT kvs))/\i < kvs.length,λ i H v H'=>H'=H/\∃ b p,v=.ref b/\kvs[i]?=some p/\H b=some (.tup (p.1.map kV)),λ i H=>H a=some (.frz o (.dT kvs))/\kvs.length<=i⟩
def Tq (a:Addr) (o:Obj) (kvs:List (List Av×V)):It:=⟨λ i H=>H a=some (.frz o (.dT kvs))/\i < kvs.length,λ i H v H'=>H'=H/\∃ p,v=p.2/\kvs[i]?=some p,λ i H=>H a=some (.frz o (.dT kvs))/\kvs.length<=i⟩
theorem P4 {α β:Type}{R:α->β->Prop}:∀ {xs:List α}{ys:List β},FF R xs ys->∀ {i:Nat}{x:α},xs[i]?=some x->∃ y,ys[i]?=some y/\R x y
 | _,_,.nil,i,x,e=>by simp at e
 | _,_,.cons h t,0,x,e=>by simp at e;subst e;exact ⟨_,rfl,h⟩
 | _,_,.cons h t,i + 1,x,e=>by
  rw [Iu] at e ⊢;exact P4 t e
theorem P5 {α β:Type}{R:α->β->Prop}:∀ {xs:List α}{ys:List β},FF R xs ys->xs.length=ys.length
 | _,_,.nil=>rfl
 | _,_,.cons _ t=>by rw [Ba,Ba,P5 t]
def known {X:Cx}{pins:List (Addr×Obj)}{σ:St}{H:Hp}{s:Ai}{a:Addr}{o:Obj}{kvs:List (List Av×V)}{es:Array Ee}{ep:Nat} (I:Inv X pins σ H s) (hd:o.data=.dict es ep) (h:H a=some (.frz o (.dT kvs))):
  s.heap.get? a=some o/\o.ExactDict/\es.size=kvs.length/\∀ (i:Nat) (p:List Av×V),kvs[i]?=some p->∃ (e:Ee) (b:Addr),es[i]?=some e/\e.key=.ref b/\H b=some (.tup (p.1.map kV))/\RelV p.2 e.val:=by
 obtain ⟨e0,hz,nm,ys,pr,o',es',ep',e1,c1,d1,l1,nd⟩:=(show zxo X.prog X.w H s.heap a (.frz o (.dT kvs)) from I.hok a _ h)
 cases e0.symm.trans e1;cases hd.symm.trans d1;have hl:es.size=ys.length:=by rw [<- Ir,l1,AG]
 refine ⟨e0,c1,by rw [hl,P5 pr],λ i p hp=>?_⟩;obtain ⟨q,hq,hk,hb,hv⟩:=P4 pr hp;refine ⟨JX (FH (Dc X.prog X.w)) q,q.2.1,?_,rfl,hb,hv⟩;rw [<- OS,l1,BW,hq];rfl
def TY {P:A9}{w:A7}{K:Frag}{tg:Expr}{o:Obj}{kvs:List (List Av×V)}{es:Array Ee}{ep:Nat} (hd:o.data=.dict es ep) (a it:Addr):Turn P w K tg (Tr a o kvs) [it] it (λ i h=>h.IsKeyIter it a i es.size ep) where
 mem:=by simp
 obj:=λ i h st b hb=>by
  have e:b=it:=by simpa using hb
  subst e;obtain ⟨o,e,c,d⟩:=st;exact ⟨o,e,λ v z=>by rw [d] at z;cases z⟩
 keep:=λ i h h' st k=>st.at λ o e=>k it (by simp) o e
 item:=by
  intro X hP hw hK hc i pins s σ H E I hf st hg;subst hP hw hK;obtain ⟨h1,hi⟩:=hg;obtain ⟨e0,c0,sz,at'⟩:=known I hd h1;obtain ⟨f0,f1,f2,f3,f4,f5⟩:=hf it (by simp);have hx:kvs[i]?=some kvs[i]:=Cd hi;obtain ⟨en,b,he,ek,hb,_⟩:=at' i _ hx;refine kN st ⟨o,e0,c0,hd⟩ he λ hp k2 sb=>?_;have I1:Inv X pins σ H { s with heap:=hp }:=I.turned (t':=s.toks) (λ b o hb e=>(sb.2 b hb).trans e) f0 f1 f3 f4 f5;obtain ⟨o',e,c,d⟩:=id k2;refine ⟨en.key,rfl,Jp (s:={ s with heap:=hp }) e c d (by decide) ⟨.ref b,H,I1,ek,⟨rfl,b,_,rfl,hx,hb⟩,k2,λ b hb=>(hf b hb).1⟩⟩
 done:=by
  intro X hP hw hK hc i pins s σ H E I hf st hg;subst hP hw hK;obtain ⟨h1,hi⟩:=hg;obtain ⟨e0,c0,sz,at'⟩:=known I hd h1;obtain ⟨f0,f1,f2,f3,f4,f5⟩:=hf it (by simp);exact wD (I.ok.hd hc) st ⟨o,e0,c0,hd⟩ (by omega) λ h' eb=>⟨rfl,I.turned (t':=s.toks) (λ b o hb e=>eb b o hb e) f0 f1 f3 f4 f5⟩
 self:=λ _ _ _ _ _ st h=>wpAny_pyIter_keyiter st h
def TZ {P:A9}{w:A7}{K:Frag}{tg:Expr}{o:Obj}{kvs:List (List Av×V)}{es:Array Ee}{ep:Nat} (hd:o.data=.dict es ep) (a it:Addr):Turn P w K tg (Tq a o kvs) [it] it (λ i h=>h.IsValIter it a i es.size ep) where
 mem:=by simp
 obj:=λ i h st b hb=>by
  have e:b=it:=by simpa using hb
  subst e;obtain ⟨o,e,c,d⟩:=st;exact ⟨o,e,λ v z=>by rw [d] at z;cases z⟩
 keep:=λ i h h' st k=>st.at λ o e=>k it (by simp) o e
 item:=by
  intro X hP hw hK hc i pins s σ H E I hf st hg;subst hP hw hK;obtain ⟨h1,hi⟩:=hg;obtain ⟨e0,c0,sz,at'⟩:=known I hd h1;obtain ⟨f0,f1,f2,f3,f4,f5⟩:=hf it (by simp);have hx:kvs[i]?=some kvs[i]:=Cd hi;obtain ⟨en,b,he,ek,hb,hv⟩:=at' i _ hx;refine wx st ⟨o,e0,c0,hd⟩ he λ hp k2 sb=>?_;have I1:Inv X pins σ H { s with heap:=hp }:=I.turned (t':=s.toks) (λ b o hb e=>(sb.2 b hb).trans e) f0 f1 f3 f4 f5;obtain ⟨o',e,c,d⟩:=id k2;refine ⟨en.val,rfl,Jp (s:={ s with heap:=hp }) e c d (by decide) ⟨kvs[i].2,H,I1,hv,⟨rfl,_,rfl,hx⟩,k2,λ b hb=>(hf b hb).1⟩⟩
 done:=by
  intro X hP hw hK hc i pins s σ H E I hf st hg;subst hP hw hK;obtain ⟨h1,hi⟩:=hg;obtain ⟨e0,c0,sz,at'⟩:=known I hd h1;obtain ⟨f0,f1,f2,f3,f4,f5⟩:=hf it (by simp);exact wu (I.ok.hd hc) st ⟨o,e0,c0,hd⟩ (by omega) λ h' eb=>⟨rfl,I.turned (t':=s.toks) (λ b o hb e=>eb b o hb e) f0 f1 f3 f4 f5⟩
 self:=λ _ _ _ _ _ st h=>wpAny_pyIter_valiter st h
section
variable {X:Cx}{pins:List (Addr×Obj)}{σ:St}{H:Hp}{s:Ai}{a:Addr}{kvs:List (List Av×V)}{o:Obj}
def Gn (X:Cx) (a:Addr):Prop:=∀ o u,X.H₀ a≠some (.frz o u)
def VU (I:Inv X pins σ H s) (h:H a=some (.dT kvs)):∃ o es ep,s.heap.get? a=some o/\o.ExactDict/\o.data=.dict es ep/\(a == Ex)=false/\Inv X pins σ (Ap H a (.frz o (.dT kvs))) s/\Gn X a:=by
 have hO:=(show zxo X.prog X.w H s.heap a (.dT kvs) from I.hok a _ h)
 obtain ⟨hz,nm,ys,pr,o,es,ep,e1,c1,d1,l1,nd⟩:=id hO;have na:∀ b u,H b=some u->u≠.dT kvs->b≠a:=λ b u q n z=>by subst z;rw [h] at q;cases q;exact n rfl
 have nn:∀ b,H b=none->b≠a:=λ b q z=>by subst z;rw [h] at q;cases q
 have tp:∀ b xs,H b=some (.tup xs)->Ap H a (.frz o (.dT kvs)) b=some (.tup xs):=λ b xs q=>by rw [A8 (na b _ q (λ z=>nomatch z))];exact q
 refine ⟨o,es,ep,e1,c1,d1,nm,⟨I.ok,I.os,I.bare,⟨I.base.keep,I.base.slot,λ b ob q n hx=>?_,I.base.there,λ b xs q=>tp b xs (I.base.tups b xs q),λ b ob u q=>?_,λ b ps q=>?_⟩,I.loc,I.cell,?_,λ x c q=>?_,λ p hp=>?_,λ b u q=>?_,I.len⟩,λ ob u z=>?_⟩
 ·have:=I.base.free b ob q n hx
  rw [A8 (nn b this)];exact this
 ·have:=I.base.frzs b ob u q
  rw [A8 (na b _ this (λ z=>nomatch z))];exact this
 ·obtain ⟨m,z⟩:=I.base.tbls b ps q;exact ⟨m,by rw [A8 (na b _ z (λ z=>nomatch z))];exact z⟩
 ·rw [A8 (nn _ I.free)];exact I.free
 ·rw [A8 (nn _ (I.freeC x c q))];exact I.freeC x c q
 ·obtain ⟨p1,p2,p3⟩:=I.pin p hp;exact ⟨p1,by rw [A8 (nn _ p2)];exact p2,p3⟩
 ·have stay:∀ {b:Addr}{u:HO},zxo X.prog X.w H s.heap b u->zxo X.prog X.w (Ap H a (.frz o (.dT kvs))) s.heap b u:=λ x=>x.stay (λ _ _ _ e=>e) (λ c q=>by rw [A8 (na c _ q (λ z=>nomatch z))];exact q) tp;by_cases hb:b=a
  ·subst hb;rw [AV] at q;cases q;exact ⟨e1,stay hO⟩
  ·rw [A8 hb] at q;exact stay (I.hok b u q)
 ·have:=I.base.frzs a ob u z
  rw [h] at this;cases this
def LH (I:Inv X pins σ H s) (h:H a=some (.frz o (.dT kvs))) (hX:Gn X a):Inv X pins σ (Ap H a (.dT kvs)) s:=by
 have hO:=(show zxo X.prog X.w H s.heap a (.frz o (.dT kvs)) from I.hok a _ h)
 have na:∀ b u,H b=some u->u≠.frz o (.dT kvs)->b≠a:=λ b u q n z=>by subst z;rw [h] at q;cases q;exact n rfl
 have nn:∀ b,H b=none->b≠a:=λ b q z=>by subst z;rw [h] at q;cases q
 have tp:∀ b xs,H b=some (.tup xs)->Ap H a (.dT kvs) b=some (.tup xs):=λ b xs q=>by rw [A8 (na b _ q (λ z=>nomatch z))];exact q
 refine ⟨I.ok,I.os,I.bare,⟨I.base.keep,I.base.slot,λ b ob q n hx=>?_,I.base.there,λ b xs q=>tp b xs (I.base.tups b xs q),λ b ob u q=>?_,λ b ps q=>?_⟩,I.loc,I.cell,?_,λ x c q=>?_,λ p hp=>?_,λ b u q=>?_,I.len⟩
 ·have:=I.base.free b ob q n hx
  rw [A8 (nn b this)];exact this
 ·have:=I.base.frzs b ob u q
  rw [A8 (λ z=>hX ob u (by rw [<- z];exact q))];exact this
 ·obtain ⟨m,z⟩:=I.base.tbls b ps q;exact ⟨m,by rw [A8 (na b _ z (λ z=>nomatch z))];exact z⟩
 ·rw [A8 (nn _ I.free)];exact I.free
 ·rw [A8 (nn _ (I.freeC x c q))];exact I.freeC x c q
 ·obtain ⟨p1,p2,p3⟩:=I.pin p hp;exact ⟨p1,by rw [A8 (nn _ p2)];exact p2,p3⟩
 ·have stay:∀ {b:Addr}{u:HO},zxo X.prog X.w H s.heap b u->zxo X.prog X.w (Ap H a (.dT kvs)) s.heap b u:=λ x=>x.stay (λ _ _ _ e=>e) (λ c q=>by rw [A8 (na c _ q (λ z=>nomatch z))];exact q) tp;by_cases hb:b=a
  ·subst hb;rw [AV] at q;cases q;exact stay hO.2
  ·rw [A8 hb] at q;exact stay (I.hok b u q)
def EH (X:Cx) (D:Ends):Ends where
 nx:=λ σ H=>D.nx σ H\/∃ a o kvs,H a=some (.frz o (.dT kvs))/\Gn X a/\D.nx σ (Ap H a (.dT kvs))
 rt:=λ v H=>D.rt v H\/∃ a o kvs,H a=some (.frz o (.dT kvs))/\Gn X a/\D.rt v (Ap H a (.dT kvs))
 bk:=λ σ H=>D.bk σ H\/∃ a o kvs,H a=some (.frz o (.dT kvs))/\Gn X a/\D.bk σ (Ap H a (.dT kvs))
 ct:=λ σ H=>D.ct σ H\/∃ a o kvs,H a=some (.frz o (.dT kvs))/\Gn X a/\D.ct σ (Ap H a (.dT kvs))
theorem W5 {st:Stmt}{t:TS} (h:PS X st t):PS X st (λ D σ H=>t (EH X D) σ H):=by
 intro pins s σ H D I q;refine A1 (h pins s σ H (EH X D) I q) λ f s' z=>?_;cases f with
 | next=>
  obtain ⟨σ',H',I',q | ⟨a,o,kvs,ha,hX,q⟩⟩:=z
  ·exact ⟨σ',H',I',q⟩
  ·exact ⟨σ',_,LH I' ha hX,q⟩
 | brk=>
  obtain ⟨σ',H',I',q | ⟨a,o,kvs,ha,hX,q⟩⟩:=z
  ·exact ⟨σ',H',I',q⟩
  ·exact ⟨σ',_,LH I' ha hX,q⟩
 | cont=>
  obtain ⟨σ',H',I',q | ⟨a,o,kvs,ha,hX,q⟩⟩:=z
  ·exact ⟨σ',H',I',q⟩
  ·exact ⟨σ',_,LH I' ha hX,q⟩
 | ret u=>
  obtain ⟨v,σ',H',I',r,q | ⟨a,o,kvs,ha,hX,q⟩⟩:=z
  ·exact ⟨v,σ',H',I',r,q⟩
  ·exact ⟨v,σ',_,LH I' ha hX,r,q⟩
def qf {st:Stmt}{t u:TS} (h:PS X st t) (h':PS X st u):PS X st (λ D σ H=>t D σ H\/u D σ H):=λ pins s σ H D I q=>q.elim (h pins s σ H D I) (h' pins s σ H D I)
def QO (X:Cx) (tl:TE):TI:=λ σ H R=>tl σ H λ x H1=>∃ a kvs,x=.ref a/\((H1 a=some (.dT kvs)/\∀ o,Gn X a->R (Tr a o kvs) (Ap H1 a (.frz o (.dT kvs))))\/∃ o,H1 a=some (.frz o (.dT kvs))/\R (Tr a o kvs) H1)
def Wl {tg l:Expr}{tl:TE} (hl:PE X l tl):PI X tg l (QO X tl):=by
 intro pins s σ H R I h;refine A1 (hl pins s σ H _ I h) λ v s1 ⟨x,H1,I1,r1,q1⟩=>?_;obtain ⟨a,kvs,rfl,⟨ha,q⟩ | ⟨o,ha,q⟩⟩:=q1
 ·cases r1;obtain ⟨o,es,ep,e0,c0,d0,nm,I2,hX⟩:=VU I1 ha;refine X1 nm ⟨o,e0,c0,d0⟩ ?_;refine ⟨s1.heap.objs.size,[s1.heap.objs.size],_,_,_,rfl,I2.kept (t':=s1.toks) λ b o e=>Ci _ e,TY d0 a _,⟨_,C0 _ rfl,rfl,rfl⟩,λ b hb=>?_,q o hX⟩;have e:b=s1.heap.objs.size:=by simpa using hb
  subst e;exact I2.fpOk (A5 _) (I2.hok.fresh (A5 _))
 ·cases r1;obtain ⟨e0,hz,nm,ys,pr,o',es,ep,e1,c1,d1,l1,nd⟩:=(show zxo X.prog X.w H1 s1.heap a (.frz o (.dT kvs)) from I1.hok a _ ha)
  cases e0.symm.trans e1;refine X1 nm ⟨o,e0,c1,d1⟩ ?_;refine ⟨s1.heap.objs.size,[s1.heap.objs.size],_,_,_,rfl,I1.kept (t':=s1.toks) λ b o e=>Ci _ e,TY d1 a _,⟨_,C0 _ rfl,rfl,rfl⟩,λ b hb=>?_,q⟩;have e:b=s1.heap.objs.size:=by simpa using hb
  subst e;exact I1.fpOk (A5 _) (I1.hok.fresh (A5 _))
def wJ {pg:A9}{wd:A7} (d:Addr) (hd:(d == Ex)=false):
  MeetsIn pg wd (vj9.«dict.values» ⟨[.ref d],[]⟩) (λ _ R s=>s.TypeIs (.ref d) "dict" /\
   R (.ok (.ret (.ref s.heap.objs.size))) { s with heap:=s.heap.push { cls:=.type "dict_values",data:=.fields #[.ref d] } }):=
 .of_wp λ A R s ⟨hm,h⟩=>by
  refine Ak ?_;delta Builtin.Dict.noArgs;refine Ak (Qt hm ?_);show An _ _ (pure d) _ _ s;refine Az ?_;show An _ _ (Ln d >>= _) _ _ s;delta Ln;rw [if_neg (by rw [hd];exact Ck)];refine Ak (Az ?_);exact Ak (Fg (Az ⟨_,rfl,h⟩))
def UZ (to:TE):TE:=λ σ H Q=>to σ H λ x H1=>∃ a kvs,x=.ref a/\Rd H1 a (.dT kvs)/\∀ v,H1 v=none->Q (.ref v) (Ap H1 v (.ext λ h=>h.IsValuesView v a))
def zX {o:Expr}{to:TE}{apos cpos:Pos} (ho:PE X o to) (hbase:attributeBase o "values" X.env (eval o X.env)=eval o X.env:=by rfl) (hline:(apos.endLine == cpos.line)=true:=by rfl):PE X (.Call (.Attribute o "values" apos) [] [] cpos) (UZ to):=by
 intro pins s σ H Q I h;refine wpAny_Call_method0_late hbase hline (A1 (ho pins s σ H _ I h) λ v s1 ⟨x,H1,I1,r1,a,kvs,ex,rd,q⟩=>?_);subst ex;cases r1;obtain ⟨hz,nm,ys,pr,ob,es,ep,e1,c1,d1,l1,nd⟩:=(show zxo X.prog X.w H1 s1.heap a (.dT kvs) from Rd.ok rd I1.hok)
 have ty:s1.TypeIs (.ref a) "dict" := ⟨ob,e1,c1.1⟩
 refine ⟨"dict","dict.values",PySem.F.plainAttrs_dict,PySem.F.slot_dict_values,PySem.F.type_dict_values,ty,λ b e=>by cases e;exact ⟨ob,e1,c1.2.1⟩,Calls.callWith_builtin rfl (PySem.evalArgs_none ?_)⟩;refine call_meetsIn PySem.F.slot_dict_values ty PySem.F.entry_dict_values (PySem.F.args_dict_values_1 _) (wJ a nm) ⟨ty,?_⟩;refine ⟨.ref s1.heap.objs.size,_,I1.laid (t':=s1.toks) (λ b o e=>Ci _ e) (A5 _) ?_,rfl,q _ (I1.hok.fresh (A5 _))⟩;exact ⟨⟨_,C0 _ rfl,rfl,rfl⟩,⟨_,C0 _ rfl⟩,λ h1 h2 x k=>by obtain ⟨o,e,r⟩:=x;exact ⟨o,k o e,r⟩⟩
def UA (X:Cx) (tl:TE):TI:=λ σ H R=>tl σ H λ x H1=>∃ v a kvs,x=.ref v/\H1 v=some (.ext λ h=>h.IsValuesView v a)/\((H1 a=some (.dT kvs)/\∀ o,Gn X a->R (Tq a o kvs) (Ap H1 a (.frz o (.dT kvs))))\/∃ o,H1 a=some (.frz o (.dT kvs))/\R (Tq a o kvs) H1)
def ja {tg l:Expr}{tl:TE} (hl:PE X l tl):PI X tg l (UA X tl):=by
 intro pins s σ H R I h;refine A1 (hl pins s σ H _ I h) λ v s1 ⟨x,H1,I1,r1,q1⟩=>?_;obtain ⟨vv,a,kvs,rfl,hv,q1⟩:=q1;cases r1;have view:s1.heap.IsValuesView vv a:=(show zxo X.prog X.w H1 s1.heap vv (.ext λ h=>h.IsValuesView vv a) from I1.hok vv _ hv).1;rcases q1 with ⟨ha,q⟩ | ⟨o,ha,q⟩
 ·obtain ⟨o,es,ep,e0,c0,d0,nm,I2,hX⟩:=VU I1 ha;refine Yb view ⟨o,e0,c0,d0⟩ ?_;refine ⟨s1.heap.objs.size,[s1.heap.objs.size],_,_,_,rfl,I2.kept (t':=s1.toks) λ b o e=>Ci _ e,TZ d0 a _,⟨_,C0 _ rfl,rfl,rfl⟩,λ b hb=>?_,q o hX⟩;have e:b=s1.heap.objs.size:=by simpa using hb
  subst e;exact I2.fpOk (A5 _) (I2.hok.fresh (A5 _))
 ·obtain ⟨e0,hz,nm,ys,pr,o',es,ep,e1,c1,d1,l1,nd⟩:=(show zxo X.prog X.w H1 s1.heap a (.frz o (.dT kvs)) from I1.hok a _ ha)
  cases e0.symm.trans e1;refine Yb view ⟨o,e0,c1,d1⟩ ?_;refine ⟨s1.heap.objs.size,[s1.heap.objs.size],_,_,_,rfl,I1.kept (t':=s1.toks) λ b o e=>Ci _ e,TZ d1 a _,⟨_,C0 _ rfl,rfl,rfl⟩,λ b hb=>?_,q⟩;have e:b=s1.heap.objs.size:=by simpa using hb
  subst e;exact I1.fpOk (A5 _) (I1.hok.fresh (A5 _))
end
section
variable {K:Frag}{H H':Hp}{Z:Addr->Prop}{a:Addr}{kvs:List (List Av×V)}
def qS {kvs':List (List Av×V)} (h:Rd H a (.dT kvs)) (h':Rd H a (.dT kvs')):kvs'=kvs:=by
 rcases h with h | ⟨o,h⟩ <;> rcases h' with h' | ⟨o',h'⟩ <;> rw [h] at h' <;> cases h' <;> rfl
def qi {u:HO} (h:Rd H a (.dT kvs)) (h':H a=some u) (n:u≠.dT kvs) (n2:∀ o,u≠.frz o (.dT kvs)):False:=by
 rcases h with h | ⟨o,h⟩
 ·rw [h] at h';cases h';exact n rfl
 ·rw [h] at h';cases h';exact n2 o rfl
variable (k:∀ b u,H b=some u->b≠a->H' b=some u) (ha:Rd H a (.dT kvs)) (ha':Rd H' a (.dT kvs))
include k ha ha'
def UO {b:Addr}{kvs':List (List Av×V)} (h:Rd H b (.dT kvs')):Rd H' b (.dT kvs'):=by
 by_cases e:b=a
 ·subst e;rw [qS ha h];exact ha'
 ·rcases h with h | ⟨o,h⟩
  ·exact .inl (k b _ h e)
  ·exact .inr ⟨o,k b _ h e⟩
def Jo {b:Addr}{u:HO} (h:H b=some u) (n:u≠.dT kvs) (n2:∀ o,u≠.frz o (.dT kvs)):H' b=some u:=k b u h λ e=>by subst e;exact qi ha h n n2
mutual
theorem Own.rdAt:∀ (x:PV) (d:Nat) (v:V) (fp:List Addr),a∉fp->Own K H Z x d v fp->Own K H' Z x d v fp
 | .non,_,_,_,_,h=>by rw [Own] at h ⊢;exact h
 | .bl _,_,_,_,_,h=>by rw [Own] at h ⊢;exact h
 | .int _,_,_,_,_,h=>by rw [Own] at h ⊢;exact h
 | .str _,_,_,_,_,h=>by rw [Own] at h ⊢;exact h
 | .emp,_,_,_,_,h=>by
  rw [Own] at h ⊢;obtain ⟨e,b,ev,hb⟩:=h;exact ⟨e,b,ev,Jo k ha ha' hb (λ z=>nomatch z) λ _ z=>nomatch z⟩
 | .dko,_,_,_,_,h=>by
  rw [Own] at h ⊢;obtain ⟨e,b,ev,kk,hb⟩:=h;exact ⟨e,b,ev,kk,Jo k ha ha' hb (λ z=>nomatch z) λ _ z=>nomatch z⟩
 | .scr _,_,_,_,_,h=>by
  rw [Own] at h ⊢;obtain ⟨e,b,ev,⟨o,hb⟩ | hb⟩:=h
  ·exact ⟨e,b,ev,.inl ⟨o,Jo k ha ha' hb (λ z=>nomatch z) λ _ z=>nomatch z⟩⟩
  ·exact ⟨e,b,ev,.inr hb⟩
 | .exn _,_,_,_,_,h=>by
  rw [Own] at h ⊢;obtain ⟨e,b,C,ev,hc,hb⟩:=h;exact ⟨e,b,C,ev,hc,Jo k ha ha' hb (λ z=>nomatch z) λ _ z=>nomatch z⟩
 | .dct kk,d,v,fp,hf,h=>by
  rw [Own] at h ⊢;obtain ⟨b,ev,⟨d0,hr,e⟩ | ⟨d0,hb,e⟩⟩:=h
  ·exact ⟨b,ev,.inl ⟨d0,⟨UO k ha ha' hr.1,hr.2⟩,e⟩⟩
  ·exact ⟨b,ev,.inr ⟨d0,k b _ hb λ z=>hf (by rw [e,<- z];exact AF),e⟩⟩
 | .dcl ks xs,d,v,fp,hf,h=>by
  rw [Own] at h ⊢;obtain ⟨b,vs,ev,en,⟨d0,hr,e,hl⟩ | ⟨d0,f,hb,e,nb,hl⟩⟩:=h
  ·exact ⟨b,vs,ev,en,.inl ⟨d0,⟨UO k ha ha' hr.1,hr.2⟩,e,OwnL.rdAt xs 0 vs [] (λ z=>nomatch z) hl⟩⟩
  ·exact ⟨b,vs,ev,en,.inr ⟨d0,f,k b _ hb (λ z=>hf (by rw [e,<- z];exact AF)),e,nb,OwnL.rdAt xs _ vs f (λ z=>hf (by rw [e];exact AH _ z)) hl⟩⟩
 | .lst xs,d,v,fp,hf,h=>by
  rw [Own] at h ⊢;obtain ⟨b,vs,ev,⟨d0,hr,e,hl⟩ | ⟨d0,f,hb,e,nb,hl⟩⟩:=h
  ·exact ⟨b,vs,ev,.inl ⟨d0,⟨Jo k ha ha' hr.1 (λ z=>nomatch z) (λ _ z=>nomatch z),hr.2⟩,e,OwnL.rdAt xs 0 vs [] (λ z=>nomatch z) hl⟩⟩
  ·exact ⟨b,vs,ev,.inr ⟨d0,f,Jo k ha ha' hb (λ z=>nomatch z) (λ _ z=>nomatch z),e,nb,OwnL.rdAt xs _ vs f (λ z=>hf (by rw [e];exact AH _ z)) hl⟩⟩
 | .tup xs,d,v,fp,hf,h=>by
  rw [Own] at h ⊢;obtain ⟨b,vs,ev,hr,hl⟩:=h;exact ⟨b,vs,ev,Jo k ha ha' hr (λ z=>nomatch z) (λ _ z=>nomatch z),OwnL.rdAt xs _ vs fp hf hl⟩
theorem OwnL.rdAt:∀ (xs:List PV) (d:Nat) (vs:List V) (fp:List Addr),a∉fp->OwnL K H Z xs d vs fp->OwnL K H' Z xs d vs fp
 | [],_,_,_,_,h=>by rw [OwnL] at h ⊢;exact h
 | x::xs,d,vs,fp,hf,h=>by
  rw [OwnL] at h ⊢;obtain ⟨v,r,f1,f2,e1,e,dj,h1,h2⟩:=h;exact ⟨v,r,f1,f2,e1,e,dj,Own.rdAt x d v f1 (λ z=>hf (by rw [e];exact BP _ z)) h1,OwnL.rdAt xs d r f2 (λ z=>hf (by rw [e];exact BJ _ z)) h2⟩
end
end
section
variable {M:Fm}{ρ:Ae}{σ:St}{H H':Hp}{fps:AN}{a:Addr}{kvs:List (List Av×V)}
def Rep.rdAt (k:∀ b u,H b=some u->b≠a->H' b=some u) (ha:Rd H a (.dT kvs)) (ha':Rd H' a (.dT kvs)) (hn:∀ i,a∉fps i) (r:Rep M ρ σ H fps):Rep M ρ σ H' fps where
 own:=λ i x d e=>let ⟨v,h1,h2⟩:=r.own i x d e;⟨v,h1,Own.rdAt k ha ha' x d v _ (hn i) h2⟩
 non:=r.non
 dj:=r.dj
 zo:=r.zo
 fr:=r.fr
 zd:=λ b z=>by
  by_cases e:b=a
  ·rw [e];exact Rd.ne ha'
  ·cases e2:H b with
   | none=>exact absurd e2 (r.zd b z)
   | some u=>rw [k b u e2 e];simp
 len:=r.len
 msf:=r.msf
 h0:=λ b z=>by
  by_cases e:b=a
  ·rw [e];exact Rd.ne ha'
  ·cases e2:H b with
   | none=>exact absurd e2 (r.h0 b z)
   | some u=>rw [k b u e2 e];simp
 iov:=r.iov
def O4:Rs->Bool
 | .exc _=>false
 | _=>true
theorem RsOk.known {X:Cx}{D:Ends}{o:Obj}{r:Rs} (h:H a=some (.dT kvs)) (hn:∀ i,a∉fps i) (hX:Gn X a) (ne:O4 r=true) (q:RsOk M D H fps r):RsOk M (EH X D) (Ap H a (.frz o (.dT kvs))) fps r:=by
 have back:∀ {H':Hp}{fps':AN},KS M (Ap H a (.frz o (.dT kvs))) fps H' fps'->H' a=some (.frz o (.dT kvs))/\KS M H fps (Ap H' a (.dT kvs)) fps'/\∀ i,a∉fps' i:=λ {H' fps'} ks=>by
  have h1:H' a=some (.frz o (.dT kvs)):=ks.keep a _ AV λ ⟨i,z⟩=>hn i z;refine ⟨h1,⟨λ b u hb n=>?_,λ b hb=>?_,λ i b hb=>?_⟩,λ i z=>?_⟩
  ·by_cases e:b=a
   ·rw [e] at hb ⊢;rw [AV,<- hb,h]
   ·rw [A8 e];exact ks.keep b u (by rw [A8 e];exact hb) n
  ·by_cases e:b=a
   ·rw [e,AV];simp
   ·rw [A8 e];exact ks.dom b (by rw [A8 e];exact hb)
  ·rcases ks.sub i b hb with z | z
   ·exact .inl z
   ·by_cases e:b=a
    ·rw [e,AV] at z;cases z
    ·rw [A8 e] at z;exact .inr z
  ·rcases ks.sub i a z with ⟨j,z⟩ | z
   ·exact hn j z
   ·rw [AV] at z;cases z
 have un:∀ {H':Hp},H' a=some (.frz o (.dT kvs))->∀ b u,H' b=some u->b≠a->Ap H' a (.dT kvs) b=some u:=λ _ b u hb e=>by rw [A8 e];exact hb
 cases r with
 | no=>exact q
 | exc c=>cases ne
 | nx ρ'=>exact λ σ' H' fps' ks rep=>let ⟨h1,k2,n2⟩:=back ks;.inr ⟨a,o,kvs,h1,hX,q σ' _ fps' k2 (rep.rdAt (un h1) (.inr ⟨o,h1⟩) (.inl AV) n2)⟩
 | bk ρ'=>exact λ σ' H' fps' ks rep=>let ⟨h1,k2,n2⟩:=back ks;.inr ⟨a,o,kvs,h1,hX,q σ' _ fps' k2 (rep.rdAt (un h1) (.inr ⟨o,h1⟩) (.inl AV) n2)⟩
 | ct ρ'=>exact λ σ' H' fps' ks rep=>let ⟨h1,k2,n2⟩:=back ks;.inr ⟨a,o,kvs,h1,hX,q σ' _ fps' k2 (rep.rdAt (un h1) (.inr ⟨o,h1⟩) (.inl AV) n2)⟩
 | rt x d ρ'=>
  intro v σ' H' fps' fp ks rep own hfp;obtain ⟨h1,k2,n2⟩:=back ks;have nfp:a∉fp:=λ z=>by
   obtain ⟨m,hm⟩:=Own.lsts x d v fp own a z;rw [h1] at hm;cases m <;> cases hm
  exact .inr ⟨a,o,kvs,h1,hX,q v σ' _ fps' fp k2 (rep.rdAt (un h1) (.inr ⟨o,h1⟩) (.inl AV) n2) (Own.rdAt (un h1) (.inr ⟨o,h1⟩) (.inl AV) x d v fp nfp own) hfp⟩
theorem RsOk.thaw0 {X:Cx}{D:Ends}{r:Rs} (q:RsOk M D H fps r):RsOk M (EH X D) H fps r:=by
 cases r with
 | no=>exact q
 | exc c=>exact q
 | nx ρ'=>exact λ σ' H' fps' ks rep=>.inl (q σ' H' fps' ks rep)
 | bk ρ'=>exact λ σ' H' fps' ks rep=>.inl (q σ' H' fps' ks rep)
 | ct ρ'=>exact λ σ' H' fps' ks rep=>.inl (q σ' H' fps' ks rep)
 | rt x d ρ'=>exact λ v σ' H' fps' fp ks rep own hfp=>.inl (q v σ' H' fps' fp ks rep own hfp)
end
def EJ (r:Rs):Rs:=if O4 r=true then r else .no
def Ij (f:Fx) (vs:List Nat) (asg:PV->Ae->Option Ae) (body:Fs):Fs:=λ ρ=>match f ρ with
 | .ok (.dcl ks _,d,ρ1)=>EJ (BS asg body (ks.map Bg) (AZ d vs ρ1))
 | _=>EC f vs asg body ρ
section
variable {X:Cx}{M:Fm}{ρ ρ':Ae}{σ σ':St}{H H':Hp}{fps fps':AN}{vs is:List Nat}
def Wu {D:Ends}{r:Rs} (q:RsOk M D H fps (EJ r)):O4 r=true/\RsOk M D H fps r:=by
 unfold EJ at q;by_cases h:O4 r=true
 ·rw [if_pos h] at q;exact ⟨h,q⟩
 ·rw [if_neg h] at q;exact q.elim
def MN {K:Frag}{Z:Addr->Prop}{b:Addr}{k:List Av} (h:H b=some (.tup (k.map kV))):Own K H Z (Bg k) 0 (.ref b) []:=by
 unfold Bg;rw [Own];exact ⟨b,_,rfl,h,by rw [RM];exact Xe _⟩
def JT {ks:List (List Av)}{ws:List V}{i:Nat}{p:List Av×V} (h:(ks.zip ws)[i]?=some p):ks[i]?=some p.1/\ws[i]?=some p.2:=by
 rw [YS] at h;exact h
def jA {g:TG}{asg:PV->Ae->Option Ae}{body:Fs}{f:Fx}{D:Ends} (hal:∀ i,M.al i=[]) (hv:∀ i∈vs,M.Ms i=false) (hg:CN M [] is g asg) (hq:tS M (Ij f vs asg body) D σ H):
  Dr (Em M.K (tE M f vs)) g (tS M body) D σ H\/Dr (QO X (tE M f vs)) g (tS M body) (EH X D) σ H:=by
 obtain ⟨ρ,fps,rep,q⟩:=id hq;unfold Ij at q;split at q
 ·rename_i ks xs d ρ1 ef
  right
  refine ⟨ρ,fps,rep,?_⟩;rw [ef];intro v H1 fps1 f1 k1 g1 rep1 o1 t1;obtain ⟨fps2,k2,r2,o2⟩:=Rep.seen rep k1 g1 rep1 o1 t1 hal hv;obtain ⟨ne,q⟩:=Wu q;have q2:=RsOk.from k2 q;obtain ⟨a,ws,rfl,en,hr,nz,ol⟩:=o2.dcl0;have hn:∀ i,a∉fps2 i:=λ i z=>nz (.inr ⟨i,z⟩);have lz:(ks.zip ws).length=(ks.map Bg).length:=by rw [Jy,AG];have:=ol.length;omega
  refine ⟨a,ks.zip ws,rfl,?_⟩;rcases hr with hr | ⟨o,hr⟩
  ·refine .inl ⟨hr,λ o hX=>?_⟩;have up:∀ b u,H1 b=some u->b≠a->Ap H1 a (.frz o (.dT (ks.zip ws))) b=some u:=λ b u hb e=>by rw [A8 e];exact hb
   refine Gk (Pq:=λ H fps=>H a=some (.frz o (.dT (ks.zip ws)))/\∀ i,a∉fps i) (els:=ks.map Bg) hg (λ _ ks p=>?_) (λ {H fps i} p h=>⟨p.1,by rw [lz];exact h⟩) (λ {H fps i} p h=>⟨p.1,by rw [lz];exact h⟩) (λ {ρ σ H fps i x H'} _ p h y=>?_) (r2.rdAt up (.inl hr) (.inr ⟨o,AV⟩) hn) ⟨AV,hn⟩ (RsOk.known hr hn hX ne q2)
   ·have e:=ks.keep a _ p.1 λ ⟨i,z⟩=>p.2 i z;refine ⟨e,λ i z=>?_⟩;rcases ks.sub i a z with ⟨j,z⟩ | z
    ·exact p.2 j z
    ·rw [p.1] at z;cases z
   ·obtain ⟨rfl,b,p',rfl,hp,hb⟩:=y;refine ⟨λ _ _ h=>h,Bg p'.1,?_,MN hb⟩;rw [BW,(JT hp).1];rfl
  ·refine .inr ⟨o,hr,?_⟩;refine Gk (Pq:=λ H fps=>H a=some (.frz o (.dT (ks.zip ws)))/\∀ i,a∉fps i) (els:=ks.map Bg) hg (λ _ ks p=>?_) (λ {H fps i} p h=>⟨p.1,by rw [lz];exact h⟩) (λ {H fps i} p h=>⟨p.1,by rw [lz];exact h⟩) (λ {ρ σ H fps i x H'} _ p h y=>?_) r2 ⟨hr,hn⟩ q2.thaw0
   ·have e:=ks.keep a _ p.1 λ ⟨i,z⟩=>p.2 i z;refine ⟨e,λ i z=>?_⟩;rcases ks.sub i a z with ⟨j,z⟩ | z
    ·exact p.2 j z
    ·rw [p.1] at z;cases z
   ·obtain ⟨rfl,b,p',rfl,hp,hb⟩:=y;refine ⟨λ _ _ h=>h,Bg p'.1,?_,MN hb⟩;rw [BW,(JT hp).1];rfl
 ·left
  exact RS hal hv hg ⟨ρ,fps,rep,q⟩
def Kk (f:Fx) (vs:List Nat) (asg:PV->Ae->Option Ae) (body:Fs):Fs:=λ ρ=>match f ρ with
 | .ok (.dcl _ xs,d,ρ1)=>EJ (BS asg body xs (AZ d vs ρ1))
 | _=>.no
def jB {g:TG}{asg:PV->Ae->Option Ae}{body:Fs}{f:Fx}{D:Ends} (hal:∀ i,M.al i=[]) (hv:∀ i∈vs,M.Ms i=false) (hg:CN M [] is g asg) (hq:tS M (Kk f vs asg body) D σ H):
  Dr (UA X (UZ (tE M f vs))) g (tS M body) (EH X D) σ H:=by
 obtain ⟨ρ,fps,rep,q⟩:=id hq;unfold Kk at q;split at q
 ·rename_i ks xs d ρ1 ef;refine ⟨ρ,fps,rep,?_⟩;rw [ef];intro v H1 fps1 f1 k1 g1 rep1 o1 t1;obtain ⟨fps2,k2,r2,o2⟩:=Rep.seen rep k1 g1 rep1 o1 t1 hal hv;obtain ⟨ne,q⟩:=Wu q;obtain ⟨a,ws,rfl,en,hr,nz,ol⟩:=o2.dcl0;refine ⟨a,ks.zip ws,rfl,hr,λ vw hvw=>?_⟩;have gr:=D9 (o:=.ext λ h=>h.IsValuesView vw a) hvw;have kv:KS M H1 fps2 (Ap H1 vw (.ext λ h=>h.IsValuesView vw a)) fps2:=(KD.grow gr).ks;have q2:=RsOk.from (k2.trans kv) q;have r3:=r2.grow gr;have o3:=kv.stay0 r2 o2;obtain ⟨a',ws',ea,en',hr',nz',ol'⟩:=o3.dcl0;cases ea;have hn:∀ i,a∉fps2 i:=λ i z=>nz (.inr ⟨i,z⟩);have lz:(ks.zip ws').length=xs.length:=by rw [Jy];have:=ol'.length;omega
  have va:vw≠a:=λ z=>by rw [z] at hvw;exact Rd.ne hr hvw
  refine ⟨vw,a,ks.zip ws',rfl,AV,?_⟩;rcases hr' with hr' | ⟨o,hr'⟩
  ·refine .inl ⟨hr',λ o hX=>?_⟩;let H2:=Ap H1 vw (.ext λ h=>h.IsValuesView vw a);have up:∀ b u,H2 b=some u->b≠a->Ap H2 a (.frz o (.dT (ks.zip ws'))) b=some u:=λ b u hb e=>by rw [A8 e];exact hb
   refine Gk (Pq:=λ H fps=>H a=some (.frz o (.dT (ks.zip ws')))/\(∀ i,a∉fps i)/\OwnL M.K H (Zf M fps) xs 0 ws' []) (els:=xs) hg (λ {ρ σ H fps H' fps'} r ks p=>?_) (λ {H fps i} p h=>⟨p.1,by rw [lz];exact h⟩) (λ {H fps i} p h=>⟨p.1,by rw [lz];exact h⟩) (λ {ρ σ H fps i x H'} _ p h y=>?_) (r3.rdAt up (.inl hr') (.inr ⟨o,AV⟩) hn) ⟨AV,hn,OwnL.rdAt up (.inl hr') (.inr ⟨o,AV⟩) xs 0 ws' [] HA ol'⟩ (RsOk.known hr' hn hX ne q2)
   ·have e:=ks.keep a _ p.1 λ ⟨i,z⟩=>p.2.1 i z;refine ⟨e,λ i z=>?_,?_⟩
    ·rcases ks.sub i a z with ⟨j,z⟩ | z
     ·exact p.2.1 j z
     ·rw [p.1] at z;cases z
    ·exact OwnL.move ks.keep (λ b ⟨i,hb⟩=>⟨.inr ⟨i,hb⟩,r.lsts hb⟩) (λ b hb nzb z=>by
      rcases z with z | ⟨i,z⟩
      ·exact nzb (.inl z)
      ·rcases ks.sub i b z with z | z
       ·exact nzb (.inr z)
       ·exact hb z) xs 0 ws' [] (λ _ z=>nomatch z) p.2.2
   ·obtain ⟨rfl,p',rfl,hp⟩:=y;exact ⟨λ _ _ h=>h,p.2.2.get (JT hp).2⟩
  ·refine .inr ⟨o,hr',?_⟩;refine Gk (Pq:=λ H fps=>H a=some (.frz o (.dT (ks.zip ws')))/\(∀ i,a∉fps i)/\OwnL M.K H (Zf M fps) xs 0 ws' []) (els:=xs) hg (λ {ρ σ H fps H' fps'} r ks p=>?_) (λ {H fps i} p h=>⟨p.1,by rw [lz];exact h⟩) (λ {H fps i} p h=>⟨p.1,by rw [lz];exact h⟩) (λ {ρ σ H fps i x H'} _ p h y=>?_) r3 ⟨hr',hn,ol'⟩ q2.thaw0
   ·have e:=ks.keep a _ p.1 λ ⟨i,z⟩=>p.2.1 i z;refine ⟨e,λ i z=>?_,?_⟩
    ·rcases ks.sub i a z with ⟨j,z⟩ | z
     ·exact p.2.1 j z
     ·rw [p.1] at z;cases z
    ·exact OwnL.move ks.keep (λ b ⟨i,hb⟩=>⟨.inr ⟨i,hb⟩,r.lsts hb⟩) (λ b hb nzb z=>by
      rcases z with z | ⟨i,z⟩
      ·exact nzb (.inl z)
      ·rcases ks.sub i b z with z | z
       ·exact nzb (.inr z)
       ·exact hb z) xs 0 ws' [] (λ _ z=>nomatch z) p.2.2
   ·obtain ⟨rfl,p',rfl,hp⟩:=y;exact ⟨λ _ _ h=>h,p.2.2.get (JT hp).2⟩
 ·exact q.elim
end
section
variable {pg:A9}{wd:A7}{Ar:Bs}{Er:Ad->Ai->Prop}{st:Ai}{d:Addr}{es:Array Ee}{ep:Nat}
def yf {b:Addr}{Qv:Bool->Ai->Prop} (hT:st.TypeIs (.ref b) "tuple") (q:Qv false st):An (Aw pg wd) Ar (Builtin.Dict.quietEq (.ref b)) Qv Er st:=by
 delta Builtin.Dict.quietEq;refine Ak (N0 hT F.slot_tuple_eq.lookup ?_);exact Az q
def kd {nm:String}{Qv:Array Ee->Ai->Prop} (x:RawD st.heap d es ep) (ht:∀ e∈es.toList,∃ b,e.key=.ref b/\st.TypeIs (.ref b) "tuple") (hh:∀ e∈es.toList,¬ (es.filter (·.hash == e.hash)).size > 1) (q:Qv es st):
  An (Aw pg wd) Ar (Us nm d) Qv Er st:=by
 obtain ⟨o,e1,c1,e2⟩:=id x;delta Us;refine Ak (Ht e1 e2 ?_);refine Ak ?_;rw [<- Array.forIn_toList];refine wpAny_forIn_list _ (λ rest _ s'=>s'=st/\∀ e∈rest,e∈es.toList) _ ?_ ?_ _ _ ⟨rfl,λ _ h=>h⟩
 ·rintro e rest b s' ⟨rfl,hr⟩;have he:=hr e AF;obtain ⟨b',ek,hT⟩:=ht e he;rw [ek];refine Ak (yf hT ?_);rw [if_pos (by decide),if_neg (hh e he)];exact Az ⟨rfl,λ z hz=>hr z (AH _ hz)⟩
 ·rintro b s' ⟨rfl,_⟩;exact Az q
end
def YU:Av->Bool
 | .inl _=>true
 | .inr _=>false
def U8:Av->Int
 | .inl i=>hashInt i
 | .inr _=>0
def Gx (k:List Av):Int:=reduceHash (Qz (k.map U8))
def DQ (ks:List (List Av)):Bool:=(ks.all λ k=>k.all YU) && (ks.all λ k=>decide ((ks.filter λ k'=>Gx k' == Gx k).length<=1))
theorem z5 {P:A9}{w:A7}{k:List Av} (h:k.all YU=true):(FH (Dc P w)).hash k=Gx k:=by
 show reduceHash (Qz (k.map (Dc P w).hash))=reduceHash (Qz (k.map U8));congr 2;apply J1;intro x hx
 have:=jb5.mp h x hx
 cases x with
 | inl i=>rfl
 | inr x=>cases this
def Zs {pg:A9}{wd:A7}{Ar:Bs}{Er:Ad->Ai->Prop}{st:Ai}{d:Addr}{es:Array Ee}{ep:Nat}{Qv:Ad->Ai->Prop} (nm:(d == Ex)=false) (x:RawD st.heap d es ep) (ne:es.size≠0) (hz:es.size<=A0)
  (ht:∀ e∈es.toList,∃ b,e.key=.ref b/\∀ h':Heap,(∀ o,st.heap.get? b=some o->h'.get? b=some o)->Shared.TypeIs { st with heap:=h' } (.ref b) "tuple") (hh:∀ e∈es.toList,¬ (es.filter (·.hash == e.hash)).size > 1)
  (good:∀ h',(∀ b o,st.heap.get? b=some o->h'.get? b=some o)->(∃ o' ep',h'.get? st.heap.objs.size=some o'/\o'.ExactDict/\o'.data=.dict es ep')->Qv (.ref st.heap.objs.size) { st with heap:=h' }):
  An (Aw pg wd) Ar (call (.type "dict") [.ref d]) Qv Er st:=by
 refine callType_codes (Q₁:=λ obj s₁=>obj=.ref st.heap.objs.size/\s₁={ st with heap:=st.heap.push { cls:=.type "dict",data:=.dict #[] } }) F.kt_called_dict (F.kt_typeCall_dict_1 _) F.entry_dict_init (kt_code_dict_new _ ⟨rfl,rfl⟩) ?_;rintro obj s₁ ⟨rfl,rfl⟩;obtain ⟨o,e1,c1,e2⟩:=id x;have hl:=Bc e1;have hdo:st.heap.objs.size≠d:=λ e=>by rw [e] at hl;exact DS _ hl
 have kp:∀ b ob,st.heap.get? b=some ob->(st.heap.push { cls:=.type "dict",data:=.dict #[] }).get? b=some ob:=λ b ob e=>Ci _ e;have e1':=kp d o e1;have hN:(st.heap.push { cls:=.type "dict",data:=.dict #[] }).get? st.heap.objs.size=some { cls:=.type "dict",data:=.dict #[] }:=C0 _ rfl;have tyN:Shared.TypeIs { st with heap:=st.heap.push { cls:=.type "dict",data:=.dict #[] } } (.ref st.heap.objs.size) "dict" := ⟨_,hN,rfl⟩
 have tyO:Shared.TypeIs { st with heap:=st.heap.push { cls:=.type "dict",data:=.dict #[] } } (.ref d) "dict" := ⟨o,e1',c1.1⟩
 refine ⟨tyN,F.args_dict_init_2 _ _,?_⟩;unfold vj9.«dict.__init__»;refine Ak ?_;unfold Builtin.Dict.selfAndRest;refine Ak (Qt tyN ?_);show An _ _ (pure (st.heap.objs.size,[Value.ref d])) _ _ _;refine Az ?_;show An _ _ (Builtin.Dict.updateFrom "dict.__init__" st.heap.objs.size (.ref d) [] .none) _ _ _;unfold Builtin.Dict.updateFrom;refine Ak (wpAny_typeOf tyO ?_);rw [if_neg (by decide)];refine Ak ?_;unfold Builtin.Dict.merge;refine Ak ?_;unfold Builtin.Dict.readDirectly;refine Ak (N1 tyO isSubtype_dict_dict ?_);simp only [Bool.not_true,GJ,if_false];refine Ak (N0 tyO F.slot_dict_iter.lookup (Az ?_));simp only [beq_self_eq_true,if_true];refine Ak (Az ?_);show An _ _ (Builtin.Dict.mergeDict "dict.__init__" st.heap.objs.size d) _ _ _;unfold Builtin.Dict.mergeDict;rw [if_neg (by simpa using hdo)];unfold Ln;rw [if_neg (by rw [nm];exact Ck)];refine Ak (Az ?_);refine Ak (Ht e1' e2 ?_);have few:(decide (es.size<=8) && es.all λ e=>(keyPart e.key).isSome)=false:=by
  have:(es.all λ e=>(keyPart e.key).isSome)=false:=by
   rw [Y8];intro h;have hm:es[0]'(by omega)∈es.toList:=by simp
   obtain ⟨b,ek,_⟩:=ht _ hm
   have:=(Array.all_eq_true.mp h) 0 (by omega)
   rw [ek] at this;cases this
  rw [this,Jx]
 dsimp only;rw [few];simp only [Bool.not_false,if_true];refine Ak (Ht hN rfl ?_);simp only [Array.isEmpty_empty,if_true];refine Ak (kd (x.to λ o e=>kp d o e) (λ e he=>?_) hh ?_)
 ·obtain ⟨b,ek,hT⟩:=ht e he;exact ⟨b,ek,hT _ λ o e=>kp b o e⟩
 ·have nem:(!es.isEmpty)=true:=by
   cases he:es.isEmpty with
   | false=>rfl
   | true=>exact absurd (by rw [Array.isEmpty_iff.mp he];rfl) ne
  rw [if_pos nem];refine Ak (wpAny_updateDictKeysTo hN rfl (Az ?_) (by omega));show An _ _ (Builtin.Dict.addKeywords st.heap.objs.size [] >>= _) _ _ _;refine Ak (Az (Az ⟨rfl,good _ (λ b ob e=>?_) ⟨_,_,Lo _ hN (Obj.isFreed_of_dict (Obj.data_mapDictKeys rfl _)),?_,Obj.data_mapDictKeys rfl _⟩⟩))
  ·have hb:=Bc e;rw [N8 _ _ (FU hb)];exact kp b ob e
  ·exact Obj.ExactDict.mapDictKeys ⟨rfl,rfl,rfl⟩ _
theorem T4 {α β:Type}{R S:α->β->Prop}:∀ {xs:List α}{ys:List β},FF R xs ys->(∀ x y,R x y->S x y)->FF S xs ys
 | _,_,.nil,_=>.nil
 | _,_,.cons h t,f=>.cons (f _ _ h) (T4 t f)
variable {X:Cx}
def vy:zvc X (.type "dict") (λ xs H Q=>∃ a kvs,xs=[.ref a]/\Rd H a (.dT kvs)/\kvs≠[]/\DQ (kvs.map (·.1))=true/\∀ l,H l=none->Q (.ref l) (Ap H l (.dT kvs))):=by
 intro pins s σ H xs us Q I r h;obtain ⟨a,kvs,rfl,rd,ne,dk,q⟩:=h;obtain ⟨u,rfl,rx⟩:=Fd r;cases rx;obtain ⟨hz,nm,ys,pr,o,es,ep,h1,h2,h3,h4,h5⟩:=(show zxo X.prog X.w H s.heap a (.dT kvs) from Rd.ok rd I.hok)
 have ln:kvs.length=ys.length:=P5 pr;have hl:es.size=ys.length:=by rw [<- Ir,h4,AG]
 have kk:ys.map (·.1)=kvs.map (·.1):=by
  clear h4 h5 ln hl hz dk ne q rd h1 h2 h3;induction pr with
  | nil=>rfl
  | cons x _ ih=>rw [AR,AR,ih,x.1]
 unfold DQ at dk;rw [AS,jb5,jb5,<- kk] at dk;have hash:∀ y∈ys,(JX (FH (Dc X.prog X.w)) y).hash=Gx y.1:=λ y hy=>z5 (dk.1 _ (jd4.mpr ⟨y,hy,rfl⟩));refine Zs nm ⟨o,h1,h2,h3⟩ (λ z=>ne (jf6.mp (by omega))) (by omega) (λ e he=>?_) (λ e he=>?_) λ h' kp ⟨o',ep',e1,c1,d1⟩=>?_
 ·rw [h4] at he;obtain ⟨y,hy,rfl⟩:=jd4.mp he;obtain ⟨i,hi,ei⟩:=Ml hy;have hk:kvs[i]?=some (kvs[i]'(by omega)):=Cd _;obtain ⟨y',hy',hp⟩:=P4 pr hk;rw [Cd hi,ei] at hy';cases hy';obtain ⟨_,its,_,ot,et,ct⟩:=(show zxo X.prog X.w H s.heap y.2.1 (.tup _) from I.hok _ _ hp.2.1)
  exact ⟨y.2.1,rfl,λ h' k=>⟨ot,k ot et,ct.1⟩⟩
 ·rw [h4] at he;obtain ⟨y,hy,rfl⟩:=jd4.mp he;have d2:=of_decide_eq_true (dk.2 _ (jd4.mpr ⟨y,hy,rfl⟩));rw [<- Ir,Array.toList_filter,h4,OJ,AG];rw [OJ,AG] at d2;have ef:ys.filter ((λ e:Ee=>e.hash == (JX (FH (Dc X.prog X.w)) y).hash) ∘ JX (FH (Dc X.prog X.w)))=ys.filter ((λ k'=>Gx k' == Gx y.1) ∘ λ x=>x.1):=Kw λ z hz'=>by
   show ((JX (FH (Dc X.prog X.w)) z).hash == _)=(Gx z.1 == Gx y.1);rw [hash z hz',hash y hy]
  rw [ef];omega
 ·have fr:H s.heap.objs.size=none:=I.hok.fresh (A5 _);have pr':FF (λ (p:List Av×V) (q:List Av×Addr×Ad)=>p.1=q.1/\Ap H s.heap.objs.size (.dT kvs) q.2.1=some (.tup (p.1.map kV))/\RelV p.2 q.2.2) kvs ys:=by
   have up:∀ b xs,H b=some (.tup xs)->Ap H s.heap.objs.size (.dT kvs) b=some (.tup xs):=λ b xs e=>by rw [A8 (JH e fr)];exact e
   exact T4 pr λ p q x=>⟨x.1,up _ _ x.2.1,x.2.2⟩
  refine ⟨.ref s.heap.objs.size,_,I.laid (t':=s.toks) kp (A5 _) (show zxo X.prog X.w (Ap H s.heap.objs.size (.dT kvs)) h' s.heap.objs.size (.dT kvs) from ⟨hz,?_,ys,pr',o',es,ep',e1,c1,d1,h4,h5⟩),rfl,q _ fr⟩;have big:=Inv.big I;exact beq_false_of_ne (FU big)
section
variable {X:Cx}{M:Fm}{ρ:Ae}{σ:St}{H H':Hp}{fps:AN}{vs:List Nat}{fa:Fa}{Q:VK}{F:List Addr}{e:Expr}{es:List Expr}{p pos:Pos}
def vd {ks:List (List Av)}{xs:List PV}{ws:List V} (h:Bw M H fps vs F (.dcl ks xs) 1 Q) (en:ks.length=xs.length) (o:OwnL M.K H (Zv M vs fps) xs 0 ws []) {p:Addr} (hp:H p=none):Q (.ref p) (Ap H p (.dT (ks.zip ws))):=by
 refine h (.ref p) _ [p] (D9 hp) ?_ λ a ha=>.inr (by rw [jb7.mp ha];exact hp);rw [Own];refine ⟨p,ws,rfl,en,.inr ⟨(by decide),[],AV,rfl,HA,?_⟩⟩;rw [LP];exact OwnL.move (S:=λ _=>False) (λ a u ha _=>D9 hp a u ha) (λ _ z=>z.elim) (λ a hd nz z=>z.elim nz λ z=>hd (by rw [jb7.mp z];exact hp)) xs 0 ws [] (λ _ z=>nomatch z) o
def LO:List (PV×Nat)->Option (PV×Nat)
 | [(.dcl ks xs,_)]=>if DQ ks=true/\ks≠[] then some (.dcl ks xs,1) else none
 | _=>none
def WK {ks:List (List Av)}{ws:List V} (h:ks.length=ws.length):(ks.zip ws).map (·.1)=ks:=by
 rw [List.map_fst_zip (by omega)]
def jP (hK:M.K=X.K) (hg:Gl X "dict") (hm:X.mg "dict" = none) (ha:PA X (e::es) (tL M fa vs)) (he:AA (e::es) X.env=(false,eval e X.env)::AA es X.env) (hpl:(CH pos (AA es X.env)).any (·.1)=false):
  PE X (.Call (.Name "dict" p) (e::es) [] pos) (tE M (Ao LO fa) vs):=by
 refine BB (M6 vy hg hm rfl ha (he:=he) (hpl:=hpl)) λ σ H Q h=>Gr (λ xs z c ws H fps fp Q ho tm nz zd lf=>?_) h;unfold LO at ho;split at ho
 ·rename_i ks xs d;split at ho
  ·rename_i hk;cases ho;obtain ⟨v,r,f1,f2,rfl,rfl,_,o1,h2⟩:=tm;obtain ⟨rfl,rfl⟩:=h2;obtain ⟨a,us,rfl,en,hr,_,ol⟩:=(cold (fp:=f1) o1 λ a ha=>nz a (BP _ ha)).dcl0;have el:ks.length=us.length:=by rw [en,ol.length]
   refine ⟨a,_,rfl,hr,λ z=>hk.2 ?_,by rw [WK el];exact hk.1,λ l hl=>vd lf en ol hl⟩
   have:=WK el
   rw [z] at this;exact this.symm
  ·cases ho
 ·cases ho
end
def Tp (lo:Int) (n:Nat):It:=⟨λ i _=>i < n,λ i H v H'=>H'=H/\v=.int (lo - (i:Nat)),λ i _=>n<=i⟩
def w9 {P:A9}{w:A7}{K:Frag}{tg:Expr} (it:Addr) (lo:Int) (n:Nat):Turn P w K tg (Tp lo n) [it] it (λ i h=>Nk h it (lo + (i:Nat) * (-1)) ((n:Int) - (i:Nat)) (-1)) where
 mem:=by simp
 obj:=λ i h st b hb=>by
  have e:b=it:=by simpa using hb
  subst e;exact ⟨_,st,λ v z=>by
   have z':Data.fields _=Data.cell v:=z;cases z'⟩
 keep:=λ i h h' st k=>k it (by simp) _ st
 item:=by
  intro X hP hw hK hc i pins s σ H E I hf st hg;subst hP hw hK;obtain ⟨f0,f1,f2,f3,f4,f5⟩:=hf it (by simp);have W:=Walks.range (prog:=X.prog) (w:=X.w) (I.ok.hd hc) it lo (-1) n;refine W.item i s _ _ hg st λ v h' tk hv st' kk=>?_;obtain ⟨t,rfl⟩:=hv;have I1:Inv X pins σ H { s with heap:=h',toks:=tk }:=I.turned (λ b o hb e=>kk b o (by simpa using hb) e) f0 f1 f3 f4 f5;refine ⟨_,rfl,Jp (s:={ s with heap:=h',toks:=tk }) (n := "range_iterator") st' rfl rfl (by decide) ⟨.int (lo - i),H,I1,⟨t,?_⟩,⟨rfl,rfl⟩,st',λ b hb=>(hf b hb).1⟩⟩;rw [show lo + (i:Int) * -1=lo - i by omega]
 done:=by
  intro X hP hw hK hc i pins s σ H E I hf st hg;subst hP hw hK;obtain ⟨f0,f1,f2,f3,f4,f5⟩:=hf it (by simp);exact wpAny_pyNext_range_end (I.ok.hd hc) st (by have:n<=i:=hg;omega) λ h' eb=>⟨rfl,I.turned (t':=s.toks) (λ b o hb e=>eb b o hb e) f0 f1 f3 f4 f5⟩
 self:=λ _ _ _ _ _ st h=>wpAny_pyIter_rangeiter st h
section
variable {X:Cx}{tg:Expr}
def zk {pins:List (Addr×Obj)}{σ:St}{H:Hp}{s:Ai}{R:It->Hp->Prop}{E:Ad->Ai->Prop}{lo hi:Int}{t u v:Tok}{tk:Nat} (I:Inv X pins σ H s) (h1:-(2 ^ 62)<=lo) (h2:lo < 2 ^ 62) (h3:-(2 ^ 62)<=hi) (h4:hi < 2 ^ 62)
  (q:R (Tp lo (lo - hi).toNat) H):An (Aw X.prog X.w) X.A (pyIter (.ref s.heap.objs.size)) (Tn X pins σ tg R) E { s with heap:=s.heap.push { cls:=.type "range",data:=.fields #[.int lo t,.int hi u,.int (-1) v] },toks:=tk }:=by
 refine wpAny_pyIter_range (IsRange.new ..) (PySem.W.small_down h1 h2 h3 h4) ?_;have I1:Inv X pins σ H { s with heap:=s.heap.push { cls:=.type "range",data:=.fields #[.int lo t,.int hi u,.int (-1) v] },toks:=tk }:=I.kept λ b o e=>Ci _ e;refine ⟨(s.heap.push { cls:=.type "range",data:=.fields #[.int lo t,.int hi u,.int (-1) v] }).objs.size,[(s.heap.push { cls:=.type "range",data:=.fields #[.int lo t,.int hi u,.int (-1) v] }).objs.size],_,_,H,rfl,
  I1.kept (t':=tk) λ b o e=>Ci _ e,w9 _ lo (lo - hi).toNat,?_,λ b hb=>?_,q⟩
 ·have e1:lo + ((0:Nat):Int) * (-1)=lo:=by simp
  have e2:(((lo - hi).toNat:Nat):Int) - ((0:Nat):Int)=Builtin.Range.rangeSize lo hi (-1):=by rw [PySem.W.rangeSize_downNat];simp
  show Nk _ _ (lo + ((0:Nat):Int) * (-1)) ((((lo - hi).toNat:Nat):Int) - ((0:Nat):Int)) (-1);rw [e1,e2];exact C0 _ rfl
 ·have e:b=(s.heap.push { cls:=.type "range",data:=.fields #[.int lo t,.int hi u,.int (-1) v] }).objs.size:=by simpa using hb
  subst e;exact I1.fpOk (A5 _) (I1.hok.fresh (A5 _))
def U9 (ta:TA):TI:=λ σ H R=>ta σ H λ vs H1=>∃ i j:Int,vs=[.int i,.int j,.int (-1)]/\(-(2 ^ 40)<=i/\i < 2 ^ 40/\-(2 ^ 40)<=j/\j < 2 ^ 40)/\R (Tp i (i - j).toNat) H1
theorem zY {e:Expr}{es:List Expr}{ta:TA}{p pos:Pos} (hg:Gl X "range") (hm:X.mg "range" = none) (ha:PA X (e::es) ta) (he:AA (e::es) X.env=(false,eval e X.env)::AA es X.env) (hpl:(CH pos (AA es X.env)).any (·.1)=false):
  PI X tg (.Call (.Name "range" p) (e::es) [] pos) (U9 ta):=by
 intro pins s σ H R I h;refine Call_ (GB I hg hm boot_range (Im (A1 (ha pos pins s σ H _ I h) λ us s1 ⟨vs,H1,I1,r1,q1⟩=>?_) he hpl));obtain ⟨i,j,e,⟨q1,q2,q3,q4⟩,q⟩:=q1;subst e;cases r1 with
 | cons r rr=>
  cases rr with
  | cons r' rr=>
   cases rr with
   | cons r'' rr=>
    cases rr;obtain ⟨t,rfl⟩:=r;obtain ⟨t',rfl⟩:=r';obtain ⟨t'',rfl⟩:=r'';exact call_range_3 (by decide) (zk I1 (by omega) (by omega) (by omega) (by omega) q) (.inl (PyProof.noPylong_small (by omega)))
end
section
variable {M:Fm}{ρ:Ae}{σ:St}{H:Hp}{fps:AN}{vs is:List Nat}
def Gw (i:Int) (n:Nat):List PV:=(Aq n).map λ (k:Nat)=>PV.int (i - (k:Int))
def Kl:List (PV×Nat)->Option (Int×Nat)
 | [(.int i,_),(.int j,_),(.int k,_)]=>if k=-1/\-(2 ^ 40)<=i/\i < 2 ^ 40/\-(2 ^ 40)<=j/\j < 2 ^ 40 then some (i,(i - j).toNat) else none
 | _=>none
def IT (fa:Fa) (asg:PV->Ae->Option Ae) (body:Fs):Fs:=λ ρ=>match fa ρ with
 | .ok (xs,ρ1)=>(match Kl xs with
  | some (i,n)=>BS asg body (Gw i n) ρ1
  | none=>.no)
 | .exc c=>.exc c
 | .no=>.no
theorem vJ {g:TG}{asg:PV->Ae->Option Ae}{body:Fs}{fa:Fa}{D:Ends} (hg:CN M [] is g asg) (hq:tS M (IT fa asg body) D σ H):Dr (U9 (tL M fa vs)) g (tS M body) D σ H:=by
 obtain ⟨ρ,fps,rep,q⟩:=hq;refine ⟨ρ,fps,rep,?_⟩;unfold IT at q;cases ef:fa ρ with
 | no=>rw [ef] at q;exact q
 | exc c=>rw [ef] at q;exact λ H' fps' k=>q _ H' fps' k.ks
 | ok p=>
  obtain ⟨xs,ρ1⟩:=p;rw [ef] at q;intro ws H1 fps1 f1 k1 g1 rep1 o1 t1;dsimp only at q;cases ee:Kl xs with
  | none=>rw [ee] at q;exact q.elim
  | some r=>
   obtain ⟨ii,n⟩:=r;rw [ee] at q;dsimp only at q;unfold Kl at ee;split at ee
   ·rename_i i0 d1 j d2 k d3;split at ee
    ·rename_i hc;cases ee;obtain ⟨rfl,hb⟩:=hc;obtain ⟨v1,r1,fa1,fb1,rfl,rfl,_,h1,h2⟩:=o1;obtain ⟨v2,r2,fa2,fb2,rfl,rfl,_,h3,h4⟩:=h2;obtain ⟨v3,r3,fa3,fb3,rfl,rfl,_,h5,h6⟩:=h4;obtain ⟨rfl,rfl⟩:=h6;rw [Own] at h1 h3 h5;obtain ⟨rfl,_⟩:=h1;obtain ⟨rfl,_⟩:=h3;obtain ⟨rfl,_⟩:=h5;refine ⟨ii,j,rfl,hb,?_⟩;have hl:(Gw ii (ii - j).toNat).length=(ii - j).toNat:=by unfold Gw;rw [AG,DT]
     refine Gk (Pq:=λ _ _=>True) (els:=Gw ii (ii - j).toNat) hg (λ _ _ _=>trivial) (λ {H fps i} _ h=>by rw [hl] at h;exact h) (λ {H fps i} _ h=>by rw [hl] at h;exact h) (λ {ρ σ H fps i x H'} _ _ h y=>?_) rep1 trivial (RsOk.from k1.ks q);obtain ⟨rfl,rfl⟩:=y;refine ⟨λ _ _ h=>h,.int (ii - (i:Nat)),?_,by rw [Own];exact ⟨rfl,rfl⟩⟩;rw [hl] at h;unfold Gw;rw [BW,HB h];rfl
    ·cases ee
   ·cases ee
end
abbrev D2:=Fx×List Nat
def E9 (d:Expr->Option D2):List Expr->Option (Fa×List Nat)
 | []=>some (Ac,[])
 | e::es=>match d e,E9 d es with
  | some (f,v),some (fa,u)=>some (Af f fa,v++u)
  | _,_=>none
def O6 (d:Expr->Option D2):List Expr->Option D2
 | []=>none
 | [e]=>d e
 | e::es=>match d e,O6 d es with
  | some (f,v),some (g,u)=>some (D6 f g,v++u)
  | _,_=>none
def Oq (d:Expr->Option D2):List Expr->Option D2
 | []=>none
 | [e]=>d e
 | e::es=>match d e,Oq d es with
  | some (f,v),some (g,u)=>some (Bv f g,v++u)
  | _,_=>none
def Mv:Const->Option D2
 | .int i=>some (bC (.int i),[])
 | .bool b=>some (bC (.bl b),[])
 | .none=>some (bC .non,[])
 | .str x=>some (bC (.str x),[])
 | _=>none
def Jh (x:Str):Option String:=if x = "int" then some "int" else if x = "bool" then some "bool" else if x = "str" then some "str" else if x = "list" then some "list" else if x = "tuple" then some "tuple" else if x = "dict" then some "dict" else none
def QR (x:Str):Option (List (PV×Nat)->Option (PV×Nat)):=
 if x = "len" then some Fw else if x = "all" then some E5 else if x = "max" then some LB else if x = "min" then some Kj else if x = "sum" then some Es else if x = "tuple" then some M9 else if x = "list" then some HU else if x = "int" then some IS else if x = "sorted" then some LC else if x = "dict" then some LO else none
def EZ (scope sc:Br):Br:={ scope with names:=scope.names.map λ (n,k)=>if (k == .free && sc.kind == .function && sc.names.lookup n == some .cell) then (n,.cell) else (n,k) }
def Sf (i:Nat):Str:=⟨#[2000000 + i]⟩
def Io (sc':Br):Nat->List Str->List Str
 | _,[]=>[]
 | i,x::r=>(if D8 sc' x .cell || D8 sc' x .free then x else Sf i)::Io sc' (i + 1) r
def ML:List Expr->Option (List Str)
 | []=>some []
 | .Name x _::r=>(ML r).map (x::·)
 | _=>none
def Lr (n:Nat):Expr->Option (List Str×(PV->Ae->Option Ae))
 | .Name x _=>some ([x],asgN n)
 | .Tuple es _ _=>(ML es).map λ xs=>(xs,asgT (Ko n xs.length))
 | _=>none
def Mp:Expr->Bool
 | .Tuple _ _ _=>true
 | _=>false
def AO (S:Sx) (scope:Br) (xs:List Str) (vI:List Nat):Sx:=⟨Io (EZ scope S.sc) 0 S.N++xs,EZ scope S.sc,S.ms,(Aq S.N.length).map S.alF++AB xs.length vI,S.Γ,S.Γm,false,S.xc,S.pn⟩
def KQ (S:Sx) (scope:Br) (xs:List Str) (vI:List Nat):Bool:=
 let S':=AO S scope xs vI;decide (scope.kind=.function) && scope.names.all (λ x=>x.2 != .free || !(scope.names.contains (x.1,.cell))) && scope.names.all (λ x=>x.2 != .local || scope.names.lookup x.1 == some .local)
 && scope.names.all (λ x=>x.2 != .free || (S.sc.names.lookup x.1 == some .cell || S.sc.names.lookup x.1 == some .free))
 && (Aq S.N.length).all (λ i=>match S'.N[i]? with
  | some x=>!Dm S'.sc x || (decide (S.N[i]?=some x) && Dm S.sc x && scope.names.contains (x,.free) && !D8 S'.sc x .local)
  | none=>true)
 && decide S'.N.Nodup && xs.all (λ x=>D8 S'.sc x .local || (D8 S'.sc x .cell && scope.names.contains (x,.cell))) && decide (S.N.length≠0) && (S.ms.all λ i=>decide (i < S.N.length))
inductive Iw where
 | rng (en:List (PV×Nat)->Option (Int×Int)) (fa:Fa) (vs:List Nat)
 | seq (f:Fx) (vs:List Nat)
 | vw (v:Vw) (fa:Fa) (vs:List Nat)
def Iw.vs:Iw->List Nat
 | .rng _ _ _=>[]
 | .seq _ vs=>vs
 | .vw _ _ vs=>vs
def FJ (tg:Expr):Iw->Bool
 | .vw .enm _ _=>Mp tg
 | .vw .zp _ _=>Mp tg
 | _=>true
def ES (d:Expr->Option D2) (S:Sx) (it:Expr):Option Iw:=match it with
 | .Call (.Name x _) [a] [] _=>if x = "range" /\ S.glob "range" = true then (match E9 d [a] with
   | some (fa,vs)=>some (.rng AY fa vs)
   | none=>none) else if x = "enumerate" /\ S.glob "enumerate" = true then (match E9 d [a] with
   | some (fa,vs)=>some (.vw .enm fa vs)
   | none=>none) else (match d it with
   | some (f,vs)=>some (.seq f vs)
   | none=>none)
 | .Call (.Name x _) [a,b] [] _=>if x = "range" /\ S.glob "range" = true then (match E9 d [a,b] with
   | some (fa,vs)=>some (.rng EA fa vs)
   | none=>none) else if x = "zip" /\ S.glob "zip" = true then (match E9 d [a,b] with
   | some (fa,vs)=>some (.vw .zp fa vs)
   | none=>none) else (match d it with
   | some (f,vs)=>some (.seq f vs)
   | none=>none)
 | _=>match d it with
   | some (f,vs)=>some (.seq f vs)
   | none=>none
def L6 (iw:Iw) (k:Nat) (asg:PV->Ae->Option Ae) (test:Fb) (elt:Fx):Fx:=match iw with
 | .rng en fa _=>Ca en fa k asg test elt
 | .seq f _=>Cf f k asg test elt
 | .vw v fa _=>E4 v fa k asg test elt
def Bb:Fb:=λ ρ=>.ok (true,ρ)
def LU (d:Expr->Option D2):List Expr->Option Fb
 | []=>some Bb
 | [c]=>(d c).map λ p=>bT p.1
 | _=>none
def Vq:Expr->Bool
 | .UnaryOp .USub c _=>(match c with
  | .Constant k _ _=>(match k with
   | .int i=>i == 1
   | _=>false)
  | _=>false)
 | _=>false
def gv {e:Expr} (h:Vq e=true):∃ k p3 p4,e=.UnaryOp .USub (.Constant (.int 1) k p3) p4:=by
 unfold Vq at h;split at h
 ·split at h
  ·split at h
   ·rename_i i
    have:i=1:=eq_of_beq h
    subst this;exact ⟨_,_,_,rfl⟩
   ·cases h
  ·cases h
 ·cases h
def Km:Expr->Option Str
 | .Name x _=>some x
 | _=>none
def LN {e:Expr}{x:Str} (h:Km e=some x):∃ p,e=.Name x p:=by
 cases e <;> first | (cases h;exact ⟨_,rfl⟩) | (cases h)
def SK:Expr->Option Int
 | .Constant c _ _=>(match c with
  | .int i=>some i
  | _=>none)
 | _=>none
def qB {e:Expr}{i:Int} (h:SK e=some i):∃ k p,e=.Constant (.int i) k p:=by
 unfold SK at h;split at h
 ·split at h
  ·cases h;exact ⟨_,_,rfl⟩
  ·cases h
 ·cases h
def Vj (d:Sx->Expr->Option D2) (S:Sx) (a:Expr):Option Expr->Option Expr->Option Expr->Option D2
 | none,some hi,none=>match d S a,d S hi with
  | some (f,v),some (g,_)=>some (Fo f none (some g),v)
  | _,_=>none
 | some lo,none,none=>match d S a,d S lo with
  | some (f,v),some (g,_)=>some (Fo f (some g) none,v)
  | _,_=>none
 | some lo,some hi,none=>match d S a,d S lo,d S hi with
  | some (f,v),some (g,_),some (h,_)=>some (Fo f (some g) (some h),v)
  | _,_,_=>none
 | _,_,_=>none
def Vk (d:Sx->Expr->Option D2) (S:Sx) (a b:Expr):Option D2:=match b with
 | .Slice lo hi st _=>Vj d S a lo hi st
 | b=>match Km a,SK b with
  | some x,some i=>(match S.slot x with
   | some j=>if S.msF j=true then none else some (Ab A3 (Aa j) (bC (.int i)),(j::S.alF j)++[])
   | none=>none)
  | _,_=>match d S a,d S b with
   | some (f,v),some (g,u)=>if KN b=true then some (Ab A3 f g,v++u) else none
   | _,_=>none
def Vh (d:Expr->Option D2) (S:Sx) (e c:Expr):Option D2:=match d e with
 | some (f,v)=>if S.glob "isinstance" = true then (match c with
  | .Name T _=>(match Jh T with
   | some t=>if S.glob T=true then some (Bu (Hi t) f,v) else none
   | none=>none)
  | _=>none) else none
 | none=>none
def R3 (x:Str):List Expr->Option Expr
 | [.Call (.Name y _) [a] [] _]=>if x = "list" /\ y = "reversed" then some a else none
 | _=>none
def jq {x:Str}{args:List Expr}{a:Expr} (h:R3 x args=some a):x = "list" /\ ∃ p pos,args=[.Call (.Name "reversed" p) [a] [] pos]:=by
 unfold R3 at h;split at h
 ·split at h
  ·rename_i hc;cases h;obtain ⟨rfl,rfl⟩:=hc;exact ⟨rfl,_,_,rfl⟩
  ·cases h
 ·cases h
def En:List Comprehension->Option (Expr×Expr×List Expr)
 | []=>none
 | g::r=>(match r with
  | []=>(match g with
   | ⟨tg,it,ifs,n⟩=>if n=0 then some (tg,it,ifs) else none)
  | _::_=>none)
def VX {gs:List Comprehension}{tg it:Expr}{ifs:List Expr} (h:En gs=some (tg,it,ifs)):gs=[⟨tg,it,ifs,0⟩]:=by
 unfold En at h;split at h
 ·cases h
 ·split at h
  ·split at h;split at h
   ·rename_i hn;cases h;subst hn;rfl
   ·cases h
  ·cases h
def Vg (d:Expr->Option D2) (a:Expr) (ops:List Eu) (bs:List Expr):Option D2:=match ops with
 | [op]=>(match bs with
  | [b]=>(match d a,d b,Oo b op with
   | some (f,v),some (g,u),some o=>some (Ab o f g,v++u)
   | _,_,_=>none)
  | _=>none)
 | [op,op']=>(match bs with
  | [b,c]=>(match d a,d b,d c,Gb op,Gb op' with
   | some (f,_),some (g,_),some (h,_),some p,some q=>some (He p q f g h,[])
   | _,_,_,_,_=>none)
  | _=>none)
 | _=>none
def Ft (d:Sx->Expr->Option D2) (S:Sx):Expr->Option D2
 | .Constant c _ _=>Mv c
 | .Name x _=>match S.slot x with
  | some i=>if S.msF i=true then none else some (Aa i,i::S.alF i)
  | none=>none
 | .BinOp a op b _=>match d S a,d S b,U0 b op with
  | some (f,v),some (g,u),some o=>some (Ab o f g,v++u)
  | _,_,_=>none
 | .IfExp t a b _=>match d S t,d S a,d S b with
  | some (c,_),some (f,v),some (g,u)=>some (Ce (bT c) f g,v++u)
  | _,_,_=>none
 | .UnaryOp op a _=>(match op with
  | .USub=>(match d S a with
   | some (f,v)=>some (Bu Lh f,v)
   | none=>none)
  | .Not=>(match d S a with
   | some (f,v)=>some (Bu CS f,v)
   | none=>none)
  | _=>none)
 | .BoolOp op es _=>(match op with
  | .And=>O6 (d S) es
  | .Or=>Oq (d S) es)
 | .Compare a ops bs _=>Vg (d S) a ops bs
 | .List es _=>match E9 (d S) es with
  | some (fa,v)=>some (Ao BG fa,v)
  | none=>none
 | .Tuple es _ _=>match E9 (d S) es with
  | some (fa,v)=>some (Ao DD fa,v)
  | none=>none
 | .Dict ks vs _=>(match ks with
  | []=>(match vs with
   | []=>some (bC .emp,[])
   | _::_=>none)
  | _::_=>none)
 | .Subscript a b _=>Vk d S a b
 | .Call fn args ks _=>(match ks with
  | []=>(match Km fn with
   | some x=>(
     if x = "isinstance" then (match args with
      | [e,c]=>Vh (d S) S e c
      | _=>none)
     else match R3 x args with
     | some a=>(match d S a with
      | some (f,v)=>if S.glob "list" = true/\S.glob "reversed" = true then some (Bu QU f,v) else none
      | none=>none)
     | none=>match QR x with
     | some o=>(match args with
      | e::es=>(match E9 (d S) (e::es) with
       | some (fa,v)=>if S.glob x=true then some (Ao o fa,v) else none
       | none=>none)
      | []=>none)
     | none=>match S.Γ.lookup x with
      | some (false,_,F)=>(match args with
       | e::es=>(match E9 (d S) (e::es) with
        | some (fa,v)=>if S.glob x=true then some (A2 F fa,v) else none
        | none=>none)
       | []=>none)
      | some (true,_,F)=>none
      | none=>none)
   | none=>none)
  | _::_=>none)
 | .ListComp elt gs scope _=>(match En gs with
  | some (tg,it,ifs)=>(match Lr S.N.length tg,ES (d S) S it with
    | some (xs,asg),some iw=>if KQ S scope xs iw.vs=true/\FJ tg iw=true then (match LU (d (AO S scope xs iw.vs)) ifs,d (AO S scope xs iw.vs) elt with
     | some t,some (g,vE)=>some (L6 iw xs.length asg t g,iw.vs++vE.filter (λ i=>decide (i < S.N.length)))
     | _,_=>none) else none
    | _,_=>none)
  | none=>none)
 | _=>none
def Bj:Nat->Sx->Expr->Option D2
 | 0,_,_=>none
 | n + 1,S,e=>Ft (Bj n) S e
section
variable {X:Cx}{P:A9}{w:A7}{K:Frag}{mg:Str->Option Ad}{base:Heap}{lvl:Nat}{S:Sx}{Wx:St->Nat->Hp->Prop}{M:Fm}{f g:Fx}{vs vs':List Nat}{σ:St}{H:Hp}{Q:VK}
def jE {Q:Bool->Hp->Prop} (hq:tT M (bT (D6 f g)) σ H Q):Jk (tT M (bT f)) (tT M (bT g)) σ H Q:=by
 refine xC ?_;have e:bT (D6 f g)=HI (bT f) (bT g):=by
  funext ρ;unfold bT D6 HI;dsimp only;cases f ρ with
  | no=>rfl
  | exc c=>rfl
  | ok p=>
   obtain ⟨x,d,ρ1⟩:=p;cases x with
   | bl b=>cases b <;> rfl
   | _=>rfl
 rw [<- e];exact hq
def xF {Q:Bool->Hp->Prop} (hq:tT M (bT (Bv f g)) σ H Q):Q3 (tT M (bT f)) (tT M (bT g)) σ H Q:=by
 refine ZS ?_;have e:bT (Bv f g)=OV (bT f) (bT g):=by
  funext ρ;unfold bT Bv OV;dsimp only;cases f ρ with
  | no=>rfl
  | exc c=>rfl
  | ok p=>
   obtain ⟨x,d,ρ1⟩:=p;cases x with
   | bl b=>cases b <;> rfl
   | _=>rfl
 rw [<- e];exact hq
def jG {Q:Bool->Hp->Prop} (hq:tT M (bT (Bu CS f)) σ H Q):Jj (tT M (bT f)) σ H Q:=by
 refine xE ?_;have e:bT (Bu CS f)=HH (bT f):=by
  funext ρ;unfold bT Bu HH;dsimp only;cases f ρ with
  | no=>rfl
  | exc c=>rfl
  | ok p=>
   obtain ⟨x,d,ρ1⟩:=p;cases x with
   | bl b=>cases b <;> rfl
   | _=>rfl
 rw [<- e];exact hq
def AM (P:A9) (w:A7) (K:Frag) (mg:Str->Option Ad) (base:Heap) (lvl:Nat) (S:Sx) (e:Expr) (f:Fx) (vs:List Nat):Prop:=
 (∀ i∈vs,S.msF i=false)/\IQ e=true/\∀ {Wx} X M,XS X P w K mg base lvl S Wx->MS M K S Wx->PE X e (tE M f vs)/\PT X e (tT M (bT f))
def MS.v (m:MS M K S Wx) (h:∀ i∈vs,S.msF i=false):∀ i∈vs,M.Ms i=false:=λ i hi=>by rw [m.ms];exact h i hi
def MS.k (m:MS M K S Wx) (xs:XS X P w K mg base lvl S Wx):M.K=X.K:=m.K.trans xs.K.symm
def CO {e:Expr} (h1:∀ i∈vs,S.msF i=false) (h2:IQ e=true) (h3:∀ env whole,isTrue e env whole=(do let v<-whole;standAt e.pos;holding [v] (truthy v)))
  (h:∀ {Wx} X M,XS X P w K mg base lvl S Wx->MS M K S Wx->PE X e (tE M f vs)):AM P w K mg base lvl S e f vs:=
 ⟨h1,h2,λ X M xs m=>⟨h X M xs m,JK (qP (h X M xs m) λ wh=>h3 _ wh) λ σ H Q q=>R9 q⟩⟩
def Gq {vs vs':List Nat} (h1:∀ i∈vs,S.msF i=false) (h2:∀ i∈vs',S.msF i=false):∀ i∈vs++vs',S.msF i=false:=λ i hi=>(jd7.mp hi).elim (h1 i) (h2 i)
def ky {a b:Expr}{op:Eu}{o:PV->Nat->PV->Nat->Option (PV×Nat)}{pos:Pos} (ho:Oo b op=some o) (ga:AM P w K mg base lvl S a f vs) (gb:AM P w K mg base lvl S b g vs'):AM P w K mg base lvl S (.Compare a [op] [b] pos) (Ab o f g) (vs++vs'):=by
 refine ⟨Gq ga.1 gb.1,rfl,λ X M xs m=>?_⟩;obtain ⟨r,hr,hn,hi⟩:=ka (X:=X) (M:=M) (f:=f) (g:=g) (vs:=vs) (vs':=vs') ho xs.room.units (m.v ga.1) (m.k xs);have ha:=(ga.2.2 X M xs m).1;have hb:=(gb.2.2 X M xs m).1;exact ⟨BB (zS hr ha hb hn) hi,JK (jf hr ha hb hn) λ σ H Q q=>hi σ H _ (R9 q)⟩
def wG {a b c:Expr}{op op':Eu}{p q:Int->Int->Bool}{h:Fx}{v3:List Nat}{pos:Pos} (h1:Gb op=some p) (h2:Gb op'=some q) (ga:AM P w K mg base lvl S a f vs) (gb:AM P w K mg base lvl S b g vs') (gc:AM P w K mg base lvl S c h v3):AM P w K mg base lvl S (.Compare a [op,op'] [b,c] pos) (He p q f g h) []:=by
 refine ⟨λ _ z=>(nomatch z),rfl,λ X M xs m=>?_⟩;have r1:=XI (X:=X) h1;have r2:=XI (X:=X) h2;have ha:=(ga.2.2 X M xs m).1;have hb:=(gb.2.2 X M xs m).1;have hc:=(gc.2.2 X M xs m).1;exact ⟨BB (kF r1.1 r2.1 ha hb hc (EY _ r2.2.1 r2.2.2)) λ σ H Q q=>X6 q,JK (kL r1.1 r2.1 ha hb hc (EY _ r2.2.1 r2.2.2)) λ σ H Q q=>X6 (vs:=[]) (R9 q)⟩
def kz {a:Expr}{pos:Pos} (ga:AM P w K mg base lvl S a f vs):AM P w K mg base lvl S (.UnaryOp .Not a pos) (Bu CS f) vs:=
 ⟨ga.1,rfl,λ X M xs m=>⟨BB (xl (ga.2.2 X M xs m).1) λ σ H Q q=>j6 q,JK (qO (ga.2.2 X M xs m).2) λ σ H Q q=>jG q⟩⟩
theorem Ye {d:Expr->Option D2} (hd:∀ e f vs,d e=some (f,vs)->AM P w K mg base lvl S e f vs) {pos:Pos}:∀ (es:List Expr) (f:Fx) (vs:List Nat),O6 d es=some (f,vs)->(∀ i∈vs,S.msF i=false)/\∀ {Wx} X M,XS X P w K mg base lvl S Wx->MS M K S Wx->PE X (.BoolOp .And es pos) (tE M f vs)/\PW X (.BoolOp .And es pos) (tT M (bT f))
 | [],f,vs,h=>by cases h
 | [e],f,vs,h=>by
  have g:=hd e f vs h;exact ⟨g.1,λ X M xs m=>⟨Vz (g.2.2 X M xs m).1,jL (g.2.2 X M xs m).2⟩⟩
 | e::e'::es,f,vs,h=>by
  unfold O6 at h;split at h
  ·rename_i f1 v1 f2 v2 h1 h2;cases h;have g1:=hd e f1 v1 h1;have g2:=Ye hd (pos:=pos) (e'::es) f2 v2 h2;exact ⟨Gq g1.1 g2.1,λ X M xs m=>⟨BB (xj (g1.2.2 X M xs m).1 (g2.2 X M xs m).1) λ σ H Q q=>j4 q,V3 (qQ (g1.2.2 X M xs m).2 (g2.2 X M xs m).2) λ σ H Q q=>jE q⟩⟩
  ·cases h
theorem Xm {d:Expr->Option D2} (hd:∀ e f vs,d e=some (f,vs)->AM P w K mg base lvl S e f vs) {pos:Pos}:∀ (es:List Expr) (f:Fx) (vs:List Nat),Oq d es=some (f,vs)->(∀ i∈vs,S.msF i=false)/\∀ {Wx} X M,XS X P w K mg base lvl S Wx->MS M K S Wx->PE X (.BoolOp .Or es pos) (tE M f vs)/\PW X (.BoolOp .Or es pos) (tT M (bT f))
 | [],f,vs,h=>by cases h
 | [e],f,vs,h=>by
  have g:=hd e f vs h;exact ⟨g.1,λ X M xs m=>⟨Vz (g.2.2 X M xs m).1,qR (g.2.2 X M xs m).2⟩⟩
 | e::e'::es,f,vs,h=>by
  unfold Oq at h;split at h
  ·rename_i f1 v1 f2 v2 h1 h2;cases h;have g1:=hd e f1 v1 h1;have g2:=Xm hd (pos:=pos) (e'::es) f2 v2 h2;exact ⟨Gq g1.1 g2.1,λ X M xs m=>⟨BB (pe_or (g1.2.2 X M xs m).1 (g2.2 X M xs m).1) λ σ H Q q=>xu q,V3 (qg (g1.2.2 X M xs m).2 (g2.2 X M xs m).2) λ σ H Q q=>xF q⟩⟩
  ·cases h
theorem Fy {d:Expr->Option D2} (hd:∀ e f vs,d e=some (f,vs)->AM P w K mg base lvl S e f vs):∀ (es:List Expr) (fa:Fa) (vs:List Nat),E9 d es=some (fa,vs)->(∀ i∈vs,S.msF i=false)/\es.all IQ=true/\∀ {Wx} X M,XS X P w K mg base lvl S Wx->MS M K S Wx->PA X es (tL M fa vs)
 | [],fa,vs,h=>by cases h;exact ⟨λ _ z=>(nomatch z),rfl,λ X M _ _=>qW⟩
 | e::es,fa,vs,h=>by
  unfold E9 at h;split at h
  ·rename_i f1 v1 f2 v2 h1 h2;cases h;have g1:=hd e f1 v1 h1;have g2:=Fy hd es f2 v2 h2;exact ⟨Gq g1.1 g2.1,by rw [FV,g1.2.1,g2.2.1];rfl,λ X M xs m=>jO (m.v g1.1) (g1.2.2 X M xs m).1 (g2.2.2 X M xs m) (D1 (D4 g1.2.1))⟩
  ·cases h
def P8 (scope:Br) (env:Env):Il scope env=EZ scope env.scope:=rfl
theorem Pc {x:Str}{k:Dn}{sc:Br}:∀ (l:List (Str×Dn)),(k=.cell\/k=.free)->(l.map λ (n,k)=>if (k == NameKind.free && sc.kind == .function && sc.names.lookup n == some .cell) then (n,NameKind.cell) else (n,k)).lookup x=some k->(x,NameKind.free)∈l\/(x,NameKind.cell)∈l
 | [],_,h=>by simp at h
 | (n,j)::r,hk,h=>by
  rw [AR] at h;have ih:=Pc (x:=x) (k:=k) (sc:=sc) r hk;dsimp only at h;by_cases hj:(j == NameKind.free && sc.kind == .function && sc.names.lookup n == some .cell)=true
  ·rw [if_pos hj,EO] at h;split at h
   ·rename_i hx;rw [AS,AS] at hj;have e1:x=n:=eq_of_beq hx;have e2:j=.free:=eq_of_beq hj.1.1;rw [e1,e2];exact .inl AF
   ·exact (ih h).imp (AH _) (AH _)
  ·rw [if_neg hj,EO] at h;split at h
   ·rename_i hx;have e1:x=n:=eq_of_beq hx;have e2:j=k:=Option.some.inj h;rcases hk with z | z
    ·rw [e1,e2,z];exact .inr AF
    ·rw [e1,e2,z];exact .inl AF
   ·exact (ih h).imp (AH _) (AH _)
theorem JF (sc':Br):∀ (N:List Str) (i:Nat),(Io sc' i N).length=N.length
 | [],_=>rfl
 | x::r,i=>by rw [Io,Ba,JF sc' r (i + 1),Ba]
structure ChkOk (S:Sx) (scope:Br) (xs:List Str) (vI:List Nat):Prop where
 kind:scope.kind=.function
 dis:∀ x,(x,NameKind.free)∈scope.names->(x,NameKind.cell)∉scope.names
 names:∀ x∈scope.names,x.2=.local->scope.names.lookup x.1=some .local
 free:∀ x∈scope.names,x.2=.free->S.sc.names.lookup x.1=some .cell\/S.sc.names.lookup x.1=some .free
 capt:∀ (i:Nat) (x:Str),i < S.N.length->(AO S scope xs vI).N[i]?=some x->HK (EZ scope S.sc) x->S.N[i]?=some x/\HK S.sc x/\(x,NameKind.free)∈scope.names/\(EZ scope S.sc).names.lookup x≠some .local
 nd:(AO S scope xs vI).N.Nodup
 loc:∀ x∈xs,(EZ scope S.sc).names.lookup x=some .local\/((EZ scope S.sc).names.lookup x=some .cell/\(x,NameKind.cell)∈scope.names)
 pos:S.N.length≠0
 ms:∀ i∈S.ms,i < S.N.length
def jT {sc:Br}{x:Str} (h:HK sc x):Dm sc x=true:=by
 unfold Dm D8;rcases h with h | h | h <;> rw [h] <;> simp
def Ri {scope:Br}{xs:List Str}{vI:List Nat} (h:KQ S scope xs vI=true):ChkOk S scope xs vI:=by
 unfold KQ at h;simp only [AS,decide_eq_true_eq,jb5,bne_iff_ne,ne_eq,EN] at h;obtain ⟨⟨⟨⟨⟨⟨⟨⟨h1,h2⟩,h3⟩,h4⟩,h5⟩,h6⟩,h7⟩,h8⟩,h9⟩:=h;refine ⟨h1,λ x hx hz=>(h2 (x,.free) hx).elim (λ z=>z rfl) λ z=>?_,λ x hx he=>(h3 x hx).elim (λ z=>absurd he z) λ z=>eq_of_beq z,λ x hx he=>(h4 x hx).elim (λ z=>absurd he z) λ z=>z.elim (λ z=>.inl (eq_of_beq z)) λ z=>.inr (eq_of_beq z),λ i x hi e hv=>?_,h6,λ x hx=>(h7 x hx).imp HX λ z=>⟨HX z.1,by simpa using z.2⟩,h8,h9⟩
 ·have z':(!(scope.names.contains (x,NameKind.cell)))=true:=z
  have:scope.names.contains (x,NameKind.cell)=true:=by simpa using hz
  rw [this] at z';cases z'
 have q:=h5 i (jc4.mpr hi);rw [e] at q;dsimp only at q;rw [EN] at q;rcases q with q | q
 ·have:Dm (EZ scope S.sc) x=true:=jT hv
  have q':(!Dm (EZ scope S.sc) x)=true:=q;rw [this] at q';cases q'
 ·simp only [AS,decide_eq_true_eq,Sw] at q;obtain ⟨⟨⟨q1,q2⟩,q3⟩,q4⟩:=q;refine ⟨q1,VL q2,by simpa using q3,λ z=>?_⟩
  have:D8 (EZ scope S.sc) x .local=true:=by unfold D8;rw [z];simp
  have q4':D8 (EZ scope S.sc) x .local=false:=q4;rw [this] at q4';cases q4'
def ChkOk.comp {scope:Br}{ys:List Str}{vI:List Nat} (c:ChkOk S scope ys vI) (xs:XS X P w K mg base lvl S Wx):CompOk X scope (AO S scope ys vI).N ys.length where
 kind:=c.kind
 dis:=c.dis
 names:=c.names
 len:=by
  show (Io _ 0 S.N++ys).length=_;rw [BI,JF,xs.N]
 free:=λ x hx he=>by
  show X.env.scope.names.lookup x.1=_\/X.env.scope.names.lookup x.1=_;rw [xs.sc];exact c.free x hx he
 kinds:=λ x h=>by
  rcases h with h | h
  ·exact Pc (sc:=X.env.scope) scope.names (.inl rfl) h
  ·exact Pc (sc:=X.env.scope) scope.names (.inr rfl) h
 capt:=λ i x hi e hv=>by
  rw [P8,xs.sc] at hv ⊢;rw [xs.N] at hi ⊢;exact c.capt i x hi e hv
def ChkOk.xs {scope:Br}{ys:List Str}{vI:List Nat} (c:ChkOk S scope ys vI) (xs:XS X P w K mg base lvl S Wx) (s2:Ai) (H2:Hp) (C:Addr) (fp:List Addr) (pins:List (Addr×Obj)):XS (Bx X s2 H2 scope C (AO S scope ys vI).N fp pins) P w K mg base lvl (AO S scope ys vI) W0:=
 ⟨xs.prog,xs.w,xs.K,xs.mg,xs.base,rfl,by show Il scope X.env=_;rw [P8,xs.sc];rfl,xs.calm,xs.room,PassesOwn.never,Vv,λ h=>nomatch h⟩
def MW {scope:Br}{ys:List Str}{vI:List Nat} (i:Nat):(AO S scope ys vI).alF i=if i < S.N.length then S.alF i else if i < S.N.length + ys.length then vI else []:=by
 unfold Sx.alF AO;dsimp only;rw [AL];by_cases h:i < S.N.length
 ·rw [CF (by simpa using h),if_pos h];simp [h,Sx.alF,AL]
 ·rw [FZ (by simpa using h),if_neg h,DP];simp only [AG,DT];by_cases h2:i < S.N.length + ys.length
  ·rw [if_pos h2,if_pos (by omega)];rfl
  ·rw [if_neg h2,if_neg (by omega)];rfl
def ChkOk.ms' {scope:Br}{ys:List Str}{vI:List Nat} (c:ChkOk S scope ys vI) (m:MS M K S Wx) (hv:∀ i∈vI,S.msF i=false) (D:Addr):MS (M.comp D S.N.length vI) K (AO S scope ys vI) W0 where
 W:=rfl
 K:=m.K
 ms:=m.ms
 al:=λ i hi=>by
  rw [MW];show (if i < S.N.length then M.al i else vI)=_;have hl:(AO S scope ys vI).N.length=S.N.length + ys.length:=by
   show (Io _ 0 S.N++ys).length=_;rw [BI,JF]
  rw [hl] at hi;by_cases h:i < S.N.length
  ·rw [if_pos h,if_pos h];exact m.al i h
  ·rw [if_neg h,if_neg h,if_pos hi]
 pn:=λ p hp=>by
  have h:=m.pn p hp;show p.1 < (Io _ 0 S.N++ys).length;rw [BI,JF];omega
 als:=λ i j hj=>by
  have hj':j∈(if i < S.N.length then M.al i else vI):=hj;show M.Ms j=false;by_cases h:i < S.N.length
  ·rw [if_pos h] at hj';exact m.als i j hj'
  ·rw [if_neg h] at hj';rw [m.ms];exact hv j hj'
theorem Ig {n:Nat}{iter:Expr}{env:Env}{f:Fx}{vs:List Nat} (h:(∀ a b c,iter≠.Set a b c)):∀ x,N3 iter env x=pure x:=by
 intro x;cases iter with
 | Set a b c=>exact absurd rfl (h a b c)
 | _=>rfl
end
section
variable {X:Cx}{P:A9}{w:A7}{K:Frag}{mg:Str->Option Ad}{base:Heap}{lvl:Nat}{S:Sx}{Wx:St->Nat->Hp->Prop}{M:Fm}{f g:Fx}{vs vs':List Nat}{σ:St}{H:Hp}{Q:VK}
def jI {T:Str}{t:String} (h:Jh T=some t):t∈HC/\T∈zky/\Jc T=some (.type t)/\(T == ("__debug__" : Str))=false/\T ≠ "__name__" := by
 unfold Jh at h;split at h
 ·rename_i e;cases h;rw [e];exact ⟨by decide,by decide +kernel,rfl,by decide +kernel,by decide +kernel⟩
 ·split at h
  ·rename_i e;cases h;rw [e];exact ⟨by decide,by decide +kernel,rfl,by decide +kernel,by decide +kernel⟩
  ·split at h
   ·rename_i e;cases h;rw [e];exact ⟨by decide,by decide +kernel,rfl,by decide +kernel,by decide +kernel⟩
   ·split at h
    ·rename_i e;cases h;rw [e];exact ⟨by decide,by decide +kernel,rfl,by decide +kernel,by decide +kernel⟩
    ·split at h
     ·rename_i e;cases h;rw [e];exact ⟨by decide,by decide +kernel,rfl,by decide +kernel,by decide +kernel⟩
     ·split at h
      ·rename_i e;cases h;rw [e];exact ⟨by decide,by decide +kernel,rfl,by decide +kernel,by decide +kernel⟩
      ·cases h
def qZ {x:Str}{o:List (PV×Nat)->Option (PV×Nat)}{e:Expr}{es:List Expr}{fa:Fa}{p pos:Pos} (h:QR x=some o) (xs:XS X P w K mg base lvl S Wx) (m:MS M K S Wx) (hb:∀ x∈zky,mg x=none) (hg:S.glob x=true) (hs:(e::es).all IQ=true) (ha:PA X (e::es) (tL M fa vs)):
  PE X (.Call (.Name x p) (e::es) [] pos) (tE M (Ao o fa) vs):=by
 rw [FV,AS] at hs;have h1:AA (e::es) X.env=(false,eval e X.env)::AA es X.env:=D1 (D4 hs.1);have h2:(CH pos (AA es X.env)).any (·.1)=false:=Nf hs.2;have hm:∀ x∈zky,X.mg x=none:=λ x hx=>by rw [xs.mg];exact hb x hx
 unfold QR at h;split at h
 ·rename_i ex;cases h;subst ex;exact xN (m.k xs) (xs.gl hg) (hm _ (by decide +kernel)) ha h1 h2
 ·split at h
  ·rename_i ex;cases h;subst ex;exact qY xs.calm (xs.gl hg) (hm _ (by decide +kernel)) ha h1 h2
  ·split at h
   ·rename_i ex;cases h;subst ex;exact ju xs.calm (xs.gl hg) (hm _ (by decide +kernel)) ha h1 h2
   ·split at h
    ·rename_i ex;cases h;subst ex;exact jv xs.calm (xs.gl hg) (hm _ (by decide +kernel)) ha h1 h2
    ·split at h
     ·rename_i ex;cases h;subst ex;exact jw xs.calm (xs.gl hg) (hm _ (by decide +kernel)) ha h1 h2
     ·split at h
      ·rename_i ex;cases h;subst ex;exact jx (m.k xs) (xs.gl hg) (hm _ (by decide +kernel)) ha h1 h2
      ·split at h
       ·rename_i ex;cases h;subst ex;exact jr (m.k xs) (xs.gl hg) (hm _ (by decide +kernel)) ha h1 h2
       ·split at h
        ·rename_i ex;cases h;subst ex;exact jR (xs.gl hg) (hm _ (by decide +kernel)) ha h1 h2
        ·split at h
         ·rename_i ex;cases h;subst ex;exact xR (xs.gl hg) (hm _ (by decide +kernel)) ha h1 h2 (m.k xs)
         ·split at h
          ·rename_i ex;cases h;subst ex;exact jP (m.k xs) (xs.gl hg) (hm _ (by decide +kernel)) ha h1 h2
          ·cases h
def Gi (P:A9) (w:A7) (K:Frag) (mg:Str->Option Ad) (base:Heap) (lvl:Nat) (S:Sx) (it:Expr) (iw:Iw):Prop:=
 (∀ i∈iw.vs,S.msF i=false)/\(∀ a b c,it≠.Set a b c)/\∀ {Wx} X M,XS X P w K mg base lvl S Wx->MS M K S Wx->∀ tg,(match iw with
  | .rng en fa vs=>(en=AY/\PI X tg it (Ow (tL M fa vs)))\/(en=EA/\PI X tg it (Ox (tL M fa vs)))
  | .seq f vs=>PI X tg it (Em M.K (tE M f vs))
  | .vw v fa vs=>FJ tg (.vw v fa vs)=true->PI X tg it (SQ v M.K (tL M fa vs)))
def WL {it:Expr} (g:AM P w K mg base lvl S it f vs) (hs:∀ a b c,it≠.Set a b c):Gi P w K mg base lvl S it (.seq f vs):=
 ⟨g.1,hs,λ X M xs m tg=>by
  show PI X tg it (Em M.K (tE M f vs));rw [m.k xs];exact V0 (g.2.2 X M xs m).1⟩
def MH {d:Expr->Option D2} (hd:∀ e f vs,d e=some (f,vs)->AM P w K mg base lvl S e f vs) (hset:∀ a b c,d (.Set a b c)=none) (hb:∀ x∈zky,mg x=none) {it:Expr}{iw:Iw} (h:ES d S it=some iw):Gi P w K mg base lvl S it iw:=by
 have seq:∀ {it:Expr}{iw:Iw},(match d it with
   | some (f,vs)=>some (Iw.seq f vs)
   | none=>none)=some iw->Gi P w K mg base lvl S it iw:=λ {it iw} h=>by
  cases e:d it with
  | none=>rw [e] at h;cases h
  | some p=>
   obtain ⟨f,vs⟩:=p;rw [e] at h;cases h;exact WL (hd _ _ _ e) λ a b c z=>by rw [z,hset] at e;cases e
 unfold ES at h;split at h
 ·rename_i x p a pos;split at h
  ·rename_i hc;obtain ⟨rfl,hg⟩:=hc;split at h
   ·rename_i fa vs e;cases h;have g:=Fy hd _ _ _ e;refine ⟨λ _ z=>(nomatch z),λ _ _ _ z=>(nomatch z),λ X M xs m tg=>.inl ⟨rfl,?_⟩⟩;have hs:=g.2.1;simp only [FV,OE,Kq] at hs;exact wk (xs.gl hg) (by rw [xs.mg];exact hb _ (by decide +kernel)) (g.2.2 X M xs m) (D1 (D4 hs))
   ·cases h
  ·split at h
   ·rename_i hc;obtain ⟨rfl,hg⟩:=hc;split at h
    ·rename_i fa vs e;cases h;have g:=Fy hd _ _ _ e;refine ⟨g.1,λ _ _ _ z=>(nomatch z),λ X M xs m tg ht=>?_⟩;have hs:=g.2.1;simp only [FV,OE,Kq] at hs;rw [m.k xs];cases tg with
     | Tuple es k tp=>exact zZ (xs.gl hg) (by rw [xs.mg];exact hb _ (by decide +kernel)) (g.2.2 X M xs m) (D1 (D4 hs))
     | _=>cases ht
    ·cases h
   ·exact seq h
 ·rename_i x p a b pos;split at h
  ·rename_i hc;obtain ⟨rfl,hg⟩:=hc;split at h
   ·rename_i fa vs e;cases h;have g:=Fy hd _ _ _ e;refine ⟨λ _ z=>(nomatch z),λ _ _ _ z=>(nomatch z),λ X M xs m tg=>.inr ⟨rfl,?_⟩⟩;have hs:=g.2.1;simp only [FV,OE,Kq,AS] at hs;have s2:AA [b] X.env=[(false,eval b X.env)]:=D1 (D4 hs.2);exact wm (xs.gl hg) (by rw [xs.mg];exact hb _ (by decide +kernel)) (g.2.2 X M xs m) (by rw [D1 (D4 hs.1),s2]) s2
   ·cases h
  ·split at h
   ·rename_i hc;obtain ⟨rfl,hg⟩:=hc;split at h
    ·rename_i fa vs e;cases h;have g:=Fy hd _ _ _ e;refine ⟨g.1,λ _ _ _ z=>(nomatch z),λ X M xs m tg ht=>?_⟩;have hs:=g.2.1;simp only [FV,OE,Kq,AS] at hs;have s2:AA [b] X.env=[(false,eval b X.env)]:=D1 (D4 hs.2);rw [m.k xs];cases tg with
     | Tuple es k tp=>exact qJ (xs.gl hg) (by rw [xs.mg];exact hb _ (by decide +kernel)) (g.2.2 X M xs m) (by rw [D1 (D4 hs.1),s2]) s2
     | _=>cases ht
    ·cases h
   ·exact seq h
 ·exact seq h
def vL {σ:St}{H:Hp}{Q:Bool->Hp->Prop} (h:∃ M',MS M' K S Wx/\tT M' Bb σ H Q):Q true H:=by
 obtain ⟨M',_,ρ,fps,rep,q⟩:=h;exact q H fps KD.refl Agr.refl rep
structure CompParts (P:A9) (w:A7) (K:Frag) (mg:Str->Option Ad) (base:Heap) (lvl:Nat) (S:Sx) (scope:Br) (tg:Expr) (ys:List Str) (asg:PV->Ae->Option Ae) (it elt:Expr) (ifs:List Expr) (iw:Iw) (t:Fb) (g:Fx) (vE:List Nat):Prop where
 tga:Lr S.N.length tg=some (ys,asg)
 two:FJ tg iw=true
 chk:ChkOk S scope ys iw.vs
 iwo:Gi P w K mg base lvl S it iw
 elt:AM P w K mg base lvl (AO S scope ys iw.vs) elt g vE
 ifs:∀ {Wx} X M,XS X P w K mg base lvl (AO S scope ys iw.vs) Wx->MS M K (AO S scope ys iw.vs) Wx->GN X ifs (λ σ H Q=>∃ M',MS M' K (AO S scope ys iw.vs) Wx/\tT M' t σ H Q)
def KR {scope:Br}{tg:Expr}{ys:List Str}{asg:PV->Ae->Option Ae}{it elt:Expr}{ifs:List Expr}{iw:Iw}{t:Fb}{vE:List Nat} (c:CompParts P w K mg base lvl S scope tg ys asg it elt ifs iw t g vE):∀ i∈iw.vs++vE.filter (λ i=>decide (i < S.N.length)),S.msF i=false:=
 Gq c.iwo.1 λ i hi=>c.elt.1 i (jd3.mp hi).1
theorem XX {X':Cx}:∀ {es:List Expr}{ys:List Str}{n:Nat},ML es=some ys->X'.N.Nodup->(∀ j y,ys[j]?=some y->X'.N[n + j]?=some y)->(∀ y∈ys,E3 X'.env.scope y/\(X'.fn y=true\/X'.env.scope.names.lookup y=some .local))->K2 X' es (JV (Ko n ys.length))/\(Ew es X'.env).length=ys.length/\(Ew es X'.env).findIdx? (·.1)=none
 | [],ys,n,h,_,_,_=>by cases h;exact ⟨Wj,rfl,rfl⟩
 | e::es,ys,n,h,hN,hi,hl=>by
  unfold ML at h;split at h
  ·cases ‹_::_=[]›
  ·rename_i x px r heq;cases heq;obtain ⟨zs,h2,rfl⟩:=jc2.mp h;have hx:=hl x AF;obtain ⟨h1,h3,h4⟩:=XX (n:=n + 1) h2 hN (λ j y e=>by rw [show n + 1 + j=n + (j + 1) by omega];exact hi (j + 1) y (by simpa using e)) λ y hy=>hl y (AH _ hy);rw [Ba,Y3];refine ⟨Xg (KP hN (by have:=hi 0 x rfl;simpa using this) hx.1 hx.2) h1 rfl,by rw [Ew,Ba,h3] <;> (intros;contradiction),?_⟩;rw [Ew,YB,h4] <;> first | rfl | (intros;contradiction)
  ·cases h
def TF {scope:Br}{tg:Expr}{ys:List Str}{asg:PV->Ae->Option Ae}{pos:Pos}{it elt:Expr}{ifs:List Expr}{iw:Iw}{t:Fb}{vE:List Nat} (c:CompParts P w K mg base lvl S scope tg ys asg it elt ifs iw t g vE) (xs:XS X P w K mg base lvl S Wx) (m:MS M K S Wx):
  ∃ is gg,(∀ i∈is,S.N.length<=i)/\(∀ D,CN (M.comp D S.N.length iw.vs) iw.vs is gg asg) /\
   (∀ s2 H2 C fp pins,PG (Bx X s2 H2 scope C (AO S scope ys iw.vs).N fp pins) tg gg) /\
   (∀ s2 H2 C fp pins,GN (Bx X s2 H2 scope C (AO S scope ys iw.vs).N fp pins) ifs (λ σ H Q=>∃ M',MS M' K (AO S scope ys iw.vs) W0/\tT M' t σ H Q)) /\
   (∀ s2 H2 C fp pins,PE (Bx X s2 H2 scope C (AO S scope ys iw.vs).N fp pins) elt (λ σ H Q=>∃ M',MS M' K (AO S scope ys iw.vs) W0/\tE M' g vE σ H Q)):=by
 have hvI:=m.v c.iwo.1;have hP:∀ D,MS (M.comp D S.N.length iw.vs) K (AO S scope ys iw.vs) W0:=λ D=>c.chk.ms' m c.iwo.1 D;have hvE:∀ i∈vE,M.Ms i=false:=λ i hi=>by rw [m.ms];exact c.elt.1 i hi
 have hvo:∀ i,i∈vE->i < S.N.length->i∈iw.vs++vE.filter (λ i=>decide (i < S.N.length)):=λ i h1 h2=>BJ _ (jd3.mpr ⟨h1,by simpa using h2⟩);have hvo2:=m.v (KR c);have bd:∀ D i,S.N.length<=i->Bd (M.comp D S.N.length iw.vs) iw.vs i:=λ D i hi=>⟨by
   show M.Ms i=false;rw [m.ms];unfold Sx.msF;cases e:S.ms.contains i with
   | false=>rfl
   | true=>exact absurd (c.chk.ms _ (by simpa using e)) (by omega),⟨λ _=>by have:=c.chk.pos;omega,λ p hp=>by have:=m.pn p hp;omega⟩,if_neg (by omega),(hP D).als⟩
 have hix:∀ j y,ys[j]?=some y->(AO S scope ys iw.vs).N[S.N.length + j]?=some y:=λ j y e=>by
  show (Io _ 0 S.N++ys)[S.N.length + j]?=some y;rw [FZ (by rw [JF];omega),JF];simpa using e
 have hloc:∀ s2 H2 C fp pins,∀ y∈ys,E3 (Bx X s2 H2 scope C (AO S scope ys iw.vs).N fp pins).env.scope y/\((Bx X s2 H2 scope C (AO S scope ys iw.vs).N fp pins).fn y=true\/(Bx X s2 H2 scope C (AO S scope ys iw.vs).N fp pins).env.scope.names.lookup y=some .local):=λ s2 H2 C fp pins y hy=>by
  have e:(Bx X s2 H2 scope C (AO S scope ys iw.vs).N fp pins).env.scope=EZ scope S.sc:=by
   show Il scope X.env=_;rw [P8,xs.sc]
  rw [e];rcases c.chk.loc y hy with z | z
  ·exact ⟨.inl z,.inr z⟩
  ·exact ⟨.inr z.1,.inl (by show scope.names.contains (y,NameKind.cell)=true;simpa using z.2)⟩
 have hpe:∀ s2 H2 C fp pins,PE (Bx X s2 H2 scope C (AO S scope ys iw.vs).N fp pins) elt (λ σ H Q=>∃ M',MS M' K (AO S scope ys iw.vs) W0/\tE M' g vE σ H Q):=λ s2 H2 C fp pins pi s σ H Q I ⟨M',m',q⟩=>
  (c.elt.2.2 _ M' (c.chk.xs xs s2 H2 C fp pins) m').1 pi s σ H Q I q
 have hpt:∀ s2 H2 C fp pins,GN (Bx X s2 H2 scope C (AO S scope ys iw.vs).N fp pins) ifs (λ σ H Q=>∃ M',MS M' K (AO S scope ys iw.vs) W0/\tT M' t σ H Q):=λ s2 H2 C fp pins=>c.ifs _ (M.comp 0 S.N.length iw.vs) (c.chk.xs xs s2 H2 C fp pins) (hP 0);have tgp:∃ is gg,(∀ i∈is,S.N.length<=i)/\(∀ D,CN (M.comp D S.N.length iw.vs) iw.vs is gg asg)/\∀ s2 H2 C fp pins,PG (Bx X s2 H2 scope C (AO S scope ys iw.vs).N fp pins) tg gg:=by
  have ht:=c.tga;unfold Lr at ht;split at ht
  ·rename_i y py;cases ht;refine ⟨[S.N.length],Fe S.N.length,λ i hi=>by rw [jb7.mp hi];exact A5 _,λ D=>Rj (bd D _ (A5 _)),λ s2 H2 C fp pins=>?_⟩;exact KP c.chk.nd (hix 0 y rfl) (hloc s2 H2 C fp pins y (by simp)).1 (hloc s2 H2 C fp pins y (by simp)).2
  ·rename_i es k tp;obtain ⟨zs,h2,e⟩:=jc2.mp ht;cases e;refine ⟨Ko S.N.length ys.length,J5 M.K ys.length (JV (Ko S.N.length ys.length)),λ i hi=>(jq4.mp hi).1,λ D=>?_,λ s2 H2 C fp pins=>?_⟩
   ·have:=QN (M:=M.comp D S.N.length iw.vs) (al:=iw.vs) (is:=Ko S.N.length ys.length) λ i hi=>bd D i (jq4.mp hi).1
    rw [List.length_range'] at this;exact this
   ·obtain ⟨h1,h3,h4⟩:=XX (X':=Bx X s2 H2 scope C (AO S scope ys iw.vs).N fp pins) (n:=S.N.length) h2 c.chk.nd hix (hloc s2 H2 C fp pins)
    have:=Ry (X:=Bx X s2 H2 scope C (AO S scope ys iw.vs).N fp pins) (pos:=tp) (k:=k) xs.calm h1 h3 h4
    have e:(Bx X s2 H2 scope C (AO S scope ys iw.vs).N fp pins).K=M.K:=(m.k xs).symm;rw [e] at this;exact this
  ·cases ht
 obtain ⟨is,gg,his,hg,hpg⟩:=tgp;exact ⟨is,gg,his,hg,hpg,hpt,hpe⟩
theorem Ue {scope:Br}{tg:Expr}{ys:List Str}{asg:PV->Ae->Option Ae}{pos:Pos}{it elt:Expr}{ifs:List Expr}{iw:Iw}{t:Fb}{vE:List Nat} (c:CompParts P w K mg base lvl S scope tg ys asg it elt ifs iw t g vE) (xs:XS X P w K mg base lvl S Wx) (m:MS M K S Wx):
  ∃ wi gg,PI X tg it wi/\CompOk X scope (AO S scope ys iw.vs).N ys.length/\(∀ s2 H2 C fp pins,PG (Bx X s2 H2 scope C (AO S scope ys iw.vs).N fp pins) tg gg) /\
   (∀ s2 H2 C fp pins,GN (Bx X s2 H2 scope C (AO S scope ys iw.vs).N fp pins) ifs (λ σ H Q=>∃ M',MS M' K (AO S scope ys iw.vs) W0/\tT M' t σ H Q)) /\
   (∀ s2 H2 C fp pins,PE (Bx X s2 H2 scope C (AO S scope ys iw.vs).N fp pins) elt (λ σ H Q=>∃ M',MS M' K (AO S scope ys iw.vs) W0/\tE M' g vE σ H Q)) /\
   ∀ σ H Q,σ.length=S.N.length->tE M (L6 iw ys.length asg t g) (iw.vs++vE.filter (λ i=>decide (i < S.N.length))) σ H Q ->
    Hk ys.length wi gg (λ σ H Q=>∃ M',MS M' K (AO S scope ys iw.vs) W0/\tT M' t σ H Q) (λ σ H Q=>∃ M',MS M' K (AO S scope ys iw.vs) W0/\tE M' g vE σ H Q) σ H Q:=by
 have hvI:=m.v c.iwo.1;have hP:∀ D,MS (M.comp D S.N.length iw.vs) K (AO S scope ys iw.vs) W0:=λ D=>c.chk.ms' m c.iwo.1 D;have hvE:∀ i∈vE,M.Ms i=false:=λ i hi=>by rw [m.ms];exact c.elt.1 i hi
 have hvo:∀ i,i∈vE->i < S.N.length->i∈iw.vs++vE.filter (λ i=>decide (i < S.N.length)):=λ i h1 h2=>BJ _ (jd3.mpr ⟨h1,by simpa using h2⟩);have hvo2:=m.v (KR c);obtain ⟨is,gg,his,hg,hpg,hpt,hpe⟩:=TF (pos:=pos) c xs m;have hw:=c.iwo.2.2 X M xs m tg;have htw:=c.two;cases iw with
 | rng en fa vs=>
  rcases hw with ⟨rfl,hw⟩ | ⟨rfl,hw⟩
  ·exact ⟨_,gg,hw,c.chk.comp xs,hpg,hpt,hpe,λ σ H Q hl hq=>kY hl hP m.als hvI hvE his hg hvo hvo2 hq⟩
  ·exact ⟨_,gg,hw,c.chk.comp xs,hpg,hpt,hpe,λ σ H Q hl hq=>vF hl hP m.als hvI hvE his hg hvo hvo2 hq⟩
 | seq f vs=>exact ⟨_,gg,hw,c.chk.comp xs,hpg,hpt,hpe,λ σ H Q hl hq=>X7 hl hP m.als hvI hvE his hg hvo hvo2 hq⟩
 | vw v fa vs=>exact ⟨_,gg,hw htw,c.chk.comp xs,hpg,hpt,hpe,λ σ H Q hl hq=>vH hl hP m.als hvI hvE his hg hvo hvo2 hq⟩
def Rx {e:Expr}{t t':TE} (h:PE X e t) (i:∀ σ H Q,σ.length=X.N.length->t' σ H Q->t σ H Q):PE X e t':=λ pins s σ H Q I q=>h pins s σ H Q I (i σ H Q I.len q)
def qM {e:Stmt}{t t':TS} (h:PS X e t) (i:∀ D σ H,σ.length=X.N.length->t' D σ H->t D σ H):PS X e t':=λ pins s σ H D I q=>h pins s σ H D I (i D σ H I.len q)
def vP {scope:Br}{tg:Expr}{ys:List Str}{asg:PV->Ae->Option Ae}{pos:Pos}{it elt:Expr}{ifs:List Expr}{iw:Iw}{t:Fb}{vE:List Nat} (c:CompParts P w K mg base lvl S scope tg ys asg it elt ifs iw t g vE):AM P w K mg base lvl S (.ListComp elt [⟨tg,it,ifs,0⟩] scope pos) (L6 iw ys.length asg t g) (iw.vs++vE.filter (λ i=>decide (i < S.N.length))):=by
 refine CO (KR c) rfl (λ _ _=>rfl) λ X M xs m=>?_;obtain ⟨wi,gg,h1,h2,h3,h4,h5,h6⟩:=Ue (pos:=pos) c xs m;exact Rx (MP h2 xs.calm h1 h3 h4 h5 (Ig (n:=0) (f:=g) (vs:=[]) c.iwo.2.1)) λ σ H Q hl q=>h6 σ H Q (by rw [hl,xs.N]) q
def Pw {d:Expr->Option D2} (hd:∀ e f vs,d e=some (f,vs)->AM P w K mg base lvl S e f vs) {ifs:List Expr}{t:Fb} (h:LU d ifs=some t) (X:Cx) (M:Fm) (xs:XS X P w K mg base lvl S Wx) (m:MS M K S Wx):GN X ifs (λ σ H Q=>∃ M',MS M' K S Wx/\tT M' t σ H Q):=by
 unfold LU at h;split at h
 ·cases h;intro pins s σ H Q I q;exact jg pins s σ H Q I (vL q)
 ·obtain ⟨p,e,rfl⟩:=jc2.mp h;obtain ⟨f,vs⟩:=p;have g:=hd _ _ _ e;intro pins s σ H Q I ⟨M',m',q⟩;exact jJ (g.2.2 X M' xs m').2 pins s σ H Q I q
 ·cases h
def MI (n:Nat) (S:Sx) (a:List Expr) (b:Nat) (c:Pos):Bj n S (.Set a b c)=none:=by
 cases n <;> rfl
def Uo {e:Expr} (h:IQ e=true) (env:Env) (cpos:Pos):((CH cpos (AA [e] env)).all (λ x=>!x.1) && (backToKw cpos (keywordEach [] env)).all (λ x=>x.1.isSome)
   && decide (([e]:List Expr).length + ([]:List Keyword).length + (if ([]:List Keyword).isEmpty then 0 else 1) < 30))=true:=by
 have:AA [e] env=[(false,eval e env)]:=D1 (D4 h)
 rw [this];rfl
theorem IM (GX:GX K mg S.xc) (G:GS P w K mg base lvl S.Γ) (Gm:GP P w K mg base lvl S.Γm):∀ (n:Nat) (S':Sx) (e:Expr) (f:Fx) (vs:List Nat),S'.Γ=S.Γ->S'.Γm=S.Γm->S'.xc=S.xc->(∀ i,∀ j∈S'.alF i,S'.msF j=false)->Bj n S' e=some (f,vs)->AM P w K mg base lvl S' e f vs:=by
 intro n;induction n with
 | zero=>intro S' e f vs _ _ _ _ h;cases h
 | succ n ih=>
  intro S' e f vs hΓ hΓm hX hS h;have hd:∀ e f vs,Bj n S' e=some (f,vs)->AM P w K mg base lvl S' e f vs:=λ e f vs h=>ih S' e f vs hΓ hΓm hX hS h;replace h:Ft (Bj n) S' e=some (f,vs):=h;unfold Ft at h;split at h
  ·unfold Mv at h;split at h
   ·cases h;exact CO (λ _ z=>(nomatch z)) rfl (λ _ _=>rfl) λ X M xs m=>BB Vx λ σ H Q q=>Lg (λ K H Z=>by rw [Own];exact ⟨rfl,rfl⟩) q
   ·cases h;exact CO (λ _ z=>(nomatch z)) rfl (λ _ _=>rfl) λ X M xs m=>BB ZN λ σ H Q q=>Lg (λ K H Z=>by rw [Own];exact ⟨rfl,rfl⟩) q
   ·cases h;exact CO (λ _ z=>(nomatch z)) rfl (λ _ _=>rfl) λ X M xs m=>BB xk λ σ H Q q=>Lg (λ K H Z=>by rw [Own];exact ⟨rfl,rfl⟩) q
   ·cases h;exact CO (λ _ z=>(nomatch z)) rfl (λ _ _=>rfl) λ X M xs m=>BB xn λ σ H Q q=>Lg (λ K H Z=>by rw [Own];exact ⟨rfl,rfl⟩) q
   ·cases h
  ·split at h
   ·rename_i i hi;split at h
    ·cases h
    ·rename_i hm;cases h;refine CO (λ j hj=>?_) rfl (λ _ _=>rfl) λ X M xs m=>Rx (xs.var hi) λ σ H Q hl q=>?_
     ·rcases jc3.mp hj with z | z
      ·rw [z];simpa using hm
      ·exact hS i j z
     ·have hlt:i < S'.N.length:=by
       unfold Sx.slot at hi;split at hi
       ·exact (jb1.mp (MY hi)).1
       ·cases hi
      rw [<- m.al i hlt] at q;exact VD q
   ·cases h
  ·split at h
   ·rename_i f1 v1 f2 v2 o h1 h2 h3;cases h;have g1:=hd _ _ _ h1;have g2:=hd _ _ _ h2;exact CO (Gq g1.1 g2.1) rfl (λ _ _=>rfl) λ X M xs m=>ql h3 (m.v g1.1) (m.k xs) (g1.2.2 X M xs m).1 (g2.2.2 X M xs m).1
   ·cases h
  ·split at h
   ·rename_i c v0 f1 v1 g1 v2 h0 h1 h2;cases h;have g0:=hd _ _ _ h0;have ga:=hd _ _ _ h1;have gb:=hd _ _ _ h2;exact ⟨Gq ga.1 gb.1,rfl,λ X M xs m=>⟨xg (g0.2.2 X M xs m).2 (ga.2.2 X M xs m).1 (gb.2.2 X M xs m).1,JK (qN (g0.2.2 X M xs m).2 (ga.2.2 X M xs m).2 (gb.2.2 X M xs m).2) λ σ H Q q=>xD q⟩⟩
   ·cases h
  ·split at h
   ·split at h
    ·rename_i f1 v1 h1;cases h;have g1:=hd _ _ _ h1;exact CO g1.1 rfl (λ _ _=>rfl) λ X M xs m=>xQ (g1.2.2 X M xs m).1
    ·cases h
   ·split at h
    ·rename_i f1 v1 h1;cases h;exact kz (hd _ _ _ h1)
    ·cases h
   ·cases h
  ·rename_i op es pos;split at h
   ·have g:=Ye hd (pos:=pos) _ _ _ h;exact ⟨g.1,rfl,λ X M xs m=>⟨(g.2 X M xs m).1,(g.2 X M xs m).2.pt⟩⟩
   ·have g:=Xm hd (pos:=pos) _ _ _ h;exact ⟨g.1,rfl,λ X M xs m=>⟨(g.2 X M xs m).1,(g.2 X M xs m).2.pt⟩⟩
  ·unfold Vg at h;split at h
   ·split at h
    ·split at h
     ·rename_i f1 v1 f2 v2 o h1 h2 h3;cases h;exact ky h3 (hd _ _ _ h1) (hd _ _ _ h2)
     ·cases h
    ·cases h
   ·split at h
    ·split at h
     ·rename_i f1 v1 f2 v2 f3 v3 p q h1 h2 h3 h4 h5;cases h;exact wG h4 h5 (hd _ _ _ h1) (hd _ _ _ h2) (hd _ _ _ h3)
     ·cases h
    ·cases h
   ·cases h
  ·split at h
   ·rename_i fa v h1;cases h;have g:=Fy hd _ _ _ h1;exact CO g.1 rfl (λ _ _=>rfl) λ X M xs m=>xO (g.2.2 X M xs m)
   ·cases h
  ·split at h
   ·rename_i fa v h1;cases h;have g:=Fy hd _ _ _ h1;exact CO g.1 rfl (λ _ _=>rfl) λ X M xs m=>xS (g.2.2 X M xs m)
   ·cases h
  ·split at h
   ·split at h
    ·cases h;exact CO (λ _ z=>(nomatch z)) rfl (λ _ _=>rfl) λ X M xs m=>xf
    ·cases h
   ·cases h
  ·rename_i a b pos;unfold Vk at h;split at h
   ·rename_i lo hi st p2;unfold Vj at h;split at h
    ·split at h
     ·rename_i f1 v1 f2 v2 h1 h2;cases h;have g1:=hd _ _ _ h1;have g2:=hd _ _ _ h2;exact CO g1.1 rfl (λ _ _=>rfl) λ X M xs m=>BB (PM (qbq.or R5) (g1.2.2 X M xs m).1 W4 (MQ (g2.2.2 X M xs m).1)) λ σ H Q q=>Rb (lo:=none) (hi:=some (f2,v2)) (m.v g1.1) (m.k xs) q
     ·cases h
    ·split at h
     ·rename_i f1 v1 f2 v2 h1 h2;cases h;have g1:=hd _ _ _ h1;have g2:=hd _ _ _ h2;exact CO g1.1 rfl (λ _ _=>rfl) λ X M xs m=>BB (PM (qbq.or R5) (g1.2.2 X M xs m).1 (MQ (g2.2.2 X M xs m).1) W4) λ σ H Q q=>Rb (lo:=some (f2,v2)) (hi:=none) (m.v g1.1) (m.k xs) q
     ·cases h
    ·split at h
     ·rename_i f1 v1 f2 v2 f3 v3 h1 h2 h3;cases h;have g1:=hd _ _ _ h1;have g2:=hd _ _ _ h2;have g3:=hd _ _ _ h3;exact CO g1.1 rfl (λ _ _=>rfl) λ X M xs m=>BB (PM (qbq.or R5) (g1.2.2 X M xs m).1 (MQ (g2.2.2 X M xs m).1) (MQ (g3.2.2 X M xs m).1)) λ σ H Q q=>Rb (lo:=some (f2,v2)) (hi:=some (f3,v3)) (m.v g1.1) (m.k xs) q
     ·cases h
    ·cases h
   ·split at h
    ·rename_i x i hx hi;obtain ⟨px,rfl⟩:=LN hx;obtain ⟨k,pi,rfl⟩:=qB hi;split at h
     ·rename_i j hj;split at h
      ·cases h
      ·rename_i hm;cases h;have hlt:j < S'.N.length:=by
        unfold Sx.slot at hj;split at hj
        ·exact (jb1.mp (MY hj)).1
        ·cases hj
       have hv:∀ i∈j::S'.alF j,S'.msF i=false:=λ i hi=>by
        rcases jc3.mp hi with z | z
        ·rw [z];simpa using hm
        ·exact hS j i z
       refine CO (Gq hv λ _ z=>(nomatch z)) rfl (λ _ _=>rfl) λ X M xs m=>V5 (by have:=xs.room.units;omega) (m.v hv) (m.k xs) (P7 rfl) (BB (xs.var hj) λ σ H Q q=>?_) (BB Vx λ σ H Q q=>Lg (λ K H Z=>by rw [Own];exact ⟨rfl,rfl⟩) q);rw [<- m.al j hlt] at q;exact VD q
     ·cases h
    ·split at h
     ·rename_i f1 v1 f2 v2 h1 h2;split at h
      ·rename_i hn;cases h;have g1:=hd _ _ _ h1;have g2:=hd _ _ _ h2;exact CO (Gq g1.1 g2.1) rfl (λ _ _=>rfl) λ X M xs m=>V5 (by have:=xs.room.units;omega) (m.v g1.1) (m.k xs) (P7 hn) (g1.2.2 X M xs m).1 (g2.2.2 X M xs m).1
      ·cases h
     ·cases h
  ·rename_i fn args ks pos;split at h
   ·split at h
    ·rename_i x hfn;obtain ⟨p,rfl⟩:=LN hfn;split at h
     ·rename_i hx;subst hx;split at h
      ·rename_i e c;unfold Vh at h;split at h
       ·rename_i f1 v1 h1;split at h
        ·rename_i hgi;have g1:=hd _ _ _ h1;split at h
         ·rename_i T pT;have s2:∀ {X:Cx},AA [Expr.Name T pT] X.env=[(false,eval (.Name T pT) X.env)]:=rfl;split at h
          ·rename_i t h2;split at h
           ·rename_i hg;cases h;obtain ⟨t1,t2,t3,t4,t5⟩:=jI h2;refine CO g1.1 rfl (λ _ _=>rfl) λ X M xs m=>?_;exact xh (x:=T) t1 (m.k xs) (g1.2.2 X M xs m).1 (xs.gl hgi) (by rw [xs.mg];exact G.1 _ (by decide +kernel)) (zR (xs.gl hg) (by rw [xs.mg];exact G.1 _ t2) t3 rfl t5 t4) (by rw [D1 (D4 g1.2.1),s2]) s2
           ·cases h
          ·cases h
         ·cases h
        ·cases h
       ·cases h
      ·cases h
     ·split at h
      ·rename_i a ha;split at h
       ·rename_i f1 v1 h1;split at h
        ·rename_i hc;cases h;obtain ⟨rfl,p2,pos2,rfl⟩:=jq ha;have g1:=hd _ _ _ h1;exact CO g1.1 rfl (λ _ _=>rfl) λ X M xs m=>jS (m.k xs) xs.calm (xs.gl hc.1) (by rw [xs.mg];exact G.1 _ (by decide +kernel)) (xs.gl hc.2) (by rw [xs.mg];exact G.1 _ (by decide +kernel)) (by rw [D1 (D4 g1.2.1)];rfl) (g1.2.2 X M xs m).1
        ·cases h
       ·cases h
      split at h
      ·rename_i o ho;split at h
       ·rename_i e es;split at h
        ·rename_i fa v h1;split at h
         ·rename_i hg;cases h;have g:=Fy hd _ _ _ h1;exact CO g.1 rfl (λ _ _=>rfl) λ X M xs m=>qZ ho xs m G.1 hg g.2.1 (g.2.2 X M xs m)
         ·cases h
        ·cases h
       ·cases h
      ·split at h
       ·rename_i _ _ _ _ nn F hF;split at h
        ·rename_i e es;split at h
         ·rename_i fa v h1;split at h
          ·rename_i hg;cases h;have g:=Fy hd _ _ _ h1;rw [hΓ] at hF;obtain ⟨d1,d2,fa',fd,ps,d3,d4,d5,d6,d7⟩:=G.2 _ _ _ _ hF;refine CO g.1 rfl (λ _ _=>rfl) λ X M xs m=>?_;have hs:=g.2.1;rw [FV,AS] at hs;obtain ⟨xp,xw,xK,xm,xb,_,_,_,xr,_⟩:=id xs;subst xp xw xK xm xb;have mk:M.K=X.K:=m.K;have hps:=xs.ps;rw [<- m.W] at hps;refine BB (kE d7 xr (xs.gl hg) d3 d4 d5 hps (g.2.2 X M xs m) d1 (D1 (D4 hs.1)) (Nf hs.2)) λ σ H Q q=>?_
           have:=j5 d2 q
           rw [mk] at this;exact this
          ·cases h
         ·cases h
        ·cases h
       ·cases h
       ·cases h
    ·cases h
   ·cases h
  ·rename_i elt gs scope pos;split at h
   ·rename_i tg it ifs hgs;have hgs:=VX hgs;subst hgs;split at h
    rotate_left
    ·cases h
    rename_i ys asg iw ht hi;split at h
    ·rename_i hc;split at h
     ·rename_i t g vE h1 h2;cases h;have ck:=Ri hc.1;have giw:=MH hd (MI n S') G.1 hi;have hS2:∀ i,∀ j∈(AO S' scope ys iw.vs).alF i,(AO S' scope ys iw.vs).msF j=false:=λ i j hj=>by
       rw [MW] at hj;show S'.msF j=false;split at hj
       ·exact hS i j hj
       ·split at hj
        ·exact giw.1 j hj
        ·cases hj
      have hd2:∀ e f vs,Bj n (AO S' scope ys iw.vs) e=some (f,vs)->AM P w K mg base lvl (AO S' scope ys iw.vs) e f vs:=λ e f vs h=>ih _ e f vs hΓ hΓm hX hS2 h;exact vP ⟨ht,hc.2,ck,giw,hd2 _ _ _ h2,Pw hd2 h1⟩
     ·cases h
    ·cases h
   ·cases h
  ·cases h
end
section
variable {is:List Nat}{M:Fm}{ρ ρ':Ae}{σ σ':St}{H H' H'':Hp}{fps fps' fps'':AN}{vs vs':List Nat}
def FN:Fs:=λ _=>.no
def UX {t:TS}{D:Ends} (hq:tS M FN D σ H):t D σ H:=by
 obtain ⟨ρ,fps,rep,q⟩:=hq;exact q.elim
def Cp (asg:PV->Ae->Option Ae) (f:Fx) (vs:List Nat):Fs:=λ ρ=>match f ρ with
 | .ok (x,d,ρ1)=>(match asg x (AZ d vs ρ1) with
  | some ρ2=>.nx ρ2
  | none=>.no)
 | .exc c=>.exc c
 | .no=>.no
theorem xB {g:TG}{asg:PV->Ae->Option Ae}{f:Fx}{D:Ends} (hal:∀ i,M.al i=[]) (hv:∀ i∈vs,M.Ms i=false) (hg:CN M [] is g asg) (hq:tS M (Cp asg f vs) D σ H):EI (tE M f vs) g D σ H:=by
 obtain ⟨ρ,fps,rep,q⟩:=hq;refine ⟨ρ,fps,rep,?_⟩;unfold Cp at q;cases ef:f ρ with
 | no=>rw [ef] at q;exact q
 | exc c=>rw [ef] at q;exact λ H' fps' k=>q _ H' fps' k.ks
 | ok p=>
  obtain ⟨x,d,ρ1⟩:=p;rw [ef] at q;intro v H1 fps1 f1 k1 g1 rep1 o1 t1;obtain ⟨fps2,k2,r2,o2⟩:=Rep.seen rep k1 g1 rep1 o1 t1 hal hv;dsimp only at q;cases ea:asg x (AZ d vs ρ1) with
  | none=>rw [ea] at q;exact q.elim
  | some ρ2=>
   rw [ea] at q;refine hg x v _ σ H1 fps2 ρ2 _ r2 (o2.weak λ a h=>h.zf) ea λ σ' fps' s1 _ _ r'=>q σ' H1 fps' (k2.trans ⟨λ _ _ h _=>h,λ _ h=>h,λ j a ha=>.inl ⟨j,s1 j a ha⟩⟩) r'
def Rep.change {i:Nat}{x x':PV}{d d':Nat}{v:V}{f':List Addr} (hal:∀ i,M.al i=[]) (r:Rep M ρ σ H fps) (hi:ρ[i]?=some (some (x,d))) (hσ:σ[i]?=some (some v)) (k:D0 (λ a=>a∈fps i) H H') (dm:∀ a,H a≠none->H' a≠none) (hs:∀ b∈f',b∈fps i)
  (hm:M.Ms i=true->d'=om) (o:Own M.K H' (Zf M (λ j=>if j=i then f' else fps j)) x' d' v f'):Rep M (ρ.set i (some (x',d'))) σ H' (λ j=>if j=i then f' else fps j):=by
 have hlen:i < ρ.length:=(jb1.mp hi).1;have inI:∀ j,∀ b∈(if j=i then f' else fps j),b∈fps j:=λ j b hb=>by
  by_cases e:j=i
  ·rw [if_pos e] at hb;rw [e];exact hs b hb
  ·rw [if_neg e] at hb;exact hb
 refine ⟨λ j y c hj=>?_,λ j hj=>?_,λ j k hjk b hb hc=>r.dj j k hjk b (inI j b hb) (inI k b hc),λ j b hb z=>r.zo j b (inI j b hb) z,λ j hj b hb=>r.fr j hj b (inI j b hb),λ b z=>dm b (r.zd b z),by rw [DN];exact r.len,λ j y c hj hc=>?_,λ b z=>dm b (r.h0 b z),r.iov⟩
 ·by_cases ej:j=i
  ·subst ej;rw [DU hlen] at hj;cases hj;refine ⟨v,hσ,?_⟩;rw [if_pos rfl];exact o.weak λ a h=>h.zf
  ·rw [CV (Cb ej)] at hj;obtain ⟨u,hu,ou⟩:=r.own j y c hj;refine ⟨u,hu,?_⟩;rw [if_neg ej];refine Own.move (S:=λ a=>a∈fps i) k (λ a ha=>⟨.inr ⟨i,(by rw [hal j];intro z;cases z),ha⟩,r.lsts ha⟩) (λ a _ nz z=>nz ?_) y c u (fps j) (λ a ha z=>r.dj j i ej a ha z) ou;rcases z with z | ⟨l,nl,z⟩
   ·exact .inl z
   ·exact .inr ⟨l,nl,inI l a z⟩
 ·by_cases ej:j=i
  ·subst ej;exact absurd (DU hlen) (hj (x',d'))
  ·rw [if_neg ej];exact r.non j λ p hp=>hj p (by rw [CV (Cb ej)];exact hp)
 ·by_cases ej:j=i
  ·subst ej;rw [DU hlen] at hc;cases hc;exact hm hj
  ·rw [CV (Cb ej)] at hc;exact r.msf j y c hj hc
def Du (i:Nat) (f:Fx) (vs:List Nat):Fs:=λ ρ=>match ρ[i]? with
 | some (some (.lst _,0))=>.no
 | some (some (.lst _,_ + 1))=>(match f ρ with
  | .ok (.lst ys,e,ρ1)=>(match (AZ e vs ρ1)[i]? with
   | some (some (.lst xs,d))=>if d≠0/\xs.length + ys.length<=A0 then .nx ((AZ e vs ρ1).set i (some (.lst (xs++ys),1))) else .no
   | _=>.no)
  | .ok _=>.no
  | .exc c=>.exc c
  | .no=>.no)
 | _=>.no
def x8 {f:Fx}{i:Nat}{D:Ends} (hal:∀ i,M.al i=[]) (hv:∀ i∈vs,M.Ms i=false) (hm:M.Ms i=false) (hq:tS M (Du i f vs) D σ H):Ov (Q6 M.K "list" W8 (Dq i) (Ou (tE M f vs) Hv)) D σ H:=by
 obtain ⟨ρ,fps,rep,q⟩:=hq;unfold Du at q;split at q
 ·exact q.elim
 ·rename_i xs0 d0 e0;obtain ⟨v,hσ,o⟩:=rep.own0 hal i _ _ e0;obtain ⟨a,ws0,fc0,rfl,ha0,hfp0,_,_⟩:=o.list (Y6 _);refine ⟨_,hσ,WH (.inl (.inl ha0)),ρ,fps,rep,?_⟩;cases ef:f ρ with
  | no=>rw [ef] at q;exact q
  | exc c=>rw [ef] at q;exact λ H' fps' k=>q _ H' fps' k.ks
  | ok p=>
   obtain ⟨y,e,ρ1⟩:=p;rw [ef] at q;cases y with
   | lst ys=>
    intro w H1 fps1 fp k1 g1 rep1 o1 t1;dsimp only at q;split at q
    ·rename_i xs d es;split at q
     ·rename_i hc;obtain ⟨fps2,k2,r2,o2,n2,s2,h2⟩:=Rep.behind rep k1 g1 rep1 o1 t1 hal hv;obtain ⟨v',hσ',ol⟩:=r2.own0 hal i _ _ es;rw [hσ] at hσ';cases hσ';obtain ⟨a',ws,fc,ev,ha,hfp,nac,hol⟩:=ol.list hc.1;cases ev;have hai:a∈fps2 i:=by rw [hfp];exact AF
      have hafp:a∉fp:=λ z=>n2 a z (.inr ⟨i,hai⟩);have hst:∃ j,a∈fps j:=⟨i,by have:=s2 i a hai;rw [k1.same i hm] at this;exact this⟩
      have zsub:∀ b,Zf M (λ j=>if j=i then [a] else fps2 j) b->Zf (M.plus fp) fps2 b:=λ b h=>by
       rcases h with z | ⟨j,z⟩
       ·exact .inl (.inl z)
       ·by_cases ej:j=i
        ·simp only [if_pos ej] at z;rw [jb7.mp z];exact .inr ⟨i,hai⟩
        ·simp only [if_neg ej] at z;exact .inr ⟨j,z⟩
      have nf:∀ b∈fc,¬ Zf M (λ j=>if j=i then [a] else fps2 j) b:=λ b hb z=>by
       have hbi:b∈fps2 i:=by rw [hfp];exact AH _ hb
       rcases z with z | ⟨j,z⟩
       ·exact r2.zo i b hbi (.inl z)
       ·by_cases ej:j=i
        ·simp only [if_pos ej] at z;rw [jb7.mp z] at hb;exact nac hb
        ·simp only [if_neg ej] at z;exact r2.dj i j (Cb ej) b hbi z
      have nfp:∀ b∈fp,¬ Zf M (λ j=>if j=i then [a] else fps2 j) b:=λ b hb z=>by
       rcases z with z | ⟨j,z⟩
       ·exact n2 b hb (.inl z)
       ·by_cases ej:j=i
        ·simp only [if_pos ej] at z;rw [jb7.mp z] at hb;exact hafp hb
        ·simp only [if_neg ej] at z;exact n2 b hb (.inr ⟨j,z⟩)
      have za:Zf M (λ j=>if j=i then [a] else fps2 j) a:=.inr ⟨i,by simp⟩;have u1:=(OwnL.freeze (Z':=Zf M (λ j=>if j=i then [a] else fps2 j)) zsub xs _ ws fc nf hol)
      have u2:=(Own.freeze (Z':=Zf M (λ j=>if j=i then [a] else fps2 j)) (λ b h=>by
       rcases h with z | ⟨j,z⟩
       ·exact .inl (.inl z)
       ·by_cases ej:j=i
        ·simp only [if_pos ej] at z;rw [jb7.mp z];exact .inl (.inr ⟨i,hai⟩)
        ·simp only [if_neg ej] at z;exact .inl (.inr ⟨j,z⟩)) (.lst ys) _ w fp nfp o2)
      obtain ⟨b,us,rfl,hb,u3⟩:=u2.coldL;refine ⟨a,b,ws,us,rfl,rfl,ha,hb,by rw [hol.length,u3.length];exact hc.2,?_⟩;refine q σ _ _ (k2.write (i:=i) (f':=[]) (fp:=fp) hst λ b hb=>?_) (r2.rewrite hal es hσ ha hfp (λ z=>nomatch z) (λ b hb=>nomatch hb) (by decide) (λ h=>by rw [hm] at h;cases h) h2 ?_)
      ·rcases jc3.mp hb with z | z
       ·exact .inl (by rw [z];exact hai)
       ·cases z
      ·rw [LP];exact OwnL.append0 (u3.at za ⟨.l ws,ha⟩ (λ z=>nomatch z) λ _ _ n=>n) (u1.at za ⟨.l ws,ha⟩ (λ z=>nomatch z) λ _ _ n=>n)
     ·exact q.elim
    ·exact q.elim
   | _=>exact q.elim
 ·exact q.elim
def Dv (g:Int->Int->Int) (sd:Bool) (i:Nat) (f:Fx):Fs:=λ ρ=>match ρ[i]? with
 | some (some (.int a,_))=>(match f ρ with
  | .ok (.int b,_,ρ1)=>if i < ρ1.length then .nx (ρ1.set i (some (.int (g a b),om))) else .no
  | .ok _=>.no
  | .exc c=>.exc c
  | .no=>.no)
 | some (some (.str a,_))=>(match f ρ with
  | .ok (.str b,_,ρ1)=>if i < ρ1.length/\sd=true/\a.length + b.length<=A0 then .nx (ρ1.set i (some (.str (a++b),om))) else .no
  | .ok _=>.no
  | .exc c=>.exc c
  | .no=>.no)
 | _=>.no
def OT (g:Int->Int->Int) (sd:Bool):JA:=λ x y H Q=>Mq g x y H Q\/(sd=true/\∃ i j,x=.str i/\y=.str j/\i.length + j.length<=A0/\Q (.str (i++j)) H)
def z9 {X:Cx}:I0 X .Add (OT (λ i j=>i + j) true):=by
 intro pins s σ H x y v u Q I rx ry h;rcases h with h | ⟨_,h⟩
 ·exact Vn pins s σ H x y v u Q I rx ry h
 ·exact yg pins s σ H x y v u Q I rx ry h
def jh {X:Cx}:I0 X .Sub (OT (λ i j=>i - j) false):=by
 intro pins s σ H x y v u Q I rx ry h;rcases h with h | ⟨z,_⟩
 ·exact Vo pins s σ H x y v u Q I rx ry h
 ·cases z
def x6 {g:Int->Int->Int}{sd:Bool}{f:Fx}{i:Nat}{D:Ends} (hal:∀ i,M.al i=[]) (hm:M.Ms i=false) (hio:M.Fre i) (hq:tS M (Dv g sd i f) D σ H):Lx i (tE M f vs) (OT g sd) D σ H:=by
 obtain ⟨ρ,fps,rep,q⟩:=hq;unfold Dv at q;split at q
 ·rename_i a d0 e0;obtain ⟨v,hσ,o⟩:=rep.own0 hal i _ _ e0;rw [Own] at o;obtain ⟨rfl,_⟩:=o;refine ⟨_,hσ,ρ,fps,rep,?_⟩;cases ef:f ρ with
  | no=>rw [ef] at q;exact q
  | exc c=>rw [ef] at q;exact λ H' fps' k=>q _ H' fps' k.ks
  | ok p=>
   obtain ⟨y,e,ρ1⟩:=p;rw [ef] at q;cases y with
   | int b=>
    intro w H1 fps1 fp k1 g1 rep1 o1 t1;rw [Own] at o1;obtain ⟨rfl,_⟩:=o1;refine .inl ⟨a,b,rfl,rfl,?_⟩;dsimp only at q;split at q
    ·rename_i hl;have bd:Bd M [] i:=⟨hm,hio,hal i,λ i j hj=>by rw [hal i] at hj;cases hj⟩
     have r2:=rep1.bind1 (y:=.int (g a b)) (v:=.int (g a b)) (al:=[]) (by rw [Own];exact ⟨rfl,rfl⟩) hl bd;refine q _ H1 _ (k1.ks.trans ⟨λ _ _ h _=>h,λ _ h=>h,λ j b hb=>.inl ⟨j,?_⟩⟩) r2;by_cases ej:j=i
     ·simp only [if_pos ej] at hb;cases hb
     ·simp only [if_neg ej] at hb;exact hb
    ·exact q.elim
   | _=>exact q.elim
 ·rename_i a d0 e0;obtain ⟨v,hσ,o⟩:=rep.own0 hal i _ _ e0;rw [Own] at o;obtain ⟨rfl,_⟩:=o;refine ⟨_,hσ,ρ,fps,rep,?_⟩;cases ef:f ρ with
  | no=>rw [ef] at q;exact q
  | exc c=>rw [ef] at q;exact λ H' fps' k=>q _ H' fps' k.ks
  | ok p=>
   obtain ⟨y,e,ρ1⟩:=p;rw [ef] at q;cases y with
   | str b=>
    intro w H1 fps1 fp k1 g1 rep1 o1 t1;rw [Own] at o1;obtain ⟨rfl,_⟩:=o1;dsimp only at q;split at q
    ·rename_i hl;refine .inr ⟨hl.2.1,a,b,rfl,rfl,hl.2.2,?_⟩;have bd:Bd M [] i:=⟨hm,hio,hal i,λ i j hj=>by rw [hal i] at hj;cases hj⟩
     have r2:=rep1.bind1 (y:=.str (a++b)) (v:=.str (a++b)) (al:=[]) (by rw [Own];exact ⟨rfl,rfl⟩) hl.1 bd;refine q _ H1 _ (k1.ks.trans ⟨λ _ _ h _=>h,λ _ h=>h,λ j b hb=>.inl ⟨j,?_⟩⟩) r2;by_cases ej:j=i
     ·simp only [if_pos ej] at hb;cases hb
     ·simp only [if_neg ej] at hb;exact hb
    ·exact q.elim
   | _=>exact q.elim
 ·exact q.elim
end
def kr {X:Cx}:Mw X (Hw X.K):=by
 intro pins s σ H o i ov iv Q I rx ry h;obtain ⟨p,xs,k,z,rfl,rfl,hq,he,q⟩:=h;cases rx;obtain ⟨t,rfl⟩:=ry;obtain ⟨its,r,pl,hz⟩:=I.list hq;obtain ⟨j,h1,h2,h3,h4,h5⟩:=MD he;obtain ⟨w,ew,rw'⟩:=r.get h2;have hl:=r.length;have hn:=IP;have fin:EP X pins σ Q w s:=⟨z,H,I,rw',q⟩
 by_cases h0:0<=k
 ·have hj:k.toNat=j:=by
   rw [Nl h0 h5] at h1;exact Option.some.inj h1
  exact wpAny_getItem_list pl.isList h0 (by omega) (by rw [hj];simpa using ew) fin
 ·have hj:(k + (its.toArray.size:Int)).toNat=j:=by
   rw [seqIndex_neg (by omega) h4] at h1;rw [BZ,<- hl];exact Option.some.inj h1
  exact wpAny_getItem_list_neg pl.isList (by omega) (by rw [BZ] <;> omega) (by omega) (by rw [hj];simpa using ew) fin
section
variable {M:Fm}{ρ ρ':Ae}{σ σ':St}{H H' H'':Hp}{fps fps' fps'':AN}{vs vs':List Nat}
end
section
variable {is:List Nat}{M:Fm}{ρ ρ':Ae}{σ σ':St}{H H' H'':Hp}{fps fps' fps'':AN}{vs vs':List Nat}{D:Ends}
end
section
variable {is:List Nat}{M:Fm}{ρ ρ':Ae}{σ σ':St}{H H' H'':Hp}{fps fps' fps'':AN}{vs vs':List Nat}{D:Ends}
end
section
variable {is:List Nat}{X:Cx}{M:Fm}{ρ ρ':Ae}{σ σ':St}{H H' H'':Hp}{fps fps' fps'':AN}{vs vs':List Nat}{D:Ends}
def UM:EU:=λ o i v H Q=>∃ a H',o=.ref a/\DPut H a i v H'/\Q H'
def qm (hu:X.A.units + 1 < Df):HL X UM:=by
 intro pins s σ H o i v ov iv u Q I ro ri rv h;obtain ⟨a,H',rfl,g,q⟩:=h;obtain rfl:ov=Value.ref a:=ro;exact vY hu I g ri rv λ s' I'=>⟨H',I',q⟩
def Hh (k:List Av) (y:PV):List (List Av)->List PV->List PV
 | k'::ks,x::xs=>(if k'=k then y else x)::Hh k y ks xs
 | _,_=>[]
def ER (ks:List (List Av)) (k:List Av):Bool:=ks.any λ k'=>decide (k'=k)
def GR (ks:List (List Av)) (xs:List PV) (k:List Av) (y:PV):PV:=if ER ks k=true then .dcl ks (Hh k y ks xs) else .dcl (ks++[k]) (xs++[y])
def UC:PV->Option (List (List Av)×List PV)
 | .dct []=>some ([],[])
 | .dcl ks xs=>some (ks,xs)
 | _=>none
theorem XM {K:Frag}{Z:Addr->Prop}{k:List Av}{y:PV}{w:V} (hy:Own K H Z y 0 w []):∀ {ks:List (List Av)}{xs:List PV}{ws:List V},OwnL K H Z xs 0 ws []->ks.length=xs.length->∃ ws',(ks.zip ws).map (λ kv=>if kv.1=k then (kv.1,w) else kv)=ks.zip ws'/\OwnL K H Z (Hh k y ks xs) 0 ws' []/\(Hh k y ks xs).length=ks.length
 | [],[],ws,h,_=>⟨[],rfl,by unfold Hh;rw [OwnL];exact ⟨rfl,rfl⟩,rfl⟩
 | [],_::_,ws,h,e=>by cases e
 | _::_,[],ws,h,e=>by cases e
 | k'::ks,x::xs,ws,h,e=>by
  rw [OwnL] at h;obtain ⟨v,s,f1,f2,rfl,ef,_,o1,o2⟩:=h;obtain ⟨rfl,rfl⟩:f1=[]/\f2=[]:=by simpa using ef.symm
  obtain ⟨ws',e1,o3,e3⟩:=XM hy (k:=k) o2 (by simpa using e);refine ⟨(if k'=k then w else v)::ws',?_,?_,by unfold Hh;rw [Ba,e3,Ba]⟩
  ·rw [Ky,AR,e1,Ky];congr 1;dsimp only;split <;> rfl
  ·unfold Hh;rw [OwnL];refine ⟨_,_,[],[],rfl,rfl,λ _ z=>(nomatch z),?_,o3⟩;split
   ·exact hy
   ·exact o1
theorem WJ {k:List Av}:∀ {ks:List (List Av)}{ws:List V},ks.length=ws.length->((ks.zip ws).any λ kv=>decide (kv.1=k))=ER ks k
 | [],[],_=>rfl
 | [],_::_,e=>by cases e
 | _::_,[],e=>by cases e
 | k'::ks,w::ws,e=>by
  have:=WJ (k:=k) (ks:=ks) (ws:=ws) (by simpa using e)
  unfold ER at this ⊢;rw [Ky,Md,Md,this]
def wZ {K:Frag}{Z:Addr->Prop}{k:List Av}{y:PV}{w:V}{ks:List (List Av)}{xs:List PV}{ws:List V} (hy:Own K H Z y 0 w []) (h:OwnL K H Z xs 0 ws []) (e:ks.length=xs.length):∃ ks' xs' ws',GR ks xs k y=.dcl ks' xs'/\Cq (ks.zip ws) k w=ks'.zip ws'/\OwnL K H Z xs' 0 ws' []/\ks'.length=xs'.length:=by
 unfold GR Cq;rw [WJ (by rw [e,h.length])];by_cases hk:ER ks k=true
 ·rw [if_pos hk,if_pos hk];obtain ⟨ws',e1,o1,e2⟩:=XM hy (k:=k) h e;exact ⟨ks,_,ws',rfl,e1,o1,e2.symm⟩
 ·rw [if_neg hk,if_neg hk];refine ⟨_,_,ws++[w],rfl,?_,?_,by rw [BI,BI,e];rfl⟩
  ·rw [List.zip_append (by rw [e,h.length])];rfl
  ·have:=h.snoc hy (λ _ z=>nomatch z)
   exact this
def Ep (i:Nat) (fk f:Fx):Fs:=λ ρ=>match f ρ with
 | .ok (y,e,ρ1)=>(match ρ1[i]? with
  | some (some _)=>(match fk ρ1 with
   | .ok (k,_,ρ2)=>(match ρ2[i]? with
    | some (some (x,d))=>(match UC x,k with
      | some (ks,xs),.tup key=>(match Ct key with
       | some kk=>if d≠0/\e=om/\ks.length < A0 then .nx (ρ2.set i (some (GR ks xs kk y,1))) else .no
       | none=>.no)
      | _,_=>.no)
    | _=>.no)
   | _=>.no)
  | _=>.no)
 | .exc c=>.exc c
 | .no=>.no
theorem jC {f fk:Fx}{vk:List Nat}{i:Nat} (hal:∀ i,M.al i=[]) (hm:M.Ms i=false) (hv:∀ i∈vs,M.Ms i=false) (hq:tS M (Ep i fk f) D σ H):EI (tE M f vs) (Mr (Dq i) (tE M fk vk) UM) D σ H:=by
 obtain ⟨ρ,fps,rep,q⟩:=hq;refine ⟨ρ,fps,rep,?_⟩;unfold Ep at q;cases ef:f ρ with
 | no=>rw [ef] at q;exact q
 | exc c=>rw [ef] at q;exact λ H' fps' k=>q _ H' fps' k.ks
 | ok p=>
  obtain ⟨y,e,ρ1⟩:=p;rw [ef] at q;intro w H1 fps1 fp k1 g1 rep1 o1 t1;dsimp only at q;cases e1:ρ1[i]? with
  | none=>rw [e1] at q;exact q.elim
  | some s1=>
   rw [e1] at q;cases s1 with
   | none=>exact q.elim
   | some p1=>
   obtain ⟨x1,d1⟩:=p1;dsimp only at q;obtain ⟨v0,hσ,_⟩:=rep1.own i _ _ e1;refine ⟨v0,hσ,ρ1,fps1,rep1,?_⟩;cases ek:fk ρ1 with
   | no=>rw [ek] at q;exact q.elim
   | exc c=>rw [ek] at q;exact q.elim
   | ok p2=>
    obtain ⟨k,ek',ρ2⟩:=p2;rw [ek] at q;intro kv H2 fps2 f2 k2 g2 rep2 o2 t2;dsimp only at q;cases e2:ρ2[i]? with
    | none=>rw [e2] at q;exact q.elim
    | some s2=>
     rw [e2] at q;cases s2 with
     | none=>exact q.elim
     | some p3=>
      obtain ⟨x,d⟩:=p3;dsimp only at q;split at q
      ·rename_i ks xs key ekv;split at q
       ·rename_i kk ekk;split at q
        ·rename_i hc;obtain ⟨hd,rfl,hlk⟩:=hc;obtain ⟨v1,hσ1,ox⟩:=rep2.own0 hal i _ _ e2;rw [hσ] at hσ1;cases hσ1;have hx:∃ a ws fc,v0=.ref a/\H2 a=some (.dT (ks.zip ws))/\fps2 i=a::fc/\a∉fc/\ks.length=xs.length/\OwnL M.K H2 (Zf M fps2) xs (pd d) ws fc:=by
          unfold UC at ekv;split at ekv
          ·cases ekv;rw [Own] at ox;obtain ⟨a,ea,⟨d0,_⟩ | ⟨_,ha,hf⟩⟩:=ox
           ·exact absurd d0 hd
           ·exact ⟨a,[],[],ea,ha,hf,HA,rfl,by rw [OwnL];exact ⟨rfl,rfl⟩⟩
          ·cases ekv;rw [Own] at ox;obtain ⟨a,ws,ea,en,⟨d0,_⟩ | ⟨_,fc,ha,hf,na,ol⟩⟩:=ox
           ·exact absurd d0 hd
           ·exact ⟨a,ws,fc,ea,ha,hf,na,en,ol⟩
          ·cases ekv
         obtain ⟨a,ws,fc,rfl,ha,hfp,nac,en,hol⟩:=hx;rw [Own] at o2;obtain ⟨kb,us,rfl,hkb,okey⟩:=o2
         have:=JM ekk okey
         subst this;have hai:a∈fps2 i:=by rw [hfp];exact AF
         have oy:=k2.stay rep1 hv o1 t1.ndj;have n2:∀ b∈fp,¬ Zf M fps2 b:=λ b hb z=>by
          rcases z with z | ⟨j,z⟩
          ·exact t1.ndj b hb (.inl z)
          ·rcases k2.sub j b z with z | z
           ·exact t1.ndj b hb (.inr ⟨j,z⟩)
           ·obtain ⟨o,ho⟩:=Own.lsts y _ w fp o1 b hb;rw [ho] at z;cases z
         have hafp:a∉fp:=λ z=>n2 a z (.inr ⟨i,hai⟩);have hst:∃ j,a∈fps j:=⟨i,by have:=(k1.trans k2).same i hm;rw [<- this];exact hai⟩
         let Z:Addr->Prop:=Zf M (λ j=>if j=i then [a] else fps2 j);have zsub:∀ b,Z b->Zf M fps2 b:=λ b h=>by
          rcases h with z | ⟨j,z⟩
          ·exact .inl z
          ·by_cases ej:j=i
           ·simp only [if_pos ej] at z;rw [jb7.mp z];exact .inr ⟨i,hai⟩
           ·simp only [if_neg ej] at z;exact .inr ⟨j,z⟩
         have nf:∀ b∈fc,¬ Z b:=λ b hb z=>by
          have hbi:b∈fps2 i:=by rw [hfp];exact AH _ hb
          rcases z with z | ⟨j,z⟩
          ·exact rep2.zo i b hbi z
          ·by_cases ej:j=i
           ·simp only [if_pos ej] at z;rw [jb7.mp z] at hb;exact nac hb
           ·simp only [if_neg ej] at z;exact rep2.dj i j (Cb ej) b hbi z
         have za:Z a:=.inr ⟨i,by simp⟩;have u1:=OwnL.freeze (Z':=Z) zsub xs _ ws fc nf hol;have u2:=Own.freeze (Z':=Z) (λ b _=>trivial) y _ w fp (λ b hb z=>n2 b hb (zsub b z)) (Own.full (Z':=λ _=>True) y w fp oy);obtain ⟨ks',xs',ws',ex',ew',ox',en'⟩:=wZ (k:=kk) u2 u1 en;have u3:=ox'.at (o:=.dT (Cq (ks.zip ws) kk w)) za ⟨.d (ks.zip ws),ha⟩ (λ z=>nomatch z) λ _ _ n=>n;rw [ex'] at q;have hzl:(ks.zip ws).length < A0:=by rw [Jy];have:=OK ks.length ws.length;omega
         refine ⟨a,_,rfl,DPut.t ha hkb hzl,?_⟩;refine q σ _ _ ((k1.ks.trans k2.ks).write (i:=i) (f':=[]) (fp:=fp) hst λ b hb=>?_) (rep2.change (x':=.dcl ks' xs') (d':=1) (f':=[a]) hal e2 hσ (λ b u hb n=>by rw [A8 (λ z=>n (by rw [z];exact hai))];exact hb) (λ b hb=>?_) (λ b hb=>by rw [jb7.mp hb];exact hai) (λ h=>by rw [hm] at h;cases h) ?_)
         ·rcases jc3.mp hb with z | z
          ·exact .inl (by rw [z];exact hai)
          ·cases z
         ·by_cases eb:b=a
          ·rw [eb,AV];simp
          ·rw [A8 eb];exact hb
         ·rw [Own];exact ⟨a,ws',rfl,en',.inr ⟨by decide,[],by rw [AV,ew'],rfl,HA,u3⟩⟩
        ·exact q.elim
       ·exact q.elim
      ·exact q.elim
end
def Jr (c:Fb) (b:Fs):Nat->Fs
 | 0,_=>.no
 | n + 1,ρ=>match c ρ with
  | .ok (true,ρ1)=>(match b ρ1 with
   | .nx ρ2=>Jr c b n ρ2
   | .ct ρ2=>Jr c b n ρ2
   | .bk ρ2=>.nx ρ2
   | .rt x d ρ2=>.rt x d ρ2
   | .exc e=>.exc e
   | .no=>.no)
  | .ok (false,ρ1)=>.nx ρ1
  | .exc e=>.exc e
  | .no=>.no
def V4 (c:Fb) (b:Fs):Fs:=Jr c b 300
theorem vK {M:Fm}{c:Fb}{b:Fs}{n:Nat}{D:Ends}{σ:St}{H:Hp} (hq:tS M (Jr c b n) D σ H):VG (tT M c) (tS M b) D σ H:=by
 refine ⟨λ m σ H=>tS M (Jr c b m) D σ H,⟨n,hq⟩,?_⟩;rintro m σ H ⟨ρ,fps,rep,q⟩;cases m with
 | zero=>exact q.elim
 | succ m=>
  unfold Jr at q;refine ⟨ρ,fps,rep,?_⟩;cases ec:c ρ with
  | no=>rw [ec] at q;exact q
  | exc x=>rw [ec] at q;exact λ H' fps' k=>q _ H' fps' k.ks
  | ok p=>
   obtain ⟨bb,ρ1⟩:=p;rw [ec] at q;intro H1 fps1 k1 g1 rep1;cases bb with
   | false=>
    rw [if_neg Ck];exact q σ H1 fps1 k1.ks rep1
   | true=>
    rw [if_pos rfl];refine ⟨λ σ H=>tS M (Jr c b m) D σ H,λ σ' H' w=>⟨m,Kv m,w⟩,ρ1,fps1,rep1,?_⟩;dsimp only at q;have q:=RsOk.from k1.ks q;cases eb:b ρ1 with
    | no=>rw [eb] at q;exact q
    | exc x=>rw [eb] at q;exact q
    | rt x d ρ2=>rw [eb] at q;exact q
    | bk ρ2=>rw [eb] at q;exact q
    | nx ρ2=>rw [eb] at q;exact λ σ' H' fps' k r'=>⟨ρ2,fps',r',RsOk.from k q⟩
    | ct ρ2=>rw [eb] at q;exact λ σ' H' fps' k r'=>⟨ρ2,fps',r',RsOk.from k q⟩
section
variable {M:Fm}{ρ ρ':Ae}{σ σ':St}{H H':Hp}{fps fps':AN}{F F':Addr->Prop}{P P':List (Nat×V)}
end
section
variable {X:Cx}{M:Fm}{ρ:Ae}{σ:St}{H:Hp}{fps:AN}
end
section
variable {X:Cx}{M:Fm}{ρ:Ae}{σ:St}{H H':Hp}{fps:AN}{vs:List Nat}{fa:Fa}{Q:VK}{F:List Addr}{e:Expr}{es:List Expr}{p pos:Pos}
def Jq (g:Int->Int->Int) (i:Nat) (fj f:Fx):Fs:=λ ρ=>match ρ[i]?,fj ρ with
 | some (some (.lst xs,d)),.ok (.int b,_,ρ1)=>(match f ρ1 with
  | .ok (.int w,_,ρ2)=>(match DV xs.length b with
   | some j=>(match xs[j]? with
    | some (.int v)=>if d≠0 then .nx (ρ2.set i (some (.lst (xs.set j (.int (g v w))),d))) else .no
    | _=>.no)
   | none=>.no)
  | _=>.no)
 | _,_=>.no
theorem OwnL.atInt {K:Frag}{Z:Addr->Prop}{d:Nat}{v:Int}:∀ {xs:List PV}{ws:List V}{f:List Addr}{j:Nat},OwnL K H Z xs d ws f->xs[j]?=some (.int v)->ws[j]?=some (.int v)
 | [],ws,f,j,h,e=>by simp at e
 | x::xs,ws,f,0,h,e=>by
  cases e;rw [OwnL] at h;obtain ⟨u,s,f1,f2,rfl,_,_,h1,_⟩:=h;rw [Own] at h1;rw [h1.1];rfl
 | x::xs,ws,f,j + 1,h,e=>by
  rw [OwnL] at h;obtain ⟨u,s,f1,f2,rfl,_,_,_,h2⟩:=h;rw [Iu] at e ⊢;exact h2.atInt e
def j8 {g:Int->Int->Int}{f fj:Fx}{vj:List Nat}{i:Nat}{D:Ends} (hal:∀ i,M.al i=[]) (hm:M.Ms i=false) (hq:tS M (Jq g i fj f) D σ H):Ve (Dq i) (tE M fj vj) (tE M f vs) (Hw M.K) (Mq g) UN D σ H:=by
 obtain ⟨ρ,fps,rep,q⟩:=hq;unfold Jq at q;split at q
 ·rename_i xs d b db ρ1 ei e1;split at q
  ·rename_i w dw ρ2 e2;split at q
   ·rename_i j ej;split at q
    ·rename_i v0 ev0;split at q
     ·rename_i hd;obtain ⟨v,hσ,ov⟩:=rep.own0 hal i _ _ ei;obtain ⟨a0,_,_,rfl,_⟩:=ov.list hd;refine ⟨.ref a0,hσ,ρ,fps,rep,?_⟩;rw [e1];intro vb H1 fps1 fpb k1 g1 rep1 ob tb;rw [Own] at ob;obtain ⟨rfl,rfl⟩:=ob;have ei1:ρ1[i]?=some (some (.lst xs,d)):=by rw [g1.1 i hm];exact ei
      obtain ⟨v1,hσ1,ov1⟩:=rep1.own0 hal i _ _ ei1;rw [hσ] at hσ1;cases hσ1;obtain ⟨a1,ws1,f1,ea1,ha1,hf1,na1,hol1⟩:=ov1.list hd;cases ea1;refine ⟨a0,ws1,b,.int v0,rfl,rfl,.inl (.inl ha1),(by unfold BE;rw [hol1.length,ej];exact hol1.atInt ev0),ρ1,fps1,rep1,?_⟩;rw [e2];intro vw H2 fps2 OU k2 g2 rep2 ow tw;rw [Own] at ow;obtain ⟨rfl,rfl⟩:=ow;refine ⟨v0,w,rfl,rfl,?_⟩;have ei2:ρ2[i]?=some (some (.lst xs,d)):=by rw [g2.1 i hm];exact ei1
      obtain ⟨v2,hσ2,ov2⟩:=rep2.own0 hal i _ _ ei2;rw [hσ] at hσ2;cases hσ2;obtain ⟨a2,ws2,f2,ea2,ha2,hf2,na2,hol2⟩:=ov2.list hd;cases ea2;refine ⟨a0,ws2,b,j,rfl,rfl,ha2,by rw [hol2.length];exact ej,?_⟩;have hai:a0∈fps2 i:=by rw [hf2];exact AF
      have oy:Own M.K H2 (Zf M fps2) (.int (g v0 w)) (pd d) (.int (g v0 w)) []:=by rw [Own];exact ⟨rfl,rfl⟩
      obtain ⟨fc',hs',hset⟩:=hol2.set oy j;have inI:∀ b,b∈a0::fc'->b∈fps2 i:=λ b hb=>(jc3.mp hb).elim (λ z=>by rw [z];exact hai) λ z=>by rw [hf2];exact AH _ (hs' b z)
      have dm:∀ b,H2 b≠none->(Ap H2 a0 (.lst (ws2.set j (.int (g v0 w))))) b≠none:=λ b h=>by
       by_cases eb:b=a0
       ·rw [eb,AV];simp
       ·rw [A8 eb];exact h
      have nz:∀ b,Zf M (λ j=>if j=i then a0::fc' else fps2 j) b->Zf M fps2 b:=λ b h=>by
       rcases h with z | ⟨j,z⟩
       ·exact .inl z
       ·by_cases ej:j=i
        ·simp only [if_pos ej] at z;exact .inr ⟨i,inI b z⟩
        ·simp only [if_neg ej] at z;exact .inr ⟨j,z⟩
      have kw:KS M H2 fps2 (Ap H2 a0 (.lst (ws2.set j (.int (g v0 w))))) (λ j=>if j=i then a0::fc' else fps2 j):=⟨λ b u hb n=>by rw [A8 (λ e=>n ⟨i,by rw [e];exact hai⟩)];exact hb,dm,λ j b hb=>by
       by_cases ej:j=i
       ·simp only [if_pos ej] at hb;exact .inl ⟨i,inI b hb⟩
       ·simp only [if_neg ej] at hb;exact .inl ⟨j,hb⟩⟩
      refine q σ _ _ ((k1.ks.trans k2.ks).trans kw) (rep2.change hal ei2 hσ (λ b u hb n=>by rw [A8 (λ e=>n (by rw [e];exact hai))];exact hb) dm inI (λ h=>by rw [hm] at h;cases h) ?_);rw [Own];exact ⟨a0,_,rfl,.inr ⟨hd,fc',AV,rfl,λ z=>na2 (hs' a0 z),hset.at (.inr ⟨i,hai⟩) ⟨.l ws2,ha2⟩ (λ z=>na2 (hs' a0 z)) λ b _ n z=>n (nz b z)⟩⟩
     ·exact q.elim
    ·exact q.elim
   ·exact q.elim
  ·exact q.elim
 ·exact q.elim
end
def Oz (X:Cx) (Q:VK):VK:=λ v H=>Q v H\/∃ a o kvs,H a=some (.frz o (.dT kvs))/\Gn X a/\Q v (Ap H a (.dT kvs))
def zW {X:Cx}{e:Expr}{t:TE} (h:PE X e t):PE X e (λ σ H Q=>t σ H (Oz X Q)):=λ pins s σ H Q I q=>A1 (h pins s σ H _ I q) λ u s' ⟨v,H',I',r,z⟩=>z.elim (λ z=>⟨v,H',I',r,z⟩) λ ⟨a,o,kvs,ha,hX,z⟩=>⟨v,_,LH I' ha hX,r,z⟩
def pe_or {X:Cx}{e:Expr}{t u:TE} (h:PE X e t) (h':PE X e u):PE X e (λ σ H Q=>t σ H Q\/u σ H Q):=λ pins s σ H Q I q=>q.elim (h pins s σ H Q I) (h' pins s σ H Q I)
def Ih (i k:Nat) (asg:PV->Ae->Option Ae) (test:Fb) (elt:Fx):Fx:=λ ρ=>match ρ[i]? with
 | some (some (.dcl ks _,0))=>(BY k asg test elt (ks.map Bg) ρ []).bindN λ (acc,ρ2)=>C4 acc ρ2
 | _=>Cf (Aa i) k asg test elt ρ
section
variable {K:Frag}{H H':Hp}{Z:Addr->Prop}{a:Addr}{kvs:List (List Av×V)}
theorem Tmps.rdAt (k:∀ b u,H b=some u->b≠a->H' b=some u) (ha:Rd H a (.dT kvs)) (ha':Rd H' a (.dT kvs)):∀ {xs:List (PV×Nat)}{ws:List V}{fp:List Addr},a∉fp->Tmps K H Z xs ws fp->Tmps K H' Z xs ws fp
 | [],_,_,_,h=>h
 | (x,d)::xs,ws,fp,n,h=>by
  obtain ⟨v,r,f1,f2,e1,e2,dj,o,t⟩:=h;exact ⟨v,r,f1,f2,e1,e2,dj,Own.rdAt k ha ha' x d v f1 (λ z=>n (by rw [e2];exact BP _ z)) o,Tmps.rdAt k ha ha' (λ z=>n (by rw [e2];exact BJ _ z)) t⟩
end
section
variable {X:Cx}{M:Fm}{ρ ρ':Ae}{σ:St}{H H':Hp}{fps fps':AN}{a:Addr}{kvs:List (List Av×V)}{o:Obj}
def KD.known (h:H a=some (.dT kvs)) (hn:∀ i,a∉fps i) (ks:KD M (Ap H a (.frz o (.dT kvs))) fps H' fps'):H' a=some (.frz o (.dT kvs))/\KD M H fps (Ap H' a (.dT kvs)) fps'/\∀ i,a∉fps' i:=by
 have h1:H' a=some (.frz o (.dT kvs)):=ks.keep a _ AV λ ⟨i,_,z⟩=>hn i z;refine ⟨h1,⟨λ b u hb n=>?_,λ b hb=>?_,λ i b hb=>?_,ks.same⟩,λ i z=>?_⟩
 ·by_cases e:b=a
  ·rw [e] at hb ⊢;rw [AV,<- hb,h]
  ·rw [A8 e];exact ks.keep b u (by rw [A8 e];exact hb) n
 ·by_cases e:b=a
  ·rw [e,AV];simp
  ·rw [A8 e];exact ks.dom b (by rw [A8 e];exact hb)
 ·rcases ks.sub i b hb with z | z
  ·exact .inl z
  ·by_cases e:b=a
   ·rw [e,AV] at z;cases z
   ·rw [A8 e] at z;exact .inr z
 ·rcases ks.sub i a z with z | z
  ·exact hn i z
  ·rw [AV] at z;cases z
def vG {g:TG}{is vI vE vo:List Nat}{asg:PV->Ae->Option Ae}{test:Fb}{elt:Fx}{i k n:Nat}{Q:VK}{P:Fm->Prop} (hali:M.al i=[])
  (hn:σ.length=n) (hP:∀ D,P (M.comp D n vI)) (hal:∀ i,∀ j∈M.al i,M.Ms j=false) (hvI:∀ i∈vI,M.Ms i=false) (hvE:∀ i∈vE,M.Ms i=false) (his:∀ i∈is,n<=i) (hg:∀ D,CN (M.comp D n vI) vI is g asg)
  (hvo:∀ i,i∈vE->i < n->i∈vo) (hvo2:∀ i∈vo,M.Ms i=false) (hq:tE M (Ih i k asg test elt) vo σ H Q):
  Hk k (Em M.K (tE M (Aa i) vI)) g (λ σ H Q=>∃ M',P M'/\tT M' test σ H Q) (λ σ H Q=>∃ M',P M'/\tE M' elt vE σ H Q) σ H Q \/
  Hk k (QO X (Dq i)) g (λ σ H Q=>∃ M',P M'/\tT M' test σ H Q) (λ σ H Q=>∃ M',P M'/\tE M' elt vE σ H Q) σ H (Oz X Q):=by
 obtain ⟨ρ,fps,rep,q⟩:=id hq;by_cases hd:∃ ks xs,ρ[i]?=some (some (.dcl ks xs,0))
 ·obtain ⟨ks,xs,ei⟩:=hd;have eB:Ih i k asg test elt ρ=((BY k asg test elt (ks.map Bg) ρ []).bindN λ (acc,ρ2)=>C4 acc ρ2):=by unfold Ih;rw [ei];rfl
  rw [eB] at q
  right
  obtain ⟨v,hσ,ow⟩:=rep.own i _ _ ei;rw [Own] at ow;obtain ⟨a,ws,ev,en,⟨_,hr,efp,ol⟩ | ⟨h,_⟩⟩:=ow
  ·obtain ⟨hr,nz⟩:=hr;rw [ev] at hσ;have hn':∀ j,a∉fps j:=λ j z=>nz (.inr ⟨j,by rw [hali];exact HA,z⟩);have hl:n=ρ.length:=by rw [rep.len];exact hn.symm
   have lz:(ks.zip ws).length=(ks.map Bg).length:=by rw [Jy,AG];have:=ol.length;omega
   refine ⟨.ref a,hσ,a,ks.zip ws,rfl,?_⟩;rcases hr with hr | ⟨o,hr⟩
   ·refine .inl ⟨hr,λ o hX=>?_⟩;have up:∀ b u,H b=some u->b≠a->Ap H a (.frz o (.dT (ks.zip ws))) b=some u:=λ b u hb e=>by rw [A8 e];exact hb
    have un:∀ {H':Hp},∀ b u,H' b=some u->b≠a->Ap H' a (.dT (ks.zip ws)) b=some u:=λ b u hb e=>by rw [A8 e];exact hb
    refine IF (els:=ks.map Bg) (Q:=Oz X Q) hP hl hal hvI hvE his hg hvo hvo2 (rep.rdAt up (.inl hr) (.inr ⟨o,AV⟩) hn') (λ {D H' fps' i} hD k' h=>⟨(k'.known hr hn').1,by rw [lz];exact h⟩) (λ {D H' fps' i} hD k' h=>⟨(k'.known hr hn').1,by rw [lz];exact h⟩) (λ {D H' fps' i x H''} hD k' h y=>?_) ?_
    ·obtain ⟨rfl,b,p',rfl,hp,hb⟩:=y;refine ⟨λ _ _ h=>h,Bg p'.1,?_,MN hb⟩;rw [BW,(JT hp).1];rfl
    ·cases ec:BY k asg test elt (ks.map Bg) ρ [] with
     | no=>rw [ec] at q;exact q.elim
     | exc c=>rw [ec] at q;exact q.elim
     | ok p=>
      obtain ⟨acc,ρ2⟩:=p;rw [ec] at q;intro D us H' fps' fpl k' g' r hD hD' tm hf;obtain ⟨h1,k2,n2⟩:=k'.known hr hn';have nDa:D≠a:=λ z=>by rw [z,AV] at hD;cases hD
      have hf':∀ b∈fpl,H b=none/\¬ Zf (M.plus [D]) fps' b:=λ b hb=>by
       obtain ⟨z1,z2⟩:=hf b hb;refine ⟨?_,z2⟩;rw [A8 (λ e=>by rw [e,AV] at z1;cases z1)] at z1;exact z1
      have naf:a∉fpl:=λ z=>by have:=(hf a z).1;rw [AV] at this;cases this
      refine .inr ⟨a,o,_,h1,hX,Lb rep KD.refl Agr.refl q k2 g' (r.rdAt un (.inr ⟨o,h1⟩) (.inl AV) n2) ?_ (by rw [A8 nDa];exact hD') (Tmps.rdAt un (.inr ⟨o,h1⟩) (.inl AV) naf tm) hf'⟩;rw [A8 nDa] at hD;exact hD
   ·refine .inr ⟨o,hr,?_⟩;have fz:∀ {H':Hp}{fps':AN},KD M H fps H' fps'->H' a=some (.frz o (.dT (ks.zip ws))):=λ k'=>k'.keep a _ hr λ ⟨i,_,z⟩=>hn' i z;refine IF (els:=ks.map Bg) (Q:=Oz X Q) hP hl hal hvI hvE his hg hvo hvo2 rep (λ {D H' fps' i} hD k' h=>⟨fz k',by rw [lz];exact h⟩) (λ {D H' fps' i} hD k' h=>⟨fz k',by rw [lz];exact h⟩) (λ {D H' fps' i x H''} hD k' h y=>?_) ?_
    ·obtain ⟨rfl,b,p',rfl,hp,hb⟩:=y;refine ⟨λ _ _ h=>h,Bg p'.1,?_,MN hb⟩;rw [BW,(JT hp).1];rfl
    ·cases ec:BY k asg test elt (ks.map Bg) ρ [] with
     | no=>rw [ec] at q;exact q.elim
     | exc c=>rw [ec] at q;exact q.elim
     | ok p=>
      obtain ⟨acc,ρ2⟩:=p;rw [ec] at q;exact λ D us H' fps' fpl k' g' r hD hD' tm hf=>.inl (Lb rep KD.refl Agr.refl q k' g' r hD hD' tm hf)
  ·exact absurd rfl h
 ·have eB:Ih i k asg test elt ρ=Cf (Aa i) k asg test elt ρ:=by
   unfold Ih;split
   ·rename_i ks xs ei;exact absurd ⟨ks,xs,ei⟩ hd
   ·rfl
  rw [eB] at q
  left
  exact X7 hn hP hal hvI hvE his hg hvo hvo2 ⟨ρ,fps,rep,q⟩
end
def Rl:Expr->Bool
 | .ListComp _ _ _ _=>true
 | .SetComp _ _ _ _=>true
 | .DictComp _ _ _ _ _=>true
 | _=>false
def ZI:Expr->Bool
 | .Tuple _ _ _=>true
 | .List _ _=>true
 | _=>false
def Bk (d:Stmt->Option Fs):List Stmt->Option Fs
 | []=>some AJ
 | [s]=>d s
 | s::r=>match d s,Bk d r with
  | some f,some g=>some (Ag f g)
  | _,_=>none
def Ej (S:Sx) (x:Str):Bool:=D8 S.sc x .local || D8 S.sc x .cell
def Js (S:Sx) (i:Nat):Bool:=(decide (i≠0) || !S.msF 0) && !S.pn.contains i
def UQ (iw:Iw) (asg:PV->Ae->Option Ae) (body:Fs):Fs:=match iw with
 | .rng en fa _=>CQ en fa asg body
 | .seq f vs=>EC f vs asg body
 | .vw v fa vs=>Gy v fa vs asg body
def Om:Ho->Option ((Int->Int->Int)×Bool)
 | .Add=>some (λ i j=>i + j,true)
 | .Sub=>some (λ i j=>i - j,false)
 | _=>none
def Lf (S:Sx):List Expr->Option (List Nat)
 | []=>some []
 | .Name x _::r=>match S.slot x,Lf S r with
  | some i,some is=>if Ej S x=true/\Js S i=true/\S.msF i=false then some (i::is) else none
  | _,_=>none
 | _=>none
def Sx.nr (S:Sx):Sx:={ S with rz:=false }
def Gf (S:Sx):Expr->Option D2
 | .Dict [] [] _=>some (ET,[])
 | e=>Bj 60 S e
def U2 (S:Sx) (x at':Str) (apos:Pos) (e:Expr) (cpos:Pos):Option Fs:=if at' = "append" then (match S.slot x,Bj 60 S e with
   | some i,some (f,vs)=>if S.msF i=false/\(apos.endLine == cpos.line)=true then some (C1 i f vs) else none
   | _,_=>none) else if at' = "extend" then (match S.slot x,Bj 60 S e with
   | some i,some (f,vs)=>if S.msF i=false/\(apos.endLine == cpos.line)=true then some (Du i f vs) else none
   | _,_=>none) else none
def ZE (_:Sx) (_:Expr) (_:Str) (_:Pos) (_:Expr) (_:Pos):Option Fs:=none
def Mu (S:Sx):Expr->Option Fs
 | .Call fn es [] p1=>(match fn with
  | .Attribute o at' apos=>(match Km o,es with
   | some x,[e]=>U2 S x at' apos e p1
   | none,[e]=>ZE S o at' apos e p1
   | _,_=>none)
  | .Name x p=>(match Bj 60 S (.Call (.Name x p) es [] p1) with
   | some (f,_)=>some (CY f)
   | none=>none)
  | _=>none)
 | _=>none
def Ru:PV->Nat->PV->Nat->Option (PV×Nat)
 | .lst xs,d,.int i,_=>(BE xs i).map λ z=>(z,if d=om then om else dv z)
 | _,_,_,_=>none
theorem OwnL.nthF {K:Frag}{H:Hp}{Z:Addr->Prop}{d:Nat}{x:PV}:∀ {xs:List PV}{ws:List V}{f:List Addr}{j:Nat},OwnL K H Z xs d ws f->xs[j]?=some x->∃ w fx,ws[j]?=some w/\Own K H Z x d w fx/\∀ a∈fx,a∈f
 | [],_,_,_,_,e=>by cases e
 | y::ys,ws,f,j,h,e=>by
  rw [OwnL] at h;obtain ⟨v,s,f1,f2,rfl,rfl,_,h1,h2⟩:=h;cases j with
  | zero=>cases e;exact ⟨v,f1,rfl,h1,λ a ha=>BP _ ha⟩
  | succ j=>
   obtain ⟨w,fx,e1,o,s'⟩:=h2.nthF (j:=j) (by simpa using e);exact ⟨w,fx,by simpa using e1,o,λ a ha=>BJ _ (s' a ha)⟩
def LW:List (PV×Nat)->Bool
 | []=>true
 | p::r=>((p.2 == om) || Ot p.1) && LW r
def Rv (xs:List (PV×Nat)):Option (PV×Nat):=if xs.length<=A0 then some (.lst (xs.map (·.1)),if LW xs then om else 1) else none
theorem Tmps.allF {K:Frag}{H:Hp}{Z:Addr->Prop}:∀ {xs:List (PV×Nat)}{ws:List V}{fp:List Addr},Tmps K H Z xs ws fp->LW xs=true->OwnL K H Z (xs.map (·.1)) om ws fp
 | [],_,_,h,_=>by rw [FT,OwnL];exact h
 | (x,d)::xs,ws,fp,h,ha=>by
  obtain ⟨v,s,f1,f2,e1,e2,dj,h1,h2⟩:=h;unfold LW at ha;rw [AS,EN] at ha;rw [AR,OwnL];rcases ha.1 with e | e
  ·have e:d=om:=eq_of_beq e;subst e;exact ⟨v,s,f1,f2,e1,e2,dj,Own.full x v f1 h1,h2.allF ha.2⟩
  ·obtain ⟨rfl,o⟩:=Own.flatA (Z':=Z) (d':=om) e h1;exact ⟨v,s,[],f2,e1,e2,dj,o,h2.allF ha.2⟩
section
variable {X:Cx}{M:Fm}{a b:Expr}{es:List Expr}{fa:Fa}{f g:Fx}{vs vs':List Nat}{pos:Pos}
def jt (h:PA X es (tL M fa vs)):PE X (.List es pos) (tE M (Ao Rv fa) vs):=by
 refine BB (Vy h) λ σ H Q h=>MU (r:=λ xs H1 Q=>xs.length<=A0/\∀ p,H1 p=none->Q (.ref p) (Ap H1 p (.lst xs))) (λ xs z c ws H fps fp Q ho tm nz zd lf=>?_) h;unfold Rv at ho;split at ho
 ·rename_i hl;refine ⟨by rw [tm.length];exact hl,λ q hq=>?_⟩;cases eo:LW xs with
  | true=>rw [eo] at ho;cases ho;exact Um lf (tm.allF eo) hq
  | false=>rw [eo] at ho;cases ho;exact Pk lf (tm.cold λ a ha z=>nz a ha z.zf) hq
 ·cases ho
def jQ (hv:∀ i∈vs,M.Ms i=false) (hs:MC b) (ha:PE X a (tE M f vs)) (hb:PE X b (tE M g vs')):PE X (.Subscript a b pos) (tE M (Ab Ru f g) (vs++vs')):=by
 refine BB (US qlo ha hb hs) λ σ H Q h=>DC hv (λ x d y e z c v w H fps f1 f2 Q ho o1 o2 dj nz zd lf=>?_) h;unfold Ru at ho;split at ho
 ·rename_i xs i;obtain ⟨z',ez,e2⟩:=jc2.mp ho;rw [Own] at o2;by_cases hd:d=om
  ·subst hd;rw [if_pos rfl] at e2;cases e2;obtain ⟨p,ws,fc,rfl,hp,rfl,nac,ol⟩:=o1.list (by decide:om≠0);rw [ZM] at ol;unfold BE at ez;cases ej:DV xs.length i with
   | none=>rw [ej] at ez;cases ez
   | some j=>
    rw [ej] at ez;obtain ⟨w',fz,e1,ow,sb⟩:=ol.nthF ez;refine .inl ⟨p,ws,i,w',rfl,o2.1,.inl (.inl hp),?_,lf w' H fz (λ _ _ h=>h) (Own.full _ _ _ ow) λ a ha=>.inl (BP _ (AH _ (sb a ha)))⟩;unfold BE;rw [ol.length,ej];exact e1
  ·rw [if_neg hd] at e2;cases e2;obtain ⟨p,ws,rfl,hp,ol⟩:=(cold o1 λ a ha=>nz a (BP _ ha)).coldL;obtain ⟨w',e1,ow⟩:=RG ol ez;exact .inl ⟨p,ws,i,w',rfl,o2.1,.inl (.inl hp),e1,IA lf ow⟩
 ·cases ho
end
def HF (S:Sx) (e:Expr):Option D2:=match e with
 | .Subscript (.List es _) b _=>(match E9 (Bj 60 S) es,Bj 60 S b with
  | some (fa,v),some (g,u)=>if KN b=true then some (Ab Ru (Ao Rv fa) g,v++u) else none
  | _,_=>none)
 | e=>Bj 60 S e
def Vi (S:Sx) (t k e:Expr):Option Fs:=match t with
 | .Name x _=>(match S.slot x,Bj 60 S k,HF S e with
  | some i,some (fk,_),some (f,_)=>if S.msF i=false/\KN k=true then some (Ep i fk f) else none
  | _,_,_=>none)
 | _=>none
def Rn (S:Sx) (t e:Expr):Option Fs:=match t with
 | .Tuple es k p=>(match Lf S es,Bj 60 S e with
   | some is,some (f,vs)=>if Rl e=false/\ZI e=false then some (Cp (asgT is) f vs) else none
   | _,_=>none)
 | .Name x _=>(match S.slot x,Gf S e with
   | some i,some (f,vs)=>if Ej S x=true/\Js S i=true then some (Al (S.msF i) i f vs) else none
   | _,_=>none)
 | .Subscript t k _=>Vi S t k e
 | _=>none
def MG (d:Stmt->Option Fs) (S:Sx) (body:List Stmt):Option Fs:=Bk d body
def ql1:List Str:=["table","behind"]
def J6 (d:Stmt->Option Fs) (S:Sx) (x:Str) (it:Expr) (body:List Stmt):Option Fs:=match S.slot x,MG d S body with
 | some i,some b=>if Ej S x=true/\Js S i=true/\S.msF i=false then (match it with
   | .Name y _=>if ql1.contains y=true then (match Bj 60 S it with
    | some (f,vs)=>some (Ij f vs (asgN i) b)
    | none=>none) else none
   | .Call fn args ks cpos=>(match ks with
    | []=>(match fn with
   | .Attribute ob at' apos=>(match ob,args with
   | .Subscript o k p,[]=>if at' = "values" /\ (apos.endLine == cpos.line)=true then (match Bj 60 S (.Subscript o k p) with
    | some (f,vs)=>some (Kk f vs (asgN i) b)
    | none=>none) else none
   | _,_=>none)
   | .Name r _=>(match args with
   | [e1,e2,e3]=>if r = "range" /\ S.glob "range" = true then (match E9 (Bj 60 S) [e1,e2,e3] with
    | some (fa,_)=>some (IT fa (asgN i) b)
    | none=>none) else none
   | _=>none)
   | _=>none)
    | _=>none)
   | _=>none) else none
 | _,_=>none
def Ro (d:Stmt->Option Fs) (S:Sx) (t it:Expr) (body:List Stmt):Option Fs:=match t with
 | .Name x p=>(match J6 d S x it body with
  | some f=>some f
  | none=>match S.slot x,ES (Bj 60 S) S it,MG d S body with
    | some i,some iw,some b=>if Ej S x=true/\Js S i=true/\S.msF i=false/\FJ (.Name x p) iw=true then some (UQ iw (asgN i) b) else none
    | _,_,_=>none)
 | .Tuple es k p=>(match Lf S es,ES (Bj 60 S) S it,MG d S body with
   | some is,some iw,some b=>some (UQ iw (asgT is) b)
   | _,_,_=>none)
 | _=>none
def J7 (S:Sx) (e:Expr):Option D2:=match e with
 | .ListComp elt gs scope _=>(match En gs with
  | some (tg,it,ifs)=>(match Km it with
   | some y=>(match S.slot y,Lr S.N.length tg with
  | some i,some (xs,asg)=>if ifs≠[]/\ql1.contains y=true/\S.msF i=false/\KQ S scope xs (i::S.alF i)=true then (match LU (Bj 60 (AO S scope xs (i::S.alF i))) ifs,Bj 60 (AO S scope xs (i::S.alF i)) elt with
   | some t,some (g,vE)=>some (Ih i xs.length asg t g,(i::S.alF i)++vE.filter (λ i=>decide (i < S.N.length)))
   | _,_=>none) else none
  | _,_=>none)
   | none=>none)
  | none=>none)
 | _=>none
def Rp (S:Sx) (e:Expr):Option Fs:=match Km e with
 | some x=>(match S.slot x with
   | some i=>if S.msF i=true then none else some (DE i)
   | none=>none)
 | none=>(match J7 S e with
   | some (f,vs)=>some (Ax f)
   | none=>(match Bj 60 S e with
    | some (f,vs)=>some (Ax f)
    | none=>none))
def VB (S:Sx) (t:Expr) (op:Ho) (e:Expr):Option Fs:=match t with
 | .Name x _=>(match S.slot x,Bj 60 S e,Om op with
  | some i,some (f,_),some (g,sd)=>if Ej S x=true/\Js S i=true/\S.msF i=false then some (Dv g sd i f) else none
  | _,_,_=>none)
 | .Subscript o k _=>(match o with
  | .Name x _=>(match S.slot x,Bj 60 S k,Bj 60 S e,Om op with
   | some s,some (fj,_),some (f,_),some (g,_)=>if S.msF s=false/\KN k=true then some (Jq g s fj f) else none
   | _,_,_,_=>none)
  | _=>none)
 | _=>none
def Sx.bare (S:Sx):Sx:={ S with ms:=[] }
def HE (S:Sx) (c:Expr):Option D2:=(Bj 60 S c).or (Bj 60 S.bare c)
def K5 (d:Stmt->Option Fs) (S:Sx):Stmt->Option Fs
 | .Raise _ _ _=>some FN
 | .Expr v _=>Mu S v
 | .Assign ts e _=>(match ts with
  | [t]=>Rn S t e
  | _=>none)
 | .If c a b _=>match HE S c,Bk d a,Bk d b with
  | some (f,_),some s,some t=>some (BH (bT f) s t)
  | _,_,_=>none
 | .For t it body o _=>(match o with
  | []=>Ro d S t it body
  | _=>none)
 | .While c body o _=>(match o,HE S c,Bk d body with
  | [],some (f,_),some b=>some (V4 (bT f) b)
  | _,_,_=>none)
 | .AugAssign t op e _=>VB S t op e
 | .Return o _=>(match o with
  | some e=>Rp S e
  | none=>none)
 | _=>none
def LA:Nat->Sx->Stmt->Option Fs
 | 0,_,_=>none
 | n + 1,S,st=>some ((K5 (LA n S) S st).getD FN)
section
variable {X:Cx}{P:A9}{w:A7}{K:Frag}{mg:Str->Option Ad}{base:Heap}{lvl:Nat}{S:Sx}{Wx:St->Nat->Hp->Prop}{M:Fm}{f g:Fx}{vs vs':List Nat}{σ:St}{H:Hp}{Q:VK}
structure SM (X:Cx) (M:Fm) (K:Frag) (S:Sx) (Wx:St->Nat->Hp->Prop):Prop where
 ms:MS M K S Wx
 al:∀ i,M.al i=[]
 io:M.io≠none->S.msF 0=true
 pn:∀ p∈M.pn,p.1∈S.pn
 fn:∀ x,X.fn x=true
 nd:S.N.Nodup
 st:X.stack=X.env::X.outer
 fr:X.env.frame=some X.env.locals
def Hf (P:A9) (w:A7) (K:Frag) (mg:Str->Option Ad) (base:Heap) (lvl:Nat) (S:Sx) (st:Stmt) (f:Fs):Prop:=∀ {Wx} X M,XS X P w K mg base lvl S Wx->SM X M K S Wx->PS X st (tS M f)
theorem JE {d:Stmt->Option Fs} (hd:∀ st f,d st=some f->Hf P w K mg base lvl S st f):∀ (sts:List Stmt) (f:Fs),Bk d sts=some f->∀ {Wx} X M,XS X P w K mg base lvl S Wx->SM X M K S Wx->Eo X sts (tS M f)
 | [],f,h=>by cases h;exact λ X M xs sm=>W6 jd λ D σ H q=>x9 q
 | [s],f,h=>λ X M xs sm=>je (hd s f h X M xs sm)
 | s::s'::r,f,h=>by
  unfold Bk at h;split at h
  ·rename_i f1 f2 h1 h2;cases h;exact λ X M xs sm=>W6 (kK (hd s f1 h1 X M xs sm) (JE hd (s'::r) f2 h2 X M xs sm)) λ D σ H q=>xA q
  ·cases h
def K8 {x:Str}{i:Nat} (h:S.slot x=some i):S.N[i]?=some x:=by
 unfold Sx.slot at h;split at h
 ·exact MY h
 ·cases h
def LM {x:Str} (h:Ej S x=true):E3 S.sc x:=by
 unfold Ej at h;rw [EN] at h;exact h.elim (λ h=>.inl (HX h)) λ h=>.inr (HX h)
def JP {i:Nat} (h:Js S i=true) (sm:SM X M K S Wx):M.Fre i:=by
 unfold Js at h;rw [AS,EN] at h;refine ⟨λ hio=>?_,λ p hp e=>?_⟩
 ·rcases h.1 with h | h
  ·simpa using h
  ·rw [sm.io hio] at h;cases h
 ·have z:=sm.pn p hp;rw [e] at z;have h2:=h.2;rw [List.contains_iff_mem.mpr z] at h2;cases h2
theorem j0 {e:Expr}{t:Option Expr}{l:Nat}{env:Env} (h:Rl e=false):swapsWith e t l env=pure false:=by
 cases e with
 | ListComp _ _ _ _=>cases h
 | SetComp _ _ _ _=>cases h
 | DictComp _ _ _ _ _=>cases h
 | _=>rfl
theorem kf (GX:GX K mg S.xc) (G:GS P w K mg base lvl S.Γ) (Gm:GP P w K mg base lvl S.Γm) (hS:∀ i,∀ j∈S.alF i,S.msF j=false) {n:Nat}{elt:Expr}{gs:List Comprehension}{scope:Br}{pos:Pos} (h:Bj (n + 1) S (.ListComp elt gs scope pos)=some (f,vs)):
  ∃ tg ys asg it ifs iw t g vE,gs=[⟨tg,it,ifs,0⟩]/\CompParts P w K mg base lvl S scope tg ys asg it elt ifs iw t g vE/\f=L6 iw ys.length asg t g/\vs=iw.vs++vE.filter (λ i=>decide (i < S.N.length)):=by
 have hd:∀ e f vs,Bj n S e=some (f,vs)->AM P w K mg base lvl S e f vs:=λ e f vs h=>IM GX G Gm n S e f vs rfl rfl rfl hS h;replace h:Ft (Bj n) S (.ListComp elt gs scope pos)=some (f,vs):=h
 match gs,h with
 | [],h=>simp [Ft,En] at h
 | _::_::_,h=>simp [Ft,En] at h
 | [⟨tg,it,ifs,a⟩],h=>
  by_cases ha:a=0
  ·subst ha;replace h:(match Lr S.N.length tg,ES (Bj n S) S it with
    | some (xs,asg),some iw=>if KQ S scope xs iw.vs=true/\FJ tg iw=true then (match LU (Bj n (AO S scope xs iw.vs)) ifs,Bj n (AO S scope xs iw.vs) elt with
     | some t,some (g,vE)=>some (L6 iw xs.length asg t g,iw.vs++vE.filter (λ i=>decide (i < S.N.length)))
     | _,_=>none) else none
    | _,_=>none)=some (f,vs):=h
   split at h
   ·rename_i ys asg iw ht hi;split at h
    ·rename_i hc;split at h
     ·rename_i t g vE h1 h2;cases h;have ck:=Ri hc.1;have giw:=MH hd (MI n S) G.1 hi;have hS2:∀ i,∀ j∈(AO S scope ys iw.vs).alF i,(AO S scope ys iw.vs).msF j=false:=λ i j hj=>by
       rw [MW] at hj;show S.msF j=false;split at hj
       ·exact hS i j hj
       ·split at hj
        ·exact giw.1 j hj
        ·cases hj
      have hd2:∀ e f vs,Bj n (AO S scope ys iw.vs) e=some (f,vs)->AM P w K mg base lvl (AO S scope ys iw.vs) e f vs:=λ e f vs h=>IM GX G Gm n _ e f vs rfl rfl rfl hS2 h;exact ⟨tg,ys,asg,it,ifs,iw,t,g,vE,rfl,⟨ht,hc.2,ck,giw,hd2 _ _ _ h2,Pw hd2 h1⟩,rfl,rfl⟩
     ·cases h
    ·cases h
   ·cases h
  ·simp [Ft,En,ha] at h
def Wf (GX:GX K mg S.xc) (G:GS P w K mg base lvl S.Γ) (Gm:GP P w K mg base lvl S.Γm) (hS:∀ i,∀ j∈S.alF i,S.msF j=false) {e:Expr} (h:J7 S e=some (f,vs)):(∀ i∈vs,S.msF i=false)/\∀ {Wx} X M,XS X P w K mg base lvl S Wx->SM X M K S Wx->PE X e (tE M f vs):=by
 unfold J7 at h;split at h
 ·rename_i elt gs scope pos;split at h
  rotate_left
  ·cases h
  rename_i tg it ifs hgs;obtain rfl:=VX hgs;split at h
  rotate_left
  ·cases h
  rename_i y hy;obtain ⟨p,rfl⟩:=LN hy;split at h
  ·rename_i i ys asg hi ht;split at h
   ·rename_i hc;split at h
    ·rename_i t g vE h1 h2;cases h;have ck:=Ri hc.2.2.2;have hn:Bj 60 S (.Name y p)=some (Aa i,i::S.alF i):=by
      show Ft (Bj 59) S (.Name y p)=_;simp [Ft,hi,hc.2.2.1]
     have giw:Gi P w K mg base lvl S (.Name y p) (.seq (Aa i) (i::S.alF i)):=WL (IM GX G Gm 60 S _ _ _ rfl rfl rfl hS hn) λ _ _ _ z=>nomatch z
     have hS2:∀ k,∀ j∈(AO S scope ys (i::S.alF i)).alF k,(AO S scope ys (i::S.alF i)).msF j=false:=λ k j hj=>by
      rw [MW] at hj;show S.msF j=false;split at hj
      ·exact hS k j hj
      ·split at hj
       ·exact giw.1 j hj
       ·cases hj
     have hd2:∀ e f vs,Bj 60 (AO S scope ys (i::S.alF i)) e=some (f,vs)->AM P w K mg base lvl (AO S scope ys (i::S.alF i)) e f vs:=λ e f vs h=>IM GX G Gm 60 _ e f vs rfl rfl rfl hS2 h;have c:CompParts P w K mg base lvl S scope tg ys asg (.Name y p) elt ifs (.seq (Aa i) (i::S.alF i)) t g vE:=⟨ht,rfl,ck,giw,hd2 _ _ _ h2,Pw hd2 h1⟩
     refine ⟨KR c,λ X M xs sm=>?_⟩;obtain ⟨is,gg,his,hg,hpg,hpt,hpe⟩:=TF (pos:=pos) c xs sm.ms;have hf:=Ig (n:=0) (env:=X.env) (iter:=.Name y p) (f:=Aa 0) (vs:=[]) (λ _ _ _ z=>nomatch z);have A:=MP (pos:=pos) (c.chk.comp xs) xs.calm (c.iwo.2.2 X M xs sm.ms tg) hpg hpt hpe hf;have B:=zW (MP (pos:=pos) (c.chk.comp xs) xs.calm (Wl (tg:=tg) (xs.var hi)) hpg hpt hpe hf);refine Rx (pe_or A B) λ σ H Q hl q=>?_;exact vG (sm.al i) (by rw [hl,xs.N]) (λ D=>c.chk.ms' sm.ms c.iwo.1 D) sm.ms.als (sm.ms.v c.iwo.1) (λ i hi=>by rw [sm.ms.ms];exact c.elt.1 i hi) his hg (λ i h1 h2=>BJ _ (jd3.mpr ⟨h1,by simpa using h2⟩)) (sm.ms.v (KR c)) q
    ·cases h
   ·cases h
  ·cases h
 ·cases h
def EX (xs:XS X P w K mg base lvl S Wx):Li (Aw X.prog X.w) X.A X.env X.xe:=xs.po
theorem Up {es:List Expr}{is:List Nat} (h:Lf S es=some is) (xs:XS X P w K mg base lvl S Wx) (sm:SM X M K S Wx):K2 X es (JV is)/\(Ew es X.env).length=is.length/\(Ew es X.env).findIdx? (·.1)=none/\∀ i∈is,Bd M [] i:=by
 induction es generalizing is with
 | nil=>cases h;exact ⟨Wj,rfl,rfl,λ _ z=>nomatch z⟩
 | cons e es ih=>
  unfold Lf at h;split at h
  ·cases ‹_::_=[]›
  ·rename_i x px r heq;cases heq;split at h
   ·rename_i i js hi hr;split at h
    ·rename_i hc;cases h;obtain ⟨h1,h2,h3,h4⟩:=ih hr;have hN:X.N.Nodup:=by rw [xs.N];exact sm.nd
     have hi':X.N[i]?=some x:=by rw [xs.N];exact K8 hi
     have hx:E3 X.env.scope x:=by rw [xs.sc];exact LM hc.1
     refine ⟨Xg (KP hN hi' hx (.inl (sm.fn x))) h1 rfl,by rw [Ew,Ba,h2,Ba] <;> (intros;contradiction),?_,λ j hj=>?_⟩
     ·rw [Ew,YB,h3] <;> first | rfl | (intros;contradiction)
     ·rcases jc3.mp hj with z | z
      ·rw [z];exact ⟨by rw [sm.ms.ms];exact hc.2.2,JP hc.2.1 sm,sm.al i,sm.ms.als⟩
      ·exact h4 j z
    ·cases h
   ·cases h
  ·cases h
def Fm.bare (M:Fm):Fm:={ M with Ms:=λ _=>false,H₀:=λ _=>none,io:=none,pn:=[] }
def Rep.bare {ρ:Ae}{fps:AN} (r:Rep M ρ σ H fps):Rep M.bare ρ σ H fps where
 own:=r.own
 non:=r.non
 dj:=r.dj
 zo:=r.zo
 fr:=λ _ _ _ _=>rfl
 zd:=r.zd
 len:=r.len
 msf:=λ _ _ _ h=>nomatch h
 h0:=λ _ h=>absurd rfl h
 iov:=And.intro (λ _ h=>nomatch h) (λ _ h=>nomatch h)
theorem jF {fb:Fb}{Q:Bool->Hp->Prop} (hq:tT M fb σ H Q):tT M.bare fb σ H Q:=by
 obtain ⟨ρ,fps,rep,q⟩:=hq;refine ⟨ρ,fps,rep.bare,?_⟩;have gr:∀ H' fps',KD M.bare H fps H' fps'->∀ a o,H a=some o->H' a=some o:=λ H' fps' k a o h=>k.keep a o h λ ⟨_,z,_⟩=>nomatch z
 cases e:fb ρ with
 | ok p=>
  obtain ⟨b,ρ'⟩:=p;rw [e] at q;intro H' fps' k ag _;have e1:ρ'=ρ:=Y9 λ i=>ag.1 i rfl;subst e1;exact q H' fps (KD.grow (gr H' fps' k)) Agr.refl (rep.grow (gr H' fps' k))
 | exc c=>
  rw [e] at q;intro H' fps' k;exact q H' fps (KD.grow (gr H' fps' k))
 | no=>rw [e] at q;exact q
theorem VR (GX:GX K mg S.xc) (G:GS P w K mg base lvl S.Γ) (Gm:GP P w K mg base lvl S.Γm) (hS:∀ i,∀ j∈S.alF i,S.msF j=false) {c:Expr}{f:Fx}{vs:List Nat} (h:HE S c=some (f,vs)) (xs:XS X P w K mg base lvl S Wx) (m:MS M K S Wx):PT X c (tT M (bT f)):=by
 unfold HE at h;cases e:Bj 60 S c with
 | some p=>
  rw [e] at h;cases h;exact ((IM GX G Gm 60 S c f vs rfl rfl rfl hS e).2.2 X M xs m).2
 | none=>
  rw [e] at h;have h2:Bj 60 S.bare c=some (f,vs):=h;have gd:=(IM (S:=S) GX G Gm 60 S.bare c f vs rfl rfl rfl (λ _ _ _=>rfl) h2).2.2 X M.bare ⟨xs.prog,xs.w,xs.K,xs.mg,xs.base,xs.N,xs.sc,xs.calm,xs.room,xs.po,xs.ps,xs.rs⟩ ⟨m.K,rfl,m.al,λ _ _ _=>rfl,m.W,λ _ h=>nomatch h⟩;exact JK gd.2 λ σ H Q q=>jF q
def P0 {d:Stmt->Option Fs}{body:List Stmt}{f:Fs} (hd:∀ e f vs,Bj 60 S e=some (f,vs)->AM P w K mg base lvl S e f vs) (ih:∀ st f,d st=some f->Hf P w K mg base lvl S st f) (h:MG d S body=some f):∀ {Wx} X M,XS X P w K mg base lvl S Wx->SM X M K S Wx->Eo X body (tS M f):=by
 exact JE ih _ _ h
def zu {d:Stmt->Option Fs}{body:List Stmt}{f:Fs}{x:Str}{it:Expr}{px pos:Pos} (hb:∀ x∈zky,mg x=none) (hd:∀ e f vs,Bj 60 S e=some (f,vs)->AM P w K mg base lvl S e f vs) (ih:∀ st f,d st=some f->Hf P w K mg base lvl S st f) (h:J6 d S x it body=some f):Hf P w K mg base lvl S (.For (.Name x px) it body [] pos) f:=by
 unfold J6 at h;split at h
 ·rename_i i b hi hbody;split at h
  ·rename_i hc;have base:∀ {Wx} X M,XS X P w K mg base lvl S Wx->SM X M K S Wx->Eo X body (tS M b)/\CN M [] [i] (Fe i) (asgN i)/\PG X (.Name x px) (Fe i):=λ X M xs sm=>by
    have hN:X.N.Nodup:=by rw [xs.N];exact sm.nd
    have hi':X.N[i]?=some x:=by rw [xs.N];exact K8 hi
    have hx:E3 X.env.scope x:=by rw [xs.sc];exact LM hc.1
    exact ⟨P0 hd ih hbody X M xs sm,Rj ⟨by rw [sm.ms.ms];exact hc.2.2,JP hc.2.1 sm,sm.al i,sm.ms.als⟩,KP hN hi' hx (.inl (sm.fn x))⟩
   split at h
   ·rename_i y py;split at h
    ·split at h
     ·rename_i f1 v1 he;cases h;have g:=hd _ _ _ he;intro Wx X M xs sm;obtain ⟨hbd,hg,hpg⟩:=base X M xs sm;have hf:=Ig (n:=0) (env:=X.env) (iter:=.Name y py) (f:=Aa 0) (vs:=[]) (λ _ _ _ z=>nomatch z);have pe:=(g.2.2 X M xs sm.ms).1;refine CC (qf (Fc (pos:=pos) (EX xs) xs.calm (V0 pe) hpg hbd hf) (W5 (Fc (pos:=pos) (EX xs) xs.calm (Wl pe) hpg hbd hf))) λ D σ H q=>?_
      have:=jA (X:=X) sm.al (sm.ms.v g.1) hg q
      rw [sm.ms.k xs] at this;exact this
     ·cases h
    ·cases h
   ·rename_i fn args ks cpos;split at h
    rotate_left
    ·cases h
    split at h
    ·rename_i ob at' apos;split at h
     ·rename_i o k p;split at h
      ·rename_i hv;obtain ⟨rfl,hl⟩:=hv;split at h
       ·rename_i f1 v1 he;cases h;have g:=hd _ _ _ he;intro Wx X M xs sm;obtain ⟨hbd,hg,hpg⟩:=base X M xs sm;have hf:=Ig (n:=0) (env:=X.env) (iter:=.Call (.Attribute (.Subscript o k p) "values" apos) [] [] cpos) (f:=Aa 0) (vs:=[]) (λ _ _ _ z=>nomatch z);have pe:=(g.2.2 X M xs sm.ms).1;exact CC (W5 (Fc (pos:=pos) (EX xs) xs.calm (ja (zX (apos:=apos) (cpos:=cpos) pe rfl hl)) hpg hbd hf)) λ D σ H q=>jB (X:=X) sm.al (sm.ms.v g.1) hg q
       ·cases h
      ·cases h
     ·cases h
    ·rename_i r pr;split at h
     ·rename_i e1 e2 e3;split at h
      ·rename_i hr;obtain ⟨rfl,hgl⟩:=hr;split at h
       ·rename_i fa v1 he;cases h;have g:=Fy hd _ _ _ he;intro Wx X M xs sm;obtain ⟨hbd,hg,hpg⟩:=base X M xs sm;have hs:=g.2.1;rw [FV,AS] at hs;have hf:=Ig (n:=0) (env:=X.env) (iter:=.Call (.Name "range" pr) [e1,e2,e3] [] cpos) (f:=Aa 0) (vs:=[]) (λ _ _ _ z=>nomatch z);exact CC (Fc (pos:=pos) (EX xs) xs.calm (zY (xs.gl hgl) (by rw [xs.mg];exact hb _ (by decide +kernel)) (g.2.2 X M xs sm.ms) (D1 (D4 hs.1)) (Nf hs.2)) hpg hbd hf) λ D σ H q=>vJ (vs:=v1) hg q
       ·cases h
      ·cases h
     ·cases h
    ·cases h
   ·cases h
  ·cases h
 ·cases h
def zi {e:Expr}{f:Fx}{vs:List Nat} (hd:∀ e f vs,Bj 60 S e=some (f,vs)->AM P w K mg base lvl S e f vs) (h:HF S e=some (f,vs)):AM P w K mg base lvl S e f vs:=by
 unfold HF at h;split at h
 ·split at h
  ·rename_i f1 v1 f2 v2 h1 h2;split at h
   ·rename_i hn;cases h;have g1:=Fy hd _ _ _ h1;have g2:=hd _ _ _ h2;exact CO (Gq g1.1 g2.1) rfl (λ _ _=>rfl) λ X M xs m=>jQ (m.v g1.1) (P7 hn) (jt (g1.2.2 X M xs m)) (g2.2.2 X M xs m).1
   ·cases h
  ·cases h
 ·exact hd _ _ _ h
def ya (GX:GX K mg S.xc) (G:GS P w K mg base lvl S.Γ) (Gm:GP P w K mg base lvl S.Γm) (hS:∀ i,∀ j∈S.alF i,S.msF j=false) {d:Stmt->Option Fs} (ih:∀ (st:Stmt) (f:Fs),d st=some f->Hf P w K mg base lvl S st f):∀ (st:Stmt) (f:Fs),K5 d S st=some f->Hf P w K mg base lvl S st f:=by
 have hd:∀ e f vs,Bj 60 S e=some (f,vs)->AM P w K mg base lvl S e f vs:=λ e f vs h=>IM GX G Gm 60 S e f vs rfl rfl rfl hS h;have hdO:∀ e f vs,HF S e=some (f,vs)->AM P w K mg base lvl S e f vs:=λ e f vs h=>zi hd h;have hdA:∀ e f vs,Gf S e=some (f,vs)->AM P w K mg base lvl S e f vs:=λ e f vs h=>by
  unfold Gf at h;split at h
  ·cases h;exact CO (λ _ z=>nomatch z) rfl (λ _ _=>rfl) λ X M xs m=>xa
  ·exact hd _ _ _ h
 intro st f h;have core:True->Hf P w K mg base lvl S st f:=λ _=>by
  unfold K5 at h;split at h
  ·cases h;intro Wx X M xs sm pins s σ H D I q;exact (Xh pins s σ H D I (UX (t:=R8) q))
  ·rename_i v pos;unfold Mu at h;split at h
   ·rename_i fn es cpos;split at h
    ·rename_i o at' apos;split at h
     ·rename_i x e hx;obtain ⟨px,rfl⟩:=LN hx;unfold U2 at h;split at h
      ·rename_i hat;subst hat;split at h
       ·rename_i i f1 v1 hi he;split at h
        ·rename_i hc;cases h;have g:=hd _ _ _ he;intro Wx X M xs sm;have hb:=UR (X:=X) (cpos:=cpos) PySem.F.plainAttrs_list PySem.F.slot_list_append PySem.F.type_list_append XW (xs.var (pos:=px) hi) (KO (g.2.2 X M xs sm.ms).1 O5 (D1 (D4 g.2.1))) rfl (Uo g.2.1 X.env cpos) hc.2 (D1 (D4 g.2.1)) rfl;refine CC (RN hb rfl) λ D σ H q=>?_
         have:=xx (D:=D) sm.al (sm.ms.v g.1) (by rw [sm.ms.ms];exact hc.1) q
         rw [sm.ms.k xs] at this;exact this
        ·cases h
       ·cases h
      ·split at h
       ·rename_i hat;subst hat;split at h
        ·rename_i i f1 v1 hi he;split at h
         ·rename_i hc;cases h;have g:=hd _ _ _ he;intro Wx X M xs sm;have hb:=UR (X:=X) (cpos:=cpos) PySem.F.plainAttrs_list PySem.F.slot_list_extend PySem.F.type_list_extend wa (xs.var (pos:=px) hi) (KO (g.2.2 X M xs sm.ms).1 O5 (D1 (D4 g.2.1))) rfl (Uo g.2.1 X.env cpos) hc.2 (D1 (D4 g.2.1)) rfl;refine CC (RN hb rfl) λ D σ H q=>?_
          have:=x8 (D:=D) sm.al (sm.ms.v g.1) (by rw [sm.ms.ms];exact hc.1) q
          rw [sm.ms.k xs] at this;exact this
         ·cases h
        ·cases h
       ·cases h
     ·rename_i e hx;cases h
     ·cases h
    ·rename_i x p;split at h
     ·rename_i f1 v1 he;cases h;intro Wx X M xs sm;exact CC (RN ((hd _ _ _ he).2.2 X M xs sm.ms).1 rfl) λ D σ H q=>j9 q
     ·cases h
    ·cases h
   ·cases h
  ·rename_i ts e pos;rcases ts with _ | ⟨t,_ | _⟩
   ·cases h
   rotate_left
   ·cases h
   replace h:Rn S t e=some f:=h;unfold Rn at h;split at h
   ·rename_i es k p;split at h
    ·rename_i is f1 v1 hs he;split at h
     ·rename_i hc;cases h;have g:=hd _ _ _ he;intro Wx X M xs sm;obtain ⟨h1,h2,h3,h4⟩:=Up hs xs sm;have mk:M.K=X.K:=sm.ms.k xs;refine CC (V1 (g.2.2 X M xs sm.ms).1 (Ry xs.calm h1 h2 h3) ?_ ?_ ?_) λ D σ H q=>?_
      ·cases e <;> first | rfl | (cases hc.1)
      ·cases e <;> first | rfl | (cases hc.2)
      ·rfl
      ·have:=xB sm.al (sm.ms.v g.1) (QN h4) q
       rw [mk] at this;exact this
     ·cases h
    ·cases h
   ·rename_i x px;split at h
    ·rename_i i f1 v1 hi he;split at h
     ·rename_i hc;cases h;have g:=hdA _ _ _ he;intro Wx X M xs sm;have hN:X.N.Nodup:=by rw [xs.N];exact sm.nd
      have hi':X.N[i]?=some x:=by rw [xs.N];exact K8 hi
      have hx:E3 X.env.scope x:=by rw [xs.sc];exact LM hc.1
      have mi:M.Ms i=S.msF i:=by rw [sm.ms.ms]
      cases hcp:Rl e with
      | false=>exact CC (V2 hN hi' hx (g.2.2 X M xs sm.ms).1 (j0 hcp) (.inl (sm.fn x))) λ D σ H q=>VF sm.al (sm.ms.v g.1) mi (JP hc.2 sm) q
      | true=>
       cases e with
       | ListComp elt gs scope cpos=>
        obtain ⟨tg,ys,asg,it,ifs,iw,t,g2,vE,rfl,cp,rfl,rfl⟩:=kf GX G Gm hS (show Bj 60 S _=_ from he);obtain ⟨wi,gg,h1,h2,h3,h4,h5,h6⟩:=Ue (pos:=cpos) cp xs sm.ms;refine qM (wQ hN hi' hx (.inl (sm.fn x)) h2 xs.calm h1 h3 h4 h5 (Ig (n:=0) (f:=g2) (vs:=[]) cp.iwo.2.1)) λ D σ H hl q=>?_;exact h6 σ H _ (by rw [hl,xs.N]) (VF sm.al (sm.ms.v g.1) mi (JP hc.2 sm) q)
       | SetComp _ _ _ _=>simp [Gf,Bj,Ft] at he
       | DictComp _ _ _ _ _=>simp [Gf,Bj,Ft] at he
       | _=>cases hcp
     ·cases h
    ·cases h
   ·rename_i t k ps;unfold Vi at h;split at h
    ·rename_i x px;split at h
     ·rename_i i fk vk f1 v1 hi hk he;split at h
      ·rename_i hc;cases h;have g:=hdO _ _ _ he;intro Wx X M xs sm;refine CC (V1 (g.2.2 X M xs sm.ms).1 (xt (xs.var hi) ((hd _ _ _ hk).2.2 X M xs sm.ms).1 (qm (by have:=xs.room.units;omega)) ?_) ?_ ?_ rfl) λ D σ H q=>jC sm.al (by rw [sm.ms.ms];exact hc.1) (sm.ms.v g.1) q
       ·intro v;cases k <;> first | rfl | (cases hc.2)
       ·cases e <;> rfl
       ·cases e <;> rfl
      ·cases h
     ·cases h
    ·cases h
   ·cases h
  ·split at h
   ·rename_i f1 v1 s t hc ha hb;cases h;intro Wx X M xs sm;exact CC (qe (VR GX G Gm hS hc xs sm.ms) (JE ih _ _ ha X M xs sm) (JE ih _ _ hb X M xs sm)) λ D σ H q=>ZR q
   ·cases h
  ·rename_i t it body o pos;rcases o with _ | _
   rotate_left
   ·cases h
   replace h:Ro d S t it body=some f:=h;unfold Ro at h;split at h
   ·rename_i x px;split at h
    ·rename_i f' hf;cases h;exact λ {Wx}=>zu G.1 hd ih hf
    split at h
    ·rename_i i iw b hi hw hb;split at h
     ·rename_i hc;cases h;intro Wx X M xs sm;have hN:X.N.Nodup:=by rw [xs.N];exact sm.nd
      have hi':X.N[i]?=some x:=by rw [xs.N];exact K8 hi
      have hx:E3 X.env.scope x:=by rw [xs.sc];exact LM hc.1
      have giw:=MH hd (MI 60 S) G.1 hw;have hbd:=P0 hd ih hb X M xs sm;have hg:CN M [] [i] (Fe i) (asgN i):=Rj ⟨by rw [sm.ms.ms];exact hc.2.2.1,JP hc.2.1 sm,sm.al i,sm.ms.als⟩;have hpg:PG X (.Name x px) (Fe i):=KP hN hi' hx (.inl (sm.fn x));have hpi:=giw.2.2 X M xs sm.ms (.Name x px);have hf:=Ig (n:=0) (env:=X.env) (f:=Aa 0) (vs:=[]) giw.2.1;cases iw with
      | rng en fa vs=>
       rcases hpi with ⟨rfl,hpi⟩ | ⟨rfl,hpi⟩
       ·exact CC (Fc (EX xs) xs.calm hpi hpg hbd hf) λ D σ H q=>Wz hg q
       ·exact CC (Fc (EX xs) xs.calm hpi hpg hbd hf) λ D σ H q=>W2 hg q
      | seq f vs=>exact CC (Fc (EX xs) xs.calm hpi hpg hbd hf) λ D σ H q=>RS sm.al (sm.ms.v giw.1) hg q
      | vw v fa vs=>exact CC (Fc (EX xs) xs.calm (hpi hc.2.2.2) hpg hbd hf) λ D σ H q=>W3 sm.al (sm.ms.v giw.1) hg q
     ·cases h
    ·cases h
   ·rename_i es k p;split at h
    ·rename_i is iw b hs hw hb;cases h;intro Wx X M xs sm;have giw:=MH hd (MI 60 S) G.1 hw;have hbd:=P0 hd ih hb X M xs sm;obtain ⟨h1,h2,h3,h4⟩:=Up hs xs sm;have mk:M.K=X.K:=sm.ms.k xs;have hg:=QN (M:=M) (al:=[]) h4;have hpg:=Ry (pos:=p) (k:=k) xs.calm h1 h2 h3;rw [<- mk] at hpg;have hpi:=giw.2.2 X M xs sm.ms (.Tuple es k p);have hf:=Ig (n:=0) (env:=X.env) (f:=Aa 0) (vs:=[]) giw.2.1;cases iw with
     | rng en fa vs=>
      rcases hpi with ⟨rfl,hpi⟩ | ⟨rfl,hpi⟩
      ·exact CC (Fc (EX xs) xs.calm hpi hpg hbd hf) λ D σ H q=>Wz hg q
      ·exact CC (Fc (EX xs) xs.calm hpi hpg hbd hf) λ D σ H q=>W2 hg q
     | seq f vs=>exact CC (Fc (EX xs) xs.calm hpi hpg hbd hf) λ D σ H q=>RS sm.al (sm.ms.v giw.1) hg q
     | vw v fa vs=>exact CC (Fc (EX xs) xs.calm (hpi (by cases v <;> rfl)) hpg hbd hf) λ D σ H q=>W3 sm.al (sm.ms.v giw.1) hg q
    ·cases h
   ·cases h
  ·split at h
   ·rename_i f1 v1 b hc hb;cases h;intro Wx X M xs sm;exact CC (kJ xs.po (VR GX G Gm hS hc xs sm.ms) (JE ih _ _ hb X M xs sm)) λ D σ H q=>vK q
   ·cases h
  ·rename_i t op e pos;unfold VB at h;split at h
   ·rename_i x px;split at h
    ·rename_i i f1 v1 g sd hi he hop;split at h
     ·rename_i hc;cases h;intro Wx X M xs sm;have hN:X.N.Nodup:=by rw [xs.N];exact sm.nd
      have hi':X.N[i]?=some x:=by rw [xs.N];exact K8 hi
      have hx:E3 X.env.scope x:=by rw [xs.sc];exact LM hc.1
      have hp:I0 X op (OT g sd):=by
       unfold Om at hop;split at hop
       ·cases hop;exact z9
       ·cases hop;exact jh
       ·cases hop
      exact CC (qL hN hi' hx ((hd _ _ _ he).2.2 X M xs sm.ms).1 hp (.inl (sm.fn x))) λ D σ H q=>x6 sm.al (by rw [sm.ms.ms];exact hc.2.2) (JP hc.2.1 sm) q
     ·cases h
    ·cases h
   ·rename_i o k pk;split at h
    ·rename_i x px;split at h
     ·rename_i s fj vj f1 v1 g sd hs hj he hop;split at h
      ·rename_i hc;cases h;intro Wx X M xs sm;have mk:M.K=X.K:=sm.ms.k xs;have hp:I0 X op (Mq g):=by
        unfold Om at hop;split at hop
        ·cases hop;exact Vn
        ·cases hop;exact Vo
        ·cases hop
       refine CC (jc (xs.var hs) ((hd _ _ _ hj).2.2 X M xs sm.ms).1 kr ((hd _ _ _ he).2.2 X M xs sm.ms).1 hp kR ?_) λ D σ H q=>?_
       ·intro _ _ _;cases k <;> first | rfl | (cases hc.2)
       ·have:=j8 (vs:=v1) (vj:=vj) sm.al (by rw [sm.ms.ms];exact hc.1) q
        rw [mk] at this;exact this
      ·cases h
     ·cases h
    ·cases h
   ·cases h
  ·rename_i o pos;rcases o with _ | e
   ·cases h
   replace h:Rp S e=some f:=h;unfold Rp at h;split at h
   ·rename_i x hx;obtain ⟨px,rfl⟩:=LN hx;split at h
    ·rename_i i hi;split at h
     ·cases h
     ·rename_i hm;cases h;intro Wx X M xs sm;exact CC (RA (xs.var hi)) λ D σ H q=>jD sm.al (by rw [sm.ms.ms];simpa using hm) q
    ·cases h
   ·rename_i hx;split at h
    ·rename_i f1 v1 he;cases h;intro Wx X M xs sm;exact CC (RA ((Wf GX G Gm hS he).2 X M xs sm)) λ D σ H q=>VE (sm.ms.v (Wf GX G Gm hS he).1) q
    ·split at h
     ·rename_i f1 v1 he;cases h;intro Wx X M xs sm;exact CC (RA ((hd _ _ _ he).2.2 X M xs sm.ms).1) λ D σ H q=>VE (sm.ms.v (hd _ _ _ he).1) q
     ·cases h
  ·cases h
 exact λ {Wx}=>core trivial
theorem ke (GX:GX K mg S.xc) (G:GS P w K mg base lvl S.Γ) (Gm:GP P w K mg base lvl S.Γm) (hS:∀ i,∀ j∈S.alF i,S.msF j=false):∀ (n:Nat) (st:Stmt) (f:Fs),LA n S st=some f->Hf P w K mg base lvl S st f:=by
 intro n;induction n with
 | zero=>intro st f h;cases h
 | succ n ih=>
  intro st f h;replace h:some ((K5 (LA n S) S st).getD FN)=some f:=h;cases e0:K5 (LA n S) S st with
  | none=>
   rw [e0] at h;cases h;intro Wx X M xs sm pins s σ H D I q;exact (Xh pins s σ H D I (UX (t:=R8) q))
  | some f'=>
   rw [e0] at h;cases h;exact λ {Wx}=>ya GX G Gm hS ih _ _ e0
def A6:Nat->Sx->Stmt->Option Fs:=LA
def zj (GX:GX K mg S.xc) (G:GS P w K mg base lvl S.Γ) (Gm:GP P w K mg base lvl S.Γm) (hS:∀ i,∀ j∈S.alF i,S.msF j=false):∀ (n:Nat) (st:Stmt) (f:Fs),A6 n S st=some f->Hf P w K mg base lvl S st f:=ke GX G Gm hS
def Ay (io:Bool) (np k:Nat) (b:Fs):Fn:=λ xs=>if xs.length=np/\io=false then (match b (xs.map (λ x=>some (x,dv x))++AB k none) with
 | .rt y d _=>.ok (y,d,.non)
 | .nx _=>.ok (.non,om,.non)
 | _=>.no) else .no
def E8 {io:Bool}{np k:Nat}{b:Fs}:∀ xs,xs.length≠np->Ay io np k b xs=.no:=λ xs h=>by
 unfold Ay;rw [if_neg λ z=>h z.1]
def zy {x qual:Str}{st:Stmt}{f:Addr}{fd:Dg}{N ps:List Str}{k:Nat}{sp:Sp} (F:Fun K x qual st f fd) (S:FnScope N ps (A4 st)) (len:∀ vs H Q E,sp vs H Q E->vs.length=ps.length)
  (hbody:∀ (cdv:Ad) (A:Bs) (outer:List Env) (s:Ai) (H:Hp) (vs:List V) (Q:VK) (E:XK),Room k (A.deeper (Hm qual (A4 st) s.heap.objs.size f cdv))->sp vs H Q E ->
   ∃ t,Eo (CL (AW P w K) P w K mg base N qual (A4 st) f cdv A outer s H E) (Bm st) t/\t { nx:=λ _ H'=>Q .non H',rt:=Q } (L2.start N vs) H):FnOk P w K mg base (AW P w K) (k + 1) f fd ps sp:=by
 obtain ⟨oc,od,kV,doc,pm,an,cdv,ct,osl,rfl,lk,hcd⟩:=F.ex;exact ZH lk hcd S len λ A outer s H vs Q E hr hsp=>hbody cdv A outer s H vs Q E hr hsp
def ZG {x qual:Str}{st:Stmt}{fa:Addr}{fd:Dg}{ps:List Str}{np k:Nat}{io:Bool}{b:Fs} (Fu:Fun K x qual st fa fd) (FS:FnScope S.N ps (A4 st)) (hsc:S.sc=A4 st) (hal:S.al=[]) (hnp:ps.length=np) (hk:S.N.length=np + k)
  (hms:∀ i∈S.ms,i < np->i=0/\io=true) (hio:io=true->S.msF 0=true/\0 < np) (GX:GX K mg S.xc) (G:GS P w K mg base lvl S.Γ) (Gm:GP P w K mg base lvl S.Γm) (hb:Bk (A6 60 S) (Bm st)=some b):
  FnOk P w K mg base (AW P w K) (lvl + 1) fa fd ps (Bi K io np (Ay io np k b)):=by
 have hS:∀ i,∀ j∈S.alF i,S.msF j=false:=λ i j hj=>by
  unfold Sx.alF at hj;rw [hal] at hj;simp at hj
 refine zy Fu FS (λ vs H Q E h=>h.1.trans hnp.symm) λ cdv A outer s H vs Q E hr h=>?_;obtain ⟨hl,xs,Zo,hZ,o,q⟩:=h;let M:Fm:={ K:=K,Ms:=S.msF,Zo:=Zo,H₀:=H,W:=W0,io:=none,al:=λ _=>[] }
 have hxs:XS (CL (AW P w K) P w K mg base S.N qual (A4 st) fa cdv A outer s H E) P w K mg base lvl S W0:=⟨rfl,rfl,rfl,rfl,rfl,rfl,hsc.symm,rfl,hr,zQ,Vv,λ _=>jM⟩
 have hsm:SM (CL (AW P w K) P w K mg base S.N qual (A4 st) fa cdv A outer s H E) M K S W0:=by
  refine ⟨⟨rfl,rfl,λ i _=>?_,(λ i j hj=>nomatch hj),rfl,λ _ h=>nomatch h⟩,λ _=>rfl,λ h=>absurd rfl h,(λ _ h=>nomatch h),λ _=>rfl,FS.nd,rfl,rfl⟩;show []=S.al.getD i [];rw [hal];rfl
 unfold Ay at q;have hlen:xs.length=np/\io=false:=by
  by_cases e:xs.length=np/\io=false
  ·exact e
  ·rw [if_neg e] at q;exact q.elim
 rw [if_pos hlen] at q;have get:∀ i y d,(xs.map (λ x=>(some (x,dv x):Slot))++AB k none)[i]?=some (some (y,d))->xs[i]?=some y/\d=dv y:=λ i y d e=>by
  by_cases hi:i < xs.length
  ·rw [CF (by rw [AG];exact hi),BW,Cd hi] at e;cases e;exact ⟨Cd hi,rfl⟩
  ·rw [FZ (by rw [AG];omega),DP] at e;split at e <;> cases e
 refine ⟨tS M b,JE (zj GX G Gm hS 60) _ _ hb _ M hxs hsm,xs.map (λ x=>some (x,dv x))++AB k none,λ _=>[],?_,?_⟩
 ·refine ⟨λ i y d e=>?_,λ i h=>rfl,λ i j hij a ha _=>(nomatch ha),λ i a ha=>(nomatch ha),λ i hi a ha=>(nomatch ha),hZ,?_,λ i y d hi e=>?_,λ a h=>h,⟨λ v hv=>(nomatch hv),λ _ h=>(nomatch h)⟩⟩
  ·obtain ⟨e1,rfl⟩:=get i y d e;obtain ⟨v,ev,ov⟩:=o.nth e1;refine ⟨v,?_,ov.dv.weak λ a h=>?_⟩
   ·unfold L2.start;rw [CF (by rw [AG];exact (jb1.mp ev).1),BW,ev];rfl
   ·rcases h with h | ⟨j,_,h⟩
    ·exact h
    ·cases h
  ·unfold L2.start;rw [BI,AG,El,BI,AG,El,o.length,hlen.1,hk];omega
  ·have hm:i∈S.ms:=by
    have hi':S.msF i=true:=hi;unfold Sx.msF at hi';simpa using hi'
   have:=(jb1.mp (get i y d e).1).1
   have:=(hms i hm (by rw [<- hlen.1];exact this)).2
   rw [hlen.2] at this;cases this
 ·have fin:∀ {y:PV}{d:Nat}{v:V}{H':Hp}{fps':AN}{fp:List Addr},(∀ v H' fp,D0 (λ _=>False) H H'->(∀ a,H a≠none->H' a≠none)->Own K H' (λ a=>Zo a\/a∈fp) y d v fp->(∀ a∈fp,H a=none/\¬ Zo a)->Q v H')->KS M H (λ _=>[]) H' fps'->Own M.K H' (λ a=>Zr M fps' a\/a∈fp) y d v fp->(∀ a∈fp,M.H₀ a=none/\¬ Zr M fps' a)->Q v H':=λ q ks oy hf=>q _ _ _ (λ a o h _=>ks.keep a o h λ ⟨i,hi⟩=>(nomatch hi)) ks.dom (oy.weak λ a h=>h.elim (λ h=>.inl (.inl h)) .inr) λ a ha=>⟨(hf a ha).1,λ z=>(hf a ha).2 (.inl z)⟩
  cases eb:b (xs.map (λ x=>some (x,dv x))++AB k none) with
  | no=>rw [eb] at q;exact q
  | exc c=>rw [eb] at q;exact q.elim
  | bk ρ=>rw [eb] at q;exact q.elim
  | ct ρ=>rw [eb] at q;exact q.elim
  | rt y d ρ'=>
   rw [eb] at q;exact λ v σ' H' fps' fp ks rp oy hf=>fin q ks oy hf
  | nx ρ'=>
   rw [eb] at q;exact λ σ' H' fps' ks rp=>fin (fp:=[]) q ks (by rw [Own];exact ⟨rfl,rfl⟩) λ _ z=>(nomatch z)
end
open PySem PySem.Spec PySem.W PySem.Calls PyProof.Rows L2
theorem TX {tb:String->Option vj9}{p:A9}{w:A7}{n₀:Nat}{ann:Option Ad}:∀ {n:Nat}{s r:SharedT}{t:Thread},JS tb p w n₀ ann n s t=some r->topRun tb p w n₀ ann n s.abs t=some r.abs
 | 0,_,_,_,h=>by cases h
 | n + 1,s,r,t,h=>by
  unfold JS at h;unfold topRun;cases e1:through t with
  | true=>rw [e1] at h;cases h;rfl
  | false=>
   rw [e1] at h;cases e2:stepOk n₀ ann t with
   | false=>rw [e2] at h;cases h
   | true=>
    rw [e2] at h;cases e3:stepT (denote tb) p w s t with
    | none=>rw [e3] at h;cases h
    | some z=>obtain ⟨s₂,t₂⟩:=z;rw [e3] at h;rw [stepT_spec e3];exact TX h
def jV (P:Params) (os:OsState):(bootS P os).abs=⟨Ef P,#[],boot_drawn,boot_toks,os⟩:=by kernel_rfl
def zH (P:Params):(Ef P).isNs Eg=true:=by kernel_rfl
def jk {p q:A9}{loose:List Str}{Xt:Ai->Bool}{α:Type}{Yf:Ai->α}{Ya:A7->α}{N:Nat} (e:opening p=plainProg p.main.scope.names) (hN:Sg 600 N=true) (f:∀ s,fenceModules? p s=some s)
  (run:∀ (w:A7) (os:OsState),(JS treeTable p w (Ef w.params).objs.size ((Ef w.params).nsMap Eg "__annotations__") N (bootS w.params os) (topStub p)).map (λ s=>RK p q loose Xt Yf (Ef w.params) s.abs)=some (true,openGood q loose,Ya w)):
  LeftO p q loose Xt Yf Ya N:=λ w=>by
 obtain ⟨⟨h,gs,d,k,os⟩,e1,e2⟩:=jc2.mp (boot_open e hN f w);obtain ⟨rfl,rfl,rfl,rfl⟩:h=Ef w.params/\gs=#[]/\d=boot_drawn/\k=boot_toks:=by simpa using e2
 obtain ⟨s,r1,r2⟩:=jc2.mp (run w os);have r:=TX r1;rw [jV] at r;have r3:(_=_)/\(_ ,_)=(_,_):=Prod.mk.inj r2;obtain ⟨l1,l23⟩:=r3;obtain ⟨l2,l3⟩:=Prod.mk.inj l23;have t:topFrom treeTable p w N ⟨Ef w.params,#[],boot_drawn,boot_toks,os⟩=some s.abs:=by
  unfold topFrom;dsimp only;rw [zH,r];show (match staticsOk (Qj p.main.body) (Ef w.params) s.abs.heap && namesBound p s.abs.heap && gensDone s.abs && laidKept (Ef w.params) s.abs.heap with | true=>_ | false=>_)=_;rw [l1]
 unfold openEnds;rw [e1];show (topFrom treeTable p w N _).map _=_;rw [t];exact congrArg some (Prod.ext l2 l3)
theorem qI (h:Heap):(LY h).In h:=by
 intro a o;unfold LY;generalize Aq h.objs.size=l;induction l with
 | nil=>intro e;cases e
 | cons b l ih=>
  intro e;rw [OR] at e;cases g:h.get? b with
  | none=>rw [g] at e;exact ih e
  | some z=>
   rw [g] at e;dsimp only [Mf] at e;rw [EO] at e;split at e
   ·rename_i q;cases e;rw [beq_iff_eq.mp q];exact g
   ·exact ih e
def ZZ {K:Frag}{x:Str}{st:Stmt} (e:RJ K x=some (Rm x st)):∃ (g:Addr) (fd:Dg),nsIn K Eg x=some (some (.ref g))/\Fun K x x st g fd:=by
 unfold RJ at e;split at e
 ·rename_i g hg;split at e
  ·rename_i oc od fd sl hl;cases fd;unfold Rm at e;simp only [Option.some.injEq,DefSeen.mk.injEq] at e;obtain ⟨rfl,rfl,rfl,rfl,rfl,rfl,rfl,rfl,rfl,hc⟩:=e;refine ⟨g,_,hg,qb hl hc ?_⟩;unfold keepIn;dsimp only;rw [hl]
  ·cases e
 ·cases e
structure Given (ds:List (Str×Stmt)) (xc:List Nat) (K:Frag) (mg:Str->Option Ad):Prop where
 df:∀ (i:Nat) (x:Str) (st:Stmt),ds[i]?=some (x,st)->∃ (g:Addr) (fd:Dg),mg x=some (.ref g)/\Fun K x x st g fd
 bn:∀ x∈zky,mg x=none
 gx:GX K mg xc
theorem Rq {α β:Type}{f g:α->β}:∀ {l:List α},l.map f=l.map g->∀ {i:Nat}{a:α},l[i]?=some a->f a=g a
 | [],_,_,_,h=>by cases h
 | b::l,e,0,a,h=>by
  cases h;exact (List.cons.inj e).1
 | b::l,e,i + 1,a,h=>Rq (List.cons.inj e).2 h
def ku {ds:List (Str×Stmt)}{xc:List Nat}{K:Frag}{mg:Str->Option Ad}{h:Heap} (X:K.In h) (G:h.Ns Eg mg) (e:KH ds xc K=LL ds):Given ds xc K mg:=by
 obtain ⟨e1,e2⟩:=Prod.mk.inj e;obtain ⟨e2,e3⟩:=Prod.mk.inj e2;refine ⟨λ i x st hi=>?_,λ x hx=>?_,?_⟩
 ·obtain ⟨g,fd,a,b⟩:=ZZ (Rq e1 hi);exact ⟨g,fd,mg_of X G a,b⟩
 ·obtain ⟨i,hi⟩:=List.getElem?_of_mem hx;exact mg_none_of X G (Rq e2 hi)
 ·cases xc with
  | nil=>rfl
  | cons _ _=>cases e3
def xZ {P:A9}{w:A7}{K:Frag}{outer:List Env}{H:Hp}{s:Ai}{e:Ad}{s2:Ai} (z:AW P w K outer H s (λ _ _ _=>False) e s2):False:=z
def holds_by {l:OpenLaw}{q:A9}{loose:List Str}{d:DefRec}{N k n:Nat}{ds:List (Str×Stmt)}{xc:List Nat}{F:Fn}{x:Str} (said:l.wellSaid=true)
  (e:opening l.prog=plainProg l.prog.main.scope.names) (hN:Sg 600 N=true) (f:∀ s,fenceModules? l.prog s=some s)
  (run:∀ (w:A7) (os:OsState),(JS treeTable l.prog w (Ef w.params).objs.size ((Ef w.params).nsMap Eg "__annotations__") N (bootS w.params os) (topStub l.prog)).map
   (λ s=>RK l.prog q loose (λ s=>xlAt q [] s && recOk (RowW.records l.row.toRowW) s) (λ s=>KH ds xc (LY s.heap)) (Ef w.params) s.abs)=some (true,openGood q loose,LL ds))
  (hdef:defOf q l.row.name=some (d,[])) (hp:l.row.prog.theDef l.row.name=some (d.params,d.body,d.scope)) (hk:kwWritten? d.params.kwonlyargs d.params.kw_defaults=some []) (hwr:(!l.row.writes || l.row.records.isEmpty)=true)
  (ok:(chainsOk q && opensWell l.row.prog && (frees l.row.toRowW && l.row.within.isEmpty))=true) (hb:l.row.prog.bare) (hw:l.row.toRowW.promised)
  (hn:l.most=some n) (hn2:n<=A0) (hdf:d.params.defaults=[]) (hr:Room k IW)
  (law:∀ (K:Frag) (w:A7) (mg:Str->Option Ad) (fa:Addr),Given ds xc K mg->mg d.name=some (.ref fa)->∃ fd:Dg,(∀ (s:Ai) (u:Ad),BindsTo s fd ⟨[u],[]⟩ [(x,u)]) /\
   ∀ base:Heap,FnOk l.prog w K mg base (AW l.prog w K) k fa fd [x] (Bi K false 1 F))
  (yes:∀ (K:Frag) (H:Hp) (a:Addr) (ns:List Int),ns.length<=n->HM H->Bl K H a (ns.map V.int)->Bi K false 1 F [.ref a] H (λ v _=>v=.bl true) λ _ _ _=>False):l.Holds:=by
 refine holds_law said λ ws=>?_;refine holds_open (q:=q) (loose:=loose) (Xt:=λ s=>xlAt q [] s && recOk (RowW.records l.row.toRowW) s) (XP:=XL q []) (Yf:=λ s=>KH ds xc (LY s.heap)) (Ya:=λ _=>LL ds) (YP:=λ _ h=>∃ K:Frag,K.In h/\KH ds xc K=LL ds) (N:=N)
  (jk e hN f run) (λ _ s z=>⟨_,qI _,z⟩) (λ _ _ _ ⟨K,a,b⟩ kp=>⟨K,a.keeps kp,b⟩) (λ s e=>xl_of s (jo9.mp e).1) XL.keeps hdef hp hk (λ s e=>recFacts_of (jo9.mp e).2) hwr ws ok hb hw ?_
 refine Att.attach_call hn hdf λ w s₀ s₁ mg mb fa o pm cd doc a vs ns G Y ho hd hcd hmg hobj hints hlen hg=>?_;obtain ⟨K,KX,hf⟩:=Y;obtain ⟨fd,hbd,hF⟩:=law K w mg fa (ku KX G.T.g hf) hmg;exact vc KX G.T.g G.T.b G.T.builtins G.T.nolimit hg hobj hints (Cv hlen hn2) hr (λ base _ _=>hF base) hbd (λ H hO hS=>yes K H a ns hlen hO hS) λ H e s'=>xZ
section
variable {P:A9}{w:A7}{K:Frag}{mg:Str->Option Ad}{base:Heap}
def DM {us:List Ad} (h:us.length=1):∃ a,us=[a]:=List.length_eq_one_iff.mp h
theorem Cs {us:List Ad} (h:us.length=2):∃ a b,us=[a,b]:=by
 cases us with
 | nil=>cases h
 | cons a r=>obtain ⟨b,rfl⟩:=DM (Nat.succ.inj h);exact ⟨a,b,rfl⟩
theorem CU {us:List Ad} (h:us.length=3):∃ a b c,us=[a,b,c]:=by
 cases us with
 | nil=>cases h
 | cons a r=>obtain ⟨b,c,rfl⟩:=Cs (Nat.succ.inj h);exact ⟨a,b,c,rfl⟩
theorem Ek {us:List Ad} (h:us.length=4):∃ a b c d,us=[a,b,c,d]:=by
 cases us with
 | nil=>cases h
 | cons a r=>obtain ⟨b,c,d,rfl⟩:=CU (Nat.succ.inj h);exact ⟨a,b,c,d,rfl⟩
def BK {lvl:Nat} (hb:∀ x∈zky,mg x=none):GS P w K mg base lvl []:=⟨hb,λ x io n F h=>by cases h⟩
def E6 {lvl:Nat}{x qual:Str}{st:Stmt}{fa:Addr}{fd:Dg}{ps:List Str}{io:Bool}{n:Nat}{F:Fn}{Γ:List (Str×(Bool×Nat×Fn))} (g:GS P w K mg base lvl Γ) (hx:(x == ("__debug__" : Str))=false) (hF:∀ xs,xs.length≠n->F xs=.no)
  (hm:mg x=some (.ref fa)) (Fu:Fun K x qual st fa fd) (hbd:qbj K fd ps []) (hn:ps.length=n) (ok:FnOk P w K mg base (AW P w K) lvl fa fd ps (Bi K io n F)):GS P w K mg base lvl ((x,(io,n,F))::Γ):=by
 refine ⟨g.1,λ y io' n' F' h=>?_⟩;rw [EO] at h;split at h
 ·rename_i e;cases h
  have:y=x:=eq_of_beq e
  subst this;exact ⟨hx,hF,fa,fd,ps,hm,Fu.kp,hbd,hn,ok⟩
 ·exact g.2 y io' n' F' h
def z4 {lvl:Nat}:GP P w K mg base lvl []:=λ x F h=>by cases h
def BM {lvl j:Nat}{x qual:Str}{st:Stmt}{fa:Addr}{fd:Dg}{ps:List Str}{io:Bool}{n:Nat}{F:Fn}{Γ:List (Str×(Bool×Nat×Fn))} (g:GS P w K mg base lvl Γ) (hm:mg x=some (.ref fa)) (Fu:Fun K x qual st fa fd) (hbd:qbj K fd ps []) (ok:FnOk P w K mg base (AW P w K) j fa fd ps (Bi K io n F)) (hl:j<=lvl:=by decide) (hx:(x == ("__debug__" : Str))=false:=by decide +kernel) (hF:∀ xs,xs.length≠n->F xs=.no:=by exact E8) (hn:ps.length=n:=by rfl):GS P w K mg base lvl ((x,(io,n,F))::Γ):=E6 g hx hF hm Fu hbd hn (ok.mono hl)
def BN (S:Sx) {lvl:Nat}{x qual:Str}{st:Stmt}{fa:Addr}{fd:Dg}{ps:List Str}{np k:Nat}{io:Bool}{b:Fs} (Fu:Fun K x qual st fa fd) (FS:FnScope S.N ps (A4 st)) (gX:GX K mg S.xc) (G:GS P w K mg base lvl S.Γ) (hb:Bk (A6 60 S) (Bm st)=some b) (hsc:S.sc=A4 st:=by rfl) (hal:S.al=[]:=by rfl) (hnp:ps.length=np:=by rfl) (hk:S.N.length=np + k:=by rfl) (hms:∀ i∈S.ms,i < np->i=0/\io=true:=by decide) (hio:io=true->S.msF 0=true/\0 < np:=by first | exact λ h=>Bool.noConfusion h | exact λ _=>⟨rfl,by decide⟩) (Gm:GP P w K mg base lvl S.Γm:=by exact z4):FnOk P w K mg base (AW P w K) (lvl + 1) fa fd ps (Bi K io np (Ay io np k b)):=ZG (S:=S) Fu FS hsc hal hnp hk hms hio gX G Gm hb
end
def sp_yes {K:Frag}{H:Hp}{a:Addr}{ns:List Int}{F:Fn} (hO:HM H) (hS:Bl K H a (ns.map V.int)) (h:∃ d z,F [.scr ns]=.ok (.bl true,d,z)):Bi K false 1 F [.ref a] H (λ v _=>v=.bl true) λ _ _ _=>False:=by
 refine ⟨rfl,[.scr ns],λ _=>False,λ _ z=>z.elim,?_,?_⟩
 ·rw [OwnL];refine ⟨.ref a,[],[],[],rfl,rfl,λ _ z=>(nomatch z),?_,by rw [OwnL];exact ⟨rfl,rfl⟩⟩;rw [Own];refine ⟨rfl,a,rfl,?_⟩;rcases hS with (h | h) | h
  ·rcases hO a with z | ⟨ob,xs,z⟩
   ·rw [h] at z;cases z
   ·rw [h] at z;cases z
  ·exact .inl h
  ·exact .inr h
 ·obtain ⟨d,z,e⟩:=h;rw [e];intro v H' fp _ _ o _;rw [Own] at o;exact o.1
end QQ
namespace QV
open PySem PySem.Spec PyProof.Rows L2 QQ
def BR {op:PV->Nat->PV->Nat->Option (PV×Nat)}{f g:Fx}{ρ ρ1 ρ2:Ae}{x y z:PV}{d e c:Nat} (h1:f ρ=.ok (x,d,ρ1)) (h2:g ρ1=.ok (y,e,ρ2)) (h3:op x d y e=some (z,c)):Ab op f g ρ=.ok (z,c,ρ2):=by
 unfold Ab;rw [h1];dsimp only [Rz.bind];rw [h2];dsimp only;rw [h3]
def Va {op:PV->Nat->Option (PV×Nat)}{f:Fx}{ρ ρ1:Ae}{x z:PV}{d c:Nat} (h1:f ρ=.ok (x,d,ρ1)) (h3:op x d=some (z,c)):Bu op f ρ=.ok (z,c,ρ1):=by
 unfold Bu;rw [h1];dsimp only [Rz.bind];rw [h3]
def AD {f:Fx}{fa:Fa}{ρ ρ1 ρ2:Ae}{x:PV}{d:Nat}{xs:List (PV×Nat)} (h1:f ρ=.ok (x,d,ρ1)) (h2:fa ρ1=.ok (xs,ρ2)):Af f fa ρ=.ok ((x,d)::xs,ρ2):=by
 unfold Af;rw [h1];dsimp only [Rz.bind];rw [h2]
def AK {f:Fx}{ρ ρ1:Ae}{x:PV}{d:Nat} (h1:f ρ=.ok (x,d,ρ1)):Af f Ac ρ=.ok ([(x,d)],ρ1):=AD h1 rfl
def C5 {op:List (PV×Nat)->Option (PV×Nat)}{fa:Fa}{ρ ρ1:Ae}{xs:List (PV×Nat)}{z:PV}{c:Nat} (h1:fa ρ=.ok (xs,ρ1)) (h2:op xs=some (z,c)):Ao op fa ρ=.ok (z,c,ρ1):=by
 unfold Ao;rw [h1];dsimp only [Rz.bind];rw [h2]
def AQ {F:Fn}{fa:Fa}{ρ ρ1:Ae}{xs:List (PV×Nat)}{y z:PV}{d:Nat} (h1:fa ρ=.ok (xs,ρ1)) (h2:F (xs.map (·.1))=.ok (y,d,z)):A2 F fa ρ=.ok (y,d,ρ1):=by
 unfold A2;rw [h1];dsimp only [Rz.bind];rw [h2]
def De {f:Fx}{ρ ρ1:Ae}{x:PV}{d:Nat} (h:f ρ=.ok (x,d,ρ1)):Ax f ρ=.rt x d ρ1:=by
 unfold Ax;rw [h]
def Ie {f:Fx}{ρ ρ1:Ae}{x:PV}{d:Nat} (h:f ρ=.ok (x,d,ρ1)):CY f ρ=.nx ρ1:=by
 unfold CY;rw [h]
def BV {i:Nat}{f:Fx}{vs:List Nat}{ρ ρ1 ρ2:Ae}{x:PV}{d:Nat} (h:f ρ=.ok (x,d,ρ1)) (hc:i < ρ1.length) (e:(AZ d vs ρ1).set i (some (x,d))=ρ2):Al false i f vs ρ=.nx ρ2:=by
 unfold Al;rw [h];dsimp only;rw [if_pos ⟨hc,λ h=>nomatch h⟩,e]
def VH {asg:PV->Ae->Option Ae}{f:Fx}{vs:List Nat}{ρ ρ1 ρ2:Ae}{x:PV}{d:Nat} (h:f ρ=.ok (x,d,ρ1)) (e:asg x (AZ d vs ρ1)=some ρ2):Cp asg f vs ρ=.nx ρ2:=by
 unfold Cp;rw [h];dsimp only;rw [e]
def Rg {i:Nat}{f:Fx}{vs:List Nat}{ρ ρ1 ρ2:Ae}{y:PV}{e:Nat}{xs:List PV}{d0 d:Nat}{xs0:List PV} (h0:ρ[i]?=some (some (.lst xs0,d0 + 1))) (h:f ρ=.ok (y,e,ρ1)) (h1:(AZ e vs ρ1)[i]?=some (some (.lst xs,d))) (hd:d≠0) (hl:xs.length < A0)
  (e2:(AZ e vs ρ1).set i (some (.lst (xs++[y]),if d=om/\e=om then om else 1))=ρ2):C1 i f vs ρ=.nx ρ2:=by
 unfold C1;rw [h0];dsimp only;rw [h];dsimp only;rw [h1];dsimp only;rw [if_pos ⟨hd,hl⟩,e2]
def AU {f g:Fs}{ρ ρ1:Ae} (h:f ρ=.nx ρ1):Ag f g ρ=g ρ1:=by
 unfold Ag;rw [h]
def UB {c:Fb}{f g:Fs}{ρ ρ1:Ae}{b:Bool} (hc:c ρ=.ok (b,ρ1)):BH c f g ρ=if b=true then f ρ1 else g ρ1:=by
 unfold BH;rw [hc]
def CJ {c:Fb}{f g:Fs}{ρ ρ1:Ae} (hc:c ρ=.ok (true,ρ1)):BH c f g ρ=f ρ1:=by rw [UB hc];rfl
def CK {c:Fb}{f g:Fs}{ρ ρ1:Ae} (hc:c ρ=.ok (false,ρ1)):BH c f g ρ=g ρ1:=by rw [UB hc];rfl
def DZ {c:Fb}{f g:Fs}{ρ ρ1:Ae} (hc:c ρ=.ok (false,ρ1)):Ag (BH c f AJ) g ρ=g ρ1:=AU (by rw [CK hc];rfl)
def Ii {f g:Fs}{ρ ρ1:Ae}{x:PV}{d:Nat} (h:f ρ=.rt x d ρ1):Ag f g ρ=.rt x d ρ1:=by
 unfold Ag;rw [h]
def AI {f:Fx}{ρ ρ1:Ae}{b:Bool}{d:Nat} (h:f ρ=.ok (.bl b,d,ρ1)):bT f ρ=.ok (b,ρ1):=by
 unfold bT;rw [h];rfl
def GU {f:Fx}{ρ ρ1:Ae}{b:Bool}{d:Nat} (h:f ρ=.ok (.bl b,d,ρ1)):Bu CS f ρ=.ok (.bl (!b),om,ρ1):=Va h rfl
theorem LJ {f g:Fx}{ρ ρ1:Ae}{a b:Bool}{d:Nat} (h:f ρ=.ok (.bl a,d,ρ1)) (h2:a=true->g ρ1=.ok (.bl b,om,ρ1)) (hd:d=om):D6 f g ρ=.ok (.bl (a && b),om,ρ1):=by
 subst hd;unfold D6;rw [h];cases a with
 | false=>rfl
 | true=>exact h2 rfl
theorem Hj {f g:Fx}{ρ ρ1:Ae}{a b:Bool}{d:Nat} (h:f ρ=.ok (.bl a,d,ρ1)) (h2:a=false->g ρ1=.ok (.bl b,om,ρ1)) (hd:d=om):Bv f g ρ=.ok (.bl (a || b),om,ρ1):=by
 subst hd;unfold Bv;rw [h];cases a with
 | true=>rfl
 | false=>exact h2 rfl
def FD {f g:Fx}{ρ ρ1 ρ2:Ae}{i j:Int}{d e:Nat} (h1:f ρ=.ok (.int i,d,ρ1)) (h2:g ρ1=.ok (.int j,e,ρ2)) (h:(-(2 ^ 64) < i/\i < 2 ^ 64)\/(-(2 ^ 64) < j/\j < 2 ^ 64)):Ab BU f g ρ=.ok (.int (i * j),om,ρ2):=by
 refine BR h1 h2 ?_;show (if FO i j=true then _ else _)=_;rw [if_pos];unfold FO;rcases h with h | h
 ·rw [decide_eq_true h.1,decide_eq_true h.2];rfl
 ·rw [decide_eq_true h.1,decide_eq_true h.2];simp
def DB {f g:Fx}{ρ ρ1 ρ2:Ae}{i j:Int}{d e:Nat} (h1:f ρ=.ok (.int i,d,ρ1)) (h2:g ρ1=.ok (.int j,e,ρ2)) (h:0 < j):Ab Cy f g ρ=.ok (.int (i % j),om,ρ2):=by
 refine BR h1 h2 ?_;show (if Hx i j=true then _ else _)=_;rw [if_pos];exact decide_eq_true h
def FC {f g:Fx}{ρ ρ1 ρ2:Ae}{i j:Int}{d e:Nat} (h1:f ρ=.ok (.int i,d,ρ1)) (h2:g ρ1=.ok (.int j,e,ρ2)) (h:0 < j) (h':j < 2 ^ 128):Ab Ea f g ρ=.ok (.int (i / j),om,ρ2):=by
 refine BR h1 h2 ?_;show (if FP i j=true then _ else _)=_;rw [if_pos];have h3:j.natAbs < 2 ^ 128:=by omega
 have h4:j.natAbs≠0:=by omega
 have h5:j.natAbs.log2 < 9000:=by have:=(Nat.log2_lt h4).mpr h3;omega
 unfold FP;rw [decide_eq_true h,decide_eq_true h5];rfl
def Dj {f g:Fx}{ρ ρ1 ρ2:Ae}{i j:Int}{d e:Nat} (h1:f ρ=.ok (.int i,d,ρ1)) (h2:g ρ1=.ok (.int j,e,ρ2)):Ab Bf f g ρ=.ok (.int (i + j),om,ρ2):=BR h1 h2 rfl
def IU {f g:Fx}{ρ ρ1 ρ2:Ae}{i j:Int}{d e:Nat} (h1:f ρ=.ok (.int i,d,ρ1)) (h2:g ρ1=.ok (.int j,e,ρ2)):Ab Ec f g ρ=.ok (.int (i - j),om,ρ2):=BR h1 h2 rfl
def CG {p:Int->Int->Bool}{f g:Fx}{ρ ρ1 ρ2:Ae}{i j:Int}{d e:Nat} (h1:f ρ=.ok (.int i,d,ρ1)) (h2:g ρ1=.ok (.int j,e,ρ2)):Ab (BC p) f g ρ=.ok (.bl (p i j),om,ρ2):=BR h1 h2 rfl
def Xi {p q:Int->Int->Bool}{f g h:Fx}{ρ:Ae}{i j k:Int}{d e c:Nat} (h1:f ρ=.ok (.int i,d,ρ)) (h2:g ρ=.ok (.int j,e,ρ)) (h3:h ρ=.ok (.int k,c,ρ)):He p q f g h ρ=.ok (.bl (p i j && q j k),om,ρ):=by
 unfold He;rw [h1];dsimp only [Rz.bind];rw [h2];dsimp only;by_cases hp:p i j=true
 ·rw [if_pos hp,h3,hp];rfl
 ·rw [if_neg hp]
  have:p i j=false:=by simpa using hp
  rw [this];rfl
def yH {neg:Bool}{i j:Int}{d e:Nat}:Be neg (.int i) d (.int j) e=some (.bl (neg^^decide (i=j)),om):=by
 show some (PV.bl (neg^^EF (.int i) (.int j)),om)=_
 have:EF (.int i) (.int j)=decide (i=j):=by
  show (i == j)=_;rfl
 rw [this]
def Ip {neg:Bool}{f g:Fx}{ρ ρ1 ρ2:Ae}{i j:Int}{d e:Nat} (h1:f ρ=.ok (.int i,d,ρ1)) (h2:g ρ1=.ok (.int j,e,ρ2)):Ab (Be neg) f g ρ=.ok (.bl (neg^^decide (i=j)),om,ρ2):=BR h1 h2 yH
def il (xs:List Int):PV:=.lst (xs.map .int)
def tb (t:List (List Int)):PV:=.lst (t.map il)
abbrev bx (a b c:Int):PV:=.tup [.int a,.int b,.int c]
def CZ {α:Type}{xs:List α}{k:Int}{x:α} (h0:0<=k) (h:xs[k.toNat]?=some x):BE xs k=some x:=by
 have hl:=(jb1.mp h).1;unfold BE DV;rw [if_pos h0,if_pos (by omega)];exact h
def GA {f g:Fx}{ρ ρ1 ρ2:Ae}{xs:List Int}{k x:Int}{d e:Nat} (h1:f ρ=.ok (il xs,d,ρ1)) (h2:g ρ1=.ok (.int k,e,ρ2)) (h:BE xs k=some x):Ab A3 f g ρ=.ok (.int x,om,ρ2):=by
 refine BR h1 h2 ?_;show (BE (xs.map PV.int) k).map _=_
 have:BE (xs.map PV.int) k=some (.int x):=by
  unfold BE at h ⊢;rw [AG];cases e:DV xs.length k with
  | none=>rw [e] at h;cases h
  | some j=>
   rw [e] at h;have h':xs[j]?=some x:=h;show (xs.map PV.int)[j]?=_;rw [BW,h'];rfl
 rw [this];rfl
def Rk {f g:Fx}{ρ ρ1 ρ2:Ae}{t:List (List Int)}{k:Int}{r:List Int}{d e:Nat} (h1:f ρ=.ok (tb t,d,ρ1)) (h2:g ρ1=.ok (.int k,e,ρ2)) (h:BE t k=some r):Ab A3 f g ρ=.ok (il r,0,ρ2):=by
 refine BR h1 h2 ?_;show (BE (t.map il) k).map _=_
 have:BE (t.map il) k=some (il r):=by
  unfold BE at h ⊢;rw [AG];cases e:DV t.length k with
  | none=>rw [e] at h;cases h
  | some j=>
   rw [e] at h;have h':t[j]?=some r:=h;show (t.map il)[j]?=_;rw [BW,h'];rfl
 rw [this];rfl
def O3 {fa:Fa}{ρ ρ1:Ae}{xs:List Int}{d:Nat} (h:fa ρ=.ok ([(il xs,d)],ρ1)):Ao Fw fa ρ=.ok (.int xs.length,om,ρ1):=by
 refine C5 h ?_;show some (PV.int ((xs.map PV.int).length:Nat),om)=_;rw [AG]
def qp {fa:Fa}{ρ ρ1:Ae}{t:List (List Int)}{d:Nat} (h:fa ρ=.ok ([(tb t,d)],ρ1)):Ao Fw fa ρ=.ok (.int t.length,om,ρ1):=by
 refine C5 h ?_;show some (PV.int ((t.map il).length:Nat),om)=_;rw [AG]
theorem HS {α:Type}{n:Nat}{test:Fb}{elt:Fx}{enc q:α->PV}{e:α->Nat}{p:α->Bool}:∀ (xs:List α) (ρ:Ae) (acc:List (PV×Nat)),ρ.length=n->(∀ x∈xs,test (ρ++[some (enc x,dv (enc x))])=.ok (p x,ρ++[some (enc x,dv (enc x))])) ->
  (∀ x∈xs,p x=true->elt (ρ++[some (enc x,dv (enc x))])=.ok (q x,e x,ρ++[some (enc x,dv (enc x))]))->acc.length + xs.length<=A0->BY 1 (asgN n) test elt (xs.map enc) ρ acc=.ok (acc++(xs.filter p).map (λ x=>(q x,e x)),ρ)
 | [],ρ,acc,_,_,_,_=>by simp [BY]
 | x::xs,ρ,acc,hn,ht,he,hl=>by
  have ea:asgN n (enc x) (ρ++AB 1 none)=some (ρ++[some (enc x,dv (enc x))]):=by
   unfold asgN;rw [if_pos (by rw [BI,hn];simp),List.set_append_right _ _ (by omega),hn];simp
  have ih:=λ acc h=>HS (n:=n) (test:=test) (elt:=elt) (p:=p) (q:=q) (e:=e) (enc:=enc) xs ρ acc hn (λ y hy=>ht y (AH _ hy)) (λ y hy=>he y (AH _ hy)) h;have tk:(ρ++[some (enc x,dv (enc x))]).take ρ.length=ρ:=by simp
  rw [Ba] at hl;rw [AR];unfold BY;rw [ea];dsimp only;rw [ht x AF];dsimp only [Rz.bindN];cases hp:p x with
  | false=>
   rw [if_neg Ck,tk,ih acc (by omega),YR (by simp [hp])]
  | true=>
   rw [if_pos rfl,he x AF hp];dsimp only;rw [if_pos (by omega),tk,ih _ (by rw [BI,GL];omega),YQ hp];simp
theorem JJ {α:Type} (q:α->PV):∀ xs:List α,CB (xs.map λ x=>(q x,om))=true
 | []=>rfl
 | x::xs=>by rw [AR];unfold CB;rw [JJ q xs];rfl
def La {α:Type}{n:Nat}{f elt:Fx}{enc q:α->PV}{ρ ρ1:Ae}{d:Nat} (xs:List α) (hf:f ρ=.ok (.lst (xs.map enc),d,ρ1)) (hn:ρ1.length=n) (he:∀ x∈xs,elt (ρ1++[some (enc x,dv (enc x))])=.ok (q x,om,ρ1++[some (enc x,dv (enc x))])) (hl:xs.length<=A0):
  Cf f 1 (asgN n) Bb elt ρ=.ok (.lst (xs.map q),om,ρ1):=by
 unfold Cf;rw [hf];dsimp only;rw [HS (p:=λ _=>true) (q:=q) (e:=λ _=>om) xs ρ1 [] hn (λ _ _=>rfl) (λ x hx _=>he x hx) (by simpa using hl),je3.mpr (λ _ _=>rfl)];show C4 (xs.map λ x=>(q x,om)) ρ1=_;unfold C4;rw [JJ,Cu];rfl
def kc {α:Type}{n:Nat}{f elt:Fx}{enc q:α->PV}{ρ ρ1:Ae}{d:Nat} (xs:List α) (hf:f ρ=.ok (.tup (xs.map enc),d,ρ1)) (hn:ρ1.length=n) (he:∀ x∈xs,elt (ρ1++[some (enc x,dv (enc x))])=.ok (q x,om,ρ1++[some (enc x,dv (enc x))])) (hl:xs.length<=A0):
  Cf f 1 (asgN n) Bb elt ρ=.ok (.lst (xs.map q),om,ρ1):=by
 unfold Cf;rw [hf];dsimp only;rw [HS (p:=λ _=>true) (q:=q) (e:=λ _=>om) xs ρ1 [] hn (λ _ _=>rfl) (λ x hx _=>he x hx) (by simpa using hl),je3.mpr (λ _ _=>rfl)];show C4 (xs.map λ x=>(q x,om)) ρ1=_;unfold C4;rw [JJ,Cu];rfl
def Xj {α:Type}{n:Nat}{f elt:Fx}{test:Fb}{enc q:α->PV}{p:α->Bool}{ρ ρ1:Ae}{d:Nat} (xs:List α) (hf:f ρ=.ok (.lst (xs.map enc),d,ρ1)) (hn:ρ1.length=n) (ht:∀ x∈xs,test (ρ1++[some (enc x,dv (enc x))])=.ok (p x,ρ1++[some (enc x,dv (enc x))])) (he:∀ x∈xs,p x=true->elt (ρ1++[some (enc x,dv (enc x))])=.ok (q x,om,ρ1++[some (enc x,dv (enc x))])) (hl:xs.length<=A0):
  Cf f 1 (asgN n) test elt ρ=.ok (.lst ((xs.filter p).map q),om,ρ1):=by
 unfold Cf;rw [hf];dsimp only;rw [HS (p:=p) (q:=q) (e:=λ _=>om) xs ρ1 [] hn ht he (by simpa using hl)];show C4 ((xs.filter p).map λ x=>(q x,om)) ρ1=_;unfold C4;rw [JJ,Cu];rfl
def M7 (lo:Int) (n:Nat):Fz lo n=(Aq n).map λ (k:Nat)=>PV.int (lo + (k:Int)):=rfl
def GQ {n:Nat}{en:List (PV×Nat)->Option (Int×Int)}{fa:Fa}{elt:Fx}{q:Nat->PV}{ρ ρ1:Ae}{as:List (PV×Nat)}{lo hi:Int} (hf:fa ρ=.ok (as,ρ1)) (hen:en as=some (lo,hi)) (hn:ρ1.length=n) (he:∀ k,k < (hi - lo).toNat->elt (ρ1++[some (.int (lo + (k:Int)),om)])=.ok (q k,om,ρ1++[some (.int (lo + (k:Int)),om)])) (hl:(hi - lo).toNat<=A0):
  Ca en fa 1 (asgN n) Bb elt ρ=.ok (.lst ((Aq (hi - lo).toNat).map q),om,ρ1):=by
 unfold Ca;rw [hf];dsimp only;rw [hen];dsimp only;rw [M7,HS (enc:=λ (k:Nat)=>PV.int (lo + (k:Int))) (p:=λ _=>true) (q:=q) (e:=λ _=>om) (Aq (hi - lo).toNat) ρ1 [] hn (λ _ _=>rfl) (λ x hx _=>he x (jc4.mp hx)) (by simpa using hl),je3.mpr (λ _ _=>rfl)];show C4 ((Aq (hi - lo).toNat).map λ x=>(q x,om)) ρ1=_;unfold C4;rw [JJ,Cu];rfl
theorem k8 {α:Type} (g:α->Bool) (xs:List α):QQ.allB (xs.map λ x=>.bl (g x))=some (xs.map g):=by
 induction xs with
 | nil=>rfl
 | cons x r ih=>rw [AR,AR,QQ.allB,ih];rfl
def all_ok {α:Type}{f:Fx}{ρ ρ1:Ae}{d:Nat}{g:α->Bool}{xs:List α} (h:f ρ=.ok (.lst (xs.map λ x=>.bl (g x)),d,ρ1)):Ao E5 (Af f Ac) ρ=.ok (.bl (xs.all g),om,ρ1):=by
 refine C5 (AK h) ?_;show (QQ.allB _).map _=_;rw [k8];simp
theorem WV {i:Nat}{body:Fs}{lo:Int} (I:Nat->Ae->Prop):∀ (m k:Nat) (ρ:Ae),I k ρ->(∀ j ρ,k<=j->j < k + m->I j ρ->i < ρ.length/\∃ ρ2,body (ρ.set i (some (.int (lo + (j:Int)),om)))=.nx ρ2/\I (j + 1) ρ2) ->
  ∃ ρ',BS (asgN i) body ((Ko k m).map λ (k:Nat)=>PV.int (lo + (k:Int))) ρ=.nx ρ'/\I (k + m) ρ'
 | 0,k,ρ,hi,_=>⟨ρ,rfl,hi⟩
 | m + 1,k,ρ,hi,hb=>by
  obtain ⟨h1,ρ2,e2,h2⟩:=hb k ρ (A5 _) (by omega) hi;obtain ⟨ρ',e',h'⟩:=WV (i:=i) (body:=body) (lo:=lo) I m (k + 1) ρ2 h2 λ j ρ a b=>hb j ρ (by omega) (by omega);refine ⟨ρ',?_,by rw [show k + (m + 1)=k + 1 + m by omega];exact h'⟩;rw [Y3,AR];unfold BS
  have:asgN i (PV.int (lo + (k:Int))) ρ=some (ρ.set i (some (.int (lo + (k:Int)),om))):=by
   unfold asgN;rw [if_pos h1];rfl
  rw [this];dsimp only;rw [e2];exact e'
def PD {i:Nat}{body:Fs}{en:List (PV×Nat)->Option (Int×Int)}{fa:Fa}{ρ ρ1:Ae}{as:List (PV×Nat)}{lo hi:Int} (I:Nat->Ae->Prop) (hf:fa ρ=.ok (as,ρ1)) (hen:en as=some (lo,hi)) (h0:I 0 ρ1)
  (hb:∀ j ρ,j < (hi - lo).toNat->I j ρ->i < ρ.length/\∃ ρ2,body (ρ.set i (some (.int (lo + (j:Int)),om)))=.nx ρ2/\I (j + 1) ρ2):∃ ρ',CQ en fa (asgN i) body ρ=.nx ρ'/\I (hi - lo).toNat ρ':=by
 obtain ⟨ρ',e,h⟩:=WV (i:=i) (body:=body) (lo:=lo) I (hi - lo).toNat 0 ρ1 h0 λ j ρ _ h hi=>hb j ρ (by omega) hi;refine ⟨ρ',?_,by rw [Jw] at h;exact h⟩;unfold CQ;rw [hf];dsimp only;rw [hen];dsimp only;rw [M7,List.range_eq_range'];exact e
def Et {j:Int}{d:Nat} (h1:-(2 ^ 62)<=j) (h2:j < 2 ^ 62):AY [(.int j,d)]=some (0,j):=by
 show (if -(2 ^ 62)<=j/\j < 2 ^ 62 then some ((0:Int),j) else none)=_;rw [if_pos ⟨h1,h2⟩]
def kh {i j:Int}{d e:Nat} (h1:-(2 ^ 62)<=i) (h2:i < 2 ^ 62) (h3:-(2 ^ 62)<=j) (h4:j < 2 ^ 62):EA [(.int i,d),(.int j,e)]=some (i,j):=by
 show (if -(2 ^ 62)<=i/\i < 2 ^ 62/\-(2 ^ 62)<=j/\j < 2 ^ 62 then some (i,j) else none)=_;rw [if_pos ⟨h1,h2,h3,h4⟩]
def Cg {np k:Nat}{b:Fs}{xs:List PV}{ρ':Ae}{y:PV}{d:Nat} (hl:xs.length=np) (h:b (xs.map (λ x=>some (x,dv x))++AB k none)=.rt y d ρ'):Ay false np k b xs=.ok (y,d,.non):=by
 unfold Ay;rw [if_pos ⟨hl,rfl⟩,h]
def QD {np k:Nat}{b:Fs}{xs:List PV}{ρ':Ae} (hl:xs.length=np) (h:b (xs.map (λ x=>some (x,dv x))++AB k none)=.nx ρ'):Ay false np k b xs=.ok (.non,om,.non):=by
 unfold Ay;rw [if_pos ⟨hl,rfl⟩,h]
def Xf_is_whole_number:Fs:=(Ax (D6 (Bu (Hi "int") (Aa 0)) (Bu CS (Bu (Hi "bool") (Aa 0)))))
def f_is_whole_number:Fn:=Ay false 1 0 Xf_is_whole_number
abbrev _root_.pb4:=Ao Fw (Af (Aa 0) (Ac))
abbrev _root_.pe4:=D6 (A2 f_is_whole_number (Af (Aa 1) (Ac))) (Ab (BC λ i j=>decide (j<=i)) (Aa 1) (bC (.int 1)))
def Xf_is_box:Fs:=(Ag (BH (bT (Bv (Bu CS (Bu (Hi "tuple") (Aa 0))) (Ab (Be true) pb4 (bC (.int 3))))) (Ax (bC (.bl false))) AJ)
 (Ax (Ao E5 (Af (Cf (Aa 0) 1 (asgN 1) Bb pe4) (Ac)))))
def f_is_box:Fn:=Ay false 1 0 Xf_is_box
def Xf_must_be_box:Fs:=(BH (bT (Bu CS (A2 f_is_box (Af (Aa 0) (Ac))))) FN AJ)
def f_must_be_box:Fn:=Ay false 1 0 Xf_must_be_box
abbrev _root_.ph1:=A2 f_is_whole_number (Af (Aa 3) (Ac))
abbrev _root_.pd4:=D6 ph1 (He (λ i j=>decide (i<=j)) (λ i j=>decide (i<=j)) (bC (.int 0)) (Aa 3) (Aa 2))
def Xf_is_row_of_heights:Fs:=(Ag (BH (bT (Bv (Bu CS (Bu (Hi "list") (Aa 0))) (Ab (Be true) pb4 (Aa 1)))) (Ax (bC (.bl false))) AJ)
 (Ax (Ao E5 (Af (Cf (Aa 0) 1 (asgN 3) Bb pd4) (Ac)))))
def f_is_row_of_heights:Fn:=Ay false 3 0 Xf_is_row_of_heights
abbrev _root_.pe2:=Ab (BC λ i j=>decide (i<=j)) (Ab A3 (Aa 0) (Aa 1)) (Ab A3 (Aa 0) (Ab Ec (Aa 1) (bC (.int 1))))
def Xf_never_rises:Fs:=(Ax (Ao E5 (Af (Ca EA (Af (bC (.int 1)) (Af pb4 (Ac))) 1 (asgN 1) Bb pe2) (Ac))))
def f_never_rises:Fn:=Ay false 1 0 Xf_never_rises
def Xf_column_of:Fs:=(Ax (Cf (Aa 0) 1 (asgN 2) Bb (Ab A3 (Aa 2) (Aa 1))))
def f_column_of:Fn:=Ay false 2 0 Xf_column_of
abbrev _root_.pe3:=Ao Fw (Af (Aa 1) (Ac))
abbrev _root_.pc2:=Af (Aa 3) (Af (Aa 4) (Ac))
abbrev _root_.pf2:=A2 f_never_rises (Af (A2 f_column_of (Af (Aa 1) (Af (Aa 5) (Ac)))) (Ac))
abbrev _root_.ph3:=A2 f_never_rises (Af (Aa 5) (Ac))
abbrev _root_.ph2:=A2 f_must_be_box (Af (Aa 0) (Ac))
def Xf_is_pile:Fs:=(Ag (CY ph2)
 (Ag (Cp (asgT [2,3,4]) (Aa 0) [0])
 (Ag (BH (bT (Bv (Bu CS (Bu (Hi "list") (Aa 1))) (Ab (Be true) pe3 (Aa 2)))) (Ax (bC (.bl false))) AJ)
 (Ag (BH (bT (Bu CS (Ao E5 (Af (Cf (Aa 1) 1 (asgN 5) Bb (A2 f_is_row_of_heights (Af (Aa 5) pc2))) (Ac))))) (Ax (bC (.bl false))) AJ)
 (Ag (BH (bT (Bu CS (Ao E5 (Af (Cf (Aa 1) 1 (asgN 5) Bb ph3) (Ac))))) (Ax (bC (.bl false))) AJ)
 (Ax (Ao E5 (Af (Ca AY (Af (Aa 3) (Ac)) 1 (asgN 5) Bb pf2) (Ac)))))))))
def f_is_pile:Fn:=Ay false 2 3 Xf_is_pile
abbrev _root_.pc3:=Af (Aa 0) (Af (Aa 1) (Ac))
def Xf_must_be_pile:Fs:=(BH (bT (Bu CS (A2 f_is_pile pc3))) FN AJ)
def f_must_be_pile:Fn:=Ay false 2 0 Xf_must_be_pile
def Xb_cell_at:Fs:=(Ag (BH (bT (Ab (BC λ i j=>decide (i < j)) (Aa 1) pb4)) (Ax (Ab A3 (Aa 0) (Aa 1))) AJ)
 (Ax (bC (.int 0))))
def b_cell_at:Fn:=Ay false 2 0 Xb_cell_at
def Xf_must_be_two_piles:Fs:=(Ag (CY (A2 f_must_be_pile pc3))
 (CY (A2 f_must_be_pile (Af (Aa 0) (Af (Aa 2) (Ac))))))
def f_must_be_two_piles:Fn:=Ay false 3 0 Xf_must_be_two_piles
abbrev _root_.pc0:=Ab A3 (Aa 0) (bC (.int 0))
abbrev _root_.pb1:=Ab A3 (Aa 0) (bC (.int 1))
abbrev _root_.pe6:=Af (Aa 2) (Af (Aa 3) (Ac))
def Xf_places_of:Fs:=(Ag (Al false 1 (Ao BG (Ac)) [])
 (Ag (CQ AY (Af pc0 (Ac)) (asgN 2) (Du 1 (Ca AY (Af pb1 (Ac)) 1 (asgN 3) Bb (Ao DD pe6)) [2]))
 (DE 1)))
def f_places_of:Fn:=Ay false 1 2 Xf_places_of
abbrev _root_.pb8:=Af (Aa 1) (Af (Aa 2) (Ac))
abbrev _root_.pa7:=A2 f_must_be_two_piles (Af (Aa 0) pb8)
abbrev _root_.pg9:=Ab A3 (Ab A3 (Aa 2) (Aa 3)) (Aa 4)
abbrev _root_.pg8:=Ab A3 (Ab A3 (Aa 1) (Aa 3)) (Aa 4)
def Xf_lies_below:Fs:=(Ag (CY pa7)
 (Ax (Ao E5 (Af (Cf (A2 f_places_of (Af (Aa 0) (Ac))) 2 (asgT [3,4]) Bb (Ab (BC λ i j=>decide (i<=j)) pg8 pg9)) (Ac)))))
def f_lies_below:Fn:=Ay false 3 0 Xf_lies_below
def sz:(1000000:Nat)<=A0:=by decide
def Xx (i:Int):f_is_whole_number [.int i]=.ok (.bl true,om,.non):=by kernel_rfl
def HG (a b c:Int):Bool:=decide (1<=a) && (decide (1<=b) && decide (1<=c))
def vS (a b c:Int):f_is_box [bx a b c]=.ok (.bl (HG a b c),om,.non):=by
 have e0:∀ x∈[a,b,c],pe4 ([some (bx a b c,0)]++[some (.int x,om)])=.ok (.bl (decide (1<=x)),om,[some (bx a b c,0)]++[some (.int x,om)]):=λ x _=>by kernel_rfl
 have e1:=kc (n:=1) (f:=Aa 0) (ρ:=[some (bx a b c,0)]) (enc:=PV.int) (q:=λ x=>.bl (decide (1<=x))) (d:=0) [a,b,c] rfl rfl e0 (by have:=sz;show 3<=A0;omega);refine Cg rfl (ρ':=[some (bx a b c,0)]) ?_;show Xf_is_box [some (bx a b c,0)]=_;refine (DZ (ρ1:=[some (bx a b c,0)]) (by kernel_rfl)).trans (De ?_);rw [all_ok e1];show Rz.ok (PV.bl (decide (1<=a) && (decide (1<=b) && (decide (1<=c) && true))),om,_)=_;rw [Kq];rfl
def yj {a b c:Int} (h:HG a b c=true):f_must_be_box [bx a b c]=.ok (.non,om,.non):=by
 refine QD rfl (ρ':=[some (bx a b c,0)]) ?_;have hb:=vS a b c;rw [h] at hb;exact CK (f:=FN) (g:=AJ) (AI (GU (AQ (F:=f_is_box) (fa:=Af (Aa 0) Ac) (ρ:=[some (bx a b c,0)]) (xs:=[(bx a b c,0)]) rfl hb)))
def DJ (xs:List Int) (c h:Int):Bool:=decide ((xs.length:Int)=c) && xs.all λ x=>decide (0<=x) && decide (x<=h)
def qT (xs:List Int) (c h:Int) (hl:xs.length<=1000):f_is_row_of_heights [il xs,.int c,.int h]=.ok (.bl (DJ xs c h),om,.non):=by
 have e0:∀ x∈xs,pd4 ([some (il xs,0),some (.int c,om),some (.int h,om)]++[some (.int x,om)])=.ok (.bl (decide (0<=x) && decide (x<=h)),om,[some (il xs,0),some (.int c,om),some (.int h,om)]++[some (.int x,om)]):=λ x _=>
  LJ (a:=true) (AQ (xs:=[(.int x,om)]) rfl (Xx x)) (λ _=>Xi (i:=0) (j:=x) (k:=h) rfl rfl rfl) rfl
 have e1:=La (n:=3) (f:=Aa 0) (ρ:=[some (il xs,0),some (.int c,om),some (.int h,om)]) (enc:=PV.int) (q:=λ x=>.bl (decide (0<=x) && decide (x<=h))) (d:=0) xs rfl rfl e0 (by have:=sz;omega);have t:bT (Bv (Bu CS (Bu (Hi "list") (Aa 0))) (Ab (Be true) pb4 (Aa 1))) [some (il xs,0),some (.int c,om),some (.int h,om)]=.ok (!decide ((xs.length:Int)=c),[some (il xs,0),some (.int c,om),some (.int h,om)]):=by
  refine AI (d:=om) ((Hj (a:=false) rfl (λ _=>Ip (O3 (xs:=xs) (d:=0) rfl) (j:=c) rfl) rfl).trans ?_);rw [OF,Yu]
 refine Cg rfl (ρ':=[some (il xs,0),some (.int c,om),some (.int h,om)]) ?_;show Xf_is_row_of_heights [some (il xs,0),some (.int c,om),some (.int h,om)]=_;unfold DJ;by_cases hc:(xs.length:Int)=c
 ·rw [decide_eq_true hc] at t ⊢;refine (DZ t).trans (De ?_);rw [all_ok e1];rfl
 ·rw [decide_eq_false hc] at t ⊢;exact Ii ((CJ t).trans rfl)
def Fi (xs:List Int):Bool:=(Aq ((xs.length:Int) - 1).toNat).all λ k=>decide (xs.getD (k + 1) 0<=xs.getD k 0)
def Xb (xs:List Int) (hl:xs.length<=1000):f_never_rises [il xs]=.ok (.bl (Fi xs),om,.non):=by
 have e0:∀ k,k < ((xs.length:Int) - 1).toNat->pe2 ([some (il xs,0)]++[some (.int (1 + (k:Int)),om)])=.ok (.bl (decide (xs.getD (k + 1) 0<=xs.getD k 0)),om,[some (il xs,0)]++[some (.int (1 + (k:Int)),om)]):=λ k hk=>by
  refine CG (i:=xs.getD (k + 1) 0) (j:=xs.getD k 0) (GA (xs:=xs) (k:=1 + (k:Int)) rfl rfl (CZ (by omega) ?_)) (GA (xs:=xs) (k:=1 + (k:Int) - 1) rfl rfl (CZ (by omega) ?_))
  ·rw [show (1 + (k:Int)).toNat=k + 1 by omega,Cd (show k + 1 < xs.length by omega),AL,Cd (show k + 1 < xs.length by omega)];rfl
  ·rw [show (1 + (k:Int) - 1).toNat=k by omega,Cd (show k < xs.length by omega),AL,Cd (show k < xs.length by omega)];rfl
 have e1:=GQ (n:=1) (en:=EA) (ρ:=[some (il xs,0)]) (q:=λ k=>.bl (decide (xs.getD (k + 1) 0<=xs.getD k 0))) (AD (f:=bC (.int 1)) (d:=om) (x:=.int 1) rfl (AK (O3 (fa:=Af (Aa 0) Ac) (xs:=xs) (d:=0) rfl))) (kh (by decide) (by decide) (by omega) (by omega)) rfl e0 (by have:=sz;omega);exact Cg rfl (ρ':=[some (il xs,0)]) (De (all_ok e1))
def FA (t:List (List Int)) (j:Nat):List Int:=t.map λ r=>r.getD j 0
def Dd {xs:List Int}{j:Nat} (h:j < xs.length):xs[j]?=some (xs.getD j 0):=by
 rw [AL,Cd h];rfl
def KY {xs:List (List Int)}{j:Nat} (h:j < xs.length):xs[j]?=some (xs.getD j []):=by
 rw [AL,Cd h];rfl
def vC (t:List (List Int)) (j:Nat) (hl:t.length<=1000) (hr:∀ r∈t,j < r.length):f_column_of [tb t,.int (j:Int)]=.ok (il (FA t j),om,.non):=by
 have e0:∀ r∈t,(Ab A3 (Aa 2) (Aa 1)) ([some (tb t,0),some (.int (j:Int),om)]++[some (il r,0)])=.ok (.int (r.getD j 0),om,[some (tb t,0),some (.int (j:Int),om)]++[some (il r,0)]):=λ r hm=>
  GA (xs:=r) (k:=(j:Int)) rfl rfl (CZ (by omega) (Dd (hr r hm)))
 have e1:=La (n:=2) (f:=Aa 0) (ρ:=[some (tb t,0),some (.int (j:Int),om)]) (enc:=il) (q:=λ r=>.int (r.getD j 0)) (d:=0) t rfl rfl e0 (by have:=sz;omega);refine Cg rfl (ρ':=[some (tb t,0),some (.int (j:Int),om)]) ((De e1).trans ?_);unfold FA il;rw [Cu];rfl
def Tab (a b:Nat) (t:List (List Int)):Prop:=t.length=a/\∀ r∈t,r.length=b
def LI (a b:Nat) (c:Int) (t:List (List Int)):Bool:=(t.all λ r=>DJ r b c) && ((t.all Fi) && ((Aq b).all λ j=>Fi (FA t j)))
theorem is_pile_ok {a b:Nat}{c:Int}{t:List (List Int)} (ht:Tab a b t) (ha:1<=a/\a<=100) (hb:1<=b/\b<=100) (hc:1<=c):f_is_pile [bx a b c,tb t]=.ok (.bl (LI a b c t),om,.non):=by
 let R0:Ae:=[some (bx a b c,0),some (tb t,0),none,none,none]
 let R1:Ae:=[some (bx a b c,0),some (tb t,0),some (.int a,om),some (.int b,om),some (.int c,om)]
 have hbx:HG a b c=true:=by unfold HG;rw [decide_eq_true (by omega),decide_eq_true (by omega),decide_eq_true hc];rfl
 have hs:=sz;have l1:=ht.1;have s1:CY ph2 R0=.nx R0:=Ie (AQ (xs:=[(bx a b c,0)]) rfl (yj hbx));have s2:Cp (asgT [2,3,4]) (Aa 0) [0] R0=.nx R1:=by kernel_rfl
 have t3:bT (Bv (Bu CS (Bu (Hi "list") (Aa 1))) (Ab (Be true) pe3 (Aa 2))) R1=.ok (false,R1):=by
  refine AI (d:=om) ((Hj (a:=false) rfl (λ _=>Ip (qp (t:=t) (d:=0) rfl) (j:=(a:Int)) rfl) rfl).trans ?_);rw [l1];simp
 have e4:∀ r∈t,(A2 f_is_row_of_heights (Af (Aa 5) pc2)) (R1++[some (il r,0)])=.ok (.bl (DJ r b c),om,R1++[some (il r,0)]):=λ r hr=>
  AQ (xs:=[(il r,0),(.int b,om),(.int c,om)]) rfl (qT r b c (by rw [ht.2 r hr];omega))
 have t4:=AI (GU (all_ok (La (n:=5) (f:=Aa 1) (ρ:=R1) (enc:=il) (q:=λ r=>.bl (DJ r b c)) (d:=0) t rfl rfl e4 (by omega))));have e5:∀ r∈t,ph3 (R1++[some (il r,0)])=.ok (.bl (Fi r),om,R1++[some (il r,0)]):=λ r hr=>
  AQ (xs:=[(il r,0)]) rfl (Xb r (by rw [ht.2 r hr];omega))
 have t5:=AI (GU (all_ok (La (n:=5) (f:=Aa 1) (ρ:=R1) (enc:=il) (q:=λ r=>.bl (Fi r)) (d:=0) t rfl rfl e5 (by omega))));have e6:∀ k,k < ((b:Int) - 0).toNat->pf2 (R1++[some (.int (0 + (k:Int)),om)])=.ok (.bl (Fi (FA t k)),om,R1++[some (.int (0 + (k:Int)),om)]):=λ k hk=>by
  have e:=vC t k (by omega) λ r hr=>by rw [ht.2 r hr];omega
  rw [EM];exact AQ (xs:=[(il (FA t k),om)]) (AK (AQ (xs:=[(tb t,0),(.int (k:Int),om)]) rfl e)) (Xb _ (by unfold FA;rw [AG];omega))
 have e7:=GQ (n:=5) (en:=AY) (fa:=Af (Aa 3) Ac) (ρ:=R1) (q:=λ k=>.bl (Fi (FA t k))) (as:=[(.int (b:Int),om)]) rfl (Et (by omega) (by omega)) rfl e6 (by omega);rw [show ((b:Int) - 0).toNat=b by omega] at e7;refine Cg rfl (ρ':=R1) ?_;show Xf_is_pile R0=_;unfold LI;refine (AU s1).trans ((AU s2).trans ((DZ t3).trans ?_));cases h1:t.all λ r=>DJ r b c with
 | false=>
  rw [h1] at t4;exact Ii ((CJ t4).trans rfl)
 | true=>
  rw [h1] at t4;refine (DZ t4).trans ?_;cases h2:t.all Fi with
  | false=>
   have h2':t.all (λ r=>Fi r)=false:=h2;rw [h2'] at t5;exact Ii ((CJ t5).trans rfl)
  | true=>
   have h2':t.all (λ r=>Fi r)=true:=h2;rw [h2'] at t5;exact (DZ t5).trans (De (all_ok e7))
def Py {a b:Nat}{c:Int}{t:List (List Int)} (ht:Tab a b t) (ha:1<=a/\a<=100) (hb:1<=b/\b<=100) (hc:1<=c) (h:LI a b c t=true):f_must_be_pile [bx a b c,tb t]=.ok (.non,om,.non):=by
 refine QD rfl (ρ':=[some (bx a b c,0),some (tb t,0)]) ?_;have hp:=is_pile_ok ht ha hb hc;rw [h] at hp;exact CK (f:=FN) (g:=AJ) (AI (GU (AQ (F:=f_is_pile) (fa:=Af (Aa 0) (Af (Aa 1) Ac)) (ρ:=[some (bx a b c,0),some (tb t,0)]) (xs:=[(bx a b c,0),(tb t,0)]) rfl hp)))
def g (t:List (List Int)) (i j:Nat):Int:=(t.getD i []).getD j 0
structure Pile (a b:Nat) (c:Int) (t:List (List Int)):Prop where
 tab:Tab a b t
 lo:∀ i j,i < a->j < b->0<=g t i j
 hi:∀ i j,i < a->j < b->g t i j<=c
 dn:∀ i j,i + 1 < a->j < b->g t (i + 1) j<=g t i j
 rt:∀ i j,i < a->j + 1 < b->g t i (j + 1)<=g t i j
def RP {t:List (List Int)}{i:Nat} (h:i < t.length):t.getD i []∈t:=by
 rw [AL,Cd h];exact Mh h
def Tab.row {a b:Nat}{t:List (List Int)} (h:Tab a b t) {i:Nat} (hi:i < a):(t.getD i []).length=b:=h.2 _ (RP (by rw [h.1];exact hi))
def kq {xs:List Int}{i:Nat} (h:i < xs.length):xs.getD i 0∈xs:=by
 rw [AL,Cd h];exact Mh h
def kA {xs:List Int}{x:Int} (h:x∈xs):∃ i,i < xs.length/\xs.getD i 0=x:=by
 obtain ⟨i,hi,e⟩:=Ml h;exact ⟨i,hi,by rw [AL,Cd hi];exact e⟩
def XU {t:List (List Int)}{r:List Int} (h:r∈t):∃ i,i < t.length/\t.getD i []=r:=by
 obtain ⟨i,hi,e⟩:=Ml h;exact ⟨i,hi,by rw [AL,Cd hi];exact e⟩
def vg {xs ys:List Int} (hl:xs.length=ys.length) (h:∀ i,i < xs.length->xs.getD i 0=ys.getD i 0):xs=ys:=by
 refine Mg hl λ i h1 h2=>?_
 have:=h i h1
 rw [AL,Cd h1,AL,Cd h2] at this;exact this
def MV {a b:Nat}{t u:List (List Int)} (ht:Tab a b t) (hu:Tab a b u) (h:∀ i j,i < a->j < b->g t i j=g u i j):t=u:=by
 refine Mg (by rw [ht.1,hu.1]) λ i h1 h2=>?_;have hi:i < a:=by rw [<- ht.1];exact h1
 have e1:t.getD i []=t[i]:=by rw [AL,Cd h1];rfl
 have e2:u.getD i []=u[i]:=by rw [AL,Cd h2];rfl
 rw [<- e1,<- e2];refine vg (by rw [ht.row hi,hu.row hi]) λ j hj=>h i j hi (by rw [<- ht.row hi];exact hj)
def qc7 {xs:List Int}{c h:Int}:DJ xs c h=true↔(xs.length:Int)=c/\∀ x∈xs,0<=x/\x<=h:=by
 unfold DJ;rw [AS,decide_eq_true_iff,jb5];constructor
 ·rintro ⟨h1,h2⟩;refine ⟨h1,λ x hx=>?_⟩
  have:=h2 x hx
  rw [AS,decide_eq_true_iff,decide_eq_true_iff] at this;exact this
 ·rintro ⟨h1,h2⟩;refine ⟨h1,λ x hx=>?_⟩;rw [AS,decide_eq_true_iff,decide_eq_true_iff];exact h2 x hx
def zgj {xs:List Int}:Fi xs=true↔∀ k,k + 1 < xs.length->xs.getD (k + 1) 0<=xs.getD k 0:=by
 unfold Fi;rw [jb5];constructor
 ·intro h k hk;exact of_decide_eq_true (h k (jc4.mpr (by omega)))
 ·intro h k hk
  have:=jc4.mp hk
  exact decide_eq_true (h k (by omega))
def MF {t:List (List Int)}{i j:Nat} (h:i < t.length):(FA t j).getD i 0=g t i j:=by
 unfold FA g;rw [AL,BW,Cd h,AL (l:=t),Cd h];rfl
def VP {t:List (List Int)}{j:Nat}:(FA t j).length=t.length:=by unfold FA;rw [AG]
def Pm {a b:Nat}{c:Int}{t:List (List Int)} (ht:Tab a b t):LI a b c t=true↔Pile a b c t:=by
 unfold LI;rw [AS,AS,jb5,jb5,jb5];constructor
 ·rintro ⟨h1,h2,h3⟩;have q:∀ i j,i < a->j < b->0<=g t i j/\g t i j<=c:=λ i j hi hj=>(qc7.mp (h1 _ (RP (by rw [ht.1];exact hi)))).2 _ (kq (by rw [ht.row hi];exact hj));refine ⟨ht,λ i j hi hj=>(q i j hi hj).1,λ i j hi hj=>(q i j hi hj).2,λ i j hi hj=>?_,λ i j hi hj=>?_⟩
  ·have:=zgj.mp (h3 j (jc4.mpr hj)) i (by rw [VP,ht.1];exact hi)
   rw [MF (by rw [ht.1];exact hi),MF (by rw [ht.1];omega)] at this;exact this
  ·exact zgj.mp (h2 _ (RP (by rw [ht.1];exact hi))) j (by rw [ht.row hi];exact hj)
 ·intro p;refine ⟨λ r hr=>qc7.mpr ⟨by rw [ht.2 r hr],λ x hx=>?_⟩,λ r hr=>zgj.mpr λ k hk=>?_,λ j hj=>zgj.mpr λ k hk=>?_⟩
  ·obtain ⟨i,hi,rfl⟩:=XU hr;obtain ⟨j,hj,rfl⟩:=kA hx;have hi':i < a:=by rw [<- ht.1];exact hi
   rw [ht.row hi'] at hj;exact ⟨p.lo i j hi' hj,p.hi i j hi' hj⟩
  ·obtain ⟨i,hi,rfl⟩:=XU hr;have hi':i < a:=by rw [<- ht.1];exact hi
   rw [ht.row hi'] at hk;exact p.rt i k hi' hk
  ·rw [VP,ht.1] at hk;rw [MF (by rw [ht.1];exact hk),MF (by rw [ht.1];omega)];exact p.dn k j hk (jc4.mp hj)
def Cr (a b:Nat) (f:Nat->Nat->Int):List (List Int):=(Aq a).map λ i=>(Aq b).map λ j=>f i j
def IC {a b:Nat}{f:Nat->Nat->Int}:Tab a b (Cr a b f):=by
 refine ⟨by unfold Cr;rw [AG,DT],λ r hr=>?_⟩;obtain ⟨i,_,rfl⟩:=jd4.mp hr;rw [AG,DT]
def Wh {b j:Nat}{f:Nat->Int} (hj:j < b):((Aq b).map f).getD j 0=f j:=by
 rw [AL,BW,HB hj];rfl
def zK {a i:Nat}{f:Nat->List Int} (hi:i < a):((Aq a).map f).getD i []=f i:=by
 rw [AL,BW,HB hi];rfl
def Cz {a b i j:Nat}{f:Nat->Nat->Int} (hi:i < a) (hj:j < b):g (Cr a b f) i j=f i j:=by
 unfold g Cr;rw [zK hi,Wh hj]
def Nr (r:List Int):Prop:=∀ k,k + 1 < r.length->r.getD (k + 1) 0<=r.getD k 0
theorem PZ {α:Type}{f:PV->Option Bq}{e:α->PV}{q:α->Bq} (h:∀ x,f (e x)=some (q x)):∀ xs:List α,CI f (xs.map e)=some (xs.map q)
 | []=>rfl
 | x::xs=>by rw [AR,CI,h,PZ h xs];rfl
def xG (n:Nat) (xs:List Int):Dp (n + 2) (il xs)=some (.list (xs.map .int)):=by
 show (CI (Dp (n + 1)) (xs.map PV.int)).map PyData.list=_;rw [PZ (q:=PyData.int) (λ x=>rfl)];rfl
def O7 (n:Nat) (t:List (List Int)):Dp (n + 3) (tb t)=some (.list (t.map λ r=>.list (r.map .int))):=by
 show (CI (Dp (n + 2)) (t.map il)).map PyData.list=_;rw [PZ (λ x=>xG n x)];rfl
theorem P1:∀ xs ys:List Int,Nn (xs.map .int) (ys.map .int)=decide (xs=ys)
 | [],[]=>rfl
 | [],y::ys=>rfl
 | x::xs,[]=>rfl
 | x::xs,y::ys=>by
  rw [AR,AR,Nn,P1 xs ys];show ((x == y) && _)=_;by_cases h:x=y
  ·subst h;by_cases h2:xs=ys
   ·subst h2;simp
   ·simp [h2]
  ·simp [h]
theorem Uh:∀ t u:List (List Int),Nn (t.map λ r=>.list (r.map .int)) (u.map λ r=>.list (r.map .int))=decide (t=u)
 | [],[]=>rfl
 | [],y::ys=>rfl
 | x::xs,[]=>rfl
 | x::xs,y::ys=>by
  rw [AR,AR,Nn,Uh xs ys,EF,P1];by_cases h:x=y
  ·subst h;by_cases h2:xs=ys
   ·subst h2;simp
   ·simp [h2]
  ·simp [h]
def U3 {neg:Bool}{f h:Fx}{ρ ρ1 ρ2:Ae}{t u:List (List Int)}{d e:Nat} (h1:f ρ=.ok (tb t,d,ρ1)) (h2:h ρ1=.ok (tb u,e,ρ2)):Ab (Be neg) f h ρ=.ok (.bl (neg^^decide (t=u)),om,ρ2):=by
 refine BR h1 h2 ?_;unfold Be;rw [O7 17,O7 17];show some (PV.bl (neg^^EF _ _),om)=_;rw [EF,Uh]
def z6 {f h:Fx}{ρ ρ1 ρ2:Ae}{xs:List Int}{k x:Int}{d e:Nat} (h1:f ρ=.ok (.scr xs,d,ρ1)) (h2:h ρ1=.ok (.int k,e,ρ2)) (hx:BE xs k=some x):Ab A3 f h ρ=.ok (.int x,om,ρ2):=by
 refine BR h1 h2 ?_;show (BE xs k).map _=_;rw [hx];rfl
def VN (ns:List Int) (k:Nat):b_cell_at [.scr ns,.int (k:Int)]=.ok (.int (ns.getD k 0),om,.non):=by
 let R:Ae:=[some (.scr ns,om),some (.int (k:Int),om)]
 have t1:bT (Ab (BC λ i j=>decide (i < j)) (Aa 1) pb4) R=.ok (decide ((k:Int) < (ns.length:Int)),R):=rfl;refine Cg rfl (ρ':=R) ?_;by_cases h:(k:Int) < (ns.length:Int)
 ·rw [decide_eq_true h] at t1;exact Ii ((CJ t1).trans (De (z6 (xs:=ns) (k:=(k:Int)) (d:=om) rfl rfl (CZ (by omega) (Dd (by omega))))))
 ·rw [decide_eq_false h] at t1;refine (DZ t1).trans ((De (d:=om) rfl).trans ?_);rw [AL,E1 (by omega)];rfl
def zA {f h:Fx}{ρ ρ1 ρ2:Ae}{xs ys:List PV}{d e:Nat} (h1:f ρ=.ok (.lst xs,d,ρ1)) (h2:h ρ1=.ok (.lst ys,e,ρ2)) (hl:xs.length + ys.length<=A0):Ab Bf f h ρ=.ok (.lst (xs++ys),d1 (xs++ys),ρ2):=by
 refine BR h1 h2 ?_;show (if _ then _ else _)=_;rw [if_pos hl]
theorem JG:∀ xs:List Int,DX (xs.map PV.int)=some xs
 | []=>rfl
 | x::xs=>by rw [AR,DX,JG xs];rfl
def GG (c:Int) (t:List (List Int)) (j:Nat):Int:=if t.length=0 then c else g t (t.length - 1) j
def kS {t:List (List Int)}{r:List Int}{i:Nat}:(t++[r]).getD i []=if i < t.length then t.getD i [] else if i=t.length then r else []:=by
 by_cases h:i < t.length
 ·rw [if_pos h,AL,CF h,AL]
 ·rw [if_neg h];by_cases h2:i=t.length
  ·rw [if_pos h2,h2,AL,YT];rfl
  ·rw [if_neg h2,AL,E1 (by rw [BI,GL];omega)];rfl
def PU {r:List Int}{x:Int}{i:Nat}:(r++[x]).getD i 0=if i < r.length then r.getD i 0 else if i=r.length then x else 0:=by
 by_cases h:i < r.length
 ·rw [if_pos h,AL,CF h,AL]
 ·rw [if_neg h];by_cases h2:i=r.length
  ·rw [if_pos h2,h2,AL,YT];rfl
  ·rw [if_neg h2,AL,E1 (by rw [BI,GL];omega)];rfl
def Pile.snoc {k b:Nat}{c:Int}{t:List (List Int)}{r:List Int} (p:Pile k b c t) (hr:r.length=b) (h:∀ y,y < b->0<=r.getD y 0/\r.getD y 0<=GG c t y) (hn:Nr r):Pile (k + 1) b c (t++[r]):=by
 have l:=p.tab.1;have e:∀ i j,g (t++[r]) i j=if i < k then g t i j else if i=k then r.getD j 0 else 0:=λ i j=>by
  unfold g;rw [kS,l];split
  ·rfl
  ·split <;> rfl
 have u:∀ y,y < b->GG c t y<=c:=λ y hy=>by
  unfold GG;split
  ·exact D5 _
  ·exact p.hi _ _ (by omega) hy
 refine ⟨⟨by rw [BI,l];rfl,λ x hx=>?_⟩,λ i j hi hj=>?_,λ i j hi hj=>?_,λ i j hi hj=>?_,λ i j hi hj=>?_⟩
 ·rcases jd7.mp hx with z | z
  ·exact p.tab.2 x z
  ·rw [jb7.mp z,hr]
 ·rw [e];by_cases z:i < k
  ·rw [if_pos z];exact p.lo i j z hj
  ·rw [if_neg z,if_pos (by omega)];exact (h j hj).1
 ·rw [e];by_cases z:i < k
  ·rw [if_pos z];exact p.hi i j z hj
  ·rw [if_neg z,if_pos (by omega)];exact Fl (h j hj).2 (u j hj)
 ·rw [e,e];by_cases z:i + 1 < k
  ·rw [if_pos z,if_pos (by omega)];exact p.dn i j z hj
  ·rw [if_neg z,if_pos (by omega),if_pos (by omega)]
   have:=(h j hj).2
   unfold GG at this;rw [if_neg (by omega),l,show k - 1=i by omega] at this;exact this
 ·rw [e,e];by_cases z:i < k
  ·rw [if_pos z,if_pos z];exact p.rt i j z hj
  ·rw [if_neg z,if_neg z,if_pos (by omega),if_pos (by omega)];exact hn j (by rw [hr];exact hj)
theorem XA:∀ xs:List Int,Jn (xs.map PV.int)=true
 | []=>rfl
 | x::xs=>by rw [AR,Jn,XA xs];rfl
def LS (xs:List Int):d1 (xs.map PV.int)=om:=by unfold d1;rw [XA];rfl
def zJ {f:Fx}{ρ ρ1:Ae}{xs:List Int}{d:Nat} (h:f ρ=.ok (il xs,d,ρ1)):Ao HU (Af f Ac) ρ=.ok (il xs,om,ρ1):=by
 refine C5 (AK h) ?_;show some (PV.lst (xs.map PV.int),d1 (xs.map PV.int))=_;rw [LS];rfl
def JR {f h k:Fx}{ρ ρ1 ρ2 ρ3:Ae}{t:List (List Int)}{a b i j:Nat}{d e e':Nat} (ht:Tab a b t) (h1:f ρ=.ok (tb t,d,ρ1)) (h2:h ρ1=.ok (.int (i:Int),e,ρ2)) (h3:k ρ2=.ok (.int (j:Int),e',ρ3)) (hi:i < a) (hj:j < b):Ab A3 (Ab A3 f h) k ρ=.ok (.int (g t i j),om,ρ3):=
 GA (xs:=t.getD i []) (k:=(j:Int)) (Rk (t:=t) (k:=(i:Int)) h1 h2 (CZ (by omega) (KY (by rw [CD,ht.1];exact hi)))) h3 (CZ (by omega) (Dd (by rw [CD,ht.row hi];exact hj)))
theorem Pl {asg:PV->Ae->Option Ae}{body:Fs}:∀ (els:List PV) (I:Nat->Ae->Prop) (ρ:Ae),I 0 ρ->(∀ j x ρ,els[j]?=some x->I j ρ->∃ ρ1 ρ2,asg x ρ=some ρ1/\body ρ1=.nx ρ2/\I (j + 1) ρ2)->∃ ρ',BS asg body els ρ=.nx ρ'/\I els.length ρ'
 | [],I,ρ,h,_=>⟨ρ,rfl,h⟩
 | x::xs,I,ρ,h,hb=>by
  obtain ⟨ρ1,ρ2,e1,e2,h2⟩:=hb 0 x ρ rfl h;obtain ⟨ρ',e',h'⟩:=Pl xs (λ j=>I (j + 1)) ρ2 h2 λ j y ρ hy hi=>hb (j + 1) y ρ (by simpa using hy) hi;refine ⟨ρ',?_,h'⟩;unfold BS;rw [e1];dsimp only;rw [e2];exact e'
def Xq {v:Vw}{fa:Fa}{vs:List Nat}{asg:PV->Ae->Option Ae}{body:Fs}{ρ ρ1 ρ2:Ae}{xs:List (PV×Nat)}{els:List PV} (I:Nat->Ae->Prop) (hf:fa ρ=.ok (xs,ρ1)) (he:GZ v (xs.map (·.1))=some els) (ec:AZ (if CB xs=true then om else 0) vs ρ1=ρ2) (h0:I 0 ρ2)
  (hb:∀ j x ρ,els[j]?=some x->I j ρ->∃ ρ1 ρ2,asg x ρ=some ρ1/\body ρ1=.nx ρ2/\I (j + 1) ρ2):∃ ρ',Gy v fa vs asg body ρ=.nx ρ'/\I els.length ρ':=by
 obtain ⟨ρ',e,h⟩:=Pl els I ρ2 h0 hb;refine ⟨ρ',?_,h⟩;unfold Gy;rw [hf];dsimp only;rw [he];dsimp only;rw [ec];exact e
def Vl {i:Nat}{f:Fx}{vs:List Nat}{ρ ρ1 ρ2:Ae}{ys:List PV}{e:Nat}{xs:List PV}{d0 d:Nat}{xs0:List PV} (h0:ρ[i]?=some (some (.lst xs0,d0 + 1))) (h:f ρ=.ok (.lst ys,e,ρ1)) (h1:(AZ e vs ρ1)[i]?=some (some (.lst xs,d))) (hd:d≠0) (hl:xs.length + ys.length<=A0)
  (e2:(AZ e vs ρ1).set i (some (.lst (xs++ys),1))=ρ2):Du i f vs ρ=.nx ρ2:=by
 unfold Du;rw [h0];dsimp only;rw [h];dsimp only;rw [h1];dsimp only;rw [if_pos ⟨hd,hl⟩,e2]
abbrev C3:=Nat×Nat×Nat
def kX {xs:List Int} (h1:xs.length<=1000) (h2:∀ x∈xs,-1000000<=x/\x<=1000000):ED xs=true:=by
 unfold ED;rw [AS,decide_eq_true_iff,jb5];refine ⟨by omega,λ x hx=>?_⟩
 have:=h2 x hx
 rw [AS,decide_eq_true_iff,decide_eq_true_iff];omega
def Lc {fa:Fa}{ρ ρ1:Ae}{xs:List Int}{d:Nat} (h:fa ρ=.ok ([(il xs,d)],ρ1)) (hs:ED xs=true):Ao Es fa ρ=.ok (.int xs.sum,om,ρ1):=by
 refine C5 h ?_;show (match DX (xs.map PV.int) with | some ns=>if ED ns=true then some (PV.int ns.sum,om) else none | none=>none)=_;rw [JG];dsimp only;rw [if_pos hs]
theorem Pt {α:Type}{k:Nat}{asg:PV->Ae->Option Ae}{test:Fb}{elt:Fx}{enc q:α->PV}{E:α->Ae}{e:α->Nat}{p:α->Bool}:∀ (xs:List α) (ρ:Ae) (acc:List (PV×Nat)),(∀ x∈xs,asg (enc x) (ρ++AB k none)=some (ρ++E x)) ->
  (∀ x∈xs,test (ρ++E x)=.ok (p x,ρ++E x))->(∀ x∈xs,p x=true->elt (ρ++E x)=.ok (q x,e x,ρ++E x))->acc.length + xs.length<=A0->BY k asg test elt (xs.map enc) ρ acc=.ok (acc++(xs.filter p).map (λ x=>(q x,e x)),ρ)
 | [],ρ,acc,_,_,_,_=>by simp [BY]
 | x::xs,ρ,acc,ha,ht,he,hl=>by
  have ih:=λ acc h=>Pt (k:=k) (asg:=asg) (test:=test) (elt:=elt) (p:=p) (q:=q) (e:=e) (enc:=enc) (E:=E) xs ρ acc (λ y hy=>ha y (AH _ hy)) (λ y hy=>ht y (AH _ hy)) (λ y hy=>he y (AH _ hy)) h;have tk:(ρ++E x).take ρ.length=ρ:=by simp
  rw [Ba] at hl;rw [AR];unfold BY;rw [ha x AF];dsimp only;rw [ht x AF];dsimp only [Rz.bindN];cases hp:p x with
  | false=>rw [if_neg Ck,tk,ih acc (by omega),YR (by simp [hp])]
  | true=>
   rw [if_pos rfl,he x AF hp];dsimp only;rw [if_pos (by omega),tk,ih _ (by rw [BI,GL];omega),YQ hp];simp
def XR {α:Type}{q:α->PV}{xs:List α}{ρ:Ae}:C4 ([]++xs.map λ x=>(q x,om)) ρ=.ok (.lst (xs.map q),om,ρ):=by
 rw [Ez];unfold C4;rw [JJ,Cu];rfl
def VA {α:Type}{k:Nat}{v:Vw}{fa:Fa}{asg:PV->Ae->Option Ae}{elt:Fx}{enc q:α->PV}{E:α->Ae}{ρ ρ1:Ae}{as:List (PV×Nat)} (xs:List α) (hf:fa ρ=.ok (as,ρ1)) (hv:GZ v (as.map (·.1))=some (xs.map enc)) (ha:∀ x∈xs,asg (enc x) (ρ1++AB k none)=some (ρ1++E x))
  (he:∀ x∈xs,elt (ρ1++E x)=.ok (q x,om,ρ1++E x)) (hl:xs.length<=A0):E4 v fa k asg Bb elt ρ=.ok (.lst (xs.map q),om,ρ1):=by
 unfold E4;rw [hf];dsimp only;rw [hv];dsimp only;rw [Pt (p:=λ _=>true) (q:=q) (e:=λ _=>om) xs ρ1 [] ha (λ _ _=>rfl) (λ x hx _=>he x hx) (by simpa using hl),je3.mpr (λ _ _=>rfl)];exact XR
def ZX {α:Type}{k:Nat}{f:Fx}{asg:PV->Ae->Option Ae}{test:Fb}{elt:Fx}{enc q:α->PV}{E:α->Ae}{p:α->Bool}{ρ ρ1:Ae}{d:Nat} (xs:List α) (hf:f ρ=.ok (.lst (xs.map enc),d,ρ1)) (ha:∀ x∈xs,asg (enc x) (ρ1++AB k none)=some (ρ1++E x))
  (ht:∀ x∈xs,test (ρ1++E x)=.ok (p x,ρ1++E x)) (he:∀ x∈xs,p x=true->elt (ρ1++E x)=.ok (q x,om,ρ1++E x)) (hl:xs.length<=A0):Cf f k asg test elt ρ=.ok (.lst ((xs.filter p).map q),om,ρ1):=by
 unfold Cf;rw [hf];dsimp only;rw [Pt (p:=p) (q:=q) (e:=λ _=>om) xs ρ1 [] ha ht he (by simpa using hl)];exact XR
def wF {α:Type} (xs:List α):xs.filter (λ _=>true)=xs:=je3.mpr λ _ _=>rfl
theorem JO {α:Type}{asg:PV->Ae->Option Ae}{body:Fs}{enc:α->PV} (P:List α->Ae->Prop):∀ (xs pre:List α) (ρ:Ae),P pre ρ->(∀ p x s ρ,pre++xs=p++x::s->P p ρ->∃ ρ1 ρ2,asg (enc x) ρ=some ρ1/\body ρ1=.nx ρ2/\P (p++[x]) ρ2) ->
  ∃ ρ',BS asg body (xs.map enc) ρ=.nx ρ'/\P (pre++xs) ρ'
 | [],pre,ρ,h,_=>⟨ρ,rfl,by simpa using h⟩
 | x::xs,pre,ρ,h,hb=>by
  obtain ⟨ρ1,ρ2,e1,e2,h2⟩:=hb pre x xs ρ rfl h;obtain ⟨ρ',e',h'⟩:=JO P xs (pre++[x]) ρ2 h2 λ p y s ρ e=>hb p y s ρ (by rw [<- e];simp);refine ⟨ρ',?_,by simpa using h'⟩;rw [AR];unfold BS;rw [e1];dsimp only;rw [e2];exact e'
def zx {v:Vw}{fa:Fa}{vs:List Nat}{asg:PV->Ae->Option Ae}{body:Fs}{ρ ρ1 ρ2:Ae}{r:Rs}{xs:List (PV×Nat)}{els:List PV} (hf:fa ρ=.ok (xs,ρ1)) (he:GZ v (xs.map (·.1))=some els) (ec:AZ (if CB xs=true then om else 0) vs ρ1=ρ2) (h:BS asg body els ρ2=r):Gy v fa vs asg body ρ=r:=by
 unfold Gy;rw [hf];dsimp only;rw [he];dsimp only;rw [ec,h]
def MK {f:Fx}{vs:List Nat}{asg:PV->Ae->Option Ae}{body:Fs}{ρ ρ1 ρ2:Ae}{r:Rs}{els:List PV}{d:Nat} (hf:f ρ=.ok (.lst els,d,ρ1)) (ec:AZ d vs ρ1=ρ2) (h:BS asg body els ρ2=r):EC f vs asg body ρ=r:=by
 unfold EC;rw [hf];dsimp only;rw [ec,h]
def MJ {en:List (PV×Nat)->Option (Int×Int)}{fa:Fa}{asg:PV->Ae->Option Ae}{body:Fs}{ρ ρ1:Ae}{r:Rs}{as:List (PV×Nat)}{n:Nat} (hf:fa ρ=.ok (as,ρ1)) (hen:en as=some (0,(n:Int))) (h:BS asg body ((Aq n).map λ (k:Nat)=>.int (k:Int)) ρ1=r):CQ en fa asg body ρ=r:=by
 unfold CQ;rw [hf];dsimp only;rw [hen];dsimp only;rw [M7,show ((n:Int) - 0).toNat=n by omega,<- h];congr 2;funext k;rw [EM]
theorem Qa {α β:Type} (f:α->PV) (h:β->PV):∀ (xs:List α) (ys:List β),By (xs.map f) (ys.map h)=(xs.zip ys).map λ z=>.tup [f z.1,h z.2]
 | [],_=>by simp [By]
 | _::_,[]=>by simp [By]
 | x::xs,y::ys=>by
  rw [AR,AR,By,Qa f h xs ys];rfl
def xH {x y z:PV} (h1:f_must_be_pile [x,y]=.ok (.non,om,.non)) (h2:f_must_be_pile [x,z]=.ok (.non,om,.non)):f_must_be_two_piles [x,y,z]=.ok (.non,om,.non):=
 QD rfl ((AU (Ie (AQ (xs:=[(x,dv x),(y,dv y)]) rfl h1))).trans (Ie (AQ (xs:=[(x,dv x),(z,dv z)]) rfl h2)))
def zT (h:Int->Int->Int) (t u:List (List Int)):List (List Int):=(t.zip u).map λ z=>Mc h z.1 z.2
def E7 (a b:Nat):List (Nat×Nat):=(Aq a).flatMap λ i=>(Aq b).map λ j=>(i,j)
def pr (z:Nat×Nat):PV:=.tup [.int (z.1:Int),.int (z.2:Int)]
def zxi {a b:Nat}{z:Nat×Nat}:z∈E7 a b↔z.1 < a/\z.2 < b:=by
 unfold E7;simp only [Ku,jd4,jc4];constructor
 ·rintro ⟨i,hi,j,hj,rfl⟩;exact ⟨hi,hj⟩
 ·intro h;exact ⟨z.1,h.1,z.2,h.2,rfl⟩
theorem Xp {α:Type}{q:Nat->List α}{b:Nat} (h:∀ i,(q i).length=b):∀ a,((Aq a).flatMap q).length=a * b
 | 0=>by simp
 | a + 1=>by rw [FW,OQ,BI,Xp h a,Yr];simp [h]
def T5 (a b:Nat):(E7 a b).length=a * b:=Xp (λ i=>by rw [AG,DT]) a
def qU {R:Ae}{fn:Fx}{b i:Nat}{n:Nat} (hb:b<=100) (hn:R.length=n) (hf:fn R=.ok (.int (b:Int),om,R)) (he:∀ k,k < b->Ao DD (Af (Aa 2) (Af (Aa n) (Ac))) (R++[some (.int (k:Int),om)])=.ok (pr (i,k),om,R++[some (.int (k:Int),om)])):
  Ca AY (Af fn (Ac)) 1 (asgN n) Bb (Ao DD (Af (Aa 2) (Af (Aa n) (Ac)))) R=.ok (.lst (((Aq b).map λ j=>(i,j)).map pr),om,R):=by
 have z:=sz;have w:=GQ (n:=n) (en:=AY) (fa:=Af fn Ac) (elt:=Ao DD (Af (Aa 2) (Af (Aa n) (Ac)))) (ρ:=R) (ρ1:=R) (as:=[(.int (b:Int),om)]) (lo:=0) (hi:=(b:Int)) (q:=λ m=>pr (i,m)) (AK hf) (Et (by omega) (by omega)) hn (λ m hm=>by rw [EM];exact he m (by omega)) (by omega);rw [w,show ((b:Int) - 0).toNat=b by omega,Cu];rfl
def yl (a b:Nat):E7 (a + 1) b=E7 a b++(Aq b).map λ j=>(a,j):=by
 unfold E7;rw [FW,OQ];simp
def wB {a b c:Nat} (ha:a<=100) (hb:b<=100):∃ d,d≠0/\f_places_of [bx a b c]=.ok (.lst ((E7 a b).map pr),d,.non):=by
 have z:=sz;let R (s1 s2:QQ.Slot):Ae:=[some (bx a b c,0),s1,s2]
 have s1:Al false 1 (Ao BG (Ac)) [] (R none none)=.nx (R (some (.lst [],om)) none):=by kernel_rfl
 obtain ⟨ρ',e',d,s2,hd,rfl⟩:=PD (i:=2) (en:=AY) (fa:=Af pc0 Ac) (body:=Du 1 (Ca AY (Af pb1 (Ac)) 1 (asgN 3) Bb (Ao DD pe6)) [2]) (ρ:=R (some (.lst [],om)) none) (lo:=0) (hi:=(a:Int)) (as:=[(.int (a:Int),om)])
  (λ k ρ=>∃ d s2,d≠0/\ρ=R (some (.lst ((E7 k b).map pr),d)) s2) rfl (Et (by omega) (by omega)) ⟨om,none,by decide,rfl⟩ (by
   rintro i _ hi ⟨d,s2,hd,rfl⟩;obtain ⟨d0,rfl⟩:∃ d0,d=d0 + 1:=⟨d - 1,by omega⟩
   rw [EM];refine ⟨(show 2 < 3 by decide),_,Vl (i:=1) (d0:=d0) (d:=d0 + 1) rfl (qU (R:=R (some (.lst ((E7 i b).map pr),d0 + 1)) (some (.int (i:Int),om))) (i:=i) hb rfl rfl λ k _=>rfl) rfl hd ?_ rfl,1,some (.int (i:Int),om),by decide,?_⟩
   ·rw [AG,AG,AG,DT,T5]
    have:i * b<=100 * 100:=Yx (by omega) hb
    omega
   ·show R (some (PV.lst ((E7 i b).map pr++((Aq b).map λ j=>(i,j)).map pr),1)) _=R (some (PV.lst ((E7 (i + 1) b).map pr),1)) _;rw [yl,Ey])
 rw [show ((a:Int) - 0).toNat=a by omega] at e';exact ⟨d,hd,Cg rfl ((AU s1).trans ((AU e').trans rfl))⟩
def Di (a b:Nat) (t u:List (List Int)):Bool:=(E7 a b).all λ z=>decide (g t z.1 z.2<=g u z.1 z.2)
def Wo {a b c:Nat}{t u:List (List Int)} (ht:Tab a b t) (hu:Tab a b u) (ha:a<=100) (hb:b<=100) (h2:f_must_be_two_piles [bx a b c,tb t,tb u]=.ok (.non,om,.non)):f_lies_below [bx a b c,tb t,tb u]=.ok (.bl (Di a b t u),om,.non):=by
 have z:=sz;let R:Ae:=[some (bx a b c,0),some (tb t,0),some (tb u,0)]
 have s1:CY pa7 R=.nx R:=Ie (AQ (xs:=[(bx a b c,0),(tb t,0),(tb u,0)]) rfl h2);obtain ⟨d,_,hp⟩:=wB (c:=c) ha hb;have e1:=ZX (k:=2) (f:=A2 f_places_of (Af (Aa 0) (Ac))) (asg:=asgT [3,4]) (test:=Bb) (elt:=Ab (BC λ i j=>decide (i<=j)) pg8 pg9) (enc:=pr) (q:=λ z=>.bl (decide (g t z.1 z.2<=g u z.1 z.2))) (E:=λ z=>[some (.int (z.1:Int),om),some (.int (z.2:Int),om)]) (p:=λ _=>true) (ρ:=R) (E7 a b) (AQ (xs:=[(bx a b c,0)]) rfl hp) (λ _ _=>rfl) (λ _ _=>rfl)
  (λ z hz _=>CG (JR (i:=z.1) (j:=z.2) ht (d:=0) rfl rfl rfl (zxi.mp hz).1 (zxi.mp hz).2) (JR (i:=z.1) (j:=z.2) hu (d:=0) rfl rfl rfl (zxi.mp hz).1 (zxi.mp hz).2)) (by rw [T5];have:a * b<=100 * 100:=Yx ha hb;omega)
 rw [wF] at e1;exact Cg rfl ((AU s1).trans (De (all_ok e1)))
abbrev _root_.pb5:=Ab (BC λ i j=>decide (j < i)) (Aa 3) (bC (.int 0))
abbrev _root_.pe9:=Ab Bf (Aa 6) (bC (.int 1))
abbrev _root_.pg5:=Ao DD (Af (Aa 7) (Ac))
abbrev _root_.pe0:=Ca AY (Af pe9 (Ac)) 1 (asgN 7) Bb (Ab Bf (Aa 5) pg5)
abbrev _root_.pf3:=Ab A3 (Aa 5) (Bu Lh (bC (.int 1)))
abbrev _root_.pa1:=Ag (Al false 6 (Ce (bT pb5) pf3 (Aa 1)) [5,1]) (Du 4 pe0 [5])
abbrev _root_.pd9:=Al false 4 (Ao BG (Ac)) []
def Xf_rows_of_heights:Fs:=(Ag (Al false 2 (Ao BG (Af (Ao DD (Ac)) (Ac))) [])
 (Ag (CQ AY (Af (Aa 0) (Ac)) (asgN 3) (Ag pd9
 (Ag (EC (Aa 2) [2] (asgN 5) pa1)
 (Al false 2 (Aa 4) [4]))))
 (DE 2)))
def f_rows_of_heights:Fn:=Ay false 2 5 Xf_rows_of_heights
abbrev _root_.pf8:=Ao BG (Af (bC (.int 0)) (Ac))
def Xf_added:Fs:=(Ag (Al false 2 (Ab Bf (Ao HU (Af (Aa 0) (Ac))) (Ab BU pf8 (Ab Ec pe3 pb4))) [0,1,0])
 (Ag (Gy .enm (Af (Aa 1) (Ac)) [1] (asgT [3,4]) (Jq (λ i j=>i + j) 2 (Aa 3) (Aa 4)))
 (DE 2)))
def f_added:Fn:=Ay false 2 3 Xf_added
abbrev _root_.pg0:=Af (Ab Ec (Ab A3 (Aa 4) (Aa 3)) (bC (.int 1))) (Ac)
abbrev _root_.pc4:=Ab Bf (Ab Bf (Fo (Aa 4) none (some (Aa 3))) (Ao DD pg0)) (Fo (Aa 4) (some (Ab Bf (Aa 3) (bC (.int 1)))) none)
abbrev _root_.pf1:=A2 f_added (Af (Ab A3 (Aa 2) (Aa 4)) (Af (Ab A3 (Aa 2) (Aa 5)) (Ac)))
abbrev _root_.pa3:=Ag (Al false 5 pc4 [4,4,3,4]) (BH (bT (Ab (DK false) (Aa 5) (Aa 2))) (Ep 2 (Aa 4) pf1) AJ)
def Xf_sums_of_lower_rows:Fs:=(Ag (Al false 2 (Ao LO (Af (Aa 0) (Ac))) [0])
 (Ag (CQ AY (Af (Aa 1) (Ac)) (asgN 3) (Ij (Aa 0) [0] (asgN 4) pa3))
 (DE 2)))
def f_sums_of_lower_rows:Fn:=Ay false 2 4 Xf_sums_of_lower_rows
def Xf_lies_between:Fs:=(Ax (Ao E5 (Af (Ca AY (Af pb4 (Ac)) 1 (asgN 3) Bb (He (λ i j=>decide (i<=j)) (λ i j=>decide (i<=j)) (Ab A3 (Aa 1) (Aa 3)) (Ab A3 (Aa 0) (Aa 3)) (Ab A3 (Aa 2) (Aa 3)))) (Ac))))
def f_lies_between:Fn:=Ay false 3 0 Xf_lies_between
abbrev _root_.pa5:=BH (bT (A2 f_lies_between (Af (Aa 5) pb8))) (Ep 4 (Aa 5) (Ab Bf (Ab BU pf8 (Ao Es (Af (Cf (Aa 3) 1 (asgN 6) Bb (Ab A3 (Aa 5) (Aa 6))) (Ac)))) (Ab A3 (Aa 0) (Aa 5)))) (Ep 4 (Aa 5) (Ao BG (Ac)))
def Xf_table_of_row:Fs:=(Ag (Al false 4 ET [])
 (Ag (Ij (Aa 0) [0] (asgN 5) pa5)
 (DE 4)))
def f_table_of_row:Fn:=Ay false 4 2 Xf_table_of_row
abbrev _root_.pc6:=Ab (Be false) (Ab A3 (Aa 12) (bC (.int 0))) (Aa 10)
abbrev _root_.pc5:=A2 f_table_of_row (Af (A2 f_sums_of_lower_rows (Af (Aa 7) (Af (Aa 5) (Ac)))) (Af (Ab A3 (Aa 1) (Aa 10)) (Af (Ab A3 (Aa 2) (Aa 10)) (Af (Aa 11) (Ac)))))
abbrev _root_.pg1:=Ab A3 (Aa 12) (bC (.int 1))
abbrev _root_.pa2:=Ag (Al false 11 (Cf (Aa 3) 1 (asgN 12) (bT pc6) pg1) [3,3]) (Ag (Al false 7 pc5 [7,5,1,10,2,10,11]) (C1 9 (Aa 7) [7]))
abbrev _root_.pd6:=Ab (Be false) (Ao Es (Af (Aa 8) (Ac))) (bC (.int 0))
abbrev _root_.pb6:=Ce (bT pd6) (Ao BG (Af (bC (.int 1)) (Ac))) (Ao BG (Ac))
abbrev _root_.pb0:=Af (Aa 5) (Af (Aa 6) (Ac))
abbrev _root_.pe5:=Af (Ab Ec (Aa 4) (bC (.int 1))) (Af (Bu Lh (bC (.int 1))) (Af (Bu Lh (bC (.int 1))) (Ac)))
def Xf_tables_between:Fs:=(Ag (Cp (asgT [4,5,6]) (Aa 0) [0])
 (Ag (Al false 7 ET [])
 (Ag (EC (A2 f_rows_of_heights pb0) [5,6] (asgN 8) (Ep 7 (Aa 8) pb6))
 (Ag (Al false 9 (Ao BG (Ac)) [])
 (Ag (IT pe5 (asgN 10) pa2)
 (Ax (Bu QU (Aa 9))))))))
def f_tables_between:Fn:=Ay false 4 8 Xf_tables_between
abbrev _root_.pe8:=A2 f_added (Af (Aa 4) (Af (Aa 5) (Ac)))
def Xf_tally_between:Fs:=(Ag pd9
 (Ag (Kk (Ab A3 (A2 f_tables_between (Af (Aa 0) (Af (Aa 1) pe6))) (bC (.int 0))) [0,1,2,3] (asgN 5) (Al false 4 pe8 [4,5]))
 (DE 4)))
def f_tally_between:Fn:=Ay false 4 2 Xf_tally_between
def CP (a b:Int):List Int:=(Aq (b - a).toNat).map λ k=>a + (k:Nat)
def JL {a b:Int} (h:b<=a):CP a b=[]:=by
 unfold CP;rw [show (b - a).toNat=0 by omega];rfl
def M4 {a b:Int} (h:a < b):CP a b=a::CP (a + 1) b:=by
 unfold CP;rw [show (b - a).toNat=(b - (a + 1)).toNat + 1 by omega,YM];simp only [AR,Cu,Int.natCast_zero,Sk];congr 1;apply J1;intro k _;show a + ((k + 1:Nat):Int)=a + 1 + (k:Int);omega
def qdl {a b x:Int}:x∈CP a b↔a<=x/\x < b:=by
 unfold CP;simp only [jd4,jc4];constructor
 ·rintro ⟨k,hk,rfl⟩;omega
 ·rintro ⟨h1,h2⟩;exact ⟨(x - a).toNat,by omega,by omega⟩
def E2 (lo hi x:Int):Bool:=decide (lo<=x) && decide (x<=hi)
theorem wH (lo hi:Int):∀ (n:Nat) (a b:Int),(b - a).toNat=n->lo<=a->(CP a b).filter (E2 lo hi)=CP a (min (b - 1) hi + 1):=by
 intro n;induction n with
 | zero=>
  intro a b h ha;rw [JL (a:=a) (by omega),JL (by omega)];rfl
 | succ n ih=>
  intro a b h ha;rw [M4 (by omega),Dw];by_cases h2:a<=hi
  ·rw [if_pos (by unfold E2;simp [h2,ha]),M4 (a:=a) (b:=min (b - 1) hi + 1) (by omega),ih (a + 1) b (by omega) (by omega)]
  ·rw [if_neg (by unfold E2;simp;omega),JL (a:=a) (b:=min (b - 1) hi + 1) (by omega),ih (a + 1) b (by omega) (by omega),JL (by omega)]
theorem yc (lo hi:Int):∀ (n:Nat) (a b:Int),(b - a).toNat=n->a<=lo->(CP a b).filter (E2 lo hi)=CP lo (min (b - 1) hi + 1):=by
 intro n;induction n with
 | zero=>
  intro a b h ha;rw [JL (a:=a) (by omega),JL (by omega)];rfl
 | succ n ih=>
  intro a b h ha;by_cases e:a=lo
  ·subst e;exact wH a hi _ a b rfl (D5 _)
  ·rw [M4 (by omega),Dw,if_neg (by unfold E2;simp;omega)];exact ih (a + 1) b (by omega) (by omega)
def AX (hi ah:Int) (row:List Int):Int:=match row.getLast? with
 | none=>min hi ah
 | some m=>min (min hi ah) m
def BF (lo hi ah:Nat->Int):Nat->List (List Int)
 | 0=>[[]]
 | n + 1=>(BF lo hi ah n).flatMap λ row=>(CP (lo n) (AX (hi n) (ah n) row + 1)).map λ x=>row++[x]
def DR (lo hi:Nat->Int) (n:Nat) (r:List Int):Bool:=(Aq n).all λ i=>E2 (lo i) (hi i) (r.getD i 0)
theorem M8 (lo hi ah:Nat->Int):∀ (n:Nat) (r:List Int),r∈BF lo hi ah n->r.length=n
 | 0,r,h=>by simp [BF] at h;simp [h]
 | n + 1,r,h=>by
  rw [BF,Ku] at h;obtain ⟨q,h1,h2⟩:=h;obtain ⟨x,_,rfl⟩:=jd4.mp h2;simp [M8 lo hi ah n q h1]
def wM (lo hi:Nat->Int) (r:List Int) (x:Int):DR lo hi (r.length + 1) (r++[x])=(DR lo hi r.length r && E2 (lo r.length) (hi r.length) x):=by
 unfold DR;rw [FW,Yy];have e1:((Aq r.length).all λ i=>E2 (lo i) (hi i) ((r++[x]).getD i 0))=(Aq r.length).all λ i=>E2 (lo i) (hi i) (r.getD i 0):=by
  rw [DO,jb5,jb5];constructor
  ·intro h i hi'
   have:=h i hi'
   have hl:=jc4.mp hi';rwa [AL,CF hl,<- AL] at this
  ·intro h i hi';have hl:=jc4.mp hi';rw [AL,CF hl,<- AL];exact h i hi'
 rw [e1];simp [AL]
theorem Px {α β:Type} (p:α->Bool) (f g:α->List β):∀ (l:List α),(∀ a∈l,f a=if p a=true then g a else [])->l.flatMap f=(l.filter p).flatMap g
 | [],_=>rfl
 | a::l,h=>by
  rw [GI,Px p f g l λ b hb=>h b (AH _ hb),h a AF,Dw];split
  ·rw [GI]
  ·rfl
theorem vm {hi hi' ah:Int} (h:hi<=hi') (row:List Int):min (AX hi' ah row) hi=AX hi ah row:=by
 unfold AX;cases row.getLast? with
 | none=>simp only;omega
 | some m=>simp only;omega
theorem Pg {lo hi lo' hi' ah:Nat->Int} (hl:∀ i,lo' i<=lo i) (hh:∀ i,hi i<=hi' i):∀ (n:Nat),(BF lo' hi' ah n).filter (DR lo hi n)=BF lo hi ah n
 | 0=>rfl
 | n + 1=>by
  rw [BF,BF,<- Pg hl hh n,YE];refine Px _ _ _ _ λ a ha=>?_;have la:=M8 _ _ _ n a ha;subst la;rw [OJ];have e:(DR lo hi (a.length + 1) ∘ λ x=>a++[x])=λ x=>DR lo hi a.length a && E2 (lo a.length) (hi a.length) x:=by
   funext x;exact wM lo hi a x
  rw [e];cases DR lo hi a.length a with
  | false=>simp
  | true=>
   simp only [Yt,if_true]
   have:=yc (lo a.length) (hi a.length) _ (lo' a.length) (AX (hi' a.length) (ah a.length) a + 1) rfl (hl _)
   rw [show (λ x=>E2 (lo a.length) (hi a.length) x)=E2 (lo a.length) (hi a.length) from rfl,this,Int.add_sub_cancel,vm (hh _)]
def Gp (c:Int) (pile:List (List Int)):Nat->Int:=match pile.getLast? with
 | none=>λ _=>c
 | some r=>λ j=>r.getD j 0
def Bp (lo hi:Nat->Nat->Int) (c:Int) (b:Nat):Nat->List (List (List Int))
 | 0=>[[]]
 | n + 1=>(Bp lo hi c b n).flatMap λ pile=>(BF (lo n) (hi n) (Gp c pile) b).map λ r=>pile++[r]
def GC (lo hi:Nat->Nat->Int) (b n:Nat) (p:List (List Int)):Bool:=(Aq n).all λ i=>DR (lo i) (hi i) b (p.getD i [])
theorem T8 (lo hi:Nat->Nat->Int) (c:Int) (b:Nat):∀ (n:Nat) (p:List (List Int)),p∈Bp lo hi c b n->p.length=n
 | 0,r,h=>by simp [Bp] at h;simp [h]
 | n + 1,r,h=>by
  rw [Bp,Ku] at h;obtain ⟨q,h1,h2⟩:=h;obtain ⟨x,_,rfl⟩:=jd4.mp h2;simp [T8 lo hi c b n q h1]
def yd (lo hi:Nat->Nat->Int) (b:Nat) (p:List (List Int)) (r:List Int):GC lo hi b (p.length + 1) (p++[r])=(GC lo hi b p.length p && DR (lo p.length) (hi p.length) b r):=by
 unfold GC;rw [FW,Yy];have e1:((Aq p.length).all λ i=>DR (lo i) (hi i) b ((p++[r]).getD i []))=(Aq p.length).all λ i=>DR (lo i) (hi i) b (p.getD i []):=by
  rw [DO,jb5,jb5];constructor
  ·intro h i hi'
   have:=h i hi'
   have hl:=jc4.mp hi';rwa [AL,CF hl,<- AL] at this
  ·intro h i hi';have hl:=jc4.mp hi';rw [AL,CF hl,<- AL];exact h i hi'
 rw [e1];simp [AL]
theorem Tz {lo hi lo' hi':Nat->Nat->Int}{c:Int}{b:Nat} (hl:∀ i j,lo' i j<=lo i j) (hh:∀ i j,hi i j<=hi' i j):∀ (n:Nat),(Bp lo' hi' c b n).filter (GC lo hi b n)=Bp lo hi c b n
 | 0=>rfl
 | n + 1=>by
  rw [Bp,Bp,<- Tz hl hh n,YE];refine Px _ _ _ _ λ a ha=>?_;have la:=T8 _ _ _ _ n a ha;subst la;rw [OJ];have e:(GC lo hi b (a.length + 1) ∘ λ x=>a++[x])=λ x=>GC lo hi b a.length a && DR (lo a.length) (hi a.length) b x:=by
   funext x;exact yd lo hi b a x
  rw [e];cases GC lo hi b a.length a with
  | false=>simp
  | true=>
   simp only [Yt,if_true];rw [show (λ x=>DR (lo a.length) (hi a.length) b x)=DR (lo a.length) (hi a.length) b from rfl,Pg (hl _) (hh _)]
def EG (f:Nat->Int) (n:Nat):List Int:=(Aq n).map f
def Xu (f:Nat->Int) (n:Nat):EG f (n + 1)=EG f n++[f n]:=by unfold EG;rw [FW,Ey];rfl
theorem vn {hi ah x:Int}{f:Nat->Int}{n:Nat} (h1:x<=hi) (h2:x<=ah) (h3:∀ m,m + 1=n->x<=f m):x<=AX hi ah (EG f n):=by
 unfold AX;cases n with
 | zero=>simp only [EG,Sr,FT,Sv];omega
 | succ m=>
  rw [Xu,YI];simp only [YO,Yw]
  have:=h3 m rfl
  omega
theorem T7 {lo hi ah:Nat->Int}:∀ (n:Nat),(∀ i,i < n->lo i<=hi i)->(∀ i,i < n->lo i<=ah i)->(∀ i,i + 1 < n->lo (i + 1)<=lo i)->∃ t,BF lo hi ah n=EG lo n::t
 | 0,_,_,_=>⟨[],rfl⟩
 | n + 1,h1,h2,h3=>by
  obtain ⟨t,e⟩:=T7 n (λ i hi=>h1 i (by omega)) (λ i hi=>h2 i (by omega)) (λ i hi=>h3 i (by omega));have hx:lo n<=AX (hi n) (ah n) (EG lo n):=vn (h1 n (by omega)) (h2 n (by omega)) λ m hm=>by subst hm;exact h3 m (by omega)
  rw [BF,e,GI,M4 (by omega),AR,FX,<- Xu];exact ⟨_,rfl⟩
def M5 {r:List Int}{n:Nat} (h:r.length=n + 1):r.getLast?=some (r.getD n 0):=by
 rw [SI,h,OP,AL,Cd (by omega)];rfl
def LF {r:List Int}{x:Int}{n j:Nat} (h:r.length=n):(r++[x]).getD j 0=if j=n then x else r.getD j 0:=by
 rw [AL,AL,YH];by_cases hj:j < n
 ·rw [if_pos (by omega),if_neg (by omega)]
 ·rw [if_neg (by omega)];by_cases e:j=n
  ·rw [if_pos e,e,h,OD];rfl
  ·rw [if_neg e,E1 (by simp;omega),E1 (by omega)]
theorem Pn {lo hi ah:Nat->Int}:∀ {n:Nat}{r:List Int},r∈BF lo hi ah n->r.length=n/\(∀ j,j < n->lo j<=r.getD j 0/\r.getD j 0<=hi j/\r.getD j 0<=ah j)/\∀ j,j + 1 < n->r.getD (j + 1) 0<=r.getD j 0
 | 0,r,h=>by
  have e:r=[]:=by simpa [BF] using h
  subst e;exact ⟨rfl,λ j h=>by omega,λ j h=>by omega⟩
 | n + 1,r,h=>by
  rw [BF,Ku] at h;obtain ⟨q,h1,h2⟩:=h;obtain ⟨x,hx,rfl⟩:=jd4.mp h2;obtain ⟨l,b,m⟩:=Pn h1;obtain ⟨x1,x2⟩:=qdl.mp hx;have t1:AX (hi n) (ah n) q<=hi n/\AX (hi n) (ah n) q<=ah n/\(0 < n->AX (hi n) (ah n) q<=q.getD (n - 1) 0):=by
   unfold AX;cases n with
   | zero=>
    have e:q=[]:=jf6.mp l;subst e;exact ⟨by show min _ _<=_;(clear x2 l x1;omega),by show min _ _<=_;(clear x2 l x1;omega),λ h=>by (clear x2 l x1;omega)⟩
   | succ n=>
    rw [M5 l];exact ⟨by show min (min _ _) _<=_;(clear x2 x1 l;omega),by show min (min _ _) _<=_;(clear x2 x1 l;omega),λ _=>by show min (min _ _) _<=_;rw [OP];(clear x2 x1 l;omega)⟩
  refine ⟨by rw [BI,l];rfl,λ j hj=>?_,λ j hj=>?_⟩
  ·rw [LF l];by_cases e:j=n
   ·subst e;rw [if_pos rfl];omega
   ·rw [if_neg e];exact b j (by (clear t1 x2 x1 l;omega))
  ·rw [LF l,LF l,if_neg (show ¬ j=n by (clear t1 x2 x1 l;omega))];by_cases e:j + 1=n
   ·rw [if_pos e]
    have:=t1.2.2 (by (clear e t1 x2 x1 l;omega))
    rw [show n - 1=j by (clear this hj t1 x2 x1 l;omega)] at this
    (clear e hj t1 x1 l;omega)
   ·rw [if_neg e];exact m j (by (clear t1 x2 x1 l;omega))
def UD {p:List (List Int)}{n:Nat} (h:p.length=n + 1):p.getLast?=some (p.getD n []):=by
 rw [SI,h,OP,AL,Cd (by omega)];rfl
def Ra {p:List (List Int)}{r:List Int}{n i:Nat} (h:p.length=n):(p++[r]).getD i []=if i=n then r else p.getD i []:=by
 rw [AL,AL,YH];by_cases hj:i < n
 ·rw [if_pos (by omega),if_neg (by omega)]
 ·rw [if_neg (by omega)];by_cases e:i=n
  ·rw [if_pos e,e,h,OD];rfl
  ·rw [if_neg e,E1 (by simp;omega),E1 (by omega)]
def LG {p:List (List Int)}{r:List Int}{n i j:Nat} (h:p.length=n):g (p++[r]) i j=if i=n then r.getD j 0 else g p i j:=by
 unfold g;rw [Ra h];split <;> rfl
theorem P6 {lo hi:Nat->Nat->Int}{c:Int}{b:Nat}:∀ {n:Nat}{p:List (List Int)},p∈Bp lo hi c b n->Tab n b p/\(∀ i j,i < n->j < b->lo i j<=g p i j/\g p i j<=hi i j/\g p i j<=c)/\(∀ i j,i + 1 < n->j < b->g p (i + 1) j<=g p i j)/\∀ i j,i < n->j + 1 < b->g p i (j + 1)<=g p i j
 | 0,p,h=>by
  have e:p=[]:=by simpa [Bp] using h
  subst e;exact ⟨⟨rfl,λ _ z=>nomatch z⟩,λ i j h=>by omega,λ i j h=>by omega,λ i j h=>by omega⟩
 | n + 1,p,h=>by
  rw [Bp,Ku] at h;obtain ⟨q,h1,h2⟩:=h;obtain ⟨r,hr,rfl⟩:=jd4.mp h2;obtain ⟨tq,b1,d1,r1⟩:=P6 h1;obtain ⟨l,b2,m2⟩:=Pn hr;have ah:∀ j,j < b->Gp c q j<=c/\(0 < n->Gp c q j<=g q (n - 1) j):=λ j hj=>by
   unfold Gp;cases n with
   | zero=>
    have e:q=[]:=jf6.mp tq.1;subst e;exact ⟨D5 _,λ h=>by omega⟩
   | succ n=>
    rw [UD tq.1];exact ⟨(b1 n j (by omega) hj).2.2,λ _=>D5 _⟩
  refine ⟨⟨by rw [BI,tq.1];rfl,λ s hs=>(jd7.mp hs).elim (λ z=>tq.2 s z) λ z=>by rw [jb7.mp z,l]⟩,λ i j hi' hj=>?_,λ i j hi' hj=>?_,λ i j hi' hj=>?_⟩
  ·rw [LG tq.1];by_cases e:i=n
   ·subst e;rw [if_pos rfl];have h3:=b2 j hj;have h4:=ah j hj
    (clear hi' hj l;omega)
   ·rw [if_neg e];exact b1 i j (by omega) hj
  ·rw [LG tq.1,LG tq.1,if_neg (show ¬ i=n by omega)];by_cases e:i + 1=n
   ·rw [if_pos e];have h3:=b2 j hj;have h4:=(ah j hj).2 (by (clear h3 e hj l;omega));rw [show n - 1=i by (clear h4 h3 hj hi' l;omega)] at h4
    (clear e hj hi' l;omega)
   ·rw [if_neg e];exact d1 i j (by omega) hj
  ·rw [LG tq.1,LG tq.1];by_cases e:i=n
   ·rw [if_pos e,if_pos e];exact m2 j hj
   ·rw [if_neg e,if_neg e];exact r1 i j (by omega) hj
def ye {hi:Nat->Nat->Int}{c:Int}{a b:Nat}{lo:Nat->Nat->Int}{p:List (List Int)} (h0:∀ i j,0<=lo i j) (h:p∈Bp lo hi c b a):Pile a b c p:=by
 obtain ⟨t,h1,h2,h3⟩:=P6 h;exact ⟨t,λ i j hi hj=>Fl (h0 i j) (h1 i j hi hj).1,λ i j hi hj=>(h1 i j hi hj).2.2,h2,h3⟩
theorem T6 {lo hi ah lo' hi' ah':Nat->Int}:∀ (n:Nat),(∀ j,j < n->lo j=lo' j/\hi j=hi' j/\ah j=ah' j)->BF lo hi ah n=BF lo' hi' ah' n
 | 0,_=>rfl
 | n + 1,h=>by
  rw [BF,BF,T6 n λ j hj=>h j (by omega)];obtain ⟨e1,e2,e3⟩:=h n (by omega);rw [e1,e2,e3]
theorem Uj {α β:Type}{f:α->List β}{m:Nat}:∀ (l:List α),(∀ a∈l,(f a).length<=m)->(l.flatMap f).length<=l.length * m
 | [],_=>by simp
 | a::l,h=>by
  rw [GI,BI,Ba,Yk,Yj];have h1:=h a AF;have h2:=Uj l λ x hx=>h x (AH _ hx);omega
def kZ (a b:Int):(CP a b).length=(b - a).toNat:=by unfold CP;rw [AG,DT]
def jH (hi ah:Int) (row:List Int):AX hi ah row<=hi:=by
 unfold AX;split <;> omega
theorem X3 {lo hi ah:Nat->Int}{m:Nat}:∀ (n:Nat),(∀ j,j < n->hi j - lo j + 1<=m)->(BF lo hi ah n).length<=m ^ n
 | 0,_=>by simp [BF]
 | n + 1,h=>by
  rw [BF];refine Cv (Uj (m:=m) _ λ r hr=>?_) ?_
  ·rw [AG,kZ]
   have:=jH (hi n) (ah n) r
   have:=h n (by omega)
   omega
  ·rw [Sj];exact Mm m (X3 n λ j hj=>h j (by omega))
def Xa (a b:Nat) (f:Nat->Nat->Int):Cr (a + 1) b f=Cr a b f++[EG (f a) b]:=by
 unfold Cr EG;rw [FW,Ey];rfl
theorem vt {c:Int}{b n j:Nat}{f:Nat->Nat->Int}{x:Int} (hj:j < b) (h0:x<=c) (h1:∀ m,m + 1=n->x<=f m j):x<=Gp c (Cr n b f) j:=by
 unfold Gp;cases n with
 | zero=>exact h0
 | succ m=>
  rw [Xa,YI];simp only [YO,Yw];show x<=(EG (f m) b).getD j 0;unfold EG;rw [Wh hj];exact h1 m rfl
theorem TJ {lo hi:Nat->Nat->Int}{c:Int}{b:Nat}:∀ (n:Nat),(∀ i j,i < n->j < b->lo i j<=hi i j)->(∀ i j,i < n->j < b->lo i j<=c)->(∀ i j,i + 1 < n->j < b->lo (i + 1) j<=lo i j)->(∀ i j,i < n->j + 1 < b->lo i (j + 1)<=lo i j)->∃ t,Bp lo hi c b n=Cr n b lo::t
 | 0,_,_,_,_=>⟨[],rfl⟩
 | n + 1,h1,h2,h3,h4=>by
  obtain ⟨t,e⟩:=TJ n (λ i j hi hj=>h1 i j (by omega) hj) (λ i j hi hj=>h2 i j (by omega) hj) (λ i j hi hj=>h3 i j (by omega) hj) (λ i j hi hj=>h4 i j (by omega) hj);obtain ⟨u,eu⟩:=T7 (lo:=lo n) (hi:=hi n) (ah:=Gp c (Cr n b lo)) b (λ j hj=>h1 n j (by omega) hj) (λ j hj=>vt hj (h2 n j (by omega) hj) λ m hm=>by subst hm;exact h3 m j (by omega) hj) (λ j hj=>h4 n j (by omega) hj);rw [Bp,e,GI,eu,AR,FX,<- Xa];exact ⟨_,rfl⟩
def BO:List Int->List Int->Bool
 | [],[]=>false
 | [],_::_=>true
 | _::_,[]=>false
 | x::xs,y::ys=>decide (x < y) || (decide (x=y) && BO xs ys)
theorem KJ:∀ r:List Int,BO r r=false
 | []=>rfl
 | x::r=>by simp [BO,KJ r]
theorem PH:∀ {r q:List Int},BO r q=true->BO q r=false
 | [],[],h=>by cases h
 | [],_::_,_=>rfl
 | _::_,[],h=>by cases h
 | x::r,y::q,h=>by
  simp only [BO,EN,AS,decide_eq_true_iff] at h;rcases h with h | ⟨h,h2⟩
  ·simp only [BO,Bool.or_eq_false_iff,Bool.and_eq_false_iff,decide_eq_false_iff_not];exact ⟨by omega,.inl (by omega)⟩
  ·subst h;simp [BO,PH h2]
theorem WX:∀ {r q:List Int} (x y:Int),r.length=q.length->BO r q=true->BO (r++[x]) (q++[y])=true
 | [],[],_,_,_,h=>by cases h
 | [],_::_,_,_,e,_=>by cases e
 | _::_,[],_,_,e,_=>by cases e
 | a::r,b::q,x,y,e,h=>by
  simp only [BO,EN,AS,decide_eq_true_iff,FX] at h ⊢;rcases h with h | ⟨h,h2⟩
  ·exact .inl h
  ·exact .inr ⟨h,WX x y (by simpa using e) h2⟩
theorem WW:∀ (r:List Int) {x y:Int},x < y->BO (r++[x]) (r++[y])=true
 | [],x,y,h=>by simp [BO,h]
 | a::r,x,y,h=>by simp [BO,WW r h]
def z8 (a:Int):∀ (n:Nat) (b:Int),(b - a).toNat=n->(CP a b).Pairwise (·< ·):=by
 intro n b _;unfold CP;rw [Su];refine List.Pairwise.imp (λ {i j} h=>?_) List.pairwise_lt_range;show a + (i:Int) < a + (j:Int);omega
theorem PR {lo hi ah:Nat->Int}:∀ (n:Nat),(BF lo hi ah n).Pairwise λ r q=>BO r q=true
 | 0=>by simp [BF]
 | n + 1=>by
  rw [BF,YJ];refine ⟨λ r hr=>?_,?_⟩
  ·rw [Su];exact List.Pairwise.imp (λ {x y} h=>WW r h) (z8 _ _ _ rfl)
  ·refine List.Pairwise.imp_of_mem (λ {r q} hr hq h u hu v hv=>?_) (PR n);obtain ⟨x,_,rfl⟩:=jd4.mp hu;obtain ⟨y,_,rfl⟩:=jd4.mp hv;exact WX x y (by rw [M8 _ _ _ n r hr,M8 _ _ _ n q hq]) h
theorem TL {lo hi ah:Nat->Int}:∀ {n:Nat}{r:List Int},r.length=n->(∀ j,j < n->lo j<=r.getD j 0/\r.getD j 0<=hi j/\r.getD j 0<=ah j)->(∀ j,j + 1 < n->r.getD (j + 1) 0<=r.getD j 0)->r∈BF lo hi ah n
 | 0,r,h,_,_=>by rw [jf6.mp h];simp [BF]
 | n + 1,r,h,h1,h2=>by
  have hn:r≠[]:=λ e=>by rw [e] at h;cases h
  obtain ⟨q,x,rfl⟩:∃ q x,r=q++[x]:=⟨r.dropLast,r.getLast hn,(List.dropLast_concat_getLast hn).symm⟩
  have hq:q.length=n:=by simpa using h
  have g1:∀ j,j < n->(q++[x]).getD j 0=q.getD j 0:=λ j hj=>by rw [LF hq,if_neg (by omega)]
  have g2:(q++[x]).getD n 0=x:=by rw [LF hq,if_pos rfl]
  have mq:q∈BF lo hi ah n:=TL hq (λ j hj=>by have:=h1 j (by (clear g2 hq h;omega));rwa [g1 j hj] at this) (λ j hj=>by have:=h2 j (by (clear g2 hq h;omega));rwa [g1 j (by (clear this g2 hq h;omega)),g1 (j + 1) (by (clear this g2 hq h;omega))] at this);rw [BF,Ku];refine ⟨q,mq,jd4.mpr ⟨x,qdl.mpr ⟨?_,?_⟩,rfl⟩⟩
  ·have:=(h1 n (by (clear g2 hq h;omega))).1;rwa [g2] at this
  ·have a1:=(h1 n (by (clear g2 hq h;omega))).2;rw [g2] at a1;unfold AX;cases n with
   | zero=>rw [jf6.mp hq];simp only [Sv];(clear g2 hq h;omega)
   | succ m=>
    have a2:=h2 m (by (clear a1 g2 hq h;omega));rw [g2,g1 m (by (clear a2 a1 g2 hq h;omega))] at a2;rw [M5 hq];simp only;(clear g2 hq h;omega)
def Au (b:Nat) (c:Int):List (List Int):=BF (λ _=>0) (λ _=>c) (λ _=>c) b
structure RowB (b:Nat) (c:Int) (r:List Int):Prop where
 len:r.length=b
 lo:∀ j,j < b->0<=r.getD j 0
 hi:∀ j,j < b->r.getD j 0<=c
 nr:∀ j,j + 1 < b->r.getD (j + 1) 0<=r.getD j 0
def zqp {b:Nat}{c:Int}{r:List Int}:r∈Au b c↔RowB b c r:=by
 constructor
 ·intro h;obtain ⟨h1,h2,h3⟩:=Pn h;exact ⟨h1,λ j hj=>(h2 j hj).1,λ j hj=>(h2 j hj).2.1,h3⟩
 ·intro h;exact TL h.len (λ j hj=>⟨h.lo j hj,h.hi j hj,h.hi j hj⟩) h.nr
def PQ (b:Nat) (c:Int):(Au b c).Pairwise λ r q=>BO r q=true:=PR b
def K7 (b:Nat) (c:Int):(Au b c).Nodup:=List.Pairwise.imp (λ {r q} h e=>by rw [e,KJ] at h;cases h) (PQ b c)
def As:List Int->List Int->List Int
 | [],ys=>ys
 | x::xs,[]=>x::xs
 | x::xs,y::ys=>(x + y)::As xs ys
theorem KZ:∀ xs:List Int,As xs []=xs
 | []=>rfl
 | _::_=>rfl
theorem X8:∀ xs ys:List Int,As xs ys=As ys xs
 | [],ys=>by rw [KZ];rfl
 | x::xs,[]=>rfl
 | x::xs,y::ys=>by rw [As,As,X8 xs ys,Int.add_comm]
theorem KA:∀ xs ys zs:List Int,As (As xs ys) zs=As xs (As ys zs)
 | [],ys,zs=>rfl
 | x::xs,[],zs=>rfl
 | x::xs,y::ys,[]=>rfl
 | x::xs,y::ys,z::zs=>by simp only [As];rw [KA xs ys zs,Int.add_assoc]
theorem P9:∀ xs ys:List Int,(As xs ys).length=max xs.length ys.length
 | [],ys=>by simp [As]
 | x::xs,[]=>by simp [As]
 | x::xs,y::ys=>by simp only [As,Ba,P9 xs ys];omega
theorem W9:∀ xs ys:List Int,(As xs ys).sum=xs.sum + ys.sum
 | [],ys=>by simp [As]
 | x::xs,[]=>by simp [As]
 | x::xs,y::ys=>by simp only [As,Kr,W9 xs ys];omega
def Cc (f:List Int->List Int) (l:List (List Int)):List Int:=l.foldr (λ r s=>As (f r) s) []
def HW {f:List Int->List Int}{r:List Int}{l:List (List Int)}:Cc f (r::l)=As (f r) (Cc f l):=rfl
theorem TB {f:List Int->List Int}{p q s:List Int->Bool}:∀ (l:List (List Int)),(∀ r∈l,s r=(p r || q r))->(∀ r∈l,p r=true->q r=false)->Cc f (l.filter s)=As (Cc f (l.filter p)) (Cc f (l.filter q))
 | [],_,_=>rfl
 | r::l,h,d=>by
  have ih:=TB (f:=f) l (λ a ha=>h a (AH _ ha)) (λ a ha=>d a (AH _ ha));have hs:=h r AF;have hd:=d r AF;rw [Dw,Dw,Dw,hs];cases hp:p r with
  | true=>
   rw [hd hp];simp only [Sn,if_true,GJ,if_false,HW,ih,KA]
  | false=>
   cases hq:q r with
   | true=>
    simp only [Bool.or_true,if_true,GJ,if_false,HW,ih];rw [<- KA,<- KA,X8 (f r)]
   | false=>simp only [Sn,GJ,if_false,ih]
theorem X5 {f:List Int->List Int}{p:List Int->Bool}{r:List Int}:∀ {l:List (List Int)},l.Nodup->r∈l->(∀ q∈l,p q=decide (q=r))->Cc f (l.filter p)=f r
 | [],_,h,_=>by cases h
 | a::l,nd,h,hp=>by
  rw [ji9] at nd;rw [Dw,hp a AF];by_cases e:a=r
  ·subst e
   have:l.filter p=[]:=by
    rw [ji7];intro q hq;rw [hp q (AH _ hq),decide_eq_true_iff];rintro rfl;exact nd.1 hq
   rw [decide_eq_true rfl,if_pos rfl,this,HW];exact KZ _
  ·rw [decide_eq_false e,if_neg (by simp)];rcases jc3.mp h with h | h
   ·exact absurd h.symm e
   ·exact X5 nd.2 h λ q hq=>hp q (AH _ hq)
def Jv (b j:Nat) (r q:List Int):Bool:=(Aq b).all λ i=>if i < j then decide (q.getD i 0<=r.getD i 0) else decide (q.getD i 0=r.getD i 0)
def HR {b j:Nat}{r q:List Int}:Jv b j r q=true↔∀ i,i < b->(i < j->q.getD i 0<=r.getD i 0)/\(j<=i->q.getD i 0=r.getD i 0):=by
 unfold Jv;rw [jb5];constructor
 ·intro h i hi
  have:=h i (jc4.mpr hi)
  by_cases e:i < j
  ·rw [if_pos e,decide_eq_true_iff] at this;exact ⟨λ _=>this,λ e'=>absurd e (by (clear e this hi;omega))⟩
  ·rw [if_neg e,decide_eq_true_iff] at this;exact ⟨λ e'=>absurd e' e,λ _=>this⟩
 ·intro h i hi
  have:=h i (jc4.mp hi)
  by_cases e:i < j
  ·rw [if_pos e,decide_eq_true_iff];exact this.1 e
  ·rw [if_neg e,decide_eq_true_iff];exact this.2 (by omega)
def Bh (b:Nat) (c:Int) (f:List Int->List Int) (j:Nat) (r:List Int):List Int:=Cc f ((Au b c).filter (Jv b j r))
def Bt (r:List Int) (j:Nat):List Int:=r.take j++[r.getD j 0 - 1]++r.drop (j + 1)
def vi {r:List Int}{j:Nat} (h:j < r.length):(Bt r j).length=r.length:=by
 unfold Bt;simp;omega
def II {r:List Int}{j i:Nat} (h:j < r.length):(Bt r j).getD i 0=if i=j then r.getD j 0 - 1 else r.getD i 0:=by
 unfold Bt;simp only [AL,OO];by_cases h1:i < j
 ·rw [CF (by simp;omega),if_neg (by omega),K0 h1]
 ·rw [FZ (by simp;omega)];have hl:(r.take j).length=j:=by simp;omega
  rw [hl];by_cases h2:i=j
  ·subst h2;simp
  ·rw [if_neg h2,show i - j=(i - j - 1) + 1 by omega,List.singleton_append,Iu,List.getElem?_drop];congr 2;omega
theorem RZ:∀ {r:List Int}{j:Nat},j < r.length->BO (Bt r j) r=true
 | [],_,h=>by cases h
 | x::r,0,_=>by simp [Bt,BO];omega
 | x::r,j + 1,h=>by
  have ih:=RZ (r:=r) (j:=j) (by simpa using h);unfold Bt at ih ⊢;simp [BO] at ih ⊢;exact ih
def jo {r q:List Int}{b:Nat} (h1:r.length=b) (h2:q.length=b) (h:∀ i,i < b->q.getD i 0=r.getD i 0):q=r:=by
 apply Mg (by omega);intro i hi hi'
 have:=h i (by omega)
 rw [AL,AL,Cd hi,Cd hi'] at this;simpa using this
def w5 {b:Nat}{c:Int}{f:List Int->List Int}{r:List Int} (h:r∈Au b c):Bh b c f 0 r=f r:=by
 unfold Bh;refine X5 (K7 b c) h λ q hq=>?_;rw [DO,HR,decide_eq_true_iff];have h1:=zqp.mp h;have h2:=zqp.mp hq;constructor
 ·intro e;exact jo h1.len h2.len λ i hi=>(e i hi).2 (by omega)
 ·rintro rfl i _;exact ⟨λ z=>absurd z (by omega),λ _=>rfl⟩
def TV {b:Nat}{c:Int}{f:List Int->List Int}{r:List Int}{j:Nat} (h:r∈Au b c) (hj:j < b):Bh b c f (j + 1) r=if Bt r j∈Au b c then As (Bh b c f j r) (Bh b c f (j + 1) (Bt r j)) else Bh b c f j r:=by
 have h1:=zqp.mp h;have hl:j < r.length:=by rw [h1.len];exact hj
 split
 ·rename_i hm;unfold Bh;refine TB _ (λ q hq=>?_) (λ q hq=>?_)
  ·have h2:=zqp.mp hq;rw [DO,EN,HR,HR,HR];constructor
   ·intro e;by_cases ej:q.getD j 0=r.getD j 0
    ·refine .inl λ i hi=>⟨λ z=>(e i hi).1 (by (clear hi ej hl hj;omega)),λ z=>?_⟩
     by_cases ei:i=j
     ·subst ei;exact ej
     ·exact (e i hi).2 (by (clear hi ej hl hj;omega))
    ·refine .inr λ i hi=>?_;rw [II hl];refine ⟨λ z=>?_,λ z=>?_⟩
     ·have:=(e i hi).1 z
      split
      ·rename_i e';subst e';(clear z hl hj hi;omega)
      ·exact this
     ·rw [if_neg (by (clear hi ej hl hj;omega))];exact (e i hi).2 z
   ·rintro (e | e) i hi
    ·refine ⟨λ z=>?_,λ z=>(e i hi).2 (by (clear hi hl hj;omega))⟩;by_cases ei:i < j
     ·exact (e i hi).1 ei
     ·exact Ym ((e i hi).2 (by (clear z hi hl hj;omega)))
    ·have e':=e i hi;rw [II hl] at e';refine ⟨λ z=>?_,λ z=>?_⟩
     ·have:=e'.1 z
      split at this
      ·rename_i e2;subst e2;(clear this z hl hj hi;omega)
      ·exact this
     ·have:=e'.2 z
      rwa [if_neg (by (clear this hi hl hj;omega))] at this
  ·intro e;rw [Y8];intro e2;rw [HR] at e e2;have a1:=(e j hj).2 (A5 _);have a2:=(e2 j hj).1 (by (clear a1 hl hj;omega));rw [II hl,if_pos rfl] at a2;omega
 ·rename_i hm;unfold Bh;congr 1;apply Kw;intro q hq;have h2:=zqp.mp hq;rw [DO,HR,HR];constructor
  ·intro e i hi;refine ⟨λ z=>(e i hi).1 (by (clear hi hl hj;omega)),λ z=>?_⟩;by_cases ei:i=j
   ·subst ei;have a1:=(e i hi).1 (by (clear z hl hj hi;omega));by_cases ej:q.getD i 0=r.getD i 0
    ·exact ej
    ·refine absurd (zqp.mpr ⟨by rw [vi hl,h1.len],λ k hk=>?_,λ k hk=>?_,λ k hk=>?_⟩) hm
     ·rw [II hl]
      have:=h2.lo i hi
      have:=h1.lo k hk
      split <;> (clear hk z hl hj hi;omega)
     ·rw [II hl]
      have:=h1.hi k hk
      split
      ·rename_i e';subst e';(clear ej a1 z hl hj hi hk;omega)
      ·exact this
     ·rw [II hl,II hl];have b1:=h1.nr k hk;by_cases c1:k + 1=i
      ·rw [if_pos c1,if_neg (by (clear b1 hk ej a1 z hl hj hi;omega))];subst c1;(clear ej a1 z hl hj hi hk;omega)
      ·rw [if_neg c1];by_cases c2:k=i
       ·rw [if_pos c2];subst c2;have b2:=h2.nr k hk;have b3:=(e (k + 1) hk).2 (by (clear b2 c1 ej a1 z hl hj hi b1 hk;omega))
        (clear c1 z hl hj hi b1 hk;omega)
       ·rw [if_neg c2];exact b1
   ·exact (e i hi).2 (by (clear hi hl hj;omega))
  ·intro e i hi;refine ⟨λ z=>?_,λ z=>(e i hi).2 (by (clear hi hl hj;omega))⟩;by_cases ei:i < j
   ·exact (e i hi).1 ei
   ·exact Ym ((e i hi).2 (by (clear z hi hl hj;omega)))
def LX (b:Nat) (q r:List Int):Bool:=(Aq b).all λ i=>decide (q.getD i 0<=r.getD i 0)
def Wc {b:Nat}{r q:List Int}:LX b q r=true↔∀ i,i < b->q.getD i 0<=r.getD i 0:=by
 unfold LX;rw [jb5];exact ⟨λ h i hi=>by simpa using h i (jc4.mpr hi),λ h i hi=>by simpa using h i (jc4.mp hi)⟩
def Dt (b:Nat) (c:Int) (f:List Int->List Int) (r:List Int):List Int:=Cc f ((Au b c).filter λ q=>LX b q r)
def kU {b:Nat}{c:Int}{f:List Int->List Int}{r:List Int}:Bh b c f b r=Dt b c f r:=by
 unfold Bh Dt;congr 1;apply Kw;intro q _;rw [DO,HR,Wc];exact ⟨λ h i hi=>(h i hi).1 hi,λ h i hi=>⟨λ _=>h i hi,λ z=>absurd z (by omega)⟩⟩
theorem PN (v:Int):∀ n:Nat,Eh n [.int v]=(AB n v).map PV.int
 | 0=>rfl
 | n + 1=>by
  show [PV.int v]++Eh n [.int v]=_;rw [PN v n];rfl
def R4 {f g:Fx}{ρ ρ1 ρ2:Ae}{v:Int}{n:Nat}{d e:Nat} (h1:f ρ=.ok (.lst [.int v],d,ρ1)) (h2:g ρ1=.ok (.int (n:Int),e,ρ2)) (hn:n<=1000):Ab BU f g ρ=.ok (il (AB n v),om,ρ2):=by
 refine BR h1 h2 ?_;have z:=sz;unfold BU;dsimp only;rw [if_pos ⟨by omega,by omega,by rw [GL,CD];omega⟩,CD,PN,LS];rfl
def V7 {f g:Fx}{ρ ρ1 ρ2:Ae}{xs ys:List Int}{d e:Nat} (h1:f ρ=.ok (il xs,d,ρ1)) (h2:g ρ1=.ok (il ys,e,ρ2)) (hl:xs.length + ys.length<=1000000):Ab Bf f g ρ=.ok (il (xs++ys),om,ρ2):=by
 have:=zA h1 h2 (by rw [AG,AG];exact Cv hl sz)
 rw [this,<- Ey,LS];rfl
def Wi {f g:Fx}{ρ ρ1 ρ2:Ae}{k:Int}{d e:Nat} (h1:f ρ=.ok (.lst [.int 0],d,ρ1)) (h2:g ρ1=.ok (.int k,e,ρ2)) (hk:-1000000<=k/\k<=1000000):Ab BU f g ρ=.ok (il (AB k.toNat 0),om,ρ2):=by
 refine BR h1 h2 ?_;have z:=sz;unfold BU;dsimp only;rw [if_pos ⟨by omega,by omega,by rw [GL];omega⟩,PN,LS];rfl
def zE {i:Nat}{fj f:Fx}{ρ ρ2:Ae}{xs:List Int}{w:Int}{j d d1 d2:Nat} (hx:ρ[i]?=some (some (il xs,d))) (hd:d≠0) (hj:fj ρ=.ok (.int (j:Int),d1,ρ)) (hf:f ρ=.ok (.int w,d2,ρ)) (hl:j < xs.length) (e:ρ.set i (some (il (xs.set j (xs.getD j 0 + w)),d))=ρ2):Jq (λ i j=>i + j) i fj f ρ=.nx ρ2:=by
 unfold Jq;rw [hx,hj];show (match f ρ with | .ok (.int w,_,ρ2)=>_ | _=>Rs.no)=_;rw [hf];dsimp only;have e1:DV (xs.map PV.int).length (j:Int)=some j:=by
  unfold DV;rw [if_pos (by omega),AG,if_pos (by omega),CD]
 rw [e1];dsimp only;have e2:(xs.map PV.int)[j]?=some (.int (xs.getD j 0)):=by
  rw [BW,AL,Cd hl];rfl
 rw [e2];dsimp only;rw [if_pos hd,<- e,il,List.map_set]
theorem X9:∀ (t p:List Int) (y:Int),p.length < t.length->As t (p++[y])=(As t p).set p.length ((As t p).getD p.length 0 + y)
 | [],p,y,h=>by simp at h
 | a::t,[],y,h=>by simp [As,KZ]
 | a::t,b::p,y,h=>by
  have:=X9 t p y (by simpa using h)
  simp only [FX,As,Ba,SA,List.getD_cons_succ];rw [this]
theorem PB:∀ (xs ys:List Int),As (xs++AB (ys.length - xs.length) 0) ys=As xs ys
 | [],[]=>rfl
 | [],y::ys=>by
  have:=PB [] ys
  simp only [Ez,Hz,Mb,Ba,GK,As,EM] at this ⊢;rw [this]
 | x::xs,[]=>by simp [As]
 | x::xs,y::ys=>by
  have:=PB xs ys
  simp only [FX,Ba,Nat.add_sub_add_right,As];rw [this]
def WA {xs ys:List Int} (hx:xs.length<=1000) (hy:ys.length<=1000):f_added [il xs,il ys]=.ok (il (As xs ys),om,.non):=by
 let L (t:List Int) (s3 s4:QQ.Slot):Ae:=[some (il xs,0),some (il ys,0),some (il t,om),s3,s4]
 let base:=xs++AB (ys.length - xs.length) 0;have hbl:ys.length<=base.length:=by simp [base];omega
 have v1:Al false 2 (Ab Bf (Ao HU (Af (Aa 0) (Ac))) (Ab BU pf8 (Ab Ec pe3 pb4))) [0,1,0] [some (il xs,0),some (il ys,0),none,none,none]=.nx (L base none none):=by
  have e1:=Wi (f:=Ao BG (Af (bC (.int 0)) (Ac))) (ρ:=[some (il xs,0),some (il ys,0),none,none,none]) (d:=om) rfl (IU (O3 (xs:=ys) (fa:=Af (Aa 1) Ac) (d:=0) rfl) (O3 (xs:=xs) (fa:=Af (Aa 0) Ac) (d:=0) rfl)) (by omega);rw [show ((ys.length:Int) - (xs.length:Int)).toNat=ys.length - xs.length by omega] at e1;exact BV (V7 (zJ (f:=Aa 0) (xs:=xs) (d:=0) rfl) e1 (by rw [El];omega)) (show 2 < 5 by decide) rfl
 obtain ⟨ρ',v2,s3,s4,rfl⟩:=Xq (v:=.enm) (fa:=Af (Aa 1) Ac) (vs:=[1]) (asg:=asgT [3,4]) (body:=Jq (λ i j=>i + j) 2 (Aa 3) (Aa 4)) (ρ:=L base none none) (ρ1:=L base none none) (ρ2:=L base none none) (xs:=[(il ys,0)]) (els:=Hg 0 (ys.map PV.int)) (λ j ρ=>∃ s3 s4,ρ=L (As base (ys.take j)) s3 s4) rfl rfl rfl ⟨none,none,by rw [OG,KZ]⟩ (by
  rintro j x _ hx ⟨s3,s4,rfl⟩;rw [Ph,BW] at hx;cases ey:ys[j]? with
  | none=>rw [ey] at hx;cases hx
  | some y=>
   rw [ey] at hx;obtain rfl:PV.tup [.int ((0 + j:Nat):Int),.int y]=x:=Option.some.inj hx;have hj:j < ys.length:=(jb1.mp ey).1;have ht:ys.take (j + 1)=ys.take j++[y]:=by rw [List.take_add_one,ey];rfl
   have hl:(ys.take j).length=j:=by rw [FY];omega
   refine ⟨L (As base (ys.take j)) (some (.int ((0 + j:Nat):Int),om)) (some (.int y,om)),L (As base (ys.take (j + 1))) (some (.int ((0 + j:Nat):Int),om)) (some (.int y,om)),rfl,?_,_,_,rfl⟩;refine zE (xs:=As base (ys.take j)) (w:=y) (j:=j) (d:=om) (d1:=om) (d2:=om) rfl (by decide) (by rw [Jw];rfl) rfl (by rw [P9];omega) ?_;rw [ht,X9 base (ys.take j) y (by rw [hl];omega),hl]
   rfl)
 rw [Pj,AG,List.take_length,show As base ys=As xs ys from PB xs ys] at v2;exact Cg rfl ((AU v1).trans ((AU v2).trans rfl))
def AE (r:List Int):List Av:=r.map Sum.inl
def Ah (r:List Int):PV:=.tup (r.map PV.int)
def Xs (r:List Int):Bg (AE r)=Ah r:=by
 unfold Bg AE Ah;rw [Cu];rfl
theorem JN:∀ r:List Int,Ct (r.map PV.int)=some (AE r)
 | []=>rfl
 | x::r=>by rw [AR,Ct,JN r];rfl
theorem MZ:∀ {r q:List Int},AE r=AE q->r=q
 | [],[],_=>rfl
 | [],_::_,h=>by cases h
 | _::_,[],h=>by cases h
 | x::r,y::q,h=>by
  have h1:(Sum.inl x:Av)::AE r=Sum.inl y::AE q:=h;injection h1 with h2 h3
  injection h2 with h2
  rw [h2,MZ h3]
def Aj (R:List (List Int)) (f:List Int->List Int):PV:=.dcl (R.map AE) (R.map λ r=>il (f r))
theorem RY {h:List Int->PV}{r:List Int}:∀ {R:List (List Int)},EL (R.map AE) (R.map h) (AE r)=if r∈R then some (h r) else none
 | []=>rfl
 | q::R=>by
  rw [AR,AR,EL];by_cases e:q=r
  ·subst e;rw [if_pos rfl,if_pos AF]
  ·rw [if_neg λ z=>e (MZ z),RY]
   have:r∈q::R↔r∈R:=by rw [jc3];exact ⟨λ z=>z.resolve_left λ z=>e z.symm,.inr⟩
   simp only [this]
theorem XO {h:List Int->PV}{r:List Int}{y:PV}:∀ {R:List (List Int)},Hh (AE r) y (R.map AE) (R.map h)=R.map λ q=>if q=r then y else h q
 | []=>rfl
 | q::R=>by
  rw [AR,AR,Hh,XO,AR];congr 1;by_cases e:q=r
  ·subst e;rw [if_pos rfl,if_pos rfl]
  ·rw [if_neg λ z=>e (MZ z),if_neg e]
def WM {r:List Int}{R:List (List Int)}:ER (R.map AE) (AE r)=decide (r∈R):=by
 unfold ER;rw [List.any_map,DO,List.any_eq_true,decide_eq_true_iff];constructor
 ·rintro ⟨q,hq,e⟩
  have:AE q=AE r:=by simpa using e
  rw [<- MZ this];exact hq
 ·intro h;exact ⟨r,h,by simp⟩
def KC {f g:Fx}{ρ ρ1 ρ2:Ae}{R:List (List Int)}{h:List Int->List Int}{r:List Int}{d e:Nat} (h1:f ρ=.ok (Aj R h,d,ρ1)) (h2:g ρ1=.ok (Ah r,e,ρ2)) (hr:r∈R):Ab A3 f g ρ=.ok (il (h r),0,ρ2):=by
 refine BR h1 h2 ?_;show (match Ct (r.map PV.int) with | some k=>(EL (R.map AE) (R.map λ r=>il (h r)) k).map λ z=>(z,dv z) | none=>none)=_;rw [JN];dsimp only;rw [RY (h:=λ r=>il (h r)),if_pos hr];rfl
def qc {f g:Fx}{ρ ρ1 ρ2:Ae}{R:List (List Int)}{h:List Int->List Int}{r:List Int}{d e:Nat} (h1:f ρ=.ok (Ah r,d,ρ1)) (h2:g ρ1=.ok (Aj R h,e,ρ2)):Ab (DK false) f g ρ=.ok (.bl (decide (r∈R)),om,ρ2):=by
 refine BR h1 h2 ?_;show (Ct (r.map PV.int)).map (λ k=>(PV.bl (false^^(EL (R.map AE) (R.map λ r=>il (h r)) k).isSome),om))=_;rw [JN];show some (PV.bl (false^^(EL (R.map AE) (R.map λ r=>il (h r)) (AE r)).isSome),om)=_;rw [RY (h:=λ r=>il (h r)),Me];by_cases e:r∈R
 ·rw [if_pos e,decide_eq_true e];rfl
 ·rw [if_neg e,decide_eq_false e];rfl
def TC {R:List (List Int)}{f h:List Int->List Int} (e:∀ r∈R,f r=h r):Aj R f=Aj R h:=by
 unfold Aj;congr 1;exact J1 λ r hr=>by rw [e r hr]
def jK {i:Nat}{fk f:Fx}{ρ ρ1 ρ2:Ae}{R:List (List Int)}{h:List Int->List Int}{r:List Int}{y:List Int}{d e:Nat} (hf:f ρ=.ok (il y,om,ρ1)) (hx:ρ1[i]?=some (some (Aj R h,d))) (hd:d≠0) (hk:fk ρ1=.ok (Ah r,e,ρ1)) (hr:r∈R) (hl:R.length < 1000000) (e2:ρ1.set i (some (Aj R (λ q=>if q=r then y else h q),1))=ρ2):Ep i fk f ρ=.nx ρ2:=by
 have z:=sz;unfold Ep;rw [hf];dsimp only;rw [hx];dsimp only;rw [hk];dsimp only;rw [hx];show (match Ct (r.map PV.int) with | some kk=>if d≠0/\om=om/\(R.map AE).length < A0 then Rs.nx (ρ1.set i (some (GR (R.map AE) (R.map λ r=>il (h r)) kk (il y),1))) else .no | none=>.no)=_;rw [JN];dsimp only;rw [if_pos ⟨hd,rfl,by rw [AG];omega⟩,<- e2];unfold GR;rw [WM,decide_eq_true hr,if_pos rfl,XO (h:=λ r=>il (h r))];unfold Aj;congr 5;refine J1 λ q _=>?_;dsimp only;split <;> rfl
def RO {i:Nat}{fk f:Fx}{ρ ρ1 ρ2:Ae}{R:List (List Int)}{h:List Int->List Int}{r:List Int}{y:List Int}{d e:Nat}{x:PV} (hf:f ρ=.ok (il y,om,ρ1)) (hx:ρ1[i]?=some (some (x,d))) (hxe:x=Aj R h\/(x=.dct []/\R=[])) (hd:d≠0) (hk:fk ρ1=.ok (Ah r,e,ρ1)) (hr:r∉R) (hy:h r=y) (hl:R.length < 1000000) (e2:ρ1.set i (some (Aj (R++[r]) h,1))=ρ2):Ep i fk f ρ=.nx ρ2:=by
 have z:=sz;have fin:GR (R.map AE) (R.map λ r=>il (h r)) (AE r) (il y)=Aj (R++[r]) h:=by
  unfold GR;rw [WM,decide_eq_false hr,if_neg (by simp)];unfold Aj;rw [Ey,Ey];simp [hy]
 unfold Ep;rw [hf];dsimp only;rw [hx];dsimp only;rw [hk];dsimp only;rw [hx];rcases hxe with rfl | ⟨rfl,rfl⟩
 ·show (match Ct (r.map PV.int) with | some kk=>if d≠0/\om=om/\(R.map AE).length < A0 then Rs.nx (ρ1.set i (some (GR (R.map AE) (R.map λ r=>il (h r)) kk (il y),1))) else .no | none=>.no)=_;rw [JN];dsimp only;rw [if_pos ⟨hd,rfl,by rw [AG];omega⟩,<- e2,fin]
 ·show (match Ct (r.map PV.int) with | some kk=>if d≠0/\om=om/\0 < A0 then Rs.nx (ρ1.set i (some (GR [] [] kk (il y),1))) else .no | none=>.no)=_;rw [JN];dsimp only;rw [if_pos ⟨hd,rfl,by omega⟩,<- e2];exact congrArg (λ z=>Rs.nx (ρ1.set i (some (z,1)))) fin
def VT {f:Fx}{vs:List Nat}{asg:PV->Ae->Option Ae}{body:Fs}{ρ ρ1 ρ2 ρ3:Ae}{R:List (List Int)}{h:List Int->List Int}{d:Nat} (hf:f ρ=.ok (Aj R h,d,ρ1)) (ec:AZ d vs ρ1=ρ2) (hl:BS asg body (R.map Ah) ρ2=.nx ρ3):Ij f vs asg body ρ=.nx ρ3:=by
 unfold Ij;rw [hf];show EJ (BS asg body ((R.map AE).map Bg) (AZ d vs ρ1))=_;rw [Cu,ec,show (Bg ∘ AE)=Ah from funext Xs,hl];rfl
def zw {f:Fx}{vs:List Nat}{asg:PV->Ae->Option Ae}{body:Fs}{ρ ρ1 ρ2 ρ3:Ae}{R:List (List Int)}{h:List Int->List Int}{d:Nat} (hf:f ρ=.ok (Aj R h,d,ρ1)) (ec:AZ d vs ρ1=ρ2) (hl:BS asg body (R.map λ r=>il (h r)) ρ2=.nx ρ3):Kk f vs asg body ρ=.nx ρ3:=by
 unfold Kk;rw [hf];show EJ (BS asg body (R.map λ r=>il (h r)) (AZ d vs ρ1))=_;rw [ec,hl];rfl
def RF {f h:Fx}{ρ ρ1 ρ2:Ae}{xs ys:List Int}{d e:Nat} (h1:f ρ=.ok (Ah xs,d,ρ1)) (h2:h ρ1=.ok (Ah ys,e,ρ2)) (hl:xs.length + ys.length<=1000000):Ab Bf f h ρ=.ok (Ah (xs++ys),0,ρ2):=by
 have z:=sz;refine BR h1 h2 ?_;show (if _ then _ else _)=_;rw [if_pos (by rw [AG,AG];omega),<- Ey];rfl
def KG {f g:Fx}{ρ ρ1 ρ2:Ae}{xs:List Int}{k x:Int}{d e:Nat} (h1:f ρ=.ok (Ah xs,d,ρ1)) (h2:g ρ1=.ok (.int k,e,ρ2)) (h:BE xs k=some x):Ab A3 f g ρ=.ok (.int x,om,ρ2):=by
 refine BR h1 h2 ?_;show (BE (xs.map PV.int) k).map _=_
 have:BE (xs.map PV.int) k=some (.int x):=by
  unfold BE at h ⊢;rw [AG];cases e:DV xs.length k with
  | none=>rw [e] at h;cases h
  | some j=>
   rw [e] at h;have h':xs[j]?=some x:=h;show (xs.map PV.int)[j]?=_;rw [BW,h'];rfl
 rw [this];rfl
def ZP {f g:Fx}{ρ:Ae}{xs:List Int}{j d e:Nat} (h1:f ρ=.ok (Ah xs,d,ρ)) (h2:g ρ=.ok (.int (j:Int),e,ρ)) (hj:j < xs.length):Fo f none (some g) ρ=.ok (Ah (xs.take j),0,ρ):=by
 unfold Fo;rw [h1];dsimp only [Rz.bind,Iv];rw [h2];dsimp only;have e1:Ei (Ah xs) none (some (j:Int))=some (Ah (xs.take j),0):=by
  unfold Ei Ah;dsimp only;rw [HT.sIx_none,HT.sIx_nat,AG,if_neg (by rw [OI (by omega)];omega)];unfold Dy;rw [HT.sIx_none,HT.sIx_nat,AG,OI (by omega),List.drop_zero,Mb,List.map_take]
 rw [e1]
def jy {f g:Fx}{ρ:Ae}{xs:List Int}{j d e:Nat} (h1:f ρ=.ok (Ah xs,d,ρ)) (h2:g ρ=.ok (.int (j:Int),e,ρ)) (h0:0 < j) (hj:j<=xs.length):Fo f (some g) none ρ=.ok (Ah (xs.drop j),0,ρ):=by
 unfold Fo;rw [h1];dsimp only [Rz.bind,Iv];rw [h2];dsimp only;have e1:Ei (Ah xs) (some (j:Int)) none=some (Ah (xs.drop j),0):=by
  unfold Ei Ah;dsimp only;rw [HT.sIx_none,HT.sIx_nat,AG,if_neg (by rw [OI (by omega)];omega)];unfold Dy;rw [HT.sIx_none,HT.sIx_nat,AG,OI (by omega),List.map_drop,SH (by rw [OM,AG];omega)]
 rw [e1]
theorem JQ {f:List Int->List Int}{m:Nat}:∀ {l:List (List Int)},(∀ r∈l,(f r).length<=m)->(Cc f l).length<=m
 | [],_=>Fj _
 | r::l,h=>by
  rw [HW,P9]
  have:=h r AF
  have:=JQ (l:=l) λ q hq=>h q (AH _ hq)
  omega
def kW {b:Nat}{c:Int}{f:List Int->List Int}{m j:Nat}{r:List Int} (h:∀ r∈Au b c,(f r).length<=m):(Bh b c f j r).length<=m:=JQ λ q hq=>h q (jd3.mp hq).1
def Bo (b:Nat) (c:Int) (f:List Int->List Int) (j:Nat) (pre:List (List Int)) (r:List Int):List Int:=if r∈pre then Bh b c f (j + 1) r else Bh b c f j r
def Sd (b:Nat) (c:Int) (f:List Int->List Int) (j:Nat):Bo b c f j []=Bh b c f j:=by
 funext r;unfold Bo;rw [if_neg (by simp)]
def jz {b:Nat}{c:Int}{f:List Int->List Int} (hb:1<=b/\b<=1000) (hd:DQ ((Au b c).map AE)=true) (hn:Au b c≠[]) (hR:(Au b c).length < 1000000) (hf:∀ r∈Au b c,(f r).length<=1000):f_sums_of_lower_rows [Aj (Au b c) f,.int (b:Int)]=.ok (Aj (Au b c) (Dt b c f),1,.non):=by
 let R:=Au b c;let L (h:List Int->List Int) (s3 s4 s5:QQ.Slot):Ae:=[some (Aj R f,0),some (.int (b:Int),om),some (Aj R h,1),s3,s4,s5]
 have v1:Al false 2 (Ao LO (Af (Aa 0) (Ac))) [0] [some (Aj R f,0),some (.int (b:Int),om),none,none,none,none]=.nx (L f none none none):=by
  refine BV (x:=Aj R f) (d:=1) (C5 (AK (x:=Aj R f) (d:=0) rfl) ?_) (show 2 < 6 by decide) rfl;show (if DQ (R.map AE)=true/\R.map AE≠[] then some (Aj R f,1) else none)=_;rw [if_pos ⟨hd,λ z=>hn (List.map_eq_nil_iff.mp z)⟩]
 have start:L f none none none=L (Bh b c f 0) none none none:=by
  have:Aj R f=Aj R (Bh b c f 0):=TC λ r hr=>(w5 hr).symm
  show [_,_,some (Aj R f,1),_,_,_]=[_,_,some (Aj R (Bh b c f 0),1),_,_,_];rw [this]
 obtain ⟨ρ',v2,s3,s4,s5,rfl⟩:=PD (i:=3) (en:=AY) (fa:=Af (Aa 1) Ac) (body:=(Ij (Aa 0) [0] (asgN 4) pa3)) (ρ:=L f none none none) (ρ1:=L f none none none) (as:=[(.int (b:Int),om)]) (lo:=0) (hi:=(b:Int))
  (λ j ρ=>∃ s3 s4 s5,ρ=L (Bh b c f j) s3 s4 s5) rfl (Et (by omega) (by omega)) ⟨none,none,none,start⟩ (by
  rintro j _ hj ⟨s3,s4,s5,rfl⟩;have hjb:j < b:=by omega
  refine ⟨by show 3 < 6;decide,?_⟩;rw [EM];let M (h:List Int->List Int) (d3:Nat) (s4 s5:QQ.Slot):Ae:=L h (some (.int (j:Int),d3)) s4 s5;obtain ⟨ρ2,e2,d3',s4',s5',rfl⟩:=JO (asg:=asgN 4) (enc:=Ah) (body:=pa3) (λ pre ρ=>∃ d3 s4 s5,ρ=M (Bo b c f j pre) d3 s4 s5) R [] (M (Bh b c f j) om s4 s5) ⟨om,s4,s5,by rw [Sd b c f j]⟩ (by
   rintro pre r post _ ep ⟨d3,s4,s5,rfl⟩;rw [Ez] at ep;have hr:r∈R:=by rw [ep];exact BJ _ AF
   have h1:=zqp.mp hr;have hl:j < r.length:=by rw [h1.len];exact hjb
   have hrp:r∉pre:=λ z=>by
    have:=K7 b c
    rw [show Au b c=pre++r::post from ep,Ss] at this;exact this.2.2 r z r AF rfl
   let N (d3 d4:Nat) (s5:QQ.Slot):Ae:=M (Bo b c f j pre) d3 (some (Ah r,d4)) s5;have w1:Al false 5 pc4 [4,4,3,4] (N d3 0 s5)=.nx (N 0 0 (some (Ah (Bt r j),0))):=by
    have a1:=ZP (f:=Aa 4) (g:=Aa 3) (ρ:=N d3 0 s5) (xs:=r) (j:=j) (d:=0) (e:=om) rfl rfl hl;have a2:Ao DD pg0 (N d3 0 s5)=.ok (Ah [r.getD j 0 - 1],om,N d3 0 s5):=C5 (AK (IU (j:=1) (e:=om) (KG (xs:=r) (k:=(j:Int)) (d:=0) (e:=om) rfl rfl (CZ (by (clear hl hjb hj hR hb;omega)) (by rw [CD];exact Dd hl))) rfl)) rfl;have a3:=jy (f:=Aa 4) (g:=Ab Bf (Aa 3) (bC (.int 1))) (ρ:=N d3 0 s5) (xs:=r) (j:=j + 1) (d:=0) (e:=om) rfl rfl (by (clear hl hjb hj hR hb;omega)) (by (clear hjb hj hR hb;omega));have a4:=RF (RF a1 a2 (by rw [FY,GL];(clear hl hjb hR;omega))) a3 (by rw [BI,FY,GL,OM];have:=h1.len;(clear hl hjb hj hR;omega));exact BV a4 (show 5 < 6 by decide) rfl
   have w2:=qc (f:=Aa 5) (g:=Aa 2) (ρ:=N 0 0 (some (Ah (Bt r j),0))) (r:=Bt r j) (R:=R) (h:=Bo b c f j pre) (d:=0) (e:=0) rfl rfl;have fl:∀ q,(Bo b c f j pre q).length<=1000:=λ q=>by
    unfold Bo;split <;> exact kW hf
   by_cases hm:Bt r j∈R
   ·have hp:Bt r j∈pre:=by
     have pw:=PQ b c;rw [show Au b c=pre++r::post from ep,SF,jf8] at pw;rw [ep,jd7,jc3] at hm;rcases hm with hm | hm | hm
     ·exact hm
     ·have:=RZ hl
      rw [hm,KJ] at this;cases this
     ·have:=PH (RZ hl)
      rw [pw.2.1.1 _ hm] at this;cases this
    rw [decide_eq_true hm] at w2;have w3:Ep 2 (Aa 4) pf1 (N 0 0 (some (Ah (Bt r j),0)))=.nx (M (Bo b c f j (pre++[r])) 0 (some (Ah r,0)) (some (Ah (Bt r j),0))):=by
     have c1:=KC (f:=Aa 2) (g:=Aa 4) (ρ:=N 0 0 (some (Ah (Bt r j),0))) (R:=R) (h:=Bo b c f j pre) (r:=r) (d:=0) (e:=0) rfl rfl hr;have c2:=KC (f:=Aa 2) (g:=Aa 5) (ρ:=N 0 0 (some (Ah (Bt r j),0))) (R:=R) (h:=Bo b c f j pre) (r:=Bt r j) (d:=0) (e:=0) rfl rfl hm;refine jK (R:=R) (h:=Bo b c f j pre) (r:=r) (d:=1) (e:=0) (AQ (AD c1 (AK c2)) (WA (fl _) (fl _))) rfl (by decide) rfl hr hR ?_;show M (λ q=>if q=r then As (Bo b c f j pre r) (Bo b c f j pre (Bt r j)) else Bo b c f j pre q) _ _ _=_;congr 1;funext q;by_cases e:q=r
     ·subst e;rw [if_pos rfl];unfold Bo;rw [if_neg hrp,if_pos hp,if_pos (by simp),TV hr hjb,if_pos hm]
     ·rw [if_neg e];unfold Bo
      have:q∈pre++[r]↔q∈pre:=by simp [e]
      simp only [this]
    exact ⟨N d3 0 s5,_,rfl,(AU w1).trans ((CJ (AI w2)).trans w3),_,_,_,rfl⟩
   ·rw [decide_eq_false hm] at w2;refine ⟨N d3 0 s5,_,rfl,(AU w1).trans ((CK (AI w2)).trans rfl),0,some (Ah r,0),some (Ah (Bt r j),0),?_⟩;show M (Bo b c f j pre) _ _ _=_;congr 1;funext q;unfold Bo;by_cases e:q=r
    ·subst e;rw [if_neg hrp,if_pos (by simp),TV hr hjb,if_neg hm]
    ·have:q∈pre++[r]↔q∈pre:=by simp [e]
     simp only [this])
  refine ⟨_,VT (R:=R) (h:=f) (d:=0) (ρ2:=M (Bh b c f j) om s4 s5) rfl rfl e2,some (.int (j:Int),d3'),s4',s5',?_⟩;show L (Bo b c f j ([]++R)) _ _ _=_
  have:Aj R (Bo b c f j ([]++R))=Aj R (Bh b c f (j + 1)):=TC λ r hr=>by
   unfold Bo;rw [Ez,if_pos hr]
  show [_,_,some (Aj R (Bo b c f j ([]++R)),1),_,_,_]=[_,_,some (Aj R (Bh b c f (j + 1)),1),_,_,_];rw [this])
 rw [show ((b:Int) - 0).toNat=b by omega,show Bh b c f b=Dt b c f from funext λ r=>kU] at v2;exact Cg rfl ((AU v1).trans ((AU v2).trans rfl))
def C9 (b:Nat) (lo r hi:List Int):Bool:=(Aq b).all λ j=>decide (lo.getD j 0<=r.getD j 0) && decide (r.getD j 0<=hi.getD j 0)
def zG {b:Nat}{lo r hi:List Int} (h1:lo.length=b) (h2:r.length=b) (h3:hi.length=b) (hb:b<=1000):f_lies_between [Ah r,il lo,il hi]=.ok (.bl (C9 b lo r hi),om,.non):=by
 have z:=sz;let R:Ae:=[some (Ah r,0),some (il lo,0),some (il hi,0)]
 have e0:Ao Fw (Af (Aa 0) (Ac)) R=.ok (.int (b:Int),om,R):=by
  refine C5 (xs:=[(Ah r,0)]) rfl ?_;show some (PV.int ((r.map PV.int).length:Nat),om)=_;rw [AG,h2]
 have e1:=GQ (n:=3) (en:=AY) (fa:=Af pb4 Ac) (elt:=He (λ i j=>decide (i<=j)) (λ i j=>decide (i<=j)) (Ab A3 (Aa 1) (Aa 3)) (Ab A3 (Aa 0) (Aa 3)) (Ab A3 (Aa 2) (Aa 3))) (q:=λ j=>.bl (decide (lo.getD j 0<=r.getD j 0) && decide (r.getD j 0<=hi.getD j 0))) (ρ:=R) (ρ1:=R) (as:=[(.int (b:Int),om)]) (lo:=0) (hi:=(b:Int)) (AK e0) (Et (by (clear z hb h3 h2 h1;omega)) (by (clear z h3 h2 h1;omega))) rfl (λ k hk=>by
  have hkb:k < b:=by (clear z hb h3 h2 h1;omega)
  rw [EM];exact Xi (GA (xs:=lo) (k:=(k:Int)) (d:=0) (e:=om) rfl rfl (CZ (by (clear hkb hk z hb h3 h2 h1;omega)) (by rw [CD];exact Dd (by (clear hkb z hb h3 h2;omega))))) (KG (xs:=r) (k:=(k:Int)) (d:=0) (e:=om) rfl rfl (CZ (by (clear hkb hk z hb h3 h2 h1;omega)) (by rw [CD];exact Dd (by (clear hkb z hb h3 h1;omega))))) (GA (xs:=hi) (k:=(k:Int)) (d:=0) (e:=om) rfl rfl (CZ (by (clear hkb hk z hb h3 h2 h1;omega)) (by rw [CD];exact Dd (by (clear hkb z hb h2 h1;omega)))))) (by (clear h3 h2 h1;omega))
 rw [show ((b:Int) - 0).toNat=b by (clear z hb h3 h2 h1;omega)] at e1;exact Cg rfl (De (all_ok (xs:=Aq b) (g:=λ j=>decide (lo.getD j 0<=r.getD j 0) && decide (r.getD j 0<=hi.getD j 0)) e1))
def C8 (ct:List Nat) (r:List Int):Int:=(ct.map λ j=>r.getD j 0).sum
def Ff (b:Nat) (lo hi:List Int) (ct:List Nat) (g:List Int->List Int) (r:List Int):List Int:=if C9 b lo r hi=true then AB (C8 ct r).toNat 0++g r else []
theorem RH {b:Nat}{c:Nat}{r:List Int} (h:RowB b c r):∀ {ct:List Nat},(∀ j∈ct,j < b)->0<=C8 ct r/\C8 ct r<=ct.length * c
 | [],_=>by simp [C8]
 | j::ct,hc=>by
  have h1:=RH h (ct:=ct) λ k hk=>hc k (AH _ hk);have h2:=h.lo j (hc j AF);have h3:=h.hi j (hc j AF);have e:C8 (j::ct) r=r.getD j 0 + C8 ct r:=rfl;rw [e,Ba,So,Yi];omega
def Zz {b:Nat}{c:Nat}{lo hi:List Int}{ct:List Nat}{g:List Int->List Int} (h1:lo.length=b) (h3:hi.length=b) (hb:b<=1000) (hct:∀ j∈ct,j < b) (hcl:ct.length * c<=1000/\ct.length<=1000/\c<=1000) (hn:Au b c≠[]) (hR:(Au b c).length < 1000000) (hg:∀ r∈Au b c,(g r).length<=1000):
  f_table_of_row [Aj (Au b c) g,il lo,il hi,.lst (ct.map λ (j:Nat)=>.int (j:Int))]=.ok (Aj (Au b c) (Ff b lo hi ct g),1,.non):=by
 have z:=sz;let R:=Au b c;let L (s4 s5:QQ.Slot):Ae:=[some (Aj R g,0),some (il lo,0),some (il hi,0),some (.lst (ct.map λ (j:Nat)=>.int (j:Int)),0),s4,s5]
 let T:=Ff b lo hi ct g;obtain ⟨ρ',v2,s5,s4,hs,rfl⟩:=JO (asg:=asgN 5) (enc:=Ah) (body:=pa5) (λ pre ρ=>∃ s5 s4,((pre=[]/\s4=some (.dct [],om))\/(pre≠[]/\s4=some (Aj pre T,1)))/\ρ=L s4 s5) R [] (L (some (.dct [],om)) none) ⟨none,some (.dct [],om),.inl ⟨rfl,rfl⟩,rfl⟩ (by
  rintro pre r post _ ep ⟨s5,s4,hs,rfl⟩;rw [Ez] at ep;have hr:r∈R:=by rw [ep];exact BJ _ AF
  have h2:=zqp.mp hr;have hrp:r∉pre:=λ z=>by
   have:=K7 b c
   rw [show Au b c=pre++r::post from ep,Ss] at this;exact this.2.2 r z r AF rfl
  have hpl:pre.length < 1000000:=by
   have:R.length=pre.length + (post.length + 1):=by rw [ep];simp
   have:R.length < 1000000:=hR
   (clear z hR hcl hb h3 h1;omega)
  obtain ⟨x4,d4,rfl,hx,hd⟩:∃ x4 d4,s4=some (x4,d4)/\(x4=Aj pre T\/(x4=.dct []/\pre=[]))/\d4≠0:=by
   rcases hs with ⟨e1,e2⟩ | ⟨e1,e2⟩
   ·exact ⟨_,_,e2,.inr ⟨rfl,e1⟩,by decide⟩
   ·exact ⟨_,_,e2,.inl rfl,by decide⟩
  let N:Ae:=L (some (x4,d4)) (some (Ah r,0));have t:=AI (AQ (F:=f_lies_between) (fa:=Af (Aa 5) pb8) (ρ:=N) (ρ1:=N) (xs:=[(Ah r,0),(il lo,0),(il hi,0)]) rfl (zG h1 h2.len h3 hb));have fin:∃ ρ2,pa5 N=.nx ρ2/\ρ2=L (some (Aj (pre++[r]) T,1)) (some (Ah r,0)):=by
   refine ⟨_,?_,rfl⟩;cases hbt:C9 b lo r hi with
   | true=>
    rw [hbt] at t;have cs:=La (n:=6) (f:=Aa 3) (elt:=Ab A3 (Aa 5) (Aa 6)) (enc:=λ (j:Nat)=>PV.int (j:Int)) (q:=λ j=>.int (r.getD j 0)) (ρ:=N) (ρ1:=N) (d:=0) ct rfl rfl (λ j hj=>KG (xs:=r) (k:=(j:Int)) (d:=0) (e:=om) rfl rfl (CZ (by (clear hd hpl z hR hcl hb h3 h1;omega)) (by rw [CD];exact Dd (by rw [h2.len];exact hct j hj)))) (by (clear hd hpl hR hb h3 h1;omega));have cs':Cf (Aa 3) 1 (asgN 6) Bb (Ab A3 (Aa 5) (Aa 6)) N=.ok (il (ct.map λ j=>r.getD j 0),om,N):=by
     rw [cs];unfold il;rw [Cu];rfl
    have sok:ED (ct.map λ j=>r.getD j 0)=true:=kX (by rw [AG];(clear hd hpl z hR hb h3 h1;omega)) (λ x hx=>by
     obtain ⟨j,hj,rfl⟩:=jd4.mp hx;have a1:=h2.lo j (hct j hj);have a2:=h2.hi j (hct j hj)
     (clear hd hpl z hR hb h3 h1;omega))
    have sm:=Lc (AK cs') sok;have cb:=RH h2 hct;have cc:((ct.length * c:Nat):Int)<=1000:=by (clear cb hd hpl z hR hb h3 h1;omega)
    rw [OH] at cc;have e1:=Wi (f:=Ao BG (Af (bC (.int 0)) (Ac))) (ρ:=N) (ρ1:=N) (d:=om) rfl sm (by show -1000000<=C8 ct r/\C8 ct r<=1000000;(clear cc hd hpl z hR hb h3 h1;omega));have e2:=V7 e1 (KC (f:=Aa 0) (g:=Aa 5) (R:=R) (h:=g) (r:=r) (d:=0) (e:=0) rfl rfl hr) (by
     have:=hg r hr
     rw [El];show (C8 ct r).toNat + _<=_
     (clear cc hd hpl z hR hb h3 h1;omega))
    refine (CJ t).trans (RO (R:=pre) (h:=T) (r:=r) (d:=d4) (e:=0) (x:=x4) e2 rfl hx hd rfl hrp ?_ hpl rfl);show Ff b lo hi ct g r=_;unfold Ff;rw [hbt,if_pos rfl];rfl
   | false=>
    rw [hbt] at t;refine (CK t).trans (RO (R:=pre) (h:=T) (r:=r) (y:=[]) (d:=d4) (e:=0) (x:=x4) (f:=Ao BG Ac) (ρ1:=N) rfl rfl hx hd rfl hrp ?_ hpl rfl);show Ff b lo hi ct g r=_;unfold Ff;rw [hbt,if_neg (by simp)]
  obtain ⟨ρ2,f1,rfl⟩:=fin;exact ⟨N,_,rfl,f1,_,_,.inr ⟨by simp,rfl⟩,rfl⟩)
 rcases hs with ⟨e,_⟩ | ⟨_,rfl⟩
 ·exact absurd e hn
 ·have v1:Al false 4 ET [] (L none none)=.nx (L (some (.dct [],om)) none):=rfl;exact Cg rfl ((AU v1).trans ((AU (VT (R:=R) (h:=g) (d:=0) rfl rfl v2)).trans rfl))
def xX {n:Nat}{en:List (PV×Nat)->Option (Int×Int)}{fa:Fa}{elt:Fx}{q:Nat->PV}{ρ ρ1:Ae}{as:List (PV×Nat)}{lo hi:Int} (hf:fa ρ=.ok (as,ρ1)) (hen:en as=some (lo,hi)) (hn:ρ1.length=n) (he:∀ k,k < (hi - lo).toNat->elt (ρ1++[some (.int (lo + (k:Int)),om)])=.ok (q k,0,ρ1++[some (.int (lo + (k:Int)),om)])) (hl:(hi - lo).toNat<=A0):
  ∃ e,Ca en fa 1 (asgN n) Bb elt ρ=.ok (.lst ((Aq (hi - lo).toNat).map q),e,ρ1):=by
 refine ⟨if CB ((Aq (hi - lo).toNat).map λ (k:Nat)=>(q k,0)) then om else 1,?_⟩;unfold Ca;rw [hf];dsimp only;rw [hen];dsimp only;rw [M7,HS (enc:=λ (k:Nat)=>PV.int (lo + (k:Int))) (p:=λ _=>true) (q:=q) (e:=λ _=>0) (Aq (hi - lo).toNat) ρ1 [] hn (λ _ _=>rfl) (λ x hx _=>he x (jc4.mp hx)) (by simpa using hl),je3.mpr (λ _ _=>rfl)];show C4 ((Aq (hi - lo).toNat).map λ x=>(q x,0)) ρ1=_;unfold C4;rw [Cu];rfl
def jN {b c:Nat} (hb:1<=b/\b<=1000) (hc:c<=1000) (hR:∀ n,n<=b->(Au n c).length<=500000):f_rows_of_heights [.int (b:Int),.int (c:Int)]=.ok (.lst ((Au b c).map Ah),0,.non):=by
 have z:=sz;let L (x2:PV) (d2:Nat) (s3 s4 s5 s6:QQ.Slot) (d1:Nat):Ae:=[some (.int (b:Int),om),some (.int (c:Int),d1),some (x2,d2),s3,s4,s5,s6]
 have v1:Al false 2 (Ao BG (Af (Ao DD (Ac)) (Ac))) [] [some (.int (b:Int),om),some (.int (c:Int),om),none,none,none,none,none]=.nx (L (.lst [Ah []]) om none none none none om):=rfl;obtain ⟨ρ',v2,d1,d2,s3,s4,s5,s6,hd2,rfl⟩:=PD (i:=3) (en:=AY) (fa:=Af (Aa 0) Ac) (body:=(Ag pd9
 (Ag (EC (Aa 2) [2] (asgN 5) pa1)
 (Al false 2 (Aa 4) [4])))) (ρ:=L (.lst [Ah []]) om none none none none om) (ρ1:=L (.lst [Ah []]) om none none none none om) (as:=[(.int (b:Int),om)]) (lo:=0) (hi:=(b:Int))
  (λ j ρ=>∃ d1 d2 s3 s4 s5 s6,(0 < j->d2=0)/\ρ=L (.lst ((Au j c).map Ah)) d2 s3 s4 s5 s6 d1) rfl (Et (by (clear z hc hb;omega)) (by (clear z hc;omega))) ⟨om,om,none,none,none,none,λ h=>absurd h (by (clear h z hc hb;omega)),rfl⟩ (by
  rintro j _ hj ⟨d1,d2,s3,s4,s5,s6,_,rfl⟩;have hjb:j < b:=by (clear z hc hb;omega)
  refine ⟨by show 3 < 7;decide,?_⟩;rw [EM];let R:=Au j c;let M (xs:List PV) (d4 d1 d2 d3:Nat) (s5 s6:QQ.Slot):Ae:=[some (.int (b:Int),om),some (.int (c:Int),d1),some (.lst (R.map Ah),d2),some (.int (j:Int),d3),some (.lst xs,d4),s5,s6]
  let nx (r:List Int):List (List Int):=(CP 0 (AX c c r + 1)).map λ x=>r++[x];have hnx:Au (j + 1) c=R.flatMap nx:=rfl;obtain ⟨ρ2,e2,d1',d3',d4',s5',s6',hd4,rfl⟩:=JO (asg:=asgN 5) (enc:=Ah) (body:=pa1) (λ pre ρ=>∃ d1 d3 d4 s5 s6,d4≠0/\ρ=M ((pre.flatMap nx).map Ah) d4 d1 0 d3 s5 s6) R [] (M [] om d1 0 om s5 s6) ⟨d1,om,om,s5,s6,by decide,rfl⟩ (by
   rintro pre r post _ ep ⟨d1,d3,d4,s5,s6,hd4,rfl⟩;rw [Ez] at ep;have hr:r∈R:=by rw [ep];exact BJ _ AF
   have h2:=zqp.mp hr;let N (d1 d5:Nat) (s6:QQ.Slot):Ae:=M ((pre.flatMap nx).map Ah) d4 d1 0 d3 (some (Ah r,d5)) s6;have ht:∃ m:Nat,AX c c r=(m:Int)/\m<=c/\Ce (bT pb5) pf3 (Aa 1) (N d1 0 s6)=.ok (.int (m:Int),om,N d1 0 s6):=by
    have tt:bT pb5 (N d1 0 s6)=.ok (decide (0 < (j:Int)),N d1 0 s6):=AI (CG (p:=λ i j=>decide (j < i)) (i:=(j:Int)) (j:=0) (d:=om) (e:=om) rfl rfl);cases j with
    | zero=>
     refine ⟨c,?_,A5 _,?_⟩
     ·unfold AX;rw [jf6.mp h2.len];simp only [Sv];(clear hjb hj hd4 z hc hb;omega)
     ·unfold Ce;rw [tt];rfl
    | succ i=>
     have g1:=M5 h2.len;have g2:=h2.lo i (by (clear hjb hj hd4 z hc hb;omega));have g3:=h2.hi i (by (clear g2 hjb hj hd4 z hc hb;omega));obtain ⟨m,hm⟩:∃ m:Nat,r.getD i 0=(m:Int):=⟨(r.getD i 0).toNat,by (clear g3 hjb hj hd4 z hc hb;omega)⟩
     refine ⟨m,?_,by (clear g2 hjb hj hd4 z hc hb;omega),?_⟩
     ·unfold AX;rw [g1];simp only;(clear g2 hjb hj hd4 z hc hb;omega)
     ·unfold Ce;rw [tt];dsimp only [Rz.bind];rw [if_pos (by rw [decide_eq_true_iff];(clear hm g3 g2 hjb hj hd4 z hc hb;omega))];refine KG (xs:=r) (k:=-1) (d:=0) (e:=om) rfl rfl ?_;unfold BE DV;rw [if_neg (by decide),if_pos (by rw [h2.len];(clear hm g3 g2 hjb hj hd4 z hc hb;omega)),h2.len,<- hm];rw [show (-1 + ((i + 1:Nat):Int)).toNat=i by (clear hm g3 g2 hjb hj hd4 z hc hb;omega)];exact Dd (by rw [h2.len];(clear hm g3 g2 hjb hj hd4 z hc hb;omega))
   obtain ⟨m,tm,hmc,ev⟩:=ht;have w1:Al false 6 (Ce (bT pb5) pf3 (Aa 1)) [5,1] (N d1 0 s6)=.nx (N d1 0 (some (.int (m:Int),om))):=BV ev (show 6 < 7 by decide) rfl;have ct:∃ e,Ca AY (Af pe9 (Ac)) 1 (asgN 7) Bb (Ab Bf (Aa 5) pg5) (N d1 0 (some (.int (m:Int),om)))=.ok (.lst ((nx r).map Ah),e,N d1 0 (some (.int (m:Int),om))):=by
    let W:Ae:=N d1 0 (some (.int (m:Int),om));have e1:(nx r).map Ah=(Aq (m + 1)).map λ (k:Nat)=>Ah (r++[(0:Int) + (k:Int)]):=by
     show ((CP 0 (AX c c r + 1)).map λ x=>r++[x]).map Ah=_;unfold CP;rw [tm,Cu,Cu,show ((m:Int) + 1 - 0).toNat=m + 1 by (clear hmc tm hd4 hjb hj z hc hb;omega)];rfl
    have hc:=xX (n:=7) (en:=AY) (fa:=Af pe9 (Ac)) (elt:=Ab Bf (Aa 5) pg5) (q:=λ k=>Ah (r++[(0:Int) + (k:Int)])) (ρ:=W) (ρ1:=W) (as:=[(.int ((m:Int) + 1),om)]) (lo:=0) (hi:=(m:Int) + 1) rfl (Et (by (clear hmc tm hd4 hjb hj z hc hb;omega)) (by (clear tm hd4 hjb hj z hb;omega))) rfl (λ k hk=>by
     exact RF (f:=Aa 5) (h:=Ao DD (Af (Aa 7) (Ac))) (xs:=r) (ys:=[(0:Int) + (k:Int)]) (d:=0) (e:=om) rfl rfl (by rw [h2.len,GL];(clear hk hmc tm hd4 hjb z hc;omega))) (by (clear tm hd4 hjb hj hb;omega))
    rw [show ((m:Int) + 1 - 0).toNat=m + 1 by (clear hmc tm hd4 hjb hj z hb;omega),<- e1] at hc;exact hc
   obtain ⟨e,ct⟩:=ct;have hjl:(Au (j + 1) c).length<=500000:=hR (j + 1) (by (clear hmc tm hd4 hjb z hc hb;omega));have hln:((pre.flatMap nx).map Ah).length + ((nx r).map Ah).length<=A0:=by
    have:(Au (j + 1) c).length=(pre.flatMap nx).length + ((nx r).length + (post.flatMap nx).length):=by
     rw [hnx,ep,OQ,GI,BI,BI]
    rw [AG,AG]
    (clear hmc tm hd4 hjb hj hc hb;omega)
   have w2:Du 4 pe0 [5] (N d1 0 (some (.int (m:Int),om)))=.nx (M (((pre++[r]).flatMap nx).map Ah) 1 d1 0 d3 (some (Ah r,0)) (some (.int (m:Int),om))):=by
    obtain ⟨k,rfl⟩:∃ k,d4=k + 1:=⟨d4 - 1,by (clear hln hjl hmc tm hjb hj z hc hb;omega)⟩
    have hcool:AZ e [5] (N d1 0 (some (.int (m:Int),om)))=N d1 0 (some (.int (m:Int),om)):=by
     unfold AZ;split <;> rfl
    refine Vl (xs:=(pre.flatMap nx).map Ah) (xs0:=(pre.flatMap nx).map Ah) (d0:=k) (d:=k + 1) rfl ct (by rw [hcool];rfl) (by (clear hd4 hln hjl hmc tm hjb hj z hc hb;omega)) hln ?_;rw [hcool,OQ,Ey];simp only [GI,List.flatMap_nil,J0];rfl
   exact ⟨N d1 0 s6,_,rfl,(AU w1).trans w2,d1,d3,1,_,_,by decide,rfl⟩)
  have u1:Al false 4 (Ao BG (Ac)) [] (L (.lst (R.map Ah)) d2 (some (.int (j:Int),om)) s4 s5 s6 d1)=.nx (M [] om d1 d2 om s5 s6):=rfl;have u2:EC (Aa 2) [2] (asgN 5) pa1 (M [] om d1 d2 om s5 s6)=_:=MK (els:=R.map Ah) (d:=0) rfl rfl e2
  refine ⟨_,(AU u1).trans ((AU u2).trans (BV (x:=.lst (((([]:List (List Int))++R).flatMap nx).map Ah)) (d:=0) rfl (show 2 < 7 by decide) rfl)),d1',0,some (.int (j:Int),d3'),some (.lst (((([]:List (List Int))++R).flatMap nx).map Ah),0),s5',s6',λ _=>rfl,?_⟩
  rfl)
 rw [show ((b:Int) - 0).toNat=b by (clear z hc hb;omega)] at v2;have hd:d2=0:=hd2 (by (clear z hc;omega));subst hd;exact Cg rfl ((AU v1).trans ((AU v2).trans rfl))
structure BoxT (a b c:Nat):Prop where
 ha:1<=a/\a<=100
 hb:1<=b/\b<=100
 hc:c<=100
 dk:DQ ((Au b c).map AE)=true
 rl:∀ n,n<=b->(Au n c).length<=500000
def Nc {b c:Nat}:Au b c≠[]:=λ e=>by
 have:AB b (0:Int)∈Au b c:=zqp.mpr ⟨El,λ j hj=>by simp [AL,DP,hj],λ j hj=>by simp [AL,DP,hj],λ j hj=>by simp [AL,DP,hj,show j < b by omega]⟩
 rw [e] at this;cases this
def D3 (r:List Int):List Int:=if r.sum=0 then [1] else []
def BQ (a b:Nat) (c:Int) (lo hi:Nat->List Int) (ct:Nat->List Nat):Nat->List Int->List Int
 | 0=>D3
 | k + 1=>Ff b (lo (a - 1 - k)) (hi (a - 1 - k)) (ct (a - 1 - k)) (Dt b c (BQ a b c lo hi ct k))
theorem Ng {a b c:Nat}{lo hi:Nat->List Int}{ct:Nat->List Nat}{m:Nat} (hct:∀ i,(ct i).length<=m) (hcb:∀ i,∀ j∈ct i,j < b):∀ (k:Nat),∀ r∈Au b c,(BQ a b c lo hi ct k r).length<=1 + k * (m * c)
 | 0,r,_=>by
  unfold BQ D3;split <;> simp
 | k + 1,r,hr=>by
  have ih:=Ng (a:=a) (b:=b) (c:=c) (lo:=lo) (hi:=hi) hct hcb k;unfold BQ Ff;split
  ·rw [BI,El];have h1:(Dt b c (BQ a b c lo hi ct k) r).length<=1 + k * (m * c):=JQ λ q hq=>ih q (jd3.mp hq).1;have h2:=(RH (zqp.mp hr) (hcb (a - 1 - k))).2;have h3:(ct (a - 1 - k)).length * c<=m * c:=Mm _ (hct _);have h4:(C8 (ct (a - 1 - k)) r).toNat<=m * c:=by
    have:(((ct (a - 1 - k)).length * c:Nat):Int)=((ct (a - 1 - k)).length:Int) * (c:Int):=OH _ _
    (clear this h1;omega)
   have h5:(k + 1) * (m * c)=k * (m * c) + m * c:=by rw [Yk,Yj]
   omega
  ·simp
def C2 (ps:List (Nat×Nat)) (i:Nat):List Nat:=(ps.filter λ z=>decide (z.1=i)).map (·.2)
def RI {ps:List (Nat×Nat)}{b i:Nat} (h:∀ z∈ps,z.2 < b):∀ j∈C2 ps i,j < b:=λ j hj=>by
 obtain ⟨z,hz,rfl⟩:=jd4.mp hj;exact h z (jd3.mp hz).1
def ko {fa:Fa}{asg:PV->Ae->Option Ae}{body:Fs}{ρ ρ1:Ae}{r:Rs}{as:List (PV×Nat)}{i:Int}{n:Nat} (hf:fa ρ=.ok (as,ρ1)) (hen:Kl as=some (i,n)) (h:BS asg body (Gw i n) ρ1=r):IT fa asg body ρ=r:=by
 unfold IT;rw [hf];dsimp only;rw [hen];exact h
def kj {i j:Int}{d1 d2 d3:Nat} (h1:-(2 ^ 40)<=i) (h2:i < 2 ^ 40) (h3:-(2 ^ 40)<=j) (h4:j < 2 ^ 40):Kl [(.int i,d1),(.int j,d2),(.int (-1),d3)]=some (i,(i - j).toNat):=by
 show (if (-1:Int)=-1/\-(2 ^ 40)<=i/\i < 2 ^ 40/\-(2 ^ 40)<=j/\j < 2 ^ 40 then some (i,(i - j).toNat) else none)=_;rw [if_pos ⟨rfl,h1,h2,h3,h4⟩]
def Qc {a b c:Nat} (B:BoxT a b c) {low high:List (List Int)} (hl:Tab a b low) (hh:Tab a b high) {ps:List (Nat×Nat)} (hp:∀ z∈ps,z.2 < b) {m:Nat} (hm:∀ i,(C2 ps i).length<=m) (hmc:1 + a * (m * c)<=1000) (hpl:ps.length<=1000):
  ∃ d,f_tables_between [bx a b c,tb low,tb high,.lst (ps.map pr)]=.ok (.lst ((Aq a).map λ k=>Aj (Au b c) (BQ a b c (λ i=>low.getD i []) (λ i=>high.getD i []) (C2 ps) (k + 1))).reverse,d,.non):=by
 have z:=sz;obtain ⟨ha,hb,hc,dk,rl⟩:=B;let R:=Au b c;let T:=BQ a b c (λ i=>low.getD i []) (λ i=>high.getD i []) (C2 ps);have hRl:R.length < 1000000:=by have:=rl b (A5 _);show (Au b c).length < _;(clear hc hb ha z hpl hmc;omega)
 let L (d5 d6:Nat) (s7 s8 s9 s10 s11:QQ.Slot):Ae:=[some (bx a b c,0),some (tb low,0),some (tb high,0),some (.lst (ps.map pr),0),some (.int (a:Int),om),some (.int (b:Int),d5),some (.int (c:Int),d6),s7,s8,s9,s10,s11]
 have v1:Cp (asgT [4,5,6]) (Aa 0) [0] [some (bx a b c,0),some (tb low,0),some (tb high,0),some (.lst (ps.map pr),0),none,none,none,none,none,none,none,none]=.nx (L om om none none none none none):=rfl;have v2:Al false 7 ET [] (L om om none none none none none)=.nx (L om om (some (.dct [],om)) none none none none):=rfl;obtain ⟨ρ3,e3,s8,s7,hs,rfl⟩:=JO (asg:=asgN 8) (enc:=Ah) (body:=Ep 7 (Aa 8) pb6) (λ pre ρ=>∃ s8 s7,((pre=[]/\s7=some (.dct [],om))\/(pre≠[]/\s7=some (Aj pre D3,1)))/\ρ=L 0 0 s7 s8 none none none) R [] (L 0 0 (some (.dct [],om)) none none none none) ⟨none,_,.inl ⟨rfl,rfl⟩,rfl⟩ (by
  rintro pre r post _ ep ⟨s8,s7,hs,rfl⟩;rw [Ez] at ep;have hrp:r∉pre:=λ z=>by
   have:=K7 b c
   rw [show Au b c=pre++r::post from ep,Ss] at this;exact this.2.2 r z r AF rfl
  have hpl:pre.length < 1000000:=by
   have:R.length=pre.length + (post.length + 1):=by rw [ep];simp
   (clear hc hb ha z hpl hmc;omega)
  obtain ⟨x4,d4,rfl,hx,hd⟩:∃ x4 d4,s7=some (x4,d4)/\(x4=Aj pre D3\/(x4=.dct []/\pre=[]))/\d4≠0:=by
   rcases hs with ⟨e1,e2⟩ | ⟨e1,e2⟩
   ·exact ⟨_,_,e2,.inr ⟨rfl,e1⟩,by decide⟩
   ·exact ⟨_,_,e2,.inl rfl,by decide⟩
  let N:Ae:=L 0 0 (some (x4,d4)) (some (Ah r,0)) none none none;have e1:Ao Es (Af (Aa 8) (Ac)) N=.ok (.int r.sum,om,N):=by
   refine C5 (xs:=[(Ah r,0)]) rfl ?_;show (match DX (r.map PV.int) with | some ns=>some (PV.int ns.sum,om) | none=>none)=_;rw [JG]
  have e2:bT pd6 N=.ok (false^^decide (r.sum=0),N):=AI (Ip (neg:=false) (g:=bC (.int 0)) (j:=0) (e:=om) e1 rfl);have e3:Ce (bT pd6) (Ao BG (Af (bC (.int 1)) (Ac))) (Ao BG (Ac)) N=.ok (il (D3 r),om,N):=by
   unfold Ce;rw [e2];dsimp only [Rz.bind];rw [Me];unfold D3;by_cases h0:r.sum=0
   ·rw [decide_eq_true h0,if_pos rfl,if_pos h0];rfl
   ·rw [decide_eq_false h0,if_neg (by simp),if_neg h0];rfl
  exact ⟨N,_,rfl,RO (R:=pre) (h:=D3) (r:=r) (d:=d4) (e:=0) (x:=x4) e3 rfl hx hd rfl hrp rfl hpl rfl,some (Ah r,0),_,.inr ⟨by simp,rfl⟩,rfl⟩)
 have hs:s7=some (Aj R D3,1):=by
  rcases hs with ⟨e,_⟩ | ⟨_,e⟩
  ·exact absurd e Nc
  ·exact e
 subst hs;have v3:EC (A2 f_rows_of_heights pb0) [5,6] (asgN 8) (Ep 7 (Aa 8) pb6) (L om om (some (.dct [],om)) none none none none)=.nx (L 0 0 (some (Aj R D3,1)) s8 none none none):=MK (els:=R.map Ah) (d:=0) (AQ (xs:=[(.int (b:Int),om),(.int (c:Int),om)]) rfl (jN (by (clear hRl hc ha z hpl hmc;omega)) (by (clear hRl hb ha z hpl hmc;omega)) rl)) rfl e3;have v4:Al false 9 (Ao BG (Ac)) [] (L 0 0 (some (Aj R D3,1)) s8 none none none)=.nx (L 0 0 (some (Aj R D3,1)) s8 (some (.lst [],om)) none none):=rfl;obtain ⟨ρ5,e5,d7,d9,s10,s11,hd9,rfl⟩:=Pl (asg:=asgN 10) (body:=pa2) (Gw ((a:Int) - 1) a) (λ k ρ=>∃ d7 d9 s10 s11,d9≠0/\ρ=L 0 0 (some (Aj R (T k),d7)) s8 (some (.lst ((Aq k).map λ t=>Aj R (T (t + 1))),d9)) s10 s11) (L 0 0 (some (Aj R D3,1)) s8 (some (.lst [],om)) none none) ⟨1,om,none,none,by decide,rfl⟩ (by
  rintro k x _ hx ⟨d7,d9,s10,s11,hd9,rfl⟩;unfold Gw at hx;rw [BW] at hx;have hk:k < a:=by
   cases e:(Aq a)[k]? with
   | none=>rw [e] at hx;cases hx
   | some t=>have:=(jb1.mp e).1;simpa using this
  rw [HB hk] at hx;obtain rfl:PV.int ((a:Int) - 1 - (k:Int))=x:=Option.some.inj hx;let i:=a - 1 - k;have hi:i < a:=by show a - 1 - k < a;(clear hk hd9 hRl hc hb z hpl hmc;omega)
  have ei:(a:Int) - 1 - (k:Int)=(i:Int):=by show _=((a - 1 - k:Nat):Int);(clear hi hd9 hRl hc hb ha z hpl hmc;omega)
  rw [ei];let N (d7 d10:Nat) (s11:QQ.Slot):Ae:=L 0 0 (some (Aj R (T k),d7)) s8 (some (.lst ((Aq k).map λ t=>Aj R (T (t + 1))),d9)) (some (.int (i:Int),d10)) s11;have w1:Al false 11 (Cf (Aa 3) 1 (asgN 12) (bT pc6) pg1) [3,3] (N d7 om s11)=.nx (N d7 om (some (.lst ((C2 ps i).map λ (j:Nat)=>.int (j:Int)),om))):=by
   have cf:=Xj (n:=12) (f:=Aa 3) (enc:=pr) (q:=λ z=>.int (z.2:Int)) (p:=λ z=>decide (z.1=i)) (test:=bT pc6) (elt:=Ab A3 (Aa 12) (bC (.int 1))) (ρ:=N d7 om s11) (ρ1:=N d7 om s11) (d:=0) ps rfl rfl (λ z _=>by
    have e1:Ab A3 (Aa 12) (bC (.int 0)) (N d7 om s11++[some (pr z,dv (pr z))])=.ok (.int (z.1:Int),om,N d7 om s11++[some (pr z,dv (pr z))]):=rfl;have e2:=AI (Ip (neg:=false) (g:=Aa 10) (j:=(i:Int)) (e:=om) e1 rfl);have e4:decide ((z.1:Int)=(i:Int))=decide (z.1=i):=by
     rw [DO,decide_eq_true_iff,decide_eq_true_iff]
     (clear ei hi hk hd9 hRl hc hb ha hpl hmc;omega)
    rw [e2,Me,e4]) (λ z _ _=>rfl) (by (clear ei hi hk hd9 hRl hc hb ha hmc;omega))
   have cf':Cf (Aa 3) 1 (asgN 12) (bT pc6) pg1 (N d7 om s11)=.ok (.lst ((C2 ps i).map λ (j:Nat)=>.int (j:Int)),om,N d7 om s11):=by
    rw [cf];unfold C2;rw [Cu];rfl
   exact BV cf' (show 11 < 12 by decide) rfl
  let N2:Ae:=N d7 om (some (.lst ((C2 ps i).map λ (j:Nat)=>.int (j:Int)),om));have hkm:1 + k * (m * c)<=1000:=by
   have:k * (m * c)<=a * (m * c):=Mm _ (by (clear ei hi hd9 hRl hc hb ha z hpl hmc;omega))
   (clear ei hi hk hd9 hRl hc hb ha z hpl;omega)
  have tl:∀ r∈R,(T k r).length<=1000:=λ r hr=>Cv (Ng hm (λ i=>RI hp) k r hr) hkm;have c1:A2 f_sums_of_lower_rows (Af (Aa 7) (Af (Aa 5) (Ac))) N2=.ok (Aj R (Dt b c (T k)),1,N2):=AQ (xs:=[(Aj R (T k),0),(.int (b:Int),om)]) rfl (jz (by (clear hkm ei hi hk hd9 hRl hc ha z hpl hmc;omega)) dk Nc hRl tl);have gl:low[i]?=some (low.getD i []):=KY (by rw [hl.1];exact hi);have gh:high[i]?=some (high.getD i []):=KY (by rw [hh.1];exact hi);have c2:Ab A3 (Aa 1) (Aa 10) N2=.ok (il (low.getD i []),0,N2):=Rk (t:=low) (k:=(i:Int)) (d:=0) (e:=om) rfl rfl (CZ (by (clear hkm ei hi hk hd9 hRl hc hb ha z hpl hmc;omega)) (by rw [CD];exact gl));have c3:Ab A3 (Aa 2) (Aa 10) N2=.ok (il (high.getD i []),0,N2):=Rk (t:=high) (k:=(i:Int)) (d:=0) (e:=om) rfl rfl (CZ (by (clear hkm ei hi hk hd9 hRl hc hb ha z hpl hmc;omega)) (by rw [CD];exact gh));have hcm:(C2 ps i).length * c<=1000:=by
   have e1:(C2 ps i).length * c<=m * c:=Mm _ (hm i);have e2:1 * (m * c)<=a * (m * c):=Mm _ (by (clear e1 hkm ei hi hk hd9 hRl hc hb z hpl hmc;omega))
   (clear hkm ei hi hk hd9 hRl hc hb ha z hpl;omega)
  have hcl:(C2 ps i).length<=1000:=by
   unfold C2;rw [AG];exact Cv (Mn _ _) hpl
  have rt:=Zz (b:=b) (c:=c) (lo:=low.getD i []) (hi:=high.getD i []) (ct:=C2 ps i) (g:=Dt b c (T k)) (Tab.row hl hi) (Tab.row hh hi) (by (clear hcl hcm hkm ei hi hk hd9 hRl hc ha z hpl hmc;omega)) (RI hp) ⟨hcm,hcl,by (clear hcl hcm hkm ei hi hk hd9 hRl hb ha z hpl hmc;omega)⟩ Nc hRl (λ r hr=>JQ λ q hq=>tl q (jd3.mp hq).1);have w2:Al false 7 pc5 [7,5,1,10,2,10,11] N2=.nx (L 0 0 (some (Aj R (T (k + 1)),1)) s8 (some (.lst ((Aq k).map λ t=>Aj R (T (t + 1))),d9)) (some (.int (i:Int),0)) (some (.lst ((C2 ps i).map λ (j:Nat)=>.int (j:Int)),0))):=
   BV (x:=Aj R (T (k + 1))) (d:=1) (AQ (xs:=[(Aj R (Dt b c (T k)),1),(il (low.getD i []),0),(il (high.getD i []),0),(.lst ((C2 ps i).map λ (j:Nat)=>.int (j:Int)),0)]) (AD c1 (AD c2 (AD c3 (AK rfl)))) rt) (show 7 < 12 by decide) rfl
  have w3:C1 9 (Aa 7) [7] (L 0 0 (some (Aj R (T (k + 1)),1)) s8 (some (.lst ((Aq k).map λ t=>Aj R (T (t + 1))),d9)) (some (.int (i:Int),0)) (some (.lst ((C2 ps i).map λ (j:Nat)=>.int (j:Int)),0)))=.nx (L 0 0 (some (Aj R (T (k + 1)),0)) s8 (some (.lst ((Aq (k + 1)).map λ t=>Aj R (T (t + 1))),1)) (some (.int (i:Int),0)) (some (.lst ((C2 ps i).map λ (j:Nat)=>.int (j:Int)),0))):=by
   obtain ⟨e,rfl⟩:∃ e,d9=e + 1:=⟨d9 - 1,by (clear hcl hcm hkm ei hi hk hRl hc hb ha z hpl hmc;omega)⟩
   refine Rg (xs0:=(Aq k).map λ t=>Aj R (T (t + 1))) (xs:=(Aq k).map λ t=>Aj R (T (t + 1))) (d0:=e) (d:=e + 1) (y:=Aj R (T (k + 1))) (e:=0) rfl rfl rfl (by (clear hd9 hcl hcm hkm ei hi hk hRl hc hb ha z hpl hmc;omega)) (by rw [AG,DT];(clear hd9 hcl hcm hkm ei hi hRl hc hb hpl hmc;omega)) ?_;rw [if_neg (λ h=>absurd h.2 (by decide)),FW,Ey];rfl
  exact ⟨N d7 om s11,_,rfl,(AU w1).trans ((AU w2).trans w3),0,1,some (.int (i:Int),0),some (.lst ((C2 ps i).map λ (j:Nat)=>.int (j:Int)),0),by decide,rfl⟩)
 have hdl:(Gw ((a:Int) - 1) a).length=a:=by unfold Gw;rw [AG,DT]
 rw [hdl] at e5;have v5:IT pe5 (asgN 10) pa2 (L 0 0 (some (Aj R D3,1)) s8 (some (.lst [],om)) none none)=.nx (L 0 0 (some (Aj R (T a),d7)) s8 (some (.lst ((Aq a).map λ t=>Aj R (T (t + 1))),d9)) s10 s11):=by
  have en:Kl [(.int ((a:Int) - 1),om),(.int (-1),om),(.int (-1),om)]=some ((a:Int) - 1,a):=by
   rw [kj (by (clear hdl hd9 hRl hc hb ha z hpl hmc;omega)) (by (clear hdl hd9 hRl hc hb z hpl hmc;omega)) (by (clear hdl hd9 hRl hc hb ha z hpl hmc;omega)) (by (clear hdl hd9 hRl hc hb ha z hpl hmc;omega)),show ((a:Int) - 1 - -1).toNat=a by (clear hdl hd9 hRl hc hb ha z hpl hmc;omega)]
  exact ko (as:=[(.int ((a:Int) - 1),om),(.int (-1),om),(.int (-1),om)]) rfl en e5
 exact ⟨_,Cg rfl ((AU v1).trans ((AU v2).trans ((AU v3).trans ((AU v4).trans ((AU v5).trans (De (Va (x:=.lst ((Aq a).map λ t=>Aj R (T (t + 1)))) (d:=0) rfl rfl)))))))⟩
theorem P2 {f:List Int->List Int}:∀ (l:List (List Int)) (acc:List Int),l.foldl (λ s r=>As s (f r)) acc=As acc (Cc f l)
 | [],acc=>(KZ acc).symm
 | r::l,acc=>by rw [Y1,P2 l,HW,KA]
def GD (a b c:Nat) (low high:List (List Int)) (ps:List (Nat×Nat)):List Int:=Cc (BQ a b c (λ i=>low.getD i []) (λ i=>high.getD i []) (C2 ps) a) (Au b c)
def vM {a b c:Nat} (B:BoxT a b c) {low high:List (List Int)} (hl:Tab a b low) (hh:Tab a b high) {ps:List (Nat×Nat)} (hp:∀ z∈ps,z.2 < b) {m:Nat} (hm:∀ i,(C2 ps i).length<=m) (hmc:1 + a * (m * c)<=1000) (hpl:ps.length<=1000):
  f_tally_between [bx a b c,tb low,tb high,.lst (ps.map pr)]=.ok (il (GD a b c low high ps),om,.non):=by
 have z:=sz;obtain ⟨dt,ht⟩:=Qc B hl hh hp hm hmc hpl;let R:=Au b c;let T:=BQ a b c (λ i=>low.getD i []) (λ i=>high.getD i []) (C2 ps);let L (s4 s5:QQ.Slot):Ae:=[some (bx a b c,0),some (tb low,0),some (tb high,0),some (.lst (ps.map pr),0),s4,s5]
 have v1:Al false 4 (Ao BG (Ac)) [] (L none none)=.nx (L (some (il [],om)) none):=rfl;have tl:∀ r∈R,(T a r).length<=1000:=λ r hr=>Cv (Ng hm (λ i=>RI hp) a r hr) hmc;obtain ⟨ρ',e2,s5,rfl⟩:=JO (asg:=asgN 5) (enc:=λ r=>il (T a r)) (body:=Al false 4 pe8 [4,5]) (λ pre ρ=>∃ s5,ρ=L (some (il (pre.foldl (λ s r=>As s (T a r)) []),om)) s5) R [] (L (some (il [],om)) none) ⟨none,rfl⟩ (by
  rintro pre r post _ ep ⟨s5,rfl⟩;rw [Ez] at ep;have hr:r∈R:=by rw [ep];exact BJ _ AF
  have hpre:(pre.foldl (λ s r=>As s (T a r)) []).length<=1000:=by
   rw [P2];exact JQ λ q hq=>tl q (by rw [ep];exact BP _ hq)
  refine ⟨L (some (il (pre.foldl (λ s r=>As s (T a r)) []),om)) (some (il (T a r),0)),_,rfl,BV (x:=il (As (pre.foldl (λ s r=>As s (T a r)) []) (T a r))) (d:=om) (AQ (xs:=[(il (pre.foldl (λ s r=>As s (T a r)) []),0),(il (T a r),0)]) rfl (WA hpre (tl r hr))) (show 4 < 6 by decide) rfl,some (il (T a r),0),?_⟩;rw [List.foldl_append]
  rfl)
 have hidx:Ab A3 (A2 f_tables_between (Af (Aa 0) (Af (Aa 1) pe6))) (bC (.int 0)) (L (some (il [],om)) none)=.ok (Aj R (T a),0,L (some (il [],om)) none):=by
  refine BR (AQ (xs:=[(bx a b c,0),(tb low,0),(tb high,0),(.lst (ps.map pr),0)]) rfl ht) (y:=.int 0) (e:=om) rfl ?_;show (BE _ 0).map _=_;rw [CZ (x:=Aj R (T a)) (by decide) ?_]
  ·rfl
  ·obtain ⟨k,rfl⟩:∃ k,a=k + 1:=⟨a - 1,by have:=B.ha;omega⟩
   show (List.reverse _)[0]?=_;rw [FW,Ey,List.reverse_append];rfl
 have v2:=zw (asg:=asgN 5) (body:=Al false 4 pe8 [4,5]) (vs:=[0,1,2,3]) (ρ2:=L (some (il [],om)) none) hidx rfl e2;have he:([]++R).foldl (λ s r=>As s (T a r)) []=GD a b c low high ps:=by
  rw [Ez,P2];rfl
 rw [he] at v2;exact Cg rfl ((AU v1).trans ((AU v2).trans rfl))
def Cm (a b:Nat) (x:Int):List (List Int):=AB a (AB b x)
def vO (a b:Nat) (x:Int):Tab a b (Cm a b x):=⟨El,λ r hr=>by rw [(List.mem_replicate.mp hr).2,El]⟩
def zq {a b n:Nat}{v:Int}{f g:Fx}{ρ:Ae}{d:Nat} (hn:ρ.length=n) (ha:a<=1000) (hb:b<=1000) (h0:f ρ=.ok (.int (a:Int),d,ρ)) (h1:∀ k,g (ρ++[some (.int (k:Int),om)])=.ok (il (AB b v),om,ρ++[some (.int (k:Int),om)])):Ca AY (Af f (Ac)) 1 (asgN n) Bb g ρ=.ok (tb (Cm a b v),om,ρ):=by
 have z:=sz;have w:=GQ (n:=n) (en:=AY) (fa:=Af f Ac) (elt:=g) (q:=λ _=>il (AB b v)) (ρ:=ρ) (ρ1:=ρ) (as:=[(.int (a:Int),d)]) (lo:=0) (hi:=(a:Int)) (AK h0) (Et (by omega) (by omega)) hn (λ k _=>by
  have:=h1 ((0:Int) + (k:Int))
  exact h1 ((0:Int) + (k:Int))) (by omega)
 rw [w,show ((a:Int) - 0).toNat=a by omega];unfold tb Cm;rw [List.map_replicate,List.map_const',DT]
def Am {α:Type} (f:α->Int) (l:List α):Int:=(l.map f).sum
def DA {α:Type}{f:α->Int}{x:α}{l:List α}:Am f (x::l)=f x + Am f l:=rfl
theorem IL {α:Type}{f:α->Int}:∀ (l m:List α),Am f (l++m)=Am f l + Am f m
 | [],m=>by simp [Am]
 | x::l,m=>by rw [FX,DA,DA,IL l m];omega
theorem HY {α:Type}{f g:α->Int}:∀ {l:List α},(∀ x∈l,f x=g x)->Am f l=Am g l
 | [],_=>rfl
 | x::l,h=>by rw [DA,DA,h x AF,HY λ y hy=>h y (AH _ hy)]
theorem TU {α β:Type}{f:β->Int}{h:α->List β}:∀ (l:List α),Am f (l.flatMap h)=Am (λ x=>Am f (h x)) l
 | []=>rfl
 | x::l=>by rw [GI,IL,TU l,DA]
def kT {α β:Type}{f:β->Int}{h:α->β}{l:List α}:Am f (l.map h)=Am (λ x=>f (h x)) l:=by
 unfold Am;rw [Cu];rfl
theorem X4 {α:Type}:∀ (l:List α),Am (λ _=>1) l=(l.length:Int)
 | []=>rfl
 | x::l=>by rw [DA,X4 l,Ba];omega
theorem Pd {α:Type}{f:α->Int}{p q:α->Bool}:∀ (l:List α),Am (λ x=>if q x=true then f x else 0) (l.filter p)=Am f (l.filter λ x=>p x && q x)
 | []=>rfl
 | x::l=>by
  have ih:=Pd (f:=f) (p:=p) (q:=q) l;rw [Dw,Dw];cases hp:p x with
  | false=>simpa using ih
  | true=>
   cases hq:q x with
   | false=>simp only [if_true,Jx,GJ,if_false,DA,hq,ih];omega
   | true=>simp only [if_true,Kq,DA,hq,ih]
theorem K4 {α:Type}{f:α->Int}:∀ {l:List α},(∀ x∈l,0<=f x)->0<=Am f l
 | [],_=>D5 _
 | x::l,h=>by
  have h1:=h x AF;have h2:=K4 (f:=f) (l:=l) λ y hy=>h y (AH _ hy);rw [DA];omega
theorem K9 {f:List Int->List Int}:∀ (l:List (List Int)),(Cc f l).sum=Am (λ r=>(f r).sum) l
 | []=>rfl
 | r::l=>by rw [HW,W9,K9 l,DA]
def DF (a b:Nat) (c:Int) (lo hi:Nat->List Int) (k:Nat) (r:List Int):Int:=(BQ a b c lo hi (λ _=>[]) k r).sum
def Gu (a b:Nat) (c:Int) (lo hi:Nat->List Int) (k:Nat) (ah:Nat->Int):Int:=Am (DF a b c lo hi k) ((Au b c).filter λ q=>(Aq b).all λ i=>decide (q.getD i 0<=ah i))
theorem Pf:∀ (n:Nat) (l:List Int),(AB n (0:Int)++l).sum=l.sum
 | 0,l=>rfl
 | n + 1,l=>by rw [GK,FX,Kr,Pf n l];omega
def Nj {a b:Nat}{c:Int}{lo hi:Nat->List Int}{k:Nat}{r:List Int}:DF a b c lo hi (k + 1) r=if C9 b (lo (a - 1 - k)) r (hi (a - 1 - k))=true then Gu a b c lo hi k (λ i=>r.getD i 0) else 0:=by
 show (Ff b _ _ _ _ r).sum=_;unfold Ff;split
 ·rw [Pf];exact K9 _
 ·rfl
theorem T1:∀ {r:List Int},(∀ j,j < r.length->0<=r.getD j 0)->r.sum=0->r=AB r.length 0
 | [],_,_=>rfl
 | x::r,h,e=>by
  have h0:=h 0 (by simp);have hr:∀ j,j < r.length->0<=r.getD j 0:=λ j hj=>by simpa using h (j + 1) (by simpa using hj)
  have hs:∀ (r:List Int),(∀ j,j < r.length->0<=r.getD j 0)->0<=r.sum:=by
   intro r;induction r with
   | nil=>intro _;simp
   | cons y r ih=>
    intro h
    have:=h 0 (by simp)
    have:=ih λ j hj=>by simpa using h (j + 1) (by simpa using hj)
    simp at *;omega
  have h1:=hs r hr;rw [Kr] at e;simp at h0;have ex:x=0:=by omega
  have er:r.sum=0:=by omega
  rw [Ba,GK,<- T1 hr er,ex]
def Pu {a b:Nat}{c:Int}{lo hi:Nat->List Int}{ah:Nat->Int} (hc:0<=c) (h:∀ i,i < b->0<=ah i):Gu a b c lo hi 0 ah=1:=by
 let z:=AB b (0:Int);have zg:∀ j,z.getD j 0=0:=λ j=>by
  show (AB b (0:Int)).getD j 0=0;rw [AL,DP];split <;> rfl
 have zm:z∈Au b c:=zqp.mpr ⟨El,λ j _=>by rw [zg];omega,λ j _=>by rw [zg];exact hc,λ j _=>by rw [zg,zg];omega⟩;unfold Gu;have e1:Am (DF a b c lo hi 0) ((Au b c).filter λ q=>(Aq b).all λ i=>decide (q.getD i 0<=ah i))=Am (λ r=>if decide (r=z)=true then (1:Int) else 0) ((Au b c).filter λ q=>(Aq b).all λ i=>decide (q.getD i 0<=ah i)):=by
  refine HY λ r hr=>?_;have hr:=zqp.mp (jd3.mp hr).1;show (D3 r).sum=_;unfold D3;by_cases e:r=z
  ·have hz:r.sum=0:=by
    have:=Pf b []
    rw [J0] at this;rw [e];exact this
   rw [if_pos hz,if_pos (decide_eq_true e)];rfl
  ·have hz:¬ r.sum=0:=λ h0=>e (by
    have:=T1 (λ j hj=>hr.lo j (by rw [<- hr.len];exact hj)) h0
    rw [this,hr.len])
   rw [if_neg hz,if_neg (by simpa using e)];rfl
 rw [e1,Pd];have nd:=K7 b c;have key:∀ {l:List (List Int)},l.Nodup->z∈l->Am (λ _=>(1:Int)) (l.filter λ x=>((Aq b).all λ i=>decide (x.getD i 0<=ah i)) && decide (x=z))=1:=by
  intro l;induction l with
  | nil=>intro _ h;cases h
  | cons x l ih=>
   intro nd hm;rw [ji9] at nd;rw [Dw];by_cases e:x=z
   ·have hz:((Aq b).all λ i=>decide (x.getD i 0<=ah i))=true:=by
     rw [jb5];intro i hi;rw [decide_eq_true_iff,e,zg];exact h i (jc4.mp hi)
    rw [hz,decide_eq_true e,if_pos (show (true && true)=true from rfl),DA]
    have:l.filter (λ y=>((Aq b).all λ i=>decide (y.getD i 0<=ah i)) && decide (y=z))=[]:=by
     rw [ji7];intro y hy e';rw [AS,decide_eq_true_iff] at e';exact nd.1 (by rw [e,<- e'.2];exact hy)
    rw [this];rfl
   ·rw [decide_eq_false e,Jx,if_neg (by simp)];exact ih nd.2 ((jc3.mp hm).resolve_left λ e'=>e e'.symm)
 exact key nd zm
theorem w8 {hi ah c:Int} (h:min hi ah<=c) (row:List Int):AX (min hi ah) c row=AX hi ah row:=by
 unfold AX;cases row.getLast? with
 | none=>simp only;omega
 | some m=>simp only;omega
theorem TM {lo hi ah:Nat->Int}{c:Int}:∀ (n:Nat),(∀ i,i < n->min (hi i) (ah i)<=c)->BF lo (λ i=>min (hi i) (ah i)) (λ _=>c) n=BF lo hi ah n
 | 0,_=>rfl
 | n + 1,h=>by
  rw [BF,BF,TM n λ i hi=>h i (by omega)];congr 1;funext row;rw [w8 (h n (by omega))]
def Z0 {b:Nat}{c:Int}{lo hi:List Int}{ah:Nat->Int} (h0:∀ i,i < b->0<=lo.getD i 0) (hc:∀ i,i < b->hi.getD i 0<=c):((Au b c).filter λ q=>((Aq b).all λ i=>decide (q.getD i 0<=ah i)) && C9 b lo q hi)=BF (λ i=>lo.getD i 0) (λ i=>hi.getD i 0) ah b:=by
 have e1:BF (λ i=>lo.getD i 0) (λ i=>hi.getD i 0) ah b=BF (λ i=>if i < b then lo.getD i 0 else 0) (λ i=>if i < b then min (hi.getD i 0) (ah i) else 0 - (0 - c) ) (λ _=>c) b:=by
  rw [<- TM (c:=c) b λ i hi=>by have:=hc i hi;omega];exact T6 b λ j hj=>⟨by rw [if_pos hj],by rw [if_pos hj],rfl⟩
 rw [e1];have e2:=Pg (lo':=λ _=>0) (hi':=λ _=>c) (ah:=λ _=>c) (lo:=λ i=>if i < b then lo.getD i 0 else 0) (hi:=λ i=>if i < b then min (hi.getD i 0) (ah i) else 0 - (0 - c)) (λ i=>by
  show 0<=if i < b then lo.getD i 0 else 0
  split
  ·rename_i h;exact h0 i h
  ·omega) (λ i=>by
  show (if i < b then min (hi.getD i 0) (ah i) else 0 - (0 - c))<=c;split
  ·rename_i h;have:=hc i h;omega
  ·omega) b
 rw [<- e2];unfold Au;apply Kw;intro q _;rw [DO,AS];unfold C9 DR E2;simp only [jb5,jc4,AS,decide_eq_true_iff];constructor
 ·rintro ⟨h1,h2⟩ i hi;have a1:=h1 i hi;have a2:=h2 i hi;rw [if_pos hi,if_pos hi];omega
 ·intro h;refine ⟨λ i hi=>?_,λ i hi=>?_⟩
  ·have:=h i hi
   rw [if_pos hi,if_pos hi] at this;omega
  ·have:=h i hi
   rw [if_pos hi,if_pos hi] at this;omega
section
variable {a b:Nat}{c:Int}{low high:List (List Int)}
def vD (h0:∀ i j,i < a->j < b->0<=g low i j) (hc:∀ i j,i < a->j < b->g high i j<=c) {k:Nat} (hk:k < a) {ah:Nat->Int}:Gu a b c (λ i=>low.getD i []) (λ i=>high.getD i []) (k + 1) ah=Am (λ r=>Gu a b c (λ i=>low.getD i []) (λ i=>high.getD i []) k (λ i=>r.getD i 0)) (BF (g low (a - 1 - k)) (g high (a - 1 - k)) ah b):=by
 have e:=Z0 (b:=b) (c:=c) (lo:=low.getD (a - 1 - k) []) (hi:=high.getD (a - 1 - k) []) (ah:=ah) (λ i hi=>h0 _ i (by omega) hi) (λ i hi=>hc _ i (by omega) hi);show Am _ _=Am _ (BF (λ i=>(low.getD (a - 1 - k) []).getD i 0) (λ i=>(high.getD (a - 1 - k) []).getD i 0) ah b);rw [<- e,<- Pd];refine HY λ r _=>?_;exact Nj
theorem Xk (hcc:0<=c) (h0:∀ i j,i < a->j < b->0<=g low i j) (hc:∀ i j,i < a->j < b->g high i j<=c):∀ (k:Nat),k<=a->Am (λ p=>Gu a b c (λ i=>low.getD i []) (λ i=>high.getD i []) k (Gp c p)) (Bp (g low) (g high) c b (a - k))=((Bp (g low) (g high) c b a).length:Int)
 | 0,_=>by
  rw [Mb,<- X4];refine HY λ p hp=>Pu hcc λ i hi=>?_;unfold Gp;cases a with
  | zero=>
   simp only [Bp,jb7] at hp;subst hp;exact hcc
  | succ n=>
   have:=P6 hp
   rw [UD this.1.1];exact Fl (h0 n i (by omega) hi) (this.2.1 n i (by omega) hi).1
 | k + 1,hk=>by
  have ih:=Xk hcc h0 hc k (by omega);rw [<- ih,show a - k=(a - (k + 1)) + 1 by omega,Bp,TU];refine HY λ p hp=>?_;rw [vD h0 hc (by omega),kT,show a - 1 - k=a - (k + 1) by (clear ih hk hcc;omega)];refine HY λ r _=>?_;congr 1;unfold Gp;rw [List.getLast?_concat]
def Pe (hcc:0<=c) (h0:∀ i j,i < a->j < b->0<=g low i j) (hc:∀ i j,i < a->j < b->g high i j<=c):(Cc (BQ a b c (λ i=>low.getD i []) (λ i=>high.getD i []) (λ _=>[]) a) (Au b c)).sum=((Bp (g low) (g high) c b a).length:Int):=by
 rw [K9,<- Xk hcc h0 hc a (A5 _),OD];show _=Am _ [[]];rw [DA];show Am (DF a b c _ _ a) (Au b c)=Gu a b c _ _ a (λ _=>c) + 0;unfold Gu;rw [je3.mpr λ r hr=>?_]
 ·omega
 ·rw [jb5];intro i hi;rw [decide_eq_true_iff];exact (zqp.mp hr).hi i (jc4.mp hi)
end
def FK (c:Nat) (row:List Nat):Nat:=match row.getLast? with
 | none=>c
 | some m=>m
def EB (c:Nat):Nat->List (List Nat)
 | 0=>[[]]
 | n + 1=>(EB c n).flatMap λ row=>(Aq (FK c row + 1)).map λ x=>row++[x]
def Kn:List Nat->List Nat->Bool
 | x::xs,y::ys=>Sg x y && Kn xs ys
 | _,_=>true
def Gg:List Nat->List Nat->List Nat
 | [],ys=>ys
 | x::xs,[]=>x::xs
 | x::xs,y::ys=>Nat.add x y::Gg xs ys
def DI (r:List Nat):List (List Nat×List Nat)->List Nat
 | []=>[]
 | p::l=>bif Kn p.1 r then Gg p.2 (DI r l) else DI r l
def IV:Nat->List Nat->List Nat
 | 0,l=>l
 | n + 1,l=>0::IV n l
def ZQ (w:List Nat->Nat) (t:List (List Nat×List Nat)):List (List Nat×List Nat):=t.map λ p=>(p.1,IV (w p.1) (DI p.1 t))
def ZJ (rows:List (List Nat)):List (List Nat×List Nat):=rows.map λ r=>(r,bif r.all (LZ 0) then [1] else [])
def DH (rows:List (List Nat)) (w:List Nat->Nat):Nat->List (List Nat×List Nat)
 | 0=>ZJ rows
 | k + 1=>ZQ w (DH rows w k)
def J9 (t:List (List Nat×List Nat)):List Nat:=t.foldr (λ p s=>Gg p.2 s) []
def up (r:List Nat):List Int:=r.map λ (n:Nat)=>(n:Int)
def Le (r:List Nat) (j:Nat):(up r).getD j 0=((r.getD j 0:Nat):Int):=by
 unfold up;simp only [AL,BW];cases r[j]? <;> rfl
def RB (r:List Nat):(up r).length=r.length:=by simp [up]
theorem Ui {α β:Type}{f g:α->List β}:∀ {l:List α},(∀ x∈l,f x=g x)->l.flatMap f=l.flatMap g
 | [],_=>rfl
 | x::l,h=>by rw [GI,GI,h x AF,Ui λ y hy=>h y (AH _ hy)]
theorem MR (c:Nat):∀ b,(EB c b).map up=Au b c
 | 0=>rfl
 | b + 1=>by
  have ih:=MR c b;show _=(Au b c).flatMap λ row=>(CP 0 (AX c c row + 1)).map λ x=>row++[x];rw [<- ih,List.flatMap_map,EB,List.map_flatMap];refine Ui λ row hrow=>?_;have hr:RowB b c (up row):=zqp.mp (by rw [<- ih];exact SD hrow);have ht:AX c c (up row)=((FK c row:Nat):Int):=by
   unfold AX FK;cases b with
   | zero=>
    have:row=[]:=jf6.mp (by rw [<- RB];exact hr.len)
    subst this;show min (c:Int) c=c;omega
   | succ n=>
    have h1:=M5 hr.len;have h2:row.getLast?=some (row.getD n 0):=by
     have hl:row.length=n + 1:=by rw [<- RB];exact hr.len
     rw [SI,hl,OP,AL,Cd (by omega)];rfl
    rw [h1,h2];have h3:=hr.hi n (by omega);rw [Le] at h3 ⊢;simp only;omega
  rw [ht,Cu];unfold CP;rw [show ((FK c row:Nat):Int) + 1 - 0=((FK c row + 1:Nat):Int) by omega,CD,Cu];apply J1;intro x _;show up (row++[x])=up row++[(0:Int) + (x:Int)];rw [EM];unfold up;rw [Ey];rfl
theorem RE:∀ x y:List Nat,up (Gg x y)=As (up x) (up y)
 | [],y=>rfl
 | x::xs,[]=>rfl
 | x::xs,y::ys=>by
  have:=RE xs ys
  show ((x + y:Nat):Int)::up (Gg xs ys)=((x:Int) + (y:Int))::As (up xs) (up ys);rw [this,So]
theorem Wb:∀ {q r:List Nat},q.length=r.length->(Kn q r=true↔∀ i,i < q.length->q.getD i 0<=r.getD i 0)
 | [],[],_=>⟨λ _ i hi=>absurd hi (Sq i),λ _=>rfl⟩
 | [],_::_,h=>by cases h
 | _::_,[],h=>by cases h
 | x::q,y::r,h=>by
  have ih:=Wb (q:=q) (r:=r) (by simpa using h);rw [Kn,AS,ih,Nat.ble_eq];constructor
  ·rintro ⟨h1,h2⟩ i hi;cases i with
   | zero=>simpa using h1
   | succ i=>simpa using h2 i (by simpa using hi)
  ·intro h;exact ⟨by simpa using h 0 (by simp),λ i hi=>by simpa using h (i + 1) (by simpa using hi)⟩
def qo {b:Nat}{q r:List Nat} (h1:q.length=b) (h2:r.length=b):Kn q r=LX b (up q) (up r):=by
 rw [DO,Wb (by omega),Wc,h1];constructor
 ·intro h i hi
  have:=h i hi
  rw [Le,Le];omega
 ·intro h i hi
  have:=h i hi
  rw [Le,Le] at this;omega
theorem Ub:∀ (n:Nat) (l:List Nat),up (IV n l)=AB n 0++up l
 | 0,l=>rfl
 | n + 1,l=>by
  show ((0:Nat):Int)::up (IV n l)=_;rw [Ub n l];rfl
def hM (rows:List (List Nat)) (w:List Nat->Nat):Nat->List Nat->List Nat
 | 0,r=>bif r.all (LZ 0) then [1] else []
 | k + 1,r=>IV (w r) (DI r (DH rows w k))
theorem RT (rows:List (List Nat)) (w:List Nat->Nat):∀ k,DH rows w k=rows.map λ r=>(r,hM rows w k r)
 | 0=>rfl
 | k + 1=>by
  have ih:=RT rows w k;show (DH rows w k).map (λ p=>(p.1,IV (w p.1) (DI p.1 (DH rows w k))))=_
  conv=>lhs;arg 2;rw [ih]
  rw [Cu];rfl
theorem Wv {b:Nat}{r:List Nat}{h:List Nat->List Nat}{f:List Int->List Int} (h2:r.length=b):∀ {l:List (List Nat)},(∀ q∈l,q.length=b)->(∀ q∈l,up (h q)=f (up q))->up (DI r (l.map λ q=>(q,h q)))=Cc f ((l.map up).filter λ q=>LX b q (up r))
 | [],_,_=>rfl
 | q::l,h1,h3=>by
  have ih:=Wv (h:=h) (f:=f) h2 (l:=l) (λ x hx=>h1 x (AH _ hx)) (λ x hx=>h3 x (AH _ hx));rw [AR,DI,AR,Dw,<- qo (h1 q AF) h2];cases Kn q r with
  | true=>rw [cond_true,RE,ih,if_pos rfl,HW,h3 q AF]
  | false=>rw [cond_false,ih,if_neg (by simp)]
def vx {a b c i:Nat}{r:List Int} (h:RowB b c r) (hi:i < a):C9 b ((Cm a b 0).getD i []) r ((Cm a b c).getD i [])=true:=by
 have e:∀ x:Int,(Cm a b x).getD i []=AB b x:=λ x=>by
  unfold Cm;rw [AL,DP,if_pos hi];rfl
 unfold C9;rw [e,e,jb5];intro j hj;have hj:=jc4.mp hj;have g:∀ x:Int,(AB b x).getD j 0=x:=λ x=>by rw [AL,DP,if_pos hj];rfl
 rw [g,g,AS,decide_eq_true_iff,decide_eq_true_iff];exact ⟨h.lo j hj,h.hi j hj⟩
theorem zvs:∀ {r:List Nat},(up r).sum=0↔r.all (LZ 0)=true
 | []=>by simp [up]
 | x::r=>by
  have ih:=zvs (r:=r);have pos:∀ r:List Nat,0<=(up r).sum:=λ r=>by
   induction r with
   | nil=>simp [up]
   | cons x r ih=>show 0<=(x:Int) + (up r).sum;omega
  have:=pos r
  show (x:Int) + (up r).sum=0↔_;rw [FV,AS,<- ih];constructor
  ·intro h;refine ⟨?_,by omega⟩
   have:x=0:=by omega
   rw [this];rfl
  ·rintro ⟨h1,h2⟩
   have:0=x:=Nat.eq_of_beq_eq_true h1
   omega
theorem U7 {a b c:Nat}{ct:Nat->List Nat}{w:List Nat->Nat} (hw:∀ i,i < a->∀ r∈EB c b,(C8 (ct i) (up r)).toNat=w r):∀ (k:Nat),k<=a->∀ r∈EB c b,up (hM (EB c b) w k r)=BQ a b c (λ i=>(Cm a b 0).getD i []) (λ i=>(Cm a b c).getD i []) ct k (up r)
 | 0,_,r,hr=>by
  show up (bif r.all (LZ 0) then [1] else [])=if (up r).sum=0 then [1] else []
  cases h:r.all (LZ 0) with
  | true=>rw [if_pos (zvs.mpr h)];rfl
  | false=>rw [if_neg λ z=>by rw [zvs.mp z] at h;cases h];rfl
 | k + 1,hk,r,hr=>by
  have ih:=U7 hw k (by omega);have hrb:∀ q∈EB c b,RowB b c (up q):=λ q hq=>zqp.mp (by rw [<- MR];exact SD hq);have hlen:∀ q∈EB c b,q.length=b:=λ q hq=>by rw [<- RB];exact (hrb q hq).len
  show up (IV (w r) (DI r (DH (EB c b) w k)))=Ff b _ _ _ _ (up r);unfold Ff;rw [if_pos (vx (hrb r hr) (by omega)),Ub,hw _ (by omega) r hr,RT,Wv (hlen r hr) hlen ih,MR];rfl
def vN {a b c:Nat}{ps:List (Nat×Nat)}{w:List Nat->Nat} (hw:∀ i,i < a->∀ r∈EB c b,(C8 (C2 ps i) (up r)).toNat=w r):GD a b c (Cm a b 0) (Cm a b c) ps=up (J9 (DH (EB c b) w a)):=by
 have h:=U7 (a:=a) (b:=b) (c:=c) hw a (A5 _);unfold GD;rw [RT,<- MR];generalize EB c b=l at h;clear hw
 have:∀ l':List (List Nat),(∀ r∈l',up (hM l w a r)=BQ a b c (λ i=>(Cm a b 0).getD i []) (λ i=>(Cm a b c).getD i []) (C2 ps) a (up r))->Cc (BQ a b c (λ i=>(Cm a b 0).getD i []) (λ i=>(Cm a b c).getD i []) (C2 ps) a) (l'.map up)=up (J9 (l'.map λ r=>(r,hM l w a r))):=λ l'=>by
  induction l' with
  | nil=>intro _;rfl
  | cons r l' ih=>
   intro h;rw [AR,HW,ih λ q hq=>h q (AH _ hq),<- h r AF];exact (RE _ _).symm
 exact this l h
abbrev _root_.pb9:=Af (Aa 0) (Af (Aa 1) (Af (Aa 2) (Af (Ao BG (Ac)) (Ac))))
def Xf_how_many_between:Fs:=(Ag (CY pa7)
 (Ax (Ao Es (Af (A2 f_tally_between pb9) (Ac)))))
def f_how_many_between:Fn:=Ay false 3 0 Xf_how_many_between
abbrev _root_.pa9:=Ao E5 (Af (Ca AY (Af (Ao Fw (Af (Aa 2) (Ac))) (Ac)) 1 (asgN 3) Bb (Ab (BC λ i j=>decide (i<=j)) (Ab A3 (Aa 2) (Aa 3)) (Ab A3 (Aa 1) (Aa 3)))) (Ac))
def Xf_rows_behind:Fs:=(Ax (Ih 0 1 (asgN 2) (bT pa9) (Aa 2)))
def f_rows_behind:Fn:=Ay false 2 0 Xf_rows_behind
abbrev _root_.ph4:=Af (Ab A3 (Aa 0) (Aa 4)) (Ac)
abbrev _root_.pb7:=Ag (Al false 5 (Ao Es ph4) [0,4]) (Ag (BH (bT (Ab (BC λ i j=>decide (i < j)) (Aa 3) (Aa 5))) (Ax (Ao DD (Af (Aa 4) (Af (Aa 3) (Ac))))) AJ) (Dv (λ i j=>i - j) false 3 (Aa 5)))
def Xf_row_of_number:Fs:=(Ag (Al false 3 (Aa 2) [2])
 (Ag (EC (A2 f_rows_behind pc3) [0,1] (asgN 4) pb7)
 (Ax (bC .non))))
def f_row_of_number:Fn:=Ay false 3 3 Xf_row_of_number
abbrev _root_.pc1:=Ab A3 (Aa 0) (bC (.int 2))
abbrev _root_.pe1:=Bv (Bu CS ph1) (Ab (BC λ i j=>decide (i < j)) (Aa 3) (bC (.int 0)))
abbrev _root_.pd1:=Ag (BH (bT (Ab (EK false) (Aa 8) (bC .non))) FN AJ) (Ag (Cp (asgT [5,6]) (Aa 8) [8]) (C1 4 (Ao HU (Af (Aa 5) (Ac))) [5]))
def Xf_nth_between:Fs:=(Ag (CY pa7)
 (Ag (BH (bT pe1) FN AJ)
 (Ag pd9
 (Ag (Al false 5 (Ab BU (Ao BG (Af pc1 (Ac))) pb1) [0,0])
 (Ag (Al false 6 (Aa 3) [3])
 (Ag (EC (A2 f_tables_between pb9) [0,1,2] (asgN 7) (Ag (Al false 8 (A2 f_row_of_number (Af (Aa 7) pb0)) [7,5,6])
 pd1))
 (DE 4)))))))
def f_nth_between:Fn:=Ay false 4 5 Xf_nth_between
abbrev _root_.pf5:=Af (Ab A3 (Aa 1) (Aa 3)) (Ac)
def Xf_how_many_ahead_of:Fs:=(Ax (Ao Es (Af (Cf (A2 f_rows_behind pb8) 1 (asgN 3) (bT (Ab FQ (Aa 3) (Aa 0))) (Ao Es pf5)) (Ac))))
def f_how_many_ahead_of:Fn:=Ay false 3 0 Xf_how_many_ahead_of
abbrev _root_.pf6:=Af (Ao M9 (Af (Aa 7) (Ac))) (Af (Aa 6) (Af (Aa 5) (Ac)))
abbrev _root_.pc9:=Ag (Dv (λ i j=>i + j) true 4 (A2 f_how_many_ahead_of pf6)) (Al false 5 (Aa 7) [7])
abbrev _root_.pc8:=Bv (Bu CS (A2 f_lies_below (Af (Aa 0) (Af (Aa 1) (Af (Aa 3) (Ac)))))) (Bu CS (A2 f_lies_below (Af (Aa 0) (Af (Aa 3) (Af (Aa 2) (Ac))))))
abbrev _root_.pg7:=A2 f_must_be_pile (Af (Aa 0) (Af (Aa 3) (Ac)))
def Xf_number_between:Fs:=(Ag (CY pa7)
 (Ag (CY pg7)
 (Ag (BH (bT pc8) FN AJ)
 (Ag (Al false 4 (bC (.int 0)) [])
 (Ag (Al false 5 (Ab BU (Ao BG (Af pc1 (Ac))) pb1) [0,0])
 (Ag (Gy .zp (Af (A2 f_tables_between pb9) (Af (Aa 3) (Ac))) [0,1,2,3] (asgT [6,7]) pc9)
 (DE 4)))))))
def f_number_between:Fn:=Ay false 4 4 Xf_number_between
def O9 {a b:Nat}{h:Int->Int->Int}{t u:List (List Int)} (ht:Tab a b t) (hu:Tab a b u):Tab a b (zT h t u):=by
 refine ⟨by unfold zT;rw [AG,Jy,ht.1,hu.1,Yl],λ r hr=>?_⟩;obtain ⟨z,hz,rfl⟩:=jd4.mp hr;rw [List.length_zipWith,ht.2 _ (Jz hz).1,hu.2 _ (Jz hz).2,Yl]
def GF {a b:Nat}{h:Int->Int->Int}{t u:List (List Int)} (ht:Tab a b t) (hu:Tab a b u):zT h t u=Cr a b λ i j=>h (g t i j) (g u i j):=by
 refine MV (O9 ht hu) IC λ i j hi hj=>?_;rw [Cz hi hj];have e1:(zT h t u).getD i []=Mc h (t.getD i []) (u.getD i []):=by
  unfold zT;rw [AL,BW,(YS (z:=(t.getD i [],u.getD i []))).mpr ⟨KY (by rw [ht.1];exact hi),KY (by rw [hu.1];exact hi)⟩];rfl
 show ((zT h t u).getD i []).getD j 0=_;rw [e1,AL,List.getElem?_zipWith,Dd (by rw [ht.row hi];exact hj),Dd (by rw [hu.row hi];exact hj)];rfl
section
variable {a b c:Nat}{t u l:List (List Int)}
def WI (f:Int->Int->Int) (hf:∀ i j k m:Int,i<=k->j<=m->f i j<=f k m) (h0:∀ i j,f i j=i\/f i j=j) (p:Pile a b c t) (q:Pile a b c u):Pile a b c (zT f t u):=by
 refine ⟨O9 p.tab q.tab,λ x y hx hy=>?_,λ x y hx hy=>?_,λ x y hx hy=>?_,λ x y hx hy=>?_⟩
 ·rw [GF p.tab q.tab,Cz hx hy]
  have:=p.lo x y hx hy
  have:=q.lo x y hx hy
  rcases h0 (g t x y) (g u x y) with e | e <;> omega
 ·rw [GF p.tab q.tab,Cz hx hy]
  have:=p.hi x y hx hy
  have:=q.hi x y hx hy
  rcases h0 (g t x y) (g u x y) with e | e <;> omega
 ·rw [GF p.tab q.tab,Cz hx hy,Cz (by omega) hy];exact hf _ _ _ _ (p.dn x y hx hy) (q.dn x y hx hy)
 ·rw [GF p.tab q.tab,Cz hx hy,Cz hx (by omega)];exact hf _ _ _ _ (p.rt x y hx hy) (q.rt x y hx hy)
end
section
variable {a b c:Nat}{t u l:List (List Int)}
def wX (p:Pile a b c t) (q:Pile a b c u) (ha:1<=a/\a<=30) (hb:1<=b/\b<=30) (hc:1<=c/\c<=1000):f_must_be_two_piles [bx a b c,tb t,tb u]=.ok (.non,om,.non):=
 xH (Py p.tab (by omega) (by omega) (by omega) ((Pm p.tab).mpr p)) (Py q.tab (by omega) (by omega) (by omega) ((Pm q.tab).mpr q))
end
theorem RQ {α:Type}{f:α->Int}{m:Int} (hm:0<=m):∀ {l:List α},(∀ x∈l,f x<=m)->Am f l<=l.length * m
 | [],_=>by simp [Am]
 | x::l,h=>by
  have h1:=h x AF;have h2:=RQ hm (l:=l) λ y hy=>h y (AH _ hy);rw [DA,Ba,So,Yi];omega
def Zu {α:Type}{p:α->Bool}{l:List α}{m:Int} (hm:0<=m):((l.filter p).length:Int) * m<=(l.length:Int) * m:=Int.mul_le_mul_of_nonneg_right (by have:=Mn p l;omega) hm
theorem O8 {a b:Nat}{c:Int}{lo hi:Nat->List Int}:∀ (k:Nat) (r:List Int),0<=DF a b c lo hi k r/\DF a b c lo hi k r<=(((Au b c).length ^ k:Nat):Int)
 | 0,r=>by
  show 0<=(D3 r).sum/\(D3 r).sum<=_;unfold D3;split <;> simp
 | k + 1,r=>by
  rw [Nj];have ih:=O8 (a:=a) (b:=b) (c:=c) (lo:=lo) (hi:=hi) k;split
  ·unfold Gu;refine ⟨K4 λ q _=>(ih q).1,Fl (RQ (m:=(((Au b c).length ^ k:Nat):Int)) (by omega) λ q _=>(ih q).2) ?_⟩;rw [Sj,Sl,OH];exact Zu (by omega)
  ·omega
theorem Qb {l:List Int} (h1:l.length<=1) (h2:0<=l.sum/\l.sum<=2 ^ 40):ED l=true:=by
 unfold ED;rw [AS,decide_eq_true_iff,jb5];refine ⟨by omega,λ x hx=>?_⟩
 match l,h1,h2,hx with
 | [y],_,h2,hx=>
  rw [jb7.mp hx];simp at h2;rw [AS,decide_eq_true_iff,decide_eq_true_iff];omega
structure BoxN (a b c:Nat):Prop where
 box:BoxT a b c
 hc:1<=c
 bd:(Au b c).length ^ (a + 1)<=2 ^ 40
 ab:a<=30/\b<=30
section
variable {a b c:Nat}{low high:List (List Int)}
def xY:C2 []=λ _=>[]:=rfl
def TN (a b c:Nat) (low high:List (List Int)) (k:Nat) (r:List Int):List Int:=BQ a b c (λ i=>low.getD i []) (λ i=>high.getD i []) (λ _=>[]) k r
def Rf (k:Nat) {r:List Int} (hr:r∈Au b c):(TN a b c low high k r).length<=1:=by
 have:=Ng (a:=a) (b:=b) (c:=c) (lo:=λ i=>low.getD i []) (hi:=λ i=>high.getD i []) (ct:=λ _=>[]) (m:=0) (λ _=>A5 _) (λ _ j hj=>by cases hj) k r hr
 rw [Nat.zero_mul,Nat.mul_zero] at this;exact this
def qK (N:BoxN a b c) {k:Nat} (hk:k<=a + 1):((Au b c).length ^ k:Nat)<=2 ^ 40:=by
 have h1:1<=(Au b c).length:=by
  have:=Nc (b:=b) (c:=c)
  cases e:Au b c with
  | nil=>exact absurd e this
  | cons x l=>simp
 exact Cv (Kz h1 hk) N.bd
def V6 (N:BoxN a b c) {k:Nat} (hk:k<=a) (r:List Int):0<=(TN a b c low high k r).sum/\(TN a b c low high k r).sum<=2 ^ 40:=by
 have h1:=O8 (a:=a) (b:=b) (c:=c) (lo:=λ i=>low.getD i []) (hi:=λ i=>high.getD i []) k r;have h2:(((Au b c).length ^ k:Nat):Int)<=((2 ^ 40:Nat):Int):=by exact_mod_cast qK N (by omega)
 exact ⟨h1.1,Fl h1.2 (by simpa using h2)⟩
def K6 (N:BoxN a b c) (p:Pile a b c low) (q:Pile a b c high):f_must_be_two_piles [bx a b c,tb low,tb high]=.ok (.non,om,.non):=by
 have h1:=N.box.ha;have h2:=N.box.hb;have h3:=N.box.hc;have h4:=N.hc;have h5:=N.ab;exact wX p q (by (clear h4 h3 h2;omega)) (by (clear h4 h3 h1;omega)) (by (clear h5 h2 h1;omega))
def IH (N:BoxN a b c) (p:Pile a b c low) (q:Pile a b c high):f_how_many_between [bx a b c,tb low,tb high]=.ok (.int ((Bp (g low) (g high) c b a).length:Int),om,.non):=by
 have t:=vM N.box p.tab q.tab (ps:=[]) (λ z hz=>by cases hz) (m:=0) (λ i=>A5 _) (by omega) (by simp);have e:(GD a b c low high []).sum=((Bp (g low) (g high) c b a).length:Int):=Pe (by omega) p.lo q.hi;have hl:(GD a b c low high []).length<=1:=JQ λ r hr=>Rf a hr;have hs:(GD a b c low high []).sum<=2 ^ 40:=by
  unfold GD;rw [K9];have h1:=RQ (f:=DF a b c (λ i=>low.getD i []) (λ i=>high.getD i []) a) (m:=(((Au b c).length ^ a:Nat):Int)) (by omega) (l:=Au b c) λ r _=>(O8 a r).2;have h2:(((Au b c).length ^ (a + 1):Nat):Int)<=((2 ^ 40:Nat):Int):=by exact_mod_cast N.bd
  rw [Sj,Sl,OH] at h2;exact Fl h1 (Fl h2 (by decide))
 have so:ED (GD a b c low high [])=true:=Qb hl ⟨by rw [e];(clear hs hl e;omega),hs⟩;rw [<- e];have v1:CY pa7 [some (bx a b c,0),some (tb low,0),some (tb high,0)]=.nx [some (bx a b c,0),some (tb low,0),some (tb high,0)]:=Ie (AQ (xs:=[(bx a b c,0),(tb low,0),(tb high,0)]) rfl (K6 N p q));exact Cg rfl ((AU v1).trans (De (Lc (AK (AQ (xs:=[(bx a b c,0),(tb low,0),(tb high,0),(.lst [],om)]) rfl t)) so)))
def BX (b:Nat) (ah:Nat->Int) (q:List Int):Bool:=(Aq b).all λ i=>decide (q.getD i 0<=ah i)
structure Ahd (b:Nat) (x:PV) (ah:Nat->Int):Prop where
 idx:∀ j,j < b->∀ d e,A3 x d (.int (j:Int)) e=some (.int (ah j),om)
 dv:dv x=0
def V9 {r:List Int} (h:r.length=b):Ahd b (il r) λ i=>r.getD i 0:=⟨λ j hj d e=>by
 show (BE (r.map PV.int) (j:Int)).map _=_;rw [CZ (x:=PV.int (r.getD j 0)) (by omega) (by rw [CD,BW,Dd (by omega)];rfl)]
 rfl,rfl⟩
def zB {r:List Int} (h:r.length=b):Ahd b (Ah r) λ i=>r.getD i 0:=⟨λ j hj d e=>by
 show (BE (r.map PV.int) (j:Int)).map _=_;rw [CZ (x:=PV.int (r.getD j 0)) (by omega) (by rw [CD,BW,Dd (by omega)];rfl)]
 rfl,rfl⟩
def XB {R:List (List Int)}{h:List Int->List Int}{x:PV}{ah:Nat->Int} (A:Ahd b x ah) (hR:∀ q∈R,q.length=b) (hl:R.length<=500000) (hb:b<=1000):∃ d,f_rows_behind [Aj R h,x]=.ok (.lst ((R.filter (BX b ah)).map Ah),d,.non):=by
 have z:=sz;let W:Ae:=[some (Aj R h,0),some (x,0)]
 have test:∀ q∈R,bT pa9 (W++[some (Ah q,dv (Ah q))])=.ok (BX b ah q,W++[some (Ah q,dv (Ah q))]):=λ q hq=>by
  let V:Ae:=W++[some (Ah q,dv (Ah q))];have e0:Ao Fw (Af (Aa 2) (Ac)) V=.ok (.int (b:Int),om,V):=by
   refine C5 (xs:=[(Ah q,0)]) rfl ?_;show some (PV.int ((q.map PV.int).length:Nat),om)=_;rw [AG,hR q hq]
  have e1:=GQ (n:=3) (en:=AY) (fa:=Af (Ao Fw (Af (Aa 2) (Ac))) Ac) (elt:=Ab (BC λ i j=>decide (i<=j)) (Ab A3 (Aa 2) (Aa 3)) (Ab A3 (Aa 1) (Aa 3))) (q:=λ j=>.bl (decide (q.getD j 0<=ah j))) (ρ:=V) (ρ1:=V) (as:=[(.int (b:Int),om)]) (lo:=0) (hi:=(b:Int)) (AK e0) (Et (by (clear z hb hl;omega)) (by omega)) rfl (λ k hk=>by
   have hkb:k < b:=by (clear z hb hl;omega)
   rw [EM];refine CG (p:=λ i j=>decide (i<=j)) (KG (xs:=q) (k:=(k:Int)) (d:=0) (e:=om) rfl rfl (CZ (by (clear hkb hk z hb hl;omega)) (by rw [CD];exact Dd (by rw [hR q hq];exact hkb)))) (d:=om) (e:=om) (BR (x:=x) (d:=dv x) (y:=.int (k:Int)) (e:=om) rfl rfl (A.idx k hkb _ _))) (by omega)
  rw [show ((b:Int) - 0).toNat=b by (clear z hb hl;omega)] at e1;exact AI (all_ok (xs:=Aq b) (g:=λ j=>decide (q.getD j 0<=ah j)) e1)
 have cl:=HS (n:=2) (enc:=Ah) (q:=Ah) (e:=λ _=>0) (p:=BX b ah) (elt:=Aa 2) R W [] rfl test (λ q _ _=>rfl) (by rw [Hz];omega);rw [Ez] at cl;have e:Ih 0 1 (asgN 2) (bT pa9) (Aa 2) W=.ok (.lst ((R.filter (BX b ah)).map Ah),if CB ((R.filter (BX b ah)).map λ q=>(Ah q,0)) then om else 1,W):=by
  show (BY 1 (asgN 2) _ (Aa 2) ((R.map AE).map Bg) W []).bindN _=_;rw [Cu,show (Bg ∘ AE)=Ah from funext Xs,cl];show C4 _ W=_;unfold C4;rw [Cu];rfl
 have hx:dv x=0:=A.dv;refine ⟨if CB ((R.filter (BX b ah)).map λ q=>(Ah q,0)) then om else 1,Cg (ρ':=W) rfl ?_⟩;show Ax _ [some (Aj R h,0),some (x,dv x)]=_;rw [hx];exact De e
def UE (R:List (List Int)) (h:List Int->List Int) (b:Nat) (ah:Nat->Int) (row:List Int):Int:=Am (λ q=>(h q).sum) ((R.filter (BX b ah)).filter λ q=>HT.lexLt q row)
def jm {R:List (List Int)}{h:List Int->List Int}{x:PV}{ah:Nat->Int}{row:List Int} (A:Ahd b x ah) (hR:∀ q∈R,q.length=b) (hl:R.length<=500000) (hb:b<=1000) (hs:∀ q∈R,(h q).length<=1/\0<=(h q).sum/\(h q).sum<=2 ^ 40):f_how_many_ahead_of [Ah row,Aj R h,x]=.ok (.int (UE R h b ah row),om,.non):=by
 have z:=sz;obtain ⟨d,eb⟩:=XB (h:=h) A hR hl hb;have hx:dv x=0:=A.dv;let W:Ae:=[some (Ah row,0),some (Aj R h,0),some (x,dv x)]
 have c1:A2 f_rows_behind pb8 W=.ok (.lst ((R.filter (BX b ah)).map Ah),d,W):=AQ (xs:=[(Aj R h,0),(x,dv x)]) rfl eb;have cf:=Xj (n:=3) (f:=A2 f_rows_behind pb8) (enc:=Ah) (q:=λ q=>.int (h q).sum) (p:=λ q=>HT.lexLt q row) (test:=bT (Ab FQ (Aa 3) (Aa 0))) (elt:=Ao Es pf5) (ρ:=W) (ρ1:=W) (R.filter (BX b ah)) c1 rfl (λ q hq=>by
  refine AI (d:=om) (BR (x:=Ah q) (y:=Ah row) (d:=0) (e:=0) rfl rfl ?_);show (match DX (q.map PV.int),DX (row.map PV.int) with | some a,some b=>some (PV.bl (HT.lexLt a b),om) | _,_=>none)=_;rw [JG,JG]) (λ q hq _=>by
  have hq':=(jd3.mp hq).1;exact Lc (AK (KC (f:=Aa 1) (g:=Aa 3) (R:=R) (h:=h) (r:=q) (d:=0) (e:=0) rfl rfl hq')) (Qb (hs q hq').1 (hs q hq').2)) (by
  have:=Mn (BX b ah) R
  omega)
 let L:=(R.filter (BX b ah)).filter λ q=>HT.lexLt q row;have e2:(L.map λ q=>PV.int (h q).sum)=(L.map λ q=>(h q).sum).map PV.int:=by rw [Cu];rfl
 have so:ED (L.map λ q=>(h q).sum)=true:=by
  unfold ED;rw [AS,decide_eq_true_iff,jb5];have l1:=Mn (λ q=>HT.lexLt q row) (R.filter (BX b ah));have l2:=Mn (BX b ah) R;refine ⟨?_,λ y hy=>?_⟩
  ·rw [AG]
   have:(500000:Nat)<=2 ^ 20:=by decide
   show L.length<=_;have l1':L.length<=(R.filter (BX b ah)).length:=l1
   (clear this l1 hx z hb;omega)
  ·obtain ⟨q,hq,rfl⟩:=jd4.mp hy;have hq':=(jd3.mp (jd3.mp hq).1).1
   have:=(hs q hq').2
   rw [AS,decide_eq_true_iff,decide_eq_true_iff]
   (clear l2 l1 hx z hb hl;omega)
 have e3:Cf (A2 f_rows_behind pb8) 1 (asgN 3) (bT (Ab FQ (Aa 3) (Aa 0))) (Ao Es pf5) W=.ok (il (L.map λ q=>(h q).sum),om,W):=by
  rw [cf];show Rz.ok (PV.lst (L.map λ q=>PV.int (h q).sum),om,W)=_;rw [e2];rfl
 exact Cg (ρ':=W) rfl (De (Lc (AK e3) so))
end
def Th {g:Int->Int->Int}{sd:Bool}{i:Nat}{f:Fx}{ρ ρ1 ρ2:Ae}{a b:Int}{d e:Nat} (h0:ρ[i]?=some (some (.int a,d))) (h:f ρ=.ok (.int b,e,ρ1)) (hi:i < ρ1.length) (e2:ρ1.set i (some (.int (g a b),om))=ρ2):Dv g sd i f ρ=.nx ρ2:=by
 unfold Dv;rw [h0];dsimp only;rw [h];dsimp only;rw [if_pos hi,e2]
theorem Qe {α:Type}{f h:α->PV}:∀ l:List α,By (l.map f) (l.map h)=l.map λ x=>.tup [f x,h x]
 | []=>rfl
 | x::l=>by rw [AR,AR,By,Qe l,AR]
def XZ {α:Type} (F:Nat->α) (a:Nat):((Aq a).map F).reverse=(Aq a).map λ j=>F (a - 1 - j):=by
 apply Mg (by simp);intro i h1 h2;simp
def wR {t:List (List Int)}:t.map il=(Aq t.length).map λ j=>il (t.getD j []):=by
 apply Mg (by simp);intro i h1 h2;simp at h1;simp [AL,h1]
section
variable {a b c:Nat}{low high pile:List (List Int)}
def HJ (b c:Nat) (pile:List (List Int)):Nat->List Int
 | 0=>AB b (c:Int)
 | i + 1=>pile.getD i []
def Bn (a b c:Nat) (low high pile:List (List Int)) (i:Nat):Int:=UE (Au b c) (TN a b c low high (a - i)) b (λ j=>(HJ b c pile i).getD j 0) (pile.getD i [])
def CT (a b c:Nat) (low high pile:List (List Int)):Int:=Am (Bn a b c low high pile) (Aq a)
def wc (N:BoxN a b c) (p:Pile a b c low) (q:Pile a b c high) (r:Pile a b c pile) (h1:Di a b low pile=true) (h2:Di a b pile high=true):f_number_between [bx a b c,tb low,tb high,tb pile]=.ok (.int (CT a b c low high pile),om,.non):=by
 have z:=sz;have ha:=N.box.ha;have hb:=N.box.hb;have hc:=N.box.hc;have hab:=N.ab;have hc1:=N.hc;let L (s4 s5 s6 s7:QQ.Slot):Ae:=[some (bx a b c,0),some (tb low,0),some (tb high,0),some (tb pile,0),s4,s5,s6,s7]
 let W0:Ae:=L none none none none;have v1:CY pa7 W0=.nx W0:=Ie (AQ (xs:=[(bx a b c,0),(tb low,0),(tb high,0)]) rfl (K6 N p q));have mp:f_must_be_pile [bx a b c,tb pile]=.ok (.non,om,.non):=Py r.tab (by (clear hc1 hab hc hb z;omega)) (by (clear hc1 hab hc ha z;omega)) (by (clear hab hc hb ha z;omega)) ((Pm r.tab).mpr r);have v2:CY pg7 W0=.nx W0:=Ie (AQ (xs:=[(bx a b c,0),(tb pile,0)]) rfl mp);have l1:=Wo p.tab r.tab (by (clear hc1 hab hc hb z;omega)) (by (clear hc1 hab hc ha z;omega)) (K6 N p r);have l2:=Wo r.tab q.tab (by (clear hc1 hab hc hb z;omega)) (by (clear hc1 hab hc ha z;omega)) (K6 N r q);rw [h1] at l1;rw [h2] at l2;have t3:bT pc8 W0=.ok (false,W0):=AI (Hj (a:=false) (b:=false) (GU (b:=true) (d:=om) (AQ (xs:=[(bx a b c,0),(tb low,0),(tb pile,0)]) rfl l1)) (λ _=>GU (b:=true) (d:=om) (AQ (xs:=[(bx a b c,0),(tb pile,0),(tb high,0)]) rfl l2)) rfl);have v4:Al false 4 (bC (.int 0)) [] W0=.nx (L (some (.int 0,om)) none none none):=rfl;have v5:Al false 5 (Ab BU (Ao BG (Af pc1 (Ac))) pb1) [0,0] (L (some (.int 0,om)) none none none)=.nx (L (some (.int 0,om)) (some (il (AB b (c:Int)),om)) none none):=BV (R4 (v:=(c:Int)) (n:=b) (d:=om) (e:=om) rfl rfl (by (clear hc1 hab hc ha z;omega))) (show 5 < 8 by decide) rfl;obtain ⟨dt,ht⟩:=Qc N.box p.tab q.tab (ps:=[]) (λ z hz=>by cases hz) (m:=0) (λ i=>A5 _) (by (clear hc1 hab hc hb ha z;omega)) (by simp);have et:(List.map (λ k=>Aj (Au b c) (BQ a b c (λ i=>low.getD i []) (λ i=>high.getD i []) (C2 []) (k + 1))) (Aq a)).reverse=(Aq a).map λ j=>Aj (Au b c) (TN a b c low high (a - j)):=by
  rw [XZ];apply J1;intro j hj
  have:=jc4.mp hj
  show Aj _ (TN a b c low high (a - 1 - j + 1))=_;rw [show a - 1 - j + 1=a - j by (clear hc1 hab hc hb ha z;omega)]
 rw [et] at ht;have er:pile.map il=(Aq a).map λ j=>il (pile.getD j []):=by rw [wR,r.tab.1]
 let els:List PV:=(Aq a).map λ j=>.tup [Aj (Au b c) (TN a b c low high (a - j)),il (pile.getD j [])];have hz:By ((Aq a).map λ j=>Aj (Au b c) (TN a b c low high (a - j))) (pile.map il)=els:=by rw [er,Qe]
 have hR:∀ x∈Au b c,x.length=b:=λ x hx=>(zqp.mp hx).len;obtain ⟨ρ',e6,d5,s6,s7,rfl⟩:=Xq (v:=.zp) (fa:=Af (A2 f_tables_between pb9) (Af (Aa 3) (Ac))) (vs:=[0,1,2,3]) (asg:=asgT [6,7]) (body:=pc9) (ρ:=L (some (.int 0,om)) (some (il (AB b (c:Int)),om)) none none) (ρ1:=L (some (.int 0,om)) (some (il (AB b (c:Int)),om)) none none) (ρ2:=L (some (.int 0,om)) (some (il (AB b (c:Int)),om)) none none) (xs:=[(.lst ((Aq a).map λ j=>Aj (Au b c) (TN a b c low high (a - j))),dt),(tb pile,0)]) (els:=els)
  (λ j ρ=>∃ d5 s6 s7,ρ=L (some (.int (Am (Bn a b c low high pile) (Aq j)),om)) (some (il (HJ b c pile j),d5)) s6 s7) (AD (AQ (xs:=[(bx a b c,0),(tb low,0),(tb high,0),(.lst [],om)]) rfl ht) (AK rfl)) (by show some (By _ (pile.map il))=_;rw [hz]) (by
   have hal:CB [((PV.lst ((Aq a).map λ j=>Aj (Au b c) (TN a b c low high (a - j)))),dt),(tb pile,0)]=false:=by
    unfold CB;rw [show CB [(tb pile,0)]=false from rfl,Jx]
   rw [hal];rfl) ⟨om,none,none,rfl⟩ (by
  rintro j x _ hx ⟨d5,s6,s7,rfl⟩;have hj:j < a:=by
   have:=(jb1.mp hx).1
   simpa [els] using this
  have ex:x=.tup [Aj (Au b c) (TN a b c low high (a - j)),il (pile.getD j [])]:=by
   have:els[j]?=some (.tup [Aj (Au b c) (TN a b c low high (a - j)),il (pile.getD j [])]):=by
    show ((Aq a).map _)[j]?=_;rw [BW,HB hj];rfl
   rw [this] at hx;exact (Option.some.inj hx).symm
  subst ex;let n:=Am (Bn a b c low high pile) (Aq j);let V:Ae:=L (some (.int n,om)) (some (il (HJ b c pile j),d5)) (some (Aj (Au b c) (TN a b c low high (a - j)),0)) (some (il (pile.getD j []),0));have hal:(HJ b c pile j).length=b:=by
   cases j with
   | zero=>exact El
   | succ i=>exact Tab.row r.tab (by (clear hc1 hab hc hb ha z;omega))
  have cl:A2 f_how_many_ahead_of pf6 V=.ok (.int (Bn a b c low high pile j),om,V):=AQ (xs:=[(Ah (pile.getD j []),0),(Aj (Au b c) (TN a b c low high (a - j)),0),(il (HJ b c pile j),0)]) (AD (C5 (xs:=[(il (pile.getD j []),0)]) rfl rfl) rfl) (jm (V9 hal) hR (N.box.rl b (A5 _)) (by (clear hal hj hc1 hab hc ha z;omega)) (λ y hy=>⟨Rf _ hy,V6 N (by (clear hal hj hc1 hab hc hb ha z;omega)) y⟩));refine ⟨V,_,rfl,(AU (Th (a:=n) (d:=om) rfl cl (show 4 < 8 by decide) rfl)).trans (BV (x:=il (pile.getD j [])) (d:=0) rfl (show 5 < 8 by decide) rfl),0,some (Aj (Au b c) (TN a b c low high (a - j)),0),some (il (pile.getD j []),0),?_⟩;rw [FW,IL];show L (some (.int (n + Bn a b c low high pile j),om)) _ _ _=L (some (.int (n + (Bn a b c low high pile j + 0)),om)) _ _ _;rw [Sk]
  rfl)
 have hel:els.length=a:=by simp [els]
 rw [hel] at e6;exact Cg rfl ((AU v1).trans ((AU v2).trans ((DZ t3).trans ((AU v4).trans ((AU v5).trans ((AU e6).trans rfl))))))
end
structure HV (L:List (Option PV)) (O:List Nat) (ρ:Ae):Prop where
 len:ρ.length=L.length
 get:∀ (j:Nat) (x:PV),L[j]?=some (some x)->∃ d,ρ[j]?=some (some (x,d))
 own:∀ j∈O,∃ x d,ρ[j]?=some (some (x,d))/\d≠0
section
variable {L L':List (Option PV)}{O O':List Nat}{ρ:Ae}
theorem HV.of (ρ:Ae):HV (ρ.map λ s=>s.map (·.1)) [] ρ:=by
 refine ⟨by rw [AG],λ j x h=>?_,λ _ h=>nomatch h⟩;rw [BW] at h;cases e:ρ[j]? with
 | none=>rw [e] at h;cases h
 | some s=>
  rw [e] at h;cases s with
  | none=>cases h
  | some p=>obtain ⟨y,d⟩:=p;cases h;exact ⟨d,rfl⟩
def HV.var {j:Nat}{x:PV} (h:HV L O ρ) (e:L[j]?=some (some x)):Aa j ρ=.ok (x,dv x,ρ):=by
 obtain ⟨d,e⟩:=h.get j x e;unfold Aa;rw [e]
def HV.push {x:PV}{d:Nat} (h:HV L O ρ):HV (L++[some x]) O (ρ++[some (x,d)]):=by
 have hl:=h.len;refine ⟨by rw [BI,BI,hl];rfl,λ j y e=>?_,λ j hj=>?_⟩
 ·by_cases hj:j < L.length
  ·rw [CF hj] at e;obtain ⟨d,e⟩:=h.get j y e;exact ⟨d,by rw [CF (by omega)];exact e⟩
  ·rw [FZ (by omega)] at e;rw [FZ (by omega),hl];cases hk:j - L.length with
   | zero=>rw [hk] at e;cases e;exact ⟨d,rfl⟩
   | succ n=>rw [hk] at e;cases e
 ·obtain ⟨y,d,e,hd⟩:=h.own j hj;exact ⟨y,d,by rw [CF (jb1.mp e).1];exact e,hd⟩
def Wk:List (Option PV)->List (Option PV)->Prop
 | [],[]=>True
 | none::a,_::b=>Wk a b
 | some x::a,some y::b=>x=y/\Wk a b
 | _,_=>False
theorem Wk.get:∀ {a b:List (Option PV)},Wk a b->a.length=b.length/\∀ (j:Nat) (x:PV),a[j]?=some (some x)->b[j]?=some (some x)
 | [],[],_=>⟨rfl,λ j x h=>by cases h⟩
 | none::a,y::b,h=>by
  obtain ⟨h1,h2⟩:=Wk.get (a:=a) (b:=b) (by cases y <;> exact h);refine ⟨by rw [Ba,Ba,h1],λ j x e=>?_⟩;cases j with
  | zero=>cases e
  | succ j=>exact h2 j x e
 | some x::a,some y::b,h=>by
  obtain ⟨h0,h⟩:x=y/\Wk a b:=h;obtain ⟨h1,h2⟩:=Wk.get h;refine ⟨by rw [Ba,Ba,h1],λ j z e=>?_⟩;cases j with
  | zero=>rw [<- h0];exact e
  | succ j=>exact h2 j z e
 | some x::a,none::b,h=>h.elim
 | [],_::_,h=>h.elim
 | some _::_,[],h=>h.elim
 | none::_,[],h=>h.elim
def HV.weak (h:HV L O ρ) (w:Wk L' L) (ho:∀ j∈O',j∈O):HV L' O' ρ:=⟨h.len.trans w.get.1.symm,λ j x e=>h.get j x (w.get.2 j x e),λ j hj=>h.own j (ho j hj)⟩
def Xl {d j e:Nat}{vs:List Nat}{x:PV} (h:ρ[j]?=some (some (x,e))):∃ e',(AZ d vs ρ)[j]?=some (some (x,e')):=by
 unfold AZ;split
 ·exact ⟨e,h⟩
 ·rw [IG,h];dsimp only [Yh];split
  ·exact ⟨0,rfl⟩
  ·exact ⟨e,rfl⟩
def VQ {d:Nat}{vs:List Nat}{ρ:Ae}:(AZ d vs ρ).length=ρ.length:=by
 unfold AZ;split
 ·rfl
 ·exact MX vs ρ 0
def HV.cool {d:Nat}{vs:List Nat} (h:HV L O ρ):HV L [] (AZ d vs ρ):=⟨by rw [VQ];exact h.len,λ j x e=>by
 obtain ⟨d',e⟩:=h.get j x e;exact Xl e,λ _ h=>nomatch h⟩
def HV.coolO {vs:List Nat} (h:HV L O ρ):HV L O (AZ om vs ρ):=by
 unfold AZ;rw [if_pos rfl];exact h
def HV.put {i d:Nat}{x:PV} (h:HV L O ρ) (hi:i < L.length) (ho:i∉O\/d≠0):HV (L.set i (some x)) O (ρ.set i (some (x,d))):=by
 have hl:=h.len;refine ⟨by rw [DN,DN,hl],λ j y e=>?_,λ j hj=>?_⟩
 ·by_cases hj:i=j
  ·subst hj;rw [DU hi] at e;cases e;exact ⟨d,DU (by omega)⟩
  ·rw [CV hj] at e;rw [CV hj];exact h.get j y e
 ·by_cases hij:i=j
  ·subst hij;rcases ho with ho | ho
   ·exact absurd hj ho
   ·exact ⟨x,d,DU (by omega),ho⟩
  ·rw [CV hij];exact h.own j hj
def HV.putO {i d:Nat}{x:PV} (h:HV L O ρ) (hi:i < L.length) (hd:d≠0):HV (L.set i (some x)) (i::O) (ρ.set i (some (x,d))):=by
 have h1:=h.put (x:=x) (d:=d) hi (.inr hd);refine ⟨h1.len,h1.get,λ j hj=>?_⟩;rcases jc3.mp hj with rfl | hj
 ·exact ⟨x,d,DU (by rw [h.len];exact hi),hd⟩
 ·exact h1.own j hj
def HV.set {i d:Nat}{f:Fx}{vs:List Nat}{x:PV} (h:HV L O ρ) (hf:f ρ=.ok (x,d,ρ)) (hi:i < L.length):∃ ρ',Al false i f vs ρ=.nx ρ'/\HV (L.set i (some x)) [] ρ':=⟨_,BV hf (by rw [h.len];exact hi) rfl,(h.cool).put hi (.inl (λ h=>nomatch h))⟩
def HV.setO {i:Nat}{f:Fx}{vs:List Nat}{x:PV} (h:HV L O ρ) (hf:f ρ=.ok (x,om,ρ)) (hi:i < L.length):∃ ρ',Al false i f vs ρ=.nx ρ'/\HV (L.set i (some x)) O ρ':=⟨_,BV hf (by rw [h.len];exact hi) rfl,(h.coolO).put hi (.inr (by decide))⟩
def HV.setN {i:Nat}{f:Fx}{vs:List Nat}{x:PV} (h:HV L O ρ) (hf:f ρ=.ok (x,om,ρ)) (hi:i < L.length):∃ ρ',Al false i f vs ρ=.nx ρ'/\HV (L.set i (some x)) (i::O) ρ':=⟨_,BV hf (by rw [h.len];exact hi) rfl,(h.coolO).putO hi (by decide)⟩
def HV.app {i:Nat}{f:Fx}{vs:List Nat}{xs:List PV}{y:PV} (h:HV L O ρ) (hx:L[i]?=some (some (.lst xs))) (ho:i∈O) (hf:f ρ=.ok (y,om,ρ)) (hl:xs.length < A0):∃ ρ',C1 i f vs ρ=.nx ρ'/\HV (L.set i (some (.lst (xs++[y])))) O ρ':=by
 obtain ⟨x,d,e,hd⟩:=h.own i ho;obtain ⟨d',e'⟩:=h.get i _ hx;rw [e] at e';cases e';obtain ⟨d0,rfl⟩:∃ d0,d=d0 + 1:=⟨d - 1,by omega⟩
 have hi:i < L.length:=(jb1.mp hx).1;have c:AZ om vs ρ=ρ:=by unfold AZ;rw [if_pos rfl]
 exact ⟨_,Rg (d:=d0 + 1) e hf (by rw [c];exact e) hd hl rfl,by rw [c];exact h.put hi (.inr (by split <;> decide))⟩
def HV.asgN {i:Nat} (x:PV) (h:HV L O ρ) (hi:i < L.length) (ho:i∉O):∃ ρ',asgN i x ρ=some ρ'/\HV (L.set i (some x)) O ρ':=by
 refine ⟨_,?_,h.put (x:=x) (d:=dv x) hi (.inl ho)⟩;unfold QQ.asgN;rw [if_pos (by rw [h.len];exact hi)]
def HV.asg3 {i j k:Nat} (x y z:PV) (h:HV L O ρ) (hi:i < L.length) (hj:j < L.length) (hk:k < L.length) (ho:i∉O/\j∉O/\k∉O):∃ ρ',asgT [i,j,k] (.tup [x,y,z]) ρ=some ρ'/\HV (((L.set i (some x)).set j (some y)).set k (some z)) O ρ':=by
 have hl:=h.len;refine ⟨((ρ.set i (some (x,dv x))).set j (some (y,dv y))).set k (some (z,dv z)),?_,((h.put hi (.inl ho.1)).put (by rw [DN];exact hj) (.inl ho.2.1)).put (by rw [DN,DN];exact hk) (.inl ho.2.2)⟩;unfold QQ.asgT;dsimp only;rw [CA,QQ.asgN,if_pos (by omega)];show CA [j,k] [y,z] _=_;rw [CA,QQ.asgN,if_pos (by rw [DN];omega)];show CA [k] [z] _=_;rw [CA,QQ.asgN,if_pos (by rw [DN,DN];omega)];rfl
def HV.asg2 {i j:Nat} (x y:PV) (h:HV L O ρ) (hi:i < L.length) (hj:j < L.length) (ho:i∉O/\j∉O):∃ ρ',asgT [i,j] (.tup [x,y]) ρ=some ρ'/\HV ((L.set i (some x)).set j (some y)) O ρ':=by
 have hl:=h.len;refine ⟨(ρ.set i (some (x,dv x))).set j (some (y,dv y)),?_,(h.put hi (.inl ho.1)).put (by rw [DN];exact hj) (.inl ho.2)⟩;unfold QQ.asgT;dsimp only;rw [CA,QQ.asgN,if_pos (by omega)];show CA [j] [y] _=_;rw [CA,QQ.asgN,if_pos (by rw [DN];omega)];rfl
theorem IB {asg:PV->Ae->Option Ae}{body:Fs}:∀ (els:List PV) (I:Nat->Ae->Prop) (ρ:Ae),I 0 ρ->(∀ j x ρ,els[j]?=some x->I j ρ->∃ ρ1 ρ2,asg x ρ=some ρ1/\body ρ1=.nx ρ2/\I (j + 1) ρ2)->∃ ρ',BS asg body els ρ=.nx ρ'/\I els.length ρ'
 | [],I,ρ,h0,_=>⟨ρ,rfl,h0⟩
 | x::els,I,ρ,h0,hs=>by
  obtain ⟨ρ1,ρ2,e1,e2,h2⟩:=hs 0 x ρ rfl h0;obtain ⟨ρ',e,h⟩:=IB els (λ j=>I (j + 1)) ρ2 h2 λ j y ρ hj=>hs (j + 1) y ρ hj;exact ⟨ρ',by rw [BS,e1];dsimp only;rw [e2];exact e,h⟩
def HV.coolK {d:Nat}{vs:List Nat} (h:HV L O ρ) (hv:∀ j∈O,vs.contains j=false):HV L O (AZ d vs ρ):=⟨by rw [VQ];exact h.len,λ j x e=>by
 obtain ⟨d',e⟩:=h.get j x e;exact Xl e,λ j hj=>by
 obtain ⟨x,d',e,hd⟩:=h.own j hj;refine ⟨x,d',?_,hd⟩;unfold AZ;split
 ·exact e
 ·rw [IG,Jw,hv j hj,e];rfl⟩
def HV.setK {i d:Nat}{f:Fx}{vs:List Nat}{x:PV} (h:HV L O ρ) (hf:f ρ=.ok (x,d,ρ)) (hi:i < L.length) (hv:∀ j∈O,vs.contains j=false) (ho:i∉O):∃ ρ',Al false i f vs ρ=.nx ρ'/\HV (L.set i (some x)) O ρ':=⟨_,BV hf (by rw [h.len];exact hi) rfl,(h.coolK hv).put hi (.inl ho)⟩
def HV.unp2 {i j:Nat}{f:Fx}{vs:List Nat}{x y:PV}{d:Nat} (h:HV L O ρ) (hf:f ρ=.ok (.tup [x,y],d,ρ)) (hi:i < L.length) (hj:j < L.length) (hv:∀ j∈O,vs.contains j=false) (ho:i∉O/\j∉O):∃ ρ',Cp (QQ.asgT [i,j]) f vs ρ=.nx ρ'/\HV ((L.set i (some x)).set j (some y)) O ρ':=by
 obtain ⟨ρ',e,h'⟩:=(h.coolK (d:=d) hv).asg2 x y hi hj ho;exact ⟨ρ',VH hf e,h'⟩
def HV.aug {i:Nat}{g:Int->Int->Int}{sd:Bool}{f:Fx}{a b:Int}{e:Nat} (h:HV L O ρ) (hx:L[i]?=some (some (.int a))) (hf:f ρ=.ok (.int b,e,ρ)):∃ ρ',Dv g sd i f ρ=.nx ρ'/\HV (L.set i (some (.int (g a b)))) O ρ':=by
 obtain ⟨d,e0⟩:=h.get i _ hx;have hi:i < L.length:=(jb1.mp hx).1;refine ⟨ρ.set i (some (.int (g a b),om)),?_,h.put hi (.inr (by decide))⟩;unfold Dv;rw [e0];dsimp only;rw [hf];dsimp only;rw [if_pos (by rw [h.len];exact hi)]
def Gv (s:Fs) (ρ:Ae) (y:PV):Prop:=∃ d ρ',s ρ=.rt y d ρ'
def Gv.nx {s r:Fs}{ρ1:Ae}{y:PV} (e:s ρ=.nx ρ1) (h:Gv r ρ1 y):Gv (Ag s r) ρ y:=by
 obtain ⟨d,ρ',h⟩:=h;exact ⟨d,ρ',(AU e).trans h⟩
def Gv.ex {s r:Fs}{P:Ae->Prop}{y:PV} (e:∃ ρ1,s ρ=.nx ρ1/\P ρ1) (h:∀ ρ1,P ρ1->Gv r ρ1 y):Gv (Ag s r) ρ y:=by
 obtain ⟨ρ1,e,p⟩:=e;exact Gv.nx e (h ρ1 p)
def Gv.no {c:Fb}{f r:Fs}{y:PV} (hc:c ρ=.ok (false,ρ)) (h:Gv r ρ y):Gv (Ag (BH c f AJ) r) ρ y:=by
 obtain ⟨d,ρ',h⟩:=h;exact ⟨d,ρ',(DZ hc).trans h⟩
def Gv.ret {f:Fx}{ρ1:Ae}{d:Nat}{y:PV} (h:f ρ=.ok (y,d,ρ1)):Gv (Ax f) ρ y:=⟨_,_,De h⟩
def Gv.fn {np k:Nat}{b:Fs}{xs:List PV}{y:PV} (hl:xs.length=np) (h:Gv b (xs.map (λ x=>some (x,dv x))++AB k none) y):∃ d z,Ay false np k b xs=.ok (y,d,z):=by
 obtain ⟨d,ρ',h⟩:=h;exact ⟨_,_,Cg hl h⟩
def HV.unp3 {i j k:Nat}{f:Fx}{vs:List Nat}{x y z:PV}{d:Nat} (h:HV L O ρ) (hf:f ρ=.ok (.tup [x,y,z],d,ρ)) (hi:i < L.length) (hj:j < L.length) (hk:k < L.length):∃ ρ',Cp (asgT [i,j,k]) f vs ρ=.nx ρ'/\HV (((L.set i (some x)).set j (some y)).set k (some z)) [] ρ':=by
 obtain ⟨ρ',e,h'⟩:=(h.cool (d:=d) (vs:=vs)).asg3 x y z hi hj hk ⟨λ h=>(nomatch h),λ h=>(nomatch h),λ h=>(nomatch h)⟩;exact ⟨ρ',VH hf e,h'⟩
def HV.appK {i e:Nat}{f:Fx}{vs:List Nat}{xs:List PV}{y:PV} (h:HV L O ρ) (hx:L[i]?=some (some (.lst xs))) (ho:i∈O) (hv:vs.contains i=false) (hf:f ρ=.ok (y,e,ρ)) (hl:xs.length < A0):∃ ρ',C1 i f vs ρ=.nx ρ'/\HV (L.set i (some (.lst (xs++[y])))) [i] ρ':=by
 obtain ⟨x,d,e0,hd⟩:=h.own i ho;obtain ⟨d',e'⟩:=h.get i _ hx;rw [e0] at e';cases e';obtain ⟨d0,rfl⟩:∃ d0,d=d0 + 1:=⟨d - 1,by omega⟩
 have hi:i < L.length:=(jb1.mp hx).1;have c:(AZ e vs ρ)[i]?=some (some (.lst xs,d0 + 1)):=by
  unfold AZ;split
  ·exact e0
  ·rw [IG,Jw,hv,e0];rfl
 exact ⟨_,Rg (d:=d0 + 1) e0 hf c hd hl rfl,(h.cool (d:=e) (vs:=vs)).putO hi (by split <;> decide)⟩
def Nx (s:Fs) (ρ:Ae) (P:Ae->Prop):Prop:=∃ ρ',s ρ=.nx ρ'/\P ρ'
section
variable {P Q:Ae->Prop}{s r:Fs}
def Nx.seq (h:Nx s ρ P) (k:∀ ρ',P ρ'->Nx r ρ' Q):Nx (Ag s r) ρ Q:=by
 obtain ⟨ρ1,e,p⟩:=h;obtain ⟨ρ2,e2,q⟩:=k ρ1 p;exact ⟨ρ2,(AU e).trans e2,q⟩
def Nx.mono (h:Nx s ρ P) (k:∀ ρ',P ρ'->Q ρ'):Nx s ρ Q:=by
 obtain ⟨ρ1,e,p⟩:=h;exact ⟨ρ1,e,k ρ1 p⟩
def Nx.yes {c:Fb} (hc:c ρ=.ok (true,ρ)) (h:Nx s ρ P):Nx (BH c s r) ρ P:=by
 obtain ⟨ρ1,e,p⟩:=h;exact ⟨ρ1,(CJ hc).trans e,p⟩
def Nx.no {c:Fb} (hc:c ρ=.ok (false,ρ)) (h:P ρ):Nx (BH c s AJ) ρ P:=⟨ρ,(CK hc).trans rfl,h⟩
def Nx.loop {asg:PV->Ae->Option Ae}{els:List PV} (I:Nat->Ae->Prop) (h0:I 0 ρ) (hs:∀ k x ρ,els[k]?=some x->I k ρ->∃ ρ1,asg x ρ=some ρ1/\Nx s ρ1 (I (k + 1))):∃ ρ',BS asg s els ρ=.nx ρ'/\I els.length ρ':=IB els I ρ h0 λ k x ρ e h=>by
 obtain ⟨ρ1,e1,ρ2,e2,h2⟩:=hs k x ρ e h;exact ⟨ρ1,ρ2,e1,e2,h2⟩
def kM {n k:Nat}{x:PV} (hx:((Aq n).map λ (k:Nat)=>PV.int (k:Int))[k]?=some x):k < n/\x=.int (k:Int):=by
 rw [BW] at hx;by_cases hk:k < n
 ·rw [HB hk] at hx;cases hx;exact ⟨hk,rfl⟩
 ·rw [E1 (by rw [DT];omega)] at hx;cases hx
def Nx.forR {asg:PV->Ae->Option Ae}{f:Fx}{n d:Nat} (I:Nat->Ae->Prop) (hf:f ρ=.ok (.int (n:Int),d,ρ)) (hn:n<=1000) (h0:I 0 ρ) (hs:∀ k ρ,k < n->I k ρ->∃ ρ1,asg (.int (k:Int)) ρ=some ρ1/\Nx s ρ1 (I (k + 1))):Nx (CQ AY (Af f Ac) asg s) ρ (I n):=by
 obtain ⟨ρ',e,h⟩:=Nx.loop (els:=(Aq n).map λ (k:Nat)=>.int (k:Int)) I h0 λ k x ρ hx h=>by
  obtain ⟨hk,rfl⟩:=kM hx;exact hs k ρ hk h
 rw [AG,DT] at h;exact ⟨ρ',MJ (AK hf) (Et (by omega) (by omega)) e,h⟩
def Ge (s:Fs) (ρ:Ae) (P:PV->Prop):Prop:=∃ y d ρ',s ρ=.rt y d ρ'/\P y
def Ge.ex {R:PV->Prop} (h:Nx s ρ P) (k:∀ ρ',P ρ'->Ge r ρ' R):Ge (Ag s r) ρ R:=by
 obtain ⟨ρ1,e,p⟩:=h;obtain ⟨y,d,ρ',e',q⟩:=k ρ1 p;exact ⟨y,d,ρ',(AU e).trans e',q⟩
def Ge.retV {R:PV->Prop}{i:Nat}{x:PV} (h:HV L O ρ) (e:L[i]?=some (some x)) (p:R x):Ge (DE i) ρ R:=by
 obtain ⟨d,e⟩:=h.get i x e;exact ⟨x,d,ρ,by unfold DE;rw [e],p⟩
def Ge.fn {R:PV->Prop}{np k:Nat}{b:Fs}{xs:List PV} (hl:xs.length=np) (h:Ge b (xs.map (λ x=>some (x,dv x))++AB k none) R):∃ y d,Ay false np k b xs=.ok (y,d,.non)/\R y:=by
 obtain ⟨y,d,ρ',h,p⟩:=h;exact ⟨y,d,Cg hl h,p⟩
end
end
theorem KI:∀ r q:List Int,HT.lexLt r q=BO r q
 | [],[]=>rfl
 | [],_::_=>rfl
 | _::_,[]=>rfl
 | x::r,y::q=>by
  rw [HT.lexLt_cons,BO,KI r q];by_cases h:x=y
  ·subst h;simp
  ·simp [h]
theorem XT:∀ {r q s:List Int},BO r q=true->BO q s=true->BO r s=true
 | [],[],_,h,_=>by cases h
 | _::_,[],_,h,_=>by cases h
 | _,_::_,[],_,h=>by cases h
 | [],_::_,_::_,_,_=>rfl
 | x::r,y::q,z::s,h1,h2=>by
  simp only [BO,EN,AS,decide_eq_true_iff] at h1 h2 ⊢;rcases h1 with h1 | ⟨h1,h1'⟩ <;> rcases h2 with h2 | ⟨h2,h2'⟩
  ·exact .inl (by omega)
  ·exact .inl (by omega)
  ·exact .inl (by omega)
  ·exact .inr ⟨by omega,XT h1' h2'⟩
theorem Wr:∀ {r q:List Int},r.length=q.length->r≠q->BO r q=true\/BO q r=true
 | [],[],_,h=>absurd rfl h
 | [],_::_,e,_=>by cases e
 | _::_,[],e,_=>by cases e
 | x::r,y::q,e,h=>by
  simp only [BO,EN,AS,decide_eq_true_iff];by_cases e1:x=y
  ·subst e1;rcases Wr (r:=r) (q:=q) (by simpa using e) (λ e2=>h (by rw [e2])) with h2 | h2
   ·exact .inl (.inr ⟨rfl,h2⟩)
   ·exact .inr (.inr ⟨rfl,h2⟩)
  ·rcases Int.lt_or_gt_of_ne e1 with h2 | h2
   ·exact .inl (.inl h2)
   ·exact .inr (.inl h2)
def Xo {l1 l2:List (List Int)}{r:List Int} (h:(l1++r::l2).Pairwise λ r q=>BO r q=true):(l1++r::l2).filter (λ q=>HT.lexLt q r)=l1:=by
 rw [SF] at h;obtain ⟨_,h2,h3⟩:=h;rw [jf8] at h2;rw [YA,je3.mpr λ q hq=>by rw [KI];exact h3 q hq r AF,ji7.mpr λ q hq=>?_,J0];rw [KI];rcases jc3.mp hq with rfl | hq
 ·rw [KJ];exact Ck
 ·rw [PH (h2.1 q hq)];exact Ck
section
variable {a b c:Nat}{low high t u:List (List Int)}
def cN (a b c:Nat) (low high:List (List Int)) (k:Nat) (ah:Nat->Int):Int:=Gu a b c (λ i=>low.getD i []) (λ i=>high.getD i []) k ah
def wN (a b c:Nat) (low high:List (List Int)) (k:Nat) (r:List Int):Int:=DF a b c (λ i=>low.getD i []) (λ i=>high.getD i []) k r
def Dz (b c:Nat) (t:List (List Int)) (i:Nat):Nat->Int:=λ j=>(HJ b c t i).getD j 0
def Qd (k:Nat) (r:List Int):0<=wN a b c low high k r:=(O8 k r).1
def U1 (k:Nat) (ah:Nat->Int):cN a b c low high k ah=Am (wN a b c low high k) ((Au b c).filter (BX b ah)):=rfl
def RW {k:Nat}{r:List Int} (h:C9 b (low.getD (a - 1 - k) []) r (high.getD (a - 1 - k) [])=true):wN a b c low high (k + 1) r=cN a b c low high k (λ j=>r.getD j 0):=by
 unfold wN;rw [Nj,if_pos h];rfl
def xM {k:Nat}{r:List Int} (h:0 < wN a b c low high (k + 1) r):C9 b (low.getD (a - 1 - k) []) r (high.getD (a - 1 - k) [])=true:=by
 unfold wN at h;rw [Nj] at h;split at h
 ·assumption
 ·omega
def HZ (t:List (List Int)) (i:Nat):Bn a b c low high t i=Am (wN a b c low high (a - i)) (((Au b c).filter (BX b (Dz b c t i))).filter λ q=>HT.lexLt q (t.getD i [])):=rfl
def OU (ah:Nat->Int):((Au b c).filter (BX b ah)).Pairwise λ r q=>BO r q=true:=(PQ b c).filter _
def qbd {ah:Nat->Int}{q:List Int}:BX b ah q=true↔∀ j,j < b->q.getD j 0<=ah j:=by
 unfold BX;rw [jb5];exact ⟨λ h j hj=>of_decide_eq_true (h j (jc4.mpr hj)),λ h j hj=>decide_eq_true (h j (jc4.mp hj))⟩
structure Btw (a b c:Nat) (low high t:List (List Int)) (n:Nat):Prop where
 len:t.length=n
 row:∀ i,i < n->t.getD i []∈(Au b c).filter (BX b (Dz b c t i))
 bt:∀ i,i < n->C9 b (low.getD i []) (t.getD i []) (high.getD i [])=true
def FL (f:Nat->Int) (a:Nat):Nat->Int
 | 0=>0
 | k + 1=>f (a - 1 - k) + FL f a k
theorem RV (f:Nat->Int) (a:Nat):∀ k,k<=a->Am f (Aq (a - k)) + FL f a k=Am f (Aq a)
 | 0,_=>by rw [Mb];exact Sk _
 | k + 1,h=>by
  rw [<- RV f a k (by omega),show a - k=(a - (k + 1)) + 1 by omega,FW,IL,FL,show a - 1 - k=a - (k + 1) by omega];show _=Am f _ + (f (a - (k + 1)) + 0) + _;omega
theorem V8 (h:Btw a b c low high t a) {i:Nat} (hi:i<=a) {j:Nat} (hj:j < b):0<=Dz b c t i j:=by
 unfold Dz;cases i with
 | zero=>
  show 0<=(AB b (c:Int)).getD j 0;rw [AL,DP,if_pos hj];show (0:Int)<=c;omega
 | succ i=>exact (zqp.mp (jd3.mp (h.row i (by omega))).1).lo j hj
def TQ {ah:Nat->Int}{r:List Int} (k:Nat) (h:r∈(Au b c).filter (BX b ah)):∃ F1 F2,(Au b c).filter (BX b ah)=F1++r::F2/\((Au b c).filter (BX b ah)).filter (λ q=>HT.lexLt q r)=F1/\cN a b c low high k ah=Am (wN a b c low high k) F1 + (wN a b c low high k r + Am (wN a b c low high k) F2):=by
 obtain ⟨F1,F2,e⟩:=List.append_of_mem h;refine ⟨F1,F2,e,?_,?_⟩
 ·have:=OU (b:=b) (c:=c) ah
  rw [e] at this ⊢;exact Xo this
 ·rw [U1,e,IL,DA]
theorem RU (h:Btw a b c low high t a):∀ k,k<=a->0<=FL (Bn a b c low high t) a k/\FL (Bn a b c low high t) a k < cN a b c low high k (Dz b c t (a - k))
 | 0,_=>by
  have:cN a b c low high 0 (Dz b c t (a - 0))=1:=Pu (by omega) λ j hj=>V8 h (by omega) hj
  rw [this,FL];omega
 | k + 1,hk=>by
  obtain ⟨i1,i2⟩:=RU h k (by omega);have hr:=h.row (a - 1 - k) (by omega);have hb:=h.bt (a - 1 - k) (by omega);obtain ⟨F1,F2,_,e1,e2⟩:=TQ (a:=a) (low:=low) (high:=high) (k + 1) hr;rw [FL,HZ,show a - (a - 1 - k)=k + 1 by (clear e2 i2 i1;omega),e1];rw [show a - (k + 1)=a - 1 - k by (clear e2 i2 i1 hk;omega),e2,RW hb];rw [show a - k=(a - 1 - k) + 1 by (clear e2 i2 i1;omega)] at i2;have i2:FL (Bn a b c low high t) a k < cN a b c low high k (λ j=>(t.getD (a - 1 - k) []).getD j 0):=i2;have s1:=K4 (f:=wN a b c low high (k + 1)) (l:=F1) λ q _=>Qd _ q;have s2:=K4 (f:=wN a b c low high (k + 1)) (l:=F2) λ q _=>Qd _ q;omega
def qt (h:Btw a b c low high t a) (h':Btw a b c low high u a) {m:Nat} (hm:m < a) (e:∀ i,i < m->t.getD i []=u.getD i []) (hl:BO (t.getD m []) (u.getD m [])=true):CT a b c low high t < CT a b c low high u:=by
 have ea:∀ i,i<=m->Dz b c t i=Dz b c u i:=λ i hi=>by
  unfold Dz;cases i with
  | zero=>rfl
  | succ i=>show (λ j=>(t.getD i []).getD j 0)=_;rw [e i (by omega)];rfl
 have e0:Am (Bn a b c low high t) (Aq m)=Am (Bn a b c low high u) (Aq m):=HY λ i hi=>by
  have hi:=jc4.mp hi;rw [HZ,HZ,ea i (by omega),e i hi]
 obtain ⟨k,rfl⟩:∃ k,a=m + 1 + k:=⟨a - (m + 1),by omega⟩
 have a1:=RV (Bn (m + 1 + k) b c low high t) (m + 1 + k) (k + 1) (by omega);have a2:=RV (Bn (m + 1 + k) b c low high u) (m + 1 + k) (k + 1) (by (clear a1 e0 hm;omega));rw [show m + 1 + k - (k + 1)=m by (clear a2 a1 e0 hm;omega)] at a1 a2;have t1:=(RU h k (by (clear a2 a1 e0 hm;omega))).2;have t2:=(RU h' k (by (clear t1 a2 a1 e0 hm;omega))).1;have hr:=h.row m (by (clear t2 t1 a2 a1 e0 hm;omega));have hr':=h'.row m (by (clear t2 t1 a2 a1 e0 hm;omega));have hb:=h.bt m (by (clear t2 t1 a2 a1 e0 hm;omega));obtain ⟨F1,F2,eF,e1,_⟩:=TQ (a:=m + 1 + k) (low:=low) (high:=high) (k + 1) hr;have n1:Bn (m + 1 + k) b c low high t m=Am (wN (m + 1 + k) b c low high (k + 1)) F1:=by
  rw [HZ,show m + 1 + k - m=k + 1 by (clear t2 t1 a2 a1 e0 hm;omega),e1]
 have n2:Am (wN (m + 1 + k) b c low high (k + 1)) F1 + wN (m + 1 + k) b c low high (k + 1) (t.getD m [])<=Bn (m + 1 + k) b c low high u m:=by
  rw [HZ,show m + 1 + k - m=k + 1 by (clear n1 t2 t1 a2 a1 e0 hm;omega),<- ea m (A5 _),eF,YA,IL,Dw,if_pos (by rw [KI];exact hl),DA];have pw:=OU (b:=b) (c:=c) (Dz b c t m);rw [eF,SF] at pw;rw [je3.mpr λ q hq=>by rw [KI];exact XT (pw.2.2 q hq _ AF) hl]
  have:=K4 (f:=wN (m + 1 + k) b c low high (k + 1)) (l:=F2.filter λ q=>HT.lexLt q (u.getD m [])) λ q _=>Qd _ q
  (clear n1 t2 t1 a2 a1 e0 hm;omega)
 rw [RW (by rw [show m + 1 + k - 1 - k=m by (clear n2 n1 t2 t1 a2 a1 e0 hm;omega)];exact hb)] at n2;rw [show m + 1 + k - k=m + 1 by (clear n2 n1 t2 t1 a2 a1 e0 hm;omega)] at t1;have t1:FL (Bn (m + 1 + k) b c low high t) (m + 1 + k) k < cN (m + 1 + k) b c low high k (λ j=>(t.getD m []).getD j 0):=t1;unfold CT;rw [<- a1,<- a2,e0];rw [FL,FL,show m + 1 + k - 1 - k=m by (clear t1 n2 n1 t2 a2 a1 e0 hm;omega)]
 (clear a2 a1 e0 hm;omega)
def jW (h:Btw a b c low high t a):Pile a b c t/\Di a b low t=true/\Di a b t high=true:=by
 have hr:∀ i,i < a->RowB b c (t.getD i []):=λ i hi=>zqp.mp (jd3.mp (h.row i hi)).1;refine ⟨⟨⟨h.len,λ r hr'=>?_⟩,λ i j hi hj=>(hr i hi).lo j hj,λ i j hi hj=>(hr i hi).hi j hj,λ i j hi hj=>qbd.mp (jd3.mp (h.row (i + 1) hi)).2 j hj,λ i j hi hj=>(hr i hi).nr j hj⟩,?_,?_⟩
 ·obtain ⟨i,hi,e⟩:=List.mem_iff_getElem.mp hr'
  have:=(hr i (by rw [<- h.len];exact hi)).len
  rw [AL,Cd hi] at this;rw [<- e];exact this
 all_goals
  unfold Di;rw [jb5];intro z hz;obtain ⟨h1,h2⟩:=zxi.mp hz
  have:=h.bt z.1 h1
  unfold C9 at this
  have:=jb5.mp this z.2 (jc4.mpr h2)
  rw [AS,decide_eq_true_iff,decide_eq_true_iff] at this;refine decide_eq_true ?_
 ·exact this.1
 ·exact this.2
end
section
variable {a b c:Nat}{low high:List (List Int)}
def RD:Fs:=pb7
theorem X2 {R:List (List Int)}{h:List Int->List Int}{x:PV} (hs:∀ q∈R,(h q).length<=1/\0<=(h q).sum/\(h q).sum<=2 ^ 40):∀ (F:List (List Int)),(∀ q∈F,q∈R)->∀ (n:Int) (ρ:Ae),HV [some (Aj R h),some x,none,some (.int n),none,none] [] ρ->0<=n->n < Am (λ q=>(h q).sum) F ->
  ∃ F1 r F2 d ρ',F=F1++r::F2/\0<=n - Am (λ q=>(h q).sum) F1/\n - Am (λ q=>(h q).sum) F1 < (h r).sum/\BS (asgN 4) RD (F.map Ah) ρ=.rt (.tup [Ah r,.int (n - Am (λ q=>(h q).sum) F1)]) d ρ'
 | [],_,n,ρ,_,h0,h1=>absurd h1 (by show ¬ n < 0;omega)
 | r::F,hF,n,ρ,H,h0,h1=>by
  have hr:r∈R:=hF r AF;obtain ⟨ρa,ea,ha⟩:=H.asgN (i:=4) (Ah r) (show 4 < 6 by decide) (λ h=>nomatch h);obtain ⟨ρb,eb,hb⟩:=ha.setO (i:=5) (f:=Ao Es ph4) (vs:=[0,4]) (x:=.int (h r).sum) (Lc (AK (KC (R:=R) (h:=h) (r:=r) (ha.var rfl) (ha.var rfl) hr)) (Qb (hs r hr).1 (hs r hr).2)) (show 5 < 6 by decide);have ec:=CG (p:=λ i j=>decide (i < j)) (hb.var (j:=3) (x:=.int n) rfl) (hb.var (j:=5) (x:=.int (h r).sum) rfl);by_cases hlt:n < (h r).sum
  ·rw [decide_eq_true hlt] at ec;obtain ⟨d,e⟩:∃ d,RD ρa=.rt (.tup [Ah r,.int n]) d ρb:=⟨_,(AU eb).trans (Ii ((CJ (AI ec)).trans (De (C5 (AD (hb.var rfl) (AK (hb.var rfl))) rfl))))⟩
   refine ⟨[],r,F,d,ρb,rfl,by show 0<=n - 0;(clear hlt h1;omega),by show n - 0 < _;(clear h1 h0;omega),?_⟩;rw [show n - Am (λ q=>(h q).sum) []=n from Int.sub_zero n];rw [AR,BS,ea];dsimp only;rw [e]
  ·rw [decide_eq_false hlt] at ec;obtain ⟨ρd,ed,hd⟩:=hb.aug (i:=3) (a:=n) (g:=λ i j=>i - j) (sd:=false) (f:=Aa 5) rfl (hb.var rfl);rw [DA] at h1;obtain ⟨F1,q,F2,d,ρ',e1,e2,e3,e4⟩:=X2 hs F (λ q hq=>hF q (AH _ hq)) (n - (h r).sum) ρd (hd.weak ⟨rfl,rfl,rfl,trivial⟩ λ _ h=>h) (by (clear h1 h0;omega)) (by (clear hlt h0;omega));have es:n - Am (λ q=>(h q).sum) (r::F1)=n - (h r).sum - Am (λ q=>(h q).sum) F1:=by rw [DA];(clear e3 e2 hlt h1 h0;omega)
   refine ⟨r::F1,q,F2,d,ρ',by rw [e1];rfl,by rw [es];exact e2,by rw [es];exact e3,?_⟩;have e:RD ρa=.nx ρd:=(AU eb).trans ((DZ (AI ec)).trans ed);rw [AR,BS,ea];dsimp only;rw [e,es];exact e4
def kQ {R:List (List Int)}{h:List Int->List Int}{x:PV}{ah:Nat->Int}{n:Int} (A:Ahd b x ah) (hR:∀ q∈R,q.length=b) (hl:R.length<=500000) (hb:b<=1000) (hs:∀ q∈R,(h q).length<=1/\0<=(h q).sum/\(h q).sum<=2 ^ 40) (h0:0<=n) (h1:n < Am (λ q=>(h q).sum) (R.filter (BX b ah))):
  ∃ F1 r F2 d,R.filter (BX b ah)=F1++r::F2/\0<=n - Am (λ q=>(h q).sum) F1/\n - Am (λ q=>(h q).sum) F1 < (h r).sum/\f_row_of_number [Aj R h,x,.int n]=.ok (.tup [Ah r,.int (n - Am (λ q=>(h q).sum) F1)],d,.non):=by
 obtain ⟨d,eb⟩:=XB (h:=h) A hR hl hb;have hx:dv x=0:=A.dv;have H0:HV [some (Aj R h),some x,some (.int n),none,none,none] [] [some (Aj R h,0),some (x,dv x),some (.int n,om),none,none,none]:=HV.of [some (Aj R h,0),some (x,dv x),some (.int n,om),none,none,none];obtain ⟨ρ1,e1,H1⟩:=H0.set (i:=3) (f:=Aa 2) (vs:=[2]) (H0.var rfl) (show 3 < 6 by decide);have ec:A2 f_rows_behind pc3 ρ1=.ok (.lst ((R.filter (BX b ah)).map Ah),d,ρ1):=AQ (xs:=[(Aj R h,0),(x,dv x)]) (AD (H1.var rfl) (AK (H1.var rfl))) eb;have H2:HV [some (Aj R h),some x,none,some (.int n),none,none] [] (AZ d [0,1] ρ1):=H1.cool.weak ⟨rfl,rfl,rfl,trivial⟩ λ _ h=>h;obtain ⟨F1,r,F2,d',ρ',a1,a2,a3,a4⟩:=X2 hs (R.filter (BX b ah)) (λ q hq=>(jd3.mp hq).1) n _ H2 h0 h1;exact ⟨F1,r,F2,d',a1,a2,a3,Cg rfl ((AU e1).trans (Ii (MK (els:=(R.filter (BX b ah)).map Ah) ec rfl a4)))⟩
def ZT {x:PV}{r:List Int} (h:r.length=b) (e:x=il r\/x=Ah r):Ahd b x λ i=>r.getD i 0:=by
 rcases e with rfl | rfl
 ·exact V9 h
 ·exact zB h
def qr (N:BoxN a b c) (p:Pile a b c low) (q:Pile a b c high) {n:Int} (h0:0<=n) (h1:n < ((Bp (g low) (g high) c b a).length:Int)):∃ t d,f_nth_between [bx a b c,tb low,tb high,.int n]=.ok (tb t,d,.non)/\Btw a b c low high t a/\CT a b c low high t=n:=by
 have z:=sz;have ha:=N.box.ha;have hb:=N.box.hb;have hc:=N.box.hc;have hab:=N.ab;have hc1:=N.hc;obtain ⟨dt,ht⟩:=Qc N.box p.tab q.tab (ps:=[]) (λ z hz=>by cases hz) (m:=0) (λ i=>A5 _) (by (clear hc1 hab hc hb ha z h1 h0;omega)) (by simp);have et:(List.map (λ k=>Aj (Au b c) (BQ a b c (λ i=>low.getD i []) (λ i=>high.getD i []) (C2 []) (k + 1))) (Aq a)).reverse=(Aq a).map λ j=>Aj (Au b c) (TN a b c low high (a - j)):=by
  rw [XZ];apply J1;intro j hj
  have:=jc4.mp hj
  show Aj _ (TN a b c low high (a - 1 - j + 1))=_;rw [show a - 1 - j + 1=a - j by (clear hc1 hab hc hb ha z h1 h0;omega)]
 rw [et] at ht;have hM:cN a b c low high a (Dz b c [] 0)=((Bp (g low) (g high) c b a).length:Int):=by
  rw [<- Pe (by (clear hc1 hab hc hb ha z h1 h0;omega)) (λ i j hi hj=>p.lo i j hi hj) (λ i j hi hj=>q.hi i j hi hj),K9,U1,je3.mpr λ r hr=>qbd.mpr λ j hj=>?_]
  ·rfl
  ·show _<=(AB b (c:Int)).getD j 0;rw [AL (l:=AB b (c:Int)),DP,if_pos hj];exact (zqp.mp hr).hi j hj
 have hR:∀ x∈Au b c,x.length=b:=λ x hx=>(zqp.mp hx).len;let Fr (s4 s5 s6:Option PV):List (Option PV):=[some (bx a b c),some (tb low),some (tb high),some (.int n),s4,s5,s6,none,none]
 let ρ0:Ae:=[some (bx a b c,0),some (tb low,0),some (tb high,0),some (.int n,om),none,none,none,none,none]
 have H0:HV (Fr none none none) [] ρ0:=HV.of ρ0;have v1:CY pa7 ρ0=.nx ρ0:=Ie (AQ (xs:=[(bx a b c,0),(tb low,0),(tb high,0)]) rfl (K6 N p q));have t2:bT pe1 ρ0=.ok (false,ρ0):=by
  refine AI (Hj (a:=false) (b:=false) (GU (b:=true) (d:=om) (AQ (xs:=[(.int n,om)]) rfl (Xx n))) (λ _=>?_) rfl)
  have:=CG (p:=λ i j=>decide (i < j)) (f:=Aa 3) (g:=bC (.int 0)) (ρ:=ρ0) (i:=n) (j:=0) (d:=om) (e:=om) rfl rfl
  rw [decide_eq_false (by (clear hM hc1 hab hc hb ha z h1;omega))] at this;exact this
 obtain ⟨ρ1,e1,H1⟩:=H0.setN (i:=4) (f:=Ao BG (Ac)) (vs:=[]) (x:=.lst []) rfl (show 4 < 9 by decide);obtain ⟨ρ2,e2,H2⟩:=H1.setO (i:=5) (f:=Ab BU (Ao BG (Af pc1 (Ac))) pb1) (vs:=[0,0]) (x:=il (AB b (c:Int))) (R4 (v:=(c:Int)) (n:=b) (C5 (AK (BR (x:=bx a b c) (d:=0) (e:=om) (H1.var rfl) rfl rfl)) rfl) (BR (x:=bx a b c) (d:=0) (e:=om) (H1.var rfl) rfl rfl) (by (clear hM hc1 hab hc ha z h1 h0;omega))) (show 5 < 9 by decide);obtain ⟨ρ3,e3,H3⟩:=H2.setO (i:=6) (f:=Aa 3) (vs:=[3]) (x:=.int n) (H2.var rfl) (show 6 < 9 by decide);let els:List PV:=(Aq a).map λ j=>Aj (Au b c) (TN a b c low high (a - j));let I (j:Nat) (ρ:Ae):Prop:=∃ t x left,HV (Fr (some (tb t)) (some x) (some (.int left))) [4] ρ/\(x=il (HJ b c t j)\/x=Ah (HJ b c t j))/\Btw a b c low high t j/\0<=left/\left < cN a b c low high (a - j) (Dz b c t j)/\Am (Bn a b c low high t) (Aq j) + left=n;obtain ⟨ρ',e4,t,x,left,H4,_,B,l0,l1,en⟩:=IB (asg:=asgN 7) (body:=(Ag (Al false 8 (A2 f_row_of_number (Af (Aa 7) pb0)) [7,5,6])
 pd1)) els I (AZ dt [0,1,2] ρ3) ⟨[],il (AB b (c:Int)),n,(H3.coolK (by decide)).weak ⟨rfl,rfl,rfl,rfl,rfl,rfl,rfl,trivial⟩ (λ _ h=>h),.inl rfl,⟨rfl,λ i hi=>absurd hi (by (clear hi hM hc1 hab hc hb ha z h1 h0;omega)),λ i hi=>absurd hi (by (clear hi hM hc1 hab hc hb ha z h1 h0;omega))⟩,h0,by rw [Mb,hM];exact h1,by show 0 + n=n;(clear hM hc1 hab hc hb ha z h1 h0;omega)⟩ (by
  rintro j y ρ hy ⟨t,x,left,H,ex,B,l0,l1,en⟩;have hj:j < a:=by
   have:=(jb1.mp hy).1
   simpa [els] using this
  have ey:y=Aj (Au b c) (TN a b c low high (a - j)):=by
   have:els[j]?=some (Aj (Au b c) (TN a b c low high (a - j))):=by
    show ((Aq a).map _)[j]?=_;rw [BW,HB hj];rfl
   rw [this] at hy;exact (Option.some.inj hy).symm
  subst ey;have hal:(HJ b c t j).length=b:=by
   cases j with
   | zero=>exact El
   | succ i=>exact (zqp.mp (jd3.mp (B.row i (by (clear hj en l1 l0 hM hc1 hab hc hb ha z h1 h0;omega)))).1).len
  obtain ⟨F1,r,F2,d,eF,r0,r1,er⟩:=kQ (h:=TN a b c low high (a - j)) (ZT hal ex) hR (N.box.rl b (A5 _)) (by (clear hal hj en l1 l0 hM hc1 hab hc ha z h1 h0;omega)) (λ y hy=>⟨Rf _ hy,V6 N (by (clear hal hj en l1 l0 hM hc1 hab hc hb ha z h1 h0;omega)) y⟩) l0 l1;let left':=left - Am (λ q=>(TN a b c low high (a - j) q).sum) F1;obtain ⟨ρa,ea,Ha⟩:=H.asgN (i:=7) (Aj (Au b c) (TN a b c low high (a - j))) (show 7 < 9 by decide) (by decide);have dx:dv x=0:=by rcases ex with rfl | rfl <;> rfl
  obtain ⟨ρb,eb,Hb⟩:=Ha.setK (i:=8) (f:=A2 f_row_of_number (Af (Aa 7) pb0)) (vs:=[7,5,6]) (x:=.tup [Ah r,.int left']) (AQ (xs:=[(Aj (Au b c) (TN a b c low high (a - j)),0),(x,dv x),(.int left,om)]) (AD (Ha.var rfl) (AD (Ha.var rfl) (AK (Ha.var rfl)))) er) (show 8 < 9 by decide) (by decide) (by decide);have tn:bT (Ab (EK false) (Aa 8) (bC .non)) ρb=.ok (false,ρb):=AI (BR (x:=.tup [Ah r,.int left']) (d:=0) (y:=.non) (e:=om) (Hb.var rfl) rfl rfl);obtain ⟨ρc,ec,Hc⟩:=Hb.unp2 (i:=5) (j:=6) (f:=Aa 8) (vs:=[8]) (x:=Ah r) (y:=.int left') (Hb.var rfl) (show 5 < 9 by decide) (show 6 < 9 by decide) (by decide) (by decide);obtain ⟨ρd,ed,Hd⟩:=Hc.app (i:=4) (xs:=t.map il) (f:=Ao HU (Af (Aa 5) (Ac))) (vs:=[5]) (y:=il r) rfl (by decide) (C5 (AK (Hc.var (x:=Ah r) rfl)) (by
   show some (PV.lst (r.map PV.int),d1 (r.map PV.int))=_;rw [show d1 (r.map PV.int)=om from LS r]
   rfl)) (by rw [AG,B.len];(clear dx r1 r0 hal en l1 l0 hM hc1 hab hc hb h1 h0;omega))
  have hrm:r∈(Au b c).filter (BX b (Dz b c t j)):=by rw [show (Au b c).filter (BX b (Dz b c t j))=_ from eF];exact BJ _ AF
  have gt:∀ i,i < j->(t++[r]).getD i []=t.getD i []:=λ i hi=>by rw [Ra B.len,if_neg (by (clear dx r1 r0 hal hj en l1 l0 hM hc1 hab hc hb ha z h1 h0;omega))]
  have gr:(t++[r]).getD j []=r:=by rw [Ra B.len,if_pos rfl]
  have ga:∀ i,i<=j->Dz b c (t++[r]) i=Dz b c t i:=λ i hi=>by
   cases i with
   | zero=>rfl
   | succ i=>show (λ y=>((t++[r]).getD i []).getD y 0)=_;rw [gt i (by (clear dx r1 r0 hal hj en l1 l0 hM hc1 hab hc hb ha z h1 h0;omega))];rfl
  have hw:wN a b c low high (a - j) r=(TN a b c low high (a - j) r).sum:=rfl;have hk:a - j=(a - 1 - j) + 1:=by (clear hw dx r1 r0 hal en l1 l0 hM hc1 hab hc hb ha z h1 h0;omega)
  have hp:0 < wN a b c low high (a - 1 - j + 1) r:=by rw [<- hk,hw];(clear hk hw dx hal hj en l1 l0 hM hc1 hab hc hb ha z h1 h0;omega)
  have bt:=xM hp;have ws:=RW (c:=c) bt;rw [<- hk,show a - 1 - (a - 1 - j)=j by (clear ws hp hk hw dx r1 r0 hal en l1 l0 hM hc1 hab hc hb ha z h1 h0;omega)] at *;refine ⟨ρa,ρd,ea,(AU eb).trans ((DZ tn).trans ((AU ec).trans ed)),t++[r],Ah r,left',Hd.weak ⟨rfl,rfl,rfl,rfl,?_,rfl,rfl,trivial⟩ (λ _ h=>h),.inr ?_,⟨by rw [BI,B.len];rfl,λ i hi=>?_,λ i hi=>?_⟩,r0,?_,?_⟩
  ·unfold tb;rw [Ey];rfl
  ·show Ah r=Ah ((t++[r]).getD j []);rw [gr]
  ·by_cases e:i=j
   ·subst e;rw [gr,ga i (A5 _)];exact hrm
   ·rw [gt i (by (clear ws hp hk hw dx r1 r0 hal hj en l1 l0 hM hc1 hab hc hb ha z h1 h0;omega)),ga i (by (clear e ws hp hk hw dx r1 r0 hal hj en l1 l0 hM hc1 hab hc hb ha z h1 h0;omega))];exact B.row i (by (clear ws hp hk hw dx r1 r0 hal hj en l1 l0 hM hc1 hab hc hb ha z h1 h0;omega))
  ·by_cases e:i=j
   ·subst e;rw [gr];exact bt
   ·rw [gt i (by (clear ws hp hk hw dx r1 r0 hal hj en l1 l0 hM hc1 hab hc hb ha z h1 h0;omega))];exact B.bt i (by (clear ws hp hk hw dx r1 r0 hal hj en l1 l0 hM hc1 hab hc hb ha z h1 h0;omega))
  ·rw [show a - (j + 1)=a - 1 - j by (clear ws hp hk hw dx r1 r0 hal hj en l1 l0 hM hc1 hab hc hb ha z h1 h0;omega)];show left' < cN a b c low high (a - 1 - j) (λ y=>((t++[r]).getD j []).getD y 0);rw [gr,<- ws,hw];exact r1
  ·rw [FW,IL];have e1:Am (Bn a b c low high (t++[r])) (Aq j)=Am (Bn a b c low high t) (Aq j):=HY λ i hi=>by
    have hi:=jc4.mp hi;rw [HZ,HZ,ga i (by (clear ws hp hk hw dx r1 r0 hal hj en l1 l0 hM hc1 hab hc hb ha z h1 h0;omega)),gt i hi]
   have e2:Bn a b c low high (t++[r]) j=Am (λ q=>(TN a b c low high (a - j) q).sum) F1:=by
    rw [HZ,ga j (A5 _),gr];have pw:=OU (b:=b) (c:=c) (Dz b c t j);rw [show (Au b c).filter (BX b (Dz b c t j))=_ from eF] at pw ⊢;rw [Xo pw];rfl
   rw [e1];show _ + (Bn a b c low high (t++[r]) j + 0) + left'=n;rw [e2];show _ + (_ + 0) + (left - _)=n
   (clear e2 e1 ws hp hk hw dx r1 r0 hal hj l1 l0 hM hc1 hab hc hb ha z h1 h0;omega))
 have hel:els.length=a:=by simp [els]
 rw [hel] at B l1 en;have hone:cN a b c low high (a - a) (Dz b c t a)=1:=by
  rw [OD];exact Pu (by (clear hel en l1 l0 hM hc1 hab hc hb ha z h1 h0;omega)) λ j hj=>V8 B (A5 _) hj
 obtain ⟨d4,e5⟩:=H4.get 4 (tb t) rfl;refine ⟨t,d4,Cg (ρ':=ρ') rfl ((AU v1).trans ((DZ t2).trans ((AU e1).trans ((AU e2).trans ((AU e3).trans ((AU (MK (els:=els) (AQ (xs:=[(bx a b c,0),(tb low,0),(tb high,0),(.lst [],om)]) (AD (H3.var rfl) (AD (H3.var rfl) (AD (H3.var rfl) (AK rfl)))) ht) rfl e4)).trans ?_)))))),B,?_⟩
 ·unfold DE;rw [e5]
 ·unfold CT
  (clear hel hM hc1 hab hc hb ha z h1 h0;omega)
end
abbrev _root_.pd0:=Ab (BC λ i j=>decide (j<=i)) (Aa 0) (Ab Rw (bC (.int 10)) (bC (.int 18)))
abbrev _root_.pc7:=Ab Bf (Ab Bf (Ab Bf (Ab BU (Aa 0) (bC (.int 48271))) (Ab BU (Ab BU (bC (.int 7919)) (Aa 1)) (Aa 1))) (Ab BU (bC (.int 104729)) (Aa 1))) (bC (.int 29))
abbrev _root_.pe7:=Ab Bf (Ab BU (Ab BU (Aa 2) (Aa 2)) (Aa 2)) (Ab BU (bC (.int 1000003)) (Aa 2))
def Xd_mixed:Fs:=(Ag (BH (bT pd0) (DE 0) AJ)
 (Ag (Al false 2 (Ab Cy pc7 (bC (.int 2147483647))) [0,1,1,1])
 (Ag (Al false 2 (Ab Cy (Ab BU (Aa 2) (Aa 2)) (bC (.int 2147483629))) [2,2])
 (Ax (Ab Bf pe7 (Aa 1))))))
def d_mixed:Fn:=Ay false 2 1 Xd_mixed
abbrev _root_.ph0:=Ab Cy (Ab Ea (Aa 0) (Aa 1)) (Aa 2)
abbrev _root_.pf9:=Ab Cy (Ab Ea (Aa 0) (Ab BU (Aa 1) (Aa 2))) (Aa 3)
def Xd_box:Fs:=(Ax (Ao DD (Af (Ab Bf (bC (.int 1)) (Ab Cy (Aa 0) (Aa 1))) (Af (Ab Bf (bC (.int 1)) ph0) (Af (Ab Bf (bC (.int 1)) pf9) (Ac))))))
def d_box:Fn:=Ay false 4 0 Xd_box
def Xd_pile:Fs:=(Ag (Cp (asgT [2,3,4]) (Aa 0) [0])
 (Ag (Al false 5 (Ao BG (Ac)) [])
 (Ag (CQ AY (Af (Aa 2) (Ac)) (asgN 6) (Ag (Al false 7 (Ao BG (Ac)) [])
 (Ag (CQ AY (Af (Aa 3) (Ac)) (asgN 8) (Ag (Al false 9 (Aa 4) [4])
 (Ag (BH (bT (Ab (BC λ i j=>decide (j < i)) (Aa 6) (bC (.int 0)))) (Al false 9 (Ab A3 (Ab A3 (Aa 5) (Ab Ec (Aa 6) (bC (.int 1)))) (Aa 8)) [5,6,8]) AJ)
 (Ag (BH (bT (Ab (BC λ i j=>decide (j < i)) (Aa 8) (bC (.int 0)))) (Al false 9 (Ao Kj (Af (Aa 9) (Af (Ab A3 (Aa 7) (Ab Ec (Aa 8) (bC (.int 1)))) (Ac)))) [9,7,8]) AJ)
 (Ag (C1 7 (Ab Ec (Aa 9) (Ao Kj (Af (Aa 9) (Af (Ab A3 (Ao BG (Af (bC (.int 0)) (Af (bC (.int 1)) (Af (bC (.int 0)) (Af (bC (.int 2)) (Af (Ab Cy (Aa 1) (Ab Bf (Aa 4) (bC (.int 1)))) (Ac))))))) (Ab Cy (Ab Ea (Aa 1) (bC (.int 9))) (bC (.int 5)))) (Ac))))) [9,9,1,4,1])
 (Al false 1 (Ab Bf (Ab Ea (Aa 1) (bC (.int 45))) (Ab Cy (Ab BU (bC (.int 13)) (Aa 1)) (bC (.int 1009)))) [1,1]))))))
 (C1 5 (Aa 7) [7]))))
 (DE 5))))
def d_pile:Fn:=Ay false 2 8 Xd_pile
open QQ
section
variable {hs:List C3}{a b c:Nat}
def Pile.anti {c:Int}{p:List (List Int)} (h:Pile a b c p):∀ {i j i' j':Nat},i<=i'->j<=j'->i' < a->j' < b->g p i' j'<=g p i j:=by
 intro i j i' j' h1 h2 h3 h4;have e1:∀ k,i + k < a->∀ j,j < b->g p (i + k) j<=g p i j:=by
  intro k;induction k with
  | zero=>intro _ j _;exact D5 _
  | succ k ih=>intro hk j hj;exact Fl (h.dn (i + k) j hk hj) (ih (by omega) j hj)
 have e2:∀ k,j + k < b->g p i (j + k)<=g p i j:=by
  intro k;induction k with
  | zero=>intro _;exact D5 _
  | succ k ih=>intro hk;exact Fl (h.rt i (j + k) (by omega) hk) (ih (by omega))
 have k1:=e1 (i' - i) (by omega) j' h4;have k2:=e2 (j' - j) (by omega);rw [show i + (i' - i)=i' by omega] at k1;rw [show j + (j' - j)=j' by omega] at k2;omega
def wL {lo hi:Nat->Nat->Int}{p:List (List Int)}:GC lo hi b a p=true↔∀ i j,i < a->j < b->lo i j<=g p i j/\g p i j<=hi i j:=by
 unfold GC DR E2;simp only [jb5,jc4,AS,decide_eq_true_iff];exact ⟨λ h i j hi hj=>h i hi j hj,λ h i hi j hj=>h i j hi hj⟩
def zF:Nat->Nat->Int:=λ _ _=>0
def cF (c:Nat):Nat->Nat->Int:=λ _ _=>(c:Int)
end
def WZ (c:Int) (k:Nat) (hk:k<=1000):∃ l:Int,d_mixed [.int c,.int k]=.ok (.int l,om,.non):=by
 let R (s:QQ.Slot):Ae:=[some (.int c,om),some (.int (k:Int),om),s]
 have hp:Ab Rw (bC (.int 10)) (bC (.int 18)) (R none)=.ok (.int (10 ^ 18),om,R none):=rfl;by_cases h:c ≥ 10 ^ 18
 ·have hc:bT pd0 (R none)=.ok (true,R none):=by
   have:=AI (CG (p:=λ i j=>decide (j<=i)) (f:=Aa 0) (ρ:=R none) (i:=c) (d:=om) rfl hp)
   rw [this,decide_eq_true h]
  exact ⟨c,Cg rfl (Ii ((CJ hc).trans rfl))⟩
 ·have hc:bT pd0 (R none)=.ok (false,R none):=by
   have:=AI (CG (p:=λ i j=>decide (j<=i)) (f:=Aa 0) (ρ:=R none) (i:=c) (d:=om) rfl hp)
   rw [this,decide_eq_false h]
  have e1:Ab Cy pc7 (bC (.int 2147483647)) (R none)=.ok (.int ((c * 48271 + 7919 * (k:Int) * (k:Int) + 104729 * (k:Int) + 29) % 2147483647),om,R none):=
   DB (Dj (Dj (Dj (FD (d:=om) (e:=om) rfl rfl (.inr (by decide))) (FD (e:=om) (FD (d:=om) (e:=om) (j:=(k:Int)) rfl rfl (.inl (by decide))) rfl (.inr (by omega)))) (FD (d:=om) (e:=om) (j:=(k:Int)) rfl rfl (.inl (by decide)))) (e:=om) rfl) (e:=om) rfl (by decide)
  generalize hn:(c * 48271 + 7919 * (k:Int) * (k:Int) + 104729 * (k:Int) + 29) % 2147483647=n at e1;have b1:0<=n/\n < 2147483647:=by omega
  have e2:Ab Cy (Ab BU (Aa 2) (Aa 2)) (bC (.int 2147483629)) (R (some (.int n,om)))=.ok (.int (n * n % 2147483629),om,R (some (.int n,om))):=DB (FD (d:=om) (e:=om) (i:=n) (j:=n) rfl rfl (.inl (by (clear b1 h hk;omega)))) (e:=om) rfl (by decide);generalize hm:n * n % 2147483629=m at e2;have b2:0<=m/\m < 2147483629:=by (clear b1 hn h hk;omega)
  have e3:Ab Bf pe7 (Aa 1) (R (some (.int m,om)))=.ok (.int (m * m * m + 1000003 * m + (k:Int)),om,R (some (.int m,om))):=
   Dj (e:=om) (Dj (FD (e:=om) (FD (d:=om) (e:=om) (i:=m) (j:=m) rfl rfl (.inl (by (clear b2 b1 hn h hk;omega)))) rfl (.inr (by (clear b2 b1 hn h hk;omega)))) (FD (d:=om) (e:=om) (j:=m) rfl rfl (.inl (by decide)))) rfl
  exact ⟨_,Cg rfl ((DZ hc).trans ((AU (BV e1 (show 2 < 3 by decide) rfl)).trans ((AU (BV e2 (show 2 < 3 by decide) rfl)).trans (De e3))))⟩
def JW {i:Int} (h:0<=i):∃ n:Nat,i=(n:Int):=⟨i.toNat,by omega⟩
def Tc (l:Int) {r s t:Int} (hr:1<=r/\r<=6) (hs:1<=s/\s<=6) (ht:1<=t/\t<=6):∃ x y z:Nat,(1<=x/\(x:Int)<=r)/\(1<=y/\(y:Int)<=s)/\(1<=z/\(z:Int)<=t)/\d_box [.int l,.int r,.int s,.int t]=.ok (bx x y z,om,.non):=by
 let R:Ae:=[some (.int l,om),some (.int r,om),some (.int s,om),some (.int t,om)]
 have q1:=Ks l (show r≠0 by omega);have q2:=Mi l (show 0 < r by (clear q1 ht hs;omega));have q3:=Ks (l / r) (show s≠0 by (clear q2 q1 ht hr;omega));have q4:=Mi (l / r) (show 0 < s by (clear q3 q2 q1 ht hr;omega));have q5:=Ks (l / (r * s)) (show t≠0 by (clear q4 q3 q2 q1 hs hr;omega));have q6:=Mi (l / (r * s)) (show 0 < t by (clear q5 q4 q3 q2 q1 hs hr;omega));have rs0:0 < r * s:=Int.mul_pos (by (clear q6 q5 q4 q3 q2 q1 ht hs;omega)) (by (clear q6 q5 q4 q3 q2 q1 ht hr;omega));have rs1:r * s<=6 * 6:=Int.mul_le_mul hr.2 hs.2 (by (clear rs0 q6 q5 q4 q3 q2 q1 ht hr;omega)) (by (clear rs0 q6 q5 q4 q3 q2 q1 ht hs hr;omega));obtain ⟨x,hx⟩:=JW (i:=1 + l % r) (by (clear rs1 rs0 q6 q5 q4 q3 q2 ht hs hr;omega));obtain ⟨y,hy⟩:=JW (i:=1 + l / r % s) (by (clear hx rs1 rs0 q6 q5 q4 q2 q1 ht hs hr;omega));obtain ⟨z,hz⟩:=JW (i:=1 + l / (r * s) % t) (by (clear hy hx rs1 rs0 q6 q4 q3 q2 q1 ht hs hr;omega));refine ⟨x,y,z,by (clear hz hy rs1 rs0 q6 q5 q4 q3 ht hs hr;omega),by (clear hz hx rs1 rs0 q6 q5 q2 q1 ht hs hr;omega),by (clear hy hx rs1 rs0 q4 q3 q2 q1 ht hs hr;omega),?_⟩;have e1:Ab Bf (bC (.int 1)) (Ab Cy (Aa 0) (Aa 1)) R=.ok (.int (1 + l % r),om,R):=Dj (d:=om) rfl (DB (i:=l) (d:=om) (e:=om) rfl rfl (by (clear hz hy hx rs1 rs0 q6 q5 q4 q3 q2 q1 ht hs;omega)));have e2:Ab Bf (bC (.int 1)) ph0 R=.ok (.int (1 + l / r % s),om,R):=Dj (d:=om) rfl (DB (FC (i:=l) (d:=om) (e:=om) rfl rfl (by (clear hz hy hx rs1 rs0 q6 q5 q4 q3 q2 q1 ht hs;omega)) (by (clear hz hy hx rs1 rs0 q6 q5 q4 q3 q2 q1 ht hs;omega))) (e:=om) rfl (by (clear hz hy hx rs1 rs0 q6 q5 q4 q3 q2 q1 ht hr;omega)));have e3:Ab Bf (bC (.int 1)) pf9 R=.ok (.int (1 + l / (r * s) % t),om,R):=Dj (d:=om) rfl (DB (FC (i:=l) (d:=om) (e:=om) rfl (FD (i:=r) (j:=s) (d:=om) (e:=om) rfl rfl (.inl (by (clear hz hy hx rs1 rs0 q6 q5 q4 q3 q2 q1 ht hs;omega)))) (by (clear hz hy hx rs1 q6 q5 q4 q3 q2 q1 ht hs hr;omega)) (by (clear hz hy hx rs0 q6 q5 q4 q3 q2 q1 ht hs hr;omega))) (e:=om) rfl (by (clear hz hy hx rs1 rs0 q6 q5 q4 q3 q2 q1 hs hr;omega)));rw [hx] at e1;rw [hy] at e2;rw [hz] at e3;exact Cg rfl (De (C5 (AD e1 (AD e2 (AK e3))) rfl))
section
variable {a b c:Nat}{hs:List C3}
end
def qd {b c:Nat}:Pile 0 b c []:=⟨⟨rfl,λ _ h=>(nomatch h)⟩,λ i j hi=>absurd hi (by omega),λ i j hi=>absurd hi (by omega),λ i j hi=>absurd hi (by omega),λ i j hi=>absurd hi (by omega)⟩
def RowP (b c:Nat) (t:List (List Int)) (r:List Int):Prop:=(∀ y,y < r.length->0<=r.getD y 0/\r.getD y 0<=GG c t y)/\∀ n,n + 1 < r.length->r.getD (n + 1) 0<=r.getD n 0
def qk {b c:Nat}{t:List (List Int)}:RowP b c t []:=⟨λ y h=>absurd h (by simp),λ n h=>absurd h (by simp)⟩
def RowP.snoc {b c:Nat}{t:List (List Int)}{r:List Int}{v:Int} (h:RowP b c t r) (h1:0<=v/\v<=GG c t r.length) (h2:∀ n,n + 1=r.length->v<=r.getD n 0):RowP b c t (r++[v]):=by
 refine ⟨λ y hy=>?_,λ n hn=>?_⟩
 ·rw [BI] at hy;rw [PU];split
  ·exact h.1 y (by assumption)
  ·have:y=r.length:=by simp at hy;omega
   rw [if_pos this,this];exact h1
 ·rw [BI] at hn;rw [PU,PU];split
  ·rw [if_pos (by (clear hn h1;omega))];exact h.2 n (by assumption)
  ·have:n + 1=r.length:=by simp at hn;omega
   rw [if_pos this,if_pos (by (clear hn h1;omega))];exact h2 n this
def uE (n:Int) (x:Int) (hx:0<=x):∃ y,0<=y/\BE [0,1,0,2,x] (n % 5)=some y:=by
 have h:n % 5=0\/n % 5=1\/n % 5=2\/n % 5=3\/n % 5=4:=by omega
 rcases h with h | h | h | h | h <;> rw [h]
 ·exact ⟨0,by decide,rfl⟩
 ·exact ⟨1,by decide,rfl⟩
 ·exact ⟨0,by decide,rfl⟩
 ·exact ⟨2,by decide,rfl⟩
 ·exact ⟨x,hx,rfl⟩
def Xn {a b c:Nat} (l:Int) (ha:a<=100) (hb:b<=100) (hc:c<=1000):∃ t d,Pile a b c t/\d_pile [bx a b c,.int l]=.ok (tb t,d,.non):=by
 have z:=sz;let F (l:Int) (s5 s6 s7 s8 s9:Option PV):List (Option PV):=[some (bx a b c),some (.int l),some (.int a),some (.int b),some (.int c),s5,s6,s7,s8,s9]
 let ρ0:Ae:=[some (bx a b c,0),some (.int l,om),none,none,none,none,none,none,none,none]
 have nin:∀ {i:Nat},i∉([]:List Nat):=λ h=>nomatch h
 suffices h:Ge Xd_pile ρ0 λ y=>∃ t,Pile a b c t/\y=tb t by
  obtain ⟨y,d,e,t,p,rfl⟩:=Ge.fn (np:=2) (k:=8) (xs:=[bx a b c,.int l]) rfl h;exact ⟨t,d,p,e⟩
 have h0:HV [some (bx a b c),some (.int l),none,none,none,none,none,none,none,none] [] ρ0:=HV.of ρ0;refine Ge.ex (h0.unp3 (x:=.int a) (y:=.int b) (z:=.int c) (d:=0) (h0.var rfl) (show 2 < 10 by decide) (show 3 < 10 by decide) (show 4 < 10 by decide)) λ ρ1 h1=>?_;refine Ge.ex (h1.setN (x:=.lst []) rfl (show 5 < 10 by decide)) λ ρ2 h2=>?_;refine Ge.ex (P:=λ ρ=>∃ l t,Pile a b c t/\HV (F l (some (tb t)) none none none none) [5] ρ) (Nx.forR (λ k ρ=>∃ l t,Pile k b c t/\HV (F l (some (tb t)) none none none none) [5] ρ) (h2.var rfl) (by (clear z hc hb;omega)) ⟨l,[],qd,h2⟩ λ k ρ hk ⟨l,t,ht,h⟩=>?_) λ ρ3 ⟨l,t,ht,h3⟩=>Ge.retV h3 rfl ⟨t,ht,rfl⟩;have hl:t.length=k:=ht.tab.1;obtain ⟨ρa,ea,h⟩:=h.asgN (i:=6) (.int (k:Int)) (show 6 < 10 by decide) (by decide);refine ⟨ρa,ea,Nx.seq (h.setN (x:=.lst []) rfl (show 7 < 10 by decide)) λ ρ4 h4=>Nx.seq (Nx.forR (λ m ρ=>∃ l r,RowP b c t r/\r.length=m/\HV (F l (some (tb t)) (some (.int (k:Int))) (some (il r)) none none) [7,5] ρ) (h4.var rfl) (by (clear hl hk z hc ha;omega)) ⟨l,[],qk,rfl,h4⟩ λ m ρ hm ⟨l,r,hr,hrl,h⟩=>?_) λ ρ5 ⟨l,r,hr,hrl,h⟩=>?_⟩
 ·obtain ⟨ρb,eb,h⟩:=h.asgN (i:=8) (.int (m:Int)) (show 8 < 10 by decide) (by decide);let G (m9:Int):=F l (some (tb t)) (some (.int (k:Int))) (some (il r)) (some (.int (m:Int))) (some (.int m9));refine ⟨ρb,eb,Nx.seq (h.setO (x:=.int c) (h.var rfl) (show 9 < 10 by decide)) λ ρ6 (h6:HV (G c) [7,5] ρ6)=>Nx.seq (P:=λ ρ=>∃ m1:Int,(0<=m1/\m1<=GG c t m)/\HV (G m1) [7,5] ρ) ?_ λ ρ7 ⟨m1,hm1,h7⟩=>Nx.seq (P:=λ ρ=>∃ m2:Int,(0<=m2/\m2<=GG c t m/\∀ n,n + 1=m->m2<=r.getD n 0)/\HV (G m2) [7,5] ρ) ?_ λ ρ8 ⟨m2,hm2,h8⟩=>?_⟩
  ·have q:=AI (CG (p:=λ i j=>decide (j < i)) (g:=bC (.int 0)) (j:=0) (e:=om) (h6.var (j:=6) (x:=.int (k:Int)) rfl) rfl);by_cases h0:0 < k
   ·rw [decide_eq_true (by (clear hrl hm hl hk z hc hb ha;omega))] at q;have s:=IU (g:=bC (.int 1)) (j:=1) (e:=om) (h6.var (j:=6) (x:=.int (k:Int)) rfl) rfl;rw [show (k:Int) - 1=((k - 1:Nat):Int) by (clear hrl hm hl hk z hc hb ha;omega)] at s;exact Nx.yes q (Nx.mono (h6.setO (JR (i:=k - 1) (j:=m) ht.tab (h6.var (j:=5) rfl) s (h6.var (j:=8) rfl) (by (clear hrl hm hl hk z hc hb ha;omega)) hm) (show 9 < 10 by decide)) λ ρ h=>⟨_,⟨ht.lo (k - 1) m (by (clear hrl hm hl hk z hc hb ha;omega)) hm,by unfold GG;rw [if_neg (by (clear hrl hm hk z hc hb ha;omega)),hl];exact D5 _⟩,h⟩)
   ·rw [decide_eq_false (by (clear hrl hm hl hk z hc hb ha;omega))] at q;exact Nx.no q ⟨c,⟨by (clear h0 hrl hm hl hk z hc hb ha;omega),by unfold GG;rw [if_pos (by (clear hrl hm hk z hc hb ha;omega))];exact D5 _⟩,h6⟩
  ·have q:=AI (CG (p:=λ i j=>decide (j < i)) (g:=bC (.int 0)) (j:=0) (e:=om) (h7.var (j:=8) (x:=.int (m:Int)) rfl) rfl);by_cases h0:0 < m
   ·rw [decide_eq_true (by (clear hm1 hrl hm hl hk z hc hb ha;omega))] at q;have s:=IU (g:=bC (.int 1)) (j:=1) (e:=om) (h7.var (j:=8) (x:=.int (m:Int)) rfl) rfl;rw [show (m:Int) - 1=((m - 1:Nat):Int) by (clear hm1 hrl hm hl hk z hc hb ha;omega)] at s;have hx:=hr.1 (m - 1) (by (clear hm1 hm hl hk z hc hb ha;omega));exact Nx.yes q (Nx.mono (h7.setO (x:=.int (if r.getD (m - 1) 0 < m1 then r.getD (m - 1) 0 else m1)) (C5 (AD (h7.var (j:=9) rfl) (AK (GA (xs:=r) (h7.var (j:=7) rfl) s (CZ (by (clear hx h0 hm1 hrl hm hl hk z hc hb ha;omega)) (by rw [CD];exact Dd (by (clear hx hm1 hm hl hk z hc hb ha;omega))))))) rfl) (show 9 < 10 by decide)) λ ρ h=>⟨_,⟨by split <;> (clear h0 hrl hm hl hk z hc hb ha;omega),by split <;> (clear hx h0 hrl hm hl hk z hc hb ha;omega),λ n hn=>by rw [show m - 1=n by (clear hx h0 hm1 hrl hm hl hk z hc hb ha;omega)];split <;> (clear hn hx h0 hm1 hrl hm hl hk z hc hb ha;omega)⟩,h⟩)
   ·rw [decide_eq_false (by (clear hm1 hrl hm hl hk z hc hb ha;omega))] at q;exact Nx.no q ⟨m1,⟨hm1.1,hm1.2,λ n hn=>absurd hn (by (clear hn hm1 hrl hm hl hk z hc hb ha;omega))⟩,h7⟩
  ·obtain ⟨y,hy,ey⟩:=uE (l / 9) (l % ((c:Int) + 1)) (Ks _ (by (clear hm2 hm1 hrl hm hl hk z hc hb ha;omega)));let v:=m2 - (if y < m2 then y else m2);have hv:0<=v/\v<=m2:=by
    show 0<=m2 - (if y < m2 then y else m2)/\m2 - (if y < m2 then y else m2)<=m2;split <;> (clear hm1 hrl hm hl hk z hc hb ha;omega)
   have v1:Aa 1 ρ8=.ok (.int l,om,ρ8):=h8.var rfl;have f1:=C5 (op:=BG) (z:=il [0,1,0,2,l % ((c:Int) + 1)]) (c:=om) (AD (f:=bC (.int 0)) rfl (AD (f:=bC (.int 1)) rfl (AD (f:=bC (.int 0)) rfl (AD (f:=bC (.int 2)) rfl (AK (DB v1 (Dj (g:=bC (.int 1)) (j:=1) (e:=om) (h8.var (j:=4) (x:=.int c) rfl) rfl) (by (clear hv hy hm2 hm1 hrl hm hl hk z hc hb ha;omega)))))))) rfl;have f2:=DB (g:=bC (.int 5)) (j:=5) (e:=om) (FC (g:=bC (.int 9)) (j:=9) (e:=om) v1 rfl (by decide) (by decide)) rfl (by decide);refine Nx.seq (h8.app (i:=7) (xs:=r.map PV.int) (y:=.int v) rfl (by decide) (IU (i:=m2) (h8.var (j:=9) rfl) (C5 (xs:=[(.int m2,om),(.int y,om)]) (AD (h8.var (j:=9) rfl) (AK (GA f1 f2 ey))) rfl)) (by rw [AG];(clear hv hy hm2 hm1 hl hk hc ha;omega))) λ ρ9 h9=>?_;have v1:Aa 1 ρ9=.ok (.int l,om,ρ9):=h9.var rfl;refine Nx.mono (h9.setO (Dj (FC (g:=bC (.int 45)) (j:=45) (e:=om) v1 rfl (by decide) (by decide)) (DB (g:=bC (.int 1009)) (j:=1009) (e:=om) (FD (f:=bC (.int 13)) (i:=13) (d:=om) rfl v1 (.inl (by decide))) rfl (by decide))) (show 1 < 10 by decide)) λ ρ h=>⟨_,r++[v],hr.snoc (by rw [hrl];exact ⟨hv.1,Fl hv.2 hm2.2.1⟩) (λ n hn=>Fl hv.2 (hm2.2.2 n (by (clear hv hy hm2 hm1 hm hl hk z hc hb ha;omega)))),by rw [BI,hrl];rfl,h.weak ⟨rfl,rfl,rfl,rfl,rfl,rfl,rfl,?_,trivial⟩ λ _ h=>h⟩
   unfold il;rw [Ey];rfl
 ·refine Nx.mono (h.appK (i:=5) (xs:=t.map il) (y:=il r) rfl (by decide) (by decide) (h.var (j:=7) rfl) (by rw [AG];(clear hrl hc hb;omega))) λ ρ h=>⟨l,t++[r],ht.snoc hrl (λ y hy=>hr.1 y (by (clear hl hk z hc hb ha;omega))) (λ n hn=>hr.2 n hn),h.weak ⟨rfl,rfl,rfl,rfl,rfl,?_,trivial⟩ λ _ h=>h⟩
  unfold tb;rw [Ey];rfl
def OC:List Int->Bool
 | []=>true
 | x::l=>l.all (λ y=>!(x == y)) && OC l
theorem UG:∀ {l:List Int},OC l=true->l.Pairwise (·≠·)
 | [],_=>List.Pairwise.nil
 | x::l,h=>by
  rw [OC,AS] at h;refine List.Pairwise.cons (λ y hy=>?_) (UG h.2)
  have:=jb5.mp h.1 y hy
  simpa using this
def K1 (b c:Nat):Bool:=OC ((Au b c).map λ r=>Gx (AE r))
theorem VS {α:Type}{f:α->Int}:∀ {l:List α}{x:Int},(l.map f).Pairwise (·≠·)->(l.filter λ y=>f y == x).length<=1
 | [],_,_=>by simp
 | y::l,x,h=>by
  rw [AR,jf8] at h;rw [Dw];split
  ·rename_i e
   have:l.filter (λ z=>f z == x)=[]:=by
    rw [ji7];intro z hz e2;exact h.1 _ (SD hz) ((eq_of_beq e).trans (eq_of_beq e2).symm)
   rw [this];simp
  ·exact VS h.2
def dk_of {b c:Nat} (h:K1 b c=true):DQ ((Au b c).map AE)=true:=by
 unfold K1 at h;have hp:=UG h;unfold DQ;rw [AS,jb5,jb5];refine ⟨λ k hk=>?_,λ k hk=>?_⟩
 ·obtain ⟨r,_,rfl⟩:=jd4.mp hk;rw [jb5];intro x hx;obtain ⟨n,_,rfl⟩:=jd4.mp hx;rfl
 ·rw [decide_eq_true_iff];refine VS (f:=Gx) ?_;rw [Cu];exact hp
def Wt {n:Nat}{c:Nat}:(Au n c).length<=(c + 1) ^ n:=X3 (m:=c + 1) n λ j _=>by omega
def ZV {a b c:Nat} (ha:1<=a/\a<=6) (hb:1<=b/\b<=6) (hc:c<=6) (h:K1 b c=true):BoxT a b c:=by
 refine ⟨by omega,by omega,by omega,dk_of h,λ n hn=>?_⟩;have h1:(c + 1) ^ n<=7 ^ n:=Mj (by (clear hn hb ha;omega)) n;have h2:7 ^ n<=7 ^ 6:=Kz (by (clear h1 hn hc hb ha;omega)) (by (clear h1 hc ha;omega))
 have:=Wt (n:=n) (c:=c)
 (clear hn hc hb ha;omega)
def LD (b0 B c0 C:Nat) (f:Nat->Nat->Bool):Bool:=(Aq B).all λ b=>(Aq C).all λ c=>f (b + b0) (c + c0)
def MM {b0 B c0 C:Nat}{f:Nat->Nat->Bool} (h:LD b0 B c0 C f=true) {b c:Nat} (hb:b0<=b/\b < b0 + B) (hc:c0<=c/\c < c0 + C):f b c=true:=by
 have h1:=jb5.mp (jb5.mp h (b - b0) (jc4.mpr (by omega))) (c - c0) (jc4.mpr (by omega));rwa [show b - b0 + b0=b by omega,show c - c0 + c0=c by omega] at h1
def yK:LD 1 3 1 4 K1=true:=by kernel_rfl
def yJ:LD 4 3 1 3 K1=true:=by kernel_rfl
def ZD {a b c:Nat} (ha:1<=a) (hb:1<=b) (hc:1<=c) (h:(a<=4/\b<=3/\c<=4)\/(a<=2/\4<=b/\b<=6/\c<=3)):BoxN a b c:=by
 have hd:K1 b c=true:=by
  rcases h with h | h
  ·exact MM yK (by omega) (by omega)
  ·exact MM yJ (by (clear hc hb ha;omega)) (by omega)
 refine ⟨ZV (by omega) (by omega) (by (clear hc hb ha;omega)) hd,hc,?_,by (clear hc hb ha;omega)⟩;have r:=Wt (n:=b) (c:=c);rcases h with h | h
 ·have h1:(c + 1) ^ b<=5 ^ b:=Mj (by (clear r hc hb ha;omega)) b;have h2:5 ^ b<=5 ^ 3:=Kz (by (clear h1 h r hc hb ha;omega)) (by (clear h1 r hc hb ha;omega));have h3:(Au b c).length ^ (a + 1)<=125 ^ (a + 1):=Mj (by (clear h hc hb ha;omega)) _;have h4:125 ^ (a + 1)<=125 ^ 5:=Kz (by (clear h3 h2 h1 h r hc hb ha;omega)) (by (clear h3 h2 h1 r hc hb ha;omega));exact Cv h3 (Cv h4 (by decide))
 ·have h1:(c + 1) ^ b<=4 ^ b:=Mj (by (clear r hc hb ha;omega)) b;have h2:4 ^ b<=4 ^ 6:=Kz (by (clear h1 h r hc hb ha;omega)) (by (clear h1 r hc hb ha;omega));have h3:(Au b c).length ^ (a + 1)<=4096 ^ (a + 1):=Mj (by (clear h hc hb ha;omega)) _;have h4:4096 ^ (a + 1)<=4096 ^ 3:=Kz (by (clear h3 h2 h1 h r hc hb ha;omega)) (by (clear h3 h2 h1 r hc hb ha;omega));exact Cv h3 (Cv h4 (by decide))
section
variable {a b c:Nat}{hs:List C3}
end
section
variable {a b c:Nat}{low high t u:List (List Int)}
def U6 (h:Tab a b t) {i j:Nat} (hn:¬ (i < a/\j < b)):g t i j=0:=by
 unfold g;by_cases hi:i < a
 ·rw [AL,E1 (by rw [h.row hi];omega)];rfl
 ·rw [AL (l:=t),E1 (by rw [h.1];omega)];rfl
def yG (p:Pile a b c t) (i j:Nat):0<=g t i j:=by
 by_cases h:i < a/\j < b
 ·exact p.lo i j h.1 h.2
 ·rw [U6 p.tab h];exact D5 _
def yF (p:Pile a b c t) (i j:Nat):g t i j<=c:=by
 by_cases h:i < a/\j < b
 ·exact p.hi i j h.1 h.2
 ·rw [U6 p.tab h];omega
def Gj (a b c:Nat):List (List (List Int)):=Bp zF (cF c) c b a
def Po {p:List (List Int)} (h:p∈Gj a b c):Pile a b c p:=ye (λ _ _=>D5 _) h
def Iy (a b:Nat) (low high p:List (List Int)):Bool:=GC (g low) (g high) b a p
def zvo {p:List (List Int)}:Iy a b low high p=true↔∀ i j,i < a->j < b->g low i j<=g p i j/\g p i j<=g high i j:=wL
def JU (p:Pile a b c low) (q:Pile a b c high):(Bp (g low) (g high) c b a).length=((Gj a b c).filter (Iy a b low high)).length:=by
 unfold Gj Iy;rw [Tz (lo':=zF) (hi':=cF c) (λ i j=>yG p i j) (λ i j=>yF q i j) a]
theorem XQ {α:Type}{P Q R:α->Bool}:∀ {l:List α},(∀ x∈l,P x=(Q x || R x))->(∀ x∈l,Q x=true->R x=false)->(l.filter P).length=(l.filter Q).length + (l.filter R).length
 | [],_,_=>rfl
 | x::l,h,h'=>by
  have ih:=XQ (l:=l) (λ y hy=>h y (AH _ hy)) (λ y hy=>h' y (AH _ hy));have e:=h x AF;have e':=h' x AF;rw [Dw,Dw,Dw,e];cases hq:Q x with
  | true=>
   rw [e' hq];simp only [Yp,if_true,Ba];rw [ih];simp;omega
  | false=>
   cases hr:R x with
   | true=>simp only [OF,if_true,Ba];rw [ih];simp;omega
   | false=>simp only [OF];simpa using ih
theorem Wn {α:Type}{P Q R:α->Bool}{z:α}:∀ {l:List α},l.Pairwise (·≠·)->(∀ x∈l,(Q x=true\/R x=true)->P x=true)->(∀ x∈l,Q x=true->R x=true->x=z)->(l.filter Q).length + (l.filter R).length<=(l.filter P).length + 1/\(z∉l->(l.filter Q).length + (l.filter R).length<=(l.filter P).length)
 | [],_,_,_=>⟨by simp,λ _=>by simp⟩
 | x::l,hp,h,h'=>by
  rw [jf8] at hp;obtain ⟨i1,i2⟩:=Wn (l:=l) hp.2 (λ y hy=>h y (AH _ hy)) (λ y hy=>h' y (AH _ hy));have e:=h x AF;have e':=h' x AF;rw [Dw,Dw,Dw];cases hq:Q x with
  | true=>
   rw [e (.inl hq)];cases hr:R x with
   | true=>
    have ez:=e' hq hr;have nz:z∉l:=λ hz=>hp.1 z hz ez
    have:=i2 nz
    refine ⟨?_,λ hz=>absurd (by rw [<- ez];exact AF) hz⟩;simp only [if_true,Ba];omega
   | false=>
    refine ⟨?_,λ hz=>?_⟩
    ·simp only [if_true,Ba];simp;omega
    ·have:=i2 (λ hm=>hz (AH _ hm))
     simp only [if_true,Ba];simp;omega
  | false=>
   cases hr:R x with
   | true=>
    rw [e (.inr hr)];refine ⟨?_,λ hz=>?_⟩
    ·simp only [if_true,Ba];simp;omega
    ·have:=i2 (λ hm=>hz (AH _ hm))
     simp only [if_true,Ba];simp;omega
   | false=>
    have mono:(l.filter P).length<=(if P x=true then x::l.filter P else l.filter P).length:=by split <;> simp
    refine ⟨?_,λ hz=>?_⟩
    ·simp at mono ⊢;omega
    ·have:=i2 (λ hm=>hz (AH _ hm))
     simp at mono ⊢;omega
theorem XY {lo hi:Nat->Nat->Int}{c:Int}{b:Nat}:∀ (n:Nat),(Bp lo hi c b n).Pairwise (·≠·)
 | 0=>by simp [Bp]
 | n + 1=>by
  rw [Bp,YJ];refine ⟨λ r hr=>?_,?_⟩
  ·rw [Su];refine List.Pairwise.imp (λ {x y} h e=>?_) (PR b);have e:=(Y2 e rfl).2;cases e;rw [KJ] at h;cases h
  ·refine List.Pairwise.imp_of_mem (λ {r q} hr hq h u hu v hv e=>?_) (XY n);obtain ⟨x,_,rfl⟩:=jd4.mp hu;obtain ⟨y,_,rfl⟩:=jd4.mp hv;exact h (Y2 e rfl).1
def zI (p:Pile a b c low) (q:Pile a b c high) (r:Pile a b c t) (h1:Di a b low t=true) (h2:Di a b t high=true):(Bp (g low) (g t) c b a).length + (Bp (g t) (g high) c b a).length<=(Bp (g low) (g high) c b a).length + 1:=by
 rw [JU p r,JU r q,JU p q];have h1:∀ i j,i < a->j < b->g low i j<=g t i j:=λ i j hi hj=>by
  unfold Di at h1;exact of_decide_eq_true (jb5.mp h1 (i,j) (zxi.mpr ⟨hi,hj⟩))
 have h2:∀ i j,i < a->j < b->g t i j<=g high i j:=λ i j hi hj=>by
  unfold Di at h2;exact of_decide_eq_true (jb5.mp h2 (i,j) (zxi.mpr ⟨hi,hj⟩))
 refine (Wn (z:=t) (XY a) (λ x _ hx=>zvo.mpr λ i j hi hj=>?_) (λ x hx e1 e2=>?_)).1
 ·have:=h1 i j hi hj
  have:=h2 i j hi hj
  rcases hx with hx | hx
  ·have:=zvo.mp hx i j hi hj;omega
  ·have:=zvo.mp hx i j hi hj;omega
 ·refine MV (Po hx).tab r.tab λ i j hi hj=>?_
  have:=zvo.mp e1 i j hi hj
  have:=zvo.mp e2 i j hi hj
  omega
def Bz (i j:Int):Int:=if j < i then j else i
def BA (i j:Int):Int:=if j > i then j else i
def PL (p:Pile a b c t) (q:Pile a b c u):Pile a b c (zT Bz t u):=WI _ (λ i j k m h1 h2=>by unfold Bz;split <;> split <;> omega) (λ i j=>by unfold Bz;split <;> simp) p q
def PJ (p:Pile a b c t) (q:Pile a b c u):Pile a b c (zT BA t u):=WI _ (λ i j k m h1 h2=>by unfold BA;split <;> split <;> omega) (λ i j=>by unfold BA;split <;> simp) p q
def Dl (i j k:Nat) (x y:Nat):Int:=if x<=i/\y<=j then (k:Int) + 1 else 0
def BD (c i j k:Nat) (x y:Nat):Int:=if i<=x/\j<=y then (k:Int) else (c:Int)
def Yd {i j k:Nat} (hk:k < c):Pile a b c (Cr a b (Dl i j k)):=by
 refine ⟨IC,λ x y hx hy=>?_,λ x y hx hy=>?_,λ x y hx hy=>?_,λ x y hx hy=>?_⟩
 ·rw [Cz hx hy];unfold Dl;split <;> (clear hy hx hk;omega)
 ·rw [Cz hx hy];unfold Dl;split <;> omega
 ·rw [Cz hx hy,Cz (by omega) hy];unfold Dl;split <;> split <;> (clear hy hx hk;omega)
 ·rw [Cz hx hy,Cz hx (by omega)];unfold Dl;split <;> split <;> (clear hy hx hk;omega)
def WD {i j k:Nat} (hk:k < c):Pile a b c (Cr a b (BD c i j k)):=by
 refine ⟨IC,λ x y hx hy=>?_,λ x y hx hy=>?_,λ x y hx hy=>?_,λ x y hx hy=>?_⟩
 ·rw [Cz hx hy];unfold BD;split <;> (clear hy hx hk;omega)
 ·rw [Cz hx hy];unfold BD;split <;> omega
 ·rw [Cz hx hy,Cz (by omega) hy];unfold BD;split <;> split <;> omega
 ·rw [Cz hx hy,Cz hx (by omega)];unfold BD;split <;> split <;> omega
def xi (p:Pile a b c low) (q:Pile a b c high) {i j k:Nat} (hi:i < a) (hj:j < b) (hk:k < c):(Bp (g (zT BA low (Cr a b (Dl i j k)))) (g high) c b a).length + (Bp (g low) (g (zT Bz high (Cr a b (BD c i j k)))) c b a).length=(Bp (g low) (g high) c b a).length:=by
 rw [JU (PJ p (Yd hk)) q,JU p (PL q (WD hk)),JU p q];have gm:∀ x y,x < a->y < b->g (zT BA low (Cr a b (Dl i j k))) x y=BA (g low x y) (Dl i j k x y):=λ x y hx hy=>by rw [GF p.tab IC,Cz hx hy,Cz hx hy]
 have gn:∀ x y,x < a->y < b->g (zT Bz high (Cr a b (BD c i j k))) x y=Bz (g high x y) (BD c i j k x y):=λ x y hx hy=>by rw [GF q.tab IC,Cz hx hy,Cz hx hy]
 have c0:Dl i j k i j=(k:Int) + 1:=by unfold Dl;rw [if_pos ⟨A5 _,A5 _⟩]
 have c1:BD c i j k i j=(k:Int):=by unfold BD;rw [if_pos ⟨A5 _,A5 _⟩]
 have e1:∀ r∈Gj a b c,Iy a b (zT BA low (Cr a b (Dl i j k))) high r=(Iy a b low high r && decide ((k:Int) + 1<=g r i j)):=λ r hr=>by
  have pr:=Po hr;rw [DO,AS,decide_eq_true_iff,zvo,zvo];constructor
  ·intro h;refine ⟨λ x y hx hy=>?_,?_⟩
   ·have:=h x y hx hy
    rw [gm x y hx hy] at this;unfold BA at this;split at this <;> (clear hy hx c1 c0 hk hj hi;omega)
   ·have:=h i j hi hj
    rw [gm i j hi hj,c0] at this;unfold BA at this;split at this <;> (clear c1 c0 hk hj hi;omega)
  ·intro ⟨h,h2⟩ x y hx hy
   have:=h x y hx hy
   rw [gm x y hx hy];have h0:=pr.lo x y hx hy;by_cases hh:x<=i/\y<=j
   ·have:=Pile.anti pr hh.1 hh.2 hi hj
    unfold BA Dl;rw [if_pos hh];split <;> (clear hh h0 hy hx c1 c0 hk hj hi;omega)
   ·unfold BA Dl;rw [if_neg hh];split <;> (clear hh hy hx h2 c1 c0 hk hj hi;omega)
 have e2:∀ r∈Gj a b c,Iy a b low (zT Bz high (Cr a b (BD c i j k))) r=(Iy a b low high r && !decide ((k:Int) + 1<=g r i j)):=λ r hr=>by
  have pr:=Po hr;rw [DO,AS,Sw,decide_eq_false_iff_not,zvo,zvo];constructor
  ·intro h;refine ⟨λ x y hx hy=>?_,?_⟩
   ·have:=h x y hx hy
    rw [gn x y hx hy] at this;unfold Bz at this;split at this <;> (clear hy hx c1 c0 hk hj hi;omega)
   ·have:=h i j hi hj
    rw [gn i j hi hj,c1] at this;unfold Bz at this;split at this <;> (clear c1 c0 hk hj hi;omega)
  ·intro ⟨h,h2⟩ x y hx hy
   have:=h x y hx hy
   rw [gn x y hx hy];have h0:=pr.hi x y hx hy;by_cases hh:i<=x/\j<=y
   ·have:=Pile.anti pr hh.1 hh.2 hx hy
    unfold Bz BD;rw [if_pos hh];split <;> (clear hh h0 hy hx c1 c0 hk hj hi;omega)
   ·unfold Bz BD;rw [if_neg hh];split <;> (clear hh hy hx h2 c1 c0 hk hj hi;omega)
 rw [Kw e1,Kw e2];refine (XQ (λ r _=>?_) (λ r _ h=>?_)).symm
 ·cases Iy a b low high r <;> cases decide ((k:Int) + 1<=g r i j) <;> rfl
 ·rw [AS] at h;rw [h.2];simp
def xW (p:Pile a b c low) (q:Pile a b c high) (h:Di a b low high=true):1<=(Bp (g low) (g high) c b a).length:=by
 have h:∀ i j,i < a->j < b->g low i j<=g high i j:=λ i j hi hj=>by
  unfold Di at h;exact of_decide_eq_true (jb5.mp h (i,j) (zxi.mpr ⟨hi,hj⟩))
 obtain ⟨t,e⟩:=TJ (lo:=g low) (hi:=g high) (c:=(c:Int)) (b:=b) a h (λ i j hi hj=>p.hi i j hi hj) (λ i j hi hj=>p.dn i j hi hj) (λ i j hi hj=>p.rt i j hi hj);rw [e];simp
def FR:List (List Int)->List (List Int)->Bool
 | r::p,q::s=>if r=q then FR p s else BO r q
 | _,_=>false
theorem Wq:∀ p:List (List Int),FR p p=false
 | []=>rfl
 | r::p=>by rw [FR,if_pos rfl];exact Wq p
theorem Vr:∀ {p q:List (List Int)},p.length=q.length->p≠q->∃ m,m < p.length/\(∀ i,i < m->p.getD i []=q.getD i [])/\p.getD m []≠q.getD m []/\FR p q=BO (p.getD m []) (q.getD m [])
 | [],[],_,h=>absurd rfl h
 | [],_::_,e,_=>by cases e
 | _::_,[],e,_=>by cases e
 | r::p,q::s,e,h=>by
  by_cases e1:r=q
  ·subst e1;obtain ⟨m,hm,h1,h2,h3⟩:=Vr (p:=p) (q:=s) (by simpa using e) (λ e2=>h (by rw [e2]));refine ⟨m + 1,by simp;omega,λ i hi=>?_,by simpa using h2,by rw [FR,if_pos rfl,h3];simp⟩;cases i with
   | zero=>rfl
   | succ i=>simpa using h1 i (by omega)
  ·exact ⟨0,by simp,λ i hi=>absurd hi (by omega),by simpa using e1,by rw [FR,if_neg e1];rfl⟩
def zL (h:Btw a b c low high t a) (h':Btw a b c low high u a) (hn:CT a b c low high t < CT a b c low high u):FR t u=true:=by
 have ne:t≠u:=λ e=>by rw [e] at hn;omega
 obtain ⟨m,hm,h1,h2,h3⟩:=Vr (by rw [h.len,h'.len]) ne;have hm:m < a:=by rw [<- h.len];exact hm
 rw [h3];have lt:=(zqp.mp (jd3.mp (h.row m hm)).1).len;have lu:=(zqp.mp (jd3.mp (h'.row m hm)).1).len;rcases Wr (by rw [lt,lu]) h2 with h4 | h4
 ·exact h4
 ·have:=qt h' h hm (λ i hi=>(h1 i hi).symm) h4
  (clear lu lt hm;omega)
end
end QV
namespace K31
open PySem PySem.Spec PyProof.Rows L2 QQ
abbrev GT:=List (Str×(Bool×Nat×Fn))
abbrev mS (N:List Str) (t:Stmt) (m:List Nat) (G:GT):Sx:=⟨N,A4 t,m,[],G,[],true,[0,1,2,3,4,5,6,7,8,9,10,11],[]⟩
def G0:GT:=[]
def S0:Sx:=⟨["thing"],A4 t0,[],[],G0,[],false,[],[]⟩
abbrev b0:Fs:=QV.Xf_is_whole_number
abbrev F0:Fn:=QV.f_is_whole_number
def h0:Bk (A6 60 S0) (Bm t0)=some b0:=by kernel_rfl
def G1:GT:=[("is_whole_number",(false,1,F0))]
def S1:Sx:=⟨["thing"],A4 t1,[],[],G1,[],false,[],[]⟩
abbrev b1:Fs:=QV.Xf_is_box
abbrev F1:Fn:=QV.f_is_box
def h1:Bk (A6 60 S1) (Bm t1)=some b1:=by kernel_rfl
def G2:GT:=[("is_box",(false,1,F1))]
def S2:Sx:=⟨["box"],A4 t2,[],[],G2,[],false,[],[]⟩
abbrev b2:Fs:=QV.Xf_must_be_box
abbrev F2:Fn:=QV.f_must_be_box
def h2:Bk (A6 60 S2) (Bm t2)=some b2:=by kernel_rfl
def G3:GT:=[("is_whole_number",(false,1,F0))]
def S3:Sx:=⟨["thing","columns","height"],A4 t3,[],[],G3,[],false,[],[]⟩
abbrev b3:Fs:=QV.Xf_is_row_of_heights
abbrev F3:Fn:=QV.f_is_row_of_heights
def h3:Bk (A6 60 S3) (Bm t3)=some b3:=by kernel_rfl
def G4:GT:=[]
def S4:Sx:=⟨["numbers"],A4 t4,[],[],G4,[],false,[],[]⟩
abbrev b4:Fs:=QV.Xf_never_rises
abbrev F4:Fn:=QV.f_never_rises
def h4:Bk (A6 60 S4) (Bm t4)=some b4:=by kernel_rfl
def G5:GT:=[]
def S5:Sx:=⟨["table","j"],A4 t5,[],[],G5,[],false,[],[]⟩
abbrev b5:Fs:=QV.Xf_column_of
abbrev F5:Fn:=QV.f_column_of
def h5:Bk (A6 60 S5) (Bm t5)=some b5:=by kernel_rfl
def G6:GT:=[("must_be_box",(false,1,F2)),("is_row_of_heights",(false,3,F3)),("never_rises",(false,1,F4)),("column_of",(false,2,F5))]
def S6:Sx:=⟨["box","thing","rows","columns","height"],A4 t6,[],[],G6,[],false,[],[]⟩
abbrev b6:Fs:=QV.Xf_is_pile
abbrev F6:Fn:=QV.f_is_pile
def h6:Bk (A6 60 S6) (Bm t6)=some b6:=by kernel_rfl
def G7:GT:=[("is_pile",(false,2,F6))]
def S7:Sx:=⟨["box","pile"],A4 t7,[],[],G7,[],false,[],[]⟩
abbrev b7:Fs:=QV.Xf_must_be_pile
abbrev F7:Fn:=QV.f_must_be_pile
def h7:Bk (A6 60 S7) (Bm t7)=some b7:=by kernel_rfl
def G8:GT:=[("must_be_pile",(false,2,F7))]
def S8:Sx:=⟨["box","pile","other"],A4 t8,[],[],G8,[],false,[],[]⟩
abbrev b8:Fs:=QV.Xf_must_be_two_piles
abbrev F8:Fn:=QV.f_must_be_two_piles
def h8:Bk (A6 60 S8) (Bm t8)=some b8:=by kernel_rfl
def G9:GT:=[]
def S9:Sx:=⟨["box","places","i"],A4 t9,[],[],G9,[],false,[],[]⟩
abbrev b9:Fs:=QV.Xf_places_of
abbrev F9:Fn:=QV.f_places_of
def h9:Bk (A6 60 S9) (Bm t9)=some b9:=by kernel_rfl
def gu:GT:=[("must_be_two_piles",(false,3,F8)),("places_of",(false,1,F9))]
def S10:Sx:=⟨["box","pile","other"],A4 Ol,[],[],gu,[],false,[],[]⟩
abbrev uD:Fs:=QV.Xf_lies_below
abbrev Zn:Fn:=QV.f_lies_below
def h10:Bk (A6 60 S10) (Bm Ol)=some uD:=by kernel_rfl
def gq:GT:=[]
def S11:Sx:=⟨["columns","height","rows","j","longer","row","most"],A4 Oj,[],[],gq,[],false,[],[]⟩
abbrev uC:Fs:=QV.Xf_rows_of_heights
abbrev Zm:Fn:=QV.f_rows_of_heights
def SS:Bk (A6 60 S11) (Bm Oj)=some uC:=by kernel_rfl
def gp:GT:=[]
def S12:Sx:=⟨["tally","other","total","n","many"],A4 Oi,[],[],gp,[],false,[],[]⟩
abbrev uB:Fs:=QV.Xf_added
abbrev Tw:Fn:=QV.f_added
def h12:Bk (A6 60 S12) (Bm Oi)=some uB:=by kernel_rfl
def gk:GT:=[("added",(false,2,Tw))]
def S13:Sx:=⟨["table","columns","sums","j","row","lower"],A4 Oh,[],[],gk,[],false,[],[]⟩
abbrev uA:Fs:=QV.Xf_sums_of_lower_rows
abbrev Zl:Fn:=QV.f_sums_of_lower_rows
def h13:Bk (A6 60 S13) (Bm Oh)=some uA:=by kernel_rfl
def gj:GT:=[]
def S14:Sx:=⟨["row","low","high"],A4 Og,[],[],gj,[],false,[],[]⟩
abbrev u9:Fs:=QV.Xf_lies_between
abbrev Zk:Fn:=QV.f_lies_between
def yE:Bk (A6 60 S14) (Bm Og)=some u9:=by kernel_rfl
def gi:GT:=[("lies_between",(false,3,Zk))]
def S15:Sx:=⟨["behind","low","high","counted","table","row"],A4 Of,[],[],gi,[],false,[],[]⟩
abbrev u7:Fs:=QV.Xf_table_of_row
abbrev Zj:Fn:=QV.f_table_of_row
def yD:Bk (A6 60 S15) (Bm Of)=some u7:=by kernel_rfl
def gf:GT:=[("rows_of_heights",(false,2,Zm)),("sums_of_lower_rows",(false,2,Zl)),("table_of_row",(false,4,Zj))]
def S16:Sx:=⟨["box","low","high","places","rows","columns","height","table","row","tables","i","counted"],A4 Oe,[],[],gf,[],false,[],[]⟩
abbrev u6:Fs:=QV.Xf_tables_between
abbrev Pb:Fn:=QV.f_tables_between
def yC:Bk (A6 60 S16) (Bm Oe)=some u6:=by kernel_rfl
def uZ:GT:=[("added",(false,2,Tw)),("tables_between",(false,4,Pb))]
def S17:Sx:=⟨["box","low","high","places","total","tally"],A4 Od,[],[],uZ,[],false,[],[]⟩
abbrev u5:Fs:=QV.Xf_tally_between
abbrev Zi:Fn:=QV.f_tally_between
def yB:Bk (A6 60 S17) (Bm Od)=some u5:=by kernel_rfl
def uY:GT:=[("must_be_two_piles",(false,3,F8)),("tally_between",(false,4,Zi))]
def S18:Sx:=⟨["box","low","high"],A4 Oc,[],[],uY,[],false,[],[]⟩
abbrev u4:Fs:=QV.Xf_how_many_between
abbrev Fp:Fn:=QV.f_how_many_between
def yA:Bk (A6 60 S18) (Bm Oc)=some u4:=by kernel_rfl
def uX:GT:=[]
def S19:Sx:=⟨["table","ahead"],A4 Ob,[],[],uX,[],false,[],[]⟩
abbrev u0:Fs:=QV.Xf_rows_behind
abbrev Tv:Fn:=QV.f_rows_behind
def y9:Bk (A6 60 S19) (Bm Ob)=some u0:=by kernel_rfl
def uW:GT:=[("rows_behind",(false,2,Tv))]
def S20:Sx:=⟨["table","ahead","number","left","row","many"],A4 Oa,[],[],uW,[],false,[],[]⟩
abbrev uz:Fs:=QV.Xf_row_of_number
abbrev Zh:Fn:=QV.f_row_of_number
def y8:Bk (A6 60 S20) (Bm Oa)=some uz:=by kernel_rfl
def uV:GT:=[("is_whole_number",(false,1,F0)),("must_be_two_piles",(false,3,F8)),("tables_between",(false,4,Pb)),("row_of_number",(false,3,Zh))]
def S21:Sx:=⟨["box","low","high","number","pile","ahead","left","table","found"],A4 NZ,[],[],uV,[],false,[],[]⟩
abbrev uy:Fs:=QV.Xf_nth_between
abbrev M0:Fn:=QV.f_nth_between
def y7:Bk (A6 60 S21) (Bm NZ)=some uy:=by kernel_rfl
def uU:GT:=[("rows_behind",(false,2,Tv))]
def S22:Sx:=⟨["row","table","ahead"],A4 NY,[],[],uU,[],false,[],[]⟩
abbrev ux:Fs:=QV.Xf_how_many_ahead_of
abbrev Zg:Fn:=QV.f_how_many_ahead_of
def y4:Bk (A6 60 S22) (Bm NY)=some ux:=by kernel_rfl
def uT:GT:=[("must_be_pile",(false,2,F7)),("must_be_two_piles",(false,3,F8)),("lies_below",(false,3,Zn)),("tables_between",(false,4,Pb)),("how_many_ahead_of",(false,3,Zg))]
def S23:Sx:=⟨["box","low","high","pile","number","ahead","table","row"],A4 NX,[],[],uT,[],false,[],[]⟩
abbrev uw:Fs:=QV.Xf_number_between
abbrev Pa:Fn:=QV.f_number_between
def y3:Bk (A6 60 S23) (Bm NX)=some uw:=by kernel_rfl
def uS:GT:=[]
def S24:Sx:=⟨["downs","rights","many","n"],A4 NW,[],[],uS,[],false,[],[]⟩
def YZ:Fs:=(Ag (BH (bT (Bv (Ab (BC λ i j=>decide (i < j)) (Aa 0) (bC (.int 0))) (Ab (BC λ i j=>decide (i < j)) (Aa 1) (bC (.int 0))))) (Ax (bC (.int 0))) AJ)
 (Ag (Al false 2 (bC (.int 1)) [])
 (Ag (CQ EA (Af (bC (.int 1)) (Af (Ab Bf (Aa 0) (bC (.int 1))) (Ac))) (asgN 3) (Al false 2 (Ab Ea (Ab BU (Aa 2) (Ab Bf (Aa 1) (Aa 3))) (Aa 3)) [2,1,3,3]))
 (DE 2))))
def Tu:Fn:=Ay false 2 2 YZ
def y2:Bk (A6 60 S24) (Bm NW)=some YZ:=by kernel_rfl
def uR:GT:=[]
def S25:Sx:=⟨["row","first","divisor"],A4 NV,[],[],uR,[],false,[],[]⟩
abbrev _root_.pg3:=Ab A3 (Aa 1) (bC (.int 0))
def YY:Fs:=(Ax (Ca EA (Af (bC (.int 1)) (Af pb4 (Ac))) 1 (asgN 3) Bb (Ab Ea (Ab Ec (Ab BU pg3 (Ab A3 (Aa 0) (Aa 3))) (Ab BU pc0 (Ab A3 (Aa 1) (Aa 3)))) (Aa 2))))
def Tt:Fn:=Ay false 3 0 YY
def y1:Bk (A6 60 S25) (Bm NV)=some YY:=by kernel_rfl
def uQ:GT:=[("row_without_first",(false,3,Tt))]
def S26:Sx:=⟨["table","rest","divisor","first"],A4 NU,[],[],uQ,[],false,[],[]⟩
def YX:Fs:=(Ag (Al false 1 (Aa 0) [0])
 (Ag (Al false 2 (bC (.int 1)) [])
 (Ag (V4 (bT (Ab (BC λ i j=>decide (j < i)) pe3 (bC (.int 1)))) (Ag (Al false 3 pg3 [1])
 (Ag (Al false 1 (Cf (Fo (Aa 1) (some (bC (.int 1))) none) 1 (asgN 4) Bb (A2 Tt (Af (Aa 4) (Af (Aa 3) (Af (Aa 2) (Ac)))))) [1,1,3,2])
 (Al false 2 (Ab A3 (Aa 3) (bC (.int 0))) [3]))))
 (Ax (Ab A3 pg3 (bC (.int 0)))))))
def Ts:Fn:=Ay false 1 3 YX
def y0:Bk (A6 60 S26) (Bm NU)=some YX:=by kernel_rfl
def uP:GT:=[("must_be_box",(false,1,F2)),("how_many_texts",(false,2,Tu)),("determinant",(false,1,Ts))]
def S27:Sx:=⟨["box","rows","columns","height","table","i"],A4 NT,[],[],uP,[],false,[],[]⟩
def YW:Fs:=(Ag (CY (A2 F2 (Af (Aa 0) (Ac))))
 (Ag (Cp (asgT [1,2,3]) (Aa 0) [0])
 (Ag pd9
 (Ag (CQ AY (Af (Aa 3) (Ac)) (asgN 5) (C1 4 (Ca AY (Af (Aa 3) (Ac)) 1 (asgN 6) Bb (A2 Tu (Af (Ab Bf (Ab Ec (Aa 1) (Aa 5)) (Aa 6)) (Af (Ab Ec (Ab Bf (Aa 2) (Aa 5)) (Aa 6)) (Ac))))) [1,5,2,5]))
 (Ax (A2 Ts (Af (Aa 4) (Ac))))))))
def K3:Fn:=Ay false 1 5 YW
def yz:Bk (A6 60 S27) (Bm NT)=some YW:=by kernel_rfl
def uO:GT:=[]
def S28:Sx:=⟨["script","k"],A4 NS,[],[],uO,[],false,[],[]⟩
abbrev uv:Fs:=QV.Xb_cell_at
abbrev JD:Fn:=QV.b_cell_at
def yy:Bk (A6 60 S28) (Bm NS)=some uv:=by kernel_rfl
def uN:GT:=[]
def S29:Sx:=⟨["cell","k","number"],A4 NR,[],[],uN,[],false,[],[]⟩
abbrev uu:Fs:=QV.Xd_mixed
abbrev JC:Fn:=QV.d_mixed
def yx:Bk (A6 60 S29) (Bm NR)=some uu:=by kernel_rfl
def uM:GT:=[]
def S30:Sx:=⟨["left","rows","columns","height"],A4 NQ,[],[],uM,[],false,[],[]⟩
abbrev ur:Fs:=QV.Xd_box
abbrev OZ:Fn:=QV.d_box
def yw:Bk (A6 60 S30) (Bm NQ)=some ur:=by kernel_rfl
def uL:GT:=[]
def S31:Sx:=⟨["box","left","a","b","c","found","i","row","j","most"],A4 NP,[],[],uL,[],false,[],[]⟩
abbrev uq:Fs:=QV.Xd_pile
abbrev OY:Fn:=QV.d_pile
def yv:Bk (A6 60 S31) (Bm NP)=some uq:=by kernel_rfl
def uK:GT:=[]
def S32:Sx:=⟨["box","height"],A4 NO,[],[],uK,[],false,[],[]⟩
def Tg:Fs:=(Ax (Ca AY (Af pc0 (Ac)) 1 (asgN 2) Bb (Ab BU (Ao BG (Af (Aa 1) (Ac))) pb1)))
def JB:Fn:=Ay false 2 0 Tg
def yu:Bk (A6 60 S32) (Bm NO)=some Tg:=by kernel_rfl
def uJ:GT:=[]
def S33:Sx:=⟨["one","other","way"],A4 NN,[],[],uJ,[],false,[],[]⟩
def OW:Fs:=(Ag (BH (bT (Ab (Be false) (Aa 2) (bC (.int 0)))) (Ax (E4 .zp pc3 2 (asgT [3,4]) Bb (E4 .zp pc2 2 (asgT [5,6]) Bb (Ao Kj pb0)))) AJ)
 (Ax (E4 .zp pc3 2 (asgT [3,4]) Bb (E4 .zp pc2 2 (asgT [5,6]) Bb (Ao LB pb0)))))
def EV:Fn:=Ay false 3 0 OW
def yt:Bk (A6 60 S33) (Bm NN)=some OW:=by kernel_rfl
def uI:GT:=[]
def S34:Sx:=⟨["box","pile","i","j"],A4 NM,[],[],uI,[],false,[],[]⟩
abbrev _root_.pb2:=Ab A3 (Ab A3 (Aa 1) (Aa 2)) (Aa 3)
abbrev _root_.pd3:=Ab A3 (Ab A3 (Aa 1) (Aa 2)) (Ab Ec (Aa 3) (bC (.int 1)))
abbrev _root_.pd2:=Ab A3 (Ab A3 (Aa 1) (Ab Ec (Aa 2) (bC (.int 1)))) (Aa 3)
abbrev _root_.pg6:=Ab (BC λ i j=>decide (j < i)) (Aa 2) (bC (.int 0))
abbrev _root_.pa0:=Ag (BH (bT (Bv (D6 pg6 (Ab (BC λ i j=>decide (j < i)) pb2 pd2)) (D6 pb5 (Ab (BC λ i j=>decide (j < i)) pb2 pd3)))) (Ax (bC (.bl false))) AJ) (BH (bT (Bv (Ab (BC λ i j=>decide (i < j)) pb2 (bC (.int 0))) (Ab (BC λ i j=>decide (j < i)) pb2 pc1))) (Ax (bC (.bl false))) AJ)
def Tf:Fs:=(Ag (CQ AY (Af pc0 (Ac)) (asgN 2) (CQ AY (Af pb1 (Ac)) (asgN 3) pa0))
 (Ax (bC (.bl true))))
def Mz:Fn:=Ay false 2 2 Tf
def yr:Bk (A6 60 S34) (Bm NM)=some Tf:=by kernel_rfl
def uH:GT:=[("how_many_between",(false,3,Fp)),("_law_mixture",(false,3,EV))]
def S35:Sx:=⟨["box","low","high","left","i","j","k","corner","capped","with_it","without"],A4 NL,[],[],uH,[],false,[],[]⟩
abbrev _root_.pd8:=Af (D6 (Ab (BC λ i j=>decide (j<=i)) (Aa 11) (Aa 4)) (Ab (BC λ i j=>decide (j<=i)) (Aa 12) (Aa 5))) (Ac)
abbrev _root_.pd7:=Af (D6 (Ab (BC λ i j=>decide (i<=j)) (Aa 11) (Aa 4)) (Ab (BC λ i j=>decide (i<=j)) (Aa 12) (Aa 5))) (Ac)
def Te:Fs:=(Ag (Al false 4 (Ab Cy (Aa 3) pc0) [3,0])
 (Ag (Al false 5 (Ab Cy (Ab Ea (Aa 3) (bC (.int 5))) pb1) [3,0])
 (Ag (Al false 6 (Ab Cy (Ab Ea (Aa 3) (bC (.int 25))) pc1) [3,0])
 (Ag (Al false 7 (Ca AY (Af pc0 (Ac)) 1 (asgN 11) Bb (Ca AY (Af pb1 (Ac)) 1 (asgN 12) Bb (Ab BU (Ao IS pd7) pe9))) [4,5,6])
 (Ag (Al false 8 (Ca AY (Af pc0 (Ac)) 1 (asgN 11) Bb (Ca AY (Af pb1 (Ac)) 1 (asgN 12) Bb (Ab A3 (Ao BG (Af pc1 (Af (Aa 6) (Ac)))) (Ao IS pd8)))) [0,6,4,5])
 (Ag (Al false 9 (A2 Fp (Af (Aa 0) (Af (A2 EV (Af (Aa 1) (Af (Aa 7) (Af (bC (.int 1)) (Ac))))) (Af (Aa 2) (Ac))))) [0,1,7,2])
 (Ag (Al false 10 (A2 Fp (Af (Aa 0) (Af (Aa 1) (Af (A2 EV (Af (Aa 2) (Af (Aa 8) (Af (bC (.int 0)) (Ac))))) (Ac))))) [0,1,2,8])
 (Ax (Ab (Be false) (Ab Bf (Aa 9) (Aa 10)) (A2 Fp (Af (Aa 0) pb8)))))))))))
def OX:Fn:=Ay false 4 7 Te
def yq:Bk (A6 60 S35) (Bm NL)=some Te:=by kernel_rfl
def uG:GT:=[("how_many_between",(false,3,Fp)),("nth_between",(false,4,M0)),("number_between",(false,4,Pa)),("count_by_ways",(false,1,K3)),("_law_cell_at",(false,2,JD)),("_law_mixed",(false,2,JC)),("_law_box",(false,4,OZ)),("_law_pile",(false,2,OY)),("_law_flat",(false,2,JB)),("_law_mixture",(false,3,EV)),("_law_is_pile",(false,2,Mz)),("_law_parted",(false,4,OX))]
def S36:Sx:=⟨["script","left","box","one","other","low","high","many","numbers","piles","number","pile","k","both"],A4 Ly,[],[],uG,[],false,[],[]⟩
abbrev _root_.pa8:=Ag (BH (bT (Bv (Bu CS (A2 Mz (Af (Aa 2) (Af (Aa 11) (Ac))))) (Bv (Ab (Be true) (A2 EV (Af (Aa 11) (Af (Aa 5) (Af (bC (.int 1)) (Ac))))) (Aa 11)) (Ab (Be true) (A2 EV (Af (Aa 11) (Af (Aa 6) (Af (bC (.int 0)) (Ac))))) (Aa 11))))) (Ax (bC (.bl false))) AJ) (BH (bT (Ab (Be true) (A2 Pa (Af (Aa 2) (Af (Aa 5) (Af (Aa 6) (Af (Aa 11) (Ac)))))) (Aa 10))) (Ax (bC (.bl false))) AJ)
abbrev _root_.pg2:=Ab Bf (bC (.int 3)) (Aa 14)
abbrev _root_.pa6:=A2 JC (Af (A2 JD (Af (Aa 0) (Af pg2 (Ac)))) (Af pg2 (Ac)))
abbrev _root_.pf4:=Af (Aa 1) (Af (bC (.int 4)) (Af (bC (.int 3)) (Af (bC (.int 4)) (Ac))))
abbrev _root_.pa4:=Af (A2 OZ pf4) (Af (Ao DD (Af (Ab Bf (bC (.int 1)) (Ab Cy (Aa 1) (bC (.int 2)))) (Af (Ab Bf (bC (.int 4)) (Ab Cy (Ab Ea (Aa 1) (bC (.int 2))) (bC (.int 3)))) (Af (Ab Bf (bC (.int 1)) (Ab Cy (Ab Ea (Aa 1) (bC (.int 6))) (bC (.int 3)))) (Ac))))) (Ac))
abbrev _root_.pb3:=BH (bT (Ab (Be true) (Ab Jt (Ab A3 (Aa 9) (Aa 12)) (Ab A3 (Aa 9) (Ab Bf (Aa 12) (bC (.int 1))))) (Ab (BC λ i j=>decide (i < j)) (Ab A3 (Aa 8) (Aa 12)) (Ab A3 (Aa 8) (Ab Bf (Aa 12) (bC (.int 1))))))) (Ax (bC (.bl false))) AJ
abbrev _root_.pd5:=Af (Aa 2) (Af (Aa 5) (Af (Aa 6) (Af (Aa 14) (Ac))))
abbrev _root_.pf7:=Ab Ea (Aa 1) (bC (.int 10000))
abbrev _root_.pg4:=Af (Aa 2) (Af (Ab A3 (Aa 2) (bC (.int 2))) (Ac))
abbrev _root_.ph5:=Af (Aa 2) (Af (bC (.int 0)) (Ac))
def Td:Fs:=(Ag (Al false 1 (A2 JC (Af (A2 JD (Af (Aa 0) (Af (bC (.int 0)) (Ac)))) (Af (bC (.int 0)) (Ac)))) [0])
 (Ag (Al false 2 (Ab A3 (Ao BG pa4) (Ab Cy pf7 (bC (.int 2)))) [1,1,1,1,1])
 (Ag (Al false 3 (A2 OY (Af (Aa 2) (Af (A2 JC (Af (A2 JD (Af (Aa 0) (Af (bC (.int 1)) (Ac)))) (Af (bC (.int 1)) (Ac)))) (Ac)))) [2,0])
 (Ag (Al false 4 (A2 OY (Af (Aa 2) (Af (A2 JC (Af (A2 JD (Af (Aa 0) (Af (bC (.int 2)) (Ac)))) (Af (bC (.int 2)) (Ac)))) (Ac)))) [2,0])
 (Ag (Al false 5 (A2 EV (Af (Aa 3) (Af (Aa 4) (Af (bC (.int 0)) (Ac))))) [3,4])
 (Ag (Al false 6 (A2 EV (Af (Aa 3) (Af (Aa 4) (Af (bC (.int 1)) (Ac))))) [3,4])
 (Ag (BH (bT (Ab (Be false) (Ab Cy (Ab Ea (Aa 1) (bC (.int 64))) (bC (.int 2))) (bC (.int 0)))) (Ag (Al false 5 (A2 JB ph5) [2])
 (Ag (Al false 6 (A2 JB pg4) [2,2])
 (BH (bT (Ab (Be true) (A2 Fp (Af (Aa 2) pb0)) (A2 K3 (Af (Aa 2) (Ac))))) (Ax (bC (.bl false))) AJ))) AJ)
 (Ag (Al false 7 (A2 Fp (Af (Aa 2) pb0)) [2,5,6])
 (Ag (BH (bT (Bv (Ab (BC λ i j=>decide (i < j)) (Aa 7) (bC (.int 1))) (Bu CS (A2 OX (Af (Aa 2) (Af (Aa 5) (Af (Aa 6) (Af (Ab Ea (Aa 1) (bC (.int 128))) (Ac))))))))) (Ax (bC (.bl false))) AJ)
 (Ag (Al false 8 (Ao LC (Af (Ca AY (Af (bC (.int 6)) (Ac)) 1 (asgN 14) Bb (Ab Cy pa6 (Aa 7))) (Ac))) [0,7])
 (Ag (Al false 9 (Cf (Aa 8) 1 (asgN 14) Bb (A2 M0 pd5)) [8,2,5,6,8])
 (Ag (Gy .zp (Af (Aa 8) (Af (Aa 9) (Ac))) [8,9] (asgT [10,11]) pa8)
 (Ag (CQ AY (Af (bC (.int 5)) (Ac)) (asgN 12) pb3)
 (Ag (Al false 13 (Ab Bf (A2 Fp (Af (Aa 2) (Af (Aa 5) (Af (Ab A3 (Aa 9) (bC (.int 0))) (Ac))))) (A2 Fp (Af (Aa 2) (Af (Ab A3 (Aa 9) (bC (.int 0))) (Af (Aa 6) (Ac)))))) [2,5,9,2,9,6])
 (Ax (Ab (BC λ i j=>decide (i<=j)) (Aa 13) (Ab Bf (Aa 7) (bC (.int 1)))))))))))))))))))
def F36:Fn:=Ay false 1 13 Td
def yp:Bk (A6 60 S36) (Bm Ly)=some Td:=by kernel_rfl
open PySem PySem.Spec PyProof.Rows L2 QQ QV
section
variable {a b c:Nat}{t u low high:List (List Int)}
def Vf {op:List (PV×Nat)->Option (PV×Nat)}{h:Int->Int->Int} (hop:∀ i j,op [(.int i,om),(.int j,om)]=some (.int (h i j),om)) (ht:Tab a b t) (hu:Tab a b u) (ha:a<=1000) (hb:b<=1000) (w:Int):
  E4 .zp pc3 2 (asgT [3,4]) Bb (E4 .zp pc2 2 (asgT [5,6]) Bb (Ao op pb0)) [some (tb t,0),some (tb u,0),some (.int w,om)]=.ok (tb (zT h t u),om,[some (tb t,0),some (tb u,0),some (.int w,om)]):=by
 have z:=sz;let R:Ae:=[some (tb t,0),some (tb u,0),some (.int w,om)]
 have row:∀ (r s:List Int),r.length=b->s.length=b->E4 .zp pc2 2 (asgT [5,6]) Bb (Ao op pb0) (R++[some (il r,0),some (il s,0)])=.ok (il (Mc h r s),om,R++[some (il r,0),some (il s,0)]):=by
  intro r s hr hs;rw [VA (enc:=λ (z:Int×Int)=>.tup [.int z.1,.int z.2]) (q:=λ z=>.int (h z.1 z.2)) (E:=λ z=>[some (.int z.1,om),some (.int z.2,om)]) (r.zip s) rfl (by show some (By (r.map PV.int) (s.map PV.int))=_;rw [Qa]) (λ _ _=>rfl) (λ z _=>C5 (xs:=[(.int z.1,om),(.int z.2,om)]) rfl (hop _ _)) (by rw [Jy];omega)];show Rz.ok (PV.lst _,om,_)=Rz.ok (PV.lst ((Mc h r s).map PV.int),om,_);rw [<- List.map_uncurry_zip_eq_zipWith,Cu];rfl
 have:=VA (k:=2) (v:=.zp) (fa:=Af (Aa 0) (Af (Aa 1) (Ac))) (asg:=asgT [3,4]) (elt:=E4 .zp pc2 2 (asgT [5,6]) Bb (Ao op pb0)) (enc:=λ (z:List Int×List Int)=>.tup [il z.1,il z.2]) (q:=λ z=>il (Mc h z.1 z.2)) (E:=λ z=>[some (il z.1,0),some (il z.2,0)]) (ρ:=R) (ρ1:=R) (as:=[(tb t,0),(tb u,0)]) (t.zip u) rfl (by show some (By (t.map il) (u.map il))=_;rw [Qa]) (λ _ _=>rfl) (λ z hz=>row z.1 z.2 (ht.2 z.1 (Jz hz).1) (hu.2 z.2 (Jz hz).2)) (by rw [Jy,ht.1];omega)
 rw [this];show Rz.ok (PV.lst _,om,_)=Rz.ok (PV.lst ((zT h t u).map il),om,_);unfold zT;rw [Cu];rfl
def Rt (ht:Tab a b t) (hu:Tab a b u) (ha:a<=1000) (hb:b<=1000):EV [tb t,tb u,.int 0]=.ok (tb (zT Bz t u),om,.non):=by
 have k:=Vf (op:=Kj) (h:=Bz) (λ _ _=>rfl) ht hu ha hb 0;exact Cg (b:=OW) rfl (Ii ((CJ (AI (b:=true) (d:=om) rfl)).trans (De k)))
def Rr (ht:Tab a b t) (hu:Tab a b u) (ha:a<=1000) (hb:b<=1000):EV [tb t,tb u,.int 1]=.ok (tb (zT BA t u),om,.non):=by
 have k:=Vf (op:=LB) (h:=BA) (λ _ _=>rfl) ht hu ha hb 1;exact Cg (b:=OW) rfl ((DZ (AI (b:=false) (d:=om) rfl)).trans (De k))
def U4 (v:Int) (ha:a<=1000) (hb:b<=1000):JB [bx a b c,.int v]=.ok (tb (Cm a b v),om,.non):=by
 let R:Ae:=[some (bx a b c,0),some (.int v,om)]
 have k:=zq (a:=a) (b:=b) (n:=2) (v:=v) (f:=Ab A3 (Aa 0) (bC (.int 0))) (g:=Ab BU (Ao BG (Af (Aa 1) (Ac))) pb1) (ρ:=R) (d:=om) rfl ha hb rfl (λ k=>R4 (v:=v) (n:=b) (d:=om) (e:=om) rfl rfl hb);exact Cg (b:=Tg) rfl (De k)
def is_pile_ok (p:Pile a b c t) (ha:a<=1000) (hb:b<=1000):Mz [bx a b c,tb t]=.ok (.bl true,om,.non):=by
 let L (s2 s3:Option PV):List (Option PV):=[some (bx a b c),some (tb t),s2,s3]
 have H0:HV (L none none) [] [some (bx a b c,0),some (tb t,0),none,none]:=HV.of [some (bx a b c,0),some (tb t,0),none,none];have rng:∀ {n k:Nat}{x:PV},((Aq n).map λ (k:Nat)=>PV.int (k:Int))[k]?=some x->k < n/\x=.int (k:Int):=λ {n k x} hx=>by
  rw [BW] at hx;by_cases hk:k < n
  ·rw [HB hk] at hx;cases hx;exact ⟨hk,rfl⟩
  ·rw [E1 (by rw [DT];omega)] at hx;cases hx
 obtain ⟨ρ',e,h⟩:=IB (asg:=asgN 2) (body:=(CQ AY (Af pb1 (Ac)) (asgN 3) pa0)) ((Aq a).map λ (k:Nat)=>.int (k:Int)) (λ _=>HV (L none none) []) _ H0 (by
  intro i x ρ hx H;obtain ⟨hi,rfl⟩:=rng hx;obtain ⟨ρa,ea,Ha⟩:=H.asgN (i:=2) (.int (i:Int)) (show 2 < 4 by decide) (λ h=>nomatch h);obtain ⟨ρ',e,h⟩:=IB (asg:=asgN 3) (body:=pa0) ((Aq b).map λ (k:Nat)=>.int (k:Int)) (λ _=>HV (L (some (.int (i:Int))) none) []) ρa Ha (by
   intro j x ρ hx H;obtain ⟨hj,rfl⟩:=rng hx;obtain ⟨ρb,eb,Hb⟩:=H.asgN (i:=3) (.int (j:Int)) (show 3 < 4 by decide) (λ h=>nomatch h);have v2:Aa 2 ρb=.ok (.int (i:Int),om,ρb):=Hb.var rfl;have v3:Aa 3 ρb=.ok (.int (j:Int),om,ρb):=Hb.var rfl;have tij:=JR (i:=i) (j:=j) p.tab (Hb.var (j:=1) rfl) v2 v3 hi hj;have z2:=CG (p:=λ i j=>decide (j < i)) (g:=bC (.int 0)) (j:=0) (e:=om) v2 rfl;have z3:=CG (p:=λ i j=>decide (j < i)) (g:=bC (.int 0)) (j:=0) (e:=om) v3 rfl;have c1:D6 pg6 (Ab (BC λ i j=>decide (j < i)) pb2 pd2) ρb=.ok (.bl false,om,ρb):=by
    have:=LJ (b:=false) (g:=Ab (BC λ i j=>decide (j < i)) pb2 pd2) z2 (λ h=>by
     have hi0:0 < i:=by have:=of_decide_eq_true h;(clear hj hi hb ha;omega)
     have s:=IU (g:=bC (.int 1)) (j:=1) (e:=om) v2 rfl;rw [show (i:Int) - 1=((i - 1:Nat):Int) by (clear hj hi hb ha;omega)] at s
     have:=CG (p:=λ i j=>decide (j < i)) tij (JR (i:=i - 1) (j:=j) p.tab (Hb.var (j:=1) rfl) s v3 (by (clear hi0 hj hb ha;omega)) hj)
     rw [this,decide_eq_false (by have:=p.dn (i - 1) j (by (clear hj hb ha;omega)) hj;rw [show i - 1 + 1=i by (clear this hj hi hb ha;omega)] at this;(clear hi0 hj hi hb ha;omega))]) rfl
    rw [Jx] at this;exact this
   have c2:D6 pb5 (Ab (BC λ i j=>decide (j < i)) pb2 pd3) ρb=.ok (.bl false,om,ρb):=by
    have:=LJ (b:=false) (g:=Ab (BC λ i j=>decide (j < i)) pb2 pd3) z3 (λ h=>by
     have hj0:0 < j:=by have:=of_decide_eq_true h;(clear hj hi hb ha;omega)
     have s:=IU (g:=bC (.int 1)) (j:=1) (e:=om) v3 rfl;rw [show (j:Int) - 1=((j - 1:Nat):Int) by (clear hj hi hb ha;omega)] at s
     have:=CG (p:=λ i j=>decide (j < i)) tij (JR (i:=i) (j:=j - 1) p.tab (Hb.var (j:=1) rfl) v2 s hi (by (clear hj0 hi hb ha;omega)))
     rw [this,decide_eq_false (by have:=p.rt i (j - 1) hi (by (clear hi hb ha;omega));rw [show j - 1 + 1=j by (clear this hj hi hb ha;omega)] at this;(clear hj0 hj hi hb ha;omega))]) rfl
    rw [Jx] at this;exact this
   have q1:=CG (p:=λ i j=>decide (i < j)) (g:=bC (.int 0)) (j:=0) (e:=om) tij rfl;rw [decide_eq_false (by have:=p.lo i j hi hj;(clear hj hi hb ha;omega))] at q1;have q2:=CG (p:=λ i j=>decide (j < i)) (g:=Ab A3 (Aa 0) (bC (.int 2))) (j:=(c:Int)) (e:=om) tij (BR (x:=bx a b c) (d:=0) (e:=om) (Hb.var rfl) rfl rfl);rw [decide_eq_false (by have:=p.hi i j hi hj;(clear hj hi hb ha;omega))] at q2;exact ⟨ρb,ρb,eb,(DZ (AI (Hj (a:=false) (b:=false) c1 (λ _=>c2) rfl))).trans ((CK (AI (Hj (a:=false) (b:=false) q1 (λ _=>q2) rfl))).trans rfl),Hb.weak ⟨rfl,rfl,rfl,trivial⟩ λ _ h=>h⟩)
  exact ⟨ρa,ρ',ea,MJ (n:=b) (as:=[(.int (b:Int),om)]) (AK (BR (x:=bx a b c) (d:=0) (e:=om) (Ha.var rfl) rfl rfl)) (Et (by (clear hi hb ha;omega)) (by omega)) e,h.weak ⟨rfl,rfl,trivial⟩ λ _ h=>h⟩)
 exact Cg (b:=Tf) rfl ((AU (MJ (n:=a) (as:=[(.int (a:Int),om)]) (AK (BR (x:=bx a b c) (d:=0) (e:=om) (H0.var rfl) rfl rfl)) (Et (by omega) (by omega)) e)).trans rfl)
end
section
variable {a b c:Nat}{t u low high:List (List Int)}
def Sa (x:Int) {n:Nat} (h:1<=n):∃ i:Nat,i < n/\x % (n:Int)=(i:Int):=by
 have m0:=Ks x (show (n:Int)≠0 by omega);have m1:=Mi x (show (0:Int) < n by omega);exact ⟨(x % (n:Int)).toNat,by omega,by omega⟩
def Xr {n:Nat}{F:Nat->Nat->Int}{f h elt:Fx}{ρ:Ae}{d e:Nat} (hn:ρ.length=n) (ha:a<=1000) (hb:b<=1000) (h0:f ρ=.ok (.int (a:Int),d,ρ)) (h1:∀ x:Nat,h (ρ++[some (.int (x:Int),om)])=.ok (.int (b:Int),e,ρ++[some (.int (x:Int),om)]))
  (h2:∀ x y:Nat,x < a->y < b->elt (ρ++[some (.int (x:Int),om)]++[some (.int (y:Int),om)])=.ok (.int (F x y),om,ρ++[some (.int (x:Int),om)]++[some (.int (y:Int),om)])):
  Ca AY (Af f (Ac)) 1 (asgN n) Bb (Ca AY (Af h (Ac)) 1 (asgN (n + 1)) Bb elt) ρ=.ok (tb (Cr a b F),om,ρ):=by
 have z:=sz;have w:=GQ (n:=n) (en:=AY) (fa:=Af f Ac) (elt:=Ca AY (Af h (Ac)) 1 (asgN (n + 1)) Bb elt) (q:=λ x=>il (EG (F x) b)) (ρ:=ρ) (ρ1:=ρ) (as:=[(.int (a:Int),d)]) (lo:=0) (hi:=(a:Int)) (AK h0) (Et (by (clear z hb ha hn;omega)) (by (clear z hb hn;omega))) hn (λ x hx=>by
  rw [EM];have w2:=GQ (n:=n + 1) (en:=AY) (fa:=Af h Ac) (elt:=elt) (q:=λ y=>.int (F x y)) (ρ:=ρ++[some (.int (x:Int),om)]) (ρ1:=ρ++[some (.int (x:Int),om)]) (as:=[(.int (b:Int),e)]) (lo:=0) (hi:=(b:Int)) (AK (h1 x)) (Et (by (clear hx z hb ha hn;omega)) (by (clear hx z ha hn;omega))) (by rw [BI,hn];rfl) (λ y hy=>by
   rw [EM];exact h2 x y (by (clear hy z hb ha hn;omega)) (by (clear hx z hb ha hn;omega))) (by (clear hx ha hn;omega))
  rw [w2,show ((b:Int) - 0).toNat=b by (clear hx z hb ha hn;omega)];unfold il EG;rw [Cu];rfl) (by omega)
 rw [w,show ((a:Int) - 0).toNat=a by (clear z hb ha hn;omega)];unfold tb Cr;rw [Cu];rfl
def wj (N:BoxN a b c) (p:Pile a b c low) (q:Pile a b c high) (l:Int):∃ d z,OX [bx a b c,tb low,tb high,.int l]=.ok (.bl true,d,z):=by
 have ha:=N.box.ha;have hb:=N.box.hb;have hc:=N.box.hc;have hc1:=N.hc;obtain ⟨i,hi,ei⟩:=Sa l (n:=a) (by (clear hc1 hc hb;omega));obtain ⟨j,hj,ej⟩:=Sa (l / 5) (n:=b) (by (clear ei hi hc1 hc ha;omega));obtain ⟨k,hk,ek⟩:=Sa (l / 25) (n:=c) (by (clear ej hj ei hi hc hb ha;omega));let L (s4 s5 s6 s7 s8 s9 s10:Option PV):List (Option PV):=[some (bx a b c),some (tb low),some (tb high),some (.int l),s4,s5,s6,s7,s8,s9,s10]
 refine Gv.fn rfl (show Gv Te [some (bx a b c,0),some (tb low,0),some (tb high,0),some (.int l,om),none,none,none,none,none,none,none] _ from ?_);have H0:HV (L none none none none none none none) [] [some (bx a b c,0),some (tb low,0),some (tb high,0),some (.int l,om),none,none,none,none,none,none,none]:=HV.of [some (bx a b c,0),some (tb low,0),some (tb high,0),some (.int l,om),none,none,none,none,none,none,none];have bi:∀ {ρ:Ae}{L:List (Option PV)} (n:Int) (m:Nat),HV L [] ρ->L[0]?=some (some (bx a b c))->A3 (bx a b c) 0 (.int n) om=some (.int (m:Int),om)->Ab A3 (Aa 0) (bC (.int n)) ρ=.ok (.int (m:Int),om,ρ):=λ n m H e h=>BR (x:=bx a b c) (d:=0) (e:=om) (H.var e) rfl h;refine Gv.ex (H0.setO (x:=.int (i:Int)) (by
  rw [<- ei];exact DB (H0.var rfl) (bi 0 a H0 rfl rfl) (by (clear ek hk ej hj ei hi hc1 hc hb;omega))) (show 4 < 11 by decide)) λ ρ1 H1=>?_
 refine Gv.ex (H1.setO (x:=.int (j:Int)) (by
  rw [<- ej];exact DB (FC (j:=5) (e:=om) (H1.var rfl) rfl (by decide) (by decide)) (bi 1 b H1 rfl rfl) (by (clear ek hk ej hj ei hi hc1 hc ha;omega))) (show 5 < 11 by decide)) λ ρ2 H2=>?_
 refine Gv.ex (H2.setO (x:=.int (k:Int)) (by
  rw [<- ek];exact DB (FC (j:=25) (e:=om) (H2.var rfl) rfl (by decide) (by decide)) (bi 2 c H2 rfl rfl) (by (clear ek hk ej hj ei hi hc hb ha;omega))) (show 6 < 11 by decide)) λ ρ3 (H3:HV (L (some (.int (i:Int))) (some (.int (j:Int))) (some (.int (k:Int))) none none none none) [] ρ3)=>?_
 refine Gv.ex (H3.setO (x:=tb (Cr a b (Dl i j k))) (Xr (n:=11) (F:=Dl i j k) H3.len (by (clear ek hk ej hj ei hi hc1 hc hb;omega)) (by (clear ek hk ej hj ei hi hc1 hc ha;omega)) (bi 0 a H3 rfl rfl) (λ x=>bi 1 b (H3.push (x:=.int (x:Int)) (d:=om)) rfl rfl) (λ x y hx hy=>by
  have Hp:=(H3.push (x:=.int (x:Int)) (d:=om)).push (x:=.int (y:Int)) (d:=om);have c1:=CG (p:=λ i j=>decide (i<=j)) (Hp.var (j:=11) (x:=.int (x:Int)) rfl) (Hp.var (j:=4) (x:=.int (i:Int)) rfl);have c2:=CG (p:=λ i j=>decide (i<=j)) (Hp.var (j:=12) (x:=.int (y:Int)) rfl) (Hp.var (j:=5) (x:=.int (j:Int)) rfl);have c3:=LJ c1 (λ _=>c2) rfl;have c4:Ao IS pd7 _=.ok (.int (if (decide ((x:Int)<=i) && decide ((y:Int)<=j))=true then 1 else 0),om,_):=C5 (AK c3) (by cases (decide ((x:Int)<=i) && decide ((y:Int)<=j)) <;> rfl);have c5:=FD c4 (Dj (g:=bC (.int 1)) (j:=1) (e:=om) (Hp.var (j:=6) (x:=.int (k:Int)) rfl) rfl) (.inr ⟨by (clear hy hx ek hk ej hj ei hi hc1 hc hb ha;omega),by (clear hy hx ek ej hj ei hi hc1 hb ha;omega)⟩);rw [c5];congr 3;unfold Dl;by_cases h:x<=i/\y<=j
  ·rw [if_pos h,if_pos (by simp;(clear hy hx ek hk ej hj ei hi hc1 hc hb ha;omega))];(clear h hy hx ek hk ej hj ei hi hc1 hc hb ha;omega)
  ·rw [if_neg h,if_neg (by simp;(clear hy hx ek hk ej hj ei hi hc1 hc hb ha;omega))];(clear h hy hx ek hk ej hj ei hi hc1 hc hb ha;omega))) (show 7 < 11 by decide)) λ ρ4 H4=>?_
 refine Gv.ex (H4.setO (x:=tb (Cr a b (BD c i j k))) (Xr (n:=11) (F:=BD c i j k) H4.len (by (clear ek hk ej hj ei hi hc1 hc hb;omega)) (by (clear ek hk ej hj ei hi hc1 hc ha;omega)) (bi 0 a H4 rfl rfl) (λ x=>bi 1 b (H4.push (x:=.int (x:Int)) (d:=om)) rfl rfl) (λ x y hx hy=>by
  have Hp:=(H4.push (x:=.int (x:Int)) (d:=om)).push (x:=.int (y:Int)) (d:=om);have c1:=CG (p:=λ i j=>decide (j<=i)) (Hp.var (j:=11) (x:=.int (x:Int)) rfl) (Hp.var (j:=4) (x:=.int (i:Int)) rfl);have c2:=CG (p:=λ i j=>decide (j<=i)) (Hp.var (j:=12) (x:=.int (y:Int)) rfl) (Hp.var (j:=5) (x:=.int (j:Int)) rfl);have c3:=LJ c1 (λ _=>c2) rfl;have c4:Ao IS pd8 _=.ok (.int (if (decide ((i:Int)<=x) && decide ((j:Int)<=y))=true then 1 else 0),om,_):=C5 (AK c3) (by cases (decide ((i:Int)<=x) && decide ((j:Int)<=y)) <;> rfl);have cl:Ao BG (Af pc1 (Af (Aa 6) (Ac))) _=.ok (il [(c:Int),(k:Int)],om,_):=C5 (AD (bi 2 c Hp rfl rfl) (AK (Hp.var (j:=6) (x:=.int (k:Int)) rfl))) rfl;refine GA cl c4 ?_;unfold BD;by_cases h:i<=x/\j<=y
  ·rw [if_pos h,if_pos (by simp;(clear hy hx ek hk ej hj ei hi hc1 hc hb ha;omega))];rfl
  ·rw [if_neg h,if_neg (by simp;(clear hy hx ek hk ej hj ei hi hc1 hc hb ha;omega))];rfl)) (show 8 < 11 by decide)) λ ρ5 H5=>?_
 have w1:=IH N (PJ p (Yd (a:=a) (b:=b) (i:=i) (j:=j) hk)) q;have w2:=IH N p (PL q (WD (a:=a) (b:=b) (i:=i) (j:=j) hk));have w3:=IH N p q;refine Gv.ex (H5.setO (x:=.int ((Bp (g (zT BA low (Cr a b (Dl i j k)))) (g high) c b a).length:Int)) (AQ (xs:=[(bx a b c,0),(tb (zT BA low (Cr a b (Dl i j k))),om),(tb high,0)]) (AD (H5.var rfl) (AD (AQ (xs:=[(tb low,0),(tb (Cr a b (Dl i j k)),0),(.int 1,om)]) (AD (H5.var rfl) (AD (H5.var rfl) (AK rfl))) (Rr p.tab IC (by (clear ek hk ej hj ei hi hc1 hc hb;omega)) (by (clear ek hk ej hj ei hi hc1 hc ha;omega)))) (AK (H5.var rfl)))) w1) (show 9 < 11 by decide)) λ ρ6 H6=>?_;refine Gv.ex (H6.setO (x:=.int ((Bp (g low) (g (zT Bz high (Cr a b (BD c i j k)))) c b a).length:Int)) (AQ (xs:=[(bx a b c,0),(tb low,0),(tb (zT Bz high (Cr a b (BD c i j k))),om)]) (AD (H6.var rfl) (AD (H6.var rfl) (AK (AQ (xs:=[(tb high,0),(tb (Cr a b (BD c i j k)),0),(.int 0,om)]) (AD (H6.var rfl) (AD (H6.var rfl) (AK rfl))) (Rt q.tab IC (by (clear ek hk ej hj ei hi hc1 hc hb;omega)) (by (clear ek hk ej hj ei hi hc1 hc ha;omega))))))) w2) (show 10 < 11 by decide)) λ ρ7 H7=>?_
 have:=Ip (neg:=false) (Dj (H7.var (j:=9) rfl) (H7.var (j:=10) rfl)) (AQ (F:=Fp) (xs:=[(bx a b c,0),(tb low,0),(tb high,0)]) (AD (H7.var (j:=0) rfl) (AD (H7.var (j:=1) rfl) (AK (H7.var (j:=2) rfl)))) w3)
 rw [decide_eq_true (by have:=xi p q hi hj hk;(clear ek hk ej hj ei hi hc1 hc hb ha;omega))] at this;exact Gv.ret this
def SN (z:Rz (PV×Nat×PV)) (n:Int):Bool:=match z with
 | .ok (.int m,d,.non)=>m == n && d == om
 | _=>false
def Vp {z:Rz (PV×Nat×PV)}{n:Int} (h:SN z n=true):z=.ok (.int n,om,.non):=by
 unfold SN at h;split at h
 ·rw [AS] at h;rw [eq_of_beq h.1,eq_of_beq h.2]
 ·cases h
def YV (a b c:Nat):Nat:=(J9 (DH (EB c b) (λ _=>0) a)).sum
theorem VJ:∀ l:List Nat,(up l).sum=((l.sum:Nat):Int)
 | []=>rfl
 | x::l=>by
  have:=VJ l
  unfold up at this ⊢;rw [AR,Kr,Kr,this];omega
def Gz {v:Int}{i j:Nat} (hi:i < a) (hj:j < b):g (Cm a b v) i j=v:=by
 unfold g Cm;rw [AL (l:=AB a _),DP,if_pos hi];show (AB b v).getD j 0=v;rw [AL,DP,if_pos hj];rfl
def XG {v:Int} (h:0<=v/\v<=c):Pile a b c (Cm a b v):=⟨vO a b v,λ i j hi hj=>by rw [Gz hi hj];exact h.1,λ i j hi hj=>by rw [Gz hi hj];exact h.2,λ i j hi hj=>by rw [Gz hi hj,Gz (by omega) hj];exact D5 _,λ i j hi hj=>by rw [Gz hi hj,Gz hi (by omega)];exact D5 _⟩
def xV:((Bp (g (Cm a b 0)) (g (Cm a b c)) c b a).length:Int)=(YV a b c:Nat):=by
 rw [<- Pe (by omega) (λ i j hi hj=>by rw [Gz hi hj];exact D5 _) (λ i j hi hj=>by rw [Gz hi hj];exact D5 _)]
 have:=vN (a:=a) (b:=b) (c:=c) (ps:=[]) (w:=λ _=>0) (λ i hi r hr=>rfl)
 unfold GD at this;rw [xY] at this;rw [this,VJ];rfl
def HD (a0 A b c:Nat):Bool:=(Aq A).all λ a=>SN (K3 [bx (a + a0:Nat) b c]) (YV (a + a0) b c)
def SV:LD 1 3 1 4 (HD 1 4)=true:=by kernel_rfl
def SU:LD 4 3 1 3 (HD 1 2)=true:=by kernel_rfl
def jU (h1:1<=a/\1<=b/\1<=c) (h:(a<=4/\b<=3/\c<=4)\/(a<=2/\4<=b/\b<=6/\c<=3)):K3 [bx a b c]=.ok (.int ((Bp (g (Cm a b 0)) (g (Cm a b c)) c b a).length:Int),om,.non):=by
 rw [xV];rcases h with h | h
 ·have:=MM SV (b:=b) (c:=c) (by omega) (by omega)
  unfold HD at this
  have:=jb5.mp this (a - 1) (jc4.mpr (by omega))
  rw [show a - 1 + 1=a by omega] at this;exact Vp this
 ·have:=MM SU (b:=b) (c:=c) (by omega) (by omega)
  unfold HD at this
  have:=jb5.mp this (a - 1) (jc4.mpr (by omega))
  rw [show a - 1 + 1=a by omega] at this;exact Vp this
end
def dR (r:List Int):Bq:=.list (r.map .int)
theorem Ws:∀ r q:List Int,r.length=q.length->SeqAt.ltS SeqAt.lt0 (r.map PyData.int) (q.map PyData.int)=BO r q
 | [],[],_=>rfl
 | [],_::_,e=>by cases e
 | _::_,[],e=>by cases e
 | x::r,y::q,e=>by
  rw [AR,AR,SeqAt.ltS,Ws r q (by simpa using e),BO];by_cases h:x=y
  ·subst h;rw [if_pos (by rw [EF];simp)];simp
  ·rw [if_neg (by rw [EF];simpa using h)];simp [h,SeqAt.lt0]
theorem Vs:∀ {b:Nat} (t u:List (List Int)),t.length=u.length->(∀ r∈t,r.length=b)->(∀ r∈u,r.length=b)->SeqAt.ltS (SeqAt.ltL SeqAt.lt0) (t.map dR) (u.map dR)=FR t u
 | _,[],[],_,_,_=>rfl
 | _,[],_::_,e,_,_=>by cases e
 | _,_::_,[],e,_,_=>by cases e
 | b,r::t,q::u,e,h1,h2=>by
  have l1:=h1 r AF;have l2:=h2 q AF;rw [AR,AR,SeqAt.ltS,Vs t u (by simpa using e) (λ x hx=>h1 x (AH _ hx)) (λ x hx=>h2 x (AH _ hx)),FR,show EF (dR r) (dR q)=decide (r=q) by unfold dR;rw [EF,P1],show SeqAt.ltL SeqAt.lt0 (dR r) (dR q)=BO r q from Ws r q (by rw [l1,l2])];by_cases h:r=q
  ·rw [if_pos h,if_pos (decide_eq_true h)]
  ·rw [if_neg h,if_neg (by simpa using h)]
def Vt (t:List (List Int)):SeqAt.ok2 (.list (t.map dR))=true:=by
 show (t.map dR).all (SeqAt.okL SeqAt.ok0)=true;rw [jb5];intro x hx;obtain ⟨r,_,rfl⟩:=jd4.mp hx;show (r.map PyData.int).all SeqAt.ok0=true;rw [jb5];intro y hy;obtain ⟨i,_,rfl⟩:=jd4.mp hy;rfl
def jn {a b:Nat}{t u:List (List Int)} (ht:Tab a b t) (hu:Tab a b u) {d e:Nat}:Jt (tb t) d (tb u) e=some (.bl (FR t u),om):=by
 unfold Jt;rw [O7 17,O7 17];show (if (SeqAt.ok2 (.list (t.map dR)) && SeqAt.ok2 (.list (u.map dR)))=true then some (PV.bl (SeqAt.ltS (SeqAt.ltL SeqAt.lt0) (t.map dR) (u.map dR)),om) else none)=_;rw [Vt,Vt,if_pos (show (true && true)=true from rfl),Vs t u (by rw [ht.1,hu.1]) ht.2 hu.2]
def yI {neg a b:Bool}{d e:Nat}:Be neg (.bl a) d (.bl b) e=some (.bl (neg^^(a == b)),om):=by
 cases neg <;> cases a <;> cases b <;> rfl
def ZW (l:Int):∃ (a b c:Nat),(1<=a/\1<=b/\1<=c)/\((a<=4/\b<=3/\c<=4)\/(a<=2/\4<=b/\b<=6/\c<=3))/\∀ ρ:Ae,Aa 1 ρ=.ok (.int l,om,ρ)->Ab A3 (Ao BG pa4) (Ab Cy pf7 (bC (.int 2))) ρ=.ok (bx a b c,0,ρ):=by
 obtain ⟨x,y,w,hx,hy,hw,eb⟩:=Tc l (r:=4) (s:=3) (t:=4) (by omega) (by omega) (by omega);obtain ⟨p,hp⟩:=JW (i:=1 + l % 2) (by (clear hw hy hx;omega));obtain ⟨q,hq⟩:=JW (i:=4 + l / 2 % 3) (by (clear hp hw hy hx;omega));obtain ⟨r,hr⟩:=JW (i:=1 + l / 6 % 3) (by (clear hq hp hw hy hx;omega));have kl:∀ ρ:Ae,Aa 1 ρ=.ok (.int l,om,ρ)->Ao BG pa4 ρ=.ok (.lst [bx x y w,bx p q r],om,ρ):=λ ρ e=>by
  have k1:A2 OZ pf4 ρ=.ok (bx x y w,om,ρ):=AQ (xs:=[(.int l,om),(.int 4,om),(.int 3,om),(.int 4,om)]) (AD e rfl) eb;have e1:=Dj (f:=bC (.int 1)) (i:=1) (d:=om) (ρ:=ρ) rfl (DB (g:=bC (.int 2)) (j:=2) (e:=om) e rfl (by decide));have e2:=Dj (f:=bC (.int 4)) (i:=4) (d:=om) (ρ:=ρ) rfl (DB (g:=bC (.int 3)) (j:=3) (e:=om) (FC (g:=bC (.int 2)) (j:=2) (e:=om) e rfl (by decide) (by decide)) rfl (by decide));have e3:=Dj (f:=bC (.int 1)) (i:=1) (d:=om) (ρ:=ρ) rfl (DB (g:=bC (.int 3)) (j:=3) (e:=om) (FC (g:=bC (.int 6)) (j:=6) (e:=om) e rfl (by decide) (by decide)) rfl (by decide));rw [hp] at e1;rw [hq] at e2;rw [hr] at e3;exact C5 (AD k1 (AK (C5 (z:=bx p q r) (c:=om) (AD e1 (AD e2 (AK e3))) rfl))) rfl
 have km:∀ ρ:Ae,Aa 1 ρ=.ok (.int l,om,ρ)->Ab Cy pf7 (bC (.int 2)) ρ=.ok (.int (l / 10000 % 2),om,ρ):=λ ρ e=>DB (j:=2) (e:=om) (FC (j:=10000) (e:=om) e rfl (by decide) (by decide)) rfl (by decide);have e01:l / 10000 % 2=0\/l / 10000 % 2=1:=by (clear hr hq hp hw hy hx;omega)
 rcases e01 with e | e
 ·refine ⟨x,y,w,by (clear e hr hq hp;omega),.inl (by (clear e hr hq hp;omega)),λ ρ h=>?_⟩
  have:=km ρ h
  rw [e] at this;exact BR (kl ρ h) this rfl
 ·refine ⟨p,q,r,by (clear e hw hy hx;omega),.inr (by (clear e hw hy hx;omega)),λ ρ h=>?_⟩
  have:=km ρ h
  rw [e] at this;exact BR (kl ρ h) this rfl
section
variable {a b c:Nat}{t u low high:List (List Int)}
def zgp {t u:List (List Int)}:Di a b t u=true↔∀ i j,i < a->j < b->g t i j<=g u i j:=by
 unfold Di;rw [jb5];exact ⟨λ h i j hi hj=>of_decide_eq_true (h (i,j) (zxi.mpr ⟨hi,hj⟩)),λ h z hz=>decide_eq_true (h z.1 z.2 (zxi.mp hz).1 (zxi.mp hz).2)⟩
def wK (p:Pile a b c t) (q:Pile a b c u):Di a b (zT Bz t u) (zT BA t u)=true:=zgp.mpr λ i j hi hj=>by
 rw [GF p.tab q.tab,GF p.tab q.tab,Cz hi hj,Cz hi hj];unfold Bz BA;split <;> split <;> omega
def k9 (p:Pile a b c t) (q:Pile a b c low) (h:Di a b low t=true):zT BA t low=t:=MV (O9 p.tab q.tab) p.tab λ i j hi hj=>by
 rw [GF p.tab q.tab,Cz hi hj]
 have:=zgp.mp h i j hi hj
 unfold BA;split <;> omega
def kB (p:Pile a b c t) (q:Pile a b c high) (h:Di a b t high=true):zT Bz t high=t:=MV (O9 p.tab q.tab) p.tab λ i j hi hj=>by
 rw [GF p.tab q.tab,Cz hi hj]
 have:=zgp.mp h i j hi hj
 unfold Bz;split <;> omega
def Fr (ns:List Int) (s1 s2 s3 s4 s5 s6 s7 s8 s9 s10 s11 s12 s13:Option PV):List (Option PV):=[some (.scr ns),s1,s2,s3,s4,s5,s6,s7,s8,s9,s10,s11,s12,s13]
structure Bnd (a b c:Nat) (low high:List (List Int)):Prop where
 p:Pile a b c low
 q:Pile a b c high
 le:Di a b low high=true
def law_true:∀ ns:List Int,ns.length<=63->∃ d z,F36 [.scr ns]=.ok (.bl true,d,z):=by
 intro ns _;refine Gv.fn rfl (show Gv Td [some (.scr ns,om),none,none,none,none,none,none,none,none,none,none,none,none,none] _ from ?_);obtain ⟨l,el⟩:=WZ (ns.getD 0 0) 0 (by omega);obtain ⟨a,b,c,hp,hk,eb⟩:=ZW l;have N:BoxN a b c:=ZD hp.1 hp.2.1 hp.2.2 hk;have z:=sz;have K:∀ (k:Nat) {L:List (Option PV)}{O:List Nat}{ρ:Ae},k<=100->HV L O ρ->L[0]?=some (some (.scr ns))->∀ f:Fx,f ρ=.ok (.int (k:Int),om,ρ)->∃ x:Int,A2 JC (Af (A2 JD (Af (Aa 0) (Af f (Ac)))) (Af f (Ac))) ρ=.ok (.int x,om,ρ):=λ k L O ρ hk h e f hf=>by
  obtain ⟨x,ex⟩:=WZ (ns.getD k 0) k (by omega);exact ⟨x,AQ (xs:=[(.int (ns.getD k 0),om),(.int (k:Int),om)]) (AD (AQ (xs:=[(.scr ns,om),(.int (k:Int),om)]) (AD (h.var e) (AK hf)) (VN ns k)) (AK hf)) ex⟩
 have h0:HV (Fr ns none none none none none none none none none none none none none) [] [some (.scr ns,om),none,none,none,none,none,none,none,none,none,none,none,none,none]:=HV.of [some (.scr ns,om),none,none,none,none,none,none,none,none,none,none,none,none,none];refine Gv.ex (h0.setO (x:=.int l) (AQ (xs:=[(.int (ns.getD 0 0),om),(.int 0,om)]) (AD (AQ (xs:=[(.scr ns,om),(.int 0,om)]) (AD (h0.var rfl) (AK rfl)) (VN ns 0)) (AK rfl)) el) (show 1 < 14 by decide)) λ ρ1 h1=>?_;refine Gv.ex (h1.set (x:=bx a b c) (eb ρ1 (h1.var rfl)) (show 2 < 14 by decide)) λ ρ2 h2=>?_;obtain ⟨l1,el1⟩:=K 1 (by (clear z hk hp;omega)) h2 rfl (bC (.int 1)) rfl;obtain ⟨t1,d1,p1,et1⟩:=Xn (a:=a) (b:=b) (c:=c) l1 (by omega) (by omega) (by omega);refine Gv.ex (h2.set (x:=tb t1) (AQ (xs:=[(bx a b c,0),(.int l1,om)]) (AD (h2.var rfl) (AK el1)) et1) (show 3 < 14 by decide)) λ ρ3 h3=>?_;obtain ⟨l2,el2⟩:=K 2 (by (clear z hk hp;omega)) h3 rfl (bC (.int 2)) rfl;obtain ⟨t2,d2,p2,et2⟩:=Xn (a:=a) (b:=b) (c:=c) l2 (by omega) (by omega) (by omega);refine Gv.ex (h3.set (x:=tb t2) (AQ (xs:=[(bx a b c,0),(.int l2,om)]) (AD (h3.var rfl) (AK el2)) et2) (show 4 < 14 by decide)) λ ρ4 h4=>?_;refine Gv.ex (h4.setO (x:=tb (zT Bz t1 t2)) (AQ (xs:=[(tb t1,0),(tb t2,0),(.int 0,om)]) (AD (h4.var rfl) (AD (h4.var rfl) (AK rfl))) (Rt p1.tab p2.tab (by omega) (by omega))) (show 5 < 14 by decide)) λ ρ5 h5=>?_;refine Gv.ex (h5.setO (x:=tb (zT BA t1 t2)) (AQ (xs:=[(tb t1,0),(tb t2,0),(.int 1,om)]) (AD (h5.var rfl) (AD (h5.var rfl) (AK rfl))) (Rr p1.tab p2.tab (by omega) (by omega))) (show 6 < 14 by decide)) λ ρ6 h6=>?_;let Q (low high:List (List Int)) (s7 s8 s9 s10 s11 s12 s13:Option PV):=Fr ns (some (.int l)) (some (bx a b c)) none none (some (tb low)) (some (tb high)) s7 s8 s9 s10 s11 s12 s13;refine Gv.ex (P:=λ ρ=>∃ low high,Bnd a b c low high/\HV (Q low high none none none none none none none) [] ρ) ?_ λ ρ7 ⟨low,high,B,h7⟩=>?_
 ·have q:=AI (Ip (neg:=false) (g:=bC (.int 0)) (j:=0) (e:=om) (DB (g:=bC (.int 2)) (j:=2) (e:=om) (FC (g:=bC (.int 64)) (j:=64) (e:=om) (h6.var (j:=1) (x:=.int l) rfl) rfl (by decide) (by decide)) rfl (by decide)) rfl);rw [Me] at q;cases ed:decide (l / 64 % 2=0) with
  | false=>
   rw [ed] at q;exact ⟨ρ6,(CK q).trans rfl,_,_,⟨PL p1 p2,PJ p1 p2,wK p1 p2⟩,h6.weak ⟨rfl,rfl,rfl,rfl,rfl,trivial⟩ λ _ h=>h⟩
  | true=>
   rw [ed] at q;obtain ⟨ρa,ea,ha⟩:=h6.setO (i:=5) (f:=A2 JB ph5) (vs:=[2]) (x:=tb (Cm a b 0)) (AQ (xs:=[(bx a b c,0),(.int 0,om)]) (AD (h6.var rfl) (AK rfl)) (U4 0 (by omega) (by omega))) (show 5 < 14 by decide);obtain ⟨ρb,eb,hb⟩:=ha.setO (i:=6) (f:=A2 JB pg4) (vs:=[2,2]) (x:=tb (Cm a b c)) (AQ (xs:=[(bx a b c,0),(.int (c:Int),om)]) (AD (ha.var rfl) (AK (BR (x:=bx a b c) (d:=0) (e:=om) (ha.var rfl) rfl rfl))) (U4 c (by omega) (by omega))) (show 6 < 14 by decide);have pf0:Pile a b c (Cm a b 0):=XG ⟨D5 _,by (clear z hk hp;omega)⟩;have pfc:Pile a b c (Cm a b c):=XG ⟨by (clear z hk hp;omega),D5 _⟩;have w:=Ip (neg:=true) (AQ (F:=Fp) (xs:=[(bx a b c,0),(tb (Cm a b 0),0),(tb (Cm a b c),0)]) (AD (hb.var (j:=2) rfl) (AD (hb.var (j:=5) rfl) (AK (hb.var (j:=6) rfl)))) (IH N pf0 pfc)) (AQ (F:=K3) (xs:=[(bx a b c,0)]) (AK (hb.var (j:=2) rfl)) (jU hp hk));rw [decide_eq_true rfl] at w;exact ⟨ρb,(CJ q).trans ((AU ea).trans ((AU eb).trans ((CK (AI w)).trans rfl))),_,_,⟨pf0,pfc,zgp.mpr λ i j hi hj=>by rw [Gz hi hj,Gz hi hj];(clear hj hi z hk hp;omega)⟩,hb.weak ⟨rfl,rfl,rfl,rfl,rfl,trivial⟩ λ _ h=>h⟩
 let P:=Bp (g low) (g high) c b a;have M1:1<=P.length:=xW B.p B.q B.le;refine Gv.ex (h7.setO (x:=.int (P.length:Int)) (AQ (xs:=[(bx a b c,0),(tb low,0),(tb high,0)]) (AD (h7.var rfl) (AD (h7.var rfl) (AK (h7.var rfl)))) (IH N B.p B.q)) (show 7 < 14 by decide)) λ ρ8 h8=>?_;obtain ⟨dp,zp,ep⟩:=wj N B.p B.q (l / 128);refine Gv.no (AI (Hj (a:=false) (b:=false) ?_ (λ _=>GU (b:=true) (AQ (xs:=[(bx a b c,0),(tb low,0),(tb high,0),(.int (l / 128),om)]) (AD (h8.var rfl) (AD (h8.var rfl) (AD (h8.var rfl) (AK (FC (j:=128) (e:=om) (h8.var rfl) rfl (by decide) (by decide)))))) ep)) rfl)) ?_
 ·have:=CG (p:=λ i j=>decide (i < j)) (g:=bC (.int 1)) (j:=1) (e:=om) (h8.var (j:=7) (x:=.int (P.length:Int)) rfl) rfl
  rw [decide_eq_false (by (clear z hk hp;omega))] at this;exact this
 let W (s8 s9 s10 s11 s12 s13:Option PV):=Q low high (some (.int (P.length:Int))) s8 s9 s10 s11 s12 s13;have h8:HV (W none none none none none none) [] ρ8:=h8;obtain ⟨nums,nl,nm,nup,en⟩:∃ nums:List Int,nums.length=6/\(∀ n∈nums,0<=n/\n < (P.length:Int))/\nums.Pairwise (·<=·)/\Ao LC (Af (Ca AY (Af (bC (.int 6)) (Ac)) 1 (asgN 14) Bb (Ab Cy pa6 (Aa 7))) (Ac)) ρ8=.ok (il nums,om,ρ8):=by
  have kk:∀ k:Nat,k < 6->∃ x:Int,(0<=x/\x < (P.length:Int))/\Ab Cy pa6 (Aa 7) (ρ8++[some (.int (k:Int),om)])=.ok (.int x,om,ρ8++[some (.int (k:Int),om)]):=λ k hk6=>by
   have hp:=h8.push (x:=.int (k:Int)) (d:=om);obtain ⟨x,ex⟩:=K (3 + k) (by (clear M1 z hk;omega)) hp rfl pg2 (by
    have:=Dj (f:=bC (.int 3)) (i:=3) (d:=om) rfl (hp.var (j:=14) (x:=.int (k:Int)) rfl)
    exact this.trans rfl)
   have m0:=Ks x (show (P.length:Int)≠0 by (clear hk6 z hk;omega));have m1:=Mi x (show (0:Int) < P.length by (clear m0 hk6 z hk;omega));exact ⟨x % (P.length:Int),⟨m0,m1⟩,DB ex (hp.var rfl) (by (clear m1 m0 hk6 z hk;omega))⟩
  let q (k:Nat):Int:=if h:k < 6 then Kf (kk k h) else 0
  have hq:∀ k,k < 6->(0<=q k/\q k < (P.length:Int))/\Ab Cy pa6 (Aa 7) (ρ8++[some (.int (k:Int),om)])=.ok (.int (q k),om,ρ8++[some (.int (k:Int),om)]):=λ k h=>by
   have:=Qq (kk k h)
   have e:q k=Kf (kk k h):=dif_pos h;rw [e];exact this
  have w:=GQ (n:=14) (en:=AY) (fa:=Af (bC (.int 6)) Ac) (elt:=Ab Cy pa6 (Aa 7)) (q:=λ k=>.int (q k)) (ρ:=ρ8) (ρ1:=ρ8) (as:=[(.int 6,om)]) (lo:=0) (hi:=6) rfl rfl h8.len (λ k hk=>by
   rw [EM];exact (hq k (by (clear M1 z hp;omega))).2) (by (clear M1 hk hp;omega))
  have em:((Aq ((6:Int) - 0).toNat).map λ k=>PV.int (q k))=((Aq 6).map q).map PV.int:=by rw [Cu];rfl
  rw [em] at w;have pm:=Nd ((Aq 6).map q);refine ⟨GH ((Aq 6).map q),by rw [pm.length_eq];rfl,λ n hn=>?_,R6 _,C5 (AK w) ?_⟩
  ·obtain ⟨k,hk,rfl⟩:=jd4.mp (pm.mem_iff.mp hn);exact (hq k (jc4.mp hk)).1
  ·show (match DX (((Aq 6).map q).map PV.int) with | some ns=>if L5 ns then some (PV.lst ((GH ns).map PV.int),om) else none | none=>none)=_;rw [JG];dsimp only;rw [if_pos (wz (by rw [AG,DT];decide))];rfl
 refine Gv.ex (h8.setO (x:=il nums) en (show 8 < 14 by decide)) λ ρ9 (h9:HV (W (some (il nums)) none none none none none) [] ρ9)=>?_;have nt:∀ n:Int,0<=n/\n < (P.length:Int)->∃ t d,f_nth_between [bx a b c,tb low,tb high,.int n]=.ok (tb t,d,.non)/\Btw a b c low high t a/\CT a b c low high t=n:=λ n h=>qr N B.p B.q h.1 h.2;let T (n:Int):List (List Int):=if h:0<=n/\n < (P.length:Int) then Kf (nt n h) else []
 have hT:∀ n,0<=n/\n < (P.length:Int)->(∃ d,f_nth_between [bx a b c,tb low,tb high,.int n]=.ok (tb (T n),d,.non))/\Btw a b c low high (T n) a/\CT a b c low high (T n)=n:=λ n h=>by
  have e:T n=Kf (nt n h):=dif_pos h;obtain ⟨d,h1,h2,h3⟩:=Qq (nt n h);rw [e];exact ⟨⟨d,h1⟩,h2,h3⟩
 let D (n:Int):Nat:=if h:0<=n/\n < (P.length:Int) then Kf (hT n h).1 else 0
 have hD:∀ n,0<=n/\n < (P.length:Int)->f_nth_between [bx a b c,tb low,tb high,.int n]=.ok (tb (T n),D n,.non):=λ n h=>by
  have e:D n=Kf (hT n h).1:=dif_pos h;rw [e];exact Qq (hT n h).1
 obtain ⟨d9,e9⟩:∃ d,Cf (Aa 8) 1 (asgN 14) Bb (A2 M0 pd5) ρ9=.ok (.lst (nums.map λ n=>tb (T n)),d,ρ9):=by
  have w:=HS (n:=14) (test:=Bb) (elt:=A2 M0 pd5) (enc:=PV.int) (q:=λ n=>tb (T n)) (e:=D) (p:=λ _=>true) nums ρ9 [] h9.len (λ _ _=>rfl) (λ n hn _=>by
   have hp:=h9.push (x:=.int n) (d:=om);exact AQ (xs:=[(bx a b c,0),(tb low,0),(tb high,0),(.int n,om)]) (AD (hp.var rfl) (AD (hp.var rfl) (AD (hp.var rfl) (AK (hp.var rfl))))) (hD n (nm n hn))) (by rw [nl,Hz];(clear nl M1 hk hp;omega))
  rw [je3.mpr (λ _ _=>rfl),Ez] at w;unfold Cf;rw [h9.var (j:=8) (x:=il nums) rfl];show ∃ d,(BY 1 (asgN 14) Bb _ (nums.map PV.int) ρ9 []).bindN _=_;rw [w];refine ⟨if CB (nums.map λ x=>(tb (T x),D x)) then om else 1,?_⟩;show C4 _ ρ9=_;unfold C4;rw [Cu];rfl
 refine Gv.ex (h9.set (x:=.lst (nums.map λ n=>tb (T n))) e9 (show 9 < 14 by decide)) λ ρ10 (h10:HV (W (some (il nums)) (some (.lst (nums.map λ n=>tb (T n)))) none none none none) [] ρ10)=>?_;have bp:∀ n∈nums,Pile a b c (T n)/\Di a b low (T n)=true/\Di a b (T n) high=true:=λ n hn=>jW (hT n (nm n hn)).2.1;refine Gv.ex (P:=HV (W (some (il nums)) (some (.lst (nums.map λ n=>tb (T n)))) none none none none) []) ?_ λ ρ11 SS=>?_
 ·obtain ⟨ρ',e,h⟩:=IB (asg:=asgT [10,11]) (body:=pa8) (nums.map λ n=>.tup [.int n,tb (T n)]) (λ _=>HV (W (some (il nums)) (some (.lst (nums.map λ n=>tb (T n)))) none none none none) []) (AZ 0 [8,9] ρ10) h10.cool (by
   intro k x ρ hx h;obtain ⟨n,hn,rfl⟩:∃ n∈nums,x=.tup [.int n,tb (T n)]:=by
    rw [BW] at hx;cases e:nums[k]? with
    | none=>rw [e] at hx;cases hx
    | some y=>rw [e] at hx;cases hx;exact ⟨y,SG e,rfl⟩
   obtain ⟨pt,l1,l2⟩:=bp n hn;obtain ⟨ρa,ea,ha⟩:=h.asg2 (i:=10) (j:=11) (.int n) (tb (T n)) (show 10 < 14 by decide) (show 11 < 14 by decide) ⟨λ h=>(nomatch h),λ h=>(nomatch h)⟩;have c1:=AQ (F:=Mz) (xs:=[(bx a b c,0),(tb (T n),0)]) (AD (ha.var (j:=2) rfl) (AK (ha.var (j:=11) rfl))) (is_pile_ok pt (by (clear nl M1 z hp;omega)) (by (clear nl M1 z hp;omega)));have c2:=U3 (neg:=true) (AQ (F:=EV) (xs:=[(tb (T n),0),(tb low,0),(.int 1,om)]) (AD (ha.var (j:=11) rfl) (AD (ha.var (j:=5) rfl) (AK (f:=bC (.int 1)) rfl))) (Rr pt.tab B.p.tab (by (clear nl M1 z hp;omega)) (by (clear nl M1 z hp;omega)))) (ha.var (j:=11) (x:=tb (T n)) rfl);rw [k9 pt B.p l1,decide_eq_true rfl] at c2;have c3:=U3 (neg:=true) (AQ (F:=EV) (xs:=[(tb (T n),0),(tb high,0),(.int 0,om)]) (AD (ha.var (j:=11) rfl) (AD (ha.var (j:=6) rfl) (AK (f:=bC (.int 0)) rfl))) (Rt pt.tab B.q.tab (by (clear nl M1 z hp;omega)) (by (clear nl M1 z hp;omega)))) (ha.var (j:=11) (x:=tb (T n)) rfl);rw [kB pt B.q l2,decide_eq_true rfl] at c3;have c4:=Ip (neg:=true) (AQ (F:=Pa) (xs:=[(bx a b c,0),(tb low,0),(tb high,0),(tb (T n),0)]) (AD (ha.var (j:=2) rfl) (AD (ha.var (j:=5) rfl) (AD (ha.var (j:=6) rfl) (AK (ha.var (j:=11) rfl))))) (wc N B.p B.q pt l1 l2)) (ha.var (j:=10) (x:=.int n) rfl);rw [(hT n (nm n hn)).2.2,decide_eq_true rfl] at c4;exact ⟨ρa,ρa,ea,(DZ (AI (Hj (a:=false) (b:=false) (GU (b:=true) c1) (λ _=>Hj (a:=false) (b:=false) c2 (λ _=>c3) rfl) rfl))).trans ((CK (AI c4)).trans rfl),ha.weak ⟨rfl,rfl,rfl,rfl,rfl,rfl,rfl,rfl,trivial⟩ λ _ h=>h⟩)
  refine ⟨ρ',zx (v:=.zp) (xs:=[(il nums,0),(.lst (nums.map λ n=>tb (T n)),0)]) (els:=nums.map λ n=>.tup [.int n,tb (T n)]) (AD (h10.var (j:=8) rfl) (AK (h10.var (j:=9) rfl))) ?_ rfl e,h⟩;show some (By (nums.map PV.int) (nums.map λ n=>tb (T n)))=_;rw [Qe]
 have at8:∀ {ρ:Ae}{s10 s11 s12 s13:Option PV}{f:Fx}{k:Nat},HV (W (some (il nums)) (some (.lst (nums.map λ n=>tb (T n)))) s10 s11 s12 s13) [] ρ->k < 6->f ρ=.ok (.int (k:Int),om,ρ)->Ab A3 (Aa 8) f ρ=.ok (.int (nums.getD k 0),om,ρ):=λ {ρ s10 s11 s12 s13 f k} h hk hf=>GA (xs:=nums) (h.var rfl) hf (CZ (by (clear hk nl M1 z hp;omega)) (by rw [CD];exact Dd (by rw [nl];exact hk)));have at9:∀ {ρ:Ae}{s10 s11 s12 s13:Option PV}{f:Fx}{k:Nat},HV (W (some (il nums)) (some (.lst (nums.map λ n=>tb (T n)))) s10 s11 s12 s13) [] ρ->k < 6->f ρ=.ok (.int (k:Int),om,ρ)->Ab A3 (Aa 9) f ρ=.ok (tb (T (nums.getD k 0)),0,ρ):=λ {ρ s10 s11 s12 s13 f k} h hk hf=>BR (x:=.lst (nums.map λ n=>tb (T n))) (d:=0) (h.var rfl) hf (by
  show (BE (nums.map λ n=>tb (T n)) (k:Int)).map (λ z=>(z,dv z))=_;rw [CZ (x:=tb (T (nums.getD k 0))) (by (clear hk nl M1 z hp;omega)) (by rw [CD,BW,Dd (by rw [nl];exact hk)];rfl)]
  rfl)
 have mem:∀ k,k < 6->nums.getD k 0∈nums:=λ k hk=>by
  have:=Dd (xs:=nums) (j:=k) (by rw [nl];exact hk)
  exact SG this
 refine Gv.ex (P:=HV (W (some (il nums)) (some (.lst (nums.map λ n=>tb (T n)))) none none none none) []) ?_ λ ρ12 h12=>?_
 ·obtain ⟨ρ',e,h⟩:=IB (asg:=asgN 12) (body:=pb3) ((Aq 5).map λ (k:Nat)=>.int (k:Int)) (λ _=>HV (W (some (il nums)) (some (.lst (nums.map λ n=>tb (T n)))) none none none none) []) ρ11 SS (by
   intro k x ρ hx h;obtain ⟨hk,rfl⟩:k < 5/\x=.int (k:Int):=by
    rw [BW] at hx;by_cases hk:k < 5
    ·rw [HB hk] at hx;cases hx;exact ⟨hk,rfl⟩
    ·rw [E1 (by rw [DT];(clear nl M1 z hp;omega))] at hx;cases hx
   obtain ⟨ρa,ea,ha⟩:=h.asgN (i:=12) (.int (k:Int)) (show 12 < 14 by decide) (λ h=>nomatch h);have ha:HV (W (some (il nums)) (some (.lst (nums.map λ n=>tb (T n)))) none none (some (.int (k:Int))) none) [] ρa:=ha;have v12:Aa 12 ρa=.ok (.int (k:Int),om,ρa):=ha.var rfl;have v13:Ab Bf (Aa 12) (bC (.int 1)) ρa=.ok (.int ((k + 1:Nat):Int),om,ρa):=by
    have:=Dj (g:=bC (.int 1)) (j:=1) (e:=om) v12 rfl
    exact this.trans rfl
   let x:=nums.getD k 0;let y:=nums.getD (k + 1) 0;have hx:=mem k (by (clear nl M1 z hp;omega));have hy:=mem (k + 1) (by (clear nl M1 z hp;omega));have c1:=BR (op:=Jt) (at9 ha (by (clear nl M1 z hp;omega)) v12) (at9 ha (by (clear nl M1 z hp;omega)) v13) (jn (bp x hx).1.tab (bp y hy).1.tab);have c2:=CG (p:=λ i j=>decide (i < j)) (at8 ha (by (clear nl M1 z hp;omega)) v12) (at8 ha (by (clear nl M1 z hp;omega)) v13);have xy:x<=y:=by
    have g1:=Dd (xs:=nums) (j:=k) (by rw [nl];(clear nl M1 z hp;omega));have g2:=Dd (xs:=nums) (j:=k + 1) (by rw [nl];(clear nl M1 z hp;omega))
    have:=List.pairwise_iff_getElem.mp nup k (k + 1) (by rw [nl];(clear nl M1 z hp;omega)) (by rw [nl];(clear nl M1 z hp;omega)) (by (clear hk nl M1 z hp;omega))
    rw [Cd (by rw [nl];(clear this M1 z hp;omega))] at g1 g2;have e1:=Option.some.inj g1;have e2:=Option.some.inj g2
    (clear M1 z hp;omega)
   have same:FR (T x) (T y)=decide (x < y):=by
    by_cases hlt:x < y
    ·rw [decide_eq_true hlt];exact zL (hT x (nm x hx)).2.1 (hT y (nm y hy)).2.1 (by rw [(hT x (nm x hx)).2.2,(hT y (nm y hy)).2.2];exact hlt)
    ·have e:x=y:=by (clear hk nl M1 z hp;omega)
     rw [e,Wq,decide_eq_false (by (clear e hlt xy hk nl M1 z hp;omega))]
   have c3:=BR (op:=Be true) c1 c2 yI;rw [show nums.getD k 0=x from rfl,show nums.getD (k + 1) 0=y from rfl,same,beq_self_eq_true] at c3;exact ⟨ρa,ρa,ea,(CK (AI c3)).trans rfl,ha.weak ⟨rfl,rfl,rfl,rfl,rfl,rfl,rfl,rfl,trivial⟩ λ _ h=>h⟩)
  exact ⟨ρ',MJ (n:=5) (as:=[(.int 5,om)]) rfl rfl e,h⟩
 let t0:=T (nums.getD 0 0);obtain ⟨pt,l1,l2⟩:=bp _ (mem 0 (by (clear nl M1 z hk hp;omega)));have i0:=at9 h12 (k:=0) (f:=bC (.int 0)) (by (clear nl M1 z hk hp;omega)) rfl;refine Gv.ex (h12.setO (x:=.int (((Bp (g low) (g t0) c b a).length:Int) + ((Bp (g t0) (g high) c b a).length:Int))) (Dj (AQ (xs:=[(bx a b c,0),(tb low,0),(tb t0,0)]) (AD (h12.var rfl) (AD (h12.var rfl) (AK i0))) (IH N B.p pt)) (AQ (xs:=[(bx a b c,0),(tb t0,0),(tb high,0)]) (AD (h12.var rfl) (AD i0 (AK (h12.var rfl)))) (IH N pt B.q))) (show 13 < 14 by decide)) λ ρ13 h13=>?_
 have:=CG (p:=λ i j=>decide (i<=j)) (h13.var (j:=13) rfl) (Dj (g:=bC (.int 1)) (j:=1) (e:=om) (h13.var (j:=7) (x:=.int (P.length:Int)) rfl) rfl)
 have bl:((Bp (g low) (g t0) c b a).length:Int) + ((Bp (g t0) (g high) c b a).length:Int)<=(P.length:Int) + 1:=by exact_mod_cast zI B.p B.q pt l1 l2
 rw [decide_eq_true bl] at this;exact Gv.ret this
end
section
variable {P:A9}{w:A7}{K:Frag}{mg:Str->Option Ad}
def c0:FnScope S0.N ["thing"] (A4 t0):={}
def c1:FnScope S1.N ["thing"] (A4 t1):={}
def c2:FnScope S2.N ["box"] (A4 t2):={}
def c3:FnScope S3.N ["thing","columns","height"] (A4 t3):={}
def c4:FnScope S4.N ["numbers"] (A4 t4):={}
def c5:FnScope S5.N ["table","j"] (A4 t5):={}
def c6:FnScope S6.N ["box","thing"] (A4 t6):={}
def c7:FnScope S7.N ["box","pile"] (A4 t7):={}
def c8:FnScope S8.N ["box","pile","other"] (A4 t8):={}
def c9:FnScope S9.N ["box"] (A4 t9):={}
def um:FnScope S10.N ["box","pile","other"] (A4 Ol):={}
def uk:FnScope S11.N ["columns","height"] (A4 Oj):={}
def uj:FnScope S12.N ["tally","other"] (A4 Oi):={}
def ui:FnScope S13.N ["table","columns"] (A4 Oh):={}
def uh:FnScope S14.N ["row","low","high"] (A4 Og):={}
def ug:FnScope S15.N ["behind","low","high","counted"] (A4 Of):={}
def uf:FnScope S16.N ["box","low","high","places"] (A4 Oe):={}
def ue:FnScope S17.N ["box","low","high","places"] (A4 Od):={}
def ud:FnScope S18.N ["box","low","high"] (A4 Oc):={}
def uc:FnScope S19.N ["table","ahead"] (A4 Ob):={}
def ub:FnScope S20.N ["table","ahead","number"] (A4 Oa):={}
def ua:FnScope S21.N ["box","low","high","number"] (A4 NZ):={}
def yZ:FnScope S22.N ["row","table","ahead"] (A4 NY):={}
def yY:FnScope S23.N ["box","low","high","pile"] (A4 NX):={}
def yX:FnScope S24.N ["downs","rights"] (A4 NW):={}
def yW:FnScope S25.N ["row","first","divisor"] (A4 NV):={}
def yV:FnScope S26.N ["table"] (A4 NU):={}
def yU:FnScope S27.N ["box"] (A4 NT):={}
def yT:FnScope S28.N ["script","k"] (A4 NS):={}
def yS:FnScope S29.N ["cell","k"] (A4 NR):={}
def yR:FnScope S30.N ["left","rows","columns","height"] (A4 NQ):={}
def yQ:FnScope S31.N ["box","left"] (A4 NP):={}
def yP:FnScope S32.N ["box","height"] (A4 NO):={}
def yO:FnScope S33.N ["one","other","way"] (A4 NN):={}
def yN:FnScope S34.N ["box","pile"] (A4 NM):={}
def yM:FnScope S35.N ["box","low","high","left"] (A4 NL):={}
def yL:FnScope S36.N ["script"] (A4 Ly):={}
def all_ok {fa:Addr} (G:Given dfs [] K mg) (hm:mg "law" = some (.ref fa)):
  ∃ fd:Dg,(∀ (s:Ai) (u:Ad),BindsTo s fd ⟨[u],[]⟩ [("script",u)])/\∀ base:Heap,FnOk P w K mg base (AW P w K) 9 fa fd ["script"] (Bi K false 1 F36):=by
 have hb:=G.bn;have gx:=G.gx;obtain ⟨a0,d0,m0,f0⟩:=G.df 0 _ _ rfl;obtain ⟨a1,d1,m1,f1⟩:=G.df 1 _ _ rfl;obtain ⟨a2,d2,m2,f2⟩:=G.df 2 _ _ rfl;obtain ⟨a3,d3,m3,f3⟩:=G.df 3 _ _ rfl;obtain ⟨a4,d4,m4,f4⟩:=G.df 4 _ _ rfl;obtain ⟨a5,d5,m5,f5⟩:=G.df 5 _ _ rfl;obtain ⟨a6,d6,m6,f6⟩:=G.df 6 _ _ rfl;obtain ⟨a7,d7,m7,f7⟩:=G.df 7 _ _ rfl;obtain ⟨a8,d8,m8,f8⟩:=G.df 8 _ _ rfl;obtain ⟨a9,d9,m9,f9⟩:=G.df 9 _ _ rfl;obtain ⟨a10,d10,m10,f10⟩:=G.df 10 _ _ rfl;obtain ⟨a11,d11,m11,f11⟩:=G.df 11 _ _ rfl;obtain ⟨a12,d12,m12,f12⟩:=G.df 12 _ _ rfl;obtain ⟨a13,d13,m13,f13⟩:=G.df 13 _ _ rfl;obtain ⟨a14,d14,m14,f14⟩:=G.df 14 _ _ rfl;obtain ⟨a15,d15,m15,f15⟩:=G.df 15 _ _ rfl;obtain ⟨a16,d16,m16,f16⟩:=G.df 16 _ _ rfl;obtain ⟨a17,d17,m17,f17⟩:=G.df 17 _ _ rfl;obtain ⟨a18,d18,m18,f18⟩:=G.df 18 _ _ rfl;obtain ⟨a19,d19,m19,f19⟩:=G.df 19 _ _ rfl;obtain ⟨a20,d20,m20,f20⟩:=G.df 20 _ _ rfl;obtain ⟨a21,d21,m21,f21⟩:=G.df 21 _ _ rfl;obtain ⟨a22,d22,m22,f22⟩:=G.df 22 _ _ rfl;obtain ⟨a23,d23,m23,f23⟩:=G.df 23 _ _ rfl;obtain ⟨a24,d24,m24,f24⟩:=G.df 24 _ _ rfl;obtain ⟨a25,d25,m25,f25⟩:=G.df 25 _ _ rfl;obtain ⟨a26,d26,m26,f26⟩:=G.df 26 _ _ rfl;obtain ⟨a27,d27,m27,f27⟩:=G.df 27 _ _ rfl;obtain ⟨a28,d28,m28,f28⟩:=G.df 28 _ _ rfl;obtain ⟨a29,d29,m29,f29⟩:=G.df 29 _ _ rfl;obtain ⟨a30,d30,m30,f30⟩:=G.df 30 _ _ rfl;obtain ⟨a31,d31,m31,f31⟩:=G.df 31 _ _ rfl;obtain ⟨a32,d32,m32,f32⟩:=G.df 32 _ _ rfl;obtain ⟨a33,d33,m33,f33⟩:=G.df 33 _ _ rfl;obtain ⟨a34,d34,m34,f34⟩:=G.df 34 _ _ rfl;obtain ⟨a35,d35,m35,f35⟩:=G.df 35 _ _ rfl;obtain ⟨a36,d36,m36,f36⟩:=G.df 36 _ _ rfl;cases hm.symm.trans m36;have B0:=f0.binds (ps:=["thing"]) λ _ _ _ _ _ _ us hl=>by obtain ⟨_,rfl⟩:=DM hl;rfl
 have B1:=f1.binds (ps:=["thing"]) λ _ _ _ _ _ _ us hl=>by obtain ⟨_,rfl⟩:=DM hl;rfl
 have B2:=f2.binds (ps:=["box"]) λ _ _ _ _ _ _ us hl=>by obtain ⟨_,rfl⟩:=DM hl;rfl
 have B3:=f3.binds (ps:=["thing","columns","height"]) λ _ _ _ _ _ _ us hl=>by obtain ⟨_,_,_,rfl⟩:=CU hl;rfl
 have B4:=f4.binds (ps:=["numbers"]) λ _ _ _ _ _ _ us hl=>by obtain ⟨_,rfl⟩:=DM hl;rfl
 have B5:=f5.binds (ps:=["table","j"]) λ _ _ _ _ _ _ us hl=>by obtain ⟨_,_,rfl⟩:=Cs hl;rfl
 have B6:=f6.binds (ps:=["box","thing"]) λ _ _ _ _ _ _ us hl=>by obtain ⟨_,_,rfl⟩:=Cs hl;rfl
 have B7:=f7.binds (ps:=["box","pile"]) λ _ _ _ _ _ _ us hl=>by obtain ⟨_,_,rfl⟩:=Cs hl;rfl
 have B8:=f8.binds (ps:=["box","pile","other"]) λ _ _ _ _ _ _ us hl=>by obtain ⟨_,_,_,rfl⟩:=CU hl;rfl
 have B9:=f9.binds (ps:=["box"]) λ _ _ _ _ _ _ us hl=>by obtain ⟨_,rfl⟩:=DM hl;rfl
 have B10:=f10.binds (ps:=["box","pile","other"]) λ _ _ _ _ _ _ us hl=>by obtain ⟨_,_,_,rfl⟩:=CU hl;rfl
 have B11:=f11.binds (ps:=["columns","height"]) λ _ _ _ _ _ _ us hl=>by obtain ⟨_,_,rfl⟩:=Cs hl;rfl
 have B12:=f12.binds (ps:=["tally","other"]) λ _ _ _ _ _ _ us hl=>by obtain ⟨_,_,rfl⟩:=Cs hl;rfl
 have B13:=f13.binds (ps:=["table","columns"]) λ _ _ _ _ _ _ us hl=>by obtain ⟨_,_,rfl⟩:=Cs hl;rfl
 have B14:=f14.binds (ps:=["row","low","high"]) λ _ _ _ _ _ _ us hl=>by obtain ⟨_,_,_,rfl⟩:=CU hl;rfl
 have B15:=f15.binds (ps:=["behind","low","high","counted"]) λ _ _ _ _ _ _ us hl=>by obtain ⟨_,_,_,_,rfl⟩:=Ek hl;rfl
 have B16:=f16.binds (ps:=["box","low","high","places"]) λ _ _ _ _ _ _ us hl=>by obtain ⟨_,_,_,_,rfl⟩:=Ek hl;rfl
 have B17:=f17.binds (ps:=["box","low","high","places"]) λ _ _ _ _ _ _ us hl=>by obtain ⟨_,_,_,_,rfl⟩:=Ek hl;rfl
 have B18:=f18.binds (ps:=["box","low","high"]) λ _ _ _ _ _ _ us hl=>by obtain ⟨_,_,_,rfl⟩:=CU hl;rfl
 have B19:=f19.binds (ps:=["table","ahead"]) λ _ _ _ _ _ _ us hl=>by obtain ⟨_,_,rfl⟩:=Cs hl;rfl
 have B20:=f20.binds (ps:=["table","ahead","number"]) λ _ _ _ _ _ _ us hl=>by obtain ⟨_,_,_,rfl⟩:=CU hl;rfl
 have B21:=f21.binds (ps:=["box","low","high","number"]) λ _ _ _ _ _ _ us hl=>by obtain ⟨_,_,_,_,rfl⟩:=Ek hl;rfl
 have B22:=f22.binds (ps:=["row","table","ahead"]) λ _ _ _ _ _ _ us hl=>by obtain ⟨_,_,_,rfl⟩:=CU hl;rfl
 have B23:=f23.binds (ps:=["box","low","high","pile"]) λ _ _ _ _ _ _ us hl=>by obtain ⟨_,_,_,_,rfl⟩:=Ek hl;rfl
 have B24:=f24.binds (ps:=["downs","rights"]) λ _ _ _ _ _ _ us hl=>by obtain ⟨_,_,rfl⟩:=Cs hl;rfl
 have B25:=f25.binds (ps:=["row","first","divisor"]) λ _ _ _ _ _ _ us hl=>by obtain ⟨_,_,_,rfl⟩:=CU hl;rfl
 have B26:=f26.binds (ps:=["table"]) λ _ _ _ _ _ _ us hl=>by obtain ⟨_,rfl⟩:=DM hl;rfl
 have B27:=f27.binds (ps:=["box"]) λ _ _ _ _ _ _ us hl=>by obtain ⟨_,rfl⟩:=DM hl;rfl
 have B28:=f28.binds (ps:=["script","k"]) λ _ _ _ _ _ _ us hl=>by obtain ⟨_,_,rfl⟩:=Cs hl;rfl
 have B29:=f29.binds (ps:=["cell","k"]) λ _ _ _ _ _ _ us hl=>by obtain ⟨_,_,rfl⟩:=Cs hl;rfl
 have B30:=f30.binds (ps:=["left","rows","columns","height"]) λ _ _ _ _ _ _ us hl=>by obtain ⟨_,_,_,_,rfl⟩:=Ek hl;rfl
 have B31:=f31.binds (ps:=["box","left"]) λ _ _ _ _ _ _ us hl=>by obtain ⟨_,_,rfl⟩:=Cs hl;rfl
 have B32:=f32.binds (ps:=["box","height"]) λ _ _ _ _ _ _ us hl=>by obtain ⟨_,_,rfl⟩:=Cs hl;rfl
 have B33:=f33.binds (ps:=["one","other","way"]) λ _ _ _ _ _ _ us hl=>by obtain ⟨_,_,_,rfl⟩:=CU hl;rfl
 have B34:=f34.binds (ps:=["box","pile"]) λ _ _ _ _ _ _ us hl=>by obtain ⟨_,_,rfl⟩:=Cs hl;rfl
 have B35:=f35.binds (ps:=["box","low","high","left"]) λ _ _ _ _ _ _ us hl=>by obtain ⟨_,_,_,_,rfl⟩:=Ek hl;rfl
 refine ⟨d36,?_,λ base=>?_⟩
 ·obtain ⟨_,_,_,_,_,_,_,_,_,rfl,_,_⟩:=f36.ex;exact λ s v=>.of_eq rfl
 have o0:FnOk P w K mg base (AW P w K) 1 a0 d0 ["thing"] (Bi K false 1 F0):=BN S0 f0 c0 gx (BK hb) h0;have o1:FnOk P w K mg base (AW P w K) 2 a1 d1 ["thing"] (Bi K false 1 F1):=BN S1 f1 c1 gx (BM (BK hb) m0 f0 B0 o0) h1;have o2:FnOk P w K mg base (AW P w K) 3 a2 d2 ["box"] (Bi K false 1 F2):=BN S2 f2 c2 gx (BM (BK hb) m1 f1 B1 o1) h2;have o3:FnOk P w K mg base (AW P w K) 2 a3 d3 ["thing","columns","height"] (Bi K false 3 F3):=BN S3 f3 c3 gx (BM (BK hb) m0 f0 B0 o0) h3;have o4:FnOk P w K mg base (AW P w K) 1 a4 d4 ["numbers"] (Bi K false 1 F4):=BN S4 f4 c4 gx (BK hb) h4;have o5:FnOk P w K mg base (AW P w K) 1 a5 d5 ["table","j"] (Bi K false 2 F5):=BN S5 f5 c5 gx (BK hb) h5;have o6:FnOk P w K mg base (AW P w K) 4 a6 d6 ["box","thing"] (Bi K false 2 F6):=BN S6 f6 c6 gx (BM (BM (BM (BM (BK hb) m5 f5 B5 o5) m4 f4 B4 o4) m3 f3 B3 o3) m2 f2 B2 o2) h6;have o7:FnOk P w K mg base (AW P w K) 5 a7 d7 ["box","pile"] (Bi K false 2 F7):=BN S7 f7 c7 gx (BM (BK hb) m6 f6 B6 o6) h7;have o8:FnOk P w K mg base (AW P w K) 6 a8 d8 ["box","pile","other"] (Bi K false 3 F8):=BN S8 f8 c8 gx (BM (BK hb) m7 f7 B7 o7) h8;have o9:FnOk P w K mg base (AW P w K) 1 a9 d9 ["box"] (Bi K false 1 F9):=BN S9 f9 c9 gx (BK hb) h9;have o10:FnOk P w K mg base (AW P w K) 7 a10 d10 ["box","pile","other"] (Bi K false 3 Zn):=BN S10 f10 um gx (BM (BM (BK hb) m9 f9 B9 o9) m8 f8 B8 o8) h10;have o11:FnOk P w K mg base (AW P w K) 1 a11 d11 ["columns","height"] (Bi K false 2 Zm):=BN S11 f11 uk gx (BK hb) SS;have o12:FnOk P w K mg base (AW P w K) 1 a12 d12 ["tally","other"] (Bi K false 2 Tw):=BN S12 f12 uj gx (BK hb) h12;have o13:FnOk P w K mg base (AW P w K) 2 a13 d13 ["table","columns"] (Bi K false 2 Zl):=BN S13 f13 ui gx (BM (BK hb) m12 f12 B12 o12) h13;have o14:FnOk P w K mg base (AW P w K) 1 a14 d14 ["row","low","high"] (Bi K false 3 Zk):=BN S14 f14 uh gx (BK hb) yE;have o15:FnOk P w K mg base (AW P w K) 2 a15 d15 ["behind","low","high","counted"] (Bi K false 4 Zj):=BN S15 f15 ug gx (BM (BK hb) m14 f14 B14 o14) yD;have o16:FnOk P w K mg base (AW P w K) 3 a16 d16 ["box","low","high","places"] (Bi K false 4 Pb):=BN S16 f16 uf gx (BM (BM (BM (BK hb) m15 f15 B15 o15) m13 f13 B13 o13) m11 f11 B11 o11) yC;have o17:FnOk P w K mg base (AW P w K) 4 a17 d17 ["box","low","high","places"] (Bi K false 4 Zi):=BN S17 f17 ue gx (BM (BM (BK hb) m16 f16 B16 o16) m12 f12 B12 o12) yB;have o18:FnOk P w K mg base (AW P w K) 7 a18 d18 ["box","low","high"] (Bi K false 3 Fp):=BN S18 f18 ud gx (BM (BM (BK hb) m17 f17 B17 o17) m8 f8 B8 o8) yA;have o19:FnOk P w K mg base (AW P w K) 1 a19 d19 ["table","ahead"] (Bi K false 2 Tv):=BN S19 f19 uc gx (BK hb) y9;have o20:FnOk P w K mg base (AW P w K) 2 a20 d20 ["table","ahead","number"] (Bi K false 3 Zh):=BN S20 f20 ub gx (BM (BK hb) m19 f19 B19 o19) y8;have o21:FnOk P w K mg base (AW P w K) 7 a21 d21 ["box","low","high","number"] (Bi K false 4 M0):=BN S21 f21 ua gx (BM (BM (BM (BM (BK hb) m20 f20 B20 o20) m16 f16 B16 o16) m8 f8 B8 o8) m0 f0 B0 o0) y7;have o22:FnOk P w K mg base (AW P w K) 2 a22 d22 ["row","table","ahead"] (Bi K false 3 Zg):=BN S22 f22 yZ gx (BM (BK hb) m19 f19 B19 o19) y4;have o23:FnOk P w K mg base (AW P w K) 8 a23 d23 ["box","low","high","pile"] (Bi K false 4 Pa):=BN S23 f23 yY gx (BM (BM (BM (BM (BM (BK hb) m22 f22 B22 o22) m16 f16 B16 o16) m10 f10 B10 o10) m8 f8 B8 o8) m7 f7 B7 o7) y3;have o24:FnOk P w K mg base (AW P w K) 1 a24 d24 ["downs","rights"] (Bi K false 2 Tu):=BN S24 f24 yX gx (BK hb) y2;have o25:FnOk P w K mg base (AW P w K) 1 a25 d25 ["row","first","divisor"] (Bi K false 3 Tt):=BN S25 f25 yW gx (BK hb) y1;have o26:FnOk P w K mg base (AW P w K) 2 a26 d26 ["table"] (Bi K false 1 Ts):=BN S26 f26 yV gx (BM (BK hb) m25 f25 B25 o25) y0;have o27:FnOk P w K mg base (AW P w K) 4 a27 d27 ["box"] (Bi K false 1 K3):=BN S27 f27 yU gx (BM (BM (BM (BK hb) m26 f26 B26 o26) m24 f24 B24 o24) m2 f2 B2 o2) yz;have o28:FnOk P w K mg base (AW P w K) 1 a28 d28 ["script","k"] (Bi K false 2 JD):=BN S28 f28 yT gx (BK hb) yy;have o29:FnOk P w K mg base (AW P w K) 1 a29 d29 ["cell","k"] (Bi K false 2 JC):=BN S29 f29 yS gx (BK hb) yx;have o30:FnOk P w K mg base (AW P w K) 1 a30 d30 ["left","rows","columns","height"] (Bi K false 4 OZ):=BN S30 f30 yR gx (BK hb) yw;have o31:FnOk P w K mg base (AW P w K) 1 a31 d31 ["box","left"] (Bi K false 2 OY):=BN S31 f31 yQ gx (BK hb) yv;have o32:FnOk P w K mg base (AW P w K) 1 a32 d32 ["box","height"] (Bi K false 2 JB):=BN S32 f32 yP gx (BK hb) yu;have o33:FnOk P w K mg base (AW P w K) 1 a33 d33 ["one","other","way"] (Bi K false 3 EV):=BN S33 f33 yO gx (BK hb) yt;have o34:FnOk P w K mg base (AW P w K) 1 a34 d34 ["box","pile"] (Bi K false 2 Mz):=BN S34 f34 yN gx (BK hb) yr;have o35:FnOk P w K mg base (AW P w K) 8 a35 d35 ["box","low","high","left"] (Bi K false 4 OX):=BN S35 f35 yM gx (BM (BM (BK hb) m33 f33 B33 o33) m18 f18 B18 o18) yq;exact BN S36 f36 yL gx (E6 (E6 (E6 (E6 (E6 (E6 (E6 (E6 (E6 (E6 (E6 (E6 (BK hb) (by decide +kernel) E8 m35 f35 B35 rfl (o35.mono (by decide))) (by decide +kernel) E8 m34 f34 B34 rfl (o34.mono (by decide))) (by decide +kernel) E8 m33 f33 B33 rfl (o33.mono (by decide))) (by decide +kernel) E8 m32 f32 B32 rfl (o32.mono (by decide))) (by decide +kernel) E8 m31 f31 B31 rfl (o31.mono (by decide))) (by decide +kernel) E8 m30 f30 B30 rfl (o30.mono (by decide))) (by decide +kernel) E8 m29 f29 B29 rfl (o29.mono (by decide))) (by decide +kernel) E8 m28 f28 B28 rfl (o28.mono (by decide))) (by decide +kernel) E8 m27 f27 B27 rfl (o27.mono (by decide))) (by decide +kernel) E8 m23 f23 B23 rfl (o23.mono (by decide))) (by decide +kernel) E8 m21 f21 B21 rfl (o21.mono (by decide))) (by decide +kernel) E8 m18 f18 B18 rfl (o18.mono (by decide))) yp
end
end K31
open PySem PySem.W PyProof.Rows
set_option maxRecDepth 100000 in
set_option maxHeartbeats 0 in
theorem PySem.Challenge.cw_cornerpiles_k31_whole_numbers_and_piles_holds : PySem.Challenge.rw_cornerpiles_k31_whole_numbers_and_piles.Holds := by
 refine QQ.holds_by (l:=PySem.Challenge.rw_cornerpiles_k31_whole_numbers_and_piles) (q:=K31.view) (loose:=K31.loose) (N:=20000) (k:=9) (n:=63) (ds:=K31.dfs) (xc:=[]) (F:=K31.F36) (x := "script") ?said rfl rfl (λ _=>rfl) K31.run (by rfl) (by rfl) (by rfl) (by rfl) (by decide +kernel) ⟨rfl,rfl,rfl,rfl,rfl,by decide +kernel⟩ ?hw rfl (by decide) rfl ⟨rfl,by decide,by decide,rfl⟩ (λ _ _ _ _ G hm=>K31.all_ok G hm) (λ _ _ _ ns hl hO hS=>QQ.sp_yes hO hS (K31.law_true ns hl))
 case said=>decide +kernel
 case hw=>w_witness2
