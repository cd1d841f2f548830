import PyProof.Rows.All
import Wide.All
import OpenK.AllK
import Wide.FinOn
import Lean
import PyProof.EqAt
import PyProof.EqKinds
import PyProof.TupleCall
import PySem.Challenge.RW_cornerpiles_k16_piles_of_ways
open List renaming getD_eq_getElem?_getD->ja0,length_map->ja1,mem_cons_of_mem->ja2,getElem?_eq_getElem->ja3,mem_cons_self->ja5,replicate->ja6,mem_append_right->ja7,getElem?_eq_some_iff->ja8,mem_append_left->ja9,mem_cons->jb0,length_cons->jb1,length_append->jb4,size_toArray->jb6,getElem?_set_ne->jb7,mem_singleton->jb8,all_eq_true->jb9,getElem?_append_left->jc0,mem_append->jc1,range->jc2,getElem_mem->jc3,getElem?_map->jc4,getElem?_set_self->jc7,getElem?_append_right->jc8,length_take->jd0,count_cons->jd1,length_drop->jd2,replicate_succ->jd3,mem_map->jd4,map_cons->jd5,map_map->jd6,length_singleton->jd7,mem_range->jd8,lookup_cons->jd9,length_range->je2,not_mem_nil->je3,getElem?_replicate->je4,filter_cons_of_neg->je5,map_append->je8,getElem_of_mem->jf0,length_replicate->jf1,append_nil->jf2,length_set->jf3,all_cons->jf4,flatten_cons->jf5,getElem?_eq_none->jf8,getElem?_take_of_lt->jf9,filter_cons_of_pos->jg0,nil_append->jg1,length_reverse->jg3,map_congr_left->jg5,take_of_length_le->jg6,drop_eq_getElem_cons->jg9,reverse_cons->jh1,append_assoc->jh2,getElem?_cons_succ->jh5,take_succ_cons->jh6,take_length->jh9,map_reverse->ji0,count_replicate->ji3,mem_of_mem_drop->ji4,getElem?_eq_none_iff->ji5,pairwise_iff_getElem->ji6,filterMap_cons->ji7,mem_filterMap->ji9,set_cons_zero->jj1,findIdx?_eq_some_iff_getElem->jj2,length_eq_zero_iff->jj5,pairwise_cons->jj6,drop_eq_nil_of_le->jj7,count_append->jj9,take_zero->jk0,mem_of_mem_take->jk5,mem_filter->jk6,nodup_cons->jk7,range'->jk8,filter_eq_self->jk9,range_succ->jl0,getElem?_range->jl1,getElem?_concat_length->jl2,set_cons_succ->jl4,findIdx?_cons->jl5,mem_replicate->jl6,cons_append->jm3,mem_reverse->jm4,length_eq_one_iff->jm6,of_mem_zip->jm7,foldl_cons->jm8,map_nil->jm9,getElem?_reverse->jn2,set_append_right->jn3,mem_of_getElem?->jn4,count_le_length->jn6,reverse_reverse->jn7,take_succ->jn9,replicate_zero->jo0,map_eq_nil_iff->jo1,map_id->jo2,take_nil->jo4,map_drop->jo5,take_sublist->jo6,ext_getElem?->jo7,mem_range'_1->jo8,all_eq_false->jo9,all_nil->jp1,flatten_nil->jp5,range'_succ->jp7,ext_getElem->jp8,forIn_cons->jp9,foldl->jq1,drop_nil->jq2,set_nil->jq5,getD->jq7,sum_nil->jq8,map_id'->jq9
open Bool renaming and_eq_true->ja4,false_ne_true->jc5,false_and->je6,or_eq_true->je7,and_false->jf7,eq_iff_iff->jh0,not_eq_true'->jh3,false_or->jj3,true_xor->jj4,and_true->jm0,true_and->jm1,and_eq_true_iff->jn5,false_xor->jn8,or_true->jp2
open Nat renaming lt_of_lt_of_le->jb2,le_refl->jb3,le_trans->jc6,ne_of_lt->jc9,lt_irrefl->je0,le_of_succ_le->jf6,zero_le->jg2,lt_succ_self->jg7,le_add_right->jh7,lt_of_succ_lt_succ->ji1,ne_of_gt->ji2,zero_add->ji8,lt_succ_of_lt->jj8,le_of_lt->jk1,sub_self->jk3,mul_le_mul_right->jk4,min_eq_left->jl3,min_le_right->jm2,lt_trans->jn0,succ_mul->jp0,succ_ne_zero->jp4,succ_le_succ->jp6,min_le_left->jq0,mul_comm->jq4,le_succ->jr2,log2_lt->jr3
open Option renaming map_eq_some_iff->jb5,map_some->jj0,isSome_iff_exists->jl7,getD_none->jp3
open Int renaming toNat_natCast->je1,emod_nonneg->jg4,emod_lt_of_pos->jg8,zero_add->jh4,le_refl->jl9,natCast_mul->jn1,ofNat_le->jq6,le_trans->jr0,toNat->jr1,not_lt->jr4
open Array renaming length_toList->je9,all_toList->jh8,getElem?_toList->jk2,toList_eq_nil_iff->jl8,getElem?_eq_none->jm5,append_assoc->jo3,toList->jq3
set_option Elab.async false
set_option linter.all false
set_option maxRecDepth 100000
set_option autoImplicit false
set_option maxHeartbeats 2000000
namespace L2
open PySem PySem.Spec PyProof.Rows
abbrev Key:=Sum Int Str
def qou:Key->Value->Bool
 | .inl k,v=>Value.isInt k v
 | .inr x,v=>Value.isStrOf x v
def keyH (w:World):Key->Int
 | .inl k=>hashInt k
 | .inr x=>hashStr w x
theorem zxo:∀ {k:Key}{v:Value},qou k v=true->(∃ i t,k=Sum.inl i/\v=Value.int i t)\/(∃ x t,k=Sum.inr x/\v=Value.str x t)
 | .inl i,v,h=>by
  obtain ⟨t,e⟩:=Value.isInt_shape (k:=i) (v:=v) h
  exact .inl ⟨i,t,rfl,e⟩
 | .inr x,v,h=>by
  obtain ⟨t,e⟩:=Value.isStrOf_shape (x:=x) (v:=v) h
  exact .inr ⟨x,t,rfl,e⟩
theorem qot (a b:Int):decide ((Sum.inl a:Key)=Sum.inl b)=(a == b):=by
 by_cases e:a=b
 ·subst e;simp
 ·have h:¬ (Sum.inl a:Key)=Sum.inl b:=λ q=>e (Sum.inl.inj q)
  rw [decide_eq_false h]
  exact (beq_eq_false_iff_ne.mpr e).symm
theorem qoq (a b:Str):decide ((Sum.inr a:Key)=Sum.inr b)=decide (a=b):=by
 by_cases e:a=b
 ·subst e;simp
 ·have h:¬ (Sum.inr a:Key)=Sum.inr b:=λ q=>e (Sum.inr.inj q)
  rw [decide_eq_false h,decide_eq_false e]
theorem qos (a:Int) (b:Str):decide ((Sum.inl a:Key)=Sum.inr b)=false:=decide_eq_false (λ q=>nomatch q)
theorem qor (a:Str) (b:Int):decide ((Sum.inr a:Key)=Sum.inl b)=false:=decide_eq_false (λ q=>nomatch q)
def zvv (prog:Program) (w:World):PySem.KeyKind prog w Key where
 is:=qou
 hash:=keyH w
 inj:=λ v a b ha hb=>by
  rcases zxo ha with ⟨i,t,rfl,rfl⟩ | ⟨x,t,rfl,rfl⟩
  ·rcases zxo hb with ⟨j,u,rfl,e⟩ | ⟨y,u,rfl,e⟩
   ·injection e with e1 _;rw [e1]
   ·exact nomatch e
  ·rcases zxo hb with ⟨j,u,rfl,e⟩ | ⟨y,u,rfl,e⟩
   ·exact nomatch e
   ·injection e with e1 _;rw [e1]
 byValue:=λ k v h=>by
  rcases zxo h with ⟨i,t,rfl,rfl⟩ | ⟨x,t,rfl,rfl⟩ <;> rfl
 pyHash:=λ hv h=>by
  rcases zxo hv with ⟨i,t,rfl,rfl⟩ | ⟨x,t,rfl,rfl⟩
  ·exact wpAny_pyHash_int h
  ·exact wpAny_pyHash_str h
 eqBool:=λ hu hv h=>by
  rcases zxo hu with ⟨i,t,rfl,rfl⟩ | ⟨x,t,rfl,rfl⟩
  ·rcases zxo hv with ⟨j,u,rfl,rfl⟩ | ⟨y,u,rfl,rfl⟩
   ·rw [qot] at h;exact wpAny_eqBool_int h
   ·rw [qos] at h;exact SeqAt.EqAt.int_str i t y u _ _ _ _ h
  ·rcases zxo hv with ⟨j,u,rfl,rfl⟩ | ⟨y,u,rfl,rfl⟩
   ·rw [qor] at h;exact SeqAt.EqAt.str_int x t j u _ _ _ _ h
   ·rw [qoq] at h;exact wpAny_eqBool_str h
 «strs»:=λ k x t v h=>by
  rcases zxo h with ⟨i,u,rfl,e⟩ | ⟨y,u,rfl,e⟩
  ·exact nomatch e
  ·injection e with e1 _
   subst e1
   cases v <;> rfl
inductive V where
 | non | bl (b:Bool) | int (i:Int) | str (x:Str) | byt (b:Array UInt8) | flt (b:UInt64) | ref (a:Addr) | ty (n:String)
 deriving DecidableEq
def RelV:V->Value->Prop
 | .non,u=>u=Value.none
 | .bl b,u=>u=Value.bool b
 | .int i,u=>∃ t,u=Value.int i t
 | .str x,u=>∃ t,u=Value.str x t
 | .byt b,u=>∃ t,u=Value.bytes b t
 | .flt b,u=>∃ t,u=Value.float b t
 | .ref a,u=>u=Value.ref a
 | .ty n,u=>u=Value.type n
abbrev Vals:List V->List Value->Prop:=Paired RelV
theorem Vals.length {xs:List V}{us:List Value} (r:Vals xs us):xs.length=us.length:=Paired.length r
theorem Vals.get:∀ {xs:List V}{us:List Value}{i:Nat}{x:V},Vals xs us->xs[i]?=some x->∃ u,us[i]?=some u/\RelV x u
 | _,_,_,_,.nil,e=>by simp at e
 | _,_,0,_,.cons r _,e=>by simp at e;subst e;exact ⟨_,rfl,r⟩
 | _,_,i + 1,x,.cons _ t,e=>by
  obtain ⟨u,h1,h2⟩:=Vals.get (i:=i) (x:=x) t (by simpa using e)
  exact ⟨u,by simpa using h1,h2⟩
theorem Vals.set {x:V}{u:Value} (r:RelV x u):∀ {xs:List V}{us:List Value} (i:Nat),Vals xs us->Vals (xs.set i x) (us.set i u)
 | _,_,_,.nil=>.nil
 | _,_,0,.cons _ t=>.cons r t
 | _,_,i + 1,.cons q t=>.cons q (Vals.set r i t)
theorem Vals.append:∀ {xs ys:List V}{us ws:List Value},Vals xs us->Vals ys ws->Vals (xs++ys) (us++ws)
 | _,_,_,_,.nil,s=>s
 | _,_,_,_,.cons r t,s=>.cons r (Vals.append t s)
theorem Vals.take:∀ {xs:List V}{us:List Value} (n:Nat),Vals xs us->Vals (xs.take n) (us.take n)
 | _,_,0,_=>.nil
 | _,_,_ + 1,.nil=>.nil
 | _,_,n + 1,.cons r t=>.cons r (Vals.take n t)
theorem Vals.drop:∀ {xs:List V}{us:List Value} (n:Nat),Vals xs us->Vals (xs.drop n) (us.drop n)
 | _,_,0,r=>r
 | _,_,_ + 1,.nil=>.nil
 | _,_,n + 1,.cons _ t=>Vals.drop n t
def RelO:Option V->Option Value->Prop
 | some v,some u=>RelV v u
 | none,none=>True
 | _,_=>False
def KV {κ:Type}:List (κ×V)->List (κ×Value)->Prop:=Paired λ (p:κ×V) (q:κ×Value)=>p.1=q.1/\RelV p.2 q.2
def kV:Key->V
 | .inl i=>.int i
 | .inr x=>.str x
inductive HO where
 | lst (xs:List V)
 | tup (xs:List V)
 | dK (kvs:List (Key×V)) | dT (kvs:List (List Key×V))
 | set (S:Int->Bool) (n:Nat)
 | ins (C dx:Addr) (fs:List (Str×V))
 | own (x:Addr)
 | xd (fs:List (Str×V))
 | met (f x:Addr)
 | rng (lo hi:Int)
 | frz (o:Obj) (u:HO)
 | tbl (ps:Array Value)
 | ext (φ:Heap->Prop)
abbrev Hp:=Addr->Option HO
def upd (H:Hp) (a:Addr) (o:HO):Hp:=λ b=>if b=a then some o else H b
theorem zqv {H:Hp}{a:Addr}{o:HO}:upd H a o a=some o:=by unfold upd;rw [if_pos rfl]
theorem zqp {H:Hp}{a b:Addr}{o:HO} (h:b≠a):upd H a o b=H b:=by unfold upd;rw [if_neg h]
theorem zzh {H:Hp}{a b:Addr}{o:HO} (h:H a=some o) (h':H b=none):a≠b:=by
 intro e;subst e;rw [h] at h';cases h'
section
variable (P:Program) (w:World)
def zza (H:Hp) (h:Heap) (a:Addr):HO->Prop
 | .lst xs=>xs.length<=sizeLine/\∃ (its:List Value) (n:Nat),Vals xs its/\h.get? a=some { cls:=.type "list",data:=.seq its.toArray n }
 | .tup xs=>xs.length<=sizeLine/\∃ its:List Value,Vals xs its/\IsTup h a its.toArray
 | .dK kvs=>kvs.length<=sizeLine/\(a == sysModules)=false/\∃ vs,KV kvs vs/\h.DictOf (zvv P w) a vs
 | .dT kvs=>kvs.length<=sizeLine/\(a == sysModules)=false/\∃ xs:List (List Key×Addr×Value),
   Paired (λ (p:List Key×V) (q:List Key×Addr×Value)=>p.1=q.1/\H q.2.1=some (.tup (p.1.map kV))/\RelV p.2 q.2.2) kvs xs /\
   ∃ o es ep,h.get? a=some o/\o.ExactDict/\o.data=.dict es ep/\es.toList=xs.map (entryOfKey (tupleKind (zvv P w)))/\(xs.map (·.1)).Nodup
 | .set S n=>h.SetOf (intKind P w) a S n
 | .ins C dx fs=>H dx=some (.own a)/\fs.length<=1000/\dx≠a/\h.get? a=some (PySem.W.instObj C dx) /\
   ∃ mA,h.Ns1 dx mA/\(∀ f,RelO (fs.lookup f) (mA f))/\PySem.Within mA (fs.map (·.1))
 | .own _=>∃ o,h.get? a=some o
 | .xd fs=>∃ mA,h.Ns1 a mA/\∀ f,RelO (fs.lookup f) (mA f)
 | .rng lo hi=>∃ t u v,h.get? a=some { cls:=.type "range",data:=.fields #[.int lo t,.int hi u,.int 1 v] }
 | .frz o u=>h.get? a=some o/\zza H h a u
 | .tbl ps=>h.get? a=some { cls:=.none,data:=.fields ps }
 | .met f x=>h.get? a=some (PySem.W.methodObj (.ref f) (.ref x))
 | .ext φ=>φ h/\(∃ o,h.get? a=some o)/\∀ h1 h2:Heap,φ h1->(∀ o,h1.get? a=some o->h2.get? a=some o)->φ h2
def HOk (H:Hp) (h:Heap):Prop:=∀ a o,H a=some o->zza P w H h a o
end
section
variable {P:Program}{w:World}{H H':Hp}{h h':Heap}{a:Addr}{o:HO}
theorem zza.lt (x:zza P w H h a o):a < h.objs.size:=by
 cases o with
 | lst xs=>obtain ⟨_,_,_,_,e⟩:=x;exact Heap.lt_size e
 | tup xs=>obtain ⟨_,_,_,p⟩:=x;exact p.lt
 | dK kvs=>obtain ⟨_,_,_,_,o,_,_,e,_⟩:=x;exact Heap.lt_size e
 | dT kvs=>obtain ⟨_,_,_,_,o,_,_,e,_⟩:=x;exact Heap.lt_size e
 | set S n=>obtain ⟨o,_,_,_,e,_⟩:=x;exact Heap.lt_size e
 | ins C dx fs=>obtain ⟨_,_,_,e,_⟩:=x;exact Heap.lt_size e
 | own y=>obtain ⟨_,e⟩:=x;exact Heap.lt_size e
 | xd fs=>obtain ⟨_,⟨_,_,_,e,_⟩,_⟩:=x;exact Heap.lt_size e
 | rng lo hi=>obtain ⟨_,_,_,e⟩:=x;exact Heap.lt_size e
 | frz ob u=>obtain ⟨e,_⟩:=x;exact Heap.lt_size e
 | tbl ps=>exact Heap.lt_size (show h.get? a=some _ from x)
 | met f y=>exact Heap.lt_size (show h.get? a=some _ from x)
 | ext φ=>obtain ⟨_,⟨_,e⟩,_⟩:=x;exact Heap.lt_size e
theorem Paired.mapP {α β:Type}{F G:α->β->Prop}:∀ {l₁:List α}{l₂:List β},Paired F l₁ l₂->(∀ a b,F a b->G a b)->Paired G l₁ l₂
 | _,_,.nil,_=>.nil
 | _,_,.cons r t,f=>.cons (f _ _ r) (Paired.mapP t f)
theorem zza.stay (x:zza P w H h a o) (k:∀ b u,(b=a\/H b=some (.own a))->h.get? b=some u->h'.get? b=some u)
  (ho:∀ b,H b=some (.own a)->H' b=some (.own a)) (ht:∀ b xs,H b=some (.tup xs)->H' b=some (.tup xs)):zza P w H' h' a o:=by
 induction o with
 | lst xs=>obtain ⟨z,its,n,r,e⟩:=x;exact ⟨z,its,n,r,k _ _ (.inl rfl) e⟩
 | tup xs=>obtain ⟨z,its,r,ob,e,c⟩:=x;exact ⟨z,its,r,ob,k _ _ (.inl rfl) e,c⟩
 | dK kvs=>obtain ⟨z,y,vs,r,ob,es,ep,e,c⟩:=x;exact ⟨z,y,vs,r,ob,es,ep,k _ _ (.inl rfl) e,c⟩
 | dT kvs=>
  obtain ⟨z,y,xs,r,ob,es,ep,e,c⟩:=x
  exact ⟨z,y,xs,Paired.mapP r λ p q z=>⟨z.1,ht _ _ z.2.1,z.2.2⟩,ob,es,ep,k _ _ (.inl rfl) e,c⟩
 | set S n=>obtain ⟨ob,es,ep,t,e,c⟩:=x;exact ⟨ob,es,ep,t,k _ _ (.inl rfl) e,c⟩
 | ins C dx fs=>
  obtain ⟨d,z,ne,e,mA,⟨od,es,ep,e2,c⟩,r⟩:=x
  exact ⟨ho _ d,z,ne,k _ _ (.inl rfl) e,mA,⟨od,es,ep,k _ _ (.inr d) e2,c⟩,r⟩
 | own y=>obtain ⟨ob,e⟩:=x;exact ⟨ob,k _ _ (.inl rfl) e⟩
 | xd fs=>obtain ⟨mA,⟨od,es,ep,e,c⟩,r⟩:=x;exact ⟨mA,⟨od,es,ep,k _ _ (.inl rfl) e,c⟩,r⟩
 | rng lo hi=>obtain ⟨t,u,v,e⟩:=x;exact ⟨t,u,v,k _ _ (.inl rfl) e⟩
 | frz ob u ih=>obtain ⟨e,q⟩:=x;exact ⟨k _ _ (.inl rfl) e,ih q⟩
 | tbl ps=>
  have e:h.get? a=some { cls:=.none,data:=.fields ps }:=x
  show h'.get? a=some { cls:=.none,data:=.fields ps }
  exact k a _ (.inl rfl) e
 | met f y=>
  have e:h.get? a=some (PySem.W.methodObj (.ref f) (.ref y)):=x
  show h'.get? a=some (PySem.W.methodObj (.ref f) (.ref y))
  exact k a _ (.inl rfl) e
 | ext φ=>obtain ⟨p,⟨o,e⟩,st⟩:=x;exact ⟨st _ _ p λ o q=>k _ _ (.inl rfl) q,⟨o,k _ _ (.inl rfl) e⟩,st⟩
theorem HOk.lt (x:HOk P w H h) (e:H a=some o):a < h.objs.size:=(x a o e).lt
theorem HOk.fresh (x:HOk P w H h) (e:h.objs.size<=a):H a=none:=by
 cases q:H a with
 | none=>rfl
 | some u=>exact absurd (jb2 (x.lt q) e) (je0 _)
theorem HOk.kept (x:HOk P w H h) (k:∀ b u,h.get? b=some u->h'.get? b=some u):HOk P w H h':=λ a o e=>
 (x a o e).stay (λ b u _ q=>k b u q) (λ _ q=>q) λ _ _ q=>q
theorem HOk.laid (x:HOk P w H h) (k:∀ b u,h.get? b=some u->h'.get? b=some u) (hp:h.objs.size<=a) (new:zza P w (upd H a o) h' a o):HOk P w (upd H a o) h':=λ b u e=>by
 have hn:=x.fresh hp
 by_cases hb:b=a
 ·subst hb;rw [zqv] at e;cases e;exact new
 ·rw [zqp hb] at e
  exact (x b u e).stay (λ c v _ q=>k c v q) (λ c q=>by rw [zqp (zzh q hn)];exact q) λ c xs q=>by rw [zqp (zzh q hn)];exact q
end
def Rd (H:Hp) (a:Addr) (u:HO):Prop:=H a=some u\/∃ o,H a=some (.frz o u)
theorem Rd.ok {P:Program}{w:World}{H:Hp}{h:Heap}{a:Addr}{u:HO} (r:Rd H a u) (x:HOk P w H h):zza P w H h a u:=by
 rcases r with r | ⟨o,r⟩
 ·exact x a u r
 ·obtain ⟨_,q⟩:=x a _ r
  exact q
def Mut:Option HO->Prop
 | some (.lst _)=>True
 | some (.dK _)=>True
 | some (.dT _)=>True
 | some (.set _ _)=>True
 | some (.ins _ _ _)=>True
 | some (.ext _)=>True
 | _=>False
section
variable {P:Program}{w:World}{H:Hp}{h h':Heap}{x e:Addr}{o':HO}
theorem HOk.write (ok:HOk P w H h) (mu:Mut (H x)) (he:e=x\/H e=some (.own x)) (k:∀ b u,b≠e->h.get? b=some u->h'.get? b=some u) (heo:∃ u,h'.get? e=some u)
  (new:zza P w (upd H x o') h' x o'):HOk P w (upd H x o') h':=λ b u q=>by
 have nown:∀ c y,H c=some (.own y)->c≠x:=λ c y r z=>by subst z;rw [r] at mu;exact mu
 have ntup:∀ c xs,H c=some (.tup xs)->c≠x:=λ c xs r z=>by subst z;rw [r] at mu;exact mu
 by_cases hb:b=x
 ·subst hb;rw [zqv] at q;cases q;exact new
 ·rw [zqp hb] at q
  by_cases hbe:b=e
  ·have q':H b=some (.own x):=by
    rcases he with z | z
    ·exact absurd (hbe.trans z) hb
    ·rw [hbe];exact z
   rw [q] at q';cases q'
   obtain ⟨v,hv⟩:=heo
   exact ⟨v,by rw [hbe];exact hv⟩
  ·refine (ok b u q).stay (λ c v hc r=>k c v ?_ r) (λ c r=>by rw [zqp (nown c b r)];exact r) λ c xs r=>by rw [zqp (ntup c xs r)];exact r
   rcases hc with rfl | hc
   ·exact hbe
   ·rintro rfl
    rcases he with z | z
    ·exact nown c b hc z
    ·rw [hc] at z;cases z;exact hb rfl
end
structure Un (fs ex:List Addr) (H H':Hp) (h h':Heap):Prop where
 keep:∀ b o,h.get? b=some o->H b=none->b∉fs->b∉ex->h'.get? b=some o
 slot:∀ b o,h.get? b=some o->H b=none->b∈fs->b∉ex->∃ sl,h'.get? b=some { o with slots:=sl }
 free:∀ b o,h.get? b=some o->H b=none->b∉ex->H' b=none
 there:∀ b o,h.get? b=some o->b∉ex->∃ o',h'.get? b=some o'
 tups:∀ b xs,H b=some (.tup xs)->H' b=some (.tup xs)
 frzs:∀ b o u,H b=some (.frz o u)->H' b=some (.frz o u)
 tbls:∀ b ps,H b=some (.tbl ps)->∃ more,H' b=some (.tbl (ps++more))
section
variable {fs fs' ex ex':List Addr}{H H1 H2:Hp}{h h1 h2 h':Heap}{a x e:Addr}{o:HO}
theorem Un.any (u:Un fs ex H H1 h h1) {b:Addr}{ob:Obj} (q:h.get? b=some ob) (n:H b=none) (hx:b∉ex):∃ sl,h1.get? b=some { ob with slots:=sl }:=by
 by_cases hb:b∈fs
 ·exact u.slot b ob q n hb hx
 ·exact ⟨ob.slots,u.keep b ob q n hb hx⟩
theorem Un.kept (k:∀ b u,h.get? b=some u->h'.get? b=some u):Un fs ex H H h h':=
 ⟨λ b ob q _ _ _=>k b ob q,λ b ob q _ _ _=>⟨ob.slots,k b ob q⟩,λ _ _ _ n _=>n,λ b ob q _=>⟨ob,k b ob q⟩,λ _ _ q=>q,λ _ _ _ q=>q,λ _ ps q=>⟨#[],by rw [q];simp⟩⟩
theorem Un.refl:Un fs ex H H h h:=Un.kept λ _ _ q=>q
theorem Un.laid (k:∀ b u,h.get? b=some u->h'.get? b=some u) (hp:h.objs.size<=a) (hn:H a=none):Un fs ex H (upd H a o) h h' where
 keep:=λ b u q _ _ _=>k b u q
 slot:=λ b u q _ _ _=>⟨u.slots,k b u q⟩
 free:=λ b u q n _=>by rw [zqp (jc9 (jb2 (Heap.lt_size q) hp))];exact n
 there:=λ b u q _=>⟨u,k b u q⟩
 tups:=λ b xs q=>by rw [zqp (zzh q hn)];exact q
 frzs:=λ b u xs q=>by rw [zqp (zzh q hn)];exact q
 tbls:=λ b ps q=>⟨#[],by rw [zqp (zzh q hn),q];simp⟩
theorem Un.write (mu:Mut (H x)) (he:e=x\/H e=some (.own x)) (k:∀ b u,b≠e->h.get? b=some u->h'.get? b=some u) (heo:∃ u,h'.get? e=some u):Un fs ex H (upd H x o) h h':=by
 have hx:∀ b,H b=none->b≠x:=λ b n z=>by subst z;rw [n] at mu;exact mu
 have hb:∀ b,H b=none->b≠e:=λ b n z=>by
  subst z
  rcases he with r | r
  ·exact hx b n r
  ·rw [n] at r;cases r
 have hm:∀ b u,H b=some u->¬ Mut (some u)->b≠x:=λ b u q nm z=>by subst z;rw [q] at mu;exact nm mu
 refine ⟨λ b u q n _ _=>k b u (hb b n) q,λ b u q n _ _=>⟨u.slots,k b u (hb b n) q⟩,λ b u q n _=>by rw [zqp (hx b n)];exact n,λ b u q _=>?_,
  λ b xs q=>by rw [zqp (hm b _ q λ z=>z)];exact q,λ b u xs q=>by rw [zqp (hm b _ q λ z=>z)];exact q,λ b ps q=>⟨#[],by rw [zqp (hm b _ q λ z=>z),q];simp⟩⟩
 by_cases hbe:b=e
 ·subst hbe;exact heo
 ·exact ⟨u,k b u hbe q⟩
end
def trk (h:Heap) (H:Hp):List Addr:=(jc2 h.objs.size).filter λ a=>(H a).isSome
def hidT (h:Heap) (H:Hp):Heap:=PySem.W.hideAll h (trk h H)
theorem qe0 (h:Heap) (H:Hp):(hidT h H).objs.size=h.objs.size:=PySem.W.hideAll_size _ _
theorem qg9 {h:Heap}{H:Hp}{b:Addr}{o:Obj} (e:h.get? b=some o) (n:H b=none):(hidT h H).get? b=some o:=
 PySem.W.hideAll_get _ e λ hm=>by
  have q:(H b).isSome=true:=(jk6.mp hm).2
  rw [n] at q;simp at q
theorem qk1 {h:Heap}{H:Hp}{b:Addr}{o:Obj} (e:(hidT h H).get? b=some o):h.get? b=some o/\H b=none:=by
 have e':h.get? b=some o:=PySem.W.of_hideAll (trk h H) e
 refine ⟨e',?_⟩
 cases q:H b with
 | none=>rfl
 | some x=>
  have hm:b∈trk h H:=jk6.mpr ⟨jd8.mpr (Heap.lt_size e'),by simp [q]⟩
  have z:(hidT h H).get? b=none:=PySem.W.hideAll_none (trk h H) hm
  rw [z] at e;cases e
def ql2 (g h:Heap) (L:Addr):List (Addr×Obj):=(jc2 h.objs.size).filterMap λ a=>if a=L\/(g.get? a).isSome=true then none else (h.get? a).map λ o=>(a,o)
def rest (g h:Heap) (L d:Addr):List (Addr×Obj):=(ql2 g h L).filter λ p=>decide (p.1≠d)
structure Mod (K:PySem.W.Frag) (mg:Str->Option Value) (base:Heap):Prop where
 kin:K.In base
 glob:base.Ns mainGlobals mg
 blt:∃ mb,base.Ns builtinsNs mb/\∀ x:Str,x ≠ "__name__" -> mb x=bootBuiltins x
 nolimit:base.NoLimit
structure Cx where
 prog:Program
 w:World
 K:PySem.W.Frag
 mg:Str->Option Value
 base:Heap
 A:Around
 N:List Str
 s₀:Shared
 H₀:Hp
 env:Env
 outer:List Env
 stack:List Env
 ex:List Addr
 fn:Str->Bool
 calm:Bool
 pn:List (Addr×Obj)
 xe:Value->Shared->Prop
def frs (l:List Env):List Addr:=l.filterMap (·.frame)
abbrev Cx.fs (X:Cx):List Addr:=frs X.outer
def Vis (sc:Scope) (x:Str):Prop:=sc.names.lookup x=some .local\/sc.names.lookup x=some .cell\/sc.names.lookup x=some .free
def Loc (sc:Scope) (x:Str):Prop:=sc.names.lookup x=some .local\/sc.names.lookup x=some .cell
def Look (env:Env) (h:Heap) (m:Str->Option Value) (x:Str) (u:Value):Prop:=
 (env.kindOf x=some .local/\m x=some u)\/((env.kindOf x=some .cell\/env.kindOf x=some .free)/\∃ c,env.cells.lookup x=some c/\h.IsCell c (some u))
structure Cx.Ok (X:Cx):Prop where
 mod:Mod X.K X.mg X.base
 kind:X.env.scope.kind=.function
 glob:X.env.globals=mainGlobals
 blt:X.env.builtins=builtinsNs
 above:X.s₀.heap.objs.size<=X.env.locals
 inj:∀ x y c,X.env.cells.lookup x=some c->X.env.cells.lookup y=some c->x=y
 has:∀ x,(X.env.kindOf x=some .cell\/X.env.kindOf x=some .free)->∃ c,X.env.cells.lookup x=some c
 cab:∀ x c,X.fn x=true->X.env.cells.lookup x=some c->X.s₀.heap.objs.size<=c
 hd:X.calm=true->X.A.handled=none
 frames:X.A.frames=some X.stack
 stk:X.stack=X.outer\/(X.stack=X.env::X.outer/\X.env.frame=some X.env.locals)
 exf:∀ b∈X.ex,b≠X.env.locals/\∀ x c,X.env.cells.lookup x=some c->c≠b
 bs:∀ b o,X.base.get? b=some o->X.s₀.heap.get? b=some o/\X.H₀ b=none
 bsz:X.base.objs.size<=X.s₀.heap.objs.size
 noex:∀ b o,X.base.get? b=some o->b∉X.ex
 exfs:∀ b∈X.ex,b∉X.fs
 funs:X.s₀.heap.FunFrames X.base X.outer
 frf:∀ b∈X.fs,X.H₀ b=none
structure Inv (X:Cx) (pins:List (Addr×Obj)) (σ:List (Option V)) (H:Hp) (s:Shared):Prop where
 ok:X.Ok
 os:s.os=X.s₀.os
 bare:AllBare s.gens
 base:Un X.fs X.ex X.H₀ H X.s₀.heap s.heap
 loc:∃ m,s.heap.Ns X.env.locals m/\∀ (i:Nat) (x:Str) (v:V),X.N[i]?=some x->σ[i]?=some (some v)->Vis X.env.scope x->∃ u,RelV v u/\Look X.env s.heap m x u
 cell:∀ x c,X.env.cells.lookup x=some c->∃ v,s.heap.IsCell c v
 free:H X.env.locals=none
 freeC:∀ x c,X.env.cells.lookup x=some c->H c=none
 pin:∀ p∈X.pn++pins,s.heap.get? p.1=some p.2/\H p.1=none/\p.1≠X.env.locals/\p.1∉X.fs/\∀ v,p.2.data≠.cell v
 hok:HOk X.prog X.w H s.heap
 len:σ.length=X.N.length
section
variable {X:Cx}{pins:List (Addr×Obj)}{σ:List (Option V)}{H H':Hp}{s:Shared}{h':Heap}
theorem Cx.Ok.nofr (ok:X.Ok) {b:Addr}{o:Obj} (e:X.base.get? b=some o):b∉X.fs:=λ hb=>by
 have:=(ok.funs.mem hb).1
 rw [e] at this;cases this
theorem Inv.bs (I:Inv X pins σ H s):∀ b o,X.base.get? b=some o->s.heap.get? b=some o/\H b=none:=λ b o e=>
 ⟨I.base.keep b o (I.ok.bs b o e).1 (I.ok.bs b o e).2 (I.ok.nofr e) (I.ok.noex b o e),I.base.free b o (I.ok.bs b o e).1 (I.ok.bs b o e).2 (I.ok.noex b o e)⟩
theorem Inv.bk (I:Inv X pins σ H s):∀ b o,X.base.get? b=some o->s.heap.get? b=some o:=λ b o e=>(I.bs b o e).1
theorem Inv.mod (I:Inv X pins σ H s):Mod X.K X.mg X.base:=I.ok.mod
theorem Inv.kIn (I:Inv X pins σ H s):X.K.In s.heap:=I.ok.mod.kin.keeps I.bk
theorem Inv.nolimit (I:Inv X pins σ H s):s.heap.NoLimit:=I.ok.mod.nolimit.keeps I.bk
theorem Inv.lt (I:Inv X pins σ H s):X.env.locals < s.heap.objs.size:=let ⟨_,hn,_⟩:=I.loc;hn.lt
theorem Inv.sz (I:Inv X pins σ H s):X.s₀.heap.objs.size<=s.heap.objs.size:=jc6 I.ok.above (jk1 I.lt)
theorem Inv.nofs (I:Inv X pins σ H s) {a:Addr} (h:s.heap.objs.size<=a):a∉X.fs:=λ hb=>by
 obtain ⟨_,o,ho,_⟩:=I.ok.funs.mem hb
 exact absurd (jb2 (Heap.lt_size ho) (jc6 I.sz h)) (je0 _)
theorem Inv.cne (I:Inv X pins σ H s):∀ x c,X.env.cells.lookup x=some c->c≠X.env.locals:=λ x c e z=>by
 obtain ⟨v,o,ho,hd⟩:=I.cell x c e
 obtain ⟨m,⟨o',es,ep,ho',hd',_⟩,_⟩:=I.loc
 rw [z,ho'] at ho;cases ho;rw [hd'] at hd;cases hd
theorem Inv.funs (I:Inv X pins σ H s):s.heap.FunFrames X.base X.outer:=by
 have all:∀ (l:List Env),(∀ b∈frs l,b∈X.fs)->X.s₀.heap.FunFrames X.base l->s.heap.FunFrames X.base l:=by
  intro l
  induction l with
  | nil=>intro _ _;trivial
  | cons env r ih=>
   intro hs hl
   obtain ⟨hk,⟨L,o,hf,hn,ho,hd⟩,hr⟩:=hl
   have hL:L∈X.fs:=hs L (by unfold frs;rw [ji7,hf];exact ja5)
   obtain ⟨sl,e⟩:=I.base.slot L o ho (I.ok.frf L hL) hL λ z=>I.ok.exfs L z hL
   exact ⟨hk,⟨L,_,hf,hn,e,hd⟩,ih (λ b hb=>hs b (by unfold frs;rw [ji7,hf];exact ja2 _ hb)) hr⟩
 exact all X.outer (λ _ hb=>hb) I.ok.funs
theorem Inv.stack (I:Inv X pins σ H s):s.heap.FunFrames X.base X.stack:=by
 rcases I.ok.stk with e | ⟨e,hf⟩
 ·rw [e];exact I.funs
 ·rw [e]
  obtain ⟨m,hn,_⟩:=I.loc
  refine .cons (by rw [I.ok.kind];decide) hf hn ?_ I.funs
  exact Heap.get?_none_of_le (jc6 I.ok.bsz I.ok.above)
theorem Inv.stkSub (I:Inv X pins σ H s):∀ b∈frs X.stack,b∈X.env.locals::X.fs:=λ b hb=>by
 rcases I.ok.stk with e | ⟨e,hf⟩
 ·rw [e] at hb;exact ja2 _ hb
 ·rw [e] at hb
  unfold frs at hb
  rw [ji7,hf] at hb
  exact hb
theorem Inv.stkFree (I:Inv X pins σ H s):∀ b∈frs X.stack,H b=none:=λ b hb=>by
 rcases jb0.mp (I.stkSub b hb) with e | hb
 ·rw [e];exact I.free
 ·obtain ⟨_,o,ho,_⟩:=I.ok.funs.mem hb
  exact I.base.free b o ho (I.ok.frf b hb) λ z=>I.ok.exfs b z hb
theorem Inv.step {g':Array GenState}{t':Nat}{d':Drawn}{ch:List Addr} (I:Inv X pins σ H s)
  (hch:∀ b∈ch,(b∈X.ex\/X.s₀.heap.objs.size<=b)/\b≠X.env.locals/\(∀ x c,X.env.cells.lookup x=some c->c≠b)/\∀ p∈X.pn++pins,p.1≠b)
  (keep:∀ b o,b≠X.env.locals->b∉X.fs->b∉ch->s.heap.get? b=some o->H b=none->h'.get? b=some o)
  (slot:∀ b o,b≠X.env.locals->b∈X.fs->b∉ch->s.heap.get? b=some o->H b=none->∃ sl,h'.get? b=some { o with slots:=sl }) (free:∀ b o,b∉ch->s.heap.get? b=some o->H b=none->H' b=none)
  (there:∀ b o,b∉ch->s.heap.get? b=some o->∃ o',h'.get? b=some o')
  (tups:∀ b xs,H b=some (.tup xs)->H' b=some (.tup xs)) (frzs:∀ b o u,H b=some (.frz o u)->H' b=some (.frz o u)) (tbls:∀ b ps,H b=some (.tbl ps)->∃ more,H' b=some (.tbl (ps++more)))
  (ns:∀ m,s.heap.Ns X.env.locals m->h'.Ns X.env.locals m) (hok:HOk X.prog X.w H' h') (hg:AllBare g'):
  Inv X pins σ H' { s with heap:=h',gens:=g',drawn:=d',toks:=t' }:=by
 have neL:∀ b o,X.s₀.heap.get? b=some o->b≠X.env.locals:=λ b o e=>jc9 (jb2 (Heap.lt_size e) I.ok.above)
 have neC:∀ b o,X.s₀.heap.get? b=some o->b∉X.ex->b∉ch:=λ b o e hx hb=>by
  rcases (hch b hb).1 with z | z
  ·exact hx z
  ·exact absurd (jb2 (Heap.lt_size e) z) (je0 _)
 have cellK:∀ x c,X.env.cells.lookup x=some c->∀ v,s.heap.IsCell c v->h'.IsCell c v:=λ x c e v ⟨o,ho,hd⟩=>by
  have nch:c∉ch:=λ z=>(hch c z).2.2.1 x c e rfl
  by_cases hc:c∈X.fs
  ·obtain ⟨sl,q⟩:=slot c o (I.cne x c e) hc nch ho (I.freeC x c e)
   exact ⟨_,q,hd⟩
  ·exact ⟨o,keep c o (I.cne x c e) hc nch ho (I.freeC x c e),hd⟩
 refine ⟨I.ok,I.os,hg,⟨λ b o e n hb hx=>?_,λ b o e n hb hx=>?_,λ b o e n hx=>?_,λ b o e hx=>?_,λ b xs e=>tups b xs (I.base.tups b xs e),λ b o xs e=>frzs b o xs (I.base.frzs b o xs e),λ b ps e=>?_⟩,?_,λ x c e=>?_,?_,λ x c e=>?_,λ p hp=>?_,hok,I.len⟩
 ·exact keep b o (neL b o e) hb (neC b o e hx) (I.base.keep b o e n hb hx) (I.base.free b o e n hx)
 ·obtain ⟨sl,e1⟩:=I.base.slot b o e n hb hx
  obtain ⟨sl',e2⟩:=slot b _ (neL b o e) hb (neC b o e hx) e1 (I.base.free b o e n hx)
  exact ⟨sl',e2⟩
 ·obtain ⟨o',e1⟩:=I.base.there b o e hx
  exact free b o' (neC b o e hx) e1 (I.base.free b o e n hx)
 ·obtain ⟨o',e1⟩:=I.base.there b o e hx
  exact there b o' (neC b o e hx) e1
 ·obtain ⟨m1,e1⟩:=I.base.tbls b ps e
  obtain ⟨m2,e2⟩:=tbls b _ e1
  exact ⟨m1++m2,by rw [e2,jo3]⟩
 ·obtain ⟨m,hn,hl⟩:=I.loc
  refine ⟨m,ns m hn,λ i x v e1 e2 e3=>?_⟩
  obtain ⟨u,r,l⟩:=hl i x v e1 e2 e3
  refine ⟨u,r,?_⟩
  rcases l with l | ⟨k,c,e,z⟩
  ·exact .inl l
  ·exact .inr ⟨k,c,e,cellK x c e _ z⟩
 ·obtain ⟨v,z⟩:=I.cell x c e
  exact ⟨v,cellK x c e v z⟩
 ·obtain ⟨m,⟨o,_,_,ho,_⟩,_⟩:=I.loc
  exact free _ o (λ z=>(hch _ z).2.1 rfl) ho I.free
 ·obtain ⟨v,o,ho,hd⟩:=I.cell x c e
  exact free c o (λ z=>(hch c z).2.2.1 x c e rfl) ho (I.freeC x c e)
 ·obtain ⟨e,n,ne,nf,d⟩:=I.pin p hp
  have nch:p.1∉ch:=λ z=>(hch p.1 z).2.2.2 p hp rfl
  exact ⟨keep p.1 p.2 ne nf nch e n,free p.1 p.2 nch e n,ne,nf,d⟩
theorem Inv.un {t':Nat} (I:Inv X pins σ H s) (u:Un X.fs [] H H' s.heap h') (hok:HOk X.prog X.w H' h'):Inv X pins σ H' { s with heap:=h',toks:=t' }:=by
 obtain ⟨m,⟨o,es,ep,ho,r⟩,_⟩:=id I.loc
 obtain ⟨sl,hL⟩:=u.any ho I.free (by simp)
 exact I.step (g':=s.gens) (d':=s.drawn) (ch:=[]) (λ _ z=>nomatch z) (λ b o _ hb _ e n=>u.keep b o e n hb (by simp)) (λ b o _ hb _ e n=>u.slot b o e n hb (by simp)) (λ b o _ e n=>u.free b o e n (by simp)) (λ b o _ e=>u.there b o e (by simp)) u.tups u.frzs u.tbls (λ m' hm=>by
  obtain ⟨o',es',ep',ho',r'⟩:=hm
  rw [ho] at ho';cases ho'
  exact ⟨_,es',ep',hL,r'⟩) hok I.bare
theorem Inv.call {g':Array GenState}{t':Nat}{d':Drawn}{ch:List Addr} (I:Inv X pins σ H s) (u:Un (frs X.stack) ch H H' s.heap h') (hok:HOk X.prog X.w H' h') (hg:AllBare g')
  (hch:∀ b∈ch,(b∈X.ex\/X.s₀.heap.objs.size<=b)/\b≠X.env.locals/\(∀ x c,X.env.cells.lookup x=some c->c≠b)/\∀ p∈X.pn++pins,p.1≠b):
  Inv X pins σ H' { s with heap:=h',gens:=g',drawn:=d',toks:=t' }:=by
 obtain ⟨m,⟨o,es,ep,ho,r⟩,_⟩:=id I.loc
 obtain ⟨sl,hL⟩:=u.any ho I.free λ z=>(hch _ z).2.1 rfl
 exact I.step (ch:=ch) hch (λ b o hL hb hc e n=>u.keep b o e n (λ z=>(jb0.mp (I.stkSub b z)).elim hL hb) hc) (λ b o _ _ hc e n=>u.any e n hc) (λ b o hc e n=>u.free b o e n hc) (λ b o hc e=>u.there b o e hc) u.tups u.frzs u.tbls (λ m' hm=>by
  obtain ⟨o',es',ep',ho',r'⟩:=hm
  rw [ho] at ho';cases ho'
  exact ⟨_,es',ep',hL,r'⟩) hok hg
theorem Inv.turned {t':Nat}{it:Addr} (I:Inv X pins σ H s) (k:∀ b o,b≠it->s.heap.get? b=some o->h'.get? b=some o) (hn:H it=none) (hL:it≠X.env.locals)
  (h1:it∈X.ex\/X.s₀.heap.objs.size<=it) (h2:∀ x c,X.env.cells.lookup x=some c->c≠it) (h3:∀ p∈X.pn++pins,p.1≠it):Inv X pins σ H { s with heap:=h',toks:=t' }:=by
 have nit:∀ b u,H b=some u->b≠it:=λ b u e z=>by rw [z,hn] at e;cases e
 refine I.step (g':=s.gens) (d':=s.drawn) (ch:=[it]) (λ b hb=>?_) (λ b o _ _ hc e _=>k b o (λ z=>hc (by simp [z])) e) (λ b o _ _ hc e _=>⟨o.slots,k b o (λ z=>hc (by simp [z])) e⟩) (λ _ _ _ _ n=>n)
  (λ b o hc e=>⟨o,k b o (λ z=>hc (by simp [z])) e⟩) (λ _ _ e=>e) (λ _ _ _ e=>e) (λ b ps e=>⟨#[],by rw [e];simp⟩) (λ m hm=>?_) (λ b u e=>?_) I.bare
 ·have e:b=it:=by simpa using hb
  subst e
  exact ⟨h1,hL,h2,h3⟩
 ·obtain ⟨o,es,ep,ho,r⟩:=hm
  exact ⟨o,es,ep,k _ o (Ne.symm hL) ho,r⟩
 ·refine (I.hok b u e).stay (λ c v hc q=>k c v ?_ q) (λ _ q=>q) λ _ _ q=>q
  rcases hc with z | z
  ·rw [z];exact nit b u e
  ·exact nit c _ z
theorem Inv.tok (I:Inv X pins σ H s) (t:Nat):Inv X pins σ H { s with toks:=t }:=I.un (h':=s.heap) (t':=t) Un.refl I.hok
theorem Inv.kept {t':Nat} (I:Inv X pins σ H s) (k:∀ b u,s.heap.get? b=some u->h'.get? b=some u):Inv X pins σ H { s with heap:=h',toks:=t' }:=I.un (Un.kept k) (I.hok.kept k)
theorem Inv.laid {a:Addr}{o:HO}{t':Nat} (I:Inv X pins σ H s) (k:∀ b u,s.heap.get? b=some u->h'.get? b=some u) (hp:s.heap.objs.size<=a) (new:zza X.prog X.w (upd H a o) h' a o):
  Inv X pins σ (upd H a o) { s with heap:=h',toks:=t' }:=I.un (Un.laid k hp (I.hok.fresh hp)) (I.hok.laid k hp new)
theorem Inv.write {x e:Addr}{o:HO}{t':Nat} (I:Inv X pins σ H s) (mu:Mut (H x)) (he:e=x\/H e=some (.own x)) (k:∀ b u,b≠e->s.heap.get? b=some u->h'.get? b=some u) (heo:∃ u,h'.get? e=some u)
  (new:zza X.prog X.w (upd H x o) h' x o):Inv X pins σ (upd H x o) { s with heap:=h',toks:=t' }:=I.un (Un.write mu he k heo) (I.hok.write mu he k heo new)
theorem Inv.pins_of {pins':List (Addr×Obj)} (I:Inv X pins σ H s) (h:∀ p∈pins',s.heap.get? p.1=some p.2/\H p.1=none/\p.1≠X.env.locals/\p.1∉X.fs/\∀ v,p.2.data≠.cell v):Inv X pins' σ H s:=
 ⟨I.ok,I.os,I.bare,I.base,I.loc,I.cell,I.free,I.freeC,λ p hp=>(jc1.mp hp).elim (λ z=>I.pin p (ja9 _ z)) (h p),I.hok,I.len⟩
theorem zfc {N:List Str} (hN:N.Nodup) {i j:Nat}{x:Str} (a:N[i]?=some x) (b:N[j]?=some x):i=j:=by
 obtain ⟨h1,e1⟩:=ja8.mp a
 obtain ⟨h2,e2⟩:=ja8.mp b
 exact (List.getElem_inj hN).mp (e1.trans e2.symm)
theorem zgc {M:Model}{A:Around}{E:Value->Shared->Prop}{i:Nat}{x:Str}{v:V}{u:Value}{Q:Unit->Shared->Prop} (I:Inv X pins σ H s) (hN:X.N.Nodup) (hi:X.N[i]?=some x) (hx:Loc X.env.scope x) (r:RelV v u)
  (h:∀ s',Inv X pins (σ.set i (some v)) H s'->(∃ a,Heap.SameBut a s.heap s'.heap/\(a=X.env.locals\/X.env.cells.lookup x=some a))->Q () s') (hf:X.fn x=true\/X.env.scope.names.lookup x=some .local:=by first | exact .inl rfl | exact .inr rfl | assumption):wpAny M A (storeName X.env x u) Q E s:=by
 obtain ⟨m,hn,hl⟩:=id I.loc
 have hcls:(X.env.scope.kind == .class || (X.env.scope.kind == .module && X.env.locals != X.env.globals))=false:=by rw [I.ok.kind];rfl
 have hiσ:i < σ.length:=by rw [I.len];exact (ja8.mp hi).1
 have cne:=I.cne
 have tracked:∀ {a:Addr}{h':Heap},(∃ o,s.heap.get? a=some o/\H a=none)->Heap.SameBut a s.heap h'->HOk X.prog X.w H h':=λ {a h'} ha hs b ob e=>by
  obtain ⟨_,_,hfree⟩:=ha
  refine (I.hok b ob e).stay (λ c w' hc q=>(hs.2 c ?_).trans q) (λ _ q=>q) λ _ _ q=>q
  rintro rfl
  rcases hc with rfl | hc
  ·rw [hfree] at e;cases e
  ·rw [hfree] at hc;cases hc
 rcases hx with hk | hk
 ·refine wpAny_storeName_local hk hn (λ h' hn' hs=>?_) hcls
  obtain ⟨oL,_,_,hoL,_⟩:=id hn
  refine h _ ⟨I.ok,I.os,I.bare,⟨λ b o e n hb hx=>?_,λ b o e n hb hx=>?_,I.base.free,λ b o e hx=>?_,I.base.tups,I.base.frzs,I.base.tbls⟩,⟨_,hn',λ j y v' e1 e2 e3=>?_⟩,λ y c e=>?_,I.free,I.freeC,λ p hp=>?_,tracked ⟨oL,hoL,I.free⟩ hs,by simpa using I.len⟩ ⟨_,hs,.inl rfl⟩
  ·exact (hs.2 b (jc9 (jb2 (Heap.lt_size e) I.ok.above))).trans (I.base.keep b o e n hb hx)
  ·obtain ⟨sl,e1⟩:=I.base.slot b o e n hb hx
   exact ⟨sl,(hs.2 b (jc9 (jb2 (Heap.lt_size e) I.ok.above))).trans e1⟩
  ·obtain ⟨o',e1⟩:=I.base.there b o e hx
   exact ⟨o',(hs.2 b (jc9 (jb2 (Heap.lt_size e) I.ok.above))).trans e1⟩
  ·by_cases hj:j=i
   ·subst hj
    rw [hi] at e1;cases e1
    rw [jc7 hiσ] at e2
    cases e2
    exact ⟨u,r,.inl ⟨hk,by simp⟩⟩
   ·rw [jb7 (Ne.symm hj)] at e2
    obtain ⟨u',r',q⟩:=hl j y v' e1 e2 e3
    refine ⟨u',r',?_⟩
    rcases q with ⟨k,e⟩ | ⟨k,c,e,z⟩
    ·refine .inl ⟨k,?_⟩
     have:y≠x:=λ e=>hj (zfc hN e1 (e ▸ hi))
     simp [this,e]
    ·exact .inr ⟨k,c,e,z.sameBut hs (cne y c e)⟩
  ·obtain ⟨w',z⟩:=I.cell y c e
   exact ⟨w',z.sameBut hs (cne y c e)⟩
  ·obtain ⟨e,n,ne,nf,d⟩:=I.pin p hp
   exact ⟨(hs.2 p.1 ne).trans e,n,ne,nf,d⟩
 ·have hfn:X.fn x=true:=by
   rcases hf with z | z
   ·exact z
   ·rw [z] at hk;cases hk
  obtain ⟨c,hc⟩:=I.ok.has x (.inl hk)
  obtain ⟨w',z⟩:=I.cell x c hc
  refine wpAny_storeName_cell I.ok.kind hk hc z (λ h' hc' hs=>?_)
  obtain ⟨oc,hoc,hocd⟩:=id z
  refine h { s with heap:=h' } ⟨I.ok,I.os,I.bare,⟨λ b o e n hb hx=>?_,λ b o e n hb hx=>?_,I.base.free,λ b o e hx=>?_,I.base.tups,I.base.frzs,I.base.tbls⟩,⟨m,hn.sameBut hs (Ne.symm (cne x c hc)),λ j y v' e1 e2 e3=>?_⟩,λ y c' e=>?_,I.free,I.freeC,λ p hp=>?_,tracked ⟨oc,hoc,I.freeC x c hc⟩ hs,by simpa using I.len⟩ ⟨c,hs,.inr hc⟩
  ·exact (hs.2 b (jc9 (jb2 (Heap.lt_size e) (I.ok.cab x c hfn hc)))).trans (I.base.keep b o e n hb hx)
  ·obtain ⟨sl,e1⟩:=I.base.slot b o e n hb hx
   exact ⟨sl,(hs.2 b (jc9 (jb2 (Heap.lt_size e) (I.ok.cab x c hfn hc)))).trans e1⟩
  ·obtain ⟨o',e1⟩:=I.base.there b o e hx
   exact ⟨o',(hs.2 b (jc9 (jb2 (Heap.lt_size e) (I.ok.cab x c hfn hc)))).trans e1⟩
  ·by_cases hj:j=i
   ·subst hj
    rw [hi] at e1;cases e1
    rw [jc7 hiσ] at e2
    cases e2
    exact ⟨u,r,.inr ⟨.inl hk,c,hc,hc'⟩⟩
   ·rw [jb7 (Ne.symm hj)] at e2
    obtain ⟨u',r',q⟩:=hl j y v' e1 e2 e3
    refine ⟨u',r',?_⟩
    rcases q with q | ⟨k,c',e,z'⟩
    ·exact .inl q
    ·refine .inr ⟨k,c',e,z'.sameBut hs ?_⟩
     rintro rfl
     exact hj (zfc hN e1 (I.ok.inj _ _ _ e hc ▸ hi))
  ·by_cases hcc:c'=c
   ·subst hcc;exact ⟨_,hc'⟩
   ·obtain ⟨w2,z2⟩:=I.cell y c' e
    exact ⟨w2,z2.sameBut hs hcc⟩
  ·obtain ⟨e,n,ne,nf,d⟩:=I.pin p hp
   refine ⟨(hs.2 p.1 ?_).trans e,n,ne,nf,d⟩
   intro q
   rw [q,hoc] at e
   have q':oc=p.2:=Option.some.inj e
   exact d w' (by rw [<- q'];exact hocd)
theorem zjj {M:Model}{A:Around}{E:Value->Shared->Prop}{i:Nat}{x:Str}{v:V}{u:Value}{Q:Unit->Shared->Prop} (I:Inv X pins σ H s) (hN:X.N.Nodup) (hi:X.N[i]?=some x) (hx:Loc X.env.scope x) (r:RelV v u)
  (h:∀ s',Inv X pins (σ.set i (some v)) H s'->Q () s') (hf:X.fn x=true\/X.env.scope.names.lookup x=some .local:=by first | exact .inl rfl | exact .inr rfl | assumption):wpAny M A (storeName X.env x u) Q E s:=
 zgc I hN hi hx r (λ s' I' _=>h s' I') hf
theorem Inv.call' {s':Shared}{ch:List Addr} (I:Inv X pins σ H s) (ho:s'.os=s.os) (u:Un (frs X.stack) ch H H' s.heap s'.heap) (hok:HOk X.prog X.w H' s'.heap) (hg:AllBare s'.gens)
  (hch:∀ b∈ch,(b∈X.ex\/X.s₀.heap.objs.size<=b)/\b≠X.env.locals/\(∀ x c,X.env.cells.lookup x=some c->c≠b)/\∀ p∈X.pn++pins,p.1≠b):Inv X pins σ H' s':=by
 obtain ⟨h',g',d',t',o'⟩:=s'
 have e:o'=s.os:=ho
 subst e
 exact I.call (g':=g') (t':=t') (d':=d') u hok hg hch
end
abbrev XK:=Value->Option Addr->Hp->Prop
abbrev St:=List (Option V)
abbrev VK:=V->Hp->Prop
abbrev TE:=St->Hp->VK->Prop
abbrev TT:=St->Hp->(Bool->Hp->Prop)->Prop
abbrev TA:=St->Hp->(List V->Hp->Prop)->Prop
structure Ends where
 nx:St->Hp->Prop
 rt:VK
 bk:St->Hp->Prop:=λ _ _=>False
 ct:St->Hp->Prop:=λ _ _=>False
abbrev TS:=Ends->St->Hp->Prop
def EP (X:Cx) (pins:List (Addr×Obj)) (σ:St) (Q:VK) (u:Value) (s':Shared):Prop:=∃ v H',Inv X pins σ H' s'/\RelV v u/\Q v H'
def TP (X:Cx) (pins:List (Addr×Obj)) (σ:St) (Q:Bool->Hp->Prop) (b:Bool) (s':Shared):Prop:=∃ H',Inv X pins σ H' s'/\Q b H'
def AP (X:Cx) (pins:List (Addr×Obj)) (σ:St) (Q:List V->Hp->Prop) (us:List Value) (s':Shared):Prop:=∃ vs H',Inv X pins σ H' s'/\Vals vs us/\Q vs H'
def SP (X:Cx) (pins:List (Addr×Obj)) (D:Ends) (f:Flow) (s':Shared):Prop:=
 match f with
 | .next=>∃ σ' H',Inv X pins σ' H' s'/\D.nx σ' H'
 | .brk=>∃ σ' H',Inv X pins σ' H' s'/\D.bk σ' H'
 | .cont=>∃ σ' H',Inv X pins σ' H' s'/\D.ct σ' H'
 | .ret u=>∃ v σ' H',Inv X pins σ' H' s'/\RelV v u/\D.rt v H'
def PE (X:Cx) (e:Expr) (t:TE):Prop:=
 ∀ (pins:List (Addr×Obj)) (s:Shared) (σ:St) (H:Hp) (Q:VK),Inv X pins σ H s->t σ H Q->wpAny (model X.prog X.w) X.A (eval e X.env) (EP X pins σ Q) X.xe s
def PT (X:Cx) (e:Expr) (t:TT):Prop:=
 ∀ (pins:List (Addr×Obj)) (s:Shared) (σ:St) (H:Hp) (Q:Bool->Hp->Prop),Inv X pins σ H s->t σ H Q->wpAny (model X.prog X.w) X.A (isTrue e X.env (eval e X.env)) (TP X pins σ Q) X.xe s
def PW (X:Cx) (e:Expr) (t:TT):Prop:=
 ∀ (whole:Sem Value) (pins:List (Addr×Obj)) (s:Shared) (σ:St) (H:Hp) (Q:Bool->Hp->Prop),Inv X pins σ H s->t σ H Q->wpAny (model X.prog X.w) X.A (isTrue e X.env whole) (TP X pins σ Q) X.xe s
theorem PW.pt {X:Cx}{e:Expr}{t:TT} (h:PW X e t):PT X e t:=h _
def PA (X:Cx) (es:List Expr) (t:TA):Prop:=
 ∀ (pos:Pos) (pins:List (Addr×Obj)) (s:Shared) (σ:St) (H:Hp) (Q:List V->Hp->Prop),Inv X pins σ H s->t σ H Q->wpAny (model X.prog X.w) X.A (spliced (backTo pos (starEach es X.env))) (AP X pins σ Q) X.xe s
def PS (X:Cx) (st:Stmt) (t:TS):Prop:=
 ∀ (pins:List (Addr×Obj)) (s:Shared) (σ:St) (H:Hp) (D:Ends),Inv X pins σ H s->t D σ H->wpAny (model X.prog X.w) X.A (exec st X.env) (SP X pins D) X.xe s
def PSs (X:Cx) (st:List Stmt) (t:TS):Prop:=
 ∀ (pins:List (Addr×Obj)) (s:Shared) (σ:St) (H:Hp) (D:Ends),Inv X pins σ H s->t D σ H->wpAny (model X.prog X.w) X.A (execs st X.env) (SP X pins D) X.xe s
theorem thn {α:Type}{t:Sem α}{Q Q':α->Shared->Prop}{M:Model}{A:Around}{E:Value->Shared->Prop}{s:Shared} (h:wpAny M A t Q E s) (hQ:∀ a s,Q a s->Q' a s):wpAny M A t Q' E s:=wpAny_mono h hQ λ _ _ x=>x
section
variable {X:Cx}
theorem bin {a b:Expr}{ta tb:TE} (ha:PE X a ta) (hb:PE X b tb) {pins:List (Addr×Obj)}{s:Shared}{σ:St}{H:Hp}{R:V->V->Hp->Prop} (I:Inv X pins σ H s) (h:ta σ H λ x H1=>tb σ H1 λ y H2=>R x y H2)
  {α:Type}{Q:α->Shared->Prop}{f:Value->Value->Sem α}
  (hf:∀ v u s2 x y H2,Inv X pins σ H2 s2->RelV x v->RelV y u->R x y H2->wpAny (model X.prog X.w) X.A (f v u) Q X.xe s2):
  wpAny (model X.prog X.w) X.A (eval a X.env) (λ v s₁=>wpAny (model X.prog X.w) X.A (eval b X.env) (λ u s₂=>wpAny (model X.prog X.w) X.A (f v u) Q X.xe s₂) X.xe s₁) X.xe s:=by
 refine thn (ha pins s σ H _ I h) λ v s1 ⟨x,H1,I1,r1,q1⟩=>?_
 refine thn (hb pins s1 σ H1 _ I1 q1) λ u s2 ⟨y,H2,I2,r2,q2⟩=>?_
 exact hf v u s2 x y H2 I2 r1 r2 q2
def tVar (i:Nat):TE:=λ σ H Q=>∃ v,σ[i]?=some (some v)/\Q v H
def tC (v:V):TE:=λ _ H Q=>Q v H
theorem qin {i:Nat}{x:Str}{pos:Pos} (hN:X.N[i]?=some x) (hv:Vis X.env.scope x) (hd:(x == ("__debug__" : Str))=false:=by decide) (hcd:(x == ("__classdict__" : Str))=false:=by decide):PE X (.Name x pos) (tVar i):=by
 intro pins s σ H Q I h
 obtain ⟨v,e,h⟩:=h
 obtain ⟨m,hn,hl⟩:=I.loc
 obtain ⟨u,r,l⟩:=hl i x v hN e hv
 have fin:EP X pins σ Q u s:=⟨v,H,I,r,h⟩
 rcases l with ⟨hk,hm⟩ | ⟨hk,c,hc,hcell⟩
 ·exact wpAny_Name (wpAny_loadName_local I.ok.kind hk hn hm fin) hd
 ·rcases hk with hk | hk
  ·exact wpAny_Name (wpAny_loadName_cell I.ok.kind hk hc hcell fin) hd
  ·exact wpAny_Name (wpAny_loadName_free I.ok.kind hk hc hcell fin hcd) hd
theorem qdz {i j pos}:PE X (.Constant (.int i) j pos) (tC (.int i)):=λ _ _ _ H _ I h=>wpAny_Constant_int ⟨.int i,H,I.tok _,⟨_,rfl⟩,h⟩
theorem qp2 {b j pos}:PE X (.Constant (.bool b) j pos) (tC (.bl b)):=λ _ _ _ H _ I h=>Constant_bool ⟨.bl b,H,I,rfl,h⟩
theorem qn4 {j pos}:PE X (.Constant .none j pos) (tC .non):=λ _ _ _ H _ I h=>Constant_none ⟨.non,H,I,rfl,h⟩
theorem qip {x j pos}:PE X (.Constant (.str x) j pos) (tC (.str x)):=λ _ _ _ H _ I h=>Calls.Constant_str ⟨.str x,H,I.tok _,⟨_,rfl⟩,h⟩
def Gl (X:Cx) (x:Str):Prop:=X.env.kindOf x=some .globalImplicit
theorem zfh {E:Value->Shared->Prop}{pins:List (Addr×Obj)}{s:Shared}{σ:St}{H:Hp}{x:Str}{u:Value}{pos:Pos}{Q:Value->Shared->Prop} (I:Inv X pins σ H s) (hg:Gl X x) (hm:X.mg x=some u) (h:Q u s)
  (hd:(x == ("__debug__" : Str))=false:=by decide):wpAny (model X.prog X.w) X.A (eval (.Name x pos) X.env) Q E s:=
 Calls.Name_function_global I.ok.kind hg (Calls.loadGlobal_global (by rw [I.ok.glob];exact I.mod.glob.keeps I.bk) hm h) hd
theorem zyz {E:Value->Shared->Prop}{pins:List (Addr×Obj)}{s:Shared}{σ:St}{H:Hp}{x:Str}{u:Value}{pos:Pos}{Q:Value->Shared->Prop} (I:Inv X pins σ H s) (hg:Gl X x) (hm:X.mg x=none) (hv:bootBuiltins x=some u) (h:Q u s)
  (hn:x ≠ "__name__" := by decide) (hd:(x == ("__debug__" : Str))=false:=by decide):wpAny (model X.prog X.w) X.A (eval (.Name x pos) X.env) Q E s:=by
 obtain ⟨mb,h1,h2⟩:=I.mod.blt
 exact Calls.Name_function_global I.ok.kind hg (Calls.loadGlobal_builtin (by rw [I.ok.glob];exact I.mod.glob.keeps I.bk) hm (by rw [I.ok.blt];exact h1.keeps I.bk) ((h2 x hn).trans hv) h) hd
theorem qko {x:Str}{v:V}{u:Value}{pos:Pos} (hg:Gl X x) (hm:X.mg x=some u) (r:RelV v u) (hd:(x == ("__debug__" : Str))=false:=by decide):PE X (.Name x pos) (tC v):=
 λ _ _ _ H _ I h=>zfh I hg hm ⟨v,H,I,r,h⟩ hd
theorem qd1 {x:Str}{v:V}{u:Value}{pos:Pos} (hg:Gl X x) (hm:X.mg x=none) (hv:bootBuiltins x=some u) (r:RelV v u) (hn:x ≠ "__name__" := by decide) (hd:(x == ("__debug__" : Str))=false:=by decide):PE X (.Name x pos) (tC v):=
 λ _ _ _ H _ I h=>zyz I hg hm hv ⟨v,H,I,r,h⟩ hn hd
variable {a b:Expr}{ta tb:TE}{pos:Pos}
def PC (X:Cx) (op:CmpOp) (a b:Expr) (t:TE):Prop:=
 ∀ (pins:List (Addr×Obj)) (s:Shared) (σ:St) (H:Hp) (Q:VK),Inv X pins σ H s->t σ H Q ->
  wpAny (model X.prog X.w) X.A (eval a X.env) (λ v s₁=>wpAny (model X.prog X.w) X.A (eval b X.env) (λ u s₂=>wpAny (model X.prog X.w) X.A (compareOp op v u) (EP X pins σ Q) X.xe s₂) X.xe s₁) X.xe s
theorem zze (b:Expr) {op:CmpOp} (h:op≠.In) (h2:op≠.NotIn):behindInMarks op b=false:=by
 have e1:(op == CmpOp.In)=false:=by cases op <;> first | rfl | exact absurd rfl h
 have e2:(op == CmpOp.NotIn)=false:=by cases op <;> first | rfl | exact absurd rfl h2
 cases b <;> simp [behindInMarks,e1,e2]
def tB (t:TE):TT:=λ σ H Q=>t σ H λ x H1=>∃ c,x=.bl c/\Q c H1
theorem qqp {op:CmpOp}{t:TE} (h:PC X op a b t) (h1:behindInMarks op b=false:=by first | exact zze _ (by decide) (by decide) | rfl):PT X (.Compare a [op] [b] pos) (tB t):=by
 intro pins s σ H Q I hw
 refine wpAny_isTrue_Compare1 (thn (h pins s σ H _ I hw) λ v s1 h1=>thn h1 λ u s2 h2=>thn h2 λ c s3 ⟨x,H1,I1,r1,q1⟩=>?_) h1
 obtain ⟨d,rfl,q⟩:=q1
 cases r1
 exact wpAny_truthy_bool ⟨H1,I1,q⟩
theorem qnt {e:Expr}{t:TE} (h:PE X e t) (he:∀ whole,isTrue e X.env whole=(do let v<-whole;standAt e.pos;holding [v] (truthy v)):=by intro _;rfl):PT X e (tB t):=by
 intro pins s σ H Q I hw
 refine isTrue_plain (thn (h pins s σ H _ I hw) λ v s1 ⟨x,H1,I1,r1,q1⟩=>?_) (he _)
 obtain ⟨d,rfl,q⟩:=q1
 cases r1
 exact wpAny_truthy_bool ⟨H1,I1,q⟩
variable {tA tB':TT}{rest:List Expr}
def tAnd (t u:TT):TT:=λ σ H Q=>t σ H λ c H1=>if c=true then u σ H1 Q else Q false H1
def tOr (t u:TT):TT:=λ σ H Q=>t σ H λ c H1=>if c=true then Q true H1 else u σ H1 Q
def tNot (t:TT):TT:=λ σ H Q=>t σ H λ c H1=>Q (!c) H1
theorem qkg (ha:PT X a tA):PW X (.BoolOp .And [a] pos) tA:=by
 intro wh pins s σ H Q I h
 refine isTrue_and (thn (ha pins s σ H Q I h) λ c s1 e=>?_)
 cases c with
 | true=>exact isTrue_and_nil e
 | false=>exact e
theorem qnr (ha:PT X a tA):PW X (.BoolOp .Or [a] pos) tA:=by
 intro wh pins s σ H Q I h
 refine isTrue_or (thn (ha pins s σ H Q I h) λ c s1 e=>?_)
 cases c with
 | false=>exact isTrue_or_nil e
 | true=>exact e
theorem qns (ha:PT X a tA) (hb:PW X (.BoolOp .And (b::rest) pos) tB'):PW X (.BoolOp .And (a::b::rest) pos) (tAnd tA tB'):=by
 intro wh pins s σ H Q I h
 refine isTrue_and (thn (ha pins s σ H _ I h) λ c s1 ⟨H1,I1,q1⟩=>?_)
 cases c with
 | true=>exact hb wh pins s1 σ H1 Q I1 q1
 | false=>exact ⟨H1,I1,q1⟩
theorem qpz (ha:PT X a tA) (hb:PW X (.BoolOp .Or (b::rest) pos) tB'):PW X (.BoolOp .Or (a::b::rest) pos) (tOr tA tB'):=by
 intro wh pins s σ H Q I h
 refine isTrue_or (thn (ha pins s σ H _ I h) λ c s1 ⟨H1,I1,q1⟩=>?_)
 cases c with
 | true=>exact ⟨H1,I1,q1⟩
 | false=>exact hb wh pins s1 σ H1 Q I1 q1
theorem qnu (ha:PT X a tA):PT X (.UnaryOp .Not a pos) (tNot tA):=by
 intro pins s σ H Q I h
 exact isTrue_not (ha pins s σ H (λ c H1=>Q (!c) H1) I h)
def qm5 (ta tb:TE):TE:=λ σ H Q=>ta σ H λ x H1=>∃ c,x=.bl c/\if c=true then tb σ H1 Q else Q (.bl false) H1
def tOrV (ta tb:TE):TE:=λ σ H Q=>ta σ H λ x H1=>∃ c,x=.bl c/\if c=true then Q (.bl true) H1 else tb σ H1 Q
def qmz (ta:TE):TE:=λ σ H Q=>ta σ H λ x H1=>∃ c,x=.bl c/\Q (.bl (!c)) H1
theorem qiq {op}{t:TE} (h:PE X a t):PE X (.BoolOp op [a] pos) t:=λ pins s σ H Q I hw=>BoolOp_one (h pins s σ H Q I hw)
theorem qn5 (ha:PE X a ta) (hb:PE X (.BoolOp .And (b::rest) pos) tb):PE X (.BoolOp .And (a::b::rest) pos) (qm5 ta tb):=by
 intro pins s σ H Q I h
 refine BoolOp_and (thn (ha pins s σ H _ I h) λ v s1 ⟨x,H1,I1,r1,q1⟩=>?_)
 obtain ⟨c,rfl,q1⟩:=q1
 cases r1
 refine wpAny_truthy_bool ?_
 cases c with
 | true=>exact hb pins s1 σ H1 Q I1 q1
 | false=>exact ⟨.bl false,H1,I1,rfl,q1⟩
theorem qp1 (ha:PE X a ta) (hb:PE X (.BoolOp .Or (b::rest) pos) tb):PE X (.BoolOp .Or (a::b::rest) pos) (tOrV ta tb):=by
 intro pins s σ H Q I h
 refine BoolOp_or (thn (ha pins s σ H _ I h) λ v s1 ⟨x,H1,I1,r1,q1⟩=>?_)
 obtain ⟨c,rfl,q1⟩:=q1
 cases r1
 refine wpAny_truthy_bool ?_
 cases c with
 | false=>exact hb pins s1 σ H1 Q I1 q1
 | true=>exact ⟨.bl true,H1,I1,rfl,q1⟩
theorem qn3 (ha:PE X a ta):PE X (.UnaryOp .Not a pos) (qmz ta):=by
 intro pins s σ H Q I h
 refine UnaryOp_ (thn (ha pins s σ H _ I h) λ v s1 ⟨x,H1,I1,r1,q1⟩=>?_)
 obtain ⟨c,rfl,q1⟩:=q1
 cases r1
 exact not_of (wpAny_truthy_bool ⟨.bl (!c),H1,I1,rfl,q1⟩)
end
def SqL (K:PySem.W.Frag) (H:Hp) (a:Addr) (xs:List V):Prop:=
 Rd H a (.lst xs) \/
  ∃ (o:Obj) (its:Array Value) (n:Nat),K.lookup a=some o/\o.cls=.type "list" /\ o.dict=none/\o.data=.seq its n/\its.size<=sizeLine/\Vals xs its.toList
def SqT (K:PySem.W.Frag) (H:Hp) (a:Addr) (xs:List V):Prop:=
 Rd H a (.tup xs) \/
  ∃ (o:Obj) (its:Array Value) (n:Nat),K.lookup a=some o/\o.cls=.type "tuple" /\ o.data=.seq its n/\its.size<=sizeLine/\Vals xs its.toList
def absV:Value->Option V
 | .none=>some .non
 | .bool b=>some (.bl b)
 | .int i _=>some (.int i)
 | .str x _=>some (.str x)
 | .bytes b _=>some (.byt b)
 | .float b _=>some (.flt b)
 | .ref a=>some (.ref a)
 | .type n=>some (.ty n)
 | _=>none
theorem RelV.abs {x:V}{u:Value} (r:RelV x u):absV u=some x:=by
 cases x with
 | non=>cases r;rfl
 | bl _=>cases r;rfl
 | int _=>obtain ⟨t,rfl⟩:=r;rfl
 | str _=>obtain ⟨t,rfl⟩:=r;rfl
 | byt _=>obtain ⟨t,rfl⟩:=r;rfl
 | flt _=>obtain ⟨t,rfl⟩:=r;rfl
 | ref _=>cases r;rfl
 | ty _=>cases r;rfl
theorem RelV.inj {x y:V}{u:Value} (r:RelV x u) (q:RelV y u):x=y:=Option.some.inj (r.abs.symm.trans q.abs)
theorem Vals.inj:∀ {xs ys:List V}{us:List Value},Vals xs us->Vals ys us->xs=ys
 | _,_,_,.nil,.nil=>rfl
 | _,_,_,.cons r t,.cons r' t'=>by rw [r.inj r',Vals.inj t t']
section
variable {X:Cx}{pins:List (Addr×Obj)}{σ:St}{H:Hp}{s:Shared}{a:Addr}{xs ys:List V}
theorem Inv.list (I:Inv X pins σ H s) (h:SqL X.K H a xs):∃ its:List Value,Vals xs its/\PlainL s.heap a its.toArray/\xs.length<=sizeLine:=by
 rcases h with h | ⟨o,its,n,hk,hc,hd,hs,hz,r⟩
 ·obtain ⟨z,its,n,r,e⟩:=h.ok I.hok
  exact ⟨its,r,⟨_,n,e,rfl,rfl,rfl⟩,z⟩
 ·refine ⟨its.toList,r,⟨o,n,I.kIn a o hk,hc,hd,by simpa using hs⟩,?_⟩
  have e:=r.length
  simp only [je9] at e
  omega
theorem Inv.tuple (I:Inv X pins σ H s) (h:SqT X.K H a xs):∃ its:List Value,Vals xs its/\IsTup s.heap a its.toArray/\xs.length<=sizeLine:=by
 rcases h with h | ⟨o,its,n,hk,hc,hs,hz,r⟩
 ·obtain ⟨z,its,r,p⟩:=h.ok I.hok
  exact ⟨its,r,p,z⟩
 ·refine ⟨its.toList,r,⟨o,I.kIn a o hk,hc,n,by simpa using hs⟩,?_⟩
  have e:=r.length
  simp only [je9] at e
  omega
theorem Inv.list_inj (I:Inv X pins σ H s) (h:SqL X.K H a xs) (h':SqL X.K H a ys):xs=ys:=by
 obtain ⟨its,r,⟨o,n,e,_,_,d⟩,_⟩:=I.list h
 obtain ⟨its',r',⟨o',n',e',_,_,d'⟩,_⟩:=I.list h'
 rw [e] at e';cases e'
 rw [d] at d'
 injection d' with d1 _
 have:its=its':=by simpa using congrArg jq3 d1
 subst this
 exact r.inj r'
theorem Inv.tuple_inj (I:Inv X pins σ H s) (h:SqT X.K H a xs) (h':SqT X.K H a ys):xs=ys:=by
 obtain ⟨its,r,⟨o,e,_,n,d⟩,_⟩:=I.tuple h
 obtain ⟨its',r',⟨o',e',_,n',d'⟩,_⟩:=I.tuple h'
 rw [e] at e';cases e'
 rw [d] at d'
 injection d' with d1 _
 have:its=its':=by simpa using congrArg jq3 d1
 subst this
 exact r.inj r'
end
section
variable {X:Cx}{pins:List (Addr×Obj)}{σ:St}{H:Hp}{s:Shared}{E:Value->Shared->Prop}
end
section
variable {X:Cx}{st:Stmt}{rest:List Stmt}{t u:TS}{e:Expr}{te:TE}{pos:Pos}
def qm0:TS:=λ D σ H=>D.nx σ H
def tSeq (t u:TS):TS:=λ D σ H=>t { D with nx:=u D } σ H
theorem qkk:PSs X [] qm0:=λ _ _ σ H _ I h=>wpAny_execs_nil ⟨σ,H,I,h⟩
theorem qgm (h1:PS X st t) (h2:PSs X rest u):PSs X (st::rest) (tSeq t u):=by
 intro pins s σ H D I h
 refine wpAny_execs_cons (thn (h1 pins s σ H { D with nx:=u D } I h) λ f s1 q=>?_)
 cases f with
 | next=>
  obtain ⟨σ',H',I',q⟩:=q
  exact h2 pins s1 σ' H' D I' q
 | ret v=>exact q
 | brk=>exact q
 | cont=>exact q
theorem zbe (h1:PS X st t):PSs X [st] t:=by
 intro pins s σ H D I h
 refine wpAny_execs_cons (thn (h1 pins s σ H D I h) λ f s1 q=>?_)
 cases f with
 | next=>exact wpAny_execs_nil q
 | ret v=>exact q
 | brk=>exact q
 | cont=>exact q
theorem Inv.quiet {pins:List (Addr×Obj)}{σ:St}{H:Hp}{s:Shared} (I:Inv X pins σ H s):interactive X.env=false:=by simp [interactive,I.ok.kind]
def qc6 (te:TE):TS:=λ D σ H=>te σ H λ _ H1=>D.nx σ H1
theorem zms (he:PE X e te) (hs:swapsWith e none pos.line X.env=pure false:=by rfl):PS X (.Expr e pos) (qc6 te):=by
 intro pins s σ H D I h
 exact wpAny_Expr_any (thn (he pins s σ H _ I h) λ v s1 ⟨x,H1,I1,r1,q1⟩=>⟨σ,H1,I1,q1⟩) I.quiet hs
def tRet (te:TE):TS:=λ D σ H=>te σ H D.rt
theorem qik (he:PE X e te):PS X (.Return (some e) pos) (tRet te):=by
 intro pins s σ H D I h
 exact wpAny_Return_some (thn (he pins s σ H _ I h) λ v s1 ⟨x,H1,I1,r1,q1⟩=>⟨x,σ,H1,I1,r1,q1⟩)
def tIfS (c:TT) (t u:TS):TS:=λ D σ H=>c σ H λ b H1=>if b=true then t D σ H1 else u D σ H1
theorem qnw {c:Expr}{a b:List Stmt}{tc:TT} (hc:PT X c tc) (ha:PSs X a t) (hb:PSs X b u):PS X (.If c a b pos) (tIfS tc t u):=by
 intro pins s σ H D I h
 refine wpAny_If (thn (hc pins s σ H _ I h) λ d s1 ⟨H1,I1,q1⟩=>?_)
 cases d with
 | true=>exact ha pins s1 σ H1 D I1 q1
 | false=>exact hb pins s1 σ H1 D I1 q1
def qas:TS:=λ _ _ _=>False
theorem zmr:PS X st qas:=λ _ _ _ _ _ _ h=>h.elim
end
abbrev TG:=V->St->Hp->(St->Hp->Prop)->Prop
abbrev TGs:=List V->St->Hp->(St->Hp->Prop)->Prop
def PG (X:Cx) (target:Expr) (t:TG):Prop:=
 ∀ (pins:List (Addr×Obj)) (s:Shared) (σ:St) (H:Hp) (v:V) (u:Value) (Q:St->Hp->Prop),Inv X pins σ H s->RelV v u->t v σ H Q ->
  wpAny (model X.prog X.w) X.A (assign target X.env u) (λ _ s'=>∃ σ' H',Inv X pins σ' H' s'/\Q σ' H') X.xe s
def PGs (X:Cx) (ts:List Expr) (t:TGs):Prop:=
 ∀ (pins:List (Addr×Obj)) (s:Shared) (σ:St) (H:Hp) (vs:List V) (us:List Value) (Q:St->Hp->Prop),Inv X pins σ H s->Vals vs us->t vs σ H Q ->
  wpAny (model X.prog X.w) X.A (assignInOrder ((assignEach ts X.env).map (·.2)) us) (λ _ s'=>∃ σ' H',Inv X pins σ' H' s'/\Q σ' H') X.xe s
abbrev TSet:=V->V->V->Hp->(Hp->Prop)->Prop
def PSet (X:Cx) (t:TSet):Prop:=
 ∀ (pins:List (Addr×Obj)) (s:Shared) (σ:St) (H:Hp) (o i v:V) (ov iv u:Value) (Q:Hp->Prop),Inv X pins σ H s->RelV o ov->RelV i iv->RelV v u->t o i v H Q ->
  wpAny (model X.prog X.w) X.A (setItem ov iv u) (λ _ s'=>∃ H',Inv X pins σ H' s'/\Q H') X.xe s
abbrev TIp:=V->V->Hp->VK->Prop
def PIp (X:Cx) (op:Operator) (t:TIp):Prop:=
 ∀ (pins:List (Addr×Obj)) (s:Shared) (σ:St) (H:Hp) (x y:V) (v u:Value) (Q:VK),Inv X pins σ H s->RelV x v->RelV y u->t x y H Q ->
  wpAny (model X.prog X.w) X.A (inplaceOp op v u) (EP X pins σ Q) X.xe s
section
variable {X:Cx}{pos:Pos}
def zjf (i:Nat):TG:=λ v σ H Q=>Q (σ.set i (some v)) H
theorem zmu {i:Nat}{x:Str} (hN:X.N.Nodup) (hi:X.N[i]?=some x) (hx:Loc X.env.scope x) (hf:X.fn x=true\/X.env.scope.names.lookup x=some .local:=by first | exact .inl rfl | exact .inr rfl | assumption):PG X (.Name x pos) (zjf i):=by
 intro pins s σ H v u Q I r h
 exact wpAny_assign_Name (zjj I hN hi hx r (λ s' I'=>⟨_,H,I',h⟩) hf)
def gNil:TGs:=λ vs σ H Q=>vs=[]/\Q σ H
def qo1 (t:TG) (u:TGs):TGs:=λ vs σ H Q=>∃ v r,vs=v::r/\t v σ H λ σ' H'=>u r σ' H' Q
theorem qdx:PGs X [] gNil:=by
 intro pins s σ H vs us Q I r h
 obtain ⟨e,h⟩:=h
 subst e
 cases r
 exact assignInOrder_nil ⟨σ,H,I,h⟩
theorem qa3 {e:Expr}{es:List Expr}{t:TG}{u:TGs} (h1:PG X e t) (h2:PGs X es u)
  (hs:(assignEach (e::es) X.env).map (·.2)=assign e X.env::(assignEach es X.env).map (·.2):=by rfl):PGs X (e::es) (qo1 t u):=by
 intro pins s σ H vs us Q I r h
 obtain ⟨v,vr,e1,h⟩:=h
 subst e1
 cases r with
 | cons r rr=>
  rw [hs]
  refine assignInOrder_cons (thn (h1 pins s σ H _ _ _ I r h) λ _ s1 ⟨σ1,H1,I1,q1⟩=>?_)
  exact h2 pins s1 σ1 H1 _ _ Q I1 rr q1
def gTup (K:PySem.W.Frag) (n:Nat) (t:TGs):TG:=λ v σ H Q=>∃ a xs,v=.ref a/\SqT K H a xs/\xs.length=n/\t xs σ H Q
theorem qdy {es:List Expr}{k:Nat}{t:TGs}{n:Nat} (hc:X.calm=true) (h:PGs X es t)
  (hn:(assignEach es X.env).length=n:=by rfl) (hst:(assignEach es X.env).findIdx? (·.1)=none:=by rfl):PG X (.Tuple es k pos) (gTup X.K n t):=by
 intro pins s σ H v u Q I r hw
 obtain ⟨a,xs,e1,hq,hl,hw⟩:=hw
 subst e1
 cases r
 obtain ⟨its,rv,ht,hz⟩:=I.tuple hq
 refine assign_Tuple_tuple (I.ok.hd hc) ht (by simp [hn,<- hl,rv.length]) hst λ h' hx=>?_
 have I1:Inv X pins σ H { s with heap:=h' }:=I.kept (t':=s.toks) λ b o e=>hx b o (jc9 (Heap.lt_size e)) e
 exact h pins _ σ H xs _ Q I1 (by simpa using rv) hw
def gSub (to ti:TE) (t:TSet):TG:=λ v σ H Q=>to σ H λ o H1=>ti σ H1 λ i H2=>t o i v H2 λ H3=>Q σ H3
theorem qn1 {o i:Expr}{to ti:TE}{t:TSet} (ho:PE X o to) (hi:PE X i ti) (hs:PSet X t)
  (ha:∀ v,assign (.Subscript o i pos) X.env v=(do
   let ov<-holding [v] (eval o X.env)
   let iv<-holding [v,ov] (eval i X.env)
   standAt pos
   holding [v,ov,iv] (setItem ov iv v)
   release [v,ov,iv] []):=by intro _;rfl):PG X (.Subscript o i pos) (gSub to ti t):=by
 intro pins s σ H v u Q I r h
 rw [ha]
 refine wpAny_bind (wpAny_holding (thn (ho pins s σ H _ I h) λ ov s1 ⟨x,H1,I1,r1,q1⟩=>?_))
 refine wpAny_bind (wpAny_holding (thn (hi pins s1 σ H1 _ I1 q1) λ iv s2 ⟨y,H2,I2,r2,q2⟩=>?_))
 refine wpAny_bind (wpAny_standAt (wpAny_bind (wpAny_holding (thn (hs pins s2 σ H2 x y v ov iv u _ I2 r1 r2 r q2) λ _ s3 ⟨H3,I3,q3⟩=>?_))))
 exact wpAny_release ⟨σ,H3,I3,q3⟩
def tAsg (te:TE) (g:TG):TS:=λ D σ H=>te σ H λ x H1=>g x σ H1 D.nx
theorem qil {tg e:Expr}{te:TE}{g:TG} (he:PE X e te) (hg:PG X tg g) (hs:swapsWithSole [tg] e pos.line X.env=pure false:=by rfl) (hw:swappedStores [tg] e X.env=pure none:=by rfl)
  (h1:(assignEach [tg] X.env).map (·.2)=[assign tg X.env]:=by rfl):PS X (.Assign [tg] e pos) (tAsg te g):=by
 intro pins s σ H D I h
 refine wpAny_Assign_stores (thn (he pins s σ H _ I h) λ v s1 ⟨x,H1,I1,r1,q1⟩=>?_) hs hw
 rw [h1]
 exact thn (hg pins s1 σ H1 x v _ I1 r1 q1) λ _ s2 q=>q
theorem qa2 {i:Nat}{x:Str}{e:Expr}{te:TE}{pos':Pos} (hN:X.N.Nodup) (hi:X.N[i]?=some x) (hx:Loc X.env.scope x) (he:PE X e te) (hs:swapsWith e (some (.Name x pos')) pos.line X.env=pure false:=by rfl) (hf:X.fn x=true\/X.env.scope.names.lookup x=some .local:=by first | exact .inl rfl | exact .inr rfl | assumption):
  PS X (.Assign [.Name x pos'] e pos) (tAsg te (zjf i)):=by
 intro pins s σ H D I h
 refine wpAny_Assign_Name (thn (he pins s σ H _ I h) λ v s1 ⟨y,H1,I1,r1,q1⟩=>?_) hs
 exact zjj I1 hN hi hx r1 (λ s2 I2=>⟨_,H1,I2,q1⟩) hf
def tAug (i:Nat) (te:TE) (ti:TIp):TS:=λ D σ H=>∃ x,σ[i]?=some (some x)/\te σ H λ y H1=>ti x y H1 λ z H2=>D.nx (σ.set i (some z)) H2
theorem qnx {i:Nat}{x:Str}{e:Expr}{te:TE}{op:Operator}{ti:TIp}{pos':Pos} (hN:X.N.Nodup) (hi:X.N[i]?=some x) (hx:Loc X.env.scope x) (he:PE X e te) (ho:PIp X op ti) (hf:X.fn x=true\/X.env.scope.names.lookup x=some .local:=by first | exact .inl rfl | exact .inr rfl | assumption):
  PS X (.AugAssign (.Name x pos') op e pos) (tAug i te ti):=by
 intro pins s σ H D I h
 obtain ⟨v,e1,h⟩:=h
 obtain ⟨m,hn,hl⟩:=I.loc
 have vis:Vis X.env.scope x:=by rcases hx with k | k;exact .inl k;exact .inr (.inl k)
 obtain ⟨u,r,l⟩:=hl i x v hi e1 vis
 refine wpAny_AugAssign_Name ?_
 have go:wpAny (model X.prog X.w) X.A (eval e X.env) (λ w s₂=>wpAny (model X.prog X.w) X.A (inplaceOp op u w) (λ r s₃=>wpAny (model X.prog X.w) X.A (storeName X.env x r) (λ _=>SP X pins D .next) X.xe s₃) X.xe s₂) X.xe s:=by
  refine thn (he pins s σ H _ I h) λ w s1 ⟨y,H1,I1,r1,q1⟩=>?_
  refine thn (ho pins s1 σ H1 v y u w _ I1 r r1 q1) λ z s2 ⟨zv,H2,I2,r2,q2⟩=>?_
  exact zjj I2 hN hi hx r2 (λ s3 I3=>⟨_,H2,I3,q2⟩) hf
 rcases l with ⟨hk,hm⟩ | ⟨hk,c,hc,hcell⟩
 ·exact wpAny_loadName_local I.ok.kind hk hn hm go
 ·rcases hk with hk | hk
  ·exact wpAny_loadName_cell I.ok.kind hk hc hcell go
  ·rcases hx with k | k
   ·have:X.env.scope.names.lookup x=some .free:=hk
    rw [k] at this;cases this
   ·have:X.env.scope.names.lookup x=some .free:=hk
    rw [k] at this;cases this
def ipI (f:Int->Int->Int):TIp:=λ x y H Q=>∃ i j,x=.int i/\y=.int j/\Q (.int (f i j)) H
theorem qoz:PIp X .Add (ipI λ i j=>i + j):=by
 intro pins s σ H x y v u Q I r1 r2 h
 obtain ⟨i,j,e1,e2,q⟩:=h
 subst e1;subst e2
 obtain ⟨t,rfl⟩:=r1
 obtain ⟨t',rfl⟩:=r2
 exact iadd_int ⟨.int _,H,I.tok _,⟨_,rfl⟩,q⟩
theorem qoy:PIp X .Sub (ipI λ i j=>i - j):=by
 intro pins s σ H x y v u Q I r1 r2 h
 obtain ⟨i,j,e1,e2,q⟩:=h
 subst e1;subst e2
 obtain ⟨t,rfl⟩:=r1
 obtain ⟨t',rfl⟩:=r2
 exact isub_int ⟨.int _,H,I.tok _,⟨_,rfl⟩,q⟩
end
section
variable {X:Cx}{pos:Pos}
def qid (c:TT) (tb:TS):TS:=λ D σ H=>∃ W:Nat->St->Hp->Prop,(∃ m,W m σ H)/\∀ m σ H,W m σ H ->
 c σ H λ b H1=>if b=true then ∃ N:St->Hp->Prop,(∀ σ' H',N σ' H'->∃ m',m' < m/\W m' σ' H')/\tb { D with nx:=N,ct:=N,bk:=D.nx } σ H1 else D.nx σ H1
theorem qgn {c:Expr}{body:List Stmt}{tc:TT}{tb:TS} (hp:PassesOwn (model X.prog X.w) X.A X.env X.xe) (hc:PT X c tc) (hb:PSs X body tb):PS X (.While c body [] pos) (qid tc tb):=by
 intro pins s σ H D I h
 obtain ⟨W,⟨m0,w0⟩,turn⟩:=h
 refine wpAny_While (codeAny_whileLoop (λ n s'=>∃ σ' H',Inv X pins σ' H' s'/\W n σ' H') ?_ m0 ⟨σ,H,I,w0⟩)
 rintro n s1 ⟨σ1,H1,I1,w1⟩
 refine wpAny_passesOwn hp (thn (hc pins s1 σ1 H1 _ I1 (turn n σ1 H1 w1)) λ b s2 ⟨H2,I2,q2⟩=>?_)
 cases b with
 | true=>
  obtain ⟨N,hN,q2⟩:=q2
  rw [if_pos rfl]
  refine wpAny_passesOwn hp (thn (hb pins s2 σ1 H2 _ I2 q2) λ f s3 q3=>?_)
  cases f with
  | next=>
   obtain ⟨σ3,H3,I3,n3⟩:=q3
   obtain ⟨m',hm,w3⟩:=hN σ3 H3 n3
   exact ⟨m',hm,σ3,H3,I3,w3⟩
  | cont=>
   obtain ⟨σ3,H3,I3,n3⟩:=q3
   obtain ⟨m',hm,w3⟩:=hN σ3 H3 n3
   exact ⟨m',hm,σ3,H3,I3,w3⟩
  | brk=>exact q3
  | ret v=>exact q3
 | false=>
  rw [if_neg jc5]
  exact wpAny_execs_nil ⟨σ1,H2,I2,q2⟩
end
structure It where
 go:Nat->Hp->Prop
 yld:Nat->Hp->V->Hp->Prop
 stop:Nat->Hp->Prop
def FpOk (X:Cx) (pins:List (Addr×Obj)) (H:Hp) (b:Addr):Prop:=
 H b=none/\b≠X.env.locals/\b∉X.fs/\(b∈X.ex\/X.s₀.heap.objs.size<=b)/\(∀ x c,X.env.cells.lookup x=some c->c≠b)/\∀ p∈X.pn++pins,p.1≠b
theorem Inv.fpOk {X:Cx}{pins:List (Addr×Obj)}{σ:St}{H H':Hp}{s:Shared}{b:Addr} (I:Inv X pins σ H s) (hb:s.heap.objs.size<=b) (hn:H' b=none):FpOk X pins H' b:=by
 refine ⟨hn,ji2 (jb2 I.lt hb),I.nofs hb,.inr (jc6 I.sz hb),λ x c e z=>?_,λ p hp z=>?_⟩
 ·obtain ⟨v,q⟩:=I.cell x c e
  exact absurd (jb2 q.lt (by rw [z];exact hb)) (je0 _)
 ·exact absurd (jb2 (Heap.lt_size (I.pin p hp).1) (by rw [z];exact hb)) (je0 _)
structure Turn (P:Program) (w:World) (K:PySem.W.Frag) (tg:Expr) (J:It) (fp:List Addr) (it:Addr) (tn:Nat->Heap->Prop):Prop where
 mem:it∈fp
 obj:∀ i h,tn i h->∀ b∈fp,∃ o,h.get? b=some o/\∀ v,o.data≠.cell v
 keep:∀ i h h',tn i h->(∀ b∈fp,∀ o,h.get? b=some o->h'.get? b=some o)->tn i h'
 item:∀ (X:Cx),X.prog=P->X.w=w->X.K=K->X.calm=true->∀ (i:Nat) (pins:List (Addr×Obj)) (s:Shared) (σ:St) (H:Hp) (E:Value->Shared->Prop),Inv X pins σ H s->(∀ b∈fp,FpOk X pins H b)->tn i s.heap->J.go i H ->
  wpAny (model P w) X.A (pyNext (.ref it)) (λ r s1=>∃ u,r=some u /\
   wpAny (model P w) X.A (letOwnedTupleGo tg (.ref it) u) (λ _ s2=>∃ x H',Inv X pins σ H' s2/\RelV x u/\J.yld i H x H'/\tn (i + 1) s2.heap/\∀ b∈fp,H' b=none) E s1) E s
 done:∀ (X:Cx),X.prog=P->X.w=w->X.K=K->X.calm=true->∀ (i:Nat) (pins:List (Addr×Obj)) (s:Shared) (σ:St) (H:Hp) (E:Value->Shared->Prop),Inv X pins σ H s->(∀ b∈fp,FpOk X pins H b)->tn i s.heap->J.stop i H ->
  wpAny (model P w) X.A (pyNext (.ref it)) (λ r s1=>r=none/\Inv X pins σ H s1) E s
 self:∀ (A:Around) (i:Nat) (s:Shared) (Q:Value->Shared->Prop) (E:Value->Shared->Prop),tn i s.heap->Q (.ref it) s->wpAny (model P w) A (pyIter (.ref it)) Q E s
abbrev TI:=St->Hp->(It->Hp->Prop)->Prop
def PIE (X:Cx) (pins:List (Addr×Obj)) (σ:St) (tg:Expr) (R:It->Hp->Prop) (itv:Value) (s2:Shared):Prop:=
 ∃ (it:Addr) (fp:List Addr) (tn:Nat->Heap->Prop) (J:It) (H':Hp),itv=.ref it/\Inv X pins σ H' s2/\Turn X.prog X.w X.K tg J fp it tn/\tn 0 s2.heap/\(∀ b∈fp,FpOk X pins H' b)/\R J H'
def PI (X:Cx) (tg iter:Expr) (wi:TI):Prop:=
 ∀ (pins:List (Addr×Obj)) (s:Shared) (σ:St) (H:Hp) (R:It->Hp->Prop),Inv X pins σ H s->wi σ H R ->
  wpAny (model X.prog X.w) X.A (eval iter X.env) (λ v s1=>wpAny (model X.prog X.w) X.A (pyIter v) (PIE X pins σ tg R) X.xe s1) X.xe s
theorem qhd {M:Model}{A:Around}{E:Value->Shared->Prop}{s:Shared}{tg:Expr}{it:Addr}{u:Value}{o:Obj}{n:String}{vs:Array Value}{Q:Unit->Shared->Prop} (ho:s.heap.get? it=some o) (hc:o.cls=.type n) (hd:o.data=.fields vs)
  (hn:["enumerate","zip","dict_itemiterator","dict_reverseitemiterator","odict_iterator","itertools.zip_longest","itertools.pairwise"].contains n=false) (hQ:Q () s):wpAny M A (letOwnedTupleGo tg (.ref it) u) Q E s:=by
 unfold letOwnedTupleGo
 cases tg <;> first
  | exact wpAny_pure hQ
  | (cases u <;> first
    | exact wpAny_pure hQ
    | (refine wpAny_bind (wpAny_load ho ?_);rw [hc,hd];show wpAny M A (if (["enumerate","zip","dict_itemiterator","dict_reverseitemiterator","odict_iterator","itertools.zip_longest","itertools.pairwise"].contains n && vs[0]? == some (rawInt _))=true then _ else _) Q E s;rw [if_neg (by intro h;rw [hn,je6] at h;cases h)];exact wpAny_pure hQ))
def Itl (K:PySem.W.Frag) (a:Addr):It:=
 ⟨λ i H=>∃ xs x,SqL K H a xs/\xs[i]?=some x,λ i H x H'=>H'=H/\∀ xs,SqL K H a xs->xs[i]?=some x,λ i H=>∃ xs,SqL K H a xs/\xs.length<=i⟩
def Itt (K:PySem.W.Frag) (a:Addr):It:=
 ⟨λ i H=>∃ xs x,SqT K H a xs/\xs[i]?=some x,λ i H x H'=>H'=H/\∀ xs,SqT K H a xs->xs[i]?=some x,λ i H=>∃ xs,SqT K H a xs/\xs.length<=i⟩
def Itr (lo:Int) (n:Nat):It:=⟨λ i _=>i < n,λ i H x H'=>H'=H/\x=.int (lo + i),λ i _=>n<=i⟩
theorem qcu {P:Program}{w:World}{K:PySem.W.Frag}{tg:Expr} (a it:Addr):Turn P w K tg (Itl K a) [it] it (λ i h=>h.IsListIter it a i) where
 mem:=by simp
 obj:=λ i h st b hb=>by
  have e:b=it:=by simpa using hb
  subst e
  obtain ⟨o,e,c,d⟩:=st
  exact ⟨o,e,λ v z=>by rw [d] at z;cases z⟩
 keep:=λ i h h' st k=>st.at λ o e=>k it (by simp) o e
 item:=by
  intro X hP hw hK hc i pins s σ H E I hf st hg
  subst hP hw hK
  obtain ⟨xs,x,hq,hx⟩:=hg
  obtain ⟨its,rv,p,hz⟩:=I.list hq
  obtain ⟨u,hu,ru⟩:=rv.get hx
  obtain ⟨f0,f1,f2,f3,f4,f5⟩:=hf it (by simp)
  refine wpAny_pyNext_list_item st p.isList (x:=u) (by simpa using hu) λ h' st' sb=>?_
  have I1:Inv X pins σ H { s with heap:=h' }:=I.turned (t':=s.toks) (λ b o hb e=>(sb.2 b hb).trans e) f0 f1 f3 f4 f5
  obtain ⟨o,e,c,d⟩:=id st'
  exact ⟨u,rfl,qhd (s:={ s with heap:=h' }) e c d (by decide) ⟨x,H,I1,ru,⟨rfl,λ ys hy=>by rw [I.list_inj hy hq];exact hx⟩,st',λ b hb=>(hf b hb).1⟩⟩
 done:=by
  intro X hP hw hK hc i pins s σ H E I hf st hg
  subst hP hw hK
  obtain ⟨xs,hq,hx⟩:=hg
  obtain ⟨its,rv,p,hz⟩:=I.list hq
  obtain ⟨f0,f1,f2,f3,f4,f5⟩:=hf it (by simp)
  have hl:=rv.length
  exact wpAny_pyNext_list_end (I.ok.hd hc) st p.isList (by simp;omega) λ h' eb=>⟨rfl,I.turned (t':=s.toks) (λ b o hb e=>eb b o hb e) f0 f1 f3 f4 f5⟩
 self:=λ _ _ _ _ _ st h=>wpAny_pyIter_listiter st h
theorem qb5 {P:Program}{w:World}{K:PySem.W.Frag}{tg:Expr} (a it:Addr):Turn P w K tg (Itt K a) [it] it (λ i h=>h.IsTupleIter it a i) where
 mem:=by simp
 obj:=λ i h st b hb=>by
  have e:b=it:=by simpa using hb
  subst e
  obtain ⟨o,e,c,d⟩:=st
  exact ⟨o,e,λ v z=>by rw [d] at z;cases z⟩
 keep:=λ i h h' st k=>st.at λ o e=>k it (by simp) o e
 item:=by
  intro X hP hw hK hc i pins s σ H E I hf st hg
  subst hP hw hK
  obtain ⟨xs,x,hq,hx⟩:=hg
  obtain ⟨its,rv,p,hz⟩:=I.tuple hq
  obtain ⟨u,hu,ru⟩:=rv.get hx
  obtain ⟨f0,f1,f2,f3,f4,f5⟩:=hf it (by simp)
  refine wpAny_pyNext_tuple_item st (show s.heap.IsTuple a its.toArray from p) (x:=u) (by simpa using hu) λ h' st' sb=>?_
  have I1:Inv X pins σ H { s with heap:=h' }:=I.turned (t':=s.toks) (λ b o hb e=>(sb.2 b hb).trans e) f0 f1 f3 f4 f5
  obtain ⟨o,e,c,d⟩:=id st'
  exact ⟨u,rfl,qhd (s:={ s with heap:=h' }) e c d (by decide) ⟨x,H,I1,ru,⟨rfl,λ ys hy=>by rw [I.tuple_inj hy hq];exact hx⟩,st',λ b hb=>(hf b hb).1⟩⟩
 done:=by
  intro X hP hw hK hc i pins s σ H E I hf st hg
  subst hP hw hK
  obtain ⟨xs,hq,hx⟩:=hg
  obtain ⟨its,rv,p,hz⟩:=I.tuple hq
  obtain ⟨f0,f1,f2,f3,f4,f5⟩:=hf it (by simp)
  have hl:=rv.length
  exact wpAny_pyNext_tuple_end (I.ok.hd hc) st (show s.heap.IsTuple a its.toArray from p) (by simp;omega) λ h' eb=>⟨rfl,I.turned (t':=s.toks) (λ b o hb e=>eb b o hb e) f0 f1 f3 f4 f5⟩
 self:=λ _ _ _ _ _ st h=>wpAny_pyIter_tupleiter st h
theorem qb6 {P:Program}{w:World}{K:PySem.W.Frag}{tg:Expr} (it:Addr) (lo:Int) (n:Nat):Turn P w K tg (Itr lo n) [it] it (λ i h=>IsRangeIter h it (lo + (i:Nat) * 1) ((n:Int) - (i:Nat)) 1) where
 mem:=by simp
 obj:=λ i h st b hb=>by
  have e:b=it:=by simpa using hb
  subst e
  exact ⟨_,st,λ v z=>by
   have z':Data.fields _=Data.cell v:=z
   cases z'⟩
 keep:=λ i h h' st k=>k it (by simp) _ st
 item:=by
  intro X hP hw hK hc i pins s σ H E I hf st hg
  subst hP hw hK
  obtain ⟨f0,f1,f2,f3,f4,f5⟩:=hf it (by simp)
  have W:=Walks.range (prog:=X.prog) (w:=X.w) (I.ok.hd hc) it lo 1 n
  refine W.item i s _ _ hg st λ v h' tk hv st' kk=>?_
  obtain ⟨t,rfl⟩:=hv
  have I1:Inv X pins σ H { s with heap:=h',toks:=tk }:=I.turned (λ b o hb e=>kk b o (by simpa using hb) e) f0 f1 f3 f4 f5
  refine ⟨_,rfl,qhd (s:={ s with heap:=h',toks:=tk }) (n := "range_iterator") st' rfl rfl (by decide) ⟨.int (lo + i),H,I1,⟨t,?_⟩,⟨rfl,rfl⟩,st',λ b hb=>(hf b hb).1⟩⟩
  rw [Int.mul_one]
 done:=by
  intro X hP hw hK hc i pins s σ H E I hf st hg
  subst hP hw hK
  obtain ⟨f0,f1,f2,f3,f4,f5⟩:=hf it (by simp)
  exact wpAny_pyNext_range_end (I.ok.hd hc) st (by have:n<=i:=hg;omega) λ h' eb=>⟨rfl,I.turned (t':=s.toks) (λ b o hb e=>eb b o hb e) f0 f1 f3 f4 f5⟩
 self:=λ _ _ _ _ _ st h=>wpAny_pyIter_rangeiter st h
section
variable {X:Cx}{tg:Expr}
theorem qa1 {pins:List (Addr×Obj)}{σ:St}{H:Hp}{s:Shared}{R:It->Hp->Prop}{E:Value->Shared->Prop}{lo hi:Int}{t u v:Tok}{tk:Nat} (I:Inv X pins σ H s) (h1:-(2 ^ 62)<=lo) (h2:lo < 2 ^ 62) (h3:-(2 ^ 62)<=hi) (h4:hi < 2 ^ 62)
  (q:R (Itr lo (hi - lo).toNat) H):wpAny (model X.prog X.w) X.A (pyIter (.ref s.heap.objs.size)) (PIE X pins σ tg R) E { s with heap:=s.heap.push { cls:=.type "range",data:=.fields #[.int lo t,.int hi u,.int 1 v] },toks:=tk }:=by
 refine wpAny_pyIter_range (IsRange.new ..) (small_one h1 h2 h3 h4) ?_
 have I1:Inv X pins σ H { s with heap:=s.heap.push { cls:=.type "range",data:=.fields #[.int lo t,.int hi u,.int 1 v] },toks:=tk }:=I.kept λ b o e=>Heap.get?_push_of_some _ e
 refine ⟨(s.heap.push { cls:=.type "range",data:=.fields #[.int lo t,.int hi u,.int 1 v] }).objs.size,[(s.heap.push { cls:=.type "range",data:=.fields #[.int lo t,.int hi u,.int 1 v] }).objs.size],_,_,H,rfl,
  I1.kept (t':=tk) λ b o e=>Heap.get?_push_of_some _ e,qb6 _ lo (hi - lo).toNat,?_,λ b hb=>?_,q⟩
 ·have e1:lo + ((0:Nat):Int) * 1=lo:=by simp
  have e2:(((hi - lo).toNat:Nat):Int) - ((0:Nat):Int)=Builtin.Range.rangeSize lo hi 1:=by rw [rangeSize_one];split <;> omega
  show IsRangeIter _ _ (lo + ((0:Nat):Int) * 1) ((((hi - lo).toNat:Nat):Int) - ((0:Nat):Int)) 1
  rw [e1,e2]
  exact Heap.get?_push_size _ rfl
 ·have e:b=(s.heap.push { cls:=.type "range",data:=.fields #[.int lo t,.int hi u,.int 1 v] }).objs.size:=by simpa using hb
  subst e
  exact I1.fpOk (jb3 _) (I1.hok.fresh (jb3 _))
def qg7 (ta:TA):TI:=λ σ H R=>ta σ H λ vs H1=>∃ j:Int,vs=[.int j]/\-(2 ^ 62)<=j/\j < 2 ^ 62/\R (Itr 0 j.toNat) H1
def qg6 (ta:TA):TI:=λ σ H R=>ta σ H λ vs H1=>∃ i j:Int,vs=[.int i,.int j]/\(-(2 ^ 62)<=i/\i < 2 ^ 62/\-(2 ^ 62)<=j/\j < 2 ^ 62)/\R (Itr i (j - i).toNat) H1
theorem qdw {a:Expr}{ta:TA}{p pos:Pos} (hg:Gl X "range") (hm:X.mg "range" = none) (ha:PA X [a] ta) (hs:starEach [a] X.env=[(false,eval a X.env)]:=by rfl):PI X tg (.Call (.Name "range" p) [a] [] pos) (qg7 ta):=by
 intro pins s σ H R I h
 refine Call_ (zyz I hg hm boot_range (PyProof.Rows.callWith_type1 (thn (ha pos pins s σ H _ I h) λ us s1 ⟨vs,H1,I1,r1,q1⟩=>?_) hs rfl))
 obtain ⟨j,e,q1,q2,q⟩:=q1
 subst e
 cases r1 with
 | cons r rr=>
  cases rr
  obtain ⟨t,rfl⟩:=r
  exact call_range_1 (qa1 I1 (by omega) (by omega) q1 q2 (by simpa using q))
theorem qdv {a b:Expr}{ta:TA}{p pos:Pos} (hg:Gl X "range") (hm:X.mg "range" = none) (ha:PA X [a,b] ta) (hs:starEach [a,b] X.env=[(false,eval a X.env),(false,eval b X.env)]:=by rfl) (hs2:starEach [b] X.env=[(false,eval b X.env)]:=by rfl):
  PI X tg (.Call (.Name "range" p) [a,b] [] pos) (qg6 ta):=by
 intro pins s σ H R I h
 refine Call_ (zyz I hg hm boot_range (PyProof.Rows.callWith_type1 (thn (ha pos pins s σ H _ I h) λ us s1 ⟨vs,H1,I1,r1,q1⟩=>?_) (by rw [hs,hs2]) (by rw [hs2];rfl)))
 obtain ⟨i,j,e,⟨q1,q2,q3,q4⟩,q⟩:=q1
 subst e
 cases r1 with
 | cons r rr=>
  cases rr with
  | cons r' rr=>
   cases rr
   obtain ⟨t,rfl⟩:=r
   obtain ⟨t',rfl⟩:=r'
   exact call_range_2 (qa1 I1 q1 q2 q3 q4 q)
def tFor (wi:TI) (g:TG) (tb:TS):TS:=λ D σ H=>wi σ H λ J H1=>∃ W:Nat->Nat->St->Hp->Prop,(∃ m,W 0 m σ H1)/\∀ i m σ H,W i m σ H ->
 (J.stop i H/\D.nx σ H)\/(J.go i H/\∃ N:St->Hp->Prop,(∀ σ' H',N σ' H'->∃ m',m' < m/\W (i + 1) m' σ' H')/\∀ x H',J.yld i H x H'->g x σ H' λ σ2 H2=>tb { D with nx:=N,ct:=N,bk:=D.nx } σ2 H2)
def zgj (fp:List Addr) (h:Heap):List (Addr×Obj):=fp.filterMap λ b=>(h.get? b).map λ o=>(b,o)
theorem zkc {fp:List Addr}{h:Heap}{b:Addr}{o:Obj} (hb:b∈fp) (e:h.get? b=some o):(b,o)∈zgj fp h:=ji9.mpr ⟨b,hb,by rw [e];rfl⟩
theorem qea {fp:List Addr}{h:Heap}{p:Addr×Obj} (hp:p∈zgj fp h):p.1∈fp/\h.get? p.1=some p.2:=by
 obtain ⟨b,hb,e⟩:=ji9.mp hp
 cases q:h.get? b with
 | none=>rw [q] at e;cases e
 | some o=>
  rw [q] at e
  have e':(b,o)=p:=Option.some.inj e
  subst e'
  exact ⟨hb,q⟩
theorem Inv.pinned {pins:List (Addr×Obj)}{σ:St}{H:Hp}{s:Shared}{fp:List Addr} (I:Inv X pins σ H s) (hf:∀ b∈fp,FpOk X pins H b) (ho:∀ b∈fp,∃ o,s.heap.get? b=some o/\∀ v,o.data≠.cell v):Inv X (pins++zgj fp s.heap) σ H s:=
 I.pins_of λ p hp=>(jc1.mp hp).elim (λ z=>I.pin p (ja7 _ z)) λ z=>by
  obtain ⟨hb,e⟩:=qea z
  obtain ⟨f0,f1,f2,_⟩:=hf p.1 hb
  obtain ⟨o,e',d⟩:=ho p.1 hb
  rw [e] at e';cases e'
  exact ⟨e,f0,f1,f2,d⟩
theorem Inv.unpinned {pins pl:List (Addr×Obj)}{σ:St}{H:Hp}{s:Shared} (I:Inv X (pins++pl) σ H s):Inv X pins σ H s:=I.pins_of λ p hp=>I.pin p (ja7 _ (ja9 _ hp))
theorem zyy {iter:Expr}{body:List Stmt}{wi:TI}{g:TG}{tb:TS}{pos:Pos} (hp:PassesOwn (model X.prog X.w) X.A X.env X.xe) (hc:X.calm=true) (hi:PI X tg iter wi) (hg:PG X tg g) (hb:PSs X body tb)
  (hs:∀ x,foldedSetIterable iter X.env x=pure x:=by intro _;rfl):PS X (.For tg iter body [] pos) (tFor wi g tb):=by
 intro pins s σ H D I h
 refine wpAny_For (thn (hi pins s σ H _ I h) λ v s1 h1=>thn h1 λ itv s2 h2=>?_) hs
 obtain ⟨it,fp,tn,J,H2,e,I2,T,st2,f2,W,⟨m0,w0⟩,turn⟩:=h2
 subst e
 have stat:∀ {H':Hp},(∀ b∈fp,H' b=none)->∀ b∈fp,FpOk X pins H' b:=λ hn b hb=>⟨hn b hb,(f2 b hb).2⟩
 refine codeAny_forLoop_any (λ n s'=>∃ i σ' H',Inv X pins σ' H' s'/\tn i s'.heap/\(∀ b∈fp,H' b=none)/\W i n σ' H') ?_ m0 ⟨0,σ,H2,I2,st2,λ b hb=>(f2 b hb).1,w0⟩
 rintro n s3 ⟨i,σ3,H3,I3,st3,fr3,w3⟩
 rcases turn i n σ3 H3 w3 with ⟨stop,qn⟩ | ⟨go,N,hN,step⟩
 ·refine wpAny_passesOwn hp (thn (T.done X rfl rfl rfl hc i pins s3 σ3 H3 X.xe I3 (stat fr3) st3 stop) λ r s4 ⟨hr,I4⟩=>?_)
  subst hr
  exact wpAny_execs_nil ⟨σ3,H3,I4,qn⟩
 ·refine wpAny_passesOwn hp (thn (T.item X rfl rfl rfl hc i pins s3 σ3 H3 X.xe I3 (stat fr3) st3 go) λ r s4 ⟨u,hr,h4⟩=>?_)
  subst hr
  refine wpAny_passesOwn hp (thn h4 λ _ s5 ⟨x,H5,I5,r5,y5,st5,fr5⟩=>?_)
  have I5':=I5.pinned (stat fr5) (T.obj _ _ st5)
  refine wpAny_passesOwn hp (thn (hg _ s5 σ3 H5 x u _ I5' r5 (step x H5 y5)) λ _ s6 ⟨σ6,H6,I6,q6⟩=>?_)
  refine wpAny_passesOwn hp (thn (hb _ s6 σ6 H6 _ I6 q6) λ f s7 q7=>?_)
  have again:∀ {σ7:St}{H7:Hp},Inv X (pins++zgj fp s5.heap) σ7 H7 s7->N σ7 H7->∃ m,m < n/\∃ i σ' H',Inv X pins σ' H' s7/\tn i s7.heap/\(∀ b∈fp,H' b=none)/\W i m σ' H':=λ {σ7 H7} I7 n7=>by
   obtain ⟨m',hm,w7⟩:=hN σ7 H7 n7
   refine ⟨m',hm,i + 1,σ7,H7,I7.unpinned,T.keep _ _ _ st5 λ b hb o e=>(I7.pin (b,o) (ja7 _ (ja7 _ (zkc hb e)))).1,λ b hb=>?_,w7⟩
   obtain ⟨o,e,d⟩:=T.obj _ _ st5 b hb
   exact (I7.pin (b,o) (ja7 _ (ja7 _ (zkc hb e)))).2.1
  cases f with
  | next=>obtain ⟨σ7,H7,I7,n7⟩:=q7;exact again I7 n7
  | cont=>obtain ⟨σ7,H7,I7,n7⟩:=q7;exact again I7 n7
  | brk=>obtain ⟨σ7,H7,I7,q7⟩:=q7;exact ⟨σ7,H7,I7.unpinned,q7⟩
  | ret v=>obtain ⟨x7,σ7,H7,I7,r7,q7⟩:=q7;exact ⟨x7,σ7,H7,I7.unpinned,r7,q7⟩
end
abbrev R2:=V->V->Hp->VK->Prop
def OpR (X:Cx) (f:Value->Value->Sem Value) (r:R2):Prop:=
 ∀ (pins:List (Addr×Obj)) (s:Shared) (σ:St) (H:Hp) (x y:V) (v u:Value) (Q:VK),Inv X pins σ H s->RelV x v->RelV y u->r x y H Q ->
  wpAny (model X.prog X.w) X.A (f v u) (EP X pins σ Q) X.xe s
def UnR (X:Cx) (f:Value->Sem Value) (r:V->Hp->VK->Prop):Prop:=
 ∀ (pins:List (Addr×Obj)) (s:Shared) (σ:St) (H:Hp) (x:V) (v:Value) (Q:VK),Inv X pins σ H s->RelV x v->r x H Q ->
  wpAny (model X.prog X.w) X.A (f v) (EP X pins σ Q) X.xe s
def zwz (X:Cx) (f:Value) (r:List V->Hp->VK->Prop):Prop:=
 ∀ (pins:List (Addr×Obj)) (s:Shared) (σ:St) (H:Hp) (xs:List V) (us:List Value) (Q:VK),Inv X pins σ H s->Vals xs us->r xs H Q ->
  wpAny (model X.prog X.w) X.A (call f us) (EP X pins σ Q) X.xe s
def tOp (r:R2) (ta tb:TE):TE:=λ σ H Q=>ta σ H λ x H1=>tb σ H1 λ y H2=>r x y H2 Q
def tUn (r:V->Hp->VK->Prop) (ta:TE):TE:=λ σ H Q=>ta σ H λ x H1=>r x H1 Q
def rI (C:Int->Int->Prop) (g:Int->Int->V):R2:=λ x y H Q=>∃ i j,x=.int i/\y=.int j/\C i j/\Q (g i j) H
def rI0 (g:Int->Int->V):R2:=λ x y H Q=>∃ i j,x=.int i/\y=.int j/\Q (g i j) H
def rU (g:Int->V):V->Hp->VK->Prop:=λ x H Q=>∃ i,x=.int i/\Q (g i) H
section
variable {X:Cx}{a b c:Expr}{ta tb tc:TE}{pos:Pos}
theorem binT (ha:PE X a ta) (hb:PE X b tb) {pins:List (Addr×Obj)}{s:Shared}{σ:St}{H:Hp}{R:V->V->Hp->Prop} (I:Inv X pins σ H s)
  (h:ta σ H λ x H1=>tb σ H1 λ y H2=>R x y H2) {Q:Value->Shared->Prop}{f:Value->Value->Sem Value}
  (hf:∀ v u s2 x y H2,Inv X pins σ H2 s2->RelV x v->RelV y u->R x y H2->wpAny (model X.prog X.w) X.A (f v u) Q X.xe s2):
  wpAny (model X.prog X.w) X.A (eval a X.env) (λ v s₁=>wpAny (model X.prog X.w) X.A (eval b X.env) (λ u s₂=>wpAny (model X.prog X.w) X.A (f v u) Q X.xe s₂) X.xe s₁) X.xe s:=by
 refine thn (ha pins s σ H _ I h) λ v s1 ⟨x,H1,I1,r1,q1⟩=>?_
 refine thn (hb pins s1 σ H1 _ I1 q1) λ u s2 ⟨y,H2,I2,r2,q2⟩=>?_
 exact hf v u s2 x y H2 I2 r1 r2 q2
theorem qgs {op:Operator}{r:R2} (ho:OpR X (binaryOp op) r) (ha:PE X a ta) (hb:PE X b tb):PE X (.BinOp a op b pos) (tOp r ta tb):=by
 intro pins s σ H Q I h
 exact wpAny_BinOp (binT ha hb I h λ v u s2 x y H2 I2 rx ry q=>ho pins s2 σ H2 x y v u Q I2 rx ry q)
theorem qn2 {op:UnaryOp}{r:V->Hp->VK->Prop} (ho:UnR X (unaryOp op) r) (ha:PE X a ta):PE X (.UnaryOp op a pos) (tUn r ta):=by
 intro pins s σ H Q I h
 exact UnaryOp_ (thn (ha pins s σ H _ I h) λ v s1 ⟨x,H1,I1,r1,q1⟩=>ho pins s1 σ H1 x v Q I1 r1 q1)
theorem opI {f:Value->Value->Sem Value}{C:Int->Int->Prop}{g:Int->Int->Int}
  (rule:∀ (i j:Int) (t u:Tok) (s:Shared) (Q:Value->Shared->Prop) (E:Value->Shared->Prop),C i j->Q (.int (g i j) s.toks) { s with toks:=s.toks + 1 }->wpAny (model X.prog X.w) X.A (f (.int i t) (.int j u)) Q E s):
  OpR X f (rI C λ i j=>.int (g i j)):=by
 intro pins s σ H x y v u Q I rx ry h
 obtain ⟨i,j,rfl,rfl,hc,q⟩:=h
 obtain ⟨t,rfl⟩:=rx
 obtain ⟨t',rfl⟩:=ry
 exact rule i j t t' s _ _ hc ⟨.int (g i j),H,I.tok _,⟨_,rfl⟩,q⟩
theorem opI0 {f:Value->Value->Sem Value}{g:Int->Int->Int}
  (rule:∀ (i j:Int) (t u:Tok) (s:Shared) (Q:Value->Shared->Prop) (E:Value->Shared->Prop),Q (.int (g i j) s.toks) { s with toks:=s.toks + 1 }->wpAny (model X.prog X.w) X.A (f (.int i t) (.int j u)) Q E s):
  OpR X f (rI0 λ i j=>.int (g i j)):=by
 intro pins s σ H x y v u Q I rx ry h
 obtain ⟨i,j,rfl,rfl,q⟩:=h
 obtain ⟨t,rfl⟩:=rx
 obtain ⟨t',rfl⟩:=ry
 exact rule i j t t' s _ _ ⟨.int (g i j),H,I.tok _,⟨_,rfl⟩,q⟩
theorem opB0 {f:Value->Value->Sem Value}{g:Int->Int->Bool}
  (rule:∀ (i j:Int) (t u:Tok) (s:Shared) (Q:Value->Shared->Prop) (E:Value->Shared->Prop),Q (.bool (g i j)) s->wpAny (model X.prog X.w) X.A (f (.int i t) (.int j u)) Q E s):
  OpR X f (rI0 λ i j=>.bl (g i j)):=by
 intro pins s σ H x y v u Q I rx ry h
 obtain ⟨i,j,rfl,rfl,q⟩:=h
 obtain ⟨t,rfl⟩:=rx
 obtain ⟨t',rfl⟩:=ry
 exact rule i j t t' s _ _ ⟨.bl (g i j),H,I,rfl,q⟩
def CPow (i j:Int):Prop:=0<=j/\j<=1000000/\i.natAbs < 2 ^ 64
def CMul (i j:Int):Prop:=(-(2 ^ 64) < i/\i < 2 ^ 64)\/(-(2 ^ 64) < j/\j < 2 ^ 64)
theorem CMul.ok {i j:Int} (h:CMul i j):IntMulOk i j:=by
 rcases h with ⟨h1,h2⟩ | ⟨h1,h2⟩
 ·exact .of_left (intBits_le_64 h1 h2)
 ·exact .of_right (intBits_le_64 h1 h2)
theorem qoi:OpR X (binaryOp .Add) (rI0 λ i j=>.int (i + j)):=opI0 λ _ _ _ _ _ _ _ q=>add_int q
theorem qoa:OpR X (binaryOp .Mult) (rI CMul λ i j=>.int (i * j)):=opI λ _ _ _ _ _ _ _ hc q=>mul_int q hc.ok
theorem qob:OpR X (binaryOp .Mod) (rI (λ _ j=>0 < j) λ i j=>.int (i % j)):=opI λ i j _ _ _ _ _ hc q=>by
 have h1:(0:Int) < j:=hc
 exact mod_int' (by omega) (by rw [Int.fmod_eq_emod_of_nonneg i (by omega)];exact q)
theorem qn8:OpR X (binaryOp .Pow) (rI CPow λ i j=>.int (i ^ j.toNat)):=opI λ _ _ _ _ _ _ _ hc q=>pow_int_small hc.1 hc.2.1 hc.2.2 q
theorem unI {f:Value->Sem Value}{g:Int->Int}
  (rule:∀ (i:Int) (t:Tok) (s:Shared) (Q:Value->Shared->Prop) (E:Value->Shared->Prop),Q (.int (g i) s.toks) { s with toks:=s.toks + 1 }->wpAny (model X.prog X.w) X.A (f (.int i t)) Q E s):
  UnR X f (rU λ i=>.int (g i)):=by
 intro pins s σ H x v Q I rx h
 obtain ⟨i,rfl,q⟩:=h
 obtain ⟨t,rfl⟩:=rx
 exact rule i t s _ _ ⟨.int (g i),H,I.tok _,⟨_,rfl⟩,q⟩
theorem qia:UnR X (unaryOp .USub) (rU λ i=>.int (-i)):=unI λ _ _ _ _ _ q=>neg_int q
end
def scal:V->V->Bool
 | .non,.non=>true | .non,.int _=>true | .int _,.non=>true | .non,.bl _=>true | .bl _,.non=>true | .non,.str _=>true | .str _,.non=>true
 | .int _,.int _=>true | .bl _,.bl _=>true | .str _,.str _=>true | .byt _,.byt _=>true
 | .int _,.str _=>true | .str _,.int _=>true | .bl _,.str _=>true | .str _,.bl _=>true
 | _,_=>false
def rEq:R2:=λ x y H Q=>scal x y=true/\Q (.bl (decide (x=y))) H
theorem qfb {i j:Int}:decide (V.int i=V.int j)=(i == j):=by
 rw [jh0]
 simp
theorem qo8 {i j:Bool}:decide (V.bl i=V.bl j)=(i == j):=by
 rw [jh0]
 simp
theorem qlm {i j:Str}:decide (V.str i=V.str j)=(i == j):=by
 rw [jh0]
 simp
theorem qln {i j:Array UInt8}:decide (V.byt i=V.byt j)=(i.toList == j.toList):=by
 rw [jh0]
 cases i
 cases j
 simp
section
variable {X:Cx}{a b c:Expr}{ta tb tc:TE}{pos:Pos}
theorem zzk {pins:List (Addr×Obj)}{σ:St}{H:Hp}{s:Shared}{Q:VK}{k k':Bool} (I:Inv X pins σ H s) (q:Q (.bl k) H) (e:k=k'):EP X pins σ Q (.bool k') s:=by
 subst e
 exact ⟨.bl k,H,I,rfl,q⟩
theorem qp3:OpR X (compareOp .Eq) rEq:=by
 intro pins s σ H x y v u Q I rx ry h
 obtain ⟨hs,q⟩:=h
 cases x with
 | non=>
  cases rx
  cases y with
  | non=>cases ry;exact PySem.EqNone.eq_none_none (zzk I q (by simp))
  | bl j=>cases ry;exact PySem.EqNone.eq_none_bool (zzk I q (by simp))
  | int j=>obtain ⟨t',rfl⟩:=ry;exact PySem.EqNone.eq_none_int (zzk I q (by simp))
  | str j=>obtain ⟨t',rfl⟩:=ry;exact PySem.EqNone.eq_none_str (zzk I q (by simp))
  | _=>exact absurd (show false=true from hs) jc5
 | bl i=>
  cases rx
  cases y with
  | non=>cases ry;exact PySem.EqNone.eq_bool_none (zzk I q (by simp))
  | bl j=>cases ry;exact eq_bool (zzk I q qo8)
  | str j=>obtain ⟨t',rfl⟩:=ry;exact PySem.EqMixed.eq_bool_str (zzk I q (by simp))
  | _=>exact absurd (show false=true from hs) jc5
 | int i=>
  obtain ⟨t,rfl⟩:=rx
  cases y with
  | non=>cases ry;exact PySem.EqNone.eq_int_none (zzk I q (by simp))
  | int j=>obtain ⟨t',rfl⟩:=ry;exact eq_int (zzk I q qfb)
  | str j=>obtain ⟨t',rfl⟩:=ry;exact PySem.EqMixed.eq_int_str (zzk I q (by simp))
  | _=>exact absurd (show false=true from hs) jc5
 | str i=>
  obtain ⟨t,rfl⟩:=rx
  cases y with
  | non=>cases ry;exact PySem.EqNone.eq_str_none (zzk I q (by simp))
  | bl j=>cases ry;exact PySem.EqMixed.eq_str_bool (zzk I q (by simp))
  | int j=>obtain ⟨t',rfl⟩:=ry;exact PySem.EqMixed.eq_str_int (zzk I q (by simp))
  | str j=>obtain ⟨t',rfl⟩:=ry;exact eq_str (zzk I q qlm)
  | _=>exact absurd (show false=true from hs) jc5
 | byt i=>
  obtain ⟨t,rfl⟩:=rx
  cases y with
  | byt j=>obtain ⟨t',rfl⟩:=ry;exact PySem.W.eq_bytes (zzk I q qln)
  | _=>exact absurd (show false=true from hs) jc5
 | _=>cases y <;> exact absurd (show false=true from hs) jc5
theorem qoc:OpR X (compareOp .Lt) (rI0 λ i j=>.bl (decide (i < j))):=opB0 λ _ _ _ _ _ _ _ q=>lt_int q
theorem qod:OpR X (compareOp .LtE) (rI0 λ i j=>.bl (decide (i<=j))):=opB0 λ _ _ _ _ _ _ _ q=>le_int q
theorem qof:OpR X (compareOp .Gt) (rI0 λ i j=>.bl (decide (j < i))):=opB0 λ _ _ _ _ _ _ _ q=>gt_int q
theorem qog:OpR X (compareOp .GtE) (rI0 λ i j=>.bl (decide (j<=i))):=opB0 λ _ _ _ _ _ _ _ q=>ge_int q
theorem OpR.or {f:Value->Value->Sem Value}{r r':R2} (h:OpR X f r) (h':OpR X f r'):OpR X f (λ x y H Q=>r x y H Q\/r' x y H Q):=by
 intro pins s σ H x y v u Q I rx ry q
 rcases q with q | q
 ·exact h pins s σ H x y v u Q I rx ry q
 ·exact h' pins s σ H x y v u Q I rx ry q
theorem qkq {op:CmpOp}{r:R2} (ho:OpR X (compareOp op) r) (ha:PE X a ta) (hb:PE X b tb) (hm:behindInMarks op b=false):PE X (.Compare a [op] [b] pos) (tOp r ta tb):=by
 intro pins s σ H Q I h
 exact wpAny_Compare1 (binT ha hb I h λ v u s2 x y H2 I2 rx ry q=>ho pins s2 σ H2 x y v u Q I2 rx ry q) hm
def qml (t:TE):TT:=λ σ H Q=>t σ H λ x H'=>∃ k,x=.bl k/\Q k H'
theorem qkj {op:CmpOp}{r:R2} (ho:OpR X (compareOp op) r) (ha:PE X a ta) (hb:PE X b tb) (hm:behindInMarks op b=false):PT X (.Compare a [op] [b] pos) (qml (tOp r ta tb)):=by
 intro pins s σ H Q I h
 refine wpAny_isTrue_Compare1 (thn (ha pins s σ H _ I h) λ v s1 ⟨x,H1,I1,r1,q1⟩=>thn (hb pins s1 σ H1 _ I1 q1) λ u s2 ⟨y,H2,I2,r2,q2⟩=>
  thn (ho pins s2 σ H2 x y v u _ I2 r1 r2 q2) λ c s3 ⟨z,H3,I3,r3,k,e,q3⟩=>?_) hm
 subst e
 cases r3
 exact wpAny_truthy_bool ⟨H3,I3,q3⟩
def qc8 (r r':R2) (ta tb tc:TE):TE:=λ σ H Q=>ta σ H λ x H1=>tb σ H1 λ y H2=>r x y H2 λ z H3=>∃ k,z=.bl k /\
 (if k=true then tc σ H3 λ w' H4=>r' y w' H4 Q else Q (.bl false) H3)
theorem qgu {op op':CmpOp}{r r':R2} (ho:OpR X (compareOp op) r) (ho':OpR X (compareOp op') r') (ha:PE X a ta) (hb:PE X b tb) (hc:PE X c tc)
  (hm:lastMarks [op,op'] [b,c]=false:=by with_unfolding_all rfl):PE X (.Compare a [op,op'] [b,c] pos) (qc8 r r' ta tb tc):=by
 intro pins s σ H Q I h
 refine Compare_chain (thn (ha pins s σ H _ I h) λ v s1 ⟨x,H1,I1,r1,q1⟩=>chain_link (thn (hb pins s1 σ H1 _ I1 q1) λ u s2 ⟨y,H2,I2,r2,q2⟩=>
  thn (ho pins s2 σ H2 x y v u _ I2 r1 r2 q2) λ d s3 ⟨z,H3,I3,r3,k,e,q3⟩=>?_)) hm
 subst e
 cases r3
 refine wpAny_truthy_bool ?_
 cases k with
 | false=>exact ite_ff ⟨.bl false,H3,I3,rfl,q3⟩
 | true=>exact ite_tt (chain_last (thn (hc pins s3 σ H3 _ I3 q3) λ w' s4 ⟨z',H4,I4,r4,q4⟩=>ho' pins s4 σ H4 y z' u w' Q I4 r2 r4 q4))
theorem qgl {op op':CmpOp}{r r':R2} (ho:OpR X (compareOp op) r) (ho':OpR X (compareOp op') r') (ha:PE X a ta) (hb:PE X b tb) (hc:PE X c tc)
  (hm:lastMarks [op,op'] [b,c]=false:=by with_unfolding_all rfl):PT X (.Compare a [op,op'] [b,c] pos) (qml (qc8 r r' ta tb tc)):=by
 intro pins s σ H Q I h
 refine isTrue_chain (thn (ha pins s σ H _ I h) λ v s1 ⟨x,H1,I1,r1,q1⟩=>test_link (thn (hb pins s1 σ H1 _ I1 q1) λ u s2 ⟨y,H2,I2,r2,q2⟩=>
  thn (ho pins s2 σ H2 x y v u _ I2 r1 r2 q2) λ d s3 ⟨z,H3,I3,r3,k,e,q3⟩=>?_)) hm
 subst e
 cases r3
 refine wpAny_truthy_bool ?_
 cases k with
 | false=>
  obtain ⟨k',e',q'⟩:=q3
  cases e'
  exact ite_ff ⟨H3,I3,q'⟩
 | true=>
  refine ite_tt (test_last (thn (hc pins s3 σ H3 _ I3 q3) λ w' s4 ⟨z',H4,I4,r4,q4⟩=>thn (ho' pins s4 σ H4 y z' u w' _ I4 r2 r4 q4) λ d' s5 ⟨z2,H5,I5,r5,k2,e2,q5⟩=>?_))
  subst e2
  cases r5
  exact wpAny_truthy_bool ⟨H5,I5,q5⟩
theorem zpq:(sizeLine:Nat) < 2 ^ 63:=by rw [sizeLine_eq];decide
theorem qce:OpR X (binaryOp .Add) (λ x y H Q=>∃ i j,x=.str i/\y=.str j/\i.length + j.length<=sizeLine/\Q (.str (i++j)) H):=by
 intro pins s σ H x y v u Q I rx ry h
 obtain ⟨i,j,rfl,rfl,hz,q⟩:=h
 obtain ⟨t,rfl⟩:=rx
 obtain ⟨t',rfl⟩:=ry
 exact add_str (λ t' tk=>⟨.str (i++j),H,I.tok _,⟨_,rfl⟩,q⟩) hz
theorem qae:OpR X (inplaceOp .Add) (λ x y H Q=>∃ i j,x=.str i/\y=.str j/\i.length + j.length<=sizeLine/\Q (.str (i++j)) H):=by
 intro pins s σ H x y v u Q I rx ry h
 obtain ⟨i,j,rfl,rfl,hz,q⟩:=h
 obtain ⟨t,rfl⟩:=rx
 obtain ⟨t',rfl⟩:=ry
 exact iadd_str (λ t' tk=>⟨.str (i++j),H,I.tok _,⟨_,rfl⟩,q⟩) hz
theorem zjs {x:V}{us:List Value} (r:Vals [x] us):∃ u,us=[u]/\RelV x u:=by
 cases r with
 | cons r1 r2=>cases r2;exact ⟨_,rfl,r1⟩
theorem qcr {x y:V}{us:List Value} (r:Vals [x,y] us):∃ u w',us=[u,w']/\RelV x u/\RelV y w':=by
 cases r with
 | cons r1 r2=>
  cases r2 with
  | cons r3 r4=>cases r4;exact ⟨_,_,rfl,r1,r3⟩
theorem qfu (hc:X.calm=true):zwz X (.builtin "max") (λ xs H Q=>∃ i j,xs=[.int i,.int j]/\Q (.int (if j > i then j else i)) H):=by
 intro pins s σ H xs us Q I r h
 obtain ⟨i,j,rfl,q⟩:=h
 obtain ⟨u,w',rfl,⟨t,rfl⟩,⟨t',rfl⟩⟩:=qcr r
 refine max_two_ints (I.ok.hd hc) λ h' tk k=>⟨_,H,I.kept k,?_,q⟩
 by_cases hj:j > i
 ·rw [if_pos hj,if_pos hj];exact ⟨_,rfl⟩
 ·rw [if_neg hj,if_neg hj];exact ⟨_,rfl⟩
theorem qfs (hc:X.calm=true):zwz X (.builtin "min") (λ xs H Q=>∃ i j,xs=[.int i,.int j]/\Q (.int (if j < i then j else i)) H):=by
 intro pins s σ H xs us Q I r h
 obtain ⟨i,j,rfl,q⟩:=h
 obtain ⟨u,w',rfl,⟨t,rfl⟩,⟨t',rfl⟩⟩:=qcr r
 refine min_two_ints (I.ok.hd hc) λ h' tk k=>⟨_,H,I.kept k,?_,q⟩
 by_cases hj:j < i
 ·rw [if_pos hj,if_pos hj];exact ⟨_,rfl⟩
 ·rw [if_neg hj,if_neg hj];exact ⟨_,rfl⟩
theorem qfw:zwz X (.type "int") (λ xs H Q=>(∃ i,xs=[.int i]/\Q (.int i) H)\/∃ k,xs=[.bl k]/\Q (.int (if k then 1 else 0)) H):=by
 intro pins s σ H xs us Q I r h
 rcases h with ⟨i,rfl,q⟩ | ⟨k,rfl,q⟩
 ·obtain ⟨u,rfl,t,rfl⟩:=zjs r
  exact call_int_int ⟨.int i,H,I,⟨_,rfl⟩,q⟩
 ·obtain ⟨u,rfl,r1⟩:=zjs r
  cases r1
  exact call_int_bool ⟨.int (if k then 1 else 0),H,I.tok _,⟨_,rfl⟩,q⟩
end
structure ObjM (h:Heap) (x dx C:Addr) (mA:Str->Option Value):Prop where
 obj:h.get? x=some (PySem.W.instObj C dx)
 ns:h.Ns1 dx mA
 ne:dx≠x
theorem qei {h:Heap}{dx:Addr}{mA:Str->Option Value} (n:h.Ns1 dx mA):∃ od,h.get? dx=some od/\∀ name,PySem.W.lookIn name od=some (mA name):=by
 obtain ⟨o,es,ep,ho,hd,hk,_,hm⟩:=n
 refine ⟨o,ho,λ name=>?_⟩
 have e:=hm name
 unfold nsFind findBy at e
 rw [<- Array.find?_toList] at e
 unfold PySem.W.lookIn
 rw [hd]
 dsimp only
 split
 ·rename_i y q
  rw [q] at e
  exact congrArg some e
 ·rename_i q
  rw [q] at e
  have a:es.toList.any (·.refKey)=false:=by
   rw [List.any_eq_false]
   intro y hy
   obtain ⟨z,t,hkey⟩:=hk y (Array.mem_toList_iff.mp hy)
   simp [DictEntry.refKey,hkey]
  have a':¬ es.toList.any (·.refKey)=true:=by rw [a];exact jc5
  rw [if_neg a']
  exact congrArg some e
theorem ObjM.look {h:Heap}{x dx C:Addr}{mA:Str->Option Value} (I:ObjM h x dx C mA):∃ od,PySem.W.InstAt h x (PySem.W.instObj C dx) C (some od)/\∀ name,PySem.W.lookIn name od=some (mA name):=
 let ⟨od,ho,hl⟩:=qei I.ns
 ⟨od,⟨I.obj,rfl,rfl,ho⟩,hl⟩
section
variable {prog:Program}{w:World}{A:Around}{E:Value->Shared->Prop}{s:Shared}{K:PySem.W.Frag}{x dx C f:Addr}{mA:Str->Option Value}{name:Str}{v:Value}
end
section
variable {P:Program}{w:World}{H H':Hp}{h h':Heap}{a C dx:Addr}{fs fs':List (Str×V)}
theorem qlc (hok:HOk P w H h) (e:H a=some (.ins C dx fs)):∃ mA,ObjM h a dx C mA/\(∀ f,RelO (fs.lookup f) (mA f))/\PySem.Within mA (fs.map (·.1))/\fs.length<=1000/\H dx=some (.own a):=by
 obtain ⟨d,z,ne,ob,mA,n,r,q⟩:=(show zza P w H h a (.ins C dx fs) from hok a _ e)
 exact ⟨mA,⟨ob,n,ne⟩,r,q,z,d⟩
end
structure Cls (K:PySem.W.Frag) (C:Addr):Prop where
 pg:PySem.W.plainGet K C Str.empty=true
 hd:PySem.W.hasDictIn K C=true
 po:PySem.W.plainOver K C=true
 sa:PySem.W.findIn K (.ref C) "__setattr__" = some (some (.builtin "object.__setattr__"))
theorem Cls.get {K:PySem.W.Frag}{C:Addr} (c:Cls K C) (f:Str):PySem.W.plainGet K C f=true:=c.pg
structure Con (K:PySem.W.Frag) (C:Addr) (f:Str) (v:V) (u:Value):Prop where
 at_:PySem.W.findIn K (.ref C) f=some (some u)
 rel:RelV v u
 get:PySem.W.specialIn K u "__get__" = some none
 cp:PySem.W.copiedNames.contains f=false
structure Meth (K:PySem.W.Frag) (C:Addr) (m:Str) (f:Addr):Prop where
 at_:PySem.W.findIn K (.ref C) m=some (some (.ref f))
 fn:PySem.W.isFn K (.ref f)=true
 kp:PySem.W.keepIn K (.ref f)=true
section
variable {X:Cx}{pins:List (Addr×Obj)}{σ:St}{H:Hp}{s:Shared}{a C dx:Addr}{fs:List (Str×V)}{f:Str}{v:V}{A:Around}{E:Value->Shared->Prop}
end
section
variable {X:Cx}{o e value:Expr}{f:Str}{pos pos' tpos:Pos}{ta tv:TE}
end
section
variable {X:Cx}{pins:List (Addr×Obj)}{σ:St}{H:Hp}{s:Shared}{A:Around}{E:Value->Shared->Prop}{Q:Value->Shared->Prop}{c:Value}{b:Bool}
inductive TyOf (K:PySem.W.Frag) (H:Hp):V->Value->Prop where
 | non:TyOf K H .non (.type "NoneType")
 | bl (x:Bool):TyOf K H (.bl x) (.type "bool")
 | int (i:Int):TyOf K H (.int i) (.type "int")
 | str (x:Str):TyOf K H (.str x) (.type "str")
 | flt (x:UInt64):TyOf K H (.flt x) (.type "float")
 | lst {a:Addr}{xs:List V} (e:H a=some (.lst xs)):TyOf K H (.ref a) (.type "list")
 | frz {a:Addr}{o:Obj}{xs:List V} (e:H a=some (.frz o (.lst xs))):TyOf K H (.ref a) (.type "list")
 | tup {a:Addr}{xs:List V} (e:H a=some (.tup xs)):TyOf K H (.ref a) (.type "tuple")
 | dK {a:Addr}{kvs:List (Key×V)} (e:H a=some (.dK kvs)):TyOf K H (.ref a) (.type "dict")
 | dT {a:Addr}{kvs:List (List Key×V)} (e:H a=some (.dT kvs)):TyOf K H (.ref a) (.type "dict")
 | ins {a C dx:Addr}{fs:List (Str×V)} (e:H a=some (.ins C dx fs)) (cl:Cls K C) (ha:PySem.W.findIn K (.ref C) "__class__" = some (some (.builtin "object.__class__")))
   (hn:PySem.W.specialIn K (.builtin "object.__class__") "__get__" = some (some (.builtin "getset_descriptor.__get__"))) (htk:PySem.W.takesIn K (.builtin "object.__class__")=some true)
   (hm:PySem.W.mroIn K C (.type "object")=some true):TyOf K H (.ref a) (.ref C)
theorem qes {x:V}{u t:Value} (I:Inv X pins σ H s) (rx:RelV x u) (ty:TyOf X.K H x t) (e:PySem.W.kitOne X.K t c=some b) (h:∀ tk,Q (.bool b) { s with toks:=tk }):
  wpAny (model X.prog X.w) A (call (.builtin "isinstance") [u,c]) Q E s:=by
 cases ty with
 | non=>cases (show u=Value.none from rx);exact PySem.W.kia_one PySem.W.kitx_none I.kIn True.intro e (λ z=>nomatch z) h
 | bl y=>cases (show u=Value.bool y from rx);exact PySem.W.kia_one PySem.W.kitx_bool I.kIn True.intro e (λ z=>nomatch z) h
 | int i=>obtain ⟨t,q⟩:=(show ∃ t,u=Value.int i t from rx);cases q;exact PySem.W.kia_one PySem.W.kitx_int I.kIn True.intro e (λ z=>nomatch z) h
 | str y=>obtain ⟨t,q⟩:=(show ∃ t,u=Value.str y t from rx);cases q;exact PySem.W.kia_one PySem.W.kitx_str I.kIn True.intro e (λ z=>nomatch z) h
 | flt y=>obtain ⟨t,q⟩:=(show ∃ t,u=Value.float y t from rx);cases q;exact PySem.W.kia_one PySem.W.kitx_float I.kIn True.intro e (λ z=>nomatch z) h
 | @lst a xs ea=>
  cases (show u=Value.ref a from rx)
  obtain ⟨_,_,n,_,h1⟩:=(show zza X.prog X.w H s.heap a (.lst xs) from I.hok a _ ea)
  exact PySem.W.kia_one PySem.W.kitx_list I.kIn ⟨_,h1,rfl⟩ e (λ z=>nomatch z) h
 | @frz a ob xs ea=>
  cases (show u=Value.ref a from rx)
  obtain ⟨_,_,_,n,_,h1⟩:=(show zza X.prog X.w H s.heap a (.frz ob (.lst xs)) from I.hok a _ ea)
  exact PySem.W.kia_one PySem.W.kitx_list I.kIn ⟨_,h1,rfl⟩ e (λ z=>nomatch z) h
 | @tup a xs ea=>
  cases (show u=Value.ref a from rx)
  obtain ⟨_,_,_,p⟩:=(show zza X.prog X.w H s.heap a (.tup xs) from I.hok a _ ea)
  obtain ⟨o,h1,h2,_⟩:=p
  exact PySem.W.kia_one PySem.W.kitx_tuple I.kIn ⟨o,h1,h2⟩ e (λ z=>nomatch z) h
 | @dK a kvs ea=>
  cases (show u=Value.ref a from rx)
  obtain ⟨_,_,vs,_,p⟩:=(show zza X.prog X.w H s.heap a (.dK kvs) from I.hok a _ ea)
  obtain ⟨o,es,ep,h1,h2,_⟩:=p
  exact PySem.W.kia_one PySem.W.kitx_dict I.kIn ⟨o,h1,h2.1⟩ e (λ z=>nomatch z) h
 | @dT a kvs ea=>
  cases (show u=Value.ref a from rx)
  obtain ⟨_,_,xs,_,o,es,ep,h1,h2,_⟩:=(show zza X.prog X.w H s.heap a (.dT kvs) from I.hok a _ ea)
  exact PySem.W.kia_one PySem.W.kitx_dict I.kIn ⟨o,h1,h2.1⟩ e (λ z=>nomatch z) h
 | @ins a C dx fs ea cl ha hn htk hm=>
  cases (show u=Value.ref a from rx)
  obtain ⟨mA,O,_⟩:=qlc I.hok ea
  obtain ⟨od,J,_⟩:=O.look
  exact PySem.W.kia_one (PySem.W.kitx_own (cl.get _) cl.hd ha hn htk hm) I.kIn J e (λ z=>nomatch z) h
end
structure Room (k:Nat) (A:Around):Prop where
 hd:A.handled=none
 dp:A.depth + 3 * k + 5 < recursionLimit
 un:A.units + 16 * k + 200 < cLine
 gd:A.guards=some []
theorem Room.mono {j k:Nat}{A:Around} (r:Room k A) (h:j<=k):Room j A:=⟨r.hd,by have:=r.dp;omega,by have:=r.un;omega,r.gd⟩
theorem Room.deeper {k:Nat}{A:Around} (r:Room (k + 1) A) (env:Env):Room k (A.deeper env):=
 ⟨r.hd,by have:=r.dp;show A.depth + 1 + 3 * k + 5 < _;omega,by have:=r.un;show A.units + 3 + 16 * k + 200 < _;omega,r.gd⟩
theorem Room.depth {k:Nat}{A:Around} (r:Room k A):A.depth < recursionLimit:=by have:=r.dp;omega
theorem Room.units {k:Nat}{A:Around} (r:Room k A):A.units + 64 < cLine:=by have:=r.un;omega
def tNil:TA:=λ _ H Q=>Q [] H
def qc7 (ta:TE) (tr:TA):TA:=λ σ H Q=>ta σ H λ x H1=>tr σ H1 λ xs H2=>Q (x::xs) H2
section
variable {X:Cx}{e:Expr}{es:List Expr}{te:TE}{t:TA}{pos:Pos}
theorem zky:PA X [] tNil:=λ _ _ _ _ H Q I h=>Calls.spliced_nil ⟨[],H,I,.nil,h⟩
theorem zwp (ha:PE X e te) (hr:PA X es t) (hs:starEach (e::es) X.env=(false,eval e X.env)::starEach es X.env:=by rfl):PA X (e::es) (qc7 te t):=by
 intro pos pins s σ H Q I h
 rw [hs]
 show wpAny _ _ (spliced ((false,eval e X.env)::backTo pos (starEach es X.env))) _ _ s
 refine Calls.spliced_cons (thn (ha pins s σ H _ I h) λ u s1 ⟨x,H1,I1,r1,q1⟩=>?_)
 exact thn (hr pos pins s1 σ H1 _ I1 q1) λ us s2 ⟨xs,H2,I2,r2,q2⟩=>⟨x::xs,H2,I2,.cons r1 r2,q2⟩
def tTup (t:TA):TE:=λ σ H Q=>t σ H λ xs H1=>xs.length<=sizeLine/\∀ p,H1 p=none->Q (.ref p) (upd H1 p (.tup xs))
def tLst (t:TA):TE:=λ σ H Q=>t σ H λ xs H1=>xs.length<=sizeLine/\∀ p,H1 p=none->Q (.ref p) (upd H1 p (.lst xs))
theorem qio {x1} (h:PA X es t):PE X (.Tuple es x1 pos) (tTup t):=by
 intro pins s σ H Q I hq
 refine wpAny_Tuple_spliced (thn (h pos pins s σ H _ I hq) λ us s1 ⟨xs,H1,I1,r,z,q⟩=>⟨by rw [<- r.length];exact z,?_⟩)
 have hf:H1 s1.heap.objs.size=none:=I1.hok.fresh (jb3 _)
 refine ⟨.ref s1.heap.objs.size,upd H1 s1.heap.objs.size (.tup xs),I1.laid (t':=s1.toks) (λ b u e=>Heap.get?_push_of_some _ e) (jb3 _) ?_,rfl,q _ hf⟩
 exact ⟨z,us,r,⟨_,Heap.get?_push_size _ rfl,rfl,_,rfl⟩⟩
theorem qir (h:PA X es t):PE X (.List es pos) (tLst t):=by
 intro pins s σ H Q I hq
 refine wpAny_List_spliced (thn (h pos pins s σ H _ I hq) λ us s1 ⟨xs,H1,I1,r,z,q⟩=>⟨by rw [<- r.length];exact z,?_⟩)
 have hf:H1 s1.heap.objs.size=none:=I1.hok.fresh (jb3 _)
 refine ⟨.ref s1.heap.objs.size,upd H1 s1.heap.objs.size (.lst xs),I1.laid (t':=s1.toks) (λ b u e=>Heap.get?_push_of_some _ e) (jb3 _) ?_,rfl,q _ hf⟩
 exact ⟨z,us,0,r,Heap.get?_push_size _ rfl⟩
end
abbrev Sp:=List V->Hp->VK->XK->Prop
abbrev CXT:=List Env->Hp->Shared->XK->Value->Shared->Prop
structure Env0 (P:Program) (w:World) (K:PySem.W.Frag) (mg:Str->Option Value) (base:Heap) (A:Around) (outer:List Env) (s:Shared) (H:Hp):Prop where
 frames:A.frames=some outer
 mod:Mod K mg base
 bs:∀ b o,base.get? b=some o->s.heap.get? b=some o/\H b=none
 bsz:base.objs.size<=s.heap.objs.size
 funs:s.heap.FunFrames base outer
 frf:∀ b∈frs outer,H b=none
 hok:HOk P w H s.heap
 bare:AllBare s.gens
def CE (outer:List Env) (P:Program) (w:World) (H:Hp) (s:Shared) (Q:VK) (u:Value) (s':Shared):Prop:=
 ∃ v H',s'.os=s.os/\AllBare s'.gens/\Un (frs outer) [] H H' s.heap s'.heap/\HOk P w H' s'.heap/\RelV v u/\Q v H'
def CR (CX:CXT) (outer:List Env) (P:Program) (w:World) (H:Hp) (s:Shared) (Q:VK) (E:XK) (r:Result) (s':Shared):Prop:=
 match r with
 | .ok (.ret u)=>CE outer P w H s Q u s'
 | .ok _=>False
 | .error e=>CX outer H s E e s'
structure FnOk (P:Program) (w:World) (K:PySem.W.Frag) (mg:Str->Option Value) (base:Heap) (CX:CXT) (k:Nat) (f:Addr) (fd:FuncData) (ps:List Str) (sp:Sp):Prop where
 len:∀ vs H Q E,sp vs H Q E->vs.length=ps.length
 run:∀ (A:Around) (outer:List Env) (s:Shared) (H:Hp) (args:Args) (us:List Value) (vs:List V) (Q:VK) (E:XK),Room k A->Env0 P w K mg base A outer s H->BindsTo s fd args (ps.zip us)->Vals vs us->sp vs H Q E ->
  codeAny (model P w) A (.call (.ref f) args) (CR CX outer P w H s Q E) s
theorem FnOk.mono {P:Program}{w:World}{K:PySem.W.Frag}{mg:Str->Option Value}{base:Heap}{CX:CXT}{j k:Nat}{f:Addr}{fd:FuncData}{ps:List Str}{sp:Sp} (F:FnOk P w K mg base CX j f fd ps sp) (h:j<=k):
  FnOk P w K mg base CX k f fd ps sp:=⟨F.len,λ A outer s H args us vs Q E hr=>F.run A outer s H args us vs Q E (hr.mono h)⟩
section
variable {X:Cx}{pins:List (Addr×Obj)}{σ:St}{H:Hp}{s s':Shared}
theorem Inv.env0 (I:Inv X pins σ H s):Env0 X.prog X.w X.K X.mg X.base X.A X.stack s H:=
 ⟨I.ok.frames,I.ok.mod,I.bs,jc6 I.ok.bsz I.sz,I.stack,I.stkFree,I.hok,I.bare⟩
theorem Inv.after {Q:VK}{u:Value} (I:Inv X pins σ H s) (h:CE X.stack X.prog X.w H s Q u s'):EP X pins σ Q u s':=by
 obtain ⟨v,H',os,bare,un,hok,r,q⟩:=h
 obtain ⟨hh,g,d,t,os'⟩:=s'
 obtain rfl:os'=s.os:=os
 exact ⟨v,H',I.call (h':=hh) (g':=g) (d':=d) (t':=t) (ch:=[]) un hok bare (λ b z=>absurd z (by simp)),r,q⟩
end
def qaq (K:PySem.W.Frag) (fd:FuncData) (ps:List Str) (ds:List Value):Prop:=
 ∀ (s:Shared) (us:List Value),K.In s.heap->(us++ds).length=ps.length->BindsTo s fd ⟨us,[]⟩ (ps.zip (us++ds))
theorem qaq.all {K:PySem.W.Frag}{fd:FuncData}{ps:List Str} (h:∀ us:List Value,us.length=ps.length->bindArgs fd ⟨us,[]⟩=pure (ps.zip us)):qaq K fd ps []:=λ s us _ hl=>by
 rw [jf2] at hl ⊢
 exact .of_eq (h us hl)
section
variable {X:Cx}{CX:CXT}{k:Nat}{f C:Addr}{fd:FuncData}{ps:List Str}{sp:Sp}{dvs:List V}{ds:List Value}{E:XK}{x m:Str}{p pos apos:Pos}{e o:Expr}{es:List Expr}{ta:TE}{t:TA}
structure Mk (K:PySem.W.Frag) (C f:Addr):Prop where
 makes:PySem.W.makesIn K C=true
 init:PySem.W.findIn K (.ref C) "__init__" = some (some (.ref f))
 fn:PySem.W.isFn K (.ref f)=true
 kp:PySem.W.keepIn K (.ref C)=true
end
section
variable {X:Cx}{CX:CXT}{k:Nat}{f C:Addr}{fd:FuncData}{ps ks:List Str}{sp:Sp}{E:XK}{x m:Str}{p pos apos kpos:Pos}{e o:Expr}{es:List Expr}{kws:List Keyword}{te ta:TE}{t tk:TA}{nm:Option Str}
structure KBinds (K:PySem.W.Frag) (fd:FuncData) (ps ks:List Str) (g:List Value->List Value->List Value) (gV:List V->List V->List V):Prop where
 to:∀ (s:Shared) (us ws:List Value),K.In s.heap->(g us ws).length=ps.length->BindsTo s fd ⟨us,ks.zip ws⟩ (ps.zip (g us ws))
 rel:∀ {vs:List V}{us:List Value}{zs:List V}{ws:List Value},Vals vs us->Vals zs ws->Vals (gV vs zs) (g us ws)
variable {g:List Value->List Value->List Value}{gV:List V->List V->List V}
end
structure FnScope (N P:List Str) (sc:Scope):Prop where
 kind:sc.kind=.function
 co:sc.isCoroutine=false
 gen:sc.isGenerator=false
 nd:N.Nodup
 pre:N.take P.length=P
 par:∀ x∈P,sc.names.lookup x=some .local\/sc.names.lookup x=some .cell
 nofree:∀ y∈sc.names,y.2≠.free
theorem zhf {kindOf:Str->Option NameKind}{x:Str}:∀ {binds:List (Str×Value)}{m:Str->Option Value},(∀ v,(x,v)∉binds)->bindL kindOf binds m x=m x
 | [],_,_=>rfl
 | (n,v)::r,m,h=>by
  unfold bindL
  rw [zhf λ w hw=>h w (ja2 _ hw)]
  split
  ·have:x≠n:=by rintro rfl;exact h v ja5
   simp [this]
  ·rfl
theorem zhh {kindOf:Str->Option NameKind}{x:Str}:∀ {binds:List (Str×Value)}{m:Str->Option Value},(∀ v,(x,v)∉binds)->bindC kindOf binds m x=m x
 | [],_,_=>rfl
 | (n,v)::r,m,h=>by
  unfold bindC
  rw [zhh λ w hw=>h w (ja2 _ hw)]
  split
  ·rfl
  ·have:x≠n:=by rintro rfl;exact h v ja5
   simp [this]
theorem zhg {kindOf:Str->Option NameKind}{x:Str}{v:Value}:∀ {P:List Str}{vs:List Value}{i:Nat}{m:Str->Option Value},P.Nodup->P[i]?=some x->vs[i]?=some v->kindOf x=some .local ->
  bindL kindOf (P.zip vs) m x=some v
 | [],_,_,_,_,h,_,_=>by simp at h
 | _::_,[],_,_,_,_,h,_=>by simp at h
 | p::P,w::vs,0,m,nd,h1,h2,hk=>by
  simp at h1 h2;subst h1;subst h2
  show bindL kindOf ((p,w)::P.zip vs) m p=_
  unfold bindL
  rw [zhf λ v hv=>(jk7.mp nd).1 (jm7 hv).1,if_pos hk]
  simp
 | p::P,w::vs,i + 1,m,nd,h1,h2,hk=>by
  show bindL kindOf ((p,w)::P.zip vs) m x=_
  unfold bindL
  exact zhg (i:=i) (jk7.mp nd).2 (by simpa using h1) (by simpa using h2) hk
theorem zhi {kindOf:Str->Option NameKind}{x:Str}{v:Value}:∀ {P:List Str}{vs:List Value}{i:Nat}{m:Str->Option Value},P.Nodup->P[i]?=some x->vs[i]?=some v->kindOf x≠some .local ->
  bindC kindOf (P.zip vs) m x=some v
 | [],_,_,_,_,h,_,_=>by simp at h
 | _::_,[],_,_,_,_,h,_=>by simp at h
 | p::P,w::vs,0,m,nd,h1,h2,hk=>by
  simp at h1 h2;subst h1;subst h2
  show bindC kindOf ((p,w)::P.zip vs) m p=_
  unfold bindC
  rw [zhh λ v hv=>(jk7.mp nd).1 (jm7 hv).1,if_neg hk]
  simp
 | p::P,w::vs,i + 1,m,nd,h1,h2,hk=>by
  show bindC kindOf ((p,w)::P.zip vs) m x=_
  unfold bindC
  exact zhi (i:=i) (jk7.mp nd).2 (by simpa using h1) (by simpa using h2) hk
def start (N:List Str) (vs:List V):St:=vs.map some++ja6 (N.length - vs.length) none
def cxOf (CX:CXT) (P:Program) (w:World) (K:PySem.W.Frag) (mg:Str->Option Value) (base:Heap) (N:List Str) (qual:Str) (scope:Scope) (f:Addr) (cd:Value) (A:Around) (outer:List Env) (s:Shared) (H:Hp) (E:XK):Cx where
 prog:=P
 w:=w
 K:=K
 mg:=mg
 base:=base
 A:=A.deeper (envOfC qual scope s.heap.objs.size f cd)
 N:=N
 s₀:=s
 H₀:=H
 env:=envOfC qual scope s.heap.objs.size f cd
 outer:=outer
 stack:=envOfC qual scope s.heap.objs.size f cd::outer
 ex:=[]
 calm:=true
 fn:=λ _=>true
 pn:=[]
 xe:=λ e s'=>wpAny (model P w) (A.deeper (envOfC qual scope s.heap.objs.size f cd)) (leaving (envOfC qual scope s.heap.objs.size f cd) e) (λ _ s''=>CX outer H s E e s'') (λ e' s''=>CX outer H s E e' s'') s'
theorem qb0 {sc:Scope}{n:Nat}{x:Str} (h:sc.names.lookup x=some .cell):∃ c,(cellsFrom n sc.names []).lookup x=some c:=by
 have q:=PySem.W.cellsFrom_some sc.names n [] (.inl h)
 exact jl7.mp q
theorem qex {CX:CXT}{P:Program}{w:World}{K:PySem.W.Frag}{mg:Str->Option Value}{base:Heap}{N ps:List Str}{qual:Str}{scope:Scope}{f:Addr}{cd:Value}{A:Around}{outer:List Env}{s s1:Shared}{H:Hp}{E:XK}{us:List Value}{vs:List V}
  (S:FnScope N ps scope) (hd:A.handled=none) (e0:Env0 P w K mg base A outer s H) (hl:vs.length=ps.length) (r:Vals vs us)
  (x:InCallC s s.heap.objs.size (bindL (envOfC qual scope s.heap.objs.size f cd).kindOf (ps.zip us) λ _=>none) (cellsFrom (s.heap.objs.size + 1) scope.names []) (bindC (envOfC qual scope s.heap.objs.size f cd).kindOf (ps.zip us) λ _=>none) s1):
  Inv (cxOf CX P w K mg base N qual scope f cd A outer s H E) [] (start N vs) H s1:=by
 have hpl:ps.length<=N.length:=by have:=congrArg List.length S.pre;rw [jd0] at this;omega
 obtain ⟨h1,tk,rfl,hk⟩:=x.done
 have noA:∀ b:Addr,b∉(cxOf CX P w K mg base N qual scope f cd A outer s H E).ex:=λ b z=>absurd (show b∈([]:List Addr) from z) (by simp)
 refine ⟨⟨e0.mod,S.kind,rfl,rfl,jb3 _,λ y z c h1 h2=>?_,λ y hy=>?_,λ y c _ h=>?_,λ _=>hd,Around.frames_deeper e0.frames,.inr ⟨rfl,rfl⟩,λ b z=>absurd z (noA b),e0.bs,e0.bsz,λ b _ _=>noA b,λ b z=>absurd z (noA b),e0.funs,e0.frf⟩,
  rfl,e0.bare,Un.kept hk,⟨_,x.toInCall.ns,λ i y v h1 h2 h3=>?_⟩,λ y c h=>⟨_,x.cell y c h⟩,e0.hok.fresh (jb3 _),λ y c h=>?_,λ p hp=>absurd (show p∈([]:List (Addr×Obj)) from hp) (by simp),e0.hok.kept hk,?_⟩
 ·exact name_of_addr x.apart (PySem.mem_of_lookup h1) (PySem.mem_of_lookup h2)
 ·have hy:scope.names.lookup y=some .cell\/scope.names.lookup y=some .free:=hy
  rcases hy with hy | hy
  ·exact qb0 hy
  ·exact absurd rfl (S.nofree _ (PySem.mem_of_lookup hy))
 ·exact jk1 (x.above y c (PySem.mem_of_lookup h))
 ·have hi:i < vs.length:=by
   unfold start at h2
   by_cases hi:i < vs.length
   ·exact hi
   ·rw [jc8 (by simpa using hi)] at h2
    rw [je4] at h2
    split at h2 <;> cases h2
  have ha:vs[i]?=some v:=by
   unfold start at h2
   rw [jc0 (by simpa using hi),jc4] at h2
   cases e:vs[i]? with
   | none=>rw [e] at h2;cases h2
   | some a=>rw [e] at h2;cases h2;rfl
  obtain ⟨u,hu,rv⟩:=r.get ha
  have hp:ps[i]?=some y:=by
   rw [<- S.pre,jf9 (by omega)];exact h1
  have ndP:ps.Nodup:=by rw [<- S.pre];exact S.nd.sublist (jo6 _ _)
  refine ⟨u,rv,?_⟩
  rcases S.par y (jn4 hp) with k | k
  ·exact .inl ⟨k,zhg ndP hp hu k⟩
  ·obtain ⟨c,e⟩:=qb0 (n:=s.heap.objs.size + 1) k
   refine .inr ⟨.inl k,c,e,?_⟩
   have q:=x.cell y c e
   rw [zhi ndP hp hu (by show scope.names.lookup y≠_;rw [k];decide)] at q
   exact q
 ·exact e0.hok.fresh (jk1 (x.above y c (PySem.mem_of_lookup h)))
 ·unfold start
  show _=N.length
  rw [jb4,ja1,jf1]
  omega
theorem qqd {CX:CXT}{P:Program}{w:World}{K:PySem.W.Frag}{mg:Str->Option Value}{base:Heap}{k:Nat}{f:Addr}{name qual:Str}{params:Arguments}{body:List Stmt}{scope:Scope}{dV kV doc pm cdv ct oc:Value}{an od:Option Addr}
  {osl:Array (Option Value)}{N ps:List Str}{sp:Sp} (lk:K.lookup f=some ⟨oc,od,.func (PySem.W.fnOf name qual params body scope dV kV doc pm an cdv ct),osl⟩) (hcd:PySem.W.codeIn K cdv qual=true) (S:FnScope N ps scope)
  (len:∀ vs H Q E,sp vs H Q E->vs.length=ps.length)
  (hbody:∀ (A:Around) (outer:List Env) (s:Shared) (H:Hp) (vs:List V) (Q:VK) (E:XK),Room k (A.deeper (envOfC qual scope s.heap.objs.size f cdv))->sp vs H Q E ->
   ∃ t,PSs (cxOf CX P w K mg base N qual scope f cdv A outer s H E) body t/\t { nx:=λ _ H'=>Q .non H',rt:=Q } (start N vs) H):
  FnOk P w K mg base CX (k + 1) f (PySem.W.fnOf name qual params body scope dV kV doc pm an cdv ct) ps sp:=by
 refine ⟨len,λ A outer s H args us vs Q E hr e0 hb r hsp=>?_⟩
 have hl:=len _ _ _ _ hsp
 have KX:K.In s.heap:=e0.mod.kin.keeps λ b o e=>(e0.bs b o e).1
 have lim:s.heap.NoLimit:=e0.mod.nolimit.keeps λ b o e=>(e0.bs b o e).1
 have hkind:∀ y∈ps.zip us,scope.names.lookup y.1=some .local\/(scope.names.lookup y.1=some .cell/\((cellsFrom (s.heap.objs.size + 1) scope.names []).lookup y.1).isSome=true):=λ ⟨n,v⟩ hy=>by
  rcases S.par n (jm7 hy).1 with q | q
  ·exact .inl q
  ·exact .inr ⟨q,PySem.W.cellsFrom_some _ _ _ (.inl q)⟩
 refine codeAny_call_function hr.depth (KX _ _ lk) rfl S.co S.gen rfl (PySem.W.codeRec_of KX hcd) (hb _ _ _ _ ?_)
 refine wpAny_newFunctionEnv_cells S.kind hkind λ env he s1 x=>?_
 subst he
 refine ⟨lim.keeps x.toInCall.keep,codeAny_func ?_⟩
 obtain ⟨t,ht,hq⟩:=hbody A outer s H vs Q E (hr.deeper _) hsp
 have I:Inv (cxOf CX P w K mg base N qual scope f cdv A outer s H E) [] (start N vs) H s1:=qex S hr.hd e0 hl r x
 refine wpAny_mono (ht [] s1 (start N vs) H _ I hq) (λ fl s' hs=>?_) λ e s' hs=>hs
 have fin:∀ {σ':St}{H':Hp}{v:V}{u:Value},Inv (cxOf CX P w K mg base N qual scope f cdv A outer s H E) [] σ' H' s'->RelV v u->Q v H'->CE outer P w H s Q u s':=
  λ {σ' H' v u} J rv q=>⟨v,H',J.os,J.bare,J.base,J.hok,rv,q⟩
 cases fl with
 | ret u=>
  obtain ⟨v,σ',H',J,rv,q⟩:=hs
  exact fin J rv q
 | next=>
  obtain ⟨σ',H',J,q⟩:=hs
  exact fin (v:=V.non) (u:=Value.none) J rfl q
 | brk=>
  obtain ⟨_,_,_,q⟩:=hs
  exact False.elim q
 | cont=>
  obtain ⟨_,_,_,q⟩:=hs
  exact False.elim q
section
variable {X:Cx}{x:Str}{p pos:Pos}{e:Expr}{es:List Expr}{t:TA}{id T:String}{r:List V->Hp->VK->Prop}
def tCB (r:List V->Hp->VK->Prop) (t:TA):TE:=λ σ H Q=>t σ H λ vs H1=>r vs H1 Q
theorem zzt (hc:zwz X (.builtin id) r) (hg:Gl X x) (hm:X.mg x=none) (hv:bootBuiltins x=some (.builtin id)) (ha:PA X (e::es) t) (hn:x ≠ "__name__" := by decide) (hdb:(x == ("__debug__" : Str))=false:=by decide)
  (he:starEach (e::es) X.env=(false,eval e X.env)::starEach es X.env:=by rfl) (hpl:(backTo pos (starEach es X.env)).any (·.1)=false:=by rfl):PE X (.Call (.Name x p) (e::es) [] pos) (tCB r t):=by
 intro pins s σ H Q I h
 refine wpAny_Call_Name_kw (zyz I hg hm hv ?_ hn hdb)
 exact PyProof.Rows.callWith_builtin1 (thn (ha pos pins s σ H _ I h) λ us s1 ⟨vs,H1,I1,r1,q1⟩=>hc pins s1 σ H1 vs us Q I1 r1 q1) he hpl
theorem zkx (hc:zwz X (.type T) r) (hg:Gl X x) (hm:X.mg x=none) (hv:bootBuiltins x=some (.type T)) (ha:PA X (e::es) t) (hn:x ≠ "__name__" := by decide) (hdb:(x == ("__debug__" : Str))=false:=by decide)
  (he:starEach (e::es) X.env=(false,eval e X.env)::starEach es X.env:=by rfl) (hpl:(backTo pos (starEach es X.env)).any (·.1)=false:=by rfl):PE X (.Call (.Name x p) (e::es) [] pos) (tCB r t):=by
 intro pins s σ H Q I h
 refine wpAny_Call_Name_kw (zyz I hg hm hv ?_ hn hdb)
 exact PyProof.Rows.callWith_type1 (thn (ha pos pins s σ H _ I h) λ us s1 ⟨vs,H1,I1,r1,q1⟩=>hc pins s1 σ H1 vs us Q I1 r1 q1) he hpl
end
end L2
namespace HT
open PySem PyProof.Rows
section
open PySem.SeqAt
open PySem.AutoSeq1 (wpAny_loadPart')
open PySem.MeetsSeq PySem.MeetsSeq2 PySem.MeetsSeq3
end
section
variable {prog:Program}{w:World}{A:Around}{E:Value->Shared->Prop}{s:Shared}
theorem cat_tup {t b:Addr}{vs ws:List Value}{Q:Value->Shared->Prop} (ht:IsTup s.heap t vs.toArray) (hb:IsTup s.heap b ws.toArray) (hv:vs≠[])
  (h1:ws=[]->Q (.ref t) s) (h2:ws≠[]->Q (.ref s.heap.objs.size) { s with heap:=s.heap.push { cls:=.type "tuple",data:=.seq (vs++ws).toArray } })
  (hsz:vs.length + ws.length<=sizeLine):wpAny (model prog w) A (binaryOp .Add (.ref t) (.ref b)) Q E s:=by
 obtain ⟨⟨cls,dd,data,sl⟩,ho,hc,n,hd⟩:=id ht
 obtain ⟨⟨cls2,dd2,data2,sl2⟩,ho2,hc2,n2,hd2⟩:=id hb
 simp only at hc hd hc2 hd2
 subst hc hd hc2 hd2
 have e:vs.toArray++ws.toArray=(vs++ws).toArray:=by simp
 by_cases hw:ws=[]
 ·exact concat_meets ⟨_,ho,rfl⟩ ⟨_,ho2,rfl⟩ noFill_tuple_add seq_tuple_add PySem.F.slot_tuple_add PySem.F.entry_tuple_add (PySem.F.args_tuple_add_2 _ _)
   (tuple_addW1 t b vs.toArray ws.toArray n n2 dd dd2 sl sl2 (by simpa using hv) (by simp [hw])) ⟨ho,ho2,h1 hw⟩
 ·refine concat_meets ⟨_,ho,rfl⟩ ⟨_,ho2,rfl⟩ noFill_tuple_add seq_tuple_add PySem.F.slot_tuple_add PySem.F.entry_tuple_add (PySem.F.args_tuple_add_2 _ _)
   (tuple_addW2 t b vs.toArray ws.toArray n n2 dd dd2 sl sl2 (by simpa using hv) (by simpa using hw) (by rw [jb6,jb6];exact hsz)) ⟨ho,ho2,?_⟩
  rw [e]
  exact h2 hw
def sIx (n d:Nat):Option Int->Nat
 | none=>d
 | some v=>if v < 0 then (v + (n:Int)).toNat else min v.toNat n
theorem sIx_none (n d:Nat):sIx n d none=d:=rfl
theorem sIx_nat (n d k:Nat):sIx n d (some (k:Int))=min k n:=by
 show (if (k:Int) < 0 then ((k:Int) + (n:Int)).toNat else min (k:Int).toNat n)=min k n
 rw [if_neg (by omega),je1]
theorem qnm (n d:Nat) (hd:d<=n) (o:Option Int):sIx n d o<=n:=by
 cases o with
 | none=>exact hd
 | some v=>
  show (if v < 0 then (v + (n:Int)).toNat else min v.toNat n)<=n
  by_cases hv:v < 0
  ·rw [if_pos hv];omega
  ·rw [if_neg hv];exact jm2 _ _
theorem qfn (v:Int) (n d:Nat):(if v < 0 then max (v + (n:Int)) 0 else min v (n:Int))=((sIx n d (some v):Nat):Int):=by
 show (if v < 0 then max (v + (n:Int)) 0 else min v (n:Int))=(((if v < 0 then (v + (n:Int)).toNat else min v.toNat n):Nat):Int)
 by_cases hv:v < 0
 ·simp only [if_pos hv];omega
 ·simp only [if_neg hv];omega
theorem qcp (lo hi:Option Int) (n:Nat):Builtin.Slice.sliceAdjust lo hi 1 (n:Int)=(((sIx n 0 lo:Nat):Int),((sIx n n hi:Nat):Int)):=by
 have h1:¬ ((1:Int) < 0):=by omega
 unfold Builtin.Slice.sliceAdjust
 simp only [h1,if_false]
 refine Prod.ext ?_ ?_
 ·cases lo with
  | none=>rfl
  | some v=>exact qfn v n 0
 ·cases hi with
  | none=>rfl
  | some v=>exact qfn v n n
theorem qcc (i j:Nat):Builtin.Slice.slicePlaces (i:Int) (j:Int) 1=j - i:=by
 unfold Builtin.Slice.slicePlaces
 have h1:(1:Int) > 0:=by omega
 simp only [h1,if_true,Int.ediv_one]
 split <;> omega
theorem zph {v:Value}{o:Option Int}{Q:Option Int->Shared->Prop} (p:IsPart v o) (h:Q o s):wpAny (model prog w) A (Builtin.Slice.slicePartIndex v) Q E s:=by
 cases p with
 | none=>exact slicePart_none h
 | int i t=>exact slicePart_int h
theorem zja {sl:Addr}{vl vu:Value}{lo hi:Option Int}{n:Nat}{Q:Int×Int×Nat->Shared->Prop} (hs:s.heap.IsSliceOf sl vl vu .none) (pl:IsPart vl lo) (pu:IsPart vu hi)
  (h:Q (((sIx n 0 lo:Nat):Int),1,sIx n n hi - sIx n 0 lo) s):wpAny (model prog w) A (Builtin.Slice.sliceApplied (.ref sl) (pure (n:Int))) Q E s:=by
 obtain ⟨os,hos,hcs,hds⟩:=id hs
 unfold Builtin.Slice.sliceApplied Builtin.Slice.sliceFields
 refine wpAny_bind (wpAny_bind (wpAny_field hos hds (x:=vl) rfl (wpAny_bind (wpAny_field hos hds (x:=vu) rfl (wpAny_bind (wpAny_field hos hds (x:=.none) rfl (wpAny_pure ?_)))))))
 refine wpAny_bind (slicePart_none ?_)
 show wpAny _ _ (if ((1:Int) == 0)=true then _ else _) _ _ s
 rw [if_neg (by decide)]
 refine wpAny_bind (zph pl (wpAny_bind (zph pu (wpAny_bind (wpAny_pure ?_)))))
 show wpAny _ _ (match Builtin.Slice.sliceAdjust lo hi 1 (n:Int) with | (lo,hi)=>pure (lo,(1:Int),Builtin.Slice.slicePlaces lo hi 1)) _ _ s
 rw [qcp lo hi n]
 show wpAny _ _ (pure (((sIx n 0 lo:Nat):Int),(1:Int),Builtin.Slice.slicePlaces ((sIx n 0 lo:Nat):Int) ((sIx n n hi:Nat):Int) 1)) _ _ s
 rw [qcc]
 exact wpAny_pure h
theorem qgr (xs:Array Value) (i k:Nat):((jc2 k).filterMap λ (m:Nat)=>xs[((i:Int) + (m:Int) * 1).toNat]?).toArray=((xs.toList.drop i).take k).toArray:=by
 have e:(λ (m:Nat)=>xs[((i:Int) + (m:Int) * 1).toNat]?)=λ m=>xs[i + m]?:=by
  funext m
  have:((i:Int) + (m:Int) * 1).toNat=i + m:=by omega
  rw [this]
 rw [e]
 have:=pick_run xs i k
 rw [List.filterMap_map] at this
 have e2:((λ x=>xs[x]?) ∘ λ x=>i + x)=λ m=>xs[i + m]?:=rfl
 rw [e2] at this
 rw [this]
theorem getItem_tuple_cut {t sl:Addr}{items:Array Value}{vl vu:Value}{lo hi:Option Int}{Q:Value->Shared->Prop} (ht:IsTup s.heap t items) (hs:s.heap.IsSliceOf sl vl vu .none) (pl:IsPart vl lo) (pu:IsPart vu hi)
  (hw:¬ (sIx items.size 0 lo=0/\sIx items.size items.size hi=items.size))
  (h:Q (.ref s.heap.objs.size) { s with heap:=s.heap.push { cls:=.type "tuple",data:=.seq ((items.toList.drop (sIx items.size 0 lo)).take (sIx items.size items.size hi - sIx items.size 0 lo)).toArray } })
  (hsz:items.size<=sizeLine):wpAny (model prog w) A (getItem (.ref t) (.ref sl)) Q E s:=by
 have htake:sizeOk (.seq ((items.toList.drop (sIx items.size 0 lo)).take (sIx items.size items.size hi - sIx items.size 0 lo)).toArray):=by
  show ((items.toList.drop (sIx items.size 0 lo)).take (sIx items.size items.size hi - sIx items.size 0 lo)).toArray.size<=sizeLine
  rw [jb6,jd0,jd2,je9]
  omega
 have hj:sIx items.size items.size hi<=items.size:=qnm _ _ (jb3 _) hi
 obtain ⟨os,hos,hcs,hds⟩:=id hs
 have hTs:s.TypeIs (.ref sl) "slice" := ⟨os,hos,hcs⟩
 unfold getItem
 try with_reducible refine wpAny_holding ?_
 first | refine wpAny_bind (wpAny_pure ?_) | skip
 refine wpAny_bind (wpAny_sequenceKey ht.typeIs (by decide) ?_)
 refine wpAny_bind (wpAny_callSpecial?_slot (name:=Str.ofString "__getitem__") ht.typeIs PyProof.Rows.slot_tuple_getitem
  (wpAny_call_entry PyProof.Rows.slot_tuple_getitem ht.typeIs entry_tuple_getitem ?_ (args_tuple_getitem _ _)))
 show wpAny _ _ (Builtin.Tuple.tupleItemsOf (.ref t) >>= _) _ _ s
 refine wpAny_bind (tupleItemsOf_ ht ?_)
 refine wpAny_bind (wpAny_typeOf hTs ?_)
 rw [if_pos (by decide)]
 refine wpAny_bind (zja hs pl pu ?_)
 have hno:¬ ((((sIx items.size 0 lo:Nat):Int) == 0 && (1:Int) == 1 && (sIx items.size items.size hi - sIx items.size 0 lo) == items.size)=true):=by
  intro q
  rw [ja4,ja4] at q
  have q1:((sIx items.size 0 lo:Nat):Int)=0:=eq_of_beq q.1.1
  have q2:sIx items.size items.size hi - sIx items.size 0 lo=items.size:=eq_of_beq q.2
  exact hw ⟨by omega,by omega⟩
 show wpAny _ _ (if (((sIx items.size 0 lo:Nat):Int) == 0 && (1:Int) == 1 && (sIx items.size items.size hi - sIx items.size 0 lo) == items.size)=true then _ else _) _ _ s
 rw [if_neg hno,qgr]
 first
  | exact wpAny_bind (m:=Builtin.Tuple.tupleExact _) (wpAny_newObj_type (wpAny_pure ⟨_,rfl,wpAny_pure h⟩) htake)
  | exact wpAny_bind (m:=Builtin.Tuple.tupleExact _) (wpAny_newObj_type (wpAny_bind (wpAny_pure (wpAny_pure ⟨_,rfl,wpAny_pure h⟩))) htake)
  | exact wpAny_bind (wpAny_bind (m:=Builtin.Tuple.tupleExact _) (wpAny_newObj_type (wpAny_pure (wpAny_pure ⟨_,rfl,wpAny_pure h⟩)) htake))
  | exact wpAny_bind (wpAny_bind (m:=Builtin.Tuple.tupleExact _) (wpAny_newObj_type (wpAny_pure ⟨_,rfl,wpAny_pure h⟩) htake))
end
end HT
namespace L2
open PySem PySem.Spec PyProof.Rows
abbrev TO:=St->Hp->(Option Int->Hp->Prop)->Prop
def PO (X:Cx) (e:Option Expr) (t:TO):Prop:=
 ∀ (pins:List (Addr×Obj)) (s:Shared) (σ:St) (H:Hp) (Q:Option Int->Hp->Prop),Inv X pins σ H s->t σ H Q ->
  wpAny (model X.prog X.w) X.A (evalPart e X.env) (λ u s'=>∃ o H',Inv X pins σ H' s'/\IsPart u o/\Q o H') X.xe s
def zhq:TO:=λ _ H Q=>Q none H
def qmy (t:TE):TO:=λ σ H Q=>t σ H λ x H1=>∃ i,x=.int i/\Q (some i) H1
section
variable {X:Cx}{e:Expr}{te:TE}{lo hi:Option Expr}{tl th:TO}{pos p2:Pos}
theorem zhx:PO X none zhq:=by
 intro pins s σ H Q I h
 rw [evalPart_none]
 exact wpAny_pure ⟨none,H,I,.none,h⟩
theorem zbf (h:PE X e te):PO X (some e) (qmy te):=by
 intro pins s σ H Q I hw
 rw [evalPart_some]
 refine thn (h pins s σ H _ I hw) λ u s1 ⟨x,H1,I1,r1,q1⟩=>?_
 obtain ⟨i,rfl,q⟩:=q1
 obtain ⟨t,rfl⟩:=r1
 exact ⟨some i,H1,I1,.int i t,q⟩
def SlR (X:Cx) (r:V->Option Int->Option Int->Hp->VK->Prop):Prop:=
 ∀ (pins:List (Addr×Obj)) (s:Shared) (σ:St) (H:Hp) (x:V) (v vl vu:Value) (lo hi:Option Int) (sl:Addr) (Q:VK),Inv X pins σ H s->RelV x v->s.heap.IsSliceOf sl vl vu .none->IsPart vl lo->IsPart vu hi->r x lo hi H Q ->
  ∃ T id,typeLookup (.type T) "__getitem__" = pure (some (.builtin id))/\s.TypeIs v T/\wpAny (model X.prog X.w) X.A (getItem v (.ref sl)) (EP X pins σ Q) X.xe s
theorem SlR.or {r r':V->Option Int->Option Int->Hp->VK->Prop} (h:SlR X r) (h':SlR X r'):SlR X (λ x lo hi H Q=>r x lo hi H Q\/r' x lo hi H Q):=by
 intro pins s σ H x v vl vu lo hi sl Q I rx hs pl pu q
 rcases q with q | q
 ·exact h pins s σ H x v vl vu lo hi sl Q I rx hs pl pu q
 ·exact h' pins s σ H x v vl vu lo hi sl Q I rx hs pl pu q
def tSl (r:V->Option Int->Option Int->Hp->VK->Prop) (te:TE) (tl th:TO):TE:=λ σ H Q=>te σ H λ x H1=>tl σ H1 λ l H2=>th σ H2 λ u H3=>r x l u H3 Q
theorem zmv {r:V->Option Int->Option Int->Hp->VK->Prop} (hr:SlR X r) (he:PE X e te) (hl:PO X lo tl) (hu:PO X hi th):PE X (.Subscript e (.Slice lo hi none p2) pos) (tSl r te tl th):=by
 intro pins s σ H Q I h
 refine Subscript_ (thn (he pins s σ H _ I h) λ v s1 ⟨x,H1,I1,r1,q1⟩=>?_)
 refine wpAny_Slice (thn (hl pins s1 σ H1 _ I1 q1) λ vl s2 ⟨l,H2,I2,pl,q2⟩=>thn (hu pins s2 σ H2 _ I2 q2) λ vu s3 ⟨u,H3,I3,pu,q3⟩=>?_)
 rw [evalPart_none]
 refine wpAny_pure ?_
 have I4:Inv X pins σ H3 { s3 with heap:=s3.heap.push { cls:=.type "slice",data:=.fields #[vl,vu,.none] } }:=I3.kept (t':=s3.toks) λ b ob q=>Heap.get?_push_of_some _ q
 obtain ⟨T,id,hT,ht,hg⟩:=hr pins { s3 with heap:=s3.heap.push { cls:=.type "slice",data:=.fields #[vl,vu,.none] } } σ H3 x v vl vu l u s3.heap.objs.size Q I4 r1 (Heap.IsSliceOf.new ..) pl pu q3
 show wpAny (model X.prog X.w) X.A (subscriptTail e (.Slice lo hi none p2) v (.ref s3.heap.objs.size)) (EP X pins σ Q) X.xe { s3 with heap:=s3.heap.push { cls:=.type "slice",data:=.fields #[vl,vu,.none] } }
 exact tail_any (ops:=[.ref s3.heap.objs.size,v]) ht hT hg (by with_unfolding_all rfl)
def cutV (xs:List V) (lo hi:Option Int):List V:=(xs.drop (HT.sIx xs.length 0 lo)).take (HT.sIx xs.length xs.length hi - HT.sIx xs.length 0 lo)
theorem zbw (xs:List V) (lo hi:Option Int):(cutV xs lo hi).length<=xs.length:=by
 unfold cutV
 rw [jd0,jd2]
 omega
def rSlT (K:PySem.W.Frag):V->Option Int->Option Int->Hp->VK->Prop:=λ x lo hi H Q=>∃ a xs,x=.ref a/\SqT K H a xs /\
 ¬ (HT.sIx xs.length 0 lo=0/\HT.sIx xs.length xs.length hi=xs.length)/\∀ p,H p=none->Q (.ref p) (upd H p (.tup (cutV xs lo hi)))
theorem qdd:SlR X (rSlT X.K):=by
 intro pins s σ H x v vl vu lo hi sl Q I rx hs pl pu h
 obtain ⟨a,xs,rfl,hx,hw,q⟩:=h
 cases rx
 obtain ⟨its,r,ht,hz⟩:=I.tuple hx
 have hlen:its.toArray.size=xs.length:=by rw [jb6];exact r.length.symm
 refine ⟨"tuple",_,PyProof.Rows.slot_tuple_getitem.lookup,ht.typeIs,?_⟩
 refine HT.getItem_tuple_cut ht hs pl pu (by rw [hlen];exact hw) ?_ (by rw [hlen];exact hz)
 rw [hlen]
 refine ⟨.ref s.heap.objs.size,_,I.laid (t':=s.toks) (o:=.tup (cutV xs lo hi)) (λ b ob q=>Heap.get?_push_of_some _ q) (jb3 _) ?_,rfl,q _ (I.hok.fresh (jb3 _))⟩
 exact ⟨jc6 (zbw xs lo hi) hz,_,(r.drop (HT.sIx xs.length 0 lo)).take (HT.sIx xs.length xs.length hi - HT.sIx xs.length 0 lo),IsTup.new _ _⟩
def qpx (K:PySem.W.Frag):R2:=λ x y H Q=>∃ a b xs ys,x=.ref a/\y=.ref b/\SqT K H a xs/\SqT K H b ys/\xs≠[]/\xs.length + ys.length<=sizeLine /\
 (ys=[]->Q (.ref a) H)/\(ys≠[]->∀ p,H p=none->Q (.ref p) (upd H p (.tup (xs++ys))))
theorem Vals.nil_iff {xs:List V}{us:List Value} (r:Vals xs us):us=[]↔xs=[]:=by
 cases r with
 | nil=>simp
 | cons _ _=>simp
theorem qkw:OpR X (binaryOp .Add) (qpx X.K):=by
 intro pins s σ H x y v u Q I rx ry h
 obtain ⟨a,b,xs,ys,rfl,rfl,ha,hb,hx,hz,q1,q2⟩:=h
 cases rx
 cases ry
 obtain ⟨its,r1,p1,_⟩:=I.tuple ha
 obtain ⟨its2,r2,p2,_⟩:=I.tuple hb
 refine HT.cat_tup p1 p2 (λ z=>hx (r1.nil_iff.mp z)) (λ z=>⟨.ref a,H,I,rfl,q1 (r2.nil_iff.mp z)⟩) (λ z=>?_) (by rw [<- r1.length,<- r2.length];exact hz)
 refine ⟨.ref s.heap.objs.size,_,I.laid (t':=s.toks) (o:=.tup (xs++ys)) (λ b ob q=>Heap.get?_push_of_some _ q) (jb3 _) ?_,rfl,q2 (λ w=>z (r2.nil_iff.mpr w)) _ (I.hok.fresh (jb3 _))⟩
 exact ⟨by rw [jb4];exact hz,_,r1.append r2,IsTup.new _ _⟩
end
def ixN (n:Nat) (i:Int):Option Nat:=if 0<=i then (if i < n then some i.toNat else none) else if -(n:Int)<=i then some (i + n).toNat else none
def atI {α:Type} (xs:List α) (i:Int):Option α:=(ixN xs.length i).bind λ j=>xs[j]?
theorem qeq {n:Nat}{i:Int}{j:Nat} (h:ixN n i=some j):seqIndex? i n=some j/\j < n/\-(n:Int)<=i/\i < n:=by
 unfold ixN at h
 by_cases h0:0<=i
 ·rw [if_pos h0] at h
  by_cases h1:i < n
  ·rw [if_pos h1] at h
   have e:i.toNat=j:=Option.some.inj h
   exact ⟨by rw [seqIndex_of h0 h1,e],by omega,by omega,h1⟩
  ·rw [if_neg h1] at h;cases h
 ·rw [if_neg h0] at h
  by_cases h1:-(n:Int)<=i
  ·rw [if_pos h1] at h
   have e:(i + n).toNat=j:=Option.some.inj h
   exact ⟨by rw [seqIndex_neg (by omega) h1,e],by omega,h1,by omega⟩
  ·rw [if_neg h1] at h;cases h
theorem qan {α:Type}{xs:List α}{i:Int}{v:α} (h:atI xs i=some v):∃ j,seqIndex? i xs.length=some j/\xs[j]?=some v/\j < xs.length/\-(xs.length:Int)<=i/\i < xs.length:=by
 unfold atI at h
 cases e:ixN xs.length i with
 | none=>rw [e] at h;cases h
 | some j=>
  rw [e] at h
  obtain ⟨h1,h2,h3,h4⟩:=qeq e
  exact ⟨j,h1,h,h2,h3,h4⟩
theorem atI_nat {α:Type}{xs:List α}{j:Nat}{v:α} (h:xs[j]?=some v):atI xs (j:Int)=some v:=by
 have hj:j < xs.length:=(ja8.mp h).1
 have e:ixN xs.length (j:Int)=some j:=by
  unfold ixN
  rw [if_pos (by omega),if_pos (by omega)];simp
 unfold atI;rw [e];exact h
theorem atI_last {α:Type} (xs:List α) (v:α):atI (xs++[v]) (-1)=some v:=by
 have hl:(xs++[v]).length=xs.length + 1:=by simp
 have e:ixN (xs++[v]).length (-1)=some xs.length:=by
  unfold ixN
  rw [hl,if_neg (by decide),if_pos (by omega)]
  congr 1
  omega
 unfold atI
 rw [e]
 show (xs++[v])[xs.length]?=some v
 simp
def zfv (b:Expr):Prop:=∀ o i,subscripted b false o i=operate [o,i] (getItem o i)
def IxR (X:Cx) (r:R2):Prop:=
 ∀ (value slice:Expr) (pins:List (Addr×Obj)) (s:Shared) (σ:St) (H:Hp) (x y:V) (v u:Value) (Q:VK),Inv X pins σ H s->RelV x v->RelV y u->r x y H Q ->
  subscripted slice false v u=operate [v,u] (getItem v u)->wpAny (model X.prog X.w) X.A (subscriptTail value slice v u) (EP X pins σ Q) X.xe s
def MtR (X:Cx) (id:String) (r:V->List V->Hp->VK->Prop):Prop:=
 ∀ (pins:List (Addr×Obj)) (s:Shared) (σ:St) (H:Hp) (x:V) (xs:List V) (v:Value) (us:List Value) (Q:VK),Inv X pins σ H s->RelV x v->Vals xs us->r x xs H Q ->
  wpAny (model X.prog X.w) X.A (call (.builtin id) (v::us)) (EP X pins σ Q) X.xe s
section
variable {X:Cx}{a b:Expr}{ta tb:TE}{pos:Pos}
theorem IxR.or {r r':R2} (h:IxR X r) (h':IxR X r'):IxR X (λ x y H Q=>r x y H Q\/r' x y H Q):=by
 intro value slice pins s σ H x y v u Q I rx ry q hs
 rcases q with q | q
 ·exact h value slice pins s σ H x y v u Q I rx ry q hs
 ·exact h' value slice pins s σ H x y v u Q I rx ry q hs
theorem qkn {r:R2} (hr:IxR X r) (ha:PE X a ta) (hb:PE X b tb) (hs:zfv b):PE X (.Subscript a b pos) (tOp r ta tb):=by
 intro pins s σ H Q I h
 exact Subscript_ (binT ha hb I h λ v u s2 x y H2 I2 rx ry q=>hr a b pins s2 σ H2 x y v u Q I2 rx ry q (hs _ _))
def rIxL (K:PySem.W.Frag):R2:=λ x y H Q=>∃ p xs i v,x=.ref p/\y=.int i/\SqL K H p xs/\atI xs i=some v/\Q v H
def rIxT (K:PySem.W.Frag):R2:=λ x y H Q=>∃ p xs i v,x=.ref p/\y=.int i/\SqT K H p xs/\atI xs i=some v/\Q v H
def rIxS:R2:=λ x y H Q=>∃ z i c,x=.str z/\y=.int i/\z.length<=sizeLine/\atI z.cps.toList i=some c/\Q (.str ⟨#[c]⟩) H
theorem qep:IxR X (rIxL X.K):=by
 intro value slice pins s σ H x y v u Q I rx ry h hs
 obtain ⟨p,xs,i,z,rfl,rfl,hq,he,q⟩:=h
 cases rx
 obtain ⟨t,rfl⟩:=ry
 obtain ⟨its,r,pl,hz⟩:=I.list hq
 obtain ⟨j,h1,h2,h3,h4,h5⟩:=qan he
 obtain ⟨w,ew,rw'⟩:=r.get h2
 have hl:=r.length
 have hn:=zpq
 have fin:EP X pins σ Q w s:=⟨z,H,I,rw',q⟩
 by_cases h0:0<=i
 ·have hj:i.toNat=j:=by
   rw [seqIndex_of h0 h5] at h1
   exact Option.some.inj h1
  exact item_listR pl.isList h0 (by omega) (by rw [hj];simpa using ew) fin hs
 ·have hj:(i + (its.toArray.size:Int)).toNat=j:=by
   rw [seqIndex_neg (by omega) h4] at h1
   rw [jb6,<- hl]
   exact Option.some.inj h1
  exact subscriptTail_builtinR (x:=w) pl.isList.typeIs slot_list_getitem.lookup
   (wpAny_getItem_list_neg (Q:=λ r s'=>r=w/\EP X pins σ Q r s') pl.isList (by omega) (by rw [jb6] <;> omega) (by omega) (by rw [hj];simpa using ew) ⟨rfl,fin⟩) hs
theorem qov:IxR X (rIxT X.K):=by
 intro value slice pins s σ H x y v u Q I rx ry h hs
 obtain ⟨p,xs,i,z,rfl,rfl,hq,he,q⟩:=h
 cases rx
 obtain ⟨t,rfl⟩:=ry
 obtain ⟨its,r,pl,hz⟩:=I.tuple hq
 obtain ⟨j,h1,h2,h3,h4,h5⟩:=qan he
 obtain ⟨w,ew,rw'⟩:=r.get h2
 have hl:=r.length
 have hn:=zpq
 have fin:EP X pins σ Q w s:=⟨z,H,I,rw',q⟩
 exact subscriptTail_builtinR (x:=w) pl.typeIs slot_tuple_getitem.lookup
  (getItem_tuple (j:=j) (Q:=λ r s'=>r=w/\EP X pins σ Q r s') pl (by omega) (by omega) (by rw [jb6,<- hl];exact h1) (by simpa using ew) ⟨rfl,fin⟩) hs
theorem qow:IxR X rIxS:=by
 intro value slice pins s σ H x y v u Q I rx ry h hs
 obtain ⟨z,i,c,rfl,rfl,hz,he,q⟩:=h
 obtain ⟨t,rfl⟩:=rx
 obtain ⟨t',rfl⟩:=ry
 obtain ⟨j,h1,h2,h3,h4,h5⟩:=qan he
 have hl:z.cps.toList.length=z.length:=by simp [Str.length]
 rw [hl] at h1 h4 h5
 have hn:=zpq
 exact tail_any (typeIs_str s z t) slot_str_getitem.lookup (getItem_str (c:=c) (by
  have e1:decide (i < -(2 ^ 63:Int))=false:=decide_eq_false (by omega)
  have e2:decide (i ≥ 2 ^ 63)=false:=decide_eq_false (by omega)
  rw [e1,e2,Bool.or_false]) (by rw [h1];simpa using h2) ⟨.str ⟨#[c]⟩,H,I.tok _,⟨_,rfl⟩,q⟩) hs
def rIx (K:PySem.W.Frag):R2:=λ x y H Q=>rIxL K x y H Q\/rIxT K x y H Q\/rIxS x y H Q
theorem qiv:IxR X (rIx X.K):=qep.or (qov.or qow)
theorem qci (its:List Value) (n j:Nat) (u:Value):Obj.mapSeq (·.setIfInBounds j u) { cls:=.type "list",data:=.seq its.toArray n }={ cls:=.type "list",data:=.seq (its.set j u).toArray n }:=by
 simp [Obj.mapSeq]
theorem Inv.lst {pins:List (Addr×Obj)}{σ:St}{H:Hp}{s:Shared}{p:Addr}{xs:List V} (I:Inv X pins σ H s) (h:H p=some (.lst xs)):
  ∃ (its:List Value) (n:Nat),Vals xs its/\s.heap.get? p=some { cls:=.type "list",data:=.seq its.toArray n }/\xs.length<=sizeLine:=by
 obtain ⟨z,its,n,r,e⟩:=I.hok p _ h
 exact ⟨its,n,r,e,z⟩
theorem Inv.lstUpd {pins:List (Addr×Obj)}{σ:St}{H:Hp}{s:Shared}{p:Addr}{xs ys:List V}{its its':List Value}{n n':Nat}{f:Obj->Obj} (I:Inv X pins σ H s) (h:H p=some (.lst xs))
  (ho:s.heap.get? p=some { cls:=.type "list",data:=.seq its.toArray n }) (hf:f { cls:=.type "list",data:=.seq its.toArray n }={ cls:=.type "list",data:=.seq its'.toArray n' }) (r:Vals ys its') (hz:ys.length<=sizeLine) (t:Nat):
  Inv X pins σ (upd H p (.lst ys)) { s with heap:=s.heap.update p f,toks:=t }:=by
 have e:(s.heap.update p f).get? p=some { cls:=.type "list",data:=.seq its'.toArray n' }:=by
  rw [Heap.get?_update_self f ho (by rw [hf] <;> rfl),hf]
 refine I.write (x:=p) (e:=p) (by rw [h];trivial) (.inl rfl) (λ b u hb q=>(Heap.get?_update_other _ _ (Ne.symm hb)).trans q) ⟨_,e⟩ ?_
 exact ⟨hz,its',n',r,e⟩
def qnq:V->V->V->Hp->(Hp->Prop)->Prop:=λ o i v H Q=>∃ p xs k j,o=.ref p/\i=.int k/\H p=some (.lst xs)/\ixN xs.length k=some j/\Q (upd H p (.lst (xs.set j v)))
theorem qgi:PSet X qnq:=by
 intro pins s σ H o i v ov iv u Q I ro ri rv h
 obtain ⟨p,xs,k,j,rfl,rfl,hp,hj,q⟩:=h
 cases ro
 obtain ⟨t,rfl⟩:=ri
 obtain ⟨its,n,r,ho,hz⟩:=I.lst hp
 obtain ⟨h1,h2,h3,h4⟩:=qeq hj
 have hl:=r.length
 have hn:=zpq
 have I':Inv X pins σ (upd H p (.lst (xs.set j v))) { s with heap:=s.heap.update p (Obj.mapSeq (·.setIfInBounds j u)) }:=
  I.lstUpd hp ho (qci its n j u) (r.set rv j) (by rw [jf3];exact hz) s.toks
 by_cases h0:0<=k
 ·have hk:k.toNat=j:=by
   rw [seqIndex_of h0 h4] at h1
   exact Option.some.inj h1
  exact PySem.W.ki_setAt ho h0 (by omega) (by rw [jb6,<- hl];exact h4) (by rw [hk];exact ⟨_,I',q⟩)
 ·have hk:(k + (its.toArray.size:Int)).toNat=j:=by
   rw [seqIndex_neg (by omega) h3] at h1
   rw [jb6,<- hl]
   exact Option.some.inj h1
  exact PySem.W.ki_setBack ho (by omega) (by rw [jb6,<- hl];exact h3) (by omega) (by rw [hk];exact ⟨_,I',q⟩)
theorem zgd (lo hi:Option Int) (n:Nat):(sliceBounds lo hi none n).1=((HT.sIx n 0 lo:Nat):Int)/\(sliceBounds lo hi none n).2.1=((HT.sIx n n hi:Nat):Int)/\(sliceBounds lo hi none n).2.2=1:=by
 refine ⟨?_,?_,rfl⟩
 ·cases lo with
  | none=>simp [sliceBounds,HT.sIx]
  | some i=>
   simp only [sliceBounds,HT.sIx,jp3,show (1:Int) > 0 by decide,if_true]
   by_cases h:i < 0
   ·simp only [h,if_true] <;> omega
   ·simp only [h,if_false] <;> omega
 ·cases hi with
  | none=>simp [sliceBounds,HT.sIx]
  | some i=>
   simp only [sliceBounds,HT.sIx,jp3,show (1:Int) > 0 by decide,if_true]
   by_cases h:i < 0
   ·simp only [h,if_true] <;> omega
   ·simp only [h,if_false] <;> omega
theorem zmm (its:List Value) (lo hi:Option Int):slicePick its.toArray lo hi none=((its.drop (HT.sIx its.length 0 lo)).take (HT.sIx its.length its.length hi - HT.sIx its.length 0 lo)).toArray:=by
 obtain ⟨h1,h2,h3⟩:=zgd lo hi its.toArray.size
 unfold slicePick
 rw [h1,h2,h3]
 simp only [sliceRange_one,pick_run,jb6] <;> rfl
def rSlL (K:PySem.W.Frag):V->Option Int->Option Int->Hp->VK->Prop:=λ x lo hi H Q=>∃ a xs,x=.ref a/\SqL K H a xs/\∀ p,H p=none->Q (.ref p) (upd H p (.lst (cutV xs lo hi)))
theorem zhu:SlR X (rSlL X.K):=by
 intro pins s σ H x v vl vu lo hi sl Q I rx hs pl pu h
 obtain ⟨a,xs,rfl,hx,q⟩:=h
 cases rx
 obtain ⟨its,r,ht,hz⟩:=I.list hx
 have hlen:=r.length
 refine ⟨"list",_,slot_list_getitem.lookup,ht.isList.typeIs,?_⟩
 refine wpAny_getItem_list_slice ht.isList hs pl pu .none (by simp) ?_ (by rw [jb6] <;> omega)
 rw [zmm,<- hlen]
 refine ⟨.ref s.heap.objs.size,_,I.laid (t':=s.toks) (o:=.lst (cutV xs lo hi)) (λ b ob q=>Heap.get?_push_of_some _ q) (jb3 _) ?_,rfl,q _ (I.hok.fresh (jb3 _))⟩
 exact ⟨jc6 (zbw xs lo hi) hz,_,0,(r.drop (HT.sIx xs.length 0 lo)).take (HT.sIx xs.length xs.length hi - HT.sIx xs.length 0 lo),Heap.get?_push_size _ rfl⟩
theorem zhe:zwz X (.builtin "len") (λ xs H Q=>∃ p ys,xs=[.ref p]/\(SqL X.K H p ys\/SqT X.K H p ys)/\Q (.int ys.length) H):=by
 intro pins s σ H xs us Q I r h
 obtain ⟨p,ys,rfl,hq,q⟩:=h
 obtain ⟨u,rfl,rx⟩:=zjs r
 cases rx
 have hn:=zpq
 rcases hq with hq | hq
 ·obtain ⟨its,r',pl,hz⟩:=I.list hq
  have hlen:=r'.length
  exact Calls.call_len_list pl.isList (by simp only [jb6] <;> omega) ⟨.int ys.length,H,I.tok _,⟨s.toks + 1,by rw [jb6,hlen]⟩,q⟩
 ·obtain ⟨its,r',pl,hz⟩:=I.tuple hq
  have hlen:=r'.length
  exact len_tuple pl (by simp only [jb6] <;> omega) ⟨.int ys.length,H,I.tok _,⟨s.toks + 1,by rw [jb6,hlen]⟩,q⟩
theorem zhd:zwz X (.builtin "len") (λ xs H Q=>∃ z,xs=[.str z]/\z.length<=sizeLine/\Q (.int z.length) H):=by
 intro pins s σ H xs us Q I r h
 obtain ⟨z,rfl,hz,q⟩:=h
 obtain ⟨u,rfl,t,rfl⟩:=zjs r
 have hn:=zpq
 exact len_str (by omega) ⟨.int z.length,H,I.tok _,⟨_,rfl⟩,q⟩
theorem zwz.or {f:Value}{r r':List V->Hp->VK->Prop} (h:zwz X f r) (h':zwz X f r'):zwz X f (λ xs H Q=>r xs H Q\/r' xs H Q):=by
 intro pins s σ H xs us Q I rs q
 rcases q with q | q
 ·exact h pins s σ H xs us Q I rs q
 ·exact h' pins s σ H xs us Q I rs q
theorem zhc:zwz X (.type "list") (λ xs H Q=>∃ p ys,xs=[.ref p]/\(SqL X.K H p ys\/SqT X.K H p ys)/\∀ l,H l=none->Q (.ref l) (upd H l (.lst ys))):=by
 intro pins s σ H xs us Q I r h
 obtain ⟨p,ys,rfl,hq,q⟩:=h
 obtain ⟨u,rfl,rx⟩:=zjs r
 cases rx
 have fin:∀ (its:List Value),Vals ys its->ys.length<=sizeLine->∀ (h':Heap) (c':Nat),(∀ b o',s.heap.get? b=some o'->h'.get? b=some o') ->
   h'.get? s.heap.objs.size=some { cls:=.type "list",dict:=none,data:=.seq its.toArray c',slots:=#[] }->EP X pins σ Q (.ref s.heap.objs.size) { s with heap:=h' }:=λ its r' hz h' c' kp e=>
  ⟨.ref s.heap.objs.size,_,I.laid (t':=s.toks) kp (jb3 _) (show zza X.prog X.w _ h' _ (.lst ys) from ⟨hz,its,c',r',e⟩),rfl,q _ (I.hok.fresh (jb3 _))⟩
 rcases hq with hq | hq
 ·obtain ⟨its,r',pl,hz⟩:=I.list hq
  have hlen:=r'.length
  obtain ⟨o,ho,hc,n,hd⟩:=pl.isList
  exact call_list_seq p (.inl rfl) ho hc hd (λ h' c' kp e=>fin its r' hz h' c' kp e) (by simp only [jb6] <;> omega)
 ·obtain ⟨its,r',pl,hz⟩:=I.tuple hq
  have hlen:=r'.length
  obtain ⟨o,ho,hc,n,hd⟩:=pl
  exact call_list_seq p (.inr rfl) ho hc hd (λ h' c' kp e=>fin its r' hz h' c' kp e) (by simp only [jb6] <;> omega)
theorem zfs:zwz X (.type "tuple") (λ xs H Q=>∃ p ys,xs=[.ref p]/\((SqL X.K H p ys/\∀ l,H l=none->Q (.ref l) (upd H l (.tup ys)))\/(SqT X.K H p ys/\Q (.ref p) H))):=by
 intro pins s σ H xs us Q I r h
 obtain ⟨p,ys,rfl,h⟩:=h
 obtain ⟨u,rfl,rx⟩:=zjs r
 cases rx
 rcases h with ⟨hq,q⟩ | ⟨hq,q⟩
 ·obtain ⟨its,r',pl,hz⟩:=I.list hq
  have hlen:=r'.length
  refine call_tuple_list pl.isList (λ h' kp=>?_) (by simp only [jb6] <;> omega)
  have I1:Inv X pins σ H { s with heap:=h' }:=I.kept (t':=s.toks) kp
  have I2:Inv X pins σ (upd H h'.objs.size (.tup ys)) { s with heap:=h'.push { cls:=.type "tuple",data:=.seq its.toArray } }:=
   I1.laid (t':=s.toks) (λ b o e=>Heap.get?_push_of_some _ e) (jb3 _) (show zza X.prog X.w _ _ _ (.tup ys) from ⟨hz,its,r',IsTup.new _ _⟩)
  exact ⟨.ref h'.objs.size,_,I2,rfl,q _ (I1.hok.fresh (jb3 _))⟩
 ·obtain ⟨its,r',pl,hz⟩:=I.tuple hq
  exact call_tuple_same pl ⟨.ref p,H,I,rfl,q⟩
def tyV (K:PySem.W.Frag) (T:String) (x:V) (H:Hp):Prop:=match x with
 | .str _=>T = "str"
 | .int _=>T = "int"
 | .ref p=>(T = "list" /\ ∃ xs,SqL K H p xs)\/(T = "tuple" /\ ∃ o,K.lookup p=some o/\o.cls=.type "tuple" /\ o.dict=none) \/
   (T = "dict" /\ ((∃ kvs,H p=some (.dK kvs))\/∃ kvs,H p=some (.dT kvs)))\/(T = "set" /\ ∃ S n,H p=some (.set S n))
 | _=>False
theorem qmh {pins:List (Addr×Obj)}{σ:St}{H:Hp}{s:Shared}{T:String}{x:V}{v:Value} (I:Inv X pins σ H s) (r:RelV x v) (ty:tyV X.K T x H):
  s.TypeIs v T/\∀ a,v=.ref a->∃ ob,s.heap.get? a=some ob/\ob.dict=none:=by
 cases x with
 | str z=>
  obtain ⟨t,rfl⟩:=r
  cases (show T = "str" from ty)
  exact ⟨typeIs_str s z t,λ _ e=>nomatch e⟩
 | int i=>
  obtain ⟨t,rfl⟩:=r
  cases (show T = "int" from ty)
  exact ⟨typeIs_int s i t,λ _ e=>nomatch e⟩
 | ref p=>
  cases r
  rcases ty with ⟨rfl,xs,hq⟩ | ⟨rfl,o,hk,hc,hd⟩ | ⟨rfl,hk⟩ | ⟨rfl,S,n,hk⟩
  ·obtain ⟨its,_,pl,_⟩:=I.list hq
   refine ⟨pl.isList.typeIs,λ a e=>?_⟩
   cases e
   obtain ⟨o,n,e,c,hd,_⟩:=pl
   exact ⟨o,e,hd⟩
  ·refine ⟨⟨o,I.kIn p o hk,hc⟩,λ a e=>?_⟩
   cases e
   exact ⟨o,I.kIn _ o hk,hd⟩
  ·have z:∃ o,s.heap.get? p=some o/\o.ExactDict:=by
    rcases hk with ⟨kvs,hk⟩ | ⟨kvs,hk⟩
    ·obtain ⟨_,_,_,_,o,_,_,e,ex,_⟩:=I.hok p _ hk
     exact ⟨o,e,ex⟩
    ·obtain ⟨_,_,_,_,o,_,_,e,ex,_⟩:=I.hok p _ hk
     exact ⟨o,e,ex⟩
   obtain ⟨o,e,ex⟩:=z
   refine ⟨⟨o,e,ex.1⟩,λ a e2=>?_⟩
   cases e2
   exact ⟨o,e,ex.2.1⟩
  ·obtain ⟨o,_,_,_,e,ex,_⟩:=I.hok p _ hk
   refine ⟨⟨o,e,ex.1⟩,λ a e2=>?_⟩
   cases e2
   exact ⟨o,e,ex.2.1⟩
 | _=>exact False.elim ty
def tBM (K:PySem.W.Frag) (T:String) (r:V->List V->Hp->VK->Prop) (to:TE) (t:TA):TE:=λ σ H Q=>to σ H λ x H1=>tyV K T x H1/\t σ H1 λ xs H2=>r x xs H2 Q
variable {o e:Expr}{es:List Expr}{to:TE}{t:TA}{name:Str}{apos cpos:Pos}{T id:String}{r:V->List V->Hp->VK->Prop}
theorem qkr (pa:PlainAttrs T) (slot:Slot T name id) (hty:typeOf (.builtin id)=pure (.type "method_descriptor")) (hm:MtR X id r) (ho:PE X o to) (ha:PA X (e::es) t)
  (hbase:attributeBase o name X.env (eval o X.env)=eval o X.env:=by rfl)
  (hfew:((backTo cpos (starEach (e::es) X.env)).all (λ x=>!x.1) && (backToKw cpos (keywordEach [] X.env)).all (λ x=>x.1.isSome)
   && decide ((e::es).length + ([]:List Keyword).length + (if ([]:List Keyword).isEmpty then 0 else 1) < 30))=true:=by rfl)
  (hline:(apos.endLine == cpos.line)=true:=by rfl) (hs:starEach (e::es) X.env=(false,eval e X.env)::starEach es X.env:=by rfl) (hplain:(backTo cpos (starEach es X.env)).any (·.1)=false:=by rfl):
  PE X (.Call (.Attribute o name apos) (e::es) [] cpos) (tBM X.K T r to t):=by
 intro pins s σ H Q I h
 refine wpAny_Call_method_late hbase hfew hline rfl (thn (ho pins s σ H _ I h) λ v s1 ⟨x,H1,I1,r1,ty,q1⟩=>?_)
 obtain ⟨h1,h2⟩:=qmh I1 r1 ty
 refine ⟨T,id,pa,slot,hty,h1,h2,?_⟩
 have hA:=ha cpos pins s1 σ H1 _ I1 q1
 rw [hs] at hA ⊢
 refine Calls.callWith_builtin (by show (false || (backTo cpos (starEach es X.env)).any (·.1))=false;rw [hplain] <;> rfl) (Calls.evalArgs_plain ?_)
 exact thn hA λ us s2 ⟨vs,H2,I2,r2,q2⟩=>hm pins s2 σ H2 x vs v us Q I2 r1 r2 q2
end
def MtM (X:Cx) (id:String) (r:V->List V->Hp->VK->Prop):Prop:=
 ∀ (pins:List (Addr×Obj)) (s:Shared) (σ:St) (H:Hp) (x:V) (xs:List V) (v:Value) (us:List Value) (Q:VK),Inv X pins σ H s->RelV x v->Vals xs us->r x xs H Q ->
  wpAny (model X.prog X.w) X.A (call (.builtin id) (v::us)) (EP X pins σ Q) X.xe s
theorem Vals.one:∀ {x:V}{us:List Value},Vals [x] us->∃ u,us=[u]/\RelV x u
 | _,_,.cons r .nil=>⟨_,rfl,r⟩
theorem Vals.reverse {xs:List V}{us:List Value} (h:Vals xs us):Vals xs.reverse us.reverse:=by
 induction h with
 | nil=>exact .nil
 | cons r t ih=>rw [jh1,jh1];exact Vals.append ih (.cons r .nil)
theorem Vals.rep {xs:List V}{us:List Value} (h:Vals xs us):∀ k:Nat,Vals (ja6 k xs).flatten (ja6 k us).flatten
 | 0=>.nil
 | k + 1=>by
  rw [jd3,jd3,jf5,jf5]
  exact Vals.append h (Vals.rep h k)
theorem zgt (its:List Value):∀ (k:Nat) (acc:List Value),
  jq1 (λ x1 x2=>x1++x2) acc.toArray (ja6 k its.toArray)=(acc++(ja6 k its).flatten).toArray
 | 0,acc=>by simp
 | k + 1,acc=>by
  have e:acc.toArray++its.toArray=(acc++its).toArray:=by simp
  have e2:(acc++its)++(ja6 k its).flatten=acc++(ja6 (k + 1) its).flatten:=by
   rw [jd3,jf5,jh2]
  rw [<- e2,<- zgt its k (acc++its),<- e,jd3,jm8]
section
variable {X:Cx}{pins:List (Addr×Obj)}{σ:St}{H:Hp}{s:Shared}{l b:Addr}{xs ys zs:List V}
theorem Inv.lset {its its':List Value}{n:Nat}{f:Array Value->Array Value}{t':Nat} (I:Inv X pins σ H s) (hH:H l=some (.lst xs))
  (e:s.heap.get? l=some { cls:=.type "list",data:=.seq its.toArray n }) (hf:f its.toArray=its'.toArray) (hv:Vals ys its') (hz:ys.length<=sizeLine):
  Inv X pins σ (upd H l (.lst ys)) { s with heap:=s.heap.update l (Obj.mapSeq f),toks:=t' }:=by
 have q:=PySem.IsL.update e f
 rw [hf] at q
 refine I.write (x:=l) (e:=l) (by rw [hH];exact trivial) (.inl rfl) (λ b' u hb hu=>(Heap.get?_update_other s.heap (Obj.mapSeq f) (Ne.symm hb)).trans hu) ⟨_,q⟩ ?_
 exact ⟨hz,its',_,hv,q⟩
theorem Inv.lnew {its:List Value}{t':Nat} (I:Inv X pins σ H s) (hv:Vals ys its) (hz:ys.length<=sizeLine):
  Inv X pins σ (upd H s.heap.objs.size (.lst ys)) { s with heap:=s.heap.push { cls:=.type "list",data:=.seq its.toArray },toks:=t' }:=
 I.laid (λ _ _ q=>Heap.get?_push_of_some _ q) (jb3 _) ⟨hz,its,0,hv,Heap.get?_push_size _ rfl⟩
theorem Inv.fresh (I:Inv X pins σ H s):H s.heap.objs.size=none:=I.hok.fresh (jb3 _)
theorem Inv.lstM (I:Inv X pins σ H s) (hH:H l=some (.lst xs)):xs.length<=sizeLine/\∃ (its:List Value) (n:Nat),Vals xs its/\xs.length=its.length/\s.heap.get? l=some { cls:=.type "list",data:=.seq its.toArray n }:=by
 obtain ⟨z,its,n,r,e⟩:=I.hok l _ hH
 exact ⟨z,its,n,r,r.length,e⟩
theorem qg2 {n:Nat} (h:n<=sizeLine):Builtin.List.listTooLong n=false:=by
 unfold Builtin.List.listTooLong
 exact decide_eq_false (by omega)
end
section
variable {X:Cx}
def zhv:V->List V->Hp->VK->Prop:=λ x vs H Q=>∃ l xs y,x=.ref l/\vs=[y]/\H l=some (.lst xs)/\xs.length < sizeLine/\Q .non (upd H l (.lst (xs++[y])))
theorem zbk:MtM X "list.append" zhv:=by
 intro pins s σ H x vs v us Q I rx rv h
 obtain ⟨l,xs,y,rfl,rfl,hH,hz,q⟩:=h
 cases rx
 obtain ⟨u,rfl,ru⟩:=rv.one
 obtain ⟨z,its,n,r,hl,e⟩:=I.lstM hH
 refine call_meets F.slot_list_append ⟨_,e,rfl⟩ F.entry_list_append (F.args_list_append_2 _ _) (PySem.list_append l its.toArray n u (by rw [jb6];omega)) ⟨e,?_⟩
 refine ⟨.non,_,I.lset (its':=its++[u]) hH e (by simp) (r.append (.cons ru .nil)) ?_,rfl,q⟩
 rw [jb4,jd7]
 omega
def rCat:R2:=λ x y H Q=>∃ l b xs zs,x=.ref l/\y=.ref b/\H l=some (.lst xs)/\H b=some (.lst zs)/\xs.length + zs.length<=sizeLine/\∀ p,H p=none->Q (.ref p) (upd H p (.lst (xs++zs)))
theorem qiu:OpR X (binaryOp .Add) rCat:=by
 intro pins s σ H x y v u Q I rx ry h
 obtain ⟨l,b,xs,zs,rfl,rfl,hH,hB,hz,q⟩:=h
 cases rx
 cases ry
 obtain ⟨z,its,n,r,hl,e⟩:=I.lstM hH
 obtain ⟨z2,its2,n2,r2,hl2,e2⟩:=I.lstM hB
 refine PySem.P.add_list e e2 ?_ (by rw [jb6,jb6];omega)
 have ea:its.toArray++its2.toArray=(its++its2).toArray:=by simp
 rw [ea]
 exact ⟨.ref _,_,I.lnew (t':=s.toks) (r.append r2) (by rw [jb4];omega),rfl,q _ I.fresh⟩
def rRep:R2:=λ x y H Q=>∃ l k xs,x=.ref l/\y=.int k/\H l=some (.lst xs)/\-(2 ^ 63)<=k/\k < 2 ^ 63/\xs.length * k.toNat<=sizeLine /\
 ∀ p,H p=none->Q (.ref p) (upd H p (.lst (ja6 k.toNat xs).flatten))
theorem qk6 {α:Type} (xs:List α) (k:Nat):(ja6 k xs).flatten.length=k * xs.length:=by
 induction k with
 | zero=>simp
 | succ k ih=>rw [jd3,jf5,jb4,ih,jp0,Nat.add_comm]
theorem qn7:OpR X (binaryOp .Mult) rRep:=by
 intro pins s σ H x y v u Q I rx ry h
 obtain ⟨l,k,xs,rfl,rfl,hH,h1,h2,hz,q⟩:=h
 cases rx
 obtain ⟨t,rfl⟩:=ry
 obtain ⟨z,its,n,r,hl,e⟩:=I.lstM hH
 have hlen:its.toArray.size * k.toNat<=sizeLine:=by rw [jb6,<- hl];exact hz
 have hcap:¬ its.toArray.size * k.toNat > (2 ^ 63 - 1) / 8:=by
  have:(sizeLine:Nat)<=(2 ^ 63 - 1) / 8:=by decide
  omega
 have hfit:¬ (!Builtin.List.listFitsIndex k)=true:=by
  rw [fitsIndex_both h1 h2]
  exact jc5
 have hlong:¬ Builtin.List.listTooLong (its.toArray.size * k.toNat)=true:=by
  rw [qg2 hlen]
  exact jc5
 have hnew:jq1 (λ x1 x2=>x1++x2) #[] (ja6 (if its.toArray.isEmpty=true then 0 else k.toNat) its.toArray)=(ja6 k.toNat its).flatten.toArray:=by
  have f0:∀ m:Nat,jq1 (λ x1 x2=>x1++x2) #[] (ja6 m its.toArray)=(ja6 m its).flatten.toArray:=λ m=>by
   have:=zgt its m []
   rw [jg1] at this
   exact this
  rw [f0]
  cases its with
  | nil=>simp
  | cons a r'=>rw [if_neg (by simp)]
 refine wpAny_binaryOp_repeat_ref (T := "list") (U := "int") (by decide) ⟨_,e,rfl⟩ (λ s'=>typeIs_int s' k t) noFill_list_mul F.fills_int_mul F.slot_int_rmul repeat_list F.slot_int_index.lookup
  (call_meets F.slot_int_rmul (typeIs_int s k t) F.entry_int_rmul (F.args_int_rmul_2 _ _) (int___rmul___int_list k t l its.toArray n)
   ⟨e,rfl,⟨_,e,rfl⟩,call_meets F.slot_list_mul ⟨_,e,rfl⟩ F.entry_list_mul (F.args_list_mul_2 _ _) (AutoListH.list___mul___list_int_3 l its.toArray n k t hfit hcap hlong) ⟨e,?_⟩⟩)
 rw [hnew]
 exact ⟨.ref _,_,I.lnew (t':=s.toks) (r.rep k.toNat) (by rw [qk6,jq4];exact hz),rfl,q _ I.fresh⟩
end
section
variable {prog:Program}{w:World}{A:Around}{E:Value->Shared->Prop}{s:Shared}
end
section
variable {X:Cx}
end
end L2
namespace Att
open PySem PySem.W PySem.Calls PyProof.Rows
theorem zbp {P:Params}{h:Heap}:∀ (ns:List Int) (vs:List Value),WellAll P h vs (ns.map WData.int)->IntsAre vs ns:=by
 intro ns
 induction ns with
 | nil=>
  intro vs w
  rw [jm9] at w
  cases w
  exact .nil
 | cons n ns ih=>
  intro vs w
  rw [jd5] at w
  cases w with
  | cons a b=>
   cases a
   exact .cons _ _ (ih _ b)
theorem qdg {l:OpenLaw}{n:Nat} (hn:l.most=some n) {P:Params}{h:Heap}{args:List WData}{vals:List Value}
  (hpre:l.row.toRowW.claim.pre args=true) (hwl:WellAll P h vals args):
  ∃ a vs ns,vals=[Value.ref a]/\args=[WData.list (ns.map WData.int)]/\h.get? a=some { cls:=.type "list",data:=.seq vs.toArray }/\IntsAre vs ns/\ns.length<=n:=by
 have hsh:WShape.hasAll [] args [.list .int]=true:=(pre_splitW hpre).1
 have hc:l.pre.holds [] { args:=args }=true:=(pre_splitW hpre).2
 obtain ⟨d,r,rfl,h1,h2⟩:=hasAllW_cons hsh
 obtain rfl:=hasAllW_nil h2
 obtain ⟨xs,rfl,h3⟩:=hasW_list h1
 obtain ⟨ns,rfl⟩:=items_int h3
 have hlen:ns.length<=n:=by
  unfold OpenLaw.pre at hc
  have h4:(WTm.not (.lt (.lit (.int (n:Int))) (.len (.arg 0)))).holds [] { args:=[.list (ns.map .int)] }=true:=by
   have h4:=(holds_andW hc).1
   rw [hn] at h4
   exact h4
  have h5:=condW_of h4 (w_not (w_lt w_lit (w_len_list (w_arg rfl))))
  rw [ja1] at h5
  refine Nat.le_of_not_lt λ q=>?_
  have q':(n:Int) < ((ns.length:Nat):Int):=by omega
  first
   | (rw [decide_eq_true q'] at h5;exact absurd h5 (by decide))
   | (simp at h5;omega)
 cases hwl with
 | cons w1 w2=>
  cases w2
  cases w1 with
  | list ho hall=>exact ⟨_,_,ns,rfl,rfl,ho,zbp ns _ hall,hlen⟩
theorem qdp (l:OpenLaw) (args:List WData):l.row.toRowW.claim.post args (.bool true) args=true:=
 postW_of (r:=l.row.toRowW) (X:=(true == true))
  (show WShape.has [] (.bool true) .bool=true by first | rfl | decide | simp [WShape.has,WShape.arms,WShape.armsAll])
  (show (WTm.eq .res (.lit (.bool true))).value [] { args:=args,res:=some (.bool true),after:=args }=some (.bool (true == true)) from w_eq_bool (w_res rfl) w_lit) rfl
theorem attach_call {l:OpenLaw}{n:Nat}{q:Program}{loose:List Str}{XP:(Str->Option Value)->Heap->Prop}{YP:World->Heap->Prop}{d:DefRec}
  (hn:l.most=some n) (hdf:d.params.defaults=[])
  (call:∀ (w:World) (s₀ s₁:Shared) (mg mb:Str->Option Value) (fa:Addr) (o:Obj) (pm cd doc:Value) (a:Addr) (vs:List Value) (ns:List Int),
   Ground q loose [] XP w s₀ mg mb s₁.heap->YP w s₁.heap ->
   s₁.heap.get? fa=some o->o.data=.func (docDef d.name d.params d.body d.scope pm cd doc)->s₁.heap.CodeRec cd d.name->mg d.name=some (.ref fa) ->
   s₁.heap.get? a=some { cls:=.type "list",data:=.seq vs.toArray }->IntsAre vs ns->ns.length<=n->s₁.gens=#[] ->
   codeAny (model l.prog w) callerA (.call (.ref fa) ⟨[.ref a],[]⟩) (λ r s'=>r=.ok (.ret (.bool true))/\OldK s₁.heap s'.heap/\s'.os=s₁.os/\AllBare s'.gens) s₁):
  WalkO q loose XP YP l.row.toRowW d [] (λ f vs=>PySem.call f vs):=by
 intro w s₀ s₁ mg mb G Y fa o pm cd doc dV kV ho hd hcd hD hmg hg args vals as hpre hlay hrd hwl hlo
 obtain rfl:dV=.none:=Dflts.none hD hdf
 obtain rfl:kV=.none:=Dflts.noKw hD
 obtain ⟨a,vs,ns,rfl,rfl,hobj,hints,hlen⟩:=qdg hn hpre hwl
 refine enter_call (codeAny_mono (call w s₀ s₁ mg mb fa o pm cd doc a vs ns G Y ho (fd_plain hd) hcd hmg hobj hints hlen hg) λ r s' hq=>?_)
 obtain ⟨rfl,h2,h3,h4⟩:=hq
 exact ⟨.inl ⟨.bool true,.bool true,[],rfl,λ _=>rfl,.bool true,qdp l _,λ _=>⟨List.Pairwise.nil,λ _ hm=>(nomatch hm)⟩⟩,h2,h3,h4⟩
section
variable {prog:Program}{w:World}{A:Around}{E:Value->Shared->Prop}{s:Shared}{K:Frag}
end
end Att
namespace L2
open PySem PySem.Spec PyProof.Rows
theorem zfz:∀ {vs:List Value}{ns:List Int},IntsAre vs ns->Vals (ns.map V.int) vs
 | _,_,.nil=>.nil
 | _,_,.cons n t h=>.cons ⟨t,rfl⟩ (zfz h)
def Only (H:Hp):Prop:=∀ b,H b=none\/∃ o xs,H b=some (.frz o (.lst xs))
theorem qg5 {P:Program}{w:World}{K:PySem.W.Frag}{mg mb:Str->Option Value}{CX:CXT}{k:Nat}{fa a:Addr}{fd:FuncData}{x:Str}{sp:Sp}{s₁:Shared}{vs:List Value}{ns:List Int}
  (KX:K.In s₁.heap) (hns:s₁.heap.Ns mainGlobals mg) (hb:s₁.heap.Ns builtinsNs mb) (hbb:∀ x:Str,x ≠ "__name__" -> mb x=bootBuiltins x) (hlim:s₁.heap.NoLimit) (hg:s₁.gens=#[])
  (ha:s₁.heap.get? a=some { cls:=.type "list",data:=.seq vs.toArray }) (hi:IntsAre vs ns) (hl:ns.length<=sizeLine) (hr:Room k callerA)
  (F:∀ base:Heap,K.In base->base.Ns mainGlobals mg->FnOk P w K mg base CX k fa fd [x] sp) (hbind:∀ (s:Shared) (u:Value),BindsTo s fd ⟨[u],[]⟩ [(x,u)])
  (hsp:∀ H:Hp,Only H->SqL K H a (ns.map V.int)->sp [.ref a] H (λ v _=>v=.bl true) λ _ _ _=>False)
  (hCX:∀ H e s',CX [] H s₁ (λ _ _ _=>False) e s'->False):
  codeAny (model P w) callerA (.call (.ref fa) ⟨[.ref a],[]⟩) (λ r s'=>r=.ok (.ret (.bool true))/\OldK s₁.heap s'.heap/\s'.os=s₁.os/\AllBare s'.gens) s₁:=by
 have rv:=zfz hi
 have lenV:=hi.length
 have core:∀ H:Hp,Only H->SqL K H a (ns.map V.int)->HOk P w H s₁.heap->(∀ b,H b≠none->b=a)->(H a≠none->K.lookup a=none) ->
   codeAny (model P w) callerA (.call (.ref fa) ⟨[.ref a],[]⟩) (λ r s'=>r=.ok (.ret (.bool true))/\OldK s₁.heap s'.heap/\s'.os=s₁.os/\AllBare s'.gens) s₁:=by
  intro H hO hS hok hA hK
  have base_of:∀ {b:Addr}{o:Obj},s₁.heap.get? b=some o->H b=none->(hidT s₁.heap H).get? b=some o:=λ e n=>qg9 e n
  have noA:∀ {b:Addr}{o:Obj}{es:Array DictEntry}{ep:Nat},s₁.heap.get? b=some o->o.data=.dict es ep->H b=none:=λ {b o es ep} e d=>by
   cases q:H b with
   | none=>rfl
   | some u=>
    have e':b=a:=hA b (by rw [q];simp)
    subst e'
    rw [ha] at e;cases e
    have d':Data.seq vs.toArray _=Data.dict es ep:=d
    cases d'
  have nsK:∀ {b:Addr}{m:Str->Option Value},s₁.heap.Ns b m->(hidT s₁.heap H).Ns b m:=λ {b m} ⟨o,es,ep,e,d,r⟩=>⟨o,es,ep,base_of e (noA e d),d,r⟩
  have hKb:K.In (hidT s₁.heap H):=λ b o e=>base_of (KX b o e) (by
   cases q:H b with
   | none=>rfl
   | some u=>
    have e':b=a:=hA b (by rw [q];simp)
    subst e'
    rw [hK (by rw [q];simp)] at e;cases e)
  have hM:Mod K mg (hidT s₁.heap H):=⟨hKb,nsK hns,⟨mb,nsK hb,hbb⟩,let ⟨mc,h1,h2⟩:=hlim;⟨mc,nsK h1,h2⟩⟩
  have e0:Env0 P w K mg (hidT s₁.heap H) callerA [] s₁ H:=⟨rfl,hM,λ b o e=>qk1 e,Nat.le_of_eq (qe0 _ _),trivial,λ b hb=>absurd (show b∈([]:List Addr) from hb) (by simp),hok,.of_eq hg⟩
  refine codeAny_mono ((F _ hKb (nsK hns)).run callerA [] s₁ H ⟨[.ref a],[]⟩ [.ref a] [.ref a] _ _ hr e0 (hbind s₁ (.ref a)) (.cons rfl .nil) (hsp H hO hS)) λ r s' h=>?_
  cases r with
  | error e=>exact (hCX H e s' h).elim
  | ok fl=>
   cases fl with
   | next=>exact False.elim h
   | brk=>exact False.elim h
   | cont=>exact False.elim h
   | ret u=>
    obtain ⟨v,H',os,bare,un,hok',r',q⟩:=h
    have q':v=.bl true:=q
    subst q'
    obtain rfl:u=Value.bool true:=r'
    refine ⟨rfl,OldK.of_keep λ b o e=>?_,os,bare⟩
    cases q:H b with
    | none=>exact un.keep b o e q (by intro z;exact absurd (show b∈([]:List Addr) from z) (by simp)) (by simp)
    | some u=>
     rcases hO b with z | ⟨ob,xs,z⟩
     ·rw [q] at z;cases z
     ·have z2:=un.frzs b ob _ z
      obtain ⟨e1,_⟩:=hok b _ z
      obtain ⟨e2,_⟩:=hok' b _ z2
      rw [e] at e1;cases e1
      exact e2
 cases hk:K.lookup a with
 | some o=>
  have e:=KX a o hk
  rw [ha] at e
  cases e
  refine core (λ _=>none) (λ _=>.inl rfl) (.inr ⟨_,vs.toArray,_,hk,rfl,rfl,rfl,by rw [jb6,lenV];exact hl,by simpa using rv⟩) (λ b u z=>by have z':(none:Option HO)=some u:=z;cases z') (λ b z=>absurd rfl z) λ z=>absurd rfl z
 | none=>
  refine core (λ b=>if b=a then some (.frz { cls:=.type "list",data:=.seq vs.toArray } (.lst (ns.map V.int))) else none) (λ b=>?_) (.inl (.inr ⟨{ cls:=.type "list",data:=.seq vs.toArray },if_pos rfl⟩)) (λ b u z=>?_) (λ b z=>?_) λ _=>hk
  ·by_cases hb:b=a
   ·exact .inr ⟨_,_,if_pos hb⟩
   ·exact .inl (if_neg hb)
  ·by_cases hb:b=a
   ·have z':=(if_pos hb).symm.trans z
    cases z'
    subst hb
    exact ⟨ha,by rw [ja1];exact hl,vs,_,rv,ha⟩
   ·have z':=(if_neg hb).symm.trans z
    cases z'
  ·by_cases hb:b=a
   ·exact hb
   ·exact absurd (if_neg hb) z
def zbv (s:Stmt):Arguments:=match s with
 | .FunctionDef _ a _ _ _ _ _ _ _ _=>a
 | _=>{ posonlyargs:=[],args:=[],vararg:=none,kwonlyargs:=[],kw_defaults:=[],kwarg:=none,defaults:=[] }
def zqk (s:Stmt):List Stmt:=match s with
 | .FunctionDef _ _ b _ _ _ _ _ _ _=>b
 | _=>[]
def zqc (s:Stmt):Scope:=match s with
 | .FunctionDef _ _ _ _ _ _ sc _ _ _=>sc
 | _=>{ kind:=.function,names:=[],isGenerator:=false,isCoroutine:=false }
structure Fun (K:PySem.W.Frag) (x qual:Str) (st:Stmt) (f:Addr) (fd:FuncData):Prop where
 ex:∃ (oc:Value) (od:Option Addr) (kV doc pm:Value) (an:Option Addr) (cdv ct:Value) (osl:Array (Option Value)),
  fd=PySem.W.fnOf x qual (zbv st) (zqk st) (zqc st) .none kV doc pm an cdv ct/\K.lookup f=some ⟨oc,od,.func fd,osl⟩/\PySem.W.codeIn K cdv qual=true
 kp:PySem.W.keepIn K (.ref f)=true
section
variable {P:Program}{w:World}{K:PySem.W.Frag}{mg:Str->Option Value}{base:Heap}
theorem Fun.binds {x qual:Str}{st:Stmt}{f:Addr}{fd:FuncData}{ps:List Str} (F:Fun K x qual st f fd)
  (h:∀ (kV doc pm:Value) (an:Option Addr) (cdv ct:Value) (us:List Value),us.length=ps.length->bindArgs (PySem.W.fnOf x qual (zbv st) (zqk st) (zqc st) .none kV doc pm an cdv ct) ⟨us,[]⟩=pure (ps.zip us)):qaq K fd ps []:=by
 obtain ⟨oc,od,kV,doc,pm,an,cdv,ct,osl,rfl,lk,hcd⟩:=F.ex
 exact .all (h kV doc pm an cdv ct)
theorem qo2 {x qual:Str}{st:Stmt}{f:Addr}{oc:Value}{od an:Option Addr}{osl:Array (Option Value)}{kV doc pm cdv ct:Value} (l:K.lookup f=some ⟨oc,od,.func (PySem.W.fnOf x qual (zbv st) (zqk st) (zqc st) .none kV doc pm an cdv ct),osl⟩)
  (c:PySem.W.codeIn K cdv qual=true) (k:PySem.W.keepIn K (.ref f)=true):Fun K x qual st f (PySem.W.fnOf x qual (zbv st) (zqk st) (zqc st) .none kV doc pm an cdv ct):=⟨⟨oc,od,kV,doc,pm,an,cdv,ct,osl,rfl,l,c⟩,k⟩
end
section
variable {X:Cx}
end
section
variable {κ:Type} [DecidableEq κ]
theorem KV.length {kvs:List (κ×V)}{vs:List (κ×Value)} (r:KV kvs vs):kvs.length=vs.length:=Paired.length r
end
section
variable {P:Program}{w:World}{H:Hp}{h:Heap}{a:Addr}
theorem qpw {u:HO} (ok:HOk P w H h) (e:Rd H a u):zza P w H h a u:=e.ok ok
theorem qqi {kvs:List (Key×V)} (ok:HOk P w H h) (e:Rd H a (.dK kvs)):kvs.length<=sizeLine/\(a == sysModules)=false/\∃ vs,KV kvs vs/\h.DictOf (zvv P w) a vs:=
 show zza P w H h a (.dK kvs) from qpw ok e
theorem qe6 {kvs:List (Key×V)} (ok:HOk P w H h) (e:H a=some (.dK kvs)):kvs.length<=sizeLine/\(a == sysModules)=false/\∃ vs,KV kvs vs/\h.DictOf (zvv P w) a vs:=qqi ok (.inl e)
end
section
variable {X:Cx}{pins:List (Addr×Obj)}{σ:St}{H:Hp}{s:Shared}{a:Addr}{y v:V}{u r:Value}{o:Option V}{A:Around}{E:Value->Shared->Prop}
theorem Inv.big (I:Inv X pins σ H s):sysModules < s.heap.objs.size:=by
 have h:mainGlobals < s.heap.objs.size:=(I.mod.glob.keeps I.bk).lt
 exact jn0 (by decide) h
end
section
variable {X:Cx}{pins:List (Addr×Obj)}{σ:St}{H:Hp}{s:Shared}{a:Addr}{kvs:List (Key×V)}{k:Key}{u:Value}{A:Around}{E:Value->Shared->Prop}
end
section
variable {X:Cx}{o i e value:Expr}{pos pos' tpos:Pos}{td ty tv:TE}
end
theorem qhi {P:Program}{w:World}{H:Hp} (h:Heap) (hb:sysModules < h.objs.size):zza P w H (h.push { cls:=.type "dict",data:=.dict #[] }) h.objs.size (.dT []):=
 ⟨jg2 _,beq_eq_false_iff_ne.mpr (Ne.symm (jc9 hb)),[],.nil,_,#[],0,Heap.get?_push_size _ rfl,⟨rfl,rfl,rfl⟩,rfl,rfl,List.nodup_nil⟩
def qm4:TE:=λ _ H Q=>∀ p,H p=none->Q (.ref p) (upd H p (.dT []))
section
variable {X:Cx}{pos:Pos}
theorem qgt:PE X (.Dict [] [] pos) qm4:=λ pins s σ H Q I h=>
 wpAny_Dict_empty ⟨.ref s.heap.objs.size,_,I.laid (a:=s.heap.objs.size) (o:=.dT []) (t':=s.toks) (λ _ _ q=>Heap.get?_push_of_some _ q) (jb3 _) (qhi s.heap I.big),rfl,h _ (I.hok.fresh (jb3 _))⟩
end
end L2
namespace QQ
open PySem PySem.Spec PyProof.Rows L2
abbrev Frag:=PySem.W.Frag
abbrev St:=L2.St
def KL (K:Frag) (a:Addr) (xs:List V):Prop:=∃ (o:Obj) (its:Array Value) (n:Nat),K.lookup a=some o/\o.cls=.type "list" /\ o.dict=none/\o.data=.seq its n/\its.size<=sizeLine/\Vals xs its.toList
theorem qct {K:Frag}{H:Hp}{a:Addr}{xs:List V} (h:SqL K H a xs):tyV K "list" (.ref a) H:=.inl ⟨rfl,xs,h⟩
def ItS (z:Str):It:=⟨λ i _=>i < z.cps.size,λ i H v H'=>H'=H/\∃ c,z.cps[i]?=some c/\v=.str ⟨#[c]⟩,λ i _=>z.cps.size<=i⟩
def zwy (z:Str):Bool:=z.cps.all (·< 128)
def iSeq (K:Frag) (tl:TE):TI:=λ σ H R=>tl σ H λ x H1=>(∃ a,x=.ref a/\(((∃ xs,SqL K H1 a xs)/\R (Itl K a) H1)\/((∃ xs,SqT K H1 a xs)/\R (Itt K a) H1)))\/∃ z,x=.str z/\zwy z=true/\R (ItS z) H1
def zhs (k:Nat) (wi:TI) (g:TG) (tc:TT) (te:TE):TE:=λ σ H Q=>wi σ H λ J H1=>∀ D,H1 D=none->∃ W:Nat->Nat->List V->Hp->Prop,(∃ m,W 0 m [] (upd H1 D (.lst [])))/\∀ i m ys H,W i m ys H->H D=some (.lst ys) /\
 ((J.stop i H/\Q (.ref D) H)\/(J.go i H/\∀ x H',J.yld i H x H'->g x (σ++ja6 k none) H' λ σ2 H2=>tc σ2 H2 λ b H3=>if b=true then te σ2 H3 λ y H4=>H4 D=some (.lst ys)/\ys.length < sizeLine/\∃ m',m' < m/\W (i + 1) m' (ys++[y]) (upd H4 D (.lst (ys++[y]))) else ∃ m',m' < m/\W (i + 1) m' ys H3))
inductive PV where
 | non | bl (b:Bool) | int (i:Int) | str (x:Str) | lst (xs:List PV) | tup (xs:List PV) | emp | dko | scr (ns:List Int) | dct (kvs:List (List Key×V)) | exn (c:Nat)
 deriving Inhabited
inductive MO where
 | l (xs:List V) | d (kvs:List (List Key×V))
def MO.ho:MO->HO
 | .l xs=>.lst xs
 | .d kvs=>.dT kvs
def XN:List Str:=["PileError","NoBox","NoPile","NoStairs","NoWays","NoRoad","NoNumber","NoPlace","TooMany","NoText","NoName","NoRow"]
def zwu (K:Frag) (c:Nat):Option Addr:=match XN[c]? with
 | some x=>(match PySem.W.nsIn K mainGlobals x with
  | some (some (.ref C))=>some C
  | _=>none)
 | none=>none
def zjg (a C:Addr) (h:Heap):Prop:=∃ o vs,h.get? a=some o/\o.cls=.ref C/\o.data=.fields vs
def om:Nat:=1000
def pd (d:Nat):Nat:=if d=om then om else d - 1
theorem qd3:pd om=om:=rfl
theorem qd2:pd 0=0:=rfl
mutual
def Own (K:Frag) (H:Hp) (Z:Addr->Prop):PV->Nat->V->List Addr->Prop
 | .non,_,v,fp=>v=.non/\fp=[]
 | .bl b,_,v,fp=>v=.bl b/\fp=[]
 | .int i,_,v,fp=>v=.int i/\fp=[]
 | .str x,_,v,fp=>v=.str x/\fp=[]
 | .emp,_,v,fp=>fp=[]/\∃ a,v=.ref a/\H a=some (.dK [])
 | .dko,_,v,fp=>fp=[]/\∃ a,v=.ref a/\∃ kvs,H a=some (.dK kvs)
 | .scr ns,_,v,fp=>fp=[]/\∃ a,v=.ref a/\((∃ o,H a=some (.frz o (.lst (ns.map V.int))))\/KL K a (ns.map V.int))
 | .exn c,_,v,fp=>fp=[]/\∃ a C,v=.ref a/\zwu K c=some C/\H a=some (.ext (zjg a C))
 | .dct kvs,d,v,fp=>∃ a,v=.ref a/\((d=0/\(H a=some (.dT kvs)/\¬ Z a)/\fp=[])\/(d≠0/\H a=some (.dT kvs)/\fp=[a]))
 | .lst xs,d,v,fp=>∃ a vs,v=.ref a/\((d=0/\(H a=some (.lst vs)/\¬ Z a)/\fp=[]/\OwnL K H Z xs 0 vs [])\/(d≠0/\∃ f,H a=some (.lst vs)/\fp=a::f/\a∉f/\OwnL K H Z xs (pd d) vs f))
 | .tup xs,d,v,fp=>∃ a vs,v=.ref a/\H a=some (.tup vs)/\OwnL K H Z xs (pd d) vs fp
def OwnL (K:Frag) (H:Hp) (Z:Addr->Prop):List PV->Nat->List V->List Addr->Prop
 | [],_,vs,fp=>vs=[]/\fp=[]
 | x::xs,d,vs,fp=>∃ v r f1 f2,vs=v::r/\fp=f1++f2/\(∀ a∈f1,a∉f2)/\Own K H Z x d v f1/\OwnL K H Z xs d r f2
end
def Keep (S:Addr->Prop) (H H':Hp):Prop:=∀ a o,H a=some o->¬ S a->H' a=some o
section
variable {K:Frag}{H H':Hp}{Z Z' S:Addr->Prop}
mutual
theorem Own.lsts:∀ (x:PV) (d:Nat) (v:V) (fp:List Addr),Own K H Z x d v fp->∀ a∈fp,∃ o:MO,H a=some o.ho
 | .non,_,_,_,h,a,ha=>by rw [Own] at h;rw [h.2] at ha;cases ha
 | .bl _,_,_,_,h,a,ha=>by rw [Own] at h;rw [h.2] at ha;cases ha
 | .int _,_,_,_,h,a,ha=>by rw [Own] at h;rw [h.2] at ha;cases ha
 | .str _,_,_,_,h,a,ha=>by rw [Own] at h;rw [h.2] at ha;cases ha
 | .emp,_,_,_,h,a,ha=>by rw [Own] at h;rw [h.1] at ha;cases ha
 | .dko,_,_,_,h,a,ha=>by rw [Own] at h;rw [h.1] at ha;cases ha
 | .scr _,_,_,_,h,a,ha=>by rw [Own] at h;rw [h.1] at ha;cases ha
 | .exn _,_,_,_,h,a,ha=>by rw [Own] at h;rw [h.1] at ha;cases ha
 | .dct kvs,d,v,fp,h,a,ha=>by
  rw [Own] at h
  obtain ⟨b,_,⟨_,_,e⟩ | ⟨_,hb,e⟩⟩:=h
  ·rw [e] at ha;cases ha
  ·rw [e] at ha
   rw [jb8.mp ha]
   exact ⟨.d kvs,hb⟩
 | .lst xs,d,v,fp,h,a,ha=>by
  rw [Own] at h
  obtain ⟨b,vs,_,⟨_,_,e,_⟩ | ⟨_,f,hb,e,_,hl⟩⟩:=h
  ·rw [e] at ha;cases ha
  ·rw [e] at ha
   rcases jb0.mp ha with z | z
   ·exact ⟨.l vs,by rw [z];exact hb⟩
   ·exact OwnL.lsts xs _ vs f hl a z
 | .tup xs,d,v,fp,h,a,ha=>by
  rw [Own] at h
  obtain ⟨b,vs,_,_,hl⟩:=h
  exact OwnL.lsts xs _ vs fp hl a ha
theorem OwnL.lsts:∀ (xs:List PV) (d:Nat) (vs:List V) (fp:List Addr),OwnL K H Z xs d vs fp->∀ a∈fp,∃ o:MO,H a=some o.ho
 | [],_,_,_,h,a,ha=>by rw [OwnL] at h;rw [h.2] at ha;cases ha
 | x::xs,d,vs,fp,h,a,ha=>by
  rw [OwnL] at h
  obtain ⟨v,r,f1,f2,_,e,_,h1,h2⟩:=h
  rw [e] at ha
  rcases jc1.mp ha with z | z
  ·exact Own.lsts x d v f1 h1 a z
  ·exact OwnL.lsts xs d r f2 h2 a z
end
mutual
theorem Own.move (k:Keep S H H') (hS:∀ a,S a->Z a/\∃ o:MO,H a=some o.ho) (hz:∀ a,H a≠none->¬ Z a->¬ Z' a):
  ∀ (x:PV) (d:Nat) (v:V) (fp:List Addr),(∀ a∈fp,¬ S a)->Own K H Z x d v fp->Own K H' Z' x d v fp
 | .non,_,_,_,_,h=>by rw [Own] at h ⊢;exact h
 | .bl _,_,_,_,_,h=>by rw [Own] at h ⊢;exact h
 | .int _,_,_,_,_,h=>by rw [Own] at h ⊢;exact h
 | .str _,_,_,_,_,h=>by rw [Own] at h ⊢;exact h
 | .emp,_,_,_,_,h=>by
  rw [Own] at h ⊢
  obtain ⟨e,a,ev,ha⟩:=h
  exact ⟨e,a,ev,k a _ ha λ s=>by obtain ⟨_,o,e⟩:=hS a s;rw [ha] at e;cases o <;> cases e⟩
 | .dko,_,_,_,_,h=>by
  rw [Own] at h ⊢
  obtain ⟨e,a,ev,kvs,ha⟩:=h
  exact ⟨e,a,ev,kvs,k a _ ha λ s=>by obtain ⟨_,o,e⟩:=hS a s;rw [ha] at e;cases o <;> cases e⟩
 | .scr ns,_,_,_,_,h=>by
  rw [Own] at h ⊢
  obtain ⟨e,a,ev,⟨o,ha⟩ | ha⟩:=h
  ·exact ⟨e,a,ev,.inl ⟨o,k a _ ha λ s=>by obtain ⟨_,q,e⟩:=hS a s;rw [ha] at e;cases q <;> cases e⟩⟩
  ·exact ⟨e,a,ev,.inr ha⟩
 | .exn c,_,_,_,_,h=>by
  rw [Own] at h ⊢
  obtain ⟨e,a,C,ev,hc,ha⟩:=h
  exact ⟨e,a,C,ev,hc,k a _ ha λ s=>by obtain ⟨_,q,e⟩:=hS a s;rw [ha] at e;cases q <;> cases e⟩
 | .dct kvs,d,v,fp,hf,h=>by
  rw [Own] at h ⊢
  obtain ⟨b,ev,⟨d0,hr,e⟩ | ⟨d0,hb,e⟩⟩:=h
  ·exact ⟨b,ev,.inl ⟨d0,⟨k b _ hr.1 λ s=>hr.2 (hS b s).1,hz b (by rw [hr.1];simp) hr.2⟩,e⟩⟩
  ·exact ⟨b,ev,.inr ⟨d0,k b _ hb (hf b (by rw [e];exact ja5)),e⟩⟩
 | .lst xs,d,v,fp,hf,h=>by
  rw [Own] at h ⊢
  obtain ⟨b,vs,ev,⟨d0,hr,e,hl⟩ | ⟨d0,f,hb,e,nb,hl⟩⟩:=h
  ·refine ⟨b,vs,ev,.inl ⟨d0,?_,e,OwnL.move k hS hz xs 0 vs [] (λ _ z=>nomatch z) hl⟩⟩
   exact ⟨k b _ hr.1 λ s=>hr.2 (hS b s).1,hz b (by rw [hr.1];simp) hr.2⟩
  ·refine ⟨b,vs,ev,.inr ⟨d0,f,k b _ hb (hf b (by rw [e];exact ja5)),e,nb,?_⟩⟩
   exact OwnL.move k hS hz xs _ vs f (λ a ha=>hf a (by rw [e];exact ja2 _ ha)) hl
 | .tup xs,d,v,fp,hf,h=>by
  rw [Own] at h ⊢
  obtain ⟨b,vs,ev,hr,hl⟩:=h
  exact ⟨b,vs,ev,k b _ hr (λ s=>by obtain ⟨_,o,e⟩:=hS b s;rw [hr] at e;cases o <;> cases e),OwnL.move k hS hz xs _ vs fp hf hl⟩
theorem OwnL.move (k:Keep S H H') (hS:∀ a,S a->Z a/\∃ o:MO,H a=some o.ho) (hz:∀ a,H a≠none->¬ Z a->¬ Z' a):
  ∀ (xs:List PV) (d:Nat) (vs:List V) (fp:List Addr),(∀ a∈fp,¬ S a)->OwnL K H Z xs d vs fp->OwnL K H' Z' xs d vs fp
 | [],_,_,_,_,h=>by rw [OwnL] at h ⊢;exact h
 | x::xs,d,vs,fp,hf,h=>by
  rw [OwnL] at h ⊢
  obtain ⟨v,r,f1,f2,e1,e,dj,h1,h2⟩:=h
  exact ⟨v,r,f1,f2,e1,e,dj,Own.move k hS hz x d v f1 (λ a ha=>hf a (by rw [e];exact ja9 _ ha)) h1,OwnL.move k hS hz xs d r f2 (λ a ha=>hf a (by rw [e];exact ja7 _ ha)) h2⟩
end
mutual
theorem Own.freeze (hz:∀ a,Z' a->Z a):∀ (x:PV) (d:Nat) (v:V) (fp:List Addr),(∀ a∈fp,¬ Z' a)->Own K H Z x d v fp->Own K H Z' x 0 v []
 | .non,_,_,_,_,h=>by rw [Own] at h ⊢;exact ⟨h.1,rfl⟩
 | .bl _,_,_,_,_,h=>by rw [Own] at h ⊢;exact ⟨h.1,rfl⟩
 | .int _,_,_,_,_,h=>by rw [Own] at h ⊢;exact ⟨h.1,rfl⟩
 | .str _,_,_,_,_,h=>by rw [Own] at h ⊢;exact ⟨h.1,rfl⟩
 | .emp,_,_,_,_,h=>by rw [Own] at h ⊢;exact ⟨rfl,h.2⟩
 | .dko,_,_,_,_,h=>by rw [Own] at h ⊢;exact ⟨rfl,h.2⟩
 | .scr _,_,_,_,_,h=>by rw [Own] at h ⊢;exact ⟨rfl,h.2⟩
 | .exn _,_,_,_,_,h=>by rw [Own] at h ⊢;exact ⟨rfl,h.2⟩
 | .dct kvs,d,v,fp,hf,h=>by
  rw [Own] at h ⊢
  obtain ⟨b,ev,⟨d0,hr,e⟩ | ⟨d0,hb,e⟩⟩:=h
  ·exact ⟨b,ev,.inl ⟨rfl,⟨hr.1,λ z=>hr.2 (hz b z)⟩,rfl⟩⟩
  ·exact ⟨b,ev,.inl ⟨rfl,⟨hb,hf b (by rw [e];exact ja5)⟩,rfl⟩⟩
 | .lst xs,d,v,fp,hf,h=>by
  rw [Own] at h ⊢
  obtain ⟨b,vs,ev,⟨d0,hr,e,hl⟩ | ⟨d0,f,hb,e,nb,hl⟩⟩:=h
  ·refine ⟨b,vs,ev,.inl ⟨rfl,?_,rfl,OwnL.freeze hz xs 0 vs [] (λ _ z=>nomatch z) hl⟩⟩
   exact ⟨hr.1,λ z=>hr.2 (hz b z)⟩
  ·exact ⟨b,vs,ev,.inl ⟨rfl,⟨hb,hf b (by rw [e];exact ja5)⟩,rfl,OwnL.freeze hz xs _ vs f (λ a ha=>hf a (by rw [e];exact ja2 _ ha)) hl⟩⟩
 | .tup xs,d,v,fp,hf,h=>by
  rw [Own] at h ⊢
  obtain ⟨b,vs,ev,hr,hl⟩:=h
  exact ⟨b,vs,ev,hr,OwnL.freeze hz xs _ vs fp hf hl⟩
theorem OwnL.freeze (hz:∀ a,Z' a->Z a):∀ (xs:List PV) (d:Nat) (vs:List V) (fp:List Addr),(∀ a∈fp,¬ Z' a)->OwnL K H Z xs d vs fp->OwnL K H Z' xs 0 vs []
 | [],_,_,_,_,h=>by rw [OwnL] at h ⊢;exact ⟨h.1,rfl⟩
 | x::xs,d,vs,fp,hf,h=>by
  rw [OwnL] at h ⊢
  obtain ⟨v,r,f1,f2,e1,e,dj,h1,h2⟩:=h
  exact ⟨v,r,[],[],e1,rfl,λ _ z=>(nomatch z),Own.freeze hz x d v f1 (λ a ha=>hf a (by rw [e];exact ja9 _ ha)) h1,OwnL.freeze hz xs d r f2 (λ a ha=>hf a (by rw [e];exact ja7 _ ha)) h2⟩
end
mutual
theorem Own.full:∀ (x:PV) (v:V) (fp:List Addr),Own K H Z x om v fp->Own K H Z' x om v fp
 | .non,_,_,h=>by rw [Own] at h ⊢;exact h
 | .bl _,_,_,h=>by rw [Own] at h ⊢;exact h
 | .int _,_,_,h=>by rw [Own] at h ⊢;exact h
 | .str _,_,_,h=>by rw [Own] at h ⊢;exact h
 | .emp,_,_,h=>by rw [Own] at h ⊢;exact h
 | .dko,_,_,h=>by rw [Own] at h ⊢;exact h
 | .scr _,_,_,h=>by rw [Own] at h ⊢;exact h
 | .exn _,_,_,h=>by rw [Own] at h ⊢;exact h
 | .dct kvs,v,fp,h=>by
  rw [Own] at h ⊢
  obtain ⟨b,ev,⟨d0,_⟩ | ⟨d0,hb,e⟩⟩:=h
  ·exact absurd d0 (by decide)
  ·exact ⟨b,ev,.inr ⟨d0,hb,e⟩⟩
 | .lst xs,v,fp,h=>by
  rw [Own] at h ⊢
  obtain ⟨b,vs,ev,⟨d0,_⟩ | ⟨d0,f,hb,e,nb,hl⟩⟩:=h
  ·exact absurd d0 (by decide)
  ·exact ⟨b,vs,ev,.inr ⟨d0,f,hb,e,nb,OwnL.full xs vs f hl⟩⟩
 | .tup xs,v,fp,h=>by
  rw [Own] at h ⊢
  obtain ⟨b,vs,ev,hr,hl⟩:=h
  exact ⟨b,vs,ev,hr,OwnL.full xs vs fp hl⟩
theorem OwnL.full:∀ (xs:List PV) (vs:List V) (fp:List Addr),OwnL K H Z xs om vs fp->OwnL K H Z' xs om vs fp
 | [],_,_,h=>by rw [OwnL] at h ⊢;exact h
 | x::xs,vs,fp,h=>by
  rw [OwnL] at h ⊢
  obtain ⟨v,r,f1,f2,e1,e,dj,h1,h2⟩:=h
  exact ⟨v,r,f1,f2,e1,e,dj,Own.full x v f1 h1,OwnL.full xs r f2 h2⟩
end
theorem Own.weak (hz:∀ a,Z' a->Z a) {x:PV}{d:Nat}{v:V}{fp:List Addr} (h:Own K H Z x d v fp):Own K H Z' x d v fp:=
 Own.move (S:=λ _=>False) (λ _ _ h _=>h) (λ _ z=>z.elim) (λ a _ n z=>n (hz a z)) x d v fp (λ _ _ z=>z) h
theorem OwnL.weak (hz:∀ a,Z' a->Z a) {xs:List PV}{d:Nat}{vs:List V}{fp:List Addr} (h:OwnL K H Z xs d vs fp):OwnL K H Z' xs d vs fp:=
 OwnL.move (S:=λ _=>False) (λ _ _ h _=>h) (λ _ z=>z.elim) (λ a _ n z=>n (hz a z)) xs d vs fp (λ _ _ z=>z) h
end
abbrev Slot:=Option (PV×Nat)
abbrev Rho:=List Slot
inductive Rz (α:Type) where
 | ok (a:α) | exc (c:Nat) | no
def Rz.bind {α β:Type} (r:Rz α) (f:α->Rz β):Rz β:=match r with
 | .ok a=>f a
 | .exc c=>.exc c
 | .no=>.no
abbrev Fx:=Rho->Rz (PV×Nat×Rho)
abbrev Fa:=Rho->Rz (List (PV×Nat)×Rho)
abbrev Fb:=Rho->Rz (Bool×Rho)
structure Fm where
 K:Frag
 Ms:Nat->Bool
 Zo:Addr->Prop
 H₀:Hp
 W:St->Nat->Hp->Prop
 io:Option V
 al:Nat->List Nat
 pn:List (Nat×V):=[]
abbrev Fps:=Nat->List Addr
def Fm.Fre (M:Fm) (i:Nat):Prop:=(M.io≠none->i≠0)/\∀ p∈M.pn,p.1≠i
def Zf (M:Fm) (fps:Fps):Addr->Prop:=λ a=>M.Zo a\/∃ i,a∈fps i
def Zv (M:Fm) (vs:List Nat) (fps:Fps):Addr->Prop:=λ a=>M.Zo a\/∃ i,i∉vs/\a∈fps i
def Za (M:Fm) (fps:Fps) (i:Nat):Addr->Prop:=λ a=>M.Zo a\/∃ j,j∉M.al i/\a∈fps j
def Zt (M:Fm) (vs:List Nat) (fps:Fps) (fp:List Addr):Addr->Prop:=λ a=>Zv M vs fps a\/a∈fp
def Fm.plus (M:Fm) (fp:List Addr):Fm:={ M with Zo:=λ a=>M.Zo a\/a∈fp }
structure Rep (M:Fm) (ρ:Rho) (σ:St) (H:Hp) (fps:Fps):Prop where
 own:∀ i x d,ρ[i]?=some (some (x,d))->∃ v,σ[i]?=some (some v)/\Own M.K H (Za M fps i) x d v (fps i)
 non:∀ i,(∀ p,ρ[i]?≠some (some p))->fps i=[]
 dj:∀ i j,i≠j->∀ a∈fps i,a∉fps j
 zo:∀ i,∀ a∈fps i,¬ M.Zo a
 fr:∀ i,M.Ms i=false->∀ a∈fps i,M.H₀ a=none
 zd:∀ a,M.Zo a->H a≠none
 len:ρ.length=σ.length
 msf:∀ i x d,M.Ms i=true->ρ[i]?=some (some (x,d))->d=om
 h0:∀ a,M.H₀ a≠none->H a≠none
 iov:(∀ v,M.io=some v->σ[0]?=some (some v)/\M.Ms 0=true)/\∀ p∈M.pn,σ[p.1]?=some (some p.2)
def Agr (M:Fm) (ρ ρ':Rho):Prop:=(∀ i,M.Ms i=false->ρ'[i]?=ρ[i]?)/\ρ'.length=ρ.length
structure KD (M:Fm) (H:Hp) (fps:Fps) (H':Hp) (fps':Fps):Prop where
 keep:Keep (λ a=>∃ i,M.Ms i=true/\a∈fps i) H H'
 dom:∀ a,H a≠none->H' a≠none
 sub:∀ i,∀ a∈fps' i,a∈fps i\/H a=none
 same:∀ i,M.Ms i=false->fps' i=fps i
def Tmps (K:Frag) (H:Hp) (Z:Addr->Prop):List (PV×Nat)->List V->List Addr->Prop
 | [],vs,fp=>vs=[]/\fp=[]
 | (x,d)::xs,vs,fp=>∃ v r f1 f2,vs=v::r/\fp=f1++f2/\(∀ a∈f1,a∉f2)/\Own K H (λ a=>Z a\/a∈f1) x d v f1/\Tmps K H Z xs r f2
structure Temp (M:Fm) (vs:List Nat) (H:Hp) (H':Hp) (fps':Fps) (fp:List Addr):Prop where
 new:∀ a∈fp,H a=none
 ndj:∀ a∈fp,¬ Zf M fps' a
section
variable {M:Fm}{ρ ρ':Rho}{σ:St}{H H' H'':Hp}{fps fps' fps'':Fps}{vs vs':List Nat}
theorem Agr.refl:Agr M ρ ρ:=⟨λ _ _=>rfl,rfl⟩
theorem Agr.trans {ρ'':Rho} (a:Agr M ρ ρ') (b:Agr M ρ' ρ''):Agr M ρ ρ'':=⟨λ i hi=>(b.1 i hi).trans (a.1 i hi),b.2.trans a.2⟩
theorem KD.refl:KD M H fps H fps:=⟨λ _ _ h _=>h,λ _ h=>h,λ _ _ h=>.inl h,λ _ _=>rfl⟩
theorem KD.trans (a:KD M H fps H' fps') (b:KD M H' fps' H'' fps''):KD M H fps H'' fps'' where
 keep:=λ x o h n=>b.keep x o (a.keep x o h n) λ ⟨i,hi,hx⟩=>(a.sub i x hx).elim (λ z=>n ⟨i,hi,z⟩) λ z=>by rw [z] at h;cases h
 dom:=λ x h=>b.dom x (a.dom x h)
 sub:=λ i x hx=>(b.sub i x hx).elim (λ z=>a.sub i x z) λ z=>.inr (by
  cases e:H x with
  | none=>rfl
  | some o=>exact absurd z (a.dom x (by rw [e];simp)))
 same:=λ i hi=>(b.same i hi).trans (a.same i hi)
theorem Za.zf {i:Nat}{a:Addr} (h:Za M fps i a):Zf M fps a:=h.elim .inl λ ⟨j,_,h⟩=>.inr ⟨j,h⟩
theorem Za.of {i:Nat} (hal:M.al i=[]) {a:Addr} (h:Zf M fps a):Za M fps i a:=h.elim .inl λ ⟨j,h⟩=>.inr ⟨j,(by rw [hal];simp),h⟩
theorem Rep.own0 (r:Rep M ρ σ H fps) (hal:∀ i,M.al i=[]) (i:Nat) (x:PV) (d:Nat) (e:ρ[i]?=some (some (x,d))):∃ v,σ[i]?=some (some v)/\Own M.K H (Zf M fps) x d v (fps i):=
 let ⟨v,h1,h2⟩:=r.own i x d e;⟨v,h1,h2.weak λ _ h=>Za.of (hal i) h⟩
theorem Rep.lsts (r:Rep M ρ σ H fps) {i:Nat}{a:Addr} (h:a∈fps i):∃ o:MO,H a=some o.ho:=by
 by_cases hp:∃ p,ρ[i]?=some (some p)
 ·obtain ⟨⟨x,d⟩,e⟩:=hp
  obtain ⟨v,_,o⟩:=r.own i x d e
  exact Own.lsts x d v _ o a h
 ·rw [r.non i λ p e=>hp ⟨p,e⟩] at h;cases h
theorem Rep.zdom (r:Rep M ρ σ H fps) {a:Addr} (h:Zf M fps a):H a≠none:=by
 rcases h with h | ⟨i,h⟩
 ·exact r.zd a h
 ·obtain ⟨xs,e⟩:=r.lsts h;rw [e];simp
theorem Rep.nz (r:Rep M ρ σ H fps) {a:Addr} (h:H a=none):¬ Zf M fps a:=λ z=>r.zdom z h
theorem Zv.zf {a:Addr} (h:Zv M vs fps a):Zf M fps a:=h.elim .inl λ ⟨i,_,h⟩=>.inr ⟨i,h⟩
theorem Zv.mono (hv:∀ i∈vs',i∈vs) {a:Addr} (h:Zv M vs fps a):Zv M vs' fps a:=h.elim .inl λ ⟨i,n,h⟩=>.inr ⟨i,λ z=>n (hv i z),h⟩
theorem Zt.mono (hv:∀ i∈vs',i∈vs) {a:Addr}{fp:List Addr} (h:Zt M vs fps fp a):Zt M vs' fps fp a:=h.elim (λ h=>.inl (h.mono hv)) .inr
theorem KD.stay (k:KD M H fps H' fps') (r:Rep M ρ σ H fps) (hv:∀ i∈vs,M.Ms i=false) {x:PV}{d:Nat}{v:V}{fp:List Addr} (h:Own M.K H (Zt M vs fps fp) x d v fp) (hf:∀ a∈fp,¬ Zf M fps a):Own M.K H' (Zt M vs fps' fp) x d v fp:=by
 have h1:∀ a,(∃ i,M.Ms i=true/\a∈fps i)->Zt M vs fps fp a/\∃ o:MO,H a=some o.ho:=by
  rintro a ⟨i,hi,ha⟩
  exact ⟨.inl (.inr ⟨i,λ z=>(by rw [hv i z] at hi;cases hi),ha⟩),r.lsts ha⟩
 have h2:∀ a,H a≠none->¬ Zt M vs fps fp a->¬ Zt M vs fps' fp a:=by
  intro a hd nz z
  rcases z with (z | ⟨i,ni,hx⟩) | z
  ·exact nz (.inl (.inl z))
  ·rcases k.sub i a hx with z | z
   ·exact nz (.inl (.inr ⟨i,ni,z⟩))
   ·exact hd z
  ·exact nz (.inr z)
 exact Own.move k.keep h1 h2 x d v fp (λ a ha ⟨i,_,hx⟩=>hf a ha (.inr ⟨i,hx⟩)) h
theorem KD.stays (k:KD M H fps H' fps') (r:Rep M ρ σ H fps) (hv:∀ i∈vs,M.Ms i=false):∀ {xs:List (PV×Nat)}{ws:List V}{fp:List Addr},Tmps M.K H (Zv M vs fps) xs ws fp->(∀ a∈fp,¬ Zf M fps a)->Tmps M.K H' (Zv M vs fps') xs ws fp
 | [],_,_,h,_=>h
 | (x,d)::xs,ws,fp,h,hf=>by
  obtain ⟨v,s,f1,f2,e1,e2,dj,h1,h2⟩:=h
  exact ⟨v,s,f1,f2,e1,e2,dj,k.stay r hv h1 λ a ha=>hf a (by rw [e2];exact ja9 _ ha),k.stays r hv h2 λ a ha=>hf a (by rw [e2];exact ja7 _ ha)⟩
theorem Tmps.weak {K:Frag}{Z Z':Addr->Prop} (hz:∀ a,Z' a->Z a):∀ {xs:List (PV×Nat)}{ws:List V}{fp:List Addr},Tmps K H Z xs ws fp->Tmps K H Z' xs ws fp
 | [],_,_,h=>h
 | (x,d)::xs,ws,fp,h=>by
  obtain ⟨v,s,f1,f2,e1,e2,dj,h1,h2⟩:=h
  exact ⟨v,s,f1,f2,e1,e2,dj,h1.weak λ a h=>h.elim (λ h=>.inl (hz a h)) .inr,h2.weak hz⟩
theorem KD.grow (k:∀ a o,H a=some o->H' a=some o):KD M H fps H' fps:=⟨λ a o h _=>k a o h,λ a h=>by
 cases e:H a with
 | none=>exact absurd e h
 | some o=>rw [k a o e];simp,λ _ _ h=>.inl h,λ _ _=>rfl⟩
theorem Rep.grow (r:Rep M ρ σ H fps) (k:∀ a o,H a=some o->H' a=some o):Rep M ρ σ H' fps where
 own:=λ i x d e=>by
  obtain ⟨v,hv,o⟩:=r.own i x d e
  exact ⟨v,hv,Own.move (S:=λ _=>False) (λ a o h _=>k a o h) (λ _ z=>z.elim) (λ _ _ n=>n) x d v _ (λ _ _ z=>z) o⟩
 non:=r.non
 dj:=r.dj
 zo:=r.zo
 fr:=r.fr
 zd:=λ a h=>(KD.grow (M:=M) (fps:=fps) k).dom a (r.zd a h)
 len:=r.len
 msf:=r.msf
 h0:=λ a h=>(KD.grow (M:=M) (fps:=fps) k).dom a (r.h0 a h)
 iov:=r.iov
end
def tE (M:Fm) (f:Fx) (vs:List Nat):TE:=λ σ H Q=>∃ ρ fps,Rep M ρ σ H fps/\(match f ρ with
 | .ok (x,d,ρ')=>∀ v H' fps' fp,KD M H fps H' fps'->Agr M ρ ρ'->Rep M ρ' σ H' fps'->Own M.K H' (Zt M vs fps' fp) x d v fp->Temp M vs H H' fps' fp->Q v H'
 | .exc c=>∀ H' fps',KD M H fps H' fps'->M.W σ c H'
 | .no=>False)
def tL (M:Fm) (f:Fa) (vs:List Nat):TA:=λ σ H Q=>∃ ρ fps,Rep M ρ σ H fps/\(match f ρ with
 | .ok (xs,ρ')=>∀ ws H' fps' fp,KD M H fps H' fps'->Agr M ρ ρ'->Rep M ρ' σ H' fps'->Tmps M.K H' (Zv M vs fps') xs ws fp->Temp M vs H H' fps' fp->Q ws H'
 | .exc c=>∀ H' fps',KD M H fps H' fps'->M.W σ c H'
 | .no=>False)
def tT (M:Fm) (f:Fb):TT:=λ σ H Q=>∃ ρ fps,Rep M ρ σ H fps/\(match f ρ with
 | .ok (b,ρ')=>∀ H' fps',KD M H fps H' fps'->Agr M ρ ρ'->Rep M ρ' σ H' fps'->Q b H'
 | .exc c=>∀ H' fps',KD M H fps H' fps'->M.W σ c H'
 | .no=>False)
def Leaf (M:Fm) (H:Hp) (fps:Fps) (vs:List Nat) (F:List Addr) (z:PV) (d:Nat) (Q:VK):Prop:=
 ∀ u H' fp,(∀ a o,H a=some o->H' a=some o)->Own M.K H' (Zt M vs fps fp) z d u fp->(∀ a∈fp,a∈F\/H a=none)->Q u H'
section
variable {M:Fm}{ρ ρ':Rho}{σ:St}{H H' H'':Hp}{fps fps' fps'':Fps}{vs vs':List Nat}{f g:Fx}{fa:Fa}{fb:Fb}{Q:VK}
def bC (x:PV):Fx:=λ ρ=>.ok (x,om,ρ)
theorem zjv {x:PV}{v:V} (h:∀ K H Z,Own K H Z x om v []) {σ:St}{H:Hp}{Q:VK} (hq:tE M (bC x) [] σ H Q):tC v σ H Q:=by
 obtain ⟨ρ,fps,rep,q⟩:=hq
 exact q v H fps [] KD.refl Agr.refl rep (h _ _ _) ⟨λ _ z=>(nomatch z),λ _ z=>nomatch z⟩
def dv:PV->Nat
 | .lst _=>0
 | .tup _=>0
 | .dct _=>0
 | _=>om
def bVar (i:Nat):Fx:=λ ρ=>match ρ[i]? with
 | some (some (x,_))=>.ok (x,dv x,ρ)
 | _=>.no
theorem Own.view {K:Frag}{Z Z':Addr->Prop}{x:PV}{d:Nat}{v:V}{fp:List Addr} (hz:∀ a,Z' a->Z a) (hf:∀ a∈fp,¬ Z' a) (h:Own K H Z x d v fp):Own K H Z' x (dv x) v []:=by
 have q:=Own.freeze hz x d v fp hf h
 cases x with
 | lst xs=>exact q
 | tup xs=>exact q
 | dct kvs=>exact q
 | exn _=>rw [Own] at q ⊢;exact q
 | non=>rw [Own] at q ⊢;exact q
 | bl _=>rw [Own] at q ⊢;exact q
 | int _=>rw [Own] at q ⊢;exact q
 | str _=>rw [Own] at q ⊢;exact q
 | emp=>rw [Own] at q ⊢;exact q
 | dko=>rw [Own] at q ⊢;exact q
 | scr _=>rw [Own] at q ⊢;exact q
theorem qie {i:Nat}{σ:St}{H:Hp}{Q:VK} (hq:tE M (bVar i) (i::M.al i) σ H Q):tVar i σ H Q:=by
 obtain ⟨ρ,fps,rep,q⟩:=hq
 unfold bVar at q
 cases e0:ρ[i]? with
 | none=>rw [e0] at q;exact q.elim
 | some sl=>
  cases sl with
  | none=>rw [e0] at q;exact q.elim
  | some p=>
   obtain ⟨x0,d0⟩:=p
   rw [e0] at q
   obtain ⟨v,hv,o⟩:=rep.own i x0 d0 e0
   refine ⟨v,hv,q v H fps [] KD.refl Agr.refl rep ((o.view (Z':=Zv M (i::M.al i) fps) (λ a h=>h.elim .inl λ ⟨j,n,h⟩=>.inr ⟨j,λ z=>n (ja2 _ z),h⟩) λ a ha z=>?_).weak λ a h=>h.elim id λ z=>nomatch z) ⟨λ _ z=>(nomatch z),λ _ z=>nomatch z⟩⟩
   rcases z with z | ⟨j,nj,hj⟩
   ·exact rep.zo i a ha z
   ·exact rep.dj i j (λ e=>nj (by simp [e])) a ha hj
def bBin (op:PV->Nat->PV->Nat->Option (PV×Nat)) (f g:Fx):Fx:=λ ρ=>(f ρ).bind λ (x,d,ρ1)=>(g ρ1).bind λ (y,e,ρ2)=>match op x d y e with
 | some (z,c)=>.ok (z,c,ρ2)
 | none=>.no
theorem zzs {op:PV->Nat->PV->Nat->Option (PV×Nat)}{r:R2} (hv:∀ i∈vs,M.Ms i=false)
  (leaf:∀ x d y e z c v w H fps f1 f2 Q,op x d y e=some (z,c)->Own M.K H (Zt M (vs++vs') fps f1) x d v f1->Own M.K H (Zt M (vs++vs') fps f2) y e w f2->(∀ a∈f1,a∉f2)->(∀ a∈f1++f2,¬ Zf M fps a)->(∀ a,Zf M fps a->H a≠none)->Leaf M H fps (vs++vs') (f1++f2) z c Q->r v w H Q)
  {σ:St}{H:Hp}{Q:VK} (hq:tE M (bBin op f g) (vs++vs') σ H Q):tOp r (tE M f vs) (tE M g vs') σ H Q:=by
 obtain ⟨ρ,fps,rep,q⟩:=hq
 refine ⟨ρ,fps,rep,?_⟩
 unfold bBin at q
 cases ef:f ρ with
 | no=>rw [ef] at q;exact q
 | exc c=>rw [ef] at q;exact q
 | ok p=>
  obtain ⟨x,d,ρ1⟩:=p
  rw [ef] at q
  intro v H1 fps1 f1 k1 g1 rep1 o1 t1
  refine ⟨ρ1,fps1,rep1,?_⟩
  dsimp only [Rz.bind] at q
  cases eg:g ρ1 with
  | no=>rw [eg] at q;exact q
  | exc c=>rw [eg] at q;exact λ H' fps' k=>q H' fps' (k1.trans k)
  | ok p2=>
   obtain ⟨y,e,ρ2⟩:=p2
   rw [eg] at q
   intro w H2 fps2 f2 k2 g2 rep2 o2 t2
   dsimp only at q
   cases eo:op x d y e with
   | none=>rw [eo] at q;exact q.elim
   | some zc=>
    obtain ⟨z,c⟩:=zc
    rw [eo] at q
    have o1':=k2.stay rep1 hv o1 t1.ndj
    have n1:∀ a∈f1,¬ Zf M fps2 a:=λ a ha z=>by
     rcases z with z | ⟨i,z⟩
     ·exact t1.ndj a ha (.inl z)
     ·rcases k2.sub i a z with z | z
      ·exact t1.ndj a ha (.inr ⟨i,z⟩)
      ·obtain ⟨xs,e⟩:=Own.lsts x d v f1 o1 a ha
       rw [z] at e;cases e
    refine leaf x d y e z c v w H2 fps2 f1 f2 Q eo (o1'.weak λ a h=>Zt.mono (λ i hi=>ja9 _ hi) h) (o2.weak λ a h=>Zt.mono (λ i hi=>ja7 _ hi) h) (λ a h1 h2=>?_) (λ a ha=>?_) (λ a h=>rep2.zdom h) λ u H3 fp k3 o3 hfp=>?_
    ·obtain ⟨xs,e⟩:=Own.lsts x d v f1 o1 a h1
     rw [t2.new a h2] at e;cases e
    ·rcases jc1.mp ha with z | z
     ·exact n1 a z
     ·exact t2.ndj a z
    ·have new:∀ a∈fp,H a=none:=λ a ha=>by
      have back:H1 a=none->H a=none:=λ e=>by
       cases e':H a with
       | none=>rfl
       | some o=>exact absurd e (k1.dom a (by rw [e'];simp))
      have back2:H2 a=none->H1 a=none:=λ e=>by
       cases e':H1 a with
       | none=>rfl
       | some o=>exact absurd e (k2.dom a (by rw [e'];simp))
      rcases hfp a ha with z | z
      ·rcases jc1.mp z with z | z
       ·exact t1.new a z
       ·exact back (t2.new a z)
      ·exact back (back2 z)
     refine q u H3 fps2 fp ((k1.trans k2).trans (KD.grow k3)) (g1.trans g2) (rep2.grow k3) o3 ⟨new,λ a ha=>?_⟩
     rcases hfp a ha with z | z
     ·rcases jc1.mp z with z | z
      ·exact n1 a z
      ·exact t2.ndj a z
     ·exact rep2.nz z
end
section
variable {M:Fm}{vs vs':List Nat}{f g:Fx}{fa:Fa}{fb gb:Fb}
def bUn (op:PV->Nat->Option (PV×Nat)) (f:Fx):Fx:=λ ρ=>(f ρ).bind λ (x,d,ρ1)=>match op x d with
 | some (z,c)=>.ok (z,c,ρ1)
 | none=>.no
theorem zhr {op:PV->Nat->Option (PV×Nat)}{r:V->Hp->VK->Prop}
  (leaf:∀ x d z c v H fps f1 Q,op x d=some (z,c)->Own M.K H (Zt M vs fps f1) x d v f1->(∀ a∈f1,¬ Zf M fps a)->(∀ a,Zf M fps a->H a≠none)->Leaf M H fps vs f1 z c Q->r v H Q)
  {σ:St}{H:Hp}{Q:VK} (hq:tE M (bUn op f) vs σ H Q):tUn r (tE M f vs) σ H Q:=by
 obtain ⟨ρ,fps,rep,q⟩:=hq
 refine ⟨ρ,fps,rep,?_⟩
 unfold bUn at q
 cases ef:f ρ with
 | no=>rw [ef] at q;exact q
 | exc c=>rw [ef] at q;exact q
 | ok p=>
  obtain ⟨x,d,ρ1⟩:=p
  rw [ef] at q
  intro v H1 fps1 f1 k1 g1 rep1 o1 t1
  dsimp only [Rz.bind] at q
  cases eo:op x d with
  | none=>rw [eo] at q;exact q.elim
  | some zc=>
   obtain ⟨z,c⟩:=zc
   rw [eo] at q
   refine leaf x d z c v H1 fps1 f1 Q eo o1 t1.ndj (λ a h=>rep1.zdom h) λ u H3 fp k3 o3 hfp=>?_
   have back:∀ a,H1 a=none->H a=none:=λ a e=>by
    cases e':H a with
    | none=>rfl
    | some o=>exact absurd e (k1.dom a (by rw [e'];simp))
   refine q u H3 fps1 fp (k1.trans (KD.grow k3)) g1 (rep1.grow k3) o3 ⟨λ a ha=>(hfp a ha).elim (t1.new a) (back a),λ a ha=>(hfp a ha).elim (t1.ndj a) λ z=>rep1.nz z⟩
def aNil:Fa:=λ ρ=>.ok ([],ρ)
def zqa (f:Fx) (fa:Fa):Fa:=λ ρ=>(f ρ).bind λ (x,d,ρ1)=>(fa ρ1).bind λ (xs,ρ2)=>.ok ((x,d)::xs,ρ2)
theorem qm1 {σ:St}{H:Hp}{Q:List V->Hp->Prop} (hq:tL M aNil [] σ H Q):tNil σ H Q:=by
 obtain ⟨ρ,fps,rep,q⟩:=hq
 exact q [] H fps [] KD.refl Agr.refl rep ⟨rfl,rfl⟩ ⟨λ _ z=>(nomatch z),λ _ z=>nomatch z⟩
theorem qjp (hv:∀ i∈vs,M.Ms i=false) {σ:St}{H:Hp}{Q:List V->Hp->Prop} (hq:tL M (zqa f fa) (vs++vs') σ H Q):qc7 (tE M f vs) (tL M fa vs') σ H Q:=by
 obtain ⟨ρ,fps,rep,q⟩:=hq
 refine ⟨ρ,fps,rep,?_⟩
 unfold zqa at q
 cases ef:f ρ with
 | no=>rw [ef] at q;exact q
 | exc c=>rw [ef] at q;exact q
 | ok p=>
  obtain ⟨x,d,ρ1⟩:=p
  rw [ef] at q
  intro v H1 fps1 f1 k1 g1 rep1 o1 t1
  refine ⟨ρ1,fps1,rep1,?_⟩
  dsimp only [Rz.bind] at q
  cases eg:fa ρ1 with
  | no=>rw [eg] at q;exact q
  | exc c=>rw [eg] at q;exact λ H' fps' k=>q H' fps' (k1.trans k)
  | ok p2=>
   obtain ⟨ys,ρ2⟩:=p2
   rw [eg] at q
   intro ws H2 fps2 f2 k2 g2 rep2 o2 t2
   dsimp only at q
   have o1':=k2.stay rep1 hv o1 t1.ndj
   have n1:∀ a∈f1,¬ Zf M fps2 a:=λ a ha z=>by
    rcases z with z | ⟨i,z⟩
    ·exact t1.ndj a ha (.inl z)
    ·rcases k2.sub i a z with z | z
     ·exact t1.ndj a ha (.inr ⟨i,z⟩)
     ·obtain ⟨xs,e⟩:=Own.lsts x d v f1 o1 a ha
      rw [z] at e;cases e
   have back:∀ a,H1 a=none->H a=none:=λ a e=>by
    cases e':H a with
    | none=>rfl
    | some o=>exact absurd e (k1.dom a (by rw [e'];simp))
   refine q (v::ws) H2 fps2 (f1++f2) (k1.trans k2) (g1.trans g2) rep2 ⟨v,ws,f1,f2,rfl,rfl,λ a h1 h2=>?_,o1'.weak λ a h=>Zt.mono (λ i hi=>ja9 _ hi) h,o2.weak λ a h=>h.mono λ i hi=>ja7 _ hi⟩ ⟨λ a ha=>?_,λ a ha=>?_⟩
   ·obtain ⟨xs,e⟩:=Own.lsts x d v f1 o1 a h1
    rw [t2.new a h2] at e;cases e
   ·rcases jc1.mp ha with z | z
    ·exact t1.new a z
    ·exact back a (t2.new a z)
   ·rcases jc1.mp ha with z | z
    ·exact n1 a z
    ·exact t2.ndj a z
def zqb (op:List (PV×Nat)->Option (PV×Nat)) (fa:Fa):Fx:=λ ρ=>(fa ρ).bind λ (xs,ρ1)=>match op xs with
 | some (z,c)=>.ok (z,c,ρ1)
 | none=>.no
theorem zmj {op:List (PV×Nat)->Option (PV×Nat)}{r:List V->Hp->VK->Prop}
  (leaf:∀ xs z c ws H fps fp Q,op xs=some (z,c)->Tmps M.K H (Zv M vs fps) xs ws fp->(∀ a∈fp,¬ Zf M fps a)->(∀ a,Zf M fps a->H a≠none)->Leaf M H fps vs fp z c Q->r ws H Q)
  {σ:St}{H:Hp}{Q:VK} (hq:tE M (zqb op fa) vs σ H Q):tL M fa vs σ H λ ws H1=>r ws H1 Q:=by
 obtain ⟨ρ,fps,rep,q⟩:=hq
 refine ⟨ρ,fps,rep,?_⟩
 unfold zqb at q
 cases ef:fa ρ with
 | no=>rw [ef] at q;exact q
 | exc c=>rw [ef] at q;exact q
 | ok p=>
  obtain ⟨xs,ρ1⟩:=p
  rw [ef] at q
  intro ws H1 fps1 f1 k1 g1 rep1 o1 t1
  dsimp only [Rz.bind] at q
  cases eo:op xs with
  | none=>rw [eo] at q;exact q.elim
  | some zc=>
   obtain ⟨z,c⟩:=zc
   rw [eo] at q
   refine leaf xs z c ws H1 fps1 f1 Q eo o1 t1.ndj (λ a h=>rep1.zdom h) λ u H3 fp k3 o3 hfp=>?_
   have back:∀ a,H1 a=none->H a=none:=λ a e=>by
    cases e':H a with
    | none=>rfl
    | some o=>exact absurd e (k1.dom a (by rw [e'];simp))
   refine q u H3 fps1 fp (k1.trans (KD.grow k3)) g1 (rep1.grow k3) o3 ⟨λ a ha=>(hfp a ha).elim (t1.new a) (back a),λ a ha=>(hfp a ha).elim (t1.ndj a) λ z=>rep1.nz z⟩
def bT (f:Fx):Fb:=λ ρ=>(f ρ).bind λ (x,_,ρ1)=>match x with
 | .bl b=>.ok (b,ρ1)
 | _=>.no
theorem qcx {σ:St}{H:Hp}{Q:Bool->Hp->Prop} (hq:tT M (bT f) σ H Q):tB (tE M f vs) σ H Q:=by
 obtain ⟨ρ,fps,rep,q⟩:=hq
 refine ⟨ρ,fps,rep,?_⟩
 unfold bT at q
 cases ef:f ρ with
 | no=>rw [ef] at q;exact q
 | exc c=>rw [ef] at q;exact q
 | ok p=>
  obtain ⟨x,d,ρ1⟩:=p
  rw [ef] at q
  intro v H1 fps1 f1 k1 g1 rep1 o1 t1
  dsimp only [Rz.bind] at q
  cases x with
  | bl b=>
   rw [Own] at o1
   exact ⟨b,o1.1,q H1 fps1 k1 g1 rep1⟩
  | _=>exact q.elim
def bV (f:Fb):Fx:=λ ρ=>(f ρ).bind λ (b,ρ1)=>.ok (.bl b,om,ρ1)
def bAnd (f g:Fb):Fb:=λ ρ=>(f ρ).bind λ (b,ρ1)=>if b=true then g ρ1 else .ok (false,ρ1)
def bOr (f g:Fb):Fb:=λ ρ=>(f ρ).bind λ (b,ρ1)=>if b=true then .ok (true,ρ1) else g ρ1
def bNot (f:Fb):Fb:=λ ρ=>(f ρ).bind λ (b,ρ1)=>.ok (!b,ρ1)
theorem qmo {σ:St}{H:Hp}{Q:Bool->Hp->Prop} (hq:tT M (bAnd fb gb) σ H Q):tAnd (tT M fb) (tT M gb) σ H Q:=by
 obtain ⟨ρ,fps,rep,q⟩:=hq
 refine ⟨ρ,fps,rep,?_⟩
 unfold bAnd at q
 cases ef:fb ρ with
 | no=>rw [ef] at q;exact q
 | exc c=>rw [ef] at q;exact q
 | ok p=>
  obtain ⟨b,ρ1⟩:=p
  rw [ef] at q
  intro H1 fps1 k1 g1 rep1
  dsimp only [Rz.bind] at q
  cases b with
  | false=>exact (q H1 fps1 k1 g1 rep1)
  | true=>
   refine ⟨ρ1,fps1,rep1,?_⟩
   rw [if_pos rfl] at q
   cases eg:gb ρ1 with
   | no=>rw [eg] at q;exact q
   | exc c=>rw [eg] at q;exact λ H' fps' k=>q H' fps' (k1.trans k)
   | ok p2=>rw [eg] at q;exact λ H' fps' k g r=>q H' fps' (k1.trans k) (g1.trans g) r
theorem qpp {σ:St}{H:Hp}{Q:Bool->Hp->Prop} (hq:tT M (bOr fb gb) σ H Q):tOr (tT M fb) (tT M gb) σ H Q:=by
 obtain ⟨ρ,fps,rep,q⟩:=hq
 refine ⟨ρ,fps,rep,?_⟩
 unfold bOr at q
 cases ef:fb ρ with
 | no=>rw [ef] at q;exact q
 | exc c=>rw [ef] at q;exact q
 | ok p=>
  obtain ⟨b,ρ1⟩:=p
  rw [ef] at q
  intro H1 fps1 k1 g1 rep1
  dsimp only [Rz.bind] at q
  cases b with
  | true=>exact (q H1 fps1 k1 g1 rep1)
  | false=>
   refine ⟨ρ1,fps1,rep1,?_⟩
   rw [if_neg jc5] at q
   cases eg:gb ρ1 with
   | no=>rw [eg] at q;exact q
   | exc c=>rw [eg] at q;exact λ H' fps' k=>q H' fps' (k1.trans k)
   | ok p2=>rw [eg] at q;exact λ H' fps' k g r=>q H' fps' (k1.trans k) (g1.trans g) r
theorem qmn {σ:St}{H:Hp}{Q:Bool->Hp->Prop} (hq:tT M (bNot fb) σ H Q):tNot (tT M fb) σ H Q:=by
 obtain ⟨ρ,fps,rep,q⟩:=hq
 refine ⟨ρ,fps,rep,?_⟩
 unfold bNot at q
 cases ef:fb ρ with
 | no=>rw [ef] at q;exact q
 | exc c=>rw [ef] at q;exact q
 | ok p=>obtain ⟨b,ρ1⟩:=p;rw [ef] at q;exact q
theorem Tmps.all {K:Frag}{H:Hp}{Z:Addr->Prop}:∀ {xs:List (PV×Nat)}{ws:List V}{fp:List Addr},Tmps K H Z xs ws fp->(∀ p∈xs,p.2=om)->OwnL K H Z (xs.map (·.1)) om ws fp
 | [],_,_,h,_=>by rw [jm9,OwnL];exact h
 | (x,d)::xs,ws,fp,h,ha=>by
  obtain ⟨v,s,f1,f2,e1,e2,dj,h1,h2⟩:=h
  have e:d=om:=ha (x,d) ja5
  subst e
  rw [jd5,OwnL]
  exact ⟨v,s,f1,f2,e1,e2,dj,Own.full x v f1 h1,h2.all λ p hp=>ha p (ja2 _ hp)⟩
theorem Tmps.cold {K:Frag}{H:Hp}{Z:Addr->Prop}:∀ {xs:List (PV×Nat)}{ws:List V}{fp:List Addr},Tmps K H Z xs ws fp->(∀ a∈fp,¬ Z a)->OwnL K H Z (xs.map (·.1)) 0 ws []
 | [],_,_,h,_=>by rw [jm9,OwnL];exact ⟨h.1,rfl⟩
 | (x,d)::xs,ws,fp,h,ha=>by
  obtain ⟨v,s,f1,f2,e1,e2,dj,h1,h2⟩:=h
  rw [jd5,OwnL]
  exact ⟨v,s,[],[],e1,rfl,λ _ z=>(nomatch z),Own.freeze (λ _ z=>.inl z) x d v f1 (λ a z=>ha a (by rw [e2];exact ja9 _ z)) h1,h2.cold λ a z=>ha a (by rw [e2];exact ja7 _ z)⟩
theorem Tmps.length {K:Frag}{H:Hp}{Z:Addr->Prop}:∀ {xs:List (PV×Nat)}{ws:List V}{fp:List Addr},Tmps K H Z xs ws fp->ws.length=xs.length
 | [],_,_,h=>by rw [h.1];rfl
 | (x,d)::xs,ws,fp,h=>by
  obtain ⟨v,s,f1,f2,e1,e2,dj,h1,h2⟩:=h
  rw [e1,jb1,jb1,h2.length]
theorem OwnL.length {K:Frag}{H:Hp}{Z:Addr->Prop}:∀ {xs:List PV}{d:Nat}{ws:List V}{fp:List Addr},OwnL K H Z xs d ws fp->ws.length=xs.length
 | [],_,_,_,h=>by rw [OwnL] at h;rw [h.1];rfl
 | x::xs,d,ws,fp,h=>by
  rw [OwnL] at h
  obtain ⟨v,s,f1,f2,e1,e2,dj,h1,h2⟩:=h
  rw [e1,jb1,jb1,h2.length]
end
inductive Rs where
 | nx (ρ:Rho) | rt (x:PV) (d:Nat) (ρ:Rho) | bk (ρ:Rho) | ct (ρ:Rho) | exc (c:Nat) | no
abbrev Fs:=Rho->Rs
structure KS (M:Fm) (H:Hp) (fps:Fps) (H':Hp) (fps':Fps):Prop where
 keep:Keep (λ a=>∃ i,a∈fps i) H H'
 dom:∀ a,H a≠none->H' a≠none
 sub:∀ i,∀ a∈fps' i,(∃ j,a∈fps j)\/H a=none
def Zr (M:Fm) (fps:Fps):Addr->Prop:=λ a=>M.Zo a\/(M.io≠none/\a∈fps 0)
def RsOk (M:Fm) (D:Ends) (H:Hp) (fps:Fps):Rs->Prop
 | .nx ρ'=>∀ σ' H' fps',KS M H fps H' fps'->Rep M ρ' σ' H' fps'->D.nx σ' H'
 | .bk ρ'=>∀ σ' H' fps',KS M H fps H' fps'->Rep M ρ' σ' H' fps'->D.bk σ' H'
 | .ct ρ'=>∀ σ' H' fps',KS M H fps H' fps'->Rep M ρ' σ' H' fps'->D.ct σ' H'
 | .rt x d ρ'=>∀ v σ' H' fps' fp,KS M H fps H' fps'->Rep M ρ' σ' H' fps'->Own M.K H' (λ a=>Zr M fps' a\/a∈fp) x d v fp->(∀ a∈fp,M.H₀ a=none/\¬ Zr M fps' a)->D.rt v H'
 | .exc c=>∀ σ' H' fps',KS M H fps H' fps'->M.W σ' c H'
 | .no=>False
def tS (M:Fm) (f:Fs):TS:=λ D σ H=>∃ ρ fps,Rep M ρ σ H fps/\RsOk M D H fps (f ρ)
section
variable {M:Fm}{ρ ρ':Rho}{σ σ':St}{H H' H'':Hp}{fps fps' fps'':Fps}{vs vs':List Nat}
theorem KS.refl:KS M H fps H fps:=⟨λ _ _ h _=>h,λ _ h=>h,λ i _ h=>.inl ⟨i,h⟩⟩
theorem KD.ks (k:KD M H fps H' fps'):KS M H fps H' fps':=⟨λ a o h n=>k.keep a o h λ ⟨i,_,z⟩=>n ⟨i,z⟩,k.dom,λ i a h=>(k.sub i a h).elim (λ z=>.inl ⟨i,z⟩) .inr⟩
theorem KS.trans (a:KS M H fps H' fps') (b:KS M H' fps' H'' fps''):KS M H fps H'' fps'' where
 keep:=λ x o h n=>b.keep x o (a.keep x o h n) λ ⟨i,hx⟩=>(a.sub i x hx).elim (λ z=>n z) λ z=>by rw [z] at h;cases h
 dom:=λ x h=>b.dom x (a.dom x h)
 sub:=λ i x hx=>(b.sub i x hx).elim (λ ⟨j,z⟩=>a.sub j x z) λ z=>.inr (by
  cases e:H x with
  | none=>rfl
  | some o=>exact absurd z (a.dom x (by rw [e];simp)))
theorem KS.stay0 (k:KS M H fps H' fps') (r:Rep M ρ σ H fps) {x:PV}{v:V} (h:Own M.K H (Zf M fps) x 0 v []):Own M.K H' (Zf M fps') x 0 v []:=by
 refine Own.move k.keep (λ a ⟨i,ha⟩=>⟨.inr ⟨i,ha⟩,r.lsts ha⟩) ?_ x 0 v [] (λ _ z=>nomatch z) h
 intro a hd nz z
 rcases z with z | ⟨i,hx⟩
 ·exact nz (.inl z)
 ·rcases k.sub i a hx with z | z
  ·exact nz (.inr z)
  ·exact hd z
def sNil:Fs:=λ ρ=>.nx ρ
def sSeq (f g:Fs):Fs:=λ ρ=>match f ρ with
 | .nx ρ1=>g ρ1
 | r=>r
theorem qmt {D:Ends} (hq:tS M sNil D σ H):qm0 D σ H:=by
 obtain ⟨ρ,fps,rep,q⟩:=hq
 exact q σ H fps KS.refl rep
def sIf (c:Fb) (f g:Fs):Fs:=λ ρ=>match c ρ with
 | .ok (b,ρ1)=>if b=true then f ρ1 else g ρ1
 | .exc e=>.exc e
 | .no=>.no
theorem RsOk.from {D:Ends}{r:Rs} (k1:KS M H fps H' fps') (q:RsOk M D H fps r):RsOk M D H' fps' r:=by
 cases r with
 | no=>exact q
 | exc c=>exact λ σ' H' fps' k=>q σ' H' fps' (k1.trans k)
 | rt x d ρ2=>exact λ v σ' H' fps' fp k=>q v σ' H' fps' fp (k1.trans k)
 | bk ρ2=>exact λ σ' H' fps' k=>q σ' H' fps' (k1.trans k)
 | ct ρ2=>exact λ σ' H' fps' k=>q σ' H' fps' (k1.trans k)
 | nx ρ2=>exact λ σ' H' fps' k=>q σ' H' fps' (k1.trans k)
theorem qmr {f g:Fs}{D:Ends} (hq:tS M (sSeq f g) D σ H):tSeq (tS M f) (tS M g) D σ H:=by
 obtain ⟨ρ,fps,rep,q⟩:=hq
 refine ⟨ρ,fps,rep,?_⟩
 unfold sSeq at q
 cases ef:f ρ with
 | no=>rw [ef] at q;exact q
 | exc c=>rw [ef] at q;exact q
 | rt x d ρ1=>rw [ef] at q;exact q
 | bk ρ1=>rw [ef] at q;exact q
 | ct ρ1=>rw [ef] at q;exact q
 | nx ρ1=>
  rw [ef] at q
  exact λ σ1 H1 fps1 k1 rep1=>⟨ρ1,fps1,rep1,RsOk.from k1 q⟩
theorem qpq {c:Fb}{f g:Fs}{D:Ends} (hq:tS M (sIf c f g) D σ H):tIfS (tT M c) (tS M f) (tS M g) D σ H:=by
 obtain ⟨ρ,fps,rep,q⟩:=hq
 refine ⟨ρ,fps,rep,?_⟩
 unfold sIf at q
 cases ef:c ρ with
 | no=>rw [ef] at q;exact q
 | exc c=>rw [ef] at q;exact λ H' fps' k=>q _ H' fps' k.ks
 | ok p=>
  obtain ⟨b,ρ1⟩:=p
  rw [ef] at q
  intro H1 fps1 k1 g1 rep1
  dsimp only at q
  cases b with
  | true=>
   rw [if_pos rfl] at q ⊢
   exact ⟨ρ1,fps1,rep1,RsOk.from k1.ks q⟩
  | false=>
   rw [if_neg jc5] at q ⊢
   exact ⟨ρ1,fps1,rep1,RsOk.from k1.ks q⟩
def cool (vs:List Nat):Nat->Rho->Rho
 | _,[]=>[]
 | k,s::r=>(if vs.contains k then s.map λ p=>(p.1,0) else s)::cool vs (k + 1) r
def zqs (d:Nat) (vs:List Nat) (ρ:Rho):Rho:=if d=om then ρ else cool vs 0 ρ
theorem zjp (vs:List Nat):∀ (ρ:Rho) (k i:Nat),(cool vs k ρ)[i]?=(ρ[i]?).map λ s=>if vs.contains (k + i) then s.map λ p=>(p.1,0) else s
 | [],k,i=>by simp [cool]
 | s::r,k,0=>by simp [cool]
 | s::r,k,i + 1=>by
  rw [cool,jh5,zjp vs r (k + 1) i,jh5]
  have:k + 1 + i=k + (i + 1):=by omega
  rw [this]
theorem zfn (vs:List Nat):∀ (ρ:Rho) (k:Nat),(cool vs k ρ).length=ρ.length
 | [],_=>rfl
 | s::r,k=>by rw [cool,jb1,zfn vs r (k + 1),jb1]
def zkq (vs:List Nat) (fps:Fps):Fps:=λ i=>if vs.contains i then [] else fps i
theorem zwa {a:Addr}{i:Nat} (h:a∈zkq vs fps i):a∈fps i/\i∉vs:=by
 unfold zkq at h
 split at h
 ·cases h
 ·rename_i n;exact ⟨h,λ z=>n (by simpa using z)⟩
theorem zvz {a:Addr} (h:Zf M (zkq vs fps) a):Zv M vs fps a:=h.elim .inl λ ⟨i,z⟩=>.inr ⟨i,(zwa z).2,(zwa z).1⟩
theorem Rep.cool (r:Rep M ρ σ H fps) (hal:∀ i,M.al i=[]) (hv:∀ i∈vs,M.Ms i=false):Rep M (cool vs 0 ρ) σ H (zkq vs fps) where
 own:=λ i x d e=>by
  rw [zjp] at e
  cases e1:ρ[i]? with
  | none=>rw [e1] at e;cases e
  | some s=>
   rw [e1] at e
   simp only [jj0,ji8] at e
   by_cases hc:vs.contains i=true
   ·rw [if_pos hc] at e
    cases s with
    | none=>cases e
    | some p=>
     obtain ⟨x0,d0⟩:=p
     simp only [jj0,Option.some.injEq,Prod.mk.injEq] at e
     obtain ⟨rfl,rfl⟩:=e
     obtain ⟨v,hσ,o⟩:=r.own0 hal i x0 d0 e1
     refine ⟨v,hσ,Own.weak (Z:=Zf M (zkq vs fps)) (λ a h=>h.zf) ?_⟩
     have:zkq vs fps i=[]:=by unfold zkq;rw [if_pos hc]
     rw [this]
     exact Own.freeze (λ a h=>Zv.zf (zvz h)) x0 d0 v _ (λ a ha z=>by
      rcases z with z | ⟨j,z⟩
      ·exact r.zo i a ha z
      ·obtain ⟨z1,z2⟩:=zwa z
       exact r.dj i j (λ e=>z2 (by rw [<- e];simpa using hc)) a ha z1) o
   ·rw [if_neg hc] at e
    cases e
    obtain ⟨v,hσ,o⟩:=r.own0 hal i x d e1
    refine ⟨v,hσ,Own.weak (Z:=Zf M (zkq vs fps)) (λ a h=>h.zf) ?_⟩
    have:zkq vs fps i=fps i:=by unfold zkq;rw [if_neg hc]
    rw [this]
    exact o.weak λ a h=>Zv.zf (zvz h)
 non:=λ i h=>by
  unfold zkq
  split
  ·rfl
  ·rename_i hc
   refine r.non i λ p e=>h p ?_
   rw [zjp,e]
   simp only [jj0,ji8]
   rw [if_neg hc]
 dj:=λ i j hij a ha hb=>r.dj i j hij a (zwa ha).1 (zwa hb).1
 zo:=λ i a ha=>r.zo i a (zwa ha).1
 fr:=λ i hi a ha=>r.fr i hi a (zwa ha).1
 zd:=r.zd
 len:=by rw [zfn];exact r.len
 msf:=λ i x d hi e=>by
  rw [zjp] at e
  cases e1:ρ[i]? with
  | none=>rw [e1] at e;cases e
  | some s=>
   rw [e1] at e
   simp only [jj0,ji8] at e
   have hc:¬ vs.contains i=true:=λ z=>by rw [hv i (by simpa using z)] at hi;cases hi
   rw [if_neg hc] at e
   cases e
   exact r.msf i x d hi e1
 h0:=r.h0
 iov:=r.iov
theorem KS.cool (k:KS M H fps H' fps'):KS M H fps H' (zkq vs fps'):=⟨k.keep,k.dom,λ i a h=>k.sub i a (zwa h).1⟩
theorem Rep.wide {fp:List Addr} (hal:∀ i,∀ j∈M.al i,M.Ms j=false) (r:Rep M ρ σ H fps) (k:KD M H fps H' fps') (g:Agr M ρ ρ') (r':Rep M ρ' σ H' fps') (hf:∀ a∈fp,H a=none/\H' a≠none/\¬ Zf M fps' a):Rep (M.plus fp) ρ' σ H' fps' where
 own:=λ i x d e=>by
  by_cases hm:M.Ms i=true
  ·obtain ⟨v,hv,o⟩:=r'.own i x d e
   have hd:=r'.msf i x d hm e
   subst hd
   exact ⟨v,hv,Own.full x v _ o⟩
  ·have hm':M.Ms i=false:=by simpa using hm
   rw [g.1 i hm'] at e
   obtain ⟨v,hv,o⟩:=r.own i x d e
   refine ⟨v,hv,?_⟩
   rw [k.same i hm']
   refine Own.move k.keep (λ a ⟨j,hj,ha⟩=>⟨.inr ⟨j,λ z=>(by rw [hal i j z] at hj;cases hj),ha⟩,r.lsts ha⟩) ?_ x d v _ ?_ o
   ·intro a hd nz z
    rcases z with (z | z) | ⟨j,nj,z⟩
    ·exact nz (.inl z)
    ·exact hd (hf a z).1
    ·rcases k.sub j a z with z | z
     ·exact nz (.inr ⟨j,nj,z⟩)
     ·exact hd z
   ·rintro a ha ⟨j,hj,hx⟩
    exact r.dj i j (λ e=>by rw [e,hj] at hm';cases hm') a ha hx
 non:=r'.non
 dj:=r'.dj
 zo:=λ i a ha z=>z.elim (r'.zo i a ha) λ z=>(hf a z).2.2 (.inr ⟨i,ha⟩)
 fr:=r'.fr
 zd:=λ a z=>z.elim (r'.zd a) λ z=>(hf a z).2.1
 len:=r'.len
 msf:=r'.msf
 h0:=r'.h0
 iov:=r'.iov
theorem Rep.put {i:Nat}{x:PV}{d:Nat}{v:V}{fp:List Addr} (r:Rep (M.plus fp) ρ σ H fps) (h:Own M.K H (λ a=>Za M fps i a\/a∈fp) x d v fp) (hf:∀ a∈fp,M.H₀ a=none/\¬ M.Zo a) (hi:i < ρ.length) (hm:M.Ms i=true->d=om) (hio:M.Fre i):
  Rep M (ρ.set i (some (x,d))) (σ.set i (some v)) H (λ j=>if j=i then fp else fps j):=by
 have zz:∀ a,Zf M (λ j=>if j=i then fp else fps j) a->Zf M fps a\/a∈fp:=λ a h=>by
  rcases h with z | ⟨j,z⟩
  ·exact .inl (.inl z)
  ·by_cases e:j=i
   ·simp only [if_pos e] at z;exact .inr z
   ·simp only [if_neg e] at z;exact .inl (.inr ⟨j,z⟩)
 have zz2:∀ a,Zf M fps a\/a∈fp->Zf (M.plus fp) fps a:=λ a h=>h.elim (λ h=>h.elim (λ z=>.inl (.inl z)) λ z=>.inr z) λ z=>.inl (.inr z)
 refine ⟨λ j y e hj=>?_,λ j hj=>?_,λ j k hjk a ha hb=>?_,λ j a ha z=>?_,λ j hj a ha=>?_,λ a z=>r.zd a (.inl z),?_,λ j y e hj he=>?_,r.h0,?_⟩
 ·by_cases e:j=i
  ·subst e
   rw [jc7 hi] at hj
   cases hj
   refine ⟨v,by rw [jc7 (by rw [<- r.len];exact hi)],?_⟩
   rw [if_pos rfl]
   refine h.weak λ a h=>?_
   rcases h with z | ⟨k,nk,z⟩
   ·exact .inl (.inl z)
   ·by_cases ek:k=j
    ·simp only [if_pos ek] at z;exact .inr z
    ·simp only [if_neg ek] at z;exact .inl (.inr ⟨k,nk,z⟩)
  ·rw [jb7 (Ne.symm e)] at hj
   obtain ⟨w,hw,o⟩:=r.own j y _ hj
   refine ⟨w,by rw [jb7 (Ne.symm e)];exact hw,?_⟩
   rw [if_neg e]
   refine o.weak λ a h=>?_
   rcases h with z | ⟨k,nk,z⟩
   ·exact .inl (.inl z)
   ·by_cases ek:k=i
    ·simp only [if_pos ek] at z;exact .inl (.inr z)
    ·simp only [if_neg ek] at z;exact .inr ⟨k,nk,z⟩
 ·by_cases e:j=i
  ·subst e
   exact absurd (jc7 hi) (hj _)
  ·rw [if_neg e]
   exact r.non j λ p hp=>hj p (by rw [jb7 (Ne.symm e)];exact hp)
 ·by_cases e1:j=i
  ·by_cases e2:k=i
   ·exact hjk (e1.trans e2.symm)
   ·rw [if_pos e1] at ha
    rw [if_neg e2] at hb
    exact r.zo k a hb (.inr ha)
  ·rw [if_neg e1] at ha
   by_cases e2:k=i
   ·rw [if_pos e2] at hb
    exact r.zo j a ha (.inr hb)
   ·rw [if_neg e2] at hb
    exact r.dj j k hjk a ha hb
 ·by_cases e:j=i
  ·rw [if_pos e] at ha;exact (hf a ha).2 z
  ·rw [if_neg e] at ha;exact r.zo j a ha (.inl z)
 ·by_cases e:j=i
  ·rw [if_pos e] at ha;exact (hf a ha).1
  ·rw [if_neg e] at ha;exact r.fr j hj a ha
 ·rw [jf3,jf3];exact r.len
 ·by_cases e:j=i
  ·subst e
   rw [jc7 hi] at he
   cases he
   exact hm hj
  ·rw [jb7 (Ne.symm e)] at he
   exact r.msf j y _ hj he
 ·refine ⟨λ w hw=>?_,λ p hp=>?_⟩
  ·have h0:i≠0:=hio.1 (by rw [hw];simp)
   rw [jb7 h0]
   exact r.iov.1 w hw
  ·rw [jb7 (hio.2 p hp).symm]
   exact r.iov.2 p hp
def sSet (ms:Bool) (i:Nat) (f:Fx) (vs:List Nat):Fs:=λ ρ=>match f ρ with
 | .ok (x,d,ρ1)=>if i < ρ1.length/\(ms=true->d=om) then .nx ((zqs d vs ρ1).set i (some (x,d))) else .no
 | .exc c=>.exc c
 | .no=>.no
theorem Rep.store {i:Nat}{x:PV}{d:Nat}{v:V}{fp:List Addr} (rep:Rep M ρ σ H fps) (k:KD M H fps H' fps') (g:Agr M ρ ρ') (r':Rep M ρ' σ H' fps') (o:Own M.K H' (Zt M vs fps' fp) x d v fp) (t:Temp M vs H H' fps' fp)
  (hal:∀ i,M.al i=[]) (hv:∀ i∈vs,M.Ms i=false) (hi:i < ρ'.length) (hm:M.Ms i=true->d=om) (hio:M.Fre i):
  ∃ fps2,KS M H fps H' fps2/\Rep M ((zqs d vs ρ').set i (some (x,d))) (σ.set i (some v)) H' fps2:=by
 have back:∀ a,H a=none->M.H₀ a=none:=λ a e=>by
  cases e':M.H₀ a with
  | none=>rfl
  | some o=>exact absurd e (rep.h0 a (by rw [e'];simp))
 have w:Rep (M.plus fp) ρ' σ H' fps':=rep.wide (λ i j hj=>by rw [hal i] at hj;cases hj) k g r' λ a ha=>⟨t.new a ha,by obtain ⟨xs,e⟩:=Own.lsts x d v fp o a ha;rw [e];simp,t.ndj a ha⟩
 have hf:∀ a∈fp,M.H₀ a=none/\¬ M.Zo a:=λ a ha=>⟨back a (t.new a ha),λ z=>t.ndj a ha (.inl z)⟩
 have ks2:∀ {fps2:Fps},(∀ i a,a∈fps2 i->a∈fps' i)->KS M H fps H' (λ j=>if j=i then fp else fps2 j):=λ {fps2} h2=>⟨k.ks.keep,k.dom,λ j a ha=>by
  by_cases e:j=i
  ·simp only [if_pos e] at ha;exact .inr (t.new a ha)
  ·simp only [if_neg e] at ha;exact k.ks.sub j a (h2 j a ha)⟩
 unfold zqs
 by_cases hd:d=om
 ·rw [if_pos hd]
  refine ⟨_,ks2 λ _ _ h=>h,w.put (i:=i) (x:=x) (d:=d) (v:=v) ?_ hf hi hm hio⟩
  rw [hd] at o ⊢
  exact Own.full x v fp o
 ·rw [if_neg hd]
  refine ⟨_,ks2 λ _ _ h=>(zwa h).1,(w.cool (vs:=vs) hal hv).put (i:=i) (x:=x) (d:=d) (v:=v) ?_ hf (by rw [zfn];exact hi) hm hio⟩
  exact o.weak λ a h=>h.elim (λ h=>.inl (zvz h.zf)) .inr
theorem qcy {f:Fx}{i:Nat}{ms:Bool}{D:Ends} (hal:∀ i,M.al i=[]) (hv:∀ i∈vs,M.Ms i=false) (hms:M.Ms i=ms) (hio:M.Fre i) (hq:tS M (sSet ms i f vs) D σ H):tAsg (tE M f vs) (zjf i) D σ H:=by
 obtain ⟨ρ,fps,rep,q⟩:=hq
 refine ⟨ρ,fps,rep,?_⟩
 unfold sSet at q
 cases ef:f ρ with
 | no=>rw [ef] at q;exact q
 | exc c=>rw [ef] at q;exact λ H' fps' k=>q _ H' fps' k.ks
 | ok p=>
  obtain ⟨x,d,ρ1⟩:=p
  rw [ef] at q
  intro v H1 fps1 f1 k1 g1 rep1 o1 t1
  dsimp only at q
  by_cases hc:i < ρ1.length/\(ms=true->d=om)
  ·rw [if_pos hc] at q
   obtain ⟨fps2,k2,r2⟩:=Rep.store rep k1 g1 rep1 o1 t1 hal hv hc.1 (λ h=>hc.2 (by rw [<- hms];exact h)) hio
   exact q _ _ _ k2 r2
  ·rw [if_neg hc] at q;exact q.elim
end
section
variable {M:Fm}{ρ ρ':Rho}{σ σ':St}{H H' H'':Hp}{fps fps' fps'':Fps}{vs vs':List Nat}
theorem Zr.zf {a:Addr} (h:Zr M fps a):Zf M fps a:=h.elim .inl λ h=>.inr ⟨0,h.2⟩
theorem Rep.zr (r:Rep M ρ σ H fps) (hv:∀ i∈vs,M.Ms i=false) {a:Addr} (h:Zr M fps a):Zv M vs fps a:=by
 rcases h with h | ⟨h1,h2⟩
 ·exact .inl h
 ·refine .inr ⟨0,λ z=>?_,h2⟩
  cases e:M.io with
  | none=>exact h1 e
  | some v=>have:=(r.iov.1 v e).2;rw [hv 0 z] at this;cases this
theorem Rep.h0' (r:Rep M ρ σ H fps) {a:Addr} (e:H a=none):M.H₀ a=none:=by
 cases e':M.H₀ a with
 | none=>rfl
 | some o=>exact absurd e (r.h0 a (by rw [e'];simp))
def sRet (f:Fx):Fs:=λ ρ=>match f ρ with
 | .ok (x,d,ρ1)=>.rt x d ρ1
 | .exc c=>.exc c
 | .no=>.no
theorem qms {f:Fx}{D:Ends} (hv:∀ i∈vs,M.Ms i=false) (hq:tS M (sRet f) D σ H):tRet (tE M f vs) D σ H:=by
 obtain ⟨ρ,fps,rep,q⟩:=hq
 refine ⟨ρ,fps,rep,?_⟩
 unfold sRet at q
 cases ef:f ρ with
 | no=>rw [ef] at q;exact q
 | exc c=>rw [ef] at q;exact λ H' fps' k=>q _ H' fps' k.ks
 | ok p=>
  obtain ⟨x,d,ρ1⟩:=p
  rw [ef] at q
  intro v H1 fps1 f1 k1 g1 rep1 o1 t1
  exact q v σ H1 fps1 f1 k1.ks rep1 (o1.weak λ a h=>h.elim (λ h=>.inl (rep1.zr hv h)) .inr) λ a ha=>⟨rep.h0' (t1.new a ha),λ z=>t1.ndj a ha z.zf⟩
def zjc (i:Nat):Fs:=λ ρ=>match ρ[i]? with
 | some (some (x,d))=>.rt x d ρ
 | _=>.no
theorem qjk {i:Nat}{D:Ends} (hal:∀ i,M.al i=[]) (hm:M.Ms i=false) (hq:tS M (zjc i) D σ H):tRet (tVar i) D σ H:=by
 obtain ⟨ρ,fps,rep,q⟩:=hq
 unfold zjc at q
 cases e0:ρ[i]? with
 | none=>rw [e0] at q;exact q.elim
 | some sl=>
  cases sl with
  | none=>rw [e0] at q;exact q.elim
  | some p=>
   obtain ⟨x,d⟩:=p
   rw [e0] at q
   obtain ⟨v,hv,o⟩:=rep.own0 hal i x d e0
   refine ⟨v,hv,q v σ H fps (fps i) KS.refl rep (o.weak λ a h=>h.elim Zr.zf λ z=>.inr ⟨i,z⟩) λ a ha=>⟨rep.fr i hm a ha,λ z=>?_⟩⟩
   rcases z with z | ⟨z1,z2⟩
   ·exact rep.zo i a ha z
   ·cases e:M.io with
    | none=>exact z1 e
    | some w=>exact rep.dj i 0 (λ e'=>by rw [e',(rep.iov.1 w e).2] at hm;cases hm) a ha z2
def zzq (f:Fx):Fs:=λ ρ=>match f ρ with
 | .ok (_,_,ρ1)=>.nx ρ1
 | .exc c=>.exc c
 | .no=>.no
theorem qc3 {f:Fx}{D:Ends} (hq:tS M (zzq f) D σ H):qc6 (tE M f vs) D σ H:=by
 obtain ⟨ρ,fps,rep,q⟩:=hq
 refine ⟨ρ,fps,rep,?_⟩
 unfold zzq at q
 cases ef:f ρ with
 | no=>rw [ef] at q;exact q
 | exc c=>rw [ef] at q;exact λ H' fps' k=>q _ H' fps' k.ks
 | ok p=>
  obtain ⟨x,d,ρ1⟩:=p
  rw [ef] at q
  intro v H1 fps1 f1 k1 g1 rep1 o1 t1
  exact q σ H1 fps1 k1.ks rep1
theorem OwnL.snoc {K:Frag}{Z:Addr->Prop}{y:PV}{d:Nat}{w:V}{fy:List Addr}:∀ {xs:List PV}{ws:List V}{f:List Addr},OwnL K H Z xs d ws f->Own K H Z y d w fy->(∀ a∈f,a∉fy)->OwnL K H Z (xs++[y]) d (ws++[w]) (f++fy)
 | [],ws,f,h,hy,_=>by
  rw [OwnL] at h
  obtain ⟨rfl,rfl⟩:=h
  show OwnL K H Z [y] d [w] fy
  rw [OwnL]
  refine ⟨w,[],fy,[],rfl,by simp,λ _ _ z=>(nomatch z),hy,?_⟩
  rw [OwnL];exact ⟨rfl,rfl⟩
 | x::xs,ws,f,h,hy,hd=>by
  rw [OwnL] at h
  obtain ⟨v,s,f1,f2,rfl,rfl,dj,h1,h2⟩:=h
  show OwnL K H Z (x::(xs++[y])) d (v::(s++[w])) (f1++f2++fy)
  rw [OwnL]
  refine ⟨v,s++[w],f1,f2++fy,rfl,by rw [jh2],λ a ha hb=>?_,h1,h2.snoc hy λ a ha=>hd a (ja7 _ ha)⟩
  rcases jc1.mp hb with z | z
  ·exact dj a ha z
  ·exact hd a (ja9 _ ha) z
theorem Own.at {K:Frag}{Z Z':Addr->Prop}{a:Addr}{o:HO}{x:PV}{d:Nat}{v:V}{fp:List Addr} (h:Own K H Z x d v fp) (hZ:Z a) (hl:∃ o:MO,H a=some o.ho) (hf:a∉fp) (hz:∀ b,H b≠none->¬ Z b->¬ Z' b):Own K (upd H a o) Z' x d v fp:=
 Own.move (S:=λ b=>b=a) (λ b u hb n=>by rw [zqp n];exact hb) (λ b e=>by rw [e];exact ⟨hZ,hl⟩) hz x d v fp (λ b hb e=>hf (by rw [<- e];exact hb)) h
theorem OwnL.at {K:Frag}{Z Z':Addr->Prop}{a:Addr}{o:HO}{x:List PV}{d:Nat}{v:List V}{fp:List Addr} (h:OwnL K H Z x d v fp) (hZ:Z a) (hl:∃ o:MO,H a=some o.ho) (hf:a∉fp) (hz:∀ b,H b≠none->¬ Z b->¬ Z' b):OwnL K (upd H a o) Z' x d v fp:=
 OwnL.move (S:=λ b=>b=a) (λ b u hb n=>by rw [zqp n];exact hb) (λ b e=>by rw [e];exact ⟨hZ,hl⟩) hz x d v fp (λ b hb e=>hf (by rw [<- e];exact hb)) h
theorem Rep.rewrite {i:Nat}{xs:List PV}{d:Nat}{a:Addr}{ws:List V}{zs:List PV}{us:List V}{e:Nat}{f f' fp:List Addr} (hal:∀ i,M.al i=[]) (r:Rep (M.plus fp) ρ σ H fps) (hi:ρ[i]?=some (some (.lst xs,d))) (hσ:σ[i]?=some (some (.ref a)))
  (ha:H a=some (.lst ws)) (hfp:fps i=a::f) (hn:a∉f') (hsub:∀ b∈f',b∈f\/b∈fp) (he:e≠0) (hm:M.Ms i=true->e=om) (hH:∀ b∈fp,M.H₀ b=none/\¬ M.Zo b)
  (hnew:OwnL M.K (upd H a (.lst us)) (Zf M (λ j=>if j=i then a::f' else fps j)) zs (pd e) us f'):
  Rep M (ρ.set i (some (.lst zs,e))) σ (upd H a (.lst us)) (λ j=>if j=i then a::f' else fps j):=by
 have hlen:i < ρ.length:=(ja8.mp hi).1
 have hai:a∈fps i:=by rw [hfp];exact ja5
 have zz:∀ b,Zf M (λ j=>if j=i then a::f' else fps j) b->Zf (M.plus fp) fps b:=λ b h=>by
  rcases h with z | ⟨j,z⟩
  ·exact .inl (.inl z)
  ·by_cases ej:j=i
   ·simp only [if_pos ej] at z
    rcases jb0.mp z with z | z
    ·exact .inr ⟨i,by rw [z];exact hai⟩
    ·rcases hsub b z with z | z
     ·exact .inr ⟨i,by rw [hfp];exact ja2 _ z⟩
     ·exact .inl (.inr z)
   ·simp only [if_neg ej] at z;exact .inr ⟨j,z⟩
 have dm:∀ b,H b≠none->(upd H a (.lst us)) b≠none:=λ b h=>by
  by_cases eb:b=a
  ·rw [eb,zqv];simp
  ·rw [zqp eb];exact h
 have inI:∀ b,b∈a::f'->b∈fps i\/b∈fp:=λ b hb=>by
  rcases jb0.mp hb with z | z
  ·exact .inl (by rw [z];exact hai)
  ·rcases hsub b z with z | z
   ·exact .inl (by rw [hfp];exact ja2 _ z)
   ·exact .inr z
 refine ⟨λ j y c hj=>?_,λ j hj=>?_,λ j k hjk b hb hc=>?_,λ j b hb z=>?_,λ j hj b hb=>?_,λ b z=>dm b (r.zd b (.inl z)),by rw [jf3];exact r.len,λ j y c hj hc=>?_,λ b z=>dm b (r.h0 b z),r.iov⟩
 ·by_cases ej:j=i
  ·subst ej
   rw [jc7 hlen] at hj
   cases hj
   refine ⟨_,hσ,?_⟩
   rw [if_pos rfl,Own]
   exact ⟨a,us,rfl,.inr ⟨he,f',zqv,rfl,hn,hnew.weak λ _ h=>h.zf⟩⟩
  ·rw [jb7 (Ne.symm ej)] at hj
   obtain ⟨w,hw,ow⟩:=r.own0 hal j y c hj
   refine ⟨w,hw,?_⟩
   rw [if_neg ej]
   exact ow.at (.inr ⟨i,hai⟩) ⟨.l ws,ha⟩ (λ z=>r.dj j i ej a z hai) λ b _ nz z=>nz (zz b z.zf)
 ·by_cases ej:j=i
  ·subst ej;exact absurd (jc7 hlen) (hj _)
  ·rw [if_neg ej]
   exact r.non j λ p hp=>hj p (by rw [jb7 (Ne.symm ej)];exact hp)
 ·have one:∀ k,k≠i->∀ b,b∈a::f'->b∈fps k->False:=λ k hk b h1 h2=>(inI b h1).elim (λ z=>r.dj i k (Ne.symm hk) b z h2) λ z=>r.zo k b h2 (.inr z)
  by_cases e1:j=i
  ·by_cases e2:k=i
   ·exact hjk (e1.trans e2.symm)
   ·rw [if_pos e1] at hb
    rw [if_neg e2] at hc
    exact one k e2 b hb hc
  ·rw [if_neg e1] at hb
   by_cases e2:k=i
   ·rw [if_pos e2] at hc
    exact one j e1 b hc hb
   ·rw [if_neg e2] at hc
    exact r.dj j k hjk b hb hc
 ·by_cases ej:j=i
  ·rw [if_pos ej] at hb
   rcases inI b hb with y | y
   ·exact r.zo i b y (.inl z)
   ·exact (hH b y).2 z
  ·rw [if_neg ej] at hb;exact r.zo j b hb (.inl z)
 ·by_cases ej:j=i
  ·rw [if_pos ej] at hb
   rcases inI b hb with y | y
   ·exact r.fr i (by rw [<- ej];exact hj) b y
   ·exact (hH b y).1
  ·rw [if_neg ej] at hb;exact r.fr j hj b hb
 ·by_cases ej:j=i
  ·subst ej
   rw [jc7 hlen] at hc
   cases hc
   exact hm hj
  ·rw [jb7 (Ne.symm ej)] at hc
   exact r.msf j y c hj hc
end
section
variable {M:Fm}{ρ ρ':Rho}{σ σ':St}{H H' H'':Hp}{fps fps' fps'':Fps}{vs vs':List Nat}
theorem KS.write {a:Addr}{o:HO}{i:Nat}{f' fp:List Addr} (k:KS M H fps H' fps') (ha:∃ j,a∈fps j) (hs:∀ b∈a::f',b∈fps' i\/H b=none):
  KS M H fps (upd H' a o) (λ j=>if j=i then a::f' else fps' j) where
 keep:=λ b u hb n=>by rw [zqp (λ e=>n (by rw [e];exact ha))];exact k.keep b u hb n
 dom:=λ b hb=>by
  by_cases e:b=a
  ·rw [e,zqv];simp
  ·rw [zqp e];exact k.dom b hb
 sub:=λ j b hb=>by
  by_cases e:j=i
  ·simp only [if_pos e] at hb
   rcases hs b hb with z | z
   ·exact k.sub i b z
   ·exact .inr z
  ·simp only [if_neg e] at hb;exact k.sub j b hb
theorem Rep.behind {x:PV}{d:Nat}{v:V}{fp:List Addr} (rep:Rep M ρ σ H fps) (k:KD M H fps H' fps') (g:Agr M ρ ρ') (r':Rep M ρ' σ H' fps') (o:Own M.K H' (Zt M vs fps' fp) x d v fp) (t:Temp M vs H H' fps' fp)
  (hal:∀ i,M.al i=[]) (hv:∀ i∈vs,M.Ms i=false):∃ fps2,KS M H fps H' fps2/\Rep (M.plus fp) (zqs d vs ρ') σ H' fps2/\Own M.K H' (λ a=>Zf M fps2 a\/a∈fp) x d v fp/\(∀ a∈fp,¬ Zf M fps2 a)/\(∀ i a,a∈fps2 i->a∈fps' i)/\(∀ a∈fp,M.H₀ a=none/\¬ M.Zo a):=by
 have w:Rep (M.plus fp) ρ' σ H' fps':=rep.wide (λ i j hj=>by rw [hal i] at hj;cases hj) k g r' λ a ha=>⟨t.new a ha,by obtain ⟨xs,e⟩:=Own.lsts x d v fp o a ha;rw [e];simp,t.ndj a ha⟩
 have hf:∀ a∈fp,M.H₀ a=none/\¬ M.Zo a:=λ a ha=>⟨rep.h0' (t.new a ha),λ z=>t.ndj a ha (.inl z)⟩
 unfold zqs
 by_cases hd:d=om
 ·rw [if_pos hd]
  refine ⟨fps',k.ks,w,?_,t.ndj,λ _ _ h=>h,hf⟩
  rw [hd] at o ⊢
  exact Own.full x v fp o
 ·rw [if_neg hd]
  exact ⟨zkq vs fps',k.ks.cool,w.cool hal hv,o.weak λ a h=>h.elim (λ h=>.inl (zvz h)) .inr,λ a ha z=>t.ndj a ha (zvz z).zf,λ _ _ h=>(zwa h).1,hf⟩
def sApp (i:Nat) (f:Fx) (vs:List Nat):Fs:=λ ρ=>match ρ[i]? with
 | some (some (.lst _,0))=>.no
 | some (some (.lst _,_ + 1))=>(match f ρ with
  | .ok (y,e,ρ1)=>(match (zqs e vs ρ1)[i]? with
   | some (some (.lst xs,d))=>if d≠0/\xs.length < sizeLine then .nx ((zqs e vs ρ1).set i (some (.lst (xs++[y]),if d=om/\e=om then om else 1))) else .no
   | _=>.no)
  | .exc c=>.exc c
  | .no=>.no)
 | _=>.no
theorem qa4:pd 1=0:=by decide
theorem Own.list {K:Frag}{Z:Addr->Prop}{xs:List PV}{d:Nat}{v:V}{fp:List Addr} (h:Own K H Z (.lst xs) d v fp) (hd:d≠0):∃ a ws f,v=.ref a/\H a=some (.lst ws)/\fp=a::f/\a∉f/\OwnL K H Z xs (pd d) ws f:=by
 rw [Own] at h
 obtain ⟨a,ws,e,⟨d0,_⟩ | ⟨_,f,h1,h2,h3,h4⟩⟩:=h
 ·exact absurd d0 hd
 ·exact ⟨a,ws,f,e,h1,h2,h3,h4⟩
theorem qmw {f:Fx}{i:Nat}{D:Ends} (hal:∀ i,M.al i=[]) (hv:∀ i∈vs,M.Ms i=false) (hm:M.Ms i=false) (hq:tS M (sApp i f vs) D σ H):qc6 (tBM M.K "list" zhv (tVar i) (qc7 (tE M f vs) tNil)) D σ H:=by
 obtain ⟨ρ,fps,rep,q⟩:=hq
 unfold sApp at q
 split at q
 ·exact q.elim
 ·rename_i xs0 d0 e0
  obtain ⟨v,hσ,o⟩:=rep.own0 hal i _ _ e0
  obtain ⟨a,ws0,fc0,rfl,ha0,hfp0,_,_⟩:=o.list (jp4 _)
  refine ⟨_,hσ,qct (.inl (.inl ha0)),ρ,fps,rep,?_⟩
  cases ef:f ρ with
  | no=>rw [ef] at q;exact q
  | exc c=>rw [ef] at q;exact λ H' fps' k=>q _ H' fps' k.ks
  | ok p=>
   obtain ⟨y,e,ρ1⟩:=p
   rw [ef] at q
   intro w H1 fps1 fp k1 g1 rep1 o1 t1
   dsimp only at q
   split at q
   ·rename_i xs d es
    split at q
    ·rename_i hc
     obtain ⟨fps2,k2,r2,o2,n2,s2,h2⟩:=Rep.behind rep k1 g1 rep1 o1 t1 hal hv
     obtain ⟨v',hσ',ol⟩:=r2.own0 hal i _ _ es
     rw [hσ] at hσ'
     cases hσ'
     obtain ⟨a',ws,fc,ev,ha,hfp,nac,hol⟩:=ol.list hc.1
     cases ev
     have hai:a∈fps2 i:=by rw [hfp];exact ja5
     have hafp:a∉fp:=λ z=>n2 a z (.inr ⟨i,hai⟩)
     have hst:∃ j,a∈fps j:=⟨i,by have:=s2 i a hai;rw [k1.same i hm] at this;exact this⟩
     refine ⟨a,ws,w,rfl,rfl,ha,by rw [hol.length];exact hc.2,?_⟩
     by_cases ho:d=om/\e=om
     ·rw [if_pos ho] at q
      obtain ⟨rfl,rfl⟩:=ho
      refine q σ _ _ (k2.write (i:=i) (f':=fc++fp) (fp:=fp) hst λ b hb=>?_) (r2.rewrite hal es hσ ha hfp (λ z=>(jc1.mp z).elim nac hafp) (λ b hb=>jc1.mp hb) (by decide) (λ _=>rfl) h2 ?_)
      ·rcases jb0.mp hb with z | z
       ·exact .inl (by rw [z];exact hai)
       ·rcases jc1.mp z with z | z
        ·exact .inl (by rw [hfp];exact ja2 _ z)
        ·exact .inr (t1.new b z)
      ·have u1:OwnL M.K (upd H1 a (.lst (ws++[w]))) (λ _=>True) xs om ws fc:=(OwnL.full (Z':=λ _=>True) xs ws fc hol).at trivial ⟨.l ws,ha⟩ nac λ _ _ n=>absurd trivial n
       have u2:Own M.K (upd H1 a (.lst (ws++[w]))) (λ _=>True) y om w fp:=(Own.full (Z':=λ _=>True) y w fp o2).at trivial ⟨.l ws,ha⟩ hafp λ _ _ n=>absurd trivial n
       exact OwnL.full _ _ _ (u1.snoc u2 λ b hb z=>n2 b z (.inr ⟨i,by rw [hfp];exact ja2 _ hb⟩))
     ·rw [if_neg ho] at q
      refine q σ _ _ (k2.write (i:=i) (f':=[]) (fp:=fp) hst λ b hb=>?_) (r2.rewrite hal es hσ ha hfp (λ z=>nomatch z) (λ b hb=>nomatch hb) (by decide) (λ h=>by rw [hm] at h;cases h) h2 ?_)
      ·rcases jb0.mp hb with z | z
       ·exact .inl (by rw [z];exact hai)
       ·cases z
      ·rw [qa4]
       have zsub:∀ b,Zf M (λ j=>if j=i then [a] else fps2 j) b->Zf (M.plus fp) fps2 b:=λ b h=>by
        rcases h with z | ⟨j,z⟩
        ·exact .inl (.inl z)
        ·by_cases ej:j=i
         ·simp only [if_pos ej] at z
          rw [jb8.mp z]
          exact .inr ⟨i,hai⟩
         ·simp only [if_neg ej] at z;exact .inr ⟨j,z⟩
       have nf:∀ b∈fc,¬ Zf M (λ j=>if j=i then [a] else fps2 j) b:=λ b hb z=>by
        have hbi:b∈fps2 i:=by rw [hfp];exact ja2 _ hb
        rcases z with z | ⟨j,z⟩
        ·exact r2.zo i b hbi (.inl z)
        ·by_cases ej:j=i
         ·simp only [if_pos ej] at z
          rw [jb8.mp z] at hb;exact nac hb
         ·simp only [if_neg ej] at z;exact r2.dj i j (Ne.symm ej) b hbi z
       have nfp:∀ b∈fp,¬ Zf M (λ j=>if j=i then [a] else fps2 j) b:=λ b hb z=>by
        rcases z with z | ⟨j,z⟩
        ·exact n2 b hb (.inl z)
        ·by_cases ej:j=i
         ·simp only [if_pos ej] at z
          rw [jb8.mp z] at hb;exact hafp hb
         ·simp only [if_neg ej] at z;exact n2 b hb (.inr ⟨j,z⟩)
       have za:Zf M (λ j=>if j=i then [a] else fps2 j) a:=.inr ⟨i,by simp⟩
       have u1:=(OwnL.freeze (Z':=Zf M (λ j=>if j=i then [a] else fps2 j)) zsub xs _ ws fc nf hol)
       have u2:=(Own.freeze (Z':=Zf M (λ j=>if j=i then [a] else fps2 j)) (λ b h=>by
        rcases h with z | ⟨j,z⟩
        ·exact .inl (.inl z)
        ·by_cases ej:j=i
         ·simp only [if_pos ej] at z
          rw [jb8.mp z]
          exact .inl (.inr ⟨i,hai⟩)
         ·simp only [if_neg ej] at z;exact .inl (.inr ⟨j,z⟩)) y _ w fp nfp o2)
       exact (u1.at za ⟨.l ws,ha⟩ (λ z=>nomatch z) λ _ _ n=>n).snoc (u2.at za ⟨.l ws,ha⟩ (λ z=>nomatch z) λ _ _ n=>n) λ _ z=>nomatch z
    ·exact q.elim
   ·exact q.elim
 ·exact q.elim
def zmc:PV->Bool
 | .lst _=>false
 | .tup _=>false
 | .dct _=>false
 | _=>true
theorem OwnL.set {K:Frag}{Z:Addr->Prop}{y:PV}{d:Nat}{w:V} (hy:Own K H Z y d w []):∀ {xs:List PV}{ws:List V}{f:List Addr} (k:Nat),OwnL K H Z xs d ws f->∃ f',(∀ b∈f',b∈f)/\OwnL K H Z (xs.set k y) d (ws.set k w) f'
 | [],ws,f,k,h=>by
  rw [OwnL] at h
  obtain ⟨rfl,rfl⟩:=h
  refine ⟨[],λ _ z=>z,?_⟩
  rw [jq5,jq5,OwnL];exact ⟨rfl,rfl⟩
 | x::xs,ws,f,0,h=>by
  rw [OwnL] at h
  obtain ⟨v,s,f1,f2,rfl,rfl,dj,h1,h2⟩:=h
  refine ⟨f2,λ b hb=>ja7 _ hb,?_⟩
  rw [jj1,jj1,OwnL]
  exact ⟨w,s,[],f2,rfl,rfl,λ _ z=>(nomatch z),hy,h2⟩
 | x::xs,ws,f,k + 1,h=>by
  rw [OwnL] at h
  obtain ⟨v,s,f1,f2,rfl,rfl,dj,h1,h2⟩:=h
  obtain ⟨f',hs,h'⟩:=h2.set hy k
  refine ⟨f1++f',λ b hb=>(jc1.mp hb).elim (λ z=>ja9 _ z) λ z=>ja7 _ (hs b z),?_⟩
  rw [jl4,jl4,OwnL]
  exact ⟨v,s.set k w,f1,f',rfl,rfl,λ b hb hc=>dj b hb (hs b hc),h1,h'⟩
theorem Own.atom {K:Frag}{Z Z':Addr->Prop}{y:PV}{d d':Nat}{w:V}{fp:List Addr} (hy:zmc y=true) (h:Own K H Z y d w fp):fp=[]/\Own K H Z' y d' w []:=by
 cases y with
 | lst _=>cases hy
 | tup _=>cases hy
 | dct _=>cases hy
 | exn _=>rw [Own] at h ⊢;exact ⟨h.1,rfl,h.2⟩
 | emp=>rw [Own] at h ⊢;exact ⟨h.1,rfl,h.2⟩
 | dko=>rw [Own] at h ⊢;exact ⟨h.1,rfl,h.2⟩
 | scr _=>rw [Own] at h ⊢;exact ⟨h.1,rfl,h.2⟩
 | non=>rw [Own] at h ⊢;exact ⟨h.2,h.1,rfl⟩
 | bl _=>rw [Own] at h ⊢;exact ⟨h.2,h.1,rfl⟩
 | int _=>rw [Own] at h ⊢;exact ⟨h.2,h.1,rfl⟩
 | str _=>rw [Own] at h ⊢;exact ⟨h.2,h.1,rfl⟩
end
section
variable {is:List Nat}{M:Fm}{ρ ρ':Rho}{σ σ':St}{H H' H'':Hp}{fps fps' fps'':Fps}{vs vs':List Nat}
theorem Rep.plus0 (hal:∀ i,∀ j∈M.al i,M.Ms j=false) (r:Rep M ρ σ H fps):Rep (M.plus []) ρ σ H fps:=r.wide hal KD.refl Agr.refl r (λ _ z=>nomatch z)
def GOk (M:Fm) (al is:List Nat) (g:TG) (asg:PV->Rho->Option Rho):Prop:=∀ y v ρ σ H fps ρ' (Q:St->Hp->Prop),Rep M ρ σ H fps->Own M.K H (Zv M al fps) y 0 v []->asg y ρ=some ρ'->(∀ σ' fps',(∀ i,∀ a∈fps' i,a∈fps i)->(∀ i,i∉is->ρ'[i]?=ρ[i]?/\fps' i=fps i/\σ'[i]?=σ[i]?)->ρ'.length=ρ.length->Rep M ρ' σ' H fps'->Q σ' H)->g v σ H Q
def asgN (i:Nat):PV->Rho->Option Rho:=λ y ρ=>if i < ρ.length then some (ρ.set i (some (y,dv y))) else none
theorem Own.dv {K:Frag}{Z:Addr->Prop}{x:PV}{v:V} (h:Own K H Z x 0 v []):Own K H Z x (dv x) v []:=Own.view (fp:=[]) (λ _ z=>z) (λ _ z=>nomatch z) h
structure Bd (M:Fm) (al:List Nat) (i:Nat):Prop where
 ms:M.Ms i=false
 io:M.Fre i
 al:M.al i=al
 als:∀ i,∀ j∈M.al i,M.Ms j=false
theorem Rep.bind1 {al:List Nat}{i:Nat}{y:PV}{v:V} (r:Rep M ρ σ H fps) (o:Own M.K H (Zv M al fps) y 0 v []) (hi:i < ρ.length) (b:Bd M al i):
  Rep M (ρ.set i (some (y,dv y))) (σ.set i (some v)) H (λ j=>if j=i then [] else fps j):=by
 refine (r.plus0 b.als).put (o.dv.weak λ a h=>h.elim (λ h=>?_) λ z=>nomatch z) (λ _ z=>nomatch z) hi (λ h=>by rw [b.ms] at h;cases h) b.io
 rcases h with h | ⟨j,nj,h⟩
 ·exact .inl h
 ·exact .inr ⟨j,by rw [b.al] at nj;exact nj,h⟩
theorem qiy {al:List Nat}{i:Nat} (b:Bd M al i):GOk M al [i] (zjf i) (asgN i):=by
 intro y v ρ σ H fps ρ' Q r o e q
 unfold asgN at e
 split at e
 ·rename_i hi
  cases e
  refine q _ _ (λ j a ha=>?_) (λ j nj=>?_) (by rw [jf3]) (r.bind1 o hi b)
  ·by_cases e:j=i
   ·simp only [if_pos e] at ha;cases ha
   ·simp only [if_neg e] at ha;exact ha
  ·have e:j≠i:=λ e=>nj (by simp [e])
   exact ⟨jb7 (Ne.symm e),if_neg e,jb7 (Ne.symm e)⟩
 ·cases e
def zps:List Nat->TGs
 | []=>gNil
 | i::is=>qo1 (zjf i) (zps is)
def asgs:List Nat->List PV->Rho->Option Rho
 | [],[],ρ=>some ρ
 | i::is,y::ys,ρ=>(asgN i y ρ).bind (asgs is ys)
 | _,_,_=>none
def asgT (is:List Nat):PV->Rho->Option Rho:=λ y ρ=>match y with
 | .tup ys=>asgs is ys ρ
 | _=>none
theorem qe2 {al:List Nat}:∀ (is:List Nat) (ys:List PV) (ws:List V) (ρ:Rho) (σ:St) (H:Hp) (fps:Fps) (ρ':Rho) (Q:St->Hp->Prop),(∀ i∈is,Bd M al i)->Rep M ρ σ H fps->OwnL M.K H (Zv M al fps) ys 0 ws []->asgs is ys ρ=some ρ' ->
  (∀ σ' fps',(∀ i,∀ a∈fps' i,a∈fps i)->(∀ i,i∉is->ρ'[i]?=ρ[i]?/\fps' i=fps i/\σ'[i]?=σ[i]?)->ρ'.length=ρ.length->Rep M ρ' σ' H fps'->Q σ' H)->ws.length=is.length/\zps is ws σ H Q
 | [],[],ws,ρ,σ,H,fps,ρ',Q,_,r,o,e,q=>by
  rw [OwnL] at o
  obtain ⟨rfl,_⟩:=o
  cases e
  exact ⟨rfl,rfl,q σ fps (λ _ _ h=>h) (λ _ _=>⟨rfl,rfl,rfl⟩) rfl r⟩
 | [],_::_,_,_,_,_,_,_,_,_,_,_,e,_=>by cases e
 | _::_,[],_,_,_,_,_,_,_,_,_,_,e,_=>by cases e
 | i::is,y::ys,ws,ρ,σ,H,fps,ρ',Q,hs,r,o,e,q=>by
  rw [OwnL] at o
  obtain ⟨v,s,f1,f2,rfl,ef,_,o1,o2⟩:=o
  obtain ⟨rfl,rfl⟩:f1=[]/\f2=[]:=by simpa using ef.symm
  unfold asgs at e
  cases e1:asgN i y ρ with
  | none=>rw [e1] at e;cases e
  | some ρ1=>
   rw [e1] at e
   unfold asgN at e1
   split at e1
   ·rename_i hi
    cases e1
    have bi:=hs i ja5
    have r':=r.bind1 o1 hi bi
    have sub:∀ j a,a∈(λ j=>if j=i then [] else fps j) j->a∈fps j:=λ j a z=>by
     by_cases ej:j=i
     ·simp only [if_pos ej] at z;cases z
     ·simp only [if_neg ej] at z;exact z
    have o2':OwnL M.K H (Zv M al (λ j=>if j=i then [] else fps j)) ys 0 s []:=o2.weak λ a h=>h.elim .inl λ ⟨j,nj,z⟩=>.inr ⟨j,nj,sub j a z⟩
    obtain ⟨hl,hg⟩:=qe2 is ys s _ _ H _ ρ' Q (λ j hj=>hs j (ja2 _ hj)) r' o2' e λ σ' fps' k' a' l' r''=>q σ' fps' (λ j a ha=>sub j a (k' j a ha)) (λ j hj=>by
     have ej:j≠i:=λ e=>hj (by rw [e];exact ja5)
     obtain ⟨z1,z2,z3⟩:=a' j λ z=>hj (ja2 _ z)
     rw [if_neg ej] at z2
     exact ⟨z1.trans (jb7 (Ne.symm ej)),z2,z3.trans (jb7 (Ne.symm ej))⟩) (l'.trans (by rw [jf3])) r''
    exact ⟨by rw [jb1,jb1,hl],v,s,rfl,hg⟩
   ·cases e1
theorem qle {al:List Nat}{is:List Nat} (hs:∀ i∈is,Bd M al i):GOk M al is (gTup M.K is.length (zps is)) (asgT is):=by
 intro y v ρ σ H fps ρ' Q r o e q
 unfold asgT at e
 split at e
 ·rename_i ys
  rw [Own] at o
  obtain ⟨a,ws,rfl,hr,ol⟩:=o
  obtain ⟨hl,hg⟩:=qe2 is ys ws ρ σ H fps ρ' Q hs r ol e q
  exact ⟨a,ws,rfl,.inl (.inl hr),hl,hg⟩
 ·cases e
def zws (asg:PV->Rho->Option Rho) (body:Fs):List PV->Rho->Rs
 | [],ρ=>.nx ρ
 | x::xs,ρ=>match asg x ρ with
  | none=>.no
  | some ρ1=>match body ρ1 with
   | .nx ρ2=>zws asg body xs ρ2
   | .ct ρ2=>zws asg body xs ρ2
   | .bk ρ2=>.nx ρ2
   | .rt x d ρ2=>.rt x d ρ2
   | .exc c=>.exc c
   | .no=>.no
theorem zbr {g:TG}{asg:PV->Rho->Option Rho}{body:Fs}{D:Ends}{J:It}{els:List PV}{Pq:Hp->Fps->Prop} (hg:GOk M [] is g asg)
  (hP:∀ {ρ σ H fps H' fps'},Rep M ρ σ H fps->KS M H fps H' fps'->Pq H fps->Pq H' fps') (hgo:∀ {H fps i},Pq H fps->i < els.length->J.go i H) (hst:∀ {H fps i},Pq H fps->els.length<=i->J.stop i H)
  (hy:∀ {ρ σ H fps i x H'},Rep M ρ σ H fps->Pq H fps->i < els.length->J.yld i H x H'->(∀ a o,H a=some o->H' a=some o)/\∃ y,els[i]?=some y/\Own M.K H' (Zf M fps) y 0 x [])
  (rep:Rep M ρ σ H fps) (p:Pq H fps) (q:RsOk M D H fps (zws asg body els ρ)):
  ∃ W:Nat->Nat->St->Hp->Prop,(∃ m,W 0 m σ H)/\∀ i m σ H,W i m σ H ->
   (J.stop i H/\D.nx σ H)\/(J.go i H/\∃ N:St->Hp->Prop,(∀ σ' H',N σ' H'->∃ m',m' < m/\W (i + 1) m' σ' H')/\∀ x H',J.yld i H x H'->g x σ H' λ σ2 H2=>(tS M body) { D with nx:=N,ct:=N,bk:=D.nx } σ2 H2):=by
 let W:Nat->Nat->St->Hp->Prop:=λ i m σ H=>m=els.length - i/\∃ ρ fps,Rep M ρ σ H fps/\Pq H fps/\RsOk M D H fps (zws asg body (els.drop i) ρ)
 refine ⟨W,⟨els.length,by simp,ρ,fps,rep,p,by simpa using q⟩,?_⟩
 rintro i m σ H ⟨rfl,ρ,fps,r,p,q⟩
 by_cases hi:i < els.length
 ·right
  refine ⟨hgo p hi,W (i + 1) (els.length - (i + 1)),λ σ' H' w=>⟨_,by omega,w⟩,λ x H' y=>?_⟩
  obtain ⟨kx,z,ez,oz⟩:=hy r p hi y
  have k0:KS M H fps H' fps:=(KD.grow kx).ks
  have p:=hP r k0 p
  have r:=r.grow kx
  have q:=RsOk.from k0 q
  have ed:els.drop i=z::els.drop (i + 1):=by
   obtain ⟨h1,h2⟩:=ja8.mp ez
   rw [<- h2];exact jg9 h1
  rw [ed] at q
  unfold zws at q
  cases ea:asg z ρ with
  | none=>rw [ea] at q;exact q.elim
  | some ρ1=>
   rw [ea] at q
   dsimp only at q
   refine hg z x ρ σ _ fps ρ1 _ r (oz.weak λ a h=>h.zf) ea λ σ1 fps1 s1 _ _ r1=>⟨ρ1,fps1,r1,?_⟩
   have k1:KS M H' fps H' fps1:=⟨λ _ _ h _=>h,λ _ h=>h,λ j a ha=>.inl ⟨j,s1 j a ha⟩⟩
   have p1:=hP r k1 p
   cases eb:body ρ1 with
   | no=>rw [eb] at q;exact q
   | exc c=>rw [eb] at q;exact RsOk.from (r:=.exc c) k1 q
   | rt x d ρ2=>rw [eb] at q;exact RsOk.from (r:=.rt x d ρ2) k1 q
   | bk ρ2=>rw [eb] at q;exact λ σ' H' fps' k=>q σ' H' fps' (k1.trans k)
   | nx ρ2=>rw [eb] at q;exact λ σ' H' fps' k r'=>⟨rfl,ρ2,fps',r',hP r1 k p1,RsOk.from (k1.trans k) q⟩
   | ct ρ2=>rw [eb] at q;exact λ σ' H' fps' k r'=>⟨rfl,ρ2,fps',r',hP r1 k p1,RsOk.from (k1.trans k) q⟩
 ·left
  have ed:els.drop i=[]:=jj7 (by omega)
  rw [ed] at q
  exact ⟨hst p (by omega),q σ H fps KS.refl r⟩
def zvt (lo:Int) (n:Nat):List PV:=(jc2 n).map λ (i:Nat)=>PV.int (lo + (i:Int))
theorem zzg (lo:Int) (n:Nat):(zvt lo n).length=n:=by simp [zvt]
def zxu:List (PV×Nat)->Option (Int×Int)
 | [(.int j,_)]=>if -(2 ^ 62)<=j/\j < 2 ^ 62 then some (0,j) else none
 | _=>none
def zbs:List (PV×Nat)->Option (Int×Int)
 | [(.int i,_),(.int j,_)]=>if -(2 ^ 62)<=i/\i < 2 ^ 62/\-(2 ^ 62)<=j/\j < 2 ^ 62 then some (i,j) else none
 | _=>none
def zkj (en:List (PV×Nat)->Option (Int×Int)) (fa:Fa) (asg:PV->Rho->Option Rho) (body:Fs):Fs:=λ ρ=>match fa ρ with
 | .ok (xs,ρ1)=>(match en xs with
  | some (i,j)=>zws asg body (zvt i (j - i).toNat) ρ1
  | none=>.no)
 | .exc c=>.exc c
 | .no=>.no
theorem zyb {g:TG}{asg:PV->Rho->Option Rho}{body:Fs}{D:Ends}{lo:Int}{n:Nat} (hg:GOk M [] is g asg) (rep:Rep M ρ σ H fps) (q:RsOk M D H fps (zws asg body (zvt lo n) ρ)):
  ∃ W:Nat->Nat->St->Hp->Prop,(∃ m,W 0 m σ H)/\∀ i m σ H,W i m σ H ->
   ((Itr lo n).stop i H/\D.nx σ H)\/((Itr lo n).go i H/\∃ N:St->Hp->Prop,(∀ σ' H',N σ' H'->∃ m',m' < m/\W (i + 1) m' σ' H')/\∀ x H',(Itr lo n).yld i H x H'->g x σ H' λ σ2 H2=>(tS M body) { D with nx:=N,ct:=N,bk:=D.nx } σ2 H2):=by
 refine zbr (Pq:=λ _ _=>True) hg (λ _ _ _=>trivial) (λ {H fps i} _ h=>?_) (λ {H fps i} _ h=>?_) (λ {ρ σ H fps i x H'} _ _ h y=>?_) rep trivial q
 ·rw [zzg] at h;exact h
 ·rw [zzg] at h;exact h
 ·rw [zzg] at h
  obtain ⟨e1,e2⟩:=y
  subst e1
  exact ⟨λ _ _ h=>h,.int (lo + i),by simp [zvt,h],by rw [e2,Own];exact ⟨rfl,rfl⟩⟩
theorem qc2 {g:TG}{asg:PV->Rho->Option Rho}{body:Fs}{fa:Fa}{D:Ends} (hg:GOk M [] is g asg) (hq:tS M (zkj zxu fa asg body) D σ H):tFor (qg7 (tL M fa vs)) g (tS M body) D σ H:=by
 obtain ⟨ρ,fps,rep,q⟩:=hq
 refine ⟨ρ,fps,rep,?_⟩
 unfold zkj at q
 cases ef:fa ρ with
 | no=>rw [ef] at q;exact q
 | exc c=>rw [ef] at q;exact λ H' fps' k=>q _ H' fps' k.ks
 | ok p=>
  obtain ⟨xs,ρ1⟩:=p
  rw [ef] at q
  intro ws H1 fps1 f1 k1 g1 rep1 o1 t1
  dsimp only at q
  cases ee:zxu xs with
  | none=>rw [ee] at q;exact q.elim
  | some ij=>
   obtain ⟨i,j⟩:=ij
   rw [ee] at q
   unfold zxu at ee
   split at ee
   ·rename_i j' d
    split at ee
    ·rename_i hb
     cases ee
     obtain ⟨v,r,f1,f2,rfl,_,_,h1,h2⟩:=o1
     obtain ⟨rfl,_⟩:=h2
     rw [Own] at h1
     obtain ⟨rfl,_⟩:=h1
     refine ⟨j,rfl,hb.1,hb.2,?_⟩
     have e:(j - 0).toNat=j.toNat:=by omega
     dsimp only at q
     rw [e] at q
     exact zyb hg rep1 (RsOk.from k1.ks q)
    ·cases ee
   ·cases ee
theorem qc1 {g:TG}{asg:PV->Rho->Option Rho}{body:Fs}{fa:Fa}{D:Ends} (hg:GOk M [] is g asg) (hq:tS M (zkj zbs fa asg body) D σ H):tFor (qg6 (tL M fa vs)) g (tS M body) D σ H:=by
 obtain ⟨ρ,fps,rep,q⟩:=hq
 refine ⟨ρ,fps,rep,?_⟩
 unfold zkj at q
 cases ef:fa ρ with
 | no=>rw [ef] at q;exact q
 | exc c=>rw [ef] at q;exact λ H' fps' k=>q _ H' fps' k.ks
 | ok p=>
  obtain ⟨xs,ρ1⟩:=p
  rw [ef] at q
  intro ws H1 fps1 f1 k1 g1 rep1 o1 t1
  dsimp only at q
  cases ee:zbs xs with
  | none=>rw [ee] at q;exact q.elim
  | some ij=>
   obtain ⟨i,j⟩:=ij
   rw [ee] at q
   unfold zbs at ee
   split at ee
   ·rename_i i' d j' d'
    split at ee
    ·rename_i hb
     cases ee
     obtain ⟨v,r,f1,f2,rfl,_,_,h1,h2⟩:=o1
     obtain ⟨v2,r2,f3,f4,rfl,_,_,h3,h4⟩:=h2
     obtain ⟨rfl,_⟩:=h4
     rw [Own] at h1 h3
     obtain ⟨rfl,_⟩:=h1
     obtain ⟨rfl,_⟩:=h3
     exact ⟨i,j,rfl,hb,zyb hg rep1 (RsOk.from k1.ks q)⟩
    ·cases ee
   ·cases ee
def signs (z:Str):List PV:=z.cps.toList.map λ c=>.str ⟨#[c]⟩
def zwk (f:Fx) (vs:List Nat) (asg:PV->Rho->Option Rho) (body:Fs):Fs:=λ ρ=>match f ρ with
 | .ok (.str z,d,ρ1)=>if zwy z=true then zws asg body (signs z) (zqs d vs ρ1) else .no
 | .ok (.lst xs,d,ρ1)=>zws asg body xs (zqs d vs ρ1)
 | .ok (.tup xs,d,ρ1)=>zws asg body xs (zqs d vs ρ1)
 | .ok _=>.no
 | .exc c=>.exc c
 | .no=>.no
theorem OwnL.get {K:Frag}{Z:Addr->Prop}:∀ {xs:List PV}{ws:List V}{i:Nat}{w:V},OwnL K H Z xs 0 ws []->ws[i]?=some w->∃ x,xs[i]?=some x/\Own K H Z x 0 w []
 | [],ws,i,w,h,e=>by
  rw [OwnL] at h
  obtain ⟨rfl,_⟩:=h
  simp at e
 | x::xs,ws,i,w,h,e=>by
  rw [OwnL] at h
  obtain ⟨v,s,f1,f2,rfl,ef,_,o1,o2⟩:=h
  obtain ⟨rfl,rfl⟩:f1=[]/\f2=[]:=by simpa using ef.symm
  cases i with
  | zero=>simp at e;subst e;exact ⟨x,by simp,o1⟩
  | succ i=>obtain ⟨y,e1,e2⟩:=o2.get (i:=i) (w:=w) (by simpa using e);exact ⟨y,by simpa using e1,e2⟩
theorem Rep.seen {x:PV}{d:Nat}{v:V}{fp:List Addr} (rep:Rep M ρ σ H fps) (k:KD M H fps H' fps') (g:Agr M ρ ρ') (r':Rep M ρ' σ H' fps') (o:Own M.K H' (Zt M vs fps' fp) x d v fp) (t:Temp M vs H H' fps' fp)
  (hal:∀ i,M.al i=[]) (hv:∀ i∈vs,M.Ms i=false):∃ fps2,KS M H fps H' fps2/\Rep M (zqs d vs ρ') σ H' fps2/\Own M.K H' (Zf M fps2) x 0 v []:=by
 unfold zqs
 by_cases hd:d=om
 ·rw [if_pos hd]
  rw [hd] at o
  exact ⟨fps',k.ks,r',Own.freeze (λ _ z=>z) x om v fp (λ a ha=>t.ndj a ha) (Own.full x v fp o)⟩
 ·rw [if_neg hd]
  exact ⟨zkq vs fps',k.ks.cool,r'.cool hal hv,Own.freeze (λ a h=>.inl (zvz h)) x d v fp (λ a ha z=>t.ndj a ha (zvz z).zf) o⟩
theorem qc0 {g:TG}{asg:PV->Rho->Option Rho}{body:Fs}{f:Fx}{D:Ends} (hal:∀ i,M.al i=[]) (hv:∀ i∈vs,M.Ms i=false) (hg:GOk M [] is g asg) (hq:tS M (zwk f vs asg body) D σ H):tFor (iSeq M.K (tE M f vs)) g (tS M body) D σ H:=by
 obtain ⟨ρ,fps,rep,q⟩:=hq
 refine ⟨ρ,fps,rep,?_⟩
 unfold zwk at q
 cases ef:f ρ with
 | no=>rw [ef] at q;exact q
 | exc c=>rw [ef] at q;exact λ H' fps' k=>q _ H' fps' k.ks
 | ok p=>
  obtain ⟨x,d,ρ1⟩:=p
  rw [ef] at q
  intro v H1 fps1 f1 k1 g1 rep1 o1 t1
  obtain ⟨fps2,k2,r2,o2⟩:=Rep.seen rep k1 g1 rep1 o1 t1 hal hv
  cases x with
  | lst xs=>
   have o2':=o2
   rw [Own] at o2'
   obtain ⟨a,ws,rfl,⟨_,hr,_,ol⟩ | ⟨h,_⟩⟩:=o2'
   ·have sq:SqL M.K H1 a ws:=.inl (.inl hr.1)
    refine .inl ⟨a,rfl,.inl ⟨⟨ws,sq⟩,?_⟩⟩
    have one:∀ {H:Hp}{fps:Fps},Own M.K H (Zf M fps) (.lst xs) 0 (.ref a) []->∃ ws,SqL M.K H a ws/\OwnL M.K H (Zf M fps) xs 0 ws []:=λ o=>by
     rw [Own] at o
     obtain ⟨b,ws,e,⟨_,hr,_,ol⟩ | ⟨h,_⟩⟩:=o
     ·cases e;exact ⟨ws,.inl (.inl hr.1),ol⟩
     ·exact absurd rfl h
    refine zbr (Pq:=λ H fps=>Own M.K H (Zf M fps) (.lst xs) 0 (.ref a) []) (els:=xs) hg (λ r k o=>k.stay0 r o) (λ {H fps i} o h=>?_) (λ {H fps i} o h=>?_) (λ {ρ σ H fps i x H'} _ o h y=>?_) r2 o2 (RsOk.from k2 q)
    ·obtain ⟨ws,s,ol⟩:=one o
     exact ⟨ws,ws[i]'(by rw [ol.length];exact h),s,by simp⟩
    ·obtain ⟨ws,s,ol⟩:=one o
     exact ⟨ws,s,by rw [ol.length];exact h⟩
    ·obtain ⟨ws,s,ol⟩:=one o
     obtain ⟨e1,e2⟩:=y
     subst e1
     exact ⟨λ _ _ h=>h,ol.get (e2 ws s)⟩
   ·exact absurd rfl h
  | tup xs=>
   have o2':=o2
   rw [Own] at o2'
   obtain ⟨a,ws,rfl,hr,ol⟩:=o2'
   refine .inl ⟨a,rfl,.inr ⟨⟨ws,.inl (.inl hr)⟩,?_⟩⟩
   have one:∀ {H:Hp}{fps:Fps},Own M.K H (Zf M fps) (.tup xs) 0 (.ref a) []->∃ ws,SqT M.K H a ws/\OwnL M.K H (Zf M fps) xs 0 ws []:=λ o=>by
    rw [Own] at o
    obtain ⟨b,ws,e,hr,ol⟩:=o
    cases e;exact ⟨ws,.inl (.inl hr),ol⟩
   refine zbr (Pq:=λ H fps=>Own M.K H (Zf M fps) (.tup xs) 0 (.ref a) []) (els:=xs) hg (λ r k o=>k.stay0 r o) (λ {H fps i} o h=>?_) (λ {H fps i} o h=>?_) (λ {ρ σ H fps i x H'} _ o h y=>?_) r2 o2 (RsOk.from k2 q)
   ·obtain ⟨ws,s,ol⟩:=one o
    exact ⟨ws,ws[i]'(by rw [ol.length];exact h),s,by simp⟩
   ·obtain ⟨ws,s,ol⟩:=one o
    exact ⟨ws,s,by rw [ol.length];exact h⟩
   ·obtain ⟨ws,s,ol⟩:=one o
    obtain ⟨e1,e2⟩:=y
    subst e1
    exact ⟨λ _ _ h=>h,ol.get (e2 ws s)⟩
  | str z=>
   have o2':=o2
   rw [Own] at o2'
   obtain ⟨rfl,_⟩:=o2'
   dsimp only at q
   split at q
   ·rename_i ha
    refine .inr ⟨z,rfl,ha,?_⟩
    have hl:(signs z).length=z.cps.size:=by unfold signs;rw [ja1,je9]
    refine zbr (Pq:=λ _ _=>True) (els:=signs z) hg (λ _ _ _=>trivial) (λ {H fps i} _ h=>?_) (λ {H fps i} _ h=>?_) (λ {ρ σ H fps i x H'} _ _ h y=>?_) r2 trivial (RsOk.from k2 q)
    ·show i < z.cps.size
     omega
    ·show z.cps.size<=i
     omega
    ·obtain ⟨rfl,c,hc,rfl⟩:=y
     refine ⟨λ _ _ h=>h,.str ⟨#[c]⟩,?_,by rw [Own];exact ⟨rfl,rfl⟩⟩
     unfold signs
     rw [jc4,jk2,hc]
     rfl
   ·exact q.elim
  | _=>exact q.elim
end
section
variable {M:Fm}{ρ ρ':Rho}{σ σ':St}{H H' H'':Hp}{fps fps' fps'':Fps}{vs vs':List Nat}
def Fm.comp (M:Fm) (D:Addr) (n:Nat) (vI:List Nat):Fm:={ M.plus [D] with W:=λ _ _ _=>False,al:=λ j=>if j < n then M.al j else vI }
theorem Rep.minus {fp:List Addr} (r:Rep (M.plus fp) ρ σ H fps):Rep M ρ σ H fps where
 own:=λ i x d e=>let ⟨v,h1,h2⟩:=r.own i x d e;⟨v,h1,h2.weak λ a h=>h.elim (λ h=>.inl (.inl h)) .inr⟩
 non:=r.non
 dj:=r.dj
 zo:=λ i a ha z=>r.zo i a ha (.inl z)
 fr:=r.fr
 zd:=λ a z=>r.zd a (.inl z)
 len:=r.len
 msf:=r.msf
 h0:=r.h0
 iov:=r.iov
theorem Rep.far (r:Rep M ρ σ H fps) {j:Nat} (h:ρ.length<=j):fps j=[]:=r.non j λ p e=>by
 rw [ji5.mpr h] at e;cases e
theorem Rep.ext {D:Addr}{k:Nat}{vI:List Nat} (r:Rep (M.plus [D]) ρ σ H fps):Rep (M.comp D ρ.length vI) (ρ++ja6 k none) (σ++ja6 k none) H fps where
 own:=λ i x d e=>by
  by_cases hi:i < ρ.length
  ·rw [jc0 hi] at e
   obtain ⟨v,h1,h2⟩:=r.own i x d e
   refine ⟨v,by rw [jc0 (by rw [<- r.len];exact hi)];exact h1,h2.weak λ a h=>?_⟩
   rcases h with h | ⟨j,nj,h⟩
   ·exact .inl h
   ·refine .inr ⟨j,?_,h⟩
    have:(M.comp D ρ.length vI).al i=M.al i:=if_pos hi
    rw [this] at nj;exact nj
  ·rw [jc8 (by omega),je4] at e
   split at e <;> cases e
 non:=λ i h=>by
  by_cases hi:i < ρ.length
  ·exact r.non i λ p e=>h p (by rw [jc0 hi];exact e)
  ·exact r.far (by omega)
 dj:=r.dj
 zo:=r.zo
 fr:=r.fr
 zd:=r.zd
 len:=by simp [r.len]
 msf:=λ i x d hm e=>by
  by_cases hi:i < ρ.length
  ·rw [jc0 hi] at e;exact r.msf i x d hm e
  ·rw [jc8 (by omega),je4] at e
   split at e <;> cases e
 h0:=r.h0
 iov:=⟨λ v hv=>by
  have h:=r.iov.1 v hv
  refine ⟨?_,h.2⟩
  have:0 < σ.length:=(ja8.mp h.1).1
  rw [jc0 this];exact h.1,λ p hp=>by
  have h:=r.iov.2 p hp
  rw [jc0 (ja8.mp h).1];exact h⟩
def cut (n:Nat) (fps:Fps):Fps:=λ j=>if j < n then fps j else []
theorem zvm {n i:Nat}{a:Addr} (h:a∈cut n fps i):a∈fps i/\i < n:=by
 unfold cut at h
 split at h
 ·rename_i hi;exact ⟨h,hi⟩
 ·cases h
theorem Rep.take {D:Addr}{n:Nat}{vI:List Nat} (r:Rep (M.comp D n vI) ρ σ H fps) (hσ:∀ i,i < n->σ[i]?=σ'[i]?) (hl:σ'.length=n) (hn:n<=ρ.length) (hio:(M.io≠none->0 < n)/\∀ p∈M.pn,p.1 < n):Rep (M.plus [D]) (ρ.take n) σ' H (cut n fps) where
 own:=λ i x d e=>by
  have hi:i < n:=by
   have:=(ja8.mp e).1
   rw [jd0] at this;omega
  rw [jf9 hi] at e
  obtain ⟨v,h1,h2⟩:=r.own i x d e
  refine ⟨v,by rw [<- hσ i hi];exact h1,?_⟩
  have:cut n fps i=fps i:=if_pos hi
  rw [this]
  refine h2.weak λ a h=>?_
  rcases h with h | ⟨j,nj,h⟩
  ·exact .inl h
  ·refine .inr ⟨j,?_,(zvm h).1⟩
   have:(M.comp D n vI).al i=M.al i:=if_pos hi
   rw [this];exact nj
 non:=λ i h=>by
  unfold cut
  split
  ·rename_i hi
   exact r.non i λ p e=>h p (by rw [jf9 hi];exact e)
  ·rfl
 dj:=λ i j hij a ha hb=>r.dj i j hij a (zvm ha).1 (zvm hb).1
 zo:=λ i a ha=>r.zo i a (zvm ha).1
 fr:=λ i hi a ha=>r.fr i hi a (zvm ha).1
 zd:=r.zd
 len:=by rw [jd0,hl];omega
 msf:=λ i x d hm e=>by
  have hi:i < n:=by
   have:=(ja8.mp e).1
   rw [jd0] at this;omega
  rw [jf9 hi] at e
  exact r.msf i x d hm e
 h0:=r.h0
 iov:=⟨λ v hv=>by
  have h:=r.iov.1 v hv
  refine ⟨?_,h.2⟩
  have h0:0 < n:=hio.1 (by
   have hv':M.io=some v:=hv
   rw [hv'];simp)
  rw [<- hσ 0 h0];exact h.1,λ p hp=>by rw [<- hσ p.1 (hio.2 p hp)];exact r.iov.2 p hp⟩
theorem Rep.touch {D:Addr}{us ws:List V} (r:Rep (M.plus [D]) ρ σ H fps) (hD:H D=some (.lst ws)):Rep (M.plus [D]) ρ σ (upd H D (.lst us)) fps:=by
 have zD:(M.plus [D]).Zo D:=.inr (by simp)
 have dm:∀ b,H b≠none->(upd H D (.lst us)) b≠none:=λ b h=>by
  by_cases eb:b=D
  ·rw [eb,zqv];simp
  ·rw [zqp eb];exact h
 exact ⟨λ i x d e=>let ⟨v,h1,h2⟩:=r.own i x d e;⟨v,h1,h2.at (.inl zD) ⟨.l ws,hD⟩ (λ z=>r.zo i D z zD) λ _ _ n=>n⟩,r.non,r.dj,r.zo,r.fr,λ a z=>dm a (r.zd a z),r.len,r.msf,λ a z=>dm a (r.h0 a z),r.iov⟩
theorem Tmps.snoc {K:Frag}{Z:Addr->Prop}{y:PV}{e:Nat}{w:V}{fe:List Addr} (hy:Own K H (λ a=>Z a\/a∈fe) y e w fe):∀ {xs:List (PV×Nat)}{ws:List V}{fp:List Addr},Tmps K H Z xs ws fp->(∀ a∈fp,a∉fe)->Tmps K H Z (xs++[(y,e)]) (ws++[w]) (fp++fe)
 | [],ws,fp,h,_=>by
  obtain ⟨rfl,rfl⟩:=h
  exact ⟨w,[],fe,[],rfl,by simp,λ _ _ z=>(nomatch z),hy,rfl,rfl⟩
 | (x,d)::xs,ws,fp,h,hd=>by
  obtain ⟨v,s,f1,f2,rfl,rfl,dj,h1,h2⟩:=h
  refine ⟨v,s++[w],f1,f2++fe,rfl,by rw [jh2],λ a ha hb=>?_,h1,h2.snoc hy λ a ha=>hd a (ja7 _ ha)⟩
  rcases jc1.mp hb with z | z
  ·exact dj a ha z
  ·exact hd a (ja9 _ ha) z
theorem Tmps.at {K:Frag}{Z:Addr->Prop}{a:Addr}{o:HO} (hZ:Z a) (hl:∃ o:MO,H a=some o.ho):∀ {xs:List (PV×Nat)}{ws:List V}{fp:List Addr},Tmps K H Z xs ws fp->a∉fp->Tmps K (upd H a o) Z xs ws fp
 | [],_,_,h,_=>h
 | (x,d)::xs,ws,fp,h,hf=>by
  obtain ⟨v,s,f1,f2,e1,rfl,dj,h1,h2⟩:=h
  exact ⟨v,s,f1,f2,e1,rfl,dj,h1.at (.inl hZ) hl (λ z=>hf (ja9 _ z)) λ _ _ n=>n,h2.at hZ hl λ z=>hf (ja7 _ z)⟩
theorem Tmps.lsts {K:Frag}{Z:Addr->Prop}:∀ {xs:List (PV×Nat)}{ws:List V}{fp:List Addr},Tmps K H Z xs ws fp->∀ a∈fp,∃ o:MO,H a=some o.ho
 | [],_,_,h,a,ha=>by rw [h.2] at ha;cases ha
 | (x,d)::xs,ws,fp,h,a,ha=>by
  obtain ⟨v,s,f1,f2,e1,rfl,dj,h1,h2⟩:=h
  rcases jc1.mp ha with z | z
  ·exact Own.lsts x d v f1 h1 a z
  ·exact h2.lsts a z
def Rz.bindN {α β:Type} (r:Rz α) (f:α->Rz β):Rz β:=match r with
 | .ok a=>f a
 | _=>.no
def zzm (k:Nat) (asg:PV->Rho->Option Rho) (test:Fb) (elt:Fx):List PV->Rho->List (PV×Nat)->Rz (List (PV×Nat)×Rho)
 | [],ρ,acc=>.ok (acc,ρ)
 | x::xs,ρ,acc=>match asg x (ρ++ja6 k none) with
  | none=>.no
  | some ρ1=>(test ρ1).bindN λ (b,ρ2)=>if b=true then (elt ρ2).bindN λ (y,e,ρ3)=>(if acc.length < sizeLine then zzm k asg test elt xs (ρ3.take ρ.length) (acc++[(y,e)]) else .no) else zzm k asg test elt xs (ρ2.take ρ.length) acc
theorem KD.seen {D:Addr}{x:PV}{v:V} (r:Rep M ρ σ H fps) (k:KD M H fps H' fps') (hD:H D=none) (hv:∀ i∈vs,M.Ms i=false) (o:Own M.K H (Zv M vs fps) x 0 v []):Own M.K H' (Zv (M.plus [D]) vs fps') x 0 v []:=by
 refine Own.move k.keep ?_ ?_ x 0 v [] (λ _ z=>nomatch z) o
 ·rintro a ⟨i,hi,ha⟩
  exact ⟨.inr ⟨i,λ z=>(by rw [hv i z] at hi;cases hi),ha⟩,r.lsts ha⟩
 ·intro a hd nz z
  rcases z with (z | z) | ⟨i,ni,hx⟩
  ·exact nz (.inl z)
  ·rw [jb8.mp z] at hd;exact hd hD
  ·rcases k.sub i a hx with z | z
   ·exact nz (.inr ⟨i,ni,z⟩)
   ·exact hd z
theorem zyd {g:TG}{is vI vE vo:List Nat}{asg:PV->Rho->Option Rho}{test:Fb}{elt:Fx}{k:Nat}{J:It}{els:List PV}{Q:VK}{n:Nat}{P:Fm->Prop}
  (hP:∀ D,P (M.comp D n vI)) (hn:n=ρ.length) (hal:∀ i,∀ j∈M.al i,M.Ms j=false) (hvI:∀ i∈vI,M.Ms i=false) (hvE:∀ i∈vE,M.Ms i=false) (his:∀ i∈is,n<=i) (hg:∀ D,GOk (M.comp D n vI) vI is g asg) (hvo:∀ i,i∈vE->i < n->i∈vo) (hvo2:∀ i∈vo,M.Ms i=false)
  (rep:Rep M ρ σ H fps)
  (hgo:∀ {D H' fps' i},H D=none->KD M H fps H' fps'->i < els.length->J.go i H') (hst:∀ {D H' fps' i},H D=none->KD M H fps H' fps'->els.length<=i->J.stop i H')
  (hy:∀ {D H' fps' i x H''},H D=none->KD M H fps H' fps'->i < els.length->J.yld i H' x H''->(∀ a o,H' a=some o->H'' a=some o)/\∃ z,els[i]?=some z/\Own M.K H'' (Zv (M.plus [D]) vI fps') z 0 x [])
  (q:match zzm k asg test elt els ρ [] with
   | .ok (acc,ρ')=>∀ D ws H' fps' fpl,KD M H fps H' fps'->Agr M ρ ρ'->Rep (M.plus [D]) ρ' σ H' fps'->H D=none->H' D=some (.lst ws)->Tmps M.K H' (Zv (M.plus [D]) vo fps') acc ws fpl->(∀ a∈fpl,H a=none/\¬ Zf (M.plus [D]) fps' a)->Q (.ref D) H'
   | _=>False):
  ∀ D,H D=none->∃ W:Nat->Nat->List V->Hp->Prop,(∃ m,W 0 m [] (upd H D (.lst [])))/\∀ i m ys H1,W i m ys H1->H1 D=some (.lst ys) /\
   ((J.stop i H1/\Q (.ref D) H1)\/(J.go i H1/\∀ x H',J.yld i H1 x H'->g x (σ++ja6 k none) H' λ σ2 H2=>∃ M',P M'/\tT M' test σ2 H2 λ b H3=>if b=true then ∃ M',P M'/\tE M' elt vE σ2 H3 λ y H4=>H4 D=some (.lst ys)/\ys.length < sizeLine/\∃ m',m' < m/\W (i + 1) m' (ys++[y]) (upd H4 D (.lst (ys++[y]))) else ∃ m',m' < m/\W (i + 1) m' ys H3)):=by
 intro D hD
 subst hn
 let W:Nat->Nat->List V->Hp->Prop:=λ i m ys H1=>m=els.length - i/\∃ ρ1 fps1 acc fpl,Rep (M.plus [D]) ρ1 σ H1 fps1/\KD M H fps H1 fps1/\Agr M ρ ρ1/\Tmps M.K H1 (Zv (M.plus [D]) vo fps1) acc ys fpl/\(∀ a∈fpl,H a=none/\¬ Zf (M.plus [D]) fps1 a)/\H1 D=some (.lst ys)/\zzm k asg test elt (els.drop i) ρ1 acc=zzm k asg test elt els ρ []
 have k0:KD M H fps (upd H D (.lst [])) fps:=KD.grow λ a o h=>by rw [zqp (λ e=>by rw [e,hD] at h;cases h)];exact h
 have r0:Rep (M.plus [D]) ρ σ (upd H D (.lst [])) fps:=by
  refine rep.wide hal k0 Agr.refl (rep.grow λ a o h=>by rw [zqp (λ e=>by rw [e,hD] at h;cases h)];exact h) λ a ha=>?_
  rw [jb8.mp ha]
  exact ⟨hD,by rw [zqv];simp,rep.nz hD⟩
 refine ⟨W,⟨els.length,by simp,ρ,fps,[],[],r0,k0,Agr.refl,⟨rfl,rfl⟩,λ _ z=>(nomatch z),zqv,by simp⟩,?_⟩
 rintro i m ys H1 ⟨rfl,ρ1,fps1,acc,fpl,r1,k1,g1,tm,hf,h1D,ec⟩
 refine ⟨h1D,?_⟩
 have hlen:ρ1.length=ρ.length:=g1.2
 by_cases hi:i < els.length
 ·right
  refine ⟨hgo hD k1 hi,λ x H' hyl=>?_⟩
  obtain ⟨kx,z,ez,oz⟩:=hy hD k1 hi hyl
  have tm:=KD.stays (M:=M.plus [D]) (KD.grow kx) r1 hvo2 tm λ a ha=>(hf a ha).2
  have r1:=r1.grow kx
  have k1:=k1.trans (KD.grow (M:=M) (fps:=fps1) kx)
  have h1D:=kx D _ h1D
  have ed:els.drop i=z::els.drop (i + 1):=by
   obtain ⟨h1,h2⟩:=ja8.mp ez
   rw [<- h2];exact jg9 h1
  rw [ed] at ec
  have good:∃ a r,zzm k asg test elt els ρ []=.ok (a,r):=by
   cases e:zzm k asg test elt els ρ [] with
   | ok p=>exact ⟨p.1,p.2,rfl⟩
   | exc c=>rw [e] at q;exact q.elim
   | no=>rw [e] at q;exact q.elim
  obtain ⟨accF,ρF,eF⟩:=good
  rw [eF] at ec
  unfold zzm at ec
  cases ea:asg z (ρ1++ja6 k none) with
  | none=>rw [ea] at ec;cases ec
  | some ρ2=>
   rw [ea] at ec
   dsimp only at ec
   have rx:Rep (M.comp D ρ.length vI) (ρ1++ja6 k none) (σ++ja6 k none) H' fps1:=by rw [<- hlen];exact r1.ext
   refine hg D z x _ _ H' fps1 ρ2 _ rx oz ea λ σ2 fps2 s2 a2 l2 r2=>⟨_,hP D,ρ2,fps2,r2,?_⟩
   have hl2:ρ2.length=ρ.length + k:=by rw [l2,jb4,jf1,hlen]
   have same2:∀ j,j < ρ.length->ρ2[j]?=ρ1[j]?/\fps2 j=fps1 j/\σ2[j]?=σ[j]?:=λ j hj=>by
    obtain ⟨z1,z2,z3⟩:=a2 j λ z=>absurd (his j z) (by omega)
    rw [jc0 (by omega)] at z1
    rw [jc0 (by rw [<- rep.len];omega)] at z3
    exact ⟨z1,z2,z3⟩
   have kd2:KD (M.comp D ρ.length vI) H' fps1 H' fps2->True:=λ _=>trivial
   cases et:test ρ2 with
   | exc c=>rw [et] at ec;cases ec
   | no=>rw [et] at ec;cases ec
   | ok p=>
    obtain ⟨b,ρ3⟩:=p
    rw [et] at ec
    intro H3 fps3 k3 g3 r3
    dsimp only [Rz.bindN] at ec
    have far:∀ {ρ4:Rho}{H4:Hp}{fps4:Fps},KD (M.comp D ρ.length vI) H' fps2 H4 fps4->Agr (M.comp D ρ.length vI) ρ2 ρ4->Rep (M.comp D ρ.length vI) ρ4 σ2 H4 fps4 ->
      KD M H fps H4 (cut ρ.length fps4)/\KD M H' fps1 H4 (cut ρ.length fps4)/\Agr M ρ (ρ4.take ρ.length)/\Rep (M.plus [D]) (ρ4.take ρ.length) σ H4 (cut ρ.length fps4)/\H4 D=some (.lst ys):=λ {ρ4 H4 fps4} k4 g4 r4=>by
     have kk:KD M H' fps1 H4 (cut ρ.length fps4):=by
      refine ⟨λ a o ha hn=>k4.keep a o ha λ ⟨j,hj,hx⟩=>hn ⟨j,hj,s2 j a hx⟩,k4.dom,λ j a ha=>?_,λ j hj=>?_⟩
      ·rcases k4.sub j a (zvm ha).1 with z | z
       ·exact .inl (s2 j a z)
       ·exact .inr z
      ·unfold cut
       by_cases hjl:j < ρ.length
       ·rw [if_pos hjl,k4.same j hj];exact (same2 j hjl).2.1
       ·rw [if_neg hjl];exact (r1.far (by omega)).symm
     refine ⟨k1.trans kk,kk,?_,r4.take (σ':=σ) (λ j hj=>(same2 j hj).2.2) rep.len.symm (by rw [g4.2,hl2];omega) ⟨λ hio=>?_,λ p hp=>by rw [rep.len];exact (ja8.mp (rep.iov.2 p hp)).1⟩,?_⟩
     ·refine ⟨λ j hj=>?_,by rw [jd0,g4.2,hl2];omega⟩
      by_cases hjl:j < ρ.length
      ·rw [jf9 hjl,g4.1 j hj,(same2 j hjl).1];exact g1.1 j hj
      ·rw [ji5.mpr (by rw [jd0];omega),ji5.mpr (by omega)]
     ·cases e:M.io with
      | none=>exact absurd e hio
      | some v=>
       have:=(ja8.mp (rep.iov.1 v e).1).1
       rw [rep.len];exact this
     ·exact k4.keep D _ h1D λ ⟨j,_,hx⟩=>r2.zo j D hx (.inr (by simp))
    have notZ:∀ {H4:Hp}{fps4:Fps},KD M H' fps1 H4 fps4->∀ {a},a∈fpl->¬ Zf (M.plus [D]) fps4 a:=λ {H4 fps4} k4 a ha z=>by
     rcases z with z | ⟨j,z⟩
     ·exact (hf a ha).2 (.inl z)
     ·rcases k4.sub j a z with z | z
      ·exact (hf a ha).2 (.inr ⟨j,z⟩)
      ·obtain ⟨xs,e⟩:=tm.lsts a ha
       rw [z] at e;cases e
    cases b with
    | false=>
     rw [if_neg jc5] at ec ⊢
     obtain ⟨f1,f2,f3,f4,f5⟩:=far k3 g3 r3
     refine ⟨els.length - (i + 1),by omega,rfl,ρ3.take ρ.length,cut ρ.length fps3,acc,fpl,f4,f1,f3,?_,λ a ha=>⟨(hf a ha).1,λ z=>?_⟩,f5,by rw [eF,<- hlen];exact ec⟩
     ·exact KD.stays (M:=M.plus [D]) (σ:=σ) (ρ:=ρ1) ⟨f2.keep,f2.dom,f2.sub,f2.same⟩ r1 hvo2 tm λ a ha=>(hf a ha).2
     ·exact notZ f2 ha z
    | true=>
     rw [if_pos rfl] at ec ⊢
     refine ⟨_,hP D,ρ3,fps3,r3,?_⟩
     cases ee:elt ρ3 with
     | exc c=>rw [ee] at ec;cases ec
     | no=>rw [ee] at ec;cases ec
     | ok p=>
      obtain ⟨y,e,ρ4⟩:=p
      rw [ee] at ec
      intro w H4 fps4 fe k4 g4 r4 o4 t4
      dsimp only at ec
      by_cases hz:acc.length < sizeLine
      ·rw [if_pos hz] at ec
       obtain ⟨f1,f2,f3,f4,f5⟩:=far (k3.trans k4) (g3.trans g4) r4
       have tm4:Tmps M.K H4 (Zv (M.plus [D]) vo (cut ρ.length fps4)) acc ys fpl:=KD.stays (M:=M.plus [D]) (σ:=σ) (ρ:=ρ1) ⟨f2.keep,f2.dom,f2.sub,f2.same⟩ r1 hvo2 tm λ a ha=>(hf a ha).2
       have zD:Zv (M.plus [D]) vo (cut ρ.length fps4) D:=.inl (.inr (by simp))
       have hDe:D∉fe:=λ z=>t4.ndj D z (.inl (.inr (by simp)))
       have hDl:D∉fpl:=λ z=>(hf D z).2 (.inl (.inr (by simp)))
       have oy:Own M.K H4 (λ a=>Zv (M.plus [D]) vo (cut ρ.length fps4) a\/a∈fe) y e w fe:=o4.weak λ a h=>h.elim (λ h=>.inl (h.elim .inl λ ⟨j,nj,hx⟩=>.inr ⟨j,λ z=>nj (hvo j z (zvm hx).2),(zvm hx).1⟩)) .inr
       have back3:∀ a,H3 a=none->H' a=none:=λ a e=>by
        cases e':H' a with
        | none=>rfl
        | some o=>exact absurd e (k3.dom a (by rw [e'];simp))
       have back1:∀ a,H' a=none->H a=none:=λ a e=>by
        cases e':H a with
        | none=>rfl
        | some o=>exact absurd e (k1.dom a (by rw [e'];simp))
       have kt:KD M H fps (upd H4 D (.lst (ys++[w]))) (cut ρ.length fps4):=⟨λ a o ha hn=>by rw [zqp (λ e=>by rw [e,hD] at ha;cases ha)];exact f1.keep a o ha hn,λ a ha=>by
        by_cases eb:a=D
        ·rw [eb,zqv];simp
        ·rw [zqp eb];exact f1.dom a ha,f1.sub,f1.same⟩
       refine ⟨f5,by rw [tm.length];exact hz,els.length - (i + 1),by omega,rfl,ρ4.take ρ.length,cut ρ.length fps4,acc++[(y,e)],fpl++fe,f4.touch f5,kt,f3,?_,λ a ha=>?_,zqv,by rw [eF,<- hlen];exact ec⟩
       ·exact (tm4.at zD ⟨.l ys,f5⟩ hDl).snoc (oy.at (.inl zD) ⟨.l ys,f5⟩ hDe λ _ _ n=>n) λ a ha hb=>by
         obtain ⟨xs,e⟩:=tm.lsts a ha
         rw [back3 a (t4.new a hb)] at e;cases e
       ·rcases jc1.mp ha with z | z
        ·exact ⟨(hf a z).1,notZ f2 z⟩
        ·refine ⟨back1 a (back3 a (t4.new a z)),λ hz=>t4.ndj a z ?_⟩
         rcases hz with hz | ⟨j,hz⟩
         ·exact .inl hz
         ·exact .inr ⟨j,(zvm hz).1⟩
      ·rw [if_neg hz] at ec;cases ec
 ·left
  have ed:els.drop i=[]:=jj7 (by omega)
  rw [ed] at ec
  rw [<- ec] at q
  unfold zzm at q
  exact ⟨hst hD k1 (by omega),q D ys H1 fps1 fpl k1 g1 r1 hD h1D tm hf⟩
end
section
variable {M:Fm}{ρ ρ':Rho}{σ σ':St}{H H' H'':Hp}{fps fps' fps'':Fps}{vs vs':List Nat}
def zvp:List (PV×Nat)->Bool
 | []=>true
 | p::r=>(p.2 == om) && zvp r
theorem zvy:∀ {xs:List (PV×Nat)},zvp xs=true->∀ p∈xs,p.2=om
 | [],_,_,h=>nomatch h
 | p::r,h,q,hq=>by
  unfold zvp at h
  rw [ja4] at h
  rcases jb0.mp hq with e | e
  ·rw [e];exact eq_of_beq h.1
  ·exact zvy h.2 q e
def zvk (acc:List (PV×Nat)) (ρ:Rho):Rz (PV×Nat×Rho):=.ok (.lst (acc.map (·.1)),if zvp acc then om else 1,ρ)
def zqw (f:Fx) (k:Nat) (asg:PV->Rho->Option Rho) (test:Fb) (elt:Fx):Fx:=λ ρ=>match f ρ with
 | .ok (.lst xs,_,ρ1)=>(zzm k asg test elt xs ρ1 []).bindN λ (acc,ρ2)=>zvk acc ρ2
 | .ok (.tup xs,_,ρ1)=>(zzm k asg test elt xs ρ1 []).bindN λ (acc,ρ2)=>zvk acc ρ2
 | .ok (.str z,_,ρ1)=>if zwy z=true then (zzm k asg test elt (signs z) ρ1 []).bindN λ (acc,ρ2)=>zvk acc ρ2 else .no
 | .ok _=>.no
 | .exc c=>.exc c
 | .no=>.no
def zwf (en:List (PV×Nat)->Option (Int×Int)) (fa:Fa) (k:Nat) (asg:PV->Rho->Option Rho) (test:Fb) (elt:Fx):Fx:=λ ρ=>match fa ρ with
 | .ok (xs,ρ1)=>(match en xs with
  | some (i,j)=>(zzm k asg test elt (zvt i (j - i).toNat) ρ1 []).bindN λ (acc,ρ2)=>zvk acc ρ2
  | none=>.no)
 | .exc c=>.exc c
 | .no=>.no
theorem zfo {D:Addr}{acc:List (PV×Nat)}{ws:List V}{fpl:List Addr}{vo:List Nat}{Q:VK}{H0:Hp}{fps0:Fps}{ρ0:Rho}
  (rep0:Rep M ρ σ H fps) (k0:KD M H0 fps0 H fps) (g0:Agr M ρ0 ρ) (q:∀ v H' fps' fp,KD M H0 fps0 H' fps'->Agr M ρ0 ρ'->Rep M ρ' σ H' fps'->Own M.K H' (Zt M vo fps' fp) (.lst (acc.map (·.1))) (if zvp acc then om else 1) v fp->Temp M vo H0 H' fps' fp->Q v H')
  (k:KD M H fps H' fps') (g:Agr M ρ ρ') (r:Rep (M.plus [D]) ρ' σ H' fps') (hD:H D=none) (hD':H' D=some (.lst ws)) (tm:Tmps M.K H' (Zv (M.plus [D]) vo fps') acc ws fpl) (hf:∀ a∈fpl,H a=none/\¬ Zf (M.plus [D]) fps' a):Q (.ref D) H':=by
 have back:∀ a,H a=none->H0 a=none:=λ a e=>by
  cases e':H0 a with
  | none=>rfl
  | some o=>exact absurd e (k0.dom a (by rw [e'];simp))
 have nD:¬ Zf M fps' D:=λ z=>by
  rcases z with z | ⟨j,z⟩
  ·exact rep0.zd D z hD
  ·exact r.zo j D z (.inr (by simp))
 have hDl:D∉fpl:=λ z=>(hf D z).2 (.inl (.inr (by simp)))
 have zt:∀ a,Zt M vo fps' [D] a->Zv (M.plus [D]) vo fps' a:=λ a h=>h.elim (λ h=>h.elim (λ h=>.inl (.inl h)) .inr) λ h=>.inl (.inr h)
 cases ho:zvp acc with
 | true=>
  rw [ho] at q
  refine q (.ref D) H' fps' (D::fpl) (k0.trans k) (g0.trans g) r.minus ?_ ⟨λ a ha=>?_,λ a ha=>?_⟩
  ·rw [Own]
   exact ⟨D,ws,rfl,.inr ⟨(by decide),fpl,hD',rfl,hDl,OwnL.full _ ws fpl (tm.all (zvy ho))⟩⟩
  ·rcases jb0.mp ha with z | z
   ·rw [z];exact back D hD
   ·exact back a (hf a z).1
  ·rcases jb0.mp ha with z | z
   ·rw [z];exact nD
   ·exact λ y=>(hf a z).2 (y.elim (λ y=>.inl (.inl y)) .inr)
 | false=>
  rw [ho] at q
  refine q (.ref D) H' fps' [D] (k0.trans k) (g0.trans g) r.minus ?_ ⟨λ a ha=>?_,λ a ha=>?_⟩
  ·show Own M.K H' (Zt M vo fps' [D]) (.lst (acc.map (·.1))) 1 (.ref D) [D]
   rw [Own]
   refine ⟨D,ws,rfl,.inr ⟨(by decide),[],hD',rfl,(λ z=>nomatch z),?_⟩⟩
   rw [qa4]
   exact (tm.cold λ a ha z=>(hf a ha).2 z.zf).weak zt
  ·rw [jb8.mp ha];exact back D hD
  ·rw [jb8.mp ha];exact nD
theorem qgc {g:TG}{is vI vE vo:List Nat}{asg:PV->Rho->Option Rho}{test:Fb}{elt f:Fx}{k n:Nat}{Q:VK}{P:Fm->Prop}
  (hn:σ.length=n) (hP:∀ D,P (M.comp D n vI)) (hal:∀ i,∀ j∈M.al i,M.Ms j=false) (hvI:∀ i∈vI,M.Ms i=false) (hvE:∀ i∈vE,M.Ms i=false) (his:∀ i∈is,n<=i) (hg:∀ D,GOk (M.comp D n vI) vI is g asg)
  (hvo:∀ i,i∈vE->i < n->i∈vo) (hvo2:∀ i∈vo,M.Ms i=false) (hq:tE M (zqw f k asg test elt) vo σ H Q):
  zhs k (iSeq M.K (tE M f vI)) g (λ σ H Q=>∃ M',P M'/\tT M' test σ H Q) (λ σ H Q=>∃ M',P M'/\tE M' elt vE σ H Q) σ H Q:=by
 obtain ⟨ρ,fps,rep,q⟩:=hq
 refine ⟨ρ,fps,rep,?_⟩
 unfold zqw at q
 cases ef:f ρ with
 | no=>rw [ef] at q;exact q
 | exc c=>rw [ef] at q;exact q
 | ok p=>
  obtain ⟨x,d,ρ1⟩:=p
  rw [ef] at q
  intro v H1 fps1 f1 k1 g1 rep1 o1 t1
  have o0:Own M.K H1 (Zv M vI fps1) x 0 v []:=Own.freeze (λ _ z=>.inl z) x d v f1 (λ a ha z=>t1.ndj a ha z.zf) o1
  have hl:n=ρ1.length:=by rw [rep1.len];exact hn.symm
  have fin:∀ (els:List PV),(match (zzm k asg test elt els ρ1 []).bindN λ (acc,ρ2)=>zvk acc ρ2 with
    | .ok (x,d,ρ')=>∀ v H' fps' fp,KD M H fps H' fps'->Agr M ρ ρ'->Rep M ρ' σ H' fps'->Own M.K H' (Zt M vo fps' fp) x d v fp->Temp M vo H H' fps' fp->Q v H'
    | .exc c=>∀ H' fps',KD M H fps H' fps'->M.W σ c H'
    | .no=>False)->(match zzm k asg test elt els ρ1 [] with
    | .ok (acc,ρ')=>∀ D ws H' fps' fpl,KD M H1 fps1 H' fps'->Agr M ρ1 ρ'->Rep (M.plus [D]) ρ' σ H' fps'->H1 D=none->H' D=some (.lst ws)->Tmps M.K H' (Zv (M.plus [D]) vo fps') acc ws fpl->(∀ a∈fpl,H1 a=none/\¬ Zf (M.plus [D]) fps' a)->Q (.ref D) H'
    | _=>False):=λ els q=>by
   cases ec:zzm k asg test elt els ρ1 [] with
   | no=>rw [ec] at q;exact q.elim
   | exc c=>rw [ec] at q;exact q.elim
   | ok p=>
    obtain ⟨acc,ρ2⟩:=p
    rw [ec] at q
    exact λ D ws H' fps' fpl k g r hD hD' tm hf=>zfo rep1 k1 g1 q k g r hD hD' tm hf
  cases x with
  | lst xs=>
   have one:∀ {Z:Addr->Prop}{H:Hp},Own M.K H Z (.lst xs) 0 v []->∃ a ws,v=.ref a/\SqL M.K H a ws/\OwnL M.K H Z xs 0 ws []:=λ o=>by
    rw [Own] at o
    obtain ⟨b,ws,e,⟨_,hr,_,ol⟩ | ⟨h,_⟩⟩:=o
    ·exact ⟨b,ws,e,.inl (.inl hr.1),ol⟩
    ·exact absurd rfl h
   obtain ⟨a,ws,rfl,sq,ol⟩:=one o0
   refine .inl ⟨a,rfl,.inl ⟨⟨ws,sq⟩,?_⟩⟩
   refine zyd (els:=xs) hP hl hal hvI hvE his hg hvo hvo2 rep1 (λ {D H' fps' i} hD k' h=>?_) (λ {D H' fps' i} hD k' h=>?_) (λ {D H' fps' i x H''} hD k' h y=>?_) (fin xs q)
   ·obtain ⟨a',ws,e,s,ol⟩:=one (KD.seen rep1 k' hD hvI o0)
    cases e
    exact ⟨ws,ws[i]'(by rw [ol.length];exact h),s,by simp⟩
   ·obtain ⟨a',ws,e,s,ol⟩:=one (KD.seen rep1 k' hD hvI o0)
    cases e
    exact ⟨ws,s,by rw [ol.length];exact h⟩
   ·obtain ⟨a',ws,e,s,ol⟩:=one (KD.seen rep1 k' hD hvI o0)
    cases e
    obtain ⟨e1,e2⟩:=y
    subst e1
    exact ⟨λ _ _ h=>h,ol.get (e2 ws s)⟩
  | tup xs=>
   have one:∀ {Z:Addr->Prop}{H:Hp},Own M.K H Z (.tup xs) 0 v []->∃ a ws,v=.ref a/\SqT M.K H a ws/\OwnL M.K H Z xs 0 ws []:=λ o=>by
    rw [Own] at o
    obtain ⟨a,ws,e,hr,ol⟩:=o
    exact ⟨a,ws,e,.inl (.inl hr),ol⟩
   obtain ⟨a,ws,rfl,sq,ol⟩:=one o0
   refine .inl ⟨a,rfl,.inr ⟨⟨ws,sq⟩,?_⟩⟩
   refine zyd (els:=xs) hP hl hal hvI hvE his hg hvo hvo2 rep1 (λ {D H' fps' i} hD k' h=>?_) (λ {D H' fps' i} hD k' h=>?_) (λ {D H' fps' i x H''} hD k' h y=>?_) (fin xs q)
   ·obtain ⟨a',ws,e,s,ol⟩:=one (KD.seen rep1 k' hD hvI o0)
    cases e
    exact ⟨ws,ws[i]'(by rw [ol.length];exact h),s,by simp⟩
   ·obtain ⟨a',ws,e,s,ol⟩:=one (KD.seen rep1 k' hD hvI o0)
    cases e
    exact ⟨ws,s,by rw [ol.length];exact h⟩
   ·obtain ⟨a',ws,e,s,ol⟩:=one (KD.seen rep1 k' hD hvI o0)
    cases e
    obtain ⟨e1,e2⟩:=y
    subst e1
    exact ⟨λ _ _ h=>h,ol.get (e2 ws s)⟩
  | str z=>
   have o0':=o0
   rw [Own] at o0'
   obtain ⟨rfl,_⟩:=o0'
   dsimp only at q
   by_cases ha:zwy z=true
   ·rw [if_pos ha] at q
    refine .inr ⟨z,rfl,ha,?_⟩
    have hl':(signs z).length=z.cps.size:=by unfold signs;rw [ja1,je9]
    refine zyd (els:=signs z) hP hl hal hvI hvE his hg hvo hvo2 rep1 (λ {D H' fps' i} hD k' h=>?_) (λ {D H' fps' i} hD k' h=>?_) (λ {D H' fps' i x H''} hD k' h y=>?_) (fin (signs z) q)
    ·show i < z.cps.size
     omega
    ·show z.cps.size<=i
     omega
    ·obtain ⟨rfl,c,hc,rfl⟩:=y
     refine ⟨λ _ _ h=>h,.str ⟨#[c]⟩,?_,by rw [Own];exact ⟨rfl,rfl⟩⟩
     unfold signs
     rw [jc4,jk2,hc]
     rfl
   ·rw [if_neg ha] at q
    exact q.elim
  | _=>exact q.elim
theorem zpz {g:TG}{is vI vE vo:List Nat}{asg:PV->Rho->Option Rho}{test:Fb}{elt:Fx}{k n:Nat}{Q:VK}{P:Fm->Prop}{lo:Int}{m:Nat}{H0:Hp}{fps0:Fps}{ρ0:Rho}
  (hn:σ.length=n) (hP:∀ D,P (M.comp D n vI)) (hal:∀ i,∀ j∈M.al i,M.Ms j=false) (hvI:∀ i∈vI,M.Ms i=false) (hvE:∀ i∈vE,M.Ms i=false) (his:∀ i∈is,n<=i) (hg:∀ D,GOk (M.comp D n vI) vI is g asg)
  (hvo:∀ i,i∈vE->i < n->i∈vo) (hvo2:∀ i∈vo,M.Ms i=false) (k0:KD M H0 fps0 H fps) (g0:Agr M ρ0 ρ) (rep:Rep M ρ σ H fps)
  (q:match (zzm k asg test elt (zvt lo m) ρ []).bindN λ (acc,ρ2)=>zvk acc ρ2 with
    | .ok (x,d,ρ')=>∀ v H' fps' fp,KD M H0 fps0 H' fps'->Agr M ρ0 ρ'->Rep M ρ' σ H' fps'->Own M.K H' (Zt M vo fps' fp) x d v fp->Temp M vo H0 H' fps' fp->Q v H'
    | .exc c=>∀ H' fps',KD M H0 fps0 H' fps'->M.W σ c H'
    | .no=>False):
  ∀ D,H D=none->∃ W:Nat->Nat->List V->Hp->Prop,(∃ m,W 0 m [] (upd H D (.lst [])))/\∀ i j ys H1,W i j ys H1->H1 D=some (.lst ys) /\
   (((Itr lo m).stop i H1/\Q (.ref D) H1)\/((Itr lo m).go i H1/\∀ x H',(Itr lo m).yld i H1 x H'->g x (σ++ja6 k none) H' λ σ2 H2=>∃ M',P M'/\tT M' test σ2 H2 λ b H3=>if b=true then ∃ M',P M'/\tE M' elt vE σ2 H3 λ y H4=>H4 D=some (.lst ys)/\ys.length < sizeLine/\∃ m',m' < j/\W (i + 1) m' (ys++[y]) (upd H4 D (.lst (ys++[y]))) else ∃ m',m' < j/\W (i + 1) m' ys H3)):=by
 have hl:n=ρ.length:=by rw [rep.len];exact hn.symm
 refine zyd (els:=zvt lo m) hP hl hal hvI hvE his hg hvo hvo2 rep (λ {D H' fps' i} hD k' h=>?_) (λ {D H' fps' i} hD k' h=>?_) (λ {D H' fps' i x H''} hD k' h y=>?_) ?_
 ·rw [zzg] at h;exact h
 ·rw [zzg] at h;exact h
 ·rw [zzg] at h
  obtain ⟨e1,e2⟩:=y
  subst e1
  exact ⟨λ _ _ h=>h,.int (lo + i),by simp [zvt,h],by rw [e2,Own];exact ⟨rfl,rfl⟩⟩
 ·cases ec:zzm k asg test elt (zvt lo m) ρ [] with
  | no=>rw [ec] at q;exact q.elim
  | exc c=>rw [ec] at q;exact q.elim
  | ok p=>
   obtain ⟨acc,ρ2⟩:=p
   rw [ec] at q
   exact λ D ws H' fps' fpl k g r hD hD' tm hf=>zfo rep k0 g0 q k g r hD hD' tm hf
theorem qge {g:TG}{is vI vE vo:List Nat}{asg:PV->Rho->Option Rho}{test:Fb}{elt:Fx}{fa:Fa}{k n:Nat}{Q:VK}{P:Fm->Prop}
  (hn:σ.length=n) (hP:∀ D,P (M.comp D n vI)) (hal:∀ i,∀ j∈M.al i,M.Ms j=false) (hvI:∀ i∈vI,M.Ms i=false) (hvE:∀ i∈vE,M.Ms i=false) (his:∀ i∈is,n<=i) (hg:∀ D,GOk (M.comp D n vI) vI is g asg)
  (hvo:∀ i,i∈vE->i < n->i∈vo) (hvo2:∀ i∈vo,M.Ms i=false) (hq:tE M (zwf zxu fa k asg test elt) vo σ H Q):
  zhs k (qg7 (tL M fa vs)) g (λ σ H Q=>∃ M',P M'/\tT M' test σ H Q) (λ σ H Q=>∃ M',P M'/\tE M' elt vE σ H Q) σ H Q:=by
 obtain ⟨ρ,fps,rep,q⟩:=hq
 refine ⟨ρ,fps,rep,?_⟩
 unfold zwf at q
 cases ef:fa ρ with
 | no=>rw [ef] at q;exact q
 | exc c=>rw [ef] at q;exact q
 | ok p=>
  obtain ⟨xs,ρ1⟩:=p
  rw [ef] at q
  intro ws H1 fps1 f1 k1 g1 rep1 o1 t1
  dsimp only at q
  cases ee:zxu xs with
  | none=>rw [ee] at q;exact q.elim
  | some ij=>
   obtain ⟨i,j⟩:=ij
   rw [ee] at q
   unfold zxu at ee
   split at ee
   ·rename_i j' d
    split at ee
    ·rename_i hb
     cases ee
     obtain ⟨v,r,f1,f2,rfl,_,_,h1,h2⟩:=o1
     obtain ⟨rfl,_⟩:=h2
     rw [Own] at h1
     obtain ⟨rfl,_⟩:=h1
     refine ⟨j,rfl,hb.1,hb.2,?_⟩
     have e:(j - 0).toNat=j.toNat:=by omega
     dsimp only at q
     rw [e] at q
     exact zpz hn hP hal hvI hvE his hg hvo hvo2 k1 g1 rep1 q
    ·cases ee
   ·cases ee
theorem qgd {g:TG}{is vI vE vo:List Nat}{asg:PV->Rho->Option Rho}{test:Fb}{elt:Fx}{fa:Fa}{k n:Nat}{Q:VK}{P:Fm->Prop}
  (hn:σ.length=n) (hP:∀ D,P (M.comp D n vI)) (hal:∀ i,∀ j∈M.al i,M.Ms j=false) (hvI:∀ i∈vI,M.Ms i=false) (hvE:∀ i∈vE,M.Ms i=false) (his:∀ i∈is,n<=i) (hg:∀ D,GOk (M.comp D n vI) vI is g asg)
  (hvo:∀ i,i∈vE->i < n->i∈vo) (hvo2:∀ i∈vo,M.Ms i=false) (hq:tE M (zwf zbs fa k asg test elt) vo σ H Q):
  zhs k (qg6 (tL M fa vs)) g (λ σ H Q=>∃ M',P M'/\tT M' test σ H Q) (λ σ H Q=>∃ M',P M'/\tE M' elt vE σ H Q) σ H Q:=by
 obtain ⟨ρ,fps,rep,q⟩:=hq
 refine ⟨ρ,fps,rep,?_⟩
 unfold zwf at q
 cases ef:fa ρ with
 | no=>rw [ef] at q;exact q
 | exc c=>rw [ef] at q;exact q
 | ok p=>
  obtain ⟨xs,ρ1⟩:=p
  rw [ef] at q
  intro ws H1 fps1 f1 k1 g1 rep1 o1 t1
  dsimp only at q
  cases ee:zbs xs with
  | none=>rw [ee] at q;exact q.elim
  | some ij=>
   obtain ⟨i,j⟩:=ij
   rw [ee] at q
   unfold zbs at ee
   split at ee
   ·rename_i i' d j' d'
    split at ee
    ·rename_i hb
     cases ee
     obtain ⟨v,r,f1,f2,rfl,_,_,h1,h2⟩:=o1
     obtain ⟨v2,r2,f3,f4,rfl,_,_,h3,h4⟩:=h2
     obtain ⟨rfl,_⟩:=h4
     rw [Own] at h1 h3
     obtain ⟨rfl,_⟩:=h1
     obtain ⟨rfl,_⟩:=h3
     exact ⟨i,j,rfl,hb,zpz hn hP hal hvI hvE his hg hvo hvo2 k1 g1 rep1 q⟩
    ·cases ee
   ·cases ee
end
def zje (c:Fb) (b:Fs):Nat->Fs
 | 0,_=>.no
 | n + 1,ρ=>match c ρ with
  | .ok (true,ρ1)=>(match b ρ1 with
   | .nx ρ2=>zje c b n ρ2
   | .ct ρ2=>zje c b n ρ2
   | .bk ρ2=>.nx ρ2
   | .rt x d ρ2=>.rt x d ρ2
   | .exc e=>.exc e
   | .no=>.no)
  | .ok (false,ρ1)=>.nx ρ1
  | .exc e=>.exc e
  | .no=>.no
def qay (c:Fb) (b:Fs):Fs:=zje c b 300
theorem qga {M:Fm}{c:Fb}{b:Fs}{n:Nat}{D:Ends}{σ:St}{H:Hp} (hq:tS M (zje c b n) D σ H):qid (tT M c) (tS M b) D σ H:=by
 refine ⟨λ m σ H=>tS M (zje c b m) D σ H,⟨n,hq⟩,?_⟩
 rintro m σ H ⟨ρ,fps,rep,q⟩
 cases m with
 | zero=>exact q.elim
 | succ m=>
  unfold zje at q
  refine ⟨ρ,fps,rep,?_⟩
  cases ec:c ρ with
  | no=>rw [ec] at q;exact q
  | exc x=>rw [ec] at q;exact λ H' fps' k=>q _ H' fps' k.ks
  | ok p=>
   obtain ⟨bb,ρ1⟩:=p
   rw [ec] at q
   intro H1 fps1 k1 g1 rep1
   cases bb with
   | false=>
    rw [if_neg jc5]
    exact q σ H1 fps1 k1.ks rep1
   | true=>
    rw [if_pos rfl]
    refine ⟨λ σ H=>tS M (zje c b m) D σ H,λ σ' H' w=>⟨m,jg7 m,w⟩,ρ1,fps1,rep1,?_⟩
    dsimp only at q
    have q:=RsOk.from k1.ks q
    cases eb:b ρ1 with
    | no=>rw [eb] at q;exact q
    | exc x=>rw [eb] at q;exact q
    | rt x d ρ2=>rw [eb] at q;exact q
    | bk ρ2=>rw [eb] at q;exact q
    | nx ρ2=>rw [eb] at q;exact λ σ' H' fps' k r'=>⟨ρ2,fps',r',RsOk.from k q⟩
    | ct ρ2=>rw [eb] at q;exact λ σ' H' fps' k r'=>⟨ρ2,fps',r',RsOk.from k q⟩
def bmV:List Value:=[.type "ValueError",.type "Exception",.type "BaseException",.type "object"]
def mroX (K:Frag) (C:Addr):List Value:=match K.lookup C with
 | some ⟨_,_,.cls cd,_⟩=>cd.mro
 | _=>[]
def isX (c d:Nat):Bool:=c == d || d == 0
def xTab (K:Frag):Bool:=(jc2 12).all λ c=>match zwu K c with
 | some C=>PySem.W.excIn K C bmV "ValueError.__new__" && (jc2 12).all λ d=>(match zwu K d with
  | some D=>(mroX K C).contains (.ref D) == isX c d
  | none=>true)
 | none=>true
theorem zjr {K:Frag}{c:Nat}{C:Addr} (e:zwu K c=some C):c < 12:=by
 unfold zwu at e
 split at e
 ·rename_i x h
  exact (ja8.mp h).1
 ·cases e
structure XC (h:Heap) (K:Frag) (c:Nat) (C:Addr):Prop where
 obj:∃ bm N nm q bs hdct sn sub ab col dd k0 k1 k2 k3 k5 mN,h.get? C=some (excClassObj nm q C N bs bm hdct sn sub ab col dd k0 k1 k2 k3 k5 "ValueError.__new__")/\h.Ns N mN/\mN "__init__" = none/\OwnTail h bmV bm/\∀ d D,zwu K d=some D->(Value.ref C::bm).contains (.ref D)=isX c d
theorem qjb {K:Frag}{c:Nat}{C:Addr} (t:xTab K=true) (e:zwu K c=some C):PySem.W.excIn K C bmV "ValueError.__new__" = true/\∀ d D,zwu K d=some D->(mroX K C).contains (.ref D)=isX c d:=by
 unfold xTab at t
 have h:=jb9.mp t c (jd8.mpr (zjr e))
 rw [e] at h
 dsimp only at h
 rw [ja4] at h
 refine ⟨h.1,λ d D ed=>?_⟩
 have h2:=jb9.mp h.2 d (jd8.mpr (zjr ed))
 rw [ed] at h2
 exact eq_of_beq h2
theorem qja {K:Frag}{h:Heap}{c:Nat}{C:Addr} (X:K.In h) (t:xTab K=true) (e:zwu K c=some C):XC h K c C:=by
 obtain ⟨q,ht⟩:=qjb t e
 refine ⟨?_⟩
 unfold PySem.W.excIn at q
 split at q
 ·rename_i dd cd sl ho
  split at q
  ·rename_i C' bm k0 k1 k2 k3 n k5 hm hs
   simp only [ja4,beq_iff_eq,jh3] at q
   obtain ⟨⟨⟨⟨⟨rfl,rfl⟩,hdel⟩,htl⟩,hok⟩,hni⟩:=q
   have hmro:mroX K C'=.ref C'::bm:=by unfold mroX;rw [ho];exact hm
   rw [hmro] at ht
   obtain ⟨nm,bs,mro,ns,qn,hd,sn,sub,ab,col,del⟩:=cd
   dsimp only at hm hdel hok hni
   subst hm hdel
   have hsl:sl=#[k0,k1,k2,k3,some (.builtin "ValueError.__new__"),k5]:=by
    obtain ⟨l⟩:=sl
    simp only at hs
    rw [hs]
   subst hsl
   exact ⟨bm,ns,nm,qn,bs,hd,sn,sub,ab,col,dd,k0,k1,k2,k3,k5,_,X _ _ ho,.of_isNs (PySem.W.isNs_of_in X hok),PySem.W.nsMap_none_of_in X hok hni,PySem.W.tail_of_in X htl,ht⟩
  ·cases q
 ·cases q
def XEof (W:Nat->Hp->Prop):XK:=λ v _ H'=>match v with
 | .int c _=>W c.toNat H'
 | _=>False
def CXr (P:Program) (w:World) (K:Frag):CXT:=λ outer H s E e s'=>∃ (a C:Addr) (c:Nat) (H':Hp) (B:Heap) (a0:Value),e=.ref a/\zwu K c=some C/\s'.os=s.os/\AllBare s'.gens/\Un (frs outer) [] H H' s.heap s'.heap/\HOk P w H' s'.heap/\H' a=none/\s.heap.get? a=none /\
 Heap.FlyingW B outer a (.ref C) a0 s'.heap/\(∀ b o,s'.heap.get? b=some o->H' b≠none->B.get? b=some o)/\(∀ b o,s.heap.get? b=some o->H b=none->b∉frs outer->B.get? b=some o)/\(∀ b,H b≠none->H' b≠none)/\E (.int (c:Int) 0) none H'
theorem zfa {P:Program}{w:World}{H:Hp}{h:Heap}{a:Addr}{o:HO} (x:zza P w H h a o):∃ u,h.get? a=some u:=by
 cases o with
 | lst xs=>obtain ⟨_,_,_,_,e⟩:=x;exact ⟨_,e⟩
 | tup xs=>obtain ⟨_,_,_,o,e,_⟩:=x;exact ⟨_,e⟩
 | dK kvs=>obtain ⟨_,_,_,_,o,_,_,e,_⟩:=x;exact ⟨_,e⟩
 | dT kvs=>obtain ⟨_,_,_,_,o,_,_,e,_⟩:=x;exact ⟨_,e⟩
 | set S n=>obtain ⟨o,_,_,_,e,_⟩:=x;exact ⟨_,e⟩
 | ins C dx fs=>obtain ⟨_,_,_,e,_⟩:=x;exact ⟨_,e⟩
 | own y=>exact x
 | xd fs=>obtain ⟨_,⟨_,_,_,e,_⟩,_⟩:=x;exact ⟨_,e⟩
 | rng lo hi=>obtain ⟨_,_,_,e⟩:=x;exact ⟨_,e⟩
 | frz ob u=>obtain ⟨e,_⟩:=x;exact ⟨_,e⟩
 | tbl ps=>exact ⟨_,(show h.get? a=some _ from x)⟩
 | met f y=>exact ⟨_,(show h.get? a=some _ from x)⟩
 | ext φ=>exact x.2.1
section
variable {X:Cx}{pins:List (Addr×Obj)}{σ:St}{H H1:Hp}{s s2:Shared}{h1 B:Heap}{a C:Addr}{a0:Value}{c:Nat}{E:XK}{P:Program}{w:World}{K:Frag}
theorem qbk (I:L2.Inv X pins σ H s) (hex:X.ex=[]) (u:Un (frs X.stack) [] H H1 s.heap h1) (hok:HOk X.prog X.w H1 h1) (fl:Heap.FlyingW B X.outer a (.ref C) a0 s2.heap) (up:h1.UpToSlots s2.heap)
  (i1:∀ b o,h1.get? b=some o->H1 b≠none->B.get? b=some o) (i2:∀ b o,s.heap.get? b=some o->H b=none->b∉frs X.stack->B.get? b=some o) (ha:H1 a=none) (hn:s.heap.get? a=none)
  (hE:E (.int (c:Int) 0) none H1) (hd:∀ b,X.H₀ b≠none->H1 b≠none) (hc:zwu X.K c=some C) (ho:s2.os=s.os) (hg:AllBare s2.gens):CXr X.prog X.w X.K X.outer X.H₀ X.s₀ E (.ref a) s2:=by
 have nx:∀ b:Addr,b∉X.ex:=λ b z=>by rw [hex] at z;cases z
 have key:∀ b o,X.s₀.heap.get? b=some o->X.H₀ b=none->b∉frs X.outer->B.get? b=some o:=λ b o e n hb=>by
  refine i2 b o (I.base.keep b o e n hb (nx b)) (I.base.free b o e n (nx b)) λ z=>?_
  rcases jb0.mp (I.stkSub b z) with z | z
  ·exact absurd (jb2 (Heap.lt_size e) I.ok.above) (by rw [z];exact je0 _)
  ·exact hb z
 have fr:∀ b o,X.s₀.heap.get? b=some o->X.H₀ b=none->b∈frs X.outer->∃ sl,s2.heap.get? b=some { o with slots:=sl }:=λ b o e n hb=>by
  obtain ⟨sl,e1⟩:=I.base.slot b o e n hb (nx b)
  obtain ⟨sl',e2⟩:=u.any e1 (I.base.free b o e n (nx b)) (by simp)
  obtain ⟨_,o',ho',hnf⟩:=I.ok.funs.mem hb
  rw [e] at ho';cases ho'
  obtain ⟨sl2,e3⟩:=up b _ e2 hnf
  exact ⟨sl2,e3⟩
 have trk:∀ b v,H1 b≠none->h1.get? b=some v->s2.heap.get? b=some v:=λ b v hb e=>fl.1 b v (i1 b v e hb)
 have un:Un (frs X.outer) [] X.H₀ H1 X.s₀.heap s2.heap:=by
  refine ⟨λ b o e n hb _=>fl.1 b o (key b o e n hb),λ b o e n hb _=>fr b o e n hb,λ b o e n _=>?_,λ b o e _=>?_,λ b xs e=>u.tups b xs (I.base.tups b xs e),λ b o xs e=>u.frzs b o xs (I.base.frzs b o xs e),λ b ps e=>?_⟩
  ·obtain ⟨o',e'⟩:=I.base.there b o e (nx b)
   exact u.free b o' e' (I.base.free b o e n (nx b)) (by simp)
  ·by_cases h0:X.H₀ b=none
   ·by_cases hb:b∈frs X.outer
    ·obtain ⟨sl,e2⟩:=fr b o e h0 hb
     exact ⟨_,e2⟩
    ·exact ⟨o,fl.1 b o (key b o e h0 hb)⟩
   ·obtain ⟨o',e'⟩:=I.base.there b o e (nx b)
    obtain ⟨o2,e2⟩:=u.there b o' e' (by simp)
    exact ⟨o2,trk b o2 (hd b h0) e2⟩
  ·obtain ⟨m1,e1⟩:=I.base.tbls b ps e
   obtain ⟨m2,e2⟩:=u.tbls b _ e1
   exact ⟨m1++m2,by rw [e2,jo3]⟩
 refine ⟨a,C,c,H1,B,a0,rfl,hc,ho.trans I.os,hg,un,λ b o e=>?_,ha,?_,fl,λ b o e hb=>?_,key,hd,hE⟩
 ·refine (hok b o e).stay (λ d v hd q=>trk d v ?_ q) (λ _ q=>q) λ _ _ q=>q
  rcases hd with rfl | hd
  ·rw [e];simp
  ·rw [hd];simp
 ·cases q:X.s₀.heap.get? a with
  | none=>rfl
  | some o=>
   obtain ⟨o',e'⟩:=I.base.there a o q (nx a)
   rw [hn] at e';cases e'
 ·cases q:H1 b with
  | none=>exact absurd q hb
  | some o1=>
   obtain ⟨v,hv⟩:=zfa (hok b o1 q)
   have e2:=trk b v hb hv
   rw [e] at e2
   cases e2
   exact i1 b o hv hb
end
def zpd (CX:CXT) (X:Cx) (W:St->Nat->Hp->Prop):Prop:=∀ (pins:List (Addr×Obj)) (σ:St) (H:Hp) (s:Shared) (e:Value) (s':Shared),L2.Inv X pins σ H s->CX X.stack H s (XEof (W σ)) e s'->X.xe e s'
def qap (X:Cx) (W:St->Nat->Hp->Prop):Prop:=∀ (pins:List (Addr×Obj)) (σ:St) (H:Hp) (s:Shared) (c:Nat) (C a:Addr) (h':Heap) (args:List Value),L2.Inv X pins σ H s->zwu X.K c=some C->Heap.MadeExcOf s.heap h' a (.ref C) args->W σ c H->X.xe (.ref a) { s with heap:=h' }
abbrev W0:St->Nat->Hp->Prop:=λ _ _ _=>False
theorem qn6 {P:Program}{w:World}{K:Frag}{X:Cx}:zpd (CXr P w K) X W0:=λ _ _ _ _ _ _ _ h=>by
 obtain ⟨a,C,c,H',B,a0,_,_,_,_,_,_,_,_,_,_,_,_,hE⟩:=h
 exact False.elim hE
def WE (E:XK) (H:Hp):St->Nat->Hp->Prop:=λ _ c H'=>E (.int (c:Int) 0) none H'/\∀ b,H b≠none->H' b≠none
section
variable {P:Program}{w:World}{K:Frag}{mg:Str->Option Value}{base:Heap}{N:List Str}{qual:Str}{scope:Scope}{f:Addr}{cd:Value}{A:Around}{outer:List Env}{s:Shared}{H:Hp}{E:XK}
theorem qgw:zpd (CXr P w K) (cxOf (CXr P w K) P w K mg base N qual scope f cd A outer s H E) (WE E H):=by
 intro pins σ H1 s1 e s' I h
 obtain ⟨a,C,c,H',B,a0,rfl,hc,ho,hg,un,hok,ha,hn,fl,i1,i2,hd,hE⟩:=h
 have hE':WE E H σ c H':=hE
 refine wpAny_leaves_onW (by exact I.ok.frames) rfl fl λ h2 f2 up=>?_
 exact qbk (s2:={ s' with heap:=h2 }) I rfl un hok f2 up i1 i2 ha hn hE'.1 hE'.2 hc ho hg
theorem qdl:qap (cxOf (CXr P w K) P w K mg base N qual scope f cd A outer s H E) (WE E H):=by
 intro pins σ H1 s1 c C a h' args I hc hx hW
 have hin:∀ env∈(cxOf (CXr P w K) P w K mg base N qual scope f cd A outer s H E).stack,∀ b,env.frame=some b->b∈frs (cxOf (CXr P w K) P w K mg base N qual scope f cd A outer s H E).stack:=λ env he b hb=>ji9.mpr ⟨env,he,hb⟩
 have trk:∀ b,H1 b≠none->∃ o,s1.heap.get? b=some o:=λ b hb=>by
  cases q:H1 b with
  | none=>exact absurd q hb
  | some u=>exact zfa (I.hok b u q)
 have nfr:∀ b,H1 b≠none->b∉frs (cxOf (CXr P w K) P w K mg base N qual scope f cd A outer s H E).stack:=λ b hb z=>hb (I.stkFree b z)
 refine wpAny_leaves_madeW (base:=PySem.W.hideAll s1.heap (frs (cxOf (CXr P w K) P w K mg base N qual scope f cd A outer s H E).stack)) (h:=s1.heap) (by exact I.ok.frames) rfl (λ b o q=>PySem.W.of_hideAll _ q) (PySem.W.funFrames_hide I.stack hin) hx λ h2 t f2 _ _ up=>?_
 refine qbk (s2:={ s1 with heap:=h2 }) I rfl (Un.kept hx.keeps) (I.hok.kept hx.keeps) f2 up (λ b o e hb=>?_) (λ b o e _ hb=>PySem.W.hideAll_get _ e hb) ?_ hx.new hW.1 hW.2 hc rfl I.bare
 ·obtain ⟨o1,e1⟩:=trk b hb
  have e2:=hx.keeps b o1 e1
  rw [e] at e2
  cases e2
  exact PySem.W.hideAll_get _ e1 (nfr b hb)
 ·cases q:H1 a with
  | none=>rfl
  | some u=>
   obtain ⟨o,e⟩:=zfa (I.hok a u q)
   rw [hx.new] at e;cases e
theorem qkt:PassesOwn (model P w) (cxOf (CXr P w K) P w K mg base N qual scope f cd A outer s H E).A (cxOf (CXr P w K) P w K mg base N qual scope f cd A outer s H E).env (cxOf (CXr P w K) P w K mg base N qual scope f cd A outer s H E).xe:=PassesOwn.leaving
end
section
variable {X:Cx}{CX:CXT}{k:Nat}{f:Addr}{fd:FuncData}{ps:List Str}{sp:Sp}{x:Str}{p pos:Pos}{e:Expr}{es:List Expr}{t:TA}{W:St->Nat->Hp->Prop}
def qif (sp:Sp) (W:St->Nat->Hp->Prop) (t:TA):TE:=λ σ H Q=>t σ H λ vs H1=>sp vs H1 Q (XEof (W σ))
theorem qgv (F:FnOk X.prog X.w X.K X.mg X.base CX k f fd ps sp) (hr:Room k X.A) (hg:Gl X x) (hm:X.mg x=some (.ref f)) (hk:PySem.W.keepIn X.K (.ref f)=true) (hb:qaq X.K fd ps []) (hx:zpd CX X W) (ha:PA X (e::es) t) (hdb:(x == ("__debug__" : Str))=false)
  (he:starEach (e::es) X.env=(false,eval e X.env)::starEach es X.env) (hpl:(backTo pos (starEach es X.env)).any (·.1)=false):PE X (.Call (.Name x p) (e::es) [] pos) (qif sp W t):=by
 intro pins s σ H Q I h
 refine wpAny_Call_Name_kw (zfh I hg hm ?_ hdb)
 refine PySem.W.callWith_K (h₀:=X.base) I.ok.mod.kin hk (thn (ha pos pins s σ H _ I h) λ us s1 ⟨vs,H1,I1,r,q⟩=>⟨I1.kIn,?_⟩) he hpl
 have q':sp vs H1 Q (XEof (W σ)):=q
 have hl:(us++[]).length=ps.length:=by rw [jf2,<- r.length];exact F.len _ _ _ _ q'
 have hbd:=hb s1 us I1.kIn hl
 rw [jf2] at hbd
 refine wpAny_call (codeAny_mono (F.run X.A X.stack s1 H1 ⟨us,[]⟩ us vs Q (XEof (W σ)) hr I1.env0 hbd r q') λ r s' hq=>?_)
 cases r with
 | error e=>exact hx pins σ H1 s1 e s' I1 hq
 | ok fl=>
  cases fl with
  | ret u=>exact I1.after hq
  | next=>exact False.elim hq
  | brk=>exact False.elim hq
  | cont=>exact False.elim hq
end
def zvn (cells:List (Str×Addr)):List (Str×NameKind)->List (Str×Addr)->List (Str×Addr)
 | [],cs=>cs
 | (n,k)::r,cs=>if k == .free then zvn cells r ((n,(cells.lookup n).getD 0)::cs) else zvn cells r cs
theorem zye {scope:Scope}{env:Env} (h:∀ x∈scope.names,x.2=.free->∃ c,env.cells.lookup x.1=some c):closureFor scope env=pure (zvn env.cells scope.names []):=by
 unfold closureFor
 have all:∀ (l:List (Str×NameKind)) (cs:List (Str×Addr)),(∀ x∈l,x.2=.free->∃ c,env.cells.lookup x.1=some c) ->
   (forIn l cs λ (x:Str×NameKind) (cs:List (Str×Addr))=>if (x.2 == NameKind.free)=true then (do let a<-cellOf env x.1;pure (ForInStep.yield ((x.1,a)::cs))) else pure (ForInStep.yield cs):Sem (List (Str×Addr)))=pure (zvn env.cells l cs):=by
  intro l
  induction l with
  | nil=>intro cs _;rfl
  | cons x r ih=>
   intro cs hl
   obtain ⟨n,k⟩:=x
   rw [jp9]
   have ih':=λ cs=>ih cs λ y hy=>hl y (ja2 _ hy)
   by_cases hk:(k == NameKind.free)=true
   ·obtain ⟨c,hc⟩:=hl (n,k) ja5 (by simpa using hk)
    have e1:cellOf env n=pure c:=by unfold cellOf;rw [hc]
    rw [if_pos hk,e1]
    simp only [pure_bind]
    rw [ih',zvn,if_pos hk,hc]
    rfl
   ·rw [if_neg hk]
    simp only [pure_bind]
    rw [ih',zvn,if_neg hk]
 have:=all scope.names [] h
 simp only [bind_pure] at this ⊢
 exact this
theorem zxi (cells:List (Str×Addr)) (x:Str) (c:Addr):∀ (l:List (Str×NameKind)) (cs:List (Str×Addr)),(∀ y∈l,y.2=.free->∃ c,cells.lookup y.1=some c)->(cs.lookup x=some c->cells.lookup x=some c)->(zvn cells l cs).lookup x=some c->cells.lookup x=some c
 | [],cs,_,h,e=>h e
 | (n,k)::r,cs,hl,h,e=>by
  unfold zvn at e
  split at e
  ·rename_i hk
   refine zxi cells x c r _ (λ y hy=>hl y (ja2 _ hy)) (λ e'=>?_) e
   rw [jd9] at e'
   split at e'
   ·rename_i hx
    obtain ⟨c',hc⟩:=hl (n,k) ja5 (by simpa using hk)
    rw [hc] at e'
    cases e'
    rw [eq_of_beq hx];exact hc
   ·exact h e'
  ·exact zxi cells x c r cs (λ y hy=>hl y (ja2 _ hy)) h e
theorem zyx (cells:List (Str×Addr)) (x:Str):∀ (l:List (Str×NameKind)) (cs:List (Str×Addr)),(∃ c,cs.lookup x=some c)->∃ c,(zvn cells l cs).lookup x=some c
 | [],cs,h=>h
 | (n,k)::r,cs,h=>by
  unfold zvn
  split
  ·refine zyx cells x r _ ?_
   rw [jd9]
   split
   ·exact ⟨_,rfl⟩
   ·exact h
  ·exact zyx cells x r cs h
theorem zpa (cells:List (Str×Addr)) (x:Str):∀ (l:List (Str×NameKind)) (cs:List (Str×Addr)),(x,NameKind.free)∈l->∃ c,(zvn cells l cs).lookup x=some c
 | [],_,h=>nomatch h
 | (n,k)::r,cs,h=>by
  unfold zvn
  rcases jb0.mp h with e | e
  ·cases e
   rw [if_pos (show (NameKind.free == NameKind.free)=true by decide)]
   exact zyx cells x r _ ⟨_,by rw [jd9,beq_self_eq_true]⟩
  ·split
   ·exact zpa cells x r _ e
   ·exact zpa cells x r cs e
theorem zpb:∀ (names:List (Str×NameKind)) (n:Nat) (acc:List (Str×Addr)) (x:Str) (c:Addr),(cellsFrom n names acc).lookup x=some c->acc.lookup x=some c\/(n<=c/\(x,NameKind.cell)∈names)
 | [],n,acc,x,c,h=>.inl h
 | (m,k)::r,n,acc,x,c,h=>by
  unfold cellsFrom at h
  split at h
  ·rename_i hk
   have hk':k=.cell:=by simpa using hk
   rcases zpb r _ _ x c h with z | ⟨z,y⟩
   ·rw [jd9] at z
    split at z
    ·rename_i hx
     cases z
     exact .inr ⟨jb3 _,by rw [eq_of_beq hx,hk'];exact ja5⟩
    ·exact .inl z
   ·exact .inr ⟨jf6 z,ja2 _ y⟩
  ·rcases zpb r _ _ x c h with z | ⟨z,y⟩
   ·exact .inl z
   ·exact .inr ⟨z,ja2 _ y⟩
theorem zfr:∀ (names:List (Str×NameKind)) (n:Nat) (acc:List (Str×Addr)) (x:Str),(x,NameKind.cell)∉names->(cellsFrom n names acc).lookup x=acc.lookup x
 | [],n,acc,x,h=>rfl
 | (m,k)::r,n,acc,x,h=>by
  unfold cellsFrom
  split
  ·rename_i hk
   have hk':k=.cell:=by simpa using hk
   rw [zfr r _ _ x λ z=>h (ja2 _ z),jd9]
   split
   ·rename_i hx
    exact absurd (by rw [eq_of_beq hx,hk'];exact ja5) h
   ·rfl
  ·exact zfr r _ _ x λ z=>h (ja2 _ z)
theorem qbz:∀ (names:List (Str×NameKind)) (n:Nat) (acc:List (Str×Addr)) (x:Str),(x,NameKind.cell)∈names->∃ c,(cellsFrom n names acc).lookup x=some c/\n<=c
 | [],n,acc,x,h=>nomatch h
 | (m,k)::r,n,acc,x,h=>by
  by_cases hr:(x,NameKind.cell)∈r
  ·unfold cellsFrom
   split
   ·obtain ⟨c,e,l⟩:=qbz r (n + 1) ((m,n)::acc) x hr
    exact ⟨c,e,jf6 l⟩
   ·exact qbz r n acc x hr
  ·rcases jb0.mp h with e | e
   ·cases e
    unfold cellsFrom
    rw [if_pos (by decide),zfr r _ _ _ hr,jd9,beq_self_eq_true]
    exact ⟨n,rfl,jb3 _⟩
   ·exact absurd e hr
theorem qfo:∀ (names:List (Str×NameKind)) (n:Nat) (acc:List (Str×Addr)),(∀ x y c,acc.lookup x=some c->acc.lookup y=some c->x=y)->(∀ x c,acc.lookup x=some c->c < n)->∀ x y c,(cellsFrom n names acc).lookup x=some c->(cellsFrom n names acc).lookup y=some c->x=y
 | [],n,acc,hi,_,x,y,c,h1,h2=>hi x y c h1 h2
 | (m,k)::r,n,acc,hi,hl,x,y,c,h1,h2=>by
  unfold cellsFrom at h1 h2
  split at h1
  ·rename_i hk
   rw [if_pos hk] at h2
   refine qfo r (n + 1) ((m,n)::acc) (λ x y c h1 h2=>?_) (λ x c h=>?_) x y c h1 h2
   ·rw [jd9] at h1 h2
    split at h1
    ·rename_i e1
     cases h1
     split at h2
     ·rename_i e2
      rw [eq_of_beq e1,eq_of_beq e2]
     ·exact absurd (hl y _ h2) (je0 _)
    ·split at h2
     ·cases h2
      exact absurd (hl x _ h1) (je0 _)
     ·exact hi x y c h1 h2
   ·rw [jd9] at h
    split at h
    ·cases h;exact jg7 _
    ·exact jj8 (hl x c h)
  ·rename_i hk
   rw [if_neg hk] at h2
   exact qfo r n acc hi hl x y c h1 h2
theorem zhy:∀ (names:List (Str×NameKind)) (h:Heap) (acc:List (Str×Addr)) (x:Str) (c:Addr),(cellsFrom h.objs.size names acc).lookup x=some c->acc.lookup x=some c\/(pushCells h names).IsCell c none
 | [],h,acc,x,c,e=>.inl e
 | (m,k)::r,h,acc,x,c,e=>by
  unfold cellsFrom at e
  unfold pushCells
  split at e
  ·rename_i hk
   rw [if_pos hk]
   have hs:(h.push { cls:=.type "cell",data:=.cell none }).objs.size=h.objs.size + 1:=Heap.size_push ..
   have e':(cellsFrom (h.push { cls:=.type "cell",data:=.cell none }).objs.size r ((m,h.objs.size)::acc)).lookup x=some c:=by rw [hs];exact e
   rcases zhy r _ _ x c e' with z | z
   ·rw [jd9] at z
    split at z
    ·cases z
     exact .inr ⟨_,pushCells_keeps _ _ _ _ (Heap.get?_push_size _ rfl),rfl⟩
    ·exact .inl z
   ·exact .inr z
  ·rename_i hk
   rw [if_neg hk]
   exact zhy r h acc x c e
theorem zgp {M:Model}{A:Around}{E:Value->Shared->Prop}{s:Shared}{scope:Scope}{globals:Addr}{cl:List (Str×Addr)}{qual:Str}{func:Option Addr}{code:Value}{around:Env}{builtins:Addr}{Q:Env->Shared->Prop}
  (hQ:Q (newEnv scope s.heap.objs.size globals (cellsFrom (s.heap.objs.size + 1) scope.names cl) qual func code (some around) builtins) { s with heap:=pushCells (s.heap.push { cls:=.type "dict",data:=.dict #[] }) scope.names }):
  wpAny M A (newFunctionEnv scope globals cl [] qual func code (some around) builtins) Q E s:=by
 simp only [newFunctionEnv,Option.isSome_some,if_true]
 refine wpAny_bind (wpAny_alloc ?_)
 refine wpAny_bind (wpAny_layCells _ (λ name kind cells=>by cases hkc:kind == NameKind.cell <;> simp [hkc]) _ _ _ _ ?_)
 rw [show ({ s with heap:=s.heap.push { cls:=.type "dict",data:=.dict #[] } }:Shared).heap.objs.size=s.heap.objs.size + 1 from Heap.size_push ..]
 exact wpAny_bind (wpAny_pure (wpAny_pure hQ))
def zhb (X:Cx) (scope:Scope) (C:Addr):List (Str×Addr):=cellsFrom (C + 1) scope.names (zvn X.env.cells scope.names [])
def zqx (X:Cx) (s2:Shared) (H2:Hp) (scope:Scope) (C:Addr) (N':List Str) (fp:List Addr) (pins:List (Addr×Obj)):Cx:=
 { X with N:=N',s₀:=s2,H₀:=H2,env:=compEnvC scope (zhb X scope C) C X.env,outer:=X.stack,stack:=X.stack,ex:=fp,fn:=λ x=>scope.names.contains (x,NameKind.cell),pn:=X.pn++pins,xe:=λ _ _=>False }
structure CompOk (X:Cx) (scope:Scope) (N':List Str) (k:Nat):Prop where
 kind:scope.kind=.function
 dis:∀ x,(x,NameKind.free)∈scope.names->(x,NameKind.cell)∉scope.names
 names:∀ x∈scope.names,x.2=.local->scope.names.lookup x.1=some .local
 len:N'.length=X.N.length + k
 free:∀ x∈scope.names,x.2=.free->X.env.kindOf x.1=some .cell\/X.env.kindOf x.1=some .free
 kinds:∀ x,(relabel scope X.env).names.lookup x=some .cell\/(relabel scope X.env).names.lookup x=some .free->(x,NameKind.free)∈scope.names\/(x,NameKind.cell)∈scope.names
 capt:∀ (i:Nat) (x:Str),i < X.N.length->N'[i]?=some x->Vis (relabel scope X.env) x->X.N[i]?=some x/\Vis X.env.scope x/\(x,NameKind.free)∈scope.names/\(relabel scope X.env).names.lookup x≠some .local
section
variable {X:Cx}{scope:Scope}{N':List Str}{k:Nat}{pins:List (Addr×Obj)}{σ:St}{H2:Hp}{s2:Shared}{fp:List Addr}{C:Addr}
theorem CompOk.cells (c:CompOk X scope N' k) (I:Inv X pins σ H2 s2):∀ x∈scope.names,x.2=.free->∃ a,X.env.cells.lookup x.1=some a:=λ x hx hf=>I.ok.has x.1 (c.free x hx hf)
theorem CompOk.cl (c:CompOk X scope N' k) (I:Inv X pins σ H2 s2) {x:Str}{a:Addr} (h:(zhb X scope C).lookup x=some a):X.env.cells.lookup x=some a\/(C + 1<=a/\(x,NameKind.cell)∈scope.names):=
 (zpb _ _ _ x a h).imp (λ z=>zxi _ x a _ [] (c.cells I) (λ z=>nomatch z) z) id
theorem CompOk.old (c:CompOk X scope N' k) (I:Inv X pins σ H2 s2) {x:Str}{a:Addr} (h:X.env.cells.lookup x=some a):a < s2.heap.objs.size:=by
 obtain ⟨v,o,ho,_⟩:=I.cell x a h
 exact Heap.lt_size ho
theorem CompOk.cap (c:CompOk X scope N' k) {x:Str} (h:(x,NameKind.free)∈scope.names):∃ a,(zhb X scope C).lookup x=some a/\(zvn X.env.cells scope.names []).lookup x=some a:=by
 obtain ⟨a,ha⟩:=zpa X.env.cells x scope.names [] h
 exact ⟨a,(zfr _ _ _ x (c.dis x h)).trans ha,ha⟩
theorem CompOk.ok (c:CompOk X scope N' k) (I:Inv X pins σ H2 s2) (hf:∀ b∈fp,FpOk X pins H2 b) (hC:s2.heap.objs.size<=C) (hfp:∀ b∈fp,b < s2.heap.objs.size):(zqx X s2 H2 scope C N' fp pins).Ok where
 mod:=I.ok.mod
 kind:=c.kind
 glob:=I.ok.glob
 blt:=I.ok.blt
 above:=hC
 inj:=λ x y a h1 h2=>qfo scope.names (C + 1) _ (λ x y a h1 h2=>I.ok.inj x y a (zxi _ x a _ [] (c.cells I) (λ z=>nomatch z) h1) (zxi _ y a _ [] (c.cells I) (λ z=>nomatch z) h2))
  (λ x a h=>jj8 (jb2 (c.old I (zxi _ x a _ [] (c.cells I) (λ z=>nomatch z) h)) hC)) x y a h1 h2
 has:=λ x hx=>(c.kinds x hx).elim (λ z=>let ⟨a,h,_⟩:=c.cap (C:=C) z;⟨a,h⟩) λ z=>let ⟨a,h,_⟩:=qbz scope.names (C + 1) (zvn X.env.cells scope.names []) x z;⟨a,h⟩
 cab:=λ x a h e=>by
  have hx:(x,NameKind.cell)∈scope.names:=by
   have h':scope.names.contains (x,NameKind.cell)=true:=h
   simpa using h'
  obtain ⟨a',e',l⟩:=qbz scope.names (C + 1) (zvn X.env.cells scope.names []) x hx
  have e2:(cellsFrom (C + 1) scope.names (zvn X.env.cells scope.names [])).lookup x=some a:=e
  rw [e'] at e2
  cases e2
  exact jc6 hC (jf6 l)
 hd:=I.ok.hd
 frames:=I.ok.frames
 stk:=.inl rfl
 exf:=λ b hb=>⟨jc9 (jb2 (hfp b hb) hC),λ x a h=>(c.cl I h).elim (λ z=>(hf b hb).2.2.2.2.1 x a z) λ z=>ji2 (jb2 (hfp b hb) (jc6 hC (jf6 z.1)))⟩
 bs:=I.bs
 bsz:=jc6 I.ok.bsz I.sz
 noex:=λ b o e hb=>by
  rcases (hf b hb).2.2.2.1 with z | z
  ·exact I.ok.noex b o e z
  ·exact absurd (jb2 (Heap.lt_size e) (jc6 I.ok.bsz z)) (je0 _)
 exfs:=λ b hb hz=>by
  rcases jb0.mp (I.stkSub b hz) with z | z
  ·exact (hf b hb).2.1 z
  ·exact (hf b hb).2.2.1 z
 funs:=I.stack
 frf:=I.stkFree
theorem CompOk.inv (c:CompOk X scope N' k) (I:Inv X pins σ H2 s2) (hf:∀ b∈fp,FpOk X pins H2 b) (hfp:∀ b∈fp,b < s2.heap.objs.size) {H3:Hp}{h':Heap}{t':Nat}{m:Str->Option Value}{D:Addr} (hCD:D≠C) (hD:s2.heap.objs.size<=D) (hC:s2.heap.objs.size<=C)
  (keep:∀ b o,s2.heap.get? b=some o->h'.get? b=some o) (ns:h'.Ns C m) (hH:∀ b,b≠D->H3 b=H2 b) (hok:HOk X.prog X.w H3 h') (hC3:H3 C=none) (hDC:D < C) (hcN:∀ x a,(zhb X scope C).lookup x=some a->C + 1<=a->h'.IsCell a none):
  Inv (zqx X s2 H2 scope C N' fp pins) [] (σ++ja6 k none) H3 { s2 with heap:=h',toks:=t' } where
 ok:=c.ok I hf hC hfp
 os:=rfl
 bare:=I.bare
 base:=by
  have nD:∀ b o,s2.heap.get? b=some o->b≠D:=λ b o e=>jc9 (jb2 (Heap.lt_size e) hD)
  refine ⟨λ b o e _ _ _=>keep b o e,λ b o e _ _ _=>⟨o.slots,keep b o e⟩,λ b o e n _=>by rw [hH b (nD b o e)];exact n,λ b o e _=>⟨o,keep b o e⟩,λ b xs e=>?_,λ b o u e=>?_,λ b ps e=>⟨#[],?_⟩⟩
  ·have e:H2 b=some (.tup xs):=e
   rw [hH b (λ z=>by rw [z,I.hok.fresh hD] at e;cases e)];exact e
  ·have e:H2 b=some (.frz o u):=e
   rw [hH b (λ z=>by rw [z,I.hok.fresh hD] at e;cases e)];exact e
  ·have e:H2 b=some (.tbl ps):=e
   rw [hH b (λ z=>by rw [z,I.hok.fresh hD] at e;cases e)];simpa using e
 loc:=by
  refine ⟨m,ns,λ i x v e1 e2 e3=>?_⟩
  have hi:i < σ.length:=by
   by_cases hi:i < σ.length
   ·exact hi
   ·rw [jc8 (by omega),je4] at e2
    split at e2 <;> cases e2
  rw [jc0 hi] at e2
  obtain ⟨n1,n2,n3,n4⟩:=c.capt i x (by rw [<- I.len];exact hi) e1 e3
  obtain ⟨m0,ns0,hl⟩:=I.loc
  obtain ⟨u,r,lk⟩:=hl i x v n1 e2 n2
  refine ⟨u,r,.inr ⟨?_,?_⟩⟩
  ·rcases e3 with z | z | z
   ·exact absurd z n4
   ·exact .inl z
   ·exact .inr z
  ·obtain ⟨a,ha,hb⟩:=c.cap (C:=C) n3
   have ha':=zxi _ x a _ [] (c.cells I) (λ z=>nomatch z) hb
   refine ⟨a,ha,?_⟩
   rcases lk with ⟨hk,_⟩ | ⟨hk,a2,ha2,hc⟩
   ·rcases c.free _ n3 rfl with z | z <;> rw [hk] at z <;> cases z
   ·rw [ha'] at ha2;cases ha2
    obtain ⟨o,ho,hd⟩:=hc
    exact ⟨o,keep _ _ ho,hd⟩
 cell:=λ x a h=>by
  rcases c.cl I h with z | z
  ·obtain ⟨v,o,ho,hd⟩:=I.cell x a z
   exact ⟨v,o,keep _ _ ho,hd⟩
  ·exact ⟨none,hcN x a h z.1⟩
 free:=hC3
 freeC:=λ x a h=>by
  rcases c.cl I h with ha | z
  ·obtain ⟨v,o,ho,hd⟩:=I.cell x a ha
   rw [hH a (jc9 (jb2 (Heap.lt_size ho) hD))]
   exact I.freeC x a ha
  ·rw [hH a (ji2 (jb2 hDC (jf6 z.1)))]
   exact I.hok.fresh (jc6 hC (jf6 z.1))
 pin:=λ p hp=>by
  have hp':p∈X.pn++pins:=by simpa [zqx] using hp
  obtain ⟨e,n,ne,nf,d⟩:=I.pin p hp'
  have hlt:=Heap.lt_size e
  exact ⟨keep _ _ e,by rw [hH p.1 (jc9 (jb2 hlt hD))];exact n,jc9 (jb2 hlt hC),λ z=>(jb0.mp (I.stkSub p.1 z)).elim ne nf,d⟩
 hok:=hok
 len:=by
  show (σ++ja6 k none).length=N'.length
  rw [jb4,jf1,c.len,I.len]
def PTs (X:Cx) (ifs:List Expr) (t:TT):Prop:=
 ∀ (pins:List (Addr×Obj)) (s:Shared) (σ:St) (H:Hp) (Q:Bool->Hp->Prop),Inv X pins σ H s->t σ H Q ->
  wpAny (model X.prog X.w) X.A (forIn ifs true λ c r=>if r=true then do let ok<-isTrue c X.env (eval c X.env);pure (ForInStep.yield ok) else pure (ForInStep.yield r)) (TP X pins σ Q) X.xe s
theorem qki {X:Cx}:PTs X [] (λ _ H Q=>Q true H):=λ _ _ _ H _ I h=>wpAny_pure ⟨H,I,h⟩
theorem qkh {X:Cx}{c:Expr}{t:TT} (hc:PT X c t):PTs X [c] t:=by
 intro pins s σ H Q I h
 rw [jp9]
 refine wpAny_bind ?_
 rw [if_pos rfl]
 refine wpAny_bind (thn (hc pins s σ H Q I h) λ b s1 q=>wpAny_pure ?_)
 exact wpAny_pure q
theorem CompOk.again (c:CompOk X scope N' k) (I:Inv X pins σ H2 s2) {σ':St}{H':Hp}{s':Shared}{ps:List (Addr×Obj)} (hfp:∀ b∈fp,FpOk X pins H2 b) (J:Inv (zqx X s2 H2 scope C N' fp pins) ps σ' H' s'):Inv (zqx X s2 H2 scope C N' fp pins) ps (σ++ja6 k none) H' s' where
 ok:=J.ok
 os:=J.os
 bare:=J.bare
 base:=J.base
 loc:=by
  obtain ⟨m,ns,_⟩:=J.loc
  refine ⟨m,ns,λ i x v e1 e2 e3=>?_⟩
  have hi:i < σ.length:=by
   by_cases hi:i < σ.length
   ·exact hi
   ·rw [jc8 (by omega),je4] at e2
    split at e2 <;> cases e2
  rw [jc0 hi] at e2
  obtain ⟨n1,n2,n3,n4⟩:=c.capt i x (by rw [<- I.len];exact hi) e1 e3
  obtain ⟨m0,ns0,hl⟩:=I.loc
  obtain ⟨u,r,lk⟩:=hl i x v n1 e2 n2
  refine ⟨u,r,.inr ⟨?_,?_⟩⟩
  ·rcases e3 with z | z | z
   ·exact absurd z n4
   ·exact .inl z
   ·exact .inr z
  ·obtain ⟨a,ha,hb⟩:=c.cap (C:=C) n3
   have ha':=zxi _ x a _ [] (c.cells I) (λ z=>nomatch z) hb
   refine ⟨a,ha,?_⟩
   rcases lk with ⟨hk,_⟩ | ⟨hk,a2,ha2,hc⟩
   ·rcases c.free _ n3 rfl with z | z <;> rw [hk] at z <;> cases z
   ·rw [ha'] at ha2;cases ha2
    obtain ⟨o,ho,hd⟩:=hc
    obtain ⟨sl,ho'⟩:=J.base.any (b:=a) (ob:=o) ho (I.freeC x a ha') λ z=>(hfp a z).2.2.2.2.1 x a ha' rfl
    exact ⟨_,ho',hd⟩
 cell:=J.cell
 free:=J.free
 freeC:=J.freeC
 pin:=J.pin
 hok:=J.hok
 len:=by
  show (σ++ja6 k none).length=N'.length
  rw [jb4,jf1,c.len,I.len]
theorem zkr {prog:Program}{w:World}{A:Around}{R:Result->Shared->Prop}{s:Shared}{elt target iter:Expr}{ifs:List Expr}{scope:Scope}{pos:Pos}{it acc:Value}{env:Env} (I:Nat->Shared->Prop)
  (turn:∀ n s,I n s->wpAny (model prog w) A (pyNext it) (λ r s₁=>match r with
   | none=>R (.ok .next) s₁
   | some v=>wpAny (model prog w) A (letOwnedTupleGo target it v) (λ _ s₁'=>wpAny (model prog w) A (assign target env v) (λ _ s₂=>
     wpAny (model prog w) A (forIn ifs true λ c r=>if r=true then do let ok<-isTrue c env (eval c env);pure (ForInStep.yield ok) else pure (ForInStep.yield r)) (λ ok s₃=>
      if ok=true then wpAny (model prog w) A (eval elt env) (λ x s₄=>
       wpAny (model prog w) A (call (.builtin "list.append") [acc,x]) (λ _ s₅=>∃ m,m < n/\I m s₅) (λ _ _=>False) s₄) (λ _ _=>False) s₃
      else ∃ m,m < n/\I m s₃) (λ _ _=>False) s₂) (λ _ _=>False) s₁') (λ _ _=>False) s₁) (λ _ _=>False) s)
  (n:Nat) (h:I n s):
  codeAny (model prog w) A (.compLoop (.ListComp elt [⟨target,iter,ifs,0⟩] scope pos) 0 it acc env) R s:=by
 refine codeAny_loop rfl I (λ n s hI=>?_) n h
 show wpAny _ A ((compTurn (.ListComp elt [⟨target,iter,ifs,0⟩] scope pos) 0 it acc env).onRaise (λ x=>do noteFrame x env;theTreesLotGoes x)) _ _ s
 refine wpAny_noted ?_
 rw [compTurn_list]
 refine wpAny_bind (wpAny_standAt (wpAny_bind (wpAny_mono (turn n s hI) (λ r s₁ h₁=>?_) λ _ _ h'=>h'.elim)))
 cases r with
 | none=>exact wpAny_pure h₁
 | some v=>
  refine wpAny_bind (wpAny_mono h₁ (λ _ s₁' h₁'=>?_) λ _ _ h'=>h'.elim)
  refine wpAny_bind (wpAny_mono h₁' (λ _ s₂ h₂=>wpAny_bind (wpAny_mono h₂ (λ ok s₃ h₃=>?_) λ _ _ h'=>h'.elim)) λ _ _ h'=>h'.elim)
  cases ok with
  | false=>exact wpAny_pure ⟨rfl,h₃⟩
  | true=>
   exact wpAny_bind (wpAny_bind (wpAny_mono h₃ (λ x s₄ h₄=>wpAny_bind (wpAny_mono h₄ (λ _ s₅ h₅=>wpAny_pure (wpAny_pure ⟨rfl,h₅⟩)) λ _ _ h'=>h'.elim)) λ _ _ h'=>h'.elim))
theorem zmb {elt iter tg:Expr}{ifs:List Expr}{pos:Pos}{J:It}{it:Addr}{tn:Nat->Heap->Prop}{g:TG}{tc:TT}{te:TE}{RR:Value->Addr->Result->Shared->Prop}{Q:VK}{E:Value->Shared->Prop}
  (c:CompOk X scope N' k) (hcalm:X.calm=true) (I:Inv X pins σ H2 s2) (T:Turn X.prog X.w X.K tg J fp it tn) (st:tn 0 s2.heap) (hf:∀ b∈fp,FpOk X pins H2 b)
  (hg:∀ C fp,PG (zqx X s2 H2 scope C N' fp pins) tg g) (hc:∀ C fp,PTs (zqx X s2 H2 scope C N' fp pins) ifs tc) (he:∀ C fp,PE (zqx X s2 H2 scope C N' fp pins) elt te)
  (h:∀ D,H2 D=none->∃ W:Nat->Nat->List V->Hp->Prop,(∃ m,W 0 m [] (upd H2 D (.lst [])))/\∀ i m ys H,W i m ys H->H D=some (.lst ys) /\
   ((J.stop i H/\Q (.ref D) H)\/(J.go i H/\∀ x H',J.yld i H x H'->g x (σ++ja6 k none) H' λ σ2 H2=>tc σ2 H2 λ b H3=>if b=true then te σ2 H3 λ y H4=>H4 D=some (.lst ys)/\ys.length < sizeLine/\∃ m',m' < m/\W (i + 1) m' (ys++[y]) (upd H4 D (.lst (ys++[y]))) else ∃ m',m' < m/\W (i + 1) m' ys H3)))
  (hRR:∀ D C σ' H' s',s2.heap.objs.size<=C->Inv (zqx X s2 H2 scope C N' fp pins) [] σ' H' s'->Q (.ref D) H'->RR (.ref D) C (.ok .next) s')
  :
  wpAny (model X.prog X.w) X.A (newList []) (λ acc s₃=>wpAny (model X.prog X.w) X.A (newFunctionEnv scope X.env.globals (zvn X.env.cells scope.names []) [] X.env.qual none .none (some X.env)) (λ cenv s₄=>
   codeAny (model X.prog X.w) X.A (.compStart (.ListComp elt [⟨tg,iter,ifs,0⟩] scope pos) 0 (.ref it) acc { cenv with scope:=relabel scope X.env }) (RR acc cenv.locals) s₄) E s₃) E s2:=by
 refine wpAny_newObj_type (zgp ?_)
 dsimp only
 generalize hH2:s2.heap.push { cls:=.type "list",dict:=none,data:=.seq ([]:List Value).toArray }=HP
 obtain ⟨h₁,hh₁⟩:∃ h₁,h₁=pushCells (HP.push { cls:=.type "dict",data:=.dict #[] }) scope.names:=⟨_,rfl⟩
 rw [<- hh₁]
 have kk:∀ b o,HP.get? b=some o->h₁.get? b=some o:=λ b o e=>by rw [hh₁];exact pushCells_keeps _ _ b o (Heap.get?_push_of_some _ e)
 have hns₁:h₁.Ns HP.objs.size (λ _=>none):=by rw [hh₁];exact (Heap.Ns.new HP (.type "dict")).keeps (pushCells_keeps _ _)
 have hC:HP.objs.size=s2.heap.objs.size + 1:=by rw [<- hH2,Heap.size_push]
 have hDC:s2.heap.objs.size≠HP.objs.size:=by rw [hC];exact jc9 (jg7 _)
 have hCle:s2.heap.objs.size<=HP.objs.size:=by rw [hC];exact jr2 _
 have hfp:∀ b∈fp,b < s2.heap.objs.size:=λ b hb=>by
  obtain ⟨o,e,_⟩:=T.obj 0 _ st b hb
  exact Heap.lt_size e
 have below:∀ b,b < s2.heap.objs.size->b≠HP.objs.size:=λ b hb=>by rw [hC];exact jc9 (jj8 hb)
 have old:∀ b o,s2.heap.get? b=some o->h₁.get? b=some o:=λ b o e=>kk b o (hH2 ▸ Heap.get?_push_of_some _ e)
 have hacc:h₁.get? s2.heap.objs.size=some { cls:=.type "list",dict:=none,data:=.seq ([]:List Value).toArray }:=kk _ _ (hH2 ▸ Heap.get?_push_size _ rfl)
 have fD:H2 s2.heap.objs.size=none:=I.hok.fresh (jb3 _)
 obtain ⟨W,⟨m0,w0⟩,hW⟩:=h _ fD
 have hok3:HOk X.prog X.w (upd H2 s2.heap.objs.size (.lst [])) h₁:=I.hok.laid old (jb3 _) ⟨jg2 _,[],0,.nil,hacc⟩
 have st1:tn 0 h₁:=T.keep _ _ _ st λ b hb o e=>old b o e
 have I3:Inv (zqx X s2 H2 scope HP.objs.size N' fp pins) [] (σ++ja6 k none) (upd H2 s2.heap.objs.size (.lst [])) { s2 with heap:=h₁ }:=
  c.inv I hf hfp (t':=s2.toks) hDC (jb3 _) hCle old hns₁ (λ b hb=>zqp hb) hok3 (by rw [zqp (Ne.symm hDC)];exact I.hok.fresh hCle) (by rw [hC];exact jg7 _) (λ x a h l=>by
   have hs:(HP.push { cls:=.type "dict",data:=.dict #[] }).objs.size=HP.objs.size + 1:=Heap.size_push ..
   have h':(cellsFrom (HP.push { cls:=.type "dict",data:=.dict #[] }).objs.size scope.names (zvn X.env.cells scope.names [])).lookup x=some a:=by rw [hs];exact h
   rcases zhy scope.names _ _ x a h' with z | z
   ·exact absurd (jb2 (c.old I (zxi _ x a _ [] (c.cells I) (λ z=>nomatch z) z)) (jc6 hCle (jf6 l))) (je0 _)
   ·rw [hh₁];exact z)
 have fx:∀ {H':Hp},(∀ b∈fp,H' b=none)->∀ b∈fp,FpOk (zqx X s2 H2 scope HP.objs.size N' fp pins) [] H' b:=λ hn b hb=>by
  obtain ⟨f0,f1,f2,f3,f4,f5⟩:=hf b hb
  refine ⟨hn b hb,jc9 (jb2 (hfp b hb) hCle),λ hz=>?_,.inl hb,λ x a h=>(c.cl I h).elim (λ z=>f4 x a z) λ z=>ji2 (jb2 (hfp b hb) (jc6 hCle (jf6 z.1))),λ p hp=>f5 p (by simpa [zqx] using hp)⟩
  rcases jb0.mp (I.stkSub b hz) with z | z
  ·exact f1 z
  ·exact f2 z
 have f0:∀ b∈fp,(upd H2 s2.heap.objs.size (.lst [])) b=none:=λ b hb=>by rw [zqp (jc9 (hfp b hb))];exact (hf b hb).1
 have loop:∀ s₃:Shared,s₃={ s2 with heap:=h₁ } ->
   codeAny (model X.prog X.w) X.A (.compLoop (.ListComp elt [⟨tg,iter,ifs,0⟩] scope pos) 0 (.ref it) (.ref s2.heap.objs.size) (compEnvC scope (zhb X scope HP.objs.size) HP.objs.size X.env))
    (RR (.ref s2.heap.objs.size) HP.objs.size) s₃:=by
  rintro s₃ rfl
  refine zkr (λ n s'=>∃ i H' ys,Inv (zqx X s2 H2 scope HP.objs.size N' fp pins) [] (σ++ja6 k none) H' s'/\tn i s'.heap/\(∀ b∈fp,H' b=none)/\W i n ys H') ?_ m0 ⟨0,_,[],I3,st1,f0,w0⟩
  rintro n s4 ⟨i,H4,ys,I4,st4,fr4,w4⟩
  obtain ⟨hD4,hcase⟩:=hW i n ys H4 w4
  rcases hcase with ⟨stop,qn⟩ | ⟨go,step⟩
  ·refine thn (T.done (zqx X s2 H2 scope HP.objs.size N' fp pins) rfl rfl rfl hcalm i [] s4 _ H4 (λ _ _=>False) I4 (fx fr4) st4 stop) λ r s5 ⟨hr,I5⟩=>?_
   subst hr
   exact hRR _ _ _ _ _ hCle I5 qn
  ·refine thn (T.item (zqx X s2 H2 scope HP.objs.size N' fp pins) rfl rfl rfl hcalm i [] s4 _ H4 (λ _ _=>False) I4 (fx fr4) st4 go) λ r s5 ⟨u,hr,h5⟩=>?_
   subst hr
   refine thn h5 λ _ s6 ⟨x,H6,I6,r6,y6,st6,fr6⟩=>?_
   have I6':=I6.pinned (fx fr6) (T.obj _ _ st6)
   have stays:∀ {σ':St}{H':Hp}{s':Shared},Inv (zqx X s2 H2 scope HP.objs.size N' fp pins) ([]++zgj fp s6.heap) σ' H' s'->Inv (zqx X s2 H2 scope HP.objs.size N' fp pins) [] (σ++ja6 k none) H' s'/\tn (i + 1) s'.heap/\∀ b∈fp,H' b=none:=λ {σ' H' s'} J=>by
    refine ⟨c.again I hf J.unpinned,T.keep _ _ _ st6 λ b hb o e=>(J.pin (b,o) (ja7 _ (ja7 _ (zkc hb e)))).1,λ b hb=>?_⟩
    obtain ⟨o,e,d⟩:=T.obj _ _ st6 b hb
    exact (J.pin (b,o) (ja7 _ (ja7 _ (zkc hb e)))).2.1
   refine thn (hg _ _ _ s6 _ H6 x u _ I6' r6 (step x H6 y6)) λ _ s7 ⟨σ7,H7,I7,q7⟩=>?_
   refine thn (hc _ _ _ s7 σ7 H7 _ I7 q7) λ b s8 ⟨H8,I8,q8⟩=>?_
   cases b with
   | false=>
    rw [if_neg jc5] at q8 ⊢
    obtain ⟨m',hm,w'⟩:=q8
    obtain ⟨j1,j2,j3⟩:=stays I8
    exact ⟨m',hm,i + 1,H8,ys,j1,j2,j3,w'⟩
   | true=>
    rw [if_pos rfl] at q8 ⊢
    refine thn (he _ _ _ s8 σ7 H8 _ I8 q8) λ y s9 ⟨z,H9,I9,r9,hD9,hz9,m',hm,w'⟩=>?_
    refine thn (zbk (X:=zqx X s2 H2 scope HP.objs.size N' fp pins) _ s9 σ7 H9 (.ref s2.heap.objs.size) [z] (.ref s2.heap.objs.size) [y] (λ _ H'=>H'=upd H9 s2.heap.objs.size (.lst (ys++[z]))) I9 rfl (.cons r9 .nil) ⟨_,ys,z,rfl,rfl,hD9,hz9,rfl⟩) λ _ s10 ⟨_,H10,I10,_,e10⟩=>?_
    subst e10
    obtain ⟨j1,j2,j3⟩:=stays I10
    exact ⟨m',hm,i + 1,_,_,j1,j2,j3,w'⟩
 exact codeAny_compStart_list (loop _ rfl) (T.self _ 0 _ _ _ st1 (loop _ rfl))
theorem CompOk.out (I:Inv X pins σ H2 s2) (hf:∀ b∈fp,FpOk X pins H2 b) {σ':St}{H':Hp}{s':Shared} (J:Inv (zqx X s2 H2 scope C N' fp pins) [] σ' H' s'):Inv X pins σ H' s':=
 I.call' (ch:=fp) J.os J.base J.hok J.bare λ b hb=>⟨(hf b hb).2.2.2.1,(hf b hb).2.1,(hf b hb).2.2.2.2.1,(hf b hb).2.2.2.2.2⟩
theorem CompOk.away (I:Inv X pins σ H2 s2) (hC:s2.heap.objs.size<=C) {σ':St}{H':Hp}{s':Shared} (J:Inv X pins σ' H' s') (hC':H' C=none) {h':Heap} (sb:Heap.SameBut C s'.heap h'):Inv X pins σ' H' { s' with heap:=h' }:=by
 have lt:∀ b o,s2.heap.get? b=some o->b≠C:=λ b o e=>jc9 (jb2 (Heap.lt_size e) hC)
 refine J.turned (t':=s'.toks) (it:=C) (λ b o hb e=>(sb.2 b hb).trans e) hC' (ji2 (jb2 I.lt hC)) (.inr (jc6 I.sz hC)) (λ x c h=>?_) λ p hp=>?_
 ·obtain ⟨v,o,ho,_⟩:=I.cell x c h
  exact lt c o ho
 ·exact lt p.1 p.2 (I.pin p hp).1
variable {elt iter tg:Expr}{ifs:List Expr}{pos:Pos}{wi:TI}{g:TG}{tc:TT}{te:TE}
theorem qd0 (c:CompOk X scope N' k) (hcalm:X.calm=true) (hi:PI X tg iter wi) (hg:∀ s2 H2 C fp pins,PG (zqx X s2 H2 scope C N' fp pins) tg g) (hc:∀ s2 H2 C fp pins,PTs (zqx X s2 H2 scope C N' fp pins) ifs tc)
  (he:∀ s2 H2 C fp pins,PE (zqx X s2 H2 scope C N' fp pins) elt te) (hs:∀ x,foldedSetIterable iter X.env x=pure x):PE X (.ListComp elt [⟨tg,iter,ifs,0⟩] scope pos) (zhs k wi g tc te):=by
 intro pins s σ H Q I h
 rw [eval_ListComp]
 refine wpAny_comprehension_free (use:=none) rfl hs (zye (c.cells I)) c.kind c.names ?_
 refine thn (hi pins s σ H _ I h) λ v s1 h1=>thn h1 λ itv s2 h2=>?_
 obtain ⟨it,fp,tn,J,H',e,I2,T,st2,f2,W⟩:=h2
 subst e
 refine zmb (RR:=λ acc C=>compPost (model X.prog X.w) X.A X.xe none (EP X pins σ Q) acc C) c hcalm I2 T st2 f2 (λ C fp=>hg s2 H' C fp pins) (λ C fp=>hc s2 H' C fp pins) (λ C fp=>he s2 H' C fp pins) W λ D C σ' H3 s' hC J3 q=>?_
 obtain ⟨m,ns,_⟩:=J3.loc
 exact ⟨m,ns,λ h' sb=>⟨.ref D,H3,CompOk.away I2 hC (CompOk.out I2 f2 J3) J3.free sb,rfl,q⟩⟩
theorem qcb {i:Nat}{x:Str}{pos' spos:Pos} (hN:X.N.Nodup) (hi':X.N[i]?=some x) (hx:Loc X.env.scope x) (hfn:X.fn x=true\/X.env.scope.names.lookup x=some .local) (c:CompOk X scope N' k) (hcalm:X.calm=true) (hi:PI X tg iter wi) (hg:∀ s2 H2 C fp pins,PG (zqx X s2 H2 scope C N' fp pins) tg g) (hc:∀ s2 H2 C fp pins,PTs (zqx X s2 H2 scope C N' fp pins) ifs tc)
  (he:∀ s2 H2 C fp pins,PE (zqx X s2 H2 scope C N' fp pins) elt te) (hs:∀ x,foldedSetIterable iter X.env x=pure x):PS X (.Assign [.Name x pos'] (.ListComp elt [⟨tg,iter,ifs,0⟩] scope pos) spos) (tAsg (zhs k wi g tc te) (zjf i)):=by
 have hsw:∃ b,swapsWith (.ListComp elt [⟨tg,iter,ifs,0⟩] scope pos) (some (.Name x pos')) spos.line X.env=pure b:=⟨_,rfl⟩
 obtain ⟨b,hsw⟩:=hsw
 cases b with
 | false=>exact qa2 hN hi' hx (qd0 c hcalm hi hg hc he hs) hsw hfn
 | true=>
  intro pins s σ H D I h
  rw [exec_Assign_Name_used _ _ _ _ hsw]
  refine wpAny_bind (wpAny_standAt (wpAny_bind ?_))
  show wpAny _ X.A (do let _<-comprehension (.ListComp elt [⟨tg,iter,ifs,0⟩] scope pos) scope X.env _ (newList []) false (eval iter X.env) (some (assign (.Name x pos') X.env))) _ _ s
  refine wpAny_bind (wpAny_mono (wpAny_comprehension_free (use:=some (assign (.Name x pos') X.env)) (Q:=λ _ s'=>SP X pins D .next s') rfl hs (zye (c.cells I)) c.kind c.names ?_) (λ _ s' hq=>wpAny_pure (wpAny_pure hq)) λ _ _ e=>e)
  refine thn (hi pins s σ H _ I h) λ v s1 h1=>thn h1 λ itv s2 h2=>?_
  obtain ⟨it,fp,tn,J,H',e,I2,T,st2,f2,W⟩:=h2
  subst e
  refine zmb (Q:=λ x H1=>zjf i x σ H1 D.nx) (RR:=λ acc C=>compPost (model X.prog X.w) X.A X.xe (some (assign (.Name x pos') X.env)) (λ _ s'=>SP X pins D .next s') acc C) c hcalm I2 T st2 f2 (λ C fp=>hg s2 H' C fp pins) (λ C fp=>hc s2 H' C fp pins) (λ C fp=>he s2 H' C fp pins) W λ E C σ' H3 s' hC J3 q=>?_
  obtain ⟨m,ns,_⟩:=J3.loc
  have I3:=CompOk.out I2 f2 J3
  show wpAny _ X.A (assign (.Name x pos') X.env (.ref E)) _ _ _
  refine wpAny_assign_Name (zgc I3 hN hi' hx (v:=.ref E) rfl (λ s'' I4 hsb=>?_) hfn)
  obtain ⟨a,sb,ha⟩:=hsb
  have hCa:C≠a:=by
   rcases ha with z | z
   ·rw [z];exact ji2 (jb2 I2.lt hC)
   ·obtain ⟨v,o,ho,_⟩:=I2.cell x a z
    exact ji2 (jb2 (Heap.lt_size ho) hC)
  exact ⟨m,ns.sameBut sb hCa,λ h' sb'=>⟨_,H3,CompOk.away I2 hC I4 J3.free sb',q⟩⟩
theorem qf8 {P:Program}{w:World}{K:Frag}{tg:Expr} (z:Str) (tk:Tok) (it:Addr):Turn P w K tg (ItS z) [it] it (λ i h=>h.IsStrIter it "str_ascii_iterator" z tk i) where
 mem:=by simp
 obj:=λ i h st b hb=>by
  have e:b=it:=by simpa using hb
  subst e
  obtain ⟨o,e,c,d⟩:=st
  exact ⟨o,e,λ v z=>by rw [d] at z;cases z⟩
 keep:=λ i h h' st k=>by
  obtain ⟨o,e,r⟩:=st
  exact ⟨o,k it (by simp) o e,r⟩
 item:=by
  intro X hP hw hK hc i pins s σ H E I hf st hg
  subst hP hw hK
  have hi:i < z.cps.size:=hg
  obtain ⟨f0,f1,f2,f3,f4,f5⟩:=hf it (by simp)
  refine wpAny_pyNext_ascii_item st (c:=z.cps[i]) (by simp [hi]) λ h' st' sb=>?_
  have I1:Inv X pins σ H { s with heap:=h',toks:=s.toks + 1 }:=I.turned (t':=s.toks + 1) (λ b o hb e=>(sb.2 b hb).trans e) f0 f1 f3 f4 f5
  obtain ⟨o,e,c,d⟩:=id st'
  exact ⟨_,rfl,qhd (s:={ s with heap:=h',toks:=s.toks + 1 }) e c d (by decide) ⟨.str ⟨#[z.cps[i]]⟩,H,I1,⟨_,rfl⟩,⟨rfl,z.cps[i],by simp [hi],rfl⟩,st',λ b hb=>(hf b hb).1⟩⟩
 done:=by
  intro X hP hw hK hc i pins s σ H E I hf st hg
  subst hP hw hK
  have hi:z.cps.size<=i:=hg
  obtain ⟨f0,f1,f2,f3,f4,f5⟩:=hf it (by simp)
  exact wpAny_pyNext_ascii_end (I.ok.hd hc) st (by simp;omega) λ h' eb=>⟨rfl,I.turned (t':=s.toks) (λ b o hb e=>eb b o hb e) f0 f1 f3 f4 f5⟩
 self:=λ _ _ _ _ _ st h=>wpAny_pyIter_striter_ascii st h
theorem qn0 {l:Expr}{tl:TE} (hl:PE X l tl):PI X tg l (iSeq X.K tl):=by
 intro pins s σ H R I h
 refine thn (hl pins s σ H _ I h) λ v s1 ⟨x,H1,I1,r1,q1⟩=>?_
 obtain ⟨a,e,⟨⟨xs,hq⟩,q⟩ | ⟨⟨xs,hq⟩,q⟩⟩ | ⟨z,e,ha,q⟩:=q1
 ·subst e
  cases r1
  obtain ⟨its,rv,p,hz⟩:=I1.list hq
  refine wpAny_pyIter_list p.isList ?_
  refine ⟨s1.heap.objs.size,[s1.heap.objs.size],_,_,H1,rfl,I1.kept (t':=s1.toks) λ b o e=>Heap.get?_push_of_some _ e,qcu a _,⟨_,Heap.get?_push_size _ rfl,rfl,rfl⟩,λ b hb=>?_,q⟩
  have e:b=s1.heap.objs.size:=by simpa using hb
  subst e
  exact I1.fpOk (jb3 _) (I1.hok.fresh (jb3 _))
 ·subst e
  cases r1
  obtain ⟨its,rv,p,hz⟩:=I1.tuple hq
  refine wpAny_pyIter_tuple (show s1.heap.IsTuple a its.toArray from p) ?_
  refine ⟨s1.heap.objs.size,[s1.heap.objs.size],_,_,H1,rfl,I1.kept (t':=s1.toks) λ b o e=>Heap.get?_push_of_some _ e,qb5 a _,⟨_,Heap.get?_push_size _ rfl,rfl,rfl⟩,λ b hb=>?_,q⟩
  have e:b=s1.heap.objs.size:=by simpa using hb
  subst e
  exact I1.fpOk (jb3 _) (I1.hok.fresh (jb3 _))
 ·subst e
  obtain ⟨tk,rfl⟩:=r1
  refine wpAny_pyIter_ascii ha ?_
  refine ⟨s1.heap.objs.size,[s1.heap.objs.size],_,_,H1,rfl,I1.kept (t':=s1.toks) λ b o e=>Heap.get?_push_of_some _ e,qf8 z tk _,⟨_,Heap.get?_push_size _ rfl,rfl,rfl⟩,λ b hb=>?_,q⟩
  have e:b=s1.heap.objs.size:=by simpa using hb
  subst e
  exact I1.fpOk (jb3 _) (I1.hok.fresh (jb3 _))
end
section
variable {M:Fm}{vs:List Nat}{H:Hp}{fps:Fps}{F:List Addr}{Q:VK}
theorem zxm {k:Int}{d:Nat} (h:Leaf M H fps vs F (.int k) d Q):Q (.int k) H:=h (.int k) H [] (λ _ _ h=>h) (by rw [Own];exact ⟨rfl,rfl⟩) (λ _ z=>nomatch z)
theorem zwt {k:Bool}{d:Nat} (h:Leaf M H fps vs F (.bl k) d Q):Q (.bl k) H:=h (.bl k) H [] (λ _ _ h=>h) (by rw [Own];exact ⟨rfl,rfl⟩) (λ _ z=>nomatch z)
theorem zke {k:Str}{d:Nat} (h:Leaf M H fps vs F (.str k) d Q):Q (.str k) H:=h (.str k) H [] (λ _ _ h=>h) (by rw [Own];exact ⟨rfl,rfl⟩) (λ _ z=>nomatch z)
theorem zvb {x:PV}{v:V} (h:Leaf M H fps vs F x (dv x) Q) (o:Own M.K H (Zv M vs fps) x 0 v []):Q v H:=h v H [] (λ _ _ h=>h) (o.dv.weak λ a z=>z.elim id λ z=>nomatch z) (λ _ z=>nomatch z)
theorem zxr {p:Addr}{o:HO} (hp:H p=none):∀ a u,H a=some u->upd H p o a=some u:=λ a u h=>by rw [zqp (λ e=>by rw [e,hp] at h;cases h)];exact h
theorem zbn {xs:List PV}{ws:List V} (h:Leaf M H fps vs F (.lst xs) 1 Q) (o:OwnL M.K H (Zv M vs fps) xs 0 ws []) {p:Addr} (hp:H p=none):Q (.ref p) (upd H p (.lst ws)):=by
 refine h (.ref p) _ [p] (zxr hp) ?_ λ a ha=>.inr (by rw [jb8.mp ha];exact hp)
 rw [Own]
 refine ⟨p,ws,rfl,.inr ⟨(by decide),[],zqv,rfl,(λ z=>nomatch z),?_⟩⟩
 rw [qa4]
 exact OwnL.move (S:=λ _=>False) (λ a u ha _=>zxr hp a u ha) (λ _ z=>z.elim) (λ a hd nz z=>z.elim nz λ z=>hd (by rw [jb8.mp z];exact hp)) xs 0 ws [] (λ _ z=>nomatch z) o
def atoms:List PV->Bool
 | []=>true
 | x::xs=>zmc x && atoms xs
def qhg:PV->Bool
 | .tup xs=>atoms xs
 | x=>zmc x
def zhk:List PV->Bool
 | []=>true
 | x::xs=>qhg x && zhk xs
def d1 (xs:List PV):Nat:=if zhk xs=true then om else 1
theorem OwnL.ats {K:Frag}{H:Hp}{Z Z':Addr->Prop}:∀ {xs:List PV}{ws:List V}{d d':Nat},QQ.atoms xs=true->OwnL K H Z xs d' ws []->OwnL K H Z' xs d ws []
 | [],ws,d,_,_,h=>by rw [OwnL] at h ⊢;exact h
 | x::xs,ws,d,_,ha,h=>by
  unfold QQ.atoms at ha
  rw [ja4] at ha
  rw [OwnL] at h ⊢
  obtain ⟨v,s,f1,f2,rfl,ef,dj,h1,h2⟩:=h
  obtain ⟨rfl,rfl⟩:f1=[]/\f2=[]:=by simpa using ef.symm
  exact ⟨v,s,[],[],rfl,rfl,dj,(Own.atom ha.1 h1).2,h2.ats ha.2⟩
theorem Own.flat {K:Frag}{H:Hp}{Z Z':Addr->Prop}{x:PV}{v:V}{d d':Nat} (hx:qhg x=true) (h:Own K H Z x d' v []):Own K H Z' x d v []:=by
 cases x with
 | tup xs=>
  rw [Own] at h ⊢
  obtain ⟨a,vs,e,ha,hl⟩:=h
  exact ⟨a,vs,e,ha,hl.ats hx⟩
 | lst _=>cases hx
 | dct _=>cases hx
 | exn _=>exact (Own.atom rfl h).2
 | emp=>exact (Own.atom rfl h).2
 | dko=>exact (Own.atom rfl h).2
 | scr _=>exact (Own.atom rfl h).2
 | non=>exact (Own.atom rfl h).2
 | bl _=>exact (Own.atom rfl h).2
 | int _=>exact (Own.atom rfl h).2
 | str _=>exact (Own.atom rfl h).2
theorem OwnL.ats0 {K:Frag}{H:Hp}{Z:Addr->Prop}:∀ {xs:List PV}{ws:List V}{d:Nat}{f:List Addr},QQ.atoms xs=true->OwnL K H Z xs d ws f->f=[]
 | [],ws,d,f,_,h=>by rw [OwnL] at h;exact h.2
 | x::xs,ws,d,f,ha,h=>by
  unfold QQ.atoms at ha
  rw [ja4] at ha
  rw [OwnL] at h
  obtain ⟨v,s,f1,f2,rfl,rfl,dj,h1,h2⟩:=h
  rw [(Own.atom (Z':=Z) (d':=d) ha.1 h1).1,h2.ats0 ha.2]
  rfl
theorem Own.flatA {K:Frag}{H:Hp}{Z Z':Addr->Prop}{x:PV}{v:V}{d d':Nat}{f:List Addr} (hx:qhg x=true) (h:Own K H Z x d v f):f=[]/\Own K H Z' x d' v []:=by
 have e:f=[]:=by
  cases x with
  | tup xs=>
   rw [Own] at h
   obtain ⟨a,vs,e,ha,hl⟩:=h
   exact hl.ats0 hx
  | lst _=>cases hx
  | dct _=>cases hx
  | exn _=>exact (Own.atom (Z':=Z) (d':=d) rfl h).1
  | emp=>exact (Own.atom (Z':=Z) (d':=d) rfl h).1
  | dko=>exact (Own.atom (Z':=Z) (d':=d) rfl h).1
  | scr _=>exact (Own.atom (Z':=Z) (d':=d) rfl h).1
  | non=>exact (Own.atom (Z':=Z) (d':=d) rfl h).1
  | bl _=>exact (Own.atom (Z':=Z) (d':=d) rfl h).1
  | int _=>exact (Own.atom (Z':=Z) (d':=d) rfl h).1
  | str _=>exact (Own.atom (Z':=Z) (d':=d) rfl h).1
 subst e
 exact ⟨rfl,h.flat hx⟩
theorem OwnL.atoms {K:Frag}{H:Hp}{Z Z':Addr->Prop}:∀ {xs:List PV}{ws:List V}{d:Nat},zhk xs=true->OwnL K H Z xs 0 ws []->OwnL K H Z' xs d ws []
 | [],ws,d,_,h=>by rw [OwnL] at h ⊢;exact h
 | x::xs,ws,d,ha,h=>by
  unfold zhk at ha
  rw [ja4] at ha
  rw [OwnL] at h ⊢
  obtain ⟨v,s,f1,f2,rfl,ef,dj,h1,h2⟩:=h
  obtain ⟨rfl,rfl⟩:f1=[]/\f2=[]:=by simpa using ef.symm
  exact ⟨v,s,[],[],rfl,rfl,dj,h1.flat ha.1,h2.atoms ha.2⟩
theorem zwe {xs:List PV}{ws:List V} (h:Leaf M H fps vs F (.lst xs) (d1 xs) Q) (o:OwnL M.K H (Zv M vs fps) xs 0 ws []) {p:Addr} (hp:H p=none):Q (.ref p) (upd H p (.lst ws)):=by
 unfold d1 at h
 split at h
 ·rename_i ha
  refine h (.ref p) _ [p] (zxr hp) ?_ λ a ha=>.inr (by rw [jb8.mp ha];exact hp)
  rw [Own]
  refine ⟨p,ws,rfl,.inr ⟨(by decide),[],zqv,rfl,(λ z=>nomatch z),?_⟩⟩
  have o':OwnL M.K (upd H p (.lst ws)) (Zv M vs fps) xs 0 ws []:=OwnL.move (S:=λ _=>False) (λ a u ha _=>zxr hp a u ha) (λ _ z=>z.elim) (λ _ _ n=>n) xs 0 ws [] (λ _ z=>nomatch z) o
  exact o'.atoms ha
 ·exact zbn h o hp
theorem zjm {xs:List PV}{ws:List V} (h:Leaf M H fps vs F (.tup xs) 0 Q) (o:OwnL M.K H (Zv M vs fps) xs 0 ws []) {p:Addr} (hp:H p=none):Q (.ref p) (upd H p (.tup ws)):=by
 refine h (.ref p) _ [] (zxr hp) ?_ λ a ha=>nomatch ha
 rw [Own]
 refine ⟨p,ws,rfl,zqv,?_⟩
 rw [qd2]
 exact OwnL.move (S:=λ _=>False) (λ a u ha _=>zxr hp a u ha) (λ _ z=>z.elim) (λ a hd nz z=>z.elim nz λ z=>nomatch z) xs 0 ws [] (λ _ z=>nomatch z) o
theorem zyq {xs:List PV}{ws:List V} (h:Leaf M H fps vs F (.lst xs) om Q) {Z:Addr->Prop} (o:OwnL M.K H Z xs om ws F) {p:Addr} (hp:H p=none):Q (.ref p) (upd H p (.lst ws)):=by
 refine h (.ref p) _ (p::F) (zxr hp) ?_ λ a ha=>(jb0.mp ha).elim (λ e=>.inr (by rw [e];exact hp)) .inl
 rw [Own]
 refine ⟨p,ws,rfl,.inr ⟨(by decide),F,zqv,rfl,λ z=>?_,?_⟩⟩
 ·obtain ⟨ys,e⟩:=OwnL.lsts xs om ws F o p z
  rw [hp] at e;cases e
 ·exact OwnL.full xs ws F (OwnL.move (S:=λ _=>False) (Z':=Z) (λ a u ha _=>zxr hp a u ha) (λ _ z=>z.elim) (λ _ _ n=>n) xs om ws F (λ _ _ z=>z) o)
theorem qel {xs:List PV}{ws:List V} (h:Leaf M H fps vs F (.tup xs) om Q) {Z:Addr->Prop} (o:OwnL M.K H Z xs om ws F) {p:Addr} (hp:H p=none):Q (.ref p) (upd H p (.tup ws)):=by
 refine h (.ref p) _ F (zxr hp) ?_ λ a ha=>.inl ha
 rw [Own]
 exact ⟨p,ws,rfl,zqv,OwnL.full xs ws F (OwnL.move (S:=λ _=>False) (Z':=Z) (λ a u ha _=>zxr hp a u ha) (λ _ z=>z.elim) (λ _ _ n=>n) xs om ws F (λ _ _ z=>z) o)⟩
end
theorem Own.seqL {K:Frag}{H:Hp}{Z:Addr->Prop}{xs:List PV}{d:Nat}{v:V}{fp:List Addr} (h:Own K H Z (.lst xs) d v fp):∃ a ws,v=.ref a/\SqL K H a ws/\ws.length=xs.length:=by
 rw [Own] at h
 obtain ⟨a,ws,e,⟨_,hr,_,ol⟩ | ⟨_,f,ha,_,_,ol⟩⟩:=h
 ·exact ⟨a,ws,e,.inl (.inl hr.1),ol.length⟩
 ·exact ⟨a,ws,e,.inl (.inl ha),ol.length⟩
theorem Own.seqT {K:Frag}{H:Hp}{Z:Addr->Prop}{xs:List PV}{d:Nat}{v:V}{fp:List Addr} (h:Own K H Z (.tup xs) d v fp):∃ a ws,v=.ref a/\SqT K H a ws/\ws.length=xs.length:=by
 rw [Own] at h
 obtain ⟨a,ws,e,hr,ol⟩:=h
 exact ⟨a,ws,e,.inl (.inl hr),ol.length⟩
theorem Own.coldL {K:Frag}{H:Hp}{Z:Addr->Prop}{xs:List PV}{v:V} (h:Own K H Z (.lst xs) 0 v []):∃ a ws,v=.ref a/\H a=some (.lst ws)/\OwnL K H Z xs 0 ws []:=by
 rw [Own] at h
 obtain ⟨a,ws,e,⟨_,hr,_,ol⟩ | ⟨h,_⟩⟩:=h
 ·exact ⟨a,ws,e,hr.1,ol⟩
 ·exact absurd rfl h
theorem Own.coldT {K:Frag}{H:Hp}{Z:Addr->Prop}{xs:List PV}{v:V} (h:Own K H Z (.tup xs) 0 v []):∃ a ws,v=.ref a/\H a=some (.tup ws)/\OwnL K H Z xs 0 ws []:=by
 rw [Own] at h
 exact h
theorem OwnL.app {K:Frag}{H:Hp}{Z:Addr->Prop}:∀ {xs ys:List PV}{ws us:List V},OwnL K H Z xs 0 ws []->OwnL K H Z ys 0 us []->OwnL K H Z (xs++ys) 0 (ws++us) []
 | [],ys,ws,us,h,h'=>by rw [OwnL] at h;obtain ⟨rfl,_⟩:=h;exact h'
 | x::xs,ys,ws,us,h,h'=>by
  rw [OwnL] at h
  obtain ⟨v,s,f1,f2,rfl,ef,dj,h1,h2⟩:=h
  obtain ⟨rfl,rfl⟩:f1=[]/\f2=[]:=by simpa using ef.symm
  show OwnL K H Z (x::(xs++ys)) 0 (v::(s++us)) []
  rw [OwnL]
  exact ⟨v,s++us,[],[],rfl,rfl,λ _ z=>(nomatch z),h1,h2.app h'⟩
theorem OwnL.drop {K:Frag}{H:Hp}{Z:Addr->Prop}:∀ {xs:List PV}{ws:List V} (n:Nat),OwnL K H Z xs 0 ws []->OwnL K H Z (xs.drop n) 0 (ws.drop n) []
 | xs,ws,0,h=>h
 | [],ws,n + 1,h=>by rw [OwnL] at h;obtain ⟨rfl,_⟩:=h;rw [jq2,jq2,OwnL];exact ⟨rfl,rfl⟩
 | x::xs,ws,n + 1,h=>by
  rw [OwnL] at h
  obtain ⟨v,s,f1,f2,rfl,ef,dj,h1,h2⟩:=h
  obtain ⟨rfl,rfl⟩:f1=[]/\f2=[]:=by simpa using ef.symm
  exact h2.drop n
theorem OwnL.take {K:Frag}{H:Hp}{Z:Addr->Prop}:∀ {xs:List PV}{ws:List V} (n:Nat),OwnL K H Z xs 0 ws []->OwnL K H Z (xs.take n) 0 (ws.take n) []
 | xs,ws,0,h=>by rw [jk0,jk0,OwnL];exact ⟨rfl,rfl⟩
 | [],ws,n + 1,h=>by rw [OwnL] at h;obtain ⟨rfl,_⟩:=h;rw [jo4,jo4,OwnL];exact ⟨rfl,rfl⟩
 | x::xs,ws,n + 1,h=>by
  rw [OwnL] at h
  obtain ⟨v,s,f1,f2,rfl,ef,dj,h1,h2⟩:=h
  obtain ⟨rfl,rfl⟩:f1=[]/\f2=[]:=by simpa using ef.symm
  rw [jh6,jh6,OwnL]
  exact ⟨v,s.take n,[],[],rfl,rfl,λ _ z=>(nomatch z),h1,h2.take n⟩
theorem OwnL.nth {K:Frag}{H:Hp}{Z:Addr->Prop}{xs:List PV}{ws:List V}{j:Nat}{x:PV} (h:OwnL K H Z xs 0 ws []) (e:xs[j]?=some x):∃ w,ws[j]?=some w/\Own K H Z x 0 w []:=by
 have hj:j < ws.length:=by rw [h.length];exact (ja8.mp e).1
 obtain ⟨y,e1,e2⟩:=h.get (i:=j) (w:=ws[j]) (by simp [hj])
 rw [e] at e1;cases e1
 exact ⟨_,by simp [hj],e2⟩
theorem cold {M:Fm}{vs:List Nat}{H:Hp}{fps:Fps}{x:PV}{d:Nat}{v:V}{fp:List Addr} (o:Own M.K H (Zt M vs fps fp) x d v fp) (hf:∀ a∈fp,¬ Zf M fps a):Own M.K H (Zv M vs fps) x 0 v []:=
 Own.freeze (λ _ z=>.inl z) x d v fp (λ a ha z=>hf a ha z.zf) o
def zqf:PV->Nat->PV->Nat->Option (PV×Nat)
 | .int i,_,.int j,_=>some (.int (i + j),om)
 | .lst xs,_,.lst ys,_=>if xs.length + ys.length<=sizeLine then some (.lst (xs++ys),d1 (xs++ys)) else none
 | .tup xs,_,.tup ys,_=>if xs.length + ys.length<=sizeLine then some (.tup (xs++ys),0) else none
 | .str x,_,.str y,_=>if x.length + y.length<=sizeLine then some (.str (x++y),om) else none
 | _,_,_,_=>none
def qcf (p:Int->Int->Bool) (g:Int->Int->Int):PV->Nat->PV->Nat->Option (PV×Nat)
 | .int i,_,.int j,_=>if p i j then some (.int (g i j),om) else none
 | _,_,_,_=>none
def pMul (i j:Int):Bool:=(decide (-(2 ^ 64) < i) && decide (i < 2 ^ 64)) || (decide (-(2 ^ 64) < j) && decide (j < 2 ^ 64))
def pDiv (_ j:Int):Bool:=decide (0 < j) && decide (j < 2 ^ 128)
def pMod (_ j:Int):Bool:=decide (0 < j)
def pPow (i j:Int):Bool:=decide (0<=j) && decide (j<=1000) && decide (i.natAbs < 2 ^ 64)
def zzz:=qcf (λ _ _=>true) (λ i j=>i - j)
def repL (n:Nat) (xs:List PV):List PV:=(ja6 n xs).flatten
def sRep (x:Str) (n:Nat):Str:=⟨(ja6 n x.cps.toList).flatten.toArray⟩
def zxx:PV->Nat->PV->Nat->Option (PV×Nat)
 | .str x,_,.int n,_=>if -(2 ^ 62)<=n/\n < 2 ^ 62/\x.length * n.toNat<=sizeLine then some (.str (sRep x n.toNat),om) else none
 | .int i,_,.int j,_=>if pMul i j then some (.int (i * j),om) else none
 | .lst xs,_,.int k,_=>if 0<=k/\k < 2 ^ 62/\xs.length * k.toNat<=sizeLine then some (.lst (repL k.toNat xs),d1 (repL k.toNat xs)) else none
 | _,_,_,_=>none
def zwd:=qcf pDiv (λ i j=>i / j)
def zxh:=qcf pMod (λ i j=>i % j)
def zjd:=qcf pPow (λ i j=>i ^ j.toNat)
section
variable {X:Cx}
theorem OpR.or {f:Value->Value->Sem Value}{r r':R2} (h:OpR X f r) (h':OpR X f r'):OpR X f (λ x y H Q=>r x y H Q\/r' x y H Q):=by
 intro pins s σ H x y v u Q I rx ry q
 rcases q with q | q
 ·exact h pins s σ H x y v u Q I rx ry q
 ·exact h' pins s σ H x y v u Q I rx ry q
theorem qgy:OpR X (binaryOp .FloorDiv) (rI (λ _ j=>0 < j/\j < 2 ^ 128) λ i j=>.int (i / j)):=opI λ i j _ _ _ _ _ hc q=>by
 have h1:(0:Int) < j:=hc.1
 have h2:j < 2 ^ 128:=hc.2
 refine floordiv_int (by omega) (by rw [Int.fdiv_eq_ediv_of_nonneg i (by omega)];exact q) (.inl (PyProof.noPylong_of_log2 ?_))
 have h3:j.natAbs < 2 ^ 128:=by omega
 have h4:j.natAbs≠0:=by omega
 have:=(jr3 h4).mpr h3
 omega
end
theorem zqt {X:Cx}{e:Expr}{t t':TE} (h:PE X e t) (i:∀ σ H Q,t' σ H Q->t σ H Q):PE X e t':=λ pins s σ H Q I q=>h pins s σ H Q I (i σ H Q q)
theorem zgi {X:Cx}{e:Expr}{t t':TT} (h:PT X e t) (i:∀ σ H Q,t' σ H Q->t σ H Q):PT X e t':=λ pins s σ H Q I q=>h pins s σ H Q I (i σ H Q q)
theorem qij {X:Cx}{e:Expr}{t t':TT} (h:PW X e t) (i:∀ σ H Q,t' σ H Q->t σ H Q):PW X e t':=λ wh pins s σ H Q I q=>h wh pins s σ H Q I (i σ H Q q)
theorem qit {X:Cx}{e:List Expr}{t t':TA} (h:PA X e t) (i:∀ σ H Q,t' σ H Q->t σ H Q):PA X e t':=λ p pins s σ H Q I q=>h p pins s σ H Q I (i σ H Q q)
theorem zxs {X:Cx}{e:Stmt}{t t':TS} (h:PS X e t) (i:∀ D σ H,t' D σ H->t D σ H):PS X e t':=λ pins s σ H D I q=>h pins s σ H D I (i D σ H q)
theorem qdn {X:Cx}{e:List Stmt}{t t':TS} (h:PSs X e t) (i:∀ D σ H,t' D σ H->t D σ H):PSs X e t':=λ pins s σ H D I q=>h pins s σ H D I (i D σ H q)
section
variable {X:Cx}{M:Fm}{a b:Expr}{f g:Fx}{vs vs':List Nat}{pos:Pos}{σ:St}{H:Hp}{Q:VK}
theorem qgz:OpR X (binaryOp .Add) (λ x y H Q=>∃ a b ys,x=.ref a/\y=.ref b/\SqT X.K H a []/\SqT X.K H b ys/\Q (.ref b) H):=by
 intro pins s σ H x y v u Q I rx ry h
 obtain ⟨a,b,ys,rfl,rfl,ha,hb,q⟩:=h
 cases rx
 cases ry
 obtain ⟨its,r1,p1,_⟩:=I.tuple ha
 obtain ⟨its2,r2,p2,_⟩:=I.tuple hb
 cases r1
 obtain ⟨⟨cls,dd,data,sl⟩,ho,hc,n,hd⟩:=id p1
 obtain ⟨⟨cls2,dd2,data2,sl2⟩,ho2,hc2,n2,hd2⟩:=id p2
 simp only at hc hd hc2 hd2
 subst hc hd hc2 hd2
 exact concat_meets ⟨_,ho,rfl⟩ ⟨_,ho2,rfl⟩ noFill_tuple_add seq_tuple_add PySem.F.slot_tuple_add PySem.F.entry_tuple_add (PySem.F.args_tuple_add_2 _ _)
  (tuple_addW0 a b _ its2.toArray n n2 dd dd2 sl sl2 rfl) ⟨ho,ho2,⟨.ref b,H,I,rfl,q⟩⟩
theorem qnk (hv:∀ i∈vs,M.Ms i=false) (hK:M.K=X.K) (ha:PE X a (tE M f vs)) (hb:PE X b (tE M g vs')):PE X (.BinOp a .Add b pos) (tE M (bBin zqf f g) (vs++vs')):=by
 refine zqt (qgs (qoi.or (qiu.or (qkw.or (qgz.or qce)))) ha hb) λ σ H Q h=>zzs hv (λ x d y e z c v w H fps f1 f2 Q ho o1 o2 dj nz zd lf=>?_) h
 cases x with
 | int i=>
  cases y with
  | int j=>
   cases ho
   rw [Own] at o1 o2
   exact .inl ⟨i,j,o1.1,o2.1,zxm lf⟩
  | _=>cases ho
 | lst xs=>
  cases y with
  | lst ys=>
   dsimp only [zqf] at ho
   split at ho
   ·rename_i hl
    cases ho
    obtain ⟨p,ws,rfl,hp,ol⟩:=(cold o1 λ a ha=>nz a (ja9 _ ha)).coldL
    obtain ⟨p2,us,rfl,hp2,ol2⟩:=(cold o2 λ a ha=>nz a (ja7 _ ha)).coldL
    exact .inr (.inl ⟨p,p2,ws,us,rfl,rfl,hp,hp2,by rw [ol.length,ol2.length];exact hl,λ q hq=>zwe lf (ol.app ol2) hq⟩)
   ·cases ho
  | _=>cases ho
 | tup xs=>
  cases y with
  | tup ys=>
   dsimp only [zqf] at ho
   split at ho
   ·rename_i hl
    cases ho
    obtain ⟨p,ws,rfl,hp,ol⟩:=(cold o1 λ a ha=>nz a (ja9 _ ha)).coldT
    obtain ⟨p2,us,rfl,hp2,ol2⟩:=(cold o2 λ a ha=>nz a (ja7 _ ha)).coldT
    by_cases hw:ws=[]
    ·subst hw
     refine .inr (.inr (.inr (.inl ⟨p,p2,us,rfl,rfl,.inl (.inl hp),.inl (.inl hp2),?_⟩)))
     have ex:xs=[]:=by
      have:=ol.length
      cases xs with
      | nil=>rfl
      | cons _ _=>simp at this
     subst ex
     exact zvb (x:=.tup ys) lf (by rw [Own];exact ⟨p2,us,rfl,hp2,ol2⟩)
    ·refine .inr (.inr (.inl ⟨p,p2,ws,us,rfl,rfl,.inl (.inl hp),.inl (.inl hp2),hw,by rw [ol.length,ol2.length];exact hl,λ hu=>?_,λ hu q hq=>zjm lf (ol.app ol2) hq⟩))
     subst hu
     have ey:ys=[]:=by
      have:=ol2.length
      cases ys with
      | nil=>rfl
      | cons _ _=>simp at this
     subst ey
     rw [jf2] at lf
     exact zvb (x:=.tup xs) lf (by rw [Own];exact ⟨p,ws,rfl,hp,ol⟩)
   ·cases ho
  | _=>cases ho
 | str i=>
  cases y with
  | str j=>
   dsimp only [zqf] at ho
   split at ho
   ·rename_i hl
    cases ho
    rw [Own] at o1 o2
    exact .inr (.inr (.inr (.inr ⟨i,j,o1.1,o2.1,hl,zke lf⟩)))
   ·cases ho
  | _=>cases ho
 | _=>cases ho
def zpk:PV->Nat->PV->Nat->Option (PV×Nat)
 | .lst xs,_,.lst ys,e=>if xs.length + ys.length<=sizeLine then some (.lst (xs++ys),if zhk xs=true/\e=om then om else d1 (xs++ys)) else none
 | _,_,_,_=>none
theorem OwnL.appF {K:Frag}{H:Hp}{Z:Addr->Prop}{ys:List PV}{us:List V}{fc:List Addr} (h':OwnL K H Z ys om us fc):∀ {xs:List PV}{ws:List V},OwnL K H Z xs om ws []->OwnL K H Z (xs++ys) om (ws++us) fc
 | [],ws,h=>by rw [OwnL] at h;obtain ⟨rfl,_⟩:=h;exact h'
 | x::xs,ws,h=>by
  rw [OwnL] at h
  obtain ⟨v,s,f1,f2,rfl,ef,dj,h1,h2⟩:=h
  obtain ⟨rfl,rfl⟩:f1=[]/\f2=[]:=by simpa using ef.symm
  show OwnL K H Z (x::(xs++ys)) om (v::(s++us)) fc
  rw [OwnL]
  exact ⟨v,s++us,[],fc,rfl,rfl,λ _ z=>(nomatch z),h1,OwnL.appF h' h2⟩
theorem qka (hv:∀ i∈vs,M.Ms i=false) (hK:M.K=X.K) (ha:PE X a (tE M f vs)) (hb:PE X b (tE M g vs')):PE X (.BinOp a .Add b pos) (tE M (bBin zpk f g) (vs++vs')):=by
 refine zqt (qgs qiu ha hb) λ σ H Q h=>zzs hv (λ x d y e z c v w H fps f1 f2 Q ho o1 o2 dj nz zd lf=>?_) h
 cases x with
 | lst xs=>
  cases y with
  | lst ys=>
   dsimp only [zpk] at ho
   split at ho
   ·rename_i hl
    cases ho
    obtain ⟨p,ws,rfl,hp,ol⟩:=(cold o1 λ a ha=>nz a (ja9 _ ha)).coldL
    split at lf
    ·rename_i hc
     obtain ⟨ht,rfl⟩:=hc
     obtain ⟨p2,us,fc,rfl,hp2,ef,na,ol2⟩:=o2.list (by decide)
     refine ⟨p,p2,ws,us,rfl,rfl,hp,hp2,by rw [ol.length,ol2.length];exact hl,λ q hq=>?_⟩
     have lf':Leaf M H fps (vs++vs') fc (.lst (xs++ys)) om Q:=λ u H' fp h1 h2 h3=>lf u H' fp h1 h2 λ a ha=>(h3 a ha).elim (λ z=>.inl (ja7 _ (by rw [ef];exact ja2 _ z))) .inr
     exact zyq lf' (OwnL.appF ol2 (ol.atoms ht)) hq
    ·obtain ⟨p2,us,rfl,hp2,ol2⟩:=(cold o2 λ a ha=>nz a (ja7 _ ha)).coldL
     exact ⟨p,p2,ws,us,rfl,rfl,hp,hp2,by rw [ol.length,ol2.length];exact hl,λ q hq=>zwe lf (ol.app ol2) hq⟩
   ·cases ho
  | _=>cases ho
 | _=>cases ho
theorem qav {op:Operator}{p:Int->Int->Bool}{k:Int->Int->Int}{C:Int->Int->Prop} (hop:OpR X (binaryOp op) (rI C λ i j=>.int (k i j))) (hC:∀ i j,p i j=true->C i j) (hv:∀ i∈vs,M.Ms i=false) (ha:PE X a (tE M f vs)) (hb:PE X b (tE M g vs')):
  PE X (.BinOp a op b pos) (tE M (bBin (qcf p k) f g) (vs++vs')):=by
 refine zqt (qgs hop ha hb) λ σ H Q h=>zzs hv (λ x d y e z c v w H fps f1 f2 Q ho o1 o2 dj nz zd lf=>?_) h
 cases x with
 | int i=>
  cases y with
  | int j=>
   dsimp only [qcf] at ho
   split at ho
   ·rename_i hp
    cases ho
    rw [Own] at o1 o2
    exact ⟨i,j,o1.1,o2.1,hC i j hp,zxm lf⟩
   ·cases ho
  | _=>cases ho
 | _=>cases ho
theorem OwnL.rep {K:Frag}{H:Hp}{Z:Addr->Prop}{xs:List PV}{ws:List V} (h:OwnL K H Z xs 0 ws []):∀ n,OwnL K H Z (repL n xs) 0 (ja6 n ws).flatten []
 | 0=>by
  unfold repL
  rw [jo0,jo0,jp5,jp5,OwnL];exact ⟨rfl,rfl⟩
 | n + 1=>by
  have:=h.rep n
  unfold repL at this ⊢
  rw [jd3,jd3,jf5,jf5]
  exact h.app this
theorem qku:OpR X (binaryOp .Sub) (rI (λ _ _=>True) λ i j=>.int (i - j)):=opI λ _ _ _ _ _ _ _ _ q=>sub_int q
theorem cMul {i j:Int} (h:pMul i j=true):CMul i j:=by
 unfold pMul at h
 simp only [je7,ja4,decide_eq_true_eq] at h
 exact h
theorem zbc (a:Array Nat):∀ (n:Nat) (b:Array Nat),(ja6 n a).foldl (·++·) b=⟨b.toList++(ja6 n a.toList).flatten⟩
 | 0,b=>by simp
 | n + 1,b=>by
  rw [jd3,jm8,zbc a n,jd3,jf5]
  simp
theorem qcd:OpR X (binaryOp .Mult) (λ x y H Q=>∃ z n,x=.str z/\y=.int n/\-(2 ^ 62)<=n/\n < 2 ^ 62/\z.length * n.toNat<=sizeLine/\Q (.str (sRep z n.toNat)) H):=by
 intro pins s σ H x y v u Q I rx ry h
 obtain ⟨z,n,rfl,rfl,h1,h2,h3,q⟩:=h
 obtain ⟨t1,rfl⟩:=rx
 obtain ⟨t2,rfl⟩:=ry
 have hz:Builtin.Str.tooLong (z.length * n.toNat)=false:=by
  unfold Builtin.Str.tooLong
  have h40:sizeLine<=2 ^ 40:=by decide
  exact decide_eq_false (by omega)
 refine PySem.P.mul_str (by rw [decide_eq_false (by omega),decide_eq_false (by omega)];rfl) (λ _ _ hc=>?_) (λ _ _=>hz) ?_
 ·have hn:(1:Int)<=n:=by omega
  have hl:z.length * n.toNat<=2 ^ 62:=jc6 h3 (by decide)
  have h4:(z.length:Int) * n<=2 ^ 62:=by
   have:((z.length * n.toNat:Nat):Int)<=((2 ^ 62:Nat):Int):=jq6.mpr hl
   rw [jn1,show ((n.toNat:Nat):Int)=n by omega] at this
   exact this
  have h5:(2 ^ 63 - 1) / n < (z.length:Int):=hc
  have h6:=Int.lt_mul_of_ediv_lt (by omega:(0:Int) < n) h5
  omega
 ·by_cases c1:n < 1
  ·rw [if_pos c1]
   refine ⟨by decide,.str (sRep z n.toNat),H,I.tok _,⟨s.toks,?_⟩,q⟩
   rw [show n.toNat=0 by omega]
   rfl
  ·rw [if_neg c1]
   split
   ·rename_i c2
    refine ⟨.str (sRep z n.toNat),H,I,⟨t1,?_⟩,q⟩
    have e:sRep z n.toNat=z:=by
     unfold sRep
     rcases je7 _ _ ▸ c2 with c | c
     ·have:n=1:=by simpa using c
      subst this
      show (⟨([z.cps.toList].flatten).toArray⟩:Str)=z
      simp
     ·have e0:z.cps.toList=[]:=by
       have:z.cps.size=0:=eq_of_beq c
       exact jl8.mpr (Array.eq_empty_of_size_eq_zero this)
      rw [e0]
      have:(ja6 n.toNat ([]:List Nat)).flatten=[]:=by simp
      rw [this]
      cases z with
      | mk a=>simp at e0;subst e0;rfl
    rw [e]
   ·refine ⟨?_,.str (sRep z n.toNat),H,I.tok _,⟨s.toks,?_⟩,q⟩
    ·rw [zbc]
     show (#[].toList++(ja6 n.toNat z.cps.toList).flatten).length<=sizeLine
     simp only [jg1,jb4,List.length_flatten,List.map_replicate,List.sum_replicate_nat]
     have h4:n.toNat * z.cps.size<=sizeLine:=by rw [jq4];exact h3
     simpa using h4
    ·unfold sRep
     rw [zbc]
     simp
theorem qnc (hv:∀ i∈vs,M.Ms i=false) (ha:PE X a (tE M f vs)) (hb:PE X b (tE M g vs')):PE X (.BinOp a .Mult b pos) (tE M (bBin zxx f g) (vs++vs')):=by
 refine zqt (qgs (qoa.or (qn7.or qcd)) ha hb) λ σ H Q h=>zzs hv (λ x d y e z c v w H fps f1 f2 Q ho o1 o2 dj nz zd lf=>?_) h
 cases x with
 | int i=>
  cases y with
  | int j=>
   dsimp only [zxx] at ho
   split at ho
   ·rename_i hp
    cases ho
    rw [Own] at o1 o2
    exact .inl ⟨i,j,o1.1,o2.1,cMul hp,zxm lf⟩
   ·cases ho
  | _=>cases ho
 | lst xs=>
  cases y with
  | int k=>
   dsimp only [zxx] at ho
   split at ho
   ·rename_i hl
    cases ho
    obtain ⟨p,ws,rfl,hp,ol⟩:=(cold o1 λ a ha=>nz a (ja9 _ ha)).coldL
    rw [Own] at o2
    exact .inr (.inl ⟨p,k,ws,rfl,o2.1,hp,by omega,by omega,by rw [ol.length];exact hl.2.2,λ q hq=>zwe lf (ol.rep k.toNat) hq⟩)
   ·cases ho
  | _=>cases ho
 | str z=>
  cases y with
  | int k=>
   dsimp only [zxx] at ho
   split at ho
   ·rename_i hl
    cases ho
    rw [Own] at o1
    rw [Own] at o2
    exact .inr (.inr ⟨z,k,o1.1,o2.1,hl.1,hl.2.1,hl.2.2,zke lf⟩)
   ·cases ho
  | _=>cases ho
 | _=>cases ho
theorem cDiv {i j:Int} (h:pDiv i j=true):0 < j/\j < 2 ^ 128:=by
 unfold pDiv at h
 simp only [ja4,decide_eq_true_eq] at h
 exact h
theorem cMod {i j:Int} (h:pMod i j=true):0 < j:=by
 unfold pMod at h
 simpa using h
theorem cPow {i j:Int} (h:pPow i j=true):CPow i j:=by
 unfold pPow at h
 simp only [ja4,decide_eq_true_eq] at h
 exact ⟨h.1.1,by omega,h.2⟩
def zwi:PV->Nat->Option (PV×Nat)
 | .int i,_=>some (.int (-i),om)
 | _,_=>none
theorem qnb (ha:PE X a (tE M f vs)):PE X (.UnaryOp .USub a pos) (tE M (bUn zwi f) vs):=by
 refine zqt (qn2 qia ha) λ σ H Q h=>zhr (λ x d z c v H fps f1 Q ho o1 nz zd lf=>?_) h
 cases x with
 | int i=>cases ho;rw [Own] at o1;exact ⟨i,o1.1,zxm lf⟩
 | _=>cases ho
def zxq (p:Int->Int->Bool):PV->Nat->PV->Nat->Option (PV×Nat)
 | .int i,_,.int j,_=>some (.bl (p i j),om)
 | _,_,_,_=>none
theorem zjn {p:Int->Int->Bool}{x y z:PV}{d e c:Nat}{v w:V}{fps:Fps}{f1 f2 F:List Addr}{Z Z':Addr->Prop} (ho:zxq p x d y e=some (z,c)) (o1:Own M.K H Z x d v f1) (o2:Own M.K H Z' y e w f2) (lf:Leaf M H fps vs F z c Q):rI0 (λ i j=>.bl (p i j)) v w H Q:=by
 cases x with
 | int i=>
  cases y with
  | int j=>
   cases ho
   rw [Own] at o1 o2
   exact ⟨i,j,o1.1,o2.1,zwt lf⟩
  | _=>cases ho
 | _=>cases ho
def sV:PV->Option V
 | .non=>some .non
 | .bl b=>some (.bl b)
 | .int i=>some (.int i)
 | .str x=>some (.str x)
 | _=>none
def toDL (f:PV->Option PyData):List PV->Option (List PyData)
 | []=>some []
 | x::xs=>match f x,toDL f xs with
  | some a,some r=>some (a::r)
  | _,_=>none
def toD:Nat->PV->Option PyData
 | 0,_=>none
 | n + 1,x=>match x with
  | .non=>some .none
  | .bl b=>some (.bool b)
  | .int i=>some (.int i)
  | .str z=>if PyData.strOk z=true then some (.str z) else none
  | .lst xs=>(toDL (toD n) xs).map .list
  | .tup xs=>(toDL (toD n) xs).map .tuple
  | _=>none
def zki (f:PV->PV->Bool):List PV->List PV->Bool
 | [],[]=>true
 | x::xs,y::ys=>f x y && zki f xs ys
 | _,_=>false
def zjb:Nat->PV->PV->Bool
 | 0,_,_=>false
 | n + 1,x,y=>match x,y with
  | .non,.non=>true
  | .bl a,.bl b=>a == b
  | .int a,.int b=>a == b
  | .str a,.str b=>a == b
  | .emp,.emp=>true
  | .lst xs,.lst ys=>zki (zjb n) xs ys
  | .tup xs,.tup ys=>zki (zjb n) xs ys
  | _,_=>false
def opEq (neg:Bool) (x:PV) (_:Nat) (y:PV) (_:Nat):Option (PV×Nat):=match toD 20 x,toD 20 y with
 | some a,some b=>some (.bl (neg^^PyData.eqv a b),om)
 | _,_=>match x,y with
  | .lst xs,.lst ys=>if zki (zjb 20) xs ys=true then some (.bl (neg^^true),om) else if xs.length≠ys.length then some (.bl (neg^^false),om) else none
  | .str a,.str b=>some (.bl (neg^^(a == b)),om)
  | .emp,.emp=>some (.bl (neg^^true),om)
  | .tup xs,.tup ys=>if zki (zjb 20) xs ys=true then some (.bl (neg^^true),om) else none
  | _,_=>none
theorem zks {f:PV->Option PyData}{n:Nat} (hf:∀ x D,f x=some D->D.canLay0=true/\D.depth<=n):∀ {xs:List PV}{Ds:List PyData},toDL f xs=some Ds->PyData.canLayAll0 Ds=true/\PyData.depthAll Ds<=n
 | [],Ds,h=>by cases h;rw [PyData.canLayAll0,PyData.depthAll];exact ⟨rfl,jg2 _⟩
 | x::xs,Ds,h=>by
  unfold toDL at h
  split at h
  ·rename_i a r h1 h2
   cases h
   have h3:=hf x a h1
   have h4:=zks hf h2
   rw [PyData.canLayAll0,PyData.depthAll,h3.1,h4.1]
   exact ⟨rfl,Nat.max_le.mpr ⟨h3.2,h4.2⟩⟩
  ·cases h
theorem zwo:∀ (n:Nat) (x:PV) (D:PyData),toD n x=some D->D.canLay0=true/\D.depth<=n
 | 0,_,_,h=>by cases h
 | n + 1,x,D,h=>by
  unfold toD at h
  cases x with
  | non=>cases h;rw [PyData.canLay0,PyData.depth] <;> first | exact ⟨rfl,jg2 _⟩ | (intros;contradiction)
  | bl b=>cases h;rw [PyData.canLay0,PyData.depth] <;> first | exact ⟨rfl,jg2 _⟩ | (intros;contradiction)
  | int i=>cases h;rw [PyData.canLay0,PyData.depth] <;> first | exact ⟨rfl,jg2 _⟩ | (intros;contradiction)
  | str z=>
   dsimp only at h
   split at h
   ·rename_i hz
    cases h;rw [PyData.canLay0,PyData.depth] <;> first | exact ⟨hz,jg2 _⟩ | (intros;contradiction)
   ·cases h
  | lst xs=>
   obtain ⟨Ds,e,rfl⟩:=jb5.mp h
   have:=zks (zwo n) e
   rw [PyData.canLay0,PyData.depth]
   exact ⟨this.1,jp6 this.2⟩
  | tup xs=>
   obtain ⟨Ds,e,rfl⟩:=jb5.mp h
   have:=zks (zwo n) e
   rw [PyData.canLay0,PyData.depth]
   exact ⟨this.1,jp6 this.2⟩
  | emp=>cases h
  | dko=>cases h
  | scr ns=>cases h
  | dct _=>cases h
  | exn _=>cases h
theorem zww {pins:List (Addr×Obj)}{s:Shared}{Z:Addr->Prop} (I:L2.Inv X pins σ H s):∀ (n:Nat) (x:PV) (d:Nat) (v:V) (fp:List Addr) (u:Value) (D:PyData),toD n x=some D->Own X.K H Z x d v fp->RelV v u->∃ as,Reads s.heap u D as
 | 0,_,_,_,_,_,_,h,_,_=>by cases h
 | n + 1,x,d,v,fp,u,D,h,o,r=>by
  have all:∀ (xs:List PV) (d:Nat) (ws:List V) (fp:List Addr) (us:List Value) (Ds:List PyData),toDL (toD n) xs=some Ds->OwnL X.K H Z xs d ws fp->Vals ws us->∃ as,ReadsAll s.heap us Ds as:=λ xs=>by
   induction xs with
   | nil=>
    intro d ws fp us Ds h o r
    cases h
    rw [OwnL] at o
    obtain ⟨rfl,_⟩:=o
    cases r
    exact ⟨_,.nil⟩
   | cons y ys ih=>
    intro d ws fp us Ds h o r
    unfold toDL at h
    split at h
    ·rename_i a rr h1 h2
     cases h
     rw [OwnL] at o
     obtain ⟨v,s,f1,f2,rfl,_,_,o1,o2⟩:=o
     cases r with
     | cons r1 r2=>
      obtain ⟨as,ra⟩:=zww I n y d v f1 _ a h1 o1 r1
      obtain ⟨bs,rb⟩:=ih d s f2 _ rr h2 o2 r2
      exact ⟨_,.cons ra rb⟩
    ·cases h
  unfold toD at h
  cases x with
  | non=>cases h;rw [Own] at o;obtain ⟨rfl,_⟩:=o;cases r;exact ⟨_,.none⟩
  | bl b=>cases h;rw [Own] at o;obtain ⟨rfl,_⟩:=o;cases r;exact ⟨_,.bool b⟩
  | int i=>cases h;rw [Own] at o;obtain ⟨rfl,_⟩:=o;obtain ⟨t,rfl⟩:=r;exact ⟨_,.int i t⟩
  | str z=>
   dsimp only at h
   split at h
   ·cases h;rw [Own] at o;obtain ⟨rfl,_⟩:=o;obtain ⟨t,rfl⟩:=r;exact ⟨_,.str z t⟩
   ·cases h
  | lst xs=>
   obtain ⟨Ds,e,rfl⟩:=jb5.mp h
   have hh:∃ a ws d' f,v=.ref a/\H a=some (.lst ws)/\OwnL X.K H Z xs d' ws f:=by
    rw [Own] at o
    obtain ⟨a,ws,ev,⟨_,hr,_,ol⟩ | ⟨_,f,ha,_,_,ol⟩⟩:=o
    ·exact ⟨a,ws,_,_,ev,hr.1,ol⟩
    ·exact ⟨a,ws,_,_,ev,ha,ol⟩
   obtain ⟨a,ws,d',f,rfl,ha,ol⟩:=hh
   cases r
   obtain ⟨its,rv,⟨ob,nn,e1,e2,e3,e4⟩,_⟩:=I.list (.inl (.inl ha))
   obtain ⟨as,ra⟩:=all xs d' ws f its Ds e ol rv
   exact ⟨_,.list e1 e2 e4 ra⟩
  | tup xs=>
   obtain ⟨Ds,e,rfl⟩:=jb5.mp h
   rw [Own] at o
   obtain ⟨a,ws,rfl,ha,ol⟩:=o
   cases r
   obtain ⟨its,rv,⟨ob,e1,e2,nn,e4⟩,_⟩:=I.tuple (.inl (.inl ha))
   obtain ⟨as,ra⟩:=all xs _ ws fp its Ds e ol rv
   exact ⟨_,.tuple e1 e2 e4 ra⟩
  | emp=>cases h
  | dko=>cases h
  | scr ns=>cases h
  | dct _=>cases h
  | exn _=>cases h
theorem zpy {K':Type} [DecidableEq K'] {prog:Program}{w:World}{knd:KeyKind prog w K'}{P:Program}{w0:World}{h:Heap}{a:Addr} (x:h.DictOf (zvv P w0) a []):h.DictOf knd a []:=by
 obtain ⟨o,es,ep,h1,h2,h3,h4,h5,h6⟩:=x
 generalize hes:es.toList=l at h5
 cases h5
 have e:es=#[]:=jl8.mp hes
 subst e
 exact ⟨o,#[],ep,h1,h2,h3,by intro z hz;simp at hz,.nil,.nil⟩
theorem qo3 {pins:List (Addr×Obj)}{s:Shared} (I:L2.Inv X pins σ H s) {a b:Addr}{A:Around} (ha:H a=some (.dK [])) (hb:H b=some (.dK [])) (hu:A.units < cLine):SeqAt.EqAt A s (.ref a) (.ref b) true:=by
 by_cases e:a=b
 ·subst e;exact SeqAt.EqAt.same _
 ·refine SeqAt.EqAt.of_refs e λ prog w E Q hq=>?_
  obtain ⟨_,z1,vs,k1,d1⟩:=qe6 I.hok ha
  obtain ⟨_,z2,ws,k2,d2⟩:=qe6 I.hok hb
  cases k1
  cases k2
  exact PySem.W.keq_eq (knd:=zvv prog w) (r:=true) z1 z2 (zpy d1) (zpy d2) hu (λ _=>.nil) (by simpa using hq)
theorem zvj {Z:Addr->Prop}{xs:List PV}{d:Nat}{v:V}{fp:List Addr}{K:Frag} (o:Own K H Z (.lst xs) d v fp):∃ a ws d' f,v=.ref a/\H a=some (.lst ws)/\OwnL K H Z xs d' ws f:=by
 rw [Own] at o
 obtain ⟨a,ws,ev,⟨_,hr,_,ol⟩ | ⟨_,f,ha,_,_,ol⟩⟩:=o
 ·exact ⟨a,ws,_,_,ev,hr.1,ol⟩
 ·exact ⟨a,ws,_,_,ev,ha,ol⟩
theorem zyi {n:Nat}{e:Nat->Bool} (h:∀ j,j < n->e j=true):(jc2 n).all e=true:=jb9.mpr λ j hj=>h j (jd8.mp hj)
theorem qdh {pins:List (Addr×Obj)}{s:Shared}{Z Z':Addr->Prop} (I:L2.Inv X pins σ H s):∀ (n:Nat) (x y:PV) (d e:Nat) (v w:V) (f1 f2:List Addr) (u u':Value) (A:Around),A.units + n < cLine->zjb n x y=true->Own X.K H Z x d v f1->Own X.K H Z' y e w f2->RelV v u->RelV w u'->SeqAt.EqAt A s u u' true
 | 0,_,_,_,_,_,_,_,_,_,_,_,_,h,_,_,_,_=>by cases h
 | n + 1,x,y,d,e,v,w,f1,f2,u,u',A,hu,h,o1,o2,r1,r2=>by
  have all:∀ (xs ys:List PV) (d e:Nat) (vs ws:List V) (f1 f2:List Addr) (us us':List Value),zki (zjb n) xs ys=true->OwnL X.K H Z xs d vs f1->OwnL X.K H Z' ys e ws f2->Vals vs us->Vals ws us'->us.length=us'.length/\∀ j (h1:j < us.length) (h2:j < us'.length),SeqAt.EqAt A.in1 s us[j] us'[j] true:=λ xs=>by
   induction xs with
   | nil=>
    intro ys d e vs ws f1 f2 us us' h o1 o2 r1 r2
    cases ys with
    | cons _ _=>cases h
    | nil=>
     rw [OwnL] at o1 o2
     obtain ⟨rfl,_⟩:=o1
     obtain ⟨rfl,_⟩:=o2
     cases r1
     cases r2
     exact ⟨rfl,λ j h1 _=>nomatch h1⟩
   | cons x xs ih=>
    intro ys d e vs ws f1 f2 us us' h o1 o2 r1 r2
    cases ys with
    | nil=>cases h
    | cons y ys=>
     unfold zki at h
     rw [ja4] at h
     rw [OwnL] at o1 o2
     obtain ⟨_,_,g1,g2,rfl,_,_,p1,p2⟩:=o1
     obtain ⟨_,_,k1,k2,rfl,_,_,q1,q2⟩:=o2
     cases r1 with
     | cons a1 a2=>
      cases r2 with
      | cons b1 b2=>
       have t:=ih ys d e _ _ g2 k2 _ _ h.2 p2 q2 a2 b2
       refine ⟨congrArg (·+ 1) t.1,λ j h1 h2=>?_⟩
       cases j with
       | zero=>exact qdh I n x y d e _ _ g1 k1 _ _ A.in1 (by have e:A.in1.units=A.units + 1:=rfl;omega) h.1 p1 q1 a1 b1
       | succ j=>exact t.2 j (ji1 h1) (ji1 h2)
  cases x with
  | non=>cases y <;> first | (cases h;done) | (rw [Own] at o1 o2;obtain ⟨rfl,_⟩:=o1;obtain ⟨rfl,_⟩:=o2;cases r1;cases r2;exact SeqAt.EqAt.same _)
  | bl b=>cases y <;> first | (cases h;done) | (rw [Own] at o1 o2;obtain ⟨rfl,_⟩:=o1;obtain ⟨rfl,_⟩:=o2;cases r1;cases r2;have e:=eq_of_beq (show (b == _)=true from h);subst e;exact SeqAt.EqAt.same _)
  | int i=>cases y <;> first | (cases h;done) | (rw [Own] at o1 o2;obtain ⟨rfl,_⟩:=o1;obtain ⟨rfl,_⟩:=o2;obtain ⟨t,rfl⟩:=r1;obtain ⟨t',rfl⟩:=r2;have e:=eq_of_beq (show (i == _)=true from h);subst e;have z:=SeqAt.EqAt.int_int (A:=A) (s:=s) i t i t';rwa [beq_self_eq_true] at z)
  | str i=>cases y <;> first | (cases h;done) | (rw [Own] at o1 o2;obtain ⟨rfl,_⟩:=o1;obtain ⟨rfl,_⟩:=o2;obtain ⟨t,rfl⟩:=r1;obtain ⟨t',rfl⟩:=r2;have e:=eq_of_beq (show (i == _)=true from h);subst e;have z:=SeqAt.EqAt.str_str (A:=A) (s:=s) i t i t';rwa [beq_self_eq_true] at z)
  | emp=>cases y <;> first | (cases h;done) | (rw [Own] at o1 o2;obtain ⟨_,a,rfl,ha⟩:=o1;obtain ⟨_,b,rfl,hb⟩:=o2;cases r1;cases r2;exact qo3 I ha hb (by omega))
  | dko=>cases h
  | lst xs=>
   cases y with
   | lst ys=>
    obtain ⟨a,ws,d',f,rfl,ha,ol⟩:=zvj o1
    obtain ⟨b,ws',e',f',rfl,hb,ol'⟩:=zvj o2
    cases r1
    cases r2
    obtain ⟨its,rv,p,_⟩:=I.list (.inl (.inl ha))
    obtain ⟨its',rv',p',_⟩:=I.list (.inl (.inl hb))
    have t:=all xs ys d' e' ws ws' f f' its its' h ol ol' rv rv'
    obtain ⟨ob,nn,e1,e2,e3,e4⟩:=p
    obtain ⟨ob',nn',e1',e2',e3',e4'⟩:=p'
    by_cases e:a=b
    ·subst e;exact SeqAt.EqAt.same _
    ·refine SeqAt.EqAt.of_refs e ?_
     have z:=SeqAt.RcAt.lists (A:=A) (s:=s) (l:=a) (b:=b) (items:=its.toArray) (items2:=its'.toArray) (e:=λ _=>true) ⟨ob,e1,e2,nn,e4⟩ ⟨ob',e1',e2',nn',e4'⟩ (by simpa using t.1) (by omega) (λ j h1 h2=>by simpa using t.2 j (by simpa using h1) (by simpa using h2))
     rwa [zyi λ _ _=>rfl] at z
   | _=>cases h
  | tup xs=>
   cases y with
   | tup ys=>
    rw [Own] at o1 o2
    obtain ⟨a,ws,rfl,ha,ol⟩:=o1
    obtain ⟨b,ws',rfl,hb,ol'⟩:=o2
    cases r1
    cases r2
    obtain ⟨its,rv,⟨ob,e1,e2,nn,e4⟩,_⟩:=I.tuple (.inl (.inl ha))
    obtain ⟨its',rv',⟨ob',e1',e2',nn',e4'⟩,_⟩:=I.tuple (.inl (.inl hb))
    have t:=all xs ys _ _ ws ws' _ _ its its' h ol ol' rv rv'
    by_cases e:a=b
    ·subst e;exact SeqAt.EqAt.same _
    ·refine SeqAt.EqAt.of_refs e ?_
     have z:=SeqAt.RcAt.tuples (A:=A) (s:=s) (l:=a) (b:=b) (items:=its.toArray) (items2:=its'.toArray) (e:=λ _=>true) ⟨ob,e1,e2,nn,e4⟩ ⟨ob',e1',e2',nn',e4'⟩ (by omega) (λ j h1 h2=>by simpa using t.2 j (by simpa using h1) (by simpa using h2))
     have z2:((its.toArray.size == its'.toArray.size):Bool)=true:=by simpa using t.1
     rwa [zyi λ _ _=>rfl,z2] at z
   | _=>cases h
  | scr ns=>cases y <;> cases h
  | dct _=>cases y <;> cases h
  | exn _=>cases y <;> cases h
theorem qax {pins:List (Addr×Obj)}{s:Shared}{Z Z':Addr->Prop} (I:L2.Inv X pins σ H s) {A:Around} (hu:A.units + 64 < cLine):∀ (xs ys:List PV) (d e:Nat) (vs ws:List V) (f1 f2:List Addr) (us us':List Value),zki (zjb 20) xs ys=true->OwnL X.K H Z xs d vs f1->OwnL X.K H Z' ys e ws f2->Vals vs us->Vals ws us'->us.length=us'.length/\∀ j (h1:j < us.length) (h2:j < us'.length),SeqAt.EqAt A.in1 s us[j] us'[j] true:=λ xs=>by
 induction xs with
 | nil=>
  intro ys d e vs ws f1 f2 us us' h o1 o2 r1 r2
  cases ys with
  | cons _ _=>cases h
  | nil=>
   rw [OwnL] at o1 o2
   obtain ⟨rfl,_⟩:=o1
   obtain ⟨rfl,_⟩:=o2
   cases r1
   cases r2
   exact ⟨rfl,λ j h1 _=>nomatch h1⟩
 | cons x xs ih=>
  intro ys d e vs ws f1 f2 us us' h o1 o2 r1 r2
  cases ys with
  | nil=>cases h
  | cons y ys=>
   unfold zki at h
   rw [ja4] at h
   rw [OwnL] at o1 o2
   obtain ⟨_,_,g1,g2,rfl,_,_,p1,p2⟩:=o1
   obtain ⟨_,_,k1,k2,rfl,_,_,q1,q2⟩:=o2
   cases r1 with
   | cons a1 a2=>
    cases r2 with
    | cons b1 b2=>
     have t:=ih ys d e _ _ g2 k2 _ _ h.2 p2 q2 a2 b2
     refine ⟨congrArg (·+ 1) t.1,λ j h1 h2=>?_⟩
     cases j with
     | zero=>exact qdh I 20 x y d e _ _ g1 k1 _ _ A.in1 (by have e:A.in1.units=A.units + 1:=rfl;omega) h.1 p1 q1 a1 b1
     | succ j=>exact t.2 j (ji1 h1) (ji1 h2)
theorem qaw {pins:List (Addr×Obj)}{s:Shared}{Z Z':Addr->Prop} (I:L2.Inv X pins σ H s) {xs ys:List PV}{d e:Nat}{v w:V}{f1 f2:List Addr}{u u':Value}{A:Around} (hu:A.units + 64 < cLine) (h:zki (zjb 20) xs ys=true) (o1:Own X.K H Z (.lst xs) d v f1) (o2:Own X.K H Z' (.lst ys) e w f2) (r1:RelV v u) (r2:RelV w u'):SeqAt.RcAt A s u u' true/\SeqAt.RcNeAt A s u u' false:=by
 obtain ⟨a,ws,d',f,rfl,ha,ol⟩:=zvj o1
 obtain ⟨b,ws',e',f',rfl,hb,ol'⟩:=zvj o2
 cases r1
 cases r2
 obtain ⟨its,rv,⟨ob,nn,e1,e2,e3,e4⟩,_⟩:=I.list (.inl (.inl ha))
 obtain ⟨its',rv',⟨ob',nn',e1',e2',e3',e4'⟩,_⟩:=I.list (.inl (.inl hb))
 have t:=qax I hu xs ys d' e' ws ws' f f' its its' h ol ol' rv rv'
 have z:=SeqAt.RcAt.lists (A:=A) (s:=s) (l:=a) (b:=b) (items:=its.toArray) (items2:=its'.toArray) (e:=λ _=>true) ⟨ob,e1,e2,nn,e4⟩ ⟨ob',e1',e2',nn',e4'⟩ (by simpa using t.1) (by omega) (λ j h1 h2=>by simpa using t.2 j (by simpa using h1) (by simpa using h2))
 have z':=SeqAt.RcNeAt.lists (A:=A) (s:=s) (l:=a) (b:=b) (items:=its.toArray) (items2:=its'.toArray) (e:=λ _=>true) ⟨ob,e1,e2,nn,e4⟩ ⟨ob',e1',e2',nn',e4'⟩ (by simpa using t.1) (by omega) (λ j h1 h2=>by simpa using t.2 j (by simpa using h1) (by simpa using h2))
 rw [zyi λ _ _=>rfl] at z z'
 exact ⟨z,z'⟩
theorem zgf {pins:List (Addr×Obj)}{s:Shared}{Z Z':Addr->Prop} (I:L2.Inv X pins σ H s) {xs ys:List PV}{d e:Nat}{v w:V}{f1 f2:List Addr}{u u':Value}{A:Around} (hu:A.units + 64 < cLine) (h:zki (zjb 20) xs ys=true) (o1:Own X.K H Z (.tup xs) d v f1) (o2:Own X.K H Z' (.tup ys) e w f2) (r1:RelV v u) (r2:RelV w u'):SeqAt.RcAt A s u u' true/\SeqAt.RcNeAt A s u u' false:=by
 rw [Own] at o1
 rw [Own] at o2
 obtain ⟨a,ws,rfl,ha,ol⟩:=o1
 obtain ⟨b,ws',rfl,hb,ol'⟩:=o2
 cases r1
 cases r2
 obtain ⟨its,rv,⟨ob,e1,e2,nn,e4⟩,_⟩:=I.tuple (.inl (.inl ha))
 obtain ⟨its',rv',⟨ob',e1',e2',nn',e4'⟩,_⟩:=I.tuple (.inl (.inl hb))
 have t:=qax I hu xs ys _ _ ws ws' _ _ its its' h ol ol' rv rv'
 have z:=SeqAt.RcAt.tuples (A:=A) (s:=s) (l:=a) (b:=b) (items:=its.toArray) (items2:=its'.toArray) (e:=λ _=>true) ⟨ob,e1,e2,nn,e4⟩ ⟨ob',e1',e2',nn',e4'⟩ (by omega) (λ j h1 h2=>by simpa using t.2 j (by simpa using h1) (by simpa using h2))
 have z':=SeqAt.RcNeAt.tuples (A:=A) (s:=s) (l:=a) (b:=b) (items:=its.toArray) (items2:=its'.toArray) (e:=λ _=>true) ⟨ob,e1,e2,nn,e4⟩ ⟨ob',e1',e2',nn',e4'⟩ (by omega) (λ j h1 h2=>by simpa using t.2 j (by simpa using h1) (by simpa using h2))
 have z2:((its.toArray.size == its'.toArray.size):Bool)=true:=by simpa using t.1
 rw [zyi λ _ _=>rfl,z2] at z z'
 exact ⟨z,z'⟩
theorem qej {pins:List (Addr×Obj)}{s:Shared}{Z Z':Addr->Prop} (I:L2.Inv X pins σ H s) {xs ys:List PV}{d e:Nat}{v w:V}{f1 f2:List Addr}{u u':Value}{A:Around} (hu:A.units + 64 < cLine) (h:xs.length≠ys.length) (o1:Own X.K H Z (.lst xs) d v f1) (o2:Own X.K H Z' (.lst ys) e w f2) (r1:RelV v u) (r2:RelV w u'):SeqAt.RcAt A s u u' false/\SeqAt.RcNeAt A s u u' true:=by
 obtain ⟨a,ws,d',f,rfl,ha,ol⟩:=zvj o1
 obtain ⟨b,ws',e',f',rfl,hb,ol'⟩:=zvj o2
 cases r1
 cases r2
 obtain ⟨its,rv,⟨ob,nn,e1,e2,e3,e4⟩,_⟩:=I.list (.inl (.inl ha))
 obtain ⟨its',rv',⟨ob',nn',e1',e2',e3',e4'⟩,_⟩:=I.list (.inl (.inl hb))
 have hl:(its.toArray.size != its'.toArray.size)=true:=by
  have h1:=rv.length
  have h2:=rv'.length
  rw [ol.length] at h1
  rw [ol'.length] at h2
  simp only [jb6,bne_iff_ne]
  omega
 exact ⟨SeqAt.RcAt.lists_lengths ⟨ob,e1,e2,nn,e4⟩ ⟨ob',e1',e2',nn',e4'⟩ hl (by omega),SeqAt.RcNeAt.lists_lengths ⟨ob,e1,e2,nn,e4⟩ ⟨ob',e1',e2',nn',e4'⟩ hl (by omega)⟩
theorem qe5 {pins:List (Addr×Obj)}{s:Shared}{Z Z':Addr->Prop} (I:L2.Inv X pins σ H s) {d e:Nat}{v w:V}{f1 f2:List Addr}{u u':Value}{A:Around} (hu:A.units < cLine) (o1:Own X.K H Z .emp d v f1) (o2:Own X.K H Z' .emp e w f2) (r1:RelV v u) (r2:RelV w u'):SeqAt.RcAt A s u u' true/\SeqAt.RcNeAt A s u u' false:=by
 rw [Own] at o1
 rw [Own] at o2
 obtain ⟨_,a,rfl,ha⟩:=o1
 obtain ⟨_,b,rfl,hb⟩:=o2
 cases r1
 cases r2
 obtain ⟨_,z1,vs,k1,d1⟩:=qe6 I.hok ha
 obtain ⟨_,z2,ws,k2,d2⟩:=qe6 I.hok hb
 cases k1
 cases k2
 exact ⟨λ prog w E Q hq=>PySem.W.keq_eq (knd:=zvv prog w) (r:=true) z1 z2 (zpy d1) (zpy d2) hu (λ _=>.nil) (by simpa using hq),λ prog w E Q hq=>PySem.W.keq_ne (knd:=zvv prog w) (r:=true) z1 z2 (zpy d1) (zpy d2) hu (λ _=>.nil) (by simpa using hq)⟩
def rEqD (K:Frag) (neg:Bool):R2:=λ v w H Q=>∃ x y d e Z Z' f1 f2,Own K H Z x d v f1/\Own K H Z' y e w f2/\((∃ a b,toD 20 x=some a/\toD 20 y=some b/\Q (.bl (neg^^PyData.eqv a b)) H)\/(∃ xs ys,x=.lst xs/\y=.lst ys/\zki (zjb 20) xs ys=true/\Q (.bl (neg^^true)) H)\/(∃ xs ys,x=.lst xs/\y=.lst ys/\xs.length≠ys.length/\Q (.bl (neg^^false)) H)\/(∃ a b,x=.str a/\y=.str b/\Q (.bl (neg^^(a == b))) H)\/(x=.emp/\y=.emp/\Q (.bl (neg^^true)) H)\/∃ xs ys,x=.tup xs/\y=.tup ys/\zki (zjb 20) xs ys=true/\Q (.bl (neg^^true)) H)
theorem qoh (hu:X.A.units + 64 < cLine):OpR X (compareOp .Eq) (rEqD X.K false):=by
 intro pins s σ H v w u u' Q I rx ry h
 obtain ⟨x,y,d,e,Z,Z',f1,f2,o1,o2,⟨a,b,h1,h2,q⟩ | ⟨xs,ys,rfl,rfl,h,q⟩ | ⟨xs,ys,rfl,rfl,h,q⟩ | ⟨a,b,rfl,rfl,q⟩ | ⟨rfl,rfl,q⟩ | ⟨xs,ys,rfl,rfl,h,q⟩⟩:=h
 ·obtain ⟨as,ra⟩:=zww I 20 x d v f1 u a h1 o1 rx
  obtain ⟨bs,rb⟩:=zww I 20 y e w f2 u' b h2 o2 ry
  have l1:=zwo 20 x a h1
  have l2:=zwo 20 y b h2
  exact SeqAt.compareEq_reads ra rb l1.1 l2.1 (by have:=jq0 a.depth b.depth;omega) ⟨.bl _,H,I,rfl,by simpa using q⟩
 ·exact (qaw I hu h o1 o2 rx ry).1 _ _ _ _ ⟨.bl _,H,I,rfl,q⟩
 ·exact (qej I hu h o1 o2 rx ry).1 _ _ _ _ ⟨.bl _,H,I,rfl,q⟩
 ·rw [Own] at o1 o2
  obtain ⟨rfl,_⟩:=o1
  obtain ⟨rfl,_⟩:=o2
  obtain ⟨t,rfl⟩:=rx
  obtain ⟨t',rfl⟩:=ry
  exact SeqAt.RcAt.str_str a t b t' _ _ _ _ ⟨.bl _,H,I,rfl,by simpa using q⟩
 ·exact (qe5 I (by omega) o1 o2 rx ry).1 _ _ _ _ ⟨.bl _,H,I,rfl,q⟩
 ·exact (zgf I hu h o1 o2 rx ry).1 _ _ _ _ ⟨.bl _,H,I,rfl,q⟩
theorem qn9 (hu:X.A.units + 64 < cLine):OpR X (compareOp .NotEq) (rEqD X.K true):=by
 intro pins s σ H v w u u' Q I rx ry h
 obtain ⟨x,y,d,e,Z,Z',f1,f2,o1,o2,⟨a,b,h1,h2,q⟩ | ⟨xs,ys,rfl,rfl,h,q⟩ | ⟨xs,ys,rfl,rfl,h,q⟩ | ⟨a,b,rfl,rfl,q⟩ | ⟨rfl,rfl,q⟩ | ⟨xs,ys,rfl,rfl,h,q⟩⟩:=h
 ·obtain ⟨as,ra⟩:=zww I 20 x d v f1 u a h1 o1 rx
  obtain ⟨bs,rb⟩:=zww I 20 y e w f2 u' b h2 o2 ry
  have l1:=zwo 20 x a h1
  have l2:=zwo 20 y b h2
  exact SeqAt.compareNe_reads ra rb l1.1 l2.1 (by have:=jq0 a.depth b.depth;omega) ⟨.bl _,H,I,rfl,by simpa using q⟩
 ·exact (qaw I hu h o1 o2 rx ry).2 _ _ _ _ ⟨.bl _,H,I,rfl,q⟩
 ·exact (qej I hu h o1 o2 rx ry).2 _ _ _ _ ⟨.bl _,H,I,rfl,q⟩
 ·rw [Own] at o1 o2
  obtain ⟨rfl,_⟩:=o1
  obtain ⟨rfl,_⟩:=o2
  obtain ⟨t,rfl⟩:=rx
  obtain ⟨t',rfl⟩:=ry
  exact SeqAt.RcNeAt.str_str a t b t' _ _ _ _ ⟨.bl _,H,I,rfl,by simpa using q⟩
 ·exact (qe5 I (by omega) o1 o2 rx ry).2 _ _ _ _ ⟨.bl _,H,I,rfl,q⟩
 ·exact (zgf I hu h o1 o2 rx ry).2 _ _ _ _ ⟨.bl _,H,I,rfl,q⟩
theorem qbb {neg:Bool}{x y z:PV}{d e c:Nat}{v w:V}{fps:Fps}{f1 f2 F:List Addr}{Z Z':Addr->Prop} (hK:M.K=X.K) (ho:opEq neg x d y e=some (z,c)) (o1:Own M.K H Z x d v f1) (o2:Own M.K H Z' y e w f2) (lf:Leaf M H fps vs F z c Q):rEqD X.K neg v w H Q:=by
 rw [hK] at o1 o2
 refine ⟨x,y,d,e,Z,Z',f1,f2,o1,o2,?_⟩
 unfold opEq at ho
 split at ho
 ·rename_i a b ea eb
  cases ho
  exact .inl ⟨a,b,ea,eb,zwt lf⟩
 ·split at ho
  ·rename_i xs ys _
   split at ho
   ·rename_i hc
    cases ho
    exact .inr (.inl ⟨xs,ys,rfl,rfl,hc,zwt lf⟩)
   ·split at ho
    ·rename_i hc
     cases ho
     exact .inr (.inr (.inl ⟨xs,ys,rfl,rfl,hc,zwt lf⟩))
    ·cases ho
  ·rename_i a b _
   cases ho
   exact .inr (.inr (.inr (.inl ⟨a,b,rfl,rfl,zwt lf⟩)))
  ·cases ho
   exact .inr (.inr (.inr (.inr (.inl ⟨rfl,rfl,zwt lf⟩))))
  ·rename_i xs ys _
   split at ho
   ·rename_i hc
    cases ho
    exact .inr (.inr (.inr (.inr (.inr ⟨xs,ys,rfl,rfl,hc,zwt lf⟩))))
   ·cases ho
  ·cases ho
def zqe:PV->Nat->PV->Nat->Option (PV×Nat)
 | .lst xs,_,.int i,_=>(atI xs i).map λ z=>(z,dv z)
 | .tup xs,_,.int i,_=>(atI xs i).map λ z=>(z,dv z)
 | .scr ns,_,.int i,_=>(atI ns i).map λ z=>(.int z,om)
 | .str z,_,.int i,_=>if z.length<=sizeLine then (atI z.cps.toList i).map λ c=>(.str ⟨#[c]⟩,om) else none
 | _,_,_,_=>none
theorem qam {K:Frag}{Z:Addr->Prop}{xs:List PV}{ws:List V}{i:Int}{z:PV} (ol:OwnL K H Z xs 0 ws []) (e:atI xs i=some z):∃ w,atI ws i=some w/\Own K H Z z 0 w []:=by
 unfold atI at e ⊢
 rw [ol.length]
 cases ej:ixN xs.length i with
 | none=>rw [ej] at e;cases e
 | some j=>rw [ej] at e;exact ol.nth e
theorem qig (hv:∀ i∈vs,M.Ms i=false) (hK:M.K=X.K) (hs:zfv b) (ha:PE X a (tE M f vs)) (hb:PE X b (tE M g vs')):PE X (.Subscript a b pos) (tE M (bBin zqe f g) (vs++vs')):=by
 refine zqt (qkn qiv ha hb hs) λ σ H Q h=>zzs hv (λ x d y e z c v w H fps f1 f2 Q ho o1 o2 dj nz zd lf=>?_) h
 cases y with
 | int i=>
  rw [Own] at o2
  cases x with
  | lst xs=>
   dsimp only [zqe] at ho
   obtain ⟨z',ez,e2⟩:=jb5.mp ho
   cases e2
   obtain ⟨p,ws,rfl,hp,ol⟩:=(cold o1 λ a ha=>nz a (ja9 _ ha)).coldL
   obtain ⟨w',e1,ow⟩:=qam ol ez
   exact .inl ⟨p,ws,i,w',rfl,o2.1,.inl (.inl hp),e1,zvb lf ow⟩
  | tup xs=>
   dsimp only [zqe] at ho
   obtain ⟨z',ez,e2⟩:=jb5.mp ho
   cases e2
   obtain ⟨p,ws,rfl,hp,ol⟩:=(cold o1 λ a ha=>nz a (ja9 _ ha)).coldT
   obtain ⟨w',e1,ow⟩:=qam ol ez
   exact .inr (.inl ⟨p,ws,i,w',rfl,o2.1,.inl (.inl hp),e1,zvb lf ow⟩)
  | scr ns=>
   dsimp only [zqe] at ho
   obtain ⟨z',ez,e2⟩:=jb5.mp ho
   cases e2
   rw [Own] at o1
   obtain ⟨_,p,rfl,hp⟩:=o1
   refine .inl ⟨p,ns.map V.int,i,.int z',rfl,o2.1,?_,?_,zxm lf⟩
   ·rw [<- hK]
    exact hp.elim (λ h=>.inl (.inr h)) .inr
   ·unfold atI at ez ⊢
    rw [ja1]
    cases ej:ixN ns.length i with
    | none=>rw [ej] at ez;cases ez
    | some j=>
     rw [ej] at ez
     show (ns.map V.int)[j]?=_
     rw [jc4]
     have:ns[j]?=some z':=ez
     rw [this];rfl
  | str z=>
   dsimp only [zqe] at ho
   split at ho
   ·rename_i hl
    obtain ⟨c',ez,e2⟩:=jb5.mp ho
    cases e2
    rw [Own] at o1
    exact .inr (.inr ⟨z,i,c',o1.1,o2.1,hl,ez,zke lf⟩)
   ·cases ho
  | _=>cases ho
 | _=>cases x <;> cases ho
def evO:Option Fx->Rho->Rz (Option Int×Rho)
 | none,ρ=>.ok (none,ρ)
 | some f,ρ=>(f ρ).bind λ (x,_,ρ1)=>match x with
  | .int i=>.ok (some i,ρ1)
  | _=>.no
def cutP (xs:List PV) (lo hi:Option Int):List PV:=(xs.drop (HT.sIx xs.length 0 lo)).take (HT.sIx xs.length xs.length hi - HT.sIx xs.length 0 lo)
def opSl (x:PV) (lo hi:Option Int):Option (PV×Nat):=match x with
 | .lst xs=>some (.lst (cutP xs lo hi),d1 (cutP xs lo hi))
 | .tup xs=>if HT.sIx xs.length 0 lo=0/\HT.sIx xs.length xs.length hi=xs.length then none else some (.tup (cutP xs lo hi),0)
 | .str z=>if z.length<=sizeLine then some (.str (Txt.slice z lo hi),om) else none
 | _=>none
def bSl (f:Fx) (lo hi:Option Fx):Fx:=λ ρ=>(f ρ).bind λ (x,_,ρ1)=>(evO lo ρ1).bind λ (l,ρ2)=>(evO hi ρ2).bind λ (u,ρ3)=>match opSl x l u with
 | some (z,c)=>.ok (z,c,ρ3)
 | none=>.no
def tO (M:Fm):Option (Fx×List Nat)->TO
 | none=>zhq
 | some (f,vs)=>qmy (tE M f vs)
theorem qc4 {o:Option (Fx×List Nat)}{ρ:Rho}{fps:Fps}{R:Option Int->Hp->Prop} (rep:Rep M ρ σ H fps)
  (q:match evO (o.map (·.1)) ρ with
   | .ok (l,ρ')=>∀ H' fps',KD M H fps H' fps'->Agr M ρ ρ'->Rep M ρ' σ H' fps'->R l H'
   | .exc c=>∀ H' fps',KD M H fps H' fps'->M.W σ c H'
   | .no=>False):tO M o σ H R:=by
 cases o with
 | none=>exact q H fps KD.refl Agr.refl rep
 | some p=>
  obtain ⟨f,vs⟩:=p
  refine ⟨ρ,fps,rep,?_⟩
  dsimp only [Option.map,evO] at q
  cases ef:f ρ with
  | no=>rw [ef] at q;exact q
  | exc c=>rw [ef] at q;exact q
  | ok p=>
   obtain ⟨x,d,ρ1⟩:=p
   rw [ef] at q
   intro v H1 fps1 f1 k1 g1 rep1 o1 t1
   dsimp only [Rz.bind] at q
   cases x with
   | int i=>rw [Own] at o1;exact ⟨i,o1.1,q H1 fps1 k1 g1 rep1⟩
   | _=>exact q.elim
def rSlS:V->Option Int->Option Int->Hp->VK->Prop:=λ x lo hi H Q=>∃ z,x=.str z/\z.length<=sizeLine/\Q (.str (Txt.slice z lo hi)) H
theorem qde:SlR X rSlS:=by
 intro pins s σ H x v vl vu lo hi sl Q I rx hs pl pu h
 obtain ⟨z,rfl,hz,q⟩:=h
 obtain ⟨t,rfl⟩:=rx
 have go:∀ (l u:Option (Int×Tok)),vl=partValue l->vu=partValue u->l.map (·.1)=lo->u.map (·.1)=hi->∃ T id,typeLookup (.type T) "__getitem__" = pure (some (.builtin id))/\s.TypeIs (.str z t) T/\wpAny (model X.prog X.w) X.A (getItem (.str z t) (.ref sl)) (EP X pins σ Q) X.xe s:=by
  rintro l u rfl rfl rfl rfl
  refine ⟨"str",_,F.slot_str_getitem.lookup,typeIs_str _ _ _,wpAny_getItem_str_slice (l:=l) (u:=u) (st:=none) hs rfl (post_val_or_str ⟨jc6 (Txt.slice_le z _ _) hz,λ t' k=>⟨.str _,H,I.tok _,⟨_,rfl⟩,q⟩⟩)⟩
 cases pl with
 | none=>
  cases pu with
  | none=>exact go none none rfl rfl rfl rfl
  | int j uj=>exact go none (some (j,uj)) rfl rfl rfl rfl
 | int i ui=>
  cases pu with
  | none=>exact go (some (i,ui)) none rfl rfl rfl rfl
  | int j uj=>exact go (some (i,ui)) (some (j,uj)) rfl rfl rfl rfl
theorem qjq {lo hi:Option (Fx×List Nat)} (hv:∀ i∈vs,M.Ms i=false) (hK:M.K=X.K) {σ:St}{H:Hp}{Q:VK} (hq:tE M (bSl f (lo.map (·.1)) (hi.map (·.1))) vs σ H Q):tSl (λ x lo hi H Q=>rSlL X.K x lo hi H Q\/(rSlT X.K x lo hi H Q\/rSlS x lo hi H Q)) (tE M f vs) (tO M lo) (tO M hi) σ H Q:=by
 obtain ⟨ρ,fps,rep,q⟩:=hq
 refine ⟨ρ,fps,rep,?_⟩
 unfold bSl at q
 cases ef:f ρ with
 | no=>rw [ef] at q;exact q
 | exc c=>rw [ef] at q;exact q
 | ok p=>
  obtain ⟨x,d,ρ1⟩:=p
  rw [ef] at q
  intro v H1 fps1 f1 k1 g1 rep1 o1 t1
  dsimp only [Rz.bind] at q
  refine qc4 rep1 ?_
  cases el:evO (lo.map (·.1)) ρ1 with
  | no=>rw [el] at q;exact q
  | exc c=>rw [el] at q;exact λ H' fps' k=>q H' fps' (k1.trans k)
  | ok p2=>
   obtain ⟨l,ρ2⟩:=p2
   rw [el] at q
   intro H2 fps2 k2 g2 rep2
   refine qc4 rep2 ?_
   dsimp only at q
   cases eh:evO (hi.map (·.1)) ρ2 with
   | no=>rw [eh] at q;exact q
   | exc c=>rw [eh] at q;exact λ H' fps' k=>q H' fps' ((k1.trans k2).trans k)
   | ok p3=>
    obtain ⟨u,ρ3⟩:=p3
    rw [eh] at q
    intro H3 fps3 k3 g3 rep3
    dsimp only at q
    have kk:=k2.trans k3
    have o3:=kk.stay rep1 hv o1 t1.ndj
    have n3:∀ a∈f1,¬ Zf M fps3 a:=λ a ha z=>by
     rcases z with z | ⟨i,z⟩
     ·exact t1.ndj a ha (.inl z)
     ·rcases kk.sub i a z with z | z
      ·exact t1.ndj a ha (.inr ⟨i,z⟩)
      ·obtain ⟨xs,e⟩:=Own.lsts x d v f1 o1 a ha
       rw [z] at e;cases e
    have back:∀ a,H3 a=none->H a=none:=λ a e=>by
     cases e':H a with
     | none=>rfl
     | some o=>exact absurd e ((k1.trans kk).dom a (by rw [e'];simp))
    cases eo:opSl x l u with
    | none=>rw [eo] at q;exact q.elim
    | some zc=>
     obtain ⟨z,c⟩:=zc
     rw [eo] at q
     have lf:Leaf M H3 fps3 vs f1 z c Q:=λ w H4 fp k4 o4 hfp=>q w H4 fps3 fp ((k1.trans kk).trans (KD.grow k4)) (g1.trans (g2.trans g3)) (rep3.grow k4) o4 ⟨λ a ha=>(hfp a ha).elim (t1.new a) (back a),λ a ha=>(hfp a ha).elim (n3 a) λ z=>rep3.nz z⟩
     have c0:=cold o3 n3
     unfold opSl at eo
     cases x with
     | lst xs=>
      cases eo
      obtain ⟨p,ws,rfl,hp,ol⟩:=c0.coldL
      refine .inl ⟨p,ws,rfl,.inl (.inl hp),λ q hq=>?_⟩
      have e:OwnL M.K H3 (Zv M vs fps3) (cutP xs l u) 0 (cutV ws l u) []:=by
       unfold cutP cutV
       rw [ol.length]
       exact (ol.drop _).take _
      exact zwe lf e hq
     | tup xs=>
      dsimp only at eo
      split at eo
      ·cases eo
      ·rename_i hw
       cases eo
       obtain ⟨p,ws,rfl,hp,ol⟩:=c0.coldT
       refine .inr (.inl ⟨p,ws,rfl,.inl (.inl hp),by rw [ol.length];exact hw,λ q hq=>?_⟩)
       have e:OwnL M.K H3 (Zv M vs fps3) (cutP xs l u) 0 (cutV ws l u) []:=by
        unfold cutP cutV
        rw [ol.length]
        exact (ol.drop _).take _
       exact zjm lf e hq
     | str z=>
      dsimp only at eo
      split at eo
      ·rename_i hz
       cases eo
       rw [Own] at o3
       exact .inr (.inr ⟨z,o3.1,hz,zke lf⟩)
      ·cases eo
     | _=>cases eo
def zga:PV->String
 | .non => "NoneType"
 | .bl _ => "bool"
 | .int _ => "int"
 | .str _ => "str"
 | .lst _ => "list"
 | .tup _ => "tuple"
 | .emp => "dict"
 | .dko => "dict"
 | .dct _ => "dict"
 | _ => ""
def isiB (t T:String):Bool:=t == T || (t == "bool" && T == "int")
def isiT:List String:=["int","bool","str","list","tuple","dict"]
def zqn (T:String) (x:PV) (_:Nat):Option (PV×Nat):=match x with
 | .scr _=>none
 | .exn _=>none
 | _=>some (.bl (isiB (zga x) T),om)
theorem Own.ty {K:Frag}{Z:Addr->Prop}{x:PV}{d:Nat}{v:V}{fp:List Addr} (h:Own K H Z x d v fp) (hs:∀ ns,x≠.scr ns) (hx:∀ c,x≠.exn c):TyOf K H v (.type (zga x)):=by
 cases x with
 | non=>rw [Own] at h;rw [h.1];exact .non
 | bl b=>rw [Own] at h;rw [h.1];exact .bl b
 | int i=>rw [Own] at h;rw [h.1];exact .int i
 | str s=>rw [Own] at h;rw [h.1];exact .str s
 | emp=>rw [Own] at h;obtain ⟨_,a,e,ha⟩:=h;rw [e];exact .dK ha
 | dko=>rw [Own] at h;obtain ⟨_,a,e,_,ha⟩:=h;rw [e];exact .dK ha
 | scr ns=>exact absurd rfl (hs ns)
 | exn c=>exact absurd rfl (hx c)
 | dct kvs=>
  rw [Own] at h
  obtain ⟨a,e,⟨_,hr,_⟩ | ⟨_,ha,_⟩⟩:=h
  ·rw [e];exact .dT hr.1
  ·rw [e];exact .dT ha
 | lst xs=>
  rw [Own] at h
  obtain ⟨a,ws,e,⟨_,hr,_,_⟩ | ⟨_,f,ha,_⟩⟩:=h
  ·rw [e];exact .lst hr.1
  ·rw [e];exact .lst ha
 | tup xs=>
  rw [Own] at h
  obtain ⟨a,ws,e,hr,_⟩:=h
  rw [e];exact .tup hr
end
section
variable {X:Cx}{M:Fm}{a b:Expr}{f g:Fx}{fa:Fa}{vs vs':List Nat}{pos p:Pos}{σ:St}{H:Hp}{Q:VK}{e:Expr}{es:List Expr}
theorem qnl:PA X [] (tL M aNil []):=qit zky λ σ H Q h=>qm1 h
theorem qkb (hv:∀ i∈vs,M.Ms i=false) (ha:PE X e (tE M f vs)) (hr:PA X es (tL M fa vs')) (hs:starEach (e::es) X.env=(false,eval e X.env)::starEach es X.env):PA X (e::es) (tL M (zqa f fa) (vs++vs')):=
 qit (zwp ha hr hs) λ σ H Q h=>qjp hv h
theorem zzd {op:List (PV×Nat)->Option (PV×Nat)}{r:List V->Hp->VK->Prop}
  (leaf:∀ xs z c ws H fps fp Q,op xs=some (z,c)->Tmps M.K H (Zv M vs fps) xs ws fp->(∀ a∈fp,¬ Zf M fps a)->(∀ a,Zf M fps a->H a≠none)->Leaf M H fps vs fp z c Q->r ws H Q)
  {σ:St}{H:Hp}{Q:VK} (hq:tE M (zqb op fa) vs σ H Q):tCB r (tL M fa vs) σ H Q:=zmj leaf hq
def zqj (xs:List (PV×Nat)):Option (PV×Nat):=if xs.length<=sizeLine then some (.lst (xs.map (·.1)),if zvp xs then om else 1) else none
def zwq (xs:List (PV×Nat)):Option (PV×Nat):=if xs.length<=sizeLine then some (.tup (xs.map (·.1)),if zvp xs then om else 0) else none
theorem qnd (h:PA X es (tL M fa vs)):PE X (.List es pos) (tE M (zqb zqj fa) vs):=by
 refine zqt (qir h) λ σ H Q h=>zmj (r:=λ xs H1 Q=>xs.length<=sizeLine/\∀ p,H1 p=none->Q (.ref p) (upd H1 p (.lst xs))) (λ xs z c ws H fps fp Q ho tm nz zd lf=>?_) h
 unfold zqj at ho
 split at ho
 ·rename_i hl
  refine ⟨by rw [tm.length];exact hl,λ q hq=>?_⟩
  cases eo:zvp xs with
  | true=>rw [eo] at ho;cases ho;exact zyq lf (tm.all (zvy eo)) hq
  | false=>rw [eo] at ho;cases ho;exact zbn lf (tm.cold λ a ha z=>nz a ha z.zf) hq
 ·cases ho
theorem qm9 {x1:_} (h:PA X es (tL M fa vs)):PE X (.Tuple es x1 pos) (tE M (zqb zwq fa) vs):=by
 refine zqt (qio h) λ σ H Q h=>zmj (r:=λ xs H1 Q=>xs.length<=sizeLine/\∀ p,H1 p=none->Q (.ref p) (upd H1 p (.tup xs))) (λ xs z c ws H fps fp Q ho tm nz zd lf=>?_) h
 unfold zwq at ho
 split at ho
 ·rename_i hl
  refine ⟨by rw [tm.length];exact hl,λ q hq=>?_⟩
  cases eo:zvp xs with
  | true=>rw [eo] at ho;cases ho;exact qel lf (tm.all (zvy eo)) hq
  | false=>rw [eo] at ho;cases ho;exact zjm lf (tm.cold λ a ha z=>nz a ha z.zf) hq
 ·cases ho
theorem Inv.big {pins:List (Addr×Obj)}{s:Shared} (I:L2.Inv X pins σ H s):sysModules < s.heap.objs.size:=by
 have h:mainGlobals < s.heap.objs.size:=(I.mod.glob.keeps I.bk).lt
 exact jn0 (by decide) h
theorem qkp:PE X (.Dict [] [] pos) (λ _ H Q=>∀ p,H p=none->Q (.ref p) (upd H p (.dK []))):=λ pins s σ H Q I h=>
 wpAny_Dict_empty ⟨.ref s.heap.objs.size,_,I.laid (a:=s.heap.objs.size) (o:=.dK []) (t':=s.toks) (λ _ _ q=>Heap.get?_push_of_some _ q) (jb3 _) ⟨jg2 _,beq_eq_false_iff_ne.mpr (Ne.symm (jc9 (Inv.big I))),[],.nil,Heap.DictOf.new s.heap⟩,rfl,h _ (I.hok.fresh (jb3 _))⟩
theorem qng:PE X (.Dict [] [] pos) (tE M (bC .emp) []):=by
 refine zqt qkp λ σ H Q h p hp=>?_
 obtain ⟨ρ,fps,rep,q⟩:=h
 refine q (.ref p) _ fps [] (KD.grow (zxr hp)) Agr.refl (rep.grow (zxr hp)) ?_ ⟨λ _ z=>(nomatch z),λ _ z=>nomatch z⟩
 rw [Own]
 exact ⟨rfl,p,rfl,zqv⟩
theorem qht:zwz X (.builtin "isinstance") (λ xs H Q=>∃ x t T k,xs=[x,.ty T]/\TyOf X.K H x t/\PySem.W.kitOne X.K t (.type T)=some k/\Q (.bl k) H):=by
 intro pins s σ H xs us Q I r h
 obtain ⟨x,t,T,k,rfl,ty,hk,q⟩:=h
 obtain ⟨u,w,rfl,r1,r2⟩:=qcr r
 cases r2
 exact qes I r1 ty hk λ tk=>⟨.bl k,H,I.tok _,rfl,q⟩
theorem qop (K:Frag) {T:String} (hT:T∈isiT) (x:PV) (hs:∀ ns,x≠.scr ns) (hx:∀ c,x≠.exn c):PySem.W.kitOne K (.type (zga x)) (.type T)=some (isiB (zga x) T):=by
 simp only [isiT,jb0,je3,or_false] at hT
 cases x with
 | scr ns=>exact absurd rfl (hs ns)
 | exn c=>exact absurd rfl (hx c)
 | _=>rcases hT with h | h | h | h | h | h <;> subst h <;> rfl
theorem qnf {T:String}{x T':Str}{p1 p2:Pos} (hT:T∈isiT) (hK:M.K=X.K) (ha:PE X e (tE M f vs)) (hg:Gl X "isinstance") (hm:X.mg "isinstance" = none) (hT':PE X (.Name T' p2) (tC (.ty T)))
  (hs1:starEach [e,.Name T' p2] X.env=[(false,eval e X.env),(false,eval (.Name T' p2) X.env)]) (hs2:starEach [Expr.Name T' p2] X.env=[(false,eval (.Name T' p2) X.env)]):
  PE X (.Call (.Name "isinstance" p1) [e,.Name T' p2] [] pos) (tE M (bUn (zqn T) f) vs):=by
 refine zqt (zzt qht hg hm rfl (zwp ha (zwp hT' zky hs2) (by rw [hs1,hs2])) (he:=by rw [hs1,hs2]) (hpl:=by rw [hs2];rfl)) λ σ H Q h=>?_
 refine zhr (r:=λ v H Q=>∃ x t T' k,[v,.ty T]=[x,.ty T']/\TyOf X.K H x t/\PySem.W.kitOne X.K t (.type T')=some k/\Q (.bl k) H) (λ x d z c v H fps f1 Q ho o1 nz zd lf=>?_) h
 have hs:∀ ns,x≠.scr ns:=λ ns e=>by subst e;cases ho
 have hx:∀ c,x≠.exn c:=λ c e=>by subst e;cases ho
 have e2:z=.bl (isiB (zga x) T):=by
  cases x with
  | scr ns=>cases ho
  | exn c=>cases ho
  | _=>cases ho;rfl
 subst e2
 exact ⟨v,_,T,_,rfl,by rw [<- hK];exact o1.ty hs hx,qop X.K hT x hs hx,zwt lf⟩
def zqu:List (PV×Nat)->Option (PV×Nat)
 | [(.lst xs,_)]=>some (.int xs.length,om)
 | [(.tup xs,_)]=>some (.int xs.length,om)
 | [(.scr ns,_)]=>some (.int ns.length,om)
 | [(.str z,_)]=>if z.length<=sizeLine then some (.int z.length,om) else none
 | _=>none
theorem qne (hK:M.K=X.K) (hg:Gl X "len") (hm:X.mg "len" = none) (ha:PA X (e::es) (tL M fa vs)) (he:starEach (e::es) X.env=(false,eval e X.env)::starEach es X.env) (hpl:(backTo pos (starEach es X.env)).any (·.1)=false):
  PE X (.Call (.Name "len" p) (e::es) [] pos) (tE M (zqb zqu fa) vs):=by
 refine zqt (zzt (zhe.or zhd) hg hm PySem.boot_len ha (he:=he) (hpl:=hpl)) λ σ H Q h=>zzd (λ xs z c ws H fps fp Q ho tm nz zd lf=>?_) h
 unfold zqu at ho
 split at ho
 ·rename_i xs d
  cases ho
  obtain ⟨v,r,f1,f2,rfl,_,_,o1,h2⟩:=tm
  obtain ⟨rfl,_⟩:=h2
  obtain ⟨q,us,rfl,hs,hl⟩:=o1.seqL
  exact .inl ⟨q,us,rfl,.inl (by rw [<- hK];exact hs),by rw [hl];exact zxm lf⟩
 ·rename_i xs d
  cases ho
  obtain ⟨v,r,f1,f2,rfl,_,_,o1,h2⟩:=tm
  obtain ⟨rfl,_⟩:=h2
  obtain ⟨q,us,rfl,hs,hl⟩:=o1.seqT
  exact .inl ⟨q,us,rfl,.inr (by rw [<- hK];exact hs),by rw [hl];exact zxm lf⟩
 ·rename_i ns d
  cases ho
  obtain ⟨v,r,f1,f2,rfl,_,_,o1,h2⟩:=tm
  obtain ⟨rfl,_⟩:=h2
  rw [Own] at o1
  obtain ⟨_,q,rfl,hp⟩:=o1
  refine .inl ⟨q,ns.map V.int,rfl,.inl ?_,by rw [ja1];exact zxm lf⟩
  rw [<- hK]
  exact hp.elim (λ h=>.inl (.inr h)) .inr
 ·rename_i z d
  split at ho
  ·rename_i hl
   cases ho
   obtain ⟨v,r,f1,f2,rfl,_,_,o1,h2⟩:=tm
   obtain ⟨rfl,_⟩:=h2
   rw [Own] at o1
   obtain ⟨rfl,_⟩:=o1
   exact .inr ⟨_,rfl,hl,zxm lf⟩
  ·cases ho
 ·cases ho
def op2 (k:Int->Int->Int):List (PV×Nat)->Option (PV×Nat)
 | [(.int i,_),(.int j,_)]=>some (.int (k i j),om)
 | _=>none
theorem qba {k:Int->Int->Int}{xs:List (PV×Nat)}{z:PV}{c:Nat}{ws:List V}{fps:Fps}{fp F:List Addr}{Z:Addr->Prop} (ho:op2 k xs=some (z,c)) (tm:Tmps M.K H Z xs ws fp) (lf:Leaf M H fps vs F z c Q):∃ i j,ws=[.int i,.int j]/\Q (.int (k i j)) H:=by
 unfold op2 at ho
 split at ho
 ·rename_i i d j e
  cases ho
  obtain ⟨v,r,f1,f2,rfl,_,_,o1,h2⟩:=tm
  obtain ⟨v2,r2,f3,f4,rfl,_,_,o2,h3⟩:=h2
  obtain ⟨rfl,_⟩:=h3
  rw [Own] at o1 o2
  obtain ⟨rfl,_⟩:=o1
  obtain ⟨rfl,_⟩:=o2
  exact ⟨_,_,rfl,zxm lf⟩
 ·cases ho
def zbg:List (PV×Nat)->Option (PV×Nat)
 | [(.lst xs,_)]=>some (.tup xs,0)
 | [(.tup xs,_)]=>some (.tup xs,0)
 | _=>none
def zvu:List (PV×Nat)->Option (PV×Nat)
 | [(.lst xs,_)]=>some (.lst xs,d1 xs)
 | [(.tup xs,_)]=>some (.lst xs,d1 xs)
 | _=>none
theorem qj0 (hK:M.K=X.K) (hg:Gl X "tuple") (hm:X.mg "tuple" = none) (ha:PA X (e::es) (tL M fa vs)) (he:starEach (e::es) X.env=(false,eval e X.env)::starEach es X.env) (hpl:(backTo pos (starEach es X.env)).any (·.1)=false):
  PE X (.Call (.Name "tuple" p) (e::es) [] pos) (tE M (zqb zbg fa) vs):=by
 refine zqt (zkx zfs hg hm rfl ha (he:=he) (hpl:=hpl)) λ σ H Q h=>zzd (λ xs z c ws H fps fp Q ho tm nz zd lf=>?_) h
 unfold zbg at ho
 split at ho
 ·rename_i xs d
  cases ho
  obtain ⟨v,r,f1,f2,rfl,rfl,_,o1,h2⟩:=tm
  obtain ⟨rfl,rfl⟩:=h2
  obtain ⟨q,us,rfl,hs,ol⟩:=(cold (fp:=f1) o1 λ a ha=>nz a (ja9 _ ha)).coldL
  exact ⟨q,us,rfl,.inl ⟨.inl (.inl hs),λ l hl=>zjm lf ol hl⟩⟩
 ·rename_i xs d
  cases ho
  obtain ⟨v,r,f1,f2,rfl,rfl,_,o1,h2⟩:=tm
  obtain ⟨rfl,rfl⟩:=h2
  have c0:=cold (fp:=f1) o1 λ a ha=>nz a (ja9 _ ha)
  obtain ⟨q,us,rfl,hs,ol⟩:=c0.coldT
  exact ⟨q,us,rfl,.inr ⟨.inl (.inl hs),zvb (x:=.tup xs) lf c0⟩⟩
 ·cases ho
theorem qj5 (hK:M.K=X.K) (hg:Gl X "list") (hm:X.mg "list" = none) (ha:PA X (e::es) (tL M fa vs)) (he:starEach (e::es) X.env=(false,eval e X.env)::starEach es X.env) (hpl:(backTo pos (starEach es X.env)).any (·.1)=false):
  PE X (.Call (.Name "list" p) (e::es) [] pos) (tE M (zqb zvu fa) vs):=by
 refine zqt (zkx zhc hg hm rfl ha (he:=he) (hpl:=hpl)) λ σ H Q h=>zzd (λ xs z c ws H fps fp Q ho tm nz zd lf=>?_) h
 unfold zvu at ho
 split at ho
 ·rename_i xs d
  cases ho
  obtain ⟨v,r,f1,f2,rfl,rfl,_,o1,h2⟩:=tm
  obtain ⟨rfl,rfl⟩:=h2
  obtain ⟨q,us,rfl,hs,ol⟩:=(cold (fp:=f1) o1 λ a ha=>nz a (ja9 _ ha)).coldL
  exact ⟨q,us,rfl,.inl (.inl (.inl hs)),λ l hl=>zwe lf ol hl⟩
 ·rename_i xs d
  cases ho
  obtain ⟨v,r,f1,f2,rfl,rfl,_,o1,h2⟩:=tm
  obtain ⟨rfl,rfl⟩:=h2
  obtain ⟨q,us,rfl,hs,ol⟩:=(cold (fp:=f1) o1 λ a ha=>nz a (ja9 _ ha)).coldT
  exact ⟨q,us,rfl,.inr (.inl (.inl hs)),λ l hl=>zwe lf ol hl⟩
 ·cases ho
end
section
variable {X:Cx}{M:Fm}{a b:Expr}{f g:Fx}{fa:Fa}{vs vs':List Nat}{pos p:Pos}{σ:St}{H:Hp}{Q:VK}{e:Expr}{es:List Expr}
theorem qhu (hc:X.calm=true):zwz X (.builtin "all") (λ xs H Q=>∃ (p:Addr) (bs:List Bool),xs=[.ref p]/\SqL X.K H p (bs.map V.bl)/\Q (.bl (bs.all id)) H):=by
 intro pins s σ H xs us Q I r h
 obtain ⟨p,bs,rfl,hq,q⟩:=h
 obtain ⟨u,rfl,rx⟩:=zjs r
 cases rx
 obtain ⟨its,rv,pl,hz⟩:=I.list hq
 have hl:=rv.length
 rw [ja1] at hl
 refine call_all_walk (wpAny_pyIter_list pl.isList ?_)
 have hlt:p < s.heap.objs.size:=by obtain ⟨o,n,e,_⟩:=pl;exact Heap.lt_size e
 have hne:p≠s.heap.objs.size:=jc9 hlt
 refine ⟨s.heap.objs.size,_,_,its.toArray.size,_,_,λ i=>bs.getD i true,rfl,Walks.list (A:=X.A.in1) (show X.A.in1.handled=none from I.ok.hd hc) s.heap.objs.size p hne its.toArray,⟨⟨_,Heap.get?_push_size _ rfl,rfl,rfl⟩,?_⟩,?_,λ h' tk k=>?_⟩
 ·exact pl.isList.at λ o e=>Heap.get?_push_of_some _ e
 ·intro i v s' Q' E' hv hq'
  have hv':its[i]?=some v:=by simpa using hv
  have hi:i < bs.length:=by rw [hl];exact (ja8.mp hv').1
  obtain ⟨w,e1,e2⟩:=rv.get (i:=i) (x:=.bl bs[i]) (by simp [hi])
  rw [hv'] at e1
  cases e1
  cases e2
  refine wpAny_truthy_bool ?_
  have:bs.getD i true=bs[i]:=by simp [jq7,hi]
  dsimp only at hq'
  rw [this] at hq'
  exact hq'
 ·have I1:L2.Inv X pins σ H { s with heap:=s.heap.push { cls:=.type "list_iterator",data:=.fields #[.ref p,rawInt 0] } }:=I.kept (t':=s.toks) λ b o e=>Heap.get?_push_of_some _ e
  obtain ⟨f0,f1,f2,f3,f4,f5⟩:=I.fpOk (H':=H) (jb3 s.heap.objs.size) (I.hok.fresh (jb3 _))
  have I2:L2.Inv X pins σ H { s with heap:=h',toks:=tk }:=I1.turned (t':=tk) (λ b o hb e=>k b o (by simpa using hb) e) f0 f1 f3 f4 f5
  refine ⟨.bl _,H,I2,rfl,?_⟩
  have e:(jc2 its.toArray.size).all (λ i=>bs.getD i true)=bs.all id:=by
   rw [jb6,<- hl]
   rw [jh0]
   simp only [jb9,jd8,id]
   constructor
   ·intro h x hx
    obtain ⟨i,hi,rfl⟩:=jf0 hx
    have:=h i hi
    simpa [jq7,hi] using this
   ·intro h i hi
    simp [jq7,hi]
    exact h _ (jc3 hi)
  rw [e]
  exact q
def allB:List PV->Option (List Bool)
 | []=>some []
 | .bl b::r=>(allB r).map (b::·)
 | _=>none
def zyn:List (PV×Nat)->Option (PV×Nat)
 | [(.lst xs,_)]=>(allB xs).map λ bs=>(.bl (bs.all id),om)
 | _=>none
theorem qb2 {K:Frag}{Z:Addr->Prop}:∀ {xs:List PV}{ws:List V}{bs:List Bool},allB xs=some bs->OwnL K H Z xs 0 ws []->ws=bs.map V.bl
 | [],ws,bs,e,h=>by cases e;rw [OwnL] at h;exact h.1
 | .bl b::r,ws,bs,e,h=>by
  obtain ⟨bs',e1,rfl⟩:=jb5.mp e
  rw [OwnL] at h
  obtain ⟨v,s,f1,f2,rfl,ef,dj,h1,h2⟩:=h
  obtain ⟨rfl,rfl⟩:f1=[]/\f2=[]:=by simpa using ef.symm
  rw [Own] at h1
  rw [h1.1,qb2 e1 h2]
  rfl
 | .non::_,_,_,e,_=>by cases e
 | .int _::_,_,_,e,_=>by cases e
 | .str _::_,_,_,e,_=>by cases e
 | .lst _::_,_,_,e,_=>by cases e
 | .tup _::_,_,_,e,_=>by cases e
 | .emp::_,_,_,e,_=>by cases e
 | .dko::_,_,_,e,_=>by cases e
 | .scr _::_,_,_,e,_=>by cases e
 | .dct _::_,_,_,e,_=>by cases e
 | .exn _::_,_,_,e,_=>by cases e
theorem qnj (hc:X.calm=true) (hg:Gl X "all") (hm:X.mg "all" = none) (ha:PA X (e::es) (tL M fa vs)) (he:starEach (e::es) X.env=(false,eval e X.env)::starEach es X.env) (hpl:(backTo pos (starEach es X.env)).any (·.1)=false):
  PE X (.Call (.Name "all" p) (e::es) [] pos) (tE M (zqb zyn fa) vs):=by
 refine zqt (zzt (qhu hc) hg hm rfl ha (he:=he) (hpl:=hpl)) λ σ H Q h=>zzd (λ xs z c ws H fps fp Q ho tm nz zd lf=>?_) h
 unfold zyn at ho
 split at ho
 ·rename_i xs d
  obtain ⟨bs,eb,e2⟩:=jb5.mp ho
  cases e2
  obtain ⟨v,r,f1,f2,rfl,rfl,_,o1,h2⟩:=tm
  obtain ⟨rfl,rfl⟩:=h2
  obtain ⟨q,us,rfl,hs,ol⟩:=(cold (fp:=f1) o1 λ a ha=>nz a (ja9 _ ha)).coldL
  have:=qb2 eb ol
  subst this
  exact ⟨q,bs,rfl,.inl (.inl hs),zwt lf⟩
 ·cases ho
def zkk:List PV->Option (List Int)
 | []=>some []
 | .int i::r=>(zkk r).map (i::·)
 | _=>none
theorem zvd {K:Frag}{Z:Addr->Prop}:∀ {xs:List PV}{ws:List V}{ns:List Int},zkk xs=some ns->OwnL K H Z xs 0 ws []->ws=ns.map V.int
 | [],ws,ns,e,h=>by cases e;rw [OwnL] at h;exact h.1
 | .int b::r,ws,ns,e,h=>by
  obtain ⟨ns',e1,rfl⟩:=jb5.mp e
  rw [OwnL] at h
  obtain ⟨v,s,f1,f2,rfl,ef,dj,h1,h2⟩:=h
  obtain ⟨rfl,rfl⟩:f1=[]/\f2=[]:=by simpa using ef.symm
  rw [Own] at h1
  rw [h1.1,zvd e1 h2]
  rfl
 | .non::_,_,_,e,_=>by cases e
 | .bl _::_,_,_,e,_=>by cases e
 | .str _::_,_,_,e,_=>by cases e
 | .lst _::_,_,_,e,_=>by cases e
 | .tup _::_,_,_,e,_=>by cases e
 | .emp::_,_,_,e,_=>by cases e
 | .dko::_,_,_,e,_=>by cases e
 | .scr _::_,_,_,e,_=>by cases e
 | .dct _::_,_,_,e,_=>by cases e
 | .exn _::_,_,_,e,_=>by cases e
theorem zvc:∀ {ns:List Int}{its:List Value},Vals (ns.map V.int) its->∃ xs:List (Int×Tok),its=xs.map (λ p=>Value.int p.1 p.2)/\xs.map (·.1)=ns
 | [],its,h=>by cases h;exact ⟨[],rfl,rfl⟩
 | n::ns,its,h=>by
  cases h with
  | cons r rr=>
   obtain ⟨t,rfl⟩:=r
   obtain ⟨xs,rfl,rfl⟩:=zvc rr
   exact ⟨(n,t)::xs,rfl,rfl⟩
theorem qfr (hc:X.calm=true):zwz X (.builtin "min") (λ xs H Q=>∃ (p:Addr) (ns:List Int),xs=[.ref p]/\SqL X.K H p (ns.map V.int)/\ns≠[]/\∀ m,m∈ns->(∀ a∈ns,m<=a)->Q (.int m) H):=by
 intro pins s σ H xs us Q I r h
 obtain ⟨p,ns,rfl,hq,hn,q⟩:=h
 obtain ⟨u,rfl,rx⟩:=zjs r
 cases rx
 obtain ⟨its,rv,pl,hz⟩:=I.list hq
 obtain ⟨zs,rfl,rfl⟩:=zvc rv
 have e:(zs.map λ p=>Value.int p.1 p.2).toArray=intItems zs.toArray:=by simp [intItems]
 rw [e] at pl
 have h0:0 < zs.length:=by
  cases zs with
  | nil=>exact absurd rfl hn
  | cons _ _=>simp
 refine min_intList (I.ok.hd hc) pl.isList (by simpa using h0) λ v h' tk hv k=>?_
 obtain ⟨l1,l2⟩:=argBest_lt (numAt zs.toArray) (zs.toArray.size - 1)
 have hv':=hv
 obtain ⟨t,rfl⟩:=intItems_at hv
 have at':∀ j,j < zs.length->numAt zs.toArray j∈zs.map (·.1):=λ j hj=>by
  unfold numAt
  simp [hj]
  exact ⟨_,jc3 hj⟩
 refine ⟨.int _,H,I.kept (t':=tk) k,⟨t,rfl⟩,q _ (at' _ ?_) λ a ha=>?_⟩
 ·have:zs.toArray.size=zs.length:=by simp
  omega
 ·obtain ⟨z,hz,rfl⟩:=jd4.mp ha
  obtain ⟨j,hj,rfl⟩:=jf0 hz
  have hzs:zs.toArray.size=zs.length:=by simp
  have:=l2 j (by omega)
  have e:numAt zs.toArray j=zs[j].1:=by unfold numAt;simp [hj]
  rw [e] at this
  exact this
theorem qch {prog:Program}{w:World}{A:Around}{E:Value->Shared->Prop}{s:Shared}{l:Addr}{xs:Array (Int×Tok)}{Q:Value->Shared->Prop} (hh:A.handled=none) (hl:s.heap.IsTuple l (intItems xs)) (hne:0 < xs.size)
  (h:∀ v h' tk,(intItems xs)[argBest (λ i j=>decide (numAt xs i < numAt xs j)) (xs.size - 1)]?=some v->(∀ b o,s.heap.get? b=some o->h'.get? b=some o)->Q v { s with heap:=h',toks:=tk }):
  wpAny (model prog w) A (call (.builtin "min") [.ref l]) Q E s:=by
 have hlt:l < s.heap.objs.size:=by obtain ⟨_,e,_⟩:=hl;exact Heap.lt_size e
 refine call_min_walk (wpAny_pyIter_tuple hl ?_)
 refine ⟨_,[_,l],[_],_,_,_,_,rfl,Walks.tuple (A:=A.in1) hh _ l (jc9 hlt) (intItems xs),⟨⟨_,Heap.get?_push_size _ rfl,rfl,rfl⟩,hl.push _⟩,λ c hc=>?_,by simpa [intItems] using hne,CmpOf.ints_lt (numAt xs) (λ _ _=>intItems_at),λ v h' tk hP hk=>?_⟩
 ·show c < (s.heap.push _).objs.size
  rw [Heap.size_push]
  rcases jb0.mp hc with rfl | hc
  ·exact jg7 _
  ·rcases jb0.mp hc with rfl | hc
   ·exact jj8 hlt
   ·cases hc
 ·exact h v h' tk (by simpa [intItems] using hP) λ c o e=>by
   refine hk c o (λ hm=>?_) (Heap.get?_push_of_some _ e)
   rcases jb0.mp hm with e1 | hm
   ·exact absurd (e1 ▸ Heap.lt_size e) (je0 _)
   ·cases hm
theorem qfq (hc:X.calm=true):zwz X (.builtin "min") (λ xs H Q=>∃ (p:Addr) (ns:List Int),xs=[.ref p]/\SqT X.K H p (ns.map V.int)/\ns≠[]/\∀ m,m∈ns->(∀ a∈ns,m<=a)->Q (.int m) H):=by
 intro pins s σ H xs us Q I r h
 obtain ⟨p,ns,rfl,hq,hn,q⟩:=h
 obtain ⟨u,rfl,rx⟩:=zjs r
 cases rx
 obtain ⟨its,rv,pl,hz⟩:=I.tuple hq
 obtain ⟨zs,rfl,rfl⟩:=zvc rv
 have e:(zs.map λ p=>Value.int p.1 p.2).toArray=intItems zs.toArray:=by simp [intItems]
 rw [e] at pl
 have h0:0 < zs.length:=by
  cases zs with
  | nil=>exact absurd rfl hn
  | cons _ _=>simp
 refine qch (I.ok.hd hc) pl (by simpa using h0) λ v h' tk hv k=>?_
 obtain ⟨l1,l2⟩:=argBest_lt (numAt zs.toArray) (zs.toArray.size - 1)
 have hv':=hv
 obtain ⟨t,rfl⟩:=intItems_at hv
 have at':∀ j,j < zs.length->numAt zs.toArray j∈zs.map (·.1):=λ j hj=>by
  unfold numAt
  simp [hj]
  exact ⟨_,jc3 hj⟩
 refine ⟨.int _,H,I.kept (t':=tk) k,⟨t,rfl⟩,q _ (at' _ ?_) λ a ha=>?_⟩
 ·have:zs.toArray.size=zs.length:=by simp
  omega
 ·obtain ⟨z,hz,rfl⟩:=jd4.mp ha
  obtain ⟨j,hj,rfl⟩:=jf0 hz
  have hzs:zs.toArray.size=zs.length:=by simp
  have:=l2 j (by omega)
  have e:numAt zs.toArray j=zs[j].1:=by unfold numAt;simp [hj]
  rw [e] at this
  exact this
def qju (ns:List Int):Bool:=decide (ns.length<=2 ^ 20) && ns.all λ i=>decide (-(2 ^ 40)<=i) && decide (i<=2 ^ 40)
theorem qda {ns:List Int} (h:∀ i∈ns,-(2 ^ 40)<=i/\i<=2 ^ 40):∀ j:Nat,-(2 ^ 40) * (j:Int)<=(ns.take j).sum/\(ns.take j).sum<=2 ^ 40 * (j:Int):=by
 induction ns with
 | nil=>intro j;rw [jo4,jq8];omega
 | cons n ns ih=>
  intro j
  cases j with
  | zero=>rw [jk0,jq8];omega
  | succ j=>
   have:=ih (λ i hi=>h i (ja2 _ hi)) j
   have hn:=h n ja5
   rw [jh6,List.sum_cons]
   omega
theorem qfp (hc:X.calm=true):zwz X (.builtin "sum") (λ xs H Q=>∃ (p:Addr) (ns:List Int),xs=[.ref p]/\SqL X.K H p (ns.map V.int)/\qju ns=true/\Q (.int ns.sum) H):=by
 intro pins s σ H xs us Q I r h
 obtain ⟨p,ns,rfl,hq,hn,q⟩:=h
 obtain ⟨u,rfl,rx⟩:=zjs r
 cases rx
 obtain ⟨its,rv,pl,hz⟩:=I.list hq
 obtain ⟨zs,rfl,rfl⟩:=zvc rv
 have e:(zs.map λ p=>Value.int p.1 p.2).toArray=intItems zs.toArray:=by simp [intItems]
 rw [e] at pl
 unfold qju at hn
 rw [ja4] at hn
 have hl:(zs.map (·.1)).length<=2 ^ 20:=by simpa using hn.1
 have hb:∀ i∈zs.map (·.1),-(2 ^ 40)<=i/\i<=2 ^ 40:=λ i hi=>by
  have:=jb9.mp hn.2 i hi
  rw [ja4] at this
  exact ⟨of_decide_eq_true this.1,of_decide_eq_true this.2⟩
 have sz:zs.toArray.size=zs.length:=by simp
 rw [ja1] at hl
 have pre:∀ j,preSum (numAt zs.toArray) j=((zs.map (·.1)).take j).sum:=λ j=>by
  rw [preSum_eq]
 refine sum_intList (I.ok.hd hc) pl.isList (λ j hj=>⟨?_,?_⟩) λ h' tk t' k=>⟨.int _,H,I.kept (t':=tk) k,⟨t',rfl⟩,?_⟩
 ·have e1:numAt zs.toArray j=zs[j].1:=by unfold numAt;simp [show j < zs.length by omega]
  have:=hb (zs[j]'(by omega)).1 (jd4.mpr ⟨_,jc3 _,rfl⟩)
  rw [e1]
  unfold InLong
  omega
 ·have:=qda hb (j + 1)
  rw [pre]
  unfold InLong
  omega
 ·rw [pre,sz]
  have:((zs.map (·.1)).take zs.length)=zs.map (·.1):=by
   rw [jg6];simp
  rw [this]
  exact q
def minI:Int->List Int->Int
 | n,[]=>n
 | n,m::r=>minI (if m < n then m else n) r
theorem zff:∀ (r:List Int) (n:Int),minI n r∈n::r
 | [],n=>ja5
 | m::r,n=>by
  unfold minI
  have:=zff r (if m < n then m else n)
  rcases jb0.mp this with h | h
  ·rw [h]
   split
   ·exact ja2 _ ja5
   ·exact ja5
  ·exact ja2 _ (ja2 _ h)
theorem qab:∀ (r:List Int) (n:Int),∀ a∈n::r,minI n r<=a
 | [],n,a,h=>by
  have:a=n:=by simpa using h
  rw [this];exact jl9 _
 | m::r,n,a,h=>by
  unfold minI
  have ih:=qab r (if m < n then m else n)
  have h1:=ih _ ja5
  have h2:(if m < n then m else n)<=n/\(if m < n then m else n)<=m:=by split <;> omega
  rcases jb0.mp h with e | h
  ·rw [e];omega
  ·rcases jb0.mp h with e | h
   ·rw [e];omega
   ·exact ih a (ja2 _ h)
theorem zpo {ns:List Int}{m m':Int} (h1:m∈ns) (h2:∀ a∈ns,m<=a) (h3:m'∈ns) (h4:∀ a∈ns,m'<=a):m=m':=by
 have:=h2 m' h3
 have:=h4 m h1
 omega
def zkz:List (PV×Nat)->Option (PV×Nat)
 | [(.lst xs,_)]=>match zkk xs with
  | some (n::r)=>some (.int (minI n r),om)
  | _=>none
 | [(.tup xs,_)]=>match zkk xs with
  | some (n::r)=>some (.int (minI n r),om)
  | _=>none
 | xs=>op2 (λ i j=>if j < i then j else i) xs
def qkx:List (PV×Nat)->Option (PV×Nat)
 | [(.lst xs,_)]=>match zkk xs with
  | some ns=>if qju ns=true then some (.int ns.sum,om) else none
  | none=>none
 | _=>none
theorem zwz.or {f:Value}{r r':List V->Hp->VK->Prop} (h:zwz X f r) (h':zwz X f r'):zwz X f (λ xs H Q=>r xs H Q\/r' xs H Q):=by
 intro pins s σ H xs us Q I rv q
 rcases q with q | q
 ·exact h pins s σ H xs us Q I rv q
 ·exact h' pins s σ H xs us Q I rv q
theorem qj2 (hc:X.calm=true) (hg:Gl X "min") (hm:X.mg "min" = none) (ha:PA X (e::es) (tL M fa vs)) (he:starEach (e::es) X.env=(false,eval e X.env)::starEach es X.env) (hpl:(backTo pos (starEach es X.env)).any (·.1)=false):
  PE X (.Call (.Name "min" p) (e::es) [] pos) (tE M (zqb zkz fa) vs):=by
 refine zqt (zzt (((qfs hc).or (qfr hc)).or (qfq hc)) hg hm rfl ha (he:=he) (hpl:=hpl)) λ σ H Q h=>zzd (λ xs z c ws H fps fp Q ho tm nz zd lf=>?_) h
 unfold zkz at ho
 split at ho
 ·rename_i xs d
  split at ho
  ·rename_i n r eb
   cases ho
   obtain ⟨v,r',f1,f2,rfl,rfl,_,o1,h2⟩:=tm
   obtain ⟨rfl,rfl⟩:=h2
   obtain ⟨q,us,rfl,hs,ol⟩:=(cold (fp:=f1) o1 λ a ha=>nz a (ja9 _ ha)).coldL
   have:=zvd eb ol
   subst this
   refine .inl (.inr ⟨q,n::r,rfl,.inl (.inl hs),by simp,λ m h1 h2=>?_⟩)
   rw [zpo h1 h2 (zff r n) (qab r n)]
   exact zxm lf
  ·cases ho
 ·rename_i xs d
  split at ho
  ·rename_i n r eb
   cases ho
   obtain ⟨v,r',f1,f2,rfl,rfl,_,o1,h2⟩:=tm
   obtain ⟨rfl,rfl⟩:=h2
   obtain ⟨q,us,rfl,hs,ol⟩:=(cold (fp:=f1) o1 λ a ha=>nz a (ja9 _ ha)).coldT
   have:=zvd eb ol
   subst this
   refine .inr ⟨q,n::r,rfl,.inl (.inl hs),by simp,λ m h1 h2=>?_⟩
   rw [zpo h1 h2 (zff r n) (qab r n)]
   exact zxm lf
  ·cases ho
 ·exact .inl (.inl (qba ho tm lf))
theorem qj1 (hc:X.calm=true) (hg:Gl X "sum") (hm:X.mg "sum" = none) (ha:PA X (e::es) (tL M fa vs)) (he:starEach (e::es) X.env=(false,eval e X.env)::starEach es X.env) (hpl:(backTo pos (starEach es X.env)).any (·.1)=false):
  PE X (.Call (.Name "sum" p) (e::es) [] pos) (tE M (zqb qkx fa) vs):=by
 refine zqt (zzt (qfp hc) hg hm rfl ha (he:=he) (hpl:=hpl)) λ σ H Q h=>zzd (λ xs z c ws H fps fp Q ho tm nz zd lf=>?_) h
 unfold qkx at ho
 split at ho
 ·rename_i xs d
  split at ho
  ·rename_i ns eb
   split at ho
   ·rename_i hk
    cases ho
    obtain ⟨v,r',f1,f2,rfl,rfl,_,o1,h2⟩:=tm
    obtain ⟨rfl,rfl⟩:=h2
    obtain ⟨q,us,rfl,hs,ol⟩:=(cold (fp:=f1) o1 λ a ha=>nz a (ja9 _ ha)).coldL
    have:=zvd eb ol
    subst this
    exact ⟨q,ns,rfl,.inl (.inl hs),hk,zxm lf⟩
   ·cases ho
  ·cases ho
 ·cases ho
abbrev Fn:=List PV->Rz (PV×Nat×PV)
def spF (K:Frag) (io:Bool) (n:Nat) (F:Fn):Sp:=λ ws H Q E=>ws.length=n/\∃ (xs:List PV) (Zo:Addr->Prop) (x0:PV) (v0:V) (fp0:List Addr),
 (∀ a,Zo a->H a≠none)/\(∀ a∈fp0,¬ Zo a)/\(io=false->fp0=[]/\OwnL K H Zo xs 0 ws []) /\
 (io=true->∃ xr wr,xs=x0::xr/\ws=v0::wr/\Own K H (λ _=>True) x0 om v0 fp0/\OwnL K H (λ a=>Zo a\/a∈fp0) xr 0 wr []) /\
 (match F xs with
  | .ok (y,d,z0)=>∀ v H' fp fp0',Keep (λ a=>a∈fp0) H H'->(∀ a,H a≠none->H' a≠none)->(∀ a∈fp0',a∈fp0\/H a=none)->(∀ a∈fp0',¬ Zo a)->(io=false->fp0'=[])->(io=true->Own K H' (λ _=>True) z0 om v0 fp0') ->
    Own K H' (λ a=>(Zo a\/a∈fp0')\/a∈fp) y d v fp->(∀ a∈fp,H a=none/\¬ (Zo a\/a∈fp0'))->Q v H'
  | .exc c=>∀ H',Keep (λ a=>a∈fp0) H H'->(∀ a,H a≠none->H' a≠none)->E (.int (c:Int) 0) none H'
  | .no=>False)
def zqg (F:Fn) (fa:Fa):Fx:=λ ρ=>(fa ρ).bind λ (xs,ρ1)=>match F (xs.map (·.1)) with
 | .ok (y,d,_)=>.ok (y,d,ρ1)
 | .exc c=>.exc c
 | .no=>.no
theorem qjs {F:Fn}{n:Nat} (hF:∀ xs,xs.length≠n->F xs=.no) {σ:St}{H:Hp}{Q:VK} (hq:tE M (zqg F fa) vs σ H Q):qif (spF M.K false n F) M.W (tL M fa vs) σ H Q:=by
 obtain ⟨ρ,fps,rep,q⟩:=hq
 refine ⟨ρ,fps,rep,?_⟩
 unfold zqg at q
 cases ef:fa ρ with
 | no=>rw [ef] at q;exact q
 | exc c=>rw [ef] at q;exact q
 | ok p=>
  obtain ⟨xs,ρ1⟩:=p
  rw [ef] at q
  intro ws H1 fps1 f1 k1 g1 rep1 o1 t1
  dsimp only [Rz.bind] at q
  have back:∀ a,H1 a=none->H a=none:=λ a e=>by
   cases e':H a with
   | none=>rfl
   | some o=>exact absurd e (k1.dom a (by rw [e'];simp))
  show spF M.K false n F ws H1 Q (XEof (M.W σ))
  have hlen:xs.length=n:=by
   by_cases e:xs.length=n
   ·exact e
   ·rw [hF (xs.map (·.1)) (by rw [ja1];exact e)] at q;exact q.elim
  refine ⟨by rw [o1.length,hlen],xs.map (·.1),Zv M vs fps1,.non,.non,[],λ a z=>rep1.zdom z.zf,λ _ z=>(nomatch z),λ _=>⟨rfl,o1.cold λ a ha z=>t1.ndj a ha z.zf⟩,(λ h=>nomatch h),?_⟩
  cases eF:F (xs.map (·.1)) with
  | no=>rw [eF] at q;exact q
  | exc c=>
   rw [eF] at q
   exact λ H' kp _=>q H' fps1 (k1.trans (KD.grow λ a o h=>kp a o h λ z=>nomatch z))
  | ok r=>
   obtain ⟨y,d,z0⟩:=r
   rw [eF] at q
   intro v H' fp fp0' kp dm _ _ h0 _ oy hf
   have e0:=h0 rfl
   subst e0
   have kk:∀ a o,H1 a=some o->H' a=some o:=λ a o h=>kp a o h λ z=>nomatch z
   refine q v H' fps1 fp (k1.trans (KD.grow kk)) g1 (rep1.grow kk) (oy.weak λ a h=>h.elim (λ h=>.inl (.inl h)) .inr) ⟨λ a ha=>back a (hf a ha).1,λ a ha=>rep1.nz (hf a ha).1⟩
end
section
variable {prog:Program}{w:World}{A:Around}{E:Value->Shared->Prop}{s:Shared}
structure ZApart (zz ti to p1 p2 q1 q2:Addr):Prop where
 ne1:ti≠zz
 ne2:to≠zz
 ne3:p1≠zz
 ne4:p2≠zz
 ne5:ti≠to
 ne6:ti≠p1
 ne7:ti≠p2
 ne8:to≠p1
 ne9:to≠p2
 nea:p1≠p2
 neb:q1≠zz
 nec:q1≠to
 ned:q1≠p1
 nee:q1≠p2
 nef:q2≠zz
 neg:q2≠to
 neh:q2≠p1
 nei:q2≠p2
section
variable {zz ti to p1 p2 q1 q2:Addr}{n1 n2:Nat}{us vs:Array Value}{u v a b:Value}
end
end
section
variable {X:Cx}{pins:List (Addr×Obj)}{σ:St}{H:Hp}{s:Shared}{h':Heap}
theorem qcm {fp:List Addr}{a:Addr}{o:HO}{t':Nat} (I:Inv X pins σ H s) (k:∀ b u,b∉fp->s.heap.get? b=some u->h'.get? b=some u) (hf:∀ b∈fp,FpOk X pins H b) (ha:s.heap.objs.size<=a) (new:zza X.prog X.w (upd H a o) h' a o):
  Inv X pins σ (upd H a o) { s with heap:=h',toks:=t' }:=by
 have hn:H a=none:=I.hok.fresh ha
 have nfp:∀ b u,H b=some u->b∉fp:=λ b u e z=>by rw [(hf b z).1] at e;cases e
 have up:∀ b u,H b=some u->upd H a o b=some u:=λ b u e=>by rw [zqp (λ z=>by rw [z,hn] at e;cases e)];exact e
 refine I.step (g':=s.gens) (d':=s.drawn) (ch:=fp) (λ b hb=>?_) (λ b u _ _ hc e _=>k b u hc e) (λ b u _ _ hc e _=>⟨u.slots,k b u hc e⟩) (λ b u _ e n=>?_) (λ b u hc e=>⟨u,k b u hc e⟩) (λ b xs e=>up b _ e) (λ b _ _ e=>up b _ e) (λ b ps e=>⟨#[],by rw [up b _ e];simp⟩) (λ m hm=>?_) (λ b u e=>?_) I.bare
 ·obtain ⟨_,f1,_,f3,f4,f5⟩:=hf b hb
  exact ⟨f3,f1,f4,f5⟩
 ·rw [zqp (λ z=>by rw [z] at e;exact absurd (Heap.lt_size e) (Nat.not_lt.mpr ha))];exact n
 ·obtain ⟨u,es,ep,ho,r⟩:=hm
  exact ⟨u,es,ep,k _ u (λ z=>(hf _ z).2.1 rfl) ho,r⟩
 ·by_cases eb:b=a
  ·subst eb
   rw [zqv] at e
   cases e
   exact new
  ·rw [zqp eb] at e
   refine (I.hok b u e).stay (λ c v hc q=>k c v ?_ q) (λ c q=>up c _ q) λ c xs q=>up c _ q
   rcases hc with z | z
   ·rw [z];exact nfp b u e
   ·exact nfp c _ z
theorem qaf {fp:List Addr}{t':Nat} (I:Inv X pins σ H s) (k:∀ b u,b∉fp->s.heap.get? b=some u->h'.get? b=some u) (hf:∀ b∈fp,FpOk X pins H b):Inv X pins σ H { s with heap:=h',toks:=t' }:=by
 have nfp:∀ b u,H b=some u->b∉fp:=λ b u e z=>by rw [(hf b z).1] at e;cases e
 refine I.step (g':=s.gens) (d':=s.drawn) (ch:=fp) (λ b hb=>?_) (λ b u _ _ hc e _=>k b u hc e) (λ b u _ _ hc e _=>⟨u.slots,k b u hc e⟩) (λ _ _ _ _ n=>n) (λ b u hc e=>⟨u,k b u hc e⟩) (λ _ _ e=>e) (λ _ _ _ e=>e) (λ b ps e=>⟨#[],by rw [e];simp⟩) (λ m hm=>?_) (λ b u e=>?_) I.bare
 ·obtain ⟨_,f1,_,f3,f4,f5⟩:=hf b hb
  exact ⟨f3,f1,f4,f5⟩
 ·obtain ⟨u,es,ep,ho,r⟩:=hm
  exact ⟨u,es,ep,k _ u (λ z=>(hf _ z).2.1 rfl) ho,r⟩
 ·refine (I.hok b u e).stay (λ c v hc q=>k c v ?_ q) (λ _ q=>q) λ _ _ q=>q
  rcases hc with z | z
  ·rw [z];exact nfp b u e
  ·exact nfp c _ z
end
def ItZp (K:Frag) (a b:Addr):It:=
 ⟨λ i H=>∃ xs ys x y,SqL K H a xs/\SqL K H b ys/\xs[i]?=some x/\ys[i]?=some y,λ i H v H'=>∃ T x y,H T=none/\v=.ref T/\H'=upd H T (.tup [x,y])/\∀ xs ys,SqL K H a xs->SqL K H b ys->xs[i]?=some x/\ys[i]?=some y,λ i H=>∃ xs ys,SqL K H a xs/\SqL K H b ys/\(xs.length<=i\/ys.length<=i)⟩
theorem zfw {h:Heap}{z TI TO i1 i2 l1 l2:Addr}{f0:Value}{a b c d:Value}{k1 k2:Nat}{xs ys:Array Value} (hTT:TI≠TO) (h12:i1≠i2) (hz:IsZip h z TI TO f0) (hTI:IsPair h TI a b) (hTO:IsPair h TO c d) (h1:h.IsListIter i1 l1 k1) (h2:h.IsListIter i2 l2 k2) (hl1:h.IsList l1 xs) (hl2:h.IsList l2 ys):ZipApart z TI TO i1 i2 l1 l2:=by
 obtain ⟨o1,e1,c1,_⟩:=h1
 obtain ⟨o2,e2,c2,_⟩:=h2
 obtain ⟨p1,q1,r1,_⟩:=hl1
 obtain ⟨p2,q2,r2,_⟩:=hl2
 have ne:∀ {x y:Addr}{o o':Obj}{n m:String},h.get? x=some o->h.get? y=some o'->o.cls=.type n->o'.cls=.type m->n≠m->x≠y:=λ {x y o o' n m} ex ey cx cy nm z=>by
  subst z
  rw [ex] at ey
  cases ey
  rw [cx] at cy
  injection cy with cy
  exact nm cy
 exact ⟨ne hTI hz rfl rfl (by decide),ne hTO hz rfl rfl (by decide),ne e1 hz c1 rfl (by decide),ne e2 hz c2 rfl (by decide),hTT,ne hTI e1 rfl c1 (by decide),ne hTI e2 rfl c2 (by decide),ne hTO e1 rfl c1 (by decide),ne hTO e2 rfl c2 (by decide),h12,
  ne q1 hz r1 rfl (by decide),ne q1 hTO r1 rfl (by decide),ne q1 e1 r1 c1 (by decide),ne q1 e2 r1 c2 (by decide),ne q2 hz r2 rfl (by decide),ne q2 hTO r2 rfl (by decide),ne q2 e1 r2 c1 (by decide),ne q2 e2 r2 c2 (by decide)⟩
theorem qf7 {P:Program}{w:World}{K:Frag}{es:List Expr}{k:Nat}{pos:Pos} (l1 l2 z TI TO i1 i2:Addr) (hTT:TI≠TO) (h12:i1≠i2):
  Turn P w K (.Tuple es k pos) (ItZp K l1 l2) [z,TI,TO,i1,i2] z (λ i h=>IsZip h z TI TO .none/\IsPair h TI (.ref i1) (.ref i2)/\(∃ p q,IsPair h TO p q)/\h.IsListIter i1 l1 i/\h.IsListIter i2 l2 i) where
 mem:=by simp
 obj:=λ i h st b hb=>by
  obtain ⟨hz,hTI,⟨p,q,hTO⟩,⟨o1,e1,_,d1⟩,⟨o2,e2,_,d2⟩⟩:=st
  simp only [jb0,je3,or_false] at hb
  rcases hb with rfl | rfl | rfl | rfl | rfl
  ·exact ⟨_,hz,λ v z=>by cases z⟩
  ·exact ⟨_,hTI,λ v z=>by cases z⟩
  ·exact ⟨_,hTO,λ v z=>by cases z⟩
  ·exact ⟨o1,e1,λ v z=>by rw [d1] at z;cases z⟩
  ·exact ⟨o2,e2,λ v z=>by rw [d2] at z;cases z⟩
 keep:=λ i h h' st k=>by
  obtain ⟨hz,hTI,⟨p,q,hTO⟩,h1,h2⟩:=st
  exact ⟨k z (by simp) _ hz,k TI (by simp) _ hTI,⟨p,q,k TO (by simp) _ hTO⟩,h1.at λ o x=>k i1 (by simp) o x,h2.at λ o x=>k i2 (by simp) o x⟩
 item:=by
  intro X hP hw hK hc i pins s σ H E I hf st hg
  subst hP hw hK
  obtain ⟨xs,ys,x,y,hq1,hq2,hx,hy⟩:=hg
  obtain ⟨its1,rv1,p1,hz1⟩:=I.list hq1
  obtain ⟨its2,rv2,p2,hz2⟩:=I.list hq2
  obtain ⟨u1,hu1,ru1⟩:=rv1.get hx
  obtain ⟨u2,hu2,ru2⟩:=rv2.get hy
  obtain ⟨hz,hTI,⟨p,q,hTO⟩,h1,h2⟩:=st
  have D:=zfw hTT h12 hz hTI hTO h1 h2 p1.isList p2.isList
  refine wpAny_pyNext_zip_item D hz hTI hTO h1 h2 p1.isList p2.isList (x:=u1) (y:=u2) (by simpa using hu1) (by simpa using hu2) λ h' a1 a2 a3 a4 a5 a6 hk=>⟨_,rfl,?_⟩
  refine wpAny_letOwnedTupleGo_zip a1 λ h2' hz' hs'=>?_
  have hn:H s.heap.objs.size=none:=I.hok.fresh (jb3 _)
  have hs0:s.heap.objs.size≠z:=ji2 (Heap.lt_size hz)
  have I1:Inv X pins σ (upd H s.heap.objs.size (.tup [x,y])) { s with heap:=h2',toks:=s.toks }:=by
   refine qcm (fp:=[z,TI,TO,i1,i2]) I (λ b u hb e=>(hs'.2 b (λ z=>hb (by simp [z]))).trans (hk b u (λ z=>hb (by simp [z])) (λ z=>hb (by simp [z])) (λ z=>hb (by simp [z])) (λ z=>hb (by simp [z])) e)) hf (jb3 _) ?_
   exact ⟨jc6 (by decide:2<=1000) (by decide),_,.cons ru1 (.cons ru2 .nil),⟨_,(hs'.2 _ hs0).trans a5,rfl,_,rfl⟩⟩
  refine ⟨.ref s.heap.objs.size,_,I1,rfl,⟨_,x,y,hn,rfl,rfl,λ xs' ys' e1 e2=>⟨by rw [I.list_inj e1 hq1];exact hx,by rw [I.list_inj e2 hq2];exact hy⟩⟩,⟨hz',(hs'.2 _ D.TIz).trans (hk _ _ D.TIz D.TITO D.TIi1 D.TIi2 hTI),⟨_,_,(hs'.2 _ D.TOz).trans a2⟩,a3.at λ o e=>(hs'.2 _ D.i1z).trans e,a4.at λ o e=>(hs'.2 _ D.i2z).trans e⟩,λ b hb=>?_⟩
  have hb':=(hf b hb).1
  have lt:b < s.heap.objs.size:=by
   simp only [jb0,je3,or_false] at hb
   rcases hb with rfl | rfl | rfl | rfl | rfl
   ·exact Heap.lt_size hz
   ·exact Heap.lt_size hTI
   ·exact Heap.lt_size hTO
   ·obtain ⟨_,e,_⟩:=h1;exact Heap.lt_size e
   ·obtain ⟨_,e,_⟩:=h2;exact Heap.lt_size e
  rw [zqp (jc9 lt)]
  exact hb'
 done:=by
  intro X hP hw hK hc i pins s σ H E I hf st hg
  subst hP hw hK
  obtain ⟨xs,ys,hq1,hq2,hend⟩:=hg
  obtain ⟨its1,rv1,p1,hz1⟩:=I.list hq1
  obtain ⟨its2,rv2,p2,hz2⟩:=I.list hq2
  obtain ⟨hz,hTI,⟨p,q,hTO⟩,h1,h2⟩:=st
  have D:=zfw hTT h12 hz hTI hTO h1 h2 p1.isList p2.isList
  have r1:=rv1.length
  have r2:=rv2.length
  refine wpAny_pyNext_zip_end (I.ok.hd hc) D hz hTI hTO h1 h2 p1.isList p2.isList ?_ λ h' hk=>⟨rfl,qaf (t':=s.toks) I (λ b o hb e=>hk b o (λ z=>hb (by simp [z])) (λ z=>hb (by simp [z])) (λ z=>hb (by simp [z])) (λ z=>hb (by simp [z])) e) hf⟩
  rcases hend with h | h
  ·exact .inl (jm5 (by simp;omega))
  ·exact .inr (jm5 (by simp;omega))
 self:=λ _ _ _ _ _ st h=>wpAny_pyIter_zip st.1 h
section
variable {X:Cx}{tg:Expr}
def iZip (K:Frag) (ta:TA):TI:=λ σ H R=>ta σ H λ vs H1=>∃ a b xs ys,vs=[.ref a,.ref b]/\(SqL K H1 a xs/\SqL K H1 b ys/\R (ItZp K a b) H1)
theorem qnz {a b:Expr}{ta:TA}{es:List Expr}{k:Nat}{tp p pos:Pos} (hg:Gl X "zip") (hm:X.mg "zip" = none) (ha:PA X [a,b] ta) (hs:starEach [a,b] X.env=[(false,eval a X.env),(false,eval b X.env)]) (hs2:starEach [b] X.env=[(false,eval b X.env)]):
  PI X (.Tuple es k tp) (.Call (.Name "zip" p) [a,b] [] pos) (iZip X.K ta):=by
 intro pins s σ H R I h
 refine Call_ (zyz I hg hm boot_zip (PyProof.Rows.callWith_type1 (thn (ha pos pins s σ H _ I h) λ us s1 ⟨vs,H1,I1,r1,q1⟩=>?_) (by rw [hs,hs2]) (by rw [hs2];rfl)))
 obtain ⟨c,d,xs,ys,e,hq1,hq2,q⟩:=q1
 ·subst e
  cases r1 with
  | cons r rr=>
   cases rr with
   | cons r' rr=>
    cases rr
    cases r
    cases r'
    obtain ⟨its1,rv1,p1,hz1⟩:=I1.list hq1
    obtain ⟨its2,rv2,p2,hz2⟩:=I1.list hq2
    refine call_zip_2 p1.isList p2.isList λ h' hz hTI hTO h1 h2 hsz hk=>?_
    refine wpAny_pyIter_zip (s:={ s1 with heap:=h' }) hz ?_
    refine ⟨s1.heap.objs.size + 4,[s1.heap.objs.size + 4,s1.heap.objs.size + 2,s1.heap.objs.size + 3,s1.heap.objs.size,s1.heap.objs.size + 1],_,_,H1,rfl,I1.kept (t':=s1.toks) hk,qf7 c d _ _ _ _ _ (jc9 (jg7 _)) (jc9 (jg7 _)),⟨hz,hTI,⟨_,_,hTO⟩,h1,h2⟩,λ x hx=>?_,q⟩
    have:s1.heap.objs.size<=x:=by
     simp only [jb0,je3,or_false] at hx
     rcases hx with rfl | rfl | rfl | rfl | rfl
     ·exact jh7 _ _
     ·exact jh7 _ _
     ·exact jh7 _ _
     ·exact jb3 _
     ·exact jh7 _ _
    exact I1.fpOk this (I1.hok.fresh this)
end
inductive Vw where
 | rev | enm | zp
def zipL:List PV->List PV->List PV
 | x::xs,y::ys=>.tup [x,y]::zipL xs ys
 | _,_=>[]
def zvs:Vw->List PV->Option (List PV)
 | .zp,[.lst xs,.lst ys]=>some (zipL xs ys)
 | _,_=>none
def qmf (v:Vw) (K:Frag) (ws:List V) (H:Hp) (R:It->Hp->Prop):Prop:=match v with
 | .rev=>False
 | .enm=>False
 | .zp=>∃ a b xs ys,ws=[.ref a,.ref b]/\(SqL K H a xs/\SqL K H b ys/\R (ItZp K a b) H)
def iVw (v:Vw) (K:Frag) (ta:TA):TI:=λ σ H R=>ta σ H λ ws H1=>qmf v K ws H1 R
theorem zmd:∀ (xs ys:List PV),(zipL xs ys).length=min xs.length ys.length
 | [],ys=>by simp [zipL]
 | x::xs,[]=>by simp [zipL]
 | x::xs,y::ys=>by rw [zipL,jb1,zmd xs ys,jb1,jb1];omega
theorem zme:∀ (xs ys:List PV) (i:Nat) (x y:PV),xs[i]?=some x->ys[i]?=some y->(zipL xs ys)[i]?=some (.tup [x,y])
 | [],ys,i,x,y,h,_=>by simp at h
 | a::xs,[],i,x,y,_,h=>by simp at h
 | a::xs,b::ys,0,x,y,h,h'=>by simp at h h';subst h h';simp [zipL]
 | a::xs,b::ys,i + 1,x,y,h,h'=>by
  rw [zipL,jh5]
  exact zme xs ys i x y (by simpa using h) (by simpa using h')
theorem Own.growH {K:Frag}{H H':Hp}{Z:Addr->Prop}{x:PV}{v:V} (k:∀ a o,H a=some o->H' a=some o) (h:Own K H Z x 0 v []):Own K H' Z x 0 v []:=
 Own.move (S:=λ _=>False) (λ a o h _=>k a o h) (λ _ z=>z.elim) (λ _ _ n=>n) x 0 v [] (λ _ z=>nomatch z) h
theorem zmw {K:Frag}{H:Hp}{Z:Addr->Prop}{xs:List PV}{v:V} (o:Own K H Z (.lst xs) 0 v []):∃ a ws,v=.ref a/\SqL K H a ws/\OwnL K H Z xs 0 ws []:=by
 rw [Own] at o
 obtain ⟨b,ws,e,⟨_,hr,_,ol⟩ | ⟨h,_⟩⟩:=o
 ·exact ⟨b,ws,e,.inl (.inl hr.1),ol⟩
 ·exact absurd rfl h
theorem qgx {K:Frag}{H:Hp}{Z:Addr->Prop}{x y:PV}{u v:V}{T:Addr} (hT:H T=some (.tup [u,v])) (ox:Own K H Z x 0 u []) (oy:Own K H Z y 0 v []):Own K H Z (.tup [x,y]) 0 (.ref T) []:=by
 rw [Own]
 refine ⟨T,_,rfl,hT,?_⟩
 rw [qd2,OwnL]
 refine ⟨u,[v],[],[],rfl,rfl,(λ _ z=>nomatch z),ox,?_⟩
 rw [OwnL]
 exact ⟨v,[],[],[],rfl,rfl,(λ _ z=>nomatch z),oy,by rw [OwnL];exact ⟨rfl,rfl⟩⟩
theorem OwnL.one {K:Frag}{H:Hp}{Z:Addr->Prop}{x:PV}{ws:List V} (o:OwnL K H Z [x] 0 ws []):∃ v,ws=[v]/\Own K H Z x 0 v []:=by
 rw [OwnL] at o
 obtain ⟨v,r,f1,f2,rfl,ef,_,o1,o2⟩:=o
 obtain ⟨rfl,rfl⟩:f1=[]/\f2=[]:=by simpa using ef.symm
 rw [OwnL] at o2
 exact ⟨v,by rw [o2.1],o1⟩
theorem OwnL.two {K:Frag}{H:Hp}{Z:Addr->Prop}{x y:PV}{ws:List V} (o:OwnL K H Z [x,y] 0 ws []):∃ u v,ws=[u,v]/\Own K H Z x 0 u []/\Own K H Z y 0 v []:=by
 rw [OwnL] at o
 obtain ⟨u,r,f1,f2,rfl,ef,_,o1,o2⟩:=o
 obtain ⟨rfl,rfl⟩:f1=[]/\f2=[]:=by simpa using ef.symm
 obtain ⟨v,rfl,o3⟩:=o2.one
 exact ⟨u,v,rfl,o1,o3⟩
theorem OwnL.mono0 {K:Frag}{H H':Hp}{Z Z':Addr->Prop} (h:∀ x v,Own K H Z x 0 v []->Own K H' Z' x 0 v []):∀ {xs:List PV}{ws:List V},OwnL K H Z xs 0 ws []->OwnL K H' Z' xs 0 ws []
 | [],ws,o=>by rw [OwnL] at o ⊢;exact o
 | x::xs,ws,o=>by
  rw [OwnL] at o
  obtain ⟨u,r,f1,f2,rfl,ef,_,o1,o2⟩:=o
  obtain ⟨rfl,rfl⟩:f1=[]/\f2=[]:=by simpa using ef.symm
  rw [OwnL]
  exact ⟨u,r,[],[],rfl,rfl,(λ _ z=>nomatch z),h _ _ o1,OwnL.mono0 h o2⟩
theorem qme {v:Vw}{ps els:List PV}{ws:List V}{K:Frag}{H:Hp}{Z:Addr->Prop} (he:zvs v ps=some els) (o:OwnL K H Z ps 0 ws []):∃ J,(∀ R:It->Hp->Prop,R J H->qmf v K ws H R)/\∀ H Z,OwnL K H Z ps 0 ws []->∀ i,(i < els.length->J.go i H)/\(els.length<=i->J.stop i H) /\
  (i < els.length->∀ x H',J.yld i H x H'->(∀ a o,H a=some o->H' a=some o)/\∃ y,els[i]?=some y/\Own K H' Z y 0 x []):=by
 unfold zvs at he
 split at he
 ·rename_i xs ys
  cases he
  obtain ⟨v1,v2,rfl,o1,o2⟩:=o.two
  obtain ⟨a,us,rfl,sq,ol⟩:=zmw o1
  obtain ⟨b,vs,rfl,sq2,ol2⟩:=zmw o2
  refine ⟨ItZp K a b,λ R r=>⟨a,b,us,vs,rfl,sq,sq2,r⟩,λ H' Z' o' i=>?_⟩
  obtain ⟨v1',v2',e,o1',o2'⟩:=o'.two
  cases e
  obtain ⟨a',us',e,sq',ol'⟩:=zmw o1'
  cases e
  obtain ⟨b',vs',e,sq2',ol2'⟩:=zmw o2'
  cases e
  have hl1:=ol'.length
  have hl2:=ol2'.length
  rw [zmd]
  refine ⟨λ h=>⟨us',vs',us'[i]'(by omega),vs'[i]'(by omega),sq',sq2',by simp,by simp⟩,λ h=>⟨us',vs',sq',sq2',by omega⟩,λ h x H2 y=>?_⟩
  obtain ⟨T,u,w,hT,rfl,rfl,e2⟩:=y
  have kx:∀ a o,H' a=some o->upd H' T (.tup [u,w]) a=some o:=λ a o h=>by rw [zqp (λ z=>by rw [z,hT] at h;cases h)];exact h
  obtain ⟨e3,e4⟩:=e2 us' vs' sq' sq2'
  obtain ⟨z1,ez1,oz1⟩:=ol'.get e3
  obtain ⟨z2,ez2,oz2⟩:=ol2'.get e4
  exact ⟨kx,.tup [z1,z2],zme _ _ _ _ _ ez1 ez2,qgx zqv (oz1.growH kx) (oz2.growH kx)⟩
 ·cases he
section
variable {is:List Nat}{M:Fm}{ρ ρ':Rho}{σ σ':St}{H H' H'':Hp}{fps fps' fps'':Fps}{vs vs':List Nat}
def zkm (v:Vw) (fa:Fa) (vs:List Nat) (asg:PV->Rho->Option Rho) (body:Fs):Fs:=λ ρ=>match fa ρ with
 | .ok (xs,ρ1)=>(match zvs v (xs.map (·.1)) with
  | some els=>zws asg body els (zqs (if zvp xs=true then om else 0) vs ρ1)
  | none=>.no)
 | .exc c=>.exc c
 | .no=>.no
def qfx (v:Vw) (fa:Fa) (k:Nat) (asg:PV->Rho->Option Rho) (test:Fb) (elt:Fx):Fx:=λ ρ=>match fa ρ with
 | .ok (xs,ρ1)=>(match zvs v (xs.map (·.1)) with
  | some els=>(zzm k asg test elt els ρ1 []).bindN λ (acc,ρ2)=>zvk acc ρ2
  | none=>.no)
 | .exc c=>.exc c
 | .no=>.no
theorem Rep.seens {xs:List (PV×Nat)}{ws:List V}{fp:List Addr} (rep:Rep M ρ σ H fps) (k:KD M H fps H' fps') (g:Agr M ρ ρ') (r':Rep M ρ' σ H' fps') (o:Tmps M.K H' (Zv M vs fps') xs ws fp) (t:Temp M vs H H' fps' fp)
  (hal:∀ i,M.al i=[]) (hv:∀ i∈vs,M.Ms i=false):∃ fps2,KS M H fps H' fps2/\Rep M (zqs (if zvp xs=true then om else 0) vs ρ') σ H' fps2/\OwnL M.K H' (Zf M fps2) (xs.map (·.1)) 0 ws []:=by
 unfold zqs
 cases ho:zvp xs with
 | true=>
  rw [if_pos rfl,if_pos rfl]
  refine ⟨fps',k.ks,r',?_⟩
  exact OwnL.freeze (λ _ z=>z) _ om ws fp (λ a ha=>t.ndj a ha) (OwnL.full _ ws fp (o.all (zvy ho)))
 | false=>
  rw [if_neg jc5,if_neg (by decide)]
  exact ⟨zkq vs fps',k.ks.cool,r'.cool hal hv,(o.cold λ a ha z=>t.ndj a ha z.zf).weak λ a h=>zvz h⟩
theorem qcz {v:Vw}{g:TG}{asg:PV->Rho->Option Rho}{body:Fs}{fa:Fa}{D:Ends} (hal:∀ i,M.al i=[]) (hv:∀ i∈vs,M.Ms i=false) (hg:GOk M [] is g asg) (hq:tS M (zkm v fa vs asg body) D σ H):tFor (iVw v M.K (tL M fa vs)) g (tS M body) D σ H:=by
 obtain ⟨ρ,fps,rep,q⟩:=hq
 refine ⟨ρ,fps,rep,?_⟩
 unfold zkm at q
 cases ef:fa ρ with
 | no=>rw [ef] at q;exact q
 | exc c=>rw [ef] at q;exact λ H' fps' k=>q _ H' fps' k.ks
 | ok p=>
  obtain ⟨xs,ρ1⟩:=p
  rw [ef] at q
  intro ws H1 fps1 f1 k1 g1 rep1 o1 t1
  dsimp only at q
  cases ee:zvs v (xs.map (·.1)) with
  | none=>rw [ee] at q;exact q.elim
  | some els=>
   rw [ee] at q
   obtain ⟨fps2,k2,r2,o2⟩:=Rep.seens rep k1 g1 rep1 o1 t1 hal hv
   obtain ⟨J,hpre,hJ⟩:=qme ee o2
   refine hpre _ ?_
   exact zbr (Pq:=λ H fps=>OwnL M.K H (Zf M fps) (xs.map λ (p:PV×Nat)=>p.1) 0 ws []) (els:=els) hg (λ r k o=>o.mono0 λ x v h=>k.stay0 r h) (λ {H fps i} o h=>(hJ H _ o i).1 h) (λ {H fps i} o h=>(hJ H _ o i).2.1 h) (λ {ρ σ H fps i x H'} _ o h y=>(hJ H _ o i).2.2 h x H' y) r2 o2 (RsOk.from k2 q)
theorem qgb {v:Vw}{g:TG}{is vI vE vo:List Nat}{asg:PV->Rho->Option Rho}{test:Fb}{elt:Fx}{fa:Fa}{k n:Nat}{Q:VK}{P:Fm->Prop}
  (hn:σ.length=n) (hP:∀ D,P (M.comp D n vI)) (hal:∀ i,∀ j∈M.al i,M.Ms j=false) (hvI:∀ i∈vI,M.Ms i=false) (hvE:∀ i∈vE,M.Ms i=false) (his:∀ i∈is,n<=i) (hg:∀ D,GOk (M.comp D n vI) vI is g asg)
  (hvo:∀ i,i∈vE->i < n->i∈vo) (hvo2:∀ i∈vo,M.Ms i=false) (hq:tE M (qfx v fa k asg test elt) vo σ H Q):
  zhs k (iVw v M.K (tL M fa vI)) g (λ σ H Q=>∃ M',P M'/\tT M' test σ H Q) (λ σ H Q=>∃ M',P M'/\tE M' elt vE σ H Q) σ H Q:=by
 obtain ⟨ρ,fps,rep,q⟩:=hq
 refine ⟨ρ,fps,rep,?_⟩
 unfold qfx at q
 cases ef:fa ρ with
 | no=>rw [ef] at q;exact q
 | exc c=>rw [ef] at q;exact q
 | ok p=>
  obtain ⟨xs,ρ1⟩:=p
  rw [ef] at q
  intro ws H1 fps1 f1 k1 g1 rep1 o1 t1
  dsimp only at q
  cases ee:zvs v (xs.map (·.1)) with
  | none=>rw [ee] at q;exact q.elim
  | some els=>
   rw [ee] at q
   have hl:n=ρ1.length:=by rw [rep1.len];exact hn.symm
   have o0:OwnL M.K H1 (Zv M vI fps1) (xs.map (·.1)) 0 ws []:=o1.cold λ a ha z=>t1.ndj a ha z.zf
   obtain ⟨J,hpre,hJ⟩:=qme ee o0
   refine hpre _ ?_
   have stay:∀ {D H' fps'},H1 D=none->KD M H1 fps1 H' fps'->OwnL M.K H' (Zv (M.plus [D]) vI fps') (xs.map (·.1)) 0 ws []:=λ hD k'=>o0.mono0 λ x v h=>KD.seen rep1 k' hD hvI h
   refine zyd (els:=els) hP hl hal hvI hvE his hg hvo hvo2 rep1 (λ {D H' fps' i} hD k' h=>(hJ H' _ (stay hD k') i).1 h) (λ {D H' fps' i} hD k' h=>(hJ H' _ (stay hD k') i).2.1 h) (λ {D H' fps' i x H''} hD k' h y=>(hJ H' _ (stay hD k') i).2.2 h x H'' y) ?_
   dsimp only at q
   cases ec:zzm k asg test elt els ρ1 [] with
   | no=>rw [ec] at q;exact q.elim
   | exc c=>rw [ec] at q;exact q.elim
   | ok p=>
    obtain ⟨acc,ρ2⟩:=p
    rw [ec] at q
    exact λ D ws H' fps' fpl k g r hD hD' tm hf=>zfo rep1 k1 g1 q k g r hD hD' tm hf
end
section
variable {X:Cx}{M:Fm}{f g:Fx}{fa:Fa}{vs vs':List Nat}{a b e:Expr}{es:List Expr}{pos p p2:Pos}{σ:St}{H:Hp}{Q:VK}
def opRv:PV->Nat->Option (PV×Nat)
 | .lst xs,_=>some (.lst xs.reverse,d1 xs.reverse)
 | .str z,_=>if z.length<=sizeLine then some (.str ⟨z.cps.toList.reverse.toArray⟩,om) else none
 | _,_=>none
def rRv (K:Frag):V->Hp->VK->Prop:=λ x H1 Q=>(∃ l xs,x=.ref l/\SqL K H1 l xs/\∀ p,H1 p=none->Q (.ref p) (upd H1 p (.lst xs.reverse)))\/∃ z,x=.str z/\z.length<=sizeLine/\Q (.str ⟨z.cps.toList.reverse.toArray⟩) H1
theorem qkc (z:Str) (tk u:Tok):PySem.sliceMade z tk none none (some (-1,u))=.str ⟨z.cps.toList.reverse.toArray⟩:=by
 unfold PySem.sliceMade PySem.slicePicked
 rw [if_neg (by simp)]
 have e:Builtin.Str.strSliceIndices none none (-1) z.length=(jc2 z.cps.size).reverse:=by
  have e1:Builtin.Str.strSliceIndices none none (-1) z.length=sliceRange ((z.length:Int) - 1) (-1) (-1):=rfl
  rw [e1,PySem.W.krv_sliceRange,PySem.W.krv_range]
  rfl
 show Made.str ⟨((Builtin.Str.strSliceIndices none none (-1) z.length).filterMap (z.cps[·]?)).toArray⟩=_
 rw [e,List.filterMap_reverse,PySem.W.krv_all]
theorem zmh:∀ {xs:List V}{us:List Value},Vals xs us->Vals xs.reverse us.reverse
 | _,_,.nil=>.nil
 | _,_,.cons r rr=>by rw [jh1,jh1];exact (zmh rr).append (.cons r .nil)
theorem OwnL.snoc0 {K:Frag}{H:Hp}{Z:Addr->Prop}{x:PV}{v:V}:∀ {xs:List PV}{ws:List V},OwnL K H Z xs 0 ws []->Own K H Z x 0 v []->OwnL K H Z (xs++[x]) 0 (ws++[v]) []
 | [],ws,h,o=>by
  rw [OwnL] at h
  obtain ⟨rfl,_⟩:=h
  rw [jg1,jg1,OwnL]
  exact ⟨v,[],[],[],rfl,rfl,(λ _ z=>nomatch z),o,by rw [OwnL];exact ⟨rfl,rfl⟩⟩
 | y::xs,ws,h,o=>by
  rw [OwnL] at h
  obtain ⟨u,r,f1,f2,rfl,ef,_,o1,o2⟩:=h
  obtain ⟨rfl,rfl⟩:f1=[]/\f2=[]:=by simpa using ef.symm
  rw [jm3,jm3,OwnL]
  exact ⟨u,r++[v],[],[],rfl,rfl,(λ _ z=>nomatch z),o1,OwnL.snoc0 o2 o⟩
theorem OwnL.rev {K:Frag}{H:Hp}{Z:Addr->Prop}:∀ {xs:List PV}{ws:List V},OwnL K H Z xs 0 ws []->OwnL K H Z xs.reverse 0 ws.reverse []
 | [],ws,h=>by
  rw [OwnL] at h
  obtain ⟨rfl,_⟩:=h
  rw [List.reverse_nil,OwnL];exact ⟨rfl,rfl⟩
 | y::xs,ws,h=>by
  rw [OwnL] at h
  obtain ⟨u,r,f1,f2,rfl,ef,_,o1,o2⟩:=h
  obtain ⟨rfl,rfl⟩:f1=[]/\f2=[]:=by simpa using ef.symm
  rw [jh1,jh1]
  exact OwnL.snoc0 (OwnL.rev o2) o1
theorem qp0 {te:TE}{k:Nat}{p3 p4:Pos} (he:PE X a te):PE X (.Subscript a (.Slice none none (some (.UnaryOp .USub (.Constant (.int 1) k p3) p4)) p2) pos) (tUn (rRv X.K) te):=by
 intro pins s σ H Q I h
 refine Subscript_ (thn (he pins s σ H _ I h) λ v s1 ⟨x,H1,I1,r1,q1⟩=>?_)
 have hp:=zbf (qn2 (pos:=p4) qia (qdz (X:=X) (i:=1) (j:=k) (pos:=p3)))
 have hn:PO X none zhq:=zhx
 obtain ⟨l,xs,rfl,hq,q⟩ | ⟨z,rfl,hz,q⟩:=q1
 ·cases r1
  refine wpAny_Slice (thn (hn pins s1 σ H1 (λ o H'=>o=none/\H'=H1) I1 ⟨rfl,rfl⟩) λ vl s2 ⟨o2,H2,I2,p2',e2⟩=>?_)
  obtain ⟨rfl,rfl⟩:=e2
  refine thn (hn pins s2 σ H2 (λ o H'=>o=none/\H'=H2) I2 ⟨rfl,rfl⟩) λ vu s3 ⟨o3,H3,I3,p3',e3⟩=>?_
  obtain ⟨rfl,rfl⟩:=e3
  refine thn (hp pins s3 σ H3 (λ o H'=>o=some (-1)/\H'=H3) I3 ⟨1,rfl,-1,rfl,rfl,rfl⟩) λ vk s4 ⟨o4,H4,I4,p4',e4⟩=>?_
  obtain ⟨rfl,rfl⟩:=e4
  have I5:Inv X pins σ H4 { s4 with heap:=s4.heap.push { cls:=.type "slice",data:=.fields #[vl,vu,vk] } }:=I4.kept (t':=s4.toks) λ b ob q=>Heap.get?_push_of_some _ q
  obtain ⟨its,r,ht,hz⟩:=I5.list hq
  have hlen:=r.length
  show wpAny (model X.prog X.w) X.A (subscriptTail a (.Slice none none (some (.UnaryOp .USub (.Constant (.int 1) k p3) p4)) p2) (.ref l) (.ref s4.heap.objs.size)) (EP X pins σ Q) X.xe { s4 with heap:=s4.heap.push { cls:=.type "slice",data:=.fields #[vl,vu,vk] } }
  refine tail_any (ops:=[.ref l,.ref s4.heap.objs.size]) ht.isList.typeIs slot_list_getitem.lookup ?_ (by with_unfolding_all rfl)
  refine wpAny_getItem_list_slice ht.isList (Heap.IsSliceOf.new ..) p2' p3' p4' (by simp) ?_ (by rw [jb6] <;> omega)
  rw [PySem.W.krv_pick]
  refine ⟨.ref _,_,I5.laid (o:=.lst xs.reverse) (λ b ob q=>Heap.get?_push_of_some _ q) (jb3 _) ?_,rfl,q _ (I5.hok.fresh (jb3 _))⟩
  refine ⟨by rw [jg3];exact hz,its.reverse,0,zmh r,Heap.get?_push_size _ rfl⟩
 ·obtain ⟨tk,rfl⟩:=r1
  refine wpAny_Slice (thn (hn pins s1 σ H1 (λ o H'=>o=none/\H'=H1) I1 ⟨rfl,rfl⟩) λ vl s2 ⟨o2,H2,I2,p2',e2⟩=>?_)
  obtain ⟨rfl,rfl⟩:=e2
  refine thn (hn pins s2 σ H2 (λ o H'=>o=none/\H'=H2) I2 ⟨rfl,rfl⟩) λ vu s3 ⟨o3,H3,I3,p3',e3⟩=>?_
  obtain ⟨rfl,rfl⟩:=e3
  refine thn (hp pins s3 σ H3 (λ o H'=>o=some (-1)/\H'=H3) I3 ⟨1,rfl,-1,rfl,rfl,rfl⟩) λ vk s4 ⟨o4,H4,I4,p4',e4⟩=>?_
  obtain ⟨rfl,rfl⟩:=e4
  cases p2'
  cases p3'
  cases p4' with
  | int _ u=>
   have I5:Inv X pins σ H4 { s4 with heap:=s4.heap.push { cls:=.type "slice",data:=.fields #[.none,.none,.int (-1) u] } }:=I4.kept (t':=s4.toks) λ b ob q=>Heap.get?_push_of_some _ q
   show wpAny (model X.prog X.w) X.A (subscriptTail a (.Slice none none (some (.UnaryOp .USub (.Constant (.int 1) k p3) p4)) p2) (.str z tk) (.ref s4.heap.objs.size)) (EP X pins σ Q) X.xe { s4 with heap:=s4.heap.push { cls:=.type "slice",data:=.fields #[.none,.none,.int (-1) u] } }
   refine tail_any (ops:=[.str z tk,.ref s4.heap.objs.size]) (typeIs_str _ z tk) PySem.F.slot_str_getitem.lookup ?_ (by with_unfolding_all rfl)
   refine wpAny_getItem_str_slice (l:=none) (u:=none) (st:=some (-1,u)) ⟨_,Heap.get?_push_size _ rfl,rfl,rfl⟩ rfl ?_
   rw [qkc]
   refine ⟨?_,.str _,H4,I5.tok _,⟨_,rfl⟩,q⟩
   show z.cps.toList.reverse.toArray.size<=sizeLine
   have hz':z.cps.size<=sizeLine:=hz
   simpa using hz'
theorem qpt {k:Nat}{p3 p4:Pos} (hK:M.K=X.K) (ha:PE X a (tE M f vs)):PE X (.Subscript a (.Slice none none (some (.UnaryOp .USub (.Constant (.int 1) k p3) p4)) p2) pos) (tE M (bUn opRv f) vs):=by
 refine zqt (qp0 ha) λ σ H Q h=>zhr (λ x d z c v H fps f1 Q ho o1 nz zd lf=>?_) h
 cases x with
 | lst xs=>
  cases ho
  obtain ⟨q,us,rfl,hs,ol⟩:=(cold o1 λ a ha=>nz a ha).coldL
  exact .inl ⟨q,us,rfl,.inl (.inl hs),λ l hl=>zwe lf (OwnL.rev ol) hl⟩
 | str z=>
  dsimp only [opRv] at ho
  split at ho
  ·rename_i hl
   cases ho
   rw [Own] at o1
   exact .inr ⟨z,o1.1,hl,zke lf⟩
  ·cases ho
 | _=>cases ho
def zgm:List (PV×Nat)->Option (PV×Nat)
 | [(.bl b,_)]=>some (.int (if b then 1 else 0),om)
 | [(.int i,_)]=>some (.int i,om)
 | _=>none
theorem qj8 (hg:Gl X "int") (hm:X.mg "int" = none) (ha:PA X (e::es) (tL M fa vs)) (he:starEach (e::es) X.env=(false,eval e X.env)::starEach es X.env) (hpl:(backTo pos (starEach es X.env)).any (·.1)=false):
  PE X (.Call (.Name "int" p) (e::es) [] pos) (tE M (zqb zgm fa) vs):=by
 refine zqt (zkx qfw hg hm rfl ha (he:=he) (hpl:=hpl)) λ σ H Q h=>zzd (λ xs z c ws H fps fp Q ho tm nz zd lf=>?_) h
 unfold zgm at ho
 split at ho
 ·cases ho
  obtain ⟨v,r,f1,f2,rfl,rfl,_,o1,h2⟩:=tm
  obtain ⟨rfl,rfl⟩:=h2
  rw [Own] at o1
  exact .inr ⟨_,by rw [o1.1],zxm lf⟩
 ·cases ho
  obtain ⟨v,r,f1,f2,rfl,rfl,_,o1,h2⟩:=tm
  obtain ⟨rfl,rfl⟩:=h2
  rw [Own] at o1
  exact .inl ⟨_,by rw [o1.1],zxm lf⟩
 ·cases ho
end
section
variable {M:Fm}{fa:Fa}{vs:List Nat}
def spM (K:Frag) (F:Fn):Sp:=λ ws H Q _=>∃ x0 v0 fp0,ws=[v0]/\Own K H (λ _=>True) x0 om v0 fp0/\(match F [x0] with
 | .ok (y,_,_)=>zmc y=true/\∀ v H',Keep (λ a=>a∈fp0) H H'->(∀ a,H a≠none->H' a≠none)->Own K H' (λ _=>True) y om v []->Q v H'
 | _=>False)
end
section
variable {X:Cx}{M:Fm}{f g:Fx}{vs vs':List Nat}{σ:St}{H:Hp}{Q:VK}
def cntS (c:Nat) (l:List Nat):Nat:=l.count c
theorem qfl (c:Nat):∀ l:List Nat,PyProof.Rows.cnt c l=(cntS c l:Nat)
 | []=>rfl
 | n::r=>by
  rw [PyProof.Rows.cnt_cons,qfl c r]
  unfold cntS
  rw [jd1]
  by_cases h:n=c
  ·subst h;rw [if_pos rfl,if_pos (by simp)];omega
  ·rw [if_neg h,if_neg (by simpa using h)];omega
def bCnt (i:Nat) (f:Fx):Fx:=λ ρ=>match ρ[i]? with
 | some (some (.str z,_))=>(match f ρ with
  | .ok (.str y,_,ρ1)=>(match y.cps.toList with
   | [c]=>.ok (.int (cntS c z.cps.toList:Nat),om,ρ1)
   | _=>.no)
  | .ok _=>.no
  | .exc c=>.exc c
  | .no=>.no)
 | _=>.no
def rCnt:V->List V->Hp->VK->Prop:=λ x xs H Q=>∃ z c,x=.str z/\xs=[.str ⟨#[c]⟩]/\Q (.int (cntS c z.cps.toList:Nat)) H
theorem qg3:MtR X "str.count" rCnt:=by
 intro pins s σ H x xs v us Q I rx rs h
 obtain ⟨z,c,rfl,rfl,q⟩:=h
 obtain ⟨t,rfl⟩:=rx
 cases rs with
 | cons r rr=>
  cases rr
  obtain ⟨u,rfl⟩:=r
  refine call_gives PySem.F.slot_str_count (typeIs_str s z t) PySem.F.entry_str_count (PySem.F.args_str_count_2 _ _) (gives_str_count z ⟨#[c]⟩ t u) ?_
  have e:(((Builtin.Str.occurrences z ⟨#[c]⟩ 0 z.length (z.length + 1)).length:Nat):Int)=(cntS c z.cps.toList:Nat):=by
   rw [<- qfl,<- PyProof.Rows.count_cnt]
   rfl
  rw [e]
  exact ⟨.int _,H,I.tok _,⟨_,rfl⟩,q⟩
theorem qmg {K:Frag}{H:Hp} (z:Str):tyV K "str" (.str z) H:=rfl
theorem qm3 {i:Nat} (hal:∀ i,∀ j∈M.al i,M.Ms j=false) (hq:tE M (bCnt i f) vs' σ H Q):tBM M.K "str" rCnt (tVar i) (qc7 (tE M f vs) tNil) σ H Q:=by
 obtain ⟨ρ,fps,rep,q⟩:=hq
 unfold bCnt at q
 cases e0:ρ[i]? with
 | none=>rw [e0] at q;exact q.elim
 | some s0=>
 rw [e0] at q
 cases s0 with
 | none=>exact q.elim
 | some p0=>
 obtain ⟨x0,d0⟩:=p0
 cases x0 with
 | str z=>
  obtain ⟨v,hσ,o⟩:=rep.own i _ _ e0
  rw [Own] at o
  obtain ⟨rfl,_⟩:=o
  refine ⟨_,hσ,qmg z,ρ,fps,rep,?_⟩
  dsimp only at q
  cases ef:f ρ with
  | no=>rw [ef] at q;exact q
  | exc c=>rw [ef] at q;exact q
  | ok p=>
   obtain ⟨y,e,ρ1⟩:=p
   rw [ef] at q
   cases y with
   | str y=>
    intro w H1 fps1 fp k1 g1 rep1 o1 t1
    rw [Own] at o1
    obtain ⟨rfl,_⟩:=o1
    dsimp only at q
    cases ec:y.cps.toList with
    | nil=>rw [ec] at q;exact q.elim
    | cons c r=>
    cases r with
    | cons _ _=>rw [ec] at q;exact q.elim
    | nil=>
     rw [ec] at q
     refine ⟨z,c,rfl,?_,?_⟩
     ·have:y=⟨#[c]⟩:=by
       cases y with
       | mk a=>
        have:a=#[c]:=Array.toList_inj.mp ec
        rw [this]
      rw [this]
     ·exact q (.int _) H1 fps1 [] k1 g1 rep1 (by rw [Own];exact ⟨rfl,rfl⟩) ⟨(λ _ z=>nomatch z),λ _ z=>nomatch z⟩
   | _=>exact q.elim
 | _=>exact q.elim
end
theorem qeb:typeLookup (.type "list_reverseiterator") "__len__" = pure none:=by rw [typeLookup_type,builtinLookup_eq_fast];kernel_rfl
theorem qg8:typeLookup (.type "list_reverseiterator") "__length_hint__" = pure (some (.builtin "list_reverseiterator.__length_hint__")):=by rw [typeLookup_type,builtinLookup_eq_fast];kernel_rfl
section
variable {pg:Program}{wd:World}{Ar:Around}{Er:Value->Shared->Prop}{st:Shared}
theorem qlh {Rz':Result->Shared->Prop}{l it:Addr}{xs:Array Value} (hd0:Ar.handled=none) (lne:l≠it) (hri:st.heap.IsRevIter it l ((xs.size:Int) - 1)) (hl:st.heap.IsList l xs) (hz:xs.size<=sizeLine) (N:Addr) (nI:N≠it) (nl:N≠l) (rv:Value) (c0:Nat) (hN:st.heap.get? N=some { cls:=.type "list",data:=.seq #[] c0 })
  (good:∀ hp tk out c2,(∀ b o,b≠N->b≠it->st.heap.get? b=some o->hp.get? b=some o)->hp.get? N=some { cls:=.type "list",dict:=none,data:=.seq out c2,slots:=#[] }->ItemsOf (λ i v=>xs[xs.size - 1 - i]?=some v) out xs.size->Rz' (.ok (.ret rv)) { st with heap:=hp,toks:=tk }):
  wpAny (model pg wd) Ar.in1 (Builtin.List.listExtendWith (.ref N) (.ref it) rv) (λ z t=>match z with | .done f=>Rz' (.ok f) t | .again k=>k.quiet=true/\codeAny (model pg wd) Ar k Rz' t) (λ e t=>Rz' (.error e) t) st:=by
 have walk:=(Walks.listRev (prog:=pg) (w:=wd) (A:=Ar.in1) hd0 it l lne xs).toS
 have tI:st.TypeIs (.ref it) "list_reverseiterator" := hri.typeIs
 have other:Builtin.List.listSameRef (.ref N) (.ref it)=false:=by simp [Builtin.List.listSameRef,nI]
 delta Builtin.List.listExtendWith
 refine wpAny_bind (wpAny_typeOf tI ?_)
 rw [if_neg (by rw [other];decide)]
 refine wpAny_bind (wpAny_pyIter_revIter hri (wpAny_bind (wpAny_holding ?_)))
 delta Builtin.List.listLengthHint
 refine wpAny_bind (wpAny_specialOf tI qeb ?_)
 show wpAny _ Ar.in1 (specialOf (Value.ref it) (Str.ofString "__length_hint__") >>= _) _ _ _
 refine wpAny_bind (wpAny_specialOf tI qg8 ?_)
 generalize en:("list_reverseiterator.__length_hint__" : String)=nm
 wp_delta
 rw [show splitId nm=some ("list_reverseiterator","__length_hint__") from by subst en;decide +kernel]
 subst en
 refine wpAny_bind (wpAny_isInstance (b:=true) tI (by rw [isSubtype_type];kernel_rfl) (wpAny_pure ?_))
 rw [if_neg (by decide)]
 refine wpAny_pure ⟨plainId_quiet F.plain_extend_loop _,codeAny_extend_loopS walk hz _ (by simp [nI,nl]) _ xs.size 0 _ _ _ rfl (jg2 _) ⟨jg2 _,by simpa using hri,hl⟩ hN (ItemsOf.nil _) λ t out c2 mv hN' all=>?_⟩
 rw [Moved.eq_with mv]
 exact good t.heap t.toks out c2 (λ b o hb hb2 e=>mv.heap b o (by simp [hb,hb2]) e) hN' all
theorem qg4 {Qv:Value->Shared->Prop}{l it:Addr}{xs:Array Value} (hd0:Ar.handled=none) (lne:l≠it) (hri:st.heap.IsRevIter it l ((xs.size:Int) - 1)) (hl:st.heap.IsList l xs) (hz:xs.size<=sizeLine)
  (good:∀ hp tk out c2,(∀ b o,b≠it->st.heap.get? b=some o->hp.get? b=some o)->hp.get? st.heap.objs.size=some { cls:=.type "list",dict:=none,data:=.seq out c2,slots:=#[] }->ItemsOf (λ i v=>xs[xs.size - 1 - i]?=some v) out xs.size->Qv (.ref st.heap.objs.size) { st with heap:=hp,toks:=tk }):wpAny (model pg wd) Ar (call (.type "list") [.ref it]) Qv Er st:=by
 let one:Obj:={ cls:=.type "list",data:=.seq #[] }
 refine callType_codes (Q₁:=λ v t=>v=.ref st.heap.objs.size/\t={ st with heap:=st.heap.push one }) F.called_list (F.typeCall_list_1 _) F.entry_list_init (code_list_new _ ⟨rfl,rfl⟩) λ v t made=>?_
 obtain ⟨rfl,rfl⟩:=made
 have hN:(st.heap.push one).get? st.heap.objs.size=some one:=Heap.get?_push_size _ rfl
 refine ⟨⟨_,hN,rfl⟩,F.args_list_init_2 _ _,?_⟩
 have nI:st.heap.objs.size≠it:=λ e=>by obtain ⟨o,ho,_⟩:=hri;exact je0 _ (e ▸ Heap.lt_size ho)
 have nl:st.heap.objs.size≠l:=λ e=>by obtain ⟨o,ho,_⟩:=hl;exact je0 _ (e ▸ Heap.lt_size ho)
 show wpAny _ Ar.in1.in1 (do let old<-Builtin.List.listItems (.ref st.heap.objs.size);Builtin.List.listUpdate (.ref st.heap.objs.size) (λ _=>#[]);letGo old.toList.reverse;Builtin.List.listExtendWith (.ref st.heap.objs.size) (.ref it) .none) _ _ _
 refine wpAny_bind ?_
 delta Builtin.List.listItems
 refine wpAny_bind (wpAny_seqItems hN rfl (wpAny_pure ?_))
 show wpAny _ _ (updateSeq st.heap.objs.size (λ _=>#[]) >>= λ _=>letGo (#[]:Array Value).toList.reverse >>= λ _=>Builtin.List.listExtendWith (.ref st.heap.objs.size) (.ref it) .none) _ _ _
 refine wpAny_bind (wpAny_updateSeq hN rfl (wpAny_bind (wpAny_letGo ?_)))
 have hN2:=Heap.get?_update_self (Obj.mapSeq (λ _=>(#[]:Array Value))) hN rfl
 have rest:∀ b o,b≠st.heap.objs.size->st.heap.get? b=some o->((st.heap.push one).update st.heap.objs.size (Obj.mapSeq (λ _=>(#[]:Array Value)))).get? b=some o:=λ b o hb e=>(Heap.get?_update_other _ _ (Ne.symm hb)).trans (Heap.get?_push_of_some _ e)
 refine qlh (Ar:=Ar.in1) hd0 lne (hri.at λ o e=>rest it o (Ne.symm nI) e) (hl.at λ o e=>rest l o (Ne.symm nl) e) hz st.heap.objs.size nI nl .none _ hN2 λ hp tk out c2 hk hN' all=>?_
 exact ⟨rfl,good hp tk out c2 (λ b o hb e=>by
  have hb':b≠st.heap.objs.size:=λ z=>je0 _ (z ▸ Heap.lt_size e)
  exact hk b o hb' hb (rest b o hb' e)) hN' all⟩
end
theorem qer {its:List Value}{acc:Array Value} (h:ItemsOf (λ i v=>its.toArray[its.toArray.size - 1 - i]?=some v) acc its.toArray.size):acc.toList=its.reverse:=by
 obtain ⟨hs,hi⟩:=h
 simp only [jb6] at hs hi
 refine jo7 λ j=>?_
 by_cases hj:j < its.length
 ·have e:acc[j]?=some acc[j]:=Array.getElem?_eq_getElem (by omega)
  have:=hi j _ e
  rw [jk2,e,jn2 hj,<- this]
  simp
 ·rw [jf8 (by simp;omega),jf8 (by simp;omega)]
section
variable {X:Cx}{M:Fm}{f:Fx}{vs:List Nat}{a:Expr}{pos p p2 pos2:Pos}
def rRvL (K:Frag):V->Hp->VK->Prop:=λ x H1 Q=>∃ l xs,x=.ref l/\SqL K H1 l xs/\∀ p,H1 p=none->Q (.ref p) (upd H1 p (.lst xs.reverse))
theorem qkm {te:TE} (hc:X.calm=true) (hgL:Gl X "list") (hmL:X.mg "list" = none) (hgR:Gl X "reversed") (hmR:X.mg "reversed" = none) (ha:PE X a te) (hs:starEach [a] X.env=[(false,eval a X.env)]):
  PE X (.Call (.Name "list" p) [.Call (.Name "reversed" p2) [a] [] pos2] [] pos) (tUn (rRvL X.K) te):=by
 intro pins s σ H Q I h
 refine wpAny_Call_Name_kw (zyz I hgL hmL boot_list ?_ (by decide) (by decide))
 refine PyProof.Rows.callWith_type1 ?_ rfl rfl
 show wpAny _ _ (spliced ((false,eval (.Call (.Name "reversed" p2) [a] [] pos2) X.env)::[])) _ _ s
 refine Calls.spliced_cons ?_
 refine Call_ (zyz I hgR hmR boot_reversed (PyProof.Rows.callWith_type1 ?_ hs rfl))
 rw [hs]
 show wpAny _ _ (spliced ((false,eval a X.env)::[])) _ _ s
 refine Calls.spliced_cons (thn (ha pins s σ H _ I h) λ u s1 ⟨x,H1,I1,r1,q1⟩=>Calls.spliced_nil ?_)
 obtain ⟨l,xs,rfl,hq,q⟩:=q1
 cases r1
 obtain ⟨its,rv,pl,hz⟩:=I1.list hq
 have hlen:=rv.length
 refine call_reversed_list pl.isList ?_
 refine Calls.spliced_nil ?_
 have hT:(s1.heap.push (revObj l ((its.toArray.size:Int) - 1))).IsRevIter s1.heap.objs.size l ((its.toArray.size:Int) - 1):=⟨_,Heap.get?_push_size _ rfl,rfl,rfl⟩
 have hlt:s1.heap.objs.size < (s1.heap.push (revObj l ((its.toArray.size:Int) - 1))).objs.size:=Heap.lt_size (Heap.get?_push_size _ rfl)
 have hne:l≠s1.heap.objs.size:=λ e=>by obtain ⟨o,ho,_⟩:=pl.isList;exact je0 _ (e ▸ Heap.lt_size ho)
 refine qg4 (st:={ s1 with heap:=s1.heap.push (revObj l ((its.toArray.size:Int) - 1)) }) (I1.ok.hd hc) hne hT (pl.isList.at λ o e=>Heap.get?_push_of_some _ e) (by rw [jb6];omega) λ h' tk acc' c' hk hS' hacc=>?_
 have ea:=qer hacc
 refine ⟨.ref _,_,I1.laid (h':=h') (t':=tk) (o:=.lst xs.reverse) (λ b o e=>hk b o (λ z=>je0 _ (z ▸ Heap.lt_size e)) (Heap.get?_push_of_some _ e)) (jk1 hlt) ?_,rfl,q _ (I1.hok.fresh (jk1 hlt))⟩
 refine ⟨by rw [jg3];exact hz,its.reverse,c',zmh rv,?_⟩
 rw [<- ea]
 exact hS'
def qg0:PV->Nat->Option (PV×Nat)
 | .lst xs,_=>some (.lst xs.reverse,d1 xs.reverse)
 | _,_=>none
theorem qj6 (hK:M.K=X.K) (hc:X.calm=true) (hgL:Gl X "list") (hmL:X.mg "list" = none) (hgR:Gl X "reversed") (hmR:X.mg "reversed" = none) (hs:starEach [a] X.env=[(false,eval a X.env)]) (ha:PE X a (tE M f vs)):
  PE X (.Call (.Name "list" p) [.Call (.Name "reversed" p2) [a] [] pos2] [] pos) (tE M (bUn qg0 f) vs):=by
 refine zqt (qkm hc hgL hmL hgR hmR ha hs) λ σ H Q h=>zhr (λ x d z c v H fps f1 Q ho o1 nz zd lf=>?_) h
 cases x with
 | lst xs=>
  cases ho
  obtain ⟨q,us,rfl,hs,ol⟩:=(cold o1 λ a ha=>nz a ha).coldL
  exact ⟨q,us,rfl,.inl (.inl hs),λ l hl=>zwe lf (OwnL.rev ol) hl⟩
 | _=>cases ho
end
section
variable {prog:Program}{w:World}{A:Around}{E:Value->Shared->Prop}{s:Shared}{a₀:Array Keyed}
end
section
variable {prog:Program}{w:World}{A:Around}{E:Value->Shared->Prop}{s:Shared}
end
def ins (a:Int):List Int->List Int
 | []=>[a]
 | b::r=>if a<=b then a::b::r else b::ins a r
def srt:List Int->List Int
 | []=>[]
 | a::r=>ins a (srt r)
section
variable {X:Cx}{M:Fm}{fa:Fa}{vs:List Nat}{e:Expr}{es:List Expr}{pos p:Pos}
def qpl (ns:List Int):Prop:=ns.length < 64\/(ns.Pairwise (·<=·)/\ns.length<=sizeLine)
instance (ns:List Int):Decidable (qpl ns):=inferInstanceAs (Decidable (_\/_))
def qqq:List (PV×Nat)->Option (PV×Nat)
 | [(.lst xs,_)]=>match zkk xs with
  | some ns=>if qpl ns then some (.lst ((srt ns).map PV.int),om) else none
  | none=>none
 | _=>none
def maxI:Int->List Int->Int
 | n,[]=>n
 | n,m::r=>maxI (if m > n then m else n) r
theorem qa6:∀ (r:List Int) (n:Int),maxI n r∈n::r
 | [],n=>ja5
 | m::r,n=>by
  have q:=qa6 r (if m > n then m else n)
  show maxI (if m > n then m else n) r∈_
  rcases jb0.mp q with z | z
  ·rw [z]
   split <;> simp
  ·simp [z]
theorem qee:∀ (r:List Int) (n:Int),∀ a∈n::r,a<=maxI n r
 | [],n,a,h=>by
  have e:a=n:=by simpa using h
  rw [e];exact jl9 _
 | m::r,n,a,h=>by
  show a<=maxI (if m > n then m else n) r
  have q:=qee r (if m > n then m else n)
  have q1:=q _ ja5
  have q2:n<=(if m > n then m else n)/\m<=(if m > n then m else n):=by split <;> omega
  simp only [jb0] at h
  rcases h with z | z | z
  ·omega
  ·omega
  ·exact q a (ja2 _ z)
theorem qft (hc:X.calm=true):zwz X (.builtin "max") (λ xs H Q=>∃ (q:Addr) (n:Int) (r:List Int),xs=[.ref q]/\SqL X.K H q ((n::r).map V.int)/\Q (.int (maxI n r)) H):=by
 intro pins s σ H xs us Q I rv h
 obtain ⟨q,n,r,rfl,hq,k0⟩:=h
 obtain ⟨u,rfl,rx⟩:=zjs rv
 cases rx
 obtain ⟨its,rv2,pl,hz⟩:=I.list hq
 obtain ⟨zs,rfl,ez⟩:=zvc rv2
 have e:(zs.map λ p=>Value.int p.1 p.2).toArray=intItems zs.toArray:=by simp [intItems]
 rw [e] at pl
 have hsz:zs.toArray.size=zs.length:=by simp
 have h0:0 < zs.length:=by
  cases zs with
  | nil=>cases ez
  | cons _ _=>simp
 refine max_intList (I.ok.hd hc) pl.isList (by simpa using h0) λ v h' tk hv k=>?_
 obtain ⟨l1,l2⟩:=argBest_gt (numAt zs.toArray) (zs.toArray.size - 1)
 obtain ⟨t,rfl⟩:=intItems_at hv
 generalize argBest (λ i j=>decide (numAt zs.toArray i > numAt zs.toArray j)) (zs.toArray.size - 1)=b at *
 have num:∀ j,(hj:j < zs.length)->numAt zs.toArray j=zs[j].1:=λ j hj=>by unfold numAt;simp [hj]
 have hm:numAt zs.toArray b∈n::r:=by
  rw [num b (by omega),<- ez]
  exact jd4.mpr ⟨_,jc3 _,rfl⟩
 have hg:∀ a∈n::r,a<=numAt zs.toArray b:=λ a ha=>by
  rw [<- ez] at ha
  obtain ⟨z,hz',rfl⟩:=jd4.mp ha
  obtain ⟨j,hj,rfl⟩:=jf0 hz'
  rw [<- num j hj]
  exact l2 j (by omega)
 have eb:numAt zs.toArray b=maxI n r:=Int.le_antisymm (qee r n _ hm) (hg _ (qa6 r n))
 exact ⟨.int _,H,I.kept (t':=tk) k,⟨t,rfl⟩,by rw [eb];exact k0⟩
def qky:List (PV×Nat)->Option (PV×Nat)
 | [(.lst xs,_)]=>match zkk xs with
  | some (n::r)=>some (.int (maxI n r),om)
  | _=>none
 | xs=>op2 (λ i j=>if j > i then j else i) xs
theorem qj3 (hc:X.calm=true) (hg:Gl X "max") (hm:X.mg "max" = none) (ha:PA X (e::es) (tL M fa vs)) (he:starEach (e::es) X.env=(false,eval e X.env)::starEach es X.env) (hpl:(backTo pos (starEach es X.env)).any (·.1)=false):
  PE X (.Call (.Name "max" p) (e::es) [] pos) (tE M (zqb qky fa) vs):=by
 refine zqt (zzt ((qfu hc).or (qft hc)) hg hm rfl ha (he:=he) (hpl:=hpl)) λ σ H Q h=>zzd (λ xs z c ws H fps fp Q ho tm nz zd lf=>?_) h
 unfold qky at ho
 split at ho
 ·rename_i xs d
  split at ho
  ·rename_i n r eb
   cases ho
   obtain ⟨v,r',f1,f2,rfl,rfl,_,o1,h2⟩:=tm
   obtain ⟨rfl,rfl⟩:=h2
   obtain ⟨q,us,rfl,hs,ol⟩:=(cold (fp:=f1) o1 λ a ha=>nz a (ja9 _ ha)).coldL
   have:=zvd eb ol
   subst this
   exact .inr ⟨q,n,r,rfl,.inl (.inl hs),zxm lf⟩
  ·cases ho
 ·exact .inl (qba ho tm lf)
end
def zku (x:PV):Option Str:=match x with
 | .non=>some "None"
 | .bl b=>some (if b then "True" else "False")
 | .int i=>if i.natAbs.log2 < 1920 then some (toString i) else none
 | .str s=>some s
 | .emp=>some (PyData.shown (.dict []))
 | .lst xs=>match toD 20 (.lst xs) with
  | some D=>if D.showable=true/\D.shown.length<=sizeLine then some D.shown else none
  | none=>none
 | .tup xs=>match toD 20 (.tup xs) with
  | some D=>if D.showable=true/\D.shown.length<=sizeLine then some D.shown else none
  | none=>none
 | _=>none
def zpf:List (PV×Nat)->Option (PV×Nat)
 | [(x,_)]=>(zku x).map λ s=>(.str s,om)
 | _=>none
section
variable {X:Cx}{M:Fm}{H:Hp}{σ:St}
def rStr (K:Frag):List V->Hp->VK->Prop:=λ ws H Q=>∃ x d v Z f T,ws=[v]/\Own K H Z x d v f/\zku x=some T/\Q (.str T) H
theorem qbq {pins:List (Addr×Obj)}{s:Shared}{Z:Addr->Prop}{x:PV}{d:Nat}{v:V}{f:List Addr}{D:PyData}{a:Addr}{Q:VK} (hu:X.A.units + 64 < cLine) (hg:X.A.guards=some []) (I:L2.Inv X pins σ H s) (o:Own X.K H Z x d v f) (hD:toD 20 x=some D) (hs:D.showable=true) (hz:D.shown.length<=sizeLine) (r:RelV v (.ref a)) (q:Q (.str D.shown) H):wpAny (model X.prog X.w) X.A (call (.type "str") [.ref a]) (EP X pins σ Q) X.xe s:=by
 obtain ⟨as,ra⟩:=zww I 20 x d v f (.ref a) D hD o r
 have l:=zwo 20 x D hD
 exact PySem.str_of_reads ra hs (PyData.noDict_hsm (PyData.hasDict_of_canLay D l.1)) hg (by omega) (λ _ _ e=>e) (λ h' u tk hk=>⟨.str D.shown,H,I.kept (t':=tk) hk,⟨u,rfl⟩,q⟩) hz
theorem qhs (hu:X.A.units + 64 < cLine) (hg:X.A.guards=some []):zwz X (.type "str") (rStr X.K):=by
 intro pins s σ H ws us Q I rv h
 obtain ⟨x,d,v,Z,f,T,rfl,o,hT,q⟩:=h
 cases rv with
 | cons r rr=>
  cases rr
  cases x with
  | non=>
   rw [Own] at o
   obtain ⟨rfl,_⟩:=o
   cases r
   cases hT
   exact P.str_of_none ⟨.str "None",H,I.tok _,⟨_,rfl⟩,q⟩
  | bl b=>
   rw [Own] at o
   obtain ⟨rfl,_⟩:=o
   cases r
   cases hT
   exact P.str_of_bool ⟨.str _,H,I.tok _,⟨_,rfl⟩,q⟩
  | int i=>
   rw [Own] at o
   obtain ⟨rfl,_⟩:=o
   obtain ⟨t,rfl⟩:=r
   dsimp only [zku] at hT
   split at hT
   ·rename_i hi
    cases hT
    exact P.str_of_int hi ⟨.str _,H,I.tok _,⟨_,rfl⟩,q⟩
   ·cases hT
  | str z=>
   rw [Own] at o
   obtain ⟨rfl,_⟩:=o
   obtain ⟨t,rfl⟩:=r
   cases hT
   exact P.str_of_str ⟨.str _,H,I,⟨_,rfl⟩,q⟩
  | dko=>cases hT
  | emp=>
   rw [Own] at o
   obtain ⟨_,a,rfl,ha⟩:=o
   cases r
   cases hT
   obtain ⟨_,z1,vs,k1,⟨o,es,ep,h1,h2,h3,h4,h5,h6⟩⟩:=qe6 I.hok ha
   cases k1
   generalize hes:es.toList=l at h5
   cases h5
   have rd:Reads s.heap (.ref a) (.dict []) (a::[]++[]):=Reads.dict (es:=es) (kvs:=[]) h1 h2.1 h3 (by rw [hes];exact .nil) (by rw [hes];exact .nil)
   have h9:PyData.depth (.dict []) + 3<=64:=by decide
   have hroom:X.A.units + (PyData.depth (.dict []) + 3) < cLine:=Nat.lt_of_le_of_lt (Nat.add_le_add_left h9 _) hu
   refine PySem.str_of_reads rd rfl (λ _ hm=>?_) hg hroom (λ _ _ e=>e) (λ h' u tk hk=>⟨.str _,H,I.kept (t':=tk) hk,⟨u,rfl⟩,q⟩) (by decide +kernel)
   have e9:sysModules=a:=by simpa using hm
   rw [<- e9] at z1
   simp at z1
  | lst xs=>
   dsimp only [zku] at hT
   split at hT
   ·rename_i D hD
    split at hT
    ·rename_i hc
     cases hT
     obtain ⟨a,ws,d',f',rfl,ha,ol⟩:=zvj o
     cases r
     exact qbq hu hg I o hD hc.1 hc.2 rfl q
    ·cases hT
   ·cases hT
  | tup xs=>
   dsimp only [zku] at hT
   split at hT
   ·rename_i D hD
    split at hT
    ·rename_i hc
     cases hT
     have o':=o
     rw [Own] at o'
     obtain ⟨a,ws,rfl,ha,ol⟩:=o'
     cases r
     exact qbq hu hg I o hD hc.1 hc.2 rfl q
    ·cases hT
   ·cases hT
  | scr ns=>cases hT
  | dct _=>cases hT
  | exn _=>cases hT
variable {e:Expr}{es:List Expr}{fa:Fa}{vs:List Nat}{p pos:Pos}
theorem qna (hu:X.A.units + 64 < cLine) (hgd:X.A.guards=some []) (hK:M.K=X.K) (hg:Gl X "str") (hm:X.mg "str" = none) (ha:PA X (e::es) (tL M fa vs)) (he:starEach (e::es) X.env=(false,eval e X.env)::starEach es X.env) (hpl:(backTo pos (starEach es X.env)).any (·.1)=false):
  PE X (.Call (.Name "str" p) (e::es) [] pos) (tE M (zqb zpf fa) vs):=by
 refine zqt (zkx (qhs hu hgd) hg hm rfl ha (he:=he) (hpl:=hpl)) λ σ H Q h=>zzd (λ xs z c ws H fps fp Q ho tm nz zd lf=>?_) h
 unfold zpf at ho
 split at ho
 ·rename_i x d
  obtain ⟨T,hT,eT⟩:=jb5.mp ho
  cases eT
  obtain ⟨v,r,f1,f2,rfl,rfl,_,o1,h2⟩:=tm
  obtain ⟨rfl,rfl⟩:=h2
  rw [hK] at o1
  exact ⟨x,_,v,_,f1,T,rfl,o1,hT,zke lf⟩
 ·cases ho
end
open PySem PySem.Spec PyProof.Rows L2 PySem.Builtin PySem.Builtin.ObjectAttr PySem.Builtin.Getset_descriptor
section
variable {prog:Program}{w:World}{A:Around}{E:Value->Shared->Prop}{K:Frag}{h:Heap}{g:Array GenState}{d:Drawn}{t:Nat}{os:OsState}{a C:Addr}{oe:Obj}
theorem qpa {R:Result->Shared->Prop} (X:K.In h) (he:h.get? a=some oe) (hc:oe.cls=.ref C) (hm:PySem.W.mroIn K C (.type "object")=some true) (hq:R (.ok (.ret (.ref C))) ⟨h,g,d,t,os⟩):
  codeAny (model prog w) A (.call (.builtin "getset_descriptor.__get__") ⟨[.builtin "object.__class__",.ref a,.ref C],[]⟩) R ⟨h,g,d,t,os⟩:=by
 have ty:PySem.W.Looks (model prog w) h (typeOf (.ref a)) (.ref C):=hc ▸ (PySem.W.Looks.ld he).andThen .now
 have mr:=PySem.W.looks_mroIn (M:=model prog w) X hm
 have pl:=PySem.W.KF.slot_gs.plain
 have en:=PySem.W.KF.entry_gs
 refine codeAny_call_builtin pl en (PySem.W.KF.slot_gs.check _ _ _ _ _ _ _ _
  PySem.W.KF.type_class (PySem.W.KF.args_gs _ _ _) ?_)
 unfold Builtin.«getset_descriptor.__get__»
 unfold descrGet
 rw [PySem.W.dga_obj]
 refine wpAny_bind (wpAny_pure ?_)
 unfold descrGetter descrCheckInstance
 unfold descrNameAndClass isInstance
 simp only [PySem.W.KF.owner_class]
 repeat lk
 refine ⟨Code.quiet_builtin _ (by decide +kernel),codeAny_builtin PySem.W.KF.entry_class ?_⟩
 unfold Builtin.«object.__class__»
 unfold shownTypeOf
 repeat lk
 exact hq
theorem qhq {tk:Tok}{Q:Fin->Shared->Prop} (X:K.In h) (he:h.get? a=some oe) (hc:oe.cls=.ref C) (hm:PySem.W.mroIn K C (.type "object")=some true) (hl:PySem.W.findIn K (.ref C) "__class__" = some (some (.builtin "object.__class__")))
  (hq:Q (.done (.ret (.ref C))) ⟨h,g,d,t,os⟩):wpAny (model prog w) A (Builtin.«object.__getattribute__» ⟨[.ref a,.str "__class__" tk],[]⟩) Q E ⟨h,g,d,t,os⟩:=by
 have hT5:(⟨h,g,d,t,os⟩:Shared).TypeIs (.builtin "object.__class__") "getset_descriptor" := F.typeOf_object_class
 have f5:=F.typeOf_object_class
 have f6:=F.slot_gs_get.lookup
 have f7:=F.slot_gs_set.lookup
 have L1:=PySem.W.looks_findIn (M:=model prog w) X hl
 repeat (any_goals (first | assumption | (with_reducible refine wpAny_loadPart_at he ?_;rw [hc]) | with_reducible refine L1.at ?_ | wp_step))
 refine qpa X he hc hm ?_
 repeat (any_goals (first | assumption | wp_step))
theorem qhr {nameV:Value}{Q:Unit->Shared->Prop}{M:Model} (X:K.In h) (he:h.get? a=some oe) (hc:oe.cls=.ref C) (hb:PySem.W.mroIn K C (.type "BaseException")=some true) (hq:Q () ⟨h,g,d,t,os⟩):
  wpAny M A (checkBuiltinCall "BaseException.__getattribute__" ⟨[.ref a,nameV],[]⟩) Q E ⟨h,g,d,t,os⟩:=by
 have hk:builtinKind "BaseException.__getattribute__" = some .slot:=by decide +kernel
 have hsp:splitId "BaseException.__getattribute__" = some ("BaseException","__getattribute__"):=by decide +kernel
 have ha:=F.args_bexc_ga (.ref a) nameV
 have L1:=PySem.W.looks_mroIn (M:=M) X hb
 simp only [checkBuiltinCall,hk,hsp]
 refine wpAny_bind ?_
 unfold isInstance
 repeat (first | (with_reducible refine wpAny_loadPart_at he ?_;rw [hc]) | with_reducible refine L1.at ?_ | wp_step)
 exact hq
theorem qqk {tk:Tok}{Q:Value->Shared->Prop} (X:K.In h) (he:h.get? a=some oe) (hc:oe.cls=.ref C) (hm:PySem.W.mroIn K C (.type "object")=some true) (hb:PySem.W.mroIn K C (.type "BaseException")=some true)
  (hl:PySem.W.findIn K (.ref C) "__class__" = some (some (.builtin "object.__class__"))) (hga:PySem.W.findIn K (.ref C) "__getattribute__" = some (some (.builtin "BaseException.__getattribute__"))) (hgh:PySem.W.findIn K (.ref C) "__getattr__" = some none)
  (hq:Q (.ref C) ⟨h,g,d,t,os⟩):wpAny (model prog w) A (getAttrBy (.ref a) (.str "__class__" tk) false) Q E ⟨h,g,d,t,os⟩:=by
 have f3:=PySem.F.attrBase_ValueError.ga.bind (.ref a)
 have L1:=PySem.W.looks_findIn (M:=model prog w) X hga
 have L2':=PySem.W.looks_findIn (M:=model prog w) X hgh
 have hx2:(Value.builtin "BaseException.__getattribute__" == Value.builtin "object.__getattribute__")=false:=by decide +kernel
 have hx1:(onTheHeap (Value.ref C) && Value.builtin "BaseException.__getattribute__" == Value.builtin "object.__getattribute__")=false:=by rw [hx2];rfl
 repeat (any_goals (first | assumption | (with_reducible refine wpAny_loadPart_at he ?_;rw [hc]) | with_reducible refine L1.at ?_ | with_reducible refine L2'.at ?_ | wp_step))
 refine codeAny_call_builtin PySem.F.attrBase_ValueError.ga.plain F.entry_bexc_ga (qhr X he hc hb (qhq X he hc hm hl ?_))
 repeat (any_goals (first | assumption | wp_step))
theorem qlr {Q:Option Value->Shared->Prop} (X:K.In h) (he:h.get? a=some oe) (hc:oe.cls=.ref C) (hm:PySem.W.mroIn K C (.type "object")=some true) (hb:PySem.W.mroIn K C (.type "BaseException")=some true)
  (hl:PySem.W.findIn K (.ref C) "__class__" = some (some (.builtin "object.__class__"))) (hga:PySem.W.findIn K (.ref C) "__getattribute__" = some (some (.builtin "BaseException.__getattribute__"))) (hgh:PySem.W.findIn K (.ref C) "__getattr__" = some none)
  (hq:Q (some (.ref C)) ⟨h,g,d,t + 1,os⟩):wpAny (model prog w) A (getAttr? (.ref a) "__class__") Q E ⟨h,g,d,t,os⟩:=by
 unfold getAttr?
 unfold getAttrBy?
 repeat (any_goals (first | assumption | with_reducible apply qqk X he hc hm hb hl hga hgh | wp_step))
end
def zyw (K:Frag) (C:Addr):Bool:=(PySem.W.clsIn K C).isSome && PySem.W.mroIn K C (.type "object") == some true && PySem.W.mroIn K C (.type "BaseException") == some true && PySem.W.findIn K (.ref C) "__class__" == some (some (.builtin "object.__class__")) &&
 PySem.W.findIn K (.ref C) "__getattribute__" == some (some (.builtin "BaseException.__getattribute__")) && PySem.W.findIn K (.ref C) "__getattr__" == some none
def clsV (K:Frag) (d:Nat) (u:Value):Bool:=(u == .type "ValueError" && d == 0) || (match zwu K d with
 | some D=>u == .ref D
 | none=>false)
def xKit (K:Frag):Bool:=PySem.W.kitOne K (.type "NoneType") (.type "ValueError") == some false && (jc2 12).all λ c=>match zwu K c with
 | some C=>zyw K C && PySem.W.kitOne K (.type "NoneType") (.ref C) == some false && PySem.W.kitOne K (.ref C) (.type "ValueError") == some true && (jc2 12).all λ d=>(match zwu K d with
  | some D=>PySem.W.kitOne K (.ref C) (.ref D) == some (isX c d)
  | none=>true)
 | none=>true
section
variable {K:Frag}{a C:Addr}{c d:Nat}{u:Value}
theorem zmf (t:xKit K=true) (e:zwu K c=some C):zyw K C=true/\PySem.W.kitOne K (.type "NoneType") (.ref C)=some false/\PySem.W.kitOne K (.ref C) (.type "ValueError")=some true/\∀ d D,zwu K d=some D->PySem.W.kitOne K (.ref C) (.ref D)=some (isX c d):=by
 unfold xKit at t
 rw [ja4] at t
 have h:=jb9.mp t.2 c (jd8.mpr (zjr e))
 rw [e] at h
 dsimp only at h
 simp only [ja4] at h
 refine ⟨h.1.1.1,eq_of_beq h.1.1.2,eq_of_beq h.1.2,λ d D ed=>?_⟩
 have h2:=jb9.mp h.2 d (jd8.mpr (zjr ed))
 rw [ed] at h2
 exact eq_of_beq h2
theorem qeo (t:xKit K=true) (e:zwu K c=some C) (hu:clsV K d u=true):PySem.W.kitOne K (.ref C) u=some (isX c d):=by
 obtain ⟨_,_,h3,h4⟩:=zmf t e
 unfold clsV at hu
 rw [je7] at hu
 rcases hu with hu | hu
 ·rw [ja4] at hu
  rw [eq_of_beq hu.1,h3,eq_of_beq hu.2]
  simp [isX]
 ·split at hu
  ·rename_i D hD
   rw [eq_of_beq hu]
   exact h4 d D hD
  ·cases hu
theorem qen (t:xKit K=true) (hu:clsV K d u=true):PySem.W.kitOne K (.type "NoneType") u=some false:=by
 unfold clsV at hu
 rw [je7] at hu
 rcases hu with hu | hu
 ·rw [ja4] at hu
  rw [eq_of_beq hu.1]
  unfold xKit at t
  rw [ja4] at t
  exact eq_of_beq t.1
 ·split at hu
  ·rename_i D hD
   rw [eq_of_beq hu]
   exact (zmf t hD).2.1
  ·cases hu
def zbz (K:Frag):List Nat->List Value->Bool
 | [],[]=>true
 | d::ds,u::us=>clsV K d u && zbz K ds us
 | _,_=>false
theorem qbe (t:xKit K=true) (e:zwu K c=some C):∀ {ds:List Nat}{us:List Value},zbz K ds us=true->PySem.W.kitAny K (.ref C) us=some (ds.any (isX c))
 | [],[],_=>rfl
 | [],_::_,h=>by cases h
 | _::_,[],h=>by cases h
 | d::ds,u::us,h=>by
  unfold zbz at h
  rw [ja4] at h
  unfold PySem.W.kitAny
  rw [qeo t e h.1,List.any_cons]
  cases isX c d with
  | true=>rfl
  | false=>exact qbe t e h.2
theorem qbd (t:xKit K=true):∀ {ds:List Nat}{us:List Value},zbz K ds us=true->PySem.W.kitAny K (.type "NoneType") us=some false
 | [],[],_=>rfl
 | [],_::_,h=>by cases h
 | _::_,[],h=>by cases h
 | d::ds,u::us,h=>by
  unfold zbz at h
  rw [ja4] at h
  unfold PySem.W.kitAny
  rw [qen t h.1]
  exact qbd t h.2
theorem qfm (g:zyw K C=true):∃ c0 dd cd sl,K.lookup C=some ⟨c0,dd,.cls cd,sl⟩:=by
 unfold zyw at g
 simp only [ja4] at g
 have h:=g.1.1.1.1.1
 unfold PySem.W.clsIn at h
 split at h
 ·rename_i q;exact ⟨_,_,_,_,q⟩
 ·cases h
theorem qbf (g:zyw K C=true):PySem.W.KitX K (.ref a) (.ref C) (zjg a C):=by
 obtain ⟨c0,dd,cd,sl,hl⟩:=qfm g
 unfold zyw at g
 simp only [ja4] at g
 obtain ⟨⟨⟨⟨⟨_,g1⟩,g2⟩,g3⟩,g4⟩,g5⟩:=g
 refine ⟨λ M h _ p=>?_,λ M h X _=>?_,λ h tp dd' its n sl' X htp=>?_,λ {prog w A E Q s} X p k=>?_⟩
 ·obtain ⟨o,vs,h1,h2,_⟩:=p
  exact h2 ▸ (PySem.W.Looks.ld h1).andThen .now
 ·intro A' Q' E' s' kp q
  unfold isType
  unfold loadHead
  exact wpAny_bind (wpAny_loadPart (kp _ _ (X _ _ hl)) (wpAny_pure q))
 ·cases hb:(Value.ref C == Value.ref tp) with
  | false=>rfl
  | true=>
   have ec:C=tp:=Value.ref.inj (eq_of_beq hb)
   have z:=X _ _ hl
   rw [ec,htp] at z
   cases z
 ·obtain ⟨o,vs,h1,h2,_⟩:=p
  obtain ⟨hp,gg,dr,tt,oo⟩:=s
  exact qlr X h1 h2 (eq_of_beq g1) (eq_of_beq g2) (eq_of_beq g3) (eq_of_beq g4) (eq_of_beq g5) k
end
section
variable {X:Cx}
def IsQ (K:Frag) (v:V) (H:Hp) (Q:VK) (ds:List Nat):Prop:=(v=.non/\Q (.bl false) H)\/∃ a C c,v=.ref a/\zwu K c=some C/\H a=some (.ext (zjg a C))/\Q (.bl (ds.any (isX c))) H
theorem qbm {pins:List (Addr×Obj)}{σ:St}{H:Hp}{s:Shared}{a C:Addr} (I:L2.Inv X pins σ H s) (h:H a=some (.ext (zjg a C))):zjg a C s.heap:=(I.hok a _ h).1
theorem qfv (t:xKit X.K=true):zwz X (.builtin "isinstance") (λ xs H Q=>∃ v cv d,xs=[v,cv]/\(∀ u,RelV cv u->clsV X.K d u=true)/\IsQ X.K v H Q [d]):=by
 intro pins s σ H xs us Q I r h
 obtain ⟨v,cv,d,rfl,hcv,h⟩:=h
 obtain ⟨u,w,rfl,r1,r2⟩:=qcr r
 have hw:=hcv w r2
 rcases h with ⟨rfl,q⟩ | ⟨a,C,c,rfl,hC,ha,q⟩
 ·cases r1
  exact PySem.W.kia_one PySem.W.kitx_none I.kIn True.intro (qen t hw) (λ z=>nomatch z) λ tk=>⟨.bl false,H,I.tok _,rfl,q⟩
 ·obtain rfl:u=Value.ref a:=r1
  exact PySem.W.kia_one (qbf (zmf t hC).1) I.kIn (qbm I ha) (qeo t hC hw) (λ z=>nomatch z) λ tk=>⟨.bl (isX c d),H,I.tok _,rfl,by simpa using q⟩
theorem qco (t:xKit X.K=true):zwz X (.builtin "isinstance") (λ xs H Q=>∃ v p cvs ds,xs=[v,.ref p]/\H p=some (.tup cvs)/\(∀ us,Vals cvs us->zbz X.K ds us=true)/\IsQ X.K v H Q ds):=by
 intro pins s σ H xs us Q I r h
 obtain ⟨v,p,cvs,ds,rfl,hp,hcv,h⟩:=h
 obtain ⟨u,w,rfl,r1,r2⟩:=qcr r
 obtain rfl:w=Value.ref p:=r2
 obtain ⟨_,its,rv,o,ho,hc,n,hd⟩:=I.hok p _ hp
 have hi:=hcv its rv
 have ho':s.heap.get? p=some ⟨.type "tuple",o.dict,.seq its.toArray n,o.slots⟩:=by
  rw [ho]
  obtain ⟨oc,od,oda,os⟩:=o
  dsimp only at hc hd
  rw [hc,hd]
 rcases h with ⟨rfl,q⟩ | ⟨a,C,c,rfl,hC,ha,q⟩
 ·cases r1
  exact PySem.W.kia_tup PySem.W.kitx_none I.kIn True.intro ho' (qbd t hi) (λ z=>nomatch z) λ tk=>⟨.bl false,H,I.tok _,rfl,q⟩
 ·obtain rfl:u=Value.ref a:=r1
  exact PySem.W.kia_tup (qbf (zmf t hC).1) I.kIn (qbm I ha) ho' (qbe t hC hi) (λ z=>nomatch z) λ tk=>⟨.bl (ds.any (isX c)),H,I.tok _,rfl,q⟩
end
section
variable {X:Cx}{M:Fm}{f g:Fx}{vs vs':List Nat}{e:Expr}{es:List Expr}{pos p:Pos}{σ:St}{H:Hp}{Q:VK}
def zwl (ds:List Nat) (x:PV) (_:Nat):Option (PV×Nat):=match x with
 | .exn c=>some (.bl (ds.any (isX c)),om)
 | .non=>some (.bl false,om)
 | _=>none
theorem qiw {K:Frag}{x z:PV}{ds:List Nat}{d c:Nat}{v:V}{Z:Addr->Prop}{H H':Hp}{f1:List Addr} (ho:zwl ds x d=some (z,c)) (o1:Own K H Z x d v f1) (k:∀ a o,H a=some o->H' a=some o) (q:∀ b,z=.bl b->Q (.bl b) H'):IsQ K v H' Q ds:=by
 cases x with
 | exn n=>
  cases ho
  rw [Own] at o1
  obtain ⟨_,a,C,rfl,hC,ha⟩:=o1
  exact .inr ⟨a,C,n,rfl,hC,k _ _ ha,q _ rfl⟩
 | non=>
  cases ho
  rw [Own] at o1
  obtain ⟨rfl,_⟩:=o1
  exact .inl ⟨rfl,q _ rfl⟩
 | _=>cases ho
theorem zgl {ds:List Nat}{x z:PV}{d c:Nat} (ho:zwl ds x d=some (z,c)):∃ b,z=.bl b/\c=om:=by
 cases x with
 | exn n=>cases ho;exact ⟨_,rfl,rfl⟩
 | non=>cases ho;exact ⟨_,rfl,rfl⟩
 | _=>cases ho
theorem qj7 {cv:V}{d:Nat}{T':Str}{p1 p2:Pos} (t:xKit X.K=true) (hK:M.K=X.K) (ha:PE X e (tE M f vs)) (hg:Gl X "isinstance") (hm:X.mg "isinstance" = none) (hc:PE X (.Name T' p2) (tC cv)) (hcv:∀ u,RelV cv u->clsV X.K d u=true)
  (hs1:starEach [e,.Name T' p2] X.env=[(false,eval e X.env),(false,eval (.Name T' p2) X.env)]) (hs2:starEach [Expr.Name T' p2] X.env=[(false,eval (.Name T' p2) X.env)]):
  PE X (.Call (.Name "isinstance" p1) [e,.Name T' p2] [] pos) (tE M (bUn (zwl [d]) f) vs):=by
 refine zqt (zzt (qfv t) hg hm rfl (zwp ha (zwp hc zky hs2) (by rw [hs1,hs2])) (he:=by rw [hs1,hs2]) (hpl:=by rw [hs2];rfl)) λ σ H Q h=>?_
 refine zhr (r:=λ v H Q=>∃ x c n,[v,cv]=[x,c]/\(∀ u,RelV c u->clsV X.K n u=true)/\IsQ X.K x H Q [n]) (λ x d' z c v H fps f1 Q ho o1 nz zd lf=>?_) h
 obtain ⟨b,rfl,rfl⟩:=zgl ho
 exact ⟨v,cv,d,rfl,hcv,by rw [<- hK];exact qiw ho o1 (λ _ _ h=>h) λ b' e=>by cases e;exact zwt lf⟩
def tVs (cvs:List V):TA:=λ _ H Q=>Q cvs H
theorem qgj {cvs:List V}{ds:List Nat}{p1 p2:Pos}{k:Nat} (t:xKit X.K=true) (hK:M.K=X.K) (ha:PE X e (tE M f vs)) (hg:Gl X "isinstance") (hm:X.mg "isinstance" = none) (hc:PA X es (tVs cvs)) (hl:cvs.length<=sizeLine) (hcv:∀ us,Vals cvs us->zbz X.K ds us=true)
  (hs1:starEach [e,.Tuple es k p2] X.env=[(false,eval e X.env),(false,eval (.Tuple es k p2) X.env)]) (hs2:starEach [Expr.Tuple es k p2] X.env=[(false,eval (.Tuple es k p2) X.env)]):
  PE X (.Call (.Name "isinstance" p1) [e,.Tuple es k p2] [] pos) (tE M (bUn (zwl ds) f) vs):=by
 refine zqt (zzt (qco t) hg hm rfl (zwp ha (zwp (qio hc) zky hs2) (by rw [hs1,hs2])) (he:=by rw [hs1,hs2]) (hpl:=by rw [hs2];rfl)) λ σ H Q h=>?_
 refine zhr (r:=λ v H Q=>cvs.length<=sizeLine/\∀ q,H q=none->∃ x p' cvs' ds',[v,V.ref q]=[x,.ref p']/\upd H q (.tup cvs) p'=some (.tup cvs')/\(∀ us,Vals cvs' us->zbz X.K ds' us=true)/\IsQ X.K x (upd H q (.tup cvs)) Q ds') (λ x d' z c v H fps f1 Q ho o1 nz zd lf=>?_) h
 obtain ⟨b,rfl,rfl⟩:=zgl ho
 refine ⟨hl,λ q hq=>⟨v,q,cvs,ds,rfl,zqv,hcv,?_⟩⟩
 have kk:∀ a o,H a=some o->upd H q (.tup cvs) a=some o:=λ a o h=>by rw [zqp (λ z=>by rw [z,hq] at h;cases h)];exact h
 rw [<- hK]
 exact qiw ho o1 kk λ b' e=>by cases e;exact lf (.bl b) _ [] kk (by rw [Own];exact ⟨rfl,rfl⟩) (λ _ z=>nomatch z)
end
section
variable {X:Cx}{M:Fm}{a b:Expr}{f g:Fx}{fa:Fa}{vs vs':List Nat}{pos p:Pos}{σ:St}{H:Hp}{Q:VK}{e:Expr}{es:List Expr}
def opIn (neg:Bool) (x:PV) (_:Nat) (y:PV) (_:Nat):Option (PV×Nat):=match x,y with
 | x,.lst ys=>(match toD 20 x,toDL (toD 20) ys with
  | some a,some bs=>some (.bl (neg^^bs.any λ b=>PyData.eqv b a),om)
  | _,_=>none)
 | x,.tup ys=>(match toD 20 x,toDL (toD 20) ys with
  | some a,some bs=>some (.bl (neg^^bs.any λ b=>PyData.eqv b a),om)
  | _,_=>none)
 | _,_=>none
def sqv (tp:Bool) (ys:List PV):PV:=match tp with
 | true=>.tup ys
 | false=>.lst ys
def sqd (tp:Bool) (ys:List PyData):PyData:=match tp with
 | true=>.tuple ys
 | false=>.list ys
def rInD (K:Frag) (neg:Bool):R2:=λ v w H Q=>∃ tp x ys d e Z Z' f1 f2 a bs,toD 20 x=some a/\toDL (toD 20) ys=some bs/\Own K H Z x d v f1/\Own K H Z' (sqv tp ys) e w f2/\Q (.bl (neg^^bs.any λ b=>PyData.eqv b a)) H
theorem qic {tp:Bool}{ys:List PV}{bs:List PyData} (h:toDL (toD 20) ys=some bs):toD 21 (sqv tp ys)=some (sqd tp bs):=by
 cases tp with
 | true=>
  show (toDL (toD 20) ys).map PyData.tuple=_
  rw [h]
  rfl
 | false=>
  show (toDL (toD 20) ys).map PyData.list=_
  rw [h]
  rfl
theorem qoe (hu:X.A.units + 64 < cLine):OpR X (compareOp .In) (rInD X.K false):=by
 intro pins s σ H v w u u' Q I rx ry h
 obtain ⟨tp,x,ys,d,e,Z,Z',f1,f2,a,bs,h1,h2,o1,o2,q⟩:=h
 obtain ⟨as,ra⟩:=zww I 20 x d v f1 u a h1 o1 rx
 obtain ⟨bs',rb⟩:=zww I 21 (sqv tp ys) e w f2 u' _ (qic h2) o2 ry
 have l1:=zwo 20 x a h1
 have l2:=zks (λ x D h=>zwo 20 x D h) h2
 have hm:X.A.units + 1 + min (PyData.depthAll bs) a.depth < cLine:=by have:=jm2 (PyData.depthAll bs) a.depth;omega
 cases tp with
 | false=>exact SeqAt.in_list_reads rb ra l2.1 l1.1 hm ⟨.bl _,H,I,rfl,by simpa using q⟩
 | true=>exact SeqAt.in_tuple_reads rb ra l2.1 l1.1 hm ⟨.bl _,H,I,rfl,by simpa using q⟩
theorem qd5 (hu:X.A.units + 64 < cLine):OpR X (compareOp .NotIn) (rInD X.K true):=by
 intro pins s σ H v w u u' Q I rx ry h
 obtain ⟨tp,x,ys,d,e,Z,Z',f1,f2,a,bs,h1,h2,o1,o2,q⟩:=h
 obtain ⟨as,ra⟩:=zww I 20 x d v f1 u a h1 o1 rx
 obtain ⟨bs',rb⟩:=zww I 21 (sqv tp ys) e w f2 u' _ (qic h2) o2 ry
 have l1:=zwo 20 x a h1
 have l2:=zks (λ x D h=>zwo 20 x D h) h2
 have hm:X.A.units + 1 + min (PyData.depthAll bs) a.depth < cLine:=by have:=jm2 (PyData.depthAll bs) a.depth;omega
 cases tp with
 | false=>exact SeqAt.notIn_list_reads rb ra l2.1 l1.1 hm ⟨.bl _,H,I,rfl,by simpa using q⟩
 | true=>exact SeqAt.notIn_tuple_reads rb ra l2.1 l1.1 hm ⟨.bl _,H,I,rfl,by simpa using q⟩
theorem qbc {x y z:PV}{d e c:Nat}{v w:V}{fps:Fps}{f1 f2 F:List Addr}{Z Z':Addr->Prop}{neg:Bool} (hK:M.K=X.K) (ho:opIn neg x d y e=some (z,c)) (o1:Own M.K H Z x d v f1) (o2:Own M.K H Z' y e w f2) (lf:Leaf M H fps vs F z c Q):rInD X.K neg v w H Q:=by
 unfold opIn at ho
 split at ho
 ·rename_i ys
  split at ho
  ·rename_i a bs ea eb
   cases ho
   rw [hK] at o1
   rw [hK] at o2
   exact ⟨false,_,ys,d,e,Z,Z',f1,f2,a,bs,ea,eb,o1,o2,zwt lf⟩
  ·cases ho
 ·rename_i ys
  split at ho
  ·rename_i a bs ea eb
   cases ho
   rw [hK] at o1
   rw [hK] at o2
   exact ⟨true,_,ys,d,e,Z,Z',f1,f2,a,bs,ea,eb,o1,o2,zwt lf⟩
  ·cases ho
 ·cases ho
def bDct:Fx:=λ ρ=>.ok (.dct [],om,ρ)
theorem qnh:PE X (.Dict [] [] pos) (tE M bDct []):=by
 refine zqt qgt λ σ H Q h p hp=>?_
 obtain ⟨ρ,fps,rep,q⟩:=h
 refine q (.ref p) _ fps [p] (KD.grow (zxr hp)) Agr.refl (rep.grow (zxr hp)) ?_ ⟨λ a ha=>by rw [jb8.mp ha];exact hp,λ a ha=>by rw [jb8.mp ha];exact rep.nz hp⟩
 rw [Own]
 exact ⟨p,rfl,.inr ⟨by decide,zqv,rfl⟩⟩
end
structure Sx where
 N:List Str
 sc:Scope
 ms:List Nat
 al:List (List Nat)
 Γ:List (Str×(Bool×Nat×Fn))
 Γm:List (Str×Fn)
 rz:Bool
 xc:List Nat
 pn:List Nat
def Sx.alF (S:Sx) (i:Nat):List Nat:=S.al.getD i []
def Sx.msF (S:Sx) (i:Nat):Bool:=S.ms.contains i
def zwm (sc:Scope) (x:Str) (k:NameKind):Bool:=sc.names.lookup x == some k
def visB (sc:Scope) (x:Str):Bool:=zwm sc x .local || zwm sc x .cell || zwm sc x .free
def ixOf (N:List Str) (x:Str):Option Nat:=N.findIdx? (·== x)
def Sx.slot (S:Sx) (x:Str):Option Nat:=if visB S.sc x && !(x == ("__debug__" : Str)) && !(x == ("__classdict__" : Str)) then ixOf S.N x else none
def Sx.glob (S:Sx) (x:Str):Bool:=zwm S.sc x .globalImplicit
def zvx:List Str:=["len","isinstance","all","max","min","tuple","list","range","int","bool","str","dict","sum","enumerate","zip","reversed","set","ValueError","sorted","abs"]
structure XS (X:Cx) (P:Program) (w:World) (K:Frag) (mg:Str->Option Value) (base:Heap) (lvl:Nat) (S:Sx) (Wx:St->Nat->Hp->Prop):Prop where
 prog:X.prog=P
 w:X.w=w
 K:X.K=K
 mg:X.mg=mg
 base:X.base=base
 N:X.N=S.N
 sc:X.env.scope=S.sc
 calm:X.calm=true
 room:Room lvl X.A
 po:PassesOwn (model X.prog X.w) X.A X.env X.xe
 ps:zpd (CXr X.prog X.w X.K) X Wx
 rs:S.rz=true->qap X Wx
structure MS (M:Fm) (K:Frag) (S:Sx) (Wx:St->Nat->Hp->Prop):Prop where
 K:M.K=K
 ms:M.Ms=S.msF
 al:∀ i,i < S.N.length->M.al i=S.alF i
 als:∀ i,∀ j∈M.al i,M.Ms j=false
 W:M.W=Wx
 pn:∀ p∈M.pn,p.1 < S.N.length
def GSm (P:Program) (w:World) (K:Frag) (mg:Str->Option Value) (base:Heap) (lvl:Nat) (Γm:List (Str×Fn)):Prop:=
 ∀ x F,Γm.lookup x=some F->(x == ("__debug__" : Str))=false/\∃ fa fd ps,mg x=some (.ref fa)/\PySem.W.keepIn K (.ref fa)=true/\qaq K fd ps []/\FnOk P w K mg base (CXr P w K) lvl fa fd ps (spM K F)
def GX (K:Frag) (mg:Str->Option Value) (xc:List Nat):Prop:=xc≠[]->xTab K=true/\xKit K=true/\∀ c∈xc,∃ x C,XN[c]?=some x/\zwu K c=some C/\mg x=some (.ref C)/\(x == ("__debug__" : Str))=false
def GS (P:Program) (w:World) (K:Frag) (mg:Str->Option Value) (base:Heap) (lvl:Nat) (Γ:List (Str×(Bool×Nat×Fn))):Prop:=
 (∀ x∈zvx,mg x=none)/\∀ x io n F,Γ.lookup x=some (io,n,F)->(x == ("__debug__" : Str))=false/\(∀ xs,xs.length≠n->F xs=.no) /\
  ∃ fa fd ps,mg x=some (.ref fa)/\PySem.W.keepIn K (.ref fa)=true/\qaq K fd ps []/\ps.length=n/\FnOk P w K mg base (CXr P w K) lvl fa fd ps (spF K io n F)
section
variable {X:Cx}{P:Program}{w:World}{K:Frag}{mg:Str->Option Value}{base:Heap}{lvl:Nat}{S:Sx}{Wx:St->Nat->Hp->Prop}{M:Fm}
theorem zxv {sc:Scope}{x:Str}{k:NameKind} (h:zwm sc x k=true):sc.names.lookup x=some k:=by
 unfold zwm at h
 exact eq_of_beq h
theorem qh9 {sc:Scope}{x:Str} (h:visB sc x=true):Vis sc x:=by
 unfold visB at h
 rw [je7,je7] at h
 rcases h with (h | h) | h
 ·exact .inl (zxv h)
 ·exact .inr (.inl (zxv h))
 ·exact .inr (.inr (zxv h))
theorem zjo {N:List Str}{x:Str}{i:Nat} (h:ixOf N x=some i):N[i]?=some x:=by
 unfold ixOf at h
 rw [jj2] at h
 obtain ⟨hi,e,_⟩:=h
 have:N[i]=x:=eq_of_beq e
 rw [ja3 hi,this]
theorem XS.var (xs:XS X P w K mg base lvl S Wx) {x:Str}{i:Nat}{pos:Pos} (h:S.slot x=some i):PE X (.Name x pos) (tVar i):=by
 unfold Sx.slot at h
 split at h
 ·rename_i hc
  simp only [ja4,jh3] at hc
  exact qin (by rw [xs.N];exact zjo h) (by rw [xs.sc];exact qh9 hc.1.1) hc.1.2 hc.2
 ·cases h
theorem XS.gl (xs:XS X P w K mg base lvl S Wx) {x:Str} (h:S.glob x=true):Gl X x:=by
 show X.env.scope.names.lookup x=_
 rw [xs.sc]
 exact zxv h
theorem zxa {e:Expr}{es:List Expr}{env:Env} (h:∀ x p,e≠.Starred x p):starEach (e::es) env=(false,eval e env)::starEach es env:=by
 cases e with
 | Starred x p=>exact absurd rfl (h x p)
 | _=>rfl
def zbi:Expr->Bool
 | .Starred _ _=>false
 | _=>true
theorem zqo {e:Expr} (h:zbi e=true):∀ x p,e≠.Starred x p:=λ x p z=>by rw [z] at h;cases h
theorem zmk {env:Env}{pos:Pos}:∀ {es:List Expr},es.all zbi=true->(backTo pos (starEach es env)).any (·.1)=false
 | [],_=>rfl
 | e::es,h=>by
  rw [jf4,ja4] at h
  rw [zxa (zqo h.1)]
  show (false || (backTo pos (starEach es env)).any (·.1))=false
  rw [zmk h.2]
  rfl
def zfd:Expr->Bool
 | .Slice _ _ _ _=>false
 | _=>true
theorem zkb {b:Expr} (h:zfd b=true):zfv b:=by
 intro o i
 cases b with
 | Slice _ _ _ _=>cases h
 | _=>rfl
def qp8:Expr->Bool
 | .List _ _=>true
 | _=>false
def qp4:Expr->Bool
 | .List es _=>es.any qp8
 | _=>false
def qpc (b:Expr):Operator->Option (PV->Nat->PV->Nat->Option (PV×Nat))
 | .Add=>some (if qp4 b=true then zpk else zqf)
 | .Sub=>some zzz
 | .Mult=>some zxx
 | .FloorDiv=>some zwd
 | .Mod=>some zxh
 | .Pow=>some zjd
 | _=>none
theorem qpu {a b:Expr}{op:Operator}{o:PV->Nat->PV->Nat->Option (PV×Nat)}{f g:Fx}{vs vs':List Nat}{pos:Pos} (h:qpc b op=some o) (hv:∀ i∈vs,M.Ms i=false) (hK:M.K=X.K) (ha:PE X a (tE M f vs)) (hb:PE X b (tE M g vs')):PE X (.BinOp a op b pos) (tE M (bBin o f g) (vs++vs')):=by
 cases op <;> cases h
 ·split
  ·exact qka hv hK ha hb
  ·exact qnk hv hK ha hb
 ·exact qav qku (λ _ _ _=>trivial) hv ha hb
 ·exact qnc hv ha hb
 ·exact qav qob (λ _ _=>cMod) hv ha hb
 ·exact qav qn8 (λ _ _=>cPow) hv ha hb
 ·exact qav qgy (λ _ _=>cDiv) hv ha hb
def isNm:Expr->Bool
 | .Set _ _ _=>false
 | _=>true
def qlq (b:Expr):CmpOp->Option (PV->Nat->PV->Nat->Option (PV×Nat))
 | .Lt=>some (zxq λ i j=>decide (i < j))
 | .LtE=>some (zxq λ i j=>decide (i<=j))
 | .Gt=>some (zxq λ i j=>decide (j < i))
 | .GtE=>some (zxq λ i j=>decide (j<=i))
 | .Eq=>some (opEq false)
 | .NotEq=>some (opEq true)
 | .In=>if isNm b=true then some (opIn false) else none
 | .NotIn=>if isNm b=true then some (opIn true) else none
 | _=>none
theorem qey {op:CmpOp}{b:Expr} (h:isNm b=true):behindInMarks op b=false:=by
 cases b with
 | Set _ _ _=>cases h
 | _=>rfl
theorem qho {op:CmpOp}{o:PV->Nat->PV->Nat->Option (PV×Nat)}{f g:Fx}{vs vs':List Nat}{b:Expr} (h:qlq b op=some o) (hu:X.A.units + 64 < cLine) (hv:∀ i∈vs,M.Ms i=false) (hK:M.K=X.K):
  ∃ r,OpR X (compareOp op) r/\behindInMarks op b=false/\∀ σ H Q,tE M (bBin o f g) (vs++vs') σ H Q->tOp r (tE M f vs) (tE M g vs') σ H Q:=by
 cases op
 ·cases h;exact ⟨_,qoh hu,zze _ (by decide) (by decide),λ σ H Q h=>zzs hv (λ x d y e z c v w H fps f1 f2 Q ho o1 o2 dj nz zd lf=>qbb hK ho o1 o2 lf) h⟩
 ·cases h;exact ⟨_,qn9 hu,zze _ (by decide) (by decide),λ σ H Q h=>zzs hv (λ x d y e z c v w H fps f1 f2 Q ho o1 o2 dj nz zd lf=>qbb hK ho o1 o2 lf) h⟩
 ·cases h;exact ⟨_,qoc,zze _ (by decide) (by decide),λ σ H Q h=>zzs hv (λ x d y e z c v w H fps f1 f2 Q ho o1 o2 dj nz zd lf=>zjn ho o1 o2 lf) h⟩
 ·cases h;exact ⟨_,qod,zze _ (by decide) (by decide),λ σ H Q h=>zzs hv (λ x d y e z c v w H fps f1 f2 Q ho o1 o2 dj nz zd lf=>zjn ho o1 o2 lf) h⟩
 ·cases h;exact ⟨_,qof,zze _ (by decide) (by decide),λ σ H Q h=>zzs hv (λ x d y e z c v w H fps f1 f2 Q ho o1 o2 dj nz zd lf=>zjn ho o1 o2 lf) h⟩
 ·cases h;exact ⟨_,qog,zze _ (by decide) (by decide),λ σ H Q h=>zzs hv (λ x d y e z c v w H fps f1 f2 Q ho o1 o2 dj nz zd lf=>zjn ho o1 o2 lf) h⟩
 ·cases h
 ·cases h
 ·replace h:(if isNm b=true then some (opIn false) else none)=some o:=h
  split at h
  ·rename_i hb
   cases h
   exact ⟨_,qoe hu,qey hb,λ σ H Q h=>zzs hv (λ x d y e z c v w H fps f1 f2 Q ho o1 o2 dj nz zd lf=>qbc hK ho o1 o2 lf) h⟩
  ·cases h
 ·replace h:(if isNm b=true then some (opIn true) else none)=some o:=h
  split at h
  ·rename_i hb
   cases h
   exact ⟨_,qd5 hu,qey hb,λ σ H Q h=>zzs hv (λ x d y e z c v w H fps f1 f2 Q ho o1 o2 dj nz zd lf=>qbc hK ho o1 o2 lf) h⟩
  ·cases h
def icmp:CmpOp->Option (Int->Int->Bool)
 | .Lt=>some λ i j=>decide (i < j)
 | .LtE=>some λ i j=>decide (i<=j)
 | .Gt=>some λ i j=>decide (j < i)
 | .GtE=>some λ i j=>decide (j<=i)
 | .Eq=>some λ i j=>decide (i=j)
 | _=>none
theorem qkv:OpR X (compareOp .Eq) (rI0 λ i j=>.bl (decide (i=j))):=λ pins s σ H x y v u Q I rx ry h=>qp3 pins s σ H x y v u Q I rx ry (by
 obtain ⟨i,j,rfl,rfl,q⟩:=h
 refine ⟨rfl,?_⟩
 rw [qfb]
 exact q)
theorem zgr {op:CmpOp}{p:Int->Int->Bool} (h:icmp op=some p):OpR X (compareOp op) (rI0 λ i j=>.bl (p i j))/\op≠.In/\op≠.NotIn:=by
 cases op <;> cases h
 ·exact ⟨qkv,by decide,by decide⟩
 ·exact ⟨qoc,by decide,by decide⟩
 ·exact ⟨qod,by decide,by decide⟩
 ·exact ⟨qof,by decide,by decide⟩
 ·exact ⟨qog,by decide,by decide⟩
def zyf (p q:Int->Int->Bool) (f g h:Fx):Fx:=λ ρ=>(f ρ).bind λ (x,_,ρ1)=>(g ρ1).bind λ (y,_,ρ2)=>match x,y with
 | .int i,.int j=>if p i j=true then (h ρ2).bind λ (z,_,ρ3)=>(match z with
  | .int k=>.ok (.bl (q j k),om,ρ3)
  | _=>.no) else .ok (.bl false,om,ρ2)
 | _,_=>.no
theorem qat {p q:Int->Int->Bool}{f g h:Fx}{vs v1 v2 v3:List Nat}{σ:St}{H:Hp}{Q:VK} (hq:tE M (zyf p q f g h) vs σ H Q):qc8 (rI0 λ i j=>.bl (p i j)) (rI0 λ i j=>.bl (q i j)) (tE M f v1) (tE M g v2) (tE M h v3) σ H Q:=by
 obtain ⟨ρ,fps,rep,qq⟩:=hq
 refine ⟨ρ,fps,rep,?_⟩
 unfold zyf at qq
 cases ef:f ρ with
 | no=>rw [ef] at qq;exact qq
 | exc c=>rw [ef] at qq;exact qq
 | ok p0=>
  obtain ⟨x,d,ρ1⟩:=p0
  rw [ef] at qq
  intro v H1 fps1 f1 k1 g1 rep1 o1 t1
  refine ⟨ρ1,fps1,rep1,?_⟩
  dsimp only [Rz.bind] at qq
  cases eg:g ρ1 with
  | no=>rw [eg] at qq;exact qq
  | exc c=>rw [eg] at qq;exact λ H' fps' k=>qq H' fps' (k1.trans k)
  | ok p2=>
   obtain ⟨y,e,ρ2⟩:=p2
   rw [eg] at qq
   intro w H2 fps2 f2 k2 g2 rep2 o2 t2
   cases x with
   | int i=>
    cases y with
    | int j=>
     dsimp only at qq
     rw [Own] at o1 o2
     obtain ⟨rfl,rfl⟩:=o1
     obtain ⟨rfl,rfl⟩:=o2
     refine ⟨i,j,rfl,rfl,p i j,rfl,?_⟩
     by_cases hp:p i j=true
     ·rw [if_pos hp] at qq ⊢
      refine ⟨ρ2,fps2,rep2,?_⟩
      cases eh:h ρ2 with
      | no=>rw [eh] at qq;exact qq
      | exc c=>rw [eh] at qq;exact λ H' fps' k=>qq H' fps' ((k1.trans k2).trans k)
      | ok p3=>
       obtain ⟨z,c,ρ3⟩:=p3
       rw [eh] at qq
       intro u H3 fps3 f3 k3 g3 rep3 o3 t3
       cases z with
       | int k=>
        dsimp only at qq
        rw [Own] at o3
        obtain ⟨rfl,rfl⟩:=o3
        exact ⟨j,k,rfl,rfl,qq _ H3 fps3 [] ((k1.trans k2).trans k3) ((g1.trans g2).trans g3) rep3 (by rw [Own];exact ⟨rfl,rfl⟩) ⟨λ _ z=>(nomatch z),λ _ z=>nomatch z⟩⟩
       | _=>exact qq.elim
     ·rw [if_neg hp] at qq ⊢
      exact qq _ H2 fps2 [] (k1.trans k2) (g1.trans g2) rep2 (by rw [Own];exact ⟨rfl,rfl⟩) ⟨λ _ z=>(nomatch z),λ _ z=>nomatch z⟩
    | _=>exact qq.elim
   | _=>exact qq.elim
def zxp (f g:Fx):Fx:=λ ρ=>(f ρ).bind λ (x,_,ρ1)=>match x with
 | .bl true=>g ρ1
 | .bl false=>.ok (.bl false,om,ρ1)
 | _=>.no
def bOrV (f g:Fx):Fx:=λ ρ=>(f ρ).bind λ (x,_,ρ1)=>match x with
 | .bl true=>.ok (.bl true,om,ρ1)
 | .bl false=>g ρ1
 | _=>.no
def zqy:PV->Nat->Option (PV×Nat)
 | .bl b,_=>some (.bl (!b),om)
 | _,_=>none
variable {f g:Fx}{vs vs':List Nat}{σ:St}{H:Hp}{Q:VK}
theorem qc5 {f:Fx}{ρ ρ1:Rho}{fps fps1:Fps}{H H1:Hp} (k1:KD M H fps H1 fps1) (g1:Agr M ρ ρ1) (rep1:Rep M ρ1 σ H1 fps1) (hs:∀ i∈vs,i∈vs')
  (q:match f ρ1 with
   | .ok (x,d,ρ')=>∀ v H' fps' fp,KD M H fps H' fps'->Agr M ρ ρ'->Rep M ρ' σ H' fps'->Own M.K H' (Zt M vs' fps' fp) x d v fp->Temp M vs' H H' fps' fp->Q v H'
   | .exc c=>∀ H' fps',KD M H fps H' fps'->M.W σ c H'
   | .no=>False):tE M f vs σ H1 Q:=by
 refine ⟨ρ1,fps1,rep1,?_⟩
 cases eg:f ρ1 with
 | no=>rw [eg] at q;exact q
 | exc c=>rw [eg] at q;exact λ H' fps' k=>q H' fps' (k1.trans k)
 | ok p2=>
  obtain ⟨x,d,ρ2⟩:=p2
  rw [eg] at q
  exact λ v H' fps' fp k g r o t=>q v H' fps' fp (k1.trans k) (g1.trans g) r (o.weak λ a h=>Zt.mono hs h) ⟨λ a ha=>(by
   have e:=t.new a ha
   cases e':H a with
   | none=>rfl
   | some o=>exact absurd e (k1.dom a (by rw [e'];simp))),t.ndj⟩
theorem qjt (hq:tE M (zxp f g) (vs++vs') σ H Q):qm5 (tE M f vs) (tE M g vs') σ H Q:=by
 obtain ⟨ρ,fps,rep,q⟩:=hq
 refine ⟨ρ,fps,rep,?_⟩
 unfold zxp at q
 cases ef:f ρ with
 | no=>rw [ef] at q;exact q
 | exc c=>rw [ef] at q;exact q
 | ok p=>
  obtain ⟨x,d,ρ1⟩:=p
  rw [ef] at q
  intro v H1 fps1 f1 k1 g1 rep1 o1 t1
  dsimp only [Rz.bind] at q
  cases x with
  | bl b=>
   rw [Own] at o1
   refine ⟨b,o1.1,?_⟩
   cases b with
   | true=>exact qc5 k1 g1 rep1 (λ i hi=>ja7 _ hi) q
   | false=>exact q (.bl false) H1 fps1 [] k1 g1 rep1 (by rw [Own];exact ⟨rfl,rfl⟩) ⟨λ _ z=>(nomatch z),λ _ z=>nomatch z⟩
  | _=>exact q.elim
theorem qm2 (hq:tE M (bOrV f g) (vs++vs') σ H Q):tOrV (tE M f vs) (tE M g vs') σ H Q:=by
 obtain ⟨ρ,fps,rep,q⟩:=hq
 refine ⟨ρ,fps,rep,?_⟩
 unfold bOrV at q
 cases ef:f ρ with
 | no=>rw [ef] at q;exact q
 | exc c=>rw [ef] at q;exact q
 | ok p=>
  obtain ⟨x,d,ρ1⟩:=p
  rw [ef] at q
  intro v H1 fps1 f1 k1 g1 rep1 o1 t1
  dsimp only [Rz.bind] at q
  cases x with
  | bl b=>
   rw [Own] at o1
   refine ⟨b,o1.1,?_⟩
   cases b with
   | false=>exact qc5 k1 g1 rep1 (λ i hi=>ja7 _ hi) q
   | true=>exact q (.bl true) H1 fps1 [] k1 g1 rep1 (by rw [Own];exact ⟨rfl,rfl⟩) ⟨λ _ z=>(nomatch z),λ _ z=>nomatch z⟩
  | _=>exact q.elim
theorem qjr (hq:tE M (bUn zqy f) vs σ H Q):qmz (tE M f vs) σ H Q:=by
 refine zhr (r:=λ x H1 Q=>∃ c,x=.bl c/\Q (.bl (!c)) H1) (λ x d z c v H fps f1 Q ho o1 nz zd lf=>?_) hq
 cases x with
 | bl b=>cases ho;rw [Own] at o1;exact ⟨b,o1.1,zwt lf⟩
 | _=>cases ho
end
abbrev D2:=Fx×List Nat
def zbu (d:Expr->Option D2):List Expr->Option (Fa×List Nat)
 | []=>some (aNil,[])
 | e::es=>match d e,zbu d es with
  | some (f,v),some (fa,u)=>some (zqa f fa,v++u)
  | _,_=>none
def qbp (d:Expr->Option D2):List Expr->Option D2
 | []=>none
 | [e]=>d e
 | e::es=>match d e,qbp d es with
  | some (f,v),some (g,u)=>some (zxp f g,v++u)
  | _,_=>none
def qhm (d:Expr->Option D2):List Expr->Option D2
 | []=>none
 | [e]=>d e
 | e::es=>match d e,qhm d es with
  | some (f,v),some (g,u)=>some (bOrV f g,v++u)
  | _,_=>none
def denC:Const->Option D2
 | .int i=>some (bC (.int i),[])
 | .bool b=>some (bC (.bl b),[])
 | .none=>some (bC .non,[])
 | .str x=>some (bC (.str x),[])
 | _=>none
def tyOf (x:Str):Option String:=if x = "int" then some "int" else if x = "bool" then some "bool" else if x = "str" then some "str" else if x = "list" then some "list" else if x = "tuple" then some "tuple" else if x = "dict" then some "dict" else none
def qlt (x:Str):Option (List (PV×Nat)->Option (PV×Nat)):=
 if x = "len" then some zqu else if x = "all" then some zyn else if x = "max" then some qky else if x = "min" then some zkz else if x = "sum" then some qkx
 else if x = "tuple" then some zbg else if x = "list" then some zvu else if x = "int" then some zgm else if x = "str" then some zpf else none
def zwb (scope sc:Scope):Scope:={ scope with names:=scope.names.map λ (n,k)=>if (k == .free && sc.kind == .function && sc.names.lookup n == some .cell) then (n,.cell) else (n,k) }
def junk (i:Nat):Str:=⟨#[2000000 + i]⟩
def zgs (sc':Scope):Nat->List Str->List Str
 | _,[]=>[]
 | i,x::r=>(if zwm sc' x .cell || zwm sc' x .free then x else junk i)::zgs sc' (i + 1) r
def zfe:List Expr->Option (List Str)
 | []=>some []
 | .Name x _::r=>(zfe r).map (x::·)
 | _=>none
def tgA (n:Nat):Expr->Option (List Str×(PV->Rho->Option Rho))
 | .Name x _=>some ([x],asgN n)
 | .Tuple es _ _=>(zfe es).map λ xs=>(xs,asgT (jk8 n xs.length))
 | _=>none
def isTg:Expr->Bool
 | .Tuple _ _ _=>true
 | _=>false
def zxg (S:Sx) (scope:Scope) (xs:List Str) (vI:List Nat):Sx:=⟨zgs (zwb scope S.sc) 0 S.N++xs,zwb scope S.sc,S.ms,(jc2 S.N.length).map S.alF++ja6 xs.length vI,S.Γ,S.Γm,false,S.xc,S.pn⟩
def zfq (S:Sx) (scope:Scope) (xs:List Str) (vI:List Nat):Bool:=
 let S':=zxg S scope xs vI
 decide (scope.kind=.function) && scope.names.all (λ x=>x.2 != .free || !(scope.names.contains (x.1,.cell))) && scope.names.all (λ x=>x.2 != .local || scope.names.lookup x.1 == some .local)
 && scope.names.all (λ x=>x.2 != .free || (S.sc.names.lookup x.1 == some .cell || S.sc.names.lookup x.1 == some .free))
 && (jc2 S.N.length).all (λ i=>match S'.N[i]? with
  | some x=>!visB S'.sc x || (decide (S.N[i]?=some x) && visB S.sc x && scope.names.contains (x,.free) && !zwm S'.sc x .local)
  | none=>true)
 && decide S'.N.Nodup && xs.all (λ x=>zwm S'.sc x .local || (zwm S'.sc x .cell && scope.names.contains (x,.cell))) && decide (S.N.length≠0) && (S.ms.all λ i=>decide (i < S.N.length))
inductive Iw where
 | rng (en:List (PV×Nat)->Option (Int×Int)) (fa:Fa) (vs:List Nat)
 | seq (f:Fx) (vs:List Nat)
 | vw (v:Vw) (fa:Fa) (vs:List Nat)
def Iw.vs:Iw->List Nat
 | .rng _ _ _=>[]
 | .seq _ vs=>vs
 | .vw _ _ vs=>vs
def twOk (tg:Expr):Iw->Bool
 | .vw .enm _ _=>isTg tg
 | .vw .zp _ _=>isTg tg
 | _=>true
def denI (d:Expr->Option D2) (S:Sx) (it:Expr):Option Iw:=match it with
 | .Call (.Name x _) [a] [] _=>if x = "range" /\ S.glob "range" = true then (match zbu d [a] with
   | some (fa,vs)=>some (.rng zxu fa vs)
   | none=>none) else (match d it with
   | some (f,vs)=>some (.seq f vs)
   | none=>none)
 | .Call (.Name x _) [a,b] [] _=>if x = "range" /\ S.glob "range" = true then (match zbu d [a,b] with
   | some (fa,vs)=>some (.rng zbs fa vs)
   | none=>none) else if x = "zip" /\ S.glob "zip" = true then (match zbu d [a,b] with
   | some (fa,vs)=>some (.vw .zp fa vs)
   | none=>none) else (match d it with
   | some (f,vs)=>some (.seq f vs)
   | none=>none)
 | _=>match d it with
   | some (f,vs)=>some (.seq f vs)
   | none=>none
def qfy (iw:Iw) (k:Nat) (asg:PV->Rho->Option Rho) (test:Fb) (elt:Fx):Fx:=match iw with
 | .rng en fa _=>zwf en fa k asg test elt
 | .seq f _=>zqw f k asg test elt
 | .vw v fa _=>qfx v fa k asg test elt
def zxt:Fb:=λ ρ=>.ok (true,ρ)
def qbo (d:Expr->Option D2):List Expr->Option Fb
 | []=>some zxt
 | [c]=>(d c).map λ p=>bT p.1
 | _=>none
def qew:Expr->Bool
 | .UnaryOp .USub c _=>(match c with
  | .Constant k _ _=>(match k with
   | .int i=>i == 1
   | _=>false)
  | _=>false)
 | _=>false
theorem qev {e:Expr} (h:qew e=true):∃ k p3 p4,e=.UnaryOp .USub (.Constant (.int 1) k p3) p4:=by
 unfold qew at h
 split at h
 ·split at h
  ·split at h
   ·rename_i i
    have:i=1:=eq_of_beq h
    subst this
    exact ⟨_,_,_,rfl⟩
   ·cases h
  ·cases h
 ·cases h
def nmE:Expr->Option Str
 | .Name x _=>some x
 | _=>none
theorem zpn {e:Expr}{x:Str} (h:nmE e=some x):∃ p,e=.Name x p:=by
 cases e <;> first | (cases h;exact ⟨_,rfl⟩) | (cases h)
def ixC:Expr->Option Int
 | .Constant c _ _=>(match c with
  | .int i=>some i
  | _=>none)
 | _=>none
theorem qox {e:Expr}{i:Int} (h:ixC e=some i):∃ k p,e=.Constant (.int i) k p:=by
 unfold ixC at h
 split at h
 ·split at h
  ·cases h;exact ⟨_,_,rfl⟩
  ·cases h
 ·cases h
def qi1 (d:Sx->Expr->Option D2) (S:Sx) (a:Expr):Option Expr->Option Expr->Option Expr->Option D2
 | none,some hi,none=>match d S a,d S hi with
  | some (f,v),some (g,_)=>some (bSl f none (some g),v)
  | _,_=>none
 | some lo,none,none=>match d S a,d S lo with
  | some (f,v),some (g,_)=>some (bSl f (some g) none,v)
  | _,_=>none
 | some lo,some hi,none=>match d S a,d S lo,d S hi with
  | some (f,v),some (g,_),some (h,_)=>some (bSl f (some g) (some h),v)
  | _,_,_=>none
 | none,none,some st=>if qew st=true then (match d S a with
  | some (f,v)=>some (bUn opRv f,v)
  | none=>none) else none
 | _,_,_=>none
def qi0 (d:Sx->Expr->Option D2) (S:Sx) (a b:Expr):Option D2:=match b with
 | .Slice lo hi st _=>qi1 d S a lo hi st
 | b=>match nmE a,ixC b with
  | some x,some i=>(match S.slot x with
   | some j=>if S.msF j=true then none else some (bBin zqe (bVar j) (bC (.int i)),(j::S.alF j)++[])
   | none=>none)
  | _,_=>match d S a,d S b with
   | some (f,v),some (g,u)=>if zfd b=true then some (bBin zqe f g,v++u) else none
   | _,_=>none
def qhp (S:Sx) (T:Str):Option Nat:=if S.glob T=true/\S.xc≠[] then (if T = "ValueError" then some 0 else match XN.findIdx? (·== T) with
 | some c=>if S.xc.contains c=true then some c else none
 | none=>none) else none
def qbx (S:Sx):List Expr->Option (List Nat)
 | []=>some []
 | e::r=>match nmE e,qbx S r with
  | some T,some ds=>(qhp S T).map (·::ds)
  | _,_=>none
def qi4 (d:Expr->Option D2) (S:Sx) (e c:Expr):Option D2:=match d e with
 | some (f,v)=>if S.glob "isinstance" = true then (match c with
  | .Name T _=>(match tyOf T with
   | some t=>if S.glob T=true then some (bUn (zqn t) f,v) else none
   | none=>(qhp S T).map λ n=>(bUn (zwl [n]) f,v))
  | .Tuple es _ _=>if es.length<=100/\es≠[] then (qbx S es).map λ ns=>(bUn (zwl ns) f,v) else none
  | _=>none) else none
 | none=>none
def qeh (x:Str):List Expr->Option Expr
 | [.Call (.Name y _) [a] [] _]=>if x = "list" /\ y = "reversed" then some a else none
 | _=>none
theorem qk4 {x:Str}{args:List Expr}{a:Expr} (h:qeh x args=some a):x = "list" /\ ∃ p pos,args=[.Call (.Name "reversed" p) [a] [] pos]:=by
 unfold qeh at h
 split at h
 ·split at h
  ·rename_i hc
   cases h
   obtain ⟨rfl,rfl⟩:=hc
   exact ⟨rfl,_,_,rfl⟩
  ·cases h
 ·cases h
def zvl (d:Sx->Expr->Option D2) (S:Sx):Expr->Option D2
 | .Constant c _ _=>denC c
 | .Name x _=>match S.slot x with
  | some i=>if S.msF i=true then none else some (bVar i,i::S.alF i)
  | none=>none
 | .BinOp a op b _=>match d S a,d S b,qpc b op with
  | some (f,v),some (g,u),some o=>some (bBin o f g,v++u)
  | _,_,_=>none
 | .UnaryOp .USub a _=>match d S a with
  | some (f,v)=>some (bUn zwi f,v)
  | none=>none
 | .UnaryOp .Not a _=>match d S a with
  | some (f,v)=>some (bUn zqy f,v)
  | none=>none
 | .BoolOp .And es _=>qbp (d S) es
 | .BoolOp .Or es _=>qhm (d S) es
 | .Compare a [op] [b] _=>match d S a,d S b,qlq b op with
  | some (f,v),some (g,u),some o=>some (bBin o f g,v++u)
  | _,_,_=>none
 | .Compare a [op,op'] [b,c] _=>match d S a,d S b,d S c,icmp op,icmp op' with
  | some (f,_),some (g,_),some (h,_),some p,some q=>some (zyf p q f g h,[])
  | _,_,_,_,_=>none
 | .List es _=>match zbu (d S) es with
  | some (fa,v)=>some (zqb zqj fa,v)
  | none=>none
 | .Tuple es _ _=>match zbu (d S) es with
  | some (fa,v)=>some (zqb zwq fa,v)
  | none=>none
 | .Dict [] [] _=>some (bC .emp,[])
 | .Subscript a b _=>qi0 d S a b
 | .Call (.Name x _) args [] _=>
  if x = "isinstance" then (match args with
   | [e,c]=>qi4 (d S) S e c
   | _=>none)
  else match qeh x args with
  | some a=>(match d S a with
   | some (f,v)=>if S.glob "list" = true/\S.glob "reversed" = true then some (bUn qg0 f,v) else none
   | none=>none)
  | none=>match qlt x with
  | some o=>(match args with
   | e::es=>(match zbu (d S) (e::es) with
    | some (fa,v)=>if S.glob x=true then some (zqb o fa,v) else none
    | none=>none)
   | []=>none)
  | none=>match S.Γ.lookup x with
   | some (false,_,F)=>(match args with
    | e::es=>(match zbu (d S) (e::es) with
     | some (fa,v)=>if S.glob x=true then some (zqg F fa,v) else none
     | none=>none)
    | []=>none)
   | some (true,_,F)=>none
   | none=>none
 | .Call (.Attribute (.Name x _) at' apos) [e] [] cpos=>match S.slot x,d S e with
  | some i,some (f,_)=>if at' = "count" /\ S.msF i=false/\(apos.endLine == cpos.line)=true then some (bCnt i f,[]) else none
  | _,_=>none
 | .ListComp elt [⟨tg,it,ifs,0⟩] scope _=>match tgA S.N.length tg,denI (d S) S it with
  | some (xs,asg),some iw=>if zfq S scope xs iw.vs=true/\twOk tg iw=true then (match qbo (d (zxg S scope xs iw.vs)) ifs,d (zxg S scope xs iw.vs) elt with
   | some t,some (g,vE)=>some (qfy iw xs.length asg t g,iw.vs++vE.filter (λ i=>decide (i < S.N.length)))
   | _,_=>none) else none
  | _,_=>none
 | _=>none
def den:Nat->Sx->Expr->Option D2
 | 0,_,_=>none
 | n + 1,S,e=>zvl (den n) S e
section
variable {X:Cx}{P:Program}{w:World}{K:Frag}{mg:Str->Option Value}{base:Heap}{lvl:Nat}{S:Sx}{Wx:St->Nat->Hp->Prop}{M:Fm}{f g:Fx}{vs vs':List Nat}{σ:St}{H:Hp}{Q:VK}
theorem qjj {Q:Bool->Hp->Prop} (hq:tT M (bT (zxp f g)) σ H Q):tAnd (tT M (bT f)) (tT M (bT g)) σ H Q:=by
 refine qmo ?_
 have e:bT (zxp f g)=bAnd (bT f) (bT g):=by
  funext ρ
  unfold bT zxp bAnd
  dsimp only
  cases f ρ with
  | no=>rfl
  | exc c=>rfl
  | ok p=>
   obtain ⟨x,d,ρ1⟩:=p
   cases x with
   | bl b=>cases b <;> rfl
   | _=>rfl
 rw [<- e];exact hq
theorem qmm {Q:Bool->Hp->Prop} (hq:tT M (bT (bOrV f g)) σ H Q):tOr (tT M (bT f)) (tT M (bT g)) σ H Q:=by
 refine qpp ?_
 have e:bT (bOrV f g)=bOr (bT f) (bT g):=by
  funext ρ
  unfold bT bOrV bOr
  dsimp only
  cases f ρ with
  | no=>rfl
  | exc c=>rfl
  | ok p=>
   obtain ⟨x,d,ρ1⟩:=p
   cases x with
   | bl b=>cases b <;> rfl
   | _=>rfl
 rw [<- e];exact hq
theorem qjh {Q:Bool->Hp->Prop} (hq:tT M (bT (bUn zqy f)) σ H Q):tNot (tT M (bT f)) σ H Q:=by
 refine qmn ?_
 have e:bT (bUn zqy f)=bNot (bT f):=by
  funext ρ
  unfold bT bUn bNot
  dsimp only
  cases f ρ with
  | no=>rfl
  | exc c=>rfl
  | ok p=>
   obtain ⟨x,d,ρ1⟩:=p
   cases x with
   | bl b=>cases b <;> rfl
   | _=>rfl
 rw [<- e];exact hq
def Good (P:Program) (w:World) (K:Frag) (mg:Str->Option Value) (base:Heap) (lvl:Nat) (S:Sx) (e:Expr) (f:Fx) (vs:List Nat):Prop:=
 (∀ i∈vs,S.msF i=false)/\zbi e=true/\∀ {Wx} X M,XS X P w K mg base lvl S Wx->MS M K S Wx->PE X e (tE M f vs)/\PT X e (tT M (bT f))
theorem MS.v (m:MS M K S Wx) (h:∀ i∈vs,S.msF i=false):∀ i∈vs,M.Ms i=false:=λ i hi=>by rw [m.ms];exact h i hi
theorem MS.k (m:MS M K S Wx) (xs:XS X P w K mg base lvl S Wx):M.K=X.K:=m.K.trans xs.K.symm
theorem zqz {e:Expr} (h1:∀ i∈vs,S.msF i=false) (h2:zbi e=true) (h3:∀ env whole,isTrue e env whole=(do let v<-whole;standAt e.pos;holding [v] (truthy v)))
  (h:∀ {Wx} X M,XS X P w K mg base lvl S Wx->MS M K S Wx->PE X e (tE M f vs)):Good P w K mg base lvl S e f vs:=
 ⟨h1,h2,λ X M xs m=>⟨h X M xs m,zgi (qnt (h X M xs m) λ wh=>h3 _ wh) λ σ H Q q=>qcx q⟩⟩
theorem zxw {vs vs':List Nat} (h1:∀ i∈vs,S.msF i=false) (h2:∀ i∈vs',S.msF i=false):∀ i∈vs++vs',S.msF i=false:=λ i hi=>(jc1.mp hi).elim (h1 i) (h2 i)
theorem qhc {a b:Expr}{op:CmpOp}{o:PV->Nat->PV->Nat->Option (PV×Nat)}{pos:Pos} (ho:qlq b op=some o) (ga:Good P w K mg base lvl S a f vs) (gb:Good P w K mg base lvl S b g vs'):Good P w K mg base lvl S (.Compare a [op] [b] pos) (bBin o f g) (vs++vs'):=by
 refine ⟨zxw ga.1 gb.1,rfl,λ X M xs m=>?_⟩
 obtain ⟨r,hr,hn,hi⟩:=qho (X:=X) (M:=M) (f:=f) (g:=g) (vs:=vs) (vs':=vs') ho xs.room.units (m.v ga.1) (m.k xs)
 have ha:=(ga.2.2 X M xs m).1
 have hb:=(gb.2.2 X M xs m).1
 exact ⟨zqt (qkq hr ha hb hn) hi,zgi (qkj hr ha hb hn) λ σ H Q q=>hi σ H _ (qcx q)⟩
theorem qcn {a b c:Expr}{op op':CmpOp}{p q:Int->Int->Bool}{h:Fx}{v3:List Nat}{pos:Pos} (h1:icmp op=some p) (h2:icmp op'=some q) (ga:Good P w K mg base lvl S a f vs) (gb:Good P w K mg base lvl S b g vs') (gc:Good P w K mg base lvl S c h v3):Good P w K mg base lvl S (.Compare a [op,op'] [b,c] pos) (zyf p q f g h) []:=by
 refine ⟨λ _ z=>(nomatch z),rfl,λ X M xs m=>?_⟩
 have r1:=zgr (X:=X) h1
 have r2:=zgr (X:=X) h2
 have ha:=(ga.2.2 X M xs m).1
 have hb:=(gb.2.2 X M xs m).1
 have hc:=(gc.2.2 X M xs m).1
 exact ⟨zqt (qgu r1.1 r2.1 ha hb hc (zze _ r2.2.1 r2.2.2)) λ σ H Q q=>qat q,zgi (qgl r1.1 r2.1 ha hb hc (zze _ r2.2.1 r2.2.2)) λ σ H Q q=>qat (vs:=[]) (qcx q)⟩
theorem qhb {a:Expr}{pos:Pos} (ga:Good P w K mg base lvl S a f vs):Good P w K mg base lvl S (.UnaryOp .Not a pos) (bUn zqy f) vs:=
 ⟨ga.1,rfl,λ X M xs m=>⟨zqt (qn3 (ga.2.2 X M xs m).1) λ σ H Q q=>qjr q,zgi (qnu (ga.2.2 X M xs m).2) λ σ H Q q=>qjh q⟩⟩
theorem zgx {d:Expr->Option D2} (hd:∀ e f vs,d e=some (f,vs)->Good P w K mg base lvl S e f vs) {pos:Pos}:∀ (es:List Expr) (f:Fx) (vs:List Nat),qbp d es=some (f,vs)->(∀ i∈vs,S.msF i=false)/\∀ {Wx} X M,XS X P w K mg base lvl S Wx->MS M K S Wx->PE X (.BoolOp .And es pos) (tE M f vs)/\PW X (.BoolOp .And es pos) (tT M (bT f))
 | [],f,vs,h=>by cases h
 | [e],f,vs,h=>by
  have g:=hd e f vs h
  exact ⟨g.1,λ X M xs m=>⟨qiq (g.2.2 X M xs m).1,qkg (g.2.2 X M xs m).2⟩⟩
 | e::e'::es,f,vs,h=>by
  unfold qbp at h
  split at h
  ·rename_i f1 v1 f2 v2 h1 h2
   cases h
   have g1:=hd e f1 v1 h1
   have g2:=zgx hd (pos:=pos) (e'::es) f2 v2 h2
   exact ⟨zxw g1.1 g2.1,λ X M xs m=>⟨zqt (qn5 (g1.2.2 X M xs m).1 (g2.2 X M xs m).1) λ σ H Q q=>qjt q,qij (qns (g1.2.2 X M xs m).2 (g2.2 X M xs m).2) λ σ H Q q=>qjj q⟩⟩
  ·cases h
theorem qbn {d:Expr->Option D2} (hd:∀ e f vs,d e=some (f,vs)->Good P w K mg base lvl S e f vs) {pos:Pos}:∀ (es:List Expr) (f:Fx) (vs:List Nat),qhm d es=some (f,vs)->(∀ i∈vs,S.msF i=false)/\∀ {Wx} X M,XS X P w K mg base lvl S Wx->MS M K S Wx->PE X (.BoolOp .Or es pos) (tE M f vs)/\PW X (.BoolOp .Or es pos) (tT M (bT f))
 | [],f,vs,h=>by cases h
 | [e],f,vs,h=>by
  have g:=hd e f vs h
  exact ⟨g.1,λ X M xs m=>⟨qiq (g.2.2 X M xs m).1,qnr (g.2.2 X M xs m).2⟩⟩
 | e::e'::es,f,vs,h=>by
  unfold qhm at h
  split at h
  ·rename_i f1 v1 f2 v2 h1 h2
   cases h
   have g1:=hd e f1 v1 h1
   have g2:=qbn hd (pos:=pos) (e'::es) f2 v2 h2
   exact ⟨zxw g1.1 g2.1,λ X M xs m=>⟨zqt (qp1 (g1.2.2 X M xs m).1 (g2.2 X M xs m).1) λ σ H Q q=>qm2 q,qij (qpz (g1.2.2 X M xs m).2 (g2.2 X M xs m).2) λ σ H Q q=>qmm q⟩⟩
  ·cases h
theorem zzf {d:Expr->Option D2} (hd:∀ e f vs,d e=some (f,vs)->Good P w K mg base lvl S e f vs):∀ (es:List Expr) (fa:Fa) (vs:List Nat),zbu d es=some (fa,vs)->(∀ i∈vs,S.msF i=false)/\es.all zbi=true/\∀ {Wx} X M,XS X P w K mg base lvl S Wx->MS M K S Wx->PA X es (tL M fa vs)
 | [],fa,vs,h=>by cases h;exact ⟨λ _ z=>(nomatch z),rfl,λ X M _ _=>qnl⟩
 | e::es,fa,vs,h=>by
  unfold zbu at h
  split at h
  ·rename_i f1 v1 f2 v2 h1 h2
   cases h
   have g1:=hd e f1 v1 h1
   have g2:=zzf hd es f2 v2 h2
   exact ⟨zxw g1.1 g2.1,by rw [jf4,g1.2.1,g2.2.1];rfl,λ X M xs m=>qkb (m.v g1.1) (g1.2.2 X M xs m).1 (g2.2.2 X M xs m) (zxa (zqo g1.2.1))⟩
  ·cases h
theorem zyl (scope:Scope) (env:Env):relabel scope env=zwb scope env.scope:=rfl
theorem zkn {x:Str}{k:NameKind}{sc:Scope}:∀ (l:List (Str×NameKind)),(k=.cell\/k=.free)->(l.map λ (n,k)=>if (k == NameKind.free && sc.kind == .function && sc.names.lookup n == some .cell) then (n,NameKind.cell) else (n,k)).lookup x=some k->(x,NameKind.free)∈l\/(x,NameKind.cell)∈l
 | [],_,h=>by simp at h
 | (n,j)::r,hk,h=>by
  rw [jd5] at h
  have ih:=zkn (x:=x) (k:=k) (sc:=sc) r hk
  dsimp only at h
  by_cases hj:(j == NameKind.free && sc.kind == .function && sc.names.lookup n == some .cell)=true
  ·rw [if_pos hj,jd9] at h
   split at h
   ·rename_i hx
    rw [ja4,ja4] at hj
    have e1:x=n:=eq_of_beq hx
    have e2:j=.free:=eq_of_beq hj.1.1
    rw [e1,e2];exact .inl ja5
   ·exact (ih h).imp (ja2 _) (ja2 _)
  ·rw [if_neg hj,jd9] at h
   split at h
   ·rename_i hx
    have e1:x=n:=eq_of_beq hx
    have e2:j=k:=Option.some.inj h
    rcases hk with z | z
    ·rw [e1,e2,z];exact .inr ja5
    ·rw [e1,e2,z];exact .inl ja5
   ·exact (ih h).imp (ja2 _) (ja2 _)
theorem zve (sc':Scope):∀ (N:List Str) (i:Nat),(zgs sc' i N).length=N.length
 | [],_=>rfl
 | x::r,i=>by rw [zgs,jb1,zve sc' r (i + 1),jb1]
structure ChkOk (S:Sx) (scope:Scope) (xs:List Str) (vI:List Nat):Prop where
 kind:scope.kind=.function
 dis:∀ x,(x,NameKind.free)∈scope.names->(x,NameKind.cell)∉scope.names
 names:∀ x∈scope.names,x.2=.local->scope.names.lookup x.1=some .local
 free:∀ x∈scope.names,x.2=.free->S.sc.names.lookup x.1=some .cell\/S.sc.names.lookup x.1=some .free
 capt:∀ (i:Nat) (x:Str),i < S.N.length->(zxg S scope xs vI).N[i]?=some x->Vis (zwb scope S.sc) x->S.N[i]?=some x/\Vis S.sc x/\(x,NameKind.free)∈scope.names/\(zwb scope S.sc).names.lookup x≠some .local
 nd:(zxg S scope xs vI).N.Nodup
 loc:∀ x∈xs,(zwb scope S.sc).names.lookup x=some .local\/((zwb scope S.sc).names.lookup x=some .cell/\(x,NameKind.cell)∈scope.names)
 pos:S.N.length≠0
 ms:∀ i∈S.ms,i < S.N.length
theorem qje {sc:Scope}{x:Str} (h:Vis sc x):visB sc x=true:=by
 unfold visB zwm
 rcases h with h | h | h <;> rw [h] <;> simp
theorem qi8 {scope:Scope}{xs:List Str}{vI:List Nat} (h:zfq S scope xs vI=true):ChkOk S scope xs vI:=by
 unfold zfq at h
 simp only [ja4,decide_eq_true_eq,jb9,bne_iff_ne,ne_eq,je7] at h
 obtain ⟨⟨⟨⟨⟨⟨⟨⟨h1,h2⟩,h3⟩,h4⟩,h5⟩,h6⟩,h7⟩,h8⟩,h9⟩:=h
 refine ⟨h1,λ x hx hz=>(h2 (x,.free) hx).elim (λ z=>z rfl) λ z=>?_,λ x hx he=>(h3 x hx).elim (λ z=>absurd he z) λ z=>eq_of_beq z,λ x hx he=>(h4 x hx).elim (λ z=>absurd he z) λ z=>z.elim (λ z=>.inl (eq_of_beq z)) λ z=>.inr (eq_of_beq z),λ i x hi e hv=>?_,h6,λ x hx=>(h7 x hx).imp zxv λ z=>⟨zxv z.1,by simpa using z.2⟩,h8,h9⟩
 ·have z':(!(scope.names.contains (x,NameKind.cell)))=true:=z
  have:scope.names.contains (x,NameKind.cell)=true:=by simpa using hz
  rw [this] at z';cases z'
 have q:=h5 i (jd8.mpr hi)
 rw [e] at q
 dsimp only at q
 rw [je7] at q
 rcases q with q | q
 ·have:visB (zwb scope S.sc) x=true:=qje hv
  have q':(!visB (zwb scope S.sc) x)=true:=q
  rw [this] at q';cases q'
 ·simp only [ja4,decide_eq_true_eq,jh3] at q
  obtain ⟨⟨⟨q1,q2⟩,q3⟩,q4⟩:=q
  refine ⟨q1,qh9 q2,by simpa using q3,λ z=>?_⟩
  have:zwm (zwb scope S.sc) x .local=true:=by unfold zwm;rw [z];simp
  have q4':zwm (zwb scope S.sc) x .local=false:=q4
  rw [this] at q4';cases q4'
theorem ChkOk.comp {scope:Scope}{ys:List Str}{vI:List Nat} (c:ChkOk S scope ys vI) (xs:XS X P w K mg base lvl S Wx):CompOk X scope (zxg S scope ys vI).N ys.length where
 kind:=c.kind
 dis:=c.dis
 names:=c.names
 len:=by
  show (zgs _ 0 S.N++ys).length=_
  rw [jb4,zve,xs.N]
 free:=λ x hx he=>by
  show X.env.scope.names.lookup x.1=_\/X.env.scope.names.lookup x.1=_
  rw [xs.sc];exact c.free x hx he
 kinds:=λ x h=>by
  rcases h with h | h
  ·exact zkn (sc:=X.env.scope) scope.names (.inl rfl) h
  ·exact zkn (sc:=X.env.scope) scope.names (.inr rfl) h
 capt:=λ i x hi e hv=>by
  rw [zyl,xs.sc] at hv ⊢
  rw [xs.N] at hi ⊢
  exact c.capt i x hi e hv
theorem ChkOk.xs {scope:Scope}{ys:List Str}{vI:List Nat} (c:ChkOk S scope ys vI) (xs:XS X P w K mg base lvl S Wx) (s2:Shared) (H2:Hp) (C:Addr) (fp:List Addr) (pins:List (Addr×Obj)):XS (zqx X s2 H2 scope C (zxg S scope ys vI).N fp pins) P w K mg base lvl (zxg S scope ys vI) W0:=
 ⟨xs.prog,xs.w,xs.K,xs.mg,xs.base,rfl,by show relabel scope X.env=_;rw [zyl,xs.sc];rfl,xs.calm,xs.room,PassesOwn.never,qn6,λ h=>nomatch h⟩
theorem zfu {scope:Scope}{ys:List Str}{vI:List Nat} (i:Nat):(zxg S scope ys vI).alF i=if i < S.N.length then S.alF i else if i < S.N.length + ys.length then vI else []:=by
 unfold Sx.alF zxg
 dsimp only
 rw [ja0]
 by_cases h:i < S.N.length
 ·rw [jc0 (by simpa using h),if_pos h]
  simp [h,Sx.alF,ja0]
 ·rw [jc8 (by simpa using h),if_neg h,je4]
  simp only [ja1,je2]
  by_cases h2:i < S.N.length + ys.length
  ·rw [if_pos h2,if_pos (by omega)];rfl
  ·rw [if_neg h2,if_neg (by omega)];rfl
theorem ChkOk.ms' {scope:Scope}{ys:List Str}{vI:List Nat} (c:ChkOk S scope ys vI) (m:MS M K S Wx) (hv:∀ i∈vI,S.msF i=false) (D:Addr):MS (M.comp D S.N.length vI) K (zxg S scope ys vI) W0 where
 W:=rfl
 K:=m.K
 ms:=m.ms
 al:=λ i hi=>by
  rw [zfu]
  show (if i < S.N.length then M.al i else vI)=_
  have hl:(zxg S scope ys vI).N.length=S.N.length + ys.length:=by
   show (zgs _ 0 S.N++ys).length=_
   rw [jb4,zve]
  rw [hl] at hi
  by_cases h:i < S.N.length
  ·rw [if_pos h,if_pos h];exact m.al i h
  ·rw [if_neg h,if_neg h,if_pos hi]
 pn:=λ p hp=>by
  have h:=m.pn p hp
  show p.1 < (zgs _ 0 S.N++ys).length
  rw [jb4,zve]
  omega
 als:=λ i j hj=>by
  have hj':j∈(if i < S.N.length then M.al i else vI):=hj
  show M.Ms j=false
  by_cases h:i < S.N.length
  ·rw [if_pos h] at hj';exact m.als i j hj'
  ·rw [if_neg h] at hj';rw [m.ms];exact hv j hj'
theorem zfi {n:Nat}{iter:Expr}{env:Env}{f:Fx}{vs:List Nat} (h:(∀ a b c,iter≠.Set a b c)):∀ x,foldedSetIterable iter env x=pure x:=by
 intro x
 cases iter with
 | Set a b c=>exact absurd rfl (h a b c)
 | _=>rfl
end
section
variable {X:Cx}{P:Program}{w:World}{K:Frag}{mg:Str->Option Value}{base:Heap}{lvl:Nat}{S:Sx}{Wx:St->Nat->Hp->Prop}{M:Fm}{f g:Fx}{vs vs':List Nat}{σ:St}{H:Hp}{Q:VK}
theorem qjf {T:Str}{t:String} (h:tyOf T=some t):t∈isiT/\T∈zvx/\bootBuiltins T=some (.type t)/\(T == ("__debug__" : Str))=false/\T ≠ "__name__" := by
 unfold tyOf at h
 split at h
 ·rename_i e;cases h;rw [e];exact ⟨by decide,by decide +kernel,rfl,by decide +kernel,by decide +kernel⟩
 ·split at h
  ·rename_i e;cases h;rw [e];exact ⟨by decide,by decide +kernel,rfl,by decide +kernel,by decide +kernel⟩
  ·split at h
   ·rename_i e;cases h;rw [e];exact ⟨by decide,by decide +kernel,rfl,by decide +kernel,by decide +kernel⟩
   ·split at h
    ·rename_i e;cases h;rw [e];exact ⟨by decide,by decide +kernel,rfl,by decide +kernel,by decide +kernel⟩
    ·split at h
     ·rename_i e;cases h;rw [e];exact ⟨by decide,by decide +kernel,rfl,by decide +kernel,by decide +kernel⟩
     ·split at h
      ·rename_i e;cases h;rw [e];exact ⟨by decide,by decide +kernel,rfl,by decide +kernel,by decide +kernel⟩
      ·cases h
theorem qni {x:Str}{o:List (PV×Nat)->Option (PV×Nat)}{e:Expr}{es:List Expr}{fa:Fa}{p pos:Pos} (h:qlt x=some o) (xs:XS X P w K mg base lvl S Wx) (m:MS M K S Wx) (hb:∀ x∈zvx,mg x=none) (hg:S.glob x=true) (hs:(e::es).all zbi=true) (ha:PA X (e::es) (tL M fa vs)):
  PE X (.Call (.Name x p) (e::es) [] pos) (tE M (zqb o fa) vs):=by
 rw [jf4,ja4] at hs
 have h1:starEach (e::es) X.env=(false,eval e X.env)::starEach es X.env:=zxa (zqo hs.1)
 have h2:(backTo pos (starEach es X.env)).any (·.1)=false:=zmk hs.2
 have hm:∀ x∈zvx,X.mg x=none:=λ x hx=>by rw [xs.mg];exact hb x hx
 unfold qlt at h
 split at h
 ·rename_i ex;cases h;subst ex;exact qne (m.k xs) (xs.gl hg) (hm _ (by decide +kernel)) ha h1 h2
 ·split at h
  ·rename_i ex;cases h;subst ex;exact qnj xs.calm (xs.gl hg) (hm _ (by decide +kernel)) ha h1 h2
  ·split at h
   ·rename_i ex;cases h;subst ex;exact qj3 xs.calm (xs.gl hg) (hm _ (by decide +kernel)) ha h1 h2
   ·split at h
    ·rename_i ex;cases h;subst ex;exact qj2 xs.calm (xs.gl hg) (hm _ (by decide +kernel)) ha h1 h2
    ·split at h
     ·rename_i ex;cases h;subst ex;exact qj1 xs.calm (xs.gl hg) (hm _ (by decide +kernel)) ha h1 h2
     ·split at h
      ·rename_i ex;cases h;subst ex;exact qj0 (m.k xs) (xs.gl hg) (hm _ (by decide +kernel)) ha h1 h2
      ·split at h
       ·rename_i ex;cases h;subst ex;exact qj5 (m.k xs) (xs.gl hg) (hm _ (by decide +kernel)) ha h1 h2
       ·split at h
        ·rename_i ex;cases h;subst ex;exact qj8 (xs.gl hg) (hm _ (by decide +kernel)) ha h1 h2
        ·split at h
         ·rename_i ex;cases h;subst ex;exact qna xs.room.units xs.room.gd (m.k xs) (xs.gl hg) (hm _ (by decide +kernel)) ha h1 h2
         ·cases h
def IwOk (P:Program) (w:World) (K:Frag) (mg:Str->Option Value) (base:Heap) (lvl:Nat) (S:Sx) (it:Expr) (iw:Iw):Prop:=
 (∀ i∈iw.vs,S.msF i=false)/\(∀ a b c,it≠.Set a b c)/\∀ {Wx} X M,XS X P w K mg base lvl S Wx->MS M K S Wx->∀ tg,(match iw with
  | .rng en fa vs=>(en=zxu/\PI X tg it (qg7 (tL M fa vs)))\/(en=zbs/\PI X tg it (qg6 (tL M fa vs)))
  | .seq f vs=>PI X tg it (iSeq M.K (tE M f vs))
  | .vw v fa vs=>twOk tg (.vw v fa vs)=true->PI X tg it (iVw v M.K (tL M fa vs)))
theorem qha {it:Expr} (g:Good P w K mg base lvl S it f vs) (hs:∀ a b c,it≠.Set a b c):IwOk P w K mg base lvl S it (.seq f vs):=
 ⟨g.1,hs,λ X M xs m tg=>by
  show PI X tg it (iSeq M.K (tE M f vs))
  rw [m.k xs];exact qn0 (g.2.2 X M xs m).1⟩
theorem zfm {d:Expr->Option D2} (hd:∀ e f vs,d e=some (f,vs)->Good P w K mg base lvl S e f vs) (hset:∀ a b c,d (.Set a b c)=none) (hb:∀ x∈zvx,mg x=none) {it:Expr}{iw:Iw} (h:denI d S it=some iw):IwOk P w K mg base lvl S it iw:=by
 have seq:∀ {it:Expr}{iw:Iw},(match d it with
   | some (f,vs)=>some (Iw.seq f vs)
   | none=>none)=some iw->IwOk P w K mg base lvl S it iw:=λ {it iw} h=>by
  cases e:d it with
  | none=>rw [e] at h;cases h
  | some p=>
   obtain ⟨f,vs⟩:=p
   rw [e] at h;cases h
   exact qha (hd _ _ _ e) λ a b c z=>by rw [z,hset] at e;cases e
 unfold denI at h
 split at h
 ·rename_i x p a pos
  split at h
  ·rename_i hc
   obtain ⟨rfl,hg⟩:=hc
   split at h
   ·rename_i fa vs e
    cases h
    have g:=zzf hd _ _ _ e
    refine ⟨λ _ z=>(nomatch z),λ _ _ _ z=>(nomatch z),λ X M xs m tg=>.inl ⟨rfl,?_⟩⟩
    have hs:=g.2.1
    simp only [jf4,jp1,jm0] at hs
    exact qdw (xs.gl hg) (by rw [xs.mg];exact hb _ (by decide +kernel)) (g.2.2 X M xs m) (zxa (zqo hs))
   ·cases h
  ·exact seq h
 ·rename_i x p a b pos
  split at h
  ·rename_i hc
   obtain ⟨rfl,hg⟩:=hc
   split at h
   ·rename_i fa vs e
    cases h
    have g:=zzf hd _ _ _ e
    refine ⟨λ _ z=>(nomatch z),λ _ _ _ z=>(nomatch z),λ X M xs m tg=>.inr ⟨rfl,?_⟩⟩
    have hs:=g.2.1
    simp only [jf4,jp1,jm0,ja4] at hs
    have s2:starEach [b] X.env=[(false,eval b X.env)]:=zxa (zqo hs.2)
    exact qdv (xs.gl hg) (by rw [xs.mg];exact hb _ (by decide +kernel)) (g.2.2 X M xs m) (by rw [zxa (zqo hs.1),s2]) s2
   ·cases h
  ·split at h
   ·rename_i hc
    obtain ⟨rfl,hg⟩:=hc
    split at h
    ·rename_i fa vs e
     cases h
     have g:=zzf hd _ _ _ e
     refine ⟨g.1,λ _ _ _ z=>(nomatch z),λ X M xs m tg ht=>?_⟩
     have hs:=g.2.1
     simp only [jf4,jp1,jm0,ja4] at hs
     have s2:starEach [b] X.env=[(false,eval b X.env)]:=zxa (zqo hs.2)
     rw [m.k xs]
     cases tg with
     | Tuple es k tp=>exact qnz (xs.gl hg) (by rw [xs.mg];exact hb _ (by decide +kernel)) (g.2.2 X M xs m) (by rw [zxa (zqo hs.1),s2]) s2
     | _=>cases ht
    ·cases h
   ·exact seq h
 ·exact seq h
theorem qf9 {σ:St}{H:Hp}{Q:Bool->Hp->Prop} (h:∃ M',MS M' K S Wx/\tT M' zxt σ H Q):Q true H:=by
 obtain ⟨M',_,ρ,fps,rep,q⟩:=h
 exact q H fps KD.refl Agr.refl rep
structure CompParts (P:Program) (w:World) (K:Frag) (mg:Str->Option Value) (base:Heap) (lvl:Nat) (S:Sx) (scope:Scope) (tg:Expr) (ys:List Str) (asg:PV->Rho->Option Rho) (it elt:Expr) (ifs:List Expr) (iw:Iw) (t:Fb) (g:Fx) (vE:List Nat):Prop where
 tga:tgA S.N.length tg=some (ys,asg)
 two:twOk tg iw=true
 chk:ChkOk S scope ys iw.vs
 iwo:IwOk P w K mg base lvl S it iw
 elt:Good P w K mg base lvl (zxg S scope ys iw.vs) elt g vE
 ifs:∀ {Wx} X M,XS X P w K mg base lvl (zxg S scope ys iw.vs) Wx->MS M K (zxg S scope ys iw.vs) Wx->PTs X ifs (λ σ H Q=>∃ M',MS M' K (zxg S scope ys iw.vs) Wx/\tT M' t σ H Q)
theorem qfg {scope:Scope}{tg:Expr}{ys:List Str}{asg:PV->Rho->Option Rho}{it elt:Expr}{ifs:List Expr}{iw:Iw}{t:Fb}{vE:List Nat} (c:CompParts P w K mg base lvl S scope tg ys asg it elt ifs iw t g vE):∀ i∈iw.vs++vE.filter (λ i=>decide (i < S.N.length)),S.msF i=false:=
 zxw c.iwo.1 λ i hi=>c.elt.1 i (jk6.mp hi).1
theorem zgk {X':Cx}:∀ {es:List Expr}{ys:List Str}{n:Nat},zfe es=some ys->X'.N.Nodup->(∀ j y,ys[j]?=some y->X'.N[n + j]?=some y)->(∀ y∈ys,Loc X'.env.scope y/\(X'.fn y=true\/X'.env.scope.names.lookup y=some .local))->PGs X' es (zps (jk8 n ys.length))/\(assignEach es X'.env).length=ys.length/\(assignEach es X'.env).findIdx? (·.1)=none
 | [],ys,n,h,_,_,_=>by cases h;exact ⟨qdx,rfl,rfl⟩
 | e::es,ys,n,h,hN,hi,hl=>by
  unfold zfe at h
  split at h
  ·cases ‹_::_=[]›
  ·rename_i x px r heq
   cases heq
   obtain ⟨zs,h2,rfl⟩:=jb5.mp h
   have hx:=hl x ja5
   obtain ⟨h1,h3,h4⟩:=zgk (n:=n + 1) h2 hN (λ j y e=>by rw [show n + 1 + j=n + (j + 1) by omega];exact hi (j + 1) y (by simpa using e)) λ y hy=>hl y (ja2 _ hy)
   rw [jb1,jp7]
   refine ⟨qa3 (zmu hN (by have:=hi 0 x rfl;simpa using this) hx.1 hx.2) h1 rfl,by rw [assignEach,jb1,h3] <;> (intros;contradiction),?_⟩
   rw [assignEach,jl5,h4] <;> first | rfl | (intros;contradiction)
  ·cases h
theorem zma {scope:Scope}{tg:Expr}{ys:List Str}{asg:PV->Rho->Option Rho}{pos:Pos}{it elt:Expr}{ifs:List Expr}{iw:Iw}{t:Fb}{vE:List Nat} (c:CompParts P w K mg base lvl S scope tg ys asg it elt ifs iw t g vE) (xs:XS X P w K mg base lvl S Wx) (m:MS M K S Wx):
  ∃ wi gg,PI X tg it wi/\CompOk X scope (zxg S scope ys iw.vs).N ys.length/\(∀ s2 H2 C fp pins,PG (zqx X s2 H2 scope C (zxg S scope ys iw.vs).N fp pins) tg gg) /\
   (∀ s2 H2 C fp pins,PTs (zqx X s2 H2 scope C (zxg S scope ys iw.vs).N fp pins) ifs (λ σ H Q=>∃ M',MS M' K (zxg S scope ys iw.vs) W0/\tT M' t σ H Q)) /\
   (∀ s2 H2 C fp pins,PE (zqx X s2 H2 scope C (zxg S scope ys iw.vs).N fp pins) elt (λ σ H Q=>∃ M',MS M' K (zxg S scope ys iw.vs) W0/\tE M' g vE σ H Q)) /\
   ∀ σ H Q,σ.length=S.N.length->tE M (qfy iw ys.length asg t g) (iw.vs++vE.filter (λ i=>decide (i < S.N.length))) σ H Q ->
    zhs ys.length wi gg (λ σ H Q=>∃ M',MS M' K (zxg S scope ys iw.vs) W0/\tT M' t σ H Q) (λ σ H Q=>∃ M',MS M' K (zxg S scope ys iw.vs) W0/\tE M' g vE σ H Q) σ H Q:=by
 have hvI:=m.v c.iwo.1
 have hP:∀ D,MS (M.comp D S.N.length iw.vs) K (zxg S scope ys iw.vs) W0:=λ D=>c.chk.ms' m c.iwo.1 D
 have hvE:∀ i∈vE,M.Ms i=false:=λ i hi=>by rw [m.ms];exact c.elt.1 i hi
 have hvo:∀ i,i∈vE->i < S.N.length->i∈iw.vs++vE.filter (λ i=>decide (i < S.N.length)):=λ i h1 h2=>ja7 _ (jk6.mpr ⟨h1,by simpa using h2⟩)
 have hvo2:=m.v (qfg c)
 have bd:∀ D i,S.N.length<=i->Bd (M.comp D S.N.length iw.vs) iw.vs i:=λ D i hi=>⟨by
   show M.Ms i=false
   rw [m.ms]
   unfold Sx.msF
   cases e:S.ms.contains i with
   | false=>rfl
   | true=>exact absurd (c.chk.ms _ (by simpa using e)) (by omega),⟨λ _=>by have:=c.chk.pos;omega,λ p hp=>by have:=m.pn p hp;omega⟩,if_neg (by omega),(hP D).als⟩
 have hix:∀ j y,ys[j]?=some y->(zxg S scope ys iw.vs).N[S.N.length + j]?=some y:=λ j y e=>by
  show (zgs _ 0 S.N++ys)[S.N.length + j]?=some y
  rw [jc8 (by rw [zve];omega),zve]
  simpa using e
 have hloc:∀ s2 H2 C fp pins,∀ y∈ys,Loc (zqx X s2 H2 scope C (zxg S scope ys iw.vs).N fp pins).env.scope y/\((zqx X s2 H2 scope C (zxg S scope ys iw.vs).N fp pins).fn y=true\/(zqx X s2 H2 scope C (zxg S scope ys iw.vs).N fp pins).env.scope.names.lookup y=some .local):=λ s2 H2 C fp pins y hy=>by
  have e:(zqx X s2 H2 scope C (zxg S scope ys iw.vs).N fp pins).env.scope=zwb scope S.sc:=by
   show relabel scope X.env=_
   rw [zyl,xs.sc]
  rw [e]
  rcases c.chk.loc y hy with z | z
  ·exact ⟨.inl z,.inr z⟩
  ·exact ⟨.inr z.1,.inl (by show scope.names.contains (y,NameKind.cell)=true;simpa using z.2)⟩
 have hpe:∀ s2 H2 C fp pins,PE (zqx X s2 H2 scope C (zxg S scope ys iw.vs).N fp pins) elt (λ σ H Q=>∃ M',MS M' K (zxg S scope ys iw.vs) W0/\tE M' g vE σ H Q):=λ s2 H2 C fp pins pi s σ H Q I ⟨M',m',q⟩=>
  (c.elt.2.2 _ M' (c.chk.xs xs s2 H2 C fp pins) m').1 pi s σ H Q I q
 have hpt:∀ s2 H2 C fp pins,PTs (zqx X s2 H2 scope C (zxg S scope ys iw.vs).N fp pins) ifs (λ σ H Q=>∃ M',MS M' K (zxg S scope ys iw.vs) W0/\tT M' t σ H Q):=λ s2 H2 C fp pins=>c.ifs _ (M.comp 0 S.N.length iw.vs) (c.chk.xs xs s2 H2 C fp pins) (hP 0)
 have tgp:∃ is gg,(∀ i∈is,S.N.length<=i)/\(∀ D,GOk (M.comp D S.N.length iw.vs) iw.vs is gg asg)/\∀ s2 H2 C fp pins,PG (zqx X s2 H2 scope C (zxg S scope ys iw.vs).N fp pins) tg gg:=by
  have ht:=c.tga
  unfold tgA at ht
  split at ht
  ·rename_i y py
   cases ht
   refine ⟨[S.N.length],zjf S.N.length,λ i hi=>by rw [jb8.mp hi];exact jb3 _,λ D=>qiy (bd D _ (jb3 _)),λ s2 H2 C fp pins=>?_⟩
   exact zmu c.chk.nd (hix 0 y rfl) (hloc s2 H2 C fp pins y (by simp)).1 (hloc s2 H2 C fp pins y (by simp)).2
  ·rename_i es k tp
   obtain ⟨zs,h2,e⟩:=jb5.mp ht
   cases e
   refine ⟨jk8 S.N.length ys.length,gTup M.K ys.length (zps (jk8 S.N.length ys.length)),λ i hi=>(jo8.mp hi).1,λ D=>?_,λ s2 H2 C fp pins=>?_⟩
   ·have:=qle (M:=M.comp D S.N.length iw.vs) (al:=iw.vs) (is:=jk8 S.N.length ys.length) λ i hi=>bd D i (jo8.mp hi).1
    rw [List.length_range'] at this
    exact this
   ·obtain ⟨h1,h3,h4⟩:=zgk (X':=zqx X s2 H2 scope C (zxg S scope ys iw.vs).N fp pins) (n:=S.N.length) h2 c.chk.nd hix (hloc s2 H2 C fp pins)
    have:=qdy (X:=zqx X s2 H2 scope C (zxg S scope ys iw.vs).N fp pins) (pos:=tp) (k:=k) xs.calm h1 h3 h4
    have e:(zqx X s2 H2 scope C (zxg S scope ys iw.vs).N fp pins).K=M.K:=(m.k xs).symm
    rw [e] at this
    exact this
  ·cases ht
 obtain ⟨is,gg,his,hg,hpg⟩:=tgp
 have hw:=c.iwo.2.2 X M xs m tg
 have htw:=c.two
 cases iw with
 | rng en fa vs=>
  rcases hw with ⟨rfl,hw⟩ | ⟨rfl,hw⟩
  ·exact ⟨_,gg,hw,c.chk.comp xs,hpg,hpt,hpe,λ σ H Q hl hq=>qge hl hP m.als hvI hvE his hg hvo hvo2 hq⟩
  ·exact ⟨_,gg,hw,c.chk.comp xs,hpg,hpt,hpe,λ σ H Q hl hq=>qgd hl hP m.als hvI hvE his hg hvo hvo2 hq⟩
 | seq f vs=>exact ⟨_,gg,hw,c.chk.comp xs,hpg,hpt,hpe,λ σ H Q hl hq=>qgc hl hP m.als hvI hvE his hg hvo hvo2 hq⟩
 | vw v fa vs=>exact ⟨_,gg,hw htw,c.chk.comp xs,hpg,hpt,hpe,λ σ H Q hl hq=>qgb hl hP m.als hvI hvE his hg hvo hvo2 hq⟩
theorem qis {e:Expr}{t t':TE} (h:PE X e t) (i:∀ σ H Q,σ.length=X.N.length->t' σ H Q->t σ H Q):PE X e t':=λ pins s σ H Q I q=>h pins s σ H Q I (i σ H Q I.len q)
theorem qnv {e:Stmt}{t t':TS} (h:PS X e t) (i:∀ D σ H,σ.length=X.N.length->t' D σ H->t D σ H):PS X e t':=λ pins s σ H D I q=>h pins s σ H D I (i D σ H I.len q)
theorem qe1 {scope:Scope}{tg:Expr}{ys:List Str}{asg:PV->Rho->Option Rho}{pos:Pos}{it elt:Expr}{ifs:List Expr}{iw:Iw}{t:Fb}{vE:List Nat} (c:CompParts P w K mg base lvl S scope tg ys asg it elt ifs iw t g vE):Good P w K mg base lvl S (.ListComp elt [⟨tg,it,ifs,0⟩] scope pos) (qfy iw ys.length asg t g) (iw.vs++vE.filter (λ i=>decide (i < S.N.length))):=by
 refine zqz (qfg c) rfl (λ _ _=>rfl) λ X M xs m=>?_
 obtain ⟨wi,gg,h1,h2,h3,h4,h5,h6⟩:=zma (pos:=pos) c xs m
 exact qis (qd0 h2 xs.calm h1 h3 h4 h5 (zfi (n:=0) (f:=g) (vs:=[]) c.iwo.2.1)) λ σ H Q hl q=>h6 σ H Q (by rw [hl,xs.N]) q
theorem zgw {d:Expr->Option D2} (hd:∀ e f vs,d e=some (f,vs)->Good P w K mg base lvl S e f vs) {ifs:List Expr}{t:Fb} (h:qbo d ifs=some t) (X:Cx) (M:Fm) (xs:XS X P w K mg base lvl S Wx) (m:MS M K S Wx):PTs X ifs (λ σ H Q=>∃ M',MS M' K S Wx/\tT M' t σ H Q):=by
 unfold qbo at h
 split at h
 ·cases h
  intro pins s σ H Q I q
  exact qki pins s σ H Q I (qf9 q)
 ·obtain ⟨p,e,rfl⟩:=jb5.mp h
  obtain ⟨f,vs⟩:=p
  have g:=hd _ _ _ e
  intro pins s σ H Q I ⟨M',m',q⟩
  exact qkh (g.2.2 X M' xs m').2 pins s σ H Q I q
 ·cases h
theorem zfl (n:Nat) (S:Sx) (a:List Expr) (b:Nat) (c:Pos):den n S (.Set a b c)=none:=by
 cases n <;> rfl
theorem zyp {e:Expr} (h:zbi e=true) (env:Env) (cpos:Pos):((backTo cpos (starEach [e] env)).all (λ x=>!x.1) && (backToKw cpos (keywordEach [] env)).all (λ x=>x.1.isSome)
   && decide (([e]:List Expr).length + ([]:List Keyword).length + (if ([]:List Keyword).isEmpty then 0 else 1) < 30))=true:=by
 have:starEach [e] env=[(false,eval e env)]:=zxa (zqo h)
 rw [this]
 rfl
theorem zgu {T:Str}{c:Nat} (h:XN.findIdx? (·== T)=some c):XN[c]?=some T:=by
 obtain ⟨hlt,h1,_⟩:=jj2.mp h
 rw [ja3 hlt]
 exact congrArg some (eq_of_beq h1)
theorem qbw {T:Str}{n:Nat} (GX:GX K mg S.xc) (hb:∀ x∈zvx,mg x=none) (h:qhp S T=some n) (xs:XS X P w K mg base lvl S Wx):xKit X.K=true/\∃ cv,(∀ p2,PE X (.Name T p2) (tC cv))/\∀ u,RelV cv u->clsV X.K n u=true:=by
 unfold qhp at h
 split at h
 ·rename_i hc
  obtain ⟨hg,hx⟩:=hc
  obtain ⟨_,hk,hcs⟩:=GX hx
  refine ⟨by rw [xs.K];exact hk,?_⟩
  split at h
  ·rename_i eT
   subst eT
   cases h
   refine ⟨.ty "ValueError",λ p2=>qd1 (xs.gl hg) (by rw [xs.mg];exact hb _ (by decide +kernel)) (u:=.type "ValueError") rfl rfl (by decide) (by decide),λ u r=>?_⟩
   cases r
   unfold clsV
   rfl
  ·split at h
   ·rename_i hc
    split at h
    ·rename_i hm
     cases h
     obtain ⟨x',C,h1,h2,h3,h4⟩:=hcs n (by simpa using hm)
     have ex:x'=T:=by
      have:=zgu hc
      rw [h1] at this
      exact Option.some.inj this
     subst ex
     refine ⟨.ref C,λ p2=>qko (xs.gl hg) (by rw [xs.mg];exact h3) rfl h4,λ u r=>?_⟩
     cases r
     unfold clsV
     rw [xs.K,h2]
     simp
    ·cases h
   ·cases h
 ·cases h
theorem zha (GX:GX K mg S.xc) (hb:∀ x∈zvx,mg x=none) (xs:XS X P w K mg base lvl S Wx):∀ {es:List Expr}{ns:List Nat},qbx S es=some ns->es≠[]->xKit X.K=true/\∃ cvs,cvs.length=es.length/\PA X es (tVs cvs)/\∀ us,Vals cvs us->zbz X.K ns us=true
 | [],_,_,hn=>absurd rfl hn
 | e::r,ns,h,_=>by
  unfold qbx at h
  split at h
  ·rename_i T ds h1 h2
   obtain ⟨n,h3,rfl⟩:=jb5.mp h
   obtain ⟨p2,rfl⟩:=zpn h1
   obtain ⟨hk,cv,c1,c2⟩:=qbw GX hb h3 xs
   refine ⟨hk,?_⟩
   have st:starEach (Expr.Name T p2::r) X.env=(false,eval (.Name T p2) X.env)::starEach r X.env:=rfl
   by_cases hr:r=[]
   ·subst hr
    cases h2
    refine ⟨[cv],rfl,λ a b c d e f g h=>(zwp (c1 p2) zky st) a b c d e f g h,λ us v=>?_⟩
    cases v with
    | cons r rr=>
     cases rr
     unfold zbz
     rw [c2 _ r]
     rfl
   ·obtain ⟨_,cvs,l1,pa,l2⟩:=zha GX hb xs h2 hr
    refine ⟨cv::cvs,by rw [jb1,jb1,l1],λ a b c d e f g h=>(zwp (c1 p2) pa st) a b c d e f g h,λ us v=>?_⟩
    cases v with
    | cons r rr=>
     unfold zbz
     rw [c2 _ r,l2 _ rr]
     rfl
  ·cases h
theorem zpw (GX:GX K mg S.xc) (G:GS P w K mg base lvl S.Γ) (Gm:GSm P w K mg base lvl S.Γm):∀ (n:Nat) (S':Sx) (e:Expr) (f:Fx) (vs:List Nat),S'.Γ=S.Γ->S'.Γm=S.Γm->S'.xc=S.xc->(∀ i,∀ j∈S'.alF i,S'.msF j=false)->den n S' e=some (f,vs)->Good P w K mg base lvl S' e f vs:=by
 intro n
 induction n with
 | zero=>intro S' e f vs _ _ _ _ h;cases h
 | succ n ih=>
  intro S' e f vs hΓ hΓm hX hS h
  have hd:∀ e f vs,den n S' e=some (f,vs)->Good P w K mg base lvl S' e f vs:=λ e f vs h=>ih S' e f vs hΓ hΓm hX hS h
  replace h:zvl (den n) S' e=some (f,vs):=h
  unfold zvl at h
  split at h
  ·unfold denC at h
   split at h
   ·cases h;exact zqz (λ _ z=>(nomatch z)) rfl (λ _ _=>rfl) λ X M xs m=>zqt qdz λ σ H Q q=>zjv (λ K H Z=>by rw [Own];exact ⟨rfl,rfl⟩) q
   ·cases h;exact zqz (λ _ z=>(nomatch z)) rfl (λ _ _=>rfl) λ X M xs m=>zqt qp2 λ σ H Q q=>zjv (λ K H Z=>by rw [Own];exact ⟨rfl,rfl⟩) q
   ·cases h;exact zqz (λ _ z=>(nomatch z)) rfl (λ _ _=>rfl) λ X M xs m=>zqt qn4 λ σ H Q q=>zjv (λ K H Z=>by rw [Own];exact ⟨rfl,rfl⟩) q
   ·cases h;exact zqz (λ _ z=>(nomatch z)) rfl (λ _ _=>rfl) λ X M xs m=>zqt qip λ σ H Q q=>zjv (λ K H Z=>by rw [Own];exact ⟨rfl,rfl⟩) q
   ·cases h
  ·split at h
   ·rename_i i hi
    split at h
    ·cases h
    ·rename_i hm
     cases h
     refine zqz (λ j hj=>?_) rfl (λ _ _=>rfl) λ X M xs m=>qis (xs.var hi) λ σ H Q hl q=>?_
     ·rcases jb0.mp hj with z | z
      ·rw [z];simpa using hm
      ·exact hS i j z
     ·have hlt:i < S'.N.length:=by
       unfold Sx.slot at hi
       split at hi
       ·exact (ja8.mp (zjo hi)).1
       ·cases hi
      rw [<- m.al i hlt] at q
      exact qie q
   ·cases h
  ·split at h
   ·rename_i f1 v1 f2 v2 o h1 h2 h3
    cases h
    have g1:=hd _ _ _ h1
    have g2:=hd _ _ _ h2
    exact zqz (zxw g1.1 g2.1) rfl (λ _ _=>rfl) λ X M xs m=>qpu h3 (m.v g1.1) (m.k xs) (g1.2.2 X M xs m).1 (g2.2.2 X M xs m).1
   ·cases h
  ·split at h
   ·rename_i f1 v1 h1
    cases h
    have g1:=hd _ _ _ h1
    exact zqz g1.1 rfl (λ _ _=>rfl) λ X M xs m=>qnb (g1.2.2 X M xs m).1
   ·cases h
  ·split at h
   ·rename_i f1 v1 h1
    cases h
    exact qhb (hd _ _ _ h1)
   ·cases h
  ·rename_i es pos
   have g:=zgx hd (pos:=pos) _ _ _ h
   exact ⟨g.1,rfl,λ X M xs m=>⟨(g.2 X M xs m).1,(g.2 X M xs m).2.pt⟩⟩
  ·rename_i es pos
   have g:=qbn hd (pos:=pos) _ _ _ h
   exact ⟨g.1,rfl,λ X M xs m=>⟨(g.2 X M xs m).1,(g.2 X M xs m).2.pt⟩⟩
  ·split at h
   ·rename_i f1 v1 f2 v2 o h1 h2 h3
    cases h
    exact qhc h3 (hd _ _ _ h1) (hd _ _ _ h2)
   ·cases h
  ·split at h
   ·rename_i f1 v1 f2 v2 f3 v3 p q h1 h2 h3 h4 h5
    cases h
    exact qcn h4 h5 (hd _ _ _ h1) (hd _ _ _ h2) (hd _ _ _ h3)
   ·cases h
  ·split at h
   ·rename_i fa v h1
    cases h
    have g:=zzf hd _ _ _ h1
    exact zqz g.1 rfl (λ _ _=>rfl) λ X M xs m=>qnd (g.2.2 X M xs m)
   ·cases h
  ·split at h
   ·rename_i fa v h1
    cases h
    have g:=zzf hd _ _ _ h1
    exact zqz g.1 rfl (λ _ _=>rfl) λ X M xs m=>qm9 (g.2.2 X M xs m)
   ·cases h
  ·cases h
   exact zqz (λ _ z=>(nomatch z)) rfl (λ _ _=>rfl) λ X M xs m=>qng
  ·rename_i a b pos
   unfold qi0 at h
   split at h
   ·rename_i lo hi st p2
    unfold qi1 at h
    split at h
    ·split at h
     ·rename_i f1 v1 f2 v2 h1 h2
      cases h
      have g1:=hd _ _ _ h1
      have g2:=hd _ _ _ h2
      exact zqz g1.1 rfl (λ _ _=>rfl) λ X M xs m=>zqt (zmv (zhu.or (qdd.or qde)) (g1.2.2 X M xs m).1 zhx (zbf (g2.2.2 X M xs m).1)) λ σ H Q q=>qjq (lo:=none) (hi:=some (f2,v2)) (m.v g1.1) (m.k xs) q
     ·cases h
    ·split at h
     ·rename_i f1 v1 f2 v2 h1 h2
      cases h
      have g1:=hd _ _ _ h1
      have g2:=hd _ _ _ h2
      exact zqz g1.1 rfl (λ _ _=>rfl) λ X M xs m=>zqt (zmv (zhu.or (qdd.or qde)) (g1.2.2 X M xs m).1 (zbf (g2.2.2 X M xs m).1) zhx) λ σ H Q q=>qjq (lo:=some (f2,v2)) (hi:=none) (m.v g1.1) (m.k xs) q
     ·cases h
    ·split at h
     ·rename_i f1 v1 f2 v2 f3 v3 h1 h2 h3
      cases h
      have g1:=hd _ _ _ h1
      have g2:=hd _ _ _ h2
      have g3:=hd _ _ _ h3
      exact zqz g1.1 rfl (λ _ _=>rfl) λ X M xs m=>zqt (zmv (zhu.or (qdd.or qde)) (g1.2.2 X M xs m).1 (zbf (g2.2.2 X M xs m).1) (zbf (g3.2.2 X M xs m).1)) λ σ H Q q=>qjq (lo:=some (f2,v2)) (hi:=some (f3,v3)) (m.v g1.1) (m.k xs) q
     ·cases h
    ·rename_i st
     split at h
     ·rename_i hst
      obtain ⟨k,p3,p4,rfl⟩:=qev hst
      split at h
      ·rename_i f1 v1 h1
       cases h
       have g1:=hd _ _ _ h1
       exact zqz g1.1 rfl (λ _ _=>rfl) λ X M xs m=>qpt (m.k xs) (g1.2.2 X M xs m).1
      ·cases h
     ·cases h
    ·cases h
   ·split at h
    ·rename_i x i hx hi
     obtain ⟨px,rfl⟩:=zpn hx
     obtain ⟨k,pi,rfl⟩:=qox hi
     split at h
     ·rename_i j hj
      split at h
      ·cases h
      ·rename_i hm
       cases h
       have hlt:j < S'.N.length:=by
        unfold Sx.slot at hj
        split at hj
        ·exact (ja8.mp (zjo hj)).1
        ·cases hj
       have hv:∀ i∈j::S'.alF j,S'.msF i=false:=λ i hi=>by
        rcases jb0.mp hi with z | z
        ·rw [z];simpa using hm
        ·exact hS j i z
       refine zqz (zxw hv λ _ z=>(nomatch z)) rfl (λ _ _=>rfl) λ X M xs m=>qig (m.v hv) (m.k xs) (zkb rfl) (zqt (xs.var hj) λ σ H Q q=>?_) (zqt qdz λ σ H Q q=>zjv (λ K H Z=>by rw [Own];exact ⟨rfl,rfl⟩) q)
       rw [<- m.al j hlt] at q
       exact qie q
     ·cases h
    ·split at h
     ·rename_i f1 v1 f2 v2 h1 h2
      split at h
      ·rename_i hn
       cases h
       have g1:=hd _ _ _ h1
       have g2:=hd _ _ _ h2
       exact zqz (zxw g1.1 g2.1) rfl (λ _ _=>rfl) λ X M xs m=>qig (m.v g1.1) (m.k xs) (zkb hn) (g1.2.2 X M xs m).1 (g2.2.2 X M xs m).1
      ·cases h
     ·cases h
  ·split at h
   ·rename_i x p args pos _ hx
    subst hx
    split at h
    ·rename_i e c
     unfold qi4 at h
     split at h
     ·rename_i f1 v1 h1
      split at h
      ·rename_i hgi
       have g1:=hd _ _ _ h1
       split at h
       ·rename_i T pT
        have s2:∀ {X:Cx},starEach [Expr.Name T pT] X.env=[(false,eval (.Name T pT) X.env)]:=rfl
        split at h
        ·rename_i t h2
         split at h
         ·rename_i hg
          cases h
          obtain ⟨t1,t2,t3,t4,t5⟩:=qjf h2
          refine zqz g1.1 rfl (λ _ _=>rfl) λ X M xs m=>?_
          exact qnf (x:=T) t1 (m.k xs) (g1.2.2 X M xs m).1 (xs.gl hgi) (by rw [xs.mg];exact G.1 _ (by decide +kernel)) (qd1 (xs.gl hg) (by rw [xs.mg];exact G.1 _ t2) t3 rfl t5 t4) (by rw [zxa (zqo g1.2.1),s2]) s2
         ·cases h
        ·obtain ⟨n,h3,e2⟩:=jb5.mp h
         cases e2
         refine zqz g1.1 rfl (λ _ _=>rfl) λ X M xs m=>?_
         obtain ⟨hk,cv,c1,c2⟩:=qbw (by rw [hX];exact GX) G.1 h3 xs
         exact qj7 hk (m.k xs) (g1.2.2 X M xs m).1 (xs.gl hgi) (by rw [xs.mg];exact G.1 _ (by decide +kernel)) (c1 pT) c2 (by rw [zxa (zqo g1.2.1),s2]) s2
       ·rename_i es k p2
        split at h
        ·rename_i hl
         obtain ⟨ns,h3,e2⟩:=jb5.mp h
         cases e2
         obtain ⟨hl,hne⟩:=hl
         refine zqz g1.1 rfl (λ _ _=>rfl) λ X M xs m=>?_
         have s2:starEach [Expr.Tuple es k p2] X.env=[(false,eval (.Tuple es k p2) X.env)]:=rfl
         obtain ⟨hk,cvs,l1,pa,l2⟩:=zha (by rw [hX];exact GX) G.1 xs h3 hne
         exact qgj hk (m.k xs) (g1.2.2 X M xs m).1 (xs.gl hgi) (by rw [xs.mg];exact G.1 _ (by decide +kernel)) pa (by rw [l1];exact jc6 hl (by decide)) l2 (by rw [zxa (zqo g1.2.1),s2]) s2
        ·cases h
       ·cases h
      ·cases h
     ·cases h
    ·cases h
   ·split at h
    ·rename_i a ha
     split at h
     ·rename_i f1 v1 h1
      split at h
      ·rename_i hc
       cases h
       obtain ⟨rfl,p2,pos2,rfl⟩:=qk4 ha
       have g1:=hd _ _ _ h1
       exact zqz g1.1 rfl (λ _ _=>rfl) λ X M xs m=>qj6 (m.k xs) xs.calm (xs.gl hc.1) (by rw [xs.mg];exact G.1 _ (by decide +kernel)) (xs.gl hc.2) (by rw [xs.mg];exact G.1 _ (by decide +kernel)) (by rw [zxa (zqo g1.2.1)];rfl) (g1.2.2 X M xs m).1
      ·cases h
     ·cases h
    split at h
    ·rename_i o ho
     split at h
     ·rename_i e es
      split at h
      ·rename_i fa v h1
       split at h
       ·rename_i hg
        cases h
        have g:=zzf hd _ _ _ h1
        exact zqz g.1 rfl (λ _ _=>rfl) λ X M xs m=>qni ho xs m G.1 hg g.2.1 (g.2.2 X M xs m)
       ·cases h
      ·cases h
     ·cases h
    ·split at h
     ·rename_i x p args pos _ _ _ _ nn F hF
      split at h
      ·rename_i e es
       split at h
       ·rename_i fa v h1
        split at h
        ·rename_i hg
         cases h
         have g:=zzf hd _ _ _ h1
         rw [hΓ] at hF
         obtain ⟨d1,d2,fa',fd,ps,d3,d4,d5,d6,d7⟩:=G.2 _ _ _ _ hF
         refine zqz g.1 rfl (λ _ _=>rfl) λ X M xs m=>?_
         have hs:=g.2.1
         rw [jf4,ja4] at hs
         obtain ⟨xp,xw,xK,xm,xb,_,_,_,xr,_⟩:=id xs
         subst xp xw xK xm xb
         have mk:M.K=X.K:=m.K
         have hps:=xs.ps
         rw [<- m.W] at hps
         refine zqt (qgv d7 xr (xs.gl hg) d3 d4 d5 hps (g.2.2 X M xs m) d1 (zxa (zqo hs.1)) (zmk hs.2)) λ σ H Q q=>?_
         have:=qjs d2 q
         rw [mk] at this
         exact this
        ·cases h
       ·cases h
      ·cases h
     ·cases h
     ·cases h
  ·rename_i x px at' apos e cpos
   split at h
   ·rename_i i f1 v1 hi he
    split at h
    ·rename_i hc
     obtain ⟨rfl,hm,hl⟩:=hc
     cases h
     have g:=hd _ _ _ he
     refine zqz (λ _ z=>(nomatch z)) rfl (λ _ _=>rfl) λ X M xs m=>?_
     have hb:=qkr (X:=X) (cpos:=cpos) PySem.F.plainAttrs_str PySem.F.slot_str_count PySem.F.type_str_count qg3 (xs.var (pos:=px) hi) (zwp (g.2.2 X M xs m).1 zky (zxa (zqo g.2.1))) rfl (zyp g.2.1 X.env cpos) hl (zxa (zqo g.2.1)) rfl
     refine zqt hb λ σ H Q q=>?_
     have:=qm3 (vs:=v1) m.als q
     rw [m.k xs] at this
     exact this
    ·cases h
   ·cases h
  ·split at h
   ·rename_i elt tg it ifs scope pos _ _ ys asg iw ht hi
    split at h
    ·rename_i hc
     split at h
     ·rename_i t g vE h1 h2
      cases h
      have ck:=qi8 hc.1
      have giw:=zfm hd (zfl n S') G.1 hi
      have hS2:∀ i,∀ j∈(zxg S' scope ys iw.vs).alF i,(zxg S' scope ys iw.vs).msF j=false:=λ i j hj=>by
       rw [zfu] at hj
       show S'.msF j=false
       split at hj
       ·exact hS i j hj
       ·split at hj
        ·exact giw.1 j hj
        ·cases hj
      have hd2:∀ e f vs,den n (zxg S' scope ys iw.vs) e=some (f,vs)->Good P w K mg base lvl (zxg S' scope ys iw.vs) e f vs:=λ e f vs h=>ih _ e f vs hΓ hΓm hX hS2 h
      exact qe1 ⟨ht,hc.2,ck,giw,hd2 _ _ _ h2,zgw hd2 h1⟩
     ·cases h
    ·cases h
   ·cases h
  ·cases h
end
section
variable {is:List Nat}{M:Fm}{ρ ρ':Rho}{σ σ':St}{H H' H'':Hp}{fps fps' fps'':Fps}{vs vs':List Nat}
def sNo:Fs:=λ _=>.no
theorem qjm {t:TS}{D:Ends} (hq:tS M sNo D σ H):t D σ H:=by
 obtain ⟨ρ,fps,rep,q⟩:=hq
 exact q.elim
def sUnp (asg:PV->Rho->Option Rho) (f:Fx) (vs:List Nat):Fs:=λ ρ=>match f ρ with
 | .ok (x,d,ρ1)=>(match asg x (zqs d vs ρ1) with
  | some ρ2=>.nx ρ2
  | none=>.no)
 | .exc c=>.exc c
 | .no=>.no
theorem qmp {g:TG}{asg:PV->Rho->Option Rho}{f:Fx}{D:Ends} (hal:∀ i,M.al i=[]) (hv:∀ i∈vs,M.Ms i=false) (hg:GOk M [] is g asg) (hq:tS M (sUnp asg f vs) D σ H):tAsg (tE M f vs) g D σ H:=by
 obtain ⟨ρ,fps,rep,q⟩:=hq
 refine ⟨ρ,fps,rep,?_⟩
 unfold sUnp at q
 cases ef:f ρ with
 | no=>rw [ef] at q;exact q
 | exc c=>rw [ef] at q;exact λ H' fps' k=>q _ H' fps' k.ks
 | ok p=>
  obtain ⟨x,d,ρ1⟩:=p
  rw [ef] at q
  intro v H1 fps1 f1 k1 g1 rep1 o1 t1
  obtain ⟨fps2,k2,r2,o2⟩:=Rep.seen rep k1 g1 rep1 o1 t1 hal hv
  dsimp only at q
  cases ea:asg x (zqs d vs ρ1) with
  | none=>rw [ea] at q;exact q.elim
  | some ρ2=>
   rw [ea] at q
   refine hg x v _ σ H1 fps2 ρ2 _ r2 (o2.weak λ a h=>h.zf) ea λ σ' fps' s1 _ _ r'=>q σ' H1 fps' (k2.trans ⟨λ _ _ h _=>h,λ _ h=>h,λ j a ha=>.inl ⟨j,s1 j a ha⟩⟩) r'
theorem Rep.change {i:Nat}{x x':PV}{d d':Nat}{v:V}{f':List Addr} (hal:∀ i,M.al i=[]) (r:Rep M ρ σ H fps) (hi:ρ[i]?=some (some (x,d))) (hσ:σ[i]?=some (some v)) (k:Keep (λ a=>a∈fps i) H H') (dm:∀ a,H a≠none->H' a≠none) (hs:∀ b∈f',b∈fps i)
  (hm:M.Ms i=true->d'=om) (o:Own M.K H' (Zf M (λ j=>if j=i then f' else fps j)) x' d' v f'):Rep M (ρ.set i (some (x',d'))) σ H' (λ j=>if j=i then f' else fps j):=by
 have hlen:i < ρ.length:=(ja8.mp hi).1
 have inI:∀ j,∀ b∈(if j=i then f' else fps j),b∈fps j:=λ j b hb=>by
  by_cases e:j=i
  ·rw [if_pos e] at hb;rw [e];exact hs b hb
  ·rw [if_neg e] at hb;exact hb
 refine ⟨λ j y c hj=>?_,λ j hj=>?_,λ j k hjk b hb hc=>r.dj j k hjk b (inI j b hb) (inI k b hc),λ j b hb z=>r.zo j b (inI j b hb) z,λ j hj b hb=>r.fr j hj b (inI j b hb),λ b z=>dm b (r.zd b z),by rw [jf3];exact r.len,λ j y c hj hc=>?_,λ b z=>dm b (r.h0 b z),r.iov⟩
 ·by_cases ej:j=i
  ·subst ej
   rw [jc7 hlen] at hj
   cases hj
   refine ⟨v,hσ,?_⟩
   rw [if_pos rfl]
   exact o.weak λ a h=>h.zf
  ·rw [jb7 (Ne.symm ej)] at hj
   obtain ⟨u,hu,ou⟩:=r.own j y c hj
   refine ⟨u,hu,?_⟩
   rw [if_neg ej]
   refine Own.move (S:=λ a=>a∈fps i) k (λ a ha=>⟨.inr ⟨i,(by rw [hal j];intro z;cases z),ha⟩,r.lsts ha⟩) (λ a _ nz z=>nz ?_) y c u (fps j) (λ a ha z=>r.dj j i ej a ha z) ou
   rcases z with z | ⟨l,nl,z⟩
   ·exact .inl z
   ·exact .inr ⟨l,nl,inI l a z⟩
 ·by_cases ej:j=i
  ·subst ej
   exact absurd (jc7 hlen) (hj (x',d'))
  ·rw [if_neg ej]
   exact r.non j λ p hp=>hj p (by rw [jb7 (Ne.symm ej)];exact hp)
 ·by_cases ej:j=i
  ·subst ej
   rw [jc7 hlen] at hc
   cases hc
   exact hm hj
  ·rw [jb7 (Ne.symm ej)] at hc
   exact r.msf j y c hj hc
theorem OwnL.full' {K:Frag}{Z Z':Addr->Prop}{xs:List PV}{ws:List V}{f:List Addr} (h:OwnL K H Z xs om ws f):OwnL K H Z' xs om ws f:=OwnL.full xs ws f h
theorem OwnL.row {K:Frag}{Z:Addr->Prop}:∀ {xs:List PV}{ws:List V}{f:List Addr}{p:Nat}{cells:List PV},OwnL K H Z xs om ws f->xs[p]?=some (.lst cells)->∃ a us fc,ws[p]?=some (.ref a)/\H a=some (.lst us)/\a∈f/\OwnL K H Z cells om us fc/\(∀ b∈fc,b∈f)/\a∉fc /\
  ∀ (cells':List PV) (us':List V) (fc':List Addr),OwnL K (upd H a (.lst us')) (λ _=>True) cells' om us' fc'->(∀ b∈fc',b∈fc)->∃ f',(∀ b∈f',b∈f)/\OwnL K (upd H a (.lst us')) (λ _=>True) (xs.set p (.lst cells')) om ws f'
 | [],ws,f,p,cells,h,e=>by cases e
 | x::xs,ws,f,0,cells,h,e=>by
  cases e
  rw [OwnL] at h
  obtain ⟨v,s,f1,f2,rfl,rfl,dj,h1,h2⟩:=h
  obtain ⟨a,us,fc,rfl,ha,rfl,na,ol⟩:=h1.list (by decide:om≠0)
  rw [qd3] at ol
  refine ⟨a,us,fc,rfl,ha,by simp,ol,λ b hb=>by simp [hb],na,λ cells' us' fc' o hs=>⟨(a::fc')++f2,λ b hb=>?_,?_⟩⟩
  ·rcases jc1.mp hb with z | z
   ·rcases jb0.mp z with z | z
    ·simp [z]
    ·exact ja9 _ (ja2 _ (hs b z))
   ·exact ja7 _ z
  ·have n2:a∉f2:=dj a ja5
   rw [jj1,OwnL]
   refine ⟨.ref a,s,a::fc',f2,rfl,rfl,λ b hb=>?_,?_,?_⟩
   ·rcases jb0.mp hb with z | z
    ·rw [z];exact n2
    ·exact dj b (ja2 _ (hs b z))
   ·rw [Own]
    exact ⟨a,us',rfl,.inr ⟨by decide,fc',zqv,rfl,λ z=>na (hs a z),by rw [qd3];exact o⟩⟩
   ·exact (h2.full' (Z':=λ _=>True)).at trivial ⟨.l us,ha⟩ n2 λ _ _ n=>absurd trivial n
 | x::xs,ws,f,p + 1,cells,h,e=>by
  rw [OwnL] at h
  obtain ⟨v,s,f1,f2,rfl,rfl,dj,h1,h2⟩:=h
  obtain ⟨a,us,fc,e1,ha,hf,ol,hs,na,nx⟩:=h2.row (by simpa using e)
  refine ⟨a,us,fc,by simpa using e1,ha,ja7 _ hf,ol,λ b hb=>ja7 _ (hs b hb),na,λ cells' us' fc' o hs'=>?_⟩
  obtain ⟨f',s',o'⟩:=nx cells' us' fc' o hs'
  refine ⟨f1++f',λ b hb=>(jc1.mp hb).elim (λ z=>ja9 _ z) λ z=>ja7 _ (s' b z),?_⟩
  rw [jl4,OwnL]
  refine ⟨v,s,f1,f',rfl,rfl,λ b hb z=>dj b hb (s' b z),?_,o'⟩
  exact (Own.full (Z':=λ _=>True) x v f1 h1).at trivial ⟨.l us,ha⟩ (λ z=>dj a z hf) λ _ _ n=>absurd trivial n
theorem KD.top (k:KD M H fps H' fps') (r:Rep M ρ σ H fps) {i:Nat}{a:Addr}{o:HO} (hm:M.Ms i=false) (ha:a∈fps i) (h:H a=some o):H' a=some o:=
 k.keep a o h λ ⟨j,hj,hb⟩=>r.dj i j (λ e=>by rw [e,hj] at hm;cases hm) a ha hb
def sAug (g:Int->Int->Int) (sd:Bool) (i:Nat) (f:Fx):Fs:=λ ρ=>match ρ[i]? with
 | some (some (.int a,_))=>(match f ρ with
  | .ok (.int b,_,ρ1)=>if i < ρ1.length then .nx (ρ1.set i (some (.int (g a b),om))) else .no
  | .ok _=>.no
  | .exc c=>.exc c
  | .no=>.no)
 | some (some (.str a,_))=>(match f ρ with
  | .ok (.str b,_,ρ1)=>if i < ρ1.length/\sd=true/\a.length + b.length<=sizeLine then .nx (ρ1.set i (some (.str (a++b),om))) else .no
  | .ok _=>.no
  | .exc c=>.exc c
  | .no=>.no)
 | _=>.no
def ipS (g:Int->Int->Int) (sd:Bool):TIp:=λ x y H Q=>ipI g x y H Q\/(sd=true/\∃ i j,x=.str i/\y=.str j/\i.length + j.length<=sizeLine/\Q (.str (i++j)) H)
theorem qla {X:Cx}:PIp X .Add (ipS (λ i j=>i + j) true):=by
 intro pins s σ H x y v u Q I rx ry h
 rcases h with h | ⟨_,h⟩
 ·exact qoz pins s σ H x y v u Q I rx ry h
 ·exact qae pins s σ H x y v u Q I rx ry h
theorem qk9 {X:Cx}:PIp X .Sub (ipS (λ i j=>i - j) false):=by
 intro pins s σ H x y v u Q I rx ry h
 rcases h with h | ⟨z,_⟩
 ·exact qoy pins s σ H x y v u Q I rx ry h
 ·cases z
theorem qmv {g:Int->Int->Int}{sd:Bool}{f:Fx}{i:Nat}{D:Ends} (hal:∀ i,M.al i=[]) (hm:M.Ms i=false) (hio:M.Fre i) (hq:tS M (sAug g sd i f) D σ H):tAug i (tE M f vs) (ipS g sd) D σ H:=by
 obtain ⟨ρ,fps,rep,q⟩:=hq
 unfold sAug at q
 split at q
 ·rename_i a d0 e0
  obtain ⟨v,hσ,o⟩:=rep.own0 hal i _ _ e0
  rw [Own] at o
  obtain ⟨rfl,_⟩:=o
  refine ⟨_,hσ,ρ,fps,rep,?_⟩
  cases ef:f ρ with
  | no=>rw [ef] at q;exact q
  | exc c=>rw [ef] at q;exact λ H' fps' k=>q _ H' fps' k.ks
  | ok p=>
   obtain ⟨y,e,ρ1⟩:=p
   rw [ef] at q
   cases y with
   | int b=>
    intro w H1 fps1 fp k1 g1 rep1 o1 t1
    rw [Own] at o1
    obtain ⟨rfl,_⟩:=o1
    refine .inl ⟨a,b,rfl,rfl,?_⟩
    dsimp only at q
    split at q
    ·rename_i hl
     have bd:Bd M [] i:=⟨hm,hio,hal i,λ i j hj=>by rw [hal i] at hj;cases hj⟩
     have r2:=rep1.bind1 (y:=.int (g a b)) (v:=.int (g a b)) (al:=[]) (by rw [Own];exact ⟨rfl,rfl⟩) hl bd
     refine q _ H1 _ (k1.ks.trans ⟨λ _ _ h _=>h,λ _ h=>h,λ j b hb=>.inl ⟨j,?_⟩⟩) r2
     by_cases ej:j=i
     ·simp only [if_pos ej] at hb;cases hb
     ·simp only [if_neg ej] at hb;exact hb
    ·exact q.elim
   | _=>exact q.elim
 ·rename_i a d0 e0
  obtain ⟨v,hσ,o⟩:=rep.own0 hal i _ _ e0
  rw [Own] at o
  obtain ⟨rfl,_⟩:=o
  refine ⟨_,hσ,ρ,fps,rep,?_⟩
  cases ef:f ρ with
  | no=>rw [ef] at q;exact q
  | exc c=>rw [ef] at q;exact λ H' fps' k=>q _ H' fps' k.ks
  | ok p=>
   obtain ⟨y,e,ρ1⟩:=p
   rw [ef] at q
   cases y with
   | str b=>
    intro w H1 fps1 fp k1 g1 rep1 o1 t1
    rw [Own] at o1
    obtain ⟨rfl,_⟩:=o1
    dsimp only at q
    split at q
    ·rename_i hl
     refine .inr ⟨hl.2.1,a,b,rfl,rfl,hl.2.2,?_⟩
     have bd:Bd M [] i:=⟨hm,hio,hal i,λ i j hj=>by rw [hal i] at hj;cases hj⟩
     have r2:=rep1.bind1 (y:=.str (a++b)) (v:=.str (a++b)) (al:=[]) (by rw [Own];exact ⟨rfl,rfl⟩) hl.1 bd
     refine q _ H1 _ (k1.ks.trans ⟨λ _ _ h _=>h,λ _ h=>h,λ j b hb=>.inl ⟨j,?_⟩⟩) r2
     by_cases ej:j=i
     ·simp only [if_pos ej] at hb;cases hb
     ·simp only [if_neg ej] at hb;exact hb
    ·exact q.elim
   | _=>exact q.elim
 ·exact q.elim
theorem qqf {P:Program}{w:World}{K:Frag}{mg:Str->Option Value}{base:Heap}{lvl:Nat}{fa:Addr}{fd:FuncData}{ps:List Str}{io:Bool}{np:Nat} (h:ps.length=np):FnOk P w K mg base (CXr P w K) lvl fa fd ps (spF K io np (λ _=>.no)):=
 ⟨λ vs H Q E h1=>h1.1.trans h.symm,λ A outer s H args us vs Q E _ _ _ _ h1=>by
  obtain ⟨_,_,_,_,_,_,_,_,_,_,z⟩:=h1
  exact z.elim⟩
end
section
variable {M:Fm}{ρ ρ':Rho}{σ σ':St}{H H' H'':Hp}{fps fps' fps'':Fps}{vs vs':List Nat}
theorem qks {i p:Nat}{rows cells:List PV}{v:V} (hal:∀ i,M.al i=[]) (rep:Rep M ρ σ H fps) (e:ρ[i]?=some (some (.lst rows,om))) (hσ:σ[i]?=some (some v)) (er:rows[p]?=some (.lst cells)):
  ∃ a0 ws f r us fc,v=.ref a0/\H a0=some (.lst ws)/\fps i=a0::f/\a0∉f/\OwnL M.K H (Zf M fps) rows om ws f/\ws[p]?=some (.ref r)/\H r=some (.lst us)/\r∈f/\OwnL M.K H (Zf M fps) cells om us fc:=by
 obtain ⟨v2,hσ2,ol⟩:=rep.own0 hal i _ _ e
 rw [hσ] at hσ2
 cases hσ2
 obtain ⟨a0,ws,f,rfl,ha,hf,na,hol⟩:=ol.list (by decide:om≠0)
 rw [qd3] at hol
 obtain ⟨r,us,fc,ew,hr,hrf,oc,_⟩:=hol.row er
 exact ⟨a0,ws,f,r,us,fc,rfl,ha,hf,na,hol,ew,hr,hrf,oc⟩
def app2 (x:PV) (a:Int) (y:PV):Option PV:=match x with
 | .lst rows=>(match ixN rows.length a with
  | some p=>(match rows[p]? with
   | some (.lst cells)=>if cells.length < sizeLine then some (.lst (rows.set p (.lst (cells++[y])))) else none
   | _=>none)
  | none=>none)
 | _=>none
theorem qf0 {x x' y:PV}{a:Int} (h:app2 x a y=some x'):∃ rows p cells,x=.lst rows/\ixN rows.length a=some p/\rows[p]?=some (.lst cells)/\cells.length < sizeLine/\x'=.lst (rows.set p (.lst (cells++[y]))):=by
 unfold app2 at h
 split at h
 ·rename_i rows
  split at h
  ·rename_i p ep
   split at h
   ·rename_i cells er
    split at h
    ·rename_i hl
     cases h
     exact ⟨rows,p,cells,rfl,ep,er,hl,rfl⟩
    ·cases h
   ·cases h
  ·cases h
 ·cases h
def zgg (i:Nat) (fi f:Fx):Fs:=λ ρ=>match ρ[i]?,fi ρ with
 | some (some (x,d)),.ok (.int a,_,ρ1)=>(match f ρ1 with
  | .ok (y,_,ρ2)=>(match app2 x a y with
   | some x'=>if d=om/\zmc y=true then .nx (ρ2.set i (some (x',om))) else .no
   | none=>.no)
  | _=>.no)
 | _,_=>.no
theorem qjn {f fi:Fx}{vi:List Nat}{i:Nat}{D:Ends} (hal:∀ i,M.al i=[]) (hm:M.Ms i=false) (hq:tS M (zgg i fi f) D σ H):qc6 (tBM M.K "list" zhv (tOp (rIxL M.K) (tVar i) (tE M fi vi)) (qc7 (tE M f vs) tNil)) D σ H:=by
 obtain ⟨ρ,fps,rep,q⟩:=hq
 unfold zgg at q
 split at q
 ·rename_i x d a da ρ1 ei e1
  split at q
  ·rename_i y dy ρ2 e2
   split at q
   ·rename_i x' ex
    split at q
    ·rename_i hc
     obtain ⟨rfl,hy⟩:=hc
     obtain ⟨rows,p,cells,rfl,ep,er,hl,rfl⟩:=qf0 ex
     obtain ⟨v,hσ,_⟩:=rep.own0 hal i _ _ ei
     refine ⟨v,hσ,ρ,fps,rep,?_⟩
     rw [e1]
     intro va H1 fps1 fpa k1 g1 rep1 oa ta
     rw [Own] at oa
     obtain ⟨rfl,rfl⟩:=oa
     have ei1:ρ1[i]?=some (some (.lst rows,om)):=by rw [g1.1 i hm];exact ei
     obtain ⟨a0,ws,f1,r,us,fc,rfl,ha1,hf1,na1,hol1,ew,hr1,hrf1,oc1⟩:=qks hal rep1 ei1 hσ er
     refine ⟨a0,ws,a,.ref r,rfl,rfl,.inl (.inl ha1),(by unfold atI;rw [hol1.length,ep];exact ew),qct (.inl (.inl hr1)),ρ1,fps1,rep1,?_⟩
     rw [e2]
     intro w H2 fps2 fp k2 g2 rep2 oy ty
     obtain ⟨rfl,oy2⟩:=Own.atom (Z':=λ _=>True) (d':=om) hy oy
     have ei2:ρ2[i]?=some (some (.lst rows,om)):=by rw [g2.1 i hm];exact ei1
     obtain ⟨v3,hσ3,ol3⟩:=rep2.own0 hal i _ _ ei2
     rw [hσ] at hσ3
     cases hσ3
     obtain ⟨a',ws3,f3,ev,ha3,hf3,na3,hol3⟩:=ol3.list (by decide:om≠0)
     cases ev
     have ht:=k2.top rep1 hm (show a0∈fps1 i by rw [hf1];exact ja5) ha1
     rw [ha3] at ht
     cases ht
     rw [qd3] at hol3
     obtain ⟨r',us3,fc3,ew3,hr3,hrf3,oc3,sc3,nrc3,nx⟩:=hol3.row er
     rw [ew] at ew3
     cases ew3
     have hri:r∈fps2 i:=by rw [hf3];exact ja2 _ hrf3
     refine ⟨r,us3,w,rfl,rfl,hr3,by rw [oc3.length];exact hl,?_⟩
     have oc':OwnL M.K H2 (λ _=>True) (cells++[y]) om (us3++[w]) (fc3++[]):=(oc3.full' (Z':=λ _=>True)).snoc oy2 λ _ _ z=>nomatch z
     rw [jf2] at oc'
     have oc4:OwnL M.K (upd H2 r (.lst (us3++[w]))) (λ _=>True) (cells++[y]) om (us3++[w]) fc3:=oc'.at trivial ⟨.l us3,hr3⟩ nrc3 λ _ _ n=>absurd trivial n
     obtain ⟨f',s',o'⟩:=nx _ _ fc3 oc4 λ _ z=>z
     have nea:a0≠r:=λ e=>na3 (by rw [e];exact hrf3)
     have dm:∀ b,H2 b≠none->(upd H2 r (.lst (us3++[w]))) b≠none:=λ b h=>by
      by_cases eb:b=r
      ·rw [eb,zqv];simp
      ·rw [zqp eb];exact h
     have hsub:∀ b∈a0::f',b∈fps2 i:=λ b hb=>by
      rw [hf3]
      exact (jb0.mp hb).elim (λ z=>by rw [z];exact ja5) λ z=>ja2 _ (s' b z)
     have kw:KS M H2 fps2 (upd H2 r (.lst (us3++[w]))) (λ j=>if j=i then a0::f' else fps2 j):=⟨λ b u hb n=>by rw [zqp (λ e=>n ⟨i,by rw [e];exact hri⟩)];exact hb,dm,λ j b hb=>by
      by_cases ej:j=i
      ·simp only [if_pos ej] at hb;exact .inl ⟨i,hsub b hb⟩
      ·simp only [if_neg ej] at hb;exact .inl ⟨j,hb⟩⟩
     refine q σ _ _ ((k1.ks.trans k2.ks).trans kw) (rep2.change hal ei2 hσ (λ b u hb n=>by rw [zqp (λ e=>n (by rw [e];exact hri))];exact hb) dm hsub (λ _=>rfl) ?_)
     rw [Own]
     exact ⟨a0,ws,rfl,.inr ⟨by decide,f',by rw [zqp nea];exact ha3,rfl,λ z=>na3 (s' a0 z),o'.full'⟩⟩
    ·exact q.elim
   ·exact q.elim
  ·exact q.elim
 ·exact q.elim
end
section
variable {is:List Nat}{M:Fm}{ρ ρ':Rho}{σ σ':St}{H H' H'':Hp}{fps fps' fps'':Fps}{vs vs':List Nat}{D:Ends}
end
section
variable {is:List Nat}{M:Fm}{ρ ρ':Rho}{σ σ':St}{H H' H'':Hp}{fps fps' fps'':Fps}{vs vs':List Nat}{D:Ends}
end
section
variable {M:Fm}{ρ ρ':Rho}{σ σ':St}{H H':Hp}{fps fps':Fps}{F F':Addr->Prop}{P P':List (Nat×V)}
end
section
variable {is:List Nat}{X:Cx}{M:Fm}{ρ ρ':Rho}{σ σ':St}{H H' H'':Hp}{fps fps' fps'':Fps}{vs vs':List Nat}{D:Ends}
def qb9 (i j:Nat) (f:Fx) (vs:List Nat):Fs:=λ ρ=>match f ρ with
 | .ok (y,e,ρ1)=>(match (zqs e vs ρ1)[i]? with
  | some (some (.lst xs,d))=>(match (zqs e vs ρ1)[j]? with
   | some (some (.int k,_))=>(match ixN xs.length k with
    | some n=>if d≠0 then .nx ((zqs e vs ρ1).set i (some (.lst (xs.set n y),1))) else .no
    | none=>.no)
   | _=>.no)
  | _=>.no)
 | .exc c=>.exc c
 | .no=>.no
theorem qjl {f:Fx}{i j:Nat} (hal:∀ i,M.al i=[]) (hv:∀ i∈vs,M.Ms i=false) (hm:M.Ms i=false) (hq:tS M (qb9 i j f vs) D σ H):tAsg (tE M f vs) (gSub (tVar i) (tVar j) qnq) D σ H:=by
 obtain ⟨ρ,fps,rep,q⟩:=hq
 refine ⟨ρ,fps,rep,?_⟩
 unfold qb9 at q
 cases ef:f ρ with
 | no=>rw [ef] at q;exact q
 | exc c=>rw [ef] at q;exact λ H' fps' k=>q _ H' fps' k.ks
 | ok p=>
  obtain ⟨y,e,ρ1⟩:=p
  rw [ef] at q
  intro w H1 fps1 fp k1 g1 rep1 o1 t1
  dsimp only at q
  split at q
  ·rename_i xs d es
   split at q
   ·rename_i k dk ek
    split at q
    ·rename_i n en
     split at q
     ·rename_i hd
      obtain ⟨fps2,k2,r2,o2,n2,s2,h2⟩:=Rep.behind rep k1 g1 rep1 o1 t1 hal hv
      obtain ⟨v',hσ,ol⟩:=r2.own0 hal i _ _ es
      obtain ⟨a,ws,fc,rfl,ha,hfp,nac,hol⟩:=ol.list hd
      obtain ⟨vk,hσk,ok⟩:=r2.own0 hal j _ _ ek
      rw [Own] at ok
      obtain ⟨rfl,_⟩:=ok
      have hai:a∈fps2 i:=by rw [hfp];exact ja5
      have hafp:a∉fp:=λ z=>n2 a z (.inr ⟨i,hai⟩)
      have hst:∃ j,a∈fps j:=⟨i,by have:=s2 i a hai;rw [k1.same i hm] at this;exact this⟩
      refine ⟨_,hσ,_,hσk,a,ws,k,n,rfl,rfl,ha,by rw [hol.length];exact en,?_⟩
      refine q σ _ _ (k2.write (i:=i) (f':=[]) (fp:=fp) hst λ b hb=>?_) (r2.rewrite hal es hσ ha hfp (λ z=>nomatch z) (λ b hb=>nomatch hb) (by decide) (λ h=>by rw [hm] at h;cases h) h2 ?_)
      ·rcases jb0.mp hb with z | z
       ·exact .inl (by rw [z];exact hai)
       ·cases z
      ·rw [qa4]
       have zsub:∀ b,Zf M (λ j=>if j=i then [a] else fps2 j) b->Zf (M.plus fp) fps2 b:=λ b h=>by
        rcases h with z | ⟨j,z⟩
        ·exact .inl (.inl z)
        ·by_cases ej:j=i
         ·simp only [if_pos ej] at z
          rw [jb8.mp z]
          exact .inr ⟨i,hai⟩
         ·simp only [if_neg ej] at z;exact .inr ⟨j,z⟩
       have nf:∀ b∈fc,¬ Zf M (λ j=>if j=i then [a] else fps2 j) b:=λ b hb z=>by
        have hbi:b∈fps2 i:=by rw [hfp];exact ja2 _ hb
        rcases z with z | ⟨j,z⟩
        ·exact r2.zo i b hbi (.inl z)
        ·by_cases ej:j=i
         ·simp only [if_pos ej] at z
          rw [jb8.mp z] at hb;exact nac hb
         ·simp only [if_neg ej] at z;exact r2.dj i j (Ne.symm ej) b hbi z
       have nfp:∀ b∈fp,¬ Zf M (λ j=>if j=i then [a] else fps2 j) b:=λ b hb z=>by
        rcases z with z | ⟨j,z⟩
        ·exact n2 b hb (.inl z)
        ·by_cases ej:j=i
         ·simp only [if_pos ej] at z
          rw [jb8.mp z] at hb;exact hafp hb
         ·simp only [if_neg ej] at z;exact n2 b hb (.inr ⟨j,z⟩)
       have za:Zf M (λ j=>if j=i then [a] else fps2 j) a:=.inr ⟨i,by simp⟩
       have u1:=(OwnL.freeze (Z':=Zf M (λ j=>if j=i then [a] else fps2 j)) zsub xs _ ws fc nf hol)
       have u2:=(Own.freeze (Z':=Zf M (λ j=>if j=i then [a] else fps2 j)) (λ b h=>by
        rcases h with z | ⟨j,z⟩
        ·exact .inl (.inl z)
        ·by_cases ej:j=i
         ·simp only [if_pos ej] at z
          rw [jb8.mp z]
          exact .inl (.inr ⟨i,hai⟩)
         ·simp only [if_neg ej] at z;exact .inl (.inr ⟨j,z⟩)) y _ w fp nfp o2)
       obtain ⟨f',hs',u3⟩:=(u1.at za ⟨.l ws,ha⟩ (λ z=>nomatch z) λ _ _ n=>n).set (u2.at (o:=.lst (ws.set n w)) za ⟨.l ws,ha⟩ (λ z=>nomatch z) λ _ _ n=>n) n
       obtain rfl:f'=[]:=List.eq_nil_iff_forall_not_mem.mpr λ b hb=>nomatch hs' b hb
       exact u3
     ·exact q.elim
    ·exact q.elim
   ·exact q.elim
  ·exact q.elim
end
section
variable {X:Cx}{W:St->Nat->Hp->Prop}
theorem qgp (hr:qap X W) (t:xTab X.K=true) (hcalm:X.calm=true) {c:Nat}{C:Addr}{x m:Str}{np cpos pos p:Pos}{j:_} (e:zwu X.K c=some C) (hg:Gl X x) (hm:X.mg x=some (.ref C)) (hdb:(x == ("__debug__" : Str))=false):
  PS X (.Raise (some (.Call (.Name x np) [.Constant (.str m) j p] [] cpos)) none pos) (λ D σ H=>W σ c H):=by
 intro pins s σ H D I h
 obtain ⟨bm,N,nm,q,bs,hdct,sn,sub,ab,col,dd,k0,k1,k2,k3,k5,mN,hC,hN,hni,T,_⟩:=(qja I.ok.mod.kin t e).obj
 have FB:=PySem.F.excBase_ValueError
 have he:starEach [Expr.Constant (.str m) j p] X.env=(false,eval (.Constant (.str m) j p) X.env)::starEach [] X.env:=rfl
 refine wpAny_Raise_call_subU (C:=C) (nm:=nm) (q:=q) (N:=N) (bs:=bs) (bm:=bm) (hdct:=hdct) (sn:=sn) (sub:=sub) (ab:=ab) (col:=col) (dd:=dd) (k0:=k0) (k1:=k1) (k2:=k2) (k3:=k3) (k5:=k5)
  FB (show bmV.contains (.type "ValueError")=true by decide +kernel) FB (mN:=mN) (T.hasType FB.hasBase) (I.ok.hd hcalm) rfl hni (zfh I hg hm ⟨rfl,?_⟩ hdb)
 rw [he]
 refine Calls.evalArgs_plain (wpAny_mono ((zwp qip zky (by rfl)) cpos pins s σ H (λ vs H'=>H'=H/\vs.length=1) I ⟨rfl,rfl⟩) (λ us s2 hu=>?_) λ _ _ y=>y)
 obtain ⟨vs,H2,I2,rv,eH,hl⟩:=hu
 subst eH
 refine ⟨rfl,?_,I2.bk _ _ hC,hN.keeps I2.bk,T.keeps I2.bk,λ h' a hx=>hr pins σ H2 s2 c C a h' us I2 e hx h⟩
 show us.length<=sizeLine
 rw [<- rv.length,hl]
 decide
end
section
variable {X:Cx}{pins pins1:List (Addr×Obj)}{σ:St}{H:Hp}{s:Shared}{e:Value->Shared->Prop}
theorem Cx.Ok.wish2 {p:List (Addr×Obj)} (o:X.Ok):L2.Cx.Ok { X with pn:=p,xe:=e }:=⟨o.mod,o.kind,o.glob,o.blt,o.above,o.inj,o.has,o.cab,o.hd,o.frames,o.stk,o.exf,o.bs,o.bsz,o.noex,o.exfs,o.funs,o.frf⟩
theorem Inv.into (I:L2.Inv X pins σ H s):L2.Inv { X with pn:=X.pn++pins,xe:=e } [] σ H s:=
 ⟨Cx.Ok.wish2 I.ok,I.os,I.bare,I.base,I.loc,I.cell,I.free,I.freeC,λ p hp=>I.pin p (by simpa using hp),I.hok,I.len⟩
theorem Inv.outof (ok:X.Ok) (I:L2.Inv { X with pn:=X.pn++pins,xe:=e } pins1 σ H s):L2.Inv X pins σ H s:=
 ⟨ok,I.os,I.bare,I.base,I.loc,I.cell,I.free,I.freeC,λ p hp=>I.pin p (ja9 _ hp),I.hok,I.len⟩
abbrev Cx.inh (X:Cx) (v:Value):Cx:={ X with A:=X.A.mark (some v),calm:=false,xe:=λ _ _=>False }
theorem Inv.inh (v:Value) (I:L2.Inv X pins σ H s):L2.Inv (Cx.inh X v) pins σ H s:=
 ⟨⟨I.ok.mod,I.ok.kind,I.ok.glob,I.ok.blt,I.ok.above,I.ok.inj,I.ok.has,I.ok.cab,(λ h=>nomatch h),I.ok.frames,I.ok.stk,I.ok.exf,I.ok.bs,I.ok.bsz,I.ok.noex,I.ok.exfs,I.ok.funs,I.ok.frf⟩,I.os,I.bare,I.base,I.loc,I.cell,I.free,I.freeC,I.pin,I.hok,I.len⟩
theorem Inv.outh {v:Value} (ok:X.Ok) (I:L2.Inv (Cx.inh X v) pins σ H s):L2.Inv X pins σ H s:=
 ⟨ok,I.os,I.bare,I.base,I.loc,I.cell,I.free,I.freeC,I.pin,I.hok,I.len⟩
theorem qld {M:Model}{A:Around}{E:Value->Shared->Prop}{i:Nat}{x:Str}{pos:Pos}{Q:Unit->Shared->Prop} (I:L2.Inv X pins σ H s) (hN:X.N.Nodup) (hi:X.N[i]?=some x) (hk:X.env.kindOf x=some .local)
  (h:∀ s',L2.Inv X pins (σ.set i none) H s'->Q () s'):wpAny M A (do bindName X.env x .none;unbindBehindTheSuite X.env x pos) Q E s:=by
 obtain ⟨m,hn,hl⟩:=id I.loc
 have hcls:(X.env.scope.kind == .class || (X.env.scope.kind == .module && X.env.locals != X.env.globals))=false:=by rw [I.ok.kind];rfl
 have hiσ:i < σ.length:=by rw [I.len];exact (ja8.mp hi).1
 have cne:=I.cne
 refine wpAny_nameGoes_keeps hk hn hcls λ h' v hn' hs=>?_
 have tracked:HOk X.prog X.w H h':=λ b ob e=>by
  refine (I.hok b ob e).stay (λ c w' hc q=>(hs.2 c ?_).trans q) (λ _ q=>q) λ _ _ q=>q
  rintro rfl
  rcases hc with rfl | hc
  ·rw [I.free] at e;cases e
  ·rw [I.free] at hc;cases hc
 refine h _ ⟨I.ok,I.os,I.bare,⟨λ b o e n hb hx=>?_,λ b o e n hb hx=>?_,I.base.free,λ b o e hx=>?_,I.base.tups,I.base.frzs,I.base.tbls⟩,⟨_,hn',λ j y v' e1 e2 e3=>?_⟩,λ y c e=>?_,I.free,I.freeC,λ p hp=>?_,tracked,by simpa using I.len⟩
 ·exact (hs.2 b (jc9 (jb2 (Heap.lt_size e) I.ok.above))).trans (I.base.keep b o e n hb hx)
 ·obtain ⟨sl,e1⟩:=I.base.slot b o e n hb hx
  exact ⟨sl,(hs.2 b (jc9 (jb2 (Heap.lt_size e) I.ok.above))).trans e1⟩
 ·obtain ⟨o',e1⟩:=I.base.there b o e hx
  exact ⟨o',(hs.2 b (jc9 (jb2 (Heap.lt_size e) I.ok.above))).trans e1⟩
 ·by_cases hj:j=i
  ·subst hj
   rw [jc7 hiσ] at e2
   cases e2
  ·rw [jb7 (Ne.symm hj)] at e2
   obtain ⟨u',r',q⟩:=hl j y v' e1 e2 e3
   refine ⟨u',r',?_⟩
   rcases q with ⟨k,e⟩ | ⟨k,c,e,z⟩
   ·refine .inl ⟨k,?_⟩
    have:y≠x:=λ e=>hj (zfc hN e1 (e ▸ hi))
    simp [this,e]
   ·exact .inr ⟨k,c,e,z.sameBut hs (cne y c e)⟩
 ·obtain ⟨w',z⟩:=I.cell y c e
  exact ⟨w',z.sameBut hs (cne y c e)⟩
 ·obtain ⟨e,n,ne,nf,d⟩:=I.pin p hp
  exact ⟨(hs.2 p.1 ne).trans e,n,ne,nf,d⟩
end
section
variable {M:Model}{A:Around}{E:Value->Shared->Prop}{K:Frag}
theorem qe4 {s:Shared}{a C D:Addr}{c d:Nat}{Q:Bool->Shared->Prop} (xc:XC s.heap K c C) (xd:XC s.heap K d D) (ed:zwu K d=some D) (he:zjg a C s.heap) (hq:Q (isX c d) s):wpAny M A (excMatches (.ref a) (.ref D)) Q E s:=by
 obtain ⟨bm,N,nm,q,bs,hdct,sn,sub,ab,col,dd,k0,k1,k2,k3,k5,mN,hC,hN,hni,T,hin⟩:=xc.obj
 obtain ⟨bm',N',nm',q',bs',hdct',sn',sub',ab',col',dd',k0',k1',k2',k3',k5',mN',hD,hN',hni',T',_⟩:=xd.obj
 obtain ⟨oe,vs,hoe,hcls,hdt⟩:=he
 have hcB:(Value.ref D::bm').contains (.type "BaseException")=true:=by rw [List.contains_cons,T'.hasType PySem.F.excBase_ValueError.hasBase,jp2]
 have hcC:=hin d D ed
 have f:=tc_notTuple
 obtain ⟨h,g,dr,t,os⟩:=s
 unfold excMatches
 repeat (first | (with_reducible refine wpAny_loadPart_at hoe ?_;rw [hcls]) | with_reducible refine wpAny_loadPart_at hD ?_ | (with_reducible refine wpAny_isSubtype_exc hD ?_;rw [hcB]) | (with_reducible refine wpAny_isSubtype_exc hC ?_;rw [hcC]) | wp_step)
 cases hb:isX c d <;> (rw [hb] at hq;wp_walk;exact hq)
end
section
variable {X:Cx}{pins:List (Addr×Obj)}{σ:St}{H H1:Hp}{s:Shared}{B:Heap}{a C:Addr}{a0:Value}{c:Nat}
theorem zpt {s':Shared}{h:Heap} (I:L2.Inv X pins σ H s) (un:Un (frs X.stack) [] H H1 s.heap s'.heap) (hok:HOk X.prog X.w H1 s'.heap) (fl:Heap.FlyingW B X.stack a (.ref C) a0 h) (up:s'.heap.UpToSlots h)
  (i1:∀ b o,s'.heap.get? b=some o->H1 b≠none->B.get? b=some o) (i2:∀ b o,s.heap.get? b=some o->H b=none->b∉frs X.stack->B.get? b=some o) (ha:H1 a=none) (hn:s.heap.get? a=none) (hd:∀ b,H b≠none->H1 b≠none) (ho:s'.os=s.os) (hg:AllBare s'.gens):
  L2.Inv X pins σ (upd H1 a (.ext (zjg a C))) { s' with heap:=h }/\zjg a C h:=by
 have ex:zjg a C h:=by
  obtain ⟨oe,vs,e1,e2,e3,_⟩:=fl.first
  exact ⟨oe,vs,e1,e2,e3⟩
 have trk:∀ b v,H1 b≠none->s'.heap.get? b=some v->h.get? b=some v:=λ b v hb e=>fl.1 b v (i1 b v e hb)
 have nea:∀ b o,s.heap.get? b=some o->b≠a:=λ b o e z=>by rw [z,hn] at e;cases e
 have nea1:∀ b o,H1 b=some o->b≠a:=λ b o e z=>by rw [z,ha] at e;cases e
 have fr:∀ b o,s.heap.get? b=some o->H b=none->b∈frs X.stack->∃ sl,h.get? b=some { o with slots:=sl }:=λ b o e n hb=>by
  obtain ⟨sl,e2⟩:=un.any e n (by simp)
  obtain ⟨_,o',ho',hnf⟩:=I.stack.mem hb
  rw [e] at ho';cases ho'
  obtain ⟨sl2,e3⟩:=up b _ e2 hnf
  exact ⟨sl2,e3⟩
 refine ⟨I.call' (s':={ s' with heap:=h }) (ch:=[]) ho ⟨λ b o e n hb _=>fl.1 b o (i2 b o e n hb),λ b o e n hb _=>fr b o e n hb,λ b o e n _=>?_,λ b o e _=>?_,λ b xs e=>?_,λ b o xs e=>?_,λ b ps e=>?_⟩ (λ b o e=>?_) hg (λ b z=>absurd z (by simp)),ex⟩
 ·rw [zqp (nea b o e)];exact un.free b o e n (by simp)
 ·by_cases h0:H b=none
  ·by_cases hb:b∈frs X.stack
   ·obtain ⟨sl,e2⟩:=fr b o e h0 hb
    exact ⟨_,e2⟩
   ·exact ⟨o,fl.1 b o (i2 b o e h0 hb)⟩
  ·obtain ⟨o2,e2⟩:=un.there b o e (by simp)
   exact ⟨o2,trk b o2 (hd b h0) e2⟩
 ·have:=un.tups b xs e
  rw [zqp (nea1 b _ this)];exact this
 ·have:=un.frzs b o xs e
  rw [zqp (nea1 b _ this)];exact this
 ·obtain ⟨m,e1⟩:=un.tbls b ps e
  exact ⟨m,by rw [zqp (nea1 b _ e1)];exact e1⟩
 ·by_cases eb:b=a
  ·subst eb
   rw [zqv] at e
   cases e
   refine ⟨ex,?_,λ h1 h2 x k=>?_⟩
   ·obtain ⟨o,_,e1,_⟩:=ex
    exact ⟨o,e1⟩
   ·obtain ⟨o,vs,e1,e2⟩:=x
    exact ⟨o,vs,k o e1,e2⟩
  ·rw [zqp eb] at e
   refine (hok b o e).stay (λ d v hd q=>trk d v ?_ q) (λ d q=>?_) λ d xs q=>?_
   ·rcases hd with rfl | hd
    ·rw [e];simp
    ·rw [hd];simp
   ·rw [zqp (nea1 d _ q)];exact q
   ·rw [zqp (nea1 d _ q)];exact q
def WT (K:Frag) (d i j:Nat) (D:Ends) (σ₀:St):St->Nat->Hp->Prop:=λ σ c H'=>σ=σ₀/\isX c d=true/\∀ a C,H' a=none->zwu K c=some C->D.nx (((σ.set j (some (.ref a))).set i (some (.ref a))).set j none) (upd H' a (.ext (zjg a C)))
theorem qgo {tb:(St->Nat->Hp->Prop)->TS}{body:List Stmt}{y n x:Str}{np hpos px pn pa pos:Pos}{d:Nat}{Dd:Addr}{i j:Nat} (t:xTab X.K=true) (hst:X.stack=X.env::X.outer) (hfr:X.env.frame=some X.env.locals) (hN:X.N.Nodup) (hi:X.N[i]?=some x) (hj:X.N[j]?=some n) (hij:i≠j)
  (hx:Loc X.env.scope x) (hn:X.env.kindOf n=some .local) (hfn:∀ z,X.fn z=true) (ed:zwu X.K d=some Dd) (hg:Gl X y) (hm:X.mg y=some (.ref Dd)) (hdb:(y == ("__debug__" : Str))=false) (hdn:(n == ("__debug__" : Str))=false) (hcn:(n == ("__classdict__" : Str))=false)
  (hb:∀ pn' xe' W',zpd (CXr X.prog X.w X.K) { X with pn:=pn',xe:=xe' } W'->PassesOwn (model X.prog X.w) X.A X.env xe'->PSs { X with pn:=pn',xe:=xe' } body (tb W')):
  PS X (.Try body [.ExceptHandler (some (.Name y np)) (some n) [.Assign [.Name x px] (.Name n pn) pa] hpos] [] [] pos) (λ D σ H=>tb (WT X.K d i j D σ) D σ H):=by
 intro pins s σ H D I h
 refine wpAny_Try_except (wpAny_mono (hb (X.pn++pins) _ (WT X.K d i j D σ) ?_ PassesOwn.looking [] s σ H D (Inv.into I) h) (λ f s1 hs=>?_) λ e s1 he=>he)
 ·
  intro pins1 σ1 H1 s1 e s' I1 hx'
  obtain ⟨a,C,c,H',B,a0,rfl,hc,ho,hg',un,hok,ha,hn',fl,i1,i2,hd,hE⟩:=hx'
  obtain ⟨rfl,hcd,hD⟩:WT X.K d i j D σ σ1 c H':=hE
  have I2:L2.Inv X pins σ1 H1 s1:=Inv.outof I.ok I1
  have fl':Heap.FlyingW B (X.env::X.outer) a (.ref C) a0 s'.heap:=by rw [<- hst];exact fl
  refine wpAny_looks_onW (by rw [I.ok.frames,hst]) hfr fl' λ h4 held4 up4=>?_
  refine wpAny_landsW held4 λ h5 fl5 up5=>?_
  have up45:=up4.trans up5
  obtain ⟨I5,x5⟩:=zpt I2 un hok (by rw [hst];exact fl5) up45 i1 i2 ha hn' hd ho hg'
  have I5':=Inv.inh (.ref a) I5
  refine wpAny_handleBy_cons (codeAny_handlers_test (zfh I5' hg hm ?_ hdb)) (by intro q;cases q)
  refine qe4 (qja I5.kIn t hc) (qja I5.kIn t ed) ed x5 ?_
  rw [hcd]
  refine codeAny_handlers_suite_as ?_
  refine lands_againW fl5 λ h6 fl6 up6=>?_
  obtain ⟨I6,x6⟩:=zpt I2 un hok (by rw [hst];exact fl6) (up45.trans up6) i1 i2 ha hn' hd ho hg'
  refine zjj (v:=.ref a) I6 hN hj (.inl hn) rfl (λ s7 I7=>?_) (.inl (hfn n))
  have hjl:j < σ1.length:=by rw [I2.len];exact (ja8.mp hj).1
  have pse:PS (Cx.inh X (.ref a)) (.Assign [.Name x px] (.Name n pn) pa) (tAsg (tVar j) (zjf i)):=qa2 hN hi hx (qin hj (.inl hn) hdn hcn) rfl (.inl (hfn x))
  have run:=(zbe pse) pins s7 _ _ { nx:=λ σ' H''=>σ'=(σ1.set j (some (.ref a))).set i (some (.ref a))/\H''=upd H' a (.ext (zjg a C)),rt:=λ _ _=>False } (Inv.inh (.ref a) I7) ⟨.ref a,by rw [jc7 hjl],rfl,rfl⟩
  refine wpAny_mono run (λ f s8 hs=>?_) λ _ _ z=>z.elim
  cases f with
  | next=>
   obtain ⟨σ',H'',I8,rfl,rfl⟩:=hs
   refine qld (Inv.outh I.ok I8) hN hj hn λ s9 I9=>?_
   exact ⟨_,_,I9,hD a C ha hc⟩
  | brk=>obtain ⟨_,_,_,z⟩:=hs;exact z.elim
  | cont=>obtain ⟨_,_,_,z⟩:=hs;exact z.elim
  | ret u=>obtain ⟨_,_,_,_,_,z⟩:=hs;exact z.elim
 ·cases f with
  | next=>
   obtain ⟨σ',H',I',q⟩:=hs
   exact wpAny_execs_nil ⟨σ',H',Inv.outof I.ok I',q⟩
  | brk=>
   obtain ⟨σ',H',I',q⟩:=hs
   exact ⟨σ',H',Inv.outof I.ok I',q⟩
  | cont=>
   obtain ⟨σ',H',I',q⟩:=hs
   exact ⟨σ',H',Inv.outof I.ok I',q⟩
  | ret u=>
   obtain ⟨v,σ',H',I',r,q⟩:=hs
   exact ⟨v,σ',H',Inv.outof I.ok I',r,q⟩
end
section
variable {is:List Nat}{X:Cx}{M:Fm}{ρ ρ':Rho}{σ σ':St}{H H' H'':Hp}{fps fps' fps'':Fps}{vs vs':List Nat}{D:Ends}
def sExc (c:Nat):Fs:=λ _=>.exc c
theorem qmu {c:Nat} (hq:tS M (sExc c) D σ H):M.W σ c H:=by
 obtain ⟨ρ,fps,rep,q⟩:=hq
 exact q σ H fps KS.refl
def RrOk (M:Fm) (D:Ends) (σ:St) (H:Hp) (fps:Fps):Rs->Prop
 | .exc c=>∀ H' fps',KD M H fps H' fps'->M.W σ c H'
 | .nx ρ'=>RsOk M D H fps (.nx ρ')
 | .rt x d ρ'=>RsOk M D H fps (.rt x d ρ')
 | _=>False
def tR (M:Fm) (f:Fs):TS:=λ D σ H=>∃ ρ fps,Rep M ρ σ H fps/\RrOk M D σ H fps (f ρ)
theorem RrOk.from {r:Rs} (k1:KD M H fps H' fps') (q:RrOk M D σ H fps r):RrOk M D σ H' fps' r:=by
 cases r with
 | no=>exact q
 | exc c=>exact λ H2 fps2 k=>q H2 fps2 (k1.trans k)
 | rt x d ρ2=>exact RsOk.from (r:=.rt x d ρ2) k1.ks q
 | nx ρ2=>exact RsOk.from (r:=.nx ρ2) k1.ks q
 | bk ρ2=>exact q
 | ct ρ2=>exact q
theorem qjo {f:Fx} (hq:tR M (zzq f) D σ H):qc6 (tE M f vs) D σ H:=by
 obtain ⟨ρ,fps,rep,q⟩:=hq
 cases ef:f ρ with
 | ok p=>
  refine qc3 (M:=M) ⟨ρ,fps,rep,?_⟩
  unfold zzq at q ⊢
  rw [ef] at q ⊢
  exact q
 | no=>
  unfold zzq at q
  rw [ef] at q
  exact q.elim
 | exc c=>
  unfold zzq at q
  rw [ef] at q
  refine ⟨ρ,fps,rep,?_⟩
  rw [ef]
  exact q
theorem qmx {f:Fx}{i:Nat}{ms:Bool} (hal:∀ i,M.al i=[]) (hv:∀ i∈vs,M.Ms i=false) (hms:M.Ms i=ms) (hio:M.Fre i) (hq:tR M (sSet ms i f vs) D σ H):tAsg (tE M f vs) (zjf i) D σ H:=by
 obtain ⟨ρ,fps,rep,q⟩:=hq
 cases ef:f ρ with
 | ok p=>
  refine qcy hal hv hms hio ⟨ρ,fps,rep,?_⟩
  cases er:sSet ms i f vs ρ with
  | nx ρ'=>rw [er] at q;exact q
  | rt x d ρ'=>rw [er] at q;exact q
  | exc c=>
   obtain ⟨x,d,ρ1⟩:=p
   unfold sSet at er
   rw [ef] at er
   dsimp only at er
   split at er <;> cases er
  | no=>rw [er] at q;exact q.elim
  | bk ρ'=>rw [er] at q;exact q.elim
  | ct ρ'=>rw [er] at q;exact q.elim
 | no=>
  unfold sSet at q
  rw [ef] at q
  exact q.elim
 | exc c=>
  unfold sSet at q
  rw [ef] at q
  refine ⟨ρ,fps,rep,?_⟩
  rw [ef]
  exact q
theorem qpr {c:Fb}{f g:Fs} (hq:tR M (sIf c f g) D σ H):tIfS (tT M c) (tR M f) (tR M g) D σ H:=by
 obtain ⟨ρ,fps,rep,q⟩:=hq
 refine ⟨ρ,fps,rep,?_⟩
 unfold sIf at q
 cases ec:c ρ with
 | no=>rw [ec] at q;exact q
 | exc c=>rw [ec] at q;exact q
 | ok p=>
  obtain ⟨b,ρ1⟩:=p
  rw [ec] at q
  intro H1 fps1 k1 g1 rep1
  dsimp only at q
  cases b with
  | true=>exact ⟨ρ1,fps1,rep1,RrOk.from k1 q⟩
  | false=>exact ⟨ρ1,fps1,rep1,RrOk.from k1 q⟩
def clr (ms:List Nat) (ρ:Rho):Bool:=ms.all λ k=>match ρ[k]? with
 | some (some (.non,_))=>true
 | some (some _)=>false
 | _=>true
def sTry (d i j:Nat) (ms:List Nat) (b:Fs):Fs:=λ ρ=>match b ρ with
 | .nx ρ'=>.nx ρ'
 | .rt y e ρ'=>.rt y e ρ'
 | .exc c=>if isX c d=true/\i < ρ.length/\clr ms ρ=true then .nx ((ρ.set i (some (.exn c,om))).set j none) else .no
 | _=>.no
def Fm.want (M:Fm) (W':St->Nat->Hp->Prop):Fm:={ M with W:=W' }
theorem Rep.want {W':St->Nat->Hp->Prop} (r:Rep M ρ σ H fps):Rep (M.want W') ρ σ H fps:=⟨r.own,r.non,r.dj,r.zo,r.fr,r.zd,r.len,r.msf,r.h0,r.iov⟩
theorem Rep.unwant {W':St->Nat->Hp->Prop} (r:Rep (M.want W') ρ σ H fps):Rep M ρ σ H fps:=⟨r.own,r.non,r.dj,r.zo,r.fr,r.zd,r.len,r.msf,r.h0,r.iov⟩
theorem Rep.gone {j:Nat} (hal:∀ i,M.al i=[]) (r:Rep M ρ σ H fps) (hio:M.Fre j):Rep M (ρ.set j none) (σ.set j none) H (λ k=>if k=j then [] else fps k):=by
 have sub:∀ k,∀ a∈(if k=j then [] else fps k),a∈fps k:=λ k a h=>by
  by_cases e:k=j
  ·rw [if_pos e] at h;cases h
  ·rw [if_neg e] at h;exact h
 have get:∀ k p,(ρ.set j none)[k]?=some (some p)->k≠j/\ρ[k]?=some (some p):=λ k p e=>by
  by_cases ek:k=j
  ·subst ek
   by_cases hl:k < ρ.length
   ·rw [jc7 hl] at e;cases e
   ·rw [List.set_eq_of_length_le (by omega)] at e
    rw [jf8 (by omega)] at e;cases e
  ·rw [jb7 (Ne.symm ek)] at e;exact ⟨ek,e⟩
 refine ⟨λ k x d e=>?_,λ k h=>?_,λ k l hkl a ha hb=>r.dj k l hkl a (sub k a ha) (sub l a hb),λ k a ha=>r.zo k a (sub k a ha),λ k hk a ha=>r.fr k hk a (sub k a ha),r.zd,by rw [jf3,jf3];exact r.len,λ k x d hk e=>r.msf k x d hk (get k _ e).2,r.h0,?_⟩
 ·obtain ⟨ek,e'⟩:=get k _ e
  obtain ⟨v,hv,o⟩:=r.own k x d e'
  refine ⟨v,by rw [jb7 (Ne.symm ek)];exact hv,?_⟩
  rw [if_neg ek]
  refine o.weak λ a h=>?_
  rcases h with h | ⟨l,nl,h⟩
  ·exact .inl h
  ·exact .inr ⟨l,nl,sub l a h⟩
 ·by_cases ek:k=j
  ·rw [if_pos ek]
  ·rw [if_neg ek]
   exact r.non k λ p e=>h p (by rw [jb7 (Ne.symm ek)];exact e)
 ·refine ⟨λ v hv=>?_,λ p hp=>?_⟩
  ·have:=r.iov.1 v hv
   have h0:=hio.1 (by rw [hv];simp)
   rw [jb7 h0]
   exact this
  ·rw [jb7 (hio.2 p hp).symm]
   exact r.iov.2 p hp
theorem qmq {d i j:Nat}{ms:List Nat}{b:Fs} (hal:∀ i,M.al i=[]) (hms:∀ i,M.Ms i=ms.contains i) (hmi:M.Ms i=false) (hij:i≠j) (hoi:M.Fre i) (hoj:M.Fre j) (hq:tS M (sTry d i j ms b) D σ H):tR (M.want (WT M.K d i j D σ)) b D σ H:=by
 obtain ⟨ρ,fps,rep,q⟩:=hq
 refine ⟨ρ,fps,rep.want,?_⟩
 unfold sTry at q
 have ks:∀ {H':Hp}{fps':Fps},KS (M.want (WT M.K d i j D σ)) H fps H' fps'->KS M H fps H' fps':=λ k=>⟨k.keep,k.dom,k.sub⟩
 cases eb:b ρ with
 | no=>rw [eb] at q;exact q
 | bk ρ'=>rw [eb] at q;exact q
 | ct ρ'=>rw [eb] at q;exact q
 | nx ρ'=>rw [eb] at q;exact λ σ' H' fps' k r=>q σ' H' fps' (ks k) r.unwant
 | rt x e ρ'=>rw [eb] at q;exact λ v σ' H' fps' fp k r o hf=>q v σ' H' fps' fp (ks k) r.unwant o hf
 | exc c=>
  rw [eb] at q
  dsimp only at q
  split at q
  ·rename_i hc
   intro H' fps' k
   refine ⟨rfl,hc.1,λ a C ha hC=>?_⟩
   have kk:∀ b o,H b=some o->H' b=some o:=λ b o h=>k.keep b o h λ ⟨l,hl,hb⟩=>by
    have hl:M.Ms l=true:=hl
    rw [hms l] at hl
    have hm:l∈ms:=by simpa using hl
    have hc3:=jb9.mp hc.2.2 l hm
    have e:fps l=[]:=by
     cases el:ρ[l]? with
     | none=>exact rep.non l λ p z=>by rw [el] at z;cases z
     | some q=>
      cases q with
      | none=>exact rep.non l λ p z=>by rw [el] at z;cases z
      | some p=>
       obtain ⟨x,dx⟩:=p
       rw [el] at hc3
       cases x <;> first | (obtain ⟨v,_,o⟩:=rep.own l _ _ el;rw [Own] at o;exact o.2) | exact nomatch hc3
    rw [e] at hb
    cases hb
   have k2:∀ b o,H b=some o->upd H' a (.ext (zjg a C)) b=some o:=λ b o h=>by
    rw [zqp (zzh (kk b o h) ha)];exact kk b o h
   have r2:=(rep.grow k2).bind1 (al:=[]) (i:=i) (y:=.exn c) (v:=.ref a) (by rw [Own];exact ⟨rfl,a,C,rfl,hC,zqv⟩) hc.2.1 ⟨hmi,hoi,hal i,λ l m hm=>by rw [hal l] at hm;cases hm⟩
   have r3:=r2.gone (j:=j) hal hoj
   have es:((σ.set j (some (V.ref a))).set i (some (V.ref a))).set j none=(σ.set i (some (V.ref a))).set j none:=by
    rw [List.set_comm _ _ (Ne.symm hij),List.set_set]
   rw [es]
   refine q _ _ _ ⟨λ b o h _=>k2 b o h,λ b h=>?_,λ l b hb=>?_⟩ r3
   ·cases e:H b with
    | none=>exact absurd e h
    | some o=>rw [k2 b o e];simp
   ·by_cases e1:l=j
    ·simp only [if_pos e1] at hb;cases hb
    ·simp only [if_neg e1] at hb
     by_cases e2:l=i
     ·simp only [if_pos e2] at hb;cases hb
     ·simp only [if_neg e2] at hb;exact .inl ⟨l,hb⟩
  ·exact q.elim
end
section
variable {X:Cx}{M:Fm}{ρ:Rho}{σ:St}{H:Hp}{fps:Fps}
theorem atI_last {ws:List V}{w:V}:atI (ws++[w]) (-1)=some w:=by
 unfold atI
 have e:ixN (ws++[w]).length (-1)=some ws.length:=by
  unfold ixN
  rw [jb4,jd7]
  rw [if_neg (by decide),if_pos (by omega)]
  congr 1
  omega
 rw [e]
 show (ws++[w])[ws.length]?=some w
 simp
end
def qbh:Expr->Bool
 | .ListComp _ _ _ _=>true
 | .SetComp _ _ _ _=>true
 | .DictComp _ _ _ _ _=>true
 | _=>false
def qp7:Expr->Bool
 | .Tuple _ _ _=>true
 | .List _ _=>true
 | _=>false
def zqq (d:Stmt->Option Fs):List Stmt->Option Fs
 | []=>some sNil
 | [s]=>d s
 | s::r=>match d s,zqq d r with
  | some f,some g=>some (sSeq f g)
  | _,_=>none
def locB (S:Sx) (x:Str):Bool:=zwm S.sc x .local || zwm S.sc x .cell
def zmz (S:Sx) (i:Nat):Bool:=(decide (i≠0) || !S.msF 0) && !S.pn.contains i
def qnn (iw:Iw) (asg:PV->Rho->Option Rho) (body:Fs):Fs:=match iw with
 | .rng en fa _=>zkj en fa asg body
 | .seq f vs=>zwk f vs asg body
 | .vw v fa vs=>zkm v fa vs asg body
def qpi:Operator->Option ((Int->Int->Int)×Bool)
 | .Add=>some (λ i j=>i + j,true)
 | .Sub=>some (λ i j=>i - j,false)
 | _=>none
def zba (S:Sx):List Expr->Option (List Nat)
 | []=>some []
 | .Name x _::r=>match S.slot x,zba S r with
  | some i,some is=>if locB S x=true/\zmz S i=true/\S.msF i=false then some (i::is) else none
  | _,_=>none
 | _=>none
def zmq (S:Sx) (x:Str):Option Nat:=match XN.findIdx? (·== x) with
 | some c=>if S.rz=true/\S.xc.contains c=true/\S.glob x=true then some c else none
 | none=>none
def Sx.nr (S:Sx):Sx:={ S with rz:=false }
def qe7:Nat->Sx->List Stmt->Option Fs
 | 0,_,_=>none
 | n + 1,S,sts=>match sts with
  | [.Expr (.Call (.Name x p) es [] p1) _]=>(match den 60 S (.Call (.Name x p) es [] p1) with
   | some (f,_)=>some (zzq f)
   | none=>none)
  | [.Assign [.Name x _] e _]=>(match S.slot x,den 60 S e with
   | some i,some (f,vs)=>if locB S x=true/\zmz S i=true/\qbh e=false then some (sSet (S.msF i) i f vs) else none
   | _,_=>none)
  | [.If c a b _]=>(match den 60 S c,qe7 n S a,qe7 n S b with
   | some (f,_),some s,some t=>some (sIf (bT f) s t)
   | _,_,_=>none)
  | _=>none
def denA (S:Sx):Expr->Option D2
 | .Dict [] [] _=>some (bDct,[])
 | e=>den 60 S e
def qo6 (S:Sx) (x at':Str) (apos:Pos) (e:Expr) (cpos:Pos):Option Fs:=if at' = "append" then (match S.slot x,den 60 S e with
   | some i,some (f,vs)=>if S.msF i=false/\(apos.endLine == cpos.line)=true then some (sApp i f vs) else none
   | _,_=>none) else none
def qo5 (S:Sx) (o:Expr) (at':Str) (apos:Pos) (e:Expr) (cpos:Pos):Option Fs:=match o with
 | .Subscript b i _=>(match nmE b with
  | some x=>(match S.slot x,den 60 S i,den 60 S e with
   | some s,some (fi,_),some (f,_)=>if at' = "append" /\ S.msF s=false/\zfd i=true/\(apos.endLine == cpos.line)=true then some (zgg s fi f) else none
   | _,_,_=>none)
  | none=>none)
 | _=>none
def denX (S:Sx):Expr->Option Fs
 | .Call fn es [] p1=>(match fn with
  | .Attribute o at' apos=>(match nmE o,es with
   | some x,[e]=>qo6 S x at' apos e p1
   | none,[e]=>qo5 S o at' apos e p1
   | _,_=>none)
  | .Name x p=>(match den 60 S (.Call (.Name x p) es [] p1) with
   | some (f,_)=>some (zzq f)
   | none=>none)
  | _=>none)
 | _=>none
def qd7:PV->Nat->PV->Nat->Option (PV×Nat)
 | .lst xs,d,.int i,_=>(atI xs i).map λ z=>(z,if d=om then om else dv z)
 | _,_,_,_=>none
theorem OwnL.nthF {K:Frag}{H:Hp}{Z:Addr->Prop}{d:Nat}{x:PV}:∀ {xs:List PV}{ws:List V}{f:List Addr}{j:Nat},OwnL K H Z xs d ws f->xs[j]?=some x->∃ w fx,ws[j]?=some w/\Own K H Z x d w fx/\∀ a∈fx,a∈f
 | [],_,_,_,_,e=>by cases e
 | y::ys,ws,f,j,h,e=>by
  rw [OwnL] at h
  obtain ⟨v,s,f1,f2,rfl,rfl,_,h1,h2⟩:=h
  cases j with
  | zero=>cases e;exact ⟨v,f1,rfl,h1,λ a ha=>ja9 _ ha⟩
  | succ j=>
   obtain ⟨w,fx,e1,o,s'⟩:=h2.nthF (j:=j) (by simpa using e)
   exact ⟨w,fx,by simpa using e1,o,λ a ha=>ja7 _ (s' a ha)⟩
def omF:List (PV×Nat)->Bool
 | []=>true
 | p::r=>((p.2 == om) || qhg p.1) && omF r
def qd6 (xs:List (PV×Nat)):Option (PV×Nat):=if xs.length<=sizeLine then some (.lst (xs.map (·.1)),if omF xs then om else 1) else none
theorem Tmps.allF {K:Frag}{H:Hp}{Z:Addr->Prop}:∀ {xs:List (PV×Nat)}{ws:List V}{fp:List Addr},Tmps K H Z xs ws fp->omF xs=true->OwnL K H Z (xs.map (·.1)) om ws fp
 | [],_,_,h,_=>by rw [jm9,OwnL];exact h
 | (x,d)::xs,ws,fp,h,ha=>by
  obtain ⟨v,s,f1,f2,e1,e2,dj,h1,h2⟩:=h
  unfold omF at ha
  rw [ja4,je7] at ha
  rw [jd5,OwnL]
  rcases ha.1 with e | e
  ·have e:d=om:=eq_of_beq e
   subst e
   exact ⟨v,s,f1,f2,e1,e2,dj,Own.full x v f1 h1,h2.allF ha.2⟩
  ·obtain ⟨rfl,o⟩:=Own.flatA (Z':=Z) (d':=om) e h1
   exact ⟨v,s,[],f2,e1,e2,dj,o,h2.allF ha.2⟩
section
variable {X:Cx}{M:Fm}{a b:Expr}{es:List Expr}{fa:Fa}{f g:Fx}{vs vs':List Nat}{pos:Pos}
theorem qj4 (h:PA X es (tL M fa vs)):PE X (.List es pos) (tE M (zqb qd6 fa) vs):=by
 refine zqt (qir h) λ σ H Q h=>zmj (r:=λ xs H1 Q=>xs.length<=sizeLine/\∀ p,H1 p=none->Q (.ref p) (upd H1 p (.lst xs))) (λ xs z c ws H fps fp Q ho tm nz zd lf=>?_) h
 unfold qd6 at ho
 split at ho
 ·rename_i hl
  refine ⟨by rw [tm.length];exact hl,λ q hq=>?_⟩
  cases eo:omF xs with
  | true=>rw [eo] at ho;cases ho;exact zyq lf (tm.allF eo) hq
  | false=>rw [eo] at ho;cases ho;exact zbn lf (tm.cold λ a ha z=>nz a ha z.zf) hq
 ·cases ho
theorem qj9 (hv:∀ i∈vs,M.Ms i=false) (hs:zfv b) (ha:PE X a (tE M f vs)) (hb:PE X b (tE M g vs')):PE X (.Subscript a b pos) (tE M (bBin qd7 f g) (vs++vs')):=by
 refine zqt (qkn qiv ha hb hs) λ σ H Q h=>zzs hv (λ x d y e z c v w H fps f1 f2 Q ho o1 o2 dj nz zd lf=>?_) h
 unfold qd7 at ho
 split at ho
 ·rename_i xs i
  obtain ⟨z',ez,e2⟩:=jb5.mp ho
  rw [Own] at o2
  by_cases hd:d=om
  ·subst hd
   rw [if_pos rfl] at e2
   cases e2
   obtain ⟨p,ws,fc,rfl,hp,rfl,nac,ol⟩:=o1.list (by decide:om≠0)
   rw [qd3] at ol
   unfold atI at ez
   cases ej:ixN xs.length i with
   | none=>rw [ej] at ez;cases ez
   | some j=>
    rw [ej] at ez
    obtain ⟨w',fz,e1,ow,sb⟩:=ol.nthF ez
    refine .inl ⟨p,ws,i,w',rfl,o2.1,.inl (.inl hp),?_,lf w' H fz (λ _ _ h=>h) (Own.full _ _ _ ow) λ a ha=>.inl (ja9 _ (ja2 _ (sb a ha)))⟩
    unfold atI
    rw [ol.length,ej]
    exact e1
  ·rw [if_neg hd] at e2
   cases e2
   obtain ⟨p,ws,rfl,hp,ol⟩:=(cold o1 λ a ha=>nz a (ja9 _ ha)).coldL
   obtain ⟨w',e1,ow⟩:=qam ol ez
   exact .inl ⟨p,ws,i,w',rfl,o2.1,.inl (.inl hp),e1,zvb lf ow⟩
 ·cases ho
end
def denO (S:Sx) (e:Expr):Option D2:=match e with
 | .Subscript (.List es _) b _=>(match zbu (den 60 S) es,den 60 S b with
  | some (fa,v),some (g,u)=>if zfd b=true then some (bBin qd7 (zqb qd6 fa) g,v++u) else none
  | _,_=>none)
 | e=>den 60 S e
def putV (S:Sx) (x:Str) (k e:Expr):Option Fs:=match nmE k,e with
 | some z,.Subscript (.Name _ _) _ _=>(match S.slot x,S.slot z,den 60 S e with
  | some i,some j,some (f,vs)=>if S.msF i=false then some (qb9 i j f vs) else none
  | _,_,_=>none)
 | _,_=>none
def qi3 (S:Sx) (t k e:Expr):Option Fs:=match t with
 | .Name x _=>putV S x k e
 | _=>none
def qi7 (S:Sx) (t e:Expr):Option Fs:=match t with
 | .Tuple es k p=>(match zba S es,den 60 S e with
   | some is,some (f,vs)=>if qbh e=false/\qp7 e=false then some (sUnp (asgT is) f vs) else none
   | _,_=>none)
 | .Name x _=>(match S.slot x,denA S e with
   | some i,some (f,vs)=>if locB S x=true/\zmz S i=true then some (sSet (S.msF i) i f vs) else none
   | _,_=>none)
 | .Subscript t k _=>qi3 S t k e
 | _=>none
def qai (d:Stmt->Option Fs) (S:Sx) (body:List Stmt):Option Fs:=zqq d body
def qi5 (d:Stmt->Option Fs) (S:Sx) (t it:Expr) (body:List Stmt):Option Fs:=match t with
 | .Name x p=>(match S.slot x,denI (den 60 S) S it,qai d S body with
    | some i,some iw,some b=>if locB S x=true/\zmz S i=true/\S.msF i=false/\twOk (.Name x p) iw=true then some (qnn iw (asgN i) b) else none
    | _,_,_=>none)
 | .Tuple es k p=>(match zba S es,denI (den 60 S) S it,qai d S body with
   | some is,some iw,some b=>some (qnn iw (asgT is) b)
   | _,_,_=>none)
 | _=>none
def qi2 (S:Sx) (e:Expr):Option Fs:=match nmE e with
 | some x=>(match S.slot x with
   | some i=>if S.msF i=true then none else some (zjc i)
   | none=>none)
 | none=>(match den 60 S e with
   | some (f,vs)=>some (sRet f)
   | none=>none)
def qi6 (S:Sx) (t:Expr) (op:Operator) (e:Expr):Option Fs:=match t with
 | .Name x _=>(match S.slot x,den 60 S e,qpi op with
  | some i,some (f,_),some (g,sd)=>if locB S x=true/\zmz S i=true/\S.msF i=false then some (sAug g sd i f) else none
  | _,_,_=>none)
 | _=>none
def Sx.bare (S:Sx):Sx:={ S with ms:=[] }
def denT (S:Sx) (c:Expr):Option D2:=(den 60 S c).or (den 60 S.bare c)
def zyc (d:Stmt->Option Fs) (S:Sx):Stmt->Option Fs
 | .Raise (some (.Call (.Name x _) [.Constant (.str _) _ _] [] _)) none _=>match zmq S x with
  | some c=>some (sExc c)
  | none=>some sNo
 | .Raise _ _ _=>some sNo
 | .Try body [.ExceptHandler (some (.Name y _)) (some n) [.Assign [.Name x _] (.Name n' _) _] _] [] [] _=>match S.slot x,S.slot n,XN.findIdx? (·== y),qe7 10 S.nr body with
  | some i,some j,some d,some b=>if n'=n/\i≠j/\locB S x=true/\zwm S.sc n .local=true/\zmz S i=true/\zmz S j=true/\S.msF i=false/\S.xc.contains d=true/\S.glob y=true then some (sTry d i j S.ms b) else none
  | _,_,_,_=>none
 | .Expr v _=>denX S v
 | .Assign [t] e _=>qi7 S t e
 | .If c a b _=>match denT S c,zqq d a,zqq d b with
  | some (f,_),some s,some t=>some (sIf (bT f) s t)
  | _,_,_=>none
 | .For t it body [] _=>qi5 d S t it body
 | .While c body [] _=>match denT S c,zqq d body with
  | some (f,_),some b=>some (qay (bT f) b)
  | _,_=>none
 | .AugAssign t op e _=>qi6 S t op e
 | .Return (some e) _=>qi2 S e
 | _=>none
def qe9:Nat->Sx->Stmt->Option Fs
 | 0,_,_=>none
 | n + 1,S,st=>some ((zyc (qe9 n S) S st).getD sNo)
section
variable {X:Cx}{P:Program}{w:World}{K:Frag}{mg:Str->Option Value}{base:Heap}{lvl:Nat}{S:Sx}{Wx:St->Nat->Hp->Prop}{M:Fm}{f g:Fx}{vs vs':List Nat}{σ:St}{H:Hp}{Q:VK}
structure SM (X:Cx) (M:Fm) (K:Frag) (S:Sx) (Wx:St->Nat->Hp->Prop):Prop where
 ms:MS M K S Wx
 al:∀ i,M.al i=[]
 io:M.io≠none->S.msF 0=true
 pn:∀ p∈M.pn,p.1∈S.pn
 fn:∀ x,X.fn x=true
 nd:S.N.Nodup
 st:X.stack=X.env::X.outer
 fr:X.env.frame=some X.env.locals
def qao (P:Program) (w:World) (K:Frag) (mg:Str->Option Value) (base:Heap) (lvl:Nat) (S:Sx) (st:Stmt) (f:Fs):Prop:=∀ {Wx} X M,XS X P w K mg base lvl S Wx->SM X M K S Wx->PS X st (tS M f)
theorem zvg {d:Stmt->Option Fs} (hd:∀ st f,d st=some f->qao P w K mg base lvl S st f):∀ (sts:List Stmt) (f:Fs),zqq d sts=some f->∀ {Wx} X M,XS X P w K mg base lvl S Wx->SM X M K S Wx->PSs X sts (tS M f)
 | [],f,h=>by cases h;exact λ X M xs sm=>qdn qkk λ D σ H q=>qmt q
 | [s],f,h=>λ X M xs sm=>zbe (hd s f h X M xs sm)
 | s::s'::r,f,h=>by
  unfold zqq at h
  split at h
  ·rename_i f1 f2 h1 h2
   cases h
   exact λ X M xs sm=>qdn (qgm (hd s f1 h1 X M xs sm) (zvg hd (s'::r) f2 h2 X M xs sm)) λ D σ H q=>qmr q
  ·cases h
theorem zvh {x:Str}{i:Nat} (h:S.slot x=some i):S.N[i]?=some x:=by
 unfold Sx.slot at h
 split at h
 ·exact zjo h
 ·cases h
theorem zpp {x:Str} (h:locB S x=true):Loc S.sc x:=by
 unfold locB at h
 rw [je7] at h
 exact h.elim (λ h=>.inl (zxv h)) λ h=>.inr (zxv h)
theorem zzu {i:Nat} (h:zmz S i=true) (sm:SM X M K S Wx):M.Fre i:=by
 unfold zmz at h
 rw [ja4,je7] at h
 refine ⟨λ hio=>?_,λ p hp e=>?_⟩
 ·rcases h.1 with h | h
  ·simpa using h
  ·rw [sm.io hio] at h;cases h
 ·have z:=sm.pn p hp
  rw [e] at z
  have h2:=h.2
  rw [List.contains_iff_mem.mpr z] at h2
  cases h2
theorem qc9 {e:Expr}{t:Option Expr}{l:Nat}{env:Env} (h:qbh e=false):swapsWith e t l env=pure false:=by
 cases e with
 | ListComp _ _ _ _=>cases h
 | SetComp _ _ _ _=>cases h
 | DictComp _ _ _ _ _=>cases h
 | _=>rfl
theorem qhj (GX:GX K mg S.xc) (G:GS P w K mg base lvl S.Γ) (Gm:GSm P w K mg base lvl S.Γm) (hS:∀ i,∀ j∈S.alF i,S.msF j=false) {n:Nat}{elt:Expr}{gs:List Comprehension}{scope:Scope}{pos:Pos} (h:den (n + 1) S (.ListComp elt gs scope pos)=some (f,vs)):
  ∃ tg ys asg it ifs iw t g vE,gs=[⟨tg,it,ifs,0⟩]/\CompParts P w K mg base lvl S scope tg ys asg it elt ifs iw t g vE/\f=qfy iw ys.length asg t g/\vs=iw.vs++vE.filter (λ i=>decide (i < S.N.length)):=by
 have hd:∀ e f vs,den n S e=some (f,vs)->Good P w K mg base lvl S e f vs:=λ e f vs h=>zpw GX G Gm n S e f vs rfl rfl rfl hS h
 replace h:zvl (den n) S (.ListComp elt gs scope pos)=some (f,vs):=h
 match gs,h with
 | [],h=>simp [zvl] at h
 | _::_::_,h=>simp [zvl] at h
 | [⟨tg,it,ifs,a⟩],h=>
  by_cases ha:a=0
  ·subst ha
   replace h:(match tgA S.N.length tg,denI (den n S) S it with
    | some (xs,asg),some iw=>if zfq S scope xs iw.vs=true/\twOk tg iw=true then (match qbo (den n (zxg S scope xs iw.vs)) ifs,den n (zxg S scope xs iw.vs) elt with
     | some t,some (g,vE)=>some (qfy iw xs.length asg t g,iw.vs++vE.filter (λ i=>decide (i < S.N.length)))
     | _,_=>none) else none
    | _,_=>none)=some (f,vs):=h
   split at h
   ·rename_i ys asg iw ht hi
    split at h
    ·rename_i hc
     split at h
     ·rename_i t g vE h1 h2
      cases h
      have ck:=qi8 hc.1
      have giw:=zfm hd (zfl n S) G.1 hi
      have hS2:∀ i,∀ j∈(zxg S scope ys iw.vs).alF i,(zxg S scope ys iw.vs).msF j=false:=λ i j hj=>by
       rw [zfu] at hj
       show S.msF j=false
       split at hj
       ·exact hS i j hj
       ·split at hj
        ·exact giw.1 j hj
        ·cases hj
      have hd2:∀ e f vs,den n (zxg S scope ys iw.vs) e=some (f,vs)->Good P w K mg base lvl (zxg S scope ys iw.vs) e f vs:=λ e f vs h=>zpw GX G Gm n _ e f vs rfl rfl rfl hS2 h
      exact ⟨tg,ys,asg,it,ifs,iw,t,g,vE,rfl,⟨ht,hc.2,ck,giw,hd2 _ _ _ h2,zgw hd2 h1⟩,rfl,rfl⟩
     ·cases h
    ·cases h
   ·cases h
  ·simp [zvl,ha] at h
theorem zzv (xs:XS X P w K mg base lvl S Wx):PassesOwn (model X.prog X.w) X.A X.env X.xe:=xs.po
theorem zjz {es:List Expr}{is:List Nat} (h:zba S es=some is) (xs:XS X P w K mg base lvl S Wx) (sm:SM X M K S Wx):PGs X es (zps is)/\(assignEach es X.env).length=is.length/\(assignEach es X.env).findIdx? (·.1)=none/\∀ i∈is,Bd M [] i:=by
 induction es generalizing is with
 | nil=>cases h;exact ⟨qdx,rfl,rfl,λ _ z=>nomatch z⟩
 | cons e es ih=>
  unfold zba at h
  split at h
  ·cases ‹_::_=[]›
  ·rename_i x px r heq
   cases heq
   split at h
   ·rename_i i js hi hr
    split at h
    ·rename_i hc
     cases h
     obtain ⟨h1,h2,h3,h4⟩:=ih hr
     have hN:X.N.Nodup:=by rw [xs.N];exact sm.nd
     have hi':X.N[i]?=some x:=by rw [xs.N];exact zvh hi
     have hx:Loc X.env.scope x:=by rw [xs.sc];exact zpp hc.1
     refine ⟨qa3 (zmu hN hi' hx (.inl (sm.fn x))) h1 rfl,by rw [assignEach,jb1,h2,jb1] <;> (intros;contradiction),?_,λ j hj=>?_⟩
     ·rw [assignEach,jl5,h3] <;> first | rfl | (intros;contradiction)
     ·rcases jb0.mp hj with z | z
      ·rw [z];exact ⟨by rw [sm.ms.ms];exact hc.2.2,zzu hc.2.1 sm,sm.al i,sm.ms.als⟩
      ·exact h4 j z
    ·cases h
   ·cases h
  ·cases h
theorem zkp {x:Str}:∀ {l:List Str}{c:Nat},l.findIdx? (·== x)=some c->l[c]?=some x
 | [],c,h=>by simp at h
 | y::r,c,h=>by
  rw [jl5] at h
  split at h
  ·rename_i e
   cases h
   rw [List.getElem?_cons_zero,eq_of_beq e]
  ·cases e:r.findIdx? (·== x) with
   | none=>rw [e] at h;cases h
   | some k=>
    rw [e] at h
    cases h
    rw [jh5]
    exact zkp e
theorem qca {x:Str}{c:Nat} (h:zmq S x=some c):S.rz=true/\c∈S.xc/\S.glob x=true/\XN[c]?=some x:=by
 unfold zmq at h
 split at h
 ·rename_i c' e
  split at h
  ·rename_i hc
   cases h
   exact ⟨hc.1,by simpa using hc.2.1,hc.2.2,zkp e⟩
  ·cases h
 ·cases h
theorem qgk {x m:Str}{c:Nat}{np cpos pos p:Pos}{j:Nat}{t:TS} (GX:GX K mg S.xc) (h:zmq S x=some c) (xs:XS X P w K mg base lvl S Wx) (hW:M.W=Wx) (hq:∀ D σ H,t D σ H->M.W σ c H):PS X (.Raise (some (.Call (.Name x np) [.Constant (.str m) j p] [] cpos)) none pos) t:=by
 obtain ⟨h1,h2,h3,h4⟩:=qca h
 obtain ⟨ht,_,hc⟩:=GX (λ z=>by rw [z] at h2;cases h2)
 obtain ⟨x',C,e1,e2,e3,e4⟩:=hc c h2
 rw [h4] at e1
 cases e1
 refine zxs (qgp (W:=Wx) (xs.rs h1) (by rw [xs.K];exact ht) xs.calm (by rw [xs.K];exact e2) (xs.gl h3) (by rw [xs.mg];exact e3) e4) λ D σ H q=>?_
 rw [<- hW]
 exact hq D σ H q
theorem qhk (GX:GX K mg S.xc) (G:GS P w K mg base lvl S.Γ) (Gm:GSm P w K mg base lvl S.Γm) (hS:∀ i,∀ j∈S.alF i,S.msF j=false):∀ (n:Nat) (sts:List Stmt) (f:Fs),qe7 n S sts=some f->∀ {Wx} X M,XS X P w K mg base lvl S Wx->SM X M K S Wx->PSs X sts (tR M f):=by
 have hd:∀ e f vs,den 60 S e=some (f,vs)->Good P w K mg base lvl S e f vs:=λ e f vs h=>zpw GX G Gm 60 S e f vs rfl rfl rfl hS h
 intro n
 induction n with
 | zero=>intro sts f h;cases h
 | succ n ih=>
  intro sts f h
  unfold qe7 at h
  split at h
  ·split at h
   ·rename_i f1 v1 he
    cases h
    intro Wx X M xs sm
    exact zbe (zxs (zms ((hd _ _ _ he).2.2 X M xs sm.ms).1 rfl) λ D σ H q=>qjo q)
   ·cases h
  ·rename_i x px e pos
   split at h
   ·rename_i i f1 v1 hi he
    split at h
    ·rename_i hc
     cases h
     have g:=hd _ _ _ he
     intro Wx X M xs sm
     have hN:X.N.Nodup:=by rw [xs.N];exact sm.nd
     have hi':X.N[i]?=some x:=by rw [xs.N];exact zvh hi
     have hx:Loc X.env.scope x:=by rw [xs.sc];exact zpp hc.1
     have mi:M.Ms i=S.msF i:=by rw [sm.ms.ms]
     exact zbe (zxs (qa2 hN hi' hx (g.2.2 X M xs sm.ms).1 (qc9 hc.2.2) (.inl (sm.fn x))) λ D σ H q=>qmx sm.al (sm.ms.v g.1) mi (zzu hc.2.1 sm) q)
    ·cases h
   ·cases h
  ·split at h
   ·rename_i f1 v1 s t hc ha hb
    cases h
    intro Wx X M xs sm
    exact zbe (zxs (qnw ((hd _ _ _ hc).2.2 X M xs sm.ms).2 (ih _ _ ha X M xs sm) (ih _ _ hb X M xs sm)) λ D σ H q=>qpr q)
   ·cases h
  ·cases h
def Fm.bare (M:Fm):Fm:={ M with Ms:=λ _=>false,H₀:=λ _=>none,io:=none,pn:=[] }
theorem Rep.bare {ρ:Rho}{fps:Fps} (r:Rep M ρ σ H fps):Rep M.bare ρ σ H fps where
 own:=r.own
 non:=r.non
 dj:=r.dj
 zo:=r.zo
 fr:=λ _ _ _ _=>rfl
 zd:=r.zd
 len:=r.len
 msf:=λ _ _ _ h=>nomatch h
 h0:=λ _ h=>absurd rfl h
 iov:=And.intro (λ _ h=>nomatch h) (λ _ h=>nomatch h)
theorem qji {fb:Fb}{Q:Bool->Hp->Prop} (hq:tT M fb σ H Q):tT M.bare fb σ H Q:=by
 obtain ⟨ρ,fps,rep,q⟩:=hq
 refine ⟨ρ,fps,rep.bare,?_⟩
 have gr:∀ H' fps',KD M.bare H fps H' fps'->∀ a o,H a=some o->H' a=some o:=λ H' fps' k a o h=>k.keep a o h λ ⟨_,z,_⟩=>nomatch z
 cases e:fb ρ with
 | ok p=>
  obtain ⟨b,ρ'⟩:=p
  rw [e] at q
  intro H' fps' k ag _
  have e1:ρ'=ρ:=jo7 λ i=>ag.1 i rfl
  subst e1
  exact q H' fps (KD.grow (gr H' fps' k)) Agr.refl (rep.grow (gr H' fps' k))
 | exc c=>
  rw [e] at q
  intro H' fps' k
  exact q H' fps (KD.grow (gr H' fps' k))
 | no=>rw [e] at q;exact q
theorem qe8 (GX:GX K mg S.xc) (G:GS P w K mg base lvl S.Γ) (Gm:GSm P w K mg base lvl S.Γm) (hS:∀ i,∀ j∈S.alF i,S.msF j=false) {c:Expr}{f:Fx}{vs:List Nat} (h:denT S c=some (f,vs)) (xs:XS X P w K mg base lvl S Wx) (m:MS M K S Wx):PT X c (tT M (bT f)):=by
 unfold denT at h
 cases e:den 60 S c with
 | some p=>
  rw [e] at h
  cases h
  exact ((zpw GX G Gm 60 S c f vs rfl rfl rfl hS e).2.2 X M xs m).2
 | none=>
  rw [e] at h
  have h2:den 60 S.bare c=some (f,vs):=h
  have gd:=(zpw (S:=S) GX G Gm 60 S.bare c f vs rfl rfl rfl (λ _ _ _=>rfl) h2).2.2 X M.bare ⟨xs.prog,xs.w,xs.K,xs.mg,xs.base,xs.N,xs.sc,xs.calm,xs.room,xs.po,xs.ps,xs.rs⟩ ⟨m.K,rfl,m.al,λ _ _ _=>rfl,m.W,λ _ h=>nomatch h⟩
  exact zgi gd.2 λ σ H Q q=>qji q
theorem zpx {d:Stmt->Option Fs}{body:List Stmt}{f:Fs} (hd:∀ e f vs,den 60 S e=some (f,vs)->Good P w K mg base lvl S e f vs) (ih:∀ st f,d st=some f->qao P w K mg base lvl S st f) (h:qai d S body=some f):∀ {Wx} X M,XS X P w K mg base lvl S Wx->SM X M K S Wx->PSs X body (tS M f):=by
 exact zvg ih _ _ h
theorem qll {e:Expr}{f:Fx}{vs:List Nat} (hd:∀ e f vs,den 60 S e=some (f,vs)->Good P w K mg base lvl S e f vs) (h:denO S e=some (f,vs)):Good P w K mg base lvl S e f vs:=by
 unfold denO at h
 split at h
 ·split at h
  ·rename_i f1 v1 f2 v2 h1 h2
   split at h
   ·rename_i hn
    cases h
    have g1:=zzf hd _ _ _ h1
    have g2:=hd _ _ _ h2
    exact zqz (zxw g1.1 g2.1) rfl (λ _ _=>rfl) λ X M xs m=>qj9 (m.v g1.1) (zkb hn) (qj4 (g1.2.2 X M xs m)) (g2.2.2 X M xs m).1
   ·cases h
  ·cases h
 ·exact hd _ _ _ h
theorem qah (GX:GX K mg S.xc) (G:GS P w K mg base lvl S.Γ) (Gm:GSm P w K mg base lvl S.Γm) (hS:∀ i,∀ j∈S.alF i,S.msF j=false) {d:Stmt->Option Fs} (ih:∀ (st:Stmt) (f:Fs),d st=some f->qao P w K mg base lvl S st f):∀ (st:Stmt) (f:Fs),zyc d S st=some f->qao P w K mg base lvl S st f:=by
 have hd:∀ e f vs,den 60 S e=some (f,vs)->Good P w K mg base lvl S e f vs:=λ e f vs h=>zpw GX G Gm 60 S e f vs rfl rfl rfl hS h
 have hdO:∀ e f vs,denO S e=some (f,vs)->Good P w K mg base lvl S e f vs:=λ e f vs h=>qll hd h
 have hdA:∀ e f vs,denA S e=some (f,vs)->Good P w K mg base lvl S e f vs:=λ e f vs h=>by
  unfold denA at h
  split at h
  ·cases h
   exact zqz (λ _ z=>nomatch z) rfl (λ _ _=>rfl) λ X M xs m=>qnh
  ·exact hd _ _ _ h
 intro st f h
 have core:True->qao P w K mg base lvl S st f:=λ _=>by
  unfold zyc at h
  split at h
  ·rename_i x np m j p cpos pos
   split at h
   ·rename_i c hc
    cases h
    intro Wx X M xs sm
    exact qgk GX hc xs sm.ms.W λ D σ H q=>qmu q
   ·cases h
    intro Wx X M xs sm pins s σ H D I q
    exact (zmr pins s σ H D I (qjm (t:=qas) q))
  ·cases h
   intro Wx X M xs sm pins s σ H D I q
   exact (zmr pins s σ H D I (qjm (t:=qas) q))
  ·rename_i body y np n x px n' pn pa hpos pos
   split at h
   ·rename_i i j d b hi hj hd' hbd
    split at h
    ·rename_i hc
     obtain ⟨rfl,hij,hlx,hln,hoi,hoj,hms,hxc,hgy⟩:=hc
     cases h
     intro Wx X M xs sm
     have hdm:d∈S.xc:=by simpa using hxc
     obtain ⟨ht,_,hcs⟩:=GX (λ z=>by rw [z] at hdm;cases hdm)
     obtain ⟨y',C,hx',hC,hmg,hdb⟩:=hcs d hdm
     have ey:y'=y:=by
      have:=zkp hd'
      rw [hx'] at this
      exact Option.some.inj this
     subst ey
     have nms:∀ i,M.Ms i=S.ms.contains i:=λ i=>by rw [sm.ms.ms];rfl
     have hN:X.N.Nodup:=by rw [xs.N];exact sm.nd
     have slots:∀ {z:Str}{k:Nat},S.slot z=some k->(z == ("__debug__" : Str))=false/\(z == ("__classdict__" : Str))=false:=λ {z k} h=>by
      unfold Sx.slot at h
      split at h
      ·rename_i hv
       simp only [ja4,jh3] at hv
       exact ⟨hv.1.2,hv.2⟩
      ·cases h
     have base:=qgo (X:=X) (tb:=λ W'=>tR (M.want W') b) (body:=body) (y:=y') (n:=n') (x:=x) (np:=np) (hpos:=hpos) (px:=px) (pn:=pn) (pa:=pa) (pos:=pos) (d:=d) (Dd:=C) (i:=i) (j:=j)
      (by rw [xs.K];exact ht) sm.st sm.fr hN (by rw [xs.N];exact zvh hi) (by rw [xs.N];exact zvh hj) hij (by rw [xs.sc];exact zpp hlx) (by show X.env.scope.names.lookup n'=_;rw [xs.sc];exact zxv hln) sm.fn (by rw [xs.K];exact hC) (xs.gl hgy) (by rw [xs.mg];exact hmg) hdb (slots hj).1 (slots hj).2 (λ pn' xe' W' hp ho=>?_)
     ·refine zxs base λ D σ H q=>?_
      have mk:=sm.ms.k xs
      rw [<- mk]
      exact qmq sm.al nms (by rw [sm.ms.ms];exact hms) hij (zzu hoi sm) (zzu hoj sm) q
     ·refine qhk (S:=S.nr) GX G Gm hS 10 body b hbd _ _ (Wx:=W') ⟨xs.prog,xs.w,xs.K,xs.mg,xs.base,xs.N,xs.sc,xs.calm,xs.room,ho,hp,λ z=>nomatch z⟩ ⟨⟨sm.ms.K,sm.ms.ms,sm.ms.al,sm.ms.als,rfl,sm.ms.pn⟩,sm.al,sm.io,sm.pn,sm.fn,sm.nd,sm.st,sm.fr⟩
    ·cases h
   ·cases h
  ·rename_i v pos
   unfold denX at h
   split at h
   ·rename_i fn es cpos
    split at h
    ·rename_i o at' apos
     split at h
     ·rename_i x e hx
      obtain ⟨px,rfl⟩:=zpn hx
      unfold qo6 at h
      split at h
      ·rename_i hat
       subst hat
       split at h
       ·rename_i i f1 v1 hi he
        split at h
        ·rename_i hc
         cases h
         have g:=hd _ _ _ he
         intro Wx X M xs sm
         have hb:=qkr (X:=X) (cpos:=cpos) PySem.F.plainAttrs_list PySem.F.slot_list_append PySem.F.type_list_append zbk (xs.var (pos:=px) hi) (zwp (g.2.2 X M xs sm.ms).1 zky (zxa (zqo g.2.1))) rfl (zyp g.2.1 X.env cpos) hc.2 (zxa (zqo g.2.1)) rfl
         refine zxs (zms hb rfl) λ D σ H q=>?_
         have:=qmw (D:=D) sm.al (sm.ms.v g.1) (by rw [sm.ms.ms];exact hc.1) q
         rw [sm.ms.k xs] at this
         exact this
        ·cases h
       ·cases h
      ·cases h
     ·rename_i e hx
      unfold qo5 at h
      split at h
      ·rename_i b i pi
       split at h
       ·rename_i x hb
        obtain ⟨px,rfl⟩:=zpn hb
        split at h
        ·rename_i s fi vi f1 v1 hs hi he
         split at h
         ·rename_i hc
          obtain ⟨rfl,hm,hi2,hln⟩:=hc
          cases h
          have g:=hd _ _ _ he
          intro Wx X M xs sm
          have hb:=qkr (X:=X) (cpos:=cpos) PySem.F.plainAttrs_list PySem.F.slot_list_append PySem.F.type_list_append zbk (qkn (pos:=pi) qep (xs.var (pos:=px) hs) ((hd _ _ _ hi).2.2 X M xs sm.ms).1 (zkb hi2)) (zwp (g.2.2 X M xs sm.ms).1 zky (zxa (zqo g.2.1))) rfl (zyp g.2.1 X.env cpos) hln (zxa (zqo g.2.1)) rfl
          refine zxs (zms hb rfl) λ D σ H q=>?_
          have:=qjn (D:=D) (vs:=v1) (vi:=vi) sm.al (by rw [sm.ms.ms];exact hm) q
          rw [sm.ms.k xs] at this
          exact this
         ·cases h
        ·cases h
       ·cases h
      ·cases h
     ·cases h
    ·rename_i x p
     split at h
     ·rename_i f1 v1 he
      cases h
      intro Wx X M xs sm
      exact zxs (zms ((hd _ _ _ he).2.2 X M xs sm.ms).1 rfl) λ D σ H q=>qc3 q
     ·cases h
    ·cases h
   ·cases h
  ·rename_i t e pos
   unfold qi7 at h
   split at h
   ·rename_i es k p
    split at h
    ·rename_i is f1 v1 hs he
     split at h
     ·rename_i hc
      cases h
      have g:=hd _ _ _ he
      intro Wx X M xs sm
      obtain ⟨h1,h2,h3,h4⟩:=zjz hs xs sm
      have mk:M.K=X.K:=sm.ms.k xs
      refine zxs (qil (g.2.2 X M xs sm.ms).1 (qdy xs.calm h1 h2 h3) ?_ ?_ ?_) λ D σ H q=>?_
      ·cases e <;> first | rfl | (cases hc.1)
      ·cases e <;> first | rfl | (cases hc.2)
      ·rfl
      ·have:=qmp sm.al (sm.ms.v g.1) (qle h4) q
       rw [mk] at this
       exact this
     ·cases h
    ·cases h
   ·rename_i x px
    split at h
    ·rename_i i f1 v1 hi he
     split at h
     ·rename_i hc
      cases h
      have g:=hdA _ _ _ he
      intro Wx X M xs sm
      have hN:X.N.Nodup:=by rw [xs.N];exact sm.nd
      have hi':X.N[i]?=some x:=by rw [xs.N];exact zvh hi
      have hx:Loc X.env.scope x:=by rw [xs.sc];exact zpp hc.1
      have mi:M.Ms i=S.msF i:=by rw [sm.ms.ms]
      cases hcp:qbh e with
      | false=>exact zxs (qa2 hN hi' hx (g.2.2 X M xs sm.ms).1 (qc9 hcp) (.inl (sm.fn x))) λ D σ H q=>qcy sm.al (sm.ms.v g.1) mi (zzu hc.2 sm) q
      | true=>
       cases e with
       | ListComp elt gs scope cpos=>
        obtain ⟨tg,ys,asg,it,ifs,iw,t,g2,vE,rfl,cp,rfl,rfl⟩:=qhj GX G Gm hS (show den 60 S _=_ from he)
        obtain ⟨wi,gg,h1,h2,h3,h4,h5,h6⟩:=zma (pos:=cpos) cp xs sm.ms
        refine qnv (qcb hN hi' hx (.inl (sm.fn x)) h2 xs.calm h1 h3 h4 h5 (zfi (n:=0) (f:=g2) (vs:=[]) cp.iwo.2.1)) λ D σ H hl q=>?_
        exact h6 σ H _ (by rw [hl,xs.N]) (qcy sm.al (sm.ms.v g.1) mi (zzu hc.2 sm) q)
       | SetComp _ _ _ _=>simp [denA,den,zvl] at he
       | DictComp _ _ _ _ _=>simp [denA,den,zvl] at he
       | _=>cases hcp
     ·cases h
    ·cases h
   ·rename_i t k ps
    unfold qi3 at h
    split at h
    ·rename_i x px
     unfold putV at h
     split at h
     ·rename_i z y1 py1 b1 q1 hz
      obtain ⟨pz,rfl⟩:=zpn hz
      split at h
      ·rename_i i j f1 v1 hi hj he
       split at h
       ·rename_i hc
        cases h
        have g:=hd _ _ _ he
        intro Wx X M xs sm
        exact zxs (qil (g.2.2 X M xs sm.ms).1 (qn1 (xs.var hi) (xs.var hj) qgi (λ _=>rfl)) rfl rfl rfl) λ D σ H q=>qjl sm.al (sm.ms.v g.1) (by rw [sm.ms.ms];exact hc) q
       ·cases h
      ·cases h
     ·cases h
    ·cases h
   ·cases h
  ·split at h
   ·rename_i f1 v1 s t hc ha hb
    cases h
    intro Wx X M xs sm
    exact zxs (qnw (qe8 GX G Gm hS hc xs sm.ms) (zvg ih _ _ ha X M xs sm) (zvg ih _ _ hb X M xs sm)) λ D σ H q=>qpq q
   ·cases h
  ·rename_i t it body pos
   unfold qi5 at h
   split at h
   ·rename_i x px
    split at h
    ·rename_i i iw b hi hw hb
     split at h
     ·rename_i hc
      cases h
      intro Wx X M xs sm
      have hN:X.N.Nodup:=by rw [xs.N];exact sm.nd
      have hi':X.N[i]?=some x:=by rw [xs.N];exact zvh hi
      have hx:Loc X.env.scope x:=by rw [xs.sc];exact zpp hc.1
      have giw:=zfm hd (zfl 60 S) G.1 hw
      have hbd:=zpx hd ih hb X M xs sm
      have hg:GOk M [] [i] (zjf i) (asgN i):=qiy ⟨by rw [sm.ms.ms];exact hc.2.2.1,zzu hc.2.1 sm,sm.al i,sm.ms.als⟩
      have hpg:PG X (.Name x px) (zjf i):=zmu hN hi' hx (.inl (sm.fn x))
      have hpi:=giw.2.2 X M xs sm.ms (.Name x px)
      have hf:=zfi (n:=0) (env:=X.env) (f:=bVar 0) (vs:=[]) giw.2.1
      cases iw with
      | rng en fa vs=>
       rcases hpi with ⟨rfl,hpi⟩ | ⟨rfl,hpi⟩
       ·exact zxs (zyy (zzv xs) xs.calm hpi hpg hbd hf) λ D σ H q=>qc2 hg q
       ·exact zxs (zyy (zzv xs) xs.calm hpi hpg hbd hf) λ D σ H q=>qc1 hg q
      | seq f vs=>exact zxs (zyy (zzv xs) xs.calm hpi hpg hbd hf) λ D σ H q=>qc0 sm.al (sm.ms.v giw.1) hg q
      | vw v fa vs=>exact zxs (zyy (zzv xs) xs.calm (hpi hc.2.2.2) hpg hbd hf) λ D σ H q=>qcz sm.al (sm.ms.v giw.1) hg q
     ·cases h
    ·cases h
   ·rename_i es k p
    split at h
    ·rename_i is iw b hs hw hb
     cases h
     intro Wx X M xs sm
     have giw:=zfm hd (zfl 60 S) G.1 hw
     have hbd:=zpx hd ih hb X M xs sm
     obtain ⟨h1,h2,h3,h4⟩:=zjz hs xs sm
     have mk:M.K=X.K:=sm.ms.k xs
     have hg:=qle (M:=M) (al:=[]) h4
     have hpg:=qdy (pos:=p) (k:=k) xs.calm h1 h2 h3
     rw [<- mk] at hpg
     have hpi:=giw.2.2 X M xs sm.ms (.Tuple es k p)
     have hf:=zfi (n:=0) (env:=X.env) (f:=bVar 0) (vs:=[]) giw.2.1
     cases iw with
     | rng en fa vs=>
      rcases hpi with ⟨rfl,hpi⟩ | ⟨rfl,hpi⟩
      ·exact zxs (zyy (zzv xs) xs.calm hpi hpg hbd hf) λ D σ H q=>qc2 hg q
      ·exact zxs (zyy (zzv xs) xs.calm hpi hpg hbd hf) λ D σ H q=>qc1 hg q
     | seq f vs=>exact zxs (zyy (zzv xs) xs.calm hpi hpg hbd hf) λ D σ H q=>qc0 sm.al (sm.ms.v giw.1) hg q
     | vw v fa vs=>exact zxs (zyy (zzv xs) xs.calm (hpi (by cases v <;> rfl)) hpg hbd hf) λ D σ H q=>qcz sm.al (sm.ms.v giw.1) hg q
    ·cases h
   ·cases h
  ·split at h
   ·rename_i f1 v1 b hc hb
    cases h
    intro Wx X M xs sm
    exact zxs (qgn xs.po (qe8 GX G Gm hS hc xs sm.ms) (zvg ih _ _ hb X M xs sm)) λ D σ H q=>qga q
   ·cases h
  ·rename_i t op e pos
   unfold qi6 at h
   split at h
   ·rename_i x px
    split at h
    ·rename_i i f1 v1 g sd hi he hop
     split at h
     ·rename_i hc
      cases h
      intro Wx X M xs sm
      have hN:X.N.Nodup:=by rw [xs.N];exact sm.nd
      have hi':X.N[i]?=some x:=by rw [xs.N];exact zvh hi
      have hx:Loc X.env.scope x:=by rw [xs.sc];exact zpp hc.1
      have hp:PIp X op (ipS g sd):=by
       unfold qpi at hop
       split at hop
       ·cases hop;exact qla
       ·cases hop;exact qk9
       ·cases hop
      exact zxs (qnx hN hi' hx ((hd _ _ _ he).2.2 X M xs sm.ms).1 hp (.inl (sm.fn x))) λ D σ H q=>qmv sm.al (by rw [sm.ms.ms];exact hc.2.2) (zzu hc.2.1 sm) q
     ·cases h
    ·cases h
   ·cases h
  ·rename_i e pos
   unfold qi2 at h
   split at h
   ·rename_i x hx
    obtain ⟨px,rfl⟩:=zpn hx
    split at h
    ·rename_i i hi
     split at h
     ·cases h
     ·rename_i hm
      cases h
      intro Wx X M xs sm
      exact zxs (qik (xs.var hi)) λ D σ H q=>qjk sm.al (by rw [sm.ms.ms];simpa using hm) q
    ·cases h
   ·rename_i hx
    split at h
    ·rename_i f1 v1 he
     cases h
     intro Wx X M xs sm
     exact zxs (qik ((hd _ _ _ he).2.2 X M xs sm.ms).1) λ D σ H q=>qms (sm.ms.v (hd _ _ _ he).1) q
    ·cases h
  ·cases h
 exact λ {Wx}=>core trivial
theorem qhl (GX:GX K mg S.xc) (G:GS P w K mg base lvl S.Γ) (Gm:GSm P w K mg base lvl S.Γm) (hS:∀ i,∀ j∈S.alF i,S.msF j=false):∀ (n:Nat) (st:Stmt) (f:Fs),qe9 n S st=some f->qao P w K mg base lvl S st f:=by
 intro n
 induction n with
 | zero=>intro st f h;cases h
 | succ n ih=>
  intro st f h
  replace h:some ((zyc (qe9 n S) S st).getD sNo)=some f:=h
  cases e0:zyc (qe9 n S) S st with
  | none=>
   rw [e0] at h
   cases h
   intro Wx X M xs sm pins s σ H D I q
   exact (zmr pins s σ H D I (qjm (t:=qas) q))
  | some f'=>
   rw [e0] at h
   cases h
   exact λ {Wx}=>qah GX G Gm hS ih _ _ e0
def denS:Nat->Sx->Stmt->Option Fs:=qe9
theorem qlk (GX:GX K mg S.xc) (G:GS P w K mg base lvl S.Γ) (Gm:GSm P w K mg base lvl S.Γm) (hS:∀ i,∀ j∈S.alF i,S.msF j=false):∀ (n:Nat) (st:Stmt) (f:Fs),denS n S st=some f->qao P w K mg base lvl S st f:=qhl GX G Gm hS
def zzj:Bool->List PV->Rho
 | true,x::xr=>some (x,om)::xr.map λ x=>some (x,dv x)
 | _,xs=>xs.map λ x=>some (x,dv x)
def finF (io:Bool) (y:PV) (d:Nat) (ρ:Rho):Rz (PV×Nat×PV):=match io with
 | false=>.ok (y,d,.non)
 | true=>match ρ[0]? with
  | some (some (z,_))=>.ok (y,d,z)
  | _=>.no
def mkFn (io:Bool) (np k:Nat) (b:Fs):Fn:=λ xs=>if xs.length=np then (match b (zzj io xs++ja6 k none) with
 | .rt y d ρ=>finF io y d ρ
 | .nx ρ=>finF io .non om ρ
 | .exc c=>.exc c
 | _=>.no) else .no
theorem zqi {io:Bool}{np k:Nat}{b:Fs}:∀ xs,xs.length≠np->mkFn io np k b xs=.no:=λ xs h=>by
 unfold mkFn
 rw [if_neg h]
theorem zpg {io:Bool}{xs:List PV}{i:Nat}{x:PV}{d:Nat} (h:(zzj io xs)[i]?=some (some (x,d))):xs[i]?=some x/\(d=dv x\/(io=true/\i=0/\d=om)):=by
 cases io with
 | false=>
  have h':(xs.map λ x=>(some (x,dv x):Slot))[i]?=some (some (x,d)):=h
  rw [jc4] at h'
  cases e:xs[i]? with
  | none=>rw [e] at h';cases h'
  | some y=>rw [e] at h';cases h';exact ⟨rfl,.inl rfl⟩
 | true=>
  cases xs with
  | nil=>simp [zzj] at h
  | cons y r=>
   cases i with
   | zero=>
    have h':some (some (y,om):Slot)=some (some (x,d)):=h
    cases h'
    exact ⟨rfl,.inr ⟨rfl,rfl,rfl⟩⟩
   | succ i=>
    have h':(r.map λ x=>(some (x,dv x):Slot))[i]?=some (some (x,d)):=h
    rw [jc4] at h'
    cases e:r[i]? with
    | none=>rw [e] at h';cases h'
    | some y'=>rw [e] at h';cases h';exact ⟨by simpa using e,.inl rfl⟩
theorem qb8 (io:Bool) (xs:List PV):(zzj io xs).length=xs.length:=by
 cases io <;> cases xs <;> simp [zzj]
theorem qlf {x qual:Str}{st:Stmt}{f:Addr}{fd:FuncData}{N ps:List Str}{k:Nat}{sp:Sp} (F:Fun K x qual st f fd) (S:FnScope N ps (zqc st)) (len:∀ vs H Q E,sp vs H Q E->vs.length=ps.length)
  (hbody:∀ (cdv:Value) (A:Around) (outer:List Env) (s:Shared) (H:Hp) (vs:List V) (Q:VK) (E:XK),Room k (A.deeper (envOfC qual (zqc st) s.heap.objs.size f cdv))->sp vs H Q E ->
   ∃ t,PSs (cxOf (CXr P w K) P w K mg base N qual (zqc st) f cdv A outer s H E) (zqk st) t/\t { nx:=λ _ H'=>Q .non H',rt:=Q } (L2.start N vs) H):FnOk P w K mg base (CXr P w K) (k + 1) f fd ps sp:=by
 obtain ⟨oc,od,kV,doc,pm,an,cdv,ct,osl,rfl,lk,hcd⟩:=F.ex
 exact qqd lk hcd S len λ A outer s H vs Q E hr hsp=>hbody cdv A outer s H vs Q E hr hsp
theorem zxy {x qual:Str}{st:Stmt}{fa:Addr}{fd:FuncData}{ps:List Str}{np k:Nat}{io:Bool}{b:Fs} (Fu:Fun K x qual st fa fd) (FS:FnScope S.N ps (zqc st)) (hsc:S.sc=zqc st) (hal:S.al=[]) (hnp:ps.length=np) (hk:S.N.length=np + k)
  (hms:∀ i∈S.ms,i < np->i=0/\io=true) (hio:io=true->S.msF 0=true/\0 < np) (GX:GX K mg S.xc) (G:GS P w K mg base lvl S.Γ) (Gm:GSm P w K mg base lvl S.Γm) (hb:zqq (denS 60 S) (zqk st)=some b):
  FnOk P w K mg base (CXr P w K) (lvl + 1) fa fd ps (spF K io np (mkFn io np k b)):=by
 have hS:∀ i,∀ j∈S.alF i,S.msF j=false:=λ i j hj=>by
  unfold Sx.alF at hj
  rw [hal] at hj
  simp at hj
 refine qlf Fu FS (λ vs H Q E h=>h.1.trans hnp.symm) λ cdv A outer s H vs Q E hr h=>?_
 obtain ⟨hl,xs,Zo,x0,v0,fp0,hZ,hz0,h1,h2,q⟩:=h
 let M:Fm:={ K:=K,Ms:=S.msF,Zo:=Zo,H₀:=H,W:=WE E H,io:=if io=true then some v0 else none,al:=λ _=>[] }
 have hxs:XS (cxOf (CXr P w K) P w K mg base S.N qual (zqc st) fa cdv A outer s H E) P w K mg base lvl S (WE E H):=⟨rfl,rfl,rfl,rfl,rfl,rfl,hsc.symm,rfl,hr,qkt,qgw,λ _=>qdl⟩
 have hsm:SM (cxOf (CXr P w K) P w K mg base S.N qual (zqc st) fa cdv A outer s H E) M K S (WE E H):=by
  refine ⟨⟨rfl,rfl,λ i _=>?_,(λ i j hj=>nomatch hj),rfl,λ _ h=>nomatch h⟩,λ _=>rfl,λ h=>?_,(λ _ h=>nomatch h),λ _=>rfl,FS.nd,rfl,rfl⟩
  ·show []=S.al.getD i []
   rw [hal];rfl
  ·have h':(if io=true then some v0 else none)≠none:=h
   cases io with
   | true=>exact (hio rfl).1
   | false=>exact absurd rfl h'
 refine ⟨tS M b,zvg (qlk GX G Gm hS 60) _ _ hb _ M hxs hsm,zzj io xs++ja6 k none,λ i=>if i=0 then fp0 else [],?_,?_⟩
 ·have hlen:xs.length=vs.length:=by
   cases io with
   | false=>exact (h1 rfl).2.length.symm
   | true=>obtain ⟨xr,wr,rfl,rfl,_,o⟩:=h2 rfl;rw [jb1,jb1,o.length]
  have each:∀ i y d,(zzj io xs)[i]?=some (some (y,d))->∃ v,vs[i]?=some v/\Own K H (λ a=>Zo a\/a∈fp0) y d v (if i=0 then fp0 else []):=λ i y d e=>by
   obtain ⟨e1,e2⟩:=zpg e
   cases io with
   | false=>
    obtain ⟨rfl,o⟩:=h1 rfl
    obtain ⟨v,ev,ov⟩:=o.nth e1
    rcases e2 with rfl | ⟨z,_⟩
    ·refine ⟨v,ev,?_⟩
     rw [ite_self]
     exact ov.dv.weak λ a h=>h.elim id λ z=>nomatch z
    ·cases z
   | true=>
    obtain ⟨xr,wr,rfl,rfl,o0,o⟩:=h2 rfl
    cases i with
    | zero=>
     simp [zzj] at e
     obtain ⟨rfl,rfl⟩:=e
     exact ⟨v0,rfl,Own.full _ _ _ o0⟩
    | succ i=>
     obtain ⟨v,ev,ov⟩:=o.nth (j:=i) (by simpa using e1)
     rcases e2 with rfl | ⟨_,z,_⟩
     ·refine ⟨v,by simpa using ev,?_⟩
      rw [if_neg (jp4 i)]
      exact ov.dv
     ·cases z
  have inl:∀ i p,(zzj io xs++ja6 k none)[i]?=some (some p)->(zzj io xs)[i]?=some (some p):=λ i p e=>by
   by_cases hi:i < (zzj io xs).length
   ·rw [jc0 hi] at e;exact e
   ·rw [jc8 (by omega),je4] at e
    split at e <;> cases e
  have domF:∀ a∈fp0,H a≠none:=λ a ha=>by
   cases io with
   | false=>rw [(h1 rfl).1] at ha;cases ha
   | true=>
    obtain ⟨xr,wr,rfl,rfl,o0,o⟩:=h2 rfl
    obtain ⟨ys,e⟩:=Own.lsts _ _ _ _ o0 a ha
    rw [e];simp
  refine ⟨λ i y d e=>?_,λ i h=>?_,λ i j hij a ha hb'=>?_,λ i a ha=>?_,λ i hi a ha=>?_,hZ,?_,λ i y d hi e=>?_,λ a h=>h,⟨λ v hv=>?_,λ _ h=>(nomatch h)⟩⟩
  ·obtain ⟨v,ev,ov⟩:=each i y d (inl i _ e)
   refine ⟨v,?_,ov.weak λ a h=>?_⟩
   ·unfold L2.start
    rw [jc0 (by rw [ja1];exact (ja8.mp ev).1),jc4,ev]
    rfl
   ·rcases h with h | ⟨j,_,h⟩
    ·exact .inl h
    ·by_cases ej:j=0
     ·simp only [if_pos ej] at h;exact .inr h
     ·simp only [if_neg ej] at h;cases h
  ·by_cases hi:i=0
   ·subst hi
    rw [if_pos rfl]
    cases io with
    | false=>exact (h1 rfl).1
    | true=>
     obtain ⟨xr,wr,rfl,rfl,_,_⟩:=h2 rfl
     exact absurd rfl (h (x0,om))
   ·rw [if_neg hi]
  ·by_cases e1:i=0
   ·by_cases e2:j=0
    ·exact hij (e1.trans e2.symm)
    ·rw [if_neg e2] at hb';cases hb'
   ·simp only [if_neg e1] at ha;cases ha
  ·by_cases e1:i=0
   ·simp only [if_pos e1] at ha;exact hz0 a ha
   ·simp only [if_neg e1] at ha;cases ha
  ·by_cases e1:i=0
   ·simp only [if_pos e1] at ha
    cases io with
    | false=>rw [(h1 rfl).1] at ha;cases ha
    | true=>
     have:=(hio rfl).1
     have hi':S.msF i=false:=hi
     rw [e1,this] at hi';cases hi'
   ·simp only [if_neg e1] at ha;cases ha
  ·unfold L2.start
   rw [jb4,qb8,jf1,jb4,ja1,jf1,hlen,hl,hk]
   omega
  ·have hm:i∈S.ms:=by
    have hi':S.msF i=true:=hi
    unfold Sx.msF at hi'
    simpa using hi'
   obtain ⟨e1,e2⟩:=zpg (inl i _ e)
   have hlt:i < np:=by
    have:=(ja8.mp e1).1
    rw [hlen,hl] at this;exact this
   obtain ⟨rfl,rfl⟩:=hms i hm hlt
   obtain ⟨xr,wr,rfl,rfl,_,_⟩:=h2 rfl
   have e':=inl 0 _ e
   simp [zzj] at e'
   exact e'.2.symm
  ·have hv':(if io=true then some v0 else none)=some v:=hv
   cases io with
   | false=>cases hv'
   | true=>
    cases hv'
    obtain ⟨xr,wr,rfl,rfl,_,_⟩:=h2 rfl
    exact ⟨rfl,(hio rfl).1⟩
 ·unfold mkFn at q
  have hlen:xs.length=np:=by
   by_cases e:xs.length=np
   ·exact e
   ·rw [if_neg e] at q;exact q.elim
  rw [if_pos hlen] at q
  have fin:∀ {y:PV}{d:Nat}{ρ':Rho}{v:V}{σ':St}{H':Hp}{fps':Fps}{fp:List Addr},(match finF io y d ρ' with
    | .ok (y,d,z0)=>∀ v H' fp fp0',Keep (λ a=>a∈fp0) H H'->(∀ a,H a≠none->H' a≠none)->(∀ a∈fp0',a∈fp0\/H a=none)->(∀ a∈fp0',¬ Zo a)->(io=false->fp0'=[])->(io=true->Own K H' (λ _=>True) z0 om v0 fp0') ->
      Own K H' (λ a=>(Zo a\/a∈fp0')\/a∈fp) y d v fp->(∀ a∈fp,H a=none/\¬ (Zo a\/a∈fp0'))->Q v H'
    | .exc c=>∀ H',Keep (λ a=>a∈fp0) H H'->(∀ a,H a≠none->H' a≠none)->E (.int (c:Int) 0) none H'
    | .no=>False)->KS M H (λ i=>if i=0 then fp0 else []) H' fps'->Rep M ρ' σ' H' fps'->Own M.K H' (λ a=>Zr M fps' a\/a∈fp) y d v fp->(∀ a∈fp,M.H₀ a=none/\¬ Zr M fps' a)->Q v H':=λ {y d ρ' v σ' H' fps' fp} q ks rp oy hf=>by
   have kp:Keep (λ a=>a∈fp0) H H':=λ a o h n=>ks.keep a o h λ ⟨i,hi⟩=>by
    by_cases e:i=0
    ·simp only [if_pos e] at hi;exact n hi
    ·simp only [if_neg e] at hi;cases hi
   cases io with
   | false=>
    refine q v H' fp [] kp ks.dom (λ _ z=>(nomatch z)) (λ _ z=>(nomatch z)) (λ _=>rfl) (λ h=>(nomatch h)) (oy.weak λ a h=>?_) λ a ha=>⟨(hf a ha).1,λ z=>(hf a ha).2 ?_⟩
    ·rcases h with (h | h) | h
     ·exact .inl (.inl h)
     ·cases h
     ·exact .inr h
    ·rcases z with z | z
     ·exact .inl z
     ·cases z
   | true=>
    unfold finF at q
    cases e0:ρ'[0]? with
    | none=>dsimp only at q;rw [e0] at q;exact q.elim
    | some s0=>
     dsimp only at q
     rw [e0] at q
     cases s0 with
     | none=>exact q.elim
     | some p0=>
      obtain ⟨z,dz⟩:=p0
      have hdz:=rp.msf 0 z dz (hio rfl).1 e0
      subst hdz
      obtain ⟨u,hu,ou⟩:=rp.own 0 z om e0
      have hu0:=(rp.iov.1 v0 rfl).1
      rw [hu] at hu0
      cases hu0
      refine q v H' fp (fps' 0) kp ks.dom (λ a ha=>?_) (λ a ha=>rp.zo 0 a ha) (λ h=>(nomatch h)) (λ _=>Own.full _ _ _ ou) (oy.weak λ a h=>?_) λ a ha=>⟨(hf a ha).1,λ z=>(hf a ha).2 ?_⟩
      ·rcases ks.sub 0 a ha with ⟨j,hj⟩ | z
       ·by_cases e:j=0
        ·simp only [if_pos e] at hj;exact .inl hj
        ·simp only [if_neg e] at hj;cases hj
       ·exact .inr z
      ·rcases h with (h | h) | h
       ·exact .inl (.inl h)
       ·exact .inl (.inr ⟨(λ z=>nomatch z),h⟩)
       ·exact .inr h
      ·rcases z with z | z
       ·exact .inl z
       ·exact .inr ⟨(λ z=>nomatch z),z⟩
  cases eb:b (zzj io xs++ja6 k none) with
  | no=>rw [eb] at q;exact q
  | exc c=>
   rw [eb] at q
   refine λ σ' H' fps' ks=>⟨q H' (λ a o h n=>ks.keep a o h λ ⟨i,hi⟩=>?_) ks.dom,ks.dom⟩
   by_cases e:i=0
   ·simp only [if_pos e] at hi;exact n hi
   ·simp only [if_neg e] at hi;cases hi
  | bk ρ=>rw [eb] at q;exact q.elim
  | ct ρ=>rw [eb] at q;exact q.elim
  | rt y d ρ'=>
   rw [eb] at q
   exact λ v σ' H' fps' fp ks rp oy hf=>fin q ks rp oy hf
  | nx ρ'=>
   rw [eb] at q
   exact λ σ' H' fps' ks rp=>fin (fp:=[]) q ks rp (by rw [Own];exact ⟨rfl,rfl⟩) λ _ z=>nomatch z
end
open PySem PySem.Spec PySem.W PySem.Calls PyProof.Rows L2
def zyj (tb:String->Option Builtin) (p:Program) (w:World) (n₀:Nat) (ann:Option Value):Nat->SharedT->Thread->Option SharedT
 | 0,_,_=>none
 | n + 1,s,t=>match through t with
  | true=>some s
  | false=>match stepOk n₀ ann t with
   | false=>none
   | true=>match stepT (denote tb) p w s t with
    | some (s',t')=>zyj tb p w n₀ ann n s' t'
    | none=>none
theorem zgb {tb:String->Option Builtin}{p:Program}{w:World}{n₀:Nat}{ann:Option Value}:∀ {n:Nat}{s r:SharedT}{t:Thread},zyj tb p w n₀ ann n s t=some r->topRun tb p w n₀ ann n s.abs t=some r.abs
 | 0,_,_,_,h=>by cases h
 | n + 1,s,r,t,h=>by
  unfold zyj at h
  unfold topRun
  cases e1:through t with
  | true=>rw [e1] at h;cases h;rfl
  | false=>
   rw [e1] at h
   cases e2:stepOk n₀ ann t with
   | false=>rw [e2] at h;cases h
   | true=>
    rw [e2] at h
    cases e3:stepT (denote tb) p w s t with
    | none=>rw [e3] at h;cases h
    | some z=>obtain ⟨s₂,t₂⟩:=z;rw [e3] at h;rw [stepT_spec e3];exact zgb h
def ofL:List Obj->Nat->BT->BT
 | [],_,t=>t
 | o::r,n,t=>ofL r (n + 1) (t.ins n o)
noncomputable def bootT (P:Params):BT:=ofL (boot_heap P).objs.toList 0 .nil
noncomputable def bootS (P:Params) (os:OsState):SharedT:=⟨bootT P,(boot_heap P).objs.size,(boot_heap P).life,#[],boot_drawn,boot_toks,os⟩
theorem qhw (P:Params) (os:OsState):(bootS P os).abs=⟨boot_heap P,#[],boot_drawn,boot_toks,os⟩:=by kernel_rfl
theorem qlu (P:Params):(boot_heap P).isNs mainGlobals=true:=by kernel_rfl
def qag {α:Type} (p q:Program) (loose:List Str) (Xt:Shared->Bool) (Yf:Shared->α) (H:Heap) (s:Shared):=
 ((staticsOk (importedModules p.main.body) H s.heap && namesBound p s.heap && gensDone s && laidKept H s.heap),openSeen q loose (importedModules p.main.body) Xt true s,Yf s)
theorem qk7 {p q:Program}{loose:List Str}{Xt:Shared->Bool}{α:Type}{Yf:Shared->α}{Ya:World->α}{N:Nat} (e:opening p=plainProg p.main.scope.names) (hN:Nat.ble 600 N=true) (f:∀ s,fenceModules? p s=some s)
  (run:∀ (w:World) (os:OsState),(zyj treeTable p w (boot_heap w.params).objs.size ((boot_heap w.params).nsMap mainGlobals "__annotations__") N (bootS w.params os) (topStub p)).map (λ s=>qag p q loose Xt Yf (boot_heap w.params) s.abs)=some (true,openGood q loose,Ya w)):
  LeftO p q loose Xt Yf Ya N:=λ w=>by
 obtain ⟨⟨h,gs,d,k,os⟩,e1,e2⟩:=jb5.mp (boot_open e hN f w)
 obtain ⟨rfl,rfl,rfl,rfl⟩:h=boot_heap w.params/\gs=#[]/\d=boot_drawn/\k=boot_toks:=by simpa using e2
 obtain ⟨s,r1,r2⟩:=jb5.mp (run w os)
 have r:=zgb r1
 rw [qhw] at r
 have r3:(_=_)/\(_ ,_)=(_,_):=Prod.mk.inj r2
 obtain ⟨l1,l23⟩:=r3
 obtain ⟨l2,l3⟩:=Prod.mk.inj l23
 have t:topFrom treeTable p w N ⟨boot_heap w.params,#[],boot_drawn,boot_toks,os⟩=some s.abs:=by
  unfold topFrom
  dsimp only
  rw [qlu,r]
  show (match staticsOk (importedModules p.main.body) (boot_heap w.params) s.abs.heap && namesBound p s.abs.heap && gensDone s.abs && laidKept (boot_heap w.params) s.abs.heap with | true=>_ | false=>_)=_
  rw [l1]
 unfold openEnds
 rw [e1]
 show (topFrom treeTable p w N _).map _=_
 rw [t]
 exact congrArg some (Prod.ext l2 l3)
def kof (h:Heap):Frag:=(jc2 h.objs.size).filterMap λ a=>(h.get? a).map λ o=>(a,o)
theorem qoo (h:Heap):(kof h).In h:=by
 intro a o
 unfold kof
 generalize jc2 h.objs.size=l
 induction l with
 | nil=>intro e;cases e
 | cons b l ih=>
  intro e
  rw [ji7] at e
  cases g:h.get? b with
  | none=>rw [g] at e;exact ih e
  | some z=>
   rw [g] at e
   dsimp only [jj0] at e
   rw [jd9] at e
   split at e
   ·rename_i q
    cases e
    rw [beq_iff_eq.mp q]
    exact g
   ·exact ih e
structure DefSeen where
 name:Str
 qual:Str
 params:Arguments
 body:FuncBody
 scope:Scope
 globals:Addr
 closure:List (Str×Addr)
 defaults:Value
 builtins:Addr
 code:Bool
def qaj (K:Frag) (x:Str):Option DefSeen:=match nsIn K mainGlobals x with
 | some (some (.ref g))=>(match K.lookup g with
  | some ⟨_,_,.func fd,_⟩=>some ⟨fd.name,fd.qualname,fd.params,fd.body,fd.scope,fd.globals,fd.closure,fd.defaults,fd.builtins,codeIn K fd.code x⟩
  | _=>none)
 | _=>none
def qfa (x:Str) (st:Stmt):DefSeen:=⟨x,x,zbv st,.stmts (zqk st),zqc st,mainNs,[],.none,0,true⟩
theorem qo7 {K:Frag}{x:Str}{st:Stmt} (e:qaj K x=some (qfa x st)):∃ (g:Addr) (fd:FuncData),nsIn K mainGlobals x=some (some (.ref g))/\Fun K x x st g fd:=by
 unfold qaj at e
 split at e
 ·rename_i g hg
  split at e
  ·rename_i oc od fd sl hl
   cases fd
   unfold qfa at e
   simp only [Option.some.injEq,DefSeen.mk.injEq] at e
   obtain ⟨rfl,rfl,rfl,rfl,rfl,rfl,rfl,rfl,rfl,hc⟩:=e
   refine ⟨g,_,hg,qo2 hl hc ?_⟩
   unfold keepIn
   dsimp only
   rw [hl]
  ·cases e
 ·cases e
def zbo (ds:List (Str×Stmt)) (xc:List Nat) (K:Frag):List (Option DefSeen)×List (Option (Option Value))×Bool:=
 (ds.map λ d=>qaj K d.1,zvx.map λ x=>nsIn K mainGlobals x,xc.isEmpty || (xTab K && xKit K && xc.all λ c=>(zwu K c).isSome && match XN[c]? with
  | some x=>!(x == ("__debug__" : Str))
  | none=>false))
def zgq (ds:List (Str×Stmt)):List (Option DefSeen)×List (Option (Option Value))×Bool:=(ds.map λ d=>some (qfa d.1 d.2),zvx.map λ _=>some none,true)
structure Given (ds:List (Str×Stmt)) (xc:List Nat) (K:Frag) (mg:Str->Option Value):Prop where
 df:∀ (i:Nat) (x:Str) (st:Stmt),ds[i]?=some (x,st)->∃ (g:Addr) (fd:FuncData),mg x=some (.ref g)/\Fun K x x st g fd
 bn:∀ x∈zvx,mg x=none
 gx:GX K mg xc
theorem qef {α β:Type}{f g:α->β}:∀ {l:List α},l.map f=l.map g->∀ {i:Nat}{a:α},l[i]?=some a->f a=g a
 | [],_,_,_,h=>by cases h
 | b::l,e,0,a,h=>by
  cases h
  exact (List.cons.inj e).1
 | b::l,e,i + 1,a,h=>qef (List.cons.inj e).2 h
theorem qhe {ds:List (Str×Stmt)}{xc:List Nat}{K:Frag}{mg:Str->Option Value}{h:Heap} (X:K.In h) (G:h.Ns mainGlobals mg) (e:zbo ds xc K=zgq ds):Given ds xc K mg:=by
 obtain ⟨e1,e2⟩:=Prod.mk.inj e
 obtain ⟨e2,e3⟩:=Prod.mk.inj e2
 refine ⟨λ i x st hi=>?_,λ x hx=>?_,λ hne=>?_⟩
 ·obtain ⟨g,fd,a,b⟩:=qo7 (qef e1 hi)
  exact ⟨g,fd,mg_of X G a,b⟩
 ·obtain ⟨i,hi⟩:=List.getElem?_of_mem hx
  exact mg_none_of X G (qef e2 hi)
 ·have hm:xc.isEmpty=false:=by
   cases xc with
   | nil=>exact absurd rfl hne
   | cons _ _=>rfl
  rw [hm,jj3,ja4,ja4] at e3
  refine ⟨e3.1.1,e3.1.2,λ c hc=>?_⟩
  have h1:=jb9.mp e3.2 c hc
  rw [ja4] at h1
  obtain ⟨C,hC⟩:=jl7.mp h1.1
  have hC':=hC
  unfold zwu at hC'
  cases hx:XN[c]? with
  | none=>rw [hx] at hC';cases hC'
  | some x=>
   rw [hx] at hC'
   dsimp only at hC'
   have h2:=h1.2
   rw [hx] at h2
   dsimp only at h2
   refine ⟨x,C,rfl,hC,?_,by simpa using h2⟩
   split at hC'
   ·rename_i D hD
    cases hC'
    exact mg_of X G hD
   ·cases hC'
theorem qlo {P:Program}{w:World}{K:Frag}{outer:List Env}{H:Hp}{s:Shared}{e:Value}{s2:Shared} (z:CXr P w K outer H s (λ _ _ _=>False) e s2):False:=by
 obtain ⟨_,_,_,_,_,_,_,_,_,_,_,_,_,_,_,_,_,_,z⟩:=z
 exact z
theorem holds_by {l:OpenLaw}{q:Program}{loose:List Str}{d:DefRec}{N k n:Nat}{ds:List (Str×Stmt)}{xc:List Nat}{F:Fn}{x:Str} (said:l.wellSaid=true)
  (e:opening l.prog=plainProg l.prog.main.scope.names) (hN:Nat.ble 600 N=true) (f:∀ s,fenceModules? l.prog s=some s)
  (run:∀ (w:World) (os:OsState),(zyj treeTable l.prog w (boot_heap w.params).objs.size ((boot_heap w.params).nsMap mainGlobals "__annotations__") N (bootS w.params os) (topStub l.prog)).map
   (λ s=>qag l.prog q loose (λ s=>xlAt q [] s && recOk (RowW.records l.row.toRowW) s) (λ s=>zbo ds xc (kof s.heap)) (boot_heap w.params) s.abs)=some (true,openGood q loose,zgq ds))
  (hdef:defOf q l.row.name=some (d,[])) (hp:l.row.prog.theDef l.row.name=some (d.params,d.body,d.scope)) (hk:kwWritten? d.params.kwonlyargs d.params.kw_defaults=some []) (hwr:(!l.row.writes || l.row.records.isEmpty)=true)
  (ok:(chainsOk q && opensWell l.row.prog && (frees l.row.toRowW && l.row.within.isEmpty))=true) (hb:l.row.prog.bare) (hw:l.row.toRowW.promised)
  (hn:l.most=some n) (hn2:n<=sizeLine) (hdf:d.params.defaults=[]) (hr:Room k callerA)
  (law:∀ (K:Frag) (w:World) (mg:Str->Option Value) (fa:Addr),Given ds xc K mg->mg d.name=some (.ref fa)->∃ fd:FuncData,(∀ (s:Shared) (u:Value),BindsTo s fd ⟨[u],[]⟩ [(x,u)]) /\
   ∀ base:Heap,FnOk l.prog w K mg base (CXr l.prog w K) k fa fd [x] (spF K false 1 F))
  (yes:∀ (K:Frag) (H:Hp) (a:Addr) (ns:List Int),ns.length<=n->Only H->SqL K H a (ns.map V.int)->spF K false 1 F [.ref a] H (λ v _=>v=.bl true) λ _ _ _=>False):l.Holds:=by
 refine holds_law said λ ws=>?_
 refine holds_open (q:=q) (loose:=loose) (Xt:=λ s=>xlAt q [] s && recOk (RowW.records l.row.toRowW) s) (XP:=XL q []) (Yf:=λ s=>zbo ds xc (kof s.heap)) (Ya:=λ _=>zgq ds) (YP:=λ _ h=>∃ K:Frag,K.In h/\zbo ds xc K=zgq ds) (N:=N)
  (qk7 e hN f run) (λ _ s z=>⟨_,qoo _,z⟩) (λ _ _ _ ⟨K,a,b⟩ kp=>⟨K,a.keeps kp,b⟩) (λ s e=>xl_of s (jn5.mp e).1) XL.keeps hdef hp hk (λ s e=>recFacts_of (jn5.mp e).2) hwr ws ok hb hw ?_
 refine Att.attach_call hn hdf λ w s₀ s₁ mg mb fa o pm cd doc a vs ns G Y ho hd hcd hmg hobj hints hlen hg=>?_
 obtain ⟨K,KX,hf⟩:=Y
 obtain ⟨fd,hbd,hF⟩:=law K w mg fa (qhe KX G.T.g hf) hmg
 exact qg5 KX G.T.g G.T.b G.T.builtins G.T.nolimit hg hobj hints (jc6 hlen hn2) hr (λ base _ _=>hF base) hbd (λ H hO hS=>yes K H a ns hlen hO hS) λ H e s'=>qlo
section
variable {P:Program}{w:World}{K:Frag}{mg:Str->Option Value}{base:Heap}
theorem len1 {us:List Value} (h:us.length=1):∃ a,us=[a]:=jm6.mp h
theorem len2 {us:List Value} (h:us.length=2):∃ a b,us=[a,b]:=by
 cases us with
 | nil=>cases h
 | cons a r=>obtain ⟨b,rfl⟩:=len1 (Nat.succ.inj h);exact ⟨a,b,rfl⟩
theorem len3 {us:List Value} (h:us.length=3):∃ a b c,us=[a,b,c]:=by
 cases us with
 | nil=>cases h
 | cons a r=>obtain ⟨b,c,rfl⟩:=len2 (Nat.succ.inj h);exact ⟨a,b,c,rfl⟩
theorem len4 {us:List Value} (h:us.length=4):∃ a b c d,us=[a,b,c,d]:=by
 cases us with
 | nil=>cases h
 | cons a r=>obtain ⟨b,c,d,rfl⟩:=len3 (Nat.succ.inj h);exact ⟨a,b,c,d,rfl⟩
theorem zxe {lvl:Nat} (hb:∀ x∈zvx,mg x=none):GS P w K mg base lvl []:=⟨hb,λ x io n F h=>by cases h⟩
theorem zql {lvl:Nat}{x qual:Str}{st:Stmt}{fa:Addr}{fd:FuncData}{ps:List Str}{io:Bool}{n:Nat}{F:Fn}{Γ:List (Str×(Bool×Nat×Fn))} (g:GS P w K mg base lvl Γ) (hx:(x == ("__debug__" : Str))=false) (hF:∀ xs,xs.length≠n->F xs=.no)
  (hm:mg x=some (.ref fa)) (Fu:Fun K x qual st fa fd) (hbd:qaq K fd ps []) (hn:ps.length=n) (ok:FnOk P w K mg base (CXr P w K) lvl fa fd ps (spF K io n F)):GS P w K mg base lvl ((x,(io,n,F))::Γ):=by
 refine ⟨g.1,λ y io' n' F' h=>?_⟩
 rw [jd9] at h
 split at h
 ·rename_i e
  cases h
  have:y=x:=eq_of_beq e
  subst this
  exact ⟨hx,hF,fa,fd,ps,hm,Fu.kp,hbd,hn,ok⟩
 ·exact g.2 y io' n' F' h
theorem zqr {lvl:Nat}:GSm P w K mg base lvl []:=λ x F h=>by cases h
end
theorem sp_yes {K:Frag}{H:Hp}{a:Addr}{ns:List Int}{F:Fn} (hO:Only H) (hS:SqL K H a (ns.map V.int)) (h:∃ d z,F [.scr ns]=.ok (.bl true,d,z)):spF K false 1 F [.ref a] H (λ v _=>v=.bl true) λ _ _ _=>False:=by
 refine ⟨rfl,[.scr ns],λ _=>False,.non,.non,[],λ _ z=>z.elim,λ _ z=>(nomatch z),λ _=>⟨rfl,?_⟩,(λ h=>nomatch h),?_⟩
 ·rw [OwnL]
  refine ⟨.ref a,[],[],[],rfl,rfl,λ _ z=>(nomatch z),?_,by rw [OwnL];exact ⟨rfl,rfl⟩⟩
  rw [Own]
  refine ⟨rfl,a,rfl,?_⟩
  rcases hS with (h | h) | h
  ·rcases hO a with z | ⟨ob,xs,z⟩
   ·rw [h] at z;cases z
   ·rw [h] at z;cases z
  ·exact .inl h
  ·exact .inr h
 ·obtain ⟨d,z,e⟩:=h
  rw [e]
  intro v H' fp fp0' _ _ _ _ _ _ o _
  rw [Own] at o
  exact o.1
end QQ
namespace QV
open PySem PySem.Spec PyProof.Rows L2 QQ
theorem zxf {op:PV->Nat->PV->Nat->Option (PV×Nat)}{f g:Fx}{ρ ρ1 ρ2:Rho}{x y z:PV}{d e c:Nat} (h1:f ρ=.ok (x,d,ρ1)) (h2:g ρ1=.ok (y,e,ρ2)) (h3:op x d y e=some (z,c)):bBin op f g ρ=.ok (z,c,ρ2):=by
 unfold bBin
 rw [h1]
 dsimp only [Rz.bind]
 rw [h2]
 dsimp only
 rw [h3]
theorem qcs {op:PV->Nat->Option (PV×Nat)}{f:Fx}{ρ ρ1:Rho}{x z:PV}{d c:Nat} (h1:f ρ=.ok (x,d,ρ1)) (h3:op x d=some (z,c)):bUn op f ρ=.ok (z,c,ρ1):=by
 unfold bUn
 rw [h1]
 dsimp only [Rz.bind]
 rw [h3]
theorem zqm {f:Fx}{fa:Fa}{ρ ρ1 ρ2:Rho}{x:PV}{d:Nat}{xs:List (PV×Nat)} (h1:f ρ=.ok (x,d,ρ1)) (h2:fa ρ1=.ok (xs,ρ2)):zqa f fa ρ=.ok ((x,d)::xs,ρ2):=by
 unfold zqa
 rw [h1]
 dsimp only [Rz.bind]
 rw [h2]
theorem zxb {f:Fx}{ρ ρ1:Rho}{x:PV}{d:Nat} (h1:f ρ=.ok (x,d,ρ1)):zqa f aNil ρ=.ok ([(x,d)],ρ1):=zqm h1 rfl
theorem zxd {op:List (PV×Nat)->Option (PV×Nat)}{fa:Fa}{ρ ρ1:Rho}{xs:List (PV×Nat)}{z:PV}{c:Nat} (h1:fa ρ=.ok (xs,ρ1)) (h2:op xs=some (z,c)):zqb op fa ρ=.ok (z,c,ρ1):=by
 unfold zqb
 rw [h1]
 dsimp only [Rz.bind]
 rw [h2]
theorem zqh {F:Fn}{fa:Fa}{ρ ρ1:Rho}{xs:List (PV×Nat)}{y z:PV}{d:Nat} (h1:fa ρ=.ok (xs,ρ1)) (h2:F (xs.map (·.1))=.ok (y,d,z)):zqg F fa ρ=.ok (y,d,ρ1):=by
 unfold zqg
 rw [h1]
 dsimp only [Rz.bind]
 rw [h2]
theorem zxl {f:Fx}{ρ ρ1:Rho}{x:PV}{d:Nat} (h:f ρ=.ok (x,d,ρ1)):sRet f ρ=.rt x d ρ1:=by
 unfold sRet
 rw [h]
theorem zyu {f:Fx}{ρ ρ1:Rho}{x:PV}{d:Nat} (h:f ρ=.ok (x,d,ρ1)):zzq f ρ=.nx ρ1:=by
 unfold zzq
 rw [h]
theorem setF {i:Nat}{f:Fx}{vs:List Nat}{ρ ρ1 ρ2:Rho}{x:PV}{d:Nat} (h:f ρ=.ok (x,d,ρ1)) (hc:i < ρ1.length) (e:(zqs d vs ρ1).set i (some (x,d))=ρ2):sSet false i f vs ρ=.nx ρ2:=by
 unfold sSet
 rw [h]
 dsimp only
 rw [if_pos ⟨hc,λ h=>nomatch h⟩,e]
theorem zyh {i:Nat}{f:Fx}{vs:List Nat}{ρ ρ1 ρ2:Rho}{y:PV}{e:Nat}{xs:List PV}{d0 d:Nat}{xs0:List PV} (h0:ρ[i]?=some (some (.lst xs0,d0 + 1))) (h:f ρ=.ok (y,e,ρ1)) (h1:(zqs e vs ρ1)[i]?=some (some (.lst xs,d))) (hd:d≠0) (hl:xs.length < sizeLine)
  (e2:(zqs e vs ρ1).set i (some (.lst (xs++[y]),if d=om/\e=om then om else 1))=ρ2):sApp i f vs ρ=.nx ρ2:=by
 unfold sApp
 rw [h0]
 dsimp only
 rw [h]
 dsimp only
 rw [h1]
 dsimp only
 rw [if_pos ⟨hd,hl⟩,e2]
theorem zqd {f g:Fs}{ρ ρ1:Rho} (h:f ρ=.nx ρ1):sSeq f g ρ=g ρ1:=by
 unfold sSeq
 rw [h]
theorem qo0 {c:Fb}{f g:Fs}{ρ ρ1:Rho}{b:Bool} (hc:c ρ=.ok (b,ρ1)):sIf c f g ρ=if b=true then f ρ1 else g ρ1:=by
 unfold sIf
 rw [hc]
theorem if_t {c:Fb}{f g:Fs}{ρ ρ1:Rho} (hc:c ρ=.ok (true,ρ1)):sIf c f g ρ=f ρ1:=by rw [qo0 hc];rfl
theorem if_f {c:Fb}{f g:Fs}{ρ ρ1:Rho} (hc:c ρ=.ok (false,ρ1)):sIf c f g ρ=g ρ1:=by rw [qo0 hc];rfl
theorem zwh {c:Fb}{f g:Fs}{ρ ρ1:Rho} (hc:c ρ=.ok (false,ρ1)):sSeq (sIf c f sNil) g ρ=g ρ1:=zqd (by rw [if_f hc];rfl)
theorem zxz {f g:Fs}{ρ ρ1:Rho}{x:PV}{d:Nat} (h:f ρ=.rt x d ρ1):sSeq f g ρ=.rt x d ρ1:=by
 unfold sSeq
 rw [h]
theorem t_ok {f:Fx}{ρ ρ1:Rho}{b:Bool}{d:Nat} (h:f ρ=.ok (.bl b,d,ρ1)):bT f ρ=.ok (b,ρ1):=by
 unfold bT
 rw [h]
 rfl
theorem zzb {f:Fx}{ρ ρ1:Rho}{b:Bool}{d:Nat} (h:f ρ=.ok (.bl b,d,ρ1)):bUn zqy f ρ=.ok (.bl (!b),om,ρ1):=qcs h rfl
theorem zzo {f g:Fx}{ρ ρ1:Rho}{a b:Bool}{d:Nat} (h:f ρ=.ok (.bl a,d,ρ1)) (h2:a=true->g ρ1=.ok (.bl b,om,ρ1)) (hd:d=om):zxp f g ρ=.ok (.bl (a && b),om,ρ1):=by
 subst hd
 unfold zxp
 rw [h]
 cases a with
 | false=>rfl
 | true=>exact h2 rfl
theorem zko {f g:Fx}{ρ ρ1:Rho}{a b:Bool}{d:Nat} (h:f ρ=.ok (.bl a,d,ρ1)) (h2:a=false->g ρ1=.ok (.bl b,om,ρ1)) (hd:d=om):bOrV f g ρ=.ok (.bl (a || b),om,ρ1):=by
 subst hd
 unfold bOrV
 rw [h]
 cases a with
 | true=>rfl
 | false=>exact h2 rfl
theorem zbj {f g:Fx}{ρ ρ1 ρ2:Rho}{i j:Int}{d e:Nat} (h1:f ρ=.ok (.int i,d,ρ1)) (h2:g ρ1=.ok (.int j,e,ρ2)) (h:(-(2 ^ 64) < i/\i < 2 ^ 64)\/(-(2 ^ 64) < j/\j < 2 ^ 64)):bBin zxx f g ρ=.ok (.int (i * j),om,ρ2):=by
 refine zxf h1 h2 ?_
 show (if pMul i j=true then _ else _)=_
 rw [if_pos]
 unfold pMul
 rcases h with h | h
 ·rw [decide_eq_true h.1,decide_eq_true h.2];rfl
 ·rw [decide_eq_true h.1,decide_eq_true h.2];simp
theorem zzc {f g:Fx}{ρ ρ1 ρ2:Rho}{i j:Int}{d e:Nat} (h1:f ρ=.ok (.int i,d,ρ1)) (h2:g ρ1=.ok (.int j,e,ρ2)) (h:0 < j):bBin zxh f g ρ=.ok (.int (i % j),om,ρ2):=by
 refine zxf h1 h2 ?_
 show (if pMod i j=true then _ else _)=_
 rw [if_pos]
 exact decide_eq_true h
theorem zpv {f g:Fx}{ρ ρ1 ρ2:Rho}{i j:Int}{d e:Nat} (h1:f ρ=.ok (.int i,d,ρ1)) (h2:g ρ1=.ok (.int j,e,ρ2)) (h:0 < j) (h':j < 2 ^ 128):bBin zwd f g ρ=.ok (.int (i / j),om,ρ2):=by
 refine zxf h1 h2 ?_
 show (if pDiv i j=true then _ else _)=_
 rw [if_pos]
 unfold pDiv
 rw [decide_eq_true h,decide_eq_true h'];rfl
theorem zwn {f g:Fx}{ρ ρ1 ρ2:Rho}{i j:Int}{d e:Nat} (h1:f ρ=.ok (.int i,d,ρ1)) (h2:g ρ1=.ok (.int j,e,ρ2)):bBin zqf f g ρ=.ok (.int (i + j),om,ρ2):=zxf h1 h2 rfl
theorem qau {f g:Fx}{ρ ρ1 ρ2:Rho}{i j:Int}{d e:Nat} (h1:f ρ=.ok (.int i,d,ρ1)) (h2:g ρ1=.ok (.int j,e,ρ2)):bBin zzz f g ρ=.ok (.int (i - j),om,ρ2):=zxf h1 h2 rfl
theorem zkl {p:Int->Int->Bool}{f g:Fx}{ρ ρ1 ρ2:Rho}{i j:Int}{d e:Nat} (h1:f ρ=.ok (.int i,d,ρ1)) (h2:g ρ1=.ok (.int j,e,ρ2)):bBin (zxq p) f g ρ=.ok (.bl (p i j),om,ρ2):=zxf h1 h2 rfl
theorem qby {p q:Int->Int->Bool}{f g h:Fx}{ρ:Rho}{i j k:Int}{d e c:Nat} (h1:f ρ=.ok (.int i,d,ρ)) (h2:g ρ=.ok (.int j,e,ρ)) (h3:h ρ=.ok (.int k,c,ρ)):zyf p q f g h ρ=.ok (.bl (p i j && q j k),om,ρ):=by
 unfold zyf
 rw [h1]
 dsimp only [Rz.bind]
 rw [h2]
 dsimp only
 by_cases hp:p i j=true
 ·rw [if_pos hp,h3,hp];rfl
 ·rw [if_neg hp]
  have:p i j=false:=by simpa using hp
  rw [this];rfl
theorem eqI {neg:Bool}{i j:Int}{d e:Nat}:opEq neg (.int i) d (.int j) e=some (.bl (neg^^decide (i=j)),om):=by
 show some (PV.bl (neg^^PyData.eqv (.int i) (.int j)),om)=_
 have:PyData.eqv (.int i) (.int j)=decide (i=j):=by
  show (i == j)=_
  rfl
 rw [this]
theorem zvf {neg:Bool}{f g:Fx}{ρ ρ1 ρ2:Rho}{i j:Int}{d e:Nat} (h1:f ρ=.ok (.int i,d,ρ1)) (h2:g ρ1=.ok (.int j,e,ρ2)):bBin (opEq neg) f g ρ=.ok (.bl (neg^^decide (i=j)),om,ρ2):=zxf h1 h2 eqI
abbrev iv (i:Int):PV:=.int i
def il (xs:List Int):PV:=.lst (xs.map .int)
def tb (t:List (List Int)):PV:=.lst (t.map il)
abbrev bx (a b c:Int):PV:=.tup [.int a,.int b,.int c]
theorem atI_nat {α:Type}{xs:List α}{k:Int}{x:α} (h0:0<=k) (h:xs[k.toNat]?=some x):atI xs k=some x:=by
 have hl:=(ja8.mp h).1
 unfold atI ixN
 rw [if_pos h0,if_pos (by omega)]
 exact h
theorem zvr {f g:Fx}{ρ ρ1 ρ2:Rho}{xs:List Int}{k x:Int}{d e:Nat} (h1:f ρ=.ok (il xs,d,ρ1)) (h2:g ρ1=.ok (.int k,e,ρ2)) (h:atI xs k=some x):bBin zqe f g ρ=.ok (.int x,om,ρ2):=by
 refine zxf h1 h2 ?_
 show (atI (xs.map PV.int) k).map _=_
 have:atI (xs.map PV.int) k=some (.int x):=by
  unfold atI at h ⊢
  rw [ja1]
  cases e:ixN xs.length k with
  | none=>rw [e] at h;cases h
  | some j=>
   rw [e] at h
   have h':xs[j]?=some x:=h
   show (xs.map PV.int)[j]?=_
   rw [jc4,h'];rfl
 rw [this];rfl
theorem qix {f g:Fx}{ρ ρ1 ρ2:Rho}{t:List (List Int)}{k:Int}{r:List Int}{d e:Nat} (h1:f ρ=.ok (tb t,d,ρ1)) (h2:g ρ1=.ok (.int k,e,ρ2)) (h:atI t k=some r):bBin zqe f g ρ=.ok (il r,0,ρ2):=by
 refine zxf h1 h2 ?_
 show (atI (t.map il) k).map _=_
 have:atI (t.map il) k=some (il r):=by
  unfold atI at h ⊢
  rw [ja1]
  cases e:ixN t.length k with
  | none=>rw [e] at h;cases h
  | some j=>
   rw [e] at h
   have h':t[j]?=some r:=h
   show (t.map il)[j]?=_
   rw [jc4,h'];rfl
 rw [this];rfl
theorem qa9 {fa:Fa}{ρ ρ1:Rho}{xs:List Int}{d:Nat} (h:fa ρ=.ok ([(il xs,d)],ρ1)):zqb zqu fa ρ=.ok (.int xs.length,om,ρ1):=by
 refine zxd h ?_
 show some (PV.int ((xs.map PV.int).length:Nat),om)=_
 rw [ja1]
theorem qek {fa:Fa}{ρ ρ1:Rho}{t:List (List Int)}{d:Nat} (h:fa ρ=.ok ([(tb t,d)],ρ1)):zqb zqu fa ρ=.ok (.int t.length,om,ρ1):=by
 refine zxd h ?_
 show some (PV.int ((t.map il).length:Nat),om)=_
 rw [ja1]
theorem zzl {α:Type}{n:Nat}{test:Fb}{elt:Fx}{enc q:α->PV}{e:α->Nat}{p:α->Bool}:∀ (xs:List α) (ρ:Rho) (acc:List (PV×Nat)),ρ.length=n->(∀ x∈xs,test (ρ++[some (enc x,dv (enc x))])=.ok (p x,ρ++[some (enc x,dv (enc x))])) ->
  (∀ x∈xs,p x=true->elt (ρ++[some (enc x,dv (enc x))])=.ok (q x,e x,ρ++[some (enc x,dv (enc x))]))->acc.length + xs.length<=sizeLine->zzm 1 (asgN n) test elt (xs.map enc) ρ acc=.ok (acc++(xs.filter p).map (λ x=>(q x,e x)),ρ)
 | [],ρ,acc,_,_,_,_=>by simp [zzm]
 | x::xs,ρ,acc,hn,ht,he,hl=>by
  have ea:asgN n (enc x) (ρ++ja6 1 none)=some (ρ++[some (enc x,dv (enc x))]):=by
   unfold asgN
   rw [if_pos (by rw [jb4,hn];simp),jn3 _ _ (by omega),hn]
   simp
  have ih:=λ acc h=>zzl (n:=n) (test:=test) (elt:=elt) (p:=p) (q:=q) (e:=e) (enc:=enc) xs ρ acc hn (λ y hy=>ht y (ja2 _ hy)) (λ y hy=>he y (ja2 _ hy)) h
  have tk:(ρ++[some (enc x,dv (enc x))]).take ρ.length=ρ:=by simp
  rw [jb1] at hl
  rw [jd5]
  unfold zzm
  rw [ea]
  dsimp only
  rw [ht x ja5]
  dsimp only [Rz.bindN]
  cases hp:p x with
  | false=>
   rw [if_neg jc5,tk,ih acc (by omega),je5 (by simp [hp])]
  | true=>
   rw [if_pos rfl,he x ja5 hp]
   dsimp only
   rw [if_pos (by omega),tk,ih _ (by rw [jb4,jd7];omega),jg0 hp]
   simp
theorem zzp {α:Type} (q:α->PV):∀ xs:List α,zvp (xs.map λ x=>(q x,om))=true
 | []=>rfl
 | x::xs=>by rw [jd5];unfold zvp;rw [zzp q xs];rfl
theorem zwj {α:Type}{n:Nat}{f elt:Fx}{enc q:α->PV}{ρ ρ1:Rho}{d:Nat} (xs:List α) (hf:f ρ=.ok (.lst (xs.map enc),d,ρ1)) (hn:ρ1.length=n) (he:∀ x∈xs,elt (ρ1++[some (enc x,dv (enc x))])=.ok (q x,om,ρ1++[some (enc x,dv (enc x))])) (hl:xs.length<=sizeLine):
  zqw f 1 (asgN n) zxt elt ρ=.ok (.lst (xs.map q),om,ρ1):=by
 unfold zqw
 rw [hf]
 dsimp only
 rw [zzl (p:=λ _=>true) (q:=q) (e:=λ _=>om) xs ρ1 [] hn (λ _ _=>rfl) (λ x hx _=>he x hx) (by simpa using hl),jk9.mpr (λ _ _=>rfl)]
 show zvk (xs.map λ x=>(q x,om)) ρ1=_
 unfold zvk
 rw [zzp,jd6]
 rfl
theorem qbs {α:Type}{n:Nat}{f elt:Fx}{enc q:α->PV}{ρ ρ1:Rho}{d:Nat} (xs:List α) (hf:f ρ=.ok (.tup (xs.map enc),d,ρ1)) (hn:ρ1.length=n) (he:∀ x∈xs,elt (ρ1++[some (enc x,dv (enc x))])=.ok (q x,om,ρ1++[some (enc x,dv (enc x))])) (hl:xs.length<=sizeLine):
  zqw f 1 (asgN n) zxt elt ρ=.ok (.lst (xs.map q),om,ρ1):=by
 unfold zqw
 rw [hf]
 dsimp only
 rw [zzl (p:=λ _=>true) (q:=q) (e:=λ _=>om) xs ρ1 [] hn (λ _ _=>rfl) (λ x hx _=>he x hx) (by simpa using hl),jk9.mpr (λ _ _=>rfl)]
 show zvk (xs.map λ x=>(q x,om)) ρ1=_
 unfold zvk
 rw [zzp,jd6]
 rfl
theorem qhn {α:Type}{n:Nat}{f elt:Fx}{test:Fb}{enc q:α->PV}{p:α->Bool}{ρ ρ1:Rho}{d:Nat} (xs:List α) (hf:f ρ=.ok (.lst (xs.map enc),d,ρ1)) (hn:ρ1.length=n) (ht:∀ x∈xs,test (ρ1++[some (enc x,dv (enc x))])=.ok (p x,ρ1++[some (enc x,dv (enc x))])) (he:∀ x∈xs,p x=true->elt (ρ1++[some (enc x,dv (enc x))])=.ok (q x,om,ρ1++[some (enc x,dv (enc x))])) (hl:xs.length<=sizeLine):
  zqw f 1 (asgN n) test elt ρ=.ok (.lst ((xs.filter p).map q),om,ρ1):=by
 unfold zqw
 rw [hf]
 dsimp only
 rw [zzl (p:=p) (q:=q) (e:=λ _=>om) xs ρ1 [] hn ht he (by simpa using hl)]
 show zvk ((xs.filter p).map λ x=>(q x,om)) ρ1=_
 unfold zvk
 rw [zzp,jd6]
 rfl
theorem zbd (lo:Int) (n:Nat):zvt lo n=(jc2 n).map λ (k:Nat)=>PV.int (lo + (k:Int)):=rfl
theorem zjq {n:Nat}{en:List (PV×Nat)->Option (Int×Int)}{fa:Fa}{elt:Fx}{q:Nat->PV}{ρ ρ1:Rho}{as:List (PV×Nat)}{lo hi:Int} (hf:fa ρ=.ok (as,ρ1)) (hen:en as=some (lo,hi)) (hn:ρ1.length=n) (he:∀ k,k < (hi - lo).toNat->elt (ρ1++[some (.int (lo + (k:Int)),om)])=.ok (q k,om,ρ1++[some (.int (lo + (k:Int)),om)])) (hl:(hi - lo).toNat<=sizeLine):
  zwf en fa 1 (asgN n) zxt elt ρ=.ok (.lst ((jc2 (hi - lo).toNat).map q),om,ρ1):=by
 unfold zwf
 rw [hf]
 dsimp only
 rw [hen]
 dsimp only
 rw [zbd,zzl (enc:=λ (k:Nat)=>PV.int (lo + (k:Int))) (p:=λ _=>true) (q:=q) (e:=λ _=>om) (jc2 (hi - lo).toNat) ρ1 [] hn (λ _ _=>rfl) (λ x hx _=>he x (jd8.mp hx)) (by simpa using hl),jk9.mpr (λ _ _=>rfl)]
 show zvk ((jc2 (hi - lo).toNat).map λ x=>(q x,om)) ρ1=_
 unfold zvk
 rw [zzp,jd6]
 rfl
theorem qh1 {α:Type} (g:α->Bool) (xs:List α):QQ.allB (xs.map λ x=>.bl (g x))=some (xs.map g):=by
 induction xs with
 | nil=>rfl
 | cons x r ih=>rw [jd5,jd5,QQ.allB,ih];rfl
theorem all_ok {α:Type}{f:Fx}{ρ ρ1:Rho}{d:Nat}{g:α->Bool}{xs:List α} (h:f ρ=.ok (.lst (xs.map λ x=>.bl (g x)),d,ρ1)):zqb zyn (zqa f aNil) ρ=.ok (.bl (xs.all g),om,ρ1):=by
 refine zxd (zxb h) ?_
 show (QQ.allB _).map _=_
 rw [qh1]
 simp
theorem qa7 {i:Nat}{body:Fs}{lo:Int} (I:Nat->Rho->Prop):∀ (m k:Nat) (ρ:Rho),I k ρ->(∀ j ρ,k<=j->j < k + m->I j ρ->i < ρ.length/\∃ ρ2,body (ρ.set i (some (.int (lo + (j:Int)),om)))=.nx ρ2/\I (j + 1) ρ2) ->
  ∃ ρ',zws (asgN i) body ((jk8 k m).map λ (k:Nat)=>PV.int (lo + (k:Int))) ρ=.nx ρ'/\I (k + m) ρ'
 | 0,k,ρ,hi,_=>⟨ρ,rfl,hi⟩
 | m + 1,k,ρ,hi,hb=>by
  obtain ⟨h1,ρ2,e2,h2⟩:=hb k ρ (jb3 _) (by omega) hi
  obtain ⟨ρ',e',h'⟩:=qa7 (i:=i) (body:=body) (lo:=lo) I m (k + 1) ρ2 h2 λ j ρ a b=>hb j ρ (by omega) (by omega)
  refine ⟨ρ',?_,by rw [show k + (m + 1)=k + 1 + m by omega];exact h'⟩
  rw [jp7,jd5]
  unfold zws
  have:asgN i (PV.int (lo + (k:Int))) ρ=some (ρ.set i (some (.int (lo + (k:Int)),om))):=by
   unfold asgN
   rw [if_pos h1];rfl
  rw [this]
  dsimp only
  rw [e2]
  exact e'
theorem zkg {i:Nat}{body:Fs}{en:List (PV×Nat)->Option (Int×Int)}{fa:Fa}{ρ ρ1:Rho}{as:List (PV×Nat)}{lo hi:Int} (I:Nat->Rho->Prop) (hf:fa ρ=.ok (as,ρ1)) (hen:en as=some (lo,hi)) (h0:I 0 ρ1)
  (hb:∀ j ρ,j < (hi - lo).toNat->I j ρ->i < ρ.length/\∃ ρ2,body (ρ.set i (some (.int (lo + (j:Int)),om)))=.nx ρ2/\I (j + 1) ρ2):∃ ρ',zkj en fa (asgN i) body ρ=.nx ρ'/\I (hi - lo).toNat ρ':=by
 obtain ⟨ρ',e,h⟩:=qa7 (i:=i) (body:=body) (lo:=lo) I (hi - lo).toNat 0 ρ1 h0 λ j ρ _ h hi=>hb j ρ (by omega) hi
 refine ⟨ρ',?_,by rw [ji8] at h;exact h⟩
 unfold zkj
 rw [hf]
 dsimp only
 rw [hen]
 dsimp only
 rw [zbd,List.range_eq_range']
 exact e
theorem zwx {j:Int}{d:Nat} (h1:-(2 ^ 62)<=j) (h2:j < 2 ^ 62):zxu [(.int j,d)]=some (0,j):=by
 show (if -(2 ^ 62)<=j/\j < 2 ^ 62 then some ((0:Int),j) else none)=_
 rw [if_pos ⟨h1,h2⟩]
theorem qhh {i j:Int}{d e:Nat} (h1:-(2 ^ 62)<=i) (h2:i < 2 ^ 62) (h3:-(2 ^ 62)<=j) (h4:j < 2 ^ 62):zbs [(.int i,d),(.int j,e)]=some (i,j):=by
 show (if -(2 ^ 62)<=i/\i < 2 ^ 62/\-(2 ^ 62)<=j/\j < 2 ^ 62 then some (i,j) else none)=_
 rw [if_pos ⟨h1,h2,h3,h4⟩]
theorem zxk {np k:Nat}{b:Fs}{xs:List PV}{ρ':Rho}{y:PV}{d:Nat} (hl:xs.length=np) (h:b (xs.map (λ x=>some (x,dv x))++ja6 k none)=.rt y d ρ'):mkFn false np k b xs=.ok (y,d,.non):=by
 unfold mkFn
 rw [if_pos hl]
 have:zzj false xs=xs.map λ x=>some (x,dv x):=rfl
 rw [this,h]
 rfl
theorem qqe {np k:Nat}{b:Fs}{xs:List PV}{ρ':Rho} (hl:xs.length=np) (h:b (xs.map (λ x=>some (x,dv x))++ja6 k none)=.nx ρ'):mkFn false np k b xs=.ok (.non,om,.non):=by
 unfold mkFn
 rw [if_pos hl]
 have:zzj false xs=xs.map λ x=>some (x,dv x):=rfl
 rw [this,h]
 rfl
def Xf_is_whole_number:Fs:=(sRet (zxp (bUn (zqn "int") (bVar 0)) (bUn zqy (bUn (zqn "bool") (bVar 0)))))
def f_is_whole_number:Fn:=mkFn false 1 0 Xf_is_whole_number
def Xf_is_box:Fs:=(sSeq (sIf (bT (bOrV (bUn zqy (bUn (zqn "tuple") (bVar 0))) (bBin (opEq true) (zqb zqu (zqa (bVar 0) (aNil))) (bC (.int 3))))) (sRet (bC (.bl false))) sNil)
 (sRet (zqb zyn (zqa (zqw (bVar 0) 1 (asgN 1) zxt (zxp (zqg f_is_whole_number (zqa (bVar 1) (aNil))) (bBin (zxq λ i j=>decide (j<=i)) (bVar 1) (bC (.int 1))))) (aNil)))))
def f_is_box:Fn:=mkFn false 1 0 Xf_is_box
def Xf_must_be_box:Fs:=(sIf (bT (bUn zqy (zqg f_is_box (zqa (bVar 0) (aNil))))) (sExc 1) sNil)
def f_must_be_box:Fn:=mkFn false 1 0 Xf_must_be_box
def Xf_is_row_of_heights:Fs:=(sSeq (sIf (bT (bOrV (bUn zqy (bUn (zqn "list") (bVar 0))) (bBin (opEq true) (zqb zqu (zqa (bVar 0) (aNil))) (bVar 1)))) (sRet (bC (.bl false))) sNil)
 (sRet (zqb zyn (zqa (zqw (bVar 0) 1 (asgN 3) zxt (zxp (zqg f_is_whole_number (zqa (bVar 3) (aNil))) (zyf (λ i j=>decide (i<=j)) (λ i j=>decide (i<=j)) (bC (.int 0)) (bVar 3) (bVar 2)))) (aNil)))))
def f_is_row_of_heights:Fn:=mkFn false 3 0 Xf_is_row_of_heights
def Xf_never_rises:Fs:=(sRet (zqb zyn (zqa (zwf zbs (zqa (bC (.int 1)) (zqa (zqb zqu (zqa (bVar 0) (aNil))) (aNil))) 1 (asgN 1) zxt (bBin (zxq λ i j=>decide (i<=j)) (bBin zqe (bVar 0) (bVar 1)) (bBin zqe (bVar 0) (bBin zzz (bVar 1) (bC (.int 1)))))) (aNil))))
def f_never_rises:Fn:=mkFn false 1 0 Xf_never_rises
def Xf_column_of:Fs:=(sRet (zqw (bVar 0) 1 (asgN 2) zxt (bBin zqe (bVar 2) (bVar 1))))
def f_column_of:Fn:=mkFn false 2 0 Xf_column_of
def Xf_is_pile:Fs:=(sSeq (zzq (zqg f_must_be_box (zqa (bVar 0) (aNil))))
 (sSeq (sUnp (asgT [2,3,4]) (bVar 0) [0])
 (sSeq (sIf (bT (bOrV (bUn zqy (bUn (zqn "list") (bVar 1))) (bBin (opEq true) (zqb zqu (zqa (bVar 1) (aNil))) (bVar 2)))) (sRet (bC (.bl false))) sNil)
 (sSeq (sIf (bT (bUn zqy (zqb zyn (zqa (zqw (bVar 1) 1 (asgN 5) zxt (zqg f_is_row_of_heights (zqa (bVar 5) (zqa (bVar 3) (zqa (bVar 4) (aNil)))))) (aNil))))) (sRet (bC (.bl false))) sNil)
 (sSeq (sIf (bT (bUn zqy (zqb zyn (zqa (zqw (bVar 1) 1 (asgN 5) zxt (zqg f_never_rises (zqa (bVar 5) (aNil)))) (aNil))))) (sRet (bC (.bl false))) sNil)
 (sRet (zqb zyn (zqa (zwf zxu (zqa (bVar 3) (aNil)) 1 (asgN 5) zxt (zqg f_never_rises (zqa (zqg f_column_of (zqa (bVar 1) (zqa (bVar 5) (aNil)))) (aNil)))) (aNil)))))))))
def f_is_pile:Fn:=mkFn false 2 3 Xf_is_pile
def Xf_how_many_above:Fs:=(sRet (zqb zqu (zqa (zqw (bVar 0) 1 (asgN 2) (bT (bBin (zxq λ i j=>decide (j < i)) (bVar 2) (bVar 1))) (bVar 2)) (aNil))))
def f_how_many_above:Fn:=mkFn false 2 0 Xf_how_many_above
def Xf_are_stairs:Fs:=(sSeq (zzq (zqg f_must_be_box (zqa (bVar 0) (aNil))))
 (sSeq (sUnp (asgT [2,3,4]) (bVar 0) [0])
 (sRet (zqg f_is_pile (zqa (zqb zwq (zqa (bVar 4) (zqa (bVar 2) (zqa (bVar 3) (aNil))))) (zqa (bVar 1) (aNil)))))))
def f_are_stairs:Fn:=mkFn false 2 3 Xf_are_stairs
def Xf_pile_of_stairs:Fs:=(sSeq (sIf (bT (bUn zqy (zqg f_are_stairs (zqa (bVar 0) (zqa (bVar 1) (aNil)))))) (sExc 3) sNil)
 (sSeq (sUnp (asgT [2,3,4]) (bVar 0) [0])
 (sSeq (sSet false 5 (zqb zqj (aNil)) [])
 (sSeq (zkj zxu (zqa (bVar 2) (aNil)) (asgN 6) (sSeq (sSet false 7 (zqg f_column_of (zqa (bVar 1) (zqa (bVar 6) (aNil)))) [1,6])
 (sApp 5 (zwf zxu (zqa (bVar 3) (aNil)) 1 (asgN 8) zxt (zqg f_how_many_above (zqa (bVar 7) (zqa (bVar 8) (aNil))))) [7])))
 (zjc 5)))))
def f_pile_of_stairs:Fn:=mkFn false 2 6 Xf_pile_of_stairs
def Xb_cell_at:Fs:=(sSeq (sIf (bT (bBin (zxq λ i j=>decide (i < j)) (bVar 1) (zqb zqu (zqa (bVar 0) (aNil))))) (sRet (bBin zqe (bVar 0) (bVar 1))) sNil)
 (sRet (bC (.int 0))))
def b_cell_at:Fn:=mkFn false 2 0 Xb_cell_at
def Xb_stir:Fs:=(sSeq (sSet false 2 (bBin zxh (bBin zxx (bBin zqf (bBin zqf (bBin zxh (bVar 0) (bC (.int 2147483629))) (bBin zxx (bC (.int 9973)) (bVar 1))) (bC (.int 5))) (bC (.int 48271))) (bC (.int 2147483647))) [0,1])
 (sSeq (sSet false 2 (bBin zxh (bBin zxx (bVar 2) (bVar 2)) (bC (.int 2147483587))) [2,2])
 (sRet (bBin zwd (bBin zxh (bBin zxx (bBin zqf (bVar 2) (bBin zxx (bC (.int 7919)) (bVar 1))) (bC (.int 16807))) (bC (.int 2147483563))) (bC (.int 8))))))
def b_stir:Fn:=mkFn false 2 1 Xb_stir
def Xb_numbers:Fs:=(sSeq (sSet false 2 (zqb zqj (aNil)) [])
 (sSeq (sSet false 3 (bVar 0) [0])
 (sSeq (zkj zxu (zqa (bVar 1) (aNil)) (asgN 4) (sSeq (sSet false 5 (zqg b_stir (zqa (bVar 0) (zqa (bVar 4) (aNil)))) [0,4])
 (sSeq (sIf (bT (bBin (zxq λ i j=>decide (j<=i)) (bVar 0) (bBin zjd (bC (.int 10)) (bC (.int 18))))) (sSet false 5 (bBin zxh (bVar 3) (bC (.int 720720))) [3]) sNil)
 (sSeq (sSet false 3 (bBin zwd (bVar 3) (bC (.int 720720))) [3])
 (sApp 2 (bVar 5) [5])))))
 (zjc 2))))
def b_numbers:Fn:=mkFn false 2 4 Xb_numbers
def Xb_box:Fs:=(sSeq (sSet false 3 (zqg b_numbers (zqa (bVar 0) (zqa (bC (.int 4)) (aNil)))) [0])
 (sSeq (sIf (bT (bBin (opEq false) (bBin zxh (bBin zqe (bVar 3) (bC (.int 3))) (bC (.int 8))) (bC (.int 3)))) (sSet false 1 (bVar 2) [2]) sNil)
 (sRet (zqb zwq (zqa (bBin zqf (bC (.int 1)) (bBin zxh (bBin zqe (bVar 3) (bC (.int 0))) (bVar 1))) (zqa (bBin zqf (bC (.int 1)) (bBin zxh (bBin zqe (bVar 3) (bC (.int 1))) (bVar 1))) (zqa (bBin zqf (bC (.int 1)) (bBin zxh (bBin zqe (bVar 3) (bC (.int 2))) (bVar 1))) (aNil))))))))
def b_box:Fn:=mkFn false 3 1 Xb_box
def Xb_pile:Fs:=(sSeq (sSet false 4 (zqg b_numbers (zqa (bVar 3) (zqa (bBin zxx (bBin zqe (bVar 0) (bC (.int 0))) (bBin zqe (bVar 0) (bC (.int 1)))) (aNil)))) [3,0,0])
 (sSeq (sSet false 5 (zqb zqj (aNil)) [])
 (sSeq (zkj zxu (zqa (bBin zqe (bVar 0) (bC (.int 0))) (aNil)) (asgN 6) (sSeq (sSet false 7 (zqb zqj (aNil)) [])
 (sSeq (zkj zxu (zqa (bBin zqe (bVar 0) (bC (.int 1))) (aNil)) (asgN 8) (sSeq (sSet false 9 (bBin zqe (bVar 4) (bBin zqf (bBin zxx (bVar 6) (bBin zqe (bVar 0) (bC (.int 1)))) (bVar 8))) [4,6,0,8])
 (sSeq (sIf (bT (bBin (zxq λ i j=>decide (i < j)) (bBin zqf (bBin zqf (bVar 2) (bBin zxx (bVar 6) (bBin zqe (bVar 0) (bC (.int 1))))) (bVar 8)) (zqb zqu (zqa (bVar 1) (aNil))))) (sSet false 9 (bBin zqe (bVar 1) (bBin zqf (bBin zqf (bVar 2) (bBin zxx (bVar 6) (bBin zqe (bVar 0) (bC (.int 1))))) (bVar 8))) [1,2,6,0,8]) sNil)
 (sSeq (sSet false 10 (bBin zqe (bBin zqf (zqb zqj (zqa (bBin zqe (bVar 0) (bC (.int 2))) (aNil))) (zqw (bSl (bVar 5) (some (bUn zwi (bC (.int 1)))) none) 1 (asgN 11) zxt (bBin zqe (bBin zqe (bVar 5) (bUn zwi (bC (.int 1)))) (bVar 8)))) (bUn zwi (bC (.int 1)))) [0,5,5,8])
 (sSeq (sSet false 10 (zqb zkz (zqa (bBin zqf (zqb zqj (zqa (bVar 10) (aNil))) (bSl (bVar 7) (some (bUn zwi (bC (.int 1)))) none)) (aNil))) [10,7])
 (sApp 7 (bBin zzz (bVar 10) (bBin zqe (zqb zqj (zqa (bC (.int 0)) (zqa (bC (.int 0)) (zqa (zqb zkz (zqa (bC (.int 1)) (zqa (bVar 10) (aNil)))) (zqa (bBin zxh (bBin zwd (bVar 9) (bC (.int 4))) (bBin zqf (bVar 10) (bC (.int 1)))) (aNil)))))) (bBin zxh (bVar 9) (bC (.int 4))))) [10,10,9,10,9]))))))
 (sApp 5 (bVar 7) [7]))))
 (zjc 5))))
def b_pile:Fn:=mkFn false 4 7 Xb_pile
theorem sz:(1000000:Nat)<=sizeLine:=by decide
theorem qf6 (i:Int):f_is_whole_number [.int i]=.ok (.bl true,om,.non):=by kernel_rfl
def boxB (a b c:Int):Bool:=decide (1<=a) && (decide (1<=b) && decide (1<=c))
theorem qeu (a b c:Int):f_is_box [bx a b c]=.ok (.bl (boxB a b c),om,.non):=by
 have e0:∀ x∈[a,b,c],(zxp (zqg f_is_whole_number (zqa (bVar 1) (aNil))) (bBin (zxq λ i j=>decide (j<=i)) (bVar 1) (bC (.int 1)))) ([some (bx a b c,0)]++[some (.int x,om)])=.ok (.bl (decide (1<=x)),om,[some (bx a b c,0)]++[some (.int x,om)]):=λ x _=>by kernel_rfl
 have e1:=qbs (n:=1) (f:=bVar 0) (ρ:=[some (bx a b c,0)]) (enc:=PV.int) (q:=λ x=>.bl (decide (1<=x))) (d:=0) [a,b,c] rfl rfl e0 (by have:=sz;show 3<=sizeLine;omega)
 refine zxk rfl (ρ':=[some (bx a b c,0)]) ?_
 show Xf_is_box [some (bx a b c,0)]=_
 refine (zwh (ρ1:=[some (bx a b c,0)]) (by kernel_rfl)).trans (zxl ?_)
 rw [all_ok e1]
 show Rz.ok (PV.bl (decide (1<=a) && (decide (1<=b) && (decide (1<=c) && true))),om,_)=_
 rw [jm0]
 rfl
theorem zwr {a b c:Int} (h:boxB a b c=true):f_must_be_box [bx a b c]=.ok (.non,om,.non):=by
 refine qqe rfl (ρ':=[some (bx a b c,0)]) ?_
 have hb:=qeu a b c
 rw [h] at hb
 exact if_f (f:=sExc 1) (g:=sNil) (t_ok (zzb (zqh (F:=f_is_box) (fa:=zqa (bVar 0) aNil) (ρ:=[some (bx a b c,0)]) (xs:=[(bx a b c,0)]) rfl hb)))
def rowB (xs:List Int) (c h:Int):Bool:=decide ((xs.length:Int)=c) && xs.all λ x=>decide (0<=x) && decide (x<=h)
theorem qno (xs:List Int) (c h:Int) (hl:xs.length<=1000):f_is_row_of_heights [il xs,.int c,.int h]=.ok (.bl (rowB xs c h),om,.non):=by
 have e0:∀ x∈xs,(zxp (zqg f_is_whole_number (zqa (bVar 3) (aNil))) (zyf (λ i j=>decide (i<=j)) (λ i j=>decide (i<=j)) (bC (.int 0)) (bVar 3) (bVar 2))) ([some (il xs,0),some (.int c,om),some (.int h,om)]++[some (.int x,om)])=.ok (.bl (decide (0<=x) && decide (x<=h)),om,[some (il xs,0),some (.int c,om),some (.int h,om)]++[some (.int x,om)]):=λ x _=>
  zzo (a:=true) (zqh (xs:=[(.int x,om)]) rfl (qf6 x)) (λ _=>qby (i:=0) (j:=x) (k:=h) rfl rfl rfl) rfl
 have e1:=zwj (n:=3) (f:=bVar 0) (ρ:=[some (il xs,0),some (.int c,om),some (.int h,om)]) (enc:=PV.int) (q:=λ x=>.bl (decide (0<=x) && decide (x<=h))) (d:=0) xs rfl rfl e0 (by have:=sz;omega)
 have t:bT (bOrV (bUn zqy (bUn (zqn "list") (bVar 0))) (bBin (opEq true) (zqb zqu (zqa (bVar 0) (aNil))) (bVar 1))) [some (il xs,0),some (.int c,om),some (.int h,om)]=.ok (!decide ((xs.length:Int)=c),[some (il xs,0),some (.int c,om),some (.int h,om)]):=by
  refine t_ok (d:=om) ((zko (a:=false) rfl (λ _=>zvf (qa9 (xs:=xs) (d:=0) rfl) (j:=c) rfl) rfl).trans ?_)
  rw [jj3,jj4]
 refine zxk rfl (ρ':=[some (il xs,0),some (.int c,om),some (.int h,om)]) ?_
 show Xf_is_row_of_heights [some (il xs,0),some (.int c,om),some (.int h,om)]=_
 unfold rowB
 by_cases hc:(xs.length:Int)=c
 ·rw [decide_eq_true hc] at t ⊢
  refine (zwh t).trans (zxl ?_)
  rw [all_ok e1]
  rfl
 ·rw [decide_eq_false hc] at t ⊢
  exact zxz ((if_t t).trans rfl)
def nrB (xs:List Int):Bool:=(jc2 ((xs.length:Int) - 1).toNat).all λ k=>decide (xs.getD (k + 1) 0<=xs.getD k 0)
theorem qa5 (xs:List Int) (hl:xs.length<=1000):f_never_rises [il xs]=.ok (.bl (nrB xs),om,.non):=by
 have e0:∀ k,k < ((xs.length:Int) - 1).toNat->(bBin (zxq λ i j=>decide (i<=j)) (bBin zqe (bVar 0) (bVar 1)) (bBin zqe (bVar 0) (bBin zzz (bVar 1) (bC (.int 1))))) ([some (il xs,0)]++[some (.int (1 + (k:Int)),om)])=.ok (.bl (decide (xs.getD (k + 1) 0<=xs.getD k 0)),om,[some (il xs,0)]++[some (.int (1 + (k:Int)),om)]):=λ k hk=>by
  refine zkl (i:=xs.getD (k + 1) 0) (j:=xs.getD k 0) (zvr (xs:=xs) (k:=1 + (k:Int)) rfl rfl (atI_nat (by omega) ?_)) (zvr (xs:=xs) (k:=1 + (k:Int) - 1) rfl rfl (atI_nat (by omega) ?_))
  ·rw [show (1 + (k:Int)).toNat=k + 1 by omega,ja3 (show k + 1 < xs.length by omega),ja0,ja3 (show k + 1 < xs.length by omega)];rfl
  ·rw [show (1 + (k:Int) - 1).toNat=k by omega,ja3 (show k < xs.length by omega),ja0,ja3 (show k < xs.length by omega)];rfl
 have e1:=zjq (n:=1) (en:=zbs) (ρ:=[some (il xs,0)]) (q:=λ k=>.bl (decide (xs.getD (k + 1) 0<=xs.getD k 0))) (zqm (f:=bC (.int 1)) (d:=om) (x:=.int 1) rfl (zxb (qa9 (fa:=zqa (bVar 0) aNil) (xs:=xs) (d:=0) rfl))) (qhh (by decide) (by decide) (by omega) (by omega)) rfl e0 (by have:=sz;omega)
 exact zxk rfl (ρ':=[some (il xs,0)]) (zxl (all_ok e1))
def zwg (t:List (List Int)) (j:Nat):List Int:=t.map λ r=>r.getD j 0
theorem zwc {xs:List Int}{j:Nat} (h:j < xs.length):xs[j]?=some (xs.getD j 0):=by
 rw [ja0,ja3 h];rfl
theorem zbq {xs:List (List Int)}{j:Nat} (h:j < xs.length):xs[j]?=some (xs.getD j []):=by
 rw [ja0,ja3 h];rfl
theorem zgy (t:List (List Int)) (j:Nat) (hl:t.length<=1000) (hr:∀ r∈t,j < r.length):f_column_of [tb t,.int (j:Int)]=.ok (il (zwg t j),om,.non):=by
 have e0:∀ r∈t,(bBin zqe (bVar 2) (bVar 1)) ([some (tb t,0),some (.int (j:Int),om)]++[some (il r,0)])=.ok (.int (r.getD j 0),om,[some (tb t,0),some (.int (j:Int),om)]++[some (il r,0)]):=λ r hm=>
  zvr (xs:=r) (k:=(j:Int)) rfl rfl (atI_nat (by omega) (zwc (hr r hm)))
 have e1:=zwj (n:=2) (f:=bVar 0) (ρ:=[some (tb t,0),some (.int (j:Int),om)]) (enc:=il) (q:=λ r=>.int (r.getD j 0)) (d:=0) t rfl rfl e0 (by have:=sz;omega)
 refine zxk rfl (ρ':=[some (tb t,0),some (.int (j:Int),om)]) ((zxl e1).trans ?_)
 unfold zwg il
 rw [jd6]
 rfl
theorem qh6 (xs:List Int) (k:Int) (hl:xs.length<=1000):f_how_many_above [il xs,.int k]=.ok (.int ((xs.filter λ x=>decide (k < x)).length:Nat),om,.non):=by
 have e1:=qhn (n:=2) (f:=bVar 0) (elt:=bVar 2) (test:=bT (bBin (zxq λ i j=>decide (j < i)) (bVar 2) (bVar 1))) (ρ:=[some (il xs,0),some (.int k,om)]) (enc:=PV.int) (q:=PV.int) (p:=λ x=>decide (k < x)) (d:=0) xs rfl rfl (λ x _=>rfl) (λ x _ _=>rfl) (by have:=sz;omega)
 exact zxk rfl (ρ':=[some (il xs,0),some (.int k,om)]) (zxl (qa9 (xs:=xs.filter λ x=>decide (k < x)) (zxb e1)))
def Tab (a b:Nat) (t:List (List Int)):Prop:=t.length=a/\∀ r∈t,r.length=b
def zkw (a b:Nat) (c:Int) (t:List (List Int)):Bool:=(t.all λ r=>rowB r b c) && ((t.all nrB) && ((jc2 b).all λ j=>nrB (zwg t j)))
theorem qck {a b:Nat}{c:Int}{t:List (List Int)} (ht:Tab a b t) (ha:1<=a/\a<=100) (hb:1<=b/\b<=100) (hc:1<=c):f_is_pile [bx a b c,tb t]=.ok (.bl (zkw a b c t),om,.non):=by
 let R0:Rho:=[some (bx a b c,0),some (tb t,0),none,none,none]
 let R1:Rho:=[some (bx a b c,0),some (tb t,0),some (.int a,om),some (.int b,om),some (.int c,om)]
 have hbx:boxB a b c=true:=by unfold boxB;rw [decide_eq_true (by omega),decide_eq_true (by omega),decide_eq_true hc];rfl
 have hs:=sz
 have l1:=ht.1
 have s1:zzq (zqg f_must_be_box (zqa (bVar 0) (aNil))) R0=.nx R0:=zyu (zqh (xs:=[(bx a b c,0)]) rfl (zwr hbx))
 have s2:sUnp (asgT [2,3,4]) (bVar 0) [0] R0=.nx R1:=by kernel_rfl
 have t3:bT (bOrV (bUn zqy (bUn (zqn "list") (bVar 1))) (bBin (opEq true) (zqb zqu (zqa (bVar 1) (aNil))) (bVar 2))) R1=.ok (false,R1):=by
  refine t_ok (d:=om) ((zko (a:=false) rfl (λ _=>zvf (qek (t:=t) (d:=0) rfl) (j:=(a:Int)) rfl) rfl).trans ?_)
  rw [l1];simp
 have e4:∀ r∈t,(zqg f_is_row_of_heights (zqa (bVar 5) (zqa (bVar 3) (zqa (bVar 4) (aNil))))) (R1++[some (il r,0)])=.ok (.bl (rowB r b c),om,R1++[some (il r,0)]):=λ r hr=>
  zqh (xs:=[(il r,0),(.int b,om),(.int c,om)]) rfl (qno r b c (by rw [ht.2 r hr];omega))
 have t4:=t_ok (zzb (all_ok (zwj (n:=5) (f:=bVar 1) (ρ:=R1) (enc:=il) (q:=λ r=>.bl (rowB r b c)) (d:=0) t rfl rfl e4 (by omega))))
 have e5:∀ r∈t,(zqg f_never_rises (zqa (bVar 5) (aNil))) (R1++[some (il r,0)])=.ok (.bl (nrB r),om,R1++[some (il r,0)]):=λ r hr=>
  zqh (xs:=[(il r,0)]) rfl (qa5 r (by rw [ht.2 r hr];omega))
 have t5:=t_ok (zzb (all_ok (zwj (n:=5) (f:=bVar 1) (ρ:=R1) (enc:=il) (q:=λ r=>.bl (nrB r)) (d:=0) t rfl rfl e5 (by omega))))
 have e6:∀ k,k < ((b:Int) - 0).toNat->(zqg f_never_rises (zqa (zqg f_column_of (zqa (bVar 1) (zqa (bVar 5) (aNil)))) (aNil))) (R1++[some (.int (0 + (k:Int)),om)])=.ok (.bl (nrB (zwg t k)),om,R1++[some (.int (0 + (k:Int)),om)]):=λ k hk=>by
  have e:=zgy t k (by omega) λ r hr=>by rw [ht.2 r hr];omega
  rw [jh4]
  exact zqh (xs:=[(il (zwg t k),om)]) (zxb (zqh (xs:=[(tb t,0),(.int (k:Int),om)]) rfl e)) (qa5 _ (by unfold zwg;rw [ja1];omega))
 have e7:=zjq (n:=5) (en:=zxu) (fa:=zqa (bVar 3) aNil) (ρ:=R1) (q:=λ k=>.bl (nrB (zwg t k))) (as:=[(.int (b:Int),om)]) rfl (zwx (by omega) (by omega)) rfl e6 (by omega)
 rw [show ((b:Int) - 0).toNat=b by omega] at e7
 refine zxk rfl (ρ':=R1) ?_
 show Xf_is_pile R0=_
 unfold zkw
 refine (zqd s1).trans ((zqd s2).trans ((zwh t3).trans ?_))
 cases h1:t.all λ r=>rowB r b c with
 | false=>
  rw [h1] at t4
  exact zxz ((if_t t4).trans rfl)
 | true=>
  rw [h1] at t4
  refine (zwh t4).trans ?_
  cases h2:t.all nrB with
  | false=>
   have h2':t.all (λ r=>nrB r)=false:=h2
   rw [h2'] at t5
   exact zxz ((if_t t5).trans rfl)
  | true=>
   have h2':t.all (λ r=>nrB r)=true:=h2
   rw [h2'] at t5
   exact (zwh t5).trans (zxl (all_ok e7))
def cnt (xs:List Int) (k:Int):Int:=((xs.filter λ x=>decide (k < x)).length:Nat)
def zjy (t:List (List Int)) (k:Int):List Int:=t.map λ r=>cnt r k
def zxc (t:List (List Int)) (c:Nat):List (List Int):=(jc2 c).map λ (k:Nat)=>zjy t (k:Int)
theorem zhp (t:List (List Int)) (r:List Int):PV.lst ((t.map il)++[il r])=tb (t++[r]):=by
 unfold tb
 rw [je8]
 rfl
theorem zyg {a b c:Nat}{s:List (List Int)} (hs:Tab c a s) (ha:1<=a/\a<=100) (hb:1<=b/\b<=100) (hc:1<=c/\c<=100):f_are_stairs [bx a b c,tb s]=.ok (.bl (zkw c a b s),om,.non):=by
 let R1:Rho:=[some (bx a b c,0),some (tb s,0),some (.int a,om),some (.int b,om),some (.int c,om)]
 have hbx:boxB a b c=true:=by unfold boxB;rw [decide_eq_true (by omega),decide_eq_true (by omega),decide_eq_true (by omega)];rfl
 have s1:zzq (zqg f_must_be_box (zqa (bVar 0) (aNil))) [some (bx a b c,0),some (tb s,0),none,none,none]=.nx [some (bx a b c,0),some (tb s,0),none,none,none]:=zyu (zqh (xs:=[(bx a b c,0)]) rfl (zwr hbx))
 have s2:sUnp (asgT [2,3,4]) (bVar 0) [0] [some (bx a b c,0),some (tb s,0),none,none,none]=.nx R1:=by kernel_rfl
 refine zxk rfl (ρ':=R1) ?_
 exact (zqd s1).trans ((zqd s2).trans (zxl (zqh (xs:=[(bx c a b,om),(tb s,0)]) rfl (qck hs hc ha (by omega)))))
def zxj (s:List (List Int)) (a b:Nat):List (List Int):=(jc2 a).map λ i=>(jc2 b).map λ (j:Nat)=>cnt (zwg s i) (j:Int)
theorem zho {a b c:Nat}{s:List (List Int)} (hs:Tab c a s) (ha:1<=a/\a<=100) (hb:1<=b/\b<=100) (hc:1<=c/\c<=100) (h:zkw c a b s=true):f_pile_of_stairs [bx a b c,tb s]=.ok (tb (zxj s a b),om,.non):=by
 let R (p:PV) (s6 s7:QQ.Slot):Rho:=[some (bx a b c,0),some (tb s,0),some (.int a,om),some (.int b,om),some (.int c,om),some (p,om),s6,s7]
 have z:=sz
 have l1:=hs.1
 have hh:=zyg (b:=b) hs ha hb hc
 rw [h] at hh
 let R0:Rho:=[some (bx a b c,0),some (tb s,0),none,none,none,none,none,none]
 have t1:bT (bUn zqy (zqg f_are_stairs (zqa (bVar 0) (zqa (bVar 1) (aNil))))) R0=.ok (false,R0):=t_ok (zzb (zqh (xs:=[(bx a b c,0),(tb s,0)]) rfl hh))
 have s1:sIf (bT (bUn zqy (zqg f_are_stairs (zqa (bVar 0) (zqa (bVar 1) (aNil)))))) (sExc 3) sNil R0=.nx R0:=if_f t1
 have s2:sUnp (asgT [2,3,4]) (bVar 0) [0] R0=.nx [some (bx a b c,0),some (tb s,0),some (.int a,om),some (.int b,om),some (.int c,om),none,none,none]:=by kernel_rfl
 have s3:sSet false 5 (zqb zqj (aNil)) [] [some (bx a b c,0),some (tb s,0),some (.int a,om),some (.int b,om),some (.int c,om),none,none,none]=.nx (R (tb []) none none):=by kernel_rfl
 have cl:∀ i,(zwg s i).length=c:=λ i=>by unfold zwg;rw [ja1,l1]
 have e4:∀ (p:PV) (i:Nat) (s6:QQ.Slot),zwf zxu (zqa (bVar 3) (aNil)) 1 (asgN 8) zxt (zqg f_how_many_above (zqa (bVar 7) (zqa (bVar 8) (aNil)))) (R p s6 (some (il (zwg s i),om)))=.ok (il ((jc2 b).map λ (j:Nat)=>cnt (zwg s i) (j:Int)),om,R p s6 (some (il (zwg s i),om))):=λ p i s6=>by
  rw [zjq (n:=8) (en:=zxu) (fa:=zqa (bVar 3) aNil) (ρ:=R p s6 (some (il (zwg s i),om))) (q:=λ (j:Nat)=>.int (cnt (zwg s i) (j:Int))) (as:=[(.int (b:Int),om)]) rfl (zwx (by omega) (by omega)) rfl (λ k hk=>by
   rw [jh4]
   exact zqh (xs:=[(il (zwg s i),0),(.int (k:Int),om)]) rfl (qh6 _ _ (by rw [cl];omega))) (by omega),show ((b:Int) - 0).toNat=b by omega]
  unfold il
  rw [jd6]
  rfl
 obtain ⟨ρ',e6,s6,s7,rfl⟩:=zkg (i:=6) (body:=sSeq (sSet false 7 (zqg f_column_of (zqa (bVar 1) (zqa (bVar 6) (aNil)))) [1,6]) (sApp 5 (zwf zxu (zqa (bVar 3) (aNil)) 1 (asgN 8) zxt (zqg f_how_many_above (zqa (bVar 7) (zqa (bVar 8) (aNil))))) [7])) (en:=zxu) (fa:=zqa (bVar 2) (aNil)) (ρ:=R (tb []) none none) (ρ1:=R (tb []) none none) (as:=[(.int (a:Int),om)]) (lo:=0) (hi:=(a:Int))
  (λ k ρ=>∃ s6 s7,ρ=R (tb (zxj s k b)) s6 s7) rfl (zwx (by omega) (by omega)) ⟨none,none,rfl⟩ (by
   rintro j ρ hj ⟨s6,s7,rfl⟩
   have ec:=zgy s j (by omega) λ r hr=>by rw [hs.2 r hr];omega
   have u1:sSet false 7 (zqg f_column_of (zqa (bVar 1) (zqa (bVar 6) (aNil)))) [1,6] (R (tb (zxj s j b)) (some (.int (0 + (j:Int)),om)) s7)=.nx (R (tb (zxj s j b)) (some (.int (0 + (j:Int)),om)) (some (il (zwg s j),om))):=by
    rw [jh4]
    exact setF (zqh (xs:=[(tb s,0),(.int (j:Int),om)]) rfl ec) (show 7 < 8 by decide) rfl
   refine ⟨show 6 < 8 by decide,_,(zqd u1).trans (zyh (i:=5) (d0:=999) (d:=om) (xs:=(zxj s j b).map il) (xs0:=(zxj s j b).map il) rfl (e4 _ j _) rfl (by decide) (by unfold zxj;rw [ja1,ja1,je2];omega) rfl),some (.int (0 + (j:Int)),om),some (il (zwg s j),om),?_⟩
   show R (PV.lst ((zxj s j b).map il++[il ((jc2 b).map λ (i:Nat)=>cnt (zwg s j) (i:Int))])) _ _=_
   rw [zhp]
   have:zxj s j b++[(jc2 b).map λ (i:Nat)=>cnt (zwg s j) (i:Int)]=zxj s (j + 1) b:=by
    unfold zxj
    rw [jl0,je8]
    rfl
   rw [this])
 rw [show ((a:Int) - 0).toNat=a by omega] at e6
 refine zxk rfl (ρ':=R (tb (zxj s a b)) s6 s7) ?_
 exact (zqd s1).trans ((zqd s2).trans ((zqd s3).trans ((zqd e6).trans rfl)))
def okE:Nat->PV->Bool
 | 0,_=>false
 | n + 1,x=>match x with
  | .lst xs=>decide (xs.length<=1000) && xs.all (okE n)
  | .tup xs=>decide (xs.length<=1000) && xs.all (okE n)
  | .scr _=>false
  | .exn _=>false
  | .dct _=>false
  | .dko=>false
  | _=>true
theorem zzx {n:Nat}{xs:List PV} (h:okE (n + 1) (.lst xs)=true):xs.length<=1000/\∀ x∈xs,okE n x=true:=by
 unfold okE at h
 dsimp only at h
 rw [ja4,jb9] at h
 exact ⟨of_decide_eq_true h.1,h.2⟩
theorem zyo {n:Nat}{xs:List PV} (h:okE (n + 1) (.tup xs)=true):xs.length<=1000/\∀ x∈xs,okE n x=true:=by
 unfold okE at h
 dsimp only at h
 rw [ja4,jb9] at h
 exact ⟨of_decide_eq_true h.1,h.2⟩
theorem zbh {n:Nat}{xs:List PV} (hl:xs.length<=1000) (h:∀ x∈xs,okE n x=true):okE (n + 1) (.lst xs)=true:=by
 unfold okE
 dsimp only
 rw [ja4,jb9]
 exact ⟨decide_eq_true hl,h⟩
theorem zhz {n:Nat}{xs:List PV} (hl:xs.length<=1000) (h:∀ x∈xs,okE n x=true):okE (n + 1) (.tup xs)=true:=by
 unfold okE
 dsimp only
 rw [ja4,jb9]
 exact ⟨decide_eq_true hl,h⟩
theorem zzy {f:PV->PV->Bool}:∀ {xs:List PV},(∀ x∈xs,f x x=true)->zki f xs xs=true
 | [],_=>rfl
 | x::xs,h=>by
  unfold zki
  rw [h x ja5,zzy λ y hy=>h y (ja2 _ hy)]
  rfl
theorem zmo:∀ (n:Nat) (x:PV),okE n x=true->zjb n x x=true
 | 0,_,h=>by cases h
 | n + 1,x,h=>by
  cases x with
  | non=>rfl
  | bl b=>exact beq_self_eq_true b
  | int b=>exact beq_self_eq_true b
  | str b=>exact beq_self_eq_true b
  | emp=>rfl
  | dko=>cases h
  | lst xs=>exact zzy λ x hx=>zmo n x ((zzx h).2 x hx)
  | tup xs=>exact zzy λ x hx=>zmo n x ((zyo h).2 x hx)
  | scr _=>cases h
  | exn _=>cases h
  | dct _=>cases h
theorem zmy:∀ (n:Nat) (x:PV),okE n x=true->okE (n + 1) x=true
 | 0,_,h=>by cases h
 | n + 1,x,h=>by
  cases x with
  | lst xs=>exact zbh (zzx h).1 λ x hx=>zmy n x ((zzx h).2 x hx)
  | tup xs=>exact zhz (zyo h).1 λ x hx=>zmy n x ((zyo h).2 x hx)
  | scr _=>cases h
  | exn _=>cases h
  | dct _=>cases h
  | dko=>cases h
  | _=>rfl
theorem zpl {n m:Nat}{x:PV} (h:okE n x=true) (hl:n<=m):okE m x=true:=by
 induction hl with
 | refl=>exact h
 | step _ ih=>exact zmy _ _ ih
def qma:PV->Bool
 | .int _=>true
 | _=>false
theorem zfx {n:Nat} (x:PV) (h:okE n x=true):f_is_whole_number [x]=.ok (.bl (qma x),om,.non):=by
 cases n with
 | zero=>cases h
 | succ n=>
  cases x with
  | non=>kernel_rfl
  | bl b=>cases b <;> kernel_rfl
  | int i=>kernel_rfl
  | str s=>kernel_rfl
  | lst xs=>kernel_rfl
  | tup xs=>kernel_rfl
  | emp=>kernel_rfl
  | dko=>cases h
  | scr _=>cases h
  | exn _=>cases h
  | dct _=>cases h
def zmn:PV->Bool
 | .int i=>decide (1<=i)
 | _=>false
def boxV:PV->Bool
 | .tup xs=>decide (xs.length=3) && xs.all zmn
 | _=>false
theorem qgh {n:Nat}{y x:PV} (h:okE n x=true):(zxp (zqg f_is_whole_number (zqa (bVar 1) (aNil))) (bBin (zxq λ i j=>decide (j<=i)) (bVar 1) (bC (.int 1)))) ([some (y,dv y)]++[some (x,dv x)])=.ok (.bl (zmn x),om,[some (y,dv y)]++[some (x,dv x)]):=by
 have w:=zqh (F:=f_is_whole_number) (fa:=zqa (bVar 1) aNil) (ρ:=[some (y,dv y)]++[some (x,dv x)]) (xs:=[(x,dv x)]) rfl (zfx x h)
 cases n with
 | zero=>cases h
 | succ n=>
  cases x with
  | int i=>exact zzo (a:=true) w (λ _=>zkl (i:=i) (j:=1) rfl rfl) rfl
  | scr _=>cases h
  | exn _=>cases h
  | dct _=>cases h
  | _=>exact zzo (a:=false) (b:=false) w (λ e=>nomatch e) rfl
theorem zfp {n:Nat}{f elt:Fx}{ρ ρ1:Rho}{d:Nat}{g:PV->Bool} (xs:List PV) (hf:f ρ=.ok (.lst xs,d,ρ1)) (hn:ρ1.length=n) (he:∀ x∈xs,elt (ρ1++[some (x,dv x)])=.ok (.bl (g x),om,ρ1++[some (x,dv x)])) (hl:xs.length<=1000):zqb zyn (zqa (zqw f 1 (asgN n) zxt elt) aNil) ρ=.ok (.bl (xs.all g),om,ρ1):=by
 have z:=sz
 exact all_ok (zwj (enc:=λ x=>x) (q:=λ x=>.bl (g x)) xs (by rw [jq9];exact hf) hn he (by omega))
theorem qfh {n:Nat}{f elt:Fx}{ρ ρ1:Rho}{d:Nat}{g:PV->Bool} (xs:List PV) (hf:f ρ=.ok (.tup xs,d,ρ1)) (hn:ρ1.length=n) (he:∀ x∈xs,elt (ρ1++[some (x,dv x)])=.ok (.bl (g x),om,ρ1++[some (x,dv x)])) (hl:xs.length<=1000):zqb zyn (zqa (zqw f 1 (asgN n) zxt elt) aNil) ρ=.ok (.bl (xs.all g),om,ρ1):=by
 have z:=sz
 exact all_ok (qbs (enc:=λ x=>x) (q:=λ x=>.bl (g x)) xs (by rw [jq9];exact hf) hn he (by omega))
theorem qls {n:Nat}{y:PV} (h:okE n y=true):f_is_box [y]=.ok (.bl (boxV y),om,.non):=by
 have z:=sz
 refine zxk rfl (ρ':=[some (y,dv y)]) ?_
 show Xf_is_box [some (y,dv y)]=_
 cases n with
 | zero=>cases h
 | succ n=>
  cases y with
  | tup xs=>
   have t:bT (bOrV (bUn zqy (bUn (zqn "tuple") (bVar 0))) (bBin (opEq true) (zqb zqu (zqa (bVar 0) (aNil))) (bC (.int 3)))) [some (.tup xs,0)]=.ok (!decide (xs.length=3),[some (.tup xs,0)]):=by
    refine t_ok (d:=om) ((zko (a:=false) rfl (λ _=>zvf (i:=(xs.length:Int)) (j:=3) rfl rfl) rfl).trans ?_)
    rw [jj3,jj4]
    have e:decide ((xs.length:Int)=3)=decide (xs.length=3):=decide_eq_decide.mpr (by omega)
    rw [e]
   dsimp only [boxV]
   by_cases hc:xs.length=3
   ·rw [decide_eq_true hc] at t ⊢
    refine (zwh t).trans (zxl ?_)
    exact qfh (g:=zmn) xs (d:=0) rfl rfl (λ x hx=>qgh ((zyo h).2 x hx)) (zyo h).1
   ·rw [decide_eq_false hc] at t ⊢
    exact zxz ((if_t t).trans rfl)
  | scr _=>cases h
  | exn _=>cases h
  | dct _=>cases h
  | _=>exact zxz ((if_t (t_ok (d:=om) (zko (a:=true) (b:=false) rfl (λ e=>nomatch e) rfl))).trans rfl)
def elB (h:Int):PV->Bool
 | .int i=>decide (0<=i) && decide (i<=h)
 | _=>false
def rowV (c h:Int):PV->Bool
 | .lst xs=>decide ((xs.length:Int)=c) && xs.all (elB h)
 | _=>false
theorem qo4 {n:Nat}{y x:PV}{c h:Int} (hx:okE n x=true):(zxp (zqg f_is_whole_number (zqa (bVar 3) (aNil))) (zyf (λ i j=>decide (i<=j)) (λ i j=>decide (i<=j)) (bC (.int 0)) (bVar 3) (bVar 2))) ([some (y,dv y),some (.int c,om),some (.int h,om)]++[some (x,dv x)])=.ok (.bl (elB h x),om,[some (y,dv y),some (.int c,om),some (.int h,om)]++[some (x,dv x)]):=by
 have w:=zqh (F:=f_is_whole_number) (fa:=zqa (bVar 3) aNil) (ρ:=[some (y,dv y),some (.int c,om),some (.int h,om)]++[some (x,dv x)]) (xs:=[(x,dv x)]) rfl (zfx x hx)
 cases n with
 | zero=>cases hx
 | succ n=>
  cases x with
  | int i=>exact zzo (a:=true) w (λ _=>qby (i:=0) (j:=i) (k:=h) rfl rfl rfl) rfl
  | scr _=>cases hx
  | exn _=>cases hx
  | dct _=>cases hx
  | _=>exact zzo (a:=false) (b:=false) w (λ e=>nomatch e) rfl
theorem qkd {n:Nat}{y:PV}{c h:Int} (hy:okE n y=true):f_is_row_of_heights [y,.int c,.int h]=.ok (.bl (rowV c h y),om,.non):=by
 refine zxk rfl (ρ':=[some (y,dv y),some (.int c,om),some (.int h,om)]) ?_
 show Xf_is_row_of_heights [some (y,dv y),some (.int c,om),some (.int h,om)]=_
 cases n with
 | zero=>cases hy
 | succ n=>
  cases y with
  | lst xs=>
   have t:bT (bOrV (bUn zqy (bUn (zqn "list") (bVar 0))) (bBin (opEq true) (zqb zqu (zqa (bVar 0) (aNil))) (bVar 1))) [some (.lst xs,0),some (.int c,om),some (.int h,om)]=.ok (!decide ((xs.length:Int)=c),[some (.lst xs,0),some (.int c,om),some (.int h,om)]):=by
    refine t_ok (d:=om) ((zko (a:=false) rfl (λ _=>zvf (i:=(xs.length:Int)) (j:=c) rfl rfl) rfl).trans ?_)
    rw [jj3,jj4]
   dsimp only [rowV]
   by_cases hc:(xs.length:Int)=c
   ·rw [decide_eq_true hc] at t ⊢
    refine (zwh t).trans (zxl ?_)
    exact zfp (g:=elB h) xs (d:=0) rfl rfl (λ x hx=>qo4 ((zzx hy).2 x hx)) (zzx hy).1
   ·rw [decide_eq_false hc] at t ⊢
    exact zxz ((if_t t).trans rfl)
  | scr _=>cases hy
  | exn _=>cases hy
  | dct _=>cases hy
  | _=>exact zxz ((if_t (t_ok (d:=om) (zko (a:=true) (b:=false) rfl (λ e=>nomatch e) rfl))).trans rfl)
def preV (a b c:Int):PV->Bool
 | .lst xs=>decide ((xs.length:Int)=a) && xs.all (rowV b c)
 | _=>false
theorem qdt {n:Nat}{x:PV}{a b c:Int} (hb:boxB a b c=true) (hx:okE n x=true) (h:preV a b c x=false):f_is_pile [bx a b c,x]=.ok (.bl false,om,.non):=by
 let R:Rho:=[some (bx a b c,0),some (x,dv x),some (.int a,om),some (.int b,om),some (.int c,om)]
 refine zxk rfl (ρ':=R) ?_
 show Xf_is_pile [some (bx a b c,0),some (x,dv x),none,none,none]=_
 refine (zqd (zyu (zqh (xs:=[(bx a b c,0)]) rfl (zwr hb)))).trans ?_
 refine (zqd (ρ1:=R) rfl).trans ?_
 cases n with
 | zero=>cases hx
 | succ n=>
  cases x with
  | lst xs=>
   have t:bT (bOrV (bUn zqy (bUn (zqn "list") (bVar 1))) (bBin (opEq true) (zqb zqu (zqa (bVar 1) (aNil))) (bVar 2))) R=.ok (!decide ((xs.length:Int)=a),R):=by
    refine t_ok (d:=om) ((zko (a:=false) rfl (λ _=>zvf (i:=(xs.length:Int)) (j:=a) rfl rfl) rfl).trans ?_)
    rw [jj3,jj4]
   dsimp only [preV] at h
   by_cases hc:(xs.length:Int)=a
   ·rw [decide_eq_true hc] at t h
    refine (zwh t).trans ?_
    have e:=zfp (g:=rowV b c) (f:=bVar 1) (elt:=zqg f_is_row_of_heights (zqa (bVar 5) (zqa (bVar 3) (zqa (bVar 4) (aNil))))) (ρ:=R) xs (d:=0) rfl rfl (λ y hy=>zqh (xs:=[(y,dv y),(.int b,om),(.int c,om)]) rfl (qkd ((zzx hx).2 y hy))) (zzx hx).1
    rw [show xs.all (rowV b c)=false from h] at e
    exact zxz ((if_t (t_ok (zzb e))).trans rfl)
   ·rw [decide_eq_false hc] at t
    exact zxz ((if_t t).trans rfl)
  | scr _=>cases hx
  | exn _=>cases hx
  | dct _=>cases hx
  | _=>exact zxz ((if_t (t_ok (d:=om) (zko (a:=true) (b:=false) rfl (λ e=>nomatch e) rfl))).trans rfl)
def g (t:List (List Int)) (i j:Nat):Int:=(t.getD i []).getD j 0
structure Pile (a b:Nat) (c:Int) (t:List (List Int)):Prop where
 tab:Tab a b t
 lo:∀ i j,i < a->j < b->0<=g t i j
 hi:∀ i j,i < a->j < b->g t i j<=c
 dn:∀ i j,i + 1 < a->j < b->g t (i + 1) j<=g t i j
 rt:∀ i j,i < a->j + 1 < b->g t i (j + 1)<=g t i j
theorem zmp {t:List (List Int)}{i:Nat} (h:i < t.length):t.getD i []∈t:=by
 rw [ja0,ja3 h]
 exact jc3 h
theorem Tab.row {a b:Nat}{t:List (List Int)} (h:Tab a b t) {i:Nat} (hi:i < a):(t.getD i []).length=b:=h.2 _ (zmp (by rw [h.1];exact hi))
theorem getD_mem {xs:List Int}{i:Nat} (h:i < xs.length):xs.getD i 0∈xs:=by
 rw [ja0,ja3 h]
 exact jc3 h
theorem zfg {xs:List Int}{x:Int} (h:x∈xs):∃ i,i < xs.length/\xs.getD i 0=x:=by
 obtain ⟨i,hi,e⟩:=jf0 h
 exact ⟨i,hi,by rw [ja0,ja3 hi];exact e⟩
theorem zbl {t:List (List Int)}{r:List Int} (h:r∈t):∃ i,i < t.length/\t.getD i []=r:=by
 obtain ⟨i,hi,e⟩:=jf0 h
 exact ⟨i,hi,by rw [ja0,ja3 hi];exact e⟩
theorem qa8 {xs ys:List Int} (hl:xs.length=ys.length) (h:∀ i,i < xs.length->xs.getD i 0=ys.getD i 0):xs=ys:=by
 refine jp8 hl λ i h1 h2=>?_
 have:=h i h1
 rw [ja0,ja3 h1,ja0,ja3 h2] at this
 exact this
theorem qcw {a b:Nat}{t u:List (List Int)} (ht:Tab a b t) (hu:Tab a b u) (h:∀ i j,i < a->j < b->g t i j=g u i j):t=u:=by
 refine jp8 (by rw [ht.1,hu.1]) λ i h1 h2=>?_
 have hi:i < a:=by rw [<- ht.1];exact h1
 have e1:t.getD i []=t[i]:=by rw [ja0,ja3 h1];rfl
 have e2:u.getD i []=u[i]:=by rw [ja0,ja3 h2];rfl
 rw [<- e1,<- e2]
 refine qa8 (by rw [ht.row hi,hu.row hi]) λ j hj=>h i j hi (by rw [<- ht.row hi];exact hj)
theorem qaz {xs:List Int}{c h:Int}:rowB xs c h=true↔(xs.length:Int)=c/\∀ x∈xs,0<=x/\x<=h:=by
 unfold rowB
 rw [ja4,decide_eq_true_iff,jb9]
 constructor
 ·rintro ⟨h1,h2⟩
  refine ⟨h1,λ x hx=>?_⟩
  have:=h2 x hx
  rw [ja4,decide_eq_true_iff,decide_eq_true_iff] at this
  exact this
 ·rintro ⟨h1,h2⟩
  refine ⟨h1,λ x hx=>?_⟩
  rw [ja4,decide_eq_true_iff,decide_eq_true_iff]
  exact h2 x hx
theorem zfb {xs:List Int}:nrB xs=true↔∀ k,k + 1 < xs.length->xs.getD (k + 1) 0<=xs.getD k 0:=by
 unfold nrB
 rw [jb9]
 constructor
 ·intro h k hk
  exact of_decide_eq_true (h k (jd8.mpr (by omega)))
 ·intro h k hk
  have:=jd8.mp hk
  exact decide_eq_true (h k (by omega))
theorem zvw {t:List (List Int)}{i j:Nat} (h:i < t.length):(zwg t j).getD i 0=g t i j:=by
 unfold zwg g
 rw [ja0,jc4,ja3 h,ja0 (l:=t),ja3 h]
 rfl
theorem zbx {t:List (List Int)}{j:Nat}:(zwg t j).length=t.length:=by unfold zwg;rw [ja1]
theorem zkv {a b:Nat}{c:Int}{t:List (List Int)} (ht:Tab a b t):zkw a b c t=true↔Pile a b c t:=by
 unfold zkw
 rw [ja4,ja4,jb9,jb9,jb9]
 constructor
 ·rintro ⟨h1,h2,h3⟩
  have q:∀ i j,i < a->j < b->0<=g t i j/\g t i j<=c:=λ i j hi hj=>(qaz.mp (h1 _ (zmp (by rw [ht.1];exact hi)))).2 _ (getD_mem (by rw [ht.row hi];exact hj))
  refine ⟨ht,λ i j hi hj=>(q i j hi hj).1,λ i j hi hj=>(q i j hi hj).2,λ i j hi hj=>?_,λ i j hi hj=>?_⟩
  ·have:=zfb.mp (h3 j (jd8.mpr hj)) i (by rw [zbx,ht.1];exact hi)
   rw [zvw (by rw [ht.1];exact hi),zvw (by rw [ht.1];omega)] at this
   exact this
  ·exact zfb.mp (h2 _ (zmp (by rw [ht.1];exact hi))) j (by rw [ht.row hi];exact hj)
 ·intro p
  refine ⟨λ r hr=>qaz.mpr ⟨by rw [ht.2 r hr],λ x hx=>?_⟩,λ r hr=>zfb.mpr λ k hk=>?_,λ j hj=>zfb.mpr λ k hk=>?_⟩
  ·obtain ⟨i,hi,rfl⟩:=zbl hr
   obtain ⟨j,hj,rfl⟩:=zfg hx
   have hi':i < a:=by rw [<- ht.1];exact hi
   rw [ht.row hi'] at hj
   exact ⟨p.lo i j hi' hj,p.hi i j hi' hj⟩
  ·obtain ⟨i,hi,rfl⟩:=zbl hr
   have hi':i < a:=by rw [<- ht.1];exact hi
   rw [ht.row hi'] at hk
   exact p.rt i k hi' hk
  ·rw [zbx,ht.1] at hk
   rw [zvw (by rw [ht.1];exact hk),zvw (by rw [ht.1];omega)]
   exact p.dn k j hk (jd8.mp hj)
def mkT (a b:Nat) (f:Nat->Nat->Int):List (List Int):=(jc2 a).map λ i=>(jc2 b).map λ j=>f i j
theorem qaa {a b:Nat}{f:Nat->Nat->Int}:Tab a b (mkT a b f):=by
 refine ⟨by unfold mkT;rw [ja1,je2],λ r hr=>?_⟩
 obtain ⟨i,_,rfl⟩:=jd4.mp hr
 rw [ja1,je2]
theorem qed {b j:Nat}{f:Nat->Int} (hj:j < b):((jc2 b).map f).getD j 0=f j:=by
 rw [ja0,jc4,jl1 hj];rfl
theorem qec {a i:Nat}{f:Nat->List Int} (hi:i < a):((jc2 a).map f).getD i []=f i:=by
 rw [ja0,jc4,jl1 hi];rfl
theorem qk3 {a b i j:Nat}{f:Nat->Nat->Int} (hi:i < a) (hj:j < b):g (mkT a b f) i j=f i j:=by
 unfold g mkT
 rw [qec hi,qed hj]
theorem zzi {a b c:Nat}{t:List (List Int)} (ht:Tab a b t):Tab c a (zxc t c):=by
 refine ⟨by unfold zxc;rw [ja1,je2],λ r hr=>?_⟩
 obtain ⟨i,_,rfl⟩:=jd4.mp hr
 unfold zjy
 rw [ja1,ht.1]
theorem zxn {a b c k i:Nat}{t:List (List Int)} (ht:Tab a b t) (hk:k < c) (hi:i < a):g (zxc t c) k i=cnt (t.getD i []) k:=by
 unfold g zxc
 rw [qec hk]
 unfold zjy
 rw [ja0,jc4,ja3 (by rw [ht.1];exact hi),ja0,ja3 (by rw [ht.1];exact hi)]
 rfl
theorem zka {s:List (List Int)}{a b:Nat}:zxj s a b=mkT a b λ i j=>cnt (zwg s i) j:=rfl
theorem cnt_cons {x k:Int}{r:List Int}:cnt (x::r) k=cnt r k + if k < x then 1 else 0:=by
 unfold cnt
 by_cases h:k < x
 ·rw [jg0 (p:=λ x=>decide (k < x)) (decide_eq_true h),jb1,if_pos h];omega
 ·rw [je5 (p:=λ x=>decide (k < x)) (by rw [decide_eq_true_iff];exact h),if_neg h];omega
theorem qbu (r:List Int) (k:Int):0<=cnt r k:=by unfold cnt;omega
theorem qfk (r:List Int) (k:Int):cnt r k<=r.length:=by
 unfold cnt
 have:=List.length_filter_le (λ x=>decide (k < x)) r
 omega
def Nr (r:List Int):Prop:=∀ k,k + 1 < r.length->r.getD (k + 1) 0<=r.getD k 0
theorem Nr.tail {x:Int}{r:List Int} (h:Nr (x::r)):Nr r:=λ k hk=>h (k + 1) (by rw [jb1];omega)
theorem Nr.le {r:List Int} (h:Nr r):∀ {i j:Nat},i<=j->j < r.length->r.getD j 0<=r.getD i 0:=by
 intro i j hij hj
 induction j with
 | zero=>
  have:i=0:=by omega
  rw [this];exact jl9 _
 | succ j ih=>
  by_cases e:i=j + 1
  ·rw [e];exact jl9 _
  ·exact jr0 (h j hj) (ih (by omega) (by omega))
theorem qbt {k:Int}:∀ {r:List Int},(∀ x∈r,x<=k)->cnt r k=0
 | [],_=>rfl
 | x::r,h=>by
  rw [cnt_cons,if_neg (by have:=h x ja5;omega),qbt λ y hy=>h y (ja2 _ hy)];rfl
theorem qbv {k:Int}:∀ {r:List Int},Nr r->∀ {j:Nat},j < r.length->((j:Int) < cnt r k↔k < r.getD j 0)
 | [],_,j,h=>absurd h (by simp)
 | x::r,hn,j,hj=>by
  rw [cnt_cons]
  by_cases hx:k < x
  ·rw [if_pos hx]
   cases j with
   | zero=>
    have:=qbu r k
    constructor
    ·intro _;exact hx
    ·intro _;omega
   | succ j=>
    have:=qbv (k:=k) hn.tail (j:=j) (by rw [jb1] at hj;omega)
    show ((j + 1:Nat):Int) < _↔k < r.getD j 0
    rw [<- this];omega
  ·rw [if_neg hx,qbt]
   ·have:=hn.le (i:=0) (j:=j) (by omega) hj
    have e:(x::r).getD 0 0=x:=rfl
    rw [e] at this
    constructor <;> intro h <;> omega
   ·intro y hy
    obtain ⟨i,hi,rfl⟩:=zfg hy
    have:=hn.le (i:=0) (j:=i + 1) (by omega) (by rw [jb1];omega)
    have e:(x::r).getD 0 0=x:=rfl
    have e':(x::r).getD (i + 1) 0=r.getD i 0:=rfl
    rw [e,e'] at this
    omega
theorem cnt_snoc {x k:Int}:∀ {r:List Int},cnt (r++[x]) k=cnt r k + if k < x then 1 else 0
 | []=>by rw [jg1,cnt_cons]
 | y::r=>by rw [jm3,cnt_cons,cnt_cons,cnt_snoc];omega
theorem zby {f:Nat->Int}{j H:Int}:∀ {c:Nat},(∀ k,k < c->(j < f k↔(k:Int) < H))->0<=H->cnt ((jc2 c).map f) j=min (c:Int) H
 | 0,_,h0=>by show (0:Int)=_;omega
 | c + 1,h,h0=>by
  rw [jl0,je8,List.map_singleton,cnt_snoc,zby (λ k hk=>h k (by omega)) h0]
  have:=h c (by omega)
  by_cases e:(c:Int) < H
  ·rw [if_pos (this.mpr e)];omega
  ·rw [if_neg (λ z=>e (this.mp z))];omega
theorem Pile.nr {a b:Nat}{c:Int}{t:List (List Int)} (p:Pile a b c t) {i:Nat} (hi:i < a):Nr (t.getD i []):=λ k hk=>p.rt i k hi (by rw [p.tab.row hi] at hk;exact hk)
theorem zjk {a b c:Nat}{t:List (List Int)} (p:Pile a b c t) {i j k:Nat} (hi:i < a) (hj:j < b) (hk:k < c):(j:Int) < g (zxc t c) k i↔(k:Int) < g t i j:=by
 rw [zxn p.tab hk hi]
 exact qbv (p.nr hi) (by rw [p.tab.row hi];exact hj)
theorem zgz {a b c:Nat}{t:List (List Int)} (ht:Tab a b t) {i:Nat} (hi:i < a):zwg (zxc t c) i=(jc2 c).map λ (k:Nat)=>cnt (t.getD i []) (k:Int):=by
 refine qa8 (by rw [zbx,(zzi (c:=c) ht).1,ja1,je2]) λ k hk=>?_
 rw [zbx,(zzi (c:=c) ht).1] at hk
 rw [zvw (by rw [(zzi (c:=c) ht).1];exact hk),zxn ht hk hi,qed hk]
theorem zpe {a b c:Nat}{t:List (List Int)} (p:Pile a b c t) {i j:Nat} (hi:i < a) (hj:j < b):cnt (zwg (zxc t c) i) j=g t i j:=by
 rw [zgz p.tab hi,zby (H:=g t i j) (λ k hk=>qbv (p.nr hi) (by rw [p.tab.row hi];exact hj)) (p.lo i j hi hj)]
 have:=p.hi i j hi hj
 omega
theorem zjw {a b c:Nat}{t:List (List Int)} (p:Pile a b c t):Pile c a b (zxc t c):=by
 refine ⟨zzi p.tab,λ k i hk hi=>?_,λ k i hk hi=>?_,λ k i hk hi=>?_,λ k i hk hi=>?_⟩
 ·rw [zxn p.tab hk hi];exact qbu _ _
 ·rw [zxn p.tab hk hi]
  have:=qfk (t.getD i []) k
  rw [p.tab.row hi] at this
  exact this
 ·refine jr4.mp λ z=>?_
  have h0:0<=g (zxc t c) k i:=by rw [zxn p.tab (by omega) hi];exact qbu _ _
  have hb:g (zxc t c) (k + 1) i<=b:=by
   rw [zxn p.tab hk hi]
   have:=qfk (t.getD i []) ((k + 1:Nat):Int)
   rw [p.tab.row hi] at this
   exact this
  have h1:=(zjk p (j:=(g (zxc t c) k i).toNat) hi (by omega) hk).mp (by omega)
  have h2:=(zjk p (j:=(g (zxc t c) k i).toNat) (k:=k) hi (by omega) (by omega)).mpr (by omega)
  omega
 ·refine jr4.mp λ z=>?_
  have h0:0<=g (zxc t c) k i:=by rw [zxn p.tab (by omega) (by omega)];exact qbu _ _
  have hb:g (zxc t c) k (i + 1)<=b:=by
   rw [zxn p.tab hk hi]
   have:=qfk (t.getD (i + 1) []) k
   rw [p.tab.row hi] at this
   exact this
  have h1:=(zjk p (j:=(g (zxc t c) k i).toNat) (k:=k) hi (by omega) hk).mp (by omega)
  have h2:=(zjk p (j:=(g (zxc t c) k i).toNat) (k:=k) (i:=i) (by omega) (by omega) (by omega)).mpr (by have:=p.dn i (g (zxc t c) k i).toNat hi (by omega);omega)
  omega
def putT (t:List (List Int)) (i j:Nat):List (List Int):=t.set i ((t.getD i []).set j (g t i j + 1))
theorem zmi {α:Type}{f:PV->Option PyData}{e:α->PV}{q:α->PyData} (h:∀ x,f (e x)=some (q x)):∀ xs:List α,toDL f (xs.map e)=some (xs.map q)
 | []=>rfl
 | x::xs=>by rw [jd5,toDL,h,zmi h xs];rfl
theorem qcv (n:Nat) (xs:List Int):toD (n + 2) (il xs)=some (.list (xs.map .int)):=by
 show (toDL (toD (n + 1)) (xs.map PV.int)).map PyData.list=_
 rw [zmi (q:=PyData.int) (λ x=>rfl)];rfl
theorem qib (n:Nat) (t:List (List Int)):toD (n + 3) (tb t)=some (.list (t.map λ r=>.list (r.map .int))):=by
 show (toDL (toD (n + 2)) (t.map il)).map PyData.list=_
 rw [zmi (λ x=>qcv n x)];rfl
theorem zyt:∀ xs ys:List Int,PyData.eqvAll (xs.map .int) (ys.map .int)=decide (xs=ys)
 | [],[]=>rfl
 | [],y::ys=>rfl
 | x::xs,[]=>rfl
 | x::xs,y::ys=>by
  rw [jd5,jd5,PyData.eqvAll,zyt xs ys]
  show ((x == y) && _)=_
  by_cases h:x=y
  ·subst h
   by_cases h2:xs=ys
   ·subst h2;simp
   ·simp [h2]
  ·simp [h]
theorem zpu:∀ t u:List (List Int),PyData.eqvAll (t.map λ r=>.list (r.map .int)) (u.map λ r=>.list (r.map .int))=decide (t=u)
 | [],[]=>rfl
 | [],y::ys=>rfl
 | x::xs,[]=>rfl
 | x::xs,y::ys=>by
  rw [jd5,jd5,PyData.eqvAll,zpu xs ys,PyData.eqv,zyt]
  by_cases h:x=y
  ·subst h
   by_cases h2:xs=ys
   ·subst h2;simp
   ·simp [h2]
  ·simp [h]
theorem qqh {neg:Bool}{f h:Fx}{ρ ρ1 ρ2:Rho}{xs ys:List Int}{d e:Nat} (h1:f ρ=.ok (il xs,d,ρ1)) (h2:h ρ1=.ok (il ys,e,ρ2)):bBin (opEq neg) f h ρ=.ok (.bl (neg^^decide (xs=ys)),om,ρ2):=by
 refine zxf h1 h2 ?_
 unfold opEq
 rw [qcv 18,qcv 18]
 show some (PV.bl (neg^^PyData.eqv _ _),om)=_
 rw [PyData.eqv,zyt]
theorem qqg {neg:Bool}{f h:Fx}{ρ ρ1 ρ2:Rho}{t u:List (List Int)}{d e:Nat} (h1:f ρ=.ok (tb t,d,ρ1)) (h2:h ρ1=.ok (tb u,e,ρ2)):bBin (opEq neg) f h ρ=.ok (.bl (neg^^decide (t=u)),om,ρ2):=by
 refine zxf h1 h2 ?_
 unfold opEq
 rw [qib 17,qib 17]
 show some (PV.bl (neg^^PyData.eqv _ _),om)=_
 rw [PyData.eqv,zpu]
theorem qez {f h:Fx}{ρ ρ1 ρ2:Rho}{xs:List Int}{k x:Int}{d e:Nat} (h1:f ρ=.ok (.scr xs,d,ρ1)) (h2:h ρ1=.ok (.int k,e,ρ2)) (hx:atI xs k=some x):bBin zqe f h ρ=.ok (.int x,om,ρ2):=by
 refine zxf h1 h2 ?_
 show (atI xs k).map _=_
 rw [hx];rfl
theorem qak (ns:List Int) (k:Nat):b_cell_at [.scr ns,.int (k:Int)]=.ok (.int (ns.getD k 0),om,.non):=by
 let R:Rho:=[some (.scr ns,om),some (.int (k:Int),om)]
 have t1:bT (bBin (zxq λ i j=>decide (i < j)) (bVar 1) (zqb zqu (zqa (bVar 0) (aNil)))) R=.ok (decide ((k:Int) < (ns.length:Int)),R):=rfl
 refine zxk rfl (ρ':=R) ?_
 by_cases h:(k:Int) < (ns.length:Int)
 ·rw [decide_eq_true h] at t1
  exact zxz ((if_t t1).trans (zxl (qez (xs:=ns) (k:=(k:Int)) (d:=om) rfl rfl (atI_nat (by omega) (zwc (by omega))))))
 ·rw [decide_eq_false h] at t1
  refine (zwh t1).trans ((zxl (d:=om) rfl).trans ?_)
  rw [ja0,jf8 (by omega)]
  rfl
theorem qjv (c k:Int) (hk:0<=k/\k < 10000):∃ r,b_stir [.int c,.int k]=.ok (.int r,om,.non):=by
 have e1:=jg4 (((c % 2147483629 + 9973 * k + 5) * 48271)) (show (2147483647:Int)≠0 by decide)
 have e2:=jg8 (((c % 2147483629 + 9973 * k + 5) * 48271)) (show (0:Int) < 2147483647 by decide)
 exact ⟨_,zxk rfl ((zqd (setF (zzc (zbj (zwn (zwn (zzc (i:=c) rfl rfl (by decide)) (zbj (i:=9973) (j:=k) rfl rfl (.inl (by decide)))) (j:=5) rfl) (j:=48271) rfl (.inr (by decide))) (j:=2147483647) rfl (by decide)) (show 2 < 3 by decide) rfl)).trans ((zqd (setF (zzc (zbj rfl rfl (.inl (by omega))) (j:=2147483587) rfl (by decide)) (show 2 < 3 by decide) rfl)).trans (zxl (zpv (zzc (zbj (zwn rfl (zbj (i:=7919) (j:=k) rfl rfl (.inl (by decide)))) (j:=16807) rfl (.inr (by decide))) (j:=2147483563) rfl (by decide)) (j:=8) rfl (by decide) (by decide)))))⟩
theorem zyr (xs:List Int) (x:Int):PV.lst (xs.map PV.int++[.int x])=il (xs++[x]):=by unfold il;rw [je8];rfl
theorem zpm (c:Int) (m:Nat) (hm:m<=1000):∃ ns:List Int,ns.length=m/\b_numbers [.int c,.int (m:Int)]=.ok (il ns,om,.non):=by
 have z:=sz
 let R (xs:List Int) (v:Int) (s4 s5:QQ.Slot):Rho:=[some (.int c,om),some (.int (m:Int),om),some (il xs,om),some (.int v,om),s4,s5]
 have s1:sSet false 2 (zqb zqj (aNil)) [] [some (.int c,om),some (.int (m:Int),om),none,none,none,none]=.nx [some (.int c,om),some (.int (m:Int),om),some (il [],om),none,none,none]:=by kernel_rfl
 have s2:sSet false 3 (bVar 0) [0] [some (.int c,om),some (.int (m:Int),om),some (il [],om),none,none,none]=.nx (R [] c none none):=by kernel_rfl
 obtain ⟨ρ',e6,xs,v,s4,s5,rfl,hl⟩:=zkg (i:=4) (body:=(sSeq (sSet false 5 (zqg b_stir (zqa (bVar 0) (zqa (bVar 4) (aNil)))) [0,4])
 (sSeq (sIf (bT (bBin (zxq λ i j=>decide (j<=i)) (bVar 0) (bBin zjd (bC (.int 10)) (bC (.int 18))))) (sSet false 5 (bBin zxh (bVar 3) (bC (.int 720720))) [3]) sNil)
 (sSeq (sSet false 3 (bBin zwd (bVar 3) (bC (.int 720720))) [3])
 (sApp 2 (bVar 5) [5]))))) (en:=zxu) (fa:=zqa (bVar 1) (aNil)) (ρ:=R [] c none none) (ρ1:=R [] c none none) (as:=[(.int (m:Int),om)]) (lo:=0) (hi:=(m:Int))
  (λ k ρ=>∃ xs v s4 s5,ρ=R xs v s4 s5/\xs.length=k) rfl (zwx (by omega) (by omega)) ⟨[],c,none,none,rfl,rfl⟩ (by
   rintro j ρ hj ⟨xs,v,s4,s5,rfl,hl⟩
   obtain ⟨r,er⟩:=qjv c (0 + (j:Int)) (by omega)
   have u1:sSet false 5 (zqg b_stir (zqa (bVar 0) (zqa (bVar 4) (aNil)))) [0,4] (R xs v (some (.int (0 + (j:Int)),om)) s5)=.nx (R xs v (some (.int (0 + (j:Int)),om)) (some (.int r,om))):=setF (zqh (xs:=[(.int c,om),(.int (0 + (j:Int)),om)]) rfl er) (show 5 < 6 by decide) rfl
   have u2:∃ r',sIf (bT (bBin (zxq λ i j=>decide (j<=i)) (bVar 0) (bBin zjd (bC (.int 10)) (bC (.int 18))))) (sSet false 5 (bBin zxh (bVar 3) (bC (.int 720720))) [3]) sNil (R xs v (some (.int (0 + (j:Int)),om)) (some (.int r,om)))=.nx (R xs v (some (.int (0 + (j:Int)),om)) (some (.int r',om))):=by
    have tt:bT (bBin (zxq λ i j=>decide (j<=i)) (bVar 0) (bBin zjd (bC (.int 10)) (bC (.int 18)))) (R xs v (some (.int (0 + (j:Int)),om)) (some (.int r,om)))=.ok (decide ((10:Int) ^ 18<=c),R xs v (some (.int (0 + (j:Int)),om)) (some (.int r,om))):=by kernel_rfl
    cases hd:decide ((10:Int) ^ 18<=c) with
    | true=>rw [hd] at tt;exact ⟨v % 720720,(if_t tt).trans (setF (zzc rfl rfl (by decide)) (show 5 < 6 by decide) rfl)⟩
    | false=>rw [hd] at tt;exact ⟨r,(if_f tt).trans rfl⟩
   obtain ⟨r',u2⟩:=u2
   have u3:sSet false 3 (bBin zwd (bVar 3) (bC (.int 720720))) [3] (R xs v (some (.int (0 + (j:Int)),om)) (some (.int r',om)))=.nx (R xs (v / 720720) (some (.int (0 + (j:Int)),om)) (some (.int r',om))):=setF (zpv (i:=v) rfl rfl (by decide) (by decide)) (show 3 < 6 by decide) rfl
   refine ⟨show 4 < 6 by decide,_,(zqd u1).trans ((zqd u2).trans ((zqd u3).trans (zyh (i:=2) (d0:=999) (d:=om) (y:=.int r') (e:=om) (xs:=xs.map PV.int) (xs0:=xs.map PV.int) rfl rfl rfl (by decide) (by rw [ja1];omega) rfl))),xs++[r'],v / 720720,some (.int (0 + (j:Int)),om),some (.int r',om),?_,by rw [jb4,hl];rfl⟩
   rw [zyr]
   rfl)
 rw [show ((m:Int) - 0).toNat=m by omega] at hl
 exact ⟨xs,hl,zxk rfl ((zqd s1).trans ((zqd s2).trans ((zqd e6).trans rfl)))⟩
theorem qpb (c:Int) {most great:Int}{m:Nat} (h1:1<=most/\most<=m) (h2:1<=great/\great<=m):∃ x y z:Nat,(1<=x/\x<=m)/\(1<=y/\y<=m)/\(1<=z/\z<=m)/\b_box [.int c,.int most,.int great]=.ok (bx x y z,om,.non):=by
 obtain ⟨ns,hl,en⟩:=zpm c 4 (by omega)
 let R (v:Int):Rho:=[some (.int c,om),some (.int v,om),some (.int great,om),some (il ns,om)]
 have s1:sSet false 3 (zqg b_numbers (zqa (bVar 0) (zqa (bC (.int 4)) (aNil)))) [0] [some (.int c,om),some (.int most,om),some (.int great,om),none]=.nx (R most):=setF (zqh (xs:=[(.int c,om),(.int 4,om)]) rfl en) (show 3 < 4 by decide) rfl
 have s2:∃ v:Int,(1<=v/\v<=m)/\sIf (bT (bBin (opEq false) (bBin zxh (bBin zqe (bVar 3) (bC (.int 3))) (bC (.int 8))) (bC (.int 3)))) (sSet false 1 (bVar 2) [2]) sNil (R most)=.nx (R v):=by
  have tt:bT (bBin (opEq false) (bBin zxh (bBin zqe (bVar 3) (bC (.int 3))) (bC (.int 8))) (bC (.int 3))) (R most)=.ok (false^^decide (ns.getD 3 0 % 8=3),R most):=t_ok (zvf (zzc (zvr (xs:=ns) (k:=3) (d:=0) rfl rfl (atI_nat (by decide) (zwc (by rw [hl];decide)))) rfl (by decide)) rfl)
  rw [jn8] at tt
  cases hd:decide (ns.getD 3 0 % 8=3) with
  | true=>rw [hd] at tt;exact ⟨great,h2,(if_t tt).trans (by kernel_rfl)⟩
  | false=>rw [hd] at tt;exact ⟨most,h1,(if_f tt).trans rfl⟩
 obtain ⟨v,hv,s2⟩:=s2
 have q:∀ k:Nat,k < 4->∃ x:Nat,(1<=x/\x<=m)/\(bBin zqf (bC (.int 1)) (bBin zxh (bBin zqe (bVar 3) (bC (.int (k:Int)))) (bVar 1))) (R v)=.ok (.int (x:Int),om,R v):=λ k hk=>by
  have e1:=jg4 (ns.getD k 0) (show v≠0 by omega)
  have e2:=jg8 (ns.getD k 0) (show 0 < v by omega)
  refine ⟨(1 + ns.getD k 0 % v).toNat,⟨by omega,by omega⟩,?_⟩
  rw [show (((1 + ns.getD k 0 % v).toNat:Nat):Int)=1 + ns.getD k 0 % v by omega]
  exact zwn rfl (zzc (zvr (xs:=ns) (k:=(k:Int)) (d:=0) rfl rfl (atI_nat (by omega) (zwc (by omega)))) rfl (by omega))
 obtain ⟨x,hx,ex⟩:=q 0 (by decide)
 obtain ⟨y,hy,ey⟩:=q 1 (by decide)
 obtain ⟨z,hz,ez⟩:=q 2 (by decide)
 refine ⟨x,y,z,hx,hy,hz,zxk rfl (ρ':=R v) ?_⟩
 exact (zqd s1).trans ((zqd s2).trans (zxl (zxd (zqm ex (zqm ey (zxb ez))) (by kernel_rfl))))
theorem qfd (xs:List PV):cutP xs (some (-1)) none=xs.drop (xs.length - 1):=by
 unfold cutP
 have e:HT.sIx xs.length 0 (some (-1))=xs.length - 1:=by
  show (if (-1:Int) < 0 then (-1 + (xs.length:Int)).toNat else min (-1:Int).toNat xs.length)=_
  rw [if_pos (by decide)];omega
 rw [e,HT.sIx_none]
 exact jg6 (by rw [jd2];exact jb3 _)
theorem atI_last {α:Type}{xs:List α}{x:α} (h:xs[xs.length - 1]?=some x):atI xs (-1)=some x:=by
 have hl:=(ja8.mp h).1
 unfold atI ixN
 rw [if_neg (by decide),if_pos (by omega),show (-1 + (xs.length:Int)).toNat=xs.length - 1 by omega]
 exact h
theorem qdf {f:Fx}{ρ ρ1:Rho}{xs:List PV}{d:Nat} (h:f ρ=.ok (.lst xs,d,ρ1)):bSl f (some (bUn zwi (bC (.int 1)))) none ρ=.ok (.lst (xs.drop (xs.length - 1)),d1 (xs.drop (xs.length - 1)),ρ1):=by
 unfold bSl
 rw [h]
 show Rz.ok (PV.lst (cutP xs (some (-1)) none),d1 (cutP xs (some (-1)) none),ρ1)=_
 rw [qfd]
theorem zvq {f h:Fx}{ρ ρ1 ρ2:Rho}{xs ys:List PV}{d e:Nat} (h1:f ρ=.ok (.lst xs,d,ρ1)) (h2:h ρ1=.ok (.lst ys,e,ρ2)) (hl:xs.length + ys.length<=sizeLine):bBin zqf f h ρ=.ok (.lst (xs++ys),d1 (xs++ys),ρ2):=by
 refine zxf h1 h2 ?_
 show (if _ then _ else _)=_
 rw [if_pos hl]
theorem zpr:∀ xs:List Int,zkk (xs.map PV.int)=some xs
 | []=>rfl
 | x::xs=>by rw [jd5,zkk,zpr xs];rfl
theorem qom {fa:Fa}{ρ ρ1:Rho}{x:Int}{xs:List Int}{d:Nat} (h:fa ρ=.ok ([(il (x::xs),d)],ρ1)):zqb zkz fa ρ=.ok (.int (minI x xs),om,ρ1):=by
 refine zxd h ?_
 show (match zkk ((x::xs).map PV.int) with | some (n::r)=>some (PV.int (minI n r),om) | _=>none)=_
 rw [zpr]
def upH (c:Int) (t:List (List Int)) (j:Nat):Int:=if t.length=0 then c else g t (t.length - 1) j
def topH (c:Int) (t:List (List Int)) (r:List Int) (j:Nat):Int:=if r.length=0 then upH c t j else min (upH c t j) (r.getD (r.length - 1) 0)
theorem qgg {t:List (List Int)}{r:List Int}{i:Nat}:(t++[r]).getD i []=if i < t.length then t.getD i [] else if i=t.length then r else []:=by
 by_cases h:i < t.length
 ·rw [if_pos h,ja0,jc0 h,ja0]
 ·rw [if_neg h]
  by_cases h2:i=t.length
  ·rw [if_pos h2,h2,ja0,jl2];rfl
  ·rw [if_neg h2,ja0,jf8 (by rw [jb4,jd7];omega)];rfl
theorem zjl {r:List Int}{x:Int}{i:Nat}:(r++[x]).getD i 0=if i < r.length then r.getD i 0 else if i=r.length then x else 0:=by
 by_cases h:i < r.length
 ·rw [if_pos h,ja0,jc0 h,ja0]
 ·rw [if_neg h]
  by_cases h2:i=r.length
  ·rw [if_pos h2,h2,ja0,jl2];rfl
  ·rw [if_neg h2,ja0,jf8 (by rw [jb4,jd7];omega)];rfl
theorem Pile.snoc {k b:Nat}{c:Int}{t:List (List Int)}{r:List Int} (p:Pile k b c t) (hr:r.length=b) (h:∀ y,y < b->0<=r.getD y 0/\r.getD y 0<=upH c t y) (hn:Nr r):Pile (k + 1) b c (t++[r]):=by
 have l:=p.tab.1
 have e:∀ i j,g (t++[r]) i j=if i < k then g t i j else if i=k then r.getD j 0 else 0:=λ i j=>by
  unfold g
  rw [qgg,l]
  split
  ·rfl
  ·split <;> rfl
 have u:∀ y,y < b->upH c t y<=c:=λ y hy=>by
  unfold upH
  split
  ·exact jl9 _
  ·exact p.hi _ _ (by omega) hy
 refine ⟨⟨by rw [jb4,l];rfl,λ x hx=>?_⟩,λ i j hi hj=>?_,λ i j hi hj=>?_,λ i j hi hj=>?_,λ i j hi hj=>?_⟩
 ·rcases jc1.mp hx with z | z
  ·exact p.tab.2 x z
  ·rw [jb8.mp z,hr]
 ·rw [e]
  by_cases z:i < k
  ·rw [if_pos z];exact p.lo i j z hj
  ·rw [if_neg z,if_pos (by omega)];exact (h j hj).1
 ·rw [e]
  by_cases z:i < k
  ·rw [if_pos z];exact p.hi i j z hj
  ·rw [if_neg z,if_pos (by omega)];exact jr0 (h j hj).2 (u j hj)
 ·rw [e,e]
  by_cases z:i + 1 < k
  ·rw [if_pos z,if_pos (by omega)];exact p.dn i j z hj
  ·rw [if_neg z,if_pos (by omega),if_pos (by omega)]
   have:=(h j hj).2
   unfold upH at this
   rw [if_neg (by omega),l,show k - 1=i by omega] at this
   exact this
 ·rw [e,e]
  by_cases z:i < k
  ·rw [if_pos z,if_pos z];exact p.rt i j z hj
  ·rw [if_neg z,if_neg z,if_pos (by omega),if_pos (by omega)];exact hn j (by rw [hr];exact hj)
theorem qkl {a b c:Nat} (ns:List Int) (st:Nat) (cell:Int) (hst:st<=1000) (ha:1<=a/\a<=30) (hb:1<=b/\b<=30) (hc:1<=c/\c<=1000) (hns:ns.length<=1000):∃ t d,Pile a b c t/\d≠0/\b_pile [bx a b c,.scr ns,.int (st:Int),.int cell]=.ok (tb t,d,.non):=by
 have z:=sz
 have hab:a * b<=900:=jc6 (Nat.mul_le_mul ha.2 hb.2) (by decide)
 obtain ⟨nm,hl,en⟩:=zpm cell (a * b) (by omega)
 let R (t:List (List Int)) (d5:Nat) (s6 s7 s8 s9 s10:QQ.Slot):Rho:=[some (bx a b c,0),some (.scr ns,om),some (.int (st:Int),om),some (.int cell,om),some (il nm,om),some (tb t,d5),s6,s7,s8,s9,s10]
 let R0:Rho:=[some (bx a b c,0),some (.scr ns,om),some (.int (st:Int),om),some (.int cell,om),none,none,none,none,none,none,none]
 have s1:sSet false 4 (zqg b_numbers (zqa (bVar 3) (zqa (bBin zxx (bBin zqe (bVar 0) (bC (.int 0))) (bBin zqe (bVar 0) (bC (.int 1)))) (aNil)))) [3,0,0] R0=.nx [some (bx a b c,0),some (.scr ns,om),some (.int (st:Int),om),some (.int cell,om),some (il nm,om),none,none,none,none,none,none]:=by
  refine setF (x:=il nm) (d:=om) (ρ1:=R0) (zqh (z:=.non) (zqm (x:=.int cell) (d:=om) rfl (zxb (zbj (i:=(a:Int)) (j:=(b:Int)) rfl rfl (.inl (by omega))))) ?_) (show 4 < 11 by decide) rfl
  show b_numbers [.int cell,.int ((a:Int) * (b:Int))]=_
  rw [show (a:Int) * (b:Int)=((a * b:Nat):Int) by rw [jn1]]
  exact en
 have s2:sSet false 5 (zqb zqj (aNil)) [] [some (bx a b c,0),some (.scr ns,om),some (.int (st:Int),om),some (.int cell,om),some (il nm,om),none,none,none,none,none,none]=.nx (R [] om none none none none none):=by kernel_rfl
 have step:∀ (t:List (List Int)) (d5 k j:Nat) (r:List Int) (s9 s10:QQ.Slot),k < a->j < b->Pile k b c t->r.length=j->(∀ y,y < j->0<=r.getD y 0)->(∀ y,y < j->r.getD y 0<=upH c t y)->∃ h s9' s10',(0<=h/\h<=topH c t r j)/\(sSeq (sSet false 9 (bBin zqe (bVar 4) (bBin zqf (bBin zxx (bVar 6) (bBin zqe (bVar 0) (bC (.int 1)))) (bVar 8))) [4,6,0,8])
 (sSeq (sIf (bT (bBin (zxq λ i j=>decide (i < j)) (bBin zqf (bBin zqf (bVar 2) (bBin zxx (bVar 6) (bBin zqe (bVar 0) (bC (.int 1))))) (bVar 8)) (zqb zqu (zqa (bVar 1) (aNil))))) (sSet false 9 (bBin zqe (bVar 1) (bBin zqf (bBin zqf (bVar 2) (bBin zxx (bVar 6) (bBin zqe (bVar 0) (bC (.int 1))))) (bVar 8))) [1,2,6,0,8]) sNil)
 (sSeq (sSet false 10 (bBin zqe (bBin zqf (zqb zqj (zqa (bBin zqe (bVar 0) (bC (.int 2))) (aNil))) (zqw (bSl (bVar 5) (some (bUn zwi (bC (.int 1)))) none) 1 (asgN 11) zxt (bBin zqe (bBin zqe (bVar 5) (bUn zwi (bC (.int 1)))) (bVar 8)))) (bUn zwi (bC (.int 1)))) [0,5,5,8])
 (sSeq (sSet false 10 (zqb zkz (zqa (bBin zqf (zqb zqj (zqa (bVar 10) (aNil))) (bSl (bVar 7) (some (bUn zwi (bC (.int 1)))) none)) (aNil))) [10,7])
 (sApp 7 (bBin zzz (bVar 10) (bBin zqe (zqb zqj (zqa (bC (.int 0)) (zqa (bC (.int 0)) (zqa (zqb zkz (zqa (bC (.int 1)) (zqa (bVar 10) (aNil)))) (zqa (bBin zxh (bBin zwd (bVar 9) (bC (.int 4))) (bBin zqf (bVar 10) (bC (.int 1)))) (aNil)))))) (bBin zxh (bVar 9) (bC (.int 4))))) [10,10,9,10,9]))))) (R t d5 (some (.int (k:Int),om)) (some (il r,om)) (some (.int (j:Int),om)) s9 s10)=.nx (R t d5 (some (.int (k:Int),om)) (some (il (r++[h]),om)) (some (.int (j:Int),om)) s9' s10'):=by
  intro t d5 k j r s9 s10 hk hj p hr hr0 hr1
  let Q (s9 s10:QQ.Slot):Rho:=R t d5 (some (.int (k:Int),om)) (some (il r,om)) (some (.int (j:Int),om)) s9 s10
  have hkb:k * b + j < a * b:=by
   have:(k + 1) * b<=a * b:=jk4 b hk
   rw [jp0] at this
   omega
  have ekb:(k:Int) * (b:Int)=((k * b:Nat):Int):=by rw [jn1]
  have m1:∀ s9 s10,bBin zxx (bVar 6) (bBin zqe (bVar 0) (bC (.int 1))) (Q s9 s10)=.ok (.int ((k * b:Nat):Int),om,Q s9 s10):=λ s9 s10=>by
   rw [<- ekb]
   exact zbj (i:=(k:Int)) (j:=(b:Int)) rfl rfl (.inl (by omega))
  have v1:sSet false 9 (bBin zqe (bVar 4) (bBin zqf (bBin zxx (bVar 6) (bBin zqe (bVar 0) (bC (.int 1)))) (bVar 8))) [4,6,0,8] (Q s9 s10)=.nx (Q (some (.int (nm.getD (k * b + j) 0),om)) s10):=
   setF (zvr (xs:=nm) (d:=0) rfl (zwn (m1 s9 s10) (j:=(j:Int)) rfl) (atI_nat (by omega) (by rw [show (((k * b:Nat):Int) + (j:Int)).toNat=k * b + j by omega];exact zwc (by omega)))) (show 9 < 11 by decide) rfl
  have v2:∃ n,sIf (bT (bBin (zxq λ i j=>decide (i < j)) (bBin zqf (bBin zqf (bVar 2) (bBin zxx (bVar 6) (bBin zqe (bVar 0) (bC (.int 1))))) (bVar 8)) (zqb zqu (zqa (bVar 1) (aNil))))) (sSet false 9 (bBin zqe (bVar 1) (bBin zqf (bBin zqf (bVar 2) (bBin zxx (bVar 6) (bBin zqe (bVar 0) (bC (.int 1))))) (bVar 8))) [1,2,6,0,8]) sNil (Q (some (.int (nm.getD (k * b + j) 0),om)) s10)=.nx (Q (some (.int n,om)) s10):=by
   have q:=λ s9 s10=>zwn (ρ:=Q s9 s10) (zwn (ρ:=Q s9 s10) (f:=bVar 2) (i:=(st:Int)) (d:=om) rfl (m1 s9 s10)) (g:=bVar 8) (j:=(j:Int)) (e:=om) rfl
   have tt:=t_ok (zkl (p:=λ i j=>decide (i < j)) (q (some (.int (nm.getD (k * b + j) 0),om)) s10) (g:=zqb zqu (zqa (bVar 1) (aNil))) (j:=(ns.length:Int)) (e:=om) rfl)
   by_cases hd:((st:Int) + ((k * b:Nat):Int) + (j:Int)) < (ns.length:Int)
   ·rw [decide_eq_true hd] at tt
    refine ⟨ns.getD (st + k * b + j) 0,(if_t tt).trans (setF (qez (xs:=ns) (d:=om) rfl (q _ _) (atI_nat (by omega) ?_)) (show 9 < 11 by decide) rfl)⟩
    rw [show ((st:Int) + ((k * b:Nat):Int) + (j:Int)).toNat=st + k * b + j by omega]
    exact zwc (by omega)
   ·rw [decide_eq_false hd] at tt
    exact ⟨_,(if_f tt).trans rfl⟩
  obtain ⟨n,v2⟩:=v2
  have l:=p.tab.1
  have v3:sSet false 10 (bBin zqe (bBin zqf (zqb zqj (zqa (bBin zqe (bVar 0) (bC (.int 2))) (aNil))) (zqw (bSl (bVar 5) (some (bUn zwi (bC (.int 1)))) none) 1 (asgN 11) zxt (bBin zqe (bBin zqe (bVar 5) (bUn zwi (bC (.int 1)))) (bVar 8)))) (bUn zwi (bC (.int 1)))) [0,5,5,8] (Q (some (.int n,om)) s10)=.nx (Q (some (.int n,om)) (some (.int (upH c t j),om))):=by
   have f1:bSl (bVar 5) (some (bUn zwi (bC (.int 1)))) none (Q (some (.int n,om)) s10)=.ok (.lst ((t.drop (t.length - 1)).map il),d1 ((t.map il).drop ((t.map il).length - 1)),Q (some (.int n,om)) s10):=by
    rw [qdf (xs:=t.map il) (d:=0) (ρ1:=Q (some (.int n,om)) s10) rfl,ja1,jo5]
   have f2:=zwj (n:=11) (elt:=bBin zqe (bBin zqe (bVar 5) (bUn zwi (bC (.int 1)))) (bVar 8)) (enc:=il) (q:=λ _=>.int (g t (t.length - 1) j)) (t.drop (t.length - 1)) f1 rfl (λ x hx=>by
    have ht:0 < t.length:=by
     have:=List.length_pos_of_mem hx
     rw [jd2] at this
     omega
    exact zvr (xs:=t.getD (t.length - 1) []) (k:=(j:Int)) (qix (t:=t) (k:=-1) (d:=0) rfl rfl (atI_last (zbq (by omega)))) rfl (atI_nat (by omega) (zwc (by rw [p.tab.row (by omega)];omega)))) (by rw [jd2];omega)
   have f3:zqb zqj (zqa (bBin zqe (bVar 0) (bC (.int 2))) (aNil)) (Q (some (.int n,om)) s10)=.ok (.lst [.int (c:Int)],om,Q (some (.int n,om)) s10):=by kernel_rfl
   have f4:=zvq f3 f2 (by rw [ja1,jd2,jd7];omega)
   have f5:PV.lst ([.int (c:Int)]++(t.drop (t.length - 1)).map λ _=>.int (g t (t.length - 1) j))=il ((c:Int)::(t.drop (t.length - 1)).map λ _=>g t (t.length - 1) j):=by
    unfold il
    rw [jd5,jd6]
    rfl
   rw [f5] at f4
   refine setF (zvr f4 (k:=-1) rfl (atI_last ?_)) (show 10 < 11 by decide) rfl
   unfold upH
   by_cases e:t.length=0
   ·rw [if_pos e,jj5.mp e];rfl
   ·rw [if_neg e]
    have:(t.drop (t.length - 1)).map (λ _=>g t (t.length - 1) j)=[g t (t.length - 1) j]:=by
     have hl1:(t.drop (t.length - 1)).length=1:=by rw [jd2];omega
     obtain ⟨x,hx⟩:=jm6.mp hl1
     rw [hx];rfl
    rw [this];rfl
  have v4:sSet false 10 (zqb zkz (zqa (bBin zqf (zqb zqj (zqa (bVar 10) (aNil))) (bSl (bVar 7) (some (bUn zwi (bC (.int 1)))) none)) (aNil))) [10,7] (Q (some (.int n,om)) (some (.int (upH c t j),om)))=.nx (Q (some (.int n,om)) (some (.int (topH c t r j),om))):=by
   have f1:=qdf (f:=bVar 7) (xs:=r.map PV.int) (d:=0) (ρ:=Q (some (.int n,om)) (some (.int (upH c t j),om))) (ρ1:=Q (some (.int n,om)) (some (.int (upH c t j),om))) rfl
   rw [ja1,<- jo5] at f1
   have f4:=zvq (f:=zqb zqj (zqa (bVar 10) (aNil))) (ρ:=Q (some (.int n,om)) (some (.int (upH c t j),om))) (xs:=[.int (upH c t j)]) (d:=om) (by kernel_rfl) f1 (by rw [ja1,jd2,jd7];omega)
   have:minI (upH c t j) (r.drop (r.length - 1))=topH c t r j:=by
    unfold topH
    by_cases e:r.length=0
    ·rw [if_pos e,jj5.mp e];rfl
    ·rw [if_neg e]
     have:r.drop (r.length - 1)=[r.getD (r.length - 1) 0]:=by
      rw [jg9 (show r.length - 1 < r.length by omega),ja0,ja3 (show r.length - 1 < r.length by omega),jj7 (by omega)]
      rfl
     rw [this]
     show (if r.getD (r.length - 1) 0 < upH c t j then r.getD (r.length - 1) 0 else upH c t j)=_
     split <;> omega
   rw [<- this]
   exact setF (qom (x:=upH c t j) (xs:=r.drop (r.length - 1)) (zxb f4)) (show 10 < 11 by decide) rfl
  have u0:0<=upH c t j:=by
   unfold upH
   split
   ·omega
   ·exact p.lo _ _ (by omega) hj
  have t0:0<=topH c t r j:=by
   unfold topH
   split
   ·exact u0
   ·have:=hr0 (r.length - 1) (by omega)
    omega
  have q0:=jg4 n (show (4:Int)≠0 by decide)
  have q1:=jg8 n (show (0:Int) < 4 by decide)
  have w0:=jg4 (n / 4) (show topH c t r j + 1≠0 by omega)
  have w1:=jg8 (n / 4) (show 0 < topH c t r j + 1 by omega)
  let ch:List Int:=[0,0,if topH c t r j < 1 then topH c t r j else 1,n / 4 % (topH c t r j + 1)]
  have hch:∀ x∈ch,0<=x/\x<=topH c t r j:=by
   intro x hx
   rcases jb0.mp hx with e | hx
   ·rw [e];omega
   rcases jb0.mp hx with e | hx
   ·rw [e];omega
   rcases jb0.mp hx with e | hx
   ·rw [e];split <;> omega
   rcases jb0.mp hx with e | hx
   ·rw [e];omega
   ·cases hx
  have hx:=hch _ (getD_mem (xs:=ch) (i:=(n % 4).toNat) (by show (n % 4).toNat < 4;omega))
  have f5:zqb zqj (zqa (bC (.int 0)) (zqa (bC (.int 0)) (zqa (zqb zkz (zqa (bC (.int 1)) (zqa (bVar 10) (aNil)))) (zqa (bBin zxh (bBin zwd (bVar 9) (bC (.int 4))) (bBin zqf (bVar 10) (bC (.int 1)))) (aNil))))) (Q (some (.int n,om)) (some (.int (topH c t r j),om)))=.ok (il ch,om,Q (some (.int n,om)) (some (.int (topH c t r j),om))):=
   zxd (zqm (x:=.int 0) (d:=om) rfl (zqm (x:=.int 0) (d:=om) rfl (zqm (x:=.int (if topH c t r j < 1 then topH c t r j else 1)) (d:=om) rfl (zxb (zzc (zpv (i:=n) rfl rfl (by decide) (by decide)) (zwn (i:=topH c t r j) rfl rfl) (by omega)))))) (by kernel_rfl)
  refine ⟨topH c t r j - ch.getD (n % 4).toNat 0,some (.int n,om),some (.int (topH c t r j),om),⟨by omega,by omega⟩,?_⟩
  refine (zqd v1).trans ((zqd v2).trans ((zqd v3).trans ((zqd v4).trans ?_)))
  refine (zyh (i:=7) (d0:=999) (d:=om) (xs:=r.map PV.int) (xs0:=r.map PV.int) rfl (qau (i:=topH c t r j) rfl (zvr f5 (k:=n % 4) (zzc (i:=n) rfl rfl (by decide)) (atI_nat q0 (zwc (by show (n % 4).toNat < 4;omega))))) rfl (by decide) (by rw [ja1];omega) rfl).trans ?_
  rw [zyr]
  rfl
 obtain ⟨ρ',e6,t,d5,s6,s7,s8,s9,s10,rfl,pt,hd5⟩:=zkg (i:=6) (body:=(sSeq (sSet false 7 (zqb zqj (aNil)) [])
 (sSeq (zkj zxu (zqa (bBin zqe (bVar 0) (bC (.int 1))) (aNil)) (asgN 8) (sSeq (sSet false 9 (bBin zqe (bVar 4) (bBin zqf (bBin zxx (bVar 6) (bBin zqe (bVar 0) (bC (.int 1)))) (bVar 8))) [4,6,0,8])
 (sSeq (sIf (bT (bBin (zxq λ i j=>decide (i < j)) (bBin zqf (bBin zqf (bVar 2) (bBin zxx (bVar 6) (bBin zqe (bVar 0) (bC (.int 1))))) (bVar 8)) (zqb zqu (zqa (bVar 1) (aNil))))) (sSet false 9 (bBin zqe (bVar 1) (bBin zqf (bBin zqf (bVar 2) (bBin zxx (bVar 6) (bBin zqe (bVar 0) (bC (.int 1))))) (bVar 8))) [1,2,6,0,8]) sNil)
 (sSeq (sSet false 10 (bBin zqe (bBin zqf (zqb zqj (zqa (bBin zqe (bVar 0) (bC (.int 2))) (aNil))) (zqw (bSl (bVar 5) (some (bUn zwi (bC (.int 1)))) none) 1 (asgN 11) zxt (bBin zqe (bBin zqe (bVar 5) (bUn zwi (bC (.int 1)))) (bVar 8)))) (bUn zwi (bC (.int 1)))) [0,5,5,8])
 (sSeq (sSet false 10 (zqb zkz (zqa (bBin zqf (zqb zqj (zqa (bVar 10) (aNil))) (bSl (bVar 7) (some (bUn zwi (bC (.int 1)))) none)) (aNil))) [10,7])
 (sApp 7 (bBin zzz (bVar 10) (bBin zqe (zqb zqj (zqa (bC (.int 0)) (zqa (bC (.int 0)) (zqa (zqb zkz (zqa (bC (.int 1)) (zqa (bVar 10) (aNil)))) (zqa (bBin zxh (bBin zwd (bVar 9) (bC (.int 4))) (bBin zqf (bVar 10) (bC (.int 1)))) (aNil)))))) (bBin zxh (bVar 9) (bC (.int 4))))) [10,10,9,10,9]))))))
 (sApp 5 (bVar 7) [7])))) (en:=zxu) (fa:=zqa (bBin zqe (bVar 0) (bC (.int 0))) (aNil)) (ρ:=R [] om none none none none none) (ρ1:=R [] om none none none none none) (as:=[(.int (a:Int),om)]) (lo:=0) (hi:=(a:Int))
  (λ k ρ=>∃ t d5 s6 s7 s8 s9 s10,ρ=R t d5 s6 s7 s8 s9 s10/\Pile k b c t/\d5≠0) (by kernel_rfl) (zwx (by omega) (by omega)) ⟨[],om,none,none,none,none,none,rfl,⟨⟨rfl,λ _ h=>nomatch h⟩,λ _ _ h=>absurd h (by omega),λ _ _ h=>absurd h (by omega),λ _ _ h=>absurd h (by omega),λ _ _ h=>absurd h (by omega)⟩,by decide⟩ (by
   rintro k ρ hk ⟨t,d5,s6,s7,s8,s9,s10,rfl,pt,hd5⟩
   have hk':k < a:=by omega
   have u1:sSet false 7 (zqb zqj (aNil)) [] (R t d5 (some (.int (0 + (k:Int)),om)) s7 s8 s9 s10)=.nx (R t d5 (some (.int (0 + (k:Int)),om)) (some (il [],om)) s8 s9 s10):=rfl
   obtain ⟨ρ2,e2,r,t8,t9,t10,rfl,hr,hr0,hr1,hrn⟩:=zkg (i:=8) (body:=(sSeq (sSet false 9 (bBin zqe (bVar 4) (bBin zqf (bBin zxx (bVar 6) (bBin zqe (bVar 0) (bC (.int 1)))) (bVar 8))) [4,6,0,8])
 (sSeq (sIf (bT (bBin (zxq λ i j=>decide (i < j)) (bBin zqf (bBin zqf (bVar 2) (bBin zxx (bVar 6) (bBin zqe (bVar 0) (bC (.int 1))))) (bVar 8)) (zqb zqu (zqa (bVar 1) (aNil))))) (sSet false 9 (bBin zqe (bVar 1) (bBin zqf (bBin zqf (bVar 2) (bBin zxx (bVar 6) (bBin zqe (bVar 0) (bC (.int 1))))) (bVar 8))) [1,2,6,0,8]) sNil)
 (sSeq (sSet false 10 (bBin zqe (bBin zqf (zqb zqj (zqa (bBin zqe (bVar 0) (bC (.int 2))) (aNil))) (zqw (bSl (bVar 5) (some (bUn zwi (bC (.int 1)))) none) 1 (asgN 11) zxt (bBin zqe (bBin zqe (bVar 5) (bUn zwi (bC (.int 1)))) (bVar 8)))) (bUn zwi (bC (.int 1)))) [0,5,5,8])
 (sSeq (sSet false 10 (zqb zkz (zqa (bBin zqf (zqb zqj (zqa (bVar 10) (aNil))) (bSl (bVar 7) (some (bUn zwi (bC (.int 1)))) none)) (aNil))) [10,7])
 (sApp 7 (bBin zzz (bVar 10) (bBin zqe (zqb zqj (zqa (bC (.int 0)) (zqa (bC (.int 0)) (zqa (zqb zkz (zqa (bC (.int 1)) (zqa (bVar 10) (aNil)))) (zqa (bBin zxh (bBin zwd (bVar 9) (bC (.int 4))) (bBin zqf (bVar 10) (bC (.int 1)))) (aNil)))))) (bBin zxh (bVar 9) (bC (.int 4))))) [10,10,9,10,9])))))) (en:=zxu) (fa:=zqa (bBin zqe (bVar 0) (bC (.int 1))) (aNil)) (ρ:=R t d5 (some (.int (0 + (k:Int)),om)) (some (il [],om)) s8 s9 s10) (ρ1:=R t d5 (some (.int (0 + (k:Int)),om)) (some (il [],om)) s8 s9 s10) (as:=[(.int (b:Int),om)]) (lo:=0) (hi:=(b:Int))
    (λ j ρ=>∃ r s8 s9 s10,ρ=R t d5 (some (.int (0 + (k:Int)),om)) (some (il r,om)) s8 s9 s10/\r.length=j/\(∀ y,y < j->0<=r.getD y 0)/\(∀ y,y < j->r.getD y 0<=upH c t y)/\Nr r) (by kernel_rfl) (zwx (by omega) (by omega)) ⟨[],s8,s9,s10,rfl,rfl,λ _ h=>absurd h (by omega),λ _ h=>absurd h (by omega),λ _ h=>absurd h (by simp)⟩ (by
     rintro j ρ hj ⟨r,s8,s9,s10,rfl,hr,hr0,hr1,hrn⟩
     obtain ⟨h,t9,t10,hh,eh⟩:=step t d5 k j r s9 s10 hk' (by omega) pt hr hr0 hr1
     refine ⟨show 8 < 11 by decide,R t d5 (some (.int (0 + (k:Int)),om)) (some (il (r++[h]),om)) (some (.int (0 + (j:Int)),om)) t9 t10,?_,r++[h],some (.int (0 + (j:Int)),om),t9,t10,rfl,by rw [jb4,hr];rfl,λ y hy=>?_,λ y hy=>?_,λ y hy=>?_⟩
     ·rw [jh4,jh4]
      exact eh
     ·rw [zjl]
      by_cases e:y < r.length
      ·rw [if_pos e];exact hr0 y (by omega)
      ·rw [if_neg e,if_pos (by omega)];exact hh.1
     ·rw [zjl]
      by_cases e:y < r.length
      ·rw [if_pos e];exact hr1 y (by omega)
      ·rw [if_neg e,if_pos (by omega),show y=j by omega]
       have:=hh.2
       unfold topH at this
       split at this <;> omega
     ·rw [jb4,jd7] at hy
      rw [zjl,zjl]
      by_cases e:y + 1 < r.length
      ·rw [if_pos e,if_pos (by omega)];exact hrn y e
      ·rw [if_neg e,if_pos (by omega),if_pos (by omega)]
       have:=hh.2
       unfold topH at this
       rw [if_neg (by omega),show r.length - 1=y by omega] at this
       omega)
   rw [show ((b:Int) - 0).toNat=b by omega] at hr hr0 hr1
   refine ⟨show 6 < 11 by decide,R (t++[r]) 1 (some (.int (0 + (k:Int)),om)) (some (il r,0)) t8 t9 t10,?_,t++[r],1,_,_,_,_,_,rfl,pt.snoc hr (λ y hy=>⟨hr0 y hy,hr1 y hy⟩) hrn,by decide⟩
   refine (zqd u1).trans ((zqd e2).trans ?_)
   obtain ⟨d0,rfl⟩:∃ d0,d5=d0 + 1:=⟨d5 - 1,by omega⟩
   refine (zyh (i:=5) (d0:=d0) (d:=d0 + 1) (y:=il r) (e:=0) (xs:=t.map il) (xs0:=t.map il) rfl rfl rfl hd5 (by rw [ja1,pt.tab.1];omega) rfl).trans ?_
   rw [zhp,if_neg (λ h=>absurd h.2 (by decide))]
   rfl)
 rw [show ((a:Int) - 0).toNat=a by omega] at pt
 exact ⟨t,d5,pt,hd5,zxk rfl ((zqd s1).trans ((zqd s2).trans ((zqd e6).trans rfl)))⟩
theorem zhj:∀ xs:List Int,zhk (xs.map PV.int)=true
 | []=>rfl
 | x::xs=>by rw [jd5,zhk,zhj xs];rfl
theorem qfc (xs:List Int):d1 (xs.map PV.int)=om:=by unfold d1;rw [zhj];rfl
abbrev pl (p q r:Int):PV:=.lst [.int p,.int q,.int r]
theorem zya {asg:PV->Rho->Option Rho}{body:Fs}:∀ (els:List PV) (I:Nat->Rho->Prop) (ρ:Rho),I 0 ρ->(∀ j x ρ,els[j]?=some x->I j ρ->∃ ρ1 ρ2,asg x ρ=some ρ1/\body ρ1=.nx ρ2/\I (j + 1) ρ2)->∃ ρ',zws asg body els ρ=.nx ρ'/\I els.length ρ'
 | [],I,ρ,h,_=>⟨ρ,rfl,h⟩
 | x::xs,I,ρ,h,hb=>by
  obtain ⟨ρ1,ρ2,e1,e2,h2⟩:=hb 0 x ρ rfl h
  obtain ⟨ρ',e',h'⟩:=zya xs (λ j=>I (j + 1)) ρ2 h2 λ j y ρ hy hi=>hb (j + 1) y ρ (by simpa using hy) hi
  refine ⟨ρ',?_,h'⟩
  unfold zws
  rw [e1]
  dsimp only
  rw [e2]
  exact e'
theorem qhf {v:Vw}{fa:Fa}{vs:List Nat}{asg:PV->Rho->Option Rho}{body:Fs}{ρ ρ1 ρ2:Rho}{xs:List (PV×Nat)}{els:List PV} (I:Nat->Rho->Prop) (hf:fa ρ=.ok (xs,ρ1)) (he:zvs v (xs.map (·.1))=some els) (ec:zqs (if zvp xs=true then om else 0) vs ρ1=ρ2) (h0:I 0 ρ2)
  (hb:∀ j x ρ,els[j]?=some x->I j ρ->∃ ρ1 ρ2,asg x ρ=some ρ1/\body ρ1=.nx ρ2/\I (j + 1) ρ2):∃ ρ',zkm v fa vs asg body ρ=.nx ρ'/\I els.length ρ':=by
 obtain ⟨ρ',e,h⟩:=zya els I ρ2 h0 hb
 refine ⟨ρ',?_,h⟩
 unfold zkm
 rw [hf]
 dsimp only
 rw [he]
 dsimp only
 rw [ec]
 exact e
theorem qbj {f:Fx}{vs:List Nat}{asg:PV->Rho->Option Rho}{body:Fs}{ρ ρ1 ρ2:Rho}{els:List PV}{d:Nat} (I:Nat->Rho->Prop) (hf:f ρ=.ok (.lst els,d,ρ1)) (ec:zqs d vs ρ1=ρ2) (h0:I 0 ρ2)
  (hb:∀ j x ρ,els[j]?=some x->I j ρ->∃ ρ1 ρ2,asg x ρ=some ρ1/\body ρ1=.nx ρ2/\I (j + 1) ρ2):∃ ρ',zwk f vs asg body ρ=.nx ρ'/\I els.length ρ':=by
 obtain ⟨ρ',e,h⟩:=zya els I ρ2 h0 hb
 refine ⟨ρ',?_,h⟩
 unfold zwk
 rw [hf]
 dsimp only
 rw [ec]
 exact e
abbrev C3:=Nat×Nat×Nat
def c3 (x:C3):PV:=.tup [.int (x.1:Int),.int (x.2.1:Int),.int (x.2.2:Int)]
def ct (cs:List C3):PV:=.lst (cs.map c3)
def qpk (F:Fn):Fs:=(sSeq (sIf (bT (bUn (zqn "int") (bVar 1))) (sRet (zxp (bUn (zqn "int") (bVar 0)) (zxp (bUn zqy (bUn (zqn "bool") (bVar 0))) (bBin (opEq false) (bVar 0) (bVar 1))))) sNil)
 (sSeq (sIf (bT (bUn (zqn "str") (bVar 1))) (sRet (zxp (bUn (zqn "str") (bVar 0)) (bBin (opEq false) (bVar 0) (bVar 1)))) sNil)
 (sSeq (sIf (bT (bOrV (bBin (opEq true) (bUn (zqn "tuple") (bVar 1)) (bUn (zqn "tuple") (bVar 0))) (bBin (opEq true) (bUn (zqn "list") (bVar 1)) (bUn (zqn "list") (bVar 0))))) (sRet (bC (.bl false))) sNil)
 (sSeq (sIf (bT (bBin (opEq true) (zqb zqu (zqa (bVar 0) (aNil))) (zqb zqu (zqa (bVar 1) (aNil))))) (sRet (bC (.bl false))) sNil)
 (sSeq (zkm .zp (zqa (bVar 0) (zqa (bVar 1) (aNil))) [0,1] (asgT [2,3]) (sIf (bT (bUn zqy (zqg F (zqa (bVar 2) (zqa (bVar 3) (aNil)))))) (sRet (bC (.bl false))) sNil))
 (sRet (bC (.bl true))))))))
def zzn:Nat->Fn
 | 0=>λ _=>.no
 | n + 1=>mkFn false 2 2 (qpk (zzn n))
theorem qf1 (n:Nat) (i:Int):zzn (n + 1) [.int i,.int i]=.ok (.bl true,om,.non):=by
 let R:Rho:=[some (.int i,om),some (.int i,om),none,none]
 have e:(zxp (bUn (zqn "int") (bVar 0)) (zxp (bUn zqy (bUn (zqn "bool") (bVar 0))) (bBin (opEq false) (bVar 0) (bVar 1)))) R=.ok (.bl (true && (true && (false^^decide (i=i)))),om,R):=
  zzo (a:=true) (d:=om) rfl (λ _=>zzo (a:=true) (d:=om) rfl (λ _=>zvf (i:=i) (j:=i) rfl rfl) rfl) rfl
 rw [decide_eq_true rfl] at e
 exact zxk rfl (ρ':=R) (zxz ((if_t (ρ1:=R) rfl).trans (zxl e)))
theorem zhl (n:Nat) (xs:List PV) (h:∀ x∈xs,zzn n [x,x]=.ok (.bl true,om,.non)):zzn (n + 1) [.lst xs,.lst xs]=.ok (.bl true,om,.non):=by
 let R (s2 s3:QQ.Slot):Rho:=[some (.lst xs,0),some (.lst xs,0),s2,s3]
 have t1:bT (bUn (zqn "int") (bVar 1)) (R none none)=.ok (false,R none none):=by kernel_rfl
 have t2:bT (bUn (zqn "str") (bVar 1)) (R none none)=.ok (false,R none none):=by kernel_rfl
 have t3:bT (bOrV (bBin (opEq true) (bUn (zqn "tuple") (bVar 1)) (bUn (zqn "tuple") (bVar 0))) (bBin (opEq true) (bUn (zqn "list") (bVar 1)) (bUn (zqn "list") (bVar 0)))) (R none none)=.ok (false,R none none):=by kernel_rfl
 have t4:=t_ok (zvf (neg:=true) (f:=zqb zqu (zqa (bVar 0) (aNil))) (g:=zqb zqu (zqa (bVar 1) (aNil))) (ρ:=R none none) (ρ1:=R none none) (ρ2:=R none none) (i:=(xs.length:Int)) (j:=(xs.length:Int)) (d:=om) (e:=om) rfl rfl)
 rw [decide_eq_true rfl] at t4
 obtain ⟨ρ',e5,s2,s3,rfl⟩:=qhf (v:=.zp) (fa:=zqa (bVar 0) (zqa (bVar 1) (aNil))) (vs:=[0,1]) (asg:=asgT [2,3]) (body:=sIf (bT (bUn zqy (zqg (zzn n) (zqa (bVar 2) (zqa (bVar 3) (aNil)))))) (sRet (bC (.bl false))) sNil) (ρ:=R none none) (xs:=[(.lst xs,0),(.lst xs,0)]) (els:=zipL xs xs) (λ _ ρ=>∃ s2 s3,ρ=R s2 s3) rfl rfl rfl ⟨_,_,rfl⟩ (by
  rintro j y ρ hy ⟨s2,s3,rfl⟩
  have hj:j < xs.length:=by
   have:=(ja8.mp hy).1
   rw [zmd] at this
   omega
  rw [zme xs xs j xs[j] xs[j] (ja3 hj) (ja3 hj)] at hy
  cases hy
  refine ⟨R (some (xs[j],dv xs[j])) (some (xs[j],dv xs[j])),R (some (xs[j],dv xs[j])) (some (xs[j],dv xs[j])),rfl,?_,_,_,rfl⟩
  exact (if_f (t_ok (zzb (zqh (xs:=[(xs[j],dv xs[j]),(xs[j],dv xs[j])]) rfl (h xs[j] (jc3 hj)))))).trans rfl)
 exact zxk rfl ((zwh t1).trans ((zwh t2).trans ((zwh t3).trans ((zwh t4).trans ((zqd e5).trans rfl)))))
theorem qh3 (n:Nat) (xs:List Int):zzn (n + 2) [il xs,il xs]=.ok (.bl true,om,.non):=zhl (n + 1) _ λ x hx=>by
 obtain ⟨i,_,rfl⟩:=jd4.mp hx
 exact qf1 n i
theorem qh2 (n:Nat) (t:List (List Int)):zzn (n + 3) [tb t,tb t]=.ok (.bl true,om,.non):=zhl (n + 2) _ λ x hx=>by
 obtain ⟨r,_,rfl⟩:=jd4.mp hx
 exact qh3 n r
def sgn (b:Bool):Nat:=if b then 114 else 100
def strW (w:List Bool):Str:=⟨(w.map sgn).toArray⟩
def wd (w:List Bool):PV:=.str (strW w)
theorem qgf (u v:List Bool):strW u++strW v=strW (u++v):=by
 show (⟨(u.map sgn).toArray++(v.map sgn).toArray⟩:Str)=_
 unfold strW
 rw [je8]
 simp
theorem zwv (w:List Bool):(strW w).length=w.length:=by
 show (w.map sgn).toArray.size=_
 simp
theorem qfz (w:List Bool):zwy (strW w)=true:=by
 unfold zwy strW
 rw [<- jh8]
 rw [jb9]
 intro x hx
 obtain ⟨b,_,rfl⟩:=jd4.mp hx
 cases b <;> decide
theorem qjz (w:List Bool):QQ.signs (strW w)=w.map λ b=>wd [b]:=by
 unfold QQ.signs strW
 show ((w.map sgn).map _)=_
 rw [jd6]
 rfl
theorem qfj (b:Bool) (w:List Bool):cntS (sgn b) (strW w).cps.toList=w.count b:=by
 unfold cntS strW
 show (w.map sgn).count (sgn b)=_
 induction w with
 | nil=>rfl
 | cons x r ih=>
  rw [jd5,jd1,jd1,ih]
  cases x <;> cases b <;> rfl
def wayR (b:Nat):Nat->List Nat->List Bool
 | k,[]=>ja6 (b - k) true
 | k,n::r=>ja6 (n - k) true++false::wayR b n r
def pos:Nat->List Bool->List Nat
 | _,[]=>[]
 | k,true::w=>pos (k + 1) w
 | k,false::w=>k::pos k w
theorem zpi:∀ (w:List Bool) (k:Nat),∀ n∈pos k w,k<=n
 | [],_,n,h=>by cases h
 | true::w,k,n,h=>jc6 (jr2 k) (zpi w (k + 1) n h)
 | false::w,k,n,h=>by
  rcases jb0.mp h with rfl | h
  ·exact jb3 _
  ·exact zpi w k n h
theorem zfy {b k:Nat}:∀ {ns:List Nat},(∀ n∈ns,k + 1<=n)->k + 1<=b->wayR b k ns=true::wayR b (k + 1) ns
 | [],_,hb=>by
  unfold wayR
  rw [show b - k=(b - (k + 1)) + 1 by omega,jd3]
 | n::r,h,_=>by
  have:=h n ja5
  unfold wayR
  rw [show n - k=(n - (k + 1)) + 1 by omega,jd3]
  rfl
theorem zhn:∀ (w:List Bool) (k b:Nat),b=k + w.count true->wayR b k (pos k w)=w
 | [],k,b,h=>by
  unfold pos wayR
  rw [show b - k=0 by simp at h;omega]
  rfl
 | true::w,k,b,h=>by
  rw [jd1,if_pos (by rfl)] at h
  show wayR b k (pos (k + 1) w)=_
  rw [zfy (zpi w (k + 1)) (by omega),zhn w (k + 1) b (by omega)]
 | false::w,k,b,h=>by
  rw [jd1,if_neg (by decide)] at h
  show wayR b k (k::pos k w)=_
  unfold wayR
  rw [jk3,zhn w k b (by omega)]
  rfl
def Rise (b:Nat):Nat->List Nat->Prop
 | k,[]=>k<=b
 | k,n::r=>k<=n/\Rise b n r
theorem Rise.le {b:Nat}:∀ {ns:List Nat}{k:Nat},Rise b k ns->k<=b
 | [],_,h=>h
 | _::_,_,h=>jc6 h.1 h.2.le
theorem zhw (v:List Bool):∀ (m k:Nat),pos k (ja6 m true++v)=pos (k + m) v
 | 0,k=>rfl
 | m + 1,k=>by
  rw [jd3]
  show pos (k + 1) (ja6 m true++v)=_
  rw [zhw v m (k + 1),show k + 1 + m=k + (m + 1) by omega]
theorem qdq {b:Nat}:∀ {ns:List Nat}{k:Nat},Rise b k ns->pos k (wayR b k ns)=ns
 | [],k,h=>by
  unfold wayR
  have:=zhw [] (b - k) k
  rw [jf2] at this
  rw [this]
  rfl
 | n::r,k,h=>by
  unfold wayR
  rw [zhw,show k + (n - k)=n by have:=h.1;omega]
  show n::pos n (wayR b n r)=_
  rw [qdq h.2]
theorem qfe {b:Nat}:∀ {ns:List Nat}{k:Nat},Rise b k ns->(wayR b k ns).count true=b - k
 | [],k,h=>by unfold wayR;rw [ji3];simp
 | n::r,k,h=>by
  unfold wayR
  rw [jj9,ji3,jd1,qfe h.2]
  have h1:=h.1
  have h2:=h.2.le
  simp
  omega
theorem qff {b:Nat}:∀ (ns:List Nat) (k:Nat),(wayR b k ns).count false=ns.length
 | [],k=>by unfold wayR;rw [ji3];simp
 | n::r,k=>by
  unfold wayR
  rw [jj9,ji3,jd1,qff r n]
  simp
theorem qk5:∀ w:List Bool,w.length=w.count true + w.count false
 | []=>rfl
 | x::r=>by
  rw [jb1,jd1,jd1,qk5 r]
  cases x <;> simp <;> omega
theorem zym:∀ (u v:List Bool) (k:Nat),pos k (u++v)=pos k u++pos (k + u.count true) v
 | [],v,k=>by simp [pos]
 | true::u,v,k=>by
  show pos (k + 1) (u++v)=pos (k + 1) u++_
  rw [zym u v (k + 1),jd1,if_pos (by rfl),show k + 1 + u.count true=k + (u.count true + 1) by omega]
 | false::u,v,k=>by
  show k::pos k (u++v)=k::pos k u++_
  rw [zym u v k,jd1,if_neg (by decide)]
  rfl
theorem Rise.all {b:Nat}:∀ {ns:List Nat}{k:Nat},Rise b k ns->∀ n∈ns,k<=n
 | [],_,_,n,h=>by cases h
 | m::r,k,h,n,hn=>by
  rcases jb0.mp hn with rfl | hn
  ·exact h.1
  ·exact jc6 h.1 (h.2.all n hn)
def nsOf (s:List Int):List Nat:=s.reverse.map jr1
def wayW (b:Nat) (s:List Int):List Bool:=wayR b 0 (nsOf s)
def StR (b:Nat) (s:List Int):Prop:=Nr s/\∀ x∈s,0<=x/\x<=b
theorem qdi {b:Nat}:∀ {l:List Int}{k:Nat},l.Pairwise (·<=·)->(∀ x∈l,(k:Int)<=x/\x<=b)->k<=b->Rise b k (l.map jr1)
 | [],k,_,_,hb=>hb
 | x::r,k,hp,hx,_=>by
  have h0:=hx x ja5
  rw [jj6] at hp
  refine ⟨by omega,qdi hp.2 (λ y hy=>⟨?_,(hx y (ja2 _ hy)).2⟩) (by omega)⟩
  have:=hp.1 y hy
  omega
theorem Nr.pw {s:List Int} (h:Nr s):s.Pairwise (·≥ ·):=by
 rw [ji6]
 intro i j hi hj hij
 have:=h.le (jk1 hij) hj
 rw [ja0,ja0,ja3 hi,ja3 hj] at this
 exact this
theorem StR.rise {b:Nat}{s:List Int} (h:StR b s):Rise b 0 (nsOf s):=by
 unfold nsOf
 refine qdi ?_ (λ x hx=>?_) (jg2 _)
 ·rw [List.pairwise_reverse]
  exact h.1.pw
 ·have:=h.2 x (jm4.mp hx)
  exact ⟨by omega,this.2⟩
theorem qg1 (s:List Int):(nsOf s).length=s.length:=by unfold nsOf;rw [ja1,jg3]
theorem qmc {b:Nat}{s:List Int} (h:StR b s):(wayW b s).count true=b:=by
 unfold wayW
 rw [qfe h.rise]
 omega
theorem qmd {b:Nat} (s:List Int):(wayW b s).count false=s.length:=by
 unfold wayW
 rw [qff,qg1]
theorem qbi {f:Fx}{vs:List Nat}{asg:PV->Rho->Option Rho}{body:Fs}{ρ:Rho}{w:List Bool} (I:Nat->Rho->Prop) (hf:f ρ=.ok (wd w,om,ρ)) (h0:I 0 ρ)
  (hb:∀ j x ρ,w[j]?=some x->I j ρ->∃ ρ1 ρ2,asg (wd [x]) ρ=some ρ1/\body ρ1=.nx ρ2/\I (j + 1) ρ2):∃ ρ',zwk f vs asg body ρ=.nx ρ'/\I w.length ρ':=by
 obtain ⟨ρ',e,h⟩:=zya (asg:=asg) (body:=body) (w.map λ b=>wd [b]) I ρ h0 (λ j x ρ hx hi=>by
  rw [jc4] at hx
  obtain ⟨b,hb',rfl⟩:=jb5.mp hx
  exact hb j b ρ hb' hi)
 rw [ja1] at h
 refine ⟨ρ',?_,h⟩
 unfold zwk
 rw [hf]
 show (if zwy (strW w)=true then zws asg body (QQ.signs (strW w)) (zqs om vs ρ) else .no)=_
 rw [if_pos (qfz w),qjz]
 exact e
theorem ql3 {f h:Fx}{ρ ρ1 ρ2:Rho}{u v:List Bool}{d e:Nat} (h1:f ρ=.ok (wd u,d,ρ1)) (h2:h ρ1=.ok (wd v,e,ρ2)) (hl:u.length + v.length<=100000):bBin zqf f h ρ=.ok (wd (u++v),om,ρ2):=by
 have z:=sz
 refine zxf h1 h2 ?_
 show (if (strW u).length + (strW v).length<=sizeLine then some (PV.str (strW u++strW v),om) else none)=_
 rw [zwv,zwv,if_pos (by omega),qgf]
 rfl
theorem zjx {a b c:Nat}{t:List (List Int)} (p:Pile a b c t) {s:List Int} (hs:s∈zxc t c):StR b s/\s.length=a:=by
 have q:=zjw p
 obtain ⟨k,hk,rfl⟩:=zbl hs
 rw [q.tab.1] at hk
 refine ⟨⟨q.nr hk,λ x hx=>?_⟩,q.tab.row hk⟩
 obtain ⟨i,hi,rfl⟩:=zfg hx
 rw [q.tab.row hk] at hi
 exact ⟨q.lo k i hk hi,q.hi k i hk hi⟩
theorem zys {f:Fx}{vs:List Nat}{asg:PV->Rho->Option Rho}{body:Fs}{ρ ρ1 ρ2:Rho}{r:Rs}{els:List PV}{d:Nat} (hf:f ρ=.ok (.lst els,d,ρ1)) (ec:zqs d vs ρ1=ρ2) (h:zws asg body els ρ2=r):zwk f vs asg body ρ=r:=by
 unfold zwk
 rw [hf]
 dsimp only
 rw [ec,h]
def zT (h:Int->Int->Int) (t u:List (List Int)):List (List Int):=(t.zip u).map λ z=>List.zipWith h z.1 z.2
theorem orF {f g:Fx}{ρ ρ1:Rho}{d:Nat} (h:f ρ=.ok (.bl false,d,ρ1)):bOrV f g ρ=g ρ1:=by
 unfold bOrV
 rw [h]
 rfl
def hT (t:List (List Int)):List C3->List (List Int)
 | []=>t
 | x::r=>hT (putT t x.1 x.2.1) r
theorem ql0 {t:List (List Int)}{r:List Int}{i:Nat}{v:Int} (hi:t[i]?=some r) (hr:r.length<=1000):app2 (tb t) (i:Int) (.int v)=some (tb (t.set i (r++[v]))):=by
 have z:=sz
 have hl:=(ja8.mp hi).1
 unfold app2 tb
 dsimp only
 have e1:ixN (t.map il).length (i:Int)=some i:=by
  unfold ixN
  rw [ja1,if_pos (by omega),if_pos (by omega)]
  rfl
 have e2:(t.map il)[i]?=some (.lst (r.map PV.int)):=by rw [jc4,hi];rfl
 rw [e1]
 dsimp only
 rw [e2]
 dsimp only
 rw [if_pos (by rw [ja1];omega),List.map_set,zyr]
theorem ql1 {i:Nat}{fi f:Fx}{ρ ρ1 ρ2 ρ3:Rho}{x x' y:PV}{k:Int}{d1 d2:Nat} (h0:ρ[i]?=some (some (x,om))) (h1:fi ρ=.ok (.int k,d1,ρ1)) (h2:f ρ1=.ok (y,d2,ρ2)) (h3:app2 x k y=some x') (hy:zmc y=true) (e:ρ2.set i (some (x',om))=ρ3):zgg i fi f ρ=.nx ρ3:=by
 unfold zgg
 rw [h0,h1]
 dsimp only
 rw [h2]
 dsimp only
 rw [h3]
 dsimp only
 rw [if_pos ⟨rfl,hy⟩,e]
theorem qm8 {f j:Fx}{ρ ρ1:Rho}{xs:List PV}{n d e:Nat} (h1:f ρ=.ok (.lst xs,d,ρ1)) (h2:j ρ1=.ok (.int (n:Int),e,ρ1)) (hn:n<=xs.length):bSl f none (some j) ρ=.ok (.lst (xs.take n),d1 (xs.take n),ρ1):=by
 have ec:cutP xs none (some (n:Int))=xs.take n:=by
  unfold cutP
  rw [HT.sIx_nat]
  show (xs.drop 0).take (min n xs.length - 0)=_
  rw [List.drop_zero,Nat.sub_zero,jl3 hn]
 unfold bSl
 rw [h1]
 dsimp only [Rz.bind,evO]
 rw [h2]
 dsimp only [opSl]
 rw [ec]
theorem qjy {f j:Fx}{ρ ρ1:Rho}{xs:List PV}{n d e:Nat} (h1:f ρ=.ok (.lst xs,d,ρ1)) (h2:j ρ1=.ok (.int (n:Int),e,ρ1)) (hn:n < xs.length):bSl f (some (bBin zqf j (bC (.int 1)))) none ρ=.ok (.lst (xs.drop (n + 1)),d1 (xs.drop (n + 1)),ρ1):=by
 have ec:cutP xs (some ((n:Int) + 1)) none=xs.drop (n + 1):=by
  unfold cutP
  rw [show (n:Int) + 1=((n + 1:Nat):Int) by omega,HT.sIx_nat,HT.sIx_none,jl3 (by omega)]
  exact jg6 (by rw [jd2];exact jb3 _)
 unfold bSl
 rw [h1]
 dsimp only [Rz.bind,evO]
 rw [zwn h2 (j:=1) (e:=om) rfl]
 dsimp only [opSl]
 rw [ec]
theorem qgq {a b c:Int}{xs:List PV} (hl:(xs.length:Int)≠a):preV a b c (.lst xs)=false:=by
 show (decide _ && _)=false
 rw [decide_eq_false hl];rfl
theorem zft {a b c:Nat} (ha:1<=a) (hb:1<=b) (hc:1<=c):boxB a b c=true:=by
 unfold boxB
 rw [decide_eq_true (show (1:Int)<=a by omega),decide_eq_true (show (1:Int)<=b by omega),decide_eq_true (show (1:Int)<=c by omega)]
 rfl
theorem qoj {n:Nat}{r:List Int} (h:r.length<=1000):okE (n + 2) (il r)=true:=zbh (by rw [ja1];exact h) λ x hx=>by
 obtain ⟨i,_,rfl⟩:=jd4.mp hx
 rfl
theorem zfj {f g:Fs}{ρ:Rho}{c:Nat} (h:f ρ=.exc c):sSeq f g ρ=.exc c:=by unfold sSeq;rw [h]
theorem zfk {F:Fn}{fa:Fa}{ρ ρ1:Rho}{xs:List (PV×Nat)}{c:Nat} (h1:fa ρ=.ok (xs,ρ1)) (h2:F (xs.map (·.1))=.exc c):zqg F fa ρ=.exc c:=by
 unfold zqg
 rw [h1]
 dsimp only [Rz.bind]
 rw [h2]
theorem qbl {f:Fx}{ρ:Rho}{c:Nat} (h:f ρ=.exc c):zzq f ρ=.exc c:=by unfold zzq;rw [h]
theorem zgv {np k:Nat}{b:Fs}{xs:List PV}{c:Nat} (hl:xs.length=np) (h:b (xs.map (λ x=>some (x,dv x))++ja6 k none)=.exc c):mkFn false np k b xs=.exc c:=by
 unfold mkFn
 rw [if_pos hl]
 show (match b (xs.map (λ x=>some (x,dv x))++ja6 k none) with | .rt y d ρ=>_ | .nx ρ=>_ | .exc c=>_ | _=>_)=_
 rw [h]
theorem qcg {y:PV} (h:f_is_box [y]=.ok (.bl false,om,.non)):f_must_be_box [y]=.exc 1:=
 zgv rfl ((if_t (f:=sExc 1) (g:=sNil) (t_ok (zzb (zqh (F:=f_is_box) (fa:=zqa (bVar 0) aNil) (ρ:=[some (y,dv y)]) (xs:=[(y,dv y)]) rfl h)))).trans rfl)
theorem zkd {asg:PV->Rho->Option Rho}{body:Fs}{N:Nat} (I:Nat->Rho->Prop) (P:PV->Prop):∀ (els:List PV) (n:Nat) (ρ:Rho),n + els.length<=N->(∀ x∈els,P x)->I n ρ->(∀ x n ρ,n < N->P x->I n ρ->∃ ρ1 ρ2,asg x ρ=some ρ1/\body ρ1=.nx ρ2/\I (n + 1) ρ2)->∃ ρ',zws asg body els ρ=.nx ρ'/\I (n + els.length) ρ'
 | [],n,ρ,_,_,h,_=>⟨ρ,rfl,h⟩
 | x::xs,n,ρ,hN,hp,h,hb=>by
  rw [jb1] at hN
  obtain ⟨ρ1,ρ2,e1,e2,h2⟩:=hb x n ρ (by omega) (hp x ja5) h
  obtain ⟨ρ',e,h'⟩:=zkd I P xs (n + 1) ρ2 (by omega) (λ y hy=>hp y (ja2 _ hy)) h2 hb
  refine ⟨ρ',?_,by rw [jb1,show n + (xs.length + 1)=n + 1 + xs.length by omega];exact h'⟩
  unfold zws
  rw [e1]
  dsimp only
  rw [e2]
  exact e
theorem qlg {f:Fx}{vs:List Nat}{asg:PV->Rho->Option Rho}{body:Fs}{ρ ρ1 ρ2:Rho}{r:Rs}{els:List PV}{d:Nat} (hf:f ρ=.ok (.tup els,d,ρ1)) (ec:zqs d vs ρ1=ρ2) (h:zws asg body els ρ2=r):zwk f vs asg body ρ=r:=by
 unfold zwk
 rw [hf]
 dsimp only
 rw [ec,h]
theorem zbm {asg:PV->Rho->Option Rho}{body:Fs} (ok:PV->Bool) (I:Rho->Prop):∀ (els:List PV) (ρ:Rho),I ρ->(∀ x∈els,∀ ρ,I ρ->∃ ρ1,asg x ρ=some ρ1/\((ok x=true/\∃ ρ2,body ρ1=.nx ρ2/\I ρ2)\/(ok x=false/\∃ ρ2,body ρ1=.rt (.bl false) om ρ2))) ->
  (els.all ok=true/\∃ ρ',zws asg body els ρ=.nx ρ'/\I ρ')\/(els.all ok=false/\∃ ρ',zws asg body els ρ=.rt (.bl false) om ρ')
 | [],ρ,h,_=>.inl ⟨rfl,ρ,rfl,h⟩
 | x::xs,ρ,h,hb=>by
  obtain ⟨ρ1,e1,⟨hx,ρ2,e2,h2⟩ | ⟨hx,ρ2,e2⟩⟩:=hb x ja5 ρ h
  ·rcases zbm ok I xs ρ2 h2 (λ y hy=>hb y (ja2 _ hy)) with ⟨ha,ρ',e,h'⟩ | ⟨ha,ρ',e⟩
   ·exact .inl ⟨by rw [jf4,hx,ha];rfl,ρ',by unfold zws;rw [e1];dsimp only;rw [e2];exact e,h'⟩
   ·exact .inr ⟨by rw [jf4,ha,jf7],ρ',by unfold zws;rw [e1];dsimp only;rw [e2];exact e⟩
  ·exact .inr ⟨by rw [jf4,hx,je6],ρ2,by unfold zws;rw [e1];dsimp only;rw [e2]⟩
theorem qfi {n:Nat}{en:List (PV×Nat)->Option (Int×Int)}{fa:Fa}{test:Fb}{p:Nat->Bool}{ρ ρ1:Rho}{as:List (PV×Nat)}{lo hi:Int} (hf:fa ρ=.ok (as,ρ1)) (hen:en as=some (lo,hi)) (hn:ρ1.length=n) (ht:∀ k,k < (hi - lo).toNat->test (ρ1++[some (.int (lo + (k:Int)),om)])=.ok (p k,ρ1++[some (.int (lo + (k:Int)),om)])) (hl:(hi - lo).toNat<=sizeLine):
  zwf en fa 1 (asgN n) test (bVar n) ρ=.ok (il (((jc2 (hi - lo).toNat).filter p).map λ (k:Nat)=>lo + (k:Int)),om,ρ1):=by
 unfold zwf
 rw [hf]
 dsimp only
 rw [hen]
 dsimp only
 rw [zbd,zzl (enc:=λ (k:Nat)=>PV.int (lo + (k:Int))) (p:=p) (q:=λ (k:Nat)=>PV.int (lo + (k:Int))) (e:=λ _=>om) (jc2 (hi - lo).toNat) ρ1 [] hn (λ x hx=>ht x (jd8.mp hx)) (λ x hx _=>by
  unfold bVar
  rw [jc8 (by omega),hn,jk3]
  rfl) (by simpa using hl)]
 show zvk _ ρ1=_
 rw [jg1]
 unfold zvk
 rw [zzp,jd6]
 unfold il
 rw [jd6]
 rfl
theorem qdu {neg:Bool}{n:Nat}{en:List (PV×Nat)->Option (Int×Int)}{fa:Fa}{test:Fb}{p:Nat->Bool}{ρ ρ1:Rho}{as:List (PV×Nat)}{lo hi:Int} (hf:fa ρ=.ok (as,ρ1)) (hen:en as=some (lo,hi)) (hn:ρ1.length=n) (ht:∀ k,k < (hi - lo).toNat->test (ρ1++[some (.int (lo + (k:Int)),om)])=.ok (p k,ρ1++[some (.int (lo + (k:Int)),om)])) (hl:(hi - lo).toNat<=sizeLine):
  bBin (opEq neg) (zwf en fa 1 (asgN n) test (bVar n)) (zqb zqj (aNil)) ρ=.ok (.bl (neg^^((jc2 (hi - lo).toNat).all λ k=>!p k)),om,ρ1):=by
 have h:=qqh (neg:=neg) (qfi hf hen hn ht hl) (h:=zqb zqj aNil) (ys:=[]) (e:=om) (ρ2:=ρ1) rfl
 rw [h]
 congr 3
 have e:decide (((jc2 (hi - lo).toNat).filter p).map (λ (k:Nat)=>lo + (k:Int))=[])=((jc2 (hi - lo).toNat).all λ k=>!p k):=by
  rw [jh0,decide_eq_true_iff,jo1,List.filter_eq_nil_iff,jb9]
  constructor
  ·intro h x hx
   have:=h x hx
   cases hp:p x with
   | true=>exact absurd hp this
   | false=>rfl
  ·intro h x hx hp
   have:=h x hx
   rw [hp] at this
   cases this
 rw [e]
def zzr (n m:Nat) (x:PV):Prop:=∃ D,toD n x=some D/\D.showable=true/\D.shown.length<=m
theorem zbb {n m:Nat}:∀ {xs:List PV},(∀ x∈xs,zzr n m x)->∃ Ds,toDL (toD n) xs=some Ds/\PyData.showableAll Ds=true/\(∀ t∈PyData.shownAll Ds,t.length<=m)/\(PyData.shownAll Ds).length=xs.length
 | [],_=>⟨[],rfl,rfl,λ _ h=>(nomatch h),rfl⟩
 | x::xs,h=>by
  obtain ⟨D,e1,e2,e3⟩:=h x ja5
  obtain ⟨Ds,f1,f2,f3,f4⟩:=zbb λ y hy=>h y (ja2 _ hy)
  refine ⟨D::Ds,by unfold toDL;rw [e1,f1],by unfold PyData.showableAll;rw [e2,f2];rfl,λ t ht=>?_,?_⟩
  ·unfold PyData.shownAll at ht
   rcases jb0.mp ht with rfl | ht
   ·exact e3
   ·exact f3 t ht
  ·unfold PyData.shownAll
   rw [jb1,jb1,f4]
theorem zjt:∀ (ts:List Str) (k:Nat) (acc:Str),(PySem.textFrom k acc ts).length<=acc.length + PySem.piled ts
 | [],k,acc=>jh7 _ _
 | t::r,k,acc=>by
  have h:=zjt r (k + 1) (acc++(if k > 0 then ", " else "" : String)++t)
  have e:(acc++(if k > 0 then ", " else "" : String)++t).length<=acc.length + 2 + t.length:=by
   rw [strLen_append,strLen_append]
   split
   ·exact jb3 _
   ·show acc.length + 0 + t.length<=_;omega
  rw [PySem.piled_cons]
  show (PySem.textFrom (k + 1) _ r).length<=_
  omega
theorem zmt {m:Nat}:∀ {ts:List Str},(∀ t∈ts,t.length<=m)->PySem.piled ts<=ts.length * (m + 2)
 | [],_=>jg2 _
 | t::r,h=>by
  have h1:=h t ja5
  have h2:=zmt λ y hy=>h y (ja2 _ hy)
  rw [PySem.piled_cons,jb1,jp0]
  omega
theorem zzr.lst {n m:Nat}{xs:List PV} (h:∀ x∈xs,zzr n m x):zzr (n + 1) (xs.length * (m + 2) + 3) (.lst xs):=by
 obtain ⟨Ds,f1,f2,f3,f4⟩:=zbb h
 refine ⟨.list Ds,by show (toDL (toD n) xs).map _=_;rw [f1];rfl,f2,?_⟩
 show (PySem.textFrom 0 "[" (PyData.shownAll Ds) ++ "]").length<=_
 rw [strLen_append]
 have h1:=zjt (PyData.shownAll Ds) 0 "["
 have h2:=zmt f3
 rw [f4] at h2
 have e1:("[" : Str).length=1:=rfl
 have e2:("]" : Str).length=1:=rfl
 omega
theorem zzr.tup {n m:Nat}{xs:List PV} (h:∀ x∈xs,zzr n m x):zzr (n + 1) (xs.length * (m + 2) + 3) (.tup xs):=by
 obtain ⟨Ds,f1,f2,f3,f4⟩:=zbb h
 refine ⟨.tuple Ds,by show (toDL (toD n) xs).map _=_;rw [f1];rfl,f2,?_⟩
 show (("(" : Str)++Str.join ", " (PyData.shownAll Ds)++(if (PyData.shownAll Ds).length == 1 then ",)" else ")" : String)).length<=_
 rw [strLen_append,strLen_append]
 have e1:("(" : Str).length=1:=rfl
 have e2:((if (PyData.shownAll Ds).length == 1 then ",)" else ")" : String):Str).length<=2:=by
  split
  ·exact jb3 2
  ·show 1<=2;decide
 have h2:=zmt f3
 rw [f4] at h2
 by_cases hn:PyData.shownAll Ds=[]
 ·rw [hn] at e2 ⊢
  have e3:(Str.join ", " []).length=0:=rfl
  rw [e3]
  rw [hn] at f4
  omega
 ·have h1:=PySem.join_length_add _ hn
  omega
theorem zzr.le {n m m':Nat}{x:PV} (h:zzr n m x) (hm:m<=m'):zzr n m' x:=by
 obtain ⟨D,e1,e2,e3⟩:=h
 exact ⟨D,e1,e2,jc6 e3 hm⟩
theorem zzr.int {n:Nat}{i:Int} (h:i.natAbs < 10 ^ 9):zzr (n + 1) 20 (.int i):=by
 refine ⟨.int i,rfl,?_,?_⟩
 ·show decide (i.natAbs.log2 < 1920)=true
  refine decide_eq_true ?_
  by_cases h0:i.natAbs=0
  ·rw [h0];decide
  ·exact (jr3 h0).mpr (jn0 h (jn0 (by decide:10 ^ 9 < 2 ^ 30) (Nat.pow_lt_pow_right (by decide) (by decide))))
 ·show (Str.ofString (toString i)).length<=20
  have e:=PySem.int_text_length_le10 (k:=9) (by decide) h
  rw [PySem.ofString_length]
  omega
theorem zzr.text {x:PV}{m:Nat} (hx:(∃ xs,x=.lst xs)\/∃ xs,x=.tup xs) (h:zzr 20 m x) (hm:m<=1000000):∃ T,zku x=some T:=by
 have z:=sz
 obtain ⟨D,e1,e2,e3⟩:=h
 rcases hx with ⟨xs,rfl⟩ | ⟨xs,rfl⟩
 ·refine ⟨D.shown,?_⟩
  unfold zku
  dsimp only
  rw [e1]
  dsimp only
  rw [if_pos ⟨e2,by omega⟩]
 ·refine ⟨D.shown,?_⟩
  unfold zku
  dsimp only
  rw [e1]
  dsimp only
  rw [if_pos ⟨e2,by omega⟩]
def Xf_staircase_of_way:Fs:=(sSeq (sSet false 1 (zqb zqj (aNil)) [])
 (sSeq (sSet false 2 (bC (.int 0)) [])
 (sSeq (zwk (bVar 0) [0] (asgN 3) (sIf (bT (bBin (opEq false) (bVar 3) (bC (.str "r")))) (sAug (λ i j=>i + j) true 2 (bC (.int 1))) (sApp 1 (bVar 2) [2])))
 (sRet (bUn qg0 (bVar 1))))))
def f_staircase_of_way:Fn:=mkFn false 1 3 Xf_staircase_of_way
def Xf_is_way:Fs:=(sSeq (sUnp (asgT [2,3,4]) (bVar 0) [0])
 (sSeq (sIf (bT (bOrV (bUn zqy (bUn (zqn "str") (bVar 1))) (bBin (opEq true) (zqb zqu (zqa (bVar 1) (aNil))) (bBin zqf (bVar 2) (bVar 3))))) (sRet (bC (.bl false))) sNil)
 (sRet (zxp (bBin (opEq false) (bCnt 1 (bC (.str "d"))) (bVar 2)) (bBin (opEq false) (bCnt 1 (bC (.str "r"))) (bVar 3))))))
def f_is_way:Fn:=mkFn false 2 3 Xf_is_way
def Xf_is_list_of_ways:Fs:=(sRet (zxp (bUn (zqn "list") (bVar 1)) (zqb zyn (zqa (zqw (bVar 1) 1 (asgN 2) zxt (zqg f_is_way (zqa (bVar 0) (zqa (bVar 2) (aNil))))) (aNil)))))
def f_is_list_of_ways:Fn:=mkFn false 2 0 Xf_is_list_of_ways
def Xf_are_ways:Fs:=(sSeq (zzq (zqg f_must_be_box (zqa (bVar 0) (aNil))))
 (sSeq (sIf (bT (bUn zqy (zqg f_is_list_of_ways (zqa (bVar 0) (zqa (bVar 1) (aNil)))))) (sRet (bC (.bl false))) sNil)
 (sRet (zqg f_are_stairs (zqa (bVar 0) (zqa (zqw (bVar 1) 1 (asgN 2) zxt (zqg f_staircase_of_way (zqa (bVar 2) (aNil)))) (aNil)))))))
def f_are_ways:Fn:=mkFn false 2 0 Xf_are_ways
def Xf_pile_of_ways:Fs:=(sSeq (sIf (bT (bUn zqy (zqg f_are_ways (zqa (bVar 0) (zqa (bVar 1) (aNil)))))) (sExc 4) sNil)
 (sRet (zqg f_pile_of_stairs (zqa (bVar 0) (zqa (zqw (bVar 1) 1 (asgN 2) zxt (zqg f_staircase_of_way (zqa (bVar 2) (aNil)))) (aNil))))))
def f_pile_of_ways:Fn:=mkFn false 2 0 Xf_pile_of_ways
def rN (w:List Bool) (n:Nat):Nat:=(w.take n).count true
def dN (w:List Bool) (n:Nat):Nat:=(w.take n).count false
theorem qa0 (w:List Bool) (n:Nat):rN w n + dN w n=min n w.length:=by
 unfold rN dN
 have:=qk5 (w.take n)
 rw [jd0] at this
 omega
theorem zvi:∀ (w:List Bool) (k:Nat),(pos k w).length=w.count false
 | [],_=>rfl
 | true::w,k=>by
  show (pos (k + 1) w).length=_
  rw [zvi w,jd1]
  rfl
 | false::w,k=>by
  show (k::pos k w).length=_
  rw [jb1,zvi w,jd1]
  rfl
theorem qds:∀ (w:List Bool) (k:Nat),∀ n∈pos k w,n<=k + w.count true
 | [],_,_,h=>nomatch h
 | true::w,k,n,h=>by
  have:=qds w (k + 1) n h
  rw [jd1]
  simp only [beq_self_eq_true,if_true]
  omega
 | false::w,k,n,h=>by
  rw [jd1]
  rcases jb0.mp h with e | e
  ·omega
  ·have:=qds w k n e
   omega
theorem qdr:∀ (w:List Bool) (k:Nat),(pos k w).Pairwise (·<=·)
 | [],_=>.nil
 | true::w,k=>qdr w (k + 1)
 | false::w,k=>jj6.mpr ⟨λ n h=>zpi w k n h,qdr w k⟩
theorem zpj:∀ (w:List Bool) (k j n:Nat),j < (pos k w).length->(j + 1<=dN w n↔(pos k w).getD j 0 + j + 1<=n + k)
 | [],_,_,_,h=>nomatch h
 | true::w,k,j,n,h=>by
  have h:j < (pos (k + 1) w).length:=h
  show _↔(pos (k + 1) w).getD j 0 + j + 1<=n + k
  cases n with
  | zero=>
   have e:dN (true::w) 0=0:=rfl
   have:k + 1<=(pos (k + 1) w).getD j 0:=by
    rw [ja0,ja3 h]
    exact zpi w (k + 1) _ (jc3 h)
   omega
  | succ m=>
   have e:dN (true::w) (m + 1)=dN w m:=by
    unfold dN
    rw [jh6,jd1]
    rfl
   have:=zpj w (k + 1) j m h
   omega
 | false::w,k,j,n,h=>by
  show _↔(k::pos k w).getD j 0 + j + 1<=n + k
  have e0:dN (false::w) 0=0:=rfl
  have e1:∀ m,dN (false::w) (m + 1)=dN w m + 1:=λ m=>by
   unfold dN
   rw [jh6,jd1]
   rfl
  cases j with
  | zero=>
   show _↔k + 0 + 1<=n + k
   cases n with
   | zero=>omega
   | succ m=>have:=e1 m;omega
  | succ i=>
   have h:i < (pos k w).length:=by
    have:i + 1 < (k::pos k w).length:=h
    rw [jb1] at this
    omega
   show _↔(pos k w).getD i 0 + (i + 1) + 1<=n + k
   cases n with
   | zero=>
    have:k<=(pos k w).getD i 0:=by
     rw [ja0,ja3 h]
     exact zpi w k _ (jc3 h)
    omega
   | succ m=>
    have:=e1 m
    have:=zpj w k i m h
    omega
def Wd (a b:Nat) (w:List Bool):Prop:=w.count false=a/\w.count true=b
theorem Wd.len {a b:Nat}{w:List Bool} (h:Wd a b w):w.length=a + b:=by
 have:=qk5 w
 have:=h.1
 have:=h.2
 omega
def Lw (u v:List Bool):Prop:=∀ n,rN v n<=rN u n
section
variable {a b c:Nat}{u v w:List Bool}
theorem qqj (h:Wd a b w) (n:Nat):dN w n<=a:=by
 unfold dN
 rw [<- h.1]
 exact (jo6 n w).count_le false
theorem qeg (hu:Wd a b u) (hv:Wd a b v):Lw u v↔∀ j,j < a->(pos 0 v).getD j 0<=(pos 0 u).getD j 0:=by
 have lu:=hu.len
 have lv:=hv.len
 have pu:(pos 0 u).length=a:=by rw [zvi];exact hu.1
 have pv:(pos 0 v).length=a:=by rw [zvi];exact hv.1
 constructor
 ·intro h j hj
  have k1:=zpj u 0 j ((pos 0 u).getD j 0 + j + 1) (by omega)
  have k2:=zpj v 0 j ((pos 0 u).getD j 0 + j + 1) (by omega)
  have k3:=h ((pos 0 u).getD j 0 + j + 1)
  have k4:=qa0 u ((pos 0 u).getD j 0 + j + 1)
  have k5:=qa0 v ((pos 0 u).getD j 0 + j + 1)
  have k6:=k1.mpr (by omega)
  have k7:=k2.mp (by omega)
  omega
 ·intro h n
  have k4:=qa0 u n
  have k5:=qa0 v n
  by_cases q:dN u n=0
  ·omega
  ·have d1:=qqj hu n
   have k1:=(zpj u 0 (dN u n - 1) n (by omega)).mp (by omega)
   have k3:=h (dN u n - 1) (by omega)
   have k2:=(zpj v 0 (dN u n - 1) n (by omega)).mpr (by omega)
   omega
theorem Lw.trans (h:Lw u v) (h':Lw v w):Lw u w:=λ n=>jc6 (h' n) (h n)
def stW (w:List Bool):List Int:=((pos 0 w).reverse).map λ (n:Nat)=>(n:Int)
theorem zml (h:Wd a b w):(stW w).length=a:=by unfold stW;rw [ja1,jg3,zvi];exact h.1
theorem qdb (h:Wd a b w) {i:Nat} (hi:i < a):(stW w).getD i 0=(((pos 0 w).getD (a - 1 - i) 0:Nat):Int):=by
 have pl:(pos 0 w).length=a:=by rw [zvi];exact h.1
 unfold stW
 rw [ja0,jc4,jn2 (by omega),pl,ja3 (by omega),ja0,ja3 (show a - 1 - i < (pos 0 w).length by omega)]
 rfl
theorem qdm {α:Type}{R:α->α->Prop} (hR:∀ x y z,R x y->R y z->R x z):∀ {l:List α},(∀ i (h:i + 1 < l.length),R (l[i]'(by omega)) l[i + 1])->l.Pairwise R
 | [],_=>.nil
 | [x],_=>List.pairwise_singleton _ x
 | x::y::l,h=>by
  have ih:=qdm hR (l:=y::l) λ i hi=>h (i + 1) (by rw [jb1];omega)
  have h0:R x y:=h 0 (by rw [jb1,jb1];omega)
  refine jj6.mpr ⟨λ z hz=>?_,ih⟩
  rcases jb0.mp hz with rfl | hz
  ·exact h0
  ·exact hR x y z h0 ((jj6.mp ih).1 z hz)
theorem qb7 {ws:List (List Bool)} (hc:ws.length=c) (hw:∀ w∈ws,Wd a b w):Pile c a b (ws.map stW)↔ws.Pairwise Lw:=by
 have tb':Tab c a (ws.map stW):=⟨by rw [ja1];exact hc,λ r hr=>by obtain ⟨w,h,rfl⟩:=jd4.mp hr;exact zml (hw w h)⟩
 have gt:∀ k i,(hk:k < ws.length)->i < a->g (ws.map stW) k i=(((pos 0 ws[k]).getD (a - 1 - i) 0:Nat):Int):=λ k i hk hi=>by
  unfold g
  rw [show (ws.map stW).getD k []=stW ws[k] by rw [ja0,jc4,ja3 hk];rfl]
  exact qdb (hw _ (jc3 hk)) hi
 constructor
 ·intro p
  refine qdm (λ x y z h1 h2=>h1.trans h2) λ i hi=>?_
  rw [qeg (hw _ (jc3 _)) (hw _ (jc3 _))]
  intro j hj
  have k:=p.dn i (a - 1 - j) (by omega) (by omega)
  rw [gt (i + 1) (a - 1 - j) hi (by omega),gt i (a - 1 - j) (by omega) (by omega),show a - 1 - (a - 1 - j)=j by omega] at k
  omega
 ·intro p
  have pl:∀ k,(hk:k < ws.length)->(pos 0 ws[k]).length=a:=λ k hk=>by rw [zvi];exact (hw _ (jc3 hk)).1
  refine ⟨tb',λ k i hk hi=>?_,λ k i hk hi=>?_,λ k i hk hi=>?_,λ k i hk hi=>?_⟩
  ·rw [gt k i (by omega) hi]
   omega
  ·rw [gt k i (by omega) hi]
   have l:=pl k (by omega)
   have:=qds ws[k] 0 ((pos 0 ws[k]).getD (a - 1 - i) 0) (by rw [ja0,ja3 (by omega)];exact jc3 _)
   have:=(hw ws[k] (jc3 _)).2
   omega
  ·rw [gt (k + 1) i (by omega) hi,gt k i (by omega) hi]
   have k1:=(ji6.mp p) k (k + 1) (by omega) (by omega) (by omega)
   have k2:=(qeg (hw _ (jc3 _)) (hw _ (jc3 _))).mp k1 (a - 1 - i) (by omega)
   omega
  ·rw [gt k (i + 1) (by omega) hi,gt k i (by omega) (by omega)]
   have l:=pl k (by omega)
   have k1:=(ji6.mp (qdr ws[k] 0)) (a - 1 - (i + 1)) (a - 1 - i) (by omega) (by omega) (by omega)
   rw [ja0,ja3 (show a - 1 - (i + 1) < (pos 0 ws[k]).length by omega),ja0,ja3 (show a - 1 - i < (pos 0 ws[k]).length by omega)]
   exact jq6.mpr k1
end
def wl (ws:List (List Bool)):PV:=.lst (ws.map wd)
theorem ql9:∀ ws:List (List Bool),zhk (ws.map wd)=true
 | []=>rfl
 | w::ws=>by
  rw [jd5]
  exact ql9 ws
theorem qo9 (ws:List (List Bool)):d1 (ws.map wd)=om:=by
 unfold d1
 rw [ql9]
 rfl
theorem qm6 (w:List Bool) (hw:w.length<=1000):f_staircase_of_way [wd w]=.ok (il (stW w),om,.non):=by
 have z:=sz
 let R (acc:List Nat) (m:Nat) (s3:QQ.Slot):Rho:=[some (wd w,om),some (il (acc.map λ (n:Nat)=>(n:Int)),om),some (.int (m:Int),om),s3]
 have v1:sSet false 1 (zqb zqj (aNil)) [] [some (wd w,om),none,none,none]=.nx [some (wd w,om),some (il [],om),none,none]:=rfl
 have v2:sSet false 2 (bC (.int 0)) [] [some (wd w,om),some (il [],om),none,none]=.nx (R [] 0 none):=rfl
 obtain ⟨ρ',v3,s3,rfl⟩:=qbi (f:=bVar 0) (vs:=[0]) (asg:=asgN 3) (body:=sIf (bT (bBin (opEq false) (bVar 3) (bC (.str "r")))) (sAug (λ i j=>i + j) true 2 (bC (.int 1))) (sApp 1 (bVar 2) [2])) (ρ:=R [] 0 none) (w:=w) (λ n ρ=>∃ s3,ρ=R (pos 0 (w.take n)) (rN w n) s3) rfl ⟨none,by rw [jk0];rfl⟩ (by
  rintro n x ρ hx ⟨s3,rfl⟩
  have es:w.take (n + 1)=w.take n++[x]:=by rw [jn9,hx];rfl
  have er:rN w (n + 1)=rN w n + [x].count true:=by unfold rN;rw [es,jj9]
  let A:=pos 0 (w.take n)
  let m:=rN w n
  cases x with
  | true=>
   refine ⟨R A m (some (wd [true],om)),R A (m + 1) (some (wd [true],om)),rfl,?_,some (wd [true],om),?_⟩
   ·have t1:bT (bBin (opEq false) (bVar 3) (bC (.str "r"))) (R A m (some (wd [true],om)))=.ok (true,R A m (some (wd [true],om))):=by kernel_rfl
    exact (if_t t1).trans rfl
   ·rw [es,zym,er]
    show R A (m + 1) _=R (A++[]) (m + 1) _
    rw [jf2]
  | false=>
   refine ⟨R A m (some (wd [false],om)),R (A++[m]) m (some (wd [false],om)),rfl,?_,some (wd [false],om),?_⟩
   ·have t1:bT (bBin (opEq false) (bVar 3) (bC (.str "r"))) (R A m (some (wd [false],om)))=.ok (false,R A m (some (wd [false],om))):=by kernel_rfl
    have la:A.length<=1000:=by
     show (pos 0 (w.take n)).length<=1000
     rw [zvi]
     exact jc6 jn6 (by rw [jd0];omega)
    refine (if_f t1).trans ((zyh (i:=1) (xs:=(A.map λ (n:Nat)=>(n:Int)).map PV.int) (xs0:=(A.map λ (n:Nat)=>(n:Int)).map PV.int) (d:=om) (d0:=999) (y:=.int (m:Int)) (e:=om) (ρ1:=R A m (some (wd [false],om))) rfl rfl rfl (by decide) (by rw [ja1,ja1];omega) rfl).trans ?_)
    rw [zyr]
    show _=Rs.nx [some (wd w,om),some (il ((A++[m]).map λ (n:Nat)=>(n:Int)),om),_,_]
    rw [je8]
    rfl
   ·rw [es,zym,er]
    show R (A++[m]) m _=R (A++[0 + m]) (m + 0) _
    rw [ji8]
    rfl)
 rw [jh9] at v3
 have v4:bUn qg0 (bVar 1) (R (pos 0 w) (rN w w.length) s3)=.ok (il (stW w),om,R (pos 0 w) (rN w w.length) s3):=by
  refine qcs (x:=il ((pos 0 w).map λ (n:Nat)=>(n:Int))) (d:=0) rfl ?_
  show some (PV.lst (((pos 0 w).map λ (n:Nat)=>(n:Int)).map PV.int).reverse,d1 (((pos 0 w).map λ (n:Nat)=>(n:Int)).map PV.int).reverse)=_
  rw [<- ji0,qfc,<- ji0]
  rfl
 exact zxk rfl ((zqd v1).trans ((zqd v2).trans ((zqd v3).trans (zxl v4))))
section
variable {a b c:Nat}{w:List Bool}{ws:List (List Bool)}
theorem qet (h:Wd a b w) (hab:a + b<=1000):f_is_way [bx a b c,wd w]=.ok (.bl true,om,.non):=by
 have z:=sz
 have hlw:=h.len
 let R:Rho:=[some (bx a b c,0),some (wd w,om),some (.int (a:Int),om),some (.int (b:Int),om),some (.int (c:Int),om)]
 have v1:sUnp (asgT [2,3,4]) (bVar 0) [0] [some (bx a b c,0),some (wd w,om),none,none,none]=.nx R:=rfl
 have ln:zqb zqu (zqa (bVar 1) (aNil)) R=.ok (.int (w.length:Int),om,R):=by
  refine zxd (zxb (x:=wd w) (d:=om) rfl) ?_
  show (if (strW w).length<=sizeLine then some (PV.int ((strW w).length:Nat),om) else none)=_
  rw [if_pos (by rw [zwv];omega),zwv]
 have t1:=zvf (neg:=true) ln (zwn (f:=bVar 2) (g:=bVar 3) (i:=(a:Int)) (j:=(b:Int)) (d:=om) (e:=om) (ρ2:=R) rfl rfl)
 rw [decide_eq_true (show (w.length:Int)=(a:Int) + b by have:=h.len;omega)] at t1
 have t2:=t_ok ((orF (f:=bUn zqy (bUn (zqn "str") (bVar 1))) (ρ:=R) (ρ1:=R) (d:=om) rfl).trans t1)
 have cn:∀ (x:Bool) (f:Fx),f R=.ok (wd [x],om,R)->bCnt 1 f R=.ok (.int (w.count x:Nat),om,R):=λ x f hf=>by
  have:bCnt 1 f R=.ok (.int (cntS (sgn x) (strW w).cps.toList:Nat),om,R):=by
   unfold bCnt
   show (match f R with | .ok (.str y,_,ρ1)=>_ | .ok _=>_ | .exc c=>_ | .no=>_)=_
   rw [hf]
   rfl
  rw [this,qfj]
 have k1:=zvf (neg:=false) (cn false (bC (.str "d")) rfl) (g:=bVar 2) (j:=(a:Int)) (e:=om) rfl
 have k2:=zvf (neg:=false) (cn true (bC (.str "r")) rfl) (g:=bVar 3) (j:=(b:Int)) (e:=om) rfl
 rw [h.1,decide_eq_true rfl] at k1
 rw [h.2,decide_eq_true rfl] at k2
 exact zxk rfl ((zqd v1).trans ((zwh t2).trans (zxl (zzo k1 (λ _=>k2) rfl))))
theorem qcl (h:∀ w∈ws,Wd a b w) (hab:a + b<=1000) (hl:ws.length<=1000):f_is_list_of_ways [bx a b c,wl ws]=.ok (.bl true,om,.non):=by
 have z:=sz
 let R:Rho:=[some (bx a b c,0),some (wl ws,0)]
 have e1:=zwj (n:=2) (f:=bVar 1) (elt:=zqg f_is_way (zqa (bVar 0) (zqa (bVar 2) (aNil)))) (enc:=wd) (q:=λ _=>.bl true) (ρ:=R) (ρ1:=R) (d:=0) ws rfl rfl (λ w hw=>zqh (xs:=[(bx a b c,0),(wd w,om)]) rfl (qet (h w hw) hab)) (by omega)
 have e2:=all_ok (g:=λ _=>true) e1
 rw [show (ws.all λ _=>true)=true by simp] at e2
 exact zxk rfl (zxl (zzo (f:=bUn (zqn "list") (bVar 1)) (a:=true) (ρ:=R) (ρ1:=R) (d:=om) rfl (λ _=>e2) rfl))
theorem zzw (h:∀ w∈ws,Wd a b w) (hab:a + b<=1000) (hl:ws.length<=1000) {R:Rho} (hR:bVar 1 R=.ok (wl ws,0,R)) (hn:R.length=2):zqw (bVar 1) 1 (asgN 2) zxt (zqg f_staircase_of_way (zqa (bVar 2) (aNil))) R=.ok (tb (ws.map stW),om,R):=by
 have z:=sz
 have e1:=zwj (n:=2) (f:=bVar 1) (elt:=zqg f_staircase_of_way (zqa (bVar 2) (aNil))) (enc:=wd) (q:=λ w=>il (stW w)) (ρ:=R) (ρ1:=R) (d:=0) ws hR hn (λ w hw=>zqh (xs:=[(wd w,om)]) (by
  refine zxb ?_
  unfold bVar
  rw [jc8 (by omega),hn]
  rfl) (qm6 w (by rw [(h w hw).len];omega))) (by omega)
 refine e1.trans ?_
 unfold tb
 rw [jd6]
 rfl
theorem zji (h:∀ w∈ws,Wd a b w) (hc:ws.length=c):Tab c a (ws.map stW):=⟨by rw [ja1];exact hc,λ r hr=>by obtain ⟨w,hw,rfl⟩:=jd4.mp hr;exact zml (h w hw)⟩
theorem zpc (h:∀ w∈ws,Wd a b w) (hl:ws.length=c) (ha:1<=a/\a<=6) (hb:1<=b/\b<=6) (hc:1<=c/\c<=6):f_are_ways [bx a b c,wl ws]=.ok (.bl (zkw c a b (ws.map stW)),om,.non):=by
 let R:Rho:=[some (bx a b c,0),some (wl ws,0)]
 have v1:zzq (zqg f_must_be_box (zqa (bVar 0) (aNil))) R=.nx R:=zyu (zqh (xs:=[(bx a b c,0)]) rfl (zwr (by unfold boxB;rw [decide_eq_true (by omega),decide_eq_true (by omega),decide_eq_true (by omega)];rfl)))
 have t1:=t_ok (zzb (zqh (F:=f_is_list_of_ways) (fa:=zqa (bVar 0) (zqa (bVar 1) aNil)) (ρ:=R) (xs:=[(bx a b c,0),(wl ws,0)]) rfl (qcl h (by omega) (by omega))))
 have k:=zqh (F:=f_are_stairs) (zqm (f:=bVar 0) (x:=bx a b c) (d:=0) (ρ:=R) rfl (zxb (zzw h (by omega) (by omega) rfl rfl))) (zyg (zji h hl) (by omega) (by omega) (by omega))
 exact zxk rfl ((zqd v1).trans ((zwh t1).trans (zxl k)))
theorem qim (h:∀ w∈ws,Wd a b w) (hl:ws.length=c) (ha:1<=a/\a<=6) (hb:1<=b/\b<=6) (hc:1<=c/\c<=6):f_pile_of_ways [bx a b c,wl ws]=if zkw c a b (ws.map stW)=true then .ok (tb (zxj (ws.map stW) a b),om,.non) else .exc 4:=by
 let R:Rho:=[some (bx a b c,0),some (wl ws,0)]
 have t1:=t_ok (zzb (zqh (F:=f_are_ways) (fa:=zqa (bVar 0) (zqa (bVar 1) aNil)) (ρ:=R) (xs:=[(bx a b c,0),(wl ws,0)]) rfl (zpc h hl ha hb hc)))
 by_cases hp:zkw c a b (ws.map stW)=true
 ·rw [if_pos hp]
  rw [hp] at t1
  have k:=zqh (F:=f_pile_of_stairs) (zqm (f:=bVar 0) (x:=bx a b c) (d:=0) (ρ:=R) rfl (zxb (zzw h (by omega) (by omega) rfl rfl))) (zho (zji h hl) (by omega) (by omega) (by omega) hp)
  exact zxk rfl ((zwh t1).trans (zxl k))
 ·rw [if_neg hp]
  have hp:zkw c a b (ws.map stW)=false:=by simpa using hp
  rw [hp] at t1
  exact zgv rfl (zfj ((if_t t1).trans rfl))
end
end QV
namespace K16
open PySem PySem.Spec PyProof.Rows L2 QQ
theorem zkt {α:Type}{x:Option α}{d:α} (h:x.isSome=true):x=some (x.getD d):=by
 cases x with
 | none=>cases h
 | some a=>rfl
def top (i:Nat):Stmt:=PySem.Challenge.pw_cornerpiles_k16_piles_of_ways.main.body.getD i (.Pass ⟨0,0,0,0⟩)
abbrev t0:Stmt:=top 14
def G0:List (Str×(Bool×Nat×Fn)):=[]
def S0:Sx:=⟨["thing"],zqc t0,[],[],G0,[],true,[0,1,2,3,4,5,6,7,8,9,10,11],[]⟩
abbrev b0:Fs:=QV.Xf_is_whole_number
abbrev F0:Fn:=QV.f_is_whole_number
theorem h0:zqq (denS 60 S0) (zqk t0)=some b0:=by kernel_rfl
abbrev t1:Stmt:=top 15
def G1:List (Str×(Bool×Nat×Fn)):=[("is_whole_number",(false,1,F0))]
def S1:Sx:=⟨["thing"],zqc t1,[],[],G1,[],true,[0,1,2,3,4,5,6,7,8,9,10,11],[]⟩
abbrev b1:Fs:=QV.Xf_is_box
abbrev F1:Fn:=QV.f_is_box
theorem h1:zqq (denS 60 S1) (zqk t1)=some b1:=by kernel_rfl
abbrev t2:Stmt:=top 16
def G2:List (Str×(Bool×Nat×Fn)):=[("is_box",(false,1,F1))]
def S2:Sx:=⟨["box"],zqc t2,[],[],G2,[],true,[0,1,2,3,4,5,6,7,8,9,10,11],[]⟩
abbrev b2:Fs:=QV.Xf_must_be_box
abbrev F2:Fn:=QV.f_must_be_box
theorem h2:zqq (denS 60 S2) (zqk t2)=some b2:=by kernel_rfl
abbrev t3:Stmt:=top 17
def G3:List (Str×(Bool×Nat×Fn)):=[("is_whole_number",(false,1,F0))]
def S3:Sx:=⟨["thing","columns","height"],zqc t3,[],[],G3,[],true,[0,1,2,3,4,5,6,7,8,9,10,11],[]⟩
abbrev b3:Fs:=QV.Xf_is_row_of_heights
abbrev F3:Fn:=QV.f_is_row_of_heights
theorem h3:zqq (denS 60 S3) (zqk t3)=some b3:=by kernel_rfl
abbrev t4:Stmt:=top 18
def G4:List (Str×(Bool×Nat×Fn)):=[]
def S4:Sx:=⟨["numbers"],zqc t4,[],[],G4,[],true,[0,1,2,3,4,5,6,7,8,9,10,11],[]⟩
abbrev b4:Fs:=QV.Xf_never_rises
abbrev F4:Fn:=QV.f_never_rises
theorem h4:zqq (denS 60 S4) (zqk t4)=some b4:=by kernel_rfl
abbrev t5:Stmt:=top 19
def G5:List (Str×(Bool×Nat×Fn)):=[]
def S5:Sx:=⟨["table","j"],zqc t5,[],[],G5,[],true,[0,1,2,3,4,5,6,7,8,9,10,11],[]⟩
abbrev b5:Fs:=QV.Xf_column_of
abbrev F5:Fn:=QV.f_column_of
theorem h5:zqq (denS 60 S5) (zqk t5)=some b5:=by kernel_rfl
abbrev t6:Stmt:=top 20
def G6:List (Str×(Bool×Nat×Fn)):=[("must_be_box",(false,1,F2)),("is_row_of_heights",(false,3,F3)),("never_rises",(false,1,F4)),("column_of",(false,2,F5))]
def S6:Sx:=⟨["box","thing","rows","columns","height"],zqc t6,[],[],G6,[],true,[0,1,2,3,4,5,6,7,8,9,10,11],[]⟩
abbrev b6:Fs:=QV.Xf_is_pile
abbrev F6:Fn:=QV.f_is_pile
theorem h6:zqq (denS 60 S6) (zqk t6)=some b6:=by kernel_rfl
abbrev t7:Stmt:=top 21
def G7:List (Str×(Bool×Nat×Fn)):=[]
def S7:Sx:=⟨["numbers","level"],zqc t7,[],[],G7,[],true,[0,1,2,3,4,5,6,7,8,9,10,11],[]⟩
abbrev b7:Fs:=QV.Xf_how_many_above
abbrev F7:Fn:=QV.f_how_many_above
theorem h7:zqq (denS 60 S7) (zqk t7)=some b7:=by kernel_rfl
abbrev t8:Stmt:=top 23
def G8:List (Str×(Bool×Nat×Fn)):=[("must_be_box",(false,1,F2)),("is_pile",(false,2,F6))]
def S8:Sx:=⟨["box","thing","rows","columns","height"],zqc t8,[],[],G8,[],true,[0,1,2,3,4,5,6,7,8,9,10,11],[]⟩
abbrev b8:Fs:=QV.Xf_are_stairs
abbrev F8:Fn:=QV.f_are_stairs
theorem h8:zqq (denS 60 S8) (zqk t8)=some b8:=by kernel_rfl
abbrev t9:Stmt:=top 24
def G9:List (Str×(Bool×Nat×Fn)):=[("column_of",(false,2,F5)),("how_many_above",(false,2,F7)),("are_stairs",(false,2,F8))]
def S9:Sx:=⟨["box","stairs","rows","columns","height","pile","i","numbers"],zqc t9,[],[],G9,[],true,[0,1,2,3,4,5,6,7,8,9,10,11],[]⟩
abbrev b9:Fs:=QV.Xf_pile_of_stairs
abbrev F9:Fn:=QV.f_pile_of_stairs
theorem h9:zqq (denS 60 S9) (zqk t9)=some b9:=by kernel_rfl
abbrev t10:Stmt:=top 26
def G10:List (Str×(Bool×Nat×Fn)):=[]
def S10:Sx:=⟨["way","numbers","reached","sign"],zqc t10,[],[],G10,[],true,[0,1,2,3,4,5,6,7,8,9,10,11],[]⟩
abbrev b10:Fs:=QV.Xf_staircase_of_way
abbrev F10:Fn:=QV.f_staircase_of_way
theorem h10:zqq (denS 60 S10) (zqk t10)=some b10:=by kernel_rfl
abbrev t11:Stmt:=top 27
def G11:List (Str×(Bool×Nat×Fn)):=[]
def S11:Sx:=⟨["box","thing","rows","columns","height"],zqc t11,[],[],G11,[],true,[0,1,2,3,4,5,6,7,8,9,10,11],[]⟩
abbrev b11:Fs:=QV.Xf_is_way
abbrev F11:Fn:=QV.f_is_way
theorem h11:zqq (denS 60 S11) (zqk t11)=some b11:=by kernel_rfl
abbrev t12:Stmt:=top 28
def G12:List (Str×(Bool×Nat×Fn)):=[("is_way",(false,2,F11))]
def S12:Sx:=⟨["box","thing"],zqc t12,[],[],G12,[],true,[0,1,2,3,4,5,6,7,8,9,10,11],[]⟩
abbrev b12:Fs:=QV.Xf_is_list_of_ways
abbrev F12:Fn:=QV.f_is_list_of_ways
theorem h12:zqq (denS 60 S12) (zqk t12)=some b12:=by kernel_rfl
abbrev t13:Stmt:=top 29
def G13:List (Str×(Bool×Nat×Fn)):=[("must_be_box",(false,1,F2)),("are_stairs",(false,2,F8)),("staircase_of_way",(false,1,F10)),("is_list_of_ways",(false,2,F12))]
def S13:Sx:=⟨["box","thing"],zqc t13,[],[],G13,[],true,[0,1,2,3,4,5,6,7,8,9,10,11],[]⟩
abbrev b13:Fs:=QV.Xf_are_ways
abbrev F13:Fn:=QV.f_are_ways
theorem h13:zqq (denS 60 S13) (zqk t13)=some b13:=by kernel_rfl
abbrev t14:Stmt:=top 30
def G14:List (Str×(Bool×Nat×Fn)):=[("pile_of_stairs",(false,2,F9)),("staircase_of_way",(false,1,F10)),("are_ways",(false,2,F13))]
def S14:Sx:=⟨["box","ways"],zqc t14,[],[],G14,[],true,[0,1,2,3,4,5,6,7,8,9,10,11],[]⟩
abbrev b14:Fs:=QV.Xf_pile_of_ways
abbrev F14:Fn:=QV.f_pile_of_ways
theorem h14:zqq (denS 60 S14) (zqk t14)=some b14:=by kernel_rfl
abbrev t15:Stmt:=top 32
def G15:List (Str×(Bool×Nat×Fn)):=[]
def S15:Sx:=⟨["script","k"],zqc t15,[],[],G15,[],true,[0,1,2,3,4,5,6,7,8,9,10,11],[]⟩
abbrev b15:Fs:=QV.Xb_cell_at
abbrev F15:Fn:=QV.b_cell_at
theorem h15:zqq (denS 60 S15) (zqk t15)=some b15:=by kernel_rfl
abbrev t16:Stmt:=top 33
def G16:List (Str×(Bool×Nat×Fn)):=[]
def S16:Sx:=⟨["cell","k","one"],zqc t16,[],[],G16,[],true,[0,1,2,3,4,5,6,7,8,9,10,11],[]⟩
abbrev b16:Fs:=QV.Xb_stir
abbrev F16:Fn:=QV.b_stir
theorem h16:zqq (denS 60 S16) (zqk t16)=some b16:=by kernel_rfl
abbrev t17:Stmt:=top 34
def G17:List (Str×(Bool×Nat×Fn)):=[("_law_stir",(false,2,F16))]
def S17:Sx:=⟨["cell","many","found","digits","k","number"],zqc t17,[],[],G17,[],true,[0,1,2,3,4,5,6,7,8,9,10,11],[]⟩
abbrev b17:Fs:=QV.Xb_numbers
abbrev F17:Fn:=QV.b_numbers
theorem h17:zqq (denS 60 S17) (zqk t17)=some b17:=by kernel_rfl
abbrev t18:Stmt:=top 35
def ql7:Fn:=λ _=>.no
def qqo:List (Str×(Bool×Nat×Fn)):=[("_law_alike",(false,2,ql7))]
def ql6:Sx:=⟨["found","due","one","other"],zqc t18,[],[],qqo,[],true,[0,1,2,3,4,5,6,7,8,9,10,11],[]⟩
def qly:Fs:=(zqq (denS 60 ql6) (zqk t18)).getD sNil
def qf5:Fn:=mkFn false 2 2 qly
theorem qqc:zqq (denS 60 ql6) (zqk t18)=some qly:=zkt (by decide +kernel)
def qqn:List (Str×(Bool×Nat×Fn)):=[("_law_alike",(false,2,qf5))]
def ql5:Sx:=⟨["found","due","one","other"],zqc t18,[],[],qqn,[],true,[0,1,2,3,4,5,6,7,8,9,10,11],[]⟩
def qlx:Fs:=(zqq (denS 60 ql5) (zqk t18)).getD sNil
def qf4:Fn:=mkFn false 2 2 qlx
theorem qqb:zqq (denS 60 ql5) (zqk t18)=some qlx:=zkt (by decide +kernel)
def qqm:List (Str×(Bool×Nat×Fn)):=[("_law_alike",(false,2,qf4))]
def ql4:Sx:=⟨["found","due","one","other"],zqc t18,[],[],qqm,[],true,[0,1,2,3,4,5,6,7,8,9,10,11],[]⟩
def qlw:Fs:=(zqq (denS 60 ql4) (zqk t18)).getD sNil
def qf3:Fn:=mkFn false 2 2 qlw
theorem qqa:zqq (denS 60 ql4) (zqk t18)=some qlw:=zkt (by decide +kernel)
def qql:List (Str×(Bool×Nat×Fn)):=[("_law_alike",(false,2,qf3))]
def qh7:Sx:=⟨["found","due","one","other"],zqc t18,[],[],qql,[],true,[0,1,2,3,4,5,6,7,8,9,10,11],[]⟩
def qlv:Fs:=(zqq (denS 60 qh7) (zqk t18)).getD sNil
def qh8:Fn:=mkFn false 2 2 qlv
theorem qp9:zqq (denS 60 qh7) (zqk t18)=some qlv:=zkt (by decide +kernel)
abbrev F18:Fn:=qh8
abbrev S18:Sx:=qh7
abbrev t19:Stmt:=top 36
def G19:List (Str×(Bool×Nat×Fn)):=[("_law_numbers",(false,2,F17))]
def S19:Sx:=⟨["cell","most","great","numbers"],zqc t19,[],[],G19,[],true,[0,1,2,3,4,5,6,7,8,9,10,11],[]⟩
abbrev b19:Fs:=QV.Xb_box
abbrev F19:Fn:=QV.b_box
theorem h19:zqq (denS 60 S19) (zqk t19)=some b19:=by kernel_rfl
abbrev t20:Stmt:=top 37
def G20:List (Str×(Bool×Nat×Fn)):=[("_law_numbers",(false,2,F17))]
def S20:Sx:=⟨["box","script","start","cell","numbers","pile","i","row","j","number","top"],zqc t20,[],[],G20,[],true,[0,1,2,3,4,5,6,7,8,9,10,11],[]⟩
abbrev b20:Fs:=QV.Xb_pile
abbrev F20:Fn:=QV.b_pile
theorem h20:zqq (denS 60 S20) (zqk t20)=some b20:=by kernel_rfl
abbrev t21:Stmt:=top 38
def G21:List (Str×(Bool×Nat×Fn)):=[]
def S21:Sx:=⟨["box","pile","found","k","staircase","row","many","height"],zqc t21,[],[],G21,[],true,[0,1,2,3,4,5,6,7,8,9,10,11],[]⟩
def b21:Fs:=(sSeq (sSet false 2 (zqb zqj (aNil)) [])
 (sSeq (zkj zxu (zqa (bBin zqe (bVar 0) (bC (.int 2))) (aNil)) (asgN 3) (sSeq (sSet false 4 (zqb zqj (aNil)) [])
 (sSeq (zwk (bVar 1) [1] (asgN 5) (sSeq (sSet false 6 (bC (.int 0)) [])
 (sSeq (zwk (bVar 5) [5] (asgN 7) (sSet false 6 (bBin zqf (bVar 6) (zqb zgm (zqa (bBin (zxq λ i j=>decide (j < i)) (bVar 7) (bVar 3)) (aNil)))) [6,7,3]))
 (sApp 4 (bVar 6) [6]))))
 (sApp 2 (bVar 4) [4]))))
 (zjc 2)))
def F21:Fn:=mkFn false 2 6 b21
theorem h21:zqq (denS 60 S21) (zqk t21)=some b21:=by kernel_rfl
abbrev t22:Stmt:=top 39
def G22:List (Str×(Bool×Nat×Fn)):=[]
def S22:Sx:=⟨["staircase","columns","found","place","column"],zqc t22,[],[],G22,[],true,[0,1,2,3,4,5,6,7,8,9,10,11],[]⟩
def b22:Fs:=(sSeq (sSet false 2 (bC (.str "")) [])
 (sSeq (sSet false 3 (bBin zzz (zqb zqu (zqa (bVar 0) (aNil))) (bC (.int 1))) [0])
 (sSeq (sSet false 4 (bC (.int 0)) [])
 (sSeq (qay (bT (bOrV (bBin (zxq λ i j=>decide (j<=i)) (bVar 3) (bC (.int 0))) (bBin (zxq λ i j=>decide (i < j)) (bVar 4) (bVar 1)))) (sIf (bT (zxp (bBin (zxq λ i j=>decide (j<=i)) (bVar 3) (bC (.int 0))) (bBin (opEq false) (bBin zqe (bVar 0) (bVar 3)) (bVar 4)))) (sSeq (sSet false 2 (bBin zqf (bVar 2) (bC (.str "d"))) [2])
 (sSet false 3 (bBin zzz (bVar 3) (bC (.int 1))) [3])) (sSeq (sSet false 2 (bBin zqf (bVar 2) (bC (.str "r"))) [2])
 (sSet false 4 (bBin zqf (bVar 4) (bC (.int 1))) [4]))))
 (zjc 2)))))
def F22:Fn:=mkFn false 2 3 b22
theorem h22:zqq (denS 60 S22) (zqk t22)=some b22:=by kernel_rfl
abbrev t23:Stmt:=top 40
def G23:List (Str×(Bool×Nat×Fn)):=[]
def S23:Sx:=⟨["box","far","some","at","one"],zqc t23,[],[],G23,[],true,[0,1,2,3,4,5,6,7,8,9,10,11],[]⟩
def b23:Fs:=(sSeq (sSet false 2 (zqb zqj (zqa (zqb zwq (zqa (bC (.int 0)) (zqa (bC (.int 1)) (zqa (bC (.int 1)) (aNil))))) (zqa (zqb zwq (zqa (bC (.int 1)) (zqa (bBin zzz (bC (.int 0)) (bVar 1)) (zqa (bC (.int 1)) (aNil))))) (zqa (zqb zwq (zqa (bC (.int 1)) (zqa (bC (.int 1)) (zqa (bUn zwi (bC (.int 1))) (aNil))))) (zqa (bSl (bVar 0) none (some (bC (.int 2)))) (zqa (bBin zqf (bVar 0) (zqb zwq (zqa (bC (.int 1)) (aNil)))) (zqa (zqb zvu (zqa (bVar 0) (aNil))) (zqa (zqb zwq (zqa (bC (.bl true)) (zqa (bC (.int 1)) (zqa (bC (.int 1)) (aNil))))) (zqa (zqb zwq (zqa (bC (.int 1)) (zqa (bC (.str "1")) (zqa (bC (.int 1)) (aNil))))) (zqa (bC .non) (aNil))))))))))) [1,0,0,0])
 (sSeq (sSet false 3 (bBin zxh (bVar 1) (bC (.int 3))) [1])
 (sSeq (zwk (zqb zwq (zqa (bC (.int 0)) (zqa (bBin zzz (bUn zwi (bC (.int 1))) (bVar 1)) (zqa (bC (.bl true)) (zqa (bC (.str "1")) (zqa (bC .non) (aNil))))))) [1] (asgN 4) (sApp 2 (bBin zqf (bBin zqf (bSl (bVar 0) none (some (bVar 3))) (zqb zwq (zqa (bVar 4) (aNil)))) (bSl (bVar 0) (some (bBin zqf (bVar 3) (bC (.int 1)))) none)) [0,4,0]))
 (sRet (bBin zqf (bVar 2) (zqb zqj (zqa (bC (.str "box")) (zqa (bC (.int 3)) (aNil)))))))))
def F23:Fn:=mkFn false 2 3 b23
theorem h23:zqq (denS 60 S23) (zqk t23)=some b23:=by kernel_rfl
abbrev t24:Stmt:=top 41
def G24:List (Str×(Bool×Nat×Fn)):=[]
def S24:Sx:=⟨["way","found","many","sign"],zqc t24,[],[],G24,[],true,[0,1,2,3,4,5,6,7,8,9,10,11],[]⟩
def b24:Fs:=(sSeq (sSet false 1 (zqb zqj (aNil)) [])
 (sSeq (sSet false 2 (bC (.int 0)) [])
 (sSeq (zwk (bVar 0) [0] (asgN 3) (sIf (bT (bBin (opEq false) (bVar 3) (bC (.str "r")))) (sSet false 2 (bBin zqf (bVar 2) (bC (.int 1))) [2]) (sApp 1 (bVar 2) [2])))
 (sRet (bUn opRv (bVar 1))))))
def F24:Fn:=mkFn false 1 3 b24
theorem h24:zqq (denS 60 S24) (zqk t24)=some b24:=by kernel_rfl
abbrev t25:Stmt:=top 42
def G25:List (Str×(Bool×Nat×Fn)):=[("_law_led",(false,1,F24))]
def S25:Sx:=⟨["box","thing","one","led","lower","upper"],zqc t25,[],[],G25,[],true,[0,1,2,3,4,5,6,7,8,9,10,11],[]⟩
def b25:Fs:=(sSeq (sIf (bT (bOrV (bUn zqy (bUn (zqn "list") (bVar 1))) (bBin (opEq true) (zqb zqu (zqa (bVar 1) (aNil))) (bBin zqe (bVar 0) (bC (.int 2)))))) (sRet (bC (.bl false))) sNil)
 (sSeq (zwk (bVar 1) [1] (asgN 2) (sSeq (sIf (bT (bOrV (bUn zqy (bUn (zqn "str") (bVar 2))) (bBin (opEq true) (zqw (bVar 2) 1 (asgN 6) (bT (bBin (opIn true) (bVar 6) (zqb zwq (zqa (bC (.str "d")) (zqa (bC (.str "r")) (aNil)))))) (bVar 6)) (zqb zqj (aNil))))) (sRet (bC (.bl false))) sNil)
 (sIf (bT (bOrV (bBin (opEq true) (zqb zqu (zqa (zqw (bVar 2) 1 (asgN 6) (bT (bBin (opEq false) (bVar 6) (bC (.str "d")))) (bVar 6)) (aNil))) (bBin zqe (bVar 0) (bC (.int 0)))) (bBin (opEq true) (zqb zqu (zqa (bVar 2) (aNil))) (bBin zqf (bBin zqe (bVar 0) (bC (.int 0))) (bBin zqe (bVar 0) (bC (.int 1))))))) (sRet (bC (.bl false))) sNil)))
 (sSeq (sSet false 3 (zqw (bVar 1) 1 (asgN 6) zxt (zqg F24 (zqa (bVar 6) (aNil)))) [1,1])
 (sSeq (zkm .zp (zqa (bVar 3) (zqa (bSl (bVar 3) (some (bC (.int 1))) none) (aNil))) [3,3] (asgT [4,5]) (sIf (bT (bBin (opEq true) (zwf zxu (zqa (bBin zqe (bVar 0) (bC (.int 0))) (aNil)) 1 (asgN 6) (bT (bBin (zxq λ i j=>decide (j < i)) (bBin zqe (bVar 5) (bVar 6)) (bBin zqe (bVar 4) (bVar 6)))) (bVar 6)) (zqb zqj (aNil)))) (sRet (bC (.bl false))) sNil))
 (sRet (bC (.bl true)))))))
def F25:Fn:=mkFn false 2 4 b25
theorem h25:zqq (denS 60 S25) (zqk t25)=some b25:=by kernel_rfl
abbrev t26:Stmt:=top 43
def G26:List (Str×(Bool×Nat×Fn)):=[]
def S26:Sx:=⟨["ways","way","number","found","k","at","ahead","behind","turned","some"],zqc t26,[],[],G26,[],true,[0,1,2,3,4,5,6,7,8,9,10,11],[]⟩
def b26:Fs:=(sSeq (sSet false 3 (zqb zvu (zqa (bVar 0) (aNil))) [0])
 (sSeq (sSet false 4 (bBin zxh (bVar 2) (zqb zqu (zqa (bVar 3) (aNil)))) [2,3])
 (sSeq (sSet false 5 (bBin zxh (bBin zwd (bVar 2) (bC (.int 10))) (bBin zzz (zqb zqu (zqa (bBin zqe (bVar 3) (bVar 4)) (aNil))) (bC (.int 1)))) [2,3,4])
 (sSeq (sSet false 6 (bSl (bBin zqe (bVar 3) (bVar 4)) none (some (bVar 5))) [3,4])
 (sSeq (sSet false 7 (bSl (bBin zqe (bVar 3) (bVar 4)) (some (bBin zqf (bVar 5) (bC (.int 1)))) none) [3,4])
 (sSeq (sSet false 8 (bBin zqf (bBin zqe (bBin zqe (bVar 3) (bVar 4)) (bBin zqf (bVar 5) (bC (.int 1)))) (bBin zqe (bBin zqe (bVar 3) (bVar 4)) (bVar 5))) [3,4,5,3,4,5])
 (sSeq (sSet false 9 (zqb zqj (zqa (bBin zqf (bBin zqf (bVar 6) (bVar 8)) (bSl (bBin zqe (bVar 3) (bVar 4)) (some (bBin zqf (bVar 5) (bC (.int 2)))) none)) (zqa (bBin zqf (bBin zqf (bVar 6) (bC (.str "r"))) (bVar 7)) (aNil)))) [6,8,3,4,6,7])
 (sSeq (sSet false 9 (bBin zqf (bVar 9) (zqb zqj (zqa (bBin zqf (bBin zqf (bVar 6) (bC (.str "d"))) (bVar 7)) (zqa (bBin zqf (bVar 6) (bVar 7)) (zqa (bBin zqf (bBin zqe (bVar 3) (bVar 4)) (bC (.str "r"))) (zqa (bBin zqf (bBin zqe (bVar 3) (bVar 4)) (bC (.str "d"))) (aNil))))))) [9,6,7,6,7,3,4,3,4])
 (sSeq (sSet false 9 (bBin zqf (bVar 9) (zqb zqj (zqa (bBin zqf (bBin zqf (bVar 6) (bC (.str "x"))) (bVar 7)) (zqa (bBin zqf (bBin zqf (bVar 6) (bC (.str "R"))) (bVar 7)) (aNil))))) [9,6,7,6,7])
 (sSeq (sSet false 9 (bBin zpk (bVar 9) (zqb zqj (zqa (bBin zqf (bC (.str " ")) (bBin zqe (bVar 3) (bVar 4))) (zqa (bBin zqf (bBin zqe (bVar 3) (bVar 4)) (bC (.str "\n"))) (zqa (bC (.str "")) (zqa (bUn opRv (bBin zqe (bVar 3) (bVar 4))) (zqa (bC .non) (zqa (zqb zqj (zqa (bBin zqe (bVar 3) (bVar 4)) (aNil))) (zqa (bC (.int 7)) (aNil)))))))))) [9,3,4,3,4,3,4,3,4])
 (sSeq (sIf (bT (bBin (zxq λ i j=>decide (i < j)) (bVar 1) (bC (.int 15)))) (qb9 3 4 (bBin zqe (bVar 9) (bVar 1)) [9,1]) sNil)
 (sSeq (sIf (bT (bBin (opEq false) (bVar 1) (bC (.int 15)))) (sSet false 3 (bBin zqf (bSl (bVar 3) none (some (bVar 4))) (bSl (bVar 3) (some (bBin zqf (bVar 4) (bC (.int 1)))) none)) [3,3]) sNil)
 (sSeq (sIf (bT (bBin (opEq false) (bVar 1) (bC (.int 16)))) (sSet false 3 (bBin zqf (bSl (bVar 3) none (some (bBin zqf (bVar 4) (bC (.int 1))))) (bSl (bVar 3) (some (bVar 4)) none)) [3,3]) sNil)
 (sSeq (sIf (bT (bBin (opEq false) (bVar 1) (bC (.int 17)))) (sSet false 3 (bUn opRv (bVar 3)) [3]) sNil)
 (sSeq (sIf (bT (bBin (opEq false) (bVar 1) (bC (.int 18)))) (sSet false 3 (zqb zbg (zqa (bVar 3) (aNil))) [3]) sNil)
 (zjc 3))))))))))))))))
def F26:Fn:=mkFn false 3 7 b26
theorem h26:zqq (denS 60 S26) (zqk t26)=some b26:=by kernel_rfl
abbrev t27:Stmt:=top 44
def G27:List (Str×(Bool×Nat×Fn)):=[]
def S27:Sx:=⟨["caught","found","other"],zqc t27,[],[],G27,[],true,[0,1,2,3,4,5,6,7,8,9,10,11],[]⟩
def b27:Fs:=(sSeq (sSet false 1 (zqb zqj (zqa (bUn (zwl [1]) (bVar 0)) (zqa (bUn (zwl [2]) (bVar 0)) (zqa (bUn (zwl [3]) (bVar 0)) (aNil))))) [0,0,0])
 (sSeq (sSet false 2 (bUn (zwl [10,6,7,5,11,9,8]) (bVar 0)) [0])
 (sRet (bBin zqf (bVar 1) (zqb zqj (zqa (bUn (zwl [4]) (bVar 0)) (zqa (bVar 2) (zqa (bUn (zwl [0]) (bVar 0)) (aNil)))))))))
def F27:Fn:=mkFn false 1 2 b27
theorem h27:zqq (denS 60 S27) (zqk t27)=some b27:=by kernel_rfl
abbrev t28:Stmt:=top 45
def G28:List (Str×(Bool×Nat×Fn)):=[("pile_of_ways",(false,2,F14)),("_law_kinds",(false,1,F27))]
def S28:Sx:=⟨["box","thing","caught","e"],zqc t28,[],[],G28,[],true,[0,1,2,3,4,5,6,7,8,9,10,11],[]⟩
def b28:Fs:=(sSeq (sSet false 2 (bC .non) [])
 (sSeq (sTry 0 2 3 [] (zzq (zqg F14 (zqa (bVar 0) (zqa (bVar 1) (aNil))))))
 (sRet (zqg F27 (zqa (bVar 2) (aNil))))))
def F28:Fn:=mkFn false 2 2 b28
theorem h28:zqq (denS 60 S28) (zqk t28)=some b28:=by kernel_rfl
abbrev t29:Stmt:=top 46
def G29:List (Str×(Bool×Nat×Fn)):=[("pile_of_ways",(false,2,F14)),("_law_cell_at",(false,2,F15)),("_law_alike",(false,2,F18)),("_law_box",(false,3,F19)),("_law_pile",(false,4,F20)),("_law_stairs",(false,2,F21)),("_law_way",(false,2,F22)),("_law_bad_boxes",(false,2,F23)),("_law_are_ways",(false,2,F25)),("_law_spoilt",(false,3,F26)),("_law_refused",(false,2,F28))]
def S29:Sx:=⟨["script","cell","box","pile","ways","handed","found","i","number","way","spoilt","kept","back","thing","bad"],zqc t29,[],[],G29,[],true,[0,1,2,3,4,5,6,7,8,9,10,11],[]⟩
def b29:Fs:=(sSeq (sSet false 1 (zqg F15 (zqa (bVar 0) (zqa (bC (.int 0)) (aNil)))) [0])
 (sSeq (sSet false 2 (zqg F19 (zqa (bVar 1) (zqa (bC (.int 4)) (zqa (bC (.int 6)) (aNil))))) [1])
 (sSeq (sSet false 3 (zqg F20 (zqa (bVar 2) (zqa (bVar 0) (zqa (bC (.int 3)) (zqa (zqg F15 (zqa (bVar 0) (zqa (bC (.int 1)) (aNil)))) (aNil)))))) [2,0,0])
 (sSeq (sSet false 4 (zqw (zqg F21 (zqa (bVar 2) (zqa (bVar 3) (aNil)))) 1 (asgN 15) zxt (zqg F22 (zqa (bVar 15) (zqa (bBin zqe (bVar 2) (bC (.int 1))) (aNil))))) [2,3,2,3,2])
 (sSeq (sSet false 5 (zqb zvu (zqa (bVar 4) (aNil))) [4])
 (sSeq (sSet false 6 (zqg F14 (zqa (bVar 2) (zqa (bVar 5) (aNil)))) [2,5])
 (sSeq (sIf (bT (bOrV (bUn zqy (zqg F18 (zqa (bVar 6) (zqa (bVar 3) (aNil))))) (bBin (opEq true) (bVar 5) (bVar 4)))) (sRet (bC (.bl false))) sNil)
 (sSeq (zkj zxu (zqa (zqb zqu (zqa (bVar 6) (aNil))) (aNil)) (asgN 7) (zgg 6 (bVar 7) (bVar 7)))
 (sSeq (sIf (bT (bBin (opEq true) (bVar 6) (zwf zxu (zqa (zqb zqu (zqa (bVar 3) (aNil))) (aNil)) 1 (asgN 15) zxt (bBin zqf (bBin zqe (bVar 3) (bVar 15)) (zqb zqj (zqa (bVar 15) (aNil))))))) (sRet (bC (.bl false))) sNil)
 (sSeq (sIf (bT (bUn zqy (zqg F18 (zqa (zqg F14 (zqa (bVar 2) (zqa (bVar 4) (aNil)))) (zqa (bVar 3) (aNil)))))) (sRet (bC (.bl false))) sNil)
 (sSeq (sSet false 8 (zqg F15 (zqa (bVar 0) (zqa (bC (.int 2)) (aNil)))) [0])
 (sSeq (zwk (zqb zqj (zqa (bBin zxh (bVar 8) (bC (.int 20))) (zqa (bBin zxh (bBin zwd (bVar 8) (bC (.int 20))) (bC (.int 20))) (aNil)))) [8,8] (asgN 9) (sSeq (sSet false 10 (zqg F26 (zqa (bVar 4) (zqa (bVar 9) (zqa (bBin zxh (bBin zwd (bVar 8) (bC (.int 400))) (bBin zjd (bC (.int 10)) (bC (.int 6)))) (aNil))))) [4,9,8])
 (sSeq (sSet false 11 (zqb zpf (zqa (bVar 10) (aNil))) [10])
 (sSeq (sIf (bT (zxp (bUn zqy (zqg F25 (zqa (bVar 2) (zqa (bVar 10) (aNil))))) (bBin (opEq true) (zqg F28 (zqa (bVar 2) (zqa (bVar 10) (aNil)))) (zqb zqj (zqa (bC (.bl false)) (zqa (bC (.bl false)) (zqa (bC (.bl false)) (zqa (bC (.bl true)) (zqa (bC (.bl false)) (zqa (bC (.bl true)) (aNil))))))))))) (sRet (bC (.bl false))) sNil)
 (sSeq (sIf (bT (bBin (opEq true) (zqb zpf (zqa (bVar 10) (aNil))) (bVar 11))) (sRet (bC (.bl false))) sNil)
 (sIf (bT (zqg F25 (zqa (bVar 2) (zqa (bVar 10) (aNil))))) (sSeq (sSet false 12 (zqg F21 (zqa (bVar 2) (zqa (zqg F14 (zqa (bVar 2) (zqa (bVar 10) (aNil)))) (aNil)))) [2,2,10])
 (sIf (bT (bBin (opEq true) (zqw (bVar 12) 1 (asgN 15) zxt (zqg F22 (zqa (bVar 15) (zqa (bBin zqe (bVar 2) (bC (.int 1))) (aNil))))) (bVar 10))) (sRet (bC (.bl false))) sNil)) sNil))))))
 (sSeq (zwk (zqb zqj (zqa (zqb zqj (aNil)) (zqa (bC .non) (zqa (bC (.str "ways")) (zqa (bC (.int 3)) (zqa (bC .emp) (zqa (zqb zbg (zqa (bVar 4) (aNil))) (zqa (bBin zxx (zqb zqj (zqa (bC (.str "")) (aNil))) (bBin zqe (bVar 2) (bC (.int 2)))) (zqa (bVar 3) (aNil)))))))))) [4,2,3] (asgN 13) (sIf (bT (bBin (opEq true) (zqg F28 (zqa (bVar 2) (zqa (bVar 13) (aNil)))) (zqb zqj (zqa (bC (.bl false)) (zqa (bC (.bl false)) (zqa (bC (.bl false)) (zqa (bC (.bl true)) (zqa (bC (.bl false)) (zqa (bC (.bl true)) (aNil)))))))))) (sRet (bC (.bl false))) sNil))
 (sSeq (zwk (zqg F23 (zqa (bVar 2) (zqa (bBin zxh (bVar 1) (bBin zjd (bC (.int 10)) (bC (.int 30)))) (aNil)))) [2,1] (asgN 14) (zwk (zqb zqj (zqa (bVar 4) (zqa (bC (.int 3)) (aNil)))) [4] (asgN 13) (sIf (bT (bBin (opEq true) (zqg F28 (zqa (bVar 14) (zqa (bVar 13) (aNil)))) (zqb zqj (zqa (bC (.bl true)) (zqa (bC (.bl false)) (zqa (bC (.bl false)) (zqa (bC (.bl false)) (zqa (bC (.bl false)) (zqa (bC (.bl true)) (aNil)))))))))) (sRet (bC (.bl false))) sNil)))
 (sRet (bC (.bl true)))))))))))))))))
def F29:Fn:=mkFn false 1 14 b29
theorem h29:zqq (denS 60 S29) (zqk t29)=some b29:=by kernel_rfl
theorem qh0:qly=(sSeq (sIf (bT (bUn (zqn "int") (bVar 1))) (sRet (zxp (bUn (zqn "int") (bVar 0)) (zxp (bUn zqy (bUn (zqn "bool") (bVar 0))) (bBin (opEq false) (bVar 0) (bVar 1))))) sNil)
 (sSeq (sIf (bT (bUn (zqn "str") (bVar 1))) (sRet (zxp (bUn (zqn "str") (bVar 0)) (bBin (opEq false) (bVar 0) (bVar 1)))) sNil)
 (sSeq (sIf (bT (bOrV (bBin (opEq true) (bUn (zqn "tuple") (bVar 1)) (bUn (zqn "tuple") (bVar 0))) (bBin (opEq true) (bUn (zqn "list") (bVar 1)) (bUn (zqn "list") (bVar 0))))) (sRet (bC (.bl false))) sNil)
 (sSeq (sIf (bT (bBin (opEq true) (zqb zqu (zqa (bVar 0) (aNil))) (zqb zqu (zqa (bVar 1) (aNil))))) (sRet (bC (.bl false))) sNil)
 (sSeq (zkm .zp (zqa (bVar 0) (zqa (bVar 1) (aNil))) [0,1] (asgT [2,3]) (sIf (bT (bUn zqy (zqg ql7 (zqa (bVar 2) (zqa (bVar 3) (aNil)))))) (sRet (bC (.bl false))) sNil))
 (sRet (bC (.bl true)))))))):=by kernel_rfl
theorem qhz:qlx=(sSeq (sIf (bT (bUn (zqn "int") (bVar 1))) (sRet (zxp (bUn (zqn "int") (bVar 0)) (zxp (bUn zqy (bUn (zqn "bool") (bVar 0))) (bBin (opEq false) (bVar 0) (bVar 1))))) sNil)
 (sSeq (sIf (bT (bUn (zqn "str") (bVar 1))) (sRet (zxp (bUn (zqn "str") (bVar 0)) (bBin (opEq false) (bVar 0) (bVar 1)))) sNil)
 (sSeq (sIf (bT (bOrV (bBin (opEq true) (bUn (zqn "tuple") (bVar 1)) (bUn (zqn "tuple") (bVar 0))) (bBin (opEq true) (bUn (zqn "list") (bVar 1)) (bUn (zqn "list") (bVar 0))))) (sRet (bC (.bl false))) sNil)
 (sSeq (sIf (bT (bBin (opEq true) (zqb zqu (zqa (bVar 0) (aNil))) (zqb zqu (zqa (bVar 1) (aNil))))) (sRet (bC (.bl false))) sNil)
 (sSeq (zkm .zp (zqa (bVar 0) (zqa (bVar 1) (aNil))) [0,1] (asgT [2,3]) (sIf (bT (bUn zqy (zqg qf5 (zqa (bVar 2) (zqa (bVar 3) (aNil)))))) (sRet (bC (.bl false))) sNil))
 (sRet (bC (.bl true)))))))):=by kernel_rfl
theorem qhy:qlw=(sSeq (sIf (bT (bUn (zqn "int") (bVar 1))) (sRet (zxp (bUn (zqn "int") (bVar 0)) (zxp (bUn zqy (bUn (zqn "bool") (bVar 0))) (bBin (opEq false) (bVar 0) (bVar 1))))) sNil)
 (sSeq (sIf (bT (bUn (zqn "str") (bVar 1))) (sRet (zxp (bUn (zqn "str") (bVar 0)) (bBin (opEq false) (bVar 0) (bVar 1)))) sNil)
 (sSeq (sIf (bT (bOrV (bBin (opEq true) (bUn (zqn "tuple") (bVar 1)) (bUn (zqn "tuple") (bVar 0))) (bBin (opEq true) (bUn (zqn "list") (bVar 1)) (bUn (zqn "list") (bVar 0))))) (sRet (bC (.bl false))) sNil)
 (sSeq (sIf (bT (bBin (opEq true) (zqb zqu (zqa (bVar 0) (aNil))) (zqb zqu (zqa (bVar 1) (aNil))))) (sRet (bC (.bl false))) sNil)
 (sSeq (zkm .zp (zqa (bVar 0) (zqa (bVar 1) (aNil))) [0,1] (asgT [2,3]) (sIf (bT (bUn zqy (zqg qf4 (zqa (bVar 2) (zqa (bVar 3) (aNil)))))) (sRet (bC (.bl false))) sNil))
 (sRet (bC (.bl true)))))))):=by kernel_rfl
theorem qhx:qlv=(sSeq (sIf (bT (bUn (zqn "int") (bVar 1))) (sRet (zxp (bUn (zqn "int") (bVar 0)) (zxp (bUn zqy (bUn (zqn "bool") (bVar 0))) (bBin (opEq false) (bVar 0) (bVar 1))))) sNil)
 (sSeq (sIf (bT (bUn (zqn "str") (bVar 1))) (sRet (zxp (bUn (zqn "str") (bVar 0)) (bBin (opEq false) (bVar 0) (bVar 1)))) sNil)
 (sSeq (sIf (bT (bOrV (bBin (opEq true) (bUn (zqn "tuple") (bVar 1)) (bUn (zqn "tuple") (bVar 0))) (bBin (opEq true) (bUn (zqn "list") (bVar 1)) (bUn (zqn "list") (bVar 0))))) (sRet (bC (.bl false))) sNil)
 (sSeq (sIf (bT (bBin (opEq true) (zqb zqu (zqa (bVar 0) (aNil))) (zqb zqu (zqa (bVar 1) (aNil))))) (sRet (bC (.bl false))) sNil)
 (sSeq (zkm .zp (zqa (bVar 0) (zqa (bVar 1) (aNil))) [0,1] (asgT [2,3]) (sIf (bT (bUn zqy (zqg qf3 (zqa (bVar 2) (zqa (bVar 3) (aNil)))))) (sRet (bC (.bl false))) sNil))
 (sRet (bC (.bl true)))))))):=by kernel_rfl
open PySem PySem.Spec PyProof.Rows L2 QQ QV
theorem qol {neg:Bool}{zs:List PV}{d e:Nat}:opEq neg (.lst zs) d (.lst []) e=some (.bl (neg^^decide (zs=[])),om):=by
 cases zs with
 | nil=>cases neg <;> rfl
 | cons z zs=>
  rw [decide_eq_false (λ h=>nomatch h)]
  unfold opEq
  have e2:toD 20 (.lst [])=some (.list []):=rfl
  rw [e2]
  have e1:toD 20 (.lst (z::zs))=none\/∃ a l,toD 20 (.lst (z::zs))=some (.list (a::l)):=by
   show ((match toD 19 z,toDL (toD 19) zs with | some a,some b=>some (a::b) | _,_=>none).map PyData.list)=none\/∃ a l,((match toD 19 z,toDL (toD 19) zs with | some a,some b=>some (a::b) | _,_=>none).map PyData.list)=some (.list (a::l))
   cases toD 19 z with
   | none=>exact .inl rfl
   | some a=>
    cases toDL (toD 19) zs with
    | none=>exact .inl rfl
    | some l=>exact .inr ⟨a,l,rfl⟩
  rcases e1 with e1 | ⟨a,l,e1⟩
  ·rw [e1]
   dsimp only
   rw [if_neg (by unfold zki;exact jc5),if_pos (by rw [jb1,List.length_nil];omega)]
  ·rw [e1]
   dsimp only
   rw [PyData.eqv,PyData.eqvAll]
def badC (c:Nat):Bool:=!(c == 100 || c == 114)
theorem qjg:∀ L:List Nat,L.count 100 + L.count 114 + (L.filter badC).length=L.length
 | []=>rfl
 | c::L=>by
  have ih:=qjg L
  rw [jd1,jd1,jb1]
  by_cases h1:c=100
  ·subst h1
   rw [je5 (by decide)]
   simp
   omega
  ·by_cases h2:c=114
   ·subst h2
    rw [je5 (by decide)]
    simp
    omega
   ·rw [jg0 (by unfold badC;simp [h1,h2]),jb1]
    simp [h1,h2]
    omega
theorem zhm:∀ L:List Nat,L.filter badC=[]->∃ w:List Bool,L=w.map sgn
 | [],_=>⟨[],rfl⟩
 | c::L,h=>by
  by_cases h1:c=100
  ·subst h1
   rw [je5 (by decide)] at h
   obtain ⟨w,rfl⟩:=zhm L h
   exact ⟨false::w,rfl⟩
  ·by_cases h2:c=114
   ·subst h2
    rw [je5 (by decide)] at h
    obtain ⟨w,rfl⟩:=zhm L h
    exact ⟨true::w,rfl⟩
   ·rw [jg0 (by unfold badC;simp [h1,h2])] at h
    cases h
def cod (z:Str):List Nat:=z.cps.toList
def wB (a b:Nat):PV->Bool
 | .str z=>decide (z.length=a + b) && (decide ((cod z).count 100=a) && decide ((cod z).count 114=b))
 | _=>false
theorem zyv (z:Str):(cod z).length=z.length:=by unfold cod;rw [je9];rfl
theorem qm7 {z:Str}{w:List Bool} (h:cod z=w.map sgn):z=strW w:=by
 unfold cod at h
 unfold strW
 rw [<- h]
theorem qjd {a b:Nat}{y:PV} (h:wB a b y=true):∃ w,y=wd w/\Wd a b w:=by
 cases y with
 | str z=>
  unfold wB at h
  rw [ja4,ja4,decide_eq_true_iff,decide_eq_true_iff,decide_eq_true_iff] at h
  have t:=qjg (cod z)
  rw [zyv] at t
  obtain ⟨w,hw⟩:=zhm (cod z) (jj5.mp (by omega))
  have e:=qm7 hw
  refine ⟨w,by rw [e];rfl,?_⟩
  have c0:=qfj false w
  have c1:=qfj true w
  rw [<- e] at c0 c1
  exact ⟨c0.symm.trans h.2.1,c1.symm.trans h.2.2⟩
 | _=>cases h
theorem qpm {a b:Nat}{w:List Bool} (h:Wd a b w):wB a b (wd w)=true:=by
 have c0:(cod (strW w)).count 100=w.count false:=qfj false w
 have c1:(cod (strW w)).count 114=w.count true:=qfj true w
 show (decide ((strW w).length=a + b) && (decide ((cod (strW w)).count 100=a) && decide ((cod (strW w)).count 114=b)))=true
 rw [decide_eq_true (by rw [zwv];exact h.len),decide_eq_true (c0.trans h.1),decide_eq_true (c1.trans h.2)]
 rfl
def Wk (y:PV):Prop:=okE 10 y=true/\∀ z,y=.str z->z.length<=1000/\zwy z=true
section
variable {a b c:Nat}
theorem qac {f:Fx}{ρ ρ1:Rho}{z:Str}{d:Nat} (h:f ρ=.ok (.str z,d,ρ1)) (hl:z.length<=1000):zqb zqu (zqa f aNil) ρ=.ok (.int (z.length:Nat),om,ρ1):=by
 have s:=sz
 refine zxd (zxb h) ?_
 show (if z.length<=sizeLine then some (PV.int (z.length:Nat),om) else none)=_
 rw [if_pos (by omega)]
theorem qcj {y:PV} (hy:Wk y):f_is_way [bx a b c,y]=.ok (.bl (wB a b y),om,.non):=by
 let R:Rho:=[some (bx a b c,0),some (y,dv y),some (.int (a:Int),om),some (.int (b:Int),om),some (.int (c:Int),om)]
 have v1:sUnp (asgT [2,3,4]) (bVar 0) [0] [some (bx a b c,0),some (y,dv y),none,none,none]=.nx R:=rfl
 cases y with
 | str z=>
  have hl:=(hy.2 z rfl).1
  have ln:=qac (f:=bVar 1) (ρ:=R) (ρ1:=R) (z:=z) (d:=om) rfl hl
  have t1:=zvf (neg:=true) ln (zwn (f:=bVar 2) (g:=bVar 3) (i:=(a:Int)) (j:=(b:Int)) (d:=om) (e:=om) (ρ2:=R) rfl rfl)
  have t2:=t_ok ((orF (f:=bUn zqy (bUn (zqn "str") (bVar 1))) (ρ:=R) (ρ1:=R) (d:=om) rfl).trans t1)
  by_cases h:z.length=a + b
  ·rw [decide_eq_true (show ((z.length:Nat):Int)=(a:Int) + b by omega)] at t2
   have k1:=zvf (neg:=false) (f:=bCnt 1 (bC (.str "d"))) (ρ:=R) (ρ1:=R) (i:=((cod z).count 100:Nat)) (d:=om) rfl (g:=bVar 2) (j:=(a:Int)) (e:=om) rfl
   have k2:=zvf (neg:=false) (f:=bCnt 1 (bC (.str "r"))) (ρ:=R) (ρ1:=R) (i:=((cod z).count 114:Nat)) (d:=om) rfl (g:=bVar 3) (j:=(b:Int)) (e:=om) rfl
   rw [jn8] at k1 k2
   have e1:decide ((((cod z).count 100:Nat):Int)=(a:Int))=decide ((cod z).count 100=a):=by rw [decide_eq_decide];omega
   have e2:decide ((((cod z).count 114:Nat):Int)=(b:Int))=decide ((cod z).count 114=b):=by rw [decide_eq_decide];omega
   rw [e1] at k1
   rw [e2] at k2
   have ew:wB a b (.str z)=(decide ((cod z).count 100=a) && decide ((cod z).count 114=b)):=by
    show (decide (z.length=a + b) && _)=_
    rw [decide_eq_true h,jm1]
   rw [ew]
   exact zxk rfl ((zqd v1).trans ((zwh t2).trans (zxl (zzo k1 (λ _=>k2) rfl))))
  ·rw [decide_eq_false (show ¬ ((z.length:Nat):Int)=(a:Int) + b by omega)] at t2
   have ew:wB a b (.str z)=false:=by
    show (decide (z.length=a + b) && _)=_
    rw [decide_eq_false h,je6]
   rw [ew]
   exact zxk rfl ((zqd v1).trans (zxz ((if_t t2).trans rfl)))
 | scr _=>cases hy.1
 | exn _=>cases hy.1
 | dct _=>cases hy.1
 | dko=>cases hy.1
 | _=>exact zxk rfl ((zqd v1).trans (zxz ((if_t (t_ok (d:=om) (zko (a:=true) (b:=false) rfl (λ e=>nomatch e) rfl))).trans rfl)))
theorem qad {xs:List PV} (hx:∀ y∈xs,Wk y) (hl:xs.length<=1000):f_is_list_of_ways [bx a b c,.lst xs]=.ok (.bl (xs.all (wB a b)),om,.non):=by
 let R:Rho:=[some (bx a b c,0),some (.lst xs,0)]
 have e2:=zfp (n:=2) (f:=bVar 1) (elt:=zqg f_is_way (zqa (bVar 0) (zqa (bVar 2) (aNil)))) (ρ:=R) (ρ1:=R) (d:=0) (g:=wB a b) xs rfl rfl (λ y hy=>zqh (xs:=[(bx a b c,0),(y,dv y)]) rfl (qcj (hx y hy))) hl
 exact zxk rfl (zxl (zzo (f:=bUn (zqn "list") (bVar 1)) (a:=true) (ρ:=R) (ρ1:=R) (d:=om) rfl (λ _=>e2) rfl))
theorem zjh:∀ {xs:List PV},xs.all (wB a b)=true->∃ ws:List (List Bool),xs=ws.map wd/\∀ w∈ws,Wd a b w
 | [],_=>⟨[],rfl,λ _ z=>nomatch z⟩
 | y::ys,h=>by
  rw [jf4,ja4] at h
  obtain ⟨ws,rfl,hw⟩:=zjh h.2
  obtain ⟨w,rfl,h1⟩:=qjd h.1
  refine ⟨w::ws,rfl,λ v hv=>?_⟩
  rcases jb0.mp hv with rfl | hv
  ·exact h1
  ·exact hw v hv
def due (a b c:Nat):PV->Bool
 | .lst xs=>decide (xs.length=c) && (xs.all (wB a b) && zkw c a b (xs.map λ y=>match y with
  | .str z=>stW ((cod z).map λ n=>n == 114)
  | _=>[]))
 | _=>false
theorem qjw (w:List Bool):((cod (strW w)).map λ n=>n == 114)=w:=by
 show ((w.map sgn).map λ n=>n == 114)=w
 rw [jd6]
 refine (jg5 λ b _=>?_).trans (jo2 w)
 cases b <;> rfl
theorem zbt {ws:List (List Bool)} (hw:∀ w∈ws,Wd a b w):due a b c (wl ws)=(decide (ws.length=c) && zkw c a b (ws.map stW)):=by
 have e1:(ws.map wd).all (wB a b)=true:=jb9.mpr λ y hy=>by
  obtain ⟨w,h,rfl⟩:=jd4.mp hy
  exact qpm (hw w h)
 show (decide ((ws.map wd).length=c) && ((ws.map wd).all (wB a b) && zkw c a b ((ws.map wd).map _)))=_
 rw [ja1,e1,jm1,jd6]
 congr 2
 exact jg5 λ w _=>congrArg stW (qjw w)
theorem qlz {x:PV} (hx:okE 12 x=true) (hk:∀ xs,x=.lst xs->∀ y∈xs,Wk y) (ha:1<=a/\a<=6) (hb:1<=b/\b<=6) (hc:1<=c/\c<=6):f_are_ways [bx a b c,x]=.ok (.bl (due a b c x),om,.non):=by
 let R:Rho:=[some (bx a b c,0),some (x,dv x)]
 have v1:zzq (zqg f_must_be_box (zqa (bVar 0) (aNil))) R=.nx R:=zyu (zqh (xs:=[(bx a b c,0)]) rfl (zwr (zft ha.1 hb.1 hc.1)))
 have no:f_is_list_of_ways [bx a b c,x]=.ok (.bl false,om,.non)->due a b c x=false->f_are_ways [bx a b c,x]=.ok (.bl (due a b c x),om,.non):=λ h e=>by
  have t1:=t_ok (zzb (zqh (F:=f_is_list_of_ways) (fa:=zqa (bVar 0) (zqa (bVar 1) aNil)) (ρ:=R) (xs:=[(bx a b c,0),(x,dv x)]) rfl h))
  rw [e]
  exact zxk rfl ((zqd v1).trans (zxz ((if_t t1).trans rfl)))
 cases x with
 | lst xs=>
  have hl:=qad (a:=a) (b:=b) (c:=c) (hk xs rfl) (zzx hx).1
  cases hw:xs.all (wB a b) with
  | false=>
   rw [hw] at hl
   refine no hl ?_
   show (decide _ && (xs.all (wB a b) && _))=false
   rw [hw,je6,jf7]
  | true=>
   obtain ⟨ws,rfl,hws⟩:=zjh hw
   have ed:=zbt (c:=c) hws
   have lx:=(zzx hx).1
   rw [ja1] at lx
   by_cases h:ws.length=c
   ·have:=zpc hws h ha hb hc
    rw [show due a b c (.lst (ws.map wd))=zkw c a b (ws.map stW) from ed.trans (by rw [decide_eq_true h,jm1])]
    exact this
   ·rw [show due a b c (.lst (ws.map wd))=false from ed.trans (by rw [decide_eq_false h,je6])]
    have t1:=t_ok (zzb (zqh (F:=f_is_list_of_ways) (fa:=zqa (bVar 0) (zqa (bVar 1) aNil)) (ρ:=R) (xs:=[(bx a b c,0),(.lst (ws.map wd),0)]) rfl hl))
    rw [hw] at t1
    have st:f_are_stairs [bx a b c,tb (ws.map stW)]=.ok (.bl false,om,.non):=by
     let Q:Rho:=[some (bx a b c,0),some (tb (ws.map stW),0),some (.int (a:Int),om),some (.int (b:Int),om),some (.int (c:Int),om)]
     have w1:zzq (zqg f_must_be_box (zqa (bVar 0) (aNil))) [some (bx a b c,0),some (tb (ws.map stW),0),none,none,none]=.nx [some (bx a b c,0),some (tb (ws.map stW),0),none,none,none]:=zyu (zqh (xs:=[(bx a b c,0)]) rfl (zwr (zft ha.1 hb.1 hc.1)))
     have np:f_is_pile [bx c a b,tb (ws.map stW)]=.ok (.bl false,om,.non):=qdt (n:=3) (zft hc.1 ha.1 hb.1) (zbh (by rw [ja1,ja1];exact lx) λ y hy=>by
      obtain ⟨r,hr,rfl⟩:=jd4.mp hy
      obtain ⟨w,hm,rfl⟩:=jd4.mp hr
      exact qoj (n:=0) (by rw [zml (hws w hm)];omega)) (qgq (by rw [ja1,ja1];omega))
     exact zxk rfl ((zqd w1).trans ((zqd (ρ1:=Q) rfl).trans (zxl (zqh (F:=f_is_pile) (xs:=[(bx c a b,om),(tb (ws.map stW),0)]) rfl np))))
    have k:=zqh (F:=f_are_stairs) (zqm (f:=bVar 0) (x:=bx a b c) (d:=0) (ρ:=R) rfl (zxb (zzw hws (by omega) lx rfl rfl))) st
    exact zxk rfl ((zqd v1).trans ((zwh t1).trans (zxl k)))
 | scr _=>cases hx
 | exn _=>cases hx
 | dct _=>cases hx
 | dko=>cases hx
 | _=>exact no (zxk rfl (zxl (zzo (a:=false) (b:=false) (d:=om) rfl (λ e=>nomatch e) rfl))) rfl
end
def sg (c:Nat):PV:=.str ⟨#[c]⟩
def chk (r:Option (PV×Nat)) (b:Bool):Bool:=match r with
 | some (.bl x,d)=>(x == b) && (d == om)
 | _=>false
theorem qi9 {r:Option (PV×Nat)}{b:Bool} (h:chk r b=true):r=some (.bl b,om):=by
 unfold chk at h
 split at h
 ·rw [ja4,beq_iff_eq,beq_iff_eq] at h
  rw [h.1,h.2]
 ·cases h
theorem in_c:∀ c,c < 128->chk (opIn true (sg c) om (.tup [.str "d",.str "r"]) om) (badC c)=true:=by decide +kernel
theorem eq_c:∀ c,c < 128->chk (opEq false (sg c) om (.str "d") om) (c == 100)=true:=by decide +kernel
theorem qbr {n:Nat}{f:Fx}{test:Fb}{p:Nat->Bool}{ρ:Rho}{z:Str}{d:Nat} (hf:f ρ=.ok (.str z,d,ρ)) (hn:ρ.length=n) (ha:zwy z=true) (hl:z.length<=1000) (ht:∀ c,c < 128->test (ρ++[some (sg c,om)])=.ok (p c,ρ++[some (sg c,om)])):zqw f 1 (asgN n) test (bVar n) ρ=.ok (.lst (((cod z).filter p).map sg),om,ρ):=by
 have s:=sz
 have hc:∀ c∈cod z,c < 128:=λ c hc=>by
  unfold zwy at ha
  rw [<- jh8,jb9] at ha
  exact of_decide_eq_true (ha c hc)
 unfold zqw
 rw [hf]
 dsimp only
 rw [if_pos ha]
 have es:QQ.signs z=(cod z).map sg:=rfl
 rw [es,zzl (enc:=sg) (p:=p) (q:=sg) (e:=λ _=>om) (cod z) ρ [] hn (λ c h=>ht c (hc c h)) (λ c _ _=>by
  unfold bVar
  rw [jc8 (by omega),hn,jk3]
  rfl) (by rw [zyv];show 0 + z.length<=_;omega)]
 show zvk _ ρ=_
 rw [jg1]
 unfold zvk
 rw [zzp,jd6]
 rfl
def u2:Fx:=bOrV (bUn zqy (bUn (zqn "str") (bVar 2))) (bBin (opEq true) (zqw (bVar 2) 1 (asgN 6) (bT (bBin (opIn true) (bVar 6) (zqb zwq (zqa (bC (.str "d")) (zqa (bC (.str "r")) (aNil)))))) (bVar 6)) (zqb zqj (aNil)))
def u3:Fx:=bOrV (bBin (opEq true) (zqb zqu (zqa (zqw (bVar 2) 1 (asgN 6) (bT (bBin (opEq false) (bVar 6) (bC (.str "d")))) (bVar 6)) (aNil))) (bBin zqe (bVar 0) (bC (.int 0)))) (bBin (opEq true) (zqb zqu (zqa (bVar 2) (aNil))) (bBin zqf (bBin zqe (bVar 0) (bC (.int 0))) (bBin zqe (bVar 0) (bC (.int 1)))))
def u1:Fs:=sSeq (sIf (bT u2) (sRet (bC (.bl false))) sNil) (sIf (bT u3) (sRet (bC (.bl false))) sNil)
def zT:Fx:=bBin (opEq true) (zwf zxu (zqa (bBin zqe (bVar 0) (bC (.int 0))) (aNil)) 1 (asgN 6) (bT (bBin (zxq λ i j=>decide (j < i)) (bBin zqe (bVar 5) (bVar 6)) (bBin zqe (bVar 4) (bVar 6)))) (bVar 6)) (zqb zqj (aNil))
theorem qpf:b25=(sSeq (sIf (bT (bOrV (bUn zqy (bUn (zqn "list") (bVar 1))) (bBin (opEq true) (zqb zqu (zqa (bVar 1) (aNil))) (bBin zqe (bVar 0) (bC (.int 2)))))) (sRet (bC (.bl false))) sNil)
 (sSeq (zwk (bVar 1) [1] (asgN 2) u1)
 (sSeq (sSet false 3 (zqw (bVar 1) 1 (asgN 6) zxt (zqg F24 (zqa (bVar 6) (aNil)))) [1,1])
 (sSeq (zkm .zp (zqa (bVar 3) (zqa (bSl (bVar 3) (some (bC (.int 1))) none) (aNil))) [3,3] (asgT [4,5]) (sIf (bT zT) (sRet (bC (.bl false))) sNil))
 (sRet (bC (.bl true))))))):=rfl
theorem qon (w:List Bool) (hw:w.length<=1000):F24 [wd w]=.ok (il (stW w),om,.non):=by
 have z:=sz
 let R (acc:List Nat) (m:Nat) (s3:QQ.Slot):Rho:=[some (wd w,om),some (il (acc.map λ (n:Nat)=>(n:Int)),om),some (.int (m:Int),om),s3]
 have v1:sSet false 1 (zqb zqj (aNil)) [] [some (wd w,om),none,none,none]=.nx [some (wd w,om),some (il [],om),none,none]:=rfl
 have v2:sSet false 2 (bC (.int 0)) [] [some (wd w,om),some (il [],om),none,none]=.nx (R [] 0 none):=rfl
 obtain ⟨ρ',v3,s3,rfl⟩:=qbi (f:=bVar 0) (vs:=[0]) (asg:=asgN 3) (body:=sIf (bT (bBin (opEq false) (bVar 3) (bC (.str "r")))) (sSet false 2 (bBin zqf (bVar 2) (bC (.int 1))) [2]) (sApp 1 (bVar 2) [2])) (ρ:=R [] 0 none) (w:=w) (λ n ρ=>∃ s3,ρ=R (pos 0 (w.take n)) (rN w n) s3) rfl ⟨none,rfl⟩ (by
  rintro n x ρ hx ⟨s3,rfl⟩
  have es:w.take (n + 1)=w.take n++[x]:=by rw [jn9,hx];rfl
  have er:rN w (n + 1)=rN w n + [x].count true:=by unfold rN;rw [es,jj9]
  let A:=pos 0 (w.take n)
  let m:=rN w n
  cases x with
  | true=>
   refine ⟨R A m (some (wd [true],om)),R A (m + 1) (some (wd [true],om)),rfl,?_,some (wd [true],om),?_⟩
   ·have t1:bT (bBin (opEq false) (bVar 3) (bC (.str "r"))) (R A m (some (wd [true],om)))=.ok (true,R A m (some (wd [true],om))):=by kernel_rfl
    exact (if_t t1).trans rfl
   ·rw [es,zym,er]
    show R A (m + 1) _=R (A++[]) (m + 1) _
    rw [jf2]
  | false=>
   refine ⟨R A m (some (wd [false],om)),R (A++[m]) m (some (wd [false],om)),rfl,?_,some (wd [false],om),?_⟩
   ·have t1:bT (bBin (opEq false) (bVar 3) (bC (.str "r"))) (R A m (some (wd [false],om)))=.ok (false,R A m (some (wd [false],om))):=by kernel_rfl
    have la:A.length<=1000:=by
     show (pos 0 (w.take n)).length<=1000
     rw [zvi]
     exact jc6 jn6 (by rw [jd0];omega)
    refine (if_f t1).trans ((zyh (i:=1) (xs:=(A.map λ (n:Nat)=>(n:Int)).map PV.int) (xs0:=(A.map λ (n:Nat)=>(n:Int)).map PV.int) (d:=om) (d0:=999) (y:=.int (m:Int)) (e:=om) (ρ1:=R A m (some (wd [false],om))) rfl rfl rfl (by decide) (by rw [ja1,ja1];omega) rfl).trans ?_)
    rw [zyr]
    show _=Rs.nx [some (wd w,om),some (il ((A++[m]).map λ (n:Nat)=>(n:Int)),om),_,_]
    rw [je8]
    rfl
   ·rw [es,zym,er]
    show R (A++[m]) m _=R (A++[0 + m]) (m + 0) _
    rw [ji8]
    rfl)
 rw [jh9] at v3
 have v4:bUn opRv (bVar 1) (R (pos 0 w) (rN w w.length) s3)=.ok (il (stW w),om,R (pos 0 w) (rN w w.length) s3):=by
  refine qcs (x:=il ((pos 0 w).map λ (n:Nat)=>(n:Int))) (d:=0) rfl ?_
  show some (PV.lst (((pos 0 w).map λ (n:Nat)=>(n:Int)).map PV.int).reverse,d1 (((pos 0 w).map λ (n:Nat)=>(n:Int)).map PV.int).reverse)=_
  rw [<- ji0,qfc,<- ji0]
  rfl
 exact zxk rfl ((zqd v1).trans ((zqd v2).trans ((zqd v3).trans (zxl v4))))
section
variable {a b c:Nat}
def R1 (a b c:Nat) (x:PV) (s2 s3 s4 s5:QQ.Slot):Rho:=[some (bx a b c,0),some (x,dv x),s2,s3,s4,s5]
theorem qk0 {x y:PV} (hy:Wk y) (ha:a<=6) (hb:b<=6):(wB a b y=true/\u1 (R1 a b c x (some (y,dv y)) none none none)=.nx (R1 a b c x (some (y,dv y)) none none none))\/(wB a b y=false/\∃ ρ2,u1 (R1 a b c x (some (y,dv y)) none none none)=.rt (.bl false) om ρ2):=by
 let Q:Rho:=R1 a b c x (some (y,dv y)) none none none
 have no:bUn (zqn "str") (bVar 2) Q=.ok (.bl false,om,Q)->wB a b y=false->(wB a b y=true/\u1 Q=.nx Q)\/(wB a b y=false/\∃ ρ2,u1 Q=.rt (.bl false) om ρ2):=λ h e=>
  .inr ⟨e,_,zxz ((if_t (t_ok (zko (a:=true) (b:=false) (zzb h) (λ e=>nomatch e) rfl))).trans rfl)⟩
 cases y with
 | str z=>
  obtain ⟨hl,hs⟩:=hy.2 z rfl
  have k1:=qbr (n:=6) (f:=bVar 2) (test:=bT (bBin (opIn true) (bVar 6) (zqb zwq (zqa (bC (.str "d")) (zqa (bC (.str "r")) (aNil)))))) (p:=badC) (ρ:=Q) (z:=z) (d:=om) rfl rfl hs hl (λ c hc=>t_ok (zxf (x:=sg c) (d:=om) (y:=.tup [.str "d",.str "r"]) (e:=om) rfl rfl (qi9 (in_c c hc))))
  have k2:=qbr (n:=6) (f:=bVar 2) (test:=bT (bBin (opEq false) (bVar 6) (bC (.str "d")))) (p:=λ c=>c == 100) (ρ:=Q) (z:=z) (d:=om) rfl rfl hs hl (λ c hc=>t_ok (zxf (x:=sg c) (d:=om) (y:=.str "d") (e:=om) rfl rfl (qi9 (eq_c c hc))))
  have t1:=t_ok ((orF (f:=bUn zqy (bUn (zqn "str") (bVar 2))) (ρ:=Q) (ρ1:=Q) (d:=om) rfl).trans (zxf k1 (g:=zqb zqj aNil) (y:=.lst []) (e:=om) rfl (qol (neg:=true))))
  have th:=qjg (cod z)
  rw [zyv] at th
  have ln:zqb zqu (zqa (zqw (bVar 2) 1 (asgN 6) (bT (bBin (opEq false) (bVar 6) (bC (.str "d")))) (bVar 6)) (aNil)) Q=.ok (.int ((cod z).count 100:Nat),om,Q):=by
   refine (zxd (zxb k2) (z:=.int ((((cod z).filter λ c=>c == 100).map sg).length:Nat)) (c:=om) rfl).trans ?_
   rw [ja1,List.count_eq_length_filter]
  have t2:bT u3 Q=.ok (!decide ((cod z).count 100=a) || !decide (z.length=a + b),Q):=by
   have e1:=zvf (neg:=true) ln (g:=bBin zqe (bVar 0) (bC (.int 0))) (j:=(a:Int)) (e:=om) (ρ2:=Q) rfl
   have e2:=zvf (neg:=true) (qac (f:=bVar 2) (ρ:=Q) (ρ1:=Q) (z:=z) (d:=om) rfl hl) (zwn (f:=bBin zqe (bVar 0) (bC (.int 0))) (g:=bBin zqe (bVar 0) (bC (.int 1))) (i:=(a:Int)) (j:=(b:Int)) (d:=om) (e:=om) (ρ2:=Q) rfl rfl)
   rw [jj4] at e1 e2
   have w:=t_ok (zko e1 (λ _=>e2) rfl)
   have d1:decide ((((cod z).count 100:Nat):Int)=(a:Int))=decide ((cod z).count 100=a):=by rw [decide_eq_decide];omega
   have d2:decide (((z.length:Nat):Int)=(a:Int) + b)=decide (z.length=a + b):=by rw [decide_eq_decide];omega
   rw [d1,d2] at w
   exact w
  have hw:wB a b (.str z)=(decide (z.length=a + b) && (decide ((cod z).count 100=a) && decide ((cod z).count 114=b))):=rfl
  by_cases hb:(cod z).filter badC=[]
  ·rw [hb] at th
   rw [hb,decide_eq_true (show (([]:List Nat).map sg)=[] from rfl)] at t1
   by_cases h1:(cod z).count 100=a
   ·by_cases h2:z.length=a + b
    ·left
     rw [hw,decide_eq_true h1,decide_eq_true h2,decide_eq_true (show (cod z).count 114=b by have:([]:List Nat).length=0:=rfl;omega)]
     rw [decide_eq_true h1,decide_eq_true h2] at t2
     exact ⟨rfl,(zwh t1).trans ((if_f t2).trans rfl)⟩
    ·right
     rw [hw,decide_eq_false h2]
     rw [decide_eq_false h2,Bool.not_false,jp2] at t2
     exact ⟨rfl,_,(zwh t1).trans ((if_t t2).trans rfl)⟩
   ·right
    rw [hw,decide_eq_false h1,je6,jf7]
    rw [decide_eq_false h1] at t2
    exact ⟨rfl,_,(zwh t1).trans ((if_t t2).trans rfl)⟩
  ·right
   have hp:0 < ((cod z).filter badC).length:=List.length_pos_iff.mpr hb
   rw [decide_eq_false (λ e=>hb (jo1.mp e))] at t1
   refine ⟨?_,_,zxz ((if_t t1).trans rfl)⟩
   rw [hw]
   by_cases h1:(cod z).count 100=a
   ·by_cases h2:z.length=a + b
    ·rw [decide_eq_false (show ¬ (cod z).count 114=b by omega),jf7,jf7]
    ·rw [decide_eq_false h2];rfl
   ·rw [decide_eq_false h1,je6,jf7]
 | scr _=>cases hy.1
 | exn _=>cases hy.1
 | dct _=>cases hy.1
 | dko=>cases hy.1
 | _=>exact no rfl rfl
def qlb:PV->List Int
 | .lst xs=>xs.map λ y=>match y with | .int i=>i | _=>0
 | _=>[]
def qd4 (a:Nat):PV->Bool
 | .tup [x,y]=>(jc2 a).all λ k=>!decide ((qlb x).getD k 0 < (qlb y).getD k 0)
 | _=>false
theorem zkf (r:List Int):qlb (il r)=r:=by
 show (r.map PV.int).map _=r
 rw [jd6]
 exact List.map_id'' (λ _=>rfl) r
theorem qcq (a:Nat):∀ t:List (List Int),(zipL (t.map il) ((t.map il).drop 1)).all (qd4 a)=true↔∀ k,k + 1 < t.length->∀ i,i < a->(t.getD (k + 1) []).getD i 0<=(t.getD k []).getD i 0
 | []=>⟨λ _ k hk=>absurd hk (by simp),λ _=>rfl⟩
 | [x]=>⟨λ _ k hk=>absurd hk (by simp),λ _=>rfl⟩
 | x::y::r=>by
  have ih:=qcq a (y::r)
  have e:zipL ((x::y::r).map il) (((x::y::r).map il).drop 1)=.tup [il x,il y]::zipL ((y::r).map il) (((y::r).map il).drop 1):=rfl
  rw [e,jf4,ja4,ih]
  have e2:qd4 a (.tup [il x,il y])=true↔∀ i,i < a->y.getD i 0<=x.getD i 0:=by
   show (jc2 a).all _=true↔_
   rw [jb9]
   constructor
   ·intro h i hi
    have:=h i (jd8.mpr hi)
    rw [zkf,zkf,jh3,decide_eq_false_iff_not] at this
    omega
   ·intro h i hi
    rw [zkf,zkf,jh3,decide_eq_false_iff_not]
    have:=h i (jd8.mp hi)
    omega
  rw [e2]
  constructor
  ·rintro ⟨h1,h2⟩ k hk i hi
   cases k with
   | zero=>exact h1 i hi
   | succ k=>exact h2 k (by simpa using hk) i hi
  ·intro h
   exact ⟨λ i hi=>h 0 (by simp) i hi,λ k hk i hi=>h (k + 1) (by simpa using hk) i hi⟩
theorem qe3 {ws:List (List Bool)} (hc:ws.length=c) (hw:∀ w∈ws,Wd a b w) (h:∀ k,k + 1 < (ws.map stW).length->∀ i,i < a->((ws.map stW).getD (k + 1) []).getD i 0<=((ws.map stW).getD k []).getD i 0):Pile c a b (ws.map stW):=by
 rw [qb7 hc hw]
 refine qdm (λ x y z h1 h2=>h1.trans h2) λ i hi=>?_
 rw [qeg (hw _ (jc3 _)) (hw _ (jc3 _))]
 intro j hj
 have gt:∀ k i,(hk:k < ws.length)->i < a->((ws.map stW).getD k []).getD i 0=(((pos 0 ws[k]).getD (a - 1 - i) 0:Nat):Int):=λ k i hk hi=>by
  rw [show (ws.map stW).getD k []=stW ws[k] by rw [ja0,jc4,ja3 hk];rfl]
  exact qdb (hw _ (jc3 hk)) hi
 have k:=h i (by rw [ja1];exact hi) (a - 1 - j) (by omega)
 rw [gt (i + 1) (a - 1 - j) hi (by omega),gt i (a - 1 - j) (by omega) (by omega),show a - 1 - (a - 1 - j)=j by omega] at k
 omega
theorem ql8 {x:PV}{s2:QQ.Slot}{tt:List (List Int)} (ha:a<=6) (hT:∀ r∈tt,r.length=a) (hl:1<=tt.length):∃ r,(r=true↔∀ k,k + 1 < tt.length->∀ i,i < a->(tt.getD (k + 1) []).getD i 0<=(tt.getD k []).getD i 0)/\∃ ρ',sSeq (zkm .zp (zqa (bVar 3) (zqa (bSl (bVar 3) (some (bC (.int 1))) none) (aNil))) [3,3] (asgT [4,5]) (sIf (bT zT) (sRet (bC (.bl false))) sNil)) (sRet (bC (.bl true))) (R1 a b c x s2 (some (tb tt,om)) none none)=.rt (.bl r) om ρ':=by
 have z:=sz
 let R (e:Nat) (s4 s5:QQ.Slot):Rho:=R1 a b c x s2 (some (tb tt,e)) s4 s5
 let xs:=tt.map il
 have sl:bSl (bVar 3) (some (bC (.int 1))) none (R om none none)=.ok (.lst (xs.drop 1),d1 (xs.drop 1),R om none none):=by
  have ec:cutP xs (some 1) none=xs.drop 1:=by
   unfold cutP
   rw [show (1:Int)=((1:Nat):Int) from rfl,HT.sIx_nat,HT.sIx_none,jl3 (by show 1<=(tt.map il).length;rw [ja1];exact hl)]
   exact jg6 (by rw [jd2];exact jb3 _)
  show Rz.ok (PV.lst (cutP xs (some 1) none),d1 (cutP xs (some 1) none),_)=_
  rw [ec]
 have fa:=zqm (f:=bVar 3) (x:=.lst xs) (d:=0) (ρ:=R om none none) rfl (zxb sl)
 have q:=λ e=>zbm (asg:=asgT [4,5]) (body:=sIf (bT zT) (sRet (bC (.bl false))) sNil) (qd4 a) (λ ρ=>∃ s4 s5,ρ=R e s4 s5) (zipL xs (xs.drop 1)) (R e none none) ⟨_,_,rfl⟩ (by
  rintro y hy ρ ⟨s3,s4,rfl⟩
  have hz:∀ (u v:List (List Int)),(∀ r∈u,r.length=a)->(∀ r∈v,r.length=a)->∀ y∈zipL (u.map il) (v.map il),∃ p q:List Int,p.length=a/\q.length=a/\y=.tup [il p,il q]:=by
   intro u
   induction u with
   | nil=>intro v _ _ y hy;cases hy
   | cons p u ih=>
    intro v h1 h2 y hy
    cases v with
    | nil=>cases hy
    | cons q v=>
     rcases jb0.mp hy with rfl | hy
     ·exact ⟨p,q,h1 p ja5,h2 q ja5,rfl⟩
     ·exact ih v (λ r hr=>h1 r (ja2 _ hr)) (λ r hr=>h2 r (ja2 _ hr)) y hy
  have hy':y∈zipL (tt.map il) ((tt.drop 1).map il):=by rw [jo5];exact hy
  obtain ⟨p,q,hp,hq,rfl⟩:=hz tt (tt.drop 1) hT (λ r hr=>hT r (ji4 hr)) y hy'
  let Q:Rho:=R e (some (il p,0)) (some (il q,0))
  refine ⟨Q,rfl,?_⟩
  have pk:=qdu (neg:=true) (n:=6) (en:=zxu) (fa:=zqa (bBin zqe (bVar 0) (bC (.int 0))) (aNil)) (test:=bT (bBin (zxq λ i j=>decide (j < i)) (bBin zqe (bVar 5) (bVar 6)) (bBin zqe (bVar 4) (bVar 6)))) (p:=λ k=>decide (p.getD k 0 < q.getD k 0)) (ρ:=Q) (ρ1:=Q) (as:=[(.int (a:Int),om)]) rfl (zwx (by omega) (by omega)) rfl (λ k hk=>by
   have hk':k < a:=by omega
   rw [jh4]
   exact t_ok (zkl (i:=q.getD k 0) (j:=p.getD k 0) (zvr (xs:=q) (k:=(k:Int)) (d:=0) (e:=om) rfl rfl (atI_nat (by omega) (by rw [je1];exact zwc (by omega)))) (zvr (xs:=p) (k:=(k:Int)) (d:=0) (e:=om) rfl rfl (atI_nat (by omega) (by rw [je1];exact zwc (by omega)))))) (by omega)
  have e2:qd4 a (.tup [il p,il q])=((jc2 ((a:Int) - 0).toNat).all λ k=>!decide (p.getD k 0 < q.getD k 0)):=by
   show (jc2 a).all _=_
   rw [zkf,zkf,show ((a:Int) - 0).toNat=a by omega]
  rw [<- e2] at pk
  have pk2:=t_ok pk
  cases e:qd4 a (.tup [il p,il q]) with
  | true=>rw [e] at pk2;exact .inl ⟨rfl,Q,(if_f pk2).trans rfl,_,_,rfl⟩
  | false=>rw [e] at pk2;exact .inr ⟨rfl,Q,(if_t pk2).trans rfl⟩)
 obtain ⟨e,ec⟩:∃ e,zqs (if zvp [(PV.lst xs,0),(PV.lst (xs.drop 1),d1 (xs.drop 1))]=true then om else 0) [3,3] (R om none none)=R e none none:=⟨0,rfl⟩
 have ef:∀ {r:Rs},zws (asgT [4,5]) (sIf (bT zT) (sRet (bC (.bl false))) sNil) (zipL xs (xs.drop 1)) (R e none none)=r->zkm .zp (zqa (bVar 3) (zqa (bSl (bVar 3) (some (bC (.int 1))) none) (aNil))) [3,3] (asgT [4,5]) (sIf (bT zT) (sRet (bC (.bl false))) sNil) (R om none none)=r:=λ {r} h=>by
  unfold zkm
  rw [fa]
  dsimp only [List.map,zvs]
  rw [ec]
  exact h
 have za:=qcq a tt
 rcases q e with ⟨h1,ρ',h2,s3,s4,rfl⟩ | ⟨h1,ρ',h2⟩
 ·exact ⟨true,⟨λ _=>za.mp h1,λ _=>rfl⟩,_,(zqd (ef h2)).trans rfl⟩
 ·exact ⟨false,⟨λ h=>(by cases h),λ h=>(by rw [za.mpr h] at h1;cases h1)⟩,_,zxz (ef h2)⟩
theorem qk8 {x:PV} (hx:okE 12 x=true) (hk:∀ xs,x=.lst xs->∀ y∈xs,Wk y) (ha:1<=a/\a<=6) (hb:1<=b/\b<=6) (hc:1<=c/\c<=6):F25 [bx a b c,x]=.ok (.bl (due a b c x),om,.non):=by
 have z:=sz
 have hF:F25=mkFn false 2 4 b25:=rfl
 rw [hF,qpf]
 let R (s2:QQ.Slot):Rho:=R1 a b c x s2 none none none
 cases x with
 | lst xs=>
  have t:bT (bOrV (bUn zqy (bUn (zqn "list") (bVar 1))) (bBin (opEq true) (zqb zqu (zqa (bVar 1) (aNil))) (bBin zqe (bVar 0) (bC (.int 2))))) (R none)=.ok (!decide ((xs.length:Int)=c),R none):=by
   refine t_ok (d:=om) ((zko (a:=false) rfl (λ _=>zvf (i:=(xs.length:Int)) (j:=(c:Int)) rfl rfl) rfl).trans ?_)
   rw [jj3,jj4]
  have hd:due a b c (.lst xs)=(decide (xs.length=c) && (xs.all (wB a b) && _)):=rfl
  by_cases hl:xs.length=c
  ·rw [decide_eq_true (show (xs.length:Int)=c by omega)] at t
   rcases zbm (asg:=asgN 2) (body:=u1) (wB a b) (λ ρ=>∃ s,ρ=R s) xs (R none) ⟨_,rfl⟩ (by
    rintro y hy ρ ⟨s,rfl⟩
    refine ⟨R (some (y,dv y)),rfl,?_⟩
    rcases qk0 (a:=a) (b:=b) (c:=c) (x:=.lst xs) (hk xs rfl y hy) ha.2 hb.2 with ⟨h1,h2⟩ | ⟨h1,h2⟩
    ·exact .inl ⟨h1,_,h2,_,rfl⟩
    ·exact .inr ⟨h1,h2⟩) with ⟨hg,ρ',e,s,rfl⟩ | ⟨hg,ρ',e⟩
   ·obtain ⟨ws,rfl,hws⟩:=zjh hg
    rw [ja1] at hl
    have e1:=zwj (n:=6) (f:=bVar 1) (elt:=zqg F24 (zqa (bVar 6) (aNil))) (enc:=wd) (q:=λ w=>il (stW w)) (ρ:=R s) (ρ1:=R s) (d:=0) ws rfl rfl (λ w hw=>zqh (xs:=[(wd w,om)]) rfl (qon w (by rw [(hws w hw).len];omega))) (by omega)
    have e2:PV.lst (ws.map λ w=>il (stW w))=tb (ws.map stW):=by unfold tb;rw [jd6];rfl
    rw [e2] at e1
    have v3:sSet false 3 (zqw (bVar 1) 1 (asgN 6) zxt (zqg F24 (zqa (bVar 6) (aNil)))) [1,1] (R s)=.nx (R1 a b c (.lst (ws.map wd)) s (some (tb (ws.map stW),om)) none none):=setF e1 (show 3 < 6 by decide) rfl
    obtain ⟨r,hr,ρ2,h2⟩:=ql8 (a:=a) (b:=b) (c:=c) (x:=.lst (ws.map wd)) (s2:=s) (tt:=ws.map stW) ha.2 (λ r hr=>by obtain ⟨w,hw,rfl⟩:=jd4.mp hr;exact zml (hws w hw)) (by rw [ja1];omega)
    have e3:due a b c (.lst (ws.map wd))=r:=by
     have:=zbt (c:=c) hws
     rw [decide_eq_true hl,jm1] at this
     refine this.trans ?_
     rw [jh0,zkv (zji hws hl),hr]
     constructor
     ·intro p k hk i hi
      rw [ja1] at hk
      exact p.dn k i (by omega) hi
     ·exact qe3 hl hws
    rw [e3]
    exact zxk rfl ((zwh t).trans ((zqd (zys (f:=bVar 1) (vs:=[1]) (ρ:=R none) (ρ1:=R none) (d:=0) rfl rfl e)).trans ((zqd v3).trans h2)))
   ·rw [hd,hg,je6,jf7]
    exact zxk rfl ((zwh t).trans (zxz (zys (f:=bVar 1) (vs:=[1]) (ρ:=R none) (ρ1:=R none) (d:=0) rfl rfl e)))
  ·rw [decide_eq_false (show ¬ (xs.length:Int)=c by omega)] at t
   rw [hd,decide_eq_false hl,je6]
   exact zxk rfl (zxz ((if_t t).trans rfl))
 | scr _=>cases hx
 | exn _=>cases hx
 | dct _=>cases hx
 | dko=>cases hx
 | _=>exact zxk rfl (zxz ((if_t (t_ok (d:=om) (zko (a:=true) (b:=false) rfl (λ e=>nomatch e) rfl))).trans rfl))
end
theorem qpv:∀ c,c < 128->(Builtin.Str.reprChar 256 c).length<=4:=by decide +kernel
theorem qnp {q c:Nat} (hc:c < 128):(Builtin.Str.reprChar q c).length<=4:=by
 by_cases h:c=q
 ·subst h
  unfold Builtin.Str.reprChar
  rw [if_pos (by rw [beq_self_eq_true];rfl)]
  show 2<=4
  decide
 ·have e:Builtin.Str.reprChar q c=Builtin.Str.reprChar 256 c:=by
   unfold Builtin.Str.reprChar
   rw [show (c == q)=false from beq_eq_false_iff_ne.mpr h,show (c == 256)=false from beq_eq_false_iff_ne.mpr (by omega)]
  rw [e]
  exact qpv c hc
theorem zgh {q:Nat}:∀ (l:List Nat) (acc:Array Nat),(∀ c∈l,c < 128)->(l.foldl (λ out c=>out++(Builtin.Str.reprChar q c).toArray) acc).size<=acc.size + 4 * l.length
 | [],acc,_=>jh7 _ _
 | c::l,acc,h=>by
  have ih:=zgh (q:=q) l (acc++(Builtin.Str.reprChar q c).toArray) λ x hx=>h x (ja2 _ hx)
  have e:(acc++(Builtin.Str.reprChar q c).toArray).size=acc.size + (Builtin.Str.reprChar q c).length:=by simp
  have:=qnp (q:=q) (h c ja5)
  rw [jm8,jb1]
  omega
theorem zge {n:Nat}{z:Str} (h:zwy z=true):zzr (n + 1) (4 * z.length + 2) (.str z):=by
 have hc:∀ c∈z.cps.toList,c < 128:=λ c hc=>by
  unfold zwy at h
  rw [<- jh8,jb9] at h
  exact of_decide_eq_true (h c hc)
 have ok:PyData.strOk z=true:=by
  unfold PyData.strOk
  rw [<- jh8,jb9]
  exact λ c h=>decide_eq_true (by have:=hc c h;omega)
 refine ⟨.str z,?_,rfl,?_⟩
 ·show (if PyData.strOk z=true then _ else _)=_
  rw [if_pos ok]
 ·show (reprText z).length<=_
  unfold reprText
  show (Array.push _ _).size<=_
  rw [Array.size_push,<- Array.foldl_toList]
  have:=zgh (q:=reprQuote z) z.cps.toList #[reprQuote z] hc
  rw [je9] at this
  have e:(#[reprQuote z]:Array Nat).size=1:=rfl
  have e2:z.cps.size=z.length:=rfl
  omega
def WS (y:PV):Prop:=Wk y/\zzr 19 5000 y
def Tx (n:Nat) (z:Str):Prop:=z.length<=n/\zwy z=true
theorem qb1 {z:Str} (h:∀ c∈cod z,c < 128):zwy z=true:=by
 unfold zwy
 rw [<- jh8,jb9]
 exact λ c hc=>decide_eq_true (h c hc)
theorem zgn {z:Str} (h:zwy z=true):∀ c∈cod z,c < 128:=λ c hc=>by
 unfold zwy at h
 rw [<- jh8,jb9] at h
 exact of_decide_eq_true (h c hc)
theorem qmi {n m:Nat}{x y:Str} (hx:Tx n x) (hy:Tx m y):Tx (n + m) (x++y):=by
 refine ⟨?_,qb1 λ c hc=>?_⟩
 ·show (x.cps++y.cps).size<=_
  rw [Array.size_append]
  exact Nat.add_le_add hx.1 hy.1
 ·have:cod (x++y)=cod x++cod y:=by
   show (x.cps++y.cps).toList=_
   rw [Array.toList_append]
   rfl
  rw [this] at hc
  exact (jc1.mp hc).elim (zgn hx.2 c) (zgn hy.2 c)
theorem qpn {n:Nat}{z:Str}{lo hi:Option Int} (h:Tx n z):Tx n (Txt.slice z lo hi):=by
 refine ⟨jc6 (Txt.slice_le z _ _) h.1,?_⟩
 unfold Txt.slice
 split
 ·exact h.2
 ·refine qb1 λ c hc=>?_
  obtain ⟨i,_,hi⟩:=ji9.mp hc
  obtain ⟨hl,e⟩:=Array.getElem?_eq_some_iff.mp hi
  exact zgn h.2 c (by rw [<- e];exact Array.getElem_mem_toList hl)
theorem qpo {n:Nat}{z:Str} (h:Tx n z):Tx n ⟨z.cps.toList.reverse.toArray⟩:=by
 refine ⟨?_,qb1 λ c hc=>zgn h.2 c (jm4.mp hc)⟩
 show (z.cps.toList.reverse.toArray).size<=_
 rw [jb6,jg3,je9]
 exact h.1
theorem tx_w (w:List Bool) {n:Nat} (h:w.length<=n):Tx n (strW w):=⟨by rw [zwv];exact h,qfz w⟩
theorem zkh {n:Nat}{z:Str} (h:Tx n z) (hn:n<=1000):WS (.str z):=⟨⟨rfl,λ y e=>by cases e;exact ⟨jc6 h.1 hn,h.2⟩⟩,(zge h.2).le (by have:=h.1;omega)⟩
def Ev (f:Fx) (ρ:Rho) (n:Nat):Prop:=∃ z,f ρ=.ok (.str z,om,ρ)/\Tx n z
section
variable {f g:Fx}{ρ:Rho}{n m:Nat}
theorem Ev.add (hf:Ev f ρ n) (hg:Ev g ρ m) (h:n + m<=1000):Ev (bBin zqf f g) ρ (n + m):=by
 have s:=sz
 obtain ⟨x,hx,tx⟩:=hf
 obtain ⟨y,hy,ty⟩:=hg
 refine ⟨x++y,zxf hx hy ?_,qmi tx ty⟩
 show (if x.length + y.length<=sizeLine then _ else _)=_
 rw [if_pos (by have:=tx.1;have:=ty.1;omega)]
theorem Ev.sl {lo hi:Option Fx}{l u:Option Int} (hf:Ev f ρ n) (hn:n<=1000) (h1:evO lo ρ=.ok (l,ρ)) (h2:evO hi ρ=.ok (u,ρ)):Ev (bSl f lo hi) ρ n:=by
 have s:=sz
 obtain ⟨x,hx,tx⟩:=hf
 refine ⟨Txt.slice x l u,?_,qpn tx⟩
 unfold bSl
 rw [hx]
 dsimp only [Rz.bind]
 rw [h1]
 dsimp only
 rw [h2]
 dsimp only [opSl]
 rw [if_pos (by have:=tx.1;omega)]
theorem Ev.rv (hf:Ev f ρ n) (hn:n<=1000):Ev (bUn opRv f) ρ n:=by
 have s:=sz
 obtain ⟨x,hx,tx⟩:=hf
 refine ⟨_,qcs hx ?_,qpo tx⟩
 show (if x.length<=sizeLine then _ else _)=_
 rw [if_pos (by have:=tx.1;omega)]
theorem Ev.ix {i d:Nat}{z:Str} (hf:f ρ=.ok (.str z,d,ρ)) (hg:g ρ=.ok (.int (i:Int),om,ρ)) (tz:Tx 1000 z) (hi:i < z.length):Ev (bBin zqe f g) ρ 1:=by
 have s:=sz
 have e:(cod z)[i]?=some ((cod z)[i]'(by rw [zyv];exact hi)):=ja3 _
 refine ⟨⟨#[(cod z)[i]'(by rw [zyv];exact hi)]⟩,zxf hf hg ?_,jb3 _,qb1 λ c hc=>?_⟩
 ·show (if z.length<=sizeLine then (atI z.cps.toList (i:Int)).map _ else none)=_
  rw [if_pos (by have:=tz.1;omega),atI_nat (by omega) (by rw [je1];exact e)]
  rfl
 ·have:c=(cod z)[i]'(by rw [zyv];exact hi):=jb8.mp hc
  rw [this]
  exact zgn tz.2 _ (jc3 _)
end
def gK:Fx:=bBin zqe (bVar 3) (bVar 4)
def g1:Fx:=bBin zqf (bVar 5) (bC (.int 1))
def s7:Fx:=zqb zqj (zqa (bBin zqf (bBin zqf (bVar 6) (bVar 8)) (bSl gK (some (bBin zqf (bVar 5) (bC (.int 2)))) none)) (zqa (bBin zqf (bBin zqf (bVar 6) (bC (.str "r"))) (bVar 7)) (aNil)))
def s8:Fx:=zqb zqj (zqa (bBin zqf (bBin zqf (bVar 6) (bC (.str "d"))) (bVar 7)) (zqa (bBin zqf (bVar 6) (bVar 7)) (zqa (bBin zqf gK (bC (.str "r"))) (zqa (bBin zqf gK (bC (.str "d"))) (aNil)))))
def s9:Fx:=zqb zqj (zqa (bBin zqf (bBin zqf (bVar 6) (bC (.str "x"))) (bVar 7)) (zqa (bBin zqf (bBin zqf (bVar 6) (bC (.str "R"))) (bVar 7)) (aNil)))
def s10:Fx:=zqb zqj (zqa (bBin zqf (bC (.str " ")) gK) (zqa (bBin zqf gK (bC (.str "\n"))) (zqa (bC (.str "")) (zqa (bUn opRv gK) (zqa (bC .non) (zqa (zqb zqj (zqa gK (aNil))) (zqa (bC (.int 7)) (aNil))))))))
def q5:Fs:=sIf (bT (bBin (zxq λ i j=>decide (i < j)) (bVar 1) (bC (.int 15)))) (qb9 3 4 (bBin zqe (bVar 9) (bVar 1)) [9,1]) sNil
def qIf (n:Int) (s:Fs):Fs:=sIf (bT (bBin (opEq false) (bVar 1) (bC (.int n)))) s sNil
def q15:Fs:=sSet false 3 (bBin zqf (bSl (bVar 3) none (some (bVar 4))) (bSl (bVar 3) (some (bBin zqf (bVar 4) (bC (.int 1)))) none)) [3,3]
def q16:Fs:=sSet false 3 (bBin zqf (bSl (bVar 3) none (some (bBin zqf (bVar 4) (bC (.int 1))))) (bSl (bVar 3) (some (bVar 4)) none)) [3,3]
def q17:Fs:=sSet false 3 (bUn opRv (bVar 3)) [3]
def q18:Fs:=sSet false 3 (zqb zbg (zqa (bVar 3) (aNil))) [3]
def qT:Fs:=sSeq q5 (sSeq (qIf 15 q15) (sSeq (qIf 16 q16) (sSeq (qIf 17 q17) (sSeq (qIf 18 q18) (zjc 3)))))
theorem qpe:b26=(sSeq (sSet false 3 (zqb zvu (zqa (bVar 0) (aNil))) [0])
 (sSeq (sSet false 4 (bBin zxh (bVar 2) (zqb zqu (zqa (bVar 3) (aNil)))) [2,3])
 (sSeq (sSet false 5 (bBin zxh (bBin zwd (bVar 2) (bC (.int 10))) (bBin zzz (zqb zqu (zqa gK (aNil))) (bC (.int 1)))) [2,3,4])
 (sSeq (sSet false 6 (bSl gK none (some (bVar 5))) [3,4])
 (sSeq (sSet false 7 (bSl gK (some g1) none) [3,4])
 (sSeq (sSet false 8 (bBin zqf (bBin zqe gK g1) (bBin zqe gK (bVar 5))) [3,4,5,3,4,5])
 (sSeq (sSet false 9 s7 [6,8,3,4,6,7])
 (sSeq (sSet false 9 (bBin zqf (bVar 9) s8) [9,6,7,6,7,3,4,3,4])
 (sSeq (sSet false 9 (bBin zqf (bVar 9) s9) [9,6,7,6,7])
 (sSeq (sSet false 9 (bBin zpk (bVar 9) s10) [9,3,4,3,4,3,4,3,4]) qT)))))))))):=rfl
def Res (x:PV):Prop:=okE 12 x=true/\(∀ xs,x=.lst xs->∀ y∈xs,Wk y)/\((∃ xs,x=.lst xs)\/∃ xs,x=.tup xs)/\∃ T,zku x=some T
theorem zyk {xs:List PV} (hl:xs.length<=100) (h:∀ y∈xs,WS y):Res (.lst xs):=⟨zpl (zbh (by omega) λ y hy=>(h y hy).1.1) (by decide),λ ys e=>by cases e;exact λ y hy=>(h y hy).1,.inl ⟨_,rfl⟩,zzr.text (.inl ⟨_,rfl⟩) (zzr.lst λ y hy=>(h y hy).2) (by have:=jk4 (5000 + 2) hl;omega)⟩
theorem qdj {xs:List PV} (hl:xs.length<=100) (h:∀ y∈xs,WS y):Res (.tup xs):=⟨zpl (zhz (by omega) λ y hy=>(h y hy).1.1) (by decide),(λ ys e=>nomatch e),.inr ⟨_,rfl⟩,zzr.text (.inr ⟨_,rfl⟩) (zzr.tup λ y hy=>(h y hy).2) (by have:=jk4 (5000 + 2) hl;omega)⟩
theorem qih {x:PV}{d e:Nat} (h:Res x):opEq true x d x e=some (.bl false,om):=by
 unfold opEq
 cases hD:toD 20 x with
 | some D=>
  dsimp only
  rw [SeqAt.eqv_refl D (zwo 20 _ D hD).1]
  rfl
 | none=>
  rcases h.2.2.1 with ⟨xs,rfl⟩ | ⟨xs,rfl⟩
  ·dsimp only
   rw [if_pos (zzy λ y hy=>zmo 20 y (zpl ((zzx h.1).2 y hy) (by decide)))]
   rfl
  ·dsimp only
   rw [if_pos (zzy λ y hy=>zmo 20 y (zpl ((zyo h.1).2 y hy) (by decide)))]
   rfl
section
variable {a b c:Nat}{W:List (List Bool)}{w k i:Nat}{num:Int}{sm:List PV}{y6 y7 y8:Str}{e1 e9:Nat}
def QS (W:List (List Bool)) (w:Nat) (num:Int) (k i:Nat) (sm:List PV) (y6 y7 y8:Str) (e1 e9:Nat) (s3:QQ.Slot):Rho:=[some (wl W,0),some (.int (w:Int),e1),some (.int num,om),s3,some (.int (k:Int),om),some (.int (i:Int),om),some (.str y6,om),some (.str y7,om),some (.str y8,om),some (.lst sm,e9)]
theorem zva {n:Int}{s:Fs}{g:Fs}{s3:QQ.Slot} (h:(w:Int)≠n):sSeq (qIf n s) g (QS W w num k i sm y6 y7 y8 e1 e9 s3)=g (QS W w num k i sm y6 y7 y8 e1 e9 s3):=by
 have t:=t_ok (zvf (neg:=false) (f:=bVar 1) (g:=bC (.int n)) (ρ:=QS W w num k i sm y6 y7 y8 e1 e9 s3) (i:=(w:Int)) (j:=n) (d:=om) (e:=om) rfl rfl)
 rw [decide_eq_false h] at t
 exact zwh t
theorem qar {n:Int}{s:Fs}{g:Fs}{s3 s3':QQ.Slot} (h:(w:Int)=n) (hs:s (QS W w num k i sm y6 y7 y8 e1 e9 s3)=.nx (QS W w num k i sm y6 y7 y8 e1 e9 s3')):sSeq (qIf n s) g (QS W w num k i sm y6 y7 y8 e1 e9 s3)=g (QS W w num k i sm y6 y7 y8 e1 e9 s3'):=by
 have t:=t_ok (zvf (neg:=false) (f:=bVar 1) (g:=bC (.int n)) (ρ:=QS W w num k i sm y6 y7 y8 e1 e9 s3) (i:=(w:Int)) (j:=n) (d:=om) (e:=om) rfl rfl)
 rw [decide_eq_true h] at t
 exact zqd ((if_t t).trans hs)
theorem ixn {n k:Nat} (h:k < n):ixN n (k:Int)=some k:=by
 unfold ixN
 rw [if_pos (by omega),je1,if_pos (by omega)]
theorem qps {f j:Fx}{ρ ρ1:Rho}{xs:List PV}{n d e:Nat} (h1:f ρ=.ok (.lst xs,d,ρ1)) (h2:j ρ1=.ok (.int (n:Int),e,ρ1)) (hn:n<=xs.length):bSl f (some j) none ρ=.ok (.lst (xs.drop n),d1 (xs.drop n),ρ1):=by
 have ec:cutP xs (some (n:Int)) none=xs.drop n:=by
  unfold cutP
  rw [HT.sIx_nat,HT.sIx_none,jl3 hn]
  exact jg6 (by rw [jd2];exact jb3 _)
 unfold bSl
 rw [h1]
 dsimp only [Rz.bind,evO]
 rw [h2]
 dsimp only [opSl]
 rw [ec]
theorem qpy (hl:W.length=c) (hc:1<=c/\c<=6) (hW:∀ w∈W,w.length<=12) (hk:k < c) (hsm:sm.length=15) (hs:∀ y∈sm,WS y):∃ x d ρ,qT (QS W w num k i sm y6 y7 y8 om om (some (wl W,om)))=.rt x d ρ/\Res x:=by
 have z:=sz
 have rows:∀ y∈W.map wd,WS y:=λ y hy=>by
  obtain ⟨v,hv,rfl⟩:=jd4.mp hy
  exact zkh (tx_w v (hW v hv)) (by decide)
 have ll:(W.map wd).length=c:=by rw [ja1,hl]
 have v3:bVar 3 (QS W w num k i sm y6 y7 y8 om om (some (wl W,om)))=.ok (.lst (W.map wd),0,QS W w num k i sm y6 y7 y8 om om (some (wl W,om))):=rfl
 have cool3:∀ (d:Nat) (vs:List Nat) (x:PV),(vs=[3,3]\/vs=[3])->(zqs d vs (QS W w num k i sm y6 y7 y8 om om (some (wl W,om)))).set 3 (some (x,d))=QS W w num k i sm y6 y7 y8 om om (some (x,d)):=λ d vs x h=>by
  unfold zqs
  rcases h with rfl | rfl <;> split <;> rfl
 have t5:=t_ok (zkl (p:=λ i j=>decide (i < j)) (f:=bVar 1) (g:=bC (.int 15)) (ρ:=QS W w num k i sm y6 y7 y8 om om (some (wl W,om))) (i:=(w:Int)) (j:=15) (d:=om) (e:=om) rfl rfl)
 by_cases w8:w < 15
 ·rw [decide_eq_true (show (w:Int) < 15 by omega)] at t5
  have hw:w < sm.length:=by rw [hsm];exact w8
  have hy:=hs _ (jc3 hw)
  have vy:bBin zqe (bVar 9) (bVar 1) (QS W w num k i sm y6 y7 y8 om om (some (wl W,om)))=.ok (sm[w],dv sm[w],QS W w num k i sm y6 y7 y8 om om (some (wl W,om))):=by
   refine zxf (x:=.lst sm) (d:=0) (y:=.int (w:Int)) (e:=om) rfl rfl ?_
   show (atI sm (w:Int)).map _=_
   rw [atI_nat (by omega) (by rw [je1];exact ja3 hw)]
   rfl
  obtain ⟨u1,u9,ec⟩:∃ u1 u9,zqs (dv sm[w]) [9,1] (QS W w num k i sm y6 y7 y8 om om (some (wl W,om)))=QS W w num k i sm y6 y7 y8 u1 u9 (some (wl W,om)):=by
   unfold zqs
   split
   ·exact ⟨_,_,rfl⟩
   ·exact ⟨_,_,rfl⟩
  have s5:q5 (QS W w num k i sm y6 y7 y8 om om (some (wl W,om)))=.nx (QS W w num k i sm y6 y7 y8 u1 u9 (some (.lst ((W.map wd).set k sm[w]),1))):=by
   refine (if_t t5).trans ?_
   unfold qb9
   rw [vy]
   dsimp only
   rw [ec]
   show (match ixN (W.map wd).length (k:Int) with | some n=>if om≠0 then Rs.nx _ else Rs.no | none=>Rs.no)=_
   rw [ixn (by rw [ll];exact hk)]
   rfl
  refine ⟨_,_,_,(zqd s5).trans ((zva (by omega)).trans ((zva (by omega)).trans ((zva (by omega)).trans ((zva (by omega)).trans rfl)))),zyk (by rw [jf3,ll];omega) λ u hu=>?_⟩
  rcases List.mem_or_eq_of_mem_set hu with h | h
  ·exact rows u h
  ·rw [h];exact hy
 ·rw [decide_eq_false (show ¬ (w:Int) < 15 by omega)] at t5
  have s5:q5 (QS W w num k i sm y6 y7 y8 om om (some (wl W,om)))=.nx (QS W w num k i sm y6 y7 y8 om om (some (wl W,om))):=(if_f t5).trans rfl
  by_cases w15:(w:Int)=15
  ·have h:=zvq (qm8 (j:=bVar 4) v3 (e:=om) (n:=k) rfl (by rw [ll];omega)) (qjy v3 (j:=bVar 4) (e:=om) (n:=k) rfl (by rw [ll];exact hk)) (by rw [jd0,jd2];omega)
   refine ⟨_,_,_,(zqd s5).trans ((qar w15 (setF h (show 3 < 10 by decide) (cool3 _ _ _ (.inl rfl)))).trans ((zva (by omega)).trans ((zva (by omega)).trans ((zva (by omega)).trans rfl)))),zyk (by rw [jb4,jd0,jd2];omega) λ u hu=>?_⟩
   rcases jc1.mp hu with h | h
   ·exact rows u (jk5 h)
   ·exact rows u (ji4 h)
  ·by_cases w16:(w:Int)=16
   ·have h:=zvq (qm8 v3 (e:=om) (n:=k + 1) (j:=bBin zqf (bVar 4) (bC (.int 1))) (zwn (i:=(k:Int)) (j:=1) (d:=om) (e:=om) rfl rfl) (by rw [ll];omega)) (qps v3 (j:=bVar 4) (e:=om) (n:=k) rfl (by rw [ll];omega)) (by rw [jd0,jd2];omega)
    refine ⟨_,_,_,(zqd s5).trans ((zva w15).trans ((qar w16 (setF h (show 3 < 10 by decide) (cool3 _ _ _ (.inl rfl)))).trans ((zva (by omega)).trans ((zva (by omega)).trans rfl)))),zyk (by rw [jb4,jd0,jd2];omega) λ u hu=>?_⟩
    rcases jc1.mp hu with h | h
    ·exact rows u (jk5 h)
    ·exact rows u (ji4 h)
   ·by_cases w17:(w:Int)=17
    ·refine ⟨_,_,_,(zqd s5).trans ((zva w15).trans ((zva w16).trans ((qar w17 (setF (qcs v3 (z:=.lst (W.map wd).reverse) (c:=d1 (W.map wd).reverse) rfl) (show 3 < 10 by decide) (cool3 _ _ _ (.inr rfl)))).trans ((zva (by omega)).trans rfl)))),zyk (by rw [jg3,ll];omega) λ u hu=>rows u (jm4.mp hu)⟩
    ·by_cases w18:(w:Int)=18
     ·refine ⟨_,_,_,(zqd s5).trans ((zva w15).trans ((zva w16).trans ((zva w17).trans ((qar w18 (setF (zxd (zxb v3) (z:=.tup (W.map wd)) (c:=0) rfl) (show 3 < 10 by decide) (cool3 _ _ _ (.inr rfl)))).trans rfl)))),qdj (by rw [ll];omega) rows⟩
     ·exact ⟨_,_,_,(zqd s5).trans ((zva w15).trans ((zva w16).trans ((zva w17).trans ((zva w18).trans rfl)))),zyk (by rw [ll];omega) rows⟩
theorem qdc (hl:W.length=c) (hc:1<=c/\c<=6) (hW:∀ w∈W,Wd a b w) (ha:1<=a/\a<=6) (hb:1<=b/\b<=6) (hn:0<=num):∃ x d,F26 [wl W,.int (w:Int),.int num]=.ok (x,d,.non)/\Res x:=by
 have z:=sz
 let N:QQ.Slot:=none
 let S (s3 s4 s5 s6 s7 s8 s9:QQ.Slot):Rho:=[some (wl W,0),some (.int (w:Int),om),some (.int num,om),s3,s4,s5,s6,s7,s8,s9]
 have v1:sSet false 3 (zqb zvu (zqa (bVar 0) (aNil))) [0] (S N N N N N N N)=.nx (S (some (wl W,om)) N N N N N N):=
  setF (zxd (xs:=[(wl W,0)]) (z:=wl W) (c:=d1 (W.map wd)) rfl rfl) (show 3 < 10 by decide) (by rw [qo9];rfl)
 obtain ⟨k,ek⟩:∃ k:Nat,num % (c:Int)=(k:Int):=⟨(num % (c:Int)).toNat,by have:=jg4 num (show (c:Int)≠0 by omega);omega⟩
 have hk:k < c:=by have:=jg8 num (show (0:Int) < c by omega);omega
 have v2:sSet false 4 (bBin zxh (bVar 2) (zqb zqu (zqa (bVar 3) (aNil)))) [2,3] (S (some (wl W,om)) N N N N N N)=.nx (S (some (wl W,om)) (some (.int (k:Int),om)) N N N N N):=by
  have h:=zzc (f:=bVar 2) (g:=zqb zqu (zqa (bVar 3) (aNil))) (ρ:=S (some (wl W,om)) N N N N N N) (ρ1:=S (some (wl W,om)) N N N N N N) (ρ2:=S (some (wl W,om)) N N N N N N) (i:=num) (j:=((W.map wd).length:Nat)) (d:=om) (e:=om) rfl rfl (by rw [ja1];omega)
  rw [ja1,hl,ek] at h
  exact setF h (show 4 < 10 by decide) rfl
 let u:=W.getD k []
 have hu:u∈W:=by
  show W.getD k []∈W
  rw [ja0,ja3 (show k < W.length by omega)]
  exact jc3 _
 have lu:u.length=a + b:=(hW u hu).len
 have tu:Tx 12 (strW u):=tx_w u (by omega)
 have gk:∀ s5 s6 s7 s8 s9,gK (S (some (wl W,om)) (some (.int (k:Int),om)) s5 s6 s7 s8 s9)=.ok (wd u,om,S (some (wl W,om)) (some (.int (k:Int),om)) s5 s6 s7 s8 s9):=λ s5 s6 s7 s8 s9=>by
  refine zxf (x:=wl W) (d:=0) (y:=.int (k:Int)) (e:=om) rfl rfl ?_
  show (atI (W.map wd) (k:Int)).map _=_
  rw [atI_nat (x:=wd u) (by omega) (by rw [je1,jc4,show W[k]?=some u from by show W[k]?=some (W.getD k []);rw [ja0,ja3 (show k < W.length by omega)];rfl];rfl)]
  rfl
 obtain ⟨i,ei⟩:∃ i:Nat,num / 10 % ((a + b:Nat) - 1:Int)=(i:Int):=⟨(num / 10 % ((a + b:Nat) - 1:Int)).toNat,by have:=jg4 (num / 10) (show ((a + b:Nat) - 1:Int)≠0 by omega);omega⟩
 have hi:i + 1 < a + b:=by have:=jg8 (num / 10) (show (0:Int) < ((a + b:Nat) - 1:Int) by omega);omega
 let S5:=S (some (wl W,om)) (some (.int (k:Int),om))
 have v3:sSet false 5 (bBin zxh (bBin zwd (bVar 2) (bC (.int 10))) (bBin zzz (zqb zqu (zqa gK (aNil))) (bC (.int 1)))) [2,3,4] (S5 N N N N N)=.nx (S5 (some (.int (i:Int),om)) N N N N):=by
  have ln:=qac (f:=gK) (ρ:=S5 N N N N N) (ρ1:=S5 N N N N N) (z:=strW u) (d:=om) (gk _ _ _ _ _) (by rw [zwv];omega)
  rw [zwv,lu] at ln
  have h:=zzc (zpv (f:=bVar 2) (g:=bC (.int 10)) (ρ:=S5 N N N N N) (ρ1:=S5 N N N N N) (ρ2:=S5 N N N N N) (i:=num) (j:=10) (d:=om) (e:=om) rfl rfl (by decide) (by decide)) (qau ln (g:=bC (.int 1)) (j:=1) (e:=om) rfl) (by omega)
  rw [ei] at h
  exact setF h (show 5 < 10 by decide) rfl
 let T (s6 s7 s8 s9:QQ.Slot):Rho:=S5 (some (.int (i:Int),om)) s6 s7 s8 s9
 have gkE:∀ s6 s7 s8 s9,Ev gK (T s6 s7 s8 s9) 12:=λ s6 s7 s8 s9=>⟨_,gk _ _ _ _ _,tu⟩
 have g1E:∀ s6 s7 s8 s9,g1 (T s6 s7 s8 s9)=.ok (.int ((i + 1:Nat):Int),om,T s6 s7 s8 s9):=λ _ _ _ _=>zwn (i:=(i:Int)) (j:=1) (d:=om) (e:=om) rfl rfl
 have ev:∀ (f:Fx) (n:Int) (ρ:Rho),f ρ=.ok (.int n,om,ρ)->evO (some f) ρ=.ok (some n,ρ):=λ f n ρ h=>by
  show (f ρ).bind _=_
  rw [h]
  rfl
 obtain ⟨y6,h6,t6⟩:=(gkE N N N N).sl (lo:=none) (hi:=some (bVar 5)) (l:=none) (u:=some (i:Int)) (by decide) rfl (ev _ _ _ rfl)
 have v4:sSet false 6 (bSl gK none (some (bVar 5))) [3,4] (T N N N N)=.nx (T (some (.str y6,om)) N N N):=setF h6 (show 6 < 10 by decide) rfl
 obtain ⟨y7,h7,t7⟩:=(gkE (some (.str y6,om)) N N N).sl (lo:=some g1) (hi:=none) (l:=some ((i + 1:Nat):Int)) (u:=none) (by decide) (ev _ _ _ (g1E _ _ _ _)) rfl
 have v5:sSet false 7 (bSl gK (some g1) none) [3,4] (T (some (.str y6,om)) N N N)=.nx (T (some (.str y6,om)) (some (.str y7,om)) N N):=setF h7 (show 7 < 10 by decide) rfl
 obtain ⟨y8,h8,t8⟩:=(Ev.ix (gk _ _ _ _ _) (g1E (some (.str y6,om)) (some (.str y7,om)) N N) ⟨jc6 tu.1 (by decide),tu.2⟩ (by rw [zwv,lu];exact hi)).add (Ev.ix (f:=gK) (g:=bVar 5) (ρ:=T (some (.str y6,om)) (some (.str y7,om)) N N) (gk _ _ _ _ _) (i:=i) rfl ⟨jc6 tu.1 (by decide),tu.2⟩ (by rw [zwv,lu];omega)) (by decide)
 have v6:sSet false 8 (bBin zqf (bBin zqe gK g1) (bBin zqe gK (bVar 5))) [3,4,5,3,4,5] (T (some (.str y6,om)) (some (.str y7,om)) N N)=.nx (T (some (.str y6,om)) (some (.str y7,om)) (some (.str y8,om)) N):=setF h8 (show 8 < 10 by decide) rfl
 let U (s9:QQ.Slot):Rho:=T (some (.str y6,om)) (some (.str y7,om)) (some (.str y8,om)) s9
 have E6:∀ s,Ev (bVar 6) (U s) 12:=λ s=>⟨_,rfl,t6⟩
 have E7:∀ s,Ev (bVar 7) (U s) 12:=λ s=>⟨_,rfl,t7⟩
 have E8:∀ s,Ev (bVar 8) (U s) 12:=λ s=>⟨_,rfl,jc6 t8.1 (by decide),t8.2⟩
 have EK:∀ s,Ev gK (U s) 12:=λ s=>gkE _ _ _ _
 have EC:∀ (x:Str) s,Tx 1 x->Ev (bC (.str x)) (U s) 1:=λ x s h=>⟨x,rfl,h⟩
 obtain ⟨z0,p0,r0⟩:=((E6 N).add (E8 N) (by decide)).add ((EK N).sl (lo:=some (bBin zqf (bVar 5) (bC (.int 2)))) (hi:=none) (l:=some ((i:Int) + 2)) (u:=none) (by decide) (ev _ _ _ (zwn (i:=(i:Int)) (j:=2) (d:=om) (e:=om) rfl rfl)) rfl) (by decide)
 obtain ⟨z1,p1,r1⟩:=((E6 N).add (EC "r" N ⟨by decide +kernel,by decide +kernel⟩) (by decide)).add (E7 N) (by decide)
 let M1:QQ.Slot:=some (.lst [.str z0,.str z1],om)
 have v7:sSet false 9 s7 [6,8,3,4,6,7] (U N)=.nx (U M1):=setF (zxd (zqm p0 (zxb p1)) (z:=.lst [.str z0,.str z1]) (c:=om) rfl) (show 9 < 10 by decide) rfl
 obtain ⟨z2,p2,r2⟩:=((E6 M1).add (EC "d" M1 ⟨by decide +kernel,by decide +kernel⟩) (by decide)).add (E7 M1) (by decide)
 obtain ⟨z3,p3,r3⟩:=(E6 M1).add (E7 M1) (by decide)
 obtain ⟨z4,p4,r4⟩:=(EK M1).add (EC "r" M1 ⟨by decide +kernel,by decide +kernel⟩) (by decide)
 obtain ⟨z5,p5,r5⟩:=(EK M1).add (EC "d" M1 ⟨by decide +kernel,by decide +kernel⟩) (by decide)
 let M2:QQ.Slot:=some (.lst [.str z0,.str z1,.str z2,.str z3,.str z4,.str z5],om)
 have v8:sSet false 9 (bBin zqf (bVar 9) s8) [9,6,7,6,7,3,4,3,4] (U M1)=.nx (U M2):=setF (zvq (f:=bVar 9) (xs:=[.str z0,.str z1]) (d:=0) (ρ1:=U M1) rfl (zxd (zqm p2 (zqm p3 (zqm p4 (zxb p5)))) (z:=.lst [.str z2,.str z3,.str z4,.str z5]) (c:=om) rfl) (by show 6<=sizeLine;omega)) (show 9 < 10 by decide) rfl
 obtain ⟨z6,p6,r6⟩:=((E6 M2).add (EC "x" M2 ⟨by decide +kernel,by decide +kernel⟩) (by decide)).add (E7 M2) (by decide)
 obtain ⟨z7,p7,r7⟩:=((E6 M2).add (EC "R" M2 ⟨by decide +kernel,by decide +kernel⟩) (by decide)).add (E7 M2) (by decide)
 let M3:QQ.Slot:=some (.lst [.str z0,.str z1,.str z2,.str z3,.str z4,.str z5,.str z6,.str z7],om)
 have v9:sSet false 9 (bBin zqf (bVar 9) s9) [9,6,7,6,7] (U M2)=.nx (U M3):=setF (zvq (f:=bVar 9) (xs:=[.str z0,.str z1,.str z2,.str z3,.str z4,.str z5]) (d:=0) (ρ1:=U M2) rfl (zxd (zqm p6 (zxb p7)) (z:=.lst [.str z6,.str z7]) (c:=om) rfl) (by show 8<=sizeLine;omega)) (show 9 < 10 by decide) rfl
 obtain ⟨z8,p8,r8⟩:=(EC " " M3 ⟨by decide +kernel,by decide +kernel⟩).add (EK M3) (by decide)
 obtain ⟨z9,p9,r9⟩:=(EK M3).add (EC "\n" M3 ⟨by decide +kernel,by decide +kernel⟩) (by decide)
 obtain ⟨z11,p11,r11⟩:=(EK M3).rv (by decide)
 let sm:List PV:=[.str z0,.str z1,.str z2,.str z3,.str z4,.str z5,.str z6,.str z7,.str z8,.str z9,.str "",.str z11,.non,.lst [wd u],.int 7]
 have v10:sSet false 9 (bBin zpk (bVar 9) s10) [9,3,4,3,4,3,4,3,4] (U M3)=.nx (U (some (.lst sm,om))):=by
  have hR:=zxd (op:=zqj) (zqm p8 (zqm p9 (zqm (f:=bC (.str "")) (x:=.str "") (d:=om) rfl (zqm p11 (zqm (f:=bC .non) (x:=.non) (d:=om) rfl (zqm (zxd (op:=zqj) (zxb (gk (some (.int (i:Int),om)) (some (.str y6,om)) (some (.str y7,om)) (some (.str y8,om)) M3)) (z:=.lst [wd u]) (c:=om) rfl) (zxb (f:=bC (.int 7)) (x:=.int 7) (d:=om) rfl))))))) (z:=.lst [.str z8,.str z9,.str "",.str z11,.non,.lst [wd u],.int 7]) (c:=om) rfl
  refine setF (zxf (x:=.lst [.str z0,.str z1,.str z2,.str z3,.str z4,.str z5,.str z6,.str z7]) (d:=0) rfl hR (z:=.lst sm) (c:=om) ?_) (show 9 < 10 by decide) rfl
  rfl
 have hsm:∀ y∈sm,WS y:=by
  intro y hy
  simp only [sm,jb0,je3,or_false] at hy
  rcases hy with rfl | rfl | rfl | rfl | rfl | rfl | rfl | rfl | rfl | rfl | rfl | rfl | rfl | rfl | rfl
  ·exact zkh r0 (by decide)
  ·exact zkh r1 (by decide)
  ·exact zkh r2 (by decide)
  ·exact zkh r3 (by decide)
  ·exact zkh r4 (by decide)
  ·exact zkh r5 (by decide)
  ·exact zkh r6 (by decide)
  ·exact zkh r7 (by decide)
  ·exact zkh r8 (by decide)
  ·exact zkh r9 (by decide)
  ·exact zkh (n:=0) ⟨by decide +kernel,by decide +kernel⟩ (by decide)
  ·exact zkh r11 (by decide)
  ·exact ⟨⟨rfl,λ z e=>by cases e⟩,.none,rfl,rfl,by decide +kernel⟩
  ·refine ⟨⟨zbh (by show 1<=1000;decide) λ y hy=>by rw [jb8.mp hy];rfl,λ z e=>by cases e⟩,(zzr.lst (n:=18) (m:=50) λ y hy=>?_).le (by show 1 * (50 + 2) + 3<=5000;decide)⟩
   rw [jb8.mp hy]
   exact (zge tu.2).le (by have:=tu.1;omega)
  ·exact ⟨⟨rfl,λ z e=>by cases e⟩,(zzr.int (by decide)).le (by decide)⟩
 obtain ⟨x,d,ρ,hq,hr⟩:=qpy (w:=w) (i:=i) (num:=num) (y6:=y6) (y7:=y7) (y8:=y8) hl hc (λ v hv=>by rw [(hW v hv).len];omega) hk (sm:=sm) rfl hsm
 refine ⟨x,d,?_,hr⟩
 have hF:F26=mkFn false 3 7 b26:=rfl
 rw [hF,qpe]
 exact zxk rfl ((zqd v1).trans ((zqd v2).trans ((zqd v3).trans ((zqd v4).trans ((zqd v5).trans ((zqd v6).trans ((zqd v7).trans ((zqd v8).trans ((zqd v9).trans ((zqd v10).trans hq))))))))))
end
theorem qbg (c:Nat):F27 [.exn c]=.ok (.lst [.bl ([1].any (isX c)),.bl ([2].any (isX c)),.bl ([3].any (isX c)),.bl ([4].any (isX c)),.bl ([10,6,7,5,11,9,8].any (isX c)),.bl ([0].any (isX c))],om,.non):=by
 have z:=sz
 let x1:List PV:=[.bl ([1].any (isX c)),.bl ([2].any (isX c)),.bl ([3].any (isX c))]
 let x2:List PV:=[.bl ([4].any (isX c)),.bl ([10,6,7,5,11,9,8].any (isX c)),.bl ([0].any (isX c))]
 let R (s1 s2:QQ.Slot):Rho:=[some (.exn c,om),s1,s2]
 have v1:sSet false 1 (zqb zqj (zqa (bUn (zwl [1]) (bVar 0)) (zqa (bUn (zwl [2]) (bVar 0)) (zqa (bUn (zwl [3]) (bVar 0)) (aNil))))) [0,0,0] (R none none)=.nx (R (some (.lst x1,om)) none):=
  setF (zxd (xs:=[(.bl ([1].any (isX c)),om),(.bl ([2].any (isX c)),om),(.bl ([3].any (isX c)),om)]) rfl (by unfold zqj;rw [if_pos (by show 3<=sizeLine;omega)])) (show 1 < 3 by decide) rfl
 have v2:sSet false 2 (bUn (zwl [10,6,7,5,11,9,8]) (bVar 0)) [0] (R (some (.lst x1,om)) none)=.nx (R (some (.lst x1,om)) (some (.bl ([10,6,7,5,11,9,8].any (isX c)),om))):=rfl
 have v3:zqb zqj (zqa (bUn (zwl [4]) (bVar 0)) (zqa (bVar 2) (zqa (bUn (zwl [0]) (bVar 0)) (aNil)))) (R (some (.lst x1,om)) (some (.bl ([10,6,7,5,11,9,8].any (isX c)),om)))=.ok (.lst x2,om,R (some (.lst x1,om)) (some (.bl ([10,6,7,5,11,9,8].any (isX c)),om))):=
  zxd (xs:=[(.bl ([4].any (isX c)),om),(.bl ([10,6,7,5,11,9,8].any (isX c)),om),(.bl ([0].any (isX c)),om)]) rfl (by unfold zqj;rw [if_pos (by show 3<=sizeLine;omega)];rfl)
 have v4:=zvq (f:=bVar 1) (xs:=x1) (d:=0) (ρ:=R (some (.lst x1,om)) (some (.bl ([10,6,7,5,11,9,8].any (isX c)),om))) rfl v3 (by show 3 + 3<=sizeLine;omega)
 have e:d1 (x1++x2)=om:=rfl
 rw [e] at v4
 exact zxk rfl ((zqd v1).trans ((zqd v2).trans (zxl v4)))
def qok:PV:=.lst [.bl true,.bl false,.bl false,.bl false,.bl false,.bl true]
def zvo (a b c:Nat) (far:Int):List PV:=[.tup [.int 0,.int 1,.int 1],.tup [.int 1,.int (0 - far),.int 1],.tup [.int 1,.int 1,.int (-1)],.tup [.int a,.int b],.tup [.int a,.int b,.int c,.int 1],.lst [.int a,.int b,.int c],.tup [.bl true,.int 1,.int 1],.tup [.int 1,.str "1",.int 1],.non]
def qd9 (a b c:Nat) (k:Nat) (x:PV):PV:=.tup (([.int a,.int b,.int c].take k++[x])++[.int a,.int b,.int c].drop (k + 1))
theorem qd8 {a b c k:Nat}{x:PV} (hk:k < 3) (h:zmn x=false):boxV (qd9 a b c k x)=false:=by
 show (decide _ && List.all _ zmn)=false
 rw [show List.all _ zmn=false from jo9.mpr ⟨x,ja9 _ (ja7 _ (jb8.mpr rfl)),by rw [h];exact jc5⟩,jf7]
theorem qal {a b c:Nat}{far:Int} (hf:0<=far):∀ y∈zvo a b c far,okE 3 y=true/\boxV y=false:=by
 intro y hy
 have e:zmn (.int (0 - far))=false:=decide_eq_false (by omega)
 have e2:boxV (.tup [.int 1,.int (0 - far),.int 1])=false:=by
  show (true && (true && (zmn (.int (0 - far)) && _)))=false
  rw [e];rfl
 unfold zvo at hy
 simp only [jb0,je3,or_false] at hy
 rcases hy with rfl | rfl | rfl | rfl | rfl | rfl | rfl | rfl | rfl
 ·exact ⟨rfl,rfl⟩
 ·exact ⟨rfl,e2⟩
 ·exact ⟨rfl,rfl⟩
 ·exact ⟨rfl,rfl⟩
 ·exact ⟨rfl,rfl⟩
 ·exact ⟨rfl,rfl⟩
 ·exact ⟨rfl,rfl⟩
 ·exact ⟨rfl,rfl⟩
 ·exact ⟨rfl,rfl⟩
theorem qkz {a b c k:Nat}{x:PV}{ρ:Rho}{e:Nat} (hk:k < 3) (h0:bVar 0 ρ=.ok (bx a b c,0,ρ)) (h3:bVar 3 ρ=.ok (.int (k:Int),om,ρ)) (h4:bVar 4 ρ=.ok (x,e,ρ)):∃ d,(bBin zqf (bBin zqf (bSl (bVar 0) none (some (bVar 3))) (zqb zwq (zqa (bVar 4) (aNil)))) (bSl (bVar 0) (some (bBin zqf (bVar 3) (bC (.int 1)))) none)) ρ=.ok (qd9 a b c k x,d,ρ):=by
 have z:=sz
 have h1:bSl (bVar 0) none (some (bVar 3)) ρ=.ok (.tup ([.int a,.int b,.int c].take k),0,ρ):=by
  unfold bSl
  rw [h0]
  dsimp only [Rz.bind,evO]
  rw [h3]
  dsimp only
  have:k=0\/k=1\/k=2:=by omega
  rcases this with rfl | rfl | rfl <;> rfl
 have h2:zqb zwq (zqa (bVar 4) (aNil)) ρ=.ok (.tup [x],(if zvp [(x,e)] then om else 0),ρ):=zxd (zxb h4) (by unfold zwq;rw [if_pos (by show 1<=sizeLine;omega)];rfl)
 have h5:bSl (bVar 0) (some (bBin zqf (bVar 3) (bC (.int 1)))) none ρ=.ok (.tup ([.int a,.int b,.int c].drop (k + 1)),0,ρ):=by
  unfold bSl
  rw [h0]
  dsimp only [Rz.bind,evO]
  rw [zwn h3 (j:=1) (e:=om) rfl]
  dsimp only
  have:k=0\/k=1\/k=2:=by omega
  rcases this with rfl | rfl | rfl <;> rfl
 have l1:([.int a,.int b,.int c].take k:List PV).length + ([x]:List PV).length<=sizeLine:=by rw [jd0];show min k 3 + 1<=_;omega
 have h6:=zxf h1 h2 (op:=zqf) (z:=.tup ([.int a,.int b,.int c].take k++[x])) (c:=0) (by show (if _ then _ else _)=_;rw [if_pos l1])
 have l2:([.int a,.int b,.int c].take k++[x]:List PV).length + ([.int a,.int b,.int c].drop (k + 1):List PV).length<=sizeLine:=by rw [jb4,jd0,jd2];show min k 3 + 1 + (3 - (k + 1))<=_;omega
 exact ⟨0,zxf h6 h5 (by show (if _ then _ else _)=_;rw [if_pos l2];rfl)⟩
theorem qhv {a b c:Nat}{far:Int} (hf:0<=far):∃ L d,F23 [bx a b c,.int far]=.ok (.lst L,d,.non)/\∀ y∈L,f_is_box [y]=.ok (.bl false,om,.non):=by
 have z:=sz
 let k:Nat:=(far % 3).toNat
 have hk:k < 3:=by omega
 have ek:far % 3=(k:Int):=by omega
 let R (e0:Nat) (e1:Nat) (L:List PV) (s3 s4:QQ.Slot):Rho:=[some (bx a b c,e0),some (.int far,e1),some (.lst L,1),s3,s4]
 have v1:∃ e0 e1,sSet false 2 (zqb zqj (zqa (zqb zwq (zqa (bC (.int 0)) (zqa (bC (.int 1)) (zqa (bC (.int 1)) (aNil))))) (zqa (zqb zwq (zqa (bC (.int 1)) (zqa (bBin zzz (bC (.int 0)) (bVar 1)) (zqa (bC (.int 1)) (aNil))))) (zqa (zqb zwq (zqa (bC (.int 1)) (zqa (bC (.int 1)) (zqa (bUn zwi (bC (.int 1))) (aNil))))) (zqa (bSl (bVar 0) none (some (bC (.int 2)))) (zqa (bBin zqf (bVar 0) (zqb zwq (zqa (bC (.int 1)) (aNil)))) (zqa (zqb zvu (zqa (bVar 0) (aNil))) (zqa (zqb zwq (zqa (bC (.bl true)) (zqa (bC (.int 1)) (zqa (bC (.int 1)) (aNil))))) (zqa (zqb zwq (zqa (bC (.int 1)) (zqa (bC (.str "1")) (zqa (bC (.int 1)) (aNil))))) (zqa (bC .non) (aNil))))))))))) [1,0,0,0] [some (bx a b c,0),some (.int far,om),none,none,none]=.nx (R e0 e1 (zvo a b c far) none none):=⟨_,_,rfl⟩
 obtain ⟨e0,e1,v1⟩:=v1
 have v2:sSet false 3 (bBin zxh (bVar 1) (bC (.int 3))) [1] (R e0 e1 (zvo a b c far) none none)=.nx (R e0 e1 (zvo a b c far) (some (.int (k:Int),om)) none):=
  setF (zzc (i:=far) (j:=3) rfl rfl (by decide)) (show 3 < 5 by decide) (by rw [ek];rfl)
 let els:List PV:=[.int 0,.int (-1 - far),.bl true,.str "1",.non]
 have v3:∃ ρ',zws (asgN 4) (sApp 2 (bBin zqf (bBin zqf (bSl (bVar 0) none (some (bVar 3))) (zqb zwq (zqa (bVar 4) (aNil)))) (bSl (bVar 0) (some (bBin zqf (bVar 3) (bC (.int 1)))) none)) [0,4,0]) els (R e0 e1 (zvo a b c far) (some (.int (k:Int),om)) none)=.nx ρ'/\∃ f0 f1 L f3 s4,ρ'=R f0 f1 L (some (.int (k:Int),f3)) s4/\L.length<=9 + (0 + els.length)/\∀ y∈L,okE 3 y=true/\boxV y=false:=by
  refine zkd (N:=5) (λ n ρ=>∃ f0 f1 L f3 s4,ρ=R f0 f1 L (some (.int (k:Int),f3)) s4/\L.length<=9 + n/\∀ y∈L,okE 3 y=true/\boxV y=false) (λ x=>okE 2 x=true/\zmn x=false) els 0 _ (jb3 5) ?_ ⟨_,_,_,_,_,rfl,jb3 _,qal hf⟩ ?_
  ·intro x hx
   simp only [els,jb0,je3,or_false] at hx
   rcases hx with rfl | rfl | rfl | rfl | rfl
   ·exact ⟨rfl,rfl⟩
   ·exact ⟨rfl,decide_eq_false (by omega)⟩
   ·exact ⟨rfl,rfl⟩
   ·exact ⟨rfl,rfl⟩
   ·exact ⟨rfl,rfl⟩
  ·rintro x n ρ hn ⟨hx1,hx2⟩ ⟨f0,f1,L,f3,s4,rfl,hl,hL⟩
   refine ⟨R f0 f1 L (some (.int (k:Int),f3)) (some (x,dv x)),?_⟩
   obtain ⟨d,ev⟩:=qkz (a:=a) (b:=b) (c:=c) (x:=x) (e:=dv x) (ρ:=R f0 f1 L (some (.int (k:Int),f3)) (some (x,dv x))) hk rfl rfl rfl
   obtain ⟨g0,s4',ec⟩:∃ g0 s4',zqs d [0,4,0] (R f0 f1 L (some (.int (k:Int),f3)) (some (x,dv x)))=R g0 f1 L (some (.int (k:Int),f3)) s4':=by
    unfold zqs
    split
    ·exact ⟨_,_,rfl⟩
    ·exact ⟨_,_,rfl⟩
   refine ⟨R g0 f1 (L++[qd9 a b c k x]) (some (.int (k:Int),f3)) s4',rfl,?_,g0,f1,_,f3,s4',rfl,?_,?_⟩
   ·refine zyh (xs:=L) (d:=1) (d0:=0) (xs0:=L) rfl ev (by rw [ec];rfl) (by decide) (by omega) ?_
    rw [ec]
    rfl
   ·rw [jb4,jd7];omega
   ·intro y hy
    rcases jc1.mp hy with hy | hy
    ·exact hL y hy
    ·rw [jb8.mp hy]
     refine ⟨zhz ?_ λ w hw=>?_,qd8 hk hx2⟩
     ·rw [jb4,jb4,jd0,jd2];show min k 3 + 1 + (3 - (k + 1))<=_;omega
     ·have h3:∀ v∈([.int a,.int b,.int c]:List PV),okE 2 v=true:=by
       intro v hv
       simp only [jb0,je3,or_false] at hv
       rcases hv with rfl | rfl | rfl <;> rfl
      rcases jc1.mp hw with hw | hw
      ·rcases jc1.mp hw with hw | hw
       ·exact h3 w (jk5 hw)
       ·rw [jb8.mp hw];exact hx1
      ·exact h3 w (ji4 hw)
 obtain ⟨ρ',v3,f0,f1,L,f3,s4,rfl,hl,hL⟩:=v3
 have v4:=qlg (f:=zqb zwq (zqa (bC (.int 0)) (zqa (bBin zzz (bUn zwi (bC (.int 1))) (bVar 1)) (zqa (bC (.bl true)) (zqa (bC (.str "1")) (zqa (bC .non) (aNil))))))) (vs:=[1]) (ρ:=R e0 e1 (zvo a b c far) (some (.int (k:Int),om)) none) (els:=els) (d:=om) rfl rfl v3
 have v5:=zvq (f:=bVar 2) (xs:=L) (d:=0) (ρ:=R f0 f1 L (some (.int (k:Int),f3)) s4) (h:=zqb zqj (zqa (bC (.str "box")) (zqa (bC (.int 3)) (aNil)))) (ys:=[.str "box",.int 3]) (e:=om) rfl rfl (by show L.length + 2<=sizeLine;have:els.length=5:=rfl;omega)
 refine ⟨L++[.str "box",.int 3],_,zxk rfl ((zqd v1).trans ((zqd v2).trans ((zqd v4).trans (zxl v5)))),?_⟩
 intro y hy
 have:okE 3 y=true/\boxV y=false:=by
  rcases jc1.mp hy with hy | hy
  ·exact hL y hy
  ·simp only [jb0,je3,or_false] at hy
   rcases hy with rfl | rfl <;> exact ⟨rfl,rfl⟩
 rw [qls this.1,this.2]
theorem cnt_snoc (xs:List Int) (x k:Int):QV.cnt (xs++[x]) k=QV.cnt xs k + if decide (k < x)=true then 1 else 0:=by
 unfold QV.cnt
 rw [List.filter_append,jb4]
 by_cases h:k < x
 ·rw [jg0 (by simpa using h),if_pos (decide_eq_true h)]
  simp
 ·rw [je5 (by simpa using h),if_neg (by simpa using h)]
  simp
theorem zju {α:Type}{xs:List α}{n:Nat}{x:α} (h:xs[n]?=some x):xs.take (n + 1)=xs.take n++[x]:=by
 rw [jn9,h]
 rfl
def m7:Fs:=sSet false 6 (bBin zqf (bVar 6) (zqb zgm (zqa (bBin (zxq λ i j=>decide (j < i)) (bVar 7) (bVar 3)) (aNil)))) [6,7,3]
def m5:Fs:=sSeq (sSet false 6 (bC (.int 0)) []) (sSeq (zwk (bVar 5) [5] (asgN 7) m7) (sApp 4 (bVar 6) [6]))
def m3:Fs:=sSeq (sSet false 4 (zqb zqj (aNil)) []) (sSeq (zwk (bVar 1) [1] (asgN 5) m5) (sApp 2 (bVar 4) [4]))
theorem qph:b21=sSeq (sSet false 2 (zqb zqj (aNil)) []) (sSeq (zkj zxu (zqa (bBin zqe (bVar 0) (bC (.int 2))) (aNil)) (asgN 3) m3) (zjc 2)):=rfl
section
variable {a b c:Nat}{t:List (List Int)}
def RM (a b c:Nat) (t:List (List Int)) (s2 s3 s4 s5 s6 s7:QQ.Slot):Rho:=[some (bx a b c,0),some (tb t,0),s2,s3,s4,s5,s6,s7]
theorem qp5 {s2 s6 s7:QQ.Slot}{k:Int}{acc r:List Int} (hr:r.length<=1000) (ha:acc.length<=1000):∃ s6' s7',m5 (RM a b c t s2 (some (.int k,om)) (some (il acc,om)) (some (il r,0)) s6 s7)=.nx (RM a b c t s2 (some (.int k,om)) (some (il (acc++[QV.cnt r k]),om)) (some (il r,0)) s6' s7'):=by
 have z:=sz
 let Q (s6 s7:QQ.Slot):Rho:=RM a b c t s2 (some (.int k,om)) (some (il acc,om)) (some (il r,0)) s6 s7
 have v1:sSet false 6 (bC (.int 0)) [] (Q s6 s7)=.nx (Q (some (.int 0,om)) s7):=rfl
 obtain ⟨ρ',v2,s7',rfl⟩:=qbj (f:=bVar 5) (vs:=[5]) (asg:=asgN 7) (body:=m7) (ρ:=Q (some (.int 0,om)) s7) (ρ2:=Q (some (.int 0,om)) s7) (els:=r.map .int) (d:=0) (λ n ρ=>∃ s7,ρ=Q (some (.int (QV.cnt (r.take n) k),om)) s7) rfl rfl ⟨s7,rfl⟩ (by
  rintro n x ρ hx ⟨s,rfl⟩
  rw [jc4] at hx
  obtain ⟨v,hv,rfl⟩:=jb5.mp hx
  refine ⟨Q (some (.int (QV.cnt (r.take n) k),om)) (some (.int v,om)),Q (some (.int (QV.cnt (r.take (n + 1)) k),om)) (some (.int v,om)),rfl,?_,_,rfl⟩
  refine setF (zwn (i:=QV.cnt (r.take n) k) (d:=om) rfl (zxd (zxb (zkl (i:=v) (j:=k) (d:=om) (e:=om) rfl rfl)) rfl)) (show 6 < 8 by decide) ?_
  rw [zju hv,cnt_snoc]
  rfl)
 rw [ja1,jh9] at v2
 have v3:sApp 4 (bVar 6) [6] (Q (some (.int (QV.cnt r k),om)) s7')=.nx (RM a b c t s2 (some (.int k,om)) (some (il (acc++[QV.cnt r k]),om)) (some (il r,0)) (some (.int (QV.cnt r k),om)) s7'):=
  zyh (xs:=acc.map .int) (d:=om) (d0:=999) (xs0:=acc.map .int) (e:=om) rfl rfl rfl (by decide) (by rw [ja1];omega) (by rw [zyr];rfl)
 exact ⟨_,_,(zqd v1).trans ((zqd v2).trans v3)⟩
theorem qp6 {X:List (List Int)}{d:Nat}{k:Int}{s4 s5 s6 s7:QQ.Slot} (ht:Tab a b t) (ha:a<=100) (hb:b<=100) (hX:X.length<=1000):∃ s4' s5' s6' s7',m3 (RM a b c t (some (tb X,d + 1)) (some (.int k,om)) s4 s5 s6 s7)=.nx (RM a b c t (some (tb (X++[zjy t k]),1)) (some (.int k,om)) s4' s5' s6' s7'):=by
 have z:=sz
 let Q (s4 s5 s6 s7:QQ.Slot):Rho:=RM a b c t (some (tb X,d + 1)) (some (.int k,om)) s4 s5 s6 s7
 have v1:sSet false 4 (zqb zqj (aNil)) [] (Q s4 s5 s6 s7)=.nx (Q (some (il [],om)) s5 s6 s7):=rfl
 obtain ⟨ρ',v2,s5',s6',s7',rfl⟩:=qbj (f:=bVar 1) (vs:=[1]) (asg:=asgN 5) (body:=m5) (ρ:=Q (some (il [],om)) s5 s6 s7) (ρ2:=Q (some (il [],om)) s5 s6 s7) (els:=t.map il) (d:=0) (λ n ρ=>∃ s5 s6 s7,ρ=Q (some (il ((t.take n).map λ r=>QV.cnt r k),om)) s5 s6 s7) rfl rfl ⟨s5,s6,s7,rfl⟩ (by
  rintro n x ρ hx ⟨s5,s6,s7,rfl⟩
  rw [jc4] at hx
  obtain ⟨r,hr,rfl⟩:=jb5.mp hx
  have hm:=jn4 hr
  obtain ⟨s6',s7',h⟩:=qp5 (a:=a) (b:=b) (c:=c) (t:=t) (s2:=some (tb X,d + 1)) (s6:=s6) (s7:=s7) (k:=k) (acc:=(t.take n).map λ r=>QV.cnt r k) (r:=r) (by rw [ht.2 r hm];omega) (by rw [ja1,jd0,ht.1];omega)
  refine ⟨Q (some (il ((t.take n).map λ r=>QV.cnt r k),om)) (some (il r,0)) s6 s7,_,rfl,h,some (il r,0),s6',s7',?_⟩
  rw [zju hr,je8]
  rfl)
 rw [ja1,jh9] at v2
 have v3:sApp 2 (bVar 4) [4] (Q (some (il (zjy t k),om)) s5' s6' s7')=.nx (RM a b c t (some (tb (X++[zjy t k]),1)) (some (.int k,om)) (some (il (zjy t k),0)) s5' s6' s7'):=
  zyh (xs:=X.map il) (d:=d + 1) (d0:=d) (xs0:=X.map il) (e:=0) rfl rfl rfl (by omega) (by rw [ja1];omega) (by rw [zhp,if_neg (λ h=>absurd h.2 (by decide))];rfl)
 exact ⟨_,_,_,_,(zqd v1).trans ((zqd v2).trans v3)⟩
theorem qiz (ht:Tab a b t) (ha:a<=100) (hb:b<=100) (hc:1<=c/\c<=100):F21 [bx a b c,tb t]=.ok (tb (zxc t c),1,.non):=by
 have v1:sSet false 2 (zqb zqj (aNil)) [] (RM a b c t none none none none none none)=.nx (RM a b c t (some (tb [],om)) none none none none none):=rfl
 have hf:zqa (bBin zqe (bVar 0) (bC (.int 2))) aNil (RM a b c t (some (tb [],om)) none none none none none)=.ok ([(.int (c:Int),om)],RM a b c t (some (tb [],om)) none none none none none):=rfl
 obtain ⟨ρ',v2,d,s3,s4,s5,s6,s7,rfl,hd⟩:=zkg (i:=3) (body:=m3) (lo:=0) (hi:=(c:Int)) (λ n ρ=>∃ d s3 s4 s5 s6 s7,ρ=RM a b c t (some (tb (zxc t n),d + 1)) s3 s4 s5 s6 s7/\(1<=n->d=0)) hf (zwx (by omega) (by omega)) ⟨999,_,_,_,_,_,rfl,λ h=>absurd h (by decide)⟩ (by
  rintro n ρ hn ⟨d,s3,s4,s5,s6,s7,rfl,_⟩
  refine ⟨(by decide:3 < 8),?_⟩
  rw [jh4]
  obtain ⟨s4',s5',s6',s7',h⟩:=qp6 (a:=a) (b:=b) (c:=c) (t:=t) (X:=zxc t n) (d:=d) (k:=(n:Int)) (s4:=s4) (s5:=s5) (s6:=s6) (s7:=s7) ht ha hb (by unfold zxc;rw [ja1,je2];omega)
  refine ⟨_,h,0,some (.int (n:Int),om),s4',s5',s6',s7',?_,λ _=>rfl⟩
  unfold zxc
  rw [jl0,je8]
  rfl)
 rw [show ((c:Int) - 0).toNat=c by omega] at v2 hd
 have d0:=hd hc.1
 subst d0
 have hF:F21=mkFn false 2 6 b21:=rfl
 rw [hF,qph]
 exact zxk rfl ((zqd v1).trans ((zqd v2).trans rfl))
end
def wC:Fb:=bT (bOrV (bBin (zxq λ i j=>decide (j<=i)) (bVar 3) (bC (.int 0))) (bBin (zxq λ i j=>decide (i < j)) (bVar 4) (bVar 1)))
def wD:Fx:=zxp (bBin (zxq λ i j=>decide (j<=i)) (bVar 3) (bC (.int 0))) (bBin (opEq false) (bBin zqe (bVar 0) (bVar 3)) (bVar 4))
def wLp:Fs:=sIf (bT wD) (sSeq (sSet false 2 (bBin zqf (bVar 2) (bC (.str "d"))) [2]) (sSet false 3 (bBin zzz (bVar 3) (bC (.int 1))) [3])) (sSeq (sSet false 2 (bBin zqf (bVar 2) (bC (.str "r"))) [2]) (sSet false 4 (bBin zqf (bVar 4) (bC (.int 1))) [4]))
theorem qpg:b22=(sSeq (sSet false 2 (bC (.str "")) [])
 (sSeq (sSet false 3 (bBin zzz (zqb zqu (zqa (bVar 0) (aNil))) (bC (.int 1))) [0])
 (sSeq (sSet false 4 (bC (.int 0)) [])
 (sSeq (qay wC wLp)
 (zjc 2))))):=rfl
def RW (s:List Int) (b:Nat) (w:List Bool) (p:Int) (k:Nat):Rho:=[some (il s,0),some (.int (b:Int),om),some (wd w,om),some (.int p,om),some (.int (k:Int),om)]
theorem zgo {s:List Int}{r:Nat} (h:r < s.length):nsOf (s.take (r + 1))=(s.getD r 0).toNat::nsOf (s.take r):=by
 unfold nsOf
 rw [zju (zwc h),List.reverse_append]
 rfl
section
variable {s:List Int}{b:Nat}
theorem qpj {w:List Bool}{p:Int}{k:Nat} (x:Bool) (hl:w.length<=1000):sSet false 2 (bBin zqf (bVar 2) (bC (wd [x]))) [2] (RW s b w p k)=.nx (RW s b (w++[x]) p k):=
 setF (ql3 (u:=w) (v:=[x]) (d:=om) (e:=om) rfl rfl (by show w.length + 1<=_;omega)) (show 2 < 5 by decide) rfl
theorem zmg (hs:∀ x∈s,0<=x):∀ (m r k:Nat) (w:List Bool),r<=s.length->Rise b k (nsOf (s.take r))->r + (b - k) < m->w.length + (r + (b - k))<=1000->∃ p' k',zje wC wLp m (RW s b w ((r:Int) - 1) k)=.nx (RW s b (w++wayR b k (nsOf (s.take r))) p' k')
 | 0,_,_,_,_,_,h,_=>absurd h (Nat.not_lt_zero _)
 | m + 1,r,k,w,hr,hR,hm,hl=>by
  have kb:=hR.le
  have c1:wC (RW s b w ((r:Int) - 1) k)=.ok (decide ((0:Int)<=(r:Int) - 1) || decide ((k:Int) < b),RW s b w ((r:Int) - 1) k):=
   t_ok (zko (zkl (i:=(r:Int) - 1) (j:=0) (d:=om) (e:=om) rfl rfl) (λ _=>zkl (i:=(k:Int)) (j:=(b:Int)) (d:=om) (e:=om) rfl rfl) rfl)
  have stepR:(∀ n∈nsOf (s.take r),k + 1<=n)->k + 1<=b->Rise b (k + 1) (nsOf (s.take r))->wD (RW s b w ((r:Int) - 1) k)=.ok (.bl false,om,RW s b w ((r:Int) - 1) k)->∃ p' k',zje wC wLp (m + 1) (RW s b w ((r:Int) - 1) k)=.nx (RW s b (w++wayR b k (nsOf (s.take r))) p' k'):=by
   intro h1 h2 h3 h4
   have b1:wLp (RW s b w ((r:Int) - 1) k)=.nx (RW s b (w++[true]) ((r:Int) - 1) (k + 1)):=
    (if_f (t_ok h4)).trans ((zqd (qpj true (by omega))).trans (setF (zwn (i:=(k:Int)) (j:=1) (d:=om) (e:=om) rfl rfl) (show 4 < 5 by decide) rfl))
   obtain ⟨p',k',e⟩:=zmg hs m r (k + 1) (w++[true]) hr h3 (by omega) (by rw [jb4];show w.length + 1 + _<=_;omega)
   refine ⟨p',k',?_⟩
   have cT:(decide ((0:Int)<=(r:Int) - 1) || decide ((k:Int) < b))=true:=by rw [decide_eq_true (show (k:Int) < b by omega),jp2]
   unfold zje
   rw [c1,cT]
   dsimp only
   rw [b1]
   dsimp only
   rw [e,zfy h1 h2,jh2]
   rfl
  cases r with
  | zero=>
   rw [jk0] at hR ⊢
   by_cases h:k < b
   ·exact stepR (λ n hn=>by cases hn) (by omega) (by show k + 1<=b;omega) (zzo (a:=false) (b:=false) (zkl (i:=((0:Nat):Int) - 1) (j:=0) (d:=om) (e:=om) rfl rfl) (λ e=>nomatch e) rfl)
   ·have cF:(decide ((0:Int)<=((0:Nat):Int) - 1) || decide ((k:Int) < b))=false:=by rw [decide_eq_false (show ¬ (k:Int) < b by omega)];rfl
    refine ⟨((0:Nat):Int) - 1,k,?_⟩
    unfold zje
    rw [c1,cF]
    show _=Rs.nx (RW s b (w++ja6 (b - k) true) _ k)
    rw [show b - k=0 by omega]
    show _=Rs.nx (RW s b (w++[]) _ k)
    rw [jf2]
  | succ r=>
   rw [zgo (by omega)] at hR ⊢
   obtain ⟨h1,h2⟩:=hR
   have ep:((r + 1:Nat):Int) - 1=(r:Int):=by omega
   have h0:=hs _ (QV.getD_mem (show r < s.length by omega))
   have eD:wD (RW s b w (((r + 1:Nat):Int) - 1) k)=.ok (.bl (true && decide (s.getD r 0=(k:Int))),om,RW s b w (((r + 1:Nat):Int) - 1) k):=by
    refine zzo (a:=true) (d:=om) ?_ (λ _=>?_) rfl
    ·have:=zkl (p:=λ i j=>decide (j<=i)) (f:=bVar 3) (g:=bC (.int 0)) (ρ:=RW s b w (((r + 1:Nat):Int) - 1) k) (i:=((r + 1:Nat):Int) - 1) (j:=0) (d:=om) (e:=om) rfl rfl
     rwa [decide_eq_true (show (0:Int)<=((r + 1:Nat):Int) - 1 by omega)] at this
    ·have:=zvf (neg:=false) (zvr (f:=bVar 0) (g:=bVar 3) (ρ:=RW s b w (((r + 1:Nat):Int) - 1) k) (xs:=s) (k:=((r + 1:Nat):Int) - 1) (d:=0) (e:=om) rfl rfl (atI_nat (by omega) (by rw [ep,je1];exact zwc (by omega)))) (g:=bVar 4) (j:=(k:Int)) (e:=om) rfl
     rwa [jn8] at this
   by_cases hk:s.getD r 0=(k:Int)
   ·rw [decide_eq_true hk] at eD
    have b1:wLp (RW s b w (((r + 1:Nat):Int) - 1) k)=.nx (RW s b (w++[false]) ((r:Int) - 1) k):=
     (if_t (t_ok eD)).trans ((zqd (qpj false (by omega))).trans (setF (qau (i:=((r + 1:Nat):Int) - 1) (j:=1) (d:=om) (e:=om) rfl rfl) (show 3 < 5 by decide) (by rw [ep];rfl)))
    have en:(s.getD r 0).toNat=k:=by omega
    rw [en] at h2 ⊢
    obtain ⟨p',k',e⟩:=zmg hs m r k (w++[false]) (by omega) h2 (by omega) (by rw [jb4];show w.length + 1 + _<=_;omega)
    refine ⟨p',k',?_⟩
    have cT:(decide ((0:Int)<=((r + 1:Nat):Int) - 1) || decide ((k:Int) < b))=true:=by rw [decide_eq_true (show (0:Int)<=((r + 1:Nat):Int) - 1 by omega)];rfl
    unfold zje
    rw [c1,cT]
    dsimp only
    rw [b1]
    dsimp only
    rw [e]
    show Rs.nx (RW s b (w++[false]++_) p' k')=Rs.nx (RW s b (w++(ja6 (k - k) true++false::_)) p' k')
    rw [jk3,jh2]
    rfl
   ·rw [decide_eq_false hk] at eD
    have hn:k + 1<=(s.getD r 0).toNat:=by omega
    have hb:=h2.le
    rw [zgo (by omega)] at stepR
    refine stepR (λ n hn'=>?_) (by omega) ⟨hn,h2⟩ eD
    rcases jb0.mp hn' with rfl | hn'
    ·exact hn
    ·have:=h2.all n hn'
     omega
end
theorem qem {s:List Int}{b:Nat} (h:StR b s) (hb:b<=100) (hs:s.length<=100):F22 [il s,.int (b:Int)]=.ok (wd (wayW b s),om,.non):=by
 have v1:sSet false 2 (bC (.str "")) [] [some (il s,0),some (.int (b:Int),om),none,none,none]=.nx [some (il s,0),some (.int (b:Int),om),some (wd [],om),none,none]:=rfl
 have v2:sSet false 3 (bBin zzz (zqb zqu (zqa (bVar 0) (aNil))) (bC (.int 1))) [0] [some (il s,0),some (.int (b:Int),om),some (wd [],om),none,none]=.nx [some (il s,0),some (.int (b:Int),om),some (wd [],om),some (.int ((s.length:Int) - 1),om),none]:=
  setF (qau (qa9 (xs:=s) (d:=0) rfl) (j:=1) (e:=om) rfl) (show 3 < 5 by decide) rfl
 have v3:sSet false 4 (bC (.int 0)) [] [some (il s,0),some (.int (b:Int),om),some (wd [],om),some (.int ((s.length:Int) - 1),om),none]=.nx (RW s b [] ((s.length:Int) - 1) 0):=rfl
 have hR:=h.rise
 obtain ⟨p',k',v4⟩:=zmg (s:=s) (b:=b) (λ x hx=>(h.2 x hx).1) 300 s.length 0 [] (jb3 _) (by rw [jh9];exact hR) (by omega) (by show 0 + _<=_;omega)
 rw [jh9,jg1] at v4
 have hF:F22=mkFn false 2 3 b22:=rfl
 rw [hF,qpg]
 have v5:qay wC wLp (RW s b [] ((s.length:Int) - 1) 0)=.nx (RW s b (wayW b s) p' k'):=v4
 exact zxk rfl ((zqd v1).trans ((zqd v2).trans ((zqd v3).trans ((zqd v5).trans rfl))))
theorem e181:qf5=zzn 1:=by unfold qf5;rw [qh0];rfl
theorem e182:qf4=zzn 2:=by unfold qf4;rw [qhz,e181];rfl
theorem e183:qf3=zzn 3:=by unfold qf3;rw [qhy,e182];rfl
theorem e184:F18=zzn 4:=by show qh8=_;unfold qh8;rw [qhx,e183];rfl
theorem qb3 (t:List (List Int)):F18 [tb t,tb t]=.ok (.bl true,om,.non):=by rw [e184];exact qh2 1 t
def addK (st:List (List Int)) (n:Nat):List (List Int):=(jc2 n).map (λ (k:Nat)=>st.getD k []++[(k:Int)])++st.drop n
theorem qh4 {st:List (List Int)}{n:Nat} (h:n < st.length):(addK st n)[n]?=some (st.getD n []):=by
 unfold addK
 rw [jc8 (by rw [ja1,je2];exact jb3 _),ja1,je2,jk3,List.getElem?_drop,Nat.add_zero]
 exact zbq h
theorem qf2 {st:List (List Int)}{n:Nat} (h:n < st.length):(addK st n).set n (st.getD n []++[(n:Int)])=addK st (n + 1):=by
 unfold addK
 rw [jn3 _ _ (by rw [ja1,je2];exact jb3 _),ja1,je2,jk3,jg9 h,jj1,jl0,je8,jh2]
 rfl
theorem qh5 (st:List (List Int)):addK st st.length=(jc2 st.length).map λ (k:Nat)=>st.getD k []++[(k:Int)]:=by
 unfold addK
 rw [List.drop_length,jf2]
theorem zht {a b c:Nat}{s:List (List Int)} (p:Pile c a b s):zxc (zxj s a b) c=s:=by
 have hU:Tab a b (zxj s a b):=by rw [zka];exact qaa
 refine qcw (zzi hU) p.tab λ k i hk hi=>?_
 rw [zxn hU hk hi]
 have e:(zxj s a b).getD i []=(jc2 b).map λ (j:Nat)=>QV.cnt (zwg s i) (j:Int):=by
  unfold zxj
  rw [ja0,jc4,jl1 hi]
  rfl
 have hl:(zwg s i).length=c:=by rw [zbx,p.tab.1]
 have nr:Nr (zwg s i):=λ m hm=>by
  rw [hl] at hm
  have h1:=p.dn m i hm hi
  rw [zvw (by rw [p.tab.1];exact hm),zvw (by rw [p.tab.1];omega)]
  exact h1
 rw [e,zby (H:=g s k i) (λ j hj=>by
  have:=qbv nr (j:=k) (k:=(j:Int)) (by rw [hl];exact hk)
  rw [zvw (by rw [p.tab.1];exact hk)] at this
  exact this) (p.lo k i hk hi)]
 have:=p.hi k i hk hi
 omega
theorem qjx {b:Nat}{s:List Int} (h:StR b s):stW (wayW b s)=s:=by
 unfold stW wayW
 rw [qdq h.rise]
 unfold nsOf
 rw [<- ji0,jn7,jd6]
 refine (jg5 λ x hx=>?_).trans (jo2 _)
 have:=(h.2 x hx).1
 show ((x.toNat:Nat):Int)=x
 omega
theorem qjc {a b:Nat}{w:List Bool} (h:Wd a b w):wayW b (stW w)=w:=by
 unfold wayW nsOf stW
 rw [<- ji0,jn7,jd6]
 have:(pos 0 w).map (jr1 ∘ λ (n:Nat)=>(n:Int))=pos 0 w:=(jg5 λ x _=>by show ((x:Int)).toNat=x;omega).trans (jo2 _)
 rw [this]
 exact zhn w 0 b (by rw [h.2];omega)
theorem qke {a b c:Nat}{S:List (List Int)} (p:Pile c a b S) {s:List Int} (hs:s∈S):StR b s:=by
 obtain ⟨k,hk,e⟩:=jf0 hs
 have hk':k < c:=by rw [<- p.tab.1];exact hk
 have es:S.getD k []=s:=by rw [ja0,ja3 hk,e];rfl
 have ls:s.length=a:=p.tab.2 s hs
 refine ⟨λ m hm=>?_,λ x hx=>?_⟩
 ·have:=p.rt k m hk' (by omega)
  unfold g at this
  rwa [es] at this
 ·obtain ⟨j,hj,e⟩:=jf0 hx
  have h1:=p.lo k j hk' (by omega)
  have h2:=p.hi k j hk' (by omega)
  unfold g at h1 h2
  rw [es,ja0,ja3 hj,e] at h1 h2
  exact ⟨h1,h2⟩
def noWs:PV:=.lst [.bl false,.bl false,.bl false,.bl true,.bl false,.bl true]
def Good (x:PV):Prop:=okE 12 x=true/\∀ xs,x=.lst xs->∀ y∈xs,Wk y
section
variable {a b c:Nat}
theorem qny {y x:PV} (h:f_are_ways [y,x]=.ok (.bl false,om,.non)):f_pile_of_ways [y,x]=.exc 4:=
 zgv rfl (zfj ((if_t (f:=sExc 4) (g:=sNil) (t_ok (zzb (zqh (F:=f_are_ways) (fa:=zqa (bVar 0) (zqa (bVar 1) aNil)) (ρ:=[some (y,dv y),some (x,dv x)]) (xs:=[(y,dv y),(x,dv x)]) rfl h)))).trans rfl))
theorem qb4 {y x:PV} (h:f_is_box [y]=.ok (.bl false,om,.non)):f_are_ways [y,x]=.exc 1:=
 zgv rfl (zfj (qbl (zfk (ρ:=[some (y,dv y),some (x,dv x)]) (xs:=[(y,dv y)]) rfl (qcg h))))
theorem qdo {y x:PV} (h:f_is_box [y]=.ok (.bl false,om,.non)):f_pile_of_ways [y,x]=.exc 1:=by
 refine zgv rfl (zfj ?_)
 show sIf _ (sExc 4) sNil [some (y,dv y),some (x,dv x)]=_
 have e:bT (bUn zqy (zqg f_are_ways (zqa (bVar 0) (zqa (bVar 1) (aNil))))) [some (y,dv y),some (x,dv x)]=.exc 1:=by
  unfold bT bUn
  rw [zfk (xs:=[(y,dv y),(x,dv x)]) rfl (qb4 h)]
  rfl
 unfold sIf
 rw [e]
theorem qdk {y x z:PV}{c:Nat} (hx:isX c 0=true) (h:f_pile_of_ways [y,x]=.exc c) (hk:F27 [.exn c]=.ok (z,om,.non)):F28 [y,x]=.ok (z,om,.non):=by
 let R (s2 s3:QQ.Slot):Rho:=[some (y,dv y),some (x,dv x),s2,s3]
 have v1:sSet false 2 (bC .non) [] (R none none)=.nx (R (some (.non,om)) none):=rfl
 have v2:sTry 0 2 3 [] (zzq (zqg F14 (zqa (bVar 0) (zqa (bVar 1) (aNil))))) (R (some (.non,om)) none)=.nx (R (some (.exn c,om)) none):=by
  unfold sTry
  rw [qbl (zfk (F:=F14) (xs:=[(y,dv y),(x,dv x)]) rfl h)]
  dsimp only
  rw [if_pos ⟨hx,(by decide:2 < 4),rfl⟩]
  rfl
 exact zxk rfl ((zqd v1).trans ((zqd v2).trans (zxl (zqh (xs:=[(.exn c,om)]) rfl hk))))
theorem qkf {y x:PV} (h:f_is_box [y]=.ok (.bl false,om,.non)):F28 [y,x]=.ok (qok,om,.non):=qdk rfl (qdo h) (qbg 1)
theorem qii {x:PV} (hx:Good x) (ha:1<=a/\a<=6) (hb:1<=b/\b<=6) (hc:1<=c/\c<=6) (h:due a b c x=false):F28 [bx a b c,x]=.ok (noWs,om,.non):=by
 have:=qlz hx.1 hx.2 ha hb hc
 rw [h] at this
 exact qdk rfl (qny this) (qbg 4)
theorem qlj {x:PV} (h:due a b c x=true):∃ ws:List (List Bool),x=wl ws/\ws.length=c/\(∀ w∈ws,Wd a b w)/\Pile c a b (ws.map stW):=by
 cases x with
 | lst xs=>
  have h':(decide (xs.length=c) && (xs.all (wB a b) && _))=true:=h
  rw [ja4,ja4,decide_eq_true_iff] at h'
  obtain ⟨ws,rfl,hws⟩:=zjh h'.2.1
  have hl:=h'.1
  rw [ja1] at hl
  have e:due a b c (wl ws)=true:=h
  rw [zbt hws,ja4] at e
  exact ⟨ws,rfl,hl,hws,(zkv (zji hws hl)).mp e.2⟩
 | _=>cases h
end
def xNo:Fx:=zqb zqj (zqa (bC (.bl false)) (zqa (bC (.bl false)) (zqa (bC (.bl false)) (zqa (bC (.bl true)) (zqa (bC (.bl false)) (zqa (bC (.bl true)) (aNil)))))))
def xBox:Fx:=zqb zqj (zqa (bC (.bl true)) (zqa (bC (.bl false)) (zqa (bC (.bl false)) (zqa (bC (.bl false)) (zqa (bC (.bl false)) (zqa (bC (.bl true)) (aNil)))))))
def xWs:Fx:=zqw (zqg F21 (zqa (bVar 2) (zqa (bVar 3) (aNil)))) 1 (asgN 15) zxt (zqg F22 (zqa (bVar 15) (zqa (bBin zqe (bVar 2) (bC (.int 1))) (aNil))))
def xBk:Fs:=sSeq (sSet false 12 (zqg F21 (zqa (bVar 2) (zqa (zqg F14 (zqa (bVar 2) (zqa (bVar 10) (aNil)))) (aNil)))) [2,2,10])
 (sIf (bT (bBin (opEq true) (zqw (bVar 12) 1 (asgN 15) zxt (zqg F22 (zqa (bVar 15) (zqa (bBin zqe (bVar 2) (bC (.int 1))) (aNil))))) (bVar 10))) (sRet (bC (.bl false))) sNil)
def xW:Fs:=(sSeq (sSet false 10 (zqg F26 (zqa (bVar 4) (zqa (bVar 9) (zqa (bBin zxh (bBin zwd (bVar 8) (bC (.int 400))) (bBin zjd (bC (.int 10)) (bC (.int 6)))) (aNil))))) [4,9,8])
 (sSeq (sSet false 11 (zqb zpf (zqa (bVar 10) (aNil))) [10])
 (sSeq (sIf (bT (zxp (bUn zqy (zqg F25 (zqa (bVar 2) (zqa (bVar 10) (aNil))))) (bBin (opEq true) (zqg F28 (zqa (bVar 2) (zqa (bVar 10) (aNil)))) xNo))) (sRet (bC (.bl false))) sNil)
 (sSeq (sIf (bT (bBin (opEq true) (zqb zpf (zqa (bVar 10) (aNil))) (bVar 11))) (sRet (bC (.bl false))) sNil)
 (sIf (bT (zqg F25 (zqa (bVar 2) (zqa (bVar 10) (aNil))))) xBk sNil)))))
def xTh:Fx:=zqb zqj (zqa (zqb zqj (aNil)) (zqa (bC .non) (zqa (bC (.str "ways")) (zqa (bC (.int 3)) (zqa (bC .emp) (zqa (zqb zbg (zqa (bVar 4) (aNil))) (zqa (bBin zxx (zqb zqj (zqa (bC (.str "")) (aNil))) (bBin zqe (bVar 2) (bC (.int 2)))) (zqa (bVar 3) (aNil)))))))))
def xTb:Fs:=sIf (bT (bBin (opEq true) (zqg F28 (zqa (bVar 2) (zqa (bVar 13) (aNil)))) xNo)) (sRet (bC (.bl false))) sNil
def xBb:Fs:=sIf (bT (bBin (opEq true) (zqg F28 (zqa (bVar 14) (zqa (bVar 13) (aNil)))) xBox)) (sRet (bC (.bl false))) sNil
def xB2:Fs:=zwk (zqb zqj (zqa (bVar 4) (zqa (bC (.int 3)) (aNil)))) [4] (asgN 13) xBb
def tl2:Fs:=(sSeq (zwk (zqb zqj (zqa (bBin zxh (bVar 8) (bC (.int 20))) (zqa (bBin zxh (bBin zwd (bVar 8) (bC (.int 20))) (bC (.int 20))) (aNil)))) [8,8] (asgN 9) xW)
 (sSeq (zwk xTh [4,2,3] (asgN 13) xTb)
 (sSeq (zwk (zqg F23 (zqa (bVar 2) (zqa (bBin zxh (bVar 1) (bBin zjd (bC (.int 10)) (bC (.int 30)))) (aNil)))) [2,1] (asgN 14) xB2)
 (sRet (bC (.bl true))))))
def tl1:Fs:=(sSeq (sSet false 4 xWs [2,3,2,3,2])
 (sSeq (sSet false 5 (zqb zvu (zqa (bVar 4) (aNil))) [4])
 (sSeq (sSet false 6 (zqg F14 (zqa (bVar 2) (zqa (bVar 5) (aNil)))) [2,5])
 (sSeq (sIf (bT (bOrV (bUn zqy (zqg F18 (zqa (bVar 6) (zqa (bVar 3) (aNil))))) (bBin (opEq true) (bVar 5) (bVar 4)))) (sRet (bC (.bl false))) sNil)
 (sSeq (zkj zxu (zqa (zqb zqu (zqa (bVar 6) (aNil))) (aNil)) (asgN 7) (zgg 6 (bVar 7) (bVar 7)))
 (sSeq (sIf (bT (bBin (opEq true) (bVar 6) (zwf zxu (zqa (zqb zqu (zqa (bVar 3) (aNil))) (aNil)) 1 (asgN 15) zxt (bBin zqf (bBin zqe (bVar 3) (bVar 15)) (zqb zqj (zqa (bVar 15) (aNil))))))) (sRet (bC (.bl false))) sNil)
 (sSeq (sIf (bT (bUn zqy (zqg F18 (zqa (zqg F14 (zqa (bVar 2) (zqa (bVar 4) (aNil)))) (zqa (bVar 3) (aNil)))))) (sRet (bC (.bl false))) sNil)
 (sSeq (sSet false 8 (zqg F15 (zqa (bVar 0) (zqa (bC (.int 2)) (aNil)))) [0])
 tl2))))))))
theorem qpd:b29=(sSeq (sSet false 1 (zqg F15 (zqa (bVar 0) (zqa (bC (.int 0)) (aNil)))) [0])
 (sSeq (sSet false 2 (zqg F19 (zqa (bVar 1) (zqa (bC (.int 4)) (zqa (bC (.int 6)) (aNil))))) [1])
 (sSeq (sSet false 3 (zqg F20 (zqa (bVar 2) (zqa (bVar 0) (zqa (bC (.int 3)) (zqa (zqg F15 (zqa (bVar 0) (zqa (bC (.int 1)) (aNil)))) (aNil)))))) [2,0,0])
 tl1))):=rfl
def S (ns:List Int) (cell:Int) (a b c:Nat) (t:List (List Int)) (W:List (List Bool)) (e:Nat->Nat) (s5 s6 s7 s8 s9 s10 s11 s12 s13 s14:QQ.Slot):Rho:=[some (.scr ns,e 0),some (.int cell,e 1),some (bx a b c,e 2),some (tb t,e 3),some (wl W,e 4),s5,s6,s7,s8,s9,s10,s11,s12,s13,s14]
theorem zmx {xs:List (PV×Nat)} (h:xs.length<=sizeLine):zqj xs=some (.lst (xs.map (·.1)),if zvp xs then om else 1):=by
 unfold zqj
 rw [if_pos h]
theorem qli {neg:Bool}{T:Str}{d e:Nat}:opEq neg (.str T) d (.str T) e=some (.bl (neg^^true),om):=by
 unfold opEq
 cases hD:toD 20 (.str T) with
 | some D=>
  dsimp only
  rw [SeqAt.eqv_refl D (zwo 20 _ D hD).1]
 | none=>
  dsimp only
  rw [beq_self_eq_true]
theorem qk2 {f g:Fx}{ρ ρ1 ρ2:Rho}{x:PV}{n d e:Nat} (h1:f ρ=.ok (.lst [x],d,ρ1)) (h2:g ρ1=.ok (.int (n:Int),e,ρ2)) (hn:n<=1000):bBin zxx f g ρ=.ok (.lst (ja6 n x),d1 (ja6 n x),ρ2):=by
 refine zxf h1 h2 ?_
 have z:=sz
 unfold zxx
 dsimp only
 have rep1:∀ n:Nat,repL n [x]=ja6 n x:=λ n=>by
  unfold repL
  induction n with
  | zero=>rfl
  | succ n ih=>rw [jd3,jf5,ih];rfl
 rw [if_pos ⟨by omega,by omega,by rw [jd7,je1];omega⟩,je1,rep1]
section
variable {ns:List Int}{cell num:Int}{a b c:Nat}{t:List (List Int)}{W:List (List Bool)}{e:Nat->Nat}{s5 s6 s7 s8 s9 s10 s11 s12 s13 s14:QQ.Slot}
theorem qlp (d:Nat) (vs:List Nat):∃ e':Nat->Nat,∃ q:Nat->QQ.Slot->QQ.Slot,(∀ k s,q k s=s\/q k s=s.map λ p=>(p.1,0))/\zqs d vs (S ns cell a b c t W e s5 s6 s7 s8 s9 s10 s11 s12 s13 s14)=S ns cell a b c t W e' (q 5 s5) (q 6 s6) (q 7 s7) (q 8 s8) (q 9 s9) (q 10 s10) (q 11 s11) (q 12 s12) (q 13 s13) (q 14 s14):=by
 unfold zqs
 split
 ·exact ⟨e,λ _ s=>s,λ _ _=>.inl rfl,rfl⟩
 ·refine ⟨λ k=>if vs.contains k=true then 0 else e k,λ k s=>if vs.contains k=true then s.map λ p=>(p.1,0) else s,(λ k s=>(Classical.em (vs.contains k=true)).elim (λ h=>.inr (if_pos h)) λ h=>.inl (if_neg h)),?_⟩
  have p:∀ (k:Nat) (x:PV),(if vs.contains k=true then (some (x,e k):QQ.Slot).map λ p=>(p.1,0) else some (x,e k))=some (x,if vs.contains k=true then 0 else e k):=by
   intro k x
   split <;> rfl
  unfold S
  simp only [cool,ji8,Nat.reduceAdd]
  rw [p 0,p 1,p 2,p 3,p 4]
def St (ns:List Int) (cell:Int) (a b c:Nat) (t:List (List Int)) (W:List (List Bool)) (num:Int) (ρ:Rho):Prop:=∃ e s5 s6 s7 d8 s9 s10 s11 s12 s13 s14,ρ=S ns cell a b c t W e s5 s6 s7 (some (.int num,d8)) s9 s10 s11 s12 s13 s14
theorem St.cool {ρ:Rho} (h:St ns cell a b c t W num ρ) (d:Nat) (vs:List Nat):St ns cell a b c t W num (zqs d vs ρ):=by
 obtain ⟨e,s5,s6,s7,d8,s9,s10,s11,s12,s13,s14,rfl⟩:=h
 obtain ⟨e',q,hq,ec⟩:=qlp (ns:=ns) (cell:=cell) (a:=a) (b:=b) (c:=c) (t:=t) (W:=W) (e:=e) (s5:=s5) (s6:=s6) (s7:=s7) (s8:=some (.int num,d8)) (s9:=s9) (s10:=s10) (s11:=s11) (s12:=s12) (s13:=s13) (s14:=s14) d vs
 rw [ec]
 rcases hq 8 (some (.int num,d8)) with h | h
 ·rw [h];exact ⟨_,_,_,_,_,_,_,_,_,_,_,rfl⟩
 ·rw [h];exact ⟨_,_,_,_,_,_,_,_,_,_,_,rfl⟩
theorem qmb (lW:W.length=c) (hW:∀ w∈W,Wd a b w) (ha:1<=a/\a<=6) (hb:1<=b/\b<=6) (hc:1<=c/\c<=6) {w:Nat}{ρ:Rho} (h:St ns cell a b c t W num ρ):∃ ρ1 ρ2,asgN 9 (.int (w:Int)) ρ=some ρ1/\xW ρ1=.nx ρ2/\St ns cell a b c t W num ρ2:=by
 have z:=sz
 obtain ⟨e,s5,s6,s7,d8,s9,s10,s11,s12,s13,s14,rfl⟩:=h
 obtain ⟨X,dX,hX,rX⟩:=qdc (w:=w) (num:=num / 400 % 10 ^ 6) lW hc hW ha hb (jg4 _ (by decide))
 have gX:Good X:=⟨rX.1,rX.2.1⟩
 obtain ⟨T,hTx⟩:=rX.2.2.2
 have r1:=qk8 (a:=a) (b:=b) (c:=c) gX.1 gX.2 ha hb hc
 let Q0:Rho:=S ns cell a b c t W e s5 s6 s7 (some (.int num,d8)) (some (.int (w:Int),om)) s10 s11 s12 s13 s14
 have v8:bVar 8 Q0=.ok (.int num,om,Q0):=rfl
 have m2:=zzc (zpv v8 (g:=bC (.int 400)) (j:=400) (e:=om) rfl (by decide) (by decide)) (g:=bBin zjd (bC (.int 10)) (bC (.int 6))) (j:=10 ^ 6) (e:=om) (ρ2:=Q0) (zxf (x:=.int 10) (d:=om) (y:=.int 6) (e:=om) rfl rfl rfl) (by decide)
 have cX:=zqh (F:=F26) (zqm (f:=bVar 4) (x:=wl W) (d:=0) (ρ:=Q0) rfl (zqm (f:=bVar 9) (x:=.int (w:Int)) (d:=om) rfl (zxb m2))) hX
 obtain ⟨e1,q,hq,ec⟩:=qlp (ns:=ns) (cell:=cell) (a:=a) (b:=b) (c:=c) (t:=t) (W:=W) (e:=e) (s5:=s5) (s6:=s6) (s7:=s7) (s8:=some (.int num,d8)) (s9:=some (.int (w:Int),om)) (s10:=s10) (s11:=s11) (s12:=s12) (s13:=s13) (s14:=s14) dX [4,9,8]
 obtain ⟨d8',e8⟩:∃ d8',q 8 (some (.int num,d8))=some (.int num,d8'):=by
  rcases hq 8 (some (.int num,d8)) with h | h
  ·exact ⟨_,h⟩
  ·exact ⟨_,h⟩
 let Q (s10 s11 s12:QQ.Slot):Rho:=S ns cell a b c t W e1 (q 5 s5) (q 6 s6) (q 7 s7) (some (.int num,d8')) (q 9 (some (.int (w:Int),om))) s10 s11 s12 (q 13 s13) (q 14 s14)
 have v1:sSet false 10 (zqg F26 (zqa (bVar 4) (zqa (bVar 9) (zqa (bBin zxh (bBin zwd (bVar 8) (bC (.int 400))) (bBin zjd (bC (.int 10)) (bC (.int 6)))) (aNil))))) [4,9,8] Q0=.nx (Q (some (X,dX)) (q 11 s11) (q 12 s12)):=
  setF cX (show 10 < 15 by decide) (by rw [ec,e8];rfl)
 have st1:∀ d s11,zqb zpf (zqa (bVar 10) (aNil)) (Q (some (X,d)) s11 (q 12 s12))=.ok (.str T,om,Q (some (X,d)) s11 (q 12 s12)):=λ d s11=>zxd (xs:=[(X,dv X)]) rfl (by unfold zpf;dsimp only;rw [hTx];rfl)
 have v2:sSet false 11 (zqb zpf (zqa (bVar 10) (aNil))) [10] (Q (some (X,dX)) (q 11 s11) (q 12 s12))=.nx (Q (some (X,dX)) (some (.str T,om)) (q 12 s12)):=setF (st1 _ _) (show 11 < 15 by decide) rfl
 let Z:Rho:=Q (some (X,dX)) (some (.str T,om)) (q 12 s12)
 have c19:zqg F25 (zqa (bVar 2) (zqa (bVar 10) (aNil))) Z=.ok (.bl (due a b c X),om,Z):=zqh (F:=F25) (xs:=[(bx a b c,0),(X,dv X)]) rfl r1
 have w3:zxp (bUn zqy (zqg F25 (zqa (bVar 2) (zqa (bVar 10) (aNil))))) (bBin (opEq true) (zqg F28 (zqa (bVar 2) (zqa (bVar 10) (aNil)))) xNo) Z=.ok (.bl (!due a b c X && false),om,Z):=by
  refine zzo (zzb c19) (λ hr=>?_) rfl
  have hr':due a b c X=false:=by cases h:due a b c X;rfl;rw [h] at hr;cases hr
  exact zxf (zqh (F:=F28) (xs:=[(bx a b c,0),(X,dv X)]) rfl (qii gX ha hb hc hr')) (y:=noWs) (e:=om) rfl (by kernel_rfl)
 rw [jf7] at w3
 have w4:=t_ok (zxf (op:=opEq true) (st1 dX (some (.str T,om))) (g:=bVar 11) (y:=.str T) (e:=om) rfl qli)
 have fin:∃ ρ2,sIf (bT (zqg F25 (zqa (bVar 2) (zqa (bVar 10) (aNil))))) xBk sNil Z=.nx ρ2/\St ns cell a b c t W num ρ2:=by
  have tc:=t_ok c19
  cases hr:due a b c X with
  | false=>
   rw [hr] at tc
   exact ⟨Z,(if_f tc).trans rfl,_,_,_,_,_,_,_,_,_,_,_,rfl⟩
  | true=>
   rw [hr] at tc
   obtain ⟨ws,eX,lw,hws,pS⟩:=qlj hr
   have hS:=pS.tab
   have u1:zqg F14 (zqa (bVar 2) (zqa (bVar 10) (aNil))) Z=.ok (tb (zxj (ws.map stW) a b),om,Z):=zqh (F:=F14) (xs:=[(bx a b c,0),(X,dv X)]) rfl (by
    rw [eX]
    refine (qim hws lw ha hb hc).trans ?_
    rw [if_pos ((zkv hS).mpr pS)])
   have hU:Tab a b (zxj (ws.map stW) a b):=by rw [zka];exact qaa
   have u2:=zqh (F:=F21) (zqm (f:=bVar 2) (x:=bx a b c) (d:=0) (ρ:=Z) rfl (zxb u1)) (qiz hU (by omega) (by omega) (by omega))
   rw [zht pS] at u2
   obtain ⟨e2,q2,hq2,ec2⟩:=qlp (ns:=ns) (cell:=cell) (a:=a) (b:=b) (c:=c) (t:=t) (W:=W) (e:=e1) (s5:=q 5 s5) (s6:=q 6 s6) (s7:=q 7 s7) (s8:=some (.int num,d8')) (s9:=q 9 (some (.int (w:Int),om))) (s10:=some (X,dX)) (s11:=some (.str T,om)) (s12:=q 12 s12) (s13:=q 13 s13) (s14:=q 14 s14) 1 [2,2,10]
   obtain ⟨f8,g8⟩:∃ f8,q2 8 (some (.int num,d8'))=some (.int num,f8):=by
    rcases hq2 8 (some (.int num,d8')) with h | h
    ·exact ⟨_,h⟩
    ·exact ⟨_,h⟩
   obtain ⟨f10,g10⟩:∃ f10,q2 10 (some (X,dX))=some (X,f10):=by
    rcases hq2 10 (some (X,dX)) with h | h
    ·exact ⟨_,h⟩
    ·exact ⟨_,h⟩
   let Y:Rho:=S ns cell a b c t W e2 (q2 5 (q 5 s5)) (q2 6 (q 6 s6)) (q2 7 (q 7 s7)) (some (.int num,f8)) (q2 9 (q 9 (some (.int (w:Int),om)))) (some (X,f10)) (q2 11 (some (.str T,om))) (some (tb (ws.map stW),1)) (q2 13 (q 13 s13)) (q2 14 (q 14 s14))
   have v12:sSet false 12 (zqg F21 (zqa (bVar 2) (zqa (zqg F14 (zqa (bVar 2) (zqa (bVar 10) (aNil)))) (aNil)))) [2,2,10] Z=.nx Y:=setF u2 (show 12 < 15 by decide) (by rw [ec2,g8,g10];rfl)
   have k1:=zwj (n:=15) (f:=bVar 12) (elt:=zqg F22 (zqa (bVar 15) (zqa (bBin zqe (bVar 2) (bC (.int 1))) (aNil)))) (enc:=il) (q:=λ s=>wd (wayW b s)) (ρ:=Y) (ρ1:=Y) (d:=0) (ws.map stW) rfl rfl (λ s hs=>by
    have h:=qke pS hs
    exact zqh (xs:=[(il s,0),(.int (b:Int),om)]) rfl (qem h (by omega) (by rw [hS.2 s hs];omega))) (by rw [ja1];omega)
   have ek:PV.lst ((ws.map stW).map λ s=>wd (wayW b s))=X:=by
    rw [eX,jd6]
    unfold wl
    congr 1
    exact jg5 λ w hw=>by show wd (wayW b (stW w))=wd w;rw [qjc (hws w hw)]
   rw [ek] at k1
   have w6:=t_ok (zxf (op:=opEq true) k1 (g:=bVar 10) (y:=X) (e:=dv X) (ρ2:=Y) rfl (qih rX))
   exact ⟨Y,(if_t tc).trans ((zqd v12).trans ((if_f w6).trans rfl)),_,_,_,_,_,_,_,_,_,_,_,rfl⟩
 obtain ⟨ρ2,f1,f2⟩:=fin
 exact ⟨Q0,ρ2,rfl,(zqd v1).trans ((zqd v2).trans ((zwh (t_ok w3)).trans ((zwh w4).trans f1))),f2⟩
theorem qmj (ht:Tab a b t) (lW:W.length=c) (hW:∀ w∈W,Wd a b w) (ha:1<=a/\a<=6) (hb:1<=b/\b<=6) (hc:1<=c/\c<=6) {ρ:Rho} (h:St ns cell a b c t W num ρ):∃ ρ',tl2 ρ=.rt (.bl true) om ρ':=by
 have z:=sz
 obtain ⟨w1,hw1⟩:∃ w:Nat,num % 20=(w:Int):=⟨(num % 20).toNat,by omega⟩
 obtain ⟨w2,hw2⟩:∃ w:Nat,num / 20 % 20=(w:Int):=⟨(num / 20 % 20).toNat,by omega⟩
 have f1:zqb zqj (zqa (bBin zxh (bVar 8) (bC (.int 20))) (zqa (bBin zxh (bBin zwd (bVar 8) (bC (.int 20))) (bC (.int 20))) (aNil))) ρ=.ok (.lst [.int (w1:Int),.int (w2:Int)],om,ρ):=by
  have v8:bVar 8 ρ=.ok (.int num,om,ρ):=by
   obtain ⟨e,s5,s6,s7,d8,s9,s10,s11,s12,s13,s14,rfl⟩:=h
   rfl
  have m1:=zzc v8 (g:=bC (.int 20)) (j:=20) (e:=om) rfl (by decide)
  have m2:=zzc (zpv v8 (g:=bC (.int 20)) (j:=20) (e:=om) rfl (by decide) (by decide)) (g:=bC (.int 20)) (j:=20) (e:=om) rfl (by decide)
  rw [hw1] at m1
  rw [hw2] at m2
  exact zxd (zqm m1 (zxb m2)) (zmx (by show 2<=sizeLine;omega))
 obtain ⟨ρ1,l1,g1⟩:=zkd (asg:=asgN 9) (body:=xW) (N:=2) (λ _ ρ=>St ns cell a b c t W num ρ) (λ x=>∃ w:Nat,x=.int (w:Int)) [.int (w1:Int),.int (w2:Int)] 0 (zqs om [8,8] ρ) (jb3 2) (by
  intro x hx
  simp only [jb0,je3,or_false] at hx
  rcases hx with rfl | rfl
  ·exact ⟨w1,rfl⟩
  ·exact ⟨w2,rfl⟩) (h.cool om [8,8]) (λ x n ρ _ hx hs=>by
  obtain ⟨w,rfl⟩:=hx
  exact qmb lW hW ha hb hc hs)
 have s1:=zys (vs:=[8,8]) f1 rfl l1
 let things:List PV:=[.lst [],.non,.str "ways",.int 3,.emp,.tup (W.map wd),.lst (ja6 c (.str "")),tb t]
 have f2:∃ d,xTh ρ1=.ok (.lst things,d,ρ1):=by
  obtain ⟨e,s5,s6,s7,d8,s9,s10,s11,s12,s13,s14,rfl⟩:=g1
  let Z:=S ns cell a b c t W e s5 s6 s7 (some (.int num,d8)) s9 s10 s11 s12 s13 s14
  have m2:=qk2 (f:=zqb zqj (zqa (bC (.str "")) (aNil))) (g:=bBin zqe (bVar 2) (bC (.int 2))) (ρ:=Z) (ρ1:=Z) (ρ2:=Z) (x:=.str "") (n:=c) (d:=om) (e:=om) rfl rfl (by omega)
  exact ⟨_,zxd (zqm (x:=.lst []) (d:=om) rfl (zqm (x:=.non) (d:=om) rfl (zqm (x:=.str "ways") (d:=om) rfl (zqm (x:=.int 3) (d:=om) rfl (zqm (x:=.emp) (d:=om) rfl (zqm (x:=.tup (W.map wd)) (d:=0) rfl (zqm m2 (zxb (x:=tb t) (d:=0) rfl)))))))) (zmx (by show 8<=sizeLine;omega))⟩
 obtain ⟨d2,f2⟩:=f2
 have lst_no:∀ (xs:List PV) (y:PV),y∈xs->wB a b y=false->due a b c (.lst xs)=false:=λ xs y hy h=>by
  show (decide (xs.length=c) && (xs.all (wB a b) && _))=false
  rw [jo9.mpr ⟨y,hy,by rw [h];exact jc5⟩,je6,jf7]
 have noS:∀ {x:PV},okE 12 x=true->(∀ xs,x≠.lst xs)->Good x:=λ h1 h2=>⟨h1,λ xs e=>absurd e (h2 xs)⟩
 have lWm:(W.map wd).length<=100:=by rw [ja1,lW];omega
 have wkW:∀ y∈W.map wd,WS y:=λ y hy=>by
  obtain ⟨v,hv,rfl⟩:=jd4.mp hy
  exact zkh (tx_w v (n:=12) (by rw [(hW v hv).len];omega)) (by decide)
 have noT:∀ x∈things,Good x/\due a b c x=false:=by
  intro x hx
  simp only [things,jb0,je3,or_false] at hx
  rcases hx with rfl | rfl | rfl | rfl | rfl | rfl | rfl | rfl
  ·refine ⟨⟨rfl,λ xs e y hy=>by cases e;cases hy⟩,?_⟩
   show (decide (0=c) && _)=false
   rw [decide_eq_false (by omega),je6]
  ·exact ⟨noS rfl (λ _ e=>nomatch e),rfl⟩
  ·exact ⟨noS rfl (λ _ e=>nomatch e),rfl⟩
  ·exact ⟨noS rfl (λ _ e=>nomatch e),rfl⟩
  ·exact ⟨noS rfl (λ _ e=>nomatch e),rfl⟩
  ·exact ⟨noS (qdj lWm wkW).1 (λ _ e=>nomatch e),rfl⟩
  ·have tx:WS (.str ""):=zkh (n:=0) ⟨by decide +kernel,by decide +kernel⟩ (by decide)
   refine ⟨⟨zpl (zbh (by rw [jf1];omega) λ y hy=>by rw [(jl6.mp hy).2];exact tx.1.1) (by decide),λ xs e y hy=>by cases e;rw [(jl6.mp hy).2];exact tx.1⟩,lst_no _ (.str "") (jl6.mpr ⟨by omega,rfl⟩) ?_⟩
   show (decide (0=a + b) && _)=false
   rw [decide_eq_false (by omega),je6]
  ·have wr:∀ y∈t.map il,Wk y:=λ y hy=>by
    obtain ⟨r,hr,rfl⟩:=jd4.mp hy
    exact ⟨qoj (by rw [ht.2 r hr];omega),λ z e=>by cases e⟩
   have h0:t.getD 0 []∈t:=zmp (by rw [ht.1];omega)
   exact ⟨⟨zpl (zbh (by rw [ja1,ht.1];omega) λ y hy=>(wr y hy).1) (by decide),λ xs e y hy=>by cases e;exact wr y hy⟩,lst_no _ (il (t.getD 0 [])) (jd4.mpr ⟨_,h0,rfl⟩) rfl⟩
 obtain ⟨ρ2,l2,g2⟩:=zkd (asg:=asgN 13) (body:=xTb) (N:=8) (λ _ ρ=>St ns cell a b c t W num ρ) (λ x=>Good x/\due a b c x=false) things 0 (zqs d2 [4,2,3] ρ1) (jb3 _) noT (g1.cool d2 [4,2,3]) (λ x n ρ _ hx hs=>by
  obtain ⟨e,s5,s6,s7,d8,s9,s10,s11,s12,s13,s14,rfl⟩:=hs
  let Z:=S ns cell a b c t W e s5 s6 s7 (some (.int num,d8)) s9 s10 s11 s12 (some (x,dv x)) s14
  have w:=t_ok (zxf (op:=opEq true) (zqh (F:=F28) (fa:=zqa (bVar 2) (zqa (bVar 13) (aNil))) (ρ:=Z) (xs:=[(bx a b c,0),(x,dv x)]) rfl (qii hx.1 ha hb hc hx.2)) (g:=xNo) (y:=noWs) (e:=om) rfl (z:=.bl false) (c:=om) (by kernel_rfl))
  exact ⟨Z,Z,rfl,(if_f w).trans rfl,_,_,_,_,_,_,_,_,_,_,_,rfl⟩)
 have s2:=zys (vs:=[4,2,3]) f2 rfl l2
 obtain ⟨B,dB,hB,Bb⟩:=qhv (a:=a) (b:=b) (c:=c) (far:=cell % 10 ^ 30) (jg4 _ (by decide))
 have f3:zqg F23 (zqa (bVar 2) (zqa (bBin zxh (bVar 1) (bBin zjd (bC (.int 10)) (bC (.int 30)))) (aNil))) ρ2=.ok (.lst B,dB,ρ2):=by
  obtain ⟨e,s5,s6,s7,d8,s9,s10,s11,s12,s13,s14,rfl⟩:=g2
  exact zqh (F:=F23) (zqm (x:=bx a b c) (d:=0) rfl (zxb (zzc (i:=cell) (j:=10 ^ 30) (d:=om) (e:=om) rfl (zxf (x:=.int 10) (d:=om) (y:=.int 30) (e:=om) rfl rfl rfl) (by decide)))) hB
 obtain ⟨ρ3,l3,g3⟩:=zkd (asg:=asgN 14) (body:=xB2) (N:=0 + B.length) (λ _ ρ=>St ns cell a b c t W num ρ) (λ y=>f_is_box [y]=.ok (.bl false,om,.non)) B 0 (zqs dB [2,1] ρ2) (jb3 _) Bb (g2.cool dB [2,1]) (λ y n ρ _ hy hs=>by
  obtain ⟨e,s5,s6,s7,d8,s9,s10,s11,s12,s13,s14,rfl⟩:=hs
  let Z:=S ns cell a b c t W e s5 s6 s7 (some (.int num,d8)) s9 s10 s11 s12 s13 (some (y,dv y))
  have fZ:zqb zqj (zqa (bVar 4) (zqa (bC (.int 3)) (aNil))) Z=.ok (.lst [wl W,.int 3],1,Z):=zxd (zqm (x:=wl W) (d:=0) rfl (zxb (x:=.int 3) (d:=om) rfl)) ((zmx (by show 2<=sizeLine;omega)).trans rfl)
  have hZ:zqs 1 [4] Z=S ns cell a b c t W (λ k=>if k=4 then 0 else e k) s5 s6 s7 (some (.int num,d8)) s9 s10 s11 s12 s13 (some (y,dv y)):=rfl
  obtain ⟨ρ',l,e',t13,rfl⟩:=zkd (asg:=asgN 13) (body:=xBb) (N:=2) (λ _ ρ=>∃ e' s13,ρ=S ns cell a b c t W e' s5 s6 s7 (some (.int num,d8)) s9 s10 s11 s12 s13 (some (y,dv y))) (λ _=>True) [wl W,.int 3] 0 _ (by show 0 + 2<=2;decide) (λ _ _=>trivial) ⟨_,_,hZ⟩ (by
   rintro x n ρ _ _ ⟨e',s13,rfl⟩
   let Y:=S ns cell a b c t W e' s5 s6 s7 (some (.int num,d8)) s9 s10 s11 s12 (some (x,dv x)) (some (y,dv y))
   have w:=t_ok (zxf (op:=opEq true) (zqh (F:=F28) (fa:=zqa (bVar 14) (zqa (bVar 13) (aNil))) (ρ:=Y) (xs:=[(y,dv y),(x,dv x)]) rfl (qkf hy)) (g:=xBox) (y:=qok) (e:=om) rfl (z:=.bl false) (c:=om) (by kernel_rfl))
   exact ⟨Y,Y,rfl,(if_f w).trans rfl,_,_,rfl⟩)
  exact ⟨Z,_,rfl,zys (vs:=[4]) fZ rfl l,_,_,_,_,_,_,_,_,_,_,_,rfl⟩)
 have s3:=zys (vs:=[2,1]) f3 rfl l3
 exact ⟨_,(zqd s1).trans ((zqd s2).trans ((zqd s3).trans rfl))⟩
theorem qmk {x0 x2 x3:Nat} (p:Pile a b c t) (ha:1<=a/\a<=6) (hb:1<=b/\b<=6) (hc:1<=c/\c<=6):∃ ρ',tl1 [some (.scr ns,x0),some (.int cell,om),some (bx a b c,x2),some (tb t,x3),none,none,none,none,none,none,none,none,none,none,none]=.rt (.bl true) om ρ':=by
 have z:=sz
 have ht:=p.tab
 let N:QQ.Slot:=none
 let st:=zxc t c
 have ps:Pile c a b st:=zjw p
 have hT:=ps.tab
 let W:List (List Bool):=st.map (wayW b)
 have ew:PV.lst (st.map λ s=>wd (wayW b s))=wl W:=by
  unfold wl
  rw [jd6]
  rfl
 have lW:W.length=c:=by show (st.map (wayW b)).length=c;rw [ja1,hT.1]
 have hW:∀ w∈W,Wd a b w:=λ w hw=>by
  obtain ⟨s,hs,rfl⟩:=jd4.mp hw
  have h:=zjx p hs
  exact ⟨(qmd s).trans h.2,qmc h.1⟩
 have eSt:W.map stW=st:=by
  show (st.map (wayW b)).map stW=st
  rw [jd6]
  refine (jg5 λ s hs=>?_).trans (jo2 _)
  exact qjx (zjx p hs).1
 have e2:zxj st a b=t:=qcw (by rw [zka];exact qaa) ht λ i j hi hj=>by rw [zka,qk3 hi hj,zpe p hi hj]
 have pos:f_pile_of_ways [bx a b c,wl W]=.ok (tb t,om,.non):=by
  refine (qim hW lW ha hb hc).trans ?_
  rw [eSt,if_pos ((zkv hT).mpr ps),e2]
 let e0:Nat->Nat:=λ k=>[x0,om,x2,x3,om].getD k 0
 let Q (s5 s6 s7:QQ.Slot):Rho:=S ns cell a b c t W e0 s5 s6 s7 N N N N N N N
 have v1:sSet false 4 xWs [2,3,2,3,2] [some (.scr ns,x0),some (.int cell,om),some (bx a b c,x2),some (tb t,x3),none,none,none,none,none,none,none,none,none,none,none]=.nx (Q N N N):=by
  let Q4:Rho:=[some (.scr ns,x0),some (.int cell,om),some (bx a b c,x2),some (tb t,x3),none,none,none,none,none,none,none,none,none,none,none]
  have:=zwj (n:=15) (f:=zqg F21 (zqa (bVar 2) (zqa (bVar 3) (aNil)))) (elt:=zqg F22 (zqa (bVar 15) (zqa (bBin zqe (bVar 2) (bC (.int 1))) (aNil)))) (enc:=il) (q:=λ s=>wd (wayW b s)) (ρ:=Q4) (ρ1:=Q4) (d:=1) st (zqh (F:=F21) (xs:=[(bx a b c,0),(tb t,0)]) rfl (qiz ht (by omega) (by omega) (by omega))) rfl (λ s hs=>by
   have h:=zjx p hs
   exact zqh (xs:=[(il s,0),(.int (b:Int),om)]) rfl (qem h.1 (by omega) (by rw [h.2];omega))) (by rw [hT.1];omega)
  rw [ew] at this
  exact setF this (show 4 < 15 by decide) rfl
 have v2:sSet false 5 (zqb zvu (zqa (bVar 4) (aNil))) [4] (Q N N N)=.nx (Q (some (wl W,om)) N N):=
  setF (zxd (xs:=[(wl W,0)]) (z:=wl W) (c:=d1 (W.map wd)) rfl rfl) (show 5 < 15 by decide) (by rw [qo9];rfl)
 have v3:sSet false 6 (zqg F14 (zqa (bVar 2) (zqa (bVar 5) (aNil)))) [2,5] (Q (some (wl W,om)) N N)=.nx (Q (some (wl W,om)) (some (tb t,om)) N):=
  setF (zqh (F:=F14) (xs:=[(bx a b c,0),(wl W,0)]) rfl pos) (show 6 < 15 by decide) rfl
 have wkW:∀ y∈W.map wd,WS y:=λ y hy=>by
  obtain ⟨v,hv,rfl⟩:=jd4.mp hy
  exact zkh (tx_w v (n:=12) (by rw [(hW v hv).len];omega)) (by decide)
 have ne54:∀ s6 s7,bBin (opEq true) (bVar 5) (bVar 4) (Q (some (wl W,om)) s6 s7)=.ok (.bl false,om,Q (some (wl W,om)) s6 s7):=λ s6 s7=>zxf (x:=wl W) (d:=0) (y:=wl W) (e:=0) rfl rfl (qih (zyk (by rw [ja1,lW];omega) wkW))
 have w4:=t_ok (zko (a:=false) (b:=false) (f:=bUn zqy (zqg F18 (zqa (bVar 6) (zqa (bVar 3) (aNil))))) (g:=bBin (opEq true) (bVar 5) (bVar 4)) (ρ:=Q (some (wl W,om)) (some (tb t,om)) N) (ρ1:=Q (some (wl W,om)) (some (tb t,om)) N) (d:=om) (zzb (zqh (xs:=[(tb t,0),(tb t,0)]) rfl (qb3 t))) (λ _=>ne54 _ _) rfl)
 obtain ⟨ρ5,v5,s7,rfl⟩:=zkg (i:=7) (body:=zgg 6 (bVar 7) (bVar 7)) (lo:=0) (hi:=(a:Int)) (en:=zxu) (fa:=zqa (zqb zqu (zqa (bVar 6) (aNil))) (aNil)) (ρ:=Q (some (wl W,om)) (some (tb t,om)) N) (ρ1:=Q (some (wl W,om)) (some (tb t,om)) N) (as:=[(.int (a:Int),om)]) (λ n ρ=>∃ s7,ρ=Q (some (wl W,om)) (some (tb (addK t n),om)) s7) (by
   have:=qek (fa:=zqa (bVar 6) aNil) (ρ:=Q (some (wl W,om)) (some (tb t,om)) N) (ρ1:=Q (some (wl W,om)) (some (tb t,om)) N) (t:=t) (d:=0) rfl
   rw [ht.1] at this
   exact zxb this) (zwx (by omega) (by omega)) ⟨none,rfl⟩ (by
  rintro n ρ hn ⟨s7,rfl⟩
  have hn':n < a:=by omega
  refine ⟨(by decide:7 < 15),?_⟩
  rw [jh4]
  refine ⟨Q (some (wl W,om)) (some (tb (addK t (n + 1)),om)) (some (.int (n:Int),om)),?_,_,rfl⟩
  have k2:=ql0 (t:=addK t n) (r:=t.getD n []) (i:=n) (v:=(n:Int)) (qh4 (by rw [ht.1];exact hn')) (by rw [ht.row hn'];omega)
  rw [qf2 (by rw [ht.1];exact hn')] at k2
  exact ql1 (k:=(n:Int)) (y:=.int (n:Int)) (d1:=om) (d2:=om) rfl rfl rfl k2 rfl rfl)
 rw [show ((a:Int) - 0).toNat=a by omega] at v5
 let Z:Rho:=Q (some (wl W,om)) (some (tb (addK t a),om)) s7
 have w6:zwf zxu (zqa (zqb zqu (zqa (bVar 3) (aNil))) (aNil)) 1 (asgN 15) zxt (bBin zqf (bBin zqe (bVar 3) (bVar 15)) (zqb zqj (zqa (bVar 15) (aNil)))) Z=.ok (tb (addK t a),om,Z):=by
  have hfa:zqa (zqb zqu (zqa (bVar 3) (aNil))) aNil Z=.ok ([(.int (a:Int),om)],Z):=by
   have:=qek (fa:=zqa (bVar 3) aNil) (ρ:=Z) (ρ1:=Z) (t:=t) (d:=0) rfl
   rw [ht.1] at this
   exact zxb this
  have:=zjq (n:=15) (en:=zxu) (elt:=bBin zqf (bBin zqe (bVar 3) (bVar 15)) (zqb zqj (zqa (bVar 15) (aNil)))) (q:=λ k=>il (t.getD k []++[(k:Int)])) hfa (zwx (by omega) (by omega)) rfl (λ k hk=>by
   have hk':k < a:=by omega
   rw [jh4]
   have r1:=qix (f:=bVar 3) (g:=bVar 15) (ρ:=Z++[some (.int (k:Int),om)]) (t:=t) (k:=(k:Int)) (r:=t.getD k []) (d:=0) (e:=om) rfl rfl (atI_nat (by omega) (by rw [je1];exact zbq (by rw [ht.1];exact hk')))
   have r2:=zvq (h:=zqb zqj (zqa (bVar 15) (aNil))) (ys:=[.int (k:Int)]) (e:=om) r1 rfl (by rw [ja1,ht.row hk'];show b + 1<=_;omega)
   rw [show (t.getD k []).map PV.int++[.int (k:Int)]=(t.getD k []++[(k:Int)]).map PV.int by rw [je8];rfl,qfc] at r2
   exact r2) (by omega)
  rw [show ((a:Int) - 0).toNat=a by omega] at this
  have ee:tb (addK t a)=.lst ((jc2 a).map λ (k:Nat)=>il (t.getD k []++[(k:Int)])):=by
   have:=qh5 t
   rw [ht.1] at this
   rw [this]
   unfold tb
   rw [jd6]
   rfl
  rw [ee]
  exact this
 have w7:=qqg (neg:=true) (f:=bVar 6) (ρ:=Z) (t:=addK t a) (d:=0) rfl w6
 rw [decide_eq_true rfl] at w7
 have w8:=t_ok w7
 have w9:=t_ok (zzb (zqh (F:=F18) (zqm (zqh (F:=F14) (fa:=zqa (bVar 2) (zqa (bVar 4) (aNil))) (ρ:=Z) (xs:=[(bx a b c,0),(wl W,0)]) rfl pos) (zxb (f:=bVar 3) (x:=tb t) (d:=0) rfl)) (qb3 t)))
 have v10:sSet false 8 (zqg F15 (zqa (bVar 0) (zqa (bC (.int 2)) (aNil)))) [0] Z=.nx (S ns cell a b c t W e0 (some (wl W,om)) (some (tb (addK t a),om)) s7 (some (.int (ns.getD 2 0),om)) N N N N N N):=
  setF (zqh (xs:=[(.scr ns,om),(.int 2,om)]) rfl (qak ns 2)) (show 8 < 15 by decide) rfl
 obtain ⟨ρ',v11⟩:=qmj (num:=ns.getD 2 0) ht lW hW ha hb hc (ρ:=S ns cell a b c t W e0 (some (wl W,om)) (some (tb (addK t a),om)) s7 (some (.int (ns.getD 2 0),om)) N N N N N N) ⟨_,_,_,_,_,_,_,_,_,_,_,rfl⟩
 exact ⟨ρ',(zqd v1).trans ((zqd v2).trans ((zqd v3).trans ((zwh w4).trans ((zqd v5).trans ((zwh w8).trans ((zwh w9).trans ((zqd v10).trans v11)))))))⟩
end
theorem law_true:∀ ns:List Int,ns.length<=63->∃ d z,F29 [.scr ns]=.ok (.bl true,d,z):=by
 intro ns hns
 have z:=sz
 obtain ⟨a,b,c,ha,hb,hc,ebx⟩:=qpb (ns.getD 0 0) (most:=4) (great:=6) (m:=6) (by omega) (by omega)
 obtain ⟨t,d,pt,hd,ept⟩:=qkl (a:=a) (b:=b) (c:=c) ns 3 (ns.getD 1 0) (by omega) (by omega) (by omega) (by omega) (by omega)
 let N:QQ.Slot:=none
 have s1:sSet false 1 (zqg F15 (zqa (bVar 0) (zqa (bC (.int 0)) (aNil)))) [0] [some (.scr ns,om),N,N,N,N,N,N,N,N,N,N,N,N,N,N]=.nx [some (.scr ns,om),some (.int (ns.getD 0 0),om),N,N,N,N,N,N,N,N,N,N,N,N,N]:=
  setF (zqh (xs:=[(.scr ns,om),(.int 0,om)]) rfl (qak ns 0)) (show 1 < 15 by decide) rfl
 have s2:sSet false 2 (zqg F19 (zqa (bVar 1) (zqa (bC (.int 4)) (zqa (bC (.int 6)) (aNil))))) [1] [some (.scr ns,om),some (.int (ns.getD 0 0),om),N,N,N,N,N,N,N,N,N,N,N,N,N]=.nx [some (.scr ns,om),some (.int (ns.getD 0 0),om),some (bx a b c,om),N,N,N,N,N,N,N,N,N,N,N,N]:=
  setF (zqh (xs:=[(.int (ns.getD 0 0),om),(.int 4,om),(.int 6,om)]) rfl ebx) (show 2 < 15 by decide) rfl
 obtain ⟨x0,x2,s3⟩:∃ x0 x2,sSet false 3 (zqg F20 (zqa (bVar 2) (zqa (bVar 0) (zqa (bC (.int 3)) (zqa (zqg F15 (zqa (bVar 0) (zqa (bC (.int 1)) (aNil)))) (aNil)))))) [2,0,0] [some (.scr ns,om),some (.int (ns.getD 0 0),om),some (bx a b c,om),N,N,N,N,N,N,N,N,N,N,N,N]=.nx [some (.scr ns,x0),some (.int (ns.getD 0 0),om),some (bx a b c,x2),some (tb t,d),N,N,N,N,N,N,N,N,N,N,N]:=by
  obtain ⟨x0,x2,e⟩:∃ x0 x2,zqs d [2,0,0] [some (.scr ns,om),some (.int (ns.getD 0 0),om),some (bx a b c,om),N,N,N,N,N,N,N,N,N,N,N,N]=[some (.scr ns,x0),some (.int (ns.getD 0 0),om),some (bx a b c,x2),N,N,N,N,N,N,N,N,N,N,N,N]:=by
   unfold zqs
   split
   ·exact ⟨_,_,rfl⟩
   ·exact ⟨_,_,rfl⟩
  refine ⟨x0,x2,setF (zqh (zqm (x:=bx a b c) (d:=0) rfl (zqm (x:=.scr ns) (d:=om) rfl (zqm (x:=.int 3) (d:=om) rfl (zxb (zqh (xs:=[(.scr ns,om),(.int 1,om)]) rfl (qak ns 1)))))) ept) (show 3 < 15 by decide) ?_⟩
  rw [e]
  rfl
 obtain ⟨ρ2,f2⟩:=qmk (ns:=ns) (cell:=ns.getD 0 0) (x0:=x0) (x2:=x2) (x3:=d) pt ha hb hc
 have hF:F29=mkFn false 1 14 b29:=rfl
 rw [hF,qpd]
 exact ⟨om,.non,zxk rfl ((zqd s1).trans ((zqd s2).trans ((zqd s3).trans f2)))⟩
def dfs:List (Str×Stmt):=[(("is_whole_number" : Str),t0),(("is_box" : Str),t1),(("must_be_box" : Str),t2),(("is_row_of_heights" : Str),t3),(("never_rises" : Str),t4),(("column_of" : Str),t5),(("is_pile" : Str),t6),(("how_many_above" : Str),t7),(("are_stairs" : Str),t8),(("pile_of_stairs" : Str),t9),(("staircase_of_way" : Str),t10),(("is_way" : Str),t11),(("is_list_of_ways" : Str),t12),(("are_ways" : Str),t13),(("pile_of_ways" : Str),t14),(("_law_cell_at" : Str),t15),(("_law_stir" : Str),t16),(("_law_numbers" : Str),t17),(("_law_alike" : Str),t18),(("_law_box" : Str),t19),(("_law_pile" : Str),t20),(("_law_stairs" : Str),t21),(("_law_way" : Str),t22),(("_law_bad_boxes" : Str),t23),(("_law_led" : Str),t24),(("_law_are_ways" : Str),t25),(("_law_spoilt" : Str),t26),(("_law_kinds" : Str),t27),(("_law_refused" : Str),t28),(("law" : Str),t29)]
section
variable {P:Program}{w:World}{K:Frag}{mg:Str->Option Value}
theorem c0:FnScope S0.N ["thing"] (zqc t0):=⟨rfl,rfl,rfl,by decide +kernel,rfl,by decide +kernel,by decide +kernel⟩
theorem c1:FnScope S1.N ["thing"] (zqc t1):=⟨rfl,rfl,rfl,by decide +kernel,rfl,by decide +kernel,by decide +kernel⟩
theorem c2:FnScope S2.N ["box"] (zqc t2):=⟨rfl,rfl,rfl,by decide +kernel,rfl,by decide +kernel,by decide +kernel⟩
theorem c3:FnScope S3.N ["thing","columns","height"] (zqc t3):=⟨rfl,rfl,rfl,by decide +kernel,rfl,by decide +kernel,by decide +kernel⟩
theorem c4:FnScope S4.N ["numbers"] (zqc t4):=⟨rfl,rfl,rfl,by decide +kernel,rfl,by decide +kernel,by decide +kernel⟩
theorem c5:FnScope S5.N ["table","j"] (zqc t5):=⟨rfl,rfl,rfl,by decide +kernel,rfl,by decide +kernel,by decide +kernel⟩
theorem c6:FnScope S6.N ["box","thing"] (zqc t6):=⟨rfl,rfl,rfl,by decide +kernel,rfl,by decide +kernel,by decide +kernel⟩
theorem c7:FnScope S7.N ["numbers","level"] (zqc t7):=⟨rfl,rfl,rfl,by decide +kernel,rfl,by decide +kernel,by decide +kernel⟩
theorem c8:FnScope S8.N ["box","thing"] (zqc t8):=⟨rfl,rfl,rfl,by decide +kernel,rfl,by decide +kernel,by decide +kernel⟩
theorem c9:FnScope S9.N ["box","stairs"] (zqc t9):=⟨rfl,rfl,rfl,by decide +kernel,rfl,by decide +kernel,by decide +kernel⟩
theorem c10:FnScope S10.N ["way"] (zqc t10):=⟨rfl,rfl,rfl,by decide +kernel,rfl,by decide +kernel,by decide +kernel⟩
theorem c11:FnScope S11.N ["box","thing"] (zqc t11):=⟨rfl,rfl,rfl,by decide +kernel,rfl,by decide +kernel,by decide +kernel⟩
theorem c12:FnScope S12.N ["box","thing"] (zqc t12):=⟨rfl,rfl,rfl,by decide +kernel,rfl,by decide +kernel,by decide +kernel⟩
theorem c13:FnScope S13.N ["box","thing"] (zqc t13):=⟨rfl,rfl,rfl,by decide +kernel,rfl,by decide +kernel,by decide +kernel⟩
theorem c14:FnScope S14.N ["box","ways"] (zqc t14):=⟨rfl,rfl,rfl,by decide +kernel,rfl,by decide +kernel,by decide +kernel⟩
theorem c15:FnScope S15.N ["script","k"] (zqc t15):=⟨rfl,rfl,rfl,by decide +kernel,rfl,by decide +kernel,by decide +kernel⟩
theorem c16:FnScope S16.N ["cell","k"] (zqc t16):=⟨rfl,rfl,rfl,by decide +kernel,rfl,by decide +kernel,by decide +kernel⟩
theorem c17:FnScope S17.N ["cell","many"] (zqc t17):=⟨rfl,rfl,rfl,by decide +kernel,rfl,by decide +kernel,by decide +kernel⟩
theorem c18:FnScope S18.N ["found","due"] (zqc t18):=⟨rfl,rfl,rfl,by decide +kernel,rfl,by decide +kernel,by decide +kernel⟩
theorem c19:FnScope S19.N ["cell","most","great"] (zqc t19):=⟨rfl,rfl,rfl,by decide +kernel,rfl,by decide +kernel,by decide +kernel⟩
theorem c20:FnScope S20.N ["box","script","start","cell"] (zqc t20):=⟨rfl,rfl,rfl,by decide +kernel,rfl,by decide +kernel,by decide +kernel⟩
theorem c21:FnScope S21.N ["box","pile"] (zqc t21):=⟨rfl,rfl,rfl,by decide +kernel,rfl,by decide +kernel,by decide +kernel⟩
theorem c22:FnScope S22.N ["staircase","columns"] (zqc t22):=⟨rfl,rfl,rfl,by decide +kernel,rfl,by decide +kernel,by decide +kernel⟩
theorem c23:FnScope S23.N ["box","far"] (zqc t23):=⟨rfl,rfl,rfl,by decide +kernel,rfl,by decide +kernel,by decide +kernel⟩
theorem c24:FnScope S24.N ["way"] (zqc t24):=⟨rfl,rfl,rfl,by decide +kernel,rfl,by decide +kernel,by decide +kernel⟩
theorem c25:FnScope S25.N ["box","thing"] (zqc t25):=⟨rfl,rfl,rfl,by decide +kernel,rfl,by decide +kernel,by decide +kernel⟩
theorem c26:FnScope S26.N ["ways","way","number"] (zqc t26):=⟨rfl,rfl,rfl,by decide +kernel,rfl,by decide +kernel,by decide +kernel⟩
theorem c27:FnScope S27.N ["caught"] (zqc t27):=⟨rfl,rfl,rfl,by decide +kernel,rfl,by decide +kernel,by decide +kernel⟩
theorem c28:FnScope S28.N ["box","thing"] (zqc t28):=⟨rfl,rfl,rfl,by decide +kernel,rfl,by decide +kernel,by decide +kernel⟩
theorem c29:FnScope S29.N ["script"] (zqc t29):=⟨rfl,rfl,rfl,by decide +kernel,rfl,by decide +kernel,by decide +kernel⟩
theorem all_ok {fa:Addr} (G:Given dfs [0,1,2,3,4,5,6,7,8,9,10,11] K mg) (hm:mg "law" = some (.ref fa)):
  ∃ fd:FuncData,(∀ (s:Shared) (u:Value),BindsTo s fd ⟨[u],[]⟩ [("script",u)])/\∀ base:Heap,FnOk P w K mg base (CXr P w K) 9 fa fd ["script"] (spF K false 1 F29):=by
 have hb:=G.bn
 have gx:=G.gx
 obtain ⟨a0,d0,m0,f0⟩:=G.df 0 _ _ rfl
 obtain ⟨a1,d1,m1,f1⟩:=G.df 1 _ _ rfl
 obtain ⟨a2,d2,m2,f2⟩:=G.df 2 _ _ rfl
 obtain ⟨a3,d3,m3,f3⟩:=G.df 3 _ _ rfl
 obtain ⟨a4,d4,m4,f4⟩:=G.df 4 _ _ rfl
 obtain ⟨a5,d5,m5,f5⟩:=G.df 5 _ _ rfl
 obtain ⟨a6,d6,m6,f6⟩:=G.df 6 _ _ rfl
 obtain ⟨a7,d7,m7,f7⟩:=G.df 7 _ _ rfl
 obtain ⟨a8,d8,m8,f8⟩:=G.df 8 _ _ rfl
 obtain ⟨a9,d9,m9,f9⟩:=G.df 9 _ _ rfl
 obtain ⟨a10,d10,m10,f10⟩:=G.df 10 _ _ rfl
 obtain ⟨a11,d11,m11,f11⟩:=G.df 11 _ _ rfl
 obtain ⟨a12,d12,m12,f12⟩:=G.df 12 _ _ rfl
 obtain ⟨a13,d13,m13,f13⟩:=G.df 13 _ _ rfl
 obtain ⟨a14,d14,m14,f14⟩:=G.df 14 _ _ rfl
 obtain ⟨a15,d15,m15,f15⟩:=G.df 15 _ _ rfl
 obtain ⟨a16,d16,m16,f16⟩:=G.df 16 _ _ rfl
 obtain ⟨a17,d17,m17,f17⟩:=G.df 17 _ _ rfl
 obtain ⟨a18,d18,m18,f18⟩:=G.df 18 _ _ rfl
 obtain ⟨a19,d19,m19,f19⟩:=G.df 19 _ _ rfl
 obtain ⟨a20,d20,m20,f20⟩:=G.df 20 _ _ rfl
 obtain ⟨a21,d21,m21,f21⟩:=G.df 21 _ _ rfl
 obtain ⟨a22,d22,m22,f22⟩:=G.df 22 _ _ rfl
 obtain ⟨a23,d23,m23,f23⟩:=G.df 23 _ _ rfl
 obtain ⟨a24,d24,m24,f24⟩:=G.df 24 _ _ rfl
 obtain ⟨a25,d25,m25,f25⟩:=G.df 25 _ _ rfl
 obtain ⟨a26,d26,m26,f26⟩:=G.df 26 _ _ rfl
 obtain ⟨a27,d27,m27,f27⟩:=G.df 27 _ _ rfl
 obtain ⟨a28,d28,m28,f28⟩:=G.df 28 _ _ rfl
 obtain ⟨a29,d29,m29,f29⟩:=G.df 29 _ _ rfl
 cases hm.symm.trans m29
 have B0:=f0.binds (ps:=["thing"]) λ _ _ _ _ _ _ us hl=>by obtain ⟨_,rfl⟩:=len1 hl;rfl
 have B1:=f1.binds (ps:=["thing"]) λ _ _ _ _ _ _ us hl=>by obtain ⟨_,rfl⟩:=len1 hl;rfl
 have B2:=f2.binds (ps:=["box"]) λ _ _ _ _ _ _ us hl=>by obtain ⟨_,rfl⟩:=len1 hl;rfl
 have B3:=f3.binds (ps:=["thing","columns","height"]) λ _ _ _ _ _ _ us hl=>by obtain ⟨_,_,_,rfl⟩:=len3 hl;rfl
 have B4:=f4.binds (ps:=["numbers"]) λ _ _ _ _ _ _ us hl=>by obtain ⟨_,rfl⟩:=len1 hl;rfl
 have B5:=f5.binds (ps:=["table","j"]) λ _ _ _ _ _ _ us hl=>by obtain ⟨_,_,rfl⟩:=len2 hl;rfl
 have B6:=f6.binds (ps:=["box","thing"]) λ _ _ _ _ _ _ us hl=>by obtain ⟨_,_,rfl⟩:=len2 hl;rfl
 have B7:=f7.binds (ps:=["numbers","level"]) λ _ _ _ _ _ _ us hl=>by obtain ⟨_,_,rfl⟩:=len2 hl;rfl
 have B8:=f8.binds (ps:=["box","thing"]) λ _ _ _ _ _ _ us hl=>by obtain ⟨_,_,rfl⟩:=len2 hl;rfl
 have B9:=f9.binds (ps:=["box","stairs"]) λ _ _ _ _ _ _ us hl=>by obtain ⟨_,_,rfl⟩:=len2 hl;rfl
 have B10:=f10.binds (ps:=["way"]) λ _ _ _ _ _ _ us hl=>by obtain ⟨_,rfl⟩:=len1 hl;rfl
 have B11:=f11.binds (ps:=["box","thing"]) λ _ _ _ _ _ _ us hl=>by obtain ⟨_,_,rfl⟩:=len2 hl;rfl
 have B12:=f12.binds (ps:=["box","thing"]) λ _ _ _ _ _ _ us hl=>by obtain ⟨_,_,rfl⟩:=len2 hl;rfl
 have B13:=f13.binds (ps:=["box","thing"]) λ _ _ _ _ _ _ us hl=>by obtain ⟨_,_,rfl⟩:=len2 hl;rfl
 have B14:=f14.binds (ps:=["box","ways"]) λ _ _ _ _ _ _ us hl=>by obtain ⟨_,_,rfl⟩:=len2 hl;rfl
 have B15:=f15.binds (ps:=["script","k"]) λ _ _ _ _ _ _ us hl=>by obtain ⟨_,_,rfl⟩:=len2 hl;rfl
 have B16:=f16.binds (ps:=["cell","k"]) λ _ _ _ _ _ _ us hl=>by obtain ⟨_,_,rfl⟩:=len2 hl;rfl
 have B17:=f17.binds (ps:=["cell","many"]) λ _ _ _ _ _ _ us hl=>by obtain ⟨_,_,rfl⟩:=len2 hl;rfl
 have B18:=f18.binds (ps:=["found","due"]) λ _ _ _ _ _ _ us hl=>by obtain ⟨_,_,rfl⟩:=len2 hl;rfl
 have B19:=f19.binds (ps:=["cell","most","great"]) λ _ _ _ _ _ _ us hl=>by obtain ⟨_,_,_,rfl⟩:=len3 hl;rfl
 have B20:=f20.binds (ps:=["box","script","start","cell"]) λ _ _ _ _ _ _ us hl=>by obtain ⟨_,_,_,_,rfl⟩:=len4 hl;rfl
 have B21:=f21.binds (ps:=["box","pile"]) λ _ _ _ _ _ _ us hl=>by obtain ⟨_,_,rfl⟩:=len2 hl;rfl
 have B22:=f22.binds (ps:=["staircase","columns"]) λ _ _ _ _ _ _ us hl=>by obtain ⟨_,_,rfl⟩:=len2 hl;rfl
 have B23:=f23.binds (ps:=["box","far"]) λ _ _ _ _ _ _ us hl=>by obtain ⟨_,_,rfl⟩:=len2 hl;rfl
 have B24:=f24.binds (ps:=["way"]) λ _ _ _ _ _ _ us hl=>by obtain ⟨_,rfl⟩:=len1 hl;rfl
 have B25:=f25.binds (ps:=["box","thing"]) λ _ _ _ _ _ _ us hl=>by obtain ⟨_,_,rfl⟩:=len2 hl;rfl
 have B26:=f26.binds (ps:=["ways","way","number"]) λ _ _ _ _ _ _ us hl=>by obtain ⟨_,_,_,rfl⟩:=len3 hl;rfl
 have B27:=f27.binds (ps:=["caught"]) λ _ _ _ _ _ _ us hl=>by obtain ⟨_,rfl⟩:=len1 hl;rfl
 have B28:=f28.binds (ps:=["box","thing"]) λ _ _ _ _ _ _ us hl=>by obtain ⟨_,_,rfl⟩:=len2 hl;rfl
 refine ⟨d29,?_,λ base=>?_⟩
 ·obtain ⟨_,_,_,_,_,_,_,_,_,rfl,_,_⟩:=f29.ex
  exact λ s v=>.of_eq rfl
 have o0:FnOk P w K mg base (CXr P w K) 1 a0 d0 ["thing"] (spF K false 1 F0):=zxy (S:=S0) f0 c0 rfl rfl rfl rfl (by decide) (λ h=>nomatch h) gx (zxe hb) zqr h0
 have o1:FnOk P w K mg base (CXr P w K) 2 a1 d1 ["thing"] (spF K false 1 F1):=zxy (S:=S1) f1 c1 rfl rfl rfl rfl (by decide) (λ h=>nomatch h) gx (zql (zxe hb) (by decide +kernel) zqi m0 f0 B0 rfl (o0.mono (by decide))) zqr h1
 have o2:FnOk P w K mg base (CXr P w K) 3 a2 d2 ["box"] (spF K false 1 F2):=zxy (S:=S2) f2 c2 rfl rfl rfl rfl (by decide) (λ h=>nomatch h) gx (zql (zxe hb) (by decide +kernel) zqi m1 f1 B1 rfl (o1.mono (by decide))) zqr h2
 have o3:FnOk P w K mg base (CXr P w K) 2 a3 d3 ["thing","columns","height"] (spF K false 3 F3):=zxy (S:=S3) f3 c3 rfl rfl rfl rfl (by decide) (λ h=>nomatch h) gx (zql (zxe hb) (by decide +kernel) zqi m0 f0 B0 rfl (o0.mono (by decide))) zqr h3
 have o4:FnOk P w K mg base (CXr P w K) 1 a4 d4 ["numbers"] (spF K false 1 F4):=zxy (S:=S4) f4 c4 rfl rfl rfl rfl (by decide) (λ h=>nomatch h) gx (zxe hb) zqr h4
 have o5:FnOk P w K mg base (CXr P w K) 1 a5 d5 ["table","j"] (spF K false 2 F5):=zxy (S:=S5) f5 c5 rfl rfl rfl rfl (by decide) (λ h=>nomatch h) gx (zxe hb) zqr h5
 have o6:FnOk P w K mg base (CXr P w K) 4 a6 d6 ["box","thing"] (spF K false 2 F6):=zxy (S:=S6) f6 c6 rfl rfl rfl rfl (by decide) (λ h=>nomatch h) gx (zql (zql (zql (zql (zxe hb) (by decide +kernel) zqi m5 f5 B5 rfl (o5.mono (by decide))) (by decide +kernel) zqi m4 f4 B4 rfl (o4.mono (by decide))) (by decide +kernel) zqi m3 f3 B3 rfl (o3.mono (by decide))) (by decide +kernel) zqi m2 f2 B2 rfl (o2.mono (by decide))) zqr h6
 have o7:FnOk P w K mg base (CXr P w K) 1 a7 d7 ["numbers","level"] (spF K false 2 F7):=zxy (S:=S7) f7 c7 rfl rfl rfl rfl (by decide) (λ h=>nomatch h) gx (zxe hb) zqr h7
 have o8:FnOk P w K mg base (CXr P w K) 5 a8 d8 ["box","thing"] (spF K false 2 F8):=zxy (S:=S8) f8 c8 rfl rfl rfl rfl (by decide) (λ h=>nomatch h) gx (zql (zql (zxe hb) (by decide +kernel) zqi m6 f6 B6 rfl (o6.mono (by decide))) (by decide +kernel) zqi m2 f2 B2 rfl (o2.mono (by decide))) zqr h8
 have o9:FnOk P w K mg base (CXr P w K) 6 a9 d9 ["box","stairs"] (spF K false 2 F9):=zxy (S:=S9) f9 c9 rfl rfl rfl rfl (by decide) (λ h=>nomatch h) gx (zql (zql (zql (zxe hb) (by decide +kernel) zqi m8 f8 B8 rfl (o8.mono (by decide))) (by decide +kernel) zqi m7 f7 B7 rfl (o7.mono (by decide))) (by decide +kernel) zqi m5 f5 B5 rfl (o5.mono (by decide))) zqr h9
 have o10:FnOk P w K mg base (CXr P w K) 1 a10 d10 ["way"] (spF K false 1 F10):=zxy (S:=S10) f10 c10 rfl rfl rfl rfl (by decide) (λ h=>nomatch h) gx (zxe hb) zqr h10
 have o11:FnOk P w K mg base (CXr P w K) 1 a11 d11 ["box","thing"] (spF K false 2 F11):=zxy (S:=S11) f11 c11 rfl rfl rfl rfl (by decide) (λ h=>nomatch h) gx (zxe hb) zqr h11
 have o12:FnOk P w K mg base (CXr P w K) 2 a12 d12 ["box","thing"] (spF K false 2 F12):=zxy (S:=S12) f12 c12 rfl rfl rfl rfl (by decide) (λ h=>nomatch h) gx (zql (zxe hb) (by decide +kernel) zqi m11 f11 B11 rfl (o11.mono (by decide))) zqr h12
 have o13:FnOk P w K mg base (CXr P w K) 6 a13 d13 ["box","thing"] (spF K false 2 F13):=zxy (S:=S13) f13 c13 rfl rfl rfl rfl (by decide) (λ h=>nomatch h) gx (zql (zql (zql (zql (zxe hb) (by decide +kernel) zqi m12 f12 B12 rfl (o12.mono (by decide))) (by decide +kernel) zqi m10 f10 B10 rfl (o10.mono (by decide))) (by decide +kernel) zqi m8 f8 B8 rfl (o8.mono (by decide))) (by decide +kernel) zqi m2 f2 B2 rfl (o2.mono (by decide))) zqr h13
 have o14:FnOk P w K mg base (CXr P w K) 7 a14 d14 ["box","ways"] (spF K false 2 F14):=zxy (S:=S14) f14 c14 rfl rfl rfl rfl (by decide) (λ h=>nomatch h) gx (zql (zql (zql (zxe hb) (by decide +kernel) zqi m13 f13 B13 rfl (o13.mono (by decide))) (by decide +kernel) zqi m10 f10 B10 rfl (o10.mono (by decide))) (by decide +kernel) zqi m9 f9 B9 rfl (o9.mono (by decide))) zqr h14
 have o15:FnOk P w K mg base (CXr P w K) 1 a15 d15 ["script","k"] (spF K false 2 F15):=zxy (S:=S15) f15 c15 rfl rfl rfl rfl (by decide) (λ h=>nomatch h) gx (zxe hb) zqr h15
 have o16:FnOk P w K mg base (CXr P w K) 1 a16 d16 ["cell","k"] (spF K false 2 F16):=zxy (S:=S16) f16 c16 rfl rfl rfl rfl (by decide) (λ h=>nomatch h) gx (zxe hb) zqr h16
 have o17:FnOk P w K mg base (CXr P w K) 2 a17 d17 ["cell","many"] (spF K false 2 F17):=zxy (S:=S17) f17 c17 rfl rfl rfl rfl (by decide) (λ h=>nomatch h) gx (zql (zxe hb) (by decide +kernel) zqi m16 f16 B16 rfl (o16.mono (by decide))) zqr h17
 have o18r0:FnOk P w K mg base (CXr P w K) 0 a18 d18 ["found","due"] (spF K false 2 ql7):=qqf rfl
 have o18r1:FnOk P w K mg base (CXr P w K) 1 a18 d18 ["found","due"] (spF K false 2 qf5):=zxy (S:=ql6) f18 c18 rfl rfl rfl rfl (by decide) (λ h=>nomatch h) gx (zql (zxe hb) (by decide +kernel) (λ _ _=>rfl) m18 f18 B18 rfl o18r0) zqr qqc
 have o18r2:FnOk P w K mg base (CXr P w K) 2 a18 d18 ["found","due"] (spF K false 2 qf4):=zxy (S:=ql5) f18 c18 rfl rfl rfl rfl (by decide) (λ h=>nomatch h) gx (zql (zxe hb) (by decide +kernel) zqi m18 f18 B18 rfl o18r1) zqr qqb
 have o18r3:FnOk P w K mg base (CXr P w K) 3 a18 d18 ["found","due"] (spF K false 2 qf3):=zxy (S:=ql4) f18 c18 rfl rfl rfl rfl (by decide) (λ h=>nomatch h) gx (zql (zxe hb) (by decide +kernel) zqi m18 f18 B18 rfl o18r2) zqr qqa
 have o18r4:FnOk P w K mg base (CXr P w K) 4 a18 d18 ["found","due"] (spF K false 2 qh8):=zxy (S:=qh7) f18 c18 rfl rfl rfl rfl (by decide) (λ h=>nomatch h) gx (zql (zxe hb) (by decide +kernel) zqi m18 f18 B18 rfl o18r3) zqr qp9
 have o18:=o18r4
 have o19:FnOk P w K mg base (CXr P w K) 3 a19 d19 ["cell","most","great"] (spF K false 3 F19):=zxy (S:=S19) f19 c19 rfl rfl rfl rfl (by decide) (λ h=>nomatch h) gx (zql (zxe hb) (by decide +kernel) zqi m17 f17 B17 rfl (o17.mono (by decide))) zqr h19
 have o20:FnOk P w K mg base (CXr P w K) 3 a20 d20 ["box","script","start","cell"] (spF K false 4 F20):=zxy (S:=S20) f20 c20 rfl rfl rfl rfl (by decide) (λ h=>nomatch h) gx (zql (zxe hb) (by decide +kernel) zqi m17 f17 B17 rfl (o17.mono (by decide))) zqr h20
 have o21:FnOk P w K mg base (CXr P w K) 1 a21 d21 ["box","pile"] (spF K false 2 F21):=zxy (S:=S21) f21 c21 rfl rfl rfl rfl (by decide) (λ h=>nomatch h) gx (zxe hb) zqr h21
 have o22:FnOk P w K mg base (CXr P w K) 1 a22 d22 ["staircase","columns"] (spF K false 2 F22):=zxy (S:=S22) f22 c22 rfl rfl rfl rfl (by decide) (λ h=>nomatch h) gx (zxe hb) zqr h22
 have o23:FnOk P w K mg base (CXr P w K) 1 a23 d23 ["box","far"] (spF K false 2 F23):=zxy (S:=S23) f23 c23 rfl rfl rfl rfl (by decide) (λ h=>nomatch h) gx (zxe hb) zqr h23
 have o24:FnOk P w K mg base (CXr P w K) 1 a24 d24 ["way"] (spF K false 1 F24):=zxy (S:=S24) f24 c24 rfl rfl rfl rfl (by decide) (λ h=>nomatch h) gx (zxe hb) zqr h24
 have o25:FnOk P w K mg base (CXr P w K) 2 a25 d25 ["box","thing"] (spF K false 2 F25):=zxy (S:=S25) f25 c25 rfl rfl rfl rfl (by decide) (λ h=>nomatch h) gx (zql (zxe hb) (by decide +kernel) zqi m24 f24 B24 rfl (o24.mono (by decide))) zqr h25
 have o26:FnOk P w K mg base (CXr P w K) 1 a26 d26 ["ways","way","number"] (spF K false 3 F26):=zxy (S:=S26) f26 c26 rfl rfl rfl rfl (by decide) (λ h=>nomatch h) gx (zxe hb) zqr h26
 have o27:FnOk P w K mg base (CXr P w K) 1 a27 d27 ["caught"] (spF K false 1 F27):=zxy (S:=S27) f27 c27 rfl rfl rfl rfl (by decide) (λ h=>nomatch h) gx (zxe hb) zqr h27
 have o28:FnOk P w K mg base (CXr P w K) 8 a28 d28 ["box","thing"] (spF K false 2 F28):=zxy (S:=S28) f28 c28 rfl rfl rfl rfl (by decide) (λ h=>nomatch h) gx (zql (zql (zxe hb) (by decide +kernel) zqi m27 f27 B27 rfl (o27.mono (by decide))) (by decide +kernel) zqi m14 f14 B14 rfl (o14.mono (by decide))) zqr h28
 exact zxy (S:=S29) f29 c29 rfl rfl rfl rfl (by decide) (λ h=>nomatch h) gx (zql (zql (zql (zql (zql (zql (zql (zql (zql (zql (zql (zxe hb) (by decide +kernel) zqi m28 f28 B28 rfl (o28.mono (by decide))) (by decide +kernel) zqi m26 f26 B26 rfl (o26.mono (by decide))) (by decide +kernel) zqi m25 f25 B25 rfl (o25.mono (by decide))) (by decide +kernel) zqi m23 f23 B23 rfl (o23.mono (by decide))) (by decide +kernel) zqi m22 f22 B22 rfl (o22.mono (by decide))) (by decide +kernel) zqi m21 f21 B21 rfl (o21.mono (by decide))) (by decide +kernel) zqi m20 f20 B20 rfl (o20.mono (by decide))) (by decide +kernel) zqi m19 f19 B19 rfl (o19.mono (by decide))) (by decide +kernel) zqi m18 f18 B18 rfl (o18.mono (by decide))) (by decide +kernel) zqi m15 f15 B15 rfl (o15.mono (by decide))) (by decide +kernel) zqi m14 f14 B14 rfl (o14.mono (by decide))) zqr h29
end
def view:Program:={ PySem.Challenge.pw_cornerpiles_k16_piles_of_ways with main:={ PySem.Challenge.pw_cornerpiles_k16_piles_of_ways.main with body:=[t29] } }
def loose:List Str:=(PySem.Challenge.pw_cornerpiles_k16_piles_of_ways.main.scope.names.map λ x=>x.1).filter λ x=>!(x == ("law" : Str))
theorem run:∀ (w:PySem.World) (os:PySem.OsState),(zyj PySem.treeTable PySem.Challenge.rw_cornerpiles_k16_piles_of_ways.prog w (PySem.W.boot_heap w.params).objs.size ((PySem.W.boot_heap w.params).nsMap mainGlobals "__annotations__") 20000 (bootS w.params os) (PySem.W.topStub PySem.Challenge.rw_cornerpiles_k16_piles_of_ways.prog)).map (λ s=>qag PySem.Challenge.rw_cornerpiles_k16_piles_of_ways.prog view loose (λ s=>PySem.W.xlAt view [] s && PySem.W.recOk (PySem.W.RowW.records PySem.Challenge.rw_cornerpiles_k16_piles_of_ways.row.toRowW) s) (λ s=>zbo dfs [0,1,2,3,4,5,6,7,8,9,10,11] (kof s.heap)) (PySem.W.boot_heap w.params) s.abs)=some (true,PySem.W.openGood view loose,zgq dfs):=λ w os=>by kernel_rfl
end K16
open PySem PySem.W PyProof.Rows
set_option maxRecDepth 100000 in
set_option maxHeartbeats 0 in
theorem PySem.Challenge.cw_cornerpiles_k16_piles_of_ways_holds : PySem.Challenge.rw_cornerpiles_k16_piles_of_ways.Holds := by
 refine QQ.holds_by (l:=PySem.Challenge.rw_cornerpiles_k16_piles_of_ways) (q:=K16.view) (loose:=K16.loose) (N:=20000) (k:=9) (n:=63) (ds:=K16.dfs) (xc:=[0,1,2,3,4,5,6,7,8,9,10,11]) (F:=K16.F29) (x := "script") ?said rfl rfl (λ _=>rfl) K16.run (by rfl) (by rfl) (by rfl) (by rfl) (by decide +kernel) ⟨rfl,rfl,rfl,rfl,rfl,by decide +kernel⟩ ?hw rfl (by decide) rfl ⟨rfl,by decide,by decide,rfl⟩ (λ _ _ _ _ G hm=>K16.all_ok G hm) (λ _ _ _ ns hl hO hS=>QQ.sp_yes hO hS (K16.law_true ns hl))
 case said=>decide +kernel
 case hw=>w_witness2
