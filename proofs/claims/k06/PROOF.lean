import PyProof.Rows.All
import Wide.All
import OpenK.AllK
import Wide.FinOn
import Lean
import PyProof.EqAt
import PyProof.EqKinds
import PyProof.TupleCall
import PySem.Challenge.RW_cornerpiles_k06_refused_ahead
set_option Elab.async false
set_option linter.all false
set_option maxRecDepth 100000
set_option autoImplicit false
set_option maxHeartbeats 2000000
namespace L2
open PySem PySem.Spec PyProof.Rows
abbrev Key:=Sum Int Str
def keyIs:Key→Value→Bool
 | .inl k,v=>Value.isInt k v
 | .inr x,v=>Value.isStrOf x v
def keyH (w:World):Key→Int
 | .inl k=>hashInt k
 | .inr x=>hashStr w x
theorem keyIs_shape:∀ {k:Key}{v:Value},keyIs k v=true→(∃ i t,k=Sum.inl i∧v=Value.int i t)∨(∃ x t,k=Sum.inr x∧v=Value.str x t)
 | .inl i,v,h=>by
  obtain ⟨t,e⟩:=Value.isInt_shape (k:=i) (v:=v) h
  exact .inl ⟨i,t,rfl,e⟩
 | .inr x,v,h=>by
  obtain ⟨t,e⟩:=Value.isStrOf_shape (x:=x) (v:=v) h
  exact .inr ⟨x,t,rfl,e⟩
theorem keyIs_int (i:Int) (t:Tok):keyIs (.inl i) (.int i t)=true:=by simp [keyIs,Value.isInt]
theorem keyIs_str (x:Str) (t:Tok):keyIs (.inr x) (.str x t)=true:=by simp [keyIs,Value.isStrOf]
theorem key_ll (a b:Int):decide ((Sum.inl a:Key)=Sum.inl b)=(a == b):=by
 by_cases e:a=b
 ·subst e;simp
 ·have h:¬ (Sum.inl a:Key)=Sum.inl b:=fun q=>e (Sum.inl.inj q)
  rw [decide_eq_false h]
  exact (beq_eq_false_iff_ne.mpr e).symm
theorem key_rr (a b:Str):decide ((Sum.inr a:Key)=Sum.inr b)=decide (a=b):=by
 by_cases e:a=b
 ·subst e;simp
 ·have h:¬ (Sum.inr a:Key)=Sum.inr b:=fun q=>e (Sum.inr.inj q)
  rw [decide_eq_false h,decide_eq_false e]
theorem key_lr (a:Int) (b:Str):decide ((Sum.inl a:Key)=Sum.inr b)=false:=decide_eq_false (fun q=>nomatch q)
theorem key_rl (a:Str) (b:Int):decide ((Sum.inr a:Key)=Sum.inl b)=false:=decide_eq_false (fun q=>nomatch q)
def mixKind (prog:Program) (w:World):PySem.KeyKind prog w Key where
 is:=keyIs
 hash:=keyH w
 inj:=fun v a b ha hb=>by
  rcases keyIs_shape ha with ⟨i,t,rfl,rfl⟩ | ⟨x,t,rfl,rfl⟩
  ·rcases keyIs_shape hb with ⟨j,u,rfl,e⟩ | ⟨y,u,rfl,e⟩
   ·injection e with e1 _;rw [e1]
   ·exact nomatch e
  ·rcases keyIs_shape hb with ⟨j,u,rfl,e⟩ | ⟨y,u,rfl,e⟩
   ·exact nomatch e
   ·injection e with e1 _;rw [e1]
 byValue:=fun k v h=>by
  rcases keyIs_shape h with ⟨i,t,rfl,rfl⟩ | ⟨x,t,rfl,rfl⟩ <;> rfl
 pyHash:=fun hv h=>by
  rcases keyIs_shape hv with ⟨i,t,rfl,rfl⟩ | ⟨x,t,rfl,rfl⟩
  ·exact wpAny_pyHash_int h
  ·exact wpAny_pyHash_str h
 eqBool:=fun hu hv h=>by
  rcases keyIs_shape hu with ⟨i,t,rfl,rfl⟩ | ⟨x,t,rfl,rfl⟩
  ·rcases keyIs_shape hv with ⟨j,u,rfl,rfl⟩ | ⟨y,u,rfl,rfl⟩
   ·rw [key_ll] at h;exact wpAny_eqBool_int h
   ·rw [key_lr] at h;exact SeqAt.EqAt.int_str i t y u _ _ _ _ h
  ·rcases keyIs_shape hv with ⟨j,u,rfl,rfl⟩ | ⟨y,u,rfl,rfl⟩
   ·rw [key_rl] at h;exact SeqAt.EqAt.str_int x t j u _ _ _ _ h
   ·rw [key_rr] at h;exact wpAny_eqBool_str h
 «strs»:=fun k x t v h=>by
  rcases keyIs_shape h with ⟨i,u,rfl,e⟩ | ⟨y,u,rfl,e⟩
  ·exact nomatch e
  ·injection e with e1 _
   subst e1
   cases v <;> rfl
theorem mixKind_int (prog:Program) (w:World) (i:Int) (t:Tok):(mixKind prog w).is (.inl i) (.int i t)=true:=keyIs_int i t
theorem mixKind_str (prog:Program) (w:World) (x:Str) (t:Tok):(mixKind prog w).is (.inr x) (.str x t)=true:=keyIs_str x t
open PySem PySem.Spec PyProof.Rows
inductive V where
 | non | bl (b:Bool) | int (i:Int) | str (x:Str) | byt (b:Array UInt8) | flt (b:UInt64) | ref (a:Addr) | ty (n:String)
 deriving DecidableEq
def RelV:V→Value→Prop
 | .non,u=>u=Value.none
 | .bl b,u=>u=Value.bool b
 | .int i,u=>∃ t,u=Value.int i t
 | .str x,u=>∃ t,u=Value.str x t
 | .byt b,u=>∃ t,u=Value.bytes b t
 | .flt b,u=>∃ t,u=Value.float b t
 | .ref a,u=>u=Value.ref a
 | .ty n,u=>u=Value.type n
abbrev Vals:List V→List Value→Prop:=Paired RelV
theorem Vals.length {xs:List V}{us:List Value} (r:Vals xs us):xs.length=us.length:=Paired.length r
theorem Vals.get:∀ {xs:List V}{us:List Value}{i:Nat}{x:V},Vals xs us→xs[i]?=some x→∃ u,us[i]?=some u∧RelV x u
 | _,_,_,_,.nil,e=>by simp at e
 | _,_,0,_,.cons r _,e=>by simp at e;subst e;exact ⟨_,rfl,r⟩
 | _,_,i + 1,x,.cons _ t,e=>by
  obtain ⟨u,h1,h2⟩:=Vals.get (i:=i) (x:=x) t (by simpa using e)
  exact ⟨u,by simpa using h1,h2⟩
theorem Vals.set {x:V}{u:Value} (r:RelV x u):∀ {xs:List V}{us:List Value} (i:Nat),Vals xs us→Vals (xs.set i x) (us.set i u)
 | _,_,_,.nil=>.nil
 | _,_,0,.cons _ t=>.cons r t
 | _,_,i + 1,.cons q t=>.cons q (Vals.set r i t)
theorem Vals.append:∀ {xs ys:List V}{us ws:List Value},Vals xs us→Vals ys ws→Vals (xs++ys) (us++ws)
 | _,_,_,_,.nil,s=>s
 | _,_,_,_,.cons r t,s=>.cons r (Vals.append t s)
theorem Vals.take:∀ {xs:List V}{us:List Value} (n:Nat),Vals xs us→Vals (xs.take n) (us.take n)
 | _,_,0,_=>.nil
 | _,_,_ + 1,.nil=>.nil
 | _,_,n + 1,.cons r t=>.cons r (Vals.take n t)
theorem Vals.drop:∀ {xs:List V}{us:List Value} (n:Nat),Vals xs us→Vals (xs.drop n) (us.drop n)
 | _,_,0,r=>r
 | _,_,_ + 1,.nil=>.nil
 | _,_,n + 1,.cons _ t=>Vals.drop n t
def RelO:Option V→Option Value→Prop
 | some v,some u=>RelV v u
 | none,none=>True
 | _,_=>False
def KV {κ:Type}:List (κ×V)→List (κ×Value)→Prop:=Paired fun (p:κ×V) (q:κ×Value)=>p.1=q.1∧RelV p.2 q.2
def kV:Key→V
 | .inl i=>.int i
 | .inr x=>.str x
inductive HO where
 | lst (xs:List V)
 | tup (xs:List V)
 | dK (kvs:List (Key×V)) | dT (kvs:List (List Key×V))
 | set (S:Int→Bool) (n:Nat)
 | ins (C dx:Addr) (fs:List (Str×V))
 | own (x:Addr)
 | xd (fs:List (Str×V))
 | met (f x:Addr)
 | rng (lo hi:Int)
 | frz (o:Obj) (u:HO)
 | tbl (ps:Array Value)
 | ext (φ:Heap→Prop)
abbrev Hp:=Addr→Option HO
def upd (H:Hp) (a:Addr) (o:HO):Hp:=fun b=>if b=a then some o else H b
theorem upd_same {H:Hp}{a:Addr}{o:HO}:upd H a o a=some o:=by unfold upd;rw [if_pos rfl]
theorem upd_ne {H:Hp}{a b:Addr}{o:HO} (h:b≠a):upd H a o b=H b:=by unfold upd;rw [if_neg h]
theorem ne_of_none {H:Hp}{a b:Addr}{o:HO} (h:H a=some o) (h':H b=none):a≠b:=by
 intro e;subst e;rw [h] at h';cases h'
section
variable (P:Program) (w:World)
def ObjOk (H:Hp) (h:Heap) (a:Addr):HO→Prop
 | .lst xs=>xs.length≤sizeLine∧∃ (its:List Value) (n:Nat),Vals xs its∧h.get? a=some { cls:=.type "list",data:=.seq its.toArray n }
 | .tup xs=>xs.length≤sizeLine∧∃ its:List Value,Vals xs its∧IsTup h a its.toArray
 | .dK kvs=>kvs.length≤sizeLine∧(a == sysModules)=false∧∃ vs,KV kvs vs∧h.DictOf (mixKind P w) a vs
 | .dT kvs=>kvs.length≤sizeLine∧(a == sysModules)=false∧∃ xs:List (List Key×Addr×Value),
   Paired (fun (p:List Key×V) (q:List Key×Addr×Value)=>p.1=q.1∧H q.2.1=some (.tup (p.1.map kV))∧RelV p.2 q.2.2) kvs xs ∧
   ∃ o es ep,h.get? a=some o∧o.ExactDict∧o.data=.dict es ep∧es.toList=xs.map (entryOfKey (tupleKind (mixKind P w)))∧(xs.map (·.1)).Nodup
 | .set S n=>h.SetOf (intKind P w) a S n
 | .ins C dx fs=>H dx=some (.own a)∧fs.length≤1000∧dx≠a∧h.get? a=some (PySem.W.instObj C dx) ∧
   ∃ mA,h.Ns1 dx mA∧(∀ f,RelO (fs.lookup f) (mA f))∧PySem.Within mA (fs.map (·.1))
 | .own _=>∃ o,h.get? a=some o
 | .xd fs=>∃ mA,h.Ns1 a mA∧∀ f,RelO (fs.lookup f) (mA f)
 | .rng lo hi=>∃ t u v,h.get? a=some { cls:=.type "range",data:=.fields #[.int lo t,.int hi u,.int 1 v] }
 | .frz o u=>h.get? a=some o∧ObjOk H h a u
 | .tbl ps=>h.get? a=some { cls:=.none,data:=.fields ps }
 | .met f x=>h.get? a=some (PySem.W.methodObj (.ref f) (.ref x))
 | .ext φ=>φ h∧(∃ o,h.get? a=some o)∧∀ h1 h2:Heap,φ h1→(∀ o,h1.get? a=some o→h2.get? a=some o)→φ h2
def HOk (H:Hp) (h:Heap):Prop:=∀ a o,H a=some o→ObjOk P w H h a o
end
section
variable {P:Program}{w:World}{H H':Hp}{h h':Heap}{a:Addr}{o:HO}
theorem ObjOk.lt (x:ObjOk P w H h a o):a < h.objs.size:=by
 cases o with
 | lst xs=>obtain ⟨_,_,_,_,e⟩:=x;exact Heap.lt_size e
 | tup xs=>obtain ⟨_,_,_,p⟩:=x;exact p.lt
 | dK kvs=>obtain ⟨_,_,_,_,o,_,_,e,_⟩:=x;exact Heap.lt_size e
 | dT kvs=>obtain ⟨_,_,_,_,o,_,_,e,_⟩:=x;exact Heap.lt_size e
 | set S n=>obtain ⟨o,_,_,_,e,_⟩:=x;exact Heap.lt_size e
 | ins C dx fs=>obtain ⟨_,_,_,e,_⟩:=x;exact Heap.lt_size e
 | own y=>obtain ⟨_,e⟩:=x;exact Heap.lt_size e
 | xd fs=>obtain ⟨_,⟨_,_,_,e,_⟩,_⟩:=x;exact Heap.lt_size e
 | rng lo hi=>obtain ⟨_,_,_,e⟩:=x;exact Heap.lt_size e
 | frz ob u=>obtain ⟨e,_⟩:=x;exact Heap.lt_size e
 | tbl ps=>exact Heap.lt_size (show h.get? a=some _ from x)
 | met f y=>exact Heap.lt_size (show h.get? a=some _ from x)
 | ext φ=>obtain ⟨_,⟨_,e⟩,_⟩:=x;exact Heap.lt_size e
theorem Paired.mapP {α β:Type}{F G:α→β→Prop}:∀ {l₁:List α}{l₂:List β},Paired F l₁ l₂→(∀ a b,F a b→G a b)→Paired G l₁ l₂
 | _,_,.nil,_=>.nil
 | _,_,.cons r t,f=>.cons (f _ _ r) (Paired.mapP t f)
theorem ObjOk.stay (x:ObjOk P w H h a o) (k:∀ b u,(b=a∨H b=some (.own a))→h.get? b=some u→h'.get? b=some u)
  (ho:∀ b,H b=some (.own a)→H' b=some (.own a)) (ht:∀ b xs,H b=some (.tup xs)→H' b=some (.tup xs)):ObjOk P w H' h' a o:=by
 induction o with
 | lst xs=>obtain ⟨z,its,n,r,e⟩:=x;exact ⟨z,its,n,r,k _ _ (.inl rfl) e⟩
 | tup xs=>obtain ⟨z,its,r,ob,e,c⟩:=x;exact ⟨z,its,r,ob,k _ _ (.inl rfl) e,c⟩
 | dK kvs=>obtain ⟨z,y,vs,r,ob,es,ep,e,c⟩:=x;exact ⟨z,y,vs,r,ob,es,ep,k _ _ (.inl rfl) e,c⟩
 | dT kvs=>
  obtain ⟨z,y,xs,r,ob,es,ep,e,c⟩:=x
  exact ⟨z,y,xs,Paired.mapP r fun p q z=>⟨z.1,ht _ _ z.2.1,z.2.2⟩,ob,es,ep,k _ _ (.inl rfl) e,c⟩
 | set S n=>obtain ⟨ob,es,ep,t,e,c⟩:=x;exact ⟨ob,es,ep,t,k _ _ (.inl rfl) e,c⟩
 | ins C dx fs=>
  obtain ⟨d,z,ne,e,mA,⟨od,es,ep,e2,c⟩,r⟩:=x
  exact ⟨ho _ d,z,ne,k _ _ (.inl rfl) e,mA,⟨od,es,ep,k _ _ (.inr d) e2,c⟩,r⟩
 | own y=>obtain ⟨ob,e⟩:=x;exact ⟨ob,k _ _ (.inl rfl) e⟩
 | xd fs=>obtain ⟨mA,⟨od,es,ep,e,c⟩,r⟩:=x;exact ⟨mA,⟨od,es,ep,k _ _ (.inl rfl) e,c⟩,r⟩
 | rng lo hi=>obtain ⟨t,u,v,e⟩:=x;exact ⟨t,u,v,k _ _ (.inl rfl) e⟩
 | frz ob u ih=>obtain ⟨e,q⟩:=x;exact ⟨k _ _ (.inl rfl) e,ih q⟩
 | tbl ps=>
  have e:h.get? a=some { cls:=.none,data:=.fields ps }:=x
  show h'.get? a=some { cls:=.none,data:=.fields ps }
  exact k a _ (.inl rfl) e
 | met f y=>
  have e:h.get? a=some (PySem.W.methodObj (.ref f) (.ref y)):=x
  show h'.get? a=some (PySem.W.methodObj (.ref f) (.ref y))
  exact k a _ (.inl rfl) e
 | ext φ=>obtain ⟨p,⟨o,e⟩,st⟩:=x;exact ⟨st _ _ p fun o q=>k _ _ (.inl rfl) q,⟨o,k _ _ (.inl rfl) e⟩,st⟩
theorem HOk.lt (x:HOk P w H h) (e:H a=some o):a < h.objs.size:=(x a o e).lt
theorem HOk.fresh (x:HOk P w H h) (e:h.objs.size≤a):H a=none:=by
 cases q:H a with
 | none=>rfl
 | some u=>exact absurd (Nat.lt_of_lt_of_le (x.lt q) e) (Nat.lt_irrefl _)
theorem HOk.kept (x:HOk P w H h) (k:∀ b u,h.get? b=some u→h'.get? b=some u):HOk P w H h':=fun a o e=>
 (x a o e).stay (fun b u _ q=>k b u q) (fun _ q=>q) fun _ _ q=>q
theorem HOk.laid (x:HOk P w H h) (k:∀ b u,h.get? b=some u→h'.get? b=some u) (hp:h.objs.size≤a) (new:ObjOk P w (upd H a o) h' a o):HOk P w (upd H a o) h':=fun b u e=>by
 have hn:=x.fresh hp
 by_cases hb:b=a
 ·subst hb;rw [upd_same] at e;cases e;exact new
 ·rw [upd_ne hb] at e
  exact (x b u e).stay (fun c v _ q=>k c v q) (fun c q=>by rw [upd_ne (ne_of_none q hn)];exact q) fun c xs q=>by rw [upd_ne (ne_of_none q hn)];exact q
end
def Rd (H:Hp) (a:Addr) (u:HO):Prop:=H a=some u∨∃ o,H a=some (.frz o u)
theorem Rd.ok {P:Program}{w:World}{H:Hp}{h:Heap}{a:Addr}{u:HO} (r:Rd H a u) (x:HOk P w H h):ObjOk P w H h a u:=by
 rcases r with r | ⟨o,r⟩
 ·exact x a u r
 ·obtain ⟨_,q⟩:=x a _ r
  exact q
def Mut:Option HO→Prop
 | some (.lst _)=>True
 | some (.dK _)=>True
 | some (.dT _)=>True
 | some (.set _ _)=>True
 | some (.ins _ _ _)=>True
 | some (.ext _)=>True
 | _=>False
section
variable {P:Program}{w:World}{H:Hp}{h h':Heap}{x e:Addr}{o':HO}
theorem HOk.write (ok:HOk P w H h) (mu:Mut (H x)) (he:e=x∨H e=some (.own x)) (k:∀ b u,b≠e→h.get? b=some u→h'.get? b=some u) (heo:∃ u,h'.get? e=some u)
  (new:ObjOk P w (upd H x o') h' x o'):HOk P w (upd H x o') h':=fun b u q=>by
 have nown:∀ c y,H c=some (.own y)→c≠x:=fun c y r z=>by subst z;rw [r] at mu;exact mu
 have ntup:∀ c xs,H c=some (.tup xs)→c≠x:=fun c xs r z=>by subst z;rw [r] at mu;exact mu
 by_cases hb:b=x
 ·subst hb;rw [upd_same] at q;cases q;exact new
 ·rw [upd_ne hb] at q
  by_cases hbe:b=e
  ·have q':H b=some (.own x):=by
    rcases he with z | z
    ·exact absurd (hbe.trans z) hb
    ·rw [hbe];exact z
   rw [q] at q';cases q'
   obtain ⟨v,hv⟩:=heo
   exact ⟨v,by rw [hbe];exact hv⟩
  ·refine (ok b u q).stay (fun c v hc r=>k c v ?_ r) (fun c r=>by rw [upd_ne (nown c b r)];exact r) fun c xs r=>by rw [upd_ne (ntup c xs r)];exact r
   rcases hc with rfl | hc
   ·exact hbe
   ·rintro rfl
    rcases he with z | z
    ·exact nown c b hc z
    ·rw [hc] at z;cases z;exact hb rfl
end
structure Un (fs ex:List Addr) (H H':Hp) (h h':Heap):Prop where
 keep:∀ b o,h.get? b=some o→H b=none→b∉fs→b∉ex→h'.get? b=some o
 slot:∀ b o,h.get? b=some o→H b=none→b∈fs→b∉ex→∃ sl,h'.get? b=some { o with slots:=sl }
 free:∀ b o,h.get? b=some o→H b=none→b∉ex→H' b=none
 there:∀ b o,h.get? b=some o→b∉ex→∃ o',h'.get? b=some o'
 tups:∀ b xs,H b=some (.tup xs)→H' b=some (.tup xs)
 frzs:∀ b o u,H b=some (.frz o u)→H' b=some (.frz o u)
 tbls:∀ b ps,H b=some (.tbl ps)→∃ more,H' b=some (.tbl (ps++more))
section
variable {fs fs' ex ex':List Addr}{H H1 H2:Hp}{h h1 h2 h':Heap}{a x e:Addr}{o:HO}
theorem Un.any (u:Un fs ex H H1 h h1) {b:Addr}{ob:Obj} (q:h.get? b=some ob) (n:H b=none) (hx:b∉ex):∃ sl,h1.get? b=some { ob with slots:=sl }:=by
 by_cases hb:b∈fs
 ·exact u.slot b ob q n hb hx
 ·exact ⟨ob.slots,u.keep b ob q n hb hx⟩
theorem Un.kept (k:∀ b u,h.get? b=some u→h'.get? b=some u):Un fs ex H H h h':=
 ⟨fun b ob q _ _ _=>k b ob q,fun b ob q _ _ _=>⟨ob.slots,k b ob q⟩,fun _ _ _ n _=>n,fun b ob q _=>⟨ob,k b ob q⟩,fun _ _ q=>q,fun _ _ _ q=>q,fun _ ps q=>⟨#[],by rw [q];simp⟩⟩
theorem Un.refl:Un fs ex H H h h:=Un.kept fun _ _ q=>q
theorem Un.laid (k:∀ b u,h.get? b=some u→h'.get? b=some u) (hp:h.objs.size≤a) (hn:H a=none):Un fs ex H (upd H a o) h h' where
 keep:=fun b u q _ _ _=>k b u q
 slot:=fun b u q _ _ _=>⟨u.slots,k b u q⟩
 free:=fun b u q n _=>by rw [upd_ne (Nat.ne_of_lt (Nat.lt_of_lt_of_le (Heap.lt_size q) hp))];exact n
 there:=fun b u q _=>⟨u,k b u q⟩
 tups:=fun b xs q=>by rw [upd_ne (ne_of_none q hn)];exact q
 frzs:=fun b u xs q=>by rw [upd_ne (ne_of_none q hn)];exact q
 tbls:=fun b ps q=>⟨#[],by rw [upd_ne (ne_of_none q hn),q];simp⟩
theorem Un.write (mu:Mut (H x)) (he:e=x∨H e=some (.own x)) (k:∀ b u,b≠e→h.get? b=some u→h'.get? b=some u) (heo:∃ u,h'.get? e=some u):Un fs ex H (upd H x o) h h':=by
 have hx:∀ b,H b=none→b≠x:=fun b n z=>by subst z;rw [n] at mu;exact mu
 have hb:∀ b,H b=none→b≠e:=fun b n z=>by
  subst z
  rcases he with r | r
  ·exact hx b n r
  ·rw [n] at r;cases r
 have hm:∀ b u,H b=some u→¬ Mut (some u)→b≠x:=fun b u q nm z=>by subst z;rw [q] at mu;exact nm mu
 refine ⟨fun b u q n _ _=>k b u (hb b n) q,fun b u q n _ _=>⟨u.slots,k b u (hb b n) q⟩,fun b u q n _=>by rw [upd_ne (hx b n)];exact n,fun b u q _=>?_,
  fun b xs q=>by rw [upd_ne (hm b _ q fun z=>z)];exact q,fun b u xs q=>by rw [upd_ne (hm b _ q fun z=>z)];exact q,fun b ps q=>⟨#[],by rw [upd_ne (hm b _ q fun z=>z),q];simp⟩⟩
 by_cases hbe:b=e
 ·subst hbe;exact heo
 ·exact ⟨u,k b u hbe q⟩
end
def trk (h:Heap) (H:Hp):List Addr:=(List.range h.objs.size).filter fun a=>(H a).isSome
def hidT (h:Heap) (H:Hp):Heap:=PySem.W.hideAll h (trk h H)
theorem hidT_size (h:Heap) (H:Hp):(hidT h H).objs.size=h.objs.size:=PySem.W.hideAll_size _ _
theorem hidT_get {h:Heap}{H:Hp}{b:Addr}{o:Obj} (e:h.get? b=some o) (n:H b=none):(hidT h H).get? b=some o:=
 PySem.W.hideAll_get _ e fun hm=>by
  have q:(H b).isSome=true:=(List.mem_filter.mp hm).2
  rw [n] at q;simp at q
theorem of_hidT {h:Heap}{H:Hp}{b:Addr}{o:Obj} (e:(hidT h H).get? b=some o):h.get? b=some o∧H b=none:=by
 have e':h.get? b=some o:=PySem.W.of_hideAll (trk h H) e
 refine ⟨e',?_⟩
 cases q:H b with
 | none=>rfl
 | some x=>
  have hm:b∈trk h H:=List.mem_filter.mpr ⟨List.mem_range.mpr (Heap.lt_size e'),by simp [q]⟩
  have z:(hidT h H).get? b=none:=PySem.W.hideAll_none (trk h H) hm
  rw [z] at e;cases e
def allNews (g h:Heap) (L:Addr):List (Addr×Obj):=(List.range h.objs.size).filterMap fun a=>if a=L∨(g.get? a).isSome=true then none else (h.get? a).map fun o=>(a,o)
def rest (g h:Heap) (L d:Addr):List (Addr×Obj):=(allNews g h L).filter fun p=>decide (p.1≠d)
open PySem PySem.Spec PyProof.Rows
structure Mod (K:PySem.W.Frag) (mg:Str→Option Value) (base:Heap):Prop where
 kin:K.In base
 glob:base.Ns mainGlobals mg
 blt:∃ mb,base.Ns builtinsNs mb∧∀ x:Str,x ≠ "__name__" → mb x=bootBuiltins x
 nolimit:base.NoLimit
structure Cx where
 prog:Program
 w:World
 K:PySem.W.Frag
 mg:Str→Option Value
 base:Heap
 A:Around
 N:List Str
 s₀:Shared
 H₀:Hp
 env:Env
 outer:List Env
 stack:List Env
 ex:List Addr
 fn:Str→Bool
 calm:Bool
 pn:List (Addr×Obj)
 xe:Value→Shared→Prop
def frs (l:List Env):List Addr:=l.filterMap (·.frame)
abbrev Cx.fs (X:Cx):List Addr:=frs X.outer
def Vis (sc:Scope) (x:Str):Prop:=sc.names.lookup x=some .local∨sc.names.lookup x=some .cell∨sc.names.lookup x=some .free
def Loc (sc:Scope) (x:Str):Prop:=sc.names.lookup x=some .local∨sc.names.lookup x=some .cell
def Look (env:Env) (h:Heap) (m:Str→Option Value) (x:Str) (u:Value):Prop:=
 (env.kindOf x=some .local∧m x=some u)∨((env.kindOf x=some .cell∨env.kindOf x=some .free)∧∃ c,env.cells.lookup x=some c∧h.IsCell c (some u))
structure Cx.Ok (X:Cx):Prop where
 mod:Mod X.K X.mg X.base
 kind:X.env.scope.kind=.function
 glob:X.env.globals=mainGlobals
 blt:X.env.builtins=builtinsNs
 above:X.s₀.heap.objs.size≤X.env.locals
 inj:∀ x y c,X.env.cells.lookup x=some c→X.env.cells.lookup y=some c→x=y
 has:∀ x,(X.env.kindOf x=some .cell∨X.env.kindOf x=some .free)→∃ c,X.env.cells.lookup x=some c
 cab:∀ x c,X.fn x=true→X.env.cells.lookup x=some c→X.s₀.heap.objs.size≤c
 hd:X.calm=true→X.A.handled=none
 frames:X.A.frames=some X.stack
 stk:X.stack=X.outer∨(X.stack=X.env::X.outer∧X.env.frame=some X.env.locals)
 exf:∀ b∈X.ex,b≠X.env.locals∧∀ x c,X.env.cells.lookup x=some c→c≠b
 bs:∀ b o,X.base.get? b=some o→X.s₀.heap.get? b=some o∧X.H₀ b=none
 bsz:X.base.objs.size≤X.s₀.heap.objs.size
 noex:∀ b o,X.base.get? b=some o→b∉X.ex
 exfs:∀ b∈X.ex,b∉X.fs
 funs:X.s₀.heap.FunFrames X.base X.outer
 frf:∀ b∈X.fs,X.H₀ b=none
structure Inv (X:Cx) (pins:List (Addr×Obj)) (σ:List (Option V)) (H:Hp) (s:Shared):Prop where
 ok:X.Ok
 os:s.os=X.s₀.os
 bare:AllBare s.gens
 base:Un X.fs X.ex X.H₀ H X.s₀.heap s.heap
 loc:∃ m,s.heap.Ns X.env.locals m∧∀ (i:Nat) (x:Str) (v:V),X.N[i]?=some x→σ[i]?=some (some v)→Vis X.env.scope x→∃ u,RelV v u∧Look X.env s.heap m x u
 cell:∀ x c,X.env.cells.lookup x=some c→∃ v,s.heap.IsCell c v
 free:H X.env.locals=none
 freeC:∀ x c,X.env.cells.lookup x=some c→H c=none
 pin:∀ p∈X.pn++pins,s.heap.get? p.1=some p.2∧H p.1=none∧p.1≠X.env.locals∧p.1∉X.fs∧∀ v,p.2.data≠.cell v
 hok:HOk X.prog X.w H s.heap
 len:σ.length=X.N.length
section
variable {X:Cx}{pins:List (Addr×Obj)}{σ:List (Option V)}{H H':Hp}{s:Shared}{h':Heap}
theorem Cx.Ok.nofr (ok:X.Ok) {b:Addr}{o:Obj} (e:X.base.get? b=some o):b∉X.fs:=fun hb=>by
 have:=(ok.funs.mem hb).1
 rw [e] at this;cases this
theorem Inv.bs (I:Inv X pins σ H s):∀ b o,X.base.get? b=some o→s.heap.get? b=some o∧H b=none:=fun b o e=>
 ⟨I.base.keep b o (I.ok.bs b o e).1 (I.ok.bs b o e).2 (I.ok.nofr e) (I.ok.noex b o e),I.base.free b o (I.ok.bs b o e).1 (I.ok.bs b o e).2 (I.ok.noex b o e)⟩
theorem Inv.bk (I:Inv X pins σ H s):∀ b o,X.base.get? b=some o→s.heap.get? b=some o:=fun b o e=>(I.bs b o e).1
theorem Inv.mod (I:Inv X pins σ H s):Mod X.K X.mg X.base:=I.ok.mod
theorem Inv.kIn (I:Inv X pins σ H s):X.K.In s.heap:=I.ok.mod.kin.keeps I.bk
theorem Inv.nolimit (I:Inv X pins σ H s):s.heap.NoLimit:=I.ok.mod.nolimit.keeps I.bk
theorem Inv.lt (I:Inv X pins σ H s):X.env.locals < s.heap.objs.size:=let ⟨_,hn,_⟩:=I.loc;hn.lt
theorem Inv.sz (I:Inv X pins σ H s):X.s₀.heap.objs.size≤s.heap.objs.size:=Nat.le_trans I.ok.above (Nat.le_of_lt I.lt)
theorem Inv.nofs (I:Inv X pins σ H s) {a:Addr} (h:s.heap.objs.size≤a):a∉X.fs:=fun hb=>by
 obtain ⟨_,o,ho,_⟩:=I.ok.funs.mem hb
 exact absurd (Nat.lt_of_lt_of_le (Heap.lt_size ho) (Nat.le_trans I.sz h)) (Nat.lt_irrefl _)
theorem Inv.cne (I:Inv X pins σ H s):∀ x c,X.env.cells.lookup x=some c→c≠X.env.locals:=fun x c e z=>by
 obtain ⟨v,o,ho,hd⟩:=I.cell x c e
 obtain ⟨m,⟨o',es,ep,ho',hd',_⟩,_⟩:=I.loc
 rw [z,ho'] at ho;cases ho;rw [hd'] at hd;cases hd
theorem Inv.funs (I:Inv X pins σ H s):s.heap.FunFrames X.base X.outer:=by
 have all:∀ (l:List Env),(∀ b∈frs l,b∈X.fs)→X.s₀.heap.FunFrames X.base l→s.heap.FunFrames X.base l:=by
  intro l
  induction l with
  | nil=>intro _ _;trivial
  | cons env r ih=>
   intro hs hl
   obtain ⟨hk,⟨L,o,hf,hn,ho,hd⟩,hr⟩:=hl
   have hL:L∈X.fs:=hs L (by unfold frs;rw [List.filterMap_cons,hf];exact List.mem_cons_self)
   obtain ⟨sl,e⟩:=I.base.slot L o ho (I.ok.frf L hL) hL fun z=>I.ok.exfs L z hL
   exact ⟨hk,⟨L,_,hf,hn,e,hd⟩,ih (fun b hb=>hs b (by unfold frs;rw [List.filterMap_cons,hf];exact List.mem_cons_of_mem _ hb)) hr⟩
 exact all X.outer (fun _ hb=>hb) I.ok.funs
theorem Inv.stack (I:Inv X pins σ H s):s.heap.FunFrames X.base X.stack:=by
 rcases I.ok.stk with e | ⟨e,hf⟩
 ·rw [e];exact I.funs
 ·rw [e]
  obtain ⟨m,hn,_⟩:=I.loc
  refine .cons (by rw [I.ok.kind];decide) hf hn ?_ I.funs
  exact Heap.get?_none_of_le (Nat.le_trans I.ok.bsz I.ok.above)
theorem Inv.stkSub (I:Inv X pins σ H s):∀ b∈frs X.stack,b∈X.env.locals::X.fs:=fun b hb=>by
 rcases I.ok.stk with e | ⟨e,hf⟩
 ·rw [e] at hb;exact List.mem_cons_of_mem _ hb
 ·rw [e] at hb
  unfold frs at hb
  rw [List.filterMap_cons,hf] at hb
  exact hb
theorem Inv.stkFree (I:Inv X pins σ H s):∀ b∈frs X.stack,H b=none:=fun b hb=>by
 rcases List.mem_cons.mp (I.stkSub b hb) with e | hb
 ·rw [e];exact I.free
 ·obtain ⟨_,o,ho,_⟩:=I.ok.funs.mem hb
  exact I.base.free b o ho (I.ok.frf b hb) fun z=>I.ok.exfs b z hb
theorem Inv.step {g':Array GenState}{t':Nat}{d':Drawn}{ch:List Addr} (I:Inv X pins σ H s)
  (hch:∀ b∈ch,(b∈X.ex∨X.s₀.heap.objs.size≤b)∧b≠X.env.locals∧(∀ x c,X.env.cells.lookup x=some c→c≠b)∧∀ p∈X.pn++pins,p.1≠b)
  (keep:∀ b o,b≠X.env.locals→b∉X.fs→b∉ch→s.heap.get? b=some o→H b=none→h'.get? b=some o)
  (slot:∀ b o,b≠X.env.locals→b∈X.fs→b∉ch→s.heap.get? b=some o→H b=none→∃ sl,h'.get? b=some { o with slots:=sl }) (free:∀ b o,b∉ch→s.heap.get? b=some o→H b=none→H' b=none)
  (there:∀ b o,b∉ch→s.heap.get? b=some o→∃ o',h'.get? b=some o')
  (tups:∀ b xs,H b=some (.tup xs)→H' b=some (.tup xs)) (frzs:∀ b o u,H b=some (.frz o u)→H' b=some (.frz o u)) (tbls:∀ b ps,H b=some (.tbl ps)→∃ more,H' b=some (.tbl (ps++more)))
  (ns:∀ m,s.heap.Ns X.env.locals m→h'.Ns X.env.locals m) (hok:HOk X.prog X.w H' h') (hg:AllBare g'):
  Inv X pins σ H' { s with heap:=h',gens:=g',drawn:=d',toks:=t' }:=by
 have neL:∀ b o,X.s₀.heap.get? b=some o→b≠X.env.locals:=fun b o e=>Nat.ne_of_lt (Nat.lt_of_lt_of_le (Heap.lt_size e) I.ok.above)
 have neC:∀ b o,X.s₀.heap.get? b=some o→b∉X.ex→b∉ch:=fun b o e hx hb=>by
  rcases (hch b hb).1 with z | z
  ·exact hx z
  ·exact absurd (Nat.lt_of_lt_of_le (Heap.lt_size e) z) (Nat.lt_irrefl _)
 have cellK:∀ x c,X.env.cells.lookup x=some c→∀ v,s.heap.IsCell c v→h'.IsCell c v:=fun x c e v ⟨o,ho,hd⟩=>by
  have nch:c∉ch:=fun z=>(hch c z).2.2.1 x c e rfl
  by_cases hc:c∈X.fs
  ·obtain ⟨sl,q⟩:=slot c o (I.cne x c e) hc nch ho (I.freeC x c e)
   exact ⟨_,q,hd⟩
  ·exact ⟨o,keep c o (I.cne x c e) hc nch ho (I.freeC x c e),hd⟩
 refine ⟨I.ok,I.os,hg,⟨fun b o e n hb hx=>?_,fun b o e n hb hx=>?_,fun b o e n hx=>?_,fun b o e hx=>?_,fun b xs e=>tups b xs (I.base.tups b xs e),fun b o xs e=>frzs b o xs (I.base.frzs b o xs e),fun b ps e=>?_⟩,?_,fun x c e=>?_,?_,fun x c e=>?_,fun p hp=>?_,hok,I.len⟩
 ·exact keep b o (neL b o e) hb (neC b o e hx) (I.base.keep b o e n hb hx) (I.base.free b o e n hx)
 ·obtain ⟨sl,e1⟩:=I.base.slot b o e n hb hx
  obtain ⟨sl',e2⟩:=slot b _ (neL b o e) hb (neC b o e hx) e1 (I.base.free b o e n hx)
  exact ⟨sl',e2⟩
 ·obtain ⟨o',e1⟩:=I.base.there b o e hx
  exact free b o' (neC b o e hx) e1 (I.base.free b o e n hx)
 ·obtain ⟨o',e1⟩:=I.base.there b o e hx
  exact there b o' (neC b o e hx) e1
 ·obtain ⟨m1,e1⟩:=I.base.tbls b ps e
  obtain ⟨m2,e2⟩:=tbls b _ e1
  exact ⟨m1++m2,by rw [e2,Array.append_assoc]⟩
 ·obtain ⟨m,hn,hl⟩:=I.loc
  refine ⟨m,ns m hn,fun i x v e1 e2 e3=>?_⟩
  obtain ⟨u,r,l⟩:=hl i x v e1 e2 e3
  refine ⟨u,r,?_⟩
  rcases l with l | ⟨k,c,e,z⟩
  ·exact .inl l
  ·exact .inr ⟨k,c,e,cellK x c e _ z⟩
 ·obtain ⟨v,z⟩:=I.cell x c e
  exact ⟨v,cellK x c e v z⟩
 ·obtain ⟨m,⟨o,_,_,ho,_⟩,_⟩:=I.loc
  exact free _ o (fun z=>(hch _ z).2.1 rfl) ho I.free
 ·obtain ⟨v,o,ho,hd⟩:=I.cell x c e
  exact free c o (fun z=>(hch c z).2.2.1 x c e rfl) ho (I.freeC x c e)
 ·obtain ⟨e,n,ne,nf,d⟩:=I.pin p hp
  have nch:p.1∉ch:=fun z=>(hch p.1 z).2.2.2 p hp rfl
  exact ⟨keep p.1 p.2 ne nf nch e n,free p.1 p.2 nch e n,ne,nf,d⟩
theorem Inv.un {t':Nat} (I:Inv X pins σ H s) (u:Un X.fs [] H H' s.heap h') (hok:HOk X.prog X.w H' h'):Inv X pins σ H' { s with heap:=h',toks:=t' }:=by
 obtain ⟨m,⟨o,es,ep,ho,r⟩,_⟩:=id I.loc
 obtain ⟨sl,hL⟩:=u.any ho I.free (by simp)
 exact I.step (g':=s.gens) (d':=s.drawn) (ch:=[]) (fun _ z=>nomatch z) (fun b o _ hb _ e n=>u.keep b o e n hb (by simp)) (fun b o _ hb _ e n=>u.slot b o e n hb (by simp)) (fun b o _ e n=>u.free b o e n (by simp)) (fun b o _ e=>u.there b o e (by simp)) u.tups u.frzs u.tbls (fun m' hm=>by
  obtain ⟨o',es',ep',ho',r'⟩:=hm
  rw [ho] at ho';cases ho'
  exact ⟨_,es',ep',hL,r'⟩) hok I.bare
theorem Inv.call {g':Array GenState}{t':Nat}{d':Drawn}{ch:List Addr} (I:Inv X pins σ H s) (u:Un (frs X.stack) ch H H' s.heap h') (hok:HOk X.prog X.w H' h') (hg:AllBare g')
  (hch:∀ b∈ch,(b∈X.ex∨X.s₀.heap.objs.size≤b)∧b≠X.env.locals∧(∀ x c,X.env.cells.lookup x=some c→c≠b)∧∀ p∈X.pn++pins,p.1≠b):
  Inv X pins σ H' { s with heap:=h',gens:=g',drawn:=d',toks:=t' }:=by
 obtain ⟨m,⟨o,es,ep,ho,r⟩,_⟩:=id I.loc
 obtain ⟨sl,hL⟩:=u.any ho I.free fun z=>(hch _ z).2.1 rfl
 exact I.step (ch:=ch) hch (fun b o hL hb hc e n=>u.keep b o e n (fun z=>(List.mem_cons.mp (I.stkSub b z)).elim hL hb) hc) (fun b o _ _ hc e n=>u.any e n hc) (fun b o hc e n=>u.free b o e n hc) (fun b o hc e=>u.there b o e hc) u.tups u.frzs u.tbls (fun m' hm=>by
  obtain ⟨o',es',ep',ho',r'⟩:=hm
  rw [ho] at ho';cases ho'
  exact ⟨_,es',ep',hL,r'⟩) hok hg
theorem Inv.turned {t':Nat}{it:Addr} (I:Inv X pins σ H s) (k:∀ b o,b≠it→s.heap.get? b=some o→h'.get? b=some o) (hn:H it=none) (hL:it≠X.env.locals)
  (h1:it∈X.ex∨X.s₀.heap.objs.size≤it) (h2:∀ x c,X.env.cells.lookup x=some c→c≠it) (h3:∀ p∈X.pn++pins,p.1≠it):Inv X pins σ H { s with heap:=h',toks:=t' }:=by
 have nit:∀ b u,H b=some u→b≠it:=fun b u e z=>by rw [z,hn] at e;cases e
 refine I.step (g':=s.gens) (d':=s.drawn) (ch:=[it]) (fun b hb=>?_) (fun b o _ _ hc e _=>k b o (fun z=>hc (by simp [z])) e) (fun b o _ _ hc e _=>⟨o.slots,k b o (fun z=>hc (by simp [z])) e⟩) (fun _ _ _ _ n=>n)
  (fun b o hc e=>⟨o,k b o (fun z=>hc (by simp [z])) e⟩) (fun _ _ e=>e) (fun _ _ _ e=>e) (fun b ps e=>⟨#[],by rw [e];simp⟩) (fun m hm=>?_) (fun b u e=>?_) I.bare
 ·have e:b=it:=by simpa using hb
  subst e
  exact ⟨h1,hL,h2,h3⟩
 ·obtain ⟨o,es,ep,ho,r⟩:=hm
  exact ⟨o,es,ep,k _ o (Ne.symm hL) ho,r⟩
 ·refine (I.hok b u e).stay (fun c v hc q=>k c v ?_ q) (fun _ q=>q) fun _ _ q=>q
  rcases hc with z | z
  ·rw [z];exact nit b u e
  ·exact nit c _ z
theorem Inv.tok (I:Inv X pins σ H s) (t:Nat):Inv X pins σ H { s with toks:=t }:=I.un (h':=s.heap) (t':=t) Un.refl I.hok
theorem Inv.kept {t':Nat} (I:Inv X pins σ H s) (k:∀ b u,s.heap.get? b=some u→h'.get? b=some u):Inv X pins σ H { s with heap:=h',toks:=t' }:=I.un (Un.kept k) (I.hok.kept k)
theorem Inv.laid {a:Addr}{o:HO}{t':Nat} (I:Inv X pins σ H s) (k:∀ b u,s.heap.get? b=some u→h'.get? b=some u) (hp:s.heap.objs.size≤a) (new:ObjOk X.prog X.w (upd H a o) h' a o):
  Inv X pins σ (upd H a o) { s with heap:=h',toks:=t' }:=I.un (Un.laid k hp (I.hok.fresh hp)) (I.hok.laid k hp new)
theorem Inv.write {x e:Addr}{o:HO}{t':Nat} (I:Inv X pins σ H s) (mu:Mut (H x)) (he:e=x∨H e=some (.own x)) (k:∀ b u,b≠e→s.heap.get? b=some u→h'.get? b=some u) (heo:∃ u,h'.get? e=some u)
  (new:ObjOk X.prog X.w (upd H x o) h' x o):Inv X pins σ (upd H x o) { s with heap:=h',toks:=t' }:=I.un (Un.write mu he k heo) (I.hok.write mu he k heo new)
theorem Inv.pins_of {pins':List (Addr×Obj)} (I:Inv X pins σ H s) (h:∀ p∈pins',s.heap.get? p.1=some p.2∧H p.1=none∧p.1≠X.env.locals∧p.1∉X.fs∧∀ v,p.2.data≠.cell v):Inv X pins' σ H s:=
 ⟨I.ok,I.os,I.bare,I.base,I.loc,I.cell,I.free,I.freeC,fun p hp=>(List.mem_append.mp hp).elim (fun z=>I.pin p (List.mem_append_left _ z)) (h p),I.hok,I.len⟩
theorem nodup_ix {N:List Str} (hN:N.Nodup) {i j:Nat}{x:Str} (a:N[i]?=some x) (b:N[j]?=some x):i=j:=by
 obtain ⟨h1,e1⟩:=List.getElem?_eq_some_iff.mp a
 obtain ⟨h2,e2⟩:=List.getElem?_eq_some_iff.mp b
 exact (List.getElem_inj hN).mp (e1.trans e2.symm)
theorem store_ok2 {M:Model}{A:Around}{E:Value→Shared→Prop}{i:Nat}{x:Str}{v:V}{u:Value}{Q:Unit→Shared→Prop} (I:Inv X pins σ H s) (hN:X.N.Nodup) (hi:X.N[i]?=some x) (hx:Loc X.env.scope x) (r:RelV v u)
  (h:∀ s',Inv X pins (σ.set i (some v)) H s'→(∃ a,Heap.SameBut a s.heap s'.heap∧(a=X.env.locals∨X.env.cells.lookup x=some a))→Q () s') (hf:X.fn x=true∨X.env.scope.names.lookup x=some .local:=by first | exact .inl rfl | exact .inr rfl | assumption):wpAny M A (storeName X.env x u) Q E s:=by
 obtain ⟨m,hn,hl⟩:=id I.loc
 have hcls:(X.env.scope.kind == .class || (X.env.scope.kind == .module && X.env.locals != X.env.globals))=false:=by rw [I.ok.kind];rfl
 have hiσ:i < σ.length:=by rw [I.len];exact (List.getElem?_eq_some_iff.mp hi).1
 have cne:=I.cne
 have tracked:∀ {a:Addr}{h':Heap},(∃ o,s.heap.get? a=some o∧H a=none)→Heap.SameBut a s.heap h'→HOk X.prog X.w H h':=fun {a h'} ha hs b ob e=>by
  obtain ⟨_,_,hfree⟩:=ha
  refine (I.hok b ob e).stay (fun c w' hc q=>(hs.2 c ?_).trans q) (fun _ q=>q) fun _ _ q=>q
  rintro rfl
  rcases hc with rfl | hc
  ·rw [hfree] at e;cases e
  ·rw [hfree] at hc;cases hc
 rcases hx with hk | hk
 ·refine wpAny_storeName_local hk hn (fun h' hn' hs=>?_) hcls
  obtain ⟨oL,_,_,hoL,_⟩:=id hn
  refine h _ ⟨I.ok,I.os,I.bare,⟨fun b o e n hb hx=>?_,fun b o e n hb hx=>?_,I.base.free,fun b o e hx=>?_,I.base.tups,I.base.frzs,I.base.tbls⟩,⟨_,hn',fun j y v' e1 e2 e3=>?_⟩,fun y c e=>?_,I.free,I.freeC,fun p hp=>?_,tracked ⟨oL,hoL,I.free⟩ hs,by simpa using I.len⟩ ⟨_,hs,.inl rfl⟩
  ·exact (hs.2 b (Nat.ne_of_lt (Nat.lt_of_lt_of_le (Heap.lt_size e) I.ok.above))).trans (I.base.keep b o e n hb hx)
  ·obtain ⟨sl,e1⟩:=I.base.slot b o e n hb hx
   exact ⟨sl,(hs.2 b (Nat.ne_of_lt (Nat.lt_of_lt_of_le (Heap.lt_size e) I.ok.above))).trans e1⟩
  ·obtain ⟨o',e1⟩:=I.base.there b o e hx
   exact ⟨o',(hs.2 b (Nat.ne_of_lt (Nat.lt_of_lt_of_le (Heap.lt_size e) I.ok.above))).trans e1⟩
  ·by_cases hj:j=i
   ·subst hj
    rw [hi] at e1;cases e1
    rw [List.getElem?_set_self hiσ] at e2
    cases e2
    exact ⟨u,r,.inl ⟨hk,by simp⟩⟩
   ·rw [List.getElem?_set_ne (Ne.symm hj)] at e2
    obtain ⟨u',r',q⟩:=hl j y v' e1 e2 e3
    refine ⟨u',r',?_⟩
    rcases q with ⟨k,e⟩ | ⟨k,c,e,z⟩
    ·refine .inl ⟨k,?_⟩
     have:y≠x:=fun e=>hj (nodup_ix hN e1 (e ▸ hi))
     simp [this,e]
    ·exact .inr ⟨k,c,e,z.sameBut hs (cne y c e)⟩
  ·obtain ⟨w',z⟩:=I.cell y c e
   exact ⟨w',z.sameBut hs (cne y c e)⟩
  ·obtain ⟨e,n,ne,nf,d⟩:=I.pin p hp
   exact ⟨(hs.2 p.1 ne).trans e,n,ne,nf,d⟩
 ·have hfn:X.fn x=true:=by
   rcases hf with z | z
   ·exact z
   ·rw [z] at hk;cases hk
  obtain ⟨c,hc⟩:=I.ok.has x (.inl hk)
  obtain ⟨w',z⟩:=I.cell x c hc
  refine wpAny_storeName_cell I.ok.kind hk hc z (fun h' hc' hs=>?_)
  obtain ⟨oc,hoc,hocd⟩:=id z
  refine h { s with heap:=h' } ⟨I.ok,I.os,I.bare,⟨fun b o e n hb hx=>?_,fun b o e n hb hx=>?_,I.base.free,fun b o e hx=>?_,I.base.tups,I.base.frzs,I.base.tbls⟩,⟨m,hn.sameBut hs (Ne.symm (cne x c hc)),fun j y v' e1 e2 e3=>?_⟩,fun y c' e=>?_,I.free,I.freeC,fun p hp=>?_,tracked ⟨oc,hoc,I.freeC x c hc⟩ hs,by simpa using I.len⟩ ⟨c,hs,.inr hc⟩
  ·exact (hs.2 b (Nat.ne_of_lt (Nat.lt_of_lt_of_le (Heap.lt_size e) (I.ok.cab x c hfn hc)))).trans (I.base.keep b o e n hb hx)
  ·obtain ⟨sl,e1⟩:=I.base.slot b o e n hb hx
   exact ⟨sl,(hs.2 b (Nat.ne_of_lt (Nat.lt_of_lt_of_le (Heap.lt_size e) (I.ok.cab x c hfn hc)))).trans e1⟩
  ·obtain ⟨o',e1⟩:=I.base.there b o e hx
   exact ⟨o',(hs.2 b (Nat.ne_of_lt (Nat.lt_of_lt_of_le (Heap.lt_size e) (I.ok.cab x c hfn hc)))).trans e1⟩
  ·by_cases hj:j=i
   ·subst hj
    rw [hi] at e1;cases e1
    rw [List.getElem?_set_self hiσ] at e2
    cases e2
    exact ⟨u,r,.inr ⟨.inl hk,c,hc,hc'⟩⟩
   ·rw [List.getElem?_set_ne (Ne.symm hj)] at e2
    obtain ⟨u',r',q⟩:=hl j y v' e1 e2 e3
    refine ⟨u',r',?_⟩
    rcases q with q | ⟨k,c',e,z'⟩
    ·exact .inl q
    ·refine .inr ⟨k,c',e,z'.sameBut hs ?_⟩
     rintro rfl
     exact hj (nodup_ix hN e1 (I.ok.inj _ _ _ e hc ▸ hi))
  ·by_cases hcc:c'=c
   ·subst hcc;exact ⟨_,hc'⟩
   ·obtain ⟨w2,z2⟩:=I.cell y c' e
    exact ⟨w2,z2.sameBut hs hcc⟩
  ·obtain ⟨e,n,ne,nf,d⟩:=I.pin p hp
   refine ⟨(hs.2 p.1 ?_).trans e,n,ne,nf,d⟩
   intro q
   rw [q,hoc] at e
   have q':oc=p.2:=Option.some.inj e
   exact d w' (by rw [← q'];exact hocd)
theorem store_ok {M:Model}{A:Around}{E:Value→Shared→Prop}{i:Nat}{x:Str}{v:V}{u:Value}{Q:Unit→Shared→Prop} (I:Inv X pins σ H s) (hN:X.N.Nodup) (hi:X.N[i]?=some x) (hx:Loc X.env.scope x) (r:RelV v u)
  (h:∀ s',Inv X pins (σ.set i (some v)) H s'→Q () s') (hf:X.fn x=true∨X.env.scope.names.lookup x=some .local:=by first | exact .inl rfl | exact .inr rfl | assumption):wpAny M A (storeName X.env x u) Q E s:=
 store_ok2 I hN hi hx r (fun s' I' _=>h s' I') hf
theorem Inv.call' {s':Shared}{ch:List Addr} (I:Inv X pins σ H s) (ho:s'.os=s.os) (u:Un (frs X.stack) ch H H' s.heap s'.heap) (hok:HOk X.prog X.w H' s'.heap) (hg:AllBare s'.gens)
  (hch:∀ b∈ch,(b∈X.ex∨X.s₀.heap.objs.size≤b)∧b≠X.env.locals∧(∀ x c,X.env.cells.lookup x=some c→c≠b)∧∀ p∈X.pn++pins,p.1≠b):Inv X pins σ H' s':=by
 obtain ⟨h',g',d',t',o'⟩:=s'
 have e:o'=s.os:=ho
 subst e
 exact I.call (g':=g') (t':=t') (d':=d') u hok hg hch
end
abbrev XK:=Value→Option Addr→Hp→Prop
abbrev St:=List (Option V)
abbrev VK:=V→Hp→Prop
abbrev TE:=St→Hp→VK→Prop
abbrev TT:=St→Hp→(Bool→Hp→Prop)→Prop
abbrev TA:=St→Hp→(List V→Hp→Prop)→Prop
structure Ends where
 nx:St→Hp→Prop
 rt:VK
 bk:St→Hp→Prop:=fun _ _=>False
 ct:St→Hp→Prop:=fun _ _=>False
abbrev TS:=Ends→St→Hp→Prop
def EP (X:Cx) (pins:List (Addr×Obj)) (σ:St) (Q:VK) (u:Value) (s':Shared):Prop:=∃ v H',Inv X pins σ H' s'∧RelV v u∧Q v H'
def TP (X:Cx) (pins:List (Addr×Obj)) (σ:St) (Q:Bool→Hp→Prop) (b:Bool) (s':Shared):Prop:=∃ H',Inv X pins σ H' s'∧Q b H'
def AP (X:Cx) (pins:List (Addr×Obj)) (σ:St) (Q:List V→Hp→Prop) (us:List Value) (s':Shared):Prop:=∃ vs H',Inv X pins σ H' s'∧Vals vs us∧Q vs H'
def SP (X:Cx) (pins:List (Addr×Obj)) (D:Ends) (f:Flow) (s':Shared):Prop:=
 match f with
 | .next=>∃ σ' H',Inv X pins σ' H' s'∧D.nx σ' H'
 | .brk=>∃ σ' H',Inv X pins σ' H' s'∧D.bk σ' H'
 | .cont=>∃ σ' H',Inv X pins σ' H' s'∧D.ct σ' H'
 | .ret u=>∃ v σ' H',Inv X pins σ' H' s'∧RelV v u∧D.rt v H'
def PE (X:Cx) (e:Expr) (t:TE):Prop:=
 ∀ (pins:List (Addr×Obj)) (s:Shared) (σ:St) (H:Hp) (Q:VK),Inv X pins σ H s→t σ H Q→wpAny (model X.prog X.w) X.A (eval e X.env) (EP X pins σ Q) X.xe s
def PT (X:Cx) (e:Expr) (t:TT):Prop:=
 ∀ (pins:List (Addr×Obj)) (s:Shared) (σ:St) (H:Hp) (Q:Bool→Hp→Prop),Inv X pins σ H s→t σ H Q→wpAny (model X.prog X.w) X.A (isTrue e X.env (eval e X.env)) (TP X pins σ Q) X.xe s
def PW (X:Cx) (e:Expr) (t:TT):Prop:=
 ∀ (whole:Sem Value) (pins:List (Addr×Obj)) (s:Shared) (σ:St) (H:Hp) (Q:Bool→Hp→Prop),Inv X pins σ H s→t σ H Q→wpAny (model X.prog X.w) X.A (isTrue e X.env whole) (TP X pins σ Q) X.xe s
theorem PW.pt {X:Cx}{e:Expr}{t:TT} (h:PW X e t):PT X e t:=h _
def PA (X:Cx) (es:List Expr) (t:TA):Prop:=
 ∀ (pos:Pos) (pins:List (Addr×Obj)) (s:Shared) (σ:St) (H:Hp) (Q:List V→Hp→Prop),Inv X pins σ H s→t σ H Q→wpAny (model X.prog X.w) X.A (spliced (backTo pos (starEach es X.env))) (AP X pins σ Q) X.xe s
def PS (X:Cx) (st:Stmt) (t:TS):Prop:=
 ∀ (pins:List (Addr×Obj)) (s:Shared) (σ:St) (H:Hp) (D:Ends),Inv X pins σ H s→t D σ H→wpAny (model X.prog X.w) X.A (exec st X.env) (SP X pins D) X.xe s
def PSs (X:Cx) (st:List Stmt) (t:TS):Prop:=
 ∀ (pins:List (Addr×Obj)) (s:Shared) (σ:St) (H:Hp) (D:Ends),Inv X pins σ H s→t D σ H→wpAny (model X.prog X.w) X.A (execs st X.env) (SP X pins D) X.xe s
theorem thn {α:Type}{t:Sem α}{Q Q':α→Shared→Prop}{M:Model}{A:Around}{E:Value→Shared→Prop}{s:Shared} (h:wpAny M A t Q E s) (hQ:∀ a s,Q a s→Q' a s):wpAny M A t Q' E s:=wpAny_mono h hQ fun _ _ x=>x
open PySem PySem.Spec PyProof.Rows
section
variable {X:Cx}
theorem bin {a b:Expr}{ta tb:TE} (ha:PE X a ta) (hb:PE X b tb) {pins:List (Addr×Obj)}{s:Shared}{σ:St}{H:Hp}{R:V→V→Hp→Prop} (I:Inv X pins σ H s) (h:ta σ H fun x H1=>tb σ H1 fun y H2=>R x y H2)
  {α:Type}{Q:α→Shared→Prop}{f:Value→Value→Sem α}
  (hf:∀ v u s2 x y H2,Inv X pins σ H2 s2→RelV x v→RelV y u→R x y H2→wpAny (model X.prog X.w) X.A (f v u) Q X.xe s2):
  wpAny (model X.prog X.w) X.A (eval a X.env) (fun v s₁=>wpAny (model X.prog X.w) X.A (eval b X.env) (fun u s₂=>wpAny (model X.prog X.w) X.A (f v u) Q X.xe s₂) X.xe s₁) X.xe s:=by
 refine thn (ha pins s σ H _ I h) fun v s1 ⟨x,H1,I1,r1,q1⟩=>?_
 refine thn (hb pins s1 σ H1 _ I1 q1) fun u s2 ⟨y,H2,I2,r2,q2⟩=>?_
 exact hf v u s2 x y H2 I2 r1 r2 q2
def tVar (i:Nat):TE:=fun σ H Q=>∃ v,σ[i]?=some (some v)∧Q v H
def tC (v:V):TE:=fun _ H Q=>Q v H
theorem pe_var {i:Nat}{x:Str}{pos:Pos} (hN:X.N[i]?=some x) (hv:Vis X.env.scope x) (hd:(x == ("__debug__" : Str))=false:=by decide) (hcd:(x == ("__classdict__" : Str))=false:=by decide):PE X (.Name x pos) (tVar i):=by
 intro pins s σ H Q I h
 obtain ⟨v,e,h⟩:=h
 obtain ⟨m,hn,hl⟩:=I.loc
 obtain ⟨u,r,l⟩:=hl i x v hN e hv
 have fin:EP X pins σ Q u s:=⟨v,H,I,r,h⟩
 rcases l with ⟨hk,hm⟩ | ⟨hk,c,hc,hcell⟩
 ·exact wpAny_Name (wpAny_loadName_local I.ok.kind hk hn hm fin) hd
 ·rcases hk with hk | hk
  ·exact wpAny_Name (wpAny_loadName_cell I.ok.kind hk hc hcell fin) hd
  ·exact wpAny_Name (wpAny_loadName_free I.ok.kind hk hc hcell fin hcd) hd
theorem pe_int {i j pos}:PE X (.Constant (.int i) j pos) (tC (.int i)):=fun _ _ _ H _ I h=>wpAny_Constant_int ⟨.int i,H,I.tok _,⟨_,rfl⟩,h⟩
theorem pe_bl {b j pos}:PE X (.Constant (.bool b) j pos) (tC (.bl b)):=fun _ _ _ H _ I h=>Constant_bool ⟨.bl b,H,I,rfl,h⟩
theorem pe_non {j pos}:PE X (.Constant .none j pos) (tC .non):=fun _ _ _ H _ I h=>Constant_none ⟨.non,H,I,rfl,h⟩
theorem pe_str {x j pos}:PE X (.Constant (.str x) j pos) (tC (.str x)):=fun _ _ _ H _ I h=>Calls.Constant_str ⟨.str x,H,I.tok _,⟨_,rfl⟩,h⟩
def Gl (X:Cx) (x:Str):Prop:=X.env.kindOf x=some .globalImplicit
theorem ld_glob {E:Value→Shared→Prop}{pins:List (Addr×Obj)}{s:Shared}{σ:St}{H:Hp}{x:Str}{u:Value}{pos:Pos}{Q:Value→Shared→Prop} (I:Inv X pins σ H s) (hg:Gl X x) (hm:X.mg x=some u) (h:Q u s)
  (hd:(x == ("__debug__" : Str))=false:=by decide):wpAny (model X.prog X.w) X.A (eval (.Name x pos) X.env) Q E s:=
 Calls.Name_function_global I.ok.kind hg (Calls.loadGlobal_global (by rw [I.ok.glob];exact I.mod.glob.keeps I.bk) hm h) hd
theorem ld_blt {E:Value→Shared→Prop}{pins:List (Addr×Obj)}{s:Shared}{σ:St}{H:Hp}{x:Str}{u:Value}{pos:Pos}{Q:Value→Shared→Prop} (I:Inv X pins σ H s) (hg:Gl X x) (hm:X.mg x=none) (hv:bootBuiltins x=some u) (h:Q u s)
  (hn:x ≠ "__name__" := by decide) (hd:(x == ("__debug__" : Str))=false:=by decide):wpAny (model X.prog X.w) X.A (eval (.Name x pos) X.env) Q E s:=by
 obtain ⟨mb,h1,h2⟩:=I.mod.blt
 exact Calls.Name_function_global I.ok.kind hg (Calls.loadGlobal_builtin (by rw [I.ok.glob];exact I.mod.glob.keeps I.bk) hm (by rw [I.ok.blt];exact h1.keeps I.bk) ((h2 x hn).trans hv) h) hd
theorem pe_glob {x:Str}{v:V}{u:Value}{pos:Pos} (hg:Gl X x) (hm:X.mg x=some u) (r:RelV v u) (hd:(x == ("__debug__" : Str))=false:=by decide):PE X (.Name x pos) (tC v):=
 fun _ _ _ H _ I h=>ld_glob I hg hm ⟨v,H,I,r,h⟩ hd
theorem pe_bltn {x:Str}{v:V}{u:Value}{pos:Pos} (hg:Gl X x) (hm:X.mg x=none) (hv:bootBuiltins x=some u) (r:RelV v u) (hn:x ≠ "__name__" := by decide) (hd:(x == ("__debug__" : Str))=false:=by decide):PE X (.Name x pos) (tC v):=
 fun _ _ _ H _ I h=>ld_blt I hg hm hv ⟨v,H,I,r,h⟩ hn hd
variable {a b:Expr}{ta tb:TE}{pos:Pos}
def PC (X:Cx) (op:CmpOp) (a b:Expr) (t:TE):Prop:=
 ∀ (pins:List (Addr×Obj)) (s:Shared) (σ:St) (H:Hp) (Q:VK),Inv X pins σ H s→t σ H Q →
  wpAny (model X.prog X.w) X.A (eval a X.env) (fun v s₁=>wpAny (model X.prog X.w) X.A (eval b X.env) (fun u s₂=>wpAny (model X.prog X.w) X.A (compareOp op v u) (EP X pins σ Q) X.xe s₂) X.xe s₁) X.xe s
theorem nobehind (b:Expr) {op:CmpOp} (h:op≠.In) (h2:op≠.NotIn):behindInMarks op b=false:=by
 have e1:(op == CmpOp.In)=false:=by cases op <;> first | rfl | exact absurd rfl h
 have e2:(op == CmpOp.NotIn)=false:=by cases op <;> first | rfl | exact absurd rfl h2
 cases b <;> simp [behindInMarks,e1,e2]
def tB (t:TE):TT:=fun σ H Q=>t σ H fun x H1=>∃ c,x=.bl c∧Q c H1
theorem pt_cmp {op:CmpOp}{t:TE} (h:PC X op a b t) (h1:behindInMarks op b=false:=by first | exact nobehind _ (by decide) (by decide) | rfl):PT X (.Compare a [op] [b] pos) (tB t):=by
 intro pins s σ H Q I hw
 refine wpAny_isTrue_Compare1 (thn (h pins s σ H _ I hw) fun v s1 h1=>thn h1 fun u s2 h2=>thn h2 fun c s3 ⟨x,H1,I1,r1,q1⟩=>?_) h1
 obtain ⟨d,rfl,q⟩:=q1
 cases r1
 exact wpAny_truthy_bool ⟨H1,I1,q⟩
theorem pt_val {e:Expr}{t:TE} (h:PE X e t) (he:∀ whole,isTrue e X.env whole=(do let v←whole;standAt e.pos;holding [v] (truthy v)):=by intro _;rfl):PT X e (tB t):=by
 intro pins s σ H Q I hw
 refine isTrue_plain (thn (h pins s σ H _ I hw) fun v s1 ⟨x,H1,I1,r1,q1⟩=>?_) (he _)
 obtain ⟨d,rfl,q⟩:=q1
 cases r1
 exact wpAny_truthy_bool ⟨H1,I1,q⟩
variable {tA tB':TT}{rest:List Expr}
def tAnd (t u:TT):TT:=fun σ H Q=>t σ H fun c H1=>if c=true then u σ H1 Q else Q false H1
def tOr (t u:TT):TT:=fun σ H Q=>t σ H fun c H1=>if c=true then Q true H1 else u σ H1 Q
def tNot (t:TT):TT:=fun σ H Q=>t σ H fun c H1=>Q (!c) H1
theorem pw_and1 (ha:PT X a tA):PW X (.BoolOp .And [a] pos) tA:=by
 intro wh pins s σ H Q I h
 refine isTrue_and (thn (ha pins s σ H Q I h) fun c s1 e=>?_)
 cases c with
 | true=>exact isTrue_and_nil e
 | false=>exact e
theorem pw_or1 (ha:PT X a tA):PW X (.BoolOp .Or [a] pos) tA:=by
 intro wh pins s σ H Q I h
 refine isTrue_or (thn (ha pins s σ H Q I h) fun c s1 e=>?_)
 cases c with
 | false=>exact isTrue_or_nil e
 | true=>exact e
theorem pw_and (ha:PT X a tA) (hb:PW X (.BoolOp .And (b::rest) pos) tB'):PW X (.BoolOp .And (a::b::rest) pos) (tAnd tA tB'):=by
 intro wh pins s σ H Q I h
 refine isTrue_and (thn (ha pins s σ H _ I h) fun c s1 ⟨H1,I1,q1⟩=>?_)
 cases c with
 | true=>exact hb wh pins s1 σ H1 Q I1 q1
 | false=>exact ⟨H1,I1,q1⟩
theorem pw_or (ha:PT X a tA) (hb:PW X (.BoolOp .Or (b::rest) pos) tB'):PW X (.BoolOp .Or (a::b::rest) pos) (tOr tA tB'):=by
 intro wh pins s σ H Q I h
 refine isTrue_or (thn (ha pins s σ H _ I h) fun c s1 ⟨H1,I1,q1⟩=>?_)
 cases c with
 | true=>exact ⟨H1,I1,q1⟩
 | false=>exact hb wh pins s1 σ H1 Q I1 q1
theorem pt_not (ha:PT X a tA):PT X (.UnaryOp .Not a pos) (tNot tA):=by
 intro pins s σ H Q I h
 exact isTrue_not (ha pins s σ H (fun c H1=>Q (!c) H1) I h)
def tAndV (ta tb:TE):TE:=fun σ H Q=>ta σ H fun x H1=>∃ c,x=.bl c∧if c=true then tb σ H1 Q else Q (.bl false) H1
def tOrV (ta tb:TE):TE:=fun σ H Q=>ta σ H fun x H1=>∃ c,x=.bl c∧if c=true then Q (.bl true) H1 else tb σ H1 Q
def tNotV (ta:TE):TE:=fun σ H Q=>ta σ H fun x H1=>∃ c,x=.bl c∧Q (.bl (!c)) H1
theorem pe_one {op}{t:TE} (h:PE X a t):PE X (.BoolOp op [a] pos) t:=fun pins s σ H Q I hw=>BoolOp_one (h pins s σ H Q I hw)
theorem pe_and (ha:PE X a ta) (hb:PE X (.BoolOp .And (b::rest) pos) tb):PE X (.BoolOp .And (a::b::rest) pos) (tAndV ta tb):=by
 intro pins s σ H Q I h
 refine BoolOp_and (thn (ha pins s σ H _ I h) fun v s1 ⟨x,H1,I1,r1,q1⟩=>?_)
 obtain ⟨c,rfl,q1⟩:=q1
 cases r1
 refine wpAny_truthy_bool ?_
 cases c with
 | true=>exact hb pins s1 σ H1 Q I1 q1
 | false=>exact ⟨.bl false,H1,I1,rfl,q1⟩
theorem pe_or (ha:PE X a ta) (hb:PE X (.BoolOp .Or (b::rest) pos) tb):PE X (.BoolOp .Or (a::b::rest) pos) (tOrV ta tb):=by
 intro pins s σ H Q I h
 refine BoolOp_or (thn (ha pins s σ H _ I h) fun v s1 ⟨x,H1,I1,r1,q1⟩=>?_)
 obtain ⟨c,rfl,q1⟩:=q1
 cases r1
 refine wpAny_truthy_bool ?_
 cases c with
 | false=>exact hb pins s1 σ H1 Q I1 q1
 | true=>exact ⟨.bl true,H1,I1,rfl,q1⟩
theorem pe_not (ha:PE X a ta):PE X (.UnaryOp .Not a pos) (tNotV ta):=by
 intro pins s σ H Q I h
 refine UnaryOp_ (thn (ha pins s σ H _ I h) fun v s1 ⟨x,H1,I1,r1,q1⟩=>?_)
 obtain ⟨c,rfl,q1⟩:=q1
 cases r1
 exact not_of (wpAny_truthy_bool ⟨.bl (!c),H1,I1,rfl,q1⟩)
end
open PySem PySem.Spec PyProof.Rows
def SqL (K:PySem.W.Frag) (H:Hp) (a:Addr) (xs:List V):Prop:=
 Rd H a (.lst xs) ∨
  ∃ (o:Obj) (its:Array Value) (n:Nat),K.lookup a=some o∧o.cls=.type "list" ∧ o.dict=none∧o.data=.seq its n∧its.size≤sizeLine∧Vals xs its.toList
def SqT (K:PySem.W.Frag) (H:Hp) (a:Addr) (xs:List V):Prop:=
 Rd H a (.tup xs) ∨
  ∃ (o:Obj) (its:Array Value) (n:Nat),K.lookup a=some o∧o.cls=.type "tuple" ∧ o.data=.seq its n∧its.size≤sizeLine∧Vals xs its.toList
def absV:Value→Option V
 | .none=>some .non
 | .bool b=>some (.bl b)
 | .int i _=>some (.int i)
 | .str x _=>some (.str x)
 | .bytes b _=>some (.byt b)
 | .float b _=>some (.flt b)
 | .ref a=>some (.ref a)
 | .type n=>some (.ty n)
 | _=>none
theorem RelV.abs {x:V}{u:Value} (r:RelV x u):absV u=some x:=by
 cases x with
 | non=>cases r;rfl
 | bl _=>cases r;rfl
 | int _=>obtain ⟨t,rfl⟩:=r;rfl
 | str _=>obtain ⟨t,rfl⟩:=r;rfl
 | byt _=>obtain ⟨t,rfl⟩:=r;rfl
 | flt _=>obtain ⟨t,rfl⟩:=r;rfl
 | ref _=>cases r;rfl
 | ty _=>cases r;rfl
theorem RelV.inj {x y:V}{u:Value} (r:RelV x u) (q:RelV y u):x=y:=Option.some.inj (r.abs.symm.trans q.abs)
theorem Vals.inj:∀ {xs ys:List V}{us:List Value},Vals xs us→Vals ys us→xs=ys
 | _,_,_,.nil,.nil=>rfl
 | _,_,_,.cons r t,.cons r' t'=>by rw [r.inj r',Vals.inj t t']
section
variable {X:Cx}{pins:List (Addr×Obj)}{σ:St}{H:Hp}{s:Shared}{a:Addr}{xs ys:List V}
theorem Inv.list (I:Inv X pins σ H s) (h:SqL X.K H a xs):∃ its:List Value,Vals xs its∧PlainL s.heap a its.toArray∧xs.length≤sizeLine:=by
 rcases h with h | ⟨o,its,n,hk,hc,hd,hs,hz,r⟩
 ·obtain ⟨z,its,n,r,e⟩:=h.ok I.hok
  exact ⟨its,r,⟨_,n,e,rfl,rfl,rfl⟩,z⟩
 ·refine ⟨its.toList,r,⟨o,n,I.kIn a o hk,hc,hd,by simpa using hs⟩,?_⟩
  have e:=r.length
  simp only [Array.length_toList] at e
  omega
theorem Inv.tuple (I:Inv X pins σ H s) (h:SqT X.K H a xs):∃ its:List Value,Vals xs its∧IsTup s.heap a its.toArray∧xs.length≤sizeLine:=by
 rcases h with h | ⟨o,its,n,hk,hc,hs,hz,r⟩
 ·obtain ⟨z,its,r,p⟩:=h.ok I.hok
  exact ⟨its,r,p,z⟩
 ·refine ⟨its.toList,r,⟨o,I.kIn a o hk,hc,n,by simpa using hs⟩,?_⟩
  have e:=r.length
  simp only [Array.length_toList] at e
  omega
theorem Inv.list_inj (I:Inv X pins σ H s) (h:SqL X.K H a xs) (h':SqL X.K H a ys):xs=ys:=by
 obtain ⟨its,r,⟨o,n,e,_,_,d⟩,_⟩:=I.list h
 obtain ⟨its',r',⟨o',n',e',_,_,d'⟩,_⟩:=I.list h'
 rw [e] at e';cases e'
 rw [d] at d'
 injection d' with d1 _
 have:its=its':=by simpa using congrArg Array.toList d1
 subst this
 exact r.inj r'
theorem Inv.tuple_inj (I:Inv X pins σ H s) (h:SqT X.K H a xs) (h':SqT X.K H a ys):xs=ys:=by
 obtain ⟨its,r,⟨o,e,_,n,d⟩,_⟩:=I.tuple h
 obtain ⟨its',r',⟨o',e',_,n',d'⟩,_⟩:=I.tuple h'
 rw [e] at e';cases e'
 rw [d] at d'
 injection d' with d1 _
 have:its=its':=by simpa using congrArg Array.toList d1
 subst this
 exact r.inj r'
end
section
variable {X:Cx}{pins:List (Addr×Obj)}{σ:St}{H:Hp}{s:Shared}{E:Value→Shared→Prop}
end
section
variable {X:Cx}{st:Stmt}{rest:List Stmt}{t u:TS}{e:Expr}{te:TE}{pos:Pos}
def tNext:TS:=fun D σ H=>D.nx σ H
def tSeq (t u:TS):TS:=fun D σ H=>t { D with nx:=u D } σ H
theorem pss_nil:PSs X [] tNext:=fun _ _ σ H _ I h=>wpAny_execs_nil ⟨σ,H,I,h⟩
theorem pss_cons (h1:PS X st t) (h2:PSs X rest u):PSs X (st::rest) (tSeq t u):=by
 intro pins s σ H D I h
 refine wpAny_execs_cons (thn (h1 pins s σ H { D with nx:=u D } I h) fun f s1 q=>?_)
 cases f with
 | next=>
  obtain ⟨σ',H',I',q⟩:=q
  exact h2 pins s1 σ' H' D I' q
 | ret v=>exact q
 | brk=>exact q
 | cont=>exact q
theorem pss_one (h1:PS X st t):PSs X [st] t:=by
 intro pins s σ H D I h
 refine wpAny_execs_cons (thn (h1 pins s σ H D I h) fun f s1 q=>?_)
 cases f with
 | next=>exact wpAny_execs_nil q
 | ret v=>exact q
 | brk=>exact q
 | cont=>exact q
theorem Inv.quiet {pins:List (Addr×Obj)}{σ:St}{H:Hp}{s:Shared} (I:Inv X pins σ H s):interactive X.env=false:=by simp [interactive,I.ok.kind]
def tDrop (te:TE):TS:=fun D σ H=>te σ H fun _ H1=>D.nx σ H1
theorem ps_expr (he:PE X e te) (hs:swapsWith e none pos.line X.env=pure false:=by rfl):PS X (.Expr e pos) (tDrop te):=by
 intro pins s σ H D I h
 exact wpAny_Expr_any (thn (he pins s σ H _ I h) fun v s1 ⟨x,H1,I1,r1,q1⟩=>⟨σ,H1,I1,q1⟩) I.quiet hs
def tRet (te:TE):TS:=fun D σ H=>te σ H D.rt
theorem ps_ret (he:PE X e te):PS X (.Return (some e) pos) (tRet te):=by
 intro pins s σ H D I h
 exact wpAny_Return_some (thn (he pins s σ H _ I h) fun v s1 ⟨x,H1,I1,r1,q1⟩=>⟨x,σ,H1,I1,r1,q1⟩)
def tIfS (c:TT) (t u:TS):TS:=fun D σ H=>c σ H fun b H1=>if b=true then t D σ H1 else u D σ H1
theorem ps_if {c:Expr}{a b:List Stmt}{tc:TT} (hc:PT X c tc) (ha:PSs X a t) (hb:PSs X b u):PS X (.If c a b pos) (tIfS tc t u):=by
 intro pins s σ H D I h
 refine wpAny_If (thn (hc pins s σ H _ I h) fun d s1 ⟨H1,I1,q1⟩=>?_)
 cases d with
 | true=>exact ha pins s1 σ H1 D I1 q1
 | false=>exact hb pins s1 σ H1 D I1 q1
def tNever:TS:=fun _ _ _=>False
theorem ps_never:PS X st tNever:=fun _ _ _ _ _ _ h=>h.elim
end
abbrev TG:=V→St→Hp→(St→Hp→Prop)→Prop
abbrev TGs:=List V→St→Hp→(St→Hp→Prop)→Prop
def PG (X:Cx) (target:Expr) (t:TG):Prop:=
 ∀ (pins:List (Addr×Obj)) (s:Shared) (σ:St) (H:Hp) (v:V) (u:Value) (Q:St→Hp→Prop),Inv X pins σ H s→RelV v u→t v σ H Q →
  wpAny (model X.prog X.w) X.A (assign target X.env u) (fun _ s'=>∃ σ' H',Inv X pins σ' H' s'∧Q σ' H') X.xe s
def PGs (X:Cx) (ts:List Expr) (t:TGs):Prop:=
 ∀ (pins:List (Addr×Obj)) (s:Shared) (σ:St) (H:Hp) (vs:List V) (us:List Value) (Q:St→Hp→Prop),Inv X pins σ H s→Vals vs us→t vs σ H Q →
  wpAny (model X.prog X.w) X.A (assignInOrder ((assignEach ts X.env).map (·.2)) us) (fun _ s'=>∃ σ' H',Inv X pins σ' H' s'∧Q σ' H') X.xe s
abbrev TSet:=V→V→V→Hp→(Hp→Prop)→Prop
def PSet (X:Cx) (t:TSet):Prop:=
 ∀ (pins:List (Addr×Obj)) (s:Shared) (σ:St) (H:Hp) (o i v:V) (ov iv u:Value) (Q:Hp→Prop),Inv X pins σ H s→RelV o ov→RelV i iv→RelV v u→t o i v H Q →
  wpAny (model X.prog X.w) X.A (setItem ov iv u) (fun _ s'=>∃ H',Inv X pins σ H' s'∧Q H') X.xe s
section
variable {X:Cx}{pos:Pos}
def gName (i:Nat):TG:=fun v σ H Q=>Q (σ.set i (some v)) H
theorem pg_name {i:Nat}{x:Str} (hN:X.N.Nodup) (hi:X.N[i]?=some x) (hx:Loc X.env.scope x) (hf:X.fn x=true∨X.env.scope.names.lookup x=some .local:=by first | exact .inl rfl | exact .inr rfl | assumption):PG X (.Name x pos) (gName i):=by
 intro pins s σ H v u Q I r h
 exact wpAny_assign_Name (store_ok I hN hi hx r (fun s' I'=>⟨_,H,I',h⟩) hf)
def gNil:TGs:=fun vs σ H Q=>vs=[]∧Q σ H
def gCons (t:TG) (u:TGs):TGs:=fun vs σ H Q=>∃ v r,vs=v::r∧t v σ H fun σ' H'=>u r σ' H' Q
theorem pgs_nil:PGs X [] gNil:=by
 intro pins s σ H vs us Q I r h
 obtain ⟨e,h⟩:=h
 subst e
 cases r
 exact assignInOrder_nil ⟨σ,H,I,h⟩
theorem pgs_cons {e:Expr}{es:List Expr}{t:TG}{u:TGs} (h1:PG X e t) (h2:PGs X es u)
  (hs:(assignEach (e::es) X.env).map (·.2)=assign e X.env::(assignEach es X.env).map (·.2):=by rfl):PGs X (e::es) (gCons t u):=by
 intro pins s σ H vs us Q I r h
 obtain ⟨v,vr,e1,h⟩:=h
 subst e1
 cases r with
 | cons r rr=>
  rw [hs]
  refine assignInOrder_cons (thn (h1 pins s σ H _ _ _ I r h) fun _ s1 ⟨σ1,H1,I1,q1⟩=>?_)
  exact h2 pins s1 σ1 H1 _ _ Q I1 rr q1
def gTup (K:PySem.W.Frag) (n:Nat) (t:TGs):TG:=fun v σ H Q=>∃ a xs,v=.ref a∧SqT K H a xs∧xs.length=n∧t xs σ H Q
theorem pg_tup {es:List Expr}{k:Nat}{t:TGs}{n:Nat} (hc:X.calm=true) (h:PGs X es t)
  (hn:(assignEach es X.env).length=n:=by rfl) (hst:(assignEach es X.env).findIdx? (·.1)=none:=by rfl):PG X (.Tuple es k pos) (gTup X.K n t):=by
 intro pins s σ H v u Q I r hw
 obtain ⟨a,xs,e1,hq,hl,hw⟩:=hw
 subst e1
 cases r
 obtain ⟨its,rv,ht,hz⟩:=I.tuple hq
 refine assign_Tuple_tuple (I.ok.hd hc) ht (by simp [hn,← hl,rv.length]) hst fun h' hx=>?_
 have I1:Inv X pins σ H { s with heap:=h' }:=I.kept (t':=s.toks) fun b o e=>hx b o (Nat.ne_of_lt (Heap.lt_size e)) e
 exact h pins _ σ H xs _ Q I1 (by simpa using rv) hw
def gSub (to ti:TE) (t:TSet):TG:=fun v σ H Q=>to σ H fun o H1=>ti σ H1 fun i H2=>t o i v H2 fun H3=>Q σ H3
theorem pg_sub {o i:Expr}{to ti:TE}{t:TSet} (ho:PE X o to) (hi:PE X i ti) (hs:PSet X t)
  (ha:∀ v,assign (.Subscript o i pos) X.env v=(do
   let ov←holding [v] (eval o X.env)
   let iv←holding [v,ov] (eval i X.env)
   standAt pos
   holding [v,ov,iv] (setItem ov iv v)
   release [v,ov,iv] []):=by intro _;rfl):PG X (.Subscript o i pos) (gSub to ti t):=by
 intro pins s σ H v u Q I r h
 rw [ha]
 refine wpAny_bind (wpAny_holding (thn (ho pins s σ H _ I h) fun ov s1 ⟨x,H1,I1,r1,q1⟩=>?_))
 refine wpAny_bind (wpAny_holding (thn (hi pins s1 σ H1 _ I1 q1) fun iv s2 ⟨y,H2,I2,r2,q2⟩=>?_))
 refine wpAny_bind (wpAny_standAt (wpAny_bind (wpAny_holding (thn (hs pins s2 σ H2 x y v ov iv u _ I2 r1 r2 r q2) fun _ s3 ⟨H3,I3,q3⟩=>?_))))
 exact wpAny_release ⟨σ,H3,I3,q3⟩
def tAsg (te:TE) (g:TG):TS:=fun D σ H=>te σ H fun x H1=>g x σ H1 D.nx
theorem ps_asg {tg e:Expr}{te:TE}{g:TG} (he:PE X e te) (hg:PG X tg g) (hs:swapsWithSole [tg] e pos.line X.env=pure false:=by rfl) (hw:swappedStores [tg] e X.env=pure none:=by rfl)
  (h1:(assignEach [tg] X.env).map (·.2)=[assign tg X.env]:=by rfl):PS X (.Assign [tg] e pos) (tAsg te g):=by
 intro pins s σ H D I h
 refine wpAny_Assign_stores (thn (he pins s σ H _ I h) fun v s1 ⟨x,H1,I1,r1,q1⟩=>?_) hs hw
 rw [h1]
 exact thn (hg pins s1 σ H1 x v _ I1 r1 q1) fun _ s2 q=>q
theorem ps_set {i:Nat}{x:Str}{e:Expr}{te:TE}{pos':Pos} (hN:X.N.Nodup) (hi:X.N[i]?=some x) (hx:Loc X.env.scope x) (he:PE X e te) (hs:swapsWith e (some (.Name x pos')) pos.line X.env=pure false:=by rfl) (hf:X.fn x=true∨X.env.scope.names.lookup x=some .local:=by first | exact .inl rfl | exact .inr rfl | assumption):
  PS X (.Assign [.Name x pos'] e pos) (tAsg te (gName i)):=by
 intro pins s σ H D I h
 refine wpAny_Assign_Name (thn (he pins s σ H _ I h) fun v s1 ⟨y,H1,I1,r1,q1⟩=>?_) hs
 exact store_ok I1 hN hi hx r1 (fun s2 I2=>⟨_,H1,I2,q1⟩) hf
end
section
variable {X:Cx}{pos:Pos}
end
structure It where
 go:Nat→Hp→Prop
 yld:Nat→Hp→V→Hp→Prop
 stop:Nat→Hp→Prop
def FpOk (X:Cx) (pins:List (Addr×Obj)) (H:Hp) (b:Addr):Prop:=
 H b=none∧b≠X.env.locals∧b∉X.fs∧(b∈X.ex∨X.s₀.heap.objs.size≤b)∧(∀ x c,X.env.cells.lookup x=some c→c≠b)∧∀ p∈X.pn++pins,p.1≠b
theorem Inv.fpOk {X:Cx}{pins:List (Addr×Obj)}{σ:St}{H H':Hp}{s:Shared}{b:Addr} (I:Inv X pins σ H s) (hb:s.heap.objs.size≤b) (hn:H' b=none):FpOk X pins H' b:=by
 refine ⟨hn,Nat.ne_of_gt (Nat.lt_of_lt_of_le I.lt hb),I.nofs hb,.inr (Nat.le_trans I.sz hb),fun x c e z=>?_,fun p hp z=>?_⟩
 ·obtain ⟨v,q⟩:=I.cell x c e
  exact absurd (Nat.lt_of_lt_of_le q.lt (by rw [z];exact hb)) (Nat.lt_irrefl _)
 ·exact absurd (Nat.lt_of_lt_of_le (Heap.lt_size (I.pin p hp).1) (by rw [z];exact hb)) (Nat.lt_irrefl _)
structure Turn (P:Program) (w:World) (K:PySem.W.Frag) (tg:Expr) (J:It) (fp:List Addr) (it:Addr) (tn:Nat→Heap→Prop):Prop where
 mem:it∈fp
 obj:∀ i h,tn i h→∀ b∈fp,∃ o,h.get? b=some o∧∀ v,o.data≠.cell v
 keep:∀ i h h',tn i h→(∀ b∈fp,∀ o,h.get? b=some o→h'.get? b=some o)→tn i h'
 item:∀ (X:Cx),X.prog=P→X.w=w→X.K=K→X.calm=true→∀ (i:Nat) (pins:List (Addr×Obj)) (s:Shared) (σ:St) (H:Hp) (E:Value→Shared→Prop),Inv X pins σ H s→(∀ b∈fp,FpOk X pins H b)→tn i s.heap→J.go i H →
  wpAny (model P w) X.A (pyNext (.ref it)) (fun r s1=>∃ u,r=some u ∧
   wpAny (model P w) X.A (letOwnedTupleGo tg (.ref it) u) (fun _ s2=>∃ x H',Inv X pins σ H' s2∧RelV x u∧J.yld i H x H'∧tn (i + 1) s2.heap∧∀ b∈fp,H' b=none) E s1) E s
 done:∀ (X:Cx),X.prog=P→X.w=w→X.K=K→X.calm=true→∀ (i:Nat) (pins:List (Addr×Obj)) (s:Shared) (σ:St) (H:Hp) (E:Value→Shared→Prop),Inv X pins σ H s→(∀ b∈fp,FpOk X pins H b)→tn i s.heap→J.stop i H →
  wpAny (model P w) X.A (pyNext (.ref it)) (fun r s1=>r=none∧Inv X pins σ H s1) E s
 self:∀ (A:Around) (i:Nat) (s:Shared) (Q:Value→Shared→Prop) (E:Value→Shared→Prop),tn i s.heap→Q (.ref it) s→wpAny (model P w) A (pyIter (.ref it)) Q E s
abbrev TI:=St→Hp→(It→Hp→Prop)→Prop
def PIE (X:Cx) (pins:List (Addr×Obj)) (σ:St) (tg:Expr) (R:It→Hp→Prop) (itv:Value) (s2:Shared):Prop:=
 ∃ (it:Addr) (fp:List Addr) (tn:Nat→Heap→Prop) (J:It) (H':Hp),itv=.ref it∧Inv X pins σ H' s2∧Turn X.prog X.w X.K tg J fp it tn∧tn 0 s2.heap∧(∀ b∈fp,FpOk X pins H' b)∧R J H'
def PI (X:Cx) (tg iter:Expr) (wi:TI):Prop:=
 ∀ (pins:List (Addr×Obj)) (s:Shared) (σ:St) (H:Hp) (R:It→Hp→Prop),Inv X pins σ H s→wi σ H R →
  wpAny (model X.prog X.w) X.A (eval iter X.env) (fun v s1=>wpAny (model X.prog X.w) X.A (pyIter v) (PIE X pins σ tg R) X.xe s1) X.xe s
theorem go_of {M:Model}{A:Around}{E:Value→Shared→Prop}{s:Shared}{tg:Expr}{it:Addr}{u:Value}{o:Obj}{n:String}{vs:Array Value}{Q:Unit→Shared→Prop} (ho:s.heap.get? it=some o) (hc:o.cls=.type n) (hd:o.data=.fields vs)
  (hn:["enumerate","zip","dict_itemiterator","dict_reverseitemiterator","odict_iterator","itertools.zip_longest","itertools.pairwise"].contains n=false) (hQ:Q () s):wpAny M A (letOwnedTupleGo tg (.ref it) u) Q E s:=by
 unfold letOwnedTupleGo
 cases tg <;> first
  | exact wpAny_pure hQ
  | (cases u <;> first
    | exact wpAny_pure hQ
    | (refine wpAny_bind (wpAny_load ho ?_);rw [hc,hd];show wpAny M A (if (["enumerate","zip","dict_itemiterator","dict_reverseitemiterator","odict_iterator","itertools.zip_longest","itertools.pairwise"].contains n && vs[0]? == some (rawInt _))=true then _ else _) Q E s;rw [if_neg (by intro h;rw [hn,Bool.false_and] at h;cases h)];exact wpAny_pure hQ))
def Itl (K:PySem.W.Frag) (a:Addr):It:=
 ⟨fun i H=>∃ xs x,SqL K H a xs∧xs[i]?=some x,fun i H x H'=>H'=H∧∀ xs,SqL K H a xs→xs[i]?=some x,fun i H=>∃ xs,SqL K H a xs∧xs.length≤i⟩
def Itt (K:PySem.W.Frag) (a:Addr):It:=
 ⟨fun i H=>∃ xs x,SqT K H a xs∧xs[i]?=some x,fun i H x H'=>H'=H∧∀ xs,SqT K H a xs→xs[i]?=some x,fun i H=>∃ xs,SqT K H a xs∧xs.length≤i⟩
def Itr (lo:Int) (n:Nat):It:=⟨fun i _=>i < n,fun i H x H'=>H'=H∧x=.int (lo + i),fun i _=>n≤i⟩
theorem turn_list {P:Program}{w:World}{K:PySem.W.Frag}{tg:Expr} (a it:Addr):Turn P w K tg (Itl K a) [it] it (fun i h=>h.IsListIter it a i) where
 mem:=by simp
 obj:=fun i h st b hb=>by
  have e:b=it:=by simpa using hb
  subst e
  obtain ⟨o,e,c,d⟩:=st
  exact ⟨o,e,fun v z=>by rw [d] at z;cases z⟩
 keep:=fun i h h' st k=>st.at fun o e=>k it (by simp) o e
 item:=by
  intro X hP hw hK hc i pins s σ H E I hf st hg
  subst hP hw hK
  obtain ⟨xs,x,hq,hx⟩:=hg
  obtain ⟨its,rv,p,hz⟩:=I.list hq
  obtain ⟨u,hu,ru⟩:=rv.get hx
  obtain ⟨f0,f1,f2,f3,f4,f5⟩:=hf it (by simp)
  refine wpAny_pyNext_list_item st p.isList (x:=u) (by simpa using hu) fun h' st' sb=>?_
  have I1:Inv X pins σ H { s with heap:=h' }:=I.turned (t':=s.toks) (fun b o hb e=>(sb.2 b hb).trans e) f0 f1 f3 f4 f5
  obtain ⟨o,e,c,d⟩:=id st'
  exact ⟨u,rfl,go_of (s:={ s with heap:=h' }) e c d (by decide) ⟨x,H,I1,ru,⟨rfl,fun ys hy=>by rw [I.list_inj hy hq];exact hx⟩,st',fun b hb=>(hf b hb).1⟩⟩
 done:=by
  intro X hP hw hK hc i pins s σ H E I hf st hg
  subst hP hw hK
  obtain ⟨xs,hq,hx⟩:=hg
  obtain ⟨its,rv,p,hz⟩:=I.list hq
  obtain ⟨f0,f1,f2,f3,f4,f5⟩:=hf it (by simp)
  have hl:=rv.length
  exact wpAny_pyNext_list_end (I.ok.hd hc) st p.isList (by simp;omega) fun h' eb=>⟨rfl,I.turned (t':=s.toks) (fun b o hb e=>eb b o hb e) f0 f1 f3 f4 f5⟩
 self:=fun _ _ _ _ _ st h=>wpAny_pyIter_listiter st h
theorem turn_tuple {P:Program}{w:World}{K:PySem.W.Frag}{tg:Expr} (a it:Addr):Turn P w K tg (Itt K a) [it] it (fun i h=>h.IsTupleIter it a i) where
 mem:=by simp
 obj:=fun i h st b hb=>by
  have e:b=it:=by simpa using hb
  subst e
  obtain ⟨o,e,c,d⟩:=st
  exact ⟨o,e,fun v z=>by rw [d] at z;cases z⟩
 keep:=fun i h h' st k=>st.at fun o e=>k it (by simp) o e
 item:=by
  intro X hP hw hK hc i pins s σ H E I hf st hg
  subst hP hw hK
  obtain ⟨xs,x,hq,hx⟩:=hg
  obtain ⟨its,rv,p,hz⟩:=I.tuple hq
  obtain ⟨u,hu,ru⟩:=rv.get hx
  obtain ⟨f0,f1,f2,f3,f4,f5⟩:=hf it (by simp)
  refine wpAny_pyNext_tuple_item st (show s.heap.IsTuple a its.toArray from p) (x:=u) (by simpa using hu) fun h' st' sb=>?_
  have I1:Inv X pins σ H { s with heap:=h' }:=I.turned (t':=s.toks) (fun b o hb e=>(sb.2 b hb).trans e) f0 f1 f3 f4 f5
  obtain ⟨o,e,c,d⟩:=id st'
  exact ⟨u,rfl,go_of (s:={ s with heap:=h' }) e c d (by decide) ⟨x,H,I1,ru,⟨rfl,fun ys hy=>by rw [I.tuple_inj hy hq];exact hx⟩,st',fun b hb=>(hf b hb).1⟩⟩
 done:=by
  intro X hP hw hK hc i pins s σ H E I hf st hg
  subst hP hw hK
  obtain ⟨xs,hq,hx⟩:=hg
  obtain ⟨its,rv,p,hz⟩:=I.tuple hq
  obtain ⟨f0,f1,f2,f3,f4,f5⟩:=hf it (by simp)
  have hl:=rv.length
  exact wpAny_pyNext_tuple_end (I.ok.hd hc) st (show s.heap.IsTuple a its.toArray from p) (by simp;omega) fun h' eb=>⟨rfl,I.turned (t':=s.toks) (fun b o hb e=>eb b o hb e) f0 f1 f3 f4 f5⟩
 self:=fun _ _ _ _ _ st h=>wpAny_pyIter_tupleiter st h
theorem turn_range {P:Program}{w:World}{K:PySem.W.Frag}{tg:Expr} (it:Addr) (lo:Int) (n:Nat):Turn P w K tg (Itr lo n) [it] it (fun i h=>IsRangeIter h it (lo + (i:Nat) * 1) ((n:Int) - (i:Nat)) 1) where
 mem:=by simp
 obj:=fun i h st b hb=>by
  have e:b=it:=by simpa using hb
  subst e
  exact ⟨_,st,fun v z=>by
   have z':Data.fields _=Data.cell v:=z
   cases z'⟩
 keep:=fun i h h' st k=>k it (by simp) _ st
 item:=by
  intro X hP hw hK hc i pins s σ H E I hf st hg
  subst hP hw hK
  obtain ⟨f0,f1,f2,f3,f4,f5⟩:=hf it (by simp)
  have W:=Walks.range (prog:=X.prog) (w:=X.w) (I.ok.hd hc) it lo 1 n
  refine W.item i s _ _ hg st fun v h' tk hv st' kk=>?_
  obtain ⟨t,rfl⟩:=hv
  have I1:Inv X pins σ H { s with heap:=h',toks:=tk }:=I.turned (fun b o hb e=>kk b o (by simpa using hb) e) f0 f1 f3 f4 f5
  refine ⟨_,rfl,go_of (s:={ s with heap:=h',toks:=tk }) (n := "range_iterator") st' rfl rfl (by decide) ⟨.int (lo + i),H,I1,⟨t,?_⟩,⟨rfl,rfl⟩,st',fun b hb=>(hf b hb).1⟩⟩
  rw [Int.mul_one]
 done:=by
  intro X hP hw hK hc i pins s σ H E I hf st hg
  subst hP hw hK
  obtain ⟨f0,f1,f2,f3,f4,f5⟩:=hf it (by simp)
  exact wpAny_pyNext_range_end (I.ok.hd hc) st (by have:n≤i:=hg;omega) fun h' eb=>⟨rfl,I.turned (t':=s.toks) (fun b o hb e=>eb b o hb e) f0 f1 f3 f4 f5⟩
 self:=fun _ _ _ _ _ st h=>wpAny_pyIter_rangeiter st h
open PySem PySem.Spec PyProof.Rows
section
variable {X:Cx}{tg:Expr}
theorem range_it {pins:List (Addr×Obj)}{σ:St}{H:Hp}{s:Shared}{R:It→Hp→Prop}{E:Value→Shared→Prop}{lo hi:Int}{t u v:Tok}{tk:Nat} (I:Inv X pins σ H s) (h1:-(2 ^ 62)≤lo) (h2:lo < 2 ^ 62) (h3:-(2 ^ 62)≤hi) (h4:hi < 2 ^ 62)
  (q:R (Itr lo (hi - lo).toNat) H):wpAny (model X.prog X.w) X.A (pyIter (.ref s.heap.objs.size)) (PIE X pins σ tg R) E { s with heap:=s.heap.push { cls:=.type "range",data:=.fields #[.int lo t,.int hi u,.int 1 v] },toks:=tk }:=by
 refine wpAny_pyIter_range (IsRange.new ..) (small_one h1 h2 h3 h4) ?_
 have I1:Inv X pins σ H { s with heap:=s.heap.push { cls:=.type "range",data:=.fields #[.int lo t,.int hi u,.int 1 v] },toks:=tk }:=I.kept fun b o e=>Heap.get?_push_of_some _ e
 refine ⟨(s.heap.push { cls:=.type "range",data:=.fields #[.int lo t,.int hi u,.int 1 v] }).objs.size,[(s.heap.push { cls:=.type "range",data:=.fields #[.int lo t,.int hi u,.int 1 v] }).objs.size],_,_,H,rfl,
  I1.kept (t':=tk) fun b o e=>Heap.get?_push_of_some _ e,turn_range _ lo (hi - lo).toNat,?_,fun b hb=>?_,q⟩
 ·have e1:lo + ((0:Nat):Int) * 1=lo:=by simp
  have e2:(((hi - lo).toNat:Nat):Int) - ((0:Nat):Int)=Builtin.Range.rangeSize lo hi 1:=by rw [rangeSize_one];split <;> omega
  show IsRangeIter _ _ (lo + ((0:Nat):Int) * 1) ((((hi - lo).toNat:Nat):Int) - ((0:Nat):Int)) 1
  rw [e1,e2]
  exact Heap.get?_push_size _ rfl
 ·have e:b=(s.heap.push { cls:=.type "range",data:=.fields #[.int lo t,.int hi u,.int 1 v] }).objs.size:=by simpa using hb
  subst e
  exact I1.fpOk (Nat.le_refl _) (I1.hok.fresh (Nat.le_refl _))
def iRng1 (ta:TA):TI:=fun σ H R=>ta σ H fun vs H1=>∃ j:Int,vs=[.int j]∧-(2 ^ 62)≤j∧j < 2 ^ 62∧R (Itr 0 j.toNat) H1
def iRng2 (ta:TA):TI:=fun σ H R=>ta σ H fun vs H1=>∃ i j:Int,vs=[.int i,.int j]∧(-(2 ^ 62)≤i∧i < 2 ^ 62∧-(2 ^ 62)≤j∧j < 2 ^ 62)∧R (Itr i (j - i).toNat) H1
theorem pi_range1 {a:Expr}{ta:TA}{p pos:Pos} (hg:Gl X "range") (hm:X.mg "range" = none) (ha:PA X [a] ta) (hs:starEach [a] X.env=[(false,eval a X.env)]:=by rfl):PI X tg (.Call (.Name "range" p) [a] [] pos) (iRng1 ta):=by
 intro pins s σ H R I h
 refine Call_ (ld_blt I hg hm boot_range (PyProof.Rows.callWith_type1 (thn (ha pos pins s σ H _ I h) fun us s1 ⟨vs,H1,I1,r1,q1⟩=>?_) hs rfl))
 obtain ⟨j,e,q1,q2,q⟩:=q1
 subst e
 cases r1 with
 | cons r rr=>
  cases rr
  obtain ⟨t,rfl⟩:=r
  exact call_range_1 (range_it I1 (by omega) (by omega) q1 q2 (by simpa using q))
theorem pi_range2 {a b:Expr}{ta:TA}{p pos:Pos} (hg:Gl X "range") (hm:X.mg "range" = none) (ha:PA X [a,b] ta) (hs:starEach [a,b] X.env=[(false,eval a X.env),(false,eval b X.env)]:=by rfl) (hs2:starEach [b] X.env=[(false,eval b X.env)]:=by rfl):
  PI X tg (.Call (.Name "range" p) [a,b] [] pos) (iRng2 ta):=by
 intro pins s σ H R I h
 refine Call_ (ld_blt I hg hm boot_range (PyProof.Rows.callWith_type1 (thn (ha pos pins s σ H _ I h) fun us s1 ⟨vs,H1,I1,r1,q1⟩=>?_) (by rw [hs,hs2]) (by rw [hs2];rfl)))
 obtain ⟨i,j,e,⟨q1,q2,q3,q4⟩,q⟩:=q1
 subst e
 cases r1 with
 | cons r rr=>
  cases rr with
  | cons r' rr=>
   cases rr
   obtain ⟨t,rfl⟩:=r
   obtain ⟨t',rfl⟩:=r'
   exact call_range_2 (range_it I1 q1 q2 q3 q4 q)
def tFor (wi:TI) (g:TG) (tb:TS):TS:=fun D σ H=>wi σ H fun J H1=>∃ W:Nat→Nat→St→Hp→Prop,(∃ m,W 0 m σ H1)∧∀ i m σ H,W i m σ H →
 (J.stop i H∧D.nx σ H)∨(J.go i H∧∃ N:St→Hp→Prop,(∀ σ' H',N σ' H'→∃ m',m' < m∧W (i + 1) m' σ' H')∧∀ x H',J.yld i H x H'→g x σ H' fun σ2 H2=>tb { D with nx:=N,ct:=N,bk:=D.nx } σ2 H2)
def pinsAt (fp:List Addr) (h:Heap):List (Addr×Obj):=fp.filterMap fun b=>(h.get? b).map fun o=>(b,o)
theorem mem_pinsAt {fp:List Addr}{h:Heap}{b:Addr}{o:Obj} (hb:b∈fp) (e:h.get? b=some o):(b,o)∈pinsAt fp h:=List.mem_filterMap.mpr ⟨b,hb,by rw [e];rfl⟩
theorem of_pinsAt {fp:List Addr}{h:Heap}{p:Addr×Obj} (hp:p∈pinsAt fp h):p.1∈fp∧h.get? p.1=some p.2:=by
 obtain ⟨b,hb,e⟩:=List.mem_filterMap.mp hp
 cases q:h.get? b with
 | none=>rw [q] at e;cases e
 | some o=>
  rw [q] at e
  have e':(b,o)=p:=Option.some.inj e
  subst e'
  exact ⟨hb,q⟩
theorem Inv.pinned {pins:List (Addr×Obj)}{σ:St}{H:Hp}{s:Shared}{fp:List Addr} (I:Inv X pins σ H s) (hf:∀ b∈fp,FpOk X pins H b) (ho:∀ b∈fp,∃ o,s.heap.get? b=some o∧∀ v,o.data≠.cell v):Inv X (pins++pinsAt fp s.heap) σ H s:=
 I.pins_of fun p hp=>(List.mem_append.mp hp).elim (fun z=>I.pin p (List.mem_append_right _ z)) fun z=>by
  obtain ⟨hb,e⟩:=of_pinsAt z
  obtain ⟨f0,f1,f2,_⟩:=hf p.1 hb
  obtain ⟨o,e',d⟩:=ho p.1 hb
  rw [e] at e';cases e'
  exact ⟨e,f0,f1,f2,d⟩
theorem Inv.unpinned {pins pl:List (Addr×Obj)}{σ:St}{H:Hp}{s:Shared} (I:Inv X (pins++pl) σ H s):Inv X pins σ H s:=I.pins_of fun p hp=>I.pin p (List.mem_append_right _ (List.mem_append_left _ hp))
theorem ps_for {iter:Expr}{body:List Stmt}{wi:TI}{g:TG}{tb:TS}{pos:Pos} (hp:PassesOwn (model X.prog X.w) X.A X.env X.xe) (hc:X.calm=true) (hi:PI X tg iter wi) (hg:PG X tg g) (hb:PSs X body tb)
  (hs:∀ x,foldedSetIterable iter X.env x=pure x:=by intro _;rfl):PS X (.For tg iter body [] pos) (tFor wi g tb):=by
 intro pins s σ H D I h
 refine wpAny_For (thn (hi pins s σ H _ I h) fun v s1 h1=>thn h1 fun itv s2 h2=>?_) hs
 obtain ⟨it,fp,tn,J,H2,e,I2,T,st2,f2,W,⟨m0,w0⟩,turn⟩:=h2
 subst e
 have stat:∀ {H':Hp},(∀ b∈fp,H' b=none)→∀ b∈fp,FpOk X pins H' b:=fun hn b hb=>⟨hn b hb,(f2 b hb).2⟩
 refine codeAny_forLoop_any (fun n s'=>∃ i σ' H',Inv X pins σ' H' s'∧tn i s'.heap∧(∀ b∈fp,H' b=none)∧W i n σ' H') ?_ m0 ⟨0,σ,H2,I2,st2,fun b hb=>(f2 b hb).1,w0⟩
 rintro n s3 ⟨i,σ3,H3,I3,st3,fr3,w3⟩
 rcases turn i n σ3 H3 w3 with ⟨stop,qn⟩ | ⟨go,N,hN,step⟩
 ·refine wpAny_passesOwn hp (thn (T.done X rfl rfl rfl hc i pins s3 σ3 H3 X.xe I3 (stat fr3) st3 stop) fun r s4 ⟨hr,I4⟩=>?_)
  subst hr
  exact wpAny_execs_nil ⟨σ3,H3,I4,qn⟩
 ·refine wpAny_passesOwn hp (thn (T.item X rfl rfl rfl hc i pins s3 σ3 H3 X.xe I3 (stat fr3) st3 go) fun r s4 ⟨u,hr,h4⟩=>?_)
  subst hr
  refine wpAny_passesOwn hp (thn h4 fun _ s5 ⟨x,H5,I5,r5,y5,st5,fr5⟩=>?_)
  have I5':=I5.pinned (stat fr5) (T.obj _ _ st5)
  refine wpAny_passesOwn hp (thn (hg _ s5 σ3 H5 x u _ I5' r5 (step x H5 y5)) fun _ s6 ⟨σ6,H6,I6,q6⟩=>?_)
  refine wpAny_passesOwn hp (thn (hb _ s6 σ6 H6 _ I6 q6) fun f s7 q7=>?_)
  have again:∀ {σ7:St}{H7:Hp},Inv X (pins++pinsAt fp s5.heap) σ7 H7 s7→N σ7 H7→∃ m,m < n∧∃ i σ' H',Inv X pins σ' H' s7∧tn i s7.heap∧(∀ b∈fp,H' b=none)∧W i m σ' H':=fun {σ7 H7} I7 n7=>by
   obtain ⟨m',hm,w7⟩:=hN σ7 H7 n7
   refine ⟨m',hm,i + 1,σ7,H7,I7.unpinned,T.keep _ _ _ st5 fun b hb o e=>(I7.pin (b,o) (List.mem_append_right _ (List.mem_append_right _ (mem_pinsAt hb e)))).1,fun b hb=>?_,w7⟩
   obtain ⟨o,e,d⟩:=T.obj _ _ st5 b hb
   exact (I7.pin (b,o) (List.mem_append_right _ (List.mem_append_right _ (mem_pinsAt hb e)))).2.1
  cases f with
  | next=>obtain ⟨σ7,H7,I7,n7⟩:=q7;exact again I7 n7
  | cont=>obtain ⟨σ7,H7,I7,n7⟩:=q7;exact again I7 n7
  | brk=>obtain ⟨σ7,H7,I7,q7⟩:=q7;exact ⟨σ7,H7,I7.unpinned,q7⟩
  | ret v=>obtain ⟨x7,σ7,H7,I7,r7,q7⟩:=q7;exact ⟨x7,σ7,H7,I7.unpinned,r7,q7⟩
end
open PySem PySem.Spec PyProof.Rows
abbrev R2:=V→V→Hp→VK→Prop
def OpR (X:Cx) (f:Value→Value→Sem Value) (r:R2):Prop:=
 ∀ (pins:List (Addr×Obj)) (s:Shared) (σ:St) (H:Hp) (x y:V) (v u:Value) (Q:VK),Inv X pins σ H s→RelV x v→RelV y u→r x y H Q →
  wpAny (model X.prog X.w) X.A (f v u) (EP X pins σ Q) X.xe s
def UnR (X:Cx) (f:Value→Sem Value) (r:V→Hp→VK→Prop):Prop:=
 ∀ (pins:List (Addr×Obj)) (s:Shared) (σ:St) (H:Hp) (x:V) (v:Value) (Q:VK),Inv X pins σ H s→RelV x v→r x H Q →
  wpAny (model X.prog X.w) X.A (f v) (EP X pins σ Q) X.xe s
def CallR (X:Cx) (f:Value) (r:List V→Hp→VK→Prop):Prop:=
 ∀ (pins:List (Addr×Obj)) (s:Shared) (σ:St) (H:Hp) (xs:List V) (us:List Value) (Q:VK),Inv X pins σ H s→Vals xs us→r xs H Q →
  wpAny (model X.prog X.w) X.A (call f us) (EP X pins σ Q) X.xe s
def tOp (r:R2) (ta tb:TE):TE:=fun σ H Q=>ta σ H fun x H1=>tb σ H1 fun y H2=>r x y H2 Q
def tUn (r:V→Hp→VK→Prop) (ta:TE):TE:=fun σ H Q=>ta σ H fun x H1=>r x H1 Q
def rI (C:Int→Int→Prop) (g:Int→Int→V):R2:=fun x y H Q=>∃ i j,x=.int i∧y=.int j∧C i j∧Q (g i j) H
def rI0 (g:Int→Int→V):R2:=fun x y H Q=>∃ i j,x=.int i∧y=.int j∧Q (g i j) H
def rU (g:Int→V):V→Hp→VK→Prop:=fun x H Q=>∃ i,x=.int i∧Q (g i) H
section
variable {X:Cx}{a b c:Expr}{ta tb tc:TE}{pos:Pos}
theorem binT (ha:PE X a ta) (hb:PE X b tb) {pins:List (Addr×Obj)}{s:Shared}{σ:St}{H:Hp}{R:V→V→Hp→Prop} (I:Inv X pins σ H s)
  (h:ta σ H fun x H1=>tb σ H1 fun y H2=>R x y H2) {Q:Value→Shared→Prop}{f:Value→Value→Sem Value}
  (hf:∀ v u s2 x y H2,Inv X pins σ H2 s2→RelV x v→RelV y u→R x y H2→wpAny (model X.prog X.w) X.A (f v u) Q X.xe s2):
  wpAny (model X.prog X.w) X.A (eval a X.env) (fun v s₁=>wpAny (model X.prog X.w) X.A (eval b X.env) (fun u s₂=>wpAny (model X.prog X.w) X.A (f v u) Q X.xe s₂) X.xe s₁) X.xe s:=by
 refine thn (ha pins s σ H _ I h) fun v s1 ⟨x,H1,I1,r1,q1⟩=>?_
 refine thn (hb pins s1 σ H1 _ I1 q1) fun u s2 ⟨y,H2,I2,r2,q2⟩=>?_
 exact hf v u s2 x y H2 I2 r1 r2 q2
theorem pe_op {op:Operator}{r:R2} (ho:OpR X (binaryOp op) r) (ha:PE X a ta) (hb:PE X b tb):PE X (.BinOp a op b pos) (tOp r ta tb):=by
 intro pins s σ H Q I h
 exact wpAny_BinOp (binT ha hb I h fun v u s2 x y H2 I2 rx ry q=>ho pins s2 σ H2 x y v u Q I2 rx ry q)
theorem pe_un {op:UnaryOp}{r:V→Hp→VK→Prop} (ho:UnR X (unaryOp op) r) (ha:PE X a ta):PE X (.UnaryOp op a pos) (tUn r ta):=by
 intro pins s σ H Q I h
 exact UnaryOp_ (thn (ha pins s σ H _ I h) fun v s1 ⟨x,H1,I1,r1,q1⟩=>ho pins s1 σ H1 x v Q I1 r1 q1)
theorem opI {f:Value→Value→Sem Value}{C:Int→Int→Prop}{g:Int→Int→Int}
  (rule:∀ (i j:Int) (t u:Tok) (s:Shared) (Q:Value→Shared→Prop) (E:Value→Shared→Prop),C i j→Q (.int (g i j) s.toks) { s with toks:=s.toks + 1 }→wpAny (model X.prog X.w) X.A (f (.int i t) (.int j u)) Q E s):
  OpR X f (rI C fun i j=>.int (g i j)):=by
 intro pins s σ H x y v u Q I rx ry h
 obtain ⟨i,j,rfl,rfl,hc,q⟩:=h
 obtain ⟨t,rfl⟩:=rx
 obtain ⟨t',rfl⟩:=ry
 exact rule i j t t' s _ _ hc ⟨.int (g i j),H,I.tok _,⟨_,rfl⟩,q⟩
theorem opI0 {f:Value→Value→Sem Value}{g:Int→Int→Int}
  (rule:∀ (i j:Int) (t u:Tok) (s:Shared) (Q:Value→Shared→Prop) (E:Value→Shared→Prop),Q (.int (g i j) s.toks) { s with toks:=s.toks + 1 }→wpAny (model X.prog X.w) X.A (f (.int i t) (.int j u)) Q E s):
  OpR X f (rI0 fun i j=>.int (g i j)):=by
 intro pins s σ H x y v u Q I rx ry h
 obtain ⟨i,j,rfl,rfl,q⟩:=h
 obtain ⟨t,rfl⟩:=rx
 obtain ⟨t',rfl⟩:=ry
 exact rule i j t t' s _ _ ⟨.int (g i j),H,I.tok _,⟨_,rfl⟩,q⟩
theorem opB0 {f:Value→Value→Sem Value}{g:Int→Int→Bool}
  (rule:∀ (i j:Int) (t u:Tok) (s:Shared) (Q:Value→Shared→Prop) (E:Value→Shared→Prop),Q (.bool (g i j)) s→wpAny (model X.prog X.w) X.A (f (.int i t) (.int j u)) Q E s):
  OpR X f (rI0 fun i j=>.bl (g i j)):=by
 intro pins s σ H x y v u Q I rx ry h
 obtain ⟨i,j,rfl,rfl,q⟩:=h
 obtain ⟨t,rfl⟩:=rx
 obtain ⟨t',rfl⟩:=ry
 exact rule i j t t' s _ _ ⟨.bl (g i j),H,I,rfl,q⟩
def CPow (i j:Int):Prop:=0≤j∧j≤1000000∧i.natAbs < 2 ^ 64
def CMul (i j:Int):Prop:=(-(2 ^ 64) < i∧i < 2 ^ 64)∨(-(2 ^ 64) < j∧j < 2 ^ 64)
theorem CMul.ok {i j:Int} (h:CMul i j):IntMulOk i j:=by
 rcases h with ⟨h1,h2⟩ | ⟨h1,h2⟩
 ·exact .of_left (intBits_le_64 h1 h2)
 ·exact .of_right (intBits_le_64 h1 h2)
theorem op_add:OpR X (binaryOp .Add) (rI0 fun i j=>.int (i + j)):=opI0 fun _ _ _ _ _ _ _ q=>add_int q
theorem op_mul:OpR X (binaryOp .Mult) (rI CMul fun i j=>.int (i * j)):=opI fun _ _ _ _ _ _ _ hc q=>mul_int q hc.ok
theorem op_mod:OpR X (binaryOp .Mod) (rI (fun _ j=>0 < j) fun i j=>.int (i % j)):=opI fun i j _ _ _ _ _ hc q=>by
 have h1:(0:Int) < j:=hc
 exact mod_int' (by omega) (by rw [Int.fmod_eq_emod_of_nonneg i (by omega)];exact q)
theorem op_pow:OpR X (binaryOp .Pow) (rI CPow fun i j=>.int (i ^ j.toNat)):=opI fun _ _ _ _ _ _ _ hc q=>pow_int_small hc.1 hc.2.1 hc.2.2 q
theorem unI {f:Value→Sem Value}{g:Int→Int}
  (rule:∀ (i:Int) (t:Tok) (s:Shared) (Q:Value→Shared→Prop) (E:Value→Shared→Prop),Q (.int (g i) s.toks) { s with toks:=s.toks + 1 }→wpAny (model X.prog X.w) X.A (f (.int i t)) Q E s):
  UnR X f (rU fun i=>.int (g i)):=by
 intro pins s σ H x v Q I rx h
 obtain ⟨i,rfl,q⟩:=h
 obtain ⟨t,rfl⟩:=rx
 exact rule i t s _ _ ⟨.int (g i),H,I.tok _,⟨_,rfl⟩,q⟩
theorem un_neg:UnR X (unaryOp .USub) (rU fun i=>.int (-i)):=unI fun _ _ _ _ _ q=>neg_int q
end
def scal:V→V→Bool
 | .non,.non=>true | .non,.int _=>true | .int _,.non=>true | .non,.bl _=>true | .bl _,.non=>true | .non,.str _=>true | .str _,.non=>true
 | .int _,.int _=>true | .bl _,.bl _=>true | .str _,.str _=>true | .byt _,.byt _=>true
 | .int _,.str _=>true | .str _,.int _=>true | .bl _,.str _=>true | .str _,.bl _=>true
 | _,_=>false
def rEq:R2:=fun x y H Q=>scal x y=true∧Q (.bl (decide (x=y))) H
theorem dec_int {i j:Int}:decide (V.int i=V.int j)=(i == j):=by
 rw [Bool.eq_iff_iff]
 simp
theorem dec_bl {i j:Bool}:decide (V.bl i=V.bl j)=(i == j):=by
 rw [Bool.eq_iff_iff]
 simp
theorem dec_str {i j:Str}:decide (V.str i=V.str j)=(i == j):=by
 rw [Bool.eq_iff_iff]
 simp
theorem dec_byt {i j:Array UInt8}:decide (V.byt i=V.byt j)=(i.toList == j.toList):=by
 rw [Bool.eq_iff_iff]
 cases i
 cases j
 simp
section
variable {X:Cx}{a b c:Expr}{ta tb tc:TE}{pos:Pos}
theorem fin_bl {pins:List (Addr×Obj)}{σ:St}{H:Hp}{s:Shared}{Q:VK}{k k':Bool} (I:Inv X pins σ H s) (q:Q (.bl k) H) (e:k=k'):EP X pins σ Q (.bool k') s:=by
 subst e
 exact ⟨.bl k,H,I,rfl,q⟩
theorem op_eq:OpR X (compareOp .Eq) rEq:=by
 intro pins s σ H x y v u Q I rx ry h
 obtain ⟨hs,q⟩:=h
 cases x with
 | non=>
  cases rx
  cases y with
  | non=>cases ry;exact PySem.EqNone.eq_none_none (fin_bl I q (by simp))
  | bl j=>cases ry;exact PySem.EqNone.eq_none_bool (fin_bl I q (by simp))
  | int j=>obtain ⟨t',rfl⟩:=ry;exact PySem.EqNone.eq_none_int (fin_bl I q (by simp))
  | str j=>obtain ⟨t',rfl⟩:=ry;exact PySem.EqNone.eq_none_str (fin_bl I q (by simp))
  | _=>exact absurd (show false=true from hs) Bool.false_ne_true
 | bl i=>
  cases rx
  cases y with
  | non=>cases ry;exact PySem.EqNone.eq_bool_none (fin_bl I q (by simp))
  | bl j=>cases ry;exact eq_bool (fin_bl I q dec_bl)
  | str j=>obtain ⟨t',rfl⟩:=ry;exact PySem.EqMixed.eq_bool_str (fin_bl I q (by simp))
  | _=>exact absurd (show false=true from hs) Bool.false_ne_true
 | int i=>
  obtain ⟨t,rfl⟩:=rx
  cases y with
  | non=>cases ry;exact PySem.EqNone.eq_int_none (fin_bl I q (by simp))
  | int j=>obtain ⟨t',rfl⟩:=ry;exact eq_int (fin_bl I q dec_int)
  | str j=>obtain ⟨t',rfl⟩:=ry;exact PySem.EqMixed.eq_int_str (fin_bl I q (by simp))
  | _=>exact absurd (show false=true from hs) Bool.false_ne_true
 | str i=>
  obtain ⟨t,rfl⟩:=rx
  cases y with
  | non=>cases ry;exact PySem.EqNone.eq_str_none (fin_bl I q (by simp))
  | bl j=>cases ry;exact PySem.EqMixed.eq_str_bool (fin_bl I q (by simp))
  | int j=>obtain ⟨t',rfl⟩:=ry;exact PySem.EqMixed.eq_str_int (fin_bl I q (by simp))
  | str j=>obtain ⟨t',rfl⟩:=ry;exact eq_str (fin_bl I q dec_str)
  | _=>exact absurd (show false=true from hs) Bool.false_ne_true
 | byt i=>
  obtain ⟨t,rfl⟩:=rx
  cases y with
  | byt j=>obtain ⟨t',rfl⟩:=ry;exact PySem.W.eq_bytes (fin_bl I q dec_byt)
  | _=>exact absurd (show false=true from hs) Bool.false_ne_true
 | _=>cases y <;> exact absurd (show false=true from hs) Bool.false_ne_true
theorem op_lt:OpR X (compareOp .Lt) (rI0 fun i j=>.bl (decide (i < j))):=opB0 fun _ _ _ _ _ _ _ q=>lt_int q
theorem op_le:OpR X (compareOp .LtE) (rI0 fun i j=>.bl (decide (i≤j))):=opB0 fun _ _ _ _ _ _ _ q=>le_int q
theorem op_gt:OpR X (compareOp .Gt) (rI0 fun i j=>.bl (decide (j < i))):=opB0 fun _ _ _ _ _ _ _ q=>gt_int q
theorem op_ge:OpR X (compareOp .GtE) (rI0 fun i j=>.bl (decide (j≤i))):=opB0 fun _ _ _ _ _ _ _ q=>ge_int q
theorem OpR.or {f:Value→Value→Sem Value}{r r':R2} (h:OpR X f r) (h':OpR X f r'):OpR X f (fun x y H Q=>r x y H Q∨r' x y H Q):=by
 intro pins s σ H x y v u Q I rx ry q
 rcases q with q | q
 ·exact h pins s σ H x y v u Q I rx ry q
 ·exact h' pins s σ H x y v u Q I rx ry q
theorem pe_cmpR {op:CmpOp}{r:R2} (ho:OpR X (compareOp op) r) (ha:PE X a ta) (hb:PE X b tb) (hm:behindInMarks op b=false):PE X (.Compare a [op] [b] pos) (tOp r ta tb):=by
 intro pins s σ H Q I h
 exact wpAny_Compare1 (binT ha hb I h fun v u s2 x y H2 I2 rx ry q=>ho pins s2 σ H2 x y v u Q I2 rx ry q) hm
def tTest (t:TE):TT:=fun σ H Q=>t σ H fun x H'=>∃ k,x=.bl k∧Q k H'
theorem pt_cmpR {op:CmpOp}{r:R2} (ho:OpR X (compareOp op) r) (ha:PE X a ta) (hb:PE X b tb) (hm:behindInMarks op b=false):PT X (.Compare a [op] [b] pos) (tTest (tOp r ta tb)):=by
 intro pins s σ H Q I h
 refine wpAny_isTrue_Compare1 (thn (ha pins s σ H _ I h) fun v s1 ⟨x,H1,I1,r1,q1⟩=>thn (hb pins s1 σ H1 _ I1 q1) fun u s2 ⟨y,H2,I2,r2,q2⟩=>
  thn (ho pins s2 σ H2 x y v u _ I2 r1 r2 q2) fun c s3 ⟨z,H3,I3,r3,k,e,q3⟩=>?_) hm
 subst e
 cases r3
 exact wpAny_truthy_bool ⟨H3,I3,q3⟩
def tChain (r r':R2) (ta tb tc:TE):TE:=fun σ H Q=>ta σ H fun x H1=>tb σ H1 fun y H2=>r x y H2 fun z H3=>∃ k,z=.bl k ∧
 (if k=true then tc σ H3 fun w' H4=>r' y w' H4 Q else Q (.bl false) H3)
theorem pe_chain {op op':CmpOp}{r r':R2} (ho:OpR X (compareOp op) r) (ho':OpR X (compareOp op') r') (ha:PE X a ta) (hb:PE X b tb) (hc:PE X c tc)
  (hm:lastMarks [op,op'] [b,c]=false:=by with_unfolding_all rfl):PE X (.Compare a [op,op'] [b,c] pos) (tChain r r' ta tb tc):=by
 intro pins s σ H Q I h
 refine Compare_chain (thn (ha pins s σ H _ I h) fun v s1 ⟨x,H1,I1,r1,q1⟩=>chain_link (thn (hb pins s1 σ H1 _ I1 q1) fun u s2 ⟨y,H2,I2,r2,q2⟩=>
  thn (ho pins s2 σ H2 x y v u _ I2 r1 r2 q2) fun d s3 ⟨z,H3,I3,r3,k,e,q3⟩=>?_)) hm
 subst e
 cases r3
 refine wpAny_truthy_bool ?_
 cases k with
 | false=>exact ite_ff ⟨.bl false,H3,I3,rfl,q3⟩
 | true=>exact ite_tt (chain_last (thn (hc pins s3 σ H3 _ I3 q3) fun w' s4 ⟨z',H4,I4,r4,q4⟩=>ho' pins s4 σ H4 y z' u w' Q I4 r2 r4 q4))
theorem pt_chain {op op':CmpOp}{r r':R2} (ho:OpR X (compareOp op) r) (ho':OpR X (compareOp op') r') (ha:PE X a ta) (hb:PE X b tb) (hc:PE X c tc)
  (hm:lastMarks [op,op'] [b,c]=false:=by with_unfolding_all rfl):PT X (.Compare a [op,op'] [b,c] pos) (tTest (tChain r r' ta tb tc)):=by
 intro pins s σ H Q I h
 refine isTrue_chain (thn (ha pins s σ H _ I h) fun v s1 ⟨x,H1,I1,r1,q1⟩=>test_link (thn (hb pins s1 σ H1 _ I1 q1) fun u s2 ⟨y,H2,I2,r2,q2⟩=>
  thn (ho pins s2 σ H2 x y v u _ I2 r1 r2 q2) fun d s3 ⟨z,H3,I3,r3,k,e,q3⟩=>?_)) hm
 subst e
 cases r3
 refine wpAny_truthy_bool ?_
 cases k with
 | false=>
  obtain ⟨k',e',q'⟩:=q3
  cases e'
  exact ite_ff ⟨H3,I3,q'⟩
 | true=>
  refine ite_tt (test_last (thn (hc pins s3 σ H3 _ I3 q3) fun w' s4 ⟨z',H4,I4,r4,q4⟩=>thn (ho' pins s4 σ H4 y z' u w' _ I4 r2 r4 q4) fun d' s5 ⟨z2,H5,I5,r5,k2,e2,q5⟩=>?_))
  subst e2
  cases r5
  exact wpAny_truthy_bool ⟨H5,I5,q5⟩
theorem line63:(sizeLine:Nat) < 2 ^ 63:=by rw [sizeLine_eq];decide
theorem vals1 {x:V}{us:List Value} (r:Vals [x] us):∃ u,us=[u]∧RelV x u:=by
 cases r with
 | cons r1 r2=>cases r2;exact ⟨_,rfl,r1⟩
theorem vals2 {x y:V}{us:List Value} (r:Vals [x,y] us):∃ u w',us=[u,w']∧RelV x u∧RelV y w':=by
 cases r with
 | cons r1 r2=>
  cases r2 with
  | cons r3 r4=>cases r4;exact ⟨_,_,rfl,r1,r3⟩
theorem call_max2 (hc:X.calm=true):CallR X (.builtin "max") (fun xs H Q=>∃ i j,xs=[.int i,.int j]∧Q (.int (if j > i then j else i)) H):=by
 intro pins s σ H xs us Q I r h
 obtain ⟨i,j,rfl,q⟩:=h
 obtain ⟨u,w',rfl,⟨t,rfl⟩,⟨t',rfl⟩⟩:=vals2 r
 refine max_two_ints (I.ok.hd hc) fun h' tk k=>⟨_,H,I.kept k,?_,q⟩
 by_cases hj:j > i
 ·rw [if_pos hj,if_pos hj];exact ⟨_,rfl⟩
 ·rw [if_neg hj,if_neg hj];exact ⟨_,rfl⟩
theorem call_min2 (hc:X.calm=true):CallR X (.builtin "min") (fun xs H Q=>∃ i j,xs=[.int i,.int j]∧Q (.int (if j < i then j else i)) H):=by
 intro pins s σ H xs us Q I r h
 obtain ⟨i,j,rfl,q⟩:=h
 obtain ⟨u,w',rfl,⟨t,rfl⟩,⟨t',rfl⟩⟩:=vals2 r
 refine min_two_ints (I.ok.hd hc) fun h' tk k=>⟨_,H,I.kept k,?_,q⟩
 by_cases hj:j < i
 ·rw [if_pos hj,if_pos hj];exact ⟨_,rfl⟩
 ·rw [if_neg hj,if_neg hj];exact ⟨_,rfl⟩
theorem call_int1:CallR X (.type "int") (fun xs H Q=>(∃ i,xs=[.int i]∧Q (.int i) H)∨∃ k,xs=[.bl k]∧Q (.int (if k then 1 else 0)) H):=by
 intro pins s σ H xs us Q I r h
 rcases h with ⟨i,rfl,q⟩ | ⟨k,rfl,q⟩
 ·obtain ⟨u,rfl,t,rfl⟩:=vals1 r
  exact call_int_int ⟨.int i,H,I,⟨_,rfl⟩,q⟩
 ·obtain ⟨u,rfl,r1⟩:=vals1 r
  cases r1
  exact call_int_bool ⟨.int (if k then 1 else 0),H,I.tok _,⟨_,rfl⟩,q⟩
end
open PySem PySem.Spec PyProof.Rows
structure ObjM (h:Heap) (x dx C:Addr) (mA:Str→Option Value):Prop where
 obj:h.get? x=some (PySem.W.instObj C dx)
 ns:h.Ns1 dx mA
 ne:dx≠x
theorem lookIn_ns {h:Heap}{dx:Addr}{mA:Str→Option Value} (n:h.Ns1 dx mA):∃ od,h.get? dx=some od∧∀ name,PySem.W.lookIn name od=some (mA name):=by
 obtain ⟨o,es,ep,ho,hd,hk,_,hm⟩:=n
 refine ⟨o,ho,fun name=>?_⟩
 have e:=hm name
 unfold nsFind findBy at e
 rw [← Array.find?_toList] at e
 unfold PySem.W.lookIn
 rw [hd]
 dsimp only
 split
 ·rename_i y q
  rw [q] at e
  exact congrArg some e
 ·rename_i q
  rw [q] at e
  have a:es.toList.any (·.refKey)=false:=by
   rw [List.any_eq_false]
   intro y hy
   obtain ⟨z,t,hkey⟩:=hk y (Array.mem_toList_iff.mp hy)
   simp [DictEntry.refKey,hkey]
  have a':¬ es.toList.any (·.refKey)=true:=by rw [a];exact Bool.false_ne_true
  rw [if_neg a']
  exact congrArg some e
theorem ObjM.look {h:Heap}{x dx C:Addr}{mA:Str→Option Value} (I:ObjM h x dx C mA):∃ od,PySem.W.InstAt h x (PySem.W.instObj C dx) C (some od)∧∀ name,PySem.W.lookIn name od=some (mA name):=
 let ⟨od,ho,hl⟩:=lookIn_ns I.ns
 ⟨od,⟨I.obj,rfl,rfl,ho⟩,hl⟩
section
variable {prog:Program}{w:World}{A:Around}{E:Value→Shared→Prop}{s:Shared}{K:PySem.W.Frag}{x dx C f:Addr}{mA:Str→Option Value}{name:Str}{v:Value}
end
section
variable {P:Program}{w:World}{H H':Hp}{h h':Heap}{a C dx:Addr}{fs fs':List (Str×V)}
theorem ins_get (hok:HOk P w H h) (e:H a=some (.ins C dx fs)):∃ mA,ObjM h a dx C mA∧(∀ f,RelO (fs.lookup f) (mA f))∧PySem.Within mA (fs.map (·.1))∧fs.length≤1000∧H dx=some (.own a):=by
 obtain ⟨d,z,ne,ob,mA,n,r,q⟩:=(show ObjOk P w H h a (.ins C dx fs) from hok a _ e)
 exact ⟨mA,⟨ob,n,ne⟩,r,q,z,d⟩
end
structure Cls (K:PySem.W.Frag) (C:Addr):Prop where
 pg:PySem.W.plainGet K C Str.empty=true
 hd:PySem.W.hasDictIn K C=true
 po:PySem.W.plainOver K C=true
 sa:PySem.W.findIn K (.ref C) "__setattr__" = some (some (.builtin "object.__setattr__"))
theorem Cls.get {K:PySem.W.Frag}{C:Addr} (c:Cls K C) (f:Str):PySem.W.plainGet K C f=true:=c.pg
structure Con (K:PySem.W.Frag) (C:Addr) (f:Str) (v:V) (u:Value):Prop where
 at_:PySem.W.findIn K (.ref C) f=some (some u)
 rel:RelV v u
 get:PySem.W.specialIn K u "__get__" = some none
 cp:PySem.W.copiedNames.contains f=false
structure Meth (K:PySem.W.Frag) (C:Addr) (m:Str) (f:Addr):Prop where
 at_:PySem.W.findIn K (.ref C) m=some (some (.ref f))
 fn:PySem.W.isFn K (.ref f)=true
 kp:PySem.W.keepIn K (.ref f)=true
section
variable {X:Cx}{pins:List (Addr×Obj)}{σ:St}{H:Hp}{s:Shared}{a C dx:Addr}{fs:List (Str×V)}{f:Str}{v:V}{A:Around}{E:Value→Shared→Prop}
end
section
variable {X:Cx}{o e value:Expr}{f:Str}{pos pos' tpos:Pos}{ta tv:TE}
end
section
variable {X:Cx}{pins:List (Addr×Obj)}{σ:St}{H:Hp}{s:Shared}{A:Around}{E:Value→Shared→Prop}{Q:Value→Shared→Prop}{c:Value}{b:Bool}
inductive TyOf (K:PySem.W.Frag) (H:Hp):V→Value→Prop where
 | non:TyOf K H .non (.type "NoneType")
 | bl (x:Bool):TyOf K H (.bl x) (.type "bool")
 | int (i:Int):TyOf K H (.int i) (.type "int")
 | str (x:Str):TyOf K H (.str x) (.type "str")
 | flt (x:UInt64):TyOf K H (.flt x) (.type "float")
 | lst {a:Addr}{xs:List V} (e:H a=some (.lst xs)):TyOf K H (.ref a) (.type "list")
 | frz {a:Addr}{o:Obj}{xs:List V} (e:H a=some (.frz o (.lst xs))):TyOf K H (.ref a) (.type "list")
 | tup {a:Addr}{xs:List V} (e:H a=some (.tup xs)):TyOf K H (.ref a) (.type "tuple")
 | dK {a:Addr}{kvs:List (Key×V)} (e:H a=some (.dK kvs)):TyOf K H (.ref a) (.type "dict")
 | dT {a:Addr}{kvs:List (List Key×V)} (e:H a=some (.dT kvs)):TyOf K H (.ref a) (.type "dict")
 | ins {a C dx:Addr}{fs:List (Str×V)} (e:H a=some (.ins C dx fs)) (cl:Cls K C) (ha:PySem.W.findIn K (.ref C) "__class__" = some (some (.builtin "object.__class__")))
   (hn:PySem.W.specialIn K (.builtin "object.__class__") "__get__" = some (some (.builtin "getset_descriptor.__get__"))) (htk:PySem.W.takesIn K (.builtin "object.__class__")=some true)
   (hm:PySem.W.mroIn K C (.type "object")=some true):TyOf K H (.ref a) (.ref C)
theorem isinst_ok {x:V}{u t:Value} (I:Inv X pins σ H s) (rx:RelV x u) (ty:TyOf X.K H x t) (e:PySem.W.kitOne X.K t c=some b) (h:∀ tk,Q (.bool b) { s with toks:=tk }):
  wpAny (model X.prog X.w) A (call (.builtin "isinstance") [u,c]) Q E s:=by
 cases ty with
 | non=>cases (show u=Value.none from rx);exact PySem.W.kia_one PySem.W.kitx_none I.kIn True.intro e (fun z=>nomatch z) h
 | bl y=>cases (show u=Value.bool y from rx);exact PySem.W.kia_one PySem.W.kitx_bool I.kIn True.intro e (fun z=>nomatch z) h
 | int i=>obtain ⟨t,q⟩:=(show ∃ t,u=Value.int i t from rx);cases q;exact PySem.W.kia_one PySem.W.kitx_int I.kIn True.intro e (fun z=>nomatch z) h
 | str y=>obtain ⟨t,q⟩:=(show ∃ t,u=Value.str y t from rx);cases q;exact PySem.W.kia_one PySem.W.kitx_str I.kIn True.intro e (fun z=>nomatch z) h
 | flt y=>obtain ⟨t,q⟩:=(show ∃ t,u=Value.float y t from rx);cases q;exact PySem.W.kia_one PySem.W.kitx_float I.kIn True.intro e (fun z=>nomatch z) h
 | @lst a xs ea=>
  cases (show u=Value.ref a from rx)
  obtain ⟨_,_,n,_,h1⟩:=(show ObjOk X.prog X.w H s.heap a (.lst xs) from I.hok a _ ea)
  exact PySem.W.kia_one PySem.W.kitx_list I.kIn ⟨_,h1,rfl⟩ e (fun z=>nomatch z) h
 | @frz a ob xs ea=>
  cases (show u=Value.ref a from rx)
  obtain ⟨_,_,_,n,_,h1⟩:=(show ObjOk X.prog X.w H s.heap a (.frz ob (.lst xs)) from I.hok a _ ea)
  exact PySem.W.kia_one PySem.W.kitx_list I.kIn ⟨_,h1,rfl⟩ e (fun z=>nomatch z) h
 | @tup a xs ea=>
  cases (show u=Value.ref a from rx)
  obtain ⟨_,_,_,p⟩:=(show ObjOk X.prog X.w H s.heap a (.tup xs) from I.hok a _ ea)
  obtain ⟨o,h1,h2,_⟩:=p
  exact PySem.W.kia_one PySem.W.kitx_tuple I.kIn ⟨o,h1,h2⟩ e (fun z=>nomatch z) h
 | @dK a kvs ea=>
  cases (show u=Value.ref a from rx)
  obtain ⟨_,_,vs,_,p⟩:=(show ObjOk X.prog X.w H s.heap a (.dK kvs) from I.hok a _ ea)
  obtain ⟨o,es,ep,h1,h2,_⟩:=p
  exact PySem.W.kia_one PySem.W.kitx_dict I.kIn ⟨o,h1,h2.1⟩ e (fun z=>nomatch z) h
 | @dT a kvs ea=>
  cases (show u=Value.ref a from rx)
  obtain ⟨_,_,xs,_,o,es,ep,h1,h2,_⟩:=(show ObjOk X.prog X.w H s.heap a (.dT kvs) from I.hok a _ ea)
  exact PySem.W.kia_one PySem.W.kitx_dict I.kIn ⟨o,h1,h2.1⟩ e (fun z=>nomatch z) h
 | @ins a C dx fs ea cl ha hn htk hm=>
  cases (show u=Value.ref a from rx)
  obtain ⟨mA,O,_⟩:=ins_get I.hok ea
  obtain ⟨od,J,_⟩:=O.look
  exact PySem.W.kia_one (PySem.W.kitx_own (cl.get _) cl.hd ha hn htk hm) I.kIn J e (fun z=>nomatch z) h
end
open PySem PySem.Spec PyProof.Rows
structure Room (k:Nat) (A:Around):Prop where
 hd:A.handled=none
 dp:A.depth + 3 * k + 5 < recursionLimit
 un:A.units + 16 * k + 200 < cLine
 gd:A.guards=some []
theorem Room.mono {j k:Nat}{A:Around} (r:Room k A) (h:j≤k):Room j A:=⟨r.hd,by have:=r.dp;omega,by have:=r.un;omega,r.gd⟩
theorem Room.deeper {k:Nat}{A:Around} (r:Room (k + 1) A) (env:Env):Room k (A.deeper env):=
 ⟨r.hd,by have:=r.dp;show A.depth + 1 + 3 * k + 5 < _;omega,by have:=r.un;show A.units + 3 + 16 * k + 200 < _;omega,r.gd⟩
theorem Room.depth {k:Nat}{A:Around} (r:Room k A):A.depth < recursionLimit:=by have:=r.dp;omega
theorem Room.units {k:Nat}{A:Around} (r:Room k A):A.units + 64 < cLine:=by have:=r.un;omega
def tNil:TA:=fun _ H Q=>Q [] H
def tCons (ta:TE) (tr:TA):TA:=fun σ H Q=>ta σ H fun x H1=>tr σ H1 fun xs H2=>Q (x::xs) H2
section
variable {X:Cx}{e:Expr}{es:List Expr}{te:TE}{t:TA}{pos:Pos}
theorem pa_nil:PA X [] tNil:=fun _ _ _ _ H Q I h=>Calls.spliced_nil ⟨[],H,I,.nil,h⟩
theorem pa_cons (ha:PE X e te) (hr:PA X es t) (hs:starEach (e::es) X.env=(false,eval e X.env)::starEach es X.env:=by rfl):PA X (e::es) (tCons te t):=by
 intro pos pins s σ H Q I h
 rw [hs]
 show wpAny _ _ (spliced ((false,eval e X.env)::backTo pos (starEach es X.env))) _ _ s
 refine Calls.spliced_cons (thn (ha pins s σ H _ I h) fun u s1 ⟨x,H1,I1,r1,q1⟩=>?_)
 exact thn (hr pos pins s1 σ H1 _ I1 q1) fun us s2 ⟨xs,H2,I2,r2,q2⟩=>⟨x::xs,H2,I2,.cons r1 r2,q2⟩
def tTup (t:TA):TE:=fun σ H Q=>t σ H fun xs H1=>xs.length≤sizeLine∧∀ p,H1 p=none→Q (.ref p) (upd H1 p (.tup xs))
def tLst (t:TA):TE:=fun σ H Q=>t σ H fun xs H1=>xs.length≤sizeLine∧∀ p,H1 p=none→Q (.ref p) (upd H1 p (.lst xs))
theorem pe_tup {x1} (h:PA X es t):PE X (.Tuple es x1 pos) (tTup t):=by
 intro pins s σ H Q I hq
 refine wpAny_Tuple_spliced (thn (h pos pins s σ H _ I hq) fun us s1 ⟨xs,H1,I1,r,z,q⟩=>⟨by rw [← r.length];exact z,?_⟩)
 have hf:H1 s1.heap.objs.size=none:=I1.hok.fresh (Nat.le_refl _)
 refine ⟨.ref s1.heap.objs.size,upd H1 s1.heap.objs.size (.tup xs),I1.laid (t':=s1.toks) (fun b u e=>Heap.get?_push_of_some _ e) (Nat.le_refl _) ?_,rfl,q _ hf⟩
 exact ⟨z,us,r,⟨_,Heap.get?_push_size _ rfl,rfl,_,rfl⟩⟩
theorem pe_lst (h:PA X es t):PE X (.List es pos) (tLst t):=by
 intro pins s σ H Q I hq
 refine wpAny_List_spliced (thn (h pos pins s σ H _ I hq) fun us s1 ⟨xs,H1,I1,r,z,q⟩=>⟨by rw [← r.length];exact z,?_⟩)
 have hf:H1 s1.heap.objs.size=none:=I1.hok.fresh (Nat.le_refl _)
 refine ⟨.ref s1.heap.objs.size,upd H1 s1.heap.objs.size (.lst xs),I1.laid (t':=s1.toks) (fun b u e=>Heap.get?_push_of_some _ e) (Nat.le_refl _) ?_,rfl,q _ hf⟩
 exact ⟨z,us,0,r,Heap.get?_push_size _ rfl⟩
end
abbrev Sp:=List V→Hp→VK→XK→Prop
abbrev CXT:=List Env→Hp→Shared→XK→Value→Shared→Prop
structure Env0 (P:Program) (w:World) (K:PySem.W.Frag) (mg:Str→Option Value) (base:Heap) (A:Around) (outer:List Env) (s:Shared) (H:Hp):Prop where
 frames:A.frames=some outer
 mod:Mod K mg base
 bs:∀ b o,base.get? b=some o→s.heap.get? b=some o∧H b=none
 bsz:base.objs.size≤s.heap.objs.size
 funs:s.heap.FunFrames base outer
 frf:∀ b∈frs outer,H b=none
 hok:HOk P w H s.heap
 bare:AllBare s.gens
def CE (outer:List Env) (P:Program) (w:World) (H:Hp) (s:Shared) (Q:VK) (u:Value) (s':Shared):Prop:=
 ∃ v H',s'.os=s.os∧AllBare s'.gens∧Un (frs outer) [] H H' s.heap s'.heap∧HOk P w H' s'.heap∧RelV v u∧Q v H'
def CR (CX:CXT) (outer:List Env) (P:Program) (w:World) (H:Hp) (s:Shared) (Q:VK) (E:XK) (r:Result) (s':Shared):Prop:=
 match r with
 | .ok (.ret u)=>CE outer P w H s Q u s'
 | .ok _=>False
 | .error e=>CX outer H s E e s'
structure FnOk (P:Program) (w:World) (K:PySem.W.Frag) (mg:Str→Option Value) (base:Heap) (CX:CXT) (k:Nat) (f:Addr) (fd:FuncData) (ps:List Str) (sp:Sp):Prop where
 len:∀ vs H Q E,sp vs H Q E→vs.length=ps.length
 run:∀ (A:Around) (outer:List Env) (s:Shared) (H:Hp) (args:Args) (us:List Value) (vs:List V) (Q:VK) (E:XK),Room k A→Env0 P w K mg base A outer s H→BindsTo s fd args (ps.zip us)→Vals vs us→sp vs H Q E →
  codeAny (model P w) A (.call (.ref f) args) (CR CX outer P w H s Q E) s
theorem FnOk.mono {P:Program}{w:World}{K:PySem.W.Frag}{mg:Str→Option Value}{base:Heap}{CX:CXT}{j k:Nat}{f:Addr}{fd:FuncData}{ps:List Str}{sp:Sp} (F:FnOk P w K mg base CX j f fd ps sp) (h:j≤k):
  FnOk P w K mg base CX k f fd ps sp:=⟨F.len,fun A outer s H args us vs Q E hr=>F.run A outer s H args us vs Q E (hr.mono h)⟩
section
variable {X:Cx}{pins:List (Addr×Obj)}{σ:St}{H:Hp}{s s':Shared}
theorem Inv.env0 (I:Inv X pins σ H s):Env0 X.prog X.w X.K X.mg X.base X.A X.stack s H:=
 ⟨I.ok.frames,I.ok.mod,I.bs,Nat.le_trans I.ok.bsz I.sz,I.stack,I.stkFree,I.hok,I.bare⟩
theorem Inv.after {Q:VK}{u:Value} (I:Inv X pins σ H s) (h:CE X.stack X.prog X.w H s Q u s'):EP X pins σ Q u s':=by
 obtain ⟨v,H',os,bare,un,hok,r,q⟩:=h
 obtain ⟨hh,g,d,t,os'⟩:=s'
 obtain rfl:os'=s.os:=os
 exact ⟨v,H',I.call (h':=hh) (g':=g) (d':=d) (t':=t) (ch:=[]) un hok bare (fun b z=>absurd z (by simp)),r,q⟩
end
def tCall (sp:Sp) (dvs:List V) (E:XK) (t:TA):TE:=fun σ H Q=>t σ H fun vs H1=>sp (vs++dvs) H1 Q E
def Binds (K:PySem.W.Frag) (fd:FuncData) (ps:List Str) (ds:List Value):Prop:=
 ∀ (s:Shared) (us:List Value),K.In s.heap→(us++ds).length=ps.length→BindsTo s fd ⟨us,[]⟩ (ps.zip (us++ds))
theorem Binds.all {K:PySem.W.Frag}{fd:FuncData}{ps:List Str} (h:∀ us:List Value,us.length=ps.length→bindArgs fd ⟨us,[]⟩=pure (ps.zip us)):Binds K fd ps []:=fun s us _ hl=>by
 rw [List.append_nil] at hl ⊢
 exact .of_eq (h us hl)
def Passes (CX:CXT) (X:Cx) (E:XK):Prop:=∀ (pins:List (Addr×Obj)) (σ:St) (H:Hp) (s:Shared) (e:Value) (s':Shared),Inv X pins σ H s→CX X.stack H s E e s'→X.xe e s'
section
variable {X:Cx}{CX:CXT}{k:Nat}{f C:Addr}{fd:FuncData}{ps:List Str}{sp:Sp}{dvs:List V}{ds:List Value}{E:XK}{x m:Str}{p pos apos:Pos}{e o:Expr}{es:List Expr}{ta:TE}{t:TA}
theorem run_fn {pins:List (Addr×Obj)}{σ:St}{H:Hp}{s:Shared}{Q:VK}{us:List Value}{vs:List V} (F:FnOk X.prog X.w X.K X.mg X.base CX k f fd ps sp) (hr:Room k X.A) (hb:Binds X.K fd ps ds) (hd:Vals dvs ds) (hx:Passes CX X E)
  (I:Inv X pins σ H s) (r:Vals vs us) (h:sp (vs++dvs) H Q E):wpAny (model X.prog X.w) X.A (call (.ref f) us) (EP X pins σ Q) X.xe s:=by
 have r2:Vals (vs++dvs) (us++ds):=r.append hd
 have hl:(us++ds).length=ps.length:=by rw [← r2.length];exact F.len _ _ _ _ h
 refine wpAny_call (codeAny_mono (F.run X.A X.stack s H ⟨us,[]⟩ (us++ds) (vs++dvs) Q E hr I.env0 (hb s us I.kIn hl) r2 h) fun r s' hq=>?_)
 cases r with
 | error e=>exact hx pins σ H s e s' I hq
 | ok fl=>
  cases fl with
  | ret u=>exact I.after hq
  | next=>exact False.elim hq
  | brk=>exact False.elim hq
  | cont=>exact False.elim hq
theorem pe_call (F:FnOk X.prog X.w X.K X.mg X.base CX k f fd ps sp) (hr:Room k X.A) (hg:Gl X x) (hm:X.mg x=some (.ref f)) (hk:PySem.W.keepIn X.K (.ref f)=true) (hb:Binds X.K fd ps ds) (hd:Vals dvs ds) (hx:Passes CX X E)
  (ha:PA X (e::es) t) (hdb:(x == ("__debug__" : Str))=false:=by decide) (he:starEach (e::es) X.env=(false,eval e X.env)::starEach es X.env:=by rfl) (hpl:(backTo pos (starEach es X.env)).any (·.1)=false:=by rfl):
  PE X (.Call (.Name x p) (e::es) [] pos) (tCall sp dvs E t):=by
 intro pins s σ H Q I h
 refine wpAny_Call_Name_kw (ld_glob I hg hm ?_ hdb)
 refine PySem.W.callWith_K (h₀:=X.base) I.ok.mod.kin hk (thn (ha pos pins s σ H _ I h) fun us s1 ⟨vs,H1,I1,r,q⟩=>⟨I1.kIn,?_⟩) he hpl
 exact run_fn F hr hb hd hx I1 r q
structure Mk (K:PySem.W.Frag) (C f:Addr):Prop where
 makes:PySem.W.makesIn K C=true
 init:PySem.W.findIn K (.ref C) "__init__" = some (some (.ref f))
 fn:PySem.W.isFn K (.ref f)=true
 kp:PySem.W.keepIn K (.ref C)=true
end
section
variable {X:Cx}{CX:CXT}{k:Nat}{f C:Addr}{fd:FuncData}{ps ks:List Str}{sp:Sp}{E:XK}{x m:Str}{p pos apos kpos:Pos}{e o:Expr}{es:List Expr}{kws:List Keyword}{te ta:TE}{t tk:TA}{nm:Option Str}
structure KBinds (K:PySem.W.Frag) (fd:FuncData) (ps ks:List Str) (g:List Value→List Value→List Value) (gV:List V→List V→List V):Prop where
 to:∀ (s:Shared) (us ws:List Value),K.In s.heap→(g us ws).length=ps.length→BindsTo s fd ⟨us,ks.zip ws⟩ (ps.zip (g us ws))
 rel:∀ {vs:List V}{us:List Value}{zs:List V}{ws:List Value},Vals vs us→Vals zs ws→Vals (gV vs zs) (g us ws)
variable {g:List Value→List Value→List Value}{gV:List V→List V→List V}
end
structure FnScope (N P:List Str) (sc:Scope):Prop where
 kind:sc.kind=.function
 co:sc.isCoroutine=false
 gen:sc.isGenerator=false
 nd:N.Nodup
 pre:N.take P.length=P
 par:∀ x∈P,sc.names.lookup x=some .local∨sc.names.lookup x=some .cell
 nofree:∀ y∈sc.names,y.2≠.free
theorem bindL_out {kindOf:Str→Option NameKind}{x:Str}:∀ {binds:List (Str×Value)}{m:Str→Option Value},(∀ v,(x,v)∉binds)→bindL kindOf binds m x=m x
 | [],_,_=>rfl
 | (n,v)::r,m,h=>by
  unfold bindL
  rw [bindL_out fun w hw=>h w (List.mem_cons_of_mem _ hw)]
  split
  ·have:x≠n:=by rintro rfl;exact h v List.mem_cons_self
   simp [this]
  ·rfl
theorem bindC_out {kindOf:Str→Option NameKind}{x:Str}:∀ {binds:List (Str×Value)}{m:Str→Option Value},(∀ v,(x,v)∉binds)→bindC kindOf binds m x=m x
 | [],_,_=>rfl
 | (n,v)::r,m,h=>by
  unfold bindC
  rw [bindC_out fun w hw=>h w (List.mem_cons_of_mem _ hw)]
  split
  ·rfl
  ·have:x≠n:=by rintro rfl;exact h v List.mem_cons_self
   simp [this]
theorem bindL_get {kindOf:Str→Option NameKind}{x:Str}{v:Value}:∀ {P:List Str}{vs:List Value}{i:Nat}{m:Str→Option Value},P.Nodup→P[i]?=some x→vs[i]?=some v→kindOf x=some .local →
  bindL kindOf (P.zip vs) m x=some v
 | [],_,_,_,_,h,_,_=>by simp at h
 | _::_,[],_,_,_,_,h,_=>by simp at h
 | p::P,w::vs,0,m,nd,h1,h2,hk=>by
  simp at h1 h2;subst h1;subst h2
  show bindL kindOf ((p,w)::P.zip vs) m p=_
  unfold bindL
  rw [bindL_out fun v hv=>(List.nodup_cons.mp nd).1 (List.of_mem_zip hv).1,if_pos hk]
  simp
 | p::P,w::vs,i + 1,m,nd,h1,h2,hk=>by
  show bindL kindOf ((p,w)::P.zip vs) m x=_
  unfold bindL
  exact bindL_get (i:=i) (List.nodup_cons.mp nd).2 (by simpa using h1) (by simpa using h2) hk
theorem bindC_get {kindOf:Str→Option NameKind}{x:Str}{v:Value}:∀ {P:List Str}{vs:List Value}{i:Nat}{m:Str→Option Value},P.Nodup→P[i]?=some x→vs[i]?=some v→kindOf x≠some .local →
  bindC kindOf (P.zip vs) m x=some v
 | [],_,_,_,_,h,_,_=>by simp at h
 | _::_,[],_,_,_,_,h,_=>by simp at h
 | p::P,w::vs,0,m,nd,h1,h2,hk=>by
  simp at h1 h2;subst h1;subst h2
  show bindC kindOf ((p,w)::P.zip vs) m p=_
  unfold bindC
  rw [bindC_out fun v hv=>(List.nodup_cons.mp nd).1 (List.of_mem_zip hv).1,if_neg hk]
  simp
 | p::P,w::vs,i + 1,m,nd,h1,h2,hk=>by
  show bindC kindOf ((p,w)::P.zip vs) m x=_
  unfold bindC
  exact bindC_get (i:=i) (List.nodup_cons.mp nd).2 (by simpa using h1) (by simpa using h2) hk
def start (N:List Str) (vs:List V):St:=vs.map some++List.replicate (N.length - vs.length) none
def cxOf (CX:CXT) (P:Program) (w:World) (K:PySem.W.Frag) (mg:Str→Option Value) (base:Heap) (N:List Str) (qual:Str) (scope:Scope) (f:Addr) (cd:Value) (A:Around) (outer:List Env) (s:Shared) (H:Hp) (E:XK):Cx where
 prog:=P
 w:=w
 K:=K
 mg:=mg
 base:=base
 A:=A.deeper (envOfC qual scope s.heap.objs.size f cd)
 N:=N
 s₀:=s
 H₀:=H
 env:=envOfC qual scope s.heap.objs.size f cd
 outer:=outer
 stack:=envOfC qual scope s.heap.objs.size f cd::outer
 ex:=[]
 calm:=true
 fn:=fun _=>true
 pn:=[]
 xe:=fun e s'=>wpAny (model P w) (A.deeper (envOfC qual scope s.heap.objs.size f cd)) (leaving (envOfC qual scope s.heap.objs.size f cd) e) (fun _ s''=>CX outer H s E e s'') (fun e' s''=>CX outer H s E e' s'') s'
theorem cell_has {sc:Scope}{n:Nat}{x:Str} (h:sc.names.lookup x=some .cell):∃ c,(cellsFrom n sc.names []).lookup x=some c:=by
 have q:=PySem.W.cellsFrom_some sc.names n [] (.inl h)
 exact Option.isSome_iff_exists.mp q
theorem inv_start {CX:CXT}{P:Program}{w:World}{K:PySem.W.Frag}{mg:Str→Option Value}{base:Heap}{N ps:List Str}{qual:Str}{scope:Scope}{f:Addr}{cd:Value}{A:Around}{outer:List Env}{s s1:Shared}{H:Hp}{E:XK}{us:List Value}{vs:List V}
  (S:FnScope N ps scope) (hd:A.handled=none) (e0:Env0 P w K mg base A outer s H) (hl:vs.length=ps.length) (r:Vals vs us)
  (x:InCallC s s.heap.objs.size (bindL (envOfC qual scope s.heap.objs.size f cd).kindOf (ps.zip us) fun _=>none) (cellsFrom (s.heap.objs.size + 1) scope.names []) (bindC (envOfC qual scope s.heap.objs.size f cd).kindOf (ps.zip us) fun _=>none) s1):
  Inv (cxOf CX P w K mg base N qual scope f cd A outer s H E) [] (start N vs) H s1:=by
 have hpl:ps.length≤N.length:=by have:=congrArg List.length S.pre;rw [List.length_take] at this;omega
 obtain ⟨h1,tk,rfl,hk⟩:=x.done
 have noA:∀ b:Addr,b∉(cxOf CX P w K mg base N qual scope f cd A outer s H E).ex:=fun b z=>absurd (show b∈([]:List Addr) from z) (by simp)
 refine ⟨⟨e0.mod,S.kind,rfl,rfl,Nat.le_refl _,fun y z c h1 h2=>?_,fun y hy=>?_,fun y c _ h=>?_,fun _=>hd,Around.frames_deeper e0.frames,.inr ⟨rfl,rfl⟩,fun b z=>absurd z (noA b),e0.bs,e0.bsz,fun b _ _=>noA b,fun b z=>absurd z (noA b),e0.funs,e0.frf⟩,
  rfl,e0.bare,Un.kept hk,⟨_,x.toInCall.ns,fun i y v h1 h2 h3=>?_⟩,fun y c h=>⟨_,x.cell y c h⟩,e0.hok.fresh (Nat.le_refl _),fun y c h=>?_,fun p hp=>absurd (show p∈([]:List (Addr×Obj)) from hp) (by simp),e0.hok.kept hk,?_⟩
 ·exact name_of_addr x.apart (PySem.mem_of_lookup h1) (PySem.mem_of_lookup h2)
 ·have hy:scope.names.lookup y=some .cell∨scope.names.lookup y=some .free:=hy
  rcases hy with hy | hy
  ·exact cell_has hy
  ·exact absurd rfl (S.nofree _ (PySem.mem_of_lookup hy))
 ·exact Nat.le_of_lt (x.above y c (PySem.mem_of_lookup h))
 ·have hi:i < vs.length:=by
   unfold start at h2
   by_cases hi:i < vs.length
   ·exact hi
   ·rw [List.getElem?_append_right (by simpa using hi)] at h2
    rw [List.getElem?_replicate] at h2
    split at h2 <;> cases h2
  have ha:vs[i]?=some v:=by
   unfold start at h2
   rw [List.getElem?_append_left (by simpa using hi),List.getElem?_map] at h2
   cases e:vs[i]? with
   | none=>rw [e] at h2;cases h2
   | some a=>rw [e] at h2;cases h2;rfl
  obtain ⟨u,hu,rv⟩:=r.get ha
  have hp:ps[i]?=some y:=by
   rw [← S.pre,List.getElem?_take_of_lt (by omega)];exact h1
  have ndP:ps.Nodup:=by rw [← S.pre];exact S.nd.sublist (List.take_sublist _ _)
  refine ⟨u,rv,?_⟩
  rcases S.par y (List.mem_of_getElem? hp) with k | k
  ·exact .inl ⟨k,bindL_get ndP hp hu k⟩
  ·obtain ⟨c,e⟩:=cell_has (n:=s.heap.objs.size + 1) k
   refine .inr ⟨.inl k,c,e,?_⟩
   have q:=x.cell y c e
   rw [bindC_get ndP hp hu (by show scope.names.lookup y≠_;rw [k];decide)] at q
   exact q
 ·exact e0.hok.fresh (Nat.le_of_lt (x.above y c (PySem.mem_of_lookup h)))
 ·unfold start
  show _=N.length
  rw [List.length_append,List.length_map,List.length_replicate]
  omega
theorem fn_of {CX:CXT}{P:Program}{w:World}{K:PySem.W.Frag}{mg:Str→Option Value}{base:Heap}{k:Nat}{f:Addr}{name qual:Str}{params:Arguments}{body:List Stmt}{scope:Scope}{dV kV doc pm cdv ct oc:Value}{an od:Option Addr}
  {osl:Array (Option Value)}{N ps:List Str}{sp:Sp} (lk:K.lookup f=some ⟨oc,od,.func (PySem.W.fnOf name qual params body scope dV kV doc pm an cdv ct),osl⟩) (hcd:PySem.W.codeIn K cdv qual=true) (S:FnScope N ps scope)
  (len:∀ vs H Q E,sp vs H Q E→vs.length=ps.length)
  (hbody:∀ (A:Around) (outer:List Env) (s:Shared) (H:Hp) (vs:List V) (Q:VK) (E:XK),Room k (A.deeper (envOfC qual scope s.heap.objs.size f cdv))→sp vs H Q E →
   ∃ t,PSs (cxOf CX P w K mg base N qual scope f cdv A outer s H E) body t∧t { nx:=fun _ H'=>Q .non H',rt:=Q } (start N vs) H):
  FnOk P w K mg base CX (k + 1) f (PySem.W.fnOf name qual params body scope dV kV doc pm an cdv ct) ps sp:=by
 refine ⟨len,fun A outer s H args us vs Q E hr e0 hb r hsp=>?_⟩
 have hl:=len _ _ _ _ hsp
 have KX:K.In s.heap:=e0.mod.kin.keeps fun b o e=>(e0.bs b o e).1
 have lim:s.heap.NoLimit:=e0.mod.nolimit.keeps fun b o e=>(e0.bs b o e).1
 have hkind:∀ y∈ps.zip us,scope.names.lookup y.1=some .local∨(scope.names.lookup y.1=some .cell∧((cellsFrom (s.heap.objs.size + 1) scope.names []).lookup y.1).isSome=true):=fun ⟨n,v⟩ hy=>by
  rcases S.par n (List.of_mem_zip hy).1 with q | q
  ·exact .inl q
  ·exact .inr ⟨q,PySem.W.cellsFrom_some _ _ _ (.inl q)⟩
 refine codeAny_call_function hr.depth (KX _ _ lk) rfl S.co S.gen rfl (PySem.W.codeRec_of KX hcd) (hb _ _ _ _ ?_)
 refine wpAny_newFunctionEnv_cells S.kind hkind fun env he s1 x=>?_
 subst he
 refine ⟨lim.keeps x.toInCall.keep,codeAny_func ?_⟩
 obtain ⟨t,ht,hq⟩:=hbody A outer s H vs Q E (hr.deeper _) hsp
 have I:Inv (cxOf CX P w K mg base N qual scope f cdv A outer s H E) [] (start N vs) H s1:=inv_start S hr.hd e0 hl r x
 refine wpAny_mono (ht [] s1 (start N vs) H _ I hq) (fun fl s' hs=>?_) fun e s' hs=>hs
 have fin:∀ {σ':St}{H':Hp}{v:V}{u:Value},Inv (cxOf CX P w K mg base N qual scope f cdv A outer s H E) [] σ' H' s'→RelV v u→Q v H'→CE outer P w H s Q u s':=
  fun {σ' H' v u} J rv q=>⟨v,H',J.os,J.bare,J.base,J.hok,rv,q⟩
 cases fl with
 | ret u=>
  obtain ⟨v,σ',H',J,rv,q⟩:=hs
  exact fin J rv q
 | next=>
  obtain ⟨σ',H',J,q⟩:=hs
  exact fin (v:=V.non) (u:=Value.none) J rfl q
 | brk=>
  obtain ⟨_,_,_,q⟩:=hs
  exact False.elim q
 | cont=>
  obtain ⟨_,_,_,q⟩:=hs
  exact False.elim q
open PySem PySem.Spec PyProof.Rows
section
variable {X:Cx}{x:Str}{p pos:Pos}{e:Expr}{es:List Expr}{t:TA}{id T:String}{r:List V→Hp→VK→Prop}
def tCB (r:List V→Hp→VK→Prop) (t:TA):TE:=fun σ H Q=>t σ H fun vs H1=>r vs H1 Q
theorem pe_callB (hc:CallR X (.builtin id) r) (hg:Gl X x) (hm:X.mg x=none) (hv:bootBuiltins x=some (.builtin id)) (ha:PA X (e::es) t) (hn:x ≠ "__name__" := by decide) (hdb:(x == ("__debug__" : Str))=false:=by decide)
  (he:starEach (e::es) X.env=(false,eval e X.env)::starEach es X.env:=by rfl) (hpl:(backTo pos (starEach es X.env)).any (·.1)=false:=by rfl):PE X (.Call (.Name x p) (e::es) [] pos) (tCB r t):=by
 intro pins s σ H Q I h
 refine wpAny_Call_Name_kw (ld_blt I hg hm hv ?_ hn hdb)
 exact PyProof.Rows.callWith_builtin1 (thn (ha pos pins s σ H _ I h) fun us s1 ⟨vs,H1,I1,r1,q1⟩=>hc pins s1 σ H1 vs us Q I1 r1 q1) he hpl
theorem pe_callTy (hc:CallR X (.type T) r) (hg:Gl X x) (hm:X.mg x=none) (hv:bootBuiltins x=some (.type T)) (ha:PA X (e::es) t) (hn:x ≠ "__name__" := by decide) (hdb:(x == ("__debug__" : Str))=false:=by decide)
  (he:starEach (e::es) X.env=(false,eval e X.env)::starEach es X.env:=by rfl) (hpl:(backTo pos (starEach es X.env)).any (·.1)=false:=by rfl):PE X (.Call (.Name x p) (e::es) [] pos) (tCB r t):=by
 intro pins s σ H Q I h
 refine wpAny_Call_Name_kw (ld_blt I hg hm hv ?_ hn hdb)
 exact PyProof.Rows.callWith_type1 (thn (ha pos pins s σ H _ I h) fun us s1 ⟨vs,H1,I1,r1,q1⟩=>hc pins s1 σ H1 vs us Q I1 r1 q1) he hpl
end
end L2
namespace HT
open PySem PyProof.Rows
section
open PySem.SeqAt
open PySem.AutoSeq1 (wpAny_loadPart')
open PySem.MeetsSeq PySem.MeetsSeq2 PySem.MeetsSeq3
end
section
variable {prog:Program}{w:World}{A:Around}{E:Value→Shared→Prop}{s:Shared}
def sIx (n d:Nat):Option Int→Nat
 | none=>d
 | some v=>if v < 0 then (v + (n:Int)).toNat else min v.toNat n
theorem sIx_none (n d:Nat):sIx n d none=d:=rfl
theorem sIx_nat (n d k:Nat):sIx n d (some (k:Int))=min k n:=by
 show (if (k:Int) < 0 then ((k:Int) + (n:Int)).toNat else min (k:Int).toNat n)=min k n
 rw [if_neg (by omega),Int.toNat_natCast]
end
end HT
namespace L2
open PySem PySem.Spec PyProof.Rows
abbrev TO:=St→Hp→(Option Int→Hp→Prop)→Prop
def PO (X:Cx) (e:Option Expr) (t:TO):Prop:=
 ∀ (pins:List (Addr×Obj)) (s:Shared) (σ:St) (H:Hp) (Q:Option Int→Hp→Prop),Inv X pins σ H s→t σ H Q →
  wpAny (model X.prog X.w) X.A (evalPart e X.env) (fun u s'=>∃ o H',Inv X pins σ H' s'∧IsPart u o∧Q o H') X.xe s
def tNoPart:TO:=fun _ H Q=>Q none H
def tPart (t:TE):TO:=fun σ H Q=>t σ H fun x H1=>∃ i,x=.int i∧Q (some i) H1
section
variable {X:Cx}{e:Expr}{te:TE}{lo hi:Option Expr}{tl th:TO}{pos p2:Pos}
theorem po_none:PO X none tNoPart:=by
 intro pins s σ H Q I h
 rw [evalPart_none]
 exact wpAny_pure ⟨none,H,I,.none,h⟩
theorem po_some (h:PE X e te):PO X (some e) (tPart te):=by
 intro pins s σ H Q I hw
 rw [evalPart_some]
 refine thn (h pins s σ H _ I hw) fun u s1 ⟨x,H1,I1,r1,q1⟩=>?_
 obtain ⟨i,rfl,q⟩:=q1
 obtain ⟨t,rfl⟩:=r1
 exact ⟨some i,H1,I1,.int i t,q⟩
def SlR (X:Cx) (r:V→Option Int→Option Int→Hp→VK→Prop):Prop:=
 ∀ (pins:List (Addr×Obj)) (s:Shared) (σ:St) (H:Hp) (x:V) (v vl vu:Value) (lo hi:Option Int) (sl:Addr) (Q:VK),Inv X pins σ H s→RelV x v→s.heap.IsSliceOf sl vl vu .none→IsPart vl lo→IsPart vu hi→r x lo hi H Q →
  ∃ T id,typeLookup (.type T) "__getitem__" = pure (some (.builtin id))∧s.TypeIs v T∧wpAny (model X.prog X.w) X.A (getItem v (.ref sl)) (EP X pins σ Q) X.xe s
def tSl (r:V→Option Int→Option Int→Hp→VK→Prop) (te:TE) (tl th:TO):TE:=fun σ H Q=>te σ H fun x H1=>tl σ H1 fun l H2=>th σ H2 fun u H3=>r x l u H3 Q
theorem pe_slice {r:V→Option Int→Option Int→Hp→VK→Prop} (hr:SlR X r) (he:PE X e te) (hl:PO X lo tl) (hu:PO X hi th):PE X (.Subscript e (.Slice lo hi none p2) pos) (tSl r te tl th):=by
 intro pins s σ H Q I h
 refine Subscript_ (thn (he pins s σ H _ I h) fun v s1 ⟨x,H1,I1,r1,q1⟩=>?_)
 refine wpAny_Slice (thn (hl pins s1 σ H1 _ I1 q1) fun vl s2 ⟨l,H2,I2,pl,q2⟩=>thn (hu pins s2 σ H2 _ I2 q2) fun vu s3 ⟨u,H3,I3,pu,q3⟩=>?_)
 rw [evalPart_none]
 refine wpAny_pure ?_
 have I4:Inv X pins σ H3 { s3 with heap:=s3.heap.push { cls:=.type "slice",data:=.fields #[vl,vu,.none] } }:=I3.kept (t':=s3.toks) fun b ob q=>Heap.get?_push_of_some _ q
 obtain ⟨T,id,hT,ht,hg⟩:=hr pins { s3 with heap:=s3.heap.push { cls:=.type "slice",data:=.fields #[vl,vu,.none] } } σ H3 x v vl vu l u s3.heap.objs.size Q I4 r1 (Heap.IsSliceOf.new ..) pl pu q3
 show wpAny (model X.prog X.w) X.A (subscriptTail e (.Slice lo hi none p2) v (.ref s3.heap.objs.size)) (EP X pins σ Q) X.xe { s3 with heap:=s3.heap.push { cls:=.type "slice",data:=.fields #[vl,vu,.none] } }
 exact tail_any (ops:=[.ref s3.heap.objs.size,v]) ht hT hg (by with_unfolding_all rfl)
def cutV (xs:List V) (lo hi:Option Int):List V:=(xs.drop (HT.sIx xs.length 0 lo)).take (HT.sIx xs.length xs.length hi - HT.sIx xs.length 0 lo)
theorem cutV_length (xs:List V) (lo hi:Option Int):(cutV xs lo hi).length≤xs.length:=by
 unfold cutV
 rw [List.length_take,List.length_drop]
 omega
end
open PySem PySem.Spec PyProof.Rows
def ixN (n:Nat) (i:Int):Option Nat:=if 0≤i then (if i < n then some i.toNat else none) else if -(n:Int)≤i then some (i + n).toNat else none
def atI {α:Type} (xs:List α) (i:Int):Option α:=(ixN xs.length i).bind fun j=>xs[j]?
theorem ixN_seq {n:Nat}{i:Int}{j:Nat} (h:ixN n i=some j):seqIndex? i n=some j∧j < n∧-(n:Int)≤i∧i < n:=by
 unfold ixN at h
 by_cases h0:0≤i
 ·rw [if_pos h0] at h
  by_cases h1:i < n
  ·rw [if_pos h1] at h
   have e:i.toNat=j:=Option.some.inj h
   exact ⟨by rw [seqIndex_of h0 h1,e],by omega,by omega,h1⟩
  ·rw [if_neg h1] at h;cases h
 ·rw [if_neg h0] at h
  by_cases h1:-(n:Int)≤i
  ·rw [if_pos h1] at h
   have e:(i + n).toNat=j:=Option.some.inj h
   exact ⟨by rw [seqIndex_neg (by omega) h1,e],by omega,h1,by omega⟩
  ·rw [if_neg h1] at h;cases h
theorem atI_get {α:Type}{xs:List α}{i:Int}{v:α} (h:atI xs i=some v):∃ j,seqIndex? i xs.length=some j∧xs[j]?=some v∧j < xs.length∧-(xs.length:Int)≤i∧i < xs.length:=by
 unfold atI at h
 cases e:ixN xs.length i with
 | none=>rw [e] at h;cases h
 | some j=>
  rw [e] at h
  obtain ⟨h1,h2,h3,h4⟩:=ixN_seq e
  exact ⟨j,h1,h,h2,h3,h4⟩
theorem atI_nat {α:Type}{xs:List α}{j:Nat}{v:α} (h:xs[j]?=some v):atI xs (j:Int)=some v:=by
 have hj:j < xs.length:=(List.getElem?_eq_some_iff.mp h).1
 have e:ixN xs.length (j:Int)=some j:=by
  unfold ixN
  rw [if_pos (by omega),if_pos (by omega)];simp
 unfold atI;rw [e];exact h
theorem atI_last {α:Type} (xs:List α) (v:α):atI (xs++[v]) (-1)=some v:=by
 have hl:(xs++[v]).length=xs.length + 1:=by simp
 have e:ixN (xs++[v]).length (-1)=some xs.length:=by
  unfold ixN
  rw [hl,if_neg (by decide),if_pos (by omega)]
  congr 1
  omega
 unfold atI
 rw [e]
 show (xs++[v])[xs.length]?=some v
 simp
def PlainIx (b:Expr):Prop:=∀ o i,subscripted b false o i=operate [o,i] (getItem o i)
def IxR (X:Cx) (r:R2):Prop:=
 ∀ (value slice:Expr) (pins:List (Addr×Obj)) (s:Shared) (σ:St) (H:Hp) (x y:V) (v u:Value) (Q:VK),Inv X pins σ H s→RelV x v→RelV y u→r x y H Q →
  subscripted slice false v u=operate [v,u] (getItem v u)→wpAny (model X.prog X.w) X.A (subscriptTail value slice v u) (EP X pins σ Q) X.xe s
def MtR (X:Cx) (id:String) (r:V→List V→Hp→VK→Prop):Prop:=
 ∀ (pins:List (Addr×Obj)) (s:Shared) (σ:St) (H:Hp) (x:V) (xs:List V) (v:Value) (us:List Value) (Q:VK),Inv X pins σ H s→RelV x v→Vals xs us→r x xs H Q →
  wpAny (model X.prog X.w) X.A (call (.builtin id) (v::us)) (EP X pins σ Q) X.xe s
section
variable {X:Cx}{a b:Expr}{ta tb:TE}{pos:Pos}
theorem IxR.or {r r':R2} (h:IxR X r) (h':IxR X r'):IxR X (fun x y H Q=>r x y H Q∨r' x y H Q):=by
 intro value slice pins s σ H x y v u Q I rx ry q hs
 rcases q with q | q
 ·exact h value slice pins s σ H x y v u Q I rx ry q hs
 ·exact h' value slice pins s σ H x y v u Q I rx ry q hs
theorem pe_ix {r:R2} (hr:IxR X r) (ha:PE X a ta) (hb:PE X b tb) (hs:PlainIx b):PE X (.Subscript a b pos) (tOp r ta tb):=by
 intro pins s σ H Q I h
 exact Subscript_ (binT ha hb I h fun v u s2 x y H2 I2 rx ry q=>hr a b pins s2 σ H2 x y v u Q I2 rx ry q (hs _ _))
def rIxL (K:PySem.W.Frag):R2:=fun x y H Q=>∃ p xs i v,x=.ref p∧y=.int i∧SqL K H p xs∧atI xs i=some v∧Q v H
def rIxT (K:PySem.W.Frag):R2:=fun x y H Q=>∃ p xs i v,x=.ref p∧y=.int i∧SqT K H p xs∧atI xs i=some v∧Q v H
def rIxS:R2:=fun x y H Q=>∃ z i c,x=.str z∧y=.int i∧z.length≤sizeLine∧atI z.cps.toList i=some c∧Q (.str ⟨#[c]⟩) H
theorem ix_list:IxR X (rIxL X.K):=by
 intro value slice pins s σ H x y v u Q I rx ry h hs
 obtain ⟨p,xs,i,z,rfl,rfl,hq,he,q⟩:=h
 cases rx
 obtain ⟨t,rfl⟩:=ry
 obtain ⟨its,r,pl,hz⟩:=I.list hq
 obtain ⟨j,h1,h2,h3,h4,h5⟩:=atI_get he
 obtain ⟨w,ew,rw'⟩:=r.get h2
 have hl:=r.length
 have hn:=line63
 have fin:EP X pins σ Q w s:=⟨z,H,I,rw',q⟩
 by_cases h0:0≤i
 ·have hj:i.toNat=j:=by
   rw [seqIndex_of h0 h5] at h1
   exact Option.some.inj h1
  exact item_listR pl.isList h0 (by omega) (by rw [hj];simpa using ew) fin hs
 ·have hj:(i + (its.toArray.size:Int)).toNat=j:=by
   rw [seqIndex_neg (by omega) h4] at h1
   rw [List.size_toArray,← hl]
   exact Option.some.inj h1
  exact subscriptTail_builtinR (x:=w) pl.isList.typeIs slot_list_getitem.lookup
   (wpAny_getItem_list_neg (Q:=fun r s'=>r=w∧EP X pins σ Q r s') pl.isList (by omega) (by rw [List.size_toArray] <;> omega) (by omega) (by rw [hj];simpa using ew) ⟨rfl,fin⟩) hs
theorem ix_tup:IxR X (rIxT X.K):=by
 intro value slice pins s σ H x y v u Q I rx ry h hs
 obtain ⟨p,xs,i,z,rfl,rfl,hq,he,q⟩:=h
 cases rx
 obtain ⟨t,rfl⟩:=ry
 obtain ⟨its,r,pl,hz⟩:=I.tuple hq
 obtain ⟨j,h1,h2,h3,h4,h5⟩:=atI_get he
 obtain ⟨w,ew,rw'⟩:=r.get h2
 have hl:=r.length
 have hn:=line63
 have fin:EP X pins σ Q w s:=⟨z,H,I,rw',q⟩
 exact subscriptTail_builtinR (x:=w) pl.typeIs slot_tuple_getitem.lookup
  (getItem_tuple (j:=j) (Q:=fun r s'=>r=w∧EP X pins σ Q r s') pl (by omega) (by omega) (by rw [List.size_toArray,← hl];exact h1) (by simpa using ew) ⟨rfl,fin⟩) hs
theorem ix_str:IxR X rIxS:=by
 intro value slice pins s σ H x y v u Q I rx ry h hs
 obtain ⟨z,i,c,rfl,rfl,hz,he,q⟩:=h
 obtain ⟨t,rfl⟩:=rx
 obtain ⟨t',rfl⟩:=ry
 obtain ⟨j,h1,h2,h3,h4,h5⟩:=atI_get he
 have hl:z.cps.toList.length=z.length:=by simp [Str.length]
 rw [hl] at h1 h4 h5
 have hn:=line63
 exact tail_any (typeIs_str s z t) slot_str_getitem.lookup (getItem_str (c:=c) (by
  have e1:decide (i < -(2 ^ 63:Int))=false:=decide_eq_false (by omega)
  have e2:decide (i ≥ 2 ^ 63)=false:=decide_eq_false (by omega)
  rw [e1,e2,Bool.or_false]) (by rw [h1];simpa using h2) ⟨.str ⟨#[c]⟩,H,I.tok _,⟨_,rfl⟩,q⟩) hs
def rIx (K:PySem.W.Frag):R2:=fun x y H Q=>rIxL K x y H Q∨rIxT K x y H Q∨rIxS x y H Q
theorem ix_seq:IxR X (rIx X.K):=ix_list.or (ix_tup.or ix_str)
theorem mapSeq_set (its:List Value) (n j:Nat) (u:Value):Obj.mapSeq (·.setIfInBounds j u) { cls:=.type "list",data:=.seq its.toArray n }={ cls:=.type "list",data:=.seq (its.set j u).toArray n }:=by
 simp [Obj.mapSeq]
theorem Inv.lst {pins:List (Addr×Obj)}{σ:St}{H:Hp}{s:Shared}{p:Addr}{xs:List V} (I:Inv X pins σ H s) (h:H p=some (.lst xs)):
  ∃ (its:List Value) (n:Nat),Vals xs its∧s.heap.get? p=some { cls:=.type "list",data:=.seq its.toArray n }∧xs.length≤sizeLine:=by
 obtain ⟨z,its,n,r,e⟩:=I.hok p _ h
 exact ⟨its,n,r,e,z⟩
theorem Inv.lstUpd {pins:List (Addr×Obj)}{σ:St}{H:Hp}{s:Shared}{p:Addr}{xs ys:List V}{its its':List Value}{n n':Nat}{f:Obj→Obj} (I:Inv X pins σ H s) (h:H p=some (.lst xs))
  (ho:s.heap.get? p=some { cls:=.type "list",data:=.seq its.toArray n }) (hf:f { cls:=.type "list",data:=.seq its.toArray n }={ cls:=.type "list",data:=.seq its'.toArray n' }) (r:Vals ys its') (hz:ys.length≤sizeLine) (t:Nat):
  Inv X pins σ (upd H p (.lst ys)) { s with heap:=s.heap.update p f,toks:=t }:=by
 have e:(s.heap.update p f).get? p=some { cls:=.type "list",data:=.seq its'.toArray n' }:=by
  rw [Heap.get?_update_self f ho (by rw [hf] <;> rfl),hf]
 refine I.write (x:=p) (e:=p) (by rw [h];trivial) (.inl rfl) (fun b u hb q=>(Heap.get?_update_other _ _ (Ne.symm hb)).trans q) ⟨_,e⟩ ?_
 exact ⟨hz,its',n',r,e⟩
def rSetL:V→V→V→Hp→(Hp→Prop)→Prop:=fun o i v H Q=>∃ p xs k j,o=.ref p∧i=.int k∧H p=some (.lst xs)∧ixN xs.length k=some j∧Q (upd H p (.lst (xs.set j v)))
theorem set_list:PSet X rSetL:=by
 intro pins s σ H o i v ov iv u Q I ro ri rv h
 obtain ⟨p,xs,k,j,rfl,rfl,hp,hj,q⟩:=h
 cases ro
 obtain ⟨t,rfl⟩:=ri
 obtain ⟨its,n,r,ho,hz⟩:=I.lst hp
 obtain ⟨h1,h2,h3,h4⟩:=ixN_seq hj
 have hl:=r.length
 have hn:=line63
 have I':Inv X pins σ (upd H p (.lst (xs.set j v))) { s with heap:=s.heap.update p (Obj.mapSeq (·.setIfInBounds j u)) }:=
  I.lstUpd hp ho (mapSeq_set its n j u) (r.set rv j) (by rw [List.length_set];exact hz) s.toks
 by_cases h0:0≤k
 ·have hk:k.toNat=j:=by
   rw [seqIndex_of h0 h4] at h1
   exact Option.some.inj h1
  exact PySem.W.ki_setAt ho h0 (by omega) (by rw [List.size_toArray,← hl];exact h4) (by rw [hk];exact ⟨_,I',q⟩)
 ·have hk:(k + (its.toArray.size:Int)).toNat=j:=by
   rw [seqIndex_neg (by omega) h3] at h1
   rw [List.size_toArray,← hl]
   exact Option.some.inj h1
  exact PySem.W.ki_setBack ho (by omega) (by rw [List.size_toArray,← hl];exact h3) (by omega) (by rw [hk];exact ⟨_,I',q⟩)
theorem slice_bounds (lo hi:Option Int) (n:Nat):(sliceBounds lo hi none n).1=((HT.sIx n 0 lo:Nat):Int)∧(sliceBounds lo hi none n).2.1=((HT.sIx n n hi:Nat):Int)∧(sliceBounds lo hi none n).2.2=1:=by
 refine ⟨?_,?_,rfl⟩
 ·cases lo with
  | none=>simp [sliceBounds,HT.sIx]
  | some i=>
   simp only [sliceBounds,HT.sIx,Option.getD_none,show (1:Int) > 0 by decide,if_true]
   by_cases h:i < 0
   ·simp only [h,if_true] <;> omega
   ·simp only [h,if_false] <;> omega
 ·cases hi with
  | none=>simp [sliceBounds,HT.sIx]
  | some i=>
   simp only [sliceBounds,HT.sIx,Option.getD_none,show (1:Int) > 0 by decide,if_true]
   by_cases h:i < 0
   ·simp only [h,if_true] <;> omega
   ·simp only [h,if_false] <;> omega
theorem slicePick_cut (its:List Value) (lo hi:Option Int):slicePick its.toArray lo hi none=((its.drop (HT.sIx its.length 0 lo)).take (HT.sIx its.length its.length hi - HT.sIx its.length 0 lo)).toArray:=by
 obtain ⟨h1,h2,h3⟩:=slice_bounds lo hi its.toArray.size
 unfold slicePick
 rw [h1,h2,h3]
 simp only [sliceRange_one,pick_run,List.size_toArray] <;> rfl
def rSlL (K:PySem.W.Frag):V→Option Int→Option Int→Hp→VK→Prop:=fun x lo hi H Q=>∃ a xs,x=.ref a∧SqL K H a xs∧∀ p,H p=none→Q (.ref p) (upd H p (.lst (cutV xs lo hi)))
theorem sl_list:SlR X (rSlL X.K):=by
 intro pins s σ H x v vl vu lo hi sl Q I rx hs pl pu h
 obtain ⟨a,xs,rfl,hx,q⟩:=h
 cases rx
 obtain ⟨its,r,ht,hz⟩:=I.list hx
 have hlen:=r.length
 refine ⟨"list",_,slot_list_getitem.lookup,ht.isList.typeIs,?_⟩
 refine wpAny_getItem_list_slice ht.isList hs pl pu .none (by simp) ?_ (by rw [List.size_toArray] <;> omega)
 rw [slicePick_cut,← hlen]
 refine ⟨.ref s.heap.objs.size,_,I.laid (t':=s.toks) (o:=.lst (cutV xs lo hi)) (fun b ob q=>Heap.get?_push_of_some _ q) (Nat.le_refl _) ?_,rfl,q _ (I.hok.fresh (Nat.le_refl _))⟩
 exact ⟨Nat.le_trans (cutV_length xs lo hi) hz,_,0,(r.drop (HT.sIx xs.length 0 lo)).take (HT.sIx xs.length xs.length hi - HT.sIx xs.length 0 lo),Heap.get?_push_size _ rfl⟩
theorem call_len_seq:CallR X (.builtin "len") (fun xs H Q=>∃ p ys,xs=[.ref p]∧(SqL X.K H p ys∨SqT X.K H p ys)∧Q (.int ys.length) H):=by
 intro pins s σ H xs us Q I r h
 obtain ⟨p,ys,rfl,hq,q⟩:=h
 obtain ⟨u,rfl,rx⟩:=vals1 r
 cases rx
 have hn:=line63
 rcases hq with hq | hq
 ·obtain ⟨its,r',pl,hz⟩:=I.list hq
  have hlen:=r'.length
  exact Calls.call_len_list pl.isList (by simp only [List.size_toArray] <;> omega) ⟨.int ys.length,H,I.tok _,⟨s.toks + 1,by rw [List.size_toArray,hlen]⟩,q⟩
 ·obtain ⟨its,r',pl,hz⟩:=I.tuple hq
  have hlen:=r'.length
  exact len_tuple pl (by simp only [List.size_toArray] <;> omega) ⟨.int ys.length,H,I.tok _,⟨s.toks + 1,by rw [List.size_toArray,hlen]⟩,q⟩
theorem call_len_str:CallR X (.builtin "len") (fun xs H Q=>∃ z,xs=[.str z]∧z.length≤sizeLine∧Q (.int z.length) H):=by
 intro pins s σ H xs us Q I r h
 obtain ⟨z,rfl,hz,q⟩:=h
 obtain ⟨u,rfl,t,rfl⟩:=vals1 r
 have hn:=line63
 exact len_str (by omega) ⟨.int z.length,H,I.tok _,⟨_,rfl⟩,q⟩
theorem CallR.or {f:Value}{r r':List V→Hp→VK→Prop} (h:CallR X f r) (h':CallR X f r'):CallR X f (fun xs H Q=>r xs H Q∨r' xs H Q):=by
 intro pins s σ H xs us Q I rs q
 rcases q with q | q
 ·exact h pins s σ H xs us Q I rs q
 ·exact h' pins s σ H xs us Q I rs q
theorem call_list_of:CallR X (.type "list") (fun xs H Q=>∃ p ys,xs=[.ref p]∧(SqL X.K H p ys∨SqT X.K H p ys)∧∀ l,H l=none→Q (.ref l) (upd H l (.lst ys))):=by
 intro pins s σ H xs us Q I r h
 obtain ⟨p,ys,rfl,hq,q⟩:=h
 obtain ⟨u,rfl,rx⟩:=vals1 r
 cases rx
 have fin:∀ (its:List Value),Vals ys its→ys.length≤sizeLine→∀ (h':Heap) (c':Nat),(∀ b o',s.heap.get? b=some o'→h'.get? b=some o') →
   h'.get? s.heap.objs.size=some { cls:=.type "list",dict:=none,data:=.seq its.toArray c',slots:=#[] }→EP X pins σ Q (.ref s.heap.objs.size) { s with heap:=h' }:=fun its r' hz h' c' kp e=>
  ⟨.ref s.heap.objs.size,_,I.laid (t':=s.toks) kp (Nat.le_refl _) (show ObjOk X.prog X.w _ h' _ (.lst ys) from ⟨hz,its,c',r',e⟩),rfl,q _ (I.hok.fresh (Nat.le_refl _))⟩
 rcases hq with hq | hq
 ·obtain ⟨its,r',pl,hz⟩:=I.list hq
  have hlen:=r'.length
  obtain ⟨o,ho,hc,n,hd⟩:=pl.isList
  exact call_list_seq p (.inl rfl) ho hc hd (fun h' c' kp e=>fin its r' hz h' c' kp e) (by simp only [List.size_toArray] <;> omega)
 ·obtain ⟨its,r',pl,hz⟩:=I.tuple hq
  have hlen:=r'.length
  obtain ⟨o,ho,hc,n,hd⟩:=pl
  exact call_list_seq p (.inr rfl) ho hc hd (fun h' c' kp e=>fin its r' hz h' c' kp e) (by simp only [List.size_toArray] <;> omega)
theorem call_tuple_of:CallR X (.type "tuple") (fun xs H Q=>∃ p ys,xs=[.ref p]∧((SqL X.K H p ys∧∀ l,H l=none→Q (.ref l) (upd H l (.tup ys)))∨(SqT X.K H p ys∧Q (.ref p) H))):=by
 intro pins s σ H xs us Q I r h
 obtain ⟨p,ys,rfl,h⟩:=h
 obtain ⟨u,rfl,rx⟩:=vals1 r
 cases rx
 rcases h with ⟨hq,q⟩ | ⟨hq,q⟩
 ·obtain ⟨its,r',pl,hz⟩:=I.list hq
  have hlen:=r'.length
  refine call_tuple_list pl.isList (fun h' kp=>?_) (by simp only [List.size_toArray] <;> omega)
  have I1:Inv X pins σ H { s with heap:=h' }:=I.kept (t':=s.toks) kp
  have I2:Inv X pins σ (upd H h'.objs.size (.tup ys)) { s with heap:=h'.push { cls:=.type "tuple",data:=.seq its.toArray } }:=
   I1.laid (t':=s.toks) (fun b o e=>Heap.get?_push_of_some _ e) (Nat.le_refl _) (show ObjOk X.prog X.w _ _ _ (.tup ys) from ⟨hz,its,r',IsTup.new _ _⟩)
  exact ⟨.ref h'.objs.size,_,I2,rfl,q _ (I1.hok.fresh (Nat.le_refl _))⟩
 ·obtain ⟨its,r',pl,hz⟩:=I.tuple hq
  exact call_tuple_same pl ⟨.ref p,H,I,rfl,q⟩
def tyV (K:PySem.W.Frag) (T:String) (x:V) (H:Hp):Prop:=match x with
 | .str _=>T = "str"
 | .int _=>T = "int"
 | .ref p=>(T = "list" ∧ ∃ xs,SqL K H p xs)∨(T = "tuple" ∧ ∃ o,K.lookup p=some o∧o.cls=.type "tuple" ∧ o.dict=none) ∨
   (T = "dict" ∧ ((∃ kvs,H p=some (.dK kvs))∨∃ kvs,H p=some (.dT kvs)))∨(T = "set" ∧ ∃ S n,H p=some (.set S n))
 | _=>False
theorem tyV_is {pins:List (Addr×Obj)}{σ:St}{H:Hp}{s:Shared}{T:String}{x:V}{v:Value} (I:Inv X pins σ H s) (r:RelV x v) (ty:tyV X.K T x H):
  s.TypeIs v T∧∀ a,v=.ref a→∃ ob,s.heap.get? a=some ob∧ob.dict=none:=by
 cases x with
 | str z=>
  obtain ⟨t,rfl⟩:=r
  cases (show T = "str" from ty)
  exact ⟨typeIs_str s z t,fun _ e=>nomatch e⟩
 | int i=>
  obtain ⟨t,rfl⟩:=r
  cases (show T = "int" from ty)
  exact ⟨typeIs_int s i t,fun _ e=>nomatch e⟩
 | ref p=>
  cases r
  rcases ty with ⟨rfl,xs,hq⟩ | ⟨rfl,o,hk,hc,hd⟩ | ⟨rfl,hk⟩ | ⟨rfl,S,n,hk⟩
  ·obtain ⟨its,_,pl,_⟩:=I.list hq
   refine ⟨pl.isList.typeIs,fun a e=>?_⟩
   cases e
   obtain ⟨o,n,e,c,hd,_⟩:=pl
   exact ⟨o,e,hd⟩
  ·refine ⟨⟨o,I.kIn p o hk,hc⟩,fun a e=>?_⟩
   cases e
   exact ⟨o,I.kIn _ o hk,hd⟩
  ·have z:∃ o,s.heap.get? p=some o∧o.ExactDict:=by
    rcases hk with ⟨kvs,hk⟩ | ⟨kvs,hk⟩
    ·obtain ⟨_,_,_,_,o,_,_,e,ex,_⟩:=I.hok p _ hk
     exact ⟨o,e,ex⟩
    ·obtain ⟨_,_,_,_,o,_,_,e,ex,_⟩:=I.hok p _ hk
     exact ⟨o,e,ex⟩
   obtain ⟨o,e,ex⟩:=z
   refine ⟨⟨o,e,ex.1⟩,fun a e2=>?_⟩
   cases e2
   exact ⟨o,e,ex.2.1⟩
  ·obtain ⟨o,_,_,_,e,ex,_⟩:=I.hok p _ hk
   refine ⟨⟨o,e,ex.1⟩,fun a e2=>?_⟩
   cases e2
   exact ⟨o,e,ex.2.1⟩
 | _=>exact False.elim ty
def tBM (K:PySem.W.Frag) (T:String) (r:V→List V→Hp→VK→Prop) (to:TE) (t:TA):TE:=fun σ H Q=>to σ H fun x H1=>tyV K T x H1∧t σ H1 fun xs H2=>r x xs H2 Q
variable {o e:Expr}{es:List Expr}{to:TE}{t:TA}{name:Str}{apos cpos:Pos}{T id:String}{r:V→List V→Hp→VK→Prop}
theorem pe_bm (pa:PlainAttrs T) (slot:Slot T name id) (hty:typeOf (.builtin id)=pure (.type "method_descriptor")) (hm:MtR X id r) (ho:PE X o to) (ha:PA X (e::es) t)
  (hbase:attributeBase o name X.env (eval o X.env)=eval o X.env:=by rfl)
  (hfew:((backTo cpos (starEach (e::es) X.env)).all (fun x=>!x.1) && (backToKw cpos (keywordEach [] X.env)).all (fun x=>x.1.isSome)
   && decide ((e::es).length + ([]:List Keyword).length + (if ([]:List Keyword).isEmpty then 0 else 1) < 30))=true:=by rfl)
  (hline:(apos.endLine == cpos.line)=true:=by rfl) (hs:starEach (e::es) X.env=(false,eval e X.env)::starEach es X.env:=by rfl) (hplain:(backTo cpos (starEach es X.env)).any (·.1)=false:=by rfl):
  PE X (.Call (.Attribute o name apos) (e::es) [] cpos) (tBM X.K T r to t):=by
 intro pins s σ H Q I h
 refine wpAny_Call_method_late hbase hfew hline rfl (thn (ho pins s σ H _ I h) fun v s1 ⟨x,H1,I1,r1,ty,q1⟩=>?_)
 obtain ⟨h1,h2⟩:=tyV_is I1 r1 ty
 refine ⟨T,id,pa,slot,hty,h1,h2,?_⟩
 have hA:=ha cpos pins s1 σ H1 _ I1 q1
 rw [hs] at hA ⊢
 refine Calls.callWith_builtin (by show (false || (backTo cpos (starEach es X.env)).any (·.1))=false;rw [hplain] <;> rfl) (Calls.evalArgs_plain ?_)
 exact thn hA fun us s2 ⟨vs,H2,I2,r2,q2⟩=>hm pins s2 σ H2 x vs v us Q I2 r1 r2 q2
end
open PySem PySem.Spec PyProof.Rows
def MtM (X:Cx) (id:String) (r:V→List V→Hp→VK→Prop):Prop:=
 ∀ (pins:List (Addr×Obj)) (s:Shared) (σ:St) (H:Hp) (x:V) (xs:List V) (v:Value) (us:List Value) (Q:VK),Inv X pins σ H s→RelV x v→Vals xs us→r x xs H Q →
  wpAny (model X.prog X.w) X.A (call (.builtin id) (v::us)) (EP X pins σ Q) X.xe s
theorem Vals.one:∀ {x:V}{us:List Value},Vals [x] us→∃ u,us=[u]∧RelV x u
 | _,_,.cons r .nil=>⟨_,rfl,r⟩
theorem Vals.reverse {xs:List V}{us:List Value} (h:Vals xs us):Vals xs.reverse us.reverse:=by
 induction h with
 | nil=>exact .nil
 | cons r t ih=>rw [List.reverse_cons,List.reverse_cons];exact Vals.append ih (.cons r .nil)
theorem Vals.rep {xs:List V}{us:List Value} (h:Vals xs us):∀ k:Nat,Vals (List.replicate k xs).flatten (List.replicate k us).flatten
 | 0=>.nil
 | k + 1=>by
  rw [List.replicate_succ,List.replicate_succ,List.flatten_cons,List.flatten_cons]
  exact Vals.append h (Vals.rep h k)
theorem foldl_rep (its:List Value):∀ (k:Nat) (acc:List Value),
  List.foldl (fun x1 x2=>x1++x2) acc.toArray (List.replicate k its.toArray)=(acc++(List.replicate k its).flatten).toArray
 | 0,acc=>by simp
 | k + 1,acc=>by
  have e:acc.toArray++its.toArray=(acc++its).toArray:=by simp
  have e2:(acc++its)++(List.replicate k its).flatten=acc++(List.replicate (k + 1) its).flatten:=by
   rw [List.replicate_succ,List.flatten_cons,List.append_assoc]
  rw [← e2,← foldl_rep its k (acc++its),← e,List.replicate_succ,List.foldl_cons]
section
variable {X:Cx}{pins:List (Addr×Obj)}{σ:St}{H:Hp}{s:Shared}{l b:Addr}{xs ys zs:List V}
theorem Inv.lset {its its':List Value}{n:Nat}{f:Array Value→Array Value}{t':Nat} (I:Inv X pins σ H s) (hH:H l=some (.lst xs))
  (e:s.heap.get? l=some { cls:=.type "list",data:=.seq its.toArray n }) (hf:f its.toArray=its'.toArray) (hv:Vals ys its') (hz:ys.length≤sizeLine):
  Inv X pins σ (upd H l (.lst ys)) { s with heap:=s.heap.update l (Obj.mapSeq f),toks:=t' }:=by
 have q:=PySem.IsL.update e f
 rw [hf] at q
 refine I.write (x:=l) (e:=l) (by rw [hH];exact trivial) (.inl rfl) (fun b' u hb hu=>(Heap.get?_update_other s.heap (Obj.mapSeq f) (Ne.symm hb)).trans hu) ⟨_,q⟩ ?_
 exact ⟨hz,its',_,hv,q⟩
theorem Inv.lnew {its:List Value}{t':Nat} (I:Inv X pins σ H s) (hv:Vals ys its) (hz:ys.length≤sizeLine):
  Inv X pins σ (upd H s.heap.objs.size (.lst ys)) { s with heap:=s.heap.push { cls:=.type "list",data:=.seq its.toArray },toks:=t' }:=
 I.laid (fun _ _ q=>Heap.get?_push_of_some _ q) (Nat.le_refl _) ⟨hz,its,0,hv,Heap.get?_push_size _ rfl⟩
theorem Inv.fresh (I:Inv X pins σ H s):H s.heap.objs.size=none:=I.hok.fresh (Nat.le_refl _)
theorem Inv.lstM (I:Inv X pins σ H s) (hH:H l=some (.lst xs)):xs.length≤sizeLine∧∃ (its:List Value) (n:Nat),Vals xs its∧xs.length=its.length∧s.heap.get? l=some { cls:=.type "list",data:=.seq its.toArray n }:=by
 obtain ⟨z,its,n,r,e⟩:=I.hok l _ hH
 exact ⟨z,its,n,r,r.length,e⟩
theorem notLongL {n:Nat} (h:n≤sizeLine):Builtin.List.listTooLong n=false:=by
 unfold Builtin.List.listTooLong
 exact decide_eq_false (by omega)
end
section
variable {X:Cx}
def rAppend:V→List V→Hp→VK→Prop:=fun x vs H Q=>∃ l xs y,x=.ref l∧vs=[y]∧H l=some (.lst xs)∧xs.length < sizeLine∧Q .non (upd H l (.lst (xs++[y])))
theorem mt_append:MtM X "list.append" rAppend:=by
 intro pins s σ H x vs v us Q I rx rv h
 obtain ⟨l,xs,y,rfl,rfl,hH,hz,q⟩:=h
 cases rx
 obtain ⟨u,rfl,ru⟩:=rv.one
 obtain ⟨z,its,n,r,hl,e⟩:=I.lstM hH
 refine call_meets F.slot_list_append ⟨_,e,rfl⟩ F.entry_list_append (F.args_list_append_2 _ _) (PySem.list_append l its.toArray n u (by rw [List.size_toArray];omega)) ⟨e,?_⟩
 refine ⟨.non,_,I.lset (its':=its++[u]) hH e (by simp) (r.append (.cons ru .nil)) ?_,rfl,q⟩
 rw [List.length_append,List.length_singleton]
 omega
def rExtend:V→List V→Hp→VK→Prop:=fun x vs H Q=>∃ l b xs zs,x=.ref l∧vs=[.ref b]∧H l=some (.lst xs)∧H b=some (.lst zs)∧xs.length + zs.length≤sizeLine∧Q .non (upd H l (.lst (xs++zs)))
theorem mt_extend:MtM X "list.extend" rExtend:=by
 intro pins s σ H x vs v us Q I rx rv h
 obtain ⟨l,b,xs,zs,rfl,rfl,hH,hB,hz,q⟩:=h
 cases rx
 obtain ⟨u,rfl,ru⟩:=rv.one
 cases ru
 obtain ⟨z,its,n,r,hl,e⟩:=I.lstM hH
 obtain ⟨z2,its2,n2,r2,hl2,e2⟩:=I.lstM hB
 have hsz:its.toArray.size + its2.toArray.size≤sizeLine:=by rw [List.size_toArray,List.size_toArray];omega
 have hlong:¬ (!its.toArray.isEmpty && Builtin.List.listTooLong (its.toArray.size + its2.toArray.size))=true:=by
  rw [notLongL hsz,Bool.and_false]
  exact Bool.false_ne_true
 refine call_meets F.slot_list_extend ⟨_,e,rfl⟩ F.entry_list_extend (F.args_list_extend_2 _ _)
  (AutoSeq1.list_extend_list_list_0 l its.toArray n b its2.toArray n2 hlong (by rw [List.size_toArray];omega) (by omega)) ⟨e,e2,?_⟩
 refine ⟨.non,_,I.lset (its':=its++its2) hH e (by simp) (r.append r2) ?_,rfl,q⟩
 rw [List.length_append]
 omega
def rCat:R2:=fun x y H Q=>∃ l b xs zs,x=.ref l∧y=.ref b∧H l=some (.lst xs)∧H b=some (.lst zs)∧xs.length + zs.length≤sizeLine∧∀ p,H p=none→Q (.ref p) (upd H p (.lst (xs++zs)))
theorem op_cat:OpR X (binaryOp .Add) rCat:=by
 intro pins s σ H x y v u Q I rx ry h
 obtain ⟨l,b,xs,zs,rfl,rfl,hH,hB,hz,q⟩:=h
 cases rx
 cases ry
 obtain ⟨z,its,n,r,hl,e⟩:=I.lstM hH
 obtain ⟨z2,its2,n2,r2,hl2,e2⟩:=I.lstM hB
 refine PySem.P.add_list e e2 ?_ (by rw [List.size_toArray,List.size_toArray];omega)
 have ea:its.toArray++its2.toArray=(its++its2).toArray:=by simp
 rw [ea]
 exact ⟨.ref _,_,I.lnew (t':=s.toks) (r.append r2) (by rw [List.length_append];omega),rfl,q _ I.fresh⟩
def rRep:R2:=fun x y H Q=>∃ l k xs,x=.ref l∧y=.int k∧H l=some (.lst xs)∧-(2 ^ 63)≤k∧k < 2 ^ 63∧xs.length * k.toNat≤sizeLine ∧
 ∀ p,H p=none→Q (.ref p) (upd H p (.lst (List.replicate k.toNat xs).flatten))
theorem len_rep {α:Type} (xs:List α) (k:Nat):(List.replicate k xs).flatten.length=k * xs.length:=by
 induction k with
 | zero=>simp
 | succ k ih=>rw [List.replicate_succ,List.flatten_cons,List.length_append,ih,Nat.succ_mul,Nat.add_comm]
theorem op_rep:OpR X (binaryOp .Mult) rRep:=by
 intro pins s σ H x y v u Q I rx ry h
 obtain ⟨l,k,xs,rfl,rfl,hH,h1,h2,hz,q⟩:=h
 cases rx
 obtain ⟨t,rfl⟩:=ry
 obtain ⟨z,its,n,r,hl,e⟩:=I.lstM hH
 have hlen:its.toArray.size * k.toNat≤sizeLine:=by rw [List.size_toArray,← hl];exact hz
 have hcap:¬ its.toArray.size * k.toNat > (2 ^ 63 - 1) / 8:=by
  have:(sizeLine:Nat)≤(2 ^ 63 - 1) / 8:=by decide
  omega
 have hfit:¬ (!Builtin.List.listFitsIndex k)=true:=by
  rw [fitsIndex_both h1 h2]
  exact Bool.false_ne_true
 have hlong:¬ Builtin.List.listTooLong (its.toArray.size * k.toNat)=true:=by
  rw [notLongL hlen]
  exact Bool.false_ne_true
 have hnew:List.foldl (fun x1 x2=>x1++x2) #[] (List.replicate (if its.toArray.isEmpty=true then 0 else k.toNat) its.toArray)=(List.replicate k.toNat its).flatten.toArray:=by
  have f0:∀ m:Nat,List.foldl (fun x1 x2=>x1++x2) #[] (List.replicate m its.toArray)=(List.replicate m its).flatten.toArray:=fun m=>by
   have:=foldl_rep its m []
   rw [List.nil_append] at this
   exact this
  rw [f0]
  cases its with
  | nil=>simp
  | cons a r'=>rw [if_neg (by simp)]
 refine wpAny_binaryOp_repeat_ref (T := "list") (U := "int") (by decide) ⟨_,e,rfl⟩ (fun s'=>typeIs_int s' k t) noFill_list_mul F.fills_int_mul F.slot_int_rmul repeat_list F.slot_int_index.lookup
  (call_meets F.slot_int_rmul (typeIs_int s k t) F.entry_int_rmul (F.args_int_rmul_2 _ _) (int___rmul___int_list k t l its.toArray n)
   ⟨e,rfl,⟨_,e,rfl⟩,call_meets F.slot_list_mul ⟨_,e,rfl⟩ F.entry_list_mul (F.args_list_mul_2 _ _) (AutoListH.list___mul___list_int_3 l its.toArray n k t hfit hcap hlong) ⟨e,?_⟩⟩)
 rw [hnew]
 exact ⟨.ref _,_,I.lnew (t':=s.toks) (r.rep k.toNat) (by rw [len_rep,Nat.mul_comm];exact hz),rfl,q _ I.fresh⟩
end
section
variable {prog:Program}{w:World}{A:Around}{E:Value→Shared→Prop}{s:Shared}
end
section
variable {X:Cx}
end
end L2
namespace Att
open PySem PySem.W PySem.Calls PyProof.Rows
theorem ints_of_wellAll {P:Params}{h:Heap}:∀ (ns:List Int) (vs:List Value),WellAll P h vs (ns.map WData.int)→IntsAre vs ns:=by
 intro ns
 induction ns with
 | nil=>
  intro vs w
  rw [List.map_nil] at w
  cases w
  exact .nil
 | cons n ns ih=>
  intro vs w
  rw [List.map_cons] at w
  cases w with
  | cons a b=>
   cases a
   exact .cons _ _ (ih _ b)
theorem script_of {l:OpenLaw}{n:Nat} (hn:l.most=some n) {P:Params}{h:Heap}{args:List WData}{vals:List Value}
  (hpre:l.row.toRowW.claim.pre args=true) (hwl:WellAll P h vals args):
  ∃ a vs ns,vals=[Value.ref a]∧args=[WData.list (ns.map WData.int)]∧h.get? a=some { cls:=.type "list",data:=.seq vs.toArray }∧IntsAre vs ns∧ns.length≤n:=by
 have hsh:WShape.hasAll [] args [.list .int]=true:=(pre_splitW hpre).1
 have hc:l.pre.holds [] { args:=args }=true:=(pre_splitW hpre).2
 obtain ⟨d,r,rfl,h1,h2⟩:=hasAllW_cons hsh
 obtain rfl:=hasAllW_nil h2
 obtain ⟨xs,rfl,h3⟩:=hasW_list h1
 obtain ⟨ns,rfl⟩:=items_int h3
 have hlen:ns.length≤n:=by
  unfold OpenLaw.pre at hc
  have h4:(WTm.not (.lt (.lit (.int (n:Int))) (.len (.arg 0)))).holds [] { args:=[.list (ns.map .int)] }=true:=by
   have h4:=(holds_andW hc).1
   rw [hn] at h4
   exact h4
  have h5:=condW_of h4 (w_not (w_lt w_lit (w_len_list (w_arg rfl))))
  rw [List.length_map] at h5
  refine Nat.le_of_not_lt fun q=>?_
  have q':(n:Int) < ((ns.length:Nat):Int):=by omega
  first
   | (rw [decide_eq_true q'] at h5;exact absurd h5 (by decide))
   | (simp at h5;omega)
 cases hwl with
 | cons w1 w2=>
  cases w2
  cases w1 with
  | list ho hall=>exact ⟨_,_,ns,rfl,rfl,ho,ints_of_wellAll ns _ hall,hlen⟩
theorem post_true (l:OpenLaw) (args:List WData):l.row.toRowW.claim.post args (.bool true) args=true:=
 postW_of (r:=l.row.toRowW) (X:=(true == true))
  (show WShape.has [] (.bool true) .bool=true by first | rfl | decide | simp [WShape.has,WShape.arms,WShape.armsAll])
  (show (WTm.eq .res (.lit (.bool true))).value [] { args:=args,res:=some (.bool true),after:=args }=some (.bool (true == true)) from w_eq_bool (w_res rfl) w_lit) rfl
theorem attach_call {l:OpenLaw}{n:Nat}{q:Program}{loose:List Str}{XP:(Str→Option Value)→Heap→Prop}{YP:World→Heap→Prop}{d:DefRec}
  (hn:l.most=some n) (hdf:d.params.defaults=[])
  (call:∀ (w:World) (s₀ s₁:Shared) (mg mb:Str→Option Value) (fa:Addr) (o:Obj) (pm cd doc:Value) (a:Addr) (vs:List Value) (ns:List Int),
   Ground q loose [] XP w s₀ mg mb s₁.heap→YP w s₁.heap →
   s₁.heap.get? fa=some o→o.data=.func (docDef d.name d.params d.body d.scope pm cd doc)→s₁.heap.CodeRec cd d.name→mg d.name=some (.ref fa) →
   s₁.heap.get? a=some { cls:=.type "list",data:=.seq vs.toArray }→IntsAre vs ns→ns.length≤n→s₁.gens=#[] →
   codeAny (model l.prog w) callerA (.call (.ref fa) ⟨[.ref a],[]⟩) (fun r s'=>r=.ok (.ret (.bool true))∧OldK s₁.heap s'.heap∧s'.os=s₁.os∧AllBare s'.gens) s₁):
  WalkO q loose XP YP l.row.toRowW d [] (fun f vs=>PySem.call f vs):=by
 intro w s₀ s₁ mg mb G Y fa o pm cd doc dV kV ho hd hcd hD hmg hg args vals as hpre hlay hrd hwl hlo
 obtain rfl:dV=.none:=Dflts.none hD hdf
 obtain rfl:kV=.none:=Dflts.noKw hD
 obtain ⟨a,vs,ns,rfl,rfl,hobj,hints,hlen⟩:=script_of hn hpre hwl
 refine enter_call (codeAny_mono (call w s₀ s₁ mg mb fa o pm cd doc a vs ns G Y ho (fd_plain hd) hcd hmg hobj hints hlen hg) fun r s' hq=>?_)
 obtain ⟨rfl,h2,h3,h4⟩:=hq
 exact ⟨.inl ⟨.bool true,.bool true,[],rfl,fun _=>rfl,.bool true,post_true l _,fun _=>⟨List.Pairwise.nil,fun _ hm=>(nomatch hm)⟩⟩,h2,h3,h4⟩
section
variable {prog:Program}{w:World}{A:Around}{E:Value→Shared→Prop}{s:Shared}{K:Frag}
end
end Att
namespace L2
open PySem PySem.Spec PyProof.Rows
theorem vals_ints:∀ {vs:List Value}{ns:List Int},IntsAre vs ns→Vals (ns.map V.int) vs
 | _,_,.nil=>.nil
 | _,_,.cons n t h=>.cons ⟨t,rfl⟩ (vals_ints h)
def Only (H:Hp):Prop:=∀ b,H b=none∨∃ o xs,H b=some (.frz o (.lst xs))
theorem law_call {P:Program}{w:World}{K:PySem.W.Frag}{mg mb:Str→Option Value}{CX:CXT}{k:Nat}{fa a:Addr}{fd:FuncData}{x:Str}{sp:Sp}{s₁:Shared}{vs:List Value}{ns:List Int}
  (KX:K.In s₁.heap) (hns:s₁.heap.Ns mainGlobals mg) (hb:s₁.heap.Ns builtinsNs mb) (hbb:∀ x:Str,x ≠ "__name__" → mb x=bootBuiltins x) (hlim:s₁.heap.NoLimit) (hg:s₁.gens=#[])
  (ha:s₁.heap.get? a=some { cls:=.type "list",data:=.seq vs.toArray }) (hi:IntsAre vs ns) (hl:ns.length≤sizeLine) (hr:Room k callerA)
  (F:∀ base:Heap,K.In base→base.Ns mainGlobals mg→FnOk P w K mg base CX k fa fd [x] sp) (hbind:∀ (s:Shared) (u:Value),BindsTo s fd ⟨[u],[]⟩ [(x,u)])
  (hsp:∀ H:Hp,Only H→SqL K H a (ns.map V.int)→sp [.ref a] H (fun v _=>v=.bl true) fun _ _ _=>False)
  (hCX:∀ H e s',CX [] H s₁ (fun _ _ _=>False) e s'→False):
  codeAny (model P w) callerA (.call (.ref fa) ⟨[.ref a],[]⟩) (fun r s'=>r=.ok (.ret (.bool true))∧OldK s₁.heap s'.heap∧s'.os=s₁.os∧AllBare s'.gens) s₁:=by
 have rv:=vals_ints hi
 have lenV:=hi.length
 have core:∀ H:Hp,Only H→SqL K H a (ns.map V.int)→HOk P w H s₁.heap→(∀ b,H b≠none→b=a)→(H a≠none→K.lookup a=none) →
   codeAny (model P w) callerA (.call (.ref fa) ⟨[.ref a],[]⟩) (fun r s'=>r=.ok (.ret (.bool true))∧OldK s₁.heap s'.heap∧s'.os=s₁.os∧AllBare s'.gens) s₁:=by
  intro H hO hS hok hA hK
  have base_of:∀ {b:Addr}{o:Obj},s₁.heap.get? b=some o→H b=none→(hidT s₁.heap H).get? b=some o:=fun e n=>hidT_get e n
  have noA:∀ {b:Addr}{o:Obj}{es:Array DictEntry}{ep:Nat},s₁.heap.get? b=some o→o.data=.dict es ep→H b=none:=fun {b o es ep} e d=>by
   cases q:H b with
   | none=>rfl
   | some u=>
    have e':b=a:=hA b (by rw [q];simp)
    subst e'
    rw [ha] at e;cases e
    have d':Data.seq vs.toArray _=Data.dict es ep:=d
    cases d'
  have nsK:∀ {b:Addr}{m:Str→Option Value},s₁.heap.Ns b m→(hidT s₁.heap H).Ns b m:=fun {b m} ⟨o,es,ep,e,d,r⟩=>⟨o,es,ep,base_of e (noA e d),d,r⟩
  have hKb:K.In (hidT s₁.heap H):=fun b o e=>base_of (KX b o e) (by
   cases q:H b with
   | none=>rfl
   | some u=>
    have e':b=a:=hA b (by rw [q];simp)
    subst e'
    rw [hK (by rw [q];simp)] at e;cases e)
  have hM:Mod K mg (hidT s₁.heap H):=⟨hKb,nsK hns,⟨mb,nsK hb,hbb⟩,let ⟨mc,h1,h2⟩:=hlim;⟨mc,nsK h1,h2⟩⟩
  have e0:Env0 P w K mg (hidT s₁.heap H) callerA [] s₁ H:=⟨rfl,hM,fun b o e=>of_hidT e,Nat.le_of_eq (hidT_size _ _),trivial,fun b hb=>absurd (show b∈([]:List Addr) from hb) (by simp),hok,.of_eq hg⟩
  refine codeAny_mono ((F _ hKb (nsK hns)).run callerA [] s₁ H ⟨[.ref a],[]⟩ [.ref a] [.ref a] _ _ hr e0 (hbind s₁ (.ref a)) (.cons rfl .nil) (hsp H hO hS)) fun r s' h=>?_
  cases r with
  | error e=>exact (hCX H e s' h).elim
  | ok fl=>
   cases fl with
   | next=>exact False.elim h
   | brk=>exact False.elim h
   | cont=>exact False.elim h
   | ret u=>
    obtain ⟨v,H',os,bare,un,hok',r',q⟩:=h
    have q':v=.bl true:=q
    subst q'
    obtain rfl:u=Value.bool true:=r'
    refine ⟨rfl,OldK.of_keep fun b o e=>?_,os,bare⟩
    cases q:H b with
    | none=>exact un.keep b o e q (by intro z;exact absurd (show b∈([]:List Addr) from z) (by simp)) (by simp)
    | some u=>
     rcases hO b with z | ⟨ob,xs,z⟩
     ·rw [q] at z;cases z
     ·have z2:=un.frzs b ob _ z
      obtain ⟨e1,_⟩:=hok b _ z
      obtain ⟨e2,_⟩:=hok' b _ z2
      rw [e] at e1;cases e1
      exact e2
 cases hk:K.lookup a with
 | some o=>
  have e:=KX a o hk
  rw [ha] at e
  cases e
  refine core (fun _=>none) (fun _=>.inl rfl) (.inr ⟨_,vs.toArray,_,hk,rfl,rfl,rfl,by rw [List.size_toArray,lenV];exact hl,by simpa using rv⟩) (fun b u z=>by have z':(none:Option HO)=some u:=z;cases z') (fun b z=>absurd rfl z) fun z=>absurd rfl z
 | none=>
  refine core (fun b=>if b=a then some (.frz { cls:=.type "list",data:=.seq vs.toArray } (.lst (ns.map V.int))) else none) (fun b=>?_) (.inl (.inr ⟨{ cls:=.type "list",data:=.seq vs.toArray },if_pos rfl⟩)) (fun b u z=>?_) (fun b z=>?_) fun _=>hk
  ·by_cases hb:b=a
   ·exact .inr ⟨_,_,if_pos hb⟩
   ·exact .inl (if_neg hb)
  ·by_cases hb:b=a
   ·have z':=(if_pos hb).symm.trans z
    cases z'
    subst hb
    exact ⟨ha,by rw [List.length_map];exact hl,vs,_,rv,ha⟩
   ·have z':=(if_neg hb).symm.trans z
    cases z'
  ·by_cases hb:b=a
   ·exact hb
   ·exact absurd (if_neg hb) z
open PySem PySem.Spec PyProof.Rows
open PySem PySem.Spec PyProof.Rows
def defArgs (s:Stmt):Arguments:=match s with
 | .FunctionDef _ a _ _ _ _ _ _ _ _=>a
 | _=>{ posonlyargs:=[],args:=[],vararg:=none,kwonlyargs:=[],kw_defaults:=[],kwarg:=none,defaults:=[] }
def defBody (s:Stmt):List Stmt:=match s with
 | .FunctionDef _ _ b _ _ _ _ _ _ _=>b
 | _=>[]
def defScope (s:Stmt):Scope:=match s with
 | .FunctionDef _ _ _ _ _ _ sc _ _ _=>sc
 | _=>{ kind:=.function,names:=[],isGenerator:=false,isCoroutine:=false }
abbrev E0:XK:=fun _ _ _=>False
structure Fun (K:PySem.W.Frag) (x qual:Str) (st:Stmt) (f:Addr) (fd:FuncData):Prop where
 ex:∃ (oc:Value) (od:Option Addr) (kV doc pm:Value) (an:Option Addr) (cdv ct:Value) (osl:Array (Option Value)),
  fd=PySem.W.fnOf x qual (defArgs st) (defBody st) (defScope st) .none kV doc pm an cdv ct∧K.lookup f=some ⟨oc,od,.func fd,osl⟩∧PySem.W.codeIn K cdv qual=true
 kp:PySem.W.keepIn K (.ref f)=true
section
variable {P:Program}{w:World}{K:PySem.W.Frag}{mg:Str→Option Value}{base:Heap}
theorem Fun.binds {x qual:Str}{st:Stmt}{f:Addr}{fd:FuncData}{ps:List Str} (F:Fun K x qual st f fd)
  (h:∀ (kV doc pm:Value) (an:Option Addr) (cdv ct:Value) (us:List Value),us.length=ps.length→bindArgs (PySem.W.fnOf x qual (defArgs st) (defBody st) (defScope st) .none kV doc pm an cdv ct) ⟨us,[]⟩=pure (ps.zip us)):Binds K fd ps []:=by
 obtain ⟨oc,od,kV,doc,pm,an,cdv,ct,osl,rfl,lk,hcd⟩:=F.ex
 exact .all (h kV doc pm an cdv ct)
theorem fun_mk {x qual:Str}{st:Stmt}{f:Addr}{oc:Value}{od an:Option Addr}{osl:Array (Option Value)}{kV doc pm cdv ct:Value} (l:K.lookup f=some ⟨oc,od,.func (PySem.W.fnOf x qual (defArgs st) (defBody st) (defScope st) .none kV doc pm an cdv ct),osl⟩)
  (c:PySem.W.codeIn K cdv qual=true) (k:PySem.W.keepIn K (.ref f)=true):Fun K x qual st f (PySem.W.fnOf x qual (defArgs st) (defBody st) (defScope st) .none kV doc pm an cdv ct):=⟨⟨oc,od,kV,doc,pm,an,cdv,ct,osl,rfl,l,c⟩,k⟩
end
section
variable {X:Cx}
end
open PySem PySem.Spec PyProof.Rows
section
variable {κ:Type} [DecidableEq κ]
def putK (kvs:List (κ×V)) (k:κ) (v:V):List (κ×V):=
 if (kvs.any fun kv=>decide (kv.1=k))=true then kvs.map (fun kv=>if kv.1=k then (kv.1,v) else kv) else kvs++[(k,v)]
theorem length_putK (kvs:List (κ×V)) (k:κ) (v:V):(putK kvs k v).length≤kvs.length + 1:=by
 unfold putK
 split
 ·rw [List.length_map];omega
 ·rw [List.length_append,List.length_cons,List.length_nil];omega
theorem KV.any {kvs:List (κ×V)}{vs:List (κ×Value)} (r:KV kvs vs) (k:κ):(kvs.any fun kv=>decide (kv.1=k))=vs.any fun kv=>decide (kv.1=k):=by
 unfold KV at r
 induction r with
 | nil=>rfl
 | cons h t ih=>rw [List.any_cons,List.any_cons,ih,h.1]
theorem KV.repl {kvs:List (κ×V)}{vs:List (κ×Value)} (r:KV kvs vs) (k:κ) {y:V}{u:Value} (ry:RelV y u):
  KV (kvs.map fun kv=>if kv.1=k then (kv.1,y) else kv) (vs.map fun kv=>if kv.1=k then (kv.1,u) else kv):=by
 unfold KV at r ⊢
 induction r with
 | nil=>exact .nil
 | @cons p q ps qs h t ih=>
  rw [List.map_cons,List.map_cons]
  refine .cons ?_ ih
  obtain ⟨h1,h2⟩:=h
  by_cases e:p.1=k
  ·rw [if_pos e,if_pos (h1.symm.trans e)];exact ⟨h1,ry⟩
  ·rw [if_neg e,if_neg (fun z=>e (h1.trans z))];exact ⟨h1,h2⟩
theorem KV.put {kvs:List (κ×V)}{vs:List (κ×Value)} (r:KV kvs vs) (k:κ) {y:V}{u:Value} (ry:RelV y u):KV (putK kvs k y) (stored vs k u):=by
 unfold putK stored
 rw [r.any k]
 by_cases e:(vs.any fun kv=>decide (kv.1=k))=true
 ·rw [if_pos e,if_pos e];exact r.repl k ry
 ·rw [if_neg e,if_neg e];exact Paired.snoc r ⟨rfl,ry⟩
theorem KV.length {kvs:List (κ×V)}{vs:List (κ×Value)} (r:KV kvs vs):kvs.length=vs.length:=Paired.length r
end
theorem kV_is {P:Program}{w:World}{k:Key}{u:Value} (r:RelV (kV k) u):(mixKind P w).is k u=true:=by
 cases k with
 | inl i=>obtain ⟨t,e⟩:=(show ∃ t,u=Value.int i t from r);subst e;exact mixKind_int P w i t
 | inr x=>obtain ⟨t,e⟩:=(show ∃ t,u=Value.str x t from r);subst e;exact mixKind_str P w x t
section
variable {P:Program}{w:World}{H:Hp}{h:Heap}{a:Addr}
theorem rd_of {u:HO} (ok:HOk P w H h) (e:Rd H a u):ObjOk P w H h a u:=e.ok ok
theorem dk_rd {kvs:List (Key×V)} (ok:HOk P w H h) (e:Rd H a (.dK kvs)):kvs.length≤sizeLine∧(a == sysModules)=false∧∃ vs,KV kvs vs∧h.DictOf (mixKind P w) a vs:=
 show ObjOk P w H h a (.dK kvs) from rd_of ok e
theorem dk_of {kvs:List (Key×V)} (ok:HOk P w H h) (e:H a=some (.dK kvs)):kvs.length≤sizeLine∧(a == sysModules)=false∧∃ vs,KV kvs vs∧h.DictOf (mixKind P w) a vs:=dk_rd ok (.inl e)
end
section
variable {X:Cx}{pins:List (Addr×Obj)}{σ:St}{H:Hp}{s:Shared}{a:Addr}{y v:V}{u r:Value}{o:Option V}{A:Around}{E:Value→Shared→Prop}
theorem Inv.big (I:Inv X pins σ H s):sysModules < s.heap.objs.size:=by
 have h:mainGlobals < s.heap.objs.size:=(I.mod.glob.keeps I.bk).lt
 exact Nat.lt_trans (by decide) h
theorem d_write {h':Heap}{t':Nat}{ob:HO} (I:Inv X pins σ H s) (mu:Mut (H a)) (hs:Heap.SameBut a s.heap h') (he:∃ q,h'.get? a=some q) (new:ObjOk X.prog X.w (upd H a ob) h' a ob):
  Inv X pins σ (upd H a ob) { s with heap:=h',toks:=t' }:=
 I.write (x:=a) (e:=a) mu (.inl rfl) (fun b q hb z=>(hs.2 b hb).trans z) he new
theorem dk_new {P:Program}{w:World}{H':Hp}{h':Heap}{kvs:List (Key×V)}{vs:List (Key×Value)} (z:kvs.length≤sizeLine) (hd:(a == sysModules)=false) (rel:KV kvs vs) (dd:h'.DictOf (mixKind P w) a vs):
  ObjOk P w H' h' a (.dK kvs):=⟨z,hd,vs,rel,dd⟩
end
section
variable {X:Cx}{pins:List (Addr×Obj)}{σ:St}{H:Hp}{s:Shared}{a:Addr}{kvs:List (Key×V)}{k:Key}{u:Value}{A:Around}{E:Value→Shared→Prop}
end
section
variable {X:Cx}{o i e value:Expr}{pos pos' tpos:Pos}{td ty tv:TE}
end
theorem dk_empty {P:Program}{w:World}{H:Hp} (h:Heap) (hb:sysModules < h.objs.size):ObjOk P w H (h.push { cls:=.type "dict",data:=.dict #[] }) h.objs.size (.dK []):=
 ⟨Nat.zero_le _,beq_eq_false_iff_ne.mpr (Ne.symm (Nat.ne_of_lt hb)),[],.nil,Heap.DictOf.new h⟩
theorem dt_empty {P:Program}{w:World}{H:Hp} (h:Heap) (hb:sysModules < h.objs.size):ObjOk P w H (h.push { cls:=.type "dict",data:=.dict #[] }) h.objs.size (.dT []):=
 ⟨Nat.zero_le _,beq_eq_false_iff_ne.mpr (Ne.symm (Nat.ne_of_lt hb)),[],.nil,_,#[],0,Heap.get?_push_size _ rfl,⟨rfl,rfl,rfl⟩,rfl,rfl,List.nodup_nil⟩
def tDNewT:TE:=fun _ H Q=>∀ p,H p=none→Q (.ref p) (upd H p (.dT []))
section
variable {X:Cx}{pos:Pos}
theorem pe_dnewT:PE X (.Dict [] [] pos) tDNewT:=fun pins s σ H Q I h=>
 wpAny_Dict_empty ⟨.ref s.heap.objs.size,_,I.laid (a:=s.heap.objs.size) (o:=.dT []) (t':=s.toks) (fun _ _ q=>Heap.get?_push_of_some _ q) (Nat.le_refl _) (dt_empty s.heap I.big),rfl,h _ (I.hok.fresh (Nat.le_refl _))⟩
end
def tPairs:List (TE×TE)→St→Hp→(List (V×V)→Hp→Prop)→Prop
 | [],_,H,Q=>Q [] H
 | (tk,tv)::r,σ,H,Q=>tk σ H fun x H1=>tv σ H1 fun y H2=>tPairs r σ H2 fun ps H3=>Q ((x,y)::ps) H3
abbrev VV:List (V×V)→List (Value×Value)→Prop:=Paired fun p q=>RelV p.1 q.1∧RelV p.2 q.2
def PPs (X:Cx) (pos:Pos) (keys:List (Option Expr)) (values:List Expr) (trs:List (TE×TE)):Prop:=
 ∀ (pins:List (Addr×Obj)) (s:Shared) (σ:St) (H:Hp) (Q:List (V×V)→Hp→Prop),Inv X pins σ H s→tPairs trs σ H Q →
  wpAny (model X.prog X.w) X.A (evalPairs (pairTrees keys values X.env pos)) (fun vs s'=>∃ ps H',Inv X pins σ H' s'∧VV ps vs∧Q ps H') X.xe s
theorem pps_nil {X:Cx}{pos:Pos}:PPs X pos [] [] []:=fun pins s σ H Q I h=>pairTrees_nil_walk ⟨[],H,I,.nil,h⟩
theorem pps_cons {X:Cx}{pos:Pos}{k v:Expr}{ks:List (Option Expr)}{vs:List Expr}{tk tv:TE}{trs:List (TE×TE)} (hk:PE X k tk) (hv:PE X v tv) (hr:PPs X pos ks vs trs):
  PPs X pos (some k::ks) (v::vs) ((tk,tv)::trs):=fun pins s σ H Q I h=>
 pairTrees_cons_walk (thn (hk pins s σ H _ I h) fun u s1 ⟨x,H1,I1,rx,q1⟩=>thn (hv pins s1 σ H1 _ I1 q1) fun w2 s2 ⟨y,H2,I2,ry,q2⟩=>
  thn (hr pins s2 σ H2 _ I2 q2) fun ws s3 ⟨ps,H3,I3,rel,q3⟩=>⟨(x,y)::ps,H3,I3,.cons ⟨rx,ry⟩ rel,q3⟩)
def mergeK (kvs more:List (Key×V)):List (Key×V):=more.foldl (fun acc kv=>putK acc kv.1 kv.2) kvs
theorem KV.merge:∀ {more:List (Key×V)}{rs:List (Key×Value)}{kvs:List (Key×V)}{vs:List (Key×Value)},KV more rs→KV kvs vs→KV (mergeK kvs more) (merged vs rs):=by
 intro more rs kvs vs r
 unfold KV at r
 induction r generalizing kvs vs with
 | nil=>intro q;exact q
 | @cons p q ps qs h t ih=>
  intro r0
  have e:KV (putK kvs p.1 p.2) (stored vs q.1 q.2):=by
   have:=r0.put p.1 h.2
   rw [← h.1];exact this
  exact ih e
theorem length_mergeK:∀ (more kvs:List (Key×V)),(mergeK kvs more).length≤kvs.length + more.length
 | [],kvs=>by show kvs.length≤kvs.length + 0;omega
 | p::r,kvs=>by
  have h1:=length_mergeK r (putK kvs p.1 p.2)
  have h2:=length_putK kvs p.1 p.2
  show (mergeK (putK kvs p.1 p.2) r).length≤_
  rw [List.length_cons];omega
theorem carries_of {P:Program}{w:World}:∀ {kvs:List (Key×V)}{ws:List (Value×Value)},VV (kvs.map fun kv=>(kV kv.1,kv.2)) ws→∃ rs,Carries (mixKind P w) ws rs∧KV kvs rs
 | [],_,r=>by rw [List.map_nil] at r;cases r;exact ⟨[],True.intro,.nil⟩
 | p::kvs,_,r=>by
  rw [List.map_cons] at r
  cases r with
  | @cons a b as bs h t=>
   obtain ⟨rs,c,q⟩:=carries_of (P:=P) (w:=w) t
   obtain ⟨b1,b2⟩:=b
   exact ⟨(p.1,b2)::rs,⟨kV_is h.1,rfl,c⟩,.cons ⟨rfl,h.2⟩ q⟩
def tDisp (trs:List (TE×TE)):TE:=fun σ H Q=>∀ p,H p=none→tPairs trs σ (upd H p (.dK [])) fun ps H2=>H2 p=some (.dK [])∧∃ kvs:List (Key×V),ps=kvs.map (fun kv=>(kV kv.1,kv.2))∧kvs.length≤15∧Q (.ref p) (upd H2 p (.dK (mergeK [] kvs)))
theorem pe_disp {X:Cx}{pos:Pos}{keys:List (Option Expr)}{values:List Expr}{trs:List (TE×TE)} (h:PPs X pos keys values trs) (hall:keys.all (·.isSome)=true) (hl:keys.length=values.length) (h0:keys≠[])
  (h15:keys.length≤15):PE X (.Dict keys values pos) (tDisp trs):=by
 intro pins s σ H Q I q
 have hn:=I.hok.fresh (Nat.le_refl s.heap.objs.size)
 have I1:=I.laid (a:=s.heap.objs.size) (o:=.dK []) (h':=s.heap.push { cls:=.type "dict",data:=.dict #[] }) (t':=s.toks) (fun _ _ q=>Heap.get?_push_of_some _ q) (Nat.le_refl _) (dk_empty s.heap I.big)
 refine wpAny_Dict_walk (knd:=mixKind X.prog X.w) hall hl h0 h15 (thn (h pins _ σ _ _ I1 (q _ hn)) fun ws s2 ⟨ps,H2,I2,rel,e,kvs,ep,lk,q2⟩=>?_)
 subst ep
 obtain ⟨rs,c,rk⟩:=carries_of (P:=X.prog) (w:=X.w) rel
 obtain ⟨z,hd,vs0,r0,dd⟩:=dk_of I2.hok e
 cases r0
 refine ⟨rs,c,dd,fun h' dd' hs=>⟨.ref s.heap.objs.size,_,?_,rfl,q2⟩⟩
 have hz:(mergeK [] kvs).length≤sizeLine:=by
  have h1:=length_mergeK kvs []
  rw [List.length_nil] at h1
  rw [sizeLine_eq];omega
 have he:∃ q,h'.get? s.heap.objs.size=some q:=let ⟨q,_,_,hq,_⟩:=dd';⟨q,hq⟩
 exact d_write I2 (by rw [e];exact True.intro) hs he (dk_new hz hd (rk.merge .nil) dd')
open PySem PySem.Spec PyProof.Rows
end L2
namespace QQ
open PySem PySem.Spec PyProof.Rows L2
abbrev Frag:=PySem.W.Frag
abbrev St:=L2.St
def KL (K:Frag) (a:Addr) (xs:List V):Prop:=∃ (o:Obj) (its:Array Value) (n:Nat),K.lookup a=some o∧o.cls=.type "list" ∧ o.dict=none∧o.data=.seq its n∧its.size≤sizeLine∧Vals xs its.toList
theorem ty_list {K:Frag}{H:Hp}{a:Addr}{xs:List V} (h:SqL K H a xs):tyV K "list" (.ref a) H:=.inl ⟨rfl,xs,h⟩
def ItS (z:Str):It:=⟨fun i _=>i < z.cps.size,fun i H v H'=>H'=H∧∃ c,z.cps[i]?=some c∧v=.str ⟨#[c]⟩,fun i _=>z.cps.size≤i⟩
def asciiS (z:Str):Bool:=z.cps.all (·< 128)
def iSeq (K:Frag) (tl:TE):TI:=fun σ H R=>tl σ H fun x H1=>(∃ a,x=.ref a∧(((∃ xs,SqL K H1 a xs)∧R (Itl K a) H1)∨((∃ xs,SqT K H1 a xs)∧R (Itt K a) H1)))∨∃ z,x=.str z∧asciiS z=true∧R (ItS z) H1
def tComp (k:Nat) (wi:TI) (g:TG) (tc:TT) (te:TE):TE:=fun σ H Q=>wi σ H fun J H1=>∀ D,H1 D=none→∃ W:Nat→Nat→List V→Hp→Prop,(∃ m,W 0 m [] (upd H1 D (.lst [])))∧∀ i m ys H,W i m ys H→H D=some (.lst ys) ∧
 ((J.stop i H∧Q (.ref D) H)∨(J.go i H∧∀ x H',J.yld i H x H'→g x (σ++List.replicate k none) H' fun σ2 H2=>tc σ2 H2 fun b H3=>if b=true then te σ2 H3 fun y H4=>H4 D=some (.lst ys)∧ys.length < sizeLine∧∃ m',m' < m∧W (i + 1) m' (ys++[y]) (upd H4 D (.lst (ys++[y]))) else ∃ m',m' < m∧W (i + 1) m' ys H3))
inductive PV where
 | non | bl (b:Bool) | int (i:Int) | str (x:Str) | lst (xs:List PV) | tup (xs:List PV) | emp | dko | scr (ns:List Int) | dct (kvs:List (List Key×V)) | exn (c:Nat)
 deriving Inhabited
inductive MO where
 | l (xs:List V) | d (kvs:List (List Key×V))
def MO.ho:MO→HO
 | .l xs=>.lst xs
 | .d kvs=>.dT kvs
def XN:List Str:=["PileError","NoBox","NoPile","NoStairs","NoWays","NoRoad","NoNumber","NoPlace","TooMany","NoText","NoName","NoRow"]
def clsOf (K:Frag) (c:Nat):Option Addr:=match XN[c]? with
 | some x=>(match PySem.W.nsIn K mainGlobals x with
  | some (some (.ref C))=>some C
  | _=>none)
 | none=>none
def ExcAt (a C:Addr) (h:Heap):Prop:=∃ o vs,h.get? a=some o∧o.cls=.ref C∧o.data=.fields vs
def om:Nat:=1000
def pd (d:Nat):Nat:=if d=om then om else d - 1
theorem pd_om:pd om=om:=rfl
theorem pd_zero:pd 0=0:=rfl
mutual
def Own (K:Frag) (H:Hp) (Z:Addr→Prop):PV→Nat→V→List Addr→Prop
 | .non,_,v,fp=>v=.non∧fp=[]
 | .bl b,_,v,fp=>v=.bl b∧fp=[]
 | .int i,_,v,fp=>v=.int i∧fp=[]
 | .str x,_,v,fp=>v=.str x∧fp=[]
 | .emp,_,v,fp=>fp=[]∧∃ a,v=.ref a∧H a=some (.dK [])
 | .dko,_,v,fp=>fp=[]∧∃ a,v=.ref a∧∃ kvs,H a=some (.dK kvs)
 | .scr ns,_,v,fp=>fp=[]∧∃ a,v=.ref a∧((∃ o,H a=some (.frz o (.lst (ns.map V.int))))∨KL K a (ns.map V.int))
 | .exn c,_,v,fp=>fp=[]∧∃ a C,v=.ref a∧clsOf K c=some C∧H a=some (.ext (ExcAt a C))
 | .dct kvs,d,v,fp=>∃ a,v=.ref a∧((d=0∧(H a=some (.dT kvs)∧¬ Z a)∧fp=[])∨(d≠0∧H a=some (.dT kvs)∧fp=[a]))
 | .lst xs,d,v,fp=>∃ a vs,v=.ref a∧((d=0∧(H a=some (.lst vs)∧¬ Z a)∧fp=[]∧OwnL K H Z xs 0 vs [])∨(d≠0∧∃ f,H a=some (.lst vs)∧fp=a::f∧a∉f∧OwnL K H Z xs (pd d) vs f))
 | .tup xs,d,v,fp=>∃ a vs,v=.ref a∧H a=some (.tup vs)∧OwnL K H Z xs (pd d) vs fp
def OwnL (K:Frag) (H:Hp) (Z:Addr→Prop):List PV→Nat→List V→List Addr→Prop
 | [],_,vs,fp=>vs=[]∧fp=[]
 | x::xs,d,vs,fp=>∃ v r f1 f2,vs=v::r∧fp=f1++f2∧(∀ a∈f1,a∉f2)∧Own K H Z x d v f1∧OwnL K H Z xs d r f2
end
def Keep (S:Addr→Prop) (H H':Hp):Prop:=∀ a o,H a=some o→¬ S a→H' a=some o
section
variable {K:Frag}{H H':Hp}{Z Z' S:Addr→Prop}
mutual
theorem Own.lsts:∀ (x:PV) (d:Nat) (v:V) (fp:List Addr),Own K H Z x d v fp→∀ a∈fp,∃ o:MO,H a=some o.ho
 | .non,_,_,_,h,a,ha=>by rw [Own] at h;rw [h.2] at ha;cases ha
 | .bl _,_,_,_,h,a,ha=>by rw [Own] at h;rw [h.2] at ha;cases ha
 | .int _,_,_,_,h,a,ha=>by rw [Own] at h;rw [h.2] at ha;cases ha
 | .str _,_,_,_,h,a,ha=>by rw [Own] at h;rw [h.2] at ha;cases ha
 | .emp,_,_,_,h,a,ha=>by rw [Own] at h;rw [h.1] at ha;cases ha
 | .dko,_,_,_,h,a,ha=>by rw [Own] at h;rw [h.1] at ha;cases ha
 | .scr _,_,_,_,h,a,ha=>by rw [Own] at h;rw [h.1] at ha;cases ha
 | .exn _,_,_,_,h,a,ha=>by rw [Own] at h;rw [h.1] at ha;cases ha
 | .dct kvs,d,v,fp,h,a,ha=>by
  rw [Own] at h
  obtain ⟨b,_,⟨_,_,e⟩ | ⟨_,hb,e⟩⟩:=h
  ·rw [e] at ha;cases ha
  ·rw [e] at ha
   rw [List.mem_singleton.mp ha]
   exact ⟨.d kvs,hb⟩
 | .lst xs,d,v,fp,h,a,ha=>by
  rw [Own] at h
  obtain ⟨b,vs,_,⟨_,_,e,_⟩ | ⟨_,f,hb,e,_,hl⟩⟩:=h
  ·rw [e] at ha;cases ha
  ·rw [e] at ha
   rcases List.mem_cons.mp ha with z | z
   ·exact ⟨.l vs,by rw [z];exact hb⟩
   ·exact OwnL.lsts xs _ vs f hl a z
 | .tup xs,d,v,fp,h,a,ha=>by
  rw [Own] at h
  obtain ⟨b,vs,_,_,hl⟩:=h
  exact OwnL.lsts xs _ vs fp hl a ha
theorem OwnL.lsts:∀ (xs:List PV) (d:Nat) (vs:List V) (fp:List Addr),OwnL K H Z xs d vs fp→∀ a∈fp,∃ o:MO,H a=some o.ho
 | [],_,_,_,h,a,ha=>by rw [OwnL] at h;rw [h.2] at ha;cases ha
 | x::xs,d,vs,fp,h,a,ha=>by
  rw [OwnL] at h
  obtain ⟨v,r,f1,f2,_,e,_,h1,h2⟩:=h
  rw [e] at ha
  rcases List.mem_append.mp ha with z | z
  ·exact Own.lsts x d v f1 h1 a z
  ·exact OwnL.lsts xs d r f2 h2 a z
end
mutual
theorem Own.move (k:Keep S H H') (hS:∀ a,S a→Z a∧∃ o:MO,H a=some o.ho) (hz:∀ a,H a≠none→¬ Z a→¬ Z' a):
  ∀ (x:PV) (d:Nat) (v:V) (fp:List Addr),(∀ a∈fp,¬ S a)→Own K H Z x d v fp→Own K H' Z' x d v fp
 | .non,_,_,_,_,h=>by rw [Own] at h ⊢;exact h
 | .bl _,_,_,_,_,h=>by rw [Own] at h ⊢;exact h
 | .int _,_,_,_,_,h=>by rw [Own] at h ⊢;exact h
 | .str _,_,_,_,_,h=>by rw [Own] at h ⊢;exact h
 | .emp,_,_,_,_,h=>by
  rw [Own] at h ⊢
  obtain ⟨e,a,ev,ha⟩:=h
  exact ⟨e,a,ev,k a _ ha fun s=>by obtain ⟨_,o,e⟩:=hS a s;rw [ha] at e;cases o <;> cases e⟩
 | .dko,_,_,_,_,h=>by
  rw [Own] at h ⊢
  obtain ⟨e,a,ev,kvs,ha⟩:=h
  exact ⟨e,a,ev,kvs,k a _ ha fun s=>by obtain ⟨_,o,e⟩:=hS a s;rw [ha] at e;cases o <;> cases e⟩
 | .scr ns,_,_,_,_,h=>by
  rw [Own] at h ⊢
  obtain ⟨e,a,ev,⟨o,ha⟩ | ha⟩:=h
  ·exact ⟨e,a,ev,.inl ⟨o,k a _ ha fun s=>by obtain ⟨_,q,e⟩:=hS a s;rw [ha] at e;cases q <;> cases e⟩⟩
  ·exact ⟨e,a,ev,.inr ha⟩
 | .exn c,_,_,_,_,h=>by
  rw [Own] at h ⊢
  obtain ⟨e,a,C,ev,hc,ha⟩:=h
  exact ⟨e,a,C,ev,hc,k a _ ha fun s=>by obtain ⟨_,q,e⟩:=hS a s;rw [ha] at e;cases q <;> cases e⟩
 | .dct kvs,d,v,fp,hf,h=>by
  rw [Own] at h ⊢
  obtain ⟨b,ev,⟨d0,hr,e⟩ | ⟨d0,hb,e⟩⟩:=h
  ·exact ⟨b,ev,.inl ⟨d0,⟨k b _ hr.1 fun s=>hr.2 (hS b s).1,hz b (by rw [hr.1];simp) hr.2⟩,e⟩⟩
  ·exact ⟨b,ev,.inr ⟨d0,k b _ hb (hf b (by rw [e];exact List.mem_cons_self)),e⟩⟩
 | .lst xs,d,v,fp,hf,h=>by
  rw [Own] at h ⊢
  obtain ⟨b,vs,ev,⟨d0,hr,e,hl⟩ | ⟨d0,f,hb,e,nb,hl⟩⟩:=h
  ·refine ⟨b,vs,ev,.inl ⟨d0,?_,e,OwnL.move k hS hz xs 0 vs [] (fun _ z=>nomatch z) hl⟩⟩
   exact ⟨k b _ hr.1 fun s=>hr.2 (hS b s).1,hz b (by rw [hr.1];simp) hr.2⟩
  ·refine ⟨b,vs,ev,.inr ⟨d0,f,k b _ hb (hf b (by rw [e];exact List.mem_cons_self)),e,nb,?_⟩⟩
   exact OwnL.move k hS hz xs _ vs f (fun a ha=>hf a (by rw [e];exact List.mem_cons_of_mem _ ha)) hl
 | .tup xs,d,v,fp,hf,h=>by
  rw [Own] at h ⊢
  obtain ⟨b,vs,ev,hr,hl⟩:=h
  exact ⟨b,vs,ev,k b _ hr (fun s=>by obtain ⟨_,o,e⟩:=hS b s;rw [hr] at e;cases o <;> cases e),OwnL.move k hS hz xs _ vs fp hf hl⟩
theorem OwnL.move (k:Keep S H H') (hS:∀ a,S a→Z a∧∃ o:MO,H a=some o.ho) (hz:∀ a,H a≠none→¬ Z a→¬ Z' a):
  ∀ (xs:List PV) (d:Nat) (vs:List V) (fp:List Addr),(∀ a∈fp,¬ S a)→OwnL K H Z xs d vs fp→OwnL K H' Z' xs d vs fp
 | [],_,_,_,_,h=>by rw [OwnL] at h ⊢;exact h
 | x::xs,d,vs,fp,hf,h=>by
  rw [OwnL] at h ⊢
  obtain ⟨v,r,f1,f2,e1,e,dj,h1,h2⟩:=h
  exact ⟨v,r,f1,f2,e1,e,dj,Own.move k hS hz x d v f1 (fun a ha=>hf a (by rw [e];exact List.mem_append_left _ ha)) h1,OwnL.move k hS hz xs d r f2 (fun a ha=>hf a (by rw [e];exact List.mem_append_right _ ha)) h2⟩
end
mutual
theorem Own.freeze (hz:∀ a,Z' a→Z a):∀ (x:PV) (d:Nat) (v:V) (fp:List Addr),(∀ a∈fp,¬ Z' a)→Own K H Z x d v fp→Own K H Z' x 0 v []
 | .non,_,_,_,_,h=>by rw [Own] at h ⊢;exact ⟨h.1,rfl⟩
 | .bl _,_,_,_,_,h=>by rw [Own] at h ⊢;exact ⟨h.1,rfl⟩
 | .int _,_,_,_,_,h=>by rw [Own] at h ⊢;exact ⟨h.1,rfl⟩
 | .str _,_,_,_,_,h=>by rw [Own] at h ⊢;exact ⟨h.1,rfl⟩
 | .emp,_,_,_,_,h=>by rw [Own] at h ⊢;exact ⟨rfl,h.2⟩
 | .dko,_,_,_,_,h=>by rw [Own] at h ⊢;exact ⟨rfl,h.2⟩
 | .scr _,_,_,_,_,h=>by rw [Own] at h ⊢;exact ⟨rfl,h.2⟩
 | .exn _,_,_,_,_,h=>by rw [Own] at h ⊢;exact ⟨rfl,h.2⟩
 | .dct kvs,d,v,fp,hf,h=>by
  rw [Own] at h ⊢
  obtain ⟨b,ev,⟨d0,hr,e⟩ | ⟨d0,hb,e⟩⟩:=h
  ·exact ⟨b,ev,.inl ⟨rfl,⟨hr.1,fun z=>hr.2 (hz b z)⟩,rfl⟩⟩
  ·exact ⟨b,ev,.inl ⟨rfl,⟨hb,hf b (by rw [e];exact List.mem_cons_self)⟩,rfl⟩⟩
 | .lst xs,d,v,fp,hf,h=>by
  rw [Own] at h ⊢
  obtain ⟨b,vs,ev,⟨d0,hr,e,hl⟩ | ⟨d0,f,hb,e,nb,hl⟩⟩:=h
  ·refine ⟨b,vs,ev,.inl ⟨rfl,?_,rfl,OwnL.freeze hz xs 0 vs [] (fun _ z=>nomatch z) hl⟩⟩
   exact ⟨hr.1,fun z=>hr.2 (hz b z)⟩
  ·exact ⟨b,vs,ev,.inl ⟨rfl,⟨hb,hf b (by rw [e];exact List.mem_cons_self)⟩,rfl,OwnL.freeze hz xs _ vs f (fun a ha=>hf a (by rw [e];exact List.mem_cons_of_mem _ ha)) hl⟩⟩
 | .tup xs,d,v,fp,hf,h=>by
  rw [Own] at h ⊢
  obtain ⟨b,vs,ev,hr,hl⟩:=h
  exact ⟨b,vs,ev,hr,OwnL.freeze hz xs _ vs fp hf hl⟩
theorem OwnL.freeze (hz:∀ a,Z' a→Z a):∀ (xs:List PV) (d:Nat) (vs:List V) (fp:List Addr),(∀ a∈fp,¬ Z' a)→OwnL K H Z xs d vs fp→OwnL K H Z' xs 0 vs []
 | [],_,_,_,_,h=>by rw [OwnL] at h ⊢;exact ⟨h.1,rfl⟩
 | x::xs,d,vs,fp,hf,h=>by
  rw [OwnL] at h ⊢
  obtain ⟨v,r,f1,f2,e1,e,dj,h1,h2⟩:=h
  exact ⟨v,r,[],[],e1,rfl,fun _ z=>(nomatch z),Own.freeze hz x d v f1 (fun a ha=>hf a (by rw [e];exact List.mem_append_left _ ha)) h1,OwnL.freeze hz xs d r f2 (fun a ha=>hf a (by rw [e];exact List.mem_append_right _ ha)) h2⟩
end
mutual
theorem Own.full:∀ (x:PV) (v:V) (fp:List Addr),Own K H Z x om v fp→Own K H Z' x om v fp
 | .non,_,_,h=>by rw [Own] at h ⊢;exact h
 | .bl _,_,_,h=>by rw [Own] at h ⊢;exact h
 | .int _,_,_,h=>by rw [Own] at h ⊢;exact h
 | .str _,_,_,h=>by rw [Own] at h ⊢;exact h
 | .emp,_,_,h=>by rw [Own] at h ⊢;exact h
 | .dko,_,_,h=>by rw [Own] at h ⊢;exact h
 | .scr _,_,_,h=>by rw [Own] at h ⊢;exact h
 | .exn _,_,_,h=>by rw [Own] at h ⊢;exact h
 | .dct kvs,v,fp,h=>by
  rw [Own] at h ⊢
  obtain ⟨b,ev,⟨d0,_⟩ | ⟨d0,hb,e⟩⟩:=h
  ·exact absurd d0 (by decide)
  ·exact ⟨b,ev,.inr ⟨d0,hb,e⟩⟩
 | .lst xs,v,fp,h=>by
  rw [Own] at h ⊢
  obtain ⟨b,vs,ev,⟨d0,_⟩ | ⟨d0,f,hb,e,nb,hl⟩⟩:=h
  ·exact absurd d0 (by decide)
  ·exact ⟨b,vs,ev,.inr ⟨d0,f,hb,e,nb,OwnL.full xs vs f hl⟩⟩
 | .tup xs,v,fp,h=>by
  rw [Own] at h ⊢
  obtain ⟨b,vs,ev,hr,hl⟩:=h
  exact ⟨b,vs,ev,hr,OwnL.full xs vs fp hl⟩
theorem OwnL.full:∀ (xs:List PV) (vs:List V) (fp:List Addr),OwnL K H Z xs om vs fp→OwnL K H Z' xs om vs fp
 | [],_,_,h=>by rw [OwnL] at h ⊢;exact h
 | x::xs,vs,fp,h=>by
  rw [OwnL] at h ⊢
  obtain ⟨v,r,f1,f2,e1,e,dj,h1,h2⟩:=h
  exact ⟨v,r,f1,f2,e1,e,dj,Own.full x v f1 h1,OwnL.full xs r f2 h2⟩
end
theorem Own.weak (hz:∀ a,Z' a→Z a) {x:PV}{d:Nat}{v:V}{fp:List Addr} (h:Own K H Z x d v fp):Own K H Z' x d v fp:=
 Own.move (S:=fun _=>False) (fun _ _ h _=>h) (fun _ z=>z.elim) (fun a _ n z=>n (hz a z)) x d v fp (fun _ _ z=>z) h
theorem OwnL.weak (hz:∀ a,Z' a→Z a) {xs:List PV}{d:Nat}{vs:List V}{fp:List Addr} (h:OwnL K H Z xs d vs fp):OwnL K H Z' xs d vs fp:=
 OwnL.move (S:=fun _=>False) (fun _ _ h _=>h) (fun _ z=>z.elim) (fun a _ n z=>n (hz a z)) xs d vs fp (fun _ _ z=>z) h
end
abbrev Slot:=Option (PV×Nat)
abbrev Rho:=List Slot
inductive Rz (α:Type) where
 | ok (a:α) | exc (c:Nat) | no
def Rz.bind {α β:Type} (r:Rz α) (f:α→Rz β):Rz β:=match r with
 | .ok a=>f a
 | .exc c=>.exc c
 | .no=>.no
abbrev Fx:=Rho→Rz (PV×Nat×Rho)
abbrev Fa:=Rho→Rz (List (PV×Nat)×Rho)
abbrev Fb:=Rho→Rz (Bool×Rho)
structure Fm where
 K:Frag
 Ms:Nat→Bool
 Zo:Addr→Prop
 H₀:Hp
 W:St→Nat→Hp→Prop
 io:Option V
 al:Nat→List Nat
 pn:List (Nat×V):=[]
abbrev Fps:=Nat→List Addr
def Fm.Fre (M:Fm) (i:Nat):Prop:=(M.io≠none→i≠0)∧∀ p∈M.pn,p.1≠i
def Zf (M:Fm) (fps:Fps):Addr→Prop:=fun a=>M.Zo a∨∃ i,a∈fps i
def Zv (M:Fm) (vs:List Nat) (fps:Fps):Addr→Prop:=fun a=>M.Zo a∨∃ i,i∉vs∧a∈fps i
def Za (M:Fm) (fps:Fps) (i:Nat):Addr→Prop:=fun a=>M.Zo a∨∃ j,j∉M.al i∧a∈fps j
def Zt (M:Fm) (vs:List Nat) (fps:Fps) (fp:List Addr):Addr→Prop:=fun a=>Zv M vs fps a∨a∈fp
def Fm.plus (M:Fm) (fp:List Addr):Fm:={ M with Zo:=fun a=>M.Zo a∨a∈fp }
structure Rep (M:Fm) (ρ:Rho) (σ:St) (H:Hp) (fps:Fps):Prop where
 own:∀ i x d,ρ[i]?=some (some (x,d))→∃ v,σ[i]?=some (some v)∧Own M.K H (Za M fps i) x d v (fps i)
 non:∀ i,(∀ p,ρ[i]?≠some (some p))→fps i=[]
 dj:∀ i j,i≠j→∀ a∈fps i,a∉fps j
 zo:∀ i,∀ a∈fps i,¬ M.Zo a
 fr:∀ i,M.Ms i=false→∀ a∈fps i,M.H₀ a=none
 zd:∀ a,M.Zo a→H a≠none
 len:ρ.length=σ.length
 msf:∀ i x d,M.Ms i=true→ρ[i]?=some (some (x,d))→d=om
 h0:∀ a,M.H₀ a≠none→H a≠none
 iov:(∀ v,M.io=some v→σ[0]?=some (some v)∧M.Ms 0=true)∧∀ p∈M.pn,σ[p.1]?=some (some p.2)
def Agr (M:Fm) (ρ ρ':Rho):Prop:=(∀ i,M.Ms i=false→ρ'[i]?=ρ[i]?)∧ρ'.length=ρ.length
structure KD (M:Fm) (H:Hp) (fps:Fps) (H':Hp) (fps':Fps):Prop where
 keep:Keep (fun a=>∃ i,M.Ms i=true∧a∈fps i) H H'
 dom:∀ a,H a≠none→H' a≠none
 sub:∀ i,∀ a∈fps' i,a∈fps i∨H a=none
 same:∀ i,M.Ms i=false→fps' i=fps i
def Tmps (K:Frag) (H:Hp) (Z:Addr→Prop):List (PV×Nat)→List V→List Addr→Prop
 | [],vs,fp=>vs=[]∧fp=[]
 | (x,d)::xs,vs,fp=>∃ v r f1 f2,vs=v::r∧fp=f1++f2∧(∀ a∈f1,a∉f2)∧Own K H (fun a=>Z a∨a∈f1) x d v f1∧Tmps K H Z xs r f2
structure Temp (M:Fm) (vs:List Nat) (H:Hp) (H':Hp) (fps':Fps) (fp:List Addr):Prop where
 new:∀ a∈fp,H a=none
 ndj:∀ a∈fp,¬ Zf M fps' a
section
variable {M:Fm}{ρ ρ':Rho}{σ:St}{H H' H'':Hp}{fps fps' fps'':Fps}{vs vs':List Nat}
theorem Agr.refl:Agr M ρ ρ:=⟨fun _ _=>rfl,rfl⟩
theorem Agr.trans {ρ'':Rho} (a:Agr M ρ ρ') (b:Agr M ρ' ρ''):Agr M ρ ρ'':=⟨fun i hi=>(b.1 i hi).trans (a.1 i hi),b.2.trans a.2⟩
theorem KD.refl:KD M H fps H fps:=⟨fun _ _ h _=>h,fun _ h=>h,fun _ _ h=>.inl h,fun _ _=>rfl⟩
theorem KD.trans (a:KD M H fps H' fps') (b:KD M H' fps' H'' fps''):KD M H fps H'' fps'' where
 keep:=fun x o h n=>b.keep x o (a.keep x o h n) fun ⟨i,hi,hx⟩=>(a.sub i x hx).elim (fun z=>n ⟨i,hi,z⟩) fun z=>by rw [z] at h;cases h
 dom:=fun x h=>b.dom x (a.dom x h)
 sub:=fun i x hx=>(b.sub i x hx).elim (fun z=>a.sub i x z) fun z=>.inr (by
  cases e:H x with
  | none=>rfl
  | some o=>exact absurd z (a.dom x (by rw [e];simp)))
 same:=fun i hi=>(b.same i hi).trans (a.same i hi)
theorem Za.zf {i:Nat}{a:Addr} (h:Za M fps i a):Zf M fps a:=h.elim .inl fun ⟨j,_,h⟩=>.inr ⟨j,h⟩
theorem Za.of {i:Nat} (hal:M.al i=[]) {a:Addr} (h:Zf M fps a):Za M fps i a:=h.elim .inl fun ⟨j,h⟩=>.inr ⟨j,(by rw [hal];simp),h⟩
theorem Rep.own0 (r:Rep M ρ σ H fps) (hal:∀ i,M.al i=[]) (i:Nat) (x:PV) (d:Nat) (e:ρ[i]?=some (some (x,d))):∃ v,σ[i]?=some (some v)∧Own M.K H (Zf M fps) x d v (fps i):=
 let ⟨v,h1,h2⟩:=r.own i x d e;⟨v,h1,h2.weak fun _ h=>Za.of (hal i) h⟩
theorem Rep.lsts (r:Rep M ρ σ H fps) {i:Nat}{a:Addr} (h:a∈fps i):∃ o:MO,H a=some o.ho:=by
 by_cases hp:∃ p,ρ[i]?=some (some p)
 ·obtain ⟨⟨x,d⟩,e⟩:=hp
  obtain ⟨v,_,o⟩:=r.own i x d e
  exact Own.lsts x d v _ o a h
 ·rw [r.non i fun p e=>hp ⟨p,e⟩] at h;cases h
theorem Rep.zdom (r:Rep M ρ σ H fps) {a:Addr} (h:Zf M fps a):H a≠none:=by
 rcases h with h | ⟨i,h⟩
 ·exact r.zd a h
 ·obtain ⟨xs,e⟩:=r.lsts h;rw [e];simp
theorem Rep.nz (r:Rep M ρ σ H fps) {a:Addr} (h:H a=none):¬ Zf M fps a:=fun z=>r.zdom z h
theorem Zv.zf {a:Addr} (h:Zv M vs fps a):Zf M fps a:=h.elim .inl fun ⟨i,_,h⟩=>.inr ⟨i,h⟩
theorem Zv.mono (hv:∀ i∈vs',i∈vs) {a:Addr} (h:Zv M vs fps a):Zv M vs' fps a:=h.elim .inl fun ⟨i,n,h⟩=>.inr ⟨i,fun z=>n (hv i z),h⟩
theorem Zt.mono (hv:∀ i∈vs',i∈vs) {a:Addr}{fp:List Addr} (h:Zt M vs fps fp a):Zt M vs' fps fp a:=h.elim (fun h=>.inl (h.mono hv)) .inr
theorem KD.stay (k:KD M H fps H' fps') (r:Rep M ρ σ H fps) (hv:∀ i∈vs,M.Ms i=false) {x:PV}{d:Nat}{v:V}{fp:List Addr} (h:Own M.K H (Zt M vs fps fp) x d v fp) (hf:∀ a∈fp,¬ Zf M fps a):Own M.K H' (Zt M vs fps' fp) x d v fp:=by
 have h1:∀ a,(∃ i,M.Ms i=true∧a∈fps i)→Zt M vs fps fp a∧∃ o:MO,H a=some o.ho:=by
  rintro a ⟨i,hi,ha⟩
  exact ⟨.inl (.inr ⟨i,fun z=>(by rw [hv i z] at hi;cases hi),ha⟩),r.lsts ha⟩
 have h2:∀ a,H a≠none→¬ Zt M vs fps fp a→¬ Zt M vs fps' fp a:=by
  intro a hd nz z
  rcases z with (z | ⟨i,ni,hx⟩) | z
  ·exact nz (.inl (.inl z))
  ·rcases k.sub i a hx with z | z
   ·exact nz (.inl (.inr ⟨i,ni,z⟩))
   ·exact hd z
  ·exact nz (.inr z)
 exact Own.move k.keep h1 h2 x d v fp (fun a ha ⟨i,_,hx⟩=>hf a ha (.inr ⟨i,hx⟩)) h
theorem KD.stays (k:KD M H fps H' fps') (r:Rep M ρ σ H fps) (hv:∀ i∈vs,M.Ms i=false):∀ {xs:List (PV×Nat)}{ws:List V}{fp:List Addr},Tmps M.K H (Zv M vs fps) xs ws fp→(∀ a∈fp,¬ Zf M fps a)→Tmps M.K H' (Zv M vs fps') xs ws fp
 | [],_,_,h,_=>h
 | (x,d)::xs,ws,fp,h,hf=>by
  obtain ⟨v,s,f1,f2,e1,e2,dj,h1,h2⟩:=h
  exact ⟨v,s,f1,f2,e1,e2,dj,k.stay r hv h1 fun a ha=>hf a (by rw [e2];exact List.mem_append_left _ ha),k.stays r hv h2 fun a ha=>hf a (by rw [e2];exact List.mem_append_right _ ha)⟩
theorem Tmps.weak {K:Frag}{Z Z':Addr→Prop} (hz:∀ a,Z' a→Z a):∀ {xs:List (PV×Nat)}{ws:List V}{fp:List Addr},Tmps K H Z xs ws fp→Tmps K H Z' xs ws fp
 | [],_,_,h=>h
 | (x,d)::xs,ws,fp,h=>by
  obtain ⟨v,s,f1,f2,e1,e2,dj,h1,h2⟩:=h
  exact ⟨v,s,f1,f2,e1,e2,dj,h1.weak fun a h=>h.elim (fun h=>.inl (hz a h)) .inr,h2.weak hz⟩
theorem KD.grow (k:∀ a o,H a=some o→H' a=some o):KD M H fps H' fps:=⟨fun a o h _=>k a o h,fun a h=>by
 cases e:H a with
 | none=>exact absurd e h
 | some o=>rw [k a o e];simp,fun _ _ h=>.inl h,fun _ _=>rfl⟩
theorem Rep.grow (r:Rep M ρ σ H fps) (k:∀ a o,H a=some o→H' a=some o):Rep M ρ σ H' fps where
 own:=fun i x d e=>by
  obtain ⟨v,hv,o⟩:=r.own i x d e
  exact ⟨v,hv,Own.move (S:=fun _=>False) (fun a o h _=>k a o h) (fun _ z=>z.elim) (fun _ _ n=>n) x d v _ (fun _ _ z=>z) o⟩
 non:=r.non
 dj:=r.dj
 zo:=r.zo
 fr:=r.fr
 zd:=fun a h=>(KD.grow (M:=M) (fps:=fps) k).dom a (r.zd a h)
 len:=r.len
 msf:=r.msf
 h0:=fun a h=>(KD.grow (M:=M) (fps:=fps) k).dom a (r.h0 a h)
 iov:=r.iov
end
def tE (M:Fm) (f:Fx) (vs:List Nat):TE:=fun σ H Q=>∃ ρ fps,Rep M ρ σ H fps∧(match f ρ with
 | .ok (x,d,ρ')=>∀ v H' fps' fp,KD M H fps H' fps'→Agr M ρ ρ'→Rep M ρ' σ H' fps'→Own M.K H' (Zt M vs fps' fp) x d v fp→Temp M vs H H' fps' fp→Q v H'
 | .exc c=>∀ H' fps',KD M H fps H' fps'→M.W σ c H'
 | .no=>False)
def tL (M:Fm) (f:Fa) (vs:List Nat):TA:=fun σ H Q=>∃ ρ fps,Rep M ρ σ H fps∧(match f ρ with
 | .ok (xs,ρ')=>∀ ws H' fps' fp,KD M H fps H' fps'→Agr M ρ ρ'→Rep M ρ' σ H' fps'→Tmps M.K H' (Zv M vs fps') xs ws fp→Temp M vs H H' fps' fp→Q ws H'
 | .exc c=>∀ H' fps',KD M H fps H' fps'→M.W σ c H'
 | .no=>False)
def tT (M:Fm) (f:Fb):TT:=fun σ H Q=>∃ ρ fps,Rep M ρ σ H fps∧(match f ρ with
 | .ok (b,ρ')=>∀ H' fps',KD M H fps H' fps'→Agr M ρ ρ'→Rep M ρ' σ H' fps'→Q b H'
 | .exc c=>∀ H' fps',KD M H fps H' fps'→M.W σ c H'
 | .no=>False)
def Leaf (M:Fm) (H:Hp) (fps:Fps) (vs:List Nat) (F:List Addr) (z:PV) (d:Nat) (Q:VK):Prop:=
 ∀ u H' fp,(∀ a o,H a=some o→H' a=some o)→Own M.K H' (Zt M vs fps fp) z d u fp→(∀ a∈fp,a∈F∨H a=none)→Q u H'
section
variable {M:Fm}{ρ ρ':Rho}{σ:St}{H H' H'':Hp}{fps fps' fps'':Fps}{vs vs':List Nat}{f g:Fx}{fa:Fa}{fb:Fb}{Q:VK}
def bC (x:PV):Fx:=fun ρ=>.ok (x,om,ρ)
theorem tE_atom {x:PV}{v:V} (h:∀ K H Z,Own K H Z x om v []) {σ:St}{H:Hp}{Q:VK} (hq:tE M (bC x) [] σ H Q):tC v σ H Q:=by
 obtain ⟨ρ,fps,rep,q⟩:=hq
 exact q v H fps [] KD.refl Agr.refl rep (h _ _ _) ⟨fun _ z=>(nomatch z),fun _ z=>nomatch z⟩
def dv:PV→Nat
 | .lst _=>0
 | .tup _=>0
 | .dct _=>0
 | _=>om
def bVar (i:Nat):Fx:=fun ρ=>match ρ[i]? with
 | some (some (x,_))=>.ok (x,dv x,ρ)
 | _=>.no
theorem Own.view {K:Frag}{Z Z':Addr→Prop}{x:PV}{d:Nat}{v:V}{fp:List Addr} (hz:∀ a,Z' a→Z a) (hf:∀ a∈fp,¬ Z' a) (h:Own K H Z x d v fp):Own K H Z' x (dv x) v []:=by
 have q:=Own.freeze hz x d v fp hf h
 cases x with
 | lst xs=>exact q
 | tup xs=>exact q
 | dct kvs=>exact q
 | exn _=>rw [Own] at q ⊢;exact q
 | non=>rw [Own] at q ⊢;exact q
 | bl _=>rw [Own] at q ⊢;exact q
 | int _=>rw [Own] at q ⊢;exact q
 | str _=>rw [Own] at q ⊢;exact q
 | emp=>rw [Own] at q ⊢;exact q
 | dko=>rw [Own] at q ⊢;exact q
 | scr _=>rw [Own] at q ⊢;exact q
theorem tE_var {i:Nat}{σ:St}{H:Hp}{Q:VK} (hq:tE M (bVar i) (i::M.al i) σ H Q):tVar i σ H Q:=by
 obtain ⟨ρ,fps,rep,q⟩:=hq
 unfold bVar at q
 cases e0:ρ[i]? with
 | none=>rw [e0] at q;exact q.elim
 | some sl=>
  cases sl with
  | none=>rw [e0] at q;exact q.elim
  | some p=>
   obtain ⟨x0,d0⟩:=p
   rw [e0] at q
   obtain ⟨v,hv,o⟩:=rep.own i x0 d0 e0
   refine ⟨v,hv,q v H fps [] KD.refl Agr.refl rep ((o.view (Z':=Zv M (i::M.al i) fps) (fun a h=>h.elim .inl fun ⟨j,n,h⟩=>.inr ⟨j,fun z=>n (List.mem_cons_of_mem _ z),h⟩) fun a ha z=>?_).weak fun a h=>h.elim id fun z=>nomatch z) ⟨fun _ z=>(nomatch z),fun _ z=>nomatch z⟩⟩
   rcases z with z | ⟨j,nj,hj⟩
   ·exact rep.zo i a ha z
   ·exact rep.dj i j (fun e=>nj (by simp [e])) a ha hj
def bBin (op:PV→Nat→PV→Nat→Option (PV×Nat)) (f g:Fx):Fx:=fun ρ=>(f ρ).bind fun (x,d,ρ1)=>(g ρ1).bind fun (y,e,ρ2)=>match op x d y e with
 | some (z,c)=>.ok (z,c,ρ2)
 | none=>.no
theorem tE_bin {op:PV→Nat→PV→Nat→Option (PV×Nat)}{r:R2} (hv:∀ i∈vs,M.Ms i=false)
  (leaf:∀ x d y e z c v w H fps f1 f2 Q,op x d y e=some (z,c)→Own M.K H (Zt M (vs++vs') fps f1) x d v f1→Own M.K H (Zt M (vs++vs') fps f2) y e w f2→(∀ a∈f1,a∉f2)→(∀ a∈f1++f2,¬ Zf M fps a)→(∀ a,Zf M fps a→H a≠none)→Leaf M H fps (vs++vs') (f1++f2) z c Q→r v w H Q)
  {σ:St}{H:Hp}{Q:VK} (hq:tE M (bBin op f g) (vs++vs') σ H Q):tOp r (tE M f vs) (tE M g vs') σ H Q:=by
 obtain ⟨ρ,fps,rep,q⟩:=hq
 refine ⟨ρ,fps,rep,?_⟩
 unfold bBin at q
 cases ef:f ρ with
 | no=>rw [ef] at q;exact q
 | exc c=>rw [ef] at q;exact q
 | ok p=>
  obtain ⟨x,d,ρ1⟩:=p
  rw [ef] at q
  intro v H1 fps1 f1 k1 g1 rep1 o1 t1
  refine ⟨ρ1,fps1,rep1,?_⟩
  dsimp only [Rz.bind] at q
  cases eg:g ρ1 with
  | no=>rw [eg] at q;exact q
  | exc c=>rw [eg] at q;exact fun H' fps' k=>q H' fps' (k1.trans k)
  | ok p2=>
   obtain ⟨y,e,ρ2⟩:=p2
   rw [eg] at q
   intro w H2 fps2 f2 k2 g2 rep2 o2 t2
   dsimp only at q
   cases eo:op x d y e with
   | none=>rw [eo] at q;exact q.elim
   | some zc=>
    obtain ⟨z,c⟩:=zc
    rw [eo] at q
    have o1':=k2.stay rep1 hv o1 t1.ndj
    have n1:∀ a∈f1,¬ Zf M fps2 a:=fun a ha z=>by
     rcases z with z | ⟨i,z⟩
     ·exact t1.ndj a ha (.inl z)
     ·rcases k2.sub i a z with z | z
      ·exact t1.ndj a ha (.inr ⟨i,z⟩)
      ·obtain ⟨xs,e⟩:=Own.lsts x d v f1 o1 a ha
       rw [z] at e;cases e
    refine leaf x d y e z c v w H2 fps2 f1 f2 Q eo (o1'.weak fun a h=>Zt.mono (fun i hi=>List.mem_append_left _ hi) h) (o2.weak fun a h=>Zt.mono (fun i hi=>List.mem_append_right _ hi) h) (fun a h1 h2=>?_) (fun a ha=>?_) (fun a h=>rep2.zdom h) fun u H3 fp k3 o3 hfp=>?_
    ·obtain ⟨xs,e⟩:=Own.lsts x d v f1 o1 a h1
     rw [t2.new a h2] at e;cases e
    ·rcases List.mem_append.mp ha with z | z
     ·exact n1 a z
     ·exact t2.ndj a z
    ·have new:∀ a∈fp,H a=none:=fun a ha=>by
      have back:H1 a=none→H a=none:=fun e=>by
       cases e':H a with
       | none=>rfl
       | some o=>exact absurd e (k1.dom a (by rw [e'];simp))
      have back2:H2 a=none→H1 a=none:=fun e=>by
       cases e':H1 a with
       | none=>rfl
       | some o=>exact absurd e (k2.dom a (by rw [e'];simp))
      rcases hfp a ha with z | z
      ·rcases List.mem_append.mp z with z | z
       ·exact t1.new a z
       ·exact back (t2.new a z)
      ·exact back (back2 z)
     refine q u H3 fps2 fp ((k1.trans k2).trans (KD.grow k3)) (g1.trans g2) (rep2.grow k3) o3 ⟨new,fun a ha=>?_⟩
     rcases hfp a ha with z | z
     ·rcases List.mem_append.mp z with z | z
      ·exact n1 a z
      ·exact t2.ndj a z
     ·exact rep2.nz z
end
section
variable {M:Fm}{vs vs':List Nat}{f g:Fx}{fa:Fa}{fb gb:Fb}
def bUn (op:PV→Nat→Option (PV×Nat)) (f:Fx):Fx:=fun ρ=>(f ρ).bind fun (x,d,ρ1)=>match op x d with
 | some (z,c)=>.ok (z,c,ρ1)
 | none=>.no
theorem tE_un {op:PV→Nat→Option (PV×Nat)}{r:V→Hp→VK→Prop}
  (leaf:∀ x d z c v H fps f1 Q,op x d=some (z,c)→Own M.K H (Zt M vs fps f1) x d v f1→(∀ a∈f1,¬ Zf M fps a)→(∀ a,Zf M fps a→H a≠none)→Leaf M H fps vs f1 z c Q→r v H Q)
  {σ:St}{H:Hp}{Q:VK} (hq:tE M (bUn op f) vs σ H Q):tUn r (tE M f vs) σ H Q:=by
 obtain ⟨ρ,fps,rep,q⟩:=hq
 refine ⟨ρ,fps,rep,?_⟩
 unfold bUn at q
 cases ef:f ρ with
 | no=>rw [ef] at q;exact q
 | exc c=>rw [ef] at q;exact q
 | ok p=>
  obtain ⟨x,d,ρ1⟩:=p
  rw [ef] at q
  intro v H1 fps1 f1 k1 g1 rep1 o1 t1
  dsimp only [Rz.bind] at q
  cases eo:op x d with
  | none=>rw [eo] at q;exact q.elim
  | some zc=>
   obtain ⟨z,c⟩:=zc
   rw [eo] at q
   refine leaf x d z c v H1 fps1 f1 Q eo o1 t1.ndj (fun a h=>rep1.zdom h) fun u H3 fp k3 o3 hfp=>?_
   have back:∀ a,H1 a=none→H a=none:=fun a e=>by
    cases e':H a with
    | none=>rfl
    | some o=>exact absurd e (k1.dom a (by rw [e'];simp))
   refine q u H3 fps1 fp (k1.trans (KD.grow k3)) g1 (rep1.grow k3) o3 ⟨fun a ha=>(hfp a ha).elim (t1.new a) (back a),fun a ha=>(hfp a ha).elim (t1.ndj a) fun z=>rep1.nz z⟩
def aNil:Fa:=fun ρ=>.ok ([],ρ)
def aCons (f:Fx) (fa:Fa):Fa:=fun ρ=>(f ρ).bind fun (x,d,ρ1)=>(fa ρ1).bind fun (xs,ρ2)=>.ok ((x,d)::xs,ρ2)
theorem tL_nil {σ:St}{H:Hp}{Q:List V→Hp→Prop} (hq:tL M aNil [] σ H Q):tNil σ H Q:=by
 obtain ⟨ρ,fps,rep,q⟩:=hq
 exact q [] H fps [] KD.refl Agr.refl rep ⟨rfl,rfl⟩ ⟨fun _ z=>(nomatch z),fun _ z=>nomatch z⟩
theorem tL_cons (hv:∀ i∈vs,M.Ms i=false) {σ:St}{H:Hp}{Q:List V→Hp→Prop} (hq:tL M (aCons f fa) (vs++vs') σ H Q):tCons (tE M f vs) (tL M fa vs') σ H Q:=by
 obtain ⟨ρ,fps,rep,q⟩:=hq
 refine ⟨ρ,fps,rep,?_⟩
 unfold aCons at q
 cases ef:f ρ with
 | no=>rw [ef] at q;exact q
 | exc c=>rw [ef] at q;exact q
 | ok p=>
  obtain ⟨x,d,ρ1⟩:=p
  rw [ef] at q
  intro v H1 fps1 f1 k1 g1 rep1 o1 t1
  refine ⟨ρ1,fps1,rep1,?_⟩
  dsimp only [Rz.bind] at q
  cases eg:fa ρ1 with
  | no=>rw [eg] at q;exact q
  | exc c=>rw [eg] at q;exact fun H' fps' k=>q H' fps' (k1.trans k)
  | ok p2=>
   obtain ⟨ys,ρ2⟩:=p2
   rw [eg] at q
   intro ws H2 fps2 f2 k2 g2 rep2 o2 t2
   dsimp only at q
   have o1':=k2.stay rep1 hv o1 t1.ndj
   have n1:∀ a∈f1,¬ Zf M fps2 a:=fun a ha z=>by
    rcases z with z | ⟨i,z⟩
    ·exact t1.ndj a ha (.inl z)
    ·rcases k2.sub i a z with z | z
     ·exact t1.ndj a ha (.inr ⟨i,z⟩)
     ·obtain ⟨xs,e⟩:=Own.lsts x d v f1 o1 a ha
      rw [z] at e;cases e
   have back:∀ a,H1 a=none→H a=none:=fun a e=>by
    cases e':H a with
    | none=>rfl
    | some o=>exact absurd e (k1.dom a (by rw [e'];simp))
   refine q (v::ws) H2 fps2 (f1++f2) (k1.trans k2) (g1.trans g2) rep2 ⟨v,ws,f1,f2,rfl,rfl,fun a h1 h2=>?_,o1'.weak fun a h=>Zt.mono (fun i hi=>List.mem_append_left _ hi) h,o2.weak fun a h=>h.mono fun i hi=>List.mem_append_right _ hi⟩ ⟨fun a ha=>?_,fun a ha=>?_⟩
   ·obtain ⟨xs,e⟩:=Own.lsts x d v f1 o1 a h1
    rw [t2.new a h2] at e;cases e
   ·rcases List.mem_append.mp ha with z | z
    ·exact t1.new a z
    ·exact back a (t2.new a z)
   ·rcases List.mem_append.mp ha with z | z
    ·exact n1 a z
    ·exact t2.ndj a z
def bArgs (op:List (PV×Nat)→Option (PV×Nat)) (fa:Fa):Fx:=fun ρ=>(fa ρ).bind fun (xs,ρ1)=>match op xs with
 | some (z,c)=>.ok (z,c,ρ1)
 | none=>.no
theorem tL_then {op:List (PV×Nat)→Option (PV×Nat)}{r:List V→Hp→VK→Prop}
  (leaf:∀ xs z c ws H fps fp Q,op xs=some (z,c)→Tmps M.K H (Zv M vs fps) xs ws fp→(∀ a∈fp,¬ Zf M fps a)→(∀ a,Zf M fps a→H a≠none)→Leaf M H fps vs fp z c Q→r ws H Q)
  {σ:St}{H:Hp}{Q:VK} (hq:tE M (bArgs op fa) vs σ H Q):tL M fa vs σ H fun ws H1=>r ws H1 Q:=by
 obtain ⟨ρ,fps,rep,q⟩:=hq
 refine ⟨ρ,fps,rep,?_⟩
 unfold bArgs at q
 cases ef:fa ρ with
 | no=>rw [ef] at q;exact q
 | exc c=>rw [ef] at q;exact q
 | ok p=>
  obtain ⟨xs,ρ1⟩:=p
  rw [ef] at q
  intro ws H1 fps1 f1 k1 g1 rep1 o1 t1
  dsimp only [Rz.bind] at q
  cases eo:op xs with
  | none=>rw [eo] at q;exact q.elim
  | some zc=>
   obtain ⟨z,c⟩:=zc
   rw [eo] at q
   refine leaf xs z c ws H1 fps1 f1 Q eo o1 t1.ndj (fun a h=>rep1.zdom h) fun u H3 fp k3 o3 hfp=>?_
   have back:∀ a,H1 a=none→H a=none:=fun a e=>by
    cases e':H a with
    | none=>rfl
    | some o=>exact absurd e (k1.dom a (by rw [e'];simp))
   refine q u H3 fps1 fp (k1.trans (KD.grow k3)) g1 (rep1.grow k3) o3 ⟨fun a ha=>(hfp a ha).elim (t1.new a) (back a),fun a ha=>(hfp a ha).elim (t1.ndj a) fun z=>rep1.nz z⟩
def bT (f:Fx):Fb:=fun ρ=>(f ρ).bind fun (x,_,ρ1)=>match x with
 | .bl b=>.ok (b,ρ1)
 | _=>.no
theorem tT_val {σ:St}{H:Hp}{Q:Bool→Hp→Prop} (hq:tT M (bT f) σ H Q):tB (tE M f vs) σ H Q:=by
 obtain ⟨ρ,fps,rep,q⟩:=hq
 refine ⟨ρ,fps,rep,?_⟩
 unfold bT at q
 cases ef:f ρ with
 | no=>rw [ef] at q;exact q
 | exc c=>rw [ef] at q;exact q
 | ok p=>
  obtain ⟨x,d,ρ1⟩:=p
  rw [ef] at q
  intro v H1 fps1 f1 k1 g1 rep1 o1 t1
  dsimp only [Rz.bind] at q
  cases x with
  | bl b=>
   rw [Own] at o1
   exact ⟨b,o1.1,q H1 fps1 k1 g1 rep1⟩
  | _=>exact q.elim
def bV (f:Fb):Fx:=fun ρ=>(f ρ).bind fun (b,ρ1)=>.ok (.bl b,om,ρ1)
def bAnd (f g:Fb):Fb:=fun ρ=>(f ρ).bind fun (b,ρ1)=>if b=true then g ρ1 else .ok (false,ρ1)
def bOr (f g:Fb):Fb:=fun ρ=>(f ρ).bind fun (b,ρ1)=>if b=true then .ok (true,ρ1) else g ρ1
def bNot (f:Fb):Fb:=fun ρ=>(f ρ).bind fun (b,ρ1)=>.ok (!b,ρ1)
theorem tT_and {σ:St}{H:Hp}{Q:Bool→Hp→Prop} (hq:tT M (bAnd fb gb) σ H Q):tAnd (tT M fb) (tT M gb) σ H Q:=by
 obtain ⟨ρ,fps,rep,q⟩:=hq
 refine ⟨ρ,fps,rep,?_⟩
 unfold bAnd at q
 cases ef:fb ρ with
 | no=>rw [ef] at q;exact q
 | exc c=>rw [ef] at q;exact q
 | ok p=>
  obtain ⟨b,ρ1⟩:=p
  rw [ef] at q
  intro H1 fps1 k1 g1 rep1
  dsimp only [Rz.bind] at q
  cases b with
  | false=>exact (q H1 fps1 k1 g1 rep1)
  | true=>
   refine ⟨ρ1,fps1,rep1,?_⟩
   rw [if_pos rfl] at q
   cases eg:gb ρ1 with
   | no=>rw [eg] at q;exact q
   | exc c=>rw [eg] at q;exact fun H' fps' k=>q H' fps' (k1.trans k)
   | ok p2=>rw [eg] at q;exact fun H' fps' k g r=>q H' fps' (k1.trans k) (g1.trans g) r
theorem tT_or {σ:St}{H:Hp}{Q:Bool→Hp→Prop} (hq:tT M (bOr fb gb) σ H Q):tOr (tT M fb) (tT M gb) σ H Q:=by
 obtain ⟨ρ,fps,rep,q⟩:=hq
 refine ⟨ρ,fps,rep,?_⟩
 unfold bOr at q
 cases ef:fb ρ with
 | no=>rw [ef] at q;exact q
 | exc c=>rw [ef] at q;exact q
 | ok p=>
  obtain ⟨b,ρ1⟩:=p
  rw [ef] at q
  intro H1 fps1 k1 g1 rep1
  dsimp only [Rz.bind] at q
  cases b with
  | true=>exact (q H1 fps1 k1 g1 rep1)
  | false=>
   refine ⟨ρ1,fps1,rep1,?_⟩
   rw [if_neg Bool.false_ne_true] at q
   cases eg:gb ρ1 with
   | no=>rw [eg] at q;exact q
   | exc c=>rw [eg] at q;exact fun H' fps' k=>q H' fps' (k1.trans k)
   | ok p2=>rw [eg] at q;exact fun H' fps' k g r=>q H' fps' (k1.trans k) (g1.trans g) r
theorem tT_not {σ:St}{H:Hp}{Q:Bool→Hp→Prop} (hq:tT M (bNot fb) σ H Q):tNot (tT M fb) σ H Q:=by
 obtain ⟨ρ,fps,rep,q⟩:=hq
 refine ⟨ρ,fps,rep,?_⟩
 unfold bNot at q
 cases ef:fb ρ with
 | no=>rw [ef] at q;exact q
 | exc c=>rw [ef] at q;exact q
 | ok p=>obtain ⟨b,ρ1⟩:=p;rw [ef] at q;exact q
theorem Tmps.all {K:Frag}{H:Hp}{Z:Addr→Prop}:∀ {xs:List (PV×Nat)}{ws:List V}{fp:List Addr},Tmps K H Z xs ws fp→(∀ p∈xs,p.2=om)→OwnL K H Z (xs.map (·.1)) om ws fp
 | [],_,_,h,_=>by rw [List.map_nil,OwnL];exact h
 | (x,d)::xs,ws,fp,h,ha=>by
  obtain ⟨v,s,f1,f2,e1,e2,dj,h1,h2⟩:=h
  have e:d=om:=ha (x,d) List.mem_cons_self
  subst e
  rw [List.map_cons,OwnL]
  exact ⟨v,s,f1,f2,e1,e2,dj,Own.full x v f1 h1,h2.all fun p hp=>ha p (List.mem_cons_of_mem _ hp)⟩
theorem Tmps.cold {K:Frag}{H:Hp}{Z:Addr→Prop}:∀ {xs:List (PV×Nat)}{ws:List V}{fp:List Addr},Tmps K H Z xs ws fp→(∀ a∈fp,¬ Z a)→OwnL K H Z (xs.map (·.1)) 0 ws []
 | [],_,_,h,_=>by rw [List.map_nil,OwnL];exact ⟨h.1,rfl⟩
 | (x,d)::xs,ws,fp,h,ha=>by
  obtain ⟨v,s,f1,f2,e1,e2,dj,h1,h2⟩:=h
  rw [List.map_cons,OwnL]
  exact ⟨v,s,[],[],e1,rfl,fun _ z=>(nomatch z),Own.freeze (fun _ z=>.inl z) x d v f1 (fun a z=>ha a (by rw [e2];exact List.mem_append_left _ z)) h1,h2.cold fun a z=>ha a (by rw [e2];exact List.mem_append_right _ z)⟩
theorem Tmps.length {K:Frag}{H:Hp}{Z:Addr→Prop}:∀ {xs:List (PV×Nat)}{ws:List V}{fp:List Addr},Tmps K H Z xs ws fp→ws.length=xs.length
 | [],_,_,h=>by rw [h.1];rfl
 | (x,d)::xs,ws,fp,h=>by
  obtain ⟨v,s,f1,f2,e1,e2,dj,h1,h2⟩:=h
  rw [e1,List.length_cons,List.length_cons,h2.length]
theorem OwnL.length {K:Frag}{H:Hp}{Z:Addr→Prop}:∀ {xs:List PV}{d:Nat}{ws:List V}{fp:List Addr},OwnL K H Z xs d ws fp→ws.length=xs.length
 | [],_,_,_,h=>by rw [OwnL] at h;rw [h.1];rfl
 | x::xs,d,ws,fp,h=>by
  rw [OwnL] at h
  obtain ⟨v,s,f1,f2,e1,e2,dj,h1,h2⟩:=h
  rw [e1,List.length_cons,List.length_cons,h2.length]
end
inductive Rs where
 | nx (ρ:Rho) | rt (x:PV) (d:Nat) (ρ:Rho) | bk (ρ:Rho) | ct (ρ:Rho) | exc (c:Nat) | no
abbrev Fs:=Rho→Rs
structure KS (M:Fm) (H:Hp) (fps:Fps) (H':Hp) (fps':Fps):Prop where
 keep:Keep (fun a=>∃ i,a∈fps i) H H'
 dom:∀ a,H a≠none→H' a≠none
 sub:∀ i,∀ a∈fps' i,(∃ j,a∈fps j)∨H a=none
def Zr (M:Fm) (fps:Fps):Addr→Prop:=fun a=>M.Zo a∨(M.io≠none∧a∈fps 0)
def RsOk (M:Fm) (D:Ends) (H:Hp) (fps:Fps):Rs→Prop
 | .nx ρ'=>∀ σ' H' fps',KS M H fps H' fps'→Rep M ρ' σ' H' fps'→D.nx σ' H'
 | .bk ρ'=>∀ σ' H' fps',KS M H fps H' fps'→Rep M ρ' σ' H' fps'→D.bk σ' H'
 | .ct ρ'=>∀ σ' H' fps',KS M H fps H' fps'→Rep M ρ' σ' H' fps'→D.ct σ' H'
 | .rt x d ρ'=>∀ v σ' H' fps' fp,KS M H fps H' fps'→Rep M ρ' σ' H' fps'→Own M.K H' (fun a=>Zr M fps' a∨a∈fp) x d v fp→(∀ a∈fp,M.H₀ a=none∧¬ Zr M fps' a)→D.rt v H'
 | .exc c=>∀ σ' H' fps',KS M H fps H' fps'→M.W σ' c H'
 | .no=>False
def tS (M:Fm) (f:Fs):TS:=fun D σ H=>∃ ρ fps,Rep M ρ σ H fps∧RsOk M D H fps (f ρ)
section
variable {M:Fm}{ρ ρ':Rho}{σ σ':St}{H H' H'':Hp}{fps fps' fps'':Fps}{vs vs':List Nat}
theorem KS.refl:KS M H fps H fps:=⟨fun _ _ h _=>h,fun _ h=>h,fun i _ h=>.inl ⟨i,h⟩⟩
theorem KD.ks (k:KD M H fps H' fps'):KS M H fps H' fps':=⟨fun a o h n=>k.keep a o h fun ⟨i,_,z⟩=>n ⟨i,z⟩,k.dom,fun i a h=>(k.sub i a h).elim (fun z=>.inl ⟨i,z⟩) .inr⟩
theorem KS.trans (a:KS M H fps H' fps') (b:KS M H' fps' H'' fps''):KS M H fps H'' fps'' where
 keep:=fun x o h n=>b.keep x o (a.keep x o h n) fun ⟨i,hx⟩=>(a.sub i x hx).elim (fun z=>n z) fun z=>by rw [z] at h;cases h
 dom:=fun x h=>b.dom x (a.dom x h)
 sub:=fun i x hx=>(b.sub i x hx).elim (fun ⟨j,z⟩=>a.sub j x z) fun z=>.inr (by
  cases e:H x with
  | none=>rfl
  | some o=>exact absurd z (a.dom x (by rw [e];simp)))
theorem KS.stay0 (k:KS M H fps H' fps') (r:Rep M ρ σ H fps) {x:PV}{v:V} (h:Own M.K H (Zf M fps) x 0 v []):Own M.K H' (Zf M fps') x 0 v []:=by
 refine Own.move k.keep (fun a ⟨i,ha⟩=>⟨.inr ⟨i,ha⟩,r.lsts ha⟩) ?_ x 0 v [] (fun _ z=>nomatch z) h
 intro a hd nz z
 rcases z with z | ⟨i,hx⟩
 ·exact nz (.inl z)
 ·rcases k.sub i a hx with z | z
  ·exact nz (.inr z)
  ·exact hd z
def sNil:Fs:=fun ρ=>.nx ρ
def sSeq (f g:Fs):Fs:=fun ρ=>match f ρ with
 | .nx ρ1=>g ρ1
 | r=>r
theorem tS_nil {D:Ends} (hq:tS M sNil D σ H):tNext D σ H:=by
 obtain ⟨ρ,fps,rep,q⟩:=hq
 exact q σ H fps KS.refl rep
def sIf (c:Fb) (f g:Fs):Fs:=fun ρ=>match c ρ with
 | .ok (b,ρ1)=>if b=true then f ρ1 else g ρ1
 | .exc e=>.exc e
 | .no=>.no
theorem RsOk.from {D:Ends}{r:Rs} (k1:KS M H fps H' fps') (q:RsOk M D H fps r):RsOk M D H' fps' r:=by
 cases r with
 | no=>exact q
 | exc c=>exact fun σ' H' fps' k=>q σ' H' fps' (k1.trans k)
 | rt x d ρ2=>exact fun v σ' H' fps' fp k=>q v σ' H' fps' fp (k1.trans k)
 | bk ρ2=>exact fun σ' H' fps' k=>q σ' H' fps' (k1.trans k)
 | ct ρ2=>exact fun σ' H' fps' k=>q σ' H' fps' (k1.trans k)
 | nx ρ2=>exact fun σ' H' fps' k=>q σ' H' fps' (k1.trans k)
theorem tS_seq {f g:Fs}{D:Ends} (hq:tS M (sSeq f g) D σ H):tSeq (tS M f) (tS M g) D σ H:=by
 obtain ⟨ρ,fps,rep,q⟩:=hq
 refine ⟨ρ,fps,rep,?_⟩
 unfold sSeq at q
 cases ef:f ρ with
 | no=>rw [ef] at q;exact q
 | exc c=>rw [ef] at q;exact q
 | rt x d ρ1=>rw [ef] at q;exact q
 | bk ρ1=>rw [ef] at q;exact q
 | ct ρ1=>rw [ef] at q;exact q
 | nx ρ1=>
  rw [ef] at q
  exact fun σ1 H1 fps1 k1 rep1=>⟨ρ1,fps1,rep1,RsOk.from k1 q⟩
theorem tS_if {c:Fb}{f g:Fs}{D:Ends} (hq:tS M (sIf c f g) D σ H):tIfS (tT M c) (tS M f) (tS M g) D σ H:=by
 obtain ⟨ρ,fps,rep,q⟩:=hq
 refine ⟨ρ,fps,rep,?_⟩
 unfold sIf at q
 cases ef:c ρ with
 | no=>rw [ef] at q;exact q
 | exc c=>rw [ef] at q;exact fun H' fps' k=>q _ H' fps' k.ks
 | ok p=>
  obtain ⟨b,ρ1⟩:=p
  rw [ef] at q
  intro H1 fps1 k1 g1 rep1
  dsimp only at q
  cases b with
  | true=>
   rw [if_pos rfl] at q ⊢
   exact ⟨ρ1,fps1,rep1,RsOk.from k1.ks q⟩
  | false=>
   rw [if_neg Bool.false_ne_true] at q ⊢
   exact ⟨ρ1,fps1,rep1,RsOk.from k1.ks q⟩
def cool (vs:List Nat):Nat→Rho→Rho
 | _,[]=>[]
 | k,s::r=>(if vs.contains k then s.map fun p=>(p.1,0) else s)::cool vs (k + 1) r
def coolIf (d:Nat) (vs:List Nat) (ρ:Rho):Rho:=if d=om then ρ else cool vs 0 ρ
theorem cool_get (vs:List Nat):∀ (ρ:Rho) (k i:Nat),(cool vs k ρ)[i]?=(ρ[i]?).map fun s=>if vs.contains (k + i) then s.map fun p=>(p.1,0) else s
 | [],k,i=>by simp [cool]
 | s::r,k,0=>by simp [cool]
 | s::r,k,i + 1=>by
  rw [cool,List.getElem?_cons_succ,cool_get vs r (k + 1) i,List.getElem?_cons_succ]
  have:k + 1 + i=k + (i + 1):=by omega
  rw [this]
theorem cool_len (vs:List Nat):∀ (ρ:Rho) (k:Nat),(cool vs k ρ).length=ρ.length
 | [],_=>rfl
 | s::r,k=>by rw [cool,List.length_cons,cool_len vs r (k + 1),List.length_cons]
def fcool (vs:List Nat) (fps:Fps):Fps:=fun i=>if vs.contains i then [] else fps i
theorem fcool_sub {a:Addr}{i:Nat} (h:a∈fcool vs fps i):a∈fps i∧i∉vs:=by
 unfold fcool at h
 split at h
 ·cases h
 ·rename_i n;exact ⟨h,fun z=>n (by simpa using z)⟩
theorem Zf_cool {a:Addr} (h:Zf M (fcool vs fps) a):Zv M vs fps a:=h.elim .inl fun ⟨i,z⟩=>.inr ⟨i,(fcool_sub z).2,(fcool_sub z).1⟩
theorem Rep.cool (r:Rep M ρ σ H fps) (hal:∀ i,M.al i=[]) (hv:∀ i∈vs,M.Ms i=false):Rep M (cool vs 0 ρ) σ H (fcool vs fps) where
 own:=fun i x d e=>by
  rw [cool_get] at e
  cases e1:ρ[i]? with
  | none=>rw [e1] at e;cases e
  | some s=>
   rw [e1] at e
   simp only [Option.map_some,Nat.zero_add] at e
   by_cases hc:vs.contains i=true
   ·rw [if_pos hc] at e
    cases s with
    | none=>cases e
    | some p=>
     obtain ⟨x0,d0⟩:=p
     simp only [Option.map_some,Option.some.injEq,Prod.mk.injEq] at e
     obtain ⟨rfl,rfl⟩:=e
     obtain ⟨v,hσ,o⟩:=r.own0 hal i x0 d0 e1
     refine ⟨v,hσ,Own.weak (Z:=Zf M (fcool vs fps)) (fun a h=>h.zf) ?_⟩
     have:fcool vs fps i=[]:=by unfold fcool;rw [if_pos hc]
     rw [this]
     exact Own.freeze (fun a h=>Zv.zf (Zf_cool h)) x0 d0 v _ (fun a ha z=>by
      rcases z with z | ⟨j,z⟩
      ·exact r.zo i a ha z
      ·obtain ⟨z1,z2⟩:=fcool_sub z
       exact r.dj i j (fun e=>z2 (by rw [← e];simpa using hc)) a ha z1) o
   ·rw [if_neg hc] at e
    cases e
    obtain ⟨v,hσ,o⟩:=r.own0 hal i x d e1
    refine ⟨v,hσ,Own.weak (Z:=Zf M (fcool vs fps)) (fun a h=>h.zf) ?_⟩
    have:fcool vs fps i=fps i:=by unfold fcool;rw [if_neg hc]
    rw [this]
    exact o.weak fun a h=>Zv.zf (Zf_cool h)
 non:=fun i h=>by
  unfold fcool
  split
  ·rfl
  ·rename_i hc
   refine r.non i fun p e=>h p ?_
   rw [cool_get,e]
   simp only [Option.map_some,Nat.zero_add]
   rw [if_neg hc]
 dj:=fun i j hij a ha hb=>r.dj i j hij a (fcool_sub ha).1 (fcool_sub hb).1
 zo:=fun i a ha=>r.zo i a (fcool_sub ha).1
 fr:=fun i hi a ha=>r.fr i hi a (fcool_sub ha).1
 zd:=r.zd
 len:=by rw [cool_len];exact r.len
 msf:=fun i x d hi e=>by
  rw [cool_get] at e
  cases e1:ρ[i]? with
  | none=>rw [e1] at e;cases e
  | some s=>
   rw [e1] at e
   simp only [Option.map_some,Nat.zero_add] at e
   have hc:¬ vs.contains i=true:=fun z=>by rw [hv i (by simpa using z)] at hi;cases hi
   rw [if_neg hc] at e
   cases e
   exact r.msf i x d hi e1
 h0:=r.h0
 iov:=r.iov
theorem KS.cool (k:KS M H fps H' fps'):KS M H fps H' (fcool vs fps'):=⟨k.keep,k.dom,fun i a h=>k.sub i a (fcool_sub h).1⟩
theorem Rep.wide {fp:List Addr} (hal:∀ i,∀ j∈M.al i,M.Ms j=false) (r:Rep M ρ σ H fps) (k:KD M H fps H' fps') (g:Agr M ρ ρ') (r':Rep M ρ' σ H' fps') (hf:∀ a∈fp,H a=none∧H' a≠none∧¬ Zf M fps' a):Rep (M.plus fp) ρ' σ H' fps' where
 own:=fun i x d e=>by
  by_cases hm:M.Ms i=true
  ·obtain ⟨v,hv,o⟩:=r'.own i x d e
   have hd:=r'.msf i x d hm e
   subst hd
   exact ⟨v,hv,Own.full x v _ o⟩
  ·have hm':M.Ms i=false:=by simpa using hm
   rw [g.1 i hm'] at e
   obtain ⟨v,hv,o⟩:=r.own i x d e
   refine ⟨v,hv,?_⟩
   rw [k.same i hm']
   refine Own.move k.keep (fun a ⟨j,hj,ha⟩=>⟨.inr ⟨j,fun z=>(by rw [hal i j z] at hj;cases hj),ha⟩,r.lsts ha⟩) ?_ x d v _ ?_ o
   ·intro a hd nz z
    rcases z with (z | z) | ⟨j,nj,z⟩
    ·exact nz (.inl z)
    ·exact hd (hf a z).1
    ·rcases k.sub j a z with z | z
     ·exact nz (.inr ⟨j,nj,z⟩)
     ·exact hd z
   ·rintro a ha ⟨j,hj,hx⟩
    exact r.dj i j (fun e=>by rw [e,hj] at hm';cases hm') a ha hx
 non:=r'.non
 dj:=r'.dj
 zo:=fun i a ha z=>z.elim (r'.zo i a ha) fun z=>(hf a z).2.2 (.inr ⟨i,ha⟩)
 fr:=r'.fr
 zd:=fun a z=>z.elim (r'.zd a) fun z=>(hf a z).2.1
 len:=r'.len
 msf:=r'.msf
 h0:=r'.h0
 iov:=r'.iov
theorem Rep.put {i:Nat}{x:PV}{d:Nat}{v:V}{fp:List Addr} (r:Rep (M.plus fp) ρ σ H fps) (h:Own M.K H (fun a=>Za M fps i a∨a∈fp) x d v fp) (hf:∀ a∈fp,M.H₀ a=none∧¬ M.Zo a) (hi:i < ρ.length) (hm:M.Ms i=true→d=om) (hio:M.Fre i):
  Rep M (ρ.set i (some (x,d))) (σ.set i (some v)) H (fun j=>if j=i then fp else fps j):=by
 have zz:∀ a,Zf M (fun j=>if j=i then fp else fps j) a→Zf M fps a∨a∈fp:=fun a h=>by
  rcases h with z | ⟨j,z⟩
  ·exact .inl (.inl z)
  ·by_cases e:j=i
   ·simp only [if_pos e] at z;exact .inr z
   ·simp only [if_neg e] at z;exact .inl (.inr ⟨j,z⟩)
 have zz2:∀ a,Zf M fps a∨a∈fp→Zf (M.plus fp) fps a:=fun a h=>h.elim (fun h=>h.elim (fun z=>.inl (.inl z)) fun z=>.inr z) fun z=>.inl (.inr z)
 refine ⟨fun j y e hj=>?_,fun j hj=>?_,fun j k hjk a ha hb=>?_,fun j a ha z=>?_,fun j hj a ha=>?_,fun a z=>r.zd a (.inl z),?_,fun j y e hj he=>?_,r.h0,?_⟩
 ·by_cases e:j=i
  ·subst e
   rw [List.getElem?_set_self hi] at hj
   cases hj
   refine ⟨v,by rw [List.getElem?_set_self (by rw [← r.len];exact hi)],?_⟩
   rw [if_pos rfl]
   refine h.weak fun a h=>?_
   rcases h with z | ⟨k,nk,z⟩
   ·exact .inl (.inl z)
   ·by_cases ek:k=j
    ·simp only [if_pos ek] at z;exact .inr z
    ·simp only [if_neg ek] at z;exact .inl (.inr ⟨k,nk,z⟩)
  ·rw [List.getElem?_set_ne (Ne.symm e)] at hj
   obtain ⟨w,hw,o⟩:=r.own j y _ hj
   refine ⟨w,by rw [List.getElem?_set_ne (Ne.symm e)];exact hw,?_⟩
   rw [if_neg e]
   refine o.weak fun a h=>?_
   rcases h with z | ⟨k,nk,z⟩
   ·exact .inl (.inl z)
   ·by_cases ek:k=i
    ·simp only [if_pos ek] at z;exact .inl (.inr z)
    ·simp only [if_neg ek] at z;exact .inr ⟨k,nk,z⟩
 ·by_cases e:j=i
  ·subst e
   exact absurd (List.getElem?_set_self hi) (hj _)
  ·rw [if_neg e]
   exact r.non j fun p hp=>hj p (by rw [List.getElem?_set_ne (Ne.symm e)];exact hp)
 ·by_cases e1:j=i
  ·by_cases e2:k=i
   ·exact hjk (e1.trans e2.symm)
   ·rw [if_pos e1] at ha
    rw [if_neg e2] at hb
    exact r.zo k a hb (.inr ha)
  ·rw [if_neg e1] at ha
   by_cases e2:k=i
   ·rw [if_pos e2] at hb
    exact r.zo j a ha (.inr hb)
   ·rw [if_neg e2] at hb
    exact r.dj j k hjk a ha hb
 ·by_cases e:j=i
  ·rw [if_pos e] at ha;exact (hf a ha).2 z
  ·rw [if_neg e] at ha;exact r.zo j a ha (.inl z)
 ·by_cases e:j=i
  ·rw [if_pos e] at ha;exact (hf a ha).1
  ·rw [if_neg e] at ha;exact r.fr j hj a ha
 ·rw [List.length_set,List.length_set];exact r.len
 ·by_cases e:j=i
  ·subst e
   rw [List.getElem?_set_self hi] at he
   cases he
   exact hm hj
  ·rw [List.getElem?_set_ne (Ne.symm e)] at he
   exact r.msf j y _ hj he
 ·refine ⟨fun w hw=>?_,fun p hp=>?_⟩
  ·have h0:i≠0:=hio.1 (by rw [hw];simp)
   rw [List.getElem?_set_ne h0]
   exact r.iov.1 w hw
  ·rw [List.getElem?_set_ne (hio.2 p hp).symm]
   exact r.iov.2 p hp
def sSet (ms:Bool) (i:Nat) (f:Fx) (vs:List Nat):Fs:=fun ρ=>match f ρ with
 | .ok (x,d,ρ1)=>if i < ρ1.length∧(ms=true→d=om) then .nx ((coolIf d vs ρ1).set i (some (x,d))) else .no
 | .exc c=>.exc c
 | .no=>.no
theorem Rep.store {i:Nat}{x:PV}{d:Nat}{v:V}{fp:List Addr} (rep:Rep M ρ σ H fps) (k:KD M H fps H' fps') (g:Agr M ρ ρ') (r':Rep M ρ' σ H' fps') (o:Own M.K H' (Zt M vs fps' fp) x d v fp) (t:Temp M vs H H' fps' fp)
  (hal:∀ i,M.al i=[]) (hv:∀ i∈vs,M.Ms i=false) (hi:i < ρ'.length) (hm:M.Ms i=true→d=om) (hio:M.Fre i):
  ∃ fps2,KS M H fps H' fps2∧Rep M ((coolIf d vs ρ').set i (some (x,d))) (σ.set i (some v)) H' fps2:=by
 have back:∀ a,H a=none→M.H₀ a=none:=fun a e=>by
  cases e':M.H₀ a with
  | none=>rfl
  | some o=>exact absurd e (rep.h0 a (by rw [e'];simp))
 have w:Rep (M.plus fp) ρ' σ H' fps':=rep.wide (fun i j hj=>by rw [hal i] at hj;cases hj) k g r' fun a ha=>⟨t.new a ha,by obtain ⟨xs,e⟩:=Own.lsts x d v fp o a ha;rw [e];simp,t.ndj a ha⟩
 have hf:∀ a∈fp,M.H₀ a=none∧¬ M.Zo a:=fun a ha=>⟨back a (t.new a ha),fun z=>t.ndj a ha (.inl z)⟩
 have ks2:∀ {fps2:Fps},(∀ i a,a∈fps2 i→a∈fps' i)→KS M H fps H' (fun j=>if j=i then fp else fps2 j):=fun {fps2} h2=>⟨k.ks.keep,k.dom,fun j a ha=>by
  by_cases e:j=i
  ·simp only [if_pos e] at ha;exact .inr (t.new a ha)
  ·simp only [if_neg e] at ha;exact k.ks.sub j a (h2 j a ha)⟩
 unfold coolIf
 by_cases hd:d=om
 ·rw [if_pos hd]
  refine ⟨_,ks2 fun _ _ h=>h,w.put (i:=i) (x:=x) (d:=d) (v:=v) ?_ hf hi hm hio⟩
  rw [hd] at o ⊢
  exact Own.full x v fp o
 ·rw [if_neg hd]
  refine ⟨_,ks2 fun _ _ h=>(fcool_sub h).1,(w.cool (vs:=vs) hal hv).put (i:=i) (x:=x) (d:=d) (v:=v) ?_ hf (by rw [cool_len];exact hi) hm hio⟩
  exact o.weak fun a h=>h.elim (fun h=>.inl (Zf_cool h.zf)) .inr
theorem tS_set {f:Fx}{i:Nat}{ms:Bool}{D:Ends} (hal:∀ i,M.al i=[]) (hv:∀ i∈vs,M.Ms i=false) (hms:M.Ms i=ms) (hio:M.Fre i) (hq:tS M (sSet ms i f vs) D σ H):tAsg (tE M f vs) (gName i) D σ H:=by
 obtain ⟨ρ,fps,rep,q⟩:=hq
 refine ⟨ρ,fps,rep,?_⟩
 unfold sSet at q
 cases ef:f ρ with
 | no=>rw [ef] at q;exact q
 | exc c=>rw [ef] at q;exact fun H' fps' k=>q _ H' fps' k.ks
 | ok p=>
  obtain ⟨x,d,ρ1⟩:=p
  rw [ef] at q
  intro v H1 fps1 f1 k1 g1 rep1 o1 t1
  dsimp only at q
  by_cases hc:i < ρ1.length∧(ms=true→d=om)
  ·rw [if_pos hc] at q
   obtain ⟨fps2,k2,r2⟩:=Rep.store rep k1 g1 rep1 o1 t1 hal hv hc.1 (fun h=>hc.2 (by rw [← hms];exact h)) hio
   exact q _ _ _ k2 r2
  ·rw [if_neg hc] at q;exact q.elim
end
section
variable {M:Fm}{ρ ρ':Rho}{σ σ':St}{H H' H'':Hp}{fps fps' fps'':Fps}{vs vs':List Nat}
theorem Zr.zf {a:Addr} (h:Zr M fps a):Zf M fps a:=h.elim .inl fun h=>.inr ⟨0,h.2⟩
theorem Rep.zr (r:Rep M ρ σ H fps) (hv:∀ i∈vs,M.Ms i=false) {a:Addr} (h:Zr M fps a):Zv M vs fps a:=by
 rcases h with h | ⟨h1,h2⟩
 ·exact .inl h
 ·refine .inr ⟨0,fun z=>?_,h2⟩
  cases e:M.io with
  | none=>exact h1 e
  | some v=>have:=(r.iov.1 v e).2;rw [hv 0 z] at this;cases this
theorem Rep.h0' (r:Rep M ρ σ H fps) {a:Addr} (e:H a=none):M.H₀ a=none:=by
 cases e':M.H₀ a with
 | none=>rfl
 | some o=>exact absurd e (r.h0 a (by rw [e'];simp))
def sRet (f:Fx):Fs:=fun ρ=>match f ρ with
 | .ok (x,d,ρ1)=>.rt x d ρ1
 | .exc c=>.exc c
 | .no=>.no
theorem tS_ret {f:Fx}{D:Ends} (hv:∀ i∈vs,M.Ms i=false) (hq:tS M (sRet f) D σ H):tRet (tE M f vs) D σ H:=by
 obtain ⟨ρ,fps,rep,q⟩:=hq
 refine ⟨ρ,fps,rep,?_⟩
 unfold sRet at q
 cases ef:f ρ with
 | no=>rw [ef] at q;exact q
 | exc c=>rw [ef] at q;exact fun H' fps' k=>q _ H' fps' k.ks
 | ok p=>
  obtain ⟨x,d,ρ1⟩:=p
  rw [ef] at q
  intro v H1 fps1 f1 k1 g1 rep1 o1 t1
  exact q v σ H1 fps1 f1 k1.ks rep1 (o1.weak fun a h=>h.elim (fun h=>.inl (rep1.zr hv h)) .inr) fun a ha=>⟨rep.h0' (t1.new a ha),fun z=>t1.ndj a ha z.zf⟩
def sRetV (i:Nat):Fs:=fun ρ=>match ρ[i]? with
 | some (some (x,d))=>.rt x d ρ
 | _=>.no
theorem tS_retV {i:Nat}{D:Ends} (hal:∀ i,M.al i=[]) (hm:M.Ms i=false) (hq:tS M (sRetV i) D σ H):tRet (tVar i) D σ H:=by
 obtain ⟨ρ,fps,rep,q⟩:=hq
 unfold sRetV at q
 cases e0:ρ[i]? with
 | none=>rw [e0] at q;exact q.elim
 | some sl=>
  cases sl with
  | none=>rw [e0] at q;exact q.elim
  | some p=>
   obtain ⟨x,d⟩:=p
   rw [e0] at q
   obtain ⟨v,hv,o⟩:=rep.own0 hal i x d e0
   refine ⟨v,hv,q v σ H fps (fps i) KS.refl rep (o.weak fun a h=>h.elim Zr.zf fun z=>.inr ⟨i,z⟩) fun a ha=>⟨rep.fr i hm a ha,fun z=>?_⟩⟩
   rcases z with z | ⟨z1,z2⟩
   ·exact rep.zo i a ha z
   ·cases e:M.io with
    | none=>exact z1 e
    | some w=>exact rep.dj i 0 (fun e'=>by rw [e',(rep.iov.1 w e).2] at hm;cases hm) a ha z2
def sDrop (f:Fx):Fs:=fun ρ=>match f ρ with
 | .ok (_,_,ρ1)=>.nx ρ1
 | .exc c=>.exc c
 | .no=>.no
theorem tS_drop {f:Fx}{D:Ends} (hq:tS M (sDrop f) D σ H):tDrop (tE M f vs) D σ H:=by
 obtain ⟨ρ,fps,rep,q⟩:=hq
 refine ⟨ρ,fps,rep,?_⟩
 unfold sDrop at q
 cases ef:f ρ with
 | no=>rw [ef] at q;exact q
 | exc c=>rw [ef] at q;exact fun H' fps' k=>q _ H' fps' k.ks
 | ok p=>
  obtain ⟨x,d,ρ1⟩:=p
  rw [ef] at q
  intro v H1 fps1 f1 k1 g1 rep1 o1 t1
  exact q σ H1 fps1 k1.ks rep1
theorem OwnL.snoc {K:Frag}{Z:Addr→Prop}{y:PV}{d:Nat}{w:V}{fy:List Addr}:∀ {xs:List PV}{ws:List V}{f:List Addr},OwnL K H Z xs d ws f→Own K H Z y d w fy→(∀ a∈f,a∉fy)→OwnL K H Z (xs++[y]) d (ws++[w]) (f++fy)
 | [],ws,f,h,hy,_=>by
  rw [OwnL] at h
  obtain ⟨rfl,rfl⟩:=h
  show OwnL K H Z [y] d [w] fy
  rw [OwnL]
  refine ⟨w,[],fy,[],rfl,by simp,fun _ _ z=>(nomatch z),hy,?_⟩
  rw [OwnL];exact ⟨rfl,rfl⟩
 | x::xs,ws,f,h,hy,hd=>by
  rw [OwnL] at h
  obtain ⟨v,s,f1,f2,rfl,rfl,dj,h1,h2⟩:=h
  show OwnL K H Z (x::(xs++[y])) d (v::(s++[w])) (f1++f2++fy)
  rw [OwnL]
  refine ⟨v,s++[w],f1,f2++fy,rfl,by rw [List.append_assoc],fun a ha hb=>?_,h1,h2.snoc hy fun a ha=>hd a (List.mem_append_right _ ha)⟩
  rcases List.mem_append.mp hb with z | z
  ·exact dj a ha z
  ·exact hd a (List.mem_append_left _ ha) z
theorem Own.at {K:Frag}{Z Z':Addr→Prop}{a:Addr}{o:HO}{x:PV}{d:Nat}{v:V}{fp:List Addr} (h:Own K H Z x d v fp) (hZ:Z a) (hl:∃ o:MO,H a=some o.ho) (hf:a∉fp) (hz:∀ b,H b≠none→¬ Z b→¬ Z' b):Own K (upd H a o) Z' x d v fp:=
 Own.move (S:=fun b=>b=a) (fun b u hb n=>by rw [upd_ne n];exact hb) (fun b e=>by rw [e];exact ⟨hZ,hl⟩) hz x d v fp (fun b hb e=>hf (by rw [← e];exact hb)) h
theorem OwnL.at {K:Frag}{Z Z':Addr→Prop}{a:Addr}{o:HO}{x:List PV}{d:Nat}{v:List V}{fp:List Addr} (h:OwnL K H Z x d v fp) (hZ:Z a) (hl:∃ o:MO,H a=some o.ho) (hf:a∉fp) (hz:∀ b,H b≠none→¬ Z b→¬ Z' b):OwnL K (upd H a o) Z' x d v fp:=
 OwnL.move (S:=fun b=>b=a) (fun b u hb n=>by rw [upd_ne n];exact hb) (fun b e=>by rw [e];exact ⟨hZ,hl⟩) hz x d v fp (fun b hb e=>hf (by rw [← e];exact hb)) h
theorem Rep.rewrite {i:Nat}{xs:List PV}{d:Nat}{a:Addr}{ws:List V}{zs:List PV}{us:List V}{e:Nat}{f f' fp:List Addr} (hal:∀ i,M.al i=[]) (r:Rep (M.plus fp) ρ σ H fps) (hi:ρ[i]?=some (some (.lst xs,d))) (hσ:σ[i]?=some (some (.ref a)))
  (ha:H a=some (.lst ws)) (hfp:fps i=a::f) (hn:a∉f') (hsub:∀ b∈f',b∈f∨b∈fp) (he:e≠0) (hm:M.Ms i=true→e=om) (hH:∀ b∈fp,M.H₀ b=none∧¬ M.Zo b)
  (hnew:OwnL M.K (upd H a (.lst us)) (Zf M (fun j=>if j=i then a::f' else fps j)) zs (pd e) us f'):
  Rep M (ρ.set i (some (.lst zs,e))) σ (upd H a (.lst us)) (fun j=>if j=i then a::f' else fps j):=by
 have hlen:i < ρ.length:=(List.getElem?_eq_some_iff.mp hi).1
 have hai:a∈fps i:=by rw [hfp];exact List.mem_cons_self
 have zz:∀ b,Zf M (fun j=>if j=i then a::f' else fps j) b→Zf (M.plus fp) fps b:=fun b h=>by
  rcases h with z | ⟨j,z⟩
  ·exact .inl (.inl z)
  ·by_cases ej:j=i
   ·simp only [if_pos ej] at z
    rcases List.mem_cons.mp z with z | z
    ·exact .inr ⟨i,by rw [z];exact hai⟩
    ·rcases hsub b z with z | z
     ·exact .inr ⟨i,by rw [hfp];exact List.mem_cons_of_mem _ z⟩
     ·exact .inl (.inr z)
   ·simp only [if_neg ej] at z;exact .inr ⟨j,z⟩
 have dm:∀ b,H b≠none→(upd H a (.lst us)) b≠none:=fun b h=>by
  by_cases eb:b=a
  ·rw [eb,upd_same];simp
  ·rw [upd_ne eb];exact h
 have inI:∀ b,b∈a::f'→b∈fps i∨b∈fp:=fun b hb=>by
  rcases List.mem_cons.mp hb with z | z
  ·exact .inl (by rw [z];exact hai)
  ·rcases hsub b z with z | z
   ·exact .inl (by rw [hfp];exact List.mem_cons_of_mem _ z)
   ·exact .inr z
 refine ⟨fun j y c hj=>?_,fun j hj=>?_,fun j k hjk b hb hc=>?_,fun j b hb z=>?_,fun j hj b hb=>?_,fun b z=>dm b (r.zd b (.inl z)),by rw [List.length_set];exact r.len,fun j y c hj hc=>?_,fun b z=>dm b (r.h0 b z),r.iov⟩
 ·by_cases ej:j=i
  ·subst ej
   rw [List.getElem?_set_self hlen] at hj
   cases hj
   refine ⟨_,hσ,?_⟩
   rw [if_pos rfl,Own]
   exact ⟨a,us,rfl,.inr ⟨he,f',upd_same,rfl,hn,hnew.weak fun _ h=>h.zf⟩⟩
  ·rw [List.getElem?_set_ne (Ne.symm ej)] at hj
   obtain ⟨w,hw,ow⟩:=r.own0 hal j y c hj
   refine ⟨w,hw,?_⟩
   rw [if_neg ej]
   exact ow.at (.inr ⟨i,hai⟩) ⟨.l ws,ha⟩ (fun z=>r.dj j i ej a z hai) fun b _ nz z=>nz (zz b z.zf)
 ·by_cases ej:j=i
  ·subst ej;exact absurd (List.getElem?_set_self hlen) (hj _)
  ·rw [if_neg ej]
   exact r.non j fun p hp=>hj p (by rw [List.getElem?_set_ne (Ne.symm ej)];exact hp)
 ·have one:∀ k,k≠i→∀ b,b∈a::f'→b∈fps k→False:=fun k hk b h1 h2=>(inI b h1).elim (fun z=>r.dj i k (Ne.symm hk) b z h2) fun z=>r.zo k b h2 (.inr z)
  by_cases e1:j=i
  ·by_cases e2:k=i
   ·exact hjk (e1.trans e2.symm)
   ·rw [if_pos e1] at hb
    rw [if_neg e2] at hc
    exact one k e2 b hb hc
  ·rw [if_neg e1] at hb
   by_cases e2:k=i
   ·rw [if_pos e2] at hc
    exact one j e1 b hc hb
   ·rw [if_neg e2] at hc
    exact r.dj j k hjk b hb hc
 ·by_cases ej:j=i
  ·rw [if_pos ej] at hb
   rcases inI b hb with y | y
   ·exact r.zo i b y (.inl z)
   ·exact (hH b y).2 z
  ·rw [if_neg ej] at hb;exact r.zo j b hb (.inl z)
 ·by_cases ej:j=i
  ·rw [if_pos ej] at hb
   rcases inI b hb with y | y
   ·exact r.fr i (by rw [← ej];exact hj) b y
   ·exact (hH b y).1
  ·rw [if_neg ej] at hb;exact r.fr j hj b hb
 ·by_cases ej:j=i
  ·subst ej
   rw [List.getElem?_set_self hlen] at hc
   cases hc
   exact hm hj
  ·rw [List.getElem?_set_ne (Ne.symm ej)] at hc
   exact r.msf j y c hj hc
end
section
variable {M:Fm}{ρ ρ':Rho}{σ σ':St}{H H' H'':Hp}{fps fps' fps'':Fps}{vs vs':List Nat}
theorem KS.write {a:Addr}{o:HO}{i:Nat}{f' fp:List Addr} (k:KS M H fps H' fps') (ha:∃ j,a∈fps j) (hs:∀ b∈a::f',b∈fps' i∨H b=none):
  KS M H fps (upd H' a o) (fun j=>if j=i then a::f' else fps' j) where
 keep:=fun b u hb n=>by rw [upd_ne (fun e=>n (by rw [e];exact ha))];exact k.keep b u hb n
 dom:=fun b hb=>by
  by_cases e:b=a
  ·rw [e,upd_same];simp
  ·rw [upd_ne e];exact k.dom b hb
 sub:=fun j b hb=>by
  by_cases e:j=i
  ·simp only [if_pos e] at hb
   rcases hs b hb with z | z
   ·exact k.sub i b z
   ·exact .inr z
  ·simp only [if_neg e] at hb;exact k.sub j b hb
theorem Rep.behind {x:PV}{d:Nat}{v:V}{fp:List Addr} (rep:Rep M ρ σ H fps) (k:KD M H fps H' fps') (g:Agr M ρ ρ') (r':Rep M ρ' σ H' fps') (o:Own M.K H' (Zt M vs fps' fp) x d v fp) (t:Temp M vs H H' fps' fp)
  (hal:∀ i,M.al i=[]) (hv:∀ i∈vs,M.Ms i=false):∃ fps2,KS M H fps H' fps2∧Rep (M.plus fp) (coolIf d vs ρ') σ H' fps2∧Own M.K H' (fun a=>Zf M fps2 a∨a∈fp) x d v fp∧(∀ a∈fp,¬ Zf M fps2 a)∧(∀ i a,a∈fps2 i→a∈fps' i)∧(∀ a∈fp,M.H₀ a=none∧¬ M.Zo a):=by
 have w:Rep (M.plus fp) ρ' σ H' fps':=rep.wide (fun i j hj=>by rw [hal i] at hj;cases hj) k g r' fun a ha=>⟨t.new a ha,by obtain ⟨xs,e⟩:=Own.lsts x d v fp o a ha;rw [e];simp,t.ndj a ha⟩
 have hf:∀ a∈fp,M.H₀ a=none∧¬ M.Zo a:=fun a ha=>⟨rep.h0' (t.new a ha),fun z=>t.ndj a ha (.inl z)⟩
 unfold coolIf
 by_cases hd:d=om
 ·rw [if_pos hd]
  refine ⟨fps',k.ks,w,?_,t.ndj,fun _ _ h=>h,hf⟩
  rw [hd] at o ⊢
  exact Own.full x v fp o
 ·rw [if_neg hd]
  exact ⟨fcool vs fps',k.ks.cool,w.cool hal hv,o.weak fun a h=>h.elim (fun h=>.inl (Zf_cool h)) .inr,fun a ha z=>t.ndj a ha (Zf_cool z).zf,fun _ _ h=>(fcool_sub h).1,hf⟩
def sApp (i:Nat) (f:Fx) (vs:List Nat):Fs:=fun ρ=>match ρ[i]? with
 | some (some (.lst _,0))=>.no
 | some (some (.lst _,_ + 1))=>(match f ρ with
  | .ok (y,e,ρ1)=>(match (coolIf e vs ρ1)[i]? with
   | some (some (.lst xs,d))=>if d≠0∧xs.length < sizeLine then .nx ((coolIf e vs ρ1).set i (some (.lst (xs++[y]),if d=om∧e=om then om else 1))) else .no
   | _=>.no)
  | .exc c=>.exc c
  | .no=>.no)
 | _=>.no
theorem pd_one:pd 1=0:=by decide
theorem Own.list {K:Frag}{Z:Addr→Prop}{xs:List PV}{d:Nat}{v:V}{fp:List Addr} (h:Own K H Z (.lst xs) d v fp) (hd:d≠0):∃ a ws f,v=.ref a∧H a=some (.lst ws)∧fp=a::f∧a∉f∧OwnL K H Z xs (pd d) ws f:=by
 rw [Own] at h
 obtain ⟨a,ws,e,⟨d0,_⟩ | ⟨_,f,h1,h2,h3,h4⟩⟩:=h
 ·exact absurd d0 hd
 ·exact ⟨a,ws,f,e,h1,h2,h3,h4⟩
theorem tS_app {f:Fx}{i:Nat}{D:Ends} (hal:∀ i,M.al i=[]) (hv:∀ i∈vs,M.Ms i=false) (hm:M.Ms i=false) (hq:tS M (sApp i f vs) D σ H):tDrop (tBM M.K "list" rAppend (tVar i) (tCons (tE M f vs) tNil)) D σ H:=by
 obtain ⟨ρ,fps,rep,q⟩:=hq
 unfold sApp at q
 split at q
 ·exact q.elim
 ·rename_i xs0 d0 e0
  obtain ⟨v,hσ,o⟩:=rep.own0 hal i _ _ e0
  obtain ⟨a,ws0,fc0,rfl,ha0,hfp0,_,_⟩:=o.list (Nat.succ_ne_zero _)
  refine ⟨_,hσ,ty_list (.inl (.inl ha0)),ρ,fps,rep,?_⟩
  cases ef:f ρ with
  | no=>rw [ef] at q;exact q
  | exc c=>rw [ef] at q;exact fun H' fps' k=>q _ H' fps' k.ks
  | ok p=>
   obtain ⟨y,e,ρ1⟩:=p
   rw [ef] at q
   intro w H1 fps1 fp k1 g1 rep1 o1 t1
   dsimp only at q
   split at q
   ·rename_i xs d es
    split at q
    ·rename_i hc
     obtain ⟨fps2,k2,r2,o2,n2,s2,h2⟩:=Rep.behind rep k1 g1 rep1 o1 t1 hal hv
     obtain ⟨v',hσ',ol⟩:=r2.own0 hal i _ _ es
     rw [hσ] at hσ'
     cases hσ'
     obtain ⟨a',ws,fc,ev,ha,hfp,nac,hol⟩:=ol.list hc.1
     cases ev
     have hai:a∈fps2 i:=by rw [hfp];exact List.mem_cons_self
     have hafp:a∉fp:=fun z=>n2 a z (.inr ⟨i,hai⟩)
     have hst:∃ j,a∈fps j:=⟨i,by have:=s2 i a hai;rw [k1.same i hm] at this;exact this⟩
     refine ⟨a,ws,w,rfl,rfl,ha,by rw [hol.length];exact hc.2,?_⟩
     by_cases ho:d=om∧e=om
     ·rw [if_pos ho] at q
      obtain ⟨rfl,rfl⟩:=ho
      refine q σ _ _ (k2.write (i:=i) (f':=fc++fp) (fp:=fp) hst fun b hb=>?_) (r2.rewrite hal es hσ ha hfp (fun z=>(List.mem_append.mp z).elim nac hafp) (fun b hb=>List.mem_append.mp hb) (by decide) (fun _=>rfl) h2 ?_)
      ·rcases List.mem_cons.mp hb with z | z
       ·exact .inl (by rw [z];exact hai)
       ·rcases List.mem_append.mp z with z | z
        ·exact .inl (by rw [hfp];exact List.mem_cons_of_mem _ z)
        ·exact .inr (t1.new b z)
      ·have u1:OwnL M.K (upd H1 a (.lst (ws++[w]))) (fun _=>True) xs om ws fc:=(OwnL.full (Z':=fun _=>True) xs ws fc hol).at trivial ⟨.l ws,ha⟩ nac fun _ _ n=>absurd trivial n
       have u2:Own M.K (upd H1 a (.lst (ws++[w]))) (fun _=>True) y om w fp:=(Own.full (Z':=fun _=>True) y w fp o2).at trivial ⟨.l ws,ha⟩ hafp fun _ _ n=>absurd trivial n
       exact OwnL.full _ _ _ (u1.snoc u2 fun b hb z=>n2 b z (.inr ⟨i,by rw [hfp];exact List.mem_cons_of_mem _ hb⟩))
     ·rw [if_neg ho] at q
      refine q σ _ _ (k2.write (i:=i) (f':=[]) (fp:=fp) hst fun b hb=>?_) (r2.rewrite hal es hσ ha hfp (fun z=>nomatch z) (fun b hb=>nomatch hb) (by decide) (fun h=>by rw [hm] at h;cases h) h2 ?_)
      ·rcases List.mem_cons.mp hb with z | z
       ·exact .inl (by rw [z];exact hai)
       ·cases z
      ·rw [pd_one]
       have zsub:∀ b,Zf M (fun j=>if j=i then [a] else fps2 j) b→Zf (M.plus fp) fps2 b:=fun b h=>by
        rcases h with z | ⟨j,z⟩
        ·exact .inl (.inl z)
        ·by_cases ej:j=i
         ·simp only [if_pos ej] at z
          rw [List.mem_singleton.mp z]
          exact .inr ⟨i,hai⟩
         ·simp only [if_neg ej] at z;exact .inr ⟨j,z⟩
       have nf:∀ b∈fc,¬ Zf M (fun j=>if j=i then [a] else fps2 j) b:=fun b hb z=>by
        have hbi:b∈fps2 i:=by rw [hfp];exact List.mem_cons_of_mem _ hb
        rcases z with z | ⟨j,z⟩
        ·exact r2.zo i b hbi (.inl z)
        ·by_cases ej:j=i
         ·simp only [if_pos ej] at z
          rw [List.mem_singleton.mp z] at hb;exact nac hb
         ·simp only [if_neg ej] at z;exact r2.dj i j (Ne.symm ej) b hbi z
       have nfp:∀ b∈fp,¬ Zf M (fun j=>if j=i then [a] else fps2 j) b:=fun b hb z=>by
        rcases z with z | ⟨j,z⟩
        ·exact n2 b hb (.inl z)
        ·by_cases ej:j=i
         ·simp only [if_pos ej] at z
          rw [List.mem_singleton.mp z] at hb;exact hafp hb
         ·simp only [if_neg ej] at z;exact n2 b hb (.inr ⟨j,z⟩)
       have za:Zf M (fun j=>if j=i then [a] else fps2 j) a:=.inr ⟨i,by simp⟩
       have u1:=(OwnL.freeze (Z':=Zf M (fun j=>if j=i then [a] else fps2 j)) zsub xs _ ws fc nf hol)
       have u2:=(Own.freeze (Z':=Zf M (fun j=>if j=i then [a] else fps2 j)) (fun b h=>by
        rcases h with z | ⟨j,z⟩
        ·exact .inl (.inl z)
        ·by_cases ej:j=i
         ·simp only [if_pos ej] at z
          rw [List.mem_singleton.mp z]
          exact .inl (.inr ⟨i,hai⟩)
         ·simp only [if_neg ej] at z;exact .inl (.inr ⟨j,z⟩)) y _ w fp nfp o2)
       exact (u1.at za ⟨.l ws,ha⟩ (fun z=>nomatch z) fun _ _ n=>n).snoc (u2.at za ⟨.l ws,ha⟩ (fun z=>nomatch z) fun _ _ n=>n) fun _ z=>nomatch z
    ·exact q.elim
   ·exact q.elim
 ·exact q.elim
def atomic:PV→Bool
 | .lst _=>false
 | .tup _=>false
 | .dct _=>false
 | _=>true
theorem OwnL.set {K:Frag}{Z:Addr→Prop}{y:PV}{d:Nat}{w:V} (hy:Own K H Z y d w []):∀ {xs:List PV}{ws:List V}{f:List Addr} (k:Nat),OwnL K H Z xs d ws f→∃ f',(∀ b∈f',b∈f)∧OwnL K H Z (xs.set k y) d (ws.set k w) f'
 | [],ws,f,k,h=>by
  rw [OwnL] at h
  obtain ⟨rfl,rfl⟩:=h
  refine ⟨[],fun _ z=>z,?_⟩
  rw [List.set_nil,List.set_nil,OwnL];exact ⟨rfl,rfl⟩
 | x::xs,ws,f,0,h=>by
  rw [OwnL] at h
  obtain ⟨v,s,f1,f2,rfl,rfl,dj,h1,h2⟩:=h
  refine ⟨f2,fun b hb=>List.mem_append_right _ hb,?_⟩
  rw [List.set_cons_zero,List.set_cons_zero,OwnL]
  exact ⟨w,s,[],f2,rfl,rfl,fun _ z=>(nomatch z),hy,h2⟩
 | x::xs,ws,f,k + 1,h=>by
  rw [OwnL] at h
  obtain ⟨v,s,f1,f2,rfl,rfl,dj,h1,h2⟩:=h
  obtain ⟨f',hs,h'⟩:=h2.set hy k
  refine ⟨f1++f',fun b hb=>(List.mem_append.mp hb).elim (fun z=>List.mem_append_left _ z) fun z=>List.mem_append_right _ (hs b z),?_⟩
  rw [List.set_cons_succ,List.set_cons_succ,OwnL]
  exact ⟨v,s.set k w,f1,f',rfl,rfl,fun b hb hc=>dj b hb (hs b hc),h1,h'⟩
theorem Own.atom {K:Frag}{Z Z':Addr→Prop}{y:PV}{d d':Nat}{w:V}{fp:List Addr} (hy:atomic y=true) (h:Own K H Z y d w fp):fp=[]∧Own K H Z' y d' w []:=by
 cases y with
 | lst _=>cases hy
 | tup _=>cases hy
 | dct _=>cases hy
 | exn _=>rw [Own] at h ⊢;exact ⟨h.1,rfl,h.2⟩
 | emp=>rw [Own] at h ⊢;exact ⟨h.1,rfl,h.2⟩
 | dko=>rw [Own] at h ⊢;exact ⟨h.1,rfl,h.2⟩
 | scr _=>rw [Own] at h ⊢;exact ⟨h.1,rfl,h.2⟩
 | non=>rw [Own] at h ⊢;exact ⟨h.2,h.1,rfl⟩
 | bl _=>rw [Own] at h ⊢;exact ⟨h.2,h.1,rfl⟩
 | int _=>rw [Own] at h ⊢;exact ⟨h.2,h.1,rfl⟩
 | str _=>rw [Own] at h ⊢;exact ⟨h.2,h.1,rfl⟩
def sPut (i:Nat) (k:Int) (f:Fx):Fs:=fun ρ=>match f ρ with
 | .ok (y,_,ρ1)=>(match ρ1[i]? with
  | some (some (.lst xs,d))=>(match ixN xs.length k with
   | some j=>if d≠0∧atomic y=true then .nx (ρ1.set i (some (.lst (xs.set j y),d))) else .no
   | none=>.no)
  | _=>.no)
 | .exc c=>.exc c
 | .no=>.no
theorem tS_put {f:Fx}{i:Nat}{k:Int}{D:Ends} (hal:∀ i,M.al i=[]) (hv:∀ i∈vs,M.Ms i=false) (hq:tS M (sPut i k f) D σ H):tAsg (tE M f vs) (gSub (tVar i) (tC (.int k)) rSetL) D σ H:=by
 obtain ⟨ρ,fps,rep,q⟩:=hq
 refine ⟨ρ,fps,rep,?_⟩
 unfold sPut at q
 cases ef:f ρ with
 | no=>rw [ef] at q;exact q
 | exc c=>rw [ef] at q;exact fun H' fps' k=>q _ H' fps' k.ks
 | ok p=>
  obtain ⟨y,e,ρ1⟩:=p
  rw [ef] at q
  intro w H1 fps1 fp k1 g1 rep1 o1 t1
  dsimp only at q
  split at q
  ·rename_i xs d es
   split at q
   ·rename_i j ej
    split at q
    ·rename_i hc
     obtain ⟨rfl,_⟩:=Own.atom (Z':=fun _=>True) (d':=0) hc.2 o1
     obtain ⟨v',hσ',ol⟩:=rep1.own0 hal i _ _ es
     obtain ⟨a,ws,fc,rfl,ha,hfp,nac,hol⟩:=ol.list hc.1
     have hai:a∈fps1 i:=by rw [hfp];exact List.mem_cons_self
     refine ⟨_,hσ',a,ws,k,j,rfl,rfl,ha,by rw [hol.length];exact ej,?_⟩
     have rp:Rep (M.plus []) ρ1 σ H1 fps1:=rep.wide (fun i j hj=>by rw [hal i] at hj;cases hj) k1 g1 rep1 fun b hb=>nomatch hb
     obtain ⟨fc',hs',hset⟩:=hol.set (Own.atom (d':=pd d) hc.2 o1).2 j
     have inI:∀ b,b∈a::fc'→b∈fps1 i:=fun b hb=>(List.mem_cons.mp hb).elim (fun z=>by rw [z];exact hai) fun z=>by rw [hfp];exact List.mem_cons_of_mem _ (hs' b z)
     have hst:KS M H fps (upd H1 a (.lst (ws.set j w))) (fun j=>if j=i then a::fc' else fps1 j):=by
      refine ⟨fun b u hb n=>?_,fun b hb=>?_,fun j b hb=>?_⟩
      ·have hb1:=k1.ks.keep b u hb n
       rw [upd_ne]
       ·exact hb1
       ·rintro rfl
        rcases k1.ks.sub i b hai with z | z
        ·exact n z
        ·rw [z] at hb;cases hb
      ·by_cases eb:b=a
       ·rw [eb,upd_same];simp
       ·rw [upd_ne eb];exact k1.dom b hb
      ·by_cases ej:j=i
       ·simp only [if_pos ej] at hb;exact k1.ks.sub i b (inI b hb)
       ·simp only [if_neg ej] at hb;exact k1.ks.sub j b hb
     refine q σ _ _ hst (rp.rewrite hal es hσ' ha hfp (fun z=>nac (hs' a z)) (fun b hb=>.inl (hs' b hb)) hc.1 (fun h=>rep1.msf i _ _ h es) (fun b hb=>nomatch hb) ?_)
     have nz:∀ b,Zf M (fun j=>if j=i then a::fc' else fps1 j) b→Zf M fps1 b:=fun b h=>by
      rcases h with z | ⟨j,z⟩
      ·exact .inl z
      ·by_cases ej:j=i
       ·simp only [if_pos ej] at z;exact .inr ⟨i,inI b z⟩
       ·simp only [if_neg ej] at z;exact .inr ⟨j,z⟩
     exact hset.at (.inr ⟨i,hai⟩) ⟨.l ws,ha⟩ (fun z=>nac (hs' a z)) fun b _ n z=>n (nz b z)
    ·exact q.elim
   ·exact q.elim
  ·exact q.elim
end
section
variable {is:List Nat}{M:Fm}{ρ ρ':Rho}{σ σ':St}{H H' H'':Hp}{fps fps' fps'':Fps}{vs vs':List Nat}
theorem Rep.plus0 (hal:∀ i,∀ j∈M.al i,M.Ms j=false) (r:Rep M ρ σ H fps):Rep (M.plus []) ρ σ H fps:=r.wide hal KD.refl Agr.refl r (fun _ z=>nomatch z)
def GOk (M:Fm) (al is:List Nat) (g:TG) (asg:PV→Rho→Option Rho):Prop:=∀ y v ρ σ H fps ρ' (Q:St→Hp→Prop),Rep M ρ σ H fps→Own M.K H (Zv M al fps) y 0 v []→asg y ρ=some ρ'→(∀ σ' fps',(∀ i,∀ a∈fps' i,a∈fps i)→(∀ i,i∉is→ρ'[i]?=ρ[i]?∧fps' i=fps i∧σ'[i]?=σ[i]?)→ρ'.length=ρ.length→Rep M ρ' σ' H fps'→Q σ' H)→g v σ H Q
def asgN (i:Nat):PV→Rho→Option Rho:=fun y ρ=>if i < ρ.length then some (ρ.set i (some (y,dv y))) else none
theorem Own.dv {K:Frag}{Z:Addr→Prop}{x:PV}{v:V} (h:Own K H Z x 0 v []):Own K H Z x (dv x) v []:=Own.view (fp:=[]) (fun _ z=>z) (fun _ z=>nomatch z) h
structure Bd (M:Fm) (al:List Nat) (i:Nat):Prop where
 ms:M.Ms i=false
 io:M.Fre i
 al:M.al i=al
 als:∀ i,∀ j∈M.al i,M.Ms j=false
theorem Rep.bind1 {al:List Nat}{i:Nat}{y:PV}{v:V} (r:Rep M ρ σ H fps) (o:Own M.K H (Zv M al fps) y 0 v []) (hi:i < ρ.length) (b:Bd M al i):
  Rep M (ρ.set i (some (y,dv y))) (σ.set i (some v)) H (fun j=>if j=i then [] else fps j):=by
 refine (r.plus0 b.als).put (o.dv.weak fun a h=>h.elim (fun h=>?_) fun z=>nomatch z) (fun _ z=>nomatch z) hi (fun h=>by rw [b.ms] at h;cases h) b.io
 rcases h with h | ⟨j,nj,h⟩
 ·exact .inl h
 ·exact .inr ⟨j,by rw [b.al] at nj;exact nj,h⟩
theorem g_name {al:List Nat}{i:Nat} (b:Bd M al i):GOk M al [i] (gName i) (asgN i):=by
 intro y v ρ σ H fps ρ' Q r o e q
 unfold asgN at e
 split at e
 ·rename_i hi
  cases e
  refine q _ _ (fun j a ha=>?_) (fun j nj=>?_) (by rw [List.length_set]) (r.bind1 o hi b)
  ·by_cases e:j=i
   ·simp only [if_pos e] at ha;cases ha
   ·simp only [if_neg e] at ha;exact ha
  ·have e:j≠i:=fun e=>nj (by simp [e])
   exact ⟨List.getElem?_set_ne (Ne.symm e),if_neg e,List.getElem?_set_ne (Ne.symm e)⟩
 ·cases e
def gNames:List Nat→TGs
 | []=>gNil
 | i::is=>gCons (gName i) (gNames is)
def asgs:List Nat→List PV→Rho→Option Rho
 | [],[],ρ=>some ρ
 | i::is,y::ys,ρ=>(asgN i y ρ).bind (asgs is ys)
 | _,_,_=>none
def asgT (is:List Nat):PV→Rho→Option Rho:=fun y ρ=>match y with
 | .tup ys=>asgs is ys ρ
 | _=>none
theorem g_names {al:List Nat}:∀ (is:List Nat) (ys:List PV) (ws:List V) (ρ:Rho) (σ:St) (H:Hp) (fps:Fps) (ρ':Rho) (Q:St→Hp→Prop),(∀ i∈is,Bd M al i)→Rep M ρ σ H fps→OwnL M.K H (Zv M al fps) ys 0 ws []→asgs is ys ρ=some ρ' →
  (∀ σ' fps',(∀ i,∀ a∈fps' i,a∈fps i)→(∀ i,i∉is→ρ'[i]?=ρ[i]?∧fps' i=fps i∧σ'[i]?=σ[i]?)→ρ'.length=ρ.length→Rep M ρ' σ' H fps'→Q σ' H)→ws.length=is.length∧gNames is ws σ H Q
 | [],[],ws,ρ,σ,H,fps,ρ',Q,_,r,o,e,q=>by
  rw [OwnL] at o
  obtain ⟨rfl,_⟩:=o
  cases e
  exact ⟨rfl,rfl,q σ fps (fun _ _ h=>h) (fun _ _=>⟨rfl,rfl,rfl⟩) rfl r⟩
 | [],_::_,_,_,_,_,_,_,_,_,_,_,e,_=>by cases e
 | _::_,[],_,_,_,_,_,_,_,_,_,_,e,_=>by cases e
 | i::is,y::ys,ws,ρ,σ,H,fps,ρ',Q,hs,r,o,e,q=>by
  rw [OwnL] at o
  obtain ⟨v,s,f1,f2,rfl,ef,_,o1,o2⟩:=o
  obtain ⟨rfl,rfl⟩:f1=[]∧f2=[]:=by simpa using ef.symm
  unfold asgs at e
  cases e1:asgN i y ρ with
  | none=>rw [e1] at e;cases e
  | some ρ1=>
   rw [e1] at e
   unfold asgN at e1
   split at e1
   ·rename_i hi
    cases e1
    have bi:=hs i List.mem_cons_self
    have r':=r.bind1 o1 hi bi
    have sub:∀ j a,a∈(fun j=>if j=i then [] else fps j) j→a∈fps j:=fun j a z=>by
     by_cases ej:j=i
     ·simp only [if_pos ej] at z;cases z
     ·simp only [if_neg ej] at z;exact z
    have o2':OwnL M.K H (Zv M al (fun j=>if j=i then [] else fps j)) ys 0 s []:=o2.weak fun a h=>h.elim .inl fun ⟨j,nj,z⟩=>.inr ⟨j,nj,sub j a z⟩
    obtain ⟨hl,hg⟩:=g_names is ys s _ _ H _ ρ' Q (fun j hj=>hs j (List.mem_cons_of_mem _ hj)) r' o2' e fun σ' fps' k' a' l' r''=>q σ' fps' (fun j a ha=>sub j a (k' j a ha)) (fun j hj=>by
     have ej:j≠i:=fun e=>hj (by rw [e];exact List.mem_cons_self)
     obtain ⟨z1,z2,z3⟩:=a' j fun z=>hj (List.mem_cons_of_mem _ z)
     rw [if_neg ej] at z2
     exact ⟨z1.trans (List.getElem?_set_ne (Ne.symm ej)),z2,z3.trans (List.getElem?_set_ne (Ne.symm ej))⟩) (l'.trans (by rw [List.length_set])) r''
    exact ⟨by rw [List.length_cons,List.length_cons,hl],v,s,rfl,hg⟩
   ·cases e1
theorem g_tup {al:List Nat}{is:List Nat} (hs:∀ i∈is,Bd M al i):GOk M al is (gTup M.K is.length (gNames is)) (asgT is):=by
 intro y v ρ σ H fps ρ' Q r o e q
 unfold asgT at e
 split at e
 ·rename_i ys
  rw [Own] at o
  obtain ⟨a,ws,rfl,hr,ol⟩:=o
  obtain ⟨hl,hg⟩:=g_names is ys ws ρ σ H fps ρ' Q hs r ol e q
  exact ⟨a,ws,rfl,.inl (.inl hr),hl,hg⟩
 ·cases e
def loopS (asg:PV→Rho→Option Rho) (body:Fs):List PV→Rho→Rs
 | [],ρ=>.nx ρ
 | x::xs,ρ=>match asg x ρ with
  | none=>.no
  | some ρ1=>match body ρ1 with
   | .nx ρ2=>loopS asg body xs ρ2
   | .ct ρ2=>loopS asg body xs ρ2
   | .bk ρ2=>.nx ρ2
   | .rt x d ρ2=>.rt x d ρ2
   | .exc c=>.exc c
   | .no=>.no
theorem for_sem {g:TG}{asg:PV→Rho→Option Rho}{body:Fs}{D:Ends}{J:It}{els:List PV}{Pq:Hp→Fps→Prop} (hg:GOk M [] is g asg)
  (hP:∀ {ρ σ H fps H' fps'},Rep M ρ σ H fps→KS M H fps H' fps'→Pq H fps→Pq H' fps') (hgo:∀ {H fps i},Pq H fps→i < els.length→J.go i H) (hst:∀ {H fps i},Pq H fps→els.length≤i→J.stop i H)
  (hy:∀ {ρ σ H fps i x H'},Rep M ρ σ H fps→Pq H fps→i < els.length→J.yld i H x H'→(∀ a o,H a=some o→H' a=some o)∧∃ y,els[i]?=some y∧Own M.K H' (Zf M fps) y 0 x [])
  (rep:Rep M ρ σ H fps) (p:Pq H fps) (q:RsOk M D H fps (loopS asg body els ρ)):
  ∃ W:Nat→Nat→St→Hp→Prop,(∃ m,W 0 m σ H)∧∀ i m σ H,W i m σ H →
   (J.stop i H∧D.nx σ H)∨(J.go i H∧∃ N:St→Hp→Prop,(∀ σ' H',N σ' H'→∃ m',m' < m∧W (i + 1) m' σ' H')∧∀ x H',J.yld i H x H'→g x σ H' fun σ2 H2=>(tS M body) { D with nx:=N,ct:=N,bk:=D.nx } σ2 H2):=by
 let W:Nat→Nat→St→Hp→Prop:=fun i m σ H=>m=els.length - i∧∃ ρ fps,Rep M ρ σ H fps∧Pq H fps∧RsOk M D H fps (loopS asg body (els.drop i) ρ)
 refine ⟨W,⟨els.length,by simp,ρ,fps,rep,p,by simpa using q⟩,?_⟩
 rintro i m σ H ⟨rfl,ρ,fps,r,p,q⟩
 by_cases hi:i < els.length
 ·right
  refine ⟨hgo p hi,W (i + 1) (els.length - (i + 1)),fun σ' H' w=>⟨_,by omega,w⟩,fun x H' y=>?_⟩
  obtain ⟨kx,z,ez,oz⟩:=hy r p hi y
  have k0:KS M H fps H' fps:=(KD.grow kx).ks
  have p:=hP r k0 p
  have r:=r.grow kx
  have q:=RsOk.from k0 q
  have ed:els.drop i=z::els.drop (i + 1):=by
   obtain ⟨h1,h2⟩:=List.getElem?_eq_some_iff.mp ez
   rw [← h2];exact List.drop_eq_getElem_cons h1
  rw [ed] at q
  unfold loopS at q
  cases ea:asg z ρ with
  | none=>rw [ea] at q;exact q.elim
  | some ρ1=>
   rw [ea] at q
   dsimp only at q
   refine hg z x ρ σ _ fps ρ1 _ r (oz.weak fun a h=>h.zf) ea fun σ1 fps1 s1 _ _ r1=>⟨ρ1,fps1,r1,?_⟩
   have k1:KS M H' fps H' fps1:=⟨fun _ _ h _=>h,fun _ h=>h,fun j a ha=>.inl ⟨j,s1 j a ha⟩⟩
   have p1:=hP r k1 p
   cases eb:body ρ1 with
   | no=>rw [eb] at q;exact q
   | exc c=>rw [eb] at q;exact RsOk.from (r:=.exc c) k1 q
   | rt x d ρ2=>rw [eb] at q;exact RsOk.from (r:=.rt x d ρ2) k1 q
   | bk ρ2=>rw [eb] at q;exact fun σ' H' fps' k=>q σ' H' fps' (k1.trans k)
   | nx ρ2=>rw [eb] at q;exact fun σ' H' fps' k r'=>⟨rfl,ρ2,fps',r',hP r1 k p1,RsOk.from (k1.trans k) q⟩
   | ct ρ2=>rw [eb] at q;exact fun σ' H' fps' k r'=>⟨rfl,ρ2,fps',r',hP r1 k p1,RsOk.from (k1.trans k) q⟩
 ·left
  have ed:els.drop i=[]:=List.drop_eq_nil_of_le (by omega)
  rw [ed] at q
  exact ⟨hst p (by omega),q σ H fps KS.refl r⟩
def rangeL (lo:Int) (n:Nat):List PV:=(List.range n).map fun (i:Nat)=>PV.int (lo + (i:Int))
theorem rangeL_len (lo:Int) (n:Nat):(rangeL lo n).length=n:=by simp [rangeL]
def ends1:List (PV×Nat)→Option (Int×Int)
 | [(.int j,_)]=>if -(2 ^ 62)≤j∧j < 2 ^ 62 then some (0,j) else none
 | _=>none
def ends2:List (PV×Nat)→Option (Int×Int)
 | [(.int i,_),(.int j,_)]=>if -(2 ^ 62)≤i∧i < 2 ^ 62∧-(2 ^ 62)≤j∧j < 2 ^ 62 then some (i,j) else none
 | _=>none
def sForR (en:List (PV×Nat)→Option (Int×Int)) (fa:Fa) (asg:PV→Rho→Option Rho) (body:Fs):Fs:=fun ρ=>match fa ρ with
 | .ok (xs,ρ1)=>(match en xs with
  | some (i,j)=>loopS asg body (rangeL i (j - i).toNat) ρ1
  | none=>.no)
 | .exc c=>.exc c
 | .no=>.no
theorem for_range_sem {g:TG}{asg:PV→Rho→Option Rho}{body:Fs}{D:Ends}{lo:Int}{n:Nat} (hg:GOk M [] is g asg) (rep:Rep M ρ σ H fps) (q:RsOk M D H fps (loopS asg body (rangeL lo n) ρ)):
  ∃ W:Nat→Nat→St→Hp→Prop,(∃ m,W 0 m σ H)∧∀ i m σ H,W i m σ H →
   ((Itr lo n).stop i H∧D.nx σ H)∨((Itr lo n).go i H∧∃ N:St→Hp→Prop,(∀ σ' H',N σ' H'→∃ m',m' < m∧W (i + 1) m' σ' H')∧∀ x H',(Itr lo n).yld i H x H'→g x σ H' fun σ2 H2=>(tS M body) { D with nx:=N,ct:=N,bk:=D.nx } σ2 H2):=by
 refine for_sem (Pq:=fun _ _=>True) hg (fun _ _ _=>trivial) (fun {H fps i} _ h=>?_) (fun {H fps i} _ h=>?_) (fun {ρ σ H fps i x H'} _ _ h y=>?_) rep trivial q
 ·rw [rangeL_len] at h;exact h
 ·rw [rangeL_len] at h;exact h
 ·rw [rangeL_len] at h
  obtain ⟨e1,e2⟩:=y
  subst e1
  exact ⟨fun _ _ h=>h,.int (lo + i),by simp [rangeL,h],by rw [e2,Own];exact ⟨rfl,rfl⟩⟩
theorem tS_for1 {g:TG}{asg:PV→Rho→Option Rho}{body:Fs}{fa:Fa}{D:Ends} (hg:GOk M [] is g asg) (hq:tS M (sForR ends1 fa asg body) D σ H):tFor (iRng1 (tL M fa vs)) g (tS M body) D σ H:=by
 obtain ⟨ρ,fps,rep,q⟩:=hq
 refine ⟨ρ,fps,rep,?_⟩
 unfold sForR at q
 cases ef:fa ρ with
 | no=>rw [ef] at q;exact q
 | exc c=>rw [ef] at q;exact fun H' fps' k=>q _ H' fps' k.ks
 | ok p=>
  obtain ⟨xs,ρ1⟩:=p
  rw [ef] at q
  intro ws H1 fps1 f1 k1 g1 rep1 o1 t1
  dsimp only at q
  cases ee:ends1 xs with
  | none=>rw [ee] at q;exact q.elim
  | some ij=>
   obtain ⟨i,j⟩:=ij
   rw [ee] at q
   unfold ends1 at ee
   split at ee
   ·rename_i j' d
    split at ee
    ·rename_i hb
     cases ee
     obtain ⟨v,r,f1,f2,rfl,_,_,h1,h2⟩:=o1
     obtain ⟨rfl,_⟩:=h2
     rw [Own] at h1
     obtain ⟨rfl,_⟩:=h1
     refine ⟨j,rfl,hb.1,hb.2,?_⟩
     have e:(j - 0).toNat=j.toNat:=by omega
     dsimp only at q
     rw [e] at q
     exact for_range_sem hg rep1 (RsOk.from k1.ks q)
    ·cases ee
   ·cases ee
theorem tS_for2 {g:TG}{asg:PV→Rho→Option Rho}{body:Fs}{fa:Fa}{D:Ends} (hg:GOk M [] is g asg) (hq:tS M (sForR ends2 fa asg body) D σ H):tFor (iRng2 (tL M fa vs)) g (tS M body) D σ H:=by
 obtain ⟨ρ,fps,rep,q⟩:=hq
 refine ⟨ρ,fps,rep,?_⟩
 unfold sForR at q
 cases ef:fa ρ with
 | no=>rw [ef] at q;exact q
 | exc c=>rw [ef] at q;exact fun H' fps' k=>q _ H' fps' k.ks
 | ok p=>
  obtain ⟨xs,ρ1⟩:=p
  rw [ef] at q
  intro ws H1 fps1 f1 k1 g1 rep1 o1 t1
  dsimp only at q
  cases ee:ends2 xs with
  | none=>rw [ee] at q;exact q.elim
  | some ij=>
   obtain ⟨i,j⟩:=ij
   rw [ee] at q
   unfold ends2 at ee
   split at ee
   ·rename_i i' d j' d'
    split at ee
    ·rename_i hb
     cases ee
     obtain ⟨v,r,f1,f2,rfl,_,_,h1,h2⟩:=o1
     obtain ⟨v2,r2,f3,f4,rfl,_,_,h3,h4⟩:=h2
     obtain ⟨rfl,_⟩:=h4
     rw [Own] at h1 h3
     obtain ⟨rfl,_⟩:=h1
     obtain ⟨rfl,_⟩:=h3
     exact ⟨i,j,rfl,hb,for_range_sem hg rep1 (RsOk.from k1.ks q)⟩
    ·cases ee
   ·cases ee
def signs (z:Str):List PV:=z.cps.toList.map fun c=>.str ⟨#[c]⟩
def sForS (f:Fx) (vs:List Nat) (asg:PV→Rho→Option Rho) (body:Fs):Fs:=fun ρ=>match f ρ with
 | .ok (.str z,d,ρ1)=>if asciiS z=true then loopS asg body (signs z) (coolIf d vs ρ1) else .no
 | .ok (.lst xs,d,ρ1)=>loopS asg body xs (coolIf d vs ρ1)
 | .ok (.tup xs,d,ρ1)=>loopS asg body xs (coolIf d vs ρ1)
 | .ok _=>.no
 | .exc c=>.exc c
 | .no=>.no
theorem OwnL.get {K:Frag}{Z:Addr→Prop}:∀ {xs:List PV}{ws:List V}{i:Nat}{w:V},OwnL K H Z xs 0 ws []→ws[i]?=some w→∃ x,xs[i]?=some x∧Own K H Z x 0 w []
 | [],ws,i,w,h,e=>by
  rw [OwnL] at h
  obtain ⟨rfl,_⟩:=h
  simp at e
 | x::xs,ws,i,w,h,e=>by
  rw [OwnL] at h
  obtain ⟨v,s,f1,f2,rfl,ef,_,o1,o2⟩:=h
  obtain ⟨rfl,rfl⟩:f1=[]∧f2=[]:=by simpa using ef.symm
  cases i with
  | zero=>simp at e;subst e;exact ⟨x,by simp,o1⟩
  | succ i=>obtain ⟨y,e1,e2⟩:=o2.get (i:=i) (w:=w) (by simpa using e);exact ⟨y,by simpa using e1,e2⟩
theorem Rep.seen {x:PV}{d:Nat}{v:V}{fp:List Addr} (rep:Rep M ρ σ H fps) (k:KD M H fps H' fps') (g:Agr M ρ ρ') (r':Rep M ρ' σ H' fps') (o:Own M.K H' (Zt M vs fps' fp) x d v fp) (t:Temp M vs H H' fps' fp)
  (hal:∀ i,M.al i=[]) (hv:∀ i∈vs,M.Ms i=false):∃ fps2,KS M H fps H' fps2∧Rep M (coolIf d vs ρ') σ H' fps2∧Own M.K H' (Zf M fps2) x 0 v []:=by
 unfold coolIf
 by_cases hd:d=om
 ·rw [if_pos hd]
  rw [hd] at o
  exact ⟨fps',k.ks,r',Own.freeze (fun _ z=>z) x om v fp (fun a ha=>t.ndj a ha) (Own.full x v fp o)⟩
 ·rw [if_neg hd]
  exact ⟨fcool vs fps',k.ks.cool,r'.cool hal hv,Own.freeze (fun a h=>.inl (Zf_cool h)) x d v fp (fun a ha z=>t.ndj a ha (Zf_cool z).zf) o⟩
theorem tS_forS {g:TG}{asg:PV→Rho→Option Rho}{body:Fs}{f:Fx}{D:Ends} (hal:∀ i,M.al i=[]) (hv:∀ i∈vs,M.Ms i=false) (hg:GOk M [] is g asg) (hq:tS M (sForS f vs asg body) D σ H):tFor (iSeq M.K (tE M f vs)) g (tS M body) D σ H:=by
 obtain ⟨ρ,fps,rep,q⟩:=hq
 refine ⟨ρ,fps,rep,?_⟩
 unfold sForS at q
 cases ef:f ρ with
 | no=>rw [ef] at q;exact q
 | exc c=>rw [ef] at q;exact fun H' fps' k=>q _ H' fps' k.ks
 | ok p=>
  obtain ⟨x,d,ρ1⟩:=p
  rw [ef] at q
  intro v H1 fps1 f1 k1 g1 rep1 o1 t1
  obtain ⟨fps2,k2,r2,o2⟩:=Rep.seen rep k1 g1 rep1 o1 t1 hal hv
  cases x with
  | lst xs=>
   have o2':=o2
   rw [Own] at o2'
   obtain ⟨a,ws,rfl,⟨_,hr,_,ol⟩ | ⟨h,_⟩⟩:=o2'
   ·have sq:SqL M.K H1 a ws:=.inl (.inl hr.1)
    refine .inl ⟨a,rfl,.inl ⟨⟨ws,sq⟩,?_⟩⟩
    have one:∀ {H:Hp}{fps:Fps},Own M.K H (Zf M fps) (.lst xs) 0 (.ref a) []→∃ ws,SqL M.K H a ws∧OwnL M.K H (Zf M fps) xs 0 ws []:=fun o=>by
     rw [Own] at o
     obtain ⟨b,ws,e,⟨_,hr,_,ol⟩ | ⟨h,_⟩⟩:=o
     ·cases e;exact ⟨ws,.inl (.inl hr.1),ol⟩
     ·exact absurd rfl h
    refine for_sem (Pq:=fun H fps=>Own M.K H (Zf M fps) (.lst xs) 0 (.ref a) []) (els:=xs) hg (fun r k o=>k.stay0 r o) (fun {H fps i} o h=>?_) (fun {H fps i} o h=>?_) (fun {ρ σ H fps i x H'} _ o h y=>?_) r2 o2 (RsOk.from k2 q)
    ·obtain ⟨ws,s,ol⟩:=one o
     exact ⟨ws,ws[i]'(by rw [ol.length];exact h),s,by simp⟩
    ·obtain ⟨ws,s,ol⟩:=one o
     exact ⟨ws,s,by rw [ol.length];exact h⟩
    ·obtain ⟨ws,s,ol⟩:=one o
     obtain ⟨e1,e2⟩:=y
     subst e1
     exact ⟨fun _ _ h=>h,ol.get (e2 ws s)⟩
   ·exact absurd rfl h
  | tup xs=>
   have o2':=o2
   rw [Own] at o2'
   obtain ⟨a,ws,rfl,hr,ol⟩:=o2'
   refine .inl ⟨a,rfl,.inr ⟨⟨ws,.inl (.inl hr)⟩,?_⟩⟩
   have one:∀ {H:Hp}{fps:Fps},Own M.K H (Zf M fps) (.tup xs) 0 (.ref a) []→∃ ws,SqT M.K H a ws∧OwnL M.K H (Zf M fps) xs 0 ws []:=fun o=>by
    rw [Own] at o
    obtain ⟨b,ws,e,hr,ol⟩:=o
    cases e;exact ⟨ws,.inl (.inl hr),ol⟩
   refine for_sem (Pq:=fun H fps=>Own M.K H (Zf M fps) (.tup xs) 0 (.ref a) []) (els:=xs) hg (fun r k o=>k.stay0 r o) (fun {H fps i} o h=>?_) (fun {H fps i} o h=>?_) (fun {ρ σ H fps i x H'} _ o h y=>?_) r2 o2 (RsOk.from k2 q)
   ·obtain ⟨ws,s,ol⟩:=one o
    exact ⟨ws,ws[i]'(by rw [ol.length];exact h),s,by simp⟩
   ·obtain ⟨ws,s,ol⟩:=one o
    exact ⟨ws,s,by rw [ol.length];exact h⟩
   ·obtain ⟨ws,s,ol⟩:=one o
    obtain ⟨e1,e2⟩:=y
    subst e1
    exact ⟨fun _ _ h=>h,ol.get (e2 ws s)⟩
  | str z=>
   have o2':=o2
   rw [Own] at o2'
   obtain ⟨rfl,_⟩:=o2'
   dsimp only at q
   split at q
   ·rename_i ha
    refine .inr ⟨z,rfl,ha,?_⟩
    have hl:(signs z).length=z.cps.size:=by unfold signs;rw [List.length_map,Array.length_toList]
    refine for_sem (Pq:=fun _ _=>True) (els:=signs z) hg (fun _ _ _=>trivial) (fun {H fps i} _ h=>?_) (fun {H fps i} _ h=>?_) (fun {ρ σ H fps i x H'} _ _ h y=>?_) r2 trivial (RsOk.from k2 q)
    ·show i < z.cps.size
     omega
    ·show z.cps.size≤i
     omega
    ·obtain ⟨rfl,c,hc,rfl⟩:=y
     refine ⟨fun _ _ h=>h,.str ⟨#[c]⟩,?_,by rw [Own];exact ⟨rfl,rfl⟩⟩
     unfold signs
     rw [List.getElem?_map,Array.getElem?_toList,hc]
     rfl
   ·exact q.elim
  | _=>exact q.elim
end
section
variable {M:Fm}{ρ ρ':Rho}{σ σ':St}{H H' H'':Hp}{fps fps' fps'':Fps}{vs vs':List Nat}
def Fm.comp (M:Fm) (D:Addr) (n:Nat) (vI:List Nat):Fm:={ M.plus [D] with W:=fun _ _ _=>False,al:=fun j=>if j < n then M.al j else vI }
theorem Rep.minus {fp:List Addr} (r:Rep (M.plus fp) ρ σ H fps):Rep M ρ σ H fps where
 own:=fun i x d e=>let ⟨v,h1,h2⟩:=r.own i x d e;⟨v,h1,h2.weak fun a h=>h.elim (fun h=>.inl (.inl h)) .inr⟩
 non:=r.non
 dj:=r.dj
 zo:=fun i a ha z=>r.zo i a ha (.inl z)
 fr:=r.fr
 zd:=fun a z=>r.zd a (.inl z)
 len:=r.len
 msf:=r.msf
 h0:=r.h0
 iov:=r.iov
theorem Rep.far (r:Rep M ρ σ H fps) {j:Nat} (h:ρ.length≤j):fps j=[]:=r.non j fun p e=>by
 rw [List.getElem?_eq_none_iff.mpr h] at e;cases e
theorem Rep.ext {D:Addr}{k:Nat}{vI:List Nat} (r:Rep (M.plus [D]) ρ σ H fps):Rep (M.comp D ρ.length vI) (ρ++List.replicate k none) (σ++List.replicate k none) H fps where
 own:=fun i x d e=>by
  by_cases hi:i < ρ.length
  ·rw [List.getElem?_append_left hi] at e
   obtain ⟨v,h1,h2⟩:=r.own i x d e
   refine ⟨v,by rw [List.getElem?_append_left (by rw [← r.len];exact hi)];exact h1,h2.weak fun a h=>?_⟩
   rcases h with h | ⟨j,nj,h⟩
   ·exact .inl h
   ·refine .inr ⟨j,?_,h⟩
    have:(M.comp D ρ.length vI).al i=M.al i:=if_pos hi
    rw [this] at nj;exact nj
  ·rw [List.getElem?_append_right (by omega),List.getElem?_replicate] at e
   split at e <;> cases e
 non:=fun i h=>by
  by_cases hi:i < ρ.length
  ·exact r.non i fun p e=>h p (by rw [List.getElem?_append_left hi];exact e)
  ·exact r.far (by omega)
 dj:=r.dj
 zo:=r.zo
 fr:=r.fr
 zd:=r.zd
 len:=by simp [r.len]
 msf:=fun i x d hm e=>by
  by_cases hi:i < ρ.length
  ·rw [List.getElem?_append_left hi] at e;exact r.msf i x d hm e
  ·rw [List.getElem?_append_right (by omega),List.getElem?_replicate] at e
   split at e <;> cases e
 h0:=r.h0
 iov:=⟨fun v hv=>by
  have h:=r.iov.1 v hv
  refine ⟨?_,h.2⟩
  have:0 < σ.length:=(List.getElem?_eq_some_iff.mp h.1).1
  rw [List.getElem?_append_left this];exact h.1,fun p hp=>by
  have h:=r.iov.2 p hp
  rw [List.getElem?_append_left (List.getElem?_eq_some_iff.mp h).1];exact h⟩
def cut (n:Nat) (fps:Fps):Fps:=fun j=>if j < n then fps j else []
theorem cut_sub {n i:Nat}{a:Addr} (h:a∈cut n fps i):a∈fps i∧i < n:=by
 unfold cut at h
 split at h
 ·rename_i hi;exact ⟨h,hi⟩
 ·cases h
theorem Rep.take {D:Addr}{n:Nat}{vI:List Nat} (r:Rep (M.comp D n vI) ρ σ H fps) (hσ:∀ i,i < n→σ[i]?=σ'[i]?) (hl:σ'.length=n) (hn:n≤ρ.length) (hio:(M.io≠none→0 < n)∧∀ p∈M.pn,p.1 < n):Rep (M.plus [D]) (ρ.take n) σ' H (cut n fps) where
 own:=fun i x d e=>by
  have hi:i < n:=by
   have:=(List.getElem?_eq_some_iff.mp e).1
   rw [List.length_take] at this;omega
  rw [List.getElem?_take_of_lt hi] at e
  obtain ⟨v,h1,h2⟩:=r.own i x d e
  refine ⟨v,by rw [← hσ i hi];exact h1,?_⟩
  have:cut n fps i=fps i:=if_pos hi
  rw [this]
  refine h2.weak fun a h=>?_
  rcases h with h | ⟨j,nj,h⟩
  ·exact .inl h
  ·refine .inr ⟨j,?_,(cut_sub h).1⟩
   have:(M.comp D n vI).al i=M.al i:=if_pos hi
   rw [this];exact nj
 non:=fun i h=>by
  unfold cut
  split
  ·rename_i hi
   exact r.non i fun p e=>h p (by rw [List.getElem?_take_of_lt hi];exact e)
  ·rfl
 dj:=fun i j hij a ha hb=>r.dj i j hij a (cut_sub ha).1 (cut_sub hb).1
 zo:=fun i a ha=>r.zo i a (cut_sub ha).1
 fr:=fun i hi a ha=>r.fr i hi a (cut_sub ha).1
 zd:=r.zd
 len:=by rw [List.length_take,hl];omega
 msf:=fun i x d hm e=>by
  have hi:i < n:=by
   have:=(List.getElem?_eq_some_iff.mp e).1
   rw [List.length_take] at this;omega
  rw [List.getElem?_take_of_lt hi] at e
  exact r.msf i x d hm e
 h0:=r.h0
 iov:=⟨fun v hv=>by
  have h:=r.iov.1 v hv
  refine ⟨?_,h.2⟩
  have h0:0 < n:=hio.1 (by
   have hv':M.io=some v:=hv
   rw [hv'];simp)
  rw [← hσ 0 h0];exact h.1,fun p hp=>by rw [← hσ p.1 (hio.2 p hp)];exact r.iov.2 p hp⟩
theorem Rep.touch {D:Addr}{us ws:List V} (r:Rep (M.plus [D]) ρ σ H fps) (hD:H D=some (.lst ws)):Rep (M.plus [D]) ρ σ (upd H D (.lst us)) fps:=by
 have zD:(M.plus [D]).Zo D:=.inr (by simp)
 have dm:∀ b,H b≠none→(upd H D (.lst us)) b≠none:=fun b h=>by
  by_cases eb:b=D
  ·rw [eb,upd_same];simp
  ·rw [upd_ne eb];exact h
 exact ⟨fun i x d e=>let ⟨v,h1,h2⟩:=r.own i x d e;⟨v,h1,h2.at (.inl zD) ⟨.l ws,hD⟩ (fun z=>r.zo i D z zD) fun _ _ n=>n⟩,r.non,r.dj,r.zo,r.fr,fun a z=>dm a (r.zd a z),r.len,r.msf,fun a z=>dm a (r.h0 a z),r.iov⟩
theorem Tmps.snoc {K:Frag}{Z:Addr→Prop}{y:PV}{e:Nat}{w:V}{fe:List Addr} (hy:Own K H (fun a=>Z a∨a∈fe) y e w fe):∀ {xs:List (PV×Nat)}{ws:List V}{fp:List Addr},Tmps K H Z xs ws fp→(∀ a∈fp,a∉fe)→Tmps K H Z (xs++[(y,e)]) (ws++[w]) (fp++fe)
 | [],ws,fp,h,_=>by
  obtain ⟨rfl,rfl⟩:=h
  exact ⟨w,[],fe,[],rfl,by simp,fun _ _ z=>(nomatch z),hy,rfl,rfl⟩
 | (x,d)::xs,ws,fp,h,hd=>by
  obtain ⟨v,s,f1,f2,rfl,rfl,dj,h1,h2⟩:=h
  refine ⟨v,s++[w],f1,f2++fe,rfl,by rw [List.append_assoc],fun a ha hb=>?_,h1,h2.snoc hy fun a ha=>hd a (List.mem_append_right _ ha)⟩
  rcases List.mem_append.mp hb with z | z
  ·exact dj a ha z
  ·exact hd a (List.mem_append_left _ ha) z
theorem Tmps.at {K:Frag}{Z:Addr→Prop}{a:Addr}{o:HO} (hZ:Z a) (hl:∃ o:MO,H a=some o.ho):∀ {xs:List (PV×Nat)}{ws:List V}{fp:List Addr},Tmps K H Z xs ws fp→a∉fp→Tmps K (upd H a o) Z xs ws fp
 | [],_,_,h,_=>h
 | (x,d)::xs,ws,fp,h,hf=>by
  obtain ⟨v,s,f1,f2,e1,rfl,dj,h1,h2⟩:=h
  exact ⟨v,s,f1,f2,e1,rfl,dj,h1.at (.inl hZ) hl (fun z=>hf (List.mem_append_left _ z)) fun _ _ n=>n,h2.at hZ hl fun z=>hf (List.mem_append_right _ z)⟩
theorem Tmps.lsts {K:Frag}{Z:Addr→Prop}:∀ {xs:List (PV×Nat)}{ws:List V}{fp:List Addr},Tmps K H Z xs ws fp→∀ a∈fp,∃ o:MO,H a=some o.ho
 | [],_,_,h,a,ha=>by rw [h.2] at ha;cases ha
 | (x,d)::xs,ws,fp,h,a,ha=>by
  obtain ⟨v,s,f1,f2,e1,rfl,dj,h1,h2⟩:=h
  rcases List.mem_append.mp ha with z | z
  ·exact Own.lsts x d v f1 h1 a z
  ·exact h2.lsts a z
def Rz.bindN {α β:Type} (r:Rz α) (f:α→Rz β):Rz β:=match r with
 | .ok a=>f a
 | _=>.no
def compL (k:Nat) (asg:PV→Rho→Option Rho) (test:Fb) (elt:Fx):List PV→Rho→List (PV×Nat)→Rz (List (PV×Nat)×Rho)
 | [],ρ,acc=>.ok (acc,ρ)
 | x::xs,ρ,acc=>match asg x (ρ++List.replicate k none) with
  | none=>.no
  | some ρ1=>(test ρ1).bindN fun (b,ρ2)=>if b=true then (elt ρ2).bindN fun (y,e,ρ3)=>(if acc.length < sizeLine then compL k asg test elt xs (ρ3.take ρ.length) (acc++[(y,e)]) else .no) else compL k asg test elt xs (ρ2.take ρ.length) acc
theorem KD.seen {D:Addr}{x:PV}{v:V} (r:Rep M ρ σ H fps) (k:KD M H fps H' fps') (hD:H D=none) (hv:∀ i∈vs,M.Ms i=false) (o:Own M.K H (Zv M vs fps) x 0 v []):Own M.K H' (Zv (M.plus [D]) vs fps') x 0 v []:=by
 refine Own.move k.keep ?_ ?_ x 0 v [] (fun _ z=>nomatch z) o
 ·rintro a ⟨i,hi,ha⟩
  exact ⟨.inr ⟨i,fun z=>(by rw [hv i z] at hi;cases hi),ha⟩,r.lsts ha⟩
 ·intro a hd nz z
  rcases z with (z | z) | ⟨i,ni,hx⟩
  ·exact nz (.inl z)
  ·rw [List.mem_singleton.mp z] at hd;exact hd hD
  ·rcases k.sub i a hx with z | z
   ·exact nz (.inr ⟨i,ni,z⟩)
   ·exact hd z
theorem comp_sem {g:TG}{is vI vE vo:List Nat}{asg:PV→Rho→Option Rho}{test:Fb}{elt:Fx}{k:Nat}{J:It}{els:List PV}{Q:VK}{n:Nat}{P:Fm→Prop}
  (hP:∀ D,P (M.comp D n vI)) (hn:n=ρ.length) (hal:∀ i,∀ j∈M.al i,M.Ms j=false) (hvI:∀ i∈vI,M.Ms i=false) (hvE:∀ i∈vE,M.Ms i=false) (his:∀ i∈is,n≤i) (hg:∀ D,GOk (M.comp D n vI) vI is g asg) (hvo:∀ i,i∈vE→i < n→i∈vo) (hvo2:∀ i∈vo,M.Ms i=false)
  (rep:Rep M ρ σ H fps)
  (hgo:∀ {D H' fps' i},H D=none→KD M H fps H' fps'→i < els.length→J.go i H') (hst:∀ {D H' fps' i},H D=none→KD M H fps H' fps'→els.length≤i→J.stop i H')
  (hy:∀ {D H' fps' i x H''},H D=none→KD M H fps H' fps'→i < els.length→J.yld i H' x H''→(∀ a o,H' a=some o→H'' a=some o)∧∃ z,els[i]?=some z∧Own M.K H'' (Zv (M.plus [D]) vI fps') z 0 x [])
  (q:match compL k asg test elt els ρ [] with
   | .ok (acc,ρ')=>∀ D ws H' fps' fpl,KD M H fps H' fps'→Agr M ρ ρ'→Rep (M.plus [D]) ρ' σ H' fps'→H D=none→H' D=some (.lst ws)→Tmps M.K H' (Zv (M.plus [D]) vo fps') acc ws fpl→(∀ a∈fpl,H a=none∧¬ Zf (M.plus [D]) fps' a)→Q (.ref D) H'
   | _=>False):
  ∀ D,H D=none→∃ W:Nat→Nat→List V→Hp→Prop,(∃ m,W 0 m [] (upd H D (.lst [])))∧∀ i m ys H1,W i m ys H1→H1 D=some (.lst ys) ∧
   ((J.stop i H1∧Q (.ref D) H1)∨(J.go i H1∧∀ x H',J.yld i H1 x H'→g x (σ++List.replicate k none) H' fun σ2 H2=>∃ M',P M'∧tT M' test σ2 H2 fun b H3=>if b=true then ∃ M',P M'∧tE M' elt vE σ2 H3 fun y H4=>H4 D=some (.lst ys)∧ys.length < sizeLine∧∃ m',m' < m∧W (i + 1) m' (ys++[y]) (upd H4 D (.lst (ys++[y]))) else ∃ m',m' < m∧W (i + 1) m' ys H3)):=by
 intro D hD
 subst hn
 let W:Nat→Nat→List V→Hp→Prop:=fun i m ys H1=>m=els.length - i∧∃ ρ1 fps1 acc fpl,Rep (M.plus [D]) ρ1 σ H1 fps1∧KD M H fps H1 fps1∧Agr M ρ ρ1∧Tmps M.K H1 (Zv (M.plus [D]) vo fps1) acc ys fpl∧(∀ a∈fpl,H a=none∧¬ Zf (M.plus [D]) fps1 a)∧H1 D=some (.lst ys)∧compL k asg test elt (els.drop i) ρ1 acc=compL k asg test elt els ρ []
 have k0:KD M H fps (upd H D (.lst [])) fps:=KD.grow fun a o h=>by rw [upd_ne (fun e=>by rw [e,hD] at h;cases h)];exact h
 have r0:Rep (M.plus [D]) ρ σ (upd H D (.lst [])) fps:=by
  refine rep.wide hal k0 Agr.refl (rep.grow fun a o h=>by rw [upd_ne (fun e=>by rw [e,hD] at h;cases h)];exact h) fun a ha=>?_
  rw [List.mem_singleton.mp ha]
  exact ⟨hD,by rw [upd_same];simp,rep.nz hD⟩
 refine ⟨W,⟨els.length,by simp,ρ,fps,[],[],r0,k0,Agr.refl,⟨rfl,rfl⟩,fun _ z=>(nomatch z),upd_same,by simp⟩,?_⟩
 rintro i m ys H1 ⟨rfl,ρ1,fps1,acc,fpl,r1,k1,g1,tm,hf,h1D,ec⟩
 refine ⟨h1D,?_⟩
 have hlen:ρ1.length=ρ.length:=g1.2
 by_cases hi:i < els.length
 ·right
  refine ⟨hgo hD k1 hi,fun x H' hyl=>?_⟩
  obtain ⟨kx,z,ez,oz⟩:=hy hD k1 hi hyl
  have tm:=KD.stays (M:=M.plus [D]) (KD.grow kx) r1 hvo2 tm fun a ha=>(hf a ha).2
  have r1:=r1.grow kx
  have k1:=k1.trans (KD.grow (M:=M) (fps:=fps1) kx)
  have h1D:=kx D _ h1D
  have ed:els.drop i=z::els.drop (i + 1):=by
   obtain ⟨h1,h2⟩:=List.getElem?_eq_some_iff.mp ez
   rw [← h2];exact List.drop_eq_getElem_cons h1
  rw [ed] at ec
  have good:∃ a r,compL k asg test elt els ρ []=.ok (a,r):=by
   cases e:compL k asg test elt els ρ [] with
   | ok p=>exact ⟨p.1,p.2,rfl⟩
   | exc c=>rw [e] at q;exact q.elim
   | no=>rw [e] at q;exact q.elim
  obtain ⟨accF,ρF,eF⟩:=good
  rw [eF] at ec
  unfold compL at ec
  cases ea:asg z (ρ1++List.replicate k none) with
  | none=>rw [ea] at ec;cases ec
  | some ρ2=>
   rw [ea] at ec
   dsimp only at ec
   have rx:Rep (M.comp D ρ.length vI) (ρ1++List.replicate k none) (σ++List.replicate k none) H' fps1:=by rw [← hlen];exact r1.ext
   refine hg D z x _ _ H' fps1 ρ2 _ rx oz ea fun σ2 fps2 s2 a2 l2 r2=>⟨_,hP D,ρ2,fps2,r2,?_⟩
   have hl2:ρ2.length=ρ.length + k:=by rw [l2,List.length_append,List.length_replicate,hlen]
   have same2:∀ j,j < ρ.length→ρ2[j]?=ρ1[j]?∧fps2 j=fps1 j∧σ2[j]?=σ[j]?:=fun j hj=>by
    obtain ⟨z1,z2,z3⟩:=a2 j fun z=>absurd (his j z) (by omega)
    rw [List.getElem?_append_left (by omega)] at z1
    rw [List.getElem?_append_left (by rw [← rep.len];omega)] at z3
    exact ⟨z1,z2,z3⟩
   have kd2:KD (M.comp D ρ.length vI) H' fps1 H' fps2→True:=fun _=>trivial
   cases et:test ρ2 with
   | exc c=>rw [et] at ec;cases ec
   | no=>rw [et] at ec;cases ec
   | ok p=>
    obtain ⟨b,ρ3⟩:=p
    rw [et] at ec
    intro H3 fps3 k3 g3 r3
    dsimp only [Rz.bindN] at ec
    have far:∀ {ρ4:Rho}{H4:Hp}{fps4:Fps},KD (M.comp D ρ.length vI) H' fps2 H4 fps4→Agr (M.comp D ρ.length vI) ρ2 ρ4→Rep (M.comp D ρ.length vI) ρ4 σ2 H4 fps4 →
      KD M H fps H4 (cut ρ.length fps4)∧KD M H' fps1 H4 (cut ρ.length fps4)∧Agr M ρ (ρ4.take ρ.length)∧Rep (M.plus [D]) (ρ4.take ρ.length) σ H4 (cut ρ.length fps4)∧H4 D=some (.lst ys):=fun {ρ4 H4 fps4} k4 g4 r4=>by
     have kk:KD M H' fps1 H4 (cut ρ.length fps4):=by
      refine ⟨fun a o ha hn=>k4.keep a o ha fun ⟨j,hj,hx⟩=>hn ⟨j,hj,s2 j a hx⟩,k4.dom,fun j a ha=>?_,fun j hj=>?_⟩
      ·rcases k4.sub j a (cut_sub ha).1 with z | z
       ·exact .inl (s2 j a z)
       ·exact .inr z
      ·unfold cut
       by_cases hjl:j < ρ.length
       ·rw [if_pos hjl,k4.same j hj];exact (same2 j hjl).2.1
       ·rw [if_neg hjl];exact (r1.far (by omega)).symm
     refine ⟨k1.trans kk,kk,?_,r4.take (σ':=σ) (fun j hj=>(same2 j hj).2.2) rep.len.symm (by rw [g4.2,hl2];omega) ⟨fun hio=>?_,fun p hp=>by rw [rep.len];exact (List.getElem?_eq_some_iff.mp (rep.iov.2 p hp)).1⟩,?_⟩
     ·refine ⟨fun j hj=>?_,by rw [List.length_take,g4.2,hl2];omega⟩
      by_cases hjl:j < ρ.length
      ·rw [List.getElem?_take_of_lt hjl,g4.1 j hj,(same2 j hjl).1];exact g1.1 j hj
      ·rw [List.getElem?_eq_none_iff.mpr (by rw [List.length_take];omega),List.getElem?_eq_none_iff.mpr (by omega)]
     ·cases e:M.io with
      | none=>exact absurd e hio
      | some v=>
       have:=(List.getElem?_eq_some_iff.mp (rep.iov.1 v e).1).1
       rw [rep.len];exact this
     ·exact k4.keep D _ h1D fun ⟨j,_,hx⟩=>r2.zo j D hx (.inr (by simp))
    have notZ:∀ {H4:Hp}{fps4:Fps},KD M H' fps1 H4 fps4→∀ {a},a∈fpl→¬ Zf (M.plus [D]) fps4 a:=fun {H4 fps4} k4 a ha z=>by
     rcases z with z | ⟨j,z⟩
     ·exact (hf a ha).2 (.inl z)
     ·rcases k4.sub j a z with z | z
      ·exact (hf a ha).2 (.inr ⟨j,z⟩)
      ·obtain ⟨xs,e⟩:=tm.lsts a ha
       rw [z] at e;cases e
    cases b with
    | false=>
     rw [if_neg Bool.false_ne_true] at ec ⊢
     obtain ⟨f1,f2,f3,f4,f5⟩:=far k3 g3 r3
     refine ⟨els.length - (i + 1),by omega,rfl,ρ3.take ρ.length,cut ρ.length fps3,acc,fpl,f4,f1,f3,?_,fun a ha=>⟨(hf a ha).1,fun z=>?_⟩,f5,by rw [eF,← hlen];exact ec⟩
     ·exact KD.stays (M:=M.plus [D]) (σ:=σ) (ρ:=ρ1) ⟨f2.keep,f2.dom,f2.sub,f2.same⟩ r1 hvo2 tm fun a ha=>(hf a ha).2
     ·exact notZ f2 ha z
    | true=>
     rw [if_pos rfl] at ec ⊢
     refine ⟨_,hP D,ρ3,fps3,r3,?_⟩
     cases ee:elt ρ3 with
     | exc c=>rw [ee] at ec;cases ec
     | no=>rw [ee] at ec;cases ec
     | ok p=>
      obtain ⟨y,e,ρ4⟩:=p
      rw [ee] at ec
      intro w H4 fps4 fe k4 g4 r4 o4 t4
      dsimp only at ec
      by_cases hz:acc.length < sizeLine
      ·rw [if_pos hz] at ec
       obtain ⟨f1,f2,f3,f4,f5⟩:=far (k3.trans k4) (g3.trans g4) r4
       have tm4:Tmps M.K H4 (Zv (M.plus [D]) vo (cut ρ.length fps4)) acc ys fpl:=KD.stays (M:=M.plus [D]) (σ:=σ) (ρ:=ρ1) ⟨f2.keep,f2.dom,f2.sub,f2.same⟩ r1 hvo2 tm fun a ha=>(hf a ha).2
       have zD:Zv (M.plus [D]) vo (cut ρ.length fps4) D:=.inl (.inr (by simp))
       have hDe:D∉fe:=fun z=>t4.ndj D z (.inl (.inr (by simp)))
       have hDl:D∉fpl:=fun z=>(hf D z).2 (.inl (.inr (by simp)))
       have oy:Own M.K H4 (fun a=>Zv (M.plus [D]) vo (cut ρ.length fps4) a∨a∈fe) y e w fe:=o4.weak fun a h=>h.elim (fun h=>.inl (h.elim .inl fun ⟨j,nj,hx⟩=>.inr ⟨j,fun z=>nj (hvo j z (cut_sub hx).2),(cut_sub hx).1⟩)) .inr
       have back3:∀ a,H3 a=none→H' a=none:=fun a e=>by
        cases e':H' a with
        | none=>rfl
        | some o=>exact absurd e (k3.dom a (by rw [e'];simp))
       have back1:∀ a,H' a=none→H a=none:=fun a e=>by
        cases e':H a with
        | none=>rfl
        | some o=>exact absurd e (k1.dom a (by rw [e'];simp))
       have kt:KD M H fps (upd H4 D (.lst (ys++[w]))) (cut ρ.length fps4):=⟨fun a o ha hn=>by rw [upd_ne (fun e=>by rw [e,hD] at ha;cases ha)];exact f1.keep a o ha hn,fun a ha=>by
        by_cases eb:a=D
        ·rw [eb,upd_same];simp
        ·rw [upd_ne eb];exact f1.dom a ha,f1.sub,f1.same⟩
       refine ⟨f5,by rw [tm.length];exact hz,els.length - (i + 1),by omega,rfl,ρ4.take ρ.length,cut ρ.length fps4,acc++[(y,e)],fpl++fe,f4.touch f5,kt,f3,?_,fun a ha=>?_,upd_same,by rw [eF,← hlen];exact ec⟩
       ·exact (tm4.at zD ⟨.l ys,f5⟩ hDl).snoc (oy.at (.inl zD) ⟨.l ys,f5⟩ hDe fun _ _ n=>n) fun a ha hb=>by
         obtain ⟨xs,e⟩:=tm.lsts a ha
         rw [back3 a (t4.new a hb)] at e;cases e
       ·rcases List.mem_append.mp ha with z | z
        ·exact ⟨(hf a z).1,notZ f2 z⟩
        ·refine ⟨back1 a (back3 a (t4.new a z)),fun hz=>t4.ndj a z ?_⟩
         rcases hz with hz | ⟨j,hz⟩
         ·exact .inl hz
         ·exact .inr ⟨j,(cut_sub hz).1⟩
      ·rw [if_neg hz] at ec;cases ec
 ·left
  have ed:els.drop i=[]:=List.drop_eq_nil_of_le (by omega)
  rw [ed] at ec
  rw [← ec] at q
  unfold compL at q
  exact ⟨hst hD k1 (by omega),q D ys H1 fps1 fpl k1 g1 r1 hD h1D tm hf⟩
end
section
variable {M:Fm}{ρ ρ':Rho}{σ σ':St}{H H' H'':Hp}{fps fps' fps'':Fps}{vs vs':List Nat}
def allOm:List (PV×Nat)→Bool
 | []=>true
 | p::r=>(p.2 == om) && allOm r
theorem allOm_iff:∀ {xs:List (PV×Nat)},allOm xs=true→∀ p∈xs,p.2=om
 | [],_,_,h=>nomatch h
 | p::r,h,q,hq=>by
  unfold allOm at h
  rw [Bool.and_eq_true] at h
  rcases List.mem_cons.mp hq with e | e
  ·rw [e];exact eq_of_beq h.1
  ·exact allOm_iff h.2 q e
def lstOf (acc:List (PV×Nat)) (ρ:Rho):Rz (PV×Nat×Rho):=.ok (.lst (acc.map (·.1)),if allOm acc then om else 1,ρ)
def bCompS (f:Fx) (k:Nat) (asg:PV→Rho→Option Rho) (test:Fb) (elt:Fx):Fx:=fun ρ=>match f ρ with
 | .ok (.lst xs,_,ρ1)=>(compL k asg test elt xs ρ1 []).bindN fun (acc,ρ2)=>lstOf acc ρ2
 | .ok (.tup xs,_,ρ1)=>(compL k asg test elt xs ρ1 []).bindN fun (acc,ρ2)=>lstOf acc ρ2
 | .ok (.str z,_,ρ1)=>if asciiS z=true then (compL k asg test elt (signs z) ρ1 []).bindN fun (acc,ρ2)=>lstOf acc ρ2 else .no
 | .ok _=>.no
 | .exc c=>.exc c
 | .no=>.no
def bCompR (en:List (PV×Nat)→Option (Int×Int)) (fa:Fa) (k:Nat) (asg:PV→Rho→Option Rho) (test:Fb) (elt:Fx):Fx:=fun ρ=>match fa ρ with
 | .ok (xs,ρ1)=>(match en xs with
  | some (i,j)=>(compL k asg test elt (rangeL i (j - i).toNat) ρ1 []).bindN fun (acc,ρ2)=>lstOf acc ρ2
  | none=>.no)
 | .exc c=>.exc c
 | .no=>.no
theorem comp_end {D:Addr}{acc:List (PV×Nat)}{ws:List V}{fpl:List Addr}{vo:List Nat}{Q:VK}{H0:Hp}{fps0:Fps}{ρ0:Rho}
  (rep0:Rep M ρ σ H fps) (k0:KD M H0 fps0 H fps) (g0:Agr M ρ0 ρ) (q:∀ v H' fps' fp,KD M H0 fps0 H' fps'→Agr M ρ0 ρ'→Rep M ρ' σ H' fps'→Own M.K H' (Zt M vo fps' fp) (.lst (acc.map (·.1))) (if allOm acc then om else 1) v fp→Temp M vo H0 H' fps' fp→Q v H')
  (k:KD M H fps H' fps') (g:Agr M ρ ρ') (r:Rep (M.plus [D]) ρ' σ H' fps') (hD:H D=none) (hD':H' D=some (.lst ws)) (tm:Tmps M.K H' (Zv (M.plus [D]) vo fps') acc ws fpl) (hf:∀ a∈fpl,H a=none∧¬ Zf (M.plus [D]) fps' a):Q (.ref D) H':=by
 have back:∀ a,H a=none→H0 a=none:=fun a e=>by
  cases e':H0 a with
  | none=>rfl
  | some o=>exact absurd e (k0.dom a (by rw [e'];simp))
 have nD:¬ Zf M fps' D:=fun z=>by
  rcases z with z | ⟨j,z⟩
  ·exact rep0.zd D z hD
  ·exact r.zo j D z (.inr (by simp))
 have hDl:D∉fpl:=fun z=>(hf D z).2 (.inl (.inr (by simp)))
 have zt:∀ a,Zt M vo fps' [D] a→Zv (M.plus [D]) vo fps' a:=fun a h=>h.elim (fun h=>h.elim (fun h=>.inl (.inl h)) .inr) fun h=>.inl (.inr h)
 cases ho:allOm acc with
 | true=>
  rw [ho] at q
  refine q (.ref D) H' fps' (D::fpl) (k0.trans k) (g0.trans g) r.minus ?_ ⟨fun a ha=>?_,fun a ha=>?_⟩
  ·rw [Own]
   exact ⟨D,ws,rfl,.inr ⟨(by decide),fpl,hD',rfl,hDl,OwnL.full _ ws fpl (tm.all (allOm_iff ho))⟩⟩
  ·rcases List.mem_cons.mp ha with z | z
   ·rw [z];exact back D hD
   ·exact back a (hf a z).1
  ·rcases List.mem_cons.mp ha with z | z
   ·rw [z];exact nD
   ·exact fun y=>(hf a z).2 (y.elim (fun y=>.inl (.inl y)) .inr)
 | false=>
  rw [ho] at q
  refine q (.ref D) H' fps' [D] (k0.trans k) (g0.trans g) r.minus ?_ ⟨fun a ha=>?_,fun a ha=>?_⟩
  ·show Own M.K H' (Zt M vo fps' [D]) (.lst (acc.map (·.1))) 1 (.ref D) [D]
   rw [Own]
   refine ⟨D,ws,rfl,.inr ⟨(by decide),[],hD',rfl,(fun z=>nomatch z),?_⟩⟩
   rw [pd_one]
   exact (tm.cold fun a ha z=>(hf a ha).2 z.zf).weak zt
  ·rw [List.mem_singleton.mp ha];exact back D hD
  ·rw [List.mem_singleton.mp ha];exact nD
theorem tE_compS {g:TG}{is vI vE vo:List Nat}{asg:PV→Rho→Option Rho}{test:Fb}{elt f:Fx}{k n:Nat}{Q:VK}{P:Fm→Prop}
  (hn:σ.length=n) (hP:∀ D,P (M.comp D n vI)) (hal:∀ i,∀ j∈M.al i,M.Ms j=false) (hvI:∀ i∈vI,M.Ms i=false) (hvE:∀ i∈vE,M.Ms i=false) (his:∀ i∈is,n≤i) (hg:∀ D,GOk (M.comp D n vI) vI is g asg)
  (hvo:∀ i,i∈vE→i < n→i∈vo) (hvo2:∀ i∈vo,M.Ms i=false) (hq:tE M (bCompS f k asg test elt) vo σ H Q):
  tComp k (iSeq M.K (tE M f vI)) g (fun σ H Q=>∃ M',P M'∧tT M' test σ H Q) (fun σ H Q=>∃ M',P M'∧tE M' elt vE σ H Q) σ H Q:=by
 obtain ⟨ρ,fps,rep,q⟩:=hq
 refine ⟨ρ,fps,rep,?_⟩
 unfold bCompS at q
 cases ef:f ρ with
 | no=>rw [ef] at q;exact q
 | exc c=>rw [ef] at q;exact q
 | ok p=>
  obtain ⟨x,d,ρ1⟩:=p
  rw [ef] at q
  intro v H1 fps1 f1 k1 g1 rep1 o1 t1
  have o0:Own M.K H1 (Zv M vI fps1) x 0 v []:=Own.freeze (fun _ z=>.inl z) x d v f1 (fun a ha z=>t1.ndj a ha z.zf) o1
  have hl:n=ρ1.length:=by rw [rep1.len];exact hn.symm
  have fin:∀ (els:List PV),(match (compL k asg test elt els ρ1 []).bindN fun (acc,ρ2)=>lstOf acc ρ2 with
    | .ok (x,d,ρ')=>∀ v H' fps' fp,KD M H fps H' fps'→Agr M ρ ρ'→Rep M ρ' σ H' fps'→Own M.K H' (Zt M vo fps' fp) x d v fp→Temp M vo H H' fps' fp→Q v H'
    | .exc c=>∀ H' fps',KD M H fps H' fps'→M.W σ c H'
    | .no=>False)→(match compL k asg test elt els ρ1 [] with
    | .ok (acc,ρ')=>∀ D ws H' fps' fpl,KD M H1 fps1 H' fps'→Agr M ρ1 ρ'→Rep (M.plus [D]) ρ' σ H' fps'→H1 D=none→H' D=some (.lst ws)→Tmps M.K H' (Zv (M.plus [D]) vo fps') acc ws fpl→(∀ a∈fpl,H1 a=none∧¬ Zf (M.plus [D]) fps' a)→Q (.ref D) H'
    | _=>False):=fun els q=>by
   cases ec:compL k asg test elt els ρ1 [] with
   | no=>rw [ec] at q;exact q.elim
   | exc c=>rw [ec] at q;exact q.elim
   | ok p=>
    obtain ⟨acc,ρ2⟩:=p
    rw [ec] at q
    exact fun D ws H' fps' fpl k g r hD hD' tm hf=>comp_end rep1 k1 g1 q k g r hD hD' tm hf
  cases x with
  | lst xs=>
   have one:∀ {Z:Addr→Prop}{H:Hp},Own M.K H Z (.lst xs) 0 v []→∃ a ws,v=.ref a∧SqL M.K H a ws∧OwnL M.K H Z xs 0 ws []:=fun o=>by
    rw [Own] at o
    obtain ⟨b,ws,e,⟨_,hr,_,ol⟩ | ⟨h,_⟩⟩:=o
    ·exact ⟨b,ws,e,.inl (.inl hr.1),ol⟩
    ·exact absurd rfl h
   obtain ⟨a,ws,rfl,sq,ol⟩:=one o0
   refine .inl ⟨a,rfl,.inl ⟨⟨ws,sq⟩,?_⟩⟩
   refine comp_sem (els:=xs) hP hl hal hvI hvE his hg hvo hvo2 rep1 (fun {D H' fps' i} hD k' h=>?_) (fun {D H' fps' i} hD k' h=>?_) (fun {D H' fps' i x H''} hD k' h y=>?_) (fin xs q)
   ·obtain ⟨a',ws,e,s,ol⟩:=one (KD.seen rep1 k' hD hvI o0)
    cases e
    exact ⟨ws,ws[i]'(by rw [ol.length];exact h),s,by simp⟩
   ·obtain ⟨a',ws,e,s,ol⟩:=one (KD.seen rep1 k' hD hvI o0)
    cases e
    exact ⟨ws,s,by rw [ol.length];exact h⟩
   ·obtain ⟨a',ws,e,s,ol⟩:=one (KD.seen rep1 k' hD hvI o0)
    cases e
    obtain ⟨e1,e2⟩:=y
    subst e1
    exact ⟨fun _ _ h=>h,ol.get (e2 ws s)⟩
  | tup xs=>
   have one:∀ {Z:Addr→Prop}{H:Hp},Own M.K H Z (.tup xs) 0 v []→∃ a ws,v=.ref a∧SqT M.K H a ws∧OwnL M.K H Z xs 0 ws []:=fun o=>by
    rw [Own] at o
    obtain ⟨a,ws,e,hr,ol⟩:=o
    exact ⟨a,ws,e,.inl (.inl hr),ol⟩
   obtain ⟨a,ws,rfl,sq,ol⟩:=one o0
   refine .inl ⟨a,rfl,.inr ⟨⟨ws,sq⟩,?_⟩⟩
   refine comp_sem (els:=xs) hP hl hal hvI hvE his hg hvo hvo2 rep1 (fun {D H' fps' i} hD k' h=>?_) (fun {D H' fps' i} hD k' h=>?_) (fun {D H' fps' i x H''} hD k' h y=>?_) (fin xs q)
   ·obtain ⟨a',ws,e,s,ol⟩:=one (KD.seen rep1 k' hD hvI o0)
    cases e
    exact ⟨ws,ws[i]'(by rw [ol.length];exact h),s,by simp⟩
   ·obtain ⟨a',ws,e,s,ol⟩:=one (KD.seen rep1 k' hD hvI o0)
    cases e
    exact ⟨ws,s,by rw [ol.length];exact h⟩
   ·obtain ⟨a',ws,e,s,ol⟩:=one (KD.seen rep1 k' hD hvI o0)
    cases e
    obtain ⟨e1,e2⟩:=y
    subst e1
    exact ⟨fun _ _ h=>h,ol.get (e2 ws s)⟩
  | str z=>
   have o0':=o0
   rw [Own] at o0'
   obtain ⟨rfl,_⟩:=o0'
   dsimp only at q
   by_cases ha:asciiS z=true
   ·rw [if_pos ha] at q
    refine .inr ⟨z,rfl,ha,?_⟩
    have hl':(signs z).length=z.cps.size:=by unfold signs;rw [List.length_map,Array.length_toList]
    refine comp_sem (els:=signs z) hP hl hal hvI hvE his hg hvo hvo2 rep1 (fun {D H' fps' i} hD k' h=>?_) (fun {D H' fps' i} hD k' h=>?_) (fun {D H' fps' i x H''} hD k' h y=>?_) (fin (signs z) q)
    ·show i < z.cps.size
     omega
    ·show z.cps.size≤i
     omega
    ·obtain ⟨rfl,c,hc,rfl⟩:=y
     refine ⟨fun _ _ h=>h,.str ⟨#[c]⟩,?_,by rw [Own];exact ⟨rfl,rfl⟩⟩
     unfold signs
     rw [List.getElem?_map,Array.getElem?_toList,hc]
     rfl
   ·rw [if_neg ha] at q
    exact q.elim
  | _=>exact q.elim
theorem comp_range {g:TG}{is vI vE vo:List Nat}{asg:PV→Rho→Option Rho}{test:Fb}{elt:Fx}{k n:Nat}{Q:VK}{P:Fm→Prop}{lo:Int}{m:Nat}{H0:Hp}{fps0:Fps}{ρ0:Rho}
  (hn:σ.length=n) (hP:∀ D,P (M.comp D n vI)) (hal:∀ i,∀ j∈M.al i,M.Ms j=false) (hvI:∀ i∈vI,M.Ms i=false) (hvE:∀ i∈vE,M.Ms i=false) (his:∀ i∈is,n≤i) (hg:∀ D,GOk (M.comp D n vI) vI is g asg)
  (hvo:∀ i,i∈vE→i < n→i∈vo) (hvo2:∀ i∈vo,M.Ms i=false) (k0:KD M H0 fps0 H fps) (g0:Agr M ρ0 ρ) (rep:Rep M ρ σ H fps)
  (q:match (compL k asg test elt (rangeL lo m) ρ []).bindN fun (acc,ρ2)=>lstOf acc ρ2 with
    | .ok (x,d,ρ')=>∀ v H' fps' fp,KD M H0 fps0 H' fps'→Agr M ρ0 ρ'→Rep M ρ' σ H' fps'→Own M.K H' (Zt M vo fps' fp) x d v fp→Temp M vo H0 H' fps' fp→Q v H'
    | .exc c=>∀ H' fps',KD M H0 fps0 H' fps'→M.W σ c H'
    | .no=>False):
  ∀ D,H D=none→∃ W:Nat→Nat→List V→Hp→Prop,(∃ m,W 0 m [] (upd H D (.lst [])))∧∀ i j ys H1,W i j ys H1→H1 D=some (.lst ys) ∧
   (((Itr lo m).stop i H1∧Q (.ref D) H1)∨((Itr lo m).go i H1∧∀ x H',(Itr lo m).yld i H1 x H'→g x (σ++List.replicate k none) H' fun σ2 H2=>∃ M',P M'∧tT M' test σ2 H2 fun b H3=>if b=true then ∃ M',P M'∧tE M' elt vE σ2 H3 fun y H4=>H4 D=some (.lst ys)∧ys.length < sizeLine∧∃ m',m' < j∧W (i + 1) m' (ys++[y]) (upd H4 D (.lst (ys++[y]))) else ∃ m',m' < j∧W (i + 1) m' ys H3)):=by
 have hl:n=ρ.length:=by rw [rep.len];exact hn.symm
 refine comp_sem (els:=rangeL lo m) hP hl hal hvI hvE his hg hvo hvo2 rep (fun {D H' fps' i} hD k' h=>?_) (fun {D H' fps' i} hD k' h=>?_) (fun {D H' fps' i x H''} hD k' h y=>?_) ?_
 ·rw [rangeL_len] at h;exact h
 ·rw [rangeL_len] at h;exact h
 ·rw [rangeL_len] at h
  obtain ⟨e1,e2⟩:=y
  subst e1
  exact ⟨fun _ _ h=>h,.int (lo + i),by simp [rangeL,h],by rw [e2,Own];exact ⟨rfl,rfl⟩⟩
 ·cases ec:compL k asg test elt (rangeL lo m) ρ [] with
  | no=>rw [ec] at q;exact q.elim
  | exc c=>rw [ec] at q;exact q.elim
  | ok p=>
   obtain ⟨acc,ρ2⟩:=p
   rw [ec] at q
   exact fun D ws H' fps' fpl k g r hD hD' tm hf=>comp_end rep k0 g0 q k g r hD hD' tm hf
theorem tE_comp1 {g:TG}{is vI vE vo:List Nat}{asg:PV→Rho→Option Rho}{test:Fb}{elt:Fx}{fa:Fa}{k n:Nat}{Q:VK}{P:Fm→Prop}
  (hn:σ.length=n) (hP:∀ D,P (M.comp D n vI)) (hal:∀ i,∀ j∈M.al i,M.Ms j=false) (hvI:∀ i∈vI,M.Ms i=false) (hvE:∀ i∈vE,M.Ms i=false) (his:∀ i∈is,n≤i) (hg:∀ D,GOk (M.comp D n vI) vI is g asg)
  (hvo:∀ i,i∈vE→i < n→i∈vo) (hvo2:∀ i∈vo,M.Ms i=false) (hq:tE M (bCompR ends1 fa k asg test elt) vo σ H Q):
  tComp k (iRng1 (tL M fa vs)) g (fun σ H Q=>∃ M',P M'∧tT M' test σ H Q) (fun σ H Q=>∃ M',P M'∧tE M' elt vE σ H Q) σ H Q:=by
 obtain ⟨ρ,fps,rep,q⟩:=hq
 refine ⟨ρ,fps,rep,?_⟩
 unfold bCompR at q
 cases ef:fa ρ with
 | no=>rw [ef] at q;exact q
 | exc c=>rw [ef] at q;exact q
 | ok p=>
  obtain ⟨xs,ρ1⟩:=p
  rw [ef] at q
  intro ws H1 fps1 f1 k1 g1 rep1 o1 t1
  dsimp only at q
  cases ee:ends1 xs with
  | none=>rw [ee] at q;exact q.elim
  | some ij=>
   obtain ⟨i,j⟩:=ij
   rw [ee] at q
   unfold ends1 at ee
   split at ee
   ·rename_i j' d
    split at ee
    ·rename_i hb
     cases ee
     obtain ⟨v,r,f1,f2,rfl,_,_,h1,h2⟩:=o1
     obtain ⟨rfl,_⟩:=h2
     rw [Own] at h1
     obtain ⟨rfl,_⟩:=h1
     refine ⟨j,rfl,hb.1,hb.2,?_⟩
     have e:(j - 0).toNat=j.toNat:=by omega
     dsimp only at q
     rw [e] at q
     exact comp_range hn hP hal hvI hvE his hg hvo hvo2 k1 g1 rep1 q
    ·cases ee
   ·cases ee
theorem tE_comp2 {g:TG}{is vI vE vo:List Nat}{asg:PV→Rho→Option Rho}{test:Fb}{elt:Fx}{fa:Fa}{k n:Nat}{Q:VK}{P:Fm→Prop}
  (hn:σ.length=n) (hP:∀ D,P (M.comp D n vI)) (hal:∀ i,∀ j∈M.al i,M.Ms j=false) (hvI:∀ i∈vI,M.Ms i=false) (hvE:∀ i∈vE,M.Ms i=false) (his:∀ i∈is,n≤i) (hg:∀ D,GOk (M.comp D n vI) vI is g asg)
  (hvo:∀ i,i∈vE→i < n→i∈vo) (hvo2:∀ i∈vo,M.Ms i=false) (hq:tE M (bCompR ends2 fa k asg test elt) vo σ H Q):
  tComp k (iRng2 (tL M fa vs)) g (fun σ H Q=>∃ M',P M'∧tT M' test σ H Q) (fun σ H Q=>∃ M',P M'∧tE M' elt vE σ H Q) σ H Q:=by
 obtain ⟨ρ,fps,rep,q⟩:=hq
 refine ⟨ρ,fps,rep,?_⟩
 unfold bCompR at q
 cases ef:fa ρ with
 | no=>rw [ef] at q;exact q
 | exc c=>rw [ef] at q;exact q
 | ok p=>
  obtain ⟨xs,ρ1⟩:=p
  rw [ef] at q
  intro ws H1 fps1 f1 k1 g1 rep1 o1 t1
  dsimp only at q
  cases ee:ends2 xs with
  | none=>rw [ee] at q;exact q.elim
  | some ij=>
   obtain ⟨i,j⟩:=ij
   rw [ee] at q
   unfold ends2 at ee
   split at ee
   ·rename_i i' d j' d'
    split at ee
    ·rename_i hb
     cases ee
     obtain ⟨v,r,f1,f2,rfl,_,_,h1,h2⟩:=o1
     obtain ⟨v2,r2,f3,f4,rfl,_,_,h3,h4⟩:=h2
     obtain ⟨rfl,_⟩:=h4
     rw [Own] at h1 h3
     obtain ⟨rfl,_⟩:=h1
     obtain ⟨rfl,_⟩:=h3
     exact ⟨i,j,rfl,hb,comp_range hn hP hal hvI hvE his hg hvo hvo2 k1 g1 rep1 q⟩
    ·cases ee
   ·cases ee
end
open PySem PySem.Spec PyProof.Rows L2
open PySem PySem.Spec PyProof.Rows L2
def bmV:List Value:=[.type "ValueError",.type "Exception",.type "BaseException",.type "object"]
def mroX (K:Frag) (C:Addr):List Value:=match K.lookup C with
 | some ⟨_,_,.cls cd,_⟩=>cd.mro
 | _=>[]
def isX (c d:Nat):Bool:=c == d || d == 0
def xTab (K:Frag):Bool:=(List.range 12).all fun c=>match clsOf K c with
 | some C=>PySem.W.excIn K C bmV "ValueError.__new__" && (List.range 12).all fun d=>(match clsOf K d with
  | some D=>(mroX K C).contains (.ref D) == isX c d
  | none=>true)
 | none=>true
theorem clsOf_lt {K:Frag}{c:Nat}{C:Addr} (e:clsOf K c=some C):c < 12:=by
 unfold clsOf at e
 split at e
 ·rename_i x h
  exact (List.getElem?_eq_some_iff.mp h).1
 ·cases e
structure XC (h:Heap) (K:Frag) (c:Nat) (C:Addr):Prop where
 obj:∃ bm N nm q bs hdct sn sub ab col dd k0 k1 k2 k3 k5 mN,h.get? C=some (excClassObj nm q C N bs bm hdct sn sub ab col dd k0 k1 k2 k3 k5 "ValueError.__new__")∧h.Ns N mN∧mN "__init__" = none∧OwnTail h bmV bm∧∀ d D,clsOf K d=some D→(Value.ref C::bm).contains (.ref D)=isX c d
theorem xTab_at {K:Frag}{c:Nat}{C:Addr} (t:xTab K=true) (e:clsOf K c=some C):PySem.W.excIn K C bmV "ValueError.__new__" = true∧∀ d D,clsOf K d=some D→(mroX K C).contains (.ref D)=isX c d:=by
 unfold xTab at t
 have h:=List.all_eq_true.mp t c (List.mem_range.mpr (clsOf_lt e))
 rw [e] at h
 dsimp only at h
 rw [Bool.and_eq_true] at h
 refine ⟨h.1,fun d D ed=>?_⟩
 have h2:=List.all_eq_true.mp h.2 d (List.mem_range.mpr (clsOf_lt ed))
 rw [ed] at h2
 exact eq_of_beq h2
theorem xc_of {K:Frag}{h:Heap}{c:Nat}{C:Addr} (X:K.In h) (t:xTab K=true) (e:clsOf K c=some C):XC h K c C:=by
 obtain ⟨q,ht⟩:=xTab_at t e
 refine ⟨?_⟩
 unfold PySem.W.excIn at q
 split at q
 ·rename_i dd cd sl ho
  split at q
  ·rename_i C' bm k0 k1 k2 k3 n k5 hm hs
   simp only [Bool.and_eq_true,beq_iff_eq,Bool.not_eq_true'] at q
   obtain ⟨⟨⟨⟨⟨rfl,rfl⟩,hdel⟩,htl⟩,hok⟩,hni⟩:=q
   have hmro:mroX K C'=.ref C'::bm:=by unfold mroX;rw [ho];exact hm
   rw [hmro] at ht
   obtain ⟨nm,bs,mro,ns,qn,hd,sn,sub,ab,col,del⟩:=cd
   dsimp only at hm hdel hok hni
   subst hm hdel
   have hsl:sl=#[k0,k1,k2,k3,some (.builtin "ValueError.__new__"),k5]:=by
    obtain ⟨l⟩:=sl
    simp only at hs
    rw [hs]
   subst hsl
   exact ⟨bm,ns,nm,qn,bs,hd,sn,sub,ab,col,dd,k0,k1,k2,k3,k5,_,X _ _ ho,.of_isNs (PySem.W.isNs_of_in X hok),PySem.W.nsMap_none_of_in X hok hni,PySem.W.tail_of_in X htl,ht⟩
  ·cases q
 ·cases q
def XEof (W:Nat→Hp→Prop):XK:=fun v _ H'=>match v with
 | .int c _=>W c.toNat H'
 | _=>False
def CXr (P:Program) (w:World) (K:Frag):CXT:=fun outer H s E e s'=>∃ (a C:Addr) (c:Nat) (H':Hp) (B:Heap) (a0:Value),e=.ref a∧clsOf K c=some C∧s'.os=s.os∧AllBare s'.gens∧Un (frs outer) [] H H' s.heap s'.heap∧HOk P w H' s'.heap∧H' a=none∧s.heap.get? a=none ∧
 Heap.FlyingW B outer a (.ref C) a0 s'.heap∧(∀ b o,s'.heap.get? b=some o→H' b≠none→B.get? b=some o)∧(∀ b o,s.heap.get? b=some o→H b=none→b∉frs outer→B.get? b=some o)∧(∀ b,H b≠none→H' b≠none)∧E (.int (c:Int) 0) none H'
theorem objThere {P:Program}{w:World}{H:Hp}{h:Heap}{a:Addr}{o:HO} (x:ObjOk P w H h a o):∃ u,h.get? a=some u:=by
 cases o with
 | lst xs=>obtain ⟨_,_,_,_,e⟩:=x;exact ⟨_,e⟩
 | tup xs=>obtain ⟨_,_,_,o,e,_⟩:=x;exact ⟨_,e⟩
 | dK kvs=>obtain ⟨_,_,_,_,o,_,_,e,_⟩:=x;exact ⟨_,e⟩
 | dT kvs=>obtain ⟨_,_,_,_,o,_,_,e,_⟩:=x;exact ⟨_,e⟩
 | set S n=>obtain ⟨o,_,_,_,e,_⟩:=x;exact ⟨_,e⟩
 | ins C dx fs=>obtain ⟨_,_,_,e,_⟩:=x;exact ⟨_,e⟩
 | own y=>exact x
 | xd fs=>obtain ⟨_,⟨_,_,_,e,_⟩,_⟩:=x;exact ⟨_,e⟩
 | rng lo hi=>obtain ⟨_,_,_,e⟩:=x;exact ⟨_,e⟩
 | frz ob u=>obtain ⟨e,_⟩:=x;exact ⟨_,e⟩
 | tbl ps=>exact ⟨_,(show h.get? a=some _ from x)⟩
 | met f y=>exact ⟨_,(show h.get? a=some _ from x)⟩
 | ext φ=>exact x.2.1
section
variable {X:Cx}{pins:List (Addr×Obj)}{σ:St}{H H1:Hp}{s s2:Shared}{h1 B:Heap}{a C:Addr}{a0:Value}{c:Nat}{E:XK}{P:Program}{w:World}{K:Frag}
theorem exc_exit (I:L2.Inv X pins σ H s) (hex:X.ex=[]) (u:Un (frs X.stack) [] H H1 s.heap h1) (hok:HOk X.prog X.w H1 h1) (fl:Heap.FlyingW B X.outer a (.ref C) a0 s2.heap) (up:h1.UpToSlots s2.heap)
  (i1:∀ b o,h1.get? b=some o→H1 b≠none→B.get? b=some o) (i2:∀ b o,s.heap.get? b=some o→H b=none→b∉frs X.stack→B.get? b=some o) (ha:H1 a=none) (hn:s.heap.get? a=none)
  (hE:E (.int (c:Int) 0) none H1) (hd:∀ b,X.H₀ b≠none→H1 b≠none) (hc:clsOf X.K c=some C) (ho:s2.os=s.os) (hg:AllBare s2.gens):CXr X.prog X.w X.K X.outer X.H₀ X.s₀ E (.ref a) s2:=by
 have nx:∀ b:Addr,b∉X.ex:=fun b z=>by rw [hex] at z;cases z
 have key:∀ b o,X.s₀.heap.get? b=some o→X.H₀ b=none→b∉frs X.outer→B.get? b=some o:=fun b o e n hb=>by
  refine i2 b o (I.base.keep b o e n hb (nx b)) (I.base.free b o e n (nx b)) fun z=>?_
  rcases List.mem_cons.mp (I.stkSub b z) with z | z
  ·exact absurd (Nat.lt_of_lt_of_le (Heap.lt_size e) I.ok.above) (by rw [z];exact Nat.lt_irrefl _)
  ·exact hb z
 have fr:∀ b o,X.s₀.heap.get? b=some o→X.H₀ b=none→b∈frs X.outer→∃ sl,s2.heap.get? b=some { o with slots:=sl }:=fun b o e n hb=>by
  obtain ⟨sl,e1⟩:=I.base.slot b o e n hb (nx b)
  obtain ⟨sl',e2⟩:=u.any e1 (I.base.free b o e n (nx b)) (by simp)
  obtain ⟨_,o',ho',hnf⟩:=I.ok.funs.mem hb
  rw [e] at ho';cases ho'
  obtain ⟨sl2,e3⟩:=up b _ e2 hnf
  exact ⟨sl2,e3⟩
 have trk:∀ b v,H1 b≠none→h1.get? b=some v→s2.heap.get? b=some v:=fun b v hb e=>fl.1 b v (i1 b v e hb)
 have un:Un (frs X.outer) [] X.H₀ H1 X.s₀.heap s2.heap:=by
  refine ⟨fun b o e n hb _=>fl.1 b o (key b o e n hb),fun b o e n hb _=>fr b o e n hb,fun b o e n _=>?_,fun b o e _=>?_,fun b xs e=>u.tups b xs (I.base.tups b xs e),fun b o xs e=>u.frzs b o xs (I.base.frzs b o xs e),fun b ps e=>?_⟩
  ·obtain ⟨o',e'⟩:=I.base.there b o e (nx b)
   exact u.free b o' e' (I.base.free b o e n (nx b)) (by simp)
  ·by_cases h0:X.H₀ b=none
   ·by_cases hb:b∈frs X.outer
    ·obtain ⟨sl,e2⟩:=fr b o e h0 hb
     exact ⟨_,e2⟩
    ·exact ⟨o,fl.1 b o (key b o e h0 hb)⟩
   ·obtain ⟨o',e'⟩:=I.base.there b o e (nx b)
    obtain ⟨o2,e2⟩:=u.there b o' e' (by simp)
    exact ⟨o2,trk b o2 (hd b h0) e2⟩
  ·obtain ⟨m1,e1⟩:=I.base.tbls b ps e
   obtain ⟨m2,e2⟩:=u.tbls b _ e1
   exact ⟨m1++m2,by rw [e2,Array.append_assoc]⟩
 refine ⟨a,C,c,H1,B,a0,rfl,hc,ho.trans I.os,hg,un,fun b o e=>?_,ha,?_,fl,fun b o e hb=>?_,key,hd,hE⟩
 ·refine (hok b o e).stay (fun d v hd q=>trk d v ?_ q) (fun _ q=>q) fun _ _ q=>q
  rcases hd with rfl | hd
  ·rw [e];simp
  ·rw [hd];simp
 ·cases q:X.s₀.heap.get? a with
  | none=>rfl
  | some o=>
   obtain ⟨o',e'⟩:=I.base.there a o q (nx a)
   rw [hn] at e';cases e'
 ·cases q:H1 b with
  | none=>exact absurd q hb
  | some o1=>
   obtain ⟨v,hv⟩:=objThere (hok b o1 q)
   have e2:=trk b v hb hv
   rw [e] at e2
   cases e2
   exact i1 b o hv hb
end
def PassesX (CX:CXT) (X:Cx) (W:St→Nat→Hp→Prop):Prop:=∀ (pins:List (Addr×Obj)) (σ:St) (H:Hp) (s:Shared) (e:Value) (s':Shared),L2.Inv X pins σ H s→CX X.stack H s (XEof (W σ)) e s'→X.xe e s'
def RaiseOk (X:Cx) (W:St→Nat→Hp→Prop):Prop:=∀ (pins:List (Addr×Obj)) (σ:St) (H:Hp) (s:Shared) (c:Nat) (C a:Addr) (h':Heap) (args:List Value),L2.Inv X pins σ H s→clsOf X.K c=some C→Heap.MadeExcOf s.heap h' a (.ref C) args→W σ c H→X.xe (.ref a) { s with heap:=h' }
abbrev W0:St→Nat→Hp→Prop:=fun _ _ _=>False
theorem passW0 {P:Program}{w:World}{K:Frag}{X:Cx}:PassesX (CXr P w K) X W0:=fun _ _ _ _ _ _ _ h=>by
 obtain ⟨a,C,c,H',B,a0,_,_,_,_,_,_,_,_,_,_,_,_,hE⟩:=h
 exact False.elim hE
def WE (E:XK) (H:Hp):St→Nat→Hp→Prop:=fun _ c H'=>E (.int (c:Int) 0) none H'∧∀ b,H b≠none→H' b≠none
section
variable {P:Program}{w:World}{K:Frag}{mg:Str→Option Value}{base:Heap}{N:List Str}{qual:Str}{scope:Scope}{f:Addr}{cd:Value}{A:Around}{outer:List Env}{s:Shared}{H:Hp}{E:XK}
theorem pass_def:PassesX (CXr P w K) (cxOf (CXr P w K) P w K mg base N qual scope f cd A outer s H E) (WE E H):=by
 intro pins σ H1 s1 e s' I h
 obtain ⟨a,C,c,H',B,a0,rfl,hc,ho,hg,un,hok,ha,hn,fl,i1,i2,hd,hE⟩:=h
 have hE':WE E H σ c H':=hE
 refine wpAny_leaves_onW (by exact I.ok.frames) rfl fl fun h2 f2 up=>?_
 exact exc_exit (s2:={ s' with heap:=h2 }) I rfl un hok f2 up i1 i2 ha hn hE'.1 hE'.2 hc ho hg
theorem raise_def:RaiseOk (cxOf (CXr P w K) P w K mg base N qual scope f cd A outer s H E) (WE E H):=by
 intro pins σ H1 s1 c C a h' args I hc hx hW
 have hin:∀ env∈(cxOf (CXr P w K) P w K mg base N qual scope f cd A outer s H E).stack,∀ b,env.frame=some b→b∈frs (cxOf (CXr P w K) P w K mg base N qual scope f cd A outer s H E).stack:=fun env he b hb=>List.mem_filterMap.mpr ⟨env,he,hb⟩
 have trk:∀ b,H1 b≠none→∃ o,s1.heap.get? b=some o:=fun b hb=>by
  cases q:H1 b with
  | none=>exact absurd q hb
  | some u=>exact objThere (I.hok b u q)
 have nfr:∀ b,H1 b≠none→b∉frs (cxOf (CXr P w K) P w K mg base N qual scope f cd A outer s H E).stack:=fun b hb z=>hb (I.stkFree b z)
 refine wpAny_leaves_madeW (base:=PySem.W.hideAll s1.heap (frs (cxOf (CXr P w K) P w K mg base N qual scope f cd A outer s H E).stack)) (h:=s1.heap) (by exact I.ok.frames) rfl (fun b o q=>PySem.W.of_hideAll _ q) (PySem.W.funFrames_hide I.stack hin) hx fun h2 t f2 _ _ up=>?_
 refine exc_exit (s2:={ s1 with heap:=h2 }) I rfl (Un.kept hx.keeps) (I.hok.kept hx.keeps) f2 up (fun b o e hb=>?_) (fun b o e _ hb=>PySem.W.hideAll_get _ e hb) ?_ hx.new hW.1 hW.2 hc rfl I.bare
 ·obtain ⟨o1,e1⟩:=trk b hb
  have e2:=hx.keeps b o1 e1
  rw [e] at e2
  cases e2
  exact PySem.W.hideAll_get _ e1 (nfr b hb)
 ·cases q:H1 a with
  | none=>rfl
  | some u=>
   obtain ⟨o,e⟩:=objThere (I.hok a u q)
   rw [hx.new] at e;cases e
theorem own_def:PassesOwn (model P w) (cxOf (CXr P w K) P w K mg base N qual scope f cd A outer s H E).A (cxOf (CXr P w K) P w K mg base N qual scope f cd A outer s H E).env (cxOf (CXr P w K) P w K mg base N qual scope f cd A outer s H E).xe:=PassesOwn.leaving
end
section
variable {X:Cx}{CX:CXT}{k:Nat}{f:Addr}{fd:FuncData}{ps:List Str}{sp:Sp}{x:Str}{p pos:Pos}{e:Expr}{es:List Expr}{t:TA}{W:St→Nat→Hp→Prop}
def tCallX (sp:Sp) (W:St→Nat→Hp→Prop) (t:TA):TE:=fun σ H Q=>t σ H fun vs H1=>sp vs H1 Q (XEof (W σ))
theorem pe_callX (F:FnOk X.prog X.w X.K X.mg X.base CX k f fd ps sp) (hr:Room k X.A) (hg:Gl X x) (hm:X.mg x=some (.ref f)) (hk:PySem.W.keepIn X.K (.ref f)=true) (hb:Binds X.K fd ps []) (hx:PassesX CX X W) (ha:PA X (e::es) t) (hdb:(x == ("__debug__" : Str))=false)
  (he:starEach (e::es) X.env=(false,eval e X.env)::starEach es X.env) (hpl:(backTo pos (starEach es X.env)).any (·.1)=false):PE X (.Call (.Name x p) (e::es) [] pos) (tCallX sp W t):=by
 intro pins s σ H Q I h
 refine wpAny_Call_Name_kw (ld_glob I hg hm ?_ hdb)
 refine PySem.W.callWith_K (h₀:=X.base) I.ok.mod.kin hk (thn (ha pos pins s σ H _ I h) fun us s1 ⟨vs,H1,I1,r,q⟩=>⟨I1.kIn,?_⟩) he hpl
 have q':sp vs H1 Q (XEof (W σ)):=q
 have hl:(us++[]).length=ps.length:=by rw [List.append_nil,← r.length];exact F.len _ _ _ _ q'
 have hbd:=hb s1 us I1.kIn hl
 rw [List.append_nil] at hbd
 refine wpAny_call (codeAny_mono (F.run X.A X.stack s1 H1 ⟨us,[]⟩ us vs Q (XEof (W σ)) hr I1.env0 hbd r q') fun r s' hq=>?_)
 cases r with
 | error e=>exact hx pins σ H1 s1 e s' I1 hq
 | ok fl=>
  cases fl with
  | ret u=>exact I1.after hq
  | next=>exact False.elim hq
  | brk=>exact False.elim hq
  | cont=>exact False.elim hq
theorem passR {P:Program}{w:World}{K:Frag}:Passes (CXr P w K) X E0:=fun _ _ _ _ _ _ _ h=>by
 obtain ⟨a,C,c,H',B,a0,_,_,_,_,_,_,_,_,_,_,_,_,hE⟩:=h
 exact False.elim hE
end
open PySem PySem.Spec PyProof.Rows L2
def closL (cells:List (Str×Addr)):List (Str×NameKind)→List (Str×Addr)→List (Str×Addr)
 | [],cs=>cs
 | (n,k)::r,cs=>if k == .free then closL cells r ((n,(cells.lookup n).getD 0)::cs) else closL cells r cs
theorem closureFor_eq {scope:Scope}{env:Env} (h:∀ x∈scope.names,x.2=.free→∃ c,env.cells.lookup x.1=some c):closureFor scope env=pure (closL env.cells scope.names []):=by
 unfold closureFor
 have all:∀ (l:List (Str×NameKind)) (cs:List (Str×Addr)),(∀ x∈l,x.2=.free→∃ c,env.cells.lookup x.1=some c) →
   (forIn l cs fun (x:Str×NameKind) (cs:List (Str×Addr))=>if (x.2 == NameKind.free)=true then (do let a←cellOf env x.1;pure (ForInStep.yield ((x.1,a)::cs))) else pure (ForInStep.yield cs):Sem (List (Str×Addr)))=pure (closL env.cells l cs):=by
  intro l
  induction l with
  | nil=>intro cs _;rfl
  | cons x r ih=>
   intro cs hl
   obtain ⟨n,k⟩:=x
   rw [List.forIn_cons]
   have ih':=fun cs=>ih cs fun y hy=>hl y (List.mem_cons_of_mem _ hy)
   by_cases hk:(k == NameKind.free)=true
   ·obtain ⟨c,hc⟩:=hl (n,k) List.mem_cons_self (by simpa using hk)
    have e1:cellOf env n=pure c:=by unfold cellOf;rw [hc]
    rw [if_pos hk,e1]
    simp only [pure_bind]
    rw [ih',closL,if_pos hk,hc]
    rfl
   ·rw [if_neg hk]
    simp only [pure_bind]
    rw [ih',closL,if_neg hk]
 have:=all scope.names [] h
 simp only [bind_pure] at this ⊢
 exact this
theorem closL_lookup (cells:List (Str×Addr)) (x:Str) (c:Addr):∀ (l:List (Str×NameKind)) (cs:List (Str×Addr)),(∀ y∈l,y.2=.free→∃ c,cells.lookup y.1=some c)→(cs.lookup x=some c→cells.lookup x=some c)→(closL cells l cs).lookup x=some c→cells.lookup x=some c
 | [],cs,_,h,e=>h e
 | (n,k)::r,cs,hl,h,e=>by
  unfold closL at e
  split at e
  ·rename_i hk
   refine closL_lookup cells x c r _ (fun y hy=>hl y (List.mem_cons_of_mem _ hy)) (fun e'=>?_) e
   rw [List.lookup_cons] at e'
   split at e'
   ·rename_i hx
    obtain ⟨c',hc⟩:=hl (n,k) List.mem_cons_self (by simpa using hk)
    rw [hc] at e'
    cases e'
    rw [eq_of_beq hx];exact hc
   ·exact h e'
  ·exact closL_lookup cells x c r cs (fun y hy=>hl y (List.mem_cons_of_mem _ hy)) h e
theorem closL_mono (cells:List (Str×Addr)) (x:Str):∀ (l:List (Str×NameKind)) (cs:List (Str×Addr)),(∃ c,cs.lookup x=some c)→∃ c,(closL cells l cs).lookup x=some c
 | [],cs,h=>h
 | (n,k)::r,cs,h=>by
  unfold closL
  split
  ·refine closL_mono cells x r _ ?_
   rw [List.lookup_cons]
   split
   ·exact ⟨_,rfl⟩
   ·exact h
  ·exact closL_mono cells x r cs h
theorem closL_has (cells:List (Str×Addr)) (x:Str):∀ (l:List (Str×NameKind)) (cs:List (Str×Addr)),(x,NameKind.free)∈l→∃ c,(closL cells l cs).lookup x=some c
 | [],_,h=>nomatch h
 | (n,k)::r,cs,h=>by
  unfold closL
  rcases List.mem_cons.mp h with e | e
  ·cases e
   rw [if_pos (show (NameKind.free == NameKind.free)=true by decide)]
   exact closL_mono cells x r _ ⟨_,by rw [List.lookup_cons,beq_self_eq_true]⟩
  ·split
   ·exact closL_has cells x r _ e
   ·exact closL_has cells x r cs e
theorem cf_lookup:∀ (names:List (Str×NameKind)) (n:Nat) (acc:List (Str×Addr)) (x:Str) (c:Addr),(cellsFrom n names acc).lookup x=some c→acc.lookup x=some c∨(n≤c∧(x,NameKind.cell)∈names)
 | [],n,acc,x,c,h=>.inl h
 | (m,k)::r,n,acc,x,c,h=>by
  unfold cellsFrom at h
  split at h
  ·rename_i hk
   have hk':k=.cell:=by simpa using hk
   rcases cf_lookup r _ _ x c h with z | ⟨z,y⟩
   ·rw [List.lookup_cons] at z
    split at z
    ·rename_i hx
     cases z
     exact .inr ⟨Nat.le_refl _,by rw [eq_of_beq hx,hk'];exact List.mem_cons_self⟩
    ·exact .inl z
   ·exact .inr ⟨Nat.le_of_succ_le z,List.mem_cons_of_mem _ y⟩
  ·rcases cf_lookup r _ _ x c h with z | ⟨z,y⟩
   ·exact .inl z
   ·exact .inr ⟨z,List.mem_cons_of_mem _ y⟩
theorem cf_keep:∀ (names:List (Str×NameKind)) (n:Nat) (acc:List (Str×Addr)) (x:Str),(x,NameKind.cell)∉names→(cellsFrom n names acc).lookup x=acc.lookup x
 | [],n,acc,x,h=>rfl
 | (m,k)::r,n,acc,x,h=>by
  unfold cellsFrom
  split
  ·rename_i hk
   have hk':k=.cell:=by simpa using hk
   rw [cf_keep r _ _ x fun z=>h (List.mem_cons_of_mem _ z),List.lookup_cons]
   split
   ·rename_i hx
    exact absurd (by rw [eq_of_beq hx,hk'];exact List.mem_cons_self) h
   ·rfl
  ·exact cf_keep r _ _ x fun z=>h (List.mem_cons_of_mem _ z)
theorem cf_new:∀ (names:List (Str×NameKind)) (n:Nat) (acc:List (Str×Addr)) (x:Str),(x,NameKind.cell)∈names→∃ c,(cellsFrom n names acc).lookup x=some c∧n≤c
 | [],n,acc,x,h=>nomatch h
 | (m,k)::r,n,acc,x,h=>by
  by_cases hr:(x,NameKind.cell)∈r
  ·unfold cellsFrom
   split
   ·obtain ⟨c,e,l⟩:=cf_new r (n + 1) ((m,n)::acc) x hr
    exact ⟨c,e,Nat.le_of_succ_le l⟩
   ·exact cf_new r n acc x hr
  ·rcases List.mem_cons.mp h with e | e
   ·cases e
    unfold cellsFrom
    rw [if_pos (by decide),cf_keep r _ _ _ hr,List.lookup_cons,beq_self_eq_true]
    exact ⟨n,rfl,Nat.le_refl _⟩
   ·exact absurd e hr
theorem cf_inj:∀ (names:List (Str×NameKind)) (n:Nat) (acc:List (Str×Addr)),(∀ x y c,acc.lookup x=some c→acc.lookup y=some c→x=y)→(∀ x c,acc.lookup x=some c→c < n)→∀ x y c,(cellsFrom n names acc).lookup x=some c→(cellsFrom n names acc).lookup y=some c→x=y
 | [],n,acc,hi,_,x,y,c,h1,h2=>hi x y c h1 h2
 | (m,k)::r,n,acc,hi,hl,x,y,c,h1,h2=>by
  unfold cellsFrom at h1 h2
  split at h1
  ·rename_i hk
   rw [if_pos hk] at h2
   refine cf_inj r (n + 1) ((m,n)::acc) (fun x y c h1 h2=>?_) (fun x c h=>?_) x y c h1 h2
   ·rw [List.lookup_cons] at h1 h2
    split at h1
    ·rename_i e1
     cases h1
     split at h2
     ·rename_i e2
      rw [eq_of_beq e1,eq_of_beq e2]
     ·exact absurd (hl y _ h2) (Nat.lt_irrefl _)
    ·split at h2
     ·cases h2
      exact absurd (hl x _ h1) (Nat.lt_irrefl _)
     ·exact hi x y c h1 h2
   ·rw [List.lookup_cons] at h
    split at h
    ·cases h;exact Nat.lt_succ_self _
    ·exact Nat.lt_succ_of_lt (hl x c h)
  ·rename_i hk
   rw [if_neg hk] at h2
   exact cf_inj r n acc hi hl x y c h1 h2
theorem pc_cell:∀ (names:List (Str×NameKind)) (h:Heap) (acc:List (Str×Addr)) (x:Str) (c:Addr),(cellsFrom h.objs.size names acc).lookup x=some c→acc.lookup x=some c∨(pushCells h names).IsCell c none
 | [],h,acc,x,c,e=>.inl e
 | (m,k)::r,h,acc,x,c,e=>by
  unfold cellsFrom at e
  unfold pushCells
  split at e
  ·rename_i hk
   rw [if_pos hk]
   have hs:(h.push { cls:=.type "cell",data:=.cell none }).objs.size=h.objs.size + 1:=Heap.size_push ..
   have e':(cellsFrom (h.push { cls:=.type "cell",data:=.cell none }).objs.size r ((m,h.objs.size)::acc)).lookup x=some c:=by rw [hs];exact e
   rcases pc_cell r _ _ x c e' with z | z
   ·rw [List.lookup_cons] at z
    split at z
    ·cases z
     exact .inr ⟨_,pushCells_keeps _ _ _ _ (Heap.get?_push_size _ rfl),rfl⟩
    ·exact .inl z
   ·exact .inr z
  ·rename_i hk
   rw [if_neg hk]
   exact pc_cell r h acc x c e
theorem newEnv_cells {M:Model}{A:Around}{E:Value→Shared→Prop}{s:Shared}{scope:Scope}{globals:Addr}{cl:List (Str×Addr)}{qual:Str}{func:Option Addr}{code:Value}{around:Env}{builtins:Addr}{Q:Env→Shared→Prop}
  (hQ:Q (newEnv scope s.heap.objs.size globals (cellsFrom (s.heap.objs.size + 1) scope.names cl) qual func code (some around) builtins) { s with heap:=pushCells (s.heap.push { cls:=.type "dict",data:=.dict #[] }) scope.names }):
  wpAny M A (newFunctionEnv scope globals cl [] qual func code (some around) builtins) Q E s:=by
 simp only [newFunctionEnv,Option.isSome_some,if_true]
 refine wpAny_bind (wpAny_alloc ?_)
 refine wpAny_bind (wpAny_layCells _ (fun name kind cells=>by cases hkc:kind == NameKind.cell <;> simp [hkc]) _ _ _ _ ?_)
 rw [show ({ s with heap:=s.heap.push { cls:=.type "dict",data:=.dict #[] } }:Shared).heap.objs.size=s.heap.objs.size + 1 from Heap.size_push ..]
 exact wpAny_bind (wpAny_pure (wpAny_pure hQ))
def cellsC (X:Cx) (scope:Scope) (C:Addr):List (Str×Addr):=cellsFrom (C + 1) scope.names (closL X.env.cells scope.names [])
def cxComp (X:Cx) (s2:Shared) (H2:Hp) (scope:Scope) (C:Addr) (N':List Str) (fp:List Addr) (pins:List (Addr×Obj)):Cx:=
 { X with N:=N',s₀:=s2,H₀:=H2,env:=compEnvC scope (cellsC X scope C) C X.env,outer:=X.stack,stack:=X.stack,ex:=fp,fn:=fun x=>scope.names.contains (x,NameKind.cell),pn:=X.pn++pins,xe:=fun _ _=>False }
structure CompOk (X:Cx) (scope:Scope) (N':List Str) (k:Nat):Prop where
 kind:scope.kind=.function
 dis:∀ x,(x,NameKind.free)∈scope.names→(x,NameKind.cell)∉scope.names
 names:∀ x∈scope.names,x.2=.local→scope.names.lookup x.1=some .local
 len:N'.length=X.N.length + k
 free:∀ x∈scope.names,x.2=.free→X.env.kindOf x.1=some .cell∨X.env.kindOf x.1=some .free
 kinds:∀ x,(relabel scope X.env).names.lookup x=some .cell∨(relabel scope X.env).names.lookup x=some .free→(x,NameKind.free)∈scope.names∨(x,NameKind.cell)∈scope.names
 capt:∀ (i:Nat) (x:Str),i < X.N.length→N'[i]?=some x→Vis (relabel scope X.env) x→X.N[i]?=some x∧Vis X.env.scope x∧(x,NameKind.free)∈scope.names∧(relabel scope X.env).names.lookup x≠some .local
section
variable {X:Cx}{scope:Scope}{N':List Str}{k:Nat}{pins:List (Addr×Obj)}{σ:St}{H2:Hp}{s2:Shared}{fp:List Addr}{C:Addr}
theorem CompOk.cells (c:CompOk X scope N' k) (I:Inv X pins σ H2 s2):∀ x∈scope.names,x.2=.free→∃ a,X.env.cells.lookup x.1=some a:=fun x hx hf=>I.ok.has x.1 (c.free x hx hf)
theorem CompOk.cl (c:CompOk X scope N' k) (I:Inv X pins σ H2 s2) {x:Str}{a:Addr} (h:(cellsC X scope C).lookup x=some a):X.env.cells.lookup x=some a∨(C + 1≤a∧(x,NameKind.cell)∈scope.names):=
 (cf_lookup _ _ _ x a h).imp (fun z=>closL_lookup _ x a _ [] (c.cells I) (fun z=>nomatch z) z) id
theorem CompOk.old (c:CompOk X scope N' k) (I:Inv X pins σ H2 s2) {x:Str}{a:Addr} (h:X.env.cells.lookup x=some a):a < s2.heap.objs.size:=by
 obtain ⟨v,o,ho,_⟩:=I.cell x a h
 exact Heap.lt_size ho
theorem CompOk.cap (c:CompOk X scope N' k) {x:Str} (h:(x,NameKind.free)∈scope.names):∃ a,(cellsC X scope C).lookup x=some a∧(closL X.env.cells scope.names []).lookup x=some a:=by
 obtain ⟨a,ha⟩:=closL_has X.env.cells x scope.names [] h
 exact ⟨a,(cf_keep _ _ _ x (c.dis x h)).trans ha,ha⟩
theorem CompOk.ok (c:CompOk X scope N' k) (I:Inv X pins σ H2 s2) (hf:∀ b∈fp,FpOk X pins H2 b) (hC:s2.heap.objs.size≤C) (hfp:∀ b∈fp,b < s2.heap.objs.size):(cxComp X s2 H2 scope C N' fp pins).Ok where
 mod:=I.ok.mod
 kind:=c.kind
 glob:=I.ok.glob
 blt:=I.ok.blt
 above:=hC
 inj:=fun x y a h1 h2=>cf_inj scope.names (C + 1) _ (fun x y a h1 h2=>I.ok.inj x y a (closL_lookup _ x a _ [] (c.cells I) (fun z=>nomatch z) h1) (closL_lookup _ y a _ [] (c.cells I) (fun z=>nomatch z) h2))
  (fun x a h=>Nat.lt_succ_of_lt (Nat.lt_of_lt_of_le (c.old I (closL_lookup _ x a _ [] (c.cells I) (fun z=>nomatch z) h)) hC)) x y a h1 h2
 has:=fun x hx=>(c.kinds x hx).elim (fun z=>let ⟨a,h,_⟩:=c.cap (C:=C) z;⟨a,h⟩) fun z=>let ⟨a,h,_⟩:=cf_new scope.names (C + 1) (closL X.env.cells scope.names []) x z;⟨a,h⟩
 cab:=fun x a h e=>by
  have hx:(x,NameKind.cell)∈scope.names:=by
   have h':scope.names.contains (x,NameKind.cell)=true:=h
   simpa using h'
  obtain ⟨a',e',l⟩:=cf_new scope.names (C + 1) (closL X.env.cells scope.names []) x hx
  have e2:(cellsFrom (C + 1) scope.names (closL X.env.cells scope.names [])).lookup x=some a:=e
  rw [e'] at e2
  cases e2
  exact Nat.le_trans hC (Nat.le_of_succ_le l)
 hd:=I.ok.hd
 frames:=I.ok.frames
 stk:=.inl rfl
 exf:=fun b hb=>⟨Nat.ne_of_lt (Nat.lt_of_lt_of_le (hfp b hb) hC),fun x a h=>(c.cl I h).elim (fun z=>(hf b hb).2.2.2.2.1 x a z) fun z=>Nat.ne_of_gt (Nat.lt_of_lt_of_le (hfp b hb) (Nat.le_trans hC (Nat.le_of_succ_le z.1)))⟩
 bs:=I.bs
 bsz:=Nat.le_trans I.ok.bsz I.sz
 noex:=fun b o e hb=>by
  rcases (hf b hb).2.2.2.1 with z | z
  ·exact I.ok.noex b o e z
  ·exact absurd (Nat.lt_of_lt_of_le (Heap.lt_size e) (Nat.le_trans I.ok.bsz z)) (Nat.lt_irrefl _)
 exfs:=fun b hb hz=>by
  rcases List.mem_cons.mp (I.stkSub b hz) with z | z
  ·exact (hf b hb).2.1 z
  ·exact (hf b hb).2.2.1 z
 funs:=I.stack
 frf:=I.stkFree
theorem CompOk.inv (c:CompOk X scope N' k) (I:Inv X pins σ H2 s2) (hf:∀ b∈fp,FpOk X pins H2 b) (hfp:∀ b∈fp,b < s2.heap.objs.size) {H3:Hp}{h':Heap}{t':Nat}{m:Str→Option Value}{D:Addr} (hCD:D≠C) (hD:s2.heap.objs.size≤D) (hC:s2.heap.objs.size≤C)
  (keep:∀ b o,s2.heap.get? b=some o→h'.get? b=some o) (ns:h'.Ns C m) (hH:∀ b,b≠D→H3 b=H2 b) (hok:HOk X.prog X.w H3 h') (hC3:H3 C=none) (hDC:D < C) (hcN:∀ x a,(cellsC X scope C).lookup x=some a→C + 1≤a→h'.IsCell a none):
  Inv (cxComp X s2 H2 scope C N' fp pins) [] (σ++List.replicate k none) H3 { s2 with heap:=h',toks:=t' } where
 ok:=c.ok I hf hC hfp
 os:=rfl
 bare:=I.bare
 base:=by
  have nD:∀ b o,s2.heap.get? b=some o→b≠D:=fun b o e=>Nat.ne_of_lt (Nat.lt_of_lt_of_le (Heap.lt_size e) hD)
  refine ⟨fun b o e _ _ _=>keep b o e,fun b o e _ _ _=>⟨o.slots,keep b o e⟩,fun b o e n _=>by rw [hH b (nD b o e)];exact n,fun b o e _=>⟨o,keep b o e⟩,fun b xs e=>?_,fun b o u e=>?_,fun b ps e=>⟨#[],?_⟩⟩
  ·have e:H2 b=some (.tup xs):=e
   rw [hH b (fun z=>by rw [z,I.hok.fresh hD] at e;cases e)];exact e
  ·have e:H2 b=some (.frz o u):=e
   rw [hH b (fun z=>by rw [z,I.hok.fresh hD] at e;cases e)];exact e
  ·have e:H2 b=some (.tbl ps):=e
   rw [hH b (fun z=>by rw [z,I.hok.fresh hD] at e;cases e)];simpa using e
 loc:=by
  refine ⟨m,ns,fun i x v e1 e2 e3=>?_⟩
  have hi:i < σ.length:=by
   by_cases hi:i < σ.length
   ·exact hi
   ·rw [List.getElem?_append_right (by omega),List.getElem?_replicate] at e2
    split at e2 <;> cases e2
  rw [List.getElem?_append_left hi] at e2
  obtain ⟨n1,n2,n3,n4⟩:=c.capt i x (by rw [← I.len];exact hi) e1 e3
  obtain ⟨m0,ns0,hl⟩:=I.loc
  obtain ⟨u,r,lk⟩:=hl i x v n1 e2 n2
  refine ⟨u,r,.inr ⟨?_,?_⟩⟩
  ·rcases e3 with z | z | z
   ·exact absurd z n4
   ·exact .inl z
   ·exact .inr z
  ·obtain ⟨a,ha,hb⟩:=c.cap (C:=C) n3
   have ha':=closL_lookup _ x a _ [] (c.cells I) (fun z=>nomatch z) hb
   refine ⟨a,ha,?_⟩
   rcases lk with ⟨hk,_⟩ | ⟨hk,a2,ha2,hc⟩
   ·rcases c.free _ n3 rfl with z | z <;> rw [hk] at z <;> cases z
   ·rw [ha'] at ha2;cases ha2
    obtain ⟨o,ho,hd⟩:=hc
    exact ⟨o,keep _ _ ho,hd⟩
 cell:=fun x a h=>by
  rcases c.cl I h with z | z
  ·obtain ⟨v,o,ho,hd⟩:=I.cell x a z
   exact ⟨v,o,keep _ _ ho,hd⟩
  ·exact ⟨none,hcN x a h z.1⟩
 free:=hC3
 freeC:=fun x a h=>by
  rcases c.cl I h with ha | z
  ·obtain ⟨v,o,ho,hd⟩:=I.cell x a ha
   rw [hH a (Nat.ne_of_lt (Nat.lt_of_lt_of_le (Heap.lt_size ho) hD))]
   exact I.freeC x a ha
  ·rw [hH a (Nat.ne_of_gt (Nat.lt_of_lt_of_le hDC (Nat.le_of_succ_le z.1)))]
   exact I.hok.fresh (Nat.le_trans hC (Nat.le_of_succ_le z.1))
 pin:=fun p hp=>by
  have hp':p∈X.pn++pins:=by simpa [cxComp] using hp
  obtain ⟨e,n,ne,nf,d⟩:=I.pin p hp'
  have hlt:=Heap.lt_size e
  exact ⟨keep _ _ e,by rw [hH p.1 (Nat.ne_of_lt (Nat.lt_of_lt_of_le hlt hD))];exact n,Nat.ne_of_lt (Nat.lt_of_lt_of_le hlt hC),fun z=>(List.mem_cons.mp (I.stkSub p.1 z)).elim ne nf,d⟩
 hok:=hok
 len:=by
  show (σ++List.replicate k none).length=N'.length
  rw [List.length_append,List.length_replicate,c.len,I.len]
def PTs (X:Cx) (ifs:List Expr) (t:TT):Prop:=
 ∀ (pins:List (Addr×Obj)) (s:Shared) (σ:St) (H:Hp) (Q:Bool→Hp→Prop),Inv X pins σ H s→t σ H Q →
  wpAny (model X.prog X.w) X.A (forIn ifs true fun c r=>if r=true then do let ok←isTrue c X.env (eval c X.env);pure (ForInStep.yield ok) else pure (ForInStep.yield r)) (TP X pins σ Q) X.xe s
theorem pts_nil {X:Cx}:PTs X [] (fun _ H Q=>Q true H):=fun _ _ _ H _ I h=>wpAny_pure ⟨H,I,h⟩
theorem pts_one {X:Cx}{c:Expr}{t:TT} (hc:PT X c t):PTs X [c] t:=by
 intro pins s σ H Q I h
 rw [List.forIn_cons]
 refine wpAny_bind ?_
 rw [if_pos rfl]
 refine wpAny_bind (thn (hc pins s σ H Q I h) fun b s1 q=>wpAny_pure ?_)
 exact wpAny_pure q
theorem CompOk.again (c:CompOk X scope N' k) (I:Inv X pins σ H2 s2) {σ':St}{H':Hp}{s':Shared}{ps:List (Addr×Obj)} (hfp:∀ b∈fp,FpOk X pins H2 b) (J:Inv (cxComp X s2 H2 scope C N' fp pins) ps σ' H' s'):Inv (cxComp X s2 H2 scope C N' fp pins) ps (σ++List.replicate k none) H' s' where
 ok:=J.ok
 os:=J.os
 bare:=J.bare
 base:=J.base
 loc:=by
  obtain ⟨m,ns,_⟩:=J.loc
  refine ⟨m,ns,fun i x v e1 e2 e3=>?_⟩
  have hi:i < σ.length:=by
   by_cases hi:i < σ.length
   ·exact hi
   ·rw [List.getElem?_append_right (by omega),List.getElem?_replicate] at e2
    split at e2 <;> cases e2
  rw [List.getElem?_append_left hi] at e2
  obtain ⟨n1,n2,n3,n4⟩:=c.capt i x (by rw [← I.len];exact hi) e1 e3
  obtain ⟨m0,ns0,hl⟩:=I.loc
  obtain ⟨u,r,lk⟩:=hl i x v n1 e2 n2
  refine ⟨u,r,.inr ⟨?_,?_⟩⟩
  ·rcases e3 with z | z | z
   ·exact absurd z n4
   ·exact .inl z
   ·exact .inr z
  ·obtain ⟨a,ha,hb⟩:=c.cap (C:=C) n3
   have ha':=closL_lookup _ x a _ [] (c.cells I) (fun z=>nomatch z) hb
   refine ⟨a,ha,?_⟩
   rcases lk with ⟨hk,_⟩ | ⟨hk,a2,ha2,hc⟩
   ·rcases c.free _ n3 rfl with z | z <;> rw [hk] at z <;> cases z
   ·rw [ha'] at ha2;cases ha2
    obtain ⟨o,ho,hd⟩:=hc
    obtain ⟨sl,ho'⟩:=J.base.any (b:=a) (ob:=o) ho (I.freeC x a ha') fun z=>(hfp a z).2.2.2.2.1 x a ha' rfl
    exact ⟨_,ho',hd⟩
 cell:=J.cell
 free:=J.free
 freeC:=J.freeC
 pin:=J.pin
 hok:=J.hok
 len:=by
  show (σ++List.replicate k none).length=N'.length
  rw [List.length_append,List.length_replicate,c.len,I.len]
theorem codeAny_compLoop_go {prog:Program}{w:World}{A:Around}{R:Result→Shared→Prop}{s:Shared}{elt target iter:Expr}{ifs:List Expr}{scope:Scope}{pos:Pos}{it acc:Value}{env:Env} (I:Nat→Shared→Prop)
  (turn:∀ n s,I n s→wpAny (model prog w) A (pyNext it) (fun r s₁=>match r with
   | none=>R (.ok .next) s₁
   | some v=>wpAny (model prog w) A (letOwnedTupleGo target it v) (fun _ s₁'=>wpAny (model prog w) A (assign target env v) (fun _ s₂=>
     wpAny (model prog w) A (forIn ifs true fun c r=>if r=true then do let ok←isTrue c env (eval c env);pure (ForInStep.yield ok) else pure (ForInStep.yield r)) (fun ok s₃=>
      if ok=true then wpAny (model prog w) A (eval elt env) (fun x s₄=>
       wpAny (model prog w) A (call (.builtin "list.append") [acc,x]) (fun _ s₅=>∃ m,m < n∧I m s₅) (fun _ _=>False) s₄) (fun _ _=>False) s₃
      else ∃ m,m < n∧I m s₃) (fun _ _=>False) s₂) (fun _ _=>False) s₁') (fun _ _=>False) s₁) (fun _ _=>False) s)
  (n:Nat) (h:I n s):
  codeAny (model prog w) A (.compLoop (.ListComp elt [⟨target,iter,ifs,0⟩] scope pos) 0 it acc env) R s:=by
 refine codeAny_loop rfl I (fun n s hI=>?_) n h
 show wpAny _ A ((compTurn (.ListComp elt [⟨target,iter,ifs,0⟩] scope pos) 0 it acc env).onRaise (fun x=>do noteFrame x env;theTreesLotGoes x)) _ _ s
 refine wpAny_noted ?_
 rw [compTurn_list]
 refine wpAny_bind (wpAny_standAt (wpAny_bind (wpAny_mono (turn n s hI) (fun r s₁ h₁=>?_) fun _ _ h'=>h'.elim)))
 cases r with
 | none=>exact wpAny_pure h₁
 | some v=>
  refine wpAny_bind (wpAny_mono h₁ (fun _ s₁' h₁'=>?_) fun _ _ h'=>h'.elim)
  refine wpAny_bind (wpAny_mono h₁' (fun _ s₂ h₂=>wpAny_bind (wpAny_mono h₂ (fun ok s₃ h₃=>?_) fun _ _ h'=>h'.elim)) fun _ _ h'=>h'.elim)
  cases ok with
  | false=>exact wpAny_pure ⟨rfl,h₃⟩
  | true=>
   exact wpAny_bind (wpAny_bind (wpAny_mono h₃ (fun x s₄ h₄=>wpAny_bind (wpAny_mono h₄ (fun _ s₅ h₅=>wpAny_pure (wpAny_pure ⟨rfl,h₅⟩)) fun _ _ h'=>h'.elim)) fun _ _ h'=>h'.elim))
theorem comp_block {elt iter tg:Expr}{ifs:List Expr}{pos:Pos}{J:It}{it:Addr}{tn:Nat→Heap→Prop}{g:TG}{tc:TT}{te:TE}{RR:Value→Addr→Result→Shared→Prop}{Q:VK}{E:Value→Shared→Prop}
  (c:CompOk X scope N' k) (hcalm:X.calm=true) (I:Inv X pins σ H2 s2) (T:Turn X.prog X.w X.K tg J fp it tn) (st:tn 0 s2.heap) (hf:∀ b∈fp,FpOk X pins H2 b)
  (hg:∀ C fp,PG (cxComp X s2 H2 scope C N' fp pins) tg g) (hc:∀ C fp,PTs (cxComp X s2 H2 scope C N' fp pins) ifs tc) (he:∀ C fp,PE (cxComp X s2 H2 scope C N' fp pins) elt te)
  (h:∀ D,H2 D=none→∃ W:Nat→Nat→List V→Hp→Prop,(∃ m,W 0 m [] (upd H2 D (.lst [])))∧∀ i m ys H,W i m ys H→H D=some (.lst ys) ∧
   ((J.stop i H∧Q (.ref D) H)∨(J.go i H∧∀ x H',J.yld i H x H'→g x (σ++List.replicate k none) H' fun σ2 H2=>tc σ2 H2 fun b H3=>if b=true then te σ2 H3 fun y H4=>H4 D=some (.lst ys)∧ys.length < sizeLine∧∃ m',m' < m∧W (i + 1) m' (ys++[y]) (upd H4 D (.lst (ys++[y]))) else ∃ m',m' < m∧W (i + 1) m' ys H3)))
  (hRR:∀ D C σ' H' s',s2.heap.objs.size≤C→Inv (cxComp X s2 H2 scope C N' fp pins) [] σ' H' s'→Q (.ref D) H'→RR (.ref D) C (.ok .next) s')
  :
  wpAny (model X.prog X.w) X.A (newList []) (fun acc s₃=>wpAny (model X.prog X.w) X.A (newFunctionEnv scope X.env.globals (closL X.env.cells scope.names []) [] X.env.qual none .none (some X.env)) (fun cenv s₄=>
   codeAny (model X.prog X.w) X.A (.compStart (.ListComp elt [⟨tg,iter,ifs,0⟩] scope pos) 0 (.ref it) acc { cenv with scope:=relabel scope X.env }) (RR acc cenv.locals) s₄) E s₃) E s2:=by
 refine wpAny_newObj_type (newEnv_cells ?_)
 dsimp only
 generalize hH2:s2.heap.push { cls:=.type "list",dict:=none,data:=.seq ([]:List Value).toArray }=HP
 obtain ⟨h₁,hh₁⟩:∃ h₁,h₁=pushCells (HP.push { cls:=.type "dict",data:=.dict #[] }) scope.names:=⟨_,rfl⟩
 rw [← hh₁]
 have kk:∀ b o,HP.get? b=some o→h₁.get? b=some o:=fun b o e=>by rw [hh₁];exact pushCells_keeps _ _ b o (Heap.get?_push_of_some _ e)
 have hns₁:h₁.Ns HP.objs.size (fun _=>none):=by rw [hh₁];exact (Heap.Ns.new HP (.type "dict")).keeps (pushCells_keeps _ _)
 have hC:HP.objs.size=s2.heap.objs.size + 1:=by rw [← hH2,Heap.size_push]
 have hDC:s2.heap.objs.size≠HP.objs.size:=by rw [hC];exact Nat.ne_of_lt (Nat.lt_succ_self _)
 have hCle:s2.heap.objs.size≤HP.objs.size:=by rw [hC];exact Nat.le_succ _
 have hfp:∀ b∈fp,b < s2.heap.objs.size:=fun b hb=>by
  obtain ⟨o,e,_⟩:=T.obj 0 _ st b hb
  exact Heap.lt_size e
 have below:∀ b,b < s2.heap.objs.size→b≠HP.objs.size:=fun b hb=>by rw [hC];exact Nat.ne_of_lt (Nat.lt_succ_of_lt hb)
 have old:∀ b o,s2.heap.get? b=some o→h₁.get? b=some o:=fun b o e=>kk b o (hH2 ▸ Heap.get?_push_of_some _ e)
 have hacc:h₁.get? s2.heap.objs.size=some { cls:=.type "list",dict:=none,data:=.seq ([]:List Value).toArray }:=kk _ _ (hH2 ▸ Heap.get?_push_size _ rfl)
 have fD:H2 s2.heap.objs.size=none:=I.hok.fresh (Nat.le_refl _)
 obtain ⟨W,⟨m0,w0⟩,hW⟩:=h _ fD
 have hok3:HOk X.prog X.w (upd H2 s2.heap.objs.size (.lst [])) h₁:=I.hok.laid old (Nat.le_refl _) ⟨Nat.zero_le _,[],0,.nil,hacc⟩
 have st1:tn 0 h₁:=T.keep _ _ _ st fun b hb o e=>old b o e
 have I3:Inv (cxComp X s2 H2 scope HP.objs.size N' fp pins) [] (σ++List.replicate k none) (upd H2 s2.heap.objs.size (.lst [])) { s2 with heap:=h₁ }:=
  c.inv I hf hfp (t':=s2.toks) hDC (Nat.le_refl _) hCle old hns₁ (fun b hb=>upd_ne hb) hok3 (by rw [upd_ne (Ne.symm hDC)];exact I.hok.fresh hCle) (by rw [hC];exact Nat.lt_succ_self _) (fun x a h l=>by
   have hs:(HP.push { cls:=.type "dict",data:=.dict #[] }).objs.size=HP.objs.size + 1:=Heap.size_push ..
   have h':(cellsFrom (HP.push { cls:=.type "dict",data:=.dict #[] }).objs.size scope.names (closL X.env.cells scope.names [])).lookup x=some a:=by rw [hs];exact h
   rcases pc_cell scope.names _ _ x a h' with z | z
   ·exact absurd (Nat.lt_of_lt_of_le (c.old I (closL_lookup _ x a _ [] (c.cells I) (fun z=>nomatch z) z)) (Nat.le_trans hCle (Nat.le_of_succ_le l))) (Nat.lt_irrefl _)
   ·rw [hh₁];exact z)
 have fx:∀ {H':Hp},(∀ b∈fp,H' b=none)→∀ b∈fp,FpOk (cxComp X s2 H2 scope HP.objs.size N' fp pins) [] H' b:=fun hn b hb=>by
  obtain ⟨f0,f1,f2,f3,f4,f5⟩:=hf b hb
  refine ⟨hn b hb,Nat.ne_of_lt (Nat.lt_of_lt_of_le (hfp b hb) hCle),fun hz=>?_,.inl hb,fun x a h=>(c.cl I h).elim (fun z=>f4 x a z) fun z=>Nat.ne_of_gt (Nat.lt_of_lt_of_le (hfp b hb) (Nat.le_trans hCle (Nat.le_of_succ_le z.1))),fun p hp=>f5 p (by simpa [cxComp] using hp)⟩
  rcases List.mem_cons.mp (I.stkSub b hz) with z | z
  ·exact f1 z
  ·exact f2 z
 have f0:∀ b∈fp,(upd H2 s2.heap.objs.size (.lst [])) b=none:=fun b hb=>by rw [upd_ne (Nat.ne_of_lt (hfp b hb))];exact (hf b hb).1
 have loop:∀ s₃:Shared,s₃={ s2 with heap:=h₁ } →
   codeAny (model X.prog X.w) X.A (.compLoop (.ListComp elt [⟨tg,iter,ifs,0⟩] scope pos) 0 (.ref it) (.ref s2.heap.objs.size) (compEnvC scope (cellsC X scope HP.objs.size) HP.objs.size X.env))
    (RR (.ref s2.heap.objs.size) HP.objs.size) s₃:=by
  rintro s₃ rfl
  refine codeAny_compLoop_go (fun n s'=>∃ i H' ys,Inv (cxComp X s2 H2 scope HP.objs.size N' fp pins) [] (σ++List.replicate k none) H' s'∧tn i s'.heap∧(∀ b∈fp,H' b=none)∧W i n ys H') ?_ m0 ⟨0,_,[],I3,st1,f0,w0⟩
  rintro n s4 ⟨i,H4,ys,I4,st4,fr4,w4⟩
  obtain ⟨hD4,hcase⟩:=hW i n ys H4 w4
  rcases hcase with ⟨stop,qn⟩ | ⟨go,step⟩
  ·refine thn (T.done (cxComp X s2 H2 scope HP.objs.size N' fp pins) rfl rfl rfl hcalm i [] s4 _ H4 (fun _ _=>False) I4 (fx fr4) st4 stop) fun r s5 ⟨hr,I5⟩=>?_
   subst hr
   exact hRR _ _ _ _ _ hCle I5 qn
  ·refine thn (T.item (cxComp X s2 H2 scope HP.objs.size N' fp pins) rfl rfl rfl hcalm i [] s4 _ H4 (fun _ _=>False) I4 (fx fr4) st4 go) fun r s5 ⟨u,hr,h5⟩=>?_
   subst hr
   refine thn h5 fun _ s6 ⟨x,H6,I6,r6,y6,st6,fr6⟩=>?_
   have I6':=I6.pinned (fx fr6) (T.obj _ _ st6)
   have stays:∀ {σ':St}{H':Hp}{s':Shared},Inv (cxComp X s2 H2 scope HP.objs.size N' fp pins) ([]++pinsAt fp s6.heap) σ' H' s'→Inv (cxComp X s2 H2 scope HP.objs.size N' fp pins) [] (σ++List.replicate k none) H' s'∧tn (i + 1) s'.heap∧∀ b∈fp,H' b=none:=fun {σ' H' s'} J=>by
    refine ⟨c.again I hf J.unpinned,T.keep _ _ _ st6 fun b hb o e=>(J.pin (b,o) (List.mem_append_right _ (List.mem_append_right _ (mem_pinsAt hb e)))).1,fun b hb=>?_⟩
    obtain ⟨o,e,d⟩:=T.obj _ _ st6 b hb
    exact (J.pin (b,o) (List.mem_append_right _ (List.mem_append_right _ (mem_pinsAt hb e)))).2.1
   refine thn (hg _ _ _ s6 _ H6 x u _ I6' r6 (step x H6 y6)) fun _ s7 ⟨σ7,H7,I7,q7⟩=>?_
   refine thn (hc _ _ _ s7 σ7 H7 _ I7 q7) fun b s8 ⟨H8,I8,q8⟩=>?_
   cases b with
   | false=>
    rw [if_neg Bool.false_ne_true] at q8 ⊢
    obtain ⟨m',hm,w'⟩:=q8
    obtain ⟨j1,j2,j3⟩:=stays I8
    exact ⟨m',hm,i + 1,H8,ys,j1,j2,j3,w'⟩
   | true=>
    rw [if_pos rfl] at q8 ⊢
    refine thn (he _ _ _ s8 σ7 H8 _ I8 q8) fun y s9 ⟨z,H9,I9,r9,hD9,hz9,m',hm,w'⟩=>?_
    refine thn (mt_append (X:=cxComp X s2 H2 scope HP.objs.size N' fp pins) _ s9 σ7 H9 (.ref s2.heap.objs.size) [z] (.ref s2.heap.objs.size) [y] (fun _ H'=>H'=upd H9 s2.heap.objs.size (.lst (ys++[z]))) I9 rfl (.cons r9 .nil) ⟨_,ys,z,rfl,rfl,hD9,hz9,rfl⟩) fun _ s10 ⟨_,H10,I10,_,e10⟩=>?_
    subst e10
    obtain ⟨j1,j2,j3⟩:=stays I10
    exact ⟨m',hm,i + 1,_,_,j1,j2,j3,w'⟩
 exact codeAny_compStart_list (loop _ rfl) (T.self _ 0 _ _ _ st1 (loop _ rfl))
theorem CompOk.out (I:Inv X pins σ H2 s2) (hf:∀ b∈fp,FpOk X pins H2 b) {σ':St}{H':Hp}{s':Shared} (J:Inv (cxComp X s2 H2 scope C N' fp pins) [] σ' H' s'):Inv X pins σ H' s':=
 I.call' (ch:=fp) J.os J.base J.hok J.bare fun b hb=>⟨(hf b hb).2.2.2.1,(hf b hb).2.1,(hf b hb).2.2.2.2.1,(hf b hb).2.2.2.2.2⟩
theorem CompOk.away (I:Inv X pins σ H2 s2) (hC:s2.heap.objs.size≤C) {σ':St}{H':Hp}{s':Shared} (J:Inv X pins σ' H' s') (hC':H' C=none) {h':Heap} (sb:Heap.SameBut C s'.heap h'):Inv X pins σ' H' { s' with heap:=h' }:=by
 have lt:∀ b o,s2.heap.get? b=some o→b≠C:=fun b o e=>Nat.ne_of_lt (Nat.lt_of_lt_of_le (Heap.lt_size e) hC)
 refine J.turned (t':=s'.toks) (it:=C) (fun b o hb e=>(sb.2 b hb).trans e) hC' (Nat.ne_of_gt (Nat.lt_of_lt_of_le I.lt hC)) (.inr (Nat.le_trans I.sz hC)) (fun x c h=>?_) fun p hp=>?_
 ·obtain ⟨v,o,ho,_⟩:=I.cell x c h
  exact lt c o ho
 ·exact lt p.1 p.2 (I.pin p hp).1
variable {elt iter tg:Expr}{ifs:List Expr}{pos:Pos}{wi:TI}{g:TG}{tc:TT}{te:TE}
theorem pe_comp (c:CompOk X scope N' k) (hcalm:X.calm=true) (hi:PI X tg iter wi) (hg:∀ s2 H2 C fp pins,PG (cxComp X s2 H2 scope C N' fp pins) tg g) (hc:∀ s2 H2 C fp pins,PTs (cxComp X s2 H2 scope C N' fp pins) ifs tc)
  (he:∀ s2 H2 C fp pins,PE (cxComp X s2 H2 scope C N' fp pins) elt te) (hs:∀ x,foldedSetIterable iter X.env x=pure x):PE X (.ListComp elt [⟨tg,iter,ifs,0⟩] scope pos) (tComp k wi g tc te):=by
 intro pins s σ H Q I h
 rw [eval_ListComp]
 refine wpAny_comprehension_free (use:=none) rfl hs (closureFor_eq (c.cells I)) c.kind c.names ?_
 refine thn (hi pins s σ H _ I h) fun v s1 h1=>thn h1 fun itv s2 h2=>?_
 obtain ⟨it,fp,tn,J,H',e,I2,T,st2,f2,W⟩:=h2
 subst e
 refine comp_block (RR:=fun acc C=>compPost (model X.prog X.w) X.A X.xe none (EP X pins σ Q) acc C) c hcalm I2 T st2 f2 (fun C fp=>hg s2 H' C fp pins) (fun C fp=>hc s2 H' C fp pins) (fun C fp=>he s2 H' C fp pins) W fun D C σ' H3 s' hC J3 q=>?_
 obtain ⟨m,ns,_⟩:=J3.loc
 exact ⟨m,ns,fun h' sb=>⟨.ref D,H3,CompOk.away I2 hC (CompOk.out I2 f2 J3) J3.free sb,rfl,q⟩⟩
theorem ps_setComp {i:Nat}{x:Str}{pos' spos:Pos} (hN:X.N.Nodup) (hi':X.N[i]?=some x) (hx:Loc X.env.scope x) (hfn:X.fn x=true∨X.env.scope.names.lookup x=some .local) (c:CompOk X scope N' k) (hcalm:X.calm=true) (hi:PI X tg iter wi) (hg:∀ s2 H2 C fp pins,PG (cxComp X s2 H2 scope C N' fp pins) tg g) (hc:∀ s2 H2 C fp pins,PTs (cxComp X s2 H2 scope C N' fp pins) ifs tc)
  (he:∀ s2 H2 C fp pins,PE (cxComp X s2 H2 scope C N' fp pins) elt te) (hs:∀ x,foldedSetIterable iter X.env x=pure x):PS X (.Assign [.Name x pos'] (.ListComp elt [⟨tg,iter,ifs,0⟩] scope pos) spos) (tAsg (tComp k wi g tc te) (gName i)):=by
 have hsw:∃ b,swapsWith (.ListComp elt [⟨tg,iter,ifs,0⟩] scope pos) (some (.Name x pos')) spos.line X.env=pure b:=⟨_,rfl⟩
 obtain ⟨b,hsw⟩:=hsw
 cases b with
 | false=>exact ps_set hN hi' hx (pe_comp c hcalm hi hg hc he hs) hsw hfn
 | true=>
  intro pins s σ H D I h
  rw [exec_Assign_Name_used _ _ _ _ hsw]
  refine wpAny_bind (wpAny_standAt (wpAny_bind ?_))
  show wpAny _ X.A (do let _←comprehension (.ListComp elt [⟨tg,iter,ifs,0⟩] scope pos) scope X.env _ (newList []) false (eval iter X.env) (some (assign (.Name x pos') X.env))) _ _ s
  refine wpAny_bind (wpAny_mono (wpAny_comprehension_free (use:=some (assign (.Name x pos') X.env)) (Q:=fun _ s'=>SP X pins D .next s') rfl hs (closureFor_eq (c.cells I)) c.kind c.names ?_) (fun _ s' hq=>wpAny_pure (wpAny_pure hq)) fun _ _ e=>e)
  refine thn (hi pins s σ H _ I h) fun v s1 h1=>thn h1 fun itv s2 h2=>?_
  obtain ⟨it,fp,tn,J,H',e,I2,T,st2,f2,W⟩:=h2
  subst e
  refine comp_block (Q:=fun x H1=>gName i x σ H1 D.nx) (RR:=fun acc C=>compPost (model X.prog X.w) X.A X.xe (some (assign (.Name x pos') X.env)) (fun _ s'=>SP X pins D .next s') acc C) c hcalm I2 T st2 f2 (fun C fp=>hg s2 H' C fp pins) (fun C fp=>hc s2 H' C fp pins) (fun C fp=>he s2 H' C fp pins) W fun E C σ' H3 s' hC J3 q=>?_
  obtain ⟨m,ns,_⟩:=J3.loc
  have I3:=CompOk.out I2 f2 J3
  show wpAny _ X.A (assign (.Name x pos') X.env (.ref E)) _ _ _
  refine wpAny_assign_Name (store_ok2 I3 hN hi' hx (v:=.ref E) rfl (fun s'' I4 hsb=>?_) hfn)
  obtain ⟨a,sb,ha⟩:=hsb
  have hCa:C≠a:=by
   rcases ha with z | z
   ·rw [z];exact Nat.ne_of_gt (Nat.lt_of_lt_of_le I2.lt hC)
   ·obtain ⟨v,o,ho,_⟩:=I2.cell x a z
    exact Nat.ne_of_gt (Nat.lt_of_lt_of_le (Heap.lt_size ho) hC)
  exact ⟨m,ns.sameBut sb hCa,fun h' sb'=>⟨_,H3,CompOk.away I2 hC I4 J3.free sb',q⟩⟩
theorem turn_str {P:Program}{w:World}{K:Frag}{tg:Expr} (z:Str) (tk:Tok) (it:Addr):Turn P w K tg (ItS z) [it] it (fun i h=>h.IsStrIter it "str_ascii_iterator" z tk i) where
 mem:=by simp
 obj:=fun i h st b hb=>by
  have e:b=it:=by simpa using hb
  subst e
  obtain ⟨o,e,c,d⟩:=st
  exact ⟨o,e,fun v z=>by rw [d] at z;cases z⟩
 keep:=fun i h h' st k=>by
  obtain ⟨o,e,r⟩:=st
  exact ⟨o,k it (by simp) o e,r⟩
 item:=by
  intro X hP hw hK hc i pins s σ H E I hf st hg
  subst hP hw hK
  have hi:i < z.cps.size:=hg
  obtain ⟨f0,f1,f2,f3,f4,f5⟩:=hf it (by simp)
  refine wpAny_pyNext_ascii_item st (c:=z.cps[i]) (by simp [hi]) fun h' st' sb=>?_
  have I1:Inv X pins σ H { s with heap:=h',toks:=s.toks + 1 }:=I.turned (t':=s.toks + 1) (fun b o hb e=>(sb.2 b hb).trans e) f0 f1 f3 f4 f5
  obtain ⟨o,e,c,d⟩:=id st'
  exact ⟨_,rfl,go_of (s:={ s with heap:=h',toks:=s.toks + 1 }) e c d (by decide) ⟨.str ⟨#[z.cps[i]]⟩,H,I1,⟨_,rfl⟩,⟨rfl,z.cps[i],by simp [hi],rfl⟩,st',fun b hb=>(hf b hb).1⟩⟩
 done:=by
  intro X hP hw hK hc i pins s σ H E I hf st hg
  subst hP hw hK
  have hi:z.cps.size≤i:=hg
  obtain ⟨f0,f1,f2,f3,f4,f5⟩:=hf it (by simp)
  exact wpAny_pyNext_ascii_end (I.ok.hd hc) st (by simp;omega) fun h' eb=>⟨rfl,I.turned (t':=s.toks) (fun b o hb e=>eb b o hb e) f0 f1 f3 f4 f5⟩
 self:=fun _ _ _ _ _ st h=>wpAny_pyIter_striter_ascii st h
theorem pi_seq {l:Expr}{tl:TE} (hl:PE X l tl):PI X tg l (iSeq X.K tl):=by
 intro pins s σ H R I h
 refine thn (hl pins s σ H _ I h) fun v s1 ⟨x,H1,I1,r1,q1⟩=>?_
 obtain ⟨a,e,⟨⟨xs,hq⟩,q⟩ | ⟨⟨xs,hq⟩,q⟩⟩ | ⟨z,e,ha,q⟩:=q1
 ·subst e
  cases r1
  obtain ⟨its,rv,p,hz⟩:=I1.list hq
  refine wpAny_pyIter_list p.isList ?_
  refine ⟨s1.heap.objs.size,[s1.heap.objs.size],_,_,H1,rfl,I1.kept (t':=s1.toks) fun b o e=>Heap.get?_push_of_some _ e,turn_list a _,⟨_,Heap.get?_push_size _ rfl,rfl,rfl⟩,fun b hb=>?_,q⟩
  have e:b=s1.heap.objs.size:=by simpa using hb
  subst e
  exact I1.fpOk (Nat.le_refl _) (I1.hok.fresh (Nat.le_refl _))
 ·subst e
  cases r1
  obtain ⟨its,rv,p,hz⟩:=I1.tuple hq
  refine wpAny_pyIter_tuple (show s1.heap.IsTuple a its.toArray from p) ?_
  refine ⟨s1.heap.objs.size,[s1.heap.objs.size],_,_,H1,rfl,I1.kept (t':=s1.toks) fun b o e=>Heap.get?_push_of_some _ e,turn_tuple a _,⟨_,Heap.get?_push_size _ rfl,rfl,rfl⟩,fun b hb=>?_,q⟩
  have e:b=s1.heap.objs.size:=by simpa using hb
  subst e
  exact I1.fpOk (Nat.le_refl _) (I1.hok.fresh (Nat.le_refl _))
 ·subst e
  obtain ⟨tk,rfl⟩:=r1
  refine wpAny_pyIter_ascii ha ?_
  refine ⟨s1.heap.objs.size,[s1.heap.objs.size],_,_,H1,rfl,I1.kept (t':=s1.toks) fun b o e=>Heap.get?_push_of_some _ e,turn_str z tk _,⟨_,Heap.get?_push_size _ rfl,rfl,rfl⟩,fun b hb=>?_,q⟩
  have e:b=s1.heap.objs.size:=by simpa using hb
  subst e
  exact I1.fpOk (Nat.le_refl _) (I1.hok.fresh (Nat.le_refl _))
end
open PySem PySem.Spec PyProof.Rows L2
section
variable {M:Fm}{vs:List Nat}{H:Hp}{fps:Fps}{F:List Addr}{Q:VK}
theorem leaf_int {k:Int}{d:Nat} (h:Leaf M H fps vs F (.int k) d Q):Q (.int k) H:=h (.int k) H [] (fun _ _ h=>h) (by rw [Own];exact ⟨rfl,rfl⟩) (fun _ z=>nomatch z)
theorem leaf_bl {k:Bool}{d:Nat} (h:Leaf M H fps vs F (.bl k) d Q):Q (.bl k) H:=h (.bl k) H [] (fun _ _ h=>h) (by rw [Own];exact ⟨rfl,rfl⟩) (fun _ z=>nomatch z)
theorem leaf_str {k:Str}{d:Nat} (h:Leaf M H fps vs F (.str k) d Q):Q (.str k) H:=h (.str k) H [] (fun _ _ h=>h) (by rw [Own];exact ⟨rfl,rfl⟩) (fun _ z=>nomatch z)
theorem leaf_view {x:PV}{v:V} (h:Leaf M H fps vs F x (dv x) Q) (o:Own M.K H (Zv M vs fps) x 0 v []):Q v H:=h v H [] (fun _ _ h=>h) (o.dv.weak fun a z=>z.elim id fun z=>nomatch z) (fun _ z=>nomatch z)
theorem upd_keep {p:Addr}{o:HO} (hp:H p=none):∀ a u,H a=some u→upd H p o a=some u:=fun a u h=>by rw [upd_ne (fun e=>by rw [e,hp] at h;cases h)];exact h
theorem leaf_list {xs:List PV}{ws:List V} (h:Leaf M H fps vs F (.lst xs) 1 Q) (o:OwnL M.K H (Zv M vs fps) xs 0 ws []) {p:Addr} (hp:H p=none):Q (.ref p) (upd H p (.lst ws)):=by
 refine h (.ref p) _ [p] (upd_keep hp) ?_ fun a ha=>.inr (by rw [List.mem_singleton.mp ha];exact hp)
 rw [Own]
 refine ⟨p,ws,rfl,.inr ⟨(by decide),[],upd_same,rfl,(fun z=>nomatch z),?_⟩⟩
 rw [pd_one]
 exact OwnL.move (S:=fun _=>False) (fun a u ha _=>upd_keep hp a u ha) (fun _ z=>z.elim) (fun a hd nz z=>z.elim nz fun z=>hd (by rw [List.mem_singleton.mp z];exact hp)) xs 0 ws [] (fun _ z=>nomatch z) o
def atoms:List PV→Bool
 | []=>true
 | x::xs=>atomic x && atoms xs
def flatP:PV→Bool
 | .tup xs=>atoms xs
 | x=>atomic x
def allAt:List PV→Bool
 | []=>true
 | x::xs=>flatP x && allAt xs
def d1 (xs:List PV):Nat:=if allAt xs=true then om else 1
theorem OwnL.ats {K:Frag}{H:Hp}{Z Z':Addr→Prop}:∀ {xs:List PV}{ws:List V}{d d':Nat},QQ.atoms xs=true→OwnL K H Z xs d' ws []→OwnL K H Z' xs d ws []
 | [],ws,d,_,_,h=>by rw [OwnL] at h ⊢;exact h
 | x::xs,ws,d,_,ha,h=>by
  unfold QQ.atoms at ha
  rw [Bool.and_eq_true] at ha
  rw [OwnL] at h ⊢
  obtain ⟨v,s,f1,f2,rfl,ef,dj,h1,h2⟩:=h
  obtain ⟨rfl,rfl⟩:f1=[]∧f2=[]:=by simpa using ef.symm
  exact ⟨v,s,[],[],rfl,rfl,dj,(Own.atom ha.1 h1).2,h2.ats ha.2⟩
theorem Own.flat {K:Frag}{H:Hp}{Z Z':Addr→Prop}{x:PV}{v:V}{d d':Nat} (hx:flatP x=true) (h:Own K H Z x d' v []):Own K H Z' x d v []:=by
 cases x with
 | tup xs=>
  rw [Own] at h ⊢
  obtain ⟨a,vs,e,ha,hl⟩:=h
  exact ⟨a,vs,e,ha,hl.ats hx⟩
 | lst _=>cases hx
 | dct _=>cases hx
 | exn _=>exact (Own.atom rfl h).2
 | emp=>exact (Own.atom rfl h).2
 | dko=>exact (Own.atom rfl h).2
 | scr _=>exact (Own.atom rfl h).2
 | non=>exact (Own.atom rfl h).2
 | bl _=>exact (Own.atom rfl h).2
 | int _=>exact (Own.atom rfl h).2
 | str _=>exact (Own.atom rfl h).2
theorem OwnL.ats0 {K:Frag}{H:Hp}{Z:Addr→Prop}:∀ {xs:List PV}{ws:List V}{d:Nat}{f:List Addr},QQ.atoms xs=true→OwnL K H Z xs d ws f→f=[]
 | [],ws,d,f,_,h=>by rw [OwnL] at h;exact h.2
 | x::xs,ws,d,f,ha,h=>by
  unfold QQ.atoms at ha
  rw [Bool.and_eq_true] at ha
  rw [OwnL] at h
  obtain ⟨v,s,f1,f2,rfl,rfl,dj,h1,h2⟩:=h
  rw [(Own.atom (Z':=Z) (d':=d) ha.1 h1).1,h2.ats0 ha.2]
  rfl
theorem Own.flatA {K:Frag}{H:Hp}{Z Z':Addr→Prop}{x:PV}{v:V}{d d':Nat}{f:List Addr} (hx:flatP x=true) (h:Own K H Z x d v f):f=[]∧Own K H Z' x d' v []:=by
 have e:f=[]:=by
  cases x with
  | tup xs=>
   rw [Own] at h
   obtain ⟨a,vs,e,ha,hl⟩:=h
   exact hl.ats0 hx
  | lst _=>cases hx
  | dct _=>cases hx
  | exn _=>exact (Own.atom (Z':=Z) (d':=d) rfl h).1
  | emp=>exact (Own.atom (Z':=Z) (d':=d) rfl h).1
  | dko=>exact (Own.atom (Z':=Z) (d':=d) rfl h).1
  | scr _=>exact (Own.atom (Z':=Z) (d':=d) rfl h).1
  | non=>exact (Own.atom (Z':=Z) (d':=d) rfl h).1
  | bl _=>exact (Own.atom (Z':=Z) (d':=d) rfl h).1
  | int _=>exact (Own.atom (Z':=Z) (d':=d) rfl h).1
  | str _=>exact (Own.atom (Z':=Z) (d':=d) rfl h).1
 subst e
 exact ⟨rfl,h.flat hx⟩
theorem OwnL.atoms {K:Frag}{H:Hp}{Z Z':Addr→Prop}:∀ {xs:List PV}{ws:List V}{d:Nat},allAt xs=true→OwnL K H Z xs 0 ws []→OwnL K H Z' xs d ws []
 | [],ws,d,_,h=>by rw [OwnL] at h ⊢;exact h
 | x::xs,ws,d,ha,h=>by
  unfold allAt at ha
  rw [Bool.and_eq_true] at ha
  rw [OwnL] at h ⊢
  obtain ⟨v,s,f1,f2,rfl,ef,dj,h1,h2⟩:=h
  obtain ⟨rfl,rfl⟩:f1=[]∧f2=[]:=by simpa using ef.symm
  exact ⟨v,s,[],[],rfl,rfl,dj,h1.flat ha.1,h2.atoms ha.2⟩
theorem leaf_listD {xs:List PV}{ws:List V} (h:Leaf M H fps vs F (.lst xs) (d1 xs) Q) (o:OwnL M.K H (Zv M vs fps) xs 0 ws []) {p:Addr} (hp:H p=none):Q (.ref p) (upd H p (.lst ws)):=by
 unfold d1 at h
 split at h
 ·rename_i ha
  refine h (.ref p) _ [p] (upd_keep hp) ?_ fun a ha=>.inr (by rw [List.mem_singleton.mp ha];exact hp)
  rw [Own]
  refine ⟨p,ws,rfl,.inr ⟨(by decide),[],upd_same,rfl,(fun z=>nomatch z),?_⟩⟩
  have o':OwnL M.K (upd H p (.lst ws)) (Zv M vs fps) xs 0 ws []:=OwnL.move (S:=fun _=>False) (fun a u ha _=>upd_keep hp a u ha) (fun _ z=>z.elim) (fun _ _ n=>n) xs 0 ws [] (fun _ z=>nomatch z) o
  exact o'.atoms ha
 ·exact leaf_list h o hp
theorem leaf_tup {xs:List PV}{ws:List V} (h:Leaf M H fps vs F (.tup xs) 0 Q) (o:OwnL M.K H (Zv M vs fps) xs 0 ws []) {p:Addr} (hp:H p=none):Q (.ref p) (upd H p (.tup ws)):=by
 refine h (.ref p) _ [] (upd_keep hp) ?_ fun a ha=>nomatch ha
 rw [Own]
 refine ⟨p,ws,rfl,upd_same,?_⟩
 rw [pd_zero]
 exact OwnL.move (S:=fun _=>False) (fun a u ha _=>upd_keep hp a u ha) (fun _ z=>z.elim) (fun a hd nz z=>z.elim nz fun z=>nomatch z) xs 0 ws [] (fun _ z=>nomatch z) o
theorem leaf_listF {xs:List PV}{ws:List V} (h:Leaf M H fps vs F (.lst xs) om Q) {Z:Addr→Prop} (o:OwnL M.K H Z xs om ws F) {p:Addr} (hp:H p=none):Q (.ref p) (upd H p (.lst ws)):=by
 refine h (.ref p) _ (p::F) (upd_keep hp) ?_ fun a ha=>(List.mem_cons.mp ha).elim (fun e=>.inr (by rw [e];exact hp)) .inl
 rw [Own]
 refine ⟨p,ws,rfl,.inr ⟨(by decide),F,upd_same,rfl,fun z=>?_,?_⟩⟩
 ·obtain ⟨ys,e⟩:=OwnL.lsts xs om ws F o p z
  rw [hp] at e;cases e
 ·exact OwnL.full xs ws F (OwnL.move (S:=fun _=>False) (Z':=Z) (fun a u ha _=>upd_keep hp a u ha) (fun _ z=>z.elim) (fun _ _ n=>n) xs om ws F (fun _ _ z=>z) o)
theorem leaf_tupF {xs:List PV}{ws:List V} (h:Leaf M H fps vs F (.tup xs) om Q) {Z:Addr→Prop} (o:OwnL M.K H Z xs om ws F) {p:Addr} (hp:H p=none):Q (.ref p) (upd H p (.tup ws)):=by
 refine h (.ref p) _ F (upd_keep hp) ?_ fun a ha=>.inl ha
 rw [Own]
 exact ⟨p,ws,rfl,upd_same,OwnL.full xs ws F (OwnL.move (S:=fun _=>False) (Z':=Z) (fun a u ha _=>upd_keep hp a u ha) (fun _ z=>z.elim) (fun _ _ n=>n) xs om ws F (fun _ _ z=>z) o)⟩
end
theorem Own.seqL {K:Frag}{H:Hp}{Z:Addr→Prop}{xs:List PV}{d:Nat}{v:V}{fp:List Addr} (h:Own K H Z (.lst xs) d v fp):∃ a ws,v=.ref a∧SqL K H a ws∧ws.length=xs.length:=by
 rw [Own] at h
 obtain ⟨a,ws,e,⟨_,hr,_,ol⟩ | ⟨_,f,ha,_,_,ol⟩⟩:=h
 ·exact ⟨a,ws,e,.inl (.inl hr.1),ol.length⟩
 ·exact ⟨a,ws,e,.inl (.inl ha),ol.length⟩
theorem Own.seqT {K:Frag}{H:Hp}{Z:Addr→Prop}{xs:List PV}{d:Nat}{v:V}{fp:List Addr} (h:Own K H Z (.tup xs) d v fp):∃ a ws,v=.ref a∧SqT K H a ws∧ws.length=xs.length:=by
 rw [Own] at h
 obtain ⟨a,ws,e,hr,ol⟩:=h
 exact ⟨a,ws,e,.inl (.inl hr),ol.length⟩
theorem Own.coldL {K:Frag}{H:Hp}{Z:Addr→Prop}{xs:List PV}{v:V} (h:Own K H Z (.lst xs) 0 v []):∃ a ws,v=.ref a∧H a=some (.lst ws)∧OwnL K H Z xs 0 ws []:=by
 rw [Own] at h
 obtain ⟨a,ws,e,⟨_,hr,_,ol⟩ | ⟨h,_⟩⟩:=h
 ·exact ⟨a,ws,e,hr.1,ol⟩
 ·exact absurd rfl h
theorem Own.coldT {K:Frag}{H:Hp}{Z:Addr→Prop}{xs:List PV}{v:V} (h:Own K H Z (.tup xs) 0 v []):∃ a ws,v=.ref a∧H a=some (.tup ws)∧OwnL K H Z xs 0 ws []:=by
 rw [Own] at h
 exact h
theorem OwnL.app {K:Frag}{H:Hp}{Z:Addr→Prop}:∀ {xs ys:List PV}{ws us:List V},OwnL K H Z xs 0 ws []→OwnL K H Z ys 0 us []→OwnL K H Z (xs++ys) 0 (ws++us) []
 | [],ys,ws,us,h,h'=>by rw [OwnL] at h;obtain ⟨rfl,_⟩:=h;exact h'
 | x::xs,ys,ws,us,h,h'=>by
  rw [OwnL] at h
  obtain ⟨v,s,f1,f2,rfl,ef,dj,h1,h2⟩:=h
  obtain ⟨rfl,rfl⟩:f1=[]∧f2=[]:=by simpa using ef.symm
  show OwnL K H Z (x::(xs++ys)) 0 (v::(s++us)) []
  rw [OwnL]
  exact ⟨v,s++us,[],[],rfl,rfl,fun _ z=>(nomatch z),h1,h2.app h'⟩
theorem OwnL.drop {K:Frag}{H:Hp}{Z:Addr→Prop}:∀ {xs:List PV}{ws:List V} (n:Nat),OwnL K H Z xs 0 ws []→OwnL K H Z (xs.drop n) 0 (ws.drop n) []
 | xs,ws,0,h=>h
 | [],ws,n + 1,h=>by rw [OwnL] at h;obtain ⟨rfl,_⟩:=h;rw [List.drop_nil,List.drop_nil,OwnL];exact ⟨rfl,rfl⟩
 | x::xs,ws,n + 1,h=>by
  rw [OwnL] at h
  obtain ⟨v,s,f1,f2,rfl,ef,dj,h1,h2⟩:=h
  obtain ⟨rfl,rfl⟩:f1=[]∧f2=[]:=by simpa using ef.symm
  exact h2.drop n
theorem OwnL.take {K:Frag}{H:Hp}{Z:Addr→Prop}:∀ {xs:List PV}{ws:List V} (n:Nat),OwnL K H Z xs 0 ws []→OwnL K H Z (xs.take n) 0 (ws.take n) []
 | xs,ws,0,h=>by rw [List.take_zero,List.take_zero,OwnL];exact ⟨rfl,rfl⟩
 | [],ws,n + 1,h=>by rw [OwnL] at h;obtain ⟨rfl,_⟩:=h;rw [List.take_nil,List.take_nil,OwnL];exact ⟨rfl,rfl⟩
 | x::xs,ws,n + 1,h=>by
  rw [OwnL] at h
  obtain ⟨v,s,f1,f2,rfl,ef,dj,h1,h2⟩:=h
  obtain ⟨rfl,rfl⟩:f1=[]∧f2=[]:=by simpa using ef.symm
  rw [List.take_succ_cons,List.take_succ_cons,OwnL]
  exact ⟨v,s.take n,[],[],rfl,rfl,fun _ z=>(nomatch z),h1,h2.take n⟩
theorem OwnL.nth {K:Frag}{H:Hp}{Z:Addr→Prop}{xs:List PV}{ws:List V}{j:Nat}{x:PV} (h:OwnL K H Z xs 0 ws []) (e:xs[j]?=some x):∃ w,ws[j]?=some w∧Own K H Z x 0 w []:=by
 have hj:j < ws.length:=by rw [h.length];exact (List.getElem?_eq_some_iff.mp e).1
 obtain ⟨y,e1,e2⟩:=h.get (i:=j) (w:=ws[j]) (by simp [hj])
 rw [e] at e1;cases e1
 exact ⟨_,by simp [hj],e2⟩
theorem cold {M:Fm}{vs:List Nat}{H:Hp}{fps:Fps}{x:PV}{d:Nat}{v:V}{fp:List Addr} (o:Own M.K H (Zt M vs fps fp) x d v fp) (hf:∀ a∈fp,¬ Zf M fps a):Own M.K H (Zv M vs fps) x 0 v []:=
 Own.freeze (fun _ z=>.inl z) x d v fp (fun a ha z=>hf a ha z.zf) o
def opAdd:PV→Nat→PV→Nat→Option (PV×Nat)
 | .int i,_,.int j,_=>some (.int (i + j),om)
 | .lst xs,_,.lst ys,_=>if xs.length + ys.length≤sizeLine then some (.lst (xs++ys),d1 (xs++ys)) else none
 | _,_,_,_=>none
def opInt (p:Int→Int→Bool) (g:Int→Int→Int):PV→Nat→PV→Nat→Option (PV×Nat)
 | .int i,_,.int j,_=>if p i j then some (.int (g i j),om) else none
 | _,_,_,_=>none
def pMul (i j:Int):Bool:=(decide (-(2 ^ 64) < i) && decide (i < 2 ^ 64)) || (decide (-(2 ^ 64) < j) && decide (j < 2 ^ 64))
def pDiv (_ j:Int):Bool:=decide (0 < j) && decide (j < 2 ^ 128)
def pMod (_ j:Int):Bool:=decide (0 < j)
def pPow (i j:Int):Bool:=decide (0≤j) && decide (j≤1000) && decide (i.natAbs < 2 ^ 64)
def opSub:=opInt (fun _ _=>true) (fun i j=>i - j)
def repL (n:Nat) (xs:List PV):List PV:=(List.replicate n xs).flatten
def sRep (x:Str) (n:Nat):Str:=⟨(List.replicate n x.cps.toList).flatten.toArray⟩
def opMul:PV→Nat→PV→Nat→Option (PV×Nat)
 | .str x,_,.int n,_=>if -(2 ^ 62)≤n∧n < 2 ^ 62∧x.length * n.toNat≤sizeLine then some (.str (sRep x n.toNat),om) else none
 | .int i,_,.int j,_=>if pMul i j then some (.int (i * j),om) else none
 | .lst xs,_,.int k,_=>if 0≤k∧k < 2 ^ 62∧xs.length * k.toNat≤sizeLine then some (.lst (repL k.toNat xs),d1 (repL k.toNat xs)) else none
 | _,_,_,_=>none
def opFdiv:=opInt pDiv (fun i j=>i / j)
def opMod:=opInt pMod (fun i j=>i % j)
def opPow:=opInt pPow (fun i j=>i ^ j.toNat)
section
variable {X:Cx}
theorem OpR.or {f:Value→Value→Sem Value}{r r':R2} (h:OpR X f r) (h':OpR X f r'):OpR X f (fun x y H Q=>r x y H Q∨r' x y H Q):=by
 intro pins s σ H x y v u Q I rx ry q
 rcases q with q | q
 ·exact h pins s σ H x y v u Q I rx ry q
 ·exact h' pins s σ H x y v u Q I rx ry q
theorem op_fdiv2:OpR X (binaryOp .FloorDiv) (rI (fun _ j=>0 < j∧j < 2 ^ 128) fun i j=>.int (i / j)):=opI fun i j _ _ _ _ _ hc q=>by
 have h1:(0:Int) < j:=hc.1
 have h2:j < 2 ^ 128:=hc.2
 refine floordiv_int (by omega) (by rw [Int.fdiv_eq_ediv_of_nonneg i (by omega)];exact q) (.inl (PyProof.noPylong_of_log2 ?_))
 have h3:j.natAbs < 2 ^ 128:=by omega
 have h4:j.natAbs≠0:=by omega
 have:=(Nat.log2_lt h4).mpr h3
 omega
end
theorem pe_imp {X:Cx}{e:Expr}{t t':TE} (h:PE X e t) (i:∀ σ H Q,t' σ H Q→t σ H Q):PE X e t':=fun pins s σ H Q I q=>h pins s σ H Q I (i σ H Q q)
theorem pt_imp {X:Cx}{e:Expr}{t t':TT} (h:PT X e t) (i:∀ σ H Q,t' σ H Q→t σ H Q):PT X e t':=fun pins s σ H Q I q=>h pins s σ H Q I (i σ H Q q)
theorem pw_imp {X:Cx}{e:Expr}{t t':TT} (h:PW X e t) (i:∀ σ H Q,t' σ H Q→t σ H Q):PW X e t':=fun wh pins s σ H Q I q=>h wh pins s σ H Q I (i σ H Q q)
theorem pa_imp {X:Cx}{e:List Expr}{t t':TA} (h:PA X e t) (i:∀ σ H Q,t' σ H Q→t σ H Q):PA X e t':=fun p pins s σ H Q I q=>h p pins s σ H Q I (i σ H Q q)
theorem ps_imp {X:Cx}{e:Stmt}{t t':TS} (h:PS X e t) (i:∀ D σ H,t' D σ H→t D σ H):PS X e t':=fun pins s σ H D I q=>h pins s σ H D I (i D σ H q)
theorem pss_imp {X:Cx}{e:List Stmt}{t t':TS} (h:PSs X e t) (i:∀ D σ H,t' D σ H→t D σ H):PSs X e t':=fun pins s σ H D I q=>h pins s σ H D I (i D σ H q)
section
variable {X:Cx}{M:Fm}{a b:Expr}{f g:Fx}{vs vs':List Nat}{pos:Pos}{σ:St}{H:Hp}{Q:VK}
theorem se_add (hv:∀ i∈vs,M.Ms i=false) (hK:M.K=X.K) (ha:PE X a (tE M f vs)) (hb:PE X b (tE M g vs')):PE X (.BinOp a .Add b pos) (tE M (bBin opAdd f g) (vs++vs')):=by
 refine pe_imp (pe_op (op_add.or op_cat) ha hb) fun σ H Q h=>tE_bin hv (fun x d y e z c v w H fps f1 f2 Q ho o1 o2 dj nz zd lf=>?_) h
 cases x with
 | int i=>
  cases y with
  | int j=>
   cases ho
   rw [Own] at o1 o2
   exact .inl ⟨i,j,o1.1,o2.1,leaf_int lf⟩
  | _=>cases ho
 | lst xs=>
  cases y with
  | lst ys=>
   dsimp only [opAdd] at ho
   split at ho
   ·rename_i hl
    cases ho
    obtain ⟨p,ws,rfl,hp,ol⟩:=(cold o1 fun a ha=>nz a (List.mem_append_left _ ha)).coldL
    obtain ⟨p2,us,rfl,hp2,ol2⟩:=(cold o2 fun a ha=>nz a (List.mem_append_right _ ha)).coldL
    exact .inr ⟨p,p2,ws,us,rfl,rfl,hp,hp2,by rw [ol.length,ol2.length];exact hl,fun q hq=>leaf_listD lf (ol.app ol2) hq⟩
   ·cases ho
  | _=>cases ho
 | _=>cases ho
theorem se_int {op:Operator}{p:Int→Int→Bool}{k:Int→Int→Int}{C:Int→Int→Prop} (hop:OpR X (binaryOp op) (rI C fun i j=>.int (k i j))) (hC:∀ i j,p i j=true→C i j) (hv:∀ i∈vs,M.Ms i=false) (ha:PE X a (tE M f vs)) (hb:PE X b (tE M g vs')):
  PE X (.BinOp a op b pos) (tE M (bBin (opInt p k) f g) (vs++vs')):=by
 refine pe_imp (pe_op hop ha hb) fun σ H Q h=>tE_bin hv (fun x d y e z c v w H fps f1 f2 Q ho o1 o2 dj nz zd lf=>?_) h
 cases x with
 | int i=>
  cases y with
  | int j=>
   dsimp only [opInt] at ho
   split at ho
   ·rename_i hp
    cases ho
    rw [Own] at o1 o2
    exact ⟨i,j,o1.1,o2.1,hC i j hp,leaf_int lf⟩
   ·cases ho
  | _=>cases ho
 | _=>cases ho
theorem OwnL.rep {K:Frag}{H:Hp}{Z:Addr→Prop}{xs:List PV}{ws:List V} (h:OwnL K H Z xs 0 ws []):∀ n,OwnL K H Z (repL n xs) 0 (List.replicate n ws).flatten []
 | 0=>by
  unfold repL
  rw [List.replicate_zero,List.replicate_zero,List.flatten_nil,List.flatten_nil,OwnL];exact ⟨rfl,rfl⟩
 | n + 1=>by
  have:=h.rep n
  unfold repL at this ⊢
  rw [List.replicate_succ,List.replicate_succ,List.flatten_cons,List.flatten_cons]
  exact h.app this
theorem op_sub':OpR X (binaryOp .Sub) (rI (fun _ _=>True) fun i j=>.int (i - j)):=opI fun _ _ _ _ _ _ _ _ q=>sub_int q
theorem cMul {i j:Int} (h:pMul i j=true):CMul i j:=by
 unfold pMul at h
 simp only [Bool.or_eq_true,Bool.and_eq_true,decide_eq_true_eq] at h
 exact h
theorem sRep_fold (a:Array Nat):∀ (n:Nat) (b:Array Nat),(List.replicate n a).foldl (·++·) b=⟨b.toList++(List.replicate n a.toList).flatten⟩
 | 0,b=>by simp
 | n + 1,b=>by
  rw [List.replicate_succ,List.foldl_cons,sRep_fold a n,List.replicate_succ,List.flatten_cons]
  simp
theorem op_mul_str:OpR X (binaryOp .Mult) (fun x y H Q=>∃ z n,x=.str z∧y=.int n∧-(2 ^ 62)≤n∧n < 2 ^ 62∧z.length * n.toNat≤sizeLine∧Q (.str (sRep z n.toNat)) H):=by
 intro pins s σ H x y v u Q I rx ry h
 obtain ⟨z,n,rfl,rfl,h1,h2,h3,q⟩:=h
 obtain ⟨t1,rfl⟩:=rx
 obtain ⟨t2,rfl⟩:=ry
 have hz:Builtin.Str.tooLong (z.length * n.toNat)=false:=by
  unfold Builtin.Str.tooLong
  have h40:sizeLine≤2 ^ 40:=by decide
  exact decide_eq_false (by omega)
 refine PySem.P.mul_str (by rw [decide_eq_false (by omega),decide_eq_false (by omega)];rfl) (fun _ _ hc=>?_) (fun _ _=>hz) ?_
 ·have hn:(1:Int)≤n:=by omega
  have hl:z.length * n.toNat≤2 ^ 62:=Nat.le_trans h3 (by decide)
  have h4:(z.length:Int) * n≤2 ^ 62:=by
   have:((z.length * n.toNat:Nat):Int)≤((2 ^ 62:Nat):Int):=Int.ofNat_le.mpr hl
   rw [Int.natCast_mul,show ((n.toNat:Nat):Int)=n by omega] at this
   exact this
  have h5:(2 ^ 63 - 1) / n < (z.length:Int):=hc
  have h6:=Int.lt_mul_of_ediv_lt (by omega:(0:Int) < n) h5
  omega
 ·by_cases c1:n < 1
  ·rw [if_pos c1]
   refine ⟨by decide,.str (sRep z n.toNat),H,I.tok _,⟨s.toks,?_⟩,q⟩
   rw [show n.toNat=0 by omega]
   rfl
  ·rw [if_neg c1]
   split
   ·rename_i c2
    refine ⟨.str (sRep z n.toNat),H,I,⟨t1,?_⟩,q⟩
    have e:sRep z n.toNat=z:=by
     unfold sRep
     rcases Bool.or_eq_true _ _ ▸ c2 with c | c
     ·have:n=1:=by simpa using c
      subst this
      show (⟨([z.cps.toList].flatten).toArray⟩:Str)=z
      simp
     ·have e0:z.cps.toList=[]:=by
       have:z.cps.size=0:=eq_of_beq c
       exact Array.toList_eq_nil_iff.mpr (Array.eq_empty_of_size_eq_zero this)
      rw [e0]
      have:(List.replicate n.toNat ([]:List Nat)).flatten=[]:=by simp
      rw [this]
      cases z with
      | mk a=>simp at e0;subst e0;rfl
    rw [e]
   ·refine ⟨?_,.str (sRep z n.toNat),H,I.tok _,⟨s.toks,?_⟩,q⟩
    ·rw [sRep_fold]
     show (#[].toList++(List.replicate n.toNat z.cps.toList).flatten).length≤sizeLine
     simp only [List.nil_append,List.length_append,List.length_flatten,List.map_replicate,List.sum_replicate_nat]
     have h4:n.toNat * z.cps.size≤sizeLine:=by rw [Nat.mul_comm];exact h3
     simpa using h4
    ·unfold sRep
     rw [sRep_fold]
     simp
theorem se_mul (hv:∀ i∈vs,M.Ms i=false) (ha:PE X a (tE M f vs)) (hb:PE X b (tE M g vs')):PE X (.BinOp a .Mult b pos) (tE M (bBin opMul f g) (vs++vs')):=by
 refine pe_imp (pe_op (op_mul.or (op_rep.or op_mul_str)) ha hb) fun σ H Q h=>tE_bin hv (fun x d y e z c v w H fps f1 f2 Q ho o1 o2 dj nz zd lf=>?_) h
 cases x with
 | int i=>
  cases y with
  | int j=>
   dsimp only [opMul] at ho
   split at ho
   ·rename_i hp
    cases ho
    rw [Own] at o1 o2
    exact .inl ⟨i,j,o1.1,o2.1,cMul hp,leaf_int lf⟩
   ·cases ho
  | _=>cases ho
 | lst xs=>
  cases y with
  | int k=>
   dsimp only [opMul] at ho
   split at ho
   ·rename_i hl
    cases ho
    obtain ⟨p,ws,rfl,hp,ol⟩:=(cold o1 fun a ha=>nz a (List.mem_append_left _ ha)).coldL
    rw [Own] at o2
    exact .inr (.inl ⟨p,k,ws,rfl,o2.1,hp,by omega,by omega,by rw [ol.length];exact hl.2.2,fun q hq=>leaf_listD lf (ol.rep k.toNat) hq⟩)
   ·cases ho
  | _=>cases ho
 | str z=>
  cases y with
  | int k=>
   dsimp only [opMul] at ho
   split at ho
   ·rename_i hl
    cases ho
    rw [Own] at o1
    rw [Own] at o2
    exact .inr (.inr ⟨z,k,o1.1,o2.1,hl.1,hl.2.1,hl.2.2,leaf_str lf⟩)
   ·cases ho
  | _=>cases ho
 | _=>cases ho
theorem cDiv {i j:Int} (h:pDiv i j=true):0 < j∧j < 2 ^ 128:=by
 unfold pDiv at h
 simp only [Bool.and_eq_true,decide_eq_true_eq] at h
 exact h
theorem cMod {i j:Int} (h:pMod i j=true):0 < j:=by
 unfold pMod at h
 simpa using h
theorem cPow {i j:Int} (h:pPow i j=true):CPow i j:=by
 unfold pPow at h
 simp only [Bool.and_eq_true,decide_eq_true_eq] at h
 exact ⟨h.1.1,by omega,h.2⟩
def opNeg:PV→Nat→Option (PV×Nat)
 | .int i,_=>some (.int (-i),om)
 | _,_=>none
theorem se_neg (ha:PE X a (tE M f vs)):PE X (.UnaryOp .USub a pos) (tE M (bUn opNeg f) vs):=by
 refine pe_imp (pe_un un_neg ha) fun σ H Q h=>tE_un (fun x d z c v H fps f1 Q ho o1 nz zd lf=>?_) h
 cases x with
 | int i=>cases ho;rw [Own] at o1;exact ⟨i,o1.1,leaf_int lf⟩
 | _=>cases ho
def opCmp (p:Int→Int→Bool):PV→Nat→PV→Nat→Option (PV×Nat)
 | .int i,_,.int j,_=>some (.bl (p i j),om)
 | _,_,_,_=>none
theorem leaf_cmp {p:Int→Int→Bool}{x y z:PV}{d e c:Nat}{v w:V}{fps:Fps}{f1 f2 F:List Addr}{Z Z':Addr→Prop} (ho:opCmp p x d y e=some (z,c)) (o1:Own M.K H Z x d v f1) (o2:Own M.K H Z' y e w f2) (lf:Leaf M H fps vs F z c Q):rI0 (fun i j=>.bl (p i j)) v w H Q:=by
 cases x with
 | int i=>
  cases y with
  | int j=>
   cases ho
   rw [Own] at o1 o2
   exact ⟨i,j,o1.1,o2.1,leaf_bl lf⟩
  | _=>cases ho
 | _=>cases ho
def toDL (f:PV→Option PyData):List PV→Option (List PyData)
 | []=>some []
 | x::xs=>match f x,toDL f xs with
  | some a,some r=>some (a::r)
  | _,_=>none
def toD:Nat→PV→Option PyData
 | 0,_=>none
 | n + 1,x=>match x with
  | .non=>some .none
  | .bl b=>some (.bool b)
  | .int i=>some (.int i)
  | .str z=>if PyData.strOk z=true then some (.str z) else none
  | .lst xs=>(toDL (toD n) xs).map .list
  | .tup xs=>(toDL (toD n) xs).map .tuple
  | _=>none
def sameL (f:PV→PV→Bool):List PV→List PV→Bool
 | [],[]=>true
 | x::xs,y::ys=>f x y && sameL f xs ys
 | _,_=>false
def sameE:Nat→PV→PV→Bool
 | 0,_,_=>false
 | n + 1,x,y=>match x,y with
  | .non,.non=>true
  | .bl a,.bl b=>a == b
  | .int a,.int b=>a == b
  | .str a,.str b=>a == b
  | .emp,.emp=>true
  | .lst xs,.lst ys=>sameL (sameE n) xs ys
  | .tup xs,.tup ys=>sameL (sameE n) xs ys
  | _,_=>false
def opEq (neg:Bool) (x:PV) (_:Nat) (y:PV) (_:Nat):Option (PV×Nat):=match toD 20 x,toD 20 y with
 | some a,some b=>some (.bl (neg^^PyData.eqv a b),om)
 | _,_=>match x,y with
  | .lst xs,.lst ys=>if sameL (sameE 20) xs ys=true then some (.bl (neg^^true),om) else if xs.length≠ys.length then some (.bl (neg^^false),om) else none
  | .str a,.str b=>some (.bl (neg^^(a == b)),om)
  | .emp,.emp=>some (.bl (neg^^true),om)
  | .tup xs,.tup ys=>if sameL (sameE 20) xs ys=true then some (.bl (neg^^true),om) else none
  | _,_=>none
theorem toDL_lay {f:PV→Option PyData}{n:Nat} (hf:∀ x D,f x=some D→D.canLay0=true∧D.depth≤n):∀ {xs:List PV}{Ds:List PyData},toDL f xs=some Ds→PyData.canLayAll0 Ds=true∧PyData.depthAll Ds≤n
 | [],Ds,h=>by cases h;rw [PyData.canLayAll0,PyData.depthAll];exact ⟨rfl,Nat.zero_le _⟩
 | x::xs,Ds,h=>by
  unfold toDL at h
  split at h
  ·rename_i a r h1 h2
   cases h
   have h3:=hf x a h1
   have h4:=toDL_lay hf h2
   rw [PyData.canLayAll0,PyData.depthAll,h3.1,h4.1]
   exact ⟨rfl,Nat.max_le.mpr ⟨h3.2,h4.2⟩⟩
  ·cases h
theorem toD_lay:∀ (n:Nat) (x:PV) (D:PyData),toD n x=some D→D.canLay0=true∧D.depth≤n
 | 0,_,_,h=>by cases h
 | n + 1,x,D,h=>by
  unfold toD at h
  cases x with
  | non=>cases h;rw [PyData.canLay0,PyData.depth] <;> first | exact ⟨rfl,Nat.zero_le _⟩ | (intros;contradiction)
  | bl b=>cases h;rw [PyData.canLay0,PyData.depth] <;> first | exact ⟨rfl,Nat.zero_le _⟩ | (intros;contradiction)
  | int i=>cases h;rw [PyData.canLay0,PyData.depth] <;> first | exact ⟨rfl,Nat.zero_le _⟩ | (intros;contradiction)
  | str z=>
   dsimp only at h
   split at h
   ·rename_i hz
    cases h;rw [PyData.canLay0,PyData.depth] <;> first | exact ⟨hz,Nat.zero_le _⟩ | (intros;contradiction)
   ·cases h
  | lst xs=>
   obtain ⟨Ds,e,rfl⟩:=Option.map_eq_some_iff.mp h
   have:=toDL_lay (toD_lay n) e
   rw [PyData.canLay0,PyData.depth]
   exact ⟨this.1,Nat.succ_le_succ this.2⟩
  | tup xs=>
   obtain ⟨Ds,e,rfl⟩:=Option.map_eq_some_iff.mp h
   have:=toDL_lay (toD_lay n) e
   rw [PyData.canLay0,PyData.depth]
   exact ⟨this.1,Nat.succ_le_succ this.2⟩
  | emp=>cases h
  | dko=>cases h
  | scr ns=>cases h
  | dct _=>cases h
  | exn _=>cases h
theorem reads_of {pins:List (Addr×Obj)}{s:Shared}{Z:Addr→Prop} (I:L2.Inv X pins σ H s):∀ (n:Nat) (x:PV) (d:Nat) (v:V) (fp:List Addr) (u:Value) (D:PyData),toD n x=some D→Own X.K H Z x d v fp→RelV v u→∃ as,Reads s.heap u D as
 | 0,_,_,_,_,_,_,h,_,_=>by cases h
 | n + 1,x,d,v,fp,u,D,h,o,r=>by
  have all:∀ (xs:List PV) (d:Nat) (ws:List V) (fp:List Addr) (us:List Value) (Ds:List PyData),toDL (toD n) xs=some Ds→OwnL X.K H Z xs d ws fp→Vals ws us→∃ as,ReadsAll s.heap us Ds as:=fun xs=>by
   induction xs with
   | nil=>
    intro d ws fp us Ds h o r
    cases h
    rw [OwnL] at o
    obtain ⟨rfl,_⟩:=o
    cases r
    exact ⟨_,.nil⟩
   | cons y ys ih=>
    intro d ws fp us Ds h o r
    unfold toDL at h
    split at h
    ·rename_i a rr h1 h2
     cases h
     rw [OwnL] at o
     obtain ⟨v,s,f1,f2,rfl,_,_,o1,o2⟩:=o
     cases r with
     | cons r1 r2=>
      obtain ⟨as,ra⟩:=reads_of I n y d v f1 _ a h1 o1 r1
      obtain ⟨bs,rb⟩:=ih d s f2 _ rr h2 o2 r2
      exact ⟨_,.cons ra rb⟩
    ·cases h
  unfold toD at h
  cases x with
  | non=>cases h;rw [Own] at o;obtain ⟨rfl,_⟩:=o;cases r;exact ⟨_,.none⟩
  | bl b=>cases h;rw [Own] at o;obtain ⟨rfl,_⟩:=o;cases r;exact ⟨_,.bool b⟩
  | int i=>cases h;rw [Own] at o;obtain ⟨rfl,_⟩:=o;obtain ⟨t,rfl⟩:=r;exact ⟨_,.int i t⟩
  | str z=>
   dsimp only at h
   split at h
   ·cases h;rw [Own] at o;obtain ⟨rfl,_⟩:=o;obtain ⟨t,rfl⟩:=r;exact ⟨_,.str z t⟩
   ·cases h
  | lst xs=>
   obtain ⟨Ds,e,rfl⟩:=Option.map_eq_some_iff.mp h
   have hh:∃ a ws d' f,v=.ref a∧H a=some (.lst ws)∧OwnL X.K H Z xs d' ws f:=by
    rw [Own] at o
    obtain ⟨a,ws,ev,⟨_,hr,_,ol⟩ | ⟨_,f,ha,_,_,ol⟩⟩:=o
    ·exact ⟨a,ws,_,_,ev,hr.1,ol⟩
    ·exact ⟨a,ws,_,_,ev,ha,ol⟩
   obtain ⟨a,ws,d',f,rfl,ha,ol⟩:=hh
   cases r
   obtain ⟨its,rv,⟨ob,nn,e1,e2,e3,e4⟩,_⟩:=I.list (.inl (.inl ha))
   obtain ⟨as,ra⟩:=all xs d' ws f its Ds e ol rv
   exact ⟨_,.list e1 e2 e4 ra⟩
  | tup xs=>
   obtain ⟨Ds,e,rfl⟩:=Option.map_eq_some_iff.mp h
   rw [Own] at o
   obtain ⟨a,ws,rfl,ha,ol⟩:=o
   cases r
   obtain ⟨its,rv,⟨ob,e1,e2,nn,e4⟩,_⟩:=I.tuple (.inl (.inl ha))
   obtain ⟨as,ra⟩:=all xs _ ws fp its Ds e ol rv
   exact ⟨_,.tuple e1 e2 e4 ra⟩
  | emp=>cases h
  | dko=>cases h
  | scr ns=>cases h
  | dct _=>cases h
  | exn _=>cases h
theorem dK_any {K':Type} [DecidableEq K'] {prog:Program}{w:World}{knd:KeyKind prog w K'}{P:Program}{w0:World}{h:Heap}{a:Addr} (x:h.DictOf (mixKind P w0) a []):h.DictOf knd a []:=by
 obtain ⟨o,es,ep,h1,h2,h3,h4,h5,h6⟩:=x
 generalize hes:es.toList=l at h5
 cases h5
 have e:es=#[]:=Array.toList_eq_nil_iff.mp hes
 subst e
 exact ⟨o,#[],ep,h1,h2,h3,by intro z hz;simp at hz,.nil,.nil⟩
theorem emp_eq {pins:List (Addr×Obj)}{s:Shared} (I:L2.Inv X pins σ H s) {a b:Addr}{A:Around} (ha:H a=some (.dK [])) (hb:H b=some (.dK [])) (hu:A.units < cLine):SeqAt.EqAt A s (.ref a) (.ref b) true:=by
 by_cases e:a=b
 ·subst e;exact SeqAt.EqAt.same _
 ·refine SeqAt.EqAt.of_refs e fun prog w E Q hq=>?_
  obtain ⟨_,z1,vs,k1,d1⟩:=dk_of I.hok ha
  obtain ⟨_,z2,ws,k2,d2⟩:=dk_of I.hok hb
  cases k1
  cases k2
  exact PySem.W.keq_eq (knd:=mixKind prog w) (r:=true) z1 z2 (dK_any d1) (dK_any d2) hu (fun _=>.nil) (by simpa using hq)
theorem own_lstE {Z:Addr→Prop}{xs:List PV}{d:Nat}{v:V}{fp:List Addr}{K:Frag} (o:Own K H Z (.lst xs) d v fp):∃ a ws d' f,v=.ref a∧H a=some (.lst ws)∧OwnL K H Z xs d' ws f:=by
 rw [Own] at o
 obtain ⟨a,ws,ev,⟨_,hr,_,ol⟩ | ⟨_,f,ha,_,_,ol⟩⟩:=o
 ·exact ⟨a,ws,_,_,ev,hr.1,ol⟩
 ·exact ⟨a,ws,_,_,ev,ha,ol⟩
theorem all_trueE {n:Nat}{e:Nat→Bool} (h:∀ j,j < n→e j=true):(List.range n).all e=true:=List.all_eq_true.mpr fun j hj=>h j (List.mem_range.mp hj)
theorem same_eq {pins:List (Addr×Obj)}{s:Shared}{Z Z':Addr→Prop} (I:L2.Inv X pins σ H s):∀ (n:Nat) (x y:PV) (d e:Nat) (v w:V) (f1 f2:List Addr) (u u':Value) (A:Around),A.units + n < cLine→sameE n x y=true→Own X.K H Z x d v f1→Own X.K H Z' y e w f2→RelV v u→RelV w u'→SeqAt.EqAt A s u u' true
 | 0,_,_,_,_,_,_,_,_,_,_,_,_,h,_,_,_,_=>by cases h
 | n + 1,x,y,d,e,v,w,f1,f2,u,u',A,hu,h,o1,o2,r1,r2=>by
  have all:∀ (xs ys:List PV) (d e:Nat) (vs ws:List V) (f1 f2:List Addr) (us us':List Value),sameL (sameE n) xs ys=true→OwnL X.K H Z xs d vs f1→OwnL X.K H Z' ys e ws f2→Vals vs us→Vals ws us'→us.length=us'.length∧∀ j (h1:j < us.length) (h2:j < us'.length),SeqAt.EqAt A.in1 s us[j] us'[j] true:=fun xs=>by
   induction xs with
   | nil=>
    intro ys d e vs ws f1 f2 us us' h o1 o2 r1 r2
    cases ys with
    | cons _ _=>cases h
    | nil=>
     rw [OwnL] at o1 o2
     obtain ⟨rfl,_⟩:=o1
     obtain ⟨rfl,_⟩:=o2
     cases r1
     cases r2
     exact ⟨rfl,fun j h1 _=>nomatch h1⟩
   | cons x xs ih=>
    intro ys d e vs ws f1 f2 us us' h o1 o2 r1 r2
    cases ys with
    | nil=>cases h
    | cons y ys=>
     unfold sameL at h
     rw [Bool.and_eq_true] at h
     rw [OwnL] at o1 o2
     obtain ⟨_,_,g1,g2,rfl,_,_,p1,p2⟩:=o1
     obtain ⟨_,_,k1,k2,rfl,_,_,q1,q2⟩:=o2
     cases r1 with
     | cons a1 a2=>
      cases r2 with
      | cons b1 b2=>
       have t:=ih ys d e _ _ g2 k2 _ _ h.2 p2 q2 a2 b2
       refine ⟨congrArg (·+ 1) t.1,fun j h1 h2=>?_⟩
       cases j with
       | zero=>exact same_eq I n x y d e _ _ g1 k1 _ _ A.in1 (by have e:A.in1.units=A.units + 1:=rfl;omega) h.1 p1 q1 a1 b1
       | succ j=>exact t.2 j (Nat.lt_of_succ_lt_succ h1) (Nat.lt_of_succ_lt_succ h2)
  cases x with
  | non=>cases y <;> first | (cases h;done) | (rw [Own] at o1 o2;obtain ⟨rfl,_⟩:=o1;obtain ⟨rfl,_⟩:=o2;cases r1;cases r2;exact SeqAt.EqAt.same _)
  | bl b=>cases y <;> first | (cases h;done) | (rw [Own] at o1 o2;obtain ⟨rfl,_⟩:=o1;obtain ⟨rfl,_⟩:=o2;cases r1;cases r2;have e:=eq_of_beq (show (b == _)=true from h);subst e;exact SeqAt.EqAt.same _)
  | int i=>cases y <;> first | (cases h;done) | (rw [Own] at o1 o2;obtain ⟨rfl,_⟩:=o1;obtain ⟨rfl,_⟩:=o2;obtain ⟨t,rfl⟩:=r1;obtain ⟨t',rfl⟩:=r2;have e:=eq_of_beq (show (i == _)=true from h);subst e;have z:=SeqAt.EqAt.int_int (A:=A) (s:=s) i t i t';rwa [beq_self_eq_true] at z)
  | str i=>cases y <;> first | (cases h;done) | (rw [Own] at o1 o2;obtain ⟨rfl,_⟩:=o1;obtain ⟨rfl,_⟩:=o2;obtain ⟨t,rfl⟩:=r1;obtain ⟨t',rfl⟩:=r2;have e:=eq_of_beq (show (i == _)=true from h);subst e;have z:=SeqAt.EqAt.str_str (A:=A) (s:=s) i t i t';rwa [beq_self_eq_true] at z)
  | emp=>cases y <;> first | (cases h;done) | (rw [Own] at o1 o2;obtain ⟨_,a,rfl,ha⟩:=o1;obtain ⟨_,b,rfl,hb⟩:=o2;cases r1;cases r2;exact emp_eq I ha hb (by omega))
  | dko=>cases h
  | lst xs=>
   cases y with
   | lst ys=>
    obtain ⟨a,ws,d',f,rfl,ha,ol⟩:=own_lstE o1
    obtain ⟨b,ws',e',f',rfl,hb,ol'⟩:=own_lstE o2
    cases r1
    cases r2
    obtain ⟨its,rv,p,_⟩:=I.list (.inl (.inl ha))
    obtain ⟨its',rv',p',_⟩:=I.list (.inl (.inl hb))
    have t:=all xs ys d' e' ws ws' f f' its its' h ol ol' rv rv'
    obtain ⟨ob,nn,e1,e2,e3,e4⟩:=p
    obtain ⟨ob',nn',e1',e2',e3',e4'⟩:=p'
    by_cases e:a=b
    ·subst e;exact SeqAt.EqAt.same _
    ·refine SeqAt.EqAt.of_refs e ?_
     have z:=SeqAt.RcAt.lists (A:=A) (s:=s) (l:=a) (b:=b) (items:=its.toArray) (items2:=its'.toArray) (e:=fun _=>true) ⟨ob,e1,e2,nn,e4⟩ ⟨ob',e1',e2',nn',e4'⟩ (by simpa using t.1) (by omega) (fun j h1 h2=>by simpa using t.2 j (by simpa using h1) (by simpa using h2))
     rwa [all_trueE fun _ _=>rfl] at z
   | _=>cases h
  | tup xs=>
   cases y with
   | tup ys=>
    rw [Own] at o1 o2
    obtain ⟨a,ws,rfl,ha,ol⟩:=o1
    obtain ⟨b,ws',rfl,hb,ol'⟩:=o2
    cases r1
    cases r2
    obtain ⟨its,rv,⟨ob,e1,e2,nn,e4⟩,_⟩:=I.tuple (.inl (.inl ha))
    obtain ⟨its',rv',⟨ob',e1',e2',nn',e4'⟩,_⟩:=I.tuple (.inl (.inl hb))
    have t:=all xs ys _ _ ws ws' _ _ its its' h ol ol' rv rv'
    by_cases e:a=b
    ·subst e;exact SeqAt.EqAt.same _
    ·refine SeqAt.EqAt.of_refs e ?_
     have z:=SeqAt.RcAt.tuples (A:=A) (s:=s) (l:=a) (b:=b) (items:=its.toArray) (items2:=its'.toArray) (e:=fun _=>true) ⟨ob,e1,e2,nn,e4⟩ ⟨ob',e1',e2',nn',e4'⟩ (by omega) (fun j h1 h2=>by simpa using t.2 j (by simpa using h1) (by simpa using h2))
     have z2:((its.toArray.size == its'.toArray.size):Bool)=true:=by simpa using t.1
     rwa [all_trueE fun _ _=>rfl,z2] at z
   | _=>cases h
  | scr ns=>cases y <;> cases h
  | dct _=>cases y <;> cases h
  | exn _=>cases y <;> cases h
theorem same_all {pins:List (Addr×Obj)}{s:Shared}{Z Z':Addr→Prop} (I:L2.Inv X pins σ H s) {A:Around} (hu:A.units + 64 < cLine):∀ (xs ys:List PV) (d e:Nat) (vs ws:List V) (f1 f2:List Addr) (us us':List Value),sameL (sameE 20) xs ys=true→OwnL X.K H Z xs d vs f1→OwnL X.K H Z' ys e ws f2→Vals vs us→Vals ws us'→us.length=us'.length∧∀ j (h1:j < us.length) (h2:j < us'.length),SeqAt.EqAt A.in1 s us[j] us'[j] true:=fun xs=>by
 induction xs with
 | nil=>
  intro ys d e vs ws f1 f2 us us' h o1 o2 r1 r2
  cases ys with
  | cons _ _=>cases h
  | nil=>
   rw [OwnL] at o1 o2
   obtain ⟨rfl,_⟩:=o1
   obtain ⟨rfl,_⟩:=o2
   cases r1
   cases r2
   exact ⟨rfl,fun j h1 _=>nomatch h1⟩
 | cons x xs ih=>
  intro ys d e vs ws f1 f2 us us' h o1 o2 r1 r2
  cases ys with
  | nil=>cases h
  | cons y ys=>
   unfold sameL at h
   rw [Bool.and_eq_true] at h
   rw [OwnL] at o1 o2
   obtain ⟨_,_,g1,g2,rfl,_,_,p1,p2⟩:=o1
   obtain ⟨_,_,k1,k2,rfl,_,_,q1,q2⟩:=o2
   cases r1 with
   | cons a1 a2=>
    cases r2 with
    | cons b1 b2=>
     have t:=ih ys d e _ _ g2 k2 _ _ h.2 p2 q2 a2 b2
     refine ⟨congrArg (·+ 1) t.1,fun j h1 h2=>?_⟩
     cases j with
     | zero=>exact same_eq I 20 x y d e _ _ g1 k1 _ _ A.in1 (by have e:A.in1.units=A.units + 1:=rfl;omega) h.1 p1 q1 a1 b1
     | succ j=>exact t.2 j (Nat.lt_of_succ_lt_succ h1) (Nat.lt_of_succ_lt_succ h2)
theorem same_top {pins:List (Addr×Obj)}{s:Shared}{Z Z':Addr→Prop} (I:L2.Inv X pins σ H s) {xs ys:List PV}{d e:Nat}{v w:V}{f1 f2:List Addr}{u u':Value}{A:Around} (hu:A.units + 64 < cLine) (h:sameL (sameE 20) xs ys=true) (o1:Own X.K H Z (.lst xs) d v f1) (o2:Own X.K H Z' (.lst ys) e w f2) (r1:RelV v u) (r2:RelV w u'):SeqAt.RcAt A s u u' true∧SeqAt.RcNeAt A s u u' false:=by
 obtain ⟨a,ws,d',f,rfl,ha,ol⟩:=own_lstE o1
 obtain ⟨b,ws',e',f',rfl,hb,ol'⟩:=own_lstE o2
 cases r1
 cases r2
 obtain ⟨its,rv,⟨ob,nn,e1,e2,e3,e4⟩,_⟩:=I.list (.inl (.inl ha))
 obtain ⟨its',rv',⟨ob',nn',e1',e2',e3',e4'⟩,_⟩:=I.list (.inl (.inl hb))
 have t:=same_all I hu xs ys d' e' ws ws' f f' its its' h ol ol' rv rv'
 have z:=SeqAt.RcAt.lists (A:=A) (s:=s) (l:=a) (b:=b) (items:=its.toArray) (items2:=its'.toArray) (e:=fun _=>true) ⟨ob,e1,e2,nn,e4⟩ ⟨ob',e1',e2',nn',e4'⟩ (by simpa using t.1) (by omega) (fun j h1 h2=>by simpa using t.2 j (by simpa using h1) (by simpa using h2))
 have z':=SeqAt.RcNeAt.lists (A:=A) (s:=s) (l:=a) (b:=b) (items:=its.toArray) (items2:=its'.toArray) (e:=fun _=>true) ⟨ob,e1,e2,nn,e4⟩ ⟨ob',e1',e2',nn',e4'⟩ (by simpa using t.1) (by omega) (fun j h1 h2=>by simpa using t.2 j (by simpa using h1) (by simpa using h2))
 rw [all_trueE fun _ _=>rfl] at z z'
 exact ⟨z,z'⟩
theorem same_topT {pins:List (Addr×Obj)}{s:Shared}{Z Z':Addr→Prop} (I:L2.Inv X pins σ H s) {xs ys:List PV}{d e:Nat}{v w:V}{f1 f2:List Addr}{u u':Value}{A:Around} (hu:A.units + 64 < cLine) (h:sameL (sameE 20) xs ys=true) (o1:Own X.K H Z (.tup xs) d v f1) (o2:Own X.K H Z' (.tup ys) e w f2) (r1:RelV v u) (r2:RelV w u'):SeqAt.RcAt A s u u' true∧SeqAt.RcNeAt A s u u' false:=by
 rw [Own] at o1
 rw [Own] at o2
 obtain ⟨a,ws,rfl,ha,ol⟩:=o1
 obtain ⟨b,ws',rfl,hb,ol'⟩:=o2
 cases r1
 cases r2
 obtain ⟨its,rv,⟨ob,e1,e2,nn,e4⟩,_⟩:=I.tuple (.inl (.inl ha))
 obtain ⟨its',rv',⟨ob',e1',e2',nn',e4'⟩,_⟩:=I.tuple (.inl (.inl hb))
 have t:=same_all I hu xs ys _ _ ws ws' _ _ its its' h ol ol' rv rv'
 have z:=SeqAt.RcAt.tuples (A:=A) (s:=s) (l:=a) (b:=b) (items:=its.toArray) (items2:=its'.toArray) (e:=fun _=>true) ⟨ob,e1,e2,nn,e4⟩ ⟨ob',e1',e2',nn',e4'⟩ (by omega) (fun j h1 h2=>by simpa using t.2 j (by simpa using h1) (by simpa using h2))
 have z':=SeqAt.RcNeAt.tuples (A:=A) (s:=s) (l:=a) (b:=b) (items:=its.toArray) (items2:=its'.toArray) (e:=fun _=>true) ⟨ob,e1,e2,nn,e4⟩ ⟨ob',e1',e2',nn',e4'⟩ (by omega) (fun j h1 h2=>by simpa using t.2 j (by simpa using h1) (by simpa using h2))
 have z2:((its.toArray.size == its'.toArray.size):Bool)=true:=by simpa using t.1
 rw [all_trueE fun _ _=>rfl,z2] at z z'
 exact ⟨z,z'⟩
theorem len_top {pins:List (Addr×Obj)}{s:Shared}{Z Z':Addr→Prop} (I:L2.Inv X pins σ H s) {xs ys:List PV}{d e:Nat}{v w:V}{f1 f2:List Addr}{u u':Value}{A:Around} (hu:A.units + 64 < cLine) (h:xs.length≠ys.length) (o1:Own X.K H Z (.lst xs) d v f1) (o2:Own X.K H Z' (.lst ys) e w f2) (r1:RelV v u) (r2:RelV w u'):SeqAt.RcAt A s u u' false∧SeqAt.RcNeAt A s u u' true:=by
 obtain ⟨a,ws,d',f,rfl,ha,ol⟩:=own_lstE o1
 obtain ⟨b,ws',e',f',rfl,hb,ol'⟩:=own_lstE o2
 cases r1
 cases r2
 obtain ⟨its,rv,⟨ob,nn,e1,e2,e3,e4⟩,_⟩:=I.list (.inl (.inl ha))
 obtain ⟨its',rv',⟨ob',nn',e1',e2',e3',e4'⟩,_⟩:=I.list (.inl (.inl hb))
 have hl:(its.toArray.size != its'.toArray.size)=true:=by
  have h1:=rv.length
  have h2:=rv'.length
  rw [ol.length] at h1
  rw [ol'.length] at h2
  simp only [List.size_toArray,bne_iff_ne]
  omega
 exact ⟨SeqAt.RcAt.lists_lengths ⟨ob,e1,e2,nn,e4⟩ ⟨ob',e1',e2',nn',e4'⟩ hl (by omega),SeqAt.RcNeAt.lists_lengths ⟨ob,e1,e2,nn,e4⟩ ⟨ob',e1',e2',nn',e4'⟩ hl (by omega)⟩
theorem emp_top {pins:List (Addr×Obj)}{s:Shared}{Z Z':Addr→Prop} (I:L2.Inv X pins σ H s) {d e:Nat}{v w:V}{f1 f2:List Addr}{u u':Value}{A:Around} (hu:A.units < cLine) (o1:Own X.K H Z .emp d v f1) (o2:Own X.K H Z' .emp e w f2) (r1:RelV v u) (r2:RelV w u'):SeqAt.RcAt A s u u' true∧SeqAt.RcNeAt A s u u' false:=by
 rw [Own] at o1
 rw [Own] at o2
 obtain ⟨_,a,rfl,ha⟩:=o1
 obtain ⟨_,b,rfl,hb⟩:=o2
 cases r1
 cases r2
 obtain ⟨_,z1,vs,k1,d1⟩:=dk_of I.hok ha
 obtain ⟨_,z2,ws,k2,d2⟩:=dk_of I.hok hb
 cases k1
 cases k2
 exact ⟨fun prog w E Q hq=>PySem.W.keq_eq (knd:=mixKind prog w) (r:=true) z1 z2 (dK_any d1) (dK_any d2) hu (fun _=>.nil) (by simpa using hq),fun prog w E Q hq=>PySem.W.keq_ne (knd:=mixKind prog w) (r:=true) z1 z2 (dK_any d1) (dK_any d2) hu (fun _=>.nil) (by simpa using hq)⟩
def rEqD (K:Frag) (neg:Bool):R2:=fun v w H Q=>∃ x y d e Z Z' f1 f2,Own K H Z x d v f1∧Own K H Z' y e w f2∧((∃ a b,toD 20 x=some a∧toD 20 y=some b∧Q (.bl (neg^^PyData.eqv a b)) H)∨(∃ xs ys,x=.lst xs∧y=.lst ys∧sameL (sameE 20) xs ys=true∧Q (.bl (neg^^true)) H)∨(∃ xs ys,x=.lst xs∧y=.lst ys∧xs.length≠ys.length∧Q (.bl (neg^^false)) H)∨(∃ a b,x=.str a∧y=.str b∧Q (.bl (neg^^(a == b))) H)∨(x=.emp∧y=.emp∧Q (.bl (neg^^true)) H)∨∃ xs ys,x=.tup xs∧y=.tup ys∧sameL (sameE 20) xs ys=true∧Q (.bl (neg^^true)) H)
theorem op_eqD (hu:X.A.units + 64 < cLine):OpR X (compareOp .Eq) (rEqD X.K false):=by
 intro pins s σ H v w u u' Q I rx ry h
 obtain ⟨x,y,d,e,Z,Z',f1,f2,o1,o2,⟨a,b,h1,h2,q⟩ | ⟨xs,ys,rfl,rfl,h,q⟩ | ⟨xs,ys,rfl,rfl,h,q⟩ | ⟨a,b,rfl,rfl,q⟩ | ⟨rfl,rfl,q⟩ | ⟨xs,ys,rfl,rfl,h,q⟩⟩:=h
 ·obtain ⟨as,ra⟩:=reads_of I 20 x d v f1 u a h1 o1 rx
  obtain ⟨bs,rb⟩:=reads_of I 20 y e w f2 u' b h2 o2 ry
  have l1:=toD_lay 20 x a h1
  have l2:=toD_lay 20 y b h2
  exact SeqAt.compareEq_reads ra rb l1.1 l2.1 (by have:=Nat.min_le_left a.depth b.depth;omega) ⟨.bl _,H,I,rfl,by simpa using q⟩
 ·exact (same_top I hu h o1 o2 rx ry).1 _ _ _ _ ⟨.bl _,H,I,rfl,q⟩
 ·exact (len_top I hu h o1 o2 rx ry).1 _ _ _ _ ⟨.bl _,H,I,rfl,q⟩
 ·rw [Own] at o1 o2
  obtain ⟨rfl,_⟩:=o1
  obtain ⟨rfl,_⟩:=o2
  obtain ⟨t,rfl⟩:=rx
  obtain ⟨t',rfl⟩:=ry
  exact SeqAt.RcAt.str_str a t b t' _ _ _ _ ⟨.bl _,H,I,rfl,by simpa using q⟩
 ·exact (emp_top I (by omega) o1 o2 rx ry).1 _ _ _ _ ⟨.bl _,H,I,rfl,q⟩
 ·exact (same_topT I hu h o1 o2 rx ry).1 _ _ _ _ ⟨.bl _,H,I,rfl,q⟩
theorem op_neD (hu:X.A.units + 64 < cLine):OpR X (compareOp .NotEq) (rEqD X.K true):=by
 intro pins s σ H v w u u' Q I rx ry h
 obtain ⟨x,y,d,e,Z,Z',f1,f2,o1,o2,⟨a,b,h1,h2,q⟩ | ⟨xs,ys,rfl,rfl,h,q⟩ | ⟨xs,ys,rfl,rfl,h,q⟩ | ⟨a,b,rfl,rfl,q⟩ | ⟨rfl,rfl,q⟩ | ⟨xs,ys,rfl,rfl,h,q⟩⟩:=h
 ·obtain ⟨as,ra⟩:=reads_of I 20 x d v f1 u a h1 o1 rx
  obtain ⟨bs,rb⟩:=reads_of I 20 y e w f2 u' b h2 o2 ry
  have l1:=toD_lay 20 x a h1
  have l2:=toD_lay 20 y b h2
  exact SeqAt.compareNe_reads ra rb l1.1 l2.1 (by have:=Nat.min_le_left a.depth b.depth;omega) ⟨.bl _,H,I,rfl,by simpa using q⟩
 ·exact (same_top I hu h o1 o2 rx ry).2 _ _ _ _ ⟨.bl _,H,I,rfl,q⟩
 ·exact (len_top I hu h o1 o2 rx ry).2 _ _ _ _ ⟨.bl _,H,I,rfl,q⟩
 ·rw [Own] at o1 o2
  obtain ⟨rfl,_⟩:=o1
  obtain ⟨rfl,_⟩:=o2
  obtain ⟨t,rfl⟩:=rx
  obtain ⟨t',rfl⟩:=ry
  exact SeqAt.RcNeAt.str_str a t b t' _ _ _ _ ⟨.bl _,H,I,rfl,by simpa using q⟩
 ·exact (emp_top I (by omega) o1 o2 rx ry).2 _ _ _ _ ⟨.bl _,H,I,rfl,q⟩
 ·exact (same_topT I hu h o1 o2 rx ry).2 _ _ _ _ ⟨.bl _,H,I,rfl,q⟩
theorem leaf_eqD {neg:Bool}{x y z:PV}{d e c:Nat}{v w:V}{fps:Fps}{f1 f2 F:List Addr}{Z Z':Addr→Prop} (hK:M.K=X.K) (ho:opEq neg x d y e=some (z,c)) (o1:Own M.K H Z x d v f1) (o2:Own M.K H Z' y e w f2) (lf:Leaf M H fps vs F z c Q):rEqD X.K neg v w H Q:=by
 rw [hK] at o1 o2
 refine ⟨x,y,d,e,Z,Z',f1,f2,o1,o2,?_⟩
 unfold opEq at ho
 split at ho
 ·rename_i a b ea eb
  cases ho
  exact .inl ⟨a,b,ea,eb,leaf_bl lf⟩
 ·split at ho
  ·rename_i xs ys _
   split at ho
   ·rename_i hc
    cases ho
    exact .inr (.inl ⟨xs,ys,rfl,rfl,hc,leaf_bl lf⟩)
   ·split at ho
    ·rename_i hc
     cases ho
     exact .inr (.inr (.inl ⟨xs,ys,rfl,rfl,hc,leaf_bl lf⟩))
    ·cases ho
  ·rename_i a b _
   cases ho
   exact .inr (.inr (.inr (.inl ⟨a,b,rfl,rfl,leaf_bl lf⟩)))
  ·cases ho
   exact .inr (.inr (.inr (.inr (.inl ⟨rfl,rfl,leaf_bl lf⟩))))
  ·rename_i xs ys _
   split at ho
   ·rename_i hc
    cases ho
    exact .inr (.inr (.inr (.inr (.inr ⟨xs,ys,rfl,rfl,hc,leaf_bl lf⟩))))
   ·cases ho
  ·cases ho
def opIdx:PV→Nat→PV→Nat→Option (PV×Nat)
 | .lst xs,_,.int i,_=>(atI xs i).map fun z=>(z,dv z)
 | .tup xs,_,.int i,_=>(atI xs i).map fun z=>(z,dv z)
 | .scr ns,_,.int i,_=>(atI ns i).map fun z=>(.int z,om)
 | .str z,_,.int i,_=>if z.length≤sizeLine then (atI z.cps.toList i).map fun c=>(.str ⟨#[c]⟩,om) else none
 | _,_,_,_=>none
theorem atI_own {K:Frag}{Z:Addr→Prop}{xs:List PV}{ws:List V}{i:Int}{z:PV} (ol:OwnL K H Z xs 0 ws []) (e:atI xs i=some z):∃ w,atI ws i=some w∧Own K H Z z 0 w []:=by
 unfold atI at e ⊢
 rw [ol.length]
 cases ej:ixN xs.length i with
 | none=>rw [ej] at e;cases e
 | some j=>rw [ej] at e;exact ol.nth e
theorem se_idx (hv:∀ i∈vs,M.Ms i=false) (hK:M.K=X.K) (hs:PlainIx b) (ha:PE X a (tE M f vs)) (hb:PE X b (tE M g vs')):PE X (.Subscript a b pos) (tE M (bBin opIdx f g) (vs++vs')):=by
 refine pe_imp (pe_ix ix_seq ha hb hs) fun σ H Q h=>tE_bin hv (fun x d y e z c v w H fps f1 f2 Q ho o1 o2 dj nz zd lf=>?_) h
 cases y with
 | int i=>
  rw [Own] at o2
  cases x with
  | lst xs=>
   dsimp only [opIdx] at ho
   obtain ⟨z',ez,e2⟩:=Option.map_eq_some_iff.mp ho
   cases e2
   obtain ⟨p,ws,rfl,hp,ol⟩:=(cold o1 fun a ha=>nz a (List.mem_append_left _ ha)).coldL
   obtain ⟨w',e1,ow⟩:=atI_own ol ez
   exact .inl ⟨p,ws,i,w',rfl,o2.1,.inl (.inl hp),e1,leaf_view lf ow⟩
  | tup xs=>
   dsimp only [opIdx] at ho
   obtain ⟨z',ez,e2⟩:=Option.map_eq_some_iff.mp ho
   cases e2
   obtain ⟨p,ws,rfl,hp,ol⟩:=(cold o1 fun a ha=>nz a (List.mem_append_left _ ha)).coldT
   obtain ⟨w',e1,ow⟩:=atI_own ol ez
   exact .inr (.inl ⟨p,ws,i,w',rfl,o2.1,.inl (.inl hp),e1,leaf_view lf ow⟩)
  | scr ns=>
   dsimp only [opIdx] at ho
   obtain ⟨z',ez,e2⟩:=Option.map_eq_some_iff.mp ho
   cases e2
   rw [Own] at o1
   obtain ⟨_,p,rfl,hp⟩:=o1
   refine .inl ⟨p,ns.map V.int,i,.int z',rfl,o2.1,?_,?_,leaf_int lf⟩
   ·rw [← hK]
    exact hp.elim (fun h=>.inl (.inr h)) .inr
   ·unfold atI at ez ⊢
    rw [List.length_map]
    cases ej:ixN ns.length i with
    | none=>rw [ej] at ez;cases ez
    | some j=>
     rw [ej] at ez
     show (ns.map V.int)[j]?=_
     rw [List.getElem?_map]
     have:ns[j]?=some z':=ez
     rw [this];rfl
  | str z=>
   dsimp only [opIdx] at ho
   split at ho
   ·rename_i hl
    obtain ⟨c',ez,e2⟩:=Option.map_eq_some_iff.mp ho
    cases e2
    rw [Own] at o1
    exact .inr (.inr ⟨z,i,c',o1.1,o2.1,hl,ez,leaf_str lf⟩)
   ·cases ho
  | _=>cases ho
 | _=>cases x <;> cases ho
def evO:Option Fx→Rho→Rz (Option Int×Rho)
 | none,ρ=>.ok (none,ρ)
 | some f,ρ=>(f ρ).bind fun (x,_,ρ1)=>match x with
  | .int i=>.ok (some i,ρ1)
  | _=>.no
def cutP (xs:List PV) (lo hi:Option Int):List PV:=(xs.drop (HT.sIx xs.length 0 lo)).take (HT.sIx xs.length xs.length hi - HT.sIx xs.length 0 lo)
def opSl (x:PV) (lo hi:Option Int):Option (PV×Nat):=match x with
 | .lst xs=>some (.lst (cutP xs lo hi),d1 (cutP xs lo hi))
 | _=>none
def bSl (f:Fx) (lo hi:Option Fx):Fx:=fun ρ=>(f ρ).bind fun (x,_,ρ1)=>(evO lo ρ1).bind fun (l,ρ2)=>(evO hi ρ2).bind fun (u,ρ3)=>match opSl x l u with
 | some (z,c)=>.ok (z,c,ρ3)
 | none=>.no
def tO (M:Fm):Option (Fx×List Nat)→TO
 | none=>tNoPart
 | some (f,vs)=>tPart (tE M f vs)
theorem tO_then {o:Option (Fx×List Nat)}{ρ:Rho}{fps:Fps}{R:Option Int→Hp→Prop} (rep:Rep M ρ σ H fps)
  (q:match evO (o.map (·.1)) ρ with
   | .ok (l,ρ')=>∀ H' fps',KD M H fps H' fps'→Agr M ρ ρ'→Rep M ρ' σ H' fps'→R l H'
   | .exc c=>∀ H' fps',KD M H fps H' fps'→M.W σ c H'
   | .no=>False):tO M o σ H R:=by
 cases o with
 | none=>exact q H fps KD.refl Agr.refl rep
 | some p=>
  obtain ⟨f,vs⟩:=p
  refine ⟨ρ,fps,rep,?_⟩
  dsimp only [Option.map,evO] at q
  cases ef:f ρ with
  | no=>rw [ef] at q;exact q
  | exc c=>rw [ef] at q;exact q
  | ok p=>
   obtain ⟨x,d,ρ1⟩:=p
   rw [ef] at q
   intro v H1 fps1 f1 k1 g1 rep1 o1 t1
   dsimp only [Rz.bind] at q
   cases x with
   | int i=>rw [Own] at o1;exact ⟨i,o1.1,q H1 fps1 k1 g1 rep1⟩
   | _=>exact q.elim
theorem tE_sl {lo hi:Option (Fx×List Nat)} (hv:∀ i∈vs,M.Ms i=false) (hK:M.K=X.K) {σ:St}{H:Hp}{Q:VK} (hq:tE M (bSl f (lo.map (·.1)) (hi.map (·.1))) vs σ H Q):tSl (rSlL X.K) (tE M f vs) (tO M lo) (tO M hi) σ H Q:=by
 obtain ⟨ρ,fps,rep,q⟩:=hq
 refine ⟨ρ,fps,rep,?_⟩
 unfold bSl at q
 cases ef:f ρ with
 | no=>rw [ef] at q;exact q
 | exc c=>rw [ef] at q;exact q
 | ok p=>
  obtain ⟨x,d,ρ1⟩:=p
  rw [ef] at q
  intro v H1 fps1 f1 k1 g1 rep1 o1 t1
  dsimp only [Rz.bind] at q
  refine tO_then rep1 ?_
  cases el:evO (lo.map (·.1)) ρ1 with
  | no=>rw [el] at q;exact q
  | exc c=>rw [el] at q;exact fun H' fps' k=>q H' fps' (k1.trans k)
  | ok p2=>
   obtain ⟨l,ρ2⟩:=p2
   rw [el] at q
   intro H2 fps2 k2 g2 rep2
   refine tO_then rep2 ?_
   dsimp only at q
   cases eh:evO (hi.map (·.1)) ρ2 with
   | no=>rw [eh] at q;exact q
   | exc c=>rw [eh] at q;exact fun H' fps' k=>q H' fps' ((k1.trans k2).trans k)
   | ok p3=>
    obtain ⟨u,ρ3⟩:=p3
    rw [eh] at q
    intro H3 fps3 k3 g3 rep3
    dsimp only at q
    have kk:=k2.trans k3
    have o3:=kk.stay rep1 hv o1 t1.ndj
    have n3:∀ a∈f1,¬ Zf M fps3 a:=fun a ha z=>by
     rcases z with z | ⟨i,z⟩
     ·exact t1.ndj a ha (.inl z)
     ·rcases kk.sub i a z with z | z
      ·exact t1.ndj a ha (.inr ⟨i,z⟩)
      ·obtain ⟨xs,e⟩:=Own.lsts x d v f1 o1 a ha
       rw [z] at e;cases e
    have back:∀ a,H3 a=none→H a=none:=fun a e=>by
     cases e':H a with
     | none=>rfl
     | some o=>exact absurd e ((k1.trans kk).dom a (by rw [e'];simp))
    cases eo:opSl x l u with
    | none=>rw [eo] at q;exact q.elim
    | some zc=>
     obtain ⟨z,c⟩:=zc
     rw [eo] at q
     have lf:Leaf M H3 fps3 vs f1 z c Q:=fun w H4 fp k4 o4 hfp=>q w H4 fps3 fp ((k1.trans kk).trans (KD.grow k4)) (g1.trans (g2.trans g3)) (rep3.grow k4) o4 ⟨fun a ha=>(hfp a ha).elim (t1.new a) (back a),fun a ha=>(hfp a ha).elim (n3 a) fun z=>rep3.nz z⟩
     have c0:=cold o3 n3
     unfold opSl at eo
     cases x with
     | lst xs=>
      cases eo
      obtain ⟨p,ws,rfl,hp,ol⟩:=c0.coldL
      refine ⟨p,ws,rfl,.inl (.inl hp),fun q hq=>?_⟩
      have e:OwnL M.K H3 (Zv M vs fps3) (cutP xs l u) 0 (cutV ws l u) []:=by
       unfold cutP cutV
       rw [ol.length]
       exact (ol.drop _).take _
      exact leaf_listD lf e hq
     | _=>cases eo
def tyName:PV→String
 | .non => "NoneType"
 | .bl _ => "bool"
 | .int _ => "int"
 | .str _ => "str"
 | .lst _ => "list"
 | .tup _ => "tuple"
 | .emp => "dict"
 | .dko => "dict"
 | .dct _ => "dict"
 | _ => ""
def isiB (t T:String):Bool:=t == T || (t == "bool" && T == "int")
def isiT:List String:=["int","bool","str","list","tuple","dict"]
def opIsi (T:String) (x:PV) (_:Nat):Option (PV×Nat):=match x with
 | .scr _=>none
 | .exn _=>none
 | _=>some (.bl (isiB (tyName x) T),om)
theorem Own.ty {K:Frag}{Z:Addr→Prop}{x:PV}{d:Nat}{v:V}{fp:List Addr} (h:Own K H Z x d v fp) (hs:∀ ns,x≠.scr ns) (hx:∀ c,x≠.exn c):TyOf K H v (.type (tyName x)):=by
 cases x with
 | non=>rw [Own] at h;rw [h.1];exact .non
 | bl b=>rw [Own] at h;rw [h.1];exact .bl b
 | int i=>rw [Own] at h;rw [h.1];exact .int i
 | str s=>rw [Own] at h;rw [h.1];exact .str s
 | emp=>rw [Own] at h;obtain ⟨_,a,e,ha⟩:=h;rw [e];exact .dK ha
 | dko=>rw [Own] at h;obtain ⟨_,a,e,_,ha⟩:=h;rw [e];exact .dK ha
 | scr ns=>exact absurd rfl (hs ns)
 | exn c=>exact absurd rfl (hx c)
 | dct kvs=>
  rw [Own] at h
  obtain ⟨a,e,⟨_,hr,_⟩ | ⟨_,ha,_⟩⟩:=h
  ·rw [e];exact .dT hr.1
  ·rw [e];exact .dT ha
 | lst xs=>
  rw [Own] at h
  obtain ⟨a,ws,e,⟨_,hr,_,_⟩ | ⟨_,f,ha,_⟩⟩:=h
  ·rw [e];exact .lst hr.1
  ·rw [e];exact .lst ha
 | tup xs=>
  rw [Own] at h
  obtain ⟨a,ws,e,hr,_⟩:=h
  rw [e];exact .tup hr
end
open PySem PySem.Spec PyProof.Rows L2
section
variable {X:Cx}{M:Fm}{a b:Expr}{f g:Fx}{fa:Fa}{vs vs':List Nat}{pos p:Pos}{σ:St}{H:Hp}{Q:VK}{e:Expr}{es:List Expr}
theorem sa_nil:PA X [] (tL M aNil []):=pa_imp pa_nil fun σ H Q h=>tL_nil h
theorem sa_cons (hv:∀ i∈vs,M.Ms i=false) (ha:PE X e (tE M f vs)) (hr:PA X es (tL M fa vs')) (hs:starEach (e::es) X.env=(false,eval e X.env)::starEach es X.env):PA X (e::es) (tL M (aCons f fa) (vs++vs')):=
 pa_imp (pa_cons ha hr hs) fun σ H Q h=>tL_cons hv h
theorem tCB_then {op:List (PV×Nat)→Option (PV×Nat)}{r:List V→Hp→VK→Prop}
  (leaf:∀ xs z c ws H fps fp Q,op xs=some (z,c)→Tmps M.K H (Zv M vs fps) xs ws fp→(∀ a∈fp,¬ Zf M fps a)→(∀ a,Zf M fps a→H a≠none)→Leaf M H fps vs fp z c Q→r ws H Q)
  {σ:St}{H:Hp}{Q:VK} (hq:tE M (bArgs op fa) vs σ H Q):tCB r (tL M fa vs) σ H Q:=tL_then leaf hq
def opLst (xs:List (PV×Nat)):Option (PV×Nat):=if xs.length≤sizeLine then some (.lst (xs.map (·.1)),if allOm xs then om else 1) else none
def opTup (xs:List (PV×Nat)):Option (PV×Nat):=if xs.length≤sizeLine then some (.tup (xs.map (·.1)),if allOm xs then om else 0) else none
theorem se_lst (h:PA X es (tL M fa vs)):PE X (.List es pos) (tE M (bArgs opLst fa) vs):=by
 refine pe_imp (pe_lst h) fun σ H Q h=>tL_then (r:=fun xs H1 Q=>xs.length≤sizeLine∧∀ p,H1 p=none→Q (.ref p) (upd H1 p (.lst xs))) (fun xs z c ws H fps fp Q ho tm nz zd lf=>?_) h
 unfold opLst at ho
 split at ho
 ·rename_i hl
  refine ⟨by rw [tm.length];exact hl,fun q hq=>?_⟩
  cases eo:allOm xs with
  | true=>rw [eo] at ho;cases ho;exact leaf_listF lf (tm.all (allOm_iff eo)) hq
  | false=>rw [eo] at ho;cases ho;exact leaf_list lf (tm.cold fun a ha z=>nz a ha z.zf) hq
 ·cases ho
theorem se_tup {x1:_} (h:PA X es (tL M fa vs)):PE X (.Tuple es x1 pos) (tE M (bArgs opTup fa) vs):=by
 refine pe_imp (pe_tup h) fun σ H Q h=>tL_then (r:=fun xs H1 Q=>xs.length≤sizeLine∧∀ p,H1 p=none→Q (.ref p) (upd H1 p (.tup xs))) (fun xs z c ws H fps fp Q ho tm nz zd lf=>?_) h
 unfold opTup at ho
 split at ho
 ·rename_i hl
  refine ⟨by rw [tm.length];exact hl,fun q hq=>?_⟩
  cases eo:allOm xs with
  | true=>rw [eo] at ho;cases ho;exact leaf_tupF lf (tm.all (allOm_iff eo)) hq
  | false=>rw [eo] at ho;cases ho;exact leaf_tup lf (tm.cold fun a ha z=>nz a ha z.zf) hq
 ·cases ho
theorem Inv.big {pins:List (Addr×Obj)}{s:Shared} (I:L2.Inv X pins σ H s):sysModules < s.heap.objs.size:=by
 have h:mainGlobals < s.heap.objs.size:=(I.mod.glob.keeps I.bk).lt
 exact Nat.lt_trans (by decide) h
theorem pe_dnew:PE X (.Dict [] [] pos) (fun _ H Q=>∀ p,H p=none→Q (.ref p) (upd H p (.dK []))):=fun pins s σ H Q I h=>
 wpAny_Dict_empty ⟨.ref s.heap.objs.size,_,I.laid (a:=s.heap.objs.size) (o:=.dK []) (t':=s.toks) (fun _ _ q=>Heap.get?_push_of_some _ q) (Nat.le_refl _) ⟨Nat.zero_le _,beq_eq_false_iff_ne.mpr (Ne.symm (Nat.ne_of_lt (Inv.big I))),[],.nil,Heap.DictOf.new s.heap⟩,rfl,h _ (I.hok.fresh (Nat.le_refl _))⟩
theorem se_emp:PE X (.Dict [] [] pos) (tE M (bC .emp) []):=by
 refine pe_imp pe_dnew fun σ H Q h p hp=>?_
 obtain ⟨ρ,fps,rep,q⟩:=h
 refine q (.ref p) _ fps [] (KD.grow (upd_keep hp)) Agr.refl (rep.grow (upd_keep hp)) ?_ ⟨fun _ z=>(nomatch z),fun _ z=>nomatch z⟩
 rw [Own]
 exact ⟨rfl,p,rfl,upd_same⟩
def bDk (i:Nat):Fx:=fun ρ=>match ρ[i]? with
 | some (some _)=>.ok (.dko,om,ρ)
 | _=>.no
theorem se_dk {x:Str}{i:Nat}{c:Int}{j1:Nat}{p1 p2:Pos} (hx:PE X (.Name x p2) (tVar i)):PE X (.Dict [some (.Constant (.int c) j1 p1)] [.Name x p2] pos) (tE M (bDk i) []):=by
 refine pe_imp (pe_disp (pps_cons pe_int hx pps_nil) rfl rfl (fun e=>nomatch e) (Nat.succ_le_succ (Nat.zero_le _))) fun σ H Q h p hp=>?_
 obtain ⟨ρ,fps,rep,q⟩:=h
 unfold bDk at q
 cases e:ρ[i]? with
 | none=>rw [e] at q;exact q.elim
 | some s=>
  rw [e] at q
  cases s with
  | none=>exact q.elim
  | some y=>
   obtain ⟨v,hσ,_⟩:=rep.own i _ _ e
   refine ⟨v,hσ,upd_same,[(.inl c,v)],rfl,Nat.succ_le_succ (Nat.zero_le _),?_⟩
   have kk:∀ a o,H a=some o→upd (upd H p (.dK [])) p (.dK (mergeK [] [(.inl c,v)])) a=some o:=fun a o h=>by
    have ne:a≠p:=fun e=>by rw [e,hp] at h;cases h
    rw [upd_ne ne,upd_ne ne];exact h
   refine q (.ref p) _ fps [] (KD.grow kk) Agr.refl (rep.grow kk) ?_ ⟨fun _ z=>(nomatch z),fun _ z=>nomatch z⟩
   rw [Own]
   exact ⟨rfl,p,rfl,_,upd_same⟩
theorem call_isi:CallR X (.builtin "isinstance") (fun xs H Q=>∃ x t T k,xs=[x,.ty T]∧TyOf X.K H x t∧PySem.W.kitOne X.K t (.type T)=some k∧Q (.bl k) H):=by
 intro pins s σ H xs us Q I r h
 obtain ⟨x,t,T,k,rfl,ty,hk,q⟩:=h
 obtain ⟨u,w,rfl,r1,r2⟩:=vals2 r
 cases r2
 exact isinst_ok I r1 ty hk fun tk=>⟨.bl k,H,I.tok _,rfl,q⟩
theorem kit_ok (K:Frag) {T:String} (hT:T∈isiT) (x:PV) (hs:∀ ns,x≠.scr ns) (hx:∀ c,x≠.exn c):PySem.W.kitOne K (.type (tyName x)) (.type T)=some (isiB (tyName x) T):=by
 simp only [isiT,List.mem_cons,List.not_mem_nil,or_false] at hT
 cases x with
 | scr ns=>exact absurd rfl (hs ns)
 | exn c=>exact absurd rfl (hx c)
 | _=>rcases hT with h | h | h | h | h | h <;> subst h <;> rfl
theorem se_isi {T:String}{x T':Str}{p1 p2:Pos} (hT:T∈isiT) (hK:M.K=X.K) (ha:PE X e (tE M f vs)) (hg:Gl X "isinstance") (hm:X.mg "isinstance" = none) (hT':PE X (.Name T' p2) (tC (.ty T)))
  (hs1:starEach [e,.Name T' p2] X.env=[(false,eval e X.env),(false,eval (.Name T' p2) X.env)]) (hs2:starEach [Expr.Name T' p2] X.env=[(false,eval (.Name T' p2) X.env)]):
  PE X (.Call (.Name "isinstance" p1) [e,.Name T' p2] [] pos) (tE M (bUn (opIsi T) f) vs):=by
 refine pe_imp (pe_callB call_isi hg hm rfl (pa_cons ha (pa_cons hT' pa_nil hs2) (by rw [hs1,hs2])) (he:=by rw [hs1,hs2]) (hpl:=by rw [hs2];rfl)) fun σ H Q h=>?_
 refine tE_un (r:=fun v H Q=>∃ x t T' k,[v,.ty T]=[x,.ty T']∧TyOf X.K H x t∧PySem.W.kitOne X.K t (.type T')=some k∧Q (.bl k) H) (fun x d z c v H fps f1 Q ho o1 nz zd lf=>?_) h
 have hs:∀ ns,x≠.scr ns:=fun ns e=>by subst e;cases ho
 have hx:∀ c,x≠.exn c:=fun c e=>by subst e;cases ho
 have e2:z=.bl (isiB (tyName x) T):=by
  cases x with
  | scr ns=>cases ho
  | exn c=>cases ho
  | _=>cases ho;rfl
 subst e2
 exact ⟨v,_,T,_,rfl,by rw [← hK];exact o1.ty hs hx,kit_ok X.K hT x hs hx,leaf_bl lf⟩
def opLen:List (PV×Nat)→Option (PV×Nat)
 | [(.lst xs,_)]=>some (.int xs.length,om)
 | [(.tup xs,_)]=>some (.int xs.length,om)
 | [(.scr ns,_)]=>some (.int ns.length,om)
 | [(.str z,_)]=>if z.length≤sizeLine then some (.int z.length,om) else none
 | _=>none
theorem se_len (hK:M.K=X.K) (hg:Gl X "len") (hm:X.mg "len" = none) (ha:PA X (e::es) (tL M fa vs)) (he:starEach (e::es) X.env=(false,eval e X.env)::starEach es X.env) (hpl:(backTo pos (starEach es X.env)).any (·.1)=false):
  PE X (.Call (.Name "len" p) (e::es) [] pos) (tE M (bArgs opLen fa) vs):=by
 refine pe_imp (pe_callB (call_len_seq.or call_len_str) hg hm PySem.boot_len ha (he:=he) (hpl:=hpl)) fun σ H Q h=>tCB_then (fun xs z c ws H fps fp Q ho tm nz zd lf=>?_) h
 unfold opLen at ho
 split at ho
 ·rename_i xs d
  cases ho
  obtain ⟨v,r,f1,f2,rfl,_,_,o1,h2⟩:=tm
  obtain ⟨rfl,_⟩:=h2
  obtain ⟨q,us,rfl,hs,hl⟩:=o1.seqL
  exact .inl ⟨q,us,rfl,.inl (by rw [← hK];exact hs),by rw [hl];exact leaf_int lf⟩
 ·rename_i xs d
  cases ho
  obtain ⟨v,r,f1,f2,rfl,_,_,o1,h2⟩:=tm
  obtain ⟨rfl,_⟩:=h2
  obtain ⟨q,us,rfl,hs,hl⟩:=o1.seqT
  exact .inl ⟨q,us,rfl,.inr (by rw [← hK];exact hs),by rw [hl];exact leaf_int lf⟩
 ·rename_i ns d
  cases ho
  obtain ⟨v,r,f1,f2,rfl,_,_,o1,h2⟩:=tm
  obtain ⟨rfl,_⟩:=h2
  rw [Own] at o1
  obtain ⟨_,q,rfl,hp⟩:=o1
  refine .inl ⟨q,ns.map V.int,rfl,.inl ?_,by rw [List.length_map];exact leaf_int lf⟩
  rw [← hK]
  exact hp.elim (fun h=>.inl (.inr h)) .inr
 ·rename_i z d
  split at ho
  ·rename_i hl
   cases ho
   obtain ⟨v,r,f1,f2,rfl,_,_,o1,h2⟩:=tm
   obtain ⟨rfl,_⟩:=h2
   rw [Own] at o1
   obtain ⟨rfl,_⟩:=o1
   exact .inr ⟨_,rfl,hl,leaf_int lf⟩
  ·cases ho
 ·cases ho
def op2 (k:Int→Int→Int):List (PV×Nat)→Option (PV×Nat)
 | [(.int i,_),(.int j,_)]=>some (.int (k i j),om)
 | _=>none
theorem leaf_op2 {k:Int→Int→Int}{xs:List (PV×Nat)}{z:PV}{c:Nat}{ws:List V}{fps:Fps}{fp F:List Addr}{Z:Addr→Prop} (ho:op2 k xs=some (z,c)) (tm:Tmps M.K H Z xs ws fp) (lf:Leaf M H fps vs F z c Q):∃ i j,ws=[.int i,.int j]∧Q (.int (k i j)) H:=by
 unfold op2 at ho
 split at ho
 ·rename_i i d j e
  cases ho
  obtain ⟨v,r,f1,f2,rfl,_,_,o1,h2⟩:=tm
  obtain ⟨v2,r2,f3,f4,rfl,_,_,o2,h3⟩:=h2
  obtain ⟨rfl,_⟩:=h3
  rw [Own] at o1 o2
  obtain ⟨rfl,_⟩:=o1
  obtain ⟨rfl,_⟩:=o2
  exact ⟨_,_,rfl,leaf_int lf⟩
 ·cases ho
def opTupC:List (PV×Nat)→Option (PV×Nat)
 | [(.lst xs,_)]=>some (.tup xs,0)
 | [(.tup xs,_)]=>some (.tup xs,0)
 | _=>none
def opLstC:List (PV×Nat)→Option (PV×Nat)
 | [(.lst xs,_)]=>some (.lst xs,d1 xs)
 | [(.tup xs,_)]=>some (.lst xs,d1 xs)
 | _=>none
theorem se_tupC (hK:M.K=X.K) (hg:Gl X "tuple") (hm:X.mg "tuple" = none) (ha:PA X (e::es) (tL M fa vs)) (he:starEach (e::es) X.env=(false,eval e X.env)::starEach es X.env) (hpl:(backTo pos (starEach es X.env)).any (·.1)=false):
  PE X (.Call (.Name "tuple" p) (e::es) [] pos) (tE M (bArgs opTupC fa) vs):=by
 refine pe_imp (pe_callTy call_tuple_of hg hm rfl ha (he:=he) (hpl:=hpl)) fun σ H Q h=>tCB_then (fun xs z c ws H fps fp Q ho tm nz zd lf=>?_) h
 unfold opTupC at ho
 split at ho
 ·rename_i xs d
  cases ho
  obtain ⟨v,r,f1,f2,rfl,rfl,_,o1,h2⟩:=tm
  obtain ⟨rfl,rfl⟩:=h2
  obtain ⟨q,us,rfl,hs,ol⟩:=(cold (fp:=f1) o1 fun a ha=>nz a (List.mem_append_left _ ha)).coldL
  exact ⟨q,us,rfl,.inl ⟨.inl (.inl hs),fun l hl=>leaf_tup lf ol hl⟩⟩
 ·rename_i xs d
  cases ho
  obtain ⟨v,r,f1,f2,rfl,rfl,_,o1,h2⟩:=tm
  obtain ⟨rfl,rfl⟩:=h2
  have c0:=cold (fp:=f1) o1 fun a ha=>nz a (List.mem_append_left _ ha)
  obtain ⟨q,us,rfl,hs,ol⟩:=c0.coldT
  exact ⟨q,us,rfl,.inr ⟨.inl (.inl hs),leaf_view (x:=.tup xs) lf c0⟩⟩
 ·cases ho
theorem se_lstC (hK:M.K=X.K) (hg:Gl X "list") (hm:X.mg "list" = none) (ha:PA X (e::es) (tL M fa vs)) (he:starEach (e::es) X.env=(false,eval e X.env)::starEach es X.env) (hpl:(backTo pos (starEach es X.env)).any (·.1)=false):
  PE X (.Call (.Name "list" p) (e::es) [] pos) (tE M (bArgs opLstC fa) vs):=by
 refine pe_imp (pe_callTy call_list_of hg hm rfl ha (he:=he) (hpl:=hpl)) fun σ H Q h=>tCB_then (fun xs z c ws H fps fp Q ho tm nz zd lf=>?_) h
 unfold opLstC at ho
 split at ho
 ·rename_i xs d
  cases ho
  obtain ⟨v,r,f1,f2,rfl,rfl,_,o1,h2⟩:=tm
  obtain ⟨rfl,rfl⟩:=h2
  obtain ⟨q,us,rfl,hs,ol⟩:=(cold (fp:=f1) o1 fun a ha=>nz a (List.mem_append_left _ ha)).coldL
  exact ⟨q,us,rfl,.inl (.inl (.inl hs)),fun l hl=>leaf_listD lf ol hl⟩
 ·rename_i xs d
  cases ho
  obtain ⟨v,r,f1,f2,rfl,rfl,_,o1,h2⟩:=tm
  obtain ⟨rfl,rfl⟩:=h2
  obtain ⟨q,us,rfl,hs,ol⟩:=(cold (fp:=f1) o1 fun a ha=>nz a (List.mem_append_left _ ha)).coldT
  exact ⟨q,us,rfl,.inr (.inl (.inl hs)),fun l hl=>leaf_listD lf ol hl⟩
 ·cases ho
end
open PySem PySem.Spec PyProof.Rows L2
section
variable {X:Cx}{M:Fm}{a b:Expr}{f g:Fx}{fa:Fa}{vs vs':List Nat}{pos p:Pos}{σ:St}{H:Hp}{Q:VK}{e:Expr}{es:List Expr}
theorem call_all (hc:X.calm=true):CallR X (.builtin "all") (fun xs H Q=>∃ (p:Addr) (bs:List Bool),xs=[.ref p]∧SqL X.K H p (bs.map V.bl)∧Q (.bl (bs.all id)) H):=by
 intro pins s σ H xs us Q I r h
 obtain ⟨p,bs,rfl,hq,q⟩:=h
 obtain ⟨u,rfl,rx⟩:=vals1 r
 cases rx
 obtain ⟨its,rv,pl,hz⟩:=I.list hq
 have hl:=rv.length
 rw [List.length_map] at hl
 refine call_all_walk (wpAny_pyIter_list pl.isList ?_)
 have hlt:p < s.heap.objs.size:=by obtain ⟨o,n,e,_⟩:=pl;exact Heap.lt_size e
 have hne:p≠s.heap.objs.size:=Nat.ne_of_lt hlt
 refine ⟨s.heap.objs.size,_,_,its.toArray.size,_,_,fun i=>bs.getD i true,rfl,Walks.list (A:=X.A.in1) (show X.A.in1.handled=none from I.ok.hd hc) s.heap.objs.size p hne its.toArray,⟨⟨_,Heap.get?_push_size _ rfl,rfl,rfl⟩,?_⟩,?_,fun h' tk k=>?_⟩
 ·exact pl.isList.at fun o e=>Heap.get?_push_of_some _ e
 ·intro i v s' Q' E' hv hq'
  have hv':its[i]?=some v:=by simpa using hv
  have hi:i < bs.length:=by rw [hl];exact (List.getElem?_eq_some_iff.mp hv').1
  obtain ⟨w,e1,e2⟩:=rv.get (i:=i) (x:=.bl bs[i]) (by simp [hi])
  rw [hv'] at e1
  cases e1
  cases e2
  refine wpAny_truthy_bool ?_
  have:bs.getD i true=bs[i]:=by simp [List.getD,hi]
  dsimp only at hq'
  rw [this] at hq'
  exact hq'
 ·have I1:L2.Inv X pins σ H { s with heap:=s.heap.push { cls:=.type "list_iterator",data:=.fields #[.ref p,rawInt 0] } }:=I.kept (t':=s.toks) fun b o e=>Heap.get?_push_of_some _ e
  obtain ⟨f0,f1,f2,f3,f4,f5⟩:=I.fpOk (H':=H) (Nat.le_refl s.heap.objs.size) (I.hok.fresh (Nat.le_refl _))
  have I2:L2.Inv X pins σ H { s with heap:=h',toks:=tk }:=I1.turned (t':=tk) (fun b o hb e=>k b o (by simpa using hb) e) f0 f1 f3 f4 f5
  refine ⟨.bl _,H,I2,rfl,?_⟩
  have e:(List.range its.toArray.size).all (fun i=>bs.getD i true)=bs.all id:=by
   rw [List.size_toArray,← hl]
   rw [Bool.eq_iff_iff]
   simp only [List.all_eq_true,List.mem_range,id]
   constructor
   ·intro h x hx
    obtain ⟨i,hi,rfl⟩:=List.getElem_of_mem hx
    have:=h i hi
    simpa [List.getD,hi] using this
   ·intro h i hi
    simp [List.getD,hi]
    exact h _ (List.getElem_mem hi)
  rw [e]
  exact q
def allB:List PV→Option (List Bool)
 | []=>some []
 | .bl b::r=>(allB r).map (b::·)
 | _=>none
def opAll:List (PV×Nat)→Option (PV×Nat)
 | [(.lst xs,_)]=>(allB xs).map fun bs=>(.bl (bs.all id),om)
 | _=>none
theorem allB_own {K:Frag}{Z:Addr→Prop}:∀ {xs:List PV}{ws:List V}{bs:List Bool},allB xs=some bs→OwnL K H Z xs 0 ws []→ws=bs.map V.bl
 | [],ws,bs,e,h=>by cases e;rw [OwnL] at h;exact h.1
 | .bl b::r,ws,bs,e,h=>by
  obtain ⟨bs',e1,rfl⟩:=Option.map_eq_some_iff.mp e
  rw [OwnL] at h
  obtain ⟨v,s,f1,f2,rfl,ef,dj,h1,h2⟩:=h
  obtain ⟨rfl,rfl⟩:f1=[]∧f2=[]:=by simpa using ef.symm
  rw [Own] at h1
  rw [h1.1,allB_own e1 h2]
  rfl
 | .non::_,_,_,e,_=>by cases e
 | .int _::_,_,_,e,_=>by cases e
 | .str _::_,_,_,e,_=>by cases e
 | .lst _::_,_,_,e,_=>by cases e
 | .tup _::_,_,_,e,_=>by cases e
 | .emp::_,_,_,e,_=>by cases e
 | .dko::_,_,_,e,_=>by cases e
 | .scr _::_,_,_,e,_=>by cases e
 | .dct _::_,_,_,e,_=>by cases e
 | .exn _::_,_,_,e,_=>by cases e
theorem se_all (hc:X.calm=true) (hg:Gl X "all") (hm:X.mg "all" = none) (ha:PA X (e::es) (tL M fa vs)) (he:starEach (e::es) X.env=(false,eval e X.env)::starEach es X.env) (hpl:(backTo pos (starEach es X.env)).any (·.1)=false):
  PE X (.Call (.Name "all" p) (e::es) [] pos) (tE M (bArgs opAll fa) vs):=by
 refine pe_imp (pe_callB (call_all hc) hg hm rfl ha (he:=he) (hpl:=hpl)) fun σ H Q h=>tCB_then (fun xs z c ws H fps fp Q ho tm nz zd lf=>?_) h
 unfold opAll at ho
 split at ho
 ·rename_i xs d
  obtain ⟨bs,eb,e2⟩:=Option.map_eq_some_iff.mp ho
  cases e2
  obtain ⟨v,r,f1,f2,rfl,rfl,_,o1,h2⟩:=tm
  obtain ⟨rfl,rfl⟩:=h2
  obtain ⟨q,us,rfl,hs,ol⟩:=(cold (fp:=f1) o1 fun a ha=>nz a (List.mem_append_left _ ha)).coldL
  have:=allB_own eb ol
  subst this
  exact ⟨q,bs,rfl,.inl (.inl hs),leaf_bl lf⟩
 ·cases ho
def intsOf:List PV→Option (List Int)
 | []=>some []
 | .int i::r=>(intsOf r).map (i::·)
 | _=>none
theorem intsOf_own {K:Frag}{Z:Addr→Prop}:∀ {xs:List PV}{ws:List V}{ns:List Int},intsOf xs=some ns→OwnL K H Z xs 0 ws []→ws=ns.map V.int
 | [],ws,ns,e,h=>by cases e;rw [OwnL] at h;exact h.1
 | .int b::r,ws,ns,e,h=>by
  obtain ⟨ns',e1,rfl⟩:=Option.map_eq_some_iff.mp e
  rw [OwnL] at h
  obtain ⟨v,s,f1,f2,rfl,ef,dj,h1,h2⟩:=h
  obtain ⟨rfl,rfl⟩:f1=[]∧f2=[]:=by simpa using ef.symm
  rw [Own] at h1
  rw [h1.1,intsOf_own e1 h2]
  rfl
 | .non::_,_,_,e,_=>by cases e
 | .bl _::_,_,_,e,_=>by cases e
 | .str _::_,_,_,e,_=>by cases e
 | .lst _::_,_,_,e,_=>by cases e
 | .tup _::_,_,_,e,_=>by cases e
 | .emp::_,_,_,e,_=>by cases e
 | .dko::_,_,_,e,_=>by cases e
 | .scr _::_,_,_,e,_=>by cases e
 | .dct _::_,_,_,e,_=>by cases e
 | .exn _::_,_,_,e,_=>by cases e
theorem ints_items:∀ {ns:List Int}{its:List Value},Vals (ns.map V.int) its→∃ xs:List (Int×Tok),its=xs.map (fun p=>Value.int p.1 p.2)∧xs.map (·.1)=ns
 | [],its,h=>by cases h;exact ⟨[],rfl,rfl⟩
 | n::ns,its,h=>by
  cases h with
  | cons r rr=>
   obtain ⟨t,rfl⟩:=r
   obtain ⟨xs,rfl,rfl⟩:=ints_items rr
   exact ⟨(n,t)::xs,rfl,rfl⟩
theorem call_minL (hc:X.calm=true):CallR X (.builtin "min") (fun xs H Q=>∃ (p:Addr) (ns:List Int),xs=[.ref p]∧SqL X.K H p (ns.map V.int)∧ns≠[]∧∀ m,m∈ns→(∀ a∈ns,m≤a)→Q (.int m) H):=by
 intro pins s σ H xs us Q I r h
 obtain ⟨p,ns,rfl,hq,hn,q⟩:=h
 obtain ⟨u,rfl,rx⟩:=vals1 r
 cases rx
 obtain ⟨its,rv,pl,hz⟩:=I.list hq
 obtain ⟨zs,rfl,rfl⟩:=ints_items rv
 have e:(zs.map fun p=>Value.int p.1 p.2).toArray=intItems zs.toArray:=by simp [intItems]
 rw [e] at pl
 have h0:0 < zs.length:=by
  cases zs with
  | nil=>exact absurd rfl hn
  | cons _ _=>simp
 refine min_intList (I.ok.hd hc) pl.isList (by simpa using h0) fun v h' tk hv k=>?_
 obtain ⟨l1,l2⟩:=argBest_lt (numAt zs.toArray) (zs.toArray.size - 1)
 have hv':=hv
 obtain ⟨t,rfl⟩:=intItems_at hv
 have at':∀ j,j < zs.length→numAt zs.toArray j∈zs.map (·.1):=fun j hj=>by
  unfold numAt
  simp [hj]
  exact ⟨_,List.getElem_mem hj⟩
 refine ⟨.int _,H,I.kept (t':=tk) k,⟨t,rfl⟩,q _ (at' _ ?_) fun a ha=>?_⟩
 ·have:zs.toArray.size=zs.length:=by simp
  omega
 ·obtain ⟨z,hz,rfl⟩:=List.mem_map.mp ha
  obtain ⟨j,hj,rfl⟩:=List.getElem_of_mem hz
  have hzs:zs.toArray.size=zs.length:=by simp
  have:=l2 j (by omega)
  have e:numAt zs.toArray j=zs[j].1:=by unfold numAt;simp [hj]
  rw [e] at this
  exact this
theorem min_intTup {prog:Program}{w:World}{A:Around}{E:Value→Shared→Prop}{s:Shared}{l:Addr}{xs:Array (Int×Tok)}{Q:Value→Shared→Prop} (hh:A.handled=none) (hl:s.heap.IsTuple l (intItems xs)) (hne:0 < xs.size)
  (h:∀ v h' tk,(intItems xs)[argBest (fun i j=>decide (numAt xs i < numAt xs j)) (xs.size - 1)]?=some v→(∀ b o,s.heap.get? b=some o→h'.get? b=some o)→Q v { s with heap:=h',toks:=tk }):
  wpAny (model prog w) A (call (.builtin "min") [.ref l]) Q E s:=by
 have hlt:l < s.heap.objs.size:=by obtain ⟨_,e,_⟩:=hl;exact Heap.lt_size e
 refine call_min_walk (wpAny_pyIter_tuple hl ?_)
 refine ⟨_,[_,l],[_],_,_,_,_,rfl,Walks.tuple (A:=A.in1) hh _ l (Nat.ne_of_lt hlt) (intItems xs),⟨⟨_,Heap.get?_push_size _ rfl,rfl,rfl⟩,hl.push _⟩,fun c hc=>?_,by simpa [intItems] using hne,CmpOf.ints_lt (numAt xs) (fun _ _=>intItems_at),fun v h' tk hP hk=>?_⟩
 ·show c < (s.heap.push _).objs.size
  rw [Heap.size_push]
  rcases List.mem_cons.mp hc with rfl | hc
  ·exact Nat.lt_succ_self _
  ·rcases List.mem_cons.mp hc with rfl | hc
   ·exact Nat.lt_succ_of_lt hlt
   ·cases hc
 ·exact h v h' tk (by simpa [intItems] using hP) fun c o e=>by
   refine hk c o (fun hm=>?_) (Heap.get?_push_of_some _ e)
   rcases List.mem_cons.mp hm with e1 | hm
   ·exact absurd (e1 ▸ Heap.lt_size e) (Nat.lt_irrefl _)
   ·cases hm
theorem call_minT (hc:X.calm=true):CallR X (.builtin "min") (fun xs H Q=>∃ (p:Addr) (ns:List Int),xs=[.ref p]∧SqT X.K H p (ns.map V.int)∧ns≠[]∧∀ m,m∈ns→(∀ a∈ns,m≤a)→Q (.int m) H):=by
 intro pins s σ H xs us Q I r h
 obtain ⟨p,ns,rfl,hq,hn,q⟩:=h
 obtain ⟨u,rfl,rx⟩:=vals1 r
 cases rx
 obtain ⟨its,rv,pl,hz⟩:=I.tuple hq
 obtain ⟨zs,rfl,rfl⟩:=ints_items rv
 have e:(zs.map fun p=>Value.int p.1 p.2).toArray=intItems zs.toArray:=by simp [intItems]
 rw [e] at pl
 have h0:0 < zs.length:=by
  cases zs with
  | nil=>exact absurd rfl hn
  | cons _ _=>simp
 refine min_intTup (I.ok.hd hc) pl (by simpa using h0) fun v h' tk hv k=>?_
 obtain ⟨l1,l2⟩:=argBest_lt (numAt zs.toArray) (zs.toArray.size - 1)
 have hv':=hv
 obtain ⟨t,rfl⟩:=intItems_at hv
 have at':∀ j,j < zs.length→numAt zs.toArray j∈zs.map (·.1):=fun j hj=>by
  unfold numAt
  simp [hj]
  exact ⟨_,List.getElem_mem hj⟩
 refine ⟨.int _,H,I.kept (t':=tk) k,⟨t,rfl⟩,q _ (at' _ ?_) fun a ha=>?_⟩
 ·have:zs.toArray.size=zs.length:=by simp
  omega
 ·obtain ⟨z,hz,rfl⟩:=List.mem_map.mp ha
  obtain ⟨j,hj,rfl⟩:=List.getElem_of_mem hz
  have hzs:zs.toArray.size=zs.length:=by simp
  have:=l2 j (by omega)
  have e:numAt zs.toArray j=zs[j].1:=by unfold numAt;simp [hj]
  rw [e] at this
  exact this
def sumOk (ns:List Int):Bool:=decide (ns.length≤2 ^ 20) && ns.all fun i=>decide (-(2 ^ 40)≤i) && decide (i≤2 ^ 40)
theorem sumOk_pre {ns:List Int} (h:∀ i∈ns,-(2 ^ 40)≤i∧i≤2 ^ 40):∀ j:Nat,-(2 ^ 40) * (j:Int)≤(ns.take j).sum∧(ns.take j).sum≤2 ^ 40 * (j:Int):=by
 induction ns with
 | nil=>intro j;rw [List.take_nil,List.sum_nil];omega
 | cons n ns ih=>
  intro j
  cases j with
  | zero=>rw [List.take_zero,List.sum_nil];omega
  | succ j=>
   have:=ih (fun i hi=>h i (List.mem_cons_of_mem _ hi)) j
   have hn:=h n List.mem_cons_self
   rw [List.take_succ_cons,List.sum_cons]
   omega
theorem call_sumL (hc:X.calm=true):CallR X (.builtin "sum") (fun xs H Q=>∃ (p:Addr) (ns:List Int),xs=[.ref p]∧SqL X.K H p (ns.map V.int)∧sumOk ns=true∧Q (.int ns.sum) H):=by
 intro pins s σ H xs us Q I r h
 obtain ⟨p,ns,rfl,hq,hn,q⟩:=h
 obtain ⟨u,rfl,rx⟩:=vals1 r
 cases rx
 obtain ⟨its,rv,pl,hz⟩:=I.list hq
 obtain ⟨zs,rfl,rfl⟩:=ints_items rv
 have e:(zs.map fun p=>Value.int p.1 p.2).toArray=intItems zs.toArray:=by simp [intItems]
 rw [e] at pl
 unfold sumOk at hn
 rw [Bool.and_eq_true] at hn
 have hl:(zs.map (·.1)).length≤2 ^ 20:=by simpa using hn.1
 have hb:∀ i∈zs.map (·.1),-(2 ^ 40)≤i∧i≤2 ^ 40:=fun i hi=>by
  have:=List.all_eq_true.mp hn.2 i hi
  rw [Bool.and_eq_true] at this
  exact ⟨of_decide_eq_true this.1,of_decide_eq_true this.2⟩
 have sz:zs.toArray.size=zs.length:=by simp
 rw [List.length_map] at hl
 have pre:∀ j,preSum (numAt zs.toArray) j=((zs.map (·.1)).take j).sum:=fun j=>by
  rw [preSum_eq]
 refine sum_intList (I.ok.hd hc) pl.isList (fun j hj=>⟨?_,?_⟩) fun h' tk t' k=>⟨.int _,H,I.kept (t':=tk) k,⟨t',rfl⟩,?_⟩
 ·have e1:numAt zs.toArray j=zs[j].1:=by unfold numAt;simp [show j < zs.length by omega]
  have:=hb (zs[j]'(by omega)).1 (List.mem_map.mpr ⟨_,List.getElem_mem _,rfl⟩)
  rw [e1]
  unfold InLong
  omega
 ·have:=sumOk_pre hb (j + 1)
  rw [pre]
  unfold InLong
  omega
 ·rw [pre,sz]
  have:((zs.map (·.1)).take zs.length)=zs.map (·.1):=by
   rw [List.take_of_length_le];simp
  rw [this]
  exact q
def minI:Int→List Int→Int
 | n,[]=>n
 | n,m::r=>minI (if m < n then m else n) r
theorem minI_mem:∀ (r:List Int) (n:Int),minI n r∈n::r
 | [],n=>List.mem_cons_self
 | m::r,n=>by
  unfold minI
  have:=minI_mem r (if m < n then m else n)
  rcases List.mem_cons.mp this with h | h
  ·rw [h]
   split
   ·exact List.mem_cons_of_mem _ List.mem_cons_self
   ·exact List.mem_cons_self
  ·exact List.mem_cons_of_mem _ (List.mem_cons_of_mem _ h)
theorem minI_le:∀ (r:List Int) (n:Int),∀ a∈n::r,minI n r≤a
 | [],n,a,h=>by
  have:a=n:=by simpa using h
  rw [this];exact Int.le_refl _
 | m::r,n,a,h=>by
  unfold minI
  have ih:=minI_le r (if m < n then m else n)
  have h1:=ih _ List.mem_cons_self
  have h2:(if m < n then m else n)≤n∧(if m < n then m else n)≤m:=by split <;> omega
  rcases List.mem_cons.mp h with e | h
  ·rw [e];omega
  ·rcases List.mem_cons.mp h with e | h
   ·rw [e];omega
   ·exact ih a (List.mem_cons_of_mem _ h)
theorem min_unique {ns:List Int}{m m':Int} (h1:m∈ns) (h2:∀ a∈ns,m≤a) (h3:m'∈ns) (h4:∀ a∈ns,m'≤a):m=m':=by
 have:=h2 m' h3
 have:=h4 m h1
 omega
def opMin:List (PV×Nat)→Option (PV×Nat)
 | [(.lst xs,_)]=>match intsOf xs with
  | some (n::r)=>some (.int (minI n r),om)
  | _=>none
 | [(.tup xs,_)]=>match intsOf xs with
  | some (n::r)=>some (.int (minI n r),om)
  | _=>none
 | xs=>op2 (fun i j=>if j < i then j else i) xs
def opSum:List (PV×Nat)→Option (PV×Nat)
 | [(.lst xs,_)]=>match intsOf xs with
  | some ns=>if sumOk ns=true then some (.int ns.sum,om) else none
  | none=>none
 | _=>none
theorem CallR.or {f:Value}{r r':List V→Hp→VK→Prop} (h:CallR X f r) (h':CallR X f r'):CallR X f (fun xs H Q=>r xs H Q∨r' xs H Q):=by
 intro pins s σ H xs us Q I rv q
 rcases q with q | q
 ·exact h pins s σ H xs us Q I rv q
 ·exact h' pins s σ H xs us Q I rv q
theorem se_minL (hc:X.calm=true) (hg:Gl X "min") (hm:X.mg "min" = none) (ha:PA X (e::es) (tL M fa vs)) (he:starEach (e::es) X.env=(false,eval e X.env)::starEach es X.env) (hpl:(backTo pos (starEach es X.env)).any (·.1)=false):
  PE X (.Call (.Name "min" p) (e::es) [] pos) (tE M (bArgs opMin fa) vs):=by
 refine pe_imp (pe_callB (((call_min2 hc).or (call_minL hc)).or (call_minT hc)) hg hm rfl ha (he:=he) (hpl:=hpl)) fun σ H Q h=>tCB_then (fun xs z c ws H fps fp Q ho tm nz zd lf=>?_) h
 unfold opMin at ho
 split at ho
 ·rename_i xs d
  split at ho
  ·rename_i n r eb
   cases ho
   obtain ⟨v,r',f1,f2,rfl,rfl,_,o1,h2⟩:=tm
   obtain ⟨rfl,rfl⟩:=h2
   obtain ⟨q,us,rfl,hs,ol⟩:=(cold (fp:=f1) o1 fun a ha=>nz a (List.mem_append_left _ ha)).coldL
   have:=intsOf_own eb ol
   subst this
   refine .inl (.inr ⟨q,n::r,rfl,.inl (.inl hs),by simp,fun m h1 h2=>?_⟩)
   rw [min_unique h1 h2 (minI_mem r n) (minI_le r n)]
   exact leaf_int lf
  ·cases ho
 ·rename_i xs d
  split at ho
  ·rename_i n r eb
   cases ho
   obtain ⟨v,r',f1,f2,rfl,rfl,_,o1,h2⟩:=tm
   obtain ⟨rfl,rfl⟩:=h2
   obtain ⟨q,us,rfl,hs,ol⟩:=(cold (fp:=f1) o1 fun a ha=>nz a (List.mem_append_left _ ha)).coldT
   have:=intsOf_own eb ol
   subst this
   refine .inr ⟨q,n::r,rfl,.inl (.inl hs),by simp,fun m h1 h2=>?_⟩
   rw [min_unique h1 h2 (minI_mem r n) (minI_le r n)]
   exact leaf_int lf
  ·cases ho
 ·exact .inl (.inl (leaf_op2 ho tm lf))
theorem se_sumL (hc:X.calm=true) (hg:Gl X "sum") (hm:X.mg "sum" = none) (ha:PA X (e::es) (tL M fa vs)) (he:starEach (e::es) X.env=(false,eval e X.env)::starEach es X.env) (hpl:(backTo pos (starEach es X.env)).any (·.1)=false):
  PE X (.Call (.Name "sum" p) (e::es) [] pos) (tE M (bArgs opSum fa) vs):=by
 refine pe_imp (pe_callB (call_sumL hc) hg hm rfl ha (he:=he) (hpl:=hpl)) fun σ H Q h=>tCB_then (fun xs z c ws H fps fp Q ho tm nz zd lf=>?_) h
 unfold opSum at ho
 split at ho
 ·rename_i xs d
  split at ho
  ·rename_i ns eb
   split at ho
   ·rename_i hk
    cases ho
    obtain ⟨v,r',f1,f2,rfl,rfl,_,o1,h2⟩:=tm
    obtain ⟨rfl,rfl⟩:=h2
    obtain ⟨q,us,rfl,hs,ol⟩:=(cold (fp:=f1) o1 fun a ha=>nz a (List.mem_append_left _ ha)).coldL
    have:=intsOf_own eb ol
    subst this
    exact ⟨q,ns,rfl,.inl (.inl hs),hk,leaf_int lf⟩
   ·cases ho
  ·cases ho
 ·cases ho
abbrev Fn:=List PV→Rz (PV×Nat×PV)
def spF (K:Frag) (io:Bool) (n:Nat) (F:Fn):Sp:=fun ws H Q E=>ws.length=n∧∃ (xs:List PV) (Zo:Addr→Prop) (x0:PV) (v0:V) (fp0:List Addr),
 (∀ a,Zo a→H a≠none)∧(∀ a∈fp0,¬ Zo a)∧(io=false→fp0=[]∧OwnL K H Zo xs 0 ws []) ∧
 (io=true→∃ xr wr,xs=x0::xr∧ws=v0::wr∧Own K H (fun _=>True) x0 om v0 fp0∧OwnL K H (fun a=>Zo a∨a∈fp0) xr 0 wr []) ∧
 (match F xs with
  | .ok (y,d,z0)=>∀ v H' fp fp0',Keep (fun a=>a∈fp0) H H'→(∀ a,H a≠none→H' a≠none)→(∀ a∈fp0',a∈fp0∨H a=none)→(∀ a∈fp0',¬ Zo a)→(io=false→fp0'=[])→(io=true→Own K H' (fun _=>True) z0 om v0 fp0') →
    Own K H' (fun a=>(Zo a∨a∈fp0')∨a∈fp) y d v fp→(∀ a∈fp,H a=none∧¬ (Zo a∨a∈fp0'))→Q v H'
  | .exc c=>∀ H',Keep (fun a=>a∈fp0) H H'→(∀ a,H a≠none→H' a≠none)→E (.int (c:Int) 0) none H'
  | .no=>False)
def bCallNw (F:Fn) (fa:Fa):Fx:=fun ρ=>(fa ρ).bind fun (xs,ρ1)=>match xs with
 | [(x0,d)]=>if d=om then (match F [x0] with
  | .ok (y,c,_)=>.ok (y,c,ρ1)
  | _=>.no) else .no
 | _=>.no
theorem Rep.apart {ρ:Rho}{σ:St}{H:Hp}{fps:Fps}{fp:List Addr}{H':Hp} (r:Rep (M.plus fp) ρ σ H fps) (k:Keep (fun a=>a∈fp) H H') (dm:∀ a,H a≠none→H' a≠none) (hl:∀ a∈fp,∃ o:MO,H a=some o.ho):Rep (M.plus fp) ρ σ H' fps:=
 ⟨fun i x d e=>let ⟨v,h1,h2⟩:=r.own i x d e;⟨v,h1,Own.move k (fun a ha=>⟨.inl (.inr ha),hl a ha⟩) (fun _ _ n=>n) x d v _ (fun a ha z=>r.zo i a ha (.inr z)) h2⟩,r.non,r.dj,r.zo,r.fr,fun a z=>dm a (r.zd a z),r.len,r.msf,fun a z=>dm a (r.h0 a z),r.iov⟩
theorem tE_callNw {F:Fn}{n:Nat}{E:XK} (hal:∀ i,∀ j∈M.al i,M.Ms j=false) (hF:∀ xs,xs.length≠n→F xs=.no) {σ:St}{H:Hp}{Q:VK} (hq:tE M (bCallNw F fa) vs σ H Q):tCall (spF M.K true n F) [] E (tL M fa vs) σ H Q:=by
 obtain ⟨ρ,fps,rep,q⟩:=hq
 refine ⟨ρ,fps,rep,?_⟩
 unfold bCallNw at q
 cases ef:fa ρ with
 | no=>rw [ef] at q;exact q
 | exc c=>rw [ef] at q;exact q
 | ok p=>
  obtain ⟨xs,ρ1⟩:=p
  rw [ef] at q
  intro ws H1 fps1 f1 k1 g1 rep1 o1 t1
  dsimp only [Rz.bind] at q
  show spF M.K true n F (ws++[]) H1 Q E
  rw [List.append_nil]
  cases xs with
  | nil=>exact q.elim
  | cons p xs=>
   obtain ⟨x0,d⟩:=p
   cases xs with
   | cons _ _=>exact q.elim
   | nil=>
    dsimp only at q
    by_cases hd:d=om
    ·subst hd
     rw [if_pos rfl] at q
     have hlen:1=n:=by
      by_cases e:([x0]:List PV).length=n
      ·exact e
      ·rw [hF [x0] e] at q;exact q.elim
     obtain ⟨v0,r,f0,f2,rfl,rfl,dj,o0,rfl,rfl⟩:=o1
     rw [List.append_nil] at t1
     have back:∀ a,H1 a=none→H a=none:=fun a e=>by
      cases e':H a with
      | none=>rfl
      | some o=>exact absurd e (k1.dom a (by rw [e'];simp))
     have hl:∀ a∈f0,∃ o:MO,H1 a=some o.ho:=Own.lsts x0 om v0 f0 o0
     refine ⟨hlen,[x0],Zv M vs fps1,x0,v0,f0,fun a z=>rep1.zdom z.zf,fun a ha z=>t1.ndj a ha z.zf,(fun h=>nomatch h),fun _=>⟨[],[],rfl,rfl,Own.full x0 v0 _ o0,?_⟩,?_⟩
     ·rw [OwnL];exact ⟨rfl,rfl⟩
     ·cases eF:F [x0] with
      | no=>rw [eF] at q;exact q
      | exc c=>rw [eF] at q;exact q.elim
      | ok r=>
       obtain ⟨y,d,z0⟩:=r
       rw [eF] at q
       intro v H' fp fp0' kp dm sb nZ _ h1 oy hf
       have rw1:Rep (M.plus f0) ρ1 σ H1 fps1:=rep.wide hal k1 g1 rep1 fun b hb=>⟨t1.new b hb,by obtain ⟨o,ho⟩:=hl b hb;rw [ho];simp,t1.ndj b hb⟩
       have rp:=(rw1.apart kp dm hl).minus
       have kd:KD M H fps H' fps1:=⟨fun a o h n=>kp a o (k1.keep a o h n) fun z=>(by rw [t1.new a z] at h;cases h),fun a h=>dm a (k1.dom a h),k1.sub,k1.same⟩
       refine q v H' fps1 fp kd g1 rp (oy.weak fun a h=>h.elim (fun h=>.inl (.inl h)) .inr) ⟨fun a ha=>back a (hf a ha).1,fun a ha=>rep1.nz (hf a ha).1⟩
    ·rw [if_neg hd] at q;exact q.elim
def bCall (F:Fn) (fa:Fa):Fx:=fun ρ=>(fa ρ).bind fun (xs,ρ1)=>match F (xs.map (·.1)) with
 | .ok (y,d,_)=>.ok (y,d,ρ1)
 | .exc c=>.exc c
 | .no=>.no
theorem tE_call {F:Fn}{n:Nat} (hF:∀ xs,xs.length≠n→F xs=.no) {σ:St}{H:Hp}{Q:VK} (hq:tE M (bCall F fa) vs σ H Q):tCallX (spF M.K false n F) M.W (tL M fa vs) σ H Q:=by
 obtain ⟨ρ,fps,rep,q⟩:=hq
 refine ⟨ρ,fps,rep,?_⟩
 unfold bCall at q
 cases ef:fa ρ with
 | no=>rw [ef] at q;exact q
 | exc c=>rw [ef] at q;exact q
 | ok p=>
  obtain ⟨xs,ρ1⟩:=p
  rw [ef] at q
  intro ws H1 fps1 f1 k1 g1 rep1 o1 t1
  dsimp only [Rz.bind] at q
  have back:∀ a,H1 a=none→H a=none:=fun a e=>by
   cases e':H a with
   | none=>rfl
   | some o=>exact absurd e (k1.dom a (by rw [e'];simp))
  show spF M.K false n F ws H1 Q (XEof (M.W σ))
  have hlen:xs.length=n:=by
   by_cases e:xs.length=n
   ·exact e
   ·rw [hF (xs.map (·.1)) (by rw [List.length_map];exact e)] at q;exact q.elim
  refine ⟨by rw [o1.length,hlen],xs.map (·.1),Zv M vs fps1,.non,.non,[],fun a z=>rep1.zdom z.zf,fun _ z=>(nomatch z),fun _=>⟨rfl,o1.cold fun a ha z=>t1.ndj a ha z.zf⟩,(fun h=>nomatch h),?_⟩
  cases eF:F (xs.map (·.1)) with
  | no=>rw [eF] at q;exact q
  | exc c=>
   rw [eF] at q
   exact fun H' kp _=>q H' fps1 (k1.trans (KD.grow fun a o h=>kp a o h fun z=>nomatch z))
  | ok r=>
   obtain ⟨y,d,z0⟩:=r
   rw [eF] at q
   intro v H' fp fp0' kp dm _ _ h0 _ oy hf
   have e0:=h0 rfl
   subst e0
   have kk:∀ a o,H1 a=some o→H' a=some o:=fun a o h=>kp a o h fun z=>nomatch z
   refine q v H' fps1 fp (k1.trans (KD.grow kk)) g1 (rep1.grow kk) (oy.weak fun a h=>h.elim (fun h=>.inl (.inl h)) .inr) ⟨fun a ha=>back a (hf a ha).1,fun a ha=>rep1.nz (hf a ha).1⟩
def bCallIO (F:Fn) (i:Nat) (fa:Fa):Fx:=fun ρ=>match ρ[i]? with
 | some (some _)=>(fa ρ).bind fun (xs,ρ1)=>(match ρ1[i]? with
  | some (some (x0,_))=>(match F (x0::xs.map (·.1)) with
   | .ok (y,d,z0)=>.ok (y,d,ρ1.set i (some (z0,om)))
   | _=>.no)
  | _=>.no)
 | _=>.no
theorem tE_callIO {F:Fn}{n i:Nat}{E:XK} (hal:∀ i,∀ j∈M.al i,M.Ms j=false) (hv:∀ i∈vs,M.Ms i=false) (hm:M.Ms i=true) (hF:∀ xs,xs.length≠n→F xs=.no) {σ:St}{H:Hp}{Q:VK} (hq:tE M (bCallIO F i fa) vs σ H Q):tCall (spF M.K true n F) [] E (tCons (tVar i) (tL M fa vs)) σ H Q:=by
 obtain ⟨ρ,fps,rep,q⟩:=hq
 unfold bCallIO at q
 cases e0:ρ[i]? with
 | none=>rw [e0] at q;exact q.elim
 | some s0=>
  rw [e0] at q
  cases s0 with
  | none=>exact q.elim
  | some p0=>
  obtain ⟨xi,di⟩:=p0
  obtain ⟨v0,hσ,_⟩:=rep.own i _ _ e0
  dsimp only at q
  refine ⟨v0,hσ,ρ,fps,rep,?_⟩
  cases ef:fa ρ with
  | no=>rw [ef] at q;exact q
  | exc c=>rw [ef] at q;exact q
  | ok p=>
   obtain ⟨xs,ρ1⟩:=p
   rw [ef] at q
   intro ws H1 fps1 f1 k1 g1 rep1 o1 t1
   dsimp only [Rz.bind] at q
   have back:∀ a,H1 a=none→H a=none:=fun a e=>by
    cases e':H a with
    | none=>rfl
    | some o=>exact absurd e (k1.dom a (by rw [e'];simp))
   show spF M.K true n F ((v0::ws)++[]) H1 Q E
   rw [List.append_nil]
   cases e1:ρ1[i]? with
   | none=>rw [e1] at q;exact q.elim
   | some s1=>
    rw [e1] at q
    cases s1 with
    | none=>exact q.elim
    | some p1=>
    obtain ⟨x0,d0⟩:=p1
    dsimp only at q
    have hd:=rep1.msf i x0 d0 hm e1
    subst hd
    obtain ⟨v1,hσ1,o0⟩:=rep1.own i _ _ e1
    rw [hσ] at hσ1
    cases hσ1
    have hi:i < ρ1.length:=(List.getElem?_eq_some_iff.mp e1).1
    have ivs:i∉vs:=fun z=>by rw [hv i z] at hm;cases hm
    have hlen:xs.length + 1=n:=by
     by_cases e:xs.length + 1=n
     ·exact e
     ·rw [hF (x0::xs.map (·.1)) (by rw [List.length_cons,List.length_map];exact e)] at q;exact q.elim
    refine ⟨by rw [List.length_cons,o1.length,hlen],x0::xs.map (·.1),(fun a=>Zv M vs fps1 a∧a∉fps1 i),x0,v0,fps1 i,fun a z=>rep1.zdom z.1.zf,fun a ha z=>z.2 ha,(fun h=>nomatch h),fun _=>⟨xs.map (·.1),ws,rfl,rfl,Own.full x0 v0 _ o0,?_⟩,?_⟩
    ·refine (o1.cold fun a ha z=>t1.ndj a ha z.zf).weak fun a h=>?_
     rcases h with h | h
     ·exact h.1
     ·exact .inr ⟨i,ivs,h⟩
    ·cases eF:F (x0::xs.map (·.1)) with
     | no=>rw [eF] at q;exact q
     | exc c=>rw [eF] at q;exact q.elim
     | ok r=>
      obtain ⟨y,d,z0⟩:=r
      rw [eF] at q
      intro v H' fp fp0' kp dm sb nZ _ h1 oy hf
      have oz:=h1 rfl
      have nz0:∀ a∈fp0',¬ M.Zo a:=fun a ha z=>by
       by_cases hai:a∈fps1 i
       ·exact rep1.zo i a hai z
       ·exact nZ a ha ⟨.inl z,hai⟩
      have kd:KD M H1 fps1 H' (fun j=>if j=i then fp0' else fps1 j):=⟨fun a o h n=>kp a o h fun z=>n ⟨i,hm,z⟩,dm,fun j a ha=>by
       by_cases ej:j=i
       ·simp only [if_pos ej] at ha;rw [ej];exact sb a ha
       ·simp only [if_neg ej] at ha;exact .inl ha,fun j hj=>by
       have ej:j≠i:=fun e=>by rw [e,hm] at hj;cases hj
       exact if_neg ej⟩
      have djn:∀ j,j≠i→∀ a∈fp0',a∉fps1 j:=fun j hj a ha hb=>by
       rcases sb a ha with z | z
       ·exact rep1.dj i j (Ne.symm hj) a z hb
       ·obtain ⟨xs,e⟩:=rep1.lsts hb
        rw [z] at e;cases e
      have rp:Rep M (ρ1.set i (some (z0,om))) σ H' (fun j=>if j=i then fp0' else fps1 j):=by
       refine ⟨fun j x c hj=>?_,fun j hj=>?_,fun j k hjk a ha hb=>?_,fun j a ha z=>?_,fun j hj a ha=>?_,fun a z=>dm a (rep1.zd a z),by rw [List.length_set];exact rep1.len,fun j x c hj hc=>?_,fun a z=>dm a (rep1.h0 a z),rep1.iov⟩
       ·by_cases ej:j=i
        ·subst ej
         rw [List.getElem?_set_self hi] at hj
         cases hj
         refine ⟨v0,hσ,?_⟩
         rw [if_pos rfl]
         exact Own.full _ _ _ oz
        ·rw [List.getElem?_set_ne (Ne.symm ej)] at hj
         obtain ⟨w,hw,ow⟩:=rep1.own j x c hj
         refine ⟨w,hw,?_⟩
         rw [if_neg ej]
         by_cases hmj:M.Ms j=true
         ·have hd:=rep1.msf j x c hmj hj
          subst hd
          exact Own.full _ _ _ (Own.move (S:=fun a=>a∈fps1 i) (Z:=fun _=>True) (Z':=fun _=>True) kp (fun a ha=>⟨trivial,rep1.lsts ha⟩) (fun _ _ n=>n) x om w _ (fun a ha hb=>rep1.dj j i ej a ha hb) (Own.full _ _ _ ow))
         ·refine Own.move (S:=fun a=>a∈fps1 i) kp (fun a ha=>⟨.inr ⟨i,fun z=>(by rw [hal j i z] at hm;cases hm),ha⟩,rep1.lsts ha⟩) (fun a hd nz z=>?_) x c w _ (fun a ha hb=>rep1.dj j i ej a ha hb) ow
          rcases z with z | ⟨k,nk,z⟩
          ·exact nz (.inl z)
          ·by_cases ek:k=i
           ·simp only [if_pos ek] at z
            rcases sb a z with z | z
            ·exact nz (.inr ⟨k,nk,by rw [ek];exact z⟩)
            ·exact hd z
           ·simp only [if_neg ek] at z;exact nz (.inr ⟨k,nk,z⟩)
       ·by_cases ej:j=i
        ·subst ej;exact absurd (List.getElem?_set_self hi) (hj _)
        ·rw [if_neg ej]
         exact rep1.non j fun p hp=>hj p (by rw [List.getElem?_set_ne (Ne.symm ej)];exact hp)
       ·by_cases e1:j=i
        ·by_cases e2:k=i
         ·exact hjk (e1.trans e2.symm)
         ·rw [if_pos e1] at ha;rw [if_neg e2] at hb;exact djn k e2 a ha hb
        ·rw [if_neg e1] at ha
         by_cases e2:k=i
         ·rw [if_pos e2] at hb;exact djn j e1 a hb ha
         ·rw [if_neg e2] at hb;exact rep1.dj j k hjk a ha hb
       ·by_cases ej:j=i
        ·rw [if_pos ej] at ha;exact nz0 a ha z
        ·rw [if_neg ej] at ha;exact rep1.zo j a ha z
       ·have ej:j≠i:=fun e=>by rw [e,hm] at hj;cases hj
        rw [if_neg ej] at ha
        exact rep1.fr j hj a ha
       ·by_cases ej:j=i
        ·subst ej
         rw [List.getElem?_set_self hi] at hc
         cases hc
         rfl
        ·rw [List.getElem?_set_ne (Ne.symm ej)] at hc
         exact rep1.msf j x c hj hc
      have ag:Agr M ρ1 (ρ1.set i (some (z0,om))):=⟨fun j hj=>List.getElem?_set_ne (fun e=>by rw [← e,hm] at hj;cases hj),by rw [List.length_set]⟩
      refine q v H' _ fp (k1.trans kd) (g1.trans ag) rp (oy.weak fun a h=>?_) ⟨fun a ha=>back a (hf a ha).1,fun a ha z=>?_⟩
      ·rcases h with (h | ⟨j,nj,h⟩) | h
       ·by_cases hai:a∈fps1 i
        ·exact absurd h (rep1.zo i a hai)
        ·exact .inl (.inl ⟨.inl h,hai⟩)
       ·by_cases ej:j=i
        ·simp only [if_pos ej] at h;exact .inl (.inr h)
        ·simp only [if_neg ej] at h
         exact .inl (.inl ⟨.inr ⟨j,nj,h⟩,fun z=>rep1.dj j i ej a h z⟩)
       ·exact .inr h
      ·rcases z with z | ⟨j,z⟩
       ·exact rep1.zd a z (hf a ha).1
       ·by_cases ej:j=i
        ·simp only [if_pos ej] at z;exact (hf a ha).2 (.inr z)
        ·simp only [if_neg ej] at z
         obtain ⟨xs,e⟩:=rep1.lsts z
         rw [(hf a ha).1] at e;cases e
end
open PySem PySem.Spec PyProof.Rows L2
section
variable {prog:Program}{w:World}{A:Around}{E:Value→Shared→Prop}{s:Shared}
structure ZApart (zz ti to p1 p2 q1 q2:Addr):Prop where
 ne1:ti≠zz
 ne2:to≠zz
 ne3:p1≠zz
 ne4:p2≠zz
 ne5:ti≠to
 ne6:ti≠p1
 ne7:ti≠p2
 ne8:to≠p1
 ne9:to≠p2
 nea:p1≠p2
 neb:q1≠zz
 nec:q1≠to
 ned:q1≠p1
 nee:q1≠p2
 nef:q2≠zz
 neg:q2≠to
 neh:q2≠p1
 nei:q2≠p2
section
variable {zz ti to p1 p2 q1 q2:Addr}{n1 n2:Nat}{us vs:Array Value}{u v a b:Value}
end
end
open PySem PySem.Spec PyProof.Rows L2
section
variable {X:Cx}{pins:List (Addr×Obj)}{σ:St}{H:Hp}{s:Shared}{h':Heap}
end
section
variable {X:Cx}{tg:Expr}
end
open PySem PySem.Spec PyProof.Rows L2
inductive Vw where
 | rev | enm | zp
def enumL:Nat→List PV→List PV
 | _,[]=>[]
 | i,x::xs=>.tup [.int (i:Int),x]::enumL (i + 1) xs
def zipL:List PV→List PV→List PV
 | x::xs,y::ys=>.tup [x,y]::zipL xs ys
 | _,_=>[]
def vwItems:Vw→List PV→Option (List PV)
 | .rev,[.lst xs]=>some xs.reverse
 | .enm,[.lst xs]=>some (enumL 0 xs)
 | .zp,[.lst xs,.lst ys]=>some (zipL xs ys)
 | .zp,[.tup xs,.tup ys]=>some (zipL xs ys)
 | _,_=>none
theorem own_lst {K:Frag}{H:Hp}{Z:Addr→Prop}{xs:List PV}{v:V} (o:Own K H Z (.lst xs) 0 v []):∃ a ws,v=.ref a∧SqL K H a ws∧OwnL K H Z xs 0 ws []:=by
 rw [Own] at o
 obtain ⟨b,ws,e,⟨_,hr,_,ol⟩ | ⟨h,_⟩⟩:=o
 ·exact ⟨b,ws,e,.inl (.inl hr.1),ol⟩
 ·exact absurd rfl h
section
variable {is:List Nat}{M:Fm}{ρ ρ':Rho}{σ σ':St}{H H' H'':Hp}{fps fps' fps'':Fps}{vs vs':List Nat}
def sForV (v:Vw) (fa:Fa) (vs:List Nat) (asg:PV→Rho→Option Rho) (body:Fs):Fs:=fun ρ=>match fa ρ with
 | .ok (xs,ρ1)=>(match vwItems v (xs.map (·.1)) with
  | some els=>loopS asg body els (coolIf (if allOm xs=true then om else 0) vs ρ1)
  | none=>.no)
 | .exc c=>.exc c
 | .no=>.no
def bCompV (v:Vw) (fa:Fa) (k:Nat) (asg:PV→Rho→Option Rho) (test:Fb) (elt:Fx):Fx:=fun ρ=>match fa ρ with
 | .ok (xs,ρ1)=>(match vwItems v (xs.map (·.1)) with
  | some els=>(compL k asg test elt els ρ1 []).bindN fun (acc,ρ2)=>lstOf acc ρ2
  | none=>.no)
 | .exc c=>.exc c
 | .no=>.no
end
open PySem PySem.Spec PyProof.Rows L2
section
variable {X:Cx}{M:Fm}{f g:Fx}{fa:Fa}{vs vs':List Nat}{a b e:Expr}{es:List Expr}{pos p p2:Pos}{σ:St}{H:Hp}{Q:VK}
def opRv:PV→Nat→Option (PV×Nat)
 | .lst xs,_=>some (.lst xs.reverse,d1 xs.reverse)
 | .str z,_=>if z.length≤sizeLine then some (.str ⟨z.cps.toList.reverse.toArray⟩,om) else none
 | _,_=>none
def rRv (K:Frag):V→Hp→VK→Prop:=fun x H1 Q=>(∃ l xs,x=.ref l∧SqL K H1 l xs∧∀ p,H1 p=none→Q (.ref p) (upd H1 p (.lst xs.reverse)))∨∃ z,x=.str z∧z.length≤sizeLine∧Q (.str ⟨z.cps.toList.reverse.toArray⟩) H1
theorem rv_made (z:Str) (tk u:Tok):PySem.sliceMade z tk none none (some (-1,u))=.str ⟨z.cps.toList.reverse.toArray⟩:=by
 unfold PySem.sliceMade PySem.slicePicked
 rw [if_neg (by simp)]
 have e:Builtin.Str.strSliceIndices none none (-1) z.length=(List.range z.cps.size).reverse:=by
  have e1:Builtin.Str.strSliceIndices none none (-1) z.length=sliceRange ((z.length:Int) - 1) (-1) (-1):=rfl
  rw [e1,PySem.W.krv_sliceRange,PySem.W.krv_range]
  rfl
 show Made.str ⟨((Builtin.Str.strSliceIndices none none (-1) z.length).filterMap (z.cps[·]?)).toArray⟩=_
 rw [e,List.filterMap_reverse,PySem.W.krv_all]
theorem vals_rev:∀ {xs:List V}{us:List Value},Vals xs us→Vals xs.reverse us.reverse
 | _,_,.nil=>.nil
 | _,_,.cons r rr=>by rw [List.reverse_cons,List.reverse_cons];exact (vals_rev rr).append (.cons r .nil)
theorem OwnL.snoc0 {K:Frag}{H:Hp}{Z:Addr→Prop}{x:PV}{v:V}:∀ {xs:List PV}{ws:List V},OwnL K H Z xs 0 ws []→Own K H Z x 0 v []→OwnL K H Z (xs++[x]) 0 (ws++[v]) []
 | [],ws,h,o=>by
  rw [OwnL] at h
  obtain ⟨rfl,_⟩:=h
  rw [List.nil_append,List.nil_append,OwnL]
  exact ⟨v,[],[],[],rfl,rfl,(fun _ z=>nomatch z),o,by rw [OwnL];exact ⟨rfl,rfl⟩⟩
 | y::xs,ws,h,o=>by
  rw [OwnL] at h
  obtain ⟨u,r,f1,f2,rfl,ef,_,o1,o2⟩:=h
  obtain ⟨rfl,rfl⟩:f1=[]∧f2=[]:=by simpa using ef.symm
  rw [List.cons_append,List.cons_append,OwnL]
  exact ⟨u,r++[v],[],[],rfl,rfl,(fun _ z=>nomatch z),o1,OwnL.snoc0 o2 o⟩
theorem OwnL.append0 {K:Frag}{H:Hp}{Z:Addr→Prop}{ys:List PV}{us:List V} (h2:OwnL K H Z ys 0 us []):∀ {xs:List PV}{ws:List V},OwnL K H Z xs 0 ws []→OwnL K H Z (xs++ys) 0 (ws++us) []
 | [],ws,h=>by
  rw [OwnL] at h
  obtain ⟨rfl,_⟩:=h
  exact h2
 | y::xs,ws,h=>by
  rw [OwnL] at h
  obtain ⟨u,r,f1,f2,rfl,ef,_,o1,o2⟩:=h
  obtain ⟨rfl,rfl⟩:f1=[]∧f2=[]:=by simpa using ef.symm
  rw [List.cons_append,List.cons_append,OwnL]
  exact ⟨u,r++us,[],[],rfl,rfl,(fun _ z=>nomatch z),o1,OwnL.append0 h2 o2⟩
theorem OwnL.rev {K:Frag}{H:Hp}{Z:Addr→Prop}:∀ {xs:List PV}{ws:List V},OwnL K H Z xs 0 ws []→OwnL K H Z xs.reverse 0 ws.reverse []
 | [],ws,h=>by
  rw [OwnL] at h
  obtain ⟨rfl,_⟩:=h
  rw [List.reverse_nil,OwnL];exact ⟨rfl,rfl⟩
 | y::xs,ws,h=>by
  rw [OwnL] at h
  obtain ⟨u,r,f1,f2,rfl,ef,_,o1,o2⟩:=h
  obtain ⟨rfl,rfl⟩:f1=[]∧f2=[]:=by simpa using ef.symm
  rw [List.reverse_cons,List.reverse_cons]
  exact OwnL.snoc0 (OwnL.rev o2) o1
theorem pe_rv {te:TE}{k:Nat}{p3 p4:Pos} (he:PE X a te):PE X (.Subscript a (.Slice none none (some (.UnaryOp .USub (.Constant (.int 1) k p3) p4)) p2) pos) (tUn (rRv X.K) te):=by
 intro pins s σ H Q I h
 refine Subscript_ (thn (he pins s σ H _ I h) fun v s1 ⟨x,H1,I1,r1,q1⟩=>?_)
 have hp:=po_some (pe_un (pos:=p4) un_neg (pe_int (X:=X) (i:=1) (j:=k) (pos:=p3)))
 have hn:PO X none tNoPart:=po_none
 obtain ⟨l,xs,rfl,hq,q⟩ | ⟨z,rfl,hz,q⟩:=q1
 ·cases r1
  refine wpAny_Slice (thn (hn pins s1 σ H1 (fun o H'=>o=none∧H'=H1) I1 ⟨rfl,rfl⟩) fun vl s2 ⟨o2,H2,I2,p2',e2⟩=>?_)
  obtain ⟨rfl,rfl⟩:=e2
  refine thn (hn pins s2 σ H2 (fun o H'=>o=none∧H'=H2) I2 ⟨rfl,rfl⟩) fun vu s3 ⟨o3,H3,I3,p3',e3⟩=>?_
  obtain ⟨rfl,rfl⟩:=e3
  refine thn (hp pins s3 σ H3 (fun o H'=>o=some (-1)∧H'=H3) I3 ⟨1,rfl,-1,rfl,rfl,rfl⟩) fun vk s4 ⟨o4,H4,I4,p4',e4⟩=>?_
  obtain ⟨rfl,rfl⟩:=e4
  have I5:Inv X pins σ H4 { s4 with heap:=s4.heap.push { cls:=.type "slice",data:=.fields #[vl,vu,vk] } }:=I4.kept (t':=s4.toks) fun b ob q=>Heap.get?_push_of_some _ q
  obtain ⟨its,r,ht,hz⟩:=I5.list hq
  have hlen:=r.length
  show wpAny (model X.prog X.w) X.A (subscriptTail a (.Slice none none (some (.UnaryOp .USub (.Constant (.int 1) k p3) p4)) p2) (.ref l) (.ref s4.heap.objs.size)) (EP X pins σ Q) X.xe { s4 with heap:=s4.heap.push { cls:=.type "slice",data:=.fields #[vl,vu,vk] } }
  refine tail_any (ops:=[.ref l,.ref s4.heap.objs.size]) ht.isList.typeIs slot_list_getitem.lookup ?_ (by with_unfolding_all rfl)
  refine wpAny_getItem_list_slice ht.isList (Heap.IsSliceOf.new ..) p2' p3' p4' (by simp) ?_ (by rw [List.size_toArray] <;> omega)
  rw [PySem.W.krv_pick]
  refine ⟨.ref _,_,I5.laid (o:=.lst xs.reverse) (fun b ob q=>Heap.get?_push_of_some _ q) (Nat.le_refl _) ?_,rfl,q _ (I5.hok.fresh (Nat.le_refl _))⟩
  refine ⟨by rw [List.length_reverse];exact hz,its.reverse,0,vals_rev r,Heap.get?_push_size _ rfl⟩
 ·obtain ⟨tk,rfl⟩:=r1
  refine wpAny_Slice (thn (hn pins s1 σ H1 (fun o H'=>o=none∧H'=H1) I1 ⟨rfl,rfl⟩) fun vl s2 ⟨o2,H2,I2,p2',e2⟩=>?_)
  obtain ⟨rfl,rfl⟩:=e2
  refine thn (hn pins s2 σ H2 (fun o H'=>o=none∧H'=H2) I2 ⟨rfl,rfl⟩) fun vu s3 ⟨o3,H3,I3,p3',e3⟩=>?_
  obtain ⟨rfl,rfl⟩:=e3
  refine thn (hp pins s3 σ H3 (fun o H'=>o=some (-1)∧H'=H3) I3 ⟨1,rfl,-1,rfl,rfl,rfl⟩) fun vk s4 ⟨o4,H4,I4,p4',e4⟩=>?_
  obtain ⟨rfl,rfl⟩:=e4
  cases p2'
  cases p3'
  cases p4' with
  | int _ u=>
   have I5:Inv X pins σ H4 { s4 with heap:=s4.heap.push { cls:=.type "slice",data:=.fields #[.none,.none,.int (-1) u] } }:=I4.kept (t':=s4.toks) fun b ob q=>Heap.get?_push_of_some _ q
   show wpAny (model X.prog X.w) X.A (subscriptTail a (.Slice none none (some (.UnaryOp .USub (.Constant (.int 1) k p3) p4)) p2) (.str z tk) (.ref s4.heap.objs.size)) (EP X pins σ Q) X.xe { s4 with heap:=s4.heap.push { cls:=.type "slice",data:=.fields #[.none,.none,.int (-1) u] } }
   refine tail_any (ops:=[.str z tk,.ref s4.heap.objs.size]) (typeIs_str _ z tk) PySem.F.slot_str_getitem.lookup ?_ (by with_unfolding_all rfl)
   refine wpAny_getItem_str_slice (l:=none) (u:=none) (st:=some (-1,u)) ⟨_,Heap.get?_push_size _ rfl,rfl,rfl⟩ rfl ?_
   rw [rv_made]
   refine ⟨?_,.str _,H4,I5.tok _,⟨_,rfl⟩,q⟩
   show z.cps.toList.reverse.toArray.size≤sizeLine
   have hz':z.cps.size≤sizeLine:=hz
   simpa using hz'
theorem se_rv {k:Nat}{p3 p4:Pos} (hK:M.K=X.K) (ha:PE X a (tE M f vs)):PE X (.Subscript a (.Slice none none (some (.UnaryOp .USub (.Constant (.int 1) k p3) p4)) p2) pos) (tE M (bUn opRv f) vs):=by
 refine pe_imp (pe_rv ha) fun σ H Q h=>tE_un (fun x d z c v H fps f1 Q ho o1 nz zd lf=>?_) h
 cases x with
 | lst xs=>
  cases ho
  obtain ⟨q,us,rfl,hs,ol⟩:=(cold o1 fun a ha=>nz a ha).coldL
  exact .inl ⟨q,us,rfl,.inl (.inl hs),fun l hl=>leaf_listD lf (OwnL.rev ol) hl⟩
 | str z=>
  dsimp only [opRv] at ho
  split at ho
  ·rename_i hl
   cases ho
   rw [Own] at o1
   exact .inr ⟨z,o1.1,hl,leaf_str lf⟩
  ·cases ho
 | _=>cases ho
def opInt1:List (PV×Nat)→Option (PV×Nat)
 | [(.bl b,_)]=>some (.int (if b then 1 else 0),om)
 | [(.int i,_)]=>some (.int i,om)
 | _=>none
theorem se_int1 (hg:Gl X "int") (hm:X.mg "int" = none) (ha:PA X (e::es) (tL M fa vs)) (he:starEach (e::es) X.env=(false,eval e X.env)::starEach es X.env) (hpl:(backTo pos (starEach es X.env)).any (·.1)=false):
  PE X (.Call (.Name "int" p) (e::es) [] pos) (tE M (bArgs opInt1 fa) vs):=by
 refine pe_imp (pe_callTy call_int1 hg hm rfl ha (he:=he) (hpl:=hpl)) fun σ H Q h=>tCB_then (fun xs z c ws H fps fp Q ho tm nz zd lf=>?_) h
 unfold opInt1 at ho
 split at ho
 ·cases ho
  obtain ⟨v,r,f1,f2,rfl,rfl,_,o1,h2⟩:=tm
  obtain ⟨rfl,rfl⟩:=h2
  rw [Own] at o1
  exact .inr ⟨_,by rw [o1.1],leaf_int lf⟩
 ·cases ho
  obtain ⟨v,r,f1,f2,rfl,rfl,_,o1,h2⟩:=tm
  obtain ⟨rfl,rfl⟩:=h2
  rw [Own] at o1
  exact .inl ⟨_,by rw [o1.1],leaf_int lf⟩
 ·cases ho
end
open PySem PySem.Spec PyProof.Rows L2
section
variable {M:Fm}{fa:Fa}{vs:List Nat}
def spM (K:Frag) (F:Fn):Sp:=fun ws H Q _=>∃ x0 v0 fp0,ws=[v0]∧Own K H (fun _=>True) x0 om v0 fp0∧(match F [x0] with
 | .ok (y,_,_)=>atomic y=true∧∀ v H',Keep (fun a=>a∈fp0) H H'→(∀ a,H a≠none→H' a≠none)→Own K H' (fun _=>True) y om v []→Q v H'
 | _=>False)
end
open PySem PySem.Spec PyProof.Rows L2
section
variable {X:Cx}{M:Fm}{f g:Fx}{vs vs':List Nat}{σ:St}{H:Hp}{Q:VK}
end
open PySem PySem.Spec PyProof.Rows L2
section
variable {pg:Program}{wd:World}{Ar:Around}{Er:Value→Shared→Prop}{st:Shared}
end
section
variable {X:Cx}{M:Fm}{f:Fx}{vs:List Nat}{a:Expr}{pos p p2 pos2:Pos}
end
open PySem PySem.Spec PyProof.Rows L2
section
variable {prog:Program}{w:World}{A:Around}{E:Value→Shared→Prop}{s:Shared}{a₀:Array Keyed}
end
section
variable {prog:Program}{w:World}{A:Around}{E:Value→Shared→Prop}{s:Shared}
end
open PySem PySem.Spec PyProof.Rows L2
def ins (a:Int):List Int→List Int
 | []=>[a]
 | b::r=>if a≤b then a::b::r else b::ins a r
def srt:List Int→List Int
 | []=>[]
 | a::r=>ins a (srt r)
section
variable {X:Cx}{M:Fm}{fa:Fa}{vs:List Nat}{e:Expr}{es:List Expr}{pos p:Pos}
def SrtOk (ns:List Int):Prop:=ns.length < 64∨(ns.Pairwise (·≤·)∧ns.length≤sizeLine)
instance (ns:List Int):Decidable (SrtOk ns):=inferInstanceAs (Decidable (_∨_))
def opSrt:List (PV×Nat)→Option (PV×Nat)
 | [(.lst xs,_)]=>match intsOf xs with
  | some ns=>if SrtOk ns then some (.lst ((srt ns).map PV.int),om) else none
  | none=>none
 | _=>none
def maxI:Int→List Int→Int
 | n,[]=>n
 | n,m::r=>maxI (if m > n then m else n) r
theorem maxI_mem:∀ (r:List Int) (n:Int),maxI n r∈n::r
 | [],n=>List.mem_cons_self
 | m::r,n=>by
  have q:=maxI_mem r (if m > n then m else n)
  show maxI (if m > n then m else n) r∈_
  rcases List.mem_cons.mp q with z | z
  ·rw [z]
   split <;> simp
  ·simp [z]
theorem maxI_ge:∀ (r:List Int) (n:Int),∀ a∈n::r,a≤maxI n r
 | [],n,a,h=>by
  have e:a=n:=by simpa using h
  rw [e];exact Int.le_refl _
 | m::r,n,a,h=>by
  show a≤maxI (if m > n then m else n) r
  have q:=maxI_ge r (if m > n then m else n)
  have q1:=q _ List.mem_cons_self
  have q2:n≤(if m > n then m else n)∧m≤(if m > n then m else n):=by split <;> omega
  simp only [List.mem_cons] at h
  rcases h with z | z | z
  ·omega
  ·omega
  ·exact q a (List.mem_cons_of_mem _ z)
theorem call_maxL (hc:X.calm=true):CallR X (.builtin "max") (fun xs H Q=>∃ (q:Addr) (n:Int) (r:List Int),xs=[.ref q]∧SqL X.K H q ((n::r).map V.int)∧Q (.int (maxI n r)) H):=by
 intro pins s σ H xs us Q I rv h
 obtain ⟨q,n,r,rfl,hq,k0⟩:=h
 obtain ⟨u,rfl,rx⟩:=vals1 rv
 cases rx
 obtain ⟨its,rv2,pl,hz⟩:=I.list hq
 obtain ⟨zs,rfl,ez⟩:=ints_items rv2
 have e:(zs.map fun p=>Value.int p.1 p.2).toArray=intItems zs.toArray:=by simp [intItems]
 rw [e] at pl
 have hsz:zs.toArray.size=zs.length:=by simp
 have h0:0 < zs.length:=by
  cases zs with
  | nil=>cases ez
  | cons _ _=>simp
 refine max_intList (I.ok.hd hc) pl.isList (by simpa using h0) fun v h' tk hv k=>?_
 obtain ⟨l1,l2⟩:=argBest_gt (numAt zs.toArray) (zs.toArray.size - 1)
 obtain ⟨t,rfl⟩:=intItems_at hv
 generalize argBest (fun i j=>decide (numAt zs.toArray i > numAt zs.toArray j)) (zs.toArray.size - 1)=b at *
 have num:∀ j,(hj:j < zs.length)→numAt zs.toArray j=zs[j].1:=fun j hj=>by unfold numAt;simp [hj]
 have hm:numAt zs.toArray b∈n::r:=by
  rw [num b (by omega),← ez]
  exact List.mem_map.mpr ⟨_,List.getElem_mem _,rfl⟩
 have hg:∀ a∈n::r,a≤numAt zs.toArray b:=fun a ha=>by
  rw [← ez] at ha
  obtain ⟨z,hz',rfl⟩:=List.mem_map.mp ha
  obtain ⟨j,hj,rfl⟩:=List.getElem_of_mem hz'
  rw [← num j hj]
  exact l2 j (by omega)
 have eb:numAt zs.toArray b=maxI n r:=Int.le_antisymm (maxI_ge r n _ hm) (hg _ (maxI_mem r n))
 exact ⟨.int _,H,I.kept (t':=tk) k,⟨t,rfl⟩,by rw [eb];exact k0⟩
def opMax:List (PV×Nat)→Option (PV×Nat)
 | [(.lst xs,_)]=>match intsOf xs with
  | some (n::r)=>some (.int (maxI n r),om)
  | _=>none
 | xs=>op2 (fun i j=>if j > i then j else i) xs
theorem se_maxL (hc:X.calm=true) (hg:Gl X "max") (hm:X.mg "max" = none) (ha:PA X (e::es) (tL M fa vs)) (he:starEach (e::es) X.env=(false,eval e X.env)::starEach es X.env) (hpl:(backTo pos (starEach es X.env)).any (·.1)=false):
  PE X (.Call (.Name "max" p) (e::es) [] pos) (tE M (bArgs opMax fa) vs):=by
 refine pe_imp (pe_callB ((call_max2 hc).or (call_maxL hc)) hg hm rfl ha (he:=he) (hpl:=hpl)) fun σ H Q h=>tCB_then (fun xs z c ws H fps fp Q ho tm nz zd lf=>?_) h
 unfold opMax at ho
 split at ho
 ·rename_i xs d
  split at ho
  ·rename_i n r eb
   cases ho
   obtain ⟨v,r',f1,f2,rfl,rfl,_,o1,h2⟩:=tm
   obtain ⟨rfl,rfl⟩:=h2
   obtain ⟨q,us,rfl,hs,ol⟩:=(cold (fp:=f1) o1 fun a ha=>nz a (List.mem_append_left _ ha)).coldL
   have:=intsOf_own eb ol
   subst this
   exact .inr ⟨q,n,r,rfl,.inl (.inl hs),leaf_int lf⟩
  ·cases ho
 ·exact .inl (leaf_op2 ho tm lf)
end
open PySem PySem.Spec PyProof.Rows L2
section
variable {X:Cx}{M:Fm}{H:Hp}{σ:St}
variable {e:Expr}{es:List Expr}{fa:Fa}{vs:List Nat}{p pos:Pos}
end
open PySem PySem.Spec PyProof.Rows L2 PySem.Builtin PySem.Builtin.ObjectAttr PySem.Builtin.Getset_descriptor
section
variable {prog:Program}{w:World}{A:Around}{E:Value→Shared→Prop}{K:Frag}{h:Heap}{g:Array GenState}{d:Drawn}{t:Nat}{os:OsState}{a C:Addr}{oe:Obj}
theorem clsGet {R:Result→Shared→Prop} (X:K.In h) (he:h.get? a=some oe) (hc:oe.cls=.ref C) (hm:PySem.W.mroIn K C (.type "object")=some true) (hq:R (.ok (.ret (.ref C))) ⟨h,g,d,t,os⟩):
  codeAny (model prog w) A (.call (.builtin "getset_descriptor.__get__") ⟨[.builtin "object.__class__",.ref a,.ref C],[]⟩) R ⟨h,g,d,t,os⟩:=by
 have ty:PySem.W.Looks (model prog w) h (typeOf (.ref a)) (.ref C):=hc ▸ (PySem.W.Looks.ld he).andThen .now
 have mr:=PySem.W.looks_mroIn (M:=model prog w) X hm
 have pl:=PySem.W.KF.slot_gs.plain
 have en:=PySem.W.KF.entry_gs
 refine codeAny_call_builtin pl en (PySem.W.KF.slot_gs.check _ _ _ _ _ _ _ _
  PySem.W.KF.type_class (PySem.W.KF.args_gs _ _ _) ?_)
 unfold Builtin.«getset_descriptor.__get__»
 unfold descrGet
 rw [PySem.W.dga_obj]
 refine wpAny_bind (wpAny_pure ?_)
 unfold descrGetter descrCheckInstance
 unfold descrNameAndClass isInstance
 simp only [PySem.W.KF.owner_class]
 repeat lk
 refine ⟨Code.quiet_builtin _ (by decide +kernel),codeAny_builtin PySem.W.KF.entry_class ?_⟩
 unfold Builtin.«object.__class__»
 unfold shownTypeOf
 repeat lk
 exact hq
theorem clsEntry {tk:Tok}{Q:Fin→Shared→Prop} (X:K.In h) (he:h.get? a=some oe) (hc:oe.cls=.ref C) (hm:PySem.W.mroIn K C (.type "object")=some true) (hl:PySem.W.findIn K (.ref C) "__class__" = some (some (.builtin "object.__class__")))
  (hq:Q (.done (.ret (.ref C))) ⟨h,g,d,t,os⟩):wpAny (model prog w) A (Builtin.«object.__getattribute__» ⟨[.ref a,.str "__class__" tk],[]⟩) Q E ⟨h,g,d,t,os⟩:=by
 have hT5:(⟨h,g,d,t,os⟩:Shared).TypeIs (.builtin "object.__class__") "getset_descriptor" := F.typeOf_object_class
 have f5:=F.typeOf_object_class
 have f6:=F.slot_gs_get.lookup
 have f7:=F.slot_gs_set.lookup
 have L1:=PySem.W.looks_findIn (M:=model prog w) X hl
 repeat (any_goals (first | assumption | (with_reducible refine wpAny_loadPart_at he ?_;rw [hc]) | with_reducible refine L1.at ?_ | wp_step))
 refine clsGet X he hc hm ?_
 repeat (any_goals (first | assumption | wp_step))
theorem clsCheck {nameV:Value}{Q:Unit→Shared→Prop}{M:Model} (X:K.In h) (he:h.get? a=some oe) (hc:oe.cls=.ref C) (hb:PySem.W.mroIn K C (.type "BaseException")=some true) (hq:Q () ⟨h,g,d,t,os⟩):
  wpAny M A (checkBuiltinCall "BaseException.__getattribute__" ⟨[.ref a,nameV],[]⟩) Q E ⟨h,g,d,t,os⟩:=by
 have hk:builtinKind "BaseException.__getattribute__" = some .slot:=by decide +kernel
 have hsp:splitId "BaseException.__getattribute__" = some ("BaseException","__getattribute__"):=by decide +kernel
 have ha:=F.args_bexc_ga (.ref a) nameV
 have L1:=PySem.W.looks_mroIn (M:=M) X hb
 simp only [checkBuiltinCall,hk,hsp]
 refine wpAny_bind ?_
 unfold isInstance
 repeat (first | (with_reducible refine wpAny_loadPart_at he ?_;rw [hc]) | with_reducible refine L1.at ?_ | wp_step)
 exact hq
theorem clsBy {tk:Tok}{Q:Value→Shared→Prop} (X:K.In h) (he:h.get? a=some oe) (hc:oe.cls=.ref C) (hm:PySem.W.mroIn K C (.type "object")=some true) (hb:PySem.W.mroIn K C (.type "BaseException")=some true)
  (hl:PySem.W.findIn K (.ref C) "__class__" = some (some (.builtin "object.__class__"))) (hga:PySem.W.findIn K (.ref C) "__getattribute__" = some (some (.builtin "BaseException.__getattribute__"))) (hgh:PySem.W.findIn K (.ref C) "__getattr__" = some none)
  (hq:Q (.ref C) ⟨h,g,d,t,os⟩):wpAny (model prog w) A (getAttrBy (.ref a) (.str "__class__" tk) false) Q E ⟨h,g,d,t,os⟩:=by
 have f3:=PySem.F.attrBase_ValueError.ga.bind (.ref a)
 have L1:=PySem.W.looks_findIn (M:=model prog w) X hga
 have L2':=PySem.W.looks_findIn (M:=model prog w) X hgh
 have hx2:(Value.builtin "BaseException.__getattribute__" == Value.builtin "object.__getattribute__")=false:=by decide +kernel
 have hx1:(onTheHeap (Value.ref C) && Value.builtin "BaseException.__getattribute__" == Value.builtin "object.__getattribute__")=false:=by rw [hx2];rfl
 repeat (any_goals (first | assumption | (with_reducible refine wpAny_loadPart_at he ?_;rw [hc]) | with_reducible refine L1.at ?_ | with_reducible refine L2'.at ?_ | wp_step))
 refine codeAny_call_builtin PySem.F.attrBase_ValueError.ga.plain F.entry_bexc_ga (clsCheck X he hc hb (clsEntry X he hc hm hl ?_))
 repeat (any_goals (first | assumption | wp_step))
theorem clsAttr {Q:Option Value→Shared→Prop} (X:K.In h) (he:h.get? a=some oe) (hc:oe.cls=.ref C) (hm:PySem.W.mroIn K C (.type "object")=some true) (hb:PySem.W.mroIn K C (.type "BaseException")=some true)
  (hl:PySem.W.findIn K (.ref C) "__class__" = some (some (.builtin "object.__class__"))) (hga:PySem.W.findIn K (.ref C) "__getattribute__" = some (some (.builtin "BaseException.__getattribute__"))) (hgh:PySem.W.findIn K (.ref C) "__getattr__" = some none)
  (hq:Q (some (.ref C)) ⟨h,g,d,t + 1,os⟩):wpAny (model prog w) A (getAttr? (.ref a) "__class__") Q E ⟨h,g,d,t,os⟩:=by
 unfold getAttr?
 unfold getAttrBy?
 repeat (any_goals (first | assumption | with_reducible apply clsBy X he hc hm hb hl hga hgh | wp_step))
end
def clsGood (K:Frag) (C:Addr):Bool:=(PySem.W.clsIn K C).isSome && PySem.W.mroIn K C (.type "object") == some true && PySem.W.mroIn K C (.type "BaseException") == some true && PySem.W.findIn K (.ref C) "__class__" == some (some (.builtin "object.__class__")) &&
 PySem.W.findIn K (.ref C) "__getattribute__" == some (some (.builtin "BaseException.__getattribute__")) && PySem.W.findIn K (.ref C) "__getattr__" == some none
def clsV (K:Frag) (d:Nat) (u:Value):Bool:=(u == .type "ValueError" && d == 0) || (match clsOf K d with
 | some D=>u == .ref D
 | none=>false)
def xKit (K:Frag):Bool:=PySem.W.kitOne K (.type "NoneType") (.type "ValueError") == some false && (List.range 12).all fun c=>match clsOf K c with
 | some C=>clsGood K C && PySem.W.kitOne K (.type "NoneType") (.ref C) == some false && PySem.W.kitOne K (.ref C) (.type "ValueError") == some true && (List.range 12).all fun d=>(match clsOf K d with
  | some D=>PySem.W.kitOne K (.ref C) (.ref D) == some (isX c d)
  | none=>true)
 | none=>true
section
variable {K:Frag}{a C:Addr}{c d:Nat}{u:Value}
theorem xKit_at (t:xKit K=true) (e:clsOf K c=some C):clsGood K C=true∧PySem.W.kitOne K (.type "NoneType") (.ref C)=some false∧PySem.W.kitOne K (.ref C) (.type "ValueError")=some true∧∀ d D,clsOf K d=some D→PySem.W.kitOne K (.ref C) (.ref D)=some (isX c d):=by
 unfold xKit at t
 rw [Bool.and_eq_true] at t
 have h:=List.all_eq_true.mp t.2 c (List.mem_range.mpr (clsOf_lt e))
 rw [e] at h
 dsimp only at h
 simp only [Bool.and_eq_true] at h
 refine ⟨h.1.1.1,eq_of_beq h.1.1.2,eq_of_beq h.1.2,fun d D ed=>?_⟩
 have h2:=List.all_eq_true.mp h.2 d (List.mem_range.mpr (clsOf_lt ed))
 rw [ed] at h2
 exact eq_of_beq h2
theorem kit_exc (t:xKit K=true) (e:clsOf K c=some C) (hu:clsV K d u=true):PySem.W.kitOne K (.ref C) u=some (isX c d):=by
 obtain ⟨_,_,h3,h4⟩:=xKit_at t e
 unfold clsV at hu
 rw [Bool.or_eq_true] at hu
 rcases hu with hu | hu
 ·rw [Bool.and_eq_true] at hu
  rw [eq_of_beq hu.1,h3,eq_of_beq hu.2]
  simp [isX]
 ·split at hu
  ·rename_i D hD
   rw [eq_of_beq hu]
   exact h4 d D hD
  ·cases hu
theorem kit_non (t:xKit K=true) (hu:clsV K d u=true):PySem.W.kitOne K (.type "NoneType") u=some false:=by
 unfold clsV at hu
 rw [Bool.or_eq_true] at hu
 rcases hu with hu | hu
 ·rw [Bool.and_eq_true] at hu
  rw [eq_of_beq hu.1]
  unfold xKit at t
  rw [Bool.and_eq_true] at t
  exact eq_of_beq t.1
 ·split at hu
  ·rename_i D hD
   rw [eq_of_beq hu]
   exact (xKit_at t hD).2.1
  ·cases hu
def clsVs (K:Frag):List Nat→List Value→Bool
 | [],[]=>true
 | d::ds,u::us=>clsV K d u && clsVs K ds us
 | _,_=>false
theorem kit_excs (t:xKit K=true) (e:clsOf K c=some C):∀ {ds:List Nat}{us:List Value},clsVs K ds us=true→PySem.W.kitAny K (.ref C) us=some (ds.any (isX c))
 | [],[],_=>rfl
 | [],_::_,h=>by cases h
 | _::_,[],h=>by cases h
 | d::ds,u::us,h=>by
  unfold clsVs at h
  rw [Bool.and_eq_true] at h
  unfold PySem.W.kitAny
  rw [kit_exc t e h.1,List.any_cons]
  cases isX c d with
  | true=>rfl
  | false=>exact kit_excs t e h.2
theorem kit_nons (t:xKit K=true):∀ {ds:List Nat}{us:List Value},clsVs K ds us=true→PySem.W.kitAny K (.type "NoneType") us=some false
 | [],[],_=>rfl
 | [],_::_,h=>by cases h
 | _::_,[],h=>by cases h
 | d::ds,u::us,h=>by
  unfold clsVs at h
  rw [Bool.and_eq_true] at h
  unfold PySem.W.kitAny
  rw [kit_non t h.1]
  exact kit_nons t h.2
theorem cls_there (g:clsGood K C=true):∃ c0 dd cd sl,K.lookup C=some ⟨c0,dd,.cls cd,sl⟩:=by
 unfold clsGood at g
 simp only [Bool.and_eq_true] at g
 have h:=g.1.1.1.1.1
 unfold PySem.W.clsIn at h
 split at h
 ·rename_i q;exact ⟨_,_,_,_,q⟩
 ·cases h
theorem kitX_exc (g:clsGood K C=true):PySem.W.KitX K (.ref a) (.ref C) (ExcAt a C):=by
 obtain ⟨c0,dd,cd,sl,hl⟩:=cls_there g
 unfold clsGood at g
 simp only [Bool.and_eq_true] at g
 obtain ⟨⟨⟨⟨⟨_,g1⟩,g2⟩,g3⟩,g4⟩,g5⟩:=g
 refine ⟨fun M h _ p=>?_,fun M h X _=>?_,fun h tp dd' its n sl' X htp=>?_,fun {prog w A E Q s} X p k=>?_⟩
 ·obtain ⟨o,vs,h1,h2,_⟩:=p
  exact h2 ▸ (PySem.W.Looks.ld h1).andThen .now
 ·intro A' Q' E' s' kp q
  unfold isType
  unfold loadHead
  exact wpAny_bind (wpAny_loadPart (kp _ _ (X _ _ hl)) (wpAny_pure q))
 ·cases hb:(Value.ref C == Value.ref tp) with
  | false=>rfl
  | true=>
   have ec:C=tp:=Value.ref.inj (eq_of_beq hb)
   have z:=X _ _ hl
   rw [ec,htp] at z
   cases z
 ·obtain ⟨o,vs,h1,h2,_⟩:=p
  obtain ⟨hp,gg,dr,tt,oo⟩:=s
  exact clsAttr X h1 h2 (eq_of_beq g1) (eq_of_beq g2) (eq_of_beq g3) (eq_of_beq g4) (eq_of_beq g5) k
end
section
variable {X:Cx}
def IsQ (K:Frag) (v:V) (H:Hp) (Q:VK) (ds:List Nat):Prop:=(v=.non∧Q (.bl false) H)∨∃ a C c,v=.ref a∧clsOf K c=some C∧H a=some (.ext (ExcAt a C))∧Q (.bl (ds.any (isX c))) H
theorem excAt_of {pins:List (Addr×Obj)}{σ:St}{H:Hp}{s:Shared}{a C:Addr} (I:L2.Inv X pins σ H s) (h:H a=some (.ext (ExcAt a C))):ExcAt a C s.heap:=(I.hok a _ h).1
theorem call_isiX (t:xKit X.K=true):CallR X (.builtin "isinstance") (fun xs H Q=>∃ v cv d,xs=[v,cv]∧(∀ u,RelV cv u→clsV X.K d u=true)∧IsQ X.K v H Q [d]):=by
 intro pins s σ H xs us Q I r h
 obtain ⟨v,cv,d,rfl,hcv,h⟩:=h
 obtain ⟨u,w,rfl,r1,r2⟩:=vals2 r
 have hw:=hcv w r2
 rcases h with ⟨rfl,q⟩ | ⟨a,C,c,rfl,hC,ha,q⟩
 ·cases r1
  exact PySem.W.kia_one PySem.W.kitx_none I.kIn True.intro (kit_non t hw) (fun z=>nomatch z) fun tk=>⟨.bl false,H,I.tok _,rfl,q⟩
 ·obtain rfl:u=Value.ref a:=r1
  exact PySem.W.kia_one (kitX_exc (xKit_at t hC).1) I.kIn (excAt_of I ha) (kit_exc t hC hw) (fun z=>nomatch z) fun tk=>⟨.bl (isX c d),H,I.tok _,rfl,by simpa using q⟩
theorem call_isiXs (t:xKit X.K=true):CallR X (.builtin "isinstance") (fun xs H Q=>∃ v p cvs ds,xs=[v,.ref p]∧H p=some (.tup cvs)∧(∀ us,Vals cvs us→clsVs X.K ds us=true)∧IsQ X.K v H Q ds):=by
 intro pins s σ H xs us Q I r h
 obtain ⟨v,p,cvs,ds,rfl,hp,hcv,h⟩:=h
 obtain ⟨u,w,rfl,r1,r2⟩:=vals2 r
 obtain rfl:w=Value.ref p:=r2
 obtain ⟨_,its,rv,o,ho,hc,n,hd⟩:=I.hok p _ hp
 have hi:=hcv its rv
 have ho':s.heap.get? p=some ⟨.type "tuple",o.dict,.seq its.toArray n,o.slots⟩:=by
  rw [ho]
  obtain ⟨oc,od,oda,os⟩:=o
  dsimp only at hc hd
  rw [hc,hd]
 rcases h with ⟨rfl,q⟩ | ⟨a,C,c,rfl,hC,ha,q⟩
 ·cases r1
  exact PySem.W.kia_tup PySem.W.kitx_none I.kIn True.intro ho' (kit_nons t hi) (fun z=>nomatch z) fun tk=>⟨.bl false,H,I.tok _,rfl,q⟩
 ·obtain rfl:u=Value.ref a:=r1
  exact PySem.W.kia_tup (kitX_exc (xKit_at t hC).1) I.kIn (excAt_of I ha) ho' (kit_excs t hC hi) (fun z=>nomatch z) fun tk=>⟨.bl (ds.any (isX c)),H,I.tok _,rfl,q⟩
end
open PySem PySem.Spec PyProof.Rows L2
section
variable {X:Cx}{M:Fm}{f g:Fx}{vs vs':List Nat}{e:Expr}{es:List Expr}{pos p:Pos}{σ:St}{H:Hp}{Q:VK}
def opIsiX (ds:List Nat) (x:PV) (_:Nat):Option (PV×Nat):=match x with
 | .exn c=>some (.bl (ds.any (isX c)),om)
 | .non=>some (.bl false,om)
 | _=>none
theorem isq_of {K:Frag}{x z:PV}{ds:List Nat}{d c:Nat}{v:V}{Z:Addr→Prop}{H H':Hp}{f1:List Addr} (ho:opIsiX ds x d=some (z,c)) (o1:Own K H Z x d v f1) (k:∀ a o,H a=some o→H' a=some o) (q:∀ b,z=.bl b→Q (.bl b) H'):IsQ K v H' Q ds:=by
 cases x with
 | exn n=>
  cases ho
  rw [Own] at o1
  obtain ⟨_,a,C,rfl,hC,ha⟩:=o1
  exact .inr ⟨a,C,n,rfl,hC,k _ _ ha,q _ rfl⟩
 | non=>
  cases ho
  rw [Own] at o1
  obtain ⟨rfl,_⟩:=o1
  exact .inl ⟨rfl,q _ rfl⟩
 | _=>cases ho
theorem opIsiX_bl {ds:List Nat}{x z:PV}{d c:Nat} (ho:opIsiX ds x d=some (z,c)):∃ b,z=.bl b∧c=om:=by
 cases x with
 | exn n=>cases ho;exact ⟨_,rfl,rfl⟩
 | non=>cases ho;exact ⟨_,rfl,rfl⟩
 | _=>cases ho
theorem se_isiX {cv:V}{d:Nat}{T':Str}{p1 p2:Pos} (t:xKit X.K=true) (hK:M.K=X.K) (ha:PE X e (tE M f vs)) (hg:Gl X "isinstance") (hm:X.mg "isinstance" = none) (hc:PE X (.Name T' p2) (tC cv)) (hcv:∀ u,RelV cv u→clsV X.K d u=true)
  (hs1:starEach [e,.Name T' p2] X.env=[(false,eval e X.env),(false,eval (.Name T' p2) X.env)]) (hs2:starEach [Expr.Name T' p2] X.env=[(false,eval (.Name T' p2) X.env)]):
  PE X (.Call (.Name "isinstance" p1) [e,.Name T' p2] [] pos) (tE M (bUn (opIsiX [d]) f) vs):=by
 refine pe_imp (pe_callB (call_isiX t) hg hm rfl (pa_cons ha (pa_cons hc pa_nil hs2) (by rw [hs1,hs2])) (he:=by rw [hs1,hs2]) (hpl:=by rw [hs2];rfl)) fun σ H Q h=>?_
 refine tE_un (r:=fun v H Q=>∃ x c n,[v,cv]=[x,c]∧(∀ u,RelV c u→clsV X.K n u=true)∧IsQ X.K x H Q [n]) (fun x d' z c v H fps f1 Q ho o1 nz zd lf=>?_) h
 obtain ⟨b,rfl,rfl⟩:=opIsiX_bl ho
 exact ⟨v,cv,d,rfl,hcv,by rw [← hK];exact isq_of ho o1 (fun _ _ h=>h) fun b' e=>by cases e;exact leaf_bl lf⟩
def tVs (cvs:List V):TA:=fun _ H Q=>Q cvs H
theorem se_isiXs {cvs:List V}{ds:List Nat}{p1 p2:Pos}{k:Nat} (t:xKit X.K=true) (hK:M.K=X.K) (ha:PE X e (tE M f vs)) (hg:Gl X "isinstance") (hm:X.mg "isinstance" = none) (hc:PA X es (tVs cvs)) (hl:cvs.length≤sizeLine) (hcv:∀ us,Vals cvs us→clsVs X.K ds us=true)
  (hs1:starEach [e,.Tuple es k p2] X.env=[(false,eval e X.env),(false,eval (.Tuple es k p2) X.env)]) (hs2:starEach [Expr.Tuple es k p2] X.env=[(false,eval (.Tuple es k p2) X.env)]):
  PE X (.Call (.Name "isinstance" p1) [e,.Tuple es k p2] [] pos) (tE M (bUn (opIsiX ds) f) vs):=by
 refine pe_imp (pe_callB (call_isiXs t) hg hm rfl (pa_cons ha (pa_cons (pe_tup hc) pa_nil hs2) (by rw [hs1,hs2])) (he:=by rw [hs1,hs2]) (hpl:=by rw [hs2];rfl)) fun σ H Q h=>?_
 refine tE_un (r:=fun v H Q=>cvs.length≤sizeLine∧∀ q,H q=none→∃ x p' cvs' ds',[v,V.ref q]=[x,.ref p']∧upd H q (.tup cvs) p'=some (.tup cvs')∧(∀ us,Vals cvs' us→clsVs X.K ds' us=true)∧IsQ X.K x (upd H q (.tup cvs)) Q ds') (fun x d' z c v H fps f1 Q ho o1 nz zd lf=>?_) h
 obtain ⟨b,rfl,rfl⟩:=opIsiX_bl ho
 refine ⟨hl,fun q hq=>⟨v,q,cvs,ds,rfl,upd_same,hcv,?_⟩⟩
 have kk:∀ a o,H a=some o→upd H q (.tup cvs) a=some o:=fun a o h=>by rw [upd_ne (fun z=>by rw [z,hq] at h;cases h)];exact h
 rw [← hK]
 exact isq_of ho o1 kk fun b' e=>by cases e;exact lf (.bl b) _ [] kk (by rw [Own];exact ⟨rfl,rfl⟩) (fun _ z=>nomatch z)
end
open PySem PySem.Spec PyProof.Rows L2
section
variable {X:Cx}{M:Fm}{a b:Expr}{f g:Fx}{fa:Fa}{vs vs':List Nat}{pos p:Pos}{σ:St}{H:Hp}{Q:VK}{e:Expr}{es:List Expr}
def bDct:Fx:=fun ρ=>.ok (.dct [],om,ρ)
theorem se_dct:PE X (.Dict [] [] pos) (tE M bDct []):=by
 refine pe_imp pe_dnewT fun σ H Q h p hp=>?_
 obtain ⟨ρ,fps,rep,q⟩:=h
 refine q (.ref p) _ fps [p] (KD.grow (upd_keep hp)) Agr.refl (rep.grow (upd_keep hp)) ?_ ⟨fun a ha=>by rw [List.mem_singleton.mp ha];exact hp,fun a ha=>by rw [List.mem_singleton.mp ha];exact rep.nz hp⟩
 rw [Own]
 exact ⟨p,rfl,.inr ⟨by decide,upd_same,rfl⟩⟩
end
open PySem PySem.Spec PyProof.Rows L2
structure Sx where
 N:List Str
 sc:Scope
 ms:List Nat
 al:List (List Nat)
 Γ:List (Str×(Bool×Nat×Fn))
 Γm:List (Str×Fn)
 rz:Bool
 xc:List Nat
 pn:List Nat
def Sx.alF (S:Sx) (i:Nat):List Nat:=S.al.getD i []
def Sx.msF (S:Sx) (i:Nat):Bool:=S.ms.contains i
def kindIs (sc:Scope) (x:Str) (k:NameKind):Bool:=sc.names.lookup x == some k
def visB (sc:Scope) (x:Str):Bool:=kindIs sc x .local || kindIs sc x .cell || kindIs sc x .free
def ixOf (N:List Str) (x:Str):Option Nat:=N.findIdx? (·== x)
def Sx.slot (S:Sx) (x:Str):Option Nat:=if visB S.sc x && !(x == ("__debug__" : Str)) && !(x == ("__classdict__" : Str)) then ixOf S.N x else none
def Sx.glob (S:Sx) (x:Str):Bool:=kindIs S.sc x .globalImplicit
def bnames:List Str:=["len","isinstance","all","max","min","tuple","list","range","int","bool","str","dict","sum","enumerate","zip","reversed","set","ValueError","sorted","abs"]
structure XS (X:Cx) (P:Program) (w:World) (K:Frag) (mg:Str→Option Value) (base:Heap) (lvl:Nat) (S:Sx) (Wx:St→Nat→Hp→Prop):Prop where
 prog:X.prog=P
 w:X.w=w
 K:X.K=K
 mg:X.mg=mg
 base:X.base=base
 N:X.N=S.N
 sc:X.env.scope=S.sc
 calm:X.calm=true
 room:Room lvl X.A
 po:PassesOwn (model X.prog X.w) X.A X.env X.xe
 ps:PassesX (CXr X.prog X.w X.K) X Wx
 rs:S.rz=true→RaiseOk X Wx
structure MS (M:Fm) (K:Frag) (S:Sx) (Wx:St→Nat→Hp→Prop):Prop where
 K:M.K=K
 ms:M.Ms=S.msF
 al:∀ i,i < S.N.length→M.al i=S.alF i
 als:∀ i,∀ j∈M.al i,M.Ms j=false
 W:M.W=Wx
 pn:∀ p∈M.pn,p.1 < S.N.length
def GSm (P:Program) (w:World) (K:Frag) (mg:Str→Option Value) (base:Heap) (lvl:Nat) (Γm:List (Str×Fn)):Prop:=
 ∀ x F,Γm.lookup x=some F→(x == ("__debug__" : Str))=false∧∃ fa fd ps,mg x=some (.ref fa)∧PySem.W.keepIn K (.ref fa)=true∧Binds K fd ps []∧FnOk P w K mg base (CXr P w K) lvl fa fd ps (spM K F)
def GX (K:Frag) (mg:Str→Option Value) (xc:List Nat):Prop:=xc≠[]→xTab K=true∧xKit K=true∧∀ c∈xc,∃ x C,XN[c]?=some x∧clsOf K c=some C∧mg x=some (.ref C)∧(x == ("__debug__" : Str))=false
def GS (P:Program) (w:World) (K:Frag) (mg:Str→Option Value) (base:Heap) (lvl:Nat) (Γ:List (Str×(Bool×Nat×Fn))):Prop:=
 (∀ x∈bnames,mg x=none)∧∀ x io n F,Γ.lookup x=some (io,n,F)→(x == ("__debug__" : Str))=false∧(∀ xs,xs.length≠n→F xs=.no) ∧
  ∃ fa fd ps,mg x=some (.ref fa)∧PySem.W.keepIn K (.ref fa)=true∧Binds K fd ps []∧ps.length=n∧FnOk P w K mg base (CXr P w K) lvl fa fd ps (spF K io n F)
section
variable {X:Cx}{P:Program}{w:World}{K:Frag}{mg:Str→Option Value}{base:Heap}{lvl:Nat}{S:Sx}{Wx:St→Nat→Hp→Prop}{M:Fm}
theorem kindIs_iff {sc:Scope}{x:Str}{k:NameKind} (h:kindIs sc x k=true):sc.names.lookup x=some k:=by
 unfold kindIs at h
 exact eq_of_beq h
theorem vis_of {sc:Scope}{x:Str} (h:visB sc x=true):Vis sc x:=by
 unfold visB at h
 rw [Bool.or_eq_true,Bool.or_eq_true] at h
 rcases h with (h | h) | h
 ·exact .inl (kindIs_iff h)
 ·exact .inr (.inl (kindIs_iff h))
 ·exact .inr (.inr (kindIs_iff h))
theorem ixOf_get {N:List Str}{x:Str}{i:Nat} (h:ixOf N x=some i):N[i]?=some x:=by
 unfold ixOf at h
 rw [List.findIdx?_eq_some_iff_getElem] at h
 obtain ⟨hi,e,_⟩:=h
 have:N[i]=x:=eq_of_beq e
 rw [List.getElem?_eq_getElem hi,this]
theorem XS.var (xs:XS X P w K mg base lvl S Wx) {x:Str}{i:Nat}{pos:Pos} (h:S.slot x=some i):PE X (.Name x pos) (tVar i):=by
 unfold Sx.slot at h
 split at h
 ·rename_i hc
  simp only [Bool.and_eq_true,Bool.not_eq_true'] at hc
  exact pe_var (by rw [xs.N];exact ixOf_get h) (by rw [xs.sc];exact vis_of hc.1.1) hc.1.2 hc.2
 ·cases h
theorem XS.gl (xs:XS X P w K mg base lvl S Wx) {x:Str} (h:S.glob x=true):Gl X x:=by
 show X.env.scope.names.lookup x=_
 rw [xs.sc]
 exact kindIs_iff h
theorem star_one {e:Expr}{es:List Expr}{env:Env} (h:∀ x p,e≠.Starred x p):starEach (e::es) env=(false,eval e env)::starEach es env:=by
 cases e with
 | Starred x p=>exact absurd rfl (h x p)
 | _=>rfl
def noStar:Expr→Bool
 | .Starred _ _=>false
 | _=>true
theorem noStar_iff {e:Expr} (h:noStar e=true):∀ x p,e≠.Starred x p:=fun x p z=>by rw [z] at h;cases h
theorem star_any {env:Env}{pos:Pos}:∀ {es:List Expr},es.all noStar=true→(backTo pos (starEach es env)).any (·.1)=false
 | [],_=>rfl
 | e::es,h=>by
  rw [List.all_cons,Bool.and_eq_true] at h
  rw [star_one (noStar_iff h.1)]
  show (false || (backTo pos (starEach es env)).any (·.1))=false
  rw [star_any h.2]
  rfl
def noSlice:Expr→Bool
 | .Slice _ _ _ _=>false
 | _=>true
theorem plainIx_of {b:Expr} (h:noSlice b=true):PlainIx b:=by
 intro o i
 cases b with
 | Slice _ _ _ _=>cases h
 | _=>rfl
def binOf:Operator→Option (PV→Nat→PV→Nat→Option (PV×Nat))
 | .Add=>some opAdd
 | .Sub=>some opSub
 | .Mult=>some opMul
 | .FloorDiv=>some opFdiv
 | .Mod=>some opMod
 | .Pow=>some opPow
 | _=>none
theorem se_op {a b:Expr}{op:Operator}{o:PV→Nat→PV→Nat→Option (PV×Nat)}{f g:Fx}{vs vs':List Nat}{pos:Pos} (h:binOf op=some o) (hv:∀ i∈vs,M.Ms i=false) (hK:M.K=X.K) (ha:PE X a (tE M f vs)) (hb:PE X b (tE M g vs')):PE X (.BinOp a op b pos) (tE M (bBin o f g) (vs++vs')):=by
 cases op <;> cases h
 ·exact se_add hv hK ha hb
 ·exact se_int op_sub' (fun _ _ _=>trivial) hv ha hb
 ·exact se_mul hv ha hb
 ·exact se_int op_mod (fun _ _=>cMod) hv ha hb
 ·exact se_int op_pow (fun _ _=>cPow) hv ha hb
 ·exact se_int op_fdiv2 (fun _ _=>cDiv) hv ha hb
def cmpOf (b:Expr):CmpOp→Option (PV→Nat→PV→Nat→Option (PV×Nat))
 | .Lt=>some (opCmp fun i j=>decide (i < j))
 | .LtE=>some (opCmp fun i j=>decide (i≤j))
 | .Gt=>some (opCmp fun i j=>decide (j < i))
 | .GtE=>some (opCmp fun i j=>decide (j≤i))
 | .Eq=>some (opEq false)
 | .NotEq=>some (opEq true)
 | _=>none
theorem cmp_rule {op:CmpOp}{o:PV→Nat→PV→Nat→Option (PV×Nat)}{f g:Fx}{vs vs':List Nat}{b:Expr} (h:cmpOf b op=some o) (hu:X.A.units + 64 < cLine) (hv:∀ i∈vs,M.Ms i=false) (hK:M.K=X.K):
  ∃ r,OpR X (compareOp op) r∧behindInMarks op b=false∧∀ σ H Q,tE M (bBin o f g) (vs++vs') σ H Q→tOp r (tE M f vs) (tE M g vs') σ H Q:=by
 cases op
 ·cases h;exact ⟨_,op_eqD hu,nobehind _ (by decide) (by decide),fun σ H Q h=>tE_bin hv (fun x d y e z c v w H fps f1 f2 Q ho o1 o2 dj nz zd lf=>leaf_eqD hK ho o1 o2 lf) h⟩
 ·cases h;exact ⟨_,op_neD hu,nobehind _ (by decide) (by decide),fun σ H Q h=>tE_bin hv (fun x d y e z c v w H fps f1 f2 Q ho o1 o2 dj nz zd lf=>leaf_eqD hK ho o1 o2 lf) h⟩
 ·cases h;exact ⟨_,op_lt,nobehind _ (by decide) (by decide),fun σ H Q h=>tE_bin hv (fun x d y e z c v w H fps f1 f2 Q ho o1 o2 dj nz zd lf=>leaf_cmp ho o1 o2 lf) h⟩
 ·cases h;exact ⟨_,op_le,nobehind _ (by decide) (by decide),fun σ H Q h=>tE_bin hv (fun x d y e z c v w H fps f1 f2 Q ho o1 o2 dj nz zd lf=>leaf_cmp ho o1 o2 lf) h⟩
 ·cases h;exact ⟨_,op_gt,nobehind _ (by decide) (by decide),fun σ H Q h=>tE_bin hv (fun x d y e z c v w H fps f1 f2 Q ho o1 o2 dj nz zd lf=>leaf_cmp ho o1 o2 lf) h⟩
 ·cases h;exact ⟨_,op_ge,nobehind _ (by decide) (by decide),fun σ H Q h=>tE_bin hv (fun x d y e z c v w H fps f1 f2 Q ho o1 o2 dj nz zd lf=>leaf_cmp ho o1 o2 lf) h⟩
 ·cases h
 ·cases h
 ·cases h
 ·cases h
def icmp:CmpOp→Option (Int→Int→Bool)
 | .Lt=>some fun i j=>decide (i < j)
 | .LtE=>some fun i j=>decide (i≤j)
 | .Gt=>some fun i j=>decide (j < i)
 | .GtE=>some fun i j=>decide (j≤i)
 | .Eq=>some fun i j=>decide (i=j)
 | _=>none
theorem op_eqI0:OpR X (compareOp .Eq) (rI0 fun i j=>.bl (decide (i=j))):=fun pins s σ H x y v u Q I rx ry h=>op_eq pins s σ H x y v u Q I rx ry (by
 obtain ⟨i,j,rfl,rfl,q⟩:=h
 refine ⟨rfl,?_⟩
 rw [dec_int]
 exact q)
theorem icmp_rule {op:CmpOp}{p:Int→Int→Bool} (h:icmp op=some p):OpR X (compareOp op) (rI0 fun i j=>.bl (p i j))∧op≠.In∧op≠.NotIn:=by
 cases op <;> cases h
 ·exact ⟨op_eqI0,by decide,by decide⟩
 ·exact ⟨op_lt,by decide,by decide⟩
 ·exact ⟨op_le,by decide,by decide⟩
 ·exact ⟨op_gt,by decide,by decide⟩
 ·exact ⟨op_ge,by decide,by decide⟩
def bChain (p q:Int→Int→Bool) (f g h:Fx):Fx:=fun ρ=>(f ρ).bind fun (x,_,ρ1)=>(g ρ1).bind fun (y,_,ρ2)=>match x,y with
 | .int i,.int j=>if p i j=true then (h ρ2).bind fun (z,_,ρ3)=>(match z with
  | .int k=>.ok (.bl (q j k),om,ρ3)
  | _=>.no) else .ok (.bl false,om,ρ2)
 | _,_=>.no
theorem tE_chain {p q:Int→Int→Bool}{f g h:Fx}{vs v1 v2 v3:List Nat}{σ:St}{H:Hp}{Q:VK} (hq:tE M (bChain p q f g h) vs σ H Q):tChain (rI0 fun i j=>.bl (p i j)) (rI0 fun i j=>.bl (q i j)) (tE M f v1) (tE M g v2) (tE M h v3) σ H Q:=by
 obtain ⟨ρ,fps,rep,qq⟩:=hq
 refine ⟨ρ,fps,rep,?_⟩
 unfold bChain at qq
 cases ef:f ρ with
 | no=>rw [ef] at qq;exact qq
 | exc c=>rw [ef] at qq;exact qq
 | ok p0=>
  obtain ⟨x,d,ρ1⟩:=p0
  rw [ef] at qq
  intro v H1 fps1 f1 k1 g1 rep1 o1 t1
  refine ⟨ρ1,fps1,rep1,?_⟩
  dsimp only [Rz.bind] at qq
  cases eg:g ρ1 with
  | no=>rw [eg] at qq;exact qq
  | exc c=>rw [eg] at qq;exact fun H' fps' k=>qq H' fps' (k1.trans k)
  | ok p2=>
   obtain ⟨y,e,ρ2⟩:=p2
   rw [eg] at qq
   intro w H2 fps2 f2 k2 g2 rep2 o2 t2
   cases x with
   | int i=>
    cases y with
    | int j=>
     dsimp only at qq
     rw [Own] at o1 o2
     obtain ⟨rfl,rfl⟩:=o1
     obtain ⟨rfl,rfl⟩:=o2
     refine ⟨i,j,rfl,rfl,p i j,rfl,?_⟩
     by_cases hp:p i j=true
     ·rw [if_pos hp] at qq ⊢
      refine ⟨ρ2,fps2,rep2,?_⟩
      cases eh:h ρ2 with
      | no=>rw [eh] at qq;exact qq
      | exc c=>rw [eh] at qq;exact fun H' fps' k=>qq H' fps' ((k1.trans k2).trans k)
      | ok p3=>
       obtain ⟨z,c,ρ3⟩:=p3
       rw [eh] at qq
       intro u H3 fps3 f3 k3 g3 rep3 o3 t3
       cases z with
       | int k=>
        dsimp only at qq
        rw [Own] at o3
        obtain ⟨rfl,rfl⟩:=o3
        exact ⟨j,k,rfl,rfl,qq _ H3 fps3 [] ((k1.trans k2).trans k3) ((g1.trans g2).trans g3) rep3 (by rw [Own];exact ⟨rfl,rfl⟩) ⟨fun _ z=>(nomatch z),fun _ z=>nomatch z⟩⟩
       | _=>exact qq.elim
     ·rw [if_neg hp] at qq ⊢
      exact qq _ H2 fps2 [] (k1.trans k2) (g1.trans g2) rep2 (by rw [Own];exact ⟨rfl,rfl⟩) ⟨fun _ z=>(nomatch z),fun _ z=>nomatch z⟩
    | _=>exact qq.elim
   | _=>exact qq.elim
def bAndV (f g:Fx):Fx:=fun ρ=>(f ρ).bind fun (x,_,ρ1)=>match x with
 | .bl true=>g ρ1
 | .bl false=>.ok (.bl false,om,ρ1)
 | _=>.no
def bOrV (f g:Fx):Fx:=fun ρ=>(f ρ).bind fun (x,_,ρ1)=>match x with
 | .bl true=>.ok (.bl true,om,ρ1)
 | .bl false=>g ρ1
 | _=>.no
def opNot:PV→Nat→Option (PV×Nat)
 | .bl b,_=>some (.bl (!b),om)
 | _,_=>none
variable {f g:Fx}{vs vs':List Nat}{σ:St}{H:Hp}{Q:VK}
theorem tE_from {f:Fx}{ρ ρ1:Rho}{fps fps1:Fps}{H H1:Hp} (k1:KD M H fps H1 fps1) (g1:Agr M ρ ρ1) (rep1:Rep M ρ1 σ H1 fps1) (hs:∀ i∈vs,i∈vs')
  (q:match f ρ1 with
   | .ok (x,d,ρ')=>∀ v H' fps' fp,KD M H fps H' fps'→Agr M ρ ρ'→Rep M ρ' σ H' fps'→Own M.K H' (Zt M vs' fps' fp) x d v fp→Temp M vs' H H' fps' fp→Q v H'
   | .exc c=>∀ H' fps',KD M H fps H' fps'→M.W σ c H'
   | .no=>False):tE M f vs σ H1 Q:=by
 refine ⟨ρ1,fps1,rep1,?_⟩
 cases eg:f ρ1 with
 | no=>rw [eg] at q;exact q
 | exc c=>rw [eg] at q;exact fun H' fps' k=>q H' fps' (k1.trans k)
 | ok p2=>
  obtain ⟨x,d,ρ2⟩:=p2
  rw [eg] at q
  exact fun v H' fps' fp k g r o t=>q v H' fps' fp (k1.trans k) (g1.trans g) r (o.weak fun a h=>Zt.mono hs h) ⟨fun a ha=>(by
   have e:=t.new a ha
   cases e':H a with
   | none=>rfl
   | some o=>exact absurd e (k1.dom a (by rw [e'];simp))),t.ndj⟩
theorem tE_andV (hq:tE M (bAndV f g) (vs++vs') σ H Q):tAndV (tE M f vs) (tE M g vs') σ H Q:=by
 obtain ⟨ρ,fps,rep,q⟩:=hq
 refine ⟨ρ,fps,rep,?_⟩
 unfold bAndV at q
 cases ef:f ρ with
 | no=>rw [ef] at q;exact q
 | exc c=>rw [ef] at q;exact q
 | ok p=>
  obtain ⟨x,d,ρ1⟩:=p
  rw [ef] at q
  intro v H1 fps1 f1 k1 g1 rep1 o1 t1
  dsimp only [Rz.bind] at q
  cases x with
  | bl b=>
   rw [Own] at o1
   refine ⟨b,o1.1,?_⟩
   cases b with
   | true=>exact tE_from k1 g1 rep1 (fun i hi=>List.mem_append_right _ hi) q
   | false=>exact q (.bl false) H1 fps1 [] k1 g1 rep1 (by rw [Own];exact ⟨rfl,rfl⟩) ⟨fun _ z=>(nomatch z),fun _ z=>nomatch z⟩
  | _=>exact q.elim
theorem tE_orV (hq:tE M (bOrV f g) (vs++vs') σ H Q):tOrV (tE M f vs) (tE M g vs') σ H Q:=by
 obtain ⟨ρ,fps,rep,q⟩:=hq
 refine ⟨ρ,fps,rep,?_⟩
 unfold bOrV at q
 cases ef:f ρ with
 | no=>rw [ef] at q;exact q
 | exc c=>rw [ef] at q;exact q
 | ok p=>
  obtain ⟨x,d,ρ1⟩:=p
  rw [ef] at q
  intro v H1 fps1 f1 k1 g1 rep1 o1 t1
  dsimp only [Rz.bind] at q
  cases x with
  | bl b=>
   rw [Own] at o1
   refine ⟨b,o1.1,?_⟩
   cases b with
   | false=>exact tE_from k1 g1 rep1 (fun i hi=>List.mem_append_right _ hi) q
   | true=>exact q (.bl true) H1 fps1 [] k1 g1 rep1 (by rw [Own];exact ⟨rfl,rfl⟩) ⟨fun _ z=>(nomatch z),fun _ z=>nomatch z⟩
  | _=>exact q.elim
theorem tE_notV (hq:tE M (bUn opNot f) vs σ H Q):tNotV (tE M f vs) σ H Q:=by
 refine tE_un (r:=fun x H1 Q=>∃ c,x=.bl c∧Q (.bl (!c)) H1) (fun x d z c v H fps f1 Q ho o1 nz zd lf=>?_) hq
 cases x with
 | bl b=>cases ho;rw [Own] at o1;exact ⟨b,o1.1,leaf_bl lf⟩
 | _=>cases ho
end
open PySem PySem.Spec PyProof.Rows L2
abbrev D2:=Fx×List Nat
def denLW (d:Expr→Option D2):List Expr→Option (Fa×List Nat)
 | []=>some (aNil,[])
 | e::es=>match d e,denLW d es with
  | some (f,v),some (fa,u)=>some (aCons f fa,v++u)
  | _,_=>none
def denAnd (d:Expr→Option D2):List Expr→Option D2
 | []=>none
 | [e]=>d e
 | e::es=>match d e,denAnd d es with
  | some (f,v),some (g,u)=>some (bAndV f g,v++u)
  | _,_=>none
def denOr (d:Expr→Option D2):List Expr→Option D2
 | []=>none
 | [e]=>d e
 | e::es=>match d e,denOr d es with
  | some (f,v),some (g,u)=>some (bOrV f g,v++u)
  | _,_=>none
def denC:Const→Option D2
 | .int i=>some (bC (.int i),[])
 | .bool b=>some (bC (.bl b),[])
 | .none=>some (bC .non,[])
 | .str x=>some (bC (.str x),[])
 | _=>none
def tyOf (x:Str):Option String:=if x = "int" then some "int" else if x = "bool" then some "bool" else if x = "str" then some "str" else if x = "list" then some "list" else if x = "tuple" then some "tuple" else if x = "dict" then some "dict" else none
def bopOf (x:Str):Option (List (PV×Nat)→Option (PV×Nat)):=
 if x = "len" then some opLen else if x = "all" then some opAll else if x = "max" then some opMax else if x = "min" then some opMin else if x = "sum" then some opSum
 else if x = "tuple" then some opTupC else if x = "list" then some opLstC else if x = "int" then some opInt1 else none
def relabelS (scope sc:Scope):Scope:={ scope with names:=scope.names.map fun (n,k)=>if (k == .free && sc.kind == .function && sc.names.lookup n == some .cell) then (n,.cell) else (n,k) }
def junk (i:Nat):Str:=⟨#[2000000 + i]⟩
def hideN (sc':Scope):Nat→List Str→List Str
 | _,[]=>[]
 | i,x::r=>(if kindIs sc' x .cell || kindIs sc' x .free then x else junk i)::hideN sc' (i + 1) r
def namesOf:List Expr→Option (List Str)
 | []=>some []
 | .Name x _::r=>(namesOf r).map (x::·)
 | _=>none
def tgA (n:Nat):Expr→Option (List Str×(PV→Rho→Option Rho))
 | .Name x _=>some ([x],asgN n)
 | .Tuple es _ _=>(namesOf es).map fun xs=>(xs,asgT (List.range' n xs.length))
 | _=>none
def isTg:Expr→Bool
 | .Tuple _ _ _=>true
 | _=>false
def compS (S:Sx) (scope:Scope) (xs:List Str) (vI:List Nat):Sx:=⟨hideN (relabelS scope S.sc) 0 S.N++xs,relabelS scope S.sc,S.ms,(List.range S.N.length).map S.alF++List.replicate xs.length vI,S.Γ,S.Γm,false,S.xc,S.pn⟩
def compChk (S:Sx) (scope:Scope) (xs:List Str) (vI:List Nat):Bool:=
 let S':=compS S scope xs vI
 decide (scope.kind=.function) && scope.names.all (fun x=>x.2 != .free || !(scope.names.contains (x.1,.cell))) && scope.names.all (fun x=>x.2 != .local || scope.names.lookup x.1 == some .local)
 && scope.names.all (fun x=>x.2 != .free || (S.sc.names.lookup x.1 == some .cell || S.sc.names.lookup x.1 == some .free))
 && (List.range S.N.length).all (fun i=>match S'.N[i]? with
  | some x=>!visB S'.sc x || (decide (S.N[i]?=some x) && visB S.sc x && scope.names.contains (x,.free) && !kindIs S'.sc x .local)
  | none=>true)
 && decide S'.N.Nodup && xs.all (fun x=>kindIs S'.sc x .local || (kindIs S'.sc x .cell && scope.names.contains (x,.cell))) && decide (S.N.length≠0) && (S.ms.all fun i=>decide (i < S.N.length))
inductive Iw where
 | rng (en:List (PV×Nat)→Option (Int×Int)) (fa:Fa) (vs:List Nat)
 | seq (f:Fx) (vs:List Nat)
 | vw (v:Vw) (fa:Fa) (vs:List Nat)
def Iw.vs:Iw→List Nat
 | .rng _ _ _=>[]
 | .seq _ vs=>vs
 | .vw _ _ vs=>vs
def twOk (tg:Expr):Iw→Bool
 | .vw .enm _ _=>isTg tg
 | .vw .zp _ _=>isTg tg
 | _=>true
def denI (d:Expr→Option D2) (S:Sx) (it:Expr):Option Iw:=match it with
 | .Call (.Name x _) [a] [] _=>if x = "range" ∧ S.glob "range" = true then (match denLW d [a] with
   | some (fa,vs)=>some (.rng ends1 fa vs)
   | none=>none) else (match d it with
   | some (f,vs)=>some (.seq f vs)
   | none=>none)
 | .Call (.Name x _) [a,b] [] _=>if x = "range" ∧ S.glob "range" = true then (match denLW d [a,b] with
   | some (fa,vs)=>some (.rng ends2 fa vs)
   | none=>none) else (match d it with
   | some (f,vs)=>some (.seq f vs)
   | none=>none)
 | _=>match d it with
   | some (f,vs)=>some (.seq f vs)
   | none=>none
def bComp (iw:Iw) (k:Nat) (asg:PV→Rho→Option Rho) (test:Fb) (elt:Fx):Fx:=match iw with
 | .rng en fa _=>bCompR en fa k asg test elt
 | .seq f _=>bCompS f k asg test elt
 | .vw v fa _=>bCompV v fa k asg test elt
def tTrue:Fb:=fun ρ=>.ok (true,ρ)
def denIfs (d:Expr→Option D2):List Expr→Option Fb
 | []=>some tTrue
 | [c]=>(d c).map fun p=>bT p.1
 | _=>none
def bMs (j:Nat) (i:Int):Fx:=fun ρ=>match ρ[j]? with
 | some (some (.lst xs,_))=>(match atI xs i with
  | some z=>if atomic z=true then .ok (z,om,ρ) else .no
  | none=>.no)
 | _=>.no
def isNeg1:Expr→Bool
 | .UnaryOp .USub c _=>(match c with
  | .Constant k _ _=>(match k with
   | .int i=>i == 1
   | _=>false)
  | _=>false)
 | _=>false
theorem isNeg1_eq {e:Expr} (h:isNeg1 e=true):∃ k p3 p4,e=.UnaryOp .USub (.Constant (.int 1) k p3) p4:=by
 unfold isNeg1 at h
 split at h
 ·split at h
  ·split at h
   ·rename_i i
    have:i=1:=eq_of_beq h
    subst this
    exact ⟨_,_,_,rfl⟩
   ·cases h
  ·cases h
 ·cases h
def nmE:Expr→Option Str
 | .Name x _=>some x
 | _=>none
theorem nmE_eq {e:Expr}{x:Str} (h:nmE e=some x):∃ p,e=.Name x p:=by
 cases e <;> first | (cases h;exact ⟨_,rfl⟩) | (cases h)
def ixC:Expr→Option Int
 | .Constant c _ _=>(match c with
  | .int i=>some i
  | _=>none)
 | _=>none
theorem ixC_eq {e:Expr}{i:Int} (h:ixC e=some i):∃ k p,e=.Constant (.int i) k p:=by
 unfold ixC at h
 split at h
 ·split at h
  ·cases h;exact ⟨_,_,rfl⟩
  ·cases h
 ·cases h
def denSlc (d:Sx→Expr→Option D2) (S:Sx) (a:Expr):Option Expr→Option Expr→Option Expr→Option D2
 | none,some hi,none=>match d S a,d S hi with
  | some (f,v),some (g,_)=>some (bSl f none (some g),v)
  | _,_=>none
 | some lo,none,none=>match d S a,d S lo with
  | some (f,v),some (g,_)=>some (bSl f (some g) none,v)
  | _,_=>none
 | some lo,some hi,none=>match d S a,d S lo,d S hi with
  | some (f,v),some (g,_),some (h,_)=>some (bSl f (some g) (some h),v)
  | _,_,_=>none
 | none,none,some st=>if isNeg1 st=true then (match d S a with
  | some (f,v)=>some (bUn opRv f,v)
  | none=>none) else none
 | _,_,_=>none
def denSub (d:Sx→Expr→Option D2) (S:Sx) (a b:Expr):Option D2:=match b with
 | .Slice lo hi st _=>denSlc d S a lo hi st
 | b=>match nmE a,ixC b with
  | some x,some i=>(match S.slot x with
   | some j=>if S.msF j=true then some (bMs j i,[]) else some (bBin opIdx (bVar j) (bC (.int i)),(j::S.alF j)++[])
   | none=>none)
  | _,_=>match d S a,d S b with
   | some (f,v),some (g,u)=>if noSlice b=true then some (bBin opIdx f g,v++u) else none
   | _,_=>none
def clsNo (S:Sx) (T:Str):Option Nat:=if S.glob T=true∧S.xc≠[] then (if T = "ValueError" then some 0 else match XN.findIdx? (·== T) with
 | some c=>if S.xc.contains c=true then some c else none
 | none=>none) else none
def clsNos (S:Sx):List Expr→Option (List Nat)
 | []=>some []
 | e::r=>match nmE e,clsNos S r with
  | some T,some ds=>(clsNo S T).map (·::ds)
  | _,_=>none
def denIsi (d:Expr→Option D2) (S:Sx) (e c:Expr):Option D2:=match d e with
 | some (f,v)=>if S.glob "isinstance" = true then (match c with
  | .Name T _=>(match tyOf T with
   | some t=>if S.glob T=true then some (bUn (opIsi t) f,v) else none
   | none=>(clsNo S T).map fun n=>(bUn (opIsiX [n]) f,v))
  | .Tuple es _ _=>if es.length≤100∧es≠[] then (clsNos S es).map fun ns=>(bUn (opIsiX ns) f,v) else none
  | _=>none) else none
 | none=>none
def denStep (d:Sx→Expr→Option D2) (S:Sx):Expr→Option D2
 | .Constant c _ _=>denC c
 | .Name x _=>match S.slot x with
  | some i=>if S.msF i=true then none else some (bVar i,i::S.alF i)
  | none=>none
 | .BinOp a op b _=>match d S a,d S b,binOf op with
  | some (f,v),some (g,u),some o=>some (bBin o f g,v++u)
  | _,_,_=>none
 | .UnaryOp .USub a _=>match d S a with
  | some (f,v)=>some (bUn opNeg f,v)
  | none=>none
 | .UnaryOp .Not a _=>match d S a with
  | some (f,v)=>some (bUn opNot f,v)
  | none=>none
 | .BoolOp .And es _=>denAnd (d S) es
 | .BoolOp .Or es _=>denOr (d S) es
 | .Compare a [op] [b] _=>match d S a,d S b,cmpOf b op with
  | some (f,v),some (g,u),some o=>some (bBin o f g,v++u)
  | _,_,_=>none
 | .Compare a [op,op'] [b,c] _=>match d S a,d S b,d S c,icmp op,icmp op' with
  | some (f,_),some (g,_),some (h,_),some p,some q=>some (bChain p q f g h,[])
  | _,_,_,_,_=>none
 | .List es _=>match denLW (d S) es with
  | some (fa,v)=>some (bArgs opLst fa,v)
  | none=>none
 | .Tuple es _ _=>match denLW (d S) es with
  | some (fa,v)=>some (bArgs opTup fa,v)
  | none=>none
 | .Dict [] [] _=>some (bC .emp,[])
 | .Dict [some (.Constant (.int _) _ _)] [.Name x _] _=>(S.slot x).map fun i=>(bDk i,[])
 | .Subscript a b _=>denSub d S a b
 | .Call (.Name x _) args [] _=>
  if x = "isinstance" then (match args with
   | [e,c]=>denIsi (d S) S e c
   | _=>none)
  else match bopOf x with
  | some o=>(match args with
   | e::es=>(match denLW (d S) (e::es) with
    | some (fa,v)=>if S.glob x=true then some (bArgs o fa,v) else none
    | none=>none)
   | []=>none)
  | none=>match S.Γ.lookup x with
   | some (false,_,F)=>(match args with
    | e::es=>(match denLW (d S) (e::es) with
     | some (fa,v)=>if S.glob x=true then some (bCall F fa,v) else none
     | none=>none)
    | []=>none)
   | some (true,_,F)=>(match args with
    | .Name y _::es=>(match S.slot y,denLW (d S) es with
     | some i,some (fa,v)=>if S.glob x=true∧S.msF i=true then some (bCallIO F i fa,v) else none
     | _,_=>none)
    | [.List ls lp]=>(match denLW (d S) [.List ls lp] with
     | some (fa,v)=>if S.glob x=true then some (bCallNw F fa,v) else none
     | none=>none)
    | _=>none)
   | none=>none
 | .ListComp elt [⟨tg,it,ifs,0⟩] scope _=>match tgA S.N.length tg,denI (d S) S it with
  | some (xs,asg),some iw=>if compChk S scope xs iw.vs=true∧twOk tg iw=true then (match denIfs (d (compS S scope xs iw.vs)) ifs,d (compS S scope xs iw.vs) elt with
   | some t,some (g,vE)=>some (bComp iw xs.length asg t g,iw.vs++vE.filter (fun i=>decide (i < S.N.length)))
   | _,_=>none) else none
  | _,_=>none
 | _=>none
def den:Nat→Sx→Expr→Option D2
 | 0,_,_=>none
 | n + 1,S,e=>denStep (den n) S e
open PySem PySem.Spec PyProof.Rows L2
section
variable {X:Cx}{P:Program}{w:World}{K:Frag}{mg:Str→Option Value}{base:Heap}{lvl:Nat}{S:Sx}{Wx:St→Nat→Hp→Prop}{M:Fm}{f g:Fx}{vs vs':List Nat}{σ:St}{H:Hp}{Q:VK}
theorem tT_andV {Q:Bool→Hp→Prop} (hq:tT M (bT (bAndV f g)) σ H Q):tAnd (tT M (bT f)) (tT M (bT g)) σ H Q:=by
 refine tT_and ?_
 have e:bT (bAndV f g)=bAnd (bT f) (bT g):=by
  funext ρ
  unfold bT bAndV bAnd
  dsimp only
  cases f ρ with
  | no=>rfl
  | exc c=>rfl
  | ok p=>
   obtain ⟨x,d,ρ1⟩:=p
   cases x with
   | bl b=>cases b <;> rfl
   | _=>rfl
 rw [← e];exact hq
theorem tT_orV {Q:Bool→Hp→Prop} (hq:tT M (bT (bOrV f g)) σ H Q):tOr (tT M (bT f)) (tT M (bT g)) σ H Q:=by
 refine tT_or ?_
 have e:bT (bOrV f g)=bOr (bT f) (bT g):=by
  funext ρ
  unfold bT bOrV bOr
  dsimp only
  cases f ρ with
  | no=>rfl
  | exc c=>rfl
  | ok p=>
   obtain ⟨x,d,ρ1⟩:=p
   cases x with
   | bl b=>cases b <;> rfl
   | _=>rfl
 rw [← e];exact hq
theorem tT_notV {Q:Bool→Hp→Prop} (hq:tT M (bT (bUn opNot f)) σ H Q):tNot (tT M (bT f)) σ H Q:=by
 refine tT_not ?_
 have e:bT (bUn opNot f)=bNot (bT f):=by
  funext ρ
  unfold bT bUn bNot
  dsimp only
  cases f ρ with
  | no=>rfl
  | exc c=>rfl
  | ok p=>
   obtain ⟨x,d,ρ1⟩:=p
   cases x with
   | bl b=>cases b <;> rfl
   | _=>rfl
 rw [← e];exact hq
theorem OwnL.getAny {K:Frag}{Z:Addr→Prop}:∀ {xs:List PV}{d:Nat}{ws:List V}{fp:List Addr}{i:Nat}{x:PV},OwnL K H Z xs d ws fp→xs[i]?=some x→∃ u f',ws[i]?=some u∧Own K H Z x d u f'
 | [],d,ws,fp,i,x,h,e=>by simp at e
 | y::xs,d,ws,fp,i,x,h,e=>by
  rw [OwnL] at h
  obtain ⟨v,s,f1,f2,rfl,ef,_,o1,o2⟩:=h
  cases i with
  | zero=>simp at e;subst e;exact ⟨v,f1,by simp,o1⟩
  | succ i=>obtain ⟨u,f',e1,e2⟩:=o2.getAny (i:=i) (x:=x) (by simpa using e);exact ⟨u,f',by simpa using e1,e2⟩
theorem se_ms {x:Str}{j:Nat}{i:Int}{p0 p1 pos:Pos}{k:Nat} (xs:XS X P w K mg base lvl S Wx) (h:S.slot x=some j) (hK:M.K=X.K):PE X (.Subscript (.Name x p0) (.Constant (.int i) k p1) pos) (tE M (bMs j i) []):=by
 refine pe_imp (pe_ix ix_list (xs.var h) pe_int fun _ _=>rfl) fun σ H Q hq=>?_
 obtain ⟨ρ,fps,rep,q⟩:=hq
 unfold bMs at q
 cases e0:ρ[j]? with
 | none=>rw [e0] at q;exact q.elim
 | some s0=>
  rw [e0] at q
  cases s0 with
  | none=>exact q.elim
  | some p=>
   obtain ⟨z,d⟩:=p
   obtain ⟨v,hσ,o⟩:=rep.own j _ _ e0
   cases z with
   | lst ys=>
    dsimp only at q
    cases ea:atI ys i with
    | none=>rw [ea] at q;exact q.elim
    | some z=>
     rw [ea] at q
     dsimp only at q
     by_cases hz:atomic z=true
     ·rw [if_pos hz] at q
      have nx:∃ a ws d' f',v=.ref a∧H a=some (.lst ws)∧OwnL M.K H (Za M fps j) ys d' ws f':=by
       rw [Own] at o
       obtain ⟨a,ws,e,⟨_,hr,_,ol⟩ | ⟨_,f',ha,_,_,ol⟩⟩:=o
       ·exact ⟨a,ws,_,_,e,hr.1,ol⟩
       ·exact ⟨a,ws,_,_,e,ha,ol⟩
      obtain ⟨a,ws,d',f',rfl,ha,ol⟩:=nx
      have hw:∃ u f'',atI ws i=some u∧Own M.K H (Za M fps j) z d' u f'':=by
       unfold atI at ea ⊢
       rw [ol.length]
       cases ej:ixN ys.length i with
       | none=>rw [ej] at ea;cases ea
       | some m=>rw [ej] at ea;exact ol.getAny ea
      obtain ⟨u,f'',eu,ou⟩:=hw
      refine ⟨_,hσ,a,ws,i,u,rfl,rfl,.inl (.inl ha),eu,q u H fps [] KD.refl Agr.refl rep (Own.atom hz ou).2 ⟨fun _ z=>(nomatch z),fun _ z=>nomatch z⟩⟩
     ·rw [if_neg hz] at q;exact q.elim
   | _=>exact q.elim
def Good (P:Program) (w:World) (K:Frag) (mg:Str→Option Value) (base:Heap) (lvl:Nat) (S:Sx) (e:Expr) (f:Fx) (vs:List Nat):Prop:=
 (∀ i∈vs,S.msF i=false)∧noStar e=true∧∀ {Wx} X M,XS X P w K mg base lvl S Wx→MS M K S Wx→PE X e (tE M f vs)∧PT X e (tT M (bT f))
theorem MS.v (m:MS M K S Wx) (h:∀ i∈vs,S.msF i=false):∀ i∈vs,M.Ms i=false:=fun i hi=>by rw [m.ms];exact h i hi
theorem MS.k (m:MS M K S Wx) (xs:XS X P w K mg base lvl S Wx):M.K=X.K:=m.K.trans xs.K.symm
theorem good_of {e:Expr} (h1:∀ i∈vs,S.msF i=false) (h2:noStar e=true) (h3:∀ env whole,isTrue e env whole=(do let v←whole;standAt e.pos;holding [v] (truthy v)))
  (h:∀ {Wx} X M,XS X P w K mg base lvl S Wx→MS M K S Wx→PE X e (tE M f vs)):Good P w K mg base lvl S e f vs:=
 ⟨h1,h2,fun X M xs m=>⟨h X M xs m,pt_imp (pt_val (h X M xs m) fun wh=>h3 _ wh) fun σ H Q q=>tT_val q⟩⟩
theorem and_append {vs vs':List Nat} (h1:∀ i∈vs,S.msF i=false) (h2:∀ i∈vs',S.msF i=false):∀ i∈vs++vs',S.msF i=false:=fun i hi=>(List.mem_append.mp hi).elim (h1 i) (h2 i)
theorem good_cmp {a b:Expr}{op:CmpOp}{o:PV→Nat→PV→Nat→Option (PV×Nat)}{pos:Pos} (ho:cmpOf b op=some o) (ga:Good P w K mg base lvl S a f vs) (gb:Good P w K mg base lvl S b g vs'):Good P w K mg base lvl S (.Compare a [op] [b] pos) (bBin o f g) (vs++vs'):=by
 refine ⟨and_append ga.1 gb.1,rfl,fun X M xs m=>?_⟩
 obtain ⟨r,hr,hn,hi⟩:=cmp_rule (X:=X) (M:=M) (f:=f) (g:=g) (vs:=vs) (vs':=vs') ho xs.room.units (m.v ga.1) (m.k xs)
 have ha:=(ga.2.2 X M xs m).1
 have hb:=(gb.2.2 X M xs m).1
 exact ⟨pe_imp (pe_cmpR hr ha hb hn) hi,pt_imp (pt_cmpR hr ha hb hn) fun σ H Q q=>hi σ H _ (tT_val q)⟩
theorem good_chain {a b c:Expr}{op op':CmpOp}{p q:Int→Int→Bool}{h:Fx}{v3:List Nat}{pos:Pos} (h1:icmp op=some p) (h2:icmp op'=some q) (ga:Good P w K mg base lvl S a f vs) (gb:Good P w K mg base lvl S b g vs') (gc:Good P w K mg base lvl S c h v3):Good P w K mg base lvl S (.Compare a [op,op'] [b,c] pos) (bChain p q f g h) []:=by
 refine ⟨fun _ z=>(nomatch z),rfl,fun X M xs m=>?_⟩
 have r1:=icmp_rule (X:=X) h1
 have r2:=icmp_rule (X:=X) h2
 have ha:=(ga.2.2 X M xs m).1
 have hb:=(gb.2.2 X M xs m).1
 have hc:=(gc.2.2 X M xs m).1
 exact ⟨pe_imp (pe_chain r1.1 r2.1 ha hb hc (nobehind _ r2.2.1 r2.2.2)) fun σ H Q q=>tE_chain q,pt_imp (pt_chain r1.1 r2.1 ha hb hc (nobehind _ r2.2.1 r2.2.2)) fun σ H Q q=>tE_chain (vs:=[]) (tT_val q)⟩
theorem good_not {a:Expr}{pos:Pos} (ga:Good P w K mg base lvl S a f vs):Good P w K mg base lvl S (.UnaryOp .Not a pos) (bUn opNot f) vs:=
 ⟨ga.1,rfl,fun X M xs m=>⟨pe_imp (pe_not (ga.2.2 X M xs m).1) fun σ H Q q=>tE_notV q,pt_imp (pt_not (ga.2.2 X M xs m).2) fun σ H Q q=>tT_notV q⟩⟩
theorem denAnd_ok {d:Expr→Option D2} (hd:∀ e f vs,d e=some (f,vs)→Good P w K mg base lvl S e f vs) {pos:Pos}:∀ (es:List Expr) (f:Fx) (vs:List Nat),denAnd d es=some (f,vs)→(∀ i∈vs,S.msF i=false)∧∀ {Wx} X M,XS X P w K mg base lvl S Wx→MS M K S Wx→PE X (.BoolOp .And es pos) (tE M f vs)∧PW X (.BoolOp .And es pos) (tT M (bT f))
 | [],f,vs,h=>by cases h
 | [e],f,vs,h=>by
  have g:=hd e f vs h
  exact ⟨g.1,fun X M xs m=>⟨pe_one (g.2.2 X M xs m).1,pw_and1 (g.2.2 X M xs m).2⟩⟩
 | e::e'::es,f,vs,h=>by
  unfold denAnd at h
  split at h
  ·rename_i f1 v1 f2 v2 h1 h2
   cases h
   have g1:=hd e f1 v1 h1
   have g2:=denAnd_ok hd (pos:=pos) (e'::es) f2 v2 h2
   exact ⟨and_append g1.1 g2.1,fun X M xs m=>⟨pe_imp (pe_and (g1.2.2 X M xs m).1 (g2.2 X M xs m).1) fun σ H Q q=>tE_andV q,pw_imp (pw_and (g1.2.2 X M xs m).2 (g2.2 X M xs m).2) fun σ H Q q=>tT_andV q⟩⟩
  ·cases h
theorem denOr_ok {d:Expr→Option D2} (hd:∀ e f vs,d e=some (f,vs)→Good P w K mg base lvl S e f vs) {pos:Pos}:∀ (es:List Expr) (f:Fx) (vs:List Nat),denOr d es=some (f,vs)→(∀ i∈vs,S.msF i=false)∧∀ {Wx} X M,XS X P w K mg base lvl S Wx→MS M K S Wx→PE X (.BoolOp .Or es pos) (tE M f vs)∧PW X (.BoolOp .Or es pos) (tT M (bT f))
 | [],f,vs,h=>by cases h
 | [e],f,vs,h=>by
  have g:=hd e f vs h
  exact ⟨g.1,fun X M xs m=>⟨pe_one (g.2.2 X M xs m).1,pw_or1 (g.2.2 X M xs m).2⟩⟩
 | e::e'::es,f,vs,h=>by
  unfold denOr at h
  split at h
  ·rename_i f1 v1 f2 v2 h1 h2
   cases h
   have g1:=hd e f1 v1 h1
   have g2:=denOr_ok hd (pos:=pos) (e'::es) f2 v2 h2
   exact ⟨and_append g1.1 g2.1,fun X M xs m=>⟨pe_imp (pe_or (g1.2.2 X M xs m).1 (g2.2 X M xs m).1) fun σ H Q q=>tE_orV q,pw_imp (pw_or (g1.2.2 X M xs m).2 (g2.2 X M xs m).2) fun σ H Q q=>tT_orV q⟩⟩
  ·cases h
theorem denLW_ok {d:Expr→Option D2} (hd:∀ e f vs,d e=some (f,vs)→Good P w K mg base lvl S e f vs):∀ (es:List Expr) (fa:Fa) (vs:List Nat),denLW d es=some (fa,vs)→(∀ i∈vs,S.msF i=false)∧es.all noStar=true∧∀ {Wx} X M,XS X P w K mg base lvl S Wx→MS M K S Wx→PA X es (tL M fa vs)
 | [],fa,vs,h=>by cases h;exact ⟨fun _ z=>(nomatch z),rfl,fun X M _ _=>sa_nil⟩
 | e::es,fa,vs,h=>by
  unfold denLW at h
  split at h
  ·rename_i f1 v1 f2 v2 h1 h2
   cases h
   have g1:=hd e f1 v1 h1
   have g2:=denLW_ok hd es f2 v2 h2
   exact ⟨and_append g1.1 g2.1,by rw [List.all_cons,g1.2.1,g2.2.1];rfl,fun X M xs m=>sa_cons (m.v g1.1) (g1.2.2 X M xs m).1 (g2.2.2 X M xs m) (star_one (noStar_iff g1.2.1))⟩
  ·cases h
theorem relabel_eq (scope:Scope) (env:Env):relabel scope env=relabelS scope env.scope:=rfl
theorem relabel_mem {x:Str}{k:NameKind}{sc:Scope}:∀ (l:List (Str×NameKind)),(k=.cell∨k=.free)→(l.map fun (n,k)=>if (k == NameKind.free && sc.kind == .function && sc.names.lookup n == some .cell) then (n,NameKind.cell) else (n,k)).lookup x=some k→(x,NameKind.free)∈l∨(x,NameKind.cell)∈l
 | [],_,h=>by simp at h
 | (n,j)::r,hk,h=>by
  rw [List.map_cons] at h
  have ih:=relabel_mem (x:=x) (k:=k) (sc:=sc) r hk
  dsimp only at h
  by_cases hj:(j == NameKind.free && sc.kind == .function && sc.names.lookup n == some .cell)=true
  ·rw [if_pos hj,List.lookup_cons] at h
   split at h
   ·rename_i hx
    rw [Bool.and_eq_true,Bool.and_eq_true] at hj
    have e1:x=n:=eq_of_beq hx
    have e2:j=.free:=eq_of_beq hj.1.1
    rw [e1,e2];exact .inl List.mem_cons_self
   ·exact (ih h).imp (List.mem_cons_of_mem _) (List.mem_cons_of_mem _)
  ·rw [if_neg hj,List.lookup_cons] at h
   split at h
   ·rename_i hx
    have e1:x=n:=eq_of_beq hx
    have e2:j=k:=Option.some.inj h
    rcases hk with z | z
    ·rw [e1,e2,z];exact .inr List.mem_cons_self
    ·rw [e1,e2,z];exact .inl List.mem_cons_self
   ·exact (ih h).imp (List.mem_cons_of_mem _) (List.mem_cons_of_mem _)
theorem hideN_len (sc':Scope):∀ (N:List Str) (i:Nat),(hideN sc' i N).length=N.length
 | [],_=>rfl
 | x::r,i=>by rw [hideN,List.length_cons,hideN_len sc' r (i + 1),List.length_cons]
structure ChkOk (S:Sx) (scope:Scope) (xs:List Str) (vI:List Nat):Prop where
 kind:scope.kind=.function
 dis:∀ x,(x,NameKind.free)∈scope.names→(x,NameKind.cell)∉scope.names
 names:∀ x∈scope.names,x.2=.local→scope.names.lookup x.1=some .local
 free:∀ x∈scope.names,x.2=.free→S.sc.names.lookup x.1=some .cell∨S.sc.names.lookup x.1=some .free
 capt:∀ (i:Nat) (x:Str),i < S.N.length→(compS S scope xs vI).N[i]?=some x→Vis (relabelS scope S.sc) x→S.N[i]?=some x∧Vis S.sc x∧(x,NameKind.free)∈scope.names∧(relabelS scope S.sc).names.lookup x≠some .local
 nd:(compS S scope xs vI).N.Nodup
 loc:∀ x∈xs,(relabelS scope S.sc).names.lookup x=some .local∨((relabelS scope S.sc).names.lookup x=some .cell∧(x,NameKind.cell)∈scope.names)
 pos:S.N.length≠0
 ms:∀ i∈S.ms,i < S.N.length
theorem vis_iff {sc:Scope}{x:Str} (h:Vis sc x):visB sc x=true:=by
 unfold visB kindIs
 rcases h with h | h | h <;> rw [h] <;> simp
theorem chk_ok {scope:Scope}{xs:List Str}{vI:List Nat} (h:compChk S scope xs vI=true):ChkOk S scope xs vI:=by
 unfold compChk at h
 simp only [Bool.and_eq_true,decide_eq_true_eq,List.all_eq_true,bne_iff_ne,ne_eq,Bool.or_eq_true] at h
 obtain ⟨⟨⟨⟨⟨⟨⟨⟨h1,h2⟩,h3⟩,h4⟩,h5⟩,h6⟩,h7⟩,h8⟩,h9⟩:=h
 refine ⟨h1,fun x hx hz=>(h2 (x,.free) hx).elim (fun z=>z rfl) fun z=>?_,fun x hx he=>(h3 x hx).elim (fun z=>absurd he z) fun z=>eq_of_beq z,fun x hx he=>(h4 x hx).elim (fun z=>absurd he z) fun z=>z.elim (fun z=>.inl (eq_of_beq z)) fun z=>.inr (eq_of_beq z),fun i x hi e hv=>?_,h6,fun x hx=>(h7 x hx).imp kindIs_iff fun z=>⟨kindIs_iff z.1,by simpa using z.2⟩,h8,h9⟩
 ·have z':(!(scope.names.contains (x,NameKind.cell)))=true:=z
  have:scope.names.contains (x,NameKind.cell)=true:=by simpa using hz
  rw [this] at z';cases z'
 have q:=h5 i (List.mem_range.mpr hi)
 rw [e] at q
 dsimp only at q
 rw [Bool.or_eq_true] at q
 rcases q with q | q
 ·have:visB (relabelS scope S.sc) x=true:=vis_iff hv
  have q':(!visB (relabelS scope S.sc) x)=true:=q
  rw [this] at q';cases q'
 ·simp only [Bool.and_eq_true,decide_eq_true_eq,Bool.not_eq_true'] at q
  obtain ⟨⟨⟨q1,q2⟩,q3⟩,q4⟩:=q
  refine ⟨q1,vis_of q2,by simpa using q3,fun z=>?_⟩
  have:kindIs (relabelS scope S.sc) x .local=true:=by unfold kindIs;rw [z];simp
  have q4':kindIs (relabelS scope S.sc) x .local=false:=q4
  rw [this] at q4';cases q4'
theorem ChkOk.comp {scope:Scope}{ys:List Str}{vI:List Nat} (c:ChkOk S scope ys vI) (xs:XS X P w K mg base lvl S Wx):CompOk X scope (compS S scope ys vI).N ys.length where
 kind:=c.kind
 dis:=c.dis
 names:=c.names
 len:=by
  show (hideN _ 0 S.N++ys).length=_
  rw [List.length_append,hideN_len,xs.N]
 free:=fun x hx he=>by
  show X.env.scope.names.lookup x.1=_∨X.env.scope.names.lookup x.1=_
  rw [xs.sc];exact c.free x hx he
 kinds:=fun x h=>by
  rcases h with h | h
  ·exact relabel_mem (sc:=X.env.scope) scope.names (.inl rfl) h
  ·exact relabel_mem (sc:=X.env.scope) scope.names (.inr rfl) h
 capt:=fun i x hi e hv=>by
  rw [relabel_eq,xs.sc] at hv ⊢
  rw [xs.N] at hi ⊢
  exact c.capt i x hi e hv
theorem ChkOk.xs {scope:Scope}{ys:List Str}{vI:List Nat} (c:ChkOk S scope ys vI) (xs:XS X P w K mg base lvl S Wx) (s2:Shared) (H2:Hp) (C:Addr) (fp:List Addr) (pins:List (Addr×Obj)):XS (cxComp X s2 H2 scope C (compS S scope ys vI).N fp pins) P w K mg base lvl (compS S scope ys vI) W0:=
 ⟨xs.prog,xs.w,xs.K,xs.mg,xs.base,rfl,by show relabel scope X.env=_;rw [relabel_eq,xs.sc];rfl,xs.calm,xs.room,PassesOwn.never,passW0,fun h=>nomatch h⟩
theorem alF_comp {scope:Scope}{ys:List Str}{vI:List Nat} (i:Nat):(compS S scope ys vI).alF i=if i < S.N.length then S.alF i else if i < S.N.length + ys.length then vI else []:=by
 unfold Sx.alF compS
 dsimp only
 rw [List.getD_eq_getElem?_getD]
 by_cases h:i < S.N.length
 ·rw [List.getElem?_append_left (by simpa using h),if_pos h]
  simp [h,Sx.alF,List.getD_eq_getElem?_getD]
 ·rw [List.getElem?_append_right (by simpa using h),if_neg h,List.getElem?_replicate]
  simp only [List.length_map,List.length_range]
  by_cases h2:i < S.N.length + ys.length
  ·rw [if_pos h2,if_pos (by omega)];rfl
  ·rw [if_neg h2,if_neg (by omega)];rfl
theorem ChkOk.ms' {scope:Scope}{ys:List Str}{vI:List Nat} (c:ChkOk S scope ys vI) (m:MS M K S Wx) (hv:∀ i∈vI,S.msF i=false) (D:Addr):MS (M.comp D S.N.length vI) K (compS S scope ys vI) W0 where
 W:=rfl
 K:=m.K
 ms:=m.ms
 al:=fun i hi=>by
  rw [alF_comp]
  show (if i < S.N.length then M.al i else vI)=_
  have hl:(compS S scope ys vI).N.length=S.N.length + ys.length:=by
   show (hideN _ 0 S.N++ys).length=_
   rw [List.length_append,hideN_len]
  rw [hl] at hi
  by_cases h:i < S.N.length
  ·rw [if_pos h,if_pos h];exact m.al i h
  ·rw [if_neg h,if_neg h,if_pos hi]
 pn:=fun p hp=>by
  have h:=m.pn p hp
  show p.1 < (hideN _ 0 S.N++ys).length
  rw [List.length_append,hideN_len]
  omega
 als:=fun i j hj=>by
  have hj':j∈(if i < S.N.length then M.al i else vI):=hj
  show M.Ms j=false
  by_cases h:i < S.N.length
  ·rw [if_pos h] at hj';exact m.als i j hj'
  ·rw [if_neg h] at hj';rw [m.ms];exact hv j hj'
theorem fold_eq {n:Nat}{iter:Expr}{env:Env}{f:Fx}{vs:List Nat} (h:(∀ a b c,iter≠.Set a b c)):∀ x,foldedSetIterable iter env x=pure x:=by
 intro x
 cases iter with
 | Set a b c=>exact absurd rfl (h a b c)
 | _=>rfl
end
open PySem PySem.Spec PyProof.Rows L2
section
variable {X:Cx}{P:Program}{w:World}{K:Frag}{mg:Str→Option Value}{base:Heap}{lvl:Nat}{S:Sx}{Wx:St→Nat→Hp→Prop}{M:Fm}{f g:Fx}{vs vs':List Nat}{σ:St}{H:Hp}{Q:VK}
theorem tyOf_ok {T:Str}{t:String} (h:tyOf T=some t):t∈isiT∧T∈bnames∧bootBuiltins T=some (.type t)∧(T == ("__debug__" : Str))=false∧T ≠ "__name__" := by
 unfold tyOf at h
 split at h
 ·rename_i e;cases h;rw [e];exact ⟨by decide,by decide +kernel,rfl,by decide +kernel,by decide +kernel⟩
 ·split at h
  ·rename_i e;cases h;rw [e];exact ⟨by decide,by decide +kernel,rfl,by decide +kernel,by decide +kernel⟩
  ·split at h
   ·rename_i e;cases h;rw [e];exact ⟨by decide,by decide +kernel,rfl,by decide +kernel,by decide +kernel⟩
   ·split at h
    ·rename_i e;cases h;rw [e];exact ⟨by decide,by decide +kernel,rfl,by decide +kernel,by decide +kernel⟩
    ·split at h
     ·rename_i e;cases h;rw [e];exact ⟨by decide,by decide +kernel,rfl,by decide +kernel,by decide +kernel⟩
     ·split at h
      ·rename_i e;cases h;rw [e];exact ⟨by decide,by decide +kernel,rfl,by decide +kernel,by decide +kernel⟩
      ·cases h
theorem se_bop {x:Str}{o:List (PV×Nat)→Option (PV×Nat)}{e:Expr}{es:List Expr}{fa:Fa}{p pos:Pos} (h:bopOf x=some o) (xs:XS X P w K mg base lvl S Wx) (m:MS M K S Wx) (hb:∀ x∈bnames,mg x=none) (hg:S.glob x=true) (hs:(e::es).all noStar=true) (ha:PA X (e::es) (tL M fa vs)):
  PE X (.Call (.Name x p) (e::es) [] pos) (tE M (bArgs o fa) vs):=by
 rw [List.all_cons,Bool.and_eq_true] at hs
 have h1:starEach (e::es) X.env=(false,eval e X.env)::starEach es X.env:=star_one (noStar_iff hs.1)
 have h2:(backTo pos (starEach es X.env)).any (·.1)=false:=star_any hs.2
 have hm:∀ x∈bnames,X.mg x=none:=fun x hx=>by rw [xs.mg];exact hb x hx
 unfold bopOf at h
 split at h
 ·rename_i ex;cases h;subst ex;exact se_len (m.k xs) (xs.gl hg) (hm _ (by decide +kernel)) ha h1 h2
 ·split at h
  ·rename_i ex;cases h;subst ex;exact se_all xs.calm (xs.gl hg) (hm _ (by decide +kernel)) ha h1 h2
  ·split at h
   ·rename_i ex;cases h;subst ex;exact se_maxL xs.calm (xs.gl hg) (hm _ (by decide +kernel)) ha h1 h2
   ·split at h
    ·rename_i ex;cases h;subst ex;exact se_minL xs.calm (xs.gl hg) (hm _ (by decide +kernel)) ha h1 h2
    ·split at h
     ·rename_i ex;cases h;subst ex;exact se_sumL xs.calm (xs.gl hg) (hm _ (by decide +kernel)) ha h1 h2
     ·split at h
      ·rename_i ex;cases h;subst ex;exact se_tupC (m.k xs) (xs.gl hg) (hm _ (by decide +kernel)) ha h1 h2
      ·split at h
       ·rename_i ex;cases h;subst ex;exact se_lstC (m.k xs) (xs.gl hg) (hm _ (by decide +kernel)) ha h1 h2
       ·split at h
        ·rename_i ex;cases h;subst ex;exact se_int1 (xs.gl hg) (hm _ (by decide +kernel)) ha h1 h2
        ·cases h
def IwOk (P:Program) (w:World) (K:Frag) (mg:Str→Option Value) (base:Heap) (lvl:Nat) (S:Sx) (it:Expr) (iw:Iw):Prop:=
 (∀ i∈iw.vs,S.msF i=false)∧(∀ a b c,it≠.Set a b c)∧∀ {Wx} X M,XS X P w K mg base lvl S Wx→MS M K S Wx→∀ tg,(match iw with
  | .rng en fa vs=>(en=ends1∧PI X tg it (iRng1 (tL M fa vs)))∨(en=ends2∧PI X tg it (iRng2 (tL M fa vs)))
  | .seq f vs=>PI X tg it (iSeq M.K (tE M f vs))
  | .vw v fa vs=>False)
theorem good_seq {it:Expr} (g:Good P w K mg base lvl S it f vs) (hs:∀ a b c,it≠.Set a b c):IwOk P w K mg base lvl S it (.seq f vs):=
 ⟨g.1,hs,fun X M xs m tg=>by
  show PI X tg it (iSeq M.K (tE M f vs))
  rw [m.k xs];exact pi_seq (g.2.2 X M xs m).1⟩
theorem denI_ok {d:Expr→Option D2} (hd:∀ e f vs,d e=some (f,vs)→Good P w K mg base lvl S e f vs) (hset:∀ a b c,d (.Set a b c)=none) (hb:∀ x∈bnames,mg x=none) {it:Expr}{iw:Iw} (h:denI d S it=some iw):IwOk P w K mg base lvl S it iw:=by
 have seq:∀ {it:Expr}{iw:Iw},(match d it with
   | some (f,vs)=>some (Iw.seq f vs)
   | none=>none)=some iw→IwOk P w K mg base lvl S it iw:=fun {it iw} h=>by
  cases e:d it with
  | none=>rw [e] at h;cases h
  | some p=>
   obtain ⟨f,vs⟩:=p
   rw [e] at h;cases h
   exact good_seq (hd _ _ _ e) fun a b c z=>by rw [z,hset] at e;cases e
 unfold denI at h
 split at h
 ·rename_i x p a pos
  split at h
  ·rename_i hc
   obtain ⟨rfl,hg⟩:=hc
   split at h
   ·rename_i fa vs e
    cases h
    have g:=denLW_ok hd _ _ _ e
    refine ⟨fun _ z=>(nomatch z),fun _ _ _ z=>(nomatch z),fun X M xs m tg=>.inl ⟨rfl,?_⟩⟩
    have hs:=g.2.1
    simp only [List.all_cons,List.all_nil,Bool.and_true] at hs
    exact pi_range1 (xs.gl hg) (by rw [xs.mg];exact hb _ (by decide +kernel)) (g.2.2 X M xs m) (star_one (noStar_iff hs))
   ·cases h
  ·exact seq h
 ·rename_i x p a b pos
  split at h
  ·rename_i hc
   obtain ⟨rfl,hg⟩:=hc
   split at h
   ·rename_i fa vs e
    cases h
    have g:=denLW_ok hd _ _ _ e
    refine ⟨fun _ z=>(nomatch z),fun _ _ _ z=>(nomatch z),fun X M xs m tg=>.inr ⟨rfl,?_⟩⟩
    have hs:=g.2.1
    simp only [List.all_cons,List.all_nil,Bool.and_true,Bool.and_eq_true] at hs
    have s2:starEach [b] X.env=[(false,eval b X.env)]:=star_one (noStar_iff hs.2)
    exact pi_range2 (xs.gl hg) (by rw [xs.mg];exact hb _ (by decide +kernel)) (g.2.2 X M xs m) (by rw [star_one (noStar_iff hs.1),s2]) s2
   ·cases h
  ·exact seq h
 ·exact seq h
theorem tTrue_ok {σ:St}{H:Hp}{Q:Bool→Hp→Prop} (h:∃ M',MS M' K S Wx∧tT M' tTrue σ H Q):Q true H:=by
 obtain ⟨M',_,ρ,fps,rep,q⟩:=h
 exact q H fps KD.refl Agr.refl rep
structure CompParts (P:Program) (w:World) (K:Frag) (mg:Str→Option Value) (base:Heap) (lvl:Nat) (S:Sx) (scope:Scope) (tg:Expr) (ys:List Str) (asg:PV→Rho→Option Rho) (it elt:Expr) (ifs:List Expr) (iw:Iw) (t:Fb) (g:Fx) (vE:List Nat):Prop where
 tga:tgA S.N.length tg=some (ys,asg)
 two:twOk tg iw=true
 chk:ChkOk S scope ys iw.vs
 iwo:IwOk P w K mg base lvl S it iw
 elt:Good P w K mg base lvl (compS S scope ys iw.vs) elt g vE
 ifs:∀ {Wx} X M,XS X P w K mg base lvl (compS S scope ys iw.vs) Wx→MS M K (compS S scope ys iw.vs) Wx→PTs X ifs (fun σ H Q=>∃ M',MS M' K (compS S scope ys iw.vs) Wx∧tT M' t σ H Q)
theorem comp_vs {scope:Scope}{tg:Expr}{ys:List Str}{asg:PV→Rho→Option Rho}{it elt:Expr}{ifs:List Expr}{iw:Iw}{t:Fb}{vE:List Nat} (c:CompParts P w K mg base lvl S scope tg ys asg it elt ifs iw t g vE):∀ i∈iw.vs++vE.filter (fun i=>decide (i < S.N.length)),S.msF i=false:=
 and_append c.iwo.1 fun i hi=>c.elt.1 i (List.mem_filter.mp hi).1
theorem pgs_names {X':Cx}:∀ {es:List Expr}{ys:List Str}{n:Nat},namesOf es=some ys→X'.N.Nodup→(∀ j y,ys[j]?=some y→X'.N[n + j]?=some y)→(∀ y∈ys,Loc X'.env.scope y∧(X'.fn y=true∨X'.env.scope.names.lookup y=some .local))→PGs X' es (gNames (List.range' n ys.length))∧(assignEach es X'.env).length=ys.length∧(assignEach es X'.env).findIdx? (·.1)=none
 | [],ys,n,h,_,_,_=>by cases h;exact ⟨pgs_nil,rfl,rfl⟩
 | e::es,ys,n,h,hN,hi,hl=>by
  unfold namesOf at h
  split at h
  ·cases ‹_::_=[]›
  ·rename_i x px r heq
   cases heq
   obtain ⟨zs,h2,rfl⟩:=Option.map_eq_some_iff.mp h
   have hx:=hl x List.mem_cons_self
   obtain ⟨h1,h3,h4⟩:=pgs_names (n:=n + 1) h2 hN (fun j y e=>by rw [show n + 1 + j=n + (j + 1) by omega];exact hi (j + 1) y (by simpa using e)) fun y hy=>hl y (List.mem_cons_of_mem _ hy)
   rw [List.length_cons,List.range'_succ]
   refine ⟨pgs_cons (pg_name hN (by have:=hi 0 x rfl;simpa using this) hx.1 hx.2) h1 rfl,by rw [assignEach,List.length_cons,h3] <;> (intros;contradiction),?_⟩
   rw [assignEach,List.findIdx?_cons,h4] <;> first | rfl | (intros;contradiction)
  ·cases h
theorem comp_parts {scope:Scope}{tg:Expr}{ys:List Str}{asg:PV→Rho→Option Rho}{pos:Pos}{it elt:Expr}{ifs:List Expr}{iw:Iw}{t:Fb}{vE:List Nat} (c:CompParts P w K mg base lvl S scope tg ys asg it elt ifs iw t g vE) (xs:XS X P w K mg base lvl S Wx) (m:MS M K S Wx):
  ∃ wi gg,PI X tg it wi∧CompOk X scope (compS S scope ys iw.vs).N ys.length∧(∀ s2 H2 C fp pins,PG (cxComp X s2 H2 scope C (compS S scope ys iw.vs).N fp pins) tg gg) ∧
   (∀ s2 H2 C fp pins,PTs (cxComp X s2 H2 scope C (compS S scope ys iw.vs).N fp pins) ifs (fun σ H Q=>∃ M',MS M' K (compS S scope ys iw.vs) W0∧tT M' t σ H Q)) ∧
   (∀ s2 H2 C fp pins,PE (cxComp X s2 H2 scope C (compS S scope ys iw.vs).N fp pins) elt (fun σ H Q=>∃ M',MS M' K (compS S scope ys iw.vs) W0∧tE M' g vE σ H Q)) ∧
   ∀ σ H Q,σ.length=S.N.length→tE M (bComp iw ys.length asg t g) (iw.vs++vE.filter (fun i=>decide (i < S.N.length))) σ H Q →
    tComp ys.length wi gg (fun σ H Q=>∃ M',MS M' K (compS S scope ys iw.vs) W0∧tT M' t σ H Q) (fun σ H Q=>∃ M',MS M' K (compS S scope ys iw.vs) W0∧tE M' g vE σ H Q) σ H Q:=by
 have hvI:=m.v c.iwo.1
 have hP:∀ D,MS (M.comp D S.N.length iw.vs) K (compS S scope ys iw.vs) W0:=fun D=>c.chk.ms' m c.iwo.1 D
 have hvE:∀ i∈vE,M.Ms i=false:=fun i hi=>by rw [m.ms];exact c.elt.1 i hi
 have hvo:∀ i,i∈vE→i < S.N.length→i∈iw.vs++vE.filter (fun i=>decide (i < S.N.length)):=fun i h1 h2=>List.mem_append_right _ (List.mem_filter.mpr ⟨h1,by simpa using h2⟩)
 have hvo2:=m.v (comp_vs c)
 have bd:∀ D i,S.N.length≤i→Bd (M.comp D S.N.length iw.vs) iw.vs i:=fun D i hi=>⟨by
   show M.Ms i=false
   rw [m.ms]
   unfold Sx.msF
   cases e:S.ms.contains i with
   | false=>rfl
   | true=>exact absurd (c.chk.ms _ (by simpa using e)) (by omega),⟨fun _=>by have:=c.chk.pos;omega,fun p hp=>by have:=m.pn p hp;omega⟩,if_neg (by omega),(hP D).als⟩
 have hix:∀ j y,ys[j]?=some y→(compS S scope ys iw.vs).N[S.N.length + j]?=some y:=fun j y e=>by
  show (hideN _ 0 S.N++ys)[S.N.length + j]?=some y
  rw [List.getElem?_append_right (by rw [hideN_len];omega),hideN_len]
  simpa using e
 have hloc:∀ s2 H2 C fp pins,∀ y∈ys,Loc (cxComp X s2 H2 scope C (compS S scope ys iw.vs).N fp pins).env.scope y∧((cxComp X s2 H2 scope C (compS S scope ys iw.vs).N fp pins).fn y=true∨(cxComp X s2 H2 scope C (compS S scope ys iw.vs).N fp pins).env.scope.names.lookup y=some .local):=fun s2 H2 C fp pins y hy=>by
  have e:(cxComp X s2 H2 scope C (compS S scope ys iw.vs).N fp pins).env.scope=relabelS scope S.sc:=by
   show relabel scope X.env=_
   rw [relabel_eq,xs.sc]
  rw [e]
  rcases c.chk.loc y hy with z | z
  ·exact ⟨.inl z,.inr z⟩
  ·exact ⟨.inr z.1,.inl (by show scope.names.contains (y,NameKind.cell)=true;simpa using z.2)⟩
 have hpe:∀ s2 H2 C fp pins,PE (cxComp X s2 H2 scope C (compS S scope ys iw.vs).N fp pins) elt (fun σ H Q=>∃ M',MS M' K (compS S scope ys iw.vs) W0∧tE M' g vE σ H Q):=fun s2 H2 C fp pins pi s σ H Q I ⟨M',m',q⟩=>
  (c.elt.2.2 _ M' (c.chk.xs xs s2 H2 C fp pins) m').1 pi s σ H Q I q
 have hpt:∀ s2 H2 C fp pins,PTs (cxComp X s2 H2 scope C (compS S scope ys iw.vs).N fp pins) ifs (fun σ H Q=>∃ M',MS M' K (compS S scope ys iw.vs) W0∧tT M' t σ H Q):=fun s2 H2 C fp pins=>c.ifs _ (M.comp 0 S.N.length iw.vs) (c.chk.xs xs s2 H2 C fp pins) (hP 0)
 have tgp:∃ is gg,(∀ i∈is,S.N.length≤i)∧(∀ D,GOk (M.comp D S.N.length iw.vs) iw.vs is gg asg)∧∀ s2 H2 C fp pins,PG (cxComp X s2 H2 scope C (compS S scope ys iw.vs).N fp pins) tg gg:=by
  have ht:=c.tga
  unfold tgA at ht
  split at ht
  ·rename_i y py
   cases ht
   refine ⟨[S.N.length],gName S.N.length,fun i hi=>by rw [List.mem_singleton.mp hi];exact Nat.le_refl _,fun D=>g_name (bd D _ (Nat.le_refl _)),fun s2 H2 C fp pins=>?_⟩
   exact pg_name c.chk.nd (hix 0 y rfl) (hloc s2 H2 C fp pins y (by simp)).1 (hloc s2 H2 C fp pins y (by simp)).2
  ·rename_i es k tp
   obtain ⟨zs,h2,e⟩:=Option.map_eq_some_iff.mp ht
   cases e
   refine ⟨List.range' S.N.length ys.length,gTup M.K ys.length (gNames (List.range' S.N.length ys.length)),fun i hi=>(List.mem_range'_1.mp hi).1,fun D=>?_,fun s2 H2 C fp pins=>?_⟩
   ·have:=g_tup (M:=M.comp D S.N.length iw.vs) (al:=iw.vs) (is:=List.range' S.N.length ys.length) fun i hi=>bd D i (List.mem_range'_1.mp hi).1
    rw [List.length_range'] at this
    exact this
   ·obtain ⟨h1,h3,h4⟩:=pgs_names (X':=cxComp X s2 H2 scope C (compS S scope ys iw.vs).N fp pins) (n:=S.N.length) h2 c.chk.nd hix (hloc s2 H2 C fp pins)
    have:=pg_tup (X:=cxComp X s2 H2 scope C (compS S scope ys iw.vs).N fp pins) (pos:=tp) (k:=k) xs.calm h1 h3 h4
    have e:(cxComp X s2 H2 scope C (compS S scope ys iw.vs).N fp pins).K=M.K:=(m.k xs).symm
    rw [e] at this
    exact this
  ·cases ht
 obtain ⟨is,gg,his,hg,hpg⟩:=tgp
 have hw:=c.iwo.2.2 X M xs m tg
 have htw:=c.two
 cases iw with
 | rng en fa vs=>
  rcases hw with ⟨rfl,hw⟩ | ⟨rfl,hw⟩
  ·exact ⟨_,gg,hw,c.chk.comp xs,hpg,hpt,hpe,fun σ H Q hl hq=>tE_comp1 hl hP m.als hvI hvE his hg hvo hvo2 hq⟩
  ·exact ⟨_,gg,hw,c.chk.comp xs,hpg,hpt,hpe,fun σ H Q hl hq=>tE_comp2 hl hP m.als hvI hvE his hg hvo hvo2 hq⟩
 | seq f vs=>exact ⟨_,gg,hw,c.chk.comp xs,hpg,hpt,hpe,fun σ H Q hl hq=>tE_compS hl hP m.als hvI hvE his hg hvo hvo2 hq⟩
 | vw v fa vs=>exact hw.elim
theorem pe_len {e:Expr}{t t':TE} (h:PE X e t) (i:∀ σ H Q,σ.length=X.N.length→t' σ H Q→t σ H Q):PE X e t':=fun pins s σ H Q I q=>h pins s σ H Q I (i σ H Q I.len q)
theorem ps_len {e:Stmt}{t t':TS} (h:PS X e t) (i:∀ D σ H,σ.length=X.N.length→t' D σ H→t D σ H):PS X e t':=fun pins s σ H D I q=>h pins s σ H D I (i D σ H I.len q)
theorem good_comp {scope:Scope}{tg:Expr}{ys:List Str}{asg:PV→Rho→Option Rho}{pos:Pos}{it elt:Expr}{ifs:List Expr}{iw:Iw}{t:Fb}{vE:List Nat} (c:CompParts P w K mg base lvl S scope tg ys asg it elt ifs iw t g vE):Good P w K mg base lvl S (.ListComp elt [⟨tg,it,ifs,0⟩] scope pos) (bComp iw ys.length asg t g) (iw.vs++vE.filter (fun i=>decide (i < S.N.length))):=by
 refine good_of (comp_vs c) rfl (fun _ _=>rfl) fun X M xs m=>?_
 obtain ⟨wi,gg,h1,h2,h3,h4,h5,h6⟩:=comp_parts (pos:=pos) c xs m
 exact pe_len (pe_comp h2 xs.calm h1 h3 h4 h5 (fold_eq (n:=0) (f:=g) (vs:=[]) c.iwo.2.1)) fun σ H Q hl q=>h6 σ H Q (by rw [hl,xs.N]) q
theorem denIfs_ok {d:Expr→Option D2} (hd:∀ e f vs,d e=some (f,vs)→Good P w K mg base lvl S e f vs) {ifs:List Expr}{t:Fb} (h:denIfs d ifs=some t) (X:Cx) (M:Fm) (xs:XS X P w K mg base lvl S Wx) (m:MS M K S Wx):PTs X ifs (fun σ H Q=>∃ M',MS M' K S Wx∧tT M' t σ H Q):=by
 unfold denIfs at h
 split at h
 ·cases h
  intro pins s σ H Q I q
  exact pts_nil pins s σ H Q I (tTrue_ok q)
 ·obtain ⟨p,e,rfl⟩:=Option.map_eq_some_iff.mp h
  obtain ⟨f,vs⟩:=p
  have g:=hd _ _ _ e
  intro pins s σ H Q I ⟨M',m',q⟩
  exact pts_one (g.2.2 X M' xs m').2 pins s σ H Q I q
 ·cases h
theorem den_set (n:Nat) (S:Sx) (a:List Expr) (b:Nat) (c:Pos):den n S (.Set a b c)=none:=by
 cases n <;> rfl
theorem noStar_few {e:Expr} (h:noStar e=true) (env:Env) (cpos:Pos):((backTo cpos (starEach [e] env)).all (fun x=>!x.1) && (backToKw cpos (keywordEach [] env)).all (fun x=>x.1.isSome)
   && decide (([e]:List Expr).length + ([]:List Keyword).length + (if ([]:List Keyword).isEmpty then 0 else 1) < 30))=true:=by
 have:starEach [e] env=[(false,eval e env)]:=star_one (noStar_iff h)
 rw [this]
 rfl
theorem findIdx_name {T:Str}{c:Nat} (h:XN.findIdx? (·== T)=some c):XN[c]?=some T:=by
 obtain ⟨hlt,h1,_⟩:=List.findIdx?_eq_some_iff_getElem.mp h
 rw [List.getElem?_eq_getElem hlt]
 exact congrArg some (eq_of_beq h1)
theorem cls_read {T:Str}{n:Nat} (GX:GX K mg S.xc) (hb:∀ x∈bnames,mg x=none) (h:clsNo S T=some n) (xs:XS X P w K mg base lvl S Wx):xKit X.K=true∧∃ cv,(∀ p2,PE X (.Name T p2) (tC cv))∧∀ u,RelV cv u→clsV X.K n u=true:=by
 unfold clsNo at h
 split at h
 ·rename_i hc
  obtain ⟨hg,hx⟩:=hc
  obtain ⟨_,hk,hcs⟩:=GX hx
  refine ⟨by rw [xs.K];exact hk,?_⟩
  split at h
  ·rename_i eT
   subst eT
   cases h
   refine ⟨.ty "ValueError",fun p2=>pe_bltn (xs.gl hg) (by rw [xs.mg];exact hb _ (by decide +kernel)) (u:=.type "ValueError") rfl rfl (by decide) (by decide),fun u r=>?_⟩
   cases r
   unfold clsV
   rfl
  ·split at h
   ·rename_i hc
    split at h
    ·rename_i hm
     cases h
     obtain ⟨x',C,h1,h2,h3,h4⟩:=hcs n (by simpa using hm)
     have ex:x'=T:=by
      have:=findIdx_name hc
      rw [h1] at this
      exact Option.some.inj this
     subst ex
     refine ⟨.ref C,fun p2=>pe_glob (xs.gl hg) (by rw [xs.mg];exact h3) rfl h4,fun u r=>?_⟩
     cases r
     unfold clsV
     rw [xs.K,h2]
     simp
    ·cases h
   ·cases h
 ·cases h
theorem clss_read (GX:GX K mg S.xc) (hb:∀ x∈bnames,mg x=none) (xs:XS X P w K mg base lvl S Wx):∀ {es:List Expr}{ns:List Nat},clsNos S es=some ns→es≠[]→xKit X.K=true∧∃ cvs,cvs.length=es.length∧PA X es (tVs cvs)∧∀ us,Vals cvs us→clsVs X.K ns us=true
 | [],_,_,hn=>absurd rfl hn
 | e::r,ns,h,_=>by
  unfold clsNos at h
  split at h
  ·rename_i T ds h1 h2
   obtain ⟨n,h3,rfl⟩:=Option.map_eq_some_iff.mp h
   obtain ⟨p2,rfl⟩:=nmE_eq h1
   obtain ⟨hk,cv,c1,c2⟩:=cls_read GX hb h3 xs
   refine ⟨hk,?_⟩
   have st:starEach (Expr.Name T p2::r) X.env=(false,eval (.Name T p2) X.env)::starEach r X.env:=rfl
   by_cases hr:r=[]
   ·subst hr
    cases h2
    refine ⟨[cv],rfl,fun a b c d e f g h=>(pa_cons (c1 p2) pa_nil st) a b c d e f g h,fun us v=>?_⟩
    cases v with
    | cons r rr=>
     cases rr
     unfold clsVs
     rw [c2 _ r]
     rfl
   ·obtain ⟨_,cvs,l1,pa,l2⟩:=clss_read GX hb xs h2 hr
    refine ⟨cv::cvs,by rw [List.length_cons,List.length_cons,l1],fun a b c d e f g h=>(pa_cons (c1 p2) pa st) a b c d e f g h,fun us v=>?_⟩
    cases v with
    | cons r rr=>
     unfold clsVs
     rw [c2 _ r,l2 _ rr]
     rfl
  ·cases h
theorem den_ok (GX:GX K mg S.xc) (G:GS P w K mg base lvl S.Γ) (Gm:GSm P w K mg base lvl S.Γm):∀ (n:Nat) (S':Sx) (e:Expr) (f:Fx) (vs:List Nat),S'.Γ=S.Γ→S'.Γm=S.Γm→S'.xc=S.xc→(∀ i,∀ j∈S'.alF i,S'.msF j=false)→den n S' e=some (f,vs)→Good P w K mg base lvl S' e f vs:=by
 intro n
 induction n with
 | zero=>intro S' e f vs _ _ _ _ h;cases h
 | succ n ih=>
  intro S' e f vs hΓ hΓm hX hS h
  have hd:∀ e f vs,den n S' e=some (f,vs)→Good P w K mg base lvl S' e f vs:=fun e f vs h=>ih S' e f vs hΓ hΓm hX hS h
  replace h:denStep (den n) S' e=some (f,vs):=h
  unfold denStep at h
  split at h
  ·unfold denC at h
   split at h
   ·cases h;exact good_of (fun _ z=>(nomatch z)) rfl (fun _ _=>rfl) fun X M xs m=>pe_imp pe_int fun σ H Q q=>tE_atom (fun K H Z=>by rw [Own];exact ⟨rfl,rfl⟩) q
   ·cases h;exact good_of (fun _ z=>(nomatch z)) rfl (fun _ _=>rfl) fun X M xs m=>pe_imp pe_bl fun σ H Q q=>tE_atom (fun K H Z=>by rw [Own];exact ⟨rfl,rfl⟩) q
   ·cases h;exact good_of (fun _ z=>(nomatch z)) rfl (fun _ _=>rfl) fun X M xs m=>pe_imp pe_non fun σ H Q q=>tE_atom (fun K H Z=>by rw [Own];exact ⟨rfl,rfl⟩) q
   ·cases h;exact good_of (fun _ z=>(nomatch z)) rfl (fun _ _=>rfl) fun X M xs m=>pe_imp pe_str fun σ H Q q=>tE_atom (fun K H Z=>by rw [Own];exact ⟨rfl,rfl⟩) q
   ·cases h
  ·split at h
   ·rename_i i hi
    split at h
    ·cases h
    ·rename_i hm
     cases h
     refine good_of (fun j hj=>?_) rfl (fun _ _=>rfl) fun X M xs m=>pe_len (xs.var hi) fun σ H Q hl q=>?_
     ·rcases List.mem_cons.mp hj with z | z
      ·rw [z];simpa using hm
      ·exact hS i j z
     ·have hlt:i < S'.N.length:=by
       unfold Sx.slot at hi
       split at hi
       ·exact (List.getElem?_eq_some_iff.mp (ixOf_get hi)).1
       ·cases hi
      rw [← m.al i hlt] at q
      exact tE_var q
   ·cases h
  ·split at h
   ·rename_i f1 v1 f2 v2 o h1 h2 h3
    cases h
    have g1:=hd _ _ _ h1
    have g2:=hd _ _ _ h2
    exact good_of (and_append g1.1 g2.1) rfl (fun _ _=>rfl) fun X M xs m=>se_op h3 (m.v g1.1) (m.k xs) (g1.2.2 X M xs m).1 (g2.2.2 X M xs m).1
   ·cases h
  ·split at h
   ·rename_i f1 v1 h1
    cases h
    have g1:=hd _ _ _ h1
    exact good_of g1.1 rfl (fun _ _=>rfl) fun X M xs m=>se_neg (g1.2.2 X M xs m).1
   ·cases h
  ·split at h
   ·rename_i f1 v1 h1
    cases h
    exact good_not (hd _ _ _ h1)
   ·cases h
  ·rename_i es pos
   have g:=denAnd_ok hd (pos:=pos) _ _ _ h
   exact ⟨g.1,rfl,fun X M xs m=>⟨(g.2 X M xs m).1,(g.2 X M xs m).2.pt⟩⟩
  ·rename_i es pos
   have g:=denOr_ok hd (pos:=pos) _ _ _ h
   exact ⟨g.1,rfl,fun X M xs m=>⟨(g.2 X M xs m).1,(g.2 X M xs m).2.pt⟩⟩
  ·split at h
   ·rename_i f1 v1 f2 v2 o h1 h2 h3
    cases h
    exact good_cmp h3 (hd _ _ _ h1) (hd _ _ _ h2)
   ·cases h
  ·split at h
   ·rename_i f1 v1 f2 v2 f3 v3 p q h1 h2 h3 h4 h5
    cases h
    exact good_chain h4 h5 (hd _ _ _ h1) (hd _ _ _ h2) (hd _ _ _ h3)
   ·cases h
  ·split at h
   ·rename_i fa v h1
    cases h
    have g:=denLW_ok hd _ _ _ h1
    exact good_of g.1 rfl (fun _ _=>rfl) fun X M xs m=>se_lst (g.2.2 X M xs m)
   ·cases h
  ·split at h
   ·rename_i fa v h1
    cases h
    have g:=denLW_ok hd _ _ _ h1
    exact good_of g.1 rfl (fun _ _=>rfl) fun X M xs m=>se_tup (g.2.2 X M xs m)
   ·cases h
  ·cases h
   exact good_of (fun _ z=>(nomatch z)) rfl (fun _ _=>rfl) fun X M xs m=>se_emp
  ·obtain ⟨i,hi,e⟩:=Option.map_eq_some_iff.mp h
   cases e
   exact good_of (fun _ z=>(nomatch z)) rfl (fun _ _=>rfl) fun X M xs m=>se_dk (xs.var hi)
  ·rename_i a b pos
   unfold denSub at h
   split at h
   ·rename_i lo hi st p2
    unfold denSlc at h
    split at h
    ·split at h
     ·rename_i f1 v1 f2 v2 h1 h2
      cases h
      have g1:=hd _ _ _ h1
      have g2:=hd _ _ _ h2
      exact good_of g1.1 rfl (fun _ _=>rfl) fun X M xs m=>pe_imp (pe_slice sl_list (g1.2.2 X M xs m).1 po_none (po_some (g2.2.2 X M xs m).1)) fun σ H Q q=>tE_sl (lo:=none) (hi:=some (f2,v2)) (m.v g1.1) (m.k xs) q
     ·cases h
    ·split at h
     ·rename_i f1 v1 f2 v2 h1 h2
      cases h
      have g1:=hd _ _ _ h1
      have g2:=hd _ _ _ h2
      exact good_of g1.1 rfl (fun _ _=>rfl) fun X M xs m=>pe_imp (pe_slice sl_list (g1.2.2 X M xs m).1 (po_some (g2.2.2 X M xs m).1) po_none) fun σ H Q q=>tE_sl (lo:=some (f2,v2)) (hi:=none) (m.v g1.1) (m.k xs) q
     ·cases h
    ·split at h
     ·rename_i f1 v1 f2 v2 f3 v3 h1 h2 h3
      cases h
      have g1:=hd _ _ _ h1
      have g2:=hd _ _ _ h2
      have g3:=hd _ _ _ h3
      exact good_of g1.1 rfl (fun _ _=>rfl) fun X M xs m=>pe_imp (pe_slice sl_list (g1.2.2 X M xs m).1 (po_some (g2.2.2 X M xs m).1) (po_some (g3.2.2 X M xs m).1)) fun σ H Q q=>tE_sl (lo:=some (f2,v2)) (hi:=some (f3,v3)) (m.v g1.1) (m.k xs) q
     ·cases h
    ·rename_i st
     split at h
     ·rename_i hst
      obtain ⟨k,p3,p4,rfl⟩:=isNeg1_eq hst
      split at h
      ·rename_i f1 v1 h1
       cases h
       have g1:=hd _ _ _ h1
       exact good_of g1.1 rfl (fun _ _=>rfl) fun X M xs m=>se_rv (m.k xs) (g1.2.2 X M xs m).1
      ·cases h
     ·cases h
    ·cases h
   ·split at h
    ·rename_i x i hx hi
     obtain ⟨px,rfl⟩:=nmE_eq hx
     obtain ⟨k,pi,rfl⟩:=ixC_eq hi
     split at h
     ·rename_i j hj
      split at h
      ·cases h
       exact good_of (fun _ z=>(nomatch z)) rfl (fun _ _=>rfl) fun X M xs m=>se_ms xs hj (m.k xs)
      ·rename_i hm
       cases h
       have hlt:j < S'.N.length:=by
        unfold Sx.slot at hj
        split at hj
        ·exact (List.getElem?_eq_some_iff.mp (ixOf_get hj)).1
        ·cases hj
       have hv:∀ i∈j::S'.alF j,S'.msF i=false:=fun i hi=>by
        rcases List.mem_cons.mp hi with z | z
        ·rw [z];simpa using hm
        ·exact hS j i z
       refine good_of (and_append hv fun _ z=>(nomatch z)) rfl (fun _ _=>rfl) fun X M xs m=>se_idx (m.v hv) (m.k xs) (plainIx_of rfl) (pe_imp (xs.var hj) fun σ H Q q=>?_) (pe_imp pe_int fun σ H Q q=>tE_atom (fun K H Z=>by rw [Own];exact ⟨rfl,rfl⟩) q)
       rw [← m.al j hlt] at q
       exact tE_var q
     ·cases h
    ·split at h
     ·rename_i f1 v1 f2 v2 h1 h2
      split at h
      ·rename_i hn
       cases h
       have g1:=hd _ _ _ h1
       have g2:=hd _ _ _ h2
       exact good_of (and_append g1.1 g2.1) rfl (fun _ _=>rfl) fun X M xs m=>se_idx (m.v g1.1) (m.k xs) (plainIx_of hn) (g1.2.2 X M xs m).1 (g2.2.2 X M xs m).1
      ·cases h
     ·cases h
  ·split at h
   ·rename_i x p args pos _ hx
    subst hx
    split at h
    ·rename_i e c
     unfold denIsi at h
     split at h
     ·rename_i f1 v1 h1
      split at h
      ·rename_i hgi
       have g1:=hd _ _ _ h1
       split at h
       ·rename_i T pT
        have s2:∀ {X:Cx},starEach [Expr.Name T pT] X.env=[(false,eval (.Name T pT) X.env)]:=rfl
        split at h
        ·rename_i t h2
         split at h
         ·rename_i hg
          cases h
          obtain ⟨t1,t2,t3,t4,t5⟩:=tyOf_ok h2
          refine good_of g1.1 rfl (fun _ _=>rfl) fun X M xs m=>?_
          exact se_isi (x:=T) t1 (m.k xs) (g1.2.2 X M xs m).1 (xs.gl hgi) (by rw [xs.mg];exact G.1 _ (by decide +kernel)) (pe_bltn (xs.gl hg) (by rw [xs.mg];exact G.1 _ t2) t3 rfl t5 t4) (by rw [star_one (noStar_iff g1.2.1),s2]) s2
         ·cases h
        ·obtain ⟨n,h3,e2⟩:=Option.map_eq_some_iff.mp h
         cases e2
         refine good_of g1.1 rfl (fun _ _=>rfl) fun X M xs m=>?_
         obtain ⟨hk,cv,c1,c2⟩:=cls_read (by rw [hX];exact GX) G.1 h3 xs
         exact se_isiX hk (m.k xs) (g1.2.2 X M xs m).1 (xs.gl hgi) (by rw [xs.mg];exact G.1 _ (by decide +kernel)) (c1 pT) c2 (by rw [star_one (noStar_iff g1.2.1),s2]) s2
       ·rename_i es k p2
        split at h
        ·rename_i hl
         obtain ⟨ns,h3,e2⟩:=Option.map_eq_some_iff.mp h
         cases e2
         obtain ⟨hl,hne⟩:=hl
         refine good_of g1.1 rfl (fun _ _=>rfl) fun X M xs m=>?_
         have s2:starEach [Expr.Tuple es k p2] X.env=[(false,eval (.Tuple es k p2) X.env)]:=rfl
         obtain ⟨hk,cvs,l1,pa,l2⟩:=clss_read (by rw [hX];exact GX) G.1 xs h3 hne
         exact se_isiXs hk (m.k xs) (g1.2.2 X M xs m).1 (xs.gl hgi) (by rw [xs.mg];exact G.1 _ (by decide +kernel)) pa (by rw [l1];exact Nat.le_trans hl (by decide)) l2 (by rw [star_one (noStar_iff g1.2.1),s2]) s2
        ·cases h
       ·cases h
      ·cases h
     ·cases h
    ·cases h
   ·split at h
    ·rename_i o ho
     split at h
     ·rename_i e es
      split at h
      ·rename_i fa v h1
       split at h
       ·rename_i hg
        cases h
        have g:=denLW_ok hd _ _ _ h1
        exact good_of g.1 rfl (fun _ _=>rfl) fun X M xs m=>se_bop ho xs m G.1 hg g.2.1 (g.2.2 X M xs m)
       ·cases h
      ·cases h
     ·cases h
    ·split at h
     ·rename_i x p args pos _ _ _ _ nn F hF
      split at h
      ·rename_i e es
       split at h
       ·rename_i fa v h1
        split at h
        ·rename_i hg
         cases h
         have g:=denLW_ok hd _ _ _ h1
         rw [hΓ] at hF
         obtain ⟨d1,d2,fa',fd,ps,d3,d4,d5,d6,d7⟩:=G.2 _ _ _ _ hF
         refine good_of g.1 rfl (fun _ _=>rfl) fun X M xs m=>?_
         have hs:=g.2.1
         rw [List.all_cons,Bool.and_eq_true] at hs
         obtain ⟨xp,xw,xK,xm,xb,_,_,_,xr,_⟩:=id xs
         subst xp xw xK xm xb
         have mk:M.K=X.K:=m.K
         have hps:=xs.ps
         rw [← m.W] at hps
         refine pe_imp (pe_callX d7 xr (xs.gl hg) d3 d4 d5 hps (g.2.2 X M xs m) d1 (star_one (noStar_iff hs.1)) (star_any hs.2)) fun σ H Q q=>?_
         have:=tE_call d2 q
         rw [mk] at this
         exact this
        ·cases h
       ·cases h
      ·cases h
     ·rename_i x p args pos _ _ _ _ nn F hF
      split at h
      ·rename_i y py es
       split at h
       ·rename_i i fa v h0 h1
        split at h
        ·rename_i hg
         cases h
         have g:=denLW_ok hd _ _ _ h1
         rw [hΓ] at hF
         obtain ⟨d1,d2,fa',fd,ps,d3,d4,d5,d6,d7⟩:=G.2 _ _ _ _ hF
         refine good_of g.1 rfl (fun _ _=>rfl) fun X M xs m=>?_
         obtain ⟨xp,xw,xK,xm,xb,_,_,_,xr,_⟩:=id xs
         subst xp xw xK xm xb
         have mk:M.K=X.K:=m.K
         refine pe_imp (pe_call (E:=E0) (dvs:=[]) d7 xr (xs.gl hg.1) d3 d4 d5 .nil passR (pa_cons (xs.var h0) (g.2.2 X M xs m) rfl) d1 rfl (star_any g.2.1)) fun σ H Q q=>?_
         have:=tE_callIO (E:=E0) m.als (m.v g.1) (by rw [m.ms];exact hg.2) d2 q
         rw [mk] at this
         exact this
        ·cases h
       ·cases h
      ·rename_i ls lp
       split at h
       ·rename_i fa v h1
        split at h
        ·rename_i hg
         cases h
         have g:=denLW_ok hd _ _ _ h1
         rw [hΓ] at hF
         obtain ⟨d1,d2,fa',fd,ps,d3,d4,d5,d6,d7⟩:=G.2 _ _ _ _ hF
         refine good_of g.1 rfl (fun _ _=>rfl) fun X M xs m=>?_
         obtain ⟨xp,xw,xK,xm,xb,_,_,_,xr,_⟩:=id xs
         subst xp xw xK xm xb
         have mk:M.K=X.K:=m.K
         refine pe_imp (pe_call (E:=E0) (dvs:=[]) d7 xr (xs.gl hg) d3 d4 d5 .nil passR (g.2.2 X M xs m) d1 rfl rfl) fun σ H Q q=>?_
         have:=tE_callNw (E:=E0) m.als d2 q
         rw [mk] at this
         exact this
        ·cases h
       ·cases h
      ·cases h
     ·cases h
  ·split at h
   ·rename_i elt tg it ifs scope pos _ _ ys asg iw ht hi
    split at h
    ·rename_i hc
     split at h
     ·rename_i t g vE h1 h2
      cases h
      have ck:=chk_ok hc.1
      have giw:=denI_ok hd (den_set n S') G.1 hi
      have hS2:∀ i,∀ j∈(compS S' scope ys iw.vs).alF i,(compS S' scope ys iw.vs).msF j=false:=fun i j hj=>by
       rw [alF_comp] at hj
       show S'.msF j=false
       split at hj
       ·exact hS i j hj
       ·split at hj
        ·exact giw.1 j hj
        ·cases hj
      have hd2:∀ e f vs,den n (compS S' scope ys iw.vs) e=some (f,vs)→Good P w K mg base lvl (compS S' scope ys iw.vs) e f vs:=fun e f vs h=>ih _ e f vs hΓ hΓm hX hS2 h
      exact good_comp ⟨ht,hc.2,ck,giw,hd2 _ _ _ h2,denIfs_ok hd2 h1⟩
     ·cases h
    ·cases h
   ·cases h
  ·cases h
end
open PySem PySem.Spec PyProof.Rows L2
section
variable {is:List Nat}{M:Fm}{ρ ρ':Rho}{σ σ':St}{H H' H'':Hp}{fps fps' fps'':Fps}{vs vs':List Nat}
def sNo:Fs:=fun _=>.no
theorem tS_no {t:TS}{D:Ends} (hq:tS M sNo D σ H):t D σ H:=by
 obtain ⟨ρ,fps,rep,q⟩:=hq
 exact q.elim
def sUnp (asg:PV→Rho→Option Rho) (f:Fx) (vs:List Nat):Fs:=fun ρ=>match f ρ with
 | .ok (x,d,ρ1)=>(match asg x (coolIf d vs ρ1) with
  | some ρ2=>.nx ρ2
  | none=>.no)
 | .exc c=>.exc c
 | .no=>.no
theorem tS_unp {g:TG}{asg:PV→Rho→Option Rho}{f:Fx}{D:Ends} (hal:∀ i,M.al i=[]) (hv:∀ i∈vs,M.Ms i=false) (hg:GOk M [] is g asg) (hq:tS M (sUnp asg f vs) D σ H):tAsg (tE M f vs) g D σ H:=by
 obtain ⟨ρ,fps,rep,q⟩:=hq
 refine ⟨ρ,fps,rep,?_⟩
 unfold sUnp at q
 cases ef:f ρ with
 | no=>rw [ef] at q;exact q
 | exc c=>rw [ef] at q;exact fun H' fps' k=>q _ H' fps' k.ks
 | ok p=>
  obtain ⟨x,d,ρ1⟩:=p
  rw [ef] at q
  intro v H1 fps1 f1 k1 g1 rep1 o1 t1
  obtain ⟨fps2,k2,r2,o2⟩:=Rep.seen rep k1 g1 rep1 o1 t1 hal hv
  dsimp only at q
  cases ea:asg x (coolIf d vs ρ1) with
  | none=>rw [ea] at q;exact q.elim
  | some ρ2=>
   rw [ea] at q
   refine hg x v _ σ H1 fps2 ρ2 _ r2 (o2.weak fun a h=>h.zf) ea fun σ' fps' s1 _ _ r'=>q σ' H1 fps' (k2.trans ⟨fun _ _ h _=>h,fun _ h=>h,fun j a ha=>.inl ⟨j,s1 j a ha⟩⟩) r'
theorem OwnL.full' {K:Frag}{Z Z':Addr→Prop}{xs:List PV}{ws:List V}{f:List Addr} (h:OwnL K H Z xs om ws f):OwnL K H Z' xs om ws f:=OwnL.full xs ws f h
theorem OwnL.row {K:Frag}{Z:Addr→Prop}:∀ {xs:List PV}{ws:List V}{f:List Addr}{p:Nat}{cells:List PV},OwnL K H Z xs om ws f→xs[p]?=some (.lst cells)→∃ a us fc,ws[p]?=some (.ref a)∧H a=some (.lst us)∧a∈f∧OwnL K H Z cells om us fc∧(∀ b∈fc,b∈f)∧a∉fc ∧
  ∀ (cells':List PV) (us':List V) (fc':List Addr),OwnL K (upd H a (.lst us')) (fun _=>True) cells' om us' fc'→(∀ b∈fc',b∈fc)→∃ f',(∀ b∈f',b∈f)∧OwnL K (upd H a (.lst us')) (fun _=>True) (xs.set p (.lst cells')) om ws f'
 | [],ws,f,p,cells,h,e=>by cases e
 | x::xs,ws,f,0,cells,h,e=>by
  cases e
  rw [OwnL] at h
  obtain ⟨v,s,f1,f2,rfl,rfl,dj,h1,h2⟩:=h
  obtain ⟨a,us,fc,rfl,ha,rfl,na,ol⟩:=h1.list (by decide:om≠0)
  rw [pd_om] at ol
  refine ⟨a,us,fc,rfl,ha,by simp,ol,fun b hb=>by simp [hb],na,fun cells' us' fc' o hs=>⟨(a::fc')++f2,fun b hb=>?_,?_⟩⟩
  ·rcases List.mem_append.mp hb with z | z
   ·rcases List.mem_cons.mp z with z | z
    ·simp [z]
    ·exact List.mem_append_left _ (List.mem_cons_of_mem _ (hs b z))
   ·exact List.mem_append_right _ z
  ·have n2:a∉f2:=dj a List.mem_cons_self
   rw [List.set_cons_zero,OwnL]
   refine ⟨.ref a,s,a::fc',f2,rfl,rfl,fun b hb=>?_,?_,?_⟩
   ·rcases List.mem_cons.mp hb with z | z
    ·rw [z];exact n2
    ·exact dj b (List.mem_cons_of_mem _ (hs b z))
   ·rw [Own]
    exact ⟨a,us',rfl,.inr ⟨by decide,fc',upd_same,rfl,fun z=>na (hs a z),by rw [pd_om];exact o⟩⟩
   ·exact (h2.full' (Z':=fun _=>True)).at trivial ⟨.l us,ha⟩ n2 fun _ _ n=>absurd trivial n
 | x::xs,ws,f,p + 1,cells,h,e=>by
  rw [OwnL] at h
  obtain ⟨v,s,f1,f2,rfl,rfl,dj,h1,h2⟩:=h
  obtain ⟨a,us,fc,e1,ha,hf,ol,hs,na,nx⟩:=h2.row (by simpa using e)
  refine ⟨a,us,fc,by simpa using e1,ha,List.mem_append_right _ hf,ol,fun b hb=>List.mem_append_right _ (hs b hb),na,fun cells' us' fc' o hs'=>?_⟩
  obtain ⟨f',s',o'⟩:=nx cells' us' fc' o hs'
  refine ⟨f1++f',fun b hb=>(List.mem_append.mp hb).elim (fun z=>List.mem_append_left _ z) fun z=>List.mem_append_right _ (s' b z),?_⟩
  rw [List.set_cons_succ,OwnL]
  refine ⟨v,s,f1,f',rfl,rfl,fun b hb z=>dj b hb (s' b z),?_,o'⟩
  exact (Own.full (Z':=fun _=>True) x v f1 h1).at trivial ⟨.l us,ha⟩ (fun z=>dj a z hf) fun _ _ n=>absurd trivial n
def put2 (x:PV) (a b:Int) (y:PV):Option PV:=match x with
 | .lst rows=>(match ixN rows.length a with
  | some p=>(match rows[p]? with
   | some (.lst cells)=>(match ixN cells.length b with
    | some q=>some (.lst (rows.set p (.lst (cells.set q y))))
    | none=>none)
   | _=>none)
  | none=>none)
 | _=>none
theorem put2_some {x x' y:PV}{a b:Int} (h:put2 x a b y=some x'):∃ rows p cells q,x=.lst rows∧ixN rows.length a=some p∧rows[p]?=some (.lst cells)∧ixN cells.length b=some q∧x'=.lst (rows.set p (.lst (cells.set q y))):=by
 unfold put2 at h
 split at h
 ·rename_i rows
  split at h
  ·rename_i p ep
   split at h
   ·rename_i cells er
    split at h
    ·rename_i q eq
     cases h
     exact ⟨rows,p,cells,q,rfl,ep,er,eq,rfl⟩
    ·cases h
   ·cases h
  ·cases h
 ·cases h
theorem fn_no {P:Program}{w:World}{K:Frag}{mg:Str→Option Value}{base:Heap}{lvl:Nat}{fa:Addr}{fd:FuncData}{ps:List Str}{io:Bool}{np:Nat} (h:ps.length=np):FnOk P w K mg base (CXr P w K) lvl fa fd ps (spF K io np (fun _=>.no)):=
 ⟨fun vs H Q E h1=>h1.1.trans h.symm,fun A outer s H args us vs Q E _ _ _ _ h1=>by
  obtain ⟨_,_,_,_,_,_,_,_,_,_,z⟩:=h1
  exact z.elim⟩
end
open PySem PySem.Spec PyProof.Rows L2
section
variable {M:Fm}{ρ ρ':Rho}{σ σ':St}{H H' H'':Hp}{fps fps' fps'':Fps}{vs vs':List Nat}
end
open PySem PySem.Spec PyProof.Rows L2
section
variable {is:List Nat}{M:Fm}{ρ ρ':Rho}{σ σ':St}{H H' H'':Hp}{fps fps' fps'':Fps}{vs vs':List Nat}{D:Ends}
def RqOk (M:Fm) (D:Ends) (σ:St) (ρ:Rho) (H:Hp) (fps:Fps):Rs→Prop
 | .nx ρ'=>∀ H' fps',KD M H fps H' fps'→Agr M ρ ρ'→Rep M ρ' σ H' fps'→D.nx σ H'
 | .rt x d ρ'=>∀ v σ' H' fps' fp,KS M H fps H' fps'→Rep M ρ' σ' H' fps'→Own M.K H' (fun a=>Zr M fps' a∨a∈fp) x d v fp→(∀ a∈fp,M.H₀ a=none∧¬ Zr M fps' a)→D.rt v H'
 | .exc c=>∀ H' fps',KS M H fps H' fps'→M.W σ c H'
 | _=>False
def tQ (M:Fm) (f:Fs):TS:=fun D σ H=>∃ ρ fps,Rep M ρ σ H fps∧RqOk M D σ ρ H fps (f ρ)
theorem RqOk.from {ρ1:Rho}{r:Rs} (k1:KD M H fps H' fps') (g1:Agr M ρ ρ1) (q:RqOk M D σ ρ H fps r):RqOk M D σ ρ1 H' fps' r:=by
 cases r with
 | no=>exact q
 | exc c=>exact fun H' fps' k=>q H' fps' (k1.ks.trans k)
 | rt x d ρ2=>exact fun v σ' H' fps' fp k=>q v σ' H' fps' fp (k1.ks.trans k)
 | bk ρ2=>exact q
 | ct ρ2=>exact q
 | nx ρ2=>exact fun H' fps' k g=>q H' fps' (k1.trans k) (g1.trans g)
theorem tQ_nil (hq:tQ M sNil D σ H):tNext D σ H:=by
 obtain ⟨ρ,fps,rep,q⟩:=hq
 exact q H fps KD.refl Agr.refl rep
theorem tQ_no {t:TS} (hq:tQ M sNo D σ H):t D σ H:=by
 obtain ⟨ρ,fps,rep,q⟩:=hq
 exact q.elim
theorem tQ_seq {f g:Fs} (hq:tQ M (sSeq f g) D σ H):tSeq (tQ M f) (tQ M g) D σ H:=by
 obtain ⟨ρ,fps,rep,q⟩:=hq
 refine ⟨ρ,fps,rep,?_⟩
 unfold sSeq at q
 cases ef:f ρ with
 | no=>rw [ef] at q;exact q
 | exc c=>rw [ef] at q;exact q
 | rt x d ρ1=>rw [ef] at q;exact q
 | bk ρ1=>rw [ef] at q;exact q
 | ct ρ1=>rw [ef] at q;exact q
 | nx ρ1=>rw [ef] at q;exact fun H1 fps1 k1 g1 r1=>⟨ρ1,fps1,r1,RqOk.from k1 g1 q⟩
theorem tQ_if {c:Fb}{f g:Fs} (hq:tQ M (sIf c f g) D σ H):tIfS (tT M c) (tQ M f) (tQ M g) D σ H:=by
 obtain ⟨ρ,fps,rep,q⟩:=hq
 refine ⟨ρ,fps,rep,?_⟩
 unfold sIf at q
 cases ec:c ρ with
 | no=>rw [ec] at q;exact q
 | exc c=>rw [ec] at q;exact fun H' fps' k=>q H' fps' k.ks
 | ok p=>
  obtain ⟨b,ρ1⟩:=p
  rw [ec] at q
  intro H1 fps1 k1 g1 r1
  dsimp only at q
  cases b with
  | true=>exact ⟨ρ1,fps1,r1,RqOk.from k1 g1 q⟩
  | false=>exact ⟨ρ1,fps1,r1,RqOk.from k1 g1 q⟩
theorem tQ_ret {f:Fx} (hv:∀ i∈vs,M.Ms i=false) (hq:tQ M (sRet f) D σ H):tRet (tE M f vs) D σ H:=by
 obtain ⟨ρ,fps,rep,q⟩:=hq
 refine ⟨ρ,fps,rep,?_⟩
 unfold sRet at q
 cases ef:f ρ with
 | no=>rw [ef] at q;exact q
 | exc c=>rw [ef] at q;exact fun H' fps' k=>q H' fps' k.ks
 | ok p=>
  obtain ⟨x,d,ρ1⟩:=p
  rw [ef] at q
  intro v H1 fps1 f1 k1 g1 rep1 o1 t1
  exact q v σ H1 fps1 f1 k1.ks rep1 (o1.weak fun a h=>h.elim (fun h=>.inl (rep1.zr hv h)) .inr) fun a ha=>⟨rep.h0' (t1.new a ha),fun z=>t1.ndj a ha z.zf⟩
def kill (is:List Nat):Nat→Rho→Rho
 | _,[]=>[]
 | k,s::r=>(if is.contains k then none else s)::kill is (k + 1) r
theorem kill_get (is:List Nat):∀ (ρ:Rho) (k i:Nat),(kill is k ρ)[i]?=(ρ[i]?).map fun s=>if is.contains (k + i) then none else s
 | [],k,i=>by simp [kill]
 | s::r,k,0=>by simp [kill]
 | s::r,k,i + 1=>by
  rw [kill,List.getElem?_cons_succ,kill_get is r (k + 1) i,List.getElem?_cons_succ]
  have:k + 1 + i=k + (i + 1):=by omega
  rw [this]
theorem kill_len (is:List Nat):∀ (ρ:Rho) (k:Nat),(kill is k ρ).length=ρ.length
 | [],_=>rfl
 | s::r,k=>by rw [kill,List.length_cons,kill_len is r (k + 1),List.length_cons]
def Fm.look (M:Fm) (is v:List Nat):Fm:={ M with al:=fun j=>if is.contains j then v else M.al j }
theorem Rep.look {v:List Nat} (hal:∀ i,M.al i=[]) (r:Rep M ρ σ H fps):Rep (M.look is v) ρ σ H fps where
 own:=fun i x d e=>by
  obtain ⟨u,hu,o⟩:=r.own i x d e
  refine ⟨u,hu,o.weak fun a h=>?_⟩
  rcases h with z | ⟨j,nj,z⟩
  ·exact .inl z
  ·exact .inr ⟨j,(by rw [hal];exact fun y=>nomatch y),z⟩
 non:=r.non
 dj:=r.dj
 zo:=r.zo
 fr:=r.fr
 zd:=r.zd
 len:=r.len
 msf:=r.msf
 h0:=r.h0
 iov:=r.iov
theorem Rep.kill {v:List Nat} (r:Rep (M.look is v) ρ σ H fps):Rep M (QQ.kill is 0 ρ) σ H (fun j=>if is.contains j then [] else fps j):=by
 have get:∀ i x d,(QQ.kill is 0 ρ)[i]?=some (some (x,d))→is.contains i=false∧ρ[i]?=some (some (x,d)):=fun i x d e=>by
  rw [kill_get,Nat.zero_add] at e
  cases e1:ρ[i]? with
  | none=>rw [e1] at e;cases e
  | some s=>
   rw [e1] at e
   simp only [Option.map_some,Option.some.injEq] at e
   split at e
   ·cases e
   ·rename_i hc
    exact ⟨by simpa using hc,by rw [e]⟩
 have sub:∀ j a,a∈(if is.contains j then [] else fps j)→a∈fps j:=fun j a h=>by
  split at h
  ·cases h
  ·exact h
 refine ⟨fun i x d e=>?_,fun i h=>?_,fun i j hij a ha hb=>r.dj i j hij a (sub i a ha) (sub j a hb),fun i a ha=>r.zo i a (sub i a ha),fun i hi a ha=>r.fr i hi a (sub i a ha),r.zd,by rw [kill_len];exact r.len,fun i x d hi e=>r.msf i x d hi (get i x d e).2,r.h0,r.iov⟩
 ·obtain ⟨hc,e'⟩:=get i x d e
  obtain ⟨u,hu,o⟩:=r.own i x d e'
  refine ⟨u,hu,?_⟩
  simp only [hc,Bool.false_eq_true,if_false]
  refine o.weak fun a h=>?_
  rcases h with z | ⟨j,nj,z⟩
  ·exact .inl z
  ·refine .inr ⟨j,?_,sub j a z⟩
   show j∉(if is.contains i then v else M.al i)
   simp only [hc,Bool.false_eq_true,if_false]
   exact nj
 ·by_cases hc:is.contains i=true
  ·simp only [hc,if_true]
  ·simp only [hc,Bool.false_eq_true,if_false]
   refine r.non i fun p e=>?_
   refine h p ?_
   rw [kill_get,Nat.zero_add,e]
   simp only [Option.map_some,hc,Bool.false_eq_true,if_false]
def loopQ (asg:PV→Rho→Option Rho) (body:Fs):List PV→Rho→Rs
 | [],ρ=>.nx ρ
 | x::xs,ρ=>match asg x ρ with
  | none=>.no
  | some ρ1=>match body ρ1 with
   | .nx ρ2=>loopQ asg body xs ρ2
   | .rt x d ρ2=>.rt x d ρ2
   | .exc c=>.exc c
   | _=>.no
def sForQ (i:Nat) (is:List Nat) (asg:PV→Rho→Option Rho) (body:Fs):Fs:=fun ρ=>match ρ[i]? with
 | some (some (.lst xs,_))=>(match loopQ asg body xs ρ with
  | .nx ρ'=>.nx (kill is 0 ρ')
  | .rt x d ρ'=>.rt x d (kill is 0 ρ')
  | .exc c=>.exc c
  | _=>.no)
 | _=>.no
def endQ (is:List Nat):Rs→Rs
 | .nx ρ'=>.nx (kill is 0 ρ')
 | .rt x d ρ'=>.rt x d (kill is 0 ρ')
 | .exc c=>.exc c
 | _=>.no
theorem tS_forQ {g:TG}{asg:PV→Rho→Option Rho}{body:Fs}{i0:Nat} (hal:∀ i,M.al i=[]) (hm:M.Ms i0=false) (h0:i0∉is) (hms:∀ i∈is,M.Ms i=false) (hg:GOk (M.look is [i0]) [i0] is g asg) (hq:tS M (sForQ i0 is asg body) D σ H):
  tFor (iSeq M.K (tE M (bVar i0) [i0])) g (tQ (M.look is [i0]) body) D σ H:=by
 obtain ⟨ρ,fps,rep,q⟩:=hq
 refine ⟨ρ,fps,rep,?_⟩
 unfold sForQ at q
 unfold bVar
 cases e0:ρ[i0]? with
 | none=>rw [e0] at q;exact q.elim
 | some s0=>
  rw [e0] at q
  cases s0 with
  | none=>exact q.elim
  | some p0=>
   obtain ⟨x0,d0⟩:=p0
   cases x0 with
   | lst xs=>
    intro v H1 fps1 f1 k1 g1 rep1 o1 t1
    have o1':Own M.K H1 (Zv M [i0] fps1) (.lst xs) 0 v []:=Own.freeze (fun _ z=>.inl z) _ _ v f1 (fun a ha z=>t1.ndj a ha z.zf) o1
    have one:∀ {H:Hp}{fps:Fps},Own M.K H (Zv M [i0] fps) (.lst xs) 0 v []→∃ a ws,v=.ref a∧SqL M.K H a ws∧OwnL M.K H (Zv M [i0] fps) xs 0 ws []:=fun o=>own_lst o
    obtain ⟨a,ws,rfl,sq,ol⟩:=one o1'
    refine .inl ⟨a,rfl,.inl ⟨⟨ws,sq⟩,?_⟩⟩
    have q':RsOk M D H1 fps1 (endQ is (loopQ asg body xs ρ)):=by
     refine RsOk.from k1.ks ?_
     dsimp only at q
     unfold endQ
     exact q
    let W:Nat→Nat→St→Hp→Prop:=fun n m σ H=>m=xs.length - n∧∃ ρ fps,Rep (M.look is [i0]) ρ σ H fps∧Own M.K H (Zv M [i0] fps) (.lst xs) 0 (.ref a) []∧RsOk M D H fps (endQ is (loopQ asg body (xs.drop n) ρ))
    refine ⟨W,⟨xs.length,by simp,ρ,fps1,rep1.look hal,o1',by simpa using q'⟩,?_⟩
    rintro n m σ H ⟨rfl,ρ,fps,r,ov,q⟩
    obtain ⟨a',ws',ea,sq',ol'⟩:=one ov
    cases ea
    by_cases hn:n < xs.length
    ·right
     refine ⟨⟨ws',ws'[n]'(by rw [ol'.length];exact hn),sq',by simp⟩,W (n + 1) (xs.length - (n + 1)),fun σ' H' w=>⟨_,by omega,w⟩,fun x H' y=>?_⟩
     obtain ⟨rfl,e2⟩:=y
     obtain ⟨z,ez,oz⟩:=ol'.get (e2 ws' sq')
     have ed:xs.drop n=z::xs.drop (n + 1):=by
      obtain ⟨h1,h2⟩:=List.getElem?_eq_some_iff.mp ez
      rw [← h2];exact List.drop_eq_getElem_cons h1
     rw [ed] at q
     unfold loopQ at q
     cases ea:asg z ρ with
     | none=>rw [ea] at q;exact q.elim
     | some ρ1=>
      rw [ea] at q
      dsimp only at q
      refine hg z x ρ σ _ fps ρ1 _ r oz ea fun σ1 fps1 s1 a1 l1 r1=>⟨ρ1,fps1,r1,?_⟩
      have k1:KS M H' fps H' fps1:=⟨fun _ _ h _=>h,fun _ h=>h,fun j a ha=>.inl ⟨j,s1 j a ha⟩⟩
      have q:=RsOk.from k1 q
      have ov1:Own M.K H' (Zv M [i0] fps1) (.lst xs) 0 (.ref a) []:=ov.weak fun b h=>h.elim .inl fun ⟨j,nj,z⟩=>.inr ⟨j,nj,s1 j b z⟩
      cases eb:body ρ1 with
      | no=>rw [eb] at q;exact q
      | exc c=>rw [eb] at q;exact fun H2 fps2 k=>q _ H2 fps2 ⟨k.keep,k.dom,k.sub⟩
      | bk ρ2=>rw [eb] at q;exact q
      | ct ρ2=>rw [eb] at q;exact q
      | rt x d ρ2=>
       rw [eb] at q
       intro v2 σ2 H2 fps2 fp k2 r2 oy hf
       have ks2:KS M H' fps1 H2 (fun j=>if is.contains j then [] else fps2 j):=⟨k2.keep,k2.dom,fun j b hb=>by
        split at hb
        ·cases hb
        ·exact k2.sub j b hb⟩
       have zr:∀ b,Zr M (fun j=>if is.contains j then [] else fps2 j) b→Zr M fps2 b:=fun b h=>by
        rcases h with z | ⟨z1,z2⟩
        ·exact .inl z
        ·refine .inr ⟨z1,?_⟩
         dsimp only at z2
         split at z2
         ·cases z2
         ·exact z2
       exact q v2 σ2 H2 _ fp ks2 r2.kill (oy.weak fun b h=>h.elim (fun h=>.inl (zr b h)) .inr) fun b hb=>⟨(hf b hb).1,fun z=>(hf b hb).2 (zr b z)⟩
      | nx ρ2=>
       rw [eb] at q
       intro H2 fps2 k2 g2 r2
       have k2':KD M H' fps1 H2 fps2:=⟨k2.keep,k2.dom,k2.sub,k2.same⟩
       refine ⟨rfl,ρ2,fps2,r2,?_,RsOk.from k2'.ks q⟩
       refine Own.move k2.keep ?_ ?_ _ 0 _ [] (fun _ z=>nomatch z) ov1
       ·rintro b ⟨j,hj,hb⟩
        refine ⟨.inr ⟨j,fun z=>?_,hb⟩,r1.lsts hb⟩
        rw [List.mem_singleton.mp z] at hj
        have hj':M.Ms i0=true:=hj
        rw [hm] at hj';cases hj'
       ·intro b hd nz z
        rcases z with z | ⟨j,nj,hx⟩
        ·exact nz (.inl z)
        ·rcases k2.sub j b hx with z | z
         ·exact nz (.inr ⟨j,nj,z⟩)
         ·exact hd z
    ·left
     have ed:xs.drop n=[]:=List.drop_eq_nil_of_le (by omega)
     rw [ed] at q
     refine ⟨⟨ws',sq',by rw [ol'.length];omega⟩,?_⟩
     exact q σ H _ ⟨fun _ _ h _=>h,fun _ h=>h,fun j b hb=>by
      split at hb
      ·cases hb
      ·exact .inl ⟨j,hb⟩⟩ r.kill
   | _=>exact q.elim
end
open PySem PySem.Spec PyProof.Rows L2
section
variable {is:List Nat}{M:Fm}{ρ ρ':Rho}{σ σ':St}{H H' H'':Hp}{fps fps' fps'':Fps}{vs vs':List Nat}{D:Ends}
end
open PySem PySem.Spec PyProof.Rows L2
section
variable {M:Fm}{ρ ρ':Rho}{σ σ':St}{H H':Hp}{fps fps':Fps}{F F':Addr→Prop}{P P':List (Nat×V)}
end
open PySem PySem.Spec PyProof.Rows L2
section
variable {is:List Nat}{X:Cx}{M:Fm}{ρ ρ':Rho}{σ σ':St}{H H' H'':Hp}{fps fps' fps'':Fps}{vs vs':List Nat}{D:Ends}
end
open PySem PySem.Spec PyProof.Rows L2
section
variable {X:Cx}{W:St→Nat→Hp→Prop}
theorem ps_raise (hr:RaiseOk X W) (t:xTab X.K=true) (hcalm:X.calm=true) {c:Nat}{C:Addr}{x m:Str}{np cpos pos p:Pos}{j:_} (e:clsOf X.K c=some C) (hg:Gl X x) (hm:X.mg x=some (.ref C)) (hdb:(x == ("__debug__" : Str))=false):
  PS X (.Raise (some (.Call (.Name x np) [.Constant (.str m) j p] [] cpos)) none pos) (fun D σ H=>W σ c H):=by
 intro pins s σ H D I h
 obtain ⟨bm,N,nm,q,bs,hdct,sn,sub,ab,col,dd,k0,k1,k2,k3,k5,mN,hC,hN,hni,T,_⟩:=(xc_of I.ok.mod.kin t e).obj
 have FB:=PySem.F.excBase_ValueError
 have he:starEach [Expr.Constant (.str m) j p] X.env=(false,eval (.Constant (.str m) j p) X.env)::starEach [] X.env:=rfl
 refine wpAny_Raise_call_subU (C:=C) (nm:=nm) (q:=q) (N:=N) (bs:=bs) (bm:=bm) (hdct:=hdct) (sn:=sn) (sub:=sub) (ab:=ab) (col:=col) (dd:=dd) (k0:=k0) (k1:=k1) (k2:=k2) (k3:=k3) (k5:=k5)
  FB (show bmV.contains (.type "ValueError")=true by decide +kernel) FB (mN:=mN) (T.hasType FB.hasBase) (I.ok.hd hcalm) rfl hni (ld_glob I hg hm ⟨rfl,?_⟩ hdb)
 rw [he]
 refine Calls.evalArgs_plain (wpAny_mono ((pa_cons pe_str pa_nil (by rfl)) cpos pins s σ H (fun vs H'=>H'=H∧vs.length=1) I ⟨rfl,rfl⟩) (fun us s2 hu=>?_) fun _ _ y=>y)
 obtain ⟨vs,H2,I2,rv,eH,hl⟩:=hu
 subst eH
 refine ⟨rfl,?_,I2.bk _ _ hC,hN.keeps I2.bk,T.keeps I2.bk,fun h' a hx=>hr pins σ H2 s2 c C a h' us I2 e hx h⟩
 show us.length≤sizeLine
 rw [← rv.length,hl]
 decide
end
section
variable {X:Cx}{pins pins1:List (Addr×Obj)}{σ:St}{H:Hp}{s:Shared}{e:Value→Shared→Prop}
theorem Cx.Ok.wish2 {p:List (Addr×Obj)} (o:X.Ok):L2.Cx.Ok { X with pn:=p,xe:=e }:=⟨o.mod,o.kind,o.glob,o.blt,o.above,o.inj,o.has,o.cab,o.hd,o.frames,o.stk,o.exf,o.bs,o.bsz,o.noex,o.exfs,o.funs,o.frf⟩
theorem Inv.into (I:L2.Inv X pins σ H s):L2.Inv { X with pn:=X.pn++pins,xe:=e } [] σ H s:=
 ⟨Cx.Ok.wish2 I.ok,I.os,I.bare,I.base,I.loc,I.cell,I.free,I.freeC,fun p hp=>I.pin p (by simpa using hp),I.hok,I.len⟩
theorem Inv.outof (ok:X.Ok) (I:L2.Inv { X with pn:=X.pn++pins,xe:=e } pins1 σ H s):L2.Inv X pins σ H s:=
 ⟨ok,I.os,I.bare,I.base,I.loc,I.cell,I.free,I.freeC,fun p hp=>I.pin p (List.mem_append_left _ hp),I.hok,I.len⟩
abbrev Cx.inh (X:Cx) (v:Value):Cx:={ X with A:=X.A.mark (some v),calm:=false,xe:=fun _ _=>False }
theorem Inv.inh (v:Value) (I:L2.Inv X pins σ H s):L2.Inv (Cx.inh X v) pins σ H s:=
 ⟨⟨I.ok.mod,I.ok.kind,I.ok.glob,I.ok.blt,I.ok.above,I.ok.inj,I.ok.has,I.ok.cab,(fun h=>nomatch h),I.ok.frames,I.ok.stk,I.ok.exf,I.ok.bs,I.ok.bsz,I.ok.noex,I.ok.exfs,I.ok.funs,I.ok.frf⟩,I.os,I.bare,I.base,I.loc,I.cell,I.free,I.freeC,I.pin,I.hok,I.len⟩
theorem Inv.outh {v:Value} (ok:X.Ok) (I:L2.Inv (Cx.inh X v) pins σ H s):L2.Inv X pins σ H s:=
 ⟨ok,I.os,I.bare,I.base,I.loc,I.cell,I.free,I.freeC,I.pin,I.hok,I.len⟩
theorem goes_ok {M:Model}{A:Around}{E:Value→Shared→Prop}{i:Nat}{x:Str}{pos:Pos}{Q:Unit→Shared→Prop} (I:L2.Inv X pins σ H s) (hN:X.N.Nodup) (hi:X.N[i]?=some x) (hk:X.env.kindOf x=some .local)
  (h:∀ s',L2.Inv X pins (σ.set i none) H s'→Q () s'):wpAny M A (do bindName X.env x .none;unbindBehindTheSuite X.env x pos) Q E s:=by
 obtain ⟨m,hn,hl⟩:=id I.loc
 have hcls:(X.env.scope.kind == .class || (X.env.scope.kind == .module && X.env.locals != X.env.globals))=false:=by rw [I.ok.kind];rfl
 have hiσ:i < σ.length:=by rw [I.len];exact (List.getElem?_eq_some_iff.mp hi).1
 have cne:=I.cne
 refine wpAny_nameGoes_keeps hk hn hcls fun h' v hn' hs=>?_
 have tracked:HOk X.prog X.w H h':=fun b ob e=>by
  refine (I.hok b ob e).stay (fun c w' hc q=>(hs.2 c ?_).trans q) (fun _ q=>q) fun _ _ q=>q
  rintro rfl
  rcases hc with rfl | hc
  ·rw [I.free] at e;cases e
  ·rw [I.free] at hc;cases hc
 refine h _ ⟨I.ok,I.os,I.bare,⟨fun b o e n hb hx=>?_,fun b o e n hb hx=>?_,I.base.free,fun b o e hx=>?_,I.base.tups,I.base.frzs,I.base.tbls⟩,⟨_,hn',fun j y v' e1 e2 e3=>?_⟩,fun y c e=>?_,I.free,I.freeC,fun p hp=>?_,tracked,by simpa using I.len⟩
 ·exact (hs.2 b (Nat.ne_of_lt (Nat.lt_of_lt_of_le (Heap.lt_size e) I.ok.above))).trans (I.base.keep b o e n hb hx)
 ·obtain ⟨sl,e1⟩:=I.base.slot b o e n hb hx
  exact ⟨sl,(hs.2 b (Nat.ne_of_lt (Nat.lt_of_lt_of_le (Heap.lt_size e) I.ok.above))).trans e1⟩
 ·obtain ⟨o',e1⟩:=I.base.there b o e hx
  exact ⟨o',(hs.2 b (Nat.ne_of_lt (Nat.lt_of_lt_of_le (Heap.lt_size e) I.ok.above))).trans e1⟩
 ·by_cases hj:j=i
  ·subst hj
   rw [List.getElem?_set_self hiσ] at e2
   cases e2
  ·rw [List.getElem?_set_ne (Ne.symm hj)] at e2
   obtain ⟨u',r',q⟩:=hl j y v' e1 e2 e3
   refine ⟨u',r',?_⟩
   rcases q with ⟨k,e⟩ | ⟨k,c,e,z⟩
   ·refine .inl ⟨k,?_⟩
    have:y≠x:=fun e=>hj (nodup_ix hN e1 (e ▸ hi))
    simp [this,e]
   ·exact .inr ⟨k,c,e,z.sameBut hs (cne y c e)⟩
 ·obtain ⟨w',z⟩:=I.cell y c e
  exact ⟨w',z.sameBut hs (cne y c e)⟩
 ·obtain ⟨e,n,ne,nf,d⟩:=I.pin p hp
  exact ⟨(hs.2 p.1 ne).trans e,n,ne,nf,d⟩
end
section
variable {M:Model}{A:Around}{E:Value→Shared→Prop}{K:Frag}
theorem exc_takes {s:Shared}{a C D:Addr}{c d:Nat}{Q:Bool→Shared→Prop} (xc:XC s.heap K c C) (xd:XC s.heap K d D) (ed:clsOf K d=some D) (he:ExcAt a C s.heap) (hq:Q (isX c d) s):wpAny M A (excMatches (.ref a) (.ref D)) Q E s:=by
 obtain ⟨bm,N,nm,q,bs,hdct,sn,sub,ab,col,dd,k0,k1,k2,k3,k5,mN,hC,hN,hni,T,hin⟩:=xc.obj
 obtain ⟨bm',N',nm',q',bs',hdct',sn',sub',ab',col',dd',k0',k1',k2',k3',k5',mN',hD,hN',hni',T',_⟩:=xd.obj
 obtain ⟨oe,vs,hoe,hcls,hdt⟩:=he
 have hcB:(Value.ref D::bm').contains (.type "BaseException")=true:=by rw [List.contains_cons,T'.hasType PySem.F.excBase_ValueError.hasBase,Bool.or_true]
 have hcC:=hin d D ed
 have f:=tc_notTuple
 obtain ⟨h,g,dr,t,os⟩:=s
 unfold excMatches
 repeat (first | (with_reducible refine wpAny_loadPart_at hoe ?_;rw [hcls]) | with_reducible refine wpAny_loadPart_at hD ?_ | (with_reducible refine wpAny_isSubtype_exc hD ?_;rw [hcB]) | (with_reducible refine wpAny_isSubtype_exc hC ?_;rw [hcC]) | wp_step)
 cases hb:isX c d <;> (rw [hb] at hq;wp_walk;exact hq)
end
section
variable {X:Cx}{pins:List (Addr×Obj)}{σ:St}{H H1:Hp}{s:Shared}{B:Heap}{a C:Addr}{a0:Value}{c:Nat}
theorem exc_caught {s':Shared}{h:Heap} (I:L2.Inv X pins σ H s) (un:Un (frs X.stack) [] H H1 s.heap s'.heap) (hok:HOk X.prog X.w H1 s'.heap) (fl:Heap.FlyingW B X.stack a (.ref C) a0 h) (up:s'.heap.UpToSlots h)
  (i1:∀ b o,s'.heap.get? b=some o→H1 b≠none→B.get? b=some o) (i2:∀ b o,s.heap.get? b=some o→H b=none→b∉frs X.stack→B.get? b=some o) (ha:H1 a=none) (hn:s.heap.get? a=none) (hd:∀ b,H b≠none→H1 b≠none) (ho:s'.os=s.os) (hg:AllBare s'.gens):
  L2.Inv X pins σ (upd H1 a (.ext (ExcAt a C))) { s' with heap:=h }∧ExcAt a C h:=by
 have ex:ExcAt a C h:=by
  obtain ⟨oe,vs,e1,e2,e3,_⟩:=fl.first
  exact ⟨oe,vs,e1,e2,e3⟩
 have trk:∀ b v,H1 b≠none→s'.heap.get? b=some v→h.get? b=some v:=fun b v hb e=>fl.1 b v (i1 b v e hb)
 have nea:∀ b o,s.heap.get? b=some o→b≠a:=fun b o e z=>by rw [z,hn] at e;cases e
 have nea1:∀ b o,H1 b=some o→b≠a:=fun b o e z=>by rw [z,ha] at e;cases e
 have fr:∀ b o,s.heap.get? b=some o→H b=none→b∈frs X.stack→∃ sl,h.get? b=some { o with slots:=sl }:=fun b o e n hb=>by
  obtain ⟨sl,e2⟩:=un.any e n (by simp)
  obtain ⟨_,o',ho',hnf⟩:=I.stack.mem hb
  rw [e] at ho';cases ho'
  obtain ⟨sl2,e3⟩:=up b _ e2 hnf
  exact ⟨sl2,e3⟩
 refine ⟨I.call' (s':={ s' with heap:=h }) (ch:=[]) ho ⟨fun b o e n hb _=>fl.1 b o (i2 b o e n hb),fun b o e n hb _=>fr b o e n hb,fun b o e n _=>?_,fun b o e _=>?_,fun b xs e=>?_,fun b o xs e=>?_,fun b ps e=>?_⟩ (fun b o e=>?_) hg (fun b z=>absurd z (by simp)),ex⟩
 ·rw [upd_ne (nea b o e)];exact un.free b o e n (by simp)
 ·by_cases h0:H b=none
  ·by_cases hb:b∈frs X.stack
   ·obtain ⟨sl,e2⟩:=fr b o e h0 hb
    exact ⟨_,e2⟩
   ·exact ⟨o,fl.1 b o (i2 b o e h0 hb)⟩
  ·obtain ⟨o2,e2⟩:=un.there b o e (by simp)
   exact ⟨o2,trk b o2 (hd b h0) e2⟩
 ·have:=un.tups b xs e
  rw [upd_ne (nea1 b _ this)];exact this
 ·have:=un.frzs b o xs e
  rw [upd_ne (nea1 b _ this)];exact this
 ·obtain ⟨m,e1⟩:=un.tbls b ps e
  exact ⟨m,by rw [upd_ne (nea1 b _ e1)];exact e1⟩
 ·by_cases eb:b=a
  ·subst eb
   rw [upd_same] at e
   cases e
   refine ⟨ex,?_,fun h1 h2 x k=>?_⟩
   ·obtain ⟨o,_,e1,_⟩:=ex
    exact ⟨o,e1⟩
   ·obtain ⟨o,vs,e1,e2⟩:=x
    exact ⟨o,vs,k o e1,e2⟩
  ·rw [upd_ne eb] at e
   refine (hok b o e).stay (fun d v hd q=>trk d v ?_ q) (fun d q=>?_) fun d xs q=>?_
   ·rcases hd with rfl | hd
    ·rw [e];simp
    ·rw [hd];simp
   ·rw [upd_ne (nea1 d _ q)];exact q
   ·rw [upd_ne (nea1 d _ q)];exact q
def WT (K:Frag) (d i j:Nat) (D:Ends) (σ₀:St):St→Nat→Hp→Prop:=fun σ c H'=>σ=σ₀∧isX c d=true∧∀ a C,H' a=none→clsOf K c=some C→D.nx (((σ.set j (some (.ref a))).set i (some (.ref a))).set j none) (upd H' a (.ext (ExcAt a C)))
theorem ps_tryAs {tb:(St→Nat→Hp→Prop)→TS}{body:List Stmt}{y n x:Str}{np hpos px pn pa pos:Pos}{d:Nat}{Dd:Addr}{i j:Nat} (t:xTab X.K=true) (hst:X.stack=X.env::X.outer) (hfr:X.env.frame=some X.env.locals) (hN:X.N.Nodup) (hi:X.N[i]?=some x) (hj:X.N[j]?=some n) (hij:i≠j)
  (hx:Loc X.env.scope x) (hn:X.env.kindOf n=some .local) (hfn:∀ z,X.fn z=true) (ed:clsOf X.K d=some Dd) (hg:Gl X y) (hm:X.mg y=some (.ref Dd)) (hdb:(y == ("__debug__" : Str))=false) (hdn:(n == ("__debug__" : Str))=false) (hcn:(n == ("__classdict__" : Str))=false)
  (hb:∀ pn' xe' W',PassesX (CXr X.prog X.w X.K) { X with pn:=pn',xe:=xe' } W'→PassesOwn (model X.prog X.w) X.A X.env xe'→PSs { X with pn:=pn',xe:=xe' } body (tb W')):
  PS X (.Try body [.ExceptHandler (some (.Name y np)) (some n) [.Assign [.Name x px] (.Name n pn) pa] hpos] [] [] pos) (fun D σ H=>tb (WT X.K d i j D σ) D σ H):=by
 intro pins s σ H D I h
 refine wpAny_Try_except (wpAny_mono (hb (X.pn++pins) _ (WT X.K d i j D σ) ?_ PassesOwn.looking [] s σ H D (Inv.into I) h) (fun f s1 hs=>?_) fun e s1 he=>he)
 ·
  intro pins1 σ1 H1 s1 e s' I1 hx'
  obtain ⟨a,C,c,H',B,a0,rfl,hc,ho,hg',un,hok,ha,hn',fl,i1,i2,hd,hE⟩:=hx'
  obtain ⟨rfl,hcd,hD⟩:WT X.K d i j D σ σ1 c H':=hE
  have I2:L2.Inv X pins σ1 H1 s1:=Inv.outof I.ok I1
  have fl':Heap.FlyingW B (X.env::X.outer) a (.ref C) a0 s'.heap:=by rw [← hst];exact fl
  refine wpAny_looks_onW (by rw [I.ok.frames,hst]) hfr fl' fun h4 held4 up4=>?_
  refine wpAny_landsW held4 fun h5 fl5 up5=>?_
  have up45:=up4.trans up5
  obtain ⟨I5,x5⟩:=exc_caught I2 un hok (by rw [hst];exact fl5) up45 i1 i2 ha hn' hd ho hg'
  have I5':=Inv.inh (.ref a) I5
  refine wpAny_handleBy_cons (codeAny_handlers_test (ld_glob I5' hg hm ?_ hdb)) (by intro q;cases q)
  refine exc_takes (xc_of I5.kIn t hc) (xc_of I5.kIn t ed) ed x5 ?_
  rw [hcd]
  refine codeAny_handlers_suite_as ?_
  refine lands_againW fl5 fun h6 fl6 up6=>?_
  obtain ⟨I6,x6⟩:=exc_caught I2 un hok (by rw [hst];exact fl6) (up45.trans up6) i1 i2 ha hn' hd ho hg'
  refine store_ok (v:=.ref a) I6 hN hj (.inl hn) rfl (fun s7 I7=>?_) (.inl (hfn n))
  have hjl:j < σ1.length:=by rw [I2.len];exact (List.getElem?_eq_some_iff.mp hj).1
  have pse:PS (Cx.inh X (.ref a)) (.Assign [.Name x px] (.Name n pn) pa) (tAsg (tVar j) (gName i)):=ps_set hN hi hx (pe_var hj (.inl hn) hdn hcn) rfl (.inl (hfn x))
  have run:=(pss_one pse) pins s7 _ _ { nx:=fun σ' H''=>σ'=(σ1.set j (some (.ref a))).set i (some (.ref a))∧H''=upd H' a (.ext (ExcAt a C)),rt:=fun _ _=>False } (Inv.inh (.ref a) I7) ⟨.ref a,by rw [List.getElem?_set_self hjl],rfl,rfl⟩
  refine wpAny_mono run (fun f s8 hs=>?_) fun _ _ z=>z.elim
  cases f with
  | next=>
   obtain ⟨σ',H'',I8,rfl,rfl⟩:=hs
   refine goes_ok (Inv.outh I.ok I8) hN hj hn fun s9 I9=>?_
   exact ⟨_,_,I9,hD a C ha hc⟩
  | brk=>obtain ⟨_,_,_,z⟩:=hs;exact z.elim
  | cont=>obtain ⟨_,_,_,z⟩:=hs;exact z.elim
  | ret u=>obtain ⟨_,_,_,_,_,z⟩:=hs;exact z.elim
 ·cases f with
  | next=>
   obtain ⟨σ',H',I',q⟩:=hs
   exact wpAny_execs_nil ⟨σ',H',Inv.outof I.ok I',q⟩
  | brk=>
   obtain ⟨σ',H',I',q⟩:=hs
   exact ⟨σ',H',Inv.outof I.ok I',q⟩
  | cont=>
   obtain ⟨σ',H',I',q⟩:=hs
   exact ⟨σ',H',Inv.outof I.ok I',q⟩
  | ret u=>
   obtain ⟨v,σ',H',I',r,q⟩:=hs
   exact ⟨v,σ',H',Inv.outof I.ok I',r,q⟩
def WTn (K:Frag) (d i:Nat) (D:Ends) (σ₀:St):St→Nat→Hp→Prop:=fun σ c H'=>σ=σ₀∧isX c d=true∧∀ a C,H' a=none→clsOf K c=some C→D.nx (σ.set i (some .non)) (upd H' a (.ext (ExcAt a C)))
theorem ps_tryN {tb:(St→Nat→Hp→Prop)→TS}{body:List Stmt}{y x:Str}{np hpos px pn pa pos:Pos}{jc:_}{d:Nat}{Dd:Addr}{i:Nat} (t:xTab X.K=true) (hst:X.stack=X.env::X.outer) (hfr:X.env.frame=some X.env.locals) (hN:X.N.Nodup) (hi:X.N[i]?=some x)
  (hx:Loc X.env.scope x) (hfn:∀ z,X.fn z=true) (ed:clsOf X.K d=some Dd) (hg:Gl X y) (hm:X.mg y=some (.ref Dd)) (hdb:(y == ("__debug__" : Str))=false)
  (hb:∀ pn' xe' W',PassesX (CXr X.prog X.w X.K) { X with pn:=pn',xe:=xe' } W'→PassesOwn (model X.prog X.w) X.A X.env xe'→PSs { X with pn:=pn',xe:=xe' } body (tb W')):
  PS X (.Try body [.ExceptHandler (some (.Name y np)) none [.Assign [.Name x px] (.Constant .none jc pn) pa] hpos] [] [] pos) (fun D σ H=>tb (WTn X.K d i D σ) D σ H):=by
 intro pins s σ H D I h
 refine wpAny_Try_except (wpAny_mono (hb (X.pn++pins) _ (WTn X.K d i D σ) ?_ PassesOwn.looking [] s σ H D (Inv.into I) h) (fun f s1 hs=>?_) fun e s1 he=>he)
 ·intro pins1 σ1 H1 s1 e s' I1 hx'
  obtain ⟨a,C,c,H',B,a0,rfl,hc,ho,hg',un,hok,ha,hn',fl,i1,i2,hd,hE⟩:=hx'
  obtain ⟨rfl,hcd,hD⟩:WTn X.K d i D σ σ1 c H':=hE
  have I2:L2.Inv X pins σ1 H1 s1:=Inv.outof I.ok I1
  have fl':Heap.FlyingW B (X.env::X.outer) a (.ref C) a0 s'.heap:=by rw [← hst];exact fl
  refine wpAny_looks_onW (by rw [I.ok.frames,hst]) hfr fl' fun h4 held4 up4=>?_
  refine wpAny_landsW held4 fun h5 fl5 up5=>?_
  have up45:=up4.trans up5
  obtain ⟨I5,x5⟩:=exc_caught I2 un hok (by rw [hst];exact fl5) up45 i1 i2 ha hn' hd ho hg'
  have I5':=Inv.inh (.ref a) I5
  refine wpAny_handleBy_cons (codeAny_handlers_test (ld_glob I5' hg hm ?_ hdb)) (by intro q;cases q)
  refine exc_takes (xc_of I5.kIn t hc) (xc_of I5.kIn t ed) ed x5 ?_
  rw [hcd]
  refine codeAny_handlers_suite ?_
  refine lands_againW fl5 fun h6 fl6 up6=>?_
  obtain ⟨I6,x6⟩:=exc_caught I2 un hok (by rw [hst];exact fl6) (up45.trans up6) i1 i2 ha hn' hd ho hg'
  have pse:PS (Cx.inh X (.ref a)) (.Assign [.Name x px] (.Constant .none jc pn) pa) (tAsg (tC .non) (gName i)):=ps_set hN hi hx pe_non rfl (.inl (hfn x))
  have run:=(pss_one pse) pins _ _ _ { nx:=fun σ' H''=>σ'=σ1.set i (some .non)∧H''=upd H' a (.ext (ExcAt a C)),rt:=fun _ _=>False } (Inv.inh (.ref a) I6) ⟨rfl,rfl⟩
  refine wpAny_mono run (fun f s8 hs=>?_) fun _ _ z=>z.elim
  cases f with
  | next=>
   obtain ⟨σ',H'',I8,rfl,rfl⟩:=hs
   exact ⟨_,_,Inv.outh I.ok I8,hD a C ha hc⟩
  | brk=>obtain ⟨_,_,_,z⟩:=hs;exact z.elim
  | cont=>obtain ⟨_,_,_,z⟩:=hs;exact z.elim
  | ret u=>obtain ⟨_,_,_,_,_,z⟩:=hs;exact z.elim
 ·cases f with
  | next=>
   obtain ⟨σ',H',I',q⟩:=hs
   exact wpAny_execs_nil ⟨σ',H',Inv.outof I.ok I',q⟩
  | brk=>
   obtain ⟨σ',H',I',q⟩:=hs
   exact ⟨σ',H',Inv.outof I.ok I',q⟩
  | cont=>
   obtain ⟨σ',H',I',q⟩:=hs
   exact ⟨σ',H',Inv.outof I.ok I',q⟩
  | ret u=>
   obtain ⟨v,σ',H',I',r,q⟩:=hs
   exact ⟨v,σ',H',Inv.outof I.ok I',r,q⟩
end
open PySem PySem.Spec PyProof.Rows L2
section
variable {is:List Nat}{X:Cx}{M:Fm}{ρ ρ':Rho}{σ σ':St}{H H' H'':Hp}{fps fps' fps'':Fps}{vs vs':List Nat}{D:Ends}
def sExc (c:Nat):Fs:=fun _=>.exc c
theorem tS_exc {c:Nat} (hq:tS M (sExc c) D σ H):M.W σ c H:=by
 obtain ⟨ρ,fps,rep,q⟩:=hq
 exact q σ H fps KS.refl
theorem tQ_exc {c:Nat} (hq:tQ M (sExc c) D σ H):M.W σ c H:=by
 obtain ⟨ρ,fps,rep,q⟩:=hq
 exact q H fps KS.refl
def RrOk (M:Fm) (D:Ends) (σ:St) (H:Hp) (fps:Fps):Rs→Prop
 | .exc c=>∀ H' fps',KD M H fps H' fps'→M.W σ c H'
 | .nx ρ'=>RsOk M D H fps (.nx ρ')
 | .rt x d ρ'=>RsOk M D H fps (.rt x d ρ')
 | _=>False
def tR (M:Fm) (f:Fs):TS:=fun D σ H=>∃ ρ fps,Rep M ρ σ H fps∧RrOk M D σ H fps (f ρ)
theorem RrOk.from {r:Rs} (k1:KD M H fps H' fps') (q:RrOk M D σ H fps r):RrOk M D σ H' fps' r:=by
 cases r with
 | no=>exact q
 | exc c=>exact fun H2 fps2 k=>q H2 fps2 (k1.trans k)
 | rt x d ρ2=>exact RsOk.from (r:=.rt x d ρ2) k1.ks q
 | nx ρ2=>exact RsOk.from (r:=.nx ρ2) k1.ks q
 | bk ρ2=>exact q
 | ct ρ2=>exact q
theorem tR_drop {f:Fx} (hq:tR M (sDrop f) D σ H):tDrop (tE M f vs) D σ H:=by
 obtain ⟨ρ,fps,rep,q⟩:=hq
 cases ef:f ρ with
 | ok p=>
  refine tS_drop (M:=M) ⟨ρ,fps,rep,?_⟩
  unfold sDrop at q ⊢
  rw [ef] at q ⊢
  exact q
 | no=>
  unfold sDrop at q
  rw [ef] at q
  exact q.elim
 | exc c=>
  unfold sDrop at q
  rw [ef] at q
  refine ⟨ρ,fps,rep,?_⟩
  rw [ef]
  exact q
theorem tR_set {f:Fx}{i:Nat}{ms:Bool} (hal:∀ i,M.al i=[]) (hv:∀ i∈vs,M.Ms i=false) (hms:M.Ms i=ms) (hio:M.Fre i) (hq:tR M (sSet ms i f vs) D σ H):tAsg (tE M f vs) (gName i) D σ H:=by
 obtain ⟨ρ,fps,rep,q⟩:=hq
 cases ef:f ρ with
 | ok p=>
  refine tS_set hal hv hms hio ⟨ρ,fps,rep,?_⟩
  cases er:sSet ms i f vs ρ with
  | nx ρ'=>rw [er] at q;exact q
  | rt x d ρ'=>rw [er] at q;exact q
  | exc c=>
   obtain ⟨x,d,ρ1⟩:=p
   unfold sSet at er
   rw [ef] at er
   dsimp only at er
   split at er <;> cases er
  | no=>rw [er] at q;exact q.elim
  | bk ρ'=>rw [er] at q;exact q.elim
  | ct ρ'=>rw [er] at q;exact q.elim
 | no=>
  unfold sSet at q
  rw [ef] at q
  exact q.elim
 | exc c=>
  unfold sSet at q
  rw [ef] at q
  refine ⟨ρ,fps,rep,?_⟩
  rw [ef]
  exact q
theorem tR_if {c:Fb}{f g:Fs} (hq:tR M (sIf c f g) D σ H):tIfS (tT M c) (tR M f) (tR M g) D σ H:=by
 obtain ⟨ρ,fps,rep,q⟩:=hq
 refine ⟨ρ,fps,rep,?_⟩
 unfold sIf at q
 cases ec:c ρ with
 | no=>rw [ec] at q;exact q
 | exc c=>rw [ec] at q;exact q
 | ok p=>
  obtain ⟨b,ρ1⟩:=p
  rw [ec] at q
  intro H1 fps1 k1 g1 rep1
  dsimp only at q
  cases b with
  | true=>exact ⟨ρ1,fps1,rep1,RrOk.from k1 q⟩
  | false=>exact ⟨ρ1,fps1,rep1,RrOk.from k1 q⟩
def clr (ms:List Nat) (ρ:Rho):Bool:=ms.all fun k=>match ρ[k]? with
 | some (some (.non,_))=>true
 | some (some _)=>false
 | _=>true
def sTry (d i j:Nat) (ms:List Nat) (b:Fs):Fs:=fun ρ=>match b ρ with
 | .nx ρ'=>.nx ρ'
 | .rt y e ρ'=>.rt y e ρ'
 | .exc c=>if isX c d=true∧i < ρ.length∧clr ms ρ=true then .nx ((ρ.set i (some (.exn c,om))).set j none) else .no
 | _=>.no
def Fm.want (M:Fm) (W':St→Nat→Hp→Prop):Fm:={ M with W:=W' }
theorem Rep.want {W':St→Nat→Hp→Prop} (r:Rep M ρ σ H fps):Rep (M.want W') ρ σ H fps:=⟨r.own,r.non,r.dj,r.zo,r.fr,r.zd,r.len,r.msf,r.h0,r.iov⟩
theorem Rep.unwant {W':St→Nat→Hp→Prop} (r:Rep (M.want W') ρ σ H fps):Rep M ρ σ H fps:=⟨r.own,r.non,r.dj,r.zo,r.fr,r.zd,r.len,r.msf,r.h0,r.iov⟩
theorem Rep.gone {j:Nat} (hal:∀ i,M.al i=[]) (r:Rep M ρ σ H fps) (hio:M.Fre j):Rep M (ρ.set j none) (σ.set j none) H (fun k=>if k=j then [] else fps k):=by
 have sub:∀ k,∀ a∈(if k=j then [] else fps k),a∈fps k:=fun k a h=>by
  by_cases e:k=j
  ·rw [if_pos e] at h;cases h
  ·rw [if_neg e] at h;exact h
 have get:∀ k p,(ρ.set j none)[k]?=some (some p)→k≠j∧ρ[k]?=some (some p):=fun k p e=>by
  by_cases ek:k=j
  ·subst ek
   by_cases hl:k < ρ.length
   ·rw [List.getElem?_set_self hl] at e;cases e
   ·rw [List.set_eq_of_length_le (by omega)] at e
    rw [List.getElem?_eq_none (by omega)] at e;cases e
  ·rw [List.getElem?_set_ne (Ne.symm ek)] at e;exact ⟨ek,e⟩
 refine ⟨fun k x d e=>?_,fun k h=>?_,fun k l hkl a ha hb=>r.dj k l hkl a (sub k a ha) (sub l a hb),fun k a ha=>r.zo k a (sub k a ha),fun k hk a ha=>r.fr k hk a (sub k a ha),r.zd,by rw [List.length_set,List.length_set];exact r.len,fun k x d hk e=>r.msf k x d hk (get k _ e).2,r.h0,?_⟩
 ·obtain ⟨ek,e'⟩:=get k _ e
  obtain ⟨v,hv,o⟩:=r.own k x d e'
  refine ⟨v,by rw [List.getElem?_set_ne (Ne.symm ek)];exact hv,?_⟩
  rw [if_neg ek]
  refine o.weak fun a h=>?_
  rcases h with h | ⟨l,nl,h⟩
  ·exact .inl h
  ·exact .inr ⟨l,nl,sub l a h⟩
 ·by_cases ek:k=j
  ·rw [if_pos ek]
  ·rw [if_neg ek]
   exact r.non k fun p e=>h p (by rw [List.getElem?_set_ne (Ne.symm ek)];exact e)
 ·refine ⟨fun v hv=>?_,fun p hp=>?_⟩
  ·have:=r.iov.1 v hv
   have h0:=hio.1 (by rw [hv];simp)
   rw [List.getElem?_set_ne h0]
   exact this
  ·rw [List.getElem?_set_ne (hio.2 p hp).symm]
   exact r.iov.2 p hp
theorem tS_try {d i j:Nat}{ms:List Nat}{b:Fs} (hal:∀ i,M.al i=[]) (hms:∀ i,M.Ms i=ms.contains i) (hmi:M.Ms i=false) (hij:i≠j) (hoi:M.Fre i) (hoj:M.Fre j) (hq:tS M (sTry d i j ms b) D σ H):tR (M.want (WT M.K d i j D σ)) b D σ H:=by
 obtain ⟨ρ,fps,rep,q⟩:=hq
 refine ⟨ρ,fps,rep.want,?_⟩
 unfold sTry at q
 have ks:∀ {H':Hp}{fps':Fps},KS (M.want (WT M.K d i j D σ)) H fps H' fps'→KS M H fps H' fps':=fun k=>⟨k.keep,k.dom,k.sub⟩
 cases eb:b ρ with
 | no=>rw [eb] at q;exact q
 | bk ρ'=>rw [eb] at q;exact q
 | ct ρ'=>rw [eb] at q;exact q
 | nx ρ'=>rw [eb] at q;exact fun σ' H' fps' k r=>q σ' H' fps' (ks k) r.unwant
 | rt x e ρ'=>rw [eb] at q;exact fun v σ' H' fps' fp k r o hf=>q v σ' H' fps' fp (ks k) r.unwant o hf
 | exc c=>
  rw [eb] at q
  dsimp only at q
  split at q
  ·rename_i hc
   intro H' fps' k
   refine ⟨rfl,hc.1,fun a C ha hC=>?_⟩
   have kk:∀ b o,H b=some o→H' b=some o:=fun b o h=>k.keep b o h fun ⟨l,hl,hb⟩=>by
    have hl:M.Ms l=true:=hl
    rw [hms l] at hl
    have hm:l∈ms:=by simpa using hl
    have hc3:=List.all_eq_true.mp hc.2.2 l hm
    have e:fps l=[]:=by
     cases el:ρ[l]? with
     | none=>exact rep.non l fun p z=>by rw [el] at z;cases z
     | some q=>
      cases q with
      | none=>exact rep.non l fun p z=>by rw [el] at z;cases z
      | some p=>
       obtain ⟨x,dx⟩:=p
       rw [el] at hc3
       cases x <;> first | (obtain ⟨v,_,o⟩:=rep.own l _ _ el;rw [Own] at o;exact o.2) | exact nomatch hc3
    rw [e] at hb
    cases hb
   have k2:∀ b o,H b=some o→upd H' a (.ext (ExcAt a C)) b=some o:=fun b o h=>by
    rw [upd_ne (ne_of_none (kk b o h) ha)];exact kk b o h
   have r2:=(rep.grow k2).bind1 (al:=[]) (i:=i) (y:=.exn c) (v:=.ref a) (by rw [Own];exact ⟨rfl,a,C,rfl,hC,upd_same⟩) hc.2.1 ⟨hmi,hoi,hal i,fun l m hm=>by rw [hal l] at hm;cases hm⟩
   have r3:=r2.gone (j:=j) hal hoj
   have es:((σ.set j (some (V.ref a))).set i (some (V.ref a))).set j none=(σ.set i (some (V.ref a))).set j none:=by
    rw [List.set_comm _ _ (Ne.symm hij),List.set_set]
   rw [es]
   refine q _ _ _ ⟨fun b o h _=>k2 b o h,fun b h=>?_,fun l b hb=>?_⟩ r3
   ·cases e:H b with
    | none=>exact absurd e h
    | some o=>rw [k2 b o e];simp
   ·by_cases e1:l=j
    ·simp only [if_pos e1] at hb;cases hb
    ·simp only [if_neg e1] at hb
     by_cases e2:l=i
     ·simp only [if_pos e2] at hb;cases hb
     ·simp only [if_neg e2] at hb;exact .inl ⟨l,hb⟩
  ·exact q.elim
def sTryN (d i:Nat) (ms:List Nat) (b:Fs):Fs:=fun ρ=>match b ρ with
 | .nx ρ'=>.nx ρ'
 | .rt y e ρ'=>.rt y e ρ'
 | .exc c=>if isX c d=true∧i < ρ.length∧clr ms ρ=true then .nx (ρ.set i (some (.non,om))) else .no
 | _=>.no
theorem tS_tryN {d i:Nat}{ms:List Nat}{b:Fs} (hal:∀ i,M.al i=[]) (hms:∀ i,M.Ms i=ms.contains i) (hmi:M.Ms i=false) (hoi:M.Fre i) (hq:tS M (sTryN d i ms b) D σ H):tR (M.want (WTn M.K d i D σ)) b D σ H:=by
 obtain ⟨ρ,fps,rep,q⟩:=hq
 refine ⟨ρ,fps,rep.want,?_⟩
 unfold sTryN at q
 have ks:∀ {H':Hp}{fps':Fps},KS (M.want (WTn M.K d i D σ)) H fps H' fps'→KS M H fps H' fps':=fun k=>⟨k.keep,k.dom,k.sub⟩
 cases eb:b ρ with
 | no=>rw [eb] at q;exact q
 | bk ρ'=>rw [eb] at q;exact q
 | ct ρ'=>rw [eb] at q;exact q
 | nx ρ'=>rw [eb] at q;exact fun σ' H' fps' k r=>q σ' H' fps' (ks k) r.unwant
 | rt x e ρ'=>rw [eb] at q;exact fun v σ' H' fps' fp k r o hf=>q v σ' H' fps' fp (ks k) r.unwant o hf
 | exc c=>
  rw [eb] at q
  dsimp only at q
  split at q
  ·rename_i hc
   intro H' fps' k
   refine ⟨rfl,hc.1,fun a C ha hC=>?_⟩
   have kk:∀ b o,H b=some o→H' b=some o:=fun b o h=>k.keep b o h fun ⟨l,hl,hb⟩=>by
    have hl:M.Ms l=true:=hl
    rw [hms l] at hl
    have hm:l∈ms:=by simpa using hl
    have hc3:=List.all_eq_true.mp hc.2.2 l hm
    have e:fps l=[]:=by
     cases el:ρ[l]? with
     | none=>exact rep.non l fun p z=>by rw [el] at z;cases z
     | some q=>
      cases q with
      | none=>exact rep.non l fun p z=>by rw [el] at z;cases z
      | some p=>
       obtain ⟨x,dx⟩:=p
       rw [el] at hc3
       cases x <;> first | (obtain ⟨v,_,o⟩:=rep.own l _ _ el;rw [Own] at o;exact o.2) | exact nomatch hc3
    rw [e] at hb
    cases hb
   have k2:∀ b o,H b=some o→upd H' a (.ext (ExcAt a C)) b=some o:=fun b o h=>by
    rw [upd_ne (ne_of_none (kk b o h) ha)];exact kk b o h
   have r2:=(rep.grow k2).bind1 (al:=[]) (i:=i) (y:=.non) (v:=.non) (by rw [Own];exact ⟨rfl,rfl⟩) hc.2.1 ⟨hmi,hoi,hal i,fun l m hm=>by rw [hal l] at hm;cases hm⟩
   refine q _ _ _ ⟨fun b o h _=>k2 b o h,fun b h=>?_,fun l b hb=>?_⟩ r2
   ·cases e:H b with
    | none=>exact absurd e h
    | some o=>rw [k2 b o e];simp
   ·by_cases e2:l=i
    ·simp only [if_pos e2] at hb;cases hb
    ·simp only [if_neg e2] at hb;exact .inl ⟨l,hb⟩
  ·exact q.elim
end
open PySem PySem.Spec PyProof.Rows L2
def sAppPut (i:Nat) (f fv fi fj:Fx):Fs:=fun ρ=>match ρ[i]? with
 | some (some (.lst _,_ + 1))=>(match f ρ with
  | .ok (y,e,ρ1)=>(match ρ1[i]? with
   | some (some (.lst xs,d))=>if e=om∧d≠0∧xs.length < sizeLine then (match fv (ρ1.set i none) with
    | .ok (v,_,ρ2)=>(match fi ρ2 with
     | .ok (.int p,_,ρ3)=>(match fj ρ3 with
      | .ok (.int q,_,ρ4)=>(match put2 y p q v with
       | some y'=>if flatP v=true then .nx (ρ4.set i (some (.lst (xs++[y']),1))) else .no
       | none=>.no)
      | _=>.no)
     | _=>.no)
    | _=>.no) else .no
   | _=>.no)
  | _=>.no)
 | _=>.no
section
variable {X:Cx}{M:Fm}{ρ:Rho}{σ:St}{H:Hp}{fps:Fps}
theorem Rep.away {i:Nat}{a:Addr}{fp:List Addr}{ws us:List V} (hal:∀ i,M.al i=[]) (r:Rep (M.plus fp) ρ σ H fps) (hai:a∈fps i) (ha:H a=some (.lst ws)):Rep (M.plus (a::fp)) (ρ.set i none) σ (upd H a (.lst us)) (fun j=>if j=i then [] else fps j):=by
 have dm:∀ b,H b≠none→(upd H a (.lst us)) b≠none:=fun b h=>by
  by_cases eb:b=a
  ·rw [eb,upd_same];simp
  ·rw [upd_ne eb];exact h
 refine ⟨fun j x c hj=>?_,fun j hj=>?_,fun j k hjk b hb hc=>?_,fun j b hb z=>?_,fun j hj b hb=>?_,fun b z=>?_,by rw [List.length_set];exact r.len,fun j x c hm hj=>?_,fun b z=>dm b (r.h0 b z),r.iov⟩
 ·have ej:j≠i:=fun e=>by
   subst e
   by_cases hl:j < ρ.length
   ·rw [List.getElem?_set_self hl] at hj;cases hj
   ·rw [List.getElem?_eq_none (by rw [List.length_set];omega)] at hj;cases hj
  rw [List.getElem?_set_ne (Ne.symm ej)] at hj
  obtain ⟨v,hv,o⟩:=r.own j x c hj
  refine ⟨v,hv,?_⟩
  rw [if_neg ej]
  refine o.at (.inr ⟨i,by rw [show (M.plus fp).al j=M.al j from rfl,hal j];exact fun z=>(nomatch z),hai⟩) ⟨.l ws,ha⟩ (fun z=>r.dj j i ej a z hai) fun b hb nz z=>nz ?_
  rcases z with (z | z) | ⟨l,nl,z⟩
  ·exact .inl (.inl z)
  ·rcases List.mem_cons.mp z with z | z
   ·rw [z];exact .inr ⟨i,by rw [show (M.plus fp).al j=M.al j from rfl,hal j];exact fun z=>(nomatch z),hai⟩
   ·exact .inl (.inr z)
  ·by_cases el:l=i
   ·simp only [if_pos el] at z;cases z
   ·simp only [if_neg el] at z;exact .inr ⟨l,nl,z⟩
 ·by_cases ej:j=i
  ·rw [if_pos ej]
  ·rw [if_neg ej]
   exact r.non j fun p hp=>hj p (by rw [List.getElem?_set_ne (Ne.symm ej)];exact hp)
 ·by_cases e1:j=i
  ·rw [if_pos e1] at hb;cases hb
  ·by_cases e2:k=i
   ·rw [if_pos e2] at hc;cases hc
   ·rw [if_neg e1] at hb;rw [if_neg e2] at hc;exact r.dj j k hjk b hb hc
 ·by_cases e1:j=i
  ·rw [if_pos e1] at hb;cases hb
  ·rw [if_neg e1] at hb
   rcases z with z | z
   ·exact r.zo j b hb (.inl z)
   ·rcases List.mem_cons.mp z with z | z
    ·exact r.dj j i e1 b hb (by rw [z];exact hai)
    ·exact r.zo j b hb (.inr z)
 ·by_cases e1:j=i
  ·rw [if_pos e1] at hb;cases hb
  ·rw [if_neg e1] at hb;exact r.fr j hj b hb
 ·rcases z with z | z
  ·exact dm b (r.zd b (.inl z))
  ·rcases List.mem_cons.mp z with z | z
   ·rw [z,upd_same];simp
   ·exact dm b (r.zd b (.inr z))
 ·by_cases ej:j=i
  ·subst ej
   by_cases hl:j < ρ.length
   ·rw [List.getElem?_set_self hl] at hj;cases hj
   ·rw [List.getElem?_eq_none (by rw [List.length_set];omega)] at hj;cases hj
  ·rw [List.getElem?_set_ne (Ne.symm ej)] at hj
   exact r.msf j x c hm hj
theorem Rep.back {i:Nat}{a:Addr}{F:List Addr}{x:PV} (hal:∀ i,M.al i=[]) (r:Rep (M.plus (a::F)) ρ σ H fps) (hi:i < ρ.length) (hf:fps i=[]) (hσ:σ[i]?=some (some (.ref a))) (hm:M.Ms i=false) (h0:M.H₀ a=none) (hz:¬ M.Zo a) (o:Own M.K H (Zf M (fun j=>if j=i then [a] else fps j)) x 1 (.ref a) [a]):Rep M (ρ.set i (some (x,1))) σ H (fun j=>if j=i then [a] else fps j):=by
 have na:∀ j,a∉fps j:=fun j z=>r.zo j a z (.inr List.mem_cons_self)
 refine ⟨fun j y c hj=>?_,fun j hj=>?_,fun j k hjk b hb hc=>?_,fun j b hb z=>?_,fun j hj b hb=>?_,fun b z=>r.zd b (.inl z),by rw [List.length_set];exact r.len,fun j y c hmj hj=>?_,r.h0,r.iov⟩
 ·by_cases ej:j=i
  ·subst ej
   rw [List.getElem?_set_self hi] at hj
   cases hj
   refine ⟨_,hσ,?_⟩
   rw [if_pos rfl]
   exact o.weak fun b h=>h.elim .inl fun ⟨l,_,z⟩=>.inr ⟨l,z⟩
  ·rw [List.getElem?_set_ne (Ne.symm ej)] at hj
   obtain ⟨v,hv,o'⟩:=r.own j y c hj
   refine ⟨v,hv,?_⟩
   rw [if_neg ej]
   refine o'.weak fun b h=>?_
   rcases h with z | ⟨l,nl,z⟩
   ·exact .inl (.inl z)
   ·by_cases el:l=i
    ·simp only [if_pos el] at z
     rw [List.mem_singleton.mp z]
     exact .inl (.inr List.mem_cons_self)
    ·simp only [if_neg el] at z;exact .inr ⟨l,nl,z⟩
 ·by_cases ej:j=i
  ·subst ej
   exact absurd (List.getElem?_set_self hi) (hj (x,1))
  ·rw [if_neg ej]
   exact r.non j fun p hp=>hj p (by rw [List.getElem?_set_ne (Ne.symm ej)];exact hp)
 ·by_cases e1:j=i
  ·by_cases e2:k=i
   ·exact hjk (e1.trans e2.symm)
   ·rw [if_pos e1] at hb;rw [if_neg e2] at hc
    rw [List.mem_singleton.mp hb] at hc
    exact na k hc
  ·by_cases e2:k=i
   ·rw [if_neg e1] at hb;rw [if_pos e2] at hc
    rw [List.mem_singleton.mp hc] at hb
    exact na j hb
   ·rw [if_neg e1] at hb;rw [if_neg e2] at hc;exact r.dj j k hjk b hb hc
 ·by_cases e1:j=i
  ·rw [if_pos e1] at hb
   rw [List.mem_singleton.mp hb] at z
   exact hz z
  ·rw [if_neg e1] at hb;exact r.zo j b hb (.inl z)
 ·by_cases e1:j=i
  ·rw [if_pos e1] at hb
   rw [List.mem_singleton.mp hb]
   exact h0
  ·rw [if_neg e1] at hb;exact r.fr j hj b hb
 ·by_cases ej:j=i
  ·rw [ej,hm] at hmj;cases hmj
  ·rw [List.getElem?_set_ne (Ne.symm ej)] at hj
   exact r.msf j y c hmj hj
theorem atI_last {ws:List V}{w:V}:atI (ws++[w]) (-1)=some w:=by
 unfold atI
 have e:ixN (ws++[w]).length (-1)=some ws.length:=by
  unfold ixN
  rw [List.length_append,List.length_singleton]
  rw [if_neg (by decide),if_pos (by omega)]
  congr 1
  omega
 rw [e]
 show (ws++[w])[ws.length]?=some w
 simp
theorem tS_appPut {f fv fi fj:Fx}{vs vv vi vj:List Nat}{i:Nat}{D:Ends}{P:Fm→Prop} (hal:∀ i,M.al i=[]) (hm:M.Ms i=false) (hP:∀ F,P (M.plus F)) (hq:tS M (sAppPut i f fv fi fj) D σ H):
  tSeq (tDrop (tBM M.K "list" rAppend (tVar i) (tCons (tE M f vs) tNil))) (tAsg (fun σ H Q=>∃ M',P M'∧tE M' fv vv σ H Q) (gSub (tOp (rIxL M.K) (tOp (rIxL M.K) (tVar i) (tC (.int (-1)))) (fun σ H Q=>∃ M',P M'∧tE M' fi vi σ H Q)) (fun σ H Q=>∃ M',P M'∧tE M' fj vj σ H Q) rSetL)) D σ H:=by
 obtain ⟨ρ,fps,rep,q⟩:=hq
 unfold sAppPut at q
 split at q
 ·rename_i xs0 d0 e0
  obtain ⟨v,hσ,o⟩:=rep.own0 hal i _ _ e0
  obtain ⟨a,ws0,fc0,rfl,ha0,hfp0,_,_⟩:=o.list (Nat.succ_ne_zero _)
  refine ⟨_,hσ,ty_list (.inl (.inl ha0)),ρ,fps,rep,?_⟩
  cases ef:f ρ with
  | no=>rw [ef] at q;exact q.elim
  | exc c=>rw [ef] at q;exact q.elim
  | ok p=>
   obtain ⟨y,e,ρ1⟩:=p
   rw [ef] at q
   intro w H1 fps1 fp k1 g1 rep1 o1 t1
   dsimp only at q
   split at q
   ·rename_i xs d es
    split at q
    ·rename_i hc
     obtain ⟨rfl,hd,hlen⟩:=hc
     have lfp:∀ b∈fp,∃ o:MO,H1 b=some o.ho:=Own.lsts y _ w fp o1
     have rw1:Rep (M.plus fp) ρ1 σ H1 fps1:=rep.wide (fun i j hj=>by rw [hal i] at hj;cases hj) k1 g1 rep1 fun b hb=>⟨t1.new b hb,by obtain ⟨o,ho⟩:=lfp b hb;rw [ho];simp,t1.ndj b hb⟩
     obtain ⟨v',hσ',ol⟩:=rw1.own0 (M:=M.plus fp) hal i _ _ es
     rw [hσ] at hσ'
     cases hσ'
     obtain ⟨a',ws,fc,ev,ha,hfp,nac,hol⟩:=ol.list hd
     cases ev
     have hai:a∈fps1 i:=by rw [hfp];exact List.mem_cons_self
     have hafp:a∉fp:=fun z=>t1.ndj a z (.inr ⟨i,hai⟩)
     have hai0:a∈fps i:=by have:=k1.same i hm;rw [← this];exact hai
     refine ⟨a,ws,w,rfl,rfl,ha,by rw [hol.length];exact hlen,?_⟩
     let H2:Hp:=upd H1 a (.lst (ws++[w]))
     let M2:Fm:=M.plus (a::fp)
     let fps2:Fps:=fun j=>if j=i then [] else fps1 j
     have r2:Rep M2 (ρ1.set i none) σ H2 fps2:=rw1.away hal hai ha
     have il:i < ρ1.length:=(List.getElem?_eq_some_iff.mp es).1
     let Z2:Addr→Prop:=Zf M2 fps2
     have za:Z2 a:=.inl (.inr List.mem_cons_self)
     have ux:OwnL M.K H2 Z2 xs 0 ws []:=by
      refine (OwnL.freeze (Z':=Z2) (fun b h=>?_) xs _ ws fc (fun b hb z=>?_) hol).at za ⟨.l ws,ha⟩ (fun z=>nomatch z) fun _ _ n=>n
      ·rcases h with (z | z) | ⟨j,z⟩
       ·exact .inl (.inl z)
       ·rcases List.mem_cons.mp z with z | z
        ·rw [z];exact .inr ⟨i,hai⟩
        ·exact .inl (.inr z)
       ·by_cases ej:j=i
        ·simp only [fps2,if_pos ej] at z;cases z
        ·simp only [fps2,if_neg ej] at z;exact .inr ⟨j,z⟩
      ·have hbi:b∈fps1 i:=by rw [hfp];exact List.mem_cons_of_mem _ hb
       rcases z with (z | z) | ⟨j,z⟩
       ·exact rw1.zo i b hbi (.inl z)
       ·rcases List.mem_cons.mp z with z | z
        ·rw [z] at hb;exact nac hb
        ·exact rw1.zo i b hbi (.inr z)
       ·by_cases ej:j=i
        ·simp only [fps2,if_pos ej] at z;cases z
        ·simp only [fps2,if_neg ej] at z;exact rw1.dj i j (Ne.symm ej) b hbi z
     have uy:Own M.K H2 (fun _=>True) y om w fp:=(Own.full (Z':=fun _=>True) y w fp o1).at trivial ⟨.l ws,ha⟩ hafp fun _ _ n=>absurd trivial n
     have mv:∀ {ρa:Rho}{Ha Hb:Hp}{fa fb:Fps},KD M2 Ha fa Hb fb→Rep M2 ρa σ Ha fa→∀ {z:PV}{u:V}{fz:List Addr},(∀ b∈fz,b∈fp)→Own M.K Ha (fun _=>True) z om u fz→Own M.K Hb (fun _=>True) z om u fz:=fun k r z u fz hz o=>
      Own.move k.keep (fun b ⟨_,_,h⟩=>⟨trivial,r.lsts h⟩) (fun _ _ n=>absurd trivial n) z om u fz (fun b hb ⟨j,_,hj⟩=>r.zo j b hj (.inr (List.mem_cons_of_mem _ (hz b hb)))) o
     have ka:∀ {ρa:Rho}{Ha Hb:Hp}{fa fb:Fps}{o:HO},KD M2 Ha fa Hb fb→Rep M2 ρa σ Ha fa→∀ b,b∈a::fp→Ha b=some o→Hb b=some o:=fun k r b hb h=>k.keep b _ h fun ⟨j,_,hj⟩=>r.zo j b hj (.inr hb)
     refine ⟨M2,hP _,ρ1.set i none,fps2,r2,?_⟩
     cases efv:fv (ρ1.set i none) with
     | no=>rw [efv] at q;exact q.elim
     | exc c=>rw [efv] at q;exact q.elim
     | ok pv=>
      obtain ⟨x,dx,ρ2⟩:=pv
      rw [efv] at q
      intro u H3 fps3 fpu k3 g3 rep3 ou tu
      dsimp only at q
      have ha3:H3 a=some (.lst (ws++[w])):=ka k3 r2 a List.mem_cons_self upd_same
      refine ⟨.ref a,hσ,a,ws++[w],-1,w,rfl,rfl,.inl (.inl ha3),atI_last,M2,hP _,ρ2,fps3,rep3,?_⟩
      split at q
      ·rename_i p dp ρ3 efi
       rw [efi]
       intro up H4 fps4 fpp k4 g4 rep4 op tp
       rw [Own] at op
       obtain ⟨rfl,rfl⟩:=op
       split at q
       ·rename_i qq dq ρ4 efj
        split at q
        ·rename_i y' ey
         obtain ⟨rows,pi,cells,qi,rfl,epi,er,eqi,rfl⟩:=put2_some ey
         split at q
         ·rename_i hy
          have uy4:=mv k4 rep3 (fun b hb=>hb) (mv k3 r2 (fun b hb=>hb) uy)
          obtain ⟨at',wr,fr,rfl,hat,hfr,nat,olr⟩:=uy4.list (by decide:om≠0)
          rw [pd_om] at olr
          obtain ⟨r,us,fcr,ew,hr,hrf,oc,sc,nrc,_⟩:=olr.row er
          refine ⟨at',wr,p,.ref r,rfl,rfl,.inl (.inl hat),?_,M2,hP _,ρ3,fps4,rep4,?_⟩
          ·unfold atI
           rw [olr.length,epi]
           exact ew
          rw [efj]
          intro uq H5 fps5 fpq k5 g5 rep5 oq tq
          rw [Own] at oq
          obtain ⟨rfl,rfl⟩:=oq
          have uy5:=mv k5 rep4 (fun b hb=>hb) uy4
          obtain ⟨at5,wr5,fr5,ev,hat5,hfr5,nat5,olr5⟩:=uy5.list (by decide:om≠0)
          cases ev
          have hatf:at'∈fp:=by rw [hfr];exact List.mem_cons_self
          have ht:=ka k5 rep4 at' (List.mem_cons_of_mem _ hatf) hat
          rw [hat5] at ht
          cases ht
          rw [pd_om] at olr5
          obtain ⟨r',us5,fc5,ew5,hr5,hrf5,oc5,sc5,nrc5,nx⟩:=olr5.row er
          rw [ew] at ew5
          cases ew5
          have hrfp:r∈fp:=by rw [hfr5];exact List.mem_cons_of_mem _ hrf5
          refine ⟨r,us5,qq,qi,rfl,rfl,hr5,by rw [oc5.length];exact eqi,?_⟩
          obtain ⟨rfl,oy⟩:=Own.flatA (Z':=fun _=>True) (d':=om) hy ou
          have oy5:=mv k5 rep4 (fz:=[]) (fun _ z=>nomatch z) (mv k4 rep3 (fz:=[]) (fun _ z=>nomatch z) oy)
          obtain ⟨fc',sc',oc'⟩:=(oc5.full' (Z':=fun _=>True)).set oy5 qi
          let H6:Hp:=upd H5 r (.lst (us5.set qi u))
          have oc2:OwnL M.K H6 (fun _=>True) (cells.set qi x) om (us5.set qi u) fc':=oc'.at trivial ⟨.l us5,hr5⟩ (fun z=>nrc5 (sc' r z)) fun _ _ n=>absurd trivial n
          obtain ⟨f',s',o'⟩:=nx _ _ fc' oc2 sc'
          have nea:at'≠r:=fun e=>nat5 (by rw [e];exact hrf5)
          have dm6:∀ b,H5 b≠none→H6 b≠none:=fun b h=>by
           by_cases eb:b=r
           ·show upd H5 r _ b≠none
            rw [eb,upd_same];simp
           ·show upd H5 r _ b≠none
            rw [upd_ne eb];exact h
          have k25:KD M2 H2 fps2 H5 fps5:=(k3.trans k4).trans k5
          have ha5:H5 a=some (.lst (ws++[.ref at'])):=ka k5 rep4 a List.mem_cons_self (ka k4 rep3 a List.mem_cons_self ha3)
          have har:a≠r:=fun e=>hafp (by rw [e];exact hrfp)
          have f5i:fps5 i=[]:=by
           have:=k25.same i hm
           rw [this]
           exact if_pos rfl
          let fps6:Fps:=fun j=>if j=i then [a] else fps5 j
          let Z6:Addr→Prop:=Zf M fps6
          have z65:∀ b,Z6 b→Zf M2 fps5 b:=fun b h=>by
           rcases h with z | ⟨j,z⟩
           ·exact .inl (.inl z)
           ·by_cases ej:j=i
            ·simp only [fps6,if_pos ej] at z
             rw [List.mem_singleton.mp z]
             exact .inl (.inr List.mem_cons_self)
            ·simp only [fps6,if_neg ej] at z;exact .inr ⟨j,z⟩
          have ux5:OwnL M.K H5 (Zf M2 fps5) xs 0 ws []:=OwnL.move k25.keep (fun b ⟨j,_,h⟩=>⟨.inr ⟨j,h⟩,r2.lsts h⟩) (fun b hb nz z=>nz (by
           rcases z with z | ⟨j,z⟩
           ·exact .inl z
           ·rcases k25.sub j b z with z | z
            ·exact .inr ⟨j,z⟩
            ·exact absurd z hb)) xs 0 ws [] (fun _ z=>nomatch z) ux
          have ux6:OwnL M.K H6 Z6 xs 0 ws []:=ux5.at (.inl (.inr (List.mem_cons_of_mem _ hrfp))) ⟨.l us5,hr5⟩ (fun z=>nomatch z) fun b _ n z=>n (z65 b z)
          have oF:Own M.K H6 (fun _=>True) (.lst (rows.set pi (.lst (cells.set qi x)))) om (.ref at') (at'::f'):=by
           rw [Own]
           exact ⟨at',wr,rfl,.inr ⟨by decide,f',by show upd H5 r _ at'=_;rw [upd_ne nea];exact hat5,rfl,fun z=>nat5 (s' at' z),by rw [pd_om];exact o'⟩⟩
          have uy6:Own M.K H6 Z6 (.lst (rows.set pi (.lst (cells.set qi x)))) 0 (.ref at') []:=Own.freeze (fun _ _=>trivial) _ _ _ _ (fun b hb z=>by
           have hbf:b∈fp:=by
            rw [hfr5]
            rcases List.mem_cons.mp hb with e | hb
            ·rw [e];exact List.mem_cons_self
            ·exact List.mem_cons_of_mem _ (s' b hb)
           rcases z with z | ⟨j,z⟩
           ·exact t1.ndj b hbf (.inl z)
           ·by_cases ej:j=i
            ·simp only [fps6,if_pos ej] at z
             rw [List.mem_singleton.mp z] at hbf
             exact hafp hbf
            ·simp only [fps6,if_neg ej] at z
             exact rep5.zo j b z (.inr (List.mem_cons_of_mem _ hbf))) oF
          have own6:Own M.K H6 Z6 (.lst (xs++[.lst (rows.set pi (.lst (cells.set qi x)))])) 1 (.ref a) [a]:=by
           rw [Own]
           refine ⟨a,ws++[.ref at'],rfl,.inr ⟨by decide,[],by show upd H5 r _ a=_;rw [upd_ne har];exact ha5,rfl,(fun z=>nomatch z),?_⟩⟩
           rw [pd_one]
           exact ux6.snoc uy6 fun _ z=>nomatch z
          have lfa:∀ b∈a::fp,∃ o:MO,H5 b=some o.ho:=fun b hb=>by
           rcases List.mem_cons.mp hb with e | hb
           ·rw [e];exact ⟨.l _,ha5⟩
           ·exact Own.lsts _ _ _ _ uy5 b hb
          have rep6:Rep M2 ρ4 σ H6 fps5:=rep5.apart (fun b o h n=>by show upd H5 r _ b=_;rw [upd_ne fun e=>n (by rw [e];exact List.mem_cons_of_mem _ hrfp)];exact h) dm6 lfa
          have i4:i < ρ4.length:=by rw [g5.2,g4.2,g3.2,List.length_set];exact il
          have d12:∀ b,H1 b≠none→H2 b≠none:=fun b h=>by
           by_cases eb:b=a
           ·show upd H1 a _ b≠none
            rw [eb,upd_same];simp
           ·show upd H1 a _ b≠none
            rw [upd_ne eb];exact h
          have sub2:∀ j b,b∈fps2 j→(∃ l,b∈fps l)∨H b=none:=fun j b hb=>by
           by_cases ej:j=i
           ·simp only [fps2,if_pos ej] at hb;cases hb
           ·simp only [fps2,if_neg ej] at hb
            exact (k1.sub j b hb).elim (fun z=>.inl ⟨j,z⟩) .inr
          have ks:KS M H fps H6 fps6:=by
           refine ⟨fun b o h n=>?_,fun b h=>dm6 b (k25.dom b (d12 b (k1.dom b h))),fun j b hb=>?_⟩
           ·have h1:=k1.keep b o h fun ⟨j,_,z⟩=>n ⟨j,z⟩
            have h2:H2 b=some o:=by
             show upd H1 a _ b=_
             rw [upd_ne fun e=>n ⟨i,by rw [e];exact hai0⟩];exact h1
            have h5:=k25.keep b o h2 fun ⟨j,_,z⟩=>(sub2 j b z).elim n fun z=>by rw [z] at h;cases h
            show upd H5 r _ b=_
            rw [upd_ne fun e=>by rw [e,t1.new r hrfp] at h;cases h]
            exact h5
           ·by_cases ej:j=i
            ·simp only [fps6,if_pos ej] at hb
             rw [List.mem_singleton.mp hb]
             exact .inl ⟨i,hai0⟩
            ·simp only [fps6,if_neg ej] at hb
             rcases k25.sub j b hb with z | z
             ·exact sub2 j b z
             ·refine .inr ?_
              cases hb':H b with
              | none=>rfl
              | some o=>exact absurd z (d12 b (k1.dom b (by rw [hb'];simp)))
          exact q σ H6 fps6 ks (rep6.back hal i4 f5i hσ hm (rep.fr i hm a hai0) (rep.zo i a hai0) own6)
         ·exact q.elim
        ·exact q.elim
       ·exact q.elim
      ·exact q.elim
    ·exact q.elim
   ·exact q.elim
 ·exact q.elim
end
open PySem PySem.Spec PyProof.Rows L2
def isComp:Expr→Bool
 | .ListComp _ _ _ _=>true
 | .SetComp _ _ _ _=>true
 | .DictComp _ _ _ _ _=>true
 | _=>false
def isTup:Expr→Bool
 | .Tuple _ _ _=>true
 | .List _ _=>true
 | _=>false
def denSsW (d:Stmt→Option Fs):List Stmt→Option Fs
 | []=>some sNil
 | [s]=>d s
 | s::r=>match d s,denSsW d r with
  | some f,some g=>some (sSeq f g)
  | _,_=>none
def locB (S:Sx) (x:Str):Bool:=kindIs S.sc x .local || kindIs S.sc x .cell
def okAsg (S:Sx) (i:Nat):Bool:=(decide (i≠0) || !S.msF 0) && !S.pn.contains i
def sForW (iw:Iw) (asg:PV→Rho→Option Rho) (body:Fs):Fs:=match iw with
 | .rng en fa _=>sForR en fa asg body
 | .seq f vs=>sForS f vs asg body
 | .vw v fa vs=>sForV v fa vs asg body
def slotsOf (S:Sx):List Expr→Option (List Nat)
 | []=>some []
 | .Name x _::r=>match S.slot x,slotsOf S r with
  | some i,some is=>if locB S x=true∧okAsg S i=true∧S.msF i=false then some (i::is) else none
  | _,_=>none
 | _=>none
def lookS (S:Sx) (is v:List Nat):Sx:={ S with al:=(List.range S.N.length).map fun j=>if is.contains j then v else S.alF j }
def raiseOf (S:Sx) (x:Str):Option Nat:=match XN.findIdx? (·== x) with
 | some c=>if S.rz=true∧S.xc.contains c=true∧S.glob x=true then some c else none
 | none=>none
def Sx.nr (S:Sx):Sx:={ S with rz:=false }
def denTb:Nat→Sx→List Stmt→Option Fs
 | 0,_,_=>none
 | n + 1,S,sts=>match sts with
  | [.Expr (.Call (.Name x p) es [] p1) _]=>(match den 60 S (.Call (.Name x p) es [] p1) with
   | some (f,_)=>some (sDrop f)
   | none=>none)
  | [.Assign [.Name x _] e _]=>(match S.slot x,den 60 S e with
   | some i,some (f,vs)=>if locB S x=true∧okAsg S i=true∧isComp e=false then some (sSet (S.msF i) i f vs) else none
   | _,_=>none)
  | [.If c a b _]=>(match den 60 S c,denTb n S a,denTb n S b with
   | some (f,_),some s,some t=>some (sIf (bT f) s t)
   | _,_,_=>none)
  | _=>none
def denStepQ (d:Stmt→Option Fs) (S:Sx):Stmt→Option Fs
 | .Raise (some (.Call (.Name x _) [.Constant (.str _) _ _] [] _)) none _=>match raiseOf S x with
  | some c=>some (sExc c)
  | none=>some sNo
 | .Raise _ _ _=>some sNo
 | .If c a b _=>match den 60 S c,denSsW d a,denSsW d b with
  | some (f,_),some s,some t=>some (sIf (bT f) s t)
  | _,_,_=>none
 | .Return (some e) _=>match den 60 S e with
  | some (f,_)=>some (sRet f)
  | none=>none
 | _=>none
def denQ:Nat→Sx→Stmt→Option Fs
 | 0,_,_=>none
 | n + 1,S,st=>denStepQ (denQ n S) S st
def forQ (S:Sx) (x:Str) (it:Expr) (body:List Stmt):Option Fs:=match it with
 | .Name y _=>match S.slot x,S.slot y with
  | some i,some i0=>if locB S x=true∧okAsg S i=true∧S.msF i=false∧S.msF i0=false∧i≠i0 then (match denSsW (denQ 60 (lookS S [i] [i0])) body with
   | some b=>some (sForQ i0 [i] (asgN i) b)
   | none=>none) else none
  | _,_=>none
 | _=>none
def denA (S:Sx):Expr→Option D2
 | .Dict [] [] _=>some (bDct,[])
 | e=>den 60 S e
def denXm (S:Sx) (x at':Str) (apos:Pos) (e:Expr) (cpos:Pos):Option Fs:=if at' = "append" then (match S.slot x,den 60 S e with
   | some i,some (f,vs)=>if S.msF i=false∧(apos.endLine == cpos.line)=true then some (sApp i f vs) else none
   | _,_=>none) else none
def denXr (_:Sx) (_:Expr) (_:Str) (_:Pos) (_:Expr) (_:Pos):Option Fs:=none
def denX (S:Sx):Expr→Option Fs
 | .Call fn es [] p1=>(match fn with
  | .Attribute o at' apos=>(match nmE o,es with
   | some x,[e]=>denXm S x at' apos e p1
   | none,[e]=>denXr S o at' apos e p1
   | _,_=>none)
  | .Name x p=>(match den 60 S (.Call (.Name x p) es [] p1) with
   | some (f,_)=>some (sDrop f)
   | none=>none)
  | _=>none)
 | _=>none
def opIdxO:PV→Nat→PV→Nat→Option (PV×Nat)
 | .lst xs,d,.int i,_=>(atI xs i).map fun z=>(z,if d=om then om else dv z)
 | _,_,_,_=>none
theorem OwnL.nthF {K:Frag}{H:Hp}{Z:Addr→Prop}{d:Nat}{x:PV}:∀ {xs:List PV}{ws:List V}{f:List Addr}{j:Nat},OwnL K H Z xs d ws f→xs[j]?=some x→∃ w fx,ws[j]?=some w∧Own K H Z x d w fx∧∀ a∈fx,a∈f
 | [],_,_,_,_,e=>by cases e
 | y::ys,ws,f,j,h,e=>by
  rw [OwnL] at h
  obtain ⟨v,s,f1,f2,rfl,rfl,_,h1,h2⟩:=h
  cases j with
  | zero=>cases e;exact ⟨v,f1,rfl,h1,fun a ha=>List.mem_append_left _ ha⟩
  | succ j=>
   obtain ⟨w,fx,e1,o,s'⟩:=h2.nthF (j:=j) (by simpa using e)
   exact ⟨w,fx,by simpa using e1,o,fun a ha=>List.mem_append_right _ (s' a ha)⟩
def omF:List (PV×Nat)→Bool
 | []=>true
 | p::r=>((p.2 == om) || flatP p.1) && omF r
def opLstO (xs:List (PV×Nat)):Option (PV×Nat):=if xs.length≤sizeLine then some (.lst (xs.map (·.1)),if omF xs then om else 1) else none
theorem Tmps.allF {K:Frag}{H:Hp}{Z:Addr→Prop}:∀ {xs:List (PV×Nat)}{ws:List V}{fp:List Addr},Tmps K H Z xs ws fp→omF xs=true→OwnL K H Z (xs.map (·.1)) om ws fp
 | [],_,_,h,_=>by rw [List.map_nil,OwnL];exact h
 | (x,d)::xs,ws,fp,h,ha=>by
  obtain ⟨v,s,f1,f2,e1,e2,dj,h1,h2⟩:=h
  unfold omF at ha
  rw [Bool.and_eq_true,Bool.or_eq_true] at ha
  rw [List.map_cons,OwnL]
  rcases ha.1 with e | e
  ·have e:d=om:=eq_of_beq e
   subst e
   exact ⟨v,s,f1,f2,e1,e2,dj,Own.full x v f1 h1,h2.allF ha.2⟩
  ·obtain ⟨rfl,o⟩:=Own.flatA (Z':=Z) (d':=om) e h1
   exact ⟨v,s,[],f2,e1,e2,dj,o,h2.allF ha.2⟩
section
variable {X:Cx}{M:Fm}{a b:Expr}{es:List Expr}{fa:Fa}{f g:Fx}{vs vs':List Nat}{pos:Pos}
theorem se_lstO (h:PA X es (tL M fa vs)):PE X (.List es pos) (tE M (bArgs opLstO fa) vs):=by
 refine pe_imp (pe_lst h) fun σ H Q h=>tL_then (r:=fun xs H1 Q=>xs.length≤sizeLine∧∀ p,H1 p=none→Q (.ref p) (upd H1 p (.lst xs))) (fun xs z c ws H fps fp Q ho tm nz zd lf=>?_) h
 unfold opLstO at ho
 split at ho
 ·rename_i hl
  refine ⟨by rw [tm.length];exact hl,fun q hq=>?_⟩
  cases eo:omF xs with
  | true=>rw [eo] at ho;cases ho;exact leaf_listF lf (tm.allF eo) hq
  | false=>rw [eo] at ho;cases ho;exact leaf_list lf (tm.cold fun a ha z=>nz a ha z.zf) hq
 ·cases ho
theorem se_idxO (hv:∀ i∈vs,M.Ms i=false) (hs:PlainIx b) (ha:PE X a (tE M f vs)) (hb:PE X b (tE M g vs')):PE X (.Subscript a b pos) (tE M (bBin opIdxO f g) (vs++vs')):=by
 refine pe_imp (pe_ix ix_seq ha hb hs) fun σ H Q h=>tE_bin hv (fun x d y e z c v w H fps f1 f2 Q ho o1 o2 dj nz zd lf=>?_) h
 unfold opIdxO at ho
 split at ho
 ·rename_i xs i
  obtain ⟨z',ez,e2⟩:=Option.map_eq_some_iff.mp ho
  rw [Own] at o2
  by_cases hd:d=om
  ·subst hd
   rw [if_pos rfl] at e2
   cases e2
   obtain ⟨p,ws,fc,rfl,hp,rfl,nac,ol⟩:=o1.list (by decide:om≠0)
   rw [pd_om] at ol
   unfold atI at ez
   cases ej:ixN xs.length i with
   | none=>rw [ej] at ez;cases ez
   | some j=>
    rw [ej] at ez
    obtain ⟨w',fz,e1,ow,sb⟩:=ol.nthF ez
    refine .inl ⟨p,ws,i,w',rfl,o2.1,.inl (.inl hp),?_,lf w' H fz (fun _ _ h=>h) (Own.full _ _ _ ow) fun a ha=>.inl (List.mem_append_left _ (List.mem_cons_of_mem _ (sb a ha)))⟩
    unfold atI
    rw [ol.length,ej]
    exact e1
  ·rw [if_neg hd] at e2
   cases e2
   obtain ⟨p,ws,rfl,hp,ol⟩:=(cold o1 fun a ha=>nz a (List.mem_append_left _ ha)).coldL
   obtain ⟨w',e1,ow⟩:=atI_own ol ez
   exact .inl ⟨p,ws,i,w',rfl,o2.1,.inl (.inl hp),e1,leaf_view lf ow⟩
 ·cases ho
end
def denO (S:Sx) (e:Expr):Option D2:=match e with
 | .Subscript (.List es _) b _=>(match denLW (den 60 S) es,den 60 S b with
  | some (fa,v),some (g,u)=>if noSlice b=true then some (bBin opIdxO (bArgs opLstO fa) g,v++u) else none
  | _,_=>none)
 | e=>den 60 S e
def denPut (S:Sx) (t k e:Expr):Option Fs:=match t with
 | .Name x _=>(match ixC k with
  | some k=>(match S.slot x,den 60 S e with
    | some i,some (f,vs)=>some (sPut i k f)
    | _,_=>none)
  | none=>none)
 | _=>none
def denAsg (S:Sx) (t e:Expr):Option Fs:=match t with
 | .Tuple es k p=>(match slotsOf S es,den 60 S e with
   | some is,some (f,vs)=>if isComp e=false∧isTup e=false then some (sUnp (asgT is) f vs) else none
   | _,_=>none)
 | .Name x _=>(match S.slot x,denA S e with
   | some i,some (f,vs)=>if locB S x=true∧okAsg S i=true then some (sSet (S.msF i) i f vs) else none
   | _,_=>none)
 | .Subscript t k _=>denPut S t k e
 | _=>none
def appPut (S:Sx):List Stmt→Option Fs
 | [.Expr (.Call (.Attribute (.Name x _) at' apos) [e] [] cpos) _,.Assign [.Subscript (.Subscript (.Subscript (.Name y _) n _) ei _) ej _] ev _]=>(match S.slot x,den 60 S e,den 60 S ev,den 60 S ei,den 60 S ej with
  | some i,some (f,_),some (fv,_),some (fi,_),some (fj,_)=>if at' = "append" ∧ x=y∧isNeg1 n=true∧noSlice ei=true∧noSlice ej=true∧S.msF i=false∧(apos.endLine == cpos.line)=true then some (sAppPut i f fv fi fj) else none
  | _,_,_,_,_=>none)
 | _=>none
def denBody (d:Stmt→Option Fs) (S:Sx) (body:List Stmt):Option Fs:=match appPut S body with
 | some f=>some f
 | none=>denSsW d body
def denFor (d:Stmt→Option Fs) (S:Sx) (t it:Expr) (body:List Stmt):Option Fs:=match t with
 | .Name x p=>(match forQ S x it body with
   | some f=>some f
   | none=>match S.slot x,denI (den 60 S) S it,denBody d S body with
    | some i,some iw,some b=>if locB S x=true∧okAsg S i=true∧S.msF i=false∧twOk (.Name x p) iw=true then some (sForW iw (asgN i) b) else none
    | _,_,_=>none)
 | .Tuple es k p=>(match slotsOf S es,denI (den 60 S) S it,denBody d S body with
   | some is,some iw,some b=>some (sForW iw (asgT is) b)
   | _,_,_=>none)
 | _=>none
def denRet (S:Sx) (e:Expr):Option Fs:=match nmE e with
 | some x=>(match S.slot x with
   | some i=>if S.msF i=true then none else some (sRetV i)
   | none=>none)
 | none=>(match den 60 S e with
   | some (f,vs)=>some (sRet f)
   | none=>none)
def denAug (_:Sx) (_:Expr) (_:Operator) (_:Expr):Option Fs:=none
def Sx.bare (S:Sx):Sx:={ S with ms:=[] }
def denT (S:Sx) (c:Expr):Option D2:=(den 60 S c).or (den 60 S.bare c)
def denStepS (d:Stmt→Option Fs) (S:Sx):Stmt→Option Fs
 | .Raise (some (.Call (.Name x _) [.Constant (.str _) _ _] [] _)) none _=>match raiseOf S x with
  | some c=>some (sExc c)
  | none=>some sNo
 | .Raise _ _ _=>some sNo
 | .Try body [.ExceptHandler (some (.Name y _)) (some n) [.Assign [.Name x _] (.Name n' _) _] _] [] [] _=>match S.slot x,S.slot n,XN.findIdx? (·== y),denTb 10 S.nr body with
  | some i,some j,some d,some b=>if n'=n∧i≠j∧locB S x=true∧kindIs S.sc n .local=true∧okAsg S i=true∧okAsg S j=true∧S.msF i=false∧S.xc.contains d=true∧S.glob y=true then some (sTry d i j S.ms b) else none
  | _,_,_,_=>none
 | .Try body [.ExceptHandler (some (.Name y _)) none [.Assign [.Name x _] (.Constant .none _ _) _] _] [] [] _=>match S.slot x,XN.findIdx? (·== y),denTb 10 S.nr body with
  | some i,some d,some b=>if locB S x=true∧okAsg S i=true∧S.msF i=false∧S.xc.contains d=true∧S.glob y=true then some (sTryN d i S.ms b) else none
  | _,_,_=>none
 | .Expr v _=>denX S v
 | .Assign [t] e _=>denAsg S t e
 | .If c a b _=>match denT S c,denSsW d a,denSsW d b with
  | some (f,_),some s,some t=>some (sIf (bT f) s t)
  | _,_,_=>none
 | .For t it body [] _=>denFor d S t it body
 | .AugAssign t op e _=>denAug S t op e
 | .Return (some e) _=>denRet S e
 | _=>none
def denS0:Nat→Sx→Stmt→Option Fs
 | 0,_,_=>none
 | n + 1,S,st=>some ((denStepS (denS0 n S) S st).getD sNo)
section
variable {X:Cx}{P:Program}{w:World}{K:Frag}{mg:Str→Option Value}{base:Heap}{lvl:Nat}{S:Sx}{Wx:St→Nat→Hp→Prop}{M:Fm}{f g:Fx}{vs vs':List Nat}{σ:St}{H:Hp}{Q:VK}
structure SM (X:Cx) (M:Fm) (K:Frag) (S:Sx) (Wx:St→Nat→Hp→Prop):Prop where
 ms:MS M K S Wx
 al:∀ i,M.al i=[]
 io:M.io≠none→S.msF 0=true
 pn:∀ p∈M.pn,p.1∈S.pn
 fn:∀ x,X.fn x=true
 nd:S.N.Nodup
 st:X.stack=X.env::X.outer
 fr:X.env.frame=some X.env.locals
def SGood (P:Program) (w:World) (K:Frag) (mg:Str→Option Value) (base:Heap) (lvl:Nat) (S:Sx) (st:Stmt) (f:Fs):Prop:=∀ {Wx} X M,XS X P w K mg base lvl S Wx→SM X M K S Wx→PS X st (tS M f)
theorem denSsW_ok {d:Stmt→Option Fs} (hd:∀ st f,d st=some f→SGood P w K mg base lvl S st f):∀ (sts:List Stmt) (f:Fs),denSsW d sts=some f→∀ {Wx} X M,XS X P w K mg base lvl S Wx→SM X M K S Wx→PSs X sts (tS M f)
 | [],f,h=>by cases h;exact fun X M xs sm=>pss_imp pss_nil fun D σ H q=>tS_nil q
 | [s],f,h=>fun X M xs sm=>pss_one (hd s f h X M xs sm)
 | s::s'::r,f,h=>by
  unfold denSsW at h
  split at h
  ·rename_i f1 f2 h1 h2
   cases h
   exact fun X M xs sm=>pss_imp (pss_cons (hd s f1 h1 X M xs sm) (denSsW_ok hd (s'::r) f2 h2 X M xs sm)) fun D σ H q=>tS_seq q
  ·cases h
theorem slot_get {x:Str}{i:Nat} (h:S.slot x=some i):S.N[i]?=some x:=by
 unfold Sx.slot at h
 split at h
 ·exact ixOf_get h
 ·cases h
theorem loc_of {x:Str} (h:locB S x=true):Loc S.sc x:=by
 unfold locB at h
 rw [Bool.or_eq_true] at h
 exact h.elim (fun h=>.inl (kindIs_iff h)) fun h=>.inr (kindIs_iff h)
theorem okAsg_io {i:Nat} (h:okAsg S i=true) (sm:SM X M K S Wx):M.Fre i:=by
 unfold okAsg at h
 rw [Bool.and_eq_true,Bool.or_eq_true] at h
 refine ⟨fun hio=>?_,fun p hp e=>?_⟩
 ·rcases h.1 with h | h
  ·simpa using h
  ·rw [sm.io hio] at h;cases h
 ·have z:=sm.pn p hp
  rw [e] at z
  have h2:=h.2
  rw [List.contains_iff_mem.mpr z] at h2
  cases h2
theorem swap_no {e:Expr}{t:Option Expr}{l:Nat}{env:Env} (h:isComp e=false):swapsWith e t l env=pure false:=by
 cases e with
 | ListComp _ _ _ _=>cases h
 | SetComp _ _ _ _=>cases h
 | DictComp _ _ _ _ _=>cases h
 | _=>rfl
theorem den_comp (GX:GX K mg S.xc) (G:GS P w K mg base lvl S.Γ) (Gm:GSm P w K mg base lvl S.Γm) (hS:∀ i,∀ j∈S.alF i,S.msF j=false) {n:Nat}{elt:Expr}{gs:List Comprehension}{scope:Scope}{pos:Pos} (h:den (n + 1) S (.ListComp elt gs scope pos)=some (f,vs)):
  ∃ tg ys asg it ifs iw t g vE,gs=[⟨tg,it,ifs,0⟩]∧CompParts P w K mg base lvl S scope tg ys asg it elt ifs iw t g vE∧f=bComp iw ys.length asg t g∧vs=iw.vs++vE.filter (fun i=>decide (i < S.N.length)):=by
 have hd:∀ e f vs,den n S e=some (f,vs)→Good P w K mg base lvl S e f vs:=fun e f vs h=>den_ok GX G Gm n S e f vs rfl rfl rfl hS h
 replace h:denStep (den n) S (.ListComp elt gs scope pos)=some (f,vs):=h
 match gs,h with
 | [],h=>simp [denStep] at h
 | _::_::_,h=>simp [denStep] at h
 | [⟨tg,it,ifs,a⟩],h=>
  by_cases ha:a=0
  ·subst ha
   replace h:(match tgA S.N.length tg,denI (den n S) S it with
    | some (xs,asg),some iw=>if compChk S scope xs iw.vs=true∧twOk tg iw=true then (match denIfs (den n (compS S scope xs iw.vs)) ifs,den n (compS S scope xs iw.vs) elt with
     | some t,some (g,vE)=>some (bComp iw xs.length asg t g,iw.vs++vE.filter (fun i=>decide (i < S.N.length)))
     | _,_=>none) else none
    | _,_=>none)=some (f,vs):=h
   split at h
   ·rename_i ys asg iw ht hi
    split at h
    ·rename_i hc
     split at h
     ·rename_i t g vE h1 h2
      cases h
      have ck:=chk_ok hc.1
      have giw:=denI_ok hd (den_set n S) G.1 hi
      have hS2:∀ i,∀ j∈(compS S scope ys iw.vs).alF i,(compS S scope ys iw.vs).msF j=false:=fun i j hj=>by
       rw [alF_comp] at hj
       show S.msF j=false
       split at hj
       ·exact hS i j hj
       ·split at hj
        ·exact giw.1 j hj
        ·cases hj
      have hd2:∀ e f vs,den n (compS S scope ys iw.vs) e=some (f,vs)→Good P w K mg base lvl (compS S scope ys iw.vs) e f vs:=fun e f vs h=>den_ok GX G Gm n _ e f vs rfl rfl rfl hS2 h
      exact ⟨tg,ys,asg,it,ifs,iw,t,g,vE,rfl,⟨ht,hc.2,ck,giw,hd2 _ _ _ h2,denIfs_ok hd2 h1⟩,rfl,rfl⟩
     ·cases h
    ·cases h
   ·cases h
  ·simp [denStep,ha] at h
theorem never_of (xs:XS X P w K mg base lvl S Wx):PassesOwn (model X.prog X.w) X.A X.env X.xe:=xs.po
theorem slots_names {es:List Expr}{is:List Nat} (h:slotsOf S es=some is) (xs:XS X P w K mg base lvl S Wx) (sm:SM X M K S Wx):PGs X es (gNames is)∧(assignEach es X.env).length=is.length∧(assignEach es X.env).findIdx? (·.1)=none∧∀ i∈is,Bd M [] i:=by
 induction es generalizing is with
 | nil=>cases h;exact ⟨pgs_nil,rfl,rfl,fun _ z=>nomatch z⟩
 | cons e es ih=>
  unfold slotsOf at h
  split at h
  ·cases ‹_::_=[]›
  ·rename_i x px r heq
   cases heq
   split at h
   ·rename_i i js hi hr
    split at h
    ·rename_i hc
     cases h
     obtain ⟨h1,h2,h3,h4⟩:=ih hr
     have hN:X.N.Nodup:=by rw [xs.N];exact sm.nd
     have hi':X.N[i]?=some x:=by rw [xs.N];exact slot_get hi
     have hx:Loc X.env.scope x:=by rw [xs.sc];exact loc_of hc.1
     refine ⟨pgs_cons (pg_name hN hi' hx (.inl (sm.fn x))) h1 rfl,by rw [assignEach,List.length_cons,h2,List.length_cons] <;> (intros;contradiction),?_,fun j hj=>?_⟩
     ·rw [assignEach,List.findIdx?_cons,h3] <;> first | rfl | (intros;contradiction)
     ·rcases List.mem_cons.mp hj with z | z
      ·rw [z];exact ⟨by rw [sm.ms.ms];exact hc.2.2,okAsg_io hc.2.1 sm,sm.al i,sm.ms.als⟩
      ·exact h4 j z
    ·cases h
   ·cases h
  ·cases h
theorem lookS_al {is v:List Nat}{i:Nat}:(lookS S is v).alF i=if i < S.N.length then (if is.contains i then v else S.alF i) else []:=by
 unfold Sx.alF lookS
 dsimp only
 rw [List.getD_eq_getElem?_getD,List.getElem?_map]
 by_cases h:i < S.N.length
 ·rw [if_pos h,List.getElem?_range h];rfl
 ·rw [if_neg h,List.getElem?_eq_none (by rw [List.length_range];omega)];rfl
def QGood (P:Program) (w:World) (K:Frag) (mg:Str→Option Value) (base:Heap) (lvl:Nat) (S:Sx) (st:Stmt) (f:Fs):Prop:=∀ {Wx} X M,XS X P w K mg base lvl S Wx→MS M K S Wx→PS X st (tQ M f)
theorem denQs_ok {d:Stmt→Option Fs} (hd:∀ st f,d st=some f→QGood P w K mg base lvl S st f):∀ (sts:List Stmt) (f:Fs),denSsW d sts=some f→∀ {Wx} X M,XS X P w K mg base lvl S Wx→MS M K S Wx→PSs X sts (tQ M f)
 | [],f,h=>by cases h;exact fun X M xs sm=>pss_imp pss_nil fun D σ H q=>tQ_nil q
 | [s],f,h=>fun X M xs sm=>pss_one (hd s f h X M xs sm)
 | s::s'::r,f,h=>by
  unfold denSsW at h
  split at h
  ·rename_i f1 f2 h1 h2
   cases h
   exact fun X M xs sm=>pss_imp (pss_cons (hd s f1 h1 X M xs sm) (denQs_ok hd (s'::r) f2 h2 X M xs sm)) fun D σ H q=>tQ_seq q
  ·cases h
theorem findIdx_get {x:Str}:∀ {l:List Str}{c:Nat},l.findIdx? (·== x)=some c→l[c]?=some x
 | [],c,h=>by simp at h
 | y::r,c,h=>by
  rw [List.findIdx?_cons] at h
  split at h
  ·rename_i e
   cases h
   rw [List.getElem?_cons_zero,eq_of_beq e]
  ·cases e:r.findIdx? (·== x) with
   | none=>rw [e] at h;cases h
   | some k=>
    rw [e] at h
    cases h
    rw [List.getElem?_cons_succ]
    exact findIdx_get e
theorem raiseOf_ok {x:Str}{c:Nat} (h:raiseOf S x=some c):S.rz=true∧c∈S.xc∧S.glob x=true∧XN[c]?=some x:=by
 unfold raiseOf at h
 split at h
 ·rename_i c' e
  split at h
  ·rename_i hc
   cases h
   exact ⟨hc.1,by simpa using hc.2.1,hc.2.2,findIdx_get e⟩
  ·cases h
 ·cases h
theorem raise_ps {x m:Str}{c:Nat}{np cpos pos p:Pos}{j:Nat}{t:TS} (GX:GX K mg S.xc) (h:raiseOf S x=some c) (xs:XS X P w K mg base lvl S Wx) (hW:M.W=Wx) (hq:∀ D σ H,t D σ H→M.W σ c H):PS X (.Raise (some (.Call (.Name x np) [.Constant (.str m) j p] [] cpos)) none pos) t:=by
 obtain ⟨h1,h2,h3,h4⟩:=raiseOf_ok h
 obtain ⟨ht,_,hc⟩:=GX (fun z=>by rw [z] at h2;cases h2)
 obtain ⟨x',C,e1,e2,e3,e4⟩:=hc c h2
 rw [h4] at e1
 cases e1
 refine ps_imp (ps_raise (W:=Wx) (xs.rs h1) (by rw [xs.K];exact ht) xs.calm (by rw [xs.K];exact e2) (xs.gl h3) (by rw [xs.mg];exact e3) e4) fun D σ H q=>?_
 rw [← hW]
 exact hq D σ H q
theorem denTb_ok (GX:GX K mg S.xc) (G:GS P w K mg base lvl S.Γ) (Gm:GSm P w K mg base lvl S.Γm) (hS:∀ i,∀ j∈S.alF i,S.msF j=false):∀ (n:Nat) (sts:List Stmt) (f:Fs),denTb n S sts=some f→∀ {Wx} X M,XS X P w K mg base lvl S Wx→SM X M K S Wx→PSs X sts (tR M f):=by
 have hd:∀ e f vs,den 60 S e=some (f,vs)→Good P w K mg base lvl S e f vs:=fun e f vs h=>den_ok GX G Gm 60 S e f vs rfl rfl rfl hS h
 intro n
 induction n with
 | zero=>intro sts f h;cases h
 | succ n ih=>
  intro sts f h
  unfold denTb at h
  split at h
  ·split at h
   ·rename_i f1 v1 he
    cases h
    intro Wx X M xs sm
    exact pss_one (ps_imp (ps_expr ((hd _ _ _ he).2.2 X M xs sm.ms).1 rfl) fun D σ H q=>tR_drop q)
   ·cases h
  ·rename_i x px e pos
   split at h
   ·rename_i i f1 v1 hi he
    split at h
    ·rename_i hc
     cases h
     have g:=hd _ _ _ he
     intro Wx X M xs sm
     have hN:X.N.Nodup:=by rw [xs.N];exact sm.nd
     have hi':X.N[i]?=some x:=by rw [xs.N];exact slot_get hi
     have hx:Loc X.env.scope x:=by rw [xs.sc];exact loc_of hc.1
     have mi:M.Ms i=S.msF i:=by rw [sm.ms.ms]
     exact pss_one (ps_imp (ps_set hN hi' hx (g.2.2 X M xs sm.ms).1 (swap_no hc.2.2) (.inl (sm.fn x))) fun D σ H q=>tR_set sm.al (sm.ms.v g.1) mi (okAsg_io hc.2.1 sm) q)
    ·cases h
   ·cases h
  ·split at h
   ·rename_i f1 v1 s t hc ha hb
    cases h
    intro Wx X M xs sm
    exact pss_one (ps_imp (ps_if ((hd _ _ _ hc).2.2 X M xs sm.ms).2 (ih _ _ ha X M xs sm) (ih _ _ hb X M xs sm)) fun D σ H q=>tR_if q)
   ·cases h
  ·cases h
theorem denQ_ok (GX:GX K mg S.xc) (G:GS P w K mg base lvl S.Γ) (Gm:GSm P w K mg base lvl S.Γm) (hS:∀ i,∀ j∈S.alF i,S.msF j=false):∀ (n:Nat) (st:Stmt) (f:Fs),denQ n S st=some f→QGood P w K mg base lvl S st f:=by
 have hd:∀ e f vs,den 60 S e=some (f,vs)→Good P w K mg base lvl S e f vs:=fun e f vs h=>den_ok GX G Gm 60 S e f vs rfl rfl rfl hS h
 intro n
 induction n with
 | zero=>intro st f h;cases h
 | succ n ih=>
  intro st f h
  replace h:denStepQ (denQ n S) S st=some f:=h
  unfold denStepQ at h
  split at h
  ·rename_i x np m j p cpos pos
   split at h
   ·rename_i c hc
    cases h
    intro Wx X M xs sm
    exact raise_ps GX hc xs sm.W fun D σ H q=>tQ_exc q
   ·cases h
    intro Wx X M xs sm pins s σ H D I q
    exact (ps_never pins s σ H D I (tQ_no (t:=tNever) q))
  ·cases h
   intro Wx X M xs sm pins s σ H D I q
   exact (ps_never pins s σ H D I (tQ_no (t:=tNever) q))
  ·split at h
   ·rename_i f1 v1 s t hc ha hb
    cases h
    intro Wx X M xs sm
    exact ps_imp (ps_if ((hd _ _ _ hc).2.2 X M xs sm).2 (denQs_ok ih _ _ ha X M xs sm) (denQs_ok ih _ _ hb X M xs sm)) fun D σ H q=>tQ_if q
   ·cases h
  ·split at h
   ·rename_i f1 v1 he
    cases h
    intro Wx X M xs sm
    exact ps_imp (ps_ret ((hd _ _ _ he).2.2 X M xs sm).1) fun D σ H q=>tQ_ret (sm.v (hd _ _ _ he).1) q
   ·cases h
  ·cases h
theorem forQ_ok (GX:GX K mg S.xc) (G:GS P w K mg base lvl S.Γ) (Gm:GSm P w K mg base lvl S.Γm) (hS:∀ i,∀ j∈S.alF i,S.msF j=false) {x:Str}{it:Expr}{body:List Stmt}{f:Fs}{px pos:Pos} (h:forQ S x it body=some f):SGood P w K mg base lvl S (.For (.Name x px) it body [] pos) f:=by
 unfold forQ at h
 split at h
 ·rename_i y py
  split at h
  ·rename_i i i0 hi hi0
   split at h
   ·rename_i hc
    split at h
    ·rename_i b hb
     cases h
     intro Wx X M xs sm
     obtain ⟨c1,c2,c3,c4,c5⟩:=hc
     have hN:X.N.Nodup:=by rw [xs.N];exact sm.nd
     have hi':X.N[i]?=some x:=by rw [xs.N];exact slot_get hi
     have hx:Loc X.env.scope x:=by rw [xs.sc];exact loc_of c1
     have hlt:i < S.N.length:=(List.getElem?_eq_some_iff.mp (slot_get hi)).1
     have hms:∀ j,(M.look [i] [i0]).al j=(if [i].contains j then [i0] else M.al j):=fun j=>rfl
     have als:∀ j,∀ k∈(M.look [i] [i0]).al j,M.Ms k=false:=fun j k hk=>by
      rw [hms] at hk
      split at hk
      ·rw [List.mem_singleton.mp hk,sm.ms.ms];exact c4
      ·exact sm.ms.als j k hk
     have ms':MS (M.look [i] [i0]) K (lookS S [i] [i0]) Wx:=⟨sm.ms.K,sm.ms.ms,fun j hj=>by
      rw [lookS_al,if_pos (show j < S.N.length from hj),hms]
      split
      ·rfl
      ·exact sm.ms.al j hj,als,sm.ms.W,sm.ms.pn⟩
     have hS':∀ j,∀ k∈(lookS S [i] [i0]).alF j,(lookS S [i] [i0]).msF k=false:=fun j k hk=>by
      show S.msF k=false
      rw [lookS_al] at hk
      split at hk
      ·split at hk
       ·rw [List.mem_singleton.mp hk];exact c4
       ·exact hS j k hk
      ·cases hk
     have xs':XS X P w K mg base lvl (lookS S [i] [i0]) Wx:=⟨xs.prog,xs.w,xs.K,xs.mg,xs.base,xs.N,xs.sc,xs.calm,xs.room,xs.po,xs.ps,xs.rs⟩
     have hbd:=denQs_ok (denQ_ok (S:=lookS S [i] [i0]) GX G Gm hS' 60) _ _ hb X (M.look [i] [i0]) xs' ms'
     have hg:GOk (M.look [i] [i0]) [i0] [i] (gName i) (asgN i):=g_name ⟨by show M.Ms i=false;rw [sm.ms.ms];exact c3,okAsg_io (M:=M) c2 sm,by rw [hms];simp,als⟩
     have hpg:PG X (.Name x px) (gName i):=pg_name hN hi' hx (.inl (sm.fn x))
     have hpi:PI X (.Name x px) (.Name y py) (iSeq M.K (tE M (bVar i0) [i0])):=by
      rw [sm.ms.k xs]
      refine pi_seq (pe_imp (xs.var hi0) fun σ H Q q=>?_)
      exact tE_var (M:=M) (i:=i0) (by rw [sm.al];exact q)
     have hf:=fold_eq (n:=0) (env:=X.env) (iter:=.Name y py) (f:=bVar 0) (vs:=[]) (fun _ _ _ z=>nomatch z)
     refine ps_imp (ps_for (never_of xs) xs.calm hpi hpg hbd hf) fun D σ H q=>?_
     exact tS_forQ sm.al (by rw [sm.ms.ms];exact c4) (fun z=>c5 (List.mem_singleton.mp z).symm) (fun j hj=>by rw [List.mem_singleton.mp hj,sm.ms.ms];exact c3) hg q
    ·cases h
   ·cases h
  ·cases h
 ·cases h
def Fm.bare (M:Fm):Fm:={ M with Ms:=fun _=>false,H₀:=fun _=>none,io:=none,pn:=[] }
theorem Rep.bare {ρ:Rho}{fps:Fps} (r:Rep M ρ σ H fps):Rep M.bare ρ σ H fps where
 own:=r.own
 non:=r.non
 dj:=r.dj
 zo:=r.zo
 fr:=fun _ _ _ _=>rfl
 zd:=r.zd
 len:=r.len
 msf:=fun _ _ _ h=>nomatch h
 h0:=fun _ h=>absurd rfl h
 iov:=And.intro (fun _ h=>nomatch h) (fun _ h=>nomatch h)
theorem tT_bare {fb:Fb}{Q:Bool→Hp→Prop} (hq:tT M fb σ H Q):tT M.bare fb σ H Q:=by
 obtain ⟨ρ,fps,rep,q⟩:=hq
 refine ⟨ρ,fps,rep.bare,?_⟩
 have gr:∀ H' fps',KD M.bare H fps H' fps'→∀ a o,H a=some o→H' a=some o:=fun H' fps' k a o h=>k.keep a o h fun ⟨_,z,_⟩=>nomatch z
 cases e:fb ρ with
 | ok p=>
  obtain ⟨b,ρ'⟩:=p
  rw [e] at q
  intro H' fps' k ag _
  have e1:ρ'=ρ:=List.ext_getElem? fun i=>ag.1 i rfl
  subst e1
  exact q H' fps (KD.grow (gr H' fps' k)) Agr.refl (rep.grow (gr H' fps' k))
 | exc c=>
  rw [e] at q
  intro H' fps' k
  exact q H' fps (KD.grow (gr H' fps' k))
 | no=>rw [e] at q;exact q
theorem denT_ok (GX:GX K mg S.xc) (G:GS P w K mg base lvl S.Γ) (Gm:GSm P w K mg base lvl S.Γm) (hS:∀ i,∀ j∈S.alF i,S.msF j=false) {c:Expr}{f:Fx}{vs:List Nat} (h:denT S c=some (f,vs)) (xs:XS X P w K mg base lvl S Wx) (m:MS M K S Wx):PT X c (tT M (bT f)):=by
 unfold denT at h
 cases e:den 60 S c with
 | some p=>
  rw [e] at h
  cases h
  exact ((den_ok GX G Gm 60 S c f vs rfl rfl rfl hS e).2.2 X M xs m).2
 | none=>
  rw [e] at h
  have h2:den 60 S.bare c=some (f,vs):=h
  have gd:=(den_ok (S:=S) GX G Gm 60 S.bare c f vs rfl rfl rfl (fun _ _ _=>rfl) h2).2.2 X M.bare ⟨xs.prog,xs.w,xs.K,xs.mg,xs.base,xs.N,xs.sc,xs.calm,xs.room,xs.po,xs.ps,xs.rs⟩ ⟨m.K,rfl,m.al,fun _ _ _=>rfl,m.W,fun _ h=>nomatch h⟩
  exact pt_imp gd.2 fun σ H Q q=>tT_bare q
theorem appPut_ok {body:List Stmt}{f:Fs} (hd:∀ e f vs,den 60 S e=some (f,vs)→Good P w K mg base lvl S e f vs) (h:appPut S body=some f):∀ {Wx} X M,XS X P w K mg base lvl S Wx→SM X M K S Wx→PSs X body (tS M f):=by
 unfold appPut at h
 split at h
 ·rename_i x px at' apos e cpos spos y py n p1 ei p2 ej p3 ev p4
  split at h
  ·rename_i i f1 v1 f2 v2 f3 v3 f4 v4 hi he hv hei hej
   split at h
   ·rename_i hc
    obtain ⟨rfl,rfl,hn,hc1,hc2,hms,hln⟩:=hc
    cases h
    obtain ⟨k,q3,q4,rfl⟩:=isNeg1_eq hn
    intro Wx X M xs sm
    have g:=hd _ _ _ he
    have gM:∀ {e f vs},den 60 S e=some (f,vs)→PE X e (fun σ H Q=>∃ M',MS M' K S Wx∧tE M' f vs σ H Q):=fun h pins s σ H Q I ⟨M',m',q⟩=>((hd _ _ _ h).2.2 X M' xs m').1 pins s σ H Q I q
    have hb:=pe_bm (X:=X) (cpos:=cpos) PySem.F.plainAttrs_list PySem.F.slot_list_append PySem.F.type_list_append mt_append (xs.var (pos:=px) hi) (pa_cons (g.2.2 X M xs sm.ms).1 pa_nil (star_one (noStar_iff g.2.1))) rfl (noStar_few g.2.1 X.env cpos) hln (star_one (noStar_iff g.2.1)) rfl
    have pn:PE X (.UnaryOp .USub (.Constant (.int 1) k q3) q4) (tC (.int (-1))):=pe_imp (pe_un un_neg pe_int) fun σ H Q q=>⟨1,rfl,q⟩
    have s2:=ps_asg (pos:=p4) (gM hv) (pg_sub (pos:=p3) (pe_ix (pos:=p2) ix_list (pe_ix (pos:=p1) ix_list (xs.var (pos:=py) hi) pn (plainIx_of rfl)) (gM hei) (plainIx_of hc1)) (gM hej) set_list (by
     intro v
     cases ej <;> first | rfl | (cases hc2))) (by cases ev <;> rfl) (by cases ev <;> rfl) rfl
    refine pss_imp (pss_cons (ps_expr hb rfl) (pss_one s2)) fun D σ H q=>?_
    have:=tS_appPut (D:=D) (vs:=v1) (vv:=v2) (vi:=v3) (vj:=v4) (P:=fun M'=>MS M' K S Wx) sm.al (by rw [sm.ms.ms];exact hms) (fun F=>⟨sm.ms.K,sm.ms.ms,sm.ms.al,sm.ms.als,sm.ms.W,sm.ms.pn⟩) q
    rw [sm.ms.k xs] at this
    exact this
   ·cases h
  ·cases h
 ·cases h
theorem denBody_ok {d:Stmt→Option Fs}{body:List Stmt}{f:Fs} (hd:∀ e f vs,den 60 S e=some (f,vs)→Good P w K mg base lvl S e f vs) (ih:∀ st f,d st=some f→SGood P w K mg base lvl S st f) (h:denBody d S body=some f):∀ {Wx} X M,XS X P w K mg base lvl S Wx→SM X M K S Wx→PSs X body (tS M f):=by
 unfold denBody at h
 split at h
 ·rename_i f' hf
  cases h
  exact appPut_ok hd hf
 ·exact denSsW_ok ih _ _ h
theorem denO_ok {e:Expr}{f:Fx}{vs:List Nat} (hd:∀ e f vs,den 60 S e=some (f,vs)→Good P w K mg base lvl S e f vs) (h:denO S e=some (f,vs)):Good P w K mg base lvl S e f vs:=by
 unfold denO at h
 split at h
 ·split at h
  ·rename_i f1 v1 f2 v2 h1 h2
   split at h
   ·rename_i hn
    cases h
    have g1:=denLW_ok hd _ _ _ h1
    have g2:=hd _ _ _ h2
    exact good_of (and_append g1.1 g2.1) rfl (fun _ _=>rfl) fun X M xs m=>se_idxO (m.v g1.1) (plainIx_of hn) (se_lstO (g1.2.2 X M xs m)) (g2.2.2 X M xs m).1
   ·cases h
  ·cases h
 ·exact hd _ _ _ h
theorem denStepS_ok (GX:GX K mg S.xc) (G:GS P w K mg base lvl S.Γ) (Gm:GSm P w K mg base lvl S.Γm) (hS:∀ i,∀ j∈S.alF i,S.msF j=false) {d:Stmt→Option Fs} (ih:∀ (st:Stmt) (f:Fs),d st=some f→SGood P w K mg base lvl S st f):∀ (st:Stmt) (f:Fs),denStepS d S st=some f→SGood P w K mg base lvl S st f:=by
 have hd:∀ e f vs,den 60 S e=some (f,vs)→Good P w K mg base lvl S e f vs:=fun e f vs h=>den_ok GX G Gm 60 S e f vs rfl rfl rfl hS h
 have hdO:∀ e f vs,denO S e=some (f,vs)→Good P w K mg base lvl S e f vs:=fun e f vs h=>denO_ok hd h
 have hdA:∀ e f vs,denA S e=some (f,vs)→Good P w K mg base lvl S e f vs:=fun e f vs h=>by
  unfold denA at h
  split at h
  ·cases h
   exact good_of (fun _ z=>nomatch z) rfl (fun _ _=>rfl) fun X M xs m=>se_dct
  ·exact hd _ _ _ h
 intro st f h
 have core:True→SGood P w K mg base lvl S st f:=fun _=>by
  unfold denStepS at h
  split at h
  ·rename_i x np m j p cpos pos
   split at h
   ·rename_i c hc
    cases h
    intro Wx X M xs sm
    exact raise_ps GX hc xs sm.ms.W fun D σ H q=>tS_exc q
   ·cases h
    intro Wx X M xs sm pins s σ H D I q
    exact (ps_never pins s σ H D I (tS_no (t:=tNever) q))
  ·cases h
   intro Wx X M xs sm pins s σ H D I q
   exact (ps_never pins s σ H D I (tS_no (t:=tNever) q))
  ·rename_i body y np n x px n' pn pa hpos pos
   split at h
   ·rename_i i j d b hi hj hd' hbd
    split at h
    ·rename_i hc
     obtain ⟨rfl,hij,hlx,hln,hoi,hoj,hms,hxc,hgy⟩:=hc
     cases h
     intro Wx X M xs sm
     have hdm:d∈S.xc:=by simpa using hxc
     obtain ⟨ht,_,hcs⟩:=GX (fun z=>by rw [z] at hdm;cases hdm)
     obtain ⟨y',C,hx',hC,hmg,hdb⟩:=hcs d hdm
     have ey:y'=y:=by
      have:=findIdx_get hd'
      rw [hx'] at this
      exact Option.some.inj this
     subst ey
     have nms:∀ i,M.Ms i=S.ms.contains i:=fun i=>by rw [sm.ms.ms];rfl
     have hN:X.N.Nodup:=by rw [xs.N];exact sm.nd
     have slots:∀ {z:Str}{k:Nat},S.slot z=some k→(z == ("__debug__" : Str))=false∧(z == ("__classdict__" : Str))=false:=fun {z k} h=>by
      unfold Sx.slot at h
      split at h
      ·rename_i hv
       simp only [Bool.and_eq_true,Bool.not_eq_true'] at hv
       exact ⟨hv.1.2,hv.2⟩
      ·cases h
     have base:=ps_tryAs (X:=X) (tb:=fun W'=>tR (M.want W') b) (body:=body) (y:=y') (n:=n') (x:=x) (np:=np) (hpos:=hpos) (px:=px) (pn:=pn) (pa:=pa) (pos:=pos) (d:=d) (Dd:=C) (i:=i) (j:=j)
      (by rw [xs.K];exact ht) sm.st sm.fr hN (by rw [xs.N];exact slot_get hi) (by rw [xs.N];exact slot_get hj) hij (by rw [xs.sc];exact loc_of hlx) (by show X.env.scope.names.lookup n'=_;rw [xs.sc];exact kindIs_iff hln) sm.fn (by rw [xs.K];exact hC) (xs.gl hgy) (by rw [xs.mg];exact hmg) hdb (slots hj).1 (slots hj).2 (fun pn' xe' W' hp ho=>?_)
     ·refine ps_imp base fun D σ H q=>?_
      have mk:=sm.ms.k xs
      rw [← mk]
      exact tS_try sm.al nms (by rw [sm.ms.ms];exact hms) hij (okAsg_io hoi sm) (okAsg_io hoj sm) q
     ·refine denTb_ok (S:=S.nr) GX G Gm hS 10 body b hbd _ _ (Wx:=W') ⟨xs.prog,xs.w,xs.K,xs.mg,xs.base,xs.N,xs.sc,xs.calm,xs.room,ho,hp,fun z=>nomatch z⟩ ⟨⟨sm.ms.K,sm.ms.ms,sm.ms.al,sm.ms.als,rfl,sm.ms.pn⟩,sm.al,sm.io,sm.pn,sm.fn,sm.nd,sm.st,sm.fr⟩
    ·cases h
   ·cases h
  ·rename_i body y np x px jc pn pa hpos pos
   split at h
   ·rename_i i d b hi hd' hbd
    split at h
    ·rename_i hc
     obtain ⟨hlx,hoi,hms,hxc,hgy⟩:=hc
     cases h
     intro Wx X M xs sm
     have hdm:d∈S.xc:=by simpa using hxc
     obtain ⟨ht,_,hcs⟩:=GX (fun z=>by rw [z] at hdm;cases hdm)
     obtain ⟨y',C,hx',hC,hmg,hdb⟩:=hcs d hdm
     have ey:y'=y:=by
      have:=findIdx_get hd'
      rw [hx'] at this
      exact Option.some.inj this
     subst ey
     have nms:∀ i,M.Ms i=S.ms.contains i:=fun i=>by rw [sm.ms.ms];rfl
     have hN:X.N.Nodup:=by rw [xs.N];exact sm.nd
     have base:=ps_tryN (X:=X) (tb:=fun W'=>tR (M.want W') b) (body:=body) (y:=y') (x:=x) (np:=np) (hpos:=hpos) (px:=px) (pn:=pn) (pa:=pa) (pos:=pos) (jc:=jc) (d:=d) (Dd:=C) (i:=i)
      (by rw [xs.K];exact ht) sm.st sm.fr hN (by rw [xs.N];exact slot_get hi) (by rw [xs.sc];exact loc_of hlx) sm.fn (by rw [xs.K];exact hC) (xs.gl hgy) (by rw [xs.mg];exact hmg) hdb (fun pn' xe' W' hp ho=>?_)
     ·refine ps_imp base fun D σ H q=>?_
      have mk:=sm.ms.k xs
      rw [← mk]
      exact tS_tryN sm.al nms (by rw [sm.ms.ms];exact hms) (okAsg_io hoi sm) q
     ·refine denTb_ok (S:=S.nr) GX G Gm hS 10 body b hbd _ _ (Wx:=W') ⟨xs.prog,xs.w,xs.K,xs.mg,xs.base,xs.N,xs.sc,xs.calm,xs.room,ho,hp,fun z=>nomatch z⟩ ⟨⟨sm.ms.K,sm.ms.ms,sm.ms.al,sm.ms.als,rfl,sm.ms.pn⟩,sm.al,sm.io,sm.pn,sm.fn,sm.nd,sm.st,sm.fr⟩
    ·cases h
   ·cases h
  ·rename_i v pos
   unfold denX at h
   split at h
   ·rename_i fn es cpos
    split at h
    ·rename_i o at' apos
     split at h
     ·rename_i x e hx
      obtain ⟨px,rfl⟩:=nmE_eq hx
      unfold denXm at h
      split at h
      ·rename_i hat
       subst hat
       split at h
       ·rename_i i f1 v1 hi he
        split at h
        ·rename_i hc
         cases h
         have g:=hd _ _ _ he
         intro Wx X M xs sm
         have hb:=pe_bm (X:=X) (cpos:=cpos) PySem.F.plainAttrs_list PySem.F.slot_list_append PySem.F.type_list_append mt_append (xs.var (pos:=px) hi) (pa_cons (g.2.2 X M xs sm.ms).1 pa_nil (star_one (noStar_iff g.2.1))) rfl (noStar_few g.2.1 X.env cpos) hc.2 (star_one (noStar_iff g.2.1)) rfl
         refine ps_imp (ps_expr hb rfl) fun D σ H q=>?_
         have:=tS_app (D:=D) sm.al (sm.ms.v g.1) (by rw [sm.ms.ms];exact hc.1) q
         rw [sm.ms.k xs] at this
         exact this
        ·cases h
       ·cases h
      ·cases h
     ·rename_i e hx
      cases h
     ·cases h
    ·rename_i x p
     split at h
     ·rename_i f1 v1 he
      cases h
      intro Wx X M xs sm
      exact ps_imp (ps_expr ((hd _ _ _ he).2.2 X M xs sm.ms).1 rfl) fun D σ H q=>tS_drop q
     ·cases h
    ·cases h
   ·cases h
  ·rename_i t e pos
   unfold denAsg at h
   split at h
   ·rename_i es k p
    split at h
    ·rename_i is f1 v1 hs he
     split at h
     ·rename_i hc
      cases h
      have g:=hd _ _ _ he
      intro Wx X M xs sm
      obtain ⟨h1,h2,h3,h4⟩:=slots_names hs xs sm
      have mk:M.K=X.K:=sm.ms.k xs
      refine ps_imp (ps_asg (g.2.2 X M xs sm.ms).1 (pg_tup xs.calm h1 h2 h3) ?_ ?_ ?_) fun D σ H q=>?_
      ·cases e <;> first | rfl | (cases hc.1)
      ·cases e <;> first | rfl | (cases hc.2)
      ·rfl
      ·have:=tS_unp sm.al (sm.ms.v g.1) (g_tup h4) q
       rw [mk] at this
       exact this
     ·cases h
    ·cases h
   ·rename_i x px
    split at h
    ·rename_i i f1 v1 hi he
     split at h
     ·rename_i hc
      cases h
      have g:=hdA _ _ _ he
      intro Wx X M xs sm
      have hN:X.N.Nodup:=by rw [xs.N];exact sm.nd
      have hi':X.N[i]?=some x:=by rw [xs.N];exact slot_get hi
      have hx:Loc X.env.scope x:=by rw [xs.sc];exact loc_of hc.1
      have mi:M.Ms i=S.msF i:=by rw [sm.ms.ms]
      cases hcp:isComp e with
      | false=>exact ps_imp (ps_set hN hi' hx (g.2.2 X M xs sm.ms).1 (swap_no hcp) (.inl (sm.fn x))) fun D σ H q=>tS_set sm.al (sm.ms.v g.1) mi (okAsg_io hc.2 sm) q
      | true=>
       cases e with
       | ListComp elt gs scope cpos=>
        obtain ⟨tg,ys,asg,it,ifs,iw,t,g2,vE,rfl,cp,rfl,rfl⟩:=den_comp GX G Gm hS (show den 60 S _=_ from he)
        obtain ⟨wi,gg,h1,h2,h3,h4,h5,h6⟩:=comp_parts (pos:=cpos) cp xs sm.ms
        refine ps_len (ps_setComp hN hi' hx (.inl (sm.fn x)) h2 xs.calm h1 h3 h4 h5 (fold_eq (n:=0) (f:=g2) (vs:=[]) cp.iwo.2.1)) fun D σ H hl q=>?_
        exact h6 σ H _ (by rw [hl,xs.N]) (tS_set sm.al (sm.ms.v g.1) mi (okAsg_io hc.2 sm) q)
       | SetComp _ _ _ _=>simp [denA,den,denStep] at he
       | DictComp _ _ _ _ _=>simp [denA,den,denStep] at he
       | _=>cases hcp
     ·cases h
    ·cases h
   ·rename_i t k ps
    unfold denPut at h
    split at h
    ·rename_i x px
     split at h
     ·rename_i k hk
      obtain ⟨k',pk,rfl⟩:=ixC_eq hk
      split at h
      ·rename_i i f1 v1 hi he
       cases h
       have g:=hd _ _ _ he
       intro Wx X M xs sm
       refine ps_imp (ps_asg (g.2.2 X M xs sm.ms).1 (pg_sub (xs.var hi) pe_int set_list) ?_ ?_ rfl) fun D σ H q=>tS_put sm.al (sm.ms.v g.1) q
       ·cases e <;> rfl
       ·cases e <;> rfl
      ·cases h
     ·cases h
    ·cases h
   ·cases h
  ·split at h
   ·rename_i f1 v1 s t hc ha hb
    cases h
    intro Wx X M xs sm
    exact ps_imp (ps_if (denT_ok GX G Gm hS hc xs sm.ms) (denSsW_ok ih _ _ ha X M xs sm) (denSsW_ok ih _ _ hb X M xs sm)) fun D σ H q=>tS_if q
   ·cases h
  ·rename_i t it body pos
   unfold denFor at h
   split at h
   ·rename_i x px
    split at h
    ·rename_i f' hf
     cases h
     exact fun {Wx}=>forQ_ok GX G Gm hS hf
    split at h
    ·rename_i i iw b hi hw hb
     split at h
     ·rename_i hc
      cases h
      intro Wx X M xs sm
      have hN:X.N.Nodup:=by rw [xs.N];exact sm.nd
      have hi':X.N[i]?=some x:=by rw [xs.N];exact slot_get hi
      have hx:Loc X.env.scope x:=by rw [xs.sc];exact loc_of hc.1
      have giw:=denI_ok hd (den_set 60 S) G.1 hw
      have hbd:=denBody_ok hd ih hb X M xs sm
      have hg:GOk M [] [i] (gName i) (asgN i):=g_name ⟨by rw [sm.ms.ms];exact hc.2.2.1,okAsg_io hc.2.1 sm,sm.al i,sm.ms.als⟩
      have hpg:PG X (.Name x px) (gName i):=pg_name hN hi' hx (.inl (sm.fn x))
      have hpi:=giw.2.2 X M xs sm.ms (.Name x px)
      have hf:=fold_eq (n:=0) (env:=X.env) (f:=bVar 0) (vs:=[]) giw.2.1
      cases iw with
      | rng en fa vs=>
       rcases hpi with ⟨rfl,hpi⟩ | ⟨rfl,hpi⟩
       ·exact ps_imp (ps_for (never_of xs) xs.calm hpi hpg hbd hf) fun D σ H q=>tS_for1 hg q
       ·exact ps_imp (ps_for (never_of xs) xs.calm hpi hpg hbd hf) fun D σ H q=>tS_for2 hg q
      | seq f vs=>exact ps_imp (ps_for (never_of xs) xs.calm hpi hpg hbd hf) fun D σ H q=>tS_forS sm.al (sm.ms.v giw.1) hg q
      | vw v fa vs=>exact hpi.elim
     ·cases h
    ·cases h
   ·rename_i es k p
    split at h
    ·rename_i is iw b hs hw hb
     cases h
     intro Wx X M xs sm
     have giw:=denI_ok hd (den_set 60 S) G.1 hw
     have hbd:=denBody_ok hd ih hb X M xs sm
     obtain ⟨h1,h2,h3,h4⟩:=slots_names hs xs sm
     have mk:M.K=X.K:=sm.ms.k xs
     have hg:=g_tup (M:=M) (al:=[]) h4
     have hpg:=pg_tup (pos:=p) (k:=k) xs.calm h1 h2 h3
     rw [← mk] at hpg
     have hpi:=giw.2.2 X M xs sm.ms (.Tuple es k p)
     have hf:=fold_eq (n:=0) (env:=X.env) (f:=bVar 0) (vs:=[]) giw.2.1
     cases iw with
     | rng en fa vs=>
      rcases hpi with ⟨rfl,hpi⟩ | ⟨rfl,hpi⟩
      ·exact ps_imp (ps_for (never_of xs) xs.calm hpi hpg hbd hf) fun D σ H q=>tS_for1 hg q
      ·exact ps_imp (ps_for (never_of xs) xs.calm hpi hpg hbd hf) fun D σ H q=>tS_for2 hg q
     | seq f vs=>exact ps_imp (ps_for (never_of xs) xs.calm hpi hpg hbd hf) fun D σ H q=>tS_forS sm.al (sm.ms.v giw.1) hg q
     | vw v fa vs=>exact hpi.elim
    ·cases h
   ·cases h
  ·rename_i t op e pos
   cases h
  ·rename_i e pos
   unfold denRet at h
   split at h
   ·rename_i x hx
    obtain ⟨px,rfl⟩:=nmE_eq hx
    split at h
    ·rename_i i hi
     split at h
     ·cases h
     ·rename_i hm
      cases h
      intro Wx X M xs sm
      exact ps_imp (ps_ret (xs.var hi)) fun D σ H q=>tS_retV sm.al (by rw [sm.ms.ms];simpa using hm) q
    ·cases h
   ·rename_i hx
    split at h
    ·rename_i f1 v1 he
     cases h
     intro Wx X M xs sm
     exact ps_imp (ps_ret ((hd _ _ _ he).2.2 X M xs sm.ms).1) fun D σ H q=>tS_ret (sm.ms.v (hd _ _ _ he).1) q
    ·cases h
  ·cases h
 exact fun {Wx}=>core trivial
theorem denS0_ok (GX:GX K mg S.xc) (G:GS P w K mg base lvl S.Γ) (Gm:GSm P w K mg base lvl S.Γm) (hS:∀ i,∀ j∈S.alF i,S.msF j=false):∀ (n:Nat) (st:Stmt) (f:Fs),denS0 n S st=some f→SGood P w K mg base lvl S st f:=by
 intro n
 induction n with
 | zero=>intro st f h;cases h
 | succ n ih=>
  intro st f h
  replace h:some ((denStepS (denS0 n S) S st).getD sNo)=some f:=h
  cases e0:denStepS (denS0 n S) S st with
  | none=>
   rw [e0] at h
   cases h
   intro Wx X M xs sm pins s σ H D I q
   exact (ps_never pins s σ H D I (tS_no (t:=tNever) q))
  | some f'=>
   rw [e0] at h
   cases h
   exact fun {Wx}=>denStepS_ok GX G Gm hS ih _ _ e0
def denS:Nat→Sx→Stmt→Option Fs:=denS0
theorem denS_ok (GX:GX K mg S.xc) (G:GS P w K mg base lvl S.Γ) (Gm:GSm P w K mg base lvl S.Γm) (hS:∀ i,∀ j∈S.alF i,S.msF j=false):∀ (n:Nat) (st:Stmt) (f:Fs),denS n S st=some f→SGood P w K mg base lvl S st f:=denS0_ok GX G Gm hS
def slots0:Bool→List PV→Rho
 | true,x::xr=>some (x,om)::xr.map fun x=>some (x,dv x)
 | _,xs=>xs.map fun x=>some (x,dv x)
def finF (io:Bool) (y:PV) (d:Nat) (ρ:Rho):Rz (PV×Nat×PV):=match io with
 | false=>.ok (y,d,.non)
 | true=>match ρ[0]? with
  | some (some (z,_))=>.ok (y,d,z)
  | _=>.no
def mkFn (io:Bool) (np k:Nat) (b:Fs):Fn:=fun xs=>if xs.length=np then (match b (slots0 io xs++List.replicate k none) with
 | .rt y d ρ=>finF io y d ρ
 | .nx ρ=>finF io .non om ρ
 | .exc c=>.exc c
 | _=>.no) else .no
theorem mkFn_len {io:Bool}{np k:Nat}{b:Fs}:∀ xs,xs.length≠np→mkFn io np k b xs=.no:=fun xs h=>by
 unfold mkFn
 rw [if_neg h]
theorem slots0_get {io:Bool}{xs:List PV}{i:Nat}{x:PV}{d:Nat} (h:(slots0 io xs)[i]?=some (some (x,d))):xs[i]?=some x∧(d=dv x∨(io=true∧i=0∧d=om)):=by
 cases io with
 | false=>
  have h':(xs.map fun x=>(some (x,dv x):Slot))[i]?=some (some (x,d)):=h
  rw [List.getElem?_map] at h'
  cases e:xs[i]? with
  | none=>rw [e] at h';cases h'
  | some y=>rw [e] at h';cases h';exact ⟨rfl,.inl rfl⟩
 | true=>
  cases xs with
  | nil=>simp [slots0] at h
  | cons y r=>
   cases i with
   | zero=>
    have h':some (some (y,om):Slot)=some (some (x,d)):=h
    cases h'
    exact ⟨rfl,.inr ⟨rfl,rfl,rfl⟩⟩
   | succ i=>
    have h':(r.map fun x=>(some (x,dv x):Slot))[i]?=some (some (x,d)):=h
    rw [List.getElem?_map] at h'
    cases e:r[i]? with
    | none=>rw [e] at h';cases h'
    | some y'=>rw [e] at h';cases h';exact ⟨by simpa using e,.inl rfl⟩
theorem slots0_len (io:Bool) (xs:List PV):(slots0 io xs).length=xs.length:=by
 cases io <;> cases xs <;> simp [slots0]
theorem fun_okX {x qual:Str}{st:Stmt}{f:Addr}{fd:FuncData}{N ps:List Str}{k:Nat}{sp:Sp} (F:Fun K x qual st f fd) (S:FnScope N ps (defScope st)) (len:∀ vs H Q E,sp vs H Q E→vs.length=ps.length)
  (hbody:∀ (cdv:Value) (A:Around) (outer:List Env) (s:Shared) (H:Hp) (vs:List V) (Q:VK) (E:XK),Room k (A.deeper (envOfC qual (defScope st) s.heap.objs.size f cdv))→sp vs H Q E →
   ∃ t,PSs (cxOf (CXr P w K) P w K mg base N qual (defScope st) f cdv A outer s H E) (defBody st) t∧t { nx:=fun _ H'=>Q .non H',rt:=Q } (L2.start N vs) H):FnOk P w K mg base (CXr P w K) (k + 1) f fd ps sp:=by
 obtain ⟨oc,od,kV,doc,pm,an,cdv,ct,osl,rfl,lk,hcd⟩:=F.ex
 exact fn_of lk hcd S len fun A outer s H vs Q E hr hsp=>hbody cdv A outer s H vs Q E hr hsp
theorem fn_by {x qual:Str}{st:Stmt}{fa:Addr}{fd:FuncData}{ps:List Str}{np k:Nat}{io:Bool}{b:Fs} (Fu:Fun K x qual st fa fd) (FS:FnScope S.N ps (defScope st)) (hsc:S.sc=defScope st) (hal:S.al=[]) (hnp:ps.length=np) (hk:S.N.length=np + k)
  (hms:∀ i∈S.ms,i < np→i=0∧io=true) (hio:io=true→S.msF 0=true∧0 < np) (GX:GX K mg S.xc) (G:GS P w K mg base lvl S.Γ) (Gm:GSm P w K mg base lvl S.Γm) (hb:denSsW (denS 60 S) (defBody st)=some b):
  FnOk P w K mg base (CXr P w K) (lvl + 1) fa fd ps (spF K io np (mkFn io np k b)):=by
 have hS:∀ i,∀ j∈S.alF i,S.msF j=false:=fun i j hj=>by
  unfold Sx.alF at hj
  rw [hal] at hj
  simp at hj
 refine fun_okX Fu FS (fun vs H Q E h=>h.1.trans hnp.symm) fun cdv A outer s H vs Q E hr h=>?_
 obtain ⟨hl,xs,Zo,x0,v0,fp0,hZ,hz0,h1,h2,q⟩:=h
 let M:Fm:={ K:=K,Ms:=S.msF,Zo:=Zo,H₀:=H,W:=WE E H,io:=if io=true then some v0 else none,al:=fun _=>[] }
 have hxs:XS (cxOf (CXr P w K) P w K mg base S.N qual (defScope st) fa cdv A outer s H E) P w K mg base lvl S (WE E H):=⟨rfl,rfl,rfl,rfl,rfl,rfl,hsc.symm,rfl,hr,own_def,pass_def,fun _=>raise_def⟩
 have hsm:SM (cxOf (CXr P w K) P w K mg base S.N qual (defScope st) fa cdv A outer s H E) M K S (WE E H):=by
  refine ⟨⟨rfl,rfl,fun i _=>?_,(fun i j hj=>nomatch hj),rfl,fun _ h=>nomatch h⟩,fun _=>rfl,fun h=>?_,(fun _ h=>nomatch h),fun _=>rfl,FS.nd,rfl,rfl⟩
  ·show []=S.al.getD i []
   rw [hal];rfl
  ·have h':(if io=true then some v0 else none)≠none:=h
   cases io with
   | true=>exact (hio rfl).1
   | false=>exact absurd rfl h'
 refine ⟨tS M b,denSsW_ok (denS_ok GX G Gm hS 60) _ _ hb _ M hxs hsm,slots0 io xs++List.replicate k none,fun i=>if i=0 then fp0 else [],?_,?_⟩
 ·have hlen:xs.length=vs.length:=by
   cases io with
   | false=>exact (h1 rfl).2.length.symm
   | true=>obtain ⟨xr,wr,rfl,rfl,_,o⟩:=h2 rfl;rw [List.length_cons,List.length_cons,o.length]
  have each:∀ i y d,(slots0 io xs)[i]?=some (some (y,d))→∃ v,vs[i]?=some v∧Own K H (fun a=>Zo a∨a∈fp0) y d v (if i=0 then fp0 else []):=fun i y d e=>by
   obtain ⟨e1,e2⟩:=slots0_get e
   cases io with
   | false=>
    obtain ⟨rfl,o⟩:=h1 rfl
    obtain ⟨v,ev,ov⟩:=o.nth e1
    rcases e2 with rfl | ⟨z,_⟩
    ·refine ⟨v,ev,?_⟩
     rw [ite_self]
     exact ov.dv.weak fun a h=>h.elim id fun z=>nomatch z
    ·cases z
   | true=>
    obtain ⟨xr,wr,rfl,rfl,o0,o⟩:=h2 rfl
    cases i with
    | zero=>
     simp [slots0] at e
     obtain ⟨rfl,rfl⟩:=e
     exact ⟨v0,rfl,Own.full _ _ _ o0⟩
    | succ i=>
     obtain ⟨v,ev,ov⟩:=o.nth (j:=i) (by simpa using e1)
     rcases e2 with rfl | ⟨_,z,_⟩
     ·refine ⟨v,by simpa using ev,?_⟩
      rw [if_neg (Nat.succ_ne_zero i)]
      exact ov.dv
     ·cases z
  have inl:∀ i p,(slots0 io xs++List.replicate k none)[i]?=some (some p)→(slots0 io xs)[i]?=some (some p):=fun i p e=>by
   by_cases hi:i < (slots0 io xs).length
   ·rw [List.getElem?_append_left hi] at e;exact e
   ·rw [List.getElem?_append_right (by omega),List.getElem?_replicate] at e
    split at e <;> cases e
  have domF:∀ a∈fp0,H a≠none:=fun a ha=>by
   cases io with
   | false=>rw [(h1 rfl).1] at ha;cases ha
   | true=>
    obtain ⟨xr,wr,rfl,rfl,o0,o⟩:=h2 rfl
    obtain ⟨ys,e⟩:=Own.lsts _ _ _ _ o0 a ha
    rw [e];simp
  refine ⟨fun i y d e=>?_,fun i h=>?_,fun i j hij a ha hb'=>?_,fun i a ha=>?_,fun i hi a ha=>?_,hZ,?_,fun i y d hi e=>?_,fun a h=>h,⟨fun v hv=>?_,fun _ h=>(nomatch h)⟩⟩
  ·obtain ⟨v,ev,ov⟩:=each i y d (inl i _ e)
   refine ⟨v,?_,ov.weak fun a h=>?_⟩
   ·unfold L2.start
    rw [List.getElem?_append_left (by rw [List.length_map];exact (List.getElem?_eq_some_iff.mp ev).1),List.getElem?_map,ev]
    rfl
   ·rcases h with h | ⟨j,_,h⟩
    ·exact .inl h
    ·by_cases ej:j=0
     ·simp only [if_pos ej] at h;exact .inr h
     ·simp only [if_neg ej] at h;cases h
  ·by_cases hi:i=0
   ·subst hi
    rw [if_pos rfl]
    cases io with
    | false=>exact (h1 rfl).1
    | true=>
     obtain ⟨xr,wr,rfl,rfl,_,_⟩:=h2 rfl
     exact absurd rfl (h (x0,om))
   ·rw [if_neg hi]
  ·by_cases e1:i=0
   ·by_cases e2:j=0
    ·exact hij (e1.trans e2.symm)
    ·rw [if_neg e2] at hb';cases hb'
   ·simp only [if_neg e1] at ha;cases ha
  ·by_cases e1:i=0
   ·simp only [if_pos e1] at ha;exact hz0 a ha
   ·simp only [if_neg e1] at ha;cases ha
  ·by_cases e1:i=0
   ·simp only [if_pos e1] at ha
    cases io with
    | false=>rw [(h1 rfl).1] at ha;cases ha
    | true=>
     have:=(hio rfl).1
     have hi':S.msF i=false:=hi
     rw [e1,this] at hi';cases hi'
   ·simp only [if_neg e1] at ha;cases ha
  ·unfold L2.start
   rw [List.length_append,slots0_len,List.length_replicate,List.length_append,List.length_map,List.length_replicate,hlen,hl,hk]
   omega
  ·have hm:i∈S.ms:=by
    have hi':S.msF i=true:=hi
    unfold Sx.msF at hi'
    simpa using hi'
   obtain ⟨e1,e2⟩:=slots0_get (inl i _ e)
   have hlt:i < np:=by
    have:=(List.getElem?_eq_some_iff.mp e1).1
    rw [hlen,hl] at this;exact this
   obtain ⟨rfl,rfl⟩:=hms i hm hlt
   obtain ⟨xr,wr,rfl,rfl,_,_⟩:=h2 rfl
   have e':=inl 0 _ e
   simp [slots0] at e'
   exact e'.2.symm
  ·have hv':(if io=true then some v0 else none)=some v:=hv
   cases io with
   | false=>cases hv'
   | true=>
    cases hv'
    obtain ⟨xr,wr,rfl,rfl,_,_⟩:=h2 rfl
    exact ⟨rfl,(hio rfl).1⟩
 ·unfold mkFn at q
  have hlen:xs.length=np:=by
   by_cases e:xs.length=np
   ·exact e
   ·rw [if_neg e] at q;exact q.elim
  rw [if_pos hlen] at q
  have fin:∀ {y:PV}{d:Nat}{ρ':Rho}{v:V}{σ':St}{H':Hp}{fps':Fps}{fp:List Addr},(match finF io y d ρ' with
    | .ok (y,d,z0)=>∀ v H' fp fp0',Keep (fun a=>a∈fp0) H H'→(∀ a,H a≠none→H' a≠none)→(∀ a∈fp0',a∈fp0∨H a=none)→(∀ a∈fp0',¬ Zo a)→(io=false→fp0'=[])→(io=true→Own K H' (fun _=>True) z0 om v0 fp0') →
      Own K H' (fun a=>(Zo a∨a∈fp0')∨a∈fp) y d v fp→(∀ a∈fp,H a=none∧¬ (Zo a∨a∈fp0'))→Q v H'
    | .exc c=>∀ H',Keep (fun a=>a∈fp0) H H'→(∀ a,H a≠none→H' a≠none)→E (.int (c:Int) 0) none H'
    | .no=>False)→KS M H (fun i=>if i=0 then fp0 else []) H' fps'→Rep M ρ' σ' H' fps'→Own M.K H' (fun a=>Zr M fps' a∨a∈fp) y d v fp→(∀ a∈fp,M.H₀ a=none∧¬ Zr M fps' a)→Q v H':=fun {y d ρ' v σ' H' fps' fp} q ks rp oy hf=>by
   have kp:Keep (fun a=>a∈fp0) H H':=fun a o h n=>ks.keep a o h fun ⟨i,hi⟩=>by
    by_cases e:i=0
    ·simp only [if_pos e] at hi;exact n hi
    ·simp only [if_neg e] at hi;cases hi
   cases io with
   | false=>
    refine q v H' fp [] kp ks.dom (fun _ z=>(nomatch z)) (fun _ z=>(nomatch z)) (fun _=>rfl) (fun h=>(nomatch h)) (oy.weak fun a h=>?_) fun a ha=>⟨(hf a ha).1,fun z=>(hf a ha).2 ?_⟩
    ·rcases h with (h | h) | h
     ·exact .inl (.inl h)
     ·cases h
     ·exact .inr h
    ·rcases z with z | z
     ·exact .inl z
     ·cases z
   | true=>
    unfold finF at q
    cases e0:ρ'[0]? with
    | none=>dsimp only at q;rw [e0] at q;exact q.elim
    | some s0=>
     dsimp only at q
     rw [e0] at q
     cases s0 with
     | none=>exact q.elim
     | some p0=>
      obtain ⟨z,dz⟩:=p0
      have hdz:=rp.msf 0 z dz (hio rfl).1 e0
      subst hdz
      obtain ⟨u,hu,ou⟩:=rp.own 0 z om e0
      have hu0:=(rp.iov.1 v0 rfl).1
      rw [hu] at hu0
      cases hu0
      refine q v H' fp (fps' 0) kp ks.dom (fun a ha=>?_) (fun a ha=>rp.zo 0 a ha) (fun h=>(nomatch h)) (fun _=>Own.full _ _ _ ou) (oy.weak fun a h=>?_) fun a ha=>⟨(hf a ha).1,fun z=>(hf a ha).2 ?_⟩
      ·rcases ks.sub 0 a ha with ⟨j,hj⟩ | z
       ·by_cases e:j=0
        ·simp only [if_pos e] at hj;exact .inl hj
        ·simp only [if_neg e] at hj;cases hj
       ·exact .inr z
      ·rcases h with (h | h) | h
       ·exact .inl (.inl h)
       ·exact .inl (.inr ⟨(fun z=>nomatch z),h⟩)
       ·exact .inr h
      ·rcases z with z | z
       ·exact .inl z
       ·exact .inr ⟨(fun z=>nomatch z),z⟩
  cases eb:b (slots0 io xs++List.replicate k none) with
  | no=>rw [eb] at q;exact q
  | exc c=>
   rw [eb] at q
   refine fun σ' H' fps' ks=>⟨q H' (fun a o h n=>ks.keep a o h fun ⟨i,hi⟩=>?_) ks.dom,ks.dom⟩
   by_cases e:i=0
   ·simp only [if_pos e] at hi;exact n hi
   ·simp only [if_neg e] at hi;cases hi
  | bk ρ=>rw [eb] at q;exact q.elim
  | ct ρ=>rw [eb] at q;exact q.elim
  | rt y d ρ'=>
   rw [eb] at q
   exact fun v σ' H' fps' fp ks rp oy hf=>fin q ks rp oy hf
  | nx ρ'=>
   rw [eb] at q
   exact fun σ' H' fps' ks rp=>fin (fp:=[]) q ks rp (by rw [Own];exact ⟨rfl,rfl⟩) fun _ z=>nomatch z
end
open PySem PySem.Spec PySem.W PySem.Calls PyProof.Rows L2
def topRunT (tb:String→Option Builtin) (p:Program) (w:World) (n₀:Nat) (ann:Option Value):Nat→SharedT→Thread→Option SharedT
 | 0,_,_=>none
 | n + 1,s,t=>match through t with
  | true=>some s
  | false=>match stepOk n₀ ann t with
   | false=>none
   | true=>match stepT (denote tb) p w s t with
    | some (s',t')=>topRunT tb p w n₀ ann n s' t'
    | none=>none
theorem topRun_of {tb:String→Option Builtin}{p:Program}{w:World}{n₀:Nat}{ann:Option Value}:∀ {n:Nat}{s r:SharedT}{t:Thread},topRunT tb p w n₀ ann n s t=some r→topRun tb p w n₀ ann n s.abs t=some r.abs
 | 0,_,_,_,h=>by cases h
 | n + 1,s,r,t,h=>by
  unfold topRunT at h
  unfold topRun
  cases e1:through t with
  | true=>rw [e1] at h;cases h;rfl
  | false=>
   rw [e1] at h
   cases e2:stepOk n₀ ann t with
   | false=>rw [e2] at h;cases h
   | true=>
    rw [e2] at h
    cases e3:stepT (denote tb) p w s t with
    | none=>rw [e3] at h;cases h
    | some z=>obtain ⟨s₂,t₂⟩:=z;rw [e3] at h;rw [stepT_spec e3];exact topRun_of h
def ofL:List Obj→Nat→BT→BT
 | [],_,t=>t
 | o::r,n,t=>ofL r (n + 1) (t.ins n o)
noncomputable def bootT (P:Params):BT:=ofL (boot_heap P).objs.toList 0 .nil
noncomputable def bootS (P:Params) (os:OsState):SharedT:=⟨bootT P,(boot_heap P).objs.size,(boot_heap P).life,#[],boot_drawn,boot_toks,os⟩
theorem boot_abs (P:Params) (os:OsState):(bootS P os).abs=⟨boot_heap P,#[],boot_drawn,boot_toks,os⟩:=by kernel_rfl
theorem boot_ns (P:Params):(boot_heap P).isNs mainGlobals=true:=by kernel_rfl
def endSeen {α:Type} (p q:Program) (loose:List Str) (Xt:Shared→Bool) (Yf:Shared→α) (H:Heap) (s:Shared):=
 ((staticsOk (importedModules p.main.body) H s.heap && namesBound p s.heap && gensDone s && laidKept H s.heap),openSeen q loose (importedModules p.main.body) Xt true s,Yf s)
theorem left_of {p q:Program}{loose:List Str}{Xt:Shared→Bool}{α:Type}{Yf:Shared→α}{Ya:World→α}{N:Nat} (e:opening p=plainProg p.main.scope.names) (hN:Nat.ble 600 N=true) (f:∀ s,fenceModules? p s=some s)
  (run:∀ (w:World) (os:OsState),(topRunT treeTable p w (boot_heap w.params).objs.size ((boot_heap w.params).nsMap mainGlobals "__annotations__") N (bootS w.params os) (topStub p)).map (fun s=>endSeen p q loose Xt Yf (boot_heap w.params) s.abs)=some (true,openGood q loose,Ya w)):
  LeftO p q loose Xt Yf Ya N:=fun w=>by
 obtain ⟨⟨h,gs,d,k,os⟩,e1,e2⟩:=Option.map_eq_some_iff.mp (boot_open e hN f w)
 obtain ⟨rfl,rfl,rfl,rfl⟩:h=boot_heap w.params∧gs=#[]∧d=boot_drawn∧k=boot_toks:=by simpa using e2
 obtain ⟨s,r1,r2⟩:=Option.map_eq_some_iff.mp (run w os)
 have r:=topRun_of r1
 rw [boot_abs] at r
 have r3:(_=_)∧(_ ,_)=(_,_):=Prod.mk.inj r2
 obtain ⟨l1,l23⟩:=r3
 obtain ⟨l2,l3⟩:=Prod.mk.inj l23
 have t:topFrom treeTable p w N ⟨boot_heap w.params,#[],boot_drawn,boot_toks,os⟩=some s.abs:=by
  unfold topFrom
  dsimp only
  rw [boot_ns,r]
  show (match staticsOk (importedModules p.main.body) (boot_heap w.params) s.abs.heap && namesBound p s.abs.heap && gensDone s.abs && laidKept (boot_heap w.params) s.abs.heap with | true=>_ | false=>_)=_
  rw [l1]
 unfold openEnds
 rw [e1]
 show (topFrom treeTable p w N _).map _=_
 rw [t]
 exact congrArg some (Prod.ext l2 l3)
def kof (h:Heap):Frag:=(List.range h.objs.size).filterMap fun a=>(h.get? a).map fun o=>(a,o)
theorem kof_in (h:Heap):(kof h).In h:=by
 intro a o
 unfold kof
 generalize List.range h.objs.size=l
 induction l with
 | nil=>intro e;cases e
 | cons b l ih=>
  intro e
  rw [List.filterMap_cons] at e
  cases g:h.get? b with
  | none=>rw [g] at e;exact ih e
  | some z=>
   rw [g] at e
   dsimp only [Option.map_some] at e
   rw [List.lookup_cons] at e
   split at e
   ·rename_i q
    cases e
    rw [beq_iff_eq.mp q]
    exact g
   ·exact ih e
structure DefSeen where
 name:Str
 qual:Str
 params:Arguments
 body:FuncBody
 scope:Scope
 globals:Addr
 closure:List (Str×Addr)
 defaults:Value
 builtins:Addr
 code:Bool
def defSeen (K:Frag) (x:Str):Option DefSeen:=match nsIn K mainGlobals x with
 | some (some (.ref g))=>(match K.lookup g with
  | some ⟨_,_,.func fd,_⟩=>some ⟨fd.name,fd.qualname,fd.params,fd.body,fd.scope,fd.globals,fd.closure,fd.defaults,fd.builtins,codeIn K fd.code x⟩
  | _=>none)
 | _=>none
def defDue (x:Str) (st:Stmt):DefSeen:=⟨x,x,defArgs st,.stmts (defBody st),defScope st,mainNs,[],.none,0,true⟩
theorem def_of {K:Frag}{x:Str}{st:Stmt} (e:defSeen K x=some (defDue x st)):∃ (g:Addr) (fd:FuncData),nsIn K mainGlobals x=some (some (.ref g))∧Fun K x x st g fd:=by
 unfold defSeen at e
 split at e
 ·rename_i g hg
  split at e
  ·rename_i oc od fd sl hl
   cases fd
   unfold defDue at e
   simp only [Option.some.injEq,DefSeen.mk.injEq] at e
   obtain ⟨rfl,rfl,rfl,rfl,rfl,rfl,rfl,rfl,rfl,hc⟩:=e
   refine ⟨g,_,hg,fun_mk hl hc ?_⟩
   unfold keepIn
   dsimp only
   rw [hl]
  ·cases e
 ·cases e
def lawSeen (ds:List (Str×Stmt)) (xc:List Nat) (K:Frag):List (Option DefSeen)×List (Option (Option Value))×Bool:=
 (ds.map fun d=>defSeen K d.1,bnames.map fun x=>nsIn K mainGlobals x,xc.isEmpty || (xTab K && xKit K && xc.all fun c=>(clsOf K c).isSome && match XN[c]? with
  | some x=>!(x == ("__debug__" : Str))
  | none=>false))
def lawDue (ds:List (Str×Stmt)):List (Option DefSeen)×List (Option (Option Value))×Bool:=(ds.map fun d=>some (defDue d.1 d.2),bnames.map fun _=>some none,true)
structure Given (ds:List (Str×Stmt)) (xc:List Nat) (K:Frag) (mg:Str→Option Value):Prop where
 df:∀ (i:Nat) (x:Str) (st:Stmt),ds[i]?=some (x,st)→∃ (g:Addr) (fd:FuncData),mg x=some (.ref g)∧Fun K x x st g fd
 bn:∀ x∈bnames,mg x=none
 gx:GX K mg xc
theorem map_at {α β:Type}{f g:α→β}:∀ {l:List α},l.map f=l.map g→∀ {i:Nat}{a:α},l[i]?=some a→f a=g a
 | [],_,_,_,h=>by cases h
 | b::l,e,0,a,h=>by
  cases h
  exact (List.cons.inj e).1
 | b::l,e,i + 1,a,h=>map_at (List.cons.inj e).2 h
theorem given_of {ds:List (Str×Stmt)}{xc:List Nat}{K:Frag}{mg:Str→Option Value}{h:Heap} (X:K.In h) (G:h.Ns mainGlobals mg) (e:lawSeen ds xc K=lawDue ds):Given ds xc K mg:=by
 obtain ⟨e1,e2⟩:=Prod.mk.inj e
 obtain ⟨e2,e3⟩:=Prod.mk.inj e2
 refine ⟨fun i x st hi=>?_,fun x hx=>?_,fun hne=>?_⟩
 ·obtain ⟨g,fd,a,b⟩:=def_of (map_at e1 hi)
  exact ⟨g,fd,mg_of X G a,b⟩
 ·obtain ⟨i,hi⟩:=List.getElem?_of_mem hx
  exact mg_none_of X G (map_at e2 hi)
 ·have hm:xc.isEmpty=false:=by
   cases xc with
   | nil=>exact absurd rfl hne
   | cons _ _=>rfl
  rw [hm,Bool.false_or,Bool.and_eq_true,Bool.and_eq_true] at e3
  refine ⟨e3.1.1,e3.1.2,fun c hc=>?_⟩
  have h1:=List.all_eq_true.mp e3.2 c hc
  rw [Bool.and_eq_true] at h1
  obtain ⟨C,hC⟩:=Option.isSome_iff_exists.mp h1.1
  have hC':=hC
  unfold clsOf at hC'
  cases hx:XN[c]? with
  | none=>rw [hx] at hC';cases hC'
  | some x=>
   rw [hx] at hC'
   dsimp only at hC'
   have h2:=h1.2
   rw [hx] at h2
   dsimp only at h2
   refine ⟨x,C,rfl,hC,?_,by simpa using h2⟩
   split at hC'
   ·rename_i D hD
    cases hC'
    exact mg_of X G hD
   ·cases hC'
theorem cxr_end {P:Program}{w:World}{K:Frag}{outer:List Env}{H:Hp}{s:Shared}{e:Value}{s2:Shared} (z:CXr P w K outer H s (fun _ _ _=>False) e s2):False:=by
 obtain ⟨_,_,_,_,_,_,_,_,_,_,_,_,_,_,_,_,_,_,z⟩:=z
 exact z
theorem holds_by {l:OpenLaw}{q:Program}{loose:List Str}{d:DefRec}{N k n:Nat}{ds:List (Str×Stmt)}{xc:List Nat}{F:Fn}{x:Str} (said:l.wellSaid=true)
  (e:opening l.prog=plainProg l.prog.main.scope.names) (hN:Nat.ble 600 N=true) (f:∀ s,fenceModules? l.prog s=some s)
  (run:∀ (w:World) (os:OsState),(topRunT treeTable l.prog w (boot_heap w.params).objs.size ((boot_heap w.params).nsMap mainGlobals "__annotations__") N (bootS w.params os) (topStub l.prog)).map
   (fun s=>endSeen l.prog q loose (fun s=>xlAt q [] s && recOk (RowW.records l.row.toRowW) s) (fun s=>lawSeen ds xc (kof s.heap)) (boot_heap w.params) s.abs)=some (true,openGood q loose,lawDue ds))
  (hdef:defOf q l.row.name=some (d,[])) (hp:l.row.prog.theDef l.row.name=some (d.params,d.body,d.scope)) (hk:kwWritten? d.params.kwonlyargs d.params.kw_defaults=some []) (hwr:(!l.row.writes || l.row.records.isEmpty)=true)
  (ok:(chainsOk q && opensWell l.row.prog && (frees l.row.toRowW && l.row.within.isEmpty))=true) (hb:l.row.prog.bare) (hw:l.row.toRowW.promised)
  (hn:l.most=some n) (hn2:n≤sizeLine) (hdf:d.params.defaults=[]) (hr:Room k callerA)
  (law:∀ (K:Frag) (w:World) (mg:Str→Option Value) (fa:Addr),Given ds xc K mg→mg d.name=some (.ref fa)→∃ fd:FuncData,(∀ (s:Shared) (u:Value),BindsTo s fd ⟨[u],[]⟩ [(x,u)]) ∧
   ∀ base:Heap,FnOk l.prog w K mg base (CXr l.prog w K) k fa fd [x] (spF K false 1 F))
  (yes:∀ (K:Frag) (H:Hp) (a:Addr) (ns:List Int),ns.length≤n→Only H→SqL K H a (ns.map V.int)→spF K false 1 F [.ref a] H (fun v _=>v=.bl true) fun _ _ _=>False):l.Holds:=by
 refine holds_law said fun ws=>?_
 refine holds_open (q:=q) (loose:=loose) (Xt:=fun s=>xlAt q [] s && recOk (RowW.records l.row.toRowW) s) (XP:=XL q []) (Yf:=fun s=>lawSeen ds xc (kof s.heap)) (Ya:=fun _=>lawDue ds) (YP:=fun _ h=>∃ K:Frag,K.In h∧lawSeen ds xc K=lawDue ds) (N:=N)
  (left_of e hN f run) (fun _ s z=>⟨_,kof_in _,z⟩) (fun _ _ _ ⟨K,a,b⟩ kp=>⟨K,a.keeps kp,b⟩) (fun s e=>xl_of s (Bool.and_eq_true_iff.mp e).1) XL.keeps hdef hp hk (fun s e=>recFacts_of (Bool.and_eq_true_iff.mp e).2) hwr ws ok hb hw ?_
 refine Att.attach_call hn hdf fun w s₀ s₁ mg mb fa o pm cd doc a vs ns G Y ho hd hcd hmg hobj hints hlen hg=>?_
 obtain ⟨K,KX,hf⟩:=Y
 obtain ⟨fd,hbd,hF⟩:=law K w mg fa (given_of KX G.T.g hf) hmg
 exact law_call KX G.T.g G.T.b G.T.builtins G.T.nolimit hg hobj hints (Nat.le_trans hlen hn2) hr (fun base _ _=>hF base) hbd (fun H hO hS=>yes K H a ns hlen hO hS) fun H e s'=>cxr_end
section
variable {P:Program}{w:World}{K:Frag}{mg:Str→Option Value}{base:Heap}
theorem len1 {us:List Value} (h:us.length=1):∃ a,us=[a]:=List.length_eq_one_iff.mp h
theorem len2 {us:List Value} (h:us.length=2):∃ a b,us=[a,b]:=by
 cases us with
 | nil=>cases h
 | cons a r=>obtain ⟨b,rfl⟩:=len1 (Nat.succ.inj h);exact ⟨a,b,rfl⟩
theorem len3 {us:List Value} (h:us.length=3):∃ a b c,us=[a,b,c]:=by
 cases us with
 | nil=>cases h
 | cons a r=>obtain ⟨b,c,rfl⟩:=len2 (Nat.succ.inj h);exact ⟨a,b,c,rfl⟩
theorem len4 {us:List Value} (h:us.length=4):∃ a b c d,us=[a,b,c,d]:=by
 cases us with
 | nil=>cases h
 | cons a r=>obtain ⟨b,c,d,rfl⟩:=len3 (Nat.succ.inj h);exact ⟨a,b,c,d,rfl⟩
theorem gs_nil {lvl:Nat} (hb:∀ x∈bnames,mg x=none):GS P w K mg base lvl []:=⟨hb,fun x io n F h=>by cases h⟩
theorem gs_cons {lvl:Nat}{x qual:Str}{st:Stmt}{fa:Addr}{fd:FuncData}{ps:List Str}{io:Bool}{n:Nat}{F:Fn}{Γ:List (Str×(Bool×Nat×Fn))} (g:GS P w K mg base lvl Γ) (hx:(x == ("__debug__" : Str))=false) (hF:∀ xs,xs.length≠n→F xs=.no)
  (hm:mg x=some (.ref fa)) (Fu:Fun K x qual st fa fd) (hbd:Binds K fd ps []) (hn:ps.length=n) (ok:FnOk P w K mg base (CXr P w K) lvl fa fd ps (spF K io n F)):GS P w K mg base lvl ((x,(io,n,F))::Γ):=by
 refine ⟨g.1,fun y io' n' F' h=>?_⟩
 rw [List.lookup_cons] at h
 split at h
 ·rename_i e
  cases h
  have:y=x:=eq_of_beq e
  subst this
  exact ⟨hx,hF,fa,fd,ps,hm,Fu.kp,hbd,hn,ok⟩
 ·exact g.2 y io' n' F' h
theorem gsm_nil {lvl:Nat}:GSm P w K mg base lvl []:=fun x F h=>by cases h
end
theorem sp_yes {K:Frag}{H:Hp}{a:Addr}{ns:List Int}{F:Fn} (hO:Only H) (hS:SqL K H a (ns.map V.int)) (h:∃ d z,F [.scr ns]=.ok (.bl true,d,z)):spF K false 1 F [.ref a] H (fun v _=>v=.bl true) fun _ _ _=>False:=by
 refine ⟨rfl,[.scr ns],fun _=>False,.non,.non,[],fun _ z=>z.elim,fun _ z=>(nomatch z),fun _=>⟨rfl,?_⟩,(fun h=>nomatch h),?_⟩
 ·rw [OwnL]
  refine ⟨.ref a,[],[],[],rfl,rfl,fun _ z=>(nomatch z),?_,by rw [OwnL];exact ⟨rfl,rfl⟩⟩
  rw [Own]
  refine ⟨rfl,a,rfl,?_⟩
  rcases hS with (h | h) | h
  ·rcases hO a with z | ⟨ob,xs,z⟩
   ·rw [h] at z;cases z
   ·rw [h] at z;cases z
  ·exact .inl h
  ·exact .inr h
 ·obtain ⟨d,z,e⟩:=h
  rw [e]
  intro v H' fp fp0' _ _ _ _ _ _ o _
  rw [Own] at o
  exact o.1
end QQ
namespace QV
open PySem PySem.Spec PyProof.Rows L2 QQ
theorem bin_ok {op:PV→Nat→PV→Nat→Option (PV×Nat)}{f g:Fx}{ρ ρ1 ρ2:Rho}{x y z:PV}{d e c:Nat} (h1:f ρ=.ok (x,d,ρ1)) (h2:g ρ1=.ok (y,e,ρ2)) (h3:op x d y e=some (z,c)):bBin op f g ρ=.ok (z,c,ρ2):=by
 unfold bBin
 rw [h1]
 dsimp only [Rz.bind]
 rw [h2]
 dsimp only
 rw [h3]
theorem un_ok {op:PV→Nat→Option (PV×Nat)}{f:Fx}{ρ ρ1:Rho}{x z:PV}{d c:Nat} (h1:f ρ=.ok (x,d,ρ1)) (h3:op x d=some (z,c)):bUn op f ρ=.ok (z,c,ρ1):=by
 unfold bUn
 rw [h1]
 dsimp only [Rz.bind]
 rw [h3]
theorem cons_ok {f:Fx}{fa:Fa}{ρ ρ1 ρ2:Rho}{x:PV}{d:Nat}{xs:List (PV×Nat)} (h1:f ρ=.ok (x,d,ρ1)) (h2:fa ρ1=.ok (xs,ρ2)):aCons f fa ρ=.ok ((x,d)::xs,ρ2):=by
 unfold aCons
 rw [h1]
 dsimp only [Rz.bind]
 rw [h2]
theorem one_ok {f:Fx}{ρ ρ1:Rho}{x:PV}{d:Nat} (h1:f ρ=.ok (x,d,ρ1)):aCons f aNil ρ=.ok ([(x,d)],ρ1):=cons_ok h1 rfl
theorem args_ok {op:List (PV×Nat)→Option (PV×Nat)}{fa:Fa}{ρ ρ1:Rho}{xs:List (PV×Nat)}{z:PV}{c:Nat} (h1:fa ρ=.ok (xs,ρ1)) (h2:op xs=some (z,c)):bArgs op fa ρ=.ok (z,c,ρ1):=by
 unfold bArgs
 rw [h1]
 dsimp only [Rz.bind]
 rw [h2]
theorem call_ok {F:Fn}{fa:Fa}{ρ ρ1:Rho}{xs:List (PV×Nat)}{y z:PV}{d:Nat} (h1:fa ρ=.ok (xs,ρ1)) (h2:F (xs.map (·.1))=.ok (y,d,z)):bCall F fa ρ=.ok (y,d,ρ1):=by
 unfold bCall
 rw [h1]
 dsimp only [Rz.bind]
 rw [h2]
theorem ret_ok {f:Fx}{ρ ρ1:Rho}{x:PV}{d:Nat} (h:f ρ=.ok (x,d,ρ1)):sRet f ρ=.rt x d ρ1:=by
 unfold sRet
 rw [h]
theorem drop_ok {f:Fx}{ρ ρ1:Rho}{x:PV}{d:Nat} (h:f ρ=.ok (x,d,ρ1)):sDrop f ρ=.nx ρ1:=by
 unfold sDrop
 rw [h]
theorem setF {i:Nat}{f:Fx}{vs:List Nat}{ρ ρ1 ρ2:Rho}{x:PV}{d:Nat} (h:f ρ=.ok (x,d,ρ1)) (hc:i < ρ1.length) (e:(coolIf d vs ρ1).set i (some (x,d))=ρ2):sSet false i f vs ρ=.nx ρ2:=by
 unfold sSet
 rw [h]
 dsimp only
 rw [if_pos ⟨hc,fun h=>nomatch h⟩,e]
theorem app_ok {i:Nat}{f:Fx}{vs:List Nat}{ρ ρ1 ρ2:Rho}{y:PV}{e:Nat}{xs:List PV}{d0 d:Nat}{xs0:List PV} (h0:ρ[i]?=some (some (.lst xs0,d0 + 1))) (h:f ρ=.ok (y,e,ρ1)) (h1:(coolIf e vs ρ1)[i]?=some (some (.lst xs,d))) (hd:d≠0) (hl:xs.length < sizeLine)
  (e2:(coolIf e vs ρ1).set i (some (.lst (xs++[y]),if d=om∧e=om then om else 1))=ρ2):sApp i f vs ρ=.nx ρ2:=by
 unfold sApp
 rw [h0]
 dsimp only
 rw [h]
 dsimp only
 rw [h1]
 dsimp only
 rw [if_pos ⟨hd,hl⟩,e2]
theorem seq_nx {f g:Fs}{ρ ρ1:Rho} (h:f ρ=.nx ρ1):sSeq f g ρ=g ρ1:=by
 unfold sSeq
 rw [h]
theorem if_ok {c:Fb}{f g:Fs}{ρ ρ1:Rho}{b:Bool} (hc:c ρ=.ok (b,ρ1)):sIf c f g ρ=if b=true then f ρ1 else g ρ1:=by
 unfold sIf
 rw [hc]
theorem if_t {c:Fb}{f g:Fs}{ρ ρ1:Rho} (hc:c ρ=.ok (true,ρ1)):sIf c f g ρ=f ρ1:=by rw [if_ok hc];rfl
theorem if_f {c:Fb}{f g:Fs}{ρ ρ1:Rho} (hc:c ρ=.ok (false,ρ1)):sIf c f g ρ=g ρ1:=by rw [if_ok hc];rfl
theorem seq_f {c:Fb}{f g:Fs}{ρ ρ1:Rho} (hc:c ρ=.ok (false,ρ1)):sSeq (sIf c f sNil) g ρ=g ρ1:=seq_nx (by rw [if_f hc];rfl)
theorem seq_rt {f g:Fs}{ρ ρ1:Rho}{x:PV}{d:Nat} (h:f ρ=.rt x d ρ1):sSeq f g ρ=.rt x d ρ1:=by
 unfold sSeq
 rw [h]
theorem t_ok {f:Fx}{ρ ρ1:Rho}{b:Bool}{d:Nat} (h:f ρ=.ok (.bl b,d,ρ1)):bT f ρ=.ok (b,ρ1):=by
 unfold bT
 rw [h]
 rfl
theorem not_ok {f:Fx}{ρ ρ1:Rho}{b:Bool}{d:Nat} (h:f ρ=.ok (.bl b,d,ρ1)):bUn opNot f ρ=.ok (.bl (!b),om,ρ1):=un_ok h rfl
theorem and_ok {f g:Fx}{ρ ρ1:Rho}{a b:Bool}{d:Nat} (h:f ρ=.ok (.bl a,d,ρ1)) (h2:a=true→g ρ1=.ok (.bl b,om,ρ1)) (hd:d=om):bAndV f g ρ=.ok (.bl (a && b),om,ρ1):=by
 subst hd
 unfold bAndV
 rw [h]
 cases a with
 | false=>rfl
 | true=>exact h2 rfl
theorem or_ok {f g:Fx}{ρ ρ1:Rho}{a b:Bool}{d:Nat} (h:f ρ=.ok (.bl a,d,ρ1)) (h2:a=false→g ρ1=.ok (.bl b,om,ρ1)) (hd:d=om):bOrV f g ρ=.ok (.bl (a || b),om,ρ1):=by
 subst hd
 unfold bOrV
 rw [h]
 cases a with
 | true=>rfl
 | false=>exact h2 rfl
theorem mul_ok {f g:Fx}{ρ ρ1 ρ2:Rho}{i j:Int}{d e:Nat} (h1:f ρ=.ok (.int i,d,ρ1)) (h2:g ρ1=.ok (.int j,e,ρ2)) (h:(-(2 ^ 64) < i∧i < 2 ^ 64)∨(-(2 ^ 64) < j∧j < 2 ^ 64)):bBin opMul f g ρ=.ok (.int (i * j),om,ρ2):=by
 refine bin_ok h1 h2 ?_
 show (if pMul i j=true then _ else _)=_
 rw [if_pos]
 unfold pMul
 rcases h with h | h
 ·rw [decide_eq_true h.1,decide_eq_true h.2];rfl
 ·rw [decide_eq_true h.1,decide_eq_true h.2];simp
theorem mod_ok {f g:Fx}{ρ ρ1 ρ2:Rho}{i j:Int}{d e:Nat} (h1:f ρ=.ok (.int i,d,ρ1)) (h2:g ρ1=.ok (.int j,e,ρ2)) (h:0 < j):bBin opMod f g ρ=.ok (.int (i % j),om,ρ2):=by
 refine bin_ok h1 h2 ?_
 show (if pMod i j=true then _ else _)=_
 rw [if_pos]
 exact decide_eq_true h
theorem div_ok {f g:Fx}{ρ ρ1 ρ2:Rho}{i j:Int}{d e:Nat} (h1:f ρ=.ok (.int i,d,ρ1)) (h2:g ρ1=.ok (.int j,e,ρ2)) (h:0 < j) (h':j < 2 ^ 128):bBin opFdiv f g ρ=.ok (.int (i / j),om,ρ2):=by
 refine bin_ok h1 h2 ?_
 show (if pDiv i j=true then _ else _)=_
 rw [if_pos]
 unfold pDiv
 rw [decide_eq_true h,decide_eq_true h'];rfl
theorem add_ok {f g:Fx}{ρ ρ1 ρ2:Rho}{i j:Int}{d e:Nat} (h1:f ρ=.ok (.int i,d,ρ1)) (h2:g ρ1=.ok (.int j,e,ρ2)):bBin opAdd f g ρ=.ok (.int (i + j),om,ρ2):=bin_ok h1 h2 rfl
theorem sub_ok {f g:Fx}{ρ ρ1 ρ2:Rho}{i j:Int}{d e:Nat} (h1:f ρ=.ok (.int i,d,ρ1)) (h2:g ρ1=.ok (.int j,e,ρ2)):bBin opSub f g ρ=.ok (.int (i - j),om,ρ2):=bin_ok h1 h2 rfl
theorem cmp_ok {p:Int→Int→Bool}{f g:Fx}{ρ ρ1 ρ2:Rho}{i j:Int}{d e:Nat} (h1:f ρ=.ok (.int i,d,ρ1)) (h2:g ρ1=.ok (.int j,e,ρ2)):bBin (opCmp p) f g ρ=.ok (.bl (p i j),om,ρ2):=bin_ok h1 h2 rfl
theorem chain_ok {p q:Int→Int→Bool}{f g h:Fx}{ρ:Rho}{i j k:Int}{d e c:Nat} (h1:f ρ=.ok (.int i,d,ρ)) (h2:g ρ=.ok (.int j,e,ρ)) (h3:h ρ=.ok (.int k,c,ρ)):bChain p q f g h ρ=.ok (.bl (p i j && q j k),om,ρ):=by
 unfold bChain
 rw [h1]
 dsimp only [Rz.bind]
 rw [h2]
 dsimp only
 by_cases hp:p i j=true
 ·rw [if_pos hp,h3,hp];rfl
 ·rw [if_neg hp]
  have:p i j=false:=by simpa using hp
  rw [this];rfl
theorem eqI {neg:Bool}{i j:Int}{d e:Nat}:opEq neg (.int i) d (.int j) e=some (.bl (neg^^decide (i=j)),om):=by
 show some (PV.bl (neg^^PyData.eqv (.int i) (.int j)),om)=_
 have:PyData.eqv (.int i) (.int j)=decide (i=j):=by
  show (i == j)=_
  rfl
 rw [this]
theorem eq_ok {neg:Bool}{f g:Fx}{ρ ρ1 ρ2:Rho}{i j:Int}{d e:Nat} (h1:f ρ=.ok (.int i,d,ρ1)) (h2:g ρ1=.ok (.int j,e,ρ2)):bBin (opEq neg) f g ρ=.ok (.bl (neg^^decide (i=j)),om,ρ2):=bin_ok h1 h2 eqI
abbrev iv (i:Int):PV:=.int i
def il (xs:List Int):PV:=.lst (xs.map .int)
def tb (t:List (List Int)):PV:=.lst (t.map il)
abbrev bx (a b c:Int):PV:=.tup [.int a,.int b,.int c]
theorem atI_nat {α:Type}{xs:List α}{k:Int}{x:α} (h0:0≤k) (h:xs[k.toNat]?=some x):atI xs k=some x:=by
 have hl:=(List.getElem?_eq_some_iff.mp h).1
 unfold atI ixN
 rw [if_pos h0,if_pos (by omega)]
 exact h
theorem idx_il {f g:Fx}{ρ ρ1 ρ2:Rho}{xs:List Int}{k x:Int}{d e:Nat} (h1:f ρ=.ok (il xs,d,ρ1)) (h2:g ρ1=.ok (.int k,e,ρ2)) (h:atI xs k=some x):bBin opIdx f g ρ=.ok (.int x,om,ρ2):=by
 refine bin_ok h1 h2 ?_
 show (atI (xs.map PV.int) k).map _=_
 have:atI (xs.map PV.int) k=some (.int x):=by
  unfold atI at h ⊢
  rw [List.length_map]
  cases e:ixN xs.length k with
  | none=>rw [e] at h;cases h
  | some j=>
   rw [e] at h
   have h':xs[j]?=some x:=h
   show (xs.map PV.int)[j]?=_
   rw [List.getElem?_map,h'];rfl
 rw [this];rfl
theorem idx_tb {f g:Fx}{ρ ρ1 ρ2:Rho}{t:List (List Int)}{k:Int}{r:List Int}{d e:Nat} (h1:f ρ=.ok (tb t,d,ρ1)) (h2:g ρ1=.ok (.int k,e,ρ2)) (h:atI t k=some r):bBin opIdx f g ρ=.ok (il r,0,ρ2):=by
 refine bin_ok h1 h2 ?_
 show (atI (t.map il) k).map _=_
 have:atI (t.map il) k=some (il r):=by
  unfold atI at h ⊢
  rw [List.length_map]
  cases e:ixN t.length k with
  | none=>rw [e] at h;cases h
  | some j=>
   rw [e] at h
   have h':t[j]?=some r:=h
   show (t.map il)[j]?=_
   rw [List.getElem?_map,h'];rfl
 rw [this];rfl
theorem len_il {fa:Fa}{ρ ρ1:Rho}{xs:List Int}{d:Nat} (h:fa ρ=.ok ([(il xs,d)],ρ1)):bArgs opLen fa ρ=.ok (.int xs.length,om,ρ1):=by
 refine args_ok h ?_
 show some (PV.int ((xs.map PV.int).length:Nat),om)=_
 rw [List.length_map]
theorem len_tb {fa:Fa}{ρ ρ1:Rho}{t:List (List Int)}{d:Nat} (h:fa ρ=.ok ([(tb t,d)],ρ1)):bArgs opLen fa ρ=.ok (.int t.length,om,ρ1):=by
 refine args_ok h ?_
 show some (PV.int ((t.map il).length:Nat),om)=_
 rw [List.length_map]
theorem compL_map {α:Type}{n:Nat}{test:Fb}{elt:Fx}{enc q:α→PV}{e:α→Nat}{p:α→Bool}:∀ (xs:List α) (ρ:Rho) (acc:List (PV×Nat)),ρ.length=n→(∀ x∈xs,test (ρ++[some (enc x,dv (enc x))])=.ok (p x,ρ++[some (enc x,dv (enc x))])) →
  (∀ x∈xs,p x=true→elt (ρ++[some (enc x,dv (enc x))])=.ok (q x,e x,ρ++[some (enc x,dv (enc x))]))→acc.length + xs.length≤sizeLine→compL 1 (asgN n) test elt (xs.map enc) ρ acc=.ok (acc++(xs.filter p).map (fun x=>(q x,e x)),ρ)
 | [],ρ,acc,_,_,_,_=>by simp [compL]
 | x::xs,ρ,acc,hn,ht,he,hl=>by
  have ea:asgN n (enc x) (ρ++List.replicate 1 none)=some (ρ++[some (enc x,dv (enc x))]):=by
   unfold asgN
   rw [if_pos (by rw [List.length_append,hn];simp),List.set_append_right _ _ (by omega),hn]
   simp
  have ih:=fun acc h=>compL_map (n:=n) (test:=test) (elt:=elt) (p:=p) (q:=q) (e:=e) (enc:=enc) xs ρ acc hn (fun y hy=>ht y (List.mem_cons_of_mem _ hy)) (fun y hy=>he y (List.mem_cons_of_mem _ hy)) h
  have tk:(ρ++[some (enc x,dv (enc x))]).take ρ.length=ρ:=by simp
  rw [List.length_cons] at hl
  rw [List.map_cons]
  unfold compL
  rw [ea]
  dsimp only
  rw [ht x List.mem_cons_self]
  dsimp only [Rz.bindN]
  cases hp:p x with
  | false=>
   rw [if_neg Bool.false_ne_true,tk,ih acc (by omega),List.filter_cons_of_neg (by simp [hp])]
  | true=>
   rw [if_pos rfl,he x List.mem_cons_self hp]
   dsimp only
   rw [if_pos (by omega),tk,ih _ (by rw [List.length_append,List.length_singleton];omega),List.filter_cons_of_pos hp]
   simp
theorem allOm_map {α:Type} (q:α→PV):∀ xs:List α,allOm (xs.map fun x=>(q x,om))=true
 | []=>rfl
 | x::xs=>by rw [List.map_cons];unfold allOm;rw [allOm_map q xs];rfl
theorem compS_ok {α:Type}{n:Nat}{f elt:Fx}{enc q:α→PV}{ρ ρ1:Rho}{d:Nat} (xs:List α) (hf:f ρ=.ok (.lst (xs.map enc),d,ρ1)) (hn:ρ1.length=n) (he:∀ x∈xs,elt (ρ1++[some (enc x,dv (enc x))])=.ok (q x,om,ρ1++[some (enc x,dv (enc x))])) (hl:xs.length≤sizeLine):
  bCompS f 1 (asgN n) tTrue elt ρ=.ok (.lst (xs.map q),om,ρ1):=by
 unfold bCompS
 rw [hf]
 dsimp only
 rw [compL_map (p:=fun _=>true) (q:=q) (e:=fun _=>om) xs ρ1 [] hn (fun _ _=>rfl) (fun x hx _=>he x hx) (by simpa using hl),List.filter_eq_self.mpr (fun _ _=>rfl)]
 show lstOf (xs.map fun x=>(q x,om)) ρ1=_
 unfold lstOf
 rw [allOm_map,List.map_map]
 rfl
theorem compT_ok {α:Type}{n:Nat}{f elt:Fx}{enc q:α→PV}{ρ ρ1:Rho}{d:Nat} (xs:List α) (hf:f ρ=.ok (.tup (xs.map enc),d,ρ1)) (hn:ρ1.length=n) (he:∀ x∈xs,elt (ρ1++[some (enc x,dv (enc x))])=.ok (q x,om,ρ1++[some (enc x,dv (enc x))])) (hl:xs.length≤sizeLine):
  bCompS f 1 (asgN n) tTrue elt ρ=.ok (.lst (xs.map q),om,ρ1):=by
 unfold bCompS
 rw [hf]
 dsimp only
 rw [compL_map (p:=fun _=>true) (q:=q) (e:=fun _=>om) xs ρ1 [] hn (fun _ _=>rfl) (fun x hx _=>he x hx) (by simpa using hl),List.filter_eq_self.mpr (fun _ _=>rfl)]
 show lstOf (xs.map fun x=>(q x,om)) ρ1=_
 unfold lstOf
 rw [allOm_map,List.map_map]
 rfl
theorem compF_ok {α:Type}{n:Nat}{f elt:Fx}{test:Fb}{enc q:α→PV}{p:α→Bool}{ρ ρ1:Rho}{d:Nat} (xs:List α) (hf:f ρ=.ok (.lst (xs.map enc),d,ρ1)) (hn:ρ1.length=n) (ht:∀ x∈xs,test (ρ1++[some (enc x,dv (enc x))])=.ok (p x,ρ1++[some (enc x,dv (enc x))])) (he:∀ x∈xs,p x=true→elt (ρ1++[some (enc x,dv (enc x))])=.ok (q x,om,ρ1++[some (enc x,dv (enc x))])) (hl:xs.length≤sizeLine):
  bCompS f 1 (asgN n) test elt ρ=.ok (.lst ((xs.filter p).map q),om,ρ1):=by
 unfold bCompS
 rw [hf]
 dsimp only
 rw [compL_map (p:=p) (q:=q) (e:=fun _=>om) xs ρ1 [] hn ht he (by simpa using hl)]
 show lstOf ((xs.filter p).map fun x=>(q x,om)) ρ1=_
 unfold lstOf
 rw [allOm_map,List.map_map]
 rfl
theorem rangeL_eq (lo:Int) (n:Nat):rangeL lo n=(List.range n).map fun (k:Nat)=>PV.int (lo + (k:Int)):=rfl
theorem compR_ok {n:Nat}{en:List (PV×Nat)→Option (Int×Int)}{fa:Fa}{elt:Fx}{q:Nat→PV}{ρ ρ1:Rho}{as:List (PV×Nat)}{lo hi:Int} (hf:fa ρ=.ok (as,ρ1)) (hen:en as=some (lo,hi)) (hn:ρ1.length=n) (he:∀ k,k < (hi - lo).toNat→elt (ρ1++[some (.int (lo + (k:Int)),om)])=.ok (q k,om,ρ1++[some (.int (lo + (k:Int)),om)])) (hl:(hi - lo).toNat≤sizeLine):
  bCompR en fa 1 (asgN n) tTrue elt ρ=.ok (.lst ((List.range (hi - lo).toNat).map q),om,ρ1):=by
 unfold bCompR
 rw [hf]
 dsimp only
 rw [hen]
 dsimp only
 rw [rangeL_eq,compL_map (enc:=fun (k:Nat)=>PV.int (lo + (k:Int))) (p:=fun _=>true) (q:=q) (e:=fun _=>om) (List.range (hi - lo).toNat) ρ1 [] hn (fun _ _=>rfl) (fun x hx _=>he x (List.mem_range.mp hx)) (by simpa using hl),List.filter_eq_self.mpr (fun _ _=>rfl)]
 show lstOf ((List.range (hi - lo).toNat).map fun x=>(q x,om)) ρ1=_
 unfold lstOf
 rw [allOm_map,List.map_map]
 rfl
theorem allB_map {α:Type} (g:α→Bool) (xs:List α):QQ.allB (xs.map fun x=>.bl (g x))=some (xs.map g):=by
 induction xs with
 | nil=>rfl
 | cons x r ih=>rw [List.map_cons,List.map_cons,QQ.allB,ih];rfl
theorem all_ok {α:Type}{f:Fx}{ρ ρ1:Rho}{d:Nat}{g:α→Bool}{xs:List α} (h:f ρ=.ok (.lst (xs.map fun x=>.bl (g x)),d,ρ1)):bArgs opAll (aCons f aNil) ρ=.ok (.bl (xs.all g),om,ρ1):=by
 refine args_ok (one_ok h) ?_
 show (QQ.allB _).map _=_
 rw [allB_map]
 simp
theorem loop_inv {i:Nat}{body:Fs}{lo:Int} (I:Nat→Rho→Prop):∀ (m k:Nat) (ρ:Rho),I k ρ→(∀ j ρ,k≤j→j < k + m→I j ρ→i < ρ.length∧∃ ρ2,body (ρ.set i (some (.int (lo + (j:Int)),om)))=.nx ρ2∧I (j + 1) ρ2) →
  ∃ ρ',loopS (asgN i) body ((List.range' k m).map fun (k:Nat)=>PV.int (lo + (k:Int))) ρ=.nx ρ'∧I (k + m) ρ'
 | 0,k,ρ,hi,_=>⟨ρ,rfl,hi⟩
 | m + 1,k,ρ,hi,hb=>by
  obtain ⟨h1,ρ2,e2,h2⟩:=hb k ρ (Nat.le_refl _) (by omega) hi
  obtain ⟨ρ',e',h'⟩:=loop_inv (i:=i) (body:=body) (lo:=lo) I m (k + 1) ρ2 h2 fun j ρ a b=>hb j ρ (by omega) (by omega)
  refine ⟨ρ',?_,by rw [show k + (m + 1)=k + 1 + m by omega];exact h'⟩
  rw [List.range'_succ,List.map_cons]
  unfold loopS
  have:asgN i (PV.int (lo + (k:Int))) ρ=some (ρ.set i (some (.int (lo + (k:Int)),om))):=by
   unfold asgN
   rw [if_pos h1];rfl
  rw [this]
  dsimp only
  rw [e2]
  exact e'
theorem forR_inv {i:Nat}{body:Fs}{en:List (PV×Nat)→Option (Int×Int)}{fa:Fa}{ρ ρ1:Rho}{as:List (PV×Nat)}{lo hi:Int} (I:Nat→Rho→Prop) (hf:fa ρ=.ok (as,ρ1)) (hen:en as=some (lo,hi)) (h0:I 0 ρ1)
  (hb:∀ j ρ,j < (hi - lo).toNat→I j ρ→i < ρ.length∧∃ ρ2,body (ρ.set i (some (.int (lo + (j:Int)),om)))=.nx ρ2∧I (j + 1) ρ2):∃ ρ',sForR en fa (asgN i) body ρ=.nx ρ'∧I (hi - lo).toNat ρ':=by
 obtain ⟨ρ',e,h⟩:=loop_inv (i:=i) (body:=body) (lo:=lo) I (hi - lo).toNat 0 ρ1 h0 fun j ρ _ h hi=>hb j ρ (by omega) hi
 refine ⟨ρ',?_,by rw [Nat.zero_add] at h;exact h⟩
 unfold sForR
 rw [hf]
 dsimp only
 rw [hen]
 dsimp only
 rw [rangeL_eq,List.range_eq_range']
 exact e
theorem ends1_ok {j:Int}{d:Nat} (h1:-(2 ^ 62)≤j) (h2:j < 2 ^ 62):ends1 [(.int j,d)]=some (0,j):=by
 show (if -(2 ^ 62)≤j∧j < 2 ^ 62 then some ((0:Int),j) else none)=_
 rw [if_pos ⟨h1,h2⟩]
theorem ends2_ok {i j:Int}{d e:Nat} (h1:-(2 ^ 62)≤i) (h2:i < 2 ^ 62) (h3:-(2 ^ 62)≤j) (h4:j < 2 ^ 62):ends2 [(.int i,d),(.int j,e)]=some (i,j):=by
 show (if -(2 ^ 62)≤i∧i < 2 ^ 62∧-(2 ^ 62)≤j∧j < 2 ^ 62 then some (i,j) else none)=_
 rw [if_pos ⟨h1,h2,h3,h4⟩]
theorem fn_rt {np k:Nat}{b:Fs}{xs:List PV}{ρ':Rho}{y:PV}{d:Nat} (hl:xs.length=np) (h:b (xs.map (fun x=>some (x,dv x))++List.replicate k none)=.rt y d ρ'):mkFn false np k b xs=.ok (y,d,.non):=by
 unfold mkFn
 rw [if_pos hl]
 have:slots0 false xs=xs.map fun x=>some (x,dv x):=rfl
 rw [this,h]
 rfl
theorem fn_nx {np k:Nat}{b:Fs}{xs:List PV}{ρ':Rho} (hl:xs.length=np) (h:b (xs.map (fun x=>some (x,dv x))++List.replicate k none)=.nx ρ'):mkFn false np k b xs=.ok (.non,om,.non):=by
 unfold mkFn
 rw [if_pos hl]
 have:slots0 false xs=xs.map fun x=>some (x,dv x):=rfl
 rw [this,h]
 rfl
open PySem PySem.Spec PyProof.Rows L2 QQ
def Xf_is_whole_number:Fs:=(sRet (bAndV (bUn (opIsi "int") (bVar 0)) (bUn opNot (bUn (opIsi "bool") (bVar 0)))))
def f_is_whole_number:Fn:=mkFn false 1 0 Xf_is_whole_number
def Xf_is_box:Fs:=(sSeq (sIf (bT (bOrV (bUn opNot (bUn (opIsi "tuple") (bVar 0))) (bBin (opEq true) (bArgs opLen (aCons (bVar 0) (aNil))) (bC (.int 3))))) (sRet (bC (.bl false))) sNil)
 (sRet (bArgs opAll (aCons (bCompS (bVar 0) 1 (asgN 1) tTrue (bAndV (bCall f_is_whole_number (aCons (bVar 1) (aNil))) (bBin (opCmp fun i j=>decide (j≤i)) (bVar 1) (bC (.int 1))))) (aNil)))))
def f_is_box:Fn:=mkFn false 1 0 Xf_is_box
def Xf_must_be_box:Fs:=(sIf (bT (bUn opNot (bCall f_is_box (aCons (bVar 0) (aNil))))) (sExc 1) sNil)
def f_must_be_box:Fn:=mkFn false 1 0 Xf_must_be_box
def Xf_is_row_of_heights:Fs:=(sSeq (sIf (bT (bOrV (bUn opNot (bUn (opIsi "list") (bVar 0))) (bBin (opEq true) (bArgs opLen (aCons (bVar 0) (aNil))) (bVar 1)))) (sRet (bC (.bl false))) sNil)
 (sRet (bArgs opAll (aCons (bCompS (bVar 0) 1 (asgN 3) tTrue (bAndV (bCall f_is_whole_number (aCons (bVar 3) (aNil))) (bChain (fun i j=>decide (i≤j)) (fun i j=>decide (i≤j)) (bC (.int 0)) (bVar 3) (bVar 2)))) (aNil)))))
def f_is_row_of_heights:Fn:=mkFn false 3 0 Xf_is_row_of_heights
def Xf_never_rises:Fs:=(sRet (bArgs opAll (aCons (bCompR ends2 (aCons (bC (.int 1)) (aCons (bArgs opLen (aCons (bVar 0) (aNil))) (aNil))) 1 (asgN 1) tTrue (bBin (opCmp fun i j=>decide (i≤j)) (bBin opIdx (bVar 0) (bVar 1)) (bBin opIdx (bVar 0) (bBin opSub (bVar 1) (bC (.int 1)))))) (aNil))))
def f_never_rises:Fn:=mkFn false 1 0 Xf_never_rises
def Xf_column_of:Fs:=(sRet (bCompS (bVar 0) 1 (asgN 2) tTrue (bBin opIdx (bVar 2) (bVar 1))))
def f_column_of:Fn:=mkFn false 2 0 Xf_column_of
def Xf_is_pile:Fs:=(sSeq (sDrop (bCall f_must_be_box (aCons (bVar 0) (aNil))))
 (sSeq (sUnp (asgT [2,3,4]) (bVar 0) [0])
 (sSeq (sIf (bT (bOrV (bUn opNot (bUn (opIsi "list") (bVar 1))) (bBin (opEq true) (bArgs opLen (aCons (bVar 1) (aNil))) (bVar 2)))) (sRet (bC (.bl false))) sNil)
 (sSeq (sIf (bT (bUn opNot (bArgs opAll (aCons (bCompS (bVar 1) 1 (asgN 5) tTrue (bCall f_is_row_of_heights (aCons (bVar 5) (aCons (bVar 3) (aCons (bVar 4) (aNil)))))) (aNil))))) (sRet (bC (.bl false))) sNil)
 (sSeq (sIf (bT (bUn opNot (bArgs opAll (aCons (bCompS (bVar 1) 1 (asgN 5) tTrue (bCall f_never_rises (aCons (bVar 5) (aNil)))) (aNil))))) (sRet (bC (.bl false))) sNil)
 (sRet (bArgs opAll (aCons (bCompR ends1 (aCons (bVar 3) (aNil)) 1 (asgN 5) tTrue (bCall f_never_rises (aCons (bCall f_column_of (aCons (bVar 1) (aCons (bVar 5) (aNil)))) (aNil)))) (aNil)))))))))
def f_is_pile:Fn:=mkFn false 2 3 Xf_is_pile
def Xf_must_be_pile:Fs:=(sIf (bT (bUn opNot (bCall f_is_pile (aCons (bVar 0) (aCons (bVar 1) (aNil)))))) (sExc 2) sNil)
def f_must_be_pile:Fn:=mkFn false 2 0 Xf_must_be_pile
def Xf_how_many_above:Fs:=(sRet (bArgs opLen (aCons (bCompS (bVar 0) 1 (asgN 2) (bT (bBin (opCmp fun i j=>decide (j < i)) (bVar 2) (bVar 1))) (bVar 2)) (aNil))))
def f_how_many_above:Fn:=mkFn false 2 0 Xf_how_many_above
open PySem PySem.Spec PyProof.Rows L2 QQ
def Xf_how_many_cubes:Fs:=(sSeq (sDrop (bCall f_must_be_pile (aCons (bVar 0) (aCons (bVar 1) (aNil)))))
 (sRet (bArgs opSum (aCons (bCompS (bVar 1) 1 (asgN 2) tTrue (bArgs opSum (aCons (bVar 2) (aNil)))) (aNil)))))
def f_how_many_cubes:Fn:=mkFn false 2 0 Xf_how_many_cubes
def Xa_pool:Fs:=(sSeq (sSet false 2 (bC (.int 0)) [])
 (sSeq (sIf (bT (bBin (opCmp fun i j=>decide (i < j)) (bVar 1) (bArgs opLen (aCons (bVar 0) (aNil))))) (sSet false 2 (bBin opIdx (bVar 0) (bVar 1)) [0,1]) sNil)
 (sSeq (sIf (bT (bBin (opCmp fun i j=>decide (j≤i)) (bVar 2) (bBin opPow (bC (.int 10)) (bC (.int 18))))) (sRet (bArgs opLst (aCons (bBin opSub (bVar 2) (bBin opPow (bC (.int 10)) (bC (.int 18)))) (aCons (bC (.int 1)) (aCons (bC (.int 0)) (aNil)))))) sNil)
 (sRet (bArgs opLst (aCons (bVar 2) (aCons (bC (.int 0)) (aCons (bBin opMul (bC (.int 29)) (bVar 1)) (aNil)))))))))
def a_pool:Fn:=mkFn false 2 1 Xa_pool
def Xa_take:Fs:=(sSeq (sIf (bT (bBin (opEq false) (bMs 0 1) (bC (.int 1)))) (sSeq (sSet false 2 (bBin opMod (bMs 0 0) (bVar 1)) [1])
 (sSeq (sPut 0 0 (bBin opFdiv (bMs 0 0) (bVar 1)))
 (sRetV 2))) sNil)
 (sSeq (sPut 0 2 (bBin opAdd (bMs 0 2) (bC (.int 1))))
 (sSeq (sSet false 3 (bMs 0 2) [])
 (sSeq (sSet false 4 (bBin opMul (bBin opAdd (bBin opMod (bMs 0 0) (bC (.int 9999999631))) (bC (.int 967))) (bBin opAdd (bBin opMul (bC (.int 19)) (bVar 3)) (bC (.int 47)))) [3])
 (sSeq (sSet false 4 (bBin opAdd (bVar 4) (bBin opMul (bBin opMul (bC (.int 3457)) (bVar 3)) (bVar 3))) [4,3,3])
 (sSeq (sSet false 4 (bBin opMod (bBin opMul (bVar 4) (bVar 4)) (bC (.int 99999999673))) [4,4])
 (sRet (bBin opMod (bBin opFdiv (bBin opMod (bBin opMul (bVar 4) (bBin opAdd (bVar 4) (bC (.int 31)))) (bC (.int 99999999941))) (bC (.int 79))) (bVar 1)))))))))
def a_take:Fn:=mkFn true 2 3 Xa_take
def Xa_box:Fs:=(sRet (bArgs opTupC (aCons (bCompR ends1 (aCons (bC (.int 3)) (aNil)) 1 (asgN 2) tTrue (bBin opAdd (bC (.int 1)) (bBin opIdx (bArgs opLst (aCons (bCallIO a_take 0 (aCons (bC (.int 3)) (aNil))) (aCons (bCallIO a_take 0 (aCons (bVar 1) (aNil))) (aNil)))) (bCallIO a_take 0 (aCons (bC (.int 2)) (aNil)))))) (aNil))))
def a_box:Fn:=mkFn true 2 0 Xa_box
def Xa_pile:Fs:=(sSeq (sUnp (asgT [2,3,4]) (bVar 1) [1])
 (sSeq (sSet false 5 (bCallIO a_take 0 (aCons (bC (.int 8)) (aNil))) [])
 (sSeq (sSet false 6 (bArgs opLst (aNil)) [])
 (sSeq (sForR ends1 (aCons (bVar 2) (aNil)) (asgN 7) (sSeq (sSet false 8 (bArgs opLst (aNil)) [])
 (sSeq (sForR ends1 (aCons (bVar 3) (aNil)) (asgN 9) (sSeq (sSet false 10 (bArgs opMin (aCons (bBin opAdd (bBin opAdd (bArgs opLst (aCons (bVar 4) (aNil))) (bSl (bVar 8) (some (bUn opNeg (bC (.int 1)))) none)) (bCompS (bSl (bVar 6) (some (bUn opNeg (bC (.int 1)))) none) 1 (asgN 12) tTrue (bBin opIdx (bVar 12) (bVar 9)))) (aNil))) [4,8,6,6,9])
 (sSeq (sSet false 11 (bArgs opLst (aCons (bArgs opMax (aCons (bC (.int 0)) (aCons (bBin opSub (bVar 10) (bCallIO a_take 0 (aCons (bC (.int 2)) (aNil)))) (aNil)))) (aCons (bCallIO a_take 0 (aCons (bBin opAdd (bVar 10) (bC (.int 1))) (aNil))) (aCons (bVar 10) (aNil))))) [10,10,10])
 (sApp 8 (bBin opIdx (bBin opAdd (bArgs opLst (aCons (bC (.int 0)) (aCons (bVar 4) (aNil)))) (bBin opMul (bArgs opLst (aCons (bBin opIdx (bVar 11) (bCallIO a_take 0 (aCons (bC (.int 3)) (aNil)))) (aNil))) (bC (.int 6)))) (bVar 5)) [4,11,5]))))
 (sApp 6 (bVar 8) [8]))))
 (sRetV 6)))))
def a_pile:Fn:=mkFn true 2 10 Xa_pile
open PySem PySem.Spec PyProof.Rows L2 QQ
def Xa_is_pile:Fs:=(sSeq (sIf (bT (bOrV (bUn opNot (bUn (opIsi "list") (bVar 1))) (bBin (opEq true) (bArgs opLen (aCons (bVar 1) (aNil))) (bBin opIdx (bVar 0) (bC (.int 0)))))) (sRet (bC (.bl false))) sNil)
 (sSeq (sForQ 1 [2] (asgN 2) (sSeq (sIf (bT (bOrV (bUn opNot (bUn (opIsi "list") (bVar 2))) (bBin (opEq true) (bArgs opLen (aCons (bVar 2) (aNil))) (bBin opIdx (bVar 0) (bC (.int 1)))))) (sRet (bC (.bl false))) sNil)
 (sIf (bT (bBin (opEq true) (bCompS (bVar 2) 1 (asgN 6) (bT (bOrV (bUn opNot (bUn (opIsi "int") (bVar 6))) (bUn (opIsi "bool") (bVar 6)))) (bVar 6)) (bArgs opLst (aNil)))) (sRet (bC (.bl false))) sNil)))
 (sSeq (sForR ends1 (aCons (bBin opIdx (bVar 0) (bC (.int 0))) (aNil)) (asgN 3) (sForR ends1 (aCons (bBin opIdx (bVar 0) (bC (.int 1))) (aNil)) (asgN 4) (sSeq (sSet false 5 (bBin opIdx (bVar 0) (bC (.int 2))) [0])
 (sSeq (sIf (bT (bBin (opCmp fun i j=>decide (j < i)) (bVar 3) (bC (.int 0)))) (sSet false 5 (bArgs opMin (aCons (bVar 5) (aCons (bBin opIdx (bBin opIdx (bVar 1) (bBin opSub (bVar 3) (bC (.int 1)))) (bVar 4)) (aNil)))) [5,1,3,4]) sNil)
 (sSeq (sIf (bT (bBin (opCmp fun i j=>decide (j < i)) (bVar 4) (bC (.int 0)))) (sSet false 5 (bArgs opMin (aCons (bVar 5) (aCons (bBin opIdx (bBin opIdx (bVar 1) (bVar 3)) (bBin opSub (bVar 4) (bC (.int 1)))) (aNil)))) [5,1,3,4]) sNil)
 (sIf (bT (bOrV (bBin (opCmp fun i j=>decide (i < j)) (bBin opIdx (bBin opIdx (bVar 1) (bVar 3)) (bVar 4)) (bC (.int 0))) (bBin (opCmp fun i j=>decide (j < i)) (bBin opIdx (bBin opIdx (bVar 1) (bVar 3)) (bVar 4)) (bVar 5)))) (sRet (bC (.bl false))) sNil))))))
 (sRet (bC (.bl true))))))
def a_is_pile:Fn:=mkFn false 2 4 Xa_is_pile
open PySem PySem.Spec PyProof.Rows L2 QQ
theorem sz:(1000000:Nat)≤sizeLine:=by decide
theorem whole_ok (i:Int):f_is_whole_number [.int i]=.ok (.bl true,om,.non):=by kernel_rfl
def boxB (a b c:Int):Bool:=decide (1≤a) && (decide (1≤b) && decide (1≤c))
theorem is_box_ok (a b c:Int):f_is_box [bx a b c]=.ok (.bl (boxB a b c),om,.non):=by
 have e0:∀ x∈[a,b,c],(bAndV (bCall f_is_whole_number (aCons (bVar 1) (aNil))) (bBin (opCmp fun i j=>decide (j≤i)) (bVar 1) (bC (.int 1)))) ([some (bx a b c,0)]++[some (.int x,om)])=.ok (.bl (decide (1≤x)),om,[some (bx a b c,0)]++[some (.int x,om)]):=fun x _=>by kernel_rfl
 have e1:=compT_ok (n:=1) (f:=bVar 0) (ρ:=[some (bx a b c,0)]) (enc:=PV.int) (q:=fun x=>.bl (decide (1≤x))) (d:=0) [a,b,c] rfl rfl e0 (by have:=sz;show 3≤sizeLine;omega)
 refine fn_rt rfl (ρ':=[some (bx a b c,0)]) ?_
 show Xf_is_box [some (bx a b c,0)]=_
 refine (seq_f (ρ1:=[some (bx a b c,0)]) (by kernel_rfl)).trans (ret_ok ?_)
 rw [all_ok e1]
 show Rz.ok (PV.bl (decide (1≤a) && (decide (1≤b) && (decide (1≤c) && true))),om,_)=_
 rw [Bool.and_true]
 rfl
theorem must_box_ok {a b c:Int} (h:boxB a b c=true):f_must_be_box [bx a b c]=.ok (.non,om,.non):=by
 refine fn_nx rfl (ρ':=[some (bx a b c,0)]) ?_
 have hb:=is_box_ok a b c
 rw [h] at hb
 exact if_f (f:=sExc 1) (g:=sNil) (t_ok (not_ok (call_ok (F:=f_is_box) (fa:=aCons (bVar 0) aNil) (ρ:=[some (bx a b c,0)]) (xs:=[(bx a b c,0)]) rfl hb)))
def rowB (xs:List Int) (c h:Int):Bool:=decide ((xs.length:Int)=c) && xs.all fun x=>decide (0≤x) && decide (x≤h)
theorem row_ok (xs:List Int) (c h:Int) (hl:xs.length≤1000):f_is_row_of_heights [il xs,.int c,.int h]=.ok (.bl (rowB xs c h),om,.non):=by
 have e0:∀ x∈xs,(bAndV (bCall f_is_whole_number (aCons (bVar 3) (aNil))) (bChain (fun i j=>decide (i≤j)) (fun i j=>decide (i≤j)) (bC (.int 0)) (bVar 3) (bVar 2))) ([some (il xs,0),some (.int c,om),some (.int h,om)]++[some (.int x,om)])=.ok (.bl (decide (0≤x) && decide (x≤h)),om,[some (il xs,0),some (.int c,om),some (.int h,om)]++[some (.int x,om)]):=fun x _=>
  and_ok (a:=true) (call_ok (xs:=[(.int x,om)]) rfl (whole_ok x)) (fun _=>chain_ok (i:=0) (j:=x) (k:=h) rfl rfl rfl) rfl
 have e1:=compS_ok (n:=3) (f:=bVar 0) (ρ:=[some (il xs,0),some (.int c,om),some (.int h,om)]) (enc:=PV.int) (q:=fun x=>.bl (decide (0≤x) && decide (x≤h))) (d:=0) xs rfl rfl e0 (by have:=sz;omega)
 have t:bT (bOrV (bUn opNot (bUn (opIsi "list") (bVar 0))) (bBin (opEq true) (bArgs opLen (aCons (bVar 0) (aNil))) (bVar 1))) [some (il xs,0),some (.int c,om),some (.int h,om)]=.ok (!decide ((xs.length:Int)=c),[some (il xs,0),some (.int c,om),some (.int h,om)]):=by
  refine t_ok (d:=om) ((or_ok (a:=false) rfl (fun _=>eq_ok (len_il (xs:=xs) (d:=0) rfl) (j:=c) rfl) rfl).trans ?_)
  rw [Bool.false_or,Bool.true_xor]
 refine fn_rt rfl (ρ':=[some (il xs,0),some (.int c,om),some (.int h,om)]) ?_
 show Xf_is_row_of_heights [some (il xs,0),some (.int c,om),some (.int h,om)]=_
 unfold rowB
 by_cases hc:(xs.length:Int)=c
 ·rw [decide_eq_true hc] at t ⊢
  refine (seq_f t).trans (ret_ok ?_)
  rw [all_ok e1]
  rfl
 ·rw [decide_eq_false hc] at t ⊢
  exact seq_rt ((if_t t).trans rfl)
def nrB (xs:List Int):Bool:=(List.range ((xs.length:Int) - 1).toNat).all fun k=>decide (xs.getD (k + 1) 0≤xs.getD k 0)
theorem never_ok (xs:List Int) (hl:xs.length≤1000):f_never_rises [il xs]=.ok (.bl (nrB xs),om,.non):=by
 have e0:∀ k,k < ((xs.length:Int) - 1).toNat→(bBin (opCmp fun i j=>decide (i≤j)) (bBin opIdx (bVar 0) (bVar 1)) (bBin opIdx (bVar 0) (bBin opSub (bVar 1) (bC (.int 1))))) ([some (il xs,0)]++[some (.int (1 + (k:Int)),om)])=.ok (.bl (decide (xs.getD (k + 1) 0≤xs.getD k 0)),om,[some (il xs,0)]++[some (.int (1 + (k:Int)),om)]):=fun k hk=>by
  refine cmp_ok (i:=xs.getD (k + 1) 0) (j:=xs.getD k 0) (idx_il (xs:=xs) (k:=1 + (k:Int)) rfl rfl (atI_nat (by omega) ?_)) (idx_il (xs:=xs) (k:=1 + (k:Int) - 1) rfl rfl (atI_nat (by omega) ?_))
  ·rw [show (1 + (k:Int)).toNat=k + 1 by omega,List.getElem?_eq_getElem (show k + 1 < xs.length by omega),List.getD_eq_getElem?_getD,List.getElem?_eq_getElem (show k + 1 < xs.length by omega)];rfl
  ·rw [show (1 + (k:Int) - 1).toNat=k by omega,List.getElem?_eq_getElem (show k < xs.length by omega),List.getD_eq_getElem?_getD,List.getElem?_eq_getElem (show k < xs.length by omega)];rfl
 have e1:=compR_ok (n:=1) (en:=ends2) (ρ:=[some (il xs,0)]) (q:=fun k=>.bl (decide (xs.getD (k + 1) 0≤xs.getD k 0))) (cons_ok (f:=bC (.int 1)) (d:=om) (x:=.int 1) rfl (one_ok (len_il (fa:=aCons (bVar 0) aNil) (xs:=xs) (d:=0) rfl))) (ends2_ok (by decide) (by decide) (by omega) (by omega)) rfl e0 (by have:=sz;omega)
 exact fn_rt rfl (ρ':=[some (il xs,0)]) (ret_ok (all_ok e1))
def colOf (t:List (List Int)) (j:Nat):List Int:=t.map fun r=>r.getD j 0
theorem getD_get {xs:List Int}{j:Nat} (h:j < xs.length):xs[j]?=some (xs.getD j 0):=by
 rw [List.getD_eq_getElem?_getD,List.getElem?_eq_getElem h];rfl
theorem getDl_get {xs:List (List Int)}{j:Nat} (h:j < xs.length):xs[j]?=some (xs.getD j []):=by
 rw [List.getD_eq_getElem?_getD,List.getElem?_eq_getElem h];rfl
theorem column_ok (t:List (List Int)) (j:Nat) (hl:t.length≤1000) (hr:∀ r∈t,j < r.length):f_column_of [tb t,.int (j:Int)]=.ok (il (colOf t j),om,.non):=by
 have e0:∀ r∈t,(bBin opIdx (bVar 2) (bVar 1)) ([some (tb t,0),some (.int (j:Int),om)]++[some (il r,0)])=.ok (.int (r.getD j 0),om,[some (tb t,0),some (.int (j:Int),om)]++[some (il r,0)]):=fun r hm=>
  idx_il (xs:=r) (k:=(j:Int)) rfl rfl (atI_nat (by omega) (getD_get (hr r hm)))
 have e1:=compS_ok (n:=2) (f:=bVar 0) (ρ:=[some (tb t,0),some (.int (j:Int),om)]) (enc:=il) (q:=fun r=>.int (r.getD j 0)) (d:=0) t rfl rfl e0 (by have:=sz;omega)
 refine fn_rt rfl (ρ':=[some (tb t,0),some (.int (j:Int),om)]) ((ret_ok e1).trans ?_)
 unfold colOf il
 rw [List.map_map]
 rfl
def Tab (a b:Nat) (t:List (List Int)):Prop:=t.length=a∧∀ r∈t,r.length=b
def pileB (a b:Nat) (c:Int) (t:List (List Int)):Bool:=(t.all fun r=>rowB r b c) && ((t.all nrB) && ((List.range b).all fun j=>nrB (colOf t j)))
theorem is_pile_ok {a b:Nat}{c:Int}{t:List (List Int)} (ht:Tab a b t) (ha:1≤a∧a≤100) (hb:1≤b∧b≤100) (hc:1≤c):f_is_pile [bx a b c,tb t]=.ok (.bl (pileB a b c t),om,.non):=by
 let R0:Rho:=[some (bx a b c,0),some (tb t,0),none,none,none]
 let R1:Rho:=[some (bx a b c,0),some (tb t,0),some (.int a,om),some (.int b,om),some (.int c,om)]
 have hbx:boxB a b c=true:=by unfold boxB;rw [decide_eq_true (by omega),decide_eq_true (by omega),decide_eq_true hc];rfl
 have hs:=sz
 have l1:=ht.1
 have s1:sDrop (bCall f_must_be_box (aCons (bVar 0) (aNil))) R0=.nx R0:=drop_ok (call_ok (xs:=[(bx a b c,0)]) rfl (must_box_ok hbx))
 have s2:sUnp (asgT [2,3,4]) (bVar 0) [0] R0=.nx R1:=by kernel_rfl
 have t3:bT (bOrV (bUn opNot (bUn (opIsi "list") (bVar 1))) (bBin (opEq true) (bArgs opLen (aCons (bVar 1) (aNil))) (bVar 2))) R1=.ok (false,R1):=by
  refine t_ok (d:=om) ((or_ok (a:=false) rfl (fun _=>eq_ok (len_tb (t:=t) (d:=0) rfl) (j:=(a:Int)) rfl) rfl).trans ?_)
  rw [l1];simp
 have e4:∀ r∈t,(bCall f_is_row_of_heights (aCons (bVar 5) (aCons (bVar 3) (aCons (bVar 4) (aNil))))) (R1++[some (il r,0)])=.ok (.bl (rowB r b c),om,R1++[some (il r,0)]):=fun r hr=>
  call_ok (xs:=[(il r,0),(.int b,om),(.int c,om)]) rfl (row_ok r b c (by rw [ht.2 r hr];omega))
 have t4:=t_ok (not_ok (all_ok (compS_ok (n:=5) (f:=bVar 1) (ρ:=R1) (enc:=il) (q:=fun r=>.bl (rowB r b c)) (d:=0) t rfl rfl e4 (by omega))))
 have e5:∀ r∈t,(bCall f_never_rises (aCons (bVar 5) (aNil))) (R1++[some (il r,0)])=.ok (.bl (nrB r),om,R1++[some (il r,0)]):=fun r hr=>
  call_ok (xs:=[(il r,0)]) rfl (never_ok r (by rw [ht.2 r hr];omega))
 have t5:=t_ok (not_ok (all_ok (compS_ok (n:=5) (f:=bVar 1) (ρ:=R1) (enc:=il) (q:=fun r=>.bl (nrB r)) (d:=0) t rfl rfl e5 (by omega))))
 have e6:∀ k,k < ((b:Int) - 0).toNat→(bCall f_never_rises (aCons (bCall f_column_of (aCons (bVar 1) (aCons (bVar 5) (aNil)))) (aNil))) (R1++[some (.int (0 + (k:Int)),om)])=.ok (.bl (nrB (colOf t k)),om,R1++[some (.int (0 + (k:Int)),om)]):=fun k hk=>by
  have e:=column_ok t k (by omega) fun r hr=>by rw [ht.2 r hr];omega
  rw [Int.zero_add]
  exact call_ok (xs:=[(il (colOf t k),om)]) (one_ok (call_ok (xs:=[(tb t,0),(.int (k:Int),om)]) rfl e)) (never_ok _ (by unfold colOf;rw [List.length_map];omega))
 have e7:=compR_ok (n:=5) (en:=ends1) (fa:=aCons (bVar 3) aNil) (ρ:=R1) (q:=fun k=>.bl (nrB (colOf t k))) (as:=[(.int (b:Int),om)]) rfl (ends1_ok (by omega) (by omega)) rfl e6 (by omega)
 rw [show ((b:Int) - 0).toNat=b by omega] at e7
 refine fn_rt rfl (ρ':=R1) ?_
 show Xf_is_pile R0=_
 unfold pileB
 refine (seq_nx s1).trans ((seq_nx s2).trans ((seq_f t3).trans ?_))
 cases h1:t.all fun r=>rowB r b c with
 | false=>
  rw [h1] at t4
  exact seq_rt ((if_t t4).trans rfl)
 | true=>
  rw [h1] at t4
  refine (seq_f t4).trans ?_
  cases h2:t.all nrB with
  | false=>
   have h2':t.all (fun r=>nrB r)=false:=h2
   rw [h2'] at t5
   exact seq_rt ((if_t t5).trans rfl)
  | true=>
   have h2':t.all (fun r=>nrB r)=true:=h2
   rw [h2'] at t5
   exact (seq_f t5).trans (ret_ok (all_ok e7))
open PySem PySem.Spec PyProof.Rows L2 QQ
theorem tb_snoc (t:List (List Int)) (r:List Int):PV.lst ((t.map il)++[il r])=tb (t++[r]):=by
 unfold tb
 rw [List.map_append]
 rfl
open PySem PySem.Spec PyProof.Rows L2 QQ
def okE:Nat→PV→Bool
 | 0,_=>false
 | n + 1,x=>match x with
  | .lst xs=>decide (xs.length≤1000) && xs.all (okE n)
  | .tup xs=>decide (xs.length≤1000) && xs.all (okE n)
  | .scr _=>false
  | .exn _=>false
  | .dct _=>false
  | .dko=>false
  | _=>true
theorem okE_lst {n:Nat}{xs:List PV} (h:okE (n + 1) (.lst xs)=true):xs.length≤1000∧∀ x∈xs,okE n x=true:=by
 unfold okE at h
 dsimp only at h
 rw [Bool.and_eq_true,List.all_eq_true] at h
 exact ⟨of_decide_eq_true h.1,h.2⟩
theorem okE_tup {n:Nat}{xs:List PV} (h:okE (n + 1) (.tup xs)=true):xs.length≤1000∧∀ x∈xs,okE n x=true:=by
 unfold okE at h
 dsimp only at h
 rw [Bool.and_eq_true,List.all_eq_true] at h
 exact ⟨of_decide_eq_true h.1,h.2⟩
theorem okE_mk {n:Nat}{xs:List PV} (hl:xs.length≤1000) (h:∀ x∈xs,okE n x=true):okE (n + 1) (.lst xs)=true:=by
 unfold okE
 dsimp only
 rw [Bool.and_eq_true,List.all_eq_true]
 exact ⟨decide_eq_true hl,h⟩
theorem okE_mkT {n:Nat}{xs:List PV} (hl:xs.length≤1000) (h:∀ x∈xs,okE n x=true):okE (n + 1) (.tup xs)=true:=by
 unfold okE
 dsimp only
 rw [Bool.and_eq_true,List.all_eq_true]
 exact ⟨decide_eq_true hl,h⟩
theorem sameL_refl {f:PV→PV→Bool}:∀ {xs:List PV},(∀ x∈xs,f x x=true)→sameL f xs xs=true
 | [],_=>rfl
 | x::xs,h=>by
  unfold sameL
  rw [h x List.mem_cons_self,sameL_refl fun y hy=>h y (List.mem_cons_of_mem _ hy)]
  rfl
theorem same_ok:∀ (n:Nat) (x:PV),okE n x=true→sameE n x x=true
 | 0,_,h=>by cases h
 | n + 1,x,h=>by
  cases x with
  | non=>rfl
  | bl b=>exact beq_self_eq_true b
  | int b=>exact beq_self_eq_true b
  | str b=>exact beq_self_eq_true b
  | emp=>rfl
  | dko=>cases h
  | lst xs=>exact sameL_refl fun x hx=>same_ok n x ((okE_lst h).2 x hx)
  | tup xs=>exact sameL_refl fun x hx=>same_ok n x ((okE_tup h).2 x hx)
  | scr _=>cases h
  | exn _=>cases h
  | dct _=>cases h
theorem okE_step:∀ (n:Nat) (x:PV),okE n x=true→okE (n + 1) x=true
 | 0,_,h=>by cases h
 | n + 1,x,h=>by
  cases x with
  | lst xs=>exact okE_mk (okE_lst h).1 fun x hx=>okE_step n x ((okE_lst h).2 x hx)
  | tup xs=>exact okE_mkT (okE_tup h).1 fun x hx=>okE_step n x ((okE_tup h).2 x hx)
  | scr _=>cases h
  | exn _=>cases h
  | dct _=>cases h
  | dko=>cases h
  | _=>rfl
theorem okE_le {n m:Nat}{x:PV} (h:okE n x=true) (hl:n≤m):okE m x=true:=by
 induction hl with
 | refl=>exact h
 | step _ ih=>exact okE_step _ _ ih
def wholeV:PV→Bool
 | .int _=>true
 | _=>false
theorem whole_any {n:Nat} (x:PV) (h:okE n x=true):f_is_whole_number [x]=.ok (.bl (wholeV x),om,.non):=by
 cases n with
 | zero=>cases h
 | succ n=>
  cases x with
  | non=>kernel_rfl
  | bl b=>cases b <;> kernel_rfl
  | int i=>kernel_rfl
  | str s=>kernel_rfl
  | lst xs=>kernel_rfl
  | tup xs=>kernel_rfl
  | emp=>kernel_rfl
  | dko=>cases h
  | scr _=>cases h
  | exn _=>cases h
  | dct _=>cases h
def sideB:PV→Bool
 | .int i=>decide (1≤i)
 | _=>false
def boxV:PV→Bool
 | .tup xs=>decide (xs.length=3) && xs.all sideB
 | _=>false
theorem side_any {n:Nat}{y x:PV} (h:okE n x=true):(bAndV (bCall f_is_whole_number (aCons (bVar 1) (aNil))) (bBin (opCmp fun i j=>decide (j≤i)) (bVar 1) (bC (.int 1)))) ([some (y,dv y)]++[some (x,dv x)])=.ok (.bl (sideB x),om,[some (y,dv y)]++[some (x,dv x)]):=by
 have w:=call_ok (F:=f_is_whole_number) (fa:=aCons (bVar 1) aNil) (ρ:=[some (y,dv y)]++[some (x,dv x)]) (xs:=[(x,dv x)]) rfl (whole_any x h)
 cases n with
 | zero=>cases h
 | succ n=>
  cases x with
  | int i=>exact and_ok (a:=true) w (fun _=>cmp_ok (i:=i) (j:=1) rfl rfl) rfl
  | scr _=>cases h
  | exn _=>cases h
  | dct _=>cases h
  | _=>exact and_ok (a:=false) (b:=false) w (fun e=>nomatch e) rfl
theorem comp_any {n:Nat}{f elt:Fx}{ρ ρ1:Rho}{d:Nat}{g:PV→Bool} (xs:List PV) (hf:f ρ=.ok (.lst xs,d,ρ1)) (hn:ρ1.length=n) (he:∀ x∈xs,elt (ρ1++[some (x,dv x)])=.ok (.bl (g x),om,ρ1++[some (x,dv x)])) (hl:xs.length≤1000):bArgs opAll (aCons (bCompS f 1 (asgN n) tTrue elt) aNil) ρ=.ok (.bl (xs.all g),om,ρ1):=by
 have z:=sz
 exact all_ok (compS_ok (enc:=fun x=>x) (q:=fun x=>.bl (g x)) xs (by rw [List.map_id'];exact hf) hn he (by omega))
theorem compT_any {n:Nat}{f elt:Fx}{ρ ρ1:Rho}{d:Nat}{g:PV→Bool} (xs:List PV) (hf:f ρ=.ok (.tup xs,d,ρ1)) (hn:ρ1.length=n) (he:∀ x∈xs,elt (ρ1++[some (x,dv x)])=.ok (.bl (g x),om,ρ1++[some (x,dv x)])) (hl:xs.length≤1000):bArgs opAll (aCons (bCompS f 1 (asgN n) tTrue elt) aNil) ρ=.ok (.bl (xs.all g),om,ρ1):=by
 have z:=sz
 exact all_ok (compT_ok (enc:=fun x=>x) (q:=fun x=>.bl (g x)) xs (by rw [List.map_id'];exact hf) hn he (by omega))
theorem box_any {n:Nat}{y:PV} (h:okE n y=true):f_is_box [y]=.ok (.bl (boxV y),om,.non):=by
 have z:=sz
 refine fn_rt rfl (ρ':=[some (y,dv y)]) ?_
 show Xf_is_box [some (y,dv y)]=_
 cases n with
 | zero=>cases h
 | succ n=>
  cases y with
  | tup xs=>
   have t:bT (bOrV (bUn opNot (bUn (opIsi "tuple") (bVar 0))) (bBin (opEq true) (bArgs opLen (aCons (bVar 0) (aNil))) (bC (.int 3)))) [some (.tup xs,0)]=.ok (!decide (xs.length=3),[some (.tup xs,0)]):=by
    refine t_ok (d:=om) ((or_ok (a:=false) rfl (fun _=>eq_ok (i:=(xs.length:Int)) (j:=3) rfl rfl) rfl).trans ?_)
    rw [Bool.false_or,Bool.true_xor]
    have e:decide ((xs.length:Int)=3)=decide (xs.length=3):=decide_eq_decide.mpr (by omega)
    rw [e]
   dsimp only [boxV]
   by_cases hc:xs.length=3
   ·rw [decide_eq_true hc] at t ⊢
    refine (seq_f t).trans (ret_ok ?_)
    exact compT_any (g:=sideB) xs (d:=0) rfl rfl (fun x hx=>side_any ((okE_tup h).2 x hx)) (okE_tup h).1
   ·rw [decide_eq_false hc] at t ⊢
    exact seq_rt ((if_t t).trans rfl)
  | scr _=>cases h
  | exn _=>cases h
  | dct _=>cases h
  | _=>exact seq_rt ((if_t (t_ok (d:=om) (or_ok (a:=true) (b:=false) rfl (fun e=>nomatch e) rfl))).trans rfl)
def elB (h:Int):PV→Bool
 | .int i=>decide (0≤i) && decide (i≤h)
 | _=>false
def rowV (c h:Int):PV→Bool
 | .lst xs=>decide ((xs.length:Int)=c) && xs.all (elB h)
 | _=>false
theorem el_any {n:Nat}{y x:PV}{c h:Int} (hx:okE n x=true):(bAndV (bCall f_is_whole_number (aCons (bVar 3) (aNil))) (bChain (fun i j=>decide (i≤j)) (fun i j=>decide (i≤j)) (bC (.int 0)) (bVar 3) (bVar 2))) ([some (y,dv y),some (.int c,om),some (.int h,om)]++[some (x,dv x)])=.ok (.bl (elB h x),om,[some (y,dv y),some (.int c,om),some (.int h,om)]++[some (x,dv x)]):=by
 have w:=call_ok (F:=f_is_whole_number) (fa:=aCons (bVar 3) aNil) (ρ:=[some (y,dv y),some (.int c,om),some (.int h,om)]++[some (x,dv x)]) (xs:=[(x,dv x)]) rfl (whole_any x hx)
 cases n with
 | zero=>cases hx
 | succ n=>
  cases x with
  | int i=>exact and_ok (a:=true) w (fun _=>chain_ok (i:=0) (j:=i) (k:=h) rfl rfl rfl) rfl
  | scr _=>cases hx
  | exn _=>cases hx
  | dct _=>cases hx
  | _=>exact and_ok (a:=false) (b:=false) w (fun e=>nomatch e) rfl
theorem row_any {n:Nat}{y:PV}{c h:Int} (hy:okE n y=true):f_is_row_of_heights [y,.int c,.int h]=.ok (.bl (rowV c h y),om,.non):=by
 refine fn_rt rfl (ρ':=[some (y,dv y),some (.int c,om),some (.int h,om)]) ?_
 show Xf_is_row_of_heights [some (y,dv y),some (.int c,om),some (.int h,om)]=_
 cases n with
 | zero=>cases hy
 | succ n=>
  cases y with
  | lst xs=>
   have t:bT (bOrV (bUn opNot (bUn (opIsi "list") (bVar 0))) (bBin (opEq true) (bArgs opLen (aCons (bVar 0) (aNil))) (bVar 1))) [some (.lst xs,0),some (.int c,om),some (.int h,om)]=.ok (!decide ((xs.length:Int)=c),[some (.lst xs,0),some (.int c,om),some (.int h,om)]):=by
    refine t_ok (d:=om) ((or_ok (a:=false) rfl (fun _=>eq_ok (i:=(xs.length:Int)) (j:=c) rfl rfl) rfl).trans ?_)
    rw [Bool.false_or,Bool.true_xor]
   dsimp only [rowV]
   by_cases hc:(xs.length:Int)=c
   ·rw [decide_eq_true hc] at t ⊢
    refine (seq_f t).trans (ret_ok ?_)
    exact comp_any (g:=elB h) xs (d:=0) rfl rfl (fun x hx=>el_any ((okE_lst hy).2 x hx)) (okE_lst hy).1
   ·rw [decide_eq_false hc] at t ⊢
    exact seq_rt ((if_t t).trans rfl)
  | scr _=>cases hy
  | exn _=>cases hy
  | dct _=>cases hy
  | _=>exact seq_rt ((if_t (t_ok (d:=om) (or_ok (a:=true) (b:=false) rfl (fun e=>nomatch e) rfl))).trans rfl)
def preV (a b c:Int):PV→Bool
 | .lst xs=>decide ((xs.length:Int)=a) && xs.all (rowV b c)
 | _=>false
theorem pile_none {n:Nat}{x:PV}{a b c:Int} (hb:boxB a b c=true) (hx:okE n x=true) (h:preV a b c x=false):f_is_pile [bx a b c,x]=.ok (.bl false,om,.non):=by
 let R:Rho:=[some (bx a b c,0),some (x,dv x),some (.int a,om),some (.int b,om),some (.int c,om)]
 refine fn_rt rfl (ρ':=R) ?_
 show Xf_is_pile [some (bx a b c,0),some (x,dv x),none,none,none]=_
 refine (seq_nx (drop_ok (call_ok (xs:=[(bx a b c,0)]) rfl (must_box_ok hb)))).trans ?_
 refine (seq_nx (ρ1:=R) rfl).trans ?_
 cases n with
 | zero=>cases hx
 | succ n=>
  cases x with
  | lst xs=>
   have t:bT (bOrV (bUn opNot (bUn (opIsi "list") (bVar 1))) (bBin (opEq true) (bArgs opLen (aCons (bVar 1) (aNil))) (bVar 2))) R=.ok (!decide ((xs.length:Int)=a),R):=by
    refine t_ok (d:=om) ((or_ok (a:=false) rfl (fun _=>eq_ok (i:=(xs.length:Int)) (j:=a) rfl rfl) rfl).trans ?_)
    rw [Bool.false_or,Bool.true_xor]
   dsimp only [preV] at h
   by_cases hc:(xs.length:Int)=a
   ·rw [decide_eq_true hc] at t h
    refine (seq_f t).trans ?_
    have e:=comp_any (g:=rowV b c) (f:=bVar 1) (elt:=bCall f_is_row_of_heights (aCons (bVar 5) (aCons (bVar 3) (aCons (bVar 4) (aNil))))) (ρ:=R) xs (d:=0) rfl rfl (fun y hy=>call_ok (xs:=[(y,dv y),(.int b,om),(.int c,om)]) rfl (row_any ((okE_lst hx).2 y hy))) (okE_lst hx).1
    rw [show xs.all (rowV b c)=false from h] at e
    exact seq_rt ((if_t (t_ok (not_ok e))).trans rfl)
   ·rw [decide_eq_false hc] at t
    exact seq_rt ((if_t t).trans rfl)
  | scr _=>cases hx
  | exn _=>cases hx
  | dct _=>cases hx
  | _=>exact seq_rt ((if_t (t_ok (d:=om) (or_ok (a:=true) (b:=false) rfl (fun e=>nomatch e) rfl))).trans rfl)
open PySem PySem.Spec PyProof.Rows L2 QQ
def g (t:List (List Int)) (i j:Nat):Int:=(t.getD i []).getD j 0
structure Pile (a b:Nat) (c:Int) (t:List (List Int)):Prop where
 tab:Tab a b t
 lo:∀ i j,i < a→j < b→0≤g t i j
 hi:∀ i j,i < a→j < b→g t i j≤c
 dn:∀ i j,i + 1 < a→j < b→g t (i + 1) j≤g t i j
 rt:∀ i j,i < a→j + 1 < b→g t i (j + 1)≤g t i j
theorem row_mem {t:List (List Int)}{i:Nat} (h:i < t.length):t.getD i []∈t:=by
 rw [List.getD_eq_getElem?_getD,List.getElem?_eq_getElem h]
 exact List.getElem_mem h
theorem Tab.row {a b:Nat}{t:List (List Int)} (h:Tab a b t) {i:Nat} (hi:i < a):(t.getD i []).length=b:=h.2 _ (row_mem (by rw [h.1];exact hi))
theorem getD_mem {xs:List Int}{i:Nat} (h:i < xs.length):xs.getD i 0∈xs:=by
 rw [List.getD_eq_getElem?_getD,List.getElem?_eq_getElem h]
 exact List.getElem_mem h
theorem mem_getD {xs:List Int}{x:Int} (h:x∈xs):∃ i,i < xs.length∧xs.getD i 0=x:=by
 obtain ⟨i,hi,e⟩:=List.getElem_of_mem h
 exact ⟨i,hi,by rw [List.getD_eq_getElem?_getD,List.getElem?_eq_getElem hi];exact e⟩
theorem mem_getDl {t:List (List Int)}{r:List Int} (h:r∈t):∃ i,i < t.length∧t.getD i []=r:=by
 obtain ⟨i,hi,e⟩:=List.getElem_of_mem h
 exact ⟨i,hi,by rw [List.getD_eq_getElem?_getD,List.getElem?_eq_getElem hi];exact e⟩
theorem rowB_iff {xs:List Int}{c h:Int}:rowB xs c h=true↔(xs.length:Int)=c∧∀ x∈xs,0≤x∧x≤h:=by
 unfold rowB
 rw [Bool.and_eq_true,decide_eq_true_iff,List.all_eq_true]
 constructor
 ·rintro ⟨h1,h2⟩
  refine ⟨h1,fun x hx=>?_⟩
  have:=h2 x hx
  rw [Bool.and_eq_true,decide_eq_true_iff,decide_eq_true_iff] at this
  exact this
 ·rintro ⟨h1,h2⟩
  refine ⟨h1,fun x hx=>?_⟩
  rw [Bool.and_eq_true,decide_eq_true_iff,decide_eq_true_iff]
  exact h2 x hx
theorem nrB_iff {xs:List Int}:nrB xs=true↔∀ k,k + 1 < xs.length→xs.getD (k + 1) 0≤xs.getD k 0:=by
 unfold nrB
 rw [List.all_eq_true]
 constructor
 ·intro h k hk
  exact of_decide_eq_true (h k (List.mem_range.mpr (by omega)))
 ·intro h k hk
  have:=List.mem_range.mp hk
  exact decide_eq_true (h k (by omega))
theorem col_get {t:List (List Int)}{i j:Nat} (h:i < t.length):(colOf t j).getD i 0=g t i j:=by
 unfold colOf g
 rw [List.getD_eq_getElem?_getD,List.getElem?_map,List.getElem?_eq_getElem h,List.getD_eq_getElem?_getD (l:=t),List.getElem?_eq_getElem h]
 rfl
theorem col_len {t:List (List Int)}{j:Nat}:(colOf t j).length=t.length:=by unfold colOf;rw [List.length_map]
theorem pileB_iff {a b:Nat}{c:Int}{t:List (List Int)} (ht:Tab a b t):pileB a b c t=true↔Pile a b c t:=by
 unfold pileB
 rw [Bool.and_eq_true,Bool.and_eq_true,List.all_eq_true,List.all_eq_true,List.all_eq_true]
 constructor
 ·rintro ⟨h1,h2,h3⟩
  have q:∀ i j,i < a→j < b→0≤g t i j∧g t i j≤c:=fun i j hi hj=>(rowB_iff.mp (h1 _ (row_mem (by rw [ht.1];exact hi)))).2 _ (getD_mem (by rw [ht.row hi];exact hj))
  refine ⟨ht,fun i j hi hj=>(q i j hi hj).1,fun i j hi hj=>(q i j hi hj).2,fun i j hi hj=>?_,fun i j hi hj=>?_⟩
  ·have:=nrB_iff.mp (h3 j (List.mem_range.mpr hj)) i (by rw [col_len,ht.1];exact hi)
   rw [col_get (by rw [ht.1];exact hi),col_get (by rw [ht.1];omega)] at this
   exact this
  ·exact nrB_iff.mp (h2 _ (row_mem (by rw [ht.1];exact hi))) j (by rw [ht.row hi];exact hj)
 ·intro p
  refine ⟨fun r hr=>rowB_iff.mpr ⟨by rw [ht.2 r hr],fun x hx=>?_⟩,fun r hr=>nrB_iff.mpr fun k hk=>?_,fun j hj=>nrB_iff.mpr fun k hk=>?_⟩
  ·obtain ⟨i,hi,rfl⟩:=mem_getDl hr
   obtain ⟨j,hj,rfl⟩:=mem_getD hx
   have hi':i < a:=by rw [← ht.1];exact hi
   rw [ht.row hi'] at hj
   exact ⟨p.lo i j hi' hj,p.hi i j hi' hj⟩
  ·obtain ⟨i,hi,rfl⟩:=mem_getDl hr
   have hi':i < a:=by rw [← ht.1];exact hi
   rw [ht.row hi'] at hk
   exact p.rt i k hi' hk
  ·rw [col_len,ht.1] at hk
   rw [col_get (by rw [ht.1];exact hk),col_get (by rw [ht.1];omega)]
   exact p.dn k j hk (List.mem_range.mp hj)
def Nr (r:List Int):Prop:=∀ k,k + 1 < r.length→r.getD (k + 1) 0≤r.getD k 0
def putT (t:List (List Int)) (i j:Nat):List (List Int):=t.set i ((t.getD i []).set j (g t i j + 1))
open PySem PySem.Spec PyProof.Rows L2 QQ
theorem toDL_map {α:Type}{f:PV→Option PyData}{e:α→PV}{q:α→PyData} (h:∀ x,f (e x)=some (q x)):∀ xs:List α,toDL f (xs.map e)=some (xs.map q)
 | []=>rfl
 | x::xs=>by rw [List.map_cons,toDL,h,toDL_map h xs];rfl
theorem toD_il (n:Nat) (xs:List Int):toD (n + 2) (il xs)=some (.list (xs.map .int)):=by
 show (toDL (toD (n + 1)) (xs.map PV.int)).map PyData.list=_
 rw [toDL_map (q:=PyData.int) (fun x=>rfl)];rfl
theorem eqvAll_int:∀ xs ys:List Int,PyData.eqvAll (xs.map .int) (ys.map .int)=decide (xs=ys)
 | [],[]=>rfl
 | [],y::ys=>rfl
 | x::xs,[]=>rfl
 | x::xs,y::ys=>by
  rw [List.map_cons,List.map_cons,PyData.eqvAll,eqvAll_int xs ys]
  show ((x == y) && _)=_
  by_cases h:x=y
  ·subst h
   by_cases h2:xs=ys
   ·subst h2;simp
   ·simp [h2]
  ·simp [h]
theorem eq_il {neg:Bool}{f h:Fx}{ρ ρ1 ρ2:Rho}{xs ys:List Int}{d e:Nat} (h1:f ρ=.ok (il xs,d,ρ1)) (h2:h ρ1=.ok (il ys,e,ρ2)):bBin (opEq neg) f h ρ=.ok (.bl (neg^^decide (xs=ys)),om,ρ2):=by
 refine bin_ok h1 h2 ?_
 unfold opEq
 rw [toD_il 18,toD_il 18]
 show some (PV.bl (neg^^PyData.eqv _ _),om)=_
 rw [PyData.eqv,eqvAll_int]
theorem idx_scr {f h:Fx}{ρ ρ1 ρ2:Rho}{xs:List Int}{k x:Int}{d e:Nat} (h1:f ρ=.ok (.scr xs,d,ρ1)) (h2:h ρ1=.ok (.int k,e,ρ2)) (hx:atI xs k=some x):bBin opIdx f h ρ=.ok (.int x,om,ρ2):=by
 refine bin_ok h1 h2 ?_
 show (atI xs k).map _=_
 rw [hx];rfl
theorem il_snoc (xs:List Int) (x:Int):PV.lst (xs.map PV.int++[.int x])=il (xs++[x]):=by unfold il;rw [List.map_append];rfl
open PySem PySem.Spec PyProof.Rows L2 QQ
theorem cutP_last (xs:List PV):cutP xs (some (-1)) none=xs.drop (xs.length - 1):=by
 unfold cutP
 have e:HT.sIx xs.length 0 (some (-1))=xs.length - 1:=by
  show (if (-1:Int) < 0 then (-1 + (xs.length:Int)).toNat else min (-1:Int).toNat xs.length)=_
  rw [if_pos (by decide)];omega
 rw [e,HT.sIx_none]
 exact List.take_of_length_le (by rw [List.length_drop];exact Nat.le_refl _)
theorem atI_last {α:Type}{xs:List α}{x:α} (h:xs[xs.length - 1]?=some x):atI xs (-1)=some x:=by
 have hl:=(List.getElem?_eq_some_iff.mp h).1
 unfold atI ixN
 rw [if_neg (by decide),if_pos (by omega),show (-1 + (xs.length:Int)).toNat=xs.length - 1 by omega]
 exact h
theorem sl_last {f:Fx}{ρ ρ1:Rho}{xs:List PV}{d:Nat} (h:f ρ=.ok (.lst xs,d,ρ1)):bSl f (some (bUn opNeg (bC (.int 1)))) none ρ=.ok (.lst (xs.drop (xs.length - 1)),d1 (xs.drop (xs.length - 1)),ρ1):=by
 unfold bSl
 rw [h]
 show Rz.ok (PV.lst (cutP xs (some (-1)) none),d1 (cutP xs (some (-1)) none),ρ1)=_
 rw [cutP_last]
theorem addL_ok {f h:Fx}{ρ ρ1 ρ2:Rho}{xs ys:List PV}{d e:Nat} (h1:f ρ=.ok (.lst xs,d,ρ1)) (h2:h ρ1=.ok (.lst ys,e,ρ2)) (hl:xs.length + ys.length≤sizeLine):bBin opAdd f h ρ=.ok (.lst (xs++ys),d1 (xs++ys),ρ2):=by
 refine bin_ok h1 h2 ?_
 show (if _ then _ else _)=_
 rw [if_pos hl]
theorem intsOf_map:∀ xs:List Int,intsOf (xs.map PV.int)=some xs
 | []=>rfl
 | x::xs=>by rw [List.map_cons,intsOf,intsOf_map xs];rfl
theorem min_ok {fa:Fa}{ρ ρ1:Rho}{x:Int}{xs:List Int}{d:Nat} (h:fa ρ=.ok ([(il (x::xs),d)],ρ1)):bArgs opMin fa ρ=.ok (.int (minI x xs),om,ρ1):=by
 refine args_ok h ?_
 show (match intsOf ((x::xs).map PV.int) with | some (n::r)=>some (PV.int (minI n r),om) | _=>none)=_
 rw [intsOf_map]
def upH (c:Int) (t:List (List Int)) (j:Nat):Int:=if t.length=0 then c else g t (t.length - 1) j
def topH (c:Int) (t:List (List Int)) (r:List Int) (j:Nat):Int:=if r.length=0 then upH c t j else min (upH c t j) (r.getD (r.length - 1) 0)
theorem snoc_row {t:List (List Int)}{r:List Int}{i:Nat}:(t++[r]).getD i []=if i < t.length then t.getD i [] else if i=t.length then r else []:=by
 by_cases h:i < t.length
 ·rw [if_pos h,List.getD_eq_getElem?_getD,List.getElem?_append_left h,List.getD_eq_getElem?_getD]
 ·rw [if_neg h]
  by_cases h2:i=t.length
  ·rw [if_pos h2,h2,List.getD_eq_getElem?_getD,List.getElem?_concat_length];rfl
  ·rw [if_neg h2,List.getD_eq_getElem?_getD,List.getElem?_eq_none (by rw [List.length_append,List.length_singleton];omega)];rfl
theorem snoc_get {r:List Int}{x:Int}{i:Nat}:(r++[x]).getD i 0=if i < r.length then r.getD i 0 else if i=r.length then x else 0:=by
 by_cases h:i < r.length
 ·rw [if_pos h,List.getD_eq_getElem?_getD,List.getElem?_append_left h,List.getD_eq_getElem?_getD]
 ·rw [if_neg h]
  by_cases h2:i=r.length
  ·rw [if_pos h2,h2,List.getD_eq_getElem?_getD,List.getElem?_concat_length];rfl
  ·rw [if_neg h2,List.getD_eq_getElem?_getD,List.getElem?_eq_none (by rw [List.length_append,List.length_singleton];omega)];rfl
theorem Pile.snoc {k b:Nat}{c:Int}{t:List (List Int)}{r:List Int} (p:Pile k b c t) (hr:r.length=b) (h:∀ y,y < b→0≤r.getD y 0∧r.getD y 0≤upH c t y) (hn:Nr r):Pile (k + 1) b c (t++[r]):=by
 have l:=p.tab.1
 have e:∀ i j,g (t++[r]) i j=if i < k then g t i j else if i=k then r.getD j 0 else 0:=fun i j=>by
  unfold g
  rw [snoc_row,l]
  split
  ·rfl
  ·split <;> rfl
 have u:∀ y,y < b→upH c t y≤c:=fun y hy=>by
  unfold upH
  split
  ·exact Int.le_refl _
  ·exact p.hi _ _ (by omega) hy
 refine ⟨⟨by rw [List.length_append,l];rfl,fun x hx=>?_⟩,fun i j hi hj=>?_,fun i j hi hj=>?_,fun i j hi hj=>?_,fun i j hi hj=>?_⟩
 ·rcases List.mem_append.mp hx with z | z
  ·exact p.tab.2 x z
  ·rw [List.mem_singleton.mp z,hr]
 ·rw [e]
  by_cases z:i < k
  ·rw [if_pos z];exact p.lo i j z hj
  ·rw [if_neg z,if_pos (by omega)];exact (h j hj).1
 ·rw [e]
  by_cases z:i < k
  ·rw [if_pos z];exact p.hi i j z hj
  ·rw [if_neg z,if_pos (by omega)];exact Int.le_trans (h j hj).2 (u j hj)
 ·rw [e,e]
  by_cases z:i + 1 < k
  ·rw [if_pos z,if_pos (by omega)];exact p.dn i j z hj
  ·rw [if_neg z,if_pos (by omega),if_pos (by omega)]
   have:=(h j hj).2
   unfold upH at this
   rw [if_neg (by omega),l,show k - 1=i by omega] at this
   exact this
 ·rw [e,e]
  by_cases z:i < k
  ·rw [if_pos z,if_pos z];exact p.rt i j z hj
  ·rw [if_neg z,if_neg z,if_pos (by omega),if_pos (by omega)];exact hn j (by rw [hr];exact hj)
open PySem PySem.Spec PyProof.Rows L2 QQ
theorem allAt_int:∀ xs:List Int,allAt (xs.map PV.int)=true
 | []=>rfl
 | x::xs=>by rw [List.map_cons,allAt,allAt_int xs];rfl
theorem d1_int (xs:List Int):d1 (xs.map PV.int)=om:=by unfold d1;rw [allAt_int];rfl
theorem lstC_il {f:Fx}{ρ ρ1:Rho}{xs:List Int}{d:Nat} (h:f ρ=.ok (il xs,d,ρ1)):bArgs opLstC (aCons f aNil) ρ=.ok (il xs,om,ρ1):=by
 refine args_ok (one_ok h) ?_
 show some (PV.lst (xs.map PV.int),d1 (xs.map PV.int))=_
 rw [d1_int];rfl
theorem idx2_ok {f h k:Fx}{ρ ρ1 ρ2 ρ3:Rho}{t:List (List Int)}{a b i j:Nat}{d e e':Nat} (ht:Tab a b t) (h1:f ρ=.ok (tb t,d,ρ1)) (h2:h ρ1=.ok (.int (i:Int),e,ρ2)) (h3:k ρ2=.ok (.int (j:Int),e',ρ3)) (hi:i < a) (hj:j < b):bBin opIdx (bBin opIdx f h) k ρ=.ok (.int (g t i j),om,ρ3):=
 idx_il (xs:=t.getD i []) (k:=(j:Int)) (idx_tb (t:=t) (k:=(i:Int)) h1 h2 (atI_nat (by omega) (getDl_get (by rw [Int.toNat_natCast,ht.1];exact hi)))) h3 (atI_nat (by omega) (getD_get (by rw [Int.toNat_natCast,ht.row hi];exact hj)))
open PySem PySem.Spec PyProof.Rows L2 QQ
theorem callIO_ok {F:Fn}{i:Nat}{fa:Fa}{ρ ρ1 ρ2:Rho}{xs:List (PV×Nat)}{x0 y z:PV}{d d0:Nat}{p:PV×Nat} (h0:ρ[i]?=some (some p)) (h1:fa ρ=.ok (xs,ρ1)) (h3:ρ1[i]?=some (some (x0,d0))) (h2:F (x0::xs.map (·.1))=.ok (y,d,z)) (e:ρ1.set i (some (z,om))=ρ2):bCallIO F i fa ρ=.ok (y,d,ρ2):=by
 unfold bCallIO
 rw [h0]
 dsimp only
 rw [h1]
 dsimp only [Rz.bind]
 rw [h3]
 dsimp only
 rw [h2]
 dsimp only
 rw [e]
theorem putk_ok {i:Nat}{k:Int}{f:Fx}{ρ ρ1 ρ2:Rho}{y:PV}{d0 d j:Nat}{xs:List PV} (h:f ρ=.ok (y,d0,ρ1)) (hx:ρ1[i]?=some (some (.lst xs,d))) (hj:ixN xs.length k=some j) (hd:d≠0) (hy:atomic y=true) (e:ρ1.set i (some (.lst (xs.set j y),d))=ρ2):sPut i k f ρ=.nx ρ2:=by
 unfold sPut
 rw [h]
 dsimp only
 rw [hx]
 dsimp only
 rw [hj]
 dsimp only
 rw [if_pos ⟨hd,hy⟩,e]
theorem fnio_rt {np k:Nat}{b:Fs}{x0:PV}{xr:List PV}{ρ':Rho}{y z:PV}{d c:Nat} (hl:xr.length + 1=np) (h:b (some (x0,om)::xr.map (fun x=>some (x,dv x))++List.replicate k none)=.rt y d ρ') (hz:ρ'[0]?=some (some (z,c))):mkFn true np k b (x0::xr)=.ok (y,d,z):=by
 unfold mkFn
 rw [if_pos (by rw [List.length_cons];exact hl)]
 have:slots0 true (x0::xr)=some (x0,om)::xr.map fun x=>some (x,dv x):=rfl
 rw [this,h]
 unfold finF
 dsimp only
 rw [hz]
theorem setT {i:Nat}{f:Fx}{vs:List Nat}{ρ ρ1 ρ2:Rho}{x:PV} (h:f ρ=.ok (x,om,ρ1)) (hc:i < ρ1.length) (e:ρ1.set i (some (x,om))=ρ2):sSet true i f vs ρ=.nx ρ2:=by
 unfold sSet
 rw [h]
 dsimp only
 rw [if_pos ⟨hc,fun _=>rfl⟩]
 rw [show coolIf om vs ρ1=ρ1 from if_pos rfl,e]
abbrev pl (p q r:Int):PV:=.lst [.int p,.int q,.int r]
def Pl (B:Int) (x:PV):Prop:=∃ p q r,x=pl p q r∧0≤r∧r≤B
theorem Pl.mono {B B':Int}{x:PV} (h:Pl B x) (hb:B≤B'):Pl B' x:=let ⟨p,q,r,e,h1,h2⟩:=h;⟨p,q,r,e,h1,by omega⟩
theorem take_big {x:PV}{B m:Int} (h:Pl B x) (hB:B≤100000) (hm:0 < m∧m < 2 ^ 128):∃ v x',(0≤v∧v < m)∧Pl (B + 1) x'∧a_take [x,.int m]=.ok (.int v,om,x'):=by
 obtain ⟨p,q,r,rfl,h0,h1⟩:=h
 let R (x:PV) (s2 s3 s4:QQ.Slot):Rho:=[some (x,om),some (.int m,om),s2,s3,s4]
 have t1:bT (bBin (opEq false) (bMs 0 1) (bC (.int 1))) (R (pl p q r) none none none)=.ok (false^^decide (q=1),R (pl p q r) none none none):=t_ok (eq_ok (i:=q) (j:=1) rfl rfl)
 rw [Bool.false_xor] at t1
 have hpos:0 < m:=hm.1
 by_cases hq:q=1
 ·rw [decide_eq_true hq] at t1
  have s1:sSet false 2 (bBin opMod (bMs 0 0) (bVar 1)) [1] (R (pl p q r) none none none)=.nx (R (pl p q r) (some (.int (p % m),om)) none none):=setF (mod_ok (i:=p) (j:=m) rfl rfl hpos) (show 2 < 5 by decide) rfl
  have s2:sPut 0 0 (bBin opFdiv (bMs 0 0) (bVar 1)) (R (pl p q r) (some (.int (p % m),om)) none none)=.nx (R (pl (p / m) q r) (some (.int (p % m),om)) none none):=putk_ok (j:=0) (d:=om) (xs:=[.int p,.int q,.int r]) (div_ok (i:=p) (j:=m) rfl rfl hpos (by omega)) rfl rfl (by decide) rfl rfl
  exact ⟨p % m,pl (p / m) q r,⟨Int.emod_nonneg _ (by omega),Int.emod_lt_of_pos _ hpos⟩,⟨_,_,r,rfl,h0,by omega⟩,fnio_rt (z:=pl (p / m) q r) (c:=om) rfl (seq_rt ((if_t t1).trans ((seq_nx s1).trans ((seq_nx s2).trans rfl)))) rfl⟩
 ·rw [decide_eq_false hq] at t1
  let st:=r + 1
  let mk1:=(p % 9999999631 + 967) * (19 * st + 47)
  let mk2:=mk1 + 3457 * st * st
  let mk3:=mk2 * mk2 % 99999999673
  have a1:=Int.emod_nonneg p (show (9999999631:Int)≠0 by decide)
  have a2:=Int.emod_lt_of_pos p (show (0:Int) < 9999999631 by decide)
  have hst:1≤st∧st≤100001:=⟨by show 1≤r + 1;omega,by show r + 1≤100001;omega⟩
  have k1:0≤mk1∧mk1≤10000000597 * 1900066:=⟨Int.mul_nonneg (by omega) (by omega),Int.mul_le_mul (by omega) (by omega) (by omega) (by omega)⟩
  have k2:0≤3457 * st * st∧3457 * st * st≤(3457 * 100001) * 100001:=⟨Int.mul_nonneg (by omega) (by omega),Int.mul_le_mul (by omega) (by omega) (by omega) (by omega)⟩
  have k3:0≤mk2∧mk2≤10000000597 * 1900066 + (3457 * 100001) * 100001:=⟨by show 0≤mk1 + 3457 * st * st;omega,by show mk1 + 3457 * st * st≤_;omega⟩
  have k4:0≤mk3:=Int.emod_nonneg _ (by decide)
  have k5:mk3 < 99999999673:=Int.emod_lt_of_pos _ (by decide)
  have s1:sPut 0 2 (bBin opAdd (bMs 0 2) (bC (.int 1))) (R (pl p q r) none none none)=.nx (R (pl p q st) none none none):=putk_ok (j:=2) (d:=om) (xs:=[.int p,.int q,.int r]) (add_ok (i:=r) (j:=1) rfl rfl) rfl rfl (by decide) rfl rfl
  have s2:sSet false 3 (bMs 0 2) [] (R (pl p q st) none none none)=.nx (R (pl p q st) none (some (.int st,om)) none):=rfl
  have s3:sSet false 4 (bBin opMul (bBin opAdd (bBin opMod (bMs 0 0) (bC (.int 9999999631))) (bC (.int 967))) (bBin opAdd (bBin opMul (bC (.int 19)) (bVar 3)) (bC (.int 47)))) [3] (R (pl p q st) none (some (.int st,om)) none)=.nx (R (pl p q st) none (some (.int st,om)) (some (.int mk1,om))):=
   setF (mul_ok (add_ok (mod_ok (i:=p) rfl rfl (by decide)) (j:=967) rfl) (add_ok (mul_ok (i:=19) (j:=st) rfl rfl (.inl (by decide))) (j:=47) rfl) (.inl (by omega))) (show 4 < 5 by decide) rfl
  have s4:sSet false 4 (bBin opAdd (bVar 4) (bBin opMul (bBin opMul (bC (.int 3457)) (bVar 3)) (bVar 3))) [4,3,3] (R (pl p q st) none (some (.int st,om)) (some (.int mk1,om)))=.nx (R (pl p q st) none (some (.int st,om)) (some (.int mk2,om))):=
   setF (add_ok (i:=mk1) rfl (mul_ok (mul_ok (i:=3457) (j:=st) rfl rfl (.inl (by decide))) (j:=st) rfl (.inr (by omega)))) (show 4 < 5 by decide) rfl
  have s5:sSet false 4 (bBin opMod (bBin opMul (bVar 4) (bVar 4)) (bC (.int 99999999673))) [4,4] (R (pl p q st) none (some (.int st,om)) (some (.int mk2,om)))=.nx (R (pl p q st) none (some (.int st,om)) (some (.int mk3,om))):=
   setF (mod_ok (mul_ok (i:=mk2) (j:=mk2) rfl rfl (.inl (by omega))) rfl (by decide)) (show 4 < 5 by decide) rfl
  have s6:(bBin opMod (bBin opFdiv (bBin opMod (bBin opMul (bVar 4) (bBin opAdd (bVar 4) (bC (.int 31)))) (bC (.int 99999999941))) (bC (.int 79))) (bVar 1)) (R (pl p q st) none (some (.int st,om)) (some (.int mk3,om)))=.ok (.int (mk3 * (mk3 + 31) % 99999999941 / 79 % m),om,R (pl p q st) none (some (.int st,om)) (some (.int mk3,om))):=
   mod_ok (div_ok (mod_ok (mul_ok (i:=mk3) rfl (add_ok (i:=mk3) (j:=31) rfl rfl) (.inl (by omega))) rfl (by decide)) rfl (by decide) (by decide)) (j:=m) rfl hpos
  exact ⟨_,pl p q st,⟨Int.emod_nonneg _ (by omega),Int.emod_lt_of_pos _ hpos⟩,⟨p,q,st,rfl,by omega,by show r + 1≤B + 1;omega⟩,fnio_rt (z:=pl p q st) (c:=om) rfl ((seq_f t1).trans ((seq_nx s1).trans ((seq_nx s2).trans ((seq_nx s3).trans ((seq_nx s4).trans ((seq_nx s5).trans (ret_ok s6))))))) rfl⟩
theorem take_ok {x:PV}{B m:Int} (h:Pl B x) (hB:B≤100000) (hm:0 < m∧m < 1000000):∃ v x',(0≤v∧v < m)∧Pl (B + 1) x'∧a_take [x,.int m]=.ok (.int v,om,x'):=take_big h hB ⟨hm.1,Int.lt_trans hm.2 (by decide)⟩
theorem pool_ok (ns:List Int) (k:Nat) (hk:k≤1000):∃ x,Pl 29000 x∧a_pool [.scr ns,.int (k:Int)]=.ok (x,om,.non):=by
 let R (s2:QQ.Slot):Rho:=[some (.scr ns,om),some (.int (k:Int),om),s2]
 have s1:sSet false 2 (bC (.int 0)) [] (R none)=.nx (R (some (.int 0,om))):=rfl
 have s2:∃ c,sIf (bT (bBin (opCmp fun i j=>decide (i < j)) (bVar 1) (bArgs opLen (aCons (bVar 0) (aNil))))) (sSet false 2 (bBin opIdx (bVar 0) (bVar 1)) [0,1]) sNil (R (some (.int 0,om)))=.nx (R (some (.int c,om))):=by
  have t1:bT (bBin (opCmp fun i j=>decide (i < j)) (bVar 1) (bArgs opLen (aCons (bVar 0) (aNil)))) (R (some (.int 0,om)))=.ok (decide ((k:Int) < (ns.length:Int)),R (some (.int 0,om))):=rfl
  by_cases h:(k:Int) < (ns.length:Int)
  ·rw [decide_eq_true h] at t1
   exact ⟨ns.getD k 0,(if_t t1).trans (setF (idx_scr (xs:=ns) (k:=(k:Int)) (d:=om) rfl rfl (atI_nat (by omega) (getD_get (by omega)))) (show 2 < 3 by decide) rfl)⟩
  ·rw [decide_eq_false h] at t1
   exact ⟨0,(if_f t1).trans rfl⟩
 obtain ⟨c,s2⟩:=s2
 have t3:bT (bBin (opCmp fun i j=>decide (j≤i)) (bVar 2) (bBin opPow (bC (.int 10)) (bC (.int 18)))) (R (some (.int c,om)))=.ok (decide ((10:Int) ^ 18≤c),R (some (.int c,om))):=by kernel_rfl
 have p18:bBin opPow (bC (.int 10)) (bC (.int 18)) (R (some (.int c,om)))=.ok (.int (10 ^ 18),om,R (some (.int c,om))):=by kernel_rfl
 by_cases h:(10:Int) ^ 18≤c
 ·rw [decide_eq_true h] at t3
  exact ⟨pl (c - 10 ^ 18) 1 0,⟨_,_,0,rfl,by decide,by decide⟩,fn_rt rfl ((seq_nx s1).trans ((seq_nx s2).trans (seq_rt ((if_t t3).trans (ret_ok (args_ok (cons_ok (sub_ok (i:=c) rfl p18) (cons_ok (x:=.int 1) (d:=om) rfl (one_ok (x:=.int 0) (d:=om) rfl))) (by kernel_rfl)))))))⟩
 ·rw [decide_eq_false h] at t3
  exact ⟨pl c 0 (29 * (k:Int)),⟨_,_,29 * (k:Int),rfl,by omega,by omega⟩,fn_rt rfl ((seq_nx s1).trans ((seq_nx s2).trans ((seq_f t3).trans (ret_ok (args_ok (cons_ok (x:=.int c) (d:=om) rfl (cons_ok (x:=.int 0) (d:=om) rfl (one_ok (mul_ok (i:=29) (j:=(k:Int)) rfl rfl (.inl (by decide)))))) (by kernel_rfl))))))⟩
theorem compL_st {n:Nat}{elt:Fx} (I:Nat→Rho→Prop) (Pr:PV→Prop):∀ (xs:List PV) (i:Nat) (ρ:Rho) (acc:List (PV×Nat)),I i ρ→(∀ j ρ,I j ρ→ρ.length=n)→(∀ j x ρ,i≤j→j < i + xs.length→I j ρ→∃ y ρ',elt (ρ++[some (x,dv x)])=.ok (y,om,ρ')∧I (j + 1) (ρ'.take n)∧Pr y)→acc.length + xs.length≤sizeLine →
  ∃ (ys:List PV) (ρ':Rho),compL 1 (asgN n) tTrue elt xs ρ acc=.ok (acc++ys.map (fun y=>(y,om)),ρ')∧ys.length=xs.length∧(∀ y∈ys,Pr y)∧I (i + xs.length) ρ'
 | [],i,ρ,acc,h,_,_,_=>⟨[],ρ,by simp [compL],rfl,fun _ z=>(nomatch z),h⟩
 | x::xs,i,ρ,acc,h,hn,he,hl=>by
  obtain ⟨y,ρ1,e1,h1,p1⟩:=he i x ρ (Nat.le_refl _) (by rw [List.length_cons];omega) h
  have hρ:=hn i ρ h
  rw [List.length_cons] at hl
  obtain ⟨ys,ρ',e2,l2,p2,h2⟩:=compL_st (n:=n) (elt:=elt) I Pr xs (i + 1) (ρ1.take n) (acc++[(y,om)]) h1 hn (fun j x ρ a b=>he j x ρ (by omega) (by rw [List.length_cons];omega)) (by rw [List.length_append,List.length_singleton];omega)
  refine ⟨y::ys,ρ',?_,by rw [List.length_cons,l2,List.length_cons],fun z hz=>(List.mem_cons.mp hz).elim (fun e=>by rw [e];exact p1) (p2 z),by rw [List.length_cons,show i + (xs.length + 1)=i + 1 + xs.length by omega];exact h2⟩
  unfold compL
  have ea:asgN n x (ρ++List.replicate 1 none)=some (ρ++[some (x,dv x)]):=by
   unfold asgN
   rw [if_pos (by rw [List.length_append,hρ];simp),List.set_append_right _ _ (by omega),hρ]
   simp
  rw [ea]
  dsimp only
  have:tTrue (ρ++[some (x,dv x)])=.ok (true,ρ++[some (x,dv x)]):=rfl
  rw [this]
  dsimp only [Rz.bindN]
  rw [if_pos rfl,e1]
  dsimp only
  rw [if_pos (by omega),hρ,e2]
  simp
theorem io_take {f:Fx}{x:PV}{B m:Int}{r:Rho}{e:Nat} (h:Pl B x) (hB:B≤100000) (hm:0 < m∧m < 1000000) (hf:f (some (x,om)::r)=.ok (.int m,e,some (x,om)::r)):∃ v x',(0≤v∧v < m)∧Pl (B + 1) x'∧bCallIO a_take 0 (aCons f aNil) (some (x,om)::r)=.ok (.int v,om,some (x',om)::r):=by
 obtain ⟨v,x',hv,hp,e⟩:=take_ok h hB hm
 exact ⟨v,x',hv,hp,callIO_ok (p:=(x,om)) (x0:=x) (d0:=om) rfl (one_ok hf) rfl e rfl⟩
theorem abox_ok {x:PV}{B:Int}{most:Nat} (h:Pl B x) (hB:B≤90000) (hm:1≤most∧most≤1000):∃ a b c x',(1≤a∧a≤max 3 most)∧(1≤b∧b≤max 3 most)∧(1≤c∧c≤max 3 most)∧Pl (B + 9) x'∧a_box [x,.int (most:Int)]=.ok (bx (a:Nat) (b:Nat) (c:Nat),0,x'):=by
 let elt:=(bBin opAdd (bC (.int 1)) (bBin opIdx (bArgs opLst (aCons (bCallIO a_take 0 (aCons (bC (.int 3)) (aNil))) (aCons (bCallIO a_take 0 (aCons (bVar 1) (aNil))) (aNil)))) (bCallIO a_take 0 (aCons (bC (.int 2)) (aNil)))))
 obtain ⟨ys,ρ',e,hl,hp,x',rfl,hx'⟩:=compL_st (n:=2) (elt:=elt) (fun j ρ=>∃ x,ρ=[some (x,om),some (.int (most:Int),om)]∧Pl (B + 3 * (j:Int)) x) (fun y=>∃ k:Nat,(1≤k∧k≤max 3 most)∧y=.int (k:Int)) (rangeL 0 3) 0 [some (x,om),some (.int (most:Int),om)] [] ⟨x,rfl,h.mono (by omega)⟩ (fun j ρ ⟨x,e,_⟩=>by rw [e];rfl) (by
  rintro j w ρ _ hj ⟨x,rfl,hx⟩
  have hj3:j < 3:=by rw [rangeL_len] at hj;omega
  let T:Rho:=[some (.int (most:Int),om),some (w,dv w)]
  obtain ⟨v1,x1,hv1,hx1,e1⟩:=io_take (f:=bC (.int 3)) (r:=T) (m:=3) (e:=om) hx (by omega) (by decide) rfl
  obtain ⟨v2,x2,hv2,hx2,e2⟩:=io_take (f:=bVar 1) (r:=T) (m:=(most:Int)) (e:=om) hx1 (by omega) (by omega) rfl
  obtain ⟨v3,x3,hv3,hx3,e3⟩:=io_take (f:=bC (.int 2)) (r:=T) (m:=2) (e:=om) hx2 (by omega) (by decide) rfl
  have hg:∃ v,atI [v1,v2] v3=some v∧0≤v∧v < max 3 (most:Int):=by
   have:v3=0∨v3=1:=by omega
   rcases this with z | z
   ·rw [z];exact ⟨v1,rfl,by omega,by omega⟩
   ·rw [z];exact ⟨v2,rfl,by omega,by omega⟩
  obtain ⟨v,ev,hv0,hv⟩:=hg
  refine ⟨.int (1 + v),_,add_ok (i:=1) rfl (idx_il (xs:=[v1,v2]) (k:=v3) (d:=om) (args_ok (cons_ok e1 (one_ok e2)) (by kernel_rfl)) e3 ev),⟨x3,rfl,hx3.mono (by omega)⟩,(1 + v).toNat,⟨by omega,by omega⟩,?_⟩
  rw [show (((1 + v).toNat:Nat):Int)=1 + v by omega]) (by have:=sz;show 0 + 3≤sizeLine;omega)
 have hl3:ys.length=3:=hl
 match ys,hl3,hp,e with
 | [y1,y2,y3],_,hp,e=>
  obtain ⟨a,ha,rfl⟩:=hp y1 (by simp)
  obtain ⟨b,hb,rfl⟩:=hp y2 (by simp)
  obtain ⟨c,hc,rfl⟩:=hp y3 (by simp)
  refine ⟨a,b,c,x',ha,hb,hc,hx'.mono (by show B + 3 * ((0 + 3:Nat):Int)≤B + 9;omega),?_⟩
  refine fnio_rt (c:=om) rfl (ret_ok (f:=bArgs opTupC (aCons (bCompR ends1 (aCons (bC (.int 3)) (aNil)) 1 (asgN 2) tTrue elt) (aNil))) (d:=0) (args_ok (one_ok (x:=.lst [.int (a:Int),.int (b:Int),.int (c:Int)]) (d:=om) (ρ1:=[some (x',om),some (.int (most:Int),om)]) ?_) rfl)) rfl
  unfold bCompR
  have e0:aCons (bC (.int 3)) aNil ([some (x,om),some (.int (most:Int),om)]:Rho)=.ok ([(.int 3,om)],[some (x,om),some (.int (most:Int),om)]):=rfl
  have e0':(some (x,om)::List.map (fun x=>(some (x,dv x):QQ.Slot)) [PV.int (most:Int)]++List.replicate 0 none)=[some (x,om),some (.int (most:Int),om)]:=rfl
  rw [e0',e0]
  dsimp only
  rw [show ends1 [(.int 3,om)]=some (0,3) from rfl]
  dsimp only
  rw [show ((3:Int) - 0).toNat=3 from rfl,e]
  rfl
open PySem PySem.Spec PyProof.Rows L2 QQ
def XpileIn:Fs:=(sSeq (sSet false 10 (bArgs opMin (aCons (bBin opAdd (bBin opAdd (bArgs opLst (aCons (bVar 4) (aNil))) (bSl (bVar 8) (some (bUn opNeg (bC (.int 1)))) none)) (bCompS (bSl (bVar 6) (some (bUn opNeg (bC (.int 1)))) none) 1 (asgN 12) tTrue (bBin opIdx (bVar 12) (bVar 9)))) (aNil))) [4,8,6,6,9])
 (sSeq (sSet false 11 (bArgs opLst (aCons (bArgs opMax (aCons (bC (.int 0)) (aCons (bBin opSub (bVar 10) (bCallIO a_take 0 (aCons (bC (.int 2)) (aNil)))) (aNil)))) (aCons (bCallIO a_take 0 (aCons (bBin opAdd (bVar 10) (bC (.int 1))) (aNil))) (aCons (bVar 10) (aNil))))) [10,10,10])
 (sApp 8 (bBin opIdx (bBin opAdd (bArgs opLst (aCons (bC (.int 0)) (aCons (bVar 4) (aNil)))) (bBin opMul (bArgs opLst (aCons (bBin opIdx (bVar 11) (bCallIO a_take 0 (aCons (bC (.int 3)) (aNil)))) (aNil))) (bC (.int 6)))) (bVar 5)) [4,11,5])))
theorem minI_top {k b j:Nat}{c:Int}{t:List (List Int)}{r:List Int} (p:Pile k b c t) (hj:j < b):minI c (r.drop (r.length - 1)++(t.drop (t.length - 1)).map fun u=>u.getD j 0)=topH c t r j:=by
 have e1:t.length≠0→(t.drop (t.length - 1)).map (fun u=>u.getD j 0)=[g t (t.length - 1) j]:=fun e=>by
  rw [List.drop_eq_getElem_cons (show t.length - 1 < t.length by omega),List.drop_eq_nil_of_le (by omega)]
  unfold g
  rw [List.getD_eq_getElem?_getD (l:=t),List.getElem?_eq_getElem (show t.length - 1 < t.length by omega)]
  rfl
 have e2:r.length≠0→r.drop (r.length - 1)=[r.getD (r.length - 1) 0]:=fun e=>by
  rw [List.drop_eq_getElem_cons (show r.length - 1 < r.length by omega),List.getD_eq_getElem?_getD,List.getElem?_eq_getElem (show r.length - 1 < r.length by omega),List.drop_eq_nil_of_le (by omega)]
  rfl
 have l:=p.tab.1
 unfold topH upH
 by_cases h1:r.length=0
 ·rw [if_pos h1,List.length_eq_zero_iff.mp h1]
  by_cases h2:t.length=0
  ·rw [if_pos h2,List.length_eq_zero_iff.mp h2];rfl
  ·rw [if_neg h2,e1 h2]
   have:=p.hi (t.length - 1) j (by omega) hj
   show (if g t (t.length - 1) j < c then g t (t.length - 1) j else c)=_
   split <;> omega
 ·rw [if_neg h1,e2 h1]
  by_cases h2:t.length=0
  ·rw [if_pos h2,List.length_eq_zero_iff.mp h2]
   show (if r.getD (r.length - 1) 0 < c then r.getD (r.length - 1) 0 else c)=_
   split <;> omega
  ·rw [if_neg h2,e1 h2]
   have:=p.hi (t.length - 1) j (by omega) hj
   show (if g t (t.length - 1) j < (if r.getD (r.length - 1) 0 < c then r.getD (r.length - 1) 0 else c) then g t (t.length - 1) j else (if r.getD (r.length - 1) 0 < c then r.getD (r.length - 1) 0 else c))=_
   split <;> split <;> omega
theorem apile_ok {x:PV}{B:Int}{a b c:Nat} (h:Pl B x) (hB:B≤80000) (ha:1≤a∧a≤30) (hb:1≤b∧b≤30) (hc:1≤c∧c≤1000):∃ t d x',Pile a b c t∧d≠0∧Pl (B + 3000) x'∧a_pile [x,bx a b c]=.ok (tb t,d,x'):=by
 have z:=sz
 let S (x:PV) (s5:QQ.Slot) (s6 s7 s8 s9 s10 s11:QQ.Slot):Rho:=[some (x,om),some (bx a b c,0),some (.int (a:Int),om),some (.int (b:Int),om),some (.int (c:Int),om),s5,s6,s7,s8,s9,s10,s11]
 have s1:sUnp (asgT [2,3,4]) (bVar 1) [1] [some (x,om),some (bx a b c,0),none,none,none,none,none,none,none,none,none,none]=.nx (S x none none none none none none none):=by kernel_rfl
 obtain ⟨kd,x1,hkd,hx1,e1⟩:=io_take (f:=bC (.int 8)) (r:=[some (bx a b c,0),some (.int (a:Int),om),some (.int (b:Int),om),some (.int (c:Int),om),none,none,none,none,none,none,none]) (m:=8) (e:=om) h (by omega) (by decide) rfl
 have s2:sSet false 5 (bCallIO a_take 0 (aCons (bC (.int 8)) (aNil))) [] (S x none none none none none none none)=.nx (S x1 (some (.int kd,om)) none none none none none none):=setF e1 (show 5 < 12 by decide) rfl
 let R (x:PV) (t:List (List Int)) (d6:Nat) (s7 s8 s9 s10 s11:QQ.Slot):Rho:=S x (some (.int kd,om)) (some (tb t,d6)) s7 s8 s9 s10 s11
 have s3:sSet false 6 (bArgs opLst (aNil)) [] (S x1 (some (.int kd,om)) none none none none none none)=.nx (R x1 [] om none none none none none):=by kernel_rfl
 have step:∀ (x:PV) (C:Int) (t:List (List Int)) (d6 k j:Nat) (r:List Int) (s7 s10 s11:QQ.Slot),Pl C x→C≤90000→k < a→j < b→Pile k b c t→r.length=j→(∀ y,y < j→0≤r.getD y 0)→(kd=1→topH c t r j=c)→∃ h x' s10' s11',(0≤h∧h≤topH c t r j)∧(kd=1→h=c)∧Pl (C + 3) x'∧XpileIn (R x t d6 s7 (some (il r,om)) (some (.int (j:Int),om)) s10 s11)=.nx (R x' t d6 s7 (some (il (r++[h]),om)) (some (.int (j:Int),om)) s10' s11'):=by
  intro x C t d6 k j r s7 s10 s11 hx hC hk hj p hr hr0 hkd1
  have l:=p.tab.1
  let Q (x:PV) (s10 s11:QQ.Slot):Rho:=R x t d6 s7 (some (il r,om)) (some (.int (j:Int),om)) s10 s11
  have f1:=sl_last (f:=bVar 8) (xs:=r.map PV.int) (d:=0) (ρ:=Q x s10 s11) (ρ1:=Q x s10 s11) rfl
  rw [List.length_map,← List.map_drop] at f1
  have f2:=addL_ok (f:=bArgs opLst (aCons (bVar 4) (aNil))) (ρ:=Q x s10 s11) (xs:=[.int (c:Int)]) (d:=om) (by kernel_rfl) f1 (by rw [List.length_map,List.length_drop,List.length_singleton];omega)
  have f3:bSl (bVar 6) (some (bUn opNeg (bC (.int 1)))) none (Q x s10 s11)=.ok (.lst ((t.drop (t.length - 1)).map il),d1 ((t.map il).drop ((t.map il).length - 1)),Q x s10 s11):=by
   rw [sl_last (xs:=t.map il) (d:=0) (ρ1:=Q x s10 s11) rfl,List.length_map,List.map_drop]
  have f4:=compS_ok (n:=12) (elt:=bBin opIdx (bVar 12) (bVar 9)) (enc:=il) (q:=fun u=>.int (u.getD j 0)) (t.drop (t.length - 1)) f3 rfl (fun u hu=>idx_il (xs:=u) (k:=(j:Int)) (d:=0) rfl rfl (atI_nat (by omega) (getD_get (by rw [p.tab.2 u (List.mem_of_mem_drop hu)];omega)))) (by rw [List.length_drop];omega)
  have f5:=addL_ok f2 f4 (by rw [List.length_append,List.length_map,List.length_map,List.length_drop,List.length_drop,List.length_singleton];omega)
  have f6:PV.lst ([.int (c:Int)]++(r.drop (r.length - 1)).map PV.int++(t.drop (t.length - 1)).map fun u=>.int (u.getD j 0))=il ((c:Int)::(r.drop (r.length - 1)++(t.drop (t.length - 1)).map fun u=>u.getD j 0)):=by
   unfold il
   rw [List.map_cons,List.map_append,List.map_map]
   rfl
  rw [f6] at f5
  have v1:sSet false 10 (bArgs opMin (aCons (bBin opAdd (bBin opAdd (bArgs opLst (aCons (bVar 4) (aNil))) (bSl (bVar 8) (some (bUn opNeg (bC (.int 1)))) none)) (bCompS (bSl (bVar 6) (some (bUn opNeg (bC (.int 1)))) none) 1 (asgN 12) tTrue (bBin opIdx (bVar 12) (bVar 9)))) (aNil))) [4,8,6,6,9] (Q x s10 s11)=.nx (Q x (some (.int (topH c t r j),om)) s11):=by
   rw [← minI_top p hj]
   exact setF (min_ok (one_ok f5)) (show 10 < 12 by decide) rfl
  have u0:0≤upH c t j∧upH c t j≤c:=by
   unfold upH
   split
   ·omega
   ·exact ⟨p.lo _ _ (by omega) hj,p.hi _ _ (by omega) hj⟩
  have t0:0≤topH c t r j∧topH c t r j≤c:=by
   unfold topH
   split
   ·exact u0
   ·have:=hr0 (r.length - 1) (by omega)
    omega
  let tp:=topH c t r j
  let T (s11:QQ.Slot):Rho:=[some (bx a b c,0),some (.int (a:Int),om),some (.int (b:Int),om),some (.int (c:Int),om),some (.int kd,om),some (tb t,d6),s7,some (il r,om),some (.int (j:Int),om),some (.int tp,om),s11]
  obtain ⟨w1,x1,hw1,hx1,g1⟩:=io_take (f:=bC (.int 2)) (r:=T s11) (m:=2) (e:=om) hx (by omega) (by decide) rfl
  obtain ⟨w2,x2,hw2,hx2,g2⟩:=io_take (f:=bBin opAdd (bVar 10) (bC (.int 1))) (r:=T s11) (m:=tp + 1) (e:=om) hx1 (by omega) (by show 0 < topH c t r j + 1∧topH c t r j + 1 < 1000000;omega) (add_ok (i:=tp) (j:=1) rfl rfl)
  let som:List Int:=[if tp - w1 > 0 then tp - w1 else 0,w2,tp]
  have v2:sSet false 11 (bArgs opLst (aCons (bArgs opMax (aCons (bC (.int 0)) (aCons (bBin opSub (bVar 10) (bCallIO a_take 0 (aCons (bC (.int 2)) (aNil)))) (aNil)))) (aCons (bCallIO a_take 0 (aCons (bBin opAdd (bVar 10) (bC (.int 1))) (aNil))) (aCons (bVar 10) (aNil))))) [10,10,10] (Q x (some (.int tp,om)) s11)=.nx (Q x2 (some (.int tp,om)) (some (il som,om))):=
   setF (x:=il som) (d:=om) (args_ok (cons_ok (args_ok (cons_ok (x:=.int 0) (d:=om) rfl (one_ok (sub_ok (i:=tp) rfl g1))) rfl) (cons_ok g2 (one_ok (x:=.int tp) (d:=om) rfl))) (by kernel_rfl)) (show 11 < 12 by decide) rfl
  obtain ⟨w3,x3,hw3,hx3,g3⟩:=io_take (f:=bC (.int 3)) (r:=T (some (il som,om))) (m:=3) (e:=om) hx2 (by omega) (by decide) rfl
  have hsom:∀ y∈som,0≤y∧y≤tp:=by
   intro y hy
   have t0':0≤tp:=t0.1
   rcases List.mem_cons.mp hy with e | hy
   ·rw [e];split <;> omega
   rcases List.mem_cons.mp hy with e | hy
   ·rw [e];omega
   rcases List.mem_cons.mp hy with e | hy
   ·rw [e];omega
   ·cases hy
  let v:=som.getD w3.toNat 0
  have hv:=hsom _ (getD_mem (xs:=som) (i:=w3.toNat) (by show w3.toNat < 3;omega))
  have g4:bBin opMul (bArgs opLst (aCons (bBin opIdx (bVar 11) (bCallIO a_take 0 (aCons (bC (.int 3)) (aNil)))) (aNil))) (bC (.int 6)) (Q x2 (some (.int tp,om)) (some (il som,om)))=.ok (.lst [.int v,.int v,.int v,.int v,.int v,.int v],om,Q x3 (some (.int tp,om)) (some (il som,om))):=
   bin_ok (args_ok (one_ok (idx_il (xs:=som) (k:=w3) (d:=0) rfl g3 (atI_nat hw3.1 (getD_get (by show w3.toNat < 3;omega))))) rfl) (y:=.int 6) (e:=om) rfl (by kernel_rfl)
  let al:List Int:=[0,(c:Int),v,v,v,v,v,v]
  have hk8:kd.toNat < al.length:=by show kd.toNat < 8;omega
  have hal:(0≤al.getD kd.toNat 0∧al.getD kd.toNat 0≤tp)∧(kd=1→al.getD kd.toNat 0=c):=by
   have:kd=0∨kd=1∨kd=2∨kd=3∨kd=4∨kd=5∨kd=6∨kd=7:=by omega
   rcases this with e | e | e | e | e | e | e | e
   ·rw [e];exact ⟨⟨by show (0:Int)≤0;omega,t0.1⟩,fun h=>by omega⟩
   ·have:=hkd1 e
    rw [e];exact ⟨⟨by show (0:Int)≤(c:Int);omega,by show (c:Int)≤topH c t r j;omega⟩,fun _=>rfl⟩
   all_goals rw [e];exact ⟨hv,fun h=>by omega⟩
  have g5:bBin opAdd (bArgs opLst (aCons (bC (.int 0)) (aCons (bVar 4) (aNil)))) (bBin opMul (bArgs opLst (aCons (bBin opIdx (bVar 11) (bCallIO a_take 0 (aCons (bC (.int 3)) (aNil)))) (aNil))) (bC (.int 6))) (Q x2 (some (.int tp,om)) (some (il som,om)))=.ok (il al,om,Q x3 (some (.int tp,om)) (some (il som,om))):=
   addL_ok (xs:=[.int 0,.int (c:Int)]) (d:=om) (by kernel_rfl) g4 (by show 2 + 6≤sizeLine;omega)
  refine ⟨al.getD kd.toNat 0,x3,some (.int tp,om),some (il som,om),hal.1,hal.2,hx3.mono (by omega),?_⟩
  refine (seq_nx v1).trans ((seq_nx v2).trans ?_)
  refine (app_ok (i:=8) (d0:=999) (d:=om) (xs:=r.map PV.int) (xs0:=r.map PV.int) rfl (idx_il g5 (k:=kd) (e:=om) rfl (atI_nat hkd.1 (getD_get hk8))) rfl (by decide) (by rw [List.length_map];omega) rfl).trans ?_
  rw [il_snoc]
  rfl
 have hab:a * b≤900:=Nat.le_trans (Nat.mul_le_mul ha.2 hb.2) (by decide)
 obtain ⟨ρ',e6,x',t,d6,s7,s8,s9,s10,s11,rfl,px,pt,hd6,_⟩:=forR_inv (i:=7) (body:=(sSeq (sSet false 8 (bArgs opLst (aNil)) [])
 (sSeq (sForR ends1 (aCons (bVar 3) (aNil)) (asgN 9) XpileIn)
 (sApp 6 (bVar 8) [8])))) (en:=ends1) (fa:=aCons (bVar 2) (aNil)) (ρ:=R x1 [] om none none none none none) (ρ1:=R x1 [] om none none none none none) (as:=[(.int (a:Int),om)]) (lo:=0) (hi:=(a:Int))
  (fun k ρ=>∃ x t d6 s7 s8 s9 s10 s11,ρ=R x t d6 s7 s8 s9 s10 s11∧Pl (B + 1 + 3 * ((k * b:Nat):Int)) x∧Pile k b c t∧d6≠0∧(kd=1→∀ i j,i < k→j < b→g t i j=c)) rfl (ends1_ok (by omega) (by omega)) ⟨x1,[],om,none,none,none,none,none,rfl,hx1.mono (by omega),⟨⟨rfl,fun _ h=>nomatch h⟩,fun _ _ h=>absurd h (by omega),fun _ _ h=>absurd h (by omega),fun _ _ h=>absurd h (by omega),fun _ _ h=>absurd h (by omega)⟩,by decide,fun _ _ _ h=>absurd h (by omega)⟩ (by
   rintro k ρ hk ⟨x,t,d6,s7,s8,s9,s10,s11,rfl,px,pt,hd6,hk1⟩
   have hk':k < a:=by omega
   have hkb:(k + 1) * b≤a * b:=Nat.mul_le_mul_right b hk'
   rw [Nat.succ_mul] at hkb
   have l:=pt.tab.1
   have u1:sSet false 8 (bArgs opLst (aNil)) [] (R x t d6 (some (.int (0 + (k:Int)),om)) s8 s9 s10 s11)=.nx (R x t d6 (some (.int (0 + (k:Int)),om)) (some (il [],om)) s9 s10 s11):=rfl
   obtain ⟨ρ2,e2,x2,r,t9,t10,t11,rfl,px2,hr,hr0,hr1,hrn,hrk⟩:=forR_inv (i:=9) (body:=XpileIn) (en:=ends1) (fa:=aCons (bVar 3) (aNil)) (ρ:=R x t d6 (some (.int (0 + (k:Int)),om)) (some (il [],om)) s9 s10 s11) (ρ1:=R x t d6 (some (.int (0 + (k:Int)),om)) (some (il [],om)) s9 s10 s11) (as:=[(.int (b:Int),om)]) (lo:=0) (hi:=(b:Int))
    (fun j ρ=>∃ x r s9 s10 s11,ρ=R x t d6 (some (.int (0 + (k:Int)),om)) (some (il r,om)) s9 s10 s11∧Pl (B + 1 + 3 * ((k * b:Nat):Int) + 3 * (j:Int)) x∧r.length=j∧(∀ y,y < j→0≤r.getD y 0)∧(∀ y,y < j→r.getD y 0≤upH c t y)∧Nr r∧(kd=1→∀ y,y < j→r.getD y 0=c)) rfl (ends1_ok (by omega) (by omega)) ⟨x,[],s9,s10,s11,rfl,px.mono (by omega),rfl,fun _ h=>absurd h (by omega),fun _ h=>absurd h (by omega),fun _ h=>absurd h (by simp),fun _ _ h=>absurd h (by omega)⟩ (by
     rintro j ρ hj ⟨x,r,s9,s10,s11,rfl,px,hr,hr0,hr1,hrn,hrk⟩
     have hj':j < b:=by omega
     obtain ⟨h,x2,t10,t11,hh,hh1,px2,eh⟩:=step x _ t d6 k j r (some (.int (0 + (k:Int)),om)) s10 s11 px (by omega) hk' hj' pt hr hr0 (fun e=>by
      unfold topH upH
      by_cases e1:r.length=0
      ·rw [if_pos e1]
       by_cases e2:t.length=0
       ·rw [if_pos e2]
       ·rw [if_neg e2];exact hk1 e _ _ (by omega) hj'
      ·rw [if_neg e1,hrk e _ (by omega)]
       by_cases e2:t.length=0
       ·rw [if_pos e2];omega
       ·rw [if_neg e2,hk1 e _ _ (by omega) hj'];omega)
     refine ⟨show 9 < 12 by decide,R x2 t d6 (some (.int (0 + (k:Int)),om)) (some (il (r++[h]),om)) (some (.int (0 + (j:Int)),om)) t10 t11,?_,x2,r++[h],some (.int (0 + (j:Int)),om),t10,t11,rfl,px2.mono (by omega),by rw [List.length_append,hr];rfl,fun y hy=>?_,fun y hy=>?_,fun y hy=>?_,fun e y hy=>?_⟩
     ·have ez:(0:Int) + (j:Int)=(j:Int):=Int.zero_add _
      rw [ez]
      exact eh
     ·rw [snoc_get]
      by_cases e:y < r.length
      ·rw [if_pos e];exact hr0 y (by omega)
      ·rw [if_neg e,if_pos (by omega)];exact hh.1
     ·rw [snoc_get]
      by_cases e:y < r.length
      ·rw [if_pos e];exact hr1 y (by omega)
      ·rw [if_neg e,if_pos (by omega),show y=j by omega]
       have:=hh.2
       unfold topH at this
       split at this <;> omega
     ·rw [List.length_append,List.length_singleton] at hy
      rw [snoc_get,snoc_get]
      by_cases e:y + 1 < r.length
      ·rw [if_pos e,if_pos (by omega)];exact hrn y e
      ·rw [if_neg e,if_pos (by omega),if_pos (by omega)]
       have:=hh.2
       unfold topH at this
       rw [if_neg (by omega),show r.length - 1=y by omega] at this
       omega
     ·rw [snoc_get]
      by_cases e2:y < r.length
      ·rw [if_pos e2];exact hrk e y (by omega)
      ·rw [if_neg e2,if_pos (by omega)];exact hh1 e)
   rw [show ((b:Int) - 0).toNat=b by omega] at hr hr0 hr1 hrk px2
   refine ⟨show 7 < 12 by decide,R x2 (t++[r]) 1 (some (.int (0 + (k:Int)),om)) (some (il r,0)) t9 t10 t11,?_,x2,t++[r],1,_,_,_,_,_,rfl,px2.mono ?_,pt.snoc hr (fun y hy=>⟨hr0 y hy,hr1 y hy⟩) hrn,by decide,fun e i j hi hj=>?_⟩
   ·refine (seq_nx u1).trans ((seq_nx e2).trans ?_)
    obtain ⟨d0,rfl⟩:∃ d0,d6=d0 + 1:=⟨d6 - 1,by omega⟩
    refine (app_ok (i:=6) (d0:=d0) (d:=d0 + 1) (y:=il r) (e:=0) (xs:=t.map il) (xs0:=t.map il) rfl rfl rfl hd6 (by rw [List.length_map,pt.tab.1];omega) rfl).trans ?_
    rw [tb_snoc,if_neg (fun h=>absurd h.2 (by decide))]
    rfl
   ·rw [Nat.succ_mul];omega
   ·unfold g
    rw [snoc_row,l]
    by_cases z:i < k
    ·rw [if_pos z];exact hk1 e i j z hj
    ·rw [if_neg z,if_pos (by omega)];exact hrk e j hj)
 rw [show ((a:Int) - 0).toNat=a by omega] at pt px
 exact ⟨t,d6,x',pt,hd6,px.mono (by omega),fnio_rt (c:=om) rfl ((seq_nx s1).trans ((seq_nx s2).trans ((seq_nx s3).trans ((seq_nx e6).trans rfl)))) rfl⟩
open PySem PySem.Spec PyProof.Rows L2 QQ
abbrev C3:=Nat×Nat×Nat
def c3 (x:C3):PV:=.tup [.int (x.1:Int),.int (x.2.1:Int),.int (x.2.2:Int)]
def ct (cs:List C3):PV:=.lst (cs.map c3)
open PySem PySem.Spec PyProof.Rows L2 QQ
theorem loopQ_inv {asg:PV→Rho→Option Rho}{body:Fs}:∀ (els:List PV) (I:Nat→Rho→Prop) (ρ:Rho),I 0 ρ→(∀ j x ρ,els[j]?=some x→I j ρ→∃ ρ1 ρ2,asg x ρ=some ρ1∧body ρ1=.nx ρ2∧I (j + 1) ρ2)→∃ ρ',loopQ asg body els ρ=.nx ρ'∧I els.length ρ'
 | [],I,ρ,h,_=>⟨ρ,rfl,h⟩
 | x::xs,I,ρ,h,hb=>by
  obtain ⟨ρ1,ρ2,e1,e2,h2⟩:=hb 0 x ρ rfl h
  obtain ⟨ρ',e',h'⟩:=loopQ_inv xs (fun j=>I (j + 1)) ρ2 h2 fun j y ρ hy hi=>hb (j + 1) y ρ (by simpa using hy) hi
  refine ⟨ρ',?_,h'⟩
  unfold loopQ
  rw [e1]
  dsimp only
  rw [e2]
  exact e'
theorem forQ_inv {i0:Nat}{is:List Nat}{asg:PV→Rho→Option Rho}{body:Fs}{ρ:Rho}{els:List PV}{d:Nat} (I:Nat→Rho→Prop) (hf:ρ[i0]?=some (some (.lst els,d))) (h0:I 0 ρ)
  (hb:∀ j x ρ,els[j]?=some x→I j ρ→∃ ρ1 ρ2,asg x ρ=some ρ1∧body ρ1=.nx ρ2∧I (j + 1) ρ2):∃ ρ',sForQ i0 is asg body ρ=.nx (kill is 0 ρ')∧I els.length ρ':=by
 obtain ⟨ρ',e,h⟩:=loopQ_inv els I ρ h0 hb
 refine ⟨ρ',?_,h⟩
 unfold sForQ
 rw [hf]
 dsimp only
 rw [e]
open PySem PySem.Spec PyProof.Rows L2 QQ
def Xf_mirrored_pile:Fs:=(sSeq (sDrop (bCall f_must_be_pile (aCons (bVar 0) (aCons (bVar 1) (aNil)))))
 (sRet (bCompR ends1 (aCons (bBin opIdx (bVar 0) (bC (.int 1))) (aNil)) 1 (asgN 2) tTrue (bCall f_column_of (aCons (bVar 1) (aCons (bVar 2) (aNil)))))))
def f_mirrored_pile:Fn:=mkFn false 2 0 Xf_mirrored_pile
def Xf_rolled_pile:Fs:=(sSeq (sDrop (bCall f_must_be_pile (aCons (bVar 0) (aCons (bVar 1) (aNil)))))
 (sSeq (sSet false 2 (bArgs opLst (aNil)) [])
 (sSeq (sForR ends1 (aCons (bBin opIdx (bVar 0) (bC (.int 1))) (aNil)) (asgN 3) (sSeq (sSet false 4 (bCall f_column_of (aCons (bVar 1) (aCons (bVar 3) (aNil)))) [1,3])
 (sApp 2 (bCompR ends1 (aCons (bBin opIdx (bVar 0) (bC (.int 2))) (aNil)) 1 (asgN 5) tTrue (bCall f_how_many_above (aCons (bVar 4) (aCons (bVar 5) (aNil))))) [4])))
 (sRetV 2))))
def f_rolled_pile:Fn:=mkFn false 2 3 Xf_rolled_pile
open PySem PySem.Spec PyProof.Rows L2 QQ
open PySem PySem.Spec PyProof.Rows L2 QQ
open PySem PySem.Spec PyProof.Rows L2 QQ
theorem orF {f g:Fx}{ρ ρ1:Rho}{d:Nat} (h:f ρ=.ok (.bl false,d,ρ1)):bOrV f g ρ=g ρ1:=by
 unfold bOrV
 rw [h]
 rfl
theorem repL_int (v:Int):∀ n:Nat,repL n [.int v]=(List.replicate n v).map PV.int
 | 0=>rfl
 | n + 1=>by
  show [PV.int v]++repL n [.int v]=_
  rw [repL_int v n]
  rfl
theorem rep_ok {f g:Fx}{ρ ρ1 ρ2:Rho}{v:Int}{n:Nat}{d e:Nat} (h1:f ρ=.ok (.lst [.int v],d,ρ1)) (h2:g ρ1=.ok (.int (n:Int),e,ρ2)) (hn:n≤1000):bBin opMul f g ρ=.ok (il (List.replicate n v),om,ρ2):=by
 refine bin_ok h1 h2 ?_
 have z:=sz
 unfold opMul
 dsimp only
 rw [if_pos ⟨by omega,by omega,by rw [List.length_singleton,Int.toNat_natCast];omega⟩,Int.toNat_natCast,repL_int,d1_int]
 rfl
def hT (t:List (List Int)):List C3→List (List Int)
 | []=>t
 | x::r=>hT (putT t x.1 x.2.1) r
open PySem PySem.Spec PyProof.Rows L2 QQ
open PySem PySem.Spec PyProof.Rows L2 QQ
def Xf_cubes_needed_by:Fs:=(sSeq (sUnp (asgT [1,2,3]) (bVar 0) [0])
 (sSeq (sSet false 4 (bArgs opLst (aCons (bArgs opTup (aCons (bBin opSub (bVar 1) (bC (.int 1))) (aCons (bVar 2) (aCons (bVar 3) (aNil))))) (aCons (bArgs opTup (aCons (bVar 1) (aCons (bBin opSub (bVar 2) (bC (.int 1))) (aCons (bVar 3) (aNil))))) (aCons (bArgs opTup (aCons (bVar 1) (aCons (bVar 2) (aCons (bBin opSub (bVar 3) (bC (.int 1))) (aNil))))) (aNil))))) [1,2,3,1,2,3,1,2,3])
 (sRet (bCompS (bVar 4) 1 (asgN 5) (bT (bBin (opCmp fun i j=>decide (j≤i)) (bArgs opMin (aCons (bVar 5) (aNil))) (bC (.int 0)))) (bVar 5)))))
def f_cubes_needed_by:Fn:=mkFn false 1 4 Xf_cubes_needed_by
open PySem PySem.Spec PyProof.Rows L2 QQ
def sgn (b:Bool):Nat:=if b then 114 else 100
def strW (w:List Bool):Str:=⟨(w.map sgn).toArray⟩
def wd (w:List Bool):PV:=.str (strW w)
def pos:Nat→List Bool→List Nat
 | _,[]=>[]
 | k,true::w=>pos (k + 1) w
 | k,false::w=>k::pos k w
open PySem PySem.Spec PyProof.Rows L2 QQ
theorem forS_of {f:Fx}{vs:List Nat}{asg:PV→Rho→Option Rho}{body:Fs}{ρ ρ1 ρ2:Rho}{r:Rs}{els:List PV}{d:Nat} (hf:f ρ=.ok (.lst els,d,ρ1)) (ec:coolIf d vs ρ1=ρ2) (h:loopS asg body els ρ2=r):sForS f vs asg body ρ=r:=by
 unfold sForS
 rw [hf]
 dsimp only
 rw [ec,h]
theorem forR_of {en:List (PV×Nat)→Option (Int×Int)}{fa:Fa}{asg:PV→Rho→Option Rho}{body:Fs}{ρ ρ1:Rho}{r:Rs}{as:List (PV×Nat)}{n:Nat} (hf:fa ρ=.ok (as,ρ1)) (hen:en as=some (0,(n:Int))) (h:loopS asg body ((List.range n).map fun (k:Nat)=>.int (k:Int)) ρ1=r):sForR en fa asg body ρ=r:=by
 unfold sForR
 rw [hf]
 dsimp only
 rw [hen]
 dsimp only
 rw [rangeL_eq,show ((n:Int) - 0).toNat=n by omega,← h]
 congr 2
 funext k
 rw [Int.zero_add]
theorem copy_tb {n i:Nat}{t:List (List Int)}{ρ:Rho}{d:Nat} (hf:bVar i ρ=.ok (tb t,d,ρ)) (hn:ρ.length=n) (hl:t.length≤1000):bCompS (bVar i) 1 (asgN n) tTrue (bArgs opLstC (aCons (bVar n) (aNil))) ρ=.ok (tb t,om,ρ):=
 have z:=sz
 compS_ok (n:=n) (enc:=il) (q:=il) t hf hn (fun r _=>lstC_il (d:=0) (by
  unfold bVar
  rw [List.getElem?_append_right (by omega),hn,Nat.sub_self]
  rfl)) (by omega)
open PySem PySem.Spec PyProof.Rows L2 QQ
def mostN (c:Int) (u:List (List Int)) (i j:Nat):Int:=
 let m:=if 0 < i then (if g u (i - 1) j < c then g u (i - 1) j else c) else c
 if 0 < j then (if g u i (j - 1) < m then g u i (j - 1) else m) else m
theorem most_facts {a b c:Nat}{u:List (List Int)} (p:Pile a b c u) {i j:Nat} (hi:i < a) (hj:j < b):mostN c u i j≤c∧(0 < i→mostN c u i j≤g u (i - 1) j)∧(0 < j→mostN c u i j≤g u i (j - 1))∧g u i j≤mostN c u i j:=by
 have h1:=p.hi i j hi hj
 have h2:0 < i→g u i j≤g u (i - 1) j:=fun h=>by have:=p.dn (i - 1) j (by omega) hj;rwa [show i - 1 + 1=i by omega] at this
 have h3:0 < j→g u i j≤g u i (j - 1):=fun h=>by have:=p.rt i (j - 1) hi (by omega);rwa [show j - 1 + 1=j by omega] at this
 unfold mostN
 dsimp only
 refine ⟨?_,fun _=>?_,fun _=>?_,?_⟩ <;> (repeat' split) <;> first | omega | (have:=h2 (by assumption);omega) | (have:=h3 (by assumption);omega) | (have:=h2 (by assumption);have:=h3 (by assumption);omega)
open PySem PySem.Spec PyProof.Rows L2 QQ
open PySem PySem.Spec PyProof.Rows L2 QQ
theorem sl_to {f j:Fx}{ρ ρ1:Rho}{xs:List PV}{n d e:Nat} (h1:f ρ=.ok (.lst xs,d,ρ1)) (h2:j ρ1=.ok (.int (n:Int),e,ρ1)) (hn:n≤xs.length):bSl f none (some j) ρ=.ok (.lst (xs.take n),d1 (xs.take n),ρ1):=by
 have ec:cutP xs none (some (n:Int))=xs.take n:=by
  unfold cutP
  rw [HT.sIx_nat]
  show (xs.drop 0).take (min n xs.length - 0)=_
  rw [List.drop_zero,Nat.sub_zero,Nat.min_eq_left hn]
 unfold bSl
 rw [h1]
 dsimp only [Rz.bind,evO]
 rw [h2]
 dsimp only [opSl]
 rw [ec]
theorem sl_from {f j:Fx}{ρ ρ1:Rho}{xs:List PV}{n d e:Nat} (h1:f ρ=.ok (.lst xs,d,ρ1)) (h2:j ρ1=.ok (.int (n:Int),e,ρ1)) (hn:n < xs.length):bSl f (some (bBin opAdd j (bC (.int 1)))) none ρ=.ok (.lst (xs.drop (n + 1)),d1 (xs.drop (n + 1)),ρ1):=by
 have ec:cutP xs (some ((n:Int) + 1)) none=xs.drop (n + 1):=by
  unfold cutP
  rw [show (n:Int) + 1=((n + 1:Nat):Int) by omega,HT.sIx_nat,HT.sIx_none,Nat.min_eq_left (by omega)]
  exact List.take_of_length_le (by rw [List.length_drop];exact Nat.le_refl _)
 unfold bSl
 rw [h1]
 dsimp only [Rz.bind,evO]
 rw [add_ok h2 (j:=1) (e:=om) rfl]
 dsimp only [opSl]
 rw [ec]
theorem sl_init {f:Fx}{ρ ρ1:Rho}{xs:List PV}{d:Nat} (h1:f ρ=.ok (.lst xs,d,ρ1)):bSl f none (some (bUn opNeg (bC (.int 1)))) ρ=.ok (.lst (xs.take (xs.length - 1)),d1 (xs.take (xs.length - 1)),ρ1):=by
 have ec:cutP xs none (some (-1))=xs.take (xs.length - 1):=by
  unfold cutP
  have e:HT.sIx xs.length xs.length (some (-1))=xs.length - 1:=by
   show (if (-1:Int) < 0 then (-1 + (xs.length:Int)).toNat else min (-1:Int).toNat xs.length)=_
   rw [if_pos (by decide)];omega
  rw [e]
  show (xs.drop 0).take (xs.length - 1 - 0)=_
  rw [List.drop_zero,Nat.sub_zero]
 unfold bSl
 rw [h1]
 show Rz.ok (PV.lst (cutP xs none (some (-1))),d1 (cutP xs none (some (-1))),ρ1)=_
 rw [ec]
theorem lst_one {f:Fx}{ρ ρ1:Rho}{x:PV}{d:Nat} (h:f ρ=.ok (x,d,ρ1)):∃ e,bArgs opLst (aCons f aNil) ρ=.ok (.lst [x],e,ρ1):=⟨_,args_ok (one_ok h) (by unfold opLst;rw [if_pos (by have:=sz;show 1≤sizeLine;omega)];rfl)⟩
def rwL (xs:List PV) (j:Nat) (x:PV):List PV:=(xs.take j++[x])++xs.drop (j + 1)
theorem rw_val {f fj fx:Fx}{ρ:Rho}{xs:List PV}{x:PV}{j d e c:Nat} (h1:f ρ=.ok (.lst xs,d,ρ)) (h2:fj ρ=.ok (.int (j:Int),e,ρ)) (h3:fx ρ=.ok (x,c,ρ)) (hj:j < xs.length) (hl:xs.length≤1000):
  bBin opAdd (bBin opAdd (bSl f none (some fj)) (bArgs opLst (aCons fx aNil))) (bSl f (some (bBin opAdd fj (bC (.int 1)))) none) ρ=.ok (.lst (rwL xs j x),d1 (rwL xs j x),ρ):=by
 have z:=sz
 obtain ⟨e3,h4⟩:=lst_one h3
 refine addL_ok (addL_ok (sl_to h1 h2 (by omega)) h4 ?_) (sl_from h1 h2 hj) ?_
 ·rw [List.length_take,List.length_singleton];omega
 ·rw [List.length_append,List.length_take,List.length_singleton,List.length_drop];omega
theorem rwL_mem {xs:List PV}{j:Nat}{x y:PV} (h:y∈rwL xs j x):y∈xs∨y=x:=by
 unfold rwL at h
 rw [List.mem_append,List.mem_append] at h
 rcases h with (h | h) | h
 ·exact .inl (List.mem_of_mem_take h)
 ·exact .inr (List.mem_singleton.mp h)
 ·exact .inl (List.mem_of_mem_drop h)
theorem rwL_len {xs:List PV}{j:Nat}{x:PV} (h:j < xs.length):(rwL xs j x).length=xs.length:=by
 unfold rwL
 rw [List.length_append,List.length_append,List.length_take,List.length_singleton,List.length_drop]
 omega
theorem boxB_nat {a b c:Nat} (ha:1≤a) (hb:1≤b) (hc:1≤c):boxB a b c=true:=by
 unfold boxB
 rw [decide_eq_true (show (1:Int)≤a by omega),decide_eq_true (show (1:Int)≤b by omega),decide_eq_true (show (1:Int)≤c by omega)]
 rfl
theorem ok_il {n:Nat}{r:List Int} (h:r.length≤1000):okE (n + 2) (il r)=true:=okE_mk (by rw [List.length_map];exact h) fun x hx=>by
 obtain ⟨i,_,rfl⟩:=List.mem_map.mp hx
 rfl
theorem exc_seq {f g:Fs}{ρ:Rho}{c:Nat} (h:f ρ=.exc c):sSeq f g ρ=.exc c:=by unfold sSeq;rw [h]
theorem exc_call {F:Fn}{fa:Fa}{ρ ρ1:Rho}{xs:List (PV×Nat)}{c:Nat} (h1:fa ρ=.ok (xs,ρ1)) (h2:F (xs.map (·.1))=.exc c):bCall F fa ρ=.exc c:=by
 unfold bCall
 rw [h1]
 dsimp only [Rz.bind]
 rw [h2]
theorem exc_drop {f:Fx}{ρ:Rho}{c:Nat} (h:f ρ=.exc c):sDrop f ρ=.exc c:=by unfold sDrop;rw [h]
theorem exc_fn {np k:Nat}{b:Fs}{xs:List PV}{c:Nat} (hl:xs.length=np) (h:b (xs.map (fun x=>some (x,dv x))++List.replicate k none)=.exc c):mkFn false np k b xs=.exc c:=by
 unfold mkFn
 rw [if_pos hl]
 show (match b (xs.map (fun x=>some (x,dv x))++List.replicate k none) with | .rt y d ρ=>_ | .nx ρ=>_ | .exc c=>_ | _=>_)=_
 rw [h]
theorem nobox_must {y:PV} (h:f_is_box [y]=.ok (.bl false,om,.non)):f_must_be_box [y]=.exc 1:=
 exc_fn rfl ((if_t (f:=sExc 1) (g:=sNil) (t_ok (not_ok (call_ok (F:=f_is_box) (fa:=aCons (bVar 0) aNil) (ρ:=[some (y,dv y)]) (xs:=[(y,dv y)]) rfl h)))).trans rfl)
theorem nobox_pile {y x:PV} (h:f_is_box [y]=.ok (.bl false,om,.non)):f_is_pile [y,x]=.exc 1:=
 exc_fn rfl (exc_seq (exc_drop (exc_call (ρ:=[some (y,dv y),some (x,dv x),none,none,none]) (xs:=[(y,dv y)]) rfl (nobox_must h))))
theorem nobox_mustp {y x:PV} (h:f_is_box [y]=.ok (.bl false,om,.non)):f_must_be_pile [y,x]=.exc 1:=by
 refine exc_fn rfl ?_
 show sIf _ (sExc 2) sNil [some (y,dv y),some (x,dv x)]=_
 have e:bT (bUn opNot (bCall f_is_pile (aCons (bVar 0) (aCons (bVar 1) (aNil))))) [some (y,dv y),some (x,dv x)]=.exc 1:=by
  unfold bT bUn
  rw [exc_call (xs:=[(y,dv y),(x,dv x)]) rfl (nobox_pile h)]
  rfl
 unfold sIf
 rw [e]
theorem nopile_must {y x:PV} (h:f_is_pile [y,x]=.ok (.bl false,om,.non)):f_must_be_pile [y,x]=.exc 2:=
 exc_fn rfl ((if_t (f:=sExc 2) (g:=sNil) (t_ok (not_ok (call_ok (F:=f_is_pile) (fa:=aCons (bVar 0) (aCons (bVar 1) aNil)) (ρ:=[some (y,dv y),some (x,dv x)]) (xs:=[(y,dv y),(x,dv x)]) rfl h)))).trans rfl)
theorem loop_all {asg:PV→Rho→Option Rho}{body:Fs}{N:Nat} (I:Nat→Rho→Prop) (P:PV→Prop):∀ (els:List PV) (n:Nat) (ρ:Rho),n + els.length≤N→(∀ x∈els,P x)→I n ρ→(∀ x n ρ,n < N→P x→I n ρ→∃ ρ1 ρ2,asg x ρ=some ρ1∧body ρ1=.nx ρ2∧I (n + 1) ρ2)→∃ ρ',loopS asg body els ρ=.nx ρ'∧I (n + els.length) ρ'
 | [],n,ρ,_,_,h,_=>⟨ρ,rfl,h⟩
 | x::xs,n,ρ,hN,hp,h,hb=>by
  rw [List.length_cons] at hN
  obtain ⟨ρ1,ρ2,e1,e2,h2⟩:=hb x n ρ (by omega) (hp x List.mem_cons_self) h
  obtain ⟨ρ',e,h'⟩:=loop_all I P xs (n + 1) ρ2 (by omega) (fun y hy=>hp y (List.mem_cons_of_mem _ hy)) h2 hb
  refine ⟨ρ',?_,by rw [List.length_cons,show n + (xs.length + 1)=n + 1 + xs.length by omega];exact h'⟩
  unfold loopS
  rw [e1]
  dsimp only
  rw [e2]
  exact e
open PySem PySem.Spec PyProof.Rows L2 QQ
theorem loopQ_all {asg:PV→Rho→Option Rho}{body:Fs} (ok:PV→Bool) (I:Rho→Prop):∀ (els:List PV) (ρ:Rho),I ρ→(∀ x∈els,∀ ρ,I ρ→∃ ρ1,asg x ρ=some ρ1∧((ok x=true∧∃ ρ2,body ρ1=.nx ρ2∧I ρ2)∨(ok x=false∧∃ ρ2,body ρ1=.rt (.bl false) om ρ2))) →
  (els.all ok=true∧∃ ρ',loopQ asg body els ρ=.nx ρ'∧I ρ')∨(els.all ok=false∧∃ ρ',loopQ asg body els ρ=.rt (.bl false) om ρ')
 | [],ρ,h,_=>.inl ⟨rfl,ρ,rfl,h⟩
 | x::xs,ρ,h,hb=>by
  obtain ⟨ρ1,e1,⟨hx,ρ2,e2,h2⟩ | ⟨hx,ρ2,e2⟩⟩:=hb x List.mem_cons_self ρ h
  ·rcases loopQ_all ok I xs ρ2 h2 (fun y hy=>hb y (List.mem_cons_of_mem _ hy)) with ⟨ha,ρ',e,h'⟩ | ⟨ha,ρ',e⟩
   ·exact .inl ⟨by rw [List.all_cons,hx,ha];rfl,ρ',by unfold loopQ;rw [e1];dsimp only;rw [e2];exact e,h'⟩
   ·exact .inr ⟨by rw [List.all_cons,ha,Bool.and_false],ρ',by unfold loopQ;rw [e1];dsimp only;rw [e2];exact e⟩
  ·exact .inr ⟨by rw [List.all_cons,hx,Bool.false_and],ρ2,by unfold loopQ;rw [e1];dsimp only;rw [e2]⟩
theorem forQ_all {i0:Nat}{is:List Nat}{asg:PV→Rho→Option Rho}{body:Fs}{ρ:Rho}{els:List PV}{d:Nat} (ok:PV→Bool) (I:Rho→Prop) (hf:ρ[i0]?=some (some (.lst els,d))) (h0:I ρ) (hb:∀ x∈els,∀ ρ,I ρ→∃ ρ1,asg x ρ=some ρ1∧((ok x=true∧∃ ρ2,body ρ1=.nx ρ2∧I ρ2)∨(ok x=false∧∃ ρ2,body ρ1=.rt (.bl false) om ρ2))):
  (els.all ok=true∧∃ ρ',sForQ i0 is asg body ρ=.nx (kill is 0 ρ')∧I ρ')∨(els.all ok=false∧∃ ρ',sForQ i0 is asg body ρ=.rt (.bl false) om ρ'):=by
 rcases loopQ_all ok I els ρ h0 hb with ⟨ha,ρ',e,h'⟩ | ⟨ha,ρ',e⟩
 ·exact .inl ⟨ha,ρ',by unfold sForQ;rw [hf];dsimp only;rw [e],h'⟩
 ·exact .inr ⟨ha,kill is 0 ρ',by unfold sForQ;rw [hf];dsimp only;rw [e]⟩
theorem loopS_all {asg:PV→Rho→Option Rho}{body:Fs} (ok:PV→Bool) (I:Rho→Prop):∀ (els:List PV) (ρ:Rho),I ρ→(∀ x∈els,∀ ρ,I ρ→∃ ρ1,asg x ρ=some ρ1∧((ok x=true∧∃ ρ2,body ρ1=.nx ρ2∧I ρ2)∨(ok x=false∧∃ ρ2,body ρ1=.rt (.bl false) om ρ2))) →
  (els.all ok=true∧∃ ρ',loopS asg body els ρ=.nx ρ'∧I ρ')∨(els.all ok=false∧∃ ρ',loopS asg body els ρ=.rt (.bl false) om ρ')
 | [],ρ,h,_=>.inl ⟨rfl,ρ,rfl,h⟩
 | x::xs,ρ,h,hb=>by
  obtain ⟨ρ1,e1,⟨hx,ρ2,e2,h2⟩ | ⟨hx,ρ2,e2⟩⟩:=hb x List.mem_cons_self ρ h
  ·rcases loopS_all ok I xs ρ2 h2 (fun y hy=>hb y (List.mem_cons_of_mem _ hy)) with ⟨ha,ρ',e,h'⟩ | ⟨ha,ρ',e⟩
   ·exact .inl ⟨by rw [List.all_cons,hx,ha];rfl,ρ',by unfold loopS;rw [e1];dsimp only;rw [e2];exact e,h'⟩
   ·exact .inr ⟨by rw [List.all_cons,ha,Bool.and_false],ρ',by unfold loopS;rw [e1];dsimp only;rw [e2];exact e⟩
  ·exact .inr ⟨by rw [List.all_cons,hx,Bool.false_and],ρ2,by unfold loopS;rw [e1];dsimp only;rw [e2]⟩
open PySem PySem.Spec PyProof.Rows L2 QQ
theorem loop_find {α:Type}{asg:PV→Rho→Option Rho}{body:Fs}{enc:α→PV} (ok:α→Bool) (I:Rho→Prop):∀ (xs:List α) (ρ:Rho),I ρ→(∀ x∈xs,∀ ρ,I ρ→∃ ρ1,asg (enc x) ρ=some ρ1∧((ok x=true∧∃ ρ2,body ρ1=.nx ρ2∧I ρ2)∨(ok x=false∧∃ ρ2,body ρ1=.rt (.bl false) om ρ2))) →
  (xs.all ok=true∧∃ ρ',loopS asg body (xs.map enc) ρ=.nx ρ'∧I ρ')∨(xs.all ok=false∧∃ ρ',loopS asg body (xs.map enc) ρ=.rt (.bl false) om ρ')
 | [],ρ,h,_=>.inl ⟨rfl,ρ,rfl,h⟩
 | x::xs,ρ,h,hb=>by
  obtain ⟨ρ1,e1,⟨hx,ρ2,e2,h2⟩ | ⟨hx,ρ2,e2⟩⟩:=hb x List.mem_cons_self ρ h
  ·rcases loop_find ok I xs ρ2 h2 fun y hy=>hb y (List.mem_cons_of_mem _ hy) with ⟨ha,ρ',e,h'⟩ | ⟨ha,ρ',e⟩
   ·refine .inl ⟨by rw [List.all_cons,hx,ha];rfl,ρ',?_,h'⟩
    rw [List.map_cons];unfold loopS;rw [e1];dsimp only;rw [e2];exact e
   ·refine .inr ⟨by rw [List.all_cons,hx,ha];rfl,ρ',?_⟩
    rw [List.map_cons];unfold loopS;rw [e1];dsimp only;rw [e2];exact e
  ·refine .inr ⟨by rw [List.all_cons,hx];rfl,ρ2,?_⟩
   rw [List.map_cons];unfold loopS;rw [e1];dsimp only;rw [e2]
def cellOk (c:Int) (t:List (List Int)) (i j:Nat):Bool:=decide (0≤g t i j) && decide (g t i j≤mostN c t i j)
theorem cells_iff {a b c:Nat}{t:List (List Int)} (ht:Tab a b t):((List.range a).all fun i=>(List.range b).all fun j=>cellOk c t i j)=pileB a b c t:=by
 rw [Bool.eq_iff_iff,pileB_iff ht]
 simp only [List.all_eq_true,List.mem_range,cellOk,Bool.and_eq_true,decide_eq_true_iff]
 constructor
 ·intro h
  refine ⟨ht,fun i j hi hj=>(h i hi j hj).1,fun i j hi hj=>?_,fun i j hi hj=>?_,fun i j hi hj=>?_⟩
  ·have:=(h i hi j hj).2
   unfold mostN at this
   dsimp only at this
   (repeat' split at this) <;> omega
  ·have:=(h (i + 1) hi j hj).2
   unfold mostN at this
   dsimp only at this
   rw [if_pos (by omega:0 < i + 1)] at this
   rw [Nat.add_sub_cancel] at this
   (repeat' split at this) <;> omega
  ·have:=(h i hi (j + 1) hj).2
   unfold mostN at this
   dsimp only at this
   rw [if_pos (by omega:0 < j + 1)] at this
   rw [Nat.add_sub_cancel] at this
   (repeat' split at this) <;> omega
 ·intro p i hi j hj
  exact ⟨p.lo i j hi hj,(most_facts p hi hj).2.2.2⟩
def XIc:Fs:=(sSeq (sSet false 5 (bBin opIdx (bVar 0) (bC (.int 2))) [0])
 (sSeq (sIf (bT (bBin (opCmp fun i j=>decide (j < i)) (bVar 3) (bC (.int 0)))) (sSet false 5 (bArgs opMin (aCons (bVar 5) (aCons (bBin opIdx (bBin opIdx (bVar 1) (bBin opSub (bVar 3) (bC (.int 1)))) (bVar 4)) (aNil)))) [5,1,3,4]) sNil)
 (sSeq (sIf (bT (bBin (opCmp fun i j=>decide (j < i)) (bVar 4) (bC (.int 0)))) (sSet false 5 (bArgs opMin (aCons (bVar 5) (aCons (bBin opIdx (bBin opIdx (bVar 1) (bVar 3)) (bBin opSub (bVar 4) (bC (.int 1)))) (aNil)))) [5,1,3,4]) sNil)
 (sIf (bT (bOrV (bBin (opCmp fun i j=>decide (i < j)) (bBin opIdx (bBin opIdx (bVar 1) (bVar 3)) (bVar 4)) (bC (.int 0))) (bBin (opCmp fun i j=>decide (j < i)) (bBin opIdx (bBin opIdx (bVar 1) (bVar 3)) (bVar 4)) (bVar 5)))) (sRet (bC (.bl false))) sNil))))
theorem XIc_ok {a b c:Nat}{t:List (List Int)} (ht:Tab a b t) {i j:Nat} (hi:i < a) (hj:j < b) {s2 s5:QQ.Slot}:
  ∃ m:Int,XIc [some (bx a b c,0),some (tb t,0),s2,some (.int (i:Int),om),some (.int (j:Int),om),s5]=if cellOk c t i j=true then .nx [some (bx a b c,0),some (tb t,0),s2,some (.int (i:Int),om),some (.int (j:Int),om),some (.int m,om)] else .rt (.bl false) om [some (bx a b c,0),some (tb t,0),s2,some (.int (i:Int),om),some (.int (j:Int),om),some (.int m,om)]:=by
 let Q (s5:QQ.Slot):Rho:=[some (bx a b c,0),some (tb t,0),s2,some (.int (i:Int),om),some (.int (j:Int),om),s5]
 let I (m:Int):QQ.Slot:=some (.int m,om)
 have v3:sSet false 5 (bBin opIdx (bVar 0) (bC (.int 2))) [0] (Q s5)=.nx (Q (I c)):=by kernel_rfl
 let m1:Int:=if 0 < i then (if g t (i - 1) j < (c:Int) then g t (i - 1) j else c) else c
 have v4:sIf (bT (bBin (opCmp fun i j=>decide (j < i)) (bVar 3) (bC (.int 0)))) (sSet false 5 (bArgs opMin (aCons (bVar 5) (aCons (bBin opIdx (bBin opIdx (bVar 1) (bBin opSub (bVar 3) (bC (.int 1)))) (bVar 4)) (aNil)))) [5,1,3,4]) sNil (Q (I c))=.nx (Q (I m1)):=by
  have tt:bT (bBin (opCmp fun i j=>decide (j < i)) (bVar 3) (bC (.int 0))) (Q (I c))=.ok (decide (0 < (i:Int)),Q (I c)):=rfl
  show _=Rs.nx (Q (I (if 0 < i then _ else _)))
  by_cases h:0 < i
  ·rw [decide_eq_true (by omega)] at tt
   rw [if_pos h]
   have k:=sub_ok (f:=bVar 3) (g:=bC (.int 1)) (ρ:=Q (I c)) (ρ1:=Q (I c)) (ρ2:=Q (I c)) (i:=(i:Int)) (j:=1) (d:=om) (e:=om) rfl rfl
   rw [show (i:Int) - 1=((i - 1:Nat):Int) by omega] at k
   exact (if_t tt).trans (setF (args_ok (xs:=[(.int (c:Int),om),(.int (g t (i - 1) j),om)]) (cons_ok rfl (one_ok (idx2_ok (i:=i - 1) (j:=j) ht (d:=0) rfl k (e':=om) rfl (by omega) hj))) rfl) (show 5 < 6 by decide) rfl)
  ·rw [decide_eq_false (by omega)] at tt
   rw [if_neg h]
   exact (if_f tt).trans rfl
 have v5:sIf (bT (bBin (opCmp fun i j=>decide (j < i)) (bVar 4) (bC (.int 0)))) (sSet false 5 (bArgs opMin (aCons (bVar 5) (aCons (bBin opIdx (bBin opIdx (bVar 1) (bVar 3)) (bBin opSub (bVar 4) (bC (.int 1)))) (aNil)))) [5,1,3,4]) sNil (Q (I m1))=.nx (Q (I (mostN c t i j))):=by
  have tt:bT (bBin (opCmp fun i j=>decide (j < i)) (bVar 4) (bC (.int 0))) (Q (I m1))=.ok (decide (0 < (j:Int)),Q (I m1)):=rfl
  show _=Rs.nx (Q (I (if 0 < j then (if g t i (j - 1) < m1 then g t i (j - 1) else m1) else m1)))
  by_cases h:0 < j
  ·rw [decide_eq_true (by omega)] at tt
   rw [if_pos h]
   have k:=sub_ok (f:=bVar 4) (g:=bC (.int 1)) (ρ:=Q (I m1)) (ρ1:=Q (I m1)) (ρ2:=Q (I m1)) (i:=(j:Int)) (j:=1) (d:=om) (e:=om) rfl rfl
   rw [show (j:Int) - 1=((j - 1:Nat):Int) by omega] at k
   exact (if_t tt).trans (setF (args_ok (xs:=[(.int m1,om),(.int (g t i (j - 1)),om)]) (cons_ok rfl (one_ok (idx2_ok (i:=i) (j:=j - 1) ht (d:=0) rfl (e:=om) rfl k hi (by omega)))) rfl) (show 5 < 6 by decide) rfl)
  ·rw [decide_eq_false (by omega)] at tt
   rw [if_neg h]
   exact (if_f tt).trans rfl
 let W:Rho:=Q (I (mostN c t i j))
 have gi:=idx2_ok (f:=bVar 1) (h:=bVar 3) (k:=bVar 4) (ρ:=W) (ρ1:=W) (ρ2:=W) (ρ3:=W) (i:=i) (j:=j) ht (d:=0) (e:=om) (e':=om) rfl rfl rfl hi hj
 have t6:bT (bOrV (bBin (opCmp fun i j=>decide (i < j)) (bBin opIdx (bBin opIdx (bVar 1) (bVar 3)) (bVar 4)) (bC (.int 0))) (bBin (opCmp fun i j=>decide (j < i)) (bBin opIdx (bBin opIdx (bVar 1) (bVar 3)) (bVar 4)) (bVar 5))) W=.ok (!cellOk c t i j,W):=by
  refine (t_ok (or_ok (cmp_ok (p:=fun i j=>decide (i < j)) gi (j:=0) (e:=om) rfl) (fun _=>cmp_ok (p:=fun i j=>decide (j < i)) gi (j:=mostN c t i j) (e:=om) rfl) rfl)).trans ?_
  congr 2
  unfold cellOk
  rw [Bool.not_and]
  congr 1
  ·rw [Bool.eq_iff_iff];simp
  ·rw [Bool.eq_iff_iff];simp
 refine ⟨mostN c t i j,(seq_nx v3).trans ((seq_nx v4).trans ((seq_nx v5).trans ((if_ok t6).trans ?_)))⟩
 cases cellOk c t i j with
 | true=>rfl
 | false=>rfl
open PySem PySem.Spec PyProof.Rows L2 QQ
def LIr:Fs:=(sSeq (sIf (bT (bOrV (bUn opNot (bUn (opIsi "list") (bVar 2))) (bBin (opEq true) (bArgs opLen (aCons (bVar 2) (aNil))) (bBin opIdx (bVar 0) (bC (.int 1)))))) (sRet (bC (.bl false))) sNil)
 (sIf (bT (bBin (opEq true) (bCompS (bVar 2) 1 (asgN 6) (bT (bOrV (bUn opNot (bUn (opIsi "int") (bVar 6))) (bUn (opIsi "bool") (bVar 6)))) (bVar 6)) (bArgs opLst (aNil)))) (sRet (bC (.bl false))) sNil))
theorem a_is_pile_ok {a b c:Nat}{t:List (List Int)} (ht:Tab a b t) (ha:a≤100) (hb:b≤100):a_is_pile [bx a b c,tb t]=.ok (.bl (pileB a b c t),om,.non):=by
 have z:=sz
 have l1:=ht.1
 let R (s2 s3 s4 s5:QQ.Slot):Rho:=[some (bx a b c,0),some (tb t,0),s2,s3,s4,s5]
 let R0:Rho:=R none none none none
 have t1:bT (bOrV (bUn opNot (bUn (opIsi "list") (bVar 1))) (bBin (opEq true) (bArgs opLen (aCons (bVar 1) (aNil))) (bBin opIdx (bVar 0) (bC (.int 0))))) R0=.ok (false,R0):=by
  refine t_ok (d:=om) ((or_ok (a:=false) rfl (fun _=>eq_ok (len_tb (t:=t) (d:=0) rfl) (j:=(a:Int)) (e:=om) rfl) rfl).trans ?_)
  rw [l1];simp
 obtain ⟨ρ',e2,s2,rfl⟩:=forQ_inv (i0:=1) (is:=[2]) (asg:=asgN 2) (body:=LIr) (ρ:=R0) (els:=t.map il) (d:=0) (fun _ ρ=>∃ s2,ρ=R s2 none none none) rfl ⟨_,rfl⟩ (by
  rintro j y ρ hy ⟨s2,rfl⟩
  obtain ⟨r,hr,rfl⟩:=List.mem_map.mp (List.mem_of_getElem? hy)
  let Q:Rho:=R (some (il r,0)) none none none
  have u1:bT (bOrV (bUn opNot (bUn (opIsi "list") (bVar 2))) (bBin (opEq true) (bArgs opLen (aCons (bVar 2) (aNil))) (bBin opIdx (bVar 0) (bC (.int 1))))) Q=.ok (false,Q):=by
   refine t_ok (d:=om) ((or_ok (a:=false) rfl (fun _=>eq_ok (len_il (xs:=r) (d:=0) rfl) (j:=(b:Int)) (e:=om) rfl) rfl).trans ?_)
   rw [ht.2 r hr];simp
  have u2:=compF_ok (n:=6) (f:=bVar 2) (elt:=bVar 6) (test:=bT (bOrV (bUn opNot (bUn (opIsi "int") (bVar 6))) (bUn (opIsi "bool") (bVar 6)))) (ρ:=Q) (ρ1:=Q) (enc:=PV.int) (q:=PV.int) (p:=fun _=>false) (d:=0) r rfl rfl (fun x _=>by kernel_rfl) (fun x _ h=>nomatch h) (by rw [ht.2 r hr];omega)
  have u3:(r.filter fun _=>false)=[]:=List.filter_eq_nil_iff.mpr fun _ _=>Bool.false_ne_true
  rw [u3] at u2
  have u4:=t_ok (eq_il (neg:=true) (xs:=[]) (ys:=[]) u2 (h:=bArgs opLst (aNil)) (e:=om) rfl)
  rw [decide_eq_true rfl] at u4
  exact ⟨Q,Q,rfl,(seq_f u1).trans ((if_f u4).trans rfl),_,rfl⟩)
 have e3:kill [2] 0 (R s2 none none none)=R0:=rfl
 rw [e3] at e2
 let IV (ρ:Rho):Prop:=∃ s3 s4 s5,ρ=R none s3 s4 s5
 have inner:∀ i,i < a→∀ ρ s4 s5,ρ=R none (some (.int (i:Int),om)) s4 s5→(((List.range b).all fun j=>cellOk c t i j)=true∧∃ ρ',sForR ends1 (aCons (bBin opIdx (bVar 0) (bC (.int 1))) (aNil)) (asgN 4) XIc ρ=.nx ρ'∧∃ s4 s5,ρ'=R none (some (.int (i:Int),om)) s4 s5)∨(((List.range b).all fun j=>cellOk c t i j)=false∧∃ ρ',sForR ends1 (aCons (bBin opIdx (bVar 0) (bC (.int 1))) (aNil)) (asgN 4) XIc ρ=.rt (.bl false) om ρ'):=by
  rintro i hi ρ s4 s5 rfl
  rcases loop_find (asg:=asgN 4) (body:=XIc) (enc:=fun (k:Nat)=>.int (k:Int)) (fun j=>cellOk c t i j) (fun ρ=>∃ s4 s5,ρ=R none (some (.int (i:Int),om)) s4 s5) (List.range b) (R none (some (.int (i:Int),om)) s4 s5) ⟨_,_,rfl⟩ (by
   rintro j hj _ ⟨s4,s5,rfl⟩
   obtain ⟨m,em⟩:=XIc_ok (c:=c) ht hi (List.mem_range.mp hj) (s2:=none) (s5:=s5)
   refine ⟨R none (some (.int (i:Int),om)) (some (.int (j:Int),om)) s5,rfl,?_⟩
   cases hc:cellOk c t i j with
   | true=>rw [hc] at em;exact .inl ⟨rfl,_,em,_,_,rfl⟩
   | false=>rw [hc] at em;exact .inr ⟨rfl,_,em⟩) with ⟨h1,ρ',h2,h3⟩ | ⟨h1,ρ',h2⟩
  ·exact .inl ⟨h1,ρ',forR_of (n:=b) (as:=[(.int (b:Int),om)]) rfl (ends1_ok (by omega) (by omega)) h2,h3⟩
  ·exact .inr ⟨h1,ρ',forR_of (n:=b) (as:=[(.int (b:Int),om)]) rfl (ends1_ok (by omega) (by omega)) h2⟩
 rw [← cells_iff ht]
 rcases loop_find (asg:=asgN 3) (body:=sForR ends1 (aCons (bBin opIdx (bVar 0) (bC (.int 1))) (aNil)) (asgN 4) XIc) (enc:=fun (k:Nat)=>.int (k:Int)) (fun i=>(List.range b).all fun j=>cellOk c t i j) IV (List.range a) R0 ⟨_,_,_,rfl⟩ (by
   rintro i hi _ ⟨s3,s4,s5,rfl⟩
   refine ⟨R none (some (.int (i:Int),om)) s4 s5,rfl,?_⟩
   rcases inner i (List.mem_range.mp hi) _ s4 s5 rfl with ⟨h1,ρ',h2,s4',s5',rfl⟩ | ⟨h1,ρ',h2⟩
   ·exact .inl ⟨h1,_,h2,_,_,_,rfl⟩
   ·exact .inr ⟨h1,_,h2⟩) with ⟨h1,ρ',h2,s3,s4,s5,rfl⟩ | ⟨h1,ρ',h2⟩
 ·rw [h1]
  have h4:=forR_of (en:=ends1) (fa:=aCons (bBin opIdx (bVar 0) (bC (.int 0))) aNil) (n:=a) (as:=[(.int (a:Int),om)]) (ρ:=R0) rfl (ends1_ok (by omega) (by omega)) h2
  exact fn_rt rfl ((seq_f t1).trans ((seq_nx e2).trans ((seq_nx h4).trans rfl)))
 ·rw [h1]
  have h4:=forR_of (en:=ends1) (fa:=aCons (bBin opIdx (bVar 0) (bC (.int 0))) aNil) (n:=a) (as:=[(.int (a:Int),om)]) (ρ:=R0) rfl (ends1_ok (by omega) (by omega)) h2
  exact fn_rt rfl ((seq_f t1).trans ((seq_nx e2).trans (seq_rt h4)))
open PySem PySem.Spec PyProof.Rows L2 QQ
def Xa_is:Fs:=(sSeq (sSet false 2 (bArgs opLst (aCons (bUn (opIsiX [1]) (bVar 0)) (aCons (bUn (opIsiX [2]) (bVar 0)) (aCons (bUn (opIsiX [5]) (bVar 0)) (aNil))))) [0,0,0])
 (sSeq (sIf (bT (bOrV (bUn opNot (bUn (opIsiX [0]) (bVar 0))) (bBin (opEq true) (bVar 2) (bCompR ends1 (aCons (bC (.int 3)) (aNil)) 1 (asgN 3) tTrue (bBin (opEq false) (bVar 3) (bVar 1)))))) (sRet (bC (.bl false))) sNil)
 (sRet (bUn opNot (bUn (opIsiX [3,4,6,7,8,9,10,11]) (bVar 0))))))
def a_is:Fn:=mkFn false 2 1 Xa_is
def Xa_odd_boxes:Fs:=(sSeq (sSet false 1 (bBin opAdd (bC (.int 1)) (bCallIO a_take 0 (aCons (bBin opPow (bC (.int 10)) (bC (.int 30))) (aNil)))) [])
 (sSeq (sSet false 2 (bArgs opLst (aCons (bC .non) (aCons (bC (.int 0)) (aCons (bC (.bl true)) (aCons (bC (.str "")) (aCons (bC (.str "2x2x2")) (aCons (bArgs opTup (aNil)) (aCons (bArgs opLst (aNil)) (aCons (bC .emp) (aCons (bArgs opTup (aCons (bC (.int 2)) (aCons (bC (.int 2)) (aNil)))) (aCons (bArgs opTup (aCons (bC (.int 2)) (aCons (bC (.int 2)) (aCons (bC (.int 2)) (aCons (bC (.int 2)) (aNil)))))) (aCons (bArgs opLst (aCons (bC (.int 2)) (aCons (bC (.int 2)) (aCons (bC (.int 2)) (aNil))))) (aCons (bArgs opTup (aCons (bC (.int 0)) (aCons (bC (.int 2)) (aCons (bC (.int 2)) (aNil))))) (aNil)))))))))))))) [])
 (sSeq (sSet false 2 (bBin opAdd (bVar 2) (bArgs opLst (aCons (bArgs opTup (aCons (bC (.int 2)) (aCons (bC (.int 0)) (aCons (bC (.int 2)) (aNil))))) (aCons (bArgs opTup (aCons (bC (.int 2)) (aCons (bC (.int 2)) (aCons (bC (.int 0)) (aNil))))) (aCons (bArgs opTup (aCons (bUn opNeg (bC (.int 1))) (aCons (bC (.int 2)) (aCons (bC (.int 2)) (aNil))))) (aCons (bArgs opTup (aCons (bC (.int 2)) (aCons (bC (.int 2)) (aCons (bUn opNeg (bC (.int 3))) (aNil))))) (aCons (bArgs opTup (aCons (bC (.bl true)) (aCons (bC (.int 2)) (aCons (bC (.int 2)) (aNil))))) (aCons (bArgs opTup (aCons (bC (.int 2)) (aCons (bC (.bl true)) (aCons (bC (.int 2)) (aNil))))) (aNil))))))))) [2])
 (sSeq (sSet false 2 (bBin opAdd (bVar 2) (bArgs opLst (aCons (bArgs opTup (aCons (bC (.int 2)) (aCons (bC (.int 2)) (aCons (bC (.bl true)) (aNil))))) (aCons (bArgs opTup (aCons (bC (.str "2")) (aCons (bC (.int 2)) (aCons (bC (.int 2)) (aNil))))) (aCons (bArgs opTup (aCons (bC (.int 2)) (aCons (bC .non) (aCons (bC (.int 2)) (aNil))))) (aNil)))))) [2])
 (sRet (bBin opAdd (bVar 2) (bArgs opLst (aCons (bArgs opTup (aCons (bC (.int 2)) (aCons (bC (.int 2)) (aCons (bArgs opTup (aCons (bC (.int 2)) (aNil))) (aNil))))) (aCons (bArgs opTup (aCons (bC (.int 2)) (aCons (bArgs opLst (aCons (bC (.int 2)) (aNil))) (aCons (bC (.int 2)) (aNil))))) (aCons (bArgs opTup (aCons (bC .emp) (aCons (bC (.int 2)) (aCons (bC (.int 2)) (aNil))))) (aCons (bArgs opTup (aCons (bUn opNeg (bVar 1)) (aCons (bVar 1) (aCons (bVar 1) (aNil))))) (aNil))))))))))))
def a_odd_boxes:Fn:=mkFn true 1 2 Xa_odd_boxes
def Xa_none:Fs:=(sSeq (sUnp (asgT [3,4,5]) (bVar 1) [1])
 (sSeq (sSet false 6 (bArgs opLst (aCons (bSl (bBin opAdd (bArgs opLst (aCons (bBin opMul (bArgs opLst (aCons (bC (.int 0)) (aNil))) (bVar 4)) (aNil))) (bBin opMul (bArgs opLst (aCons (bBin opMul (bArgs opLst (aCons (bC (.int 1)) (aNil))) (bVar 4)) (aNil))) (bVar 3))) none (some (bVar 3))) (aCons (bCompR ends1 (aCons (bVar 3) (aNil)) 1 (asgN 14) tTrue (bBin opAdd (bArgs opLst (aCons (bC (.int 0)) (aNil))) (bBin opMul (bArgs opLst (aCons (bC (.int 1)) (aNil))) (bBin opSub (bVar 4) (bC (.int 1)))))) (aNil)))) [4,4,3,4])
 (sSeq (sSet false 7 (bCallIO a_take 0 (aCons (bVar 3) (aNil))) [3])
 (sSeq (sSet false 8 (bCallIO a_take 0 (aCons (bVar 4) (aNil))) [4])
 (sSeq (sSet false 9 (bBin opIdx (bArgs opLst (aCons (bC (.bl false)) (aCons (bC (.bl true)) (aCons (bC .non) (aCons (bC (.str "0")) (aCons (bArgs opTup (aCons (bC (.int 0)) (aNil))) (aCons (bArgs opLst (aCons (bC (.int 0)) (aNil))) (aCons (bBin opAdd (bVar 5) (bC (.int 1))) (aCons (bUn opNeg (bC (.int 1))) (aCons (bBin opAdd (bBin opAdd (bVar 5) (bC (.int 1))) (bCallIO a_take 0 (aCons (bBin opPow (bC (.int 10)) (bC (.int 20))) (aNil)))) (aNil))))))))))) (bCallIO a_take 0 (aCons (bC (.int 9)) (aNil)))) [5,5])
 (sSeq (sForS (bArgs opLst (aCons (bSl (bBin opIdx (bVar 2) (bVar 7)) none (some (bUn opNeg (bC (.int 1))))) (aCons (bBin opAdd (bBin opIdx (bVar 2) (bVar 7)) (bArgs opLst (aCons (bC (.int 0)) (aNil)))) (aCons (bBin opAdd (bBin opAdd (bSl (bBin opIdx (bVar 2) (bVar 7)) none (some (bVar 8))) (bArgs opLst (aCons (bVar 9) (aNil)))) (bSl (bBin opIdx (bVar 2) (bVar 7)) (some (bBin opAdd (bVar 8) (bC (.int 1)))) none)) (aNil))))) [2,7,2,7,2,7,9,2,7] (asgN 10) (sApp 6 (bBin opAdd (bBin opAdd (bSl (bVar 2) none (some (bVar 7))) (bArgs opLst (aCons (bVar 10) (aNil)))) (bSl (bVar 2) (some (bBin opAdd (bVar 7) (bC (.int 1)))) none)) [2,10,2]))
 (sSeq (sForR ends1 (aCons (bC (.int 6)) (aNil)) (asgN 11) (sAppPut 6 (bCompS (bVar 2) 1 (asgN 14) tTrue (bArgs opLstC (aCons (bVar 14) (aNil)))) (bCallIO a_take 0 (aCons (bBin opAdd (bVar 5) (bC (.int 1))) (aNil))) (bCallIO a_take 0 (aCons (bVar 3) (aNil))) (bCallIO a_take 0 (aCons (bVar 4) (aNil)))))
 (sSeq (sSet false 6 (bBin opAdd (bVar 6) (bArgs opLst (aCons (bC .non) (aCons (bC (.int 0)) (aCons (bC (.bl true)) (aCons (bC (.str "")) (aCons (bC (.str "0")) (aCons (bArgs opTup (aNil)) (aCons (bArgs opLst (aNil)) (aCons (bC .emp) (aCons (bArgs opLst (aCons (bArgs opLst (aNil)) (aNil))) (aCons (bBin opMul (bArgs opLst (aCons (bC .non) (aNil))) (bVar 3)) (aCons (bArgs opTupC (aCons (bVar 2) (aNil))) (aCons (bSl (bVar 2) none (some (bUn opNeg (bC (.int 1))))) (aNil))))))))))))))) [6,3,2,2])
 (sSeq (sSet false 6 (bBin opAdd (bVar 6) (bArgs opLst (aCons (bBin opAdd (bVar 2) (bArgs opLst (aCons (bBin opMul (bArgs opLst (aCons (bC (.int 0)) (aNil))) (bVar 4)) (aNil)))) (aCons (bCompS (bVar 2) 1 (asgN 14) tTrue (bArgs opTupC (aCons (bVar 14) (aNil)))) (aCons (bCompS (bVar 2) 1 (asgN 14) tTrue (bBin opAdd (bVar 14) (bArgs opLst (aCons (bC (.int 0)) (aNil))))) (aNil)))))) [6,2,4,2,2,2,2])
 (sSeq (sSet false 6 (bBin opAdd (bVar 6) (bArgs opLst (aCons (bCompS (bVar 2) 1 (asgN 14) tTrue (bBin opAdd (bArgs opLst (aCons (bBin opAdd (bVar 5) (bC (.int 1))) (aNil))) (bSl (bVar 14) (some (bC (.int 1))) none))) (aCons (bCompS (bVar 2) 1 (asgN 14) tTrue (bBin opAdd (bSl (bVar 14) none (some (bUn opNeg (bC (.int 1))))) (bArgs opLst (aCons (bUn opNeg (bC (.int 1))) (aNil))))) (aNil))))) [6,2,5,2,2,2])
 (sSeq (sSet false 6 (bBin opAdd (bVar 6) (bArgs opLst (aCons (bCompS (bVar 2) 1 (asgN 14) tTrue (bBin opAdd (bSl (bVar 14) none (some (bUn opNeg (bC (.int 1))))) (bArgs opLst (aCons (bC (.bl true)) (aNil))))) (aCons (bBin opAdd (bSl (bVar 2) none (some (bUn opNeg (bC (.int 1))))) (bArgs opLst (aCons (bBin opMul (bArgs opLst (aCons (bC .non) (aNil))) (bVar 4)) (aNil)))) (aCons (bBin opAdd (bSl (bVar 2) none (some (bUn opNeg (bC (.int 1))))) (bArgs opLst (aCons (bBin opMul (bArgs opLst (aCons (bC (.str "0")) (aNil))) (bVar 4)) (aNil)))) (aNil)))))) [6,2,2,2,4,2,4])
 (sSeq (sSet false 12 (bArgs opLst (aNil)) [])
 (sSeq (sForS (bVar 6) [6] (asgN 13) (sIf (bT (bUn opNot (bCall a_is_pile (aCons (bVar 1) (aCons (bVar 13) (aNil)))))) (sApp 12 (bVar 13) [13]) sNil))
 (sRet (bBin opAdd (bSl (bVar 12) none (some (bC (.int 5)))) (bCompR ends1 (aCons (bC (.int 2)) (aNil)) 1 (asgN 14) tTrue (bBin opIdx (bVar 12) (bCallIO a_take 0 (aCons (bArgs opLen (aCons (bVar 12) (aNil))) (aNil))))))))))))))))))))
def a_none:Fn:=mkFn true 3 11 Xa_none
open PySem PySem.Spec PyProof.Rows L2 QQ
def lineV (b:Nat):PV→Bool
 | .lst ys=>decide (ys.length=b) && ys.all wholeV
 | _=>false
def shapeV (a b:Nat):PV→Bool
 | .lst xs=>decide (xs.length=a) && xs.all (lineV b)
 | _=>false
theorem whole_ints:∀ {ys:List PV},ys.all wholeV=true→∃ r:List Int,ys=r.map PV.int
 | [],_=>⟨[],rfl⟩
 | y::ys,h=>by
  rw [List.all_cons,Bool.and_eq_true] at h
  obtain ⟨r,rfl⟩:=whole_ints h.2
  have h1:=h.1
  cases y with
  | int i=>exact ⟨i::r,rfl⟩
  | _=>cases h1
theorem lines_tab {b:Nat}:∀ {xs:List PV},xs.all (lineV b)=true→∃ t:List (List Int),xs=t.map il∧∀ r∈t,r.length=b
 | [],_=>⟨[],rfl,fun _ z=>nomatch z⟩
 | x::xs,h=>by
  rw [List.all_cons,Bool.and_eq_true] at h
  obtain ⟨t,rfl,ht⟩:=lines_tab h.2
  have h1:=h.1
  cases x with
  | lst ys=>
   unfold lineV at h1
   rw [Bool.and_eq_true] at h1
   obtain ⟨r,rfl⟩:=whole_ints h1.2
   refine ⟨r::t,rfl,fun s hs=>?_⟩
   rcases List.mem_cons.mp hs with rfl | hs
   ·have:=of_decide_eq_true h1.1
    rwa [List.length_map] at this
   ·exact ht s hs
  | _=>cases h1
theorem shape_tab {a b:Nat}{x:PV} (h:shapeV a b x=true):∃ t,Tab a b t∧x=tb t:=by
 cases x with
 | lst xs=>
  unfold shapeV at h
  rw [Bool.and_eq_true] at h
  obtain ⟨t,rfl,ht⟩:=lines_tab h.2
  exact ⟨t,⟨by have:=of_decide_eq_true h.1;rwa [List.length_map] at this,ht⟩,rfl⟩
 | _=>cases h
theorem el_whole {c:Int}{x:PV} (h:elB c x=true):wholeV x=true:=by
 cases x with
 | int i=>rfl
 | _=>cases h
theorem row_line {b:Nat}{c:Int}{x:PV} (h:rowV b c x=true):lineV b x=true:=by
 cases x with
 | lst xs=>
  unfold rowV at h
  rw [Bool.and_eq_true] at h
  show (decide _ && _)=true
  rw [decide_eq_true (by have:=of_decide_eq_true h.1;omega),List.all_eq_true.mpr fun y hy=>el_whole (List.all_eq_true.mp h.2 y hy)]
  rfl
 | _=>cases h
theorem pre_shape {a b:Nat}{c:Int}{x:PV} (h:preV a b c x=true):shapeV a b x=true:=by
 cases x with
 | lst xs=>
  unfold preV at h
  rw [Bool.and_eq_true] at h
  show (decide _ && _)=true
  rw [decide_eq_true (by have:=of_decide_eq_true h.1;omega),List.all_eq_true.mpr fun y hy=>row_line (List.all_eq_true.mp h.2 y hy)]
  rfl
 | _=>cases h
theorem is_dko {a b c:Int} (hb:boxB a b c=true):f_is_pile [bx a b c,.dko]=.ok (.bl false,om,.non):=by
 let R:Rho:=[some (bx a b c,0),some (.dko,om),some (.int a,om),some (.int b,om),some (.int c,om)]
 refine fn_rt rfl (ρ':=R) ?_
 show Xf_is_pile [some (bx a b c,0),some (.dko,om),none,none,none]=_
 refine (seq_nx (drop_ok (call_ok (xs:=[(bx a b c,0)]) rfl (must_box_ok hb)))).trans ?_
 refine (seq_nx (ρ1:=R) rfl).trans ?_
 exact seq_rt ((if_t (t_ok (d:=om) (or_ok (a:=true) (b:=false) rfl (fun e=>nomatch e) rfl))).trans rfl)
theorem ne_nil {neg:Bool}{zs:List PV}{d e:Nat}:opEq neg (.lst zs) d (.lst []) e=some (.bl (neg^^decide (zs=[])),om):=by
 cases zs with
 | nil=>cases neg <;> rfl
 | cons z zs=>
  rw [decide_eq_false (fun h=>nomatch h)]
  unfold opEq
  have e2:toD 20 (.lst [])=some (.list []):=rfl
  rw [e2]
  have e1:toD 20 (.lst (z::zs))=none∨∃ a l,toD 20 (.lst (z::zs))=some (.list (a::l)):=by
   show ((match toD 19 z,toDL (toD 19) zs with | some a,some b=>some (a::b) | _,_=>none).map PyData.list)=none∨∃ a l,((match toD 19 z,toDL (toD 19) zs with | some a,some b=>some (a::b) | _,_=>none).map PyData.list)=some (.list (a::l))
   cases toD 19 z with
   | none=>exact .inl rfl
   | some a=>
    cases toDL (toD 19) zs with
    | none=>exact .inl rfl
    | some l=>exact .inr ⟨a,l,rfl⟩
  rcases e1 with e1 | ⟨a,l,e1⟩
  ·rw [e1]
   dsimp only
   rw [if_neg (by unfold sameL;exact Bool.false_ne_true),if_pos (by rw [List.length_cons,List.length_nil];omega)]
  ·rw [e1]
   dsimp only
   rw [PyData.eqv,PyData.eqvAll]
def picks:Fb:=bT (bOrV (bUn opNot (bUn (opIsi "int") (bVar 6))) (bUn (opIsi "bool") (bVar 6)))
theorem picks_ok {n:Nat}{Q:Rho} (hQ:Q.length=6) {y:PV} (h:okE n y=true):picks (Q++[some (y,dv y)])=.ok (!wholeV y,Q++[some (y,dv y)]):=by
 have hv:bVar 6 (Q++[some (y,dv y)])=.ok (y,dv y,Q++[some (y,dv y)]):=by
  unfold bVar
  rw [List.getElem?_append_right (by omega),hQ]
  rfl
 have hi:∀ T,bUn (opIsi T) (bVar 6) (Q++[some (y,dv y)])=.ok (.bl (isiB (tyName y) T),om,Q++[some (y,dv y)]):=fun T=>un_ok hv (by
  cases n with
  | zero=>cases h
  | succ n=>cases y with
   | scr _=>cases h
   | exn _=>cases h
   | _=>rfl)
 refine t_ok (d:=om) ((or_ok (not_ok (hi "int")) (fun _=>hi "bool") rfl).trans ?_)
 cases n with
 | zero=>cases h
 | succ n=>cases y with
  | scr _=>cases h
  | exn _=>cases h
  | dct _=>cases h
  | dko=>cases h
  | _=>rfl
theorem filt_ok {n:Nat}{Q:Rho} (hQ:Q.length=6) {ys:List PV} (hv:bVar 2 Q=.ok (.lst ys,0,Q)) (h:∀ y∈ys,okE n y=true) (hl:ys.length≤1000):∃ e,bCompS (bVar 2) 1 (asgN 6) picks (bVar 6) Q=.ok (.lst (ys.filter fun y=>!wholeV y),e,Q):=by
 have z:=sz
 have c:=compL_map (n:=6) (test:=picks) (elt:=bVar 6) (enc:=id) (q:=id) (e:=dv) (p:=fun y=>!wholeV y) ys Q [] hQ (fun y hy=>picks_ok hQ (h y hy)) (fun y hy _=>by
  unfold bVar
  rw [List.getElem?_append_right (by omega),hQ]
  rfl) (by rw [List.length_nil];omega)
 unfold bCompS
 rw [hv]
 dsimp only
 rw [List.map_id] at c
 rw [c]
 have e3:∀ l:List PV,(l.map fun y=>(id y,dv y)).map (·.1)=l:=fun l=>by rw [List.map_map];exact List.map_id l
 refine ⟨if allOm ((ys.filter fun y=>!wholeV y).map fun y=>(id y,dv y)) then om else 1,?_⟩
 show lstOf ((ys.filter fun y=>!wholeV y).map fun y=>(id y,dv y)) Q=_
 unfold lstOf
 rw [e3]
section
variable {a b c n:Nat}{x y:PV}
def RL (a b c:Nat) (x y:PV):Rho:=[some (bx a b c,0),some (x,dv x),some (y,dv y),none,none,none]
theorem line_ok (hy:okE n y=true):(lineV b y=true∧LIr (RL a b c x y)=.nx (RL a b c x y))∨(lineV b y=false∧LIr (RL a b c x y)=.rt (.bl false) om (RL a b c x y)):=by
 cases n with
 | zero=>cases hy
 | succ n=>
  cases y with
  | lst ys=>
   have t1:bT (bOrV (bUn opNot (bUn (opIsi "list") (bVar 2))) (bBin (opEq true) (bArgs opLen (aCons (bVar 2) (aNil))) (bBin opIdx (bVar 0) (bC (.int 1))))) (RL a b c x (.lst ys))=.ok (!decide ((ys.length:Int)=(b:Int)),RL a b c x (.lst ys)):=by
    refine t_ok (d:=om) ((or_ok (a:=false) rfl (fun _=>eq_ok (i:=(ys.length:Int)) (j:=(b:Int)) rfl rfl) rfl).trans ?_)
    rw [Bool.false_or,Bool.true_xor]
   by_cases hl:ys.length=b
   ·rw [decide_eq_true (by omega)] at t1
    obtain ⟨e,u⟩:=filt_ok (Q:=RL a b c x (.lst ys)) rfl rfl (okE_lst hy).2 (okE_lst hy).1
    have t2:=t_ok (bin_ok u (g:=bArgs opLst aNil) (y:=.lst []) (e:=om) rfl (ne_nil (neg:=true)))
    cases hw:ys.all wholeV with
    | true=>
     rw [decide_eq_true (List.filter_eq_nil_iff.mpr fun y hy=>by rw [List.all_eq_true.mp hw y hy];exact Bool.false_ne_true)] at t2
     refine .inl ⟨?_,(seq_f t1).trans ((if_f t2).trans rfl)⟩
     show (decide _ && _)=true
     rw [decide_eq_true hl,hw]
     rfl
    | false=>
     obtain ⟨y,hy,hn⟩:=List.all_eq_false.mp hw
     rw [decide_eq_false (fun e=>by
      have:=List.filter_eq_nil_iff.mp e y hy
      cases h:wholeV y with
      | true=>exact hn h
      | false=>rw [h] at this;exact this rfl)] at t2
     refine .inr ⟨?_,(seq_f t1).trans ((if_t t2).trans rfl)⟩
     show (decide _ && _)=false
     rw [hw,Bool.and_false]
   ·rw [decide_eq_false (by omega)] at t1
    refine .inr ⟨?_,seq_rt ((if_t t1).trans rfl)⟩
    show (decide _ && _)=false
    rw [decide_eq_false hl]
    rfl
  | scr _=>cases hy
  | exn _=>cases hy
  | dct _=>cases hy
  | dko=>cases hy
  | _=>exact .inr ⟨rfl,seq_rt ((if_t (t_ok (d:=om) (or_ok (a:=true) (b:=false) rfl (fun e=>nomatch e) rfl))).trans rfl)⟩
theorem law_none (hx:okE n x=true∨x=.dko) (h:shapeV a b x=false):a_is_pile [bx a b c,x]=.ok (.bl false,om,.non):=by
 let R (s2:QQ.Slot):Rho:=[some (bx a b c,0),some (x,dv x),s2,none,none,none]
 rcases hx with hx | rfl
 ·cases n with
  | zero=>cases hx
  | succ n=>
   cases x with
   | lst xs=>
    have t1:bT (bOrV (bUn opNot (bUn (opIsi "list") (bVar 1))) (bBin (opEq true) (bArgs opLen (aCons (bVar 1) (aNil))) (bBin opIdx (bVar 0) (bC (.int 0))))) (R none)=.ok (!decide ((xs.length:Int)=(a:Int)),R none):=by
     refine t_ok (d:=om) ((or_ok (a:=false) rfl (fun _=>eq_ok (i:=(xs.length:Int)) (j:=(a:Int)) rfl rfl) rfl).trans ?_)
     rw [Bool.false_or,Bool.true_xor]
    by_cases hl:xs.length=a
    ·rw [decide_eq_true (by omega)] at t1
     have hs:xs.all (lineV b)=false:=by
      dsimp only [shapeV] at h
      rw [decide_eq_true hl,Bool.true_and] at h
      exact h
     rcases forQ_all (i0:=1) (is:=[2]) (asg:=asgN 2) (body:=LIr) (ρ:=R none) (els:=xs) (d:=0) (lineV b) (fun ρ=>∃ s2,ρ=R s2) rfl ⟨_,rfl⟩ (by
      rintro y hy _ ⟨s2,rfl⟩
      refine ⟨RL a b c (.lst xs) y,rfl,?_⟩
      rcases line_ok (a:=a) (b:=b) (c:=c) (x:=.lst xs) ((okE_lst hx).2 y hy) with ⟨h1,h2⟩ | ⟨h1,h2⟩
      ·exact .inl ⟨h1,_,h2,_,rfl⟩
      ·exact .inr ⟨h1,_,h2⟩) with ⟨h1,_⟩ | ⟨_,ρ',h2⟩
     ·rw [hs] at h1;cases h1
     ·exact fn_rt rfl ((seq_f t1).trans (seq_rt h2))
    ·rw [decide_eq_false (by omega)] at t1
     exact fn_rt rfl (seq_rt ((if_t t1).trans rfl))
   | scr _=>cases hx
   | exn _=>cases hx
   | dct _=>cases hx
   | dko=>cases hx
   | _=>exact fn_rt rfl (seq_rt ((if_t (t_ok (d:=om) (or_ok (a:=true) (b:=false) rfl (fun e=>nomatch e) rfl))).trans rfl))
 ·exact fn_rt rfl (seq_rt ((if_t (t_ok (d:=om) (or_ok (a:=true) (b:=false) rfl (fun e=>nomatch e) rfl))).trans rfl))
end
def Okx (x:PV):Prop:=okE 20 x=true∨x=.dko
theorem agree {a b c:Nat} (ha:1≤a∧a≤100) (hb:1≤b∧b≤100) (hc:1≤c) {x:PV} (hx:Okx x):∃ q,f_is_pile [bx a b c,x]=.ok (.bl q,om,.non)∧a_is_pile [bx a b c,x]=.ok (.bl q,om,.non):=by
 cases hs:shapeV a b x with
 | true=>
  obtain ⟨t,ht,rfl⟩:=shape_tab hs
  exact ⟨_,is_pile_ok ht ha hb (by omega),a_is_pile_ok ht ha.2 hb.2⟩
 | false=>
  refine ⟨false,?_,law_none hx hs⟩
  rcases hx with hx | rfl
  ·refine pile_none (boxB_nat ha.1 hb.1 hc) hx ?_
   cases hp:preV a b c x with
   | true=>rw [pre_shape hp] at hs;cases hs
   | false=>rfl
  ·exact is_dko (boxB_nat ha.1 hb.1 hc)
theorem ixn {n k:Nat} (h:k < n):ixN n (k:Int)=some k:=by
 unfold ixN
 rw [if_pos (by omega),Int.toNat_natCast,if_pos (by omega)]
theorem ok_set {n k:Nat}{xs:List PV}{y:PV} (hl:xs.length≤1000) (h:∀ x∈xs,okE n x=true) (hy:okE n y=true):okE (n + 1) (.lst (xs.set k y))=true:=
 okE_mk (by rw [List.length_set];exact hl) fun x hx=>(List.mem_or_eq_of_mem_set hx).elim (h x) fun e=>by rw [e];exact hy
theorem idx_any {f g:Fx}{ρ ρ1 ρ2:Rho}{xs:List PV}{k d e:Nat} (h1:f ρ=.ok (.lst xs,d,ρ1)) (h2:g ρ1=.ok (.int (k:Int),e,ρ2)) (hk:k < xs.length):bBin opIdx f g ρ=.ok (xs[k],dv xs[k],ρ2):=by
 refine bin_ok h1 h2 ?_
 show (atI xs (k:Int)).map (fun z=>(z,dv z))=_
 rw [atI_nat (x:=xs[k]) (by omega) (by rw [Int.toNat_natCast];exact List.getElem?_eq_getElem hk)]
 rfl
theorem take_app {n:Nat}{l s:Rho} (h:l.length=n):(l++s).take n=l:=by rw [← h];exact List.take_left
theorem lst_any {fa:Fa}{ρ ρ1:Rho}{xs:List (PV×Nat)} (h:fa ρ=.ok (xs,ρ1)) (hl:xs.length≤sizeLine):∃ d,bArgs opLst fa ρ=.ok (.lst (xs.map (·.1)),d,ρ1):=⟨_,args_ok h (by unfold opLst;rw [if_pos hl])⟩
open PySem PySem.Spec PyProof.Rows L2 QQ
def Val (ρ:Rho) (j:Nat) (x:PV):Prop:=∃ d,ρ[j]?=some (some (x,d))
theorem Val.var {ρ:Rho}{j:Nat}{x:PV} (h:Val ρ j x):bVar j ρ=.ok (x,dv x,ρ):=by
 obtain ⟨d,e⟩:=h
 unfold bVar
 rw [e]
theorem coolIf_sz {d:Nat}{vs:List Nat}{ρ:Rho}:(coolIf d vs ρ).length=ρ.length:=by
 unfold coolIf
 split
 ·rfl
 ·exact cool_len vs ρ 0
theorem coolIf_at {d j:Nat}{vs:List Nat}{ρ:Rho} (h:vs.contains j=false):(coolIf d vs ρ)[j]?=ρ[j]?:=by
 unfold coolIf
 split
 ·rfl
 ·rw [cool_get,Nat.zero_add,h]
  cases ρ[j]? with
  | none=>rfl
  | some s=>rfl
theorem Val.cool {ρ:Rho}{j d:Nat}{x:PV}{vs:List Nat} (h:Val ρ j x):Val (coolIf d vs ρ) j x:=by
 obtain ⟨e,he⟩:=h
 unfold coolIf
 split
 ·exact ⟨e,he⟩
 ·rw [Val,cool_get,he]
  dsimp only [Option.map]
  split
  ·exact ⟨0,rfl⟩
  ·exact ⟨e,rfl⟩
theorem Val.set {ρ:Rho}{j k:Nat}{x:PV}{s:QQ.Slot} (h:Val ρ j x) (hk:k≠j):Val (ρ.set k s) j x:=by
 obtain ⟨d,e⟩:=h
 exact ⟨d,by rw [List.getElem?_set_ne hk];exact e⟩
theorem Val.here {ρ:Rho}{k d:Nat}{x:PV} (h:k < ρ.length):Val (ρ.set k (some (x,d))) k x:=⟨d,List.getElem?_set_self h⟩
theorem Val.app {ρ s:Rho}{j:Nat}{x:PV} (h:Val ρ j x):Val (ρ++s) j x:=by
 obtain ⟨d,e⟩:=h
 exact ⟨d,by rw [List.getElem?_append_left (List.getElem?_eq_some_iff.mp e).1];exact e⟩
theorem set_any {i d:Nat}{f:Fx}{vs:List Nat}{ρ ρ1:Rho}{x:PV} (h:f ρ=.ok (x,d,ρ1)) (hc:i < ρ1.length):sSet false i f vs ρ=.nx ((coolIf d vs ρ1).set i (some (x,d))):=setF h hc rfl
structure Ev (a b c:Nat) (t:List (List Int)) (x:PV) (ρ:Rho):Prop where
 len:ρ.length=14
 p:ρ[0]?=some (some (x,om))
 v1:Val ρ 1 (bx a b c)
 v2:Val ρ 2 (tb t)
 v3:Val ρ 3 (.int a)
 v4:Val ρ 4 (.int b)
 v5:Val ρ 5 (.int c)
def Lst (ρ:Rho) (k N:Nat) (P:PV→Prop) (W:List PV):Prop:=∃ ys d,ρ[k]?=some (some (.lst ys,d))∧d≠0∧ys.length≤N∧(∀ y∈ys,P y)∧∀ w∈W,w∈ys
section
variable {a b c:Nat}{t:List (List Int)}{x x':PV}{ρ:Rho}
theorem Ev.put {k:Nat}{s:QQ.Slot} (e:Ev a b c t x ρ) (hk:6≤k):Ev a b c t x (ρ.set k s):=
 ⟨by rw [List.length_set];exact e.len,by rw [List.getElem?_set_ne (by omega)];exact e.p,e.v1.set (by omega),e.v2.set (by omega),e.v3.set (by omega),e.v4.set (by omega),e.v5.set (by omega)⟩
theorem Ev.cool {d:Nat}{vs:List Nat} (e:Ev a b c t x ρ) (h0:vs.contains 0=false):Ev a b c t x (coolIf d vs ρ):=
 ⟨by rw [coolIf_sz];exact e.len,by rw [coolIf_at h0];exact e.p,e.v1.cool,e.v2.cool,e.v3.cool,e.v4.cool,e.v5.cool⟩
theorem Ev.pool (e:Ev a b c t x ρ):Ev a b c t x' (ρ.set 0 (some (x',om))):=
 ⟨by rw [List.length_set];exact e.len,List.getElem?_set_self (by rw [e.len];decide),e.v1.set (by decide),e.v2.set (by decide),e.v3.set (by decide),e.v4.set (by decide),e.v5.set (by decide)⟩
theorem Lst.set {k j N:Nat}{P:PV→Prop}{W:List PV}{s:QQ.Slot} (h:Lst ρ k N P W) (hk:j≠k):Lst (ρ.set j s) k N P W:=by
 obtain ⟨ys,d,e,r⟩:=h
 exact ⟨ys,d,by rw [List.getElem?_set_ne hk];exact e,r⟩
theorem Lst.cool {k N d:Nat}{P:PV→Prop}{W:List PV}{vs:List Nat} (h:Lst ρ k N P W) (hk:vs.contains k=false):Lst (coolIf d vs ρ) k N P W:=by
 obtain ⟨ys,d',e,r⟩:=h
 exact ⟨ys,d',by rw [coolIf_at hk];exact e,r⟩
theorem ev_take {f:Fx}{d:Nat}{B m:Int} (e:Ev a b c t x ρ) (h:Pl B x) (hB:B≤100000) (hm:0 < m∧m < 2 ^ 128) (hf:f ρ=.ok (.int m,d,ρ)):∃ v x',(0≤v∧v < m)∧Pl (B + 1) x'∧bCallIO a_take 0 (aCons f aNil) ρ=.ok (.int v,om,ρ.set 0 (some (x',om))):=by
 obtain ⟨v,x',hv,hp,e1⟩:=take_big h hB hm
 exact ⟨v,x',hv,hp,callIO_ok (p:=(x,om)) (x0:=x) (d0:=om) e.p (one_ok hf) e.p e1 rfl⟩
theorem app_any {k d N:Nat}{f:Fx}{vs:List Nat}{y:PV}{P:PV→Prop}{W:List PV} (h:Lst ρ k N P W) (hf:f ρ=.ok (y,d,ρ)) (hy:P y) (hk:vs.contains k=false) (hN:N≤1000):∃ ρ',sApp k f vs ρ=.nx ρ'∧Lst ρ' k (N + 1) P W∧∃ s,ρ'=(coolIf d vs ρ).set k s:=by
 have z:=sz
 obtain ⟨ys,d0,e,hd,hl,hP,hW⟩:=h
 obtain ⟨d1,rfl⟩:∃ d1,d0=d1 + 1:=⟨d0 - 1,by omega⟩
 have e1:(coolIf d vs ρ)[k]?=some (some (.lst ys,d1 + 1)):=by rw [coolIf_at hk];exact e
 refine ⟨_,app_ok e hf e1 hd (by omega) rfl,⟨ys++[y],_,List.getElem?_set_self (by rw [coolIf_sz];exact (List.getElem?_eq_some_iff.mp e).1),?_,by rw [List.length_append,List.length_singleton];omega,fun w hw=>?_,fun w hw=>List.mem_append_left _ (hW w hw)⟩,_,rfl⟩
 ·split <;> decide
 ·rcases List.mem_append.mp hw with hw | hw
  ·exact hP w hw
  ·rw [List.mem_singleton.mp hw];exact hy
theorem rep1 (x:PV):∀ n:Nat,repL n [x]=List.replicate n x
 | 0=>rfl
 | n + 1=>by
  have:=rep1 x n
  unfold repL at this ⊢
  rw [List.replicate_succ,List.flatten_cons,this]
  rfl
theorem mulL_ok {f g:Fx}{ρ ρ1 ρ2:Rho}{x:PV}{n d e:Nat} (h1:f ρ=.ok (.lst [x],d,ρ1)) (h2:g ρ1=.ok (.int (n:Int),e,ρ2)) (hn:n≤1000):bBin opMul f g ρ=.ok (.lst (List.replicate n x),d1 (List.replicate n x),ρ2):=by
 refine bin_ok h1 h2 ?_
 have z:=sz
 unfold opMul
 dsimp only
 rw [if_pos ⟨by omega,by omega,by rw [List.length_singleton,Int.toNat_natCast];omega⟩,Int.toNat_natCast,rep1]
theorem ok_rep {n m:Nat}{x:PV} (hm:m≤1000) (h:okE n x=true):okE (n + 1) (.lst (List.replicate m x))=true:=okE_mk (by rw [List.length_replicate];exact hm) fun y hy=>by rw [(List.mem_replicate.mp hy).2];exact h
theorem ok_app {n:Nat}{xs ys:List PV} (hl:xs.length + ys.length≤1000) (hx:∀ x∈xs,okE n x=true) (hy:∀ x∈ys,okE n x=true):okE (n + 1) (.lst (xs++ys))=true:=okE_mk (by rw [List.length_append];exact hl) fun z hz=>(List.mem_append.mp hz).elim (hx z) (hy z)
theorem rows3 {n:Nat} (ht:Tab a b t) (hb:b≤100):∀ x∈t.map il,okE (n + 2) x=true:=fun x hx=>by
 obtain ⟨r,hr,rfl⟩:=List.mem_map.mp hx
 exact ok_il (by rw [ht.2 r hr];omega)
def n1:Fx:=bSl (bBin opAdd (bArgs opLst (aCons (bBin opMul (bArgs opLst (aCons (bC (.int 0)) (aNil))) (bVar 4)) (aNil))) (bBin opMul (bArgs opLst (aCons (bBin opMul (bArgs opLst (aCons (bC (.int 1)) (aNil))) (bVar 4)) (aNil))) (bVar 3))) none (some (bVar 3))
def n2:Fx:=bCompR ends1 (aCons (bVar 3) (aNil)) 1 (asgN 14) tTrue (bBin opAdd (bArgs opLst (aCons (bC (.int 0)) (aNil))) (bBin opMul (bArgs opLst (aCons (bC (.int 1)) (aNil))) (bBin opSub (bVar 4) (bC (.int 1)))))
theorem n1_ok (e:Ev a b c t x ρ) (ha:a≤100) (hb:b≤100):∃ y d,n1 ρ=.ok (y,d,ρ)∧okE 4 y=true:=by
 have z:=sz
 have r0:=rep_ok (f:=bArgs opLst (aCons (bC (.int 0)) (aNil))) (g:=bVar 4) (ρ:=ρ) (ρ1:=ρ) (v:=0) (d:=om) rfl e.v4.var (by omega)
 have r1:=rep_ok (f:=bArgs opLst (aCons (bC (.int 1)) (aNil))) (g:=bVar 4) (ρ:=ρ) (ρ1:=ρ) (v:=1) (d:=om) rfl e.v4.var (by omega)
 obtain ⟨e0,l0⟩:=lst_one r0
 obtain ⟨e1,l1⟩:=lst_one r1
 have m1:=mulL_ok l1 e.v3.var (by omega)
 have s:=addL_ok l0 m1 (by rw [List.length_singleton,List.length_replicate];omega)
 have f:=sl_to s e.v3.var (by rw [List.length_append,List.length_singleton,List.length_replicate];omega)
 refine ⟨_,_,f,okE_mk (by rw [List.length_take,List.length_append,List.length_singleton,List.length_replicate];omega) fun y hy=>?_⟩
 rcases List.mem_append.mp (List.mem_of_mem_take hy) with hy | hy
 ·rw [List.mem_singleton.mp hy];exact ok_il (by rw [List.length_replicate];omega)
 ·rw [(List.mem_replicate.mp hy).2];exact ok_il (by rw [List.length_replicate];omega)
theorem n2_ok (e:Ev a b c t x ρ) (ha:a≤100) (hb:1≤b∧b≤100):∃ y d,n2 ρ=.ok (y,d,ρ)∧okE 4 y=true:=by
 have z:=sz
 have f:=compR_ok (n:=14) (en:=ends1) (fa:=aCons (bVar 3) (aNil)) (elt:=bBin opAdd (bArgs opLst (aCons (bC (.int 0)) (aNil))) (bBin opMul (bArgs opLst (aCons (bC (.int 1)) (aNil))) (bBin opSub (bVar 4) (bC (.int 1))))) (q:=fun _=>il (0::List.replicate (b - 1) 1)) (ρ:=ρ) (ρ1:=ρ) (lo:=0) (hi:=(a:Int)) (one_ok e.v3.var) (ends1_ok (by omega) (by omega)) e.len (fun k _=>by
  have s1:=sub_ok (f:=bVar 4) (g:=bC (.int 1)) (ρ:=ρ++[some (.int (0 + (k:Int)),om)]) (e.v4.app.var) (j:=1) (e:=om) (ρ2:=ρ++[some (.int (0 + (k:Int)),om)]) rfl
  rw [show (b:Int) - 1=((b - 1:Nat):Int) by omega] at s1
  have r1:=rep_ok (f:=bArgs opLst (aCons (bC (.int 1)) (aNil))) (ρ:=ρ++[some (.int (0 + (k:Int)),om)]) (ρ1:=ρ++[some (.int (0 + (k:Int)),om)]) (v:=1) (d:=om) rfl s1 (by omega)
  have s:=addL_ok (f:=bArgs opLst (aCons (bC (.int 0)) (aNil))) (xs:=[.int 0]) (d:=om) (ρ:=ρ++[some (.int (0 + (k:Int)),om)]) rfl r1 (by rw [List.length_singleton,List.length_map,List.length_replicate];omega)
  have ed:d1 ([.int 0]++(List.replicate (b - 1) 1).map PV.int)=om:=d1_int (0::List.replicate (b - 1) 1)
  rw [ed] at s
  exact s) (by omega)
 exact ⟨_,_,f,okE_mk (by rw [List.length_map,List.length_range];omega) fun y hy=>by
  obtain ⟨_,_,rfl⟩:=List.mem_map.mp hy
  exact ok_il (by rw [List.length_cons,List.length_replicate];omega)⟩
end
open PySem PySem.Spec PyProof.Rows L2 QQ
theorem sl_at {f j:Fx}{ρ ρ1:Rho}{xs:List PV}{n d e:Nat} (h1:f ρ=.ok (.lst xs,d,ρ1)) (h2:j ρ1=.ok (.int (n:Int),e,ρ1)) (hn:n≤xs.length):bSl f (some j) none ρ=.ok (.lst (xs.drop n),d1 (xs.drop n),ρ1):=by
 have ec:cutP xs (some (n:Int)) none=xs.drop n:=by
  unfold cutP
  rw [HT.sIx_nat,HT.sIx_none,Nat.min_eq_left hn]
  exact List.take_of_length_le (by rw [List.length_drop];exact Nat.le_refl _)
 unfold bSl
 rw [h1]
 dsimp only [Rz.bind,evO]
 rw [h2]
 dsimp only [opSl]
 rw [ec]
def Gd (f:Fx) (ρ:Rho):Prop:=∃ y d,f ρ=.ok (y,d,ρ)∧okE 4 y=true
def Gs (fa:Fa) (ρ:Rho) (n:Nat) (W:List PV):Prop:=∃ ps,fa ρ=.ok (ps,ρ)∧ps.length=n∧(∀ p∈ps,okE 4 p.1=true)∧∀ w∈W,w∈ps.map (·.1)
theorem gs_nil {ρ:Rho}:Gs aNil ρ 0 []:=⟨[],rfl,rfl,fun _ z=>(nomatch z),fun _ z=>nomatch z⟩
theorem gs_cons {f:Fx}{fa:Fa}{ρ:Rho}{n:Nat}{W:List PV} (h:Gd f ρ) (hs:Gs fa ρ n W):Gs (aCons f fa) ρ (n + 1) W:=by
 obtain ⟨y,d,e,hy⟩:=h
 obtain ⟨ps,e2,hl,hp,hW⟩:=hs
 refine ⟨(y,d)::ps,cons_ok e e2,by rw [List.length_cons,hl],fun p h=>?_,fun w hw=>List.mem_cons_of_mem _ (hW w hw)⟩
 rcases List.mem_cons.mp h with rfl | h
 ·exact hy
 ·exact hp p h
theorem gs_consW {x:PV}{fa:Fa}{ρ:Rho}{n:Nat}{W:List PV} (h:okE 4 x=true) (hs:Gs fa ρ n W):Gs (aCons (bC x) fa) ρ (n + 1) (x::W):=by
 obtain ⟨ps,e2,hl,hp,hW⟩:=hs
 refine ⟨(x,om)::ps,cons_ok rfl e2,by rw [List.length_cons,hl],fun p hh=>?_,fun w hw=>?_⟩
 ·rcases List.mem_cons.mp hh with rfl | hh
  ·exact h
  ·exact hp p hh
 ·rcases List.mem_cons.mp hw with rfl | hw
  ·exact List.mem_cons_self
  ·exact List.mem_cons_of_mem _ (hW w hw)
theorem gd_c {x:PV}{ρ:Rho} (h:okE 4 x=true):Gd (bC x) ρ:=⟨x,om,rfl,h⟩
theorem d1_ne (xs:List PV):d1 xs≠0:=by
 unfold d1
 split <;> decide
theorem more_ok {k n N:Nat}{fa:Fa}{v:List Nat}{ρ:Rho}{W W':List PV} (h:Lst ρ k N (fun y=>okE 4 y=true) W) (hs:Gs fa ρ n W') (hN:N + n≤1000):∃ ρ',sSet false k (bBin opAdd (bVar k) (bArgs opLst fa)) v ρ=.nx ρ'∧Lst ρ' k (N + n) (fun y=>okE 4 y=true) (W++W')∧∃ d s,ρ'=(coolIf d v ρ).set k s:=by
 have z:=sz
 obtain ⟨ys,d,e,hd,hl,hP,hW⟩:=h
 obtain ⟨ps,e2,hl2,hp,hW'⟩:=hs
 have hk:=(List.getElem?_eq_some_iff.mp e).1
 obtain ⟨d3,e3⟩:=lst_any e2 (by omega)
 have e4:=addL_ok (f:=bVar k) (ρ:=ρ) (Val.var ⟨d,e⟩) e3 (by rw [List.length_map];omega)
 refine ⟨_,set_any e4 hk,⟨ys++ps.map (·.1),_,List.getElem?_set_self (by rw [coolIf_sz];exact hk),d1_ne _,by rw [List.length_append,List.length_map];omega,fun y hy=>?_,fun w hw=>?_⟩,_,_,rfl⟩
 ·rcases List.mem_append.mp hy with hy | hy
  ·exact hP y hy
  ·obtain ⟨p,h,rfl⟩:=List.mem_map.mp hy
   exact hp p h
 ·rcases List.mem_append.mp hw with hw | hw
  ·exact List.mem_append_left _ (hW w hw)
  ·exact List.mem_append_right _ (hW' w hw)
theorem compS_any {n:Nat}{f elt:Fx}{q:List Int→PV}{e:List Int→Nat}{ρ:Rho}{d:Nat} (t:List (List Int)) (hf:f ρ=.ok (.lst (t.map il),d,ρ)) (hn:ρ.length=n) (he:∀ r∈t,elt (ρ++[some (il r,0)])=.ok (q r,e r,ρ++[some (il r,0)])) (hl:t.length≤1000):∃ d,bCompS f 1 (asgN n) tTrue elt ρ=.ok (.lst (t.map q),d,ρ):=by
 have z:=sz
 have c:=compL_map (n:=n) (test:=tTrue) (elt:=elt) (enc:=il) (q:=q) (e:=e) (p:=fun _=>true) t ρ [] hn (fun _ _=>rfl) (fun r hr _=>he r hr) (by rw [List.length_nil];omega)
 unfold bCompS
 rw [hf]
 dsimp only
 rw [c,List.filter_eq_self.mpr (fun _ _=>rfl)]
 have e3:(t.map fun r=>(q r,e r)).map (·.1)=t.map q:=by rw [List.map_map];rfl
 refine ⟨if allOm (t.map fun r=>(q r,e r)) then om else 1,?_⟩
 show lstOf (t.map fun r=>(q r,e r)) ρ=_
 unfold lstOf
 rw [e3]
section
variable {a b c:Nat}{t:List (List Int)}{x:PV}{ρ:Rho}
theorem gd_rows (e:Ev a b c t x ρ) (ht:Tab a b t) (ha:a≤100) {elt:Fx}{q:List Int→PV}{dq:List Int→Nat} (he:∀ r∈t,elt (ρ++[some (il r,0)])=.ok (q r,dq r,ρ++[some (il r,0)])) (hq:∀ r∈t,okE 3 (q r)=true):Gd (bCompS (bVar 2) 1 (asgN 14) tTrue elt) ρ:=by
 obtain ⟨d,h⟩:=compS_any t e.v2.var e.len he (by rw [ht.1];omega)
 refine ⟨_,d,h,okE_mk (by rw [List.length_map,ht.1];omega) fun y hy=>?_⟩
 obtain ⟨r,hr,rfl⟩:=List.mem_map.mp hy
 exact hq r hr
theorem row_var (hl:ρ.length=14) (r:List Int):bVar 14 (ρ++[some (il r,0)])=.ok (il r,0,ρ++[some (il r,0)]):=by
 unfold bVar
 rw [List.getElem?_append_right (by omega),hl]
 rfl
theorem ok_one {n:Nat}{y:PV} (h:okE n y=true):∀ x∈[y],okE n x=true:=fun x hx=>by rw [List.mem_singleton.mp hx];exact h
theorem ints1 {n:Nat}{r:List Int}:∀ x∈r.map PV.int,okE (n + 1) x=true:=fun x hx=>by
 obtain ⟨i,_,rfl⟩:=List.mem_map.mp hx
 rfl
def A7:Fa:=(aCons (bC .non) (aCons (bC (.int 0)) (aCons (bC (.bl true)) (aCons (bC (.str "")) (aCons (bC (.str "0")) (aCons (bArgs opTup (aNil)) (aCons (bArgs opLst (aNil)) (aCons (bC .emp) (aCons (bArgs opLst (aCons (bArgs opLst (aNil)) (aNil))) (aCons (bBin opMul (bArgs opLst (aCons (bC .non) (aNil))) (bVar 3)) (aCons (bArgs opTupC (aCons (bVar 2) (aNil))) (aCons (bSl (bVar 2) none (some (bUn opNeg (bC (.int 1))))) (aNil)))))))))))))
def A8:Fa:=(aCons (bBin opAdd (bVar 2) (bArgs opLst (aCons (bBin opMul (bArgs opLst (aCons (bC (.int 0)) (aNil))) (bVar 4)) (aNil)))) (aCons (bCompS (bVar 2) 1 (asgN 14) tTrue (bArgs opTupC (aCons (bVar 14) (aNil)))) (aCons (bCompS (bVar 2) 1 (asgN 14) tTrue (bBin opAdd (bVar 14) (bArgs opLst (aCons (bC (.int 0)) (aNil))))) (aNil))))
def A9:Fa:=(aCons (bCompS (bVar 2) 1 (asgN 14) tTrue (bBin opAdd (bArgs opLst (aCons (bBin opAdd (bVar 5) (bC (.int 1))) (aNil))) (bSl (bVar 14) (some (bC (.int 1))) none))) (aCons (bCompS (bVar 2) 1 (asgN 14) tTrue (bBin opAdd (bSl (bVar 14) none (some (bUn opNeg (bC (.int 1))))) (bArgs opLst (aCons (bUn opNeg (bC (.int 1))) (aNil))))) (aNil)))
def A10:Fa:=(aCons (bCompS (bVar 2) 1 (asgN 14) tTrue (bBin opAdd (bSl (bVar 14) none (some (bUn opNeg (bC (.int 1))))) (bArgs opLst (aCons (bC (.bl true)) (aNil))))) (aCons (bBin opAdd (bSl (bVar 2) none (some (bUn opNeg (bC (.int 1))))) (bArgs opLst (aCons (bBin opMul (bArgs opLst (aCons (bC .non) (aNil))) (bVar 4)) (aNil)))) (aCons (bBin opAdd (bSl (bVar 2) none (some (bUn opNeg (bC (.int 1))))) (bArgs opLst (aCons (bBin opMul (bArgs opLst (aCons (bC (.str "0")) (aNil))) (bVar 4)) (aNil)))) (aNil))))
theorem A7_ok (e:Ev a b c t x ρ) (ht:Tab a b t) (ha:a≤100) (hb:b≤100):Gs A7 ρ 12 [.non]:=by
 have lt:=ht.1
 refine gs_consW rfl (gs_cons (gd_c rfl) (gs_cons (gd_c rfl) (gs_cons (gd_c rfl) (gs_cons (gd_c rfl) (gs_cons ⟨.tup [],om,rfl,rfl⟩ (gs_cons ⟨.lst [],om,rfl,rfl⟩ (gs_cons (gd_c rfl) (gs_cons ⟨.lst [.lst []],om,rfl,rfl⟩ (gs_cons ?_ (gs_cons ?_ (gs_cons ?_ gs_nil)))))))))))
 ·exact ⟨_,_,mulL_ok (f:=bArgs opLst (aCons (bC .non) (aNil))) (d:=om) rfl e.v3.var (by omega),ok_rep (by omega) rfl⟩
 ·exact ⟨.tup (t.map il),0,args_ok (one_ok e.v2.var) rfl,okE_mkT (by rw [List.length_map];omega) (rows3 (n:=1) ht hb)⟩
 ·exact ⟨_,_,sl_init e.v2.var,okE_mk (by rw [List.length_take,List.length_map];omega) fun y hy=>rows3 (n:=1) ht hb y (List.mem_of_mem_take hy)⟩
theorem A8_ok (e:Ev a b c t x ρ) (ht:Tab a b t) (ha:a≤100) (hb:b≤100):Gs A8 ρ 3 []:=by
 have z:=sz
 have lt:=ht.1
 refine gs_cons ?_ (gs_cons ?_ (gs_cons ?_ gs_nil))
 ·have r0:=rep_ok (f:=bArgs opLst (aCons (bC (.int 0)) (aNil))) (g:=bVar 4) (ρ:=ρ) (ρ1:=ρ) (v:=0) (d:=om) rfl e.v4.var (by omega)
  obtain ⟨e0,l0⟩:=lst_one r0
  exact ⟨_,_,addL_ok e.v2.var l0 (by rw [List.length_map,List.length_singleton];omega),ok_app (by rw [List.length_map,List.length_singleton];omega) (rows3 (n:=1) ht hb) (ok_one (ok_il (n:=1) (by rw [List.length_replicate];omega)))⟩
 ·exact gd_rows (elt:=bArgs opTupC (aCons (bVar 14) (aNil))) (q:=fun r=>.tup (r.map PV.int)) (dq:=fun _=>0) e ht ha (fun r hr=>args_ok (one_ok (row_var e.len r)) rfl) fun r hr=>okE_mkT (by rw [List.length_map,ht.2 r hr];omega) ints1
 ·exact gd_rows (elt:=bBin opAdd (bVar 14) (bArgs opLst (aCons (bC (.int 0)) (aNil)))) (q:=fun r=>.lst (r.map PV.int++[.int 0])) (dq:=fun r=>d1 (r.map PV.int++[.int 0])) e ht ha (fun r hr=>addL_ok (row_var e.len r) (ys:=[.int 0]) (e:=om) rfl (by rw [List.length_map,List.length_singleton,ht.2 r hr];omega)) fun r hr=>ok_app (by rw [List.length_map,List.length_singleton,ht.2 r hr];omega) ints1 (ok_one rfl)
theorem A9_ok (e:Ev a b c t x ρ) (ht:Tab a b t) (ha:a≤100) (hb:1≤b∧b≤100):Gs A9 ρ 2 []:=by
 have z:=sz
 refine gs_cons ?_ (gs_cons ?_ gs_nil)
 ·exact gd_rows (elt:=bBin opAdd (bArgs opLst (aCons (bBin opAdd (bVar 5) (bC (.int 1))) (aNil))) (bSl (bVar 14) (some (bC (.int 1))) none)) (q:=fun r=>.lst ([.int ((c:Int) + 1)]++(r.map PV.int).drop 1)) (dq:=fun r=>d1 ([.int ((c:Int) + 1)]++(r.map PV.int).drop 1)) e ht ha (fun r hr=>by
   obtain ⟨e0,l0⟩:=lst_one (add_ok (f:=bVar 5) (g:=bC (.int 1)) (ρ:=ρ++[some (il r,0)]) e.v5.app.var (j:=1) (e:=om) rfl)
   exact addL_ok l0 (sl_at (n:=1) (row_var e.len r) (e:=om) rfl (by rw [List.length_map,ht.2 r hr];omega)) (by rw [List.length_singleton,List.length_drop,List.length_map,ht.2 r hr];omega)) fun r hr=>ok_app (by rw [List.length_singleton,List.length_drop,List.length_map,ht.2 r hr];omega) (ok_one rfl) fun y hy=>ints1 y (List.mem_of_mem_drop hy)
 ·exact gd_rows (elt:=bBin opAdd (bSl (bVar 14) none (some (bUn opNeg (bC (.int 1))))) (bArgs opLst (aCons (bUn opNeg (bC (.int 1))) (aNil)))) (q:=fun r=>.lst ((r.map PV.int).take ((r.map PV.int).length - 1)++[.int (-1)])) (dq:=fun r=>d1 ((r.map PV.int).take ((r.map PV.int).length - 1)++[.int (-1)])) e ht ha (fun r hr=>addL_ok (sl_init (row_var e.len r)) (ys:=[.int (-1)]) (e:=om) rfl (by rw [List.length_take,List.length_map,List.length_singleton,ht.2 r hr];omega)) fun r hr=>ok_app (by rw [List.length_take,List.length_map,List.length_singleton,ht.2 r hr];omega) (fun y hy=>ints1 y (List.mem_of_mem_take hy)) (ok_one rfl)
theorem A10_ok (e:Ev a b c t x ρ) (ht:Tab a b t) (ha:a≤100) (hb:1≤b∧b≤100):Gs A10 ρ 3 []:=by
 have z:=sz
 have lt:=ht.1
 have tk:∀ y∈(t.map il).take ((t.map il).length - 1),okE 3 y=true:=fun y hy=>rows3 (n:=1) ht hb.2 y (List.mem_of_mem_take hy)
 have ll:((t.map il).take ((t.map il).length - 1)).length≤100:=by rw [List.length_take,List.length_map];omega
 refine gs_cons ?_ (gs_cons ?_ (gs_cons ?_ gs_nil))
 ·exact gd_rows (elt:=bBin opAdd (bSl (bVar 14) none (some (bUn opNeg (bC (.int 1))))) (bArgs opLst (aCons (bC (.bl true)) (aNil)))) (q:=fun r=>.lst ((r.map PV.int).take ((r.map PV.int).length - 1)++[.bl true])) (dq:=fun r=>d1 ((r.map PV.int).take ((r.map PV.int).length - 1)++[.bl true])) e ht ha (fun r hr=>addL_ok (sl_init (row_var e.len r)) (ys:=[.bl true]) (e:=om) rfl (by rw [List.length_take,List.length_map,List.length_singleton,ht.2 r hr];omega)) fun r hr=>ok_app (by rw [List.length_take,List.length_map,List.length_singleton,ht.2 r hr];omega) (fun y hy=>ints1 y (List.mem_of_mem_take hy)) (ok_one rfl)
 ·have m1:=mulL_ok (f:=bArgs opLst (aCons (bC .non) (aNil))) (ρ:=ρ) (ρ1:=ρ) (d:=om) rfl e.v4.var (by omega)
  obtain ⟨e0,l0⟩:=lst_one m1
  exact ⟨_,_,addL_ok (sl_init e.v2.var) l0 (by rw [List.length_singleton];omega),ok_app (by rw [List.length_singleton];omega) tk (ok_one (ok_rep (by omega) rfl))⟩
 ·have m1:=mulL_ok (f:=bArgs opLst (aCons (bC (.str "0")) (aNil))) (ρ:=ρ) (ρ1:=ρ) (d:=om) rfl e.v4.var (by omega)
  obtain ⟨e0,l0⟩:=lst_one m1
  exact ⟨_,_,addL_ok (sl_init e.v2.var) l0 (by rw [List.length_singleton];omega),ok_app (by rw [List.length_singleton];omega) tk (ok_one (ok_rep (by omega) rfl))⟩
end
open PySem PySem.Spec PyProof.Rows L2 QQ
abbrev G4 (y:PV):Prop:=okE 4 y=true
def odd9:Fx:=(bBin opIdx (bArgs opLst (aCons (bC (.bl false)) (aCons (bC (.bl true)) (aCons (bC .non) (aCons (bC (.str "0")) (aCons (bArgs opTup (aCons (bC (.int 0)) (aNil))) (aCons (bArgs opLst (aCons (bC (.int 0)) (aNil))) (aCons (bBin opAdd (bVar 5) (bC (.int 1))) (aCons (bUn opNeg (bC (.int 1))) (aCons (bBin opAdd (bBin opAdd (bVar 5) (bC (.int 1))) (bCallIO a_take 0 (aCons (bBin opPow (bC (.int 10)) (bC (.int 20))) (aNil)))) (aNil))))))))))) (bCallIO a_take 0 (aCons (bC (.int 9)) (aNil))))
def rw3:Fa:=(aCons (bSl (bBin opIdx (bVar 2) (bVar 7)) none (some (bUn opNeg (bC (.int 1))))) (aCons (bBin opAdd (bBin opIdx (bVar 2) (bVar 7)) (bArgs opLst (aCons (bC (.int 0)) (aNil)))) (aCons (bBin opAdd (bBin opAdd (bSl (bBin opIdx (bVar 2) (bVar 7)) none (some (bVar 8))) (bArgs opLst (aCons (bVar 9) (aNil)))) (bSl (bBin opIdx (bVar 2) (bVar 7)) (some (bBin opAdd (bVar 8) (bC (.int 1)))) none)) (aNil))))
def apx:Fx:=(bBin opAdd (bBin opAdd (bSl (bVar 2) none (some (bVar 7))) (bArgs opLst (aCons (bVar 10) (aNil)))) (bSl (bVar 2) (some (bBin opAdd (bVar 7) (bC (.int 1)))) none))
def apP:Fs:=(sAppPut 6 (bCompS (bVar 2) 1 (asgN 14) tTrue (bArgs opLstC (aCons (bVar 14) (aNil)))) (bCallIO a_take 0 (aCons (bBin opAdd (bVar 5) (bC (.int 1))) (aNil))) (bCallIO a_take 0 (aCons (bVar 3) (aNil))) (bCallIO a_take 0 (aCons (bVar 4) (aNil))))
def lstB:Fs:=sIf (bT (bUn opNot (bCall a_is_pile (aCons (bVar 1) (aCons (bVar 13) (aNil)))))) (sApp 12 (bVar 13) [13]) sNil
def lstX:Fx:=bBin opIdx (bVar 12) (bCallIO a_take 0 (aCons (bArgs opLen (aCons (bVar 12) (aNil))) (aNil)))
theorem none_eq:Xa_none=sSeq (sUnp (asgT [3,4,5]) (bVar 1) [1]) (sSeq (sSet false 6 (bArgs opLst (aCons n1 (aCons n2 aNil))) [4,4,3,4]) (sSeq (sSet false 7 (bCallIO a_take 0 (aCons (bVar 3) (aNil))) [3]) (sSeq (sSet false 8 (bCallIO a_take 0 (aCons (bVar 4) (aNil))) [4]) (sSeq (sSet false 9 odd9 [5,5]) (sSeq (sForS (bArgs opLst rw3) [2,7,2,7,2,7,9,2,7] (asgN 10) (sApp 6 apx [2,10,2])) (sSeq (sForR ends1 (aCons (bC (.int 6)) (aNil)) (asgN 11) apP) (sSeq (sSet false 6 (bBin opAdd (bVar 6) (bArgs opLst A7)) [6,3,2,2]) (sSeq (sSet false 6 (bBin opAdd (bVar 6) (bArgs opLst A8)) [6,2,4,2,2,2,2]) (sSeq (sSet false 6 (bBin opAdd (bVar 6) (bArgs opLst A9)) [6,2,5,2,2,2]) (sSeq (sSet false 6 (bBin opAdd (bVar 6) (bArgs opLst A10)) [6,2,2,2,4,2,4]) (sSeq (sSet false 12 (bArgs opLst (aNil)) []) (sSeq (sForS (bVar 6) [6] (asgN 13) lstB) (sRet (bBin opAdd (bSl (bVar 12) none (some (bC (.int 5)))) (bCompR ends1 (aCons (bC (.int 2)) (aNil)) 1 (asgN 14) tTrue lstX))))))))))))))):=rfl
theorem asg_in {n:Nat}{y:PV}{ρ:Rho} (h:n < ρ.length):asgN n y ρ=some (ρ.set n (some (y,dv y))):=by
 unfold asgN
 rw [if_pos h]
section
variable {a b c:Nat}{t:List (List Int)}{x:PV}{ρ:Rho}
theorem odd9_ok {B:Int} (e:Ev a b c t x ρ) (hx:Pl B x) (hB:B≤90000):∃ y d x',okE 2 y=true∧Pl (B + 2) x'∧odd9 ρ=.ok (y,d,ρ.set 0 (some (x',om))):=by
 have z:=sz
 obtain ⟨v,x1,_,hx1,c1⟩:=ev_take (f:=bBin opPow (bC (.int 10)) (bC (.int 20))) (d:=om) (m:=10 ^ 20) e hx (by omega) (by decide) (by kernel_rfl)
 have e1:Ev a b c t x1 (ρ.set 0 (some (x1,om))):=e.pool
 obtain ⟨k0,x2,hk0,hx2,c2⟩:=ev_take (f:=bC (.int 9)) (d:=om) (m:=9) e1 hx1 (by omega) (by decide) rfl
 obtain ⟨k,rfl⟩:=Int.eq_ofNat_of_zero_le hk0.1
 rw [List.set_set] at c2
 let L9:List PV:=[.bl false,.bl true,.non,.str "0",.tup [.int 0],.lst [.int 0],.int ((c:Int) + 1),.int (-1),.int ((c:Int) + 1 + v)]
 have hk:k < L9.length:=by show k < 9;omega
 have p5:=add_ok (f:=bVar 5) (g:=bC (.int 1)) (ρ:=ρ) e.v5.var (j:=1) (e:=om) (ρ2:=ρ) rfl
 obtain ⟨d,l⟩:=lst_any (cons_ok (f:=bC (.bl false)) (x:=.bl false) (d:=om) (ρ:=ρ) rfl (cons_ok (f:=bC (.bl true)) (x:=.bl true) (d:=om) rfl (cons_ok (f:=bC .non) (x:=.non) (d:=om) rfl (cons_ok (f:=bC (.str "0")) (x:=.str "0") (d:=om) rfl (cons_ok (f:=bArgs opTup (aCons (bC (.int 0)) (aNil))) (x:=.tup [.int 0]) (d:=om) rfl (cons_ok (f:=bArgs opLst (aCons (bC (.int 0)) (aNil))) (x:=.lst [.int 0]) (d:=om) rfl (cons_ok p5 (cons_ok (f:=bUn opNeg (bC (.int 1))) (x:=.int (-1)) (d:=om) rfl (one_ok (add_ok p5 c1))))))))))  (by show 9≤sizeLine;omega)
 refine ⟨_,_,x2,?_,hx2.mono (by omega),idx_any l c2 hk⟩
 exact List.all_eq_true.mp (show L9.all (okE 2)=true from rfl) _ (List.getElem_mem hk)
theorem rows_loop {N i j:Nat}{y:PV}{W:List PV} (e:Ev a b c t x ρ) (ht:Tab a b t) (ha:a≤100) (hb:b≤100) (h6:Lst ρ 6 N G4 W) (hN:N≤100) (v7:Val ρ 7 (.int (i:Int))) (v8:Val ρ 8 (.int (j:Int))) (v9:Val ρ 9 y) (hy:okE 2 y=true) (hi:i < a) (hj:j < b):∃ ρ',sForS (bArgs opLst rw3) [2,7,2,7,2,7,9,2,7] (asgN 10) (sApp 6 apx [2,10,2]) ρ=.nx ρ'∧Ev a b c t x ρ'∧Lst ρ' 6 (N + 3) G4 W:=by
 have z:=sz
 have lt:=ht.1
 have lr:t[i]?=some (t.getD i []):=by rw [List.getD_eq_getElem?_getD,List.getElem?_eq_getElem (by omega)];rfl
 have lb:=ht.2 _ (List.mem_of_getElem? lr)
 have iR:bBin opIdx (bVar 2) (bVar 7) ρ=.ok (il (t.getD i []),0,ρ):=idx_tb (k:=(i:Int)) e.v2.var v7.var (atI_nat (by omega) (by rw [Int.toNat_natCast];exact lr))
 have r1:=sl_init iR
 have r2:=addL_ok iR (h:=bArgs opLst (aCons (bC (.int 0)) (aNil))) (ys:=[.int 0]) (e:=om) rfl (by rw [List.length_map,List.length_singleton];omega)
 have r3:=rw_val iR v8.var v9.var (by rw [List.length_map];omega) (by rw [List.length_map];omega)
 obtain ⟨d,l⟩:=lst_any (cons_ok r1 (cons_ok r2 (one_ok r3))) (by show 3≤sizeLine;omega)
 have hels:∀ w∈[PV.lst (((t.getD i []).map PV.int).take (((t.getD i []).map PV.int).length - 1)),.lst ((t.getD i []).map PV.int++[.int 0]),.lst (rwL ((t.getD i []).map PV.int) j y)],okE 3 w=true:=fun w hw=>by
  simp only [List.mem_cons,List.not_mem_nil,or_false] at hw
  rcases hw with rfl | rfl | rfl
  ·exact okE_mk (by rw [List.length_take,List.length_map];omega) fun u hu=>ints1 u (List.mem_of_mem_take hu)
  ·exact ok_app (by rw [List.length_map,List.length_singleton];omega) ints1 (ok_one rfl)
  ·exact okE_mk (by rw [rwL_len (by rw [List.length_map];omega),List.length_map];omega) fun u hu=>(rwL_mem hu).elim (ints1 u) fun e=>by rw [e];exact hy
 obtain ⟨ρ',el,h1,h2,_⟩:=loop_all (asg:=asgN 10) (body:=sApp 6 apx [2,10,2]) (N:=3) (fun n ρ=>Ev a b c t x ρ∧Lst ρ 6 (N + n) G4 W∧Val ρ 7 (.int (i:Int))) (fun w=>okE 3 w=true) [PV.lst (((t.getD i []).map PV.int).take (((t.getD i []).map PV.int).length - 1)),.lst ((t.getD i []).map PV.int++[.int 0]),.lst (rwL ((t.getD i []).map PV.int) j y)] 0 (coolIf d [2,7,2,7,2,7,9,2,7] ρ) (Nat.le_refl 3) hels ⟨e.cool rfl,h6.cool rfl,v7.cool⟩ (by
  rintro w n ρ hn hw ⟨e,h6,v7⟩
  have e':Ev a b c t x (ρ.set 10 (some (w,dv w))):=e.put (by decide)
  have h10:Val (ρ.set 10 (some (w,dv w))) 10 w:=Val.here (by rw [e.len];decide)
  have v7':Val (ρ.set 10 (some (w,dv w))) 7 (.int (i:Int)):=v7.set (by decide)
  have r:=rw_val e'.v2.var v7'.var h10.var (by rw [List.length_map];omega) (by rw [List.length_map];omega)
  have ok:okE 4 (.lst (rwL (t.map il) i w))=true:=okE_mk (by rw [rwL_len (by rw [List.length_map];omega),List.length_map];omega) fun u hu=>(rwL_mem hu).elim (rows3 (n:=1) ht hb u) fun e=>by rw [e];exact hw
  obtain ⟨ρ2,e2,l2,s,rfl⟩:=app_any (vs:=[2,10,2]) (h6.set (by decide)) r ok rfl (by omega)
  exact ⟨_,_,asg_in (by rw [e.len];decide),e2,(e'.cool rfl).put (by decide),l2,(v7'.cool).set (by decide)⟩)
 exact ⟨ρ',forS_of l rfl el,h1,h2⟩
theorem put2_nat {rows cells:List PV}{k j:Nat}{y:PV} (hk:rows[k]?=some (.lst cells)) (hj:j < cells.length):put2 (.lst rows) (k:Int) (j:Int) y=some (.lst (rows.set k (.lst (cells.set j y)))):=by
 unfold put2
 dsimp only
 rw [ixn (List.getElem?_eq_some_iff.mp hk).1]
 dsimp only
 rw [hk]
 dsimp only
 rw [ixn hj]
theorem appP_ok {N:Nat}{B:Int}{W:List PV} (e:Ev a b c t x ρ) (ht:Tab a b t) (ha:1≤a∧a≤100) (hb:1≤b∧b≤100) (hc:c≤1000) (hx:Pl B x) (hB:B≤90000) (h6:Lst ρ 6 N G4 W) (hN:N≤100):∃ ρ' x',apP ρ=.nx ρ'∧Ev a b c t x' ρ'∧Pl (B + 3) x'∧Lst ρ' 6 (N + 1) G4 W:=by
 have z:=sz
 have lt:=ht.1
 obtain ⟨ys,d0,e0,hd,hl,hP,hW⟩:=h6
 obtain ⟨d1,rfl⟩:∃ d1,d0=d1 + 1:=⟨d0 - 1,by omega⟩
 have hi6:=(List.getElem?_eq_some_iff.mp e0).1
 have f1:=copy_tb (i:=2) (n:=14) e.v2.var e.len (by omega)
 have e1:Ev a b c t x (ρ.set 6 none):=e.put (by decide)
 obtain ⟨v,x1,_,hx1,c1⟩:=ev_take (f:=bBin opAdd (bVar 5) (bC (.int 1))) (m:=(c:Int) + 1) e1 hx (by omega) (by omega) (add_ok e1.v5.var (j:=1) (e:=om) rfl)
 have e2:Ev a b c t x1 ((ρ.set 6 none).set 0 (some (x1,om))):=e1.pool
 obtain ⟨p',x2,hp,hx2,c2⟩:=ev_take (f:=bVar 3) (m:=(a:Int)) e2 hx1 (by omega) (by omega) e2.v3.var
 obtain ⟨p,rfl⟩:=Int.eq_ofNat_of_zero_le hp.1
 have e3:Ev a b c t x2 (((ρ.set 6 none).set 0 (some (x1,om))).set 0 (some (x2,om))):=e2.pool
 obtain ⟨q',x3,hq,hx3,c3⟩:=ev_take (f:=bVar 4) (m:=(b:Int)) e3 hx2 (by omega) (by omega) e3.v4.var
 obtain ⟨q,rfl⟩:=Int.eq_ofNat_of_zero_le hq.1
 have e4:Ev a b c t x3 ((((ρ.set 6 none).set 0 (some (x1,om))).set 0 (some (x2,om))).set 0 (some (x3,om))):=e3.pool
 have lr:t[p]?=some (t.getD p []):=by rw [List.getD_eq_getElem?_getD,List.getElem?_eq_getElem (by omega)];rfl
 have lb:=ht.2 _ (List.mem_of_getElem? lr)
 have pp:put2 (tb t) (p:Int) (q:Int) (.int v)=some (.lst ((t.map il).set p (.lst (((t.getD p []).map PV.int).set q (.int v))))):=put2_nat (rows:=t.map il) (cells:=(t.getD p []).map PV.int) (k:=p) (j:=q) (y:=.int v) (by rw [List.getElem?_map,lr];rfl) (by rw [List.length_map];omega)
 have ok:okE 4 (.lst ((t.map il).set p (.lst (((t.getD p []).map PV.int).set q (.int v)))))=true:=ok_set (n:=3) (by rw [List.length_map];omega) (rows3 (n:=1) ht hb.2) (ok_set (n:=2) (by rw [List.length_map];omega) ints1 rfl)
 refine ⟨_,x3,?_,e4.put (k:=6) (s:=some (.lst (ys++[.lst ((t.map il).set p (.lst (((t.getD p []).map PV.int).set q (.int v))))]),1)) (by decide),hx3.mono (by omega),ys++[.lst ((t.map il).set p (.lst (((t.getD p []).map PV.int).set q (.int v))))],1,List.getElem?_set_self (by rw [e4.len];decide),by decide,by rw [List.length_append,List.length_singleton];omega,fun w hw=>?_,fun w hw=>List.mem_append_left _ (hW w hw)⟩
 ·unfold apP sAppPut
  rw [e0]
  dsimp only
  rw [f1]
  dsimp only
  rw [e0]
  dsimp only
  rw [if_pos ⟨rfl,hd,by omega⟩,c1]
  dsimp only
  rw [c2]
  dsimp only
  rw [c3]
  dsimp only
  rw [pp]
  rfl
 ·rcases List.mem_append.mp hw with hw | hw
  ·exact hP w hw
  ·rw [List.mem_singleton.mp hw];exact ok
end
open PySem PySem.Spec PyProof.Rows L2 QQ
def pq (a b c:Nat) (x:PV):Bool:=match f_is_pile [bx a b c,x] with
 | .ok (.bl q,_,_)=>q
 | _=>false
theorem pq_ok {a b c:Nat} (ha:1≤a∧a≤100) (hb:1≤b∧b≤100) (hc:1≤c) {x:PV} (hx:okE 4 x=true):f_is_pile [bx a b c,x]=.ok (.bl (pq a b c x),om,.non)∧a_is_pile [bx a b c,x]=.ok (.bl (pq a b c x),om,.non):=by
 obtain ⟨q,h1,h2⟩:=agree ha hb hc (.inl (okE_le hx (by decide)))
 have e:pq a b c x=q:=by unfold pq;rw [h1]
 rw [e]
 exact ⟨h1,h2⟩
theorem loop_filter {asg:PV→Rho→Option Rho}{body:Fs}{N:Nat} (P:PV→Bool) (I:List PV→Rho→Prop):∀ (xs acc:List PV) (ρ:Rho),acc.length + xs.length≤N→I acc ρ→(∀ x∈xs,∀ acc ρ,acc.length < N→I acc ρ→∃ ρ1 ρ2,asg x ρ=some ρ1∧body ρ1=.nx ρ2∧I (if P x=true then acc++[x] else acc) ρ2)→∃ ρ',loopS asg body xs ρ=.nx ρ'∧I (acc++xs.filter P) ρ'
 | [],acc,ρ,_,h,_=>⟨ρ,rfl,by rw [List.filter_nil,List.append_nil];exact h⟩
 | x::xs,acc,ρ,hN,h,hb=>by
  rw [List.length_cons] at hN
  obtain ⟨ρ1,ρ2,e1,e2,h2⟩:=hb x List.mem_cons_self acc ρ (by omega) h
  have hl:(if P x=true then acc++[x] else acc).length + xs.length≤N:=by
   split
   ·rw [List.length_append,List.length_singleton];omega
   ·omega
  obtain ⟨ρ',e,h'⟩:=loop_filter P I xs _ ρ2 hl h2 fun y hy=>hb y (List.mem_cons_of_mem _ hy)
  refine ⟨ρ',by unfold loopS;rw [e1];dsimp only;rw [e2];exact e,?_⟩
  cases hp:P x with
  | true=>
   rw [hp,if_pos rfl,List.append_assoc,List.singleton_append] at h'
   rw [List.filter_cons_of_pos hp]
   exact h'
  | false=>
   rw [hp,if_neg Bool.false_ne_true] at h'
   rw [List.filter_cons_of_neg (by rw [hp];exact Bool.false_ne_true)]
   exact h'
theorem compL_sd {n:Nat}{elt:Fx} (I:Nat→Rho→Prop) (Pr:PV→Prop):∀ (xs:List PV) (i:Nat) (ρ:Rho) (acc:List (PV×Nat)),I i ρ→(∀ j ρ,I j ρ→ρ.length=n)→(∀ j x ρ,i≤j→j < i + xs.length→I j ρ→∃ y d ρ',elt (ρ++[some (x,dv x)])=.ok (y,d,ρ')∧I (j + 1) (ρ'.take n)∧Pr y)→acc.length + xs.length≤sizeLine →
  ∃ (ps:List (PV×Nat)) (ρ':Rho),compL 1 (asgN n) tTrue elt xs ρ acc=.ok (acc++ps,ρ')∧ps.length=xs.length∧(∀ p∈ps,Pr p.1)∧I (i + xs.length) ρ'
 | [],i,ρ,acc,h,_,_,_=>⟨[],ρ,by simp [compL],rfl,fun _ z=>(nomatch z),h⟩
 | x::xs,i,ρ,acc,h,hn,he,hl=>by
  obtain ⟨y,d,ρ1,e1,h1,p1⟩:=he i x ρ (Nat.le_refl _) (by rw [List.length_cons];omega) h
  have hρ:=hn i ρ h
  rw [List.length_cons] at hl
  obtain ⟨ps,ρ',e2,l2,p2,h2⟩:=compL_sd (n:=n) (elt:=elt) I Pr xs (i + 1) (ρ1.take n) (acc++[(y,d)]) h1 hn (fun j x ρ a b=>he j x ρ (by omega) (by rw [List.length_cons];omega)) (by rw [List.length_append,List.length_singleton];omega)
  refine ⟨(y,d)::ps,ρ',?_,by rw [List.length_cons,l2,List.length_cons],fun z hz=>(List.mem_cons.mp hz).elim (fun e=>by rw [e];exact p1) (p2 z),by rw [List.length_cons,show i + (xs.length + 1)=i + 1 + xs.length by omega];exact h2⟩
  unfold compL
  have ea:asgN n x (ρ++List.replicate 1 none)=some (ρ++[some (x,dv x)]):=by
   unfold asgN
   rw [if_pos (by rw [List.length_append,hρ];simp),List.set_append_right _ _ (by omega),hρ]
   simp
  rw [ea]
  dsimp only
  have:tTrue (ρ++[some (x,dv x)])=.ok (true,ρ++[some (x,dv x)]):=rfl
  rw [this]
  dsimp only [Rz.bindN]
  rw [if_pos rfl,e1]
  dsimp only
  rw [if_pos (by omega),hρ,e2]
  simp
theorem compR_ofD {n m:Nat}{en:List (PV×Nat)→Option (Int×Int)}{fa:Fa}{elt:Fx}{ρ ρ1 ρ2:Rho}{as:List (PV×Nat)}{ps:List (PV×Nat)} (hf:fa ρ=.ok (as,ρ1)) (hen:en as=some (0,(m:Int))) (h:compL 1 (asgN n) tTrue elt (rangeL 0 m) ρ1 []=.ok ([]++ps,ρ2)):∃ d,bCompR en fa 1 (asgN n) tTrue elt ρ=.ok (.lst (ps.map (·.1)),d,ρ2):=by
 refine ⟨if allOm ps then om else 1,?_⟩
 unfold bCompR
 rw [hf]
 dsimp only
 rw [hen]
 dsimp only
 rw [show ((m:Int) - 0).toNat=m by omega,h]
 rfl
theorem lst_ne {fa:Fa}{ρ ρ1:Rho}{xs:List (PV×Nat)} (h:fa ρ=.ok (xs,ρ1)) (hl:xs.length≤sizeLine):∃ d,d≠0∧bArgs opLst fa ρ=.ok (.lst (xs.map (·.1)),d,ρ1):=⟨if allOm xs then om else 1,by split <;> decide,args_ok h (by unfold opLst;rw [if_pos hl])⟩
theorem sl_some {f g:Fx}{ρ:Rho}{xs:List PV}{k:Int}{d e:Nat} (h1:f ρ=.ok (.lst xs,d,ρ)) (h2:g ρ=.ok (.int k,e,ρ)):∃ zs d',bSl f none (some g) ρ=.ok (.lst zs,d',ρ)∧zs.length≤xs.length∧∀ z∈zs,z∈xs:=by
 refine ⟨cutP xs none (some k),d1 (cutP xs none (some k)),?_,?_,fun z hz=>?_⟩
 ·unfold bSl
  rw [h1]
  dsimp only [Rz.bind,evO]
  rw [h2]
  rfl
 ·unfold cutP
  rw [List.length_take,List.length_drop]
  omega
 ·unfold cutP at hz
  exact List.mem_of_mem_drop (List.mem_of_mem_take hz)
section
variable {a b c:Nat}{t:List (List Int)}{x:PV}{ρ:Rho}
theorem filt_loop {ys:List PV}{d6:Nat} (ha:1≤a∧a≤100) (hb:1≤b∧b≤100) (hc:1≤c) (e:Ev a b c t x ρ) (h6:ρ[6]?=some (some (.lst ys,d6))) (hys:∀ y∈ys,okE 4 y=true) (hl:ys.length≤200) (h12:ρ[12]?=some (some (.lst [],om))):∃ ρ',sForS (bVar 6) [6] (asgN 13) lstB ρ=.nx ρ'∧Ev a b c t x ρ'∧∃ d,ρ'[12]?=some (some (.lst (ys.filter fun y=>!pq a b c y),d))∧d≠0:=by
 have z:=sz
 obtain ⟨ρ',el,h1,h2⟩:=loop_filter (asg:=asgN 13) (body:=lstB) (N:=200) (fun y=>!pq a b c y) (fun acc ρ=>Ev a b c t x ρ∧∃ d,ρ[12]?=some (some (.lst acc,d))∧d≠0) ys [] (coolIf 0 [6] ρ) (by rw [List.length_nil];omega) ⟨e.cool rfl,om,by rw [coolIf_at rfl];exact h12,by decide⟩ (by
  rintro y hy acc ρ hacc ⟨e,d,h12,hd⟩
  have e':Ev a b c t x (ρ.set 13 (some (y,dv y))):=e.put (by decide)
  have v13:Val (ρ.set 13 (some (y,dv y))) 13 y:=Val.here (by rw [e.len];decide)
  have h12':(ρ.set 13 (some (y,dv y)))[12]?=some (some (.lst acc,d)):=by rw [List.getElem?_set_ne (by decide)];exact h12
  have tt:=t_ok (not_ok (call_ok (F:=a_is_pile) (cons_ok e'.v1.var (one_ok v13.var)) (pq_ok ha hb hc (hys y hy)).2))
  cases hp:pq a b c y with
  | true=>
   rw [hp] at tt
   exact ⟨_,_,asg_in (by rw [e.len];decide),(if_f tt).trans rfl,e',d,h12',hd⟩
  | false=>
   rw [hp] at tt
   obtain ⟨d1,rfl⟩:∃ d1,d=d1 + 1:=⟨d - 1,by omega⟩
   have h3:(coolIf (dv y) [13] (ρ.set 13 (some (y,dv y))))[12]?=some (some (.lst acc,d1 + 1)):=by rw [coolIf_at rfl];exact h12'
   refine ⟨_,_,asg_in (by rw [e.len];decide),(if_t tt).trans (app_ok h12' v13.var h3 hd (by omega) rfl),(e'.cool rfl).put (by decide),_,List.getElem?_set_self (by rw [coolIf_sz,e'.len];decide),?_⟩
   split <;> decide)
 rw [List.nil_append] at h2
 exact ⟨ρ',forS_of (els:=ys) (d:=0) (Val.var ⟨d6,h6⟩) rfl el,h1,h2⟩
theorem last_ok {acc:List PV}{d12:Nat}{B:Int} (e:Ev a b c t x ρ) (h12:ρ[12]?=some (some (.lst acc,d12))) (h0:0 < acc.length) (hl:acc.length≤200) (hx:Pl B x) (hB:B≤90000):∃ zs d x' ρ',zs.length≤300∧(∀ z∈zs,z∈acc)∧Pl (B + 2) x'∧ρ'[0]?=some (some (x',om))∧bBin opAdd (bSl (bVar 12) none (some (bC (.int 5)))) (bCompR ends1 (aCons (bC (.int 2)) (aNil)) 1 (asgN 14) tTrue lstX) ρ=.ok (.lst zs,d,ρ'):=by
 have z:=sz
 obtain ⟨z1,d1',s1,l1,m1⟩:=sl_some (f:=bVar 12) (g:=bC (.int 5)) (ρ:=ρ) (k:=5) (e:=om) (Val.var ⟨d12,h12⟩) rfl
 obtain ⟨ps,ρ2,e2,l2,m2,x',e',hx',h12'⟩:=compL_sd (n:=14) (elt:=lstX) (fun j ρ=>∃ x,Ev a b c t x ρ∧Pl (B + (j:Int)) x∧ρ[12]?=some (some (.lst acc,d12))) (fun y=>y∈acc) (rangeL 0 2) 0 ρ [] ⟨x,e,hx.mono (by omega),h12⟩ (fun j ρ ⟨x,e,_⟩=>e.len) (by
  rintro j w ρ _ hj ⟨x,e,hx,h12⟩
  have hj2:j < 2:=by rw [rangeL_len] at hj;omega
  have v12:Val (ρ++[some (w,dv w)]) 12 (.lst acc):=Val.app ⟨d12,h12⟩
  have p0:(ρ++[some (w,dv w)])[0]?=some (some (x,om)):=by rw [List.getElem?_append_left (by rw [e.len];decide)];exact e.p
  obtain ⟨k0,x1,hk0,hx1,t1⟩:=take_ok (m:=(acc.length:Int)) hx (by omega) (by omega)
  obtain ⟨k,rfl⟩:=Int.eq_ofNat_of_zero_le hk0.1
  have hk:k < acc.length:=by omega
  have c1:bCallIO a_take 0 (aCons (bArgs opLen (aCons (bVar 12) (aNil))) (aNil)) (ρ++[some (w,dv w)])=.ok (.int (k:Int),om,(ρ++[some (w,dv w)]).set 0 (some (x1,om))):=callIO_ok (p:=(x,om)) (x0:=x) (d0:=om) (xs:=[(.int (acc.length:Int),om)]) p0 (one_ok (args_ok (one_ok v12.var) rfl)) p0 t1 rfl
  refine ⟨_,_,_,idx_any v12.var c1 hk,⟨x1,?_,hx1.mono (by omega),?_⟩,List.getElem_mem hk⟩
  ·rw [List.set_append_left _ _ (by rw [e.len];decide),take_app (by rw [List.length_set];exact e.len)]
   exact e.pool
  ·rw [List.set_append_left _ _ (by rw [e.len];decide),take_app (by rw [List.length_set];exact e.len),List.getElem?_set_ne (by decide)]
   exact h12) (by rw [List.length_nil,rangeL_len];omega)
 obtain ⟨d3,c3⟩:=compR_ofD (m:=2) (en:=ends1) (fa:=aCons (bC (.int 2)) (aNil)) (ρ:=ρ) (as:=[(.int 2,om)]) rfl (ends1_ok (by decide) (by decide)) e2
 rw [rangeL_len] at l2
 refine ⟨_,_,x',ρ2,?_,fun w hw=>?_,hx'.mono (by rw [rangeL_len];omega),e'.p,addL_ok s1 c3 (by rw [List.length_map,l2];omega)⟩
 ·rw [List.length_append,List.length_map,l2];omega
 ·rcases List.mem_append.mp hw with hw | hw
  ·exact m1 w hw
  ·obtain ⟨p,hp,rfl⟩:=List.mem_map.mp hw
   exact m2 p hp
theorem none_ok {B:Int} (ht:Tab a b t) (ha:1≤a∧a≤100) (hb:1≤b∧b≤100) (hc:1≤c∧c≤1000) (hx:Pl B x) (hB:B≤80000):∃ zs d x',zs.length≤300∧(∀ z∈zs,okE 4 z=true∧f_is_pile [bx a b c,z]=.ok (.bl false,om,.non))∧Pl (B + 30) x'∧a_none [x,bx a b c,tb t]=.ok (.lst zs,d,x'):=by
 have z:=sz
 let R1:Rho:=[some (x,om),some (bx a b c,0),some (tb t,0),some (.int a,om),some (.int b,om),some (.int c,om),none,none,none,none,none,none,none,none]
 have v0:sUnp (asgT [3,4,5]) (bVar 1) [1] [some (x,om),some (bx a b c,0),some (tb t,0),none,none,none,none,none,none,none,none,none,none,none]=.nx R1:=by kernel_rfl
 have e1:Ev a b c t x R1:=⟨rfl,rfl,⟨_,rfl⟩,⟨_,rfl⟩,⟨_,rfl⟩,⟨_,rfl⟩,⟨_,rfl⟩⟩
 obtain ⟨y1,f1,g1,o1⟩:=n1_ok e1 ha.2 hb.2
 obtain ⟨y2,f2,g2,o2⟩:=n2_ok e1 ha.2 hb
 obtain ⟨d,hd,l1⟩:=lst_ne (cons_ok g1 (one_ok g2)) (by show 2≤sizeLine;omega)
 have v1:sSet false 6 (bArgs opLst (aCons n1 (aCons n2 aNil))) [4,4,3,4] R1=.nx ((coolIf d [4,4,3,4] R1).set 6 (some (.lst [y1,y2],d))):=set_any l1 (show 6 < 14 by decide)
 have e2:Ev a b c t x ((coolIf d [4,4,3,4] R1).set 6 (some (.lst [y1,y2],d))):=(e1.cool rfl).put (by decide)
 have L2:Lst ((coolIf d [4,4,3,4] R1).set 6 (some (.lst [y1,y2],d))) 6 2 G4 []:=⟨[y1,y2],d,List.getElem?_set_self (by rw [coolIf_sz];show 6 < 14;decide),hd,Nat.le_refl 2,fun y hy=>by
  rcases List.mem_cons.mp hy with rfl | hy
  ·exact o1
  ·rw [List.mem_singleton.mp hy];exact o2,fun _ z=>nomatch z⟩
 revert v1 e2 L2
 generalize (coolIf d [4,4,3,4] R1).set 6 (some (.lst [y1,y2],d))=ρ2
 intro v1 e2 L2
 obtain ⟨i',x2,hi,hx2,c2⟩:=ev_take (f:=bVar 3) (m:=(a:Int)) e2 hx (by omega) (by omega) e2.v3.var
 obtain ⟨i,rfl⟩:=Int.eq_ofNat_of_zero_le hi.1
 have v2:=set_any (i:=7) (vs:=[3]) c2 (by rw [List.length_set,e2.len];decide)
 have e3:Ev a b c t x2 ((coolIf om [3] (ρ2.set 0 (some (x2,om)))).set 7 (some (.int (i:Int),om))):=(e2.pool.cool rfl).put (by decide)
 have L3:Lst ((coolIf om [3] (ρ2.set 0 (some (x2,om)))).set 7 (some (.int (i:Int),om))) 6 2 G4 []:=((L2.set (by decide)).cool rfl).set (by decide)
 have i3:Val ((coolIf om [3] (ρ2.set 0 (some (x2,om)))).set 7 (some (.int (i:Int),om))) 7 (.int (i:Int)):=Val.here (by rw [coolIf_sz,List.length_set,e2.len];decide)
 revert v2 e3 L3 i3
 generalize (coolIf om [3] (ρ2.set 0 (some (x2,om)))).set 7 (some (.int (i:Int),om))=ρ3
 intro v2 e3 L3 i3
 obtain ⟨j',x3,hj,hx3,c3⟩:=ev_take (f:=bVar 4) (m:=(b:Int)) e3 hx2 (by omega) (by omega) e3.v4.var
 obtain ⟨j,rfl⟩:=Int.eq_ofNat_of_zero_le hj.1
 have v3:=set_any (i:=8) (vs:=[4]) c3 (by rw [List.length_set,e3.len];decide)
 have e4:Ev a b c t x3 ((coolIf om [4] (ρ3.set 0 (some (x3,om)))).set 8 (some (.int (j:Int),om))):=(e3.pool.cool rfl).put (by decide)
 have L4:Lst ((coolIf om [4] (ρ3.set 0 (some (x3,om)))).set 8 (some (.int (j:Int),om))) 6 2 G4 []:=((L3.set (by decide)).cool rfl).set (by decide)
 have i4:Val ((coolIf om [4] (ρ3.set 0 (some (x3,om)))).set 8 (some (.int (j:Int),om))) 7 (.int (i:Int)):=((i3.set (by decide)).cool).set (by decide)
 have j4:Val ((coolIf om [4] (ρ3.set 0 (some (x3,om)))).set 8 (some (.int (j:Int),om))) 8 (.int (j:Int)):=Val.here (by rw [coolIf_sz,List.length_set,e3.len];decide)
 revert v3 e4 L4 i4 j4
 generalize (coolIf om [4] (ρ3.set 0 (some (x3,om)))).set 8 (some (.int (j:Int),om))=ρ4
 intro v3 e4 L4 i4 j4
 obtain ⟨y,dy,x4,hy,hx4,c4⟩:=odd9_ok e4 hx3 (by omega)
 have v4:=set_any (i:=9) (vs:=[5,5]) c4 (by rw [List.length_set,e4.len];decide)
 have e5:Ev a b c t x4 ((coolIf dy [5,5] (ρ4.set 0 (some (x4,om)))).set 9 (some (y,dy))):=(e4.pool.cool rfl).put (by decide)
 have L5:Lst ((coolIf dy [5,5] (ρ4.set 0 (some (x4,om)))).set 9 (some (y,dy))) 6 2 G4 []:=((L4.set (by decide)).cool rfl).set (by decide)
 have i5:Val ((coolIf dy [5,5] (ρ4.set 0 (some (x4,om)))).set 9 (some (y,dy))) 7 (.int (i:Int)):=((i4.set (by decide)).cool).set (by decide)
 have j5:Val ((coolIf dy [5,5] (ρ4.set 0 (some (x4,om)))).set 9 (some (y,dy))) 8 (.int (j:Int)):=((j4.set (by decide)).cool).set (by decide)
 have y5:Val ((coolIf dy [5,5] (ρ4.set 0 (some (x4,om)))).set 9 (some (y,dy))) 9 y:=Val.here (by rw [coolIf_sz,List.length_set,e4.len];decide)
 obtain ⟨ρ5,v5,e6,L6⟩:=rows_loop e5 ht ha.2 hb.2 L5 (by decide) i5 j5 y5 hy (by omega) (by omega)
 obtain ⟨ρ6,v6,x5,e7,hx5,L7⟩:=forR_inv (i:=11) (body:=apP) (en:=ends1) (fa:=aCons (bC (.int 6)) (aNil)) (ρ:=ρ5) (ρ1:=ρ5) (as:=[(.int 6,om)]) (lo:=0) (hi:=6) (fun n ρ=>∃ x,Ev a b c t x ρ∧Pl (B + 4 + 3 * (n:Int)) x∧Lst ρ 6 (2 + 3 + n) G4 []) rfl rfl ⟨x4,e6,hx4.mono (by omega),L6⟩ (by
  rintro n ρ hn ⟨x,e,hx,L⟩
  have hn6:n < 6:=by omega
  obtain ⟨ρ',x',h1,h2,h3,h4⟩:=appP_ok (ρ:=ρ.set 11 (some (.int (0 + (n:Int)),om))) (e.put (by decide)) ht ha hb hc.2 hx (by omega) (L.set (by decide)) (by omega)
  exact ⟨by rw [e.len];decide,ρ',h1,x',h2,h3.mono (by omega),h4⟩)
 obtain ⟨ρ7,v7,L8,da7,sa7,h7⟩:=more_ok (v:=[6,3,2,2]) L7 (A7_ok e7 ht ha.2 hb.2) (by decide)
 have e8:Ev a b c t x5 ρ7:=by rw [h7];exact (e7.cool rfl).put (Nat.le_refl 6)
 obtain ⟨ρ8,v8,L9,da8,sa8,h8⟩:=more_ok (v:=[6,2,4,2,2,2,2]) L8 (A8_ok e8 ht ha.2 hb.2) (by decide)
 have e9:Ev a b c t x5 ρ8:=by rw [h8];exact (e8.cool rfl).put (Nat.le_refl 6)
 obtain ⟨ρ9,v9,L10,da9,sa9,h9⟩:=more_ok (v:=[6,2,5,2,2,2]) L9 (A9_ok e9 ht ha.2 hb) (by decide)
 have e10:Ev a b c t x5 ρ9:=by rw [h9];exact (e9.cool rfl).put (Nat.le_refl 6)
 obtain ⟨ρ10,v10,L11,dd,ss,h10⟩:=more_ok (v:=[6,2,2,2,4,2,4]) L10 (A10_ok e10 ht ha.2 hb) (by decide)
 have e11:Ev a b c t x5 ρ10:=by rw [h10];exact (e10.cool rfl).put (Nat.le_refl 6)
 have v11:=set_any (i:=12) (f:=bArgs opLst aNil) (vs:=[]) (ρ:=ρ10) (x:=.lst []) (d:=om) rfl (by rw [e11.len];decide)
 have e12:Ev a b c t x5 ((coolIf om [] ρ10).set 12 (some (.lst [],om))):=(e11.cool rfl).put (by decide)
 obtain ⟨ys,d6,h6,_,hl6,hys,hW⟩:=(L11.cool (d:=om) (vs:=[]) rfl).set (s:=some (.lst [],om)) (j:=12) (by decide)
 obtain ⟨ρ13,v12,e13,d12,h12,_⟩:=filt_loop ha hb hc.1 e12 h6 hys (Nat.le_trans hl6 (by decide)) (List.getElem?_set_self (by rw [coolIf_sz,e11.len];decide))
 have hnon:.non∈ys.filter fun y=>!pq a b c y:=by
  refine List.mem_filter.mpr ⟨hW .non (show PV.non∈[PV.non] from List.mem_cons_self),?_⟩
  have h:=(pq_ok (a:=a) (b:=b) (c:=c) ha hb hc.1 (x:=.non) rfl).1
  rw [pile_none (n:=1) (boxB_nat ha.1 hb.1 hc.1) rfl rfl] at h
  cases hp:pq a b c .non with
  | true=>rw [hp] at h;cases h
  | false=>rfl
 obtain ⟨zs,d,x',ρ',hlz,hz,hx',hp',e14⟩:=last_ok e13 h12 (List.length_pos_of_mem hnon) (Nat.le_trans (List.length_filter_le _ _) (Nat.le_trans hl6 (by decide))) hx5 (by omega)
 refine ⟨zs,d,x',hlz,fun w hw=>?_,hx'.mono (by omega),fnio_rt (c:=om) rfl (none_eq ▸ (seq_nx v0).trans ((seq_nx v1).trans ((seq_nx v2).trans ((seq_nx v3).trans ((seq_nx v4).trans ((seq_nx v5).trans ((seq_nx v6).trans ((seq_nx v7).trans ((seq_nx v8).trans ((seq_nx v9).trans ((seq_nx v10).trans ((seq_nx v11).trans ((seq_nx v12).trans (ret_ok e14)))))))))))))) hp'⟩
 obtain ⟨hm,hn⟩:=List.mem_filter.mp (hz w hw)
 have h:=(pq_ok (a:=a) (b:=b) (c:=c) ha hb hc.1 (hys w hm)).1
 cases hp:pq a b c w with
 | true=>rw [hp] at hn;cases hn
 | false=>rw [hp] at h;exact ⟨hys w hm,h⟩
end
end QV
namespace K06
open PySem PySem.Spec PyProof.Rows L2 QQ
theorem some_getD {α:Type}{x:Option α}{d:α} (h:x.isSome=true):x=some (x.getD d):=by
 cases x with
 | none=>cases h
 | some a=>rfl
def top (i:Nat):Stmt:=PySem.Challenge.pw_cornerpiles_k06_refused_ahead.main.body.getD i (.Pass ⟨0,0,0,0⟩)
abbrev t0:Stmt:=top 14
def G0:List (Str×(Bool×Nat×Fn)):=[]
def S0:Sx:=⟨["thing"],defScope t0,[],[],G0,[],true,[0,1,2,3,4,5,6,7,8,9,10,11],[]⟩
abbrev b0:Fs:=QV.Xf_is_whole_number
abbrev F0:Fn:=QV.f_is_whole_number
theorem h0:denSsW (denS 60 S0) (defBody t0)=some b0:=by kernel_rfl
abbrev t1:Stmt:=top 15
def G1:List (Str×(Bool×Nat×Fn)):=[("is_whole_number",(false,1,F0))]
def S1:Sx:=⟨["thing"],defScope t1,[],[],G1,[],true,[0,1,2,3,4,5,6,7,8,9,10,11],[]⟩
abbrev b1:Fs:=QV.Xf_is_box
abbrev F1:Fn:=QV.f_is_box
theorem h1:denSsW (denS 60 S1) (defBody t1)=some b1:=by kernel_rfl
abbrev t2:Stmt:=top 16
def G2:List (Str×(Bool×Nat×Fn)):=[("is_box",(false,1,F1))]
def S2:Sx:=⟨["box"],defScope t2,[],[],G2,[],true,[0,1,2,3,4,5,6,7,8,9,10,11],[]⟩
abbrev b2:Fs:=QV.Xf_must_be_box
abbrev F2:Fn:=QV.f_must_be_box
theorem h2:denSsW (denS 60 S2) (defBody t2)=some b2:=by kernel_rfl
abbrev t3:Stmt:=top 17
def G3:List (Str×(Bool×Nat×Fn)):=[("is_whole_number",(false,1,F0))]
def S3:Sx:=⟨["thing","columns","height"],defScope t3,[],[],G3,[],true,[0,1,2,3,4,5,6,7,8,9,10,11],[]⟩
abbrev b3:Fs:=QV.Xf_is_row_of_heights
abbrev F3:Fn:=QV.f_is_row_of_heights
theorem h3:denSsW (denS 60 S3) (defBody t3)=some b3:=by kernel_rfl
abbrev t4:Stmt:=top 18
def G4:List (Str×(Bool×Nat×Fn)):=[]
def S4:Sx:=⟨["numbers"],defScope t4,[],[],G4,[],true,[0,1,2,3,4,5,6,7,8,9,10,11],[]⟩
abbrev b4:Fs:=QV.Xf_never_rises
abbrev F4:Fn:=QV.f_never_rises
theorem h4:denSsW (denS 60 S4) (defBody t4)=some b4:=by kernel_rfl
abbrev t5:Stmt:=top 19
def G5:List (Str×(Bool×Nat×Fn)):=[]
def S5:Sx:=⟨["table","j"],defScope t5,[],[],G5,[],true,[0,1,2,3,4,5,6,7,8,9,10,11],[]⟩
abbrev b5:Fs:=QV.Xf_column_of
abbrev F5:Fn:=QV.f_column_of
theorem h5:denSsW (denS 60 S5) (defBody t5)=some b5:=by kernel_rfl
abbrev t6:Stmt:=top 20
def G6:List (Str×(Bool×Nat×Fn)):=[("must_be_box",(false,1,F2)),("is_row_of_heights",(false,3,F3)),("never_rises",(false,1,F4)),("column_of",(false,2,F5))]
def S6:Sx:=⟨["box","thing","rows","columns","height"],defScope t6,[],[],G6,[],true,[0,1,2,3,4,5,6,7,8,9,10,11],[]⟩
abbrev b6:Fs:=QV.Xf_is_pile
abbrev F6:Fn:=QV.f_is_pile
theorem h6:denSsW (denS 60 S6) (defBody t6)=some b6:=by kernel_rfl
abbrev t7:Stmt:=top 21
def G7:List (Str×(Bool×Nat×Fn)):=[("is_pile",(false,2,F6))]
def S7:Sx:=⟨["box","pile"],defScope t7,[],[],G7,[],true,[0,1,2,3,4,5,6,7,8,9,10,11],[]⟩
abbrev b7:Fs:=QV.Xf_must_be_pile
abbrev F7:Fn:=QV.f_must_be_pile
theorem h7:denSsW (denS 60 S7) (defBody t7)=some b7:=by kernel_rfl
abbrev t8:Stmt:=top 22
def G8:List (Str×(Bool×Nat×Fn)):=[("must_be_pile",(false,2,F7))]
def S8:Sx:=⟨["box","pile","cubes","i","row","j","height"],defScope t8,[],[],G8,[],true,[0,1,2,3,4,5,6,7,8,9,10,11],[]⟩
def b8:Fs:=(sSeq (sDrop (bCall F7 (aCons (bVar 0) (aCons (bVar 1) (aNil)))))
 (sSeq (sSet false 2 (bArgs opLst (aNil)) [])
 (sSeq sNo
 (sRetV 2))))
def F8:Fn:=mkFn false 2 5 b8
theorem h8:denSsW (denS 60 S8) (defBody t8)=some b8:=by kernel_rfl
abbrev t9:Stmt:=top 23
def G9:List (Str×(Bool×Nat×Fn)):=[("must_be_pile",(false,2,F7))]
def S9:Sx:=⟨["box","pile"],defScope t9,[],[],G9,[],true,[0,1,2,3,4,5,6,7,8,9,10,11],[]⟩
abbrev b9:Fs:=QV.Xf_how_many_cubes
abbrev F9:Fn:=QV.f_how_many_cubes
theorem h9:denSsW (denS 60 S9) (defBody t9)=some b9:=by kernel_rfl
abbrev t10:Stmt:=top 24
def G10:List (Str×(Bool×Nat×Fn)):=[("is_whole_number",(false,1,F0))]
def S10:Sx:=⟨["box","thing"],defScope t10,[],[],G10,[],true,[0,1,2,3,4,5,6,7,8,9,10,11],[]⟩
def b10:Fs:=(sSeq (sIf (bT (bOrV (bUn opNot (bUn (opIsi "tuple") (bVar 1))) (bBin (opEq true) (bArgs opLen (aCons (bVar 1) (aNil))) (bC (.int 3))))) (sRet (bC (.bl false))) sNil)
 sNo)
def F10:Fn:=mkFn false 2 0 b10
theorem h10:denSsW (denS 60 S10) (defBody t10)=some b10:=by kernel_rfl
abbrev t11:Stmt:=top 25
def G11:List (Str×(Bool×Nat×Fn)):=[]
def S11:Sx:=⟨["cube","i","j","k","nearer"],defScope t11,[],[],G11,[],true,[0,1,2,3,4,5,6,7,8,9,10,11],[]⟩
abbrev b11:Fs:=QV.Xf_cubes_needed_by
abbrev F11:Fn:=QV.f_cubes_needed_by
theorem h11:denSsW (denS 60 S11) (defBody t11)=some b11:=by kernel_rfl
abbrev t12:Stmt:=top 26
def G12:List (Str×(Bool×Nat×Fn)):=[("is_cube_in",(false,2,F10)),("cubes_needed_by",(false,1,F11))]
def S12:Sx:=⟨["box","cubes","there","cube"],defScope t12,[],[],G12,[],true,[0,1,2,3,4,5,6,7,8,9,10,11],[]⟩
def b12:Fs:=(sSeq (sIf (bT (bOrV (bUn opNot (bUn (opIsi "list") (bVar 1))) (bUn opNot (bArgs opAll (aCons (bCompS (bVar 1) 1 (asgN 4) tTrue (bCall F10 (aCons (bVar 0) (aCons (bVar 4) (aNil))))) (aNil)))))) (sExc 2) sNil)
 (sSeq (sSet false 2 bDct [])
 (sSeq (sForS (bVar 1) [1] (asgN 3) sNo)
 (sForS (bVar 1) [1] (asgN 3) sNo))))
def F12:Fn:=mkFn false 2 2 b12
theorem h12:denSsW (denS 60 S12) (defBody t12)=some b12:=by kernel_rfl
abbrev t13:Stmt:=top 27
def G13:List (Str×(Bool×Nat×Fn)):=[("must_be_box",(false,1,F2)),("must_be_cubes_of_a_pile",(false,2,F12))]
def S13:Sx:=⟨["box","cubes","rows","columns","height","pile","i","j","k"],defScope t13,[],[],G13,[],true,[0,1,2,3,4,5,6,7,8,9,10,11],[]⟩
def b13:Fs:=(sSeq (sDrop (bCall F2 (aCons (bVar 0) (aNil))))
 (sSeq (sDrop (bCall F12 (aCons (bVar 0) (aCons (bVar 1) (aNil)))))
 (sSeq (sUnp (asgT [2,3,4]) (bVar 0) [0])
 (sSeq (sSet false 5 (bCompR ends1 (aCons (bVar 2) (aNil)) 1 (asgN 9) tTrue (bBin opMul (bArgs opLst (aCons (bC (.int 0)) (aNil))) (bVar 3))) [3])
 (sSeq (sForS (bVar 1) [1] (asgT [6,7,8]) sNo)
 (sRetV 5))))))
def F13:Fn:=mkFn false 2 7 b13
theorem h13:denSsW (denS 60 S13) (defBody t13)=some b13:=by kernel_rfl
abbrev t14:Stmt:=top 28
def G14:List (Str×(Bool×Nat×Fn)):=[("column_of",(false,2,F5)),("must_be_pile",(false,2,F7))]
def S14:Sx:=⟨["box","pile"],defScope t14,[],[],G14,[],true,[0,1,2,3,4,5,6,7,8,9,10,11],[]⟩
abbrev b14:Fs:=QV.Xf_mirrored_pile
abbrev F14:Fn:=QV.f_mirrored_pile
theorem h14:denSsW (denS 60 S14) (defBody t14)=some b14:=by kernel_rfl
abbrev t15:Stmt:=top 29
def G15:List (Str×(Bool×Nat×Fn)):=[]
def S15:Sx:=⟨["numbers","level"],defScope t15,[],[],G15,[],true,[0,1,2,3,4,5,6,7,8,9,10,11],[]⟩
abbrev b15:Fs:=QV.Xf_how_many_above
abbrev F15:Fn:=QV.f_how_many_above
theorem h15:denSsW (denS 60 S15) (defBody t15)=some b15:=by kernel_rfl
abbrev t16:Stmt:=top 30
def G16:List (Str×(Bool×Nat×Fn)):=[("column_of",(false,2,F5)),("must_be_pile",(false,2,F7)),("how_many_above",(false,2,F15))]
def S16:Sx:=⟨["box","pile","rolled","j","column"],defScope t16,[],[],G16,[],true,[0,1,2,3,4,5,6,7,8,9,10,11],[]⟩
abbrev b16:Fs:=QV.Xf_rolled_pile
abbrev F16:Fn:=QV.f_rolled_pile
theorem h16:denSsW (denS 60 S16) (defBody t16)=some b16:=by kernel_rfl
abbrev t17:Stmt:=top 31
def G17:List (Str×(Bool×Nat×Fn)):=[("must_be_pile",(false,2,F7))]
def S17:Sx:=⟨["box","pile","rest","row"],defScope t17,[],[],G17,[],true,[0,1,2,3,4,5,6,7,8,9,10,11],[]⟩
def b17:Fs:=(sSeq (sDrop (bCall F7 (aCons (bVar 0) (aCons (bVar 1) (aNil)))))
 (sSeq (sSet false 2 (bArgs opLst (aNil)) [])
 (sSeq sNo
 (sRetV 2))))
def F17:Fn:=mkFn false 2 2 b17
theorem h17:denSsW (denS 60 S17) (defBody t17)=some b17:=by kernel_rfl
abbrev t18:Stmt:=top 33
def G18:List (Str×(Bool×Nat×Fn)):=[]
def S18:Sx:=⟨["script","k","cell"],defScope t18,[],[],G18,[],true,[0,1,2,3,4,5,6,7,8,9,10,11],[]⟩
abbrev b18:Fs:=QV.Xa_pool
abbrev F18:Fn:=QV.a_pool
theorem h18:denSsW (denS 60 S18) (defBody t18)=some b18:=by kernel_rfl
abbrev t19:Stmt:=top 34
def G19:List (Str×(Bool×Nat×Fn)):=[]
def S19:Sx:=⟨["pool","many","found","step","mark"],defScope t19,[0],[],G19,[],true,[0,1,2,3,4,5,6,7,8,9,10,11],[]⟩
abbrev b19:Fs:=QV.Xa_take
abbrev F19:Fn:=QV.a_take
theorem h19:denSsW (denS 60 S19) (defBody t19)=some b19:=by kernel_rfl
abbrev t20:Stmt:=top 35
def G20:List (Str×(Bool×Nat×Fn)):=[("_law_take",(true,2,F19))]
def S20:Sx:=⟨["pool","most"],defScope t20,[0],[],G20,[],true,[0,1,2,3,4,5,6,7,8,9,10,11],[]⟩
abbrev b20:Fs:=QV.Xa_box
abbrev F20:Fn:=QV.a_box
theorem h20:denSsW (denS 60 S20) (defBody t20)=some b20:=by kernel_rfl
abbrev t21:Stmt:=top 36
def G21:List (Str×(Bool×Nat×Fn)):=[("_law_take",(true,2,F19))]
def S21:Sx:=⟨["pool","box","rows","columns","height","kind","found","i","row","j","most","some"],defScope t21,[0],[],G21,[],true,[0,1,2,3,4,5,6,7,8,9,10,11],[]⟩
abbrev b21:Fs:=QV.Xa_pile
abbrev F21:Fn:=QV.a_pile
theorem h21:denSsW (denS 60 S21) (defBody t21)=some b21:=by kernel_rfl
abbrev t22:Stmt:=top 37
def G22:List (Str×(Bool×Nat×Fn)):=[]
def S22:Sx:=⟨["box","thing","row","i","j","most"],defScope t22,[],[],G22,[],true,[0,1,2,3,4,5,6,7,8,9,10,11],[]⟩
abbrev b22:Fs:=QV.Xa_is_pile
abbrev F22:Fn:=QV.a_is_pile
theorem h22:denSsW (denS 60 S22) (defBody t22)=some b22:=by kernel_rfl
abbrev t23:Stmt:=top 38
def G23:List (Str×(Bool×Nat×Fn)):=[]
def S23:Sx:=⟨["caught","due","kinds"],defScope t23,[],[],G23,[],true,[0,1,2,3,4,5,6,7,8,9,10,11],[]⟩
abbrev b23:Fs:=QV.Xa_is
abbrev F23:Fn:=QV.a_is
theorem h23:denSsW (denS 60 S23) (defBody t23)=some b23:=by kernel_rfl
abbrev t24:Stmt:=top 39
def G24:List (Str×(Bool×Nat×Fn)):=[("_law_take",(true,2,F19))]
def S24:Sx:=⟨["pool","far","some"],defScope t24,[0],[],G24,[],true,[0,1,2,3,4,5,6,7,8,9,10,11],[]⟩
abbrev b24:Fs:=QV.Xa_odd_boxes
abbrev F24:Fn:=QV.a_odd_boxes
theorem h24:denSsW (denS 60 S24) (defBody t24)=some b24:=by kernel_rfl
abbrev t25:Stmt:=top 40
def G25:List (Str×(Bool×Nat×Fn)):=[("cubes_of",(false,2,F8)),("how_many_cubes",(false,2,F9)),("mirrored_pile",(false,2,F14)),("rolled_pile",(false,2,F16)),("rest_of",(false,2,F17)),("_law_is",(false,2,F23))]
def S25:Sx:=⟨["way","box","pile","due","caught","e"],defScope t25,[],[],G25,[],true,[0,1,2,3,4,5,6,7,8,9,10,11],[]⟩
def b25:Fs:=(sSeq (sSet false 4 (bC .non) [])
 (sSeq (sTry 0 4 5 [] (sIf (bT (bBin (opEq false) (bVar 0) (bC (.int 0)))) (sDrop (bCall F8 (aCons (bVar 1) (aCons (bVar 2) (aNil))))) (sIf (bT (bBin (opEq false) (bVar 0) (bC (.int 1)))) (sDrop (bCall F9 (aCons (bVar 1) (aCons (bVar 2) (aNil))))) (sIf (bT (bBin (opEq false) (bVar 0) (bC (.int 2)))) (sDrop (bCall F14 (aCons (bVar 1) (aCons (bVar 2) (aNil))))) (sIf (bT (bBin (opEq false) (bVar 0) (bC (.int 3)))) (sDrop (bCall F16 (aCons (bVar 1) (aCons (bVar 2) (aNil))))) (sDrop (bCall F17 (aCons (bVar 1) (aCons (bVar 2) (aNil))))))))))
 (sRet (bCall F23 (aCons (bVar 4) (aCons (bVar 3) (aNil)))))))
def F25:Fn:=mkFn false 4 2 b25
theorem h25:denSsW (denS 60 S25) (defBody t25)=some b25:=by kernel_rfl
abbrev t26:Stmt:=top 41
def G26:List (Str×(Bool×Nat×Fn)):=[("pile_of_cubes",(false,2,F13)),("_law_is",(false,2,F23))]
def S26:Sx:=⟨["box","cubes","caught","e"],defScope t26,[],[],G26,[],true,[0,1,2,3,4,5,6,7,8,9,10,11],[]⟩
def b26:Fs:=(sSeq (sForS (bArgs opLst (aCons (bArgs opLst (aNil)) (aCons (bArgs opLst (aCons (bArgs opTup (aCons (bC (.int 0)) (aCons (bC (.int 0)) (aCons (bC (.int 0)) (aNil))))) (aNil))) (aCons (bArgs opLst (aCons (bArgs opTup (aCons (bUn opNeg (bC (.int 1))) (aCons (bC (.int 0)) (aCons (bC (.int 0)) (aNil))))) (aNil))) (aCons (bArgs opLst (aCons (bArgs opTup (aCons (bC (.int 0)) (aCons (bBin opPow (bC (.int 10)) (bC (.int 20))) (aCons (bC (.int 0)) (aNil))))) (aCons (bArgs opTup (aCons (bC (.int 0)) (aCons (bC (.int 0)) (aCons (bC (.int 0)) (aNil))))) (aNil)))) (aNil)))))) [] (asgN 1) (sSeq (sSet false 2 (bC .non) [])
 (sSeq (sTry 0 2 3 [] (sDrop (bCall F13 (aCons (bVar 0) (aCons (bVar 1) (aNil))))))
 (sIf (bT (bUn opNot (bCall F23 (aCons (bVar 2) (aCons (bC (.int 0)) (aNil)))))) (sRet (bC (.bl false))) sNil))))
 (sRet (bC (.bl true))))
def F26:Fn:=mkFn false 1 3 b26
theorem h26:denSsW (denS 60 S26) (defBody t26)=some b26:=by kernel_rfl
abbrev t27:Stmt:=top 42
def F27r0:Fn:=fun _=>.no
def G27r1:List (Str×(Bool×Nat×Fn)):=[("_law_copy",(false,1,F27r0))]
def S27r1:Sx:=⟨["thing"],defScope t27,[],[],G27r1,[],true,[0,1,2,3,4,5,6,7,8,9,10,11],[]⟩
def b27r1:Fs:=(denSsW (denS 60 S27r1) (defBody t27)).getD sNil
def F27r1:Fn:=mkFn false 1 0 b27r1
theorem h27r1:denSsW (denS 60 S27r1) (defBody t27)=some b27r1:=some_getD (by decide +kernel)
def G27r2:List (Str×(Bool×Nat×Fn)):=[("_law_copy",(false,1,F27r1))]
def S27r2:Sx:=⟨["thing"],defScope t27,[],[],G27r2,[],true,[0,1,2,3,4,5,6,7,8,9,10,11],[]⟩
def b27r2:Fs:=(denSsW (denS 60 S27r2) (defBody t27)).getD sNil
def F27r2:Fn:=mkFn false 1 0 b27r2
theorem h27r2:denSsW (denS 60 S27r2) (defBody t27)=some b27r2:=some_getD (by decide +kernel)
def G27r3:List (Str×(Bool×Nat×Fn)):=[("_law_copy",(false,1,F27r2))]
def S27r3:Sx:=⟨["thing"],defScope t27,[],[],G27r3,[],true,[0,1,2,3,4,5,6,7,8,9,10,11],[]⟩
def b27r3:Fs:=(denSsW (denS 60 S27r3) (defBody t27)).getD sNil
def F27r3:Fn:=mkFn false 1 0 b27r3
theorem h27r3:denSsW (denS 60 S27r3) (defBody t27)=some b27r3:=some_getD (by decide +kernel)
def G27r4:List (Str×(Bool×Nat×Fn)):=[("_law_copy",(false,1,F27r3))]
def S27r4:Sx:=⟨["thing"],defScope t27,[],[],G27r4,[],true,[0,1,2,3,4,5,6,7,8,9,10,11],[]⟩
def b27r4:Fs:=(denSsW (denS 60 S27r4) (defBody t27)).getD sNil
def F27r4:Fn:=mkFn false 1 0 b27r4
theorem h27r4:denSsW (denS 60 S27r4) (defBody t27)=some b27r4:=some_getD (by decide +kernel)
abbrev F27:Fn:=F27r4
abbrev S27:Sx:=S27r4
abbrev t28:Stmt:=top 43
def G28:List (Str×(Bool×Nat×Fn)):=[("_law_take",(true,2,F19)),("_law_is_pile",(false,2,F22))]
def S28:Sx:=⟨["pool","box","pile","a","b","c","some","i","j","odd","row","turn","found","thing"],defScope t28,[0],[],G28,[],true,[0,1,2,3,4,5,6,7,8,9,10,11],[]⟩
abbrev b28:Fs:=QV.Xa_none
abbrev F28:Fn:=QV.a_none
theorem h28:denSsW (denS 60 S28) (defBody t28)=some b28:=by kernel_rfl
abbrev t29:Stmt:=top 44
def G29:List (Str×(Bool×Nat×Fn)):=[("_law_pool",(false,2,F18)),("_law_take",(true,2,F19)),("_law_box",(true,2,F20)),("_law_pile",(true,2,F21)),("_law_odd_boxes",(true,1,F24)),("_law_refused",(false,4,F25)),("_law_no_box",(false,1,F26)),("_law_copy",(false,1,F27)),("_law_none",(true,3,F28))]
def S29:Sx:=⟨["script","k","pool","box","pile","odd","way","none","thing","handed"],defScope t29,[2],[],G29,[],true,[0,1,2,3,4,5,6,7,8,9,10,11],[]⟩
def b29:Fs:=(sSeq (sForR ends1 (aCons (bArgs opMax (aCons (bC (.int 1)) (aCons (bArgs opMin (aCons (bC (.int 8)) (aCons (bArgs opLen (aCons (bVar 0) (aNil))) (aNil)))) (aNil)))) (aNil)) (asgN 1) (sSeq (sSet true 2 (bCall F18 (aCons (bVar 0) (aCons (bVar 1) (aNil)))) [0,1])
 (sSeq (sSet false 3 (bCallIO F20 2 (aCons (bC (.int 6)) (aNil))) [])
 (sSeq (sSet false 4 (bCallIO F21 2 (aCons (bVar 3) (aNil))) [3])
 (sSeq (sSet false 5 (bCallIO F24 2 (aNil)) [])
 (sForR ends1 (aCons (bC (.int 5)) (aNil)) (asgN 6) (sSeq (sSet false 7 (bBin opIdx (bVar 5) (bCallIO F19 2 (aCons (bArgs opLen (aCons (bVar 5) (aNil))) (aNil)))) [5,5])
 (sSeq (sIf (bT (bOrV (bUn opNot (bCall F25 (aCons (bVar 6) (aCons (bVar 7) (aCons (bVar 4) (aCons (bC (.int 0)) (aNil))))))) (bUn opNot (bCall F25 (aCons (bVar 6) (aCons (bVar 7) (aCons (bC .non) (aCons (bC (.int 0)) (aNil))))))))) (sRet (bC (.bl false))) sNil)
 (sForS (bCallIO F28 2 (aCons (bVar 3) (aCons (bVar 4) (aNil)))) [3,4] (asgN 8) (sSeq (sSet false 9 (bCall F27 (aCons (bVar 8) (aNil))) [8])
 (sIf (bT (bOrV (bUn opNot (bCall F25 (aCons (bVar 6) (aCons (bVar 3) (aCons (bVar 9) (aCons (bC (.int 1)) (aNil))))))) (bBin (opEq true) (bVar 9) (bVar 8)))) (sRet (bC (.bl false))) sNil)))))))))))
 (sRet (bBin (opEq false) (bCompS (bCallNw F24 (aCons (bArgs opLst (aCons (bC (.int 0)) (aCons (bC (.int 0)) (aCons (bC (.int 0)) (aNil))))) (aNil))) 1 (asgN 10) (bT (bUn opNot (bCall F26 (aCons (bVar 10) (aNil))))) (bC (.int 1))) (bArgs opLst (aNil)))))
def F29:Fn:=mkFn false 1 9 b29
theorem h29:denSsW (denS 60 S29) (defBody t29)=some b29:=by kernel_rfl
open PySem PySem.Spec PyProof.Rows L2 QQ QV
def oddB (f:Int):List PV:=[.non,.int 0,.bl true,.str "",.str "2x2x2",.tup [],.lst [],.emp,.tup [.int 2,.int 2],.tup [.int 2,.int 2,.int 2,.int 2],.lst [.int 2,.int 2,.int 2],.tup [.int 0,.int 2,.int 2],.tup [.int 2,.int 0,.int 2],.tup [.int 2,.int 2,.int 0],.tup [.int (-1),.int 2,.int 2],.tup [.int 2,.int 2,.int (-3)],.tup [.bl true,.int 2,.int 2],.tup [.int 2,.bl true,.int 2],.tup [.int 2,.int 2,.bl true],.tup [.str "2",.int 2,.int 2],.tup [.int 2,.non,.int 2],.tup [.int 2,.int 2,.tup [.int 2]],.tup [.int 2,.lst [.int 2],.int 2],.tup [.emp,.int 2,.int 2],.tup [.int (-f),.int f,.int f]]
theorem oddB_no {f:Int} (hf:1≤f):∀ y∈oddB f,f_is_box [y]=.ok (.bl false,om,.non):=fun y hy=>by
 have e:sideB (.int (-f))=false:=decide_eq_false (by omega)
 have e2:boxV (.tup [.int (-f),.int f,.int f])=false:=by
  show (true && (sideB (.int (-f)) && _))=false
  rw [e];rfl
 have h:okE 10 y=true∧boxV y=false:=by
  unfold oddB at hy
  simp only [List.mem_cons,List.not_mem_nil,or_false] at hy
  rcases hy with rfl | rfl | rfl | rfl | rfl | rfl | rfl | rfl | rfl | rfl | rfl | rfl | rfl | rfl | rfl | rfl | rfl | rfl | rfl | rfl | rfl | rfl | rfl | rfl | rfl
  all_goals first | exact ⟨rfl,rfl⟩ | exact ⟨rfl,e2⟩
 have:=box_any h.1
 rw [h.2] at this
 exact this
theorem odd_ok {x:PV}{B:Int} (hx:Pl B x) (hB:B≤100000):∃ f x',1≤f∧Pl (B + 1) x'∧F24 [x]=.ok (.lst (oddB f),1,x'):=by
 obtain ⟨f0,x1,hf0,hx1,e1⟩:=take_big (m:=10 ^ 30) hx hB (by decide)
 let R (x:PV) (s1 s2:QQ.Slot):Rho:=[some (x,om),s1,s2]
 have c1:bCallIO F19 0 (aCons (bBin opPow (bC (.int 10)) (bC (.int 30))) (aNil)) (R x none none)=.ok (.int f0,om,R x1 none none):=callIO_ok (p:=(x,om)) (x0:=x) (d0:=om) (xs:=[(.int (10 ^ 30),om)]) (ρ1:=R x none none) rfl (by kernel_rfl) rfl e1 rfl
 have v1:sSet false 1 (bBin opAdd (bC (.int 1)) (bCallIO F19 0 (aCons (bBin opPow (bC (.int 10)) (bC (.int 30))) (aNil)))) [] (R x none none)=.nx (R x1 (some (.int (1 + f0),om)) none):=setF (add_ok (i:=1) (d:=om) rfl c1) (show 1 < 3 by decide) rfl
 refine ⟨1 + f0,x1,by omega,hx1,fnio_rt (c:=om) rfl (ρ':=R x1 (some (.int (1 + f0),om)) (some (.lst ((oddB (1 + f0)).take 21),1))) ((seq_nx v1).trans ?_) rfl⟩
 generalize 1 + f0=f
 kernel_rfl
theorem is_one:F23 [.exn 1,.int 0]=.ok (.bl true,om,.non):=by kernel_rfl
theorem is_two:F23 [.exn 2,.int 1]=.ok (.bl true,om,.non):=by kernel_rfl
theorem exc_first {k c:Nat}{rest:Fs}{y x:PV} (h:f_must_be_pile [y,x]=.exc c):mkFn false 2 k (sSeq (sDrop (bCall f_must_be_pile (aCons (bVar 0) (aCons (bVar 1) (aNil))))) rest) [y,x]=.exc c:=
 exc_fn rfl (exc_seq (exc_drop (exc_call (xs:=[(y,dv y),(x,dv x)]) rfl h)))
theorem ref25 {w c:Nat} (hw:w < 5) {y x:PV}{du:Int} (h:f_must_be_pile [y,x]=.exc c) (hX:isX c 0=true) (hd:F23 [.exn c,.int du]=.ok (.bl true,om,.non)):F25 [.int (w:Int),y,x,.int du]=.ok (.bl true,om,.non):=by
 let R (s4 s5:QQ.Slot):Rho:=[some (.int (w:Int),om),some (y,dv y),some (x,dv x),some (.int du,om),s4,s5]
 have v1:sSet false 4 (bC .non) [] (R none none)=.nx (R (some (.non,om)) none):=rfl
 let Q:Rho:=R (some (.non,om)) none
 have tw:∀ n:Int,bT (bBin (opEq false) (bVar 0) (bC (.int n))) Q=.ok (decide ((w:Int)=n),Q):=fun n=>by
  refine (t_ok (eq_ok (neg:=false) (i:=(w:Int)) (j:=n) (d:=om) (e:=om) rfl rfl)).trans ?_
  rw [Bool.false_xor]
 have dr:∀ {F:Fn},F [y,x]=.exc c→sDrop (bCall F (aCons (bVar 1) (aCons (bVar 2) (aNil)))) Q=.exc c:=fun hF=>exc_drop (exc_call (xs:=[(y,dv y),(x,dv x)]) rfl hF)
 have h8:=dr (F:=F8) (exc_first (k:=5) h)
 have h9:=dr (F:=F9) (exc_first (k:=0) h)
 have h14:=dr (F:=F14) (exc_first (k:=0) h)
 have h16:=dr (F:=F16) (exc_first (k:=3) h)
 have h17:=dr (F:=F17) (exc_first (k:=2) h)
 have v2:sTry 0 4 5 [] (sIf (bT (bBin (opEq false) (bVar 0) (bC (.int 0)))) (sDrop (bCall F8 (aCons (bVar 1) (aCons (bVar 2) (aNil))))) (sIf (bT (bBin (opEq false) (bVar 0) (bC (.int 1)))) (sDrop (bCall F9 (aCons (bVar 1) (aCons (bVar 2) (aNil))))) (sIf (bT (bBin (opEq false) (bVar 0) (bC (.int 2)))) (sDrop (bCall F14 (aCons (bVar 1) (aCons (bVar 2) (aNil))))) (sIf (bT (bBin (opEq false) (bVar 0) (bC (.int 3)))) (sDrop (bCall F16 (aCons (bVar 1) (aCons (bVar 2) (aNil))))) (sDrop (bCall F17 (aCons (bVar 1) (aCons (bVar 2) (aNil))))))))) Q=.nx (R (some (.exn c,om)) none):=by
  have hb:sIf (bT (bBin (opEq false) (bVar 0) (bC (.int 0)))) (sDrop (bCall F8 (aCons (bVar 1) (aCons (bVar 2) (aNil))))) (sIf (bT (bBin (opEq false) (bVar 0) (bC (.int 1)))) (sDrop (bCall F9 (aCons (bVar 1) (aCons (bVar 2) (aNil))))) (sIf (bT (bBin (opEq false) (bVar 0) (bC (.int 2)))) (sDrop (bCall F14 (aCons (bVar 1) (aCons (bVar 2) (aNil))))) (sIf (bT (bBin (opEq false) (bVar 0) (bC (.int 3)))) (sDrop (bCall F16 (aCons (bVar 1) (aCons (bVar 2) (aNil))))) (sDrop (bCall F17 (aCons (bVar 1) (aCons (bVar 2) (aNil)))))))) Q=.exc c:=by
   have t0:=tw 0
   have t1:=tw 1
   have t2:=tw 2
   have t3:=tw 3
   have hw':w=0∨w=1∨w=2∨w=3∨w=4:=by omega
   rcases hw' with rfl | rfl | rfl | rfl | rfl
   ·exact (if_t t0).trans h8
   ·exact (if_f t0).trans ((if_t t1).trans h9)
   ·exact (if_f t0).trans ((if_f t1).trans ((if_t t2).trans h14))
   ·exact (if_f t0).trans ((if_f t1).trans ((if_f t2).trans ((if_t t3).trans h16)))
   ·exact (if_f t0).trans ((if_f t1).trans ((if_f t2).trans ((if_f t3).trans h17)))
  unfold sTry
  rw [hb]
  dsimp only
  rw [if_pos ⟨hX,show 4 < 6 by decide,rfl⟩]
  rfl
 exact fn_rt rfl ((seq_nx v1).trans ((seq_nx v2).trans (ret_ok (call_ok (xs:=[(.exn c,om),(.int du,om)]) rfl hd))))
def C4:List PV:=[.lst [],.lst [.tup [.int 0,.int 0,.int 0]],.lst [.tup [.int (-1),.int 0,.int 0]],.lst [.tup [.int 0,.int (10 ^ 20),.int 0],.tup [.int 0,.int 0,.int 0]]]
def cub4:Fx:=(bArgs opLst (aCons (bArgs opLst (aNil)) (aCons (bArgs opLst (aCons (bArgs opTup (aCons (bC (.int 0)) (aCons (bC (.int 0)) (aCons (bC (.int 0)) (aNil))))) (aNil))) (aCons (bArgs opLst (aCons (bArgs opTup (aCons (bUn opNeg (bC (.int 1))) (aCons (bC (.int 0)) (aCons (bC (.int 0)) (aNil))))) (aNil))) (aCons (bArgs opLst (aCons (bArgs opTup (aCons (bC (.int 0)) (aCons (bBin opPow (bC (.int 10)) (bC (.int 20))) (aCons (bC (.int 0)) (aNil))))) (aCons (bArgs opTup (aCons (bC (.int 0)) (aCons (bC (.int 0)) (aCons (bC (.int 0)) (aNil))))) (aNil)))) (aNil))))))
def B26:Fs:=(sSeq (sSet false 2 (bC .non) [])
 (sSeq (sTry 0 2 3 [] (sDrop (bCall F13 (aCons (bVar 0) (aCons (bVar 1) (aNil))))))
 (sIf (bT (bUn opNot (bCall F23 (aCons (bVar 2) (aCons (bC (.int 0)) (aNil)))))) (sRet (bC (.bl false))) sNil)))
theorem b26_eq:b26=sSeq (sForS cub4 [] (asgN 1) B26) (sRet (bC (.bl true))):=rfl
theorem nobox_cubes {y x:PV} (h:f_is_box [y]=.ok (.bl false,om,.non)):F13 [y,x]=.exc 1:=
 exc_fn rfl (exc_seq (exc_drop (exc_call (xs:=[(y,dv y)]) rfl (nobox_must h))))
theorem ref26 {y:PV} (h:f_is_box [y]=.ok (.bl false,om,.non)):F26 [y]=.ok (.bl true,om,.non):=by
 let R (s1 s2 s3:QQ.Slot):Rho:=[some (y,dv y),s1,s2,s3]
 have e4:∀ ρ:Rho,cub4 ρ=.ok (.lst C4,om,ρ):=fun ρ=>by kernel_rfl
 have hF:F26=mkFn false 1 3 b26:=rfl
 rw [hF,b26_eq]
 rcases loopS_all (asg:=asgN 1) (body:=B26) (fun _=>true) (fun ρ=>∃ s1 s2 s3,ρ=R s1 s2 s3) C4 (R none none none) ⟨_,_,_,rfl⟩ (by
  rintro x _ _ ⟨s1,s2,s3,rfl⟩
  let Q (s2:QQ.Slot):Rho:=R (some (x,dv x)) s2 s3
  have v1:sSet false 2 (bC .non) [] (Q s2)=.nx (Q (some (.non,om))):=rfl
  have v2:∃ s3',sTry 0 2 3 [] (sDrop (bCall F13 (aCons (bVar 0) (aCons (bVar 1) (aNil))))) (Q (some (.non,om)))=.nx (R (some (x,dv x)) (some (.exn 1,om)) s3'):=by
   unfold sTry
   rw [exc_drop (exc_call (F:=F13) (xs:=[(y,dv y),(x,dv x)]) rfl (nobox_cubes h))]
   exact ⟨_,rfl⟩
  obtain ⟨s3',v2⟩:=v2
  have t:=t_ok (not_ok (call_ok (F:=F23) (fa:=aCons (bVar 2) (aCons (bC (.int 0)) (aNil))) (ρ:=R (some (x,dv x)) (some (.exn 1,om)) s3') (xs:=[(.exn 1,om),(.int 0,om)]) rfl is_one))
  exact ⟨Q s2,rfl,.inl ⟨rfl,_,(seq_nx v1).trans ((seq_nx v2).trans ((if_f t).trans rfl)),_,_,_,rfl⟩⟩) with ⟨_,ρ',e,_⟩ | ⟨h',_⟩
 ·exact fn_rt rfl ((seq_nx (forS_of (e4 _) rfl e)).trans rfl)
 ·rw [List.all_eq_true.mpr fun _ _=>rfl] at h'
  cases h'
def cb (F:Fn):Fs:=sSeq (sIf (bT (bUn (opIsi "list") (bVar 0))) (sRet (bCompS (bVar 0) 1 (asgN 1) tTrue (bCall F (aCons (bVar 1) (aNil))))) sNil) (sSeq (sIf (bT (bUn (opIsi "tuple") (bVar 0))) (sRet (bArgs opTupC (aCons (bCompS (bVar 0) 1 (asgN 1) tTrue (bCall F (aCons (bVar 1) (aNil)))) (aNil)))) sNil) (sRetV 0))
theorem cb1:b27r1=cb F27r0:=Option.some.inj (h27r1.symm.trans (by kernel_rfl))
theorem cb2:b27r2=cb F27r1:=Option.some.inj (h27r2.symm.trans (by kernel_rfl))
theorem cb3:b27r3=cb F27r2:=Option.some.inj (h27r3.symm.trans (by kernel_rfl))
theorem cb4:b27r4=cb F27r3:=Option.some.inj (h27r4.symm.trans (by kernel_rfl))
def cd (F:Fn) (y:PV):Nat:=match F [y] with
 | .ok (_,d,_)=>d
 | _=>0
theorem copy_step {n:Nat}{F:Fn} (hF:∀ y,okE n y=true→∃ d,F [y]=.ok (y,d,.non)) {x:PV} (hx:okE (n + 1) x=true):∃ d,mkFn false 1 0 (cb F) [x]=.ok (x,d,.non):=by
 have z:=sz
 have cp:∀ xs:List PV,xs.length≤1000→(∀ y∈xs,okE n y=true)→∃ ps,compL 1 (asgN 1) tTrue (bCall F (aCons (bVar 1) (aNil))) xs [some (x,dv x)] []=.ok (ps,[some (x,dv x)])∧ps.map (·.1)=xs:=fun xs hl hy=>by
  have c:=compL_map (n:=1) (test:=tTrue) (elt:=bCall F (aCons (bVar 1) (aNil))) (enc:=id) (q:=id) (e:=cd F) (p:=fun _=>true) xs [some (x,dv x)] [] rfl (fun _ _=>rfl) (fun y h _=>by
   obtain ⟨d,e⟩:=hF y (hy y h)
   have e':cd F y=d:=by unfold cd;rw [e]
   rw [e']
   exact call_ok (xs:=[(y,dv y)]) rfl e) (by rw [List.length_nil];omega)
  rw [List.map_id,List.nil_append,List.filter_eq_self.mpr (fun _ _=>rfl)] at c
  exact ⟨_,c,by rw [List.map_map];exact List.map_id xs⟩
 cases x with
 | lst xs=>
  obtain ⟨ps,c,hp⟩:=cp xs (okE_lst hx).1 (okE_lst hx).2
  have e:bCompS (bVar 0) 1 (asgN 1) tTrue (bCall F (aCons (bVar 1) (aNil))) [some (.lst xs,0)]=.ok (.lst xs,if allOm ps then om else 1,[some (.lst xs,0)]):=by
   show (compL 1 (asgN 1) tTrue (bCall F (aCons (bVar 1) (aNil))) xs [some (.lst xs,0)] []).bindN (fun x=>lstOf x.1 x.2)=_
   have c':compL 1 (asgN 1) tTrue (bCall F (aCons (bVar 1) (aNil))) xs [some (.lst xs,0)] []=.ok (ps,[some (.lst xs,0)]):=c
   rw [c']
   show lstOf ps [some (.lst xs,0)]=_
   unfold lstOf
   rw [hp]
  exact ⟨_,fn_rt rfl (seq_rt ((if_t (t_ok (d:=om) rfl)).trans (ret_ok e)))⟩
 | tup xs=>
  obtain ⟨ps,c,hp⟩:=cp xs (okE_tup hx).1 (okE_tup hx).2
  have e:bCompS (bVar 0) 1 (asgN 1) tTrue (bCall F (aCons (bVar 1) (aNil))) [some (.tup xs,0)]=.ok (.lst xs,if allOm ps then om else 1,[some (.tup xs,0)]):=by
   show (compL 1 (asgN 1) tTrue (bCall F (aCons (bVar 1) (aNil))) xs [some (.tup xs,0)] []).bindN (fun x=>lstOf x.1 x.2)=_
   have c':compL 1 (asgN 1) tTrue (bCall F (aCons (bVar 1) (aNil))) xs [some (.tup xs,0)] []=.ok (ps,[some (.tup xs,0)]):=c
   rw [c']
   show lstOf ps [some (.tup xs,0)]=_
   unfold lstOf
   rw [hp]
  exact ⟨_,fn_rt rfl ((seq_f (t_ok (d:=om) rfl)).trans (seq_rt ((if_t (t_ok (d:=om) rfl)).trans (ret_ok (args_ok (one_ok e) rfl)))))⟩
 | scr _=>cases hx
 | exn _=>cases hx
 | dct _=>cases hx
 | dko=>cases hx
 | _=>exact ⟨om,fn_rt rfl ((seq_f (t_ok (d:=om) rfl)).trans ((seq_f (t_ok (d:=om) rfl)).trans rfl))⟩
theorem copy_ok {x:PV} (hx:okE 4 x=true):∃ d,F27 [x]=.ok (x,d,.non):=by
 have h1:∀ y,okE 1 y=true→∃ d,F27r1 [y]=.ok (y,d,.non):=fun y hy=>by
  have:=copy_step (n:=0) (F:=F27r0) (fun _ h=>nomatch h) hy
  rw [← cb1] at this
  exact this
 have h2:∀ y,okE 2 y=true→∃ d,F27r2 [y]=.ok (y,d,.non):=fun y hy=>by
  have:=copy_step h1 hy
  rw [← cb2] at this
  exact this
 have h3:∀ y,okE 3 y=true→∃ d,F27r3 [y]=.ok (y,d,.non):=fun y hy=>by
  have:=copy_step h2 hy
  rw [← cb3] at this
  exact this
 have:=copy_step h3 hx
 rw [← cb4] at this
 exact this
theorem ne_self {x:PV} (h:okE 4 x=true) (d e:Nat):opEq true x d x e=some (.bl false,om):=by
 unfold opEq
 cases hD:toD 20 x with
 | some D=>
  dsimp only
  rw [SeqAt.eqv_refl D (toD_lay 20 _ D hD).1]
  rfl
 | none=>
  dsimp only
  cases x with
  | lst xs=>
   dsimp only
   rw [if_pos (sameL_refl fun x hx=>same_ok 20 x (okE_le ((okE_lst h).2 x hx) (by decide)))]
   rfl
  | tup xs=>
   dsimp only
   rw [if_pos (sameL_refl fun x hx=>same_ok 20 x (okE_le ((okE_tup h).2 x hx) (by decide)))]
   rfl
  | emp=>rfl
  | str s=>
   show some (PV.bl (true^^(s == s)),om)=_
   rw [beq_self_eq_true]
   rfl
  | non=>cases hD
  | bl b=>cases hD
  | int i=>cases hD
  | scr _=>cases h
  | exn _=>cases h
  | dct _=>cases h
  | dko=>cases h
def w2T:Fb:=(bT (bOrV (bUn opNot (bCall F25 (aCons (bVar 6) (aCons (bVar 7) (aCons (bVar 4) (aCons (bC (.int 0)) (aNil))))))) (bUn opNot (bCall F25 (aCons (bVar 6) (aCons (bVar 7) (aCons (bC .non) (aCons (bC (.int 0)) (aNil)))))))))
def LBt:Fb:=(bT (bOrV (bUn opNot (bCall F25 (aCons (bVar 6) (aCons (bVar 3) (aCons (bVar 9) (aCons (bC (.int 1)) (aNil))))))) (bBin (opEq true) (bVar 9) (bVar 8))))
def LB:Fs:=sSeq (sSet false 9 (bCall F27 (aCons (bVar 8) (aNil))) [8]) (sIf LBt (sRet (bC (.bl false))) sNil)
def LW:Fs:=sSeq (sSet false 7 (bBin opIdx (bVar 5) (bCallIO F19 2 (aCons (bArgs opLen (aCons (bVar 5) (aNil))) (aNil)))) [5,5]) (sSeq (sIf w2T (sRet (bC (.bl false))) sNil) (sForS (bCallIO F28 2 (aCons (bVar 3) (aCons (bVar 4) (aNil)))) [3,4] (asgN 8) LB))
def LK:Fs:=sSeq (sSet true 2 (bCall F18 (aCons (bVar 0) (aCons (bVar 1) (aNil)))) [0,1]) (sSeq (sSet false 3 (bCallIO F20 2 (aCons (bC (.int 6)) (aNil))) []) (sSeq (sSet false 4 (bCallIO F21 2 (aCons (bVar 3) (aNil))) [3]) (sSeq (sSet false 5 (bCallIO F24 2 (aNil)) []) (sForR ends1 (aCons (bC (.int 5)) (aNil)) (asgN 6) LW))))
def nwF:Fx:=(bCallNw F24 (aCons (bArgs opLst (aCons (bC (.int 0)) (aCons (bC (.int 0)) (aCons (bC (.int 0)) (aNil))))) (aNil)))
def finT:Fb:=(bT (bUn opNot (bCall F26 (aCons (bVar 10) (aNil)))))
theorem b29_law:b29=sSeq (sForR ends1 (aCons (bArgs opMax (aCons (bC (.int 1)) (aCons (bArgs opMin (aCons (bC (.int 8)) (aCons (bArgs opLen (aCons (bVar 0) (aNil))) (aNil)))) (aNil)))) (aNil)) (asgN 1) LK) (sRet (bBin (opEq false) (bCompS nwF 1 (asgN 10) finT (bC (.int 1))) (bArgs opLst (aNil)))):=rfl
section
variable {a b c:Nat}{t:List (List Int)}{ns:List Int}{k:Nat}
def S (ns:List Int) (k:Nat) (s2 s3 s4 s5 s6 s7 s8 s9:QQ.Slot):Rho:=[some (.scr ns,om),some (.int (k:Int),om),s2,s3,s4,s5,s6,s7,s8,s9]
theorem LB_ok {w:Nat} (hw:w < 5) {z:PV} (hz:okE 4 z=true∧f_is_pile [bx a b c,z]=.ok (.bl false,om,.non)) {s2 s4 s5 s7 s8 s9:QQ.Slot}{d3:Nat}:∃ t8 t9,LB (S ns k s2 (some (bx a b c,d3)) s4 s5 (some (.int (w:Int),om)) s7 (some (z,dv z)) s9)=.nx (S ns k s2 (some (bx a b c,d3)) s4 s5 (some (.int (w:Int),om)) s7 t8 t9):=by
 obtain ⟨d,e⟩:=copy_ok hz.1
 have v1:=set_any (i:=9) (vs:=[8]) (call_ok (F:=F27) (fa:=aCons (bVar 8) (aNil)) (ρ:=S ns k s2 (some (bx a b c,d3)) s4 s5 (some (.int (w:Int),om)) s7 (some (z,dv z)) s9) (xs:=[(z,dv z)]) rfl e) (show 9 < 10 by decide)
 have h8:∃ d8,(coolIf d [8] (S ns k s2 (some (bx a b c,d3)) s4 s5 (some (.int (w:Int),om)) s7 (some (z,dv z)) s9)).set 9 (some (z,d))=S ns k s2 (some (bx a b c,d3)) s4 s5 (some (.int (w:Int),om)) s7 (some (z,d8)) (some (z,d)):=by
  unfold coolIf
  split
  ·exact ⟨_,rfl⟩
  ·exact ⟨0,rfl⟩
 obtain ⟨d8,h8⟩:=h8
 rw [h8] at v1
 let Q:Rho:=S ns k s2 (some (bx a b c,d3)) s4 s5 (some (.int (w:Int),om)) s7 (some (z,d8)) (some (z,d))
 have q1:bCall F25 (aCons (bVar 6) (aCons (bVar 3) (aCons (bVar 9) (aCons (bC (.int 1)) (aNil))))) Q=.ok (.bl true,om,Q):=call_ok (xs:=[(.int (w:Int),om),(bx a b c,0),(z,dv z),(.int 1,om)]) rfl (ref25 hw (nopile_must hz.2) rfl is_two)
 have tt:LBt Q=.ok (false,Q):=by
  refine t_ok (d:=om) ?_
  rw [orF (not_ok q1)]
  exact bin_ok (x:=z) (d:=dv z) (y:=z) (e:=dv z) rfl rfl (ne_self hz.1 _ _)
 exact ⟨_,_,(seq_nx v1).trans ((if_f tt).trans rfl)⟩
theorem LW_ok (p:Pile a b c t) (ha:1≤a∧a≤6) (hb:1≤b∧b≤6) (hc:1≤c∧c≤6) {f:Int} (hf:1≤f) {w:Nat} (hw:w < 5) {x:PV}{B:Int} (hx:Pl B x) (hB:B≤70000) {d4 d5:Nat}{s7 s8 s9:QQ.Slot}:∃ x' t4 t5 t7 t8 t9,Pl (B + 40) x'∧LW (S ns k (some (x,om)) (some (bx a b c,0)) (some (tb t,d4)) (some (.lst (oddB f),d5)) (some (.int (w:Int),om)) s7 s8 s9)=.nx (S ns k (some (x',om)) (some (bx a b c,0)) (some (tb t,t4)) (some (.lst (oddB f),t5)) (some (.int (w:Int),om)) t7 t8 t9):=by
 have z:=sz
 obtain ⟨n0,x1,hn0,hx1,e1⟩:=take_ok (m:=25) hx (by omega) (by decide)
 obtain ⟨n,rfl⟩:=Int.eq_ofNat_of_zero_le hn0.1
 have hn:n < (oddB f).length:=by show n < 25;omega
 have hno:=oddB_no hf _ (List.getElem_mem hn)
 let W:QQ.Slot:=some (.int (w:Int),om)
 obtain ⟨d5',v1⟩:∃ d5',sSet false 7 (bBin opIdx (bVar 5) (bCallIO F19 2 (aCons (bArgs opLen (aCons (bVar 5) (aNil))) (aNil)))) [5,5] (S ns k (some (x,om)) (some (bx a b c,0)) (some (tb t,d4)) (some (.lst (oddB f),d5)) W s7 s8 s9)=.nx (S ns k (some (x1,om)) (some (bx a b c,0)) (some (tb t,d4)) (some (.lst (oddB f),d5')) W (some ((oddB f)[n],dv (oddB f)[n])) s8 s9):=by
  have c1:bCallIO F19 2 (aCons (bArgs opLen (aCons (bVar 5) (aNil))) (aNil)) (S ns k (some (x,om)) (some (bx a b c,0)) (some (tb t,d4)) (some (.lst (oddB f),d5)) W s7 s8 s9)=.ok (.int (n:Int),om,S ns k (some (x1,om)) (some (bx a b c,0)) (some (tb t,d4)) (some (.lst (oddB f),d5)) W s7 s8 s9):=callIO_ok (p:=(x,om)) (x0:=x) (d0:=om) (xs:=[(.int 25,om)]) (ρ1:=S ns k (some (x,om)) (some (bx a b c,0)) (some (tb t,d4)) (some (.lst (oddB f),d5)) W s7 s8 s9) rfl rfl rfl e1 rfl
  have c2:=idx_any (f:=bVar 5) (ρ:=S ns k (some (x,om)) (some (bx a b c,0)) (some (tb t,d4)) (some (.lst (oddB f),d5)) W s7 s8 s9) (xs:=oddB f) (d:=0) rfl c1 hn
  by_cases hd:dv (oddB f)[n]=om
  ·refine ⟨d5,setF c2 (show 7 < 10 by decide) ?_⟩
   unfold coolIf
   rw [if_pos hd]
   rfl
  ·refine ⟨0,setF c2 (show 7 < 10 by decide) ?_⟩
   unfold coolIf
   rw [if_neg hd]
   rfl
 let Q (x:PV) (d3 d4:Nat) (s8 s9:QQ.Slot):Rho:=S ns k (some (x,om)) (some (bx a b c,d3)) (some (tb t,d4)) (some (.lst (oddB f),d5')) W (some ((oddB f)[n],dv (oddB f)[n])) s8 s9
 have t2:w2T (Q x1 0 d4 s8 s9)=.ok (false,Q x1 0 d4 s8 s9):=by
  have q1:bCall F25 (aCons (bVar 6) (aCons (bVar 7) (aCons (bVar 4) (aCons (bC (.int 0)) (aNil))))) (Q x1 0 d4 s8 s9)=.ok (.bl true,om,Q x1 0 d4 s8 s9):=call_ok (xs:=[(.int (w:Int),om),((oddB f)[n],dv (oddB f)[n]),(tb t,0),(.int 0,om)]) rfl (ref25 hw (nobox_mustp hno) rfl is_one)
  have q2:bCall F25 (aCons (bVar 6) (aCons (bVar 7) (aCons (bC .non) (aCons (bC (.int 0)) (aNil))))) (Q x1 0 d4 s8 s9)=.ok (.bl true,om,Q x1 0 d4 s8 s9):=call_ok (xs:=[(.int (w:Int),om),((oddB f)[n],dv (oddB f)[n]),(.non,om),(.int 0,om)]) rfl (ref25 hw (nobox_mustp hno) rfl is_one)
  refine t_ok (d:=om) ?_
  rw [orF (not_ok q1)]
  exact not_ok q2
 obtain ⟨zs,dz,x2,lz,hz,hx2,e3⟩:=none_ok (c:=c) p.tab (by omega) (by omega) (by omega) hx1 (by omega)
 have c3:bCallIO F28 2 (aCons (bVar 3) (aCons (bVar 4) (aNil))) (Q x1 0 d4 s8 s9)=.ok (.lst zs,dz,Q x2 0 d4 s8 s9):=callIO_ok (p:=(x1,om)) (x0:=x1) (d0:=om) (xs:=[(bx a b c,0),(tb t,0)]) (ρ1:=Q x1 0 d4 s8 s9) rfl rfl rfl e3 rfl
 obtain ⟨d4',cl⟩:∃ d4',coolIf dz [3,4] (Q x2 0 d4 s8 s9)=Q x2 0 d4' s8 s9:=by
  unfold coolIf
  split
  ·exact ⟨_,rfl⟩
  ·exact ⟨0,rfl⟩
 rcases loopS_all (asg:=asgN 8) (body:=LB) (fun _=>true) (fun ρ=>∃ s8 s9,ρ=Q x2 0 d4' s8 s9) zs (Q x2 0 d4' s8 s9) ⟨_,_,rfl⟩ (by
  rintro y hy _ ⟨s8,s9,rfl⟩
  obtain ⟨t8,t9,e⟩:=LB_ok (ns:=ns) (k:=k) (a:=a) (b:=b) (c:=c) hw (hz y hy) (s2:=some (x2,om)) (s4:=some (tb t,d4')) (s5:=some (.lst (oddB f),d5')) (s7:=some ((oddB f)[n],dv (oddB f)[n])) (s8:=s8) (s9:=s9) (d3:=0)
  exact ⟨Q x2 0 d4' (some (y,dv y)) s9,rfl,.inl ⟨rfl,_,e,_,_,rfl⟩⟩) with ⟨_,ρ',e,u8,u9,rfl⟩ | ⟨h,_⟩
 ·exact ⟨x2,_,_,_,_,_,hx2.mono (by omega),(seq_nx v1).trans ((seq_f t2).trans (forS_of c3 cl e))⟩
 ·rw [List.all_eq_true.mpr fun _ _=>rfl] at h
  cases h
theorem LK_ok (hk:k≤1000) {s2 s3 s4 s5 s6 s7 s8 s9:QQ.Slot}:∃ t2 t3 t4 t5 t6 t7 t8 t9,LK (S ns k s2 s3 s4 s5 s6 s7 s8 s9)=.nx (S ns k t2 t3 t4 t5 t6 t7 t8 t9):=by
 have z:=sz
 obtain ⟨x0,hx0,e0⟩:=pool_ok ns k hk
 obtain ⟨a,b,c,x1,ha,hb,hc,hx1,e1⟩:=abox_ok (most:=6) hx0 (by omega) (by omega)
 obtain ⟨t,d4,x2,p,hd4,hx2,e2⟩:=apile_ok (a:=a) (b:=b) (c:=c) hx1 (by omega) (by omega) (by omega) (by omega)
 obtain ⟨f,x3,hf,hx3,e3⟩:=odd_ok hx2 (by omega)
 have v1:sSet true 2 (bCall F18 (aCons (bVar 0) (aCons (bVar 1) (aNil)))) [0,1] (S ns k s2 s3 s4 s5 s6 s7 s8 s9)=.nx (S ns k (some (x0,om)) s3 s4 s5 s6 s7 s8 s9):=setT (call_ok (xs:=[(.scr ns,om),(.int (k:Int),om)]) rfl e0) (show 2 < 10 by decide) rfl
 have v2:sSet false 3 (bCallIO F20 2 (aCons (bC (.int 6)) (aNil))) [] (S ns k (some (x0,om)) s3 s4 s5 s6 s7 s8 s9)=.nx (S ns k (some (x1,om)) (some (bx a b c,0)) s4 s5 s6 s7 s8 s9):=setF (callIO_ok (p:=(x0,om)) (x0:=x0) (d0:=om) (xs:=[(.int 6,om)]) (ρ1:=S ns k (some (x0,om)) s3 s4 s5 s6 s7 s8 s9) rfl rfl rfl e1 rfl) (show 3 < 10 by decide) (by kernel_rfl)
 have v3:sSet false 4 (bCallIO F21 2 (aCons (bVar 3) (aNil))) [3] (S ns k (some (x1,om)) (some (bx a b c,0)) s4 s5 s6 s7 s8 s9)=.nx (S ns k (some (x2,om)) (some (bx a b c,0)) (some (tb t,d4)) s5 s6 s7 s8 s9):=by
  refine setF (ρ1:=S ns k (some (x2,om)) (some (bx a b c,0)) s4 s5 s6 s7 s8 s9) (callIO_ok (p:=(x1,om)) (x0:=x1) (d0:=om) (xs:=[(bx a b c,0)]) (ρ1:=S ns k (some (x1,om)) (some (bx a b c,0)) s4 s5 s6 s7 s8 s9) rfl rfl rfl e2 rfl) (show 4 < 10 by decide) ?_
  have cl:coolIf d4 [3] (S ns k (some (x2,om)) (some (bx a b c,0)) s4 s5 s6 s7 s8 s9)=S ns k (some (x2,om)) (some (bx a b c,0)) s4 s5 s6 s7 s8 s9:=by
   unfold coolIf
   split <;> rfl
  rw [cl]
  rfl
 have v4:sSet false 5 (bCallIO F24 2 (aNil)) [] (S ns k (some (x2,om)) (some (bx a b c,0)) (some (tb t,d4)) s5 s6 s7 s8 s9)=.nx (S ns k (some (x3,om)) (some (bx a b c,0)) (some (tb t,d4)) (some (.lst (oddB f),1)) s6 s7 s8 s9):=setF (callIO_ok (p:=(x2,om)) (x0:=x2) (d0:=om) (xs:=[]) (ρ1:=S ns k (some (x2,om)) (some (bx a b c,0)) (some (tb t,d4)) s5 s6 s7 s8 s9) rfl rfl rfl e3 rfl) (show 5 < 10 by decide) rfl
 obtain ⟨ρ5,v5,y,g4,g5,u6,u7,u8,u9,_,rfl⟩:=forR_inv (i:=6) (body:=LW) (en:=ends1) (fa:=aCons (bC (.int 5)) (aNil)) (ρ:=S ns k (some (x3,om)) (some (bx a b c,0)) (some (tb t,d4)) (some (.lst (oddB f),1)) s6 s7 s8 s9) (ρ1:=S ns k (some (x3,om)) (some (bx a b c,0)) (some (tb t,d4)) (some (.lst (oddB f),1)) s6 s7 s8 s9) (as:=[(.int 5,om)]) (lo:=0) (hi:=5) (fun n ρ=>∃ x g4 g5 s6 s7 s8 s9,Pl (40000 + 40 * (n:Int)) x∧ρ=S ns k (some (x,om)) (some (bx a b c,0)) (some (tb t,g4)) (some (.lst (oddB f),g5)) s6 s7 s8 s9) rfl rfl ⟨x3,_,_,_,_,_,_,hx3.mono (by omega),rfl⟩ (by
  rintro n ρ hn ⟨x,g4,g5,s6,s7,s8,s9,hx,rfl⟩
  have hn5:n < 5:=by omega
  obtain ⟨x',t4,t5,t7,t8,t9,hx',e⟩:=LW_ok (ns:=ns) (k:=k) p (by omega) (by omega) (by omega) hf hn5 hx (by omega) (d4:=g4) (d5:=g5) (s7:=s7) (s8:=s8) (s9:=s9)
  refine ⟨show 6 < 10 by decide,_,?_,x',t4,t5,some (.int (n:Int),om),t7,t8,t9,hx'.mono (by omega),rfl⟩
  rw [Int.zero_add]
  exact e)
 exact ⟨_,_,_,_,_,_,_,_,(seq_nx v1).trans ((seq_nx v2).trans ((seq_nx v3).trans ((seq_nx v4).trans v5)))⟩
end
theorem fin_ok {ρ:Rho} (hl:ρ.length=10):bBin (opEq false) (bCompS nwF 1 (asgN 10) finT (bC (.int 1))) (bArgs opLst (aNil)) ρ=.ok (.bl true,om,ρ):=by
 have z:=sz
 obtain ⟨f,x',hf,_,e⟩:=odd_ok (x:=pl 0 0 0) (B:=0) ⟨0,0,0,rfl,by decide,by decide⟩ (by decide)
 have c0:nwF ρ=.ok (.lst (oddB f),1,ρ):=by
  unfold nwF bCallNw
  show (match F24 [pl 0 0 0] with | .ok (y,c,_)=>Rz.ok (y,c,ρ) | _=>.no)=_
  rw [e]
 have w1:=compF_ok (n:=10) (f:=nwF) (elt:=bC (.int 1)) (test:=finT) (ρ:=ρ) (ρ1:=ρ) (enc:=id) (q:=fun _=>.int 1) (p:=fun _=>false) (d:=1) (oddB f) (by rw [List.map_id];exact c0) hl (fun y hy=>by
  have hv:bVar 10 (ρ++[some (y,dv y)])=.ok (y,dv y,ρ++[some (y,dv y)]):=by
   unfold bVar
   rw [List.getElem?_append_right (by omega),hl]
   rfl
  exact t_ok (not_ok (call_ok (F:=F26) (xs:=[(y,dv y)]) (one_ok hv) (ref26 (oddB_no hf y hy))))) (fun x _ h=>nomatch h) (by show 25≤sizeLine;omega)
 have u3:((oddB f).filter fun _=>false)=[]:=List.filter_eq_nil_iff.mpr fun _ _=>Bool.false_ne_true
 rw [u3] at w1
 exact eq_il (neg:=false) (xs:=[]) (ys:=[]) w1 (h:=bArgs opLst (aNil)) (e:=om) rfl
theorem law_true:∀ ns:List Int,ns.length≤63→∃ d z,F29 [.scr ns]=.ok (.bl true,d,z):=by
 intro ns hns
 let R (s1 s2 s3 s4 s5 s6 s7 s8 s9:QQ.Slot):Rho:=[some (.scr ns,om),s1,s2,s3,s4,s5,s6,s7,s8,s9]
 have hF:F29=mkFn false 1 9 b29:=rfl
 rw [hF,b29_law]
 let R0:Rho:=R none none none none none none none none none
 have hm:∃ m:Nat,m≤8∧(aCons (bArgs opMax (aCons (bC (.int 1)) (aCons (bArgs opMin (aCons (bC (.int 8)) (aCons (bArgs opLen (aCons (bVar 0) (aNil))) (aNil)))) (aNil)))) (aNil)) R0=.ok ([(.int (m:Int),om)],R0):=by
  refine ⟨(if (if (ns.length:Int) < 8 then (ns.length:Int) else 8) > 1 then (if (ns.length:Int) < 8 then (ns.length:Int) else 8) else 1).toNat,?_,?_⟩
  ·split <;> split <;> omega
  ·have e:((((if (if (ns.length:Int) < 8 then (ns.length:Int) else 8) > 1 then (if (ns.length:Int) < 8 then (ns.length:Int) else 8) else 1).toNat:Nat)):Int)=(if (if (ns.length:Int) < 8 then (ns.length:Int) else 8) > 1 then (if (ns.length:Int) < 8 then (ns.length:Int) else 8) else 1):=by
    split <;> split <;> omega
   rw [e]
   rfl
 obtain ⟨m,hm8,em⟩:=hm
 obtain ⟨ρ1,l1,r1,r2,r3,r4,r5,r6,r7,r8,r9,rfl⟩:=forR_inv (i:=1) (body:=LK) (en:=ends1) (ρ:=R0) (lo:=0) (hi:=(m:Int)) (fun _ ρ=>∃ s1 s2 s3 s4 s5 s6 s7 s8 s9,ρ=R s1 s2 s3 s4 s5 s6 s7 s8 s9) em (ends1_ok (by omega) (by omega)) ⟨_,_,_,_,_,_,_,_,_,rfl⟩ (by
  rintro k ρ hk ⟨s1,s2,s3,s4,s5,s6,s7,s8,s9,rfl⟩
  obtain ⟨t2,t3,t4,t5,t6,t7,t8,t9,e⟩:=LK_ok (ns:=ns) (k:=k) (by omega) (s2:=s2) (s3:=s3) (s4:=s4) (s5:=s5) (s6:=s6) (s7:=s7) (s8:=s8) (s9:=s9)
  refine ⟨show 1 < 10 by decide,_,?_,some (.int (k:Int),om),t2,t3,t4,t5,t6,t7,t8,t9,rfl⟩
  rw [Int.zero_add]
  exact e)
 exact ⟨_,_,fn_rt rfl ((seq_nx l1).trans (ret_ok (fin_ok rfl)))⟩
open PySem PySem.Spec PyProof.Rows L2 QQ
def dfs:List (Str×Stmt):=[(("is_whole_number" : Str),t0),(("is_box" : Str),t1),(("must_be_box" : Str),t2),(("is_row_of_heights" : Str),t3),(("never_rises" : Str),t4),(("column_of" : Str),t5),(("is_pile" : Str),t6),(("must_be_pile" : Str),t7),(("cubes_of" : Str),t8),(("how_many_cubes" : Str),t9),(("is_cube_in" : Str),t10),(("cubes_needed_by" : Str),t11),(("must_be_cubes_of_a_pile" : Str),t12),(("pile_of_cubes" : Str),t13),(("mirrored_pile" : Str),t14),(("how_many_above" : Str),t15),(("rolled_pile" : Str),t16),(("rest_of" : Str),t17),(("_law_pool" : Str),t18),(("_law_take" : Str),t19),(("_law_box" : Str),t20),(("_law_pile" : Str),t21),(("_law_is_pile" : Str),t22),(("_law_is" : Str),t23),(("_law_odd_boxes" : Str),t24),(("_law_refused" : Str),t25),(("_law_no_box" : Str),t26),(("_law_copy" : Str),t27),(("_law_none" : Str),t28),(("law" : Str),t29)]
section
variable {P:Program}{w:World}{K:Frag}{mg:Str→Option Value}
theorem c0:FnScope S0.N ["thing"] (defScope t0):=⟨rfl,rfl,rfl,by decide +kernel,rfl,by decide +kernel,by decide +kernel⟩
theorem c1:FnScope S1.N ["thing"] (defScope t1):=⟨rfl,rfl,rfl,by decide +kernel,rfl,by decide +kernel,by decide +kernel⟩
theorem c2:FnScope S2.N ["box"] (defScope t2):=⟨rfl,rfl,rfl,by decide +kernel,rfl,by decide +kernel,by decide +kernel⟩
theorem c3:FnScope S3.N ["thing","columns","height"] (defScope t3):=⟨rfl,rfl,rfl,by decide +kernel,rfl,by decide +kernel,by decide +kernel⟩
theorem c4:FnScope S4.N ["numbers"] (defScope t4):=⟨rfl,rfl,rfl,by decide +kernel,rfl,by decide +kernel,by decide +kernel⟩
theorem c5:FnScope S5.N ["table","j"] (defScope t5):=⟨rfl,rfl,rfl,by decide +kernel,rfl,by decide +kernel,by decide +kernel⟩
theorem c6:FnScope S6.N ["box","thing"] (defScope t6):=⟨rfl,rfl,rfl,by decide +kernel,rfl,by decide +kernel,by decide +kernel⟩
theorem c7:FnScope S7.N ["box","pile"] (defScope t7):=⟨rfl,rfl,rfl,by decide +kernel,rfl,by decide +kernel,by decide +kernel⟩
theorem c8:FnScope S8.N ["box","pile"] (defScope t8):=⟨rfl,rfl,rfl,by decide +kernel,rfl,by decide +kernel,by decide +kernel⟩
theorem c9:FnScope S9.N ["box","pile"] (defScope t9):=⟨rfl,rfl,rfl,by decide +kernel,rfl,by decide +kernel,by decide +kernel⟩
theorem c10:FnScope S10.N ["box","thing"] (defScope t10):=⟨rfl,rfl,rfl,by decide +kernel,rfl,by decide +kernel,by decide +kernel⟩
theorem c11:FnScope S11.N ["cube"] (defScope t11):=⟨rfl,rfl,rfl,by decide +kernel,rfl,by decide +kernel,by decide +kernel⟩
theorem c12:FnScope S12.N ["box","cubes"] (defScope t12):=⟨rfl,rfl,rfl,by decide +kernel,rfl,by decide +kernel,by decide +kernel⟩
theorem c13:FnScope S13.N ["box","cubes"] (defScope t13):=⟨rfl,rfl,rfl,by decide +kernel,rfl,by decide +kernel,by decide +kernel⟩
theorem c14:FnScope S14.N ["box","pile"] (defScope t14):=⟨rfl,rfl,rfl,by decide +kernel,rfl,by decide +kernel,by decide +kernel⟩
theorem c15:FnScope S15.N ["numbers","level"] (defScope t15):=⟨rfl,rfl,rfl,by decide +kernel,rfl,by decide +kernel,by decide +kernel⟩
theorem c16:FnScope S16.N ["box","pile"] (defScope t16):=⟨rfl,rfl,rfl,by decide +kernel,rfl,by decide +kernel,by decide +kernel⟩
theorem c17:FnScope S17.N ["box","pile"] (defScope t17):=⟨rfl,rfl,rfl,by decide +kernel,rfl,by decide +kernel,by decide +kernel⟩
theorem c18:FnScope S18.N ["script","k"] (defScope t18):=⟨rfl,rfl,rfl,by decide +kernel,rfl,by decide +kernel,by decide +kernel⟩
theorem c19:FnScope S19.N ["pool","many"] (defScope t19):=⟨rfl,rfl,rfl,by decide +kernel,rfl,by decide +kernel,by decide +kernel⟩
theorem c20:FnScope S20.N ["pool","most"] (defScope t20):=⟨rfl,rfl,rfl,by decide +kernel,rfl,by decide +kernel,by decide +kernel⟩
theorem c21:FnScope S21.N ["pool","box"] (defScope t21):=⟨rfl,rfl,rfl,by decide +kernel,rfl,by decide +kernel,by decide +kernel⟩
theorem c22:FnScope S22.N ["box","thing"] (defScope t22):=⟨rfl,rfl,rfl,by decide +kernel,rfl,by decide +kernel,by decide +kernel⟩
theorem c23:FnScope S23.N ["caught","due"] (defScope t23):=⟨rfl,rfl,rfl,by decide +kernel,rfl,by decide +kernel,by decide +kernel⟩
theorem c24:FnScope S24.N ["pool"] (defScope t24):=⟨rfl,rfl,rfl,by decide +kernel,rfl,by decide +kernel,by decide +kernel⟩
theorem c25:FnScope S25.N ["way","box","pile","due"] (defScope t25):=⟨rfl,rfl,rfl,by decide +kernel,rfl,by decide +kernel,by decide +kernel⟩
theorem c26:FnScope S26.N ["box"] (defScope t26):=⟨rfl,rfl,rfl,by decide +kernel,rfl,by decide +kernel,by decide +kernel⟩
theorem c27:FnScope S27.N ["thing"] (defScope t27):=⟨rfl,rfl,rfl,by decide +kernel,rfl,by decide +kernel,by decide +kernel⟩
theorem c28:FnScope S28.N ["pool","box","pile"] (defScope t28):=⟨rfl,rfl,rfl,by decide +kernel,rfl,by decide +kernel,by decide +kernel⟩
theorem c29:FnScope S29.N ["script"] (defScope t29):=⟨rfl,rfl,rfl,by decide +kernel,rfl,by decide +kernel,by decide +kernel⟩
theorem all_ok {fa:Addr} (G:Given dfs [0,1,2,3,4,5,6,7,8,9,10,11] K mg) (hm:mg "law" = some (.ref fa)):
  ∃ fd:FuncData,(∀ (s:Shared) (u:Value),BindsTo s fd ⟨[u],[]⟩ [("script",u)])∧∀ base:Heap,FnOk P w K mg base (CXr P w K) 8 fa fd ["script"] (spF K false 1 F29):=by
 have hb:=G.bn
 have gx:=G.gx
 obtain ⟨a0,d0,m0,f0⟩:=G.df 0 _ _ rfl
 obtain ⟨a1,d1,m1,f1⟩:=G.df 1 _ _ rfl
 obtain ⟨a2,d2,m2,f2⟩:=G.df 2 _ _ rfl
 obtain ⟨a3,d3,m3,f3⟩:=G.df 3 _ _ rfl
 obtain ⟨a4,d4,m4,f4⟩:=G.df 4 _ _ rfl
 obtain ⟨a5,d5,m5,f5⟩:=G.df 5 _ _ rfl
 obtain ⟨a6,d6,m6,f6⟩:=G.df 6 _ _ rfl
 obtain ⟨a7,d7,m7,f7⟩:=G.df 7 _ _ rfl
 obtain ⟨a8,d8,m8,f8⟩:=G.df 8 _ _ rfl
 obtain ⟨a9,d9,m9,f9⟩:=G.df 9 _ _ rfl
 obtain ⟨a10,d10,m10,f10⟩:=G.df 10 _ _ rfl
 obtain ⟨a11,d11,m11,f11⟩:=G.df 11 _ _ rfl
 obtain ⟨a12,d12,m12,f12⟩:=G.df 12 _ _ rfl
 obtain ⟨a13,d13,m13,f13⟩:=G.df 13 _ _ rfl
 obtain ⟨a14,d14,m14,f14⟩:=G.df 14 _ _ rfl
 obtain ⟨a15,d15,m15,f15⟩:=G.df 15 _ _ rfl
 obtain ⟨a16,d16,m16,f16⟩:=G.df 16 _ _ rfl
 obtain ⟨a17,d17,m17,f17⟩:=G.df 17 _ _ rfl
 obtain ⟨a18,d18,m18,f18⟩:=G.df 18 _ _ rfl
 obtain ⟨a19,d19,m19,f19⟩:=G.df 19 _ _ rfl
 obtain ⟨a20,d20,m20,f20⟩:=G.df 20 _ _ rfl
 obtain ⟨a21,d21,m21,f21⟩:=G.df 21 _ _ rfl
 obtain ⟨a22,d22,m22,f22⟩:=G.df 22 _ _ rfl
 obtain ⟨a23,d23,m23,f23⟩:=G.df 23 _ _ rfl
 obtain ⟨a24,d24,m24,f24⟩:=G.df 24 _ _ rfl
 obtain ⟨a25,d25,m25,f25⟩:=G.df 25 _ _ rfl
 obtain ⟨a26,d26,m26,f26⟩:=G.df 26 _ _ rfl
 obtain ⟨a27,d27,m27,f27⟩:=G.df 27 _ _ rfl
 obtain ⟨a28,d28,m28,f28⟩:=G.df 28 _ _ rfl
 obtain ⟨a29,d29,m29,f29⟩:=G.df 29 _ _ rfl
 cases hm.symm.trans m29
 have B0:=f0.binds (ps:=["thing"]) fun _ _ _ _ _ _ us hl=>by obtain ⟨_,rfl⟩:=len1 hl;rfl
 have B1:=f1.binds (ps:=["thing"]) fun _ _ _ _ _ _ us hl=>by obtain ⟨_,rfl⟩:=len1 hl;rfl
 have B2:=f2.binds (ps:=["box"]) fun _ _ _ _ _ _ us hl=>by obtain ⟨_,rfl⟩:=len1 hl;rfl
 have B3:=f3.binds (ps:=["thing","columns","height"]) fun _ _ _ _ _ _ us hl=>by obtain ⟨_,_,_,rfl⟩:=len3 hl;rfl
 have B4:=f4.binds (ps:=["numbers"]) fun _ _ _ _ _ _ us hl=>by obtain ⟨_,rfl⟩:=len1 hl;rfl
 have B5:=f5.binds (ps:=["table","j"]) fun _ _ _ _ _ _ us hl=>by obtain ⟨_,_,rfl⟩:=len2 hl;rfl
 have B6:=f6.binds (ps:=["box","thing"]) fun _ _ _ _ _ _ us hl=>by obtain ⟨_,_,rfl⟩:=len2 hl;rfl
 have B7:=f7.binds (ps:=["box","pile"]) fun _ _ _ _ _ _ us hl=>by obtain ⟨_,_,rfl⟩:=len2 hl;rfl
 have B8:=f8.binds (ps:=["box","pile"]) fun _ _ _ _ _ _ us hl=>by obtain ⟨_,_,rfl⟩:=len2 hl;rfl
 have B9:=f9.binds (ps:=["box","pile"]) fun _ _ _ _ _ _ us hl=>by obtain ⟨_,_,rfl⟩:=len2 hl;rfl
 have B10:=f10.binds (ps:=["box","thing"]) fun _ _ _ _ _ _ us hl=>by obtain ⟨_,_,rfl⟩:=len2 hl;rfl
 have B11:=f11.binds (ps:=["cube"]) fun _ _ _ _ _ _ us hl=>by obtain ⟨_,rfl⟩:=len1 hl;rfl
 have B12:=f12.binds (ps:=["box","cubes"]) fun _ _ _ _ _ _ us hl=>by obtain ⟨_,_,rfl⟩:=len2 hl;rfl
 have B13:=f13.binds (ps:=["box","cubes"]) fun _ _ _ _ _ _ us hl=>by obtain ⟨_,_,rfl⟩:=len2 hl;rfl
 have B14:=f14.binds (ps:=["box","pile"]) fun _ _ _ _ _ _ us hl=>by obtain ⟨_,_,rfl⟩:=len2 hl;rfl
 have B15:=f15.binds (ps:=["numbers","level"]) fun _ _ _ _ _ _ us hl=>by obtain ⟨_,_,rfl⟩:=len2 hl;rfl
 have B16:=f16.binds (ps:=["box","pile"]) fun _ _ _ _ _ _ us hl=>by obtain ⟨_,_,rfl⟩:=len2 hl;rfl
 have B17:=f17.binds (ps:=["box","pile"]) fun _ _ _ _ _ _ us hl=>by obtain ⟨_,_,rfl⟩:=len2 hl;rfl
 have B18:=f18.binds (ps:=["script","k"]) fun _ _ _ _ _ _ us hl=>by obtain ⟨_,_,rfl⟩:=len2 hl;rfl
 have B19:=f19.binds (ps:=["pool","many"]) fun _ _ _ _ _ _ us hl=>by obtain ⟨_,_,rfl⟩:=len2 hl;rfl
 have B20:=f20.binds (ps:=["pool","most"]) fun _ _ _ _ _ _ us hl=>by obtain ⟨_,_,rfl⟩:=len2 hl;rfl
 have B21:=f21.binds (ps:=["pool","box"]) fun _ _ _ _ _ _ us hl=>by obtain ⟨_,_,rfl⟩:=len2 hl;rfl
 have B22:=f22.binds (ps:=["box","thing"]) fun _ _ _ _ _ _ us hl=>by obtain ⟨_,_,rfl⟩:=len2 hl;rfl
 have B23:=f23.binds (ps:=["caught","due"]) fun _ _ _ _ _ _ us hl=>by obtain ⟨_,_,rfl⟩:=len2 hl;rfl
 have B24:=f24.binds (ps:=["pool"]) fun _ _ _ _ _ _ us hl=>by obtain ⟨_,rfl⟩:=len1 hl;rfl
 have B25:=f25.binds (ps:=["way","box","pile","due"]) fun _ _ _ _ _ _ us hl=>by obtain ⟨_,_,_,_,rfl⟩:=len4 hl;rfl
 have B26:=f26.binds (ps:=["box"]) fun _ _ _ _ _ _ us hl=>by obtain ⟨_,rfl⟩:=len1 hl;rfl
 have B27:=f27.binds (ps:=["thing"]) fun _ _ _ _ _ _ us hl=>by obtain ⟨_,rfl⟩:=len1 hl;rfl
 have B28:=f28.binds (ps:=["pool","box","pile"]) fun _ _ _ _ _ _ us hl=>by obtain ⟨_,_,_,rfl⟩:=len3 hl;rfl
 refine ⟨d29,?_,fun base=>?_⟩
 ·obtain ⟨_,_,_,_,_,_,_,_,_,rfl,_,_⟩:=f29.ex
  exact fun s v=>.of_eq rfl
 have o0:FnOk P w K mg base (CXr P w K) 1 a0 d0 ["thing"] (spF K false 1 F0):=fn_by (S:=S0) f0 c0 rfl rfl rfl rfl (by decide) (fun h=>nomatch h) gx (gs_nil hb) gsm_nil h0
 have o1:FnOk P w K mg base (CXr P w K) 2 a1 d1 ["thing"] (spF K false 1 F1):=fn_by (S:=S1) f1 c1 rfl rfl rfl rfl (by decide) (fun h=>nomatch h) gx (gs_cons (gs_nil hb) (by decide +kernel) mkFn_len m0 f0 B0 rfl (o0.mono (by decide))) gsm_nil h1
 have o2:FnOk P w K mg base (CXr P w K) 3 a2 d2 ["box"] (spF K false 1 F2):=fn_by (S:=S2) f2 c2 rfl rfl rfl rfl (by decide) (fun h=>nomatch h) gx (gs_cons (gs_nil hb) (by decide +kernel) mkFn_len m1 f1 B1 rfl (o1.mono (by decide))) gsm_nil h2
 have o3:FnOk P w K mg base (CXr P w K) 2 a3 d3 ["thing","columns","height"] (spF K false 3 F3):=fn_by (S:=S3) f3 c3 rfl rfl rfl rfl (by decide) (fun h=>nomatch h) gx (gs_cons (gs_nil hb) (by decide +kernel) mkFn_len m0 f0 B0 rfl (o0.mono (by decide))) gsm_nil h3
 have o4:FnOk P w K mg base (CXr P w K) 1 a4 d4 ["numbers"] (spF K false 1 F4):=fn_by (S:=S4) f4 c4 rfl rfl rfl rfl (by decide) (fun h=>nomatch h) gx (gs_nil hb) gsm_nil h4
 have o5:FnOk P w K mg base (CXr P w K) 1 a5 d5 ["table","j"] (spF K false 2 F5):=fn_by (S:=S5) f5 c5 rfl rfl rfl rfl (by decide) (fun h=>nomatch h) gx (gs_nil hb) gsm_nil h5
 have o6:FnOk P w K mg base (CXr P w K) 4 a6 d6 ["box","thing"] (spF K false 2 F6):=fn_by (S:=S6) f6 c6 rfl rfl rfl rfl (by decide) (fun h=>nomatch h) gx (gs_cons (gs_cons (gs_cons (gs_cons (gs_nil hb) (by decide +kernel) mkFn_len m5 f5 B5 rfl (o5.mono (by decide))) (by decide +kernel) mkFn_len m4 f4 B4 rfl (o4.mono (by decide))) (by decide +kernel) mkFn_len m3 f3 B3 rfl (o3.mono (by decide))) (by decide +kernel) mkFn_len m2 f2 B2 rfl (o2.mono (by decide))) gsm_nil h6
 have o7:FnOk P w K mg base (CXr P w K) 5 a7 d7 ["box","pile"] (spF K false 2 F7):=fn_by (S:=S7) f7 c7 rfl rfl rfl rfl (by decide) (fun h=>nomatch h) gx (gs_cons (gs_nil hb) (by decide +kernel) mkFn_len m6 f6 B6 rfl (o6.mono (by decide))) gsm_nil h7
 have o8:FnOk P w K mg base (CXr P w K) 6 a8 d8 ["box","pile"] (spF K false 2 F8):=fn_by (S:=S8) f8 c8 rfl rfl rfl rfl (by decide) (fun h=>nomatch h) gx (gs_cons (gs_nil hb) (by decide +kernel) mkFn_len m7 f7 B7 rfl (o7.mono (by decide))) gsm_nil h8
 have o9:FnOk P w K mg base (CXr P w K) 6 a9 d9 ["box","pile"] (spF K false 2 F9):=fn_by (S:=S9) f9 c9 rfl rfl rfl rfl (by decide) (fun h=>nomatch h) gx (gs_cons (gs_nil hb) (by decide +kernel) mkFn_len m7 f7 B7 rfl (o7.mono (by decide))) gsm_nil h9
 have o10:FnOk P w K mg base (CXr P w K) 2 a10 d10 ["box","thing"] (spF K false 2 F10):=fn_by (S:=S10) f10 c10 rfl rfl rfl rfl (by decide) (fun h=>nomatch h) gx (gs_cons (gs_nil hb) (by decide +kernel) mkFn_len m0 f0 B0 rfl (o0.mono (by decide))) gsm_nil h10
 have o11:FnOk P w K mg base (CXr P w K) 1 a11 d11 ["cube"] (spF K false 1 F11):=fn_by (S:=S11) f11 c11 rfl rfl rfl rfl (by decide) (fun h=>nomatch h) gx (gs_nil hb) gsm_nil h11
 have o12:FnOk P w K mg base (CXr P w K) 3 a12 d12 ["box","cubes"] (spF K false 2 F12):=fn_by (S:=S12) f12 c12 rfl rfl rfl rfl (by decide) (fun h=>nomatch h) gx (gs_cons (gs_cons (gs_nil hb) (by decide +kernel) mkFn_len m11 f11 B11 rfl (o11.mono (by decide))) (by decide +kernel) mkFn_len m10 f10 B10 rfl (o10.mono (by decide))) gsm_nil h12
 have o13:FnOk P w K mg base (CXr P w K) 4 a13 d13 ["box","cubes"] (spF K false 2 F13):=fn_by (S:=S13) f13 c13 rfl rfl rfl rfl (by decide) (fun h=>nomatch h) gx (gs_cons (gs_cons (gs_nil hb) (by decide +kernel) mkFn_len m12 f12 B12 rfl (o12.mono (by decide))) (by decide +kernel) mkFn_len m2 f2 B2 rfl (o2.mono (by decide))) gsm_nil h13
 have o14:FnOk P w K mg base (CXr P w K) 6 a14 d14 ["box","pile"] (spF K false 2 F14):=fn_by (S:=S14) f14 c14 rfl rfl rfl rfl (by decide) (fun h=>nomatch h) gx (gs_cons (gs_cons (gs_nil hb) (by decide +kernel) mkFn_len m7 f7 B7 rfl (o7.mono (by decide))) (by decide +kernel) mkFn_len m5 f5 B5 rfl (o5.mono (by decide))) gsm_nil h14
 have o15:FnOk P w K mg base (CXr P w K) 1 a15 d15 ["numbers","level"] (spF K false 2 F15):=fn_by (S:=S15) f15 c15 rfl rfl rfl rfl (by decide) (fun h=>nomatch h) gx (gs_nil hb) gsm_nil h15
 have o16:FnOk P w K mg base (CXr P w K) 6 a16 d16 ["box","pile"] (spF K false 2 F16):=fn_by (S:=S16) f16 c16 rfl rfl rfl rfl (by decide) (fun h=>nomatch h) gx (gs_cons (gs_cons (gs_cons (gs_nil hb) (by decide +kernel) mkFn_len m15 f15 B15 rfl (o15.mono (by decide))) (by decide +kernel) mkFn_len m7 f7 B7 rfl (o7.mono (by decide))) (by decide +kernel) mkFn_len m5 f5 B5 rfl (o5.mono (by decide))) gsm_nil h16
 have o17:FnOk P w K mg base (CXr P w K) 6 a17 d17 ["box","pile"] (spF K false 2 F17):=fn_by (S:=S17) f17 c17 rfl rfl rfl rfl (by decide) (fun h=>nomatch h) gx (gs_cons (gs_nil hb) (by decide +kernel) mkFn_len m7 f7 B7 rfl (o7.mono (by decide))) gsm_nil h17
 have o18:FnOk P w K mg base (CXr P w K) 1 a18 d18 ["script","k"] (spF K false 2 F18):=fn_by (S:=S18) f18 c18 rfl rfl rfl rfl (by decide) (fun h=>nomatch h) gx (gs_nil hb) gsm_nil h18
 have o19:FnOk P w K mg base (CXr P w K) 1 a19 d19 ["pool","many"] (spF K true 2 F19):=fn_by (S:=S19) f19 c19 rfl rfl rfl rfl (by decide) (fun _=>⟨rfl,by decide⟩) gx (gs_nil hb) gsm_nil h19
 have o20:FnOk P w K mg base (CXr P w K) 2 a20 d20 ["pool","most"] (spF K true 2 F20):=fn_by (S:=S20) f20 c20 rfl rfl rfl rfl (by decide) (fun _=>⟨rfl,by decide⟩) gx (gs_cons (gs_nil hb) (by decide +kernel) mkFn_len m19 f19 B19 rfl (o19.mono (by decide))) gsm_nil h20
 have o21:FnOk P w K mg base (CXr P w K) 2 a21 d21 ["pool","box"] (spF K true 2 F21):=fn_by (S:=S21) f21 c21 rfl rfl rfl rfl (by decide) (fun _=>⟨rfl,by decide⟩) gx (gs_cons (gs_nil hb) (by decide +kernel) mkFn_len m19 f19 B19 rfl (o19.mono (by decide))) gsm_nil h21
 have o22:FnOk P w K mg base (CXr P w K) 1 a22 d22 ["box","thing"] (spF K false 2 F22):=fn_by (S:=S22) f22 c22 rfl rfl rfl rfl (by decide) (fun h=>nomatch h) gx (gs_nil hb) gsm_nil h22
 have o23:FnOk P w K mg base (CXr P w K) 1 a23 d23 ["caught","due"] (spF K false 2 F23):=fn_by (S:=S23) f23 c23 rfl rfl rfl rfl (by decide) (fun h=>nomatch h) gx (gs_nil hb) gsm_nil h23
 have o24:FnOk P w K mg base (CXr P w K) 2 a24 d24 ["pool"] (spF K true 1 F24):=fn_by (S:=S24) f24 c24 rfl rfl rfl rfl (by decide) (fun _=>⟨rfl,by decide⟩) gx (gs_cons (gs_nil hb) (by decide +kernel) mkFn_len m19 f19 B19 rfl (o19.mono (by decide))) gsm_nil h24
 have o25:FnOk P w K mg base (CXr P w K) 7 a25 d25 ["way","box","pile","due"] (spF K false 4 F25):=fn_by (S:=S25) f25 c25 rfl rfl rfl rfl (by decide) (fun h=>nomatch h) gx (gs_cons (gs_cons (gs_cons (gs_cons (gs_cons (gs_cons (gs_nil hb) (by decide +kernel) mkFn_len m23 f23 B23 rfl (o23.mono (by decide))) (by decide +kernel) mkFn_len m17 f17 B17 rfl (o17.mono (by decide))) (by decide +kernel) mkFn_len m16 f16 B16 rfl (o16.mono (by decide))) (by decide +kernel) mkFn_len m14 f14 B14 rfl (o14.mono (by decide))) (by decide +kernel) mkFn_len m9 f9 B9 rfl (o9.mono (by decide))) (by decide +kernel) mkFn_len m8 f8 B8 rfl (o8.mono (by decide))) gsm_nil h25
 have o26:FnOk P w K mg base (CXr P w K) 5 a26 d26 ["box"] (spF K false 1 F26):=fn_by (S:=S26) f26 c26 rfl rfl rfl rfl (by decide) (fun h=>nomatch h) gx (gs_cons (gs_cons (gs_nil hb) (by decide +kernel) mkFn_len m23 f23 B23 rfl (o23.mono (by decide))) (by decide +kernel) mkFn_len m13 f13 B13 rfl (o13.mono (by decide))) gsm_nil h26
 have o27r0:FnOk P w K mg base (CXr P w K) 0 a27 d27 ["thing"] (spF K false 1 F27r0):=fn_no rfl
 have o27r1:FnOk P w K mg base (CXr P w K) 1 a27 d27 ["thing"] (spF K false 1 F27r1):=fn_by (S:=S27r1) f27 c27 rfl rfl rfl rfl (by decide) (fun h=>nomatch h) gx (gs_cons (gs_nil hb) (by decide +kernel) (fun _ _=>rfl) m27 f27 B27 rfl o27r0) gsm_nil h27r1
 have o27r2:FnOk P w K mg base (CXr P w K) 2 a27 d27 ["thing"] (spF K false 1 F27r2):=fn_by (S:=S27r2) f27 c27 rfl rfl rfl rfl (by decide) (fun h=>nomatch h) gx (gs_cons (gs_nil hb) (by decide +kernel) mkFn_len m27 f27 B27 rfl o27r1) gsm_nil h27r2
 have o27r3:FnOk P w K mg base (CXr P w K) 3 a27 d27 ["thing"] (spF K false 1 F27r3):=fn_by (S:=S27r3) f27 c27 rfl rfl rfl rfl (by decide) (fun h=>nomatch h) gx (gs_cons (gs_nil hb) (by decide +kernel) mkFn_len m27 f27 B27 rfl o27r2) gsm_nil h27r3
 have o27r4:FnOk P w K mg base (CXr P w K) 4 a27 d27 ["thing"] (spF K false 1 F27r4):=fn_by (S:=S27r4) f27 c27 rfl rfl rfl rfl (by decide) (fun h=>nomatch h) gx (gs_cons (gs_nil hb) (by decide +kernel) mkFn_len m27 f27 B27 rfl o27r3) gsm_nil h27r4
 have o27:=o27r4
 have o28:FnOk P w K mg base (CXr P w K) 2 a28 d28 ["pool","box","pile"] (spF K true 3 F28):=fn_by (S:=S28) f28 c28 rfl rfl rfl rfl (by decide) (fun _=>⟨rfl,by decide⟩) gx (gs_cons (gs_cons (gs_nil hb) (by decide +kernel) mkFn_len m22 f22 B22 rfl (o22.mono (by decide))) (by decide +kernel) mkFn_len m19 f19 B19 rfl (o19.mono (by decide))) gsm_nil h28
 exact fn_by (S:=S29) f29 c29 rfl rfl rfl rfl (by decide) (fun h=>nomatch h) gx (gs_cons (gs_cons (gs_cons (gs_cons (gs_cons (gs_cons (gs_cons (gs_cons (gs_cons (gs_nil hb) (by decide +kernel) mkFn_len m28 f28 B28 rfl (o28.mono (by decide))) (by decide +kernel) mkFn_len m27 f27 B27 rfl (o27.mono (by decide))) (by decide +kernel) mkFn_len m26 f26 B26 rfl (o26.mono (by decide))) (by decide +kernel) mkFn_len m25 f25 B25 rfl (o25.mono (by decide))) (by decide +kernel) mkFn_len m24 f24 B24 rfl (o24.mono (by decide))) (by decide +kernel) mkFn_len m21 f21 B21 rfl (o21.mono (by decide))) (by decide +kernel) mkFn_len m20 f20 B20 rfl (o20.mono (by decide))) (by decide +kernel) mkFn_len m19 f19 B19 rfl (o19.mono (by decide))) (by decide +kernel) mkFn_len m18 f18 B18 rfl (o18.mono (by decide))) gsm_nil h29
end
open PySem PySem.Spec PyProof.Rows L2 QQ
def view:Program:={ PySem.Challenge.pw_cornerpiles_k06_refused_ahead with main:={ PySem.Challenge.pw_cornerpiles_k06_refused_ahead.main with body:=[t29] } }
def loose:List Str:=(PySem.Challenge.pw_cornerpiles_k06_refused_ahead.main.scope.names.map fun x=>x.1).filter fun x=>!(x == ("law" : Str))
theorem run:∀ (w:PySem.World) (os:PySem.OsState),(topRunT PySem.treeTable PySem.Challenge.rw_cornerpiles_k06_refused_ahead.prog w (PySem.W.boot_heap w.params).objs.size ((PySem.W.boot_heap w.params).nsMap mainGlobals "__annotations__") 20000 (bootS w.params os) (PySem.W.topStub PySem.Challenge.rw_cornerpiles_k06_refused_ahead.prog)).map (fun s=>endSeen PySem.Challenge.rw_cornerpiles_k06_refused_ahead.prog view loose (fun s=>PySem.W.xlAt view [] s && PySem.W.recOk (PySem.W.RowW.records PySem.Challenge.rw_cornerpiles_k06_refused_ahead.row.toRowW) s) (fun s=>lawSeen dfs [0,1,2,3,4,5,6,7,8,9,10,11] (kof s.heap)) (PySem.W.boot_heap w.params) s.abs)=some (true,PySem.W.openGood view loose,lawDue dfs):=fun w os=>by kernel_rfl
end K06
open PySem PySem.W PyProof.Rows
set_option maxRecDepth 100000 in
set_option maxHeartbeats 0 in
theorem PySem.Challenge.cw_cornerpiles_k06_refused_ahead_holds : PySem.Challenge.rw_cornerpiles_k06_refused_ahead.Holds := by
 refine QQ.holds_by (l:=PySem.Challenge.rw_cornerpiles_k06_refused_ahead) (q:=K06.view) (loose:=K06.loose) (N:=20000) (k:=8) (n:=63) (ds:=K06.dfs) (xc:=[0,1,2,3,4,5,6,7,8,9,10,11]) (F:=K06.F29) (x := "script") ?said rfl rfl (fun _=>rfl) K06.run (by rfl) (by rfl) (by rfl) (by rfl) (by decide +kernel) ⟨rfl,rfl,rfl,rfl,rfl,by decide +kernel⟩ ?hw rfl (by decide) rfl ⟨rfl,by decide,by decide,rfl⟩ (fun _ _ _ _ G hm=>K06.all_ok G hm) (fun _ _ _ ns hl hO hS=>QQ.sp_yes hO hS (K06.law_true ns hl))
 case said=>decide +kernel
 case hw=>w_witness2
