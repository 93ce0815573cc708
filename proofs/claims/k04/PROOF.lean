import PyProof.Rows.All
import Wide.All
import OpenK.AllK
import Wide.FinOn
import Lean
import PyProof.EqAt
import PyProof.EqKinds
import PyProof.TupleCall
import PyProof.CompFree
import PyProof.ConsumeWalk
import PyProof.StrWalks
import PyProof.SliceStr2
import PyProof.Rows.StrJoin2
import PyProof.StrOps2
import PyProof.ListMulRoad
import PyProof.TupleOps
import PyProof.NeKinds
import KE.KRevIter
import PyProof.Rows.SortWalk
import PyProof.Draws
import PyProof.EnumMake
import PyProof.AutoListH
import PySem.Challenge.RW_clockhouse_k04_houses_let_by
set_option Elab.async false
set_option linter.all false
set_option maxRecDepth 100000
set_option maxHeartbeats 4000000
set_option genSizeOf false
set_option compiler.extract_closed false
theorem yaR {α:Type}{b : α}(x:List α){y:List α}(h:b∈y):b∈x++y:=List.mem_append_right x h
theorem yaL {α:Type}{b : α}{x:List α}(y:List α)(h:b∈x):b∈x++y:=List.mem_append_left y h
theorem ymS {α:Type}{b : α}{x:List α}:b∈b::x:=List.mem_cons_self
theorem ymC {α:Type}{b : α}(y : α){x:List α}(h:b∈x):b∈y::x:=List.mem_cons_of_mem y h
theorem yaM {α:Type}{b : α}{x y:List α}(h:b∈x++y):b∈x ∨ b∈y:=List.mem_append.mp h
theorem ycM {α:Type}{b a : α}{x:List α}(h:b∈a::x):b=a ∨ b∈x:=List.mem_cons.mp h
theorem ysM {α:Type}{b a : α}(h:b∈[a]):b=a:=List.mem_singleton.mp h
theorem ymG {α:Type}{x:List α}{i:Nat}{a : α}(h:x[i]?=some a):a∈x:=List.mem_of_getElem? h
abbrev yF:=PySem.W.Frag
namespace L2
open PySem PySem.Spec PyProof.Rows
abbrev Key:=Sum Int Str
noncomputable def keyIs:Key->Value->Bool
 | .inl k,v=>Value.isInt k v
 | .inr x,v=>Value.isStrOf x v
noncomputable def keyH (w:World):Key->Int
 | .inl k=>hashInt k
 | .inr x=>hashStr w x
theorem zua:∀ {k:Key} {v:Value},keyIs k v=true->(∃ i t,k=Sum.inl i/\v=Value.int i t) ∨ (∃ x t,k=Sum.inr x/\v=Value.str x t)
 | .inl i,v,h=>by
  obtain⟨t,e⟩:=Value.isInt_shape (k:=i) (v:=v) h
  exact .inl ⟨i,t,rfl,e⟩
 | .inr x,v,h=>by
  obtain⟨t,e⟩:=Value.isStrOf_shape (x:=x) (v:=v) h
  exact .inr ⟨x,t,rfl,e⟩
theorem key_ll (a b:Int):decide ((Sum.inl a:Key)=Sum.inl b)=(a == b):=by
 by_cases e:a=b
 ·subst e;simp
 ·have h:¬ (Sum.inl a:Key)=Sum.inl b:=fun q=>e (Sum.inl.inj q)
  rw [decide_eq_false h]
  exact (beq_eq_false_iff_ne.mpr e).symm
theorem key_rr (a b:Str):decide ((Sum.inr a:Key)=Sum.inr b)=decide (a=b):=by
 by_cases e:a=b
 ·subst e;simp
 ·have h:¬ (Sum.inr a:Key)=Sum.inr b:=fun q=>e (Sum.inr.inj q)
  rw [decide_eq_false h,decide_eq_false e]
theorem key_lr (a:Int)(b:Str):decide ((Sum.inl a:Key)=Sum.inr b)=false:=decide_eq_false (fun q=>nomatch q)
theorem key_rl (a:Str)(b:Int):decide ((Sum.inr a:Key)=Sum.inl b)=false:=decide_eq_false (fun q=>nomatch q)
noncomputable def zil (prog:Program) (w:World):PySem.KeyKind prog w Key where
 is:=keyIs
 hash:=keyH w
 inj:=fun v a b ha hb=>by
  rcases zua ha with⟨i,t,rfl,rfl⟩ | ⟨x,t,rfl,rfl⟩
  ·rcases zua hb with⟨j,u,rfl,e⟩ | ⟨y,u,rfl,e⟩
   ·injection e with e1 _;rw [e1]
   ·exact nomatch e
  ·rcases zua hb with⟨j,u,rfl,e⟩ | ⟨y,u,rfl,e⟩
   ·exact nomatch e
   ·injection e with e1 _;rw [e1]
 byValue:=fun k v h=>by
  rcases zua h with⟨i,t,rfl,rfl⟩ | ⟨x,t,rfl,rfl⟩<;>rfl
 pyHash:=fun hv h=>by
  rcases zua hv with⟨i,t,rfl,rfl⟩ | ⟨x,t,rfl,rfl⟩
  ·exact wpAny_pyHash_int h
  ·exact wpAny_pyHash_str h
 eqBool:=fun hu hv h=>by
  rcases zua hu with⟨i,t,rfl,rfl⟩ | ⟨x,t,rfl,rfl⟩
  ·rcases zua hv with⟨j,u,rfl,rfl⟩ | ⟨y,u,rfl,rfl⟩
   ·rw [key_ll] at h;exact wpAny_eqBool_int h
   ·rw [key_lr] at h;exact SeqAt.EqAt.int_str i t y u _ _ _ _ h
  ·rcases zua hv with⟨j,u,rfl,rfl⟩ | ⟨y,u,rfl,rfl⟩
   ·rw [key_rl] at h;exact SeqAt.EqAt.str_int x t j u _ _ _ _ h
   ·rw [key_rr] at h;exact wpAny_eqBool_str h
 «strs»:=fun k x t v h=>by
  rcases zua h with⟨i,u,rfl,e⟩ | ⟨y,u,rfl,e⟩
  ·exact nomatch e
  ·injection e with e1 _
   subst e1
   cases v<;>rfl
inductive V where
 | non | bl (b:Bool) | int (i:Int) | str (x:Str) | byt (b:Array UInt8) | flt (b:UInt64) | ref (a:Addr) | ty (n:String)
 deriving DecidableEq
def RelV:V->Value->Prop
 | .non,u=>u=Value.none
 | .bl b,u=>u=Value.bool b
 | .int i,u=>∃ t,u=Value.int i t
 | .str x,u=>∃ t,u=Value.str x t
 | .byt b,u=>∃ t,u=Value.bytes b t
 | .flt b,u=>∃ t,u=Value.float b t
 | .ref a,u=>u=Value.ref a
 | .ty n,u=>u=Value.type n
abbrev Vals:List V->List Value->Prop:=Paired RelV
theorem Vals.length {xs:List V}{us:List Value}(r:Vals xs us):xs.length=us.length:=Paired.length r
theorem Vals.get:∀ {xs:List V} {us:List Value} {i:Nat} {x:V},Vals xs us->xs[i]?=some x->∃ u,us[i]?=some u/\RelV x u
 | _,_,_,_,.nil,e=>by simp at e
 | _,_,0,_,.cons r _,e=>by simp at e;subst e;exact⟨_,rfl,r⟩
 | _,_,i+1,x,.cons _ t,e=>by
  obtain⟨u,h1,h2⟩:=Vals.get (i:=i) (x:=x) t (by simpa using e)
  exact⟨u,by simpa using h1,h2⟩
theorem Vals.set {x:V}{u:Value}(r:RelV x u):∀ {xs:List V} {us:List Value} (i:Nat),Vals xs us->Vals (xs.set i x) (us.set i u)
 | _,_,_,.nil=>.nil
 | _,_,0,.cons _ t=>.cons r t
 | _,_,i+1,.cons q t=>.cons q (Vals.set r i t)
theorem Vals.append:∀ {xs ys:List V} {us ws:List Value},Vals xs us->Vals ys ws->Vals (xs++ys) (us++ws)
 | _,_,_,_,.nil,s=>s
 | _,_,_,_,.cons r t,s=>.cons r (Vals.append t s)
theorem Vals.take:∀ {xs:List V} {us:List Value} (n:Nat),Vals xs us->Vals (xs.take n) (us.take n)
 | _,_,0,_=>.nil
 | _,_,_+1,.nil=>.nil
 | _,_,n+1,.cons r t=>.cons r (Vals.take n t)
theorem Vals.drop:∀ {xs:List V} {us:List Value} (n:Nat),Vals xs us->Vals (xs.drop n) (us.drop n)
 | _,_,0,r=>r
 | _,_,_+1,.nil=>.nil
 | _,_,n+1,.cons _ t=>Vals.drop n t
def RelO:Option V->Option Value->Prop
 | some v,some u=>RelV v u
 | none,none=>True
 | _,_=>False
def KV {κ : Type}:List (κ×V)->List (κ×Value)->Prop:=Paired fun (p : κ×V) (q : κ×Value)=>p.1=q.1/\RelV p.2 q.2
noncomputable def kV:Key->V
 | .inl i=>.int i
 | .inr x=>.str x
inductive HO where
 | lst (xs:List V)
 | tup (xs:List V)
 | dK (kvs:List (Key×V)) | dT (kvs:List (List Key×V))
 | set (S:Int->Bool) (n:Nat)
 | ins (C dx:Addr) (fs:List (Str×V))
 | own (x:Addr)
 | xd (fs:List (Str×V))
 | met (f x:Addr)
 | rng (lo hi:Int)
 | frz (o:Obj) (u:HO)
 | tbl (ps:Array Value)
 | ext (φ : Heap->Prop)
abbrev Hp:=Addr->Option HO
noncomputable def upd (H:Hp) (a:Addr) (o:HO):Hp:=fun b=>if b=a then some o else H b
theorem zga {H:Hp}{a:Addr}{o:HO}:upd H a o a=some o:=by unfold upd;rw [if_pos rfl]
theorem upd_ne {H:Hp}{a b:Addr}{o:HO}(h:b≠a):upd H a o b=H b:=by unfold upd;rw [if_neg h]
theorem zpa {H:Hp}{a b:Addr}{o:HO}(h:H a=some o)(h':H b=none):a≠b:=by
 intro e;subst e;rw [h] at h';cases h'
section
variable  (P:Program)(w:World)
def ObjOk (H:Hp)(h:Heap)(a:Addr):HO->Prop
 | .lst xs=>xs.length<=sizeLine/\∃ (its:List Value) (n:Nat),Vals xs its/\h.get? a=some { cls:=.type "list",data:=.seq its.toArray n }
 | .tup xs=>xs.length<=sizeLine/\∃ its:List Value,Vals xs its/\IsTup h a its.toArray
 | .dK kvs=>kvs.length<=sizeLine/\(a == sysModules)=false/\∃ vs,KV kvs vs/\h.DictOf (zil P w) a vs
 | .dT kvs=>kvs.length<=sizeLine/\(a == sysModules)=false/\∃ xs:List (List Key×Addr×Value),
   Paired (fun (p:List Key×V) (q:List Key×Addr×Value)=>p.1=q.1/\H q.2.1=some (.tup (p.1.map kV))/\RelV p.2 q.2.2) kvs xs ∧
   ∃ o es ep,h.get? a=some o/\o.ExactDict/\o.data = .dict es ep/\es.toList=xs.map (entryOfKey (tupleKind (zil P w)))/\(xs.map (·.1)).Nodup
 | .set S n=>h.SetOf (intKind P w) a S n
 | .ins C dx fs=>H dx=some (.own a)/\fs.length<=1000/\dx≠a/\h.get? a=some (PySem.W.instObj C dx) ∧
   ∃ mA,h.Ns1 dx mA/\(∀ f,RelO (fs.lookup f) (mA f))/\PySem.Within mA (fs.map (·.1))
 | .own _=>∃ o,h.get? a=some o
 | .xd fs=>∃ mA,h.Ns1 a mA/\∀ f,RelO (fs.lookup f) (mA f)
 | .rng lo hi=>∃ t u v,h.get? a=some { cls:=.type "range",data:=.fields #[.int lo t,.int hi u,.int 1 v] }
 | .frz o u=>h.get? a=some o/\ObjOk H h a u
 | .tbl ps=>h.get? a=some { cls:=.none,data:=.fields ps }
 | .met f x=>h.get? a=some (PySem.W.methodObj (.ref f) (.ref x))
 | .ext φ=>φ h/\(∃ o,h.get? a=some o)/\∀ h1 h2:Heap,φ h1->(∀ o,h1.get? a=some o->h2.get? a=some o)->φ h2
def HOk (H:Hp)(h:Heap):Prop:=∀ a o,H a=some o->ObjOk P w H h a o
end
section
variable  {P:Program}{w:World}{H H':Hp}{h h':Heap}{a:Addr}{o:HO}
theorem ObjOk.lt (x:ObjOk P w H h a o):a<h.objs.size:=by
 cases o with
 | lst xs=>obtain⟨_,_,_,_,e⟩:=x;exact Heap.lt_size e
 | tup xs=>obtain⟨_,_,_,p⟩:=x;exact p.lt
 | dK kvs=>obtain⟨_,_,_,_,o,_,_,e,_⟩:=x;exact Heap.lt_size e
 | dT kvs=>obtain⟨_,_,_,_,o,_,_,e,_⟩:=x;exact Heap.lt_size e
 | set S n=>obtain⟨o,_,_,_,e,_⟩:=x;exact Heap.lt_size e
 | ins C dx fs=>obtain⟨_,_,_,e,_⟩:=x;exact Heap.lt_size e
 | own y=>obtain⟨_,e⟩:=x;exact Heap.lt_size e
 | xd fs=>obtain⟨_,⟨_,_,_,e,_⟩,_⟩:=x;exact Heap.lt_size e
 | rng lo hi=>obtain⟨_,_,_,e⟩:=x;exact Heap.lt_size e
 | frz ob u=>obtain⟨e,_⟩:=x;exact Heap.lt_size e
 | tbl ps=>exact Heap.lt_size (show h.get? a=some _ from x)
 | met f y=>exact Heap.lt_size (show h.get? a=some _ from x)
 | ext φ=>obtain⟨_,⟨_,e⟩,_⟩:=x;exact Heap.lt_size e
theorem Paired.mapP {α β:Type}{F G : α->β->Prop}:∀ {l₁ : List α} {l₂ : List β},Paired F l₁ l₂->(∀ a b,F a b->G a b)->Paired G l₁ l₂
 | _,_,.nil,_=>.nil
 | _,_,.cons r t,f=>.cons (f _ _ r) (Paired.mapP t f)
theorem ObjOk.stay (x:ObjOk P w H h a o)(k:∀ b u,(b=a ∨ H b=some (.own a))->h.get? b=some u->h'.get? b=some u)
  (ho:∀ b,H b=some (.own a)->H' b=some (.own a)) (ht:∀ b xs,H b=some (.tup xs)->H' b=some (.tup xs)):ObjOk P w H' h' a o:=by
 induction o with
 | lst xs=>obtain⟨z,its,n,r,e⟩:=x;exact⟨z,its,n,r,k _ _ (.inl rfl) e⟩
 | tup xs=>obtain⟨z,its,r,ob,e,c⟩:=x;exact⟨z,its,r,ob,k _ _ (.inl rfl) e,c⟩
 | dK kvs=>obtain⟨z,y,vs,r,ob,es,ep,e,c⟩:=x;exact⟨z,y,vs,r,ob,es,ep,k _ _ (.inl rfl) e,c⟩
 | dT kvs=>
  obtain⟨z,y,xs,r,ob,es,ep,e,c⟩:=x
  exact⟨z,y,xs,Paired.mapP r fun p q z=>⟨z.1,ht _ _ z.2.1,z.2.2⟩,ob,es,ep,k _ _ (.inl rfl) e,c⟩
 | set S n=>obtain⟨ob,es,ep,t,e,c⟩:=x;exact⟨ob,es,ep,t,k _ _ (.inl rfl) e,c⟩
 | ins C dx fs=>
  obtain⟨d,z,ne,e,mA,⟨od,es,ep,e2,c⟩,r⟩:=x
  exact⟨ho _ d,z,ne,k _ _ (.inl rfl) e,mA,⟨od,es,ep,k _ _ (.inr d) e2,c⟩,r⟩
 | own y=>obtain⟨ob,e⟩:=x;exact⟨ob,k _ _ (.inl rfl) e⟩
 | xd fs=>obtain⟨mA,⟨od,es,ep,e,c⟩,r⟩:=x;exact⟨mA,⟨od,es,ep,k _ _ (.inl rfl) e,c⟩,r⟩
 | rng lo hi=>obtain⟨t,u,v,e⟩:=x;exact⟨t,u,v,k _ _ (.inl rfl) e⟩
 | frz ob u ih=>obtain⟨e,q⟩:=x;exact⟨k _ _ (.inl rfl) e,ih q⟩
 | tbl ps=>
  have e:h.get? a=some { cls:=.none,data:=.fields ps }:=x
  show h'.get? a=some { cls:=.none,data:=.fields ps }
  exact k a _ (.inl rfl) e
 | met f y=>
  have e:h.get? a=some (PySem.W.methodObj (.ref f) (.ref y)):=x
  show h'.get? a=some (PySem.W.methodObj (.ref f) (.ref y))
  exact k a _ (.inl rfl) e
 | ext φ=>obtain⟨p,⟨o,e⟩,st⟩:=x;exact⟨st _ _ p fun o q=>k _ _ (.inl rfl) q,⟨o,k _ _ (.inl rfl) e⟩,st⟩
theorem HOk.lt (x:HOk P w H h)(e:H a=some o):a<h.objs.size:=(x a o e).lt
theorem HOk.fresh (x:HOk P w H h)(e:h.objs.size<=a):H a=none:=by
 cases q:H a with
 | none=>rfl
 | some u=>exact absurd (Nat.lt_of_lt_of_le (x.lt q) e) (Nat.lt_irrefl _)
theorem HOk.kept (x:HOk P w H h)(k:∀ b u,h.get? b=some u->h'.get? b=some u):HOk P w H h':=fun a o e=>
 (x a o e).stay (fun b u _ q=>k b u q) (fun _ q=>q) fun _ _ q=>q
theorem HOk.laid (x:HOk P w H h)(k:∀ b u,h.get? b=some u->h'.get? b=some u)(hp:h.objs.size<=a)(new:ObjOk P w (upd H a o) h' a o):HOk P w (upd H a o) h':=fun b u e=>by
 have hn:=x.fresh hp
 by_cases hb:b=a
 ·subst hb;rw [zga] at e;cases e;exact new
 ·rw [upd_ne hb] at e
  exact (x b u e).stay (fun c v _ q=>k c v q) (fun c q=>by rw [upd_ne (zpa q hn)];exact q) fun c xs q=>by rw [upd_ne (zpa q hn)];exact q
end
def Rd (H:Hp)(a:Addr)(u:HO):Prop:=H a=some u ∨ ∃ o,H a=some (.frz o u)
theorem Rd.ok {P:Program}{w:World}{H:Hp}{h:Heap}{a:Addr}{u:HO}(r:Rd H a u)(x:HOk P w H h):ObjOk P w H h a u:=by
 rcases r with r | ⟨o,r⟩
 ·exact x a u r
 ·obtain⟨_,q⟩:=x a _ r
  exact q
def Mut:Option HO->Prop
 | some (.lst _)=>True
 | some (.dK _)=>True
 | some (.dT _)=>True
 | some (.set _ _)=>True
 | some (.ins _ _ _)=>True
 | some (.ext _)=>True
 | _=>False
section
variable  {P:Program}{w:World}{H:Hp}{h h':Heap}{x e:Addr}{o':HO}
theorem HOk.write (ok:HOk P w H h)(mu:Mut (H x))(he:e=x ∨ H e=some (.own x))(k:∀ b u,b≠e->h.get? b=some u->h'.get? b=some u)(heo:∃ u,h'.get? e=some u)
  (new:ObjOk P w (upd H x o') h' x o'):HOk P w (upd H x o') h':=fun b u q=>by
 have nown:∀ c y,H c=some (.own y)->c≠x:=fun c y r z=>by subst z;rw [r] at mu;exact mu
 have ntup:∀ c xs,H c=some (.tup xs)->c≠x:=fun c xs r z=>by subst z;rw [r] at mu;exact mu
 by_cases hb:b=x
 ·subst hb;rw [zga] at q;cases q;exact new
 ·rw [upd_ne hb] at q
  by_cases hbe:b=e
  ·have q':H b=some (.own x):=by
    rcases he with z | z
    ·exact absurd (hbe.trans z) hb
    ·rw [hbe];exact z
   rw [q] at q';cases q'
   obtain⟨v,hv⟩:=heo
   exact⟨v,by rw [hbe];exact hv⟩
  ·refine (ok b u q).stay (fun c v hc r=>k c v ?_ r) (fun c r=>by rw [upd_ne (nown c b r)];exact r) fun c xs r=>by rw [upd_ne (ntup c xs r)];exact r
   rcases hc with rfl | hc
   ·exact hbe
   ·rintro rfl
    rcases he with z | z
    ·exact nown c b hc z
    ·rw [hc] at z;cases z;exact hb rfl
end
structure Un (fs ex:List Addr)(H H':Hp)(h h':Heap):Prop where
 keep:∀ b o,h.get? b=some o->H b=none->b ∉ fs->b ∉ ex->h'.get? b=some o
 slot:∀ b o,h.get? b=some o->H b=none->b∈fs->b ∉ ex->∃ sl,h'.get? b=some { o with slots:=sl }
 free:∀ b o,h.get? b=some o->H b=none->b ∉ ex->H' b=none
 there:∀ b o,h.get? b=some o->b ∉ ex->∃ o',h'.get? b=some o'
 tups:∀ b xs,H b=some (.tup xs)->H' b=some (.tup xs)
 frzs:∀ b o u,H b=some (.frz o u)->H' b=some (.frz o u)
 tbls:∀ b ps,H b=some (.tbl ps)->∃ more,H' b=some (.tbl (ps++more))
section
variable  {fs fs' ex ex':List Addr}{H H1 H2:Hp}{h h1 h2 h':Heap}{a x e:Addr}{o:HO}
theorem Un.any (u:Un fs ex H H1 h h1){b:Addr}{ob:Obj}(q:h.get? b=some ob)(n:H b=none)(hx:b ∉ ex):∃ sl,h1.get? b=some { ob with slots:=sl }:=by
 by_cases hb:b∈fs
 ·exact u.slot b ob q n hb hx
 ·exact⟨ob.slots,u.keep b ob q n hb hx⟩
theorem Un.kept (k:∀ b u,h.get? b=some u->h'.get? b=some u):Un fs ex H H h h':=
 ⟨fun b ob q _ _ _=>k b ob q,fun b ob q _ _ _=>⟨ob.slots,k b ob q⟩,fun _ _ _ n _=>n,fun b ob q _=>⟨ob,k b ob q⟩,fun _ _ q=>q,fun _ _ _ q=>q,fun _ ps q=>⟨#[],by rw [q];simp⟩⟩
theorem Un.refl:Un fs ex H H h h:=Un.kept fun _ _ q=>q
theorem Un.laid (k:∀ b u,h.get? b=some u->h'.get? b=some u)(hp:h.objs.size<=a)(hn:H a=none):Un fs ex H (upd H a o) h h' where
 keep:=fun b u q _ _ _=>k b u q
 slot:=fun b u q _ _ _=>⟨u.slots,k b u q⟩
 free:=fun b u q n _=>by rw [upd_ne (Nat.ne_of_lt (Nat.lt_of_lt_of_le (Heap.lt_size q) hp))];exact n
 there:=fun b u q _=>⟨u,k b u q⟩
 tups:=fun b xs q=>by rw [upd_ne (zpa q hn)];exact q
 frzs:=fun b u xs q=>by rw [upd_ne (zpa q hn)];exact q
 tbls:=fun b ps q=>⟨#[],by rw [upd_ne (zpa q hn),q];simp⟩
theorem Un.write (mu:Mut (H x))(he:e=x ∨ H e=some (.own x))(k:∀ b u,b≠e->h.get? b=some u->h'.get? b=some u)(heo:∃ u,h'.get? e=some u):Un fs ex H (upd H x o) h h':=by
 have hx:∀ b,H b=none->b≠x:=fun b n z=>by subst z;rw [n] at mu;exact mu
 have hb:∀ b,H b=none->b≠e:=fun b n z=>by
  subst z
  rcases he with r | r
  ·exact hx b n r
  ·rw [n] at r;cases r
 have hm:∀ b u,H b=some u->¬ Mut (some u)->b≠x:=fun b u q nm z=>by subst z;rw [q] at mu;exact nm mu
 refine⟨fun b u q n _ _=>k b u (hb b n) q,fun b u q n _ _=>⟨u.slots,k b u (hb b n) q⟩,fun b u q n _=>by rw [upd_ne (hx b n)];exact n,fun b u q _=>?_,
  fun b xs q=>by rw [upd_ne (hm b _ q fun z=>z)];exact q,fun b u xs q=>by rw [upd_ne (hm b _ q fun z=>z)];exact q,fun b ps q=>⟨#[],by rw [upd_ne (hm b _ q fun z=>z),q];simp⟩⟩
 by_cases hbe:b=e
 ·subst hbe;exact heo
 ·exact⟨u,k b u hbe q⟩
end
noncomputable def trk (h:Heap) (H:Hp):List Addr:=(List.range h.objs.size).filter fun a=>(H a).isSome
noncomputable def hidT (h:Heap) (H:Hp):Heap:=PySem.W.hideAll h (trk h H)
theorem hidT_size (h:Heap)(H:Hp):(hidT h H).objs.size=h.objs.size:=PySem.W.hideAll_size _ _
theorem hidT_get {h:Heap}{H:Hp}{b:Addr}{o:Obj}(e:h.get? b=some o)(n:H b=none):(hidT h H).get? b=some o:=
 PySem.W.hideAll_get _ e fun hm=>by
  have q:(H b).isSome=true:=(List.mem_filter.mp hm).2
  rw [n] at q;simp at q
theorem of_hidT {h:Heap}{H:Hp}{b:Addr}{o:Obj}(e:(hidT h H).get? b=some o):h.get? b=some o/\H b=none:=by
 have e':h.get? b=some o:=PySem.W.of_hideAll (trk h H) e
 refine⟨e',?_⟩
 cases q:H b with
 | none=>rfl
 | some x=>
  have hm:b∈trk h H:=List.mem_filter.mpr ⟨List.mem_range.mpr (Heap.lt_size e'),by simp [q]⟩
  have z:(hidT h H).get? b=none:=PySem.W.hideAll_none (trk h H) hm
  rw [z] at e;cases e
noncomputable def allNews (g h:Heap) (L:Addr):List (Addr×Obj):=(List.range h.objs.size).filterMap fun a=>if a=L ∨ (g.get? a).isSome=true then none else (h.get? a).map fun o=>(a,o)
noncomputable def rest (g h:Heap) (L d:Addr):List (Addr×Obj):=(allNews g h L).filter fun p=>decide (p.1≠d)
structure Mod (K:yF)(mg:Str->Option Value)(base:Heap):Prop where
 kin:K.In base
 glob:base.Ns mainGlobals mg
 blt:∃ mb,base.Ns builtinsNs mb/\∀ x:Str,x ≠ "__name__" → mb x=bootBuiltins x
 nolimit:base.NoLimit
structure Cx where
 prog:Program
 w:World
 K:yF
 mg:Str->Option Value
 base:Heap
 A:Around
 N:List Str
 s₀ : Shared
 H₀ : Hp
 env:Env
 outer:List Env
 stack:List Env
 ex:List Addr
 fn:Str->Bool
 calm:Bool
 pn:List (Addr×Obj)
 xe:Value->Shared->Prop
def frs (l:List Env):List Addr:=l.filterMap (·.frame)
noncomputable abbrev Cx.fs (X:Cx):List Addr:=frs X.outer
def Vis (sc:Scope)(x:Str):Prop:=sc.names.lookup x=some .local ∨ sc.names.lookup x=some .cell ∨ sc.names.lookup x=some .free
def Loc (sc:Scope)(x:Str):Prop:=sc.names.lookup x=some .local ∨ sc.names.lookup x=some .cell
def Look (env:Env)(h:Heap)(m:Str->Option Value)(x:Str)(u:Value):Prop:=
 (env.kindOf x=some .local/\m x=some u) ∨ ((env.kindOf x=some .cell ∨ env.kindOf x=some .free)/\∃ c,env.cells.lookup x=some c/\h.IsCell c (some u))
structure Cx.Ok (X:Cx):Prop where
 mod:Mod X.K X.mg X.base
 kind:X.env.scope.kind = .function
 glob:X.env.globals=mainGlobals
 blt:X.env.builtins=builtinsNs
 above:X.s₀.heap.objs.size<=X.env.locals
 inj:∀ x y c,X.env.cells.lookup x=some c->X.env.cells.lookup y=some c->x=y
 has:∀ x,(X.env.kindOf x=some .cell ∨ X.env.kindOf x=some .free)->∃ c,X.env.cells.lookup x=some c
 cab:∀ x c,X.fn x=true->X.env.cells.lookup x=some c->X.s₀.heap.objs.size<=c
 hd:X.calm=true->X.A.handled=none
 frames:X.A.frames=some X.stack
 stk:X.stack=X.outer ∨ (X.stack=X.env::X.outer/\X.env.frame=some X.env.locals)
 exf:∀ b∈X.ex,b≠X.env.locals/\∀ x c,X.env.cells.lookup x=some c->c≠b
 bs:∀ b o,X.base.get? b=some o->X.s₀.heap.get? b=some o/\X.H₀ b=none
 bsz:X.base.objs.size<=X.s₀.heap.objs.size
 noex:∀ b o,X.base.get? b=some o->b ∉ X.ex
 exfs:∀ b∈X.ex,b ∉ X.fs
 funs:X.s₀.heap.FunFrames X.base X.outer
 frf:∀ b∈X.fs,X.H₀ b=none
structure Inv (X:Cx)(pins:List (Addr×Obj))(σ:List (Option V))(H:Hp)(s:Shared):Prop where
 ok:X.Ok
 os:s.os=X.s₀.os
 bare:AllBare s.gens
 base:Un X.fs X.ex X.H₀ H X.s₀.heap s.heap
 loc:∃ m,s.heap.Ns X.env.locals m/\∀ (i:Nat) (x:Str) (v:V),X.N[i]?=some x->σ[i]?=some (some v)->Vis X.env.scope x->∃ u,RelV v u/\Look X.env s.heap m x u
 cell:∀ x c,X.env.cells.lookup x=some c->∃ v,s.heap.IsCell c v
 free:H X.env.locals=none
 freeC:∀ x c,X.env.cells.lookup x=some c->H c=none
 pin:∀ p∈X.pn++pins,s.heap.get? p.1=some p.2/\H p.1=none/\p.1≠X.env.locals/\p.1 ∉ X.fs/\∀ v,p.2.data ≠ .cell v
 hok:HOk X.prog X.w H s.heap
 len : σ.length=X.N.length
section
variable  {X:Cx}{pins:List (Addr×Obj)}{σ:List (Option V)}{H H':Hp}{s:Shared}{h':Heap}
theorem Cx.Ok.nofr (ok:X.Ok){b:Addr}{o:Obj}(e:X.base.get? b=some o):b ∉ X.fs:=fun hb=>by
 have:=(ok.funs.mem hb).1
 rw [e] at this;cases this
theorem Inv.bs (I:Inv X pins σ H s):∀ b o,X.base.get? b=some o->s.heap.get? b=some o/\H b=none:=fun b o e=>
 ⟨I.base.keep b o (I.ok.bs b o e).1 (I.ok.bs b o e).2 (I.ok.nofr e) (I.ok.noex b o e),I.base.free b o (I.ok.bs b o e).1 (I.ok.bs b o e).2 (I.ok.noex b o e)⟩
theorem Inv.bk (I:Inv X pins σ H s):∀ b o,X.base.get? b=some o->s.heap.get? b=some o:=fun b o e=>(I.bs b o e).1
theorem Inv.mod (I:Inv X pins σ H s):Mod X.K X.mg X.base:=I.ok.mod
theorem Inv.kIn (I:Inv X pins σ H s):X.K.In s.heap:=I.ok.mod.kin.keeps I.bk
theorem Inv.fr (I:Inv X pins σ H s):∃ m,Fr X.base X.env.locals s.heap m:=
 let ⟨m,hn,_⟩:=I.loc
 ⟨m,hn,I.bk,Nat.le_trans I.ok.bsz I.ok.above⟩
theorem Inv.lt (I:Inv X pins σ H s):X.env.locals<s.heap.objs.size:=let ⟨_,hn,_⟩:=I.loc;hn.lt
theorem Inv.sz (I:Inv X pins σ H s):X.s₀.heap.objs.size<=s.heap.objs.size:=Nat.le_trans I.ok.above (Nat.le_of_lt I.lt)
theorem Inv.nofs (I:Inv X pins σ H s){a:Addr}(h:s.heap.objs.size<=a):a ∉ X.fs:=fun hb=>by
 obtain⟨_,o,ho,_⟩:=I.ok.funs.mem hb
 exact absurd (Nat.lt_of_lt_of_le (Heap.lt_size ho) (Nat.le_trans I.sz h)) (Nat.lt_irrefl _)
theorem Inv.cne (I:Inv X pins σ H s):∀ x c,X.env.cells.lookup x=some c->c≠X.env.locals:=fun x c e z=>by
 obtain⟨v,o,ho,hd⟩:=I.cell x c e
 obtain⟨m,⟨o',es,ep,ho',hd',_⟩,_⟩:=I.loc
 rw [z,ho'] at ho;cases ho;rw [hd'] at hd;cases hd
theorem Inv.funs (I:Inv X pins σ H s):s.heap.FunFrames X.base X.outer:=by
 have all:∀ (l:List Env),(∀ b∈frs l,b∈X.fs)->X.s₀.heap.FunFrames X.base l->s.heap.FunFrames X.base l:=by
  intro l
  induction l with
  | nil=>intro _ _;trivial
  | cons env r ih=>
   intro hs hl
   obtain⟨hk,⟨L,o,hf,hn,ho,hd⟩,hr⟩:=hl
   have hL:L∈X.fs:=hs L (by unfold frs;rw [List.filterMap_cons,hf];exact ymS)
   obtain⟨sl,e⟩:=I.base.slot L o ho (I.ok.frf L hL) hL fun z=>I.ok.exfs L z hL
   exact⟨hk,⟨L,_,hf,hn,e,hd⟩,ih (fun b hb=>hs b (by unfold frs;rw [List.filterMap_cons,hf];exact ymC _ hb)) hr⟩
 exact all X.outer (fun _ hb=>hb) I.ok.funs
theorem Inv.stack (I:Inv X pins σ H s):s.heap.FunFrames X.base X.stack:=by
 rcases I.ok.stk with e | ⟨e,hf⟩
 ·rw [e];exact I.funs
 ·rw [e]
  obtain⟨m,hn,_⟩:=I.loc
  refine .cons (by rw [I.ok.kind];decide) hf hn ?_ I.funs
  exact Heap.get?_none_of_le (Nat.le_trans I.ok.bsz I.ok.above)
theorem Inv.stkSub (I:Inv X pins σ H s):∀ b∈frs X.stack,b∈X.env.locals::X.fs:=fun b hb=>by
 rcases I.ok.stk with e | ⟨e,hf⟩
 ·rw [e] at hb;exact ymC _ hb
 ·rw [e] at hb
  unfold frs at hb
  rw [List.filterMap_cons,hf] at hb
  exact hb
theorem Inv.stkFree (I:Inv X pins σ H s):∀ b∈frs X.stack,H b=none:=fun b hb=>by
 rcases ycM (I.stkSub b hb) with e | hb
 ·rw [e];exact I.free
 ·obtain⟨_,o,ho,_⟩:=I.ok.funs.mem hb
  exact I.base.free b o ho (I.ok.frf b hb) fun z=>I.ok.exfs b z hb
theorem Inv.step {g':Array GenState}{t':Nat}{d':Drawn}{ch:List Addr}(I:Inv X pins σ H s)
  (hch:∀ b∈ch,(b∈X.ex ∨ X.s₀.heap.objs.size<=b)/\b≠X.env.locals/\(∀ x c,X.env.cells.lookup x=some c->c≠b)/\∀ p∈X.pn++pins,p.1≠b)
  (keep:∀ b o,b≠X.env.locals->b ∉ X.fs->b ∉ ch->s.heap.get? b=some o->H b=none->h'.get? b=some o)
  (slot:∀ b o,b≠X.env.locals->b∈X.fs->b ∉ ch->s.heap.get? b=some o->H b=none->∃ sl,h'.get? b=some { o with slots:=sl }) (free:∀ b o,b ∉ ch->s.heap.get? b=some o->H b=none->H' b=none)
  (there:∀ b o,b ∉ ch->s.heap.get? b=some o->∃ o',h'.get? b=some o')
  (tups:∀ b xs,H b=some (.tup xs)->H' b=some (.tup xs)) (frzs:∀ b o u,H b=some (.frz o u)->H' b=some (.frz o u)) (tbls:∀ b ps,H b=some (.tbl ps)->∃ more,H' b=some (.tbl (ps++more)))
  (ns:∀ m,s.heap.Ns X.env.locals m->h'.Ns X.env.locals m) (hok:HOk X.prog X.w H' h') (hg:AllBare g') :
  Inv X pins σ H' { s with heap:=h',gens:=g',drawn:=d',toks:=t' }:=by
 have neL:∀ b o,X.s₀.heap.get? b=some o->b≠X.env.locals:=fun b o e=>Nat.ne_of_lt (Nat.lt_of_lt_of_le (Heap.lt_size e) I.ok.above)
 have neC:∀ b o,X.s₀.heap.get? b=some o->b ∉ X.ex->b ∉ ch:=fun b o e hx hb=>by
  rcases (hch b hb).1 with z | z
  ·exact hx z
  ·exact absurd (Nat.lt_of_lt_of_le (Heap.lt_size e) z) (Nat.lt_irrefl _)
 have cellK:∀ x c,X.env.cells.lookup x=some c->∀ v,s.heap.IsCell c v->h'.IsCell c v:=fun x c e v ⟨o,ho,hd⟩=>by
  have nch:c ∉ ch:=fun z=>(hch c z).2.2.1 x c e rfl
  by_cases hc:c∈X.fs
  ·obtain⟨sl,q⟩:=slot c o (I.cne x c e) hc nch ho (I.freeC x c e)
   exact⟨_,q,hd⟩
  ·exact⟨o,keep c o (I.cne x c e) hc nch ho (I.freeC x c e),hd⟩
 refine⟨I.ok,I.os,hg,⟨fun b o e n hb hx=>?_,fun b o e n hb hx=>?_,fun b o e n hx=>?_,fun b o e hx=>?_,fun b xs e=>tups b xs (I.base.tups b xs e),fun b o xs e=>frzs b o xs (I.base.frzs b o xs e),fun b ps e=>?_⟩,?_,fun x c e=>?_,?_,fun x c e=>?_,fun p hp=>?_,hok,I.len⟩
 ·exact keep b o (neL b o e) hb (neC b o e hx) (I.base.keep b o e n hb hx) (I.base.free b o e n hx)
 ·obtain⟨sl,e1⟩:=I.base.slot b o e n hb hx
  obtain⟨sl',e2⟩:=slot b _ (neL b o e) hb (neC b o e hx) e1 (I.base.free b o e n hx)
  exact⟨sl',e2⟩
 ·obtain⟨o',e1⟩:=I.base.there b o e hx
  exact free b o' (neC b o e hx) e1 (I.base.free b o e n hx)
 ·obtain⟨o',e1⟩:=I.base.there b o e hx
  exact there b o' (neC b o e hx) e1
 ·obtain⟨m1,e1⟩:=I.base.tbls b ps e
  obtain⟨m2,e2⟩:=tbls b _ e1
  exact⟨m1++m2,by rw [e2,Array.append_assoc]⟩
 ·obtain⟨m,hn,hl⟩:=I.loc
  refine⟨m,ns m hn,fun i x v e1 e2 e3=>?_⟩
  obtain⟨u,r,l⟩:=hl i x v e1 e2 e3
  refine⟨u,r,?_⟩
  rcases l with l | ⟨k,c,e,z⟩
  ·exact .inl l
  ·exact .inr ⟨k,c,e,cellK x c e _ z⟩
 ·obtain⟨v,z⟩:=I.cell x c e
  exact⟨v,cellK x c e v z⟩
 ·obtain⟨m,⟨o,_,_,ho,_⟩,_⟩:=I.loc
  exact free _ o (fun z=>(hch _ z).2.1 rfl) ho I.free
 ·obtain⟨v,o,ho,hd⟩:=I.cell x c e
  exact free c o (fun z=>(hch c z).2.2.1 x c e rfl) ho (I.freeC x c e)
 ·obtain⟨e,n,ne,nf,d⟩:=I.pin p hp
  have nch:p.1 ∉ ch:=fun z=>(hch p.1 z).2.2.2 p hp rfl
  exact⟨keep p.1 p.2 ne nf nch e n,free p.1 p.2 nch e n,ne,nf,d⟩
theorem Inv.un {t':Nat}(I:Inv X pins σ H s)(u:Un X.fs [] H H' s.heap h')(hok:HOk X.prog X.w H' h'):Inv X pins σ H' { s with heap:=h',toks:=t' }:=by
 obtain⟨m,⟨o,es,ep,ho,r⟩,_⟩:=id I.loc
 obtain⟨sl,hL⟩:=u.any ho I.free (by simp)
 exact I.step (g':=s.gens) (d':=s.drawn) (ch:=[]) (fun _ z=>nomatch z) (fun b o _ hb _ e n=>u.keep b o e n hb (by simp)) (fun b o _ hb _ e n=>u.slot b o e n hb (by simp)) (fun b o _ e n=>u.free b o e n (by simp)) (fun b o _ e=>u.there b o e (by simp)) u.tups u.frzs u.tbls (fun m' hm=>by
  obtain⟨o',es',ep',ho',r'⟩:=hm
  rw [ho] at ho';cases ho'
  exact⟨_,es',ep',hL,r'⟩) hok I.bare
theorem Inv.call {g':Array GenState}{t':Nat}{d':Drawn}{ch:List Addr}(I:Inv X pins σ H s)(u:Un (frs X.stack) ch H H' s.heap h')(hok:HOk X.prog X.w H' h')(hg:AllBare g')
  (hch:∀ b∈ch,(b∈X.ex ∨ X.s₀.heap.objs.size<=b)/\b≠X.env.locals/\(∀ x c,X.env.cells.lookup x=some c->c≠b)/\∀ p∈X.pn++pins,p.1≠b) :
  Inv X pins σ H' { s with heap:=h',gens:=g',drawn:=d',toks:=t' }:=by
 obtain⟨m,⟨o,es,ep,ho,r⟩,_⟩:=id I.loc
 obtain⟨sl,hL⟩:=u.any ho I.free fun z=>(hch _ z).2.1 rfl
 exact I.step (ch:=ch) hch (fun b o hL hb hc e n=>u.keep b o e n (fun z=>(ycM (I.stkSub b z)).elim hL hb) hc) (fun b o _ _ hc e n=>u.any e n hc) (fun b o hc e n=>u.free b o e n hc) (fun b o hc e=>u.there b o e hc) u.tups u.frzs u.tbls (fun m' hm=>by
  obtain⟨o',es',ep',ho',r'⟩:=hm
  rw [ho] at ho';cases ho'
  exact⟨_,es',ep',hL,r'⟩) hok hg
theorem Inv.turned {t':Nat}{it:Addr}(I:Inv X pins σ H s)(k:∀ b o,b≠it->s.heap.get? b=some o->h'.get? b=some o)(hn:H it=none)(hL:it≠X.env.locals)
  (h1:it∈X.ex ∨ X.s₀.heap.objs.size<=it) (h2:∀ x c,X.env.cells.lookup x=some c->c≠it) (h3:∀ p∈X.pn++pins,p.1≠it):Inv X pins σ H { s with heap:=h',toks:=t' }:=by
 have nit:∀ b u,H b=some u->b≠it:=fun b u e z=>by rw [z,hn] at e;cases e
 refine I.step (g':=s.gens) (d':=s.drawn) (ch:=[it]) (fun b hb=>?_) (fun b o _ _ hc e _=>k b o (fun z=>hc (by simp [z])) e) (fun b o _ _ hc e _=>⟨o.slots,k b o (fun z=>hc (by simp [z])) e⟩) (fun _ _ _ _ n=>n)
  (fun b o hc e=>⟨o,k b o (fun z=>hc (by simp [z])) e⟩) (fun _ _ e=>e) (fun _ _ _ e=>e) (fun b ps e=>⟨#[],by rw [e];simp⟩) (fun m hm=>?_) (fun b u e=>?_) I.bare
 ·have e:b=it:=by simpa using hb
  subst e
  exact⟨h1,hL,h2,h3⟩
 ·obtain⟨o,es,ep,ho,r⟩:=hm
  exact⟨o,es,ep,k _ o (Ne.symm hL) ho,r⟩
 ·refine (I.hok b u e).stay (fun c v hc q=>k c v ?_ q) (fun _ q=>q) fun _ _ q=>q
  rcases hc with z | z
  ·rw [z];exact nit b u e
  ·exact nit c _ z
theorem Inv.tok (I:Inv X pins σ H s)(t:Nat):Inv X pins σ H { s with toks:=t }:=I.un (h':=s.heap) (t':=t) Un.refl I.hok
theorem Inv.kept {t':Nat}(I:Inv X pins σ H s)(k:∀ b u,s.heap.get? b=some u->h'.get? b=some u):Inv X pins σ H { s with heap:=h',toks:=t' }:=I.un (Un.kept k) (I.hok.kept k)
theorem Inv.laid {a:Addr}{o:HO}{t':Nat}(I:Inv X pins σ H s)(k:∀ b u,s.heap.get? b=some u->h'.get? b=some u)(hp:s.heap.objs.size<=a)(new:ObjOk X.prog X.w (upd H a o) h' a o) :
  Inv X pins σ (upd H a o) { s with heap:=h',toks:=t' }:=I.un (Un.laid k hp (I.hok.fresh hp)) (I.hok.laid k hp new)
theorem Inv.write {x e:Addr}{o:HO}{t':Nat}(I:Inv X pins σ H s)(mu:Mut (H x))(he:e=x ∨ H e=some (.own x))(k:∀ b u,b≠e->s.heap.get? b=some u->h'.get? b=some u)(heo:∃ u,h'.get? e=some u)
  (new:ObjOk X.prog X.w (upd H x o) h' x o):Inv X pins σ (upd H x o) { s with heap:=h',toks:=t' }:=I.un (Un.write mu he k heo) (I.hok.write mu he k heo new)
theorem Inv.weak {σ':List (Option V)}(I:Inv X pins σ H s)(hl : σ'.length=σ.length)(w:∀ (i:Nat) v,σ'[i]?=some (some v)->σ[i]?=some (some v)):Inv X pins σ' H s:=
 ⟨I.ok,I.os,I.bare,I.base,let ⟨m,hn,hl'⟩:=I.loc;⟨m,hn,fun i x v e1 e2 e3=>hl' i x v e1 (w i v e2) e3⟩,I.cell,I.free,I.freeC,I.pin,I.hok,hl.trans I.len⟩
theorem Inv.pins_of {pins':List (Addr×Obj)}(I:Inv X pins σ H s)(h:∀ p∈pins',s.heap.get? p.1=some p.2/\H p.1=none/\p.1≠X.env.locals/\p.1 ∉ X.fs/\∀ v,p.2.data ≠ .cell v):Inv X pins' σ H s:=
 ⟨I.ok,I.os,I.bare,I.base,I.loc,I.cell,I.free,I.freeC,fun p hp=>(yaM hp).elim (fun z=>I.pin p (yaL _ z)) (h p),I.hok,I.len⟩
theorem nodup_ix {N:List Str}(hN:N.Nodup){i j:Nat}{x:Str}(a:N[i]?=some x)(b:N[j]?=some x):i=j:=by
 obtain⟨h1,e1⟩:=List.getElem?_eq_some_iff.mp a
 obtain⟨h2,e2⟩:=List.getElem?_eq_some_iff.mp b
 exact (List.getElem_inj hN).mp (e1.trans e2.symm)
theorem store_ok2 {M:Model}{A:Around}{E:Value->Shared->Prop}{i:Nat}{x:Str}{v:V}{u:Value}{Q:Unit->Shared->Prop}(I:Inv X pins σ H s)(hN:X.N.Nodup)(hi:X.N[i]?=some x)(hx:Loc X.env.scope x)(r:RelV v u)
  (h:∀ s',Inv X pins (σ.set i (some v)) H s'->(∃ a,Heap.SameBut a s.heap s'.heap/\(a=X.env.locals ∨ X.env.cells.lookup x=some a))->Q () s') (hf:X.fn x=true ∨ X.env.scope.names.lookup x=some .local:=by first | exact .inl rfl | exact .inr rfl | assumption):wpAny M A (storeName X.env x u) Q E s:=by
 obtain⟨m,hn,hl⟩:=id I.loc
 have hcls:(X.env.scope.kind == .class || (X.env.scope.kind == .module && X.env.locals != X.env.globals))=false:=by rw [I.ok.kind];rfl
 have hiσ:i < σ.length:=by rw [I.len];exact (List.getElem?_eq_some_iff.mp hi).1
 have cne:=I.cne
 have tracked:∀ {a:Addr} {h':Heap},(∃ o,s.heap.get? a=some o/\H a=none)->Heap.SameBut a s.heap h'->HOk X.prog X.w H h':=fun {a h'} ha hs b ob e=>by
  obtain⟨_,_,hfree⟩:=ha
  refine (I.hok b ob e).stay (fun c w' hc q=>(hs.2 c ?_).trans q) (fun _ q=>q) fun _ _ q=>q
  rintro rfl
  rcases hc with rfl | hc
  ·rw [hfree] at e;cases e
  ·rw [hfree] at hc;cases hc
 rcases hx with hk | hk
 ·refine wpAny_storeName_local hk hn (fun h' hn' hs=>?_) hcls
  obtain⟨oL,_,_,hoL,_⟩:=id hn
  refine h _ ⟨I.ok,I.os,I.bare,⟨fun b o e n hb hx=>?_,fun b o e n hb hx=>?_,I.base.free,fun b o e hx=>?_,I.base.tups,I.base.frzs,I.base.tbls⟩,⟨_,hn',fun j y v' e1 e2 e3=>?_⟩,fun y c e=>?_,I.free,I.freeC,fun p hp=>?_,tracked ⟨oL,hoL,I.free⟩ hs,by simpa using I.len⟩ ⟨_,hs,.inl rfl⟩
  ·exact (hs.2 b (Nat.ne_of_lt (Nat.lt_of_lt_of_le (Heap.lt_size e) I.ok.above))).trans (I.base.keep b o e n hb hx)
  ·obtain⟨sl,e1⟩:=I.base.slot b o e n hb hx
   exact⟨sl,(hs.2 b (Nat.ne_of_lt (Nat.lt_of_lt_of_le (Heap.lt_size e) I.ok.above))).trans e1⟩
  ·obtain⟨o',e1⟩:=I.base.there b o e hx
   exact⟨o',(hs.2 b (Nat.ne_of_lt (Nat.lt_of_lt_of_le (Heap.lt_size e) I.ok.above))).trans e1⟩
  ·by_cases hj:j=i
   ·subst hj
    rw [hi] at e1;cases e1
    rw [List.getElem?_set_self hiσ] at e2
    cases e2
    exact⟨u,r,.inl ⟨hk,by simp⟩⟩
   ·rw [List.getElem?_set_ne (Ne.symm hj)] at e2
    obtain⟨u',r',q⟩:=hl j y v' e1 e2 e3
    refine⟨u',r',?_⟩
    rcases q with⟨k,e⟩ | ⟨k,c,e,z⟩
    ·refine .inl ⟨k,?_⟩
     have:y≠x:=fun e=>hj (nodup_ix hN e1 (e ▸ hi))
     simp [this,e]
    ·exact .inr ⟨k,c,e,z.sameBut hs (cne y c e)⟩
  ·obtain⟨w',z⟩:=I.cell y c e
   exact⟨w',z.sameBut hs (cne y c e)⟩
  ·obtain⟨e,n,ne,nf,d⟩:=I.pin p hp
   exact⟨(hs.2 p.1 ne).trans e,n,ne,nf,d⟩
 ·have hfn:X.fn x=true:=by
   rcases hf with z | z
   ·exact z
   ·rw [z] at hk;cases hk
  obtain⟨c,hc⟩:=I.ok.has x (.inl hk)
  obtain⟨w',z⟩:=I.cell x c hc
  refine wpAny_storeName_cell I.ok.kind hk hc z (fun h' hc' hs=>?_)
  obtain⟨oc,hoc,hocd⟩:=id z
  refine h { s with heap:=h' } ⟨I.ok,I.os,I.bare,⟨fun b o e n hb hx=>?_,fun b o e n hb hx=>?_,I.base.free,fun b o e hx=>?_,I.base.tups,I.base.frzs,I.base.tbls⟩,⟨m,hn.sameBut hs (Ne.symm (cne x c hc)),fun j y v' e1 e2 e3=>?_⟩,fun y c' e=>?_,I.free,I.freeC,fun p hp=>?_,tracked ⟨oc,hoc,I.freeC x c hc⟩ hs,by simpa using I.len⟩ ⟨c,hs,.inr hc⟩
  ·exact (hs.2 b (Nat.ne_of_lt (Nat.lt_of_lt_of_le (Heap.lt_size e) (I.ok.cab x c hfn hc)))).trans (I.base.keep b o e n hb hx)
  ·obtain⟨sl,e1⟩:=I.base.slot b o e n hb hx
   exact⟨sl,(hs.2 b (Nat.ne_of_lt (Nat.lt_of_lt_of_le (Heap.lt_size e) (I.ok.cab x c hfn hc)))).trans e1⟩
  ·obtain⟨o',e1⟩:=I.base.there b o e hx
   exact⟨o',(hs.2 b (Nat.ne_of_lt (Nat.lt_of_lt_of_le (Heap.lt_size e) (I.ok.cab x c hfn hc)))).trans e1⟩
  ·by_cases hj:j=i
   ·subst hj
    rw [hi] at e1;cases e1
    rw [List.getElem?_set_self hiσ] at e2
    cases e2
    exact⟨u,r,.inr ⟨.inl hk,c,hc,hc'⟩⟩
   ·rw [List.getElem?_set_ne (Ne.symm hj)] at e2
    obtain⟨u',r',q⟩:=hl j y v' e1 e2 e3
    refine⟨u',r',?_⟩
    rcases q with q | ⟨k,c',e,z'⟩
    ·exact .inl q
    ·refine .inr ⟨k,c',e,z'.sameBut hs ?_⟩
     rintro rfl
     exact hj (nodup_ix hN e1 (I.ok.inj _ _ _ e hc ▸ hi))
  ·by_cases hcc:c'=c
   ·subst hcc;exact⟨_,hc'⟩
   ·obtain⟨w2,z2⟩:=I.cell y c' e
    exact⟨w2,z2.sameBut hs hcc⟩
  ·obtain⟨e,n,ne,nf,d⟩:=I.pin p hp
   refine⟨(hs.2 p.1 ?_).trans e,n,ne,nf,d⟩
   intro q
   rw [q,hoc] at e
   have q':oc=p.2:=Option.some.inj e
   exact d w' (by rw [← q'];exact hocd)
theorem zsh {M:Model}{A:Around}{E:Value->Shared->Prop}{i:Nat}{x:Str}{v:V}{u:Value}{Q:Unit->Shared->Prop}(I:Inv X pins σ H s)(hN:X.N.Nodup)(hi:X.N[i]?=some x)(hx:Loc X.env.scope x)(r:RelV v u)
  (h:∀ s',Inv X pins (σ.set i (some v)) H s'->Q () s') (hf:X.fn x=true ∨ X.env.scope.names.lookup x=some .local:=by first | exact .inl rfl | exact .inr rfl | assumption):wpAny M A (storeName X.env x u) Q E s:=
 store_ok2 I hN hi hx r (fun s' I' _=>h s' I') hf
theorem Inv.call' {s':Shared}{ch:List Addr}(I:Inv X pins σ H s)(ho:s'.os=s.os)(u:Un (frs X.stack) ch H H' s.heap s'.heap)(hok:HOk X.prog X.w H' s'.heap)(hg:AllBare s'.gens)
  (hch:∀ b∈ch,(b∈X.ex ∨ X.s₀.heap.objs.size<=b)/\b≠X.env.locals/\(∀ x c,X.env.cells.lookup x=some c->c≠b)/\∀ p∈X.pn++pins,p.1≠b):Inv X pins σ H' s':=by
 obtain⟨h',g',d',t',o'⟩:=s'
 have e:o'=s.os:=ho
 subst e
 exact I.call (g':=g') (t':=t') (d':=d') u hok hg hch
end
abbrev XK:=Value->Option Addr->Hp->Prop
abbrev St:=List (Option V)
abbrev VK:=V->Hp->Prop
abbrev TE:=St->Hp->VK->Prop
abbrev TT:=St->Hp->(Bool->Hp->Prop)->Prop
abbrev TA:=St->Hp->(List V->Hp->Prop)->Prop
structure Ends where
 nx:St->Hp->Prop
 rt:VK
 bk:St->Hp->Prop:=fun _ _=>False
 ct:St->Hp->Prop:=fun _ _=>False
abbrev TS:=Ends->St->Hp->Prop
def EP (X:Cx)(pins:List (Addr×Obj))(σ:St)(Q:VK)(u:Value)(s':Shared):Prop:=∃ v H',Inv X pins σ H' s'/\RelV v u/\Q v H'
def TP (X:Cx)(pins:List (Addr×Obj))(σ:St)(Q:Bool->Hp->Prop)(b:Bool)(s':Shared):Prop:=∃ H',Inv X pins σ H' s'/\Q b H'
def AP (X:Cx)(pins:List (Addr×Obj))(σ:St)(Q:List V->Hp->Prop)(us:List Value)(s':Shared):Prop:=∃ vs H',Inv X pins σ H' s'/\Vals vs us/\Q vs H'
def SP (X:Cx)(pins:List (Addr×Obj))(D:Ends)(f:Flow)(s':Shared):Prop:=
 match f with
 | .next=>∃ σ' H',Inv X pins σ' H' s'/\D.nx σ' H'
 | .brk=>∃ σ' H',Inv X pins σ' H' s'/\D.bk σ' H'
 | .cont=>∃ σ' H',Inv X pins σ' H' s'/\D.ct σ' H'
 | .ret u=>∃ v σ' H',Inv X pins σ' H' s'/\RelV v u/\D.rt v H'
def PE (X:Cx)(e:Expr)(t:TE):Prop:=
 ∀ (pins:List (Addr×Obj)) (s:Shared) (σ:St) (H:Hp) (Q:VK),Inv X pins σ H s->t σ H Q->wpAny (model X.prog X.w) X.A (eval e X.env) (EP X pins σ Q) X.xe s
def PT (X:Cx)(e:Expr)(t:TT):Prop:=
 ∀ (pins:List (Addr×Obj)) (s:Shared) (σ:St) (H:Hp) (Q:Bool->Hp->Prop),Inv X pins σ H s->t σ H Q->wpAny (model X.prog X.w) X.A (isTrue e X.env (eval e X.env)) (TP X pins σ Q) X.xe s
def PW (X:Cx)(e:Expr)(t:TT):Prop:=
 ∀ (whole:Sem Value) (pins:List (Addr×Obj)) (s:Shared) (σ:St) (H:Hp) (Q:Bool->Hp->Prop),Inv X pins σ H s->t σ H Q->wpAny (model X.prog X.w) X.A (isTrue e X.env whole) (TP X pins σ Q) X.xe s
theorem PW.pt {X:Cx}{e:Expr}{t:TT}(h:PW X e t):PT X e t:=h _
def PA (X:Cx)(es:List Expr)(t:TA):Prop:=
 ∀ (pos:Pos) (pins:List (Addr×Obj)) (s:Shared) (σ:St) (H:Hp) (Q:List V->Hp->Prop),Inv X pins σ H s->t σ H Q->wpAny (model X.prog X.w) X.A (spliced (backTo pos (starEach es X.env))) (AP X pins σ Q) X.xe s
def PS (X:Cx)(st:Stmt)(t:TS):Prop:=
 ∀ (pins:List (Addr×Obj)) (s:Shared) (σ:St) (H:Hp) (D:Ends),Inv X pins σ H s->t D σ H->wpAny (model X.prog X.w) X.A (exec st X.env) (SP X pins D) X.xe s
def PSs (X:Cx)(st:List Stmt)(t:TS):Prop:=
 ∀ (pins:List (Addr×Obj)) (s:Shared) (σ:St) (H:Hp) (D:Ends),Inv X pins σ H s->t D σ H->wpAny (model X.prog X.w) X.A (execs st X.env) (SP X pins D) X.xe s
theorem thn {α:Type}{t:Sem α}{Q Q' : α->Shared->Prop}{M:Model}{A:Around}{E:Value->Shared->Prop}{s:Shared}(h:wpAny M A t Q E s)(hQ:∀ a s,Q a s->Q' a s):wpAny M A t Q' E s:=wpAny_mono h hQ fun _ _ x=>x
section
variable  {X:Cx}
theorem bin {a b:Expr}{ta tb:TE}(ha:PE X a ta)(hb:PE X b tb){pins:List (Addr×Obj)}{s:Shared}{σ:St}{H:Hp}{R:V->V->Hp->Prop}(I:Inv X pins σ H s)(h:ta σ H fun x H1=>tb σ H1 fun y H2=>R x y H2)
  {α:Type} {Q : α->Shared->Prop} {f:Value->Value->Sem α}
  (hf:∀ v u s2 x y H2,Inv X pins σ H2 s2->RelV x v->RelV y u->R x y H2->wpAny (model X.prog X.w) X.A (f v u) Q X.xe s2) :
  wpAny (model X.prog X.w) X.A (eval a X.env) (fun v s₁=>wpAny (model X.prog X.w) X.A (eval b X.env) (fun u s₂=>wpAny (model X.prog X.w) X.A (f v u) Q X.xe s₂) X.xe s₁) X.xe s:=by
 refine thn (ha pins s σ H _ I h) fun v s1 ⟨x,H1,I1,r1,q1⟩=>?_
 refine thn (hb pins s1 σ H1 _ I1 q1) fun u s2 ⟨y,H2,I2,r2,q2⟩=>?_
 exact hf v u s2 x y H2 I2 r1 r2 q2
def tVar (i:Nat):TE:=fun σ H Q=>∃ v,σ[i]?=some (some v)/\Q v H
def tC (v:V):TE:=fun _ H Q=>Q v H
theorem pe_var {i:Nat}{x:Str}{pos:Pos}(hN:X.N[i]?=some x)(hv:Vis X.env.scope x)(hd:(x == ("__debug__" : Str))=false:=by decide)(hcd:(x == ("__classdict__" : Str))=false:=by decide):PE X (.Name x pos) (tVar i):=by
 intro pins s σ H Q I h
 obtain⟨v,e,h⟩:=h
 obtain⟨m,hn,hl⟩:=I.loc
 obtain⟨u,r,l⟩:=hl i x v hN e hv
 have fin:EP X pins σ Q u s:=⟨v,H,I,r,h⟩
 rcases l with⟨hk,hm⟩ | ⟨hk,c,hc,hcell⟩
 ·exact wpAny_Name (wpAny_loadName_local I.ok.kind hk hn hm fin) hd
 ·rcases hk with hk | hk
  ·exact wpAny_Name (wpAny_loadName_cell I.ok.kind hk hc hcell fin) hd
  ·exact wpAny_Name (wpAny_loadName_free I.ok.kind hk hc hcell fin hcd) hd
theorem pe_int {i j pos}:PE X (.Constant (.int i) j pos) (tC (.int i)):=fun _ _ _ H _ I h=>wpAny_Constant_int ⟨.int i,H,I.tok _,⟨_,rfl⟩,h⟩
theorem pe_bl {b j pos}:PE X (.Constant (.bool b) j pos) (tC (.bl b)):=fun _ _ _ H _ I h=>Constant_bool ⟨.bl b,H,I,rfl,h⟩
theorem pe_str {x j pos}:PE X (.Constant (.str x) j pos) (tC (.str x)):=fun _ _ _ H _ I h=>Calls.Constant_str ⟨.str x,H,I.tok _,⟨_,rfl⟩,h⟩
def Gl (X:Cx)(x:Str):Prop:=X.env.kindOf x=some .globalImplicit
theorem ld_glob {E:Value->Shared->Prop}{pins:List (Addr×Obj)}{s:Shared}{σ:St}{H:Hp}{x:Str}{u:Value}{pos:Pos}{Q:Value->Shared->Prop}(I:Inv X pins σ H s)(hg:Gl X x)(hm:X.mg x=some u)(h:Q u s)
  (hd:(x == ("__debug__" : Str))=false:=by decide):wpAny (model X.prog X.w) X.A (eval (.Name x pos) X.env) Q E s:=
 Calls.Name_function_global I.ok.kind hg (Calls.loadGlobal_global (by rw [I.ok.glob];exact I.mod.glob.keeps I.bk) hm h) hd
theorem znk {E:Value->Shared->Prop}{pins:List (Addr×Obj)}{s:Shared}{σ:St}{H:Hp}{x:Str}{u:Value}{pos:Pos}{Q:Value->Shared->Prop}(I:Inv X pins σ H s)(hg:Gl X x)(hm:X.mg x=none)(hv:bootBuiltins x=some u)(h:Q u s)
  (hn:x ≠ "__name__" :=by decide) (hd:(x == ("__debug__" : Str))=false:=by decide):wpAny (model X.prog X.w) X.A (eval (.Name x pos) X.env) Q E s:=by
 obtain⟨mb,h1,h2⟩:=I.mod.blt
 exact Calls.Name_function_global I.ok.kind hg (Calls.loadGlobal_builtin (by rw [I.ok.glob];exact I.mod.glob.keeps I.bk) hm (by rw [I.ok.blt];exact h1.keeps I.bk) ((h2 x hn).trans hv) h) hd
theorem pe_glob {x:Str}{v:V}{u:Value}{pos:Pos}(hg:Gl X x)(hm:X.mg x=some u)(r:RelV v u)(hd:(x == ("__debug__" : Str))=false:=by decide):PE X (.Name x pos) (tC v):=
 fun _ _ _ H _ I h=>ld_glob I hg hm ⟨v,H,I,r,h⟩ hd
variable  {a b:Expr}{ta tb:TE}{pos:Pos}
def PC (X:Cx)(op:CmpOp)(a b:Expr)(t:TE):Prop:=
 ∀ (pins:List (Addr×Obj)) (s:Shared) (σ:St) (H:Hp) (Q:VK),Inv X pins σ H s->t σ H Q →
  wpAny (model X.prog X.w) X.A (eval a X.env) (fun v s₁=>wpAny (model X.prog X.w) X.A (eval b X.env) (fun u s₂=>wpAny (model X.prog X.w) X.A (compareOp op v u) (EP X pins σ Q) X.xe s₂) X.xe s₁) X.xe s
def tB (t:TE):TT:=fun σ H Q=>t σ H fun x H1=>∃ c,x = .bl c/\Q c H1
theorem pt_cmp {op:CmpOp}{t:TE}(h:PC X op a b t)(h1:behindInMarks op b=false:=by first | exact nobehind _ (by decide) (by decide) | rfl):PT X (.Compare a [op] [b] pos) (tB t):=by
 intro pins s σ H Q I hw
 refine wpAny_isTrue_Compare1 (thn (h pins s σ H _ I hw) fun v s1 h1=>thn h1 fun u s2 h2=>thn h2 fun c s3 ⟨x,H1,I1,r1,q1⟩=>?_) h1
 obtain⟨d,rfl,q⟩:=q1
 cases r1
 exact wpAny_truthy_bool ⟨H1,I1,q⟩
theorem pt_val {e:Expr}{t:TE}(h:PE X e t)(he:∀ whole,isTrue e X.env whole=(do let v ← whole;standAt e.pos;holding [v] (truthy v)):=by intro _;rfl):PT X e (tB t):=by
 intro pins s σ H Q I hw
 refine isTrue_plain (thn (h pins s σ H _ I hw) fun v s1 ⟨x,H1,I1,r1,q1⟩=>?_) (he _)
 obtain⟨d,rfl,q⟩:=q1
 cases r1
 exact wpAny_truthy_bool ⟨H1,I1,q⟩
variable  {tA tB':TT}{rest:List Expr}
def tAnd (t u:TT):TT:=fun σ H Q=>t σ H fun c H1=>if c=true then u σ H1 Q else Q false H1
def tOr (t u:TT):TT:=fun σ H Q=>t σ H fun c H1=>if c=true then Q true H1 else u σ H1 Q
def tNot (t:TT):TT:=fun σ H Q=>t σ H fun c H1=>Q (!c) H1
theorem pw_and1 (ha:PT X a tA):PW X (.BoolOp .And [a] pos) tA:=by
 intro wh pins s σ H Q I h
 refine isTrue_and (thn (ha pins s σ H Q I h) fun c s1 e=>?_)
 cases c with
 | true=>exact isTrue_and_nil e
 | false=>exact e
theorem pw_or1 (ha:PT X a tA):PW X (.BoolOp .Or [a] pos) tA:=by
 intro wh pins s σ H Q I h
 refine isTrue_or (thn (ha pins s σ H Q I h) fun c s1 e=>?_)
 cases c with
 | false=>exact isTrue_or_nil e
 | true=>exact e
theorem pw_and (ha:PT X a tA)(hb:PW X (.BoolOp .And (b::rest) pos) tB'):PW X (.BoolOp .And (a::b::rest) pos) (tAnd tA tB'):=by
 intro wh pins s σ H Q I h
 refine isTrue_and (thn (ha pins s σ H _ I h) fun c s1 ⟨H1,I1,q1⟩=>?_)
 cases c with
 | true=>exact hb wh pins s1 σ H1 Q I1 q1
 | false=>exact⟨H1,I1,q1⟩
theorem pw_or (ha:PT X a tA)(hb:PW X (.BoolOp .Or (b::rest) pos) tB'):PW X (.BoolOp .Or (a::b::rest) pos) (tOr tA tB'):=by
 intro wh pins s σ H Q I h
 refine isTrue_or (thn (ha pins s σ H _ I h) fun c s1 ⟨H1,I1,q1⟩=>?_)
 cases c with
 | true=>exact⟨H1,I1,q1⟩
 | false=>exact hb wh pins s1 σ H1 Q I1 q1
theorem pt_not (ha:PT X a tA):PT X (.UnaryOp .Not a pos) (tNot tA):=by
 intro pins s σ H Q I h
 exact isTrue_not (ha pins s σ H (fun c H1=>Q (!c) H1) I h)
end
def SqL (K:yF)(H:Hp)(a:Addr)(xs:List V):Prop:=
 Rd H a (.lst xs) ∨
  ∃ (o:Obj) (its:Array Value) (n:Nat),K.lookup a=some o/\o.cls = .type "list" ∧ o.dict=none/\o.data = .seq its n/\its.size<=sizeLine/\Vals xs its.toList
def SqT (K:yF)(H:Hp)(a:Addr)(xs:List V):Prop:=
 Rd H a (.tup xs) ∨
  ∃ (o:Obj) (its:Array Value) (n:Nat),K.lookup a=some o/\o.cls = .type "tuple" ∧ o.data = .seq its n/\its.size<=sizeLine/\Vals xs its.toList
noncomputable def absV:Value->Option V
 | .none=>some .non
 | .bool b=>some (.bl b)
 | .int i _=>some (.int i)
 | .str x _=>some (.str x)
 | .bytes b _=>some (.byt b)
 | .float b _=>some (.flt b)
 | .ref a=>some (.ref a)
 | .type n=>some (.ty n)
 | _=>none
theorem RelV.abs {x:V}{u:Value}(r:RelV x u):absV u=some x:=by
 cases x with
 | non=>cases r;rfl
 | bl _=>cases r;rfl
 | int _=>obtain⟨t,rfl⟩:=r;rfl
 | str _=>obtain⟨t,rfl⟩:=r;rfl
 | byt _=>obtain⟨t,rfl⟩:=r;rfl
 | flt _=>obtain⟨t,rfl⟩:=r;rfl
 | ref _=>cases r;rfl
 | ty _=>cases r;rfl
theorem RelV.inj {x y:V}{u:Value}(r:RelV x u)(q:RelV y u):x=y:=Option.some.inj (r.abs.symm.trans q.abs)
theorem Vals.inj:∀ {xs ys:List V} {us:List Value},Vals xs us->Vals ys us->xs=ys
 | _,_,_,.nil,.nil=>rfl
 | _,_,_,.cons r t,.cons r' t'=>by rw [r.inj r',Vals.inj t t']
section
variable  {X:Cx}{pins:List (Addr×Obj)}{σ:St}{H:Hp}{s:Shared}{a:Addr}{xs ys:List V}
theorem SqL.of {K:yF}(h:H a=some (.lst xs)):SqL K H a xs:=.inl (.inl h)
theorem SqT.of {K:yF}(h:H a=some (.tup xs)):SqT K H a xs:=.inl (.inl h)
theorem Inv.list (I:Inv X pins σ H s)(h:SqL X.K H a xs):∃ its:List Value,Vals xs its/\PlainL s.heap a its.toArray/\xs.length<=sizeLine:=by
 rcases h with h | ⟨o,its,n,hk,hc,hd,hs,hz,r⟩
 ·obtain⟨z,its,n,r,e⟩:=h.ok I.hok
  exact⟨its,r,⟨_,n,e,rfl,rfl,rfl⟩,z⟩
 ·refine⟨its.toList,r,⟨o,n,I.kIn a o hk,hc,hd,by simpa using hs⟩,?_⟩
  have e:=r.length
  simp only [Array.length_toList] at e
  omega
theorem Inv.tuple (I:Inv X pins σ H s)(h:SqT X.K H a xs):∃ its:List Value,Vals xs its/\IsTup s.heap a its.toArray/\xs.length<=sizeLine:=by
 rcases h with h | ⟨o,its,n,hk,hc,hs,hz,r⟩
 ·obtain⟨z,its,r,p⟩:=h.ok I.hok
  exact⟨its,r,p,z⟩
 ·refine⟨its.toList,r,⟨o,I.kIn a o hk,hc,n,by simpa using hs⟩,?_⟩
  have e:=r.length
  simp only [Array.length_toList] at e
  omega
theorem Inv.list_inj (I:Inv X pins σ H s)(h:SqL X.K H a xs)(h':SqL X.K H a ys):xs=ys:=by
 obtain⟨its,r,⟨o,n,e,_,_,d⟩,_⟩:=I.list h
 obtain⟨its',r',⟨o',n',e',_,_,d'⟩,_⟩:=I.list h'
 rw [e] at e';cases e'
 rw [d] at d'
 injection d' with d1 _
 have:its=its':=by simpa using congrArg Array.toList d1
 subst this
 exact r.inj r'
theorem Inv.tuple_inj (I:Inv X pins σ H s)(h:SqT X.K H a xs)(h':SqT X.K H a ys):xs=ys:=by
 obtain⟨its,r,⟨o,e,_,n,d⟩,_⟩:=I.tuple h
 obtain⟨its',r',⟨o',e',_,n',d'⟩,_⟩:=I.tuple h'
 rw [e] at e';cases e'
 rw [d] at d'
 injection d' with d1 _
 have:its=its':=by simpa using congrArg Array.toList d1
 subst this
 exact r.inj r'
end
noncomputable abbrev Cx.wish (X:Cx) (E:Value->Shared->Prop):Cx:={ X with xe:=E }
noncomputable abbrev Cx.nox (X:Cx):Cx:=X.wish fun _ _=>False
theorem Cx.Ok.wish {X:Cx}(ok:X.Ok)(E:Value->Shared->Prop):(X.wish E).Ok:=
 ⟨ok.mod,ok.kind,ok.glob,ok.blt,ok.above,ok.inj,ok.has,ok.cab,ok.hd,ok.frames,ok.stk,ok.exf,ok.bs,ok.bsz,ok.noex,ok.exfs,ok.funs,ok.frf⟩
theorem Cx.Ok.unwish {X:Cx}{E:Value->Shared->Prop}(ok:(X.wish E).Ok):X.Ok:=
 ⟨ok.mod,ok.kind,ok.glob,ok.blt,ok.above,ok.inj,ok.has,ok.cab,ok.hd,ok.frames,ok.stk,ok.exf,ok.bs,ok.bsz,ok.noex,ok.exfs,ok.funs,ok.frf⟩
section
variable  {X:Cx}{pins:List (Addr×Obj)}{σ:St}{H:Hp}{s:Shared}{E:Value->Shared->Prop}
theorem Inv.wish (I:Inv X pins σ H s)(E:Value->Shared->Prop):Inv (X.wish E) pins σ H s:=⟨I.ok.wish E,I.os,I.bare,I.base,I.loc,I.cell,I.free,I.freeC,I.pin,I.hok,I.len⟩
theorem Inv.unwish (I:Inv (X.wish E) pins σ H s):Inv X pins σ H s:=⟨I.ok.unwish,I.os,I.bare,I.base,I.loc,I.cell,I.free,I.freeC,I.pin,I.hok,I.len⟩
theorem SP.unwish {D:Ends}{f:Flow}{s':Shared}(h:SP (X.wish E) pins D f s'):SP X pins D f s':=by
 cases f with
 | next=>obtain⟨σ',H',I,q⟩:=h;exact⟨σ',H',I.unwish,q⟩
 | brk=>obtain⟨σ',H',I,q⟩:=h;exact⟨σ',H',I.unwish,q⟩
 | cont=>obtain⟨σ',H',I,q⟩:=h;exact⟨σ',H',I.unwish,q⟩
 | ret u=>obtain⟨v,σ',H',I,r,q⟩:=h;exact⟨v,σ',H',I.unwish,r,q⟩
theorem PSs.nox {st:List Stmt}{t:TS}(h:PSs X.nox st t):PSs X st t:=fun pins s σ H D I hw=>
 wpAny_mono (h pins s σ H D (I.wish _) hw) (fun _ _ q=>q.unwish) fun _ _ z=>False.elim z
end
section
variable  {X:Cx}{st:Stmt}{rest:List Stmt}{t u:TS}{e:Expr}{te:TE}{pos:Pos}
def tNext:TS:=fun D σ H=>D.nx σ H
def tSeq (t u:TS):TS:=fun D σ H=>t { D with nx:=u D } σ H
theorem pss_nil:PSs X [] tNext:=fun _ _ σ H _ I h=>wpAny_execs_nil ⟨σ,H,I,h⟩
theorem pss_cons (h1:PS X st t)(h2:PSs X rest u):PSs X (st::rest) (tSeq t u):=by
 intro pins s σ H D I h
 refine wpAny_execs_cons (thn (h1 pins s σ H { D with nx:=u D } I h) fun f s1 q=>?_)
 cases f with
 | next=>
  obtain⟨σ',H',I',q⟩:=q
  exact h2 pins s1 σ' H' D I' q
 | ret v=>exact q
 | brk=>exact q
 | cont=>exact q
theorem pss_one (h1:PS X st t):PSs X [st] t:=by
 intro pins s σ H D I h
 refine wpAny_execs_cons (thn (h1 pins s σ H D I h) fun f s1 q=>?_)
 cases f with
 | next=>exact wpAny_execs_nil q
 | ret v=>exact q
 | brk=>exact q
 | cont=>exact q
theorem Inv.quiet {pins:List (Addr×Obj)}{σ:St}{H:Hp}{s:Shared}(I:Inv X pins σ H s):interactive X.env=false:=by simp [interactive,I.ok.kind]
def tDrop (te:TE):TS:=fun D σ H=>te σ H fun _ H1=>D.nx σ H1
theorem ps_expr (he:PE X e te)(hs:swapsWith e none pos.line X.env=pure false:=by rfl):PS X (.Expr e pos) (tDrop te):=by
 intro pins s σ H D I h
 exact wpAny_Expr_any (thn (he pins s σ H _ I h) fun v s1 ⟨x,H1,I1,r1,q1⟩=>⟨σ,H1,I1,q1⟩) I.quiet hs
def tRet (te:TE):TS:=fun D σ H=>te σ H D.rt
theorem ps_ret (he:PE X e te):PS X (.Return (some e) pos) (tRet te):=by
 intro pins s σ H D I h
 exact wpAny_Return_some (thn (he pins s σ H _ I h) fun v s1 ⟨x,H1,I1,r1,q1⟩=>⟨x,σ,H1,I1,r1,q1⟩)
def tIfS (c:TT)(t u:TS):TS:=fun D σ H=>c σ H fun b H1=>if b=true then t D σ H1 else u D σ H1
theorem ps_if {c:Expr}{a b:List Stmt}{tc:TT}(hc:PT X c tc)(ha:PSs X a t)(hb:PSs X b u):PS X (.If c a b pos) (tIfS tc t u):=by
 intro pins s σ H D I h
 refine wpAny_If (thn (hc pins s σ H _ I h) fun d s1 ⟨H1,I1,q1⟩=>?_)
 cases d with
 | true=>exact ha pins s1 σ H1 D I1 q1
 | false=>exact hb pins s1 σ H1 D I1 q1
def tNever:TS:=fun _ _ _=>False
theorem ps_never:PS X st tNever:=fun _ _ _ _ _ _ h=>h.elim
end
abbrev TG:=V->St->Hp->(St->Hp->Prop)->Prop
abbrev TGs:=List V->St->Hp->(St->Hp->Prop)->Prop
def PG (X:Cx)(target:Expr)(t:TG):Prop:=
 ∀ (pins:List (Addr×Obj)) (s:Shared) (σ:St) (H:Hp) (v:V) (u:Value) (Q:St->Hp->Prop),Inv X pins σ H s->RelV v u->t v σ H Q →
  wpAny (model X.prog X.w) X.A (assign target X.env u) (fun _ s'=>∃ σ' H',Inv X pins σ' H' s'/\Q σ' H') X.xe s
def PGs (X:Cx)(ts:List Expr)(t:TGs):Prop:=
 ∀ (pins:List (Addr×Obj)) (s:Shared) (σ:St) (H:Hp) (vs:List V) (us:List Value) (Q:St->Hp->Prop),Inv X pins σ H s->Vals vs us->t vs σ H Q →
  wpAny (model X.prog X.w) X.A (assignInOrder ((assignEach ts X.env).map (·.2)) us) (fun _ s'=>∃ σ' H',Inv X pins σ' H' s'/\Q σ' H') X.xe s
abbrev TSet:=V->V->V->Hp->(Hp->Prop)->Prop
def PSet (X:Cx)(t:TSet):Prop:=
 ∀ (pins:List (Addr×Obj)) (s:Shared) (σ:St) (H:Hp) (o i v:V) (ov iv u:Value) (Q:Hp->Prop),Inv X pins σ H s->RelV o ov->RelV i iv->RelV v u->t o i v H Q →
  wpAny (model X.prog X.w) X.A (setItem ov iv u) (fun _ s'=>∃ H',Inv X pins σ H' s'/\Q H') X.xe s
section
variable  {X:Cx}{pos:Pos}
def zcm (i:Nat):TG:=fun v σ H Q=>Q (σ.set i (some v)) H
theorem pg_name {i:Nat}{x:Str}(hN:X.N.Nodup)(hi:X.N[i]?=some x)(hx:Loc X.env.scope x)(hf:X.fn x=true ∨ X.env.scope.names.lookup x=some .local:=by first | exact .inl rfl | exact .inr rfl | assumption):PG X (.Name x pos) (zcm i):=by
 intro pins s σ H v u Q I r h
 exact wpAny_assign_Name (zsh I hN hi hx r (fun s' I'=>⟨_,H,I',h⟩) hf)
def gNil:TGs:=fun vs σ H Q=>vs = []/\Q σ H
def zln (t:TG)(u:TGs):TGs:=fun vs σ H Q=>∃ v r,vs=v::r/\t v σ H fun σ' H'=>u r σ' H' Q
theorem pgs_nil:PGs X [] gNil:=by
 intro pins s σ H vs us Q I r h
 obtain⟨e,h⟩:=h
 subst e
 cases r
 exact assignInOrder_nil ⟨σ,H,I,h⟩
theorem pgs_cons {e:Expr}{es:List Expr}{t:TG}{u:TGs}(h1:PG X e t)(h2:PGs X es u)
  (hs:(assignEach (e::es) X.env).map (·.2)=assign e X.env::(assignEach es X.env).map (·.2):=by rfl):PGs X (e::es) (zln t u):=by
 intro pins s σ H vs us Q I r h
 obtain⟨v,vr,e1,h⟩:=h
 subst e1
 cases r with
 | cons r rr=>
  rw [hs]
  refine assignInOrder_cons (thn (h1 pins s σ H _ _ _ I r h) fun _ s1 ⟨σ1,H1,I1,q1⟩=>?_)
  exact h2 pins s1 σ1 H1 _ _ Q I1 rr q1
def gTup (K:yF)(n:Nat)(t:TGs):TG:=fun v σ H Q=>∃ a xs,v = .ref a/\SqT K H a xs/\xs.length=n/\t xs σ H Q
theorem pg_tup {es:List Expr}{k:Nat}{t:TGs}{n:Nat}(hc:X.calm=true)(h:PGs X es t)
  (hn:(assignEach es X.env).length=n:=by rfl) (hst:(assignEach es X.env).findIdx? (·.1)=none:=by rfl):PG X (.Tuple es k pos) (gTup X.K n t):=by
 intro pins s σ H v u Q I r hw
 obtain⟨a,xs,e1,hq,hl,hw⟩:=hw
 subst e1
 cases r
 obtain⟨its,rv,ht,hz⟩:=I.tuple hq
 refine assign_Tuple_tuple (I.ok.hd hc) ht (by simp [hn,← hl,rv.length]) hst fun h' hx=>?_
 have I1:Inv X pins σ H { s with heap:=h' }:=I.kept (t':=s.toks) fun b o e=>hx b o (Nat.ne_of_lt (Heap.lt_size e)) e
 exact h pins _ σ H xs _ Q I1 (by simpa using rv) hw
def gSub (to ti:TE)(t:TSet):TG:=fun v σ H Q=>to σ H fun o H1=>ti σ H1 fun i H2=>t o i v H2 fun H3=>Q σ H3
theorem pg_sub {o i:Expr}{to ti:TE}{t:TSet}(ho:PE X o to)(hi:PE X i ti)(hs:PSet X t)
  (ha:∀ v,assign (.Subscript o i pos) X.env v=(do
   let ov ← holding [v] (eval o X.env)
   let iv ← holding [v,ov] (eval i X.env)
   standAt pos
   holding [v,ov,iv] (setItem ov iv v)
   release [v,ov,iv] []):=by intro _;rfl):PG X (.Subscript o i pos) (gSub to ti t):=by
 intro pins s σ H v u Q I r h
 rw [ha]
 refine wpAny_bind (wpAny_holding (thn (ho pins s σ H _ I h) fun ov s1 ⟨x,H1,I1,r1,q1⟩=>?_))
 refine wpAny_bind (wpAny_holding (thn (hi pins s1 σ H1 _ I1 q1) fun iv s2 ⟨y,H2,I2,r2,q2⟩=>?_))
 refine wpAny_bind (wpAny_standAt (wpAny_bind (wpAny_holding (thn (hs pins s2 σ H2 x y v ov iv u _ I2 r1 r2 r q2) fun _ s3 ⟨H3,I3,q3⟩=>?_))))
 exact wpAny_release ⟨σ,H3,I3,q3⟩
def tAsg (te:TE)(g:TG):TS:=fun D σ H=>te σ H fun x H1=>g x σ H1 D.nx
theorem ps_asg {tg e:Expr}{te:TE}{g:TG}(he:PE X e te)(hg:PG X tg g)(hs:swapsWithSole [tg] e pos.line X.env=pure false:=by rfl)(hw:swappedStores [tg] e X.env=pure none:=by rfl)
  (h1:(assignEach [tg] X.env).map (·.2) = [assign tg X.env]:=by rfl):PS X (.Assign [tg] e pos) (tAsg te g):=by
 intro pins s σ H D I h
 refine wpAny_Assign_stores (thn (he pins s σ H _ I h) fun v s1 ⟨x,H1,I1,r1,q1⟩=>?_) hs hw
 rw [h1]
 exact thn (hg pins s1 σ H1 x v _ I1 r1 q1) fun _ s2 q=>q
theorem ps_set {i:Nat}{x:Str}{e:Expr}{te:TE}{pos':Pos}(hN:X.N.Nodup)(hi:X.N[i]?=some x)(hx:Loc X.env.scope x)(he:PE X e te)(hs:swapsWith e (some (.Name x pos')) pos.line X.env=pure false:=by rfl)(hf:X.fn x=true ∨ X.env.scope.names.lookup x=some .local:=by first | exact .inl rfl | exact .inr rfl | assumption) :
  PS X (.Assign [.Name x pos'] e pos) (tAsg te (zcm i)):=by
 intro pins s σ H D I h
 refine wpAny_Assign_Name (thn (he pins s σ H _ I h) fun v s1 ⟨y,H1,I1,r1,q1⟩=>?_) hs
 exact zsh I1 hN hi hx r1 (fun s2 I2=>⟨_,H1,I2,q1⟩) hf
def tPar (i j:Nat)(ta:TA):TS:=fun D σ H=>ta σ H fun vs H1=>∃ v w,vs = [v,w]/\D.nx ((σ.set i (some v)).set j (some w)) H1
theorem ps_par {i j:Nat}{x y:Str}{a b:Expr}{ta:TA}{px py pt:Pos}{kt k2 pt2}(hc:X.calm=true)(hN:X.N.Nodup)(hi:X.N[i]?=some x)(hj:X.N[j]?=some y)(hij:i≠j)
  (hx:X.env.scope.names.lookup x=some .local) (hy:X.env.scope.names.lookup y=some .local) (ha:PA X [a,b] ta)
  (hw:swappedStores [.Tuple [.Name x px,.Name y py] kt pt] (.Tuple [a,b] k2 pt2) X.env=pure (some [x,y]))
  (hs:swapsWithSole [.Tuple [.Name x px,.Name y py] kt pt] (.Tuple [a,b] k2 pt2) pos.line X.env=pure false:=by rfl) :
  PS X (.Assign [.Tuple [.Name x px,.Name y py] kt pt] (.Tuple [a,b] k2 pt2) pos) (tPar i j ta):=by
 intro pins s σ H D I h
 rw [exec_Assign_arm]
 refine wpAny_bind (wpAny_standAt ?_)
 rw [hs]
 refine wpAny_bind (wpAny_pure ?_)
 rw [if_neg (by decide)]
 refine wpAny_bind (Tuple_ (thn (ha _ pins s σ H _ I h) fun us s1 ⟨vs,H1,I1,r1,q1⟩=>?_))
 obtain⟨v,w,e1,q1⟩:=q1
 subst e1
 obtain⟨u1,u2,rfl,rv,rw'⟩:∃ u1 u2,us = [u1,u2]/\RelV v u1/\RelV w u2:=by
  cases r1 with
  | cons p q=>
   cases q with
   | cons p' q'=>
    cases q'
    exact⟨_,_,rfl,p,p'⟩
 refine wpAny_newObj_type ?_ (by show 2<=sizeLine;decide)
 have I2:Inv X pins σ H1 { s1 with heap:=s1.heap.push { cls:=.type "tuple",data:=.seq [u1,u2].toArray } }:=I1.kept (t':=s1.toks) fun b o e=>Heap.get?_push_of_some _ e
 rw [hw]
 refine wpAny_bind (wpAny_pure ?_)
 show wpAny (model X.prog X.w) X.A (do rule "assign.swapped-stores";let items ← unpackItems (.ref s1.heap.objs.size) 2 none;assignInOrder [fun v=>bindName X.env y v,fun v=>bindName X.env x v] items.reverse;pure Flow.next) _ _ _
 refine wpAny_bind (wpAny_rule (wpAny_bind (unpackItems_tuple (items:=#[u1,u2]) (I.ok.hd hc) (IsTup.new s1.heap _) fun h' hx'=>?_)))
 have I3:=I2.kept (h':=h') (t':=s1.toks) fun b o e=>hx' b o (Nat.ne_of_lt (Heap.lt_size e)) e
 show wpAny _ _ (assignInOrder [fun v=>bindName X.env y v,fun v=>bindName X.env x v] [u2,u1] >>= fun _=>pure Flow.next) _ _ _
 refine wpAny_bind (assignInOrder_cons (wpAny_bindName (zsh I3 hN hj (.inl hy) rw' (fun s2 I4=>?_) (.inr hy))))
 refine assignInOrder_cons (wpAny_bindName (zsh I4 hN hi (.inl hx) rv (fun s3 I5=>assignInOrder_nil (wpAny_pure ?_)) (.inr hx)))
 rw [List.set_comm _ _ (Ne.symm hij)] at I5
 exact⟨_,H1,I5,q1⟩
end
section
variable  {X:Cx}{pos:Pos}
def tWhile (c:TT)(tb:TS):TS:=fun D σ H=>∃ W:Nat->St->Hp->Prop,(∃ m,W m σ H)/\∀ m σ H,W m σ H →
 c σ H fun b H1=>if b=true then ∃ N:St->Hp->Prop,(∀ σ' H',N σ' H'->∃ m',m'<m/\W m' σ' H')/\tb { D with nx:=N,ct:=N,bk:=D.nx } σ H1 else D.nx σ H1
theorem ps_while {c:Expr}{body:List Stmt}{tc:TT}{tb:TS}(hp:PassesOwn (model X.prog X.w) X.A X.env X.xe)(hc:PT X c tc)(hb:PSs X body tb):PS X (.While c body [] pos) (tWhile tc tb):=by
 intro pins s σ H D I h
 obtain⟨W,⟨m0,w0⟩,turn⟩:=h
 refine wpAny_While (codeAny_whileLoop (fun n s'=>∃ σ' H',Inv X pins σ' H' s'/\W n σ' H') ?_ m0 ⟨σ,H,I,w0⟩)
 rintro n s1 ⟨σ1,H1,I1,w1⟩
 refine wpAny_passesOwn hp (thn (hc pins s1 σ1 H1 _ I1 (turn n σ1 H1 w1)) fun b s2 ⟨H2,I2,q2⟩=>?_)
 cases b with
 | true=>
  obtain⟨N,hN,q2⟩:=q2
  rw [if_pos rfl]
  refine wpAny_passesOwn hp (thn (hb pins s2 σ1 H2 _ I2 q2) fun f s3 q3=>?_)
  cases f with
  | next=>
   obtain⟨σ3,H3,I3,n3⟩:=q3
   obtain⟨m',hm,w3⟩:=hN σ3 H3 n3
   exact⟨m',hm,σ3,H3,I3,w3⟩
  | cont=>
   obtain⟨σ3,H3,I3,n3⟩:=q3
   obtain⟨m',hm,w3⟩:=hN σ3 H3 n3
   exact⟨m',hm,σ3,H3,I3,w3⟩
  | brk=>exact q3
  | ret v=>exact q3
 | false=>
  rw [if_neg Bool.false_ne_true]
  exact wpAny_execs_nil ⟨σ1,H2,I2,q2⟩
end
structure It where
 go:Nat->Hp->Prop
 yld:Nat->Hp->V->Hp->Prop
 stop:Nat->Hp->Prop
def FpOk (X:Cx)(pins:List (Addr×Obj))(H:Hp)(b:Addr):Prop:=
 H b=none/\b≠X.env.locals/\b ∉ X.fs/\(b∈X.ex ∨ X.s₀.heap.objs.size<=b)/\(∀ x c,X.env.cells.lookup x=some c->c≠b)/\∀ p∈X.pn++pins,p.1≠b
theorem Inv.fpOk {X:Cx}{pins:List (Addr×Obj)}{σ:St}{H H':Hp}{s:Shared}{b:Addr}(I:Inv X pins σ H s)(hb:s.heap.objs.size<=b)(hn:H' b=none):FpOk X pins H' b:=by
 refine⟨hn,Nat.ne_of_gt (Nat.lt_of_lt_of_le I.lt hb),I.nofs hb,.inr (Nat.le_trans I.sz hb),fun x c e z=>?_,fun p hp z=>?_⟩
 ·obtain⟨v,q⟩:=I.cell x c e
  exact absurd (Nat.lt_of_lt_of_le q.lt (by rw [z];exact hb)) (Nat.lt_irrefl _)
 ·exact absurd (Nat.lt_of_lt_of_le (Heap.lt_size (I.pin p hp).1) (by rw [z];exact hb)) (Nat.lt_irrefl _)
structure Turn (P:Program)(w:World)(K:yF)(tg:Expr)(J:It)(fp:List Addr)(it:Addr)(tn:Nat->Heap->Prop):Prop where
 mem:it∈fp
 obj:∀ i h,tn i h->∀ b∈fp,∃ o,h.get? b=some o/\∀ v,o.data ≠ .cell v
 keep:∀ i h h',tn i h->(∀ b∈fp,∀ o,h.get? b=some o->h'.get? b=some o)->tn i h'
 item:∀ (X:Cx),X.prog=P->X.w=w->X.K=K->X.calm=true->∀ (i:Nat) (pins:List (Addr×Obj)) (s:Shared) (σ:St) (H:Hp) (E:Value->Shared->Prop),Inv X pins σ H s->(∀ b∈fp,FpOk X pins H b)->tn i s.heap->J.go i H →
  wpAny (model P w) X.A (pyNext (.ref it)) (fun r s1=>∃ u,r=some u ∧
   wpAny (model P w) X.A (letOwnedTupleGo tg (.ref it) u) (fun _ s2=>∃ x H',Inv X pins σ H' s2/\RelV x u/\J.yld i H x H'/\tn (i+1) s2.heap/\∀ b∈fp,H' b=none) E s1) E s
 done:∀ (X:Cx),X.prog=P->X.w=w->X.K=K->X.calm=true->∀ (i:Nat) (pins:List (Addr×Obj)) (s:Shared) (σ:St) (H:Hp) (E:Value->Shared->Prop),Inv X pins σ H s->(∀ b∈fp,FpOk X pins H b)->tn i s.heap->J.stop i H →
  wpAny (model P w) X.A (pyNext (.ref it)) (fun r s1=>r=none/\Inv X pins σ H s1) E s
 self:∀ (A:Around) (i:Nat) (s:Shared) (Q:Value->Shared->Prop) (E:Value->Shared->Prop),tn i s.heap->Q (.ref it) s->wpAny (model P w) A (pyIter (.ref it)) Q E s
abbrev TI:=St->Hp->(It->Hp->Prop)->Prop
def PIE (X:Cx)(pins:List (Addr×Obj))(σ:St)(tg:Expr)(R:It->Hp->Prop)(itv:Value)(s2:Shared):Prop:=
 ∃ (it:Addr) (fp:List Addr) (tn:Nat->Heap->Prop) (J:It) (H':Hp),itv = .ref it/\Inv X pins σ H' s2/\Turn X.prog X.w X.K tg J fp it tn/\tn 0 s2.heap/\(∀ b∈fp,FpOk X pins H' b)/\R J H'
def PI (X:Cx)(tg iter:Expr)(wi:TI):Prop:=
 ∀ (pins:List (Addr×Obj)) (s:Shared) (σ:St) (H:Hp) (R:It->Hp->Prop),Inv X pins σ H s->wi σ H R →
  wpAny (model X.prog X.w) X.A (eval iter X.env) (fun v s1=>wpAny (model X.prog X.w) X.A (pyIter v) (PIE X pins σ tg R) X.xe s1) X.xe s
theorem zbn {M:Model}{A:Around}{E:Value->Shared->Prop}{s:Shared}{tg:Expr}{it:Addr}{u:Value}{o:Obj}{n:String}{vs:Array Value}{Q:Unit->Shared->Prop}(ho:s.heap.get? it=some o)(hc:o.cls = .type n)(hd:o.data = .fields vs)
  (hn:["enumerate","zip","dict_itemiterator","dict_reverseitemiterator","odict_iterator","itertools.zip_longest","itertools.pairwise"].contains n=false) (hQ:Q () s):wpAny M A (letOwnedTupleGo tg (.ref it) u) Q E s:=by
 unfold letOwnedTupleGo
 cases tg<;>first
  | exact wpAny_pure hQ
  | (cases u<;>first
    | exact wpAny_pure hQ
    | (refine wpAny_bind (wpAny_load ho ?_)
       rw [hc,hd]
       show wpAny M A (if (["enumerate","zip","dict_itemiterator","dict_reverseitemiterator","odict_iterator","itertools.zip_longest","itertools.pairwise"].contains n && vs[0]? == some (rawInt _))=true then _ else _) Q E s
       rw [if_neg (by intro h;rw [hn,Bool.false_and] at h;cases h)]
       exact wpAny_pure hQ))
noncomputable def Itl (K:yF) (a:Addr):It:=
 ⟨fun i H=>∃ xs x,SqL K H a xs/\xs[i]?=some x,fun i H x H'=>H'=H/\∀ xs,SqL K H a xs->xs[i]?=some x,fun i H=>∃ xs,SqL K H a xs/\xs.length<=i⟩
noncomputable def Itt (K:yF) (a:Addr):It:=
 ⟨fun i H=>∃ xs x,SqT K H a xs/\xs[i]?=some x,fun i H x H'=>H'=H/\∀ xs,SqT K H a xs->xs[i]?=some x,fun i H=>∃ xs,SqT K H a xs/\xs.length<=i⟩
noncomputable def Itr (lo:Int) (n:Nat):It:=⟨fun i _=>i<n,fun i H x H'=>H'=H/\x = .int (lo+i),fun i _=>n<=i⟩
theorem turn_list {P:Program}{w:World}{K:yF}{tg:Expr}(a it:Addr):Turn P w K tg (Itl K a) [it] it (fun i h=>h.IsListIter it a i) where
 mem:=by simp
 obj:=fun i h st b hb=>by
  have e:b=it:=by simpa using hb
  subst e
  obtain⟨o,e,c,d⟩:=st
  exact⟨o,e,fun v z=>by rw [d] at z;cases z⟩
 keep:=fun i h h' st k=>st.at fun o e=>k it (by simp) o e
 item:=by
  intro X hP hw hK hc i pins s σ H E I hf st hg
  subst hP hw hK
  obtain⟨xs,x,hq,hx⟩:=hg
  obtain⟨its,rv,p,hz⟩:=I.list hq
  obtain⟨u,hu,ru⟩:=rv.get hx
  obtain⟨f0,f1,f2,f3,f4,f5⟩:=hf it (by simp)
  refine wpAny_pyNext_list_item st p.isList (x:=u) (by simpa using hu) fun h' st' sb=>?_
  have I1:Inv X pins σ H { s with heap:=h' }:=I.turned (t':=s.toks) (fun b o hb e=>(sb.2 b hb).trans e) f0 f1 f3 f4 f5
  obtain⟨o,e,c,d⟩:=id st'
  exact⟨u,rfl,zbn (s:={ s with heap:=h' }) e c d (by decide) ⟨x,H,I1,ru,⟨rfl,fun ys hy=>by rw [I.list_inj hy hq];exact hx⟩,st',fun b hb=>(hf b hb).1⟩⟩
 done:=by
  intro X hP hw hK hc i pins s σ H E I hf st hg
  subst hP hw hK
  obtain⟨xs,hq,hx⟩:=hg
  obtain⟨its,rv,p,hz⟩:=I.list hq
  obtain⟨f0,f1,f2,f3,f4,f5⟩:=hf it (by simp)
  have hl:=rv.length
  exact wpAny_pyNext_list_end (I.ok.hd hc) st p.isList (by simp;omega) fun h' eb=>⟨rfl,I.turned (t':=s.toks) (fun b o hb e=>eb b o hb e) f0 f1 f3 f4 f5⟩
 self:=fun _ _ _ _ _ st h=>wpAny_pyIter_listiter st h
theorem turn_tuple {P:Program}{w:World}{K:yF}{tg:Expr}(a it:Addr):Turn P w K tg (Itt K a) [it] it (fun i h=>h.IsTupleIter it a i) where
 mem:=by simp
 obj:=fun i h st b hb=>by
  have e:b=it:=by simpa using hb
  subst e
  obtain⟨o,e,c,d⟩:=st
  exact⟨o,e,fun v z=>by rw [d] at z;cases z⟩
 keep:=fun i h h' st k=>st.at fun o e=>k it (by simp) o e
 item:=by
  intro X hP hw hK hc i pins s σ H E I hf st hg
  subst hP hw hK
  obtain⟨xs,x,hq,hx⟩:=hg
  obtain⟨its,rv,p,hz⟩:=I.tuple hq
  obtain⟨u,hu,ru⟩:=rv.get hx
  obtain⟨f0,f1,f2,f3,f4,f5⟩:=hf it (by simp)
  refine wpAny_pyNext_tuple_item st (show s.heap.IsTuple a its.toArray from p) (x:=u) (by simpa using hu) fun h' st' sb=>?_
  have I1:Inv X pins σ H { s with heap:=h' }:=I.turned (t':=s.toks) (fun b o hb e=>(sb.2 b hb).trans e) f0 f1 f3 f4 f5
  obtain⟨o,e,c,d⟩:=id st'
  exact⟨u,rfl,zbn (s:={ s with heap:=h' }) e c d (by decide) ⟨x,H,I1,ru,⟨rfl,fun ys hy=>by rw [I.tuple_inj hy hq];exact hx⟩,st',fun b hb=>(hf b hb).1⟩⟩
 done:=by
  intro X hP hw hK hc i pins s σ H E I hf st hg
  subst hP hw hK
  obtain⟨xs,hq,hx⟩:=hg
  obtain⟨its,rv,p,hz⟩:=I.tuple hq
  obtain⟨f0,f1,f2,f3,f4,f5⟩:=hf it (by simp)
  have hl:=rv.length
  exact wpAny_pyNext_tuple_end (I.ok.hd hc) st (show s.heap.IsTuple a its.toArray from p) (by simp;omega) fun h' eb=>⟨rfl,I.turned (t':=s.toks) (fun b o hb e=>eb b o hb e) f0 f1 f3 f4 f5⟩
 self:=fun _ _ _ _ _ st h=>wpAny_pyIter_tupleiter st h
theorem turn_range {P:Program}{w:World}{K:yF}{tg:Expr}(it:Addr)(lo:Int)(n:Nat):Turn P w K tg (Itr lo n) [it] it (fun i h=>IsRangeIter h it (lo+(i:Nat) * 1) ((n:Int) - (i:Nat)) 1) where
 mem:=by simp
 obj:=fun i h st b hb=>by
  have e:b=it:=by simpa using hb
  subst e
  exact⟨_,st,fun v z=>by
   have z':Data.fields _=Data.cell v:=z
   cases z'⟩
 keep:=fun i h h' st k=>k it (by simp) _ st
 item:=by
  intro X hP hw hK hc i pins s σ H E I hf st hg
  subst hP hw hK
  obtain⟨f0,f1,f2,f3,f4,f5⟩:=hf it (by simp)
  have W:=Walks.range (prog:=X.prog) (w:=X.w) (I.ok.hd hc) it lo 1 n
  refine W.item i s _ _ hg st fun v h' tk hv st' kk=>?_
  obtain⟨t,rfl⟩:=hv
  have I1:Inv X pins σ H { s with heap:=h',toks:=tk }:=I.turned (fun b o hb e=>kk b o (by simpa using hb) e) f0 f1 f3 f4 f5
  refine⟨_,rfl,zbn (s:={ s with heap:=h',toks:=tk }) (n:="range_iterator") st' rfl rfl (by decide) ⟨.int (lo+i),H,I1,⟨t,?_⟩,⟨rfl,rfl⟩,st',fun b hb=>(hf b hb).1⟩⟩
  rw [Int.mul_one]
 done:=by
  intro X hP hw hK hc i pins s σ H E I hf st hg
  subst hP hw hK
  obtain⟨f0,f1,f2,f3,f4,f5⟩:=hf it (by simp)
  exact wpAny_pyNext_range_end (I.ok.hd hc) st (by have:n<=i:=hg;omega) fun h' eb=>⟨rfl,I.turned (t':=s.toks) (fun b o hb e=>eb b o hb e) f0 f1 f3 f4 f5⟩
 self:=fun _ _ _ _ _ st h=>wpAny_pyIter_rangeiter st h
section
variable  {X:Cx}{tg:Expr}
def zcn (K:yF)(tl:TE):TI:=fun σ H R=>tl σ H fun x H1=>∃ a,x = .ref a/\(∃ xs,SqL K H1 a xs)/\R (Itl K a) H1
def iTup (K:yF)(tl:TE):TI:=fun σ H R=>tl σ H fun x H1=>∃ a,x = .ref a/\(∃ xs,SqT K H1 a xs)/\R (Itt K a) H1
theorem pi_list {l:Expr}{tl:TE}(hl:PE X l tl):PI X tg l (zcn X.K tl):=by
 intro pins s σ H R I h
 refine thn (hl pins s σ H _ I h) fun v s1 ⟨x,H1,I1,r1,q1⟩=>?_
 obtain⟨a,e,⟨xs,hq⟩,q⟩:=q1
 subst e
 cases r1
 obtain⟨its,rv,p,hz⟩:=I1.list hq
 refine wpAny_pyIter_list p.isList ?_
 refine⟨s1.heap.objs.size,[s1.heap.objs.size],_,_,H1,rfl,I1.kept (t':=s1.toks) fun b o e=>Heap.get?_push_of_some _ e,turn_list a _,⟨_,Heap.get?_push_size _ rfl,rfl,rfl⟩,fun b hb=>?_,q⟩
 have e:b=s1.heap.objs.size:=by simpa using hb
 subst e
 exact I1.fpOk (Nat.le_refl _) (I1.hok.fresh (Nat.le_refl _))
theorem pi_tup {l:Expr}{tl:TE}(hl:PE X l tl):PI X tg l (iTup X.K tl):=by
 intro pins s σ H R I h
 refine thn (hl pins s σ H _ I h) fun v s1 ⟨x,H1,I1,r1,q1⟩=>?_
 obtain⟨a,e,⟨xs,hq⟩,q⟩:=q1
 subst e
 cases r1
 obtain⟨its,rv,p,hz⟩:=I1.tuple hq
 refine wpAny_pyIter_tuple (show s1.heap.IsTuple a its.toArray from p) ?_
 refine⟨s1.heap.objs.size,[s1.heap.objs.size],_,_,H1,rfl,I1.kept (t':=s1.toks) fun b o e=>Heap.get?_push_of_some _ e,turn_tuple a _,⟨_,Heap.get?_push_size _ rfl,rfl,rfl⟩,fun b hb=>?_,q⟩
 have e:b=s1.heap.objs.size:=by simpa using hb
 subst e
 exact I1.fpOk (Nat.le_refl _) (I1.hok.fresh (Nat.le_refl _))
theorem range_it {pins:List (Addr×Obj)}{σ:St}{H:Hp}{s:Shared}{R:It->Hp->Prop}{E:Value->Shared->Prop}{lo hi:Int}{t u v:Tok}{tk:Nat}(I:Inv X pins σ H s)(h1 : -(2 ^ 62)<=lo)(h2:lo<2 ^ 62)(h3 : -(2 ^ 62)<=hi)(h4:hi<2 ^ 62)
  (q:R (Itr lo (hi - lo).toNat) H):wpAny (model X.prog X.w) X.A (pyIter (.ref s.heap.objs.size)) (PIE X pins σ tg R) E { s with heap:=s.heap.push { cls:=.type "range",data:=.fields #[.int lo t,.int hi u,.int 1 v] },toks:=tk }:=by
 refine wpAny_pyIter_range (IsRange.new ..) (small_one h1 h2 h3 h4) ?_
 have I1:Inv X pins σ H { s with heap:=s.heap.push { cls:=.type "range",data:=.fields #[.int lo t,.int hi u,.int 1 v] },toks:=tk }:=I.kept fun b o e=>Heap.get?_push_of_some _ e
 refine⟨(s.heap.push { cls:=.type "range",data:=.fields #[.int lo t,.int hi u,.int 1 v] }).objs.size,[(s.heap.push { cls:=.type "range",data:=.fields #[.int lo t,.int hi u,.int 1 v] }).objs.size],_,_,H,rfl,
  I1.kept (t':=tk) fun b o e=>Heap.get?_push_of_some _ e,turn_range _ lo (hi - lo).toNat,?_,fun b hb=>?_,q⟩
 ·have e1:lo+((0:Nat):Int) * 1=lo:=by simp
  have e2:(((hi - lo).toNat:Nat):Int) - ((0:Nat):Int)=Builtin.Range.rangeSize lo hi 1:=by rw [rangeSize_one];split<;>omega
  show IsRangeIter _ _ (lo+((0:Nat):Int) * 1) ((((hi - lo).toNat:Nat):Int) - ((0:Nat):Int)) 1
  rw [e1,e2]
  exact Heap.get?_push_size _ rfl
 ·have e:b=(s.heap.push { cls:=.type "range",data:=.fields #[.int lo t,.int hi u,.int 1 v] }).objs.size:=by simpa using hb
  subst e
  exact I1.fpOk (Nat.le_refl _) (I1.hok.fresh (Nat.le_refl _))
def iRng1 (ta:TA):TI:=fun σ H R=>ta σ H fun vs H1=>∃ j:Int,vs = [.int j]/\-(2 ^ 62)<=j/\j<2 ^ 62/\R (Itr 0 j.toNat) H1
def iRng2 (ta:TA):TI:=fun σ H R=>ta σ H fun vs H1=>∃ i j:Int,vs = [.int i,.int j]/\(-(2 ^ 62)<=i/\i<2 ^ 62/\-(2 ^ 62)<=j/\j<2 ^ 62)/\R (Itr i (j - i).toNat) H1
theorem pi_range1 {a:Expr}{ta:TA}{p pos:Pos}(hg:Gl X "range")(hm:X.mg "range" = none)(ha:PA X [a] ta)(hs:starEach [a] X.env = [(false,eval a X.env)]:=by rfl):PI X tg (.Call (.Name "range" p) [a] [] pos) (iRng1 ta):=by
 intro pins s σ H R I h
 refine Call_ (znk I hg hm boot_range (PyProof.Rows.callWith_type1 (thn (ha pos pins s σ H _ I h) fun us s1 ⟨vs,H1,I1,r1,q1⟩=>?_) hs rfl))
 obtain⟨j,e,q1,q2,q⟩:=q1
 subst e
 cases r1 with
 | cons r rr=>
  cases rr
  obtain⟨t,rfl⟩:=r
  exact call_range_1 (range_it I1 (by omega) (by omega) q1 q2 (by simpa using q))
theorem pi_range2 {a b:Expr}{ta:TA}{p pos:Pos}(hg:Gl X "range")(hm:X.mg "range" = none)(ha:PA X [a,b] ta)(hs:starEach [a,b] X.env = [(false,eval a X.env),(false,eval b X.env)]:=by rfl)(hs2:starEach [b] X.env = [(false,eval b X.env)]:=by rfl) :
  PI X tg (.Call (.Name "range" p) [a,b] [] pos) (iRng2 ta):=by
 intro pins s σ H R I h
 refine Call_ (znk I hg hm boot_range (PyProof.Rows.callWith_type1 (thn (ha pos pins s σ H _ I h) fun us s1 ⟨vs,H1,I1,r1,q1⟩=>?_) (by rw [hs,hs2]) (by rw [hs2];rfl)))
 obtain⟨i,j,e,⟨q1,q2,q3,q4⟩,q⟩:=q1
 subst e
 cases r1 with
 | cons r rr=>
  cases rr with
  | cons r' rr=>
   cases rr
   obtain⟨t,rfl⟩:=r
   obtain⟨t',rfl⟩:=r'
   exact call_range_2 (range_it I1 q1 q2 q3 q4 q)
def tFor (wi:TI)(g:TG)(tb:TS):TS:=fun D σ H=>wi σ H fun J H1=>∃ W:Nat->Nat->St->Hp->Prop,(∃ m,W 0 m σ H1)/\∀ i m σ H,W i m σ H →
 (J.stop i H/\D.nx σ H) ∨ (J.go i H/\∃ N:St->Hp->Prop,(∀ σ' H',N σ' H'->∃ m',m'<m/\W (i+1) m' σ' H')/\∀ x H',J.yld i H x H'->g x σ H' fun σ2 H2=>tb { D with nx:=N,ct:=N,bk:=D.nx } σ2 H2)
noncomputable def zsb (fp:List Addr) (h:Heap):List (Addr×Obj):=fp.filterMap fun b=>(h.get? b).map fun o=>(b,o)
theorem znb {fp:List Addr}{h:Heap}{b:Addr}{o:Obj}(hb:b∈fp)(e:h.get? b=some o):(b,o)∈zsb fp h:=List.mem_filterMap.mpr ⟨b,hb,by rw [e];rfl⟩
theorem of_pinsAt {fp:List Addr}{h:Heap}{p:Addr×Obj}(hp:p∈zsb fp h):p.1∈fp/\h.get? p.1=some p.2:=by
 obtain⟨b,hb,e⟩:=List.mem_filterMap.mp hp
 cases q:h.get? b with
 | none=>rw [q] at e;cases e
 | some o=>
  rw [q] at e
  have e':(b,o)=p:=Option.some.inj e
  subst e'
  exact⟨hb,q⟩
theorem Inv.pinned {pins:List (Addr×Obj)}{σ:St}{H:Hp}{s:Shared}{fp:List Addr}(I:Inv X pins σ H s)(hf:∀ b∈fp,FpOk X pins H b)(ho:∀ b∈fp,∃ o,s.heap.get? b=some o/\∀ v,o.data ≠ .cell v):Inv X (pins++zsb fp s.heap) σ H s:=
 I.pins_of fun p hp=>(yaM hp).elim (fun z=>I.pin p (yaR _ z)) fun z=>by
  obtain⟨hb,e⟩:=of_pinsAt z
  obtain⟨f0,f1,f2,_⟩:=hf p.1 hb
  obtain⟨o,e',d⟩:=ho p.1 hb
  rw [e] at e';cases e'
  exact⟨e,f0,f1,f2,d⟩
theorem Inv.unpinned {pins pl:List (Addr×Obj)}{σ:St}{H:Hp}{s:Shared}(I:Inv X (pins++pl) σ H s):Inv X pins σ H s:=I.pins_of fun p hp=>I.pin p (yaR _ (yaL _ hp))
theorem ps_for {iter:Expr}{body:List Stmt}{wi:TI}{g:TG}{tb:TS}{pos:Pos}(hp:PassesOwn (model X.prog X.w) X.A X.env X.xe)(hc:X.calm=true)(hi:PI X tg iter wi)(hg:PG X tg g)(hb:PSs X body tb)
  (hs:∀ x,foldedSetIterable iter X.env x=pure x:=by intro _;rfl):PS X (.For tg iter body [] pos) (tFor wi g tb):=by
 intro pins s σ H D I h
 refine wpAny_For (thn (hi pins s σ H _ I h) fun v s1 h1=>thn h1 fun itv s2 h2=>?_) hs
 obtain⟨it,fp,tn,J,H2,e,I2,T,st2,f2,W,⟨m0,w0⟩,turn⟩:=h2
 subst e
 have stat:∀ {H':Hp},(∀ b∈fp,H' b=none)->∀ b∈fp,FpOk X pins H' b:=fun hn b hb=>⟨hn b hb,(f2 b hb).2⟩
 refine codeAny_forLoop_any (fun n s'=>∃ i σ' H',Inv X pins σ' H' s'/\tn i s'.heap/\(∀ b∈fp,H' b=none)/\W i n σ' H') ?_ m0 ⟨0,σ,H2,I2,st2,fun b hb=>(f2 b hb).1,w0⟩
 rintro n s3 ⟨i,σ3,H3,I3,st3,fr3,w3⟩
 rcases turn i n σ3 H3 w3 with⟨stop,qn⟩ | ⟨go,N,hN,step⟩
 ·refine wpAny_passesOwn hp (thn (T.done X rfl rfl rfl hc i pins s3 σ3 H3 X.xe I3 (stat fr3) st3 stop) fun r s4 ⟨hr,I4⟩=>?_)
  subst hr
  exact wpAny_execs_nil ⟨σ3,H3,I4,qn⟩
 ·refine wpAny_passesOwn hp (thn (T.item X rfl rfl rfl hc i pins s3 σ3 H3 X.xe I3 (stat fr3) st3 go) fun r s4 ⟨u,hr,h4⟩=>?_)
  subst hr
  refine wpAny_passesOwn hp (thn h4 fun _ s5 ⟨x,H5,I5,r5,y5,st5,fr5⟩=>?_)
  have I5':=I5.pinned (stat fr5) (T.obj _ _ st5)
  refine wpAny_passesOwn hp (thn (hg _ s5 σ3 H5 x u _ I5' r5 (step x H5 y5)) fun _ s6 ⟨σ6,H6,I6,q6⟩=>?_)
  refine wpAny_passesOwn hp (thn (hb _ s6 σ6 H6 _ I6 q6) fun f s7 q7=>?_)
  have again:∀ {σ7:St} {H7:Hp},Inv X (pins++zsb fp s5.heap) σ7 H7 s7->N σ7 H7->∃ m,m<n/\∃ i σ' H',Inv X pins σ' H' s7/\tn i s7.heap/\(∀ b∈fp,H' b=none)/\W i m σ' H':=fun {σ7 H7} I7 n7=>by
   obtain⟨m',hm,w7⟩:=hN σ7 H7 n7
   refine⟨m',hm,i+1,σ7,H7,I7.unpinned,T.keep _ _ _ st5 fun b hb o e=>(I7.pin (b,o) (yaR _ (yaR _ (znb hb e)))).1,fun b hb=>?_,w7⟩
   obtain⟨o,e,d⟩:=T.obj _ _ st5 b hb
   exact (I7.pin (b,o) (yaR _ (yaR _ (znb hb e)))).2.1
  cases f with
  | next=>obtain⟨σ7,H7,I7,n7⟩:=q7;exact again I7 n7
  | cont=>obtain⟨σ7,H7,I7,n7⟩:=q7;exact again I7 n7
  | brk=>obtain⟨σ7,H7,I7,q7⟩:=q7;exact⟨σ7,H7,I7.unpinned,q7⟩
  | ret v=>obtain⟨x7,σ7,H7,I7,r7,q7⟩:=q7;exact⟨x7,σ7,H7,I7.unpinned,r7,q7⟩
end
abbrev R2:=V->V->Hp->VK->Prop
def OpR (X:Cx)(f:Value->Value->Sem Value)(r:R2):Prop:=
 ∀ (pins:List (Addr×Obj)) (s:Shared) (σ:St) (H:Hp) (x y:V) (v u:Value) (Q:VK),Inv X pins σ H s->RelV x v->RelV y u->r x y H Q →
  wpAny (model X.prog X.w) X.A (f v u) (EP X pins σ Q) X.xe s
def UnR (X:Cx)(f:Value->Sem Value)(r:V->Hp->VK->Prop):Prop:=
 ∀ (pins:List (Addr×Obj)) (s:Shared) (σ:St) (H:Hp) (x:V) (v:Value) (Q:VK),Inv X pins σ H s->RelV x v->r x H Q →
  wpAny (model X.prog X.w) X.A (f v) (EP X pins σ Q) X.xe s
def CallR (X:Cx)(f:Value)(r:List V->Hp->VK->Prop):Prop:=
 ∀ (pins:List (Addr×Obj)) (s:Shared) (σ:St) (H:Hp) (xs:List V) (us:List Value) (Q:VK),Inv X pins σ H s->Vals xs us->r xs H Q →
  wpAny (model X.prog X.w) X.A (call f us) (EP X pins σ Q) X.xe s
def TruR (X:Cx)(r:V->Hp->(Bool->Hp->Prop)->Prop):Prop:=
 ∀ (pins:List (Addr×Obj)) (s:Shared) (σ:St) (H:Hp) (x:V) (v:Value) (Q:Bool->Hp->Prop),Inv X pins σ H s->RelV x v->r x H Q →
  wpAny (model X.prog X.w) X.A (truthy v) (TP X pins σ Q) X.xe s
def tOp (r:R2)(ta tb:TE):TE:=fun σ H Q=>ta σ H fun x H1=>tb σ H1 fun y H2=>r x y H2 Q
def tUn (r:V->Hp->VK->Prop)(ta:TE):TE:=fun σ H Q=>ta σ H fun x H1=>r x H1 Q
def rI (C:Int->Int->Prop)(g:Int->Int->V):R2:=fun x y H Q=>∃ i j,x = .int i/\y = .int j/\C i j/\Q (g i j) H
def rI0 (g:Int->Int->V):R2:=fun x y H Q=>∃ i j,x = .int i/\y = .int j/\Q (g i j) H
def rU (g:Int->V):V->Hp->VK->Prop:=fun x H Q=>∃ i,x = .int i/\Q (g i) H
section
variable  {X:Cx}{a b c:Expr}{ta tb tc:TE}{pos:Pos}
theorem binT (ha:PE X a ta)(hb:PE X b tb){pins:List (Addr×Obj)}{s:Shared}{σ:St}{H:Hp}{R:V->V->Hp->Prop}(I:Inv X pins σ H s)
  (h:ta σ H fun x H1=>tb σ H1 fun y H2=>R x y H2) {Q:Value->Shared->Prop} {f:Value->Value->Sem Value}
  (hf:∀ v u s2 x y H2,Inv X pins σ H2 s2->RelV x v->RelV y u->R x y H2->wpAny (model X.prog X.w) X.A (f v u) Q X.xe s2) :
  wpAny (model X.prog X.w) X.A (eval a X.env) (fun v s₁=>wpAny (model X.prog X.w) X.A (eval b X.env) (fun u s₂=>wpAny (model X.prog X.w) X.A (f v u) Q X.xe s₂) X.xe s₁) X.xe s:=by
 refine thn (ha pins s σ H _ I h) fun v s1 ⟨x,H1,I1,r1,q1⟩=>?_
 refine thn (hb pins s1 σ H1 _ I1 q1) fun u s2 ⟨y,H2,I2,r2,q2⟩=>?_
 exact hf v u s2 x y H2 I2 r1 r2 q2
theorem pe_op {op:Operator}{r:R2}(ho:OpR X (binaryOp op) r)(ha:PE X a ta)(hb:PE X b tb):PE X (.BinOp a op b pos) (tOp r ta tb):=by
 intro pins s σ H Q I h
 exact wpAny_BinOp (binT ha hb I h fun v u s2 x y H2 I2 rx ry q=>ho pins s2 σ H2 x y v u Q I2 rx ry q)
theorem pe_un {op:UnaryOp}{r:V->Hp->VK->Prop}(ho:UnR X (unaryOp op) r)(ha:PE X a ta):PE X (.UnaryOp op a pos) (tUn r ta):=by
 intro pins s σ H Q I h
 exact UnaryOp_ (thn (ha pins s σ H _ I h) fun v s1 ⟨x,H1,I1,r1,q1⟩=>ho pins s1 σ H1 x v Q I1 r1 q1)
theorem opI {f:Value->Value->Sem Value}{C:Int->Int->Prop}{g:Int->Int->Int}
  (rule:∀ (i j:Int) (t u:Tok) (s:Shared) (Q:Value->Shared->Prop) (E:Value->Shared->Prop),C i j->Q (.int (g i j) s.toks) { s with toks:=s.toks+1 }->wpAny (model X.prog X.w) X.A (f (.int i t) (.int j u)) Q E s) :
  OpR X f (rI C fun i j=>.int (g i j)):=by
 intro pins s σ H x y v u Q I rx ry h
 obtain⟨i,j,rfl,rfl,hc,q⟩:=h
 obtain⟨t,rfl⟩:=rx
 obtain⟨t',rfl⟩:=ry
 exact rule i j t t' s _ _ hc ⟨.int (g i j),H,I.tok _,⟨_,rfl⟩,q⟩
theorem opI0 {f:Value->Value->Sem Value}{g:Int->Int->Int}
  (rule:∀ (i j:Int) (t u:Tok) (s:Shared) (Q:Value->Shared->Prop) (E:Value->Shared->Prop),Q (.int (g i j) s.toks) { s with toks:=s.toks+1 }->wpAny (model X.prog X.w) X.A (f (.int i t) (.int j u)) Q E s) :
  OpR X f (rI0 fun i j=>.int (g i j)):=by
 intro pins s σ H x y v u Q I rx ry h
 obtain⟨i,j,rfl,rfl,q⟩:=h
 obtain⟨t,rfl⟩:=rx
 obtain⟨t',rfl⟩:=ry
 exact rule i j t t' s _ _ ⟨.int (g i j),H,I.tok _,⟨_,rfl⟩,q⟩
theorem opB0 {f:Value->Value->Sem Value}{g:Int->Int->Bool}
  (rule:∀ (i j:Int) (t u:Tok) (s:Shared) (Q:Value->Shared->Prop) (E:Value->Shared->Prop),Q (.bool (g i j)) s->wpAny (model X.prog X.w) X.A (f (.int i t) (.int j u)) Q E s) :
  OpR X f (rI0 fun i j=>.bl (g i j)):=by
 intro pins s σ H x y v u Q I rx ry h
 obtain⟨i,j,rfl,rfl,q⟩:=h
 obtain⟨t,rfl⟩:=rx
 obtain⟨t',rfl⟩:=ry
 exact rule i j t t' s _ _ ⟨.bl (g i j),H,I,rfl,q⟩
def CPow (i j:Int):Prop:=0<=j/\j<=1000000/\i.natAbs<2 ^ 64
def CMul (i j:Int):Prop:=(-(2 ^ 64)<i/\i<2 ^ 64) ∨ (-(2 ^ 64)<j/\j<2 ^ 64)
theorem CMul.ok {i j:Int}(h:CMul i j):IntMulOk i j:=by
 rcases h with⟨h1,h2⟩ | ⟨h1,h2⟩
 ·exact .of_left (intBits_le_64 h1 h2)
 ·exact .of_right (intBits_le_64 h1 h2)
theorem op_add:OpR X (binaryOp .Add) (rI0 fun i j=>.int (i+j)):=opI0 fun _ _ _ _ _ _ _ q=>add_int q
theorem op_sub:OpR X (binaryOp .Sub) (rI0 fun i j=>.int (i - j)):=opI0 fun _ _ _ _ _ _ _ q=>sub_int q
theorem op_mul:OpR X (binaryOp .Mult) (rI CMul fun i j=>.int (i * j)):=opI fun _ _ _ _ _ _ _ hc q=>mul_int q hc.ok
theorem op_mod:OpR X (binaryOp .Mod) (rI (fun _ j=>0<j) fun i j=>.int (i % j)):=opI fun i j _ _ _ _ _ hc q=>by
 have h1:(0:Int)<j:=hc
 exact mod_int' (by omega) (by rw [Int.fmod_eq_emod_of_nonneg i (by omega)];exact q)
theorem op_pow:OpR X (binaryOp .Pow) (rI CPow fun i j=>.int (i ^ j.toNat)):=opI fun _ _ _ _ _ _ _ hc q=>pow_int_small hc.1 hc.2.1 hc.2.2 q
theorem unI {f:Value->Sem Value}{g:Int->Int}
  (rule:∀ (i:Int) (t:Tok) (s:Shared) (Q:Value->Shared->Prop) (E:Value->Shared->Prop),Q (.int (g i) s.toks) { s with toks:=s.toks+1 }->wpAny (model X.prog X.w) X.A (f (.int i t)) Q E s) :
  UnR X f (rU fun i=>.int (g i)):=by
 intro pins s σ H x v Q I rx h
 obtain⟨i,rfl,q⟩:=h
 obtain⟨t,rfl⟩:=rx
 exact rule i t s _ _ ⟨.int (g i),H,I.tok _,⟨_,rfl⟩,q⟩
theorem un_neg:UnR X (unaryOp .USub) (rU fun i=>.int (-i)):=unI fun _ _ _ _ _ q=>neg_int q
end
noncomputable def scal:V->V->Bool
 | .non,.non=>true | .non,.int _=>true | .int _,.non=>true | .non,.bl _=>true | .bl _,.non=>true | .non,.str _=>true | .str _,.non=>true
 | .int _,.int _=>true | .bl _,.bl _=>true | .str _,.str _=>true | .byt _,.byt _=>true
 | .int _,.str _=>true | .str _,.int _=>true | .bl _,.str _=>true | .str _,.bl _=>true
 | _,_=>false
def rEq:R2:=fun x y H Q=>scal x y=true/\Q (.bl (decide (x=y))) H
def rNe:R2:=fun x y H Q=>scal x y=true/\Q (.bl (!decide (x=y))) H
theorem dec_int {i j:Int}:decide (V.int i=V.int j)=(i == j):=by
 rw [Bool.eq_iff_iff]
 simp
theorem dec_bl {i j:Bool}:decide (V.bl i=V.bl j)=(i == j):=by
 rw [Bool.eq_iff_iff]
 simp
theorem dec_str {i j:Str}:decide (V.str i=V.str j)=(i == j):=by
 rw [Bool.eq_iff_iff]
 simp
theorem dec_byt {i j:Array UInt8}:decide (V.byt i=V.byt j)=(i.toList == j.toList):=by
 rw [Bool.eq_iff_iff]
 cases i
 cases j
 simp
section
variable  {X:Cx}{a b c:Expr}{ta tb tc:TE}{pos:Pos}
theorem zla {pins:List (Addr×Obj)}{σ:St}{H:Hp}{s:Shared}{Q:VK}{k k':Bool}(I:Inv X pins σ H s)(q:Q (.bl k) H)(e:k=k'):EP X pins σ Q (.bool k') s:=by
 subst e
 exact⟨.bl k,H,I,rfl,q⟩
theorem op_eq:OpR X (compareOp .Eq) rEq:=by
 intro pins s σ H x y v u Q I rx ry h
 obtain⟨hs,q⟩:=h
 cases x with
 | non=>
  cases rx
  cases y with
  | non=>cases ry;exact PySem.EqNone.eq_none_none (zla I q (by simp))
  | bl j=>cases ry;exact PySem.EqNone.eq_none_bool (zla I q (by simp))
  | int j=>obtain⟨t',rfl⟩:=ry;exact PySem.EqNone.eq_none_int (zla I q (by simp))
  | str j=>obtain⟨t',rfl⟩:=ry;exact PySem.EqNone.eq_none_str (zla I q (by simp))
  | _=>exact absurd (show false=true from hs) Bool.false_ne_true
 | bl i=>
  cases rx
  cases y with
  | non=>cases ry;exact PySem.EqNone.eq_bool_none (zla I q (by simp))
  | bl j=>cases ry;exact eq_bool (zla I q dec_bl)
  | str j=>obtain⟨t',rfl⟩:=ry;exact PySem.EqMixed.eq_bool_str (zla I q (by simp))
  | _=>exact absurd (show false=true from hs) Bool.false_ne_true
 | int i=>
  obtain⟨t,rfl⟩:=rx
  cases y with
  | non=>cases ry;exact PySem.EqNone.eq_int_none (zla I q (by simp))
  | int j=>obtain⟨t',rfl⟩:=ry;exact eq_int (zla I q dec_int)
  | str j=>obtain⟨t',rfl⟩:=ry;exact PySem.EqMixed.eq_int_str (zla I q (by simp))
  | _=>exact absurd (show false=true from hs) Bool.false_ne_true
 | str i=>
  obtain⟨t,rfl⟩:=rx
  cases y with
  | non=>cases ry;exact PySem.EqNone.eq_str_none (zla I q (by simp))
  | bl j=>cases ry;exact PySem.EqMixed.eq_str_bool (zla I q (by simp))
  | int j=>obtain⟨t',rfl⟩:=ry;exact PySem.EqMixed.eq_str_int (zla I q (by simp))
  | str j=>obtain⟨t',rfl⟩:=ry;exact eq_str (zla I q dec_str)
  | _=>exact absurd (show false=true from hs) Bool.false_ne_true
 | byt i=>
  obtain⟨t,rfl⟩:=rx
  cases y with
  | byt j=>obtain⟨t',rfl⟩:=ry;exact PySem.W.eq_bytes (zla I q dec_byt)
  | _=>exact absurd (show false=true from hs) Bool.false_ne_true
 | _=>cases y<;>exact absurd (show false=true from hs) Bool.false_ne_true
theorem op_ne:OpR X (compareOp .NotEq) rNe:=by
 intro pins s σ H x y v u Q I rx ry h
 obtain⟨hs,q⟩:=h
 cases x with
 | non=>
  cases rx
  cases y with
  | non=>cases ry;exact PySem.EqNone.ne_none_none (zla I q (by simp))
  | bl j=>cases ry;exact PySem.EqNone.ne_none_bool (zla I q (by simp))
  | int j=>obtain⟨t',rfl⟩:=ry;exact PySem.EqNone.ne_none_int (zla I q (by simp))
  | str j=>obtain⟨t',rfl⟩:=ry;exact PySem.EqNone.ne_none_str (zla I q (by simp))
  | _=>exact absurd (show false=true from hs) Bool.false_ne_true
 | bl i=>
  cases rx
  cases y with
  | non=>cases ry;exact PySem.EqNone.ne_bool_none (zla I q (by simp))
  | bl j=>cases ry;exact ne_bool (zla I q (congrArg not dec_bl))
  | str j=>obtain⟨t',rfl⟩:=ry;exact PySem.EqMixed.ne_bool_str (zla I q (by simp))
  | _=>exact absurd (show false=true from hs) Bool.false_ne_true
 | int i=>
  obtain⟨t,rfl⟩:=rx
  cases y with
  | non=>cases ry;exact PySem.EqNone.ne_int_none (zla I q (by simp))
  | int j=>obtain⟨t',rfl⟩:=ry;exact ne_int (zla I q (congrArg not dec_int))
  | str j=>obtain⟨t',rfl⟩:=ry;exact PySem.EqMixed.ne_int_str (zla I q (by simp))
  | _=>exact absurd (show false=true from hs) Bool.false_ne_true
 | str i=>
  obtain⟨t,rfl⟩:=rx
  cases y with
  | non=>cases ry;exact PySem.EqNone.ne_str_none (zla I q (by simp))
  | bl j=>cases ry;exact PySem.EqMixed.ne_str_bool (zla I q (by simp))
  | int j=>obtain⟨t',rfl⟩:=ry;exact PySem.EqMixed.ne_str_int (zla I q (by simp))
  | str j=>obtain⟨t',rfl⟩:=ry;exact ne_str (zla I q (congrArg not dec_str))
  | _=>exact absurd (show false=true from hs) Bool.false_ne_true
 | byt i=>
  obtain⟨t,rfl⟩:=rx
  cases y with
  | byt j=>obtain⟨t',rfl⟩:=ry;exact PySem.W.ne_bytes (zla I q (congrArg not dec_byt))
  | _=>exact absurd (show false=true from hs) Bool.false_ne_true
 | _=>cases y<;>exact absurd (show false=true from hs) Bool.false_ne_true
theorem op_lt:OpR X (compareOp .Lt) (rI0 fun i j=>.bl (decide (i<j))):=opB0 fun _ _ _ _ _ _ _ q=>lt_int q
theorem op_le:OpR X (compareOp .LtE) (rI0 fun i j=>.bl (decide (i<=j))):=opB0 fun _ _ _ _ _ _ _ q=>le_int q
theorem op_gt:OpR X (compareOp .Gt) (rI0 fun i j=>.bl (decide (j<i))):=opB0 fun _ _ _ _ _ _ _ q=>gt_int q
theorem op_ge:OpR X (compareOp .GtE) (rI0 fun i j=>.bl (decide (j<=i))):=opB0 fun _ _ _ _ _ _ _ q=>ge_int q
theorem op_in_str:OpR X (compareOp .In) (fun x y H Q=>∃ i j,x = .str i/\y = .str j/\Q (.bl (!(Builtin.Str.occurrences j i 0 j.length 1).isEmpty)) H):=by
 intro pins s σ H x y v u Q I rx ry h
 obtain⟨i,j,rfl,rfl,q⟩:=h
 obtain⟨t,rfl⟩:=rx
 obtain⟨t',rfl⟩:=ry
 exact in_str (zla I q rfl)
theorem op_notN:OpR X (compareOp .IsNot) (fun x y H Q=>y = .non/\Q (.bl (!decide (x = .non))) H):=by
 intro pins s σ H x y v u Q I rx ry h
 obtain⟨rfl,q⟩:=h
 cases ry
 refine isnot_none_gen (zla I q ?_)
 cases x<;>first
  | (cases rx;rfl)
  | (obtain⟨t,rfl⟩:=rx;rfl)
theorem OpR.or {f:Value->Value->Sem Value}{r r':R2}(h:OpR X f r)(h':OpR X f r'):OpR X f (fun x y H Q=>r x y H Q ∨ r' x y H Q):=by
 intro pins s σ H x y v u Q I rx ry q
 rcases q with q | q
 ·exact h pins s σ H x y v u Q I rx ry q
 ·exact h' pins s σ H x y v u Q I rx ry q
theorem nomark (b:Expr){op:CmpOp}(h:op ≠ .In:=by decide)(h2:op ≠ .NotIn:=by decide):behindInMarks op b=false:=by
 have e1:(op == CmpOp.In)=false:=by cases op<;>first | rfl | exact absurd rfl h
 have e2:(op == CmpOp.NotIn)=false:=by cases op<;>first | rfl | exact absurd rfl h2
 cases b<;>simp [behindInMarks,e1,e2]
theorem pe_cmpR {op:CmpOp}{r:R2}(ho:OpR X (compareOp op) r)(ha:PE X a ta)(hb:PE X b tb)(hm:behindInMarks op b=false):PE X (.Compare a [op] [b] pos) (tOp r ta tb):=by
 intro pins s σ H Q I h
 exact wpAny_Compare1 (binT ha hb I h fun v u s2 x y H2 I2 rx ry q=>ho pins s2 σ H2 x y v u Q I2 rx ry q) hm
def zyn (t:TE):TT:=fun σ H Q=>t σ H fun x H'=>∃ k,x = .bl k/\Q k H'
theorem pt_cmpR {op:CmpOp}{r:R2}(ho:OpR X (compareOp op) r)(ha:PE X a ta)(hb:PE X b tb)(hm:behindInMarks op b=false):PT X (.Compare a [op] [b] pos) (zyn (tOp r ta tb)):=by
 intro pins s σ H Q I h
 refine wpAny_isTrue_Compare1 (thn (ha pins s σ H _ I h) fun v s1 ⟨x,H1,I1,r1,q1⟩=>thn (hb pins s1 σ H1 _ I1 q1) fun u s2 ⟨y,H2,I2,r2,q2⟩=>
  thn (ho pins s2 σ H2 x y v u _ I2 r1 r2 q2) fun c s3 ⟨z,H3,I3,r3,k,e,q3⟩=>?_) hm
 subst e
 cases r3
 exact wpAny_truthy_bool ⟨H3,I3,q3⟩
def tChain (r r':R2)(ta tb tc:TE):TE:=fun σ H Q=>ta σ H fun x H1=>tb σ H1 fun y H2=>r x y H2 fun z H3=>∃ k,z = .bl k ∧
 (if k=true then tc σ H3 fun w' H4=>r' y w' H4 Q else Q (.bl false) H3)
theorem pt_chain {op op':CmpOp}{r r':R2}(ho:OpR X (compareOp op) r)(ho':OpR X (compareOp op') r')(ha:PE X a ta)(hb:PE X b tb)(hc:PE X c tc)
  (hm:lastMarks [op,op'] [b,c]=false:=by with_unfolding_all rfl):PT X (.Compare a [op,op'] [b,c] pos) (zyn (tChain r r' ta tb tc)):=by
 intro pins s σ H Q I h
 refine isTrue_chain (thn (ha pins s σ H _ I h) fun v s1 ⟨x,H1,I1,r1,q1⟩=>test_link (thn (hb pins s1 σ H1 _ I1 q1) fun u s2 ⟨y,H2,I2,r2,q2⟩=>
  thn (ho pins s2 σ H2 x y v u _ I2 r1 r2 q2) fun d s3 ⟨z,H3,I3,r3,k,e,q3⟩=>?_)) hm
 subst e
 cases r3
 refine wpAny_truthy_bool ?_
 cases k with
 | false=>
  obtain⟨k',e',q'⟩:=q3
  cases e'
  exact ite_ff ⟨H3,I3,q'⟩
 | true=>
  refine ite_tt (test_last (thn (hc pins s3 σ H3 _ I3 q3) fun w' s4 ⟨z',H4,I4,r4,q4⟩=>thn (ho' pins s4 σ H4 y z' u w' _ I4 r2 r4 q4) fun d' s5 ⟨z2,H5,I5,r5,k2,e2,q5⟩=>?_))
  subst e2
  cases r5
  exact wpAny_truthy_bool ⟨H5,I5,q5⟩
def TruV (K:yF)(x:V)(H:Hp)(k:Bool):Prop:=
 match x with
 | .non=>k=false
 | .bl b=>k=b
 | .int i=>k=(i != 0)
 | .str y=>y.length<=sizeLine/\k=((y.length:Int) != 0)
 | .byt y=>y.size<=sizeLine/\k=((y.size:Int) != 0)
 | .ref p=>(∃ xs,SqL K H p xs/\k = !xs.isEmpty) ∨ (∃ xs,SqT K H p xs/\k = !xs.isEmpty) ∨ ∃ kvs,H p=some (.dK kvs)/\k = !kvs.isEmpty
 | _=>False
theorem isEmpty_kv {κ : Type}{kvs:List (κ×V)}{vs:List (κ×Value)}(r:KV kvs vs):(!vs.isEmpty) = !kvs.isEmpty:=by
 cases r<;>rfl
theorem isEmpty_of {xs:List V}{its:List Value}(r:Vals xs its):(!its.toArray.isEmpty) = !xs.isEmpty:=by
 cases r<;>simp
theorem line63:(sizeLine:Nat)<2 ^ 63:=by rw [sizeLine_eq];decide
theorem tru_ok:TruR X (fun x H Q=>∃ k,TruV X.K x H k/\Q k H):=by
 intro pins s σ H x v Q I rx h
 obtain⟨k,e,q⟩:=h
 have hl:=line63
 have hs:sizeLine=16777216:=sizeLine_eq
 cases x with
 | non=>
  cases rx
  have e':k=false:=e
  subst e'
  exact truthy_none ⟨H,I,q⟩
 | bl b=>
  cases rx
  have e':k=b:=e
  subst e'
  exact wpAny_truthy_bool ⟨H,I,q⟩
 | int i=>
  obtain⟨t,rfl⟩:=rx
  have e':k=(i != 0):=e
  subst e'
  exact PySem.P.truthy_int ⟨H,I,q⟩
 | str y=>
  obtain⟨t,rfl⟩:=rx
  obtain⟨hy,e'⟩:y.length<=sizeLine/\k=((y.length:Int) != 0):=e
  subst e'
  exact PySem.P.truthy_str (by omega) ⟨H,I.tok _,q⟩
 | byt y=>
  obtain⟨t,rfl⟩:=rx
  obtain⟨hy,e'⟩:y.size<=sizeLine/\k=((y.size:Int) != 0):=e
  subst e'
  exact PySem.W.truthy_bytes (by omega) ⟨H,I.tok _,q⟩
 | ref p=>
  cases rx
  have e':(∃ xs,SqL X.K H p xs/\k = !xs.isEmpty) ∨ (∃ xs,SqT X.K H p xs/\k = !xs.isEmpty) ∨ ∃ kvs,H p=some (.dK kvs)/\k = !kvs.isEmpty:=e
  rcases e' with⟨xs,hx,e'⟩ | ⟨xs,hx,e'⟩ | ⟨kvs,hx,e'⟩
  ·subst e'
   obtain⟨its,r,pl,hz⟩:=I.list hx
   have hlen:=r.length
   exact wpAny_truthy_list pl.isList (by simp only [List.size_toArray];omega) ⟨H,I.tok _,by rw [isEmpty_of r];exact q⟩
  ·subst e'
   obtain⟨its,r,pl,hz⟩:=I.tuple hx
   have hlen:=r.length
   exact truthy_tuple pl (by simp only [List.size_toArray];omega) ⟨H,I.tok _,by rw [isEmpty_of r];exact q⟩
  ·subst e'
   obtain⟨hz,hS,vs,r,m⟩:kvs.length<=sizeLine/\(p == sysModules)=false/\∃ vs,KV kvs vs/\s.heap.DictOf (zil X.prog X.w) p vs:=I.hok p _ hx
   have hlen:kvs.length=vs.length:=Paired.length r
   exact wpAny_truthy_dict hS m (by omega) ⟨H,I.tok _,by rw [isEmpty_kv r];exact q⟩
 | _=>exact (show False from e).elim
theorem pt_truth (ha:PE X a ta)(he:∀ whole,isTrue a X.env whole=(do let v ← whole;standAt a.pos;holding [v] (truthy v))) :
  PT X a (fun σ H Q=>ta σ H fun x H'=>∃ k,TruV X.K x H' k/\Q k H'):=by
 intro pins s σ H Q I h
 exact isTrue_plain (thn (ha pins s σ H _ I h) fun v s1 ⟨x,H1,I1,r1,q1⟩=>tru_ok pins s1 σ H1 x v Q I1 r1 q1) (he _)
theorem op_add_str:OpR X (binaryOp .Add) (fun x y H Q=>∃ i j,x = .str i/\y = .str j/\i.length+j.length<=sizeLine/\Q (.str (i++j)) H):=by
 intro pins s σ H x y v u Q I rx ry h
 obtain⟨i,j,rfl,rfl,hz,q⟩:=h
 obtain⟨t,rfl⟩:=rx
 obtain⟨t',rfl⟩:=ry
 exact add_str (fun t' tk=>⟨.str (i++j),H,I.tok _,⟨_,rfl⟩,q⟩) hz
theorem vals1 {x:V}{us:List Value}(r:Vals [x] us):∃ u,us = [u]/\RelV x u:=by
 cases r with
 | cons r1 r2=>cases r2;exact⟨_,rfl,r1⟩
theorem vals2 {x y:V}{us:List Value}(r:Vals [x,y] us):∃ u w',us = [u,w']/\RelV x u/\RelV y w':=by
 cases r with
 | cons r1 r2=>
  cases r2 with
  | cons r3 r4=>cases r4;exact⟨_,_,rfl,r1,r3⟩
theorem call_max2 (hc:X.calm=true):CallR X (.builtin "max") (fun xs H Q=>∃ i j,xs = [.int i,.int j]/\Q (.int (if j > i then j else i)) H):=by
 intro pins s σ H xs us Q I r h
 obtain⟨i,j,rfl,q⟩:=h
 obtain⟨u,w',rfl,⟨t,rfl⟩,⟨t',rfl⟩⟩:=vals2 r
 refine max_two_ints (I.ok.hd hc) fun h' tk k=>⟨_,H,I.kept k,?_,q⟩
 by_cases hj:j > i
 ·rw [if_pos hj,if_pos hj];exact⟨_,rfl⟩
 ·rw [if_neg hj,if_neg hj];exact⟨_,rfl⟩
theorem call_min2 (hc:X.calm=true):CallR X (.builtin "min") (fun xs H Q=>∃ i j,xs = [.int i,.int j]/\Q (.int (if j<i then j else i)) H):=by
 intro pins s σ H xs us Q I r h
 obtain⟨i,j,rfl,q⟩:=h
 obtain⟨u,w',rfl,⟨t,rfl⟩,⟨t',rfl⟩⟩:=vals2 r
 refine min_two_ints (I.ok.hd hc) fun h' tk k=>⟨_,H,I.kept k,?_,q⟩
 by_cases hj:j<i
 ·rw [if_pos hj,if_pos hj];exact⟨_,rfl⟩
 ·rw [if_neg hj,if_neg hj];exact⟨_,rfl⟩
theorem call_int1:CallR X (.type "int") (fun xs H Q=>(∃ i,xs = [.int i]/\Q (.int i) H) ∨ ∃ k,xs = [.bl k]/\Q (.int (if k then 1 else 0)) H):=by
 intro pins s σ H xs us Q I r h
 rcases h with⟨i,rfl,q⟩ | ⟨k,rfl,q⟩
 ·obtain⟨u,rfl,t,rfl⟩:=vals1 r
  exact call_int_int ⟨.int i,H,I,⟨_,rfl⟩,q⟩
 ·obtain⟨u,rfl,r1⟩:=vals1 r
  cases r1
  exact call_int_bool ⟨.int (if k then 1 else 0),H,I.tok _,⟨_,rfl⟩,q⟩
end
structure ObjM (h:Heap)(x dx C:Addr)(mA:Str->Option Value):Prop where
 obj:h.get? x=some (PySem.W.instObj C dx)
 ns:h.Ns1 dx mA
 ne:dx≠x
section
variable  {prog:Program}{w:World}{A:Around}{E:Value->Shared->Prop}{s:Shared}{K:yF}{x dx C f:Addr}{mA:Str->Option Value}{name:Str}{v:Value}
end
section
variable  {P:Program}{w:World}{H H':Hp}{h h':Heap}{a C dx:Addr}{fs fs':List (Str×V)}
end
structure Cls (K:yF)(C:Addr):Prop where
 pg:PySem.W.plainGet K C Str.empty=true
 hd:PySem.W.hasDictIn K C=true
 po:PySem.W.plainOver K C=true
 sa:PySem.W.findIn K (.ref C) "__setattr__" = some (some (.builtin "object.__setattr__"))
structure Con (K:yF)(C:Addr)(f:Str)(v:V)(u:Value):Prop where
 at_:PySem.W.findIn K (.ref C) f=some (some u)
 rel:RelV v u
 get:PySem.W.specialIn K u "__get__" = some none
 cp:PySem.W.copiedNames.contains f=false
structure Meth (K:yF)(C:Addr)(m:Str)(f:Addr):Prop where
 at_:PySem.W.findIn K (.ref C) m=some (some (.ref f))
 fn:PySem.W.isFn K (.ref f)=true
 kp:PySem.W.keepIn K (.ref f)=true
section
variable  {X:Cx}{pins:List (Addr×Obj)}{σ:St}{H:Hp}{s:Shared}{a C dx:Addr}{fs:List (Str×V)}{f:Str}{v:V}{A:Around}{E:Value->Shared->Prop}
end
section
variable  {X:Cx}{o e value:Expr}{f:Str}{pos pos' tpos:Pos}{ta tv:TE}
end
section
variable  {X:Cx}{pins:List (Addr×Obj)}{σ:St}{H:Hp}{s:Shared}{A:Around}{E:Value->Shared->Prop}{Q:Value->Shared->Prop}{c:Value}{b:Bool}
inductive TyOf (K:yF) (H:Hp):V->Value->Prop where
 | non:TyOf K H .non (.type "NoneType")
 | bl (x:Bool):TyOf K H (.bl x) (.type "bool")
 | int (i:Int):TyOf K H (.int i) (.type "int")
 | str (x:Str):TyOf K H (.str x) (.type "str")
 | flt (x:UInt64):TyOf K H (.flt x) (.type "float")
 | lst {a:Addr} {xs:List V} (e:H a=some (.lst xs)):TyOf K H (.ref a) (.type "list")
 | frz {a:Addr} {o:Obj} {xs:List V} (e:H a=some (.frz o (.lst xs))):TyOf K H (.ref a) (.type "list")
 | tup {a:Addr} {xs:List V} (e:H a=some (.tup xs)):TyOf K H (.ref a) (.type "tuple")
 | dK {a:Addr} {kvs:List (Key×V)} (e:H a=some (.dK kvs)):TyOf K H (.ref a) (.type "dict")
 | dT {a:Addr} {kvs:List (List Key×V)} (e:H a=some (.dT kvs)):TyOf K H (.ref a) (.type "dict")
 | ins {a C dx:Addr} {fs:List (Str×V)} (e:H a=some (.ins C dx fs)) (cl:Cls K C) (ha:PySem.W.findIn K (.ref C) "__class__" = some (some (.builtin "object.__class__")))
   (hn:PySem.W.specialIn K (.builtin "object.__class__") "__get__" = some (some (.builtin "getset_descriptor.__get__"))) (htk:PySem.W.takesIn K (.builtin "object.__class__")=some true)
   (hm:PySem.W.mroIn K C (.type "object")=some true):TyOf K H (.ref a) (.ref C)
end
structure Room (k:Nat)(A:Around):Prop where
 hd:A.handled=none
 dp:A.depth+3 * k+5<recursionLimit
 un:A.units+16 * k+200<cLine
theorem Room.mono {j k:Nat}{A:Around}(r:Room k A)(h:j<=k):Room j A:=⟨r.hd,by have:=r.dp;omega,by have:=r.un;omega⟩
theorem Room.deeper {k:Nat}{A:Around}(r:Room (k+1) A)(env:Env):Room k (A.deeper env):=
 ⟨r.hd,by have:=r.dp;show A.depth+1+3 * k+5<_;omega,by have:=r.un;show A.units+3+16 * k+200<_;omega⟩
theorem Room.in1 {k:Nat}{A:Around}(r:Room (k+1) A):Room k A.in1:=
 ⟨r.hd,by have:=r.dp;show A.depth+3 * k+5<_;omega,by have:=r.un;show A.units+1+16 * k+200<_;omega⟩
theorem Room.depth {k:Nat}{A:Around}(r:Room k A):A.depth<recursionLimit:=by have:=r.dp;omega
theorem Room.units {k:Nat}{A:Around}(r:Room k A):A.units+64<cLine:=by have:=r.un;omega
def tNil:TA:=fun _ H Q=>Q [] H
def zfn (ta:TE)(tr:TA):TA:=fun σ H Q=>ta σ H fun x H1=>tr σ H1 fun xs H2=>Q (x::xs) H2
section
variable  {X:Cx}{e:Expr}{es:List Expr}{te:TE}{t:TA}{pos:Pos}
theorem pa_nil:PA X [] tNil:=fun _ _ _ _ H Q I h=>Calls.spliced_nil ⟨[],H,I,.nil,h⟩
theorem pa_cons (ha:PE X e te)(hr:PA X es t)(hs:starEach (e::es) X.env=(false,eval e X.env)::starEach es X.env:=by rfl):PA X (e::es) (zfn te t):=by
 intro pos pins s σ H Q I h
 rw [hs]
 show wpAny _ _ (spliced ((false,eval e X.env)::backTo pos (starEach es X.env))) _ _ s
 refine Calls.spliced_cons (thn (ha pins s σ H _ I h) fun u s1 ⟨x,H1,I1,r1,q1⟩=>?_)
 exact thn (hr pos pins s1 σ H1 _ I1 q1) fun us s2 ⟨xs,H2,I2,r2,q2⟩=>⟨x::xs,H2,I2,.cons r1 r2,q2⟩
def tTup (t:TA):TE:=fun σ H Q=>t σ H fun xs H1=>xs.length<=sizeLine/\∀ p,H1 p=none->Q (.ref p) (upd H1 p (.tup xs))
def tLst (t:TA):TE:=fun σ H Q=>t σ H fun xs H1=>xs.length<=sizeLine/\∀ p,H1 p=none->Q (.ref p) (upd H1 p (.lst xs))
theorem pe_tup {x1}(h:PA X es t):PE X (.Tuple es x1 pos) (tTup t):=by
 intro pins s σ H Q I hq
 refine wpAny_Tuple_spliced (thn (h pos pins s σ H _ I hq) fun us s1 ⟨xs,H1,I1,r,z,q⟩=>⟨by rw [← r.length];exact z,?_⟩)
 have hf:H1 s1.heap.objs.size=none:=I1.hok.fresh (Nat.le_refl _)
 refine⟨.ref s1.heap.objs.size,upd H1 s1.heap.objs.size (.tup xs),I1.laid (t':=s1.toks) (fun b u e=>Heap.get?_push_of_some _ e) (Nat.le_refl _) ?_,rfl,q _ hf⟩
 exact⟨z,us,r,⟨_,Heap.get?_push_size _ rfl,rfl,_,rfl⟩⟩
theorem pe_lst (h:PA X es t):PE X (.List es pos) (tLst t):=by
 intro pins s σ H Q I hq
 refine wpAny_List_spliced (thn (h pos pins s σ H _ I hq) fun us s1 ⟨xs,H1,I1,r,z,q⟩=>⟨by rw [← r.length];exact z,?_⟩)
 have hf:H1 s1.heap.objs.size=none:=I1.hok.fresh (Nat.le_refl _)
 refine⟨.ref s1.heap.objs.size,upd H1 s1.heap.objs.size (.lst xs),I1.laid (t':=s1.toks) (fun b u e=>Heap.get?_push_of_some _ e) (Nat.le_refl _) ?_,rfl,q _ hf⟩
 exact⟨z,us,0,r,Heap.get?_push_size _ rfl⟩
end
abbrev Sp:=List V->Hp->VK->XK->Prop
abbrev CXT:=List Env->Hp->Shared->XK->Value->Shared->Prop
structure Env0 (P:Program)(w:World)(K:yF)(mg:Str->Option Value)(base:Heap)(A:Around)(outer:List Env)(s:Shared)(H:Hp):Prop where
 frames:A.frames=some outer
 mod:Mod K mg base
 bs:∀ b o,base.get? b=some o->s.heap.get? b=some o/\H b=none
 bsz:base.objs.size<=s.heap.objs.size
 funs:s.heap.FunFrames base outer
 frf:∀ b∈frs outer,H b=none
 hok:HOk P w H s.heap
 bare:AllBare s.gens
def CE (outer:List Env)(P:Program)(w:World)(H:Hp)(s:Shared)(Q:VK)(u:Value)(s':Shared):Prop:=
 ∃ v H',s'.os=s.os/\AllBare s'.gens/\Un (frs outer) [] H H' s.heap s'.heap/\HOk P w H' s'.heap/\RelV v u/\Q v H'
def CR (CX:CXT)(outer:List Env)(P:Program)(w:World)(H:Hp)(s:Shared)(Q:VK)(E:XK)(r:Result)(s':Shared):Prop:=
 match r with
 | .ok (.ret u)=>CE outer P w H s Q u s'
 | .ok _=>False
 | .error e=>CX outer H s E e s'
structure FnOk (P:Program)(w:World)(K:yF)(mg:Str->Option Value)(base:Heap)(CX:CXT)(k:Nat)(f:Addr)(fd:FuncData)(ps:List Str)(sp:Sp):Prop where
 len:∀ vs H Q E,sp vs H Q E->vs.length=ps.length
 run:∀ (A:Around) (outer:List Env) (s:Shared) (H:Hp) (args:Args) (us:List Value) (vs:List V) (Q:VK) (E:XK),Room k A->Env0 P w K mg base A outer s H->BindsTo s fd args (ps.zip us)->Vals vs us->sp vs H Q E →
  codeAny (model P w) A (.call (.ref f) args) (CR CX outer P w H s Q E) s
theorem Env0.in1 {P:Program}{w:World}{K:yF}{mg:Str->Option Value}{base:Heap}{A:Around}{outer:List Env}{s:Shared}{H:Hp}(e:Env0 P w K mg base A outer s H) :
  Env0 P w K mg base A.in1 outer s H:=⟨e.frames,e.mod,e.bs,e.bsz,e.funs,e.frf,e.hok,e.bare⟩
section
variable  {X:Cx}{pins:List (Addr×Obj)}{σ:St}{H:Hp}{s s':Shared}
theorem Inv.env0 (I:Inv X pins σ H s):Env0 X.prog X.w X.K X.mg X.base X.A X.stack s H:=
 ⟨I.ok.frames,I.ok.mod,I.bs,Nat.le_trans I.ok.bsz I.sz,I.stack,I.stkFree,I.hok,I.bare⟩
theorem Inv.after {Q:VK}{u:Value}(I:Inv X pins σ H s)(h:CE X.stack X.prog X.w H s Q u s'):EP X pins σ Q u s':=by
 obtain⟨v,H',os,bare,un,hok,r,q⟩:=h
 obtain⟨hh,g,d,t,os'⟩:=s'
 obtain rfl:os'=s.os:=os
 exact⟨v,H',I.call (h':=hh) (g':=g) (d':=d) (t':=t) (ch:=[]) un hok bare (fun b z=>absurd z (by simp)),r,q⟩
end
def zul (sp:Sp)(dvs:List V)(E:XK)(t:TA):TE:=fun σ H Q=>t σ H fun vs H1=>sp (vs++dvs) H1 Q E
def Binds (K:yF)(fd:FuncData)(ps:List Str)(ds:List Value):Prop:=
 ∀ (s:Shared) (us:List Value),K.In s.heap->(us++ds).length=ps.length->BindsTo s fd ⟨us,[]⟩ (ps.zip (us++ds))
theorem Binds.all {K:yF}{fd:FuncData}{ps:List Str}(h:∀ us:List Value,us.length=ps.length->bindArgs fd ⟨us,[]⟩=pure (ps.zip us)):Binds K fd ps []:=fun s us _ hl=>by
 rw [List.append_nil] at hl ⊢
 exact .of_eq (h us hl)
def Passes (CX:CXT)(X:Cx)(E:XK):Prop:=∀ (pins:List (Addr×Obj)) (σ:St) (H:Hp) (s:Shared) (e:Value) (s':Shared),Inv X pins σ H s->CX X.stack H s E e s'->X.xe e s'
section
variable  {X:Cx}{CX:CXT}{k:Nat}{f C:Addr}{fd:FuncData}{ps:List Str}{sp:Sp}{dvs:List V}{ds:List Value}{E:XK}{x m:Str}{p pos apos:Pos}{e o:Expr}{es:List Expr}{ta:TE}{t:TA}
theorem run_fn {pins:List (Addr×Obj)}{σ:St}{H:Hp}{s:Shared}{Q:VK}{us:List Value}{vs:List V}(F:FnOk X.prog X.w X.K X.mg X.base CX k f fd ps sp)(hr:Room k X.A)(hb:Binds X.K fd ps ds)(hd:Vals dvs ds)(hx:Passes CX X E)
  (I:Inv X pins σ H s) (r:Vals vs us) (h:sp (vs++dvs) H Q E):wpAny (model X.prog X.w) X.A (call (.ref f) us) (EP X pins σ Q) X.xe s:=by
 have r2:Vals (vs++dvs) (us++ds):=r.append hd
 have hl:(us++ds).length=ps.length:=by rw [← r2.length];exact F.len _ _ _ _ h
 refine wpAny_call (codeAny_mono (F.run X.A X.stack s H ⟨us,[]⟩ (us++ds) (vs++dvs) Q E hr I.env0 (hb s us I.kIn hl) r2 h) fun r s' hq=>?_)
 cases r with
 | error e=>exact hx pins σ H s e s' I hq
 | ok fl=>
  cases fl with
  | ret u=>exact I.after hq
  | next=>exact False.elim hq
  | brk=>exact False.elim hq
  | cont=>exact False.elim hq
theorem pe_call (F:FnOk X.prog X.w X.K X.mg X.base CX k f fd ps sp)(hr:Room k X.A)(hg:Gl X x)(hm:X.mg x=some (.ref f))(hk:PySem.W.keepIn X.K (.ref f)=true)(hb:Binds X.K fd ps ds)(hd:Vals dvs ds)(hx:Passes CX X E)
  (ha:PA X (e::es) t) (hdb:(x == ("__debug__" : Str))=false:=by decide) (he:starEach (e::es) X.env=(false,eval e X.env)::starEach es X.env:=by rfl) (hpl:(backTo pos (starEach es X.env)).any (·.1)=false:=by rfl) :
  PE X (.Call (.Name x p) (e::es) [] pos) (zul sp dvs E t):=by
 intro pins s σ H Q I h
 refine wpAny_Call_Name_kw (ld_glob I hg hm ?_ hdb)
 refine PySem.W.callWith_K (h₀:=X.base) I.ok.mod.kin hk (thn (ha pos pins s σ H _ I h) fun us s1 ⟨vs,H1,I1,r,q⟩=>⟨I1.kIn,?_⟩) he hpl
 exact run_fn F hr hb hd hx I1 r q
end
section
variable  {X:Cx}{CX:CXT}{k:Nat}{f C:Addr}{fd:FuncData}{ps ks:List Str}{sp:Sp}{E:XK}{x m:Str}{p pos apos kpos:Pos}{e o:Expr}{es:List Expr}{kws:List Keyword}{te ta:TE}{t tk:TA}{nm:Option Str}
structure KBinds (K:yF)(fd:FuncData)(ps ks:List Str)(g:List Value->List Value->List Value)(gV:List V->List V->List V):Prop where
 to:∀ (s:Shared) (us ws:List Value),K.In s.heap->(g us ws).length=ps.length->BindsTo s fd ⟨us,ks.zip ws⟩ (ps.zip (g us ws))
 rel:∀ {vs:List V} {us:List Value} {zs:List V} {ws:List Value},Vals vs us->Vals zs ws->Vals (gV vs zs) (g us ws)
variable  {g:List Value->List Value->List Value}{gV:List V->List V->List V}
end
structure FnScope (N P:List Str)(sc:Scope):Prop where
 kind:sc.kind = .function
 co:sc.isCoroutine=false
 gen:sc.isGenerator=false
 nd:N.Nodup
 pre:N.take P.length=P
 par:∀ x∈P,sc.names.lookup x=some .local ∨ sc.names.lookup x=some .cell
 nofree:∀ y∈sc.names,y.2 ≠ .free
theorem bindL_out {kindOf:Str->Option NameKind}{x:Str}:∀ {binds:List (Str×Value)} {m:Str->Option Value},(∀ v,(x,v) ∉ binds)->bindL kindOf binds m x=m x
 | [],_,_=>rfl
 | (n,v)::r,m,h=>by
  unfold bindL
  rw [bindL_out fun w hw=>h w (ymC _ hw)]
  split
  ·have:x≠n:=by rintro rfl;exact h v ymS
   simp [this]
  ·rfl
theorem bindC_out {kindOf:Str->Option NameKind}{x:Str}:∀ {binds:List (Str×Value)} {m:Str->Option Value},(∀ v,(x,v) ∉ binds)->bindC kindOf binds m x=m x
 | [],_,_=>rfl
 | (n,v)::r,m,h=>by
  unfold bindC
  rw [bindC_out fun w hw=>h w (ymC _ hw)]
  split
  ·rfl
  ·have:x≠n:=by rintro rfl;exact h v ymS
   simp [this]
theorem bindL_get {kindOf:Str->Option NameKind}{x:Str}{v:Value}:∀ {P:List Str} {vs:List Value} {i:Nat} {m:Str->Option Value},P.Nodup->P[i]?=some x->vs[i]?=some v->kindOf x=some .local →
  bindL kindOf (P.zip vs) m x=some v
 | [],_,_,_,_,h,_,_=>by simp at h
 | _::_,[],_,_,_,_,h,_=>by simp at h
 | p::P,w::vs,0,m,nd,h1,h2,hk=>by
  simp at h1 h2;subst h1;subst h2
  show bindL kindOf ((p,w)::P.zip vs) m p=_
  unfold bindL
  rw [bindL_out fun v hv=>(List.nodup_cons.mp nd).1 (List.of_mem_zip hv).1,if_pos hk]
  simp
 | p::P,w::vs,i+1,m,nd,h1,h2,hk=>by
  show bindL kindOf ((p,w)::P.zip vs) m x=_
  unfold bindL
  exact bindL_get (i:=i) (List.nodup_cons.mp nd).2 (by simpa using h1) (by simpa using h2) hk
theorem bindC_get {kindOf:Str->Option NameKind}{x:Str}{v:Value}:∀ {P:List Str} {vs:List Value} {i:Nat} {m:Str->Option Value},P.Nodup->P[i]?=some x->vs[i]?=some v->kindOf x≠some .local →
  bindC kindOf (P.zip vs) m x=some v
 | [],_,_,_,_,h,_,_=>by simp at h
 | _::_,[],_,_,_,_,h,_=>by simp at h
 | p::P,w::vs,0,m,nd,h1,h2,hk=>by
  simp at h1 h2;subst h1;subst h2
  show bindC kindOf ((p,w)::P.zip vs) m p=_
  unfold bindC
  rw [bindC_out fun v hv=>(List.nodup_cons.mp nd).1 (List.of_mem_zip hv).1,if_neg hk]
  simp
 | p::P,w::vs,i+1,m,nd,h1,h2,hk=>by
  show bindC kindOf ((p,w)::P.zip vs) m x=_
  unfold bindC
  exact bindC_get (i:=i) (List.nodup_cons.mp nd).2 (by simpa using h1) (by simpa using h2) hk
noncomputable def start (N:List Str) (vs:List V):St:=vs.map some++List.replicate (N.length - vs.length) none
noncomputable def cxOf (CX:CXT) (P:Program) (w:World) (K:yF) (mg:Str->Option Value) (base:Heap) (N:List Str) (qual:Str) (scope:Scope) (f:Addr) (cd:Value) (A:Around) (outer:List Env) (s:Shared) (H:Hp) (E:XK):Cx where
 prog:=P
 w:=w
 K:=K
 mg:=mg
 base:=base
 A:=A.deeper (envOfC qual scope s.heap.objs.size f cd)
 N:=N
 s₀:=s
 H₀:=H
 env:=envOfC qual scope s.heap.objs.size f cd
 outer:=outer
 stack:=envOfC qual scope s.heap.objs.size f cd::outer
 ex:=[]
 calm:=true
 fn:=fun _=>true
 pn:=[]
 xe:=fun e s'=>wpAny (model P w) (A.deeper (envOfC qual scope s.heap.objs.size f cd)) (leaving (envOfC qual scope s.heap.objs.size f cd) e) (fun _ s''=>CX outer H s E e s'') (fun e' s''=>CX outer H s E e' s'') s'
theorem cell_has {sc:Scope}{n:Nat}{x:Str}(h:sc.names.lookup x=some .cell):∃ c,(cellsFrom n sc.names []).lookup x=some c:=by
 have q:=PySem.W.cellsFrom_some sc.names n [] (.inl h)
 exact Option.isSome_iff_exists.mp q
theorem inv_start {CX:CXT}{P:Program}{w:World}{K:yF}{mg:Str->Option Value}{base:Heap}{N ps:List Str}{qual:Str}{scope:Scope}{f:Addr}{cd:Value}{A:Around}{outer:List Env}{s s1:Shared}{H:Hp}{E:XK}{us:List Value}{vs:List V}
  (S:FnScope N ps scope) (hd:A.handled=none) (e0:Env0 P w K mg base A outer s H) (hl:vs.length=ps.length) (r:Vals vs us)
  (x:InCallC s s.heap.objs.size (bindL (envOfC qual scope s.heap.objs.size f cd).kindOf (ps.zip us) fun _=>none) (cellsFrom (s.heap.objs.size+1) scope.names []) (bindC (envOfC qual scope s.heap.objs.size f cd).kindOf (ps.zip us) fun _=>none) s1) :
  Inv (cxOf CX P w K mg base N qual scope f cd A outer s H E) [] (start N vs) H s1:=by
 have hpl:ps.length<=N.length:=by have:=congrArg List.length S.pre;rw [List.length_take] at this;omega
 obtain⟨h1,tk,rfl,hk⟩:=x.done
 have noA:∀ b:Addr,b ∉ (cxOf CX P w K mg base N qual scope f cd A outer s H E).ex:=fun b z=>absurd (show b∈([]:List Addr) from z) (by simp)
 refine⟨⟨e0.mod,S.kind,rfl,rfl,Nat.le_refl _,fun y z c h1 h2=>?_,fun y hy=>?_,fun y c _ h=>?_,fun _=>hd,Around.frames_deeper e0.frames,.inr ⟨rfl,rfl⟩,fun b z=>absurd z (noA b),e0.bs,e0.bsz,fun b _ _=>noA b,fun b z=>absurd z (noA b),e0.funs,e0.frf⟩,
  rfl,e0.bare,Un.kept hk,⟨_,x.toInCall.ns,fun i y v h1 h2 h3=>?_⟩,fun y c h=>⟨_,x.cell y c h⟩,e0.hok.fresh (Nat.le_refl _),fun y c h=>?_,fun p hp=>absurd (show p∈([]:List (Addr×Obj)) from hp) (by simp),e0.hok.kept hk,?_⟩
 ·exact name_of_addr x.apart (PySem.mem_of_lookup h1) (PySem.mem_of_lookup h2)
 ·have hy:scope.names.lookup y=some .cell ∨ scope.names.lookup y=some .free:=hy
  rcases hy with hy | hy
  ·exact cell_has hy
  ·exact absurd rfl (S.nofree _ (PySem.mem_of_lookup hy))
 ·exact Nat.le_of_lt (x.above y c (PySem.mem_of_lookup h))
 ·have hi:i<vs.length:=by
   unfold start at h2
   by_cases hi:i<vs.length
   ·exact hi
   ·rw [List.getElem?_append_right (by simpa using hi)] at h2
    rw [List.getElem?_replicate] at h2
    split at h2<;>cases h2
  have ha:vs[i]?=some v:=by
   unfold start at h2
   rw [List.getElem?_append_left (by simpa using hi),List.getElem?_map] at h2
   cases e:vs[i]? with
   | none=>rw [e] at h2;cases h2
   | some a=>rw [e] at h2;cases h2;rfl
  obtain⟨u,hu,rv⟩:=r.get ha
  have hp:ps[i]?=some y:=by
   rw [← S.pre,List.getElem?_take_of_lt (by omega)];exact h1
  have ndP:ps.Nodup:=by rw [← S.pre];exact S.nd.sublist (List.take_sublist _ _)
  refine⟨u,rv,?_⟩
  rcases S.par y (ymG hp) with k | k
  ·exact .inl ⟨k,bindL_get ndP hp hu k⟩
  ·obtain⟨c,e⟩:=cell_has (n:=s.heap.objs.size+1) k
   refine .inr ⟨.inl k,c,e,?_⟩
   have q:=x.cell y c e
   rw [bindC_get ndP hp hu (by show scope.names.lookup y≠_;rw [k];decide)] at q
   exact q
 ·exact e0.hok.fresh (Nat.le_of_lt (x.above y c (PySem.mem_of_lookup h)))
 ·unfold start
  show _=N.length
  rw [List.length_append,List.length_map,List.length_replicate]
  omega
theorem fn_of {CX:CXT}{P:Program}{w:World}{K:yF}{mg:Str->Option Value}{base:Heap}{k:Nat}{f:Addr}{name qual:Str}{params:Arguments}{body:List Stmt}{scope:Scope}{dV kV doc pm cdv ct oc:Value}{an od:Option Addr}
  {osl:Array (Option Value)} {N ps:List Str} {sp:Sp} (lk:K.lookup f=some ⟨oc,od,.func (PySem.W.fnOf name qual params body scope dV kV doc pm an cdv ct),osl⟩) (hcd:PySem.W.codeIn K cdv qual=true) (S:FnScope N ps scope)
  (len:∀ vs H Q E,sp vs H Q E->vs.length=ps.length)
  (hbody:∀ (A:Around) (outer:List Env) (s:Shared) (H:Hp) (vs:List V) (Q:VK) (E:XK),Room k (A.deeper (envOfC qual scope s.heap.objs.size f cdv))->sp vs H Q E →
   ∃ t,PSs (cxOf CX P w K mg base N qual scope f cdv A outer s H E) body t/\t { nx:=fun _ H'=>Q .non H',rt:=Q } (start N vs) H) :
  FnOk P w K mg base CX (k+1) f (PySem.W.fnOf name qual params body scope dV kV doc pm an cdv ct) ps sp:=by
 refine⟨len,fun A outer s H args us vs Q E hr e0 hb r hsp=>?_⟩
 have hl:=len _ _ _ _ hsp
 have KX:K.In s.heap:=e0.mod.kin.keeps fun b o e=>(e0.bs b o e).1
 have lim:s.heap.NoLimit:=e0.mod.nolimit.keeps fun b o e=>(e0.bs b o e).1
 have hkind:∀ y∈ps.zip us,scope.names.lookup y.1=some .local ∨ (scope.names.lookup y.1=some .cell/\((cellsFrom (s.heap.objs.size+1) scope.names []).lookup y.1).isSome=true):=fun⟨n,v⟩ hy=>by
  rcases S.par n (List.of_mem_zip hy).1 with q | q
  ·exact .inl q
  ·exact .inr ⟨q,PySem.W.cellsFrom_some _ _ _ (.inl q)⟩
 refine codeAny_call_function hr.depth (KX _ _ lk) rfl S.co S.gen rfl (PySem.W.codeRec_of KX hcd) (hb _ _ _ _ ?_)
 refine wpAny_newFunctionEnv_cells S.kind hkind fun env he s1 x=>?_
 subst he
 refine⟨lim.keeps x.toInCall.keep,codeAny_func ?_⟩
 obtain⟨t,ht,hq⟩:=hbody A outer s H vs Q E (hr.deeper _) hsp
 have I:Inv (cxOf CX P w K mg base N qual scope f cdv A outer s H E) [] (start N vs) H s1:=inv_start S hr.hd e0 hl r x
 refine wpAny_mono (ht [] s1 (start N vs) H _ I hq) (fun fl s' hs=>?_) fun e s' hs=>hs
 have fin:∀ {σ':St} {H':Hp} {v:V} {u:Value},Inv (cxOf CX P w K mg base N qual scope f cdv A outer s H E) [] σ' H' s'->RelV v u->Q v H'->CE outer P w H s Q u s':=
  fun {σ' H' v u} J rv q=>⟨v,H',J.os,J.bare,J.base,J.hok,rv,q⟩
 cases fl with
 | ret u=>
  obtain⟨v,σ',H',J,rv,q⟩:=hs
  exact fin J rv q
 | next=>
  obtain⟨σ',H',J,q⟩:=hs
  exact fin (v:=V.non) (u:=Value.none) J rfl q
 | brk=>
  obtain⟨_,_,_,q⟩:=hs
  exact False.elim q
 | cont=>
  obtain⟨_,_,_,q⟩:=hs
  exact False.elim q
section
variable  {X:Cx}{x:Str}{p pos:Pos}{e:Expr}{es:List Expr}{t:TA}{id T:String}{r:List V->Hp->VK->Prop}
def tCB (r:List V->Hp->VK->Prop)(t:TA):TE:=fun σ H Q=>t σ H fun vs H1=>r vs H1 Q
theorem pe_callB (hc:CallR X (.builtin id) r)(hg:Gl X x)(hm:X.mg x=none)(hv:bootBuiltins x=some (.builtin id))(ha:PA X (e::es) t)(hn:x ≠ "__name__" :=by decide)(hdb:(x == ("__debug__" : Str))=false:=by decide)
  (he:starEach (e::es) X.env=(false,eval e X.env)::starEach es X.env:=by rfl) (hpl:(backTo pos (starEach es X.env)).any (·.1)=false:=by rfl):PE X (.Call (.Name x p) (e::es) [] pos) (tCB r t):=by
 intro pins s σ H Q I h
 refine wpAny_Call_Name_kw (znk I hg hm hv ?_ hn hdb)
 exact PyProof.Rows.callWith_builtin1 (thn (ha pos pins s σ H _ I h) fun us s1 ⟨vs,H1,I1,r1,q1⟩=>hc pins s1 σ H1 vs us Q I1 r1 q1) he hpl
theorem pe_callTy (hc:CallR X (.type T) r)(hg:Gl X x)(hm:X.mg x=none)(hv:bootBuiltins x=some (.type T))(ha:PA X (e::es) t)(hn:x ≠ "__name__" :=by decide)(hdb:(x == ("__debug__" : Str))=false:=by decide)
  (he:starEach (e::es) X.env=(false,eval e X.env)::starEach es X.env:=by rfl) (hpl:(backTo pos (starEach es X.env)).any (·.1)=false:=by rfl):PE X (.Call (.Name x p) (e::es) [] pos) (tCB r t):=by
 intro pins s σ H Q I h
 refine wpAny_Call_Name_kw (znk I hg hm hv ?_ hn hdb)
 exact PyProof.Rows.callWith_type1 (thn (ha pos pins s σ H _ I h) fun us s1 ⟨vs,H1,I1,r1,q1⟩=>hc pins s1 σ H1 vs us Q I1 r1 q1) he hpl
end
end L2
namespace HT
open PySem PyProof.Rows
section
open PySem.SeqAt
open PySem.AutoSeq1 (wpAny_loadPart')
open PySem.MeetsSeq PySem.MeetsSeq2 PySem.MeetsSeq3
end
section
variable  {prog:Program}{w:World}{A:Around}{E:Value->Shared->Prop}{s:Shared}
theorem cat_tup {t b:Addr}{vs ws:List Value}{Q:Value->Shared->Prop}(ht:IsTup s.heap t vs.toArray)(hb:IsTup s.heap b ws.toArray)(hv:vs≠[])
  (h1:ws = []->Q (.ref t) s) (h2:ws≠[]->Q (.ref s.heap.objs.size) { s with heap:=s.heap.push { cls:=.type "tuple",data:=.seq (vs++ws).toArray } })
  (hsz:vs.length+ws.length<=sizeLine):wpAny (model prog w) A (binaryOp .Add (.ref t) (.ref b)) Q E s:=by
 obtain⟨⟨cls,dd,data,sl⟩,ho,hc,n,hd⟩:=id ht
 obtain⟨⟨cls2,dd2,data2,sl2⟩,ho2,hc2,n2,hd2⟩:=id hb
 simp only at hc hd hc2 hd2
 subst hc hd hc2 hd2
 have e:vs.toArray++ws.toArray=(vs++ws).toArray:=by simp
 by_cases hw:ws = []
 ·exact concat_meets ⟨_,ho,rfl⟩ ⟨_,ho2,rfl⟩ noFill_tuple_add seq_tuple_add PySem.F.slot_tuple_add PySem.F.entry_tuple_add (PySem.F.args_tuple_add_2 _ _)
   (tuple_addW1 t b vs.toArray ws.toArray n n2 dd dd2 sl sl2 (by simpa using hv) (by simp [hw])) ⟨ho,ho2,h1 hw⟩
 ·refine concat_meets ⟨_,ho,rfl⟩ ⟨_,ho2,rfl⟩ noFill_tuple_add seq_tuple_add PySem.F.slot_tuple_add PySem.F.entry_tuple_add (PySem.F.args_tuple_add_2 _ _)
   (tuple_addW2 t b vs.toArray ws.toArray n n2 dd dd2 sl sl2 (by simpa using hv) (by simpa using hw) (by rw [List.size_toArray,List.size_toArray];exact hsz)) ⟨ho,ho2,?_⟩
  rw [e]
  exact h2 hw
noncomputable def sIx (n d:Nat):Option Int->Nat
 | none=>d
 | some v=>if v<0 then (v+(n:Int)).toNat else min v.toNat n
theorem sIx_none (n d:Nat):sIx n d none=d:=rfl
theorem sIx_nat (n d k:Nat):sIx n d (some (k:Int))=min k n:=by
 show (if (k:Int)<0 then ((k:Int)+(n:Int)).toNat else min (k:Int).toNat n)=min k n
 rw [if_neg (by omega),Int.toNat_natCast]
theorem sIx_le (n d:Nat)(hd:d<=n)(o:Option Int):sIx n d o<=n:=by
 cases o with
 | none=>exact hd
 | some v=>
  show (if v<0 then (v+(n:Int)).toNat else min v.toNat n)<=n
  by_cases hv:v<0
  ·rw [if_pos hv];omega
  ·rw [if_neg hv];exact Nat.min_le_right _ _
theorem clip_eq (v:Int)(n d:Nat):(if v<0 then max (v+(n:Int)) 0 else min v (n:Int))=((sIx n d (some v):Nat):Int):=by
 show (if v<0 then max (v+(n:Int)) 0 else min v (n:Int))=(((if v<0 then (v+(n:Int)).toNat else min v.toNat n):Nat):Int)
 by_cases hv:v<0
 ·simp only [if_pos hv];omega
 ·simp only [if_neg hv];omega
theorem adjust_gen (lo hi:Option Int)(n:Nat):Builtin.Slice.sliceAdjust lo hi 1 (n:Int)=(((sIx n 0 lo:Nat):Int),((sIx n n hi:Nat):Int)):=by
 have h1:¬ ((1:Int)<0):=by omega
 unfold Builtin.Slice.sliceAdjust
 simp only [h1,if_false]
 refine Prod.ext ?_ ?_
 ·cases lo with
  | none=>rfl
  | some v=>exact clip_eq v n 0
 ·cases hi with
  | none=>rfl
  | some v=>exact clip_eq v n n
theorem places_gen (i j:Nat):Builtin.Slice.slicePlaces (i:Int) (j:Int) 1=j - i:=by
 unfold Builtin.Slice.slicePlaces
 have h1:(1:Int) > 0:=by omega
 simp only [h1,if_true,Int.ediv_one]
 split<;>omega
theorem slicePart_ {v:Value}{o:Option Int}{Q:Option Int->Shared->Prop}(p:IsPart v o)(h:Q o s):wpAny (model prog w) A (Builtin.Slice.slicePartIndex v) Q E s:=by
 cases p with
 | none=>exact slicePart_none h
 | int i t=>exact slicePart_int h
theorem sliceApplied_gen {sl:Addr}{vl vu:Value}{lo hi:Option Int}{n:Nat}{Q:Int×Int×Nat->Shared->Prop}(hs:s.heap.IsSliceOf sl vl vu .none)(pl:IsPart vl lo)(pu:IsPart vu hi)
  (h:Q (((sIx n 0 lo:Nat):Int),1,sIx n n hi - sIx n 0 lo) s):wpAny (model prog w) A (Builtin.Slice.sliceApplied (.ref sl) (pure (n:Int))) Q E s:=by
 obtain⟨os,hos,hcs,hds⟩:=id hs
 unfold Builtin.Slice.sliceApplied Builtin.Slice.sliceFields
 refine wpAny_bind (wpAny_bind (wpAny_field hos hds (x:=vl) rfl (wpAny_bind (wpAny_field hos hds (x:=vu) rfl (wpAny_bind (wpAny_field hos hds (x:=.none) rfl (wpAny_pure ?_)))))))
 refine wpAny_bind (slicePart_none ?_)
 show wpAny _ _ (if ((1:Int) == 0)=true then _ else _) _ _ s
 rw [if_neg (by decide)]
 refine wpAny_bind (slicePart_ pl (wpAny_bind (slicePart_ pu (wpAny_bind (wpAny_pure ?_)))))
 show wpAny _ _ (match Builtin.Slice.sliceAdjust lo hi 1 (n:Int) with | (lo,hi)=>pure (lo,(1:Int),Builtin.Slice.slicePlaces lo hi 1)) _ _ s
 rw [adjust_gen lo hi n]
 show wpAny _ _ (pure (((sIx n 0 lo:Nat):Int),(1:Int),Builtin.Slice.slicePlaces ((sIx n 0 lo:Nat):Int) ((sIx n n hi:Nat):Int) 1)) _ _ s
 rw [places_gen]
 exact wpAny_pure h
theorem pick_gen (xs:Array Value)(i k:Nat):((List.range k).filterMap fun (m:Nat)=>xs[((i:Int)+(m:Int) * 1).toNat]?).toArray=((xs.toList.drop i).take k).toArray:=by
 have e:(fun (m:Nat)=>xs[((i:Int)+(m:Int) * 1).toNat]?)=fun m=>xs[i+m]?:=by
  funext m
  have:((i:Int)+(m:Int) * 1).toNat=i+m:=by omega
  rw [this]
 rw [e]
 have:=pick_run xs i k
 rw [List.filterMap_map] at this
 have e2:((fun x=>xs[x]?) ∘ fun x=>i+x)=fun m=>xs[i+m]?:=rfl
 rw [e2] at this
 rw [this]
theorem getItem_tuple_cut {t sl:Addr}{items:Array Value}{vl vu:Value}{lo hi:Option Int}{Q:Value->Shared->Prop}(ht:IsTup s.heap t items)(hs:s.heap.IsSliceOf sl vl vu .none)(pl:IsPart vl lo)(pu:IsPart vu hi)
  (hw:¬ (sIx items.size 0 lo=0/\sIx items.size items.size hi=items.size))
  (h:Q (.ref s.heap.objs.size) { s with heap:=s.heap.push { cls:=.type "tuple",data:=.seq ((items.toList.drop (sIx items.size 0 lo)).take (sIx items.size items.size hi - sIx items.size 0 lo)).toArray } })
  (hsz:items.size<=sizeLine):wpAny (model prog w) A (getItem (.ref t) (.ref sl)) Q E s:=by
 have htake:sizeOk (.seq ((items.toList.drop (sIx items.size 0 lo)).take (sIx items.size items.size hi - sIx items.size 0 lo)).toArray):=by
  show ((items.toList.drop (sIx items.size 0 lo)).take (sIx items.size items.size hi - sIx items.size 0 lo)).toArray.size<=sizeLine
  rw [List.size_toArray,List.length_take,List.length_drop,Array.length_toList]
  omega
 have hj:sIx items.size items.size hi<=items.size:=sIx_le _ _ (Nat.le_refl _) hi
 obtain⟨os,hos,hcs,hds⟩:=id hs
 have hTs:s.TypeIs (.ref sl) "slice" :=⟨os,hos,hcs⟩
 unfold getItem
 try with_reducible refine wpAny_holding ?_
 first | refine wpAny_bind (wpAny_pure ?_) | skip
 refine wpAny_bind (wpAny_sequenceKey ht.typeIs (by decide) ?_)
 refine wpAny_bind (wpAny_callSpecial?_slot (name:=Str.ofString "__getitem__") ht.typeIs PyProof.Rows.slot_tuple_getitem
  (wpAny_call_entry PyProof.Rows.slot_tuple_getitem ht.typeIs entry_tuple_getitem ?_ (args_tuple_getitem _ _)))
 show wpAny _ _ (Builtin.Tuple.tupleItemsOf (.ref t) >>= _) _ _ s
 refine wpAny_bind (tupleItemsOf_ ht ?_)
 refine wpAny_bind (wpAny_typeOf hTs ?_)
 rw [if_pos (by decide)]
 refine wpAny_bind (sliceApplied_gen hs pl pu ?_)
 have hno:¬ ((((sIx items.size 0 lo:Nat):Int) == 0 && (1:Int) == 1 && (sIx items.size items.size hi - sIx items.size 0 lo) == items.size)=true):=by
  intro q
  rw [Bool.and_eq_true,Bool.and_eq_true] at q
  have q1:((sIx items.size 0 lo:Nat):Int)=0:=eq_of_beq q.1.1
  have q2:sIx items.size items.size hi - sIx items.size 0 lo=items.size:=eq_of_beq q.2
  exact hw ⟨by omega,by omega⟩
 show wpAny _ _ (if (((sIx items.size 0 lo:Nat):Int) == 0 && (1:Int) == 1 && (sIx items.size items.size hi - sIx items.size 0 lo) == items.size)=true then _ else _) _ _ s
 rw [if_neg hno,pick_gen]
 first
  | exact wpAny_bind (m:=Builtin.Tuple.tupleExact _) (wpAny_newObj_type (wpAny_pure ⟨_,rfl,wpAny_pure h⟩) htake)
  | exact wpAny_bind (m:=Builtin.Tuple.tupleExact _) (wpAny_newObj_type (wpAny_bind (wpAny_pure (wpAny_pure ⟨_,rfl,wpAny_pure h⟩))) htake)
  | exact wpAny_bind (wpAny_bind (m:=Builtin.Tuple.tupleExact _) (wpAny_newObj_type (wpAny_pure (wpAny_pure ⟨_,rfl,wpAny_pure h⟩)) htake))
  | exact wpAny_bind (wpAny_bind (m:=Builtin.Tuple.tupleExact _) (wpAny_newObj_type (wpAny_pure ⟨_,rfl,wpAny_pure h⟩) htake))
end
end HT
namespace L2
open PySem PySem.Spec PyProof.Rows
abbrev TO:=St->Hp->(Option Int->Hp->Prop)->Prop
def PO (X:Cx)(e:Option Expr)(t:TO):Prop:=
 ∀ (pins:List (Addr×Obj)) (s:Shared) (σ:St) (H:Hp) (Q:Option Int->Hp->Prop),Inv X pins σ H s->t σ H Q →
  wpAny (model X.prog X.w) X.A (evalPart e X.env) (fun u s'=>∃ o H',Inv X pins σ H' s'/\IsPart u o/\Q o H') X.xe s
def tNoPart:TO:=fun _ H Q=>Q none H
def zgn (t:TE):TO:=fun σ H Q=>t σ H fun x H1=>∃ i,x = .int i/\Q (some i) H1
section
variable  {X:Cx}{e:Expr}{te:TE}{lo hi:Option Expr}{tl th:TO}{pos p2:Pos}
theorem po_none:PO X none tNoPart:=by
 intro pins s σ H Q I h
 rw [evalPart_none]
 exact wpAny_pure ⟨none,H,I,.none,h⟩
theorem zkl (h:PE X e te):PO X (some e) (zgn te):=by
 intro pins s σ H Q I hw
 rw [evalPart_some]
 refine thn (h pins s σ H _ I hw) fun u s1 ⟨x,H1,I1,r1,q1⟩=>?_
 obtain⟨i,rfl,q⟩:=q1
 obtain⟨t,rfl⟩:=r1
 exact⟨some i,H1,I1,.int i t,q⟩
def SlR (X:Cx)(r:V->Option Int->Option Int->Hp->VK->Prop):Prop:=
 ∀ (pins:List (Addr×Obj)) (s:Shared) (σ:St) (H:Hp) (x:V) (v vl vu:Value) (lo hi:Option Int) (sl:Addr) (Q:VK),Inv X pins σ H s->RelV x v->s.heap.IsSliceOf sl vl vu .none->IsPart vl lo->IsPart vu hi->r x lo hi H Q →
  ∃ T id,typeLookup (.type T) "__getitem__" = pure (some (.builtin id))/\s.TypeIs v T/\wpAny (model X.prog X.w) X.A (getItem v (.ref sl)) (EP X pins σ Q) X.xe s
theorem SlR.or {r r':V->Option Int->Option Int->Hp->VK->Prop}(h:SlR X r)(h':SlR X r'):SlR X (fun x lo hi H Q=>r x lo hi H Q ∨ r' x lo hi H Q):=by
 intro pins s σ H x v vl vu lo hi sl Q I rx hs pl pu q
 rcases q with q | q
 ·exact h pins s σ H x v vl vu lo hi sl Q I rx hs pl pu q
 ·exact h' pins s σ H x v vl vu lo hi sl Q I rx hs pl pu q
def tSl (r:V->Option Int->Option Int->Hp->VK->Prop)(te:TE)(tl th:TO):TE:=fun σ H Q=>te σ H fun x H1=>tl σ H1 fun l H2=>th σ H2 fun u H3=>r x l u H3 Q
theorem pe_slice {r:V->Option Int->Option Int->Hp->VK->Prop}(hr:SlR X r)(he:PE X e te)(hl:PO X lo tl)(hu:PO X hi th):PE X (.Subscript e (.Slice lo hi none p2) pos) (tSl r te tl th):=by
 intro pins s σ H Q I h
 refine Subscript_ (thn (he pins s σ H _ I h) fun v s1 ⟨x,H1,I1,r1,q1⟩=>?_)
 refine wpAny_Slice (thn (hl pins s1 σ H1 _ I1 q1) fun vl s2 ⟨l,H2,I2,pl,q2⟩=>thn (hu pins s2 σ H2 _ I2 q2) fun vu s3 ⟨u,H3,I3,pu,q3⟩=>?_)
 rw [evalPart_none]
 refine wpAny_pure ?_
 have I4:Inv X pins σ H3 { s3 with heap:=s3.heap.push { cls:=.type "slice",data:=.fields #[vl,vu,.none] } }:=I3.kept (t':=s3.toks) fun b ob q=>Heap.get?_push_of_some _ q
 obtain⟨T,id,hT,ht,hg⟩:=hr pins { s3 with heap:=s3.heap.push { cls:=.type "slice",data:=.fields #[vl,vu,.none] } } σ H3 x v vl vu l u s3.heap.objs.size Q I4 r1 (Heap.IsSliceOf.new ..) pl pu q3
 show wpAny (model X.prog X.w) X.A (subscriptTail e (.Slice lo hi none p2) v (.ref s3.heap.objs.size)) (EP X pins σ Q) X.xe { s3 with heap:=s3.heap.push { cls:=.type "slice",data:=.fields #[vl,vu,.none] } }
 exact tail_any (ops:=[.ref s3.heap.objs.size,v]) ht hT hg (by with_unfolding_all rfl)
noncomputable def cutV (xs:List V) (lo hi:Option Int):List V:=(xs.drop (HT.sIx xs.length 0 lo)).take (HT.sIx xs.length xs.length hi - HT.sIx xs.length 0 lo)
theorem cutV_length (xs:List V)(lo hi:Option Int):(cutV xs lo hi).length<=xs.length:=by
 unfold cutV
 rw [List.length_take,List.length_drop]
 omega
def rSlT (K:yF):V->Option Int->Option Int->Hp->VK->Prop:=fun x lo hi H Q=>∃ a xs,x = .ref a/\SqT K H a xs ∧
 ¬ (HT.sIx xs.length 0 lo=0/\HT.sIx xs.length xs.length hi=xs.length)/\∀ p,H p=none->Q (.ref p) (upd H p (.tup (cutV xs lo hi)))
theorem sl_tup:SlR X (rSlT X.K):=by
 intro pins s σ H x v vl vu lo hi sl Q I rx hs pl pu h
 obtain⟨a,xs,rfl,hx,hw,q⟩:=h
 cases rx
 obtain⟨its,r,ht,hz⟩:=I.tuple hx
 have hlen:its.toArray.size=xs.length:=by rw [List.size_toArray];exact r.length.symm
 refine⟨"tuple",_,PyProof.Rows.slot_tuple_getitem.lookup,ht.typeIs,?_⟩
 refine HT.getItem_tuple_cut ht hs pl pu (by rw [hlen];exact hw) ?_ (by rw [hlen];exact hz)
 rw [hlen]
 refine⟨.ref s.heap.objs.size,_,I.laid (t':=s.toks) (o:=.tup (cutV xs lo hi)) (fun b ob q=>Heap.get?_push_of_some _ q) (Nat.le_refl _) ?_,rfl,q _ (I.hok.fresh (Nat.le_refl _))⟩
 exact⟨Nat.le_trans (cutV_length xs lo hi) hz,_,(r.drop (HT.sIx xs.length 0 lo)).take (HT.sIx xs.length xs.length hi - HT.sIx xs.length 0 lo),IsTup.new _ _⟩
def rCatT (K:yF):R2:=fun x y H Q=>∃ a b xs ys,x = .ref a/\y = .ref b/\SqT K H a xs/\SqT K H b ys/\xs≠[]/\xs.length+ys.length<=sizeLine ∧
 (ys = []->Q (.ref a) H)/\(ys≠[]->∀ p,H p=none->Q (.ref p) (upd H p (.tup (xs++ys))))
theorem Vals.nil_iff {xs:List V}{us:List Value}(r:Vals xs us):us = []↔xs = []:=by
 cases r with
 | nil=>simp
 | cons _ _=>simp
theorem op_catT:OpR X (binaryOp .Add) (rCatT X.K):=by
 intro pins s σ H x y v u Q I rx ry h
 obtain⟨a,b,xs,ys,rfl,rfl,ha,hb,hx,hz,q1,q2⟩:=h
 cases rx
 cases ry
 obtain⟨its,r1,p1,_⟩:=I.tuple ha
 obtain⟨its2,r2,p2,_⟩:=I.tuple hb
 refine HT.cat_tup p1 p2 (fun z=>hx (r1.nil_iff.mp z)) (fun z=>⟨.ref a,H,I,rfl,q1 (r2.nil_iff.mp z)⟩) (fun z=>?_) (by rw [← r1.length,← r2.length];exact hz)
 refine⟨.ref s.heap.objs.size,_,I.laid (t':=s.toks) (o:=.tup (xs++ys)) (fun b ob q=>Heap.get?_push_of_some _ q) (Nat.le_refl _) ?_,rfl,q2 (fun w=>z (r2.nil_iff.mpr w)) _ (I.hok.fresh (Nat.le_refl _))⟩
 exact⟨by rw [List.length_append];exact hz,_,r1.append r2,IsTup.new _ _⟩
end
noncomputable def ixN (n:Nat) (i:Int):Option Nat:=if 0<=i then (if i<n then some i.toNat else none) else if -(n:Int)<=i then some (i+n).toNat else none
noncomputable def atI {α:Type} (xs:List α) (i:Int):Option α:=(ixN xs.length i).bind fun j=>xs[j]?
theorem ixN_seq {n:Nat}{i:Int}{j:Nat}(h:ixN n i=some j):seqIndex? i n=some j/\j<n/\-(n:Int)<=i/\i<n:=by
 unfold ixN at h
 by_cases h0:0<=i
 ·rw [if_pos h0] at h
  by_cases h1:i<n
  ·rw [if_pos h1] at h
   have e:i.toNat=j:=Option.some.inj h
   exact⟨by rw [seqIndex_of h0 h1,e],by omega,by omega,h1⟩
  ·rw [if_neg h1] at h;cases h
 ·rw [if_neg h0] at h
  by_cases h1 : -(n:Int)<=i
  ·rw [if_pos h1] at h
   have e:(i+n).toNat=j:=Option.some.inj h
   exact⟨by rw [seqIndex_neg (by omega) h1,e],by omega,h1,by omega⟩
  ·rw [if_neg h1] at h;cases h
theorem zyk {α:Type}{xs:List α}{i:Int}{v : α}(h:atI xs i=some v):∃ j,seqIndex? i xs.length=some j/\xs[j]?=some v/\j<xs.length/\-(xs.length:Int)<=i/\i<xs.length:=by
 unfold atI at h
 cases e:ixN xs.length i with
 | none=>rw [e] at h;cases h
 | some j=>
  rw [e] at h
  obtain⟨h1,h2,h3,h4⟩:=ixN_seq e
  exact⟨j,h1,h,h2,h3,h4⟩
def PlainIx (b:Expr):Prop:=∀ o i,subscripted b false o i=operate [o,i] (getItem o i)
def IxR (X:Cx)(r:R2):Prop:=
 ∀ (value slice:Expr) (pins:List (Addr×Obj)) (s:Shared) (σ:St) (H:Hp) (x y:V) (v u:Value) (Q:VK),Inv X pins σ H s->RelV x v->RelV y u->r x y H Q →
  subscripted slice false v u=operate [v,u] (getItem v u)->wpAny (model X.prog X.w) X.A (subscriptTail value slice v u) (EP X pins σ Q) X.xe s
def MtR (X:Cx)(id:String)(r:V->List V->Hp->VK->Prop):Prop:=
 ∀ (pins:List (Addr×Obj)) (s:Shared) (σ:St) (H:Hp) (x:V) (xs:List V) (v:Value) (us:List Value) (Q:VK),Inv X pins σ H s->RelV x v->Vals xs us->r x xs H Q →
  wpAny (model X.prog X.w) X.A (call (.builtin id) (v::us)) (EP X pins σ Q) X.xe s
section
variable  {X:Cx}{a b:Expr}{ta tb:TE}{pos:Pos}
theorem IxR.or {r r':R2}(h:IxR X r)(h':IxR X r'):IxR X (fun x y H Q=>r x y H Q ∨ r' x y H Q):=by
 intro value slice pins s σ H x y v u Q I rx ry q hs
 rcases q with q | q
 ·exact h value slice pins s σ H x y v u Q I rx ry q hs
 ·exact h' value slice pins s σ H x y v u Q I rx ry q hs
theorem MtR.or {id:String}{r r':V->List V->Hp->VK->Prop}(h:MtR X id r)(h':MtR X id r'):MtR X id (fun x xs H Q=>r x xs H Q ∨ r' x xs H Q):=by
 intro pins s σ H x xs v us Q I rx rs q
 rcases q with q | q
 ·exact h pins s σ H x xs v us Q I rx rs q
 ·exact h' pins s σ H x xs v us Q I rx rs q
theorem pe_ix {r:R2}(hr:IxR X r)(ha:PE X a ta)(hb:PE X b tb)(hs:PlainIx b):PE X (.Subscript a b pos) (tOp r ta tb):=by
 intro pins s σ H Q I h
 exact Subscript_ (binT ha hb I h fun v u s2 x y H2 I2 rx ry q=>hr a b pins s2 σ H2 x y v u Q I2 rx ry q (hs _ _))
def rIxL (K:yF):R2:=fun x y H Q=>∃ p xs i v,x = .ref p/\y = .int i/\SqL K H p xs/\atI xs i=some v/\Q v H
def rIxT (K:yF):R2:=fun x y H Q=>∃ p xs i v,x = .ref p/\y = .int i/\SqT K H p xs/\atI xs i=some v/\Q v H
def rIxS:R2:=fun x y H Q=>∃ z i c,x = .str z/\y = .int i/\z.length<=sizeLine/\atI z.cps.toList i=some c/\Q (.str ⟨#[c]⟩) H
theorem ix_list:IxR X (rIxL X.K):=by
 intro value slice pins s σ H x y v u Q I rx ry h hs
 obtain⟨p,xs,i,z,rfl,rfl,hq,he,q⟩:=h
 cases rx
 obtain⟨t,rfl⟩:=ry
 obtain⟨its,r,pl,hz⟩:=I.list hq
 obtain⟨j,h1,h2,h3,h4,h5⟩:=zyk he
 obtain⟨w,ew,rw'⟩:=r.get h2
 have hl:=r.length
 have hn:=line63
 have fin:EP X pins σ Q w s:=⟨z,H,I,rw',q⟩
 by_cases h0:0<=i
 ·have hj:i.toNat=j:=by
   rw [seqIndex_of h0 h5] at h1
   exact Option.some.inj h1
  exact item_listR pl.isList h0 (by omega) (by rw [hj];simpa using ew) fin hs
 ·have hj:(i+(its.toArray.size:Int)).toNat=j:=by
   rw [seqIndex_neg (by omega) h4] at h1
   rw [List.size_toArray,← hl]
   exact Option.some.inj h1
  exact subscriptTail_builtinR (x:=w) pl.isList.typeIs slot_list_getitem.lookup
   (wpAny_getItem_list_neg (Q:=fun r s'=>r=w/\EP X pins σ Q r s') pl.isList (by omega) (by rw [List.size_toArray]<;>omega) (by omega) (by rw [hj];simpa using ew) ⟨rfl,fin⟩) hs
theorem ix_tup:IxR X (rIxT X.K):=by
 intro value slice pins s σ H x y v u Q I rx ry h hs
 obtain⟨p,xs,i,z,rfl,rfl,hq,he,q⟩:=h
 cases rx
 obtain⟨t,rfl⟩:=ry
 obtain⟨its,r,pl,hz⟩:=I.tuple hq
 obtain⟨j,h1,h2,h3,h4,h5⟩:=zyk he
 obtain⟨w,ew,rw'⟩:=r.get h2
 have hl:=r.length
 have hn:=line63
 have fin:EP X pins σ Q w s:=⟨z,H,I,rw',q⟩
 exact subscriptTail_builtinR (x:=w) pl.typeIs slot_tuple_getitem.lookup
  (getItem_tuple (j:=j) (Q:=fun r s'=>r=w/\EP X pins σ Q r s') pl (by omega) (by omega) (by rw [List.size_toArray,← hl];exact h1) (by simpa using ew) ⟨rfl,fin⟩) hs
theorem ix_str:IxR X rIxS:=by
 intro value slice pins s σ H x y v u Q I rx ry h hs
 obtain⟨z,i,c,rfl,rfl,hz,he,q⟩:=h
 obtain⟨t,rfl⟩:=rx
 obtain⟨t',rfl⟩:=ry
 obtain⟨j,h1,h2,h3,h4,h5⟩:=zyk he
 have hl:z.cps.toList.length=z.length:=by simp [Str.length]
 rw [hl] at h1 h4 h5
 have hn:=line63
 exact tail_any (typeIs_str s z t) slot_str_getitem.lookup (getItem_str (c:=c) (by
  have e1:decide (i < -(2 ^ 63:Int))=false:=decide_eq_false (by omega)
  have e2:decide (i ≥ 2 ^ 63)=false:=decide_eq_false (by omega)
  rw [e1,e2,Bool.or_false]) (by rw [h1];simpa using h2) ⟨.str ⟨#[c]⟩,H,I.tok _,⟨_,rfl⟩,q⟩) hs
def rIx (K:yF):R2:=fun x y H Q=>rIxL K x y H Q ∨ rIxT K x y H Q ∨ rIxS x y H Q
theorem ix_seq:IxR X (rIx X.K):=ix_list.or (ix_tup.or ix_str)
theorem mapSeq_set (its:List Value)(n j:Nat)(u:Value):Obj.mapSeq (·.setIfInBounds j u) { cls:=.type "list",data:=.seq its.toArray n } = { cls:=.type "list",data:=.seq (its.set j u).toArray n }:=by
 simp [Obj.mapSeq]
theorem Inv.lst {pins:List (Addr×Obj)}{σ:St}{H:Hp}{s:Shared}{p:Addr}{xs:List V}(I:Inv X pins σ H s)(h:H p=some (.lst xs)) :
  ∃ (its:List Value) (n:Nat),Vals xs its/\s.heap.get? p=some { cls:=.type "list",data:=.seq its.toArray n }/\xs.length<=sizeLine:=by
 obtain⟨z,its,n,r,e⟩:=I.hok p _ h
 exact⟨its,n,r,e,z⟩
theorem Inv.lstUpd {pins:List (Addr×Obj)}{σ:St}{H:Hp}{s:Shared}{p:Addr}{xs ys:List V}{its its':List Value}{n n':Nat}{f:Obj->Obj}(I:Inv X pins σ H s)(h:H p=some (.lst xs))
  (ho:s.heap.get? p=some { cls:=.type "list",data:=.seq its.toArray n }) (hf:f { cls:=.type "list",data:=.seq its.toArray n } = { cls:=.type "list",data:=.seq its'.toArray n' }) (r:Vals ys its') (hz:ys.length<=sizeLine) (t:Nat) :
  Inv X pins σ (upd H p (.lst ys)) { s with heap:=s.heap.update p f,toks:=t }:=by
 have e:(s.heap.update p f).get? p=some { cls:=.type "list",data:=.seq its'.toArray n' }:=by
  rw [Heap.get?_update_self f ho (by rw [hf]<;>rfl),hf]
 refine I.write (x:=p) (e:=p) (by rw [h];trivial) (.inl rfl) (fun b u hb q=>(Heap.get?_update_other _ _ (Ne.symm hb)).trans q) ⟨_,e⟩ ?_
 exact⟨hz,its',n',r,e⟩
def rSetL:V->V->V->Hp->(Hp->Prop)->Prop:=fun o i v H Q=>∃ p xs k j,o = .ref p/\i = .int k/\H p=some (.lst xs)/\ixN xs.length k=some j/\Q (upd H p (.lst (xs.set j v)))
theorem set_list:PSet X rSetL:=by
 intro pins s σ H o i v ov iv u Q I ro ri rv h
 obtain⟨p,xs,k,j,rfl,rfl,hp,hj,q⟩:=h
 cases ro
 obtain⟨t,rfl⟩:=ri
 obtain⟨its,n,r,ho,hz⟩:=I.lst hp
 obtain⟨h1,h2,h3,h4⟩:=ixN_seq hj
 have hl:=r.length
 have hn:=line63
 have I':Inv X pins σ (upd H p (.lst (xs.set j v))) { s with heap:=s.heap.update p (Obj.mapSeq (·.setIfInBounds j u)) }:=
  I.lstUpd hp ho (mapSeq_set its n j u) (r.set rv j) (by rw [List.length_set];exact hz) s.toks
 by_cases h0:0<=k
 ·have hk:k.toNat=j:=by
   rw [seqIndex_of h0 h4] at h1
   exact Option.some.inj h1
  exact PySem.W.ki_setAt ho h0 (by omega) (by rw [List.size_toArray,← hl];exact h4) (by rw [hk];exact⟨_,I',q⟩)
 ·have hk:(k+(its.toArray.size:Int)).toNat=j:=by
   rw [seqIndex_neg (by omega) h3] at h1
   rw [List.size_toArray,← hl]
   exact Option.some.inj h1
  exact PySem.W.ki_setBack ho (by omega) (by rw [List.size_toArray,← hl];exact h3) (by omega) (by rw [hk];exact⟨_,I',q⟩)
theorem slice_bounds (lo hi:Option Int)(n:Nat):(sliceBounds lo hi none n).1=((HT.sIx n 0 lo:Nat):Int)/\(sliceBounds lo hi none n).2.1=((HT.sIx n n hi:Nat):Int)/\(sliceBounds lo hi none n).2.2=1:=by
 refine⟨?_,?_,rfl⟩
 ·cases lo with
  | none=>simp [sliceBounds,HT.sIx]
  | some i=>
   simp only [sliceBounds,HT.sIx,Option.getD_none,show (1:Int) > 0 by decide,if_true]
   by_cases h:i<0
   ·simp only [h,if_true]<;>omega
   ·simp only [h,if_false]<;>omega
 ·cases hi with
  | none=>simp [sliceBounds,HT.sIx]
  | some i=>
   simp only [sliceBounds,HT.sIx,Option.getD_none,show (1:Int) > 0 by decide,if_true]
   by_cases h:i<0
   ·simp only [h,if_true]<;>omega
   ·simp only [h,if_false]<;>omega
theorem slicePick_cut (its:List Value)(lo hi:Option Int):slicePick its.toArray lo hi none=((its.drop (HT.sIx its.length 0 lo)).take (HT.sIx its.length its.length hi - HT.sIx its.length 0 lo)).toArray:=by
 obtain⟨h1,h2,h3⟩:=slice_bounds lo hi its.toArray.size
 unfold slicePick
 rw [h1,h2,h3]
 simp only [sliceRange_one,pick_run,List.size_toArray]<;>rfl
def rSlL (K:yF):V->Option Int->Option Int->Hp->VK->Prop:=fun x lo hi H Q=>∃ a xs,x = .ref a/\SqL K H a xs/\∀ p,H p=none->Q (.ref p) (upd H p (.lst (cutV xs lo hi)))
theorem sl_list:SlR X (rSlL X.K):=by
 intro pins s σ H x v vl vu lo hi sl Q I rx hs pl pu h
 obtain⟨a,xs,rfl,hx,q⟩:=h
 cases rx
 obtain⟨its,r,ht,hz⟩:=I.list hx
 have hlen:=r.length
 refine⟨"list",_,slot_list_getitem.lookup,ht.isList.typeIs,?_⟩
 refine wpAny_getItem_list_slice ht.isList hs pl pu .none (by simp) ?_ (by rw [List.size_toArray]<;>omega)
 rw [slicePick_cut,← hlen]
 refine⟨.ref s.heap.objs.size,_,I.laid (t':=s.toks) (o:=.lst (cutV xs lo hi)) (fun b ob q=>Heap.get?_push_of_some _ q) (Nat.le_refl _) ?_,rfl,q _ (I.hok.fresh (Nat.le_refl _))⟩
 exact⟨Nat.le_trans (cutV_length xs lo hi) hz,_,0,(r.drop (HT.sIx xs.length 0 lo)).take (HT.sIx xs.length xs.length hi - HT.sIx xs.length 0 lo),Heap.get?_push_size _ rfl⟩
noncomputable def zjk:V->Bool
 | .non=>true
 | .bl _=>true
 | .int _=>true
 | .str _=>true
 | _=>false
noncomputable def eqV:V->V->Bool
 | .non,.non=>true
 | .bl a,.bl b=>a == b
 | .bl a,.int b=>(if a then 1 else 0) == b
 | .int a,.bl b=>a == (if b then 1 else 0)
 | .int a,.int b=>a == b
 | .str a,.str b=>a == b
 | _,_=>false
theorem eqAt_V {A:Around}{s:Shared}{y x:V}{u v:Value}(ry:RelV y u)(rx:RelV x v)(fy:zjk y=true)(fx:zjk x=true):SeqAt.EqAt A s u v (eqV y x):=by
 cases y with
 | non=>
  cases ry
  cases x with
  | non=>cases rx;exact SeqAt.EqAt.same _
  | bl b=>cases rx;exact SeqAt.EqAt.none_bool b
  | int b=>obtain⟨t,rfl⟩:=rx;exact SeqAt.EqAt.none_int b t
  | str b=>obtain⟨t,rfl⟩:=rx;exact SeqAt.EqAt.none_str b t
  | _=>exact absurd (show false=true from fx) Bool.false_ne_true
 | bl a=>
  cases ry
  cases x with
  | non=>cases rx;exact SeqAt.EqAt.bool_none a
  | bl b=>cases rx;exact SeqAt.EqAt.bool_bool a b
  | int b=>obtain⟨t,rfl⟩:=rx;exact SeqAt.EqAt.bool_int a b t
  | str b=>obtain⟨t,rfl⟩:=rx;exact SeqAt.EqAt.bool_str a b t
  | _=>exact absurd (show false=true from fx) Bool.false_ne_true
 | int a=>
  obtain⟨t',rfl⟩:=ry
  cases x with
  | non=>cases rx;exact SeqAt.EqAt.int_none a t'
  | bl b=>cases rx;exact SeqAt.EqAt.int_bool a t' b
  | int b=>obtain⟨t,rfl⟩:=rx;exact SeqAt.EqAt.int_int a t' b t
  | str b=>obtain⟨t,rfl⟩:=rx;exact SeqAt.EqAt.int_str a t' b t
  | _=>exact absurd (show false=true from fx) Bool.false_ne_true
 | str a=>
  obtain⟨t',rfl⟩:=ry
  cases x with
  | non=>cases rx;exact SeqAt.EqAt.str_none a t'
  | bl b=>cases rx;exact SeqAt.EqAt.str_bool a t' b
  | int b=>obtain⟨t,rfl⟩:=rx;exact SeqAt.EqAt.str_int a t' b t
  | str b=>obtain⟨t,rfl⟩:=rx;exact SeqAt.EqAt.str_str a t' b t
  | _=>exact absurd (show false=true from fx) Bool.false_ne_true
 | _=>exact absurd (show false=true from fy) Bool.false_ne_true
noncomputable def eqU (x:V) (u:Value):Bool:=match u with
 | .none=>eqV .non x
 | .bool b=>eqV (.bl b) x
 | .int i _=>eqV (.int i) x
 | .str z _=>eqV (.str z) x
 | _=>false
theorem eqU_of {x y:V}{u:Value}(r:RelV y u)(f:zjk y=true):eqU x u=eqV y x:=by
 cases y with
 | non=>cases r;rfl
 | bl b=>cases r;rfl
 | int i=>obtain⟨t,rfl⟩:=r;rfl
 | str z=>obtain⟨t,rfl⟩:=r;rfl
 | _=>exact absurd (show false=true from f) Bool.false_ne_true
theorem zvh {x:V}:∀ {xs:List V} {us:List Value},Vals xs us->xs.all zjk=true->us.any (eqU x)=xs.any fun y=>eqV y x
 | _,_,.nil,_=>rfl
 | y::xs,u::us,.cons r t,f=>by
  rw [List.all_cons,Bool.and_eq_true] at f
  rw [List.any_cons,List.any_cons,eqU_of r f.1,zvh t f.2]
theorem zmg {A:Around}{s:Shared}{x:V}{v:Value}(rx:RelV x v)(fx:zjk x=true):∀ {xs:List V} {us:List Value},Vals xs us->xs.all zjk=true->∀ u∈us,SeqAt.EqAt A s u v (eqU x u)
 | _,_,.nil,_=>fun u hu=>by cases hu
 | y::xs,u::us,.cons r t,f=>fun u' hu=>by
  rw [List.all_cons,Bool.and_eq_true] at f
  rcases ycM hu with rfl | hu
  ·rw [eqU_of r f.1];exact eqAt_V r rx f.1 fx
  ·exact zmg rx fx t f.2 u' hu
noncomputable def inV (x:V) (xs:List V):Bool:=xs.any fun y=>eqV y x
def rIn (K:yF)(neg:Bool):R2:=fun x y H Q=>∃ p xs,y = .ref p/\(SqL K H p xs ∨ SqT K H p xs)/\zjk x=true/\xs.all zjk=true/\Q (.bl (if neg then !inV x xs else inV x xs)) H
theorem op_in_seq:OpR X (compareOp .In) (rIn X.K false):=by
 intro pins s σ H x y v u Q I rx ry h
 obtain⟨p,xs,rfl,hq,fx,fs,q⟩:=h
 cases ry
 rcases hq with hq | hq
 ·obtain⟨its,r,pl,hz⟩:=I.list hq
  refine SeqAt.in_listAt (eqU x) pl.isList (fun w hw=>zmg rx fx r fs w (by simpa using hw)) ⟨.bl _,H,I,rfl,?_⟩
  rw [show its.toArray.any (eqU x)=its.any (eqU x) by simp,zvh r fs]
  exact q
 ·obtain⟨its,r,pl,hz⟩:=I.tuple hq
  refine SeqAt.in_tupleAt (eqU x) pl (fun w hw=>zmg rx fx r fs w (by simpa using hw)) ⟨.bl _,H,I,rfl,?_⟩
  rw [show its.toArray.any (eqU x)=its.any (eqU x) by simp,zvh r fs]
  exact q
theorem op_notIn_seq:OpR X (compareOp .NotIn) (rIn X.K true):=by
 intro pins s σ H x y v u Q I rx ry h
 obtain⟨p,xs,rfl,hq,fx,fs,q⟩:=h
 cases ry
 rcases hq with hq | hq
 ·obtain⟨its,r,pl,hz⟩:=I.list hq
  refine SeqAt.notIn_listAt (eqU x) pl.isList (fun w hw=>zmg rx fx r fs w (by simpa using hw)) ⟨.bl _,H,I,rfl,?_⟩
  rw [show its.toArray.any (eqU x)=its.any (eqU x) by simp,zvh r fs]
  exact q
 ·obtain⟨its,r,pl,hz⟩:=I.tuple hq
  refine SeqAt.notIn_tupleAt (eqU x) pl (fun w hw=>zmg rx fx r fs w (by simpa using hw)) ⟨.bl _,H,I,rfl,?_⟩
  rw [show its.toArray.any (eqU x)=its.any (eqU x) by simp,zvh r fs]
  exact q
theorem op_notIn_str:OpR X (compareOp .NotIn) (fun x y H Q=>∃ i j,x = .str i/\y = .str j/\Q (.bl (!(!(Builtin.Str.occurrences j i 0 j.length 1).isEmpty))) H):=by
 intro pins s σ H x y v u Q I rx ry h
 obtain⟨i,j,rfl,rfl,q⟩:=h
 obtain⟨t,rfl⟩:=rx
 obtain⟨t',rfl⟩:=ry
 exact notIn_str ⟨.bl _,H,I,rfl,q⟩
theorem call_len_seq:CallR X (.builtin "len") (fun xs H Q=>∃ p ys,xs = [.ref p]/\(SqL X.K H p ys ∨ SqT X.K H p ys)/\Q (.int ys.length) H):=by
 intro pins s σ H xs us Q I r h
 obtain⟨p,ys,rfl,hq,q⟩:=h
 obtain⟨u,rfl,rx⟩:=vals1 r
 cases rx
 have hn:=line63
 rcases hq with hq | hq
 ·obtain⟨its,r',pl,hz⟩:=I.list hq
  have hlen:=r'.length
  exact Calls.call_len_list pl.isList (by simp only [List.size_toArray]<;>omega) ⟨.int ys.length,H,I.tok _,⟨s.toks+1,by rw [List.size_toArray,hlen]⟩,q⟩
 ·obtain⟨its,r',pl,hz⟩:=I.tuple hq
  have hlen:=r'.length
  exact len_tuple pl (by simp only [List.size_toArray]<;>omega) ⟨.int ys.length,H,I.tok _,⟨s.toks+1,by rw [List.size_toArray,hlen]⟩,q⟩
theorem call_len_str:CallR X (.builtin "len") (fun xs H Q=>∃ z,xs = [.str z]/\z.length<=sizeLine/\Q (.int z.length) H):=by
 intro pins s σ H xs us Q I r h
 obtain⟨z,rfl,hz,q⟩:=h
 obtain⟨u,rfl,t,rfl⟩:=vals1 r
 have hn:=line63
 exact len_str (by omega) ⟨.int z.length,H,I.tok _,⟨_,rfl⟩,q⟩
theorem CallR.or {f:Value}{r r':List V->Hp->VK->Prop}(h:CallR X f r)(h':CallR X f r'):CallR X f (fun xs H Q=>r xs H Q ∨ r' xs H Q):=by
 intro pins s σ H xs us Q I rs q
 rcases q with q | q
 ·exact h pins s σ H xs us Q I rs q
 ·exact h' pins s σ H xs us Q I rs q
theorem call_list_of:CallR X (.type "list") (fun xs H Q=>∃ p ys,xs = [.ref p]/\(SqL X.K H p ys ∨ SqT X.K H p ys)/\∀ l,H l=none->Q (.ref l) (upd H l (.lst ys))):=by
 intro pins s σ H xs us Q I r h
 obtain⟨p,ys,rfl,hq,q⟩:=h
 obtain⟨u,rfl,rx⟩:=vals1 r
 cases rx
 have fin:∀ (its:List Value),Vals ys its->ys.length<=sizeLine->∀ (h':Heap) (c':Nat),(∀ b o',s.heap.get? b=some o'->h'.get? b=some o') →
   h'.get? s.heap.objs.size=some { cls:=.type "list",dict:=none,data:=.seq its.toArray c',slots:=#[] }->EP X pins σ Q (.ref s.heap.objs.size) { s with heap:=h' }:=fun its r' hz h' c' kp e=>
  ⟨.ref s.heap.objs.size,_,I.laid (t':=s.toks) kp (Nat.le_refl _) (show ObjOk X.prog X.w _ h' _ (.lst ys) from⟨hz,its,c',r',e⟩),rfl,q _ (I.hok.fresh (Nat.le_refl _))⟩
 rcases hq with hq | hq
 ·obtain⟨its,r',pl,hz⟩:=I.list hq
  have hlen:=r'.length
  obtain⟨o,ho,hc,n,hd⟩:=pl.isList
  exact call_list_seq p (.inl rfl) ho hc hd (fun h' c' kp e=>fin its r' hz h' c' kp e) (by simp only [List.size_toArray]<;>omega)
 ·obtain⟨its,r',pl,hz⟩:=I.tuple hq
  have hlen:=r'.length
  obtain⟨o,ho,hc,n,hd⟩:=pl
  exact call_list_seq p (.inr rfl) ho hc hd (fun h' c' kp e=>fin its r' hz h' c' kp e) (by simp only [List.size_toArray]<;>omega)
theorem call_tuple_of:CallR X (.type "tuple") (fun xs H Q=>∃ p ys,xs = [.ref p]/\((SqL X.K H p ys/\∀ l,H l=none->Q (.ref l) (upd H l (.tup ys))) ∨ (SqT X.K H p ys/\Q (.ref p) H))):=by
 intro pins s σ H xs us Q I r h
 obtain⟨p,ys,rfl,h⟩:=h
 obtain⟨u,rfl,rx⟩:=vals1 r
 cases rx
 rcases h with⟨hq,q⟩ | ⟨hq,q⟩
 ·obtain⟨its,r',pl,hz⟩:=I.list hq
  have hlen:=r'.length
  refine call_tuple_list pl.isList (fun h' kp=>?_) (by simp only [List.size_toArray]<;>omega)
  have I1:Inv X pins σ H { s with heap:=h' }:=I.kept (t':=s.toks) kp
  have I2:Inv X pins σ (upd H h'.objs.size (.tup ys)) { s with heap:=h'.push { cls:=.type "tuple",data:=.seq its.toArray } }:=
   I1.laid (t':=s.toks) (fun b o e=>Heap.get?_push_of_some _ e) (Nat.le_refl _) (show ObjOk X.prog X.w _ _ _ (.tup ys) from⟨hz,its,r',IsTup.new _ _⟩)
  exact⟨.ref h'.objs.size,_,I2,rfl,q _ (I1.hok.fresh (Nat.le_refl _))⟩
 ·obtain⟨its,r',pl,hz⟩:=I.tuple hq
  exact call_tuple_same pl ⟨.ref p,H,I,rfl,q⟩
def tyV (K:yF)(T:String)(x:V)(H:Hp):Prop:=match x with
 | .str _=>T = "str"
 | .int _=>T = "int"
 | .ref p=>(T = "list" ∧ ∃ xs,SqL K H p xs) ∨ (T = "tuple" ∧ ∃ o,K.lookup p=some o/\o.cls = .type "tuple" ∧ o.dict=none) ∨
   (T = "dict" ∧ ((∃ kvs,H p=some (.dK kvs)) ∨ ∃ kvs,H p=some (.dT kvs))) ∨ (T = "set" ∧ ∃ S n,H p=some (.set S n))
 | _=>False
theorem tyV_is {pins:List (Addr×Obj)}{σ:St}{H:Hp}{s:Shared}{T:String}{x:V}{v:Value}(I:Inv X pins σ H s)(r:RelV x v)(ty:tyV X.K T x H) :
  s.TypeIs v T/\∀ a,v = .ref a->∃ ob,s.heap.get? a=some ob/\ob.dict=none:=by
 cases x with
 | str z=>
  obtain⟨t,rfl⟩:=r
  cases (show T = "str" from ty)
  exact⟨typeIs_str s z t,fun _ e=>nomatch e⟩
 | int i=>
  obtain⟨t,rfl⟩:=r
  cases (show T = "int" from ty)
  exact⟨typeIs_int s i t,fun _ e=>nomatch e⟩
 | ref p=>
  cases r
  rcases ty with⟨rfl,xs,hq⟩ | ⟨rfl,o,hk,hc,hd⟩ | ⟨rfl,hk⟩ | ⟨rfl,S,n,hk⟩
  ·obtain⟨its,_,pl,_⟩:=I.list hq
   refine⟨pl.isList.typeIs,fun a e=>?_⟩
   cases e
   obtain⟨o,n,e,c,hd,_⟩:=pl
   exact⟨o,e,hd⟩
  ·refine⟨⟨o,I.kIn p o hk,hc⟩,fun a e=>?_⟩
   cases e
   exact⟨o,I.kIn _ o hk,hd⟩
  ·have z:∃ o,s.heap.get? p=some o/\o.ExactDict:=by
    rcases hk with⟨kvs,hk⟩ | ⟨kvs,hk⟩
    ·obtain⟨_,_,_,_,o,_,_,e,ex,_⟩:=I.hok p _ hk
     exact⟨o,e,ex⟩
    ·obtain⟨_,_,_,_,o,_,_,e,ex,_⟩:=I.hok p _ hk
     exact⟨o,e,ex⟩
   obtain⟨o,e,ex⟩:=z
   refine⟨⟨o,e,ex.1⟩,fun a e2=>?_⟩
   cases e2
   exact⟨o,e,ex.2.1⟩
  ·obtain⟨o,_,_,_,e,ex,_⟩:=I.hok p _ hk
   refine⟨⟨o,e,ex.1⟩,fun a e2=>?_⟩
   cases e2
   exact⟨o,e,ex.2.1⟩
 | _=>exact False.elim ty
def tBM0 (K:yF)(T:String)(r:V->List V->Hp->VK->Prop)(to:TE):TE:=fun σ H Q=>to σ H fun x H1=>tyV K T x H1/\r x [] H1 Q
def tBM (K:yF)(T:String)(r:V->List V->Hp->VK->Prop)(to:TE)(t:TA):TE:=fun σ H Q=>to σ H fun x H1=>tyV K T x H1/\t σ H1 fun xs H2=>r x xs H2 Q
variable  {o e:Expr}{es:List Expr}{to:TE}{t:TA}{name:Str}{apos cpos:Pos}{T id:String}{r:V->List V->Hp->VK->Prop}
theorem pe_bm0 (pa:PlainAttrs T)(slot:Slot T name id)(hty:typeOf (.builtin id)=pure (.type "method_descriptor"))(hm:MtR X id r)(ho:PE X o to)
  (hbase:attributeBase o name X.env (eval o X.env)=eval o X.env:=by rfl) (hline:(apos.endLine == cpos.line)=true:=by rfl):PE X (.Call (.Attribute o name apos) [] [] cpos) (tBM0 X.K T r to):=by
 intro pins s σ H Q I h
 refine wpAny_Call_method0_late hbase hline (thn (ho pins s σ H _ I h) fun v s1 ⟨x,H1,I1,r1,ty,q1⟩=>?_)
 obtain⟨h1,h2⟩:=tyV_is I1 r1 ty
 exact⟨T,id,pa,slot,hty,h1,h2,Calls.callWith_builtin rfl (PySem.evalArgs_none (hm pins s1 σ H1 x [] v [] Q I1 r1 .nil q1))⟩
theorem pe_bm (pa:PlainAttrs T)(slot:Slot T name id)(hty:typeOf (.builtin id)=pure (.type "method_descriptor"))(hm:MtR X id r)(ho:PE X o to)(ha:PA X (e::es) t)
  (hbase:attributeBase o name X.env (eval o X.env)=eval o X.env:=by rfl)
  (hfew:((backTo cpos (starEach (e::es) X.env)).all (fun x=>!x.1) && (backToKw cpos (keywordEach [] X.env)).all (fun x=>x.1.isSome)
   && decide ((e::es).length+([]:List Keyword).length+(if ([]:List Keyword).isEmpty then 0 else 1)<30))=true:=by rfl)
  (hline:(apos.endLine == cpos.line)=true:=by rfl) (hs:starEach (e::es) X.env=(false,eval e X.env)::starEach es X.env:=by rfl) (hplain:(backTo cpos (starEach es X.env)).any (·.1)=false:=by rfl) :
  PE X (.Call (.Attribute o name apos) (e::es) [] cpos) (tBM X.K T r to t):=by
 intro pins s σ H Q I h
 refine wpAny_Call_method_late hbase hfew hline rfl (thn (ho pins s σ H _ I h) fun v s1 ⟨x,H1,I1,r1,ty,q1⟩=>?_)
 obtain⟨h1,h2⟩:=tyV_is I1 r1 ty
 refine⟨T,id,pa,slot,hty,h1,h2,?_⟩
 have hA:=ha cpos pins s1 σ H1 _ I1 q1
 rw [hs] at hA ⊢
 refine Calls.callWith_builtin (by show (false || (backTo cpos (starEach es X.env)).any (·.1))=false;rw [hplain]<;>rfl) (Calls.evalArgs_plain ?_)
 exact thn hA fun us s2 ⟨vs,H2,I2,r2,q2⟩=>hm pins s2 σ H2 x vs v us Q I2 r1 r2 q2
end
def MtM (X:Cx)(id:String)(r:V->List V->Hp->VK->Prop):Prop:=
 ∀ (pins:List (Addr×Obj)) (s:Shared) (σ:St) (H:Hp) (x:V) (xs:List V) (v:Value) (us:List Value) (Q:VK),Inv X pins σ H s->RelV x v->Vals xs us->r x xs H Q →
  wpAny (model X.prog X.w) X.A (call (.builtin id) (v::us)) (EP X pins σ Q) X.xe s
theorem Vals.one:∀ {x:V} {us:List Value},Vals [x] us->∃ u,us = [u]/\RelV x u
 | _,_,.cons r .nil=>⟨_,rfl,r⟩
theorem Vals.zero:∀ {us:List Value},Vals [] us->us = []
 | _,.nil=>rfl
theorem Vals.dropLast {xs:List V}{us:List Value}(h:Vals xs us):Vals xs.dropLast us.dropLast:=by
 induction h with
 | nil=>exact .nil
 | cons r t ih=>
  cases t with
  | nil=>exact .nil
  | cons q t'=>exact .cons r ih
theorem Vals.reverse {xs:List V}{us:List Value}(h:Vals xs us):Vals xs.reverse us.reverse:=by
 induction h with
 | nil=>exact .nil
 | cons r t ih=>rw [List.reverse_cons,List.reverse_cons];exact Vals.append ih (.cons r .nil)
theorem Vals.rep {xs:List V}{us:List Value}(h:Vals xs us):∀ k:Nat,Vals (List.replicate k xs).flatten (List.replicate k us).flatten
 | 0=>.nil
 | k+1=>by
  rw [List.replicate_succ,List.replicate_succ,List.flatten_cons,List.flatten_cons]
  exact Vals.append h (Vals.rep h k)
theorem erase_last {α:Type}(l:List α):l.eraseIdx (l.length - 1)=l.dropLast:=by
 induction l with
 | nil=>rfl
 | cons a r ih=>
  cases r with
  | nil=>rfl
  | cons b r=>
   have e:(a::b::r).length - 1=((b::r).length - 1)+1:=by
    have h1:(a::b::r).length=r.length+2:=rfl
    have h2:(b::r).length=r.length+1:=rfl
    omega
   rw [e,List.eraseIdx_cons_succ,ih]
   all_goals rfl
theorem zse (its:List Value):∀ (k:Nat) (acc:List Value),
  List.foldl (fun x1 x2=>x1++x2) acc.toArray (List.replicate k its.toArray)=(acc++(List.replicate k its).flatten).toArray
 | 0,acc=>by simp
 | k+1,acc=>by
  have e:acc.toArray++its.toArray=(acc++its).toArray:=by simp
  have e2:(acc++its)++(List.replicate k its).flatten=acc++(List.replicate (k+1) its).flatten:=by
   rw [List.replicate_succ,List.flatten_cons,List.append_assoc]
  rw [← e2,← zse its k (acc++its),← e,List.replicate_succ,List.foldl_cons]
section
variable  {X:Cx}{pins:List (Addr×Obj)}{σ:St}{H:Hp}{s:Shared}{l b:Addr}{xs ys zs:List V}
theorem Inv.lset {its its':List Value}{n:Nat}{f:Array Value->Array Value}{t':Nat}(I:Inv X pins σ H s)(hH:H l=some (.lst xs))
  (e:s.heap.get? l=some { cls:=.type "list",data:=.seq its.toArray n }) (hf:f its.toArray=its'.toArray) (hv:Vals ys its') (hz:ys.length<=sizeLine) :
  Inv X pins σ (upd H l (.lst ys)) { s with heap:=s.heap.update l (Obj.mapSeq f),toks:=t' }:=by
 have q:=PySem.IsL.update e f
 rw [hf] at q
 refine I.write (x:=l) (e:=l) (by rw [hH];exact trivial) (.inl rfl) (fun b' u hb hu=>(Heap.get?_update_other s.heap (Obj.mapSeq f) (Ne.symm hb)).trans hu) ⟨_,q⟩ ?_
 exact⟨hz,its',_,hv,q⟩
theorem Inv.lnew {its:List Value}{t':Nat}(I:Inv X pins σ H s)(hv:Vals ys its)(hz:ys.length<=sizeLine) :
  Inv X pins σ (upd H s.heap.objs.size (.lst ys)) { s with heap:=s.heap.push { cls:=.type "list",data:=.seq its.toArray },toks:=t' }:=
 I.laid (fun _ _ q=>Heap.get?_push_of_some _ q) (Nat.le_refl _) ⟨hz,its,0,hv,Heap.get?_push_size _ rfl⟩
theorem Inv.fresh (I:Inv X pins σ H s):H s.heap.objs.size=none:=I.hok.fresh (Nat.le_refl _)
theorem Inv.lstM (I:Inv X pins σ H s)(hH:H l=some (.lst xs)):xs.length<=sizeLine/\∃ (its:List Value) (n:Nat),Vals xs its/\xs.length=its.length/\s.heap.get? l=some { cls:=.type "list",data:=.seq its.toArray n }:=by
 obtain⟨z,its,n,r,e⟩:=I.hok l _ hH
 exact⟨z,its,n,r,r.length,e⟩
theorem zee {n:Nat}(h:n<=sizeLine):Builtin.List.listTooLong n=false:=by
 unfold Builtin.List.listTooLong
 exact decide_eq_false (by omega)
end
section
variable  {X:Cx}
def zll:V->List V->Hp->VK->Prop:=fun x vs H Q=>∃ l xs y,x = .ref l/\vs = [y]/\H l=some (.lst xs)/\xs.length<sizeLine/\Q .non (upd H l (.lst (xs++[y])))
theorem mt_append:MtM X "list.append" zll:=by
 intro pins s σ H x vs v us Q I rx rv h
 obtain⟨l,xs,y,rfl,rfl,hH,hz,q⟩:=h
 cases rx
 obtain⟨u,rfl,ru⟩:=rv.one
 obtain⟨z,its,n,r,hl,e⟩:=I.lstM hH
 refine call_meets F.slot_list_append ⟨_,e,rfl⟩ F.entry_list_append (F.args_list_append_2 _ _) (PySem.list_append l its.toArray n u (by rw [List.size_toArray];omega)) ⟨e,?_⟩
 refine⟨.non,_,I.lset (its':=its++[u]) hH e (by simp) (r.append (.cons ru .nil)) ?_,rfl,q⟩
 rw [List.length_append,List.length_singleton]
 omega
def rExtend:V->List V->Hp->VK->Prop:=fun x vs H Q=>∃ l b xs zs,x = .ref l/\vs = [.ref b]/\H l=some (.lst xs)/\H b=some (.lst zs)/\xs.length+zs.length<=sizeLine/\Q .non (upd H l (.lst (xs++zs)))
theorem mt_extend:MtM X "list.extend" rExtend:=by
 intro pins s σ H x vs v us Q I rx rv h
 obtain⟨l,b,xs,zs,rfl,rfl,hH,hB,hz,q⟩:=h
 cases rx
 obtain⟨u,rfl,ru⟩:=rv.one
 cases ru
 obtain⟨z,its,n,r,hl,e⟩:=I.lstM hH
 obtain⟨z2,its2,n2,r2,hl2,e2⟩:=I.lstM hB
 have hsz:its.toArray.size+its2.toArray.size<=sizeLine:=by rw [List.size_toArray,List.size_toArray];omega
 have hlong:¬ (!its.toArray.isEmpty && Builtin.List.listTooLong (its.toArray.size+its2.toArray.size))=true:=by
  rw [zee hsz,Bool.and_false]
  exact Bool.false_ne_true
 refine call_meets F.slot_list_extend ⟨_,e,rfl⟩ F.entry_list_extend (F.args_list_extend_2 _ _)
  (AutoSeq1.list_extend_list_list_0 l its.toArray n b its2.toArray n2 hlong (by rw [List.size_toArray];omega) (by omega)) ⟨e,e2,?_⟩
 refine⟨.non,_,I.lset (its':=its++its2) hH e (by simp) (r.append r2) ?_,rfl,q⟩
 rw [List.length_append]
 omega
def rPop:V->List V->Hp->VK->Prop:=fun x vs H Q=>∃ l xs y,x = .ref l/\vs = []/\H l=some (.lst xs)/\xs[xs.length - 1]?=some y/\Q y (upd H l (.lst xs.dropLast))
theorem mt_pop:MtM X "list.pop" rPop:=by
 intro pins s σ H x vs v us Q I rx rv h
 obtain⟨l,xs,y,rfl,rfl,hH,hy,q⟩:=h
 cases rx
 have hus:=rv.zero
 subst hus
 obtain⟨z,its,n,r,hl,e⟩:=I.lstM hH
 obtain⟨u,hu,ru⟩:=r.get hy
 have hy':its.toArray[its.toArray.size - 1]?=some u:=by
  show its.toArray[its.length - 1]?=some u
  rw [← Array.getElem?_toList,← hl]
  exact hu
 refine call_meets F.slot_list_pop ⟨_,e,rfl⟩ F.entry_list_pop (F.args_list_pop_1 _) (MeetsSeq.list_pop_last l its.toArray n u hy' (by rw [List.size_toArray];omega)) ⟨e,?_⟩
 refine⟨y,_,I.lset (its':=its.dropLast) hH e ?_ r.dropLast ?_,ru,q⟩
 ·show its.toArray.eraseIdxIfInBounds (its.toArray.size - 1)=its.dropLast.toArray
  rw [List.size_toArray,List.eraseIdxIfInBounds_toArray,erase_last]
 ·rw [List.length_dropLast]
  omega
def rCat:R2:=fun x y H Q=>∃ l b xs zs,x = .ref l/\y = .ref b/\H l=some (.lst xs)/\H b=some (.lst zs)/\xs.length+zs.length<=sizeLine/\∀ p,H p=none->Q (.ref p) (upd H p (.lst (xs++zs)))
theorem op_cat:OpR X (binaryOp .Add) rCat:=by
 intro pins s σ H x y v u Q I rx ry h
 obtain⟨l,b,xs,zs,rfl,rfl,hH,hB,hz,q⟩:=h
 cases rx
 cases ry
 obtain⟨z,its,n,r,hl,e⟩:=I.lstM hH
 obtain⟨z2,its2,n2,r2,hl2,e2⟩:=I.lstM hB
 refine PySem.P.add_list e e2 ?_ (by rw [List.size_toArray,List.size_toArray];omega)
 have ea:its.toArray++its2.toArray=(its++its2).toArray:=by simp
 rw [ea]
 exact⟨.ref _,_,I.lnew (t':=s.toks) (r.append r2) (by rw [List.length_append];omega),rfl,q _ I.fresh⟩
def rRep:R2:=fun x y H Q=>∃ l k xs,x = .ref l/\y = .int k/\H l=some (.lst xs)/\-(2 ^ 63)<=k/\k<2 ^ 63/\xs.length * k.toNat<=sizeLine ∧
 ∀ p,H p=none->Q (.ref p) (upd H p (.lst (List.replicate k.toNat xs).flatten))
theorem zgi {α:Type}(xs:List α)(k:Nat):(List.replicate k xs).flatten.length=k * xs.length:=by
 induction k with
 | zero=>simp
 | succ k ih=>rw [List.replicate_succ,List.flatten_cons,List.length_append,ih,Nat.succ_mul,Nat.add_comm]
theorem op_rep:OpR X (binaryOp .Mult) rRep:=by
 intro pins s σ H x y v u Q I rx ry h
 obtain⟨l,k,xs,rfl,rfl,hH,h1,h2,hz,q⟩:=h
 cases rx
 obtain⟨t,rfl⟩:=ry
 obtain⟨z,its,n,r,hl,e⟩:=I.lstM hH
 have hlen:its.toArray.size * k.toNat<=sizeLine:=by rw [List.size_toArray,← hl];exact hz
 have hcap:¬ its.toArray.size * k.toNat > (2 ^ 63 - 1) / 8:=by
  have:(sizeLine:Nat)<=(2 ^ 63 - 1) / 8:=by decide
  omega
 have hfit:¬ (!Builtin.List.listFitsIndex k)=true:=by
  rw [fitsIndex_both h1 h2]
  exact Bool.false_ne_true
 have hlong:¬ Builtin.List.listTooLong (its.toArray.size * k.toNat)=true:=by
  rw [zee hlen]
  exact Bool.false_ne_true
 have hnew:List.foldl (fun x1 x2=>x1++x2) #[] (List.replicate (if its.toArray.isEmpty=true then 0 else k.toNat) its.toArray)=(List.replicate k.toNat its).flatten.toArray:=by
  have f0:∀ m:Nat,List.foldl (fun x1 x2=>x1++x2) #[] (List.replicate m its.toArray)=(List.replicate m its).flatten.toArray:=fun m=>by
   have:=zse its m []
   rw [List.nil_append] at this
   exact this
  rw [f0]
  cases its with
  | nil=>simp
  | cons a r'=>rw [if_neg (by simp)]
 refine wpAny_binaryOp_repeat_ref (T:="list") (U:="int") (by decide) ⟨_,e,rfl⟩ (fun s'=>typeIs_int s' k t) noFill_list_mul F.fills_int_mul F.slot_int_rmul repeat_list F.slot_int_index.lookup
  (call_meets F.slot_int_rmul (typeIs_int s k t) F.entry_int_rmul (F.args_int_rmul_2 _ _) (int___rmul___int_list k t l its.toArray n)
   ⟨e,rfl,⟨_,e,rfl⟩,call_meets F.slot_list_mul ⟨_,e,rfl⟩ F.entry_list_mul (F.args_list_mul_2 _ _) (AutoListH.list___mul___list_int_3 l its.toArray n k t hfit hcap hlong) ⟨e,?_⟩⟩)
 rw [hnew]
 exact⟨.ref _,_,I.lnew (t':=s.toks) (r.rep k.toNat) (by rw [zgi,Nat.mul_comm];exact hz),rfl,q _ I.fresh⟩
end
section
variable  {prog:Program}{w:World}{A:Around}{E:Value->Shared->Prop}{s:Shared}
theorem splice_eq (its its2:List Value)(a c:Nat):its.toArray.extract 0 a++its2.toArray++its.toArray.extract c its.toArray.size=(its.take a++its2++its.drop c).toArray:=by
 apply Array.toList_inj.mp
 first
  | (simp
     exact List.take_of_length_le (by simp))
  | simp [List.take_of_length_le]
  | simp
theorem bounds_run {a c n:Nat}(hac:a<=c)(hc:c<=n):sliceBounds (some (a:Int)) (some (c:Int)) none n=((a:Int),(c:Int),1):=by
 simp only [sliceBounds,Option.getD_none]
 have h1:¬ ((a:Int)<0):=by omega
 have h2:¬ ((c:Int)<0):=by omega
 simp only [h1,h2,if_false,show (1:Int) > 0 by decide,if_true]
 congr 1
 ·omega
 ·congr 1;omega
set_option maxRecDepth 100000 in
theorem setItem_slice {l b sl:Addr}{items new:Array Value}{n n2:Nat}{vl vu:Value}{a c:Nat}{Q:Unit->Shared->Prop}
  (e:s.heap.get? l=some { cls:=.type "list",data:=.seq items n }) (e2:s.heap.get? b=some { cls:=.type "list",data:=.seq new n2 }) (hne:l≠b)
  (hs:s.heap.IsSliceOf sl vl vu .none) (pl:IsPart vl (some (a:Int))) (pu:IsPart vu (some (c:Int))) (hac:a<=c) (hc:c<=items.size)
  (hsz:items.size+new.size<=sizeLine) (h:Q () { s with heap:=s.heap.update l (Obj.mapSeq fun xs=>xs.extract 0 a++new++xs.extract c xs.size) }) :
  wpAny (model prog w) A (setItem (.ref l) (.ref sl) (.ref b)) Q E s:=by
 have hl:s.heap.IsList l items:=PySem.IsL.isList e
 have hb:s.heap.IsList b new:=PySem.IsL.isList e2
 obtain⟨os,hos,hcs,hds⟩:=id hs
 have hTs:s.TypeIs (.ref sl) "slice" :=⟨os,hos,hcs⟩
 have hstep:¬ ((rawPart none == rawInt 0)=true):=Bool.false_ne_true
 have hsame:Builtin.List.listSameRef (.ref l) (.ref b)=false:=by
  unfold Builtin.List.listSameRef
  exact beq_eq_false_iff_ne.mpr hne
 have hmax:(max (a:Int) (c:Int)).toNat=c:=by omega
 have hz':((fun xs:Array Value=>xs.extract 0 a++new++xs.extract c xs.size) items).size<=sizeLine+1:=by
  simp only [Array.size_append,Array.size_extract]
  omega
 unfold setItem
 try with_reducible refine wpAny_holding ?_
 first | refine wpAny_bind (wpAny_pure ?_) | skip
 refine wpAny_bind (wpAny_sequenceKey hl.typeIs (by decide) ?_)
 refine wpAny_bind (wpAny_callSpecial?_slot (name:=Str.ofString "__setitem__") hl.typeIs slot_list_setitem
  (wpAny_call_entry slot_list_setitem hl.typeIs entry_list_setitem ?_ (args_list_setitem _ _ _)))
 show wpAny _ _ (Builtin.List.listSubscript? (.ref sl) >>= _) _ _ s
 refine wpAny_bind ?_
 unfold Builtin.List.listSubscript?
 refine wpAny_bind (wpAny_specialOf hTs slice_no_index ?_)
 simp only [Option.isNone_none,if_true]
 refine wpAny_pure ?_
 show wpAny _ _ (typeOf (.ref sl) >>= _) _ _ s
 refine wpAny_bind (wpAny_typeOf hTs ?_)
 first
  | rw [if_neg (by decide)]
  | refine PySem.W.KFB.if_not (by decide) ?_
 rw [listSliceParts_eq]
 refine wpAny_bind (wpAny_bind (wpAny_field hos hds (x:=.none) rfl (wpAny_bind (wpAny_listPart .none ?_))))
 rw [if_neg hstep]
 refine wpAny_bind (wpAny_field hos hds (x:=vl) rfl (wpAny_bind (wpAny_listPart pl ?_)))
 refine wpAny_bind (wpAny_field hos hds (x:=vu) rfl (wpAny_bind (wpAny_listPart pu (wpAny_pure ?_))))
 first
  | simp only [hsame,Bool.false_eq_true,if_false]
  | refine PySem.W.KFB.if_not hsame ?_
  | (dsimp only
     rw [if_neg (by rw [hsame];exact Bool.false_ne_true)])
 refine wpAny_bind (m:=Builtin.List.listAllItems (.ref b) "must assign iterable to extended slice") ?_
 unfold Builtin.List.listAllItems
 refine wpAny_bind (wpAny_typeOf hb.typeIs ?_)
 first
  | refine PySem.W.KFB.if_so (by decide) ?_
  | rw [if_pos (by decide)]
  | simp only [beq_self_eq_true,Bool.true_or,if_true]
 unfold Builtin.List.listItems
 refine wpAny_bind (wpAny_seqItems e2 rfl (wpAny_pure ?_))
 refine wpAny_bind (wpAny_bind (wpAny_seqItems e rfl (wpAny_pure ?_)))
 refine wpAny_bind (wpAny_of_eq ((sliceIndices_raw (some (a:Int)) (some (c:Int)) none items.size (by simp)).trans (congrArg (pure:Int×Int×Int->Sem (Int×Int×Int)) (bounds_run hac hc))) ?_)
 show wpAny _ _ (if ((1:Int) == 1)=true then _ else _) _ _ s
 rw [if_pos (by decide)]
 refine wpAny_bind (wpAny_rule ?_)
 first
  | simp only [zee hsz,Bool.false_eq_true,if_false]
  | refine PySem.W.KFB.if_not (zee hsz) ?_
 first | refine wpAny_bind (wpAny_pure ?_) | skip
 show wpAny _ _ (updateSeq l (fun xs=>xs.extract 0 ((a:Int)).toNat++new++xs.extract (max (a:Int) (c:Int)).toNat xs.size) >>= _) _ _ s
 rw [hmax,Int.toNat_natCast]
 refine wpAny_bind (wpAny_updateSeq (hz:=Nat.le_trans (Nat.le_add_right _ _) hsz) (_hz':=hz') e rfl ?_)
 refine wpAny_bind (wpAny_letGo ?_)
 first
  | exact wpAny_bind (wpAny_pure (wpAny_pure ⟨.none,rfl,wpAny_pure h⟩))
  | exact wpAny_pure ⟨.none,rfl,wpAny_pure h⟩
end
section
variable  {X:Cx}
theorem set_slice {pins:List (Addr×Obj)}{s:Shared}{σ:St}{H:Hp}{l b sl:Addr}{xs ys:List V}{a c:Int}{vl vu:Value}{Q:Unit->Shared->Prop}(I:Inv X pins σ H s)
  (hH:H l=some (.lst xs)) (hB:H b=some (.lst ys)) (hne:l≠b) (hs:s.heap.IsSliceOf sl vl vu .none) (ra:RelV (.int a) vl) (rc:RelV (.int c) vu) (h0:0<=a) (hac:a<=c) (hc:c<=xs.length)
  (hz:xs.length+ys.length<=sizeLine) (h:∀ s',Inv X pins σ (upd H l (.lst (xs.take a.toNat++ys++xs.drop c.toNat))) s'->Q () s') :
  wpAny (model X.prog X.w) X.A (setItem (.ref l) (.ref sl) (.ref b)) Q X.xe s:=by
 obtain⟨ta,rfl⟩:=ra
 obtain⟨tc,rfl⟩:=rc
 obtain⟨z,its,n,r,hl,e⟩:=I.lstM hH
 obtain⟨z2,its2,n2,r2,hl2,e2⟩:=I.lstM hB
 obtain⟨a',rfl⟩:=Int.eq_ofNat_of_zero_le h0
 obtain⟨c',rfl⟩:=Int.eq_ofNat_of_zero_le (Int.le_trans h0 hac)
 simp only [Int.toNat_natCast] at h
 refine setItem_slice (a:=a') (c:=c') e e2 hne hs (.int _ _) (.int _ _) (by omega) (by rw [List.size_toArray];omega) (by rw [List.size_toArray,List.size_toArray];omega) (h _ ?_)
 refine I.lset (its':=its.take a'++its2++its.drop c') (t':=s.toks) hH e ?_ (Vals.append (Vals.append (r.take _) r2) (r.drop _)) ?_
 ·exact splice_eq its its2 a' c'
 ·rw [List.length_append,List.length_append,List.length_take,List.length_drop]
  omega
end
end L2
namespace Att
open PySem PySem.W PySem.Calls PyProof.Rows
theorem ints_of_wellAll {P:Params}{h:Heap}:∀ (ns:List Int) (vs:List Value),WellAll P h vs (ns.map WData.int)->IntsAre vs ns:=by
 intro ns
 induction ns with
 | nil=>
  intro vs w
  rw [List.map_nil] at w
  cases w
  exact .nil
 | cons n ns ih=>
  intro vs w
  rw [List.map_cons] at w
  cases w with
  | cons a b=>
   cases a
   exact .cons _ _ (ih _ b)
theorem script_of {l:OpenLaw}{n:Nat}(hn:l.most=some n){P:Params}{h:Heap}{args:List WData}{vals:List Value}
  (hpre:l.row.toRowW.claim.pre args=true) (hwl:WellAll P h vals args) :
  ∃ a vs ns,vals = [Value.ref a]/\args = [WData.list (ns.map WData.int)]/\h.get? a=some { cls:=.type "list",data:=.seq vs.toArray }/\IntsAre vs ns/\ns.length<=n:=by
 have hsh:WShape.hasAll [] args [.list .int]=true:=(pre_splitW hpre).1
 have hc:l.pre.holds [] { args:=args }=true:=(pre_splitW hpre).2
 obtain⟨d,r,rfl,h1,h2⟩:=hasAllW_cons hsh
 obtain rfl:=hasAllW_nil h2
 obtain⟨xs,rfl,h3⟩:=hasW_list h1
 obtain⟨ns,rfl⟩:=items_int h3
 have hlen:ns.length<=n:=by
  unfold OpenLaw.pre at hc
  have h4:(WTm.not (.lt (.lit (.int (n:Int))) (.len (.arg 0)))).holds [] { args:=[.list (ns.map .int)] }=true:=by
   have h4:=(holds_andW hc).1
   rw [hn] at h4
   exact h4
  have h5:=condW_of h4 (w_not (w_lt w_lit (w_len_list (w_arg rfl))))
  rw [List.length_map] at h5
  refine Nat.le_of_not_lt fun q=>?_
  have q':(n:Int)<((ns.length:Nat):Int):=by omega
  first
   | (rw [decide_eq_true q'] at h5;exact absurd h5 (by decide))
   | (simp at h5;omega)
 cases hwl with
 | cons w1 w2=>
  cases w2
  cases w1 with
  | list ho hall=>exact⟨_,_,ns,rfl,rfl,ho,ints_of_wellAll ns _ hall,hlen⟩
theorem post_true (l:OpenLaw)(args:List WData):l.row.toRowW.claim.post args (.bool true) args=true:=
 postW_of (r:=l.row.toRowW) (X:=(true == true))
  (show WShape.has [] (.bool true) .bool=true by first | rfl | decide | simp [WShape.has,WShape.arms,WShape.armsAll])
  (show (WTm.eq .res (.lit (.bool true))).value [] { args:=args,res:=some (.bool true),after:=args }=some (.bool (true == true)) from w_eq_bool (w_res rfl) w_lit) rfl
theorem attach_call {l:OpenLaw}{n:Nat}{q:Program}{loose:List Str}{XP:(Str->Option Value)->Heap->Prop}{YP:World->Heap->Prop}{d:DefRec}
  (hn:l.most=some n) (hdf:d.params.defaults = [])
  (call:∀ (w:World) (s₀ s₁ : Shared) (mg mb:Str->Option Value) (fa:Addr) (o:Obj) (pm cd doc:Value) (a:Addr) (vs:List Value) (ns:List Int),
   Ground q loose [] XP w s₀ mg mb s₁.heap->YP w s₁.heap →
   s₁.heap.get? fa=some o->o.data = .func (docDef d.name d.params d.body d.scope pm cd doc)->s₁.heap.CodeRec cd d.name->mg d.name=some (.ref fa) →
   s₁.heap.get? a=some { cls:=.type "list",data:=.seq vs.toArray }->IntsAre vs ns->ns.length<=n->s₁.gens = #[] →
   codeAny (model l.prog w) callerA (.call (.ref fa) ⟨[.ref a],[]⟩) (fun r s'=>r = .ok (.ret (.bool true))/\OldK s₁.heap s'.heap/\s'.os=s₁.os/\AllBare s'.gens) s₁) :
  WalkO q loose XP YP l.row.toRowW d [] (fun f vs=>PySem.call f vs):=by
 intro w s₀ s₁ mg mb G Y fa o pm cd doc dV kV ho hd hcd hD hmg hg args vals as hpre hlay hrd hwl hlo
 obtain rfl:dV = .none:=Dflts.none hD hdf
 obtain rfl:kV = .none:=Dflts.noKw hD
 obtain⟨a,vs,ns,rfl,rfl,hobj,hints,hlen⟩:=script_of hn hpre hwl
 refine enter_call (codeAny_mono (call w s₀ s₁ mg mb fa o pm cd doc a vs ns G Y ho (fd_plain hd) hcd hmg hobj hints hlen hg) fun r s' hq=>?_)
 obtain⟨rfl,h2,h3,h4⟩:=hq
 exact⟨.inl ⟨.bool true,.bool true,[],rfl,fun _=>rfl,.bool true,post_true l _,fun _=>⟨List.Pairwise.nil,fun _ hm=>(nomatch hm)⟩⟩,h2,h3,h4⟩
section
variable  {prog:Program}{w:World}{A:Around}{E:Value->Shared->Prop}{s:Shared}{K:Frag}
end
end Att
namespace L2
open PySem PySem.Spec PyProof.Rows
theorem vals_ints:∀ {vs:List Value} {ns:List Int},IntsAre vs ns->Vals (ns.map V.int) vs
 | _,_,.nil=>.nil
 | _,_,.cons n t h=>.cons ⟨t,rfl⟩ (vals_ints h)
def Only (H:Hp):Prop:=∀ b,H b=none ∨ ∃ o xs,H b=some (.frz o (.lst xs))
theorem law_call {P:Program}{w:World}{K:yF}{mg mb:Str->Option Value}{CX:CXT}{k:Nat}{fa a:Addr}{fd:FuncData}{x:Str}{sp:Sp}{s₁ : Shared}{vs:List Value}{ns:List Int}
  (KX:K.In s₁.heap) (hns:s₁.heap.Ns mainGlobals mg) (hb:s₁.heap.Ns builtinsNs mb) (hbb:∀ x:Str,x ≠ "__name__" → mb x=bootBuiltins x) (hlim:s₁.heap.NoLimit) (hg:s₁.gens = #[])
  (ha:s₁.heap.get? a=some { cls:=.type "list",data:=.seq vs.toArray }) (hi:IntsAre vs ns) (hl:ns.length<=sizeLine) (hr:Room k callerA)
  (F:∀ base:Heap,K.In base->base.Ns mainGlobals mg->FnOk P w K mg base CX k fa fd [x] sp) (hbind:∀ (s:Shared) (u:Value),BindsTo s fd ⟨[u],[]⟩ [(x,u)])
  (hsp:∀ H:Hp,Only H->SqL K H a (ns.map V.int)->sp [.ref a] H (fun v _=>v = .bl true) fun _ _ _=>False)
  (hCX:∀ H e s',CX [] H s₁ (fun _ _ _=>False) e s'->False) :
  codeAny (model P w) callerA (.call (.ref fa) ⟨[.ref a],[]⟩) (fun r s'=>r = .ok (.ret (.bool true))/\OldK s₁.heap s'.heap/\s'.os=s₁.os/\AllBare s'.gens) s₁:=by
 have rv:=vals_ints hi
 have lenV:=hi.length
 have core:∀ H:Hp,Only H->SqL K H a (ns.map V.int)->HOk P w H s₁.heap->(∀ b,H b≠none->b=a)->(H a≠none->K.lookup a=none) →
   codeAny (model P w) callerA (.call (.ref fa) ⟨[.ref a],[]⟩) (fun r s'=>r = .ok (.ret (.bool true))/\OldK s₁.heap s'.heap/\s'.os=s₁.os/\AllBare s'.gens) s₁:=by
  intro H hO hS hok hA hK
  have base_of:∀ {b:Addr} {o:Obj},s₁.heap.get? b=some o->H b=none->(hidT s₁.heap H).get? b=some o:=fun e n=>hidT_get e n
  have noA:∀ {b:Addr} {o:Obj} {es:Array DictEntry} {ep:Nat},s₁.heap.get? b=some o->o.data = .dict es ep->H b=none:=fun {b o es ep} e d=>by
   cases q:H b with
   | none=>rfl
   | some u=>
    have e':b=a:=hA b (by rw [q];simp)
    subst e'
    rw [ha] at e;cases e
    have d':Data.seq vs.toArray _=Data.dict es ep:=d
    cases d'
  have nsK:∀ {b:Addr} {m:Str->Option Value},s₁.heap.Ns b m->(hidT s₁.heap H).Ns b m:=fun {b m} ⟨o,es,ep,e,d,r⟩=>⟨o,es,ep,base_of e (noA e d),d,r⟩
  have hKb:K.In (hidT s₁.heap H):=fun b o e=>base_of (KX b o e) (by
   cases q:H b with
   | none=>rfl
   | some u=>
    have e':b=a:=hA b (by rw [q];simp)
    subst e'
    rw [hK (by rw [q];simp)] at e;cases e)
  have hM:Mod K mg (hidT s₁.heap H):=⟨hKb,nsK hns,⟨mb,nsK hb,hbb⟩,let ⟨mc,h1,h2⟩:=hlim;⟨mc,nsK h1,h2⟩⟩
  have e0:Env0 P w K mg (hidT s₁.heap H) callerA [] s₁ H:=⟨rfl,hM,fun b o e=>of_hidT e,Nat.le_of_eq (hidT_size _ _),trivial,fun b hb=>absurd (show b∈([]:List Addr) from hb) (by simp),hok,.of_eq hg⟩
  refine codeAny_mono ((F _ hKb (nsK hns)).run callerA [] s₁ H ⟨[.ref a],[]⟩ [.ref a] [.ref a] _ _ hr e0 (hbind s₁ (.ref a)) (.cons rfl .nil) (hsp H hO hS)) fun r s' h=>?_
  cases r with
  | error e=>exact (hCX H e s' h).elim
  | ok fl=>
   cases fl with
   | next=>exact False.elim h
   | brk=>exact False.elim h
   | cont=>exact False.elim h
   | ret u=>
    obtain⟨v,H',os,bare,un,hok',r',q⟩:=h
    have q':v = .bl true:=q
    subst q'
    obtain rfl:u=Value.bool true:=r'
    refine⟨rfl,OldK.of_keep fun b o e=>?_,os,bare⟩
    cases q:H b with
    | none=>exact un.keep b o e q (by intro z;exact absurd (show b∈([]:List Addr) from z) (by simp)) (by simp)
    | some u=>
     rcases hO b with z | ⟨ob,xs,z⟩
     ·rw [q] at z;cases z
     ·have z2:=un.frzs b ob _ z
      obtain⟨e1,_⟩:=hok b _ z
      obtain⟨e2,_⟩:=hok' b _ z2
      rw [e] at e1;cases e1
      exact e2
 cases hk:K.lookup a with
 | some o=>
  have e:=KX a o hk
  rw [ha] at e
  cases e
  refine core (fun _=>none) (fun _=>.inl rfl) (.inr ⟨_,vs.toArray,_,hk,rfl,rfl,rfl,by rw [List.size_toArray,lenV];exact hl,by simpa using rv⟩) (fun b u z=>by have z':(none:Option HO)=some u:=z;cases z') (fun b z=>absurd rfl z) fun z=>absurd rfl z
 | none=>
  refine core (fun b=>if b=a then some (.frz { cls:=.type "list",data:=.seq vs.toArray } (.lst (ns.map V.int))) else none) (fun b=>?_) (.inl (.inr ⟨{ cls:=.type "list",data:=.seq vs.toArray },if_pos rfl⟩)) (fun b u z=>?_) (fun b z=>?_) fun _=>hk
  ·by_cases hb:b=a
   ·exact .inr ⟨_,_,if_pos hb⟩
   ·exact .inl (if_neg hb)
  ·by_cases hb:b=a
   ·have z':=(if_pos hb).symm.trans z
    cases z'
    subst hb
    exact⟨ha,by rw [List.length_map];exact hl,vs,_,rv,ha⟩
   ·have z':=(if_neg hb).symm.trans z
    cases z'
  ·by_cases hb:b=a
   ·exact hb
   ·exact absurd (if_neg hb) z
noncomputable def zyd (s:Stmt):Arguments:=match s with
 | .FunctionDef _ a _ _ _ _ _ _ _ _=>a
 | _=>{ posonlyargs:=[],args:=[],vararg:=none,kwonlyargs:=[],kw_defaults:=[],kwarg:=none,defaults:=[] }
noncomputable def zkb (s:Stmt):List Stmt:=match s with
 | .FunctionDef _ _ b _ _ _ _ _ _ _=>b
 | _=>[]
noncomputable def zm (s:Stmt):Scope:=match s with
 | .FunctionDef _ _ _ _ _ _ sc _ _ _=>sc
 | _=>{ kind:=.function,names:=[],isGenerator:=false,isCoroutine:=false }
abbrev CX0:CXT:=fun _ _ _ _ _ _=>False
abbrev E0:XK:=fun _ _ _=>False
theorem pass0 {X:Cx}:Passes CX0 X E0:=fun _ _ _ _ _ _ _ h=>h.elim
structure Fun (K:yF)(x qual:Str)(st:Stmt)(f:Addr)(fd:FuncData):Prop where
 ex:∃ (oc:Value) (od:Option Addr) (kV doc pm:Value) (an:Option Addr) (cdv ct:Value) (osl:Array (Option Value)),
  fd=PySem.W.fnOf x qual (zyd st) (zkb st) (zm st) .none kV doc pm an cdv ct/\K.lookup f=some ⟨oc,od,.func fd,osl⟩/\PySem.W.codeIn K cdv qual=true
 kp:PySem.W.keepIn K (.ref f)=true
section
variable  {P:Program}{w:World}{K:yF}{mg:Str->Option Value}{base:Heap}
theorem Fun.ok {x qual:Str}{st:Stmt}{f:Addr}{fd:FuncData}{N ps:List Str}{k:Nat}{sp:Sp}(F:Fun K x qual st f fd)(S:FnScope N ps (zm st))(len:∀ vs H Q E,sp vs H Q E->vs.length=ps.length)
  (hbody:∀ (cdv:Value) (A:Around) (outer:List Env) (s:Shared) (H:Hp) (vs:List V) (Q:VK) (E:XK),Room k (A.deeper (envOfC qual (zm st) s.heap.objs.size f cdv))->sp vs H Q E →
   ∃ t,PSs (cxOf CX0 P w K mg base N qual (zm st) f cdv A outer s H E).nox (zkb st) t/\t { nx:=fun _ H'=>Q .non H',rt:=Q } (start N vs) H):FnOk P w K mg base CX0 (k+1) f fd ps sp:=by
 obtain⟨oc,od,kV,doc,pm,an,cdv,ct,osl,rfl,lk,hcd⟩:=F.ex
 refine fn_of lk hcd S len fun A outer s H vs Q E hr hsp=>?_
 obtain⟨t,h,q⟩:=hbody cdv A outer s H vs Q E hr hsp
 exact⟨t,h.nox,q⟩
theorem fun_mk {x qual:Str}{st:Stmt}{f:Addr}{oc:Value}{od an:Option Addr}{osl:Array (Option Value)}{kV doc pm cdv ct:Value}(l:K.lookup f=some ⟨oc,od,.func (PySem.W.fnOf x qual (zyd st) (zkb st) (zm st) .none kV doc pm an cdv ct),osl⟩)
  (c:PySem.W.codeIn K cdv qual=true) (k:PySem.W.keepIn K (.ref f)=true):Fun K x qual st f (PySem.W.fnOf x qual (zyd st) (zkb st) (zm st) .none kV doc pm an cdv ct):=⟨⟨oc,od,kV,doc,pm,an,cdv,ct,osl,rfl,l,c⟩,k⟩
end
section
variable  {X:Cx}
end
theorem iteF {A B:Prop}(h:B):if false=true then A else B:=by
 rw [if_neg Bool.false_ne_true]
 exact h
theorem iteT {A B:Prop}(h:A):if true=true then A else B:=by
 rw [if_pos rfl]
 exact h
def Same (H H':Hp):Prop:=∀ b o,H b=some o->H' b=some o
theorem Same.refl (H:Hp):Same H H:=fun _ _ h=>h
theorem Same.seq {K:yF}{H H':Hp}{a:Addr}{xs:List V}(e:Same H H')(h:SqL K H a xs):SqL K H' a xs:=by
 rcases h with (h | ⟨o,h⟩) | h
 ·exact .inl (.inl (e _ _ h))
 ·exact .inl (.inr ⟨o,e _ _ h⟩)
 ·exact .inr h
noncomputable def zmc (env:Env):List (Str×NameKind)->List (Str×Addr)->List (Str×Addr)
 | [],acc=>acc
 | (n,k)::r,acc=>if k == .free then zmc env r ((n,(env.cells.lookup n).getD 0)::acc) else zmc env r acc
theorem zai {env:Env}:∀ (names:List (Str×NameKind)) (acc:List (Str×Addr)),(∀ x∈names,x.2 = .free->∃ c,env.cells.lookup x.1=some c) →
  (forIn names acc fun (x:Str×NameKind) (cs:List (Str×Addr))=>if x.2 == .free then (do let c ← cellOf env x.1;pure (ForInStep.yield ((x.1,c)::cs)):Sem _) else pure (ForInStep.yield cs))=(pure (zmc env names acc):Sem _)
 | [],acc,_=>rfl
 | (n,k)::r,acc,h=>by
  have hr:∀ x∈r,x.2 = .free->∃ c,env.cells.lookup x.1=some c:=fun x hx=>h x (ymC _ hx)
  rw [List.forIn_cons]
  unfold zmc
  by_cases hk:(k == NameKind.free)=true
  ·obtain⟨c,hc⟩:=h (n,k) ymS (by simpa using hk)
   have hc':env.cells.lookup n=some c:=hc
   have e:cellOf env n=pure c:=by unfold cellOf;rw [hc']
   simp only [hk,if_true,e,hc',Option.getD_some,pure_bind]
   exact zai r _ hr
  ·have hk':(k == NameKind.free)=false:=by simpa using hk
   simp only [hk',Bool.false_eq_true,if_false,pure_bind]
   exact zai r _ hr
theorem zxd {env:Env}{scope:Scope}(h:∀ x∈scope.names,x.2 = .free->∃ c,env.cells.lookup x.1=some c):closureFor scope env=pure (zmc env scope.names []):=by
 have:=zai (env:=env) scope.names [] h
 simp only [closureFor]
 rw [this,pure_bind]
theorem zzh {env:Env}{x:Str}{c:Addr}:∀ (names:List (Str×NameKind)) (acc:List (Str×Addr)),(∀ y∈names,y.2 = .free->∃ c,env.cells.lookup y.1=some c)->(acc.lookup x=some c->env.cells.lookup x=some c) →
  (zmc env names acc).lookup x=some c->env.cells.lookup x=some c
 | [],acc,_,h0,h=>h0 h
 | (n,k)::r,acc,hn,h0,h=>by
  have hr:∀ y∈r,y.2 = .free->∃ c,env.cells.lookup y.1=some c:=fun y hy=>hn y (ymC _ hy)
  unfold zmc at h
  by_cases hk:(k == NameKind.free)=true
  ·rw [if_pos hk] at h
   refine zzh r _ hr (fun e=>?_) h
   obtain⟨c',hc'⟩:=hn (n,k) ymS (by simpa using hk)
   have hc'':env.cells.lookup n=some c':=hc'
   rw [List.lookup_cons] at e
   by_cases hx:(x == n)=true
   ·rw [hx] at e
    have hxn:x=n:=by simpa using hx
    subst hxn
    rw [hc''] at e ⊢
    exact e
   ·have hx':(x == n)=false:=by simpa using hx
    rw [hx'] at e
    exact h0 e
  ·rw [if_neg hk] at h
   exact zzh r acc hr h0 h
theorem zyh {env:Env}{x:Str}:∀ (names:List (Str×NameKind)) (acc:List (Str×Addr)),(acc.lookup x).isSome=true->((zmc env names acc).lookup x).isSome=true
 | [],_,h=>h
 | (n,k)::r,acc,h=>by
  unfold zmc
  by_cases hk:(k == NameKind.free)=true
  ·rw [if_pos hk]
   refine zyh r _ ?_
   rw [List.lookup_cons]
   cases hx:(x == n) with
   | true=>rfl
   | false=>exact h
  ·rw [if_neg hk]
   exact zyh r acc h
theorem zlf {env:Env}{x:Str}:∀ (names:List (Str×NameKind)) (acc:List (Str×Addr)),(x,NameKind.free)∈names->((zmc env names acc).lookup x).isSome=true
 | [],_,h=>by cases h
 | (n,k)::r,acc,h=>by
  unfold zmc
  rcases ycM h with e | h
  ·cases e
   rw [if_pos (by rfl)]
   refine zyh r _ ?_
   rw [List.lookup_cons,beq_self_eq_true]
   rfl
  ·by_cases hk:(k == NameKind.free)=true
   ·rw [if_pos hk]
    exact zlf r _ h
   ·rw [if_neg hk]
    exact zlf r _ h
theorem zmj {x:Str}{c:Addr}:∀ (names:List (Str×NameKind)) (n:Nat) (acc:List (Str×Addr)),(cellsFrom n names acc).lookup x=some c->(n<=c/\(x,NameKind.cell)∈names) ∨ acc.lookup x=some c
 | [],_,_,h=>.inr h
 | (y,k)::r,n,acc,h=>by
  unfold cellsFrom at h
  by_cases hk:(k == NameKind.cell)=true
  ·rw [if_pos hk] at h
   rcases zmj r (n+1) _ h with⟨h1,h2⟩ | h1
   ·exact .inl ⟨by omega,ymC _ h2⟩
   ·rw [List.lookup_cons] at h1
    by_cases hx:(x == y)=true
    ·rw [hx] at h1
     have hxy:x=y:=by simpa using hx
     have hkc:k = .cell:=by simpa using hk
     subst hxy hkc
     cases h1
     exact .inl ⟨Nat.le_refl _,ymS⟩
    ·have hx':(x == y)=false:=by simpa using hx
     rw [hx'] at h1
     exact .inr h1
  ·rw [if_neg hk] at h
   rcases zmj r n _ h with⟨h1,h2⟩ | h1
   ·exact .inl ⟨h1,ymC _ h2⟩
   ·exact .inr h1
theorem zlm:∀ (names:List (Str×NameKind)) (n:Nat) (acc:List (Str×Addr)),(∀ x c,acc.lookup x=some c->c<n)->(∀ x y c,acc.lookup x=some c->acc.lookup y=some c->x=y) →
  ∀ x y c,(cellsFrom n names acc).lookup x=some c->(cellsFrom n names acc).lookup y=some c->x=y
 | [],_,_,_,hi,x,y,c,h1,h2=>hi x y c h1 h2
 | (z,k)::r,n,acc,hb,hi,x,y,c,h1,h2=>by
  unfold cellsFrom at h1 h2
  by_cases hk:(k == NameKind.cell)=true
  ·rw [if_pos hk] at h1 h2
   refine zlm r (n+1) ((z,n)::acc) (fun a b e=>?_) (fun a b d e1 e2=>?_) x y c h1 h2
   ·rw [List.lookup_cons] at e
    cases q:(a == z) with
    | true=>rw [q] at e;cases e;exact Nat.lt_succ_self _
    | false=>rw [q] at e;exact Nat.lt_succ_of_lt (hb a b e)
   ·rw [List.lookup_cons] at e1 e2
    cases q1:(a == z) with
    | true=>
     cases q2:(b == z) with
     | true=>rw [beq_iff_eq.mp q1,beq_iff_eq.mp q2]
     | false=>rw [q1] at e1;rw [q2] at e2;cases e1;exact absurd (hb b n e2) (Nat.lt_irrefl _)
    | false=>
     cases q2:(b == z) with
     | true=>rw [q1] at e1;rw [q2] at e2;cases e2;exact absurd (hb a n e1) (Nat.lt_irrefl _)
     | false=>rw [q1] at e1;rw [q2] at e2;exact hi a b d e1 e2
  ·rw [if_neg hk] at h1 h2
   exact zlm r n acc hb hi x y c h1 h2
theorem zik {x:Str}:∀ (names:List (Str×NameKind)) (n:Nat) (acc:List (Str×Addr)),(x,NameKind.cell) ∉ names->(cellsFrom n names acc).lookup x=acc.lookup x
 | [],_,_,_=>rfl
 | (y,k)::r,n,acc,h=>by
  unfold cellsFrom
  by_cases hk:(k == NameKind.cell)=true
  ·rw [if_pos hk,zik r _ _ (fun z=>h (ymC _ z)),List.lookup_cons]
   have hkc:k = .cell:=by simpa using hk
   have hx:(x == y)=false:=by
    cases q:(x == y) with
    | false=>rfl
    | true=>exact absurd (by rw [beq_iff_eq.mp q,hkc];exact ymS) h
   rw [hx]
  ·rw [if_neg hk]
   exact zik r _ _ fun z=>h (ymC _ z)
theorem zwl {x:Str}{c:Addr}:∀ (names:List (Str×NameKind)) (n:Nat) (acc:List (Str×Addr)),((x,NameKind.cell)∈names ∨ ∀ c',acc.lookup x=some c'->n<=c')->(cellsFrom n names acc).lookup x=some c->∀ lo,lo<=n->(∀ c',acc.lookup x=some c'->lo<=c') ∨ (x,NameKind.cell)∈names->lo<=c
 | [],n,acc,_,h,lo,hl,h2=>by
  rcases h2 with h2 | h2
  ·exact h2 c h
  ·cases h2
 | (y,k)::r,n,acc,_,h,lo,hl,h2=>by
  unfold cellsFrom at h
  by_cases hk:(k == NameKind.cell)=true
  ·rw [if_pos hk] at h
   have key:(∀ c',((y,n)::acc).lookup x=some c'->lo<=c') ∨ (x,NameKind.cell)∈r:=by
    by_cases hx:(x == y)=true
    ·refine .inl fun c' e=>?_
     rw [List.lookup_cons,hx] at e
     cases e
     exact hl
    ·have hx':(x == y)=false:=by simpa using hx
     rcases h2 with h2 | h2
     ·refine .inl fun c' e=>?_
      rw [List.lookup_cons,hx'] at e
      exact h2 c' e
     ·rcases ycM h2 with e | h2
      ·cases e
       simp at hx
      ·exact .inr h2
   have key2:(x,NameKind.cell)∈r ∨ ∀ c',((y,n)::acc).lookup x=some c'->n+1<=c' ∨ True:=.inr fun _ _=>.inr trivial
   rcases key with key | key
   ·by_cases hm:(x,NameKind.cell)∈r
    ·exact zwl r (n+1) _ (.inl hm) h lo (by omega) (.inr hm)
    ·rw [zik r _ _ hm] at h
     exact key c h
   ·exact zwl r (n+1) _ (.inl key) h lo (by omega) (.inr key)
  ·rw [if_neg hk] at h
   have key:(∀ c',acc.lookup x=some c'->lo<=c') ∨ (x,NameKind.cell)∈r:=by
    rcases h2 with h2 | h2
    ·exact .inl h2
    ·rcases ycM h2 with e | h2
     ·cases e
      exact absurd rfl hk
     ·exact .inr h2
   by_cases hm:(x,NameKind.cell)∈r
   ·exact zwl r n _ (.inl hm) h lo hl (.inr hm)
   ·rcases key with key | key
    ·rw [zik r _ _ hm] at h
     exact key c h
    ·exact absurd key hm
theorem zge {x:Str}{c:Addr}:∀ (names:List (Str×NameKind)) (h:Heap) (acc:List (Str×Addr)),(cellsFrom h.objs.size names acc).lookup x=some c->(pushCells h names).IsCell c none ∨ acc.lookup x=some c
 | [],_,_,e=>.inr e
 | (y,k)::r,h,acc,e=>by
  unfold cellsFrom at e
  unfold pushCells
  by_cases hk:(k == NameKind.cell)=true
  ·rw [if_pos hk] at e ⊢
   have e':(cellsFrom (h.push { cls:=.type "cell",data:=.cell none }).objs.size r ((y,h.objs.size)::acc)).lookup x=some c:=by rw [Heap.size_push];exact e
   rcases zge r (h.push { cls:=.type "cell",data:=.cell none }) ((y,h.objs.size)::acc) e' with q | q
   ·exact .inl q
   ·rw [List.lookup_cons] at q
    cases hx:(x == y) with
    | true=>
     rw [hx] at q
     cases q
     exact .inl ⟨_,pushCells_keeps r _ _ _ (Heap.get?_push_size _ rfl),rfl⟩
    | false=>rw [hx] at q;exact .inr q
  ·rw [if_neg hk] at e ⊢
   exact zge r h acc e
theorem wpAny_blockEnv {M:Model}{A:Around}{E:Value->Shared->Prop}{s:Shared}{scope:Scope}{globals:Addr}{cl:List (Str×Addr)}{qual:Str}{env:Env}{Q:Env->Shared->Prop}
  (hQ:∀ h',h'.Ns s.heap.objs.size (fun _=>none)->(∀ b o,s.heap.get? b=some o->h'.get? b=some o)->(∀ x c,(cellsFrom (s.heap.objs.size+1) scope.names cl).lookup x=some c->h'.IsCell c none ∨ cl.lookup x=some c) →
   Q (newEnv scope s.heap.objs.size globals (cellsFrom (s.heap.objs.size+1) scope.names cl) qual none .none (some env) builtinsNs) { s with heap:=h' }) :
  wpAny M A (newFunctionEnv scope globals cl [] qual none .none (some env)) Q E s:=by
 simp only [newFunctionEnv,Option.isSome_some,if_true]
 refine wpAny_bind (wpAny_alloc ?_)
 refine wpAny_bind (wpAny_layCells _ (fun name kind cells=>by cases hkc:kind == NameKind.cell<;>simp [hkc]) _ _ _ _ ?_)
 rw [show ({ s with heap:=s.heap.push { cls:=.type "dict",data:=.dict #[] } }:Shared).heap.objs.size=s.heap.objs.size+1 from Heap.size_push ..]
 rw [List.forIn_nil]
 refine wpAny_bind (wpAny_pure (wpAny_pure (hQ _ ?_ ?_ ?_)))
 ·exact (Heap.Ns.new s.heap (.type "dict")).keeps (pushCells_keeps _ _)
 ·exact fun b o e=>pushCells_keeps _ _ b o (Heap.get?_push_of_some _ e)
 ·intro x c e
  have e':(cellsFrom (s.heap.push { cls:=.type "dict",data:=.dict #[] }).objs.size scope.names cl).lookup x=some c:=by rw [Heap.size_push];exact e
  exact zge _ _ _ e'
noncomputable def rlK (env:Env) (n:Str) (k:NameKind):NameKind:=if (k == .free && env.scope.kind == .function && env.kindOf n == some .cell) then .cell else k
theorem lookup_rl {env:Env}{x:Str}:∀ (names:List (Str×NameKind)),
  (names.map fun (n,k)=>if (k == NameKind.free && env.scope.kind == .function && env.kindOf n == some .cell) then (n,NameKind.cell) else (n,k)).lookup x=(names.lookup x).map (rlK env x)
 | []=>rfl
 | (n,k)::r=>by
  have ih:=lookup_rl (env:=env) (x:=x) r
  rw [List.map_cons,List.lookup_cons]
  have e1:(if (k == NameKind.free && env.scope.kind == .function && env.kindOf n == some .cell) then (n,NameKind.cell) else (n,k))=(n,rlK env n k):=by
   unfold rlK;split<;>rfl
  show List.lookup x ((if (k == NameKind.free && env.scope.kind == .function && env.kindOf n == some .cell) then (n,NameKind.cell) else (n,k))::_)=_
  rw [e1,List.lookup_cons,List.lookup_cons]
  cases hx:(x == n) with
  | true=>
   have e2:=beq_iff_eq.mp hx
   subst e2
   rfl
  | false=>exact ih
theorem lookup_relabel {scope:Scope}{env:Env}{x:Str}:(relabel scope env).names.lookup x=(scope.names.lookup x).map (rlK env x):=lookup_rl scope.names
structure Blk (osc sc:Scope)(N N':List Str)(fr:List (Option Nat)):Prop where
 kind:sc.kind = .function
 nd:N'.Nodup
 len:fr.length=N'.length
 free:∀ (i j:Nat) (x:Str),fr[i]?=some (some j)->N'[i]?=some x->N[j]?=some x/\sc.names.lookup x=some .free
 out:∀ x∈sc.names,x.2 = .free->(osc.names.lookup x.1=some .cell ∨ osc.names.lookup x.1=some .free)/\(x.1,NameKind.cell) ∉ sc.names
 locl:∀ x∈sc.names,x.2 = .local->sc.names.lookup x.1=some .local
noncomputable def blkB (osc sc:Scope) (N N':List Str) (fr:List (Option Nat)):Bool:=
 (sc.kind == .function) && decide N'.Nodup && (fr.length == N'.length) &&
 (fr.zip N').all (fun p=>match p.1 with | none=>true | some j=>N[j]? == some p.2 && sc.names.lookup p.2 == some .free) &&
 sc.names.all (fun p=>(p.2 != .free || ((osc.names.lookup p.1 == some .cell || osc.names.lookup p.1 == some .free) && !sc.names.contains (p.1,.cell))) && (p.2 != .local || sc.names.lookup p.1 == some .local))
theorem Blk.of {osc sc:Scope}{N N':List Str}{fr:List (Option Nat)}(h:blkB osc sc N N' fr=true):Blk osc sc N N' fr:=by
 unfold blkB at h
 simp only [Bool.and_eq_true] at h
 obtain⟨⟨⟨⟨h1,h2⟩,h3⟩,h4⟩,h5⟩:=h
 refine⟨by simpa using h1,of_decide_eq_true h2,by simpa using h3,fun i j x e1 e2=>?_,fun x hx hk=>?_,fun x hx hk=>?_⟩
 ·have hm:(some j,x)∈fr.zip N':=by
   refine List.mem_iff_getElem?.mpr ⟨i,?_⟩
   rw [List.getElem?_zip_eq_some]
   exact⟨e1,e2⟩
  have:=List.all_eq_true.mp h4 _ hm
  simp only [Bool.and_eq_true] at this
  exact⟨by simpa using this.1,by simpa using this.2⟩
 ·have:=List.all_eq_true.mp h5 x hx
  simp only [Bool.and_eq_true] at this
  have t1:=this.1
  rw [hk] at t1
  simp only [bne_self_eq_false,Bool.false_or,Bool.and_eq_true,Bool.or_eq_true,Bool.not_eq_true'] at t1
  refine⟨t1.1.imp (fun z=>by simpa using z) (fun z=>by simpa using z),fun hm=>?_⟩
  have t2:=t1.2
  rw [List.contains_iff_mem.mpr hm] at t2
  cases t2
 ·have:=List.all_eq_true.mp h5 x hx
  simp only [Bool.and_eq_true] at this
  have t1:=this.2
  rw [hk] at t1
  simp only [bne_self_eq_false,Bool.false_or] at t1
  simpa using t1
noncomputable def inSt (fr:List (Option Nat)) (σ:St):St:=fr.map fun o=>match o with
 | none=>none
 | some j=>σ.getD j none
theorem zgc (fr:List (Option Nat))(σ:St):(inSt fr σ).length=fr.length:=by unfold inSt;rw [List.length_map]
noncomputable def cxIn (X:Cx) (scope:Scope) (N':List Str) (cells:List (Str×Addr)) (C:Addr) (s:Shared) (H:Hp) (ex:List Addr) (pn:List (Addr×Obj)) (xe:Value->Shared->Prop):Cx where
 prog:=X.prog
 w:=X.w
 K:=X.K
 mg:=X.mg
 base:=X.base
 A:=X.A
 N:=N'
 s₀:=s
 H₀:=H
 env:=compEnvC scope cells C X.env
 outer:=X.stack
 stack:=X.stack
 ex:=ex
 fn:=fun x=>scope.names.lookup x == some .cell
 calm:=X.calm
 pn:=pn
 xe:=xe
section
variable  {X:Cx}{pins:List (Addr×Obj)}{σ:St}{H H':Hp}{s:Shared}{scope:Scope}{N':List Str}{fr:List (Option Nat)}{ex:List Addr}{xe:Value->Shared->Prop}
theorem zud {sc:Scope}{x:Str}{k:NameKind}(h:sc.names.lookup x=some k):(x,k)∈sc.names:=PySem.mem_of_lookup h
theorem Inv.freeCells (I:Inv X pins σ H s)(B:Blk X.env.scope scope X.N N' fr):∀ x∈scope.names,x.2 = .free->∃ c,X.env.cells.lookup x.1=some c:=fun x hx hk=>I.ok.has x.1 (B.out x hx hk).1
theorem Inv.enter {h':Heap}(I:Inv X pins σ H s)(B:Blk X.env.scope scope X.N N' fr)(hex:∀ b∈ex,FpOk X pins H b/\∃ o,s.heap.get? b=some o)
  (hns:h'.Ns s.heap.objs.size (fun _=>none)) (hk:∀ b o,s.heap.get? b=some o->h'.get? b=some o)
  (hc:∀ x c,(cellsFrom (s.heap.objs.size+1) scope.names (zmc X.env scope.names [])).lookup x=some c->h'.IsCell c none ∨ (zmc X.env scope.names []).lookup x=some c) :
  Inv (cxIn X scope N' (cellsFrom (s.heap.objs.size+1) scope.names (zmc X.env scope.names [])) s.heap.objs.size s H ex (X.pn++pins) xe) [] (inSt fr σ) H { s with heap:=h' }:=by
 have hfc:=I.freeCells B
 have old:∀ x c,(zmc X.env scope.names []).lookup x=some c->X.env.cells.lookup x=some c:=fun x c e=>zzh scope.names [] hfc (fun z=>by cases z) e
 have lt:∀ x c,X.env.cells.lookup x=some c->c<s.heap.objs.size:=fun x c e=>by
  obtain⟨v,q⟩:=I.cell x c e
  exact q.lt
 have cases2:∀ x c,(cellsFrom (s.heap.objs.size+1) scope.names (zmc X.env scope.names [])).lookup x=some c->s.heap.objs.size+1<=c ∨ X.env.cells.lookup x=some c:=fun x c e=>
  (zmj _ _ _ e).imp (fun z=>z.1) (old x c)
 have hlt:∀ b∈ex,b<s.heap.objs.size:=fun b hb=>by
  obtain⟨o,e⟩:=(hex b hb).2
  exact Heap.lt_size e
 have has:∀ x,scope.names.lookup x=some .cell ∨ scope.names.lookup x=some .free->∃ c,(cellsFrom (s.heap.objs.size+1) scope.names (zmc X.env scope.names [])).lookup x=some c:=fun x hx=>by
  refine Option.isSome_iff_exists.mp (PySem.W.cellsFrom_some _ _ _ (hx.imp id fun z=>zlf _ _ (zud z)))
 refine⟨⟨I.ok.mod,?_,I.ok.glob,I.ok.blt,Nat.le_refl _,?_,?_,?_,I.ok.hd,I.ok.frames,.inl rfl,?_,I.bs,Nat.le_trans I.ok.bsz I.sz,?_,?_,I.stack,I.stkFree⟩,rfl,I.bare,Un.kept hk,⟨_,hns,?_⟩,?_,?_,?_,?_,I.hok.kept hk,?_⟩
 ·exact B.kind
 ·exact zlm _ _ _ (fun x c e=>Nat.lt_succ_of_lt (lt x c (old x c e))) (fun x y c e1 e2=>I.ok.inj x y c (old x c e1) (old y c e2))
 ·intro x hx
  refine has x ?_
  have hx':(relabel scope X.env).names.lookup x=some .cell ∨ (relabel scope X.env).names.lookup x=some .free:=hx
  rw [lookup_relabel] at hx'
  cases q:scope.names.lookup x with
  | none=>rw [q] at hx';rcases hx' with z | z<;>cases z
  | some k=>
   rw [q] at hx'
   have hx2:rlK X.env x k = .cell ∨ rlK X.env x k = .free:=hx'.imp (fun z=>Option.some.inj z) (fun z=>Option.some.inj z)
   unfold rlK at hx2
   split at hx2
   ·rename_i hc
    simp only [Bool.and_eq_true] at hc
    have:k = .free:=by simpa using hc.1.1
    rw [this];exact .inr rfl
   ·rcases hx2 with z | z<;>rw [z]
    ·exact .inl rfl
    ·exact .inr rfl
 ·intro x c hf e
  have hf':scope.names.lookup x=some .cell:=by
   have:(scope.names.lookup x == some NameKind.cell)=true:=hf
   simpa using this
  exact zwl _ _ _ (.inl (zud hf')) e _ (Nat.le_succ _) (.inr (zud hf'))
 ·intro b hb
  obtain⟨⟨_,_,_,_,f4,_⟩,_⟩:=hex b hb
  refine⟨Nat.ne_of_lt (hlt b hb),fun x c e z=>?_⟩
  rcases cases2 x c e with q | q
  ·rw [z] at q
   exact absurd (Nat.lt_of_lt_of_le (hlt b hb) (Nat.le_of_succ_le q)) (Nat.lt_irrefl _)
  ·exact f4 x c q z
 ·intro b o e hb
  obtain⟨⟨_,_,_,f3,_,_⟩,_⟩:=hex b hb
  rcases f3 with z | z
  ·exact I.ok.noex b o e z
  ·exact absurd (Nat.lt_of_lt_of_le (Heap.lt_size e) (Nat.le_trans I.ok.bsz z)) (Nat.lt_irrefl _)
 ·intro b hb hf
  obtain⟨⟨_,f1,f2,_,_,_⟩,_⟩:=hex b hb
  rcases ycM (I.stkSub b hf) with z | z
  ·exact f1 z
  ·exact f2 z
 ·intro i x v e1 e2 e3
  unfold inSt at e2
  rw [List.getElem?_map] at e2
  cases q:fr[i]? with
  | none=>rw [q] at e2;cases e2
  | some o=>
   rw [q] at e2
   cases o with
   | none=>simp at e2
   | some j=>
    have e2' : σ.getD j none=some v:=by simpa using e2
    obtain⟨b1,b2⟩:=B.free i j x q e1
    have e4 : σ[j]?=some (some v):=by
     rw [List.getD_eq_getElem?_getD] at e2'
     cases q2 : σ[j]? with
     | none=>rw [q2] at e2';cases e2'
     | some y=>rw [q2] at e2';simp at e2';rw [e2']
    obtain⟨o1,o2⟩:=B.out (x,.free) (zud b2) rfl
    obtain⟨m,hn,hl⟩:=I.loc
    have vis:Vis X.env.scope x:=o1.elim (fun z=>.inr (.inl z)) fun z=>.inr (.inr z)
    obtain⟨u,r,l⟩:=hl j x v b1 e4 vis
    refine⟨u,r,.inr ?_⟩
    have nl:∃ c,X.env.cells.lookup x=some c/\s.heap.IsCell c (some u):=by
     rcases l with⟨kl,_⟩ | ⟨_,c,h1,h2⟩
     ·have kl':X.env.scope.names.lookup x=some .local:=kl
      rcases o1 with z | z<;>· have z':X.env.scope.names.lookup x=_:=z;rw [kl'] at z';cases z'
     ·exact⟨c,h1,h2⟩
    obtain⟨c,h1,h2⟩:=nl
    have kd:(compEnvC scope (cellsFrom (s.heap.objs.size+1) scope.names (zmc X.env scope.names [])) s.heap.objs.size X.env).kindOf x=some .cell ∨ (compEnvC scope (cellsFrom (s.heap.objs.size+1) scope.names (zmc X.env scope.names [])) s.heap.objs.size X.env).kindOf x=some .free:=by
     show (relabel scope X.env).names.lookup x=some .cell ∨ (relabel scope X.env).names.lookup x=some .free
     rw [lookup_relabel,b2]
     show some (rlK X.env x .free)=_ ∨ some (rlK X.env x .free)=_
     unfold rlK
     split
     ·exact .inl rfl
     ·exact .inr rfl
    refine⟨kd,c,?_,h2.keeps hk⟩
    show (cellsFrom (s.heap.objs.size+1) scope.names (zmc X.env scope.names [])).lookup x=some c
    rw [zik _ _ _ o2]
    obtain⟨c',hc'⟩:=Option.isSome_iff_exists.mp (zlf (env:=X.env) scope.names [] (zud b2))
    rw [hc']
    have:=old x c' hc'
    rw [h1] at this
    exact this.symm
 ·intro x c e
  rcases hc x c e with q | q
  ·exact⟨_,q⟩
  ·obtain⟨v,z⟩:=I.cell x c (old x c q)
   exact⟨v,z.keeps hk⟩
 ·exact I.hok.fresh (Nat.le_refl _)
 ·intro x c e
  rcases cases2 x c e with q | q
  ·exact I.hok.fresh (by omega)
  ·exact I.freeC x c q
 ·intro p hp
  have hp':p∈X.pn++pins:=by
   have:p∈(X.pn++pins)++[]:=hp
   rwa [List.append_nil] at this
  obtain⟨e,n,ne,nf,d⟩:=I.pin p hp'
  refine⟨hk _ _ e,n,Nat.ne_of_lt (Heap.lt_size e),fun z=>?_,d⟩
  rcases ycM (I.stkSub p.1 z) with q | q
  ·exact ne q
  ·exact nf q
 ·show (inSt fr σ).length=N'.length
  rw [zgc,B.len]
theorem Inv.leave {cells:List (Str×Addr)}{C:Addr}{pins':List (Addr×Obj)}{σ':St}{s':Shared}{pn:List (Addr×Obj)}(I:Inv X pins σ H s)(hex:∀ b∈ex,FpOk X pins H b)
  (J:Inv (cxIn X scope N' cells C s H ex pn xe) pins' σ' H' s'):Inv X pins σ H' s':=
 I.call' J.os J.base J.hok J.bare fun b hb=>by
  obtain⟨_,f1,_,f3,f4,f5⟩:=hex b hb
  exact⟨f3,f1,f4,f5⟩
theorem Inv.track {d:Addr}{o:HO}(I:Inv X pins σ H s)(hd:FpOk X pins H d)(hX:d ∉ X.ex ∨ X.s₀.heap.objs.size<=d)(h0:X.s₀.heap.objs.size<=d)(new:ObjOk X.prog X.w (upd H d o) s.heap d o):Inv X pins σ (upd H d o) s:=by
 obtain⟨f0,f1,f2,f3,f4,f5⟩:=hd
 refine⟨I.ok,I.os,I.bare,⟨I.base.keep,I.base.slot,fun b u q n hx=>?_,I.base.there,fun b xs q=>?_,fun b u xs q=>?_,fun b ps q=>?_⟩,I.loc,I.cell,?_,fun x c e=>?_,fun p hp=>?_,fun b u q=>?_,I.len⟩
 ·rw [upd_ne (Nat.ne_of_lt (Nat.lt_of_lt_of_le (Heap.lt_size q) h0))]
  exact I.base.free b u q n hx
 ·have:=I.base.tups b xs q
  rw [upd_ne (zpa this f0)]
  exact this
 ·have:=I.base.frzs b u xs q
  rw [upd_ne (zpa this f0)]
  exact this
 ·obtain⟨m,this⟩:=I.base.tbls b ps q
  exact⟨m,by rw [upd_ne (zpa this f0)];exact this⟩
 ·rw [upd_ne (Ne.symm f1)]
  exact I.free
 ·rw [upd_ne (f4 x c e)]
  exact I.freeC x c e
 ·obtain⟨e,n,ne,nf,dd⟩:=I.pin p hp
  exact⟨e,by rw [upd_ne (f5 p hp)];exact n,ne,nf,dd⟩
 ·by_cases hb:b=d
  ·subst hb
   rw [zga] at q
   cases q
   exact new
  ·rw [upd_ne hb] at q
   exact (I.hok b u q).stay (fun _ _ _ z=>z) (fun c z=>by rw [upd_ne (zpa z f0)];exact z) fun c xs z=>by rw [upd_ne (zpa z f0)];exact z
end
noncomputable abbrev zvl (ifs:List Expr) (env:Env):Sem Bool:=forIn ifs true fun c r=>if r=true then do let ok ← isTrue c env (eval c env);pure (ForInStep.yield ok) else pure (ForInStep.yield r)
theorem codeAny_compLoop_gen {prog:Program}{w:World}{A:Around}{R:Result->Shared->Prop}{s:Shared}{elt target iter:Expr}{ifs:List Expr}{scope:Scope}{pos:Pos}{it acc:Value}{env:Env}(I:Nat->Shared->Prop)
  (turn:∀ n s,I n s->wpAny (model prog w) A (pyNext it) (fun r s₁=>match r with
   | none=>R (.ok .next) s₁
   | some v=>wpAny (model prog w) A (letOwnedTupleGo target it v) (fun _ s₁'=>wpAny (model prog w) A (assign target env v) (fun _ s₂=>
     wpAny (model prog w) A (zvl ifs env) (fun ok s₃=>
      if ok=true then wpAny (model prog w) A (eval elt env) (fun x s₄=>
       wpAny (model prog w) A (call (.builtin "list.append") [acc,x]) (fun _ s₅=>∃ m,m<n/\I m s₅) (notedBy (model prog w) A env fun e s'=>R (.error e) s') s₄) (notedBy (model prog w) A env fun e s'=>R (.error e) s') s₃
      else ∃ m,m<n/\I m s₃) (notedBy (model prog w) A env fun e s'=>R (.error e) s') s₂) (notedBy (model prog w) A env fun e s'=>R (.error e) s') s₁') (notedBy (model prog w) A env fun e s'=>R (.error e) s') s₁) (notedBy (model prog w) A env fun e s'=>R (.error e) s') s)
  (n:Nat) (h:I n s):codeAny (model prog w) A (.compLoop (.ListComp elt [⟨target,iter,ifs,0⟩] scope pos) 0 it acc env) R s:=by
 refine codeAny_loop rfl I (fun n s hI=>?_) n h
 show wpAny _ A ((compTurn (.ListComp elt [⟨target,iter,ifs,0⟩] scope pos) 0 it acc env).onRaise (fun x=>do noteFrame x env;theTreesLotGoes x)) _ _ s
 refine wpAny_noted ?_
 rw [compTurn_list]
 refine wpAny_bind (wpAny_standAt (wpAny_bind (wpAny_mono (turn n s hI) (fun r s₁ h₁=>?_) fun _ _ h'=>h')))
 cases r with
 | none=>exact wpAny_pure h₁
 | some v=>
  refine wpAny_bind (wpAny_mono h₁ (fun _ s₁' h₁'=>?_) fun _ _ h'=>h')
  refine wpAny_bind (wpAny_mono h₁' (fun _ s₂ h₂=>wpAny_bind (wpAny_mono h₂ (fun ok s₃ h₃=>?_) fun _ _ h'=>h')) fun _ _ h'=>h')
  cases ok with
  | false=>exact wpAny_pure ⟨rfl,h₃⟩
  | true=>
   exact wpAny_bind (wpAny_bind (wpAny_mono h₃ (fun x s₄ h₄=>wpAny_bind (wpAny_mono h₄ (fun _ s₅ h₅=>wpAny_pure (wpAny_pure ⟨rfl,h₅⟩)) fun _ _ h'=>h')) fun _ _ h'=>h'))
def PTs (X:Cx)(ifs:List Expr)(t:TT):Prop:=
 ∀ (pins:List (Addr×Obj)) (s:Shared) (σ:St) (H:Hp) (Q:Bool->Hp->Prop),Inv X pins σ H s->t σ H Q->wpAny (model X.prog X.w) X.A (zvl ifs X.env) (TP X pins σ Q) X.xe s
def tYes:TT:=fun _ H Q=>Q true H
theorem pts_nil {X:Cx}:PTs X [] tYes:=fun _ _ _ H _ I h=>wpAny_tests_nil ⟨H,I,h⟩
theorem pts_one {X:Cx}{c:Expr}{t:TT}(h:PT X c t):PTs X [c] t:=fun pins s σ H Q I q=>wpAny_tests_one (h pins s σ H Q I q)
def Kp (fr:List (Option Nat))(σ σ':St):Prop:=σ'.length=σ.length/\∀ i j:Nat,fr[i]?=some (some j)->σ'[i]?=σ[i]?
theorem Kp.refl (fr:List (Option Nat))(σ:St):Kp fr σ σ:=⟨rfl,fun _ _ _=>rfl⟩
theorem Kp.trans {fr:List (Option Nat)}{σ σ' σ'':St}(a:Kp fr σ σ')(b:Kp fr σ' σ''):Kp fr σ σ'':=⟨b.1.trans a.1,fun i j e=>(b.2 i j e).trans (a.2 i j e)⟩
def GKeep (fr:List (Option Nat))(g:TG):Prop:=∀ v σ H (Q Q':St->Hp->Prop),(∀ σ' H',Q σ' H'->Kp fr σ σ'->Q' σ' H')->g v σ H Q->g v σ H Q'
def GKeeps (fr:List (Option Nat))(g:TGs):Prop:=∀ v σ H (Q Q':St->Hp->Prop),(∀ σ' H',Q σ' H'->Kp fr σ σ'->Q' σ' H')->g v σ H Q->g v σ H Q'
theorem gk_name {fr:List (Option Nat)}{i:Nat}(h:fr[i]?=some none):GKeep fr (zcm i):=fun v σ H Q Q' k q=>by
 refine k _ _ q ⟨List.length_set,fun i' j e=>?_⟩
 have:i≠i':=fun z=>by subst z;rw [h] at e;cases e
 exact List.getElem?_set_ne this
theorem gk_nil {fr:List (Option Nat)}:GKeeps fr gNil:=fun v σ H Q Q' k q=>⟨q.1,k _ _ q.2 (Kp.refl _ _)⟩
theorem gk_cons {fr:List (Option Nat)}{g:TG}{gs:TGs}(h1:GKeep fr g)(h2:GKeeps fr gs):GKeeps fr (zln g gs):=fun vs σ H Q Q' k q=>by
 obtain⟨v,r,e,q⟩:=q
 refine⟨v,r,e,h1 v σ H _ _ (fun σ1 H1 q1 k1=>h2 r σ1 H1 _ _ (fun σ2 H2 q2 k2=>k σ2 H2 q2 (k1.trans k2)) q1) q⟩
theorem gk_tup {fr:List (Option Nat)}{K:yF}{n:Nat}{gs:TGs}(h:GKeeps fr gs):GKeep fr (gTup K n gs):=fun v σ H Q Q' k q=>by
 obtain⟨a,xs,e1,e2,e3,q⟩:=q
 exact⟨a,xs,e1,e2,e3,h xs σ H Q Q' k q⟩
structure Bk where
 cells:List (Str×Addr)
 C:Addr
 s:Shared
 H:Hp
 ex:List Addr
 pn:List (Addr×Obj)
noncomputable abbrev cxB (X:Cx) (scope:Scope) (N':List Str) (b:Bk):Cx:=cxIn X scope N' b.cells b.C b.s b.H b.ex b.pn fun _ _=>False
def zwn (wi:TI)(fr:List (Option Nat))(g:TG)(tc:TT)(te:TE):TE:=fun σ H Q=>
 wi σ H fun J H1=>∃ W:Nat->Nat->List V->Hp->Prop,(∃ m,W 0 m [] H1)/\∀ i m acc H,W i m acc H->acc.length<sizeLine ∧
  ((J.stop i H/\∀ d,H d=none->Q (.ref d) (upd H d (.lst acc))) ∨
  (J.go i H/\∃ N:List V->Hp->Prop,(∀ acc' H',N acc' H'->∃ m',m'<m/\W (i+1) m' acc' H') ∧
   ∀ x H',J.yld i H x H'->g x (inSt fr σ) H' fun σ2 H2=>tc σ2 H2 fun b H3=>if b=true then te σ2 H3 fun v H4=>N (acc++[v]) H4 else N acc H3))
section
variable  {X:Cx}{elt tg iter:Expr}{ifs:List Expr}{scope:Scope}{pos:Pos}{N':List Str}{fr:List (Option Nat)}{wi:TI}{g:TG}{tc:TT}{te:TE}
theorem comp_block (hc:X.calm=true)(B:Blk X.env.scope scope X.N N' fr)
  (hg:∀ b,PG (cxB X scope N' b) tg g) (hgk:GKeep fr g) (ht:∀ b,PTs (cxB X scope N' b) ifs tc) (he:∀ b,PE (cxB X scope N' b) elt te)
  {pins:List (Addr×Obj)} {σ:St} {Q:VK} {itv:Value} {s2:Shared} {E:Value->Shared->Prop} {RR:Value->Addr->Result->Shared->Prop}
  (h2:PIE X pins σ tg (fun J H1=>∃ W:Nat->Nat->List V->Hp->Prop,(∃ m,W 0 m [] H1)/\∀ i m acc H,W i m acc H->acc.length<sizeLine ∧
   ((J.stop i H/\∀ d,H d=none->Q (.ref d) (upd H d (.lst acc))) ∨
   (J.go i H/\∃ N:List V->Hp->Prop,(∀ acc' H',N acc' H'->∃ m',m'<m/\W (i+1) m' acc' H') ∧
    ∀ x H',J.yld i H x H'->g x (inSt fr σ) H' fun σ2 H2=>tc σ2 H2 fun b H3=>if b=true then te σ2 H3 fun v H4=>N (acc++[v]) H4 else N acc H3))) itv s2)
  (hRR:∀ (d C:Addr) (v:V) (H':Hp) (s':Shared) m',Inv X pins σ H' s'->v = .ref d->Q v H'->s'.heap.Ns C m'->FpOk X pins H' C->C≠d->RR (.ref d) C (.ok .next) s') :
  wpAny (model X.prog X.w) X.A (newList []) (fun acc s₃=>wpAny (model X.prog X.w) X.A (newFunctionEnv scope X.env.globals (zmc X.env scope.names []) [] X.env.qual none .none (some X.env)) (fun cenv s₄=>
   codeAny (model X.prog X.w) X.A (.compStart (.ListComp elt [⟨tg,iter,ifs,0⟩] scope pos) 0 itv acc { cenv with scope:=relabel scope X.env }) (RR acc cenv.locals) s₄) E s₃) E s2:=by
 obtain⟨it,fp,tn,J,H2,rfl,I2,T,st2,f2,W,⟨m0,w0⟩,turn⟩:=h2
 refine wpAny_newObj_type ?_
 generalize hd:s2.heap.objs.size=d
 have I3:Inv X pins σ H2 { s2 with heap:=s2.heap.push { cls:=.type "list",dict:=none,data:=.seq ([]:List Value).toArray } }:=I2.kept (t':=s2.toks) fun b o e=>Heap.get?_push_of_some _ e
 have fd:FpOk X pins H2 d:=I2.fpOk (by rw [hd];exact Nat.le_refl _) (I2.hok.fresh (by rw [hd];exact Nat.le_refl _))
 have od:(s2.heap.push { cls:=.type "list",dict:=none,data:=.seq ([]:List Value).toArray }).get? d=some { cls:=.type "list",dict:=none,data:=.seq ([]:List Value).toArray }:=by rw [← hd];exact Heap.get?_push_size _ rfl
 have st3:tn 0 (s2.heap.push { cls:=.type "list",dict:=none,data:=.seq ([]:List Value).toArray }):=T.keep _ _ _ st2 fun b _ o e=>Heap.get?_push_of_some _ e
 have ne_d:∀ b∈fp,b≠d:=fun b hb=>by
  obtain⟨o,e,_⟩:=T.obj _ _ st2 b hb
  rw [← hd]
  exact Nat.ne_of_lt (Heap.lt_size e)
 have hd0:X.s₀.heap.objs.size<=d:=by rw [← hd];exact I2.sz
 generalize hs3:({ s2 with heap:=s2.heap.push { cls:=.type "list",dict:=none,data:=.seq ([]:List Value).toArray } }:Shared)=s3 at I3
 have od3:s3.heap.get? d=some { cls:=.type "list",dict:=none,data:=.seq ([]:List Value).toArray }:=by rw [← hs3];exact od
 have st3':tn 0 s3.heap:=by rw [← hs3];exact st3
 have hex:∀ b∈d::fp,FpOk X pins H2 b/\∃ o,s3.heap.get? b=some o:=fun b hb=>by
  rcases ycM hb with e | hb
  ·subst e;exact⟨fd,_,od3⟩
  ·obtain⟨o,e,_⟩:=T.obj _ _ st3' b hb
   exact⟨f2 b hb,o,e⟩
 refine wpAny_blockEnv fun h4 hns hk hcl=>?_
 have J0:=I3.enter (ex:=d::fp) (xe:=fun _ _=>False) B hex hns hk hcl
 generalize hCs:cellsFrom (s3.heap.objs.size+1) scope.names (zmc X.env scope.names [])=cells at J0
 have hCd:s3.heap.objs.size≠d:=fun z=>by have:=Heap.lt_size od3;rw [z] at this;exact Nat.lt_irrefl _ this
 let bk:Bk:=⟨cells,s3.heap.objs.size,s3,H2,d::fp,X.pn++pins⟩
 have J0':Inv (cxB X scope N' bk) [] (inSt fr σ) H2 { s3 with heap:=h4 }:=J0
 show codeAny (model X.prog X.w) X.A (.compStart (.ListComp elt [⟨tg,iter,ifs,0⟩] scope pos) 0 (.ref it) (.ref d) (cxB X scope N' bk).env) (RR (.ref d) s3.heap.objs.size) { s3 with heap:=h4 }
 have ne_pn:∀ p∈X.pn++pins,p.1≠d/\∀ b∈fp,p.1≠b:=fun p hp=>⟨fd.2.2.2.2.2 p hp,fun b hb=>(f2 b hb).2.2.2.2.2 p hp⟩
 have fpk:∀ {Hx:Hp} {o:Obj},(∀ b∈fp,Hx b=none)->∀ b∈fp,FpOk (cxB X scope N' bk) [(d,o)] Hx b:=fun {Hx o} hn b hb=>by
  have hb':b∈d::fp:=ymC _ hb
  refine⟨hn b hb,(J0'.ok.exf b hb').1,J0'.ok.exfs b hb',.inl hb',fun x c e=>(J0'.ok.exf b hb').2 x c e,fun p hp=>?_⟩
  have hp':p∈(X.pn++pins)++[(d,o)]:=hp
  rcases yaM hp' with z | z
  ·exact (ne_pn p z).2 b hb
  ·have:p=(d,o):=by simpa using z
   rw [this]
   exact Ne.symm (ne_d b hb)
 have loop:∀ s4:Shared,Inv (cxB X scope N' bk) [] (inSt fr σ) H2 s4->tn 0 s4.heap->s4.heap.PlainList d #[] →
   codeAny (model X.prog X.w) X.A (.compLoop (.ListComp elt [⟨tg,iter,ifs,0⟩] scope pos) 0 (.ref it) (.ref d) (cxB X scope N' bk).env) (RR (.ref d) s3.heap.objs.size) s4:=by
  intro s4 J4 st4 pl4
  refine codeAny_compLoop_gen (fun n s'=>∃ i acc its H' σ',Inv (cxB X scope N' bk) [] σ' H' s'/\Kp fr (inSt fr σ) σ'/\tn i s'.heap/\(∀ b∈fp,H' b=none)/\H' d=none/\s'.heap.PlainList d (List.toArray its)/\Vals acc its/\W i n acc H') ?_ m0
   ⟨0,[],[],H2,inSt fr σ,J4,Kp.refl _ _,st4,fun b hb=>(f2 b hb).1,fd.1,pl4,.nil,w0⟩
  rintro n s5 ⟨i,acc,its,H5,σ5,J5,kp5,st5,fr5,hd5,⟨n5,pl5⟩,va5,w5⟩
  obtain⟨hz,cs⟩:=turn i n acc H5 w5
  have J5p:Inv (cxB X scope N' bk) [(d,{ cls:=.type "list",data:=.seq its.toArray n5 })] σ5 H5 s5:=J5.pins_of fun p hp=>by
   have:p=(d,{ cls:=.type "list",data:=.seq its.toArray n5 }):=by simpa using hp
   subst this
   exact⟨pl5,hd5,(J0'.ok.exf d ymS).1,J0'.ok.exfs d ymS,fun v z=>by cases z⟩
  rcases cs with⟨stop,q⟩ | ⟨go,N,hN,step⟩
  ·refine thn (T.done (cxB X scope N' bk) rfl rfl rfl hc i _ s5 σ5 H5 _ J5p (fpk fr5) st5 stop) fun r s6 ⟨hr,J6⟩=>?_
   subst hr
   obtain⟨e6,n6,_⟩:=J6.pin (d,{ cls:=.type "list",data:=.seq its.toArray n5 }) (yaR _ (by simp))
   have I6:Inv X pins σ H5 s6:=I3.leave (fun b hb=>(hex b hb).1) J6
   have I6t:Inv X pins σ (upd H5 d (.lst acc)) s6:=I6.track ⟨hd5,fd.2⟩ (.inr hd0) hd0 ⟨by omega,its,n5,va5,e6⟩
   obtain⟨m6,hn6,_⟩:=J6.loc
   refine hRR d s3.heap.objs.size (.ref d) _ s6 m6 I6t rfl (q d hd5) hn6 ?_ hCd
   exact I3.fpOk (Nat.le_refl _) (by rw [upd_ne hCd];exact J6.free)
  ·refine thn (T.item (cxB X scope N' bk) rfl rfl rfl hc i _ s5 σ5 H5 _ J5p (fpk fr5) st5 go) fun r s6 ⟨u,hr,h6⟩=>?_
   subst hr
   refine thn h6 fun _ s7 ⟨x,H7,J7,r7,y7,st7,fr7⟩=>?_
   have J7w:Inv (cxB X scope N' bk) [(d,{ cls:=.type "list",data:=.seq its.toArray n5 })] (inSt fr σ) H7 s7:=J7.weak kp5.1.symm fun k v e=>by
    cases q:fr[k]? with
    | none=>
     unfold inSt at e
     rw [List.getElem?_map,q] at e
     cases e
    | some o=>
     cases o with
     | none=>
      unfold inSt at e
      rw [List.getElem?_map,q] at e
      simp at e
     | some j=>rw [kp5.2 k j q];exact e
   have J7p:=J7w.pinned (fpk fr7) (T.obj _ _ st7)
   have never:∀ {α:Type} {t:Sem α} {QQ : α->Shared->Prop} {EE:Value->Shared->Prop} {ss:Shared},wpAny (model X.prog X.w) X.A t QQ (fun _ _=>False) ss->wpAny (model X.prog X.w) X.A t QQ EE ss:=fun hh=>wpAny_mono hh (fun _ _ z=>z) fun _ _ z=>z.elim
   have G:=hgk x (inSt fr σ) H7 _ (fun σ2 H2=>(tc σ2 H2 fun b H3=>if b=true then te σ2 H3 fun v H4=>N (acc++[v]) H4 else N acc H3)/\Kp fr (inSt fr σ) σ2) (fun σ' H' a b=>⟨a,b⟩) (step x H7 y7)
   refine never (thn (hg bk _ s7 (inSt fr σ) H7 x u _ J7p r7 G) fun _ s8 ⟨σ8,H8,J8,q8,kp8⟩=>?_)
   refine never (thn (ht bk _ s8 σ8 H8 _ J8 q8) fun ok s9 ⟨H9,J9,q9⟩=>?_)
   have keepT:∀ {σx:St} {Hx:Hp} {sx:Shared},Inv (cxB X scope N' bk) ([(d,{ cls:=.type "list",data:=.seq its.toArray n5 })]++zsb fp s7.heap) σx Hx sx->(∀ b∈fp,∀ o,s7.heap.get? b=some o->sx.heap.get? b=some o)/\(∀ b∈fp,Hx b=none)/\sx.heap.get? d=some { cls:=.type "list",data:=.seq its.toArray n5 }/\Hx d=none:=fun {σx Hx sx} Jx=>by
    refine⟨fun b hb o e=>(Jx.pin (b,o) (yaR _ (yaR _ (znb hb e)))).1,fun b hb=>?_,?_⟩
    ·obtain⟨o,e,_⟩:=T.obj _ _ st7 b hb
     exact (Jx.pin (b,o) (yaR _ (yaR _ (znb hb e)))).2.1
    ·have:=Jx.pin (d,{ cls:=.type "list",data:=.seq its.toArray n5 }) (yaR _ (yaL _ (by simp)))
     exact⟨this.1,this.2.1⟩
   cases ok with
   | false=>
    rw [if_neg (by decide)] at q9 ⊢
    obtain⟨m',hm,w9⟩:=hN _ _ q9
    obtain⟨k1,k2,k3,k4⟩:=keepT J9
    exact⟨m',hm,i+1,acc,its,H9,σ8,J9.pins_of (fun p hp=>by simp at hp),kp8,T.keep _ _ _ st7 k1,k2,k4,⟨n5,k3⟩,va5,w9⟩
   | true=>
    rw [if_pos rfl] at q9 ⊢
    refine never (thn (he bk _ s9 σ8 H9 _ J9 q9) fun y s10 ⟨v,H10,J10,r10,q10⟩=>?_)
    obtain⟨m',hm,w10⟩:=hN _ _ q10
    obtain⟨k1,k2,k3,k4⟩:=keepT J10
    have hzs:its.toArray.size<=sizeLine:=by rw [List.size_toArray,← va5.length];omega
    refine wpAny_list_append_plain (hsz:=hzs) ⟨n5,k3⟩ fun h11 pl11 sb11=>?_
    have J10':Inv (cxB X scope N' bk) [] σ8 H10 s10:=J10.pins_of (fun p hp=>by simp at hp)
    have J11:Inv (cxB X scope N' bk) [] σ8 H10 { s10 with heap:=h11 }:=J10'.turned (it:=d) (t':=s10.toks) (fun b o hb e=>(sb11.2 b hb).trans e) k4 (J0'.ok.exf d ymS).1 (.inl ymS) (fun x c e=>(J0'.ok.exf d ymS).2 x c e) fun p hp=>by
     have hp':p∈(X.pn++pins)++[]:=hp
     rw [List.append_nil] at hp'
     exact (ne_pn p hp').1
    refine⟨m',hm,i+1,acc++[v],its++[y],H10,σ8,J11,kp8,T.keep _ _ _ st7 (fun b hb o e=>(sb11.2 b (ne_d b hb)).trans (k1 b hb o e)),k2,k4,?_,va5.append (.cons r10 .nil),w10⟩
    have:(its++[y]).toArray=its.toArray.push y:=by simp
    rw [this]
    exact pl11
 have st4:tn 0 h4:=T.keep _ _ _ st3' fun b _ o e=>hk b o e
 have pl4:h4.PlainList d #[]:=⟨0,hk d _ od3⟩
 have L4:=loop { s3 with heap:=h4 } J0' st4 pl4
 exact codeAny_compStart_list L4 (T.self X.A 0 _ _ _ st4 L4)
theorem pe_comp (hc:X.calm=true)(B:Blk X.env.scope scope X.N N' fr)(hi:PI X tg iter wi)
  (hg:∀ b,PG (cxB X scope N' b) tg g) (hgk:GKeep fr g) (ht:∀ b,PTs (cxB X scope N' b) ifs tc) (he:∀ b,PE (cxB X scope N' b) elt te)
  (hs:∀ x,foldedSetIterable iter X.env x=pure x:=by intro _;rfl):PE X (.ListComp elt [⟨tg,iter,ifs,0⟩] scope pos) (zwn wi fr g tc te):=by
 intro pins s σ H Q I h
 rw [eval_ListComp]
 refine wpAny_comprehension_free (use:=none) rfl hs (zxd (I.freeCells B)) B.kind B.locl (thn (hi pins s σ H _ I h) fun v s1 h1=>thn h1 fun itv s2 h2=>?_)
 refine comp_block (RR:=fun acc C=>compPost (model X.prog X.w) X.A X.xe none (EP X pins σ Q) acc C) hc B hg hgk ht he h2 ?_
 intro d C v H' s' m' I' hv q hn fC hCd
 refine⟨m',hn,fun h'' sb=>?_⟩
 obtain⟨c0,c1,c2,c3,c4,c5⟩:=fC
 exact⟨v,H',I'.turned (it:=C) (t':=s'.toks) (fun b o hb e=>(sb.2 b hb).trans e) c0 c1 c3 c4 c5,by rw [hv];rfl,q⟩
theorem ps_setcomp {i:Nat}{x:Str}{pos' spos:Pos}(hc:X.calm=true)(hN:X.N.Nodup)(hi':X.N[i]?=some x)(hx:X.env.scope.names.lookup x=some .local)(B:Blk X.env.scope scope X.N N' fr)(hi:PI X tg iter wi)
  (hg:∀ b,PG (cxB X scope N' b) tg g) (hgk:GKeep fr g) (ht:∀ b,PTs (cxB X scope N' b) ifs tc) (he:∀ b,PE (cxB X scope N' b) elt te)
  (hsw:swapsWith (.ListComp elt [⟨tg,iter,ifs,0⟩] scope pos) (some (.Name x pos')) spos.line X.env=pure true:=by rfl)
  (hs:∀ x,foldedSetIterable iter X.env x=pure x:=by intro _;rfl):PS X (.Assign [.Name x pos'] (.ListComp elt [⟨tg,iter,ifs,0⟩] scope pos) spos) (tAsg (zwn wi fr g tc te) (zcm i)):=by
 intro pins s σ H D I h
 rw [exec_Assign_Name_used _ _ _ _ hsw]
 refine wpAny_bind (wpAny_standAt (wpAny_bind ?_))
 show wpAny _ _ (do let _ ← comprehension (.ListComp elt [⟨tg,iter,ifs,0⟩] scope pos) scope X.env _ (newList []) false (eval iter X.env) (some (assign (.Name x pos') X.env))) _ _ s
 refine wpAny_bind (wpAny_mono (wpAny_comprehension_free (use:=some (assign (.Name x pos') X.env)) (Q:=fun _ s'=>SP X pins D .next s') rfl hs (zxd (I.freeCells B)) B.kind B.locl (thn (hi pins s σ H _ I h) fun v s1 h1=>thn h1 fun itv s2 h2=>?_)) (fun _ s' hq=>wpAny_pure (wpAny_pure hq)) fun _ _ e=>e)
 refine comp_block (Q:=fun v H1=>zcm i v σ H1 D.nx) (RR:=fun acc C=>compPost (model X.prog X.w) X.A X.xe (some (assign (.Name x pos') X.env)) (fun _ s'=>SP X pins D .next s') acc C) hc B hg hgk ht he h2 ?_
 intro d C v H' s' m' I' hv q hn fC hCd
 obtain⟨c0,c1,c2,c3,c4,c5⟩:=fC
 subst hv
 refine wpAny_assign_Name (store_ok2 I' hN hi' (.inl hx) (show RelV (.ref d) (.ref d) from rfl) (fun s6 I6 ⟨a,sa,ha⟩=>?_) (.inr hx))
 have haC:C≠a:=by
  rcases ha with z | z
  ·rw [z];exact c1
  ·exact fun z'=>c4 x a z z'.symm
 refine⟨m',hn.sameBut sa haC,fun h'' sb=>?_⟩
 exact⟨_,H',I6.turned (it:=C) (t':=s6.toks) (fun b o hb e=>(sb.2 b hb).trans e) c0 c1 c3 c4 c5,q⟩
end
inductive D where
 | int (i:Int) | str (x:Str) | tup (ds:List D)
mutual
def Rep (K:yF)(H:Hp):D->V->Prop
 | .int i,v=>v = .int i
 | .str x,v=>v = .str x
 | .tup ds,v=>∃ a xs,v = .ref a/\SqT K H a xs/\Reps K H ds xs
def Reps (K:yF)(H:Hp):List D->List V->Prop
 | [],xs=>xs = []
 | d::ds,xs=>∃ x r,xs=x::r/\Rep K H d x/\Reps K H ds r
end
mutual
noncomputable def D.depth:D->Nat
 | .int _=>0
 | .str _=>0
 | .tup ds=>depths ds+1
noncomputable def depths:List D->Nat
 | []=>0
 | d::ds=>max d.depth (depths ds)
end
theorem depth_mem {d:D}:∀ {ds:List D},d∈ds->d.depth<=depths ds
 | [],h=>by cases h
 | e::ds,h=>by
  rw [depths]
  rcases ycM h with z | z
  ·rw [z];exact Nat.le_max_left _ _
  ·exact Nat.le_trans (depth_mem z) (Nat.le_max_right _ _)
theorem Reps.length {K:yF}{H:Hp}:∀ {ds:List D} {xs:List V},Reps K H ds xs->xs.length=ds.length
 | [],xs,h=>by rw [Reps] at h;rw [h];rfl
 | d::ds,xs,h=>by
  rw [Reps] at h
  obtain⟨x,r,rfl,_,h3⟩:=h
  rw [List.length_cons,List.length_cons,h3.length]
theorem Rep.tup_iff {K:yF}{H:Hp}{ds:List D}{v:V}:Rep K H (.tup ds) v ↔ ∃ a xs,v = .ref a/\SqT K H a xs/\Reps K H ds xs:=by rw [Rep]
theorem Same.laid {H:Hp}{p:Addr}{o:HO}(hp:H p=none):Same H (upd H p o):=fun b u e=>by rw [upd_ne (zpa e hp)];exact e
section
variable  {X:Cx}{pins:List (Addr×Obj)}{σ:St}{H:Hp}{s:Shared}
mutual
theorem Rep.inj (I:Inv X pins σ H s):∀ {d e:D} {v:V},Rep X.K H d v->Rep X.K H e v->d=e
 | .int i,.int j,v,h,h'=>by simp only [Rep] at h h';subst h;cases h';rfl
 | .int i,.str j,v,h,h'=>by simp only [Rep] at h h';subst h;cases h'
 | .int i,.tup j,v,h,h'=>by simp only [Rep] at h h';subst h;obtain⟨_,_,z,_⟩:=h';cases z
 | .str i,.int j,v,h,h'=>by simp only [Rep] at h h';subst h;cases h'
 | .str i,.str j,v,h,h'=>by simp only [Rep] at h h';subst h;cases h';rfl
 | .str i,.tup j,v,h,h'=>by simp only [Rep] at h h';subst h;obtain⟨_,_,z,_⟩:=h';cases z
 | .tup i,.int j,v,h,h'=>by simp only [Rep] at h h';subst h';obtain⟨_,_,z,_⟩:=h;cases z
 | .tup i,.str j,v,h,h'=>by simp only [Rep] at h h';subst h';obtain⟨_,_,z,_⟩:=h;cases z
 | .tup ds,.tup es,v,h,h'=>by
  simp only [Rep] at h h'
  obtain⟨a,xs,rfl,h2,h3⟩:=h
  obtain⟨b,ys,z,h4,h5⟩:=h'
  cases z
  rw [I.tuple_inj h4 h2] at h5
  rw [Reps.inj I h3 h5]
theorem Reps.inj (I:Inv X pins σ H s):∀ {ds es:List D} {xs:List V},Reps X.K H ds xs->Reps X.K H es xs->ds=es
 | [],[],xs,h,h'=>rfl
 | [],e::es,xs,h,h'=>by simp only [Reps] at h h';subst h;obtain⟨_,_,z,_⟩:=h';cases z
 | d::ds,[],xs,h,h'=>by simp only [Reps] at h h';subst h';obtain⟨_,_,z,_⟩:=h;cases z
 | d::ds,e::es,xs,h,h'=>by
  simp only [Reps] at h h'
  obtain⟨x,r,rfl,h2,h3⟩:=h
  obtain⟨y,q,z,h4,h5⟩:=h'
  cases z
  rw [Rep.inj I h2 h4,Reps.inj I h3 h5]
end
open SeqAt in
mutual
theorem eqAt_D (I:Inv X pins σ H s):∀ (d e:D) {x y:V} {u v:Value} {A:Around},Rep X.K H d x->Rep X.K H e y->RelV x u->RelV y v->A.units+d.depth<cLine->∃ b,(b=true↔d=e)/\EqAt A s u v b
 | .int i,.int j,x,y,u,v,A,h,h',r,r',_=>by
  simp only [Rep] at h h';subst h h';obtain⟨t,rfl⟩:=r;obtain⟨t',rfl⟩:=r'
  exact⟨_,by simp,EqAt.int_int i t j t'⟩
 | .int i,.str j,x,y,u,v,A,h,h',r,r',_=>by
  simp only [Rep] at h h';subst h h';obtain⟨t,rfl⟩:=r;obtain⟨t',rfl⟩:=r'
  exact⟨_,by simp,EqAt.int_str i t j t'⟩
 | .str i,.int j,x,y,u,v,A,h,h',r,r',_=>by
  simp only [Rep] at h h';subst h h';obtain⟨t,rfl⟩:=r;obtain⟨t',rfl⟩:=r'
  exact⟨_,by simp,EqAt.str_int i t j t'⟩
 | .str i,.str j,x,y,u,v,A,h,h',r,r',_=>by
  simp only [Rep] at h h';subst h h';obtain⟨t,rfl⟩:=r;obtain⟨t',rfl⟩:=r'
  exact⟨_,by simp,EqAt.str_str i t j t'⟩
 | .int i,.tup j,x,y,u,v,A,h,h',r,r',hu=>by
  simp only [Rep] at h h';subst h;obtain⟨t,rfl⟩:=r
  obtain⟨a,xs,rfl,h2,_⟩:=h'
  cases r'
  obtain⟨its,_,p,_⟩:=I.tuple h2
  exact⟨false,by simp,EqAt.int_tuple i t (show s.heap.IsTuple a its.toArray from p) (Nat.lt_of_le_of_lt (Nat.le_add_right _ _) hu)⟩
 | .str i,.tup j,x,y,u,v,A,h,h',r,r',hu=>by
  simp only [Rep] at h h';subst h;obtain⟨t,rfl⟩:=r
  obtain⟨a,xs,rfl,h2,_⟩:=h'
  cases r'
  obtain⟨its,_,p,_⟩:=I.tuple h2
  exact⟨false,by simp,EqAt.str_tuple i t (show s.heap.IsTuple a its.toArray from p) (Nat.lt_of_le_of_lt (Nat.le_add_right _ _) hu)⟩
 | .tup j,.int i,x,y,u,v,A,h,h',r,r',hu=>by
  simp only [Rep] at h h';subst h';obtain⟨t,rfl⟩:=r'
  obtain⟨a,xs,rfl,h2,_⟩:=h
  cases r
  obtain⟨its,_,p,_⟩:=I.tuple h2
  exact⟨false,by simp,EqAt.tuple_int i t (show s.heap.IsTuple a its.toArray from p) (Nat.lt_of_le_of_lt (Nat.le_add_right _ _) hu)⟩
 | .tup j,.str i,x,y,u,v,A,h,h',r,r',hu=>by
  simp only [Rep] at h h';subst h';obtain⟨t,rfl⟩:=r'
  obtain⟨a,xs,rfl,h2,_⟩:=h
  cases r
  obtain⟨its,_,p,_⟩:=I.tuple h2
  exact⟨false,by simp,EqAt.tuple_str i t (show s.heap.IsTuple a its.toArray from p) (Nat.lt_of_le_of_lt (Nat.le_add_right _ _) hu)⟩
 | .tup ds,.tup es,x,y,u,v,A,h,h',r,r',hu=>by
  by_cases hne:u=v
  ·subst hne
   have hxy:x=y:=r.inj r'
   subst hxy
   exact⟨true,by simp [Rep.inj I h h'],EqAt.same u⟩
  ·simp only [Rep] at h h'
   obtain⟨a,xs,rfl,h2,h3⟩:=h
   obtain⟨b,ys,rfl,h4,h5⟩:=h'
   cases r
   cases r'
   obtain⟨its,rv,p,_⟩:=I.tuple h2
   obtain⟨its',rv',p',_⟩:=I.tuple h4
   have hab:a≠b:=fun z=>hne (by rw [z])
   have hu':A.in1.units+depths ds<cLine:=by
    have:A.units+(depths ds+1)<cLine:=by rw [D.depth] at hu;exact hu
    show A.units+1+depths ds<cLine
    omega
   obtain⟨e,he,hE⟩:=zah I ds es (A:=A.in1) h3 h5 rv rv' hu'
   have R:=RcAt.tuples (A:=A) (s:=s) (l:=a) (b:=b) (items:=its.toArray) (items2:=its'.toArray) (e:=e) (show s.heap.IsTuple a its.toArray from p) (show s.heap.IsTuple b its'.toArray from p') (Nat.lt_of_le_of_lt (Nat.le_add_right _ _) hu) (fun j h1 h2=>by
    simpa using hE j (its[j]'(by simpa using h1)) (its'[j]'(by simpa using h2)) (by simp) (by simp))
   refine⟨_,?_,EqAt.of_refs hab R⟩
   rw [he.symm]
   have l1:its.toArray.size=ds.length:=by rw [List.size_toArray,← rv.length,h3.length]
   have l2:its'.toArray.size=es.length:=by rw [List.size_toArray,← rv'.length,h5.length]
   rw [l1,l2]
   simp
theorem zah (I:Inv X pins σ H s):∀ (ds es:List D) {xs ys:List V} {us vs:List Value} {A:Around},Reps X.K H ds xs->Reps X.K H es ys->Vals xs us->Vals ys vs->A.units+depths ds<cLine →
  ∃ e:Nat->Bool,(((List.range (min ds.length es.length)).all e=true/\ds.length=es.length)↔D.tup ds=D.tup es)/\∀ (j:Nat) u v,us[j]?=some u->vs[j]?=some v->EqAt A s u v (e j)
 | [],es,xs,ys,us,vs,A,h,h',r,r',_=>by
  rw [Reps] at h;subst h;cases r
  refine⟨fun _=>true,?_,fun j u v e=>by simp at e⟩
  cases es<;>simp
 | d::ds,[],xs,ys,us,vs,A,h,h',r,r',_=>by
  rw [Reps] at h';subst h';cases r'
  exact⟨fun _=>true,by simp,fun j u v _ e=>by simp at e⟩
 | d::ds,e::es,xs,ys,us,vs,A,h,h',r,r',hu=>by
  simp only [Reps] at h h'
  obtain⟨x,q,rfl,h2,h3⟩:=h
  obtain⟨y,q',rfl,h4,h5⟩:=h'
  cases r with
  | cons r1 r2=>
   cases r' with
   | cons r3 r4=>
    rw [depths] at hu
    have m1:=Nat.le_max_left d.depth (depths ds)
    have m2:=Nat.le_max_right d.depth (depths ds)
    obtain⟨b,hb,hB⟩:=eqAt_D I d e (A:=A) h2 h4 r1 r3 (by omega)
    obtain⟨f,hf,hF⟩:=zah I ds es (A:=A) h3 h5 r2 r4 (by omega)
    refine⟨fun j=>match j with | 0=>b | j+1=>f j,?_,fun j u v e1 e2=>?_⟩
    ·have hf':((List.range (min ds.length es.length)).all f=true/\ds.length=es.length)↔ds=es:=by rw [hf];simp
     rw [List.length_cons,List.length_cons,Nat.succ_min_succ,List.range_succ_eq_map,List.all_cons,List.all_map]
     simp only [D.tup.injEq,List.cons.injEq,Bool.and_eq_true,Nat.add_right_cancel_iff]
     rw [← hf',← hb]
     constructor
     ·rintro ⟨⟨a1,a2⟩,a3⟩;exact⟨a1,a2,a3⟩
     ·rintro ⟨a1,a2,a3⟩;exact⟨⟨a1,a2⟩,a3⟩
    ·cases j with
     | zero=>simp at e1 e2;subst e1 e2;exact hB
     | succ j=>exact hF j u v (by simpa using e1) (by simpa using e2)
end
end
section
variable  {X:Cx}
def rEqD (K:yF):R2:=fun x y H Q=>∃ ds es,Rep K H (.tup ds) x/\Rep K H (.tup es) y/\depths ds<=50/\∀ b,(b=true↔ds=es)->Q (.bl b) H
def rNeD (K:yF):R2:=fun x y H Q=>∃ ds es,Rep K H (.tup ds) x/\Rep K H (.tup es) y/\depths ds<=50/\∀ b,(b=true↔ds≠es)->Q (.bl b) H
theorem op_eqD (hu:X.A.units+64<cLine):OpR X (compareOp .Eq) (rEqD X.K):=by
 intro pins s σ H x y v u Q I rx ry h
 obtain⟨ds,es,h1,h2,hd,q⟩:=h
 rw [Rep.tup_iff] at h1 h2
 obtain⟨a,xs,rfl,h3,h4⟩:=h1
 obtain⟨b,ys,rfl,h5,h6⟩:=h2
 cases rx
 cases ry
 obtain⟨its,rv,p,_⟩:=I.tuple h3
 obtain⟨its',rv',p',_⟩:=I.tuple h5
 have hu':X.A.in1.units+depths ds<cLine:=by show X.A.units+1+depths ds<cLine;omega
 obtain⟨e,he,hE⟩:=zah I ds es (A:=X.A.in1) h4 h6 rv rv' hu'
 have R:=SeqAt.RcAt.tuples (A:=X.A) (s:=s) (l:=a) (b:=b) (items:=its.toArray) (items2:=its'.toArray) (e:=e) (show s.heap.IsTuple a its.toArray from p) (show s.heap.IsTuple b its'.toArray from p') (by omega) (fun j h1 h2=>by
  simpa using hE j (its[j]'(by simpa using h1)) (its'[j]'(by simpa using h2)) (by simp) (by simp))
 refine R X.prog X.w X.xe _ ⟨.bl _,H,I,rfl,q _ ?_⟩
 have l1:its.toArray.size=ds.length:=by rw [List.size_toArray,← rv.length,h4.length]
 have l2:its'.toArray.size=es.length:=by rw [List.size_toArray,← rv'.length,h6.length]
 have he':((List.range (min ds.length es.length)).all e=true/\ds.length=es.length)↔ds=es:=by rw [he];simp
 rw [l1,l2,← he']
 simp
theorem op_neD (hu:X.A.units+64<cLine):OpR X (compareOp .NotEq) (rNeD X.K):=by
 intro pins s σ H x y v u Q I rx ry h
 obtain⟨ds,es,h1,h2,hd,q⟩:=h
 rw [Rep.tup_iff] at h1 h2
 obtain⟨a,xs,rfl,h3,h4⟩:=h1
 obtain⟨b,ys,rfl,h5,h6⟩:=h2
 cases rx
 cases ry
 obtain⟨its,rv,p,_⟩:=I.tuple h3
 obtain⟨its',rv',p',_⟩:=I.tuple h5
 have hu':X.A.in1.units+depths ds<cLine:=by show X.A.units+1+depths ds<cLine;omega
 obtain⟨e,he,hE⟩:=zah I ds es (A:=X.A.in1) h4 h6 rv rv' hu'
 have R:=SeqAt.RcNeAt.tuples (A:=X.A) (s:=s) (l:=a) (b:=b) (items:=its.toArray) (items2:=its'.toArray) (e:=e) (show s.heap.IsTuple a its.toArray from p) (show s.heap.IsTuple b its'.toArray from p') (by omega) (fun j h1 h2=>by
  simpa using hE j (its[j]'(by simpa using h1)) (its'[j]'(by simpa using h2)) (by simp) (by simp))
 refine R X.prog X.w X.xe _ ⟨.bl _,H,I,rfl,q _ ?_⟩
 have l1:its.toArray.size=ds.length:=by rw [List.size_toArray,← rv.length,h4.length]
 have l2:its'.toArray.size=es.length:=by rw [List.size_toArray,← rv'.length,h6.length]
 have he':((List.range (min ds.length es.length)).all e=true/\ds.length=es.length)↔ds=es:=by rw [he];simp
 rw [l1,l2,ne_eq,← not_congr he',Bool.not_eq_true',← Bool.not_eq_true,Bool.and_eq_true,beq_iff_eq]
def rEqL (K:yF):R2:=fun x y H Q=>∃ a b xs ys ds es,x = .ref a/\y = .ref b/\SqL K H a xs/\SqL K H b ys/\Reps K H ds xs/\Reps K H es ys/\depths ds<=50/\∀ c,(c=true↔ds=es)->Q (.bl c) H
def rNeL (K:yF):R2:=fun x y H Q=>∃ a b xs ys ds es,x = .ref a/\y = .ref b/\SqL K H a xs/\SqL K H b ys/\Reps K H ds xs/\Reps K H es ys/\depths ds<=50/\∀ c,(c=true↔ds≠es)->Q (.bl c) H
theorem op_eqL (hu:X.A.units+64<cLine):OpR X (compareOp .Eq) (rEqL X.K):=by
 intro pins s σ H x y v u Q I rx ry h
 obtain⟨a,b,xs,ys,ds,es,rfl,rfl,h3,h5,h4,h6,hd,q⟩:=h
 cases rx
 cases ry
 obtain⟨its,rv,p,_⟩:=I.list h3
 obtain⟨its',rv',p',_⟩:=I.list h5
 have hu':X.A.in1.units+depths ds<cLine:=by show X.A.units+1+depths ds<cLine;omega
 obtain⟨e,he,hE⟩:=zah I ds es (A:=X.A.in1) h4 h6 rv rv' hu'
 have l1:its.toArray.size=ds.length:=by rw [List.size_toArray,← rv.length,h4.length]
 have l2:its'.toArray.size=es.length:=by rw [List.size_toArray,← rv'.length,h6.length]
 have he':((List.range (min ds.length es.length)).all e=true/\ds.length=es.length)↔ds=es:=by rw [he];simp
 by_cases hl:ds.length=es.length
 ·have R:=SeqAt.RcAt.lists (A:=X.A) (s:=s) (l:=a) (b:=b) (items:=its.toArray) (items2:=its'.toArray) (e:=e) p.isList p'.isList (by rw [l1,l2];exact hl) (by omega) (fun j h1 h2=>by
   simpa using hE j (its[j]'(by simpa using h1)) (its'[j]'(by simpa using h2)) (by simp) (by simp))
  refine R X.prog X.w X.xe _ ⟨.bl _,H,I,rfl,q _ ?_⟩
  rw [l1,← he',← hl,Nat.min_self]
  simp
 ·have R:=SeqAt.RcAt.lists_lengths (A:=X.A) (s:=s) (l:=a) (b:=b) (items:=its.toArray) (items2:=its'.toArray) p.isList p'.isList (by rw [l1,l2];simpa using hl) (by omega)
  refine R X.prog X.w X.xe _ ⟨.bl _,H,I,rfl,q _ ?_⟩
  constructor
  ·intro z;cases z
  ·intro z;exact absurd (by rw [z]) hl
theorem op_neL (hu:X.A.units+64<cLine):OpR X (compareOp .NotEq) (rNeL X.K):=by
 intro pins s σ H x y v u Q I rx ry h
 obtain⟨a,b,xs,ys,ds,es,rfl,rfl,h3,h5,h4,h6,hd,q⟩:=h
 cases rx
 cases ry
 obtain⟨its,rv,p,_⟩:=I.list h3
 obtain⟨its',rv',p',_⟩:=I.list h5
 have hu':X.A.in1.units+depths ds<cLine:=by show X.A.units+1+depths ds<cLine;omega
 obtain⟨e,he,hE⟩:=zah I ds es (A:=X.A.in1) h4 h6 rv rv' hu'
 have l1:its.toArray.size=ds.length:=by rw [List.size_toArray,← rv.length,h4.length]
 have l2:its'.toArray.size=es.length:=by rw [List.size_toArray,← rv'.length,h6.length]
 have he':((List.range (min ds.length es.length)).all e=true/\ds.length=es.length)↔ds=es:=by rw [he];simp
 by_cases hl:ds.length=es.length
 ·have R:=SeqAt.RcNeAt.lists (A:=X.A) (s:=s) (l:=a) (b:=b) (items:=its.toArray) (items2:=its'.toArray) (e:=e) p.isList p'.isList (by rw [l1,l2];exact hl) (by omega) (fun j h1 h2=>by
   simpa using hE j (its[j]'(by simpa using h1)) (its'[j]'(by simpa using h2)) (by simp) (by simp))
  refine R X.prog X.w X.xe _ ⟨.bl _,H,I,rfl,q _ ?_⟩
  rw [l1,ne_eq,← not_congr he',← hl,Nat.min_self]
  simp
 ·have R:=SeqAt.RcNeAt.lists_lengths (A:=X.A) (s:=s) (l:=a) (b:=b) (items:=its.toArray) (items2:=its'.toArray) p.isList p'.isList (by rw [l1,l2];simpa using hl) (by omega)
  refine R X.prog X.w X.xe _ ⟨.bl _,H,I,rfl,q _ ?_⟩
  constructor
  ·intro _ z;exact absurd (by rw [z]) hl
  ·intro _;rfl
open Classical in
noncomputable def isD (K:yF) (H:Hp) (d:D) (u:Value):Bool:=decide (∃ v,RelV v u/\Rep K H d v)
open Classical in
theorem isD_iff {K:yF}{H:Hp}{d:D}{u:Value}:isD K H d u=true ↔ ∃ v,RelV v u/\Rep K H d v:=by
 unfold isD
 exact decide_eq_true_iff
theorem zwh {pins:List (Addr×Obj)}{σ:St}{H:Hp}{s:Shared}(I:Inv X pins σ H s){d:D}:∀ {ds:List D} {xs:List V} {us:List Value},Reps X.K H ds xs->Vals xs us->(us.any (isD X.K H d)=true↔d∈ds)
 | [],xs,us,h,r=>by rw [Reps] at h;subst h;cases r;simp
 | e::ds,xs,us,h,r=>by
  rw [Reps] at h
  obtain⟨x,q,rfl,h2,h3⟩:=h
  cases r with
  | @cons _ u0 _ us0 r1 r2=>
   rw [List.any_cons,Bool.or_eq_true,zwh I h3 r2,List.mem_cons]
   have:isD X.K H d u0=true↔d=e:=by
    rw [isD_iff]
    constructor
    ·rintro ⟨v,rv,hv⟩
     rw [rv.inj r1] at hv
     exact Rep.inj I hv h2
    ·intro z
     subst z
     exact⟨x,r1,h2⟩
   rw [this]
theorem zhg {pins:List (Addr×Obj)}{σ:St}{H:Hp}{s:Shared}(I:Inv X pins σ H s){A:Around}{d:D}{x:V}{v:Value}(hx:Rep X.K H d x)(rx:RelV x v){ds:List D}(hu:A.units+depths ds<cLine) :
  ∀ {es:List D} {xs:List V} {us:List Value},(∀ e∈es,e∈ds)->Reps X.K H es xs->Vals xs us->∀ u∈us,SeqAt.EqAt A s u v (isD X.K H d u)
 | [],xs,us,_,h,r=>by rw [Reps] at h;subst h;cases r;intro u hu;cases hu
 | e::es,xs,us,hs,h,r=>by
  rw [Reps] at h
  obtain⟨y,q,rfl,h2,h3⟩:=h
  cases r with
  | cons r1 r2=>
   intro u hu'
   rcases ycM hu' with z | z
   ·subst z
    obtain⟨b,hb,hB⟩:=eqAt_D I e d (A:=A) h2 hx r1 rx (Nat.lt_of_le_of_lt (Nat.add_le_add_left (depth_mem (hs e ymS)) _) hu)
    have:isD X.K H d u=b:=by
     have h5:isD X.K H d u=true↔e=d:=by
      rw [isD_iff]
      constructor
      ·rintro ⟨w,rw',hw⟩
       rw [rw'.inj r1] at hw
       exact (Rep.inj I hw h2).symm
      ·intro z
       subst z
       exact⟨y,r1,h2⟩
     rw [Bool.eq_iff_iff,h5,hb]
    rw [this]
    exact hB
   ·exact zhg I hx rx hu (fun e' h'=>hs e' (ymC _ h')) h3 r2 u z
def rInD (K:yF)(neg:Bool):R2:=fun x y H Q=>∃ p xs d ds,y = .ref p/\(SqL K H p xs ∨ SqT K H p xs)/\Rep K H d x/\Reps K H ds xs/\depths ds<=50/\∀ b,(b=true↔(if neg=true then d ∉ ds else d∈ds))->Q (.bl b) H
theorem op_inD (hu:X.A.units+64<cLine):OpR X (compareOp .In) (rInD X.K false):=by
 intro pins s σ H x y v u Q I rx ry h
 obtain⟨p,xs,d,ds,rfl,hq,hx,hs,hd,q⟩:=h
 cases ry
 have hu':X.A.in1.units+depths ds<cLine:=by show X.A.units+1+depths ds<cLine;omega
 rcases hq with hq | hq
 ·obtain⟨its,rv,pl,_⟩:=I.list hq
  refine SeqAt.in_listAt (isD X.K H d) pl.isList (fun y hy=>zhg I hx rx hu' (fun _ z=>z) hs rv y (by simpa using hy)) ⟨.bl _,H,I,rfl,q _ ?_⟩
  rw [if_neg (by decide),← zwh I hs rv];simp
 ·obtain⟨its,rv,pl,_⟩:=I.tuple hq
  refine SeqAt.in_tupleAt (isD X.K H d) (show s.heap.IsTuple p its.toArray from pl) (fun y hy=>zhg I hx rx hu' (fun _ z=>z) hs rv y (by simpa using hy)) ⟨.bl _,H,I,rfl,q _ ?_⟩
  rw [if_neg (by decide),← zwh I hs rv];simp
theorem op_notInD (hu:X.A.units+64<cLine):OpR X (compareOp .NotIn) (rInD X.K true):=by
 intro pins s σ H x y v u Q I rx ry h
 obtain⟨p,xs,d,ds,rfl,hq,hx,hs,hd,q⟩:=h
 cases ry
 have hu':X.A.in1.units+depths ds<cLine:=by show X.A.units+1+depths ds<cLine;omega
 rcases hq with hq | hq
 ·obtain⟨its,rv,pl,_⟩:=I.list hq
  refine SeqAt.notIn_listAt (isD X.K H d) pl.isList (fun y hy=>zhg I hx rx hu' (fun _ z=>z) hs rv y (by simpa using hy)) ⟨.bl _,H,I,rfl,q _ ?_⟩
  rw [if_pos rfl,← zwh I hs rv];simp
 ·obtain⟨its,rv,pl,_⟩:=I.tuple hq
  refine SeqAt.notIn_tupleAt (isD X.K H d) (show s.heap.IsTuple p its.toArray from pl) (fun y hy=>zhg I hx rx hu' (fun _ z=>z) hs rv y (by simpa using hy)) ⟨.bl _,H,I,rfl,q _ ?_⟩
  rw [if_pos rfl,← zwh I hs rv];simp
def CDiv64 (i j:Int):Prop:=0<j/\j<2 ^ 64
theorem op_fdiv64:OpR X (binaryOp .FloorDiv) (rI CDiv64 fun i j=>.int (i / j)):=opI fun i j _ _ _ _ _ hc q=>by
 have h1:(0:Int)<j:=hc.1
 have h2:j<2 ^ 64:=hc.2
 refine floordiv_int (by omega) (by rw [Int.fdiv_eq_ediv_of_nonneg i (by omega)];exact q) (.inl (PyProof.noPylong_of_log2 ?_))
 have h3:j.natAbs<2 ^ 64:=by omega
 have h4:j.natAbs≠0:=by omega
 have:=(Nat.log2_lt h4).mpr h3
 omega
theorem pi_str {tg e:Expr}{te:TE}(he:PE X e te):PI X tg e (fun σ H R=>te σ H fun x H1=>∃ z:Str,x = .str z/\R ⟨fun i _=>i<z.cps.size,fun i H y H'=>H'=H/\∃ c,z.cps[i]?=some c/\y = .str ⟨#[c]⟩,fun i _=>z.cps.size<=i⟩ H1):=by
 intro pins s σ H R I h
 refine thn (he pins s σ H _ I h) fun v s1 ⟨x,H1,I1,r1,q1⟩=>?_
 obtain⟨z,rfl,q⟩:=q1
 obtain⟨t,rfl⟩:=r1
 have main:∀ (n:String) (o:Obj),(["enumerate","zip","dict_itemiterator","dict_reverseitemiterator","odict_iterator","itertools.zip_longest","itertools.pairwise"].contains n=false) →
   o = { cls:=.type n,data:=.fields #[.str z t,.int 0 0] }->(∀ A':Around,A'.handled=none->Walks X.prog X.w A' s1.heap.objs.size [s1.heap.objs.size] [s1.heap.objs.size] z.cps.size (SignAt z) (fun i h=>h.IsStrIter s1.heap.objs.size n z t i)) →
   (∀ (A:Around) (i:Nat) (s:Shared) (Q:Value->Shared->Prop) (E:Value->Shared->Prop),s.heap.IsStrIter s1.heap.objs.size n z t i->Q (.ref s1.heap.objs.size) s->wpAny (model X.prog X.w) A (pyIter (.ref s1.heap.objs.size)) Q E s) →
   PIE X pins σ tg R (.ref s1.heap.objs.size) { s1 with heap:=s1.heap.push o }:=by
  intro n o hn ho W hself
  subst ho
  refine⟨s1.heap.objs.size,[s1.heap.objs.size],fun i h=>h.IsStrIter s1.heap.objs.size n z t i/\i<=z.cps.size,_,H1,rfl,I1.kept (t':=s1.toks) fun b o e=>Heap.get?_push_of_some _ e,?_,⟨⟨_,Heap.get?_push_size _ rfl,rfl,rfl⟩,Nat.zero_le _⟩,fun b hb=>?_,q⟩
  ·refine⟨by simp,fun i h st b hb=>?_,fun i h h' st k=>⟨?_,st.2⟩,?_,?_,fun A i s Q E st h=>?_⟩
   ·have e:b=s1.heap.objs.size:=by simpa using hb
    subst e
    obtain⟨o,e,c,d⟩:=st.1
    exact⟨o,e,fun v z=>by rw [d] at z;cases z⟩
   ·obtain⟨o,ho,r⟩:=st.1
    exact⟨o,k _ (by simp) o ho,r⟩
   ·intro Y hP hw hK hc i pins' s' σ' H' E I' hf st hg
    obtain⟨f0,f1,f2,f3,f4,f5⟩:=hf s1.heap.objs.size (by simp)
    refine (W Y.A (I'.ok.hd hc)).item i s' _ _ hg st.1 fun v h' tk hv st' kk=>?_
    obtain⟨c,u,hc',rfl⟩:=hv
    have I1':Inv Y pins' σ' H' { s' with heap:=h',toks:=tk }:=I'.turned (fun b o hb e=>kk b o (by simpa using hb) e) f0 f1 f3 f4 f5
    obtain⟨o,e,cl,d⟩:=id st'
    exact⟨_,rfl,zbn (s:={ s' with heap:=h',toks:=tk }) e cl d hn ⟨.str ⟨#[c]⟩,H',I1',⟨u,rfl⟩,⟨rfl,c,hc',rfl⟩,⟨st',hg⟩,fun b hb=>(hf b hb).1⟩⟩
   ·intro Y hP hw hK hc i pins' s' σ' H' E I' hf st hg
    obtain⟨f0,f1,f2,f3,f4,f5⟩:=hf s1.heap.objs.size (by simp)
    have hi:i=z.cps.size:=Nat.le_antisymm st.2 hg
    refine (W Y.A (I'.ok.hd hc)).done s' _ _ (hi ▸ st.1) fun h' tk kk=>⟨rfl,?_⟩
    exact I'.turned (fun b o hb e=>kk b o (by simpa using hb) e) f0 f1 f3 f4 f5
   ·exact hself A i s Q E st.1 h
  ·have e:b=s1.heap.objs.size:=by simpa using hb
   subst e
   exact I1.fpOk (Nat.le_refl _) (I1.hok.fresh (Nat.le_refl _))
 cases ha:z.cps.all (· < 128)
 ·exact wpAny_pyIter_wide ha (main "str_iterator" _ (by decide) rfl (fun A' hA=>Walks.strWide hA _ z t) fun A i s Q E st h=>wpAny_pyIter_striter_wide st h)
 ·exact wpAny_pyIter_ascii ha (main "str_ascii_iterator" _ (by decide) rfl (fun A' hA=>Walks.strAscii hA _ z t) fun A i s Q E st h=>wpAny_pyIter_striter_ascii st h)
end
noncomputable abbrev sL (z:Str):List Nat:=z.cps.toList
noncomputable abbrev oL (l:List Nat):Str:=⟨l.toArray⟩
theorem zyf (l:List Nat):sL (oL l)=l:=rfl
theorem znn (z:Str):oL (sL z)=z:=by cases z;rfl
theorem zbf (z:Str):z.length=(sL z).length:=by unfold Str.length sL;rw [Array.length_toList]
theorem zuk (x y:Str):sL (x++y)=sL x++sL y:=by
 show (x.cps++y.cps).toList=_
 rw [Array.toList_append]
theorem zam {x y:Str}(h:sL x=sL y):x=y:=by rw [← znn x,h,znn]
noncomputable def cutL {α:Type} (xs:List α) (lo hi:Option Int):List α:=(xs.drop (HT.sIx xs.length 0 lo)).take (HT.sIx xs.length xs.length hi - HT.sIx xs.length 0 lo)
theorem strIx_eq (lo hi:Option Int)(n:Nat):Builtin.Str.strSliceIndices lo hi 1 n=(List.range (HT.sIx n n hi - HT.sIx n 0 lo)).map (HT.sIx n 0 lo + ·):=by
 have h1:(1:Int) > 0:=by omega
 have clip:∀ (v:Option Int) (d:Nat),(match v with | none=>(d:Int) | some i=>(if (1:Int) > 0 then max 0 (min (if i<0 then i+(n:Int) else i) (n:Int)) else max (-1) (min (if i<0 then i+(n:Int) else i) ((n:Int) - 1))))=((HT.sIx n d v:Nat):Int):=by
  intro v d
  cases v with
  | none=>rfl
  | some i=>
   show (if (1:Int) > 0 then max 0 (min (if i<0 then i+(n:Int) else i) (n:Int)) else _)=(((if i<0 then (i+(n:Int)).toNat else min i.toNat n):Nat):Int)
   rw [if_pos h1]
   by_cases hi:i<0
   ·simp only [if_pos hi];omega
   ·simp only [if_neg hi];omega
 have e:Builtin.Str.strSliceIndices lo hi 1 n=sliceRange ((HT.sIx n 0 lo:Nat):Int) ((HT.sIx n n hi:Nat):Int) 1:=by
  unfold Builtin.Str.strSliceIndices
  simp only [h1,if_true]
  have c1:=clip lo 0
  have c2:=clip hi n
  simp only [h1,if_true] at c1 c2
  rw [← c1,← c2]
  rfl
 rw [e,sliceRange_one]
theorem Txt_slice_eq (x:Str)(lo hi:Option Int):Txt.slice x lo hi=oL (cutL (sL x) lo hi):=by
 have hn:x.length=(sL x).length:=zbf x
 have key:((Builtin.Str.strSliceIndices lo hi 1 x.length).filterMap (x.cps[·]?))=cutL (sL x) lo hi:=by
  rw [strIx_eq,hn]
  unfold cutL
  exact pick_run x.cps _ _
 unfold Txt.slice
 split
 ·rename_i h
  have h2:(Builtin.Str.strSliceIndices lo hi 1 x.length).length=x.length:=by
   simp only [Bool.and_eq_true] at h
   simpa using h.2
  have h3:(cutL (sL x) lo hi)=sL x:=by
   unfold cutL
   rw [strIx_eq,List.length_map,List.length_range,hn] at h2
   have a1:=HT.sIx_le (sL x).length (sL x).length (Nat.le_refl _) hi
   have a2:HT.sIx (sL x).length 0 lo=0 ∨ (sL x).length=0:=by omega
   rcases a2 with a2 | a2
   ·rw [a2,List.drop_zero]
    exact List.take_of_length_le (by omega)
   ·rw [List.eq_nil_of_length_eq_zero a2]
    simp
  rw [h3,znn]
 ·rw [key]
section
variable  {X:Cx}
theorem sl_str:SlR X (fun x lo hi H Q=>∃ z,x = .str z/\z.length<=sizeLine/\Q (.str (oL (cutL (sL z) lo hi))) H):=by
 intro pins s σ H x v vl vu lo hi sl Q I rx hs pl pu h
 obtain⟨z,rfl,hz,q⟩:=h
 obtain⟨t,rfl⟩:=rx
 have hp:∀ {v:Value} {o:Option Int},IsPart v o->∃ p:Option (Int×Tok),v=partValue p/\p.map (·.1)=o:=fun {v o} p=>by
  cases p with
  | none=>exact⟨none,rfl,rfl⟩
  | int i t=>exact⟨some (i,t),rfl,rfl⟩
 obtain⟨l,rfl,rfl⟩:=hp pl
 obtain⟨u,rfl,rfl⟩:=hp pu
 refine⟨"str",_,F.slot_str_getitem.lookup,typeIs_str _ _ _,?_⟩
 refine wpAny_getItem_str_slice (l:=l) (u:=u) (st:=none) hs rfl ?_
 have e:sliceMade z t l u none=if ((1:Int) == 1 && (Builtin.Str.strSliceIndices (l.map (·.1)) (u.map (·.1)) 1 z.length).length == z.length)=true then Made.val (.str z t) else Made.str ⟨((Builtin.Str.strSliceIndices (l.map (·.1)) (u.map (·.1)) 1 z.length).filterMap (z.cps[·]?)).toArray⟩:=rfl
 rw [e]
 refine post_val_or_str ⟨Nat.le_trans (Txt.slice_le z _ _) hz,fun t' k=>?_⟩
 refine⟨.str (Txt.slice z (l.map (·.1)) (u.map (·.1))),H,I.tok k,⟨t',rfl⟩,?_⟩
 rw [Txt_slice_eq]
 exact q
def rSl (K:yF):V->Option Int->Option Int->Hp->VK->Prop:=fun x lo hi H Q=>rSlT K x lo hi H Q ∨ rSlL K x lo hi H Q ∨ ∃ z,x = .str z/\z.length<=sizeLine/\Q (.str (oL (cutL (sL z) lo hi))) H
theorem strsAre_of {zs:List Str}:∀ {us:List Value},Vals (zs.map V.str) us->StrsAre us zs:=by
 induction zs with
 | nil=>intro us r;rw [List.map_nil] at r;cases r;exact .nil
 | cons n ns ih=>
  intro us r
  rw [List.map_cons] at r
  cases r with
  | cons r1 r2=>
   obtain⟨t,e⟩:=r1
   subst e
   exact .cons n t (ih r2)
theorem mt_join:MtR X "str.join" (fun x vs H Q=>∃ z a zs,x = .str z/\vs = [.ref a]/\SqL X.K H a (zs.map V.str)/\(zs.map (·.length)).sum+zs.length * z.length<=16777216/\Q (.str (Txt.join z zs)) H):=by
 intro pins s σ H x xs v us Q I rx rv h
 obtain⟨z,a,zs,rfl,rfl,hq,hz,q⟩:=h
 obtain⟨t,rfl⟩:=rx
 obtain⟨u,rfl,ru⟩:=vals1 rv
 cases ru
 obtain⟨its,r,p,_⟩:=I.list hq
 exact join_list p.isList (by simpa using strsAre_of r) hz fun t' k=>⟨.str (Txt.join z zs),H,I.tok k,⟨t',rfl⟩,q⟩
theorem glued_nil (zs:List Str):sL (Txt.join (oL []) zs)=(zs.map sL).flatten:=by
 have key:∀ (zs:List Str) (acc:Array Nat),(zs.foldl (fun acc p=>acc++(oL []).cps++p.cps) acc).toList=acc.toList++(zs.map sL).flatten:=by
  intro zs
  induction zs with
  | nil=>intro acc;simp
  | cons z zs ih=>
   intro acc
   rw [List.foldl_cons,ih]
   simp
 cases zs with
 | nil=>rfl
 | cons z zs=>
  show (zs.foldl (fun acc p=>acc++(oL []).cps++p.cps) z.cps).toList=_
  rw [key]
  simp
theorem op_mulS:OpR X (binaryOp .Mult) (fun x y H Q=>∃ z n,x = .str z/\y = .int n/\1<=n/\n<=1000/\z.length<=1000/\Q (.str (oL (List.replicate n.toNat (sL z)).flatten)) H):=by
 intro pins s σ H x y v u Q I rx ry h
 obtain⟨z,n,rfl,rfl,h1,h2,h3,q⟩:=h
 obtain⟨t,rfl⟩:=rx
 obtain⟨t',rfl⟩:=ry
 have hf:∀ (m:Nat) (acc:Array Nat),(List.replicate m z.cps).foldl (· ++ ·) acc=acc++(List.replicate m (sL z)).flatten.toArray:=by
  intro m
  induction m with
  | zero=>intro acc;simp
  | succ m ih=>intro acc;rw [List.replicate_succ,List.foldl_cons,ih,List.replicate_succ,List.flatten_cons];apply Array.ext';simp
 have hlen:z.length * n.toNat<=1000 * 1000:=Nat.mul_le_mul h3 (by omega)
 have e3:¬ n<1:=by omega
 refine P.mul_str ?_ ?_ ?_ ?_
 ·rw [decide_eq_false (by omega),decide_eq_false (by omega)];rfl
 ·intro _ _
  have a1:n * 9223372036854775<=2 ^ 63 - 1:=by omega
  have:(9223372036854775:Int)<=(2 ^ 63 - 1) / n:=(Int.le_ediv_iff_mul_le (by omega)).mpr (by omega)
  omega
 ·intro _ _
  unfold Builtin.Str.tooLong
  exact decide_eq_false (by rw [sizeLine_eq];omega)
 ·rw [if_neg e3]
  refine post_val_or_str ?_
  have hv:(if (n == 1 || z.length == 0)=true then z else (⟨(List.replicate n.toNat z.cps).foldl (· ++ ·) #[]⟩:Str))=oL (List.replicate n.toNat (sL z)).flatten:=by
   split
   ·rename_i hc
    rcases Bool.or_eq_true_iff.mp hc with c | c
    ·have:n=1:=by simpa using c
     subst this
     show z=oL (List.replicate 1 (sL z)).flatten
     simp only [List.replicate_succ,List.replicate_zero,List.flatten_cons,List.flatten_nil,List.append_nil]
    ·have h0:(sL z).length=0:=by rw [← zbf];simpa using c
     have h00:sL z = []:=List.eq_nil_of_length_eq_zero h0
     rw [h00]
     apply zam
     rw [h00,zyf]
     symm
     exact List.eq_nil_iff_forall_not_mem.mpr fun a ha=>by
      obtain⟨l,hl,hal⟩:=List.mem_flatten.mp ha
      rw [List.eq_of_mem_replicate hl] at hal
      cases hal
   ·rw [hf];simp
  rw [hv]
  refine⟨?_,fun t2 k=>⟨.str (oL (List.replicate n.toNat (sL z)).flatten),H,I.tok k,⟨t2,rfl⟩,q⟩⟩
  rw [zbf,zyf,zgi,← zbf,sizeLine_eq,Nat.mul_comm]
  omega
theorem noFill_tuple_mul:fillsNumberSlot (.type "tuple") "mul" = pure false:=
 PySem.fillsNumberSlot_seq (id:="tuple.__mul__") (r:=some (.builtin "tuple.__rmul__")) F.slot_tuple_mul.lookup (by decide +kernel) F.slot_tuple_rmul.lookup (by decide +kernel)
theorem repeat_tuple:seqRepeat? (.type "tuple")=pure (some (.builtin "tuple.__mul__")):=by
 unfold seqRepeat?
 rw [PySem.seqSlot_of (T:="tuple") (name:="__mul__") (id:="tuple.__mul__") F.slot_tuple_mul.lookup (by decide +kernel),PySem.seqSlot_of (T:="tuple") (name:="__rmul__") (id:="tuple.__rmul__") F.slot_tuple_rmul.lookup (by decide +kernel)]
 rfl
theorem int_rmul_tuple (a:Int)(t:Tok)(l:Addr)(items:Array Value)(n:Nat)(dd:Option Addr)(sl:Array (Option Value)) :
  Meets (Builtin.«int.__rmul__» ⟨[.int a t,.ref l],[]⟩) (fun _ R s=>s.heap.get? l=some { cls:=.type "tuple",dict:=dd,data:=.seq items n,slots:=sl }/\R (.ok (.ret Value.notImplemented)) s):=
 .of_wp fun prog w A R s h=>by obtain⟨hp,g,d,tk,os⟩:=s;obtain⟨hl,h⟩:=h;wp_walk;exact⟨_,rfl,h⟩
theorem tuple_mul_meets (l:Addr)(items:Array Value)(n:Nat)(dd:Option Addr)(sl:Array (Option Value))(k:Int)(t:Tok)(h1:2<=k)(h2:k<=1000)(hne:items.isEmpty=false)(hz:items.size<=1000) :
  Meets (Builtin.«tuple.__mul__» ⟨[.ref l,.int k t],[]⟩) (fun _ R s=>s.heap.get? l=some { cls:=.type "tuple",dict:=dd,data:=.seq items n,slots:=sl } ∧
   R (.ok (.ret (.ref s.heap.objs.size))) { s with heap:=s.heap.push { cls:=.type "tuple",data:=.seq ((List.replicate k.toNat items).foldl (· ++ ·) #[]) } }):=
 .of_wp fun prog w A R s h=>by
  obtain⟨hp,g,d,tk,os⟩:=s;obtain⟨hl,h⟩:=h
  have c1:¬ (decide (k < -(2 ^ 63)) || decide (k ≥ 2 ^ 63))=true:=by rw [decide_eq_false (by omega),decide_eq_false (by omega)];decide
  have c2:¬ (items.isEmpty || k == 1)=true:=by rw [hne];simp;omega
  have c3:¬ (decide (k<=0) || items.isEmpty)=true:=by rw [hne,decide_eq_false (by omega)];decide
  have c0:((items.size:Nat):Int) * k<=1000 * 1000:=Int.mul_le_mul (by omega) h2 (by omega) (by omega)
  have c4:¬ ((items.size:Int) * k > (2 ^ 63 - 1) / 8):=by omega
  have c5:¬ Builtin.Tuple.tupleTooMany ((items.size:Int) * k)=true:=by unfold Builtin.Tuple.tupleTooMany;simp;rw [sizeLine_eq];omega
  have f1:=AutoSeq1.idx_int
  wp_walk using AutoSeq1.wpAny_loadPart' hl
  rw [if_neg c1]
  refine wpAny_bind (tupleItemsOf_ ⟨_,hl,rfl,n,rfl⟩ ?_)
  dsimp only
  rw [if_neg c2,if_neg c3,if_neg c4,if_neg c5]
  have hsz:sizeOk (.seq ((List.replicate k.toNat items).foldl (· ++ ·) #[])):=by
   show ((List.replicate k.toNat items).foldl (· ++ ·) #[]).size<=sizeLine
   have f0:=zse items.toList k.toNat []
   have e0:(List.replicate k.toNat items.toList.toArray).foldl (· ++ ·) #[]=(List.replicate k.toNat items.toList).flatten.toArray:=by simpa using f0
   have e1:items.toList.toArray=items:=by simp
   rw [e1] at e0
   rw [e0,List.size_toArray,zgi,Array.length_toList,sizeLine_eq]
   have a1:k.toNat * items.size<=1000 * 1000:=Nat.mul_le_mul (by omega) hz
   omega
  first
   | exact wpAny_bind (m:=Builtin.Tuple.tupleExact _) (wpAny_newObj_type (wpAny_pure ⟨_,rfl,h⟩) hsz)
   | exact wpAny_bind (wpAny_bind (m:=Builtin.Tuple.tupleExact _) (wpAny_newObj_type (wpAny_pure ⟨_,rfl,h⟩) hsz))
def rRepT (K:yF):R2:=fun x y H Q=>∃ l k xs,x = .ref l/\y = .int k/\SqT K H l xs/\xs≠[]/\xs.length<=1000/\1<=k/\k<=1000 ∧
 (k=1->Q (.ref l) H)/\(2<=k->∀ p,H p=none->Q (.ref p) (upd H p (.tup (List.replicate k.toNat xs).flatten)))
theorem op_repT:OpR X (binaryOp .Mult) (rRepT X.K):=by
 intro pins s σ H x y v u Q I rx ry h
 obtain⟨l,k,xs,rfl,rfl,hH,hne,hlen,h1,h2,q1,q2⟩:=h
 cases rx
 obtain⟨t,rfl⟩:=ry
 obtain⟨its,r,p,hz⟩:=I.tuple (X:=X) hH
 obtain⟨⟨cls,dd,data,sl⟩,ho,hc,n,hd⟩:=id p
 simp only at hc hd
 subst hc hd
 have hl:=r.length
 have hne':its.toArray.isEmpty=false:=by
  cases its with
  | nil=>cases r;exact absurd rfl hne
  | cons a r'=>rfl
 have hTy:s.TypeIs (.ref l) "tuple" :=⟨_,ho,rfl⟩
 refine wpAny_binaryOp_repeat_ref (T:="tuple") (U:="int") (by decide) hTy (fun s'=>typeIs_int s' k t) noFill_tuple_mul F.fills_int_mul F.slot_int_rmul repeat_tuple F.slot_int_index.lookup
  (call_meets F.slot_int_rmul (typeIs_int s k t) F.entry_int_rmul (F.args_int_rmul_2 _ _) (int_rmul_tuple k t l its.toArray n dd sl)
   ⟨ho,rfl,hTy,?_⟩)
 by_cases hk:k=1
 ·subst hk
  refine wpAny_call_entry F.slot_tuple_mul hTy F.entry_tuple_mul ?_ (F.args_tuple_mul_2 _ _)
  have f1:=AutoSeq1.idx_int
  have c1:¬ (decide ((1:Int) < -(2 ^ 63)) || decide ((1:Int) ≥ 2 ^ 63))=true:=by decide
  obtain⟨hp,g,d,tk,os⟩:=s
  wp_walk using AutoSeq1.wpAny_loadPart' ho
  exact⟨_,rfl,.ref l,H,I,rfl,q1 rfl⟩
 ·refine call_meets F.slot_tuple_mul hTy F.entry_tuple_mul (F.args_tuple_mul_2 _ _) (tuple_mul_meets l its.toArray n dd sl k t (by omega) h2 hne' (by rw [List.size_toArray,← hl];exact hlen)) ⟨ho,?_⟩
  have e0:(List.replicate k.toNat its.toArray).foldl (· ++ ·) #[]=(List.replicate k.toNat its).flatten.toArray:=by simpa using zse its k.toNat []
  rw [e0]
  refine⟨.ref s.heap.objs.size,_,I.laid (t':=s.toks) (o:=.tup (List.replicate k.toNat xs).flatten) (fun b ob q=>Heap.get?_push_of_some _ q) (Nat.le_refl _) ?_,rfl,q2 (by omega) _ (I.hok.fresh (Nat.le_refl _))⟩
  refine⟨?_,_,r.rep k.toNat,IsTup.new _ _⟩
  rw [zgi,sizeLine_eq]
  have a1:k.toNat * xs.length<=1000 * 1000:=Nat.mul_le_mul (by omega) hlen
  omega
theorem extend_tuple_meets (l:Addr)(items:Array Value)(n:Nat)(b:Addr)(items2:Array Value)(n2:Nat)(dd:Option Addr)(sl:Array (Option Value))(hs0:¬(!items.isEmpty && Builtin.List.listTooLong (items.size+items2.size))=true)(hs1:items.size<=sizeLine)(hs2:items.size+items2.size<=sizeLine+1) :
  Meets (Builtin.«list.extend» ⟨[.ref l,.ref b],[]⟩) (fun _ R s=>s.heap.get? l=some { cls:=.type "list",dict:=none,data:=.seq items n,slots:=#[] }/\s.heap.get? b=some { cls:=.type "tuple",dict:=dd,data:=.seq items2 n2,slots:=sl }/\R (.ok (.ret Value.none)) { s with heap:=s.heap.update l (Obj.mapSeq fun x=>x++items2),toks:=s.toks }):=
 .of_wp fun prog w A R s h=>by
  obtain⟨hp,g,d,tk,os⟩:=s;obtain⟨hl,hb,h⟩:=h;have f1:=AutoSeq1.idx_int;have f2:=AutoSeq1.sub_tuple_tuple;have f3:=AutoSeq1.sub_list_list;have f4:=AutoSeq1.sub_tuple_list;have f5:=AutoSeq1.sub_list_tuple;
  have hz':(items++items2).size<=sizeLine+1:=by rw [Array.size_append];exact hs2
  wp_walk using (wpAny_updateSeq hl rfl (hz:=hs1) (_hz':=hz')),AutoSeq1.wpAny_loadPart' hl,AutoSeq1.wpAny_loadPart' hb;exact⟨_,rfl,h⟩
def rExtendT (K:yF):V->List V->Hp->VK->Prop:=fun x vs H Q=>∃ l b xs zs,x = .ref l/\vs = [.ref b]/\H l=some (.lst xs)/\SqT K H b zs/\xs.length+zs.length<=sizeLine/\Q .non (upd H l (.lst (xs++zs)))
theorem mt_extendT:MtM X "list.extend" (rExtendT X.K):=by
 intro pins s σ H x vs v us Q I rx rv h
 obtain⟨l,b,xs,zs,rfl,rfl,hH,hB,hz,q⟩:=h
 cases rx
 obtain⟨u,rfl,ru⟩:=rv.one
 cases ru
 obtain⟨z,its,n,r,hl,e⟩:=I.lstM hH
 obtain⟨its2,r2,p2,z2⟩:=I.tuple hB
 obtain⟨⟨cls,dd,data,sl⟩,ho,hc,n2,hd⟩:=id p2
 simp only at hc hd
 subst hc hd
 have hl2:=r2.length
 have hsz:its.toArray.size+its2.toArray.size<=sizeLine:=by rw [List.size_toArray,List.size_toArray];omega
 have hlong:¬ (!its.toArray.isEmpty && Builtin.List.listTooLong (its.toArray.size+its2.toArray.size))=true:=by
  rw [zee hsz,Bool.and_false]
  exact Bool.false_ne_true
 refine call_meets F.slot_list_extend ⟨_,e,rfl⟩ F.entry_list_extend (F.args_list_extend_2 _ _)
  (extend_tuple_meets l its.toArray n b its2.toArray n2 dd sl hlong (by rw [List.size_toArray];omega) (by omega)) ⟨e,ho,?_⟩
 refine⟨.non,_,I.lset (its':=its++its2) hH e (by simp) (r.append r2) ?_,rfl,q⟩
 rw [List.length_append]
 omega
end
section
variable  {X:Cx}
theorem filterMap_somes {α β:Type}{f : α->Option β}{g : α->β}:∀ {l:List α},(∀ k∈l,f k=some (g k))->l.filterMap f=l.map g
 | [],_=>rfl
 | a::l,h=>by
  rw [List.filterMap_cons,h a ymS,List.map_cons]
  show g a::_=_
  rw [filterMap_somes fun k hk=>h k (ymC _ hk)]
theorem rev_pick (xs:Array Value):((List.range xs.size).filterMap fun (k:Nat)=>xs[(((xs.size:Int) - 1)+(k:Int) * -1).toNat]?)=xs.toList.reverse:=by
 apply List.ext_getElem?
 intro i
 rw [filterMap_somes (g:=fun k=>(xs[xs.size - 1 - k]?).getD default) (fun k hk=>?_),List.getElem?_map]
 ·by_cases hi:i<xs.size
  ·have h2:xs.size - 1 - i<xs.size:=by omega
   rw [List.getElem?_range hi,List.getElem?_reverse (by simpa using hi)]
   simp [h2]
  ·rw [List.getElem?_eq_none (by simpa using hi),List.getElem?_eq_none (by simpa using hi)]
   rfl
 ·have hk':=List.mem_range.mp hk
  have e1:((((xs.size:Nat):Int) - 1)+(k:Int) * -1).toNat=xs.size - 1 - k:=by omega
  rw [e1]
  have h2:xs.size - 1 - k<xs.size:=by omega
  simp [h2]
theorem getItem_tuple_rev {prog:Program}{w:World}{A:Around}{E:Value->Shared->Prop}{s:Shared}{t sl:Addr}{tt:Tok}{items:Array Value}{Q:Value->Shared->Prop}(ht:IsTup s.heap t items)(hs:s.heap.IsSliceOf sl .none .none (.int (-1) tt))
  (h:Q (.ref s.heap.objs.size) { s with heap:=s.heap.push { cls:=.type "tuple",data:=.seq items.toList.reverse.toArray } })
  (hsz:items.size<=sizeLine):wpAny (model prog w) A (getItem (.ref t) (.ref sl)) Q E s:=by
 have htake:sizeOk (.seq items.toList.reverse.toArray):=by
  show items.toList.reverse.toArray.size<=sizeLine
  rw [List.size_toArray,List.length_reverse,Array.length_toList]
  exact hsz
 obtain⟨os,hos,hcs,hds⟩:=id hs
 have hTs:s.TypeIs (.ref sl) "slice" :=⟨os,hos,hcs⟩
 unfold getItem
 try with_reducible refine wpAny_holding ?_
 first | refine wpAny_bind (wpAny_pure ?_) | skip
 refine wpAny_bind (wpAny_sequenceKey ht.typeIs (by decide) ?_)
 refine wpAny_bind (wpAny_callSpecial?_slot (name:=Str.ofString "__getitem__") ht.typeIs PyProof.Rows.slot_tuple_getitem
  (wpAny_call_entry PyProof.Rows.slot_tuple_getitem ht.typeIs entry_tuple_getitem ?_ (args_tuple_getitem _ _)))
 show wpAny _ _ (Builtin.Tuple.tupleItemsOf (.ref t) >>= _) _ _ s
 refine wpAny_bind (tupleItemsOf_ ht ?_)
 refine wpAny_bind (wpAny_typeOf hTs ?_)
 rw [if_pos (by decide)]
 have app:∀ {Q':Int×Int×Nat->Shared->Prop},Q' ((items.size:Int) - 1,-1,items.size) s->wpAny (model prog w) A.in1 (Builtin.Slice.sliceApplied (.ref sl) (pure (items.size:Int))) Q' E s:=by
  intro Q' hq
  unfold Builtin.Slice.sliceApplied Builtin.Slice.sliceFields
  refine wpAny_bind (wpAny_bind (wpAny_field hos hds (x:=.none) rfl (wpAny_bind (wpAny_field hos hds (x:=.none) rfl (wpAny_bind (wpAny_field hos hds (x:=.int (-1) tt) rfl (wpAny_pure ?_)))))))
  refine wpAny_bind (slicePart_int ?_)
  show wpAny _ _ (if ((-1:Int) == 0)=true then _ else _) _ _ s
  rw [if_neg (by decide)]
  refine wpAny_bind (slicePart_none (wpAny_bind (slicePart_none (wpAny_bind (wpAny_pure ?_)))))
  show wpAny _ _ (match Builtin.Slice.sliceAdjust none none (-1) (items.size:Int) with | (lo,hi)=>pure (lo,(-1:Int),Builtin.Slice.slicePlaces lo hi (-1))) _ _ s
  have e1:Builtin.Slice.sliceAdjust none none (-1) (items.size:Int)=((items.size:Int) - 1,-1):=by
   unfold Builtin.Slice.sliceAdjust
   simp
  rw [e1]
  have e2:Builtin.Slice.slicePlaces ((items.size:Int) - 1) (-1) (-1)=items.size:=by
   unfold Builtin.Slice.slicePlaces
   rw [if_neg (by omega)]
   split
   ·rw [Int.neg_neg,Int.ediv_one];omega
   ·omega
  show wpAny _ _ (pure ((items.size:Int) - 1,(-1:Int),Builtin.Slice.slicePlaces ((items.size:Int) - 1) (-1) (-1))) _ _ s
  rw [e2]
  exact wpAny_pure hq
 refine wpAny_bind (app ?_)
 show wpAny _ _ (if ((((items.size:Int) - 1) == 0 && (-1:Int) == 1 && items.size == items.size))=true then _ else _) _ _ s
 rw [if_neg (by simp),rev_pick]
 first
  | exact wpAny_bind (m:=Builtin.Tuple.tupleExact _) (wpAny_newObj_type (wpAny_pure ⟨_,rfl,wpAny_pure h⟩) htake)
  | exact wpAny_bind (m:=Builtin.Tuple.tupleExact _) (wpAny_newObj_type (wpAny_bind (wpAny_pure (wpAny_pure ⟨_,rfl,wpAny_pure h⟩))) htake)
  | exact wpAny_bind (wpAny_bind (m:=Builtin.Tuple.tupleExact _) (wpAny_newObj_type (wpAny_pure (wpAny_pure ⟨_,rfl,wpAny_pure h⟩)) htake))
  | exact wpAny_bind (wpAny_bind (m:=Builtin.Tuple.tupleExact _) (wpAny_newObj_type (wpAny_pure ⟨_,rfl,wpAny_pure h⟩) htake))
def zxn (K:yF)(te:TE):TE:=fun σ H Q=>te σ H fun x H1=>∃ a xs,x = .ref a/\SqT K H1 a xs/\∀ p,H1 p=none->Q (.ref p) (upd H1 p (.tup xs.reverse))
theorem pe_revT {e:Expr}{te:TE}{j:Nat}{p1 p2 p3 pos:Pos}(he:PE X e te):PE X (.Subscript e (.Slice none none (some (.UnaryOp .USub (.Constant (.int 1) j p1) p2)) p3) pos) (zxn X.K te):=by
 intro pins s σ H Q I h
 refine Subscript_ (thn (he pins s σ H _ I h) fun v s1 ⟨x,H1,I1,r1,q1⟩=>?_)
 obtain⟨a,xs,rfl,hq,q⟩:=q1
 cases r1
 refine wpAny_Slice ?_
 rw [evalPart_none]
 refine wpAny_pure (wpAny_pure ?_)
 rw [evalPart_some]
 refine thn (pe_un un_neg pe_int pins s1 σ H1 (fun x H2=>x = .int (-1)/\H2=H1) I1 ⟨1,rfl,rfl,rfl⟩) fun vu s2 ⟨y,H2,I2,r2,e1,e2⟩=>?_
 subst e1 e2
 obtain⟨tt,rfl⟩:=r2
 have I3:Inv X pins σ H2 { s2 with heap:=s2.heap.push { cls:=.type "slice",data:=.fields #[.none,.none,.int (-1) tt] } }:=I2.kept (t':=s2.toks) fun b ob q=>Heap.get?_push_of_some _ q
 obtain⟨its,r,ht,hz⟩:=I3.tuple hq
 show wpAny (model X.prog X.w) X.A (subscriptTail e (.Slice none none (some (.UnaryOp .USub (.Constant (.int 1) j p1) p2)) p3) (.ref a) (.ref s2.heap.objs.size)) (EP X pins σ Q) X.xe { s2 with heap:=s2.heap.push { cls:=.type "slice",data:=.fields #[.none,.none,.int (-1) tt] } }
 refine tail_any (ops:=[.ref a,.ref s2.heap.objs.size]) ht.typeIs PyProof.Rows.slot_tuple_getitem.lookup (getItem_tuple_rev (tt:=tt) ht (Heap.IsSliceOf.new ..) ?_ (by rw [List.size_toArray,← r.length];exact hz)) (by with_unfolding_all rfl)
 refine⟨.ref _,_,I3.laid (t':=s2.toks) (o:=.tup xs.reverse) (fun b ob q=>Heap.get?_push_of_some _ q) (Nat.le_refl _) ?_,rfl,q _ (I3.hok.fresh (Nat.le_refl _))⟩
 exact⟨by rw [List.length_reverse];exact hz,its.reverse,r.reverse,IsTup.new _ _⟩
theorem truth_list {A:Around}{bs:List Bool}:TruthOf X.prog X.w A (fun i v=>(bs.map Value.bool)[i]?=some v) (fun i=>bs.getD i false):=by
 intro i v s Q E hv hq
 rw [List.getElem?_map] at hv
 cases q:bs[i]? with
 | none=>rw [q] at hv;cases hv
 | some b=>
  rw [q] at hv
  cases hv
  have e:bs.getD i false=b:=by rw [List.getD_eq_getElem?_getD,q];rfl
  simp only [e] at hq
  exact wpAny_truthy_bool hq
theorem valsB {bs:List Bool}:∀ {us:List Value},Vals (bs.map V.bl) us->us=bs.map Value.bool:=by
 induction bs with
 | nil=>intro us r;rw [List.map_nil] at r;cases r;rfl
 | cons b bs ih=>
  intro us r
  rw [List.map_cons] at r
  cases r with
  | cons r1 r2=>rw [ih r2,List.map_cons];cases r1;rfl
theorem range_getD (bs:List Bool):(List.range bs.length).all (fun i=>bs.getD i false)=bs.all id:=by
 have:(List.range bs.length).map (fun i=>bs.getD i false)=bs:=PyProof.Rows.range_getD bs false
 conv=>rhs;rw [← this]
 rw [List.all_map]
 rfl
theorem call_all (hc:X.calm=true):CallR X (.builtin "all") (fun xs H Q=>∃ (a:Addr) (bs:List Bool),xs = [.ref a]/\SqL X.K H a (bs.map V.bl)/\Q (.bl (bs.all id)) H):=by
 intro pins s σ H xs us Q I rv h
 obtain⟨a,bs,rfl,hq,q⟩:=h
 obtain⟨u,rfl,ru⟩:=vals1 rv
 cases ru
 obtain⟨its,r,p,hz⟩:=I.list hq
 have e:=valsB r
 subst e
 have hne:a≠s.heap.objs.size:=by
  obtain⟨o,n,e,_⟩:=p
  exact Nat.ne_of_lt (Heap.lt_size e)
 refine call_all_walk (wpAny_pyIter_list p.isList ?_)
 refine⟨s.heap.objs.size,_,_,_,_,_,fun i=>bs.getD i false,rfl,Walks.list (A:=X.A.in1) (show X.A.in1.handled=none from I.ok.hd hc) s.heap.objs.size a hne (bs.map Value.bool).toArray,⟨⟨_,Heap.get?_push_size _ rfl,rfl,rfl⟩,?_⟩,?_,fun h' tk hk=>?_⟩
 ·exact p.isList.at fun o e=>Heap.get?_push_of_some _ e
 ·intro i v s Q E hv hq
  exact truth_list (bs:=bs) i v s Q E (by simpa using hv) hq
 ·have I1:Inv X pins σ H { s with heap:=h',toks:=tk }:=I.kept fun b o e=>hk b o (fun z=>absurd (ysM z) (Nat.ne_of_lt (Heap.lt_size e))) (Heap.get?_push_of_some _ e)
  refine⟨.bl _,H,I1,rfl,?_⟩
  have:(List.range (bs.map Value.bool).toArray.size).all (fun i=>bs.getD i false)=bs.all id:=by rw [List.size_toArray,List.length_map];exact range_getD bs
  rw [this]
  exact q
def gSubSl (to:TE)(tl th:TO):TG:=fun v σ H Q=>to σ H fun o H1=>tl σ H1 fun l H2=>th σ H2 fun u H3=>∃ p b xs ys a c,o = .ref p/\v = .ref b/\l=some a/\u=some c/\H3 p=some (.lst xs)/\H3 b=some (.lst ys)/\p≠b/\0<=a/\a<=c/\c<=xs.length/\xs.length+ys.length<=sizeLine ∧
 Q σ (upd H3 p (.lst (xs.take a.toNat++ys++xs.drop c.toNat)))
theorem pg_subsl {o:Expr}{lo hi:Option Expr}{to:TE}{tl th:TO}{p2 pos:Pos}(ho:PE X o to)(hl:PO X lo tl)(hu:PO X hi th)
  (ha:∀ v,assign (.Subscript o (.Slice lo hi none p2) pos) X.env v=(do
   let ov ← holding [v] (eval o X.env)
   let iv ← holding [v,ov] (eval (.Slice lo hi none p2) X.env)
   standAt pos
   holding [v,ov,iv] (setItem ov iv v)
   release [iv,v,ov] []):=by intro _;rfl):PG X (.Subscript o (.Slice lo hi none p2) pos) (gSubSl to tl th):=by
 intro pins s σ H v u Q I r h
 rw [ha]
 refine wpAny_bind (wpAny_holding (thn (ho pins s σ H _ I h) fun ov s1 ⟨x,H1,I1,r1,q1⟩=>?_))
 refine wpAny_bind (wpAny_holding (wpAny_Slice (thn (hl pins s1 σ H1 _ I1 q1) fun vl s2 ⟨l,H2,I2,pl,q2⟩=>thn (hu pins s2 σ H2 _ I2 q2) fun vu s3 ⟨w',H3,I3,pu,q3⟩=>?_)))
 rw [evalPart_none]
 refine wpAny_pure ?_
 obtain⟨p,b,xs,ys,a,c,rfl,rfl,rfl,rfl,hp,hb,hne,h0,hac,hc,hz,q⟩:=q3
 have I4:Inv X pins σ H3 { s3 with heap:=s3.heap.push { cls:=.type "slice",data:=.fields #[vl,vu,.none] } }:=I3.kept (t':=s3.toks) fun b ob q=>Heap.get?_push_of_some _ q
 cases r1
 cases r
 refine wpAny_bind (wpAny_standAt (wpAny_bind (wpAny_holding ?_)))
 cases pl with
 | int _ t1=>
  cases pu with
  | int _ t2=>
   exact set_slice (sl:=s3.heap.objs.size) I4 hp hb hne (Heap.IsSliceOf.new ..) ⟨t1,rfl⟩ ⟨t2,rfl⟩ h0 hac hc hz fun s' I'=>wpAny_release ⟨σ,_,I',q⟩
end
def Has (P:Program)(w:World)(K:yF)(mg:Str->Option Value)(base:Heap)(k:Nat)(name:Str)(ps:List Str)(sp:Sp):Prop:=
 ∃ (f:Addr) (fd:FuncData),mg name=some (.ref f)/\PySem.W.keepIn K (.ref f)=true/\Binds K fd ps []/\FnOk P w K mg base CX0 k f fd ps sp/\∃ oc od osl,K.lookup f=some ⟨oc,od,.func fd,osl⟩
def Def (K:yF)(mg:Str->Option Value)(name:Str)(st:Stmt)(ps:List Str):Prop:=
 ∃ (f:Addr) (fd:FuncData),mg name=some (.ref f)/\Fun K name name st f fd/\Binds K fd ps []
theorem Def.has {P:Program}{w:World}{K:yF}{mg:Str->Option Value}{base:Heap}{k:Nat}{name:Str}{st:Stmt}{N ps:List Str}{sp:Sp}(d:Def K mg name st ps)(S:FnScope N ps (zm st))(len:∀ vs H Q E,sp vs H Q E->vs.length=ps.length)
  (hbody:∀ (f:Addr) (cdv:Value) (A:Around) (outer:List Env) (s:Shared) (H:Hp) (vs:List V) (Q:VK) (E:XK),Room k (A.deeper (envOfC name (zm st) s.heap.objs.size f cdv))->sp vs H Q E →
   ∃ t,PSs (cxOf CX0 P w K mg base N name (zm st) f cdv A outer s H E).nox (zkb st) t/\t { nx:=fun _ H'=>Q .non H',rt:=Q } (start N vs) H):Has P w K mg base (k+1) name ps sp:=by
 obtain⟨f,fd,h1,F,b⟩:=d
 obtain⟨oc,od,kV,doc,pm,an,cdv,ct,osl,e,lk,hcd⟩:=F.ex
 exact⟨f,fd,h1,F.kp,b,F.ok S len (hbody f),oc,od,osl,lk⟩
theorem law_head {P:Program}{w:World}{K:yF}{mg:Str->Option Value}{fa:Addr}{name:Str}{st:Stmt}{x:Str}{k:Nat}{sp:Sp}(hfa:mg name=some (.ref fa))(d:Def K mg name st [x])
  (hb:∀ (kV doc pm:Value) (an:Option Addr) (cdv ct:Value) (s:Shared) (v:Value),BindsTo s (PySem.W.fnOf name name (zyd st) (zkb st) (zm st) .none kV doc pm an cdv ct) ⟨[v],[]⟩ [(x,v)])
  (H:∀ base:Heap,K.In base->base.Ns mainGlobals mg->Has P w K mg base k name [x] sp) :
  ∃ fd:FuncData,(∀ (s:Shared) (v:Value),BindsTo s fd ⟨[v],[]⟩ [(x,v)])/\∀ base:Heap,K.In base->base.Ns mainGlobals mg->FnOk P w K mg base CX0 k fa fd [x] sp:=by
 obtain⟨f,fd,h1,F,b⟩:=d
 rw [hfa] at h1
 cases h1
 obtain⟨oc,od,kV,doc,pm,an,cdv,ct,osl,e,lk,hcd⟩:=F.ex
 refine⟨fd,fun s v=>by rw [e];exact hb _ _ _ _ _ _ s v,fun base kb nb=>?_⟩
 obtain⟨f',fd',g1,_,_,g4,oc',od',osl',lk'⟩:=H base kb nb
 rw [hfa] at g1
 cases g1
 rw [lk] at lk'
 cases lk'
 exact g4
section
variable  {X:Cx}{x:Str}{e:Expr}{es:List Expr}{p pos:Pos}{k:Nat}{ps:List Str}{sp:Sp}{t:TA}
theorem pe_fn (h:Has X.prog X.w X.K X.mg X.base k x ps sp)(hr:Room k X.A)(hg:Gl X x)(ha:PA X (e::es) t)(hdb:(x == ("__debug__" : Str))=false:=by decide)
  (he:starEach (e::es) X.env=(false,eval e X.env)::starEach es X.env:=by rfl) (hpl:(backTo pos (starEach es X.env)).any (·.1)=false:=by rfl) :
  PE X (.Call (.Name x p) (e::es) [] pos) (zul sp [] E0 t):=by
 obtain⟨f,fd,h1,h2,h3,h4,_⟩:=h
 exact pe_call h4 hr hg h1 h2 h3 .nil pass0 ha hdb he hpl
end
section
variable  {X:Cx}
def rAddX (K:yF):R2:=fun x y H Q=>rI0 (fun i j=>.int (i+j)) x y H Q ∨ ((∃ i j,x = .str i/\y = .str j/\i.length+j.length<=sizeLine/\Q (.str (i++j)) H) ∨ (rCat x y H Q ∨ rCatT K x y H Q))
theorem op_addX:OpR X (binaryOp .Add) (rAddX X.K):=op_add.or (op_add_str.or (op_cat.or op_catT))
def rMulX (K:yF):R2:=fun x y H Q=>rI CMul (fun i j=>.int (i * j)) x y H Q ∨ ((∃ z n,x = .str z/\y = .int n/\1<=n/\n<=1000/\z.length<=1000/\Q (.str (oL (List.replicate n.toNat (sL z)).flatten)) H) ∨ (rRep x y H Q ∨ rRepT K x y H Q))
theorem op_mulX:OpR X (binaryOp .Mult) (rMulX X.K):=op_mul.or (op_mulS.or (op_rep.or op_repT))
def rEqX (K:yF):R2:=fun x y H Q=>rEq x y H Q ∨ (rEqD K x y H Q ∨ rEqL K x y H Q)
theorem op_eqX (hu:X.A.units+64<cLine):OpR X (compareOp .Eq) (rEqX X.K):=op_eq.or ((op_eqD hu).or (op_eqL hu))
def rNeX (K:yF):R2:=fun x y H Q=>rNe x y H Q ∨ (rNeD K x y H Q ∨ rNeL K x y H Q)
theorem op_neX (hu:X.A.units+64<cLine):OpR X (compareOp .NotEq) (rNeX X.K):=op_ne.or ((op_neD hu).or (op_neL hu))
def rInX (K:yF):R2:=fun x y H Q=>(∃ i j,x = .str i/\y = .str j/\Q (.bl (!(Builtin.Str.occurrences j i 0 j.length 1).isEmpty)) H) ∨ (rIn K false x y H Q ∨ rInD K false x y H Q)
theorem op_inX (hu:X.A.units+64<cLine):OpR X (compareOp .In) (rInX X.K):=op_in_str.or (op_in_seq.or (op_inD hu))
def znl (K:yF):R2:=fun x y H Q=>(∃ i j,x = .str i/\y = .str j/\Q (.bl (!(!(Builtin.Str.occurrences j i 0 j.length 1).isEmpty))) H) ∨ (rIn K true x y H Q ∨ rInD K true x y H Q)
theorem op_notInX (hu:X.A.units+64<cLine):OpR X (compareOp .NotIn) (znl X.K):=op_notIn_str.or (op_notIn_seq.or (op_notInD hu))
theorem sl_X:SlR X (rSl X.K):=sl_tup.or (sl_list.or sl_str)
def ztn (K:yF):List V->Hp->VK->Prop:=fun xs H Q=>(∃ p ys,xs = [.ref p]/\(SqL K H p ys ∨ SqT K H p ys)/\Q (.int ys.length) H) ∨ (∃ z,xs = [.str z]/\z.length<=sizeLine/\Q (.int z.length) H)
theorem call_lenX:CallR X (.builtin "len") (ztn X.K):=CallR.or call_len_seq call_len_str
end
section
variable  {σ:St}{H:Hp}{Q:VK}{D:Ends}{K:yF}
end
def Glob (mg:Str->Option Value)(x:Str)(v:V):Prop:=∃ u,mg x=some u/\RelV v u
def TupAt (K:yF)(a:Addr)(xs:List V):Prop:=∃ (o:Obj) (its:Array Value) (n:Nat),K.lookup a=some o/\o.cls = .type "tuple" ∧ o.data = .seq its n/\its.size<=sizeLine/\Vals xs its.toList
theorem TupAt.sq {K:yF}{a:Addr}{xs:List V}(h:TupAt K a xs){H:Hp}:SqT K H a xs:=.inr h
theorem pe_globV {X:Cx}{x:Str}{v:V}{pos:Pos}(h:Glob X.mg x v)(hg:Gl X x)(hd:(x == ("__debug__" : Str))=false:=by decide):PE X (.Name x pos) (tC v):=by
 obtain⟨u,h1,h2⟩:=h
 exact pe_glob hg h1 h2 hd
noncomputable def Its (z:Str):It:=⟨fun i _=>i<z.cps.size,fun i H y H'=>H'=H/\∃ c,z.cps[i]?=some c/\y = .str ⟨#[c]⟩,fun i _=>z.cps.size<=i⟩
def iStr (te:TE):TI:=fun σ H R=>te σ H fun x H1=>∃ z:Str,x = .str z/\R (Its z) H1
theorem pi_text {X:Cx}{tg e:Expr}{te:TE}(he:PE X e te):PI X tg e (iStr te):=pi_str he
theorem zyb {N:List Str}(h:decide N.Nodup=true):N.Nodup:=of_decide_eq_true h
section
variable  {X:Cx}{K:yF}
theorem ix_K (h:X.K=K):IxR X (rIx K):=h ▸ ix_seq
def rTupOf (K:yF):List V->Hp->VK->Prop:=fun xs H Q=>∃ p ys,xs = [.ref p]/\((SqL K H p ys/\∀ l,H l=none->Q (.ref l) (upd H l (.tup ys))) ∨ (SqT K H p ys/\Q (.ref p) H))
def rLstOf (K:yF):List V->Hp->VK->Prop:=fun xs H Q=>∃ p ys,xs = [.ref p]/\(SqL K H p ys ∨ SqT K H p ys)/\∀ l,H l=none->Q (.ref l) (upd H l (.lst ys))
def rAll (K:yF):List V->Hp->VK->Prop:=fun xs H Q=>∃ (a:Addr) (bs:List Bool),xs = [.ref a]/\SqL K H a (bs.map V.bl)/\Q (.bl (bs.all id)) H
def rJoin (K:yF):V->List V->Hp->VK->Prop:=fun x vs H Q=>∃ z a zs,x = .str z/\vs = [.ref a]/\SqL K H a (zs.map V.str)/\(zs.map (·.length)).sum+zs.length * z.length<=16777216/\Q (.str (Txt.join z zs)) H
theorem revK {e:Expr}{te:TE}{j:Nat}{p1 p2 p3 pos:Pos}(h:X.K=K)(he:PE X e te):PE X (.Subscript e (.Slice none none (some (.UnaryOp .USub (.Constant (.int 1) j p1) p2)) p3) pos) (zxn K te):=h ▸ pe_revT he
theorem tgK {es:List Expr}{k:Nat}{t:TGs}{n:Nat}{pos:Pos}(h:X.K=K)(hc:X.calm=true)(hs:PGs X es t)
  (hn:(assignEach es X.env).length=n:=by rfl) (hst:(assignEach es X.env).findIdx? (·.1)=none:=by rfl):PG X (.Tuple es k pos) (gTup K n t):=h ▸ pg_tup hc hs hn hst
theorem ilK {tg l:Expr}{tl:TE}(h:X.K=K)(hl:PE X l tl):PI X tg l (zcn K tl):=h ▸ pi_list hl
theorem itK {tg l:Expr}{tl:TE}(h:X.K=K)(hl:PE X l tl):PI X tg l (iTup K tl):=h ▸ pi_tup hl
def tTru (K:yF)(ta:TE):TT:=fun σ H Q=>ta σ H fun x H'=>∃ k,TruV K x H' k/\Q k H'
theorem truK {a:Expr}{ta:TE}(h:X.K=K)(ha:PE X a ta)(he:∀ whole,isTrue a X.env whole=(do let v ← whole;standAt a.pos;holding [v] (truthy v))):PT X a (tTru K ta):=h ▸ pt_truth ha he
variable  {o e:Expr}{es:List Expr}{to:TE}{t:TA}{name:Str}{apos cpos:Pos}{T id:String}{r:V->List V->Hp->VK->Prop}
theorem bm0K (h:X.K=K)(pa:PlainAttrs T)(slot:Slot T name id)(hty:typeOf (.builtin id)=pure (.type "method_descriptor"))(hm:MtR X id r)(ho:PE X o to)
  (hbase:attributeBase o name X.env (eval o X.env)=eval o X.env:=by rfl) (hline:(apos.endLine == cpos.line)=true:=by rfl):PE X (.Call (.Attribute o name apos) [] [] cpos) (tBM0 K T r to):=h ▸ pe_bm0 pa slot hty hm ho hbase hline
theorem bmK (h:X.K=K)(pa:PlainAttrs T)(slot:Slot T name id)(hty:typeOf (.builtin id)=pure (.type "method_descriptor"))(hm:MtR X id r)(ho:PE X o to)(ha:PA X (e::es) t)
  (hbase:attributeBase o name X.env (eval o X.env)=eval o X.env:=by rfl)
  (hfew:((backTo cpos (starEach (e::es) X.env)).all (fun x=>!x.1) && (backToKw cpos (keywordEach [] X.env)).all (fun x=>x.1.isSome)
   && decide ((e::es).length+([]:List Keyword).length+(if ([]:List Keyword).isEmpty then 0 else 1)<30))=true:=by rfl)
  (hline:(apos.endLine == cpos.line)=true:=by rfl) (hs:starEach (e::es) X.env=(false,eval e X.env)::starEach es X.env:=by rfl) (hplain:(backTo cpos (starEach es X.env)).any (·.1)=false:=by rfl) :
  PE X (.Call (.Attribute o name apos) (e::es) [] cpos) (tBM K T r to t):=h ▸ pe_bm pa slot hty hm ho ha hbase hfew hline hs hplain
end
theorem Same.put {H H1:Hp}{l:Addr}{o:HO}(s:Same H H1)(hl:H l=none):Same H (L2.upd H1 l o):=fun b u h=>by rw [L2.upd_ne (zpa h hl)];exact s b u h
structure Bi (mg:Str->Option Value):Prop where
 b_len:mg "len" = none
 b_all:mg "all" = none
 b_any:mg "any" = none
 b_tuple:mg "tuple" = none
 b_list:mg "list" = none
 b_range:mg "range" = none
 b_min:mg "min" = none
 b_max:mg "max" = none
 b_int:mg "int" = none
 b_bool:mg "bool" = none
 b_isinstance:mg "isinstance" = none
 b_str:mg "str" = none
 b_sorted:mg "sorted" = none
 b_sum:mg "sum" = none
 b_zip:mg "zip" = none
 b_enumerate:mg "enumerate" = none
 b_dict:mg "dict" = none
 b_abs:mg "abs" = none
 b_repr:mg "repr" = none
 b_reversed:mg "reversed" = none
 b_set:mg "set" = none
noncomputable abbrev LET:Str:="abcdefghijklmnopqrstuvwxyz"
theorem zxk:(sL LET).length=26:=by decide +kernel
theorem LET_len':LET.length=26:=by decide +kernel
noncomputable def rd:D->Option D
 | .tup [.str x,nm,row]=>if x=("at" : Str) then some (.tup [nm,row]) else none
 | _=>none
def Bd (m x:Int):Prop:=0<=x/\x<m
theorem Bd.mod {m:Int}(h:0<m)(x:Int):Bd m (x % m):=⟨Int.emod_nonneg _ (by omega),Int.emod_lt_of_pos _ h⟩
theorem turn_outer (elt tg iter tg2 iter2:Expr)(ifs2:List Expr)(scope:Scope)(pos:Pos)(it acc:Value)(env:Env) :
  compTurn (.ListComp elt [⟨tg,iter,[],0⟩,⟨tg2,iter2,ifs2,0⟩] scope pos) 0 it acc env=(standAt iter.pos >>= fun _=>pyNext it >>= fun r=>match r with
   | none=>pure (.done .next)
   | some v=>letOwnedTupleGo tg it v >>= fun _=>assign tg env v >>= fun _=>
    (eval iter2 env >>= fun x=>standAt iter2.pos >>= fun _=>foldedSetIterable iter2 env x >>= fun x=>holding [x] (pyIter x) >>= fun j=>runOwn (.compStart (.ListComp elt [⟨tg,iter,[],0⟩,⟨tg2,iter2,ifs2,0⟩] scope pos) 1 j acc env) env >>= fun _=>
     again (.compLoop (.ListComp elt [⟨tg,iter,[],0⟩,⟨tg2,iter2,ifs2,0⟩] scope pos) 0 it acc env))):=by
 unfold compTurn
 rfl
theorem turn_inner (elt tg2 iter2:Expr)(g1:Comprehension)(ifs2:List Expr)(scope:Scope)(pos:Pos)(it acc:Value)(env:Env) :
  compTurn (.ListComp elt [g1,⟨tg2,iter2,ifs2,0⟩] scope pos) 1 it acc env=(do
   standAt iter2.pos
   match ← pyNext it with
   | none=>pure (.done .next)
   | some v=>
    letOwnedTupleGo tg2 it v
    assign tg2 env v
    let mut ok:=true
    for c in ifs2 do
     if ok then ok ← isTrue c env (eval c env)
    if ok then
     (do let _ ← call (.builtin "list.append") [acc,← eval elt env])
    again (.compLoop (.ListComp elt [g1,⟨tg2,iter2,ifs2,0⟩] scope pos) 1 it acc env)):=by rfl
theorem loop_inner {prog:Program}{w:World}{A:Around}{R:Result->Shared->Prop}{s:Shared}{elt tg2 iter2:Expr}{g1:Comprehension}{ifs2:List Expr}{scope:Scope}{pos:Pos}{it acc:Value}{env:Env}(I:Nat->Shared->Prop)
  (turn:∀ n s,I n s->wpAny (model prog w) A (pyNext it) (fun r s₁=>match r with
   | none=>R (.ok .next) s₁
   | some v=>wpAny (model prog w) A (letOwnedTupleGo tg2 it v) (fun _ s₁'=>wpAny (model prog w) A (assign tg2 env v) (fun _ s₂=>
     wpAny (model prog w) A (zvl ifs2 env) (fun ok s₃=>
      if ok=true then wpAny (model prog w) A (eval elt env) (fun x s₄=>
       wpAny (model prog w) A (call (.builtin "list.append") [acc,x]) (fun _ s₅=>∃ m,m<n/\I m s₅) (fun _ _=>False) s₄) (fun _ _=>False) s₃
      else ∃ m,m<n/\I m s₃) (fun _ _=>False) s₂) (fun _ _=>False) s₁') (fun _ _=>False) s₁) (fun _ _=>False) s)
  (n:Nat) (h:I n s):codeAny (model prog w) A (.compLoop (.ListComp elt [g1,⟨tg2,iter2,ifs2,0⟩] scope pos) 1 it acc env) R s:=by
 have never:∀ {α:Type} {t:Sem α} {QQ : α->Shared->Prop} {EE:Value->Shared->Prop} {ss:Shared},wpAny (model prog w) A t QQ (fun _ _=>False) ss->wpAny (model prog w) A t QQ EE ss:=fun hh=>wpAny_mono hh (fun _ _ z=>z) fun _ _ z=>z.elim
 refine codeAny_loop rfl I (fun n s hI=>?_) n h
 show wpAny _ A ((compTurn (.ListComp elt [g1,⟨tg2,iter2,ifs2,0⟩] scope pos) 1 it acc env).onRaise (fun x=>do noteFrame x env;theTreesLotGoes x)) _ _ s
 refine wpAny_noted ?_
 rw [turn_inner]
 refine wpAny_bind (wpAny_standAt (wpAny_bind (wpAny_mono (turn n s hI) (fun r s₁ h₁=>?_) fun _ _ z=>z.elim)))
 cases r with
 | none=>exact wpAny_pure h₁
 | some v=>
  refine wpAny_bind (wpAny_mono h₁ (fun _ s₁' h₁'=>?_) fun _ _ z=>z.elim)
  refine wpAny_bind (wpAny_mono h₁' (fun _ s₂ h₂=>wpAny_bind (wpAny_mono h₂ (fun ok s₃ h₃=>?_) fun _ _ z=>z.elim)) fun _ _ z=>z.elim)
  cases ok with
  | false=>exact wpAny_pure ⟨rfl,h₃⟩
  | true=>
   exact wpAny_bind (wpAny_bind (wpAny_mono h₃ (fun x s₄ h₄=>wpAny_bind (wpAny_mono h₄ (fun _ s₅ h₅=>wpAny_pure (wpAny_pure ⟨rfl,h₅⟩)) fun _ _ z=>z.elim)) fun _ _ z=>z.elim))
theorem start_inner {prog:Program}{w:World}{A:Around}{R:Result->Shared->Prop}{s:Shared}{elt tg2 iter2:Expr}{g1:Comprehension}{ifs2:List Expr}{scope:Scope}{pos:Pos}{it acc:Value}{env:Env}
  (h0:codeAny (model prog w) A (.compLoop (.ListComp elt [g1,⟨tg2,iter2,ifs2,0⟩] scope pos) 1 it acc env) R s)
  (h:wpAny (model prog w) A (pyIter it) (fun it' s'=>codeAny (model prog w) A (.compLoop (.ListComp elt [g1,⟨tg2,iter2,ifs2,0⟩] scope pos) 1 it' acc env) R s') (notedBy (model prog w) A env fun x s'=>R (.error x) s') s) :
  codeAny (model prog w) A (.compStart (.ListComp elt [g1,⟨tg2,iter2,ifs2,0⟩] scope pos) 1 it acc env) R s:=by
 refine codeAny_of_tree ?_
 show wpAny _ _ ((compStart (.ListComp elt [g1,⟨tg2,iter2,ifs2,0⟩] scope pos) 1 it acc env).onRaise (fun x=>do noteFrame x env;standAt theWindowsPlace)) _ _ s
 refine wpAny_notedAt ?_
 unfold compStart
 show wpAny _ _ (ask >>= _) _ _ s
 refine wpAny_bind (wpAny_askSetting (wpAny_ite ?_))
 split
 ·first
   | exact wpAny_pure (And.intro rfl h0)
   | exact wpAny_bind (wpAny_pure (wpAny_pure (And.intro rfl h0)))
 ·refine wpAny_bind (wpAny_rule ?_)
  show wpAny _ _ (standAt iter2.pos >>= _) _ _ s
  exact wpAny_bind (wpAny_standAt (wpAny_bind (wpAny_mono h (fun it' s' h'=>wpAny_pure (And.intro rfl h')) fun _ _ x=>x)))
theorem loop_outer {prog:Program}{w:World}{A:Around}{R:Result->Shared->Prop}{s:Shared}{elt tg iter tg2 iter2:Expr}{ifs2:List Expr}{scope:Scope}{pos:Pos}{it acc:Value}{env:Env}(hs:∀ x,foldedSetIterable iter2 env x=pure x)(I:Nat->Shared->Prop)
  (turn:∀ n s,I n s->wpAny (model prog w) A (pyNext it) (fun r s₁=>match r with
   | none=>R (.ok .next) s₁
   | some v=>wpAny (model prog w) A (letOwnedTupleGo tg it v) (fun _ s₁'=>wpAny (model prog w) A (assign tg env v) (fun _ s₂=>
     wpAny (model prog w) A (eval iter2 env) (fun x s₃=>wpAny (model prog w) A (pyIter x) (fun j s₄=>
      codeAny (model prog w) A (.compStart (.ListComp elt [⟨tg,iter,[],0⟩,⟨tg2,iter2,ifs2,0⟩] scope pos) 1 j acc env) (fun r s₅=>match r with | .ok _=>∃ m,m<n/\I m s₅ | .error _=>False) s₄)
       (fun _ _=>False) s₃) (fun _ _=>False) s₂) (fun _ _=>False) s₁') (fun _ _=>False) s₁) (fun _ _=>False) s)
  (n:Nat) (h:I n s):codeAny (model prog w) A (.compLoop (.ListComp elt [⟨tg,iter,[],0⟩,⟨tg2,iter2,ifs2,0⟩] scope pos) 0 it acc env) R s:=by
 refine codeAny_loop rfl I (fun n s hI=>?_) n h
 show wpAny _ A ((compTurn (.ListComp elt [⟨tg,iter,[],0⟩,⟨tg2,iter2,ifs2,0⟩] scope pos) 0 it acc env).onRaise (fun x=>do noteFrame x env;theTreesLotGoes x)) _ _ s
 refine wpAny_noted ?_
 rw [turn_outer]
 refine wpAny_bind (wpAny_standAt (wpAny_bind (wpAny_mono (turn n s hI) (fun r s₁ h₁=>?_) fun _ _ z=>z.elim)))
 cases r with
 | none=>exact wpAny_pure h₁
 | some v=>
  refine wpAny_bind (wpAny_mono h₁ (fun _ s₁' h₁'=>?_) fun _ _ z=>z.elim)
  refine wpAny_bind (wpAny_mono h₁' (fun _ s₂ h₂=>?_) fun _ _ z=>z.elim)
  refine wpAny_bind (wpAny_mono h₂ (fun x s₃ h₃=>wpAny_bind (wpAny_standAt (wpAny_bind (wpAny_of_eq (hs x) (wpAny_bind (wpAny_holding (wpAny_mono h₃ (fun j s₄ h₄=>?_) fun _ _ z=>z.elim))))))) fun _ _ z=>z.elim)
  refine wpAny_bind (wpAny_runOwn (codeAny_mono h₄ fun r s₅ h₅=>?_))
  cases r with
  | ok f=>exact wpAny_pure ⟨rfl,h₅⟩
  | error e=>exact h₅.elim
def zjn (J2:It)(σi:St)(g2:TG)(tc2:TT)(te:TE)(acc0:List V)(H3:Hp)(N:List V->Hp->Prop):Prop:=
 ∃ W2:Nat->Nat->List V->Hp->Prop,(∃ m,W2 0 m acc0 H3)/\∀ i m acc H,W2 i m acc H->acc.length<sizeLine ∧
  ((J2.stop i H/\N acc H) ∨
  (J2.go i H/\∃ N2:List V->Hp->Prop,(∀ acc' H',N2 acc' H'->∃ m',m'<m/\W2 (i+1) m' acc' H') ∧
   ∀ x H',J2.yld i H x H'->g2 x σi H' fun σ3 H4=>tc2 σ3 H4 fun b H5=>if b=true then te σ3 H5 fun v H6=>N2 (acc++[v]) H6 else N2 acc H5))
def CompW2 (J:It)(σi:St)(g:TG)(wi2:TI)(fr2:List (Option Nat))(g2:TG)(tc2:TT)(te:TE)(H1:Hp)(Q:VK):Prop:=
 ∃ W:Nat->Nat->List V->Hp->Prop,(∃ m,W 0 m [] H1)/\∀ i m acc H,W i m acc H->acc.length<sizeLine ∧
  ((J.stop i H/\∀ d,H d=none->Q (.ref d) (upd H d (.lst acc))) ∨
  (J.go i H/\∃ N:List V->Hp->Prop,(∀ acc' H',N acc' H'->∃ m',m'<m/\W (i+1) m' acc' H') ∧
   ∀ x H',J.yld i H x H'->g x σi H' fun σ2 H2=>wi2 σ2 H2 fun J2 H3=>zjn J2 (inSt fr2 σ2) g2 tc2 te acc H3 N))
def tComp2 (wi:TI)(fr:List (Option Nat))(g:TG)(wi2:TI)(fr2:List (Option Nat))(g2:TG)(tc2:TT)(te:TE):TE:=fun σ H Q=>wi σ H fun J H1=>CompW2 J (inSt fr σ) g wi2 fr2 g2 tc2 te H1 Q
section
variable  {X:Cx}{elt tg iter tg2 iter2:Expr}{ifs2:List Expr}{scope:Scope}{pos:Pos}{N':List Str}{fr fr2:List (Option Nat)}{wi wi2:TI}{g g2:TG}{tc2:TT}{te:TE}
noncomputable def sub2 (fr fr2:List (Option Nat)):Bool:=(fr2.length == fr.length) && (List.range fr.length).all fun k=>(fr2[k]? == some (some k)) || (fr2[k]? == some none && fr[k]? == some none)
theorem weak_of {fr:List (Option Nat)}{σ σ5:St}(kp:Kp fr (inSt fr σ) σ5):∀ (k:Nat) v,(inSt fr σ)[k]?=some (some v)->σ5[k]?=some (some v):=fun k v e=>by
 cases q:fr[k]? with
 | none=>
  unfold inSt at e
  rw [List.getElem?_map,q] at e
  cases e
 | some o=>
  cases o with
  | none=>
   unfold inSt at e
   rw [List.getElem?_map,q] at e
   simp at e
  | some j=>rw [kp.2 k j q];exact e
theorem kp_sub {σ σ8 σ5:St}(h:sub2 fr fr2=true)(kp8:Kp fr (inSt fr σ) σ8)(kp5:Kp fr2 (inSt fr2 σ8) σ5):Kp fr (inSt fr σ) σ5:=by
 unfold sub2 at h
 rw [Bool.and_eq_true] at h
 obtain⟨h1,h2⟩:=h
 have hl:fr2.length=fr.length:=by simpa using h1
 refine⟨by rw [kp5.1,zgc,zgc,hl],fun k j e=>?_⟩
 have hk:k<fr.length:=(List.getElem?_eq_some_iff.mp e).1
 have h3:=List.all_eq_true.mp h2 k (List.mem_range.mpr hk)
 rw [e] at h3
 have h4:fr2[k]?=some (some k):=by
  rw [Bool.or_eq_true] at h3
  rcases h3 with z | z
  ·simpa using z
  ·rw [Bool.and_eq_true] at z
   have z2:=z.2
   simp at z2
 rw [kp5.2 k k h4,← kp8.2 k j e]
 have hlen:k < σ8.length:=by rw [kp8.1,zgc];exact hk
 unfold inSt
 rw [List.getElem?_map,h4]
 show some (σ8.getD k none)=_
 rw [List.getD_eq_getElem?_getD,List.getElem?_eq_getElem hlen]
 rfl
theorem comp_block2 (hc:X.calm=true)(B:Blk X.env.scope scope X.N N' fr)(hsub:sub2 fr fr2=true)
  (hg:∀ b,PG (cxB X scope N' b) tg g) (hgk:GKeep fr g) (hi2:∀ b,PI (cxB X scope N' b) tg2 iter2 wi2) (hg2:∀ b,PG (cxB X scope N' b) tg2 g2) (hgk2:GKeep fr2 g2) (ht:∀ b,PTs (cxB X scope N' b) ifs2 tc2) (he:∀ b,PE (cxB X scope N' b) elt te)
  (hs2:∀ b x,foldedSetIterable iter2 (cxB X scope N' b).env x=pure x)
  {pins:List (Addr×Obj)} {σ:St} {Q:VK} {itv:Value} {s2:Shared} {E:Value->Shared->Prop} {RR:Value->Addr->Result->Shared->Prop}
  (h2:PIE X pins σ tg (fun J H1=>CompW2 J (inSt fr σ) g wi2 fr2 g2 tc2 te H1 Q) itv s2)
  (hRR:∀ (d C:Addr) (v:V) (H':Hp) (s':Shared) m',Inv X pins σ H' s'->v = .ref d->Q v H'->s'.heap.Ns C m'->FpOk X pins H' C->C≠d->RR (.ref d) C (.ok .next) s') :
  wpAny (model X.prog X.w) X.A (newList []) (fun acc s₃=>wpAny (model X.prog X.w) X.A (newFunctionEnv scope X.env.globals (zmc X.env scope.names []) [] X.env.qual none .none (some X.env)) (fun cenv s₄=>
   codeAny (model X.prog X.w) X.A (.compStart (.ListComp elt [⟨tg,iter,[],0⟩,⟨tg2,iter2,ifs2,0⟩] scope pos) 0 itv acc { cenv with scope:=relabel scope X.env }) (RR acc cenv.locals) s₄) E s₃) E s2:=by
 obtain⟨it,fp,tn,J,H2,rfl,I2,T,st2,f2,W,⟨m0,w0⟩,turn⟩:=h2
 refine wpAny_newObj_type ?_
 generalize hd:s2.heap.objs.size=d
 have I3:Inv X pins σ H2 { s2 with heap:=s2.heap.push { cls:=.type "list",dict:=none,data:=.seq ([]:List Value).toArray } }:=I2.kept (t':=s2.toks) fun b o e=>Heap.get?_push_of_some _ e
 have fd:FpOk X pins H2 d:=I2.fpOk (by rw [hd];exact Nat.le_refl _) (I2.hok.fresh (by rw [hd];exact Nat.le_refl _))
 have od:(s2.heap.push { cls:=.type "list",dict:=none,data:=.seq ([]:List Value).toArray }).get? d=some { cls:=.type "list",dict:=none,data:=.seq ([]:List Value).toArray }:=by rw [← hd];exact Heap.get?_push_size _ rfl
 have st3:tn 0 (s2.heap.push { cls:=.type "list",dict:=none,data:=.seq ([]:List Value).toArray }):=T.keep _ _ _ st2 fun b _ o e=>Heap.get?_push_of_some _ e
 have ne_d:∀ b∈fp,b≠d:=fun b hb=>by
  obtain⟨o,e,_⟩:=T.obj _ _ st2 b hb
  rw [← hd]
  exact Nat.ne_of_lt (Heap.lt_size e)
 have hd0:X.s₀.heap.objs.size<=d:=by rw [← hd];exact I2.sz
 generalize hs3:({ s2 with heap:=s2.heap.push { cls:=.type "list",dict:=none,data:=.seq ([]:List Value).toArray } }:Shared)=s3 at I3
 have od3:s3.heap.get? d=some { cls:=.type "list",dict:=none,data:=.seq ([]:List Value).toArray }:=by rw [← hs3];exact od
 have st3':tn 0 s3.heap:=by rw [← hs3];exact st3
 have hex:∀ b∈d::fp,FpOk X pins H2 b/\∃ o,s3.heap.get? b=some o:=fun b hb=>by
  rcases ycM hb with e | hb
  ·subst e;exact⟨fd,_,od3⟩
  ·obtain⟨o,e,_⟩:=T.obj _ _ st3' b hb
   exact⟨f2 b hb,o,e⟩
 refine wpAny_blockEnv fun h4 hns hk hcl=>?_
 have J0:=I3.enter (ex:=d::fp) (xe:=fun _ _=>False) B hex hns hk hcl
 generalize hCs:cellsFrom (s3.heap.objs.size+1) scope.names (zmc X.env scope.names [])=cells at J0
 have hCd:s3.heap.objs.size≠d:=fun z=>by have:=Heap.lt_size od3;rw [z] at this;exact Nat.lt_irrefl _ this
 let bk:Bk:=⟨cells,s3.heap.objs.size,s3,H2,d::fp,X.pn++pins⟩
 have J0':Inv (cxB X scope N' bk) [] (inSt fr σ) H2 { s3 with heap:=h4 }:=J0
 show codeAny (model X.prog X.w) X.A (.compStart (.ListComp elt [⟨tg,iter,[],0⟩,⟨tg2,iter2,ifs2,0⟩] scope pos) 0 (.ref it) (.ref d) (cxB X scope N' bk).env) (RR (.ref d) s3.heap.objs.size) { s3 with heap:=h4 }
 have ne_pn:∀ p∈X.pn++pins,p.1≠d/\∀ b∈fp,p.1≠b:=fun p hp=>⟨fd.2.2.2.2.2 p hp,fun b hb=>(f2 b hb).2.2.2.2.2 p hp⟩
 have never:∀ {α:Type} {t:Sem α} {QQ : α->Shared->Prop} {EE:Value->Shared->Prop} {ss:Shared},wpAny (model X.prog X.w) X.A t QQ (fun _ _=>False) ss->wpAny (model X.prog X.w) X.A t QQ EE ss:=fun hh=>wpAny_mono hh (fun _ _ z=>z) fun _ _ z=>z.elim
 have fpk:∀ {Hx:Hp} {o:Obj},(∀ b∈fp,Hx b=none)->∀ b∈fp,FpOk (cxB X scope N' bk) [(d,o)] Hx b:=fun {Hx o} hn b hb=>by
  have hb':b∈d::fp:=ymC _ hb
  refine⟨hn b hb,(J0'.ok.exf b hb').1,J0'.ok.exfs b hb',.inl hb',fun x c e=>(J0'.ok.exf b hb').2 x c e,fun p hp=>?_⟩
  have hp':p∈(X.pn++pins)++[(d,o)]:=hp
  rcases yaM hp' with z | z
  ·exact (ne_pn p z).2 b hb
  ·have:p=(d,o):=by simpa using z
   rw [this]
   exact Ne.symm (ne_d b hb)
 have dC:=(J0'.ok.exf d ymS).1
 have dS:=J0'.ok.exfs d ymS
 have loop:∀ s4:Shared,Inv (cxB X scope N' bk) [] (inSt fr σ) H2 s4->tn 0 s4.heap->s4.heap.PlainList d #[] →
   codeAny (model X.prog X.w) X.A (.compLoop (.ListComp elt [⟨tg,iter,[],0⟩,⟨tg2,iter2,ifs2,0⟩] scope pos) 0 (.ref it) (.ref d) (cxB X scope N' bk).env) (RR (.ref d) s3.heap.objs.size) s4:=by
  intro s4 J4 st4 pl4
  refine loop_outer (hs2 bk) (fun n s'=>∃ i acc its H' σ',Inv (cxB X scope N' bk) [] σ' H' s'/\Kp fr (inSt fr σ) σ'/\tn i s'.heap/\(∀ b∈fp,H' b=none)/\H' d=none/\s'.heap.PlainList d (List.toArray its)/\Vals acc its/\W i n acc H') ?_ m0
   ⟨0,[],[],H2,inSt fr σ,J4,Kp.refl _ _,st4,fun b hb=>(f2 b hb).1,fd.1,pl4,.nil,w0⟩
  rintro n s5 ⟨i,acc,its,H5,σ5,J5,kp5,st5,fr5,hd5,⟨n5,pl5⟩,va5,w5⟩
  obtain⟨hz,cs⟩:=turn i n acc H5 w5
  have J5p:Inv (cxB X scope N' bk) [(d,{ cls:=.type "list",data:=.seq its.toArray n5 })] σ5 H5 s5:=J5.pins_of fun p hp=>by
   have:p=(d,{ cls:=.type "list",data:=.seq its.toArray n5 }):=by simpa using hp
   subst this
   exact⟨pl5,hd5,dC,dS,fun v z=>by cases z⟩
  rcases cs with⟨stop,q⟩ | ⟨go,N,hN,step⟩
  ·refine never (thn (T.done (cxB X scope N' bk) rfl rfl rfl hc i _ s5 σ5 H5 _ J5p (fpk fr5) st5 stop) fun r s6 ⟨hr,J6⟩=>?_)
   subst hr
   obtain⟨e6,n6,_⟩:=J6.pin (d,{ cls:=.type "list",data:=.seq its.toArray n5 }) (yaR _ (by simp))
   have I6:Inv X pins σ H5 s6:=I3.leave (fun b hb=>(hex b hb).1) J6
   have I6t:Inv X pins σ (upd H5 d (.lst acc)) s6:=I6.track ⟨hd5,fd.2⟩ (.inr hd0) hd0 ⟨by omega,its,n5,va5,e6⟩
   obtain⟨m6,hn6,_⟩:=J6.loc
   refine hRR d s3.heap.objs.size (.ref d) _ s6 m6 I6t rfl (q d hd5) hn6 ?_ hCd
   exact I3.fpOk (Nat.le_refl _) (by rw [upd_ne hCd];exact J6.free)
  ·refine never (thn (T.item (cxB X scope N' bk) rfl rfl rfl hc i _ s5 σ5 H5 _ J5p (fpk fr5) st5 go) fun r s6 ⟨u,hr,h6⟩=>?_)
   subst hr
   refine never (thn h6 fun _ s7 ⟨x,H7,J7,r7,y7,st7,fr7⟩=>?_)
   have J7w:Inv (cxB X scope N' bk) [(d,{ cls:=.type "list",data:=.seq its.toArray n5 })] (inSt fr σ) H7 s7:=J7.weak kp5.1.symm (weak_of kp5)
   have J7p:=J7w.pinned (fpk fr7) (T.obj _ _ st7)
   have G:=hgk x (inSt fr σ) H7 _ (fun σ2 H2=>(wi2 σ2 H2 fun J2 H3=>zjn J2 (inSt fr2 σ2) g2 tc2 te acc H3 N)/\Kp fr (inSt fr σ) σ2) (fun σ' H' a b=>⟨a,b⟩) (step x H7 y7)
   refine never (thn (hg bk _ s7 (inSt fr σ) H7 x u _ J7p r7 G) fun _ s8 ⟨σ8,H8,J8,q8,kp8⟩=>?_)
   refine never (thn (hi2 bk _ s8 σ8 H8 _ J8 q8) fun v9 s9 h9=>thn h9 fun j s10 h10=>?_)
   obtain⟨it2,fp2,tn2,J2,H10,rfl,J10,T2,st10,f10,W2,⟨m2,w2⟩,turn2⟩:=h10
   have keep1:∀ {pp:List (Addr×Obj)} {σx:St} {Hx:Hp} {sx:Shared},(∀ p∈zsb fp s7.heap,p∈pp)->Inv (cxB X scope N' bk) pp σx Hx sx->(∀ b∈fp,∀ o,s7.heap.get? b=some o->sx.heap.get? b=some o)/\(∀ b∈fp,Hx b=none):=fun {pp σx Hx sx} hpp Jx=>by
    refine⟨fun b hb o e=>(Jx.pin (b,o) (yaR _ (hpp _ (znb hb e)))).1,fun b hb=>?_⟩
    obtain⟨o,e,_⟩:=T.obj _ _ st7 b hb
    exact (Jx.pin (b,o) (yaR _ (hpp _ (znb hb e)))).2.1
   have ne2:∀ b∈fp2,b≠d:=fun b hb z=>(f10 b hb).2.2.2.2.2 (d,{ cls:=.type "list",data:=.seq its.toArray n5 }) (yaR _ (yaL _ (by simp))) z.symm
   have fpk2:∀ {Hx:Hp} {o:Obj},(∀ b∈fp2,Hx b=none)->∀ b∈fp2,FpOk (cxB X scope N' bk) ([(d,o)]++zsb fp s7.heap) Hx b:=fun {Hx o} hn b hb=>by
    obtain⟨_,k1,k2,k3,k4,k5⟩:=f10 b hb
    refine⟨hn b hb,k1,k2,k3,k4,fun p hp=>?_⟩
    rcases yaM hp with z | z
    ·exact k5 p (yaL _ z)
    ·rcases yaM z with z | z
     ·have:p=(d,o):=by simpa using z
      rw [this]
      exact (ne2 b hb).symm
     ·exact k5 p (yaR _ (yaR _ z))
   obtain⟨e10,hd10,_⟩:=J10.pin (d,{ cls:=.type "list",data:=.seq its.toArray n5 }) (yaR _ (yaL _ (by simp)))
   have J10w:Inv (cxB X scope N' bk) (zsb fp s7.heap) (inSt fr2 σ8) H10 s10:=by
    have J10p:Inv (cxB X scope N' bk) (zsb fp s7.heap) σ8 H10 s10:=J10.pins_of fun p hp=>J10.pin p (yaR _ (yaR _ hp))
    refine J10p.weak ?_ fun k v e=>?_
    ·rw [zgc,kp8.1,zgc]
     unfold sub2 at hsub
     rw [Bool.and_eq_true] at hsub
     have h1:=hsub.1
     simpa using h1
    ·unfold inSt at e
     rw [List.getElem?_map] at e
     cases q:fr2[k]? with
     | none=>rw [q] at e;cases e
     | some o=>
      rw [q] at e
      cases o with
      | none=>simp at e
      | some j=>
       have hk:k<fr.length:=by
        unfold sub2 at hsub
        rw [Bool.and_eq_true] at hsub
        have h1:fr2.length=fr.length:=by simpa using hsub.1
        have:=(List.getElem?_eq_some_iff.mp q).1
        omega
       have hj:j=k:=by
        unfold sub2 at hsub
        rw [Bool.and_eq_true] at hsub
        have h3:=List.all_eq_true.mp hsub.2 k (List.mem_range.mpr hk)
        rw [q] at h3
        simp at h3
        exact h3
       subst hj
       have e' : σ8.getD j none=some v:=by simpa using e
       rw [List.getD_eq_getElem?_getD] at e'
       cases q2 : σ8[j]? with
       | none=>rw [q2] at e';cases e'
       | some y=>rw [q2] at e';simp at e';rw [e']
   have inner:∀ s11:Shared,s11=s10->codeAny (model X.prog X.w) X.A (.compLoop (.ListComp elt [⟨tg,iter,[],0⟩,⟨tg2,iter2,ifs2,0⟩] scope pos) 1 (.ref it2) (.ref d) (cxB X scope N' bk).env)
     (fun r s₅=>match r with | .ok _=>∃ m,m<n/\∃ i acc its H' σ',Inv (cxB X scope N' bk) [] σ' H' s₅/\Kp fr (inSt fr σ) σ'/\tn i s₅.heap/\(∀ b∈fp,H' b=none)/\H' d=none/\s₅.heap.PlainList d (List.toArray its)/\Vals acc its/\W i m acc H' | .error _=>False) s11:=by
    rintro s11 rfl
    refine loop_inner (fun n2 s'=>∃ i2 acc its H' σ',Inv (cxB X scope N' bk) (zsb fp s7.heap) σ' H' s'/\Kp fr2 (inSt fr2 σ8) σ'/\tn2 i2 s'.heap/\(∀ b∈fp2,H' b=none)/\H' d=none/\s'.heap.PlainList d (List.toArray its)/\Vals acc its/\W2 i2 n2 acc H') ?_ m2
     ⟨0,acc,its,H10,inSt fr2 σ8,J10w,Kp.refl _ _,st10,fun b hb=>(f10 b hb).1,hd10,⟨n5,e10⟩,va5,w2⟩
    rintro n' t5 ⟨i2,acc2,its2,K5,τ5,L5,kq5,ut5,gr5,he5,⟨n6,ql5⟩,vb5,x5⟩
    obtain⟨hz2,cs2⟩:=turn2 i2 n' acc2 K5 x5
    have L5p:Inv (cxB X scope N' bk) ([(d,{ cls:=.type "list",data:=.seq its2.toArray n6 })]++zsb fp s7.heap) τ5 K5 t5:=L5.pins_of fun p hp=>by
     rcases yaM hp with z | z
     ·have:p=(d,{ cls:=.type "list",data:=.seq its2.toArray n6 }):=by simpa using z
      subst this
      exact⟨ql5,he5,dC,dS,fun v z=>by cases z⟩
     ·exact L5.pin p (yaR _ z)
    rcases cs2 with⟨stop2,q2⟩ | ⟨go2,N2,hN2,step2⟩
    ·refine thn (T2.done (cxB X scope N' bk) rfl rfl rfl hc i2 _ t5 τ5 K5 _ L5p (fpk2 gr5) ut5 stop2) fun r t6 ⟨hr,L6⟩=>?_
     subst hr
     obtain⟨e6,n6',_⟩:=L6.pin (d,{ cls:=.type "list",data:=.seq its2.toArray n6 }) (yaR _ (yaL _ (by simp)))
     obtain⟨m',hm,w6⟩:=hN _ _ q2
     obtain⟨k1,k2⟩:=keep1 (fun p hp=>yaR _ hp) L6
     exact⟨m',hm,i+1,acc2,its2,K5,τ5,L6.pins_of (fun p hp=>by simp at hp),kp_sub hsub kp8 kq5,T.keep _ _ _ st7 k1,k2,n6',⟨n6,e6⟩,vb5,w6⟩
    ·refine thn (T2.item (cxB X scope N' bk) rfl rfl rfl hc i2 _ t5 τ5 K5 _ L5p (fpk2 gr5) ut5 go2) fun r t6 ⟨u2,hr,h6⟩=>?_
     subst hr
     refine thn h6 fun _ t7 ⟨x2,K7,L7,s7r,y72,ut7,gr7⟩=>?_
     have L7w:Inv (cxB X scope N' bk) ([(d,{ cls:=.type "list",data:=.seq its2.toArray n6 })]++zsb fp s7.heap) (inSt fr2 σ8) K7 t7:=L7.weak kq5.1.symm (weak_of kq5)
     have L7p:=L7w.pinned (fpk2 gr7) (T2.obj _ _ ut7)
     have G2:=hgk2 x2 (inSt fr2 σ8) K7 _ (fun σ3 H4=>(tc2 σ3 H4 fun b H5=>if b=true then te σ3 H5 fun v H6=>N2 (acc2++[v]) H6 else N2 acc2 H5)/\Kp fr2 (inSt fr2 σ8) σ3) (fun σ' H' a b=>⟨a,b⟩) (step2 x2 K7 y72)
     refine thn (hg2 bk _ t7 (inSt fr2 σ8) K7 x2 u2 _ L7p s7r G2) fun _ t8 ⟨τ8,K8,L8,q82,kq8⟩=>?_
     refine thn (ht bk _ t8 τ8 K8 _ L8 q82) fun ok t9 ⟨K9,L9,q9⟩=>?_
     have keepT:∀ {σx:St} {Hx:Hp} {sx:Shared},Inv (cxB X scope N' bk) (([(d,{ cls:=.type "list",data:=.seq its2.toArray n6 })]++zsb fp s7.heap)++zsb fp2 t7.heap) σx Hx sx->(∀ b∈fp2,∀ o,t7.heap.get? b=some o->sx.heap.get? b=some o)/\(∀ b∈fp2,Hx b=none)/\sx.heap.get? d=some { cls:=.type "list",data:=.seq its2.toArray n6 }/\Hx d=none:=fun {σx Hx sx} Jx=>by
      refine⟨fun b hb o e=>(Jx.pin (b,o) (yaR _ (yaR _ (znb hb e)))).1,fun b hb=>?_,?_⟩
      ·obtain⟨o,e,_⟩:=T2.obj _ _ ut7 b hb
       exact (Jx.pin (b,o) (yaR _ (yaR _ (znb hb e)))).2.1
      ·have:=Jx.pin (d,{ cls:=.type "list",data:=.seq its2.toArray n6 }) (yaR _ (yaL _ (yaL _ (by simp))))
       exact⟨this.1,this.2.1⟩
     have strip:∀ {σx:St} {Hx:Hp} {sx:Shared},Inv (cxB X scope N' bk) (([(d,{ cls:=.type "list",data:=.seq its2.toArray n6 })]++zsb fp s7.heap)++zsb fp2 t7.heap) σx Hx sx->Inv (cxB X scope N' bk) (zsb fp s7.heap) σx Hx sx:=fun Jx=>Jx.pins_of fun p hp=>Jx.pin p (yaR _ (yaL _ (yaR _ hp)))
     cases ok with
     | false=>
      rw [if_neg (by decide)] at q9 ⊢
      obtain⟨m',hm,w9⟩:=hN2 _ _ q9
      obtain⟨k1,k2,k3,k4⟩:=keepT L9
      exact⟨m',hm,i2+1,acc2,its2,K9,τ8,strip L9,kq8,T2.keep _ _ _ ut7 k1,k2,k4,⟨n6,k3⟩,vb5,w9⟩
     | true=>
      rw [if_pos rfl] at q9 ⊢
      refine thn (he bk _ t9 τ8 K9 _ L9 q9) fun y t10 ⟨v,K10,L10,r10,q10⟩=>?_
      obtain⟨m',hm,w10⟩:=hN2 _ _ q10
      obtain⟨k1,k2,k3,k4⟩:=keepT L10
      have hzs:its2.toArray.size<=sizeLine:=by rw [List.size_toArray,← vb5.length];omega
      refine wpAny_list_append_plain (hsz:=hzs) ⟨n6,k3⟩ fun h11 pl11 sb11=>?_
      have L11:Inv (cxB X scope N' bk) (zsb fp s7.heap) τ8 K10 { t10 with heap:=h11 }:=(strip L10).turned (it:=d) (t':=t10.toks) (fun b o hb e=>(sb11.2 b hb).trans e) k4 dC (.inl ymS) (fun x c e=>(J0'.ok.exf d ymS).2 x c e) fun p hp=>by
       have hp':p∈(X.pn++pins)++zsb fp s7.heap:=hp
       rcases yaM hp' with z | z
       ·exact (ne_pn p z).1
       ·exact ne_d p.1 (of_pinsAt z).1
      refine⟨m',hm,i2+1,acc2++[v],its2++[y],K10,τ8,L11,kq8,T2.keep _ _ _ ut7 (fun b hb o e=>(sb11.2 b (ne2 b hb)).trans (k1 b hb o e)),k2,k4,?_,vb5.append (.cons r10 .nil),w10⟩
      have:(its2++[y]).toArray=its2.toArray.push y:=by simp
      rw [this]
      exact pl11
   exact start_inner (inner s10 rfl) (T2.self X.A 0 _ _ _ st10 (inner s10 rfl))
 have st4:tn 0 h4:=T.keep _ _ _ st3' fun b _ o e=>hk b o e
 have pl4:h4.PlainList d #[]:=⟨0,hk d _ od3⟩
 have L4:=loop { s3 with heap:=h4 } J0' st4 pl4
 exact codeAny_compStart_list L4 (T.self X.A 0 _ _ _ st4 L4)
theorem pe_comp2 (hc:X.calm=true)(B:Blk X.env.scope scope X.N N' fr)(hsub:sub2 fr fr2=true)(hi:PI X tg iter wi)
  (hg:∀ b,PG (cxB X scope N' b) tg g) (hgk:GKeep fr g) (hi2:∀ b,PI (cxB X scope N' b) tg2 iter2 wi2) (hg2:∀ b,PG (cxB X scope N' b) tg2 g2) (hgk2:GKeep fr2 g2) (ht:∀ b,PTs (cxB X scope N' b) ifs2 tc2) (he:∀ b,PE (cxB X scope N' b) elt te)
  (hs:∀ x,foldedSetIterable iter X.env x=pure x:=by intro _;rfl) (hs2:∀ b x,foldedSetIterable iter2 (cxB X scope N' b).env x=pure x:=by intro _ _;rfl) :
  PE X (.ListComp elt [⟨tg,iter,[],0⟩,⟨tg2,iter2,ifs2,0⟩] scope pos) (tComp2 wi fr g wi2 fr2 g2 tc2 te):=by
 intro pins s σ H Q I h
 rw [eval_ListComp]
 refine wpAny_comprehension_free (use:=none) rfl hs (zxd (I.freeCells B)) B.kind B.locl (thn (hi pins s σ H _ I h) fun v s1 h1=>thn h1 fun itv s2 h2=>?_)
 refine comp_block2 (RR:=fun acc C=>compPost (model X.prog X.w) X.A X.xe none (EP X pins σ Q) acc C) hc B hsub hg hgk hi2 hg2 hgk2 ht he hs2 h2 ?_
 intro d C v H' s' m' I' hv q hn fC hCd
 refine⟨m',hn,fun h'' sb=>?_⟩
 obtain⟨c0,c1,c2,c3,c4,c5⟩:=fC
 exact⟨v,H',I'.turned (it:=C) (t':=s'.toks) (fun b o hb e=>(sb.2 b hb).trans e) c0 c1 c3 c4 c5,by rw [hv];rfl,q⟩
end
open PySem.AutoSeq1 (wpAny_loadPart')
section
variable  {prog:Program}{w:World}{A:Around}{E:Value->Shared->Prop}{ss:Shared}
theorem nx_tuple_item {jt tt:Addr}{k:Nat}{els:Array Value}{y:Value}{Q:Value->Shared->Prop}(qi:ss.heap.IsTupleIter jt tt k)(qt:ss.heap.IsTuple tt els)(qy:els[k]?=some y)
  (kk:∀ h1,h1.IsTupleIter jt tt (k+1)->Heap.SameBut jt ss.heap h1->Q y { ss with heap:=h1 }):wpAny (model prog w) A (Builtin.SmallTypes.nextOf (.ref jt)) Q E ss:=by
 obtain⟨qo,eo,ec,ed⟩:=id qi
 obtain⟨ql,el,_,nl,edl⟩:=qt
 unfold Builtin.SmallTypes.nextOf
 refine wpAny_bind (wpAny_callSpecial?_slot (name:=Str.ofString "__next__") qi.typeIs F.slot_tuple_iterator_next (wpAny_call_entry F.slot_tuple_iterator_next qi.typeIs F.entry_tuple_iterator_next ?_ (F.args_tuple_iterator_next_1 _)))
 show wpAny _ _ (field (.ref jt) 0 >>= _) _ _ ss
 refine wpAny_bind (wpAny_field eo ed (x:=.ref tt) rfl ?_)
 show wpAny _ _ (if (Value.ref tt == Value.none)=true then _ else _) _ _ ss
 rw [if_neg (show ¬ ((Value.ref tt == Value.none)=true) from Bool.false_ne_true)]
 show wpAny _ _ (field (.ref jt) 1 >>= _) _ _ ss
 refine wpAny_bind (wpAny_field eo ed (x:=.int k 0) rfl ?_)
 show wpAny _ _ (seqItems? (.ref tt) >>= _) _ _ ss
 refine wpAny_bind (wpAny_seqItems el edl ?_)
 simp only [Int.toNat_natCast,qy]
 refine wpAny_bind (wpAny_setField eo ed (by simp) (wpAny_pure ⟨y,rfl,wpAny_pure (kk _ ?_ (Heap.SameBut.update ..))⟩))
 exact⟨_,Heap.get?_update_self _ eo (Obj.isFreed_of_fields (Obj.data_mapFields ed _)),(Obj.cls_mapFields ..).trans ec,by rw [Obj.data_mapFields ed];simp [rawInt]⟩
theorem nx_tuple_end {jt tt:Addr}{k:Nat}{els:Array Value}{Q:Value->Shared->Prop}(hh:A.handled=none)(qi:ss.heap.IsTupleIter jt tt k)(qt:ss.heap.IsTuple tt els)(qy:els[k]?=none)
  (kk:∀ h1 e,Heap.ExtBut jt ss.heap h1->(∃ o,h1.get? e=some o/\o.cls = .type "StopIteration")->E (.ref e) { ss with heap:=h1 }):wpAny (model prog w) A (Builtin.SmallTypes.nextOf (.ref jt)) Q E ss:=by
 obtain⟨qo,eo,ec,ed⟩:=id qi
 obtain⟨ql,el,_,nl,edl⟩:=qt
 unfold Builtin.SmallTypes.nextOf
 refine wpAny_bind (wpAny_callSpecial?_slot (name:=Str.ofString "__next__") qi.typeIs F.slot_tuple_iterator_next (wpAny_call_entry F.slot_tuple_iterator_next qi.typeIs F.entry_tuple_iterator_next ?_ (F.args_tuple_iterator_next_1 _)))
 show wpAny _ _ (field (.ref jt) 0 >>= _) _ _ ss
 refine wpAny_bind (wpAny_field eo ed (x:=.ref tt) rfl ?_)
 show wpAny _ _ (if (Value.ref tt == Value.none)=true then _ else _) _ _ ss
 rw [if_neg (show ¬ ((Value.ref tt == Value.none)=true) from Bool.false_ne_true)]
 show wpAny _ _ (field (.ref jt) 1 >>= _) _ _ ss
 refine wpAny_bind (wpAny_field eo ed (x:=.int k 0) rfl ?_)
 show wpAny _ _ (seqItems? (.ref tt) >>= _) _ _ ss
 refine wpAny_bind (wpAny_seqItems el edl ?_)
 simp only [Int.toNat_natCast,qy]
 refine wpAny_bind (wpAny_rule (wpAny_bind (wpAny_setField eo ed (by simp) ?_)))
 show wpAny _ _ (newExc (.type "StopIteration") ([]:List Value) >>= _) _ _ _
 refine wpAny_bind ?_
 simp only [newExc,newTuple]
 refine wpAny_bind (wpAny_newObj_type ?_ (by size_fits))
 refine wpAny_bind (m:=firstArgMember _ _) (wpAny_of_eq (a:=Value.none) (by first | rfl | (simp only [firstArgMember];rfl;done)) ?_)
 refine wpAny_newObj_type ?_ (by size_fits)
 simp only [raiseNew]
 refine wpAny_bind (wpAny_handled ?_)
 first | rw [show A.in1.handled=none from hh] | rw [id hh]
 refine wpAny_bind (wpAny_pure (wpAny_throw ?_))
 exact kk _ _ (((Heap.SameBut.update ..).extBut.push _).push _) ⟨_,Heap.get?_push_size _ rfl,rfl⟩
theorem draws_tuple (hh:A.handled=none)(jt tt:Addr)(ne:tt≠jt)(els:Array Value):Draws prog w A jt [jt,tt] els.size (fun k v=>els[k]?=some v) (fun k h=>h.IsTupleIter jt tt k/\h.IsTuple tt els) where
 live:=fun _ _ st=>let ⟨o,ho,_⟩:=st.1;⟨o,ho⟩
 frame:=fun _ _ _ st hk=>⟨st.1.at fun o e=>hk jt (by simp) o e,let ⟨o,ho,r⟩:=st.2;⟨o,hk tt (by simp) o ho,r⟩⟩
 item:=fun k s Q E hi st kk=>nx_tuple_item st.1 st.2 (y:=els[k]) (by simp [hi]) fun h1 i1 s1=>kk _ h1 s.toks (by simp [hi]) ⟨i1,st.2.extBut s1.extBut ne⟩ s1
 done:=fun s Q E st kk=>nx_tuple_end hh st.1 st.2 (by simp) kk
theorem meets_enum_tuple (l:Addr)(els:Array Value)(n:Nat)(dct:Option Addr)(sl:Array (Option Value)) :
  Meets (Builtin.«enumerate.__new__» ⟨[.type "enumerate",.ref l],[]⟩) (fun _ R s=>s.heap.get? l=some { cls:=.type "tuple",dict:=dct,data:=.seq els n,slots:=sl } ∧
   R (.ok (.ret (.ref (s.heap.push { cls:=.type "tuple_iterator",data:=.fields #[.ref l,.int 0 0] }).objs.size)))
    { s with heap:=(s.heap.push { cls:=.type "tuple_iterator",data:=.fields #[.ref l,.int 0 0] }).push { cls:=.type "enumerate",data:=.fields #[.none,.bool false,.ref s.heap.objs.size,rawInt 0,.none,.none] } }):=
 .of_wp fun pr ww AA RR sh hyp=>by
  obtain⟨hp,g,d,tk,os⟩:=sh;obtain⟨hl,hyp⟩:=hyp
  have hsubE:=sub_enumerate
  have hT:Heap.IsTuple (Shared.heap ⟨hp,g,d,tk,os⟩) l els:=⟨_,hl,rfl,n,rfl⟩
  wp_walk using wpAny_loadPart' hl
  refine wpAny_stack_any fun st0=>wpAny_pure ?_
  split
  ·rename_i c0 _ _ _ _ _
   cases (c0 == Value.type "enumerate")
   ·wp_walk using wpAny_loadPart' hl,wpAny_pyIter_tuple hT
    exact⟨_,rfl,hyp⟩
   ·wp_walk using wpAny_loadPart' hl,wpAny_pyIter_tuple hT
    exact⟨_,rfl,hyp⟩
  ·wp_walk using wpAny_loadPart' hl,wpAny_pyIter_tuple hT
   exact⟨_,rfl,hyp⟩
theorem call_enum_tuple {l:Addr}{els:Array Value}{Q:Value->Shared->Prop}(hL:ss.heap.IsTuple l els)
  (kk:∀ h1,IsEnum h1 (ss.heap.objs.size+1) ss.heap.objs.size 0 .none->h1.IsTupleIter ss.heap.objs.size l 0->h1.objs.size=ss.heap.objs.size+2->(∀ b o,ss.heap.get? b=some o->h1.get? b=some o)->Q (.ref (ss.heap.objs.size+1)) { ss with heap:=h1 }) :
  wpAny (model prog w) A (call (.type "enumerate") [.ref l]) Q E ss:=by
 obtain⟨⟨c0,dct,dt,sl⟩,hl,hc0,n,hd0⟩:=hL
 replace hc0:c0 = .type "tuple" :=hc0
 replace hd0:dt = .seq els n:=hd0
 subst hc0 hd0
 refine callType_new F.called_enumerate (by decide) (F.typeCall_enumerate_1 _) (F.newCall_enumerate_1 _) (fun obj=>F.args_object_init_2 obj _) F.entry_enumerate_new (meets_enum_tuple l els n dct sl) ⟨hl,?_⟩
 have hz0:(ss.heap.push { cls:=.type "tuple_iterator",data:=.fields #[.ref l,.int 0 0] }).objs.size=ss.heap.objs.size+1:=Heap.size_push ..
 show _/\_
 rw [hz0]
 have he0:IsEnum ((ss.heap.push { cls:=.type "tuple_iterator",data:=.fields #[.ref l,.int 0 0] }).push { cls:=.type "enumerate",data:=.fields #[.none,.bool false,.ref ss.heap.objs.size,rawInt 0,.none,.none] }) (ss.heap.objs.size+1) ss.heap.objs.size 0 .none:=by
  have h9:=Heap.get?_push_size (ss.heap.push { cls:=.type "tuple_iterator",data:=.fields #[.ref l,.int 0 0] }) (o:={ cls:=.type "enumerate",data:=.fields #[.none,.bool false,.ref ss.heap.objs.size,rawInt 0,.none,.none] }) rfl
  rw [hz0] at h9;exact h9
 exact⟨⟨_,he0,rfl⟩,kk _ he0 ⟨_,Heap.get?_push_of_some _ (Heap.get?_push_size _ rfl),rfl,rfl⟩ (by rw [Heap.size_push,hz0]) fun b o x=>Heap.get?_push_of_some _ (Heap.get?_push_of_some _ x)⟩
end
theorem Inv.turned2 {X:Cx}{pins:List (Addr×Obj)}{σ:St}{H:Hp}{s:Shared}{h':Heap}{t':Nat}{i1 i2:Addr}(I:Inv X pins σ H s)(k:∀ b o,b≠i1->b≠i2->s.heap.get? b=some o->h'.get? b=some o)(f1:FpOk X pins H i1)(f2:FpOk X pins H i2):Inv X pins σ H { s with heap:=h',toks:=t' }:=by
 have nit:∀ b u,H b=some u->b≠i1/\b≠i2:=fun b u e=>⟨fun z=>(by rw [z,f1.1] at e;cases e),fun z=>(by rw [z,f2.1] at e;cases e)⟩
 refine I.step (g':=s.gens) (d':=s.drawn) (ch:=[i1,i2]) (fun b hb=>?_) (fun b o _ _ hc e _=>k b o (fun z=>hc (by simp [z])) (fun z=>hc (by simp [z])) e) (fun b o _ _ hc e _=>⟨o.slots,k b o (fun z=>hc (by simp [z])) (fun z=>hc (by simp [z])) e⟩) (fun _ _ _ _ n=>n)
  (fun b o hc e=>⟨o,k b o (fun z=>hc (by simp [z])) (fun z=>hc (by simp [z])) e⟩) (fun _ _ e=>e) (fun _ _ _ e=>e) (fun b ps e=>⟨#[],by rw [e];simp⟩) (fun m hm=>?_) (fun b u e=>?_) I.bare
 ·have e:b=i1 ∨ b=i2:=by simpa using hb
  rcases e with e | e
  ·subst e
   obtain⟨_,hL,_,h1,h2,h3⟩:=f1
   exact⟨h1,hL,h2,h3⟩
  ·subst e
   obtain⟨_,hL,_,h1,h2,h3⟩:=f2
   exact⟨h1,hL,h2,h3⟩
 ·obtain⟨o,es,ep,ho,r⟩:=hm
  exact⟨o,es,ep,k _ o (Ne.symm f1.2.1) (Ne.symm f2.2.1) ho,r⟩
 ·refine (I.hok b u e).stay (fun c v hc q=>k c v ?_ ?_ q) (fun _ q=>q) fun _ _ q=>q
  ·rcases hc with z | z
   ·rw [z];exact (nit b u e).1
   ·exact (nit c _ z).1
  ·rcases hc with z | z
   ·rw [z];exact (nit b u e).2
   ·exact (nit c _ z).2
theorem en_end {prog:Program}{w:World}{A:Around}{E:Value->Shared->Prop}{ss:Shared}{e jt:Addr}{i:Int}{old:Value}{Q:Option Value->Shared->Prop}
  (D:∀ (Q:Value->Shared->Prop) (E:Value->Shared->Prop),(∀ h1 x,Heap.ExtBut jt ss.heap h1->(∃ o,h1.get? x=some o/\o.cls = .type "StopIteration")->E (.ref x) { ss with heap:=h1 })->wpAny (model prog w) A.in1 (Builtin.SmallTypes.nextOf (.ref jt)) Q E ss)
  (he:IsEnum ss.heap e jt i old) (kk:∀ h1,Heap.ExtBut jt ss.heap h1->Q none { ss with heap:=h1 }):wpAny (model prog w) A (pyNext (.ref e)) Q E ss:=by
 have hT:ss.TypeIs (.ref e) "enumerate" :=⟨_,he,rfl⟩
 unfold pyNext
 refine wpAny_bind (wpAny_attempt (wpAny_callSpecial?_slot (name:=Str.ofString "__next__") hT F.slot_enumerate_next (wpAny_call_entry F.slot_enumerate_next hT F.entry_enumerate_next ?_ (F.args_enumerate_next_1 _))))
 show wpAny _ _ (field (.ref e) 2 >>= _) _ _ _
 refine wpAny_bind (wpAny_field he rfl (x:=.ref jt) rfl ?_)
 refine wpAny_bind (D _ _ fun h1 x he1 hx1=>?_)
 obtain⟨o,ho,hc⟩:=hx1
 refine wpAny_bind (wpAny_isInstance (T:="StopIteration") (b:=true) ⟨o,ho,hc⟩ isSubtype_stop ?_)
 exact wpAny_pure (kk _ he1)
theorem draws_end {prog:Program}{w:World}{A:Around}{ss:Shared}{jt tt:Addr}{k:Nat}{els:Array Value}(hh:A.handled=none)(qi:ss.heap.IsTupleIter jt tt k)(qt:ss.heap.IsTuple tt els)(qy:els[k]?=none) :
  ∀ (Q:Value->Shared->Prop) (E:Value->Shared->Prop),(∀ h1 x,Heap.ExtBut jt ss.heap h1->(∃ o,h1.get? x=some o/\o.cls = .type "StopIteration")->E (.ref x) { ss with heap:=h1 })->wpAny (model prog w) A.in1 (Builtin.SmallTypes.nextOf (.ref jt)) Q E ss:=fun Q E kk=>nx_tuple_end hh qi qt qy kk
noncomputable def Ite (K:yF) (a:Addr):It:=
 ⟨fun i H=>∃ xs x,SqT K H a xs/\xs[i]?=some x,fun i H y H'=>∃ p x,H p=none/\y = .ref p/\H'=upd H p (.tup [.int i,x])/\∀ xs,SqT K H a xs->xs[i]?=some x,fun i H=>∃ xs,SqT K H a xs/\xs.length<=i⟩
theorem turn_enum {P:Program}{w:World}{K:yF}{elts:List Expr}{k0:Nat}{pos:Pos}(a it e:Addr)(hei:e≠it) :
  Turn P w K (.Tuple elts k0 pos) (Ite K a) [e,it] e (fun i h=>(∃ old,IsEnum h e it ((i:Nat):Int) old)/\h.IsTupleIter it a i) where
 mem:=by simp
 obj:=fun i h st b hb=>by
  rcases ycM hb with z | z
  ·subst z
   obtain⟨old,e1⟩:=st.1
   exact⟨_,e1,fun v z=>by cases z⟩
  ·have z':b=it:=by simpa using z
   subst z'
   obtain⟨o,e,c,d⟩:=st.2
   exact⟨o,e,fun v z=>by rw [d] at z;cases z⟩
 keep:=fun i h h' st k=>⟨let ⟨old,e1⟩:=st.1;⟨old,k e (by simp) _ e1⟩,st.2.at fun o e=>k it (by simp) o e⟩
 item:=by
  intro X hP hw hK hc i pins s σ H E I hf st hg
  subst hP hw hK
  obtain⟨xs,x,hq,hx⟩:=hg
  obtain⟨its,rv,p,hz⟩:=I.tuple hq
  obtain⟨u,hu,ru⟩:=rv.get hx
  obtain⟨f0,f1,f2,f3,f4,f5⟩:=hf it (by simp)
  obtain⟨e0,e1,e2,e3,e4,e5⟩:=hf e (by simp)
  obtain⟨⟨old,he⟩,hit⟩:=st
  have hT:s.heap.IsTuple a its.toArray:=p
  have nai:a≠it:=fun z=>by
   subst z
   obtain⟨o1,q1,q2,_⟩:=hT
   obtain⟨o2,q3,q4,_⟩:=hit
   rw [q1] at q3
   cases q3
   rw [q2] at q4
   exact absurd q4 (by decide +kernel)
  have nae:e≠a:=fun z=>by
   subst z
   obtain⟨o1,q1,q2,_⟩:=hT
   have q3:s.heap.get? e=_:=he
   rw [q1] at q3
   cases q3
   have q5:Value.type "enumerate" = Value.type "tuple" :=q2
   exact absurd q5 (by decide +kernel)
  have hn:i<its.toArray.size:=by
   rw [List.size_toArray]
   exact (List.getElem?_eq_some_iff.mp hu).1
  refine wpAny_pyNext_enum_itemD (draws_tuple (A:=X.A.in1) (I.ok.hd hc) it a nai its.toArray) he ⟨hit,hT⟩ hn hei (by simp [hei,nae]) fun x' h1 tk px ho st1 ht hz1 kk=>?_
  have ex:x'=u:=by
   have e1:its.toArray[i]?=some x':=px
   have e2:its.toArray[i]?=some u:=by simpa using hu
   rw [e1] at e2
   exact Option.some.inj e2
  subst ex
  refine⟨_,rfl,wpAny_letOwnedTupleGo_enum ho fun h2 he2 sb=>?_⟩
  have sb':Heap.SameBut e h1 h2:=sb
  have hel:e<s.heap.objs.size:=Heap.lt_size he
  have k2:∀ b o,b≠e->b≠it->s.heap.get? b=some o->h2.get? b=some o:=fun b o n1 n2 q=>(sb'.2 b n1).trans (kk b o n1 n2 q)
  have I1:Inv X pins σ H { s with heap:=h2,toks:=tk+1 }:=I.turned2 k2 (hf e (by simp)) (hf it (by simp))
  have fz:FpOk X pins H s.heap.objs.size:=I.fpOk (Nat.le_refl _) (I.hok.fresh (Nat.le_refl _))
  have hT2:h2.get? s.heap.objs.size=some { cls:=.type "tuple",data:=.seq #[.int i tk,x'] }:=(sb'.2 _ (Nat.ne_of_gt hel)).trans ht
  have I2:Inv X pins σ (upd H s.heap.objs.size (.tup [.int i,x])) { s with heap:=h2,toks:=tk+1 }:=I1.track fz (.inr I.sz) I.sz ⟨by show 2<=sizeLine;decide,[.int i tk,x'],.cons ⟨tk,rfl⟩ (.cons ru .nil),⟨_,hT2,rfl,_,rfl⟩⟩
  refine⟨.ref s.heap.objs.size,_,I2,rfl,⟨_,x,fz.1,rfl,rfl,fun ys hy=>by rw [I.tuple_inj hy hq];exact hx⟩,⟨⟨x',?_⟩,?_⟩,fun b hb=>?_⟩
  ·have e9:((i+1:Nat):Int)=(i:Int)+1:=by push_cast;rfl
   rw [e9]
   exact he2
  ·exact st1.1.extBut sb'.extBut (Ne.symm hei)
  ·have hbo:∃ o,s.heap.get? b=some o:=by
    rcases ycM hb with z | z
    ·subst z;exact⟨_,he⟩
    ·have z':b=it:=by simpa using z
     subst z'
     obtain⟨o,q,_⟩:=hit
     exact⟨o,q⟩
   obtain⟨o,q⟩:=hbo
   rw [upd_ne (Nat.ne_of_lt (Heap.lt_size q))]
   exact (hf b hb).1
 done:=by
  intro X hP hw hK hc i pins s σ H E I hf st hg
  subst hP hw hK
  obtain⟨xs,hq,hx⟩:=hg
  obtain⟨its,rv,p,hz⟩:=I.tuple hq
  obtain⟨f0,f1,f2,f3,f4,f5⟩:=hf it (by simp)
  have hl:=rv.length
  obtain⟨⟨old,he⟩,hit⟩:=st
  have hT:s.heap.IsTuple a its.toArray:=p
  have nai:a≠it:=fun z=>by
   subst z
   obtain⟨o1,q1,q2,_⟩:=hT
   obtain⟨o2,q3,q4,_⟩:=hit
   rw [q1] at q3
   cases q3
   rw [q2] at q4
   exact absurd q4 (by decide +kernel)
  refine en_end (draws_end (I.ok.hd hc) hit hT (by simp;omega)) he fun h1 eb=>⟨rfl,I.turned (t':=s.toks) (fun b o hb e=>eb b o hb e) f0 f1 f3 f4 f5⟩
 self:=fun _ _ _ _ _ st h=>by
  obtain⟨⟨old,he⟩,_⟩:=st
  exact wpAny_pyIter_enum he h
def zmn (K:yF)(ta:TA):TI:=fun σ H R=>ta σ H fun vs H1=>∃ a xs,vs = [.ref a]/\SqT K H1 a xs/\R (Ite K a) H1
theorem pi_enum {X:Cx}{a:Expr}{ta:TA}{elts:List Expr}{k0:Nat}{p pos pt:Pos}(hg:Gl X "enumerate")(hm:X.mg "enumerate" = none)(ha:PA X [a] ta)(hs:starEach [a] X.env = [(false,eval a X.env)]:=by rfl):PI X (.Tuple elts k0 pt) (.Call (.Name "enumerate" p) [a] [] pos) (zmn X.K ta):=by
 intro pins s σ H R I h
 refine Call_ (znk I hg hm boot_enumerate (PyProof.Rows.callWith_type1 (thn (ha pos pins s σ H _ I h) fun us s1 ⟨vs,H1,I1,r1,q1⟩=>?_) hs rfl))
 obtain⟨l,xs,e,hq,q⟩:=q1
 subst e
 obtain⟨u,rfl,ru⟩:=vals1 r1
 cases ru
 obtain⟨its,rv,p',hz⟩:=I1.tuple hq
 refine call_enum_tuple (show s1.heap.IsTuple l its.toArray from p') fun h1 he hit hsz kk=>?_
 refine wpAny_pyIter_enum he ?_
 refine⟨s1.heap.objs.size+1,[s1.heap.objs.size+1,s1.heap.objs.size],_,_,H1,rfl,I1.kept (t':=s1.toks) fun b o e=>kk b o e,turn_enum l s1.heap.objs.size _ (Nat.succ_ne_self _),⟨⟨_,he⟩,hit⟩,fun b hb=>?_,q⟩
 rcases ycM hb with z | z
 ·subst z
  exact I1.fpOk (Nat.le_succ _) (I1.hok.fresh (Nat.le_succ _))
 ·have z':b=s1.heap.objs.size:=by simpa using z
  subst z'
  exact I1.fpOk (Nat.le_refl _) (I1.hok.fresh (Nat.le_refl _))
theorem ieK {X:Cx}{K:yF}{a:Expr}{ta:TA}{elts:List Expr}{k0:Nat}{p pos pt:Pos}(h:X.K=K)(hg:Gl X "enumerate")(hm:X.mg "enumerate" = none)(ha:PA X [a] ta)(hs:starEach [a] X.env = [(false,eval a X.env)]:=by rfl):PI X (.Tuple elts k0 pt) (.Call (.Name "enumerate" p) [a] [] pos) (zmn K ta):=h ▸ pi_enum hg hm ha hs
def rIsB (neg:Bool):R2:=fun x y H Q=>∃ i j,x = .bl i/\y = .bl j/\Q (.bl (if neg then !decide (i=j) else decide (i=j))) H
theorem op_isnotB {X:Cx}:OpR X (compareOp .IsNot) (rIsB true):=by
 intro pins s σ H x y v u Q I rx ry h
 obtain⟨i,j,rfl,rfl,q⟩:=h
 cases rx
 cases ry
 cases i<;>cases j<;>exact wpAny_pure (zla I q rfl)
def zml:V->List V->Hp->VK->Prop:=fun x vs H Q=>∃ l xs i y,x = .ref l/\vs = [.int i,y]/\H l=some (.lst xs)/\0<=i/\i<=xs.length/\xs.length<sizeLine/\Q .non (upd H l (.lst (xs.take i.toNat++y::xs.drop i.toNat)))
theorem mt_insert {X:Cx}:MtM X "list.insert" zml:=by
 intro pins s σ H x vs v us Q I rx rv h
 obtain⟨l,xs,i,y,rfl,rfl,hH,hi0,hi,hz0,q⟩:=h
 cases rx
 obtain⟨u1,u2,rfl,ru,ry⟩:=vals2 rv
 obtain⟨t,rfl⟩:=ru
 obtain⟨z,its,n,r,hl,e⟩:=I.lstM hH
 have h63:i<2 ^ 63:=by rw [sizeLine_eq] at hz0;omega
 have h62 : -(2 ^ 63)<=i:=by omega
 have hfit:¬(!Builtin.List.listFitsIndex i)=true:=by rw [fitsIndex_both h62 h63];exact Bool.false_ne_true
 have hsz:its.toArray.size<=sizeLine:=by rw [List.size_toArray];omega
 refine call_meets F.slot_list_insert ⟨_,e,rfl⟩ F.entry_list_insert (F.args_list_insert_3 _ _ _) (PySem.AutoSeq1.list_insert_list_int_val_1 l _ n i t u2 hfit hsz) ⟨e,?_⟩
 refine⟨.non,_,I.lset (its':=its.take i.toNat++u2::its.drop i.toNat) hH e ?_ ((r.take i.toNat).append (.cons ry (r.drop i.toNat))) ?_,rfl,q⟩
 ·show (its.toArray.extract 0 (if i<0 then (i+(its.toArray.size:Int)).toNat else min i.toNat its.toArray.size)).push u2++its.toArray.extract (if i<0 then (i+(its.toArray.size:Int)).toNat else min i.toNat its.toArray.size)=(its.take i.toNat++u2::its.drop i.toNat).toArray
  have hm:min i.toNat its.toArray.size=i.toNat:=by rw [List.size_toArray];omega
  rw [if_neg (by omega),hm]
  simp
  rw [List.take_of_length_le (by rw [List.length_drop];exact Nat.le_refl _)]
 ·rw [List.length_append,List.length_take,List.length_cons,List.length_drop]
  omega
noncomputable def zqf:Expr->Bool
 | .Starred _ _=>true
 | _=>false
theorem zza {e:Expr}{es:List Expr}{env:Env}(h:zqf e=false):starEach (e::es) env=(false,eval e env)::starEach es env:=by
 cases e<;>first | rfl | cases h
noncomputable def zgb:List Expr->Bool
 | []=>true
 | e::es=>(!zqf e) && zgb es
theorem zrc {env:Env}{pos:Pos}:∀ {es:List Expr},zgb es=true->(backTo pos (starEach es env)).any (·.1)=false
 | [],_=>rfl
 | e::es,h=>by
  rw [zgb,Bool.and_eq_true] at h
  have h1:zqf e=false:=by simpa using h.1
  rw [zza h1]
  show (false || (backTo pos (starEach es env)).any (·.1))=false
  rw [zrc h.2];rfl
theorem noStars_all {env:Env}{pos:Pos}:∀ {es:List Expr},zgb es=true->(backTo pos (starEach es env)).all (fun x=>!x.1)=true
 | [],_=>rfl
 | e::es,h=>by
  rw [zgb,Bool.and_eq_true] at h
  have h1:zqf e=false:=by simpa using h.1
  rw [zza h1]
  show (!false && (backTo pos (starEach es env)).all (fun x=>!x.1))=true
  rw [noStars_all h.2];rfl
section
variable  {X:Cx}{K:yF}{e:Expr}{es:List Expr}{te:TE}{t:TA}{x:Str}{p pos:Pos}{k:Nat}{ps:List Str}{sp:Sp}
theorem pa_consF (ha:PE X e te)(hr:PA X es t)(hs:zqf e=false:=by rfl):PA X (e::es) (zfn te t):=pa_cons ha hr (zza hs)
theorem zrm (h:Has X.prog X.w X.K X.mg X.base k x ps sp)(hr:Room k X.A)(hg:Gl X x)(ha:PA X (e::es) t)(hn:zgb (e::es)=true:=by rfl)(hdb:(x == ("__debug__" : Str))=false:=by decide):PE X (.Call (.Name x p) (e::es) [] pos) (zul sp [] E0 t):=by
 rw [zgb,Bool.and_eq_true] at hn
 exact pe_fn h hr hg ha hdb (zza (by simpa using hn.1)) (zrc hn.2)
theorem pe_callBF {id:String}{r:List V->Hp->VK->Prop}(hc:CallR X (.builtin id) r)(hg:Gl X x)(hm:X.mg x=none)(hb:bootBuiltins x=some (.builtin id))(ha:PA X (e::es) t)(hn:zgb (e::es)=true:=by rfl)(hx:x≠("__name__" : Str):=by decide)(hdb:(x == ("__debug__" : Str))=false:=by decide):PE X (.Call (.Name x p) (e::es) [] pos) (tCB r t):=by
 rw [zgb,Bool.and_eq_true] at hn
 exact pe_callB hc hg hm hb ha hx hdb (zza (by simpa using hn.1)) (zrc hn.2)
theorem pe_callTyF {T:String}{r:List V->Hp->VK->Prop}(hc:CallR X (.type T) r)(hg:Gl X x)(hm:X.mg x=none)(hb:bootBuiltins x=some (.type T))(ha:PA X (e::es) t)(hn:zgb (e::es)=true:=by rfl)(hx:x≠("__name__" : Str):=by decide)(hdb:(x == ("__debug__" : Str))=false:=by decide):PE X (.Call (.Name x p) (e::es) [] pos) (tCB r t):=by
 rw [zgb,Bool.and_eq_true] at hn
 exact pe_callTy hc hg hm hb ha hx hdb (zza (by simpa using hn.1)) (zrc hn.2)
theorem bmKF {o:Expr}{to:TE}{name:Str}{apos cpos:Pos}{T id:String}{r:V->List V->Hp->VK->Prop}(h:X.K=K)(pa:PlainAttrs T)(slot:Slot T name id)(hty:typeOf (.builtin id)=pure (.type "method_descriptor"))(hm:MtR X id r)(ho:PE X o to)(ha:PA X (e::es) t)(hn:zgb (e::es)=true:=by rfl)(hlen:decide ((e::es).length<30)=true:=by rfl)
  (hbase:attributeBase o name X.env (eval o X.env)=eval o X.env:=by rfl) (hline:(apos.endLine == cpos.line)=true:=by rfl):PE X (.Call (.Attribute o name apos) (e::es) [] cpos) (tBM K T r to t):=by
 have hn':=hn
 rw [zgb,Bool.and_eq_true] at hn'
 refine bmK h pa slot hty hm ho ha hbase ?_ hline (zza (by simpa using hn'.1)) (zrc hn'.2)
 rw [noStars_all hn]
 have:=of_decide_eq_true hlen
 simp only [Bool.true_and,List.length_nil,Nat.add_zero,List.isEmpty_nil,if_true]
 rw [decide_eq_true this]
 rfl
end
section
variable  {X:Cx}
theorem Inv.lstR {pins:List (Addr×Obj)}{σ:St}{H:Hp}{s:Shared}{l:Addr}{xs:List V}(I:Inv X pins σ H s)(hH:Rd H l (.lst xs)):xs.length<=sizeLine/\∃ (its:List Value) (n:Nat),Vals xs its/\xs.length=its.length/\s.heap.get? l=some { cls:=.type "list",data:=.seq its.toArray n }:=by
 obtain⟨z,its,n,r,e⟩:=hH.ok I.hok
 exact⟨z,its,n,r,r.length,e⟩
def rCatR:R2:=fun x y H Q=>∃ l b xs zs,x = .ref l/\y = .ref b/\Rd H l (.lst xs)/\Rd H b (.lst zs)/\xs.length+zs.length<=sizeLine/\∀ p,H p=none->Q (.ref p) (upd H p (.lst (xs++zs)))
theorem op_catR:OpR X (binaryOp .Add) rCatR:=by
 intro pins s σ H x y v u Q I rx ry h
 obtain⟨l,b,xs,zs,rfl,rfl,hH,hB,hz,q⟩:=h
 cases rx
 cases ry
 obtain⟨z,its,n,r,hl,e⟩:=I.lstR hH
 obtain⟨z2,its2,n2,r2,hl2,e2⟩:=I.lstR hB
 refine PySem.P.add_list e e2 ?_ (by rw [List.size_toArray,List.size_toArray];omega)
 have ea:its.toArray++its2.toArray=(its++its2).toArray:=by simp
 rw [ea]
 exact⟨.ref _,_,I.lnew (t':=s.toks) (r.append r2) (by rw [List.length_append];omega),rfl,q _ I.fresh⟩
def rCatT0 (K:yF):R2:=fun x y H Q=>∃ a b ys,x = .ref a/\y = .ref b/\SqT K H a []/\SqT K H b ys/\Q (.ref b) H
theorem op_catT0:OpR X (binaryOp .Add) (rCatT0 X.K):=by
 intro pins s σ H x y v u Q I rx ry h
 obtain⟨a,b,ys,rfl,rfl,ha,hb,q⟩:=h
 cases rx
 cases ry
 obtain⟨its,r1,p1,_⟩:=I.tuple ha
 obtain⟨its2,r2,p2,_⟩:=I.tuple hb
 have hv:its = []:=r1.nil_iff.mpr rfl
 subst hv
 obtain⟨⟨cls,dd,data,sl⟩,ho,hc,n,hd⟩:=id p1
 obtain⟨⟨cls2,dd2,data2,sl2⟩,ho2,hc2,n2,hd2⟩:=id p2
 simp only at hc hd hc2 hd2
 subst hc hd hc2 hd2
 exact concat_meets ⟨_,ho,rfl⟩ ⟨_,ho2,rfl⟩ noFill_tuple_add seq_tuple_add PySem.F.slot_tuple_add PySem.F.entry_tuple_add (PySem.F.args_tuple_add_2 _ _)
   (tuple_addW0 a b #[] its2.toArray n n2 dd dd2 sl sl2 rfl) ⟨ho,ho2,⟨.ref b,H,I,rfl,q⟩⟩
def zrn (K:yF):R2:=fun x y H Q=>rAddX K x y H Q ∨ (rCatR x y H Q ∨ rCatT0 K x y H Q)
theorem op_addY:OpR X (binaryOp .Add) (zrn X.K):=op_addX.or (op_catR.or op_catT0)
def rRepR:R2:=fun x y H Q=>∃ l k xs,x = .ref l/\y = .int k/\Rd H l (.lst xs)/\-(2 ^ 63)<=k/\k<2 ^ 63/\xs.length * k.toNat<=sizeLine/\∀ p,H p=none->Q (.ref p) (upd H p (.lst (List.replicate k.toNat xs).flatten))
theorem op_repR:OpR X (binaryOp .Mult) rRepR:=by
 intro pins s σ H x y v u Q I rx ry h
 obtain⟨l,k,xs,rfl,rfl,hH,h1,h2,hz,q⟩:=h
 cases rx
 obtain⟨t,rfl⟩:=ry
 obtain⟨z,its,n,r,hl,e⟩:=I.lstR hH
 have hlen:its.toArray.size * k.toNat<=sizeLine:=by rw [List.size_toArray,← hl];exact hz
 have hcap:¬ its.toArray.size * k.toNat > (2 ^ 63 - 1) / 8:=by
  have:(sizeLine:Nat)<=(2 ^ 63 - 1) / 8:=by decide
  omega
 have hfit:¬ (!Builtin.List.listFitsIndex k)=true:=by
  rw [fitsIndex_both h1 h2]
  exact Bool.false_ne_true
 have hlong:¬ Builtin.List.listTooLong (its.toArray.size * k.toNat)=true:=by
  rw [zee hlen]
  exact Bool.false_ne_true
 have hnew:List.foldl (fun x1 x2=>x1++x2) #[] (List.replicate (if its.toArray.isEmpty=true then 0 else k.toNat) its.toArray)=(List.replicate k.toNat its).flatten.toArray:=by
  have f0:∀ m:Nat,List.foldl (fun x1 x2=>x1++x2) #[] (List.replicate m its.toArray)=(List.replicate m its).flatten.toArray:=fun m=>by
   have:=zse its m []
   rw [List.nil_append] at this
   exact this
  rw [f0]
  cases its with
  | nil=>simp
  | cons a r'=>rw [if_neg (by simp)]
 refine wpAny_binaryOp_repeat_ref (T:="list") (U:="int") (by decide) ⟨_,e,rfl⟩ (fun s'=>typeIs_int s' k t) noFill_list_mul F.fills_int_mul F.slot_int_rmul repeat_list F.slot_int_index.lookup
  (call_meets F.slot_int_rmul (typeIs_int s k t) F.entry_int_rmul (F.args_int_rmul_2 _ _) (int___rmul___int_list k t l its.toArray n)
   ⟨e,rfl,⟨_,e,rfl⟩,call_meets F.slot_list_mul ⟨_,e,rfl⟩ F.entry_list_mul (F.args_list_mul_2 _ _) (AutoListH.list___mul___list_int_3 l its.toArray n k t hfit hcap hlong) ⟨e,?_⟩⟩)
 rw [hnew]
 exact⟨.ref _,_,I.lnew (t':=s.toks) (r.rep k.toNat) (by rw [zgi,Nat.mul_comm];exact hz),rfl,q _ I.fresh⟩
def zun (K:yF):R2:=fun x y H Q=>rMulX K x y H Q ∨ rRepR x y H Q
theorem op_mulY:OpR X (binaryOp .Mult) (zun X.K):=op_mulX.or op_repR
def rExtendR:V->List V->Hp->VK->Prop:=fun x vs H Q=>∃ l b xs zs,x = .ref l/\vs = [.ref b]/\H l=some (.lst xs)/\Rd H b (.lst zs)/\xs.length+zs.length<=sizeLine/\Q .non (upd H l (.lst (xs++zs)))
theorem mt_extendR:MtM X "list.extend" rExtendR:=by
 intro pins s σ H x vs v us Q I rx rv h
 obtain⟨l,b,xs,zs,rfl,rfl,hH,hB,hz,q⟩:=h
 cases rx
 obtain⟨u,rfl,ru⟩:=rv.one
 cases ru
 obtain⟨z,its,n,r,hl,e⟩:=I.lstM hH
 obtain⟨z2,its2,n2,r2,hl2,e2⟩:=I.lstR hB
 have hsz:its.toArray.size+its2.toArray.size<=sizeLine:=by rw [List.size_toArray,List.size_toArray];omega
 have hlong:¬ (!its.toArray.isEmpty && Builtin.List.listTooLong (its.toArray.size+its2.toArray.size))=true:=by
  rw [zee hsz,Bool.and_false]
  exact Bool.false_ne_true
 refine call_meets F.slot_list_extend ⟨_,e,rfl⟩ F.entry_list_extend (F.args_list_extend_2 _ _)
  (AutoSeq1.list_extend_list_list_0 l its.toArray n b its2.toArray n2 hlong (by rw [List.size_toArray];omega) (by omega)) ⟨e,e2,?_⟩
 refine⟨.non,_,I.lset (its':=its++its2) hH e (by simp) (r.append r2) ?_,rfl,q⟩
 rw [List.length_append]
 omega
def zsn (K:yF):V->List V->Hp->VK->Prop:=fun x xs H Q=>rExtendR x xs H Q ∨ rExtendT K x xs H Q
theorem mt_extY:MtR X "list.extend" (zsn X.K):=MtR.or mt_extendR mt_extendT
end
inductive I where
 | non | bl (b:Bool) | int (i:Int) | str (x:Str) | tup (is:List I)
mutual
def I.beq:I->I->Bool
 | .non,.non=>true
 | .bl a,.bl b=>a == b
 | .int a,.int b=>decide (a=b)
 | .str a,.str b=>decide (a=b)
 | .tup a,.tup b=>I.beqs a b
 | _,_=>false
def I.beqs:List I->List I->Bool
 | [],[]=>true
 | a::as,b::bs=>I.beq a b && I.beqs as bs
 | _,_=>false
end
mutual
theorem I.beq_iff:∀ {a b:I},I.beq a b=true↔a=b
 | .non,b=>by cases b<;>simp [I.beq]
 | .bl x,b=>by cases b<;>simp [I.beq]
 | .int x,b=>by cases b<;>simp [I.beq]
 | .str x,b=>by cases b<;>simp [I.beq]
 | .tup x,b=>by
  cases b with
  | tup y=>rw [I.beq,I.beqs_iff,I.tup.injEq]
  | _=>simp [I.beq]
theorem I.beqs_iff:∀ {a b:List I},I.beqs a b=true↔a=b
 | [],b=>by cases b<;>simp [I.beqs]
 | x::xs,b=>by
  cases b with
  | nil=>simp [I.beqs]
  | cons y ys=>rw [I.beqs,Bool.and_eq_true,I.beq_iff,I.beqs_iff,List.cons.injEq]
end
instance:DecidableEq I:=fun a b=>decidable_of_iff (I.beq a b=true) I.beq_iff
inductive T where
 | im (i:I) | tup (ts:List T) | li (is:List I) | lst (ts:List T) | di (kvs:List (I×I)) | dc (kvs:List (I×T)) | ins (C:Addr) (fs:List (Str×T))
noncomputable def keyV:Key->I
 | .inl i=>.int i
 | .inr x=>.str x
def DAt (K:yF)(H:Hp)(a:Addr)(ks:List (I×V)):Prop:=∃ ys:List (Key×V),H a=some (.dK ys)/\ks=ys.map fun p=>(keyV p.1,p.2)
mutual
def RpI (K:yF)(H:Hp):I->V->Prop
 | .non,v=>v = .non
 | .bl b,v=>v = .bl b
 | .int i,v=>v = .int i
 | .str x,v=>v = .str x
 | .tup is,v=>∃ a xs,v = .ref a/\SqT K H a xs/\RpIs K H is xs
def RpIs (K:yF)(H:Hp):List I->List V->Prop
 | [],xs=>xs = []
 | t::ts,xs=>∃ x r,xs=x::r/\RpI K H t x/\RpIs K H ts r
end
mutual
def Rp (K:yF)(H:Hp):T->V->List Addr->Prop
 | .im i,v,F=>RpI K H i v/\F = []
 | .tup ts,v,F=>∃ a xs,v = .ref a/\SqT K H a xs/\Rps K H ts xs F
 | .li is,v,F=>∃ a xs,v = .ref a/\Rd H a (.lst xs)/\RpIs K H is xs/\F = [a]
 | .lst ts,v,F=>∃ a xs F',v = .ref a/\Rd H a (.lst xs)/\Rps K H ts xs F'/\F=a::F'
 | .di kvs,v,F=>∃ a ys,v = .ref a/\DAt K H a ys/\RpIs K H (kvs.map (·.2)) (ys.map (·.2))/\ys.map (·.1)=kvs.map (·.1)/\F = [a]
 | .dc kvs,v,F=>∃ a ys F',v = .ref a/\DAt K H a ys/\Rpk K H kvs ys F'/\F=a::F'
 | .ins C fs,v,F=>∃ a dx ys F',v = .ref a/\H a=some (.ins C dx ys)/\Rpf K H fs ys F'/\F=a::F'
def Rps (K:yF)(H:Hp):List T->List V->List Addr->Prop
 | [],xs,F=>xs = []/\F = []
 | t::ts,xs,F=>∃ x r F1 F2,xs=x::r/\Rp K H t x F1/\Rps K H ts r F2/\F=F1++F2
def Rpk (K:yF)(H:Hp):List (I×T)->List (I×V)->List Addr->Prop
 | [],xs,F=>xs = []/\F = []
 | (k,t)::ts,xs,F=>∃ x r F1 F2,xs=(k,x)::r/\Rp K H t x F1/\Rpk K H ts r F2/\F=F1++F2
def Rpf (K:yF)(H:Hp):List (Str×T)->List (Str×V)->List Addr->Prop
 | [],xs,F=>xs = []/\F = []
 | (k,t)::ts,xs,F=>∃ x r F1 F2,xs=(k,x)::r/\Rp K H t x F1/\Rpf K H ts r F2/\F=F1++F2
end
noncomputable def isMu:HO->Bool
 | .lst _=>true | .dK _=>true | .dT _=>true | .ins _ _ _=>true | .ext _=>true | _=>false
def Mu (H:Hp)(a:Addr):Prop:=∃ o,H a=some o/\isMu o=true
def OffM (M:List Addr)(H H':Hp):Prop:=∀ b o,H b=some o->b ∉ M->H' b=some o
theorem Same.offM {H H':Hp}(s:Same H H')(M:List Addr):OffM M H H':=fun b o h _=>s b o h
theorem OffM.refl (M:List Addr)(H:Hp):OffM M H H:=fun b o h _=>h
theorem OffM.mono {M M':List Addr}{H H1:Hp}(x:OffM M H H1)(y:∀ a∈M,a∈M'):OffM M' H H1:=fun b o h n=>x b o h fun z=>n (y b z)
theorem OffM.upd {H:Hp}{a:Addr}{o:HO}:OffM [a] H (upd H a o):=fun b u h n=>by rw [upd_ne (by simpa using n)];exact h
theorem OffM.rd {M:List Addr}{H H':Hp}{a:Addr}{o:HO}(x:OffM M H H')(n:a ∉ M)(h:Rd H a o):Rd H' a o:=by
 rcases h with h | ⟨u,h⟩
 ·exact .inl (x a _ h n)
 ·exact .inr ⟨u,x a _ h n⟩
theorem OffM.sqT {K:yF}{M:List Addr}{H H':Hp}{a:Addr}{xs:List V}(x:OffM M H H')(hM:∀ b∈M,Mu H b)(h:SqT K H a xs):SqT K H' a xs:=by
 rcases h with (h | ⟨u,h⟩) | h
 ·exact .inl (.inl (x a _ h fun z=>by obtain⟨o,e,m⟩:=hM a z;rw [h] at e;cases e;cases m))
 ·exact .inl (.inr ⟨u,x a _ h fun z=>by obtain⟨o,e,m⟩:=hM a z;rw [h] at e;cases e;cases m⟩)
 ·exact .inr h
theorem DAt.off {K:yF}{M:List Addr}{H H':Hp}{a:Addr}{ks:List (I×V)}(x:OffM M H H')(n:a ∉ M)(h:DAt K H a ks):DAt K H' a ks:=by
 obtain⟨ys,h1,h2⟩:=h
 exact⟨ys,x a _ h1 n,h2⟩
theorem DAt.dom {K:yF}{H:Hp}{a:Addr}{ks:List (I×V)}(h:DAt K H a ks):∃ o,H a=some o:=by
 obtain⟨ys,h1,h2⟩:=h
 exact⟨_,h1⟩
theorem Rd.dom {H:Hp}{a:Addr}{u:HO}(h:Rd H a u):∃ o,H a=some o:=by
 rcases h with h | ⟨o,h⟩
 ·exact⟨_,h⟩
 ·exact⟨_,h⟩
mutual
theorem RpI.off {K:yF}{M:List Addr}{H H':Hp}(x:OffM M H H')(hM:∀ b∈M,Mu H b):∀ {t:I} {v:V},RpI K H t v->RpI K H' t v
 | .non,_,h=>by rw [RpI] at h ⊢;exact h
 | .bl _,_,h=>by rw [RpI] at h ⊢;exact h
 | .int _,_,h=>by rw [RpI] at h ⊢;exact h
 | .str _,_,h=>by rw [RpI] at h ⊢;exact h
 | .tup ts,_,h=>by rw [RpI] at h ⊢;obtain⟨a,xs,h1,h2,h3⟩:=h;exact⟨a,xs,h1,x.sqT hM h2,RpIs.off x hM h3⟩
theorem RpIs.off {K:yF}{M:List Addr}{H H':Hp}(x:OffM M H H')(hM:∀ b∈M,Mu H b):∀ {ts:List I} {xs:List V},RpIs K H ts xs->RpIs K H' ts xs
 | [],_,h=>by rw [RpIs] at h ⊢;exact h
 | t::ts,_,h=>by
  rw [RpIs] at h ⊢;obtain⟨y,r,h1,h2,h3⟩:=h
  exact⟨y,r,h1,RpI.off x hM h2,RpIs.off x hM h3⟩
end
mutual
theorem Rp.off {K:yF}{M:List Addr}{H H':Hp}(x:OffM M H H')(hM:∀ b∈M,Mu H b):∀ {t:T} {v:V} {F:List Addr},(∀ a∈F,a ∉ M)->Rp K H t v F->Rp K H' t v F
 | .im _,_,_,_,h=>by rw [Rp] at h ⊢;exact⟨RpI.off x hM h.1,h.2⟩
 | .tup ts,_,_,n,h=>by rw [Rp] at h ⊢;obtain⟨a,xs,h1,h2,h3⟩:=h;exact⟨a,xs,h1,x.sqT hM h2,Rps.off x hM n h3⟩
 | .li ts,_,_,n,h=>by
  rw [Rp] at h ⊢;obtain⟨a,xs,h1,h2,h3,rfl⟩:=h
  exact⟨a,xs,h1,x.rd (n a ymS) h2,RpIs.off x hM h3,rfl⟩
 | .lst ts,_,_,n,h=>by
  rw [Rp] at h ⊢;obtain⟨a,xs,F',h1,h2,h3,rfl⟩:=h
  exact⟨a,xs,F',h1,x.rd (n a ymS) h2,Rps.off x hM (fun b hb=>n b (ymC _ hb)) h3,rfl⟩
 | .di kvs,_,_,n,h=>by
  rw [Rp] at h ⊢;obtain⟨a,xs,h1,h2,h3,h4,rfl⟩:=h
  exact⟨a,xs,h1,h2.off x (n a ymS),RpIs.off x hM h3,h4,rfl⟩
 | .dc kvs,_,_,n,h=>by
  rw [Rp] at h ⊢;obtain⟨a,xs,F',h1,h2,h3,rfl⟩:=h
  exact⟨a,xs,F',h1,h2.off x (n a ymS),Rpk.off x hM (fun b hb=>n b (ymC _ hb)) h3,rfl⟩
 | .ins C fs,_,_,n,h=>by
  rw [Rp] at h ⊢;obtain⟨a,dx,xs,F',h1,h2,h3,rfl⟩:=h
  exact⟨a,dx,xs,F',h1,x a _ h2 (n a ymS),Rpf.off x hM (fun b hb=>n b (ymC _ hb)) h3,rfl⟩
theorem Rps.off {K:yF}{M:List Addr}{H H':Hp}(x:OffM M H H')(hM:∀ b∈M,Mu H b):∀ {ts:List T} {xs:List V} {F:List Addr},(∀ a∈F,a ∉ M)->Rps K H ts xs F->Rps K H' ts xs F
 | [],_,_,_,h=>by rw [Rps] at h ⊢;exact h
 | t::ts,_,_,n,h=>by
  rw [Rps] at h ⊢;obtain⟨y,r,F1,F2,h1,h2,h3,rfl⟩:=h
  exact⟨y,r,F1,F2,h1,Rp.off x hM (fun b hb=>n b (yaL _ hb)) h2,Rps.off x hM (fun b hb=>n b (yaR _ hb)) h3,rfl⟩
theorem Rpk.off {K:yF}{M:List Addr}{H H':Hp}(x:OffM M H H')(hM:∀ b∈M,Mu H b):∀ {ts:List (I×T)} {xs:List (I×V)} {F:List Addr},(∀ a∈F,a ∉ M)->Rpk K H ts xs F->Rpk K H' ts xs F
 | [],_,_,_,h=>by rw [Rpk] at h ⊢;exact h
 | (k,t)::ts,_,_,n,h=>by
  rw [Rpk] at h ⊢;obtain⟨y,r,F1,F2,h1,h2,h3,rfl⟩:=h
  exact⟨y,r,F1,F2,h1,Rp.off x hM (fun b hb=>n b (yaL _ hb)) h2,Rpk.off x hM (fun b hb=>n b (yaR _ hb)) h3,rfl⟩
theorem Rpf.off {K:yF}{M:List Addr}{H H':Hp}(x:OffM M H H')(hM:∀ b∈M,Mu H b):∀ {ts:List (Str×T)} {xs:List (Str×V)} {F:List Addr},(∀ a∈F,a ∉ M)->Rpf K H ts xs F->Rpf K H' ts xs F
 | [],_,_,_,h=>by rw [Rpf] at h ⊢;exact h
 | (k,t)::ts,_,_,n,h=>by
  rw [Rpf] at h ⊢;obtain⟨y,r,F1,F2,h1,h2,h3,rfl⟩:=h
  exact⟨y,r,F1,F2,h1,Rp.off x hM (fun b hb=>n b (yaL _ hb)) h2,Rpf.off x hM (fun b hb=>n b (yaR _ hb)) h3,rfl⟩
end
theorem Rps.same {K:yF}{H H':Hp}(x:Same H H'){t:List T}{v:List V}{F:List Addr}(h:Rps K H t v F):Rps K H' t v F:=Rps.off (x.offM []) (by simp) (by simp) h
theorem RpIs.same {K:yF}{H H':Hp}(x:Same H H'){t:List I}{v:List V}(h:RpIs K H t v):RpIs K H' t v:=RpIs.off (x.offM []) (by simp) h
mutual
theorem Rp.dom {K:yF}{H:Hp}:∀ {t:T} {v:V} {F:List Addr},Rp K H t v F->∀ a∈F,∃ o,H a=some o
 | .im _,_,_,h=>by rw [Rp] at h;rw [h.2];simp
 | .tup ts,_,_,h=>by rw [Rp] at h;obtain⟨_,_,_,_,h⟩:=h;exact Rps.dom h
 | .li ts,_,_,h=>by
  rw [Rp] at h;obtain⟨a,xs,h1,h2,h3,rfl⟩:=h
  intro b hb
  rw [ysM hb];exact h2.dom
 | .lst ts,_,_,h=>by
  rw [Rp] at h;obtain⟨a,xs,F',h1,h2,h3,rfl⟩:=h
  intro b hb
  rcases ycM hb with rfl | hb
  ·exact h2.dom
  ·exact Rps.dom h3 b hb
 | .di ts,_,_,h=>by
  rw [Rp] at h;obtain⟨a,xs,h1,h2,h3,h4,rfl⟩:=h
  intro b hb
  rw [ysM hb];exact h2.dom
 | .dc ts,_,_,h=>by
  rw [Rp] at h;obtain⟨a,xs,F',h1,h2,h3,rfl⟩:=h
  intro b hb
  rcases ycM hb with rfl | hb
  ·exact h2.dom
  ·exact Rpk.dom h3 b hb
 | .ins C ts,_,_,h=>by
  rw [Rp] at h;obtain⟨a,dx,xs,F',h1,h2,h3,rfl⟩:=h
  intro b hb
  rcases ycM hb with rfl | hb
  ·exact⟨_,h2⟩
  ·exact Rpf.dom h3 b hb
theorem Rps.dom {K:yF}{H:Hp}:∀ {ts:List T} {xs:List V} {F:List Addr},Rps K H ts xs F->∀ a∈F,∃ o,H a=some o
 | [],_,_,h=>by rw [Rps] at h;rw [h.2];simp
 | t::ts,_,_,h=>by
  rw [Rps] at h;obtain⟨y,r,F1,F2,h1,h2,h3,rfl⟩:=h
  intro b hb
  rcases yaM hb with hb | hb
  ·exact Rp.dom h2 b hb
  ·exact Rps.dom h3 b hb
theorem Rpk.dom {K:yF}{H:Hp}:∀ {ts:List (I×T)} {xs:List (I×V)} {F:List Addr},Rpk K H ts xs F->∀ a∈F,∃ o,H a=some o
 | [],_,_,h=>by rw [Rpk] at h;rw [h.2];simp
 | (k,t)::ts,_,_,h=>by
  rw [Rpk] at h;obtain⟨y,r,F1,F2,h1,h2,h3,rfl⟩:=h
  intro b hb
  rcases yaM hb with hb | hb
  ·exact Rp.dom h2 b hb
  ·exact Rpk.dom h3 b hb
theorem Rpf.dom {K:yF}{H:Hp}:∀ {ts:List (Str×T)} {xs:List (Str×V)} {F:List Addr},Rpf K H ts xs F->∀ a∈F,∃ o,H a=some o
 | [],_,_,h=>by rw [Rpf] at h;rw [h.2];simp
 | (k,t)::ts,_,_,h=>by
  rw [Rpf] at h;obtain⟨y,r,F1,F2,h1,h2,h3,rfl⟩:=h
  intro b hb
  rcases yaM hb with hb | hb
  ·exact Rp.dom h2 b hb
  ·exact Rpf.dom h3 b hb
end
theorem RpIs.nil {K:yF}{H:Hp}:RpIs K H [] []:=by rw [RpIs]
theorem RpIs.cons {K:yF}{H:Hp}{t:I}{ts:List I}{x:V}{xs:List V}(h:RpI K H t x)(hs:RpIs K H ts xs):RpIs K H (t::ts) (x::xs):=by rw [RpIs];exact⟨x,xs,rfl,h,hs⟩
theorem RpIs.cons_inv {K:yF}{H:Hp}{t:I}{ts:List I}{xs:List V}(h:RpIs K H (t::ts) xs):∃ x r,xs=x::r/\RpI K H t x/\RpIs K H ts r:=by rw [RpIs] at h;exact h
theorem RpIs.nil_inv {K:yF}{H:Hp}{xs:List V}(h:RpIs K H [] xs):xs = []:=by rw [RpIs] at h;exact h
theorem RpIs.length {K:yF}{H:Hp}:∀ {ts:List I} {xs:List V},RpIs K H ts xs->xs.length=ts.length
 | [],xs,h=>by rw [h.nil_inv];rfl
 | d::ds,xs,h=>by obtain⟨x,r,rfl,_,h3⟩:=h.cons_inv;rw [List.length_cons,List.length_cons,h3.length]
theorem RpIs.get {K:yF}{H:Hp}:∀ {ts:List I} {xs:List V} {i:Nat} {t:I},RpIs K H ts xs->ts[i]?=some t->∃ x,xs[i]?=some x/\RpI K H t x
 | [],_,_,_,_,e=>by simp at e
 | d::ds,xs,0,d',h,e=>by
  obtain⟨x,r,rfl,h2,h3⟩:=h.cons_inv
  simp at e;subst e
  exact⟨x,rfl,h2⟩
 | d::ds,xs,i+1,d',h,e=>by
  obtain⟨x,r,rfl,h2,h3⟩:=h.cons_inv
  obtain⟨y,h4,h5⟩:=RpIs.get (i:=i) h3 (by simpa using e)
  exact⟨y,by simpa using h4,h5⟩
theorem RpIs.append {K:yF}{H:Hp}:∀ {ds es:List I} {xs ys:List V},RpIs K H ds xs->RpIs K H es ys->RpIs K H (ds++es) (xs++ys)
 | [],es,xs,ys,h,h'=>by obtain rfl:=h.nil_inv;exact h'
 | d::ds,es,xs,ys,h,h'=>by
  obtain⟨x,r,rfl,h2,h3⟩:=h.cons_inv
  exact RpIs.cons h2 (RpIs.append h3 h')
theorem RpIs.take {K:yF}{H:Hp}:∀ {ds:List I} {xs:List V} (n:Nat),RpIs K H ds xs->RpIs K H (ds.take n) (xs.take n)
 | ds,xs,0,h=>by simp only [List.take_zero];exact RpIs.nil
 | [],xs,n+1,h=>by obtain rfl:=h.nil_inv;exact RpIs.nil
 | d::ds,xs,n+1,h=>by
  obtain⟨x,r,rfl,h2,h3⟩:=h.cons_inv
  exact RpIs.cons h2 (RpIs.take n h3)
theorem RpIs.drop {K:yF}{H:Hp}:∀ {ds:List I} {xs:List V} (n:Nat),RpIs K H ds xs->RpIs K H (ds.drop n) (xs.drop n)
 | ds,xs,0,h=>h
 | [],xs,n+1,h=>by obtain rfl:=h.nil_inv;exact RpIs.nil
 | d::ds,xs,n+1,h=>by
  obtain⟨x,r,rfl,h2,h3⟩:=h.cons_inv
  exact RpIs.drop n h3
theorem RpIs.one {K:yF}{H:Hp}{t:I}{x:V}(h:RpI K H t x):RpIs K H [t] [x]:=.cons h .nil
theorem RpIs.reverse {K:yF}{H:Hp}:∀ {ds:List I} {xs:List V},RpIs K H ds xs->RpIs K H ds.reverse xs.reverse
 | [],xs,h=>by obtain rfl:=h.nil_inv;exact RpIs.nil
 | d::ds,xs,h=>by
  obtain⟨x,r,rfl,h2,h3⟩:=h.cons_inv
  rw [List.reverse_cons,List.reverse_cons]
  exact RpIs.append (RpIs.reverse h3) (.one h2)
theorem RpIs.set {K:yF}{H:Hp}{t:I}{x:V}(hx:RpI K H t x):∀ {ds:List I} {xs:List V} (n:Nat),RpIs K H ds xs->RpIs K H (ds.set n t) (xs.set n x)
 | [],xs,n,h=>by obtain rfl:=h.nil_inv;exact RpIs.nil
 | d::ds,xs,0,h=>by obtain⟨y,r,rfl,h2,h3⟩:=h.cons_inv;exact RpIs.cons hx h3
 | d::ds,xs,n+1,h=>by obtain⟨y,r,rfl,h2,h3⟩:=h.cons_inv;exact RpIs.cons h2 (RpIs.set hx n h3)
theorem RpIs.ints {K:yF}{H:Hp}:∀ (ns:List Int),RpIs K H (ns.map I.int) (ns.map V.int)
 | []=>RpIs.nil
 | n::ns=>RpIs.cons (by rw [RpI]) (RpIs.ints ns)
theorem Rps.nil {K:yF}{H:Hp}:Rps K H [] [] []:=by rw [Rps];exact⟨rfl,rfl⟩
theorem Rps.cons {K:yF}{H:Hp}{t:T}{ts:List T}{x:V}{xs:List V}{F F':List Addr}(h:Rp K H t x F)(hs:Rps K H ts xs F'):Rps K H (t::ts) (x::xs) (F++F'):=by rw [Rps];exact⟨x,xs,F,F',rfl,h,hs,rfl⟩
theorem Rps.cons_inv {K:yF}{H:Hp}{t:T}{ts:List T}{xs:List V}{F:List Addr}(h:Rps K H (t::ts) xs F):∃ x r F1 F2,xs=x::r/\Rp K H t x F1/\Rps K H ts r F2/\F=F1++F2:=by rw [Rps] at h;exact h
theorem Rps.nil_inv {K:yF}{H:Hp}{xs:List V}{F:List Addr}(h:Rps K H [] xs F):xs = []/\F = []:=by rw [Rps] at h;exact h
theorem Rps.length {K:yF}{H:Hp}:∀ {ts:List T} {xs:List V} {F:List Addr},Rps K H ts xs F->xs.length=ts.length
 | [],xs,_,h=>by rw [h.nil_inv.1];rfl
 | d::ds,xs,_,h=>by obtain⟨x,r,_,_,rfl,_,h3,_⟩:=h.cons_inv;rw [List.length_cons,List.length_cons,h3.length]
theorem Rps.append {K:yF}{H:Hp}:∀ {ds es:List T} {xs ys:List V} {F G:List Addr},Rps K H ds xs F->Rps K H es ys G->Rps K H (ds++es) (xs++ys) (F++G)
 | [],es,xs,ys,F,G,h,h'=>by obtain⟨rfl,rfl⟩:=h.nil_inv;exact h'
 | d::ds,es,xs,ys,F,G,h,h'=>by
  obtain⟨x,r,F1,F2,rfl,h2,h3,rfl⟩:=h.cons_inv
  rw [List.append_assoc]
  exact Rps.cons h2 (Rps.append h3 h')
theorem Rps.at {K:yF}{H:Hp}:∀ {ts:List T} {xs:List V} {F:List Addr} {i:Nat} {t:T},Rps K H ts xs F->ts[i]?=some t →
  ∃ x A G B,xs[i]?=some x/\Rp K H t x G/\F=A++G++B/\Rps K H (ts.take i) (xs.take i) A/\Rps K H (ts.drop (i+1)) (xs.drop (i+1)) B
 | [],_,_,_,_,_,e=>by simp at e
 | d::ds,xs,_,0,d',h,e=>by
  obtain⟨x,r,F1,F2,rfl,h2,h3,rfl⟩:=h.cons_inv
  simp at e;subst e
  exact⟨x,[],F1,F2,rfl,h2,by simp,Rps.nil,by simpa using h3⟩
 | d::ds,xs,_,i+1,d',h,e=>by
  obtain⟨x,r,F1,F2,rfl,h2,h3,rfl⟩:=h.cons_inv
  obtain⟨y,A,G,B,h4,h5,h6,h7,h8⟩:=Rps.at (i:=i) h3 (by simpa using e)
  refine⟨y,F1++A,G,B,by simpa using h4,h5,by rw [h6];simp,?_,by simpa using h8⟩
  simpa using Rps.cons h2 h7
theorem Rps.take {K:yF}{H:Hp}:∀ {ds:List T} {xs:List V} {F:List Addr} (n:Nat),Rps K H ds xs F->∃ G G',Rps K H (ds.take n) (xs.take n) G/\Rps K H (ds.drop n) (xs.drop n) G'/\F=G++G'
 | ds,xs,F,0,h=>⟨[],F,by simp only [List.take_zero];exact Rps.nil,by simpa using h,rfl⟩
 | [],xs,F,n+1,h=>by obtain⟨rfl,rfl⟩:=h.nil_inv;exact⟨[],[],Rps.nil,Rps.nil,rfl⟩
 | d::ds,xs,F,n+1,h=>by
  obtain⟨x,r,F1,F2,rfl,h2,h3,rfl⟩:=h.cons_inv
  obtain⟨G,G',g1,g2,rfl⟩:=Rps.take n h3
  exact⟨F1++G,G',Rps.cons h2 g1,g2,by rw [List.append_assoc]⟩
theorem Rps.ims {K:yF}{H:Hp}:∀ {is:List I} {xs:List V} {F:List Addr},Rps K H (is.map T.im) xs F↔(RpIs K H is xs/\F = [])
 | [],xs,F=>by rw [List.map_nil,Rps,RpIs]
 | i::is,xs,F=>by
  rw [List.map_cons,Rps,RpIs]
  constructor
  ·rintro ⟨x,r,F1,F2,rfl,h1,h2,rfl⟩
   rw [Rp] at h1
   have:=Rps.ims.mp h2
   exact⟨⟨x,r,rfl,h1.1,this.1⟩,by rw [h1.2,this.2];rfl⟩
  ·rintro ⟨⟨x,r,rfl,h1,h2⟩,rfl⟩
   exact⟨x,r,[],[],rfl,by rw [Rp];exact⟨h1,rfl⟩,Rps.ims.mpr ⟨h2,rfl⟩,rfl⟩
theorem zfj {K:yF}{H:Hp}{i:I}{v:V}(h:RpI K H i v):Rp K H (.im i) v []:=by rw [Rp];exact⟨h,rfl⟩
theorem zya {K:yF}{H:Hp}{i:I}{v:V}{F:List Addr}(h:Rp K H (.im i) v F):RpI K H i v/\F = []:=by rw [Rp] at h;exact h
noncomputable def I.sc:I->Option V
 | .non=>some .non | .bl b=>some (.bl b) | .int i=>some (.int i) | .str x=>some (.str x) | .tup _=>none
theorem zvk {t:I}{K:yF}{H:Hp}{v:V}(h:t.sc=some v):RpI K H t v:=by
 cases t<;>simp only [I.sc] at h<;>cases h<;>rw [RpI]
theorem sc_eq {t:I}{K:yF}{H:Hp}{v w:V}(h:t.sc=some v)(r:RpI K H t w):w=v:=by
 cases t<;>simp only [I.sc] at h<;>cases h<;>rw [RpI] at r<;>exact r
inductive Ac where
 | ix (n:Nat) | ky (k:I) | fd (f:Str)
 deriving DecidableEq
noncomputable def look {κ α:Type} [DecidableEq κ]:List (κ × α)->κ->Option α
 | [],_=>none
 | (k',t)::r,k=>if k'=k then some t else look r k
noncomputable def putK {κ α:Type} [DecidableEq κ]:List (κ × α)->κ->α->List (κ × α)
 | [],_,_=>[]
 | (k',t)::r,k,s=>if k'=k then (k',s)::r else (k',t)::putK r k s
noncomputable def sub1:T->Ac->Option T
 | .lst ts,.ix n=>ts[n]?
 | .dc kvs,.ky k=>look kvs k
 | .ins _ fs,.fd f=>look fs f
 | _,_=>none
noncomputable def put1:T->Ac->T->T
 | .lst ts,.ix n,s=>.lst (ts.set n s)
 | .dc kvs,.ky k,s=>.dc (putK kvs k s)
 | .ins C fs,.fd f,s=>.ins C (putK fs f s)
 | t,_,_=>t
noncomputable def T.sub:T->List Ac->Option T
 | t,[]=>some t
 | t,a::p=>(sub1 t a).bind fun s=>s.sub p
noncomputable def T.put:T->List Ac->T->T
 | _,[],s=>s
 | t,a::p,s=>match sub1 t a with
  | some u=>put1 t a (u.put p s)
  | none=>t
def at1 (K:yF)(H:Hp):V->Ac->V->Prop
 | v,.ix n,w=>∃ a xs,v = .ref a/\H a=some (.lst xs)/\xs[n]?=some w
 | v,.ky k,w=>∃ a ys,v = .ref a/\DAt K H a ys/\look ys k=some w
 | v,.fd f,w=>∃ a C dx ys,v = .ref a/\H a=some (.ins C dx ys)/\look ys f=some w
def atP (K:yF)(H:Hp):V->List Ac->V->Prop
 | v,[],w=>w=v
 | v,a::p,w=>∃ u,at1 K H v a u/\atP K H u p w
theorem DAt.det {K:yF}{H:Hp}{a:Addr}{xs ys:List (I×V)}(h:DAt K H a xs)(g:DAt K H a ys):xs=ys:=by
 obtain⟨zs,h1,rfl⟩:=h
 obtain⟨zs',h2,rfl⟩:=g
 rw [h1] at h2;cases h2;rfl
theorem at1_det {K:yF}{H:Hp}{v w w':V}{a:Ac}(h:at1 K H v a w)(g:at1 K H v a w'):w=w':=by
 cases a with
 | ix n=>
  obtain⟨a,xs,rfl,h1,h2⟩:=h
  obtain⟨a',xs',e,g1,g2⟩:=g
  cases e;rw [h1] at g1;cases g1;rw [h2] at g2;cases g2;rfl
 | ky k=>
  obtain⟨a,xs,rfl,h1,h2⟩:=h
  obtain⟨a',xs',e,g1,g2⟩:=g
  cases e
  have:=h1.det g1
  subst this
  rw [h2] at g2;cases g2;rfl
 | fd f=>
  obtain⟨a,C,dx,xs,rfl,h1,h2⟩:=h
  obtain⟨a',C',dx',xs',e,g1,g2⟩:=g
  cases e;rw [h1] at g1;cases g1;rw [h2] at g2;cases g2;rfl
theorem zxh {K:yF}{H:Hp}:∀ {p:List Ac} {v w w':V},atP K H v p w->atP K H v p w'->w=w'
 | [],v,w,w',h,g=>by rw [atP] at h g;rw [h,g]
 | a::p,v,w,w',h,g=>by
  rw [atP] at h g
  obtain⟨u,h1,h2⟩:=h
  obtain⟨u',g1,g2⟩:=g
  have:=at1_det h1 g1
  subst this
  exact zxh h2 g2
theorem atP_app {K:yF}{H:Hp}{a:Ac}:∀ {p:List Ac} {v w u:V},atP K H v p w->at1 K H w a u->atP K H v (p++[a]) u
 | [],v,w,u,h,g=>by rw [atP] at h;subst h;exact⟨u,g,rfl⟩
 | b::p,v,w,u,h,g=>by
  rw [atP] at h
  obtain⟨x,h1,h2⟩:=h
  exact⟨x,h1,atP_app h2 g⟩
theorem sub_app {a:Ac}:∀ {p:List Ac} {t s u:T},t.sub p=some s->sub1 s a=some u->t.sub (p++[a])=some u
 | [],t,s,u,h,g=>by rw [T.sub] at h;cases h;rw [List.nil_append,T.sub,g];rfl
 | b::p,t,s,u,h,g=>by
  rw [T.sub] at h
  rw [List.cons_append,T.sub]
  cases e:sub1 t b with
  | none=>rw [e] at h;cases h
  | some x=>rw [e] at h;exact sub_app (p:=p) h g
section
variable  {K:yF}{H:Hp}
theorem Rpk.at {k:I}:∀ {ts:List (I×T)} {xs:List (I×V)} {F:List Addr} {t:T},Rpk K H ts xs F->look ts k=some t →
  ∃ x A G B,look xs k=some x/\Rp K H t x G/\F=A++G++B/\∀ H' s' G',(∀ {u:T} {w:V} {F':List Addr},(∀ a∈F',a∈A ∨ a∈B)->Rp K H u w F'->Rp K H' u w F')->Rp K H' s' x G'->Rpk K H' (putK ts k s') xs (A++G'++B)
 | [],xs,F,t,h,e=>by simp [look] at e
 | (k',d)::ds,xs,F,t,h,e=>by
  rw [Rpk] at h
  obtain⟨x,r,F1,F2,rfl,h2,h3,rfl⟩:=h
  by_cases hk:k'=k
  ·subst hk
   simp [look] at e
   subst e
   refine⟨x,[],F1,F2,by simp [look],h2,by simp,fun H' s' G' st q=>?_⟩
   simp only [putK,if_pos]
   rw [Rpk]
   refine⟨x,r,G',F2,rfl,q,?_,by simp⟩
   have:∀ {ts:List (I×T)} {xs:List (I×V)} {F:List Addr},(∀ a∈F,a∈F2)->Rpk K H ts xs F->Rpk K H' ts xs F:=by
    intro ts
    induction ts with
    | nil=>intro xs F _ h;rw [Rpk] at h ⊢;exact h
    | cons p ts ih=>
     intro xs F hF h
     obtain⟨k2,t2⟩:=p
     rw [Rpk] at h ⊢
     obtain⟨y,r,G1,G2,h1,h2,h3,rfl⟩:=h
     exact⟨y,r,G1,G2,h1,st (fun a ha=>.inr (hF a (yaL _ ha))) h2,ih (fun a ha=>hF a (yaR _ ha)) h3,rfl⟩
   exact this (fun a ha=>ha) h3
  ·simp [look,hk] at e
   obtain⟨y,A,G,B,h4,h5,h6,h7⟩:=Rpk.at h3 e
   refine⟨y,F1++A,G,B,by simp [look,hk,h4],h5,by rw [h6];simp,fun H' s' G' st q=>?_⟩
   simp only [putK,if_neg hk]
   rw [Rpk]
   exact⟨x,r,F1,A++G'++B,rfl,st (fun a ha=>.inl (yaL _ ha)) h2,h7 H' s' G' (fun ha=>st (fun a h=>(ha a h).imp (yaR _) id)) q,by simp⟩
theorem Rpf.at {k:Str}:∀ {ts:List (Str×T)} {xs:List (Str×V)} {F:List Addr} {t:T},Rpf K H ts xs F->look ts k=some t →
  ∃ x A G B,look xs k=some x/\Rp K H t x G/\F=A++G++B/\∀ H' s' G',(∀ {u:T} {w:V} {F':List Addr},(∀ a∈F',a∈A ∨ a∈B)->Rp K H u w F'->Rp K H' u w F')->Rp K H' s' x G'->Rpf K H' (putK ts k s') xs (A++G'++B)
 | [],xs,F,t,h,e=>by simp [look] at e
 | (k',d)::ds,xs,F,t,h,e=>by
  rw [Rpf] at h
  obtain⟨x,r,F1,F2,rfl,h2,h3,rfl⟩:=h
  by_cases hk:k'=k
  ·subst hk
   simp [look] at e
   subst e
   refine⟨x,[],F1,F2,by simp [look],h2,by simp,fun H' s' G' st q=>?_⟩
   simp only [putK,if_pos]
   rw [Rpf]
   refine⟨x,r,G',F2,rfl,q,?_,by simp⟩
   have:∀ {ts:List (Str×T)} {xs:List (Str×V)} {F:List Addr},(∀ a∈F,a∈F2)->Rpf K H ts xs F->Rpf K H' ts xs F:=by
    intro ts
    induction ts with
    | nil=>intro xs F _ h;rw [Rpf] at h ⊢;exact h
    | cons p ts ih=>
     intro xs F hF h
     obtain⟨k2,t2⟩:=p
     rw [Rpf] at h ⊢
     obtain⟨y,r,G1,G2,h1,h2,h3,rfl⟩:=h
     exact⟨y,r,G1,G2,h1,st (fun a ha=>.inr (hF a (yaL _ ha))) h2,ih (fun a ha=>hF a (yaR _ ha)) h3,rfl⟩
   exact this (fun a ha=>ha) h3
  ·simp [look,hk] at e
   obtain⟨y,A,G,B,h4,h5,h6,h7⟩:=Rpf.at h3 e
   refine⟨y,F1++A,G,B,by simp [look,hk,h4],h5,by rw [h6];simp,fun H' s' G' st q=>?_⟩
   simp only [putK,if_neg hk]
   rw [Rpf]
   exact⟨x,r,F1,A++G'++B,rfl,st (fun a ha=>.inl (yaL _ ha)) h2,h7 H' s' G' (fun ha=>st (fun a h=>(ha a h).imp (yaR _) id)) q,by simp⟩
theorem Mu.lst {a:Addr}{xs:List V}(m:Mu H a)(h:Rd H a (.lst xs)):H a=some (.lst xs):=by
 rcases h with h | ⟨o,h⟩
 ·exact h
 ·obtain⟨u,e,m⟩:=m;rw [h] at e;cases e;cases m
theorem Rps.stay {H':Hp}:∀ {ts:List T} {xs:List V} {F:List Addr},(∀ {u:T} {w:V} {F':List Addr},(∀ a∈F',a∈F)->Rp K H u w F'->Rp K H' u w F')->Rps K H ts xs F->Rps K H' ts xs F
 | [],_,_,_,h=>by rw [Rps] at h ⊢;exact h
 | t::ts,_,_,n,h=>by
  rw [Rps] at h ⊢;obtain⟨y,r,F1,F2,h1,h2,h3,rfl⟩:=h
  exact⟨y,r,F1,F2,h1,n (fun a ha=>yaL _ ha) h2,Rps.stay (fun ha=>n fun a h=>yaR _ (ha a h)) h3,rfl⟩
theorem Rp.at1 {t s:T}{v:V}{F:List Addr}{a:Ac}(h:Rp K H t v F)(mu:∀ b∈F,Mu H b)(nd:F.Nodup)(e:sub1 t a=some s) :
  ∃ w A G B,L2.at1 K H v a w/\Rp K H s w G/\F=A++G++B/\∀ H' s' G',OffM G H H'->Rp K H' s' w G'->Rp K H' (put1 t a s') v (A++G'++B):=by
 have dj:∀ {A G B:List Addr},F=A++G++B->∀ b,(b∈A ∨ b∈B)->b ∉ G:=by
  intro A G B e b hb hg
  rw [e] at nd
  rcases hb with hb | hb
  ·exact (List.nodup_append.mp (List.nodup_append.mp nd).1).2.2 b hb b hg rfl
  ·exact (List.nodup_append.mp nd).2.2 b (yaR _ hg) b hb rfl
 have muG:∀ {A G B:List Addr},F=A++G++B->∀ b∈G,Mu H b:=fun e b hb=>mu b (by rw [e];simp [hb])
 cases t with
 | lst ts=>
  cases a with
  | ix n=>
   rw [Rp] at h
   obtain⟨a,xs,F',rfl,h2,h3,rfl⟩:=h
   have ha:=(mu a ymS).lst h2
   obtain⟨x,A,G,B,h4,h5,h6,h7,h8⟩:=h3.at e
   have e':a::F'=(a::A)++G++B:=by rw [h6];simp
   refine⟨x,a::A,G,B,⟨a,xs,rfl,ha,h4⟩,h5,e',fun H' s' G' off q=>?_⟩
   have st:∀ {u:T} {w:V} {F':List Addr},(∀ b∈F',b∈A ∨ b∈B)->Rp K H u w F'->Rp K H' u w F':=fun hb r=>r.off off (muG e') (fun b z=>dj e' b ((hb b z).imp (ymC _) id))
   show Rp K H' (.lst (ts.set n s')) (.ref a) _
   rw [Rp]
   refine⟨a,xs,A++G'++B,rfl,.inl (off a _ ha (dj e' a (.inl ymS))),?_,by simp⟩
   have hn:n<ts.length:=(List.getElem?_eq_some_iff.mp e).1
   have hn':n<xs.length:=(List.getElem?_eq_some_iff.mp h4).1
   have e1:ts.set n s'=ts.take n++s'::ts.drop (n+1):=by rw [List.set_eq_take_append_cons_drop,if_pos hn]
   have e2:xs=xs.take n++x::xs.drop (n+1):=by
    have:=List.getElem?_eq_some_iff.mp h4
    obtain⟨hl,hx⟩:=this
    conv=>lhs;rw [← List.take_append_drop n xs,List.drop_eq_getElem_cons hl,hx]
   rw [e1,e2,List.append_assoc]
   exact Rps.append (Rps.stay (fun hb=>st fun b z=>.inl (hb b z)) h7) (Rps.cons q (Rps.stay (fun hb=>st fun b z=>.inr (hb b z)) h8))
  | ky k=>cases e
  | fd k=>cases e
 | dc kvs=>
  cases a with
  | ky k=>
   rw [Rp] at h
   obtain⟨a,xs,F',rfl,h2,h3,rfl⟩:=h
   obtain⟨x,A,G,B,h4,h5,h6,h7⟩:=h3.at e
   have e':a::F'=(a::A)++G++B:=by rw [h6];simp
   refine⟨x,a::A,G,B,⟨a,xs,rfl,h2,h4⟩,h5,e',fun H' s' G' off q=>?_⟩
   have st:∀ {u:T} {w:V} {F':List Addr},(∀ b∈F',b∈A ∨ b∈B)->Rp K H u w F'->Rp K H' u w F':=fun hb r=>r.off off (muG e') (fun b z=>dj e' b ((hb b z).imp (ymC _) id))
   show Rp K H' (.dc (putK kvs k s')) (.ref a) _
   rw [Rp]
   exact⟨a,xs,A++G'++B,rfl,h2.off off (dj e' a (.inl ymS)),h7 H' s' G' st q,by simp⟩
  | ix k=>cases e
  | fd k=>cases e
 | ins C fs=>
  cases a with
  | fd k=>
   rw [Rp] at h
   obtain⟨a,dx,xs,F',rfl,h2,h3,rfl⟩:=h
   obtain⟨x,A,G,B,h4,h5,h6,h7⟩:=h3.at e
   have e':a::F'=(a::A)++G++B:=by rw [h6];simp
   refine⟨x,a::A,G,B,⟨a,C,dx,xs,rfl,h2,h4⟩,h5,e',fun H' s' G' off q=>?_⟩
   have st:∀ {u:T} {w:V} {F':List Addr},(∀ b∈F',b∈A ∨ b∈B)->Rp K H u w F'->Rp K H' u w F':=fun hb r=>r.off off (muG e') (fun b z=>dj e' b ((hb b z).imp (ymC _) id))
   show Rp K H' (.ins C (putK fs k s')) (.ref a) _
   rw [Rp]
   exact⟨a,dx,xs,A++G'++B,rfl,off a _ h2 (dj e' a (.inl ymS)),h7 H' s' G' st q,by simp⟩
  | ix k=>cases e
  | ky k=>cases e
 | im _=>cases a<;>cases e
 | tup _=>cases a<;>cases e
 | li _=>cases a<;>cases e
 | di _=>cases a<;>cases e
theorem Rp.atP:∀ {p:List Ac} {t s:T} {v:V} {F:List Addr},Rp K H t v F->(∀ b∈F,Mu H b)->F.Nodup->t.sub p=some s →
  ∃ w A G B,L2.atP K H v p w/\Rp K H s w G/\F=A++G++B/\∀ H' s' G',OffM G H H'->Rp K H' s' w G'->Rp K H' (t.put p s') v (A++G'++B)
 | [],t,s,v,F,h,mu,nd,e=>by
  rw [T.sub] at e;cases e
  exact⟨v,[],F,[],rfl,h,by simp,fun H' s' G' _ q=>by rw [T.put];simpa using q⟩
 | a::p,t,s,v,F,h,mu,nd,e=>by
  rw [T.sub] at e
  cases e1:sub1 t a with
  | none=>rw [e1] at e;cases e
  | some u=>
   rw [e1] at e
   obtain⟨w,A,G,B,h1,h2,rfl,h4⟩:=h.at1 mu nd e1
   have nd2:=(List.nodup_append.mp (List.nodup_append.mp nd).1).2.1
   obtain⟨x,A',G',B',g1,g2,rfl,g4⟩:=Rp.atP (p:=p) h2 (fun b hb=>mu b (yaL _ (yaR _ hb))) nd2 e
   refine⟨x,A++A',G',B'++B,⟨w,h1,g1⟩,g2,by simp,fun H' s' G2 off q=>?_⟩
   rw [T.put,e1]
   have:=h4 H' (u.put p s') (A'++G2++B') (off.mono fun b hb=>by simp [hb]) (g4 H' s' G2 off q)
   simpa using this
end
inductive Kd where
 | ow | io (k:Nat) | vw (r:Option Nat) (p:Option (List Ac))
structure R where
 k:Kd
 t:T
structure En where
 key:Option Nat
 v:V
 r:R
structure Hd where
 e:En
 F:List Addr
structure Gm where
 K:yF
 H0:Hp
 io:List Addr
 iov:List V
noncomputable def Kd.isOw:Kd->Bool
 | .vw _ _=>false | _=>true
noncomputable def Kd.root:Kd->Option Nat
 | .vw r _=>r | _=>none
noncomputable def Hd.own (h:Hd):List Addr:=if h.e.r.k.isOw=true then h.F else []
def KdOk (Γ:Gm)(H:Hp)(L:List Hd)(h:Hd):Prop:=match h.e.r.k with
 | .ow=>∀ a∈h.F,Γ.H0 a=none
 | .io k=>Γ.iov[k]?=some h.e.v
 | .vw none _=>∀ a∈h.F,a ∉ L.flatMap Hd.own
 | .vw (some j) p=>∃ g∈L,g.e.key=some j/\g.e.r.k.isOw=true/\(∀ a∈h.F,a∈g.F ∨ a ∉ L.flatMap Hd.own)/\∀ q,p=some q->g.e.r.t.sub q=some h.e.r.t/\atP Γ.K H g.e.v q h.e.v
structure GW (Γ:Gm)(H:Hp)(L:List Hd):Prop where
 nd:(L.flatMap Hd.own).Nodup
 ad:∀ a∈L.flatMap Hd.own,Mu H a/\(Γ.H0 a=none ∨ a ∈ Γ.io)
 rp:∀ h∈L,Rp Γ.K H h.e.r.t h.e.v h.F
 kd:∀ h∈L,KdOk Γ H L h
 ks:(L.filterMap fun h=>h.e.key).Nodup
 fr:∀ b o,Γ.H0 b=some o->b ∉ Γ.io->H b=some o
 iol:∀ a ∈ Γ.io,∃ o,H a=some o
section
variable  {Γ:Gm}{H H':Hp}{L L':List Hd}{h:Hd}
theorem KdOk.sub (k:KdOk Γ H L h)(s:∀ g∈L,g.e.r.k.isOw=true->g∈L')(o:∀ a∈L'.flatMap Hd.own,a∈L.flatMap Hd.own):KdOk Γ H L' h:=by
 unfold KdOk at k ⊢
 split at k
 ·exact k
 ·exact k
 ·exact fun a ha z=>k a ha (o a z)
 ·obtain⟨g,h1,h2,h3,h4,h5⟩:=k
  exact⟨g,s g h1 h3,h2,h3,fun a ha=>(h4 a ha).imp id fun z w=>z (o a w),h5⟩
theorem GW.perm (G:GW Γ H L)(p:L.Perm L'):GW Γ H L':=
 ⟨(p.flatMap_right _).nodup_iff.mp G.nd,fun a ha=>G.ad a ((p.flatMap_right _).mem_iff.mpr ha),fun h hh=>G.rp h (p.mem_iff.mpr hh),fun h hh=>(G.kd h (p.mem_iff.mpr hh)).sub (fun g hg _=>p.mem_iff.mp hg) (fun a ha=>(p.flatMap_right _).mem_iff.mpr ha),(p.filterMap _).nodup_iff.mp G.ks,G.fr,G.iol⟩
theorem zyj (s:L'.Sublist L):(L'.flatMap Hd.own).Sublist (L.flatMap Hd.own):=by
 induction s with
 | slnil=>exact List.Sublist.refl _
 | cons a s ih=>rw [List.flatMap_cons];exact ih.trans (List.sublist_append_right _ _)
 | cons_cons a s ih=>rw [List.flatMap_cons,List.flatMap_cons];exact (List.Sublist.refl _).append ih
theorem GW.sub (G:GW Γ H L)(s:L'.Sublist L)(ro:∀ h∈L',∀ j,h.e.r.k.root=some j->∀ g∈L,g.e.key=some j->g.e.r.k.isOw=true->g∈L'):GW Γ H L':=by
 refine⟨(zyj s).nodup G.nd,fun a ha=>G.ad a ((zyj s).subset ha),fun h hh=>G.rp h (s.subset hh),fun h hh=>?_,(s.filterMap _).nodup G.ks,G.fr,G.iol⟩
 have k:=G.kd h (s.subset hh)
 unfold KdOk at k ⊢
 split at k
 ·exact k
 ·exact k
 ·exact fun a ha z=>k a ha ((zyj s).subset z)
 ·rename_i j p e
  obtain⟨g,h1,h2,h3,h4,h5⟩:=k
  exact⟨g,ro h hh j (by rw [e];rfl) g h1 h2 h3,h2,h3,fun a ha=>(h4 a ha).imp id fun z w=>z ((zyj s).subset w),h5⟩
theorem GW.drop (G:GW Γ H (h::L))(hk:h.e.key=none):GW Γ H L:=by
 refine G.sub (List.sublist_cons_self _ _) fun g hg j _ x hx hj _=>?_
 rcases ycM hx with rfl | hx
 ·rw [hk] at hj;cases hj
 ·exact hx
theorem GW.dropK (G:GW Γ H (h::L))(hr:∀ g∈L,∀ j,h.e.key=some j->g.e.r.k.root≠some j):GW Γ H L:=by
 refine G.sub (List.sublist_cons_self _ _) fun g hg j hj x hx hk _=>?_
 rcases ycM hx with rfl | hx
 ·exact absurd hj (hr g hg j hk)
 ·exact hx
theorem GW.filter (G:GW Γ H L)(p:Hd->Bool)(hp:∀ h∈L,h.e.r.k.isOw=true->p h=true):GW Γ H (L.filter p):=
 G.sub List.filter_sublist fun h hh j hj g hg hk ho=>List.mem_filter.mpr ⟨hg,hp g hg ho⟩
theorem GW.new0 (G:GW Γ H L){a:Addr}(e:H a=none) : Γ.H0 a=none:=by
 cases q : Γ.H0 a with
 | none=>rfl
 | some o=>
  exfalso
  by_cases hio:a ∈ Γ.io
  ·obtain⟨o,e'⟩:=G.iol a hio;rw [e] at e';cases e'
  ·have:=G.fr a o q hio;rw [e] at this;cases this
theorem GW.push (G:GW Γ H L){v:V}{r:R}{F:List Addr}(hr:Rp Γ.K H r.t v F)(hk:KdOk Γ H L ⟨⟨none,v,r⟩,F⟩)(hF:r.k.isOw=false ∨ F = []):GW Γ H (⟨⟨none,v,r⟩,F⟩::L):=by
 have e:Hd.own ⟨⟨none,v,r⟩,F⟩ = []:=by
  unfold Hd.own
  rcases hF with h | h
  ·simp [h]
  ·simp [h]
 refine⟨by rw [List.flatMap_cons,e];exact G.nd,fun a ha=>G.ad a (by rw [List.flatMap_cons,e] at ha;exact ha),fun x hx=>?_,fun x hx=>?_,?_,G.fr,G.iol⟩
 ·rcases ycM hx with rfl | hx
  ·exact hr
  ·exact G.rp x hx
 ·rcases ycM hx with rfl | hx
  ·exact hk.sub (fun g hg _=>ymC _ hg) (fun a ha=>by rw [List.flatMap_cons,e] at ha;exact ha)
  ·exact (G.kd x hx).sub (fun g hg _=>ymC _ hg) (fun a ha=>by rw [List.flatMap_cons,e] at ha;exact ha)
 ·rw [List.filterMap_cons];exact G.ks
theorem GW.rekey (G:GW Γ H (h::L))(hk:h.e.key=none){key:Option Nat}(hn:∀ j,key=some j->j ∉ L.filterMap fun h=>h.e.key):GW Γ H (⟨⟨key,h.e.v,h.e.r⟩,h.F⟩::L):=by
 have eo:((⟨⟨key,h.e.v,h.e.r⟩,h.F⟩:Hd)::L).flatMap Hd.own=(h::L).flatMap Hd.own:=rfl
 have ro:∀ x∈L,KdOk Γ H (h::L) x->KdOk Γ H (⟨⟨key,h.e.v,h.e.r⟩,h.F⟩::L) x:=fun x hx k=>by
  unfold KdOk at k ⊢
  split at k
  ·exact k
  ·exact k
  ·exact k
  ·obtain⟨g,h1,h2,h3⟩:=k
   rcases ycM h1 with rfl | h1
   ·rw [hk] at h2;cases h2
   ·exact⟨g,ymC _ h1,h2,h3⟩
 refine⟨G.nd,G.ad,fun x hx=>?_,fun x hx=>?_,?_,G.fr,G.iol⟩
 ·rcases ycM hx with rfl | hx
  ·exact G.rp h ymS
  ·exact G.rp x (ymC _ hx)
 ·rcases ycM hx with rfl | hx
  ·have k:=G.kd h ymS
   unfold KdOk at k ⊢
   split at k
   ·rename_i e;simp only [e];exact k
   ·rename_i e;simp only [e];exact k
   ·rename_i e;simp only [e];exact k
   ·rename_i e
    simp only [e]
    obtain⟨g,h1,h2,h3⟩:=k
    rcases ycM h1 with rfl | h1
    ·rw [hk] at h2;cases h2
    ·exact⟨g,ymC _ h1,h2,h3⟩
  ·exact ro x hx (G.kd x (ymC _ hx))
 ·have g:=G.ks
  rw [List.filterMap_cons,hk] at g
  rw [List.filterMap_cons]
  cases key with
  | none=>exact g
  | some j=>exact List.nodup_cons.mpr ⟨hn j rfl,g⟩
theorem zpi {a:Addr}(ho:h.e.r.k.isOw=true)(ha:a∈h.F):a∈h.own:=by unfold Hd.own;rw [if_pos ho];exact ha
theorem GW.apart {hs:List Hd}(G:GW Γ H (hs++L))(hr:∀ g∈L,∀ h∈hs,∀ j,h.e.key=some j->g.e.r.k.root≠some j)(ho:∀ h∈hs,h.e.r.k.isOw=true):∀ g∈L,∀ a∈g.F,∀ h∈hs,a ∉ h.F:=by
 intro g hg a ha h hh hah
 have nd:=G.nd
 rw [List.flatMap_append] at nd
 have h1:a∈hs.flatMap Hd.own:=List.mem_flatMap.mpr ⟨h,hh,zpi (ho h hh) hah⟩
 have out:a ∉ (hs++L).flatMap Hd.own->False:=fun n=>n (by rw [List.flatMap_append];exact yaL _ h1)
 have k:=G.kd g (yaR _ hg)
 have own:∀ x∈L,x.e.r.k.isOw=true->a∈x.F->False:=fun x hx ox hax=>
  (List.nodup_append.mp nd).2.2 a h1 a (List.mem_flatMap.mpr ⟨x,hx,zpi ox hax⟩) rfl
 unfold KdOk at k
 split at k
 ·rename_i e;exact own g hg (by rw [e];rfl) ha
 ·rename_i e;exact own g hg (by rw [e];rfl) ha
 ·exact out (k a ha)
 ·rename_i j p e
  obtain⟨x,h1',h2,h3,h4,_⟩:=k
  rcases h4 a ha with z | z
  ·rcases yaM h1' with hx | hx
   ·exact hr g hg x hx j h2 (by rw [e];rfl)
   ·exact own x hx h3 z
  ·exact out z
theorem zzk {M:List Addr}(off:OffM M H H'){F:List Addr}(hF:∀ a∈F,a ∉ M)(mu:∀ a∈F,Mu H a):∀ {q:List Ac} {t s:T} {v w:V} {F':List Addr},(∀ a∈F',a∈F)->F'.Nodup->Rp Γ.K H t v F'->t.sub q=some s->atP Γ.K H v q w->atP Γ.K H' v q w
 | [],_,_,_,_,_,_,_,_,_,h=>h
 | a::q,t,s,v,w,F',hs,nd,r,e,h=>by
  rw [atP] at h ⊢
  obtain⟨u,h1,h2⟩:=h
  rw [T.sub] at e
  cases e1:sub1 t a with
  | none=>rw [e1] at e;cases e
  | some x=>
   rw [e1] at e
   obtain⟨y,A,G,B,g1,g2,rfl,_⟩:=r.at1 (fun b hb=>mu b (hs b hb)) nd e1
   have:=at1_det h1 g1
   subst this
   refine⟨u,?_,zzk off hF mu (fun b hb=>hs b (yaL _ (yaR _ hb))) (List.nodup_append.mp (List.nodup_append.mp nd).1).2.1 g2 e h2⟩
   cases a with
   | ix n=>
    obtain⟨b,xs,rfl,z1,z2⟩:=h1
    refine⟨b,xs,rfl,off b _ z1 (hF b ?_),z2⟩
    cases t<;>simp only [sub1] at e1<;>try cases e1
    rw [Rp] at r
    obtain⟨b',xs',F'',eb,_,_,eF⟩:=r
    cases eb
    exact hs b (by rw [eF];exact ymS)
   | ky n=>
    obtain⟨b,xs,rfl,z1,z2⟩:=h1
    refine⟨b,xs,rfl,z1.off off (hF b ?_),z2⟩
    cases t<;>simp only [sub1] at e1<;>try cases e1
    rw [Rp] at r
    obtain⟨b',xs',F'',eb,_,_,eF⟩:=r
    cases eb
    exact hs b (by rw [eF];exact ymS)
   | fd n=>
    obtain⟨b,C,dx,xs,rfl,z1,z2⟩:=h1
    refine⟨b,C,dx,xs,rfl,off b _ z1 (hF b ?_),z2⟩
    cases t<;>simp only [sub1] at e1<;>try cases e1
    rw [Rp] at r
    obtain⟨b',dx',xs',F'',eb,_,_,eF⟩:=r
    cases eb
    exact hs b (by rw [eF];exact ymS)
theorem GW.ndF (G:GW Γ H L)(hh:h∈L)(ho:h.e.r.k.isOw=true):h.F.Nodup:=by
 have nd:=G.nd
 obtain⟨s,t,rfl⟩:=List.append_of_mem hh
 rw [List.flatMap_append,List.flatMap_cons] at nd
 have:=(List.nodup_append.mp (List.nodup_append.mp nd).2.1).1
 unfold Hd.own at this
 rw [if_pos ho] at this
 exact this
theorem GW.muF (G:GW Γ H L)(hh:h∈L)(ho:h.e.r.k.isOw=true):∀ a∈h.F,Mu H a:=fun a ha=>(G.ad a (List.mem_flatMap.mpr ⟨h,hh,zpi ho ha⟩)).1
theorem zjh {hs:List Hd}(ho:∀ h∈hs,h.e.r.k.isOw=true):hs.flatMap Hd.own=hs.flatMap (·.F):=by
 induction hs with
 | nil=>rfl
 | cons x xs ih=>
  rw [List.flatMap_cons,List.flatMap_cons,ih fun h hh=>ho h (ymC _ hh)]
  unfold Hd.own
  rw [if_pos (ho x ymS)]
theorem GW.step {hs:List Hd}(G:GW Γ H (hs++L))(ho:∀ h∈hs,h.e.r.k.isOw=true)(hr:∀ g∈L,∀ h∈hs,∀ j,h.e.key=some j->g.e.r.k.root≠some j)
  (off:OffM (hs.flatMap (·.F)) H H') (dom:∀ a∈hs.flatMap (·.F),∃ o,H' a=some o) {key:Option Nat} {v:V} {r:R} {F:List Addr} (nd:F.Nodup) (hF:∀ a∈F,(a∈hs.flatMap (·.F) ∨ H a=none)/\Mu H' a) (hp:Rp Γ.K H' r.t v F)
  (hk:(r.k = .ow/\∀ h∈hs,h.e.r.k = .ow) ∨ ∃ k,r.k = .io k/\Γ.iov[k]?=some v) (hkey:∀ j,key=some j->j ∉ L.filterMap fun h=>h.e.key):GW Γ H' (⟨⟨key,v,r⟩,F⟩::L):=by
 have iow:r.k.isOw=true:=by rcases hk with⟨e,_⟩ | ⟨k,e,_⟩<;>rw [e]<;>rfl
 have eo:=zjh ho
 have G':=G.nd
 rw [List.flatMap_append,eo] at G'
 have nd1:=(List.nodup_append.mp G').2.1
 have dj:=(List.nodup_append.mp G').2.2
 have adL:∀ a∈L.flatMap Hd.own,Mu H a/\(Γ.H0 a=none ∨ a ∈ Γ.io):=fun a ha=>G.ad a (by rw [List.flatMap_append];exact yaR _ ha)
 have adM:∀ a∈hs.flatMap (·.F),Mu H a/\(Γ.H0 a=none ∨ a ∈ Γ.io):=fun a ha=>G.ad a (by rw [List.flatMap_append,eo];exact yaL _ ha)
 have ap:=G.apart hr ho
 have apM:∀ g∈L,∀ a∈g.F,a ∉ hs.flatMap (·.F):=fun g hg a ha hm=>by
  obtain⟨h,hh,hah⟩:=List.mem_flatMap.mp hm
  exact ap g hg a ha h hh hah
 have eF:Hd.own ⟨⟨key,v,r⟩,F⟩=F:=by unfold Hd.own;rw [if_pos iow]
 have f0:∀ a∈F,Γ.H0 a=none ∨ a ∈ Γ.io:=fun a ha=>by
  rcases (hF a ha).1 with z | z
  ·exact (adM a z).2
  ·exact .inl (G.new0 z)
 refine⟨?_,fun a ha=>?_,fun x hx=>?_,fun x hx=>?_,?_,fun b o e n=>?_,fun a ha=>?_⟩
 ·rw [List.flatMap_cons,eF]
  refine List.nodup_append.mpr ⟨nd,nd1,fun a ha b hb=>?_⟩
  rintro rfl
  rcases (hF a ha).1 with z | z
  ·exact dj a z a hb rfl
  ·obtain⟨o,e,_⟩:=(adL a hb).1
   rw [z] at e;cases e
 ·rw [List.flatMap_cons,eF] at ha
  rcases yaM ha with ha | ha
  ·exact⟨(hF a ha).2,f0 a ha⟩
  ·obtain⟨⟨o,e,m⟩,z⟩:=adL a ha
   exact⟨⟨o,off a o e fun hm=>dj a hm a ha rfl,m⟩,z⟩
 ·rcases ycM hx with rfl | hx
  ·exact hp
  ·exact (G.rp x (yaR _ hx)).off off (fun a ha=>(adM a ha).1) (apM x hx)
 ·rcases ycM hx with rfl | hx
  ·unfold KdOk
   rcases hk with⟨e,eh⟩ | ⟨k,e,ek⟩
   ·simp only [e]
    intro a ha
    rcases (hF a ha).1 with z | z
    ·obtain⟨h,hh,hah⟩:=List.mem_flatMap.mp z
     have q:=G.kd h (yaL _ hh)
     unfold KdOk at q
     rw [eh h hh] at q
     exact q a hah
    ·exact G.new0 z
   ·simp only [e];exact ek
  ·have k:=G.kd x (yaR _ hx)
   have st:∀ a∈x.F,a ∉ (hs++L).flatMap Hd.own->a ∉ ((⟨⟨key,v,r⟩,F⟩:Hd)::L).flatMap Hd.own:=fun a ha n z=>by
    rw [List.flatMap_cons,eF] at z
    rcases yaM z with z | z
    ·rcases (hF a z).1 with w | w
     ·exact n (by rw [List.flatMap_append,eo];exact yaL _ w)
     ·obtain⟨o,e⟩:=(G.rp x (yaR _ hx)).dom a ha
      rw [w] at e;cases e
    ·exact n (by rw [List.flatMap_append];exact yaR _ z)
   unfold KdOk at k ⊢
   split at k
   ·exact k
   ·exact k
   ·exact fun a ha=>st a ha (k a ha)
   ·rename_i j p e
    obtain⟨g,h1,h2,h3,h4,h5⟩:=k
    rcases yaM h1 with hg | hg
    ·exact absurd (by rw [e];rfl) (hr x hx g hg j h2)
    ·refine⟨g,ymC _ hg,h2,h3,fun a ha=>(h4 a ha).imp id (st a ha),fun q hq=>⟨(h5 q hq).1,?_⟩⟩
     exact zzk off (F:=g.F) (apM g hg) (G.muF (yaR _ hg) h3) (fun a ha=>ha) (G.ndF (yaR _ hg) h3) (G.rp g (yaR _ hg)) (h5 q hq).1 (h5 q hq).2
 ·have g:=G.ks
  rw [List.filterMap_append] at g
  have g2:=(List.nodup_append.mp g).2.1
  rw [List.filterMap_cons]
  cases key with
  | none=>exact g2
  | some j=>exact List.nodup_cons.mpr ⟨hkey j rfl,g2⟩
 ·refine off b o (G.fr b o e n) fun hm=>?_
  rcases (adM b hm).2 with z | z
  ·rw [z] at e;cases e
  ·exact n z
 ·obtain⟨o,e⟩:=G.iol a ha
  by_cases hm:a∈hs.flatMap (·.F)
  ·exact dom a hm
  ·exact⟨o,off a o e hm⟩
end
theorem perm_lift {α β:Type}{f : α->β}{N M:List β}(p:N.Perm M):∀ L:List α,L.map f=N->∃ L',L.Perm L'/\L'.map f=M:=by
 induction p with
 | nil=>intro L h;exact⟨L,List.Perm.refl _,h⟩
 | cons x p ih=>
  intro L h
  cases L with
  | nil=>cases h
  | cons a L=>
   rw [List.map_cons,List.cons.injEq] at h
   obtain⟨L',h1,h2⟩:=ih L h.2
   exact⟨a::L',h1.cons a,by rw [List.map_cons,h.1,h2]⟩
 | swap x y l=>
  intro L h
  cases L with
  | nil=>cases h
  | cons a L=>
   cases L with
   | nil=>cases h
   | cons b L=>
    simp only [List.map_cons,List.cons.injEq] at h
    exact⟨b::a::L,List.Perm.swap _ _ _,by simp [h.1,h.2.1,h.2.2]⟩
 | trans p q ih1 ih2=>
  intro L h
  obtain⟨L1,h1,h2⟩:=ih1 L h
  obtain⟨L2,h3,h4⟩:=ih2 L1 h2
  exact⟨L2,h1.trans h3,h4⟩
def SimL (Γ:Gm)(H:Hp)(X:List En):Prop:=∃ L,GW Γ H L/\L.map (·.e)=X
section
variable  {Γ:Gm}{H H':Hp}{X Y:List En}{e:En}
theorem SimL.perm (S:SimL Γ H X)(p:X.Perm Y):SimL Γ H Y:=by
 obtain⟨L,g,e⟩:=S
 obtain⟨L',h1,h2⟩:=perm_lift p L e
 exact⟨L',g.perm h1,h2⟩
theorem zw {α β:Type}{f : α->β}{L:List α}{b : β}{X:List β}(h:L.map f=b::X):∃ a L',L=a::L'/\f a=b/\L'.map f=X:=by
 cases L with
 | nil=>cases h
 | cons a L=>rw [List.map_cons,List.cons.injEq] at h;exact⟨a,L,rfl,h.1,h.2⟩
theorem zde {α β:Type}{f : α->β}:∀ {A:List β} {L:List α} {B:List β},L.map f=A++B->∃ L1 L2,L=L1++L2/\L1.map f=A/\L2.map f=B
 | [],L,B,h=>⟨[],L,rfl,rfl,h⟩
 | a::A,L,B,h=>by
  obtain⟨x,L',rfl,h1,h2⟩:=zw h
  obtain⟨L1,L2,rfl,h3,h4⟩:=zde h2
  exact⟨x::L1,L2,rfl,by rw [List.map_cons,h1,h3],h4⟩
theorem SimL.drop (S:SimL Γ H (e::X))(hk:e.key=none):SimL Γ H X:=by
 obtain⟨L,g,h⟩:=S
 obtain⟨x,L',rfl,h1,h2⟩:=zw h
 subst h1
 exact⟨L',g.drop hk,h2⟩
theorem SimL.dropK (S:SimL Γ H (e::X))(hr:∀ g∈X,∀ j,e.key=some j->g.r.k.root≠some j):SimL Γ H X:=by
 obtain⟨L,g,h⟩:=S
 obtain⟨x,L',rfl,h1,h2⟩:=zw h
 subst h1
 refine⟨L',g.dropK fun y hy j hj=>hr y.e (by rw [← h2];exact List.mem_map_of_mem hy) j hj,h2⟩
noncomputable def zka (M:List Nat) (e:En):Bool:=match e.r.k.root with
 | some j=>!M.contains j
 | none=>true
noncomputable def zk (M:List Nat) (E:List En):List En:=E.filter (zka M)
theorem keepE_nil (e:En):zka [] e=true:=by unfold zka;split<;>rfl
theorem zqb (E:List En):zk [] E=E:=by unfold zk;rw [List.filter_eq_self];intro a _;exact keepE_nil a
theorem zy (M:List Nat)(A B:List En):zk M (A++B)=zk M A++zk M B:=List.filter_append ..
theorem keepE_app (M N:List Nat)(e:En):zka (M++N) e=(zka N e && zka M e):=by
 unfold zka
 split
 ·rename_i j _
  by_cases h1:j∈M<;>by_cases h2:j∈N<;>simp [h1,h2]
 ·rfl
theorem zi (M N:List Nat)(E:List En):zk N (zk M E)=zk (M++N) E:=by
 unfold zk
 rw [List.filter_filter]
 congr 1
 funext e
 rw [keepE_app]
theorem SimL.kill (S:SimL Γ H X)(M:List Nat):SimL Γ H (zk M X):=by
 obtain⟨L,g,h⟩:=S
 refine⟨L.filter fun x=>zka M x.e,g.filter _ fun x _ ho=>?_,?_⟩
 ·unfold zka
  cases k:x.e.r.k with
  | vw r p=>rw [k] at ho;cases ho
  | ow=>rfl
  | io _=>rfl
 ·rw [← h];unfold zk;rw [List.filter_map];rfl
theorem SimL.push (S:SimL Γ H X){v:V}{i:I}(h:RpI Γ.K H i v):SimL Γ H (⟨none,v,⟨.ow,.im i⟩⟩::X):=by
 obtain⟨L,g,hX⟩:=S
 exact⟨_,g.push (v:=v) (r:=⟨.ow,.im i⟩) (zfj h) (fun a ha=>by cases ha) (.inr rfl),by rw [List.map_cons,hX]⟩
theorem SimL.rekey (S:SimL Γ H (e::X))(hk:e.key=none){key:Option Nat}(hn:∀ j,key=some j->∀ g∈X,g.key≠some j):SimL Γ H (⟨key,e.v,e.r⟩::X):=by
 obtain⟨L,g,h⟩:=S
 obtain⟨x,L',rfl,h1,h2⟩:=zw h
 subst h1
 refine⟨_,g.rekey hk (key:=key) fun j hj hm=>?_,by rw [List.map_cons,h2]⟩
 obtain⟨y,hy,hyk⟩:=List.mem_filterMap.mp hm
 exact hn j hj y.e (by rw [← h2];exact List.mem_map_of_mem hy) hyk
theorem SimL.rd (S:SimL Γ H X)(he:e∈X):∃ F,Rp Γ.K H e.r.t e.v F:=by
 obtain⟨L,g,rfl⟩:=S
 obtain⟨h,hh,rfl⟩:=List.mem_map.mp he
 exact⟨h.F,g.rp h hh⟩
theorem SimL.view (S:SimL Γ H X)(he:e∈X){j:Nat}(hk:e.key=some j)(ho:e.r.k.isOw=true):SimL Γ H (⟨none,e.v,⟨.vw (some j) (some []),e.r.t⟩⟩::X):=by
 obtain⟨L,g,rfl⟩:=S
 obtain⟨h,hh,rfl⟩:=List.mem_map.mp he
 exact⟨_,g.push (v:=h.e.v) (r:=⟨.vw (some j) (some []),h.e.r.t⟩) (g.rp h hh) ⟨h,hh,hk,ho,fun a ha=>.inl ha,fun q hq=>by cases hq;exact⟨rfl,rfl⟩⟩ (.inl rfl),rfl⟩
theorem SimL.copy (S:SimL Γ H X)(he:e∈X)(ho:e.r.k.isOw=false):SimL Γ H (⟨none,e.v,e.r⟩::X):=by
 obtain⟨L,g,rfl⟩:=S
 obtain⟨h,hh,rfl⟩:=List.mem_map.mp he
 exact⟨_,g.push (v:=h.e.v) (r:=h.e.r) (F:=h.F) (g.rp h hh) (g.kd h hh) (.inl ho),rfl⟩
theorem SimL.part (S:SimL Γ H X)(he:e∈X){ro:Option Nat}{p:Option (List Ac)}(ho:e.r.k = .vw ro p){P:V->Prop}{s:T}(hp:∀ F,Rp Γ.K H e.r.t e.v F->∃ w G,P w/\Rp Γ.K H s w G/\∀ a∈G,a∈F):∃ w,P w/\SimL Γ H (⟨none,w,⟨.vw ro none,s⟩⟩::X):=by
 obtain⟨L,g,rfl⟩:=S
 obtain⟨h,hh,rfl⟩:=List.mem_map.mp he
 obtain⟨w,G,h1,h2,h3⟩:=hp h.F (g.rp h hh)
 refine⟨w,h1,_,g.push (v:=w) (r:=⟨.vw ro none,s⟩) (F:=G) h2 ?_ (.inl rfl),rfl⟩
 have k:=g.kd h hh
 unfold KdOk at k ⊢
 rw [ho] at k
 cases ro with
 | none=>exact fun a ha=>k a (h3 a ha)
 | some j=>
  obtain⟨x,x1,x2,x3,x4,x5⟩:=k
  exact⟨x,x1,x2,x3,fun a ha=>x4 a (h3 a ha),fun q hq=>by cases hq⟩
theorem SimL.partP (S:SimL Γ H X)(he:e∈X){j:Nat}{q:List Ac}(ho:e.r.k = .vw (some j) (some q)){a:Ac}{s:T}(hs:sub1 e.r.t a=some s):∃ w,at1 Γ.K H e.v a w/\SimL Γ H (⟨none,w,⟨.vw (some j) (some (q++[a])),s⟩⟩::X):=by
 obtain⟨L,g,rfl⟩:=S
 obtain⟨h,hh,rfl⟩:=List.mem_map.mp he
 have k:=g.kd h hh
 unfold KdOk at k
 rw [ho] at k
 obtain⟨x,x1,x2,x3,x4,x5⟩:=k
 obtain⟨y1,y2⟩:=x5 q rfl
 have ms:x.e.r.t.sub (q++[a])=some s:=sub_app y1 hs
 obtain⟨w,A,G,B,z1,z2,z3,_⟩:=(g.rp x x1).atP (g.muF x1 x3) (g.ndF x1 x3) ms
 obtain⟨w0,A0,G0,B0,u1,u2,u3,_⟩:=(g.rp x x1).atP (g.muF x1 x3) (g.ndF x1 x3) y1
 have ew:=zxh u1 y2
 subst ew
 have nG:G0.Nodup:=by
  have:=g.ndF x1 x3
  rw [u3] at this
  exact (List.nodup_append.mp (List.nodup_append.mp this).1).2.1
 have mG:∀ b∈G0,Mu H b:=fun b hb=>g.muF x1 x3 b (by rw [u3];exact yaL _ (yaR _ hb))
 obtain⟨w',A',G',B',v1,v2,v3,_⟩:=u2.at1 mG nG hs
 have e2:=zxh (atP_app u1 v1) z1
 subst e2
 refine⟨w',v1,_,g.push (v:=w') (r:=⟨.vw (some j) (some (q++[a])),s⟩) (F:=G) z2 ⟨x,x1,x2,x3,fun b hb=>.inl (by rw [z3];exact yaL _ (yaR _ hb)),fun q' hq=>?_⟩ (.inl rfl),rfl⟩
 cases hq
 exact⟨ms,z1⟩
noncomputable def temps:List V->List T->List En
 | v::vs,t::ts=>⟨none,v,⟨.ow,t⟩⟩::temps vs ts
 | _,_=>[]
theorem zfk:∀ {vs:List V} {ts:List T} {L:List Hd},vs.length=ts.length->L.map (·.e)=temps vs ts->(∀ h∈L,Rp Γ.K H h.e.r.t h.e.v h.F)->Rps Γ.K H ts vs (L.flatMap (·.F))/\∀ h∈L,h.e.r.k = .ow/\h.e.key=none
 | [],[],L,_,h,_=>by
  have:L = []:=List.map_eq_nil_iff.mp h
  subst this
  exact⟨Rps.nil,by simp⟩
 | v::vs,t::ts,L,hl,h,hr=>by
  obtain⟨x,L',rfl,h1,h2⟩:=zw h
  obtain⟨r1,r2⟩:=zfk (vs:=vs) (ts:=ts) (by simpa using hl) h2 fun y hy=>hr y (ymC _ hy)
  have rx:=hr x ymS
  rw [h1] at rx
  rw [List.flatMap_cons]
  refine⟨Rps.cons rx r1,fun y hy=>?_⟩
  rcases ycM hy with rfl | hy
  ·rw [h1];exact⟨rfl,rfl⟩
  ·exact r2 y hy
 | [],_::_,_,h,_,_=>by cases h
 | _::_,[],_,h,_,_=>by cases h
theorem SimL.use {vs:List V}{ts:List T}(S:SimL Γ H (temps vs ts++X))(hl:vs.length=ts.length):∃ F,Rps Γ.K H ts vs F/\F.Nodup/\(∀ a∈F,Mu H a) ∧
  ∀ H' v t F',OffM F H H'->(∀ a∈F,∃ o,H' a=some o)->F'.Nodup->(∀ a∈F',(a∈F ∨ H a=none)/\Mu H' a)->Rp Γ.K H' t v F'->SimL Γ H' (⟨none,v,⟨.ow,t⟩⟩::X):=by
 obtain⟨L,g,h⟩:=S
 obtain⟨hs,L2,rfl,h1,h2⟩:=zde h
 obtain⟨r1,r2⟩:=zfk hl h1 fun y hy=>g.rp y (yaL _ hy)
 have ho:∀ h∈hs,h.e.r.k.isOw=true:=fun h hh=>by rw [(r2 h hh).1];rfl
 have nd:=g.nd
 rw [List.flatMap_append,zjh ho] at nd
 refine⟨_,r1,(List.nodup_append.mp nd).1,fun a ha=>(g.ad a (by rw [List.flatMap_append,zjh ho];exact yaL _ ha)).1,fun H' v t F' off dom nd' hF rp=>?_⟩
 refine⟨_,g.step ho (fun x _ y hy j hj=>by rw [(r2 y hy).2] at hj;cases hj) off dom (key:=none) (v:=v) (r:=⟨.ow,t⟩) nd' hF rp (.inl ⟨rfl,fun y hy=>(r2 y hy).1⟩) (fun j hj=>by cases hj),by rw [List.map_cons,h2]⟩
theorem SimL.mutP {vs:List V}{ts:List T}{p:List Ac}{s:T}(S:SimL Γ H (e::temps vs ts++X))(hl:vs.length=ts.length)(ho:e.r.k.isOw=true)(hr:∀ g∈X,∀ j,e.key=some j->g.r.k.root≠some j)(hs:e.r.t.sub p=some s)(hX:∀ j,e.key=some j->∀ g∈X,g.key≠some j) :
  ∃ w G F,atP Γ.K H e.v p w/\Rp Γ.K H s w G/\Rps Γ.K H ts vs F/\(G++F).Nodup/\(∀ a∈G++F,Mu H a) ∧
  ∀ H' s' G',OffM G H H'->(∀ a∈G,∃ o,H' a=some o)->G'.Nodup->(∀ a∈G',(a∈G++F ∨ H a=none)/\Mu H' a)->Rp Γ.K H' s' w G'->SimL Γ H' (⟨e.key,e.v,⟨e.r.k,e.r.t.put p s'⟩⟩::X):=by
 obtain⟨L,g,h⟩:=S
 rw [List.cons_append] at h
 obtain⟨x,L',rfl,h1,h2⟩:=zw h
 obtain⟨hs',L2,rfl,h3,h4⟩:=zde h2
 subst h1
 obtain⟨r1,r2⟩:=zfk hl h3 fun y hy=>g.rp y (ymC _ (yaL _ hy))
 have ho':∀ h∈x::hs',h.e.r.k.isOw=true:=fun h hh=>by
  rcases ycM hh with rfl | hh
  ·exact ho
  ·rw [(r2 h hh).1];rfl
 have nx:=g.ndF ymS ho
 obtain⟨w,A,G,B,z1,z2,z3,z4⟩:=(g.rp x ymS).atP (g.muF ymS ho) nx hs
 have nd:=g.nd
 rw [show x::(hs'++L2)=(x::hs')++L2 from rfl,List.flatMap_append,zjh ho'] at nd
 have nd1:=(List.nodup_append.mp nd).1
 rw [List.flatMap_cons,z3] at nd1
 have mu:∀ a∈(x::hs').flatMap (·.F),Mu H a:=fun a ha=>(g.ad a (by rw [show x::(hs'++L2)=(x::hs')++L2 from rfl,List.flatMap_append,zjh ho'];exact yaL _ ha)).1
 have inM:∀ a,a∈G++hs'.flatMap (·.F)->a∈(x::hs').flatMap (·.F):=fun a ha=>by
  rw [List.flatMap_cons,z3]
  rcases yaM ha with z | z
  ·exact yaL _ (yaL _ (yaR _ z))
  ·exact yaR _ z
 have ndA:=(List.nodup_append.mp nd1)
 have ndG:(G++hs'.flatMap (·.F)).Nodup:=List.nodup_append.mpr ⟨(List.nodup_append.mp (List.nodup_append.mp ndA.1).1).2.1,ndA.2.1,fun a ha b hb=>ndA.2.2 a (yaL _ (yaR _ ha)) b hb⟩
 refine⟨w,G,hs'.flatMap (·.F),z1,z2,r1,ndG,fun a ha=>mu a (inM a ha),fun H' s' G' off dom nd' hG rp=>?_⟩
 have apAB:∀ a,(a∈A ∨ a∈B)->a ∉ G++hs'.flatMap (·.F):=fun a ha hm=>by
  rcases yaM hm with z | z
  ·rcases ha with q | q
   ·exact (List.nodup_append.mp (List.nodup_append.mp ndA.1).1).2.2 a q a z rfl
   ·exact (List.nodup_append.mp ndA.1).2.2 a (yaR _ z) a q rfl
  ·rcases ha with q | q
   ·exact ndA.2.2 a (yaL _ (yaL _ q)) a z rfl
   ·exact ndA.2.2 a (yaR _ q) a z rfl
 have rp':=z4 H' s' G' off rp
 refine⟨_,g.step (hs:=x::hs') (L:=L2) ho' (fun y hy z hz j hj=>?_) (off.mono fun a ha=>inM a (yaL _ ha)) (fun a ha=>?_) (key:=x.e.key) (v:=x.e.v) (r:=⟨x.e.r.k,x.e.r.t.put p s'⟩) (F:=A++G'++B) ?_ (fun a ha=>?_) rp' ?_ (fun j hj hm=>?_),by rw [List.map_cons,h4]⟩
 ·rcases ycM hz with rfl | hz
  ·exact hr y.e (by rw [← h4];exact List.mem_map_of_mem hy) j hj
  ·rw [(r2 z hz).2] at hj;cases hj
 ·by_cases hm:a∈G
  ·exact dom a hm
  ·obtain⟨o,e1,_⟩:=mu a ha
   exact⟨o,off a o e1 hm⟩
 ·have ab:=List.nodup_append.mp ndA.1
  have aG:=List.nodup_append.mp ab.1
  have nG:∀ a,(a∈A ∨ a∈B)->a ∉ G':=fun a ha hg=>by
   rcases (hG a hg).1 with z | z
   ·exact apAB a ha z
   ·have:Mu H a:=mu a (by
     rw [List.flatMap_cons,z3]
     rcases ha with q | q
     ·exact yaL _ (yaL _ (yaL _ q))
     ·exact yaL _ (yaR _ q))
    obtain⟨o,e1,_⟩:=this
    rw [z] at e1;cases e1
  refine List.nodup_append.mpr ⟨List.nodup_append.mpr ⟨aG.1,nd',fun a ha b hb e=>nG a (.inl ha) (e ▸ hb)⟩,ab.2.1,fun a ha b hb e=>?_⟩
  subst e
  rcases yaM ha with z | z
  ·exact ab.2.2 a (yaL _ z) a hb rfl
  ·exact nG a (.inr hb) z
 ·have old:a∈A ∨ a∈B->(a∈(x::hs').flatMap (·.F) ∨ H a=none)/\Mu H' a:=fun q=>by
   have hm:a∈(x::hs').flatMap (·.F):=by
    rw [List.flatMap_cons,z3]
    rcases q with q | q
    ·exact yaL _ (yaL _ (yaL _ q))
    ·exact yaL _ (yaR _ q)
   obtain⟨o,e1,m1⟩:=mu a hm
   exact⟨.inl hm,o,off a o e1 (fun z=>apAB a q (yaL _ z)),m1⟩
  rcases yaM ha with z | z
  ·rcases yaM z with z | z
   ·exact old (.inl z)
   ·exact⟨(hG a z).1.imp (inM a) id,(hG a z).2⟩
  ·exact old (.inr z)
 ·have k:=g.kd x ymS
  unfold KdOk at k
  cases ek:x.e.r.k with
  | ow=>
   refine .inl ⟨rfl,fun y hy=>?_⟩
   rcases ycM hy with rfl | hy
   ·exact ek
   ·exact (r2 y hy).1
  | io n=>rw [ek] at k;exact .inr ⟨n,rfl,k⟩
  | vw a b=>rw [ek] at ho;cases ho
 ·obtain⟨y,hy,hyk⟩:=List.mem_filterMap.mp hm
  exact hX j hj y.e (by rw [← h4];exact List.mem_map_of_mem hy) hyk
end
abbrev Rho:=List (Option R)
noncomputable def ents:Nat->List (Option V)->Rho->List En
 | i,some v::σ,some r::ρ=>⟨some i,v,r⟩::ents (i+1) σ ρ
 | i,none::σ,_::ρ=>ents (i+1) σ ρ
 | i,some _::σ,none::ρ=>ents (i+1) σ ρ
 | _,_,_=>[]
theorem zeb {r:R}:∀ {k:Nat} {σ:List (Option V)} {ρ:Rho} {i:Nat} {v:V},σ[i]?=some (some v)->ρ[i]?=some (some r)->(ents k σ ρ).Perm (⟨some (k+i),v,r⟩::ents k σ (ρ.set i none))
 | _,[],_,_,_,h,_=>by simp at h
 | _,_::_,[],_,_,_,h=>by simp at h
 | k,x::σ,y::ρ,0,v,h1,h2=>by
  simp at h1 h2
  subst h1 h2
  simp [ents]
 | k,x::σ,y::ρ,i+1,v,h1,h2=>by
  have ih:=zeb (k:=k+1) (σ:=σ) (ρ:=ρ) (i:=i) (v:=v) (r:=r) (by simpa using h1) (by simpa using h2)
  rw [show k+1+i=k+(i+1) by omega] at ih
  cases x with
  | none=>simpa [ents] using ih
  | some x=>
   cases y with
   | none=>simpa [ents] using ih
   | some y=>
    simp only [ents,List.set_cons_succ]
    exact (List.Perm.cons _ ih).trans (List.Perm.swap _ _ _)
theorem ents_none:∀ {k:Nat} {σ:List (Option V)} {ρ:Rho} {i:Nat} {x:Option V},ents k (σ.set i x) (ρ.set i none)=ents k σ (ρ.set i none)
 | _,[],ρ,_,_=>rfl
 | _,x::σ,[],i,y=>by cases i<;>cases x<;>simp [ents]<;>cases y<;>simp [ents]
 | _,x::σ,y::ρ,0,z=>by cases x<;>cases z<;>simp [ents]
 | k,x::σ,y::ρ,i+1,z=>by
  have ih:=ents_none (k:=k+1) (σ:=σ) (ρ:=ρ) (i:=i) (x:=z)
  cases x<;>cases y<;>simp [ents,ih]
theorem zfg {k:Nat}{σ:List (Option V)}{ρ:Rho}{i:Nat}{v:V}{r:R}(h1:i < σ.length)(h2:i < ρ.length):(ents k (σ.set i (some v)) (ρ.set i (some r))).Perm (⟨some (k+i),v,r⟩::ents k σ (ρ.set i none)):=by
 have:=zeb (k:=k) (σ:=σ.set i (some v)) (ρ:=ρ.set i (some r)) (i:=i) (v:=v) (r:=r) (by simp [h1]) (by simp [h2])
 rw [List.set_set,ents_none] at this
 exact this
theorem zzc {e:En}:∀ {k:Nat} {σ:List (Option V)} {ρ:Rho},e∈ents k σ ρ->∃ i,e.key=some (k+i)/\ρ[i]?=some (some e.r)/\σ[i]?=some (some e.v)
 | _,[],_,h=>by simp [ents] at h
 | _,x::_,[],h=>by cases x<;>simp [ents] at h
 | k,x::σ,y::ρ,h=>by
  have go:e∈ents (k+1) σ ρ->∃ i,e.key=some (k+i)/\(y::ρ)[i]?=some (some e.r)/\(x::σ)[i]?=some (some e.v):=fun h=>by
   obtain⟨i,h1,h2,h3⟩:=zzc h
   exact⟨i+1,by rw [h1];congr 1;omega,by simpa using h2,by simpa using h3⟩
  cases x with
  | none=>simp only [ents] at h;exact go h
  | some x=>
   cases y with
   | none=>simp only [ents] at h;exact go h
   | some y=>
    simp only [ents] at h
    rcases ycM h with rfl | h
    ·exact⟨0,rfl,rfl,rfl⟩
    ·exact go h
noncomputable def zpf (M:List Nat) (r:R):Bool:=match r.k.root with
 | some j=>!M.contains j
 | none=>true
noncomputable def zae (M:List Nat):Option R->Option R
 | some r=>if zpf M r=true then some r else none
 | none=>none
noncomputable def zv (M:List Nat) (ρ:Rho):Rho:=ρ.map (zae M)
theorem zba (M:List Nat)(ρ:Rho):(zv M ρ).length=ρ.length:=by unfold zv;rw [List.length_map]
theorem zre (M:List Nat):∀ {k:Nat} {σ:List (Option V)} {ρ:Rho},ents k σ (zv M ρ)=zk M (ents k σ ρ)
 | _,[],_=>rfl
 | _,x::_,[]=>by cases x<;>rfl
 | k,x::σ,y::ρ=>by
  have ih:=zre M (k:=k+1) (σ:=σ) (ρ:=ρ)
  have e:zv M (y::ρ)=zae M y::zv M ρ:=rfl
  rw [e]
  cases x with
  | none=>simpa [ents] using ih
  | some v=>
   cases y with
   | none=>simpa [ents,zae] using ih
   | some r=>
    have hk:zka M ⟨some k,v,r⟩=zpf M r:=rfl
    cases q:zpf M r with
    | true=>simp only [ents,zae,q,if_true,zk,List.filter_cons,hk,ih]
    | false=>
     simp only [ents,zae,q,zk,List.filter_cons,hk,ih]
     simp [ents,ih,zk]
theorem killR_get {M:List Nat}{ρ:Rho}{i:Nat}{r:R}(h:(zv M ρ)[i]?=some (some r)) : ρ[i]?=some (some r):=by
 unfold zv at h
 rw [List.getElem?_map] at h
 cases q : ρ[i]? with
 | none=>rw [q] at h;cases h
 | some o=>
  rw [q] at h
  cases o with
  | none=>cases h
  | some x=>
   have h':zae M (some x)=some r:=by simpa using h
   simp only [zae] at h'
   split at h'
   ·rw [Option.some.inj h']
   ·exact absurd h' (by simp)
theorem killR_own {M:List Nat}{ρ:Rho}{i:Nat}{r:R}(h : ρ[i]?=some (some r))(ho:r.k.isOw=true):(zv M ρ)[i]?=some (some r):=by
 unfold zv
 rw [List.getElem?_map,h]
 have:zpf M r=true:=by
  unfold zpf
  cases e:r.k with
  | vw a b=>rw [e] at ho;cases ho
  | ow=>rfl
  | io _=>rfl
 simp [zae,this]
structure Sim (Γ:Gm)(H:Hp)(ρ:Rho)(σ:St)(E:List En):Prop where
 sl:SimL Γ H (E++ents 0 σ ρ)
 al:∀ (i:Nat) r,ρ[i]?=some (some r)->∃ v,σ[i]?=some (some v)
 len : σ.length=ρ.length
 hi:∀ e∈E,∀ j,e.key=some j->ρ.length<=j
section
variable  {Γ:Gm}{H H':Hp}{ρ:Rho}{σ:St}{E E':List En}{e:En}{r:R}{v w x:V}{i j:Nat}{t s:T}
theorem Sim.perm (S:Sim Γ H ρ σ E)(p:E.Perm E'):Sim Γ H ρ σ E':=⟨S.sl.perm (p.append_right _),S.al,S.len,fun e he=>S.hi e (p.mem_iff.mpr he)⟩
theorem Sim.drop (S:Sim Γ H ρ σ (e::E))(hk:e.key=none):Sim Γ H ρ σ E:=⟨S.sl.drop hk,S.al,S.len,fun x hx=>S.hi x (ymC _ hx)⟩
theorem Sim.swap {f:En}(S:Sim Γ H ρ σ (e::f::E)):Sim Γ H ρ σ (f::e::E):=S.perm (List.Perm.swap _ _ _)
theorem Sim.imm (S:Sim Γ H ρ σ E){i:I}(h:RpI Γ.K H i v):Sim Γ H ρ σ (⟨none,v,⟨.ow,.im i⟩⟩::E):=
 ⟨S.sl.push h,S.al,S.len,fun x hx j hj=>by
  rcases ycM hx with rfl | hx
  ·cases hj
  ·exact S.hi x hx j hj⟩
theorem Sim.rd (S:Sim Γ H ρ σ E)(he:e∈E):∃ F,Rp Γ.K H e.r.t e.v F:=S.sl.rd (yaL _ he)
theorem Sim.slot (S:Sim Γ H ρ σ E)(h : ρ[i]?=some (some r)):∃ v,σ[i]?=some (some v)/\(⟨some i,v,r⟩:En)∈E++ents 0 σ ρ:=by
 obtain⟨v,hv⟩:=S.al i r h
 refine⟨v,hv,yaR _ ((zeb hv h).mem_iff.mpr ?_)⟩
 rw [Nat.zero_add];exact ymS
noncomputable def rdR (i:Nat):R->R
 | ⟨.ow,.im x⟩=>⟨.ow,.im x⟩
 | ⟨.vw a b,t⟩=>⟨.vw a b,t⟩
 | ⟨_,t⟩=>⟨.vw (some i) (some []),t⟩
theorem Sim.cons (S:Sim Γ H ρ σ E)(h:SimL Γ H' (⟨none,v,r⟩::(E++ents 0 σ ρ))):Sim Γ H' ρ σ (⟨none,v,r⟩::E):=
 ⟨h,S.al,S.len,fun x hx j hj=>by
  rcases ycM hx with rfl | hx
  ·cases hj
  ·exact S.hi x hx j hj⟩
theorem Sim.var (S:Sim Γ H ρ σ E)(h : ρ[i]?=some (some r)):∃ v,σ[i]?=some (some v)/\Sim Γ H ρ σ (⟨none,v,rdR i r⟩::E):=by
 obtain⟨v,hv,hm⟩:=S.slot h
 refine⟨v,hv,S.cons ?_⟩
 obtain⟨k,t⟩:=r
 cases k with
 | vw a b=>exact S.sl.copy (e:=⟨some i,v,⟨.vw a b,t⟩⟩) hm rfl
 | io n=>
  have:=S.sl.view (e:=⟨some i,v,⟨.io n,t⟩⟩) hm rfl rfl
  cases t<;>exact this
 | ow=>
  cases t with
  | im x=>
   obtain⟨F,rp⟩:=S.sl.rd hm
   exact S.sl.push (zya rp).1
  | tup _=>exact S.sl.view (e:=⟨some i,v,⟨.ow,_⟩⟩) hm rfl rfl
  | li _=>exact S.sl.view (e:=⟨some i,v,⟨.ow,_⟩⟩) hm rfl rfl
  | lst _=>exact S.sl.view (e:=⟨some i,v,⟨.ow,_⟩⟩) hm rfl rfl
  | di _=>exact S.sl.view (e:=⟨some i,v,⟨.ow,_⟩⟩) hm rfl rfl
  | dc _=>exact S.sl.view (e:=⟨some i,v,⟨.ow,_⟩⟩) hm rfl rfl
  | ins _ _=>exact S.sl.view (e:=⟨some i,v,⟨.ow,_⟩⟩) hm rfl rfl
theorem Sim.kill (S:Sim Γ H ρ σ E)(M:List Nat):Sim Γ H (zv M ρ) σ (zk M E):=by
 refine⟨?_,fun i r h=>S.al i r (killR_get h),by rw [zba];exact S.len,fun x hx j hj=>by rw [zba];exact S.hi x (List.mem_filter.mp hx).1 j hj⟩
 rw [zre,← zy]
 exact S.sl.kill M
theorem noroot {M:List Nat}{X:List En}(hi:i∈M):∀ g∈zk M X,g.r.k.root≠some i:=fun g hg z=>by
 have:=(List.mem_filter.mp hg).2
 unfold zka at this
 rw [z] at this
 simp [hi] at this
theorem Sim.out (S:Sim Γ H ρ σ E)(h : ρ[i]?=some (some r))(ho:r.k.isOw=true):∃ v,σ[i]?=some (some v)/\SimL Γ H (⟨some i,v,r⟩::(zk [i] E++ents 0 σ ((zv [i] ρ).set i none))) ∧
  (∀ g∈zk [i] E++ents 0 σ ((zv [i] ρ).set i none),g.r.k.root≠some i)/\∀ g∈zk [i] E++ents 0 σ ((zv [i] ρ).set i none),g.key≠some i:=by
 obtain⟨v,hv⟩:=S.al i r h
 have S2:=S.kill [i]
 have h2:=killR_own (M:=[i]) h ho
 have hil:i < ρ.length:=(List.getElem?_eq_some_iff.mp h).1
 refine⟨v,hv,S2.sl.perm ?_,fun g hg=>?_,fun g hg hk=>?_⟩
 ·have:=(zeb (k:=0) hv h2).append_left (zk [i] E)
  rw [Nat.zero_add] at this
  exact this.trans List.perm_middle
 ·rcases yaM hg with z | z
  ·exact noroot (by simp) g z
  ·have:g∈ents 0 σ (zv [i] ρ):=by
    obtain⟨m,h1,h3,h4⟩:=zzc z
    have hm:m≠i:=fun e=>by subst e;simp [zba,hil] at h3
    rw [List.getElem?_set_ne (Ne.symm hm)] at h3
    have:=(zeb (k:=0) h4 h3).mem_iff.mpr (ymS)
    have e:g=⟨some (0+m),g.v,g.r⟩:=by cases g;simp only [En.mk.injEq,and_self,and_true];exact h1
    rw [e];exact this
   rw [zre] at this
   exact noroot (by simp) g this
 ·rcases yaM hg with z | z
  ·have:=S2.hi g z i hk
   rw [zba] at this
   omega
  ·obtain⟨m,h1,h3,h4⟩:=zzc z
   rw [hk,Nat.zero_add] at h1
   cases h1
   simp [zba,hil] at h3
theorem Sim.back (S:Sim Γ H ρ σ E){ρ':Rho}{σ':St}(h:SimL Γ H' (E'++ents 0 σ' ρ'))(hl : ρ'.length=ρ.length)(hσ : σ'.length=σ.length)(al:∀ (i:Nat) r,ρ'[i]?=some (some r)->∃ v,σ'[i]?=some (some v))(hi:∀ e∈E',∀ j,e.key=some j->e∈E):Sim Γ H' ρ' σ' E':=
 ⟨h,al,by rw [hl,hσ];exact S.len,fun e he j hj=>by rw [hl];exact S.hi e (hi e he j hj) j hj⟩
noncomputable def zri (ρ:Rho) (i:Nat):Bool:=match ρ[i]? with
 | some (some ⟨.io _,_⟩)=>false
 | some _=>true
 | none=>false
theorem al_set {ρ:Rho}{σ:St}(al:∀ (i:Nat) r,ρ[i]?=some (some r)->∃ v,σ[i]?=some (some v))(h1:i < σ.length):∀ (m:Nat) r',(ρ.set i (some r))[m]?=some (some r')->∃ v',(σ.set i (some v))[m]?=some (some v'):=fun m r' hm=>by
 by_cases e:m=i
 ·subst e;exact⟨v,by simp [h1]⟩
 ·rw [List.getElem?_set_ne (Ne.symm e)] at hm ⊢;exact al m r' hm
theorem Sim.put (S:Sim Γ H ρ σ (⟨none,v,r⟩::E))(hi:zri ρ i=true)(hr:r.k.root≠some i):Sim Γ H ((zv [i] ρ).set i (some r)) (σ.set i (some v)) (zk [i] E):=by
 have hil:i < ρ.length:=by
  unfold zri at hi
  cases q : ρ[i]? with
  | none=>rw [q] at hi;cases hi
  | some o=>exact (List.getElem?_eq_some_iff.mp q).1
 have hiσ:i < σ.length:=by rw [S.len];exact hil
 have hkeep:zka [i] ⟨none,v,r⟩=true:=by
  unfold zka
  split
  ·rename_i j hj
   have:j≠i:=fun z=>hr (z ▸ hj)
   simp [this]
  ·rfl
 have ek:zk [i] (⟨none,v,r⟩::E)=⟨none,v,r⟩::zk [i] E:=by unfold zk;rw [List.filter_cons,if_pos hkeep]
 have S2:=S.kill [i]
 rw [ek] at S2
 have S3:SimL Γ H (⟨none,v,r⟩::(zk [i] E++ents 0 σ ((zv [i] ρ).set i none)))/\∀ g∈zk [i] E++ents 0 σ ((zv [i] ρ).set i none),g.key≠some i:=by
  cases q:(zv [i] ρ)[i]? with
  | none=>rw [List.getElem?_eq_none_iff,zba] at q;omega
  | some o=>
   cases o with
   | none=>
    have e:(zv [i] ρ).set i none=zv [i] ρ:=by
     apply List.ext_getElem?
     intro m
     by_cases hm:m=i
     ·subst hm;rw [q];simp [zba,hil]
     ·rw [List.getElem?_set_ne (Ne.symm hm)]
    rw [e]
    refine⟨S2.sl,fun g hg hk=>?_⟩
    rcases yaM hg with z | z
    ·have:=S2.hi g (ymC _ z) i hk
     rw [zba] at this;omega
    ·obtain⟨m,h1,h3,h4⟩:=zzc z
     rw [hk,Nat.zero_add] at h1;cases h1
     rw [q] at h3;cases h3
   | some r0=>
    have q0:=killR_get q
    by_cases ho:r0.k.isOw=true
    ·obtain⟨v0,hv0,h1,h2,h3⟩:=S.out q0 ho
     rw [ek] at h1 h2 h3
     refine⟨h1.dropK fun g hg j hj=>by cases hj;exact h2 g hg,fun g hg=>h3 g (ymC _ hg)⟩
    ·obtain⟨v0,hv0⟩:=S.al i r0 q0
     have p:=(zeb (k:=0) hv0 q).append_left (⟨none,v,r⟩::zk [i] E)
     rw [Nat.zero_add] at p
     have h1:=S2.sl.perm (p.trans List.perm_middle)
     refine⟨h1.dropK fun g hg j hj=>?_,fun g hg hk=>?_⟩
     ·cases hj
      have h1':g∈zk [i] (⟨none,v,r⟩::E)++zk [i] (ents 0 σ ρ):=by
       rw [ek,← zre]
       rcases yaM hg with z | z
       ·exact yaL _ z
       ·refine yaR _ ?_
        obtain⟨m,h1,h3,h4⟩:=zzc z
        have hm:m≠i:=fun e=>by subst e;simp [zba,hil] at h3
        rw [List.getElem?_set_ne (Ne.symm hm)] at h3
        have:=(zeb (k:=0) h4 h3).mem_iff.mpr (ymS)
        have e:g=⟨some (0+m),g.v,g.r⟩:=by cases g;simp only [En.mk.injEq,and_self,and_true];exact h1
        rw [e];exact this
      rw [← zy] at h1'
      exact noroot (by simp) g h1'
     ·rcases yaM hg with z | z
      ·have:=S2.hi g (ymC _ z) i hk
       rw [zba] at this;omega
      ·obtain⟨m,h1,h3,h4⟩:=zzc z
       rw [hk,Nat.zero_add] at h1;cases h1
       simp [zba,hil] at h3
 obtain⟨S3,hks⟩:=S3
 have S4:=S3.rekey (e:=⟨none,v,r⟩) rfl (key:=some i) fun j hj g hg=>by cases hj;exact hks g hg
 refine S2.back (S4.perm ?_) (by simp [zba]) (by simp) (al_set S2.al hiσ) (fun e he j hj=>ymC _ he)
 have p:=(zfg (k:=0) (σ:=σ) (ρ:=zv [i] ρ) (v:=v) (r:=r) hiσ (by rw [zba];exact hil)).append_left (zk [i] E)
 rw [Nat.zero_add] at p
 exact (List.perm_middle.symm).trans p.symm
theorem Sim.mut {vs:List V}{ts:List T}{p:List Ac}{k:Kd}(S:Sim Γ H ρ σ (temps vs ts++⟨none,w,⟨.vw (some i) (some p),s⟩⟩::E))(hl:vs.length=ts.length)(h : ρ[i]?=some (some ⟨k,t⟩))(ho:k.isOw=true) :
  ∃ G F,Rp Γ.K H s w G/\Rps Γ.K H ts vs F/\(G++F).Nodup/\(∀ a∈G++F,Mu H a) ∧
  ∀ H' s' G',OffM G H H'->(∀ a∈G,∃ o,H' a=some o)->G'.Nodup->(∀ a∈G',(a∈G++F ∨ H a=none)/\Mu H' a)->Rp Γ.K H' s' w G'->Sim Γ H' ((zv [i] ρ).set i (some ⟨k,t.put p s'⟩)) σ (zk [i] E):=by
 have hil:i < ρ.length:=(List.getElem?_eq_some_iff.mp h).1
 obtain⟨v0,hv0,hm⟩:=S.slot h
 have pl:t.sub p=some s/\atP Γ.K H v0 p w:=by
  obtain⟨L,g,e⟩:=S.sl
  have:(⟨none,w,⟨.vw (some i) (some p),s⟩⟩:En)∈L.map (·.e):=by rw [e];simp
  obtain⟨y,hy,ey⟩:=List.mem_map.mp this
  have kd:=g.kd y hy
  unfold KdOk at kd
  rw [ey] at kd
  obtain⟨x,x1,x2,x3,x4,x5⟩:=kd
  have hm':(⟨some i,v0,⟨k,t⟩⟩:En)∈L.map (·.e):=by rw [e];exact hm
  obtain⟨z,hz,ez⟩:=List.mem_map.mp hm'
  have:x=z:=by
   have nk:=g.ks
   by_cases q:x=z
   ·exact q
   ·exfalso
    obtain⟨A,B,rfl⟩:=List.append_of_mem x1
    rw [List.filterMap_append,List.filterMap_cons,x2] at nk
    rcases yaM hz with hz | hz
    ·exact (List.nodup_append.mp nk).2.2 i (List.mem_filterMap.mpr ⟨z,hz,by rw [ez]⟩) i ymS rfl
    ·rcases ycM hz with hz | hz
     ·exact q hz.symm
     ·exact (List.nodup_cons.mp (List.nodup_append.mp nk).2.1).1 (List.mem_filterMap.mpr ⟨z,hz,by rw [ez]⟩)
  subst this
  have:=x5 p rfl
  rw [ez] at this
  exact this
 obtain⟨v1,hv1,h1,h2,h3⟩:=S.out h ho
 rw [hv0] at hv1;cases hv1
 have ktemps:∀ {vs:List V} {ts:List T},zk [i] (temps vs ts)=temps vs ts:=by
  intro vs
  induction vs with
  | nil=>intro ts;rfl
  | cons v vs ih=>
   intro ts
   cases ts with
   | nil=>rfl
   | cons t ts=>show List.filter _ _=_;rw [temps,List.filter_cons,if_pos (show zka [i] ⟨none,v,⟨.ow,t⟩⟩=true from rfl)];exact congrArg _ ih
 have kv:zka [i] ⟨none,w,⟨.vw (some i) (some p),s⟩⟩=false:=by unfold zka;simp [Kd.root]
 have ek:zk [i] (temps vs ts++⟨none,w,⟨.vw (some i) (some p),s⟩⟩::E)=temps vs ts++zk [i] E:=by
  rw [zy,ktemps]
  unfold zk
  rw [List.filter_cons,if_neg (by rw [kv];simp)]
 rw [ek] at h1 h2 h3
 rw [List.append_assoc] at h1 h2 h3
 obtain⟨w',G,F,m1,m2,m3,m4,m5,m6⟩:=SimL.mutP (e:=⟨some i,v0,⟨k,t⟩⟩) (X:=zk [i] E++ents 0 σ ((zv [i] ρ).set i none)) (by rw [List.cons_append];exact h1) hl ho (fun g hg j hj=>by cases hj;exact h2 g (yaR _ hg)) pl.1 (fun j hj g hg=>by cases hj;exact h3 g (yaR _ hg))
 have ew:=zxh m1 pl.2
 subst ew
 refine⟨G,F,m2,m3,m4,m5,fun H' s' G' off dom nd hG rp=>?_⟩
 have S5:=m6 H' s' G' off dom nd hG rp
 have S2:=S.kill [i]
 refine S2.back (S5.perm ?_) (by simp [zba]) rfl (fun m r' hm=>?_) (fun e he j hj=>by rw [ek];exact yaR _ he)
 ·have p:=(zfg (k:=0) (σ:=σ) (ρ:=zv [i] ρ) (v:=v0) (r:=⟨k,t.put p s'⟩) (by rw [S.len];exact hil) (by rw [zba];exact hil)).append_left (zk [i] E)
  rw [Nat.zero_add] at p
  have eσ : σ.set i (some v0)=σ:=by
   apply List.ext_getElem?
   intro m
   by_cases hm:m=i
   ·subst hm;rw [hv0];simp [S.len,hil]
   ·rw [List.getElem?_set_ne (Ne.symm hm)]
  rw [eσ] at p
  exact (List.perm_middle.symm).trans p.symm
 ·by_cases e:m=i
  ·subst e;exact⟨v0,hv0⟩
  ·rw [List.getElem?_set_ne (Ne.symm e)] at hm;exact S2.al m r' hm
theorem Sim.move (S:Sim Γ H ρ σ (⟨none,w,⟨.vw (some i) (some []),s⟩⟩::E))(h : ρ[i]?=some (some ⟨.ow,t⟩)):Sim Γ H ((zv [i] ρ).set i none) σ (⟨none,w,⟨.ow,s⟩⟩::zk [i] E):=by
 have hil:i < ρ.length:=(List.getElem?_eq_some_iff.mp h).1
 obtain⟨v0,hv0,hm⟩:=S.slot h
 have pl:s=t/\w=v0:=by
  obtain⟨L,g,e⟩:=S.sl
  have:(⟨none,w,⟨.vw (some i) (some []),s⟩⟩:En)∈L.map (·.e):=by rw [e];simp
  obtain⟨y,hy,ey⟩:=List.mem_map.mp this
  have kd:=g.kd y hy
  unfold KdOk at kd
  rw [ey] at kd
  obtain⟨x,x1,x2,x3,x4,x5⟩:=kd
  have hm':(⟨some i,v0,⟨.ow,t⟩⟩:En)∈L.map (·.e):=by rw [e];exact hm
  obtain⟨z,hz,ez⟩:=List.mem_map.mp hm'
  have:x=z:=by
   have nk:=g.ks
   by_cases q:x=z
   ·exact q
   ·exfalso
    obtain⟨A,B,rfl⟩:=List.append_of_mem x1
    rw [List.filterMap_append,List.filterMap_cons,x2] at nk
    rcases yaM hz with hz | hz
    ·exact (List.nodup_append.mp nk).2.2 i (List.mem_filterMap.mpr ⟨z,hz,by rw [ez]⟩) i ymS rfl
    ·rcases ycM hz with hz | hz
     ·exact q hz.symm
     ·exact (List.nodup_cons.mp (List.nodup_append.mp nk).2.1).1 (List.mem_filterMap.mpr ⟨z,hz,by rw [ez]⟩)
  subst this
  have:=x5 [] rfl
  rw [ez] at this
  obtain⟨q1,q2⟩:=this
  rw [T.sub] at q1
  cases q1
  exact⟨rfl,q2⟩
 obtain⟨rfl,rfl⟩:=pl
 obtain⟨v1,hv1,h1,h2,h3⟩:=S.out h rfl
 rw [hv0] at hv1;cases hv1
 have kv:zka [i] ⟨none,w,⟨.vw (some i) (some []),s⟩⟩=false:=by unfold zka;simp [Kd.root]
 have ek:zk [i] (⟨none,w,⟨.vw (some i) (some []),s⟩⟩::E)=zk [i] E:=by
  unfold zk
  rw [List.filter_cons,if_neg (by rw [kv];simp)]
 rw [ek] at h1 h2 h3
 have S2:=S.kill [i]
 refine S2.back (E':=⟨none,w,⟨.ow,s⟩⟩::zk [i] E) ?_ (by simp [zba]) rfl (fun m r' hm=>?_) (fun e he j hj=>?_)
 ·obtain⟨L,g,e⟩:=h1
  obtain⟨x,L',rfl,e1,e2⟩:=zw e
  have:=g.step (hs:=[x]) (L:=L') (H':=H) (fun y hy=>by rw [ysM hy,e1];rfl) (fun y hy z hz j hj=>by
   rw [ysM hz,e1] at hj
   cases hj
   exact h2 y.e (by rw [← e2];exact List.mem_map_of_mem hy)) (OffM.refl _ _) (fun a ha=>by
    obtain⟨y,hy,ha⟩:=List.mem_flatMap.mp ha
    rw [ysM hy] at ha
    exact (g.rp x ymS).dom a ha) (key:=none) (v:=w) (r:=⟨.ow,s⟩) (F:=x.F) (g.ndF ymS (by rw [e1];rfl)) (fun a ha=>⟨.inl (by simpa using ha),g.muF ymS (by rw [e1];rfl) a ha⟩)
    (by have:=g.rp x ymS;rw [e1] at this;exact this) (.inl ⟨rfl,fun y hy=>by rw [ysM hy,e1]⟩) (fun j hj=>by cases hj)
  exact⟨_,this,by rw [List.map_cons,e2];rfl⟩
 ·by_cases e:m=i
  ·subst e;simp [zba,hil] at hm
  ·rw [List.getElem?_set_ne (Ne.symm e)] at hm;exact S2.al m r' hm
 ·rcases ycM he with rfl | he
  ·cases hj
  ·rw [ek];exact he
theorem Sim.use {vs:List V}{ts:List T}(S:Sim Γ H ρ σ (temps vs ts++E))(hl:vs.length=ts.length):∃ F,Rps Γ.K H ts vs F/\F.Nodup/\(∀ a∈F,Mu H a) ∧
  ∀ H' v t F',OffM F H H'->(∀ a∈F,∃ o,H' a=some o)->F'.Nodup->(∀ a∈F',(a∈F ∨ H a=none)/\Mu H' a)->Rp Γ.K H' t v F'->Sim Γ H' ρ σ (⟨none,v,⟨.ow,t⟩⟩::E):=by
 have S1:=S.sl
 rw [List.append_assoc] at S1
 obtain⟨F,h1,h2,h3,h4⟩:=S1.use hl
 refine⟨F,h1,h2,h3,fun H' v t F' a b c d e=>?_⟩
 exact⟨h4 H' v t F' a b c d e,S.al,S.len,fun x hx j hj=>by
  rcases ycM hx with rfl | hx
  ·cases hj
  ·exact S.hi x (yaR _ hx) j hj⟩
theorem Sim.same (S:Sim Γ H ρ σ E)(sm:Same H H'):Sim Γ H' ρ σ E:=by
 obtain⟨F,h1,h2,h3,h4⟩:=Sim.use (vs:=[]) (ts:=[]) S rfl
 have:=h1.nil_inv.2
 subst this
 exact (h4 H' .non (.im .non) [] (sm.offM _) (by simp) List.nodup_nil (by simp) (zfj (by rw [RpI]))).drop rfl
theorem Sim.part (S:Sim Γ H ρ σ E)(he:e∈E){ro:Option Nat}{p:Option (List Ac)}(ho:e.r.k = .vw ro p){P:V->Prop}(hp:∀ F,Rp Γ.K H e.r.t e.v F->∃ w G,P w/\Rp Γ.K H s w G/\∀ a∈G,a∈F):∃ w,P w/\Sim Γ H ρ σ (⟨none,w,⟨.vw ro none,s⟩⟩::E):=by
 obtain⟨w,h1,h2⟩:=S.sl.part (yaL _ he) ho hp
 exact⟨w,h1,S.cons h2⟩
theorem Sim.partP (S:Sim Γ H ρ σ E)(he:e∈E){q:List Ac}(ho:e.r.k = .vw (some j) (some q)){a:Ac}(hs:sub1 e.r.t a=some s):∃ w,at1 Γ.K H e.v a w/\Sim Γ H ρ σ (⟨none,w,⟨.vw (some j) (some (q++[a])),s⟩⟩::E):=by
 obtain⟨w,h1,h2⟩:=S.sl.partP (yaL _ he) ho hs
 exact⟨w,h1,S.cons h2⟩
end
structure ME where
 run:Rho->Option (R×Rho)
 mu:List Nat
structure MT where
 run:Rho->Option (Bool×Rho)
 mu:List Nat
structure MA where
 run:Rho->Option (List R×Rho)
 mu:List Nat
inductive Fl where
 | nx | rt (t:T) | bk | ct
structure MS where
 run:Rho->Option (Fl×Rho)
 mu:List Nat
structure MG where
 run:R->Rho->Option Rho
 mu:List Nat
structure MGs where
 run:List R->Rho->Option Rho
 mu:List Nat
noncomputable def ens:List V->List R->List En
 | v::vs,r::rs=>⟨none,v,r⟩::ens vs rs
 | _,_=>[]
noncomputable def alive (M:List Nat) (r:R):Bool:=zpf M r
theorem zab {M:List Nat}{r:R}{v:V}(h:alive M r=true):zka M ⟨none,v,r⟩=true:=h
theorem zt {M:List Nat}{e:En}{E:List En}(h:zka M e=true):zk M (e::E)=e::zk M E:=by unfold zk;rw [List.filter_cons,if_pos h]
theorem zei {M:List Nat}:∀ {vs:List V} {rs:List R},rs.all (alive M)=true->zk M (ens vs rs)=ens vs rs
 | [],_,_=>by cases ‹List R›<;>rfl
 | _::_,[],_=>rfl
 | v::vs,r::rs,h=>by
  rw [List.all_cons,Bool.and_eq_true] at h
  rw [ens,zt (zab h.1),zei h.2]
theorem Sim.weak {Γ:Gm}{H:Hp}{ρ:Rho}{σ:St}{E:List En}(S:Sim Γ H ρ σ E)(M:List Nat):Sim Γ H ρ σ (zk M E):=by
 refine⟨?_,S.al,S.len,fun e he=>S.hi e (List.mem_filter.mp he).1⟩
 obtain⟨L,g,h⟩:=S.sl
 obtain⟨A,B,rfl,h1,h2⟩:=zde h
 refine⟨A.filter (fun x=>zka M x.e)++B,g.sub (List.filter_sublist.append (List.Sublist.refl _)) fun x hx j hj y hy hk ho=>?_,?_⟩
 ·rcases yaM hy with z | z
  ·refine yaL _ (List.mem_filter.mpr ⟨z,?_⟩)
   unfold zka
   cases e:y.e.r.k with
   | vw a b=>rw [e] at ho;cases ho
   | ow=>rfl
   | io _=>rfl
  ·exact yaR _ z
 ·rw [List.map_append,h2,← h1]
  unfold zk
  rw [List.filter_map];rfl
def RefE (K:yF)(te:TE)(m:ME):Prop:=∀ (Γ:Gm) (H:Hp) (ρ:Rho) (σ:St) (E:List En) (Q:VK) (r:R) (ρ':Rho),Γ.K=K->m.run ρ=some (r,ρ')->Sim Γ H ρ σ E->(∀ v H',Sim Γ H' ρ' σ (⟨none,v,r⟩::zk m.mu E)->Q v H')->te σ H Q
def RefT (K:yF)(te:TT)(m:MT):Prop:=∀ (Γ:Gm) (H:Hp) (ρ:Rho) (σ:St) (E:List En) (Q:Bool->Hp->Prop) (b:Bool) (ρ':Rho),Γ.K=K->m.run ρ=some (b,ρ')->Sim Γ H ρ σ E->(∀ H',Sim Γ H' ρ' σ (zk m.mu E)->Q b H')->te σ H Q
def RefA (K:yF)(ta:TA)(m:MA):Prop:=∀ (Γ:Gm) (H:Hp) (ρ:Rho) (σ:St) (E:List En) (Q:List V->Hp->Prop) (rs:List R) (ρ':Rho),Γ.K=K->m.run ρ=some (rs,ρ')->Sim Γ H ρ σ E->(∀ vs H',vs.length=rs.length->Sim Γ H' ρ' σ (ens vs rs++zk m.mu E)->Q vs H')->ta σ H Q
def FlOk (Γ:Gm)(ρ':Rho)(E:List En)(D:Ends):Fl->Prop
 | .nx=>∀ σ' H',Sim Γ H' ρ' σ' E->D.nx σ' H'
 | .bk=>∀ σ' H',Sim Γ H' ρ' σ' E->D.bk σ' H'
 | .ct=>∀ σ' H',Sim Γ H' ρ' σ' E->D.ct σ' H'
 | .rt t=>∀ v σ' H',Sim Γ H' ρ' σ' [⟨none,v,⟨.ow,t⟩⟩]->D.rt v H'
def RefS (K:yF)(ts:TS)(m:MS):Prop:=∀ (Γ:Gm) (H:Hp) (ρ:Rho) (σ:St) (E:List En) (D:Ends) (f:Fl) (ρ':Rho),Γ.K=K->(∀ e∈E,e.key=none)->m.run ρ=some (f,ρ')->Sim Γ H ρ σ E->FlOk Γ ρ' (zk m.mu E) D f->ts D σ H
def RefG (K:yF)(g:TG)(m:MG):Prop:=∀ (Γ:Gm) (H:Hp) (ρ:Rho) (σ:St) (E:List En) (Q:St->Hp->Prop) (v:V) (r:R) (ρ':Rho),Γ.K=K->m.run r ρ=some ρ'->Sim Γ H ρ σ (⟨none,v,r⟩::E)->(∀ σ' H',Sim Γ H' ρ' σ' (zk m.mu E)->Q σ' H')->g v σ H Q
def zim (K:yF)(g:TGs)(m:MGs):Prop:=∀ (Γ:Gm) (H:Hp) (ρ:Rho) (σ:St) (E:List En) (Q:St->Hp->Prop) (vs:List V) (rs:List R) (ρ':Rho),Γ.K=K->m.run rs ρ=some ρ'->vs.length=rs.length->Sim Γ H ρ σ (ens vs rs++E)->(∀ σ' H',Sim Γ H' ρ' σ' (zk m.mu E)->Q σ' H')->g vs σ H Q
def PMSs (X:Cx)(st:List Stmt)(m:MS):Prop:=∃ ts,PSs X st ts/\RefS X.K ts m
section
variable  {K:yF}{X:Cx}
@[irreducible] noncomputable def mC (i:I):ME:=⟨fun ρ=>some (⟨.ow,.im i⟩,ρ),[]⟩
@[irreducible] noncomputable def mVar (i:Nat):ME:=⟨fun ρ=>match ρ[i]? with
 | some (some r)=>some (rdR i r,ρ)
 | _=>none,[]⟩
theorem zen {i:I}{v:V}(h:i.sc=some v):RefE K (tC v) (mC i):=by with_unfolding_all
 intro Γ H ρ σ E Q r ρ' hK hr S q
 cases hr
 exact q v H (by rw [show (mC i).mu = [] from rfl,zqb];exact S.imm (zvk h))
theorem ref_var {i:Nat}:RefE K (tVar i) (mVar i):=by with_unfolding_all
 intro Γ H ρ σ E Q r ρ' hK hr S q
 simp only [mVar] at hr
 split at hr
 ·rename_i r0 h0
  cases hr
  obtain⟨v,hv,S2⟩:=S.var h0
  exact⟨v,hv,q v H (by rw [show (mVar i).mu = [] from rfl,zqb];exact S2)⟩
 ·cases hr
@[irreducible] noncomputable def mNil:MA:=⟨fun ρ=>some ([],ρ),[]⟩
@[irreducible] noncomputable def ze (m:ME)(ms:MA):MA:=⟨fun ρ=>match m.run ρ with
 | some (r,ρ1)=>match ms.run ρ1 with
  | some (rs,ρ2)=>if alive ms.mu r=true then some (r::rs,ρ2) else none
  | none=>none
 | none=>none,m.mu++ms.mu⟩
theorem ref_nil:RefA K tNil mNil:=by with_unfolding_all
 intro Γ H ρ σ E Q rs ρ' hK hr S q
 cases hr
 exact q [] H rfl (by rw [show mNil.mu = [] from rfl,zqb];exact S)
theorem ens_mid {v:V}{r:R}{E:List En}:∀ {vs:List V} {rs:List R},(ens vs rs++⟨none,v,r⟩::E).Perm (⟨none,v,r⟩::(ens vs rs++E)):=List.perm_middle
theorem ref_cons {te:TE}{ta:TA}{m:ME}{ms:MA}(h1:RefE K te m)(h2:RefA K ta ms):RefA K (zfn te ta) (ze m ms):=by with_unfolding_all
 intro Γ H ρ σ E Q rs ρ' hK hr S q
 simp only [ze] at hr
 split at hr
 ·rename_i r ρ1 e1
  split at hr
  ·rename_i rs1 ρ2 e2
   split at hr
   ·rename_i al
    cases hr
    refine h1 Γ H ρ σ E _ r ρ1 hK e1 S fun v H1 S1=>?_
    refine h2 Γ H1 ρ1 σ _ _ rs1 _ hK e2 S1 fun vs H2 hl S2=>q (v::vs) H2 (by rw [List.length_cons,List.length_cons,hl]) ?_
    rw [zt (zab al),zi] at S2
    exact S2.perm ens_mid
   ·cases hr
  ·cases hr
 ·cases hr
@[irreducible] noncomputable def mNext:MS:=⟨fun ρ=>some (.nx,ρ),[]⟩
@[irreducible] noncomputable def mSeq (a b:MS):MS:=⟨fun ρ=>match a.run ρ with
 | some (.nx,ρ1)=>b.run ρ1
 | some (.rt t,ρ1)=>some (.rt t,ρ1)
 | some (.bk,ρ1)=>some (.bk,ρ1)
 | some (.ct,ρ1)=>some (.ct,ρ1)
 | none=>none,a.mu++b.mu⟩
@[irreducible] noncomputable def mIf (c:MT)(a b:MS):MS:=⟨fun ρ=>match c.run ρ with
 | some (true,ρ1)=>a.run ρ1
 | some (false,ρ1)=>b.run ρ1
 | none=>none,c.mu++(a.mu++b.mu)⟩
@[irreducible] noncomputable def zrb (e:ME):MS:=⟨fun ρ=>match e.run ρ with
 | some (_,ρ1)=>some (.nx,ρ1)
 | none=>none,e.mu⟩
@[irreducible] noncomputable def mAsg (e:ME)(g:MG):MS:=⟨fun ρ=>match e.run ρ with
 | some (r,ρ1)=>match g.run r ρ1 with
  | some ρ2=>some (.nx,ρ2)
  | none=>none
 | none=>none,e.mu++g.mu⟩
@[irreducible] noncomputable def retR:R->Rho->Option (T×Rho)
 | ⟨.ow,t⟩,ρ=>some (t,ρ)
 | ⟨.vw (some i) (some []),t⟩,ρ=>match ρ[i]? with
  | some (some ⟨.ow,_⟩)=>some (t,(zv [i] ρ).set i none)
  | _=>none
 | _,_=>none
@[irreducible] noncomputable def mRet (e:ME):MS:=⟨fun ρ=>match e.run ρ with
 | some (r,ρ1)=>match retR r ρ1 with
  | some (t,ρ2)=>some (.rt t,ρ2)
  | none=>none
 | none=>none,e.mu⟩
theorem FlOk.weak {Γ:Gm}{ρ':Rho}{E:List En}{D:Ends}{f:Fl}{M N:List Nat}(h:FlOk Γ ρ' (zk (M++N) E) D f):FlOk Γ ρ' (zk M E) D f:=by
 cases f with
 | rt t=>exact h
 | nx=>exact fun σ' H' S=>h σ' H' (by rw [← zi];exact S.weak N)
 | bk=>exact fun σ' H' S=>h σ' H' (by rw [← zi];exact S.weak N)
 | ct=>exact fun σ' H' S=>h σ' H' (by rw [← zi];exact S.weak N)
theorem killE_comm (M N:List Nat)(E:List En):zk M (zk N E)=zk N (zk M E):=by
 unfold zk
 rw [List.filter_filter,List.filter_filter]
 congr 1
 funext e
 exact Bool.and_comm _ _
theorem FlOk.weak2 {Γ:Gm}{ρ':Rho}{E:List En}{D:Ends}{f:Fl}{M N:List Nat}(h:FlOk Γ ρ' (zk (M++N) E) D f):FlOk Γ ρ' (zk N E) D f:=by
 refine FlOk.weak (N:=M) ?_
 rwa [← zi,killE_comm,zi]
theorem zpb {M:List Nat}{E:List En}(h:∀ e∈E,e.key=none):∀ e∈zk M E,e.key=none:=fun e he=>h e (List.mem_filter.mp he).1
theorem ref_next:RefS K tNext mNext:=by with_unfolding_all
 intro Γ H ρ σ E D f ρ' hK hE hr S q
 cases hr
 exact q σ H (by rw [show mNext.mu = [] from rfl,zqb];exact S)
theorem ref_seq {t u:TS}{a b:MS}(h1:RefS K t a)(h2:RefS K u b):RefS K (tSeq t u) (mSeq a b):=by
 intro Γ H ρ σ E D f ρ' hK hE hr S q
 show t { D with nx:=u D } σ H
 simp only [mSeq] at hr q
 split at hr
 ·rename_i ρ1 e1
  refine h1 Γ H ρ σ E _ .nx ρ1 hK hE e1 S fun σ1 H1 S1=>?_
  refine h2 Γ H1 ρ1 σ1 _ D f ρ' hK (zpb hE) hr S1 ?_
  rw [zi];exact q
 ·rename_i t1 ρ1 e1
  cases hr
  exact h1 Γ H ρ σ E _ (.rt t1) _ hK hE e1 S q
 ·rename_i ρ1 e1
  cases hr
  exact h1 Γ H ρ σ E _ .bk _ hK hE e1 S (show FlOk Γ _ (zk a.mu E) D .bk from q.weak)
 ·rename_i ρ1 e1
  cases hr
  exact h1 Γ H ρ σ E _ .ct _ hK hE e1 S (show FlOk Γ _ (zk a.mu E) D .ct from q.weak)
 ·cases hr
theorem ref_ifS {c:TT}{t u:TS}{mc:MT}{a b:MS}(hc:RefT K c mc)(h1:RefS K t a)(h2:RefS K u b):RefS K (tIfS c t u) (mIf mc a b):=by
 intro Γ H ρ σ E D f ρ' hK hE hr S q
 simp only [mIf] at hr q
 rw [← zi] at q
 split at hr
 ·rename_i ρ1 e1
  refine hc Γ H ρ σ E _ true ρ1 hK e1 S fun H1 S1=>iteT ?_
  exact h1 Γ H1 ρ1 σ _ D f ρ' hK (zpb hE) hr S1 q.weak
 ·rename_i ρ1 e1
  refine hc Γ H ρ σ E _ false ρ1 hK e1 S fun H1 S1=>iteF ?_
  exact h2 Γ H1 ρ1 σ _ D f ρ' hK (zpb hE) hr S1 q.weak2
 ·cases hr
theorem ref_drop {te:TE}{m:ME}(h:RefE K te m):RefS K (tDrop te) (zrb m):=by with_unfolding_all
 intro Γ H ρ σ E D f ρ' hK hE hr S q
 simp only [zrb] at hr
 split at hr
 ·rename_i r ρ1 e1
  cases hr
  exact h Γ H ρ σ E _ r _ hK e1 S fun v H1 S1=>q σ H1 (S1.drop rfl)
 ·cases hr
theorem zpl {te:TE}{g:TG}{m:ME}{mg:MG}(h:RefE K te m)(hg:RefG K g mg):RefS K (tAsg te g) (mAsg m mg):=by
 intro Γ H ρ σ E D f ρ' hK hE hr S q
 simp only [mAsg] at hr q
 split at hr
 ·rename_i r ρ1 e1
  split at hr
  ·rename_i ρ2 e2
   cases hr
   refine h Γ H ρ σ E _ r ρ1 hK e1 S fun v H1 S1=>?_
   exact hg Γ H1 ρ1 σ _ _ v r _ hK e2 S1 fun σ2 H2 S2=>q σ2 H2 (by rw [← zi];exact S2)
  ·cases hr
 ·cases hr
theorem Sim.only {Γ:Gm}{H:Hp}{ρ:Rho}{σ:St}{e:En}{E:List En}(S:Sim Γ H ρ σ (e::E))(hE:∀ x∈E,x.key=none):Sim Γ H ρ σ [e]:=by
 induction E with
 | nil=>exact S
 | cons x E ih=>exact ih (S.swap.drop (hE x ymS)) fun y hy=>hE y (ymC _ hy)
theorem ref_ret {te:TE}{m:ME}(h:RefE K te m):RefS K (tRet te) (mRet m):=by with_unfolding_all
 intro Γ H ρ σ E D f ρ' hK hE hr S q
 simp only [mRet] at hr
 split at hr
 ·rename_i r ρ1 e1
  split at hr
  ·rename_i t ρ2 e2
   cases hr
   refine h Γ H ρ σ E _ r ρ1 hK e1 S fun v H1 S1=>?_
   obtain⟨k,t0⟩:=r
   cases k with
   | ow=>
    cases e2
    exact q v σ H1 (S1.only (zpb hE))
   | io n=>cases e2
   | vw a b=>
    cases a with
    | none=>cases e2
    | some i=>
     cases b with
     | none=>cases e2
     | some p=>
      cases p with
      | cons _ _=>cases e2
      | nil=>
       simp only [retR] at e2
       split at e2
       ·rename_i t1 h1
        cases e2
        exact q v σ H1 ((S1.move h1).only (zpb (zpb hE)))
       ·cases e2
  ·cases hr
 ·cases hr
@[irreducible] noncomputable def zl (i:Nat):MG:=⟨fun r ρ=>if (zri ρ i && alive [i] r)=true then some ((zv [i] ρ).set i (some r)) else none,[i]⟩
theorem zxg {i:Nat}{r:R}(h:alive [i] r=true):r.k.root≠some i:=fun z=>by
 unfold alive zpf at h
 rw [z] at h
 simp at h
theorem zdk {i:Nat}:RefG K (zcm i) (zl i):=by with_unfolding_all
 intro Γ H ρ σ E Q v r ρ' hK hr S q
 simp only [zl] at hr
 split at hr
 ·rename_i h
  cases hr
  rw [Bool.and_eq_true] at h
  exact q _ H (S.put h.1 (zxg h.2))
 ·cases hr
end
def Rpx (K:yF)(H:Hp)(t:T)(v:V):Prop:=∃ F,Rp K H t v F
def New (K:yF)(H H':Hp)(t:T)(v:V):Prop:=Same H H'/\∃ F,Rp K H' t v F/\F.Nodup/\∀ a∈F,H a=none/\Mu H' a
section
variable  {K:yF}{H H':Hp}{Γ:Gm}{ρ:Rho}{σ:St}{E:List En}{t:T}{v x y:V}{Q:VK}
theorem Sim.fresh (S:Sim Γ H ρ σ E)(n:New Γ.K H H' t v):Sim Γ H' ρ σ (⟨none,v,⟨.ow,t⟩⟩::E):=by
 obtain⟨sm,F,h1,h2,h3⟩:=n
 obtain⟨F0,r0,_,_,k⟩:=Sim.use (vs:=[]) (ts:=[]) S rfl
 have:=r0.nil_inv.2
 subst this
 exact k H' v t F (sm.offM _) (by simp) h2 (fun a ha=>⟨.inr (h3 a ha).1,(h3 a ha).2⟩) h1
theorem New.im {i:I}(h:RpI K H i v):New K H H (.im i) v:=⟨Same.refl H,[],zfj h,List.nodup_nil,by simp⟩
theorem New.sc {i:I}(h:i.sc=some v):New K H H (.im i) v:=.im (zvk h)
theorem New.tup {is:List I}{xs:List V}{p:Addr}(hp:H p=none)(h:RpIs K H is xs):New K H (upd H p (.tup xs)) (.im (.tup is)) (.ref p):=by
 refine⟨Same.laid hp,[],zfj ?_,List.nodup_nil,by simp⟩
 rw [RpI]
 exact⟨p,xs,rfl,SqT.of zga,h.same (Same.laid hp)⟩
theorem New.li {is:List I}{xs:List V}{p:Addr}(hp:H p=none)(h:RpIs K H is xs):New K H (upd H p (.lst xs)) (.li is) (.ref p):=by
 refine⟨Same.laid hp,[p],?_,by simp,fun a ha=>?_⟩
 ·rw [Rp];exact⟨p,xs,rfl,.inl zga,h.same (Same.laid hp),rfl⟩
 ·rw [ysM ha];exact⟨hp,_,zga,rfl⟩
theorem zeh {i:I}(h:Rpx K H (.im i) v):RpI K H i v:=by obtain⟨F,h⟩:=h;exact (zya h).1
theorem zna {n:Int}(h:Rpx K H (.im (.int n)) v):v = .int n:=by have:=zeh h;rw [RpI] at this;exact this
theorem zne {n:Str}(h:Rpx K H (.im (.str n)) v):v = .str n:=by have:=zeh h;rw [RpI] at this;exact this
theorem zrl {n:Bool}(h:Rpx K H (.im (.bl n)) v):v = .bl n:=by have:=zeh h;rw [RpI] at this;exact this
theorem rx_non (h:Rpx K H (.im .non) v):v = .non:=by have:=zeh h;rw [RpI] at this;exact this
theorem zlc {is:List I}(h:Rpx K H (.im (.tup is)) v):∃ a xs,v = .ref a/\SqT K H a xs/\RpIs K H is xs:=by have:=zeh h;rw [RpI] at this;exact this
theorem zpe {is:List I}(h:Rpx K H (.li is) v):∃ a xs,v = .ref a/\Rd H a (.lst xs)/\RpIs K H is xs:=by
 obtain⟨F,h⟩:=h;rw [Rp] at h;obtain⟨a,xs,h1,h2,h3,_⟩:=h;exact⟨a,xs,h1,h2,h3⟩
theorem zlh {ts:List T}(h:Rpx K H (.lst ts) v):∃ a xs F,v = .ref a/\Rd H a (.lst xs)/\Rps K H ts xs F:=by
 obtain⟨F,h⟩:=h;rw [Rp] at h;obtain⟨a,xs,F',h1,h2,h3,_⟩:=h;exact⟨a,xs,F',h1,h2,h3⟩
theorem zxa {a:Addr}{xs:List V}(h:Rd H a (.lst xs)):SqL K H a xs:=.inl h
def Prim2 (K:yF)(red:R2)(f:T->T->Option T):Prop:=∀ (H:Hp) (x y:V) (tx ty t:T) (Q:VK),Rpx K H tx x->Rpx K H ty y->f tx ty=some t->(∀ v H',New K H H' t v->Q v H')->red x y H Q
def Rpxs (K:yF)(H:Hp):List T->List V->Prop
 | [],vs=>vs = []
 | t::ts,vs=>∃ v r,vs=v::r/\Rpx K H t v/\Rpxs K H ts r
def zbj (K:yF)(red:List V->Hp->VK->Prop)(f:List T->Option T):Prop:=∀ (H:Hp) (vs:List V) (ts:List T) (t:T) (Q:VK),Rpxs K H ts vs->f ts=some t->(∀ v H',New K H H' t v->Q v H')->red vs H Q
@[irreducible] noncomputable def mOp (f:T->T->Option T)(a b:ME):ME:=⟨fun ρ=>match a.run ρ with
 | some (ra,ρ1)=>match b.run ρ1 with
  | some (rb,ρ2)=>if alive b.mu ra=true then (match f ra.t rb.t with
   | some t=>some (⟨.ow,t⟩,ρ2)
   | none=>none) else none
  | none=>none
 | none=>none,a.mu++b.mu⟩
theorem zum {red:R2}{f:T->T->Option T}{ta tb:TE}{a b:ME}(hp:Prim2 K red f)(ha:RefE K ta a)(hb:RefE K tb b):RefE K (tOp red ta tb) (mOp f a b):=by with_unfolding_all
 intro Γ H ρ σ E Q r ρ' hK hr S q
 simp only [mOp] at hr
 split at hr
 ·rename_i ra ρ1 e1
  split at hr
  ·rename_i rb ρ2 e2
   split at hr
   ·rename_i al
    split at hr
    ·rename_i t e3
     cases hr
     refine ha Γ H ρ σ E _ ra ρ1 hK e1 S fun x H1 S1=>?_
     refine hb Γ H1 ρ1 σ _ _ rb _ hK e2 S1 fun y H2 S2=>?_
     rw [zt (zab al),zi] at S2
     have r1:=S2.rd (ymC _ ymS)
     have r2:=S2.rd ymS
     rw [hK] at r1 r2
     refine hp H2 x y ra.t rb.t t Q r1 r2 e3 fun v H3 n=>q v H3 ?_
     rw [← hK] at n
     exact ((S2.drop rfl).drop rfl).fresh n
    ·cases hr
   ·cases hr
  ·cases hr
 ·cases hr
@[irreducible] noncomputable def mUn (f:T->Option T)(a:ME):ME:=⟨fun ρ=>match a.run ρ with
 | some (ra,ρ1)=>(match f ra.t with
  | some t=>some (⟨.ow,t⟩,ρ1)
  | none=>none)
 | none=>none,a.mu⟩
theorem Sim.rds:∀ {vs:List V} {rs:List R} {E:List En},Sim Γ H ρ σ (ens vs rs++E)->vs.length=rs.length->Rpxs Γ.K H (rs.map (·.t)) vs
 | [],[],E,S,_=>rfl
 | v::vs,r::rs,E,S,h=>by
  rw [ens,List.cons_append] at S
  exact⟨v,vs,rfl,S.rd ymS,Sim.rds (S.drop rfl) (by simpa using h)⟩
 | [],_::_,_,_,h=>by cases h
 | _::_,[],_,_,h=>by cases h
theorem Sim.drops:∀ {vs:List V} {rs:List R} {E:List En},Sim Γ H ρ σ (ens vs rs++E)->Sim Γ H ρ σ E
 | [],rs,E,S=>by cases rs<;>exact S
 | v::vs,[],E,S=>S
 | v::vs,r::rs,E,S=>by
  rw [ens,List.cons_append] at S
  exact Sim.drops (S.drop rfl)
@[irreducible] noncomputable def mB (f:List T->Option T)(a:MA):ME:=⟨fun ρ=>match a.run ρ with
 | some (rs,ρ1)=>(match f (rs.map (·.t)) with
  | some t=>some (⟨.ow,t⟩,ρ1)
  | none=>none)
 | none=>none,a.mu⟩
theorem zvn {red:List V->Hp->VK->Prop}{f:List T->Option T}{ta:TA}{a:MA}(hp:zbj K red f)(ha:RefA K ta a):RefE K (tCB red ta) (mB f a):=by with_unfolding_all
 intro Γ H ρ σ E Q r ρ' hK hr S q
 simp only [mB] at hr
 split at hr
 ·rename_i rs ρ1 e1
  split at hr
  ·rename_i t e3
   cases hr
   refine ha Γ H ρ σ E _ rs _ hK e1 S fun vs H1 hl S1=>?_
   have r1:=S1.rds hl
   rw [hK] at r1
   refine hp H1 vs _ t Q r1 e3 fun v H3 n=>q v H3 ?_
   rw [← hK] at n
   exact S1.drops.fresh n
  ·cases hr
 ·cases hr
@[irreducible] noncomputable def mM (f:T->List T->Option T)(o:ME)(a:MA):ME:=⟨fun ρ=>match o.run ρ with
 | some (r,ρ0)=>match a.run ρ0 with
  | some (rs,ρ1)=>if alive a.mu r=true then (match f r.t (rs.map (·.t)) with
   | some t=>some (⟨.ow,t⟩,ρ1)
   | none=>none) else none
  | none=>none
 | none=>none,o.mu++a.mu⟩
def zkn (K:yF)(T0:String)(red:V->List V->Hp->VK->Prop)(f:T->List T->Option T):Prop:=∀ (H:Hp) (x:V) (vs:List V) (tx:T) (ts:List T) (t:T) (Q:VK),Rpx K H tx x->Rpxs K H ts vs->f tx ts=some t->(∀ v H',New K H H' t v->Q v H')->red x vs H Q
theorem ref_M {T0:String}{red:V->List V->Hp->VK->Prop}{f:T->List T->Option T}{to:TE}{ta:TA}{o:ME}{a:MA}(hp:zkn K T0 red f)(hty:∀ (H:Hp) (x:V) (tx:T) ts t,Rpx K H tx x->f tx ts=some t->tyV K T0 x H)(ho:RefE K to o)(ha:RefA K ta a):RefE K (tBM K T0 red to ta) (mM f o a):=by with_unfolding_all
 intro Γ H ρ σ E Q r ρ' hK hr S q
 simp only [mM] at hr
 split at hr
 ·rename_i r0 ρ0 e0
  split at hr
  ·rename_i rs ρ1 e1
   split at hr
   ·rename_i al
    split at hr
    ·rename_i t e3
     cases hr
     refine ho Γ H ρ σ E _ r0 _ hK e0 S fun x H1 S1=>?_
     have r0':=S1.rd ymS
     rw [hK] at r0'
     refine⟨hty H1 x _ _ _ r0' e3,?_⟩
     refine ha Γ H1 ρ0 σ _ _ rs _ hK e1 S1 fun vs H2 hl S2=>?_
     rw [zt (zab al),zi] at S2
     have r1:=S2.rds hl
     have S3:=S2.drops
     have r2:=S3.rd ymS
     rw [hK] at r1 r2
     refine hp H2 x vs _ _ t Q r2 r1 e3 fun v H3 n=>q v H3 ?_
     rw [← hK] at n
     exact (S3.drop rfl).fresh n
    ·cases hr
   ·cases hr
  ·cases hr
 ·cases hr
@[irreducible] noncomputable def zoa (a:ME):MT:=⟨fun ρ=>match a.run ρ with
 | some (⟨_,.im (.bl b)⟩,ρ1)=>some (b,ρ1)
 | _=>none,a.mu⟩
theorem zek {ta:TE}{a:ME}(ha:RefE K ta a):RefT K (zyn ta) (zoa a):=by with_unfolding_all
 intro Γ H ρ σ E Q b ρ' hK hr S q
 simp only [zoa] at hr
 split at hr
 ·rename_i k b0 ρ1 e1
  cases hr
  refine ha Γ H ρ σ E _ _ _ hK e1 S fun x H1 S1=>⟨b,?_,q H1 (S1.drop rfl)⟩
  have r1:=S1.rd ymS
  exact zrl r1
 ·cases hr
theorem ref_tB {ta:TE}{a:ME}(ha:RefE K ta a):RefT K (tB ta) (zoa a):=zek ha
noncomputable def tru:T->Option Bool
 | .im .non=>some false
 | .im (.bl b)=>some b
 | .im (.int i)=>some (i != 0)
 | .im (.str x)=>if x.length<=sizeLine then some ((x.length:Int) != 0) else none
 | .im (.tup is)=>some (!is.isEmpty)
 | .li is=>some (!is.isEmpty)
 | .lst ts=>some (!ts.isEmpty)
 | .tup ts=>some (!ts.isEmpty)
 | _=>none
@[irreducible] noncomputable def mTru (a:ME):MT:=⟨fun ρ=>match a.run ρ with
 | some (r,ρ1)=>(match tru r.t with
  | some b=>some (b,ρ1)
  | none=>none)
 | none=>none,a.mu⟩
theorem zeg {α β:Type}{l:List α}{m:List β}(h:l.length=m.length):l.isEmpty=m.isEmpty:=by
 cases l<;>cases m<;>first | rfl | cases h
theorem tru_ok' {b:Bool}(h:tru t=some b)(r:Rpx K H t v):TruV K v H b:=by
 cases t with
 | im i=>
  cases i with
  | non=>rw [rx_non r];cases h;rfl
  | bl x=>rw [zrl r];cases h;rfl
  | int x=>rw [zna r];cases h;rfl
  | str x=>
   rw [zne r]
   simp only [tru] at h
   split at h
   ·cases h;exact⟨by assumption,rfl⟩
   ·cases h
  | tup is=>
   obtain⟨a,xs,rfl,h1,h2⟩:=zlc r
   cases h
   exact .inr (.inl ⟨xs,h1,by rw [zeg h2.length]⟩)
 | li is=>
  obtain⟨a,xs,rfl,h1,h2⟩:=zpe r
  cases h
  exact .inl ⟨xs,zxa h1,by rw [zeg h2.length]⟩
 | lst is=>
  obtain⟨a,xs,F,rfl,h1,h2⟩:=zlh r
  cases h
  exact .inl ⟨xs,zxa h1,by rw [zeg h2.length]⟩
 | tup ts=>
  obtain⟨F,r⟩:=r
  rw [Rp] at r
  obtain⟨a,xs,rfl,h1,h2⟩:=r
  cases h
  exact .inr (.inl ⟨xs,h1,by rw [zeg h2.length]⟩)
 | di _=>cases h
 | dc _=>cases h
 | ins _ _=>cases h
theorem ref_tru {ta:TE}{a:ME}(ha:RefE K ta a):RefT K (tTru K ta) (mTru a):=by with_unfolding_all
 intro Γ H ρ σ E Q b ρ' hK hr S q
 simp only [mTru] at hr
 split at hr
 ·rename_i r ρ1 e1
  split at hr
  ·rename_i b0 e2
   cases hr
   refine ha Γ H ρ σ E _ _ _ hK e1 S fun x H1 S1=>⟨b,?_,q H1 (S1.drop rfl)⟩
   have r1:=S1.rd ymS
   rw [hK] at r1
   exact tru_ok' e2 r1
  ·cases hr
 ·cases hr
@[irreducible] noncomputable def mAnd (a b:MT):MT:=⟨fun ρ=>match a.run ρ with
 | some (true,ρ1)=>b.run ρ1
 | some (false,ρ1)=>some (false,ρ1)
 | none=>none,a.mu++b.mu⟩
@[irreducible] noncomputable def mOr (a b:MT):MT:=⟨fun ρ=>match a.run ρ with
 | some (true,ρ1)=>some (true,ρ1)
 | some (false,ρ1)=>b.run ρ1
 | none=>none,a.mu++b.mu⟩
@[irreducible] noncomputable def mNot (a:MT):MT:=⟨fun ρ=>match a.run ρ with
 | some (b,ρ1)=>some (!b,ρ1)
 | none=>none,a.mu⟩
theorem ref_and {ta tb:TT}{a b:MT}(ha:RefT K ta a)(hb:RefT K tb b):RefT K (tAnd ta tb) (mAnd a b):=by
 intro Γ H ρ σ E Q c ρ' hK hr S q
 simp only [mAnd] at hr q
 split at hr
 ·rename_i ρ1 e1
  refine ha Γ H ρ σ E _ _ _ hK e1 S fun H1 S1=>iteT ?_
  exact hb Γ H1 ρ1 σ _ _ _ _ hK hr S1 fun H2 S2=>q H2 (by rw [← zi];exact S2)
 ·rename_i ρ1 e1
  cases hr
  exact ha Γ H ρ σ E _ _ _ hK e1 S fun H1 S1=>iteF (q H1 (by rw [← zi];exact S1.weak _))
 ·cases hr
theorem ref_or {ta tb:TT}{a b:MT}(ha:RefT K ta a)(hb:RefT K tb b):RefT K (tOr ta tb) (mOr a b):=by
 intro Γ H ρ σ E Q c ρ' hK hr S q
 simp only [mOr] at hr q
 split at hr
 ·rename_i ρ1 e1
  cases hr
  exact ha Γ H ρ σ E _ _ _ hK e1 S fun H1 S1=>iteT (q H1 (by rw [← zi];exact S1.weak _))
 ·rename_i ρ1 e1
  refine ha Γ H ρ σ E _ _ _ hK e1 S fun H1 S1=>iteF ?_
  exact hb Γ H1 ρ1 σ _ _ _ _ hK hr S1 fun H2 S2=>q H2 (by rw [← zi];exact S2)
 ·cases hr
theorem ref_not {ta:TT}{a:MT}(ha:RefT K ta a):RefT K (tNot ta) (mNot a):=by
 intro Γ H ρ σ E Q c ρ' hK hr S q
 simp only [mNot] at hr q
 split at hr
 ·rename_i b ρ1 e1
  cases hr
  exact ha Γ H ρ σ E _ _ _ hK e1 S fun H1 S1=>q H1 S1
 ·cases hr
end
mutual
noncomputable def I.dok:I->Bool
 | .int _=>true | .str _=>true | .tup is=>I.doks is | _=>false
noncomputable def I.doks:List I->Bool
 | []=>true
 | i::is=>i.dok && I.doks is
end
mutual
noncomputable def I.toD:I->D
 | .int i=>.int i | .str x=>.str x | .tup is=>.tup (I.toDs is) | _=>.int 0
noncomputable def I.toDs:List I->List D
 | []=>[]
 | i::is=>i.toD::I.toDs is
end
mutual
noncomputable def I.dep:I->Nat
 | .tup is=>I.deps is+1 | _=>0
noncomputable def I.deps:List I->Nat
 | []=>0
 | i::is=>max i.dep (I.deps is)
end
mutual
theorem dep_eq:∀ (i:I),i.toD.depth=i.dep
 | .non=>rfl | .bl _=>rfl | .int _=>rfl | .str _=>rfl
 | .tup is=>by rw [I.toD,D.depth,I.dep,zyg is]
theorem zyg:∀ (is:List I),depths (I.toDs is)=I.deps is
 | []=>rfl
 | i::is=>by rw [I.toDs,depths,I.deps,dep_eq i,zyg is]
end
mutual
theorem toD_inj:∀ {a b:I},a.dok=true->b.dok=true->(a.toD=b.toD↔a=b)
 | .non,_,h,_=>by simp [I.dok] at h
 | .bl _,_,h,_=>by simp [I.dok] at h
 | .int x,b,_,h=>by cases b<;>simp [I.dok] at h<;>simp [I.toD]
 | .str x,b,_,h=>by cases b<;>simp [I.dok] at h<;>simp [I.toD]
 | .tup x,b,h1,h=>by
  cases b with
  | tup y=>
   rw [I.dok] at h h1
   rw [I.toD,I.toD,D.tup.injEq,I.tup.injEq]
   exact zth h1 h
  | non=>simp [I.dok] at h
  | bl _=>simp [I.dok] at h
  | int _=>simp [I.toD]
  | str _=>simp [I.toD]
theorem zth:∀ {a b:List I},I.doks a=true->I.doks b=true->(I.toDs a=I.toDs b↔a=b)
 | [],b,_,_=>by cases b<;>simp [I.toDs]
 | x::xs,b,h1,h=>by
  cases b with
  | nil=>simp [I.toDs]
  | cons y ys=>
   rw [I.doks,Bool.and_eq_true] at h h1
   rw [I.toDs,I.toDs,List.cons.injEq,List.cons.injEq,toD_inj h1.1 h.1,zth h1.2 h.2]
end
section
variable  {K:yF}{H:Hp}
mutual
theorem ztk:∀ {i:I} {v:V},i.dok=true->RpI K H i v->Rep K H i.toD v
 | .non,_,h,_=>by simp [I.dok] at h
 | .bl _,_,h,_=>by simp [I.dok] at h
 | .int _,_,_,r=>by rw [RpI] at r;rw [I.toD,Rep];exact r
 | .str _,_,_,r=>by rw [RpI] at r;rw [I.toD,Rep];exact r
 | .tup is,_,h,r=>by
  rw [RpI] at r;rw [I.dok] at h
  obtain⟨a,xs,h1,h2,h3⟩:=r
  rw [I.toD,Rep]
  exact⟨a,xs,h1,h2,zch h h3⟩
theorem zch:∀ {is:List I} {vs:List V},I.doks is=true->RpIs K H is vs->Reps K H (I.toDs is) vs
 | [],_,_,r=>by rw [RpIs] at r;rw [I.toDs,Reps];exact r
 | i::is,_,h,r=>by
  rw [RpIs] at r;rw [I.doks,Bool.and_eq_true] at h
  obtain⟨x,xs,h1,h2,h3⟩:=r
  rw [I.toDs,Reps]
  exact⟨x,xs,h1,ztk h.1 h2,zch h.2 h3⟩
end
theorem zwj {i:I}:∀ {is:List I},i.dok=true->I.doks is=true->(i.toD∈I.toDs is↔i∈is)
 | [],_,_=>by simp [I.toDs]
 | x::xs,h,hs=>by
  rw [I.doks,Bool.and_eq_true] at hs
  rw [I.toDs,List.mem_cons,List.mem_cons,toD_inj h hs.1,zwj h hs.2]
noncomputable def isI:T->Option Int
 | .im i=>(match i with | .int a=>some a | _=>none)
 | _=>none
noncomputable def isS:T->Option Str
 | .im i=>(match i with | .str a=>some a | _=>none)
 | _=>none
noncomputable def isTp:T->Option (List I)
 | .im i=>(match i with | .tup a=>some a | _=>none)
 | _=>none
noncomputable def isLi:T->Option (List I)
 | .li a=>some a
 | _=>none
theorem zzd {t:T}{a:Int}(h:isI t=some a):t = .im (.int a):=by
 cases t with
 | im i=>cases i<;>cases h;rfl
 | _=>cases h
theorem isS_inv {t:T}{a:Str}(h:isS t=some a):t = .im (.str a):=by
 cases t with
 | im i=>cases i<;>cases h;rfl
 | _=>cases h
theorem isTp_inv {t:T}{a:List I}(h:isTp t=some a):t = .im (.tup a):=by
 cases t with
 | im i=>cases i<;>cases h;rfl
 | _=>cases h
theorem zmf {t:T}{a:List I}(h:isLi t=some a):t = .li a:=by
 cases t with
 | li i=>cases h;rfl
 | _=>cases h
noncomputable def i2 (g:Int->Int->Option T) (x y:T):Option T:=match isI x with
 | some a=>(match isI y with
  | some b=>g a b
  | none=>none)
 | none=>none
theorem zci {g:Int->Int->Option T}{x y t:T}(h:i2 g x y=some t):∃ a b,x = .im (.int a)/\y = .im (.int b)/\g a b=some t:=by
 unfold i2 at h
 split at h
 ·rename_i a ea
  split at h
  ·rename_i b eb
   exact⟨a,b,zzd ea,zzd eb,h⟩
  ·cases h
 ·cases h
theorem zfa {α:Type}{c:Prop}[Decidable c]{t u : α}(h:(if c then some t else none)=some u):c/\t=u:=by
 by_cases hc:c
 ·rw [if_pos hc] at h;exact⟨hc,Option.some.inj h⟩
 ·rw [if_neg hc] at h;cases h
noncomputable def addI (i:I) (y:T):Option T:=match i with
 | .int a=>(match isI y with | some b=>some (.im (.int (a+b))) | none=>none)
 | .str a=>(match isS y with | some b=>if a.length+b.length<=sizeLine then some (.im (.str (a++b))) else none | none=>none)
 | .tup a=>(match isTp y with | some b=>if a.length+b.length<=sizeLine then some (.im (.tup (a++b))) else none | none=>none)
 | _=>none
@[irreducible] noncomputable def addT (x y:T):Option T:=match x with
 | .im i=>addI i y
 | .li a=>(match isLi y with | some b=>if a.length+b.length<=sizeLine then some (.li (a++b)) else none | none=>none)
 | _=>none
theorem RpIs.nil_iff {is:List I}{xs:List V}(h:RpIs K H is xs):xs = []↔is = []:=by
 have:=h.length
 cases is<;>cases xs<;>first | (simp;done) | (cases this;done)
theorem prim_add:Prim2 K (zrn K) addT:=by
 intro H x y tx ty t Q rx ry e q
 unfold addT at e
 split at e
 ·rename_i i
  unfold addI at e
  split at e
  ·split at e
   ·rename_i b eb
    cases zzd eb
    cases e
    rw [zna rx,zna ry]
    exact .inl (.inl ⟨_,_,rfl,rfl,q _ H (.sc rfl)⟩)
   ·cases e
  ·split at e
   ·rename_i b eb
    cases isS_inv eb
    obtain⟨hl,rfl⟩:=zfa e
    rw [zne rx,zne ry]
    exact .inl (.inr (.inl ⟨_,_,rfl,rfl,hl,q _ H (.sc rfl)⟩))
   ·cases e
  ·rename_i a
   split at e
   ·rename_i b eb
    cases isTp_inv eb
    obtain⟨hl,rfl⟩:=zfa e
    obtain⟨p,xs,rfl,h1,h2⟩:=zlc rx
    obtain⟨p',ys,rfl,g1,g2⟩:=zlc ry
    by_cases ha:a = []
    ·subst ha
     have:=h2.nil_inv
     subst this
     refine .inr (.inr ⟨p,p',ys,rfl,rfl,h1,g1,q _ H (.im ?_)⟩)
     rw [RpI];exact⟨p',ys,rfl,g1,g2⟩
    ·refine .inl (.inr (.inr (.inr ⟨p,p',xs,ys,rfl,rfl,h1,g1,fun z=>ha (h2.nil_iff.mp z),by rw [h2.length,g2.length];exact hl,fun z=>q _ H (.im ?_),fun z p hp=>q _ _ (.tup hp (h2.append g2))⟩)))
     have:=g2.nil_iff.mp z
     subst this
     rw [List.append_nil,RpI]
     exact⟨p,xs,rfl,h1,h2⟩
   ·cases e
  ·cases e
 ·split at e
  ·rename_i b eb
   cases zmf eb
   obtain⟨hl,rfl⟩:=zfa e
   obtain⟨p,xs,rfl,h1,h2⟩:=zpe rx
   obtain⟨p',ys,rfl,g1,g2⟩:=zpe ry
   exact .inr (.inl ⟨p,p',xs,ys,rfl,rfl,h1,g1,by rw [h2.length,g2.length];exact hl,fun p hp=>q _ _ (.li hp (h2.append g2))⟩)
  ·cases e
 ·cases e
@[irreducible] noncomputable def subT:T->T->Option T:=i2 fun a b=>some (.im (.int (a - b)))
theorem prim_sub:Prim2 K (rI0 fun i j=>.int (i - j)) subT:=by
 intro H x y tx ty t Q rx ry e q
 unfold subT at e
 obtain⟨a,b,rfl,rfl,e⟩:=zci e
 cases e
 rw [zna rx,zna ry]
 exact⟨_,_,rfl,rfl,q _ H (.sc rfl)⟩
noncomputable def zok (i j:Int):Bool:=(decide (-(2 ^ 64)<i) && decide (i<2 ^ 64)) || (decide (-(2 ^ 64)<j) && decide (j<2 ^ 64))
theorem mulOk_C {i j:Int}(h:zok i j=true):CMul i j:=by
 unfold zok at h
 simp only [Bool.or_eq_true,Bool.and_eq_true,decide_eq_true_eq] at h
 exact h
noncomputable def mulI (i:I) (b:Int):Option T:=match i with
 | .int a=>if zok a b=true then some (.im (.int (a * b))) else none
 | .str a=>if 1<=b/\b<=1000/\a.length<=1000 then some (.im (.str (oL (List.replicate b.toNat (sL a)).flatten))) else none
 | .tup a=>if a≠[]/\a.length<=1000/\1<=b/\b<=1000 then some (.im (.tup (List.replicate b.toNat a).flatten)) else none
 | _=>none
@[irreducible] noncomputable def mulT (x y:T):Option T:=match isI y with
 | some b=>(match x with
  | .im i=>mulI i b
  | .li a=>if -(2 ^ 63)<=b/\b<2 ^ 63/\a.length * b.toNat<=sizeLine then some (.li (List.replicate b.toNat a).flatten) else none
  | _=>none)
 | none=>none
theorem RpIs.reps {is:List I}{xs:List V}(h:RpIs K H is xs):∀ n:Nat,RpIs K H (List.replicate n is).flatten (List.replicate n xs).flatten
 | 0=>.nil
 | n+1=>by
  rw [List.replicate_succ,List.replicate_succ,List.flatten_cons,List.flatten_cons]
  exact h.append (h.reps n)
theorem prim_mul:Prim2 K (zun K) mulT:=by
 intro H x y tx ty t Q rx ry e q
 unfold mulT at e
 split at e
 ·rename_i b eb
  cases zzd eb
  split at e
  ·unfold mulI at e
   split at e
   ·obtain⟨h,rfl⟩:=zfa e
    rw [zna rx,zna ry]
    exact .inl (.inl ⟨_,_,rfl,rfl,mulOk_C h,q _ H (.sc rfl)⟩)
   ·obtain⟨h,rfl⟩:=zfa e
    rw [zne rx,zna ry]
    exact .inl (.inr (.inl ⟨_,_,rfl,rfl,h.1,h.2.1,h.2.2,q _ H (.sc rfl)⟩))
   ·rename_i a
    obtain⟨h,rfl⟩:=zfa e
    obtain⟨p,xs,rfl,h1,h2⟩:=zlc rx
    rw [zna ry]
    refine .inl (.inr (.inr (.inr ⟨p,b,xs,rfl,rfl,h1,fun z=>h.1 (h2.nil_iff.mp z),by rw [h2.length];exact h.2.1,h.2.2.1,h.2.2.2,fun z=>q _ H (.im ?_),fun z p hp=>q _ _ (.tup hp (h2.reps _))⟩)))
    subst z
    have e1:(List.replicate (1:Int).toNat a).flatten=a:=by simp
    rw [e1,RpI]
    exact⟨p,xs,rfl,h1,h2⟩
   ·cases e
  ·obtain⟨h,rfl⟩:=zfa e
   obtain⟨p,xs,rfl,h1,h2⟩:=zpe rx
   rw [zna ry]
   exact .inr ⟨p,b,xs,rfl,rfl,h1,h.1,h.2.1,by rw [h2.length];exact h.2.2,fun p hp=>q _ _ (.li hp (h2.reps _))⟩
  ·cases e
 ·cases e
@[irreducible] noncomputable def zpj:T->T->Option T:=i2 fun a b=>if 0<b/\b<2 ^ 64 then some (.im (.int (a / b))) else none
theorem prim_fdiv:Prim2 K (rI CDiv64 fun i j=>.int (i / j)) zpj:=by
 intro H x y tx ty t Q rx ry e q
 unfold zpj at e
 obtain⟨a,b,rfl,rfl,e⟩:=zci e
 obtain⟨h,rfl⟩:=zfa e
 rw [zna rx,zna ry]
 exact⟨_,_,rfl,rfl,h,q _ H (.sc rfl)⟩
@[irreducible] noncomputable def modT:T->T->Option T:=i2 fun a b=>if 0<b then some (.im (.int (a % b))) else none
theorem prim_mod:Prim2 K (rI (fun _ j=>0<j) fun i j=>.int (i % j)) modT:=by
 intro H x y tx ty t Q rx ry e q
 unfold modT at e
 obtain⟨a,b,rfl,rfl,e⟩:=zci e
 obtain⟨h,rfl⟩:=zfa e
 rw [zna rx,zna ry]
 exact⟨_,_,rfl,rfl,h,q _ H (.sc rfl)⟩
@[irreducible] noncomputable def powT:T->T->Option T:=i2 fun a b=>if 0<=b/\b<=1000000/\a.natAbs<2 ^ 64 then some (.im (.int (a ^ b.toNat))) else none
theorem prim_pow:Prim2 K (rI CPow fun i j=>.int (i ^ j.toNat)) powT:=by
 intro H x y tx ty t Q rx ry e q
 unfold powT at e
 obtain⟨a,b,rfl,rfl,e⟩:=zci e
 obtain⟨h,rfl⟩:=zfa e
 rw [zna rx,zna ry]
 exact⟨_,_,rfl,rfl,h,q _ H (.sc rfl)⟩
@[irreducible] noncomputable def cmpT (p:Int->Int->Bool):T->T->Option T:=i2 fun a b=>some (.im (.bl (p a b)))
theorem zrh {p:Int->Int->Bool}:Prim2 K (rI0 fun i j=>.bl (p i j)) (cmpT p):=by
 intro H x y tx ty t Q rx ry e q
 unfold cmpT at e
 obtain⟨a,b,rfl,rfl,e⟩:=zci e
 cases e
 rw [zna rx,zna ry]
 exact⟨_,_,rfl,rfl,q _ H (.sc rfl)⟩
noncomputable def scalI (a b:I):Bool:=match a.sc with
 | some v=>(match b.sc with
  | some w=>scal v w
  | none=>false)
 | none=>false
noncomputable def ofV:V->I
 | .bl b=>.bl b
 | .int i=>.int i
 | .str x=>.str x
 | _=>.non
theorem of_sc {a:I}{v:V}(h:a.sc=some v):ofV v=a:=by cases a<;>cases h<;>rfl
noncomputable def eqI:I->I->Option Bool
 | .tup a,.tup b=>if I.doks a=true/\I.doks b=true/\I.deps a<=50 then some (decide (a=b)) else none
 | a,b=>if scalI a b=true then some (decide (a=b)) else none
noncomputable def eqB:T->T->Option Bool
 | .im a,.im b=>eqI a b
 | .li a,.li b=>if I.doks a=true/\I.doks b=true/\I.deps a<=50 then some (decide (a=b)) else none
 | _,_=>none
@[irreducible] noncomputable def eqT (x y:T):Option T:=(eqB x y).map fun b=>.im (.bl b)
@[irreducible] noncomputable def neT (x y:T):Option T:=(eqB x y).map fun b=>.im (.bl !b)
theorem eqI_sc {a b:I}{c:Bool}(h:eqI a b=some c):(∃ x y,a = .tup x/\b = .tup y/\I.doks x=true/\I.doks y=true/\I.deps x<=50/\c=decide (x=y)) ∨ ∃ v w,a.sc=some v/\b.sc=some w/\scal v w=true/\c=decide (v=w):=by
 unfold eqI at h
 split at h
 ·rename_i x y
  split at h
  ·rename_i hh;cases h;exact .inl ⟨x,y,rfl,rfl,hh.1,hh.2.1,hh.2.2,rfl⟩
  ·cases h
 ·split at h
  ·rename_i hh
   cases h
   right
   unfold scalI at hh
   split at hh
   ·rename_i v ev
    split at hh
    ·rename_i w ew
     refine⟨v,w,ev,ew,hh,?_⟩
     have:(a=b)↔(v=w):=⟨fun z=>Option.some.inj (ev.symm.trans ((congrArg I.sc z).trans ew)),fun z=>by rw [← of_sc ev,← of_sc ew,z]⟩
     exact decide_eq_decide.mpr this
    ·cases hh
   ·cases hh
  ·cases h
theorem eqB_ok {x y:V}{tx ty:T}{b:Bool}{P:V->Prop}(rx:Rpx K H tx x)(ry:Rpx K H ty y)(e:eqB tx ty=some b) :
  (scal x y=true/\b=decide (x=y)) ∨ (∃ ds es,Rep K H (.tup ds) x/\Rep K H (.tup es) y/\depths ds<=50/\(b=true↔ds=es)) ∨ (∃ p q xs ys ds es,x = .ref p/\y = .ref q/\SqL K H p xs/\SqL K H q ys/\Reps K H ds xs/\Reps K H es ys/\depths ds<=50/\(b=true↔ds=es)):=by
 unfold eqB at e
 split at e
 ·rename_i a c
  rcases eqI_sc e with⟨x1,y1,rfl,rfl,h1,h2,h3,rfl⟩ | ⟨v,w,h1,h2,h3,rfl⟩
  ·refine .inr (.inl ⟨I.toDs x1,I.toDs y1,?_,?_,by rw [zyg];exact h3,?_⟩)
   ·have:=ztk (i:=.tup x1) (by rw [I.dok];exact h1) (zeh rx)
    rwa [I.toD] at this
   ·have:=ztk (i:=.tup y1) (by rw [I.dok];exact h2) (zeh ry)
    rwa [I.toD] at this
   ·rw [decide_eq_true_eq,zth h1 h2]
  ·rw [sc_eq h1 (zeh rx),sc_eq h2 (zeh ry)]
   exact .inl ⟨h3,rfl⟩
 ·split at e
  ·rename_i a c h
   cases e
   obtain⟨p,xs,rfl,h1,h2⟩:=zpe rx
   obtain⟨p',ys,rfl,g1,g2⟩:=zpe ry
   exact .inr (.inr ⟨p,p',xs,ys,_,_,rfl,rfl,zxa h1,zxa g1,zch h.1 h2,zch h.2.1 g2,by rw [zyg];exact h.2.2,by rw [decide_eq_true_eq,zth h.1 h.2.1]⟩)
  ·cases e
 ·cases e
theorem prim_eq:Prim2 K (rEqX K) eqT:=by
 intro H x y tx ty t Q rx ry e q
 unfold eqT at e
 cases h:eqB tx ty with
 | none=>rw [h] at e;cases e
 | some b=>
  rw [h] at e;cases e
  rcases eqB_ok (P:=fun _=>True) rx ry h with⟨h1,rfl⟩ | ⟨ds,es,h1,h2,h3,h4⟩ | ⟨p,p',xs,ys,ds,es,h1,h2,h3,h4,h5,h6,h7,h8⟩
  ·exact .inl ⟨h1,q _ H (.sc rfl)⟩
  ·refine .inr (.inl ⟨ds,es,h1,h2,h3,fun c hc=>?_⟩)
   have:c=b:=by rw [Bool.eq_iff_iff,hc,h4]
   subst this
   exact q _ H (.sc rfl)
  ·refine .inr (.inr ⟨p,p',xs,ys,ds,es,h1,h2,h3,h4,h5,h6,h7,fun c hc=>?_⟩)
   have:c=b:=by rw [Bool.eq_iff_iff,hc,h8]
   subst this
   exact q _ H (.sc rfl)
theorem prim_ne:Prim2 K (rNeX K) neT:=by
 intro H x y tx ty t Q rx ry e q
 unfold neT at e
 cases h:eqB tx ty with
 | none=>rw [h] at e;cases e
 | some b=>
  rw [h] at e;cases e
  rcases eqB_ok (P:=fun _=>True) rx ry h with⟨h1,rfl⟩ | ⟨ds,es,h1,h2,h3,h4⟩ | ⟨p,p',xs,ys,ds,es,h1,h2,h3,h4,h5,h6,h7,h8⟩
  ·exact .inl ⟨h1,q _ H (.sc rfl)⟩
  ·refine .inr (.inl ⟨ds,es,h1,h2,h3,fun c hc=>?_⟩)
   have:c = !b:=by cases b<;>cases c<;>simp_all
   subst this
   exact q _ H (.sc rfl)
  ·refine .inr (.inr ⟨p,p',xs,ys,ds,es,h1,h2,h3,h4,h5,h6,h7,fun c hc=>?_⟩)
   have:c = !b:=by cases b<;>cases c<;>simp_all
   subst this
   exact q _ H (.sc rfl)
noncomputable def occ (i j:Str):Bool:=!(Builtin.Str.occurrences j i 0 j.length 1).isEmpty
noncomputable def inI (i:I) (y:T):Option Bool:=match y with
 | .im j=>(match j with
  | .str b=>(match i with
   | .str a=>some (occ a b)
   | _=>none)
  | .tup is=>if i.dok=true/\I.doks is=true/\I.deps is<=50 then some (decide (i∈is)) else none
  | _=>none)
 | .li is=>if i.dok=true/\I.doks is=true/\I.deps is<=50 then some (decide (i∈is)) else none
 | _=>none
noncomputable def inB (x y:T):Option Bool:=match x with
 | .im i=>inI i y
 | _=>none
@[irreducible] noncomputable def inT (x y:T):Option T:=(inB x y).map fun b=>.im (.bl b)
@[irreducible] noncomputable def ninT (x y:T):Option T:=(inB x y).map fun b=>.im (.bl !b)
theorem inB_ok {x y:V}{tx ty:T}{b:Bool}(rx:Rpx K H tx x)(ry:Rpx K H ty y)(e:inB tx ty=some b) :
  (∃ i j,x = .str i/\y = .str j/\b=occ i j) ∨ (∃ p xs d ds,y = .ref p/\(SqL K H p xs ∨ SqT K H p xs)/\Rep K H d x/\Reps K H ds xs/\depths ds<=50/\(b=true↔d∈ds)):=by
 unfold inB at e
 split at e
 ·unfold inI at e
  split at e
  ·split at e
   ·split at e
    ·cases e;exact .inl ⟨_,_,zne rx,zne ry,rfl⟩
    ·cases e
   ·obtain⟨h,rfl⟩:=zfa e
    obtain⟨p,xs,rfl,h1,h2⟩:=zlc ry
    exact .inr ⟨p,xs,_,_,rfl,.inr h1,ztk h.1 (zeh rx),zch h.2.1 h2,by rw [zyg];exact h.2.2,by rw [decide_eq_true_eq,zwj h.1 h.2.1]⟩
   ·cases e
  ·obtain⟨h,rfl⟩:=zfa e
   obtain⟨p,xs,rfl,h1,h2⟩:=zpe ry
   exact .inr ⟨p,xs,_,_,rfl,.inl (zxa h1),ztk h.1 (zeh rx),zch h.2.1 h2,by rw [zyg];exact h.2.2,by rw [decide_eq_true_eq,zwj h.1 h.2.1]⟩
  ·cases e
 ·cases e
theorem prim_in:Prim2 K (rInX K) inT:=by
 intro H x y tx ty t Q rx ry e q
 unfold inT at e
 cases h:inB tx ty with
 | none=>rw [h] at e;cases e
 | some b=>
  rw [h] at e;cases e
  rcases inB_ok rx ry h with⟨i,j,rfl,rfl,rfl⟩ | ⟨p,xs,d,ds,h1,h2,h3,h4,h5,h6⟩
  ·exact .inl ⟨i,j,rfl,rfl,q _ H (.sc rfl)⟩
  ·refine .inr (.inr ⟨p,xs,d,ds,h1,h2,h3,h4,h5,fun c hc=>?_⟩)
   have:c=b:=by rw [Bool.eq_iff_iff,hc,h6];simp
   subst this
   exact q _ H (.sc rfl)
theorem prim_nin:Prim2 K (znl K) ninT:=by
 intro H x y tx ty t Q rx ry e q
 unfold ninT at e
 cases h:inB tx ty with
 | none=>rw [h] at e;cases e
 | some b=>
  rw [h] at e;cases e
  rcases inB_ok rx ry h with⟨i,j,rfl,rfl,rfl⟩ | ⟨p,xs,d,ds,h1,h2,h3,h4,h5,h6⟩
  ·exact .inl ⟨i,j,rfl,rfl,q _ H (.sc rfl)⟩
  ·refine .inr (.inr ⟨p,xs,d,ds,h1,h2,h3,h4,h5,fun c hc=>?_⟩)
   have:c = !b:=by cases b<;>cases c<;>simp_all
   subst this
   exact q _ H (.sc rfl)
noncomputable def l1 {α:Type} (g:T->Option α) (ts:List T):Option α:=match ts with
 | []=>none
 | t::r=>(match r with
  | []=>g t
  | _::_=>none)
theorem zrf {α:Type}{g:T->Option α}{ts:List T}{u : α}(h:l1 g ts=some u):∃ t,ts = [t]/\g t=some u:=by
 cases ts with
 | nil=>cases h
 | cons t r=>cases r with
  | nil=>exact⟨t,rfl,h⟩
  | cons _ _=>cases h
noncomputable def l2 {α:Type} (g:T->T->Option α) (ts:List T):Option α:=match ts with
 | []=>none
 | t::r=>l1 (g t) r
theorem zmk {α:Type}{g:T->T->Option α}{ts:List T}{u : α}(h:l2 g ts=some u):∃ t s,ts = [t,s]/\g t s=some u:=by
 cases ts with
 | nil=>cases h
 | cons t r=>
  obtain⟨s,rfl,e⟩:=zrf (show l1 (g t) r=some u from h)
  exact⟨t,s,rfl,e⟩
noncomputable def lenI (i:I):Option T:=match i with
 | .str x=>if x.length<=sizeLine then some (.im (.int x.length)) else none
 | .tup is=>some (.im (.int is.length))
 | _=>none
noncomputable def len1 (t:T):Option T:=match t with
 | .im i=>lenI i
 | .li is=>some (.im (.int is.length))
 | .lst ts=>some (.im (.int ts.length))
 | .tup ts=>some (.im (.int ts.length))
 | _=>none
@[irreducible] noncomputable def lenT:List T->Option T:=l1 len1
theorem rxs1 {t:T}{vs:List V}(h:Rpxs K H [t] vs):∃ v,vs = [v]/\Rpx K H t v:=by
 obtain⟨v,r,rfl,h1,h2⟩:=h
 rw [Rpxs] at h2
 subst h2
 exact⟨v,rfl,h1⟩
theorem rxs2 {t u:T}{vs:List V}(h:Rpxs K H [t,u] vs):∃ v w,vs = [v,w]/\Rpx K H t v/\Rpx K H u w:=by
 obtain⟨v,r,rfl,h1,h2⟩:=h
 obtain⟨w,rfl,h3⟩:=rxs1 h2
 exact⟨v,w,rfl,h1,h3⟩
theorem zsl {ts:List T}{v:V}(h:Rpx K H (.tup ts) v):∃ a xs F,v = .ref a/\SqT K H a xs/\Rps K H ts xs F:=by
 obtain⟨F,h⟩:=h;rw [Rp] at h;obtain⟨a,xs,h1,h2,h3⟩:=h;exact⟨a,xs,F,h1,h2,h3⟩
theorem prim_len:zbj K (ztn K) lenT:=by
 intro H vs ts t Q r e q
 unfold lenT at e
 have e0:=zrf e
 clear e
 obtain⟨x,rfl,e⟩:=e0
 obtain⟨v,rfl,r1⟩:=rxs1 r
 unfold len1 at e
 split at e
 ·unfold lenI at e
  split at e
  ·obtain⟨h,rfl⟩:=zfa e
   rw [zne r1]
   exact .inr ⟨_,rfl,h,q _ H (.sc rfl)⟩
  ·cases e
   obtain⟨p,xs,rfl,h1,h2⟩:=zlc r1
   exact .inl ⟨p,xs,rfl,.inr h1,q _ H (.sc (by rw [h2.length];rfl))⟩
  ·cases e
 ·cases e
  obtain⟨p,xs,rfl,h1,h2⟩:=zpe r1
  exact .inl ⟨p,xs,rfl,.inl (zxa h1),q _ H (.sc (by rw [h2.length];rfl))⟩
 ·cases e
  obtain⟨p,xs,F,rfl,h1,h2⟩:=zlh r1
  exact .inl ⟨p,xs,rfl,.inl (zxa h1),q _ H (.sc (by rw [h2.length];rfl))⟩
 ·cases e
  obtain⟨p,xs,F,rfl,h1,h2⟩:=zsl r1
  exact .inl ⟨p,xs,rfl,.inr h1,q _ H (.sc (by rw [h2.length];rfl))⟩
 ·cases e
@[irreducible] noncomputable def minT:List T->Option T:=l2 (i2 fun a b=>some (.im (.int (if b<a then b else a))))
theorem prim_min:zbj K (fun xs H Q=>∃ i j,xs = [.int i,.int j]/\Q (.int (if j<i then j else i)) H) minT:=by
 intro H vs ts t Q r e q
 unfold minT at e
 have e0:=zmk e
 clear e
 obtain⟨x,y,rfl,e⟩:=e0
 obtain⟨a,b,rfl,rfl,e⟩:=zci e
 cases e
 obtain⟨v,w,rfl,r1,r2⟩:=rxs2 r
 rw [zna r1,zna r2]
 exact⟨_,_,rfl,q _ H (.sc rfl)⟩
@[irreducible] noncomputable def maxT:List T->Option T:=l2 (i2 fun a b=>some (.im (.int (if b > a then b else a))))
theorem prim_max:zbj K (fun xs H Q=>∃ i j,xs = [.int i,.int j]/\Q (.int (if j > i then j else i)) H) maxT:=by
 intro H vs ts t Q r e q
 unfold maxT at e
 have e0:=zmk e
 clear e
 obtain⟨x,y,rfl,e⟩:=e0
 obtain⟨a,b,rfl,rfl,e⟩:=zci e
 cases e
 obtain⟨v,w,rfl,r1,r2⟩:=rxs2 r
 rw [zna r1,zna r2]
 exact⟨_,_,rfl,q _ H (.sc rfl)⟩
noncomputable def int1 (t:T):Option T:=match t with
 | .im i=>(match i with
  | .int a=>some (.im (.int a))
  | .bl b=>some (.im (.int (if b then 1 else 0)))
  | _=>none)
 | _=>none
@[irreducible] noncomputable def intT:List T->Option T:=l1 int1
theorem prim_int:zbj K (fun xs H Q=>(∃ i,xs = [.int i]/\Q (.int i) H) ∨ ∃ k,xs = [.bl k]/\Q (.int (if k then 1 else 0)) H) intT:=by
 intro H vs ts t Q r e q
 unfold intT at e
 have e0:=zrf e
 clear e
 obtain⟨x,rfl,e⟩:=e0
 obtain⟨v,rfl,r1⟩:=rxs1 r
 unfold int1 at e
 split at e
 ·split at e
  ·cases e
   rw [zna r1]
   exact .inl ⟨_,rfl,q _ H (.sc rfl)⟩
  ·cases e
   rw [zrl r1]
   exact .inr ⟨_,rfl,q _ H (.sc rfl)⟩
  ·cases e
 ·cases e
noncomputable def seq1 (g:List I->T) (t:T):Option T:=match t with
 | .im i=>(match i with
  | .tup is=>some (g is)
  | _=>none)
 | .li is=>some (g is)
 | _=>none
@[irreducible] noncomputable def tupT:List T->Option T:=l1 (seq1 fun is=>.im (.tup is))
theorem prim_tup:zbj K (rTupOf K) tupT:=by
 intro H vs ts t Q r e q
 unfold tupT at e
 have e0:=zrf e
 clear e
 obtain⟨x,rfl,e⟩:=e0
 obtain⟨v,rfl,r1⟩:=rxs1 r
 unfold seq1 at e
 split at e
 ·split at e
  ·cases e
   obtain⟨p,xs,rfl,h1,h2⟩:=zlc r1
   exact⟨p,xs,rfl,.inr ⟨h1,q _ H (.im (zeh r1))⟩⟩
  ·cases e
 ·cases e
  obtain⟨p,xs,rfl,h1,h2⟩:=zpe r1
  exact⟨p,xs,rfl,.inl ⟨zxa h1,fun l hl=>q _ _ (.tup hl h2)⟩⟩
 ·cases e
@[irreducible] noncomputable def lstT:List T->Option T:=l1 (seq1 fun is=>.li is)
theorem prim_lst:zbj K (rLstOf K) lstT:=by
 intro H vs ts t Q r e q
 unfold lstT at e
 have e0:=zrf e
 clear e
 obtain⟨x,rfl,e⟩:=e0
 obtain⟨v,rfl,r1⟩:=rxs1 r
 unfold seq1 at e
 split at e
 ·split at e
  ·cases e
   obtain⟨p,xs,rfl,h1,h2⟩:=zlc r1
   exact⟨p,xs,rfl,.inr h1,fun l hl=>q _ _ (.li hl h2)⟩
  ·cases e
 ·cases e
  obtain⟨p,xs,rfl,h1,h2⟩:=zpe r1
  exact⟨p,xs,rfl,.inl (zxa h1),fun l hl=>q _ _ (.li hl h2)⟩
 ·cases e
noncomputable def bls:List I->Option (List Bool)
 | []=>some []
 | .bl b::is=>(bls is).map (b :: ·)
 | _=>none
theorem bls_rp {is:List I}{xs:List V}:∀ {bs:List Bool},bls is=some bs->RpIs K H is xs->xs=bs.map V.bl:=by
 induction is generalizing xs with
 | nil=>intro bs h r;cases h;exact r.nil_inv
 | cons i is ih=>
  intro bs h r
  cases i with
  | bl b=>
   simp only [bls] at h
   cases e:bls is with
   | none=>rw [e] at h;cases h
   | some cs=>
    rw [e] at h;cases h
    obtain⟨x,r',rfl,h1,h2⟩:=r.cons_inv
    rw [RpI] at h1
    rw [h1,ih e h2];rfl
  | _=>simp [bls] at h
noncomputable def allT:List T->Option T
 | [.li is]=>(bls is).map fun bs=>.im (.bl (bs.all id))
 | _=>none
theorem prim_all:zbj K (rAll K) allT:=by
 intro H vs ts t Q r e q
 unfold allT at e
 split at e
 ·rename_i is
  cases h:bls is with
  | none=>rw [h] at e;cases e
  | some bs=>
   rw [h] at e;cases e
   obtain⟨v,rfl,r1⟩:=rxs1 r
   obtain⟨p,xs,rfl,h1,h2⟩:=zpe r1
   have:=bls_rp h h2
   subst this
   exact⟨p,bs,rfl,zxa h1,q _ H (.sc rfl)⟩
 ·cases e
noncomputable def stxs:List I->Option (List Str)
 | []=>some []
 | .str b::is=>(stxs is).map (b :: ·)
 | _=>none
theorem stxs_rp {is:List I}{xs:List V}:∀ {bs:List Str},stxs is=some bs->RpIs K H is xs->xs=bs.map V.str:=by
 induction is generalizing xs with
 | nil=>intro bs h r;cases h;exact r.nil_inv
 | cons i is ih=>
  intro bs h r
  cases i with
  | str b=>
   simp only [stxs] at h
   cases e:stxs is with
   | none=>rw [e] at h;cases h
   | some cs=>
    rw [e] at h;cases h
    obtain⟨x,r',rfl,h1,h2⟩:=r.cons_inv
    rw [RpI] at h1
    rw [h1,ih e h2];rfl
  | _=>simp [stxs] at h
noncomputable def zel:T->List T->Option T
 | .im (.str z),[.li is]=>match stxs is with
  | some zs=>if (zs.map (·.length)).sum+zs.length * z.length<=16777216 then some (.im (.str (Txt.join z zs))) else none
  | none=>none
 | _,_=>none
theorem prim_join:zkn K "str" (rJoin K) zel:=by
 intro H x vs tx ts t Q rx r e q
 unfold zel at e
 split at e
 ·rename_i z is
  split at e
  ·rename_i zs hz
   split at e
   ·cases e
    obtain⟨v,rfl,r1⟩:=rxs1 r
    obtain⟨p,xs,rfl,h1,h2⟩:=zpe r1
    have:=stxs_rp hz h2
    subst this
    rw [zne rx]
    exact⟨z,p,zs,rfl,rfl,zxa h1,by assumption,q _ H (.sc rfl)⟩
   ·cases e
  ·cases e
 ·cases e
end
section
variable  {Γ:Gm}{H H':Hp}{X:List En}{e:En}{ρ:Rho}{σ:St}{E:List En}{v:V}{t:T}{K:yF}
theorem Sim.partN (S:Sim Γ H ρ σ E)(sm:Same H H'){s:T}(he:e∈E){ro:Option Nat}{p:Option (List Ac)}(ho:e.r.k = .vw ro p){P:V->Prop}(hp:∀ F,Rp Γ.K H e.r.t e.v F->∃ w G,P w/\Rp Γ.K H' s w G/\∀ a∈G,a∈F ∨ H a=none):∃ w,P w/\Sim Γ H' ρ σ (⟨none,w,⟨.vw ro none,s⟩⟩::E):=by
 obtain⟨L,g,hL⟩:=S.sl
 have he':e∈L.map (·.e):=by rw [hL];exact yaL _ he
 obtain⟨h,hh,rfl⟩:=List.mem_map.mp he'
 obtain⟨w,G,h1,h2,h3⟩:=hp h.F (g.rp h hh)
 have own:∀ a,H a=none->a ∉ L.flatMap Hd.own:=fun a ha z=>by
  obtain⟨o,e,_⟩:=(g.ad a z).1
  rw [ha] at e;cases e
 have g':GW Γ H' L:=by
  have:=g.step (hs:=[]) (L:=L) (H':=H') (by simp) (by simp) (sm.offM _) (by simp) (key:=none) (v:=.non) (r:=⟨.ow,.im .non⟩) (F:=[]) List.nodup_nil (by simp) (zfj (by rw [RpI])) (.inl ⟨rfl,by simp⟩) (fun j hj=>by cases hj)
  exact this.drop rfl
 refine⟨w,h1,⟨⟨_,g'.push (v:=w) (r:=⟨.vw ro none,s⟩) (F:=G) h2 ?_ (.inl rfl),by rw [List.map_cons,hL];rfl⟩,S.al,S.len,fun x hx j hj=>?_⟩⟩
 ·have k:=g'.kd h hh
  unfold KdOk at k ⊢
  rw [ho] at k
  cases ro with
  | none=>exact fun a ha=>(h3 a ha).elim (k a) (own a)
  | some j=>
   obtain⟨x,x1,x2,x3,x4,x5⟩:=k
   exact⟨x,x1,x2,x3,fun a ha=>(h3 a ha).elim (x4 a) (fun z=>.inr (own a z)),fun q hq=>by cases hq⟩
 ·rcases ycM hx with rfl | hx
  ·cases hj
  ·exact S.hi x hx j hj
theorem rps_hs:∀ {ts:List T} {xs:List V} {F:List Addr},Rps K H ts xs F->∃ hs:List Hd,hs.map (·.e)=temps xs ts/\hs.flatMap (·.F)=F/\∀ h∈hs,Rp K H h.e.r.t h.e.v h.F/\h.e.r.k = .ow/\h.e.key=none/\∀ a∈h.F,a∈F
 | [],xs,F,r=>by
  obtain⟨rfl,rfl⟩:=r.nil_inv
  exact⟨[],rfl,rfl,by simp⟩
 | t::ts,xs,F,r=>by
  obtain⟨y,r',F1,F2,rfl,r1,r2,rfl⟩:=r.cons_inv
  obtain⟨hs,h1,h2,h3⟩:=rps_hs r2
  refine⟨⟨⟨none,y,⟨.ow,t⟩⟩,F1⟩::hs,by rw [List.map_cons,h1];rfl,by rw [List.flatMap_cons,h2],fun h hh=>?_⟩
  rcases ycM hh with rfl | hh
  ·exact⟨r1,rfl,rfl,fun a ha=>yaL _ ha⟩
  ·obtain⟨a,b,c,d⟩:=h3 h hh
   exact⟨a,b,c,fun x hx=>yaR _ (d x hx)⟩
theorem Sim.split {ts:List T}(S:Sim Γ H ρ σ (⟨none,v,⟨.ow,.tup ts⟩⟩::E)):∃ a xs,v = .ref a/\SqT Γ.K H a xs/\xs.length=ts.length/\Sim Γ H ρ σ (temps xs ts++E):=by
 obtain⟨L,g,h⟩:=S.sl
 rw [List.cons_append] at h
 obtain⟨x,L',rfl,h1,h2⟩:=zw h
 have rp:=g.rp x ymS
 rw [h1,Rp] at rp
 obtain⟨a,xs,ev,hq,rps⟩:=rp
 have k0:=g.kd x ymS
 unfold KdOk at k0
 rw [h1] at k0
 have eo:x.own=x.F:=by unfold Hd.own;rw [h1];rfl
 obtain⟨hs,e1,e2,e3⟩:=rps_hs rps
 have ho:∀ h∈hs,h.e.r.k.isOw=true:=fun h hh=>by rw [(e3 h hh).2.1];rfl
 have eown:(hs++L').flatMap Hd.own=(x::L').flatMap Hd.own:=by rw [List.flatMap_append,List.flatMap_cons,zjh ho,e2,eo]
 refine⟨a,xs,ev,hq,rps.length,⟨⟨hs++L',⟨?_,?_,fun y hy=>?_,fun y hy=>?_,?_,g.fr,g.iol⟩,?_⟩,S.al,S.len,fun y hy j hj=>?_⟩⟩
 ·rw [eown];exact g.nd
 ·rw [eown];exact g.ad
 ·rcases yaM hy with hy | hy
  ·exact (e3 y hy).1
  ·exact g.rp y (ymC _ hy)
 ·rcases yaM hy with hy | hy
  ·unfold KdOk
   rw [(e3 y hy).2.1]
   exact fun b hb=>k0 b ((e3 y hy).2.2.2 b hb)
  ·have k:=g.kd y (ymC _ hy)
   unfold KdOk at k ⊢
   split at k
   ·exact k
   ·exact k
   ·rw [eown];exact k
   ·obtain⟨z,z1,z2,z3,z4,z5⟩:=k
    rcases ycM z1 with rfl | z1
    ·rw [h1] at z2;cases z2
    ·exact⟨z,yaR _ z1,z2,z3,by rw [eown];exact z4,z5⟩
 ·have ks:=g.ks
  rw [List.filterMap_cons,h1] at ks
  rw [List.filterMap_append,List.filterMap_eq_nil_iff.mpr fun y hy=>(e3 y hy).2.2.1]
  exact ks
 ·rw [List.map_append,e1,h2,List.append_assoc]
 ·rcases yaM hy with hy | hy
  ·have:∀ {xs:List V} {ts:List T},y∈temps xs ts->y.key=none:=by
    intro xs
    induction xs with
    | nil=>intro ts h;cases ts<;>cases h
    | cons x xs ih=>
     intro ts h
     cases ts with
     | nil=>cases h
     | cons t ts=>
      rcases ycM h with rfl | h
      ·rfl
      ·exact ih h
   rw [this hy] at hj;cases hj
  ·exact S.hi y (ymC _ hy) j hj
noncomputable def partV (ro:Option Nat):T->R
 | .im i=>⟨.ow,.im i⟩
 | t=>⟨.vw ro none,t⟩
noncomputable def parts:R->Option (List R)
 | ⟨_,.im (.tup is)⟩=>some (is.map fun i=>⟨.ow,.im i⟩)
 | ⟨.ow,.tup ts⟩=>some (ts.map fun t=>⟨.ow,t⟩)
 | ⟨.vw ro _,.tup ts⟩=>some (ts.map (partV ro))
 | _=>none
theorem temps_ens:∀ {xs:List V} {ts:List T},temps xs ts=ens xs (ts.map fun t=>⟨.ow,t⟩)
 | [],ts=>by cases ts<;>rfl
 | x::xs,[]=>rfl
 | x::xs,t::ts=>by rw [temps,List.map_cons,ens,temps_ens]
theorem Sim.imms:∀ {is:List I} {xs:List V} {E:List En},Sim Γ H ρ σ E->RpIs Γ.K H is xs->Sim Γ H ρ σ (ens xs (is.map fun i=>⟨.ow,.im i⟩)++E)
 | [],xs,E,S,r=>by obtain rfl:=r.nil_inv;exact S
 | i::is,xs,E,S,r=>by
  obtain⟨x,r',rfl,h1,h2⟩:=r.cons_inv
  rw [List.map_cons,ens,List.cons_append]
  exact (Sim.imms S h2).imm h1
theorem Sim.parts {r:R}{rs:List R}(S:Sim Γ H ρ σ (⟨none,v,r⟩::E))(h:L2.parts r=some rs):∃ a xs,v = .ref a/\SqT Γ.K H a xs/\xs.length=rs.length/\Sim Γ H ρ σ (ens xs rs++E):=by
 unfold L2.parts at h
 split at h
 ·rename_i k is
  cases h
  obtain⟨F,r⟩:=S.rd ymS
  obtain⟨a,xs,e,hq,hr⟩:=zlc ⟨F,r⟩
  exact⟨a,xs,e,hq,by rw [hr.length,List.length_map],(S.drop rfl).imms hr⟩
 ·rename_i ts
  cases h
  obtain⟨a,xs,e,hq,hl,S2⟩:=S.split
  rw [temps_ens] at S2
  exact⟨a,xs,e,hq,by rw [hl,List.length_map],S2⟩
 ·rename_i ro p ts
  cases h
  obtain⟨F,r⟩:=S.rd ymS
  obtain⟨a,xs,G,e,hq,hr⟩:=zsl ⟨F,r⟩
  obtain⟨L,g,hL⟩:=S.sl
  rw [List.cons_append] at hL
  obtain⟨x,L',rfl,h1,h2⟩:=zw hL
  have rp:=g.rp x ymS
  rw [h1,Rp] at rp
  obtain⟨a',xs',ev,hq',rps⟩:=rp
  have S3:Sim Γ H ρ σ (ens xs' (ts.map (partV ro))++E):=by
   have go:∀ (ts:List T) (xs:List V) (G:List Addr),Rps Γ.K H ts xs G->(∀ a∈G,a∈x.F)->∃ L1,GW Γ H (L1++x::L')/\L1.map (·.e)=ens xs (ts.map (partV ro))/\∀ h∈L1,h.e.key=none:=by
    intro ts
    induction ts with
    | nil=>intro xs G r _;obtain⟨rfl,rfl⟩:=r.nil_inv;exact⟨[],g,rfl,by simp⟩
    | cons t ts ih=>
     intro xs G r hG
     obtain⟨y,r',F1,F2,rfl,r1,r2,rfl⟩:=r.cons_inv
     obtain⟨L1,g1,e1,e2⟩:=ih r' F2 r2 fun a ha=>hG a (yaR _ ha)
     have kx:=g1.kd x (yaR _ ymS)
     unfold KdOk at kx
     rw [h1] at kx
     have key:∃ h:Hd,GW Γ H (h::(L1++x::L'))/\h.e=⟨none,y,partV ro t⟩:=by
      have vw:GW Γ H (⟨⟨none,y,⟨.vw ro none,t⟩⟩,F1⟩::(L1++x::L')):=by
       refine g1.push (v:=y) (r:=⟨.vw ro none,t⟩) (F:=F1) r1 ?_ (.inl rfl)
       unfold KdOk
       cases ro with
       | none=>exact fun a ha=>kx a (hG a (yaL _ ha))
       | some j=>
        obtain⟨z,z1,z2,z3,z4,z5⟩:=kx
        exact⟨z,z1,z2,z3,fun a ha=>z4 a (hG a (yaL _ ha)),fun q hq=>by cases hq⟩
      cases t with
      | im i=>exact⟨_,g1.push (v:=y) (r:=⟨.ow,.im i⟩) (F:=[]) (zfj (zya r1).1) (fun a ha=>by cases ha) (.inr rfl),rfl⟩
      | _=>exact⟨_,vw,rfl⟩
     obtain⟨h,gh,eh⟩:=key
     refine⟨h::L1,gh,by rw [List.map_cons,eh,e1];rfl,fun z hz=>?_⟩
     rcases ycM hz with rfl | hz
     ·rw [eh]
     ·exact e2 z hz
   obtain⟨L1,g1,e1,e2⟩:=go ts xs' x.F rps fun a ha=>ha
   have g2:GW Γ H (L1++L'):=by
    have p:(L1++x::L').Perm (x::(L1++L')):=List.perm_middle
    exact (g1.perm p).drop (by rw [h1])
   refine⟨⟨_,g2,by rw [List.map_append,e1,h2,List.append_assoc]⟩,S.al,S.len,fun y hy j hj=>?_⟩
   rcases yaM hy with hy | hy
   ·rw [← e1] at hy
    obtain⟨z,hz,rfl⟩:=List.mem_map.mp hy
    rw [e2 z hz] at hj;cases hj
   ·exact S.hi y (ymC _ hy) j hj
  exact⟨a',xs',ev,hq',by rw [rps.length,List.length_map],S3⟩
 ·cases h
@[irreducible] noncomputable def mGNil:MGs:=⟨fun rs ρ=>match rs with
 | []=>some ρ
 | _=>none,[]⟩
@[irreducible] noncomputable def zea (g:MG)(gs:MGs):MGs:=⟨fun rs ρ=>match rs with
 | r::rs=>if rs.all (alive g.mu)=true then (match g.run r ρ with
  | some ρ1=>gs.run rs ρ1
  | none=>none) else none
 | []=>none,g.mu++gs.mu⟩
@[irreducible] noncomputable def zbe (gs:MGs):MG:=⟨fun r ρ=>match parts r with
 | some rs=>gs.run rs ρ
 | none=>none,gs.mu⟩
theorem ref_gnil:zim K gNil mGNil:=by with_unfolding_all
 intro Γ H ρ σ E Q vs rs ρ' hK hr hl S q
 cases rs with
 | nil=>
  cases hr
  have:vs = []:=List.length_eq_zero_iff.mp hl
  subst this
  exact⟨rfl,q σ H (by rw [show mGNil.mu = [] from rfl,zqb];exact S)⟩
 | cons _ _=>cases hr
theorem ref_gcons {g:TG}{gs:TGs}{m:MG}{ms:MGs}(h1:RefG K g m)(h2:zim K gs ms):zim K (zln g gs) (zea m ms):=by with_unfolding_all
 intro Γ H ρ σ E Q vs rs ρ' hK hr hl S q
 cases rs with
 | nil=>cases hr
 | cons r rs=>
  cases vs with
  | nil=>cases hl
  | cons v vs=>
   simp only [zea] at hr q
   split at hr
   ·rename_i al
    split at hr
    ·rename_i ρ1 e1
     refine⟨v,vs,rfl,?_⟩
     rw [ens,List.cons_append] at S
     refine h1 Γ H ρ σ _ _ v r ρ1 hK e1 S fun σ1 H1 S1=>?_
     rw [zy,zei al] at S1
     exact h2 Γ H1 ρ1 σ1 _ _ vs rs ρ' hK hr (by simpa using hl) S1 fun σ2 H2 S2=>q σ2 H2 (by rw [← zi];exact S2)
    ·cases hr
   ·cases hr
theorem ref_gtup {gs:TGs}{ms:MGs}{n:Nat}(h:zim K gs ms)(hn:∀ rs ρ ρ',ms.run rs ρ=some ρ'->rs.length=n):RefG K (gTup K n gs) (zbe ms):=by
 intro Γ H ρ σ E Q v r ρ' hK hr S q
 simp only [zbe] at hr q
 split at hr
 ·rename_i rs e1
  obtain⟨a,xs,e,hq,hl,S2⟩:=S.parts e1
  rw [hK] at hq
  exact⟨a,xs,e,hq,by rw [hl];exact hn _ _ _ hr,h Γ H ρ σ _ _ xs rs ρ' hK hr hl S2 q⟩
 ·cases hr
noncomputable def consL (mv:List Nat):List R->Rho->Option (List T×Rho)
 | [],ρ=>some ([],ρ)
 | ⟨.ow,t⟩::rs,ρ=>match consL mv rs ρ with
  | some (ts,ρ')=>some (t::ts,ρ')
  | none=>none
 | ⟨.vw (some i) (some []),t⟩::rs,ρ=>if (mv.contains i && rs.all (alive [i]))=true then (match ρ[i]? with
  | some (some ⟨.ow,_⟩)=>(match consL mv rs ((zv [i] ρ).set i none) with
   | some (ts,ρ')=>some (t::ts,ρ')
   | none=>none)
  | _=>none) else none
 | _,_=>none
theorem Sim.consL {mv:List Nat}:∀ {rs:List R} {vs:List V} {ts:List T} {ρ ρ':Rho} {A E:List En},Sim Γ H ρ σ (A++(ens vs rs++E))->vs.length=rs.length->L2.consL mv rs ρ=some (ts,ρ')->(∀ e∈A,e.r.k = .ow/\e.key=none)->vs.length=ts.length/\Sim Γ H ρ' σ (A++(temps vs ts++zk mv E))
 | [],[],ts,ρ,ρ',A,E,S,_,h,hA=>by
  cases h
  refine⟨rfl,?_⟩
  have:=S.weak mv
  rw [zy] at this
  have ea:zk mv A=A:=List.filter_eq_self.mpr fun e he=>by unfold zka;rw [(hA e he).1];rfl
  rw [ea] at this
  exact this
 | r::rs,v::vs,ts,ρ,ρ',A,E,S,hl,h,hA=>by
  rw [ens,List.cons_append] at S
  obtain⟨k,t⟩:=r
  cases k with
  | ow=>
   simp only [L2.consL] at h
   split at h
   ·rename_i ts1 ρ1 e1
    cases h
    obtain⟨h1,S1⟩:=Sim.consL (rs:=rs) (vs:=vs) (A:=A++[⟨none,v,⟨.ow,t⟩⟩]) (E:=E) (by simpa using S) (by simpa using hl) e1 (fun e he=>by
     rcases yaM he with he | he
     ·exact hA e he
     ·rw [ysM he];exact⟨rfl,rfl⟩)
    exact⟨by simp [h1],by rw [temps];simpa using S1⟩
   ·cases h
  | io n=>cases h
  | vw a b=>
   cases a with
   | none=>cases h
   | some i=>
    cases b with
    | none=>cases h
    | some p=>
     cases p with
     | cons _ _=>cases h
     | nil=>
      simp only [L2.consL] at h
      split at h
      ·rename_i al
       rw [Bool.and_eq_true] at al
       split at h
       ·rename_i t1 h1
        split at h
        ·rename_i ts1 ρ1 e1
         cases h
         have S0:Sim Γ H ρ σ (⟨none,v,⟨.vw (some i) (some []),t⟩⟩::(A++(ens vs rs++E))):=S.perm List.perm_middle
         have S1:=S0.move h1
         have ea:zk [i] A=A:=List.filter_eq_self.mpr fun e he=>by unfold zka;rw [(hA e he).1];rfl
         rw [zy,ea,zy,zei al.2] at S1
         obtain⟨h2,S2⟩:=Sim.consL (rs:=rs) (vs:=vs) (A:=A++[⟨none,v,⟨.ow,t⟩⟩]) (E:=zk [i] E) (S1.perm (by
          rw [List.append_assoc]
          exact (List.perm_middle).symm)) (by simpa using hl) e1 (fun e he=>by
          rcases yaM he with he | he
          ·exact hA e he
          ·rw [ysM he];exact⟨rfl,rfl⟩)
         refine⟨by simp [h2],?_⟩
         rw [temps]
         have ek:zk mv (zk [i] E)=zk mv E:=by
          rw [zi]
          unfold zk
          congr 1
          funext e
          rw [keepE_app]
          by_cases hk:zka mv e=true
          ·rw [hk,Bool.true_and]
           unfold zka at hk ⊢
           split
           ·rename_i j hj
            rw [hj] at hk
            have:j≠i:=fun z=>by subst z;simp at hk;exact hk (by simpa using al.1)
            simp [this]
           ·rfl
          ·rw [Bool.not_eq_true] at hk;rw [hk,Bool.false_and]
         rw [ek] at S2
         simpa using S2
        ·cases h
       ·cases h
      ·cases h
 | [],_::_,_,_,_,_,_,_,h,_,_=>by cases h
 | _::_,[],_,_,_,_,_,_,h,_,_=>by cases h
noncomputable def ims:List T->Option (List I)
 | []=>some []
 | .im i::ts=>(ims ts).map (i :: ·)
 | _=>none
theorem zxl:∀ {ts:List T} {is:List I},ims ts=some is->ts=is.map T.im
 | [],is,h=>by cases h;rfl
 | .im i::ts,is,h=>by
  simp only [ims] at h
  cases e:ims ts with
  | none=>rw [e] at h;cases h
  | some js=>rw [e] at h;cases h;rw [List.map_cons,← zxl e]
 | .tup _::_,_,h=>by cases h
 | .li _::_,_,h=>by cases h
 | .lst _::_,_,h=>by cases h
 | .di _::_,_,h=>by cases h
 | .dc _::_,_,h=>by cases h
 | .ins _ _::_,_,h=>by cases h
noncomputable def zom (ts:List T):T:=match ims ts with
 | some is=>.im (.tup is)
 | none=>.tup ts
noncomputable def znc (ts:List T):T:=match ims ts with
 | some is=>.li is
 | none=>.lst ts
@[irreducible] noncomputable def zz (mv:List Nat)(a:MA):ME:=⟨fun ρ=>match a.run ρ with
 | some (rs,ρ1)=>if rs.length<=1000 then (match consL mv rs ρ1 with
  | some (ts,ρ2)=>some (⟨.ow,zom ts⟩,ρ2)
  | none=>none) else none
 | none=>none,a.mu++mv⟩
@[irreducible] noncomputable def zcb (mv:List Nat)(a:MA):ME:=⟨fun ρ=>match a.run ρ with
 | some (rs,ρ1)=>if rs.length<=1000 then (match consL mv rs ρ1 with
  | some (ts,ρ2)=>some (⟨.ow,znc ts⟩,ρ2)
  | none=>none) else none
 | none=>none,a.mu++mv⟩
theorem sz1000 {n:Nat}(h:n<=1000):n<=sizeLine:=by rw [sizeLine_eq];omega
theorem ref_tupD {ta:TA}{a:MA}{mv:List Nat}(ha:RefA K ta a):RefE K (tTup ta) (zz mv a):=by
 intro Γ H ρ σ E Q r ρ' hK hr S q
 simp only [zz] at hr q
 split at hr
 ·rename_i rs ρ1 e1
  split at hr
  ·rename_i hz
   split at hr
   ·rename_i ts ρ2 e2
    cases hr
    refine ha Γ H ρ σ E _ rs ρ1 hK e1 S fun vs H1 hl S1=>⟨by rw [hl];exact sz1000 hz,fun p hp=>?_⟩
    obtain⟨hl2,S2⟩:=Sim.consL (A:=[]) (by simpa using S1) hl e2 (by simp)
    rw [List.nil_append,zi] at S2
    obtain⟨F,h1,h2,h3,h4⟩:=S2.use hl2
    have sm:=Same.laid (o:=.tup vs) hp
    refine q _ _ (h4 _ (.ref p) (zom ts) F (sm.offM _) (fun a ha=>let ⟨o,e,_⟩:=h3 a ha;⟨o,sm a o e⟩) h2 (fun a ha=>⟨.inl ha,let ⟨o,e,m⟩:=h3 a ha;⟨o,sm a o e,m⟩⟩) ?_)
    unfold zom
    split
    ·rename_i is hi
     rw [zxl hi] at h1
     obtain⟨h5,h6⟩:=Rps.ims.mp h1
     subst h6
     refine zfj ?_
     rw [RpI]
     exact⟨p,vs,rfl,SqT.of zga,h5.same sm⟩
    ·rw [Rp]
     exact⟨p,vs,rfl,SqT.of zga,h1.same sm⟩
   ·cases hr
  ·cases hr
 ·cases hr
theorem ref_lstD {ta:TA}{a:MA}{mv:List Nat}(ha:RefA K ta a):RefE K (tLst ta) (zcb mv a):=by
 intro Γ H ρ σ E Q r ρ' hK hr S q
 simp only [zcb] at hr q
 split at hr
 ·rename_i rs ρ1 e1
  split at hr
  ·rename_i hz
   split at hr
   ·rename_i ts ρ2 e2
    cases hr
    refine ha Γ H ρ σ E _ rs ρ1 hK e1 S fun vs H1 hl S1=>⟨by rw [hl];exact sz1000 hz,fun p hp=>?_⟩
    obtain⟨hl2,S2⟩:=Sim.consL (A:=[]) (by simpa using S1) hl e2 (by simp)
    rw [List.nil_append,zi] at S2
    obtain⟨F,h1,h2,h3,h4⟩:=S2.use hl2
    have sm:=Same.laid (o:=.lst vs) hp
    have np:p ∉ F:=fun z=>by obtain⟨o,e,_⟩:=h3 p z;rw [hp] at e;cases e
    refine q _ _ (h4 _ (.ref p) (znc ts) (p::F) (sm.offM _) (fun a ha=>let ⟨o,e,_⟩:=h3 a ha;⟨o,sm a o e⟩) (List.nodup_cons.mpr ⟨np,h2⟩) (fun a ha=>?_) ?_)
    ·rcases ycM ha with rfl | ha
     ·exact⟨.inr hp,_,zga,rfl⟩
     ·exact⟨.inl ha,let ⟨o,e,m⟩:=h3 a ha;⟨o,sm a o e,m⟩⟩
    ·unfold znc
     split
     ·rename_i is hi
      rw [zxl hi] at h1
      obtain⟨h5,h6⟩:=Rps.ims.mp h1
      subst h6
      rw [Rp]
      exact⟨p,vs,rfl,.inl zga,h5.same sm,rfl⟩
     ·rw [Rp]
      exact⟨p,vs,F,rfl,.inl zga,h1.same sm,rfl⟩
   ·cases hr
  ·cases hr
 ·cases hr
end
section
variable  {Γ:Gm}{H H':Hp}{ρ:Rho}{σ:St}{E:List En}{v x y:V}{t:T}{K:yF}{Q:VK}
noncomputable def ixK:Kd->Option Ac->Option Kd
 | .ow,_=>some .ow
 | .io _,_=>none
 | .vw (some r) (some p),some a=>some (.vw (some r) (some (p++[a])))
 | .vw ro _,_=>some (.vw ro none)
noncomputable def ixP (k:Kd) (a:Option Ac):T->Option R
 | .im i=>some ⟨.ow,.im i⟩
 | t=>match ixK k a with
  | some k'=>some ⟨k',t⟩
  | none=>none
noncomputable def ixI (i:I) (n:Int):Option R:=match i with
 | .tup is=>(atI is n).map fun i=>⟨.ow,.im i⟩
 | .str z=>if z.length<=sizeLine then (atI (sL z) n).map fun c=>⟨.ow,.im (.str ⟨#[c]⟩)⟩ else none
 | _=>none
noncomputable def ixX (k:Kd) (t:T) (n:Int):Option R:=match t with
 | .im i=>ixI i n
 | .li is=>(atI is n).map fun i=>⟨.ow,.im i⟩
 | .lst ts=>(match ixN ts.length n with
  | some j=>(ts[j]?).bind (ixP k (some (.ix j)))
  | none=>none)
 | .tup ts=>(match ixN ts.length n with
  | some j=>(ts[j]?).bind (ixP k none)
  | none=>none)
 | _=>none
@[irreducible] noncomputable def ixR (r:R)(t:T):Option R:=match isI t with
 | some n=>ixX r.k r.t n
 | none=>none
@[irreducible] noncomputable def mIx (a b:ME):ME:=⟨fun ρ=>match a.run ρ with
 | some (ra,ρ1)=>match b.run ρ1 with
  | some (rb,ρ2)=>if alive b.mu ra=true then (match ixR ra rb.t with
   | some r=>some (r,ρ2)
   | none=>none) else none
  | none=>none
 | none=>none,a.mu++b.mu⟩
theorem atI_rpIs {is:List I}{xs:List V}{n:Int}{i:I}(r:RpIs K H is xs)(e:atI is n=some i):∃ w,atI xs n=some w/\RpI K H i w:=by
 unfold atI at e ⊢
 rw [r.length]
 cases h:ixN is.length n with
 | none=>rw [h] at e;cases e
 | some j=>rw [h] at e;exact r.get e
theorem Sim.takeO {s:T}(S:Sim Γ H ρ σ (⟨none,x,⟨.ow,t⟩⟩::E)){P:V->Prop}(hp:∀ F,Rp Γ.K H t x F->∃ w A G B,P w/\Rp Γ.K H s w G/\F=A++G++B):∃ w,P w/\Sim Γ H ρ σ (⟨none,w,⟨.ow,s⟩⟩::E):=by
 obtain⟨F,h1,h2,h3,h4⟩:=Sim.use (vs:=[x]) (ts:=[t]) S rfl
 obtain⟨y,r',F1,F2,e,r1,r2,rfl⟩:=h1.cons_inv
 cases e
 have:=r2.nil_inv.2
 subst this
 rw [List.append_nil] at h2 h3 h4
 obtain⟨w,A,G,B,p,rg,rfl⟩:=hp F1 r1
 have inF:∀ a∈G,a∈A++G++B:=fun a ha=>yaL _ (yaR _ ha)
 exact⟨w,p,h4 H w s G (OffM.refl _ _) (fun a ha=>let ⟨o,e,_⟩:=h3 a ha;⟨o,e⟩) (List.nodup_append.mp (List.nodup_append.mp h2).1).2.1 (fun a ha=>⟨.inl (inF a ha),h3 a (inF a ha)⟩) rg⟩
theorem zkm {α:Type}{xs:List α}{n:Int}{j m:Nat}{w : α}(h:ixN m n=some j)(hl:xs.length=m)(hw:xs[j]?=some w):atI xs n=some w:=by
 unfold atI;rw [hl,h];exact hw
theorem Sim.ixL {k:Kd}{ts:List T}{s:T}{j:Nat}{n:Int}{r:R}(S:Sim Γ H ρ σ (⟨none,x,⟨k,.lst ts⟩⟩::E))(hn:ixN ts.length n=some j)(hj:ts[j]?=some s)(hr:L2.ixP k (some (.ix j)) s=some r) :
  ∃ w,(∀ Q:VK,Q w H->rIx Γ.K x (.int n) H Q)/\Sim Γ H ρ σ (⟨none,w,r⟩::E):=by
 have gen:∀ F,Rp Γ.K H (.lst ts) x F->∃ w A G B,(∀ Q:VK,Q w H->rIx Γ.K x (.int n) H Q)/\Rp Γ.K H s w G/\F=A++G++B:=fun F rp=>by
  rw [Rp] at rp
  obtain⟨a,xs,F',rfl,h2,h3,rfl⟩:=rp
  obtain⟨w,A,G,B,h4,h5,h6,_,_⟩:=h3.at hj
  exact⟨w,a::A,G,B,fun Q q=>.inl ⟨a,xs,n,w,rfl,rfl,zxa h2,zkm hn h3.length h4,q⟩,h5,by rw [h6];simp⟩
 have hview:∀ ro p,k = .vw ro p->∃ w,(∀ Q:VK,Q w H->rIx Γ.K x (.int n) H Q)/\Sim Γ H ρ σ (⟨none,w,⟨.vw ro none,s⟩⟩::E):=fun ro p hk=>by
  obtain⟨w,h1,S2⟩:=S.part (e:=⟨none,x,⟨k,.lst ts⟩⟩) ymS hk (P:=fun w=>∀ Q:VK,Q w H->rIx Γ.K x (.int n) H Q) (s:=s) (fun F rp=>by
   obtain⟨w,A,G,B,h1,h2,h3⟩:=gen F rp
   exact⟨w,G,h1,h2,fun a ha=>by rw [h3];exact yaL _ (yaR _ ha)⟩)
  exact⟨w,h1,S2.swap.drop rfl⟩
 have main:∀ k',ixK k (some (.ix j))=some k'->∃ w,(∀ Q:VK,Q w H->rIx Γ.K x (.int n) H Q)/\Sim Γ H ρ σ (⟨none,w,⟨k',s⟩⟩::E):=fun k' hk'=>by
  cases k with
  | ow=>
   cases hk'
   exact S.takeO gen
  | io m=>cases hk'
  | vw ro p=>
   cases ro with
   | none=>
    cases hk'
    exact hview none p rfl
   | some i=>
    cases p with
    | none=>cases hk';exact hview (some i) none rfl
    | some p=>
     cases hk'
     obtain⟨w,h1,S2⟩:=S.partP (e:=⟨none,x,⟨.vw (some i) (some p),.lst ts⟩⟩) ymS rfl (a:=.ix j) (s:=s) hj
     refine⟨w,fun Q q=>?_,S2.swap.drop rfl⟩
     obtain⟨F,rp⟩:=S.rd ymS
     obtain⟨a,xs,G,e1,h2,h3⟩:=zlh ⟨F,rp⟩
     obtain⟨a',xs',e2,g1,g2⟩:=h1
     have e1':x = .ref a:=e1
     have e2':x = .ref a':=e2
     rw [e1'] at e2'
     cases e2'
     have e3:xs'=xs:=by
      rcases h2 with h2 | ⟨o,h2⟩
      ·rw [h2] at g1;cases g1;rfl
      ·rw [h2] at g1;cases g1
     subst e3
     rw [e1']
     exact .inl ⟨a,xs',n,w,rfl,rfl,SqL.of g1,zkm hn h3.length g2,q⟩
 cases s with
 | im i=>
  cases hr
  obtain⟨F,rp⟩:=S.rd ymS
  obtain⟨w,A,G,B,h1,h2,_⟩:=gen F rp
  exact⟨w,h1,(S.drop rfl).imm (zya h2).1⟩
 | _=>
  simp only [L2.ixP] at hr
  split at hr
  ·rename_i k' e;cases hr;exact main k' e
  ·cases hr
theorem Sim.ixT {k:Kd}{ts:List T}{s:T}{j:Nat}{n:Int}{r:R}(S:Sim Γ H ρ σ (⟨none,x,⟨k,.tup ts⟩⟩::E))(hn:ixN ts.length n=some j)(hj:ts[j]?=some s)(hr:L2.ixP k none s=some r) :
  ∃ w,(∀ Q:VK,Q w H->rIx Γ.K x (.int n) H Q)/\Sim Γ H ρ σ (⟨none,w,r⟩::E):=by
 have gen:∀ F,Rp Γ.K H (.tup ts) x F->∃ w A G B,(∀ Q:VK,Q w H->rIx Γ.K x (.int n) H Q)/\Rp Γ.K H s w G/\F=A++G++B:=fun F rp=>by
  rw [Rp] at rp
  obtain⟨a,xs,rfl,h2,h3⟩:=rp
  obtain⟨w,A,G,B,h4,h5,h6,_,_⟩:=h3.at hj
  exact⟨w,A,G,B,fun Q q=>.inr (.inl ⟨a,xs,n,w,rfl,rfl,h2,zkm hn h3.length h4,q⟩),h5,h6⟩
 have main:∀ k',ixK k none=some k'->∃ w,(∀ Q:VK,Q w H->rIx Γ.K x (.int n) H Q)/\Sim Γ H ρ σ (⟨none,w,⟨k',s⟩⟩::E):=fun k' hk'=>by
  cases k with
  | ow=>
   cases hk'
   exact S.takeO gen
  | io m=>cases hk'
  | vw ro p=>
   have hv:k' = .vw ro none:=by cases ro<;>cases p<;>cases hk'<;>rfl
   subst hv
   obtain⟨w,h1,S2⟩:=S.part (e:=⟨none,x,⟨.vw ro p,.tup ts⟩⟩) ymS rfl (P:=fun w=>∀ Q:VK,Q w H->rIx Γ.K x (.int n) H Q) (s:=s) (fun F rp=>by
    obtain⟨w,A,G,B,h1,h2,h3⟩:=gen F rp
    exact⟨w,G,h1,h2,fun a ha=>by rw [h3];exact yaL _ (yaR _ ha)⟩)
   exact⟨w,h1,S2.swap.drop rfl⟩
 cases s with
 | im i=>
  cases hr
  obtain⟨F,rp⟩:=S.rd ymS
  obtain⟨w,A,G,B,h1,h2,_⟩:=gen F rp
  exact⟨w,h1,(S.drop rfl).imm (zya h2).1⟩
 | _=>
  simp only [L2.ixP] at hr
  split at hr
  ·rename_i k' e;cases hr;exact main k' e
  ·cases hr
theorem Sim.ixR {ra r:R}{tb:T}(h:L2.ixR ra tb=some r)(S:Sim Γ H ρ σ (⟨none,x,ra⟩::E))(ry:Rpx Γ.K H tb y):∃ w,(∀ Q:VK,Q w H->rIx Γ.K x y H Q)/\Sim Γ H ρ σ (⟨none,w,r⟩::E):=by
 have r1:Rpx Γ.K H ra.t x:=S.rd (e:=⟨none,x,ra⟩) ymS
 unfold L2.ixR at h
 split at h
 ·rename_i n en
  cases zzd en
  obtain⟨k0,t0⟩:=ra
  replace r1:Rpx Γ.K H t0 x:=r1
  rw [zna ry]
  unfold ixX at h
  dsimp only at h
  split at h
  ·unfold ixI at h
   split at h
   ·rename_i is
    cases h0:atI is n with
    | none=>rw [h0] at h;cases h
    | some i=>
     rw [h0] at h;cases h
     obtain⟨p,xs,ex,g1,g2⟩:=zlc r1
     obtain⟨w,h3,h4⟩:=atI_rpIs g2 h0
     exact⟨w,fun Q q=>.inr (.inl ⟨p,xs,n,w,ex,rfl,g1,h3,q⟩),(S.drop rfl).imm h4⟩
   ·rename_i z
    split at h
    ·rename_i hz
     cases h0:atI (sL z) n with
     | none=>rw [h0] at h;cases h
     | some c=>
      rw [h0] at h;cases h
      exact⟨_,fun Q q=>.inr (.inr ⟨z,n,c,zne r1,rfl,hz,h0,q⟩),(S.drop rfl).imm (zvk rfl)⟩
    ·cases h
   ·cases h
  ·rename_i is
   cases h0:atI is n with
   | none=>rw [h0] at h;cases h
   | some i=>
    rw [h0] at h;cases h
    obtain⟨p,xs,ex,g1,g2⟩:=zpe r1
    obtain⟨w,h3,h4⟩:=atI_rpIs g2 h0
    exact⟨w,fun Q q=>.inl ⟨p,xs,n,w,ex,rfl,zxa g1,h3,q⟩,(S.drop rfl).imm h4⟩
  ·rename_i ts
   split at h
   ·rename_i j hj
    cases h0:ts[j]? with
    | none=>rw [h0] at h;cases h
    | some s=>
     rw [h0] at h
     exact S.ixL hj h0 h
   ·cases h
  ·rename_i ts
   split at h
   ·rename_i j hj
    cases h0:ts[j]? with
    | none=>rw [h0] at h;cases h
    | some s=>
     rw [h0] at h
     exact S.ixT hj h0 h
   ·cases h
  ·cases h
 ·cases h
theorem ref_ix {ta tb:TE}{a b:ME}(ha:RefE K ta a)(hb:RefE K tb b):RefE K (tOp (rIx K) ta tb) (mIx a b):=by with_unfolding_all
 intro Γ H ρ σ E Q r ρ' hK hr S q
 simp only [mIx] at hr
 split at hr
 ·rename_i ra ρ1 e1
  split at hr
  ·rename_i rb ρ2 e2
   split at hr
   ·rename_i al
    split at hr
    ·rename_i r0 e3
     cases hr
     refine ha Γ H ρ σ E _ ra ρ1 hK e1 S fun x H1 S1=>?_
     refine hb Γ H1 ρ1 σ _ _ rb _ hK e2 S1 fun y H2 S2=>?_
     rw [zt (zab al),zi] at S2
     have r2:=S2.rd ymS
     obtain⟨w,h1,S4⟩:=Sim.ixR e3 (S2.drop rfl) r2
     rw [← hK]
     exact h1 Q (q w _ S4)
    ·cases hr
   ·cases hr
  ·cases hr
 ·cases hr
structure MO where
 run:Rho->Option (Option Int×Rho)
 mu:List Nat
def RefO (K:yF)(to:TO)(m:MO):Prop:=∀ (Γ:Gm) (H:Hp) (ρ:Rho) (σ:St) (E:List En) (Q:Option Int->Hp->Prop) (o:Option Int) (ρ':Rho),Γ.K=K->m.run ρ=some (o,ρ')->Sim Γ H ρ σ E->(∀ H',Sim Γ H' ρ' σ (zk m.mu E)->Q o H')->to σ H Q
@[irreducible] noncomputable def mNoPart:MO:=⟨fun ρ=>some (none,ρ),[]⟩
@[irreducible] noncomputable def zkg (a:ME):MO:=⟨fun ρ=>match a.run ρ with
 | some (⟨_,.im (.int n)⟩,ρ1)=>some (some n,ρ1)
 | _=>none,a.mu⟩
theorem ref_noPart:RefO K tNoPart mNoPart:=by with_unfolding_all
 intro Γ H ρ σ E Q o ρ' hK hr S q
 cases hr
 exact q H (by rw [show mNoPart.mu = [] from rfl,zqb];exact S)
theorem ref_part {ta:TE}{a:ME}(ha:RefE K ta a):RefO K (zgn ta) (zkg a):=by with_unfolding_all
 intro Γ H ρ σ E Q o ρ' hK hr S q
 simp only [zkg] at hr
 split at hr
 ·rename_i k n ρ1 e1
  cases hr
  exact ha Γ H ρ σ E _ _ _ hK e1 S fun x H1 S1=>⟨n,zna (S1.rd ymS),q H1 (S1.drop rfl)⟩
 ·cases hr
theorem RpIs.cut {is:List I}{xs:List V}(r:RpIs K H is xs)(lo hi:Option Int):RpIs K H (cutL is lo hi) (cutV xs lo hi):=by
 unfold cutL cutV
 rw [r.length]
 exact (r.drop _).take _
theorem Rps.cut {ts:List T}{xs:List V}{F:List Addr}(r:Rps K H ts xs F)(lo hi:Option Int):∃ A G B,Rps K H (cutL ts lo hi) (cutV xs lo hi) G/\F=A++G++B:=by
 unfold cutL cutV
 rw [r.length]
 obtain⟨A,G1,h1,h2,rfl⟩:=r.take (HT.sIx ts.length 0 lo)
 obtain⟨G,B,h3,h4,rfl⟩:=h2.take (HT.sIx ts.length ts.length hi - HT.sIx ts.length 0 lo)
 exact⟨A,G,B,h3,by simp⟩
noncomputable def slI (i:I) (lo hi:Option Int):Option R:=match i with
 | .tup is=>if HT.sIx is.length 0 lo=0/\HT.sIx is.length is.length hi=is.length then none else some ⟨.ow,.im (.tup (cutL is lo hi))⟩
 | .str z=>if z.length<=sizeLine then some ⟨.ow,.im (.str (oL (cutL (sL z) lo hi)))⟩ else none
 | _=>none
noncomputable def slX (k:Kd) (t:T) (lo hi:Option Int):Option R:=match t with
 | .li is=>some ⟨.ow,.li (cutL is lo hi)⟩
 | .im i=>slI i lo hi
 | .lst ts=>(match k with
  | .vw ro _=>some ⟨.vw ro none,.lst (cutL ts lo hi)⟩
  | _=>none)
 | _=>none
@[irreducible] noncomputable def slR (r:R)(lo hi:Option Int):Option R:=slX r.k r.t lo hi
@[irreducible] noncomputable def mSl (a:ME)(lo hi:MO):ME:=⟨fun ρ=>match a.run ρ with
 | some (ra,ρ1)=>match lo.run ρ1 with
  | some (l,ρ2)=>match hi.run ρ2 with
   | some (h,ρ3)=>if alive (lo.mu++hi.mu) ra=true then (match slR ra l h with
    | some r=>some (r,ρ3)
    | none=>none) else none
   | none=>none
  | none=>none
 | none=>none,a.mu++(lo.mu++hi.mu)⟩
theorem ref_sl {ta:TE}{tl th:TO}{a:ME}{lo hi:MO}(ha:RefE K ta a)(hl:RefO K tl lo)(hh:RefO K th hi):RefE K (tSl (rSl K) ta tl th) (mSl a lo hi):=by with_unfolding_all
 intro Γ H ρ σ E Q r ρ' hK hr S q
 simp only [mSl] at hr
 split at hr
 ·rename_i ra ρ1 e1
  split at hr
  ·rename_i l ρ2 e2
   split at hr
   ·rename_i h ρ3 e3
    split at hr
    ·rename_i al
     split at hr
     ·rename_i r0 e4
      cases hr
      refine ha Γ H ρ σ E _ ra ρ1 hK e1 S fun x H1 S1=>?_
      refine hl Γ H1 ρ1 σ _ _ l _ hK e2 S1 fun H2 S2=>?_
      refine hh Γ H2 ρ2 σ _ _ h _ hK e3 S2 fun H3 S3=>?_
      rw [zi,zt (zab al),zi] at S3
      have r1:=S3.rd ymS
      unfold slR slX at e4
      obtain⟨k0,t0⟩:=ra
      replace r1:Rpx Γ.K H3 t0 x:=r1
      dsimp only at e4
      split at e4
      ·cases e4
       obtain⟨p,xs,ex,g1,g2⟩:=zpe r1
       exact .inr (.inl ⟨p,xs,ex,zxa g1,fun p hp=>q _ _ ((S3.drop rfl).fresh (.li hp (g2.cut l h)))⟩)
      ·unfold slI at e4
       split at e4
       ·rename_i is
        split at e4
        ·cases e4
        ·rename_i hw
         cases e4
         obtain⟨p,xs,ex,g1,g2⟩:=zlc r1
         rw [hK] at g1
         exact .inl ⟨p,xs,ex,g1,by rw [g2.length];exact hw,fun p hp=>q _ _ ((S3.drop rfl).fresh (.tup hp (g2.cut l h)))⟩
       ·split at e4
        ·rename_i hz
         cases e4
         exact .inr (.inr ⟨_,zne r1,hz,q _ _ ((S3.drop rfl).imm (zvk rfl))⟩)
        ·cases e4
       ·cases e4
      ·rename_i ts
       split at e4
       ·rename_i ro p0
        cases e4
        obtain⟨p,xs,F,ex0,g1,g2⟩:=zlh r1
        have ex:x = .ref p:=ex0
        refine .inr (.inl ⟨p,xs,ex,zxa g1,fun p' hp=>?_⟩)
        obtain⟨w,hw,S4⟩:=S3.partN (H':=upd H3 p' (.lst (cutV xs l h))) (Same.laid hp) (s:=.lst (cutL ts l h)) ymS rfl (P:=fun w=>w = .ref p') (fun F rp=>by
         have rp':Rp Γ.K H3 (.lst ts) x F:=rp
         rw [Rp] at rp'
         obtain⟨a',xs',F',ex',g1',g2',rfl⟩:=rp'
         rw [ex] at ex'
         cases ex'
         have e3:xs'=xs:=by
          rcases g1 with g1 | ⟨o,g1⟩<;>rcases g1' with g1' | ⟨o',g1'⟩<;>rw [g1] at g1'<;>cases g1'<;>rfl
         subst e3
         obtain⟨A,G,B,g3,rfl⟩:=g2'.cut l h
         refine⟨.ref p',p'::G,rfl,?_,fun b hb=>?_⟩
         ·rw [Rp]
          exact⟨p',_,G,rfl,.inl zga,g3.same (Same.laid hp),rfl⟩
         ·rcases ycM hb with rfl | hb
          ·exact .inr hp
          ·exact .inl (ymC _ (yaL _ (yaR _ hb))))
        subst hw
        exact q _ _ (S4.swap.drop rfl)
       ·cases e4
      ·cases e4
     ·cases hr
    ·cases hr
   ·cases hr
  ·cases hr
 ·cases hr
@[irreducible] noncomputable def revT:T->Option T
 | .im (.tup is)=>some (.im (.tup is.reverse))
 | _=>none
theorem ref_rev {ta:TE}{a:ME}(ha:RefE K ta a):RefE K (zxn K ta) (mUn revT a):=by with_unfolding_all
 intro Γ H ρ σ E Q r ρ' hK hr S q
 simp only [mUn] at hr
 split at hr
 ·rename_i ra ρ1 e1
  split at hr
  ·rename_i t e2
   cases hr
   refine ha Γ H ρ σ E _ ra _ hK e1 S fun x H1 S1=>?_
   have r1:=S1.rd ymS
   obtain⟨k,ta⟩:=ra
   unfold revT at e2
   split at e2
   ·rename_i is e0
    cases e2
    have e0':ta = .im (.tup is):=e0
    subst e0'
    obtain⟨p,xs,ex,g1,g2⟩:=zlc r1
    rw [hK] at g1
    exact⟨p,xs,ex,g1,fun p hp=>q _ _ ((S1.drop rfl).fresh (.tup hp g2.reverse))⟩
   ·cases e2
  ·cases hr
 ·cases hr
def zqe (K:yF)(red:V->List V->Hp->VK->Prop)(f:T->List T->Option (T×I)):Prop:=∀ (H:Hp) (w:V) (vs:List V) (s:T) (ts:List T) (s':T) (i:I) (G F:List Addr) (Q:VK),Rp K H s w G->Rps K H ts vs F->(G++F).Nodup->(∀ a∈G++F,Mu H a)->f s ts=some (s',i) →
 (∀ v H' G',OffM G H H'->(∀ a∈G,∃ o,H' a=some o)->G'.Nodup->(∀ a∈G',(a∈G++F ∨ H a=none)/\Mu H' a)->Rp K H' s' w G'->RpI K H' i v->Q v H')->red w vs H Q
@[irreducible] noncomputable def mutR (i:Nat)(mv:List Nat)(f:T->List T->Option (T×I))(r0:R)(rs:List R)(ρ1:Rho):Option (R×Rho):=match r0 with
 | ⟨.vw (some j) (some p),s⟩=>if (decide (j=i) && !mv.contains i)=true then (match consL mv rs ρ1 with
  | some (ts,ρ2)=>(match f s ts with
   | some (s',res)=>(match ρ2[i]? with
    | some (some ⟨k,t⟩)=>if k.isOw=true then some (⟨.ow,.im res⟩,(zv [i] ρ2).set i (some ⟨k,t.put p s'⟩)) else none
    | _=>none)
   | none=>none)
  | none=>none) else none
 | _=>none
theorem Sim.mutR {i:Nat}{mv:List Nat}{red:V->List V->Hp->VK->Prop}{f:T->List T->Option (T×I)}{r0:R}{rs:List R}{r:R}{ρ1 ρ':Rho}{vs:List V}(hK : Γ.K=K)(hp:zqe K red f)(h:L2.mutR i mv f r0 rs ρ1=some (r,ρ'))(hl:vs.length=rs.length)(S:Sim Γ H ρ1 σ (ens vs rs++⟨none,x,r0⟩::E))(q:∀ v H',Sim Γ H' ρ' σ (⟨none,v,r⟩::zk (mv++[i]) E)->Q v H'):red x vs H Q:=by
 unfold L2.mutR at h
 split at h
 ·rename_i j p s
  split at h
  ·rename_i hc
   rw [Bool.and_eq_true,decide_eq_true_eq,Bool.not_eq_true'] at hc
   obtain⟨rfl,hmv⟩:=hc
   split at h
   ·rename_i ts ρ2 e1
    split at h
    ·rename_i s' res e2
     split at h
     ·rename_i k t e3
      split at h
      ·rename_i ho
       cases h
       obtain⟨hl2,S2⟩:=Sim.consL (A:=[]) (by simpa using S) hl e1 (by simp)
       rw [List.nil_append,zt (show zka mv ⟨none,x,⟨.vw (some j) (some p),s⟩⟩=true by unfold zka;simp only [Kd.root];rw [hmv];rfl)] at S2
       obtain⟨G,F,h1,h2,h3,h4,h5⟩:=S2.mut hl2 e3 ho
       rw [hK] at h1 h2
       refine hp H x vs s ts s' res G F Q h1 h2 h3 h4 e2 fun v H' G' a b c d e g=>q v H' ?_
       rw [← zi]
       rw [← hK] at e g
       exact (h5 H' s' G' a b c d e).imm g
      ·cases h
     ·cases h
    ·cases h
   ·cases h
  ·cases h
 ·cases h
@[irreducible] noncomputable def mMut (i:Nat)(mv:List Nat)(f:T->List T->Option (T×I))(o:ME)(a:MA):ME:=⟨fun ρ=>match o.run ρ with
 | some (r0,ρ0)=>match a.run ρ0 with
  | some (rs,ρ1)=>if alive a.mu r0=true then L2.mutR i mv f r0 rs ρ1 else none
  | none=>none
 | none=>none,(o.mu++a.mu)++(mv++[i])⟩
theorem ref_mut {T0:String}{red:V->List V->Hp->VK->Prop}{f:T->List T->Option (T×I)}{i:Nat}{mv:List Nat}{to:TE}{ta:TA}{o:ME}{a:MA}(hp:zqe K red f)(hty:∀ (H:Hp) (x:V) (tx:T) ts r,Rpx K H tx x->f tx ts=some r->tyV K T0 x H)(ho:RefE K to o)(ha:RefA K ta a):RefE K (tBM K T0 red to ta) (mMut i mv f o a):=by
 intro Γ H ρ σ E Q r ρ' hK hr S q
 simp only [mMut] at hr q
 split at hr
 ·rename_i r0 ρ0 e0
  split at hr
  ·rename_i rs ρ1 e1
   split at hr
   ·rename_i al
    refine ho Γ H ρ σ E _ r0 _ hK e0 S fun x H1 S1=>?_
    have r0':=S1.rd ymS
    rw [hK] at r0'
    refine⟨?_,?_⟩
    ·unfold L2.mutR at hr
     split at hr
     ·split at hr
      ·split at hr
       ·split at hr
        ·rename_i e2;exact hty H1 x _ _ _ r0' e2
        ·cases hr
       ·cases hr
      ·cases hr
     ·cases hr
    ·refine ha Γ H1 ρ0 σ _ _ rs _ hK e1 S1 fun vs H2 hl S2=>?_
     rw [zt (zab al),zi] at S2
     exact Sim.mutR hK hp hr hl S2 fun v H' S3=>q v H' (by rw [← zi];exact S3)
   ·cases hr
  ·cases hr
 ·cases hr
@[irreducible] noncomputable def zem (i:Nat)(f:T->List T->Option (T×I))(o:ME):ME:=⟨fun ρ=>match o.run ρ with
 | some (r0,ρ0)=>L2.mutR i [] f r0 [] ρ0
 | none=>none,o.mu++[i]⟩
theorem ref_mut0 {T0:String}{red:V->List V->Hp->VK->Prop}{f:T->List T->Option (T×I)}{i:Nat}{to:TE}{o:ME}(hp:zqe K red f)(hty:∀ (H:Hp) (x:V) (tx:T) ts r,Rpx K H tx x->f tx ts=some r->tyV K T0 x H)(ho:RefE K to o):RefE K (tBM0 K T0 red to) (zem i f o):=by
 intro Γ H ρ σ E Q r ρ' hK hr S q
 simp only [zem] at hr q
 split at hr
 ·rename_i r0 ρ0 e0
  refine ho Γ H ρ σ E _ r0 _ hK e0 S fun x H1 S1=>?_
  have r0':=S1.rd ymS
  rw [hK] at r0'
  refine⟨?_,?_⟩
  ·unfold L2.mutR at hr
   split at hr
   ·split at hr
    ·split at hr
     ·split at hr
      ·rename_i e2;exact hty H1 x _ _ _ r0' e2
      ·cases hr
     ·cases hr
    ·cases hr
   ·cases hr
  ·exact Sim.mutR (vs:=[]) (mv:=[]) hK hp hr rfl S1 fun v H' S3=>q v H' (by rw [← zi];exact S3)
 ·cases hr
theorem zjl {is:List I}{w:V}{G:List Addr}(h:Rp K H (.li is) w G)(mu:∀ a∈G,Mu H a):∃ a xs,w = .ref a/\H a=some (.lst xs)/\RpIs K H is xs/\G = [a]:=by
 rw [Rp] at h
 obtain⟨a,xs,h1,h2,h3,rfl⟩:=h
 exact⟨a,xs,h1,(mu a ymS).lst h2,h3,rfl⟩
theorem mu_lst {ts:List T}{w:V}{G:List Addr}(h:Rp K H (.lst ts) w G)(mu:∀ a∈G,Mu H a):∃ a xs F,w = .ref a/\H a=some (.lst xs)/\Rps K H ts xs F/\G=a::F:=by
 rw [Rp] at h
 obtain⟨a,xs,F,h1,h2,h3,rfl⟩:=h
 exact⟨a,xs,F,h1,(mu a ymS).lst h2,h3,rfl⟩
theorem zaj {is':List I}{xs xs':List V}{a:Addr}{F:List Addr}{i:I}{v:V}(hH:H a=some (.lst xs))(hr:RpIs K H is' xs')(hi:RpI K H i v)
  (q:∀ v H' G',OffM [a] H H'->(∀ b∈[a],∃ o,H' b=some o)->G'.Nodup->(∀ b∈G',(b∈[a]++F ∨ H b=none)/\Mu H' b)->Rp K H' (.li is') (.ref a) G'->RpI K H' i v->Q v H'):Q v (upd H a (.lst xs')):=by
 have hM:∀ b∈[a],Mu H b:=fun b hb=>by rw [ysM hb];exact⟨_,hH,rfl⟩
 refine q v _ [a] OffM.upd (fun b hb=>by rw [ysM hb];exact⟨_,zga⟩) (by simp) (fun b hb=>?_) ?_ (hi.off OffM.upd hM)
 ·rw [ysM hb];exact⟨.inl (by simp),_,zga,rfl⟩
 ·rw [Rp];exact⟨a,xs',rfl,.inl zga,hr.off OffM.upd hM,rfl⟩
theorem upd_lst {ts':List T}{xs xs':List V}{a:Addr}{G F F':List Addr}{i:I}{v:V}(hH:H a=some (.lst xs))(nd:(a::F').Nodup)(mu:∀ b∈F',Mu H b)(hF:∀ b∈F',b∈(a::G)++F)(hr:Rps K H ts' xs' F')(hi:RpI K H i v)
  (q:∀ v H' G',OffM (a::G) H H'->(∀ b∈a::G,∃ o,H' b=some o)->G'.Nodup->(∀ b∈G',(b∈(a::G)++F ∨ H b=none)/\Mu H' b)->Rp K H' (.lst ts') (.ref a) G'->RpI K H' i v->Q v H') (dG:∀ b∈G,∃ o,H b=some o):Q v (upd H a (.lst xs')):=by
 have hM:∀ b∈[a],Mu H b:=fun b hb=>by rw [ysM hb];exact⟨_,hH,rfl⟩
 have na:∀ b∈F',b≠a:=fun b hb z=>(List.nodup_cons.mp nd).1 (z ▸ hb)
 refine q v _ (a::F') (OffM.upd.mono fun b hb=>by rw [ysM hb];exact ymS) (fun b hb=>?_) nd (fun b hb=>?_) ?_ (hi.off OffM.upd hM)
 ·by_cases e:b=a
  ·subst e;exact⟨_,zga⟩
  ·rcases ycM hb with z | z
   ·exact absurd z e
   ·obtain⟨o,h⟩:=dG b z;exact⟨o,by rw [upd_ne e];exact h⟩
 ·rcases ycM hb with rfl | hb
  ·exact⟨.inl (by simp),_,zga,rfl⟩
  ·refine⟨.inl (hF b hb),?_⟩
   obtain⟨o,h,m⟩:=mu b hb
   exact⟨o,by rw [upd_ne (na b hb)];exact h,m⟩
 ·rw [Rp]
  refine⟨a,xs',F',rfl,.inl zga,hr.off OffM.upd hM (fun b hb z=>na b hb (ysM z)),rfl⟩
noncomputable def ap1 (s t:T):Option (T×I):=match s with
 | .li is=>(match t with
  | .im i=>if is.length<sizeLine then some (.li (is++[i]),.non) else none
  | _=>if is.length<sizeLine then some (.lst (is.map .im++[t]),.non) else none)
 | .lst ts=>if ts.length<sizeLine then some (.lst (ts++[t]),.non) else none
 | _=>none
@[irreducible] noncomputable def apT (s:T)(ts:List T):Option (T×I):=l1 (ap1 s) ts
theorem rps1 {t:T}{vs:List V}{F:List Addr}(h:Rps K H [t] vs F):∃ v,vs = [v]/\Rp K H t v F:=by
 obtain⟨v,r,F1,F2,rfl,h1,h2,rfl⟩:=h.cons_inv
 obtain⟨rfl,rfl⟩:=h2.nil_inv
 exact⟨v,rfl,by rw [List.append_nil];exact h1⟩
theorem rps2 {t u:T}{vs:List V}{F:List Addr}(h:Rps K H [t,u] vs F):∃ v w F1 F2,vs = [v,w]/\Rp K H t v F1/\Rp K H u w F2/\F=F1++F2:=by
 obtain⟨v,r,F1,F2,rfl,h1,h2,rfl⟩:=h.cons_inv
 obtain⟨w,rfl,h3⟩:=rps1 h2
 exact⟨v,w,F1,F2,rfl,h1,h3,rfl⟩
theorem zbc:RpI K H .non .non:=by rw [RpI]
theorem prim_append:zqe K zll apT:=by
 intro H w vs s ts s' i G F Q rw0 rs nd mu e q
 unfold apT at e
 have e0:=zrf e
 clear e
 obtain⟨tt,rfl,e⟩:=e0
 obtain⟨y,rfl,h3⟩:=rps1 rs
 unfold ap1 at e
 split at e
 ·rename_i is
  obtain⟨a,xs,rfl,h1,h2,rfl⟩:=zjl rw0 fun a ha=>mu a (yaL _ ha)
  split at e
  ·obtain⟨hz,e⟩:=zfa e
   cases e
   exact⟨a,xs,y,rfl,rfl,h1,by rw [h2.length];exact hz,zaj h1 (h2.append (.one (zya h3).1)) zbc q⟩
  ·obtain⟨hz,e⟩:=zfa e
   cases e
   refine⟨a,xs,y,rfl,rfl,h1,by rw [h2.length];exact hz,upd_lst (G:=[]) (F:=F) (F':=F) h1 nd (fun b hb=>mu b (yaR _ hb)) (fun b hb=>yaR _ hb) ?_ zbc q (by simp)⟩
   have:=Rps.append (Rps.ims.mpr ⟨h2,rfl⟩) (Rps.cons h3 Rps.nil)
   simpa using this
 ·obtain⟨hz,e⟩:=zfa e
  cases e
  obtain⟨a,xs,F0,rfl,h1,h2,rfl⟩:=mu_lst rw0 fun a ha=>mu a (yaL _ ha)
  have mm:∀ b∈F0++F,b∈(a::F0)++F:=fun b hb=>(yaM hb).elim (fun z=>yaL _ (ymC _ z)) fun z=>yaR _ z
  refine⟨a,xs,y,rfl,rfl,h1,by rw [h2.length];exact hz,upd_lst (G:=F0) (F:=F) (F':=F0++F) h1 (by simpa using nd) (fun b hb=>mu b (mm b hb)) mm ?_ zbc q (fun b hb=>h2.dom b hb)⟩
  have:=Rps.append h2 (Rps.cons h3 Rps.nil)
  simpa using this
 ·cases e
theorem zhn {is:List I}{x:V}(h:Rpx K H (.li is) x):tyV K "list" x H:=by
 obtain⟨a,xs,rfl,h1,h2⟩:=zpe h
 exact .inl ⟨rfl,xs,zxa h1⟩
theorem ty_lst {is:List T}{x:V}(h:Rpx K H (.lst is) x):tyV K "list" x H:=by
 obtain⟨a,xs,F,rfl,h1,h2⟩:=zlh h
 exact .inl ⟨rfl,xs,zxa h1⟩
theorem ty_append (H:Hp)(x:V)(tx:T)(ts:List T)(r:T×I)(h:Rpx K H tx x)(e:apT tx ts=some r):tyV K "list" x H:=by
 unfold apT at e
 obtain⟨t,_,e⟩:=zrf e
 unfold ap1 at e
 split at e
 ·exact zhn h
 ·exact ty_lst h
 ·cases e
noncomputable def ext1 (s t:T):Option (T×I):=match isLi s with
 | some is=>(match isLi t with
  | some js=>if is.length+js.length<=sizeLine then some (.li (is++js),.non) else none
  | none=>(match isTp t with
   | some js=>if is.length+js.length<=sizeLine then some (.li (is++js),.non) else none
   | none=>none))
 | none=>none
@[irreducible] noncomputable def extT (s:T)(ts:List T):Option (T×I):=l1 (ext1 s) ts
theorem prim_extend:zqe K (zsn K) extT:=by
 intro H w vs s ts s' i G F Q rw0 rs nd mu e q
 unfold extT at e
 have e0:=zrf e
 clear e
 obtain⟨tt,rfl,e⟩:=e0
 obtain⟨y,rfl,h3⟩:=rps1 rs
 unfold ext1 at e
 split at e
 ·rename_i is es
  cases zmf es
  obtain⟨a,xs,rfl,h1,h2,rfl⟩:=zjl rw0 fun a ha=>mu a (yaL _ ha)
  split at e
  ·rename_i js ej
   cases zmf ej
   obtain⟨hz,e⟩:=zfa e
   cases e
   rw [Rp] at h3
   obtain⟨b,ys,rfl,g1,g2,rfl⟩:=h3
   exact .inl ⟨a,b,xs,ys,rfl,rfl,h1,g1,by rw [h2.length,g2.length];exact hz,zaj h1 (h2.append g2) zbc q⟩
  ·split at e
   ·rename_i js ej
    cases isTp_inv ej
    obtain⟨hz,e⟩:=zfa e
    cases e
    have h4:=(zya h3).1
    rw [RpI] at h4
    obtain⟨b,ys,rfl,g1,g2⟩:=h4
    exact .inr ⟨a,b,xs,ys,rfl,rfl,h1,g1,by rw [h2.length,g2.length];exact hz,zaj h1 (h2.append g2) zbc q⟩
   ·cases e
 ·cases e
theorem ty_extend (H:Hp)(x:V)(tx:T)(ts:List T)(r:T×I)(h:Rpx K H tx x)(e:extT tx ts=some r):tyV K "list" x H:=by
 unfold extT at e
 obtain⟨t,_,e⟩:=zrf e
 unfold ext1 at e
 split at e
 ·rename_i is es
  cases zmf es
  exact zhn h
 ·cases e
@[irreducible] noncomputable def popT:T->List T->Option (T×I)
 | .li is,[]=>match is[is.length - 1]? with
  | some i=>some (.li is.dropLast,i)
  | none=>none
 | _,_=>none
theorem RpIs.dropLast {is:List I}{xs:List V}(h:RpIs K H is xs):RpIs K H is.dropLast xs.dropLast:=by
 rw [List.dropLast_eq_take,List.dropLast_eq_take,h.length]
 exact h.take _
theorem prim_pop:zqe K rPop popT:=by
 intro H w vs s ts s' i G F Q rw0 rs nd mu e q
 unfold popT at e
 split at e
 ·rename_i is
  split at e
  ·rename_i j hj
   cases e
   obtain⟨a,xs,rfl,h1,h2,rfl⟩:=zjl rw0 fun a ha=>mu a (yaL _ ha)
   obtain⟨rfl,rfl⟩:=rs.nil_inv
   obtain⟨y,hy,r⟩:=h2.get hj
   rw [← h2.length] at hy
   exact⟨a,xs,y,rfl,rfl,h1,hy,zaj h1 h2.dropLast r q⟩
  ·cases e
 ·cases e
theorem ty_pop (H:Hp)(x:V)(tx:T)(ts:List T)(r:T×I)(h:Rpx K H tx x)(e:popT tx ts=some r):tyV K "list" x H:=by
 unfold popT at e
 split at e
 ·exact zhn h
 ·cases e
noncomputable def ins1 (s n t:T):Option (T×I):=match isLi s with
 | some is=>(match isI n with
  | some n=>(match t with
   | .im i=>if 0<=n/\n<=is.length/\is.length<sizeLine then some (.li (is.take n.toNat++i::is.drop n.toNat),.non) else none
   | _=>none)
  | none=>none)
 | none=>none
@[irreducible] noncomputable def insT (s:T)(ts:List T):Option (T×I):=l2 (ins1 s) ts
theorem prim_insert:zqe K zml insT:=by
 intro H w vs s ts s' i G F Q rw0 rs nd mu e q
 unfold insT at e
 have e0:=zmk e
 clear e
 obtain⟨tn,tt,rfl,e⟩:=e0
 obtain⟨y,z,F1,F2,rfl,g1,g2,rfl⟩:=rps2 rs
 unfold ins1 at e
 split at e
 ·rename_i is es
  cases zmf es
  obtain⟨a,xs,rfl,h1,h2,rfl⟩:=zjl rw0 fun a ha=>mu a (yaL _ ha)
  split at e
  ·rename_i n en
   cases zzd en
   split at e
   ·obtain⟨hz,e⟩:=zfa e
    cases e
    have e1:=zna ⟨F1,g1⟩
    subst e1
    exact⟨a,xs,n,z,rfl,rfl,h1,hz.1,by rw [h2.length];exact hz.2.1,by rw [h2.length];exact hz.2.2,zaj h1 ((h2.take _).append (.cons (zya g2).1 (h2.drop _))) zbc q⟩
   ·cases e
  ·cases e
 ·cases e
theorem ty_insert (H:Hp)(x:V)(tx:T)(ts:List T)(r:T×I)(h:Rpx K H tx x)(e:insT tx ts=some r):tyV K "list" x H:=by
 unfold insT at e
 obtain⟨t,u,_,e⟩:=zmk e
 unfold ins1 at e
 split at e
 ·rename_i is es
  cases zmf es
  exact zhn h
 ·cases e
@[irreducible] noncomputable def setT (s:T)(n:T)(v:T):Option T:=match s,n,v with
 | .li is,.im (.int n),.im i=>match ixN is.length n with
  | some j=>some (.li (is.set j i))
  | none=>none
 | _,_,_=>none
@[irreducible] noncomputable def mSub (j:Nat)(o i:ME):MG:=⟨fun r ρ=>match r with
 | ⟨.ow,tv⟩=>match o.run ρ with
  | some (⟨.vw (some j') (some p),s⟩,ρ1)=>match i.run ρ1 with
   | some (ri,ρ2)=>if (decide (j'=j) && !i.mu.contains j)=true then (match setT s ri.t tv with
    | some s'=>(match ρ2[j]? with
     | some (some ⟨k,t⟩)=>if k.isOw=true then some ((zv [j] ρ2).set j (some ⟨k,t.put p s'⟩)) else none
     | _=>none)
    | none=>none) else none
   | none=>none
  | _=>none
 | _=>none,(o.mu++i.mu)++[j]⟩
theorem RpIs.set' {is:List I}{xs:List V}{i:I}{w:V}(hx:RpI K H i w)(n:Nat)(h:RpIs K H is xs):RpIs K H (is.set n i) (xs.set n w):=RpIs.set hx n h
theorem ref_sub {to ti:TE}{o i:ME}{j:Nat}(ho:RefE K to o)(hi:RefE K ti i):RefG K (gSub to ti rSetL) (mSub j o i):=by
 intro Γ H ρ σ E Q v r ρ' hK hr S q
 simp only [mSub] at hr q
 split at hr
 ·rename_i tv
  split at hr
  ·rename_i j' p s ρ1 e1
   split at hr
   ·rename_i ri ρ2 e2
    split at hr
    ·rename_i hc
     rw [Bool.and_eq_true,decide_eq_true_eq,Bool.not_eq_true'] at hc
     obtain⟨rfl,hmv⟩:=hc
     split at hr
     ·rename_i s' e3
      split at hr
      ·rename_i k t e4
       split at hr
       ·rename_i hw
        cases hr
        refine ho Γ H ρ σ _ _ _ _ hK e1 S fun x H1 S1=>?_
        refine hi Γ H1 ρ1 σ _ _ _ _ hK e2 S1 fun y H2 S2=>?_
        have k1:zka i.mu ⟨none,x,⟨.vw (some j') (some p),s⟩⟩=true:=by unfold zka;simp only [Kd.root];rw [hmv];rfl
        have k2:∀ M:List Nat,zka M ⟨none,v,⟨.ow,tv⟩⟩=true:=fun M=>rfl
        rw [zt k1,zi,zt (k2 _)] at S2
        have ry:=S2.rd ymS
        have S3:=S2.drop rfl
        obtain⟨G,F,h1,h2,h3,h4,h5⟩:=Sim.mut (vs:=[v]) (ts:=[tv]) (S3.perm (List.Perm.swap _ _ _)) rfl e4 hw
        generalize hri:ri.t=tri at e3
        unfold setT at e3
        split at e3
        ·rename_i is n i0
         split at e3
         ·rename_i m hm
          cases e3
          obtain⟨a,xs,rfl,g1,g2,rfl⟩:=zjl h1 fun a ha=>h4 a (yaL _ ha)
          obtain⟨z,ez,g3⟩:=rps1 h2
          cases ez
          obtain⟨g4,rfl⟩:=zya g3
          have ry':∃ F,Rp Γ.K H2 ri.t y F:=ry
          have ey:y = .int n:=by rw [hri] at ry';exact zna ry'
          subst ey
          refine⟨a,xs,n,m,rfl,rfl,g1,by rw [g2.length];exact hm,?_⟩
          refine zaj (Q:=fun _ H'=>Q σ H') (F:=[]) (v:=.non) (i:=.non) g1 (g2.set' g4 m) zbc fun v' H' G' a1 a2 a3 a4 a5 _=>q σ H' ?_
          have:=h5 H' _ G' a1 a2 a3 a4 a5
          rw [zi] at this
          exact this
         ·cases e3
        ·cases e3
       ·cases hr
      ·cases hr
     ·cases hr
    ·cases hr
   ·cases hr
  ·cases hr
 ·cases hr
end
section
variable  {Γ:Gm}{H H':Hp}{ρ:Rho}{σ:St}{E:List En}{v x y:V}{t:T}{K:yF}{Q:VK}
theorem zdi {M N:List Nat}(h:∀ j∈N,j∈M){e:En}(k:zka M e=true):zka N e=true:=by
 unfold zka at k ⊢
 split at k
 ·rename_i j hj
  simp only [Bool.not_eq_true',List.contains_eq_mem,decide_eq_false_iff_not] at k ⊢
  exact fun z=>k (h j z)
 ·rfl
theorem zpc {M N:List Nat}(h:∀ j∈N,j∈M)(E:List En):zk N (zk M E)=zk M E:=by
 unfold zk
 rw [List.filter_eq_self]
 intro e he
 exact zdi h (List.mem_filter.mp he).2
noncomputable def itW (c:MT) (b:MS):Nat->Rho->Option (Fl×Rho)
 | 0,_=>none
 | n+1,ρ=>match c.run ρ with
  | some (true,ρ1)=>(match b.run ρ1 with
   | some (.nx,ρ2)=>itW c b n ρ2
   | some (.ct,ρ2)=>itW c b n ρ2
   | some (.bk,ρ2)=>some (.nx,ρ2)
   | some (.rt t,ρ2)=>some (.rt t,ρ2)
   | none=>none)
  | some (false,ρ1)=>some (.nx,ρ1)
  | none=>none
theorem znf {c:MT}{b:MS}:∀ {n:Nat} {ρ:Rho} {r:Fl×Rho},itW c b n ρ=some r->∀ m,n<=m->itW c b m ρ=some r
 | 0,_,_,h,_,_=>by cases h
 | n+1,ρ,r,h,m,hm=>by
  obtain⟨m',rfl⟩:∃ m',m=m'+1:=⟨m - 1,by omega⟩
  rw [itW] at h ⊢
  split at h
  ·rename_i ρ1 e1
   split at h
   ·rename_i ρ2 e2;exact znf h m' (by omega)
   ·rename_i ρ2 e2;exact znf h m' (by omega)
   ·exact h
   ·exact h
   ·exact h
  ·exact h
  ·exact h
noncomputable def wRun (c:MT) (b:MS) (ρ:Rho):Option (Fl×Rho):=@dite _ (∃ n,(itW c b n ρ).isSome=true) (Classical.propDecidable _) (fun h=>itW c b (Classical.choose h) ρ) (fun _=>none)
@[irreducible] noncomputable def zlg (c:MT)(b:MS):MS:=⟨wRun c b,c.mu++b.mu⟩
theorem while_run {c:MT}{b:MS}{r:Fl×Rho}{n:Nat}(h:itW c b n ρ=some r):(zlg c b).run ρ=some r:=by with_unfolding_all
 have hx:∃ n,(itW c b n ρ).isSome=true:=⟨n,by rw [h];rfl⟩
 show wRun c b ρ=_
 unfold wRun
 rw [dif_pos hx]
 have h2:=Classical.choose_spec hx
 cases e:itW c b (Classical.choose hx) ρ with
 | none=>rw [e] at h2;cases h2
 | some r'=>
  have a:=znf h (max n (Classical.choose hx)) (Nat.le_max_left _ _)
  have b':=znf e (max n (Classical.choose hx)) (Nat.le_max_right _ _)
  rw [a] at b'
  exact b'.symm
theorem while_it {c:MT}{b:MS}{r:Fl×Rho}(h:(zlg c b).run ρ=some r):∃ n,itW c b n ρ=some r:=by with_unfolding_all
 have h':wRun c b ρ=some r:=h
 unfold wRun at h'
 split at h'
 ·exact⟨_,h'⟩
 ·cases h'
theorem ref_while {tc:TT}{tb:TS}{c:MT}{b:MS}(hc:RefT K tc c)(hb:RefS K tb b):RefS K (tWhile tc tb) (zlg c b):=by with_unfolding_all
 intro Γ H ρ σ E D f ρ' hK hE hr S q
 obtain⟨n,hn⟩:=while_it hr
 have qe:(zlg c b).mu=c.mu++b.mu:=rfl
 rw [qe] at q
 have kc:zk c.mu (zk (c.mu++b.mu) E)=zk (c.mu++b.mu) E:=zpc (fun j hj=>yaL _ hj) E
 have kb:zk b.mu (zk (c.mu++b.mu) E)=zk (c.mu++b.mu) E:=zpc (fun j hj=>yaR _ hj) E
 have hE0:=zpb (M:=c.mu++b.mu) hE
 have S0:=S.weak (c.mu++b.mu)
 generalize zk (c.mu++b.mu) E=E0 at q kc kb hE0 S0
 refine⟨fun m σ H=>∃ ρ,itW c b m ρ=some (f,ρ')/\Sim Γ H ρ σ E0,⟨n,ρ,hn,S0⟩,?_⟩
 ·rintro m σ1 H1 ⟨ρ1,h1,S1⟩
  cases m with
  | zero=>cases h1
  | succ m=>
   rw [itW] at h1
   split at h1
   ·rename_i ρ2 e1
    refine hc Γ H1 ρ1 σ1 E0 _ true ρ2 hK e1 S1 fun H2 S2=>iteT ?_
    rw [kc] at S2
    refine⟨fun σ' H'=>∃ ρ,itW c b m ρ=some (f,ρ')/\Sim Γ H' ρ σ' E0,fun σ' H' ⟨ρ3,h3,S3⟩=>⟨m,Nat.lt_succ_self m,ρ3,h3,S3⟩,?_⟩
    split at h1
    ·rename_i ρ3 e2
     exact hb Γ H2 ρ2 σ1 E0 _ .nx ρ3 hK hE0 e2 S2 fun σ' H' S3=>⟨ρ3,h1,by rw [kb] at S3;exact S3⟩
    ·rename_i ρ3 e2
     exact hb Γ H2 ρ2 σ1 E0 _ .ct ρ3 hK hE0 e2 S2 fun σ' H' S3=>⟨ρ3,h1,by rw [kb] at S3;exact S3⟩
    ·rename_i ρ3 e2
     cases h1
     exact hb Γ H2 ρ2 σ1 E0 _ .bk _ hK hE0 e2 S2 fun σ' H' S3=>q σ' H' (by rw [kb] at S3;exact S3)
    ·rename_i t ρ3 e2
     cases h1
     exact hb Γ H2 ρ2 σ1 E0 _ (.rt t) _ hK hE0 e2 S2 q
    ·cases h1
   ·rename_i ρ2 e1
    cases h1
    exact hc Γ H1 ρ1 σ1 E0 _ false _ hK e1 S1 fun H2 S2=>iteF (q σ1 H2 (by rw [kc] at S2;exact S2))
   ·cases h1
structure MI where
 run:Rho->Option ((List R×List R)×Rho)
 mu:List Nat
def zuh (Γ:Gm)(J:It)(vs:List V)(srcs:List R)(items:List R):Prop:=∀ (H:Hp) (ρ:Rho) (σ:St) (E:List En),Sim Γ H ρ σ (ens vs srcs++E)->(∀ i,items.length<=i->J.stop i H)/\∀ i r,items[i]?=some r->J.go i H/\∀ x H',J.yld i H x H'->Sim Γ H' ρ σ (⟨none,x,r⟩::(ens vs srcs++E))
def RefI (K:yF)(wi:TI)(m:MI):Prop:=∀ (Γ:Gm) (H:Hp) (ρ:Rho) (σ:St) (E:List En) (Rr:It->Hp->Prop) (srcs:List R) (items:List R) (ρ':Rho),Γ.K=K->m.run ρ=some ((srcs,items),ρ')->Sim Γ H ρ σ E->(∀ J vs H',vs.length=srcs.length->Sim Γ H' ρ' σ (ens vs srcs++zk m.mu E)->zuh Γ J vs srcs items->Rr J H')->wi σ H Rr
theorem zrd {M:List Nat}:∀ {A:List En},(∀ e∈A,zka M e=true)->zk M A=A
 | [],_=>rfl
 | e::A,h=>by rw [zt (h e ymS),zrd fun x hx=>h x (ymC _ hx)]
theorem zoj {M:List Nat}:∀ {vs:List V} {rs:List R},rs.all (alive M)=true->∀ e∈ens vs rs,zka M e=true
 | [],rs,_,e,h=>by cases rs<;>cases h
 | _::_,[],_,e,h=>by cases h
 | v::vs,r::rs,ha,e,h=>by
  rw [List.all_cons,Bool.and_eq_true] at ha
  rcases ycM h with rfl | h
  ·exact ha.1
  ·exact zoj ha.2 e h
theorem ens_keyN:∀ {vs:List V} {rs:List R},∀ e∈ens vs rs,e.key=none
 | [],rs,e,h=>by cases rs<;>cases h
 | _::_,[],e,h=>by cases h
 | v::vs,r::rs,e,h=>by
  rcases ycM h with rfl | h
  ·rfl
  ·exact ens_keyN e h
noncomputable def rInt (n:Int):R:=⟨.ow,.im (.int n)⟩
noncomputable def rNon:R:=⟨.ow,.im .non⟩
noncomputable def rngI (lo:Int) (n:Nat):List R:=(List.range n).map fun i:Nat=>rInt (lo+(i:Int))
theorem walk_rng {lo:Int}{n:Nat}:zuh Γ (Itr lo n) [.non] [rNon] (rngI lo n):=fun H ρ σ E S=>by
 refine⟨fun i hi=>(show n<=i by simpa [rngI] using hi),fun i r hr=>?_⟩
 unfold rngI at hr
 rw [List.getElem?_map] at hr
 cases e:(List.range n)[i]? with
 | none=>rw [e] at hr;cases hr
 | some m=>
  rw [e] at hr;cases hr
  obtain⟨h1,h2⟩:=List.getElem?_eq_some_iff.mp e
  simp at h1 h2
  subst h2
  refine⟨h1,fun x H' y=>?_⟩
  obtain⟨rfl,rfl⟩:=y
  exact S.imm (zvk rfl)
noncomputable def ii2 (x y:T):Option (Int×Int):=match isI x with
 | some i=>(match isI y with
  | some j=>some (i,j)
  | none=>none)
 | none=>none
theorem ii2_inv {x y:T}{i j:Int}(h:ii2 x y=some (i,j)):x = .im (.int i)/\y = .im (.int j):=by
 unfold ii2 at h
 split at h
 ·rename_i a ea
  split at h
  ·rename_i b eb
   cases h
   exact⟨zzd ea,zzd eb⟩
  ·cases h
 ·cases h
@[irreducible] noncomputable def zjb (a:MA):MI:=⟨fun ρ=>match a.run ρ with
 | some (rs,ρ1)=>(match l1 isI (rs.map (·.t)) with
  | some j=>if -(2 ^ 62)<=j/\j<2 ^ 62 then some (([rNon],rngI 0 j.toNat),ρ1) else none
  | none=>none)
 | none=>none,a.mu⟩
@[irreducible] noncomputable def zmh (a:MA):MI:=⟨fun ρ=>match a.run ρ with
 | some (rs,ρ1)=>(match l2 ii2 (rs.map (·.t)) with
  | some (i,j)=>if -(2 ^ 62)<=i/\i<2 ^ 62/\-(2 ^ 62)<=j/\j<2 ^ 62 then some (([rNon],rngI i (j - i).toNat),ρ1) else none
  | none=>none)
 | none=>none,a.mu⟩
theorem ref_rng1 {ta:TA}{a:MA}(ha:RefA K ta a):RefI K (iRng1 ta) (zjb a):=by with_unfolding_all
 intro Γ H ρ σ E Rr src items ρ' hK hr S q
 simp only [zjb] at hr
 split at hr
 ·rename_i rs ρ1 e1
  split at hr
  ·rename_i j ej
   obtain⟨hj,e⟩:=zfa hr
   cases e
   obtain⟨t,et,ei⟩:=zrf ej
   cases zzd ei
   refine ha Γ H ρ σ E _ _ _ hK e1 S fun vs H1 hl S1=>?_
   have r1:=S1.rds hl
   rw [et] at r1
   obtain⟨w,rfl,r2⟩:=rxs1 r1
   refine⟨j,by rw [zna r2],hj.1,hj.2,q _ [.non] H1 rfl ?_ walk_rng⟩
   exact S1.drops.imm zbc
  ·cases hr
 ·cases hr
theorem ref_rng2 {ta:TA}{a:MA}(ha:RefA K ta a):RefI K (iRng2 ta) (zmh a):=by with_unfolding_all
 intro Γ H ρ σ E Rr src items ρ' hK hr S q
 simp only [zmh] at hr
 split at hr
 ·rename_i rs ρ1 e1
  split at hr
  ·rename_i i j ej
   obtain⟨hj,e⟩:=zfa hr
   cases e
   obtain⟨t,u,et,ei⟩:=zmk ej
   obtain⟨rfl,rfl⟩:=ii2_inv ei
   refine ha Γ H ρ σ E _ _ _ hK e1 S fun vs H1 hl S1=>?_
   have r1:=S1.rds hl
   rw [et] at r1
   obtain⟨w,w',rfl,r2,r3⟩:=rxs2 r1
   refine⟨i,j,by rw [zna r2,zna r3],hj,q _ [.non] H1 rfl ?_ walk_rng⟩
   exact S1.drops.imm zbc
  ·cases hr
 ·cases hr
noncomputable def zhj:R->Option (List R)
 | ⟨_,.li is⟩=>some (is.map fun i=>⟨.ow,.im i⟩)
 | ⟨.vw ro _,.lst ts⟩=>some (ts.map (partV ro))
 | _=>none
noncomputable def zlk:R->Option (List R)
 | ⟨_,.im (.tup is)⟩=>some (is.map fun i=>⟨.ow,.im i⟩)
 | _=>none
noncomputable def mItL (a:ME):MI:=⟨fun ρ=>match a.run ρ with
 | some (r,ρ1)=>(match zhj r with
  | some rs=>some (([r],rs),ρ1)
  | none=>none)
 | none=>none,a.mu⟩
noncomputable def mItT (a:ME):MI:=⟨fun ρ=>match a.run ρ with
 | some (r,ρ1)=>(match zlk r with
  | some rs=>some (([r],rs),ρ1)
  | none=>none)
 | none=>none,a.mu⟩
theorem Rd.det {a:Addr}{xs ys:List V}(h:Rd H a (.lst xs))(g:Rd H a (.lst ys)):xs=ys:=by
 rcases h with h | ⟨o,h⟩<;>rcases g with g | ⟨o',g⟩<;>rw [h] at g<;>cases g<;>rfl
theorem zxb {α β:Type}{f : α->β}{l:List α}{i:Nat}{b : β}(h:(l.map f)[i]?=some b):∃ a,l[i]?=some a/\f a=b:=by
 rw [List.getElem?_map] at h
 cases e:l[i]? with
 | none=>rw [e] at h;cases h
 | some a=>rw [e] at h;exact⟨a,rfl,Option.some.inj h⟩
theorem Sim.partV {ro:Option Nat}{p:Option (List Ac)}{s:T}{e:En}{w:V}(S:Sim Γ H ρ σ E)(he:e∈E)(ho:e.r.k = .vw ro p)(hp:∀ F,Rp Γ.K H e.r.t e.v F->∃ G,Rp Γ.K H s w G/\∀ a∈G,a∈F):Sim Γ H ρ σ (⟨none,w,L2.partV ro s⟩::E):=by
 cases s with
 | im i=>
  obtain⟨F,r⟩:=S.rd he
  obtain⟨G,g,_⟩:=hp F r
  exact S.imm (zya g).1
 | _=>
  obtain⟨w',h1,S2⟩:=S.part he ho (P:=fun w'=>w'=w) (s:=_) (fun F r=>let ⟨G,g,hG⟩:=hp F r;⟨w,G,rfl,g,hG⟩)
  subst h1
  exact S2
theorem walk_L {a:Addr}{src:R}{items:List R}(hi:zhj src=some items):zuh Γ (Itl Γ.K a) [.ref a] [src] items:=fun H ρ σ E S=>by
 replace S:Sim Γ H ρ σ (⟨none,.ref a,src⟩::E):=S
 have r1:Rpx Γ.K H src.t (.ref a):=S.rd (e:=⟨none,.ref a,src⟩) ymS
 unfold zhj at hi
 split at hi
 ·cases hi
  obtain⟨a',xs,ea,g1,g2⟩:=zpe r1
  cases ea
  refine⟨fun i hi=>⟨xs,zxa g1,by rw [g2.length];simpa using hi⟩,fun i r hr=>?_⟩
  obtain⟨j,hj,rfl⟩:=zxb hr
  obtain⟨w,hw,rw0⟩:=g2.get hj
  refine⟨⟨xs,w,zxa g1,hw⟩,fun x H' y=>?_⟩
  obtain⟨rfl,y⟩:=y
  have:=y xs (zxa g1)
  rw [hw] at this;cases this
  exact S.imm rw0
 ·rename_i ro p ts
  cases hi
  obtain⟨a',xs,F,ea,g1,g2⟩:=zlh r1
  cases ea
  refine⟨fun i hi=>⟨xs,zxa g1,by rw [g2.length];simpa using hi⟩,fun i r hr=>?_⟩
  obtain⟨j,hj,rfl⟩:=zxb hr
  obtain⟨w,A,G,B,hw,rw0,_⟩:=g2.at hj
  refine⟨⟨xs,w,zxa g1,hw⟩,fun x H' y=>?_⟩
  obtain⟨rfl,y⟩:=y
  have:=y xs (zxa g1)
  rw [hw] at this;cases this
  refine S.partV (e:=⟨none,.ref a,⟨.vw ro p,.lst ts⟩⟩) ymS rfl fun F rp=>?_
  have rp':Rp Γ.K _ (.lst ts) (.ref a) F:=rp
  rw [Rp] at rp'
  obtain⟨a'',xs',F',ea,k1,k2,rfl⟩:=rp'
  cases ea
  have:=k1.det g1
  subst this
  obtain⟨w',A',G',B',hw',rw',e',_⟩:=k2.at hj
  rw [hw] at hw';cases hw'
  exact⟨G',rw',fun b hb=>by rw [e'];exact ymC _ (yaL _ (yaR _ hb))⟩
 ·cases hi
theorem ref_itL {ta:TE}{a:ME}(ha:RefE K ta a):RefI K (zcn K ta) (mItL a):=by
 intro Γ H ρ σ E Rr srcs items ρ' hK hr S q
 simp only [mItL] at hr
 split at hr
 ·rename_i src ρ1 e1
  split at hr
  ·rename_i rs e2
   cases hr
   refine ha Γ H ρ σ E _ _ _ hK e1 S fun x H1 S1=>?_
   have r1:Rpx Γ.K H1 src.t x:=S1.rd (e:=⟨none,x,src⟩) ymS
   have hx:∃ a xs,x = .ref a/\SqL K H1 a xs:=by
    unfold zhj at e2
    split at e2
    ·obtain⟨a,xs,e,g1,g2⟩:=zpe r1;exact⟨a,xs,e,zxa g1⟩
    ·obtain⟨a,xs,F,e,g1,g2⟩:=zlh r1;exact⟨a,xs,e,zxa g1⟩
    ·cases e2
   obtain⟨b,xs,rfl,h2⟩:=hx
   exact⟨b,rfl,⟨xs,h2⟩,q _ [.ref b] H1 rfl S1 (by rw [← hK];exact walk_L e2)⟩
  ·cases hr
 ·cases hr
theorem walk_T {a:Addr}{src:R}{items:List R}(hi:zlk src=some items):zuh Γ (Itt Γ.K a) [.ref a] [src] items:=fun H ρ σ E S=>by
 replace S:Sim Γ H ρ σ (⟨none,.ref a,src⟩::E):=S
 have r1:Rpx Γ.K H src.t (.ref a):=S.rd (e:=⟨none,.ref a,src⟩) ymS
 unfold zlk at hi
 split at hi
 ·cases hi
  obtain⟨a',xs,ea,g1,g2⟩:=zlc r1
  cases ea
  refine⟨fun i hi=>⟨xs,g1,by rw [g2.length];simpa using hi⟩,fun i r hr=>?_⟩
  obtain⟨j,hj,rfl⟩:=zxb hr
  obtain⟨w,hw,rw0⟩:=g2.get hj
  refine⟨⟨xs,w,g1,hw⟩,fun x H' y=>?_⟩
  obtain⟨rfl,y⟩:=y
  have:=y xs g1
  rw [hw] at this;cases this
  exact S.imm rw0
 ·cases hi
theorem ref_itT {ta:TE}{a:ME}(ha:RefE K ta a):RefI K (iTup K ta) (mItT a):=by
 intro Γ H ρ σ E Rr srcs items ρ' hK hr S q
 simp only [mItT] at hr
 split at hr
 ·rename_i src ρ1 e1
  split at hr
  ·rename_i rs e2
   cases hr
   refine ha Γ H ρ σ E _ _ _ hK e1 S fun x H1 S1=>?_
   have r1:Rpx Γ.K H1 src.t x:=S1.rd (e:=⟨none,x,src⟩) ymS
   have hx:∃ a xs,x = .ref a/\SqT K H1 a xs:=by
    unfold zlk at e2
    split at e2
    ·obtain⟨a,xs,e,g1,g2⟩:=zlc r1;rw [hK] at g1;exact⟨a,xs,e,g1⟩
    ·cases e2
   obtain⟨b,xs,rfl,h2⟩:=hx
   exact⟨b,rfl,⟨xs,h2⟩,q _ [.ref b] H1 rfl S1 (by rw [← hK];exact walk_T e2)⟩
  ·cases hr
 ·cases hr
noncomputable def zig (g:R->Rho->Option Rho) (b:Rho->Option (Fl×Rho)):List R->Rho->Option (Fl×Rho)
 | [],ρ=>some (.nx,ρ)
 | r::rs,ρ=>match g r ρ with
  | some ρ1=>(match b ρ1 with
   | some (.nx,ρ2)=>zig g b rs ρ2
   | some (.ct,ρ2)=>zig g b rs ρ2
   | some (.bk,ρ2)=>some (.nx,ρ2)
   | some (.rt t,ρ2)=>some (.rt t,ρ2)
   | none=>none)
  | none=>none
@[irreducible] noncomputable def mFor (it:MI)(g:MG)(b:MS):MS:=⟨fun ρ=>match it.run ρ with
 | some ((srcs,items),ρ1)=>if (srcs.all (alive (g.mu++b.mu)) && items.all (alive (g.mu++b.mu)))=true then zig g.run b.run items ρ1 else none
 | none=>none,it.mu++(g.mu++b.mu)⟩
theorem ref_for {wi:TI}{g:TG}{tb:TS}{it:MI}{mg:MG}{b:MS}(hi:RefI K wi it)(hg:RefG K g mg)(hb:RefS K tb b):RefS K (tFor wi g tb) (mFor it mg b):=by
 intro Γ H ρ σ E D f ρ' hK hE hr S q
 simp only [mFor] at hr q
 split at hr
 ·rename_i srcs items ρ1 e1
  split at hr
  ·rename_i al
   rw [Bool.and_eq_true] at al
   refine hi Γ H ρ σ E _ srcs items ρ1 hK e1 S fun J vs H1 hlv S1 wk=>?_
   rw [← zi] at q
   have hE1:=zpb (M:=it.mu) hE
   generalize zk it.mu E=E1 at q S1 hE1
   have ks:∀ e∈ens vs srcs,zka (mg.mu++b.mu) e=true:=zoj al.1
   have kg:zk mg.mu (ens vs srcs++zk (mg.mu++b.mu) E1)=ens vs srcs++zk (mg.mu++b.mu) E1:=by
    rw [zy,zrd (fun e he=>zdi (fun j hj=>yaL _ hj) (ks e he)),zpc (fun j hj=>yaL _ hj)]
   have kb:zk b.mu (ens vs srcs++zk (mg.mu++b.mu) E1)=ens vs srcs++zk (mg.mu++b.mu) E1:=by
    rw [zy,zrd (fun e he=>zdi (fun j hj=>yaR _ hj) (ks e he)),zpc (fun j hj=>yaR _ hj)]
   have S2:=S1.weak (mg.mu++b.mu)
   rw [zy,zrd ks] at S2
   have hE2:=zpb (M:=mg.mu++b.mu) hE1
   generalize zk (mg.mu++b.mu) E1=E2 at q kg kb S2 hE2
   have hE3:∀ e∈ens vs srcs++E2,e.key=none:=fun e he=>by
    rcases yaM he with he | he
    ·exact ens_keyN e he
    ·exact hE2 e he
   refine⟨fun i m σ H=>m=items.length - i/\i<=items.length/\∃ ρ,zig mg.run b.run (items.drop i) ρ=some (f,ρ')/\Sim Γ H ρ σ (ens vs srcs++E2),⟨items.length,by simp,Nat.zero_le _,ρ1,by simpa using hr,S2⟩,?_⟩
   rintro i m σ1 H2 ⟨rfl,hil,ρ2,h2,S3⟩
   obtain⟨w1,w2⟩:=wk H2 ρ2 σ1 E2 S3
   by_cases hlt:i<items.length
   ·have hx:items[i]?=some items[i]:=by simp [hlt]
    obtain⟨w3,w4⟩:=w2 i _ hx
    rw [List.drop_eq_getElem_cons hlt,zig] at h2
    refine .inr ⟨w3,fun σ' H'=>∃ ρ,zig mg.run b.run (items.drop (i+1)) ρ=some (f,ρ')/\Sim Γ H' ρ σ' (ens vs srcs++E2),fun σ' H' ⟨ρ3,h3,S4⟩=>⟨items.length - (i+1),by omega,rfl,hlt,ρ3,h3,S4⟩,fun x H3 y=>?_⟩
    have S4:=w4 x H3 y
    split at h2
    ·rename_i ρ3 e3
     refine hg Γ H3 ρ2 σ1 _ _ x _ ρ3 hK e3 S4 fun σ2 H4 S5=>?_
     rw [kg] at S5
     split at h2
     ·rename_i ρ4 e4
      exact hb Γ H4 ρ3 σ2 _ _ .nx ρ4 hK hE3 e4 S5 fun σ' H' S6=>⟨ρ4,h2,by rw [kb] at S6;exact S6⟩
     ·rename_i ρ4 e4
      exact hb Γ H4 ρ3 σ2 _ _ .ct ρ4 hK hE3 e4 S5 fun σ' H' S6=>⟨ρ4,h2,by rw [kb] at S6;exact S6⟩
     ·rename_i ρ4 e4
      cases h2
      exact hb Γ H4 ρ3 σ2 _ _ .bk _ hK hE3 e4 S5 fun σ' H' S6=>q σ' H' (by rw [kb] at S6;exact S6.drops)
     ·rename_i t ρ4 e4
      cases h2
      exact hb Γ H4 ρ3 σ2 _ _ (.rt t) _ hK hE3 e4 S5 q
     ·cases h2
    ·cases h2
   ·have e:i=items.length:=by omega
    subst e
    rw [List.drop_length,zig] at h2
    cases h2
    exact .inl ⟨w1 _ (Nat.le_refl _),q σ1 H2 S3.drops⟩
  ·cases hr
 ·cases hr
end
noncomputable def renK (π:Nat->Nat):Kd->Kd
 | .vw (some j) p=>.vw (some (π j)) p
 | k=>k
noncomputable def renR (π:Nat->Nat) (r:R):R:=⟨renK π r.k,r.t⟩
noncomputable def renE (π:Nat->Nat) (e:En):En:=⟨e.key.map π,e.v,renR π e.r⟩
section
variable  {Γ:Gm}{H H':Hp}{ρ:Rho}{σ:St}{E X:List En}{v x y:V}{t:T}{K:yF}{Q:VK}{π:Nat->Nat}
theorem renK_ow (k:Kd):(renK π k).isOw=k.isOw:=by
 cases k with
 | vw a b=>cases a<;>rfl
 | _=>rfl
theorem renK_root (k:Kd):(renK π k).root=k.root.map π:=by
 cases k with
 | vw a b=>cases a<;>rfl
 | _=>rfl
theorem SimL.ren (S:SimL Γ H X)(inj:∀ e∈X,∀ f∈X,∀ a b,e.key=some a->f.key=some b->π a=π b->a=b):SimL Γ H (X.map (renE π)):=by
 obtain⟨L,g,rfl⟩:=S
 have own:∀ L:List Hd,(L.map fun h:Hd=>(⟨renE π h.e,h.F⟩:Hd)).flatMap Hd.own=L.flatMap Hd.own:=by
  intro L
  induction L with
  | nil=>rfl
  | cons h L ih=>
   rw [List.map_cons,List.flatMap_cons,List.flatMap_cons,ih]
   congr 1
   unfold Hd.own
   show (if (renK π h.e.r.k).isOw=true then h.F else [])=_
   rw [renK_ow]
 refine⟨L.map fun h=>⟨renE π h.e,h.F⟩,⟨by rw [own];exact g.nd,by rw [own];exact g.ad,fun h hh=>?_,fun h hh=>?_,?_,g.fr,g.iol⟩,by rw [List.map_map,List.map_map];rfl⟩
 ·obtain⟨h0,h1,rfl⟩:=List.mem_map.mp hh
  exact g.rp h0 h1
 ·obtain⟨h0,h1,rfl⟩:=List.mem_map.mp hh
  have k:=g.kd h0 h1
  unfold KdOk at k ⊢
  show match renK π h0.e.r.k with
   | .ow=>_ | .io k=>_ | .vw none _=>_ | .vw (some j) p=>_
  cases ek:h0.e.r.k with
  | ow=>rw [ek] at k;exact k
  | io n=>rw [ek] at k;exact k
  | vw a p=>
   rw [ek] at k
   cases a with
   | none=>rw [own];exact k
   | some j=>
    obtain⟨x,x1,x2,x3,x4,x5⟩:=k
    refine⟨⟨renE π x.e,x.F⟩,List.mem_map_of_mem x1,by show x.e.key.map π=_;rw [x2];rfl,by show (renK π x.e.r.k).isOw=true;rw [renK_ow];exact x3,fun a ha=>by rw [own];exact x4 a ha,x5⟩
 ·rw [List.filterMap_map]
  have e:(fun h:Hd=>h.e.key) ∘ (fun h:Hd=>(⟨renE π h.e,h.F⟩:Hd))=fun h=>h.e.key.map π:=rfl
  rw [e]
  have:∀ L':List Hd,(∀ h∈L',h∈L)->(L'.filterMap fun h=>h.e.key).Nodup->(L'.filterMap fun h=>h.e.key.map π).Nodup:=by
   intro L'
   induction L' with
   | nil=>intro _ _;exact List.nodup_nil
   | cons h L' ih=>
    intro hs nd
    rw [List.filterMap_cons] at nd ⊢
    cases ek:h.e.key with
    | none=>rw [ek] at nd;exact ih (fun x hx=>hs x (ymC _ hx)) nd
    | some a=>
     rw [ek] at nd
     obtain⟨n1,n2⟩:=List.nodup_cons.mp nd
     refine List.nodup_cons.mpr ⟨fun hm=>?_,ih (fun x hx=>hs x (ymC _ hx)) n2⟩
     obtain⟨y,hy,ey⟩:=List.mem_filterMap.mp hm
     cases eb:y.e.key with
     | none=>rw [eb] at ey;cases ey
     | some b=>
      rw [eb] at ey
      have e2 : π b=π a:=Option.some.inj ey
      have:=inj y.e (List.mem_map_of_mem (hs y (ymC _ hy))) h.e (List.mem_map_of_mem (hs h ymS)) b a eb ek e2
      subst this
      exact n1 (List.mem_filterMap.mpr ⟨y,hy,eb⟩)
  exact this L (fun _ h=>h) g.ks
theorem SimL.filt (S:SimL Γ H X)(p:En->Bool)(hp:∀ e∈X,p e=true->∀ j,e.r.k.root=some j->∀ f∈X,f.key=some j->p f=true):SimL Γ H (X.filter p):=by
 obtain⟨L,g,rfl⟩:=S
 refine⟨L.filter fun h=>p h.e,g.sub List.filter_sublist fun h hh j hj x hx hk ho=>?_,by rw [List.filter_map];rfl⟩
 obtain⟨h1,h2⟩:=List.mem_filter.mp hh
 exact List.mem_filter.mpr ⟨hx,hp h.e (List.mem_map_of_mem h1) h2 j hj x.e (List.mem_map_of_mem hx) hk⟩
theorem ents_iff {e:En}:e∈ents 0 σ ρ ↔ ∃ i,e.key=some i/\ρ[i]?=some (some e.r)/\σ[i]?=some (some e.v):=by
 constructor
 ·intro h
  obtain⟨i,h1,h2,h3⟩:=zzc h
  exact⟨i,by rw [h1,Nat.zero_add],h2,h3⟩
 ·rintro ⟨i,h1,h2,h3⟩
  have:=(zeb (k:=0) h3 h2).mem_iff.mpr ymS
  have e':e=⟨some (0+i),e.v,e.r⟩:=by cases e;simp only [En.mk.injEq,and_self,and_true,Nat.zero_add];exact h1
  rw [e'];exact this
theorem zbl:∀ {k:Nat} {σ:List (Option V)} {ρ:Rho},(ents k σ ρ).Pairwise fun a b=>∃ i j,a.key=some i/\b.key=some j/\i<j
 | _,[],_=>List.Pairwise.nil
 | _,x::_,[]=>by cases x<;>exact List.Pairwise.nil
 | k,x::σ,y::ρ=>by
  have ih:=zbl (k:=k+1) (σ:=σ) (ρ:=ρ)
  cases x with
  | none=>simpa [ents] using ih
  | some v=>
   cases y with
   | none=>simpa [ents] using ih
   | some r=>
    simp only [ents]
    refine List.Pairwise.cons (fun b hb=>?_) ih
    obtain⟨i,h1,_,_⟩:=zzc hb
    exact⟨k,k+1+i,rfl,h1,by omega⟩
theorem ents_nodup {k:Nat}:(ents k σ ρ).Nodup:=by
 refine List.Pairwise.imp ?_ zbl
 rintro a b ⟨i,j,h1,h2,h3⟩ rfl
 rw [h1] at h2;cases h2;omega
noncomputable def capB (fr:List (Option Nat)) (j:Nat):Bool:=match fr[j]? with
 | some (some i)=>i == j
 | _=>false
noncomputable def piF (fr:List (Option Nat)) (j:Nat):Nat:=if capB fr j=true then j else fr.length+j
noncomputable def psF (fr:List (Option Nat)) (k:Nat):Nat:=if k<fr.length then k else k - fr.length
noncomputable def inRk (π:Nat->Nat):Nat->List (Option Nat)->Rho->Rho
 | _,[],_=>[]
 | k,o::fr,r::ρ=>(if o=some k then r.map (renR π) else none)::inRk π (k+1) fr ρ
 | k,o::fr,[]=>none::inRk π (k+1) fr []
noncomputable def inR (fr:List (Option Nat)) (ρ:Rho):Rho:=inRk (piF fr) 0 fr ρ
noncomputable def zdj (ψ : Nat->Nat) (tg mu:List Nat):Nat->List (Option Nat)->Rho->Rho->Rho
 | k,o::fr,ri::ρi,r::ρ=>(if o=some k then (zae tg ri).map (renR ψ) else zae mu r)::zdj ψ tg mu (k+1) fr ρi ρ
 | _,[],_,ρ=>ρ.map (zae mu)
 | _,_::_,[],ρ=>ρ.map (zae mu)
 | _,_::_,_::_,[]=>[]
noncomputable def tgF (fr:List (Option Nat)):List Nat:=(List.range fr.length).filter fun i=>!capB fr i
noncomputable def muF (fr:List (Option Nat)) (mu:List Nat):List Nat:=mu.filter (capB fr)
noncomputable def outR (fr:List (Option Nat)) (mu:List Nat) (ρi ρ:Rho):Rho:=zdj (psF fr) (tgF fr) (muF fr mu) 0 fr ρi ρ
theorem capB_iff {fr:List (Option Nat)}{j:Nat}:capB fr j=true↔fr[j]?=some (some j):=by
 unfold capB
 split
 ·rename_i i h;rw [h];simp
 ·rename_i h
  constructor
  ·intro z;cases z
  ·intro z;exact absurd z (h j)
theorem zqj:∀ {k:Nat} {fr:List (Option Nat)} {ρ:Rho} {i:Nat} {r':R},(inRk π k fr ρ)[i]?=some (some r')↔fr[i]?=some (some (k+i))/\∃ r,ρ[i]?=some (some r)/\r'=renR π r
 | k,[],ρ,i,r'=>by simp [inRk]
 | k,o::fr,[],0,r'=>by simp [inRk]
 | k,o::fr,[],i+1,r'=>by
  rw [inRk,List.getElem?_cons_succ,zqj (k:=k+1) (fr:=fr) (ρ:=[]) (i:=i)]
  simp
 | k,o::fr,r::ρ,0,r'=>by
  rw [inRk,List.getElem?_cons_zero,List.getElem?_cons_zero,List.getElem?_cons_zero]
  by_cases h:o=some k
  ·subst h
   rw [if_pos rfl]
   cases r with
   | none=>simp
   | some r=>simp [eq_comm]
  ·rw [if_neg h]
   constructor
   ·intro z;cases z
   ·rintro ⟨h1,_⟩;exact absurd (by simpa using h1) h
 | k,o::fr,r::ρ,i+1,r'=>by
  rw [inRk,List.getElem?_cons_succ,List.getElem?_cons_succ,List.getElem?_cons_succ,zqj (k:=k+1) (fr:=fr) (ρ:=ρ) (i:=i),show k+1+i=k+(i+1) by omega]
theorem zoh:∀ {k:Nat} {fr:List (Option Nat)} {ρ:Rho},(inRk π k fr ρ).length=fr.length
 | k,[],ρ=>rfl
 | k,o::fr,[]=>by rw [inRk,List.length_cons,zoh,List.length_cons]
 | k,o::fr,r::ρ=>by rw [inRk,List.length_cons,zoh,List.length_cons]
theorem inR_get {fr:List (Option Nat)}{i:Nat}{r':R}:(inR fr ρ)[i]?=some (some r')↔capB fr i=true/\∃ r,ρ[i]?=some (some r)/\r'=renR (piF fr) r:=by
 unfold inR;rw [zqj,Nat.zero_add,capB_iff]
theorem zph {fr:List (Option Nat)}{i:Nat}(h:capB fr i=true):(inSt fr σ)[i]?=some (σ.getD i none):=by
 unfold inSt
 rw [List.getElem?_map,capB_iff.mp h];rfl
theorem getD_some {i:Nat}{v:V} : σ.getD i none=some v↔σ[i]?=some (some v):=by
 rw [List.getD_eq_getElem?_getD]
 cases h : σ[i]? with
 | none=>simp
 | some o=>simp
theorem zfe {fr:List (Option Nat)}{j:Nat}(h:capB fr j=true):piF fr j=j:=by unfold piF;rw [if_pos h]
theorem zsc {fr:List (Option Nat)}{j:Nat}(h:capB fr j=false):piF fr j=fr.length+j:=by unfold piF;rw [if_neg (by rw [h];simp)]
theorem zob {fr:List (Option Nat)}{j:Nat}(h:capB fr j=true):j<fr.length:=(List.getElem?_eq_some_iff.mp (capB_iff.mp h)).1
theorem piF_inj {fr:List (Option Nat)}{a b:Nat}(h:piF fr a=piF fr b):a=b:=by
 cases ha:capB fr a<;>cases hb:capB fr b
 ·rw [zsc ha,zsc hb] at h;omega
 ·rw [zsc ha,zfe hb] at h;have:=zob hb;omega
 ·rw [zfe ha,zsc hb] at h;have:=zob ha;omega
 ·rw [zfe ha,zfe hb] at h;exact h
theorem psF_pi {fr:List (Option Nat)}(a:Nat):psF fr (piF fr a)=a:=by
 cases ha:capB fr a
 ·rw [zsc ha];unfold psF;rw [if_neg (by omega)];omega
 ·rw [zfe ha];unfold psF;rw [if_pos (zob ha)]
theorem zql {fr:List (Option Nat)}(e:En):renE (psF fr) (renE (piF fr) e)=e:=by
 obtain⟨key,v,⟨k,t⟩⟩:=e
 have h1:(key.map (piF fr)).map (psF fr)=key:=by cases key<;>simp [psF_pi]
 have h2:renK (psF fr) (renK (piF fr) k)=k:=by
  cases k with
  | vw a p=>cases a<;>simp [renK,psF_pi]
  | _=>rfl
 show (⟨(key.map (piF fr)).map (psF fr),v,⟨renK (psF fr) (renK (piF fr) k),t⟩⟩:En)=_
 rw [h1,h2]
noncomputable def capE (fr:List (Option Nat)) (e:En):Bool:=match e.key with
 | some j=>capB fr j
 | none=>false
theorem zoi {α β:Type}{f : α->β}{l:List α}(h:l.Nodup)(inj:∀ a∈l,∀ b∈l,f a=f b->a=b):(l.map f).Nodup:=by
 induction l with
 | nil=>exact List.nodup_nil
 | cons a l ih=>
  obtain⟨h1,h2⟩:=List.nodup_cons.mp h
  rw [List.map_cons]
  refine List.nodup_cons.mpr ⟨fun hm=>?_,ih h2 fun x hx y hy=>inj x (ymC _ hx) y (ymC _ hy)⟩
  obtain⟨b,hb,e⟩:=List.mem_map.mp hm
  have:=inj b (ymC _ hb) a ymS e
  subst this
  exact h1 hb
theorem inn_perm {fr:List (Option Nat)}:((ents 0 σ ρ).map (renE (piF fr))).Perm (ents 0 (inSt fr σ) (inR fr ρ)++((ents 0 σ ρ).filter fun e=>!capE fr e).map (renE (piF fr))):=by
 have inj:∀ a∈ents 0 σ ρ,∀ b∈ents 0 σ ρ,renE (piF fr) a=renE (piF fr) b->a=b:=fun a _ b _ h=>by
  have:=congrArg (renE (psF fr)) h
  rwa [zql,zql] at this
 have nd1:=zoi (ents_nodup (k:=0) (σ:=σ) (ρ:=ρ)) inj
 have nd2:(((ents 0 σ ρ).filter fun e=>!capE fr e).map (renE (piF fr))).Nodup:=nd1.sublist (List.filter_sublist.map _)
 refine (List.perm_ext_iff_of_nodup nd1 (List.nodup_append.mpr ⟨ents_nodup,nd2,?_⟩)).mpr fun e=>?_
 ·rintro a ha b hb rfl
  obtain⟨i,h1,h2,h3⟩:=ents_iff.mp ha
  obtain⟨hc,_⟩:=inR_get.mp h2
  obtain⟨f,hf,rfl⟩:=List.mem_map.mp hb
  obtain⟨hf1,hf2⟩:=List.mem_filter.mp hf
  obtain⟨j,g1,g2,g3⟩:=ents_iff.mp hf1
  have g0:capB fr j=false:=by unfold capE at hf2;rw [g1] at hf2;simpa using hf2
  have h1':(f.key.map (piF fr))=some i:=h1
  rw [g1] at h1'
  have h1'':piF fr j=i:=by simpa using h1'
  rw [zsc g0] at h1''
  have:=zob hc
  omega
 ·rw [List.mem_append]
  constructor
  ·intro he
   obtain⟨f,hf,rfl⟩:=List.mem_map.mp he
   obtain⟨j,g1,g2,g3⟩:=ents_iff.mp hf
   cases hc:capB fr j
   ·exact .inr (List.mem_map.mpr ⟨f,List.mem_filter.mpr ⟨hf,by unfold capE;rw [g1];simp [hc]⟩,rfl⟩)
   ·left
    refine ents_iff.mpr ⟨j,?_,inR_get.mpr ⟨hc,_,g2,rfl⟩,?_⟩
    ·show f.key.map (piF fr)=_
     rw [g1]
     simp [zfe hc]
    ·rw [zph hc,getD_some.mpr g3];rfl
  ·rintro (he | he)
   ·obtain⟨i,h1,h2,h3⟩:=ents_iff.mp he
    obtain⟨hc,r,h4,h5⟩:=inR_get.mp h2
    rw [zph hc] at h3
    have h3':=getD_some.mp (Option.some.inj h3)
    refine List.mem_map.mpr ⟨⟨some i,e.v,r⟩,ents_iff.mpr ⟨i,rfl,h4,h3'⟩,?_⟩
    cases e
    simp only at h1 h5
    simp [renE,zfe hc,h1,h5]
   ·obtain⟨f,hf,rfl⟩:=List.mem_map.mp he
    exact List.mem_map_of_mem (List.mem_filter.mp hf).1
noncomputable def outE (fr:List (Option Nat)) (σ:St) (ρ:Rho) (E:List En):List En:=(E++(ents 0 σ ρ).filter fun e=>!capE fr e).map (renE (piF fr))
noncomputable def frOk (fr:List (Option Nat)) (n:Nat):Bool:=decide (n<=fr.length) && (List.range fr.length).all fun i=>!capB fr i || decide (i<n)
theorem zdl {fr:List (Option Nat)}{n j:Nat}(h:frOk fr n=true)(hc:capB fr j=true):j<n:=by
 unfold frOk at h
 rw [Bool.and_eq_true] at h
 have:=List.all_eq_true.mp h.2 j (List.mem_range.mpr (zob hc))
 rw [hc] at this
 simpa using this
theorem Sim.inn {fr:List (Option Nat)}(S:Sim Γ H ρ σ E)(hf:frOk fr ρ.length=true):Sim Γ H (inR fr ρ) (inSt fr σ) (outE fr σ ρ E):=by
 refine⟨?_,fun i r h=>?_,by rw [zgc];unfold inR;rw [zoh],fun e he j hj=>?_⟩
 ·have:=S.sl.ren (π:=piF fr) fun e _ f _ a b _ _ h=>piF_inj h
  rw [List.map_append] at this
  refine this.perm ?_
  unfold outE
  rw [List.map_append,List.append_assoc]
  exact (inn_perm.append_left _).trans (List.perm_append_comm.append_left _)
 ·obtain⟨hc,r0,h1,_⟩:=inR_get.mp h
  obtain⟨v,hv⟩:=S.al i r0 h1
  exact⟨v,by rw [zph hc,getD_some.mpr hv]⟩
 ·unfold inR
  rw [zoh]
  unfold outE at he
  obtain⟨f,hf',rfl⟩:=List.mem_map.mp he
  have hj':f.key.map (piF fr)=some j:=hj
  cases hk:f.key with
  | none=>rw [hk] at hj';cases hj'
  | some i=>
   rw [hk] at hj'
   have e1:piF fr i=j:=by simpa using hj'
   have hc:capB fr i=false:=by
    rcases yaM hf' with z | z
    ·cases hc:capB fr i with
     | false=>rfl
     | true=>
      have:=zdl hf hc
      have:=S.hi f z i hk
      omega
    ·have:=(List.mem_filter.mp z).2
     unfold capE at this
     rw [hk] at this
     simpa using this
   rw [zsc hc] at e1
   omega
theorem outRk_get {ψ : Nat->Nat}{tg mu:List Nat}:∀ {k:Nat} {fr:List (Option Nat)} {ρi ρ:Rho} {i:Nat},i < ρ.length->ρ.length<=fr.length->fr.length=ρi.length->(zdj ψ tg mu k fr ρi ρ)[i]?=some (if fr[i]?=some (some (k+i)) then (zae tg (ρi.getD i none)).map (renR ψ) else zae mu (ρ.getD i none))
 | k,fr,ρi,[],i,h,_,_=>by cases h
 | k,[],ρi,r::ρ,i,_,h,_=>by simp at h
 | k,o::fr,[],r::ρ,i,_,_,h=>by cases h
 | k,o::fr,ri::ρi,r::ρ,0,h,h2,h3=>by
  rw [zdj,List.getElem?_cons_zero,List.getElem?_cons_zero]
  simp
 | k,o::fr,ri::ρi,r::ρ,i+1,h,h2,h3=>by
  rw [zdj,List.getElem?_cons_succ,outRk_get (k:=k+1) (by simpa using h) (by simpa using h2) (by simpa using h3),List.getElem?_cons_succ,show k+1+i=k+(i+1) by omega]
  simp
theorem zsi {ψ : Nat->Nat}{tg mu:List Nat}:∀ {k:Nat} {fr:List (Option Nat)} {ρi ρ:Rho},(zdj ψ tg mu k fr ρi ρ).length=ρ.length
 | k,[],ρi,ρ=>by cases ρi<;>simp [zdj]
 | k,o::fr,[],ρ=>by simp [zdj]
 | k,o::fr,ri::ρi,[]=>by simp [zdj]
 | k,o::fr,ri::ρi,r::ρ=>by rw [zdj,List.length_cons,zsi,List.length_cons]
theorem zzi {fr:List (Option Nat)}{i:Nat}:i∈tgF fr↔i<fr.length/\capB fr i=false:=by
 unfold tgF
 rw [List.mem_filter,List.mem_range]
 simp
theorem killO_iff {M:List Nat}{o:Option R}{r:R}:zae M o=some r↔o=some r/\zpf M r=true:=by
 cases o with
 | none=>simp [zae]
 | some x=>
  simp only [zae]
  split
  ·rename_i h
   constructor
   ·intro z;cases z;exact⟨rfl,h⟩
   ·rintro ⟨z,_⟩;rw [z]
  ·rename_i h
   constructor
   ·intro z;cases z
   ·rintro ⟨z,h2⟩;cases z;exact absurd h2 h
theorem keep_ren {fr:List (Option Nat)}{mu:List Nat}(hmu:∀ j∈mu,j<fr.length)(e:En):zka mu (renE (piF fr) e)=zka (muF fr mu) e:=by
 unfold zka
 show (match (renK (piF fr) e.r.k).root with | some j=>!mu.contains j | none=>true)=_
 rw [renK_root]
 cases e.r.k.root with
 | none=>rfl
 | some j=>
  show (!mu.contains (piF fr j)) = !(muF fr mu).contains j
  congr 1
  rw [Bool.eq_iff_iff]
  simp only [List.contains_eq_mem,decide_eq_true_eq,muF,List.mem_filter]
  cases hc:capB fr j
  ·rw [zsc hc]
   constructor
   ·intro z;have:=hmu _ z;omega
   ·rintro ⟨_,z⟩;cases z
  ·rw [zfe hc]
   simp
theorem keep_tg {fr:List (Option Nat)}(e:En):zka (tgF fr) (renE (piF fr) e)=true:=by
 unfold zka
 show (match (renK (piF fr) e.r.k).root with | some j=>!(tgF fr).contains j | none=>true)=_
 rw [renK_root]
 cases e.r.k.root with
 | none=>rfl
 | some j=>
  show (!(tgF fr).contains (piF fr j))=true
  simp only [List.contains_eq_mem,Bool.not_eq_true',decide_eq_false_iff_not,zzi]
  rintro ⟨h1,h2⟩
  cases hc:capB fr j
  ·rw [zsc hc] at h1;omega
  ·rw [zfe hc,hc] at h2;cases h2
theorem Sim.outt {fr:List (Option Nat)}{mu:List Nat}{ρi:Rho}{σ2:St}(S:Sim Γ H' ρi σ2 (zk mu (outE fr σ ρ E)))(hf:frOk fr ρ.length=true)(hmu:∀ j∈mu,j<fr.length)(hl : ρi.length=fr.length)(kp:Kp fr (inSt fr σ) σ2)
  (al:∀ (i:Nat) r,ρ[i]?=some (some r)->∃ v,σ[i]?=some (some v)) (len : σ.length=ρ.length) (hi:∀ e∈E,∀ j,e.key=some j->ρ.length<=j):Sim Γ H' (outR fr mu ρi ρ) σ (zk (muF fr mu) E):=by
 have hn : ρ.length<=fr.length:=by unfold frOk at hf;rw [Bool.and_eq_true,decide_eq_true_eq] at hf;exact hf.1
 have val:∀ {i:Nat} {w:V},capB fr i=true->σ2[i]?=some (some w)->σ[i]?=some (some w):=fun {i w} hc h=>by
  rw [kp.2 i i (capB_iff.mp hc),zph hc] at h
  exact getD_some.mp (Option.some.inj h)
 have eE:zk mu (outE fr σ ρ E)=(zk (muF fr mu) (E++(ents 0 σ ρ).filter fun e=>!capE fr e)).map (renE (piF fr)):=by
  unfold outE zk
  rw [List.filter_map]
  congr 1
  apply List.filter_congr
  intro e _
  exact keep_ren hmu e
 have s1:=(S.sl.kill (tgF fr))
 rw [zy,eE] at s1
 have e1:zk (tgF fr) ((zk (muF fr mu) (E++(ents 0 σ ρ).filter fun e=>!capE fr e)).map (renE (piF fr)))=(zk (muF fr mu) (E++(ents 0 σ ρ).filter fun e=>!capE fr e)).map (renE (piF fr)):=by
  unfold zk
  rw [List.filter_eq_self]
  intro e he
  obtain⟨f,_,rfl⟩:=List.mem_map.mp he
  exact keep_tg f
 rw [e1] at s1
 let p:En->Bool:=fun e=>match e.key with
  | some k=>!(tgF fr).contains k
  | none=>true
 have kout:∀ f∈E++(ents 0 σ ρ).filter fun e=>!capE fr e,∀ j,f.key=some j->capB fr j=false:=fun f hf' j hj=>by
  rcases yaM hf' with z | z
  ·cases hc:capB fr j with
   | false=>rfl
   | true=>have:=zdl hf hc;have:=hi f z j hj;omega
  ·have:=(List.mem_filter.mp z).2
   unfold capE at this
   rw [hj] at this
   simpa using this
 have pO:∀ e∈(zk (muF fr mu) (E++(ents 0 σ ρ).filter fun e=>!capE fr e)).map (renE (piF fr)),p e=true:=fun e he=>by
  obtain⟨f,hf',rfl⟩:=List.mem_map.mp he
  have hf'':=(List.mem_filter.mp hf').1
  show (match f.key.map (piF fr) with | some k=>!(tgF fr).contains k | none=>true)=true
  cases hk:f.key with
  | none=>rfl
  | some j=>
   have:=kout f hf'' j hk
   simp only [Option.map_some,List.contains_eq_mem,Bool.not_eq_true',decide_eq_false_iff_not,zzi]
   rw [zsc this]
   omega
 have s2:=s1.filt p fun e he _ j hj f hf' hk=>by
  show (match f.key with | some k=>!(tgF fr).contains k | none=>true)=true
  rw [hk]
  have hm:e∈zk (tgF fr) (zk mu (outE fr σ ρ E)++ents 0 σ2 ρi):=by rw [zy,eE,e1];exact he
  by_cases hj':j∈tgF fr
  ·exact absurd hj (noroot (M:=tgF fr) (i:=j) hj' e hm)
  ·simp [hj']
 rw [List.filter_append,List.filter_eq_self.mpr pO] at s2
 have s3:=s2.ren (π:=psF fr) (fun e he f hf' a b ha hb hab=>by
  have key:∀ e∈(zk (muF fr mu) (E++(ents 0 σ ρ).filter fun e=>!capE fr e)).map (renE (piF fr))++(zk (tgF fr) (ents 0 σ2 ρi)).filter p,∀ a,e.key=some a->(∃ j,a=fr.length+j/\capB fr j=false) ∨ capB fr a=true:=fun e he a ha=>by
   rcases yaM he with z | z
   ·left
    obtain⟨g,hg,rfl⟩:=List.mem_map.mp z
    have hg':=(List.mem_filter.mp hg).1
    have ha':g.key.map (piF fr)=some a:=ha
    cases hk:g.key with
    | none=>rw [hk] at ha';cases ha'
    | some j=>
     have hc:=kout g hg' j hk
     rw [hk] at ha'
     have:piF fr j=a:=by simpa using ha'
     exact⟨j,by rw [← this,zsc hc],hc⟩
   ·right
    obtain⟨z1,z2⟩:=List.mem_filter.mp z
    obtain⟨i,h1,h2,h3⟩:=ents_iff.mp (List.mem_filter.mp z1).1
    rw [ha] at h1
    cases h1
    have z2':(match e.key with | some k=>!(tgF fr).contains k | none=>true)=true:=z2
    rw [ha] at z2'
    have hlt:a<fr.length:=by
     have:=(List.getElem?_eq_some_iff.mp h2).1
     omega
    simp only [List.contains_eq_mem,Bool.not_eq_true',decide_eq_false_iff_not,zzi] at z2'
    cases hc:capB fr a with
    | true=>rfl
    | false=>exact absurd ⟨hlt,hc⟩ z2'
  rcases key e he a ha with⟨j,rfl,hj⟩ | hj<;>rcases key f hf' b hb with⟨j',rfl,hj'⟩ | hj'
  ·unfold psF at hab;rw [if_neg (by omega),if_neg (by omega)] at hab;omega
  ·unfold psF at hab
   rw [if_neg (by omega),if_pos (zob hj')] at hab
   have:j=b:=by omega
   subst this
   rw [hj] at hj';cases hj'
  ·unfold psF at hab
   rw [if_pos (zob hj),if_neg (by omega)] at hab
   have:j'=a:=by omega
   subst this
   rw [hj'] at hj;cases hj
  ·unfold psF at hab;rw [if_pos (zob hj),if_pos (zob hj')] at hab;exact hab)
 rw [List.map_append,List.map_map] at s3
 have e2:(zk (muF fr mu) (E++(ents 0 σ ρ).filter fun e=>!capE fr e)).map (renE (psF fr) ∘ renE (piF fr))=zk (muF fr mu) (E++(ents 0 σ ρ).filter fun e=>!capE fr e):=by
  conv=>rhs;rw [← List.map_id (zk (muF fr mu) (E++(ents 0 σ ρ).filter fun e=>!capE fr e))]
  apply List.map_congr_left
  intro e _
  exact zql e
 rw [e2,zy,List.append_assoc] at s3
 have olen:(outR fr mu ρi ρ).length=ρ.length:=by unfold outR;exact zsi
 have oget:∀ {i:Nat} {r:R},(outR fr mu ρi ρ)[i]?=some (some r)↔i < ρ.length/\((capB fr i=true/\∃ r0,ρi[i]?=some (some r0)/\zpf (tgF fr) r0=true/\r=renR (psF fr) r0) ∨ (capB fr i=false/\ρ[i]?=some (some r)/\zpf (muF fr mu) r=true)):=fun {i r}=>by
  by_cases hlt:i < ρ.length
  ·unfold outR
   rw [outRk_get hlt hn hl.symm,Nat.zero_add]
   cases hc:capB fr i
   ·rw [if_neg (fun z=>by rw [capB_iff.mpr z] at hc;cases hc)]
    rw [Option.some.injEq,killO_iff]
    have : ρ.getD i none=some r↔ρ[i]?=some (some r):=by
     rw [List.getD_eq_getElem?_getD]
     cases ρ[i]?<;>simp
    rw [this]
    simp [hlt]
   ·rw [if_pos (capB_iff.mp hc)]
    rw [Option.some.injEq,Option.map_eq_some_iff]
    constructor
    ·rintro ⟨r0,h1,h2⟩
     obtain⟨h3,h4⟩:=killO_iff.mp h1
     refine⟨hlt,.inl ⟨rfl,r0,?_,h4,h2.symm⟩⟩
     rw [List.getD_eq_getElem?_getD] at h3
     cases h5 : ρi[i]? with
     | none=>rw [h5] at h3;cases h3
     | some o=>rw [h5] at h3;have:o=some r0:=h3;rw [this]
    ·rintro ⟨_,⟨_,r0,h1,h2,h3⟩ | ⟨z,_⟩⟩
     ·exact⟨r0,killO_iff.mpr ⟨by rw [List.getD_eq_getElem?_getD,h1];rfl,h2⟩,h3.symm⟩
     ·cases z
  ·constructor
   ·intro z
    have:=(List.getElem?_eq_some_iff.mp z).1
    rw [olen] at this
    exact absurd this hlt
   ·rintro ⟨z,_⟩;exact absurd z hlt
 refine⟨s3.perm (List.Perm.append_left _ ?_),fun i r h=>?_,by rw [olen];exact len,fun e he j hj=>by rw [olen];exact hi e (List.mem_filter.mp he).1 j hj⟩
 ·have ndA:(zk (muF fr mu) ((ents 0 σ ρ).filter fun e=>!capE fr e)).Nodup:=ents_nodup.sublist (List.filter_sublist.trans List.filter_sublist)
  have inB:∀ e∈(zk (tgF fr) (ents 0 σ2 ρi)).filter p,∃ i,e.key=some i/\capB fr i=true/\ρi[i]?=some (some e.r)/\σ2[i]?=some (some e.v)/\zpf (tgF fr) e.r=true:=fun e he=>by
   obtain⟨z1,z2⟩:=List.mem_filter.mp he
   obtain⟨z3,z4⟩:=List.mem_filter.mp z1
   obtain⟨i,h1,h2,h3⟩:=ents_iff.mp z3
   have z2':(match e.key with | some k=>!(tgF fr).contains k | none=>true)=true:=z2
   rw [h1] at z2'
   have hlt:i<fr.length:=by
    have:=(List.getElem?_eq_some_iff.mp h2).1
    omega
   simp only [List.contains_eq_mem,Bool.not_eq_true',decide_eq_false_iff_not,zzi] at z2'
   refine⟨i,h1,?_,h2,h3,z4⟩
   cases hc:capB fr i with
   | true=>rfl
   | false=>exact absurd ⟨hlt,hc⟩ z2'
  have ndB:(((zk (tgF fr) (ents 0 σ2 ρi)).filter p).map (renE (psF fr))).Nodup:=by
   refine zoi (ents_nodup.sublist (List.filter_sublist.trans List.filter_sublist)) fun a ha b hb h=>?_
   obtain⟨i,h1,h2,h3,h4,_⟩:=inB a ha
   obtain⟨j,g1,g2,g3,g4,_⟩:=inB b hb
   have hk:a.key.map (psF fr)=b.key.map (psF fr):=congrArg En.key h
   rw [h1,g1] at hk
   have hk':psF fr i=psF fr j:=by simpa using hk
   unfold psF at hk'
   rw [if_pos (zob h2),if_pos (zob g2)] at hk'
   subst hk'
   rw [h3] at g3;rw [h4] at g4
   cases a;cases b
   simp only at h1 g1 g3 g4
   have e1:=Option.some.inj (Option.some.inj g3)
   have e2:=Option.some.inj (Option.some.inj g4)
   simp [h1,g1,e1,e2]
  refine (List.perm_ext_iff_of_nodup (List.nodup_append.mpr ⟨ndA,ndB,?_⟩) ents_nodup).mpr fun e=>?_
  ·rintro a ha b hb rfl
   obtain⟨f,hf',hfe⟩:=List.mem_map.mp hb
   obtain⟨i,h1,h2,_⟩:=inB f hf'
   have hk:f.key.map (psF fr)=a.key:=congrArg En.key hfe
   rw [h1] at hk
   have hk':a.key=some i:=by rw [← hk];simp [psF,zob h2]
   obtain⟨y1,y2⟩:=List.mem_filter.mp (List.mem_filter.mp ha).1
   unfold capE at y2
   rw [hk'] at y2
   simp [h2] at y2
  ·rw [List.mem_append,ents_iff]
   constructor
   ·rintro (he | he)
    ·obtain⟨z1,z2⟩:=List.mem_filter.mp he
     obtain⟨z3,z4⟩:=List.mem_filter.mp z1
     obtain⟨i,h1,h2,h3⟩:=ents_iff.mp z3
     unfold capE at z4
     rw [h1] at z4
     refine⟨i,h1,oget.mpr ⟨(List.getElem?_eq_some_iff.mp h2).1,.inr ⟨by simpa using z4,h2,z2⟩⟩,h3⟩
    ·obtain⟨f,hf',rfl⟩:=List.mem_map.mp he
     obtain⟨i,h1,h2,h3,h4,h5⟩:=inB f hf'
     refine⟨i,?_,oget.mpr ⟨zdl hf h2,.inl ⟨h2,f.r,h3,h5,rfl⟩⟩,val h2 h4⟩
     show f.key.map (psF fr)=some i
     rw [h1]
     simp [psF,zob h2]
   ·rintro ⟨i,h1,h2,h3⟩
    obtain⟨hlt,⟨hc,r0,g1,g2,g3⟩ | ⟨hc,g1,g2⟩⟩:=oget.mp h2
    ·right
     obtain⟨w,hw⟩:=S.al i r0 g1
     have hw':=val hc hw
     rw [h3] at hw'
     have ew:e.v=w:=Option.some.inj (Option.some.inj hw')
     refine List.mem_map.mpr ⟨⟨some i,w,r0⟩,List.mem_filter.mpr ⟨List.mem_filter.mpr ⟨ents_iff.mpr ⟨i,rfl,g1,hw⟩,g2⟩,?_⟩,?_⟩
     ·show (!(tgF fr).contains i)=true
      simp only [List.contains_eq_mem,Bool.not_eq_true',decide_eq_false_iff_not,zzi]
      rintro ⟨_,z⟩;rw [hc] at z;cases z
     ·cases e
      simp only at h1 g3 ew
      simp [renE,h1,g3,ew,psF,zob hc]
    ·left
     refine List.mem_filter.mpr ⟨List.mem_filter.mpr ⟨ents_iff.mpr ⟨i,h1,g1,h3⟩,?_⟩,g2⟩
     unfold capE;rw [h1];simp [hc]
 ·obtain⟨hlt,⟨hc,r0,g1,g2,g3⟩ | ⟨hc,g1,g2⟩⟩:=oget.mp h
  ·obtain⟨w,hw⟩:=S.al i r0 g1
   exact⟨w,val hc hw⟩
  ·exact al i r g1
end
section
variable  {Γ:Gm}{H H':Hp}{ρ:Rho}{σ:St}{E X:List En}{v x y:V}{t:T}{K:yF}{Q:VK}
theorem Sim.mkL {vs:List V}{ts:List T}{p:Addr}(S:Sim Γ H ρ σ (temps vs ts++E))(hl:vs.length=ts.length)(hp:H p=none):Sim Γ (upd H p (.lst vs)) ρ σ (⟨none,.ref p,⟨.ow,znc ts⟩⟩::E):=by
 obtain⟨F,h1,h2,h3,h4⟩:=S.use hl
 have sm:=Same.laid (o:=.lst vs) hp
 have np:p ∉ F:=fun z=>by obtain⟨o,e,_⟩:=h3 p z;rw [hp] at e;cases e
 refine h4 _ (.ref p) (znc ts) (p::F) (sm.offM _) (fun a ha=>let ⟨o,e,_⟩:=h3 a ha;⟨o,sm a o e⟩) (List.nodup_cons.mpr ⟨np,h2⟩) (fun a ha=>?_) ?_
 ·rcases ycM ha with rfl | ha
  ·exact⟨.inr hp,_,zga,rfl⟩
  ·exact⟨.inl ha,let ⟨o,e,m⟩:=h3 a ha;⟨o,sm a o e,m⟩⟩
 ·unfold znc
  split
  ·rename_i is hi
   rw [zxl hi] at h1
   obtain⟨h5,h6⟩:=Rps.ims.mp h1
   subst h6
   rw [Rp]
   exact⟨p,vs,rfl,.inl zga,h5.same sm,rfl⟩
  ·rw [Rp]
   exact⟨p,vs,F,rfl,.inl zga,h1.same sm,rfl⟩
theorem temps_app {t:T}:∀ {vs:List V} {ts:List T},vs.length=ts.length->temps (vs++[v]) (ts++[t])=temps vs ts++[⟨none,v,⟨.ow,t⟩⟩]
 | [],[],_=>rfl
 | a::vs,b::ts,h=>by
  rw [List.cons_append,List.cons_append,temps,temps,temps_app (by simpa using h),List.cons_append]
 | [],_::_,h=>by cases h
 | _::_,[],h=>by cases h
theorem zsd {M:List Nat}:∀ {vs:List V} {ts:List T},zk M (temps vs ts)=temps vs ts
 | [],ts=>by cases ts<;>rfl
 | a::vs,[]=>rfl
 | a::vs,b::ts=>by rw [temps,zt rfl,zsd]
noncomputable def zdb (fr:List (Option Nat)) (M:List Nat) (g:MG) (c:MT) (e:ME):List R->Rho->List T->Option (List T×Rho)
 | [],ρ,acc=>some (acc,ρ)
 | r::rs,ρ,acc=>match g.run (renR (piF fr) r) (inR fr ρ) with
  | some ρ1=>(match c.run ρ1 with
   | some (true,ρ2)=>(match e.run ρ2 with
    | some (⟨.ow,t⟩,ρ3)=>zdb fr M g c e rs (outR fr M ρ3 ρ) (acc++[t])
    | _=>none)
   | some (false,ρ2)=>zdb fr M g c e rs (outR fr M ρ2 ρ) acc
   | none=>none)
  | none=>none
theorem zye {fr:List (Option Nat)}{e:En}:outE fr σ ρ (e::E)=renE (piF fr) e::outE fr σ ρ E:=rfl
theorem zxj {fr:List (Option Nat)}{M:List Nat}{ρi:Rho}:(outR fr M ρi ρ).length=ρ.length:=zsi
theorem comp_loop {J:It}{fr:List (Option Nat)}{g:TG}{tc:TT}{te:TE}{mg:MG}{c:MT}{e:ME}{M:List Nat}{vs:List V}{srcs:List R}{items:List R}{N:List V->Hp->Prop}(hK : Γ.K=K)(wk:zuh Γ J vs srcs items)(hgk:GKeep fr g)(hg:RefG K g mg)(hc:RefT K tc c)(he:RefE K te e)(hM:M=mg.mu++(c.mu++e.mu))
  (hmu:∀ j∈M,j<fr.length) (ks:∀ e∈ens vs srcs,zka (muF fr M) e=true) {E2:List En} (kE:zk (muF fr M) E2=E2) {tsF:List T} {ρF:Rho} {acc0:List V} {ts0:List T} (hl0:acc0.length=ts0.length) (hz:acc0.length+items.length<sizeLine)
  (hf:frOk fr ρ.length=true) (S:Sim Γ H ρ σ (ens vs srcs++(temps acc0 ts0++E2))) (hr:zdb fr M mg c e items ρ ts0=some (tsF,ρF))
  (q:∀ acc H',acc.length=tsF.length->acc.length<=acc0.length+items.length->ρF.length=ρ.length->Sim Γ H' ρF σ (ens vs srcs++(temps acc tsF++E2))->N acc H'):zjn J (inSt fr σ) g tc te acc0 H N:=by
 have kE2:∀ acc ts,zk (muF fr M) (ens vs srcs++(temps acc ts++E2))=ens vs srcs++(temps acc ts++E2):=fun acc ts=>by rw [zy,zrd ks,zy,zsd,kE]
 refine⟨fun i m acc H=>m=items.length - i/\i<=items.length/\acc.length<=acc0.length+i/\∃ ρ1 ts,zdb fr M mg c e (items.drop i) ρ1 ts=some (tsF,ρF)/\acc.length=ts.length/\ρ1.length=ρ.length/\Sim Γ H ρ1 σ (ens vs srcs++(temps acc ts++E2)),⟨items.length,by simp,Nat.zero_le _,by omega,ρ,ts0,by simpa using hr,hl0,rfl,S⟩,?_⟩
 rintro i m acc H1 ⟨rfl,hil,hal,ρ1,ts,h1,hl,hρ,S1⟩
 refine⟨by omega,?_⟩
 obtain⟨w1,w2⟩:=wk H1 ρ1 σ _ S1
 by_cases hlt:i<items.length
 ·have hx:items[i]?=some items[i]:=by simp [hlt]
  obtain⟨w3,w4⟩:=w2 i _ hx
  rw [List.drop_eq_getElem_cons hlt,zdb] at h1
  refine .inr ⟨w3,fun acc' H'=>acc'.length<=acc0.length+(i+1)/\∃ ρ1 ts,zdb fr M mg c e (items.drop (i+1)) ρ1 ts=some (tsF,ρF)/\acc'.length=ts.length/\ρ1.length=ρ.length/\Sim Γ H' ρ1 σ (ens vs srcs++(temps acc' ts++E2)),fun acc' H' ⟨ha,ρ3,ts3,h3,hl3,hρ3,S3⟩=>⟨items.length - (i+1),by omega,rfl,hlt,ha,ρ3,ts3,h3,hl3,hρ3,S3⟩,fun x H2 y=>?_⟩
  have S2:=w4 x H2 y
  have hf1:frOk fr ρ1.length=true:=by rw [hρ];exact hf
  have S3:=S2.inn hf1
  rw [zye] at S3
  split at h1
  ·rename_i ρ2 e2
   refine hgk x (inSt fr σ) H2 (fun σ2 H3=>Kp fr (inSt fr σ) σ2->_) _ (fun σ2 H3 z kp=>z kp) ?_
   refine hg Γ H2 (inR fr ρ1) (inSt fr σ) _ _ x _ ρ2 hK e2 S3 fun σ2 H3 S4 kp=>?_
   split at h1
   ·rename_i ρ3 e3
    refine hc Γ H3 ρ2 σ2 _ _ true ρ3 hK e3 S4 fun H4 S5=>iteT ?_
    split at h1
    ·rename_i t ρ4 e4
     refine he Γ H4 ρ3 σ2 _ _ _ ρ4 hK e4 S5 fun w H5 S6=>?_
     rw [zi,zi] at S6
     rw [← hM] at S6
     have S7:Sim Γ H5 ρ4 σ2 (zk M (outE fr σ ρ1 (⟨none,w,⟨.ow,t⟩⟩::(ens vs srcs++(temps acc ts++E2))))):=by
      rw [zye,zt (show zka M (renE (piF fr) ⟨none,w,⟨.ow,t⟩⟩)=true from rfl)]
      exact S6
     have hl4 : ρ4.length=fr.length:=by rw [← S6.len,kp.1,zgc]
     have S8:=S7.outt hf1 hmu hl4 kp S1.al S1.len (fun e' he' j hj=>by
      rcases ycM he' with rfl | he'
      ·cases hj
      ·exact S1.hi e' he' j hj)
     rw [zt (show zka (muF fr M) ⟨none,w,⟨.ow,t⟩⟩=true from rfl),kE2] at S8
     refine⟨by simp;omega,_,_,h1,by simp [hl],by rw [zxj,hρ],?_⟩
     rw [temps_app hl,List.append_assoc]
     refine S8.perm ?_
     have pp:∀ (A B C:List En) (x:En),(x::(A++(B++C))).Perm (A++(B++(x::C))):=fun A B C x=>by
      rw [← List.append_assoc,← List.append_assoc]
      exact List.perm_middle.symm
     exact pp _ _ _ _
    ·cases h1
   ·rename_i ρ3 e3
    refine hc Γ H3 ρ2 σ2 _ _ false ρ3 hK e3 S4 fun H4 S5=>iteF ?_
    have S6:=S5.weak e.mu
    rw [zi,zi] at S6
    rw [← hM] at S6
    have hl4 : ρ3.length=fr.length:=by rw [← S6.len,kp.1,zgc]
    have S8:=S6.outt hf1 hmu hl4 kp S1.al S1.len S1.hi
    rw [kE2] at S8
    exact⟨by omega,_,_,h1,hl,by rw [zxj,hρ],S8⟩
   ·cases h1
  ·cases h1
 ·have ei:i=items.length:=by omega
  subst ei
  rw [List.drop_length,zdb] at h1
  cases h1
  exact .inl ⟨w1 _ (Nat.le_refl _),q acc H1 hl hal hρ S1⟩
noncomputable def ztf (M:List Nat) (n:Nat):Bool:=M.all fun j=>decide (j<n)
theorem zrj {M:List Nat}{n:Nat}(h:ztf M n=true):∀ j∈M,j<n:=fun j hj=>by
 have:=List.all_eq_true.mp h j hj
 simpa using this
@[irreducible] noncomputable def zfb (fr:List (Option Nat))(it:MI)(g:MG)(c:MT)(e:ME):ME:=⟨fun ρ=>match it.run ρ with
 | some ((srcs,items),ρ1)=>if (frOk fr ρ1.length && ztf (g.mu++(c.mu++e.mu)) fr.length && srcs.all (alive (muF fr (g.mu++(c.mu++e.mu)))) && decide (items.length<sizeLine))=true then (match zdb fr (g.mu++(c.mu++e.mu)) g c e items ρ1 [] with
  | some (ts,ρ2)=>some (⟨.ow,znc ts⟩,ρ2)
  | none=>none) else none
 | none=>none,it.mu++muF fr (g.mu++(c.mu++e.mu))⟩
theorem ref_comp {wi:TI}{fr:List (Option Nat)}{g:TG}{tc:TT}{te:TE}{it:MI}{mg:MG}{c:MT}{e:ME}(hi:RefI K wi it)(hgk:GKeep fr g)(hg:RefG K g mg)(hc:RefT K tc c)(he:RefE K te e):RefE K (zwn wi fr g tc te) (zfb fr it mg c e):=by
 intro Γ H ρ σ E Q r ρ' hK hr S q
 simp only [zfb] at hr q
 split at hr
 ·rename_i srcs items ρ1 e1
  split at hr
  ·rename_i hb
   simp only [Bool.and_eq_true,decide_eq_true_eq] at hb
   obtain⟨⟨⟨b1,b2⟩,b3⟩,b5⟩:=hb
   split at hr
   ·rename_i ts ρ2 e2
    cases hr
    refine hi Γ H ρ σ E _ srcs items ρ1 hK e1 S fun J vs H1 hlv S1 wk=>?_
    rw [← zi] at q
    generalize zk it.mu E=E1 at q S1
    have ks:∀ e'∈ens vs srcs,zka (muF fr (mg.mu++(c.mu++e.mu))) e'=true:=zoj b3
    have S2:=S1.weak (muF fr (mg.mu++(c.mu++e.mu)))
    rw [zy,zrd ks] at S2
    have kE:=zpc (M:=muF fr (mg.mu++(c.mu++e.mu))) (N:=muF fr (mg.mu++(c.mu++e.mu))) (fun j hj=>hj) E1
    generalize zk (muF fr (mg.mu++(c.mu++e.mu))) E1=E2 at q S2 kE
    refine comp_loop (acc0:=[]) (ts0:=[]) hK wk hgk hg hc he rfl (zrj b2) ks kE rfl (by simpa using b5) b1 S2 e2 fun acc H' hl _ _ S3 d hd=>?_
    exact q _ _ (S3.drops.mkL hl hd)
   ·cases hr
  ·cases hr
 ·cases hr
noncomputable def comp2Run (fr fr2:List (Option Nat)) (g:MG) (it2:MI) (g2:MG) (c:MT) (e:ME):List R->Rho->List T->Option (List T×Rho)
 | [],ρ,acc=>some (acc,ρ)
 | r::rs,ρ,acc=>match g.run (renR (piF fr) r) (inR fr ρ) with
  | some ρ1=>(match it2.run ρ1 with
   | some ((srcs2,items2),ρ2)=>if (frOk fr2 ρ2.length && (decide (srcs2.length=1) && srcs2.all (alive (muF fr2 (g2.mu++(c.mu++e.mu))))) && decide (acc.length+items2.length<sizeLine))=true then (match zdb fr2 (g2.mu++(c.mu++e.mu)) g2 c e items2 ρ2 acc with
    | some (ts,ρ3)=>comp2Run fr fr2 g it2 g2 c e rs (outR fr (g.mu++(it2.mu++muF fr2 (g2.mu++(c.mu++e.mu)))) ρ3 ρ) ts
    | none=>none) else none
   | none=>none)
  | none=>none
@[irreducible] noncomputable def zjj (fr fr2:List (Option Nat))(it:MI)(g:MG)(it2:MI)(g2:MG)(c:MT)(e:ME):ME:=⟨fun ρ=>match it.run ρ with
 | some ((srcs,items),ρ1)=>if (frOk fr ρ1.length && ztf (g.mu++(it2.mu++muF fr2 (g2.mu++(c.mu++e.mu)))) fr.length && ztf (g2.mu++(c.mu++e.mu)) fr2.length && (decide (srcs.length=1) && srcs.all (alive (muF fr (g.mu++(it2.mu++muF fr2 (g2.mu++(c.mu++e.mu))))))))=true then (match comp2Run fr fr2 g it2 g2 c e items ρ1 [] with
  | some (ts,ρ2)=>if ts.length<sizeLine then some (⟨.ow,znc ts⟩,ρ2) else none
  | none=>none) else none
 | none=>none,it.mu++muF fr (g.mu++(it2.mu++muF fr2 (g2.mu++(c.mu++e.mu))))⟩
theorem zsf {fr:List (Option Nat)}{M:List Nat}{g:MG}{c:MT}{e:ME}:∀ {items:List R} {ρ:Rho} {acc ts:List T} {ρ':Rho},zdb fr M g c e items ρ acc=some (ts,ρ')->acc.length<=ts.length
 | [],ρ,acc,ts,ρ',h=>by cases h;exact Nat.le_refl _
 | r::rs,ρ,acc,ts,ρ',h=>by
  rw [zdb] at h
  split at h
  ·split at h
   ·split at h
    ·have:=zsf h;simp at this;omega
    ·cases h
   ·exact zsf h
   ·cases h
  ·cases h
theorem comp2Run_len {fr fr2:List (Option Nat)}{g:MG}{it2:MI}{g2:MG}{c:MT}{e:ME}:∀ {items:List R} {ρ:Rho} {acc ts:List T} {ρ':Rho},comp2Run fr fr2 g it2 g2 c e items ρ acc=some (ts,ρ')->acc.length<=ts.length
 | [],ρ,acc,ts,ρ',h=>by cases h;exact Nat.le_refl _
 | r::rs,ρ,acc,ts,ρ',h=>by
  rw [comp2Run] at h
  split at h
  ·split at h
   ·split at h
    ·split at h
     ·rename_i e1;exact Nat.le_trans (zsf e1) (comp2Run_len h)
     ·cases h
    ·cases h
   ·cases h
  ·cases h
theorem ref_comp2 {wi wi2:TI}{fr fr2:List (Option Nat)}{g g2:TG}{tc:TT}{te:TE}{it it2:MI}{mg mg2:MG}{c:MT}{e:ME}(hi:RefI K wi it)(hgk:GKeep fr g)(hg:RefG K g mg)(hi2:RefI K wi2 it2)(hgk2:GKeep fr2 g2)(hg2:RefG K g2 mg2)(hc:RefT K tc c)(he:RefE K te e):RefE K (tComp2 wi fr g wi2 fr2 g2 tc te) (zjj fr fr2 it mg it2 mg2 c e):=by
 intro Γ H ρ σ E Q r ρ' hK hr S q
 simp only [zjj] at hr q
 split at hr
 ·rename_i srcs items ρ1 e1
  split at hr
  ·rename_i hb
   simp only [Bool.and_eq_true,decide_eq_true_eq] at hb
   obtain⟨⟨⟨b1,b2⟩,b3⟩,b5,b4⟩:=hb
   obtain⟨src,rfl⟩:=List.length_eq_one_iff.mp b5
   rw [List.all_cons,List.all_nil,Bool.and_true] at b4
   split at hr
   ·rename_i tsF ρF e2
    split at hr
    ·rename_i hz
     cases hr
     refine hi Γ H ρ σ E _ [src] items ρ1 hK e1 S fun J vs H1 hlv S1 wk=>?_
     obtain⟨v,rfl⟩:=List.length_eq_one_iff.mp hlv
     replace S1:Sim Γ H1 ρ1 σ (⟨none,v,src⟩::zk it.mu E):=S1
     rw [← zi] at q
     generalize hM2:mg2.mu++(c.mu++e.mu)=M2 at *
     generalize hM:mg.mu++(it2.mu++muF fr2 M2)=M at *
     generalize zk it.mu E=E1 at q S1
     have ks:zka (muF fr M) ⟨none,v,src⟩=true:=b4
     have S2:=S1.weak (muF fr M)
     rw [zt ks] at S2
     have kE:=zpc (M:=muF fr M) (N:=muF fr M) (fun j hj=>hj) E1
     generalize zk (muF fr M) E1=E2 at q S2 kE
     have kE2:∀ acc ts,zk (muF fr M) (⟨none,v,src⟩::(temps acc ts++E2))=⟨none,v,src⟩::(temps acc ts++E2):=fun acc ts=>by rw [zt ks,zy,zsd,kE]
     refine⟨fun i m acc H=>m=items.length - i/\i<=items.length/\∃ ρ2 ts,comp2Run fr fr2 mg it2 mg2 c e (items.drop i) ρ2 ts=some (tsF,ρ')/\acc.length=ts.length/\ρ2.length=ρ1.length/\Sim Γ H ρ2 σ (⟨none,v,src⟩::(temps acc ts++E2)),⟨items.length,by simp,Nat.zero_le _,ρ1,[],by simpa using e2,rfl,rfl,S2⟩,?_⟩
     rintro i m acc H2 ⟨rfl,hil,ρ2,ts,h1,hl,hρ,S3⟩
     have:=comp2Run_len h1
     refine⟨by omega,?_⟩
     obtain⟨w1,w2⟩:=wk H2 ρ2 σ _ S3
     by_cases hlt:i<items.length
     ·have hx:items[i]?=some items[i]:=by simp [hlt]
      obtain⟨w3,w4⟩:=w2 i _ hx
      rw [List.drop_eq_getElem_cons hlt,comp2Run] at h1
      refine .inr ⟨w3,fun acc' H'=>∃ ρ2 ts,comp2Run fr fr2 mg it2 mg2 c e (items.drop (i+1)) ρ2 ts=some (tsF,ρ')/\acc'.length=ts.length/\ρ2.length=ρ1.length/\Sim Γ H' ρ2 σ (⟨none,v,src⟩::(temps acc' ts++E2)),fun acc' H' ⟨ρ3,ts3,h3,hl3,hρ3,S3⟩=>⟨items.length - (i+1),by omega,rfl,hlt,ρ3,ts3,h3,hl3,hρ3,S3⟩,fun x H3 y=>?_⟩
      have S4:Sim Γ H3 ρ2 σ (⟨none,x,items[i]⟩::⟨none,v,src⟩::(temps acc ts++E2)):=w4 x H3 y
      have hf1:frOk fr ρ2.length=true:=by rw [hρ];exact b1
      have S5:=S4.inn hf1
      rw [zye] at S5
      split at h1
      ·rename_i ρ3 e3
       refine hgk x (inSt fr σ) H3 (fun σ2 H4=>Kp fr (inSt fr σ) σ2->_) _ (fun σ2 H4 z kp=>z kp) ?_
       refine hg Γ H3 (inR fr ρ2) (inSt fr σ) _ _ x _ ρ3 hK e3 S5 fun σ2 H4 S6 kp=>?_
       split at h1
       ·rename_i srcs2 items2 ρ4 e4
        split at h1
        ·rename_i hb2
         rw [hM2] at hb2
         simp only [Bool.and_eq_true,decide_eq_true_eq] at hb2
         obtain⟨⟨c1,c4,c2⟩,c3⟩:=hb2
         obtain⟨src2,rfl⟩:=List.length_eq_one_iff.mp c4
         rw [List.all_cons,List.all_nil,Bool.and_true] at c2
         split at h1
         ·rename_i ts3 ρ5 e5
          rw [hM2] at e5 h1
          refine hi2 Γ H4 ρ3 σ2 _ _ [src2] items2 ρ4 hK e4 S6 fun J2 vs2 H5 hlv2 S7 wk2=>?_
          obtain⟨v2,rfl⟩:=List.length_eq_one_iff.mp hlv2
          rw [show ens [v2] [src2] = [⟨none,v2,src2⟩] from rfl,List.singleton_append] at S7
          rw [zi] at S7
          have ks2:zka (muF fr2 M2) ⟨none,v2,src2⟩=true:=c2
          have eo:zk (mg.mu++it2.mu) (outE fr σ ρ2 (⟨none,v,src⟩::(temps acc ts++E2)))=zk (mg.mu++it2.mu) (renE (piF fr) ⟨none,v,src⟩::(temps acc ts++outE fr σ ρ2 E2)):=by
           congr 1
           rw [zye]
           congr 1
           unfold outE
           rw [List.append_assoc,List.map_append]
           congr 1
           have:∀ {vs:List V} {ts:List T},(temps vs ts).map (renE (piF fr))=temps vs ts:=by
            intro vs
            induction vs with
            | nil=>intro ts;cases ts<;>rfl
            | cons a vs ih=>
             intro ts
             cases ts with
             | nil=>rfl
             | cons b ts=>rw [temps,List.map_cons,ih];rfl
           exact this
          have S8:=S7.weak (muF fr2 M2)
          rw [zt ks2,eo,zi] at S8
          have pm:(⟨none,v2,src2⟩::zk (mg.mu++it2.mu++muF fr2 M2) (renE (piF fr) ⟨none,v,src⟩::(temps acc ts++outE fr σ ρ2 E2))).Perm (⟨none,v2,src2⟩::(temps acc ts++zk (mg.mu++it2.mu++muF fr2 M2) (renE (piF fr) ⟨none,v,src⟩::outE fr σ ρ2 E2))):=by
           refine List.Perm.cons _ ?_
           have e9:zk (mg.mu++it2.mu++muF fr2 M2) (temps acc ts++(renE (piF fr) ⟨none,v,src⟩::outE fr σ ρ2 E2))=temps acc ts++zk (mg.mu++it2.mu++muF fr2 M2) (renE (piF fr) ⟨none,v,src⟩::outE fr σ ρ2 E2):=by rw [zy,zsd]
           rw [← e9]
           exact List.Perm.filter _ List.perm_middle.symm
          have S9:=S8.perm pm
          have kE9:=zpc (M:=mg.mu++it2.mu++muF fr2 M2) (N:=muF fr2 M2) (fun j hj=>yaR _ hj) (renE (piF fr) ⟨none,v,src⟩::outE fr σ ρ2 E2)
          refine comp_loop (H:=H5) (ρ:=ρ4) (σ:=σ2) (E2:=zk (mg.mu++it2.mu++muF fr2 M2) (renE (piF fr) ⟨none,v,src⟩::outE fr σ ρ2 E2)) (acc0:=acc) (ts0:=ts) hK wk2 hgk2 hg2 hc he hM2.symm (zrj b3) (fun e' he'=>by rcases ysM he' with rfl;exact ks2) kE9 hl (by rw [hl];exact c3) c1 S9 e5 fun acc' H6 hl' _ hρ5 S10=>?_
          refine⟨_,ts3,h1,hl',by rw [zxj,hρ],?_⟩
          have S11:=S10.drop rfl
          have em:mg.mu++it2.mu++muF fr2 M2=M:=by rw [← hM,List.append_assoc]
          have pm2:(temps acc' ts3++zk (mg.mu++it2.mu++muF fr2 M2) (renE (piF fr) ⟨none,v,src⟩::outE fr σ ρ2 E2)).Perm (zk M (outE fr σ ρ2 (⟨none,v,src⟩::(temps acc' ts3++E2)))):=by
           have e10:outE fr σ ρ2 (⟨none,v,src⟩::(temps acc' ts3++E2))=renE (piF fr) ⟨none,v,src⟩::(temps acc' ts3++outE fr σ ρ2 E2):=by
            rw [zye]
            congr 1
            unfold outE
            rw [List.append_assoc,List.map_append]
            congr 1
            have:∀ {vs:List V} {ts:List T},(temps vs ts).map (renE (piF fr))=temps vs ts:=by
             intro vs
             induction vs with
             | nil=>intro ts;cases ts<;>rfl
             | cons a vs ih=>
              intro ts
              cases ts with
              | nil=>rfl
              | cons b ts=>rw [temps,List.map_cons,ih];rfl
            exact this
           rw [em,e10]
           have e11:zk M (temps acc' ts3++(renE (piF fr) ⟨none,v,src⟩::outE fr σ ρ2 E2))=temps acc' ts3++zk M (renE (piF fr) ⟨none,v,src⟩::outE fr σ ρ2 E2):=by rw [zy,zsd]
           rw [← e11]
           exact List.Perm.filter _ List.perm_middle
          have S12:=S11.perm pm2
          have hl5 : ρ5.length=fr.length:=by rw [← S12.len,kp.1,zgc]
          have tk:∀ {vs:List V} {ts:List T} {e':En},e'∈temps vs ts->e'.key=none:=by
           intro vs
           induction vs with
           | nil=>intro ts e' h;cases ts<;>cases h
           | cons a vs ih=>
            intro ts e' h
            cases ts with
            | nil=>cases h
            | cons b ts=>
             rcases ycM h with rfl | h
             ·rfl
             ·exact ih h
          have S13:=S12.outt hf1 (zrj b2) hl5 kp S3.al S3.len (fun e' he' j hj=>by
           rcases ycM he' with rfl | he'
           ·cases hj
           ·rcases yaM he' with he' | he'
            ·rw [tk he'] at hj;cases hj
            ·exact S3.hi e' (ymC _ (yaR _ he')) j hj)
          rw [kE2] at S13
          rw [hM]
          exact S13
         ·cases h1
        ·cases h1
       ·cases h1
      ·cases h1
     ·have ei:i=items.length:=by omega
      subst ei
      rw [List.drop_length,comp2Run] at h1
      cases h1
      exact .inl ⟨w1 _ (Nat.le_refl _),fun d hd=>q _ _ ((S3.drop rfl).mkL hl hd)⟩
    ·cases hr
   ·cases hr
  ·cases hr
 ·cases hr
end
section
variable  {Γ:Gm}{H H':Hp}{L:List Hd}{ρ:Rho}{σ:St}{E X:List En}{v w x y:V}{t s:T}{K:yF}{Q:VK}
theorem GW.stepN {hs ns:List Hd}(G:GW Γ H (hs++L))(ho:∀ h∈hs,h.e.r.k.isOw=true)(hr:∀ g∈L,∀ h∈hs,∀ j,h.e.key=some j->g.e.r.k.root≠some j)
  (off:OffM (hs.flatMap (·.F)) H H') (dom:∀ a∈hs.flatMap (·.F),∃ o,H' a=some o) (nd:(ns.flatMap (·.F)).Nodup) (hF:∀ a∈ns.flatMap (·.F),(a∈hs.flatMap (·.F) ∨ H a=none)/\Mu H' a) (hp:∀ n∈ns,Rp Γ.K H' n.e.r.t n.e.v n.F)
  (hk:∀ n∈ns,(n.e.r.k = .ow/\∀ a∈n.F,H a=none ∨ ∃ h∈hs,h.e.r.k = .ow/\a∈h.F) ∨ ∃ k,n.e.r.k = .io k/\Γ.iov[k]?=some n.e.v) (hkey:((ns++L).filterMap fun h=>h.e.key).Nodup):GW Γ H' (ns++L):=by
 have iow:∀ n∈ns,n.e.r.k.isOw=true:=fun n hn=>by rcases hk n hn with⟨e,_⟩ | ⟨k,e,_⟩<;>rw [e]<;>rfl
 have eo:=zjh ho
 have en:=zjh iow
 have G':=G.nd
 rw [List.flatMap_append,eo] at G'
 have nd1:=(List.nodup_append.mp G').2.1
 have dj:=(List.nodup_append.mp G').2.2
 have adL:∀ a∈L.flatMap Hd.own,Mu H a/\(Γ.H0 a=none ∨ a ∈ Γ.io):=fun a ha=>G.ad a (by rw [List.flatMap_append];exact yaR _ ha)
 have adM:∀ a∈hs.flatMap (·.F),Mu H a/\(Γ.H0 a=none ∨ a ∈ Γ.io):=fun a ha=>G.ad a (by rw [List.flatMap_append,eo];exact yaL _ ha)
 have ap:=G.apart hr ho
 have apM:∀ g∈L,∀ a∈g.F,a ∉ hs.flatMap (·.F):=fun g hg a ha hm=>by
  obtain⟨h,hh,hah⟩:=List.mem_flatMap.mp hm
  exact ap g hg a ha h hh hah
 refine⟨?_,fun a ha=>?_,fun x hx=>?_,fun x hx=>?_,hkey,fun b o e n=>?_,fun a ha=>?_⟩
 ·rw [List.flatMap_append,en]
  refine List.nodup_append.mpr ⟨nd,nd1,fun a ha b hb=>?_⟩
  rintro rfl
  rcases (hF a ha).1 with z | z
  ·exact dj a z a hb rfl
  ·obtain⟨o,e,_⟩:=(adL a hb).1
   rw [z] at e;cases e
 ·rw [List.flatMap_append,en] at ha
  rcases yaM ha with ha | ha
  ·refine⟨(hF a ha).2,?_⟩
   rcases (hF a ha).1 with z | z
   ·exact (adM a z).2
   ·exact .inl (G.new0 z)
  ·obtain⟨⟨o,e,m⟩,z⟩:=adL a ha
   exact⟨⟨o,off a o e fun hm=>dj a hm a ha rfl,m⟩,z⟩
 ·rcases yaM hx with hx | hx
  ·exact hp x hx
  ·exact (G.rp x (yaR _ hx)).off off (fun a ha=>(adM a ha).1) (apM x hx)
 ·rcases yaM hx with hx | hx
  ·unfold KdOk
   rcases hk x hx with⟨e,eh⟩ | ⟨k,e,ek⟩
   ·simp only [e]
    intro a ha
    rcases eh a ha with z | ⟨h,hh,he,hah⟩
    ·exact G.new0 z
    ·have q:=G.kd h (yaL _ hh)
     unfold KdOk at q
     rw [he] at q
     exact q a hah
   ·simp only [e];exact ek
  ·have k:=G.kd x (yaR _ hx)
   have st:∀ a∈x.F,a ∉ (hs++L).flatMap Hd.own->a ∉ (ns++L).flatMap Hd.own:=fun a ha n z=>by
    rw [List.flatMap_append,en] at z
    rcases yaM z with z | z
    ·rcases (hF a z).1 with w | w
     ·exact n (by rw [List.flatMap_append,eo];exact yaL _ w)
     ·obtain⟨o,e⟩:=(G.rp x (yaR _ hx)).dom a ha
      rw [w] at e;cases e
    ·exact n (by rw [List.flatMap_append];exact yaR _ z)
   unfold KdOk at k ⊢
   split at k
   ·exact k
   ·exact k
   ·exact fun a ha=>st a ha (k a ha)
   ·rename_i j p e
    obtain⟨g,h1,h2,h3,h4,h5⟩:=k
    rcases yaM h1 with hg | hg
    ·exact absurd (by rw [e];rfl) (hr x hx g hg j h2)
    ·refine⟨g,yaR _ hg,h2,h3,fun a ha=>(h4 a ha).imp id (st a ha),fun q hq=>⟨(h5 q hq).1,?_⟩⟩
     exact zzk off (F:=g.F) (apM g hg) (G.muF (yaR _ hg) h3) (fun a ha=>ha) (G.ndF (yaR _ hg) h3) (G.rp g (yaR _ hg)) (h5 q hq).1 (h5 q hq).2
 ·refine off b o (G.fr b o e n) fun hm=>?_
  rcases (adM b hm).2 with z | z
  ·rw [z] at e;cases e
  ·exact n z
 ·obtain⟨o,e⟩:=G.iol a ha
  by_cases hm:a∈hs.flatMap (·.F)
  ·exact dom a hm
  ·exact⟨o,off a o e hm⟩
theorem GW.uniq (g:GW Γ H L){x z:Hd}{i:Nat}(x1:x∈L)(hz:z∈L)(x2:x.e.key=some i)(z2:z.e.key=some i):x=z:=by
 have nk:=g.ks
 by_cases q:x=z
 ·exact q
 ·exfalso
  obtain⟨A,B,rfl⟩:=List.append_of_mem x1
  rw [List.filterMap_append,List.filterMap_cons,x2] at nk
  rcases yaM hz with hz | hz
  ·exact (List.nodup_append.mp nk).2.2 i (List.mem_filterMap.mpr ⟨z,hz,z2⟩) i ymS rfl
  ·rcases ycM hz with hz | hz
   ·exact q hz.symm
   ·exact (List.nodup_cons.mp (List.nodup_append.mp nk).2.1).1 (List.mem_filterMap.mpr ⟨z,hz,z2⟩)
theorem Sim.place {i:Nat}{p:List Ac}{r:R}{v0:V}(S:Sim Γ H ρ σ E)(he:(⟨none,w,⟨.vw (some i) (some p),s⟩⟩:En)∈E)(h : ρ[i]?=some (some r))(hv : σ[i]?=some (some v0)):r.t.sub p=some s/\atP Γ.K H v0 p w:=by
 obtain⟨v1,hv1,hm⟩:=S.slot h
 rw [hv] at hv1;cases hv1
 obtain⟨L,g,e⟩:=S.sl
 have h1:(⟨none,w,⟨.vw (some i) (some p),s⟩⟩:En)∈L.map (·.e):=by rw [e];exact yaL _ he
 obtain⟨y,hy,ey⟩:=List.mem_map.mp h1
 have kd:=g.kd y hy
 unfold KdOk at kd
 rw [ey] at kd
 obtain⟨x,x1,x2,x3,x4,x5⟩:=kd
 have hm':(⟨some i,v0,r⟩:En)∈L.map (·.e):=by rw [e];exact hm
 obtain⟨z,hz,ez⟩:=List.mem_map.mp hm'
 have:=g.uniq x1 hz x2 (by rw [ez])
 subst this
 have:=x5 p rfl
 rw [ez] at this
 exact this
theorem SimL.dropsN:∀ {A X:List En},SimL Γ H (A++X)->(∀ e∈A,e.key=none)->SimL Γ H X
 | [],_,S,_=>S
 | a::A,X,S,h=>SimL.dropsN (SimL.drop S (h a ymS)) fun e he=>h e (ymC _ he)
theorem znj:∀ {vs:List V} {rs:List R} {m:Nat} {r:R} {x:V},rs[m]?=some r->vs[m]?=some x->(⟨none,x,r⟩:En)∈ens vs rs
 | [],_,m,_,_,_,h=>by simp at h
 | _::_,[],m,_,_,h,_=>by simp at h
 | v::vs,r0::rs,0,r,x,h1,h2=>by simp at h1 h2;subst h1 h2;exact ymS
 | v::vs,r0::rs,m+1,r,x,h1,h2=>ymC _ (znj (by simpa using h1) (by simpa using h2))
theorem zal:∀ {vs:List V} {rs:List R} {e:En},e∈ens vs rs->e.key=none
 | [],rs,e,h=>by cases rs<;>cases h
 | _::_,[],e,h=>by cases h
 | v::vs,r::rs,e,h=>by
  rcases ycM h with rfl | h
  ·rfl
  ·exact zal h
theorem Sim.io {vs:List V}{rs:List R}{k i:Nat}{p:List Ac}{kd:Kd}{t0:T}(S:Sim Γ H ρ σ (ens vs rs++E))(hk:rs[k]?=some ⟨.vw (some i) (some p),s⟩)(hw:vs[k]?=some w)(hal:∀ m r,m≠k->rs[m]?=some r->alive [i] r=true)(h : ρ[i]?=some (some ⟨kd,t0⟩))(ho:kd.isOw=true) :
  ∃ G,Rp Γ.K H s w G/\G.Nodup/\(∀ a∈G,Mu H a)/\(∀ m r x,m≠k->rs[m]?=some r->vs[m]?=some x->∃ F,Rp Γ.K H r.t x F/\∀ a∈F,a ∉ G) ∧
  ∀ H' s' v t F G',OffM G H H'->(∀ a∈G,∃ o,H' a=some o)->(F++G').Nodup->(∀ a∈F,H a=none/\Mu H' a)->(∀ a∈G',(a∈G ∨ H a=none)/\Mu H' a)->Rp Γ.K H' s' w G'->Rp Γ.K H' t v F->Sim Γ H' ((zv [i] ρ).set i (some ⟨kd,t0.put p s'⟩)) σ (⟨none,v,⟨.ow,t⟩⟩::zk [i] E):=by
 have hil:i < ρ.length:=(List.getElem?_eq_some_iff.mp h).1
 obtain⟨v0,hv0,h1,h2,h3⟩:=S.out h ho
 have pl:=S.place (yaL _ (znj hk hw)) h hv0
 obtain⟨L,g,eL⟩:=h1
 obtain⟨x,L',rfl,ex,eL'⟩:=zw eL
 have hox:x.e.r.k.isOw=true:=by rw [ex];exact ho
 have nx:=g.ndF ymS hox
 have mx:=g.muF ymS hox
 have hsub:x.e.r.t.sub p=some s:=by rw [ex];exact pl.1
 obtain⟨w',A,G,B,z1,z2,z3,z4⟩:=(g.rp x ymS).atP mx nx hsub
 have ew:w'=w:=by rw [ex] at z1;exact zxh z1 pl.2
 subst ew
 have inG:∀ a∈G,a∈x.F:=fun a ha=>by rw [z3];exact yaL _ (yaR _ ha)
 have ndx:=nx
 rw [z3] at ndx
 have ndA:=List.nodup_append.mp ndx
 have ndG:=List.nodup_append.mp ndA.1
 have keyL:∀ g∈L',g.e.key≠some i:=fun y hy=>h3 y.e (by rw [← eL'];exact List.mem_map_of_mem hy)
 have rootL:∀ g∈L',g.e.r.k.root≠some i:=fun y hy=>h2 y.e (by rw [← eL'];exact List.mem_map_of_mem hy)
 have ap:=GW.apart (hs:=[x]) (L:=L') g (fun y hy z hz j hj=>by rw [ysM hz,ex] at hj;cases hj;exact rootL y hy) (fun z hz=>by rw [ysM hz];exact hox)
 refine⟨G,z2,ndG.2.1,fun a ha=>mx a (inG a ha),fun m r y hm hr hy=>?_,fun H' s' v t F G' off dom nd hF hG rp' rpt=>?_⟩
 ·have hmem:(⟨none,y,r⟩:En)∈zk [i] (ens vs rs++E):=List.mem_filter.mpr ⟨yaL _ (znj hr hy),hal m r hm hr⟩
  have hmem2:(⟨none,y,r⟩:En)∈L'.map (·.e):=by rw [eL'];exact yaL _ hmem
  obtain⟨z,hz,ez⟩:=List.mem_map.mp hmem2
  have rz:=g.rp z (ymC _ hz)
  rw [ez] at rz
  exact⟨z.F,rz,fun a ha hg=>ap z hz a ha x ymS (inG a hg)⟩
 ·have apAB:∀ a,(a∈A ∨ a∈B)->a ∉ G:=fun a ha hm=>by
   rcases ha with q | q
   ·exact ndG.2.2 a q a hm rfl
   ·exact ndA.2.2 a (yaR _ hm) a q rfl
  have inAB:∀ a,(a∈A ∨ a∈B)->a∈x.F:=fun a ha=>by
   rw [z3]
   rcases ha with q | q
   ·exact yaL _ (yaL _ q)
   ·exact yaR _ q
  have rp2:=z4 H' s' G' off rp'
  have nFG:=List.nodup_append.mp nd
  have oldAB:∀ a,(a∈A ∨ a∈B)->H a≠none:=fun a ha z=>by obtain⟨o,e1,_⟩:=mx a (inAB a ha);rw [z] at e1;cases e1
  have nG':∀ a,(a∈A ∨ a∈B)->a ∉ G':=fun a ha hg=>by
   rcases (hG a hg).1 with z | z
   ·exact apAB a ha z
   ·exact oldAB a ha z
  have ndR:(A++G'++B).Nodup:=by
   refine List.nodup_append.mpr ⟨List.nodup_append.mpr ⟨ndG.1,nFG.2.1,fun a ha b hb e=>nG' a (.inl ha) (e ▸ hb)⟩,ndA.2.1,fun a ha b hb e=>?_⟩
   subst e
   rcases yaM ha with z | z
   ·exact ndA.2.2 a (yaL _ z) a hb rfl
   ·exact nG' a (.inr hb) z
  have memR:∀ a∈A++G'++B,(a∈x.F ∨ H a=none)/\Mu H' a:=fun a ha=>by
   have old:a∈A ∨ a∈B->(a∈x.F ∨ H a=none)/\Mu H' a:=fun q=>by
    obtain⟨o,e1,m1⟩:=mx a (inAB a q)
    exact⟨.inl (inAB a q),o,off a o e1 (apAB a q),m1⟩
   rcases yaM ha with z | z
   ·rcases yaM z with z | z
    ·exact old (.inl z)
    ·exact⟨(hG a z).1.imp (inG a) id,(hG a z).2⟩
   ·exact old (.inr z)
  have st:=GW.stepN (hs:=[x]) (L:=L') (H':=H') (ns:=[⟨⟨none,v,⟨.ow,t⟩⟩,F⟩,⟨⟨some i,v0,⟨kd,t0.put p s'⟩⟩,A++G'++B⟩]) g (fun z hz=>by rw [ysM hz];exact hox) (fun y hy z hz j hj=>by rw [ysM hz,ex] at hj;cases hj;exact rootL y hy)
   (by simpa using off.mono inG) (fun a ha=>by
    have ha':a∈x.F:=by simpa using ha
    by_cases hg:a∈G
    ·exact dom a hg
    ·obtain⟨o,e1,_⟩:=mx a ha';exact⟨o,off a o e1 hg⟩)
   (by
    simp only [List.flatMap_cons,List.flatMap_nil,List.append_nil]
    refine List.nodup_append.mpr ⟨nFG.1,ndR,fun a ha b hb e=>?_⟩
    subst e
    rcases yaM hb with z | z
    ·rcases yaM z with z | z
     ·exact oldAB a (.inl z) (hF a ha).1
     ·exact nFG.2.2 a ha a z rfl
    ·exact oldAB a (.inr z) (hF a ha).1)
   (fun a ha=>by
    simp only [List.flatMap_cons,List.flatMap_nil,List.append_nil] at ha ⊢
    rcases yaM ha with z | z
    ·exact⟨.inr (hF a z).1,(hF a z).2⟩
    ·exact memR a z)
   (fun n hn=>by
    rcases ycM hn with rfl | hn
    ·exact rpt
    ·rw [ysM hn];rw [ex] at rp2;exact rp2)
   (fun n hn=>by
    rcases ycM hn with rfl | hn
    ·exact .inl ⟨rfl,fun a ha=>.inl (hF a ha).1⟩
    ·rw [ysM hn]
     have kx:=g.kd x ymS
     unfold KdOk at kx
     rw [ex] at kx
     cases kd with
     | ow=>exact .inl ⟨rfl,fun a ha=>(memR a ha).1.elim (fun z=>.inr ⟨x,ymS,by rw [ex],z⟩) .inl⟩
     | io n=>exact .inr ⟨n,rfl,kx⟩
     | vw a b=>cases ho)
   (by
    have ks:=g.ks
    rw [List.filterMap_cons,ex] at ks
    exact ks)
  have S2:=S.kill [i]
  have SL:SimL Γ H' (⟨none,v,⟨.ow,t⟩⟩::⟨some i,v0,⟨kd,t0.put p s'⟩⟩::(zk [i] (ens vs rs++E)++ents 0 σ ((zv [i] ρ).set i none))):=⟨_,st,by rw [List.map_append,eL'];rfl⟩
  have SL2:SimL Γ H' (⟨none,v,⟨.ow,t⟩⟩::⟨some i,v0,⟨kd,t0.put p s'⟩⟩::(zk [i] E++ents 0 σ ((zv [i] ρ).set i none))):=by
   rw [zy,List.append_assoc] at SL
   have pp:(⟨none,v,⟨.ow,t⟩⟩::⟨some i,v0,⟨kd,t0.put p s'⟩⟩::(zk [i] (ens vs rs)++(zk [i] E++ents 0 σ ((zv [i] ρ).set i none)))).Perm (zk [i] (ens vs rs)++(⟨none,v,⟨.ow,t⟩⟩::⟨some i,v0,⟨kd,t0.put p s'⟩⟩::(zk [i] E++ents 0 σ ((zv [i] ρ).set i none)))):=by
    refine List.Perm.trans ?_ (List.perm_middle.symm)
    refine List.Perm.cons _ ?_
    exact List.perm_middle.symm
   exact (SL.perm pp).dropsN fun e he=>zal (List.mem_filter.mp he).1
  refine S2.back (E':=⟨none,v,⟨.ow,t⟩⟩::zk [i] E) (SL2.perm ?_) (by simp [zba]) rfl (fun m r' hm=>?_) (fun e he j hj=>?_)
  ·have pq:=(zfg (k:=0) (σ:=σ) (ρ:=zv [i] ρ) (v:=v0) (r:=⟨kd,t0.put p s'⟩) (by rw [S.len];exact hil) (by rw [zba];exact hil)).append_left (zk [i] E)
   rw [Nat.zero_add] at pq
   have eσ : σ.set i (some v0)=σ:=by
    apply List.ext_getElem?
    intro m
    by_cases hm:m=i
    ·subst hm;rw [hv0];simp [S.len,hil]
    ·rw [List.getElem?_set_ne (Ne.symm hm)]
   rw [eσ] at pq
   rw [List.cons_append]
   exact List.Perm.cons _ ((List.perm_middle.symm).trans pq.symm)
  ·by_cases e:m=i
   ·subst e;exact⟨v0,hv0⟩
   ·rw [List.getElem?_set_ne (Ne.symm e)] at hm;exact S2.al m r' hm
  ·rcases ycM he with rfl | he
   ·cases hj
   ·rw [zy];exact yaR _ he
def spP (K:yF)(run:List T->Option T):Sp:=fun vs H Q _=>∃ ts t,Rpxs K H ts vs/\run ts=some t/\∀ v H',New K H H' t v->Q v H'
def spI (K:yF)(k:Nat)(run:List T->Option (T×T)):Sp:=fun vs H Q _=>∃ ts s w G t s',vs.length=ts.length/\vs[k]?=some w/\ts[k]?=some s/\Rp K H s w G/\G.Nodup/\(∀ a∈G,Mu H a)/\(∀ (m:Nat) x u,m≠k->vs[m]?=some x->ts[m]?=some u->∃ F,Rp K H u x F/\∀ a∈F,a ∉ G)/\run ts=some (t,s') ∧
 ∀ v H' F G',OffM G H H'->(∀ a∈G,∃ o,H' a=some o)->(F++G').Nodup->(∀ a∈F,H a=none/\Mu H' a)->(∀ a∈G',(a∈G ∨ H a=none)/\Mu H' a)->Rp K H' s' w G'->Rp K H' t v F->Q v H'
theorem ref_callP {run:List T->Option T}{ta:TA}{a:MA}(ha:RefA K ta a):RefE K (zul (spP K run) [] E0 ta) (mB run a):=by
 have e:zul (spP K run) [] E0 ta=tCB (fun vs H Q=>spP K run vs H Q E0) ta:=by
  funext σ H Q
  show (ta σ H fun vs H1=>spP K run (vs++[]) H1 Q E0)=_
  simp only [List.append_nil]
  rfl
 rw [e]
 exact zvn (fun H vs ts t Q r e q=>⟨ts,t,r,e,q⟩) ha
@[irreducible] noncomputable def zq (k j:Nat)(run:List T->Option (T×T))(a:MA):ME:=⟨fun ρ=>match a.run ρ with
 | some (rs,ρ1)=>(match rs[k]? with
  | some ⟨.vw (some i) (some p),_⟩=>if (decide (i=j) && (List.range rs.length).all fun m=>decide (m=k) || alive [j] (rs.getD m ⟨.ow,.im .non⟩))=true then (match run (rs.map (·.t)) with
   | some (t,s')=>(match ρ1[j]? with
    | some (some ⟨kd,t0⟩)=>if kd.isOw=true then some (⟨.ow,t⟩,(zv [j] ρ1).set j (some ⟨kd,t0.put p s'⟩)) else none
    | _=>none)
   | none=>none) else none
  | _=>none)
 | none=>none,a.mu++[j]⟩
theorem ref_callI {k j:Nat}{run:List T->Option (T×T)}{ta:TA}{a:MA}(ha:RefA K ta a):RefE K (zul (spI K k run) [] E0 ta) (zq k j run a):=by
 intro Γ H ρ σ E Q r ρ' hK hr S q
 show ta σ H fun vs H1=>spI K k run (vs++[]) H1 Q E0
 simp only [List.append_nil]
 simp only [zq] at hr q
 split at hr
 ·rename_i rs ρ1 e1
  split at hr
  ·rename_i i p s e2
   split at hr
   ·rename_i hb
    rw [Bool.and_eq_true,decide_eq_true_eq] at hb
    obtain⟨rfl,hal⟩:=hb
    split at hr
    ·rename_i t s' e3
     split at hr
     ·rename_i kd t0 e4
      split at hr
      ·rename_i ho
       cases hr
       refine ha Γ H ρ σ E _ rs ρ1 hK e1 S fun vs H1 hl S1=>?_
       have hkl:k<rs.length:=(List.getElem?_eq_some_iff.mp e2).1
       obtain⟨w,hw⟩:∃ w,vs[k]?=some w:=⟨vs[k],by simp [hl,hkl]⟩
       have hal':∀ m r,m≠k->rs[m]?=some r->alive [i] r=true:=fun m r hm hr=>by
        have hml:=(List.getElem?_eq_some_iff.mp hr).1
        have:=List.all_eq_true.mp hal m (List.mem_range.mpr hml)
        rw [List.getD_eq_getElem?_getD,hr] at this
        simpa [hm] using this
       obtain⟨G,g1,g2,g3,g4,g5⟩:=S1.io e2 hw hal' e4 ho
       rw [hK] at g1
       refine⟨rs.map (·.t),s,w,G,t,s',by rw [List.length_map,hl],hw,by rw [List.getElem?_map,e2];rfl,g1,g2,g3,fun m x u hm hx hu=>?_,e3,fun v H' F G' a1 a2 a3 a4 a5 a6 a7=>q v H' ?_⟩
       ·rw [List.getElem?_map] at hu
        cases hr:rs[m]? with
        | none=>rw [hr] at hu;cases hu
        | some r=>
         rw [hr] at hu;cases hu
         have:=g4 m r x hm hr hx
         rw [hK] at this
         exact this
       ·rw [← hK] at a6 a7
        have:=g5 H' s' v t F G' a1 a2 a3 a4 a5 a6 a7
        rw [zi] at this
        exact this
      ·cases hr
     ·cases hr
    ·cases hr
   ·cases hr
  ·cases hr
 ·cases hr
noncomputable def roR:T->R
 | .im i=>⟨.ow,.im i⟩
 | t=>⟨.vw none none,t⟩
noncomputable def zwd (ts:List T) (n:Nat):Rho:=(ts.map fun t=>some (roR t))++List.replicate (n - ts.length) none
theorem zzg:∀ (k n m:Nat),ents k (List.replicate n none) (List.replicate m none) = []
 | _,0,_=>rfl
 | _,n+1,0=>rfl
 | k,n+1,m+1=>by simp only [List.replicate_succ,ents];exact zzg (k+1) n m
theorem start_L {H0:Hp}{io:List Addr}{iov:List V}(n m:Nat):∀ {ts:List T} {vs:List V} {k:Nat},Rpxs K H ts vs->∃ L:List Hd,L.map (·.e)=ents k (vs.map some++List.replicate n none) ((ts.map fun t=>some (roR t))++List.replicate m none)/\L.flatMap Hd.own = []/\(∀ h∈L,Rp K H h.e.r.t h.e.v h.F)/\(∀ h∈L,(h.e.r.k = .ow/\h.F = []) ∨ h.e.r.k = .vw none none)
 | [],vs,k,r=>by
  rw [Rpxs] at r;subst r
  exact⟨[],by simp [zzg],rfl,by simp,by simp⟩
 | t::ts,vs,k,r=>by
  obtain⟨v,vr,rfl,⟨F,r1⟩,r2⟩:=r
  obtain⟨L,h1,h2,h3,h4⟩:=start_L (H0:=H0) (io:=io) (iov:=iov) n m (k:=k+1) r2
  have hroR:∃ F',Rp K H (roR t).t v F'/\(((roR t).k = .ow/\F' = []) ∨ (roR t).k = .vw none none):=by
   cases t with
   | im i=>exact⟨[],zfj (zya r1).1,.inl ⟨rfl,rfl⟩⟩
   | _=>exact⟨F,r1,.inr rfl⟩
  obtain⟨F',g1,g2⟩:=hroR
  refine⟨⟨⟨some k,v,roR t⟩,F'⟩::L,by simp [ents,h1],?_,fun h hh=>?_,fun h hh=>?_⟩
  ·rw [List.flatMap_cons,h2,List.append_nil]
   unfold Hd.own
   rcases g2 with⟨e,rfl⟩ | e
   ·simp
   ·rw [show (⟨⟨some k,v,roR t⟩,F'⟩:Hd).e.r.k=(roR t).k from rfl,e];rfl
  ·rcases ycM hh with rfl | hh
   ·exact g1
   ·exact h3 h hh
  ·rcases ycM hh with rfl | hh
   ·rcases g2 with⟨e,rfl⟩ | e
    ·exact .inl ⟨e,rfl⟩
    ·exact .inr e
   ·exact h4 h hh
theorem Rpxs.length:∀ {ts:List T} {vs:List V},Rpxs K H ts vs->vs.length=ts.length
 | [],vs,r=>by rw [Rpxs] at r;subst r;rfl
 | t::ts,vs,r=>by obtain⟨v,vr,rfl,_,r2⟩:=r;rw [List.length_cons,List.length_cons,Rpxs.length r2]
theorem start_al {ts:List T}{vs:List V}{n m:Nat}(hl:vs.length=ts.length)(i:Nat)(r:R)(h:((ts.map fun t=>some (roR t))++List.replicate m none)[i]?=some (some r)):∃ v,(vs.map some++List.replicate n none)[i]?=some (some v):=by
 have hi:i<ts.length:=by
  by_cases e:i<ts.length
  ·exact e
  ·rw [List.getElem?_append_right (by simp;omega),List.getElem?_replicate] at h
   split at h<;>cases h
 refine⟨vs[i],?_⟩
 rw [List.getElem?_append_left (by simp;omega),List.getElem?_map]
 simp [hl,hi]
theorem ents_ks {k:Nat}:((ents k σ ρ).filterMap fun e=>e.key).Nodup:=by
 have:=zbl (k:=k) (σ:=σ) (ρ:=ρ)
 refine List.Pairwise.filterMap (R:=fun a b=>∃ i j,a.key=some i/\b.key=some j/\i<j) (fun e:En=>e.key) (fun a a' ⟨i,j,h1,h2,h3⟩ b hb b' hb'=>?_) this
 rw [h1] at hb;rw [h2] at hb'
 cases hb;cases hb'
 omega
theorem start_P {ts:List T}{vs:List V}{N:List Str}(r:Rpxs K H ts vs):Sim ⟨K,H,[],[]⟩ H (zwd ts N.length) (start N vs) []:=by
 obtain⟨L,h1,h2,h3,h4⟩:=start_L (H0:=H) (io:=[]) (iov:=[]) (N.length - vs.length) (N.length - ts.length) (k:=0) r
 refine⟨⟨L,⟨by rw [h2];exact List.nodup_nil,by rw [h2];simp,h3,fun h hh=>?_,?_,fun b o e _=>e,by simp⟩,by rw [h1];rfl⟩,fun i r' h=>start_al r.length i r' h,?_,by simp⟩
 ·unfold KdOk
  rcases h4 h hh with⟨e,eF⟩ | e
  ·rw [e,eF];simp
  ·rw [e,h2];simp
 ·have:(L.filterMap fun h=>h.e.key)=(L.map (·.e)).filterMap fun e=>e.key:=by rw [List.filterMap_map];rfl
  rw [this,h1]
  exact ents_ks
 ·simp [start,zwd,r.length]
noncomputable def runP (m:MS) (n:Nat) (ts:List T):Option T:=match m.run (zwd ts n) with
 | some (.rt t,_)=>some t
 | some (.nx,_)=>some (.im .non)
 | _=>none
theorem end_P {H0:Hp}(S:Sim ⟨K,H0,[],[]⟩ H' ρ σ [⟨none,v,⟨.ow,t⟩⟩]):New K H0 H' t v:=by
 obtain⟨L,g,e⟩:=S.sl
 obtain⟨x,L',rfl,ex,_⟩:=zw e
 have rp:=g.rp x ymS
 rw [ex] at rp
 have kd:=g.kd x ymS
 unfold KdOk at kd
 rw [ex] at kd
 have ho:x.e.r.k.isOw=true:=by rw [ex];rfl
 exact⟨fun b o h=>g.fr b o h (by simp),x.F,rp,g.ndF ymS ho,fun a ha=>⟨kd a ha,g.muF ymS ho a ha⟩⟩
theorem Def.mp {P:Program}{W:World}{mg:Str->Option Value}{base:Heap}{k:Nat}{name:Str}{st:Stmt}{N ps:List Str}(d:Def K mg name st ps)(S:FnScope N ps (zm st)){m:MS}
  (hbody:∀ (f:Addr) (cdv:Value) (A:Around) (outer:List Env) (s:Shared) (H:Hp) (E:XK),Room k (A.deeper (envOfC name (zm st) s.heap.objs.size f cdv))->PMSs (cxOf CX0 P W K mg base N name (zm st) f cdv A outer s H E).nox (zkb st) m)
  {run:List T->Option T} (hrun:∀ ts,run ts=if ts.length=ps.length then runP m N.length ts else none):Has P W K mg base (k+1) name ps (spP K run):=by
 refine d.has S (fun vs H Q E h=>?_) (fun f cdv A outer s H vs Q E hr h=>?_)
 ·obtain⟨ts,t,r,e,_⟩:=h
  rw [hrun] at e
  split at e
  ·rename_i hl;rw [r.length,hl]
  ·cases e
 ·obtain⟨ts,t,r,e,q⟩:=h
  rw [hrun] at e
  split at e
  ·obtain⟨tS,p1,p2⟩:=hbody f cdv A outer s H E hr
   refine⟨tS,p1,?_⟩
   have S0:=start_P (N:=N) r
   unfold runP at e
   split at e
   ·rename_i t0 ρ' e1
    cases e
    exact p2 ⟨K,H,[],[]⟩ H _ _ [] _ _ ρ' rfl (by simp) e1 S0 fun v σ' H' S1=>q v H' (end_P S1)
   ·rename_i ρ' e1
    cases e
    exact p2 ⟨K,H,[],[]⟩ H _ _ [] _ .nx ρ' rfl (by simp) e1 S0 fun σ' H' S1=>q .non H' (end_P (S1.imm zbc))
   ·cases e
  ·cases e
noncomputable def zwf (k:Nat) (ts:List T) (n:Nat):Rho:=(zwd ts n).set k (some ⟨.io 0,ts.getD k (.im .non)⟩)
noncomputable def runI (m:MS) (k n:Nat) (ts:List T):Option (T×T):=match m.run (zwf k ts n) with
 | some (.rt t,ρ')=>(match ρ'[k]? with
  | some (some ⟨.io 0,s'⟩)=>some (t,s')
  | _=>none)
 | some (.nx,ρ')=>(match ρ'[k]? with
  | some (some ⟨.io 0,s'⟩)=>some (.im .non,s')
  | _=>none)
 | _=>none
theorem start_LI {G:List Addr}(n m:Nat):∀ {ts:List T} {vs:List V} {k:Nat},vs.length=ts.length->(∀ (i:Nat) x u,vs[i]?=some x->ts[i]?=some u->∃ F,Rp K H u x F/\∀ a∈F,a ∉ G)->∃ L:List Hd,L.map (·.e)=ents k (vs.map some++List.replicate n none) ((ts.map fun t=>some (roR t))++List.replicate m none)/\L.flatMap Hd.own = []/\(∀ h∈L,Rp K H h.e.r.t h.e.v h.F/\∀ a∈h.F,a ∉ G)/\(∀ h∈L,(h.e.r.k = .ow/\h.F = []) ∨ h.e.r.k = .vw none none)
 | [],[],k,_,_=>⟨[],by simp [zzg],rfl,by simp,by simp⟩
 | t::ts,v::vs,k,hl,r=>by
  obtain⟨F,r1,r1'⟩:=r 0 v t rfl rfl
  obtain⟨L,h1,h2,h3,h4⟩:=start_LI (G:=G) n m (ts:=ts) (vs:=vs) (k:=k+1) (by simpa using hl) (fun i x u hx hu=>r (i+1) x u (by simpa using hx) (by simpa using hu))
  have hroR:∃ F',Rp K H (roR t).t v F'/\(∀ a∈F',a ∉ G)/\(((roR t).k = .ow/\F' = []) ∨ (roR t).k = .vw none none):=by
   cases t with
   | im i=>exact⟨[],zfj (zya r1).1,by simp,.inl ⟨rfl,rfl⟩⟩
   | _=>exact⟨F,r1,r1',.inr rfl⟩
  obtain⟨F',g1,g1',g2⟩:=hroR
  refine⟨⟨⟨some k,v,roR t⟩,F'⟩::L,by simp [ents,h1],?_,fun h hh=>?_,fun h hh=>?_⟩
  ·rw [List.flatMap_cons,h2,List.append_nil]
   unfold Hd.own
   rcases g2 with⟨e,rfl⟩ | e
   ·simp
   ·rw [show (⟨⟨some k,v,roR t⟩,F'⟩:Hd).e.r.k=(roR t).k from rfl,e];rfl
  ·rcases ycM hh with rfl | hh
   ·exact⟨g1,g1'⟩
   ·exact h3 h hh
  ·rcases ycM hh with rfl | hh
   ·rcases g2 with⟨e,rfl⟩ | e
    ·exact .inl ⟨e,rfl⟩
    ·exact .inr e
   ·exact h4 h hh
 | [],_::_,_,h,_=>by cases h
 | _::_,[],_,h,_=>by cases h
theorem start_I {ts:List T}{vs:List V}{N:List Str}{k:Nat}{G:List Addr}(hl:vs.length=ts.length)(hw:vs[k]?=some w)(hs:ts[k]?=some s)(rp:Rp K H s w G)(nd:G.Nodup)(mu:∀ a∈G,Mu H a)(ro:∀ (m:Nat) x u,m≠k->vs[m]?=some x->ts[m]?=some u->∃ F,Rp K H u x F/\∀ a∈F,a ∉ G):Sim ⟨K,H,G,[w]⟩ H (zwf k ts N.length) (start N vs) []:=by
 have hkl:k<ts.length:=(List.getElem?_eq_some_iff.mp hs).1
 have hl':(vs.set k .non).length=(ts.set k (.im .non)).length:=by simp [hl]
 obtain⟨L,h1,h2,h3,h4⟩:=start_LI (K:=K) (H:=H) (G:=G) (N.length - vs.length) (N.length - ts.length) (ts:=ts.set k (.im .non)) (vs:=vs.set k .non) (k:=0) hl' (fun m x u hx hu=>by
  by_cases e:m=k
  ·subst e
   simp [hl,hkl] at hx hu
   subst hx hu
   exact⟨[],zfj zbc,by simp⟩
  ·rw [List.getElem?_set_ne (Ne.symm e)] at hx hu
   exact ro m x u e hx hu)
 have eσ:(vs.set k .non).map some++List.replicate (N.length - vs.length) none=(start N vs).set k (some .non):=by
  unfold start
  rw [List.set_append_left _ _ (by simp [hl,hkl]),List.map_set]
 have eρ:((ts.set k (.im .non)).map fun t=>some (roR t))++List.replicate (N.length - ts.length) none=(zwd ts N.length).set k (some ⟨.ow,.im .non⟩):=by
  unfold zwd
  rw [List.set_append_left _ _ (by simp [hkl]),List.map_set]
  rfl
 rw [eσ,eρ] at h1
 have hkρ:k<(zwd ts N.length).length:=by simp [zwd];omega
 have hkσ:k<(start N vs).length:=by simp [start,hl];omega
 have p1:=zfg (k:=0) (σ:=start N vs) (ρ:=zwd ts N.length) (v:=.non) (r:=⟨.ow,.im .non⟩) hkσ hkρ
 rw [Nat.zero_add,← h1] at p1
 obtain⟨L2,pL,eL⟩:=perm_lift p1 L rfl
 obtain⟨x,L3,rfl,ex,e3⟩:=zw eL
 have inL:∀ h∈L3,h∈L:=fun h hh=>pL.mem_iff.mpr (ymC _ hh)
 have own3:L3.flatMap Hd.own = []:=by
  rw [List.flatMap_eq_nil_iff]
  intro h hh
  rw [List.flatMap_eq_nil_iff] at h2
  exact h2 h (inL h hh)
 have own1:((⟨⟨some k,w,⟨.io 0,s⟩⟩,G⟩:Hd)::L3).flatMap Hd.own=G:=by rw [List.flatMap_cons,own3,List.append_nil];rfl
 have ht:ts.getD k (.im .non)=s:=by rw [List.getD_eq_getElem?_getD,hs];rfl
 have eσ2:(start N vs).set k (some w)=start N vs:=by
  apply List.ext_getElem?
  intro m
  by_cases hm:m=k
  ·subst hm
   rw [List.getElem?_set_self hkσ]
   unfold start
   rw [List.getElem?_append_left (by simp [hl,hkl]),List.getElem?_map,hw];rfl
  ·rw [List.getElem?_set_ne (Ne.symm hm)]
 have p2:=zfg (k:=0) (σ:=start N vs) (ρ:=zwd ts N.length) (v:=w) (r:=⟨.io 0,s⟩) hkσ hkρ
 rw [Nat.zero_add,eσ2] at p2
 have gw:GW ⟨K,H,G,[w]⟩ H (⟨⟨some k,w,⟨.io 0,s⟩⟩,G⟩::L3):=by
  refine⟨by rw [own1];exact nd,fun a ha=>by rw [own1] at ha;exact⟨mu a ha,.inr ha⟩,fun h hh=>?_,fun h hh=>?_,?_,fun b o e _=>e,fun a ha=>let ⟨o,e,_⟩:=mu a ha;⟨o,e⟩⟩
  ·rcases ycM hh with rfl | hh
   ·exact rp
   ·exact (h3 h (inL h hh)).1
  ·rcases ycM hh with rfl | hh
   ·rfl
   ·unfold KdOk
    rcases h4 h (inL h hh) with⟨e,eF⟩ | e
    ·rw [e,eF];simp
    ·rw [e,own1];exact (h3 h (inL h hh)).2
  ·have e5:((⟨⟨some k,w,⟨.io 0,s⟩⟩,G⟩:Hd)::L3).filterMap (fun h=>h.e.key)=(x::L3).filterMap fun h=>h.e.key:=by rw [List.filterMap_cons,List.filterMap_cons,ex]
   rw [e5]
   have e6:((x::L3).filterMap fun h=>h.e.key)=((x::L3).map (·.e)).filterMap fun e=>e.key:=by rw [List.filterMap_map];rfl
   rw [e6,eL]
   have:=(p1.filterMap (fun e:En=>e.key)).nodup_iff.mp (by rw [h1];exact ents_ks)
   exact this
 refine⟨SimL.perm ⟨_,gw,rfl⟩ ?_,fun i r' h=>?_,?_,by simp⟩
 ·rw [List.map_cons,e3,List.nil_append]
  unfold zwf
  rw [ht]
  exact p2.symm
 ·unfold zwf at h
  rw [ht] at h
  by_cases e:i=k
  ·subst e
   refine⟨w,?_⟩
   unfold start
   rw [List.getElem?_append_left (by simp [hl,hkl]),List.getElem?_map,hw];rfl
  ·rw [List.getElem?_set_ne (Ne.symm e)] at h
   exact start_al hl i r' h
 ·simp [start,zwf,zwd,hl]
theorem end_I {H0:Hp}{G:List Addr}{w0:V}{k:Nat}{s':T}(S:Sim ⟨K,H0,G,[w0]⟩ H' ρ σ [⟨none,v,⟨.ow,t⟩⟩])(h : ρ[k]?=some (some ⟨.io 0,s'⟩)):∃ F G',OffM G H0 H'/\(∀ a∈G,∃ o,H' a=some o)/\(F++G').Nodup/\(∀ a∈F,H0 a=none/\Mu H' a)/\(∀ a∈G',(a∈G ∨ H0 a=none)/\Mu H' a)/\Rp K H' s' w0 G'/\Rp K H' t v F:=by
 obtain⟨w,hw,hm⟩:=S.slot h
 obtain⟨L,g,e⟩:=S.sl
 rw [List.cons_append] at e hm
 obtain⟨x,L',rfl,ex,e2⟩:=zw e
 have hm':(⟨some k,w,⟨.io 0,s'⟩⟩:En)∈L'.map (·.e):=by
  rw [e2]
  rcases ycM hm with z | z
  ·cases z
  ·exact z
 obtain⟨y,hy,ey⟩:=List.mem_map.mp hm'
 have rpx:=g.rp x ymS
 rw [ex] at rpx
 have rpy:=g.rp y (ymC _ hy)
 rw [ey] at rpy
 have kx:=g.kd x ymS
 unfold KdOk at kx
 rw [ex] at kx
 have ky:=g.kd y (ymC _ hy)
 unfold KdOk at ky
 rw [ey] at ky
 have ew:w0=w:=by simpa using ky
 subst ew
 have hox:x.e.r.k.isOw=true:=by rw [ex];rfl
 have hoy:y.e.r.k.isOw=true:=by rw [ey];rfl
 refine⟨x.F,y.F,fun b o hb n=>g.fr b o hb n,g.iol,?_,fun a ha=>⟨kx a ha,g.muF ymS hox a ha⟩,fun a ha=>?_,rpy,rpx⟩
 ·have nd:=g.nd
  rw [List.flatMap_cons] at nd
  have nx:x.own=x.F:=by unfold Hd.own;rw [if_pos hox]
  rw [nx] at nd
  have nn:=List.nodup_append.mp nd
  exact List.nodup_append.mpr ⟨nn.1,g.ndF (ymC _ hy) hoy,fun a ha b hb=>nn.2.2 a ha b (List.mem_flatMap.mpr ⟨y,hy,zpi hoy hb⟩)⟩
 ·have:=g.ad a (List.mem_flatMap.mpr ⟨y,ymC _ hy,zpi hoy ha⟩)
  exact⟨this.2.symm,this.1⟩
theorem Def.mi {P:Program}{W:World}{mg:Str->Option Value}{base:Heap}{k:Nat}{name:Str}{st:Stmt}{N ps:List Str}{j:Nat}(d:Def K mg name st ps)(S:FnScope N ps (zm st)){m:MS}
  (hbody:∀ (f:Addr) (cdv:Value) (A:Around) (outer:List Env) (s:Shared) (H:Hp) (E:XK),Room k (A.deeper (envOfC name (zm st) s.heap.objs.size f cdv))->PMSs (cxOf CX0 P W K mg base N name (zm st) f cdv A outer s H E).nox (zkb st) m)
  {run:List T->Option (T×T)} (hrun:∀ ts,run ts=if ts.length=ps.length then runI m j N.length ts else none):Has P W K mg base (k+1) name ps (spI K j run):=by
 refine d.has S (fun vs H Q E h=>?_) (fun f cdv A outer s H vs Q E hr h=>?_)
 ·obtain⟨ts,s0,w,G,t,s',hl,_,_,_,_,_,_,e,_⟩:=h
  rw [hrun] at e
  split at e
  ·rename_i h2;rw [hl,h2]
  ·cases e
 ·obtain⟨ts,s0,w,G,t,s',hl,hw,hs,rp,nd,mu,ro,e,q⟩:=h
  rw [hrun] at e
  split at e
  ·obtain⟨tS,p1,p2⟩:=hbody f cdv A outer s H E hr
   refine⟨tS,p1,?_⟩
   have S0:=start_I (N:=N) hl hw hs rp nd mu ro
   unfold runI at e
   split at e
   ·rename_i t0 ρ' e1
    split at e
    ·rename_i s1 e2
     cases e
     refine p2 ⟨K,H,G,[w]⟩ H _ _ [] _ _ ρ' rfl (by simp) e1 S0 fun v σ' H' S1=>?_
     obtain⟨F,G',a1,a2,a3,a4,a5,a6,a7⟩:=end_I S1 e2
     exact q v H' F G' a1 a2 a3 a4 a5 a6 a7
    ·cases e
   ·rename_i ρ' e1
    split at e
    ·rename_i s1 e2
     cases e
     refine p2 ⟨K,H,G,[w]⟩ H _ _ [] _ .nx ρ' rfl (by simp) e1 S0 fun σ' H' S1=>?_
     obtain⟨F,G',a1,a2,a3,a4,a5,a6,a7⟩:=end_I (S1.imm zbc) e2
     exact q .non H' F G' a1 a2 a3 a4 a5 a6 a7
    ·cases e
   ·cases e
  ·cases e
end
structure CK {ι : Type}(C:ι->Cx)(P:Program)(W:World)(K:yF)(mg:Str->Option Value)(base:Heap)(k:Nat):Prop where
 prog:∀ i,(C i).prog=P
 w:∀ i,(C i).w=W
 kk:∀ i,(C i).K=K
 mg:∀ i,(C i).mg=mg
 base:∀ i,(C i).base=base
 calm:∀ i,(C i).calm=true
 room:∀ i,Room k (C i).A
variable  {ι : Type}{C:ι->Cx}{P:Program}{W:World}{K:yF}{mg:Str->Option Value}{base:Heap}{k:Nat}
noncomputable abbrev blkC (C:ι->Cx) (scope:Scope) (N':List Str):ι×Bk->Cx:=fun p=>cxB (C p.1) scope N' p.2
theorem CK.blk (ck:CK C P W K mg base k){scope:Scope}{N':List Str}:CK (blkC C scope N') P W K mg base k:=
 ⟨fun p=>ck.prog p.1,fun p=>ck.w p.1,fun p=>ck.kk p.1,fun p=>ck.mg p.1,fun p=>ck.base p.1,fun p=>ck.calm p.1,fun p=>ck.room p.1⟩
structure QE (C:ι->Cx)(K:yF)(e:Expr)(m:ME):Prop where
 ex:∃ te,(∀ i,PE (C i) e te)/\RefE K te m
structure QT (C:ι->Cx)(K:yF)(e:Expr)(m:MT):Prop where
 ex:∃ te,(∀ i,PT (C i) e te)/\RefT K te m
structure QW (C:ι->Cx)(K:yF)(e:Expr)(m:MT):Prop where
 ex:∃ te,(∀ i,PW (C i) e te)/\RefT K te m
structure QTs (C:ι->Cx)(K:yF)(e:List Expr)(m:MT):Prop where
 ex:∃ te,(∀ i,PTs (C i) e te)/\RefT K te m
structure QA (C:ι->Cx)(K:yF)(es:List Expr)(m:MA):Prop where
 ex:∃ ta,(∀ i,PA (C i) es ta)/\zgb es=true/\RefA K ta m
structure QS (C:ι->Cx)(K:yF)(st:Stmt)(m:MS):Prop where
 ex:∃ ts,(∀ i,PS (C i) st ts)/\RefS K ts m
structure QSs (C:ι->Cx)(K:yF)(st:List Stmt)(m:MS):Prop where
 ex:∃ ts,(∀ i,PSs (C i) st ts)/\RefS K ts m
structure QG (C:ι->Cx)(K:yF)(fr:Option (List (Option Nat)))(e:Expr)(m:MG):Prop where
 ex:∃ g,(∀ i,PG (C i) e g)/\RefG K g m/\∀ f,fr=some f->GKeep f g
structure QGs (C:ι->Cx)(K:yF)(fr:Option (List (Option Nat)))(n:Nat)(es:List Expr)(m:MGs):Prop where
 ex:∃ g,(∀ i,PGs (C i) es g)/\zim K g m/\(∀ f,fr=some f->GKeeps f g)/\(∀ rs ρ ρ',m.run rs ρ=some ρ'->rs.length=n)
structure QI (C:ι->Cx)(K:yF)(tg e:Expr)(m:MI):Prop where
 ex:∃ wi,(∀ i,PI (C i) tg e wi)/\RefI K wi m
structure QO (C:ι->Cx)(K:yF)(e:Option Expr)(m:MO):Prop where
 ex:∃ t,(∀ i,PO (C i) e t)/\RefO K t m
section
variable  {a b c e o:Expr}{es:List Expr}{ma mb mc m:ME}{ms:MA}{pos:Pos}{mt mt':MT}
theorem zg {i:Int}{j:Nat}:QE C K (.Constant (.int i) j pos) (mC (.int i)):=⟨_,fun _=>pe_int,zen rfl⟩
theorem q_bl {x:Bool}{j:Nat}:QE C K (.Constant (.bool x) j pos) (mC (.bl x)):=⟨_,fun _=>pe_bl,zen rfl⟩
theorem zhb {x:Str}{j:Nat}:QE C K (.Constant (.str x) j pos) (mC (.str x)):=⟨_,fun _=>pe_str,zen rfl⟩
theorem zj (n:Nat){x:Str}(hN:∀ i,(C i).N[n]?=some x:=by intro _;rfl)(hv:∀ i,Vis (C i).env.scope x:=by first | exact fun _=>Or.inl rfl | exact fun _=>Or.inr (Or.inl rfl) | exact fun _=>Or.inr (Or.inr rfl))(hd:(x == ("__debug__" : Str))=false:=by decide)(hcd:(x == ("__classdict__" : Str))=false:=by decide):QE C K (.Name x pos) (mVar n):=⟨_,fun i=>pe_var (hN i) (hv i) hd hcd,ref_var⟩
theorem zze (ck:CK C P W K mg base k){x:Str}{v:V}{i0:I}(h:Glob mg x v)(hs:i0.sc=some v)(hg:∀ i,Gl (C i) x:=by intro _;rfl)(hd:(x == ("__debug__" : Str))=false:=by decide):QE C K (.Name x pos) (mC i0):=
 ⟨_,fun i=>pe_globV (by rw [ck.mg i];exact h) (hg i) hd,zen hs⟩
theorem q_globT (ck:CK C P W K mg base k){x:Str}{a:Addr}{xs:List V}{is:List I}(h:Glob mg x (.ref a))(ht:TupAt K a xs)(hr:∀ H,RpIs K H is xs)(hg:∀ i,Gl (C i) x:=by intro _;rfl)(hd:(x == ("__debug__" : Str))=false:=by decide):QE C K (.Name x pos) (mC (.tup is)):=by with_unfolding_all
 refine⟨_,fun i=>pe_globV (by rw [ck.mg i];exact h) (hg i) hd,?_⟩
 intro Γ H ρ σ E Q r ρ' hK hr' S q
 cases hr'
 refine q _ H ?_
 rw [show (mC (.tup is)).mu = [] from rfl,zqb]
 refine S.imm ?_
 rw [RpI]
 exact⟨a,xs,rfl,by rw [hK];exact ht.sq,by rw [hK];exact hr H⟩
theorem zd:QA C K [] mNil:=⟨_,fun _=>pa_nil,rfl,ref_nil⟩
theorem zb (h1:QE C K e m)(h2:QA C K es ms)(hs:zqf e=false:=by rfl):QA C K (e::es) (ze m ms):=by
 obtain⟨te,a,b⟩:=h1
 obtain⟨ta,c,n,d⟩:=h2
 exact⟨_,fun i=>pa_consF (a i) (c i) hs,by rw [zgb,hs,n];rfl,ref_cons b d⟩
theorem q_op {op:Operator}{red:yF->R2}{f:T->T->Option T}(ck:CK C P W K mg base k)(ho:∀ X:Cx,OpR X (binaryOp op) (red X.K))(hp:Prim2 K (red K) f)(ha:QE C K a ma)(hb:QE C K b mb):QE C K (.BinOp a op b pos) (mOp f ma mb):=by
 obtain⟨ta,p,r⟩:=ha
 obtain⟨tb,p',r'⟩:=hb
 exact⟨_,fun i=>pe_op (r:=red K) (by have:=ho (C i);rw [ck.kk i] at this;exact this) (p i) (p' i),zum hp r r'⟩
theorem zqa (ck:CK C P W K mg base k)(ha:QE C K a ma)(hb:QE C K b mb):QE C K (.BinOp a .Add b pos) (mOp addT ma mb):=q_op ck (red:=zrn) (fun _=>op_addY) prim_add ha hb
theorem ztc (ck:CK C P W K mg base k)(ha:QE C K a ma)(hb:QE C K b mb):QE C K (.BinOp a .Sub b pos) (mOp subT ma mb):=q_op ck (red:=fun _=>rI0 fun i j=>.int (i - j)) (fun _=>op_sub) prim_sub ha hb
theorem zhe (ck:CK C P W K mg base k)(ha:QE C K a ma)(hb:QE C K b mb):QE C K (.BinOp a .Mult b pos) (mOp mulT ma mb):=q_op ck (red:=zun) (fun _=>op_mulY) prim_mul ha hb
theorem zrk (ck:CK C P W K mg base k)(ha:QE C K a ma)(hb:QE C K b mb):QE C K (.BinOp a .FloorDiv b pos) (mOp zpj ma mb):=q_op ck (red:=fun _=>rI CDiv64 fun i j=>.int (i / j)) (fun _=>op_fdiv64) prim_fdiv ha hb
theorem zvf (ck:CK C P W K mg base k)(ha:QE C K a ma)(hb:QE C K b mb):QE C K (.BinOp a .Mod b pos) (mOp modT ma mb):=q_op ck (red:=fun _=>rI (fun _ j=>0<j) fun i j=>.int (i % j)) (fun _=>op_mod) prim_mod ha hb
theorem zqn (ck:CK C P W K mg base k)(ha:QE C K a ma)(hb:QE C K b mb):QE C K (.BinOp a .Pow b pos) (mOp powT ma mb):=q_op ck (red:=fun _=>rI CPow fun i j=>.int (i ^ j.toNat)) (fun _=>op_pow) prim_pow ha hb
def zwg (op:CmpOp)(f:T->T->Option T):Prop:=∃ red:yF->R2,(∀ X:Cx,X.A.units+64<cLine->OpR X (compareOp op) (red X.K))/\∀ K,Prim2 K (red K) f
theorem c_lt:zwg .Lt (cmpT fun i j=>decide (i<j)):=⟨fun _=>_,fun _ _=>op_lt,fun _=>zrh⟩
theorem c_le:zwg .LtE (cmpT fun i j=>decide (i<=j)):=⟨fun _=>_,fun _ _=>op_le,fun _=>zrh⟩
theorem c_gt:zwg .Gt (cmpT fun i j=>decide (j<i)):=⟨fun _=>_,fun _ _=>op_gt,fun _=>zrh⟩
theorem c_ge:zwg .GtE (cmpT fun i j=>decide (j<=i)):=⟨fun _=>_,fun _ _=>op_ge,fun _=>zrh⟩
theorem c_eq:zwg .Eq eqT:=⟨rEqX,fun _ hu=>op_eqX hu,fun _=>prim_eq⟩
theorem c_ne:zwg .NotEq neT:=⟨rNeX,fun _ hu=>op_neX hu,fun _=>prim_ne⟩
theorem c_in:zwg .In inT:=⟨rInX,fun _ hu=>op_inX hu,fun _=>prim_in⟩
theorem c_nin:zwg .NotIn ninT:=⟨znl,fun _ hu=>op_notInX hu,fun _=>prim_nin⟩
noncomputable def isNon:T->Bool
 | .im .non=>true
 | _=>false
noncomputable def isB:T->T->Option Bool
 | .im (.bl a),.im (.bl b)=>some (decide (a=b))
 | t,.im .non=>some (isNon t)
 | _,_=>none
theorem isNon_ok {H:Hp}{x:V}:∀ {t:T},Rpx K H t x->isNon t=decide (x = .non)
 | .im i,r=>by
  have h:=zeh r
  cases i<;>rw [RpI] at h
  ·rw [h];rfl
  ·rw [h];rfl
  ·rw [h];rfl
  ·rw [h];rfl
  ·obtain⟨a,xs,rfl,_⟩:=h;rfl
 | .tup ts,r=>by obtain⟨a,xs,F,rfl,_⟩:=zsl r;rfl
 | .li ts,r=>by obtain⟨a,xs,rfl,_⟩:=zpe r;rfl
 | .lst ts,r=>by obtain⟨a,xs,F,rfl,_⟩:=zlh r;rfl
 | .di ts,r=>by obtain⟨F,r⟩:=r;rw [Rp] at r;obtain⟨a,xs,rfl,_⟩:=r;rfl
 | .dc ts,r=>by obtain⟨F,r⟩:=r;rw [Rp] at r;obtain⟨a,xs,F',rfl,_⟩:=r;rfl
 | .ins C ts,r=>by obtain⟨F,r⟩:=r;rw [Rp] at r;obtain⟨a,dx,xs,F',rfl,_⟩:=r;rfl
@[irreducible] noncomputable def nisT (x y:T):Option T:=(isB x y).map fun b=>.im (.bl !b)
theorem isB_ok {H:Hp}{x y:V}{tx ty:T}{b:Bool}(rx:Rpx K H tx x)(ry:Rpx K H ty y)(e:isB tx ty=some b):(∃ i j,x = .bl i/\y = .bl j/\b=decide (i=j)) ∨ (y = .non/\b=decide (x = .non)):=by
 unfold isB at e
 split at e
 ·cases e;exact .inl ⟨_,_,zrl rx,zrl ry,rfl⟩
 ·cases e;exact .inr ⟨rx_non ry,isNon_ok rx⟩
 ·cases e
theorem c_nis:zwg .IsNot nisT:=by
 refine⟨fun _ x y H Q=>rIsB true x y H Q ∨ (y = .non/\Q (.bl (!decide (x = .non))) H),fun X _=>op_isnotB.or op_notN,fun K H x y tx ty t Q rx ry e q=>?_⟩
 unfold nisT at e
 cases h:isB tx ty with
 | none=>rw [h] at e;cases e
 | some b=>
  rw [h] at e;cases e
  rcases isB_ok rx ry h with⟨i,j,rfl,rfl,rfl⟩ | ⟨rfl,rfl⟩
  ·exact .inl ⟨i,j,rfl,rfl,q _ H (.sc rfl)⟩
  ·exact .inr ⟨rfl,q _ H (.sc rfl)⟩
theorem zdn {op:CmpOp}{f:T->T->Option T}(ck:CK C P W K mg base k)(hc:zwg op f)(ha:QE C K a ma)(hb:QE C K b mb)(hm:behindInMarks op b=false):QE C K (.Compare a [op] [b] pos) (mOp f ma mb):=by
 obtain⟨red,ho,hp⟩:=hc
 obtain⟨ta,p,r⟩:=ha
 obtain⟨tb,p',r'⟩:=hb
 exact⟨_,fun i=>pe_cmpR (r:=red K) (by have:=ho (C i) (ck.room i).units;rw [ck.kk i] at this;exact this) (p i) (p' i) hm,zum (hp K) r r'⟩
theorem zma {op:CmpOp}{f:T->T->Option T}(ck:CK C P W K mg base k)(hc:zwg op f)(ha:QE C K a ma)(hb:QE C K b mb)(hm:behindInMarks op b=false):QT C K (.Compare a [op] [b] pos) (zoa (mOp f ma mb)):=by
 obtain⟨red,ho,hp⟩:=hc
 obtain⟨ta,p,r⟩:=ha
 obtain⟨tb,p',r'⟩:=hb
 exact⟨_,fun i=>pt_cmpR (r:=red K) (by have:=ho (C i) (ck.room i).units;rw [ck.kk i] at this;exact this) (p i) (p' i) hm,zek (zum (hp K) r r')⟩
@[irreducible] noncomputable def zte (f f':T->T->Option T)(a b c:ME):ME:=⟨fun ρ=>match a.run ρ with
 | some (ra,ρ1)=>match b.run ρ1 with
  | some (rb,ρ2)=>if (alive b.mu ra && alive c.mu rb)=true then (match f ra.t rb.t with
   | some (.im (.bl true))=>(match c.run ρ2 with
    | some (rc,ρ3)=>(match f' rb.t rc.t with
     | some t=>some (⟨.ow,t⟩,ρ3)
     | none=>none)
    | none=>none)
   | some (.im (.bl false))=>some (⟨.ow,.im (.bl false)⟩,ρ2)
   | _=>none) else none
  | none=>none
 | none=>none,a.mu++(b.mu++c.mu)⟩
theorem ref_chain {red red':R2}{f f':T->T->Option T}{ta tb tc:TE}(hp:Prim2 K red f)(hp':Prim2 K red' f')(ha:RefE K ta ma)(hb:RefE K tb mb)(hc:RefE K tc mc):RefE K (tChain red red' ta tb tc) (zte f f' ma mb mc):=by
 intro Γ H ρ σ E Q r ρ' hK hr S q
 simp only [zte] at hr q
 split at hr
 ·rename_i ra ρ1 e1
  split at hr
  ·rename_i rb ρ2 e2
   split at hr
   ·rename_i al
    rw [Bool.and_eq_true] at al
    refine ha Γ H ρ σ E _ ra ρ1 hK e1 S fun x H1 S1=>?_
    refine hb Γ H1 ρ1 σ _ _ rb _ hK e2 S1 fun y H2 S2=>?_
    rw [zt (zab al.1),zi] at S2
    have r1:=S2.rd (ymC _ ymS)
    have r2:=S2.rd ymS
    rw [hK] at r1 r2
    split at hr
    ·rename_i e3
     refine hp H2 x y ra.t rb.t _ _ r1 r2 e3 fun z H3 n=>⟨true,?_,iteT ?_⟩
     ·obtain⟨_,F,rz,_⟩:=n;exact zrl ⟨F,rz⟩
     ·split at hr
      ·rename_i rc ρ3 e4
       split at hr
       ·rename_i t e5
        cases hr
        have sm:=n.1
        have S3:=(S2.swap.drop rfl).same sm
        refine hc Γ H3 ρ2 σ _ _ rc _ hK e4 S3 fun w H4 S4=>?_
        rw [zt (zab al.2),zi] at S4
        have r3:=S4.rd (ymC _ ymS)
        have r4:=S4.rd ymS
        rw [hK] at r3 r4
        refine hp' H4 y w rb.t rc.t t Q r3 r4 e5 fun v H5 n2=>q v H5 ?_
        rw [← hK] at n2
        rw [← List.append_assoc]
        exact ((S4.drop rfl).drop rfl).fresh n2
       ·cases hr
      ·cases hr
    ·rename_i e3
     cases hr
     refine hp H2 x y ra.t rb.t _ _ r1 r2 e3 fun z H3 n=>⟨false,?_,iteF (q _ H3 ?_)⟩
     ·obtain⟨_,F,rz,_⟩:=n;exact zrl ⟨F,rz⟩
     ·rw [← List.append_assoc,← zi]
      exact ((((S2.drop rfl).drop rfl).same n.1).weak _).imm (zvk rfl)
    ·cases hr
   ·cases hr
  ·cases hr
 ·cases hr
theorem zqg {op op':CmpOp}{f f':T->T->Option T}(ck:CK C P W K mg base k)(hc:zwg op f)(hc':zwg op' f')(ha:QE C K a ma)(hb:QE C K b mb)(hcc:QE C K c mc)(hm:lastMarks [op,op'] [b,c]=false:=by with_unfolding_all rfl):QT C K (.Compare a [op,op'] [b,c] pos) (zoa (zte f f' ma mb mc)):=by
 obtain⟨red,ho,hp⟩:=hc
 obtain⟨red',ho',hp'⟩:=hc'
 obtain⟨ta,p,r⟩:=ha
 obtain⟨tb,p',r'⟩:=hb
 obtain⟨tc,p'',r''⟩:=hcc
 exact⟨_,fun i=>pt_chain (r:=red K) (r':=red' K) (by have:=ho (C i) (ck.room i).units;rw [ck.kk i] at this;exact this) (by have:=ho' (C i) (ck.room i).units;rw [ck.kk i] at this;exact this) (p i) (p' i) (p'' i) hm,zek (ref_chain (hp K) (hp' K) r r' r'')⟩
theorem qt_val (ha:QE C K e m)(he:∀ i whole,isTrue e (C i).env whole=(do let v ← whole;standAt e.pos;holding [v] (truthy v)):=by intro _ _;rfl):QT C K e (zoa m):=by
 obtain⟨ta,p,r⟩:=ha
 exact⟨_,fun i=>pt_val (p i) (he i),ref_tB r⟩
theorem qt_tru (ck:CK C P W K mg base k)(ha:QE C K e m)(he:∀ i whole,isTrue e (C i).env whole=(do let v ← whole;standAt e.pos;holding [v] (truthy v)):=by intro _ _;rfl):QT C K e (mTru m):=by
 obtain⟨ta,p,r⟩:=ha
 exact⟨_,fun i=>truK (ck.kk i) (p i) (he i),ref_tru r⟩
theorem zkj (ha:QT C K a mt):QT C K (.UnaryOp .Not a pos) (mNot mt):=by
 obtain⟨ta,p,r⟩:=ha
 exact⟨_,fun i=>pt_not (p i),ref_not r⟩
theorem zti (ha:QT C K a mt):QW C K (.BoolOp .And [a] pos) mt:=by
 obtain⟨ta,p,r⟩:=ha
 exact⟨_,fun i=>pw_and1 (p i),r⟩
theorem qw_or1 (ha:QT C K a mt):QW C K (.BoolOp .Or [a] pos) mt:=by
 obtain⟨ta,p,r⟩:=ha
 exact⟨_,fun i=>pw_or1 (p i),r⟩
theorem zsk {rest:List Expr}(ha:QT C K a mt)(hb:QW C K (.BoolOp .And (b::rest) pos) mt'):QW C K (.BoolOp .And (a::b::rest) pos) (mAnd mt mt'):=by
 obtain⟨ta,p,r⟩:=ha
 obtain⟨tb,p',r'⟩:=hb
 exact⟨_,fun i=>pw_and (p i) (p' i),ref_and r r'⟩
theorem qw_or {rest:List Expr}(ha:QT C K a mt)(hb:QW C K (.BoolOp .Or (b::rest) pos) mt'):QW C K (.BoolOp .Or (a::b::rest) pos) (mOr mt mt'):=by
 obtain⟨ta,p,r⟩:=ha
 obtain⟨tb,p',r'⟩:=hb
 exact⟨_,fun i=>pw_or (p i) (p' i),ref_or r r'⟩
theorem QW.t (h:QW C K e mt):QT C K e mt:=by
 obtain⟨ta,p,r⟩:=h
 exact⟨_,fun i=>(p i).pt,r⟩
theorem zlb (mv:List Nat)(h:QA C K es ms):QE C K (.List es pos) (zcb mv ms):=by
 obtain⟨ta,p,_,r⟩:=h
 exact⟨_,fun i=>pe_lst (p i),ref_lstD r⟩
theorem zda (mv:List Nat){x1:Nat}(h:QA C K es ms):QE C K (.Tuple es x1 pos) (zz mv ms):=by
 obtain⟨ta,p,_,r⟩:=h
 exact⟨_,fun i=>pe_tup (p i),ref_tupD r⟩
theorem q_ix (ck:CK C P W K mg base k)(ha:QE C K a ma)(hb:QE C K b mb)(hs:PlainIx b:=by exact fun _ _=>rfl):QE C K (.Subscript a b pos) (mIx ma mb):=by
 obtain⟨ta,p,r⟩:=ha
 obtain⟨tb,p',r'⟩:=hb
 exact⟨_,fun i=>pe_ix (ix_K (ck.kk i)) (p i) (p' i) hs,ref_ix r r'⟩
theorem zie:QO C K none mNoPart:=⟨_,fun _=>po_none,ref_noPart⟩
theorem zje (h:QE C K e m):QO C K (some e) (zkg m):=by
 obtain⟨ta,p,r⟩:=h
 exact⟨_,fun i=>zkl (p i),ref_part r⟩
theorem q_sl {lo hi:Option Expr}{ml mh:MO}{p2:Pos}(ck:CK C P W K mg base k)(ha:QE C K a ma)(hl:QO C K lo ml)(hh:QO C K hi mh):QE C K (.Subscript a (.Slice lo hi none p2) pos) (mSl ma ml mh):=by
 obtain⟨ta,p,r⟩:=ha
 obtain⟨tl,p',r'⟩:=hl
 obtain⟨th,p'',r''⟩:=hh
 exact⟨_,fun i=>pe_slice (r:=rSl K) (by have:=sl_X (X:=C i);rw [ck.kk i] at this;exact this) (p i) (p' i) (p'' i),ref_sl r r' r''⟩
theorem q_rev {j:Nat}{p1 p2 p3:Pos}(ck:CK C P W K mg base k)(ha:QE C K a ma):QE C K (.Subscript a (.Slice none none (some (.UnaryOp .USub (.Constant (.int 1) j p1) p2)) p3) pos) (mUn revT ma):=by
 obtain⟨ta,p,r⟩:=ha
 exact⟨_,fun i=>revK (ck.kk i) (p i),ref_rev r⟩
theorem zog {x:Str}{p:Pos}{j:Nat}{ps:List Str}{run:List T->Option T}(ck:CK C P W K mg base k)(h:Has P W K mg base j x ps (spP K run))(ha:QA C K (e::es) ms)(hj:j<=k:=by first | decide | omega)(hg:∀ i,Gl (C i) x:=by intro _;rfl)(hdb:(x == ("__debug__" : Str))=false:=by decide):QE C K (.Call (.Name x p) (e::es) [] pos) (mB run ms):=by
 obtain⟨ta,q,n,r⟩:=ha
 refine⟨_,fun i=>zrm (by rw [ck.prog i,ck.w i,ck.kk i,ck.mg i,ck.base i];exact h) ((ck.room i).mono hj) (hg i) (q i) n hdb,ref_callP r⟩
theorem zca (l:Nat){x:Str}{p:Pos}{j n0:Nat}{ps:List Str}{run:List T->Option (T×T)}(ck:CK C P W K mg base k)(h:Has P W K mg base j x ps (spI K n0 run))(ha:QA C K (e::es) ms)(hj:j<=k:=by first | decide | omega)(hg:∀ i,Gl (C i) x:=by intro _;rfl)(hdb:(x == ("__debug__" : Str))=false:=by decide):QE C K (.Call (.Name x p) (e::es) [] pos) (zq n0 l run ms):=by
 obtain⟨ta,q,n,r⟩:=ha
 refine⟨_,fun i=>zrm (by rw [ck.prog i,ck.w i,ck.kk i,ck.mg i,ck.base i];exact h) ((ck.room i).mono hj) (hg i) (q i) n hdb,ref_callI r⟩
def zhm (x:Str)(f:List T->Option T):Prop:=∃ (id:String) (red:yF->List V->Hp->VK->Prop),bootBuiltins x=some (.builtin id)/\(∀ X:Cx,X.calm=true->CallR X (.builtin id) (red X.K))/\∀ K,zbj K (red K) f
def TyOk (x:Str)(f:List T->Option T):Prop:=∃ (id:String) (red:yF->List V->Hp->VK->Prop),bootBuiltins x=some (.type id)/\(∀ X:Cx,X.calm=true->CallR X (.type id) (red X.K))/\∀ K,zbj K (red K) f
theorem zvb {x:Str}{p:Pos}{f:List T->Option T}(ck:CK C P W K mg base k)(hb:zhm x f)(hm:mg x=none)(ha:QA C K (e::es) ms)(hg:∀ i,Gl (C i) x:=by intro _;rfl)(hx:x≠("__name__" : Str):=by decide)(hdb:(x == ("__debug__" : Str))=false:=by decide):QE C K (.Call (.Name x p) (e::es) [] pos) (mB f ms):=by
 obtain⟨id,red,b1,b2,b3⟩:=hb
 obtain⟨ta,q,n,r⟩:=ha
 exact⟨_,fun i=>pe_callBF (r:=red K) (by have:=b2 (C i) (ck.calm i);rw [ck.kk i] at this;exact this) (hg i) (by rw [ck.mg i];exact hm) b1 (q i) n hx hdb,zvn (b3 K) r⟩
theorem q_ty {x:Str}{p:Pos}{f:List T->Option T}(ck:CK C P W K mg base k)(hb:TyOk x f)(hm:mg x=none)(ha:QA C K (e::es) ms)(hg:∀ i,Gl (C i) x:=by intro _;rfl)(hx:x≠("__name__" : Str):=by decide)(hdb:(x == ("__debug__" : Str))=false:=by decide):QE C K (.Call (.Name x p) (e::es) [] pos) (mB f ms):=by
 obtain⟨id,red,b1,b2,b3⟩:=hb
 obtain⟨ta,q,n,r⟩:=ha
 exact⟨_,fun i=>pe_callTyF (r:=red K) (by have:=b2 (C i) (ck.calm i);rw [ck.kk i] at this;exact this) (hg i) (by rw [ck.mg i];exact hm) b1 (q i) n hx hdb,zvn (b3 K) r⟩
theorem b_len:zhm "len" lenT:=⟨_,ztn,PySem.boot_len,fun _ _=>call_lenX,fun _=>prim_len⟩
theorem b_min:zhm "min" minT:=⟨_,fun _=>_,PyProof.Rows.boot_min,fun _ h=>call_min2 h,fun _=>prim_min⟩
theorem b_max:zhm "max" maxT:=⟨_,fun _=>_,PyProof.Rows.boot_max,fun _ h=>call_max2 h,fun _=>prim_max⟩
theorem b_all:zhm "all" allT:=⟨_,rAll,PyProof.Rows.boot_all,fun _ h=>call_all h,fun _=>prim_all⟩
theorem b_int:TyOk "int" intT:=⟨_,fun _=>_,PyProof.Rows.boot_int,fun _ _=>call_int1,fun _=>prim_int⟩
theorem b_tuple:TyOk "tuple" tupT:=⟨_,rTupOf,PyProof.Rows.boot_tuple,fun _ _=>call_tuple_of,fun _=>prim_tup⟩
theorem b_list:TyOk "list" lstT:=⟨_,rLstOf,PyProof.Rows.boot_list,fun _ _=>call_list_of,fun _=>prim_lst⟩
def MethOk (T0:String)(name:Str)(f:T->List T->Option T):Prop:=∃ (id:String) (red:yF->V->List V->Hp->VK->Prop),PlainAttrs T0/\Slot T0 name id/\typeOf (.builtin id)=pure (.type "method_descriptor")/\(∀ X:Cx,MtR X id (red X.K))/\(∀ K,zkn K T0 (red K) f)/\∀ K (H:Hp) (x:V) (tx:T) ts t,Rpx K H tx x->f tx ts=some t->tyV K T0 x H
def zbm (T0:String)(name:Str)(f:T->List T->Option (T×I)):Prop:=∃ (id:String) (red:yF->V->List V->Hp->VK->Prop),PlainAttrs T0/\Slot T0 name id/\typeOf (.builtin id)=pure (.type "method_descriptor")/\(∀ X:Cx,MtR X id (red X.K))/\(∀ K,zqe K (red K) f)/\∀ K (H:Hp) (x:V) (tx:T) ts r,Rpx K H tx x->f tx ts=some r->tyV K T0 x H
theorem q_meth {T0:String}{name:Str}{f:T->List T->Option T}{apos:Pos}{mo:ME}(ck:CK C P W K mg base k)(hm:MethOk T0 name f)(ho:QE C K o mo)(ha:QA C K (e::es) ms)(hlen:decide ((e::es).length<30)=true:=by rfl)
  (hbase:∀ i,attributeBase o name (C i).env (eval o (C i).env)=eval o (C i).env:=by intro _;rfl) (hline:(apos.endLine == pos.line)=true:=by rfl):QE C K (.Call (.Attribute o name apos) (e::es) [] pos) (mM f mo ms):=by
 obtain⟨id,red,h1,h2,h3,h4,h5,h6⟩:=hm
 obtain⟨to,q,r⟩:=ho
 obtain⟨ta,q',n,r'⟩:=ha
 exact⟨_,fun i=>bmKF (r:=red K) (ck.kk i) h1 h2 h3 (by have:=h4 (C i);rw [ck.kk i] at this;exact this) (q i) (q' i) n hlen (hbase i) hline,ref_M (h5 K) (h6 K) r r'⟩
theorem zoe (l:Nat)(mv:List Nat){T0:String}{name:Str}{f:T->List T->Option (T×I)}{apos:Pos}{mo:ME}(ck:CK C P W K mg base k)(hm:zbm T0 name f)(ho:QE C K o mo)(ha:QA C K (e::es) ms)(hlen:decide ((e::es).length<30)=true:=by rfl)
  (hbase:∀ i,attributeBase o name (C i).env (eval o (C i).env)=eval o (C i).env:=by intro _;rfl) (hline:(apos.endLine == pos.line)=true:=by rfl):QE C K (.Call (.Attribute o name apos) (e::es) [] pos) (mMut l mv f mo ms):=by
 obtain⟨id,red,h1,h2,h3,h4,h5,h6⟩:=hm
 obtain⟨to,q,r⟩:=ho
 obtain⟨ta,q',n,r'⟩:=ha
 exact⟨_,fun i=>bmKF (r:=red K) (ck.kk i) h1 h2 h3 (by have:=h4 (C i);rw [ck.kk i] at this;exact this) (q i) (q' i) n hlen (hbase i) hline,ref_mut (h5 K) (h6 K) r r'⟩
theorem q_mut0 (l:Nat){T0:String}{name:Str}{f:T->List T->Option (T×I)}{apos:Pos}{mo:ME}(ck:CK C P W K mg base k)(hm:zbm T0 name f)(ho:QE C K o mo)
  (hbase:∀ i,attributeBase o name (C i).env (eval o (C i).env)=eval o (C i).env:=by intro _;rfl) (hline:(apos.endLine == pos.line)=true:=by rfl):QE C K (.Call (.Attribute o name apos) [] [] pos) (zem l f mo):=by
 obtain⟨id,red,h1,h2,h3,h4,h5,h6⟩:=hm
 obtain⟨to,q,r⟩:=ho
 exact⟨_,fun i=>bm0K (r:=red K) (ck.kk i) h1 h2 h3 (by have:=h4 (C i);rw [ck.kk i] at this;exact this) (q i) (hbase i) hline,ref_mut0 (h5 K) (h6 K) r⟩
theorem m_join:MethOk "str" "join" zel:=⟨_,rJoin,PySem.F.plainAttrs_str,PySem.F.slot_str_join,PySem.F.type_str_join,fun _=>mt_join,fun _=>prim_join,fun K H x tx ts t r e=>by
 unfold zel at e
 split at e
 ·rw [zne r];rfl
 ·cases e⟩
theorem zbb:zbm "list" "append" apT:=⟨_,fun _=>zll,PySem.F.plainAttrs_list,PySem.F.slot_list_append,PySem.F.type_list_append,fun _=>mt_append,fun _=>prim_append,fun K=>ty_append⟩
theorem m_extend:zbm "list" "extend" extT:=⟨_,zsn,PySem.F.plainAttrs_list,PySem.F.slot_list_extend,PySem.F.type_list_extend,fun _=>mt_extY,fun _=>prim_extend,fun K=>ty_extend⟩
theorem m_pop:zbm "list" "pop" popT:=⟨_,fun _=>rPop,PySem.F.plainAttrs_list,PySem.F.slot_list_pop,PySem.F.type_list_pop,fun _=>mt_pop,fun _=>prim_pop,fun K=>ty_pop⟩
theorem m_insert:zbm "list" "insert" insT:=⟨_,fun _=>zml,PySem.F.plainAttrs_list,PySem.F.slot_list_insert,PySem.F.type_list_insert,fun _=>mt_insert,fun _=>prim_insert,fun K=>ty_insert⟩
end
variable  {ι : Type}{C:ι->Cx}{P:Program}{W:World}{K:yF}{mg:Str->Option Value}{base:Heap}{k:Nat}
section
variable  {a b c e o tg iter:Expr}{es:List Expr}{ma mb mc m mo mi:ME}{ms:MA}{pos:Pos}{mt mt':MT}{s1 s2:MS}{g g':MG}{gs:MGs}{it it2:MI}{fr:Option (List (Option Nat))}
theorem zo (n:Nat){x:Str}(hN:∀ i,(C i).N.Nodup)(hi:∀ i,(C i).N[n]?=some x:=by intro _;rfl)(hx:∀ i,Loc (C i).env.scope x:=by first | exact fun _=>Or.inl rfl | exact fun _=>Or.inr rfl)(hf:∀ i,(C i).fn x=true ∨ (C i).env.scope.names.lookup x=some .local:=by first | exact fun _=>.inl rfl | exact fun _=>.inr rfl)
  (hfr:∀ f,fr=some f->f[n]?=some none:=by first | (intro f h;cases h;done) | (intro f h;cases h;rfl)):QG C K fr (.Name x pos) (zl n):=
 ⟨_,fun i=>pg_name (hN i) (hi i) (hx i) (hf i),zdk,fun f hf'=>gk_name (hfr f hf')⟩
theorem ztb:QGs C K fr 0 [] mGNil:=by with_unfolding_all exact⟨_,fun _=>pgs_nil,ref_gnil,fun _ _=>gk_nil,fun rs ρ ρ' h=>by cases rs<;>first | rfl | cases h⟩
theorem zu {n:Nat}(h1:QG C K fr e g)(h2:QGs C K fr n es gs)(hs:∀ i,(assignEach (e::es) (C i).env).map (·.2)=assign e (C i).env::(assignEach es (C i).env).map (·.2):=by intro _;rfl):QGs C K fr (n+1) (e::es) (zea g gs):=by with_unfolding_all
 obtain⟨g1,p1,r1,k1⟩:=h1
 obtain⟨g2,p2,r2,k2,l2⟩:=h2
 refine⟨_,fun i=>pgs_cons (p1 i) (p2 i) (hs i),ref_gcons r1 r2,fun f hf=>gk_cons (k1 f hf) (k2 f hf),fun rs ρ ρ' h=>?_⟩
 cases rs with
 | nil=>cases h
 | cons r rs=>
  simp only [zea] at h
  split at h
  ·split at h
   ·rw [List.length_cons,l2 _ _ _ h]
   ·cases h
  ·cases h
theorem zbd {n k0:Nat}(ck:CK C P W K mg base k)(h:QGs C K fr n es gs)(hn:∀ i,(assignEach es (C i).env).length=n:=by intro _;rfl)(hst:∀ i,(assignEach es (C i).env).findIdx? (·.1)=none:=by intro _;rfl):QG C K fr (.Tuple es k0 pos) (zbe gs):=by
 obtain⟨g,p,r,kk,l⟩:=h
 exact⟨_,fun i=>tgK (ck.kk i) (ck.calm i) (p i) (hn i) (hst i),ref_gtup r l,fun f hf=>gk_tup (kk f hf)⟩
theorem qg_sub (j:Nat)(ho:QE C K o mo)(hi:QE C K e mi)
  (ha:∀ i v,assign (.Subscript o e pos) (C i).env v=(do
   let ov ← holding [v] (eval o (C i).env)
   let iv ← holding [v,ov] (eval e (C i).env)
   standAt pos
   holding [v,ov,iv] (setItem ov iv v)
   release [v,ov,iv] []):=by intro _ _;rfl):QG C K none (.Subscript o e pos) (mSub j mo mi):=by
 obtain⟨to,p,r⟩:=ho
 obtain⟨ti,p',r'⟩:=hi
 exact⟨_,fun i=>pg_sub (p i) (p' i) set_list (ha i),ref_sub r r',fun f h=>by cases h⟩
theorem zta:QSs C K [] mNext:=⟨_,fun _=>pss_nil,ref_next⟩
theorem zp {st:Stmt}(h1:QS C K st s1):QSs C K [st] s1:=by
 obtain⟨t,p,r⟩:=h1
 exact⟨_,fun i=>pss_one (p i),r⟩
theorem zh {st:Stmt}{rest:List Stmt}(h1:QS C K st s1)(h2:QSs C K rest s2):QSs C K (st::rest) (mSeq s1 s2):=by
 obtain⟨t,p,r⟩:=h1
 obtain⟨u,p',r'⟩:=h2
 exact⟨_,fun i=>pss_cons (p i) (p' i),ref_seq r r'⟩
theorem zub {b1 b2:List Stmt}(hc:QT C K c mt)(h1:QSs C K b1 s1)(h2:QSs C K b2 s2):QS C K (.If c b1 b2 pos) (mIf mt s1 s2):=by
 obtain⟨tc,p0,r0⟩:=hc
 obtain⟨t,p,r⟩:=h1
 obtain⟨u,p',r'⟩:=h2
 exact⟨_,fun i=>ps_if (p0 i) (p i) (p' i),ref_ifS r0 r r'⟩
theorem zha (h:QE C K e m):QS C K (.Return (some e) pos) (mRet m):=by
 obtain⟨t,p,r⟩:=h
 exact⟨_,fun i=>ps_ret (p i),ref_ret r⟩
theorem zra (h:QE C K e m)(hs:∀ i,swapsWith e none pos.line (C i).env=pure false:=by intro _;rfl):QS C K (.Expr e pos) (zrb m):=by
 obtain⟨t,p,r⟩:=h
 exact⟨_,fun i=>ps_expr (p i) (hs i),ref_drop r⟩
theorem zpg (h:QE C K e m)(hg:QG C K none tg g)(hs:∀ i,swapsWithSole [tg] e pos.line (C i).env=pure false:=by intro _;rfl)(hw:∀ i,swappedStores [tg] e (C i).env=pure none:=by intro _;rfl)
  (h1:∀ i,(assignEach [tg] (C i).env).map (·.2) = [assign tg (C i).env]:=by intro _;rfl):QS C K (.Assign [tg] e pos) (mAsg m g):=by
 obtain⟨t,p,r⟩:=h
 obtain⟨u,p',r',_⟩:=hg
 exact⟨_,fun i=>ps_asg (p i) (p' i) (hs i) (hw i) (h1 i),zpl r r'⟩
theorem zx (n:Nat){x:Str}{pos':Pos}(hN:∀ i,(C i).N.Nodup)(he:QE C K e m)(hi:∀ i,(C i).N[n]?=some x:=by intro _;rfl)(hx:∀ i,Loc (C i).env.scope x:=by first | exact fun _=>Or.inl rfl | exact fun _=>Or.inr rfl)(hs:∀ i,swapsWith e (some (.Name x pos')) pos.line (C i).env=pure false:=by intro _;rfl)(hf:∀ i,(C i).fn x=true ∨ (C i).env.scope.names.lookup x=some .local:=by first | exact fun _=>.inl rfl | exact fun _=>.inr rfl) :
  QS C K (.Assign [.Name x pos'] e pos) (mAsg m (zl n)):=by
 obtain⟨t,p,r⟩:=he
 exact⟨_,fun i=>ps_set (hN i) (hi i) (hx i) (p i) (hs i) (hf i),zpl r zdk⟩
noncomputable def mPar (i j:Nat) (a:MA):MS:=⟨fun ρ=>match a.run ρ with
 | some ([r1,r2],ρ1)=>if (zri ρ1 i && alive [i] r1 && alive [i] r2 && zri ρ1 j && alive [j] r2)=true then some (.nx,(zv [j] ((zv [i] ρ1).set i (some r1))).set j (some r2)) else none
 | _=>none,a.mu++[i,j]⟩
theorem notIo_put {ρ:Rho}{i j:Nat}{r:R}(h:zri ρ j=true)(hr:∀ n,r.k ≠ .io n):zri ((zv [i] ρ).set i (some r)) j=true:=by
 unfold zri at h ⊢
 by_cases e:j=i
 ·subst e
  have hl:j < ρ.length:=by
   cases q : ρ[j]? with
   | none=>rw [q] at h;cases h
   | some o=>exact (List.getElem?_eq_some_iff.mp q).1
  rw [List.getElem?_set_self (by rw [zba];exact hl)]
  obtain⟨k,t⟩:=r
  cases k with
  | io n=>exact absurd rfl (hr n)
  | _=>rfl
 ·rw [List.getElem?_set_ne (Ne.symm e)]
  unfold zv
  rw [List.getElem?_map]
  cases q : ρ[j]? with
  | none=>rw [q] at h;cases h
  | some o=>
   rw [q] at h
   cases o with
   | none=>rfl
   | some x=>
    show (match some (zae [i] (some x)) with | some (some ⟨.io _,_⟩)=>false | some _=>true | none=>false)=true
    cases hk:zae [i] (some x) with
    | none=>rfl
    | some y=>
     obtain⟨e1,_⟩:=killO_iff.mp hk
     cases e1
     exact h
noncomputable def zpk (r:R):Bool:=match r.k with
 | .io _=>false
 | _=>true
theorem ref_par {i j:Nat}{ta:TA}{a:MA}(ha:RefA K ta a)(hio:∀ ρ rs ρ',a.run ρ=some (rs,ρ')->True):RefS K (tPar i j ta) (mPar i j ⟨fun ρ=>match a.run ρ with
  | some (rs,ρ1)=>if rs.all zpk=true then some (rs,ρ1) else none
  | none=>none,a.mu⟩):=by
 intro Γ H ρ σ E D f ρ' hK hE hr S q
 simp only [mPar] at hr q
 split at hr
 ·rename_i r1 r2 ρ1 e1
  split at e1
  ·rename_i rs ρ2 e2
   split at e1
   ·rename_i hall
    cases e1
    split at hr
    ·rename_i hb
     cases hr
     simp only [Bool.and_eq_true] at hb
     obtain⟨⟨⟨⟨b1,b2⟩,b3⟩,b4⟩,b5⟩:=hb
     refine ha Γ H ρ σ E _ _ _ hK e2 S fun vs H1 hl S1=>?_
     obtain⟨v,w,rfl⟩:∃ v w,vs = [v,w]:=by
      cases vs with
      | nil=>cases hl
      | cons v r=>cases r with
       | nil=>cases hl
       | cons w r=>cases r with
        | nil=>exact⟨v,w,rfl⟩
        | cons _ _=>cases hl
     have S1:Sim Γ H1 ρ1 σ (⟨none,v,r1⟩::⟨none,w,r2⟩::zk a.mu E):=S1
     refine⟨v,w,rfl,q _ H1 ?_⟩
     have S2:=S1.put b1 (zxg b2)
     rw [zt (zab b3)] at S2
     have hr1:∀ n,r1.k ≠ .io n:=fun n z=>by
      have:=List.all_eq_true.mp hall r1 ymS
      unfold zpk at this
      rw [z] at this
      cases this
     have S3:=S2.put (notIo_put b4 hr1) (zxg b5)
     rw [zi,zi] at S3
     have:a.mu++([i]++[j])=a.mu++[i,j]:=rfl
     rw [← List.append_assoc] at this
     exact S3
    ·cases hr
   ·cases e1
  ·cases e1
 ·cases hr
@[irreducible] noncomputable def zfm (i j:Nat)(a:MA):MS:=mPar i j ⟨fun ρ=>match a.run ρ with
  | some (rs,ρ1)=>if rs.all zpk=true then some (rs,ρ1) else none
  | none=>none,a.mu⟩
theorem ztm (i j:Nat){x y:Str}{px py pt:Pos}{kt k2 pt2}(ck:CK C P W K mg base k)(hN:∀ i,(C i).N.Nodup)(ha:QA C K [a,b] ms)(hi:∀ n,(C n).N[i]?=some x:=by intro _;rfl)(hj:∀ n,(C n).N[j]?=some y:=by intro _;rfl)(hij:i≠j:=by decide)
  (hx:∀ n,(C n).env.scope.names.lookup x=some .local:=by intro _;rfl) (hy:∀ n,(C n).env.scope.names.lookup y=some .local:=by intro _;rfl)
  (hw:∀ n,swappedStores [.Tuple [.Name x px,.Name y py] kt pt] (.Tuple [a,b] k2 pt2) (C n).env=pure (some [x,y]):=by intro _;rfl)
  (hs:∀ n,swapsWithSole [.Tuple [.Name x px,.Name y py] kt pt] (.Tuple [a,b] k2 pt2) pos.line (C n).env=pure false:=by intro _;rfl) :
  QS C K (.Assign [.Tuple [.Name x px,.Name y py] kt pt] (.Tuple [a,b] k2 pt2) pos) (zfm i j ms):=by with_unfolding_all
 obtain⟨ta,p,_,r⟩:=ha
 exact⟨_,fun n=>ps_par (ck.calm n) (hN n) (hi n) (hj n) hij (hx n) (hy n) (p n) (hw n) (hs n),ref_par r (fun _ _ _ _=>trivial)⟩
theorem qs_while {body:List Stmt}(hp:∀ i,PassesOwn (model (C i).prog (C i).w) (C i).A (C i).env (C i).xe)(hc:QT C K c mt)(hb:QSs C K body s1):QS C K (.While c body [] pos) (zlg mt s1):=by
 obtain⟨tc,p,r⟩:=hc
 obtain⟨tb,p',r'⟩:=hb
 exact⟨_,fun i=>ps_while (hp i) (p i) (p' i),ref_while r r'⟩
theorem zkc {body:List Stmt}(ck:CK C P W K mg base k)(hp:∀ i,PassesOwn (model (C i).prog (C i).w) (C i).A (C i).env (C i).xe)(hi:QI C K tg iter it)(hg:QG C K none tg g)(hb:QSs C K body s1)(hs:∀ i x,foldedSetIterable iter (C i).env x=pure x:=by intro _ _;rfl):QS C K (.For tg iter body [] pos) (mFor it g s1):=by
 obtain⟨wi,p,r⟩:=hi
 obtain⟨tg',p1,r1,_⟩:=hg
 obtain⟨tb,p',r'⟩:=hb
 exact⟨_,fun i=>ps_for (hp i) (ck.calm i) (p i) (p1 i) (p' i) (hs i),ref_for r r1 r'⟩
theorem zaa {p:Pos}(ck:CK C P W K mg base k)(T:Bi mg)(ha:QA C K [a] ms)(hg:∀ i,Gl (C i) "range" :=by intro _;rfl)(hs:zqf a=false:=by rfl):QI C K tg (.Call (.Name "range" p) [a] [] pos) (zjb ms):=by
 obtain⟨ta,q,_,r⟩:=ha
 exact⟨_,fun i=>pi_range1 (hg i) (by rw [ck.mg i];exact T.b_range) (q i) (by rw [zza hs];rfl),ref_rng1 r⟩
theorem qi_range2 {p:Pos}(ck:CK C P W K mg base k)(T:Bi mg)(ha:QA C K [a,b] ms)(hg:∀ i,Gl (C i) "range" :=by intro _;rfl)(hs:zqf a=false:=by rfl)(hs2:zqf b=false:=by rfl):QI C K tg (.Call (.Name "range" p) [a,b] [] pos) (zmh ms):=by
 obtain⟨ta,q,_,r⟩:=ha
 exact⟨_,fun i=>pi_range2 (hg i) (by rw [ck.mg i];exact T.b_range) (q i) (by rw [zza hs,zza hs2];rfl) (by rw [zza hs2];rfl),ref_rng2 r⟩
theorem PI.or {X:Cx}{w1 w2:TI}(h1:PI X tg iter w1)(h2:PI X tg iter w2):PI X tg iter (fun σ H R=>w1 σ H R ∨ w2 σ H R):=by
 intro pins s σ H R I h
 rcases h with h | h
 ·exact h1 pins s σ H R I h
 ·exact h2 pins s σ H R I h
noncomputable def zjg:R->Option (List R)
 | ⟨_,.li is⟩=>some (is.map fun i=>⟨.ow,.im i⟩)
 | ⟨.vw ro _,.lst ts⟩=>some (ts.map (partV ro))
 | ⟨_,.im (.tup is)⟩=>some (is.map fun i=>⟨.ow,.im i⟩)
 | ⟨_,.im (.str z)⟩=>some ((sL z).map fun c=>⟨.ow,.im (.str ⟨#[c]⟩)⟩)
 | _=>none
@[irreducible] noncomputable def mIt (a:ME):MI:=⟨fun ρ=>match a.run ρ with
 | some (r,ρ1)=>(match zjg r with
  | some rs=>some (([r],rs),ρ1)
  | none=>none)
 | none=>none,a.mu⟩
theorem walk_S2 {Γ:Gm}{z:Str}{v:V}{src:R}:zuh Γ (Its z) [v] [src] ((sL z).map fun c=>⟨.ow,.im (.str ⟨#[c]⟩)⟩):=fun H ρ σ E S=>by
 refine⟨fun i hi=>?_,fun i r hr=>?_⟩
 ·show z.cps.size<=i
  simpa [sL] using hi
 ·obtain⟨c,hc,rfl⟩:=zxb hr
  have hc':z.cps[i]?=some c:=by simpa [sL] using hc
  refine⟨?_,fun x H' y=>?_⟩
  ·show i<z.cps.size
   exact (Array.getElem?_eq_some_iff.mp hc').1
  ·obtain⟨rfl,c',h1,rfl⟩:=y
   rw [hc'] at h1;cases h1
   exact S.imm (zvk rfl)
theorem ref_it {ta:TE}(ha:RefE K ta m):RefI K (fun σ H R=>zcn K ta σ H R ∨ (iTup K ta σ H R ∨ iStr ta σ H R)) (mIt m):=by with_unfolding_all
 intro Γ H ρ σ E Rr src items ρ' hK hr S q
 simp only [mIt] at hr
 split at hr
 ·rename_i r ρ1 e1
  split at hr
  ·rename_i rs e2
   cases hr
   unfold zjg at e2
   split at e2
   ·rename_i k0 is
    exact .inl (ref_itL ha Γ H ρ σ E Rr _ items ρ' hK (by simp only [mItL,e1,zhj];cases e2;rfl) S q)
   ·exact .inl (ref_itL ha Γ H ρ σ E Rr _ items ρ' hK (by simp only [mItL,e1,zhj];cases e2;rfl) S q)
   ·exact .inr (.inl (ref_itT ha Γ H ρ σ E Rr _ items ρ' hK (by simp only [mItT,e1,zlk];cases e2;rfl) S q))
   ·rename_i k0 z
    cases e2
    right;right
    refine ha Γ H ρ σ E _ _ _ hK e1 S fun x H1 S1=>?_
    exact⟨z,zne (S1.rd ymS),q _ [x] H1 rfl S1 walk_S2⟩
   ·cases e2
  ·cases hr
 ·cases hr
theorem zuc (ck:CK C P W K mg base k)(ha:QE C K iter m):QI C K tg iter (mIt m):=by
 obtain⟨ta,q,r⟩:=ha
 exact⟨_,fun i=>PI.or (ilK (ck.kk i) (q i)) (PI.or (itK (ck.kk i) (q i)) (pi_text (q i))),ref_it r⟩
@[irreducible] noncomputable def mYes:MT:=⟨fun ρ=>some (true,ρ),[]⟩
theorem ref_yes:RefT K tYes mYes:=by with_unfolding_all
 intro Γ H ρ σ E Q b ρ' hK hr S q
 cases hr
 exact q H (by rw [show mYes.mu = [] from rfl,zqb];exact S)
theorem zsa:QTs C K [] mYes:=⟨_,fun _=>pts_nil,ref_yes⟩
theorem qts_one (h:QT C K c mt):QTs C K [c] mt:=by
 obtain⟨t,p,r⟩:=h
 exact⟨_,fun i=>pts_one (p i),r⟩
section
variable  {elt tg2 iter2:Expr}{ifs:List Expr}{scope:Scope}
theorem zvd {N':List Str}{f:List (Option Nat)}(ck:CK C P W K mg base k)(hB:∀ i,Blk (C i).env.scope scope (C i).N N' f)(hi:QI C K tg iter it)(hg:QG (blkC C scope N') K (some f) tg g)(ht:QTs (blkC C scope N') K ifs mt)(he:QE (blkC C scope N') K elt m)(hs:∀ i x,foldedSetIterable iter (C i).env x=pure x:=by intro _ _;rfl) :
  QE C K (.ListComp elt [⟨tg,iter,ifs,0⟩] scope pos) (zfb f it g mt m):=by
 obtain⟨wi,p0,r0⟩:=hi
 obtain⟨gg,p1,r1,kk⟩:=hg
 obtain⟨tt,p2,r2⟩:=ht
 obtain⟨te,p3,r3⟩:=he
 exact⟨_,fun i=>pe_comp (ck.calm i) (hB i) (p0 i) (fun b=>p1 (i,b)) (kk f rfl) (fun b=>p2 (i,b)) (fun b=>p3 (i,b)) (hs i),ref_comp r0 (kk f rfl) r1 r2 r3⟩
theorem zzb (n:Nat){x:Str}{pos' spos:Pos}{N':List Str}{f:List (Option Nat)}(ck:CK C P W K mg base k)(hN:∀ i,(C i).N.Nodup)(hB:∀ i,Blk (C i).env.scope scope (C i).N N' f)(hi:QI C K tg iter it)(hg:QG (blkC C scope N') K (some f) tg g)(ht:QTs (blkC C scope N') K ifs mt)(he:QE (blkC C scope N') K elt m)(hn:∀ i,(C i).N[n]?=some x:=by intro _;rfl)(hx:∀ i,(C i).env.scope.names.lookup x=some .local:=by intro _;rfl)
  (hsw:∀ i,swapsWith (.ListComp elt [⟨tg,iter,ifs,0⟩] scope pos) (some (.Name x pos')) spos.line (C i).env=pure true:=by intro _;rfl) (hs:∀ i x,foldedSetIterable iter (C i).env x=pure x:=by intro _ _;rfl) :
  QS C K (.Assign [.Name x pos'] (.ListComp elt [⟨tg,iter,ifs,0⟩] scope pos) spos) (mAsg (zfb f it g mt m) (zl n)):=by
 obtain⟨wi,p0,r0⟩:=hi
 obtain⟨gg,p1,r1,kk⟩:=hg
 obtain⟨tt,p2,r2⟩:=ht
 obtain⟨te,p3,r3⟩:=he
 exact⟨_,fun i=>ps_setcomp (ck.calm i) (hN i) (hn i) (hx i) (hB i) (p0 i) (fun b=>p1 (i,b)) (kk f rfl) (fun b=>p2 (i,b)) (fun b=>p3 (i,b)) (hsw i) (hs i),zpl (ref_comp r0 (kk f rfl) r1 r2 r3) zdk⟩
theorem q_comp2 {N':List Str}{f f2:List (Option Nat)}(ck:CK C P W K mg base k)(hB:∀ i,Blk (C i).env.scope scope (C i).N N' f)(hsub:sub2 f f2=true)(hi:QI C K tg iter it)(hg:QG (blkC C scope N') K (some f) tg g)(hi2:QI (blkC C scope N') K tg2 iter2 it2)(hg2:QG (blkC C scope N') K (some f2) tg2 g')(ht:QTs (blkC C scope N') K ifs mt)(he:QE (blkC C scope N') K elt m)(hs:∀ i x,foldedSetIterable iter (C i).env x=pure x:=by intro _ _;rfl)(hs2:∀ i b x,foldedSetIterable iter2 (cxB (C i) scope N' b).env x=pure x:=by intro _ _ _;rfl) :
  QE C K (.ListComp elt [⟨tg,iter,[],0⟩,⟨tg2,iter2,ifs,0⟩] scope pos) (zjj f f2 it g it2 g' mt m):=by
 obtain⟨wi,p0,r0⟩:=hi
 obtain⟨gg,p1,r1,kk⟩:=hg
 obtain⟨wi2,p4,r4⟩:=hi2
 obtain⟨gg2,p5,r5,kk2⟩:=hg2
 obtain⟨tt,p2,r2⟩:=ht
 obtain⟨te,p3,r3⟩:=he
 exact⟨_,fun i=>pe_comp2 (ck.calm i) (hB i) hsub (p0 i) (fun b=>p1 (i,b)) (kk f rfl) (fun b=>p4 (i,b)) (fun b=>p5 (i,b)) (kk2 f2 rfl) (fun b=>p2 (i,b)) (fun b=>p3 (i,b)) (hs i) (hs2 i),ref_comp2 r0 (kk f rfl) r1 r4 (kk2 f2 rfl) r5 r2 r3⟩
end
end
structure DI (k:Nat)(name:Str)(st:Stmt) where
 f:Addr
 cdv:Value
 A:Around
 outer:List Env
 s:Shared
 H:Hp
 E:XK
 hr:Room k (A.deeper (envOfC name (zm st) s.heap.objs.size f cdv))
noncomputable abbrev dC (P:Program) (W:World) (K:yF) (mg:Str->Option Value) (base:Heap) (k:Nat) (N:List Str) (name:Str) (st:Stmt):DI k name st->Cx:=fun d=>(cxOf CX0 P W K mg base N name (zm st) d.f d.cdv d.A d.outer d.s d.H d.E).nox
theorem za {N:List Str}{name:Str}{st:Stmt}:CK (dC P W K mg base k N name st) P W K mg base k:=
 ⟨fun _=>rfl,fun _=>rfl,fun _=>rfl,fun _=>rfl,fun _=>rfl,fun _=>rfl,fun d=>d.hr⟩
theorem Def.qp {name:Str}{st:Stmt}{N ps:List Str}(d:Def K mg name st ps)(S:FnScope N ps (zm st)){m:MS}(h:QSs (dC P W K mg base k N name st) K (zkb st) m)
  {run:List T->Option T} (hrun:∀ ts,run ts=if ts.length=ps.length then runP m N.length ts else none):Has P W K mg base (k+1) name ps (spP K run):=by
 obtain⟨t,p,r⟩:=h
 exact d.mp S (fun f cdv A outer s H E hr=>⟨t,p ⟨f,cdv,A,outer,s,H,E,hr⟩,r⟩) hrun
theorem Def.qi {name:Str}{st:Stmt}{N ps:List Str}{j:Nat}(d:Def K mg name st ps)(S:FnScope N ps (zm st)){m:MS}(h:QSs (dC P W K mg base k N name st) K (zkb st) m)
  {run:List T->Option (T×T)} (hrun:∀ ts,run ts=if ts.length=ps.length then runI m j N.length ts else none):Has P W K mg base (k+1) name ps (spI K j run):=by
 obtain⟨t,p,r⟩:=h
 exact d.mi S (fun f cdv A outer s H E hr=>⟨t,p ⟨f,cdv,A,outer,s,H,E,hr⟩,r⟩) hrun
section
variable  {Γ:Gm}{H H':Hp}{L:List Hd}{ρ:Rho}{σ:St}{E X:List En}{v w x y:V}{t s:T}{K:yF}{Q:VK}
theorem Sim.ioT {vs:List V}{rs:List R}{k:Nat}(S:Sim Γ H ρ σ (ens vs rs++E))(hl:vs.length=rs.length)(hk:rs[k]?=some ⟨.ow,s⟩)(hw:vs[k]?=some w) :
  ∃ G,Rp Γ.K H s w G/\G.Nodup/\(∀ a∈G,Mu H a)/\(∀ m r x,m≠k->rs[m]?=some r->vs[m]?=some x->∃ F,Rp Γ.K H r.t x F/\∀ a∈F,a ∉ G) ∧
  ∀ H' v t F,OffM G H H'->(∀ a∈G,∃ o,H' a=some o)->F.Nodup->(∀ a∈F,H a=none/\Mu H' a)->Rp Γ.K H' t v F->Sim Γ H' ρ σ (⟨none,v,⟨.ow,t⟩⟩::E):=by
 have key:∀ {vs:List V} {rs:List R} {k:Nat},vs.length=rs.length->rs[k]?=some (⟨.ow,s⟩:R)->vs[k]?=some w->∃ A,(ens vs rs).Perm (⟨none,w,⟨.ow,s⟩⟩::A)/\(∀ e∈A,e.key=none)/\∀ m r x,m≠k->rs[m]?=some r->vs[m]?=some x->(⟨none,x,r⟩:En)∈A:=by
  intro vs
  induction vs with
  | nil=>intro rs k _ _ h;simp at h
  | cons a vs ih=>
   intro rs k hl h1 h2
   cases rs with
   | nil=>simp at h1
   | cons b rs=>
    cases k with
    | zero=>
     simp at h1 h2
     subst h1 h2
     refine⟨ens vs rs,List.Perm.refl _,fun e he=>zal he,fun m r x hm hr hx=>?_⟩
     cases m with
     | zero=>exact absurd rfl hm
     | succ m=>exact znj (by simpa using hr) (by simpa using hx)
    | succ k=>
     obtain⟨A,p,q,g⟩:=ih (rs:=rs) (k:=k) (by simpa using hl) (by simpa using h1) (by simpa using h2)
     refine⟨⟨none,a,b⟩::A,(List.Perm.cons _ p).trans (List.Perm.swap _ _ _),fun e he=>?_,fun m r x hm hr hx=>?_⟩
     ·rcases ycM he with rfl | he
      ·rfl
      ·exact q e he
     ·cases m with
      | zero=>simp at hr hx;subst hr hx;exact ymS
      | succ m=>exact ymC _ (g m r x (by omega) (by simpa using hr) (by simpa using hx))
 obtain⟨A,p,hA,hin⟩:=key hl hk hw
 have S1:=S.perm (p.append_right E)
 rw [List.cons_append] at S1
 obtain⟨Lx,g,eL⟩:=S1.sl
 rw [List.cons_append] at eL
 obtain⟨z,L',rfl,ez,eL'⟩:=zw eL
 have hoz:z.e.r.k.isOw=true:=by rw [ez];rfl
 have rz:=g.rp z ymS
 rw [ez] at rz
 have ap:=GW.apart (hs:=[z]) (L:=L') g (fun y hy x hx j hj=>by rw [ysM hx,ez] at hj;cases hj) (fun x hx=>by rw [ysM hx];exact hoz)
 refine⟨z.F,rz,g.ndF ymS hoz,g.muF ymS hoz,fun m r x hm hr hx=>?_,fun H' v t F off dom nd hF rp=>?_⟩
 ·have hmem:(⟨none,x,r⟩:En)∈L'.map (·.e):=by rw [eL'];exact yaL _ (yaL _ (hin m r x hm hr hx))
  obtain⟨u,hu,eu⟩:=List.mem_map.mp hmem
  have ru:=g.rp u (ymC _ hu)
  rw [eu] at ru
  exact⟨u.F,ru,fun a ha hg=>ap u hu a ha z ymS hg⟩
 ·have st:=GW.step (hs:=[z]) (L:=L') (H':=H') g (fun x hx=>by rw [ysM hx];exact hoz) (fun y hy x hx j hj=>by rw [ysM hx,ez] at hj;cases hj) (by simpa using off) (fun a ha=>dom a (by simpa using ha)) (key:=none) (v:=v) (r:=⟨.ow,t⟩) (F:=F) nd (fun a ha=>⟨.inr (hF a ha).1,(hF a ha).2⟩) rp (.inl ⟨rfl,fun x hx=>by rw [ysM hx,ez]⟩) (fun j hj=>by cases hj)
  have SL:SimL Γ H' (⟨none,v,⟨.ow,t⟩⟩::((A++E)++ents 0 σ ρ)):=⟨_,st,by rw [List.map_cons,eL']⟩
  refine⟨?_,S.al,S.len,fun e he j hj=>?_⟩
  ·rw [List.append_assoc] at SL
   have pp:(⟨none,v,⟨.ow,t⟩⟩::(A++(E++ents 0 σ ρ))).Perm (A++(⟨none,v,⟨.ow,t⟩⟩::(E++ents 0 σ ρ))):=List.perm_middle.symm
   exact (SL.perm pp).dropsN hA
  ·rcases ycM he with rfl | he
   ·cases hj
   ·exact S.hi e (yaR _ he) j hj
@[irreducible] noncomputable def zij (k:Nat)(run:List T->Option (T×T))(a:MA):ME:=⟨fun ρ=>match a.run ρ with
 | some (rs,ρ1)=>(match rs[k]? with
  | some ⟨.ow,_⟩=>(match run (rs.map (·.t)) with
   | some (t,_)=>some (⟨.ow,t⟩,ρ1)
   | none=>none)
  | _=>none)
 | none=>none,a.mu⟩
theorem ref_callT {k:Nat}{run:List T->Option (T×T)}{ta:TA}{a:MA}(ha:RefA K ta a):RefE K (zul (spI K k run) [] E0 ta) (zij k run a):=by
 intro Γ H ρ σ E Q r ρ' hK hr S q
 show ta σ H fun vs H1=>spI K k run (vs++[]) H1 Q E0
 simp only [List.append_nil]
 simp only [zij] at hr q
 split at hr
 ·rename_i rs ρ1 e1
  split at hr
  ·rename_i s e2
   split at hr
   ·rename_i t s' e3
    cases hr
    refine ha Γ H ρ σ E _ rs ρ' hK e1 S fun vs H1 hl S1=>?_
    have hkl:k<rs.length:=(List.getElem?_eq_some_iff.mp e2).1
    obtain⟨w,hw⟩:∃ w,vs[k]?=some w:=⟨vs[k],by simp [hl,hkl]⟩
    obtain⟨G,g1,g2,g3,g4,g5⟩:=S1.ioT hl e2 hw
    rw [hK] at g1
    refine⟨rs.map (·.t),s,w,G,t,s',by rw [List.length_map,hl],hw,by rw [List.getElem?_map,e2];rfl,g1,g2,g3,fun m x u hm hx hu=>?_,e3,fun v H' F G' a1 a2 a3 a4 a5 a6 a7=>q v H' ?_⟩
    ·rw [List.getElem?_map] at hu
     cases hr:rs[m]? with
     | none=>rw [hr] at hu;cases hu
     | some r=>
      rw [hr] at hu;cases hu
      have:=g4 m r x hm hr hx
      rw [hK] at this
      exact this
    ·rw [← hK] at a6 a7
     exact g5 H' v t F a1 a2 (List.nodup_append.mp a3).1 a4 a7
   ·cases hr
  ·cases hr
 ·cases hr
@[irreducible] noncomputable def zii (j:Nat)(o:ME)(lo hi:ME):MG:=⟨fun r ρ=>match r with
 | ⟨.ow,.li ys⟩=>match o.run ρ with
  | some (⟨.vw (some j') (some p),.li xs⟩,ρ1)=>match lo.run ρ1 with
   | some (⟨_,.im (.int a)⟩,ρ2)=>match hi.run ρ2 with
    | some (⟨_,.im (.int c)⟩,ρ3)=>if (decide (j'=j) && !(lo.mu++hi.mu).contains j && decide (0<=a/\a<=c/\c<=xs.length/\xs.length+ys.length<=sizeLine))=true then (match ρ3[j]? with
     | some (some ⟨k,t⟩)=>if k.isOw=true then some ((zv [j] ρ3).set j (some ⟨k,t.put p (.li (xs.take a.toNat++ys++xs.drop c.toNat))⟩)) else none
     | _=>none) else none
    | _=>none
   | _=>none
  | _=>none
 | _=>none,(o.mu++(lo.mu++hi.mu))++[j]⟩
theorem ref_subsl {to tl th:TE}{o lo hi:ME}{j:Nat}(ho:RefE K to o)(hl:RefE K tl lo)(hh:RefE K th hi):RefG K (gSubSl to (zgn tl) (zgn th)) (zii j o lo hi):=by
 intro Γ H ρ σ E Q v r ρ' hK hr S q
 simp only [zii] at hr q
 split at hr
 ·rename_i ys
  split at hr
  ·rename_i j' p xs ρ1 e1
   split at hr
   ·rename_i k1 a ρ2 e2
    split at hr
    ·rename_i k2 c ρ3 e3
     split at hr
     ·rename_i hc
      rw [Bool.and_eq_true,Bool.and_eq_true,decide_eq_true_eq,Bool.not_eq_true',decide_eq_true_eq] at hc
      obtain⟨⟨rfl,hmv⟩,hz⟩:=hc
      split at hr
      ·rename_i k t e4
       split at hr
       ·rename_i hw
        cases hr
        refine ho Γ H ρ σ _ _ _ _ hK e1 S fun x H1 S1=>?_
        refine hl Γ H1 ρ1 σ _ _ _ _ hK e2 S1 fun ya H2 S2=>?_
        refine⟨a,zna (S2.rd ymS),?_⟩
        refine hh Γ H2 ρ2 σ _ _ _ _ hK e3 (S2.drop rfl) fun yc H3 S3=>?_
        refine⟨c,zna (S3.rd ymS),?_⟩
        have S4:=S3.drop rfl
        have k1':zka (lo.mu++hi.mu) ⟨none,x,⟨.vw (some j') (some p),.li xs⟩⟩=true:=by unfold zka;simp only [Kd.root];rw [hmv];rfl
        have k2':∀ M:List Nat,zka M ⟨none,v,⟨.ow,.li ys⟩⟩=true:=fun M=>rfl
        rw [zi,zt k1',zi,zt (k2' _)] at S4
        obtain⟨G,F,h1,h2,h3,h4,h5⟩:=Sim.mut (vs:=[v]) (ts:=[.li ys]) (S4.perm (List.Perm.swap _ _ _)) rfl e4 hw
        obtain⟨p0,xs',rfl,g1,g2,rfl⟩:=zjl h1 fun a ha=>h4 a (yaL _ ha)
        obtain⟨z,ez,g3⟩:=rps1 h2
        cases ez
        obtain⟨b0,ys',rfl,g4,g5,rfl⟩:=zjl g3 fun a ha=>h4 a (yaR _ ha)
        have hne:p0≠b0:=fun z=>by
         have:=h3
         rw [z] at this
         simp at this
        refine⟨p0,b0,xs',ys',a,c,rfl,rfl,rfl,rfl,g1,g4,hne,hz.1,hz.2.1,by rw [g2.length];exact hz.2.2.1,by rw [g2.length,g5.length];exact hz.2.2.2,?_⟩
        refine zaj (Q:=fun _ H'=>Q σ H') (F:=[b0]) (v:=.non) (i:=.non) g1 (((g2.take _).append g5).append (g2.drop _)) zbc fun v' H' G' a1 a2 a3 a4 a5 _=>q σ H' ?_
        have:=h5 H' _ G' a1 a2 a3 a4 a5
        rw [zi] at this
        exact this
       ·cases hr
      ·cases hr
     ·cases hr
    ·cases hr
   ·cases hr
  ·cases hr
 ·cases hr
noncomputable def zcj (k:Nat):List I->List R
 | []=>[]
 | i::is=>⟨.ow,.im (.tup [.int k,i])⟩::zcj (k+1) is
theorem zgg:∀ {is:List I} {k i:Nat},(zcj k is)[i]?=(is[i]?).map fun x=>⟨.ow,.im (.tup [.int ((k+i:Nat):Int),x])⟩
 | [],k,i=>by simp [zcj]
 | x::is,k,0=>by simp [zcj]
 | x::is,k,i+1=>by
  rw [zcj,List.getElem?_cons_succ,List.getElem?_cons_succ,zgg,show k+1+i=k+(i+1) by omega]
theorem enumI_len:∀ {is:List I} {k:Nat},(zcj k is).length=is.length
 | [],_=>rfl
 | _::is,k=>by rw [zcj,List.length_cons,enumI_len,List.length_cons]
@[irreducible] noncomputable def zdm (a:MA):MI:=⟨fun ρ=>match a.run ρ with
 | some ([⟨k,.im (.tup is)⟩],ρ1)=>some (([⟨k,.im (.tup is)⟩],zcj 0 is),ρ1)
 | _=>none,a.mu⟩
noncomputable def ztd:MS:=⟨fun _=>none,[]⟩
theorem ref_never {t:TS}:RefS K t ztd:=by
 intro Γ H ρ σ E D f ρ' hK hE hr S q
 cases hr
end
variable  {ι : Type}{C:ι->Cx}{P:Program}{W:World}{K:yF}{mg:Str->Option Value}{base:Heap}{k:Nat}
section
variable  {a b c e o tg iter:Expr}{es:List Expr}{ma mb mc m mo mi ml mh:ME}{ms:MA}{pos:Pos}{mt mt':MT}{s1 s2:MS}{g g':MG}{gs:MGs}{it it2:MI}{fr:Option (List (Option Nat))}
theorem q_fnT {x:Str}{p:Pos}{j n0:Nat}{ps:List Str}{run:List T->Option (T×T)}(ck:CK C P W K mg base k)(h:Has P W K mg base j x ps (spI K n0 run))(ha:QA C K (e::es) ms)(hj:j<=k:=by first | decide | omega)(hg:∀ i,Gl (C i) x:=by intro _;rfl)(hdb:(x == ("__debug__" : Str))=false:=by decide):QE C K (.Call (.Name x p) (e::es) [] pos) (zij n0 run ms):=by
 obtain⟨ta,q,n,r⟩:=ha
 refine⟨_,fun i=>zrm (by rw [ck.prog i,ck.w i,ck.kk i,ck.mg i,ck.base i];exact h) ((ck.room i).mono hj) (hg i) (q i) n hdb,ref_callT r⟩
theorem zcd {st:Stmt}:QS C K st ztd:=⟨_,fun _=>ps_never,ref_never⟩
end
section
variable  {Γ:Gm}{H H':Hp}{ρ:Rho}{σ:St}{E:List En}{v w x y:V}{t s:T}{K:yF}{Q:VK}
@[irreducible] noncomputable def zf (n:Nat)(ms:MA):MA:=⟨fun ρ=>match ms.run ρ with
 | some (rs,ρ2)=>(match ρ2[n]? with
  | some (some r)=>(match ρ[n]? with
   | some (some _)=>some (rdR n r::rs,ρ2)
   | _=>none)
  | _=>none)
 | none=>none,ms.mu⟩
theorem ref_consV {n:Nat}{ta:TA}{ms:MA}(h2:RefA K ta ms):RefA K (zfn (tVar n) ta) (zf n ms):=by with_unfolding_all
 intro Γ H ρ σ E Q rs ρ' hK hr S q
 simp only [zf] at hr
 split at hr
 ·rename_i rs1 ρ2 e2
  split at hr
  ·rename_i r e3
   split at hr
   ·rename_i r0 e4
    cases hr
    obtain⟨v,hv,_⟩:=S.var e4
    refine⟨v,hv,?_⟩
    refine h2 Γ H ρ σ E _ rs1 _ hK e2 S fun vs H2 hl S2=>q (v::vs) H2 (by rw [List.length_cons,List.length_cons,hl]) ?_
    obtain⟨v',hv',S3⟩:=S2.var e3
    rw [hv] at hv'
    cases hv'
    exact S3
   ·cases hr
  ·cases hr
 ·cases hr
theorem walk_E {a:Addr}{k:Kd}{is:List I}:zuh Γ (Ite Γ.K a) [.ref a] [⟨k,.im (.tup is)⟩] (zcj 0 is):=fun H ρ σ E S=>by
 replace S:Sim Γ H ρ σ (⟨none,.ref a,⟨k,.im (.tup is)⟩⟩::E):=S
 have r1:Rpx Γ.K H (.im (.tup is)) (.ref a):=S.rd (e:=⟨none,.ref a,⟨k,.im (.tup is)⟩⟩) ymS
 obtain⟨a',xs,ea,g1,g2⟩:=zlc r1
 cases ea
 refine⟨fun i hi=>⟨xs,g1,by rw [g2.length];rw [enumI_len] at hi;exact hi⟩,fun i r hr=>?_⟩
 rw [zgg] at hr
 cases e:is[i]? with
 | none=>rw [e] at hr;cases hr
 | some j=>
  rw [e] at hr;cases hr
  obtain⟨w,hw,rw0⟩:=g2.get e
  refine⟨⟨xs,w,g1,hw⟩,fun x H' y=>?_⟩
  obtain⟨p,x',hp,rfl,rfl,hx⟩:=y
  have:=hx xs g1
  rw [hw] at this
  cases this
  rw [Nat.zero_add]
  exact S.fresh (New.tup hp (.cons (by rw [RpI]) (.cons rw0 (by rw [RpIs]))))
theorem ref_enum {ta:TA}{a:MA}(ha:RefA K ta a):RefI K (zmn K ta) (zdm a):=by with_unfolding_all
 intro Γ H ρ σ E Rr src items ρ' hK hr S q
 simp only [zdm] at hr
 split at hr
 ·rename_i k is ρ1 e1
  cases hr
  refine ha Γ H ρ σ E _ _ _ hK e1 S fun vs H1 hl S1=>?_
  cases vs with
  | nil=>cases hl
  | cons v vs=>
   cases vs with
   | cons _ _=>cases hl
   | nil=>
    have S1:Sim Γ H1 ρ' σ (⟨none,v,⟨k,.im (.tup is)⟩⟩::zk a.mu E):=S1
    have r1:Rpx Γ.K H1 (.im (.tup is)) v:=S1.rd (e:=⟨none,v,⟨k,.im (.tup is)⟩⟩) ymS
    obtain⟨a',xs,rfl,g1,g2⟩:=zlc r1
    subst hK
    exact⟨a',xs,rfl,g1,q _ [.ref a'] H1 rfl S1 walk_E⟩
 ·cases hr
end
variable  {ι : Type}{C:ι->Cx}{P:Program}{W:World}{K:yF}{mg:Str->Option Value}{base:Heap}{k:Nat}
section
variable  {a b c e o tg iter:Expr}{es:List Expr}{ma mb mc m mo mi ml mh:ME}{ms:MA}{pos:Pos}{mt mt':MT}{s1 s2:MS}{g g':MG}{gs:MGs}{it it2:MI}{fr:Option (List (Option Nat))}
theorem zc (n:Nat){x:Str}{p:Pos}(h2:QA C K es ms)(hN:∀ i,(C i).N[n]?=some x:=by intro _;rfl)(hv:∀ i,Vis (C i).env.scope x:=by first | exact fun _=>Or.inl rfl | exact fun _=>Or.inr (Or.inl rfl) | exact fun _=>Or.inr (Or.inr rfl))(hd:(x == ("__debug__" : Str))=false:=by decide)(hcd:(x == ("__classdict__" : Str))=false:=by decide):QA C K (.Name x p::es) (zf n ms):=by
 obtain⟨ta,c,n',d⟩:=h2
 exact⟨_,fun i=>pa_consF (pe_var (hN i) (hv i) hd hcd) (c i) rfl,by rw [zgb,n'];rfl,ref_consV d⟩
theorem qg_subsl (j:Nat){lo hi:Expr}{p2:Pos}(ho:QE C K o mo)(hl:QE C K lo ml)(hh:QE C K hi mh)
  (ha:∀ i v,assign (.Subscript o (.Slice (some lo) (some hi) none p2) pos) (C i).env v=(do
   let ov ← holding [v] (eval o (C i).env)
   let iv ← holding [v,ov] (eval (.Slice (some lo) (some hi) none p2) (C i).env)
   standAt pos
   holding [v,ov,iv] (setItem ov iv v)
   release [iv,v,ov] []):=by intro _ _;rfl):QG C K none (.Subscript o (.Slice (some lo) (some hi) none p2) pos) (zii j mo ml mh):=by
 obtain⟨to,p,r⟩:=ho
 obtain⟨tl,p',r'⟩:=hl
 obtain⟨th,p'',r''⟩:=hh
 exact⟨_,fun i=>pg_subsl (p i) (zkl (p' i)) (zkl (p'' i)) (ha i),ref_subsl r r' r'',fun f h=>by cases h⟩
theorem qi_enum {p pt:Pos}{elts:List Expr}{k0:Nat}(ck:CK C P W K mg base k)(T:Bi mg)(ha:QA C K [a] ms)(hg:∀ i,Gl (C i) "enumerate" :=by intro _;rfl)(hs:zqf a=false:=by rfl):QI C K (.Tuple elts k0 pt) (.Call (.Name "enumerate" p) [a] [] pos) (zdm ms):=by
 obtain⟨ta,q,_,r⟩:=ha
 exact⟨_,fun i=>ieK (ck.kk i) (hg i) (by rw [ck.mg i];exact T.b_enumerate) (q i) (zza hs),ref_enum r⟩
theorem qss_never {st:List Stmt}:QSs C K st ztd:=⟨fun _ _ _=>False,fun _ _ _ _ _ _ _ h=>h.elim,ref_never⟩
end
variable  {ι : Type}{C:ι->Cx}{P:Program}{W:World}{K:yF}{mg:Str->Option Value}{base:Heap}{k:Nat}
section
variable  {Γ:Gm}{H:Hp}{ρ:Rho}{σ:St}{E:List En}
noncomputable def fgt (i:Nat) (ρ:Rho):Rho:=(zv [i] ρ).set i none
theorem Sim.fgt (S:Sim Γ H ρ σ E)(i:Nat):Sim Γ H (L2.fgt i ρ) σ (zk [i] E):=by
 have S1:=S.kill [i]
 unfold L2.fgt
 cases h:(zv [i] ρ)[i]? with
 | none=>rw [List.set_eq_of_length_le (by simpa using h)];exact S1
 | some o=>
  cases o with
  | none=>
   have:(zv [i] ρ).set i none=zv [i] ρ:=by
    apply List.ext_getElem?
    intro j
    by_cases e:i=j
    ·subst e
     have hl:=(List.getElem?_eq_some_iff.mp h).1
     rw [List.getElem?_set_self hl,h]
    ·rw [List.getElem?_set_ne e]
   rw [this];exact S1
  | some r=>
   obtain⟨v,hv⟩:=S1.al i r h
   have p:=zeb (k:=0) hv h
   have SL:SimL Γ H (⟨some (0+i),v,r⟩::(zk [i] E++ents 0 σ ((zv [i] ρ).set i none))):=S1.sl.perm ((List.Perm.append_left _ p).trans List.perm_middle)
   obtain⟨L,g,e⟩:=SL
   obtain⟨x,L',rfl,ex,eL⟩:=zw e
   have hno:∀ y∈zk [i] E++ents 0 σ (zv [i] ρ),y.r.k.root≠some i:=by
    rw [zre,← zy]
    exact noroot (by simp)
   refine⟨⟨L',g.dropK fun y hy j hj hr=>?_,eL⟩,fun m r' hm=>?_,by rw [List.length_set];exact S1.len,fun y hy j hj=>by rw [List.length_set];exact S1.hi y hy j hj⟩
   ·rw [ex] at hj
    have:j=i:=by simpa using hj.symm
    subst this
    have:y.e∈L'.map (·.e):=List.mem_map.mpr ⟨y,hy,rfl⟩
    rw [eL] at this
    have hp:=(List.Perm.append_left (zk [j] E) p).trans List.perm_middle
    exact hno y.e (hp.mem_iff.mpr (ymC _ this)) hr
   ·by_cases e:i=m
    ·subst e
     rw [List.getElem?_set_self (List.getElem?_eq_some_iff.mp h).1] at hm
     cases hm
    ·rw [List.getElem?_set_ne e] at hm
     exact S1.al m r' hm
noncomputable def fgts:List Nat->Rho->Rho
 | [],ρ=>ρ
 | i::ks,ρ=>fgts ks (fgt i ρ)
theorem Sim.fgts:∀ {ks:List Nat} {ρ:Rho} {E:List En},Sim Γ H ρ σ E->Sim Γ H (L2.fgts ks ρ) σ (zk ks E)
 | [],ρ,E,S=>by rw [zqb];exact S
 | i::ks,ρ,E,S=>by
  have:=Sim.fgts (ks:=ks) (S.fgt i)
  rw [zi] at this
  exact this
@[irreducible] noncomputable def mFgt (ks:List Nat)(s:MS):MS:=⟨fun ρ=>match s.run ρ with
 | some (.nx,ρ1)=>some (.nx,fgts ks ρ1)
 | some (.ct,ρ1)=>some (.ct,fgts ks ρ1)
 | some (.rt t,ρ1)=>some (.rt t,ρ1)
 | some (.bk,ρ1)=>some (.bk,ρ1)
 | none=>none,s.mu++ks⟩
theorem ref_fgt {ks:List Nat}{ts:TS}{s:MS}(h:RefS K ts s):RefS K ts (mFgt ks s):=by
 intro Γ H ρ σ E D f ρ' hK hE hr S q
 simp only [mFgt] at hr q
 split at hr
 ·rename_i ρ1 e1
  cases hr
  exact h Γ H ρ σ E D _ _ hK hE e1 S fun σ' H' S'=>q σ' H' (by rw [← zi];exact S'.fgts)
 ·rename_i ρ1 e1
  cases hr
  exact h Γ H ρ σ E D _ _ hK hE e1 S fun σ' H' S'=>q σ' H' (by rw [← zi];exact S'.fgts)
 ·rename_i t ρ1 e1
  cases hr
  exact h Γ H ρ σ E D _ _ hK hE e1 S q.weak
 ·rename_i ρ1 e1
  cases hr
  exact h Γ H ρ σ E D _ _ hK hE e1 S q.weak
 ·cases hr
theorem qs_fgt (ks:List Nat){st:Stmt}{s:MS}(h:QS C K st s):QS C K st (mFgt ks s):=by
 obtain⟨t,p,r⟩:=h
 exact⟨t,p,ref_fgt r⟩
theorem zwa (ks:List Nat){st:List Stmt}{s:MS}(h:QSs C K st s):QSs C K st (mFgt ks s):=by
 obtain⟨t,p,r⟩:=h
 exact⟨t,p,ref_fgt r⟩
end
noncomputable def scs:List I->Option (List V)
 | []=>some []
 | i::is=>match i.sc,scs is with
  | some v,some vs=>some (v::vs)
  | _,_=>none
theorem rpis_scs:∀ {is:List I} {xs:List V},scs is=some xs->∀ H,RpIs K H is xs
 | [],xs,h,H=>by cases h;rw [RpIs]
 | i::is,xs,h,H=>by
  rw [scs] at h
  split at h
  ·rename_i v vs h1 h2
   cases h
   exact .cons (zvk h1) (rpis_scs h2 H)
  ·cases h
theorem q_globTT {x:Str}{xs:List V}{is:List I}{pos:Pos}(ck:CK C P W K mg base k)(h:∃ a,Glob mg x (.ref a)/\TupAt K a xs)(hs:scs is=some xs:=by rfl)(hg:∀ i,Gl (C i) x:=by intro _;rfl)(hd:(x == ("__debug__" : Str))=false:=by decide):QE C K (.Name x pos) (mC (.tup is)):=by
 obtain⟨a,h1,h2⟩:=h
 exact q_globT ck h1 h2 (rpis_scs hs) hg hd
structure W1 {α:Type}(o:Option α)(Q : α->Prop):Prop where
 ex:∃ x,o=some x/\Q x
structure W2 {α β:Type}(o:Option (α × β))(Q : α->β->Prop):Prop where
 ex:∃ x y,o=some (x,y)/\Q x y
structure WE (m:ME)(ρ:Rho)(Q:R->Rho->Prop):Prop where
 ex:∃ x y,m.run ρ=some (x,y)/\Q x y
structure WT (m:MT)(ρ:Rho)(Q:Bool->Rho->Prop):Prop where
 ex:∃ x y,m.run ρ=some (x,y)/\Q x y
structure WA (m:MA)(ρ:Rho)(Q:List R->Rho->Prop):Prop where
 ex:∃ x y,m.run ρ=some (x,y)/\Q x y
structure WS (m:MS)(ρ:Rho)(Q:Fl->Rho->Prop):Prop where
 ex:∃ x y,m.run ρ=some (x,y)/\Q x y
structure WG (m:MG)(r:R)(ρ:Rho)(Q:Rho->Prop):Prop where
 ex:∃ x,m.run r ρ=some x/\Q x
structure WGs (m:MGs)(rs:List R)(ρ:Rho)(Q:Rho->Prop):Prop where
 ex:∃ x,m.run rs ρ=some x/\Q x
structure WI (m:MI)(ρ:Rho)(Q:List R->List R->Rho->Prop):Prop where
 ex:∃ r rs ρ',m.run ρ=some ((r,rs),ρ')/\Q r rs ρ'
structure WO (m:MO)(ρ:Rho)(Q:Option Int->Rho->Prop):Prop where
 ex:∃ x y,m.run ρ=some (x,y)/\Q x y
structure Gu (b:Bool)(P:Prop):Prop where
 ex:b=true/\P
structure IsB (t:T)(Q:Bool->Prop):Prop where
 ex:∃ b,t = .im (.bl b)/\Q b
structure IsN (t:T)(Q:Int->Prop):Prop where
 ex:∃ n,t = .im (.int n)/\Q n
structure AtV (n:Nat)(ρ:Rho)(Q:R->Prop):Prop where
 ex:∃ r,ρ[n]?=some (some r)/\Q r
structure AtC (k j:Nat)(rs:List R)(ρ:Rho)(Q:List Ac->Kd->T->Prop):Prop where
 ex:∃ p t1 kd t0,rs[k]?=some ⟨.vw (some j) (some p),t1⟩/\((List.range rs.length).all fun m=>decide (m=k) || alive [j] (rs.getD m ⟨.ow,.im .non⟩))=true/\ρ[j]?=some (some ⟨kd,t0⟩)/\kd.isOw=true/\Q p kd t0
structure AtT (k:Nat)(rs:List R)(P:Prop):Prop where
 ex:∃ t1,rs[k]?=some ⟨.ow,t1⟩/\P
structure AtM (l:Nat)(ρ:Rho)(Q:Kd->T->Prop):Prop where
 ex:∃ k t,ρ[l]?=some (some ⟨k,t⟩)/\k.isOw=true/\Q k t
structure AtS (j:Nat)(r:R)(Q:List Ac->T->Prop):Prop where
 ex:∃ p s,r=⟨.vw (some j) (some p),s⟩/\Q p s
structure Two (rs:List R)(Q:R->R->Prop):Prop where
 ex:∃ r1 r2,rs = [r1,r2]/\Q r1 r2
structure Three (rs:List R)(Q:R->R->R->Prop):Prop where
 ex:∃ r1 r2 r3,rs = [r1,r2,r3]/\Q r1 r2 r3
structure Int1 (rs:List R)(Q:Int->Prop):Prop where
 ex:∃ n,rs.map (·.t) = [.im (.int n)]/\Q n
structure Int2 (rs:List R)(Q:Int->Int->Prop):Prop where
 ex:∃ m n,rs.map (·.t) = [.im (.int m),.im (.int n)]/\Q m n
theorem is_B {b:Bool}{Q:Bool->Prop}(q:Q b):IsB (.im (.bl b)) Q:=⟨b,rfl,q⟩
theorem is_N {n:Int}{Q:Int->Prop}(q:Q n):IsN (.im (.int n)) Q:=⟨n,rfl,q⟩
theorem at_V {n:Nat}{ρ:Rho}{r:R}{Q:R->Prop}(h : ρ[n]?=some (some r))(q:Q r):AtV n ρ Q:=⟨r,h,q⟩
theorem at_C {k j:Nat}{rs:List R}{ρ:Rho}{p:List Ac}{t1 t0:T}{kd:Kd}{Q:List Ac->Kd->T->Prop}(h1:rs[k]?=some ⟨.vw (some j) (some p),t1⟩)(h2:((List.range rs.length).all fun m=>decide (m=k) || alive [j] (rs.getD m ⟨.ow,.im .non⟩))=true)(h3 : ρ[j]?=some (some ⟨kd,t0⟩))(h4:kd.isOw=true)(q:Q p kd t0):AtC k j rs ρ Q:=⟨p,t1,kd,t0,h1,h2,h3,h4,q⟩
theorem at_T {k:Nat}{rs:List R}{t1:T}{P:Prop}(h:rs[k]?=some ⟨.ow,t1⟩)(q:P):AtT k rs P:=⟨t1,h,q⟩
theorem at_M {l:Nat}{ρ:Rho}{k:Kd}{t:T}{Q:Kd->T->Prop}(h : ρ[l]?=some (some ⟨k,t⟩))(ho:k.isOw=true)(q:Q k t):AtM l ρ Q:=⟨k,t,h,ho,q⟩
theorem at_S {j:Nat}{p:List Ac}{s:T}{Q:List Ac->T->Prop}(q:Q p s):AtS j ⟨.vw (some j) (some p),s⟩ Q:=⟨p,s,rfl,q⟩
theorem two_of {r1 r2:R}{Q:R->R->Prop}(q:Q r1 r2):Two [r1,r2] Q:=⟨r1,r2,rfl,q⟩
theorem int1_of {rs:List R}{n:Int}{Q:Int->Prop}(h:rs.map (·.t) = [.im (.int n)])(q:Q n):Int1 rs Q:=⟨n,h,q⟩
theorem int2_of {rs:List R}{m n:Int}{Q:Int->Int->Prop}(h:rs.map (·.t) = [.im (.int m),.im (.int n)])(q:Q m n):Int2 rs Q:=⟨m,n,h,q⟩
section
variable  {α β:Type}{ρ:Rho}{a b c m:ME}{ms:MA}{ct ct':MT}{s1 s2:MS}{g:MG}{gs:MGs}{it:MI}{QE':R->Rho->Prop}{QT':Bool->Rho->Prop}{QA':List R->Rho->Prop}{Q:Fl->Rho->Prop}{QG':Rho->Prop}{P:Prop}{o:Option α}{x : α}{Q1 : α->Prop}
theorem w1 (h:o=some x)(q:Q1 x):W1 o Q1:=⟨x,h,q⟩
theorem gu {b:Bool}(h:b=true)(p:P):Gu b P:=⟨h,p⟩
theorem WS.mono {Q2:Fl->Rho->Prop}(h:WS s1 ρ Q)(k:∀ f ρ,Q f ρ->Q2 f ρ):WS s1 ρ Q2:=by obtain⟨x,y,e,q⟩:=h;exact⟨x,y,e,k x y q⟩
theorem WG.mono {r:R}{Q1 Q2:Rho->Prop}(h:WG g r ρ Q1)(k:∀ ρ,Q1 ρ->Q2 ρ):WG g r ρ Q2:=by obtain⟨x,e,q⟩:=h;exact⟨x,e,k x q⟩
theorem WA.mono {Q1 Q2:List R->Rho->Prop}(h:WA ms ρ Q1)(k:∀ rs ρ,Q1 rs ρ->Q2 rs ρ):WA ms ρ Q2:=by obtain⟨x,y,e,q⟩:=h;exact⟨x,y,e,k x y q⟩
theorem WT.mono {Q1 Q2:Bool->Rho->Prop}(h:WT ct ρ Q1)(k:∀ b ρ,Q1 b ρ->Q2 b ρ):WT ct ρ Q2:=by obtain⟨x,y,e,q⟩:=h;exact⟨x,y,e,k x y q⟩
theorem WE.mono {Q2:R->Rho->Prop}(h:WE m ρ QE')(k:∀ f ρ,QE' f ρ->Q2 f ρ):WE m ρ Q2:=by obtain⟨x,y,e,q⟩:=h;exact⟨x,y,e,k x y q⟩
theorem w_C {i:I}(q:QE' ⟨.ow,.im i⟩ ρ):WE (mC i) ρ QE':=by with_unfolding_all exact⟨_,_,rfl,q⟩
theorem zym {n:Nat}{r:R}(h : ρ[n]?=some (some r))(q:QE' (rdR n r) ρ):WE (mVar n) ρ QE':=⟨rdR n r,ρ,by simp only [mVar,h],q⟩
theorem w_op {f:T->T->Option T}(h:WE a ρ fun ra ρ1=>WE b ρ1 fun rb ρ2=>Gu (alive b.mu ra) (W1 (f ra.t rb.t) fun t=>QE' ⟨.ow,t⟩ ρ2)):WE (mOp f a b) ρ QE':=by
 obtain⟨ra,ρ1,e1,rb,ρ2,e2,al,t,e3,q⟩:=h
 exact⟨⟨.ow,t⟩,ρ2,by simp only [mOp,e1,e2,al,if_true,e3],q⟩
theorem w_un {f:T->Option T}(h:WE a ρ fun ra ρ1=>W1 (f ra.t) fun t=>QE' ⟨.ow,t⟩ ρ1):WE (mUn f a) ρ QE':=by
 obtain⟨ra,ρ1,e1,t,e3,q⟩:=h
 exact⟨⟨.ow,t⟩,ρ1,by simp only [mUn,e1,e3],q⟩
theorem w_B {f:List T->Option T}(h:WA ms ρ fun rs ρ1=>W1 (f (rs.map (·.t))) fun t=>QE' ⟨.ow,t⟩ ρ1):WE (mB f ms) ρ QE':=by
 obtain⟨ra,ρ1,e1,t,e3,q⟩:=h
 exact⟨⟨.ow,t⟩,ρ1,by simp only [mB,e1,e3],q⟩
theorem w_M {f:T->List T->Option T}(h:WE a ρ fun ra ρ1=>WA ms ρ1 fun rs ρ2=>Gu (alive ms.mu ra) (W1 (f ra.t (rs.map (·.t))) fun t=>QE' ⟨.ow,t⟩ ρ2)):WE (mM f a ms) ρ QE':=by
 obtain⟨ra,ρ1,e1,rb,ρ2,e2,al,t,e3,q⟩:=h
 exact⟨⟨.ow,t⟩,ρ2,by simp only [mM,e1,e2,al,if_true,e3],q⟩
theorem w_chain {f f':T->T->Option T}(h:WE a ρ fun ra ρ1=>WE b ρ1 fun rb ρ2=>Gu (alive b.mu ra && alive c.mu rb) (W1 (f ra.t rb.t) fun t=>IsB t fun bb=>(bb=true->WE c ρ2 fun rc ρ3=>W1 (f' rb.t rc.t) fun t=>QE' ⟨.ow,t⟩ ρ3)/\(bb=false->QE' ⟨.ow,.im (.bl false)⟩ ρ2))):WE (zte f f' a b c) ρ QE':=by
 obtain⟨ra,ρ1,e1,rb,ρ2,e2,al,_,e3,bb,rfl,q1,q2⟩:=h
 cases bb with
 | true=>
  obtain⟨rc,ρ3,e4,t,e5,q⟩:=q1 rfl
  exact⟨⟨.ow,t⟩,ρ3,by simp only [zte,e1,e2,al,if_true,e3,e4,e5],q⟩
 | false=>exact⟨⟨.ow,.im (.bl false)⟩,ρ2,by simp only [zte,e1,e2,al,if_true,e3],q2 rfl⟩
theorem w_ix (h:WE a ρ fun ra ρ1=>WE b ρ1 fun rb ρ2=>Gu (alive b.mu ra) (W1 (ixR ra rb.t) fun r=>QE' r ρ2)):WE (mIx a b) ρ QE':=by
 obtain⟨ra,ρ1,e1,rb,ρ2,e2,al,r,e3,q⟩:=h
 exact⟨r,ρ2,by simp only [mIx,e1,e2,al,if_true,e3],q⟩
theorem wo_none {QO':Option Int->Rho->Prop}(q:QO' none ρ):WO mNoPart ρ QO':=by with_unfolding_all exact⟨_,_,rfl,q⟩
theorem wo_some {QO':Option Int->Rho->Prop}(h:WE a ρ fun r ρ1=>IsN r.t fun n=>QO' (some n) ρ1):WO (zkg a) ρ QO':=by
 obtain⟨⟨k,t⟩,ρ1,e1,n,e2,q⟩:=h
 cases e2
 exact⟨some n,ρ1,by simp only [zkg,e1],q⟩
theorem w_sl {lo hi:MO}(h:WE a ρ fun ra ρ1=>WO lo ρ1 fun l ρ2=>WO hi ρ2 fun u ρ3=>Gu (alive (lo.mu++hi.mu) ra) (W1 (slR ra l u) fun r=>QE' r ρ3)):WE (mSl a lo hi) ρ QE':=by
 obtain⟨ra,ρ1,e1,l,ρ2,e2,u,ρ3,e3,al,r,e4,q⟩:=h
 exact⟨r,ρ3,by simp only [mSl,e1,e2,e3,al,if_true,e4],q⟩
theorem w_lstD {mv:List Nat}(h:WA ms ρ fun rs ρ1=>Gu (decide (rs.length<=1000)) (W2 (consL mv rs ρ1) fun ts ρ2=>QE' ⟨.ow,znc ts⟩ ρ2)):WE (zcb mv ms) ρ QE':=by
 obtain⟨rs,ρ1,e1,hl,ts,ρ2,e2,q⟩:=h
 exact⟨⟨.ow,znc ts⟩,ρ2,by simp only [zcb,e1,if_pos (of_decide_eq_true hl),e2],q⟩
theorem w_tupD {mv:List Nat}(h:WA ms ρ fun rs ρ1=>Gu (decide (rs.length<=1000)) (W2 (consL mv rs ρ1) fun ts ρ2=>QE' ⟨.ow,zom ts⟩ ρ2)):WE (zz mv ms) ρ QE':=by
 obtain⟨rs,ρ1,e1,hl,ts,ρ2,e2,q⟩:=h
 exact⟨⟨.ow,zom ts⟩,ρ2,by simp only [zz,e1,if_pos (of_decide_eq_true hl),e2],q⟩
theorem w_callI {k j:Nat}{run:List T->Option (T×T)}(h:WA ms ρ fun rs ρ1=>AtC k j rs ρ1 fun p kd t0=>W2 (run (rs.map (·.t))) fun t s'=>QE' ⟨.ow,t⟩ ((zv [j] ρ1).set j (some ⟨kd,t0.put p s'⟩))):WE (zq k j run ms) ρ QE':=by
 obtain⟨rs,ρ1,e1,p,t1,kd,t0,e2,al,e3,ow,t,s',e4,q⟩:=h
 refine⟨⟨.ow,t⟩,(zv [j] ρ1).set j (some ⟨kd,t0.put p s'⟩),?_,q⟩
 simp only [zq,e1]
 simp only [e2]
 rw [if_pos (by rw [Bool.and_eq_true];exact⟨rfl,al⟩)]
 simp only [e4,e3,ow,if_true]
theorem w_callT {k:Nat}{run:List T->Option (T×T)}(h:WA ms ρ fun rs ρ1=>AtT k rs (W2 (run (rs.map (·.t))) fun t _=>QE' ⟨.ow,t⟩ ρ1)):WE (zij k run ms) ρ QE':=by
 obtain⟨rs,ρ1,e1,t1,e2,t,s',e4,q⟩:=h
 exact⟨⟨.ow,t⟩,ρ1,by simp only [zij,e1,e2,e4],q⟩
theorem zzn {l:Nat}{mv:List Nat}{f:T->List T->Option (T×I)}(h:WE a ρ fun ra ρ1=>WA ms ρ1 fun rs ρ2=>Gu (alive ms.mu ra) (W2 (mutR l mv f ra rs ρ2) QE')):WE (mMut l mv f a ms) ρ QE':=by
 obtain⟨ra,ρ1,e1,rs,ρ2,e2,al,p,ρ3,e3,q⟩:=h
 exact⟨p,ρ3,by simp only [mMut,e1,e2,al,if_true,e3],q⟩
theorem w_mut0 {l:Nat}{f:T->List T->Option (T×I)}(h:WE a ρ fun ra ρ1=>W2 (mutR l [] f ra [] ρ1) QE'):WE (zem l f a) ρ QE':=by
 obtain⟨ra,ρ1,e1,p,ρ3,e3,q⟩:=h
 exact⟨p,ρ3,by simp only [zem,e1,e3],q⟩
theorem zxm {l:Nat}{mv:List Nat}{f:T->List T->Option (T×I)}{p:List Ac}{s:T}{rs:List R}{QQ:R->Rho->Prop}(hm:mv.contains l=false)(h:W2 (consL mv rs ρ) fun ts ρ2=>AtM l ρ2 fun k t=>W2 (f s ts) fun s' res=>QQ ⟨.ow,.im res⟩ ((zv [l] ρ2).set l (some ⟨k,t.put p s'⟩))):W2 (mutR l mv f ⟨.vw (some l) (some p),s⟩ rs ρ) QQ:=by
 obtain⟨ts,ρ2,hc,k,t,ho,hk,s',res,e,q⟩:=h
 refine⟨_,_,?_,q⟩
 unfold mutR
 simp only [decide_true,hm,hc,e,ho,hk,Bool.not_false,Bool.and_self,if_true]
theorem wa_nil (q:QA' [] ρ):WA mNil ρ QA':=by with_unfolding_all exact⟨_,_,rfl,q⟩
theorem wa_cons (h:WE m ρ fun r ρ1=>WA ms ρ1 fun rs ρ2=>Gu (alive ms.mu r) (QA' (r::rs) ρ2)):WA (ze m ms) ρ QA':=by
 obtain⟨ra,ρ1,e1,rb,ρ2,e2,al,q⟩:=h
 exact⟨ra::rb,ρ2,by simp only [ze,e1,e2,al,if_true],q⟩
theorem wa_consV {n:Nat}{r0:R}(h0 : ρ[n]?=some (some r0))(h:WA ms ρ fun rs ρ2=>AtV n ρ2 fun r=>QA' (rdR n r::rs) ρ2):WA (zf n ms) ρ QA':=by
 obtain⟨rs,ρ2,e1,r,e2,q⟩:=h
 exact⟨rdR n r::rs,ρ2,by simp only [zf,e1,e2,h0],q⟩
theorem wt_test (h:WE a ρ fun r ρ1=>IsB r.t fun bb=>QT' bb ρ1):WT (zoa a) ρ QT':=by
 obtain⟨⟨k,t⟩,ρ1,e1,bb,e2,q⟩:=h
 cases e2
 exact⟨bb,ρ1,by simp only [zoa,e1],q⟩
theorem wt_tru (h:WE a ρ fun r ρ1=>W1 (tru r.t) fun bb=>QT' bb ρ1):WT (mTru a) ρ QT':=by
 obtain⟨r,ρ1,e1,bb,e2,q⟩:=h
 exact⟨bb,ρ1,by simp only [mTru,e1,e2],q⟩
theorem wt_not (h:WT ct ρ fun bb ρ1=>QT' (!bb) ρ1):WT (mNot ct) ρ QT':=by
 obtain⟨r,ρ1,e1,q⟩:=h
 exact⟨_,_,by simp only [mNot,e1],q⟩
theorem wt_and (h:WT ct ρ fun bb ρ1=>(bb=true->WT ct' ρ1 QT')/\(bb=false->QT' false ρ1)):WT (mAnd ct ct') ρ QT':=by
 obtain⟨bb,ρ1,e1,q1,q2⟩:=h
 cases bb with
 | true=>obtain⟨p,ρ2,e,q⟩:=q1 rfl;exact⟨p,ρ2,by simp only [mAnd,e1,e],q⟩
 | false=>exact⟨_,_,by simp only [mAnd,e1],q2 rfl⟩
theorem wt_or (h:WT ct ρ fun bb ρ1=>(bb=true->QT' true ρ1)/\(bb=false->WT ct' ρ1 QT')):WT (mOr ct ct') ρ QT':=by
 obtain⟨bb,ρ1,e1,q1,q2⟩:=h
 cases bb with
 | false=>obtain⟨p,ρ2,e,q⟩:=q2 rfl;exact⟨p,ρ2,by simp only [mOr,e1,e],q⟩
 | true=>exact⟨_,_,by simp only [mOr,e1],q1 rfl⟩
theorem zwk (q:QT' true ρ):WT mYes ρ QT':=by with_unfolding_all exact⟨_,_,rfl,q⟩
theorem wg_name {i:Nat}{r:R}(h:(zri ρ i && alive [i] r)=true)(q:QG' ((zv [i] ρ).set i (some r))):WG (zl i) r ρ QG':=⟨(zv [i] ρ).set i (some r),by simp only [zl,h,if_true],q⟩
theorem wgs_nil (q:QG' ρ):WGs mGNil [] ρ QG':=by with_unfolding_all exact⟨_,rfl,q⟩
theorem wgs_cons {r:R}{rs:List R}(al:rs.all (alive g.mu)=true)(h:WG g r ρ fun ρ1=>WGs gs rs ρ1 QG'):WGs (zea g gs) (r::rs) ρ QG':=by
 obtain⟨ρ1,e1,ρ2,e2,q⟩:=h
 exact⟨ρ2,by simp only [zea,al,if_true,e1,e2],q⟩
theorem wg_tup {r:R}{rs:List R}(hp:parts r=some rs)(h:WGs gs rs ρ QG'):WG (zbe gs) r ρ QG':=by
 obtain⟨ρ2,e2,q⟩:=h
 exact⟨ρ2,by simp only [zbe,hp,e2],q⟩
theorem wg_sub {j:Nat}{tv:T}(h:WE a ρ fun ra ρ1=>WE b ρ1 fun rb ρ2=>AtS j ra fun p s=>Gu (!b.mu.contains j) (AtM j ρ2 fun k t=>W1 (setT s rb.t tv) fun s'=>QG' ((zv [j] ρ2).set j (some ⟨k,t.put p s'⟩)))):WG (mSub j a b) ⟨.ow,tv⟩ ρ QG':=by
 obtain⟨ra,ρ1,e1,rb,ρ2,e2,p,s,rfl,hm,k,t,e3,ow,s',e4,q⟩:=h
 refine⟨_,?_,q⟩
 simp only [mSub,e1,e2,hm,decide_true,Bool.and_self,if_true,e4,e3,ow]
theorem wg_subsl {j:Nat}{ys:List I}(h:WE a ρ fun ra ρ1=>WE b ρ1 fun rb ρ2=>WE c ρ2 fun rc ρ3=>∃ p xs k t i n,ra=⟨.vw (some j) (some p),.li xs⟩/\rb.t = .im (.int i)/\rc.t = .im (.int n)/\(b.mu++c.mu).contains j=false/\(0<=i/\i<=n/\n<=xs.length/\xs.length+ys.length<=sizeLine)/\ρ3[j]?=some (some ⟨k,t⟩)/\k.isOw=true/\QG' ((zv [j] ρ3).set j (some ⟨k,t.put p (.li (xs.take i.toNat++ys++xs.drop n.toNat))⟩))):WG (zii j a b c) ⟨.ow,.li ys⟩ ρ QG':=by
 obtain⟨ra,ρ1,e1,⟨_,_⟩,ρ2,e2,⟨_,_⟩,ρ3,e3,p,xs,k,t,i,n,rfl,rfl,rfl,hm,hz,e4,ow,q⟩:=h
 refine⟨_,?_,q⟩
 simp only [zii,e1,e2,e3,hm,decide_true,Bool.not_false,Bool.true_and]
 rw [if_pos (decide_eq_true hz)]
 simp only [e4,ow,if_true]
theorem w_next (q:Q .nx ρ):WS mNext ρ Q:=by with_unfolding_all exact⟨_,_,rfl,q⟩
@[irreducible] def fSeq (b:MS)(Q:Fl->Rho->Prop):Fl->Rho->Prop
 | .nx,ρ=>WS b ρ Q
 | .rt t,ρ=>Q (.rt t) ρ
 | .bk,ρ=>Q .bk ρ
 | .ct,ρ=>Q .ct ρ
theorem w_seq (h:WS s1 ρ (fSeq s2 Q)):WS (mSeq s1 s2) ρ Q:=by with_unfolding_all
 obtain⟨f,ρ1,e1,q⟩:=h
 cases f with
 | nx=>have q:WS s2 ρ1 Q:=q;obtain⟨p,ρ2,e,q⟩:=q;exact⟨p,ρ2,by simp only [mSeq,e1,e],q⟩
 | rt t=>exact⟨.rt t,ρ1,by simp only [mSeq,e1],q⟩
 | bk=>exact⟨.bk,ρ1,by simp only [mSeq,e1],q⟩
 | ct=>exact⟨.ct,ρ1,by simp only [mSeq,e1],q⟩
theorem w_if (h:WT ct ρ fun bb ρ1=>(bb=true->WS s1 ρ1 Q)/\(bb=false->WS s2 ρ1 Q)):WS (mIf ct s1 s2) ρ Q:=by
 obtain⟨bb,ρ1,e1,q1,q2⟩:=h
 cases bb with
 | true=>obtain⟨p,ρ2,e,q⟩:=q1 rfl;exact⟨p,ρ2,by simp only [mIf,e1,e],q⟩
 | false=>obtain⟨p,ρ2,e,q⟩:=q2 rfl;exact⟨p,ρ2,by simp only [mIf,e1,e],q⟩
theorem zwm (h:WE m ρ fun _ ρ1=>Q .nx ρ1):WS (zrb m) ρ Q:=by
 obtain⟨r,ρ1,e1,q⟩:=h
 exact⟨.nx,ρ1,by simp only [zrb,e1],q⟩
theorem w_asg (h:WE m ρ fun r ρ1=>WG g r ρ1 fun ρ2=>Q .nx ρ2):WS (mAsg m g) ρ Q:=by
 obtain⟨r,ρ1,e1,ρ2,e2,q⟩:=h
 exact⟨.nx,ρ2,by simp only [mAsg,e1,e2],q⟩
theorem w_ret (h:WE m ρ fun r ρ1=>W2 (retR r ρ1) fun t ρ2=>Q (.rt t) ρ2):WS (mRet m) ρ Q:=by
 obtain⟨r,ρ1,e1,t,ρ2,e2,q⟩:=h
 exact⟨.rt t,ρ2,by simp only [mRet,e1,e2],q⟩
theorem w_par {i j:Nat}(h:WA ms ρ fun rs ρ1=>Two rs fun r1 r2=>Gu (zpk r1 && zpk r2) (Gu (zri ρ1 i && alive [i] r1 && alive [i] r2 && zri ρ1 j && alive [j] r2) (Q .nx ((zv [j] ((zv [i] ρ1).set i (some r1))).set j (some r2))))):WS (zfm i j ms) ρ Q:=by
 obtain⟨rs,ρ1,e1,r1,r2,rfl,hb,hc,q⟩:=h
 refine⟨.nx,(zv [j] ((zv [i] ρ1).set i (some r1))).set j (some r2),?_,q⟩
 rw [Bool.and_eq_true] at hb
 simp only [zfm,mPar,e1,List.all_cons,List.all_nil,hb.1,hb.2,Bool.and_true,Bool.and_self,if_true,hc]
@[irreducible] def fFgt (ks:List Nat)(Q:Fl->Rho->Prop):Fl->Rho->Prop
 | .nx,ρ=>Q .nx (fgts ks ρ)
 | .ct,ρ=>Q .ct (fgts ks ρ)
 | .rt t,ρ=>Q (.rt t) ρ
 | .bk,ρ=>Q .bk ρ
theorem w_fgt {ks:List Nat}(h:WS s1 ρ (fFgt ks Q)):WS (mFgt ks s1) ρ Q:=by with_unfolding_all
 obtain⟨f,ρ1,e1,q⟩:=h
 cases f with
 | nx=>exact⟨_,_,by simp only [mFgt,e1],q⟩
 | ct=>exact⟨_,_,by simp only [mFgt,e1],q⟩
 | rt t=>exact⟨_,_,by simp only [mFgt,e1],q⟩
 | bk=>exact⟨_,_,by simp only [mFgt,e1],q⟩
def fFor (Inv:Nat->Rho->Prop)(i:Nat)(Q:Fl->Rho->Prop):Fl->Rho->Prop
 | .nx,ρ=>Inv (i+1) ρ
 | .ct,ρ=>Inv (i+1) ρ
 | .bk,ρ=>Q .nx ρ
 | .rt t,ρ=>Q (.rt t) ρ
theorem for_run {items:List R}(Inv:Nat->Rho->Prop)(hs:∀ i r ρ,items[i]?=some r->Inv i ρ->WG g r ρ fun ρ1=>WS s1 ρ1 (fFor Inv i Q))(he:∀ ρ,Inv items.length ρ->Q .nx ρ):∀ (l:List R) (i:Nat) (ρ:Rho),items.drop i=l->i<=items.length->Inv i ρ->W2 (zig g.run s1.run l ρ) Q
 | [],i,ρ,hl,hi,hI=>by
  have:i=items.length:=by have:=congrArg List.length hl;simp at this;omega
  subst this
  exact⟨_,_,rfl,he ρ hI⟩
 | r::l,i,ρ,hl,hi,hI=>by
  have hr:items[i]?=some r:=by rw [← List.head?_drop,hl];rfl
  have hlt:=(List.getElem?_eq_some_iff.mp hr).1
  have hl':items.drop (i+1)=l:=by rw [← List.drop_drop,hl];rfl
  obtain⟨ρ1,e1,f,ρ2,e2,q⟩:=hs i r ρ hr hI
  have k:=for_run Inv hs he l (i+1) ρ2 hl' hlt
  simp only [zig,e1,e2]
  cases f with
  | nx=>exact k q
  | ct=>exact k q
  | bk=>exact⟨_,_,rfl,q⟩
  | rt t=>exact⟨_,_,rfl,q⟩
theorem zin (h:WI it ρ fun src items ρ1=>Gu (src.all (alive (g.mu++s1.mu)) && items.all (alive (g.mu++s1.mu))) (∃ Inv:Nat->Rho->Prop,Inv 0 ρ1/\(∀ i r ρ,items[i]?=some r->Inv i ρ->WG g r ρ fun ρ1=>WS s1 ρ1 (fFor Inv i Q))/\∀ ρ,Inv items.length ρ->Q .nx ρ)):WS (mFor it g s1) ρ Q:=by
 obtain⟨src,items,ρ1,e1,al,Inv,h0,hs,he⟩:=h
 obtain⟨p,ρ2,e,q⟩:=for_run (Q:=Q) Inv hs he items 0 ρ1 rfl (Nat.zero_le _) h0
 exact⟨p,ρ2,by simp only [mFor,e1];rw [if_pos al];exact e,q⟩
theorem zlj {M:List Nat}{items:List R}(h:∀ r∈items,r.k = .ow):items.all (alive M)=true:=List.all_eq_true.mpr fun r hr=>by unfold alive zpf;rw [h r hr];rfl
theorem w_forR {i:Nat}(h:WA ms ρ fun rs ρ1=>∃ n:Int,rs.map (·.t) = [.im (.int n)]/\-(2 ^ 62)<=n/\n<2 ^ 62/\(∃ Inv:Nat->Rho->Prop,Inv 0 ρ1/\(∀ (j:Nat) ρ,(j:Int)<n->Inv j ρ->WG (zl i) (rInt j) ρ fun ρ1=>WS s1 ρ1 (fFor Inv j Q))/\∀ ρ,Inv n.toNat ρ->Q .nx ρ)):WS (mFor (zjb ms) (zl i) s1) ρ Q:=by
 obtain⟨rs,ρ1,e1,n,e2,h1,h2,Inv,h0,hs,he⟩:=h
 refine zin ⟨[rNon],rngI 0 n.toNat,ρ1,by simp only [zjb,e1,e2,l1,isI];rw [if_pos ⟨h1,h2⟩],?_,Inv,h0,fun j r ρ hr hI=>?_,fun ρ hI=>he ρ (by simpa [rngI] using hI)⟩
 ·rw [Bool.and_eq_true]
  exact⟨rfl,zlj fun r hr=>by obtain⟨x,_,rfl⟩:=List.mem_map.mp hr;rfl⟩
 ·obtain⟨x,hx,rfl⟩:=zxb hr
  obtain⟨a1,a2⟩:=List.getElem?_eq_some_iff.mp hx
  simp at a1 a2
  subst a2
  have:=hs j ρ (by omega) hI
  rw [Int.zero_add]
  exact this
theorem w_forR2 {i:Nat}(h:WA ms ρ fun rs ρ1=>∃ m n:Int,rs.map (·.t) = [.im (.int m),.im (.int n)]/\(-(2 ^ 62)<=m/\m<2 ^ 62/\-(2 ^ 62)<=n/\n<2 ^ 62)/\(∃ Inv:Nat->Rho->Prop,Inv 0 ρ1/\(∀ (j:Nat) ρ,m+(j:Int)<n->Inv j ρ->WG (zl i) (rInt (m+j)) ρ fun ρ1=>WS s1 ρ1 (fFor Inv j Q))/\∀ ρ,Inv (n - m).toNat ρ->Q .nx ρ)):WS (mFor (zmh ms) (zl i) s1) ρ Q:=by
 obtain⟨rs,ρ1,e1,m,n,e2,h1,Inv,h0,hs,he⟩:=h
 refine zin ⟨[rNon],rngI m (n - m).toNat,ρ1,by simp only [zmh,e1,e2,l2,l1,ii2,isI];rw [if_pos h1],?_,Inv,h0,fun j r ρ hr hI=>?_,fun ρ hI=>he ρ (by simpa [rngI] using hI)⟩
 ·rw [Bool.and_eq_true]
  exact⟨rfl,zlj fun r hr=>by obtain⟨x,_,rfl⟩:=List.mem_map.mp hr;rfl⟩
 ·obtain⟨x,hx,rfl⟩:=zxb hr
  obtain⟨a1,a2⟩:=List.getElem?_eq_some_iff.mp hx
  simp at a1 a2
  subst a2
  exact hs j ρ (by omega) hI
theorem w_forI (h:WE m ρ fun r ρ1=>∃ is:List I,zjg r=some (is.map fun i=>⟨.ow,.im i⟩)/\alive (g.mu++s1.mu) r=true/\(∃ Inv:Nat->Rho->Prop,Inv 0 ρ1/\(∀ j x ρ,is[j]?=some x->Inv j ρ->WG g ⟨.ow,.im x⟩ ρ fun ρ1=>WS s1 ρ1 (fFor Inv j Q))/\∀ ρ,Inv is.length ρ->Q .nx ρ)):WS (mFor (mIt m) g s1) ρ Q:=by
 obtain⟨r,ρ1,e1,is,e2,al,Inv,h0,hs,he⟩:=h
 refine zin ⟨[r],is.map (fun i=>⟨.ow,.im i⟩),ρ1,by simp only [mIt,e1,e2],?_,Inv,h0,fun j r ρ hr hI=>?_,fun ρ hI=>he ρ (by simpa using hI)⟩
 ·rw [Bool.and_eq_true]
  exact⟨by rw [List.all_cons,List.all_nil,al];rfl,zlj fun r hr=>by obtain⟨x,_,rfl⟩:=List.mem_map.mp hr;rfl⟩
 ·obtain⟨x,hx,rfl⟩:=zxb hr
  exact hs j x ρ hx hI
theorem w_while (Inv:Nat->Rho->Prop)(n:Nat)(h0:Inv n ρ) (hs:∀ n ρ,Inv n ρ->WT ct ρ fun bb ρ1=>(bb=false->Q .nx ρ1)/\(bb=true->WS s1 ρ1 fun f ρ2=>match f with
  | .nx=>∃ m,m<n/\Inv m ρ2
  | .ct=>∃ m,m<n/\Inv m ρ2
  | .bk=>Q .nx ρ2
  | .rt t=>Q (.rt t) ρ2)):WS (zlg ct s1) ρ Q:=by
 have key:∀ n ρ,Inv n ρ->W2 (itW ct s1 (n+1) ρ) Q:=by
  intro n
  induction n using Nat.strongRecOn with
  | _ n ih=>
   intro ρ hI
   obtain⟨bb,ρ1,e1,q1,q2⟩:=hs n ρ hI
   cases bb with
   | false=>exact⟨.nx,ρ1,by simp only [itW,e1],q1 rfl⟩
   | true=>
    obtain⟨f,ρ2,e2,q⟩:=q2 rfl
    cases f with
    | nx=>
     obtain⟨m,hm,hI'⟩:=q
     obtain⟨p,ρ3,e,q⟩:=ih m hm ρ2 hI'
     exact⟨p,ρ3,by simp only [itW,e1,e2];exact znf e _ (by omega),q⟩
    | ct=>
     obtain⟨m,hm,hI'⟩:=q
     obtain⟨p,ρ3,e,q⟩:=ih m hm ρ2 hI'
     exact⟨p,ρ3,by simp only [itW,e1,e2];exact znf e _ (by omega),q⟩
    | bk=>exact⟨.nx,ρ2,by simp only [itW,e1,e2],q⟩
    | rt t=>exact⟨.rt t,ρ2,by simp only [itW,e1,e2],q⟩
 obtain⟨p,ρ3,e,q⟩:=key n ρ h0
 exact⟨p,ρ3,while_run e,q⟩
theorem znh {fr:List (Option Nat)}{M:List Nat}{items:List R}{QC:List T->Rho->Prop}(Inv:Nat->List T->Rho->Prop)
  (hs:∀ i r acc ρ,items[i]?=some r->Inv i acc ρ->WG g (renR (piF fr) r) (inR fr ρ) fun ρ1=>WT ct ρ1 fun bb ρ2=>(bb=true->WE m ρ2 fun r ρ3=>∃ t,r=⟨.ow,t⟩/\Inv (i+1) (acc++[t]) (outR fr M ρ3 ρ))/\(bb=false->Inv (i+1) acc (outR fr M ρ2 ρ)))
  (he:∀ acc ρ,Inv items.length acc ρ->QC acc ρ):∀ (l:List R) (i:Nat) (acc:List T) (ρ:Rho),items.drop i=l->i<=items.length->Inv i acc ρ->W2 (zdb fr M g ct m l ρ acc) QC
 | [],i,acc,ρ,hl,hi,hI=>by
  have:i=items.length:=by have:=congrArg List.length hl;simp at this;omega
  subst this
  exact⟨_,_,rfl,he acc ρ hI⟩
 | r::l,i,acc,ρ,hl,hi,hI=>by
  have hr:items[i]?=some r:=by rw [← List.head?_drop,hl];rfl
  have hlt:=(List.getElem?_eq_some_iff.mp hr).1
  have hl':items.drop (i+1)=l:=by rw [← List.drop_drop,hl];rfl
  obtain⟨ρ1,e1,bb,ρ2,e2,q1,q2⟩:=hs i r acc ρ hr hI
  cases bb with
  | true=>
   obtain⟨r',ρ3,e3,t,rfl,q⟩:=q1 rfl
   simp only [zdb,e1,e2,e3]
   exact znh Inv hs he l (i+1) _ _ hl' hlt q
  | false=>
   simp only [zdb,e1,e2]
   exact znh Inv hs he l (i+1) _ _ hl' hlt (q2 rfl)
theorem zvm {fr:List (Option Nat)} (h:WI it ρ fun src items ρ1=>Gu (frOk fr ρ1.length && ztf (g.mu++(ct.mu++m.mu)) fr.length && src.all (alive (muF fr (g.mu++(ct.mu++m.mu))))) (items.length<sizeLine/\∃ Inv:Nat->List T->Rho->Prop,Inv 0 [] ρ1 ∧
  (∀ i r acc ρ,items[i]?=some r->Inv i acc ρ->WG g (renR (piF fr) r) (inR fr ρ) fun ρ1=>WT ct ρ1 fun bb ρ2=>(bb=true->WE m ρ2 fun r ρ3=>∃ t,r=⟨.ow,t⟩/\Inv (i+1) (acc++[t]) (outR fr (g.mu++(ct.mu++m.mu)) ρ3 ρ))/\(bb=false->Inv (i+1) acc (outR fr (g.mu++(ct.mu++m.mu)) ρ2 ρ))) ∧
  ∀ acc ρ,Inv items.length acc ρ->QE' ⟨.ow,znc acc⟩ ρ)):WE (zfb fr it g ct m) ρ QE':=by
 obtain⟨src,items,ρ1,e1,al,hl,Inv,h0,hs,he⟩:=h
 obtain⟨ts,ρ2,e,q⟩:=znh (QC:=fun acc ρ=>QE' ⟨.ow,znc acc⟩ ρ) Inv hs he items 0 [] ρ1 rfl (Nat.zero_le _) h0
 refine⟨⟨.ow,znc ts⟩,ρ2,?_,q⟩
 simp only [zfb,e1]
 rw [if_pos (by rw [Bool.and_eq_true];exact⟨al,decide_eq_true hl⟩)]
 simp only [e]
theorem wi_rng1 {QI':List R->List R->Rho->Prop}(h:WA ms ρ fun rs ρ1=>∃ n:Int,rs.map (·.t) = [.im (.int n)]/\(-(2 ^ 62)<=n/\n<2 ^ 62)/\QI' [rNon] (rngI 0 n.toNat) ρ1):WI (zjb ms) ρ QI':=by
 obtain⟨rs,ρ1,e1,n,e2,h1,q⟩:=h
 exact⟨_,_,_,by simp only [zjb,e1,e2,l1,isI];rw [if_pos h1],q⟩
theorem wi_rng2 {QI':List R->List R->Rho->Prop}(h:WA ms ρ fun rs ρ1=>∃ m n:Int,rs.map (·.t) = [.im (.int m),.im (.int n)]/\(-(2 ^ 62)<=m/\m<2 ^ 62/\-(2 ^ 62)<=n/\n<2 ^ 62)/\QI' [rNon] (rngI m (n - m).toNat) ρ1):WI (zmh ms) ρ QI':=by
 obtain⟨rs,ρ1,e1,m,n,e2,h1,q⟩:=h
 exact⟨_,_,_,by simp only [zmh,e1,e2,l2,l1,ii2,isI];rw [if_pos h1],q⟩
theorem zzm {QI':List R->List R->Rho->Prop}(h:WE m ρ fun r ρ1=>W1 (zjg r) fun rs=>QI' [r] rs ρ1):WI (mIt m) ρ QI':=by
 obtain⟨r,ρ1,e1,rs,e2,q⟩:=h
 exact⟨[r],rs,ρ1,by simp only [mIt,e1,e2],q⟩
theorem wi_enum {QI':List R->List R->Rho->Prop}(h:WA ms ρ fun rs ρ1=>∃ k is,rs = [⟨k,.im (.tup is)⟩]/\QI' [⟨k,.im (.tup is)⟩] (zcj 0 is) ρ1):WI (zdm ms) ρ QI':=by
 obtain⟨rs,ρ1,e1,k,is,rfl,q⟩:=h
 exact⟨_,_,_,by simp only [zdm,e1],q⟩
end
section
variable  {α β:Type}{ρ:Rho}{QT1:T->Prop}{QR:R->Prop}{QI1:T->I->Prop}{m:MS}{n k:Nat}{ts:List T}
@[irreducible] def fP (R:T->Prop):Fl->Rho->Prop
 | .rt t,_=>R t
 | .nx,_=>R (.im .non)
 | _,_=>False
@[irreducible] def fI (k:Nat)(R:T->T->Prop):Fl->Rho->Prop
 | .rt t,ρ=>∃ s',ρ[k]?=some (some ⟨.io 0,s'⟩)/\R t s'
 | .nx,ρ=>∃ s',ρ[k]?=some (some ⟨.io 0,s'⟩)/\R (.im .non) s'
 | _,_=>False
theorem runP_ok {run:List T->Option T}{l:Nat}(hrun:run ts=if ts.length=l then runP m n ts else none)(hl:ts.length=l)(h:WS m (zwd ts n) (fP QT1)):W1 (run ts) QT1:=by with_unfolding_all
 rw [hrun,if_pos hl]
 obtain⟨f,ρ,e,q⟩:=h
 cases f with
 | nx=>exact⟨_,by simp only [runP,e],q⟩
 | rt t=>exact⟨_,by simp only [runP,e],q⟩
 | bk=>cases q
 | ct=>cases q
theorem zdh {run:List T->Option (T×T)}{l:Nat}{Q2:T->T->Prop}(hrun:run ts=if ts.length=l then runI m k n ts else none)(hl:ts.length=l)(h:WS m (zwf k ts n) (fI k Q2)):W2 (run ts) Q2:=by with_unfolding_all
 rw [hrun,if_pos hl]
 obtain⟨f,ρ,e,q⟩:=h
 cases f with
 | nx=>have q:∃ s',ρ[k]?=some (some ⟨.io 0,s'⟩)/\Q2 (.im .non) s':=q;obtain⟨s',e2,q⟩:=q;exact⟨_,_,by simp only [runI,e,e2],q⟩
 | rt t=>have q:∃ s',ρ[k]?=some (some ⟨.io 0,s'⟩)/\Q2 t s':=q;obtain⟨s',e2,q⟩:=q;exact⟨_,_,by simp only [runI,e,e2],q⟩
 | bk=>cases q
 | ct=>cases q
variable  {a b:Int}{s z:Str}{is js:List I}{i j:I}
theorem p_addI (q:QT1 (.im (.int (a+b)))):W1 (addT (.im (.int a)) (.im (.int b))) QT1:=by with_unfolding_all exact⟨_,rfl,q⟩
theorem zzl (h:s.length+z.length<=sizeLine)(q:QT1 (.im (.str (s++z)))):W1 (addT (.im (.str s)) (.im (.str z))) QT1:=by with_unfolding_all exact⟨_,if_pos h,q⟩
theorem p_addT (h:is.length+js.length<=sizeLine)(q:QT1 (.im (.tup (is++js)))):W1 (addT (.im (.tup is)) (.im (.tup js))) QT1:=by with_unfolding_all exact⟨_,if_pos h,q⟩
theorem zqk (h:is.length+js.length<=sizeLine)(q:QT1 (.li (is++js))):W1 (addT (.li is) (.li js)) QT1:=by with_unfolding_all exact⟨_,if_pos h,q⟩
theorem p_sub (q:QT1 (.im (.int (a - b)))):W1 (subT (.im (.int a)) (.im (.int b))) QT1:=by with_unfolding_all exact⟨_,rfl,q⟩
theorem mulL (h1 : -(2 ^ 64)<a)(h2:a<2 ^ 64):zok a b=true:=by unfold zok;simp only [h1,h2,decide_true,Bool.and_self,Bool.true_or]
theorem mulR (h1 : -(2 ^ 64)<b)(h2:b<2 ^ 64):zok a b=true:=by unfold zok;simp only [h1,h2,decide_true,Bool.and_self,Bool.or_true]
theorem zqm (h:zok a b=true)(q:QT1 (.im (.int (a * b)))):W1 (mulT (.im (.int a)) (.im (.int b))) QT1:=by with_unfolding_all exact⟨_,if_pos h,q⟩
theorem p_mulT (h:is≠[]/\is.length<=1000/\1<=b/\b<=1000)(q:QT1 (.im (.tup (List.replicate b.toNat is).flatten))):W1 (mulT (.im (.tup is)) (.im (.int b))) QT1:=by with_unfolding_all exact⟨_,if_pos h,q⟩
theorem p_mulL (h : -(2 ^ 63)<=b/\b<2 ^ 63/\is.length * b.toNat<=sizeLine)(q:QT1 (.li (List.replicate b.toNat is).flatten)):W1 (mulT (.li is) (.im (.int b))) QT1:=by with_unfolding_all exact⟨_,if_pos h,q⟩
theorem p_fdiv (h:0<b/\b<2 ^ 64)(q:QT1 (.im (.int (a / b)))):W1 (zpj (.im (.int a)) (.im (.int b))) QT1:=by with_unfolding_all exact⟨_,if_pos h,q⟩
theorem zon (h:0<b)(q:QT1 (.im (.int (a % b)))):W1 (modT (.im (.int a)) (.im (.int b))) QT1:=by with_unfolding_all exact⟨_,if_pos h,q⟩
theorem zpn (h:0<=b/\b<=1000000/\a.natAbs<2 ^ 64)(q:QT1 (.im (.int (a ^ b.toNat)))):W1 (powT (.im (.int a)) (.im (.int b))) QT1:=by with_unfolding_all exact⟨_,if_pos h,q⟩
theorem p_cmp {p:Int->Int->Bool}(q:QT1 (.im (.bl (p a b)))):W1 (cmpT p (.im (.int a)) (.im (.int b))) QT1:=by with_unfolding_all exact⟨_,rfl,q⟩
theorem p_eqI (q:QT1 (.im (.bl (decide (a=b))))):W1 (eqT (.im (.int a)) (.im (.int b))) QT1:=by with_unfolding_all exact⟨_,rfl,by simpa using q⟩
theorem p_neI (q:QT1 (.im (.bl (!decide (a=b))))):W1 (neT (.im (.int a)) (.im (.int b))) QT1:=by with_unfolding_all exact⟨_,rfl,by simpa using q⟩
theorem p_eqS (q:QT1 (.im (.bl (decide (s=z))))):W1 (eqT (.im (.str s)) (.im (.str z))) QT1:=by with_unfolding_all exact⟨_,rfl,by simpa using q⟩
theorem p_eqL (h:I.doks is=true/\I.doks js=true/\I.deps is<=50)(q:QT1 (.im (.bl (decide (is=js))))):W1 (eqT (.li is) (.li js)) QT1:=⟨_,by simp only [eqT,eqB];rw [if_pos h];rfl,q⟩
theorem p_inS (q:QT1 (.im (.bl (occ s z)))):W1 (inT (.im (.str s)) (.im (.str z))) QT1:=by with_unfolding_all exact⟨_,rfl,q⟩
theorem inB_t (h:i.dok=true/\I.doks is=true/\I.deps is<=50):inB (.im i) (.im (.tup is))=some (decide (i∈is)):=by cases i<;>exact if_pos h
theorem p_inT (h:i.dok=true/\I.doks is=true/\I.deps is<=50)(q:QT1 (.im (.bl (decide (i∈is))))):W1 (inT (.im i) (.im (.tup is))) QT1:=⟨_,by unfold inT;rw [inB_t h];rfl,q⟩
theorem inB_l (h:i.dok=true/\I.doks is=true/\I.deps is<=50):inB (.im i) (.li is)=some (decide (i∈is)):=by cases i<;>exact if_pos h
theorem p_inL (h:i.dok=true/\I.doks is=true/\I.deps is<=50)(q:QT1 (.im (.bl (decide (i∈is))))):W1 (inT (.im i) (.li is)) QT1:=⟨_,by unfold inT;rw [inB_l h];rfl,q⟩
theorem p_ninL (h:i.dok=true/\I.doks is=true/\I.deps is<=50)(q:QT1 (.im (.bl (!decide (i∈is))))):W1 (ninT (.im i) (.li is)) QT1:=⟨_,by unfold ninT;rw [inB_l h];rfl,q⟩
theorem p_lenS (h:s.length<=sizeLine)(q:QT1 (.im (.int s.length))):W1 (lenT [.im (.str s)]) QT1:=by with_unfolding_all exact⟨_,if_pos h,q⟩
theorem p_lenT (q:QT1 (.im (.int is.length))):W1 (lenT [.im (.tup is)]) QT1:=by with_unfolding_all exact⟨_,rfl,q⟩
theorem p_lenL (q:QT1 (.im (.int is.length))):W1 (lenT [.li is]) QT1:=by with_unfolding_all exact⟨_,rfl,q⟩
theorem p_lenLL {us:List T}(q:QT1 (.im (.int us.length))):W1 (lenT [.lst us]) QT1:=by with_unfolding_all exact⟨_,rfl,q⟩
theorem p_min (q:QT1 (.im (.int (if b<a then b else a)))):W1 (minT [.im (.int a),.im (.int b)]) QT1:=by with_unfolding_all exact⟨_,rfl,q⟩
theorem p_max (q:QT1 (.im (.int (if b > a then b else a)))):W1 (maxT [.im (.int a),.im (.int b)]) QT1:=by with_unfolding_all exact⟨_,rfl,q⟩
theorem p_intB {c:Bool}(q:QT1 (.im (.int (if c then 1 else 0)))):W1 (intT [.im (.bl c)]) QT1:=by with_unfolding_all exact⟨_,rfl,q⟩
theorem p_tupL (q:QT1 (.im (.tup is))):W1 (tupT [.li is]) QT1:=by with_unfolding_all exact⟨_,rfl,q⟩
theorem p_lstL (q:QT1 (.li is)):W1 (lstT [.li is]) QT1:=by with_unfolding_all exact⟨_,rfl,q⟩
theorem p_rev (q:QT1 (.im (.tup is.reverse))):W1 (revT (.im (.tup is))) QT1:=by with_unfolding_all exact⟨_,rfl,q⟩
theorem p_nisBB {c d:Bool}(q:QT1 (.im (.bl (!decide (c=d))))):W1 (nisT (.im (.bl c)) (.im (.bl d))) QT1:=by with_unfolding_all exact⟨_,rfl,q⟩
theorem atI_at {xs:List α}{x : α}{n:Nat}{i:Int}(hi:i=n)(h:xs[n]?=some x):atI xs i=some x:=by
 subst hi
 have:=(List.getElem?_eq_some_iff.mp h).1
 unfold atI ixN
 rw [if_pos (by omega),if_pos (by omega)]
 simpa using h
theorem zjm {xs:List α}{i:Int}(h0:0<=i)(h1:i<xs.length):∃ x,atI xs i=some x/\xs[i.toNat]?=some x:=by
 have:i.toNat<xs.length:=by omega
 exact⟨xs[i.toNat],atI_at (n:=i.toNat) (by omega) (List.getElem?_eq_getElem this),List.getElem?_eq_getElem this⟩
theorem p_ixT {kd:Kd}{x:I}(h:atI is a=some x)(q:QR ⟨.ow,.im x⟩):W1 (ixR ⟨kd,.im (.tup is)⟩ (.im (.int a))) QR:=⟨_,by simp only [ixR,isI,ixX,ixI,h,Option.map_some],q⟩
theorem p_ixL {kd:Kd}{x:I}(h:atI is a=some x)(q:QR ⟨.ow,.im x⟩):W1 (ixR ⟨kd,.li is⟩ (.im (.int a))) QR:=⟨_,by simp only [ixR,isI,ixX,ixI,h,Option.map_some],q⟩
theorem p_ixTk {kd:Kd}(h0:0<=a)(h1:a<is.length)(q:∀ x,is[a.toNat]?=some x->QR ⟨.ow,.im x⟩):W1 (ixR ⟨kd,.im (.tup is)⟩ (.im (.int a))) QR:=by
 obtain⟨x,h,h'⟩:=zjm h0 h1
 exact p_ixT h (q x h')
theorem p_ixLk {kd:Kd}(h0:0<=a)(h1:a<is.length)(q:∀ x,is[a.toNat]?=some x->QR ⟨.ow,.im x⟩):W1 (ixR ⟨kd,.li is⟩ (.im (.int a))) QR:=by
 obtain⟨x,h,h'⟩:=zjm h0 h1
 exact p_ixL h (q x h')
theorem p_ixSk {kd:Kd}(hz:s.length<=sizeLine)(h0:0<=a)(h1:a<(sL s).length)(q:∀ c,(sL s)[a.toNat]?=some c->QR ⟨.ow,.im (.str ⟨#[c]⟩)⟩):W1 (ixR ⟨kd,.im (.str s)⟩ (.im (.int a))) QR:=by
 obtain⟨x,h,h'⟩:=zjm h0 h1
 exact⟨_,by simp only [ixR,isI,ixX,ixI,if_pos hz,h,Option.map_some],q x h'⟩
theorem zpm {ro:Option Nat}{p:Option (List Ac)}{us:List T}{u:T}(h0:0<=a)(h1:us[a.toNat]?=some u)(hu:∀ i,u ≠ .im i){kd:Kd}(hk:ixK (.vw ro p) (some (.ix a.toNat))=some kd)(q:QR ⟨kd,u⟩):W1 (ixR ⟨.vw ro p,.lst us⟩ (.im (.int a))) QR:=by
 have hl:=(List.getElem?_eq_some_iff.mp h1).1
 refine⟨⟨kd,u⟩,?_,q⟩
 unfold ixR
 have:ixN us.length a=some a.toNat:=by unfold ixN;rw [if_pos h0,if_pos (by omega)]
 simp only [isI,ixX,this,h1,Option.bind_some]
 cases u with
 | im i=>exact absurd rfl (hu i)
 | _=>simp only [ixP,hk]
theorem p_setL {n:Nat}(ha:a=n)(h:n<is.length)(q:QT1 (.li (is.set n i))):W1 (setT (.li is) (.im (.int a)) (.im i)) QT1:=by
 subst ha
 refine⟨_,?_,q⟩
 unfold setT
 have:ixN is.length (n:Int)=some n:=by unfold ixN;rw [if_pos (by omega),if_pos (by omega)];simp
 simp only [this]
theorem zhc (h:is.length<sizeLine)(q:QI1 (.li (is++[i])) .non):W2 (apT (.li is) [.im i]) QI1:=by with_unfolding_all exact⟨_,_,if_pos h,q⟩
theorem p_extL (h:is.length+js.length<=sizeLine)(q:QI1 (.li (is++js)) .non):W2 (extT (.li is) [.li js]) QI1:=by with_unfolding_all exact⟨_,_,if_pos h,q⟩
theorem p_extT (h:is.length+js.length<=sizeLine)(q:QI1 (.li (is++js)) .non):W2 (extT (.li is) [.im (.tup js)]) QI1:=by with_unfolding_all exact⟨_,_,if_pos h,q⟩
theorem p_pop (q:QI1 (.li is) i):W2 (popT (.li (is++[i])) []) QI1:=⟨_,_,by simp [popT],q⟩
theorem p_ins (h:0<=a/\a<=is.length/\is.length<sizeLine)(q:QI1 (.li (is.take a.toNat++i::is.drop a.toNat)) .non):W2 (insT (.li is) [.im (.int a),.im i]) QI1:=by with_unfolding_all exact⟨_,_,if_pos h,q⟩
theorem p_slL {kd:Kd}{lo hi:Option Int}(q:QR ⟨.ow,.li (cutL is lo hi)⟩):W1 (slR ⟨kd,.li is⟩ lo hi) QR:=⟨_,by simp only [slR,slX,slI,slX],q⟩
theorem zgm {kd:Kd}{lo hi:Option Int}(h:¬(HT.sIx is.length 0 lo=0/\HT.sIx is.length is.length hi=is.length))(q:QR ⟨.ow,.im (.tup (cutL is lo hi))⟩):W1 (slR ⟨kd,.im (.tup is)⟩ lo hi) QR:=⟨_,by simp only [slR,slX,slI,slX];rw [if_neg h],q⟩
theorem p_slS {kd:Kd}{lo hi:Option Int}(h:s.length<=sizeLine)(q:QR ⟨.ow,.im (.str (oL (cutL (sL s) lo hi)))⟩):W1 (slR ⟨kd,.im (.str s)⟩ lo hi) QR:=⟨_,by simp only [slR,slX,slI,slX];rw [if_pos h],q⟩
theorem p_retO {t:T}{Q2:T->Rho->Prop}(q:Q2 t ρ):W2 (retR ⟨.ow,t⟩ ρ) Q2:=by with_unfolding_all exact⟨_,_,rfl,q⟩
theorem p_retV {t t':T}{n:Nat}{Q2:T->Rho->Prop}(h : ρ[n]?=some (some ⟨.ow,t'⟩))(q:Q2 t ((zv [n] ρ).set n none)):W2 (retR ⟨.vw (some n) (some []),t⟩ ρ) Q2:=⟨_,_,by simp only [retR,h],q⟩
theorem zmm {mv:List Nat}{Q2:List T->Rho->Prop}(q:Q2 [] ρ):W2 (consL mv [] ρ) Q2:=⟨_,_,rfl,q⟩
theorem zan {mv:List Nat}{t:T}{rs:List R}{Q2:List T->Rho->Prop}(h:W2 (consL mv rs ρ) fun ts ρ'=>Q2 (t::ts) ρ'):W2 (consL mv (⟨.ow,t⟩::rs) ρ) Q2:=by
 obtain⟨ts,ρ',e,q⟩:=h
 exact⟨t::ts,ρ',by simp only [consL,e],q⟩
theorem mkLst_im {is:List I}:znc (is.map T.im) = .li is:=by
 have:ims (is.map T.im)=some is:=by induction is with
  | nil=>rfl
  | cons i is ih=>simp only [List.map_cons,ims,ih,Option.map_some]
 unfold znc;rw [this]
end
theorem dsp {p:Prop}[Decidable p]{A B:Prop}(h1:p->A)(h2:¬p->B):(decide p=true->A)/\(decide p=false->B):=⟨fun h=>h1 (of_decide_eq_true h),fun h=>h2 (of_decide_eq_false h)⟩
theorem dspN {p:Prop}[Decidable p]{A B:Prop}(h1:¬p->A)(h2:p->B):((!decide p)=true->A)/\((!decide p)=false->B):=⟨fun h=>h1 (by simpa using h),fun h=>h2 (by simpa using h)⟩
theorem bsp {b:Bool}{A B:Prop}(h1:b=true->A)(h2:b=false->B):(b=true->A)/\(b=false->B):=⟨h1,h2⟩
theorem spF {A B:Prop}(h:B):(false=true->A)/\(false=false->B):=⟨fun z=>absurd z (by decide),fun _=>h⟩
section
variable  {ρ:Rho}{m:ME}{ms:MA}{g:MG}{ct:MT}{QE':R->Rho->Prop}
theorem w_compR {i:Nat}{fr:List (Option Nat)} (h:WA ms ρ fun rs ρ1=>∃ n:Int,rs.map (·.t) = [.im (.int n)]/\(-(2 ^ 62)<=n/\n<16000000)/\Gu (frOk fr ρ1.length && ztf ([i]++([]++m.mu)) fr.length) (∃ Inv:Nat->List T->Rho->Prop,Inv 0 [] ρ1 ∧
  (∀ (j:Nat) acc ρ,(j:Int)<n->Inv j acc ρ->WG (zl i) (rInt j) (inR fr ρ) fun ρ1=>WE m ρ1 fun r ρ3=>∃ t,r=⟨.ow,t⟩/\Inv (j+1) (acc++[t]) (outR fr ([i]++([]++m.mu)) ρ3 ρ)) ∧
  ∀ acc ρ,Inv n.toNat acc ρ->QE' ⟨.ow,znc acc⟩ ρ)):WE (zfb fr (zjb ms) (zl i) mYes m) ρ QE':=by with_unfolding_all
 obtain⟨rs,ρ1,e1,n,e2,h1,al,Inv,h0,hs,he⟩:=h
 refine zvm (wi_rng1 ⟨rs,ρ1,e1,n,e2,⟨h1.1,by omega⟩,?_,?_,Inv,h0,fun j r acc ρ hr hI=>?_,fun acc ρ hI=>he acc ρ (by simpa [rngI] using hI)⟩)
 ·rw [Bool.and_eq_true] at al ⊢
  rw [Bool.and_eq_true]
  exact⟨⟨al.1,al.2⟩,rfl⟩
 ·rw [sizeLine_eq];simp [rngI];omega
 ·obtain⟨x,hx,rfl⟩:=zxb hr
  obtain⟨a1,a2⟩:=List.getElem?_eq_some_iff.mp hx
  simp at a1 a2
  subst a2
  have:=hs j acc ρ (by omega) hI
  rw [Int.zero_add]
  refine WG.mono this fun ρ1 q=>zwk ⟨fun _=>q,fun z=>by cases z⟩
theorem w_compR2 {i:Nat}{fr:List (Option Nat)} (h:WA ms ρ fun rs ρ1=>∃ a n:Int,rs.map (·.t) = [.im (.int a),.im (.int n)]/\(-(2 ^ 62)<=a/\a<2 ^ 62/\-(2 ^ 62)<=n/\n<2 ^ 62/\n - a<16000000)/\Gu (frOk fr ρ1.length && ztf ([i]++([]++m.mu)) fr.length) (∃ Inv:Nat->List T->Rho->Prop,Inv 0 [] ρ1 ∧
  (∀ (j:Nat) acc ρ,a+(j:Int)<n->Inv j acc ρ->WG (zl i) (rInt (a+j)) (inR fr ρ) fun ρ1=>WE m ρ1 fun r ρ3=>∃ t,r=⟨.ow,t⟩/\Inv (j+1) (acc++[t]) (outR fr ([i]++([]++m.mu)) ρ3 ρ)) ∧
  ∀ acc ρ,Inv (n - a).toNat acc ρ->QE' ⟨.ow,znc acc⟩ ρ)):WE (zfb fr (zmh ms) (zl i) mYes m) ρ QE':=by with_unfolding_all
 obtain⟨rs,ρ1,e1,a,n,e2,h1,al,Inv,h0,hs,he⟩:=h
 refine zvm (wi_rng2 ⟨rs,ρ1,e1,a,n,e2,⟨h1.1,h1.2.1,h1.2.2.1,h1.2.2.2.1⟩,?_,?_,Inv,h0,fun j r acc ρ hr hI=>?_,fun acc ρ hI=>he acc ρ (by simpa [rngI] using hI)⟩)
 ·rw [Bool.and_eq_true] at al ⊢
  rw [Bool.and_eq_true]
  exact⟨⟨al.1,al.2⟩,rfl⟩
 ·rw [sizeLine_eq];simp [rngI];omega
 ·obtain⟨x,hx,rfl⟩:=zxb hr
  obtain⟨a1,a2⟩:=List.getElem?_eq_some_iff.mp hx
  simp at a1 a2
  subst a2
  have:=hs j acc ρ (by omega) hI
  refine WG.mono this fun ρ1 q=>zwk ⟨fun _=>q,fun z=>by cases z⟩
theorem w_compI {fr:List (Option Nat)}{ma:ME} (h:WE ma ρ fun r ρ1=>∃ is:List I,zjg r=some (is.map fun i=>⟨.ow,.im i⟩)/\is.length<sizeLine/\Gu (frOk fr ρ1.length && ztf (g.mu++(ct.mu++m.mu)) fr.length && alive (muF fr (g.mu++(ct.mu++m.mu))) r) (∃ Inv:Nat->List T->Rho->Prop,Inv 0 [] ρ1 ∧
  (∀ (j:Nat) x acc ρ,is[j]?=some x->Inv j acc ρ->WG g ⟨.ow,.im x⟩ (inR fr ρ) fun ρ1=>WT ct ρ1 fun bb ρ2=>(bb=true->WE m ρ2 fun r ρ3=>∃ t,r=⟨.ow,t⟩/\Inv (j+1) (acc++[t]) (outR fr (g.mu++(ct.mu++m.mu)) ρ3 ρ))/\(bb=false->Inv (j+1) acc (outR fr (g.mu++(ct.mu++m.mu)) ρ2 ρ))) ∧
  ∀ acc ρ,Inv is.length acc ρ->QE' ⟨.ow,znc acc⟩ ρ)):WE (zfb fr (mIt ma) g ct m) ρ QE':=by
 obtain⟨r,ρ1,e1,is,e2,hl,al,Inv,h0,hs,he⟩:=h
 refine zvm (zzm ⟨r,ρ1,e1,_,e2,(by rw [List.all_cons,List.all_nil,Bool.and_true];exact al),by simpa using hl,Inv,h0,fun j r acc ρ hr hI=>?_,fun acc ρ hI=>he acc ρ (by simpa using hI)⟩)
 obtain⟨x,hx,rfl⟩:=zxb hr
 exact hs j x acc ρ hx hI
end
theorem zng {α:Type}{f : α->I}{l:List α}:znc (l.map fun x=>T.im (f x)) = .li (l.map f):=by
 have:=mkLst_im (is:=l.map f)
 rwa [List.map_map] at this
section
variable  {S α:Type}{ρ:Rho}{m:ME}{ms:MA}{g:MG}{ct:MT}{s1:MS}{QE':R->Rho->Prop}{Q:Fl->Rho->Prop}{fr:List (Option Nat)}{i:Nat}
theorem zme (st:S->Rho)(emb : α->I)(P:Nat->S->List α->Prop) (h:WA ms ρ fun rs ρ1=>Int1 rs fun n=>(-(2 ^ 62)<=n/\n<16000000)/\(frOk fr ρ1.length && ztf ([i]++([]++m.mu)) fr.length)=true/\∃ s0,ρ1=st s0/\P 0 s0 [] ∧
  (∀ (j:Nat) s l,(j:Int)<n->P j s l->WG (zl i) (rInt j) (inR fr (st s)) fun ρ1=>WE m ρ1 fun r ρ3=>∃ x s',r=⟨.ow,.im (emb x)⟩/\outR fr ([i]++([]++m.mu)) ρ3 (st s)=st s'/\P (j+1) s' (l++[x])) ∧
  ∀ s l,P n.toNat s l->QE' ⟨.ow,.li (l.map emb)⟩ (st s)):WE (zfb fr (zjb ms) (zl i) mYes m) ρ QE':=by
 obtain⟨rs,ρ1,e1,n,e2,h1,al,s0,rfl,h0,hs,he⟩:=h
 refine w_compR ⟨rs,_,e1,n,e2,h1,al,fun j acc ρ=>∃ s l,acc=l.map (fun x=>T.im (emb x))/\ρ=st s/\P j s l,⟨s0,[],rfl,rfl,h0⟩,?_,?_⟩
 ·rintro j acc ρ hj ⟨s,l,rfl,rfl,hP⟩
  refine (hs j s l hj hP).mono fun ρ1 q=>q.mono fun r ρ3 ⟨x,s',e,e',hP'⟩=>⟨_,e,s',l++[x],by simp,e',hP'⟩
 ·rintro acc ρ ⟨s,l,rfl,rfl,hP⟩
  rw [zng]
  exact he s l hP
theorem w_compR2s (st:S->Rho)(emb : α->I)(P:Nat->S->List α->Prop) (h:WA ms ρ fun rs ρ1=>Int2 rs fun a n=>(-(2 ^ 62)<=a/\a<2 ^ 62/\-(2 ^ 62)<=n/\n<2 ^ 62/\n - a<16000000)/\(frOk fr ρ1.length && ztf ([i]++([]++m.mu)) fr.length)=true/\∃ s0,ρ1=st s0/\P 0 s0 [] ∧
  (∀ (j:Nat) s l,a+(j:Int)<n->P j s l->WG (zl i) (rInt (a+j)) (inR fr (st s)) fun ρ1=>WE m ρ1 fun r ρ3=>∃ x s',r=⟨.ow,.im (emb x)⟩/\outR fr ([i]++([]++m.mu)) ρ3 (st s)=st s'/\P (j+1) s' (l++[x])) ∧
  ∀ s l,P (n - a).toNat s l->QE' ⟨.ow,.li (l.map emb)⟩ (st s)):WE (zfb fr (zmh ms) (zl i) mYes m) ρ QE':=by
 obtain⟨rs,ρ1,e1,a,n,e2,h1,al,s0,rfl,h0,hs,he⟩:=h
 refine w_compR2 ⟨rs,_,e1,a,n,e2,h1,al,fun j acc ρ=>∃ s l,acc=l.map (fun x=>T.im (emb x))/\ρ=st s/\P j s l,⟨s0,[],rfl,rfl,h0⟩,?_,?_⟩
 ·rintro j acc ρ hj ⟨s,l,rfl,rfl,hP⟩
  refine (hs j s l hj hP).mono fun ρ1 q=>q.mono fun r ρ3 ⟨x,s',e,e',hP'⟩=>⟨_,e,s',l++[x],by simp,e',hP'⟩
 ·rintro acc ρ ⟨s,l,rfl,rfl,hP⟩
  rw [zng]
  exact he s l hP
theorem zoc (st:S->Rho)(emb : α->I)(P:Nat->S->List α->Prop){ma:ME} (h:WE ma ρ fun r ρ1=>∃ is:List I,zjg r=some (is.map fun i=>⟨.ow,.im i⟩)/\is.length<sizeLine/\(frOk fr ρ1.length && ztf (g.mu++([]++m.mu)) fr.length && alive (muF fr (g.mu++([]++m.mu))) r)=true/\∃ s0,ρ1=st s0/\P 0 s0 [] ∧
  (∀ (j:Nat) x s l,is[j]?=some x->P j s l->WG g ⟨.ow,.im x⟩ (inR fr (st s)) fun ρ1=>WE m ρ1 fun r ρ3=>∃ x s',r=⟨.ow,.im (emb x)⟩/\outR fr (g.mu++([]++m.mu)) ρ3 (st s)=st s'/\P (j+1) s' (l++[x])) ∧
  ∀ s l,P is.length s l->QE' ⟨.ow,.li (l.map emb)⟩ (st s)):WE (zfb fr (mIt ma) g mYes m) ρ QE':=by with_unfolding_all
 obtain⟨r,ρ1,e1,is,e2,hl,al,s0,rfl,h0,hs,he⟩:=h
 refine w_compI ⟨r,_,e1,is,e2,hl,al,fun j acc ρ=>∃ s l,acc=l.map (fun x=>T.im (emb x))/\ρ=st s/\P j s l,⟨s0,[],rfl,rfl,h0⟩,?_,?_⟩
 ·rintro j x acc ρ hj ⟨s,l,rfl,rfl,hP⟩
  refine (hs j x s l hj hP).mono fun ρ1 q=>zwk ⟨fun _=>q.mono fun r ρ3 ⟨x,s',e,e',hP'⟩=>⟨_,e,s',l++[x],by simp,e',hP'⟩,fun z=>by cases z⟩
 ·rintro acc ρ ⟨s,l,rfl,rfl,hP⟩
  rw [zng]
  exact he s l hP
theorem w_compFs (st:S->Rho)(emb : α->I)(P:Nat->S->List α->Prop){ma:ME} (h:WE ma ρ fun r ρ1=>∃ is:List I,zjg r=some (is.map fun i=>⟨.ow,.im i⟩)/\is.length<sizeLine/\(frOk fr ρ1.length && ztf (g.mu++(ct.mu++m.mu)) fr.length && alive (muF fr (g.mu++(ct.mu++m.mu))) r)=true/\∃ s0,ρ1=st s0/\P 0 s0 [] ∧
  (∀ (j:Nat) x s l,is[j]?=some x->P j s l->WG g ⟨.ow,.im x⟩ (inR fr (st s)) fun ρ1=>WT ct ρ1 fun bb ρ2=>(bb=true->WE m ρ2 fun r ρ3=>∃ x s',r=⟨.ow,.im (emb x)⟩/\outR fr (g.mu++(ct.mu++m.mu)) ρ3 (st s)=st s'/\P (j+1) s' (l++[x]))/\(bb=false->∃ s',outR fr (g.mu++(ct.mu++m.mu)) ρ2 (st s)=st s'/\P (j+1) s' l)) ∧
  ∀ s l,P is.length s l->QE' ⟨.ow,.li (l.map emb)⟩ (st s)):WE (zfb fr (mIt ma) g ct m) ρ QE':=by
 obtain⟨r,ρ1,e1,is,e2,hl,al,s0,rfl,h0,hs,he⟩:=h
 refine w_compI ⟨r,_,e1,is,e2,hl,al,fun j acc ρ=>∃ s l,acc=l.map (fun x=>T.im (emb x))/\ρ=st s/\P j s l,⟨s0,[],rfl,rfl,h0⟩,?_,?_⟩
 ·rintro j x acc ρ hj ⟨s,l,rfl,rfl,hP⟩
  refine (hs j x s l hj hP).mono fun ρ1 q=>q.mono fun bb ρ2 ⟨q1,q2⟩=>⟨fun hb=>(q1 hb).mono fun r ρ3 ⟨x,s',e,e',hP'⟩=>⟨_,e,s',l++[x],by simp,e',hP'⟩,fun hb=>?_⟩
  obtain⟨s',e',hP'⟩:=q2 hb
  exact⟨s',l,rfl,e',hP'⟩
 ·rintro acc ρ ⟨s,l,rfl,rfl,hP⟩
  rw [zng]
  exact he s l hP
@[irreducible] def fFs (st:S->Rho)(P:S->Prop)(Q:Fl->Rho->Prop):Fl->Rho->Prop
 | .nx,ρ=>∃ s,ρ=st s/\P s
 | .ct,ρ=>∃ s,ρ=st s/\P s
 | .bk,ρ=>Q .nx ρ
 | .rt t,ρ=>Q (.rt t) ρ
theorem zcl {st:S->Rho}{P:Nat->S->Prop}{j:Nat}{f:Fl}{ρ:Rho}(h:fFs st (P (j+1)) Q f ρ):fFor (fun j ρ=>∃ s,ρ=st s/\P j s) j Q f ρ:=by with_unfolding_all cases f<;>exact h
theorem zxc (st:S->Rho)(P:Nat->S->Prop) (h:WA ms ρ fun rs ρ1=>Int1 rs fun n=>(-(2 ^ 62)<=n/\n<2 ^ 62)/\∃ s0,ρ1=st s0/\P 0 s0 ∧
  (∀ (j:Nat) s,(j:Int)<n->P j s->WG (zl i) (rInt j) (st s) fun ρ1=>WS s1 ρ1 (fFs st (P (j+1)) Q))/\∀ s,P n.toNat s->Q .nx (st s)):WS (mFor (zjb ms) (zl i) s1) ρ Q:=by
 obtain⟨rs,ρ1,e1,n,e2,h1,s0,rfl,h0,hs,he⟩:=h
 refine w_forR ⟨rs,_,e1,n,e2,h1.1,h1.2,fun j ρ=>∃ s,ρ=st s/\P j s,⟨s0,rfl,h0⟩,?_,?_⟩
 ·rintro j ρ hj ⟨s,rfl,hP⟩
  exact (hs j s hj hP).mono fun ρ1 q=>q.mono fun f ρ2 q=>zcl q
 ·rintro ρ ⟨s,rfl,hP⟩
  exact he s hP
theorem w_forR2s (st:S->Rho)(P:Nat->S->Prop) (h:WA ms ρ fun rs ρ1=>Int2 rs fun a n=>(-(2 ^ 62)<=a/\a<2 ^ 62/\-(2 ^ 62)<=n/\n<2 ^ 62)/\∃ s0,ρ1=st s0/\P 0 s0 ∧
  (∀ (j:Nat) s,a+(j:Int)<n->P j s->WG (zl i) (rInt (a+j)) (st s) fun ρ1=>WS s1 ρ1 (fFs st (P (j+1)) Q))/\∀ s,P (n - a).toNat s->Q .nx (st s)):WS (mFor (zmh ms) (zl i) s1) ρ Q:=by
 obtain⟨rs,ρ1,e1,a,n,e2,h1,s0,rfl,h0,hs,he⟩:=h
 refine w_forR2 ⟨rs,_,e1,a,n,e2,h1,fun j ρ=>∃ s,ρ=st s/\P j s,⟨s0,rfl,h0⟩,?_,?_⟩
 ·rintro j ρ hj ⟨s,rfl,hP⟩
  exact (hs j s hj hP).mono fun ρ1 q=>q.mono fun f ρ2 q=>zcl q
 ·rintro ρ ⟨s,rfl,hP⟩
  exact he s hP
theorem zhk (st:S->Rho)(P:Nat->S->Prop) (h:WE m ρ fun r ρ1=>∃ is:List I,zjg r=some (is.map fun i=>⟨.ow,.im i⟩)/\alive (g.mu++s1.mu) r=true/\∃ s0,ρ1=st s0/\P 0 s0 ∧
  (∀ (j:Nat) x s,is[j]?=some x->P j s->WG g ⟨.ow,.im x⟩ (st s) fun ρ1=>WS s1 ρ1 (fFs st (P (j+1)) Q))/\∀ s,P is.length s->Q .nx (st s)):WS (mFor (mIt m) g s1) ρ Q:=by
 obtain⟨r,ρ1,e1,is,e2,al,s0,rfl,h0,hs,he⟩:=h
 refine w_forI ⟨r,_,e1,is,e2,al,fun j ρ=>∃ s,ρ=st s/\P j s,⟨s0,rfl,h0⟩,?_,?_⟩
 ·rintro j x ρ hj ⟨s,rfl,hP⟩
  exact (hs j x s hj hP).mono fun ρ1 q=>q.mono fun f ρ2 q=>zcl q
 ·rintro ρ ⟨s,rfl,hP⟩
  exact he s hP
theorem w_whiles (st:S->Rho)(P:S->Prop)(μ : S->Nat)(s0:S)(e0 : ρ=st s0)(h0:P s0)(hs:∀ s,P s->WT ct (st s) fun bb ρ1=>(bb=true->WS s1 ρ1 (fFs st (fun s'=>μ s' < μ s/\P s') Q))/\(bb=false->Q .nx ρ1)):WS (zlg ct s1) ρ Q:=by with_unfolding_all
 subst e0
 refine w_while (fun n ρ=>∃ s,ρ=st s/\P s/\μ s=n) (μ s0) ⟨s0,rfl,h0,rfl⟩ ?_
 rintro n ρ ⟨s,rfl,hP,rfl⟩
 refine (hs s hP).mono fun bb ρ1 ⟨q1,q2⟩=>⟨q2,fun hb=>(q1 hb).mono fun f ρ2 q=>?_⟩
 cases f with
 | nx=>have q:∃ s',ρ2=st s'/\μ s' < μ s/\P s':=q;obtain⟨s',e,hl,hP'⟩:=q;exact⟨μ s',hl,s',e,hP',rfl⟩
 | ct=>have q:∃ s',ρ2=st s'/\μ s' < μ s/\P s':=q;obtain⟨s',e,hl,hP'⟩:=q;exact⟨μ s',hl,s',e,hP',rfl⟩
 | bk=>exact q
 | rt t=>exact q
end
section
variable  {S α:Type}{ρ:Rho}{m:ME}{ms:MA}{QE':R->Rho->Prop}{fr:List (Option Nat)}{i:Nat}
theorem mkLst_ts {emb : α->T}(hne:∀ x i,emb x ≠ .im i):∀ {l:List α},l≠[]->znc (l.map emb) = .lst (l.map emb)
 | [],h=>absurd rfl h
 | x::l,_=>by
  unfold znc
  have:ims ((x::l).map emb)=none:=by
   rw [List.map_cons]
   cases h:emb x with
   | im i=>exact absurd h (hne x i)
   | _=>rfl
  rw [this]
theorem zgk (st:S->Rho)(emb : α->T)(hne:∀ x i,emb x ≠ .im i)(P:Nat->S->List α->Prop) (h:WA ms ρ fun rs ρ1=>Int1 rs fun n=>(1<=n/\n<16000000)/\(frOk fr ρ1.length && ztf ([i]++([]++m.mu)) fr.length)=true/\∃ s0,ρ1=st s0/\P 0 s0 [] ∧
  (∀ (j:Nat) s l,(j:Int)<n->P j s l->WG (zl i) (rInt j) (inR fr (st s)) fun ρ1=>WE m ρ1 fun r ρ3=>∃ x s',r=⟨.ow,emb x⟩/\outR fr ([i]++([]++m.mu)) ρ3 (st s)=st s'/\P (j+1) s' (l++[x])) ∧
  ∀ s l,P n.toNat s l->l.length=n.toNat->QE' ⟨.ow,.lst (l.map emb)⟩ (st s)):WE (zfb fr (zjb ms) (zl i) mYes m) ρ QE':=by
 obtain⟨rs,ρ1,e1,n,e2,h1,al,s0,rfl,h0,hs,he⟩:=h
 refine w_compR ⟨rs,_,e1,n,e2,⟨by omega,h1.2⟩,al,fun j acc ρ=>∃ s l,acc=l.map emb/\l.length=j/\ρ=st s/\P j s l,⟨s0,[],rfl,rfl,rfl,h0⟩,?_,?_⟩
 ·rintro j acc ρ hj ⟨s,l,rfl,hl,rfl,hP⟩
  refine (hs j s l hj hP).mono fun ρ1 q=>q.mono fun r ρ3 ⟨x,s',e,e',hP'⟩=>⟨_,e,s',l++[x],by simp,by simp [hl],e',hP'⟩
 ·rintro acc ρ ⟨s,l,rfl,hl,rfl,hP⟩
  rw [mkLst_ts hne (by intro z;rw [z] at hl;simp at hl;omega)]
  exact he s l hP hl
theorem put_ix {ts:List T}{n:Nat}{u s:T}(h:ts[n]?=some u):T.put (.lst ts) [.ix n] s = .lst (ts.set n s):=by simp only [T.put,sub1,h,put1]
end
end L2
namespace L2
end L2
namespace L2
section
variable  {ρ:Rho}{b:MS}{Q:Fl->Rho->Prop}{t s':T}{k:Nat}{ks:List Nat}
theorem fi_rt {R:T->T->Prop}(h : ρ[k]?=some (some ⟨.io 0,s'⟩))(q:R t s'):fI k R (.rt t) ρ:=by with_unfolding_all exact⟨s',h,q⟩
theorem fp_rt {R:T->Prop}(q:R t):fP R (.rt t) ρ:=by with_unfolding_all exact q
theorem fp_nx {R:T->Prop}(q:R (.im .non)):fP R .nx ρ:=by with_unfolding_all exact q
theorem fseq_nx (h:WS b ρ Q):fSeq b Q .nx ρ:=by with_unfolding_all exact h
theorem fseq_rt (h:Q (.rt t) ρ):fSeq b Q (.rt t) ρ:=by with_unfolding_all exact h
theorem ffgt_nx (h:Q .nx (fgts ks ρ)):fFgt ks Q .nx ρ:=by with_unfolding_all exact h
variable  {S:Type}{st:S->Rho}{P:S->Prop}
theorem ffs_nx (h:∃ s,ρ=st s/\P s):fFs st P Q .nx ρ:=by with_unfolding_all exact h
end
end L2
namespace L2
section
variable  {M:List Nat}{ρ:Rho}{t s:T}{n i:Nat}{p:Option (List Ac)}{k:Nat}{x:I}
theorem kR_nil:zv M [] = []:=rfl
theorem kR_ow:zv M (some ⟨.ow,t⟩::ρ)=some ⟨.ow,t⟩::zv M ρ:=rfl
theorem kR_io:zv M (some ⟨.io n,t⟩::ρ)=some ⟨.io n,t⟩::zv M ρ:=rfl
theorem kR_none:zv M (none::ρ)=none::zv M ρ:=rfl
theorem kR_vn:zv M (some ⟨.vw none p,t⟩::ρ)=some ⟨.vw none p,t⟩::zv M ρ:=rfl
theorem put_nil:T.put t [] s=s:=by cases t<;>rfl
theorem rInt_eq {j:Int}:rInt j=⟨.ow,.im (.int j)⟩:=rfl
theorem rdR_im:rdR i ⟨.ow,.im x⟩=⟨.ow,.im x⟩:=rfl
theorem rdR_vw {a:Option Nat}:rdR i ⟨.vw a p,t⟩=⟨.vw a p,t⟩:=rfl
theorem rdR_li {l:List I}:rdR i ⟨.ow,.li l⟩=⟨.vw (some i) (some []),.li l⟩:=rfl
theorem rdR_lst {l:List T}:rdR i ⟨.ow,.lst l⟩=⟨.vw (some i) (some []),.lst l⟩:=rfl
theorem fgts_nil:fgts [] ρ=ρ:=rfl
theorem fgts_cons {ks:List Nat}:fgts (i::ks) ρ=fgts ks ((zv [i] ρ).set i none):=rfl
theorem runP_ok' {run:List T->Option T}{l:Nat}{m:MS}{ts:List T}{QT1:T->Prop}(ρ:Rho)(hrun:run ts=if ts.length=l then runP m n ts else none)(hl:ts.length=l)(he:zwd ts n=ρ)(h:WS m ρ (fP QT1)):W1 (run ts) QT1:=runP_ok hrun hl (he ▸ h)
theorem runI_ok' {run:List T->Option (T×T)}{l:Nat}{m:MS}{ts:List T}{Q2:T->T->Prop}(ρ:Rho)(hrun:run ts=if ts.length=l then runI m k n ts else none)(hl:ts.length=l)(he:zwf k ts n=ρ)(h:WS m ρ (fI k Q2)):W2 (run ts) Q2:=zdh hrun hl (he ▸ h)
end
end L2
namespace L2
open PySem PySem.Spec PyProof.Rows
section
variable  {ρ:Rho}{g g2:MG}{ct:MT}{m:ME}{it it2:MI}{QE':R->Rho->Prop}{fr fr2:List (Option Nat)}
theorem comp2_run {items:List R}{QC:List T->Rho->Prop}(Inv:Nat->List T->Rho->Prop)
  (hs:∀ i r acc ρ,items[i]?=some r->Inv i acc ρ->WG g (renR (piF fr) r) (inR fr ρ) fun ρ1=>WI it2 ρ1 fun src2 items2 ρ2=>Gu (frOk fr2 ρ2.length && (decide (src2.length=1) && src2.all (alive (muF fr2 (g2.mu++(ct.mu++m.mu)))))) (acc.length+items2.length<sizeLine/\W2 (zdb fr2 (g2.mu++(ct.mu++m.mu)) g2 ct m items2 ρ2 acc) fun ts ρ3=>Inv (i+1) ts (outR fr (g.mu++(it2.mu++muF fr2 (g2.mu++(ct.mu++m.mu)))) ρ3 ρ)))
  (he:∀ acc ρ,Inv items.length acc ρ->QC acc ρ):∀ (l:List R) (i:Nat) (acc:List T) (ρ:Rho),items.drop i=l->i<=items.length->Inv i acc ρ->W2 (comp2Run fr fr2 g it2 g2 ct m l ρ acc) QC
 | [],i,acc,ρ,hl,hi,hI=>by
  have:i=items.length:=by have:=congrArg List.length hl;simp at this;omega
  subst this
  exact⟨_,_,rfl,he acc ρ hI⟩
 | r::l,i,acc,ρ,hl,hi,hI=>by
  have hr:items[i]?=some r:=by rw [← List.head?_drop,hl];rfl
  have hlt:=(List.getElem?_eq_some_iff.mp hr).1
  have hl':items.drop (i+1)=l:=by rw [← List.drop_drop,hl];rfl
  obtain⟨ρ1,e1,src2,items2,ρ2,e2,al,hz,ts,ρ3,e3,q⟩:=hs i r acc ρ hr hI
  simp only [comp2Run,e1,e2]
  rw [if_pos (by rw [Bool.and_eq_true];exact⟨al,decide_eq_true hz⟩)]
  simp only [e3]
  exact comp2_run Inv hs he l (i+1) _ _ hl' hlt q
theorem w_comp2 (h:WI it ρ fun src items ρ1=>Gu (frOk fr ρ1.length && ztf (g.mu++(it2.mu++muF fr2 (g2.mu++(ct.mu++m.mu)))) fr.length && ztf (g2.mu++(ct.mu++m.mu)) fr2.length && (decide (src.length=1) && src.all (alive (muF fr (g.mu++(it2.mu++muF fr2 (g2.mu++(ct.mu++m.mu)))))))) (∃ Inv:Nat->List T->Rho->Prop,Inv 0 [] ρ1 ∧
  (∀ i r acc ρ,items[i]?=some r->Inv i acc ρ->WG g (renR (piF fr) r) (inR fr ρ) fun ρ1=>WI it2 ρ1 fun src2 items2 ρ2=>Gu (frOk fr2 ρ2.length && (decide (src2.length=1) && src2.all (alive (muF fr2 (g2.mu++(ct.mu++m.mu)))))) (acc.length+items2.length<sizeLine/\W2 (zdb fr2 (g2.mu++(ct.mu++m.mu)) g2 ct m items2 ρ2 acc) fun ts ρ3=>Inv (i+1) ts (outR fr (g.mu++(it2.mu++muF fr2 (g2.mu++(ct.mu++m.mu)))) ρ3 ρ))) ∧
  ∀ acc ρ,Inv items.length acc ρ->acc.length<sizeLine/\QE' ⟨.ow,znc acc⟩ ρ)):WE (zjj fr fr2 it g it2 g2 ct m) ρ QE':=by
 obtain⟨src,items,ρ1,e1,al,Inv,h0,hs,he⟩:=h
 obtain⟨ts,ρ2,e,hz,q⟩:=comp2_run (QC:=fun acc ρ=>acc.length<sizeLine/\QE' ⟨.ow,znc acc⟩ ρ) Inv hs he items 0 [] ρ1 rfl (Nat.zero_le _) h0
 refine⟨⟨.ow,znc ts⟩,ρ2,?_,q⟩
 simp only [zjj,e1]
 rw [if_pos al]
 simp only [e]
 rw [if_pos hz]
theorem comp_self {items:List I}{M:List Nat}{QC:List T->Rho->Prop}(st:Rho)(hst:∀ x,WG g (renR (piF fr2) ⟨.ow,.im x⟩) (inR fr2 st) fun ρ1=>WE m ρ1 fun r ρ3=>r=⟨.ow,.im x⟩/\outR fr2 M ρ3 st=st)(acc:List T)(q:QC (acc++items.map T.im) st):W2 (zdb fr2 M g mYes m (items.map fun i=>⟨.ow,.im i⟩) st acc) QC:=by
 refine znh (items:=items.map fun i=>⟨.ow,.im i⟩) (fun i a ρ=>ρ=st/\a=acc++(items.take i).map T.im) (fun i r a ρ hr hI=>?_) (fun a ρ hI=>?_) _ 0 acc st rfl (Nat.zero_le _) ⟨rfl,by simp⟩
 ·obtain⟨rfl,rfl⟩:=hI
  obtain⟨x,hx,rfl⟩:=zxb hr
  refine (hst x).mono fun ρ1 w=>zwk ⟨fun _=>w.mono fun r ρ3 ⟨e,e'⟩=>⟨_,e,e',?_⟩,fun z=>by cases z⟩
  rw [List.take_succ,hx]
  simp
 ·obtain⟨rfl,rfl⟩:=hI
  simp at *
  exact q
end
noncomputable def less (K:yF) (a:Addr):yF:=K.filter fun p=>!(p.1 == a)
theorem zqh:∀ {K:yF} {a b:Addr},b≠a->(less K a).lookup b=K.lookup b
 | [],_,_,_=>rfl
 | (c,o)::K,a,b,h=>by
  have ih:=zqh (K:=K) h
  by_cases e:c=a
  ·subst e
   have:less ((c,o)::K) c=less K c:=by simp [less]
   rw [this,ih]
   show _=match b == c with | true=>some o | false=>List.lookup b K
   rw [beq_eq_false_iff_ne.mpr h]
  ·have:less ((c,o)::K) a=(c,o)::less K a:=by simp [less,e]
   rw [this]
   show (match b == c with | true=>some o | false=>List.lookup b (less K a))=match b == c with | true=>some o | false=>List.lookup b K
   rw [ih]
theorem zhi:∀ {K:yF} {a:Addr},(less K a).lookup a=none
 | [],_=>rfl
 | (c,o)::K,a=>by
  have ih:=zhi (K:=K) (a:=a)
  by_cases e:c=a
  ·subst e
   have:less ((c,o)::K) c=less K c:=by simp [less]
   rw [this,ih]
  ·have:less ((c,o)::K) a=(c,o)::less K a:=by simp [less,e]
   rw [this]
   show (match a == c with | true=>some o | false=>List.lookup a (less K a))=none
   rw [beq_eq_false_iff_ne.mpr (Ne.symm e)]
   exact ih
theorem less_in {K:yF}{a:Addr}{h:Heap}(X:K.In h):(less K a).In h:=fun b o e=>by
 by_cases q:b=a
 ·subst q;rw [zhi] at e;cases e
 ·rw [zqh q] at e;exact X b o e
def Lst (o:Obj):Prop:=∃ vs:Array Value,o = { cls:=.type "list",data:=.seq vs }
def LsAt (K:yF)(a:Addr):Prop:=∀ o,K.lookup a=some o->Lst o
theorem LsAt.get {K:yF}{a b:Addr}{o:Obj}(h:LsAt K a)(e:K.lookup b=some o)(n:¬ Lst o):(less K a).lookup b=some o:=by
 rw [zqh (a:=a) fun q:b=a=>n (h o (by rw [← q];exact e))];exact e
def Def0 (K:yF)(mg:Str->Option Value)(name:Str)(st:Stmt)(ps:List Str):Prop:=
 ∃ (f:Addr) (fd:FuncData),mg name=some (.ref f)/\Fun K name name st f fd/\(∀ us:List Value,us.length=ps.length->bindArgs fd ⟨us,[]⟩=pure (ps.zip us))
theorem Def0.to {K:yF}{mg:Str->Option Value}{name:Str}{st:Stmt}{ps:List Str}(d:Def0 K mg name st ps):Def K mg name st ps:=by
 obtain⟨f,fd,h1,h2,h3⟩:=d
 exact⟨f,fd,h1,h2,.all h3⟩
theorem Def0.less {K:yF}{mg:Str->Option Value}{name:Str}{st:Stmt}{ps:List Str}{a:Addr}(d:Def0 K mg name st ps)(h:LsAt K a):Def0 (less K a) mg name st ps:=by
 obtain⟨f,fd,h1,F,h3⟩:=d
 obtain⟨oc,od,kV,doc,pm,an,cdv,ct,osl,e,lk,hcd⟩:=F.ex
 have lk':=h.get lk (by rintro ⟨vs,z⟩;cases z)
 refine⟨f,fd,h1,⟨⟨oc,od,kV,doc,pm,an,cdv,ct,osl,e,lk',?_⟩,?_⟩,h3⟩
 ·unfold PySem.W.codeIn at hcd ⊢
  cases cdv with
  | ref c=>
   dsimp only at hcd ⊢
   cases q:List.lookup c K with
   | none=>rw [q] at hcd;cases hcd
   | some o=>
    by_cases w:c=a
    ·subst w
     obtain⟨vs,rfl⟩:=h o q
     rw [q] at hcd;cases hcd
    ·rw [zqh w];exact hcd
  | _=>cases hcd
 ·unfold PySem.W.keepIn
  dsimp only
  rw [lk']
theorem Def0.mk' {K:yF}{h:Heap}{mg:Str->Option Value}{name:Str}{st:Stmt}{ps:List Str}(X:K.In h)(G:h.Ns mainGlobals mg){f:Addr}{oc:Value}{od an:Option Addr}{osl:Array (Option Value)}{kV doc pm cdv ct:Value}
  (a:PySem.W.nsIn K mainGlobals name=some (some (.ref f))) (l:K.lookup f=some ⟨oc,od,.func (PySem.W.fnOf name name (zyd st) (zkb st) (zm st) .none kV doc pm an cdv ct),osl⟩) (c:PySem.W.codeIn K cdv name=true) (k:PySem.W.keepIn K (.ref f)=true)
  (hb:∀ (kV doc pm:Value) (an:Option Addr) (cdv ct:Value) (us:List Value),us.length=ps.length->bindArgs (PySem.W.fnOf name name (zyd st) (zkb st) (zm st) .none kV doc pm an cdv ct) ⟨us,[]⟩=pure (ps.zip us)):Def0 K mg name st ps:=
 ⟨f,_,PySem.W.mg_of X G a,fun_mk l c k,hb kV doc pm an cdv ct⟩
theorem TupAt.less {K:yF}{a b:Addr}{xs:List V}(t:TupAt K b xs)(h:LsAt K a):TupAt (less K a) b xs:=by
 obtain⟨o,its,n,h1,h2,h3⟩:=t
 exact⟨o,its,n,h.get h1 (by rintro ⟨vs,z⟩;subst z;exact absurd (show Value.type "list" = Value.type "tuple" from h2) (by simp)),h2,h3⟩
theorem GTup.less {K:yF}{a:Addr}{mg:Str->Option Value}{x:Str}{xs:List V}(t:∃ b,Glob mg x (.ref b)/\TupAt K b xs)(h:LsAt K a):∃ b,Glob mg x (.ref b)/\TupAt (L2.less K a) b xs:=by
 obtain⟨b,h1,h2⟩:=t
 exact⟨b,h1,h2.less h⟩
theorem GTup.mk' {K:yF}{h:Heap}{mg:Str->Option Value}(X:K.In h)(G:h.Ns mainGlobals mg){x:Str}{a:Addr}{it:Array Value}{n:Nat}{dd:Option Addr}{sl:Array (Option Value)}{xs:List V}(t:PySem.W.nsIn K mainGlobals x=some (some (.ref a)))(tl:K.lookup a=some ⟨.type "tuple",dd,.seq it n,sl⟩)(tz:it.size<=sizeLine)(tv:Vals xs it.toList) :
  ∃ b,Glob mg x (.ref b)/\TupAt K b xs:=⟨a,⟨_,PySem.W.mg_of X G t,rfl⟩,⟨_,_,_,tl,rfl,rfl,tz,tv⟩⟩
theorem Glob.mk' {K:yF}{h:Heap}{mg:Str->Option Value}(X:K.In h)(G:h.Ns mainGlobals mg){x:Str}{u:Value}{v:V}(g:PySem.W.nsIn K mainGlobals x=some (some u))(r:RelV v u):Glob mg x v:=⟨_,PySem.W.mg_of X G g,r⟩
theorem walkP {l:PySem.W.OpenLaw}{k:Nat}{q:Program}{loose:List Str}{XP:(Str->Option Value)->Heap->Prop}{YP:World->Heap->Prop}{d:DefRec}{K:Params->yF}{x:Str}{st:Stmt}{run:List T->Option T}{A:(Str->Option Value)->yF->Prop}
  (hn:l.most=some 63) (hdf:d.params.defaults = []) (hr:Room k callerA)
  (hY:∀ (w:World) (h:Heap),YP w h->(K w.params).In h)
  (hA:∀ (w:World) (mg:Str->Option Value) (h:Heap),(K w.params).In h->h.Ns mainGlobals mg->A mg (K w.params))
  (hL:∀ (mg:Str->Option Value) (K:yF) (a:Addr),A mg K->LsAt K a->A mg (less K a))
  (hd:∀ (mg:Str->Option Value) (K:yF),A mg K->Def K mg d.name st [x])
  (hb:∀ (kV doc pm:Value) (an:Option Addr) (cdv ct:Value) (s:Shared) (v:Value),BindsTo s (PySem.W.fnOf d.name d.name (zyd st) (zkb st) (zm st) .none kV doc pm an cdv ct) ⟨[v],[]⟩ [(x,v)])
  (F:∀ (w:World) (mg:Str->Option Value) (K:yF) (base:Heap),A mg K->Has l.prog w K mg base k d.name [x] (spP K run))
  (law:∀ ns:List Int,ns.length<=63->run [.li (ns.map .int)]=some (.im (.bl true))) :
  PySem.W.WalkO q loose XP YP l.row.toRowW d [] (fun f vs=>PySem.call f vs):=by
 refine Att.attach_call hn hdf fun w s₀ s₁ mg mb fa o pm cd doc a vs ns G Y ho hd' hcd hmg hobj hints hlen hg=>?_
 have KX:=hY w _ Y
 have a0:=hA w mg _ KX G.T.g
 have la:LsAt (K w.params) a:=fun o e=>by
  have e2:=KX a o e
  rw [hobj] at e2;cases e2
  exact⟨_,rfl⟩
 have a1:=hL mg _ a a0 la
 obtain⟨fd,hb',hF⟩:=law_head hmg (hd mg _ a1) hb fun base _ _=>F w mg (less (K w.params) a) base a1
 refine law_call (less_in KX) G.T.g G.T.b G.T.builtins G.T.nolimit hg hobj hints (Nat.le_trans hlen (by decide)) hr hF hb' (fun H hO hS=>?_) (fun _ _ _ z=>z)
 rcases hS with hS | ⟨o,its,n,e,_⟩
 ·refine⟨[.li (ns.map .int)],_,?_,law ns hlen,?_⟩
  ·refine⟨_,_,rfl,⟨[a],?_⟩,rfl⟩
   exact⟨a,_,rfl,hS,RpIs.ints ns,rfl⟩
  ·intro v H' z
   obtain⟨_,F,z,_⟩:=z
   rw [Rp] at z
   exact z.1
 ·rw [zhi] at e;cases e
noncomputable def vs (x:String) (t:Tok):Value:=.str (Str.ofString x) t
noncomputable def vi (n:Int):Value:=.int n 0
noncomputable def vr (a:Addr):Value:=.ref a
noncomputable def eO (p:Params) (x:String) (t:Tok) (v:Value):DictEntry:=⟨PyData.keyHash p (Str.ofString x),.str (Str.ofString x) t,v⟩
noncomputable def oC (vs:List Value):Obj:={ cls:=.type "code",data:=.fields vs.toArray }
noncomputable def oT (vs:List Value):Obj:={ cls:=.type "tuple",data:=.seq vs.toArray }
noncomputable def oD (es:List DictEntry) (n:Nat):Obj:={ cls:=.type "dict",data:=.dict es.toArray n }
noncomputable def oF (x:String) (st:Stmt) (pm:Value) (c:Addr):Obj:={ cls:=.type "function",data:=.func (PySem.W.fnOf (Str.ofString x) (Str.ofString x) (zyd st) (zkb st) (zm st) .none .none .none pm none (.ref c) .none) }
noncomputable def oc (x:String) (t l n r:Nat) (v:Option (Nat×Nat)) (d e:Nat):Obj:=oC [vs x t,vs x (t+1),vs "/claim/cut.py" (t+2),vi l,vi n,vi 0,vi 0,vi 3,vr r,.bool true,vi 181,vr (r+1),.none,(match v with | some p=>vr p.1 | none=>.none),(match v with | some p=>vr p.2 | none=>.none),vr d,vi e,vi l,vs "/claim/cut.py" (e+1)]
theorem Def0.mkO {K:yF}{h:Heap}{mg:Str->Option Value}{x:String}{st:Stmt}{ps:List Str}(X:K.In h)(G:h.Ns mainGlobals mg)(f:Addr)(pm:Value)(c:Addr)
  (hb:∀ (kV doc pm:Value) (an:Option Addr) (cdv ct:Value) (us:List Value),us.length=ps.length->bindArgs (PySem.W.fnOf (Str.ofString x) (Str.ofString x) (zyd st) (zkb st) (zm st) .none kV doc pm an cdv ct) ⟨us,[]⟩=pure (ps.zip us))
  (a:PySem.W.nsIn K mainGlobals (Str.ofString x)=some (some (.ref f)):=by kernel_rfl) (l:K.lookup f=some (oF x st pm c):=by kernel_rfl) (cd:PySem.W.codeIn K (.ref c) (Str.ofString x)=true:=by kernel_rfl):Def0 K mg (Str.ofString x) st ps:=
 Def0.mk' X G a l cd (by unfold PySem.W.keepIn;dsimp only;rw [l];rfl) hb
theorem bN {K:yF}{h:Heap}{mg:Str->Option Value}(X:K.In h)(G:h.Ns mainGlobals mg){n:Str}(e:PySem.W.nsIn K mainGlobals n=some none:=by kernel_rfl):mg n=none:=PySem.W.mg_none_of X G e
theorem GTup.mkO {K:yF}{h:Heap}{mg:Str->Option Value}(X:K.In h)(G:h.Ns mainGlobals mg){x:Str}{xs:List V}(a:Addr)(us:List Value)(t:PySem.W.nsIn K mainGlobals x=some (some (.ref a)))(tl:K.lookup a=some (oT us))(tz:us.toArray.size<=sizeLine)(tv:Vals xs us) :
  ∃ b,Glob mg x (.ref b)/\TupAt K b xs:=GTup.mk' X G t tl tz tv
section
variable  {α A B C D E F:Type}{f g:A->B->C->D->E->F->List Value->α}
theorem by1 (h:∀ x1 x2 x3 x4 x5 x6 a0,f x1 x2 x3 x4 x5 x6 [a0]=g x1 x2 x3 x4 x5 x6 [a0]):∀ x1 x2 x3 x4 x5 x6 (us:List Value),us.length=1->f x1 x2 x3 x4 x5 x6 us=g x1 x2 x3 x4 x5 x6 us
 | _,_,_,_,_,_,[a0],_=>h _ _ _ _ _ _ a0
theorem by2 (h:∀ x1 x2 x3 x4 x5 x6 a0 a1,f x1 x2 x3 x4 x5 x6 [a0,a1]=g x1 x2 x3 x4 x5 x6 [a0,a1]):∀ x1 x2 x3 x4 x5 x6 (us:List Value),us.length=2->f x1 x2 x3 x4 x5 x6 us=g x1 x2 x3 x4 x5 x6 us
 | _,_,_,_,_,_,[a0,a1],_=>h _ _ _ _ _ _ a0 a1
theorem by3 (h:∀ x1 x2 x3 x4 x5 x6 a0 a1 a2,f x1 x2 x3 x4 x5 x6 [a0,a1,a2]=g x1 x2 x3 x4 x5 x6 [a0,a1,a2]):∀ x1 x2 x3 x4 x5 x6 (us:List Value),us.length=3->f x1 x2 x3 x4 x5 x6 us=g x1 x2 x3 x4 x5 x6 us
 | _,_,_,_,_,_,[a0,a1,a2],_=>h _ _ _ _ _ _ a0 a1 a2
theorem by4 (h:∀ x1 x2 x3 x4 x5 x6 a0 a1 a2 a3,f x1 x2 x3 x4 x5 x6 [a0,a1,a2,a3]=g x1 x2 x3 x4 x5 x6 [a0,a1,a2,a3]):∀ x1 x2 x3 x4 x5 x6 (us:List Value),us.length=4->f x1 x2 x3 x4 x5 x6 us=g x1 x2 x3 x4 x5 x6 us
 | _,_,_,_,_,_,[a0,a1,a2,a3],_=>h _ _ _ _ _ _ a0 a1 a2 a3
end
end L2
namespace L2
open PySem
noncomputable section
noncomputable def zuf:MS:=(mSeq (mIf (mOr (mNot (zoa (zte (cmpT fun i j=>decide (i<=j)) (cmpT fun i j=>decide (i<=j)) (mC (.int 1)) (mB lenT (zf 0 mNil)) (mC (.int 8))))) (zoa (mOp inT (mVar 0) (mC (.tup [.str "min",.str "max",.str "rest",.str "less",.str "if"]))))) (mRet (mC (.bl false))) mNext)
  (mRet (mB allT (ze (zfb [none,none] (mIt (mVar 0)) (zl 1) mYes (mOp inT (mVar 1) (mC (.str "abcdefghijklmnopqrstuvwxyz")))) mNil))))
noncomputable def zxf (ts:List T):Option T:=if ts.length=1 then runP zuf 1 ts else none
noncomputable def zqc:MS:=(mSeq (mIf (zoa (mOp eqT (mIx (mVar 0) (mC (.int 0))) (mC (.str "op")))) (mRet (mSl (mVar 0) (zkg (mC (.int 2))) mNoPart)) mNext)
  (mSeq (mIf (zoa (mOp eqT (mIx (mVar 0) (mC (.int 0))) (mC (.str "if")))) (mRet (mSl (mVar 0) (zkg (mC (.int 1))) mNoPart)) mNext)
  (mRet (zz [] mNil))))
noncomputable def zvc (ts:List T):Option T:=if ts.length=1 then runP zqc 1 ts else none
noncomputable def zve:MS:=(mSeq (mAsg (zcb [] mNil) (zl 1))
  (mSeq (mAsg (zcb [0] (zf 0 mNil)) (zl 2))
  (mSeq (zlg (mTru (mVar 2))
  (mFgt [3] (mSeq (mAsg (zem 2 popT (mVar 2)) (zl 3))
  (mSeq (zrb (mMut 1 [3] apT (mVar 1) (zf 3 mNil)))
  (zrb (mMut 2 [] extT (mVar 2) (ze (mUn revT (mB zvc (zf 3 mNil))) mNil)))))))
  (mRet (mVar 1)))))
noncomputable def zed (ts:List T):Option T:=if ts.length=1 then runP zve 4 ts else none
noncomputable def zni:MS:=(mRet (mB tupT (ze (zfb [none,none] (mIt (mB zed (zf 0 mNil))) (zl 1) (zoa (mOp eqT (mIx (mVar 1) (mC (.int 0))) (mC (.str "at")))) (zz [] (ze (mIx (mVar 1) (mC (.int 1))) (ze (mIx (mVar 1) (mC (.int 2))) mNil)))) mNil)))
noncomputable def zxi (ts:List T):Option T:=if ts.length=1 then runP zni 1 ts else none
noncomputable def zkd:MS:=(mSeq (mIf (mNot (zoa (zte (cmpT fun i j=>decide (i<=j)) (cmpT fun i j=>decide (i<=j)) (mC (.int 1)) (mVar 0) (mC (.int 3))))) ztd mNext)
  (mSeq (mIf (mNot (zoa (zte (cmpT fun i j=>decide (i<=j)) (cmpT fun i j=>decide (i<=j)) (mC (.int 2)) (mVar 1) (mC (.int 1000000000))))) ztd mNext)
  (mIf (mNot (zoa (zte (cmpT fun i j=>decide (i<=j)) (cmpT fun i j=>decide (i<=j)) (mC (.int 1)) (mB lenT (zf 2 mNil)) (mC (.int 6))))) ztd mNext)))
noncomputable def zpd (ts:List T):Option T:=if ts.length=3 then runP zkd 3 ts else none
noncomputable def zce:MS:=(mFor (mIt (mB zed (zf 1 mNil))) (zl 4)
  (mFgt [4] (mSeq (mIf (mAnd (zoa (mOp eqT (mIx (mVar 4) (mC (.int 0))) (mC (.str "num")))) (mNot (zoa (zte (cmpT fun i j=>decide (i<=j)) (cmpT fun i j=>decide (i<=j)) (mC (.int 0)) (mIx (mVar 4) (mC (.int 1))) (mC (.int 1000000000)))))) ztd mNext)
  (mSeq (mIf (mAnd (zoa (mOp eqT (mIx (mVar 4) (mC (.int 0))) (mC (.str "at")))) (zoa (mOp ninT (mIx (mVar 4) (mC (.int 1))) (mVar 2)))) ztd mNext)
  (mIf (mAnd (zoa (mOp eqT (mIx (mVar 4) (mC (.int 0))) (mC (.str "at")))) (zoa (mOp neT (mB lenT (ze (mIx (mVar 4) (mC (.int 2))) mNil)) (mVar 3)))) ztd mNext)))))
noncomputable def zke (ts:List T):Option T:=if ts.length=4 then runP zce 5 ts else none
noncomputable def zjd:MS:=(mSeq (mAsg (zcb [] mNil) (zl 2))
  (mSeq (mFor (mIt (mB zxi (zf 1 mNil))) (zbe (zea (zl 3) (zea (zl 4) mGNil)))
  (mFgt [3,4,5] (mSeq (mAsg (zz [0,3,4] (zf 0 (zf 3 (zf 4 mNil)))) (zl 5))
  (mIf (zoa (mOp ninT (mVar 5) (mVar 2))) (zrb (mMut 2 [5] apT (mVar 2) (zf 5 mNil))) mNext))))
  (mRet (mVar 2))))
noncomputable def zod (ts:List T):Option T:=if ts.length=2 then runP zjd 6 ts else none
noncomputable def zwe:MS:=(mRet (mB tupT (ze (zjj [none,none,none,none] [some 0,some 1,some 2,none] (mIt (mIx (mVar 0) (mC (.int 2)))) (zbe (zea (zl 1) (zea (zl 2) mGNil))) (mIt (mB zod (zf 1 (zf 2 mNil)))) (zl 3) mYes (mVar 3)) mNil)))
noncomputable def zaf (ts:List T):Option T:=if ts.length=1 then runP zwe 1 ts else none
noncomputable def zld:MS:=(mSeq (mAsg (mVar 0) (zbe (zea (zl 1) (zea (zl 2) (zea (zl 3) mGNil)))))
  (mSeq (zrb (mB zpd (zf 1 (zf 2 (zf 3 mNil)))))
  (mSeq (mAsg (zfb [none,none,none,none,none,none,none,none] (mIt (mVar 3)) (zbe (zea (zl 6) (zea (zl 7) mGNil))) mYes (mVar 6)) (zl 4))
  (mSeq (mFor (zdm (zf 3 mNil)) (zbe (zea (zl 5) (zea (zbe (zea (zl 6) (zea (zl 7) mGNil))) mGNil)))
  (mFgt [5,6,7] (mSeq (mIf (mOr (mNot (zoa (mB zxf (zf 6 mNil)))) (zoa (mOp inT (mVar 6) (mSl (mVar 4) mNoPart (zkg (mVar 5)))))) ztd mNext)
  (zrb (mB zke (zf 6 (zf 7 (zf 4 (zf 1 mNil)))))))))
  (mSeq (mIf (zoa (mOp (cmpT fun i j=>decide (j<i)) (mB lenT (ze (mB zaf (zf 0 mNil)) mNil)) (mC (.int 16)))) ztd mNext)
  (mRet (mC (.bl true))))))))
noncomputable def zqd (ts:List T):Option T:=if ts.length=1 then runP zld 8 ts else none
noncomputable def zsj:MS:=(mSeq (mAsg (mOp addT (mOp mulT (mC (.int 7901)) (mVar 1)) (mC (.int 24697))) (zl 2))
  (mSeq (mIf (zoa (mOp (cmpT fun i j=>decide (i<j)) (mVar 1) (mB lenT (zf 0 mNil)))) (mAsg (mIx (mVar 0) (mVar 1)) (zl 2)) (mIf (zoa (mOp (cmpT fun i j=>decide (j<i)) (mB lenT (zf 0 mNil)) (mC (.int 0)))) (mAsg (mOp addT (mOp mulT (mOp modT (mIx (mVar 0) (mOp modT (mVar 1) (mB lenT (zf 0 mNil)))) (mC (.int 2147483629))) (mC (.int 31))) (mOp mulT (mC (.int 7901)) (mVar 1))) (zl 2)) mNext))
  (mSeq (mAsg (mC (.int 0)) (zl 3))
  (mSeq (mIf (zoa (mOp (cmpT fun i j=>decide (j<=i)) (mVar 2) (mOp powT (mC (.int 10)) (mC (.int 18))))) (mAsg (mVar 2) (zl 3)) mNext)
  (mRet (zcb [3] (zf 3 (ze (mOp addT (mOp modT (mOp powT (mOp addT (mOp mulT (mOp modT (mVar 2) (mC (.int 2147483629))) (mC (.int 48271))) (mOp mulT (mC (.int 40692)) (mVar 1))) (mC (.int 5))) (mC (.int 2147483629))) (mC (.int 1))) mNil))))))))
noncomputable def zzj (ts:List T):Option T:=if ts.length=2 then runP zsj 4 ts else none
noncomputable def zvj:MS:=(mSeq (mIf (zoa (mOp (cmpT fun i j=>decide (j<i)) (mIx (mVar 0) (mC (.int 0))) (mC (.int 0)))) (mSeq (mAsg (mOp modT (mIx (mVar 0) (mC (.int 0))) (mVar 1)) (zl 2))
  (mSeq (mAsg (mOp zpj (mIx (mVar 0) (mC (.int 0))) (mVar 1)) (mSub 0 (mVar 0) (mC (.int 0))))
  (mRet (mVar 2)))) mNext)
  (mSeq (mAsg (mOp modT (mOp mulT (mIx (mVar 0) (mC (.int 1))) (mC (.int 48271))) (mC (.int 2147483647))) (zl 3))
  (mSeq (mAsg (mOp addT (mOp modT (mOp addT (mOp mulT (mVar 3) (mC (.int 40692))) (mC (.int 30103))) (mC (.int 2147483399))) (mC (.int 1))) (mSub 0 (mVar 0) (mC (.int 1))))
  (mRet (mOp modT (mOp zpj (mOp addT (mOp mulT (mVar 3) (mC (.int 2147483647))) (mIx (mVar 0) (mC (.int 1)))) (mC (.int 8191))) (mVar 1))))))
noncomputable def zn (ts:List T):Option (T×T):=if ts.length=2 then runI zvj 0 4 ts else none
noncomputable def zli:MS:=(mSeq (mAsg (mC (.str "abcdefghijklmnopqrstuvwxyz")) (zl 2))
  (mSeq (mAsg (mM zel (mC (.str "")) (ze (zfb [some 0,none,some 2,none,none,none,none,none,none] (zjb (ze (zq 0 0 zn (zf 0 (ze (mC (.int 6)) mNil))) mNil)) (zl 7) mYes (mIx (mVar 2) (zq 0 0 zn (zf 0 (ze (mC (.int 26)) mNil))))) mNil)) (zl 3))
  (mSeq (zfm 4 5 (ze (zq 0 0 zn (zf 0 (ze (mC (.int 26)) mNil))) (ze (zq 0 0 zn (zf 0 (ze (mOp addT (mB lenT (zf 3 mNil)) (mC (.int 1))) mNil))) mNil)))
  (mSeq (mAsg (zcb [] mNil) (zl 6))
  (mSeq (mFor (zjb (zf 1 mNil)) (zl 7)
  (mFgt [7,8] (mSeq (mAsg (mOp addT (mOp addT (mSl (mVar 3) mNoPart (zkg (mVar 5))) (mIx (mVar 2) (mOp modT (mOp addT (mVar 4) (mOp mulT (mC (.int 5)) (mVar 7))) (mC (.int 26))))) (mSl (mVar 3) (zkg (mVar 5)) mNoPart)) (zl 8))
  (mSeq (mIf (zoa (mOp eqT (mOp modT (mVar 7) (mC (.int 2))) (mC (.int 1)))) (mAsg (mOp addT (mVar 8) (mC (.str "q"))) (zl 8)) mNext)
  (mSeq (mIf (zoa (mOp inT (mVar 8) (zz [] (ze (mC (.str "min")) (ze (mC (.str "max")) (ze (mC (.str "rest")) (ze (mC (.str "less")) (ze (mC (.str "if")) mNil)))))))) (mAsg (mOp addT (mVar 8) (mC (.str "w"))) (zl 8)) mNext)
  (zrb (mMut 6 [8] apT (mVar 6) (zf 8 mNil))))))))
  (mRet (mVar 6)))))))
noncomputable def zsg (ts:List T):Option (T×T):=if ts.length=2 then runI zli 0 9 ts else none
noncomputable def zhl:MS:=(mSeq (mIf (zoa (mOp eqT (zq 0 0 zn (zf 0 (ze (mC (.int 4)) mNil))) (mC (.int 0)))) (mRet (mOp mulT (zz [] (ze (mC (.int 0)) mNil)) (mVar 1))) mNext)
  (mRet (mB tupT (ze (zfb [some 0,none,none] (zjb (zf 1 mNil)) (zl 2) mYes (mIx (zcb [] (ze (mC (.int 0)) (ze (mC (.int 1)) (ze (mOp subT (mC (.int 0)) (mC (.int 1))) (ze (mC (.int 2)) (ze (mOp subT (mC (.int 0)) (mC (.int 2))) mNil)))))) (zq 0 0 zn (zf 0 (ze (mC (.int 5)) mNil))))) mNil))))
noncomputable def zbk (ts:List T):Option (T×T):=if ts.length=2 then runI zhl 0 2 ts else none
noncomputable def zue:MS:=(mSeq (mAsg (zq 0 0 zn (zf 0 (zf 1 mNil))) (zl 2))
  (mSeq (mAsg (zfb [some 0,none,none,none,none] (zmh (ze (mOp addT (mVar 2) (mC (.int 1))) (zf 1 mNil))) (zl 4) mYes (mIx (zcb [] (ze (mC (.int 0)) (ze (mC (.int 1)) (ze (mOp subT (mC (.int 0)) (mC (.int 1))) (ze (mC (.int 2)) (ze (mOp subT (mC (.int 0)) (mC (.int 2))) mNil)))))) (zq 0 0 zn (zf 0 (ze (mC (.int 5)) mNil))))) (zl 3))
  (mRet (mB tupT (ze (mOp addT (mOp addT (mOp mulT (zcb [] (ze (mC (.int 0)) mNil)) (mVar 2)) (zcb [] (ze (mOp subT (mOp subT (mC (.int 0)) (mC (.int 1))) (zq 0 0 zn (zf 0 (ze (mC (.int 2)) mNil)))) mNil))) (mVar 3)) mNil)))))
noncomputable def zdd (ts:List T):Option (T×T):=if ts.length=2 then runI zue 0 4 ts else none
noncomputable def zfd:MS:=(mSeq (mAsg (zfb [none,none,none,none,none,none] (zjb (zf 2 mNil)) (zl 4) mYes (zcb [] mNil)) (zl 3))
  (mSeq (mFor (zjb (zf 2 mNil)) (zl 4)
  (mFgt [4,5] (mFor (zjb (ze (zq 0 0 zn (zf 0 (ze (mC (.int 4)) mNil))) mNil)) (zl 5)
  (mFgt [5] (zrb (mMut 3 [] apT (mIx (mVar 3) (mVar 4)) (ze (zz [] (ze (zq 0 0 zn (zf 0 (zf 2 mNil))) (ze (zq 0 0 zbk (zf 0 (zf 1 mNil))) mNil))) mNil)))))))
  (mRet (mVar 3))))
noncomputable def zmd (ts:List T):Option (T×T):=if ts.length=3 then runI zfd 0 6 ts else none
noncomputable def zgd:MS:=(mSeq (mAsg (zfb [none,none,none,none,none,none] (zjb (zf 2 mNil)) (zl 4) mYes (zcb [] mNil)) (zl 3))
  (mSeq (mFor (zjb (zf 2 mNil)) (zl 4)
  (mFgt [4,5] (mFor (zjb (ze (mOp addT (mC (.int 1)) (zq 0 0 zn (zf 0 (ze (mC (.int 3)) mNil)))) mNil)) (zl 5)
  (mFgt [5] (mIf (mAnd (zoa (mOp (cmpT fun i j=>decide (j<i)) (mVar 4) (mC (.int 0)))) (zoa (mOp eqT (zq 0 0 zn (zf 0 (ze (mC (.int 4)) mNil))) (mC (.int 0))))) (zrb (mMut 3 [] apT (mIx (mVar 3) (mVar 4)) (ze (zz [] (ze (zq 0 0 zn (zf 0 (zf 4 mNil))) (ze (mOp mulT (zz [] (ze (mC (.int 0)) mNil)) (mVar 1)) mNil))) mNil))) (zrb (mMut 3 [] apT (mIx (mVar 3) (mVar 4)) (ze (zz [] (ze (zq 0 0 zn (zf 0 (zf 2 mNil))) (ze (zq 0 0 zdd (zf 0 (zf 1 mNil))) mNil))) mNil))))))))
  (mRet (mVar 3))))
noncomputable def zic (ts:List T):Option (T×T):=if ts.length=3 then runI zgd 0 6 ts else none
noncomputable def zid:MS:=(mSeq (mAsg (zcb [] mNil) (zl 3))
  (mSeq (mFor (zjb (ze (mB lenT (zf 0 mNil)) mNil)) (zl 4)
  (mFgt [4] (zrb (mMut 3 [] apT (mVar 3) (ze (mOp mulT (mIx (mVar 0) (mOp modT (mOp addT (mVar 4) (mVar 1)) (mB lenT (zf 0 mNil)))) (mIx (mVar 2) (mVar 4))) mNil)))))
  (mRet (mB tupT (zf 3 mNil)))))
noncomputable def zjc (ts:List T):Option T:=if ts.length=3 then runP zid 5 ts else none
noncomputable def zwb:MS:=(mSeq (mAsg (mOp addT (mC (.int 1)) (zq 0 0 zn (zf 0 (ze (mC (.int 2)) mNil)))) (zl 3))
  (mSeq (mAsg (zcb [] (ze (zz [] (ze (mC (.int 0)) (ze (mC (.int 0)) (ze (zz [3] (ze (mC (.int 0)) (zf 3 mNil))) mNil)))) (ze (zz [] (ze (mC (.int 1)) (ze (mC (.int 1)) (ze (zz [] (ze (mC (.int 0)) (ze (mOp subT (mOp subT (mC (.int 0)) (mC (.int 1))) (zq 0 0 zn (zf 0 (ze (mC (.int 2)) mNil)))) mNil))) mNil)))) (ze (zz [] (ze (mC (.int 0)) (ze (mC (.int 1)) (ze (zz [] (ze (mOp subT (mC (.int 0)) (mC (.int 1))) (ze (mOp subT (zq 0 0 zn (zf 0 (ze (mC (.int 3)) mNil))) (mC (.int 1))) mNil))) mNil)))) mNil)))) (zl 4))
  (mSeq (zrb (mMut 4 [] apT (mVar 4) (ze (zz [] (ze (mC (.int 1)) (ze (mC (.int 0)) (ze (zz [] (ze (mOp subT (mC (.int 0)) (zq 0 0 zn (zf 0 (ze (mC (.int 2)) mNil)))) (ze (mC (.int 0)) mNil))) mNil)))) mNil)))
  (mSeq (mIf (zoa (mOp eqT (mVar 1) (mC (.int 3)))) (mSeq (mAsg (zcb [] (ze (zz [] (ze (mC (.int 0)) (ze (mC (.int 0)) (ze (zz [3] (ze (mC (.int 0)) (ze (mC (.int 0)) (zf 3 mNil)))) mNil)))) (ze (zz [] (ze (mC (.int 1)) (ze (mC (.int 1)) (ze (zz [] (ze (mC (.int 0)) (ze (mC (.int 0)) (ze (mOp subT (mC (.int 0)) (mC (.int 1))) mNil)))) mNil)))) (ze (zz [] (ze (mC (.int 0)) (ze (mC (.int 1)) (ze (zz [] (ze (mC (.int 0)) (ze (mOp subT (mC (.int 0)) (mC (.int 1))) (ze (mC (.int 0)) mNil)))) mNil)))) (ze (zz [] (ze (mC (.int 1)) (ze (mC (.int 0)) (ze (zz [] (ze (mC (.int 0)) (ze (mC (.int 0)) (ze (zq 0 0 zn (zf 0 (ze (mC (.int 2)) mNil))) mNil)))) mNil)))) mNil))))) (zl 4))
  (mAsg (mOp addT (mVar 4) (zcb [] (ze (zz [] (ze (mC (.int 2)) (ze (mC (.int 2)) (ze (zz [] (ze (mC (.int 0)) (ze (mOp addT (mC (.int 1)) (zq 0 0 zn (zf 0 (ze (mC (.int 2)) mNil)))) (ze (mC (.int 0)) mNil)))) mNil)))) (ze (zz [] (ze (mC (.int 0)) (ze (mC (.int 2)) (ze (zz [] (ze (mOp subT (mC (.int 0)) (mC (.int 1))) (ze (mC (.int 0)) (ze (mC (.int 1)) mNil)))) mNil)))) (ze (zz [] (ze (mC (.int 2)) (ze (mC (.int 0)) (ze (zz [] (ze (mC (.int 0)) (ze (mC (.int 0)) (ze (mC (.int 0)) mNil)))) mNil)))) mNil))))) (zl 4))) mNext)
  (mSeq (zfm 5 6 (ze (zq 0 0 zn (zf 0 (zf 1 mNil))) (ze (zfb [some 0,none,none,none,none,none,none,none,none,none,none,none] (zjb (zf 1 mNil)) (zl 11) mYes (mOp subT (mC (.int 1)) (mOp mulT (mC (.int 2)) (zq 0 0 zn (zf 0 (ze (mC (.int 2)) mNil)))))) mNil)))
  (mSeq (mAsg (zfb [none,none,none,none,none,none,none,none,none,none,none] (zjb (zf 2 mNil)) (zl 8) mYes (zcb [] mNil)) (zl 7))
  (mSeq (mFor (mIt (mVar 4)) (zbe (zea (zl 8) (zea (zl 9) (zea (zl 10) mGNil))))
  (mFgt [8,9,10] (zrb (mMut 7 [] apT (mIx (mVar 7) (mVar 8)) (ze (zz [9] (zf 9 (ze (mB zjc (zf 10 (zf 5 (zf 6 mNil)))) mNil))) mNil)))))
  (mSeq (mFor (zmh (ze (mC (.int 3)) (zf 2 mNil))) (zl 8)
  (mFgt [8] (zrb (mMut 7 [] apT (mIx (mVar 7) (mVar 8)) (ze (zz [] (ze (zq 0 0 zn (zf 0 (zf 8 mNil))) (ze (zq 0 0 zbk (zf 0 (zf 1 mNil))) mNil))) mNil)))))
  (mRet (mVar 7))))))))))
noncomputable def zac (ts:List T):Option (T×T):=if ts.length=3 then runI zwb 0 11 ts else none
noncomputable def zhd:MS:=(mSeq (mAsg (zq 0 0 zic (zf 0 (zf 1 (zf 2 mNil)))) (zl 3))
  (mSeq (mAsg (mOp addT (mC (.int 1)) (zq 0 0 zn (zf 0 (zf 2 mNil)))) (zl 4))
  (mSeq (mAsg (mOp mulT (zcb [] (ze (mC (.int 0)) mNil)) (mVar 1)) (zl 5))
  (mSeq (mFor (zjb (zf 4 mNil)) (zl 6)
  (mFgt [6,7] (mSeq (mAsg (zfb [some 0,none,none,none,none,none,none,none,none] (zjb (zf 1 mNil)) (zl 8) mYes (mOp subT (zq 0 0 zn (zf 0 (ze (mC (.int 3)) mNil))) (mC (.int 1)))) (zl 7))
  (mSeq (mAsg (zfb [none,none,none,none,none,some 5,none,some 7,none] (zjb (zf 1 mNil)) (zl 8) mYes (mOp subT (mB maxT (ze (mOp subT (mC (.int 0)) (mC (.int 2))) (ze (mB minT (ze (mC (.int 2)) (ze (mOp addT (mIx (mVar 5) (mVar 8)) (mIx (mVar 7) (mVar 8))) mNil))) mNil))) (mIx (mVar 5) (mVar 8)))) (zl 7))
  (mSeq (mIf (zoa (mOp eqT (mOp addT (mVar 6) (mC (.int 1))) (mVar 4))) (mAsg (zfb [none,none,none,none,none,none,none,none,none] (mIt (mVar 5)) (zl 8) mYes (mOp subT (mC (.int 0)) (mVar 8))) (zl 7)) mNext)
  (mSeq (mAsg (zfb [none,none,none,none,none,some 5,none,some 7,none] (zjb (zf 1 mNil)) (zl 8) mYes (mOp addT (mIx (mVar 5) (mVar 8)) (mIx (mVar 7) (mVar 8)))) (zl 5))
  (zrb (mMut 3 [] insT (mIx (mVar 3) (mVar 6)) (ze (mC (.int 0)) (ze (zz [] (ze (mOp modT (mOp addT (mVar 6) (mC (.int 1))) (mVar 4)) (ze (mB tupT (zf 7 mNil)) mNil))) mNil))))))))))
  (mRet (mVar 3))))))
noncomputable def znd (ts:List T):Option (T×T):=if ts.length=3 then runI zhd 0 8 ts else none
noncomputable def zmi:MS:=(mSeq (zfm 1 2 (ze (zq 0 0 zn (zf 0 (ze (mC (.int 8)) mNil))) (ze (zq 0 0 zn (zf 0 (ze (mC (.int 16)) mNil))) mNil)))
  (mSeq (mAsg (mIx (zcb [] (ze (mC (.int 1)) (ze (mC (.int 2)) (ze (mC (.int 2)) (ze (mC (.int 2)) (ze (mC (.int 2)) (ze (mC (.int 1)) (ze (mC (.int 2)) (ze (mC (.int 3)) mNil))))))))) (mOp modT (mVar 2) (mC (.int 8)))) (zl 3))
  (mSeq (mAsg (mOp addT (mC (.int 1)) (zq 0 0 zn (zf 0 (ze (mIx (zcb [] (ze (mC (.int 3)) (ze (mC (.int 6)) mNil))) (mOp zpj (mVar 2) (mC (.int 8)))) mNil)))) (zl 4))
  (mSeq (mIf (zoa (mOp (cmpT fun i j=>decide (i<j)) (mVar 1) (mC (.int 3)))) (mRet (zz [3] (zf 3 (ze (zq 0 0 zmd (zf 0 (zf 3 (zf 4 mNil)))) mNil)))) mNext)
  (mSeq (mIf (zoa (mOp (cmpT fun i j=>decide (i<j)) (mVar 1) (mC (.int 5)))) (mRet (zz [3] (zf 3 (ze (zq 0 0 zic (zf 0 (zf 3 (zf 4 mNil)))) mNil)))) mNext)
  (mSeq (mIf (zoa (mOp eqT (mVar 1) (mC (.int 5)))) (mRet (zz [3] (zf 3 (ze (zq 0 0 znd (zf 0 (zf 3 (zf 4 mNil)))) mNil)))) mNext)
  (mSeq (mAsg (mB maxT (ze (mC (.int 2)) (zf 3 mNil))) (zl 3))
  (mRet (zz [3] (zf 3 (ze (zq 0 0 zac (zf 0 (zf 3 (ze (mB maxT (zf 3 (ze (mB minT (zf 4 (ze (mC (.int 5)) mNil))) mNil))) mNil)))) mNil)))))))))))
noncomputable def zwi (ts:List T):Option (T×T):=if ts.length=1 then runI zmi 0 5 ts else none
noncomputable def zji:MS:=(mSeq (mAsg (mB lstT (zf 1 mNil)) (zl 2))
  (mSeq (zlg (zoa (mOp (cmpT fun i j=>decide (j<i)) (mB lenT (zf 2 mNil)) (mC (.int 1))))
  (mFgt [3,4] (mSeq (mAsg (zq 0 0 zn (zf 0 (ze (mOp subT (mB lenT (zf 2 mNil)) (mC (.int 1))) mNil))) (zl 3))
  (mFgt [3,4] (mIf (mAnd (zoa (mOp (cmpT fun i j=>decide (j<i)) (mB lenT (zf 2 mNil)) (mC (.int 2)))) (zoa (mOp eqT (zq 0 0 zn (zf 0 (ze (mC (.int 5)) mNil))) (mC (.int 0))))) (mSeq (mAsg (mB minT (zf 3 (ze (mOp subT (mB lenT (zf 2 mNil)) (mC (.int 3))) mNil))) (zl 3))
  (mAsg (zcb [] (ze (zz [] (ze (mC (.str "if")) (ze (mIx (mVar 2) (mVar 3)) (ze (mIx (mVar 2) (mOp addT (mVar 3) (mC (.int 1)))) (ze (mIx (mVar 2) (mOp addT (mVar 3) (mC (.int 2)))) mNil))))) mNil)) (zii 2 (mVar 2) (mVar 3) (mOp addT (mVar 3) (mC (.int 3)))))) (mSeq (mAsg (mIx (zcb [] (ze (mC (.str "+")) (ze (mC (.str "-")) (ze (mC (.str "*")) (ze (mC (.str "min")) (ze (mC (.str "max")) (ze (mC (.str "rest")) (ze (mC (.str "less")) mNil)))))))) (zq 0 0 zn (zf 0 (ze (mC (.int 7)) mNil)))) (zl 4))
  (mAsg (zcb [] (ze (zz [4] (ze (mC (.str "op")) (zf 4 (ze (mIx (mVar 2) (mVar 3)) (ze (mIx (mVar 2) (mOp addT (mVar 3) (mC (.int 1)))) mNil))))) mNil)) (zii 2 (mVar 2) (mVar 3) (mOp addT (mVar 3) (mC (.int 2)))))))))))
  (mRet (mIx (mVar 2) (mC (.int 0))))))
noncomputable def zrg (ts:List T):Option (T×T):=if ts.length=2 then runI zji 0 5 ts else none
noncomputable def zki:MS:=(mSeq (mAsg (zq 0 0 zwi (zf 0 mNil)) (zbe (zea (zl 1) (zea (zl 2) mGNil))))
  (mSeq (mAsg (mIx (zcb [] (ze (mOp addT (mC (.int 2)) (zq 0 0 zn (zf 0 (ze (mC (.int 9)) mNil)))) (ze (mOp addT (mC (.int 2)) (zq 0 0 zn (zf 0 (ze (mC (.int 998)) mNil)))) (ze (mOp subT (mC (.int 1000000000)) (zq 0 0 zn (zf 0 (ze (mC (.int 9)) mNil)))) mNil)))) (zq 0 0 zn (zf 0 (ze (mC (.int 3)) mNil)))) (zl 3))
  (mSeq (mAsg (zq 0 0 zsg (zf 0 (ze (mB lenT (zf 2 mNil)) mNil))) (zl 4))
  (mSeq (mAsg (zcb [] mNil) (zl 5))
  (mSeq (mFor (zjb (ze (mB lenT (zf 2 mNil)) mNil)) (zl 6)
  (mFgt [6,7,8,9] (mSeq (mAsg (zfb [none,none,none,none,some 4,none,none,none,none,none,none,none] (mIt (mSl (mIx (mVar 2) (mVar 6)) mNoPart (zkg (mOp zpj (mC (.int 16)) (mB lenT (zf 2 mNil)))))) (zbe (zea (zl 10) (zea (zl 11) mGNil))) mYes (zz [11] (ze (mC (.str "at")) (ze (mIx (mVar 4) (mVar 10)) (zf 11 mNil))))) (zl 7))
  (mSeq (mFor (zjb (ze (mOp addT (zq 0 0 zn (zf 0 (ze (mC (.int 2)) mNil))) (mB intT (ze (mOp eqT (mVar 7) (zcb [] mNil)) mNil))) mNil)) (zl 8)
  (mFgt [8,9] (mSeq (mAsg (zq 0 0 zn (zf 0 (ze (mIx (zcb [] (ze (mC (.int 9)) (ze (mC (.int 1000000001)) mNil))) (zq 0 0 zn (zf 0 (ze (mC (.int 2)) mNil)))) mNil))) (zl 9))
  (zrb (mMut 7 [] insT (mVar 7) (ze (zq 0 0 zn (zf 0 (ze (mOp addT (mB lenT (zf 7 mNil)) (mC (.int 1))) mNil))) (ze (zz [9] (ze (mC (.str "num")) (zf 9 mNil))) mNil)))))))
  (zrb (mMut 5 [] apT (mVar 5) (ze (zz [] (ze (mIx (mVar 4) (mVar 6)) (ze (zq 0 0 zrg (zf 0 (zf 7 mNil))) mNil))) mNil)))))))
  (mRet (zz [1,3] (zf 1 (zf 3 (ze (mB tupT (zf 5 mNil)) mNil))))))))))
noncomputable def zui (ts:List T):Option (T×T):=if ts.length=1 then runI zki 0 10 ts else none
noncomputable def ztj:MS:=(mSeq (mAsg (zq 0 0 zsg (zf 0 (ze (mC (.int 2)) mNil))) (zl 2))
  (mSeq (mAsg (zz [] (ze (zq 0 0 zn (zf 0 (ze (mC (.int 2)) mNil))) (ze (mOp subT (mC (.int 1)) (mOp mulT (mC (.int 2)) (zq 0 0 zn (zf 0 (ze (mC (.int 2)) mNil))))) mNil))) (zbe (zea (zl 3) (zea (zl 4) mGNil))))
  (mSeq (mAsg (zcb [] mNil) (zl 5))
  (mSeq (mFor (zjb (ze (mC (.int 2)) mNil)) (zl 6)
  (mFgt [6,7] (mSeq (mAsg (zfb [none,none,some 2,none,some 4,none,some 6,none,none] (zjb (ze (mOp addT (mC (.int 8)) (mOp mulT (mVar 1) (mB intT (ze (mOp eqT (mVar 6) (mVar 3)) mNil)))) mNil)) (zl 8) mYes (zz [] (ze (mC (.str "at")) (ze (mIx (mVar 2) (mOp modT (mVar 8) (mC (.int 2)))) (ze (zz [] (ze (mOp addT (mOp mulT (mVar 4) (mOp zpj (mVar 8) (mC (.int 2)))) (mVar 6)) mNil)) mNil))))) (zl 7))
  (zrb (mMut 5 [] apT (mVar 5) (ze (zz [] (ze (mIx (mVar 2) (mVar 6)) (ze (zq 0 0 zrg (zf 0 (zf 7 mNil))) mNil))) mNil))))))
  (mRet (zz [] (ze (mC (.int 1)) (ze (mOp addT (mC (.int 2)) (zq 0 0 zn (zf 0 (ze (mC (.int 9)) mNil)))) (ze (mB tupT (zf 5 mNil)) mNil)))))))))
noncomputable def zak (ts:List T):Option (T×T):=if ts.length=2 then runI ztj 0 8 ts else none
noncomputable def zgl (rec:List T->Option T):MS:=(mSeq (mIf (zoa (mOp eqT (mIx (mVar 0) (mC (.int 0))) (mC (.str "num")))) (mRet (mVar 0)) mNext)
  (mSeq (mIf (zoa (mOp eqT (mIx (mVar 0) (mC (.int 0))) (mC (.str "at")))) (mRet (zz [] (ze (mC (.str "at")) (ze (mIx (mVar 0) (mC (.int 1))) (ze (mB tupT (ze (zfb [none,some 1,none,none] (mIt (mIx (mVar 0) (mC (.int 2)))) (zl 3) mYes (mOp mulT (mVar 1) (mVar 3))) mNil)) mNil))))) mNext)
  (mSeq (mAsg (mOp addT (mC (.int 1)) (mB intT (ze (mOp eqT (mIx (mVar 0) (mC (.int 0))) (mC (.str "op"))) mNil))) (zl 2))
  (mRet (mOp addT (mSl (mVar 0) mNoPart (zkg (mVar 2))) (mB tupT (ze (zfb [none,some 1,none,none] (mIt (mSl (mVar 0) (zkg (mVar 2)) mNoPart)) (zl 3) mYes (mB rec (zf 3 (zf 1 mNil)))) mNil)))))))
noncomputable def zvi:Nat->List T->Option T
 | 0=>fun ts=>if ts.length=2 then runP ztd 3 ts else none
 | n+1=>fun ts=>if ts.length=2 then runP (zgl (zvi n)) 3 ts else none
noncomputable def zuj:MS:=(mSeq (mAsg (zz [] (ze (zq 0 0 zn (zf 0 (ze (mC (.int 3)) mNil))) (ze (zq 0 0 zn (zf 0 (ze (mOp addT (mOp powT (mC (.int 10)) (mC (.int 12))) (mC (.int 1))) mNil))) mNil))) (zbe (zea (zl 1) (zea (zl 2) mGNil))))
  (mSeq (mAsg (zq 0 0 zui (zf 0 mNil)) (zbe (zea (zl 3) (zea (zl 4) (zea (zl 5) mGNil)))))
  (mSeq (mAsg (zcb [] (ze (zz [3,4,5] (zf 3 (zf 4 (zf 5 mNil)))) (ze (zz [3,5] (zf 3 (ze (mIx (zcb [] (ze (mC (.int 2)) (ze (mC (.int 1000000000)) mNil))) (mOp modT (mVar 1) (mC (.int 2)))) (zf 5 mNil)))) mNil))) (zl 6))
  (mSeq (zrb (mMut 6 [] apT (mVar 6) (ze (zz [3,4] (zf 3 (zf 4 (ze (mB tupT (ze (zfb [none,none,some 2,none,none,none,none,none,none] (mIt (mVar 5)) (zbe (zea (zl 7) (zea (zl 8) mGNil))) mYes (zz [7] (zf 7 (ze (mB (zvi 24) (zf 8 (zf 2 mNil))) mNil)))) mNil)) mNil)))) mNil)))
  (mSeq (zrb (mMut 6 [] apT (mVar 6) (ze (zz [3,4] (zf 3 (zf 4 (ze (mB tupT (ze (zfb [none,none,none,none,none,none,none,none,none] (mIt (mVar 5)) (zbe (zea (zl 7) (zea (zl 8) mGNil))) mYes (zz [7] (zf 7 (ze (zz [8,8] (ze (mC (.str "op")) (ze (mC (.str "less")) (zf 8 (zf 8 mNil))))) mNil)))) mNil)) mNil)))) mNil)))
  (mRet (mOp addT (mVar 6) (zcb [] (ze (zq 0 0 zak (zf 0 (ze (mC (.int 0)) mNil))) mNil)))))))))
noncomputable def zck (ts:List T):Option (T×T):=if ts.length=1 then runI zuj 0 7 ts else none
noncomputable def zfl:MS:=(mSeq (mAsg (zcb [] mNil) (zl 1))
  (mSeq (mFor (zjb (ze (mB maxT (ze (mC (.int 2)) (ze (mB minT (ze (mB lenT (zf 0 mNil)) (ze (mC (.int 6)) mNil))) mNil))) mNil)) (zl 2)
  (mFgt [2] (zrb (mMut 1 [] extT (mVar 1) (ze (zij 0 zck (ze (mB zzj (zf 0 (zf 2 mNil))) mNil)) mNil)))))
  (mSeq (mFor (mIt (mOp addT (mVar 1) (mSl (mVar 1) mNoPart (zkg (mC (.int 2)))))) (zl 3)
  (mFgt [3] (mIf (zoa (mOp nisT (mB zqd (zf 3 mNil)) (mC (.bl true)))) (mRet (mC (.bl false))) mNext)))
  (mRet (mC (.bl true))))))
noncomputable def r_l_law (ts:List T):Option T:=if ts.length=1 then runP zfl 4 ts else none
end
end L2
namespace L2
open PySem PySem.Spec PyProof.Rows
local macro_rules | `(tactic| ac_nf)=>`(tactic| try simp only [kR_nil,kR_ow,kR_io,kR_none,kR_vn,List.set_cons_zero,List.set_cons_succ,put_nil,rInt_eq,rdR_im,rdR_vw,rdR_li,rdR_lst,fgts_nil,fgts_cons])
local macro_rules | `(tactic| infer_instance)=>`(tactic| first
 | refine fseq_nx ?_ | refine fseq_rt ?_ | refine fseq_bk ?_ | refine fseq_ct ?_ | (refine ffgt_nx ?_;try ac_nf) | refine ffgt_rt ?_ | refine ffgt_ct ?_ | refine ffgt_bk ?_ | refine ffs_rt ?_ | refine ffs_nx ?_ | refine fi_rt rfl ?_ | refine fi_nx rfl ?_ | refine fp_rt ?_ | refine fp_nx ?_
 | refine w_seq ?_ | refine w_asg ?_ | refine w_ret ?_ | refine w_retN ?_ | refine zwm ?_ | refine w_next ?_ | refine w_fgt ?_ | refine w_par ?_ | refine w_par3 ?_
 | refine w_C ?_ | refine zym rfl ?_ | refine w_op ?_ | refine w_un ?_ | refine w_B ?_ | refine w_M ?_ | refine w_ix ?_ | refine w_sl ?_ | refine w_lstD ?_ | refine w_tupD ?_ | refine w_ifE ?_ | refine w_andV ?_ | refine w_orV ?_ | refine w_notV ?_ | refine w_callI ?_ | refine w_callT ?_ | refine zzn ?_ | refine w_mut0 ?_ | refine w_chain ?_
 | refine wo_none ?_ | refine wo_some ?_
 | refine wa_nil ?_ | refine wa_cons ?_ | refine wa_consV rfl ?_
 | refine wt_test ?_ | refine wt_tru ?_ | refine wt_not ?_ | refine wt_and ?_ | refine wt_or ?_ | refine zwk ?_
 | (refine wg_name (by with_unfolding_all rfl) ?_;try ac_nf) | refine wg_tup rfl ?_ | refine wgs_cons (by with_unfolding_all rfl) ?_ | refine wgs_nil ?_ | refine wg_sub ?_ | refine wg_subsl ?_
 | refine gu (by with_unfolding_all rfl) ?_
 | refine p_addI ?_ | refine p_sub ?_ | refine p_neg ?_ | refine p_cmp ?_ | refine p_eqI ?_ | refine p_neI ?_ | refine p_eqS ?_ | refine p_neS ?_ | refine p_inS ?_ | refine p_lenT ?_ | refine p_lenL ?_ | refine p_lenLL ?_ | refine p_min ?_ | refine p_max ?_ | refine p_intI ?_ | refine p_intB ?_ | refine p_tupL ?_ | refine p_tupT ?_ | refine p_lstL ?_ | refine p_lstT ?_ | refine p_rev ?_ | refine p_isBB ?_ | refine p_nisBB ?_ | refine p_slL ?_ | refine p_retO ?_ | refine p_retV rfl ?_ | refine p_reverse ?_
 | refine p_ixL rfl ?_ | refine p_ixT rfl ?_ | refine p_setL (n:=0) rfl (Nat.le_of_ble_eq_true rfl) ?_ | refine p_setL (n:=1) rfl (Nat.le_of_ble_eq_true rfl) ?_
 | refine zqm (mulR (by decide) (by decide)) ?_ | refine zqm (mulL (by decide) (by decide)) ?_ | refine zon (by omega) ?_ | refine p_fdiv (by omega) ?_
 | refine zxm (by rfl) ?_ | refine zmm ?_ | refine zan ?_ | refine cl_vw (by with_unfolding_all rfl) rfl ?_
 | refine p_isiB (b:=true) rfl (by decide) ?_ | refine p_isiB (b:=false) rfl (by decide) ?_ | refine p_neBB ?_ | refine w_mov (by with_unfolding_all rfl) ?_
 | refine is_B ?_ | refine is_N ?_ | refine at_V rfl ?_ | refine at_C rfl (by with_unfolding_all rfl) rfl rfl ?_ | refine at_T rfl ?_ | refine at_M rfl rfl ?_ | refine at_S ?_ | refine two_of ?_ | refine three_of ?_ | refine int1_of rfl ?_ | refine int2_of rfl ?_)
local macro_rules | `(tactic| and_intros)=>`(tactic| repeat infer_instance)
local macro_rules | `(tactic| bv_omega)=>`(tactic| with_unfolding_all rfl)
local macro_rules | `(tactic| clear_value $h:ident)=>`(tactic| first | refine dsp (fun $h=>?_) (fun $h=>?_) | refine dspN (fun $h=>?_) (fun $h=>?_) | refine bsp (fun $h=>?_) (fun $h=>?_))
theorem zva {ns:List Int}{kd:Kd}{a:Int}{QR:R->Prop}(h0:0<=a)(h1:a<ns.length)(q:∀ y,y∈ns->ns[a.toNat]?=some y->QR ⟨.ow,.im (.int y)⟩):W1 (ixR ⟨kd,.li (ns.map .int)⟩ (.im (.int a))) QR:=by
 refine p_ixLk h0 (by simpa using h1) fun x hx=>?_
 rw [List.getElem?_map] at hx
 cases e:ns[a.toNat]? with
 | none=>rw [e] at hx;cases hx
 | some y=>rw [e] at hx;cases hx;exact q y (ymG e) e
theorem p_ixIntsT {ns:List Int}{kd:Kd}{a:Int}{QR:R->Prop}(h0:0<=a)(h1:a<ns.length)(q:∀ y,y∈ns->ns[a.toNat]?=some y->QR ⟨.ow,.im (.int y)⟩):W1 (ixR ⟨kd,.im (.tup (ns.map .int))⟩ (.im (.int a))) QR:=by
 refine p_ixTk h0 (by simpa using h1) fun x hx=>?_
 rw [List.getElem?_map] at hx
 cases e:ns[a.toNat]? with
 | none=>rw [e] at hx;cases hx
 | some y=>rw [e] at hx;cases hx;exact q y (ymG e) e
theorem zja {α:Type}{P : α->Prop}{l:List α}{y : α}(h:∀ x∈l,P x)(hy:P y):∀ x∈l++[y],P x:=fun x hx=>(yaM hx).elim (h x) fun z=>by rw [ysM z];exact hy
noncomputable def fT (f:Int×Int):T:=.li [.int f.1,.int f.2]
theorem zr {f:Int×Int}{n:Int}(h1:0<n)(h2:n<2 ^ 64){Q:T->T->Prop}(q:∀ d f',0<=d->d<n->Q (.im (.int d)) (fT f')):W2 (zn [fT f,.im (.int n)]) Q:=by
 refine zdh rfl rfl ?_
 unfold zvj
 and_intros
 (refine w_if ?_;and_intros;clear_value h)
 ·and_intros
  exact q _ (f.1 / n,f.2) (Int.emod_nonneg _ (by omega)) (Int.emod_lt_of_pos _ h1)
 ·and_intros
  exact q _ (f.1,(f.2 * 48271 % 2147483647 * 40692+30103) % 2147483399+1) (Int.emod_nonneg _ (by omega)) (Int.emod_lt_of_pos _ h1)
noncomputable def tRow (is:List Int):T:=.im (.tup (is.map .int))
theorem row_ok {f:Int×Int}{n:Int}(h1:1<=n)(h2:n<=3){Q:T->T->Prop}(q:∀ is f',is.length=n.toNat->(∀ x∈is,-2<=x/\x<=2)->Q (tRow is) (fT f')):W2 (zbk [fT f,.im (.int n)]) Q:=by
 refine zdh rfl rfl ?_
 unfold zhl
 and_intros
 refine w_if ?_
 and_intros
 refine zr (by omega) (by omega) fun d f hd0 hd1=>?_
 ac_nf
 and_intros
 clear_value h
 ·and_intros
  refine p_mulT (is:=[.int 0]) ⟨by simp,by decide,by omega,by omega⟩ ?_
  and_intros
  have:(List.replicate n.toNat [I.int 0]).flatten=(List.replicate n.toNat (0:Int)).map .int:=by simp
  rw [this]
  exact q _ f (by simp) (by intro x hx;rw [(List.mem_replicate.mp hx).2];decide)
 ·and_intros
  refine zme (fun f:Int×Int=>[some ⟨.io 0,fT f⟩,some ⟨.ow,.im (.int n)⟩]) I.int (fun j _ is=>is.length=j/\∀ x∈is,-2<=x/\x<=2) ?_
  and_intros
  refine⟨⟨by omega,by omega⟩,by bv_omega,f,by bv_omega,⟨rfl,by simp⟩,fun j f is hj ⟨hl,hx⟩=>?_,fun f is ⟨hl,hx⟩=>?_⟩
  ·and_intros
   refine zr (by omega) (by omega) fun d f hd0 hd1=>?_
   ac_nf
   and_intros
   refine zva (ns:=[0,1,0 - 1,2,0 - 2]) hd0 hd1 fun y hy _=>⟨y,f,rfl,by bv_omega,by simp [hl],zja hx (by simp at hy;omega)⟩
  ·and_intros
   exact q is f hl hx
theorem back_ok {f:Int×Int}{n:Int}(h1:1<=n)(h2:n<=3){Q:T->T->Prop}(q:∀ is f',is.length=n.toNat->(∀ x∈is,-2<=x/\x<=2)->(∃ (k:Nat) (y:Int) (m:List Int),is=List.replicate k 0++y::m/\y<0)->Q (tRow is) (fT f')):W2 (zdd [fT f,.im (.int n)]) Q:=by
 refine zdh rfl rfl ?_
 unfold zue
 and_intros
 refine zr (by omega) (by omega) fun d f hd0 hd1=>?_
 ac_nf
 and_intros
 refine w_compR2s (fun f:Int×Int=>[some ⟨.io 0,fT f⟩,some ⟨.ow,.im (.int n)⟩,some ⟨.ow,.im (.int d)⟩,none]) I.int (fun j _ is=>is.length=j/\∀ x∈is,-2<=x/\x<=2) ?_
 and_intros
 refine⟨⟨by omega,by omega,by omega,by omega,by omega⟩,by bv_omega,f,by bv_omega,⟨rfl,by simp⟩,fun j f is hj ⟨hl,hx⟩=>?_,fun f is ⟨hl,hx⟩=>?_⟩
 ·and_intros
  refine zr (by omega) (by omega) fun d f hd0 hd1=>?_
  ac_nf
  and_intros
  refine zva (ns:=[0,1,0 - 1,2,0 - 2]) hd0 hd1 fun y hy _=>⟨y,f,rfl,by bv_omega,by simp [hl],zja hx (by simp at hy;omega)⟩
 ·and_intros
  refine p_mulL (is:=[.int 0]) ⟨by omega,by omega,by simp;rw [sizeLine_eq];omega⟩ ?_
  and_intros
  refine zr (by omega) (by omega) fun d2 f hd20 hd21=>?_
  ac_nf
  and_intros
  refine zqk (is:=(List.replicate d.toNat [I.int 0]).flatten) (js:=[.int (0 - 1 - d2)]) (by simp;rw [sizeLine_eq];omega) ?_
  and_intros
  refine zqk (is:=(List.replicate d.toNat [I.int 0]).flatten++[.int (0 - 1 - d2)]) (js:=is.map I.int) (by simp;rw [sizeLine_eq];omega) ?_
  and_intros
  have:(List.replicate d.toNat [I.int 0]).flatten++[.int (0 - 1 - d2)]++is.map I.int=(List.replicate d.toNat 0++(0 - 1 - d2)::is).map I.int:=by simp
  rw [this]
  exact q _ f (by simp;omega) (fun x hx'=>by
   rcases yaM hx' with hx' | hx'
   ·rw [(List.mem_replicate.mp hx').2];decide
   ·rcases ycM hx' with rfl | hx'
    ·omega
    ·exact hx x hx') ⟨d.toNat,_,is,rfl,by omega⟩
theorem turned_ok {row signs:List Int}{way:Int}(h1:1<=row.length)(h2:row.length<=1000)(hw:0<=way)(hs:signs.length=row.length)(hm:∀ x∈row,-(2 ^ 64)<x/\x<2 ^ 64){Q:T->Prop}(q:∀ is:List Int,is.length=row.length->(∀ (k:Nat) x s,row[(k+way.toNat) % row.length]?=some x->signs[k]?=some s->is[k]?=some (x * s))->Q (tRow is)):W1 (zjc [tRow row,.im (.int way),.li (signs.map .int)]) Q:=by
 refine runP_ok rfl rfl ?_
 unfold zid
 and_intros
 refine zxc (fun p:List Int=>[some ⟨.ow,tRow row⟩,some ⟨.ow,.im (.int way)⟩,some ⟨.vw none none,.li (signs.map .int)⟩,some ⟨.ow,.li (p.map .int)⟩,none]) (fun j p=>p.length=j/\∀ (k:Nat),k<j->∀ x s,row[(k+way.toNat) % row.length]?=some x->signs[k]?=some s->p[k]?=some (x * s)) ?_
 and_intros
 rw [List.length_map]
 refine⟨⟨by omega,by omega⟩,[],by bv_omega,⟨rfl,fun k hk=>absurd hk (Nat.not_lt_zero _)⟩,fun j is hj ⟨hl,hx⟩=>?_,fun is ⟨hl,hx⟩=>?_⟩
 ·and_intros
  refine zon (by simp;omega) ?_
  and_intros
  rw [List.length_map]
  have e1:((j:Int)+way) % (row.length:Int)=(((j+way.toNat) % row.length:Nat):Int):=by
   rw [Int.natCast_emod,Int.natCast_add];congr 1;omega
  rw [e1]
  have hlt:(j+way.toNat) % row.length<row.length:=Nat.mod_lt _ (by omega)
  refine p_ixIntsT (ns:=row) (by omega) (by omega) fun y hy ey=>?_
  and_intros
  refine zva (ns:=signs) (by omega) (by omega) fun z hz ez=>?_
  and_intros
  refine zqm (mulL (hm y hy).1 (hm y hy).2) ?_
  and_intros
  refine zhc (by simp [hl];rw [sizeLine_eq];omega) ?_
  and_intros
  refine⟨is++[y * z],?_,by simp [hl],fun k hk x s h1 h2=>?_⟩
  ·show _ = [_,_,_,_,_]
   rw [List.map_append]
   bv_omega
  ·rcases Nat.lt_succ_iff_lt_or_eq.mp hk with hk | rfl
   ·rw [List.getElem?_append_left (by omega)];exact hx k hk x s h1 h2
   ·rw [Int.toNat_natCast] at ey ez
    rw [ey] at h1;rw [ez] at h2
    cases h1;cases h2
    rw [List.getElem?_append_right (by omega),hl];simp
 ·and_intros
  exact q is (by omega) fun k x s h1 h2=>hx k (by have:=(List.getElem?_eq_some_iff.mp h2).1;omega) x s h1 h2
noncomputable def tRd (p:Int×List Int):I:=.tup [.int p.1,.tup (p.2.map .int)]
noncomputable def zia (l:List (Int×List Int)):T:=.li (l.map tRd)
theorem zof (l:List (Int×List Int))(i:I):zia l ≠ .im i:=by unfold zia;intro z;cases z
theorem put_look {ls:List (List (Int×List Int))}{n:Nat}{l:List (Int×List Int)}{p:Int×List Int}(h:ls[n]?=some l):T.put (.lst (ls.map zia)) [.ix n] (.li (l.map tRd++[tRd p])) = .lst ((ls.set n (l++[p])).map zia):=by
 rw [put_ix (u:=zia l) (by rw [List.getElem?_map,h];rfl),List.map_set]
 simp [zia]
theorem w_lk {ρ:Rho}{Q:Fl->Rho->Prop}{L X:Nat}{args:MA}{ls:List (List (Int×List Int))}{i:Int}(n:Nat){l:List (Int×List Int)}(hL : ρ[L]?=some (some ⟨.ow,.lst (ls.map zia)⟩))(hX : ρ[X]?=some (some ⟨.ow,.im (.int i)⟩))(hi:i=(n:Int))(hl:ls[n]?=some l)(hz:l.length<1000)(hm:args.mu.contains L=false)
  (ha:WA args ρ fun rs ρ1=>∃ p,rs = [⟨.ow,.im (tRd p)⟩]/\ρ1[L]?=some (some ⟨.ow,.lst (ls.map zia)⟩)/\Q .nx ((zv [L] ρ1).set L (some ⟨.ow,.lst ((ls.set n (l++[p])).map zia)⟩))):WS (zrb (mMut L [] apT (mIx (mVar L) (mVar X)) args)) ρ Q:=by
 subst hi
 refine zwm (zzn (w_ix (zym hL (zym hX (gu (by bv_omega) ?_)))))
 have hl':(ls.map zia)[(n:Int).toNat]?=some (zia l):=by rw [Int.toNat_natCast,List.getElem?_map,hl];rfl
 refine zpm (u:=zia l) (kd:=.vw (some L) (some [.ix (n:Int).toNat])) (by omega) hl' (zof l) rfl ?_
 rw [Int.toNat_natCast]
 refine WA.mono ha fun rs ρ1 ⟨p,e,hL',q⟩=>?_
 subst e
 refine gu ?_ (zxm rfl (zan (zmm (at_M hL' rfl ?_))))
 ·show zpf args.mu ⟨.vw (some L) (some [.ix n]),zia l⟩=true
  unfold zpf
  simp only [Kd.root]
  rw [hm];rfl
 ·refine zhc (is:=l.map tRd) (by simp;rw [sizeLine_eq];omega) ?_
  rw [put_look hl]
  exact q
def Looks (P:Nat->Int×List Int->Prop)(c:Nat)(m:Nat)(ls:List (List (Int×List Int))):Prop:=ls.length=m/\∀ x l,ls[x]?=some l->l.length<=c/\∀ p∈l,P x p
theorem Looks.get {P:Nat->Int×List Int->Prop}{c m:Nat}{ls:List (List (Int×List Int))}(h:Looks P c m ls){n:Nat}(hn:n<m):∃ l,ls[n]?=some l/\l.length<=c/\∀ p∈l,P n p:=by
 have:n<ls.length:=by rw [h.1];exact hn
 exact⟨ls[n],List.getElem?_eq_getElem this,h.2 n _ (List.getElem?_eq_getElem this)⟩
theorem zjf {α:Type}{l:List α}{n x:Nat}{a b : α}(h:(l.set n a)[x]?=some b):(n=x/\b=a) ∨ (n≠x/\l[x]?=some b):=by
 by_cases e:n=x
 ·subst e
  have:=(List.getElem?_eq_some_iff.mp h).1
  rw [List.getElem?_set_self (by simpa using this)] at h
  cases h;exact .inl ⟨rfl,rfl⟩
 ·rw [List.getElem?_set_ne e] at h;exact .inr ⟨e,h⟩
theorem Looks.set {P:Nat->Int×List Int->Prop}{c m:Nat}{ls:List (List (Int×List Int))}{n:Nat}{l l':List (Int×List Int)}(h:Looks P c m ls)(hl:ls[n]?=some l)(hn:l'.length<=c)(hp:∀ p∈l',P n p):Looks P c m (ls.set n l'):=by
 refine⟨by rw [List.length_set];exact h.1,fun x l' hx=>?_⟩
 rcases zjf hx with⟨rfl,rfl⟩ | ⟨_,hx⟩
 ·exact⟨hn,hp⟩
 ·exact h.2 x l' hx
def RdOk (w m:Int)(p:Int×List Int):Prop:=0<=p.1/\p.1<m/\p.2.length=w.toNat/\∀ x∈p.2,-2<=x/\x<=2
theorem free_ok {f:Int×Int}{w m:Int}(h1:1<=w)(h2:w<=3)(h3:1<=m)(h4:m<=6){Q:T->T->Prop}(q:∀ ls f',Looks (fun _ p=>RdOk w m p) 3 m.toNat ls->Q (.lst (ls.map zia)) (fT f')):W2 (zmd [fT f,.im (.int w),.im (.int m)]) Q:=by
 refine zdh rfl rfl ?_
 unfold zfd
 and_intros
 refine zgk (fun _:Unit=>[some ⟨.io 0,fT f⟩,some ⟨.ow,.im (.int w)⟩,some ⟨.ow,.im (.int m)⟩,none,none,none]) zia zof (fun _ _ l=>∀ x∈l,x = []) ?_
 and_intros
 refine⟨⟨by omega,by omega⟩,by bv_omega,(),by bv_omega,by simp,fun j _ l hj hl=>?_,fun _ l hl hn=>?_⟩
 ·and_intros
  exact⟨[],(),rfl,by bv_omega,zja hl rfl⟩
 and_intros
 refine zxc (fun s:(Int×Int)×List (List (Int×List Int))=>[some ⟨.io 0,fT s.1⟩,some ⟨.ow,.im (.int w)⟩,some ⟨.ow,.im (.int m)⟩,some ⟨.ow,.lst (s.2.map zia)⟩,none,none]) (fun j s=>Looks (fun _ p=>RdOk w m p) 3 m.toNat s.2/\∀ y l,j<=y->s.2[y]?=some l->l = []) ?_
 and_intros
 refine⟨⟨by omega,by omega⟩,(f,l),by bv_omega,⟨⟨hn,fun x l' hx=>by rw [hl l' (ymG hx)];simp⟩,fun y l' _ hx=>hl l' (ymG hx)⟩,fun x s hx ⟨hL,hE⟩=>?_,fun s ⟨hL,_⟩=>?_⟩
 ·and_intros
  refine zxc (fun t:(Int×Int)×List (List (Int×List Int))=>[some ⟨.io 0,fT t.1⟩,some ⟨.ow,.im (.int w)⟩,some ⟨.ow,.im (.int m)⟩,some ⟨.ow,.lst (t.2.map zia)⟩,some ⟨.ow,.im (.int x)⟩,none]) (fun j t=>Looks (fun _ p=>RdOk w m p) 3 m.toNat t.2/\(∀ l,t.2[x]?=some l->l.length<=j)/\∀ y l,x+1<=y->t.2[y]?=some l->l = []) ?_
  and_intros
  refine zr (by omega) (by omega) fun d f hd0 hd1=>?_
  ac_nf
  and_intros
  refine⟨⟨by omega,by omega⟩,(f,s.2),by bv_omega,⟨hL,fun l hl=>by rw [hE x l (Nat.le_refl _) hl];simp,fun y l hy hl=>hE y l (by omega) hl⟩,fun j t hj ⟨hL,hc,hE⟩=>?_,fun t ⟨hL,_,hE⟩=>by and_intros;exact⟨t,by bv_omega,hL,hE⟩⟩
  obtain⟨l,hl,hl3,hlP⟩:=hL.get (n:=x) (by omega)
  iterate 2 infer_instance
  refine w_lk (ls:=t.2) x rfl rfl rfl hl (by omega) (by bv_omega) ?_
  and_intros
  refine zr (by omega) (by omega) fun e f he0 he1=>?_
  ac_nf
  and_intros
  refine row_ok h1 h2 fun is f hil hib=>?_
  ac_nf
  and_intros
  have:=hc l hl
  refine⟨(e,is),rfl,rfl,?_⟩
  and_intros
  refine⟨(f,t.2.set x (l++[(e,is)])),by bv_omega,hL.set hl (by simp;omega) (zja hlP ⟨he0,he1,hil,hib⟩),fun l' hl'=>?_,fun y l' hy hl'=>?_⟩
  ·rcases zjf hl' with⟨_,rfl⟩ | ⟨z,_⟩
   ·simp;omega
   ·exact absurd rfl z
  ·rcases zjf hl' with⟨z,_⟩ | ⟨_,hl'⟩
   ·omega
   ·exact hE y l' hy hl'
 ·and_intros
  exact q s.2 s.1 hL
def Late (w m:Int)(x:Nat)(p:Int×List Int):Prop:=RdOk w m p/\((p.1<x/\∀ e∈p.2,e=0) ∨ ∃ (k:Nat) (y:Int) (r:List Int),p.2=List.replicate k 0++y::r/\y<0)
theorem late_ok {f:Int×Int}{w m:Int}(h1:1<=w)(h2:w<=3)(h3:1<=m)(h4:m<=6){Q:T->T->Prop}(q:∀ ls f',Looks (Late w m) 3 m.toNat ls->Q (.lst (ls.map zia)) (fT f')):W2 (zic [fT f,.im (.int w),.im (.int m)]) Q:=by
 refine zdh rfl rfl ?_
 unfold zgd
 and_intros
 refine zgk (fun _:Unit=>[some ⟨.io 0,fT f⟩,some ⟨.ow,.im (.int w)⟩,some ⟨.ow,.im (.int m)⟩,none,none,none]) zia zof (fun _ _ l=>∀ x∈l,x = []) ?_
 and_intros
 refine⟨⟨by omega,by omega⟩,by bv_omega,(),by bv_omega,by simp,fun j _ l hj hl=>?_,fun _ l hl hn=>?_⟩
 ·and_intros
  exact⟨[],(),rfl,by bv_omega,zja hl rfl⟩
 and_intros
 refine zxc (fun s:(Int×Int)×List (List (Int×List Int))=>[some ⟨.io 0,fT s.1⟩,some ⟨.ow,.im (.int w)⟩,some ⟨.ow,.im (.int m)⟩,some ⟨.ow,.lst (s.2.map zia)⟩,none,none]) (fun j s=>Looks (Late w m) 3 m.toNat s.2/\∀ y l,j<=y->s.2[y]?=some l->l = []) ?_
 and_intros
 refine⟨⟨by omega,by omega⟩,(f,l),by bv_omega,⟨⟨hn,fun x l' hx=>by rw [hl l' (ymG hx)];simp⟩,fun y l' _ hx=>hl l' (ymG hx)⟩,fun x s hx ⟨hL,hE⟩=>?_,fun s ⟨hL,_⟩=>?_⟩
 ·and_intros
  refine zxc (fun t:(Int×Int)×List (List (Int×List Int))=>[some ⟨.io 0,fT t.1⟩,some ⟨.ow,.im (.int w)⟩,some ⟨.ow,.im (.int m)⟩,some ⟨.ow,.lst (t.2.map zia)⟩,some ⟨.ow,.im (.int x)⟩,none]) (fun j t=>Looks (Late w m) 3 m.toNat t.2/\(∀ l,t.2[x]?=some l->l.length<=j)/\∀ y l,x+1<=y->t.2[y]?=some l->l = []) ?_
  and_intros
  refine zr (by omega) (by omega) fun d f hd0 hd1=>?_
  ac_nf
  and_intros
  refine⟨⟨by omega,by omega⟩,(f,s.2),by bv_omega,⟨hL,fun l hl=>by rw [hE x l (Nat.le_refl _) hl];simp,fun y l hy hl=>hE y l (by omega) hl⟩,fun j t hj ⟨hL,hc,hE⟩=>?_,fun t ⟨hL,_,hE⟩=>by and_intros;exact⟨t,by bv_omega,hL,hE⟩⟩
  obtain⟨l,hl,hl3,hlP⟩:=hL.get (n:=x) (by omega)
  have hcl:=hc l hl
  have fin:∀ (e:Int) (is:List Int) (f:Int×Int),Late w m x (e,is)->Looks (Late w m) 3 m.toNat (t.2.set x (l++[(e,is)]))/\(∀ l',(t.2.set x (l++[(e,is)]))[x]?=some l'->l'.length<=j+1)/\∀ y l',x+1<=y->(t.2.set x (l++[(e,is)]))[y]?=some l'->l' = []:=fun e is f hP=>by
   refine⟨hL.set hl (by simp;omega) (zja hlP hP),fun l' hl'=>?_,fun y l' hy hl'=>?_⟩
   ·rcases zjf hl' with⟨_,rfl⟩ | ⟨z,_⟩
    ·simp;omega
    ·exact absurd rfl z
   ·rcases zjf hl' with⟨z,_⟩ | ⟨_,hl'⟩
    ·omega
    ·exact hE y l' hy hl'
  have hback:∀ f,WS (zrb (mMut 3 [] apT (mIx (mVar 3) (mVar 4)) (ze (zz [] (ze (zq 0 0 zn (zf 0 (zf 2 mNil))) (ze (zq 0 0 zdd (zf 0 (zf 1 mNil))) mNil))) mNil))) [some ⟨.io 0,fT f⟩,some ⟨.ow,.im (.int w)⟩,some ⟨.ow,.im (.int m)⟩,some ⟨.ow,.lst (t.2.map zia)⟩,some ⟨.ow,.im (.int x)⟩,some ⟨.ow,.im (.int j)⟩] fun fl ρ=>fl = .nx/\∃ e is f,ρ = [some ⟨.io 0,fT f⟩,some ⟨.ow,.im (.int w)⟩,some ⟨.ow,.im (.int m)⟩,some ⟨.ow,.lst ((t.2.set x (l++[(e,is)])).map zia)⟩,some ⟨.ow,.im (.int x)⟩,some ⟨.ow,.im (.int j)⟩]/\Late w m x (e,is):=fun f=>by
   refine w_lk (ls:=t.2) x rfl rfl rfl hl (by omega) (by bv_omega) ?_
   and_intros
   refine zr (by omega) (by omega) fun e f he0 he1=>?_
   ac_nf
   and_intros
   refine back_ok h1 h2 fun is f hil hib hb=>?_
   ac_nf
   and_intros
   exact⟨(e,is),rfl,rfl,by trivial,e,is,f,by bv_omega,⟨he0,he1,hil,hib⟩,.inr hb⟩
  have hzero:∀ f,(0:Int)<x->WS (zrb (mMut 3 [] apT (mIx (mVar 3) (mVar 4)) (ze (zz [] (ze (zq 0 0 zn (zf 0 (zf 4 mNil))) (ze (mOp mulT (zz [] (ze (mC (.int 0)) mNil)) (mVar 1)) mNil))) mNil))) [some ⟨.io 0,fT f⟩,some ⟨.ow,.im (.int w)⟩,some ⟨.ow,.im (.int m)⟩,some ⟨.ow,.lst (t.2.map zia)⟩,some ⟨.ow,.im (.int x)⟩,some ⟨.ow,.im (.int j)⟩] fun fl ρ=>fl = .nx/\∃ e is f,ρ = [some ⟨.io 0,fT f⟩,some ⟨.ow,.im (.int w)⟩,some ⟨.ow,.im (.int m)⟩,some ⟨.ow,.lst ((t.2.set x (l++[(e,is)])).map zia)⟩,some ⟨.ow,.im (.int x)⟩,some ⟨.ow,.im (.int j)⟩]/\Late w m x (e,is):=fun f hx0=>by
   refine w_lk (ls:=t.2) x rfl rfl rfl hl (by omega) (by bv_omega) ?_
   and_intros
   refine zr (by omega) (by omega) fun e f he0 he1=>?_
   ac_nf
   and_intros
   refine p_mulT (is:=[.int 0]) ⟨by simp,by decide,by omega,by omega⟩ ?_
   have er:(List.replicate w.toNat [I.int 0]).flatten=(List.replicate w.toNat (0:Int)).map .int:=by simp
   rw [er]
   and_intros
   refine⟨(e,List.replicate w.toNat 0),rfl,rfl,by trivial,e,_,f,by bv_omega,⟨he0,by omega,by simp,fun y hy=>?_⟩,.inl ⟨he1,fun y hy=>(List.mem_replicate.mp hy).2⟩⟩
   rw [(List.mem_replicate.mp hy).2];decide
  and_intros
  (refine w_if ?_;and_intros;clear_value hx0)
  ·and_intros
   refine zr (by omega) (by omega) fun z f hz0 hz1=>?_
   ac_nf
   and_intros
   clear_value hz
   ·refine WS.mono (hzero f hx0) ?_
    rintro fl ρ ⟨rfl,e,is,f,rfl,hP⟩
    and_intros
    exact⟨(f,_),by bv_omega,fin e is f hP⟩
   ·refine WS.mono (hback f) ?_
    rintro fl ρ ⟨rfl,e,is,f,rfl,hP⟩
    and_intros
    exact⟨(f,_),by bv_omega,fin e is f hP⟩
  ·refine⟨fun z=>absurd z (by decide),fun _=>?_⟩
   refine WS.mono (hback _) ?_
   rintro fl ρ ⟨rfl,e,is,f,rfl,hP⟩
   and_intros
   exact⟨(f,_),by bv_omega,fin e is f hP⟩
 ·and_intros
  exact q s.2 s.1 hL
theorem Looks.mono {P:Nat->Int×List Int->Prop}{c c' m:Nat}{ls:List (List (Int×List Int))}(h:Looks P c m ls)(hc:c<=c'):Looks P c' m ls:=⟨h.1,fun x l hx=>⟨Nat.le_trans (h.2 x l hx).1 hc,(h.2 x l hx).2⟩⟩
noncomputable def tTr (p:Int×Int×List Int):I:=.tup [.int p.1,.int p.2.1,.tup (p.2.2.map .int)]
def TrOk (w:Int)(p:Int×Int×List Int):Prop:=0<=p.1/\p.1<w/\0<=p.2.1/\p.2.1<w/\p.2.2.length=w.toNat/\∀ x∈p.2.2,-2<=x/\x<=2
theorem turned_ok2 {row signs:List Int}{way:Int}(h1:1<=row.length)(h2:row.length<=1000)(hw:0<=way)(hs:signs.length=row.length)(hr:∀ x∈row,-2<=x/\x<=2)(hg:∀ x∈signs,x=1 ∨ x = -1){Q:T->Prop}(q:∀ is:List Int,is.length=row.length->(∀ x∈is,-2<=x/\x<=2)->(∀ (k:Nat) x s,row[(k+way.toNat) % row.length]?=some x->signs[k]?=some s->is[k]?=some (x * s))->Q (tRow is)):W1 (zjc [tRow row,.im (.int way),.li (signs.map .int)]) Q:=by
 refine turned_ok h1 h2 hw hs (fun x hx=>by have:=hr x hx;omega) fun is hl hi=>q is hl (fun y hy=>?_) hi
 obtain⟨k,hk⟩:=List.mem_iff_getElem?.mp hy
 have hkl:=(List.getElem?_eq_some_iff.mp hk).1
 have hm:(k+way.toNat) % row.length<row.length:=Nat.mod_lt _ (by omega)
 have e1:row[(k+way.toNat) % row.length]?=some row[(k+way.toNat) % row.length]:=List.getElem?_eq_getElem hm
 have e2:signs[k]?=some signs[k]:=List.getElem?_eq_getElem (by omega)
 have e3:=hi k _ _ e1 e2
 rw [hk] at e3
 have b1:=hr _ (ymG e1)
 have b2:=hg _ (ymG e2)
 have:y=row[(k+way.toNat) % row.length] * signs[k]:=by simpa using e3
 rw [this]
 rcases b2 with z | z<;>rw [z]<;>omega
theorem opp_ok {f:Int×Int}{w m:Int}(h1:2<=w)(h2:w<=3)(h3:w<=m)(h4:m<=6){Q:T->T->Prop}(q:∀ ls f',Looks (fun _ p=>RdOk w m p) 7 m.toNat ls->Q (.lst (ls.map zia)) (fT f')):W2 (zac [fT f,.im (.int w),.im (.int m)]) Q:=by
 refine runI_ok' [some ⟨.io 0,fT f⟩,some ⟨.ow,.im (.int w)⟩,some ⟨.ow,.im (.int m)⟩,none,none,none,none,none,none,none,none] rfl rfl rfl ?_
 unfold zwb
 and_intros
 refine zr (by omega) (by omega) fun d1 f a1 b1=>?_
 ac_nf
 and_intros
 refine zr (by omega) (by omega) fun d2 f a2 b2=>?_
 ac_nf
 and_intros
 refine zr (by omega) (by omega) fun d3 f a3 b3=>?_
 ac_nf
 and_intros
 refine zr (by omega) (by omega) fun d4 f a4 b4=>?_
 ac_nf
 and_intros
 refine zhc (by simp;rw [sizeLine_eq];omega) ?_
 refine fseq_nx (w_seq ?_)
 refine WS.mono (Q:=fun fl ρ=>fl = .nx/\∃ (f:Int×Int) (es:List (Int×Int×List Int)),ρ = [some ⟨.io 0,fT f⟩,some ⟨.ow,.im (.int w)⟩,some ⟨.ow,.im (.int m)⟩,some ⟨.ow,.im (.int (1+d1))⟩,some ⟨.ow,.li (es.map tTr)⟩,none,none,none,none,none,none]/\(∀ p∈es,TrOk w p)/\es.length<=7) ?_ ?_
 ·and_intros
  (refine w_if ?_;and_intros;clear_value hw)
  ·subst hw
   and_intros
   refine zr (by omega) (by omega) fun d5 f a5 b5=>?_
   ac_nf
   and_intros
   refine zr (by omega) (by omega) fun d6 f a6 b6=>?_
   ac_nf
   and_intros
   refine zqk (by simp;rw [sizeLine_eq];omega) ?_
   and_intros
   refine⟨by trivial,f,[(0,0,[0,0,1+d1]),(1,1,[0,0,0 - 1]),(0,1,[0,0 - 1,0]),(1,0,[0,0,d5]),(2,2,[0,1+d6,0]),(0,2,[0 - 1,0,1]),(2,0,[0,0,0])],by bv_omega,?_,by simp⟩
   simp only [List.mem_cons,List.not_mem_nil,or_false]
   rintro p (rfl | rfl | rfl | rfl | rfl | rfl | rfl)<;>(refine⟨by simp,by simp,by simp,by simp,rfl,?_⟩;simp only [List.mem_cons,List.not_mem_nil,or_false];omega)
  ·have hw2:w=2:=by omega
   subst hw2
   and_intros
   refine⟨by trivial,f,[(0,0,[0,1+d1]),(1,1,[0,0 - 1 - d2]),(0,1,[0 - 1,d3 - 1]),(1,0,[0 - d4,0])],by bv_omega,?_,by simp⟩
   simp only [List.mem_cons,List.not_mem_nil,or_false]
   rintro p (rfl | rfl | rfl | rfl)<;>(refine⟨by simp,by simp,by simp,by simp,rfl,?_⟩;simp only [List.mem_cons,List.not_mem_nil,or_false];omega)
 rintro fl ρ ⟨rfl,f,es,rfl,hes,hel⟩
 and_intros
 refine zr (by omega) (by omega) fun way f aw bw=>?_
 ac_nf
 and_intros
 refine zme (fun f:Int×Int=>[some ⟨.io 0,fT f⟩,some ⟨.ow,.im (.int w)⟩,some ⟨.ow,.im (.int m)⟩,some ⟨.ow,.im (.int (1+d1))⟩,some ⟨.ow,.li (es.map tTr)⟩,none,none,none,none,none,none]) I.int (fun j _ l=>l.length=j/\∀ x∈l,x=1 ∨ x = -1) ?_
 and_intros
 refine⟨⟨by omega,by omega⟩,by bv_omega,f,by bv_omega,⟨rfl,by simp⟩,fun j f l hj ⟨hl,hx⟩=>?_,fun f signs ⟨hsl,hsx⟩=>?_⟩
 ·and_intros
  refine zr (by omega) (by omega) fun d f hd0 hd1=>?_
  ac_nf
  and_intros
  exact⟨1 - 2 * d,f,rfl,by bv_omega,by simp [hl],zja hx (by omega)⟩
 and_intros
 refine zgk (fun _:Unit=>[some ⟨.io 0,fT f⟩,some ⟨.ow,.im (.int w)⟩,some ⟨.ow,.im (.int m)⟩,some ⟨.ow,.im (.int (1+d1))⟩,some ⟨.ow,.li (es.map tTr)⟩,some ⟨.ow,.im (.int way)⟩,some ⟨.ow,.li (signs.map .int)⟩,none,none,none,none]) zia zof (fun _ _ l=>∀ x∈l,x = []) ?_
 and_intros
 refine⟨⟨by omega,by omega⟩,by bv_omega,(),by bv_omega,by simp,fun j _ l hj hl=>?_,fun _ l hl hn=>?_⟩
 ·and_intros
  exact⟨[],(),rfl,by bv_omega,zja hl rfl⟩
 and_intros
 refine zhk (fun t:List (List (Int×List Int))=>[some ⟨.io 0,fT f⟩,some ⟨.ow,.im (.int w)⟩,some ⟨.ow,.im (.int m)⟩,some ⟨.ow,.im (.int (1+d1))⟩,some ⟨.ow,.li (es.map tTr)⟩,some ⟨.ow,.im (.int way)⟩,some ⟨.ow,.li (signs.map .int)⟩,some ⟨.ow,.lst (t.map zia)⟩,none,none,none]) (fun j t=>Looks (fun _ p=>RdOk w m p) j m.toNat t/\∀ y l,3<=y->t[y]?=some l->l = []) ?_
 and_intros
 refine⟨_,(show zjg _=some ((es.map tTr).map _) from rfl),by bv_omega,l,by bv_omega,⟨⟨hn,fun x l' hx=>by rw [hl l' (ymG hx)];simp⟩,fun y l' _ hx=>hl l' (ymG hx)⟩,fun j x t hx ⟨hL,hE⟩=>?_,fun t ⟨hL,hE⟩=>?_⟩
 ·rw [List.getElem?_map] at hx
  cases e:es[j]? with
  | none=>rw [e] at hx;cases hx
  | some p=>
   rw [e] at hx;cases hx
   obtain⟨x,o,row⟩:=p
   have hp:=hes _ (ymG e)
   obtain⟨p1,p2,p3,p4,p5,p6⟩:=hp
   simp only at p1 p2 p3 p4 p5 p6
   have hj:=(List.getElem?_eq_some_iff.mp e).1
   obtain⟨l,hl,hl3,hlP⟩:=hL.get (n:=x.toNat) (by omega)
   iterate 9 infer_instance
   refine w_lk (ls:=t) x.toNat rfl rfl (by omega) hl (by omega) (by bv_omega) ?_
   and_intros
   refine turned_ok2 (row:=row) (signs:=signs) (by omega) (by omega) aw (by omega) p6 hsx fun is hil hib _=>?_
   and_intros
   refine⟨(o,is),rfl,rfl,?_⟩
   and_intros
   refine⟨t.set x.toNat (l++[(o,is)]),by bv_omega,(hL.mono (Nat.le_succ j)).set hl (by simp;omega) (zja hlP ⟨p3,(by omega:o<m),hil.trans p5,hib⟩),fun y l' hy hl'=>?_⟩
   rcases zjf hl' with⟨z,_⟩ | ⟨_,hl'⟩
   ·omega
   ·exact hE y l' hy hl'
 ·and_intros
  refine w_forR2s (fun s:(Int×Int)×List (List (Int×List Int))=>[some ⟨.io 0,fT s.1⟩,some ⟨.ow,.im (.int w)⟩,some ⟨.ow,.im (.int m)⟩,some ⟨.ow,.im (.int (1+d1))⟩,some ⟨.ow,.li (es.map tTr)⟩,some ⟨.ow,.im (.int way)⟩,some ⟨.ow,.li (signs.map .int)⟩,some ⟨.ow,.lst (s.2.map zia)⟩,none,none,none]) (fun j s=>Looks (fun _ p=>RdOk w m p) 7 m.toNat s.2/\∀ y l,3+j<=y->s.2[y]?=some l->l = []) ?_
  and_intros
  rw [List.length_map] at hL
  refine⟨⟨by omega,by omega,by omega,by omega⟩,(f,t),by bv_omega,⟨hL.mono hel,fun y l' hy hl'=>hE y l' (by omega) hl'⟩,fun j s hj ⟨hL,hE⟩=>?_,fun s ⟨hL,_⟩=>?_⟩
  ·obtain⟨l,hl,hl3,hlP⟩:=hL.get (n:=3+j) (by omega)
   have hl0:=hE _ l (Nat.le_refl _) hl
   iterate 2 infer_instance
   refine w_lk (ls:=s.2) (3+j) rfl rfl (by omega) hl (by omega) (by bv_omega) ?_
   and_intros
   refine zr (by omega) (by omega) fun e f he0 he1=>?_
   ac_nf
   and_intros
   refine row_ok (by omega) h2 fun is f hil hib=>?_
   ac_nf
   and_intros
   refine⟨(e,is),rfl,rfl,?_⟩
   and_intros
   refine⟨(f,s.2.set (3+j) (l++[(e,is)])),by bv_omega,hL.set hl (by simp [hl0]) (zja hlP ⟨he0,(by omega:e<m),hil,hib⟩),fun y l' hy hl'=>?_⟩
   rcases zjf hl' with⟨z,_⟩ | ⟨_,hl'⟩
   ·omega
   ·exact hE y l' (by omega) hl'
  ·and_intros
   exact q s.2 s.1 hL
theorem put_lookI {ls:List (List (Int×List Int))}{n:Nat}{l:List (Int×List Int)}{p:Int×List Int}(h:ls[n]?=some l):T.put (.lst (ls.map zia)) [.ix n] (.li (tRd p::l.map tRd)) = .lst ((ls.set n (p::l)).map zia):=by
 rw [put_ix (u:=zia l) (by rw [List.getElem?_map,h];rfl),List.map_set]
 simp [zia]
theorem w_lkI {ρ:Rho}{Q:Fl->Rho->Prop}{L X:Nat}{args:MA}{ls:List (List (Int×List Int))}{i:Int}(n:Nat){l:List (Int×List Int)}(hL : ρ[L]?=some (some ⟨.ow,.lst (ls.map zia)⟩))(hX : ρ[X]?=some (some ⟨.ow,.im (.int i)⟩))(hi:i=(n:Int))(hl:ls[n]?=some l)(hz:l.length<1000)(hm:args.mu.contains L=false)
  (ha:WA args ρ fun rs ρ1=>∃ p,rs = [⟨.ow,.im (.int 0)⟩,⟨.ow,.im (tRd p)⟩]/\ρ1[L]?=some (some ⟨.ow,.lst (ls.map zia)⟩)/\Q .nx ((zv [L] ρ1).set L (some ⟨.ow,.lst ((ls.set n (p::l)).map zia)⟩))):WS (zrb (mMut L [] insT (mIx (mVar L) (mVar X)) args)) ρ Q:=by
 subst hi
 refine zwm (zzn (w_ix (zym hL (zym hX (gu (by bv_omega) ?_)))))
 have hl':(ls.map zia)[(n:Int).toNat]?=some (zia l):=by rw [Int.toNat_natCast,List.getElem?_map,hl];rfl
 refine zpm (u:=zia l) (kd:=.vw (some L) (some [.ix (n:Int).toNat])) (by omega) hl' (zof l) rfl ?_
 rw [Int.toNat_natCast]
 refine WA.mono ha fun rs ρ1 ⟨p,e,hL',q⟩=>?_
 subst e
 refine gu ?_ (zxm rfl (zan (zan (zmm (at_M hL' rfl ?_)))))
 ·show zpf args.mu ⟨.vw (some L) (some [.ix n]),zia l⟩=true
  unfold zpf
  simp only [Kd.root]
  rw [hm];rfl
 ·refine p_ins (is:=l.map tRd) ⟨by omega,by simp,by simp;rw [sizeLine_eq];omega⟩ ?_
  show Q _ (List.set _ _ (some ⟨_,T.put _ _ (.li (tRd p::l.map tRd))⟩))
  rw [put_lookI hl]
  exact q
def RR (rest row:List Int):Prop:=row.length=rest.length/\∀ (i:Nat) y r,row[i]?=some y->rest[i]?=some r->-2<=y/\y<=2/\-2<=r+y/\r+y<=2
theorem ring_ok {f:Int×Int}{w m:Int}(h1:1<=w)(h2:w<=3)(h3:1<=m)(h4:m<=6){Q:T->T->Prop}(q:∀ ls f',Looks (fun _ p=>RdOk w m p) 4 m.toNat ls->Q (.lst (ls.map zia)) (fT f')):W2 (znd [fT f,.im (.int w),.im (.int m)]) Q:=by
 refine runI_ok' [some ⟨.io 0,fT f⟩,some ⟨.ow,.im (.int w)⟩,some ⟨.ow,.im (.int m)⟩,none,none,none,none,none] rfl rfl rfl ?_
 unfold zhd
 and_intros
 refine late_ok h1 h2 h3 h4 fun ls f hLs=>?_
 ac_nf
 and_intros
 refine zr (by omega) (by omega) fun d f hd0 hd1=>?_
 ac_nf
 and_intros
 refine p_mulL (is:=[.int 0]) ⟨by omega,by omega,by simp;rw [sizeLine_eq];omega⟩ ?_
 have er:(List.replicate w.toNat [I.int 0]).flatten=(List.replicate w.toNat (0:Int)).map .int:=by simp
 rw [er]
 and_intros
 refine zxc (fun s:(Int×Int)×List (List (Int×List Int))×List Int=>[some ⟨.io 0,fT s.1⟩,some ⟨.ow,.im (.int w)⟩,some ⟨.ow,.im (.int m)⟩,some ⟨.ow,.lst (s.2.1.map zia)⟩,some ⟨.ow,.im (.int (1+d))⟩,some ⟨.ow,.li (s.2.2.map .int)⟩,none,none]) (fun j s=>Looks (fun _ p=>RdOk w m p) 4 m.toNat s.2.1/\(∀ y l,j<=y->s.2.1[y]?=some l->l.length<=3)/\s.2.2.length=w.toNat/\∀ x∈s.2.2,-2<=x/\x<=2) ?_
 and_intros
 refine⟨⟨by omega,by omega⟩,(f,ls,List.replicate w.toNat 0),by bv_omega,⟨⟨hLs.1,fun x l hx=>⟨by have:=(hLs.2 x l hx).1;omega,fun p hp=>((hLs.2 x l hx).2 p hp).1⟩⟩,fun y l _ hx=>(hLs.2 y l hx).1,by simp,fun x hx=>by rw [(List.mem_replicate.mp hx).2];decide⟩,fun k s hk ⟨hL,hE,hrl,hrb⟩=>?_,fun s ⟨hL,_⟩=>?_⟩
 ·obtain⟨f,ls,rest⟩:=s
  simp only at hL hE hrl hrb
  obtain⟨l,hl,hl4,hlP⟩:=hL.get (n:=k) (by omega)
  have hl3:=hE k l (Nat.le_refl _) hl
  and_intros
  refine zme (fun f:Int×Int=>[some ⟨.io 0,fT f⟩,some ⟨.ow,.im (.int w)⟩,some ⟨.ow,.im (.int m)⟩,some ⟨.ow,.lst (ls.map zia)⟩,some ⟨.ow,.im (.int (1+d))⟩,some ⟨.ow,.li (rest.map .int)⟩,some ⟨.ow,.im (.int k)⟩,none]) I.int (fun j _ l=>l.length=j/\∀ x∈l,-1<=x/\x<=1) ?_
  and_intros
  refine⟨⟨by omega,by omega⟩,by bv_omega,f,by bv_omega,⟨rfl,by simp⟩,fun j f l hj ⟨hl,hx⟩=>?_,fun f r1 ⟨hl1,hx1⟩=>?_⟩
  ·and_intros
   refine zr (by omega) (by omega) fun d f hd0 hd1=>?_
   ac_nf
   and_intros
   exact⟨d - 1,f,rfl,by bv_omega,by simp [hl],zja hx (by omega)⟩
  and_intros
  refine zme (fun _:Unit=>[some ⟨.io 0,fT f⟩,some ⟨.ow,.im (.int w)⟩,some ⟨.ow,.im (.int m)⟩,some ⟨.ow,.lst (ls.map zia)⟩,some ⟨.ow,.im (.int (1+d))⟩,some ⟨.ow,.li (rest.map .int)⟩,some ⟨.ow,.im (.int k)⟩,some ⟨.ow,.li (r1.map .int)⟩]) I.int (fun j _ l=>l.length=j/\∀ (i:Nat) y r,l[i]?=some y->rest[i]?=some r->-2<=y/\y<=2/\-2<=r+y/\r+y<=2) ?_
  and_intros
  refine⟨⟨by omega,by omega⟩,by bv_omega,(),by bv_omega,⟨rfl,by simp⟩,fun j _ l hj ⟨hl,hx⟩=>?_,fun _ r2 ⟨hl2,hx2⟩=>?_⟩
  ·and_intros
   refine zva (ns:=rest) (by omega) (by omega) fun r hr er=>?_
   and_intros
   refine zva (ns:=r1) (by omega) (by omega) fun y hy ey=>?_
   and_intros
   refine zva (ns:=rest) (by omega) (by omega) fun r' hr' er'=>?_
   rw [er] at er'
   cases er'
   and_intros
   have b1:=hrb r hr
   have b2:=hx1 y hy
   refine⟨_,(),rfl,by bv_omega,by simp [hl],fun i y' r' hy' hr'=>?_⟩
   by_cases hij:i<l.length
   ·rw [List.getElem?_append_left hij] at hy'
    exact hx i y' r' hy' hr'
   ·have:=(List.getElem?_eq_some_iff.mp hy').1
    simp at this
    have hie:i=j:=by omega
    subst hie
    rw [List.getElem?_append_right (by omega)] at hy'
    simp [hl] at hy'
    rw [Int.toNat_natCast] at er
    rw [er] at hr'
    cases hr'
    subst hy'
    split<;>split<;>omega
  and_intros
  refine WS.mono (Q:=fun fl ρ=>fl = .nx/\∃ r3:List Int,ρ = [some ⟨.io 0,fT f⟩,some ⟨.ow,.im (.int w)⟩,some ⟨.ow,.im (.int m)⟩,some ⟨.ow,.lst (ls.map zia)⟩,some ⟨.ow,.im (.int (1+d))⟩,some ⟨.ow,.li (rest.map .int)⟩,some ⟨.ow,.im (.int k)⟩,some ⟨.ow,.li (List.map .int r3)⟩]/\RR rest r3) ?_ ?_
  ·(refine w_if ?_;and_intros;clear_value hlast)
   ·and_intros
    refine zoc (fun _:Unit=>[some ⟨.io 0,fT f⟩,some ⟨.ow,.im (.int w)⟩,some ⟨.ow,.im (.int m)⟩,some ⟨.ow,.lst (ls.map zia)⟩,some ⟨.ow,.im (.int (1+d))⟩,some ⟨.ow,.li (rest.map .int)⟩,some ⟨.ow,.im (.int k)⟩,some ⟨.ow,.li (r2.map .int)⟩]) I.int (fun j _ l=>l.length=j/\∀ (i:Nat) y r,l[i]?=some y->rest[i]?=some r->y = -r) ?_
    and_intros
    refine⟨rest.map .int,rfl,by simp;rw [sizeLine_eq];omega,by bv_omega,(),by bv_omega,⟨rfl,by simp⟩,fun j x _ l hx ⟨hl,hq⟩=>?_,fun _ r3 ⟨hl3',hq3⟩=>?_⟩
    ·rw [List.getElem?_map] at hx
     cases e:rest[j]? with
     | none=>rw [e] at hx;cases hx
     | some r=>
      rw [e] at hx;cases hx
      and_intros
      refine⟨0 - r,(),rfl,by bv_omega,by simp [hl],fun i y' r' hy' hr'=>?_⟩
      by_cases hij:i<l.length
      ·rw [List.getElem?_append_left hij] at hy'
       exact hq i y' r' hy' hr'
      ·have:=(List.getElem?_eq_some_iff.mp hy').1
       simp at this
       have hie:i=j:=by omega
       subst hie
       rw [List.getElem?_append_right (by omega)] at hy'
       simp [hl] at hy'
       rw [e] at hr'
       cases hr'
       omega
    ·and_intros
     refine⟨by trivial,r3,by bv_omega,by simpa using hl3',fun i y r hy hr=>?_⟩
     have:=hq3 i y r hy hr
     have:=hrb r (ymG hr)
     omega
   ·and_intros
    exact⟨by trivial,r2,by bv_omega,by omega,hx2⟩
  ·rintro fl ρ ⟨rfl,r3,rfl,hr3l,hr3⟩
   and_intros
   refine zme (fun _:Unit=>[some ⟨.io 0,fT f⟩,some ⟨.ow,.im (.int w)⟩,some ⟨.ow,.im (.int m)⟩,some ⟨.ow,.lst (ls.map zia)⟩,some ⟨.ow,.im (.int (1+d))⟩,some ⟨.ow,.li (rest.map .int)⟩,some ⟨.ow,.im (.int k)⟩,some ⟨.ow,.li (r3.map .int)⟩]) I.int (fun j _ l=>l.length=j/\∀ x∈l,-2<=x/\x<=2) ?_
   and_intros
   refine⟨⟨by omega,by omega⟩,by bv_omega,(),by bv_omega,⟨rfl,by simp⟩,fun j _ l hj ⟨hl,hx⟩=>?_,fun _ r4 ⟨hl4,hx4⟩=>?_⟩
   ·and_intros
    refine zva (ns:=rest) (by omega) (by omega) fun r hr er=>?_
    and_intros
    refine zva (ns:=r3) (by omega) (by omega) fun y hy ey=>?_
    and_intros
    have:=hr3 _ y r ey er
    exact⟨r+y,(),rfl,by bv_omega,by simp [hl],zja hx (by omega)⟩
   iterate 2 infer_instance
   refine w_lkI (ls:=ls) k rfl rfl rfl hl (by omega) (by bv_omega) ?_
   and_intros
   have hkm:((k:Int)+1) % (1+d)<m:=by have:=Int.emod_lt_of_pos ((k:Int)+1) (show 0<1+d by omega);omega
   have hk0:0<=((k:Int)+1) % (1+d):=Int.emod_nonneg _ (by omega)
   refine⟨(((k:Int)+1) % (1+d),r3),rfl,rfl,?_⟩
   and_intros
   refine⟨(f,ls.set k ((((k:Int)+1) % (1+d),r3)::l),r4),by bv_omega,hL.set hl (by simp;omega) (fun p hp=>?_),fun y l' hy hl'=>?_,by omega,hx4⟩
   ·rcases ycM hp with rfl | hp
    ·refine⟨hk0,hkm,by simpa [hrl] using hr3l,fun x hx=>?_⟩
     obtain⟨i,hi⟩:=List.mem_iff_getElem?.mp hx
     have hil:=(List.getElem?_eq_some_iff.mp hi).1
     have:i<rest.length:=by simp only at hil;omega
     have:=hr3 i x _ hi (List.getElem?_eq_getElem this)
     omega
    ·exact hlP p hp
   ·rcases zjf hl' with⟨z,_⟩ | ⟨_,hl'⟩
    ·omega
    ·exact hE y l' (by omega) hl'
 ·and_intros
  exact q s.2.1 s.1 hL
theorem Looks.imp {P P':Nat->Int×List Int->Prop}{c c' m:Nat}{ls:List (List (Int×List Int))}(h:Looks P c m ls)(hc:c<=c')(hp:∀ x p,P x p->P' x p):Looks P' c' m ls:=⟨h.1,fun x l hx=>⟨Nat.le_trans (h.2 x l hx).1 hc,fun p hm=>hp x p ((h.2 x l hx).2 p hm)⟩⟩
theorem reads_ok {f:Int×Int}{Q:T->T->Prop}(q:∀ (w m:Int) ls f',1<=w->w<=3->1<=m->m<=6->Looks (fun _ p=>RdOk w m p) 7 m.toNat ls->Q (.tup [.im (.int w),.lst (ls.map zia)]) (fT f')):W2 (zwi [fT f]) Q:=by
 refine runI_ok' [some ⟨.io 0,fT f⟩,none,none,none,none] rfl rfl rfl ?_
 unfold zmi
 and_intros
 refine zr (by omega) (by omega) fun form f hf0 hf1=>?_
 ac_nf
 and_intros
 refine zr (by omega) (by omega) fun wide f hw0 hw1=>?_
 ac_nf
 and_intros
 try ac_nf
 refine zva (ns:=[1,2,2,2,2,1,2,3]) (Int.emod_nonneg _ (by omega)) (by have:=Int.emod_lt_of_pos wide (show (0:Int)<8 by omega);simpa using this) fun w hw _=>?_
 have hw13:1<=w/\w<=3:=by simp at hw;omega
 and_intros
 refine zva (ns:=[3,6]) (by omega) (by simp;omega) fun mm hmm _=>?_
 have hmm':3<=mm/\mm<=6:=by simp at hmm;omega
 and_intros
 refine zr (by omega) (by omega) fun d f hd0 hd1=>?_
 ac_nf
 and_intros
 (refine w_if ?_;and_intros;clear_value h1)
 ·and_intros
  refine free_ok hw13.1 hw13.2 (by omega) (by omega) fun ls f hL=>?_
  ac_nf
  and_intros
  exact q w (1+d) ls f hw13.1 hw13.2 (by omega) (by omega) (hL.mono (by omega))
 and_intros
 (refine w_if ?_;and_intros;clear_value h2)
 ·and_intros
  refine late_ok hw13.1 hw13.2 (by omega) (by omega) fun ls f hL=>?_
  ac_nf
  and_intros
  exact q w (1+d) ls f hw13.1 hw13.2 (by omega) (by omega) (hL.imp (by omega) fun x p hp=>hp.1)
 and_intros
 (refine w_if ?_;and_intros;clear_value h3)
 ·and_intros
  refine ring_ok hw13.1 hw13.2 (by omega) (by omega) fun ls f hL=>?_
  ac_nf
  and_intros
  exact q w (1+d) ls f hw13.1 hw13.2 (by omega) (by omega) (hL.mono (by omega))
 and_intros
 try ac_nf
 refine opp_ok (by split<;>omega) (by split<;>omega) (by split<;>split<;>split<;>omega) (by split<;>split<;>split<;>omega) fun ls f hL=>?_
 ac_nf
 and_intros
 exact q _ _ ls f (by split<;>omega) (by split<;>omega) (by split<;>split<;>split<;>omega) (by split<;>split<;>split<;>omega) hL
inductive Ru where
 | num (n:Int) | rd (x:Str) (row:List Int) | op (s:Str) (a b:Ru) | cond (a b c:Ru)
noncomputable def tRu:Ru->I
 | .num n=>.tup [.str "num",.int n]
 | .rd x row=>.tup [.str "at",.str x,.tup (row.map .int)]
 | .op s a b=>.tup [.str "op",.str s,tRu a,tRu b]
 | .cond a b c=>.tup [.str "if",tRu a,tRu b,tRu c]
noncomputable def Ru.leaves:Ru->List Ru
 | .op _ a b=>a.leaves++b.leaves
 | .cond a b c=>a.leaves++(b.leaves++c.leaves)
 | r=>[r]
noncomputable def Ru.depth:Ru->Nat
 | .op _ a b=>max a.depth b.depth+1
 | .cond a b c=>max a.depth (max b.depth c.depth)+1
 | _=>0
noncomputable def signs7:List Str:=["+","-","*","min","max","rest","less"]
def Ru.ok:Ru->Prop
 | .op s a b=>s∈signs7/\a.ok/\b.ok
 | .cond a b c=>a.ok/\b.ok/\c.ok
 | _=>True
theorem Ru.depth_lt:∀ r:Ru,r.depth<r.leaves.length
 | .num _=>Nat.zero_lt_one
 | .rd _ _=>Nat.zero_lt_one
 | .op _ a b=>by have:=a.depth_lt;have:=b.depth_lt;simp only [Ru.depth,Ru.leaves,List.length_append];omega
 | .cond a b c=>by have:=a.depth_lt;have:=b.depth_lt;have:=c.depth_lt;simp only [Ru.depth,Ru.leaves,List.length_append];omega
theorem zej {α:Type}{emb : α->I}{ns:List α}{kd:Kd}{a:Int}{QR:R->Prop}(h0:0<=a)(h1:a<ns.length)(q:∀ y,ns[a.toNat]?=some y->QR ⟨.ow,.im (emb y)⟩):W1 (ixR ⟨kd,.li (ns.map emb)⟩ (.im (.int a))) QR:=by
 refine p_ixLk h0 (by simpa using h1) fun x hx=>?_
 rw [List.getElem?_map] at hx
 cases e:ns[a.toNat]? with
 | none=>rw [e] at hx;cases hx
 | some y=>rw [e] at hx;cases hx;exact q y e
theorem w_ifM {ct:MT}{s1 s2:MS}{ρ:Rho}{Q:Fl->Rho->Prop}(M:Bool->Rho->Prop)(h:WT ct ρ M)(h1:∀ ρ,M true ρ->WS s1 ρ Q)(h2:∀ ρ,M false ρ->WS s2 ρ Q):WS (mIf ct s1 s2) ρ Q:=w_if (WT.mono h fun b ρ m=>⟨fun e=>h1 ρ (e ▸ m),fun e=>h2 ρ (e ▸ m)⟩)
theorem cut2 {α:Type}{l:List α}{n:Nat}{a b : α}(ha:l[n]?=some a)(hb:l[n+1]?=some b):l=l.take n++a::b::l.drop (n+2):=by
 obtain⟨h1,e1⟩:=List.getElem?_eq_some_iff.mp ha
 obtain⟨h2,e2⟩:=List.getElem?_eq_some_iff.mp hb
 rw [← e1,← e2,List.getElem_cons_drop,List.getElem_cons_drop,List.take_append_drop]
theorem cut3 {α:Type}{l:List α}{n:Nat}{a b c : α}(ha:l[n]?=some a)(hb:l[n+1]?=some b)(hc:l[n+2]?=some c):l=l.take n++a::b::c::l.drop (n+3):=by
 obtain⟨h1,e1⟩:=List.getElem?_eq_some_iff.mp ha
 obtain⟨h2,e2⟩:=List.getElem?_eq_some_iff.mp hb
 obtain⟨h3,e3⟩:=List.getElem?_eq_some_iff.mp hc
 rw [← e1,← e2,← e3,List.getElem_cons_drop,List.getElem_cons_drop,List.getElem_cons_drop,List.take_append_drop]
theorem grown_ok {f:Int×Int}{rs:List Ru}(hne:rs≠[])(hl:rs.length<=1000)(hok:∀ r∈rs,r.ok){Q:T->T->Prop}(q:∀ r f',r.leaves=rs.flatMap Ru.leaves->r.ok->Q (.im (tRu r)) (fT f')):W2 (zrg [fT f,.li (rs.map tRu)]) Q:=by
 refine runI_ok' [some ⟨.io 0,fT f⟩,some ⟨.vw none none,.li (rs.map tRu)⟩,none,none,none] rfl rfl rfl ?_
 unfold zji
 and_intros
 refine w_whiles (fun s:(Int×Int)×List Ru=>[some ⟨.io 0,fT s.1⟩,some ⟨.vw none none,.li (rs.map tRu)⟩,some ⟨.ow,.li (s.2.map tRu)⟩,none,none]) (fun s=>s.2≠[]/\s.2.length<=1000/\(∀ r∈s.2,r.ok)/\s.2.flatMap Ru.leaves=rs.flatMap Ru.leaves) (fun s=>s.2.length) (f,rs) (by bv_omega) ⟨hne,hl,hok,rfl⟩ fun s ⟨hne,hl,hok,hfl⟩=>?_
 obtain⟨f,cs⟩:=s
 dsimp only at hne hl hok hfl ⊢
 and_intros
 rw [List.length_map]
 clear_value hlen
 ·and_intros
  rw [List.length_map]
  refine zr (by omega) (by omega) fun at0 f ha0 ha1=>?_
  ac_nf
  and_intros
  refine w_ifM (fun b ρ=>∃ f:Int×Int,ρ = [some ⟨.io 0,fT f⟩,some ⟨.vw none none,.li (rs.map tRu)⟩,some ⟨.ow,.li (cs.map tRu)⟩,some ⟨.ow,.im (.int at0)⟩,none]/\(b=true->2<cs.length)) ?_ ?_ ?_
  ·and_intros
   rw [List.length_map]
   clear_value h2
   ·and_intros
    refine zr (by omega) (by omega) fun d f hd0 hd1=>?_
    ac_nf
    and_intros
    exact⟨f,rfl,fun _=>by omega⟩
   ·exact⟨f,rfl,fun z=>absurd z (by decide)⟩
  ·rintro ρ ⟨f,rfl,h2⟩
   have h2:=h2 rfl
   and_intros
   rw [List.length_map]
   generalize hat:(if (cs.length:Int) - 3<at0 then (cs.length:Int) - 3 else at0)=at1
   have ha:0<=at1/\at1+3<=cs.length:=by subst hat;split<;>omega
   refine zej (ns:=cs) ha.1 (by omega) fun a ea=>?_
   and_intros
   refine zej (ns:=cs) (by omega) (by omega) fun b eb=>?_
   and_intros
   refine zej (ns:=cs) (by omega) (by omega) fun c ec=>?_
   and_intros
   rw [show (at1+1).toNat=at1.toNat+1 by omega] at eb
   rw [show (at1+2).toNat=at1.toNat+2 by omega] at ec
   have ecut:=cut3 ea eb ec
   refine⟨[],cs.map tRu,_,_,at1,at1+3,rfl,rfl,rfl,by bv_omega,⟨ha.1,by omega,by simp;omega,by simp;rw [sizeLine_eq];omega⟩,rfl,rfl,?_⟩
   ac_nf
   and_intros
   refine⟨(f,cs.take at1.toNat++Ru.cond a b c::cs.drop (at1.toNat+3)),?_,?_,by simp,?_,?_,?_⟩
   ·rw [List.map_append,List.map_cons,List.map_take,List.map_drop,show (at1+3).toNat=at1.toNat+3 by omega,List.append_assoc]
    bv_omega
   ·simp;omega
   ·simp;omega
   ·intro r hr
    rcases yaM hr with hr | hr
    ·exact hok r (List.mem_of_mem_take hr)
    ·rcases ycM hr with rfl | hr
     ·exact⟨hok a (ymG ea),hok b (ymG eb),hok c (ymG ec)⟩
     ·exact hok r (List.mem_of_mem_drop hr)
   ·rw [← hfl]
    conv=>rhs;rw [ecut]
    simp [Ru.leaves]
  ·rintro ρ ⟨f,rfl,_⟩
   and_intros
   refine zr (by omega) (by omega) fun d f hd0 hd1=>?_
   ac_nf
   and_intros
   refine zej (emb:=I.str) (ns:=signs7) hd0 (by simpa [signs7] using hd1) fun sg esg=>?_
   and_intros
   refine zej (ns:=cs) ha0 (by omega) fun a ea=>?_
   and_intros
   refine zej (ns:=cs) (by omega) (by omega) fun b eb=>?_
   and_intros
   rw [show (at0+1).toNat=at0.toNat+1 by omega] at eb
   have ecut:=cut2 ea eb
   refine⟨[],cs.map tRu,_,_,at0,at0+2,rfl,rfl,rfl,by bv_omega,⟨ha0,by omega,by simp;omega,by simp;rw [sizeLine_eq];omega⟩,rfl,rfl,?_⟩
   ac_nf
   and_intros
   refine⟨(f,cs.take at0.toNat++Ru.op sg a b::cs.drop (at0.toNat+2)),?_,?_,by simp,?_,?_,?_⟩
   ·rw [List.map_append,List.map_cons,List.map_take,List.map_drop,show (at0+2).toNat=at0.toNat+2 by omega,List.append_assoc]
    bv_omega
   ·simp;omega
   ·simp;omega
   ·intro r hr
    rcases yaM hr with hr | hr
    ·exact hok r (List.mem_of_mem_take hr)
    ·rcases ycM hr with rfl | hr
     ·exact⟨ymG esg,hok a (ymG ea),hok b (ymG eb)⟩
     ·exact hok r (List.mem_of_mem_drop hr)
   ·rw [← hfl]
    conv=>rhs;rw [ecut]
    simp [Ru.leaves]
 ·and_intros
  obtain⟨r,rfl⟩:∃ r,cs = [r]:=by
   match cs,hne,hlen with
   | [r],_,_=>exact⟨r,rfl⟩
   | _::_::_,_,h=>simp at h;omega
  and_intros
  exact q r f (by simpa using hfl) (hok r (by simp))
noncomputable def fiveS:List Str:=["min","max","rest","less","if"]
noncomputable def nmB (S:List Nat) (a:Nat) (ch k:Nat):List Nat:=S.take a++ch::S.drop a++(if k % 2=1 then [113] else [])
noncomputable def nmS (S:List Nat) (a:Nat) (ch k:Nat):Str:=if oL (nmB S a ch k)∈fiveS then oL (nmB S a ch k++[119]) else oL (nmB S a ch k)
theorem q_in:113∈sL LET:=by decide +kernel
theorem w_in:119∈sL LET:=by decide +kernel
theorem LET_inj:∀ i<26,∀ j<26,(sL LET).getD i 0=(sL LET).getD j 0->i=j:=by decide +kernel
theorem five_w:∀ z∈fiveS,oL (sL z++[119]) ∉ fiveS:=by decide +kernel
theorem zxe {S:List Nat}{a ch k:Nat}:(nmB S a ch k).length=S.length+1+k % 2:=by
 unfold nmB
 have h:k % 2=0 ∨ k % 2=1:=by omega
 rw [List.length_append,List.length_append,List.length_cons,List.length_take,List.length_drop]
 rcases h with h | h<;>simp [h]<;>omega
theorem nmB_in {S:List Nat}{a ch k:Nat}(hS:∀ c∈S,c∈sL LET)(hc:ch∈sL LET):∀ c∈nmB S a ch k,c∈sL LET:=fun c h=>by
 unfold nmB at h
 rcases yaM h with h | h
 ·rcases yaM h with h | h
  ·exact hS c (List.mem_of_mem_take h)
  ·rcases ycM h with rfl | h
   ·exact hc
   ·exact hS c (List.mem_of_mem_drop h)
 ·split at h
  ·rw [ysM h];exact q_in
  ·cases h
theorem nmB_inj {S:List Nat}{a ch ch' k k':Nat}(h:nmB S a ch k=nmB S a ch' k'):ch=ch'/\k % 2=k' % 2:=by
 have hl:=congrArg List.length h
 rw [zxe,zxe] at hl
 have hk:k % 2=k' % 2:=by omega
 refine⟨?_,hk⟩
 unfold nmB at h
 rw [hk] at h
 have h2:=List.append_cancel_right h
 have h3:=List.append_cancel_left h2
 exact (List.cons.inj h3).1
theorem nmB_last {S:List Nat}{a ch k:Nat}(hk:k % 2=1):(nmB S a ch k).getLast?=some 113:=by
 unfold nmB
 rw [if_pos hk,List.getLast?_append]
 rfl
theorem zyl {x y:List Nat}(h:oL x=oL y):x=y:=congrArg sL h
theorem nmS_inj {S:List Nat}{a ch ch' k k':Nat}(h:nmS S a ch k=nmS S a ch' k'):ch=ch'/\k % 2=k' % 2:=by
 unfold nmS at h
 split at h<;>split at h
 ·exact nmB_inj (List.append_cancel_right (zyl h))
 ·have h':=zyl h
  have hl:=congrArg List.length h'
  rw [List.length_append,zxe,zxe] at hl
  have hk:k' % 2=1:=by simp at hl;omega
  have:=nmB_last (S:=S) (a:=a) (ch:=ch') hk
  rw [← h',List.getLast?_append] at this
  cases this
 ·have h':=zyl h
  have hl:=congrArg List.length h'
  rw [List.length_append,zxe,zxe] at hl
  have hk:k % 2=1:=by simp at hl;omega
  have:=nmB_last (S:=S) (a:=a) (ch:=ch) hk
  rw [h',List.getLast?_append] at this
  cases this
 ·exact nmB_inj (zyl h)
def zgj (z:Str):Prop:=1<=z.length/\z.length<=8/\z ∉ fiveS/\∀ c∈sL z,c∈sL LET
theorem nmS_ok {S:List Nat}{a ch k:Nat}(hS:∀ c∈S,c∈sL LET)(hc:ch∈sL LET)(hl:S.length<=5):zgj (nmS S a ch k):=by
 have hb:=nmB_in (a:=a) (k:=k) hS hc
 have hlen:=zxe (S:=S) (a:=a) (ch:=ch) (k:=k)
 unfold zgj nmS
 split
 ·rename_i c
  have h1:(oL (nmB S a ch k++[119])).length=S.length+1+k % 2+1:=by rw [zbf,zyf,List.length_append,hlen];rfl
  refine⟨by omega,by omega,five_w _ c,fun x hx=>?_⟩
  rw [zyf] at hx
  rcases yaM hx with h | h
  ·exact hb x h
  ·rw [ysM h];exact w_in
 ·rename_i c
  have h1:(oL (nmB S a ch k)).length=S.length+1+k % 2:=by rw [zbf,zyf,hlen]
  exact⟨by omega,by omega,c,fun x hx=>hb x (by rwa [zyf] at hx)⟩
theorem cut_take {α:Type}{xs:List α}{n:Nat}(h:n<=xs.length):cutL xs none (some (n:Int))=xs.take n:=by
 unfold cutL
 rw [HT.sIx_none,HT.sIx_nat,Nat.min_eq_left h]
 simp
theorem cut_drop {α:Type}{xs:List α}{n:Nat}(h:n<=xs.length):cutL xs (some (n:Int)) none=xs.drop n:=by
 unfold cutL
 rw [HT.sIx_none,HT.sIx_nat,Nat.min_eq_left h]
 exact List.take_of_length_le (by rw [List.length_drop];exact Nat.le_refl _)
theorem stxs_strs:∀ {zs:List Str},stxs (zs.map I.str)=some zs
 | []=>rfl
 | z::zs=>by rw [List.map_cons,stxs,stxs_strs];rfl
theorem p_join {z:Str}{zs:List Str}{QT1:T->Prop}(h:(zs.map (·.length)).sum+zs.length * z.length<=16777216)(q:QT1 (.im (.str (Txt.join z zs)))):W1 (zel (.im (.str z)) [.li (zs.map .str)]) QT1:=w1 (by simp only [zel,stxs_strs];rw [if_pos h]) q
theorem nodup_mapR {β:Type}{g:Nat->β}{n:Nat}(hf:∀ x<n,∀ y<n,g x=g y->x=y):((List.range n).map g).Nodup:=zoi List.nodup_range fun x hx y hy e=>hf x (List.mem_range.mp hx) y (List.mem_range.mp hy) e
noncomputable def zqi (S:List Nat) (a fn m:Nat):List Str:=(List.range m).map fun k=>nmS S a ((sL LET).getD ((fn+5 * k) % 26) 0) k
theorem LET_get {i:Nat}(h:i<26):(sL LET)[i]?=some ((sL LET).getD i 0):=by
 rw [List.getD_eq_getElem?_getD,List.getElem?_eq_getElem (by rw [zxk];exact h)];rfl
theorem nmAll_ok {S:List Nat}{a fn m:Nat}(hS:∀ c∈S,c∈sL LET)(hl:S.length<=5)(hm:m<=6):(zqi S a fn m).length=m/\(zqi S a fn m).Nodup/\∀ z∈zqi S a fn m,zgj z:=by
 refine⟨by simp [zqi],nodup_mapR fun x hx y hy e=>?_,fun z hz=>?_⟩
 ·have:=LET_inj _ (Nat.mod_lt _ (by decide)) _ (Nat.mod_lt _ (by decide)) (nmS_inj e).1
  omega
 ·obtain⟨k,hk,rfl⟩:=List.mem_map.mp hz
  exact nmS_ok hS (ymG (LET_get (Nat.mod_lt _ (by decide)))) hl
theorem names_ok {f:Int×Int}{m:Int}(h1:0<=m)(h2:m<=6){Q:T->T->Prop}(q:∀ (zs:List Str) f',zs.length=m.toNat->zs.Nodup->(∀ z∈zs,zgj z)->Q (.li (zs.map .str)) (fT f')):W2 (zsg [fT f,.im (.int m)]) Q:=by
 refine runI_ok' [some ⟨.io 0,fT f⟩,some ⟨.ow,.im (.int m)⟩,none,none,none,none,none,none,none] rfl rfl rfl ?_
 unfold zli
 and_intros
 refine zme (fun f:Int×Int=>[some ⟨.io 0,fT f⟩,some ⟨.ow,.im (.int m)⟩,some ⟨.ow,.im (.str LET)⟩,none,none,none,none,none,none]) I.str (fun j _ l=>l.length=j/\∀ z∈l,∃ ch,ch∈sL LET/\z=⟨#[ch]⟩) ?_
 and_intros
 refine zr (by omega) (by omega) fun d f hd0 hd1=>?_
 ac_nf
 and_intros
 refine⟨⟨by omega,by omega⟩,by bv_omega,f,by bv_omega,⟨rfl,by simp⟩,fun j f l hj ⟨hl,hx⟩=>?_,fun f zs ⟨hl,hx⟩=>?_⟩
 ·and_intros
  refine zr (by omega) (by omega) fun d f hd0 hd1=>?_
  ac_nf
  and_intros
  refine p_ixSk (s:=LET) (by rw [LET_len',sizeLine_eq];omega) hd0 (by rw [zxk];exact hd1) fun c hc=>?_
  exact⟨⟨#[c]⟩,f,rfl,by bv_omega,by simp [hl],zja hx ⟨c,ymG hc,rfl⟩⟩
 and_intros
 have sum1:∀ zs:List Str,(∀ z∈zs,∃ ch,ch∈sL LET/\z=⟨#[ch]⟩)->(zs.map (·.length)).sum=zs.length:=fun zs h=>by
  induction zs with
  | nil=>rfl
  | cons z zs ih=>
   obtain⟨ch,_,e⟩:=h z ymS
   rw [List.map_cons,List.sum_cons,ih fun y hy=>h y (ymC _ hy),List.length_cons,e]
   show 1+zs.length=_
   omega
 have e0:("" : Str)=oL []:=by decide +kernel
 have e1:(("" : Str)).length=0:=by decide +kernel
 refine p_join (zs:=zs) (by rw [sum1 zs hx,e1];omega) ?_
 have hst:sL (Txt.join "" zs)=(zs.map sL).flatten:=by rw [e0];exact glued_nil zs
 have hSl:(sL (Txt.join "" zs)).length<=5:=by
  rw [hst,List.length_flatten,List.map_map]
  have:(zs.map (List.length ∘ sL)).sum=zs.length:=by rw [← sum1 zs hx];congr 1
  omega
 have hS:∀ c∈sL (Txt.join "" zs),c∈sL LET:=fun c hc=>by
  rw [hst] at hc
  obtain⟨l,hl',hc⟩:=List.mem_flatten.mp hc
  obtain⟨z,hz,rfl⟩:=List.mem_map.mp hl'
  obtain⟨ch,hch,rfl⟩:=hx z hz
  have:c=ch:=by simpa using hc
  rw [this];exact hch
 generalize Txt.join "" zs=stem at *
 have hst5:stem.length<=5:=by rw [zbf];exact hSl
 have hlc:∀ l:List Nat,(oL l).length=l.length:=fun l=>by rw [zbf,zyf]
 and_intros
 refine zr (by omega) (by omega) fun fi f hf0 hf1=>?_
 ac_nf
 and_intros
 refine p_lenS (by rw [sizeLine_eq];omega) ?_
 and_intros
 refine zr (by omega) (by omega) fun at0 f ha0 ha1=>?_
 ac_nf
 and_intros
 obtain⟨a,rfl⟩:∃ a:Nat,at0=(a:Int):=⟨at0.toNat,by omega⟩
 obtain⟨fn,rfl⟩:∃ a:Nat,fi=(a:Int):=⟨fi.toNat,by omega⟩
 have ha5:a<=(sL stem).length:=by rw [← zbf];omega
 try ac_nf
 and_intros
 refine zxc (fun k:Nat=>[some ⟨.io 0,fT f⟩,some ⟨.ow,.im (.int m)⟩,some ⟨.ow,.im (.str LET)⟩,some ⟨.ow,.im (.str stem)⟩,some ⟨.ow,.im (.int fn)⟩,some ⟨.ow,.im (.int a)⟩,some ⟨.ow,.li ((zqi (sL stem) a fn k).map .str)⟩,none,none]) (fun j k=>k=j) ?_
 and_intros
 refine⟨⟨by omega,by omega⟩,0,by bv_omega,rfl,fun i k hi hk=>?_,fun k hk=>?_⟩
 ·subst hk
  have hidx:((fn:Int)+5 * (k:Int)) % 26=(((fn+5 * k) % 26:Nat):Int):=by omega
  have hilt:(fn+5 * k) % 26<26:=Nat.mod_lt _ (by decide)
  have hche:=LET_get hilt
  have hne:zqi (sL stem) a fn (k+1)=zqi (sL stem) a fn k++[nmS (sL stem) a ((sL LET).getD ((fn+5 * k) % 26) 0) k]:=by simp [zqi,List.range_succ]
  generalize (sL LET).getD ((fn+5 * k) % 26) 0=ch at hche hne
  and_intros
  refine p_slS (by rw [sizeLine_eq];omega) ?_
  rw [cut_take ha5]
  and_intros
  rw [hidx]
  refine p_ixSk (s:=LET) (by rw [LET_len',sizeLine_eq];omega) (by omega) (by rw [zxk];omega) fun c hc=>?_
  rw [Int.toNat_natCast,hche] at hc
  cases hc
  and_intros
  refine zzl (by rw [hlc,List.length_take,sizeLine_eq];show _+1<=_;omega) ?_
  and_intros
  refine p_slS (by rw [sizeLine_eq];omega) ?_
  rw [cut_drop ha5]
  and_intros
  refine zzl (by rw [zbf,zuk,zyf,hlc,sizeLine_eq,List.length_append,List.length_take,List.length_drop];show _+1+_<=_;omega) ?_
  have en:(oL ((sL stem).take a)++(⟨#[ch]⟩:Str))++oL ((sL stem).drop a)=oL ((sL stem).take a++ch::(sL stem).drop a):=by
   apply zam
   rw [zuk,zuk,zyf,zyf,zyf]
   simp
  rw [en]
  and_intros
  refine WS.mono (Q:=fun fl ρ=>fl = .nx/\ρ = [some ⟨.io 0,fT f⟩,some ⟨.ow,.im (.int m)⟩,some ⟨.ow,.im (.str LET)⟩,some ⟨.ow,.im (.str stem)⟩,some ⟨.ow,.im (.int fn)⟩,some ⟨.ow,.im (.int a)⟩,some ⟨.ow,.li ((zqi (sL stem) a fn k).map .str)⟩,some ⟨.ow,.im (.int k)⟩,some ⟨.ow,.im (.str (oL (nmB (sL stem) a ch k)))⟩]) ?_ ?_
  ·(refine w_if ?_;and_intros;clear_value hk2)
   ·and_intros
    refine zzl (by rw [hlc,List.length_append,List.length_cons,List.length_take,List.length_drop,sizeLine_eq];show _+1<=_;omega) ?_
    have eq:oL ((sL stem).take a++ch::(sL stem).drop a)++("q" : Str)=oL (nmB (sL stem) a ch k):=by
     apply zam
     rw [zuk,zyf,zyf]
     unfold nmB
     rw [if_pos (by omega)]
     rfl
    rw [eq]
    and_intros
    exact⟨by trivial,by first | trivial | bv_omega⟩
   ·and_intros
    have eq:(sL stem).take a++ch::(sL stem).drop a=nmB (sL stem) a ch k:=by
     unfold nmB
     rw [if_neg (by omega)]
     simp
    rw [eq]
    exact⟨by trivial,by first | trivial | bv_omega⟩
  rintro fl ρ ⟨rfl,rfl⟩
  have hnl:(oL (nmB (sL stem) a ch k)).length<=7:=by rw [hlc,zxe];omega
  and_intros
  refine WS.mono (Q:=fun fl ρ=>fl = .nx/\ρ = [some ⟨.io 0,fT f⟩,some ⟨.ow,.im (.int m)⟩,some ⟨.ow,.im (.str LET)⟩,some ⟨.ow,.im (.str stem)⟩,some ⟨.ow,.im (.int fn)⟩,some ⟨.ow,.im (.int a)⟩,some ⟨.ow,.li ((zqi (sL stem) a fn k).map .str)⟩,some ⟨.ow,.im (.int k)⟩,some ⟨.ow,.im (.str (nmS (sL stem) a ch k))⟩]) ?_ ?_
  ·refine w_if ?_
   and_intros
   refine p_inT (is:=fiveS.map .str) ⟨rfl,by decide +kernel,by decide +kernel⟩ ?_
   and_intros
   clear_value hw
   ·have hw':oL (nmB (sL stem) a ch k)∈fiveS:=by simpa using hw
    and_intros
    have hw1:(("w" : Str)).length=1:=by decide +kernel
    refine zzl (by rw [sizeLine_eq];omega) ?_
    have eq:oL (nmB (sL stem) a ch k)++("w" : Str)=nmS (sL stem) a ch k:=by
     unfold nmS
     rw [if_pos hw']
     apply zam
     rw [zuk,zyf,zyf]
     rfl
    rw [eq]
    and_intros
    exact⟨by trivial,by first | trivial | bv_omega⟩
   ·have hw':oL (nmB (sL stem) a ch k) ∉ fiveS:=by simpa using hw
    have eq:oL (nmB (sL stem) a ch k)=nmS (sL stem) a ch k:=by unfold nmS;rw [if_neg hw']
    rw [eq]
    and_intros
    exact⟨by trivial,by first | trivial | bv_omega⟩
  rintro fl ρ ⟨rfl,rfl⟩
  and_intros
  refine zhc (by simp [zqi];rw [sizeLine_eq];omega) ?_
  ac_nf
  and_intros
  refine⟨k+1,?_,rfl⟩
  rw [hne,List.map_append]
  bv_omega
 ·subst hk
  and_intros
  obtain⟨n1,n2,n3⟩:=nmAll_ok (S:=sL stem) (a:=a) (fn:=fn) (m:=m.toNat) hS hSl (by omega)
  exact q _ f n1 n2 n3
noncomputable def zyc (p:Str×Ru):I:=.tup [.str p.1,tRu p.2]
noncomputable def zkf (w wh:Int) (ds:List (Str×Ru)):I:=.tup [.int w,.int wh,.tup (ds.map zyc)]
def zkk:Ru->Prop
 | .num _=>True
 | .rd _ _=>True
 | _=>False
theorem leaf_self {r:Ru}(h:zkk r):r.leaves = [r]:=by cases r<;>first | rfl | cases h
theorem zfi:∀ {rs:List Ru},(∀ r∈rs,zkk r)->rs.flatMap Ru.leaves=rs
 | [],_=>rfl
 | r::rs,h=>by rw [List.flatMap_cons,leaf_self (h r ymS),zfi fun x hx=>h x (ymC _ hx)];rfl
def LeafOk (ns:List Str)(w:Int):Ru->Prop
 | .num n=>0<=n/\n<=1000000000
 | .rd x row=>x∈ns/\row.length=w.toNat
 | _=>False
theorem LeafOk.leaf {ns:List Str}{w:Int}{r:Ru}(h:LeafOk ns w r):zkk r:=by cases r<;>first | trivial | cases h
theorem leaf_ok {r:Ru}(h:zkk r):r.ok:=by cases r<;>first | trivial | cases h
def Cov (n:Nat)(rs:List Ru):Prop:=∃ L:List (Str×List Int),L.length<=n/\∀ x row,Ru.rd x row∈rs->(x,row)∈L
def DeskOk (c:Nat)(ns:List Str)(w:Int)(n:Nat)(r:Ru):Prop:=r.ok/\r.leaves.length<=c/\(∀ l∈r.leaves,LeafOk ns w l)/\Cov n r.leaves
def HouseOk (c:Nat)(w wh:Int)(ds:List (Str×Ru)):Prop:=1<=w/\w<=3/\2<=wh/\wh<=1000000000/\1<=ds.length/\ds.length<=6/\(ds.map (·.1)).Nodup/\(∀ z∈ds.map (·.1),zgj z)/\∃ n,n * ds.length<=16/\∀ p∈ds,DeskOk c (ds.map (·.1)) w n p.2
theorem zol:∀ {l:List (Str×List Int)},I.doks (l.map fun p=>tRu (.rd p.1 p.2))=true/\I.deps (l.map fun p=>tRu (.rd p.1 p.2))<=50
 | []=>⟨rfl,by decide⟩
 | p::l=>by
  have ih:=zol (l:=l)
  have hi:∀ row:List Int,I.doks (row.map I.int)=true/\I.deps (row.map I.int)=0:=fun row=>by
   induction row with
   | nil=>exact⟨rfl,rfl⟩
   | cons x row ih=>exact⟨by rw [List.map_cons,I.doks,ih.1];rfl,by rw [List.map_cons,I.deps,ih.2];rfl⟩
  refine⟨?_,?_⟩
  ·rw [List.map_cons,I.doks,ih.1]
   simp only [tRu,I.dok,I.doks,(hi p.2).1]
   rfl
  ·rw [List.map_cons,I.deps]
   have h1:I.dep (tRu (.rd p.1 p.2))<=50:=by simp only [tRu,I.dep,I.deps,(hi p.2).2];decide
   have:=ih.2
   omega
theorem zbi {α:Type}{xs:List α}{v:Int}(h:0<=v):cutL xs none (some v)=xs.take v.toNat:=by
 obtain⟨n,rfl⟩:∃ n:Nat,v=n:=⟨v.toNat,by omega⟩
 unfold cutL
 rw [HT.sIx_none,HT.sIx_nat,Int.toNat_natCast,List.drop_zero,Nat.sub_zero]
 rcases Nat.le_total n xs.length with h | h
 ·rw [Nat.min_eq_left h]
 ·rw [Nat.min_eq_right h,List.take_of_length_le h,List.take_of_length_le (Nat.le_refl _)]
theorem house_ok {f:Int×Int}{Q:T->T->Prop}(q:∀ w wh ds f',HouseOk 10 w wh ds->Q (.im (zkf w wh ds)) (fT f')):W2 (zui [fT f]) Q:=by
 refine runI_ok' [some ⟨.io 0,fT f⟩,none,none,none,none,none,none,none,none,none] rfl rfl rfl ?_
 unfold zki
 and_intros
 refine reads_ok fun w m ls f hw1 hw2 hm1 hm2 hL=>?_
 ac_nf
 and_intros
 refine zr (by omega) (by omega) fun d1 f a1 b1=>?_
 ac_nf
 and_intros
 refine zr (by omega) (by omega) fun d2 f a2 b2=>?_
 ac_nf
 and_intros
 refine zr (by omega) (by omega) fun d3 f a3 b3=>?_
 ac_nf
 and_intros
 refine zr (by omega) (by omega) fun d4 f a4 b4=>?_
 ac_nf
 and_intros
 refine zva (ns:=[2+d1,2+d2,1000000000 - d3]) a4 (by simpa using b4) fun wh hwh _=>?_
 have hwh':2<=wh/\wh<=1000000000:=by simp at hwh;omega
 and_intros
 have hlm:((ls.map zia).length:Int)=m:=by rw [List.length_map,hL.1];omega
 rw [hlm]
 refine names_ok (by omega) hm2 fun zs f hzl hzn hzo=>?_
 ac_nf
 and_intros
 refine zxc (fun s:(Int×Int)×List (Str×Ru)=>[some ⟨.io 0,fT s.1⟩,some ⟨.ow,.im (.int w)⟩,some ⟨.ow,.lst (ls.map zia)⟩,some ⟨.ow,.im (.int wh)⟩,some ⟨.ow,.li (zs.map .str)⟩,some ⟨.ow,.li (s.2.map zyc)⟩,none,none,none,none]) (fun j s=>s.2.map (·.1)=zs.take j/\∀ p∈s.2,DeskOk 10 zs w (16 / m.toNat) p.2) ?_
 and_intros
 rw [hlm]
 refine⟨⟨by omega,by omega⟩,(f,[]),by bv_omega,⟨rfl,by simp⟩,fun x s hx ⟨hd1,hd2⟩=>?_,fun s ⟨hd1,hd2⟩=>?_⟩
 ·obtain⟨f,ds⟩:=s
  dsimp only at hd1 hd2 ⊢
  obtain⟨l,hl,hl7,hlP⟩:=hL.get (n:=x) (by omega)
  and_intros
  refine zoc (fun _:Unit=>[some ⟨.io 0,fT f⟩,some ⟨.ow,.im (.int w)⟩,some ⟨.ow,.lst (ls.map zia)⟩,some ⟨.ow,.im (.int wh)⟩,some ⟨.ow,.li (zs.map .str)⟩,some ⟨.ow,.li (ds.map zyc)⟩,some ⟨.ow,.im (.int x)⟩,none,none,none]) (fun p:Str×List Int=>tRu (.rd p.1 p.2)) (fun j _ L=>L.length=j/\∀ p∈L,p.1∈zs/\p.2.length=w.toNat) ?_
  and_intros
  refine zpm (u:=zia l) (kd:=.vw (some 2) (some [.ix x])) (by omega) (by rw [Int.toNat_natCast,List.getElem?_map,hl];rfl) (zof l) rfl ?_
  and_intros
  rw [hlm]
  rw [zbi (Int.ediv_nonneg (by omega) (by omega)),← List.map_take]
  refine⟨(l.take (16 / m).toNat).map tRd,rfl,by simp;rw [sizeLine_eq];omega,by bv_omega,(),by bv_omega,⟨rfl,by simp⟩,fun j x' _ L hx' ⟨hLl,hLx⟩=>?_,fun _ L ⟨hLl,hLx⟩=>?_⟩
  ·rw [List.getElem?_map] at hx'
   cases e:(l.take (16 / m).toNat)[j]? with
   | none=>rw [e] at hx';cases hx'
   | some p=>
    rw [e] at hx';cases hx'
    have hp:=hlP p (List.mem_of_mem_take (ymG e))
    obtain⟨p0,p1,p2,p3⟩:=hp
    and_intros
    refine zej (emb:=I.str) (ns:=zs) p0 (by omega) fun z hz=>?_
    and_intros
    exact⟨(z,p.2),(),rfl,by bv_omega,by simp [hLl],zja hLx ⟨ymG hz,p2⟩⟩
  rw [List.length_map] at hLl
  have hLn:L.length<=16 / m.toNat:=by
   rw [hLl,List.length_take]
   have:(16 / m).toNat=16 / m.toNat:=by
    obtain⟨n,rfl⟩:∃ n:Nat,m=n:=⟨m.toNat,by omega⟩
    rw [Int.toNat_natCast];exact congrArg Int.toNat (Int.natCast_ediv 16 n).symm
   omega
  have hL7:L.length<=7:=by rw [hLl,List.length_take];omega
  and_intros
  refine zxc (fun s:(Int×Int)×List Ru=>[some ⟨.io 0,fT s.1⟩,some ⟨.ow,.im (.int w)⟩,some ⟨.ow,.lst (ls.map zia)⟩,some ⟨.ow,.im (.int wh)⟩,some ⟨.ow,.li (zs.map .str)⟩,some ⟨.ow,.li (ds.map zyc)⟩,some ⟨.ow,.im (.int x)⟩,some ⟨.ow,.li (s.2.map tRu)⟩,none,none]) (fun j s=>s.2.length=L.length+j/\(∀ r∈s.2,LeafOk zs w r)/\∀ y row,Ru.rd y row∈s.2->(y,row)∈L) ?_
  and_intros
  refine zr (by omega) (by omega) fun d f hd0 hd1'=>?_
  ac_nf
  and_intros
  refine p_eqL (js:=[]) ⟨zol.1,rfl,zol.2⟩ ?_
  and_intros
  have hk:∀ b:Bool,0<=(if b then 1 else 0:Int)/\(if b then 1 else 0:Int)<=1:=fun b=>by cases b<;>decide
  have hk':=hk (decide (L.map (fun p=>tRu (.rd p.1 p.2)) = []))
  have hk0:L = []->(if (decide (L.map (fun p=>tRu (.rd p.1 p.2)) = []))=true then 1 else 0:Int)=1:=fun z=>by rw [z];rfl
  generalize (if (decide (L.map (fun p=>tRu (.rd p.1 p.2)) = []))=true then 1 else 0:Int)=kk at *
  refine⟨⟨by omega,by omega⟩,(f,L.map fun p=>.rd p.1 p.2),by rw [List.map_map];bv_omega,⟨by simp,fun r hr=>?_,fun y row hr=>?_⟩,fun j s hj ⟨hs1,hs2,hs3⟩=>?_,fun s ⟨hs1,hs2,hs3⟩=>?_⟩
  ·obtain⟨p,hp,rfl⟩:=List.mem_map.mp hr
   exact hLx p hp
  ·obtain⟨p,hp,e⟩:=List.mem_map.mp hr
   cases e;exact hp
  ·obtain⟨f,rs⟩:=s
   dsimp only at hs1 hs2 hs3 ⊢
   and_intros
   refine zr (by omega) (by omega) fun e1 f he0 he1=>?_
   ac_nf
   and_intros
   refine zva (ns:=[9,1000000001]) he0 (by simpa using he1) fun top htop _=>?_
   have htop':1<=top/\top<=1000000001:=by simp at htop;omega
   and_intros
   refine zr (by omega) (by omega) fun num f hn0 hn1=>?_
   ac_nf
   and_intros
   rw [List.length_map]
   refine zr (by omega) (by omega) fun at0 f ha0 ha1=>?_
   ac_nf
   and_intros
   refine p_ins (is:=rs.map tRu) ⟨ha0,by simp;omega,by simp;rw [sizeLine_eq];omega⟩ ?_
   ac_nf
   and_intros
   refine⟨(f,rs.take at0.toNat++Ru.num num::rs.drop at0.toNat),?_,by simp;omega,fun r hr=>?_,fun y row hr=>?_⟩
   ·rw [List.map_append,List.map_cons,List.map_take,List.map_drop]
    bv_omega
   ·rcases yaM hr with hr | hr
    ·exact hs2 r (List.mem_of_mem_take hr)
    ·rcases ycM hr with rfl | hr
     ·exact⟨hn0,by omega⟩
     ·exact hs2 r (List.mem_of_mem_drop hr)
   ·rcases yaM hr with hr | hr
    ·exact hs3 y row (List.mem_of_mem_take hr)
    ·rcases ycM hr with hr | hr
     ·cases hr
     ·exact hs3 y row (List.mem_of_mem_drop hr)
  ·obtain⟨f,rs⟩:=s
   dsimp only at hs1 hs2 hs3 ⊢
   and_intros
   refine zej (emb:=I.str) (ns:=zs) (by omega) (by omega) fun z hz=>?_
   and_intros
   refine grown_ok (rs:=rs) (fun h0=>?_) (by omega) (fun r hr=>leaf_ok (hs2 r hr).leaf) fun r f hrl hro=>?_
   ·rw [h0] at hs1
    have hL0:L = []:=List.eq_nil_of_length_eq_zero (by simp at hs1;omega)
    have:=hk0 hL0
    simp at hs1
    omega
   rw [zfi fun r hr=>(hs2 r hr).leaf] at hrl
   ac_nf
   and_intros
   refine zhc (is:=ds.map zyc) (by
    have:ds.length<=zs.length:=by rw [← List.length_map (f:=fun p:Str×Ru=>p.1),hd1];simp;omega
    simp;rw [sizeLine_eq];omega) ?_
   ac_nf
   and_intros
   refine⟨(f,ds++[(z,r)]),?_,?_,zja hd2 ⟨hro,by rw [hrl];omega,by rw [hrl];exact hs2,L,hLn,by rw [hrl];exact hs3⟩⟩
   ·rw [List.map_append]
    bv_omega
   ·rw [List.map_append,hd1,List.take_succ]
    rw [Int.toNat_natCast] at hz
    rw [hz];rfl
 ·obtain⟨f,ds⟩:=s
  dsimp only at hd1 hd2 ⊢
  and_intros
  rw [List.take_of_length_le (by omega)] at hd1
  have hlen:ds.length=m.toNat:=by rw [← hzl,← hd1,List.length_map]
  refine q w wh ds f ⟨hw1,hw2,hwh'.1,hwh'.2,by omega,by omega,by rw [hd1];exact hzn,by rw [hd1];exact hzo,16 / m.toNat,?_,by rw [hd1];exact hd2⟩
  rw [hlen];exact Nat.div_mul_le_self 16 m.toNat
theorem feed_ok {ns:List Int}{k:Int}(hn:ns.length<=1000)(h1:0<=k)(h2:k<=1000000){Q:T->Prop}(q:∀ f,Q (fT f)):W1 (zzj [.li (ns.map .int),.im (.int k)]) Q:=by
 refine runP_ok' [some ⟨.vw none none,.li (ns.map .int)⟩,some ⟨.ow,.im (.int k)⟩,none,none] rfl rfl rfl ?_
 unfold zsj
 and_intros
 refine WS.mono (Q:=fun fl ρ=>fl = .nx/\∃ cell:Int,ρ = [some ⟨.vw none none,.li (ns.map .int)⟩,some ⟨.ow,.im (.int k)⟩,some ⟨.ow,.im (.int cell)⟩,none]) ?_ ?_
 ·(refine w_if ?_;and_intros;clear_value hk)
  ·rw [List.length_map] at hk
   and_intros
   refine zva (ns:=ns) h1 hk fun y hy _=>?_
   and_intros
   exact⟨by trivial,y,by first | trivial | bv_omega⟩
  ·(refine w_if ?_;and_intros;clear_value hl)
   ·rw [List.length_map] at hl
    and_intros
    rw [List.length_map]
    refine zon (by omega) ?_
    and_intros
    refine zva (ns:=ns) (Int.emod_nonneg _ (by omega)) (Int.emod_lt_of_pos _ (by omega)) fun y hy _=>?_
    and_intros
    exact⟨by trivial,_,by first | trivial | bv_omega⟩
   ·and_intros
    exact⟨by trivial,_,by first | trivial | bv_omega⟩
 rintro fl ρ ⟨rfl,cell,rfl⟩
 and_intros
 refine WS.mono (Q:=fun fl ρ=>fl = .nx/\∃ own:Int,ρ = [some ⟨.vw none none,.li (ns.map .int)⟩,some ⟨.ow,.im (.int k)⟩,some ⟨.ow,.im (.int cell)⟩,some ⟨.ow,.im (.int own)⟩]) ?_ ?_
 ·refine w_if ?_
  and_intros
  refine zpn ⟨by omega,by omega,by decide⟩ ?_
  and_intros
  clear_value hc
  ·and_intros
   exact⟨by trivial,_,by first | trivial | bv_omega⟩
  ·and_intros
   exact⟨by trivial,_,by first | trivial | bv_omega⟩
 rintro fl ρ ⟨rfl,own,rfl⟩
 and_intros
 have m0:=Int.emod_nonneg cell (show (2147483629:Int)≠0 by omega)
 have m1:=Int.emod_lt_of_pos cell (show (0:Int)<2147483629 by omega)
 refine zpn ⟨by omega,by omega,by omega⟩ ?_
 and_intros
 exact q (own,_)
theorem full_ok {f:Int×Int}{Q:T->T->Prop}(q:∀ wh ds f',HouseOk 10 1 wh ds->Q (.im (zkf 1 wh ds)) (fT f')):W2 (zak [fT f,.im (.int 0)]) Q:=by
 refine runI_ok' [some ⟨.io 0,fT f⟩,some ⟨.ow,.im (.int 0)⟩,none,none,none,none,none,none] rfl rfl rfl ?_
 unfold ztj
 and_intros
 refine names_ok (by omega) (by omega) fun zs f hzl hzn hzo=>?_
 ac_nf
 and_intros
 refine zr (by omega) (by omega) fun at0 f a1 b1=>?_
 ac_nf
 and_intros
 refine zr (by omega) (by omega) fun d2 f a2 b2=>?_
 ac_nf
 and_intros
 try ac_nf
 refine zxc (fun s:(Int×Int)×List (Str×Ru)=>[some ⟨.io 0,fT s.1⟩,some ⟨.ow,.im (.int 0)⟩,some ⟨.ow,.li (zs.map .str)⟩,some ⟨.ow,.im (.int at0)⟩,some ⟨.ow,.im (.int (1 - 2 * d2))⟩,some ⟨.ow,.li (s.2.map zyc)⟩,none,none]) (fun j s=>s.2.map (·.1)=zs.take j/\∀ p∈s.2,DeskOk 10 zs 1 8 p.2) ?_
 and_intros
 refine⟨⟨by omega,by omega⟩,(f,[]),by bv_omega,⟨rfl,by simp⟩,fun x s hx ⟨hd1,hd2⟩=>?_,fun s ⟨hd1,hd2⟩=>?_⟩
 ·obtain⟨f,ds⟩:=s
  dsimp only at hd1 hd2 ⊢
  and_intros
  refine zme (fun _:Unit=>[some ⟨.io 0,fT f⟩,some ⟨.ow,.im (.int 0)⟩,some ⟨.ow,.li (zs.map .str)⟩,some ⟨.ow,.im (.int at0)⟩,some ⟨.ow,.im (.int (1 - 2 * d2))⟩,some ⟨.ow,.li (ds.map zyc)⟩,some ⟨.ow,.im (.int x)⟩,none]) (fun p:Str×List Int=>tRu (.rd p.1 p.2)) (fun j _ L=>L.length=j/\∀ p∈L,p.1∈zs/\p.2.length=1) ?_
  and_intros
  simp only [Int.zero_mul,Int.add_zero]
  refine⟨⟨by omega,by omega⟩,by bv_omega,(),by first | exact True.intro | bv_omega,⟨rfl,by simp⟩,fun j _ L hj ⟨hLl,hLx⟩=>?_,fun _ L ⟨hLl,hLx⟩=>?_⟩
  ·and_intros
   refine zej (emb:=I.str) (ns:=zs) (Int.emod_nonneg _ (by omega)) (by have:=Int.emod_lt_of_pos (j:Int) (show (0:Int)<2 by omega);rw [hzl];exact this) fun z hz=>?_
   and_intros
   refine zqm (mulL (by omega) (by omega)) ?_
   and_intros
   exact⟨(z,[_]),(),rfl,by bv_omega,by simp [hLl],zja hLx ⟨ymG hz,rfl⟩⟩
  have hL8:L.length=8:=hLl
  rw [show L.map (fun p=>tRu (.rd p.1 p.2))=(L.map fun p=>Ru.rd p.1 p.2).map tRu by rw [List.map_map];rfl]
  have hs2:∀ r∈(L.map fun p=>Ru.rd p.1 p.2),LeafOk zs 1 r:=fun r hr=>by
   obtain⟨p,hp,rfl⟩:=List.mem_map.mp hr
   exact hLx p hp
  have hs3:∀ y row,Ru.rd y row∈(L.map fun p=>Ru.rd p.1 p.2)->(y,row)∈L:=fun y row hr=>by
   obtain⟨p,hp,e⟩:=List.mem_map.mp hr
   cases e;exact hp
  have hs1:(L.map fun p=>Ru.rd p.1 p.2).length=8:=by rw [List.length_map,hL8]
  generalize (L.map fun p=>Ru.rd p.1 p.2)=rs at *
  and_intros
  refine zej (emb:=I.str) (ns:=zs) (by omega) (by rw [hzl];exact hx) fun z hz=>?_
  and_intros
  refine grown_ok (rs:=rs) (fun h0=>by rw [h0] at hs1;cases hs1) (by omega) (fun r hr=>leaf_ok (hs2 r hr).leaf) fun r f hrl hro=>?_
  rw [zfi fun r hr=>(hs2 r hr).leaf] at hrl
  ac_nf
  and_intros
  refine zhc (is:=ds.map zyc) (by
   have:ds.length<=zs.length:=by rw [← List.length_map (f:=fun p:Str×Ru=>p.1),hd1];simp;omega
   rw [hzl] at this
   simp;rw [sizeLine_eq];have:(2:Int).toNat=2:=rfl;omega) ?_
  ac_nf
  and_intros
  refine⟨(f,ds++[(z,r)]),?_,?_,zja hd2 ⟨hro,by rw [hrl];omega,by rw [hrl];exact hs2,L,by omega,by rw [hrl];exact hs3⟩⟩
  ·rw [List.map_append]
   bv_omega
  ·rw [List.map_append,hd1,List.take_succ]
   rw [Int.toNat_natCast] at hz
   rw [hz];rfl
 ·obtain⟨f,ds⟩:=s
  dsimp only at hd1 hd2 ⊢
  and_intros
  refine zr (by omega) (by omega) fun d3 f a3 b3=>?_
  ac_nf
  and_intros
  rw [show (2:Int).toNat=2 from rfl,List.take_of_length_le (by omega)] at hd1
  have hlen:ds.length=2:=by rw [← List.length_map (f:=fun p:Str×Ru=>p.1),hd1,hzl];rfl
  exact q (2+d3) ds f ⟨by omega,by omega,by omega,by omega,by omega,by omega,by rw [hd1];exact hzn,by rw [hd1];exact hzo,8,by omega,by rw [hd1];exact hd2⟩
noncomputable def Ru.led (t:Int):Ru->Ru
 | .rd x row=>.rd x (row.map fun e=>t * e)
 | .op s a b=>.op s (a.led t) (b.led t)
 | .cond a b c=>.cond (a.led t) (b.led t) (c.led t)
 | r=>r
theorem znm {t:Int}(ht0:0<=t)(ht:t<=10000000000000):∀ (n:Nat) (r:Ru),r.depth<n->(∀ x row,Ru.rd x row∈r.leaves->row.length<=100)->∀ {Q:T->Prop},Q (.im (tRu (r.led t)))->W1 (zvi n [.im (tRu r),.im (.int t)]) Q
 | 0,r,hd,_,Q,q=>absurd hd (Nat.not_lt_zero _)
 | n+1,r,hd,hr,Q,q=>by
  refine runP_ok' [some ⟨.ow,.im (tRu r)⟩,some ⟨.ow,.im (.int t)⟩,none] rfl rfl rfl ?_
  unfold zgl
  cases r with
  | num k=>
   rw [tRu]
   and_intros
   (refine w_if ?_;and_intros;clear_value h)
   ·and_intros
    exact q
   ·exact absurd rfl h
  | rd x row=>
   have hrow:=hr x row (by simp [Ru.leaves])
   rw [tRu]
   and_intros
   (refine w_if ?_;and_intros;clear_value h)
   ·exact absurd h (by decide +kernel)
   and_intros
   (refine w_if ?_;and_intros;clear_value h')
   ·and_intros
    refine zoc (fun _:Unit=>[some ⟨.ow,.im (.tup [.str "at",.str x,.tup (row.map .int)])⟩,some ⟨.ow,.im (.int t)⟩,none]) I.int (fun j _ L=>L=(row.take j).map fun e=>t * e) ?_
    and_intros
    refine⟨row.map .int,rfl,by simp;rw [sizeLine_eq];omega,by bv_omega,(),by bv_omega,rfl,fun j x' _ L hx' hL=>?_,fun _ L hL=>?_⟩
    ·rw [List.getElem?_map] at hx'
     cases e:row[j]? with
     | none=>rw [e] at hx';cases hx'
     | some y=>
      rw [e] at hx';cases hx'
      and_intros
      refine zqm (mulL (by omega) (by omega)) ?_
      exact⟨t * y,(),rfl,by bv_omega,by rw [hL,List.take_succ,e];simp⟩
    ·rw [List.length_map,List.take_of_length_le (Nat.le_refl _)] at hL
     subst hL
     and_intros
     exact q
   ·exact absurd rfl h'
  | op s a b=>
   have ha:a.depth<n/\b.depth<n:=by simp only [Ru.depth] at hd;omega
   rw [tRu]
   and_intros
   (refine w_if ?_;and_intros;clear_value h)
   ·exact absurd h (by decide +kernel)
   and_intros
   (refine w_if ?_;and_intros;clear_value h')
   ·exact absurd h' (by decide +kernel)
   and_intros
   simp only [decide_true,if_true,Int.reduceAdd]
   refine zgm (is:=[.str "op",.str s,tRu a,tRu b]) (show ¬((0:Nat)=0/\2=4) by decide) ?_
   and_intros
   refine zoc (fun _:Unit=>[some ⟨.ow,.im (.tup [.str "op",.str s,tRu a,tRu b])⟩,some ⟨.ow,.im (.int t)⟩,some ⟨.ow,.im (.int 2)⟩]) tRu (fun j _ L=>L=([a,b].take j).map (Ru.led t)) ?_
   and_intros
   refine zgm (is:=[.str "op",.str s,tRu a,tRu b]) (show ¬((2:Nat)=0/\4=4) by decide) ?_
   refine⟨[a,b].map tRu,rfl,by simp;rw [sizeLine_eq];omega,by bv_omega,(),by bv_omega,rfl,fun j x' _ L hx' hL=>?_,fun _ L hL=>?_⟩
   ·rw [List.getElem?_map] at hx'
    cases e:([a,b]:List Ru)[j]? with
    | none=>rw [e] at hx';cases hx'
    | some y=>
     rw [e] at hx';cases hx'
     have hy:y=a ∨ y=b:=by have:=ymG e;simpa using this
     and_intros
     refine znm ht0 ht n y (by rcases hy with rfl | rfl<;>omega) (fun x row hm=>hr x row ?_) ?_
     ·rw [Ru.leaves]
      rcases hy with rfl | rfl
      ·exact yaL _ hm
      ·exact yaR _ hm
     ·exact⟨y.led t,(),rfl,by bv_omega,by rw [hL,List.take_succ,e];simp⟩
   ·rw [List.length_map,List.take_of_length_le (Nat.le_refl _)] at hL
    subst hL
    and_intros
    refine p_addT (by simp [cutL];rw [sizeLine_eq];omega) ?_
    and_intros
    exact q
  | cond a b c=>
   have ha:a.depth<n/\b.depth<n/\c.depth<n:=by simp only [Ru.depth] at hd;omega
   rw [tRu]
   and_intros
   (refine w_if ?_;and_intros;clear_value h)
   ·exact absurd h (by decide +kernel)
   and_intros
   (refine w_if ?_;and_intros;clear_value h')
   ·exact absurd h' (by decide +kernel)
   and_intros
   rw [show (1+if decide (("if" : Str) = "op")=true then 1 else 0:Int)=1 by decide +kernel]
   refine zgm (is:=[.str "if",tRu a,tRu b,tRu c]) (show ¬((0:Nat)=0/\1=4) by decide) ?_
   and_intros
   refine zoc (fun _:Unit=>[some ⟨.ow,.im (.tup [.str "if",tRu a,tRu b,tRu c])⟩,some ⟨.ow,.im (.int t)⟩,some ⟨.ow,.im (.int 1)⟩]) tRu (fun j _ L=>L=([a,b,c].take j).map (Ru.led t)) ?_
   and_intros
   refine zgm (is:=[.str "if",tRu a,tRu b,tRu c]) (show ¬((1:Nat)=0/\4=4) by decide) ?_
   refine⟨[a,b,c].map tRu,rfl,by simp;rw [sizeLine_eq];omega,by bv_omega,(),by bv_omega,rfl,fun j x' _ L hx' hL=>?_,fun _ L hL=>?_⟩
   ·rw [List.getElem?_map] at hx'
    cases e:([a,b,c]:List Ru)[j]? with
    | none=>rw [e] at hx';cases hx'
    | some y=>
     rw [e] at hx';cases hx'
     have hy:y=a ∨ y=b ∨ y=c:=by have:=ymG e;simpa using this
     and_intros
     refine znm ht0 ht n y (by rcases hy with rfl | rfl | rfl<;>omega) (fun x row hm=>hr x row ?_) ?_
     ·rw [Ru.leaves]
      rcases hy with rfl | rfl | rfl
      ·exact yaL _ hm
      ·exact yaR _ (yaL _ hm)
      ·exact yaR _ (yaR _ hm)
     ·exact⟨y.led t,(),rfl,by bv_omega,by rw [hL,List.take_succ,e];simp⟩
   ·rw [List.length_map,List.take_of_length_le (Nat.le_refl _)] at hL
    subst hL
    and_intros
    refine p_addT (by simp [cutL];rw [sizeLine_eq];omega) ?_
    and_intros
    exact q
theorem zmb {t:Int}:∀ r:Ru,(r.led t).leaves=r.leaves.map (Ru.led t)
 | .num _=>rfl
 | .rd _ _=>rfl
 | .op _ a b=>by simp only [Ru.led,Ru.leaves,List.map_append,zmb a,zmb b]
 | .cond a b c=>by simp only [Ru.led,Ru.leaves,List.map_append,zmb a,zmb b,zmb c]
theorem zbh {t:Int}:∀ {r:Ru},r.ok->(r.led t).ok
 | .num _,_=>trivial
 | .rd _ _,_=>trivial
 | .op _ a b,h=>⟨h.1,zbh h.2.1,zbh h.2.2⟩
 | .cond a b c,h=>⟨zbh h.1,zbh h.2.1,zbh h.2.2⟩
theorem DeskOk.led {c:Nat}{ns:List Str}{w:Int}{n:Nat}{r:Ru}{t:Int}(h:DeskOk c ns w n r):DeskOk c ns w n (r.led t):=by
 obtain⟨h1,h2,h3,L,h4,h5⟩:=h
 refine⟨zbh h1,by rw [zmb,List.length_map];exact h2,fun l hl=>?_,L.map (fun p=>(p.1,p.2.map fun e=>t * e)),by rw [List.length_map];exact h4,fun x row hm=>?_⟩
 ·rw [zmb] at hl
  obtain⟨l',hl',rfl⟩:=List.mem_map.mp hl
  have:=h3 l' hl'
  cases l' with
  | num k=>exact this
  | rd x row=>exact⟨this.1,by rw [List.length_map];exact this.2⟩
  | op _ _ _=>cases this
  | cond _ _ _=>cases this
 ·rw [zmb] at hm
  obtain⟨l',hl',e⟩:=List.mem_map.mp hm
  cases l' with
  | num k=>cases e
  | rd x' row'=>cases e;exact List.mem_map.mpr ⟨_,h5 _ _ hl',rfl⟩
  | op _ _ _=>cases e
  | cond _ _ _=>cases e
theorem DeskOk.twice {c:Nat}{ns:List Str}{w:Int}{n:Nat}{r:Ru}(h:DeskOk c ns w n r):DeskOk (2 * c) ns w n (.op "less" r r):=by
 obtain⟨h1,h2,h3,L,h4,h5⟩:=h
 refine⟨⟨by decide +kernel,h1,h1⟩,by rw [Ru.leaves,List.length_append];omega,fun l hl=>?_,L,h4,fun x row hm=>?_⟩
 ·rw [Ru.leaves] at hl
  exact (yaM hl).elim (h3 l) (h3 l)
 ·rw [Ru.leaves] at hm
  exact (yaM hm).elim (h5 x row) (h5 x row)
theorem HouseOk.mono {c c':Nat}{w wh:Int}{ds:List (Str×Ru)}(h:HouseOk c w wh ds)(hc:c<=c'):HouseOk c' w wh ds:=by
 obtain⟨a1,a2,a3,a4,a5,a6,a7,a8,n,a9,a10⟩:=h
 exact⟨a1,a2,a3,a4,a5,a6,a7,a8,n,a9,fun p hp=>⟨(a10 p hp).1,Nat.le_trans (a10 p hp).2.1 hc,(a10 p hp).2.2⟩⟩
theorem HouseOk.wheel {c:Nat}{w wh wh':Int}{ds:List (Str×Ru)}(h:HouseOk c w wh ds)(h1:2<=wh')(h2:wh'<=1000000000):HouseOk c w wh' ds:=by
 obtain⟨a1,a2,a3,a4,a5⟩:=h
 exact⟨a1,a2,h1,h2,a5⟩
theorem HouseOk.map {c c':Nat}{w wh:Int}{ds:List (Str×Ru)}{g:Ru->Ru}(hg:∀ ns n r,DeskOk c ns w n r->DeskOk c' ns w n (g r))(h:HouseOk c w wh ds):HouseOk c' w wh (ds.map fun p=>(p.1,g p.2)):=by
 obtain⟨a1,a2,a3,a4,a5,a6,a7,a8,n,a9,a10⟩:=h
 have e:(ds.map fun p=>(p.1,g p.2)).map (·.1)=ds.map (·.1):=by rw [List.map_map];rfl
 refine⟨a1,a2,a3,a4,by rw [List.length_map];exact a5,by rw [List.length_map];exact a6,by rw [e];exact a7,by rw [e];exact a8,n,by rw [List.length_map];exact a9,fun p hp=>?_⟩
 rw [e]
 obtain⟨p',hp',rfl⟩:=List.mem_map.mp hp
 exact hg _ _ _ (a10 p' hp')
noncomputable def tH (h:Int×Int×List (Str×Ru)):I:=zkf h.1 h.2.1 h.2.2
theorem some_ok {f:Int×Int}{Q:T->T->Prop}(q:∀ (hs:List (Int×Int×List (Str×Ru))) f',hs.length=5->(∀ h∈hs,HouseOk 20 h.1 h.2.1 h.2.2)->Q (.li (hs.map tH)) (fT f')):W2 (zck [fT f]) Q:=by
 refine runI_ok' [some ⟨.io 0,fT f⟩,none,none,none,none,none,none] rfl rfl rfl ?_
 unfold zuj
 and_intros
 refine zr (by omega) (by omega) fun form f a1 b1=>?_
 ac_nf
 and_intros
 refine zpn ⟨by omega,by omega,by decide⟩ ?_
 and_intros
 refine zr (by decide) (by decide) fun t f a2 b2=>?_
 have b2':t<=10000000000000:=by
  have:((10:Int) ^ (12:Int).toNat+1)<=10000000000001:=by decide
  omega
 ac_nf
 and_intros
 refine house_ok fun w wh ds f hH=>?_
 ac_nf
 and_intros
 refine zva (ns:=[2,1000000000]) (Int.emod_nonneg _ (by omega)) (by have:=Int.emod_lt_of_pos form (show (0:Int)<2 by omega);simpa using this) fun wh2 hwh2 _=>?_
 have hwh2':2<=wh2/\wh2<=1000000000:=by simp at hwh2;omega
 and_intros
 refine zoc (fun _:Unit=>[some ⟨.io 0,fT f⟩,some ⟨.ow,.im (.int form)⟩,some ⟨.ow,.im (.int t)⟩,some ⟨.ow,.im (.int w)⟩,some ⟨.ow,.im (.int wh)⟩,some ⟨.ow,.im (.tup (ds.map zyc))⟩,some ⟨.ow,.li ([(w,wh,ds),(w,wh2,ds)].map tH)⟩]) zyc (fun j _ L=>L=(ds.take j).map fun p=>(p.1,p.2.led t)) ?_
 and_intros
 have hds:ds.length<=6:=hH.2.2.2.2.2.1
 have hdk:∀ p∈ds,p.2.depth<24/\∀ x row,Ru.rd x row∈p.2.leaves->row.length<=100:=fun p hp=>by
  obtain⟨a1,a2,a3,a4,a5,a6,a7,a8,n,a9,a10⟩:=hH
  obtain⟨h1,h2,h3,_⟩:=a10 p hp
  have:=p.2.depth_lt
  exact⟨by omega,fun x row hm=>by have:=(h3 _ hm).2;omega⟩
 refine⟨ds.map zyc,rfl,by simp;rw [sizeLine_eq];omega,by bv_omega,(),by bv_omega,rfl,fun j x' _ L hx' hL=>?_,fun _ L hL=>?_⟩
 ·rw [List.getElem?_map] at hx'
  cases e:ds[j]? with
  | none=>rw [e] at hx';cases hx'
  | some p=>
   rw [e] at hx';cases hx'
   obtain⟨hp1,hp2⟩:=hdk p (ymG e)
   and_intros
   refine znm a2 b2' 24 p.2 hp1 hp2 ?_
   and_intros
   exact⟨(p.1,p.2.led t),(),rfl,by bv_omega,by rw [hL,List.take_succ,e];simp⟩
 rw [List.length_map,List.take_of_length_le (Nat.le_refl _)] at hL
 subst hL
 and_intros
 refine zhc (is:=[(w,wh,ds),(w,wh2,ds)].map tH) (by simp;rw [sizeLine_eq];omega) ?_
 ac_nf
 and_intros
 refine zoc (fun _:Unit=>[some ⟨.io 0,fT f⟩,some ⟨.ow,.im (.int form)⟩,some ⟨.ow,.im (.int t)⟩,some ⟨.ow,.im (.int w)⟩,some ⟨.ow,.im (.int wh)⟩,some ⟨.ow,.im (.tup (ds.map zyc))⟩,some ⟨.ow,.li ([(w,wh,ds),(w,wh2,ds),(w,wh,ds.map fun p=>(p.1,p.2.led t))].map tH)⟩]) zyc (fun j _ L=>L=(ds.take j).map fun p=>(p.1,Ru.op "less" p.2 p.2)) ?_
 and_intros
 refine⟨ds.map zyc,rfl,by simp;rw [sizeLine_eq];omega,by bv_omega,(),by bv_omega,rfl,fun j x' _ L hx' hL=>?_,fun _ L hL=>?_⟩
 ·rw [List.getElem?_map] at hx'
  cases e:ds[j]? with
  | none=>rw [e] at hx';cases hx'
  | some p=>
   rw [e] at hx';cases hx'
   and_intros
   exact⟨(p.1,.op "less" p.2 p.2),(),rfl,by bv_omega,by rw [hL,List.take_succ,e];simp⟩
 rw [List.length_map,List.take_of_length_le (Nat.le_refl _)] at hL
 subst hL
 and_intros
 refine zhc (is:=[(w,wh,ds),(w,wh2,ds),(w,wh,ds.map fun p=>(p.1,p.2.led t))].map tH) (by simp;rw [sizeLine_eq];omega) ?_
 ac_nf
 and_intros
 refine full_ok fun wf df f hF=>?_
 ac_nf
 and_intros
 refine zqk (is:=[(w,wh,ds),(w,wh2,ds),(w,wh,ds.map fun p=>(p.1,p.2.led t)),(w,wh,ds.map fun p=>(p.1,Ru.op "less" p.2 p.2))].map tH) (js:=[(1,wf,df)].map tH) (by simp;rw [sizeLine_eq];omega) ?_
 rw [← List.map_append]
 and_intros
 refine q _ f rfl ?_
 intro h hh
 simp only [List.mem_append,List.mem_cons,List.not_mem_nil,or_false] at hh
 rcases hh with (rfl | rfl | rfl | rfl) | rfl
 ·exact hH.mono (by omega)
 ·exact (hH.wheel hwh2'.1 hwh2'.2).mono (by omega)
 ·exact (hH.map (g:=Ru.led t) fun ns n r h=>h.led).mono (by omega)
 ·exact hH.map (g:=fun r=>Ru.op "less" r r) fun ns n r h=>h.twice
 ·exact hF.mono (by omega)
noncomputable def Ru.kids:Ru->List Ru
 | .op _ a b=>[a,b]
 | .cond a b c=>[a,b,c]
 | _=>[]
noncomputable def Ru.pre:Ru->List Ru
 | .num n=>[.num n]
 | .rd x row=>[.rd x row]
 | .op s a b=>.op s a b::(a.pre++b.pre)
 | .cond a b c=>.cond a b c::(a.pre++(b.pre++c.pre))
theorem zsm (r:Ru):r.pre=r::r.kids.flatMap Ru.pre:=by cases r<;>simp [Ru.pre,Ru.kids]
theorem pre_pos (r:Ru):1<=r.pre.length:=by rw [zsm];simp
theorem zkh:∀ r:Ru,r.pre.length<2 * r.leaves.length
 | .num _=>by simp [Ru.pre,Ru.leaves]
 | .rd _ _=>by simp [Ru.pre,Ru.leaves]
 | .op _ a b=>by have:=zkh a;have:=zkh b;simp only [Ru.pre,Ru.leaves,List.length_cons,List.length_append];omega
 | .cond a b c=>by have:=zkh a;have:=zkh b;have:=zkh c;simp only [Ru.pre,Ru.leaves,List.length_cons,List.length_append];omega
theorem kids_len (r:Ru):r.kids.length<=3:=by cases r<;>simp [Ru.kids]
theorem inner_ok {r:Ru}{Q:T->Prop}(q:Q (.im (.tup (r.kids.map tRu)))):W1 (zvc [.im (tRu r)]) Q:=by
 refine runP_ok' [some ⟨.ow,.im (tRu r)⟩] rfl rfl rfl ?_
 unfold zqc
 cases r with
 | num k=>
  rw [tRu]
  and_intros
  (refine w_if ?_;and_intros;clear_value h)
  ·exact absurd h (by decide +kernel)
  and_intros
  (refine w_if ?_;and_intros;clear_value h')
  ·exact absurd h' (by decide +kernel)
  and_intros
  exact q
 | rd x row=>
  rw [tRu]
  and_intros
  (refine w_if ?_;and_intros;clear_value h)
  ·exact absurd h (by decide +kernel)
  and_intros
  (refine w_if ?_;and_intros;clear_value h')
  ·exact absurd h' (by decide +kernel)
  and_intros
  exact q
 | op s a b=>
  rw [tRu]
  and_intros
  (refine w_if ?_;and_intros;clear_value h)
  ·and_intros
   refine zgm (is:=[.str "op",.str s,tRu a,tRu b]) (show ¬((2:Nat)=0/\4=4) by decide) ?_
   and_intros
   exact q
  ·exact absurd rfl h
 | cond a b c=>
  rw [tRu]
  and_intros
  (refine w_if ?_;and_intros;clear_value h)
  ·exact absurd h (by decide +kernel)
  and_intros
  (refine w_if ?_;and_intros;clear_value h')
  ·and_intros
   refine zgm (is:=[.str "if",tRu a,tRu b,tRu c]) (show ¬((1:Nat)=0/\4=4) by decide) ?_
   and_intros
   exact q
  ·exact absurd rfl h'
theorem p_truL {is:List I}{Q:Bool->Prop}(q:Q (!is.isEmpty)):W1 (tru (.li is)) Q:=w1 rfl q
theorem parts_ok {r:Ru}(hl:r.leaves.length<=1000){Q:T->Prop}(q:Q (.li (r.pre.map tRu))):W1 (zed [.im (tRu r)]) Q:=by
 have hpre:=zkh r
 refine runP_ok' [some ⟨.ow,.im (tRu r)⟩,none,none,none] rfl rfl rfl ?_
 unfold zve
 and_intros
 refine w_whiles (fun s:List Ru×List Ru=>[some ⟨.ow,.im (tRu r)⟩,some ⟨.ow,.li (s.1.map tRu)⟩,some ⟨.ow,.li (s.2.map tRu)⟩,none]) (fun s=>s.1++s.2.reverse.flatMap Ru.pre=r.pre) (fun s=>(s.2.flatMap Ru.pre).length) ([],[r]) (by bv_omega) (by simp) fun s hs=>?_
 obtain⟨ps,st⟩:=s
 dsimp only at hs ⊢
 and_intros
 refine p_truL ?_
 refine bsp (fun hne=>?_) (fun he=>?_)
 ·obtain⟨st',p,rfl⟩:∃ st' p,st=st'++[p]:=by
   rcases List.eq_nil_or_concat st with z | ⟨a,b,z⟩
   ·rw [z] at hne;cases hne
   ·exact⟨a,b,by simpa using z⟩
  rw [List.map_append] at *
  and_intros
  refine p_pop ?_
  ac_nf
  and_intros
  have hlen:=congrArg List.length hs
  simp only [List.reverse_append,List.reverse_cons,List.reverse_nil,List.nil_append,List.flatMap_append,List.flatMap_cons,List.flatMap_nil,List.append_nil,List.length_append,List.cons_append] at hlen hs
  have hk:(st'.reverse.flatMap Ru.pre).length=(st'.flatMap Ru.pre).length:=by simp [List.length_flatMap,List.map_reverse,List.sum_reverse]
  have hst:st'.length<=(st'.flatMap Ru.pre).length:=by
   clear hs hne hlen hk
   induction st' with
   | nil=>simp
   | cons a l ih=>rw [List.flatMap_cons,List.length_cons,List.length_append];have:=pre_pos a;omega
  refine zhc (is:=ps.map tRu) (by simp;rw [sizeLine_eq];omega) ?_
  ac_nf
  and_intros
  refine inner_ok ?_
  and_intros
  have hkid:=kids_len p
  refine p_extT (is:=st'.map tRu) (js:=(p.kids.map tRu).reverse) (by simp;rw [sizeLine_eq];omega) ?_
  ac_nf
  and_intros
  refine⟨(ps++[p],st'++p.kids.reverse),?_,?_,?_⟩
  ·rw [List.map_append,List.map_append,List.map_reverse]
   bv_omega
  ·rw [List.flatMap_append,List.flatMap_append,List.length_append,List.length_append,List.flatMap_cons,List.flatMap_nil,List.append_nil,zsm p,List.length_cons]
   have:(p.kids.reverse.flatMap Ru.pre).length=(p.kids.flatMap Ru.pre).length:=by simp [List.length_flatMap,List.map_reverse,List.sum_reverse]
   omega
  ·rw [← hs,List.reverse_append,List.reverse_reverse,List.flatMap_append,zsm p]
   simp
 ·have:st = []:=by cases st<;>first | rfl | cases he
  subst this
  and_intros
  simp at hs
  subst hs
  exact q
theorem zad:∀ {r l:Ru},zkk l->l∈r.pre->l∈r.leaves
 | .num _,l,_,h=>h
 | .rd _ _,l,_,h=>h
 | .op s a b,l,hl,h=>by
  rw [Ru.pre] at h;rw [Ru.leaves]
  rcases ycM h with rfl | h
  ·cases hl
  ·rcases yaM h with h | h
   ·exact yaL _ (zad hl h)
   ·exact yaR _ (zad hl h)
 | .cond a b c,l,hl,h=>by
  rw [Ru.pre] at h;rw [Ru.leaves]
  rcases ycM h with rfl | h
  ·cases hl
  ·rcases yaM h with h | h
   ·exact yaL _ (zad hl h)
   ·rcases yaM h with h | h
    ·exact yaR _ (yaL _ (zad hl h))
    ·exact yaR _ (yaR _ (zad hl h))
noncomputable def tR2 (p:Str×List Int):I:=.tup [.str p.1,.tup (p.2.map .int)]
theorem preads_ok {r:Ru}(hl:r.leaves.length<=1000){Q:T->Prop}(q:∀ L:List (Str×List Int),L.length<=2000->(∀ p∈L,Ru.rd p.1 p.2∈r.leaves)->Q (.im (.tup (L.map tR2)))):W1 (zxi [.im (tRu r)]) Q:=by
 have hpre:=zkh r
 refine runP_ok' [some ⟨.ow,.im (tRu r)⟩] rfl rfl rfl ?_
 unfold zni
 and_intros
 refine w_compFs (fun _:Unit=>[some ⟨.ow,.im (tRu r)⟩]) tR2 (fun j _ L=>L.length<=j/\∀ p∈L,Ru.rd p.1 p.2∈r.leaves) ?_
 and_intros
 refine parts_ok hl ?_
 refine⟨r.pre.map tRu,rfl,by simp;rw [sizeLine_eq];omega,by bv_omega,(),by bv_omega,⟨Nat.le_refl _,by simp⟩,fun j x' _ L hx' ⟨hL,hp⟩=>?_,fun _ L ⟨hL,hp⟩=>?_⟩
 ·rw [List.getElem?_map] at hx'
  cases e:r.pre[j]? with
  | none=>rw [e] at hx';cases hx'
  | some y=>
   rw [e] at hx';cases hx'
   have hy:=ymG e
   cases y with
   | num k=>
    rw [tRu]
    and_intros
    clear_value h
    ·exact absurd h (by decide +kernel)
    ·exact⟨(),by bv_omega,by omega,hp⟩
   | rd x row=>
    rw [tRu]
    and_intros
    clear_value h
    ·and_intros
     exact⟨(x,row),(),rfl,by bv_omega,by simp;omega,zja hp (zad trivial hy)⟩
    ·exact absurd rfl h
   | op s a b=>
    rw [tRu]
    and_intros
    clear_value h
    ·exact absurd h (by decide +kernel)
    ·exact⟨(),by bv_omega,by omega,hp⟩
   | cond a b c=>
    rw [tRu]
    and_intros
    clear_value h
    ·exact absurd h (by decide +kernel)
    ·exact⟨(),by bv_omega,by omega,hp⟩
 ·and_intros
  exact q L (by simp at hL;omega) hp
theorem frame_ok {w wh:Int}{is:List I}(h1:1<=w)(h2:w<=3)(h3:2<=wh)(h4:wh<=1000000000)(h5:1<=is.length)(h6:is.length<=6){Q:T->Prop}(q:Q (.im .non)):W1 (zpd [.im (.int w),.im (.int wh),.im (.tup is)]) Q:=by
 refine runP_ok' [some ⟨.ow,.im (.int w)⟩,some ⟨.ow,.im (.int wh)⟩,some ⟨.ow,.im (.tup is)⟩] rfl rfl rfl ?_
 unfold zkd
 and_intros
 refine w_if ?_
 and_intros
 clear_value c1
 rotate_left
 ·exact absurd h1 c1
 and_intros
 clear_value c2
 ·exact absurd h2 c2
 and_intros
 refine w_if ?_
 and_intros
 clear_value c3
 rotate_left
 ·exact absurd h3 c3
 and_intros
 clear_value c4
 ·exact absurd h4 c4
 and_intros
 refine w_if ?_
 and_intros
 clear_value c5
 rotate_left
 ·exact absurd (by omega) c5
 and_intros
 clear_value c6
 ·exact absurd (by omega) c6
 and_intros
 exact q
theorem zug:∀ {zs:List Str},I.doks (zs.map I.str)=true/\I.deps (zs.map I.str)<=50
 | []=>⟨rfl,by decide⟩
 | z::zs=>by
  have ih:=zug (zs:=zs)
  refine⟨by rw [List.map_cons,I.doks,ih.1];rfl,?_⟩
  rw [List.map_cons,I.deps]
  have:I.dep (.str z)=0:=rfl
  have:=ih.2
  omega
theorem rule_ok {z:Str}{r:Ru}{ns:List Str}{w:Int}(hl:r.leaves.length<=1000)(hw:0<=w)(ho:∀ l∈r.leaves,LeafOk ns w l){Q:T->Prop}(q:Q (.im .non)):W1 (zke [.im (.str z),.im (tRu r),.li (ns.map .str),.im (.int w)]) Q:=by
 have hpre:=zkh r
 refine runP_ok' [some ⟨.ow,.im (.str z)⟩,some ⟨.ow,.im (tRu r)⟩,some ⟨.vw none none,.li (ns.map .str)⟩,some ⟨.ow,.im (.int w)⟩,none] rfl rfl rfl ?_
 unfold zce
 and_intros
 refine zhk (fun _:Unit=>[some ⟨.ow,.im (.str z)⟩,some ⟨.ow,.im (tRu r)⟩,some ⟨.vw none none,.li (ns.map .str)⟩,some ⟨.ow,.im (.int w)⟩,none]) (fun _ _=>True) ?_
 and_intros
 refine parts_ok hl ?_
 refine⟨r.pre.map tRu,rfl,by bv_omega,(),by bv_omega,trivial,fun j x' _ hx' _=>?_,fun _ _=>?_⟩
 ·rw [List.getElem?_map] at hx'
  cases e:r.pre[j]? with
  | none=>rw [e] at hx';cases hx'
  | some y=>
   rw [e] at hx';cases hx'
   have hy:=ymG e
   cases y with
   | num k=>
    have hk:=ho _ (zad (l:=.num k) trivial hy)
    rw [tRu]
    and_intros
    refine w_if ?_
    and_intros
    clear_value h
    rotate_left
    ·exact absurd rfl h
    and_intros
    clear_value c1
    rotate_left
    ·exact absurd hk.1 c1
    and_intros
    clear_value c2
    ·exact absurd hk.2 c2
    and_intros
    refine w_if ?_
    and_intros
    clear_value h2
    ·exact absurd h2 (by decide +kernel)
    refine spF ?_
    and_intros
    refine w_if ?_
    and_intros
    clear_value h3
    ·exact absurd h3 (by decide +kernel)
    refine spF ?_
    and_intros
    exact⟨(),by bv_omega,trivial⟩
   | rd x row=>
    have hk:=ho _ (zad (l:=.rd x row) trivial hy)
    rw [tRu]
    and_intros
    refine w_if ?_
    and_intros
    clear_value h
    ·exact absurd h (by decide +kernel)
    refine spF ?_
    and_intros
    refine w_if ?_
    and_intros
    clear_value h2
    rotate_left
    ·exact absurd rfl h2
    and_intros
    refine p_ninL (is:=ns.map .str) ⟨rfl,zug.1,zug.2⟩ ?_
    and_intros
    clear_value c1
    ·exact absurd (List.mem_map.mpr ⟨x,hk.1,rfl⟩) c1
    and_intros
    refine w_if ?_
    and_intros
    clear_value h3
    rotate_left
    ·exact absurd rfl h3
    and_intros
    clear_value c2
    ·exact absurd (by rw [List.length_map,hk.2];omega) c2
    and_intros
    exact⟨(),by bv_omega,trivial⟩
   | op s a b=>
    rw [tRu]
    and_intros
    refine w_if ?_
    and_intros
    clear_value h
    ·exact absurd h (by decide +kernel)
    refine spF ?_
    and_intros
    refine w_if ?_
    and_intros
    clear_value h2
    ·exact absurd h2 (by decide +kernel)
    refine spF ?_
    and_intros
    refine w_if ?_
    and_intros
    clear_value h3
    ·exact absurd h3 (by decide +kernel)
    refine spF ?_
    and_intros
    exact⟨(),by bv_omega,trivial⟩
   | cond a b c=>
    rw [tRu]
    and_intros
    refine w_if ?_
    and_intros
    clear_value h
    ·exact absurd h (by decide +kernel)
    refine spF ?_
    and_intros
    refine w_if ?_
    and_intros
    clear_value h2
    ·exact absurd h2 (by decide +kernel)
    refine spF ?_
    and_intros
    refine w_if ?_
    and_intros
    clear_value h3
    ·exact absurd h3 (by decide +kernel)
    refine spF ?_
    and_intros
    exact⟨(),by bv_omega,trivial⟩
 ·and_intros
  exact q
theorem let_occ:∀ c∈sL LET,occ ⟨#[c]⟩ LET=true:=by decide +kernel
theorem bls_bl:∀ {bs:List Bool},bls (bs.map I.bl)=some bs
 | []=>rfl
 | b::bs=>by rw [List.map_cons,bls,bls_bl];rfl
theorem p_all {bs:List Bool}{Q:T->Prop}(q:Q (.im (.bl (bs.all id)))):W1 (allT [.li (bs.map I.bl)]) Q:=w1 (by simp only [allT,bls_bl,Option.map_some]) q
theorem isname_ok {z:Str}(h:zgj z){Q:T->Prop}(q:Q (.im (.bl true))):W1 (zxf [.im (.str z)]) Q:=by
 obtain⟨h1,h2,h3,h4⟩:=h
 refine runP_ok' [some ⟨.ow,.im (.str z)⟩] rfl rfl rfl ?_
 unfold zuf
 and_intros
 refine w_if ?_
 and_intros
 refine p_lenS (by rw [sizeLine_eq];omega) ?_
 and_intros
 clear_value c1
 rotate_left
 ·exact absurd (by omega) c1
 and_intros
 clear_value c2
 ·exact absurd (by omega) c2
 and_intros
 refine p_inT (is:=fiveS.map .str) ⟨rfl,by decide +kernel,by decide +kernel⟩ ?_
 and_intros
 clear_value c3
 ·exact absurd (by simpa using c3) h3
 and_intros
 refine zoc (fun _:Unit=>[some ⟨.ow,.im (.str z)⟩]) I.bl (fun j _ L=>∀ b∈L,b=true) ?_
 and_intros
 refine⟨(sL z).map (fun c=>.str ⟨#[c]⟩),by rw [List.map_map];rfl,by rw [List.length_map,← zbf,sizeLine_eq];omega,by bv_omega,(),by bv_omega,by simp,fun j x' _ L hx' hL=>?_,fun _ L hL=>?_⟩
 ·rw [List.getElem?_map] at hx'
  cases e:(sL z)[j]? with
  | none=>rw [e] at hx';cases hx'
  | some c=>
   rw [e] at hx';cases hx'
   and_intros
   exact⟨occ ⟨#[c]⟩ LET,(),rfl,by bv_omega,zja hL (let_occ c (h4 c (ymG e)))⟩
 ·and_intros
  refine p_all ?_
  and_intros
  rw [show L.all id=true from List.all_eq_true.mpr fun b hb=>hL b hb]
  exact q
noncomputable def zvg (z:Str) (p:Str×List Int):I:=.tup [.str z,.str p.1,.tup (p.2.map .int)]
theorem ztg {z:Str}:∀ {L:List (Str×List Int)},I.doks (L.map (zvg z))=true/\I.deps (L.map (zvg z))<=50
 | []=>⟨rfl,Nat.zero_le _⟩
 | p::l=>by
  have ih:=ztg (z:=z) (L:=l)
  have hi:∀ row:List Int,I.doks (row.map I.int)=true/\I.deps (row.map I.int)=0:=fun row=>by
   induction row with
   | nil=>exact⟨rfl,rfl⟩
   | cons x row ih=>exact⟨by rw [List.map_cons,I.doks,ih.1];rfl,by rw [List.map_cons,I.deps,ih.2];rfl⟩
  refine⟨?_,?_⟩
  ·rw [List.map_cons,I.doks,ih.1]
   simp only [zvg,I.dok,I.doks,(hi p.2).1]
   rfl
  ·rw [List.map_cons,I.deps]
   have h1:I.dep (zvg z p)<=50:=by simp only [zvg,I.dep,I.deps,(hi p.2).2];decide
   have:=ih.2
   omega
theorem step_dok {z:Str}{p:Str×List Int}:(zvg z p).dok=true:=by
 have:=(ztg (z:=z) (L:=[p])).1
 rw [List.map_cons,List.map_nil,I.doks,Bool.and_eq_true] at this
 exact this.1
theorem dsteps_ok {z:Str}{r:Ru}(hl:r.leaves.length<=1000){Q:T->Prop}(q:∀ L:List (Str×List Int),L.Nodup->L.length<=2000->(∀ p∈L,Ru.rd p.1 p.2∈r.leaves)->Q (.li (L.map (zvg z)))):W1 (zod [.im (.str z),.im (tRu r)]) Q:=by
 refine runP_ok' [some ⟨.ow,.im (.str z)⟩,some ⟨.ow,.im (tRu r)⟩,none,none,none,none] rfl rfl rfl ?_
 unfold zjd
 and_intros
 refine zhk (fun L:List (Str×List Int)=>[some ⟨.ow,.im (.str z)⟩,some ⟨.ow,.im (tRu r)⟩,some ⟨.ow,.li (L.map (zvg z))⟩,none,none,none]) (fun j L=>L.Nodup/\L.length<=j/\∀ p∈L,Ru.rd p.1 p.2∈r.leaves) ?_
 and_intros
 refine preads_ok hl fun R hR hRl=>?_
 refine⟨R.map tR2,rfl,by bv_omega,[],by bv_omega,⟨List.nodup_nil,Nat.le_refl _,by simp⟩,fun j x' L hx' ⟨hn,hLl,hLr⟩=>?_,fun L ⟨hn,hLl,hLr⟩=>?_⟩
 ·rw [List.getElem?_map] at hx'
  cases e:R[j]? with
  | none=>rw [e] at hx';cases hx'
  | some p=>
   rw [e] at hx';cases hx'
   have hj:=(List.getElem?_eq_some_iff.mp e).1
   have hp:=hRl p (ymG e)
   and_intros
   refine w_if ?_
   and_intros
   refine p_ninL (i:=zvg z p) (is:=L.map (zvg z)) ⟨step_dok,ztg.1,ztg.2⟩ ?_
   and_intros
   clear_value h
   ·and_intros
    refine zhc (is:=L.map (zvg z)) (i:=zvg z p) (by simp;rw [sizeLine_eq];omega) ?_
    ac_nf
    and_intros
    refine⟨L++[p],?_,?_,by simp;omega,zja hLr hp⟩
    ·rw [List.map_append]
     bv_omega
    ·rw [List.nodup_append]
     refine⟨hn,by simp,fun a ha b hb e=>?_⟩
     rw [ysM hb] at e
     subst e
     exact h (List.mem_map.mpr ⟨_,ha,rfl⟩)
   ·and_intros
    exact⟨L,by bv_omega,hn,by omega,hLr⟩
 ·and_intros
  rw [List.length_map] at hLl
  exact q L hn (by omega) hLr
theorem cover {α:Type}[DecidableEq α]:∀ {L M:List α},L.Nodup->(∀ x∈L,x∈M)->L.length<=M.length
 | [],_,_,_=>Nat.zero_le _
 | a::L,M,hn,h=>by
  obtain⟨h1,h2⟩:=List.nodup_cons.mp hn
  have ha:=h a ymS
  have:=cover (L:=L) (M:=M.erase a) h2 fun x hx=>by
   have:x≠a:=fun z=>h1 (z ▸ hx)
   exact (List.mem_erase_of_ne this).mpr (h x (ymC _ hx))
  rw [List.length_erase_of_mem ha] at this
  have:1<=M.length:=List.length_pos_of_mem ha
  rw [List.length_cons];omega
theorem stepsof_ok {w wh:Int}{ds:List (Str×Ru)}{n:Nat}(hd:ds.length<=6)(h:∀ p∈ds,p.2.leaves.length<=1000/\Cov n p.2.leaves)(hn:n * ds.length<=16){Q:T->Prop}(q:∀ is:List I,is.length<=16->Q (.im (.tup is))):W1 (zaf [.im (zkf w wh ds)]) Q:=by
 refine runP_ok' [some ⟨.ow,.im (zkf w wh ds)⟩] rfl rfl rfl ?_
 unfold zwe
 and_intros
 refine w_comp2 (zzm ?_)
 rw [zkf]
 and_intros
 refine w1 (x:=(ds.map zyc).map fun i=>⟨.ow,.im i⟩) rfl (gu (by bv_omega) ⟨fun j acc ρ=>ρ = [some ⟨.ow,.im (zkf w wh ds)⟩]/\∃ is:List I,acc=is.map T.im/\is.length<=n * j,⟨rfl,[],rfl,Nat.zero_le _⟩,?_,?_⟩)
 ·rintro j r acc ρ hr ⟨rfl,is,rfl,hil⟩
  obtain⟨x,hx,rfl⟩:=zxb hr
  obtain⟨p,hp,rfl⟩:=zxb hx
  have hj:=(List.getElem?_eq_some_iff.mp hp).1
  obtain⟨hpl,L0,hL0,hcov⟩:=h p (ymG hp)
  have hnj:n * (j+1)<=16:=Nat.le_trans (Nat.mul_le_mul_left n hj) hn
  and_intros
  refine zzm ?_
  and_intros
  refine dsteps_ok hpl fun L hLn hLl hLr=>?_
  have hc:L.length<=n:=Nat.le_trans (cover hLn fun p hp=>hcov p.1 p.2 (hLr p hp)) hL0
  have hs16:is.length+L.length<=n * (j+1):=by rw [Nat.mul_succ];omega
  refine w1 (x:=(L.map (zvg p.1)).map fun i=>⟨.ow,.im i⟩) rfl (gu (by bv_omega) ⟨by simp;rw [sizeLine_eq];omega,?_⟩)
  refine comp_self _ (fun x=>?_) _ ⟨by bv_omega,is++L.map (zvg p.1),by simp,by simp;omega⟩
  and_intros
  exact⟨rfl,by bv_omega⟩
 ·rintro acc ρ ⟨rfl,is,rfl,hil⟩
  rw [List.length_map,List.length_map] at hil
  refine⟨by rw [List.length_map,sizeLine_eq];omega,?_⟩
  rw [mkLst_im]
  and_intros
  exact q is (by omega)
theorem house_looked {w wh:Int}{ds:List (Str×Ru)}(h:HouseOk 1000 w wh ds){Q:T->Prop}(q:Q (.im (.bl true))):W1 (zqd [.im (zkf w wh ds)]) Q:=by
 obtain⟨a1,a2,a3,a4,a5,a6,a7,a8,n,a9,a10⟩:=h
 refine runP_ok' [some ⟨.ow,.im (zkf w wh ds)⟩,none,none,none,none,none,none,none] rfl rfl rfl ?_
 unfold zld
 and_intros
 refine frame_ok (is:=ds.map zyc) a1 a2 a3 a4 (by simpa using a5) (by simpa using a6) ?_
 and_intros
 refine zoc (fun _:Unit=>[some ⟨.ow,.im (zkf w wh ds)⟩,some ⟨.ow,.im (.int w)⟩,some ⟨.ow,.im (.int wh)⟩,some ⟨.ow,.im (.tup (ds.map zyc))⟩,none,none,none,none]) I.str (fun j _ L=>L=(ds.take j).map (·.1)) ?_
 and_intros
 refine⟨ds.map zyc,rfl,by simp;rw [sizeLine_eq];omega,by bv_omega,(),by bv_omega,rfl,fun j x' _ L hx' hL=>?_,fun _ L hL=>?_⟩
 ·rw [List.getElem?_map] at hx'
  cases e:ds[j]? with
  | none=>rw [e] at hx';cases hx'
  | some p=>
   rw [e] at hx';cases hx'
   and_intros
   exact⟨p.1,(),rfl,by bv_omega,by rw [hL,List.take_succ,e];simp⟩
 rw [List.length_map,List.take_of_length_le (Nat.le_refl _)] at hL
 subst hL
 and_intros
 refine zin (wi_enum ?_)
 and_intros
 refine⟨_,ds.map zyc,rfl,gu ?_ ⟨fun j ρ=>ρ = [some ⟨.ow,.im (zkf w wh ds)⟩,some ⟨.ow,.im (.int w)⟩,some ⟨.ow,.im (.int wh)⟩,some ⟨.ow,.im (.tup (ds.map zyc))⟩,some ⟨.ow,.li ((ds.map (·.1)).map .str)⟩,none,none,none],by bv_omega,?_,?_⟩⟩
 ·rw [Bool.and_eq_true]
  refine⟨by bv_omega,zlj fun r hr=>?_⟩
  obtain⟨i,hi⟩:=List.mem_iff_getElem?.mp hr
  rw [zgg] at hi
  cases e:(ds.map zyc)[i]? with
  | none=>rw [e] at hi;cases hi
  | some x=>rw [e] at hi;cases hi;rfl
 ·rintro i r ρ hr rfl
  rw [zgg,List.getElem?_map] at hr
  cases e:ds[i]? with
  | none=>rw [e] at hr;cases hr
  | some p=>
   rw [e] at hr
   simp only [Option.map_some,Option.some.injEq,Nat.zero_add] at hr
   subst hr
   have hp:=ymG e
   obtain⟨d1,d2,d3,d4⟩:=a10 p hp
   have hi:=(List.getElem?_eq_some_iff.mp e).1
   rw [zyc]
   and_intros
   refine w_if ?_
   and_intros
   refine isname_ok (a8 p.1 (List.mem_map.mpr ⟨p,hp,rfl⟩)) ?_
   and_intros
   refine spF ?_
   and_intros
   rw [zbi (by omega),Int.toNat_natCast,← List.map_take]
   refine p_inL (i:=.str p.1) (is:=((ds.map (·.1)).take i).map .str) ⟨rfl,zug.1,zug.2⟩ ?_
   and_intros
   clear_value c
   ·exfalso
    obtain⟨z,hz,ez⟩:=List.mem_map.mp c
    cases ez
    obtain⟨k,hk⟩:=List.mem_iff_getElem?.mp hz
    have hki:k<i:=by have:=(List.getElem?_eq_some_iff.mp hk).1;simp at this;omega
    rw [List.getElem?_take_of_lt hki] at hk
    have h2:(ds.map (·.1))[i]?=some p.1:=by rw [List.getElem?_map,e];rfl
    have h3:=List.getElem?_eq_some_iff.mp hk
    have h4:=List.getElem?_eq_some_iff.mp h2
    exact (List.pairwise_iff_getElem.mp a7 k i h3.1 h4.1 hki) (h3.2.trans h4.2.symm)
   and_intros
   refine rule_ok (r:=p.2) (ns:=ds.map (·.1)) d2 (by omega) d3 ?_
   and_intros
   first | rfl | bv_omega
 ·rintro ρ rfl
  and_intros
  refine w_if ?_
  and_intros
  refine stepsof_ok a6 (fun p hp=>⟨(a10 p hp).2.1,(a10 p hp).2.2.2⟩) a9 fun is his=>?_
  and_intros
  clear_value c
  ·exact absurd c (by omega)
  ·and_intros
   exact q
theorem k04_law {ns:List Int}(hn:ns.length<=63):W1 (r_l_law [.li (ns.map .int)]) fun t=>t = .im (.bl true):=by
 refine runP_ok' [some ⟨.vw none none,.li (ns.map .int)⟩,none,none,none] rfl rfl rfl ?_
 unfold zfl
 and_intros
 refine zxc (fun hs:List (Int×Int×List (Str×Ru))=>[some ⟨.vw none none,.li (ns.map .int)⟩,some ⟨.ow,.li (hs.map tH)⟩,none,none]) (fun j hs=>hs.length=5 * j/\∀ h∈hs,HouseOk 20 h.1 h.2.1 h.2.2) ?_
 and_intros
 rw [List.length_map]
 generalize hc:(if (if (6:Int)<(ns.length:Int) then 6 else (ns.length:Int)) > 2 then (if (6:Int)<(ns.length:Int) then 6 else (ns.length:Int)) else 2)=c
 have hc6:2<=c/\c<=6:=by subst hc;split<;>split<;>omega
 refine⟨⟨by omega,by omega⟩,[],by bv_omega,⟨rfl,by simp⟩,fun j hs hj ⟨hl,hh⟩=>?_,fun hs ⟨hl,hh⟩=>?_⟩
 ·and_intros
  refine feed_ok (ns:=ns) (by omega) (by omega) (by omega) fun f=>?_
  and_intros
  refine some_ok fun hs2 f h5 hh2=>?_
  and_intros
  refine p_extL (is:=hs.map tH) (js:=hs2.map tH) (by simp;rw [sizeLine_eq];omega) ?_
  ac_nf
  and_intros
  refine⟨hs++hs2,?_,by simp;omega,fun h hm=>(yaM hm).elim (hh h) (hh2 h)⟩
  rw [List.map_append]
  try bv_omega
 and_intros
 refine zhk (fun _:Unit=>[some ⟨.vw none none,.li (ns.map .int)⟩,some ⟨.ow,.li (hs.map tH)⟩,none,none]) (fun _ _=>True) ?_
 and_intros
 rw [zbi (by omega),← List.map_take]
 refine zqk (is:=hs.map tH) (js:=(hs.take (2:Int).toNat).map tH) (by simp;rw [sizeLine_eq];omega) ?_
 rw [← List.map_append]
 refine⟨(hs++hs.take (2:Int).toNat).map tH,rfl,by bv_omega,(),by bv_omega,trivial,fun j x' _ hx' _=>?_,fun _ _=>?_⟩
 ·rw [List.getElem?_map] at hx'
  cases e:(hs++hs.take (2:Int).toNat)[j]? with
  | none=>rw [e] at hx';cases hx'
  | some h=>
   rw [e] at hx';cases hx'
   have hm:h∈hs:=(yaM (ymG e)).elim id fun z=>List.mem_of_mem_take z
   and_intros
   refine w_if ?_
   and_intros
   refine house_looked ((hh h hm).mono (by omega)) ?_
   and_intros
   refine spF ?_
   and_intros
   exact⟨(),by bv_omega,trivial⟩
 ·and_intros
  rfl
end L2
namespace K04
open PySem PySem.Spec PyProof.Rows L2
noncomputable def top (i:Nat):Stmt:=PySem.Challenge.pw_clockhouse_k04_houses_let_by.main.body.getD i (.Pass ⟨0,0,0,0⟩)
noncomputable abbrev zyi:Stmt:=top 8
noncomputable abbrev zle:Stmt:=top 9
noncomputable abbrev zhh:Stmt:=top 10
noncomputable abbrev ztl:Stmt:=top 11
noncomputable abbrev zif:Stmt:=top 19
noncomputable abbrev zhf:Stmt:=top 20
noncomputable abbrev zdg:Stmt:=top 21
noncomputable abbrev zgf:Stmt:=top 22
noncomputable abbrev zih:Stmt:=top 23
noncomputable abbrev zzf:Stmt:=top 25
noncomputable abbrev zcg:Stmt:=top 26
noncomputable abbrev zef:Stmt:=top 27
noncomputable abbrev zgh:Stmt:=top 28
noncomputable abbrev zwc:Stmt:=top 29
noncomputable abbrev zcc:Stmt:=top 30
noncomputable abbrev zdc:Stmt:=top 31
noncomputable abbrev zfc:Stmt:=top 32
noncomputable abbrev zib:Stmt:=top 33
noncomputable abbrev zec:Stmt:=top 34
noncomputable abbrev zff:Stmt:=top 35
noncomputable abbrev zcf:Stmt:=top 36
noncomputable abbrev zdf:Stmt:=top 37
noncomputable abbrev zag:Stmt:=top 38
noncomputable abbrev zfh:Stmt:=top 39
noncomputable abbrev zbg:Stmt:=top 40
noncomputable abbrev s_law:Stmt:=top 41
structure GT (K:yF)(mg:Str->Option Value):Prop where
 triv:True
 g_LEAST_WHEEL:Glob mg "LEAST_WHEEL" (.int 2)
 g_LETTERS:Glob mg "LETTERS" (.str "abcdefghijklmnopqrstuvwxyz")
 g_LONGEST_NAME:Glob mg "LONGEST_NAME" (.int 8)
 g_MOST_DESKS:Glob mg "MOST_DESKS" (.int 6)
 g_MOST_NUMBER:Glob mg "MOST_NUMBER" (.int 1000000000)
 g_MOST_STEPS:Glob mg "MOST_STEPS" (.int 16)
 g_MOST_WAYS:Glob mg "MOST_WAYS" (.int 3)
 g_MOST_WHEEL:Glob mg "MOST_WHEEL" (.int 1000000000)
 g_NO_NAMES:∃ a,Glob mg "NO_NAMES" (.ref a)/\TupAt K a [.str "min",.str "max",.str "rest",.str "less",.str "if"]
end K04
namespace K04
open PySem PySem.Spec PyProof.Rows L2
structure Adr (mg:Str->Option Value)(K:yF):Prop where
 d0:Def0 K mg "_law_take" zcg ["_law_feed_here","_law_many"]
 d1:Def0 K mg "_law_turned_row" zfc ["_law_row_here","_law_way","_law_signs"]
 d2:Def0 K mg "_law_row" zgh ["_law_feed_here","_law_ways"]
 d3:Def0 K mg "_law_opposed_reads" zib ["_law_feed_here","_law_ways","_law_many"]
 d4:Def0 K mg "_law_free_reads" zcc ["_law_feed_here","_law_ways","_law_many"]
 d5:Def0 K mg "_law_back_row" zwc ["_law_feed_here","_law_ways"]
 d6:Def0 K mg "_law_late_reads" zdc ["_law_feed_here","_law_ways","_law_many"]
 d7:Def0 K mg "_law_ring_reads" zec ["_law_feed_here","_law_ways","_law_many"]
 d8:Def0 K mg "_law_reads" zff ["_law_feed_here"]
 d9:Def0 K mg "_law_names" zef ["_law_feed_here","_law_many"]
 d10:Def0 K mg "_law_grown" zcf ["_law_feed_here","_law_leaves"]
 d11:Def0 K mg "_law_house" zdf ["_law_feed_here"]
 d12:Def0 K mg "_law_full" zag ["_law_feed_here","_law_more"]
 d13:Def0 K mg "_law_led" zfh ["_law_rule","_law_times"]
 d14:Def0 K mg "_law_some" zbg ["_law_feed_here"]
 d15:Def0 K mg "look_frame" zhf ["ways","wheel","desks"]
 d16:Def0 K mg "inner_parts" zle ["part"]
 d17:Def0 K mg "parts_of" zhh ["rule"]
 d18:Def0 K mg "look_rule" zdg ["name","rule","names","ways"]
 d19:Def0 K mg "reads" ztl ["rule"]
 d20:Def0 K mg "desk_steps" zgf ["name","rule"]
 d21:Def0 K mg "steps_of" zih ["house"]
 d22:Def0 K mg "is_name" zyi ["text"]
 d23:Def0 K mg "look_house" zif ["house"]
 d24:Def0 K mg "_law_feed" zzf ["_law_script","_law_k"]
 d25:Def0 K mg "law" s_law ["_law_script"]
 T:Bi mg
 G:GT K mg
theorem adr_less (mg:Str->Option Value)(K:yF)(a:Addr)(A:Adr mg K)(l:LsAt K a):Adr mg (less K a):=
 ⟨A.d0.less l,A.d1.less l,A.d2.less l,A.d3.less l,A.d4.less l,A.d5.less l,A.d6.less l,A.d7.less l,A.d8.less l,A.d9.less l,A.d10.less l,A.d11.less l,A.d12.less l,A.d13.less l,A.d14.less l,A.d15.less l,A.d16.less l,A.d17.less l,A.d18.less l,A.d19.less l,A.d20.less l,A.d21.less l,A.d22.less l,A.d23.less l,A.d24.less l,A.d25.less l,A.T,⟨trivial,A.G.g_LEAST_WHEEL,A.G.g_LETTERS,A.G.g_LONGEST_NAME,A.G.g_MOST_DESKS,A.G.g_MOST_NUMBER,A.G.g_MOST_STEPS,A.G.g_MOST_WAYS,A.G.g_MOST_WHEEL,GTup.less A.G.g_NO_NAMES l⟩⟩
noncomputable abbrev pm0:Value:=(vs "law_clockhouse_k04_houses_let_by" 347)
noncomputable abbrev pm1:Value:=(vs "clockhouse.houses" 289)
noncomputable abbrev pm2:Value:=(vs "clockhouse.rules" 248)
noncomputable def KF (P:Params):yF:=[(3,oD [(eO P "__name__" 165 (vs "law_clockhouse_k04_houses_let_by" 347)),(eO P "__doc__" 166 .none),(eO P "__package__" 167 .none),(eO P "__loader__" 168 (Value.builtin "__main__.__loader__#opaque")),(eO P "__spec__" 169 .none),(eO P "__annotations__" 170 (vr 6)),(eO P "__builtins__" 171 (vr 4)),(eO P "__file__" 173 (vs "/claim/cut.py" 172)),(eO P "__cached__" 174 .none),(eO P "kept" 195 (vr 21)),(eO P "HouseError" 220 (vr 38)),(eO P "NoHouse" 247 (vr 58)),(eO P "LETTERS" 251 (vs "abcdefghijklmnopqrstuvwxyz" 250)),(eO P "LONGEST_NAME" 253 (Value.int 8 252)),(eO P "NO_NAMES" 259 (vr 61)),(eO P "is_name" 265 (vr 66)),(eO P "inner_parts" 272 (vr 73)),(eO P "parts_of" 282 (vr 80)),(eO P "reads" 288 (vr 85)),(eO P "MOST_WAYS" 292 (Value.int 3 291)),(eO P "LEAST_WHEEL" 294 (Value.int 2 293)),(eO P "MOST_WHEEL" 296 (Value.int 1000000000 295)),(eO P "MOST_DESKS" 298 (Value.int 6 297)),(eO P "MOST_NUMBER" 300 (Value.int 1000000000 299)),(eO P "MOST_STEPS" 302 (Value.int 16 301)),(eO P "look_house" 308 (vr 90)),(eO P "look_frame" 317 (vr 97)),(eO P "look_rule" 328 (vr 104)),(eO P "desk_steps" 340 (vr 111)),(eO P "steps_of" 346 (vr 116)),(eO P "_law_feed" 358 (vr 123)),(eO P "_law_take" 368 (vr 130)),(eO P "_law_names" 374 (vr 135)),(eO P "_law_row" 380 (vr 140)),(eO P "_law_back_row" 386 (vr 145)),(eO P "_law_free_reads" 392 (vr 150)),(eO P "_law_late_reads" 398 (vr 155)),(eO P "_law_turned_row" 409 (vr 162)),(eO P "_law_opposed_reads" 415 (vr 167)),(eO P "_law_ring_reads" 421 (vr 172)),(eO P "_law_reads" 432 (vr 179)),(eO P "_law_grown" 443 (vr 186)),(eO P "_law_house" 449 (vr 191)),(eO P "_law_full" 455 (vr 196)),(eO P "_law_led" 461 (vr 201)),(eO P "_law_some" 467 (vr 206)),(eO P "law" 477 (vr 213))] 47),
 (130,oF "_law_take" zcg pm0 129),
 (129,oc "_law_take" 359 91 2 124 (some (126,127)) 128 366),
 (162,oF "_law_turned_row" zfc pm0 161),
 (161,oc "_law_turned_row" 399 135 3 156 (some (158,159)) 160 407),
 (140,oF "_law_row" zgh pm0 139),
 (139,oc "_law_row" 375 112 2 136 none 138 378),
 (167,oF "_law_opposed_reads" zib pm0 166),
 (166,oc "_law_opposed_reads" 410 140 3 163 none 165 413),
 (150,oF "_law_free_reads" zcc pm0 149),
 (149,oc "_law_free_reads" 387 120 3 146 none 148 390),
 (145,oF "_law_back_row" zwc pm0 144),
 (144,oc "_law_back_row" 381 116 2 141 none 143 384),
 (155,oF "_law_late_reads" zdc pm0 154),
 (154,oc "_law_late_reads" 393 126 3 151 none 153 396),
 (172,oF "_law_ring_reads" zec pm0 171),
 (171,oc "_law_ring_reads" 416 154 3 168 none 170 419),
 (179,oF "_law_reads" zff pm0 178),
 (178,oc "_law_reads" 422 166 1 173 (some (175,176)) 177 430),
 (135,oF "_law_names" zef pm0 134),
 (134,oc "_law_names" 369 99 2 131 none 133 372),
 (186,oF "_law_grown" zcf pm0 185),
 (185,oc "_law_grown" 433 178 2 180 (some (182,183)) 184 441),
 (191,oF "_law_house" zdf pm0 190),
 (190,oc "_law_house" 444 189 1 187 none 189 447),
 (196,oF "_law_full" zag pm0 195),
 (195,oc "_law_full" 450 201 2 192 none 194 453),
 (201,oF "_law_led" zfh pm0 200),
 (200,oc "_law_led" 456 209 2 197 none 199 459),
 (206,oF "_law_some" zbg pm0 205),
 (205,oc "_law_some" 462 216 1 202 none 204 465),
 (97,oF "look_frame" zhf pm1 96),
 (96,oc "look_frame" 309 56 3 91 (some (93,94)) 95 315),
 (73,oF "inner_parts" zle pm2 72),
 (72,oc "inner_parts" 266 22 1 67 (some (69,70)) 71 270),
 (80,oF "parts_of" zhh pm2 79),
 (79,oc "parts_of" 273 28 1 74 (some (76,77)) 78 280),
 (104,oF "look_rule" zdg pm1 103),
 (103,oc "look_rule" 318 63 4 98 (some (100,101)) 102 326),
 (85,oF "reads" ztl pm2 84),
 (84,oc "reads" 283 36 1 81 none 83 286),
 (111,oF "desk_steps" zgf pm1 110),
 (110,oc "desk_steps" 329 71 2 105 (some (107,108)) 109 338),
 (116,oF "steps_of" zih pm1 115),
 (115,oc "steps_of" 341 78 1 112 none 114 344),
 (66,oF "is_name" zyi pm2 65),
 (65,oc "is_name" 260 18 1 62 none 64 263),
 (90,oF "look_house" zif pm1 89),
 (89,oc "look_house" 303 45 1 86 none 88 306),
 (123,oF "_law_feed" zzf pm0 122),
 (122,oc "_law_feed" 349 81 2 117 (some (119,120)) 121 356),
 (213,oF "law" s_law pm0 212),
 (212,oc "law" 468 223 1 207 (some (209,210)) 211 475),
 (61,oT [(vs "min" 254),(vs "max" 255),(vs "rest" 256),(vs "less" 257),(vs "if" 258)])]
noncomputable def KL:List Str:=["kept","HouseError","NoHouse","LETTERS","LONGEST_NAME","NO_NAMES","is_name","inner_parts","parts_of","reads","MOST_WAYS","LEAST_WHEEL","MOST_WHEEL","MOST_DESKS","MOST_NUMBER","MOST_STEPS","look_house","look_frame","look_rule","desk_steps","steps_of","_law_feed","_law_take","_law_names","_law_row","_law_back_row","_law_free_reads","_law_late_reads","_law_turned_row","_law_opposed_reads","_law_ring_reads","_law_reads","_law_grown","_law_house","_law_full","_law_led","_law_some"].map Str.ofString
noncomputable def KH:PySem.W.Hook:=PySem.W.kHook KF [3,130,129,162,161,140,139,167,166,150,149,145,144,155,154,172,171,179,178,135,134,186,185,191,190,196,195,201,200,206,205,97,96,73,72,80,79,104,103,85,84,111,110,116,115,66,65,90,89,123,122,213,212,61] (fun _=>rfl)
noncomputable def KQ:Program:=PySem.W.view PySem.Challenge.pw_clockhouse_k04_houses_let_by [41]
theorem left:PySem.W.LeftO PySem.Challenge.pw_clockhouse_k04_houses_let_by KQ KL (fun s=>PySem.W.xlAt KQ [] s && PySem.W.recOk [] s) KH.obs KH.val 4000:=fun w=>by kernel_rfl
theorem adr0 (w:World)(mg:Str->Option Value)(h:Heap)(X:(KF w.params).In h)(G:h.Ns mainGlobals mg):Adr mg (KF w.params):=
 ⟨Def0.mkO X G 130 pm0 129 (by2 fun _ _ _ _ _ _ _ _=>rfl),
   Def0.mkO X G 162 pm0 161 (by3 fun _ _ _ _ _ _ _ _ _=>rfl),
   Def0.mkO X G 140 pm0 139 (by2 fun _ _ _ _ _ _ _ _=>rfl),
   Def0.mkO X G 167 pm0 166 (by3 fun _ _ _ _ _ _ _ _ _=>rfl),
   Def0.mkO X G 150 pm0 149 (by3 fun _ _ _ _ _ _ _ _ _=>rfl),
   Def0.mkO X G 145 pm0 144 (by2 fun _ _ _ _ _ _ _ _=>rfl),
   Def0.mkO X G 155 pm0 154 (by3 fun _ _ _ _ _ _ _ _ _=>rfl),
   Def0.mkO X G 172 pm0 171 (by3 fun _ _ _ _ _ _ _ _ _=>rfl),
   Def0.mkO X G 179 pm0 178 (by1 fun _ _ _ _ _ _ _=>rfl),
   Def0.mkO X G 135 pm0 134 (by2 fun _ _ _ _ _ _ _ _=>rfl),
   Def0.mkO X G 186 pm0 185 (by2 fun _ _ _ _ _ _ _ _=>rfl),
   Def0.mkO X G 191 pm0 190 (by1 fun _ _ _ _ _ _ _=>rfl),
   Def0.mkO X G 196 pm0 195 (by2 fun _ _ _ _ _ _ _ _=>rfl),
   Def0.mkO X G 201 pm0 200 (by2 fun _ _ _ _ _ _ _ _=>rfl),
   Def0.mkO X G 206 pm0 205 (by1 fun _ _ _ _ _ _ _=>rfl),
   Def0.mkO X G 97 pm1 96 (by3 fun _ _ _ _ _ _ _ _ _=>rfl),
   Def0.mkO X G 73 pm2 72 (by1 fun _ _ _ _ _ _ _=>rfl),
   Def0.mkO X G 80 pm2 79 (by1 fun _ _ _ _ _ _ _=>rfl),
   Def0.mkO X G 104 pm1 103 (by4 fun _ _ _ _ _ _ _ _ _ _=>rfl),
   Def0.mkO X G 85 pm2 84 (by1 fun _ _ _ _ _ _ _=>rfl),
   Def0.mkO X G 111 pm1 110 (by2 fun _ _ _ _ _ _ _ _=>rfl),
   Def0.mkO X G 116 pm1 115 (by1 fun _ _ _ _ _ _ _=>rfl),
   Def0.mkO X G 66 pm2 65 (by1 fun _ _ _ _ _ _ _=>rfl),
   Def0.mkO X G 90 pm1 89 (by1 fun _ _ _ _ _ _ _=>rfl),
   Def0.mkO X G 123 pm0 122 (by2 fun _ _ _ _ _ _ _ _=>rfl),
   Def0.mkO X G 213 pm0 212 (by1 fun _ _ _ _ _ _ _=>rfl),
   ⟨bN X G,bN X G,bN X G,bN X G,bN X G,bN X G,bN X G,bN X G,bN X G,bN X G,bN X G,bN X G,bN X G,bN X G,bN X G,bN X G,bN X G,bN X G,bN X G,bN X G,bN X G⟩,⟨trivial,Glob.mk' X G (u:=(Value.int 2 293)) (by kernel_rfl) ⟨_,rfl⟩,Glob.mk' X G (u:=(vs "abcdefghijklmnopqrstuvwxyz" 250)) (by kernel_rfl) ⟨_,rfl⟩,Glob.mk' X G (u:=(Value.int 8 252)) (by kernel_rfl) ⟨_,rfl⟩,Glob.mk' X G (u:=(Value.int 6 297)) (by kernel_rfl) ⟨_,rfl⟩,Glob.mk' X G (u:=(Value.int 1000000000 299)) (by kernel_rfl) ⟨_,rfl⟩,Glob.mk' X G (u:=(Value.int 16 301)) (by kernel_rfl) ⟨_,rfl⟩,Glob.mk' X G (u:=(Value.int 3 291)) (by kernel_rfl) ⟨_,rfl⟩,Glob.mk' X G (u:=(Value.int 1000000000 295)) (by kernel_rfl) ⟨_,rfl⟩,GTup.mkO X G 61 [(vs "min" 254),(vs "max" 255),(vs "rest" 256),(vs "less" 257),(vs "if" 258)] (by kernel_rfl) (by kernel_rfl) (by decide) (by repeat' first | exact .nil | refine .cons ⟨_,rfl⟩ ?_)⟩⟩
theorem c0:FnScope ["_law_feed_here","_law_many","_law_digit","_law_one"] ["_law_feed_here","_law_many"] (zm zcg):=⟨rfl,rfl,rfl,by decide +kernel,rfl,by decide +kernel,by decide +kernel⟩
theorem c1:FnScope ["_law_row_here","_law_way","_law_signs","_law_found","_law_k"] ["_law_row_here","_law_way","_law_signs"] (zm zfc):=⟨rfl,rfl,rfl,by decide +kernel,rfl,by decide +kernel,by decide +kernel⟩
theorem c2:FnScope ["_law_feed_here","_law_ways"] ["_law_feed_here","_law_ways"] (zm zgh):=⟨rfl,rfl,rfl,by decide +kernel,rfl,by decide +kernel,by decide +kernel⟩
theorem c3:FnScope ["_law_feed_here","_law_ways","_law_many","_law_far","_law_some_here","_law_way","_law_signs","_law_looks","_law_x","_law_other","_law_row_here"] ["_law_feed_here","_law_ways","_law_many"] (zm zib):=⟨rfl,rfl,rfl,by decide +kernel,rfl,by decide +kernel,by decide +kernel⟩
theorem c4:FnScope ["_law_feed_here","_law_ways","_law_many","_law_looks","_law_x","_law_k"] ["_law_feed_here","_law_ways","_law_many"] (zm zcc):=⟨rfl,rfl,rfl,by decide +kernel,rfl,by decide +kernel,by decide +kernel⟩
theorem c5:FnScope ["_law_feed_here","_law_ways","_law_at","_law_more"] ["_law_feed_here","_law_ways"] (zm zwc):=⟨rfl,rfl,rfl,by decide +kernel,rfl,by decide +kernel,by decide +kernel⟩
theorem c6:FnScope ["_law_feed_here","_law_ways","_law_many","_law_looks","_law_x","_law_k"] ["_law_feed_here","_law_ways","_law_many"] (zm zdc):=⟨rfl,rfl,rfl,by decide +kernel,rfl,by decide +kernel,by decide +kernel⟩
theorem c7:FnScope ["_law_feed_here","_law_ways","_law_many","_law_looks","_law_long","_law_rest","_law_k","_law_row_here"] ["_law_feed_here","_law_ways","_law_many"] (zm zec):=⟨rfl,rfl,rfl,by decide +kernel,rfl,by decide +kernel,by decide +kernel⟩
theorem c8:FnScope ["_law_feed_here","_law_form","_law_wide","_law_ways","_law_many"] ["_law_feed_here"] (zm zff):=⟨rfl,rfl,rfl,by decide +kernel,rfl,by decide +kernel,by decide +kernel⟩
theorem c9:FnScope ["_law_feed_here","_law_many","_law_letters","_law_stem","_law_first","_law_at","_law_found","_law_k","_law_name"] ["_law_feed_here","_law_many"] (zm zef):=⟨rfl,rfl,rfl,by decide +kernel,rfl,by decide +kernel,by decide +kernel⟩
theorem c10:FnScope ["_law_feed_here","_law_leaves","_law_found","_law_at","_law_sign"] ["_law_feed_here","_law_leaves"] (zm zcf):=⟨rfl,rfl,rfl,by decide +kernel,rfl,by decide +kernel,by decide +kernel⟩
theorem c11:FnScope ["_law_feed_here","_law_ways","_law_looks","_law_wheel","_law_names_here","_law_desks","_law_x","_law_leaves","_law_k","_law_number"] ["_law_feed_here"] (zm zdf):=⟨rfl,rfl,rfl,by decide +kernel,rfl,by decide +kernel,by decide +kernel⟩
theorem c12:FnScope ["_law_feed_here","_law_more","_law_names_here","_law_at","_law_sign","_law_desks","_law_x","_law_leaves"] ["_law_feed_here","_law_more"] (zm zag):=⟨rfl,rfl,rfl,by decide +kernel,rfl,by decide +kernel,by decide +kernel⟩
theorem c13:FnScope ["_law_rule","_law_times","_law_begun"] ["_law_rule","_law_times"] (zm zfh):=⟨rfl,rfl,rfl,by decide +kernel,rfl,by decide +kernel,by decide +kernel⟩
theorem c14:FnScope ["_law_feed_here","_law_form","_law_times","_law_ways","_law_wheel","_law_desks","_law_found"] ["_law_feed_here"] (zm zbg):=⟨rfl,rfl,rfl,by decide +kernel,rfl,by decide +kernel,by decide +kernel⟩
theorem c15:FnScope ["ways","wheel","desks"] ["ways","wheel","desks"] (zm zhf):=⟨rfl,rfl,rfl,by decide +kernel,rfl,by decide +kernel,by decide +kernel⟩
theorem c16:FnScope ["part"] ["part"] (zm zle):=⟨rfl,rfl,rfl,by decide +kernel,rfl,by decide +kernel,by decide +kernel⟩
theorem c17:FnScope ["rule","parts","due","part"] ["rule"] (zm zhh):=⟨rfl,rfl,rfl,by decide +kernel,rfl,by decide +kernel,by decide +kernel⟩
theorem c18:FnScope ["name","rule","names","ways","part"] ["name","rule","names","ways"] (zm zdg):=⟨rfl,rfl,rfl,by decide +kernel,rfl,by decide +kernel,by decide +kernel⟩
theorem c19:FnScope ["rule"] ["rule"] (zm ztl):=⟨rfl,rfl,rfl,by decide +kernel,rfl,by decide +kernel,by decide +kernel⟩
theorem c20:FnScope ["name","rule","steps","other","row","step"] ["name","rule"] (zm zgf):=⟨rfl,rfl,rfl,by decide +kernel,rfl,by decide +kernel,by decide +kernel⟩
theorem c21:FnScope ["house"] ["house"] (zm zih):=⟨rfl,rfl,rfl,by decide +kernel,rfl,by decide +kernel,by decide +kernel⟩
theorem c22:FnScope ["text"] ["text"] (zm zyi):=⟨rfl,rfl,rfl,by decide +kernel,rfl,by decide +kernel,by decide +kernel⟩
theorem c23:FnScope ["house","ways","wheel","desks","names","at","name","rule"] ["house"] (zm zif):=⟨rfl,rfl,rfl,by decide +kernel,rfl,by decide +kernel,by decide +kernel⟩
theorem c24:FnScope ["_law_script","_law_k","_law_cell","_law_own"] ["_law_script","_law_k"] (zm zzf):=⟨rfl,rfl,rfl,by decide +kernel,rfl,by decide +kernel,by decide +kernel⟩
theorem c25:FnScope ["_law_script","_law_houses","_law_k","_law_house_here"] ["_law_script"] (zm s_law):=⟨rfl,rfl,rfl,by decide +kernel,rfl,by decide +kernel,by decide +kernel⟩
section
variable  {P:Program}{W:World}{K:yF}{mg:Str->Option Value}{base:Heap}(A:Adr mg K)
include A
theorem v0:Has P W K mg base 1 "_law_take" ["_law_feed_here","_law_many"] (spI K 0 zn):=
 Def.qi A.d0.to c0 (m:=zvj) (zh (zub (zma za c_gt (q_ix za (zj 0) zg) zg (nomark _)) (zh (zx 2 (fun _=>c0.nd) (zvf za (q_ix za (zj 0) zg) (zj 1)))
  (zh (zpg (zrk za (q_ix za (zj 0) zg) (zj 1)) (qg_sub 0 (zj 0) zg))
  (zp (zha (zj 2))))) zta)
  (zh (zx 3 (fun _=>c0.nd) (zvf za (zhe za (q_ix za (zj 0) zg) zg) zg))
  (zh (zpg (zqa za (zvf za (zqa za (zhe za (zj 3) zg) zg) zg) zg) (qg_sub 0 (zj 0) zg))
  (zp (zha (zvf za (zrk za (zqa za (zhe za (zj 3) zg) (q_ix za (zj 0) zg)) zg) (zj 1))))))) (fun _=>rfl)
theorem v1:Has P W K mg base 1 "_law_turned_row" ["_law_row_here","_law_way","_law_signs"] (spP K zjc):=
 Def.qp A.d1.to c1 (m:=zid) (zh (zx 3 (fun _=>c1.nd) (zlb [] zd))
  (zh (zkc za (fun _=>PassesOwn.never) (zaa za A.T (zb (zvb za b_len A.T.b_len (zc 0 zd)) zd)) (zo 4 (fun _=>c1.nd)) (zwa [4] (zp (zra (zoe 3 [] za zbb (zj 3) (zb (zhe za (q_ix za (zj 0) (zvf za (zqa za (zj 4) (zj 1)) (zvb za b_len A.T.b_len (zc 0 zd)))) (q_ix za (zj 2) (zj 4))) zd))))))
  (zp (zha (q_ty za b_tuple A.T.b_tuple (zc 3 zd)))))) (fun _=>rfl)
theorem v2:Has P W K mg base 2 "_law_row" ["_law_feed_here","_law_ways"] (spI K 0 zbk):=
 Def.qi A.d2.to c2 (m:=zhl) (zh (zub (zma za c_eq (zca 0 za (v0 A) (zc 0 (zb zg zd))) zg (nomark _)) (zp (zha (zhe za (zda [] (zb zg zd)) (zj 1)))) zta)
  (zp (zha (q_ty za b_tuple A.T.b_tuple (zb (zvd (N':=["_law_feed_here","_law_ways","_law_k"]) (f:=[some 0,none,none]) za (fun _=>Blk.of (by kernel_rfl)) (zaa za A.T (zc 1 zd)) (zo 2 (fun _=>zyb (by kernel_rfl))) zsa (q_ix (CK.blk za) (zlb [] (zb zg (zb zg (zb (ztc (CK.blk za) zg zg) (zb zg (zb (ztc (CK.blk za) zg zg) zd)))))) (zca 0 (CK.blk za) (v0 A) (zc 0 (zb zg zd))))) zd))))) (fun _=>rfl)
theorem v3:Has P W K mg base 3 "_law_opposed_reads" ["_law_feed_here","_law_ways","_law_many"] (spI K 0 zac):=
 Def.qi A.d3.to c3 (m:=zwb) (zh (zx 3 (fun _=>c3.nd) (zqa za zg (zca 0 za (v0 A) (zc 0 (zb zg zd)))))
  (zh (zx 4 (fun _=>c3.nd) (zlb [] (zb (zda [] (zb zg (zb zg (zb (zda [3] (zb zg (zc 3 zd))) zd)))) (zb (zda [] (zb zg (zb zg (zb (zda [] (zb zg (zb (ztc za (ztc za zg zg) (zca 0 za (v0 A) (zc 0 (zb zg zd)))) zd))) zd)))) (zb (zda [] (zb zg (zb zg (zb (zda [] (zb (ztc za zg zg) (zb (ztc za (zca 0 za (v0 A) (zc 0 (zb zg zd))) zg) zd))) zd)))) zd)))))
  (zh (zra (zoe 4 [] za zbb (zj 4) (zb (zda [] (zb zg (zb zg (zb (zda [] (zb (ztc za zg (zca 0 za (v0 A) (zc 0 (zb zg zd)))) (zb zg zd))) zd)))) zd)))
  (zh (zub (zma za c_eq (zj 1) zg (nomark _)) (zh (zx 4 (fun _=>c3.nd) (zlb [] (zb (zda [] (zb zg (zb zg (zb (zda [3] (zb zg (zb zg (zc 3 zd)))) zd)))) (zb (zda [] (zb zg (zb zg (zb (zda [] (zb zg (zb zg (zb (ztc za zg zg) zd)))) zd)))) (zb (zda [] (zb zg (zb zg (zb (zda [] (zb zg (zb (ztc za zg zg) (zb zg zd)))) zd)))) (zb (zda [] (zb zg (zb zg (zb (zda [] (zb zg (zb zg (zb (zca 0 za (v0 A) (zc 0 (zb zg zd))) zd)))) zd)))) zd))))))
  (zp (zx 4 (fun _=>c3.nd) (zqa za (zj 4) (zlb [] (zb (zda [] (zb zg (zb zg (zb (zda [] (zb zg (zb (zqa za zg (zca 0 za (v0 A) (zc 0 (zb zg zd)))) (zb zg zd)))) zd)))) (zb (zda [] (zb zg (zb zg (zb (zda [] (zb (ztc za zg zg) (zb zg (zb zg zd)))) zd)))) (zb (zda [] (zb zg (zb zg (zb (zda [] (zb zg (zb zg (zb zg zd)))) zd)))) zd)))))))) zta)
  (zh (ztm 5 6 za (fun _=>c3.nd) (zb (zca 0 za (v0 A) (zc 0 (zc 1 zd))) (zb (zvd (N':=["_law_feed_here","_law_ways","_law_many","_law_far","_law_some_here","_law_way","_law_signs","_law_looks","_law_x","_law_other","_law_row_here","_law_k"]) (f:=[some 0,none,none,none,none,none,none,none,none,none,none,none]) za (fun _=>Blk.of (by kernel_rfl)) (zaa za A.T (zc 1 zd)) (zo 11 (fun _=>zyb (by kernel_rfl))) zsa (ztc (CK.blk za) zg (zhe (CK.blk za) zg (zca 0 (CK.blk za) (v0 A) (zc 0 (zb zg zd)))))) zd)))
  (zh (zzb 7 (N':=["_law_feed_here","_law_ways","_law_many","_law_far","_law_some_here","_law_way","_law_signs","_law_looks","_law_x","_law_other","_law_row_here"]) (f:=[none,none,none,none,none,none,none,none,none,none,none]) za (fun _=>c3.nd) (fun _=>Blk.of (by kernel_rfl)) (zaa za A.T (zc 2 zd)) (zo 8 (fun _=>zyb (by kernel_rfl))) zsa (zlb [] zd))
  (zh (zkc za (fun _=>PassesOwn.never) (zuc za (zj 4)) (zbd za (zu (zo 8 (fun _=>c3.nd)) (zu (zo 9 (fun _=>c3.nd)) (zu (zo 10 (fun _=>c3.nd)) ztb)))) (zwa [8,9,10] (zp (zra (zoe 7 [] za zbb (q_ix za (zj 7) (zj 8)) (zb (zda [9] (zc 9 (zb (zog za (v1 A) (zc 10 (zc 5 (zc 6 zd)))) zd))) zd))))))
  (zh (zkc za (fun _=>PassesOwn.never) (qi_range2 za A.T (zb zg (zc 2 zd))) (zo 8 (fun _=>c3.nd)) (zwa [8] (zp (zra (zoe 7 [] za zbb (q_ix za (zj 7) (zj 8)) (zb (zda [] (zb (zca 0 za (v0 A) (zc 0 (zc 8 zd))) (zb (zca 0 za (v2 A) (zc 0 (zc 1 zd))) zd))) zd))))))
  (zp (zha (zj 7))))))))))) (fun _=>rfl)
theorem v4:Has P W K mg base 3 "_law_free_reads" ["_law_feed_here","_law_ways","_law_many"] (spI K 0 zmd):=
 Def.qi A.d4.to c4 (m:=zfd) (zh (zzb 3 (N':=["_law_feed_here","_law_ways","_law_many","_law_looks","_law_x","_law_k"]) (f:=[none,none,none,none,none,none]) za (fun _=>c4.nd) (fun _=>Blk.of (by kernel_rfl)) (zaa za A.T (zc 2 zd)) (zo 4 (fun _=>zyb (by kernel_rfl))) zsa (zlb [] zd))
  (zh (zkc za (fun _=>PassesOwn.never) (zaa za A.T (zc 2 zd)) (zo 4 (fun _=>c4.nd)) (zwa [4,5] (zp (zkc za (fun _=>PassesOwn.never) (zaa za A.T (zb (zca 0 za (v0 A) (zc 0 (zb zg zd))) zd)) (zo 5 (fun _=>c4.nd)) (zwa [5] (zp (zra (zoe 3 [] za zbb (q_ix za (zj 3) (zj 4)) (zb (zda [] (zb (zca 0 za (v0 A) (zc 0 (zc 2 zd))) (zb (zca 0 za (v2 A) (zc 0 (zc 1 zd))) zd))) zd)))))))))
  (zp (zha (zj 3))))) (fun _=>rfl)
theorem v5:Has P W K mg base 2 "_law_back_row" ["_law_feed_here","_law_ways"] (spI K 0 zdd):=
 Def.qi A.d5.to c5 (m:=zue) (zh (zx 2 (fun _=>c5.nd) (zca 0 za (v0 A) (zc 0 (zc 1 zd))))
  (zh (zzb 3 (N':=["_law_feed_here","_law_ways","_law_at","_law_more","_law_k"]) (f:=[some 0,none,none,none,none]) za (fun _=>c5.nd) (fun _=>Blk.of (by kernel_rfl)) (qi_range2 za A.T (zb (zqa za (zj 2) zg) (zc 1 zd))) (zo 4 (fun _=>zyb (by kernel_rfl))) zsa (q_ix (CK.blk za) (zlb [] (zb zg (zb zg (zb (ztc (CK.blk za) zg zg) (zb zg (zb (ztc (CK.blk za) zg zg) zd)))))) (zca 0 (CK.blk za) (v0 A) (zc 0 (zb zg zd)))))
  (zp (zha (q_ty za b_tuple A.T.b_tuple (zb (zqa za (zqa za (zhe za (zlb [] (zb zg zd)) (zj 2)) (zlb [] (zb (ztc za (ztc za zg zg) (zca 0 za (v0 A) (zc 0 (zb zg zd)))) zd))) (zj 3)) zd)))))) (fun _=>rfl)
theorem v6:Has P W K mg base 3 "_law_late_reads" ["_law_feed_here","_law_ways","_law_many"] (spI K 0 zic):=
 Def.qi A.d6.to c6 (m:=zgd) (zh (zzb 3 (N':=["_law_feed_here","_law_ways","_law_many","_law_looks","_law_x","_law_k"]) (f:=[none,none,none,none,none,none]) za (fun _=>c6.nd) (fun _=>Blk.of (by kernel_rfl)) (zaa za A.T (zc 2 zd)) (zo 4 (fun _=>zyb (by kernel_rfl))) zsa (zlb [] zd))
  (zh (zkc za (fun _=>PassesOwn.never) (zaa za A.T (zc 2 zd)) (zo 4 (fun _=>c6.nd)) (zwa [4,5] (zp (zkc za (fun _=>PassesOwn.never) (zaa za A.T (zb (zqa za zg (zca 0 za (v0 A) (zc 0 (zb zg zd)))) zd)) (zo 5 (fun _=>c6.nd)) (zwa [5] (zp (zub (QW.t (zsk (zma za c_gt (zj 4) zg (nomark _)) (zti (zma za c_eq (zca 0 za (v0 A) (zc 0 (zb zg zd))) zg (nomark _))))) (zp (zra (zoe 3 [] za zbb (q_ix za (zj 3) (zj 4)) (zb (zda [] (zb (zca 0 za (v0 A) (zc 0 (zc 4 zd))) (zb (zhe za (zda [] (zb zg zd)) (zj 1)) zd))) zd)))) (zp (zra (zoe 3 [] za zbb (q_ix za (zj 3) (zj 4)) (zb (zda [] (zb (zca 0 za (v0 A) (zc 0 (zc 2 zd))) (zb (zca 0 za (v5 A) (zc 0 (zc 1 zd))) zd))) zd)))))))))))
  (zp (zha (zj 3))))) (fun _=>rfl)
theorem v7:Has P W K mg base 4 "_law_ring_reads" ["_law_feed_here","_law_ways","_law_many"] (spI K 0 znd):=
 Def.qi A.d7.to c7 (m:=zhd) (zh (zx 3 (fun _=>c7.nd) (zca 0 za (v6 A) (zc 0 (zc 1 (zc 2 zd)))))
  (zh (zx 4 (fun _=>c7.nd) (zqa za zg (zca 0 za (v0 A) (zc 0 (zc 2 zd)))))
  (zh (zx 5 (fun _=>c7.nd) (zhe za (zlb [] (zb zg zd)) (zj 1)))
  (zh (zkc za (fun _=>PassesOwn.never) (zaa za A.T (zc 4 zd)) (zo 6 (fun _=>c7.nd)) (zwa [6,7] (zh (zx 7 (fun _=>c7.nd) (zvd (N':=["_law_feed_here","_law_ways","_law_many","_law_looks","_law_long","_law_rest","_law_k","_law_row_here","_law_j"]) (f:=[some 0,none,none,none,none,none,none,none,none]) za (fun _=>Blk.of (by kernel_rfl)) (zaa za A.T (zc 1 zd)) (zo 8 (fun _=>zyb (by kernel_rfl))) zsa (ztc (CK.blk za) (zca 0 (CK.blk za) (v0 A) (zc 0 (zb zg zd))) zg)))
  (zh (zx 7 (fun _=>c7.nd) (zvd (N':=["_law_feed_here","_law_ways","_law_many","_law_looks","_law_long","_law_rest","_law_k","_law_row_here","_law_j"]) (f:=[none,none,none,none,none,some 5,none,some 7,none]) za (fun _=>Blk.of (by kernel_rfl)) (zaa za A.T (zc 1 zd)) (zo 8 (fun _=>zyb (by kernel_rfl))) zsa (ztc (CK.blk za) (zvb (CK.blk za) b_max A.T.b_max (zb (ztc (CK.blk za) zg zg) (zb (zvb (CK.blk za) b_min A.T.b_min (zb zg (zb (zqa (CK.blk za) (q_ix (CK.blk za) (zj 5) (zj 8)) (q_ix (CK.blk za) (zj 7) (zj 8))) zd))) zd))) (q_ix (CK.blk za) (zj 5) (zj 8)))))
  (zh (zub (zma za c_eq (zqa za (zj 6) zg) (zj 4) (nomark _)) (zp (zx 7 (fun _=>c7.nd) (zvd (N':=["_law_feed_here","_law_ways","_law_many","_law_looks","_law_long","_law_rest","_law_k","_law_row_here","_law_number"]) (f:=[none,none,none,none,none,none,none,none,none]) za (fun _=>Blk.of (by kernel_rfl)) (zuc za (zj 5)) (zo 8 (fun _=>zyb (by kernel_rfl))) zsa (ztc (CK.blk za) zg (zj 8))))) zta)
  (zh (zx 5 (fun _=>c7.nd) (zvd (N':=["_law_feed_here","_law_ways","_law_many","_law_looks","_law_long","_law_rest","_law_k","_law_row_here","_law_j"]) (f:=[none,none,none,none,none,some 5,none,some 7,none]) za (fun _=>Blk.of (by kernel_rfl)) (zaa za A.T (zc 1 zd)) (zo 8 (fun _=>zyb (by kernel_rfl))) zsa (zqa (CK.blk za) (q_ix (CK.blk za) (zj 5) (zj 8)) (q_ix (CK.blk za) (zj 7) (zj 8)))))
  (zp (zra (zoe 3 [] za m_insert (q_ix za (zj 3) (zj 6)) (zb zg (zb (zda [] (zb (zvf za (zqa za (zj 6) zg) (zj 4)) (zb (q_ty za b_tuple A.T.b_tuple (zc 7 zd)) zd))) zd)))))))))))
  (zp (zha (zj 3))))))) (fun _=>rfl)
theorem v8:Has P W K mg base 5 "_law_reads" ["_law_feed_here"] (spI K 0 zwi):=
 Def.qi A.d8.to c8 (m:=zmi) (zh (ztm 1 2 za (fun _=>c8.nd) (zb (zca 0 za (v0 A) (zc 0 (zb zg zd))) (zb (zca 0 za (v0 A) (zc 0 (zb zg zd))) zd)))
  (zh (zx 3 (fun _=>c8.nd) (q_ix za (zlb [] (zb zg (zb zg (zb zg (zb zg (zb zg (zb zg (zb zg (zb zg zd))))))))) (zvf za (zj 2) zg)))
  (zh (zx 4 (fun _=>c8.nd) (zqa za zg (zca 0 za (v0 A) (zc 0 (zb (q_ix za (zlb [] (zb zg (zb zg zd))) (zrk za (zj 2) zg)) zd)))))
  (zh (zub (zma za c_lt (zj 1) zg (nomark _)) (zp (zha (zda [3] (zc 3 (zb (zca 0 za (v4 A) (zc 0 (zc 3 (zc 4 zd)))) zd))))) zta)
  (zh (zub (zma za c_lt (zj 1) zg (nomark _)) (zp (zha (zda [3] (zc 3 (zb (zca 0 za (v6 A) (zc 0 (zc 3 (zc 4 zd)))) zd))))) zta)
  (zh (zub (zma za c_eq (zj 1) zg (nomark _)) (zp (zha (zda [3] (zc 3 (zb (zca 0 za (v7 A) (zc 0 (zc 3 (zc 4 zd)))) zd))))) zta)
  (zh (zx 3 (fun _=>c8.nd) (zvb za b_max A.T.b_max (zb zg (zc 3 zd))))
  (zp (zha (zda [3] (zc 3 (zb (zca 0 za (v3 A) (zc 0 (zc 3 (zb (zvb za b_max A.T.b_max (zc 3 (zb (zvb za b_min A.T.b_min (zc 4 (zb zg zd))) zd))) zd)))) zd)))))))))))) (fun _=>rfl)
theorem v9:Has P W K mg base 2 "_law_names" ["_law_feed_here","_law_many"] (spI K 0 zsg):=
 Def.qi A.d9.to c9 (m:=zli) (zh (zx 2 (fun _=>c9.nd) zhb)
  (zh (zx 3 (fun _=>c9.nd) (q_meth za m_join zhb (zb (zvd (N':=["_law_feed_here","_law_many","_law_letters","_law_stem","_law_first","_law_at","_law_found","_law_k","_law_name"]) (f:=[some 0,none,some 2,none,none,none,none,none,none]) za (fun _=>Blk.of (by kernel_rfl)) (zaa za A.T (zb (zca 0 za (v0 A) (zc 0 (zb zg zd))) zd)) (zo 7 (fun _=>zyb (by kernel_rfl))) zsa (q_ix (CK.blk za) (zj 2) (zca 0 (CK.blk za) (v0 A) (zc 0 (zb zg zd))))) zd)))
  (zh (ztm 4 5 za (fun _=>c9.nd) (zb (zca 0 za (v0 A) (zc 0 (zb zg zd))) (zb (zca 0 za (v0 A) (zc 0 (zb (zqa za (zvb za b_len A.T.b_len (zc 3 zd)) zg) zd))) zd)))
  (zh (zx 6 (fun _=>c9.nd) (zlb [] zd))
  (zh (zkc za (fun _=>PassesOwn.never) (zaa za A.T (zc 1 zd)) (zo 7 (fun _=>c9.nd)) (zwa [7,8] (zh (zx 8 (fun _=>c9.nd) (zqa za (zqa za (q_sl za (zj 3) zie (zje (zj 5))) (q_ix za (zj 2) (zvf za (zqa za (zj 4) (zhe za zg (zj 7))) zg))) (q_sl za (zj 3) (zje (zj 5)) zie)))
  (zh (zub (zma za c_eq (zvf za (zj 7) zg) zg (nomark _)) (zp (zx 8 (fun _=>c9.nd) (zqa za (zj 8) zhb))) zta)
  (zh (zub (zma za c_in (zj 8) (zda [] (zb zhb (zb zhb (zb zhb (zb zhb (zb zhb zd)))))) (by with_unfolding_all rfl)) (zp (zx 8 (fun _=>c9.nd) (zqa za (zj 8) zhb))) zta)
  (zp (zra (zoe 6 [8] za zbb (zj 6) (zc 8 zd)))))))))
  (zp (zha (zj 6)))))))) (fun _=>rfl)
theorem v10:Has P W K mg base 2 "_law_grown" ["_law_feed_here","_law_leaves"] (spI K 0 zrg):=
 Def.qi A.d10.to c10 (m:=zji) (zh (zx 2 (fun _=>c10.nd) (q_ty za b_list A.T.b_list (zc 1 zd)))
  (zh (qs_while (fun _=>PassesOwn.never) (zma za c_gt (zvb za b_len A.T.b_len (zc 2 zd)) zg (nomark _)) (zwa [3,4] (zh (zx 3 (fun _=>c10.nd) (zca 0 za (v0 A) (zc 0 (zb (ztc za (zvb za b_len A.T.b_len (zc 2 zd)) zg) zd))))
  (zp (qs_fgt [3,4] (zub (QW.t (zsk (zma za c_gt (zvb za b_len A.T.b_len (zc 2 zd)) zg (nomark _)) (zti (zma za c_eq (zca 0 za (v0 A) (zc 0 (zb zg zd))) zg (nomark _))))) (zh (zx 3 (fun _=>c10.nd) (zvb za b_min A.T.b_min (zc 3 (zb (ztc za (zvb za b_len A.T.b_len (zc 2 zd)) zg) zd))))
  (zp (zpg (zlb [] (zb (zda [] (zb zhb (zb (q_ix za (zj 2) (zj 3)) (zb (q_ix za (zj 2) (zqa za (zj 3) zg)) (zb (q_ix za (zj 2) (zqa za (zj 3) zg)) zd))))) zd)) (qg_subsl 2 (zj 2) (zj 3) (zqa za (zj 3) zg))))) (zh (zx 4 (fun _=>c10.nd) (q_ix za (zlb [] (zb zhb (zb zhb (zb zhb (zb zhb (zb zhb (zb zhb (zb zhb zd)))))))) (zca 0 za (v0 A) (zc 0 (zb zg zd)))))
  (zp (zpg (zlb [] (zb (zda [4] (zb zhb (zc 4 (zb (q_ix za (zj 2) (zj 3)) (zb (q_ix za (zj 2) (zqa za (zj 3) zg)) zd))))) zd)) (qg_subsl 2 (zj 2) (zj 3) (zqa za (zj 3) zg)))))))))))
  (zp (zha (q_ix za (zj 2) zg))))) (fun _=>rfl)
theorem v11:Has P W K mg base 6 "_law_house" ["_law_feed_here"] (spI K 0 zui):=
 Def.qi A.d11.to c11 (m:=zki) (zh (zpg (zca 0 za (v8 A) (zc 0 zd)) (zbd za (zu (zo 1 (fun _=>c11.nd)) (zu (zo 2 (fun _=>c11.nd)) ztb))))
  (zh (zx 3 (fun _=>c11.nd) (q_ix za (zlb [] (zb (zqa za zg (zca 0 za (v0 A) (zc 0 (zb zg zd)))) (zb (zqa za zg (zca 0 za (v0 A) (zc 0 (zb zg zd)))) (zb (ztc za zg (zca 0 za (v0 A) (zc 0 (zb zg zd)))) zd)))) (zca 0 za (v0 A) (zc 0 (zb zg zd)))))
  (zh (zx 4 (fun _=>c11.nd) (zca 0 za (v9 A) (zc 0 (zb (zvb za b_len A.T.b_len (zc 2 zd)) zd))))
  (zh (zx 5 (fun _=>c11.nd) (zlb [] zd))
  (zh (zkc za (fun _=>PassesOwn.never) (zaa za A.T (zb (zvb za b_len A.T.b_len (zc 2 zd)) zd)) (zo 6 (fun _=>c11.nd)) (zwa [6,7,8,9] (zh (zzb 7 (N':=["_law_feed_here","_law_ways","_law_looks","_law_wheel","_law_names_here","_law_desks","_law_x","_law_leaves","_law_k","_law_number","_law_other","_law_row_here"]) (f:=[none,none,none,none,some 4,none,none,none,none,none,none,none]) za (fun _=>c11.nd) (fun _=>Blk.of (by kernel_rfl)) (zuc za (q_sl za (q_ix za (zj 2) (zj 6)) zie (zje (zrk za zg (zvb za b_len A.T.b_len (zc 2 zd)))))) (zbd (CK.blk za) (zu (zo 10 (fun _=>zyb (by kernel_rfl))) (zu (zo 11 (fun _=>zyb (by kernel_rfl))) ztb))) zsa (zda [11] (zb zhb (zb (q_ix (CK.blk za) (zj 4) (zj 10)) (zc 11 zd)))))
  (zh (zkc za (fun _=>PassesOwn.never) (zaa za A.T (zb (zqa za (zca 0 za (v0 A) (zc 0 (zb zg zd))) (q_ty za b_int A.T.b_int (zb (zdn za c_eq (zj 7) (zlb [] zd) (nomark _)) zd))) zd)) (zo 8 (fun _=>c11.nd)) (zwa [8,9] (zh (zx 9 (fun _=>c11.nd) (zca 0 za (v0 A) (zc 0 (zb (q_ix za (zlb [] (zb zg (zb zg zd))) (zca 0 za (v0 A) (zc 0 (zb zg zd)))) zd))))
  (zp (zra (zoe 7 [] za m_insert (zj 7) (zb (zca 0 za (v0 A) (zc 0 (zb (zqa za (zvb za b_len A.T.b_len (zc 7 zd)) zg) zd))) (zb (zda [9] (zb zhb (zc 9 zd))) zd))))))))
  (zp (zra (zoe 5 [] za zbb (zj 5) (zb (zda [] (zb (q_ix za (zj 4) (zj 6)) (zb (zca 0 za (v10 A) (zc 0 (zc 7 zd))) zd))) zd))))))))
  (zp (zha (zda [1,3] (zc 1 (zc 3 (zb (q_ty za b_tuple A.T.b_tuple (zc 5 zd)) zd))))))))))) (fun _=>rfl)
theorem v12:Has P W K mg base 3 "_law_full" ["_law_feed_here","_law_more"] (spI K 0 zak):=
 Def.qi A.d12.to c12 (m:=ztj) (zh (zx 2 (fun _=>c12.nd) (zca 0 za (v9 A) (zc 0 (zb zg zd))))
  (zh (zpg (zda [] (zb (zca 0 za (v0 A) (zc 0 (zb zg zd))) (zb (ztc za zg (zhe za zg (zca 0 za (v0 A) (zc 0 (zb zg zd))))) zd))) (zbd za (zu (zo 3 (fun _=>c12.nd)) (zu (zo 4 (fun _=>c12.nd)) ztb))))
  (zh (zx 5 (fun _=>c12.nd) (zlb [] zd))
  (zh (zkc za (fun _=>PassesOwn.never) (zaa za A.T (zb zg zd)) (zo 6 (fun _=>c12.nd)) (zwa [6,7] (zh (zzb 7 (N':=["_law_feed_here","_law_more","_law_names_here","_law_at","_law_sign","_law_desks","_law_x","_law_leaves","_law_k"]) (f:=[none,none,some 2,none,some 4,none,some 6,none,none]) za (fun _=>c12.nd) (fun _=>Blk.of (by kernel_rfl)) (zaa za A.T (zb (zqa za zg (zhe za (zj 1) (q_ty za b_int A.T.b_int (zb (zdn za c_eq (zj 6) (zj 3) (nomark _)) zd)))) zd)) (zo 8 (fun _=>zyb (by kernel_rfl))) zsa (zda [] (zb zhb (zb (q_ix (CK.blk za) (zj 2) (zvf (CK.blk za) (zj 8) zg)) (zb (zda [] (zb (zqa (CK.blk za) (zhe (CK.blk za) (zj 4) (zrk (CK.blk za) (zj 8) zg)) (zj 6)) zd)) zd)))))
  (zp (zra (zoe 5 [] za zbb (zj 5) (zb (zda [] (zb (q_ix za (zj 2) (zj 6)) (zb (zca 0 za (v10 A) (zc 0 (zc 7 zd))) zd))) zd)))))))
  (zp (zha (zda [] (zb zg (zb (zqa za zg (zca 0 za (v0 A) (zc 0 (zb zg zd)))) (zb (q_ty za b_tuple A.T.b_tuple (zc 5 zd)) zd)))))))))) (fun _=>rfl)
theorem v13:∀ n,Has P W K mg base (1+n) "_law_led" ["_law_rule","_law_times"] (spP K (zvi n))
 | 0=>Def.qp A.d13.to c13 (m:=ztd) qss_never (fun _=>rfl)
 | n+1=>by
  have h_l_led:=v13 n
  exact Def.qp (k:=1+n) A.d13.to c13 (m:=zgl (zvi n)) (zh (zub (zma za c_eq (q_ix za (zj 0) zg) zhb (nomark _)) (zp (zha (zj 0))) zta)
  (zh (zub (zma za c_eq (q_ix za (zj 0) zg) zhb (nomark _)) (zp (zha (zda [] (zb zhb (zb (q_ix za (zj 0) zg) (zb (q_ty za b_tuple A.T.b_tuple (zb (zvd (N':=["_law_rule","_law_times","_law_begun","_law_one"]) (f:=[none,some 1,none,none]) za (fun _=>Blk.of (by kernel_rfl)) (zuc za (q_ix za (zj 0) zg)) (zo 3 (fun _=>zyb (by kernel_rfl))) zsa (zhe (CK.blk za) (zj 1) (zj 3))) zd)) zd)))))) zta)
  (zh (zx 2 (fun _=>c13.nd) (zqa za zg (q_ty za b_int A.T.b_int (zb (zdn za c_eq (q_ix za (zj 0) zg) zhb (nomark _)) zd))))
  (zp (zha (zqa za (q_sl za (zj 0) zie (zje (zj 2))) (q_ty za b_tuple A.T.b_tuple (zb (zvd (N':=["_law_rule","_law_times","_law_begun","_law_part"]) (f:=[none,some 1,none,none]) za (fun _=>Blk.of (by kernel_rfl)) (zuc za (q_sl za (zj 0) (zje (zj 2)) zie)) (zo 3 (fun _=>zyb (by kernel_rfl))) zsa (zog (CK.blk za) h_l_led (zc 3 (zc 1 zd)))) zd)))))))) (fun _=>rfl)
theorem v14:Has P W K mg base 26 "_law_some" ["_law_feed_here"] (spI K 0 zck):=
 Def.qi A.d14.to c14 (m:=zuj) (zh (zpg (zda [] (zb (zca 0 za (v0 A) (zc 0 (zb zg zd))) (zb (zca 0 za (v0 A) (zc 0 (zb (zqa za (zqn za zg zg) zg) zd))) zd))) (zbd za (zu (zo 1 (fun _=>c14.nd)) (zu (zo 2 (fun _=>c14.nd)) ztb))))
  (zh (zpg (zca 0 za (v11 A) (zc 0 zd)) (zbd za (zu (zo 3 (fun _=>c14.nd)) (zu (zo 4 (fun _=>c14.nd)) (zu (zo 5 (fun _=>c14.nd)) ztb)))))
  (zh (zx 6 (fun _=>c14.nd) (zlb [] (zb (zda [3,4,5] (zc 3 (zc 4 (zc 5 zd)))) (zb (zda [3,5] (zc 3 (zb (q_ix za (zlb [] (zb zg (zb zg zd))) (zvf za (zj 1) zg)) (zc 5 zd)))) zd))))
  (zh (zra (zoe 6 [] za zbb (zj 6) (zb (zda [3,4] (zc 3 (zc 4 (zb (q_ty za b_tuple A.T.b_tuple (zb (zvd (N':=["_law_feed_here","_law_form","_law_times","_law_ways","_law_wheel","_law_desks","_law_found","_law_name","_law_rule"]) (f:=[none,none,some 2,none,none,none,none,none,none]) za (fun _=>Blk.of (by kernel_rfl)) (zuc za (zj 5)) (zbd (CK.blk za) (zu (zo 7 (fun _=>zyb (by kernel_rfl))) (zu (zo 8 (fun _=>zyb (by kernel_rfl))) ztb))) zsa (zda [7] (zc 7 (zb (zog (CK.blk za) (v13 A 24) (zc 8 (zc 2 zd))) zd)))) zd)) zd)))) zd)))
  (zh (zra (zoe 6 [] za zbb (zj 6) (zb (zda [3,4] (zc 3 (zc 4 (zb (q_ty za b_tuple A.T.b_tuple (zb (zvd (N':=["_law_feed_here","_law_form","_law_times","_law_ways","_law_wheel","_law_desks","_law_found","_law_name","_law_rule"]) (f:=[none,none,none,none,none,none,none,none,none]) za (fun _=>Blk.of (by kernel_rfl)) (zuc za (zj 5)) (zbd (CK.blk za) (zu (zo 7 (fun _=>zyb (by kernel_rfl))) (zu (zo 8 (fun _=>zyb (by kernel_rfl))) ztb))) zsa (zda [7] (zc 7 (zb (zda [8,8] (zb zhb (zb zhb (zc 8 (zc 8 zd))))) zd)))) zd)) zd)))) zd)))
  (zp (zha (zqa za (zj 6) (zlb [] (zb (zca 0 za (v12 A) (zc 0 (zb zg zd))) zd)))))))))) (fun _=>rfl)
theorem v15:Has P W K mg base 1 "look_frame" ["ways","wheel","desks"] (spP K zpd):=
 Def.qp A.d15.to c15 (m:=zkd) (zh (zub (zkj (zqg za c_le c_le zg (zj 0) (zze za A.G.g_MOST_WAYS rfl))) (zp zcd) zta)
  (zh (zub (zkj (zqg za c_le c_le (zze za A.G.g_LEAST_WHEEL rfl) (zj 1) (zze za A.G.g_MOST_WHEEL rfl))) (zp zcd) zta)
  (zp (zub (zkj (zqg za c_le c_le zg (zvb za b_len A.T.b_len (zc 2 zd)) (zze za A.G.g_MOST_DESKS rfl))) (zp zcd) zta)))) (fun _=>rfl)
theorem v16:Has P W K mg base 1 "inner_parts" ["part"] (spP K zvc):=
 Def.qp A.d16.to c16 (m:=zqc) (zh (zub (zma za c_eq (q_ix za (zj 0) zg) zhb (nomark _)) (zp (zha (q_sl za (zj 0) (zje zg) zie))) zta)
  (zh (zub (zma za c_eq (q_ix za (zj 0) zg) zhb (nomark _)) (zp (zha (q_sl za (zj 0) (zje zg) zie))) zta)
  (zp (zha (zda [] zd))))) (fun _=>rfl)
theorem v17:Has P W K mg base 2 "parts_of" ["rule"] (spP K zed):=
 Def.qp A.d17.to c17 (m:=zve) (zh (zx 1 (fun _=>c17.nd) (zlb [] zd))
  (zh (zx 2 (fun _=>c17.nd) (zlb [0] (zc 0 zd)))
  (zh (qs_while (fun _=>PassesOwn.never) (qt_tru za (zj 2)) (zwa [3] (zh (zx 3 (fun _=>c17.nd) (q_mut0 2 za m_pop (zj 2)))
  (zh (zra (zoe 1 [3] za zbb (zj 1) (zc 3 zd)))
  (zp (zra (zoe 2 [] za m_extend (zj 2) (zb (q_rev za (zog za (v16 A) (zc 3 zd))) zd))))))))
  (zp (zha (zj 1)))))) (fun _=>rfl)
theorem v18:Has P W K mg base 3 "look_rule" ["name","rule","names","ways"] (spP K zke):=
 Def.qp A.d18.to c18 (m:=zce) (zp (zkc za (fun _=>PassesOwn.never) (zuc za (zog za (v17 A) (zc 1 zd))) (zo 4 (fun _=>c18.nd)) (zwa [4] (zh (zub (QW.t (zsk (zma za c_eq (q_ix za (zj 4) zg) zhb (nomark _)) (zti (zkj (zqg za c_le c_le zg (q_ix za (zj 4) zg) (zze za A.G.g_MOST_NUMBER rfl)))))) (zp zcd) zta)
  (zh (zub (QW.t (zsk (zma za c_eq (q_ix za (zj 4) zg) zhb (nomark _)) (zti (zma za c_nin (q_ix za (zj 4) zg) (zj 2) (by with_unfolding_all rfl))))) (zp zcd) zta)
  (zp (zub (QW.t (zsk (zma za c_eq (q_ix za (zj 4) zg) zhb (nomark _)) (zti (zma za c_ne (zvb za b_len A.T.b_len (zb (q_ix za (zj 4) zg) zd)) (zj 3) (nomark _))))) (zp zcd) zta))))))) (fun _=>rfl)
theorem v19:Has P W K mg base 3 "reads" ["rule"] (spP K zxi):=
 Def.qp A.d19.to c19 (m:=zni) (zp (zha (q_ty za b_tuple A.T.b_tuple (zb (zvd (N':=["rule","part"]) (f:=[none,none]) za (fun _=>Blk.of (by kernel_rfl)) (zuc za (zog za (v17 A) (zc 0 zd))) (zo 1 (fun _=>zyb (by kernel_rfl))) (qts_one (zma (CK.blk za) c_eq (q_ix (CK.blk za) (zj 1) zg) zhb (nomark _))) (zda [] (zb (q_ix (CK.blk za) (zj 1) zg) (zb (q_ix (CK.blk za) (zj 1) zg) zd)))) zd)))) (fun _=>rfl)
theorem v20:Has P W K mg base 4 "desk_steps" ["name","rule"] (spP K zod):=
 Def.qp A.d20.to c20 (m:=zjd) (zh (zx 2 (fun _=>c20.nd) (zlb [] zd))
  (zh (zkc za (fun _=>PassesOwn.never) (zuc za (zog za (v19 A) (zc 1 zd))) (zbd za (zu (zo 3 (fun _=>c20.nd)) (zu (zo 4 (fun _=>c20.nd)) ztb))) (zwa [3,4,5] (zh (zx 5 (fun _=>c20.nd) (zda [0,3,4] (zc 0 (zc 3 (zc 4 zd)))))
  (zp (zub (zma za c_nin (zj 5) (zj 2) (by with_unfolding_all rfl)) (zp (zra (zoe 2 [5] za zbb (zj 2) (zc 5 zd)))) zta)))))
  (zp (zha (zj 2))))) (fun _=>rfl)
theorem v21:Has P W K mg base 5 "steps_of" ["house"] (spP K zaf):=
 Def.qp A.d21.to c21 (m:=zwe) (zp (zha (q_ty za b_tuple A.T.b_tuple (zb (q_comp2 (N':=["house","name","rule","step"]) (f:=[none,none,none,none]) (f2:=[some 0,some 1,some 2,none]) za (fun _=>Blk.of (by kernel_rfl)) (by decide) (zuc za (q_ix za (zj 0) zg)) (zbd (CK.blk za) (zu (zo 1 (fun _=>zyb (by kernel_rfl))) (zu (zo 2 (fun _=>zyb (by kernel_rfl))) ztb))) (zuc (CK.blk za) (zog (CK.blk za) (v20 A) (zc 1 (zc 2 zd)))) (zo 3 (fun _=>zyb (by kernel_rfl))) zsa (zj 3)) zd)))) (fun _=>rfl)
theorem v22:Has P W K mg base 1 "is_name" ["text"] (spP K zxf):=
 Def.qp A.d22.to c22 (m:=zuf) (zh (zub (QW.t (qw_or (zkj (zqg za c_le c_le zg (zvb za b_len A.T.b_len (zc 0 zd)) (zze za A.G.g_LONGEST_NAME rfl))) (qw_or1 (zma za c_in (zj 0) (q_globTT za A.G.g_NO_NAMES) (by with_unfolding_all rfl))))) (zp (zha q_bl)) zta)
  (zp (zha (zvb za b_all A.T.b_all (zb (zvd (N':=["text","sign"]) (f:=[none,none]) za (fun _=>Blk.of (by kernel_rfl)) (zuc za (zj 0)) (zo 1 (fun _=>zyb (by kernel_rfl))) zsa (zdn (CK.blk za) c_in (zj 1) (zze (CK.blk za) A.G.g_LETTERS rfl) (by with_unfolding_all rfl))) zd))))) (fun _=>rfl)
theorem v23:Has P W K mg base 6 "look_house" ["house"] (spP K zqd):=
 Def.qp A.d23.to c23 (m:=zld) (zh (zpg (zj 0) (zbd za (zu (zo 1 (fun _=>c23.nd)) (zu (zo 2 (fun _=>c23.nd)) (zu (zo 3 (fun _=>c23.nd)) ztb)))))
  (zh (zra (zog za (v15 A) (zc 1 (zc 2 (zc 3 zd)))))
  (zh (zzb 4 (N':=["house","ways","wheel","desks","names","at","name","rule"]) (f:=[none,none,none,none,none,none,none,none]) za (fun _=>c23.nd) (fun _=>Blk.of (by kernel_rfl)) (zuc za (zj 3)) (zbd (CK.blk za) (zu (zo 6 (fun _=>zyb (by kernel_rfl))) (zu (zo 7 (fun _=>zyb (by kernel_rfl))) ztb))) zsa (zj 6))
  (zh (zkc za (fun _=>PassesOwn.never) (qi_enum za A.T (zc 3 zd)) (zbd za (zu (zo 5 (fun _=>c23.nd)) (zu (zbd za (zu (zo 6 (fun _=>c23.nd)) (zu (zo 7 (fun _=>c23.nd)) ztb))) ztb))) (zwa [5,6,7] (zh (zub (QW.t (qw_or (zkj (qt_val (zog za (v22 A) (zc 6 zd)))) (qw_or1 (zma za c_in (zj 6) (q_sl za (zj 4) zie (zje (zj 5))) (by with_unfolding_all rfl))))) (zp zcd) zta)
  (zp (zra (zog za (v18 A) (zc 6 (zc 7 (zc 4 (zc 1 zd))))))))))
  (zh (zub (zma za c_gt (zvb za b_len A.T.b_len (zb (zog za (v21 A) (zc 0 zd)) zd)) (zze za A.G.g_MOST_STEPS rfl) (nomark _)) (zp zcd) zta)
  (zp (zha q_bl))))))) (fun _=>rfl)
theorem v24:Has P W K mg base 1 "_law_feed" ["_law_script","_law_k"] (spP K zzj):=
 Def.qp A.d24.to c24 (m:=zsj) (zh (zx 2 (fun _=>c24.nd) (zqa za (zhe za zg (zj 1)) zg))
  (zh (zub (zma za c_lt (zj 1) (zvb za b_len A.T.b_len (zc 0 zd)) (nomark _)) (zp (zx 2 (fun _=>c24.nd) (q_ix za (zj 0) (zj 1)))) (zp (zub (zma za c_gt (zvb za b_len A.T.b_len (zc 0 zd)) zg (nomark _)) (zp (zx 2 (fun _=>c24.nd) (zqa za (zhe za (zvf za (q_ix za (zj 0) (zvf za (zj 1) (zvb za b_len A.T.b_len (zc 0 zd)))) zg) zg) (zhe za zg (zj 1))))) zta)))
  (zh (zx 3 (fun _=>c24.nd) zg)
  (zh (zub (zma za c_ge (zj 2) (zqn za zg zg) (nomark _)) (zp (zx 3 (fun _=>c24.nd) (zj 2))) zta)
  (zp (zha (zlb [3] (zc 3 (zb (zqa za (zvf za (zqn za (zqa za (zhe za (zvf za (zj 2) zg) zg) (zhe za zg (zj 1))) zg) zg) zg) zd))))))))) (fun _=>rfl)
theorem v25:Has P W K mg base 27 "law" ["_law_script"] (spP K r_l_law):=
 Def.qp A.d25.to c25 (m:=zfl) (zh (zx 1 (fun _=>c25.nd) (zlb [] zd))
  (zh (zkc za (fun _=>PassesOwn.never) (zaa za A.T (zb (zvb za b_max A.T.b_max (zb zg (zb (zvb za b_min A.T.b_min (zb (zvb za b_len A.T.b_len (zc 0 zd)) (zb zg zd))) zd))) zd)) (zo 2 (fun _=>c25.nd)) (zwa [2] (zp (zra (zoe 1 [] za m_extend (zj 1) (zb (q_fnT za (v14 A) (zb (zog za (v24 A) (zc 0 (zc 2 zd))) zd)) zd))))))
  (zh (zkc za (fun _=>PassesOwn.never) (zuc za (zqa za (zj 1) (q_sl za (zj 1) zie (zje zg)))) (zo 3 (fun _=>c25.nd)) (zwa [3] (zp (zub (zma za c_nis (zog za (v23 A) (zc 3 zd)) q_bl (nomark _)) (zp (zha q_bl)) zta))))
  (zp (zha q_bl))))) (fun _=>rfl)
end
end K04
open PySem PySem.W PyProof.Rows
set_option maxRecDepth 100000 in
set_option maxHeartbeats 0 in
theorem PySem.Challenge.cw_clockhouse_k04_houses_let_by_holds : PySem.Challenge.rw_clockhouse_k04_houses_let_by.Holds := by
 refine holds_law (by kernel_rfl) fun said=>?_
 refine holds_open (q:=K04.KQ) (loose:=K04.KL) (XP:=XL K04.KQ []) (YP:=K04.KH.says) K04.left K04.KH.of K04.KH.keeps (fun s e=>xl_of s (Bool.and_eq_true_iff.mp e).1) XL.keeps (by rfl) (by rfl) (by rfl) (fun s e=>recFacts_of (Bool.and_eq_true_iff.mp e).2) (by rfl) said (by kernel_rfl) ⟨rfl,rfl,rfl,rfl,rfl,by decide +kernel⟩ ?hw ?hc
 case hw=>w_witness2
 exact L2.walkP (l:=PySem.Challenge.rw_clockhouse_k04_houses_let_by) (k:=27) (x:="_law_script") (st:=K04.s_law) (run:=L2.r_l_law) (A:=K04.Adr) (K:=K04.KF) rfl rfl ⟨rfl,by decide,by decide⟩ (fun w h Y=>Y) K04.adr0 K04.adr_less (fun mg K A=>A.d25.to) (fun _ _ _ _ _ _ s v=>.of_eq rfl) (fun w mg K base A=>K04.v25 A) (fun ns hn=>by obtain⟨t,h1,h2⟩:=L2.k04_law (ns:=ns) hn;rw [h1,h2])
#print axioms PySem.Challenge.cw_clockhouse_k04_houses_let_by_holds
